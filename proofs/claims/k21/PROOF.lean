import PyProof.Rows.All
import Wide.All
import OpenK.AllK
import Wide.FinOn
import OpenK.KLine
import Lean
import PyProof.EqAt
import PyProof.EqKinds
import PyProof.TupleCall
import PyProof.Rows.SortShell
import PyProof.Rows.SortWalk
import PyProof.CompFree
import PyProof.Rows.SortRuns
import PyProof.EqLayable
import PyProof.NeData
import PyProof.P3In
import PyProof.ZipIter
import PyProof.EnumMake
import PyProof.EnumFor
import PyProof.Rows.Range3
import PyProof.AttrMissSeq
import KE.KDictOf
import KE.KTryMore
import PyProof.NsDelKeeps
import PyProof.ExcBaseAll.ValueError
import PyProof.Rows.SeqMore
import PyProof.ConsumeWalk
import PyProof.Rows.SeqMore2
import PyProof.Rows.CountFlat
import KE.IntBitsLaws
import PySem.Challenge.RW_archrow_k21_sets_with_a_tie
set_option Elab.async false
set_option linter.all false
set_option maxRecDepth 100000
set_option maxHeartbeats 4000000
set_option compiler.extract_closed false
open PySem renaming Value->UK,Shared->UL,wpAny_bind->UM,Program->UP,starEach->US,sizeLine->UW,World->U1,wpAny_pure->U6,wpAny->Vp,FuncData->Vs,bootBuiltins->VJ,foldedSetIterable->VM,Around->VO,compareOp->VQ,backTo->V6,sizeLine_eq->Wd,swapsWith->Wf,mainGlobals->Wh,wpAny_truthy_bool->Wk,binaryOp->Wq,wpAny_holding->Wx,sysModules->Wy,attributeBase->Wz,wpAny_typeNameOfWhole_keyiter->WG,sliceBounds->WH,assignEach->WI,wpAny_passesOwn->WM,behindInMarks->WN,wpAny_typeNameOf_keyiter->W_,wpAny_standAt->Xa,Comprehension->Xf,wpAny_loadPart'->Xh,Keyword->Xi,Builtin->Xj,wpAny_mono->Xl,Scope->Xp,wpAny_rule->XE,DictEntry->XH,keywordEach->XJ,NameKind->XN,wpAny_execs_nil->XQ,CmpOp->XZ,codeAny_mono->X0,wpAny_Call_Name_kw->X5,call_meets->X6,cLine->X7,wpAny_newObj_type->X_,wpAny_attempt->Yd,arm_evalThenUse_ListComp->Yg,wpAny_call_entry->Yk,codeAny->Yn,letOwnedTupleGo->Yp,backToKw->Yu,Params->Yv,tupleKind->Yy,wpAny_call->YE,wpAny_dictEntries->YI,valueAt->YJ,slot_list_getitem->YK,callerA->YL,treeTable->YR,PassesOwn->YS,evalThenUse->YV,Model->YW,IsRangeIter->YX,wpAny_dictEpoch->YY,standAt->Y4,pyNext->Y5,pyIter->Y6,atKey->Y8
open List renaming length_map->UN,mem_cons->UQ,mem_cons_of_mem->UU,mem_singleton->UX,mem_cons_self->UY,getElem?_eq_some_iff->U0,length_cons->U7,getElem?_map->U8,map_append->Vb,size_toArray->Vc,map_cons->Vd,replicate->Vg,getElem?_eq_getElem->Vh,mem_filter->Vk,mem_append->Vl,length_append->Vr,nodup_cons->Vt,mem_append_right->Vu,mem_map->Vv,mem_of_getElem?->Vx,range->Vy,map_map->VB,append_assoc->VC,length_filter_le->VD,length_take->VH,pairwise_cons->VP,map_congr_left->VR,append_nil->VT,getElem?_append_right->VU,nodup_append->VV,drop_eq_getElem_cons->VW,nodup_nil->VY,take_add_one->V0,length_range->V1,lookup_cons->V3,filterMap_cons->V4,filter_append->V7,mem_range->V_,replicate_succ->Wa,find?_cons->We,mem_append_left->Wi,pairwise_map->Wl,filter_cons_of_neg->Wm,take_of_length_le->Wr,all_eq_true->Ws,zip_cons_cons->Wt,getElem?_append_left->Wv,getElem?_set->Ww,getElem?_range->WA,take_length->WC,not_mem_nil->WD,filter_cons_of_pos->WE,take_append_drop->WQ,length_singleton->WR,getElem?_eq_none->WS,flatten_cons->WV,ext_getElem?->WW,pairwise_append->W4,mem_map_of_mem->W8,filter_sublist->W9,sum_cons->Xe,set_set->Xw,reverse_cons->Xx,filter_cons->XG,reverse_reverse->XO,sum_append->XU,length_nil->XW,foldl_cons->XX,length_reverse->XY,map_nil->X3,filter_filter->X8,zip_nil_left->Yb,pairwise_singleton->Yl,cons_append->Ym,drop_of_length_le->Yo,of_mem_zip->Yr,getElem?_set_ne->Yw,reverse_append->YA,any_cons->YD,mem_filterMap->YG,filter_congr->YQ,getElem_mem->YT,pairwise_iff_getElem->Zc
open Nat renaming le_refl->UO,zero_le->U4,lt_of_lt_of_le->Vn,le_trans->Vq,ne_of_lt->VN,zero_add->V8,add_zero->V9,lt_or_ge->WJ,lt_irrefl->WO,one_mul->Xq,mul_le_mul->Xv,mul_assoc->XI,add_mul->XM,strongRecOn->XS,min_le_left->XT,sub_self->X2,add_assoc->Yi,lt_of_le_of_lt->YF,mul_left_comm->YN,mul_comm->YO
open PyProof.Rows renaming Keyed->UR,wpS_bind->UT,wpS_pure->UZ,pendingOf->U9,SortSt->Vi,arrOf->Vo,wpS_forRange->VL,setArr->VZ,wpS_mono->Wg,IntsAre->WK,callWith_type1->WT,wpS_modify->WZ,SortKind->Xb,seqObj->Xm,failedOf->Xs,setPending->XF,wpS_get->X9,AllBare->Yc,envOfC->Ye,wpS_lift->Yt
open Option renaming map_eq_some_iff->U3,bind_eq_some_iff->Vf,bind_some->WB,map_some->Yq
open PySem.Heap renaming get?_push_of_some->U5,lt_size->U_,get?_push_size->VF,FlyingW->Xz,SameBut->X4
open Array renaming getElem?_toList->Ve,length_toList->Vj,toList_append->Wc,toList_push->WX,getD_eq_getD_getElem?->WY,perm_iff_toList_perm->W6,getElem?_eq_none->XD,toList_zip->YU,size_zip->Za,mk->Zb
open Bool renaming and_eq_true_iff->Vm,and_eq_true->VI,false_ne_true->VX,and_false->Wj,eq_false_iff->Wo,false_eq_true->WL,false_and->W5,not_eq_true'->XB,not_eq_false'->YH,or_eq_true->Y2
open Decidable renaming by_contra->Vw
open PySem.SeqAt renaming canLay_of_shaped->Vz
open PySem.NameKind renaming free->VA,cell->Xd
open Option.some renaming inj->VE
open PySem.PyData renaming eqv->VG,depthAll->V2,canLay0->V5,canLayAll0->WU,depth->Xu,eqvAll->Yh
open PySem.PassesOwn renaming never->VS
open False renaming elim->Wu
open PySem.Obj renaming mapSeq->W3
open Ne renaming symm->W7
open PySem.Builtin.List renaming listTooLong->Xg
open True renaming intro->Xn
open PySem.W renaming boot_heap->Xo,boot_drawn->Y7
open PySem.Builtin.Range renaming rangeSize->Xr
open Int renaming toNat_natCast->Xy,toNat_of_nonneg->YB,natCast_mul->Y0
open Nat.succ renaming inj->X1
open PySem.Code renaming compLoop->Yj,compStart->Y9
open ForInStep renaming yield->Ys
open List.Pairwise renaming filter->Yx
open Sum renaming inl->Yz,inr->YM
open PySem.Value renaming builtin->YC
open List.Perm renaming of_eq->YZ
open PySem.Builtin.Dict_items renaming ownsTuple->Y1
open Array.Perm renaming refl->Y3
open PySem.Calls renaming Name_function_global->Y_
noncomputable section
namespace L2
open PySem PySem.Spec PyProof.Rows
def kn (s:Stmt):Arguments:=match s with
 |.FunctionDef _ a _ _ _ _ _ _ _ _=>a
 |_=>{posonlyargs:=[],args:=[],vararg:=none,kwonlyargs:=[],kw_defaults:=[],kwarg:=none,defaults:=[]}
def dk (s:Stmt):List Stmt:=match s with
 |.FunctionDef _ _ b _ _ _ _ _ _ _=>b
 |_=>[]
def ak (s:Stmt):Xp:=match s with
 |.FunctionDef _ _ _ _ _ _ sc _ _ _=>sc
 |_=>{kind:=.function,names:=[],isGenerator:=false,isCoroutine:=false}
end L2
namespace L2.Hd
open PySem PySem.W PySem.Spec PyProof.Rows
def h_ (tb:String->Option Xj)(p:UP)(w:U1)(n₀:Nat)(ann:Option UK):Nat->SharedT->Thread->Option SharedT
 |0,_,_=>none
 |n+1,s,t=>match through t with
  |true=>some s
  |false=>match stepOk n₀ ann t with
   |false=>none
   |true=>match stepT (denote tb) p w s t with
    |some (s',t')=>h_ tb p w n₀ ann n s' t'
    |none=>none
theorem kO {tb:String->Option Xj}{p:UP}{w:U1}{n₀:Nat}{ann:Option UK}:∀{n:Nat} {s s':SharedT} {t:Thread},h_ tb p w n₀ ann n s t=some s'->topRun tb p w n₀ ann n s.abs t=some s'.abs
 |0,_,_,_,g=>by cases g
 |n+1,s,s',t,g=>by
  unfold h_ at g;unfold topRun;cases ht:through t with
  |true=>rw[ht]at g;cases g;rfl
  |false =>
   rw[ht]at g;cases hk:stepOk n₀ ann t with
   |false=>rw[hk]at g;cases g
   |true =>
    rw[hk]at g;cases hq:stepT (denote tb) p w s t with
    |none=>rw[hq]at g;cases g
    |some r=>obtain⟨s₂,t₂⟩:=r;rw[hq]at g;dsimp only;rw[stepT_spec hq];exact kO g
noncomputable def LH (P:Yv):BT:=((Xo P).objs.toList.foldl (λ(x:BT×Nat) o=>(x.1.ins x.2 o,x.2+1)) (.nil,0)).1
noncomputable def AI (w:U1)(os:OsState):SharedT:=⟨LH w.params,11,(Xo w.params).life,Zb [],Y7,boot_toks,os⟩
theorem boot_abs (w:U1)(os:OsState):(AI w os).abs=⟨Xo w.params,Zb [],Y7,boot_toks,os⟩:=by kernel_rfl
theorem DH (P:Yv):((Xo P).isNs Wh&&((Zb []:Array GenState).size==0))=true:=by kernel_rfl
theorem xo (P:Yv):(Xo P).objs.size=11:=by kernel_rfl
theorem AH (P:Yv):(Xo P).nsMap Wh "__annotations__" = some (.ref 6):=by kernel_rfl
def ends (p:UP)(h0:Heap)(s₁:UL):Option UL:=match staticsOk (importedModules p.main.body) h0 s₁.heap&&namesBound p s₁.heap&&gensDone s₁&&laidKept h0 s₁.heap with
 |true=>some s₁
 |false=>none
theorem wB {p q:UP}{loose:List Str}{Xt:UL->Bool}{α:Type}{Yf:UL->α}{Ya:U1->α}{N:Nat}{g0:Bool}
  (g1:opening p=plainProg p.main.scope.names) (g2:Nat.ble 600 N=true) (g3:∀s,fenceModules? p s=some s)
  (g4:∀(w:U1) (os:OsState),((h_ YR p w 11 (some (.ref 6)) N (AI w os) (topStub p)).bind λs₁=>ends p (Xo w.params) s₁.abs).map (λs=>(openSeen q loose (importedModules p.main.body) Xt g0 s,Yf s))=some (openGood q loose,Ya w)) :
  LeftO p q loose Xt Yf Ya N g0:=λw=>by
 obtain⟨⟨hp,gs,dr,tk,os⟩,e,v⟩:=U3.mp (boot_open (N:=N) g1 g2 g3 w);obtain⟨v1,v⟩:=Prod.mk.inj v;obtain⟨v2,v⟩:=Prod.mk.inj v;obtain⟨v3,v4⟩:=Prod.mk.inj v;dsimp only at v1 v2 v3 v4;subst v1 v2 v3 v4;have g:=g4 w os;unfold openEnds;rw[e];show (topFrom YR p w N _).map _=_;have t:topFrom YR p w N ⟨Xo w.params,Zb [],Y7,boot_toks,os⟩=(topRun YR p w 11 (some (.ref 6)) N ⟨Xo w.params,Zb [],Y7,boot_toks,os⟩ (topStub p)).bind (ends p (Xo w.params)):=by
  unfold topFrom;rw[DH];dsimp only;rw[xo,AH];rfl
 rw[t];cases hT:h_ YR p w 11 (some (.ref 6)) N (AI w os) (topStub p)with
 |none=>rw[hT]at g;cases g
 |some s₁ =>
  have r:=kO hT;rw[boot_abs]at r;rw[hT]at g;rw[r];exact g
end L2.Hd
namespace hG
open PySem L2
def top (i:Nat):Stmt:=PySem.Challenge.pw_archrow_k21_sets_with_a_tie.main.body.getD i (.Pass ⟨0,0,0,0⟩)
abbrev dg:Stmt:=top 15
abbrev b5:Stmt:=top 16
abbrev da:Stmt:=top 17
abbrev bF:Stmt:=top 19
abbrev cP:Stmt:=top 20
abbrev dc:Stmt:=top 21
abbrev gq:Stmt:=top 22
abbrev gu:Stmt:=top 23
abbrev df:Stmt:=top 25
abbrev cq:Stmt:=top 26
abbrev d3:Stmt:=top 27
abbrev cQ:Stmt:=top 29
abbrev dB:Stmt:=top 30
abbrev dz:Stmt:=top 31
abbrev gv:Stmt:=top 32
abbrev de:Stmt:=top 33
abbrev cn:Stmt:=top 34
abbrev fm:Stmt:=top 35
abbrev fg:Stmt:=top 36
abbrev gT:Stmt:=top 37
abbrev fk:Stmt:=top 38
abbrev dZ:Stmt:=top 39
abbrev gw:Stmt:=top 40
abbrev fe:Stmt:=top 41
abbrev ir:Stmt:=top 42
abbrev fh:Stmt:=top 43
abbrev k7:Stmt:=top 44
abbrev vS (x:Str)(t:Nat):UK:=.str x t
abbrev kE (P:Yv)(x:Str)(t:Nat)(v:UK):XH:=⟨PyData.keyHash P x,.str x t,v⟩
abbrev kC (n:Str)(t l p r8 R8 RA:Nat)(Rh Rf Rc:UK)(Rz R7 Rn:Nat):Obj:={cls:=.type "code",data:=.fields #[vS n t,vS n (t+1),vS "/claim/cut.py" (t+2),.int l 0,.int p 0,.int 0 0,.int 0 0,.int 3 0,.ref r8,.bool true,.int R8 0,.ref RA,Rh,Rf,Rc,.ref Rz,.int R7 0,.int l 0,vS "/claim/cut.py" Rn]}
abbrev Md (st:Stmt)(x m:Str)(t c:Nat):Vs:=PySem.W.fnOf x x (kn st) (dk st) (ak st) .none .none .none (vS m t) none (.ref c) .none
abbrev kF (st:Stmt)(x m:Str)(t c:Nat):Obj:={cls:=.type "function",data:=.func (Md st x m t c)}
abbrev kX (x:Str)(a A t:Nat):Obj:={cls:=.type "type",data:=.cls {name:=x,bases:=[.ref A],mro:=[.ref a,.ref A,.type "ValueError",.type "Exception",.type "BaseException",.type "object"],ns:=a-1,qualname:=x},slots:=#[some (.ref (a-9)),none,some (vS x t),some (vS x (t+8)),some (.builtin "ValueError.__new__"),some (.bool true)]}
abbrev kN (P:Yv)(a t m l:Nat):Obj:={cls:=.type "dict",data:=.dict #[kE P "__module__" (t+7) (vS "archrow.errors" m),kE P "__firstlineno__" (t+11) (.int l (t+10)),kE P "__static_attributes__" (t+12) (.ref (a-2)),kE P "__doc__" (t+13) .none] 2}
def KK:Yv->PySem.W.Frag:=λP=>[(3,{cls:=.type "dict",data:=.dict #[kE P "__name__" 165 (vS "law_archrow_k21_sets_with_a_tie" 490),kE P "__doc__" 166 .none,kE P "__package__" 167 .none,kE P "__loader__" 168 (.builtin "__main__.__loader__#opaque"),kE P "__spec__" 169 .none,kE P "__annotations__" 170 (.ref 6),kE P "__builtins__" 171 (.ref 4),kE P "__file__" 173 (vS "/claim/cut.py" 172),kE P "__cached__" 174 .none,kE P "ArchError" 206 (.ref 24),kE P "NoRow" 222 (.ref 37),kE P "NoTie" 238 (.ref 49),kE P "NoStretch" 254 (.ref 61),kE P "NoWeights" 270 (.ref 73),kE P "NoNumber" 286 (.ref 85),kE P "NoSet" 302 (.ref 97),kE P "NoGap" 318 (.ref 109),kE P "NoPlace" 334 (.ref 121),kE P "NoShape" 350 (.ref 133),kE P "NoText" 366 (.ref 145),kE P "NoForm" 382 (.ref 157),kE P "NoneYet" 398 (.ref 169),kE P "arcs_cross" 412 (.ref 178),kE P "share_a_point" 420 (.ref 185),kE P "row_beside" 426 (.ref 190),kE P "stretches_rising" 434 (.ref 195),kE P "partners_of" 440 (.ref 200),kE P "parts_left" 449 (.ref 207),kE P "ways_in" 460 (.ref 214),kE P "ways_by" 466 (.ref 219),kE P "count_sets" 475 (.ref 226),kE P "count_with" 483 (.ref 233),kE P "counts_of" 489 (.ref 238),kE P "_law_cell_at" 499 (.ref 245),kE P "_law_deck" 506 (.ref 252),kE P "_law_take" 516 (.ref 259),kE P "_law_row" 532 (.ref 266),kE P "_law_copied" 539 (.ref 273),kE P "_law_do_cross" 547 (.ref 280),kE P "_law_fits" 556 (.ref 287),kE P "_law_sets" 562 (.ref 292),kE P "_law_same" 568 (.ref 297),kE P "_law_kind" 577 (.ref 304),kE P "_law_count" 583 (.ref 309),kE P "_law_due" 589 (.ref 314),kE P "_law_told" 600 (.ref 321),kE P "_law_is" 608 (.ref 328),kE P "_law_none" 614 (.ref 333),kE P "law" 620 (.ref 338)] 49}),
 (177,kC "arcs_cross" 401 29 2 172 181 173 .none (.ref 174) (.ref 175) 176 410 411),
 (178,kF dg "arcs_cross" "archrow.arcs" 399 177),
 (184,kC "share_a_point" 413 33 2 179 181 180 .none (.ref 181) (.ref 182) 183 418 419),
 (185,kF b5 "share_a_point" "archrow.arcs" 399 184),
 (189,kC "row_beside" 421 35 2 186 181 187 .none .none .none 188 424 425),
 (190,kF da "row_beside" "archrow.arcs" 399 189),
 (194,kC "stretches_rising" 429 39 1 191 181 192 .none .none .none 193 432 433),
 (195,kF bF "stretches_rising" "archrow.stretches" 427 194),
 (199,kC "partners_of" 435 41 1 196 181 197 .none .none .none 198 438 439),
 (200,kF cP "partners_of" "archrow.stretches" 427 199),
 (206,kC "parts_left" 441 47 3 201 181 202 .none (.ref 203) (.ref 204) 205 447 448),
 (207,kF dc "parts_left" "archrow.stretches" 427 206),
 (213,kC "ways_in" 450 51 2 208 181 209 .none (.ref 210) (.ref 211) 212 458 459),
 (214,kF gq "ways_in" "archrow.stretches" 427 213),
 (218,kC "ways_by" 461 56 4 215 181 216 .none .none .none 217 464 465),
 (219,kF gu "ways_by" "archrow.stretches" 427 218),
 (225,kC "count_sets" 469 59 1 220 181 221 .none (.ref 222) (.ref 223) 224 473 474),
 (226,kF df "count_sets" "archrow.counted" 467 225),
 (232,kC "count_with" 476 61 2 227 181 228 .none (.ref 229) (.ref 230) 231 481 482),
 (233,kF cq "count_with" "archrow.counted" 467 232),
 (237,kC "counts_of" 484 65 1 234 181 235 .none .none .none 236 487 488),
 (238,kF d3 "counts_of" "archrow.counted" 467 237),
 (244,kC "_law_cell_at" 492 74 2 239 181 240 .none (.ref 241) (.ref 242) 243 497 498),
 (245,kF cQ "_law_cell_at" "law_archrow_k21_sets_with_a_tie" 490 244),
 (251,kC "_law_deck" 500 78 1 246 181 247 .none (.ref 248) (.ref 249) 250 504 505),
 (252,kF dB "_law_deck" "law_archrow_k21_sets_with_a_tie" 490 251),
 (258,kC "_law_take" 507 80 2 253 181 254 .none (.ref 255) (.ref 256) 257 514 515),
 (259,kF dz "_law_take" "law_archrow_k21_sets_with_a_tie" 490 258),
 (265,kC "_law_row" 517 89 2 260 181 261 .none (.ref 262) (.ref 263) 264 530 531),
 (266,kF gv "_law_row" "law_archrow_k21_sets_with_a_tie" 490 265),
 (272,kC "_law_copied" 533 108 1 267 181 268 .none (.ref 269) (.ref 270) 271 537 538),
 (273,kF de "_law_copied" "law_archrow_k21_sets_with_a_tie" 490 272),
 (279,kC "_law_do_cross" 540 110 2 274 181 275 .none (.ref 276) (.ref 277) 278 545 546),
 (280,kF cn "_law_do_cross" "law_archrow_k21_sets_with_a_tie" 490 279),
 (286,kC "_law_fits" 548 112 2 281 181 282 .none (.ref 283) (.ref 284) 285 554 555),
 (287,kF fm "_law_fits" "law_archrow_k21_sets_with_a_tie" 490 286),
 (291,kC "_law_sets" 557 117 1 288 181 289 .none .none .none 290 560 561),
 (292,kF fg "_law_sets" "law_archrow_k21_sets_with_a_tie" 490 291),
 (296,kC "_law_same" 563 126 2 293 181 294 .none .none .none 295 566 567),
 (297,kF gT "_law_same" "law_archrow_k21_sets_with_a_tie" 490 296),
 (303,kC "_law_kind" 569 136 1 298 181 299 .none (.ref 300) (.ref 301) 302 575 576),
 (304,kF fk "_law_kind" "law_archrow_k21_sets_with_a_tie" 490 303),
 (308,kC "_law_count" 578 143 2 305 181 306 .none .none .none 307 581 582),
 (309,kF dZ "_law_count" "law_archrow_k21_sets_with_a_tie" 490 308),
 (313,kC "_law_due" 584 155 2 310 181 311 .none .none .none 312 587 588),
 (314,kF gw "_law_due" "law_archrow_k21_sets_with_a_tie" 490 313),
 (320,kC "_law_told" 590 160 2 315 181 316 .none (.ref 317) (.ref 318) 319 598 599),
 (321,kF fe "_law_told" "law_archrow_k21_sets_with_a_tie" 490 320),
 (327,kC "_law_is" 601 170 2 322 181 323 .none (.ref 324) (.ref 325) 326 606 607),
 (328,kF ir "_law_is" "law_archrow_k21_sets_with_a_tie" 490 327),
 (332,kC "_law_none" 609 172 2 329 181 330 .none .none .none 331 612 613),
 (333,kF fh "_law_none" "law_archrow_k21_sets_with_a_tie" 490 332),
 (337,kC "law" 615 182 1 334 181 335 .none .none .none 336 618 619),
 (338,kF k7 "law" "law_archrow_k21_sets_with_a_tie" 490 337),
 (24,{cls:=.type "type",data:=.cls {name:="ArchError",bases:=[(.type "ValueError")],mro:=[(.ref 24),(.type "ValueError"),(.type "Exception"),(.type "BaseException"),(.type "object")],ns:=23,qualname:="ArchError",subclasses:=[(.ref 37),(.ref 49),(.ref 61),(.ref 73),(.ref 85),(.ref 97),(.ref 109),(.ref 121),(.ref 133),(.ref 145),(.ref 157),(.ref 169)]},slots:=#[some ((.ref 15)),none,some ((vS "ArchError" 189)),some ((vS "ArchError" 197)),some ((.builtin "ValueError.__new__")),some (.bool true)]}),
 (23,{cls:=.type "dict",data:=.dict #[kE P "__module__" 196 (vS "archrow.errors" 187),kE P "__firstlineno__" 200 (.int 2 199),kE P "__static_attributes__" 201 (.ref 22),kE P "__weakref__" 203 (.ref 25),kE P "__doc__" 204 .none] 3}),
 (37,kX "NoRow" 37 24 207),
 (36,kN P 37 207 187 4),
 (49,kX "NoTie" 49 24 223),
 (48,kN P 49 223 187 6),
 (61,kX "NoStretch" 61 24 239),
 (60,kN P 61 239 187 8),
 (73,kX "NoWeights" 73 24 255),
 (72,kN P 73 255 187 10),
 (85,kX "NoNumber" 85 24 271),
 (84,kN P 85 271 187 12),
 (97,kX "NoSet" 97 24 287),
 (96,kN P 97 287 187 14),
 (109,kX "NoGap" 109 24 303),
 (108,kN P 109 303 187 16),
 (121,kX "NoPlace" 121 24 319),
 (120,kN P 121 319 187 18),
 (133,kX "NoShape" 133 24 335),
 (132,kN P 133 335 187 20),
 (145,kX "NoText" 145 24 351),
 (144,kN P 145 351 187 22),
 (157,kX "NoForm" 157 24 367),
 (156,kN P 157 367 187 24),
 (169,kX "NoneYet" 169 24 383),
 (168,kN P 169 383 187 26)]
abbrev HK:PySem.W.Hook:=PySem.W.kHook KK [3,177,178,184,185,189,190,194,195,199,200,206,207,213,214,218,219,225,226,232,233,237,238,244,245,251,252,258,259,265,266,272,273,279,280,286,287,291,292,296,297,303,304,308,309,313,314,320,321,327,328,332,333,337,338,24,23,37,36,49,48,61,60,73,72,85,84,97,96,109,108,121,120,133,132,145,144,157,156,169,168] (λ_=>by kernel_rfl)
def view:UP:={PySem.Challenge.pw_archrow_k21_sets_with_a_tie with main:={PySem.Challenge.pw_archrow_k21_sets_with_a_tie.main with body:=[top 1,top 2,top 3,top 4,top 5,top 6,top 7,top 8,top 9,top 10,top 11,top 12,top 13,top 15,top 16,top 17,top 19,top 20,top 21,top 22,top 23,top 25,top 26,top 27,top 29,top 30,top 31,top 32,top 33,top 34,top 35,top 36,top 37,top 38,top 39,top 40,top 41,top 42,top 43,top 44]}}
theorem left:PySem.W.LeftO PySem.Challenge.pw_archrow_k21_sets_with_a_tie view [] (λs=>PySem.W.xlAt view [] s&&PySem.W.recOk (PySem.W.RowW.records PySem.Challenge.rw_archrow_k21_sets_with_a_tie.row.toRowW) s) HK.obs HK.val 7272:=L2.Hd.wB (by kernel_rfl) (by kernel_rfl) (λ_=>rfl) (λw os=>by kernel_rfl)
end hG
namespace L2
open PySem PySem.Spec PyProof.Rows
abbrev Key:=Sum Int Str
def ni:Key->UK->Bool
 |.inl k,v=>Value.isInt k v
 |.inr x,v=>Value.isStrOf x v
def NP (w:U1):Key->Int
 |.inl k=>hashInt k
 |.inr x=>hashStr w x
theorem br:∀{k:Key} {v:UK},ni k v=true->(∃i t,k=Yz i/\v=Value.int i t)\/(∃x t,k=YM x/\v=Value.str x t)
 |.inl i,v,h=>by
  obtain⟨t,e⟩:=Value.isInt_shape (k:=i) (v:=v) h;exact .inl ⟨i,t,rfl,e⟩
 |.inr x,v,h=>by
  obtain⟨t,e⟩:=Value.isStrOf_shape (x:=x) (v:=v) h;exact .inr ⟨x,t,rfl,e⟩
theorem wG (i:Int)(t:Tok):ni (.inl i) (.int i t)=true:=by simp[ni,Value.isInt]
theorem wF (x:Str)(t:Tok):ni (.inr x) (.str x t)=true:=by simp[ni,Value.isStrOf]
theorem Gz (a b:Int):decide ((Yz a:Key)=Yz b)=(a==b):=by
 by_cases e:a=b
 ·subst e;simp
 ·have h:¬ (Yz a:Key)=Yz b:=λq=>e (Sum.inl.inj q);rw[decide_eq_false h];exact(beq_eq_false_iff_ne.mpr e).symm
theorem Gw (a b:Str):decide ((YM a:Key)=YM b)=decide (a=b):=by
 by_cases e:a=b
 ·subst e;simp
 ·have h:¬ (YM a:Key)=YM b:=λq=>e (Sum.inr.inj q);rw[decide_eq_false h,decide_eq_false e]
theorem Gy (a:Int)(b:Str):decide ((Yz a:Key)=YM b)=false:=decide_eq_false (λq=>nomatch q)
theorem Gx (a:Str)(b:Int):decide ((YM a:Key)=Yz b)=false:=decide_eq_false (λq=>nomatch q)
def bO (prog:UP)(w:U1):PySem.KeyKind prog w Key where
 is:=ni
 hash:=NP w
 inj:=λv a b ha hb=>by
  rcases br ha with⟨i,t,rfl,rfl⟩|⟨x,t,rfl,rfl⟩
  ·rcases br hb with⟨j,u,rfl,e⟩|⟨y,u,rfl,e⟩
   ·injection e with e1 _;rw[e1]
   ·exact nomatch e
  ·rcases br hb with⟨j,u,rfl,e⟩|⟨y,u,rfl,e⟩
   ·exact nomatch e
   ·injection e with e1 _;rw[e1]
 byValue:=λk v h=>by
  rcases br h with⟨i,t,rfl,rfl⟩|⟨x,t,rfl,rfl⟩ <;> rfl
 pyHash:=λhv h=>by
  rcases br hv with⟨i,t,rfl,rfl⟩|⟨x,t,rfl,rfl⟩
  ·exact wpAny_pyHash_int h
  ·exact wpAny_pyHash_str h
 eqBool:=λhu hv h=>by
  rcases br hu with⟨i,t,rfl,rfl⟩|⟨x,t,rfl,rfl⟩
  ·rcases br hv with⟨j,u,rfl,rfl⟩|⟨y,u,rfl,rfl⟩
   ·rw[Gz]at h;exact wpAny_eqBool_int h
   ·rw[Gy]at h;exact SeqAt.EqAt.int_str i t y u _ _ _ _ h
  ·rcases br hv with⟨j,u,rfl,rfl⟩|⟨y,u,rfl,rfl⟩
   ·rw[Gx]at h;exact SeqAt.EqAt.str_int x t j u _ _ _ _ h
   ·rw[Gw]at h;exact wpAny_eqBool_str h
 «strs»:=λk x t v h=>by
  rcases br h with⟨i,u,rfl,e⟩|⟨y,u,rfl,e⟩
  ·exact nomatch e
  ·injection e with e1 _
   subst e1;cases v <;> rfl
theorem qj (prog:UP)(w:U1)(i:Int)(t:Tok):(bO prog w).is (.inl i) (.int i t)=true:=wG i t
theorem qi (prog:UP)(w:U1)(x:Str)(t:Tok):(bO prog w).is (.inr x) (.str x t)=true:=wF x t
inductive V where
 |cg|bl (b:Bool)|int (i:Int)|str (x:Str)|Ph (b:Array UInt8)|Ij (b:UInt64)|ref (a:Addr)|ty (n:String)
 deriving DecidableEq
def RelV:V->UK->Prop
 |.cg,u=>u=Value.none
 |.bl b,u=>u=Value.bool b
 |.int i,u=>∃t,u=Value.int i t
 |.str x,u=>∃t,u=Value.str x t
 |.Ph b,u=>∃t,u=Value.bytes b t
 |.Ij b,u=>∃t,u=Value.float b t
 |.ref a,u=>u=Value.ref a
 |.ty n,u=>u=Value.type n
abbrev Vals:List V->List UK->Prop:=Paired RelV
theorem Vals.length {xs:List V}{us:List UK}(r:Vals xs us):xs.length=us.length:=Paired.length r
theorem Vals.get:∀{xs:List V} {us:List UK} {i:Nat} {x:V},Vals xs us->xs[i]?=some x->∃u,us[i]?=some u/\RelV x u
 |_,_,_,_,.nil,e=>by simp at e
 |_,_,0,_,.cons r _,e=>by simp at e;subst e;exact⟨_,rfl,r⟩
 |_,_,i+1,x,.cons _ t,e=>by
  obtain⟨u,h1,h2⟩:=Vals.get (i:=i) (x:=x) t (by simpa using e)
  exact⟨u,by simpa using h1,h2⟩
theorem Vals.set {x:V}{u:UK}(r:RelV x u):∀{xs:List V} {us:List UK} (i:Nat),Vals xs us->Vals (xs.set i x) (us.set i u)
 |_,_,_,.nil=>.nil
 |_,_,0,.cons _ t=>.cons r t
 |_,_,i+1,.cons q t=>.cons q (Vals.set r i t)
theorem Vals.append:∀{xs ys:List V} {us ws:List UK},Vals xs us->Vals ys ws->Vals (xs++ys) (us++ws)
 |_,_,_,_,.nil,s=>s
 |_,_,_,_,.cons r t,s=>.cons r (Vals.append t s)
theorem Vals.take:∀{xs:List V} {us:List UK} (n:Nat),Vals xs us->Vals (xs.take n) (us.take n)
 |_,_,0,_=>.nil
 |_,_,_+1,.nil=>.nil
 |_,_,n+1,.cons r t=>.cons r (Vals.take n t)
theorem Vals.drop:∀{xs:List V} {us:List UK} (n:Nat),Vals xs us->Vals (xs.drop n) (us.drop n)
 |_,_,0,r=>r
 |_,_,_+1,.nil=>.nil
 |_,_,n+1,.cons _ t=>Vals.drop n t
def l4:Option V->Option UK->Prop
 |some v,some u=>RelV v u
 |none,none=>True
 |_,_=>False
def KV {κ:Type}:List (κ×V)->List (κ×UK)->Prop:=Paired λ(p:κ×V) (q:κ×UK)=>p.1=q.1/\RelV p.2 q.2
def kV:Key->V
 |.inl i=>.int i
 |.inr x=>.str x
inductive HO where
 /-- a list -/
 |lst (xs:List V)
 /-- a tuple (never changes) -/
 |tup (xs:List V)
 /-- a dict whose keys are ints and texts;one whose keys are tuples of ints and texts (the empty one is both) -/
 |dK (kvs:List (Key×V))|dT (kvs:List (List Key×V))
 /-- a set of ints: its members,its size -/
 |set (S:Int->Bool) (n:Nat)
 /-- an instance of the class at C,its dict at dx,its attributes -/
 |ins (C dx:Addr) (fs:List (Str×V))
 /-- the dict of the instance at x -/
 |own (x:Addr)
 /-- the dict of an exception -/
 |xd (fs:List (Str×V))
 /-- a bound method,f of x -/
 |met (f x:Addr)
 /-- a range object lo,lo+1,.. below hi -/
 |L7 (lo hi:Int)
 /-- a IB that is known to the object (the Nb;a dict while a loop walks it): read,never written while it is so -/
 |s9 (o:Obj) (u:HO)
 /-- a code JB table -/
 |DQ (ps:Array UK)
 /-- any other IB,by what is true of its one object (a def of Jx own: LL a S n:=HO.ext λh=>..) -/
 |ext (φ:Heap->Prop)
abbrev Hp:=Addr->Option HO
def upd (H:Hp)(a:Addr)(o:HO):Hp:=λb=>if b=a then some o else H b
theorem ao {H:Hp}{a:Addr}{o:HO}:upd H a o a=some o:=by unfold upd;rw[if_pos rfl]
theorem az {H:Hp}{a b:Addr}{o:HO}(h:b≠a):upd H a o b=H b:=by unfold upd;rw[if_neg h]
theorem Ea {H:Hp}{a b:Addr}{o u:HO}(h:H a=some o)(h':H b=some u)(d:o≠u):a≠b:=by
 intro e;subst e;rw[h]at h';exact d (VE h')
theorem b_ {H:Hp}{a b:Addr}{o:HO}(h:H a=some o)(h':H b=none):a≠b:=by
 intro e;subst e;rw[h]at h';cases h'
section
variable (P:UP)(w:U1)
def bu (H:Hp)(h:Heap)(a:Addr):HO->Prop
 |.lst xs=>xs.length<=UW/\∃(its:List UK) (n:Nat),Vals xs its/\h.get? a=some {cls:=.type "list",data:=.seq its.toArray n}
 |.tup xs=>xs.length<=UW/\∃its:List UK,Vals xs its/\IsTup h a its.toArray
 |.dK kvs=>kvs.length<=UW/\(a==Wy)=false/\∃vs,KV kvs vs/\h.DictOf (bO P w) a vs
 |.dT kvs=>kvs.length<=UW/\(a==Wy)=false/\∃xs:List (List Key×Addr×UK),
   Paired (λ(p:List Key×V) (q:List Key×Addr×UK)=>p.1=q.1/\H q.2.1=some (.tup (p.1.map kV))/\RelV p.2 q.2.2) kvs xs /\
   ∃o es ep,h.get? a=some o/\o.ExactDict/\o.data=.dict es ep/\es.toList=xs.map (entryOfKey (Yy (bO P w)))/\(xs.map (·.1)).Nodup
 |.set S n=>h.SetOf (intKind P w) a S n
 |.ins C dx fs=>H dx=some (.own a)/\fs.length<=1000/\dx≠a/\h.get? a=some (PySem.W.instObj C dx) /\
   ∃mA,h.Ns1 dx mA/\(∀f,l4 (fs.lookup f) (mA f))/\PySem.Within mA (fs.map (·.1))
 |.own _=>∃o,h.get? a=some o
 |.xd fs=>∃mA,h.Ns1 a mA/\∀f,l4 (fs.lookup f) (mA f)
 |.L7 lo hi=>∃t u v,h.get? a=some {cls:=.type "range",data:=.fields #[.int lo t,.int hi u,.int 1 v]}
 |.s9 o u=>h.get? a=some o/\bu H h a u
 |.DQ ps=>h.get? a=some {cls:=.none,data:=.fields ps}
 |.met f x=>h.get? a=some (PySem.W.methodObj (.ref f) (.ref x))
 |.ext φ=>φ h/\(∃o,h.get? a=some o)/\∀h1 h2:Heap,φ h1->(∀o,h1.get? a=some o->h2.get? a=some o)->φ h2
def fL (H:Hp)(h:Heap):Prop:=∀a o,H a=some o->bu P w H h a o
end
section
variable {P:UP}{w:U1}{H H':Hp}{h h':Heap}{a:Addr}{o:HO}
theorem bu.lt (x:bu P w H h a o):a<h.objs.size:=by
 cases o with
 |lst xs=>obtain⟨_,_,_,_,e⟩:=x;exact U_ e
 |tup xs=>obtain⟨_,_,_,p⟩:=x;exact p.lt
 |dK kvs=>obtain⟨_,_,_,_,o,_,_,e,_⟩:=x;exact U_ e
 |dT kvs=>obtain⟨_,_,_,_,o,_,_,e,_⟩:=x;exact U_ e
 |set S n=>obtain⟨o,_,_,_,e,_⟩:=x;exact U_ e
 |ins C dx fs=>obtain⟨_,_,_,e,_⟩:=x;exact U_ e
 |own y=>obtain⟨_,e⟩:=x;exact U_ e
 |xd fs=>obtain⟨_,⟨_,_,_,e,_⟩,_⟩:=x;exact U_ e
 |L7 lo hi=>obtain⟨_,_,_,e⟩:=x;exact U_ e
 |s9 ob u=>obtain⟨e,_⟩:=x;exact U_ e
 |DQ ps=>exact U_ (show h.get? a=some _ from x)
 |met f y=>exact U_ (show h.get? a=some _ from x)
 |ext φ=>obtain⟨_,⟨_,e⟩,_⟩:=x;exact U_ e
theorem Paired.Gg {α β:Type}{F G:α->β->Prop}:∀{l₁:List α} {l₂:List β},Paired F l₁ l₂->(∀a b,F a b->G a b)->Paired G l₁ l₂
 |_,_,.nil,_=>.nil
 |_,_,.cons r t,f=>.cons (f _ _ r) (Paired.Gg t f)
theorem bu.nZ (x:bu P w H h a o)(k:∀b u,(b=a\/H b=some (.own a))->h.get? b=some u->h'.get? b=some u)
  (ho:∀b,H b=some (.own a)->H' b=some (.own a)) (ht:∀b xs,H b=some (.tup xs)->H' b=some (.tup xs)):bu P w H' h' a o:=by
 induction o with
 |lst xs=>obtain⟨z,its,n,r,e⟩:=x;exact⟨z,its,n,r,k _ _ (.inl rfl) e⟩
 |tup xs=>obtain⟨z,its,r,ob,e,c⟩:=x;exact⟨z,its,r,ob,k _ _ (.inl rfl) e,c⟩
 |dK kvs=>obtain⟨z,y,vs,r,ob,es,ep,e,c⟩:=x;exact⟨z,y,vs,r,ob,es,ep,k _ _ (.inl rfl) e,c⟩
 |dT kvs =>
  obtain⟨z,y,xs,r,ob,es,ep,e,c⟩:=x;exact⟨z,y,xs,Paired.Gg r λp q z=>⟨z.1,ht _ _ z.2.1,z.2.2⟩,ob,es,ep,k _ _ (.inl rfl) e,c⟩
 |set S n=>obtain⟨ob,es,ep,t,e,c⟩:=x;exact⟨ob,es,ep,t,k _ _ (.inl rfl) e,c⟩
 |ins C dx fs =>
  obtain⟨d,z,ne,e,mA,⟨od,es,ep,e2,c⟩,r⟩:=x;exact⟨ho _ d,z,ne,k _ _ (.inl rfl) e,mA,⟨od,es,ep,k _ _ (.inr d) e2,c⟩,r⟩
 |own y=>obtain⟨ob,e⟩:=x;exact⟨ob,k _ _ (.inl rfl) e⟩
 |xd fs=>obtain⟨mA,⟨od,es,ep,e,c⟩,r⟩:=x;exact⟨mA,⟨od,es,ep,k _ _ (.inl rfl) e,c⟩,r⟩
 |L7 lo hi=>obtain⟨t,u,v,e⟩:=x;exact⟨t,u,v,k _ _ (.inl rfl) e⟩
 |s9 ob u ih=>obtain⟨e,q⟩:=x;exact⟨k _ _ (.inl rfl) e,ih q⟩
 |DQ ps =>
  have e:h.get? a=some {cls:=.none,data:=.fields ps}:=x;show h'.get? a=some {cls:=.none,data:=.fields ps};exact k a _ (.inl rfl) e
 |met f y =>
  have e:h.get? a=some (PySem.W.methodObj (.ref f) (.ref y)):=x;show h'.get? a=some (PySem.W.methodObj (.ref f) (.ref y));exact k a _ (.inl rfl) e
 |ext φ=>obtain⟨p,⟨o,e⟩,st⟩:=x;exact⟨st _ _ p λo q=>k _ _ (.inl rfl) q,⟨o,k _ _ (.inl rfl) e⟩,st⟩
theorem fL.lt (x:fL P w H h)(e:H a=some o):a<h.objs.size:=(x a o e).lt
theorem fL.fresh (x:fL P w H h)(e:h.objs.size<=a):H a=none:=by
 cases q:H a with
 |none=>rfl
 |some u=>exact absurd (Vn (x.lt q) e) (WO _)
theorem fL.kept (x:fL P w H h)(k:∀b u,h.get? b=some u->h'.get? b=some u):fL P w H h':=λa o e =>
 (x a o e).nZ (λb u _ q=>k b u q) (λ_ q=>q) λ_ _ q=>q
theorem fL.laid (x:fL P w H h)(k:∀b u,h.get? b=some u->h'.get? b=some u)(hp:h.objs.size<=a)(new:bu P w (upd H a o) h' a o):fL P w (upd H a o) h':=λb u e=>by
 have hn:=x.fresh hp
 by_cases hb:b=a
 ·subst hb;rw[ao]at e;cases e;exact new
 ·rw[az hb]at e;exact(x b u e).nZ (λc v _ q=>k c v q) (λc q=>by rw[az (b_ q hn)];exact q) λc xs q=>by rw[az (b_ q hn)];exact q
end
def Rd (H:Hp)(a:Addr)(u:HO):Prop:=H a=some u\/∃o,H a=some (.s9 o u)
theorem Rd.ok {P:UP}{w:U1}{H:Hp}{h:Heap}{a:Addr}{u:HO}(r:Rd H a u)(x:fL P w H h):bu P w H h a u:=by
 rcases r with r|⟨o,r⟩
 ·exact x a u r
 ·obtain⟨_,q⟩:=x a _ r;exact q
def LP:Option HO->Prop
 |some (.lst _)=>True
 |some (.dK _)=>True
 |some (.dT _)=>True
 |some (.set _ _)=>True
 |some (.ins _ _ _)=>True
 |some (.ext _)=>True
 |_=>False
section
variable {P:UP}{w:U1}{H:Hp}{h h':Heap}{x e:Addr}{o':HO}
theorem fL.write (ok:fL P w H h)(mu:LP (H x))(he:e=x\/H e=some (.own x))(k:∀b u,b≠e->h.get? b=some u->h'.get? b=some u)(Ic:∃u,h'.get? e=some u)
  (new:bu P w (upd H x o') h' x o'):fL P w (upd H x o') h':=λb u q=>by
 have JC:∀c y,H c=some (.own y)->c≠x:=λc y r z=>by subst z;rw[r]at mu;exact mu
 have NA:∀c xs,H c=some (.tup xs)->c≠x:=λc xs r z=>by subst z;rw[r]at mu;exact mu
 by_cases hb:b=x
 ·subst hb;rw[ao]at q;cases q;exact new
 ·rw[az hb]at q
  by_cases Hh:b=e
  ·have q':H b=some (.own x):=by
    rcases he with z|z
    ·exact absurd (Hh.trans z) hb
    ·rw[Hh];exact z
   rw[q]at q';cases q';obtain⟨v,hv⟩:=Ic;exact⟨v,by rw[Hh];exact hv⟩
  ·refine(ok b u q).nZ (λc v hc r=>k c v ?_ r) (λc r=>by rw[az (JC c b r)];exact r) λc xs r=>by rw[az (NA c xs r)];exact r
   rcases hc with rfl|hc
   ·exact Hh
   ·rintro rfl;rcases he with z|z
    ·exact JC c b hc z
    ·rw[hc]at z;cases z;exact hb rfl
end
structure Un (fs ex:List Addr)(H H':Hp)(h h':Heap):Prop where
 keep:∀b o,h.get? b=some o->H b=none->b∉fs->b∉ex->h'.get? b=some o
 slot:∀b o,h.get? b=some o->H b=none->b∈fs->b∉ex->∃sl,h'.get? b=some {o with slots:=sl}
 free:∀b o,h.get? b=some o->H b=none->b∉ex->H' b=none
 there:∀b o,h.get? b=some o->b∉ex->∃o',h'.get? b=some o'
 gQ:∀b xs,H b=some (.tup xs)->H' b=some (.tup xs)
 gH:∀b o u,H b=some (.s9 o u)->H' b=some (.s9 o u)
 gR:∀b ps,H b=some (.DQ ps)->∃more,H' b=some (.DQ (ps++more))
section
variable {fs ex:List Addr}{H H1:Hp}{h h1 h':Heap}{a x e:Addr}{o:HO}
theorem Un.any (u:Un fs ex H H1 h h1){b:Addr}{ob:Obj}(q:h.get? b=some ob)(n:H b=none)(hx:b∉ex):∃sl,h1.get? b=some {ob with slots:=sl}:=by
 by_cases hb:b∈fs
 ·exact u.slot b ob q n hb hx
 ·exact⟨ob.slots,u.keep b ob q n hb hx⟩
theorem Un.kept (k:∀b u,h.get? b=some u->h'.get? b=some u):Un fs ex H H h h' :=
 ⟨λb ob q _ _ _=>k b ob q,λb ob q _ _ _=>⟨ob.slots,k b ob q⟩,λ_ _ _ n _=>n,λb ob q _=>⟨ob,k b ob q⟩,λ_ _ q=>q,λ_ _ _ q=>q,λ_ ps q=>⟨#[],by rw[q];simp⟩⟩
theorem Un.refl:Un fs ex H H h h:=Un.kept λ_ _ q=>q
theorem Un.laid (k:∀b u,h.get? b=some u->h'.get? b=some u)(hp:h.objs.size<=a)(hn:H a=none):Un fs ex H (upd H a o) h h' where
 keep:=λb u q _ _ _=>k b u q
 slot:=λb u q _ _ _=>⟨u.slots,k b u q⟩
 free:=λb u q n _=>by rw[az (VN (Vn (U_ q) hp))];exact n
 there:=λb u q _=>⟨u,k b u q⟩
 gQ:=λb xs q=>by rw[az (b_ q hn)];exact q
 gH:=λb u xs q=>by rw[az (b_ q hn)];exact q
 gR:=λb ps q=>⟨#[],by rw[az (b_ q hn),q];simp⟩
theorem Un.write (mu:LP (H x))(he:e=x\/H e=some (.own x))(k:∀b u,b≠e->h.get? b=some u->h'.get? b=some u)(Ic:∃u,h'.get? e=some u):Un fs ex H (upd H x o) h h':=by
 have hx:∀b,H b=none->b≠x:=λb n z=>by subst z;rw[n]at mu;exact mu
 have hb:∀b,H b=none->b≠e:=λb n z=>by
  subst z;rcases he with r|r
  ·exact hx b n r
  ·rw[n]at r;cases r
 have hm:∀b u,H b=some u->¬ LP (some u)->b≠x:=λb u q nm z=>by subst z;rw[q]at mu;exact nm mu
 refine⟨λb u q n _ _=>k b u (hb b n) q,λb u q n _ _=>⟨u.slots,k b u (hb b n) q⟩,λb u q n _=>by rw[az (hx b n)];exact n,λb u q _=>?_,
  λb xs q=>by rw[az (hm b _ q λz=>z)];exact q,λb u xs q=>by rw[az (hm b _ q λz=>z)];exact q,λb ps q=>⟨#[],by rw[az (hm b _ q λz=>z),q];simp⟩⟩
 by_cases Hh:b=e
 ·subst Hh;exact Ic
 ·exact⟨u,k b u Hh q⟩
end
def HS (h:Heap)(H:Hp):List Addr:=(Vy h.objs.size).filter λa=>(H a).isSome
def oV (h:Heap)(H:Hp):Heap:=PySem.W.hideAll h (HS h H)
theorem wQ (h:Heap)(H:Hp):(oV h H).objs.size=h.objs.size:=PySem.W.hideAll_size _ _
theorem zX {h:Heap}{H:Hp}{b:Addr}{o:Obj}(e:h.get? b=some o)(n:H b=none):(oV h H).get? b=some o :=
 PySem.W.hideAll_get _ e λhm=>by
  have q:(H b).isSome=true:=(Vk.mp hm).2;rw[n]at q;simp at q
theorem Cr {h:Heap}{H:Hp}{b:Addr}{o:Obj}(e:(oV h H).get? b=some o):h.get? b=some o/\H b=none:=by
 have e':h.get? b=some o:=PySem.W.of_hideAll (HS h H) e;refine⟨e',?_⟩;cases q:H b with
 |none=>rfl
 |some x =>
  have hm:b∈HS h H:=Vk.mpr ⟨V_.mpr (U_ e'),by simp[q]⟩
  have z:(oV h H).get? b=none:=PySem.W.hideAll_none (HS h H) hm;rw[z]at e;cases e
structure Mod (K:PySem.W.Frag)(mg:Str->Option UK)(base:Heap):Prop where
 Mc:K.In base
 glob:base.Ns Wh mg
 blt:∃mb,base.Ns builtinsNs mb/\∀x:Str,x≠"__name__" -> mb x=VJ x
 nolimit:base.NoLimit
structure Cx where
 prog:UP
 w:U1
 K:PySem.W.Frag
 mg:Str->Option UK
 base:Heap
 A:VO
 N:List Str
 s₀:UL
 H₀:Hp
 env:Env
 outer:List Env
 stack:List Env
 ex:List Addr
 fn:Str->Bool
 calm:Bool
 pn:List (Addr×Obj)
 xe:UK->UL->Prop
def fQ (l:List Env):List Addr:=l.filterMap (·.frame)
abbrev Cx.fs (X:Cx):List Addr:=fQ X.outer
def rM (sc:Xp)(x:Str):Prop:=sc.names.lookup x=some .local\/sc.names.lookup x=some .cell\/sc.names.lookup x=some .free
def Loc (sc:Xp)(x:Str):Prop:=sc.names.lookup x=some .local\/sc.names.lookup x=some .cell
def Look (env:Env)(h:Heap)(m:Str->Option UK)(x:Str)(u:UK):Prop :=
 (env.kindOf x=some .local/\m x=some u)\/((env.kindOf x=some .cell\/env.kindOf x=some .free)/\∃c,env.cells.lookup x=some c/\h.IsCell c (some u))
structure Cx.Ok (X:Cx):Prop where
 mod:Mod X.K X.mg X.base
 kind:X.env.scope.kind=.function
 glob:X.env.globals=Wh
 blt:X.env.builtins=builtinsNs
 above:X.s₀.heap.objs.size<=X.env.locals
 inj:∀x y c,X.env.cells.lookup x=some c->X.env.cells.lookup y=some c->x=y
 has:∀x,(X.env.kindOf x=some .cell\/X.env.kindOf x=some .free)->∃c,X.env.cells.lookup x=some c
 EH:∀x c,X.fn x=true->X.env.cells.lookup x=some c->X.s₀.heap.objs.size<=c
 hd:X.calm=true->X.A.handled=none
 frames:X.A.frames=some X.stack
 Fb:X.stack=X.outer\/(X.stack=X.env::X.outer/\X.env.frame=some X.env.locals)
 Hn:∀b∈X.ex,b≠X.env.locals/\∀x c,X.env.cells.lookup x=some c->c≠b
 bs:∀b o,X.base.get? b=some o->X.s₀.heap.get? b=some o/\X.H₀ b=none
 AG:X.base.objs.size<=X.s₀.heap.objs.size
 qf:∀b o,X.base.get? b=some o->b∉X.ex
 qW:∀b∈X.ex,b∉X.fs
 iM:X.s₀.heap.FunFrames X.base X.outer
 C0:∀b∈X.fs,X.H₀ b=none
structure Inv (X:Cx)(pins:List (Addr×Obj))(σ:List (Option V))(H:Hp)(s:UL):Prop where
 ok:X.Ok
 os:s.os=X.s₀.os
 bare:Yc s.gens
 base:Un X.fs X.ex X.H₀ H X.s₀.heap s.heap
 loc:∃m,s.heap.Ns X.env.locals m/\∀(i:Nat) (x:Str) (v:V),X.N[i]?=some x->σ[i]?=some (some v)->rM X.env.scope x->∃u,RelV v u/\Look X.env s.heap m x u
 cell:∀x c,X.env.cells.lookup x=some c->∃v,s.heap.IsCell c v
 free:H X.env.locals=none
 c_:∀x c,X.env.cells.lookup x=some c->H c=none
 pin:∀p∈X.pn++pins,s.heap.get? p.1=some p.2/\H p.1=none/\p.1≠X.env.locals/\p.1∉X.fs/\∀v,p.2.data≠.cell v
 bo:fL X.prog X.w H s.heap
 len:σ.length=X.N.length
section
variable {X:Cx}{pins:List (Addr×Obj)}{σ:List (Option V)}{H H':Hp}{s:UL}{h':Heap}
theorem Cx.Ok.Ga (ok:X.Ok){b:Addr}{o:Obj}(e:X.base.get? b=some o):b∉X.fs:=λhb=>by
 have:=(ok.iM.mem hb).1;rw[e]at this;cases this
theorem Inv.bs (I:Inv X pins σ H s):∀b o,X.base.get? b=some o->s.heap.get? b=some o/\H b=none:=λb o e =>
 ⟨I.base.keep b o (I.ok.bs b o e).1 (I.ok.bs b o e).2 (I.ok.Ga e) (I.ok.qf b o e),I.base.free b o (I.ok.bs b o e).1 (I.ok.bs b o e).2 (I.ok.qf b o e)⟩
theorem Inv.bk (I:Inv X pins σ H s):∀b o,X.base.get? b=some o->s.heap.get? b=some o:=λb o e=>(I.bs b o e).1
theorem Inv.mod (I:Inv X pins σ H s):Mod X.K X.mg X.base:=I.ok.mod
theorem Inv.lI (I:Inv X pins σ H s):X.K.In s.heap:=I.ok.mod.Mc.keeps I.bk
theorem Inv.lt (I:Inv X pins σ H s):X.env.locals<s.heap.objs.size:=let ⟨_,hn,_⟩:=I.loc;hn.lt
theorem Inv.sz (I:Inv X pins σ H s):X.s₀.heap.objs.size<=s.heap.objs.size:=Vq I.ok.above (Nat.le_of_lt I.lt)
theorem Inv.NC (I:Inv X pins σ H s){a:Addr}(h:s.heap.objs.size<=a):a∉X.fs:=λhb=>by
 obtain⟨_,o,ho,_⟩:=I.ok.iM.mem hb;exact absurd (Vn (U_ ho) (Vq I.sz h)) (WO _)
theorem Inv.Aw (I:Inv X pins σ H s):∀x c,X.env.cells.lookup x=some c->c≠X.env.locals:=λx c e z=>by
 obtain⟨v,o,ho,hd⟩:=I.cell x c e;obtain⟨m,⟨o',es,ep,CP,SU,_⟩,_⟩:=I.loc;rw[z,CP]at ho;cases ho;rw[SU]at hd;cases hd
theorem Inv.iM (I:Inv X pins σ H s):s.heap.FunFrames X.base X.outer:=by
 have all:∀(l:List Env),(∀b∈fQ l,b∈X.fs)->X.s₀.heap.FunFrames X.base l->s.heap.FunFrames X.base l:=by
  intro l
  induction l with
  |nil=>intro _ _;trivial
  |cons env r ih =>
   intro hs hl;obtain⟨hk,⟨L,o,hf,hn,ho,hd⟩,hr⟩:=hl;have hL:L∈X.fs:=hs L (by unfold fQ;rw[V4,hf];exact UY)
   obtain⟨sl,e⟩:=I.base.slot L o ho (I.ok.C0 L hL) hL λz=>I.ok.qW L z hL;exact⟨hk,⟨L,_,hf,hn,e,hd⟩,ih (λb hb=>hs b (by unfold fQ;rw[V4,hf];exact UU _ hb)) hr⟩
 exact all X.outer (λ_ hb=>hb) I.ok.iM
theorem Inv.stack (I:Inv X pins σ H s):s.heap.FunFrames X.base X.stack:=by
 rcases I.ok.Fb with e|⟨e,hf⟩
 ·rw[e];exact I.iM
 ·rw[e];obtain⟨m,hn,_⟩:=I.loc;refine .cons (by rw[I.ok.kind];decide) hf hn ?_ I.iM
  exact Heap.get?_none_of_le (Vq I.ok.AG I.ok.above)
theorem Inv.rY (I:Inv X pins σ H s):∀b∈fQ X.stack,b∈X.env.locals::X.fs:=λb hb=>by
 rcases I.ok.Fb with e|⟨e,hf⟩
 ·rw[e]at hb;exact UU _ hb
 ·rw[e]at hb;unfold fQ at hb;rw[V4,hf]at hb;exact hb
theorem Inv.nY (I:Inv X pins σ H s):∀b∈fQ X.stack,H b=none:=λb hb=>by
 rcases UQ.mp (I.rY b hb)with e|hb
 ·rw[e];exact I.free
 ·obtain⟨_,o,ho,_⟩:=I.ok.iM.mem hb;exact I.base.free b o ho (I.ok.C0 b hb) λz=>I.ok.qW b z hb
theorem Inv.step {g':Array GenState}{t':Nat}{d':Drawn}{ch:List Addr}(I:Inv X pins σ H s)
  (uQ:∀b∈ch,(b∈X.ex\/X.s₀.heap.objs.size<=b)/\b≠X.env.locals/\(∀x c,X.env.cells.lookup x=some c->c≠b)/\∀p∈X.pn++pins,p.1≠b)
  (keep:∀b o,b≠X.env.locals->b∉X.fs->b∉ch->s.heap.get? b=some o->H b=none->h'.get? b=some o)
  (slot:∀b o,b≠X.env.locals->b∈X.fs->b∉ch->s.heap.get? b=some o->H b=none->∃sl,h'.get? b=some {o with slots:=sl}) (free:∀b o,b∉ch->s.heap.get? b=some o->H b=none->H' b=none)
  (there:∀b o,b∉ch->s.heap.get? b=some o->∃o',h'.get? b=some o')
  (gQ:∀b xs,H b=some (.tup xs)->H' b=some (.tup xs)) (gH:∀b o u,H b=some (.s9 o u)->H' b=some (.s9 o u)) (gR:∀b ps,H b=some (.DQ ps)->∃more,H' b=some (.DQ (ps++more)))
  (ns:∀m,s.heap.Ns X.env.locals m->h'.Ns X.env.locals m) (bo:fL X.prog X.w H' h') (hg:Yc g') :
  Inv X pins σ H' {s with heap:=h',gens:=g',drawn:=d',toks:=t'}:=by
 have Qh:∀b o,X.s₀.heap.get? b=some o->b≠X.env.locals:=λb o e=>VN (Vn (U_ e) I.ok.above);have Ma:∀b o,X.s₀.heap.get? b=some o->b∉X.ex->b∉ch:=λb o e hx hb=>by
  rcases (uQ b hb).1 with z|z
  ·exact hx z
  ·exact absurd (Vn (U_ e) z) (WO _)
 have cellK:∀x c,X.env.cells.lookup x=some c->∀v,s.heap.IsCell c v->h'.IsCell c v:=λx c e v zS=> by
  obtain⟨o,ho,hd⟩ := zS;have JJ:c∉ch:=λz=>(uQ c z).2.2.1 x c e rfl
  by_cases hc:c∈X.fs
  ·obtain⟨sl,q⟩:=slot c o (I.Aw x c e) hc JJ ho (I.c_ x c e);exact⟨_,q,hd⟩
  ·exact⟨o,keep c o (I.Aw x c e) hc JJ ho (I.c_ x c e),hd⟩
 refine⟨I.ok,I.os,hg,⟨λb o e n hb hx=>?_,λb o e n hb hx=>?_,λb o e n hx=>?_,λb o e hx=>?_,λb xs e=>gQ b xs (I.base.gQ b xs e),λb o xs e=>gH b o xs (I.base.gH b o xs e),λb ps e=>?_⟩,?_,λx c e=>?_,?_,λx c e=>?_,λp hp=>?_,bo,I.len⟩
 ·exact keep b o (Qh b o e) hb (Ma b o e hx) (I.base.keep b o e n hb hx) (I.base.free b o e n hx)
 ·obtain⟨sl,e1⟩:=I.base.slot b o e n hb hx;obtain⟨DS,e2⟩:=slot b _ (Qh b o e) hb (Ma b o e hx) e1 (I.base.free b o e n hx);exact⟨DS,e2⟩
 ·obtain⟨o',e1⟩:=I.base.there b o e hx;exact free b o' (Ma b o e hx) e1 (I.base.free b o e n hx)
 ·obtain⟨o',e1⟩:=I.base.there b o e hx;exact there b o' (Ma b o e hx) e1
 ·obtain⟨m1,e1⟩:=I.base.gR b ps e;obtain⟨m2,e2⟩:=gR b _ e1;exact⟨m1++m2,by rw[e2,Array.append_assoc]⟩
 ·obtain⟨m,hn,hl⟩:=I.loc;refine⟨m,ns m hn,λi x v e1 e2 e3=>?_⟩;obtain⟨u,r,l⟩:=hl i x v e1 e2 e3;refine⟨u,r,?_⟩;rcases l with l|⟨k,c,e,z⟩
  ·exact .inl l
  ·exact .inr ⟨k,c,e,cellK x c e _ z⟩
 ·obtain⟨v,z⟩:=I.cell x c e;exact⟨v,cellK x c e v z⟩
 ·obtain⟨m,⟨o,_,_,ho,_⟩,_⟩:=I.loc;exact free _ o (λz=>(uQ _ z).2.1 rfl) ho I.free
 ·obtain⟨v,o,ho,hd⟩:=I.cell x c e;exact free c o (λz=>(uQ c z).2.2.1 x c e rfl) ho (I.c_ x c e)
 ·obtain⟨e,n,ne,nf,d⟩:=I.pin p hp;have JJ:p.1∉ch:=λz=>(uQ p.1 z).2.2.2 p hp rfl;exact⟨keep p.1 p.2 ne nf JJ e n,free p.1 p.2 JJ e n,ne,nf,d⟩
theorem Inv.un {t':Nat}(I:Inv X pins σ H s)(u:Un X.fs [] H H' s.heap h')(bo:fL X.prog X.w H' h'):Inv X pins σ H' {s with heap:=h',toks:=t'}:=by
 obtain⟨m,⟨o,es,ep,ho,r⟩,_⟩:=id I.loc;obtain⟨sl,hL⟩:=u.any ho I.free (by simp)
 exact I.step (g':=s.gens) (d':=s.drawn) (ch:=[]) (λ_ z=>nomatch z) (λb o _ hb _ e n=>u.keep b o e n hb (by simp)) (λb o _ hb _ e n=>u.slot b o e n hb (by simp)) (λb o _ e n=>u.free b o e n (by simp)) (λb o _ e=>u.there b o e (by simp)) u.gQ u.gH u.gR (λm' hm=>by
  obtain⟨o',tj,Ex,CP,r'⟩:=hm;rw[ho]at CP;cases CP;exact⟨_,tj,Ex,hL,r'⟩) bo I.bare
theorem Inv.call {g':Array GenState}{t':Nat}{d':Drawn}{ch:List Addr}(I:Inv X pins σ H s)(u:Un (fQ X.stack) ch H H' s.heap h')(bo:fL X.prog X.w H' h')(hg:Yc g')
  (uQ:∀b∈ch,(b∈X.ex\/X.s₀.heap.objs.size<=b)/\b≠X.env.locals/\(∀x c,X.env.cells.lookup x=some c->c≠b)/\∀p∈X.pn++pins,p.1≠b) :
  Inv X pins σ H' {s with heap:=h',gens:=g',drawn:=d',toks:=t'}:=by
 obtain⟨m,⟨o,es,ep,ho,r⟩,_⟩:=id I.loc;obtain⟨sl,hL⟩:=u.any ho I.free λz=>(uQ _ z).2.1 rfl;exact I.step (ch:=ch) uQ (λb o hL hb hc e n=>u.keep b o e n (λz=>(UQ.mp (I.rY b z)).elim hL hb) hc) (λb o _ _ hc e n=>u.any e n hc) (λb o hc e n=>u.free b o e n hc) (λb o hc e=>u.there b o e hc) u.gQ u.gH u.gR (λm' hm=>by
  obtain⟨o',tj,Ex,CP,r'⟩:=hm;rw[ho]at CP;cases CP;exact⟨_,tj,Ex,hL,r'⟩) bo hg
theorem Inv.turned {t':Nat}{it:Addr}(I:Inv X pins σ H s)(k:∀b o,b≠it->s.heap.get? b=some o->h'.get? b=some o)(hn:H it=none)(hL:it≠X.env.locals)
  (h1:it∈X.ex\/X.s₀.heap.objs.size<=it) (h2:∀x c,X.env.cells.lookup x=some c->c≠it) (h3:∀p∈X.pn++pins,p.1≠it):Inv X pins σ H {s with heap:=h',toks:=t'}:=by
 have Qg:∀b u,H b=some u->b≠it:=λb u e z=>by rw[z,hn]at e;cases e
 refine I.step (g':=s.gens) (d':=s.drawn) (ch:=[it]) (λb hb=>?_) (λb o _ _ hc e _=>k b o (λz=>hc (by simp[z])) e) (λb o _ _ hc e _=>⟨o.slots,k b o (λz=>hc (by simp[z])) e⟩) (λ_ _ _ _ n=>n)
  (λb o hc e=>⟨o,k b o (λz=>hc (by simp[z])) e⟩) (λ_ _ e=>e) (λ_ _ _ e=>e) (λb ps e=>⟨#[],by rw[e];simp⟩) (λm hm=>?_) (λb u e=>?_) I.bare
 ·have e:b=it:=by simpa using hb
  subst e;exact⟨h1,hL,h2,h3⟩
 ·obtain⟨o,es,ep,ho,r⟩:=hm;exact⟨o,es,ep,k _ o (W7 hL) ho,r⟩
 ·refine(I.bo b u e).nZ (λc v hc q=>k c v ?_ q) (λ_ q=>q) λ_ _ q=>q;rcases hc with z|z
  ·rw[z];exact Qg b u e
  ·exact Qg c _ z
theorem Inv.tok (I:Inv X pins σ H s)(t:Nat):Inv X pins σ H {s with toks:=t}:=I.un (h':=s.heap) (t':=t) Un.refl I.bo
theorem Inv.kept {t':Nat}(I:Inv X pins σ H s)(k:∀b u,s.heap.get? b=some u->h'.get? b=some u):Inv X pins σ H {s with heap:=h',toks:=t'}:=I.un (Un.kept k) (I.bo.kept k)
theorem Inv.laid {a:Addr}{o:HO}{t':Nat}(I:Inv X pins σ H s)(k:∀b u,s.heap.get? b=some u->h'.get? b=some u)(hp:s.heap.objs.size<=a)(new:bu X.prog X.w (upd H a o) h' a o):
  Inv X pins σ (upd H a o) {s with heap:=h',toks:=t'}:=I.un (Un.laid k hp (I.bo.fresh hp)) (I.bo.laid k hp new)
theorem Inv.write {x e:Addr}{o:HO}{t':Nat}(I:Inv X pins σ H s)(mu:LP (H x))(he:e=x\/H e=some (.own x))(k:∀b u,b≠e->s.heap.get? b=some u->h'.get? b=some u)(Ic:∃u,h'.get? e=some u)
  (new:bu X.prog X.w (upd H x o) h' x o):Inv X pins σ (upd H x o) {s with heap:=h',toks:=t'}:=I.un (Un.write mu he k Ic) (I.bo.write mu he k Ic new)
theorem Inv.uo {gb:List (Addr×Obj)}(I:Inv X pins σ H s)(h:∀p∈gb,s.heap.get? p.1=some p.2/\H p.1=none/\p.1≠X.env.locals/\p.1∉X.fs/\∀v,p.2.data≠.cell v):Inv X gb σ H s :=
 ⟨I.ok,I.os,I.bare,I.base,I.loc,I.cell,I.free,I.c_,λp hp=>(Vl.mp hp).elim (λz=>I.pin p (Wi _ z)) (h p),I.bo,I.len⟩
theorem lC {N:List Str}(hN:N.Nodup){i j:Nat}{x:Str}(a:N[i]?=some x)(b:N[j]?=some x):i=j:=by
 obtain⟨h1,e1⟩:=U0.mp a;obtain⟨h2,e2⟩:=U0.mp b;exact(List.getElem_inj hN).mp (e1.trans e2.symm)
theorem mT {M:YW}{A:VO}{E:UK->UL->Prop}{i:Nat}{x:Str}{v:V}{u:UK}{Q:Unit->UL->Prop}(I:Inv X pins σ H s)(hN:X.N.Nodup)(hi:X.N[i]?=some x)(hx:Loc X.env.scope x)(r:RelV v u)
  (h:∀s',Inv X pins (σ.set i (some v)) H s'->(∃a,X4 a s.heap s'.heap/\(a=X.env.locals\/X.env.cells.lookup x=some a))->Q () s') (hf:X.fn x=true\/X.env.scope.names.lookup x=some .local:=by first|exact .inl rfl|exact .inr rfl|assumption):Vp M A (storeName X.env x u) Q E s:=by
 obtain⟨m,hn,hl⟩:=id I.loc;have Hg:(X.env.scope.kind==.class || (X.env.scope.kind==.module&&X.env.locals != X.env.globals))=false:=by rw[I.ok.kind];rfl
 have Lc:i<σ.length:=by rw[I.len];exact(U0.mp hi).1
 have Aw:=I.Aw;have tracked:∀{a:Addr} {h':Heap},(∃o,s.heap.get? a=some o/\H a=none)->X4 a s.heap h'->fL X.prog X.w H h':=λ{a h'} ha hs b ob e=>by
  obtain⟨_,_,Eo⟩:=ha;refine(I.bo b ob e).nZ (λc w' hc q=>(hs.2 c ?_).trans q) (λ_ q=>q) λ_ _ q=>q;rintro rfl;rcases hc with rfl|hc
  ·rw[Eo]at e;cases e
  ·rw[Eo]at hc;cases hc
 rcases hx with hk|hk
 ·refine wpAny_storeName_local hk hn (λh' CS hs=>?_) Hg;obtain⟨oL,_,_,Qy,_⟩:=id hn;refine h _ ⟨I.ok,I.os,I.bare,⟨λb o e n hb hx=>?_,λb o e n hb hx=>?_,I.base.free,λb o e hx=>?_,I.base.gQ,I.base.gH,I.base.gR⟩,⟨_,CS,λj y v' e1 e2 e3=>?_⟩,λy c e=>?_,I.free,I.c_,λp hp=>?_,tracked ⟨oL,Qy,I.free⟩ hs,by simpa using I.len⟩ ⟨_,hs,.inl rfl⟩
  ·exact(hs.2 b (VN (Vn (U_ e) I.ok.above))).trans (I.base.keep b o e n hb hx)
  ·obtain⟨sl,e1⟩:=I.base.slot b o e n hb hx;exact⟨sl,(hs.2 b (VN (Vn (U_ e) I.ok.above))).trans e1⟩
  ·obtain⟨o',e1⟩:=I.base.there b o e hx;exact⟨o',(hs.2 b (VN (Vn (U_ e) I.ok.above))).trans e1⟩
  ·by_cases hj:j=i
   ·subst hj;rw[hi]at e1;cases e1;rw[List.getElem?_set_self Lc]at e2;cases e2;exact⟨u,r,.inl ⟨hk,by simp⟩⟩
   ·rw[Yw (W7 hj)]at e2;obtain⟨u',r',q⟩:=hl j y v' e1 e2 e3;refine⟨u',r',?_⟩;rcases q with⟨k,e⟩|⟨k,c,e,z⟩
    ·refine .inl ⟨k,?_⟩;have:y≠x:=λe=>hj (lC hN e1 (e▸hi));simp[this,e]
    ·exact .inr ⟨k,c,e,z.sameBut hs (Aw y c e)⟩
  ·obtain⟨w',z⟩:=I.cell y c e;exact⟨w',z.sameBut hs (Aw y c e)⟩
  ·obtain⟨e,n,ne,nf,d⟩:=I.pin p hp;exact⟨(hs.2 p.1 ne).trans e,n,ne,nf,d⟩
 ·have OT:X.fn x=true:=by
   rcases hf with z|z
   ·exact z
   ·rw[z]at hk;cases hk
  obtain⟨c,hc⟩:=I.ok.has x (.inl hk);obtain⟨w',z⟩:=I.cell x c hc;refine wpAny_storeName_cell I.ok.kind hk hc z (λh' lN hs=>?_);obtain⟨oc,CO,Ot⟩:=id z;refine h {s with heap:=h'} ⟨I.ok,I.os,I.bare,⟨λb o e n hb hx=>?_,λb o e n hb hx=>?_,I.base.free,λb o e hx=>?_,I.base.gQ,I.base.gH,I.base.gR⟩,⟨m,hn.sameBut hs (W7 (Aw x c hc)),λj y v' e1 e2 e3=>?_⟩,λy c' e=>?_,I.free,I.c_,λp hp=>?_,tracked ⟨oc,CO,I.c_ x c hc⟩ hs,by simpa using I.len⟩ ⟨c,hs,.inr hc⟩
  ·exact(hs.2 b (VN (Vn (U_ e) (I.ok.EH x c OT hc)))).trans (I.base.keep b o e n hb hx)
  ·obtain⟨sl,e1⟩:=I.base.slot b o e n hb hx;exact⟨sl,(hs.2 b (VN (Vn (U_ e) (I.ok.EH x c OT hc)))).trans e1⟩
  ·obtain⟨o',e1⟩:=I.base.there b o e hx;exact⟨o',(hs.2 b (VN (Vn (U_ e) (I.ok.EH x c OT hc)))).trans e1⟩
  ·by_cases hj:j=i
   ·subst hj;rw[hi]at e1;cases e1;rw[List.getElem?_set_self Lc]at e2;cases e2;exact⟨u,r,.inr ⟨.inl hk,c,hc,lN⟩⟩
   ·rw[Yw (W7 hj)]at e2;obtain⟨u',r',q⟩:=hl j y v' e1 e2 e3;refine⟨u',r',?_⟩;rcases q with q|⟨k,c',e,z'⟩
    ·exact .inl q
    ·refine .inr ⟨k,c',e,z'.sameBut hs ?_⟩;rintro rfl;exact hj (lC hN e1 (I.ok.inj _ _ _ e hc▸hi))
  ·by_cases QK:c'=c
   ·subst QK;exact⟨_,lN⟩
   ·obtain⟨w2,z2⟩:=I.cell y c' e;exact⟨w2,z2.sameBut hs QK⟩
  ·obtain⟨e,n,ne,nf,d⟩:=I.pin p hp;refine⟨(hs.2 p.1 ?_).trans e,n,ne,nf,d⟩;intro q;rw[q,CO]at e;have q':oc=p.2:=VE e;exact d w' (by rw[<- q'];exact Ot)
theorem kQ {M:YW}{A:VO}{E:UK->UL->Prop}{i:Nat}{x:Str}{v:V}{u:UK}{Q:Unit->UL->Prop}(I:Inv X pins σ H s)(hN:X.N.Nodup)(hi:X.N[i]?=some x)(hx:Loc X.env.scope x)(r:RelV v u)
  (h:∀s',Inv X pins (σ.set i (some v)) H s'->Q () s') (hf:X.fn x=true\/X.env.scope.names.lookup x=some .local:=by first|exact .inl rfl|exact .inr rfl|assumption):Vp M A (storeName X.env x u) Q E s :=
 mT I hN hi hx r (λs' I' _=>h s' I') hf
theorem Inv.EG {s':UL}{ch:List Addr}(I:Inv X pins σ H s)(ho:s'.os=s.os)(u:Un (fQ X.stack) ch H H' s.heap s'.heap)(bo:fL X.prog X.w H' s'.heap)(hg:Yc s'.gens)
  (uQ:∀b∈ch,(b∈X.ex\/X.s₀.heap.objs.size<=b)/\b≠X.env.locals/\(∀x c,X.env.cells.lookup x=some c->c≠b)/\∀p∈X.pn++pins,p.1≠b):Inv X pins σ H' s':=by
 obtain⟨h',g',d',t',o'⟩:=s';have e:o'=s.os:=ho;subst e;exact I.call (g':=g') (t':=t') (d':=d') u bo hg uQ
end
abbrev XK:=UK->Option Addr->Hp->Prop
abbrev St:=List (Option V)
abbrev VK:=V->Hp->Prop
abbrev TE:=St->Hp->VK->Prop
abbrev TT:=St->Hp->(Bool->Hp->Prop)->Prop
abbrev TA:=St->Hp->(List V->Hp->Prop)->Prop
structure Ends where
 nx:St->Hp->Prop
 rt:VK
 bk:St->Hp->Prop:=λ_ _=>False
 ct:St->Hp->Prop:=λ_ _=>False
abbrev TS:=Ends->St->Hp->Prop
def EP (X:Cx)(pins:List (Addr×Obj))(σ:St)(Q:VK)(u:UK)(s':UL):Prop:=∃v H',Inv X pins σ H' s'/\RelV v u/\Q v H'
def TP (X:Cx)(pins:List (Addr×Obj))(σ:St)(Q:Bool->Hp->Prop)(b:Bool)(s':UL):Prop:=∃H',Inv X pins σ H' s'/\Q b H'
def AP (X:Cx)(pins:List (Addr×Obj))(σ:St)(Q:List V->Hp->Prop)(us:List UK)(s':UL):Prop:=∃vs H',Inv X pins σ H' s'/\Vals vs us/\Q vs H'
def SP (X:Cx)(pins:List (Addr×Obj))(D:Ends)(f:Flow)(s':UL):Prop :=
 match f with
 |.next=>∃σ' H',Inv X pins σ' H' s'/\D.nx σ' H'
 |.brk=>∃σ' H',Inv X pins σ' H' s'/\D.bk σ' H'
 |.cont=>∃σ' H',Inv X pins σ' H' s'/\D.ct σ' H'
 |.ret u=>∃v σ' H',Inv X pins σ' H' s'/\RelV v u/\D.rt v H'
def PE (X:Cx)(e:Expr)(t:TE):Prop :=
 ∀(pins:List (Addr×Obj)) (s:UL) (σ:St) (H:Hp) (Q:VK),Inv X pins σ H s->t σ H Q->Vp (model X.prog X.w) X.A (eval e X.env) (EP X pins σ Q) X.xe s
def PT (X:Cx)(e:Expr)(t:TT):Prop :=
 ∀(pins:List (Addr×Obj)) (s:UL) (σ:St) (H:Hp) (Q:Bool->Hp->Prop),Inv X pins σ H s->t σ H Q->Vp (model X.prog X.w) X.A (isTrue e X.env (eval e X.env)) (TP X pins σ Q) X.xe s
def PW (X:Cx)(e:Expr)(t:TT):Prop :=
 ∀(whole:Sem UK) (pins:List (Addr×Obj)) (s:UL) (σ:St) (H:Hp) (Q:Bool->Hp->Prop),Inv X pins σ H s->t σ H Q->Vp (model X.prog X.w) X.A (isTrue e X.env whole) (TP X pins σ Q) X.xe s
theorem PW.pt {X:Cx}{e:Expr}{t:TT}(h:PW X e t):PT X e t:=h _
def PA (X:Cx)(es:List Expr)(t:TA):Prop :=
 ∀(pos:Pos) (pins:List (Addr×Obj)) (s:UL) (σ:St) (H:Hp) (Q:List V->Hp->Prop),Inv X pins σ H s->t σ H Q->Vp (model X.prog X.w) X.A (spliced (V6 pos (US es X.env))) (AP X pins σ Q) X.xe s
def PS (X:Cx)(st:Stmt)(t:TS):Prop :=
 ∀(pins:List (Addr×Obj)) (s:UL) (σ:St) (H:Hp) (D:Ends),Inv X pins σ H s->t D σ H->Vp (model X.prog X.w) X.A (exec st X.env) (SP X pins D) X.xe s
def pA (X:Cx)(st:List Stmt)(t:TS):Prop :=
 ∀(pins:List (Addr×Obj)) (s:UL) (σ:St) (H:Hp) (D:Ends),Inv X pins σ H s->t D σ H->Vp (model X.prog X.w) X.A (execs st X.env) (SP X pins D) X.xe s
theorem bw {α:Type}{t:Sem α}{Q Q':α->UL->Prop}{M:YW}{A:VO}{E:UK->UL->Prop}{s:UL}(h:Vp M A t Q E s)(hQ:∀a s,Q a s->Q' a s):Vp M A t Q' E s:=Xl h hQ λ_ _ x=>x
section
variable {X:Cx}
def IF (i:Nat):TE:=λσ H Q=>∃v,σ[i]?=some (some v)/\Q v H
def tC (v:V):TE:=λ_ H Q=>Q v H
theorem cL {i:Nat} {x:Str} {pos:Pos} (hN:X.N[i]?=some x) (hv:rM X.env.scope x) (hd:(x==("__debug__" : Str))=false:=by decide) (fH:(x==("__classdict__" : Str))=false:=by decide):PE X (.Name x pos) (IF i):=by
 intro pins s σ H Q I h;obtain⟨v,e,h⟩:=h;obtain⟨m,hn,hl⟩:=I.loc;obtain⟨u,r,l⟩:=hl i x v hN e hv;have fin:EP X pins σ Q u s:=⟨v,H,I,r,h⟩;rcases l with⟨hk,hm⟩|⟨hk,c,hc,nB⟩
 ·exact wpAny_Name (wpAny_loadName_local I.ok.kind hk hn hm fin) hd
 ·rcases hk with hk|hk
  ·exact wpAny_Name (wpAny_loadName_cell I.ok.kind hk hc nB fin) hd
  ·exact wpAny_Name (wpAny_loadName_free I.ok.kind hk hc nB fin fH) hd
theorem aY {i j pos}:PE X (.Constant (.int i) j pos) (tC (.int i)):=λ_ _ _ H _ I h=>wpAny_Constant_int ⟨.int i,H,I.tok _,⟨_,rfl⟩,h⟩
theorem yT {b j pos}:PE X (.Constant (.bool b) j pos) (tC (.bl b)):=λ_ _ _ H _ I h=>Constant_bool ⟨.bl b,H,I,rfl,h⟩
theorem FO {j pos}:PE X (.Constant .none j pos) (tC .cg):=λ_ _ _ H _ I h=>Constant_none ⟨.cg,H,I,rfl,h⟩
theorem FK {x j pos}:PE X (.Constant (.str x) j pos) (tC (.str x)):=λ_ _ _ H _ I h=>Calls.Constant_str ⟨.str x,H,I.tok _,⟨_,rfl⟩,h⟩
def Gl (X:Cx)(x:Str):Prop:=X.env.kindOf x=some .globalImplicit
theorem iH {E:UK->UL->Prop}{pins:List (Addr×Obj)}{s:UL}{σ:St}{H:Hp}{x:Str}{u:UK}{pos:Pos}{Q:UK->UL->Prop}(I:Inv X pins σ H s)(hg:Gl X x)(hm:X.mg x=some u)(h:Q u s)
  (hd:(x==("__debug__" : Str))=false:=by decide):Vp (model X.prog X.w) X.A (eval (.Name x pos) X.env) Q E s :=
 Y_ I.ok.kind hg (Calls.loadGlobal_global (by rw[I.ok.glob];exact I.mod.glob.keeps I.bk) hm h) hd
theorem jm {E:UK->UL->Prop}{pins:List (Addr×Obj)}{s:UL}{σ:St}{H:Hp}{x:Str}{u:UK}{pos:Pos}{Q:UK->UL->Prop}(I:Inv X pins σ H s)(hg:Gl X x)(hm:X.mg x=none)(hv:VJ x=some u)(h:Q u s)
  (hn:x≠"__name__" := by decide) (hd:(x==("__debug__" : Str))=false:=by decide):Vp (model X.prog X.w) X.A (eval (.Name x pos) X.env) Q E s:=by
 obtain⟨mb,h1,h2⟩:=I.mod.blt;exact Y_ I.ok.kind hg (Calls.loadGlobal_builtin (by rw[I.ok.glob];exact I.mod.glob.keeps I.bk) hm (by rw[I.ok.blt];exact h1.keeps I.bk) ((h2 x hn).trans hv) h) hd
theorem uv {x:Str} {v:V} {u:UK} {pos:Pos} (hg:Gl X x) (hm:X.mg x=some u) (r:RelV v u) (hd:(x==("__debug__" : Str))=false:=by decide):PE X (.Name x pos) (tC v) :=
 λ_ _ _ H _ I h=>iH I hg hm ⟨v,H,I,r,h⟩ hd
theorem ux {x:Str} {v:V} {u:UK} {pos:Pos} (hg:Gl X x) (hm:X.mg x=none) (hv:VJ x=some u) (r:RelV v u) (hn:x≠"__name__" := by decide) (hd:(x==("__debug__" : Str))=false:=by decide):PE X (.Name x pos) (tC v) :=
 λ_ _ _ H _ I h=>jm I hg hm hv ⟨v,H,I,r,h⟩ hn hd
variable {a b:Expr}{ta tb:TE}{pos:Pos}
theorem qg (b:Expr){op:XZ}(h:op≠.In)(h2:op≠.NotIn):WN op b=false:=by
 have e1:(op==CmpOp.In)=false:=by cases op <;> first|rfl|exact absurd rfl h
 have e2:(op==CmpOp.NotIn)=false:=by cases op <;> first|rfl|exact absurd rfl h2
 cases b <;> simp[WN,e1,e2]
def tB (t:TE):TT:=λσ H Q=>t σ H λx H1=>∃c,x=.bl c/\Q c H1
theorem FA {e:Expr}{t:TE}(h:PE X e t)(he:∀whole,isTrue e X.env whole=(do let v <- whole;Y4 e.pos;holding [v] (truthy v)):=by intro _;rfl):PT X e (tB t):=by
 intro pins s σ H Q I hw;refine isTrue_plain (bw (h pins s σ H _ I hw) λv s1 ⟨x,H1,I1,r1,q1⟩=>?_) (he _);obtain⟨d,rfl,q⟩:=q1;cases r1;exact Wk ⟨H1,I1,q⟩
variable {tA LY:TT}{rest:List Expr}
def M5 (t u:TT):TT:=λσ H Q=>t σ H λc H1=>if c=true then u σ H1 Q else Q false H1
def Rl (t u:TT):TT:=λσ H Q=>t σ H λc H1=>if c=true then Q true H1 else u σ H1 Q
def MY (t:TT):TT:=λσ H Q=>t σ H λc H1=>Q (!c) H1
theorem pw_and1 (ha:PT X a tA):PW X (.BoolOp .And [a] pos) tA:=by
 intro wh pins s σ H Q I h;refine isTrue_and (bw (ha pins s σ H Q I h) λc s1 e=>?_);cases c with
 |true=>exact isTrue_and_nil e
 |false=>exact e
theorem pw_or1 (ha:PT X a tA):PW X (.BoolOp .Or [a] pos) tA:=by
 intro wh pins s σ H Q I h;refine isTrue_or (bw (ha pins s σ H Q I h) λc s1 e=>?_);cases c with
 |false=>exact isTrue_or_nil e
 |true=>exact e
theorem pw_and (ha:PT X a tA)(hb:PW X (.BoolOp .And (b::rest) pos) LY):PW X (.BoolOp .And (a::b::rest) pos) (M5 tA LY):=by
 intro wh pins s σ H Q I h;refine isTrue_and (bw (ha pins s σ H _ I h) λc s1 ⟨H1,I1,q1⟩=>?_);cases c with
 |true=>exact hb wh pins s1 σ H1 Q I1 q1
 |false=>exact⟨H1,I1,q1⟩
theorem pw_or (ha:PT X a tA)(hb:PW X (.BoolOp .Or (b::rest) pos) LY):PW X (.BoolOp .Or (a::b::rest) pos) (Rl tA LY):=by
 intro wh pins s σ H Q I h;refine isTrue_or (bw (ha pins s σ H _ I h) λc s1 ⟨H1,I1,q1⟩=>?_);cases c with
 |true=>exact⟨H1,I1,q1⟩
 |false=>exact hb wh pins s1 σ H1 Q I1 q1
theorem FC (ha:PT X a tA):PT X (.UnaryOp .Not a pos) (MY tA):=by
 intro pins s σ H Q I h;exact isTrue_not (ha pins s σ H (λc H1=>Q (!c) H1) I h)
def IT (ta tb:TE):TE:=λσ H Q=>ta σ H λx H1=>∃c,x=.bl c/\if c=true then tb σ H1 Q else Q (.bl false) H1
def MX (ta tb:TE):TE:=λσ H Q=>ta σ H λx H1=>∃c,x=.bl c/\if c=true then Q (.bl true) H1 else tb σ H1 Q
def IK (ta:TE):TE:=λσ H Q=>ta σ H λx H1=>∃c,x=.bl c/\Q (.bl (!c)) H1
theorem FL {op}{t:TE}(h:PE X a t):PE X (.BoolOp op [a] pos) t:=λpins s σ H Q I hw=>BoolOp_one (h pins s σ H Q I hw)
theorem FQ (ha:PE X a ta)(hb:PE X (.BoolOp .And (b::rest) pos) tb):PE X (.BoolOp .And (a::b::rest) pos) (IT ta tb):=by
 intro pins s σ H Q I h;refine BoolOp_and (bw (ha pins s σ H _ I h) λv s1 ⟨x,H1,I1,r1,q1⟩=>?_);obtain⟨c,rfl,q1⟩:=q1;cases r1;refine Wk ?_;cases c with
 |true=>exact hb pins s1 σ H1 Q I1 q1
 |false=>exact⟨.bl false,H1,I1,rfl,q1⟩
theorem Js (ha:PE X a ta)(hb:PE X (.BoolOp .Or (b::rest) pos) tb):PE X (.BoolOp .Or (a::b::rest) pos) (MX ta tb):=by
 intro pins s σ H Q I h;refine BoolOp_or (bw (ha pins s σ H _ I h) λv s1 ⟨x,H1,I1,r1,q1⟩=>?_);obtain⟨c,rfl,q1⟩:=q1;cases r1;refine Wk ?_;cases c with
 |false=>exact hb pins s1 σ H1 Q I1 q1
 |true=>exact⟨.bl true,H1,I1,rfl,q1⟩
theorem FN (ha:PE X a ta):PE X (.UnaryOp .Not a pos) (IK ta):=by
 intro pins s σ H Q I h;refine UnaryOp_ (bw (ha pins s σ H _ I h) λv s1 ⟨x,H1,I1,r1,q1⟩=>?_);obtain⟨c,rfl,q1⟩:=q1;cases r1;exact not_of (Wk ⟨.bl (!c),H1,I1,rfl,q1⟩)
end
def dO (K:PySem.W.Frag)(H:Hp)(a:Addr)(xs:List V):Prop :=
 Rd H a (.lst xs) \/
  ∃(o:Obj) (its:Array UK) (n:Nat),K.lookup a=some o/\o.cls=.type "list" /\ o.dict=none/\o.data=.seq its n/\its.size<=UW/\Vals xs its.toList
def tP (K:PySem.W.Frag)(H:Hp)(a:Addr)(xs:List V):Prop :=
 Rd H a (.tup xs) \/
  ∃(o:Obj) (its:Array UK) (n:Nat),K.lookup a=some o/\o.cls=.type "tuple" /\ o.data=.seq its n/\its.size<=UW/\Vals xs its.toList
def Pm:UK->Option V
 |.none=>some .cg
 |.bool b=>some (.bl b)
 |.int i _=>some (.int i)
 |.str x _=>some (.str x)
 |.bytes b _=>some (.Ph b)
 |.float b _=>some (.Ij b)
 |.ref a=>some (.ref a)
 |.type n=>some (.ty n)
 |_=>none
theorem RelV.abs {x:V}{u:UK}(r:RelV x u):Pm u=some x:=by
 cases x with
 |cg=>cases r;rfl
 |bl _=>cases r;rfl
 |int _=>obtain⟨t,rfl⟩:=r;rfl
 |str _=>obtain⟨t,rfl⟩:=r;rfl
 |Ph _=>obtain⟨t,rfl⟩:=r;rfl
 |Ij _=>obtain⟨t,rfl⟩:=r;rfl
 |ref _=>cases r;rfl
 |ty _=>cases r;rfl
theorem RelV.inj {x y:V}{u:UK}(r:RelV x u)(q:RelV y u):x=y:=VE (r.abs.symm.trans q.abs)
theorem Vals.inj:∀{xs ys:List V} {us:List UK},Vals xs us->Vals ys us->xs=ys
 |_,_,_,.nil,.nil=>rfl
 |_,_,_,.cons r t,.cons r' t'=>by rw[r.inj r',Vals.inj t t']
section
variable {X:Cx}{pins:List (Addr×Obj)}{σ:St}{H:Hp}{s:UL}{a:Addr}{xs ys:List V}
theorem dO.of {K:PySem.W.Frag}(h:H a=some (.lst xs)):dO K H a xs:=.inl (.inl h)
theorem tP.of {K:PySem.W.Frag}(h:H a=some (.tup xs)):tP K H a xs:=.inl (.inl h)
theorem Inv.list (I:Inv X pins σ H s)(h:dO X.K H a xs):∃its:List UK,Vals xs its/\PlainL s.heap a its.toArray/\xs.length<=UW:=by
 rcases h with h|⟨o,its,n,hk,hc,hd,hs,hz,r⟩
 ·obtain⟨z,its,n,r,e⟩:=h.ok I.bo;exact⟨its,r,⟨_,n,e,rfl,rfl,rfl⟩,z⟩
 ·refine⟨its.toList,r,⟨o,n,I.lI a o hk,hc,hd,by simpa using hs⟩,?_⟩
  have e:=r.length;simp only[Vj]at e;lia
theorem Inv.tuple (I:Inv X pins σ H s)(h:tP X.K H a xs):∃its:List UK,Vals xs its/\IsTup s.heap a its.toArray/\xs.length<=UW:=by
 rcases h with h|⟨o,its,n,hk,hc,hs,hz,r⟩
 ·obtain⟨z,its,r,p⟩:=h.ok I.bo;exact⟨its,r,p,z⟩
 ·refine⟨its.toList,r,⟨o,I.lI a o hk,hc,n,by simpa using hs⟩,?_⟩
  have e:=r.length;simp only[Vj]at e;lia
theorem Inv.zu (I:Inv X pins σ H s)(h:dO X.K H a xs)(h':dO X.K H a ys):xs=ys:=by
 obtain⟨its,r,⟨o,n,e,_,_,d⟩,_⟩:=I.list h;obtain⟨its',r',⟨o',n',e',_,_,d'⟩,_⟩:=I.list h';rw[e]at e';cases e';rw[d]at d';injection d' with d1 _
 have:its=its':=by simpa using congrArg Array.toList d1
 subst this;exact r.inj r'
end
abbrev Cx.kz (X:Cx)(E:UK->UL->Prop):Cx:={X with xe:=E}
abbrev Cx.sF (X:Cx):Cx:=X.kz λ_ _=>False
theorem Cx.Ok.kz {X:Cx}(ok:X.Ok)(E:UK->UL->Prop):(X.kz E).Ok :=
 ⟨ok.mod,ok.kind,ok.glob,ok.blt,ok.above,ok.inj,ok.has,ok.EH,ok.hd,ok.frames,ok.Fb,ok.Hn,ok.bs,ok.AG,ok.qf,ok.qW,ok.iM,ok.C0⟩
theorem Cx.Ok.e8 {X:Cx}{E:UK->UL->Prop}(ok:(X.kz E).Ok):X.Ok :=
 ⟨ok.mod,ok.kind,ok.glob,ok.blt,ok.above,ok.inj,ok.has,ok.EH,ok.hd,ok.frames,ok.Fb,ok.Hn,ok.bs,ok.AG,ok.qf,ok.qW,ok.iM,ok.C0⟩
section
variable {X:Cx}{pins:List (Addr×Obj)}{σ:St}{H:Hp}{s:UL}{E:UK->UL->Prop}
theorem Inv.kz (I:Inv X pins σ H s)(E:UK->UL->Prop):Inv (X.kz E) pins σ H s:=⟨I.ok.kz E,I.os,I.bare,I.base,I.loc,I.cell,I.free,I.c_,I.pin,I.bo,I.len⟩
theorem Inv.e8 (I:Inv (X.kz E) pins σ H s):Inv X pins σ H s:=⟨I.ok.e8,I.os,I.bare,I.base,I.loc,I.cell,I.free,I.c_,I.pin,I.bo,I.len⟩
theorem SP.e8 {D:Ends}{f:Flow}{s':UL}(h:SP (X.kz E) pins D f s'):SP X pins D f s':=by
 cases f with
 |next=>obtain⟨σ',H',I,q⟩:=h;exact⟨σ',H',I.e8,q⟩
 |brk=>obtain⟨σ',H',I,q⟩:=h;exact⟨σ',H',I.e8,q⟩
 |cont=>obtain⟨σ',H',I,q⟩:=h;exact⟨σ',H',I.e8,q⟩
 |ret u=>obtain⟨v,σ',H',I,r,q⟩:=h;exact⟨v,σ',H',I.e8,r,q⟩
theorem pA.sF {st:List Stmt}{t:TS}(h:pA X.sF st t):pA X st t:=λpins s σ H D I hw =>
 Xl (h pins s σ H D (I.kz _) hw) (λ_ _ q=>q.e8) λ_ _ z=>Wu z
end
section
variable {X:Cx}{st:Stmt}{rest:List Stmt}{t u:TS}{e:Expr}{te:TE}{pos:Pos}
def IM:TS:=λD σ H=>D.nx σ H
def MV (t u:TS):TS:=λD σ H=>t {D with nx:=u D} σ H
theorem ot:pA X [] IM:=λ_ _ σ H _ I h=>XQ ⟨σ,H,I,h⟩
theorem bX (h1:PS X st t)(h2:pA X rest u):pA X (st::rest) (MV t u):=by
 intro pins s σ H D I h;refine wpAny_execs_cons (bw (h1 pins s σ H {D with nx:=u D} I h) λf s1 q=>?_)
 cases f with
 |next =>
  obtain⟨σ',H',I',q⟩:=q;exact h2 pins s1 σ' H' D I' q
 |ret v=>exact q
 |brk=>exact q
 |cont=>exact q
theorem d7 (h1:PS X st t):pA X [st] t:=by
 intro pins s σ H D I h;refine wpAny_execs_cons (bw (h1 pins s σ H D I h) λf s1 q=>?_);cases f with
 |next=>exact XQ q
 |ret v=>exact q
 |brk=>exact q
 |cont=>exact q
theorem Inv.quiet {pins:List (Addr×Obj)}{σ:St}{H:Hp}{s:UL}(I:Inv X pins σ H s):interactive X.env=false:=by simp[interactive,I.ok.kind]
def IP (te:TE):TS:=λD σ H=>te σ H λ_ H1=>D.nx σ H1
theorem oz (he:PE X e te)(hs:Wf e none pos.line X.env=pure false:=by rfl):PS X (.Expr e pos) (IP te):=by
 intro pins s σ H D I h;exact wpAny_Expr_any (bw (he pins s σ H _ I h) λv s1 GJ=> by obtain⟨x,H1,I1,r1,q1⟩ := GJ;exact⟨σ,H1,I1,q1⟩) I.quiet hs
def MW (te:TE):TS:=λD σ H=>te σ H D.rt
theorem f7 (he:PE X e te):PS X (.Return (some e) pos) (MW te):=by
 intro pins s σ H D I h;exact wpAny_Return_some (bw (he pins s σ H _ I h) λv s1 CM=> by obtain⟨x,H1,I1,r1,q1⟩ := CM;exact⟨x,σ,H1,I1,r1,q1⟩)
def M0 (c:TT)(t u:TS):TS:=λD σ H=>c σ H λb H1=>if b=true then t D σ H1 else u D σ H1
theorem yC {c:Expr}{a b:List Stmt}{tc:TT}(hc:PT X c tc)(ha:pA X a t)(hb:pA X b u):PS X (.If c a b pos) (M0 tc t u):=by
 intro pins s σ H D I h;refine wpAny_If (bw (hc pins s σ H _ I h) λd s1 ⟨H1,I1,q1⟩=>?_);cases d with
 |true=>exact ha pins s1 σ H1 D I1 q1
 |false=>exact hb pins s1 σ H1 D I1 q1
end
abbrev TG:=V->St->Hp->(St->Hp->Prop)->Prop
abbrev EJ:=List V->St->Hp->(St->Hp->Prop)->Prop
def PG (X:Cx)(target:Expr)(t:TG):Prop :=
 ∀(pins:List (Addr×Obj)) (s:UL) (σ:St) (H:Hp) (v:V) (u:UK) (Q:St->Hp->Prop),Inv X pins σ H s->RelV v u->t v σ H Q ->
  Vp (model X.prog X.w) X.A (assign target X.env u) (λ_ s'=>∃σ' H',Inv X pins σ' H' s'/\Q σ' H') X.xe s
def EL (X:Cx)(ts:List Expr)(t:EJ):Prop :=
 ∀(pins:List (Addr×Obj)) (s:UL) (σ:St) (H:Hp) (vs:List V) (us:List UK) (Q:St->Hp->Prop),Inv X pins σ H s->Vals vs us->t vs σ H Q ->
  Vp (model X.prog X.w) X.A (assignInOrder ((WI ts X.env).map (·.2)) us) (λ_ s'=>∃σ' H',Inv X pins σ' H' s'/\Q σ' H') X.xe s
abbrev HH:=V->V->V->Hp->(Hp->Prop)->Prop
def LN (X:Cx)(t:HH):Prop :=
 ∀(pins:List (Addr×Obj)) (s:UL) (σ:St) (H:Hp) (o i v:V) (ov iv u:UK) (Q:Hp->Prop),Inv X pins σ H s->RelV o ov->RelV i iv->RelV v u->t o i v H Q ->
  Vp (model X.prog X.w) X.A (setItem ov iv u) (λ_ s'=>∃H',Inv X pins σ H' s'/\Q H') X.xe s
section
variable {X:Cx}{pos:Pos}
def uS (i:Nat):TG:=λv σ H Q=>Q (σ.set i (some v)) H
theorem uu {i:Nat}{x:Str}(hN:X.N.Nodup)(hi:X.N[i]?=some x)(hx:Loc X.env.scope x)(hf:X.fn x=true\/X.env.scope.names.lookup x=some .local:=by first|exact .inl rfl|exact .inr rfl|assumption):PG X (.Name x pos) (uS i):=by
 intro pins s σ H v u Q I r h;exact wpAny_assign_Name (kQ I hN hi hx r (λs' I'=>⟨_,H,I',h⟩) hf)
def Hj:EJ:=λvs σ H Q=>vs=[]/\Q σ H
def z5 (t:TG)(u:EJ):EJ:=λvs σ H Q=>∃v r,vs=v::r/\t v σ H λσ' H'=>u r σ' H' Q
theorem BY:EL X [] Hj:=by
 intro pins s σ H vs us Q I r h;obtain⟨e,h⟩:=h;subst e;cases r;exact assignInOrder_nil ⟨σ,H,I,h⟩
theorem yP {e:Expr}{es:List Expr}{t:TG}{u:EJ}(h1:PG X e t)(h2:EL X es u)
  (hs:(WI (e::es) X.env).map (·.2)=assign e X.env::(WI es X.env).map (·.2):=by rfl):EL X (e::es) (z5 t u):=by
 intro pins s σ H vs us Q I r h;obtain⟨v,vr,e1,h⟩:=h;subst e1;cases r with
 |cons r rr =>
  rw[hs];refine assignInOrder_cons (bw (h1 pins s σ H _ _ _ I r h) λ_ s1 ⟨σ1,H1,I1,q1⟩=>?_);exact h2 pins s1 σ1 H1 _ _ Q I1 rr q1
def O2 (K:PySem.W.Frag)(n:Nat)(t:EJ):TG:=λv σ H Q=>∃a xs,v=.ref a/\tP K H a xs/\xs.length=n/\t xs σ H Q
theorem FJ {es:List Expr}{k:Nat}{t:EJ}{n:Nat}(hc:X.calm=true)(h:EL X es t)
  (hn:(WI es X.env).length=n:=by rfl) (nv:(WI es X.env).findIdx? (·.1)=none:=by rfl):PG X (.Tuple es k pos) (O2 X.K n t):=by
 intro pins s σ H v u Q I r hw;obtain⟨a,xs,e1,hq,hl,hw⟩:=hw;subst e1;cases r;obtain⟨its,rv,ht,hz⟩:=I.tuple hq;refine assign_Tuple_tuple (I.ok.hd hc) ht (by simp[hn,<- hl,rv.length]) nv λh' hx=>?_
 have I1:Inv X pins σ H {s with heap:=h'}:=I.kept (t':=s.toks) λb o e=>hx b o (VN (U_ e)) e
 exact h pins _ σ H xs _ Q I1 (by simpa using rv) hw
def O3 (to ti:TE)(t:HH):TG:=λv σ H Q=>to σ H λo H1=>ti σ H1 λi H2=>t o i v H2 λH3=>Q σ H3
theorem yQ {o i:Expr}{to ti:TE}{t:HH}(ho:PE X o to)(hi:PE X i ti)(hs:LN X t)
  (ha:∀v,assign (.Subscript o i pos) X.env v=(do
   let ov <- holding [v] (eval o X.env)
   let iv <- holding [v,ov] (eval i X.env)
   Y4 pos
   holding [v,ov,iv] (setItem ov iv v)
   release [v,ov,iv] []):=by intro _;rfl):PG X (.Subscript o i pos) (O3 to ti t):=by
 intro pins s σ H v u Q I r h;rw[ha];refine UM (Wx (bw (ho pins s σ H _ I h) λov s1 ⟨x,H1,I1,r1,q1⟩=>?_));refine UM (Wx (bw (hi pins s1 σ H1 _ I1 q1) λiv s2 ⟨y,H2,I2,r2,q2⟩=>?_));refine UM (Xa (UM (Wx (bw (hs pins s2 σ H2 x y v ov iv u _ I2 r1 r2 r q2) λ_ s3 ⟨H3,I3,q3⟩=>?_))));exact wpAny_release ⟨σ,H3,I3,q3⟩
def IS (te:TE)(g:TG):TS:=λD σ H=>te σ H λx H1=>g x σ H1 D.nx
theorem sA {tg e:Expr}{te:TE}{g:TG}(he:PE X e te)(hg:PG X tg g)(hs:swapsWithSole [tg] e pos.line X.env=pure false:=by rfl)(hw:swappedStores [tg] e X.env=pure none:=by rfl)
  (h1:(WI [tg] X.env).map (·.2)=[assign tg X.env]:=by rfl):PS X (.Assign [tg] e pos) (IS te g):=by
 intro pins s σ H D I h;refine wpAny_Assign_stores (bw (he pins s σ H _ I h) λv s1 ⟨x,H1,I1,r1,q1⟩=>?_) hs hw;rw[h1];exact bw (hg pins s1 σ H1 x v _ I1 r1 q1) λ_ s2 q=>q
theorem gW {i:Nat}{x:Str}{e:Expr}{te:TE}{pos':Pos}(hN:X.N.Nodup)(hi:X.N[i]?=some x)(hx:Loc X.env.scope x)(he:PE X e te)(hs:Wf e (some (.Name x pos')) pos.line X.env=pure false:=by rfl)(hf:X.fn x=true\/X.env.scope.names.lookup x=some .local:=by first|exact .inl rfl|exact .inr rfl|assumption):
  PS X (.Assign [.Name x pos'] e pos) (IS te (uS i)):=by
 intro pins s σ H D I h;refine wpAny_Assign_Name (bw (he pins s σ H _ I h) λv s1 ⟨y,H1,I1,r1,q1⟩=>?_) hs;exact kQ I1 hN hi hx r1 (λs2 I2=>⟨_,H1,I2,q1⟩) hf
end
section
variable {X:Cx}{pos:Pos}
def E8 (c:TT)(tb:TS):TS:=λD σ H=>∃W:Nat->St->Hp->Prop,(∃m,W m σ H)/\∀m σ H,W m σ H ->
 c σ H λb H1=>if b=true then ∃N:St->Hp->Prop,(∀σ' H',N σ' H'->∃m',m'<m/\W m' σ' H')/\tb {D with nx:=N,ct:=N,bk:=D.nx} σ H1 else D.nx σ H1
theorem yB {c:Expr}{body:List Stmt}{tc:TT}{tb:TS}(hp:YS (model X.prog X.w) X.A X.env X.xe)(hc:PT X c tc)(hb:pA X body tb):PS X (.While c body [] pos) (E8 tc tb):=by
 intro pins s σ H D I h;obtain⟨W,⟨m0,w0⟩,turn⟩:=h;refine wpAny_While (codeAny_whileLoop (λn s'=>∃σ' H',Inv X pins σ' H' s'/\W n σ' H') ?_ m0 ⟨σ,H,I,w0⟩);rintro n s1 ⟨σ1,H1,I1,w1⟩;refine WM hp (bw (hc pins s1 σ1 H1 _ I1 (turn n σ1 H1 w1)) λb s2 ⟨H2,I2,q2⟩=>?_);cases b with
 |true =>
  obtain⟨N,hN,q2⟩:=q2;rw[if_pos rfl];refine WM hp (bw (hb pins s2 σ1 H2 _ I2 q2) λf s3 q3=>?_);cases f with
  |next =>
   obtain⟨σ3,H3,I3,n3⟩:=q3;obtain⟨m',hm,w3⟩:=hN σ3 H3 n3;exact⟨m',hm,σ3,H3,I3,w3⟩
  |cont =>
   obtain⟨σ3,H3,I3,n3⟩:=q3;obtain⟨m',hm,w3⟩:=hN σ3 H3 n3;exact⟨m',hm,σ3,H3,I3,w3⟩
  |brk=>exact q3
  |ret v=>exact q3
 |false =>
  rw[if_neg VX];exact XQ ⟨σ1,H2,I2,q2⟩
end
structure It where
 go:Nat->Hp->Prop
 Iy:Nat->Hp->V->Hp->Prop
 stop:Nat->Hp->Prop
def g9 (X:Cx)(pins:List (Addr×Obj))(H:Hp)(b:Addr):Prop :=
 H b=none/\b≠X.env.locals/\b∉X.fs/\(b∈X.ex\/X.s₀.heap.objs.size<=b)/\(∀x c,X.env.cells.lookup x=some c->c≠b)/\∀p∈X.pn++pins,p.1≠b
theorem Inv.C2 {X:Cx}{pins:List (Addr×Obj)}{σ:St}{H H':Hp}{s:UL}{b:Addr}(I:Inv X pins σ H s)(hb:s.heap.objs.size<=b)(hn:H' b=none):g9 X pins H' b:=by
 refine⟨hn,Nat.ne_of_gt (Vn I.lt hb),I.NC hb,.inr (Vq I.sz hb),λx c e z=>?_,λp hp z=>?_⟩
 ·obtain⟨v,q⟩:=I.cell x c e;exact absurd (Vn q.lt (by rw[z];exact hb)) (WO _)
 ·exact absurd (Vn (U_ (I.pin p hp).1) (by rw[z];exact hb)) (WO _)
structure Turn (P:UP)(w:U1)(K:PySem.W.Frag)(tg:Expr)(J:It)(fp:List Addr)(it:Addr)(tn:Nat->Heap->Prop):Prop where
 mem:it∈fp
 obj:∀i h,tn i h->∀b∈fp,∃o,h.get? b=some o/\∀v,o.data≠.cell v
 keep:∀i h h',tn i h->(∀b∈fp,∀o,h.get? b=some o->h'.get? b=some o)->tn i h'
 item:∀(X:Cx),X.prog=P->X.w=w->X.K=K->X.calm=true->∀(i:Nat) (pins:List (Addr×Obj)) (s:UL) (σ:St) (H:Hp) (E:UK->UL->Prop),Inv X pins σ H s->(∀b∈fp,g9 X pins H b)->tn i s.heap->J.go i H ->
  Vp (model P w) X.A (Y5 (.ref it)) (λr s1=>∃u,r=some u /\
   Vp (model P w) X.A (Yp tg (.ref it) u) (λ_ s2=>∃x H',Inv X pins σ H' s2/\RelV x u/\J.Iy i H x H'/\tn (i+1) s2.heap/\∀b∈fp,H' b=none) E s1) E s
 done:∀(X:Cx),X.prog=P->X.w=w->X.K=K->X.calm=true->∀(i:Nat) (pins:List (Addr×Obj)) (s:UL) (σ:St) (H:Hp) (E:UK->UL->Prop),Inv X pins σ H s->(∀b∈fp,g9 X pins H b)->tn i s.heap->J.stop i H ->
  Vp (model P w) X.A (Y5 (.ref it)) (λr s1=>r=none/\Inv X pins σ H s1) E s
 self:∀(A:VO) (i:Nat) (s:UL) (Q:UK->UL->Prop) (E:UK->UL->Prop),tn i s.heap->Q (.ref it) s->Vp (model P w) A (Y6 (.ref it)) Q E s
abbrev TI:=St->Hp->(It->Hp->Prop)->Prop
def MH (X:Cx)(pins:List (Addr×Obj))(σ:St)(tg:Expr)(R:It->Hp->Prop)(Ej:UK)(s2:UL):Prop :=
 ∃(it:Addr) (fp:List Addr) (tn:Nat->Heap->Prop) (J:It) (H':Hp),Ej=.ref it/\Inv X pins σ H' s2/\Turn X.prog X.w X.K tg J fp it tn/\tn 0 s2.heap/\(∀b∈fp,g9 X pins H' b)/\R J H'
def PI (X:Cx)(tg iter:Expr)(wi:TI):Prop :=
 ∀(pins:List (Addr×Obj)) (s:UL) (σ:St) (H:Hp) (R:It->Hp->Prop),Inv X pins σ H s->wi σ H R ->
  Vp (model X.prog X.w) X.A (eval iter X.env) (λv s1=>Vp (model X.prog X.w) X.A (Y6 v) (MH X pins σ tg R) X.xe s1) X.xe s
theorem z4 {M:YW}{A:VO}{E:UK->UL->Prop}{s:UL}{tg:Expr}{it:Addr}{u:UK}{o:Obj}{n:String}{vs:Array UK}{Q:Unit->UL->Prop}(ho:s.heap.get? it=some o)(hc:o.cls=.type n)(hd:o.data=.fields vs)
  (hn:["enumerate","zip","dict_itemiterator","dict_reverseitemiterator","odict_iterator","itertools.zip_longest","itertools.pairwise"].contains n=false) (hQ:Q () s):Vp M A (Yp tg (.ref it) u) Q E s:=by
 unfold Yp;cases tg <;> first
  |exact U6 hQ
  | (cases u <;> first
    |exact U6 hQ
    | (refine UM (wpAny_load ho ?_)
       rw[hc,hd];show Vp M A (if (["enumerate","zip","dict_itemiterator","dict_reverseitemiterator","odict_iterator","itertools.zip_longest","itertools.pairwise"].contains n&&vs[0]?==some (rawInt _))=true then _ else _) Q E s
       rw[if_neg (by intro h;rw[hn,W5]at h;cases h)]
       exact U6 hQ))
def ML (K:PySem.W.Frag)(a:Addr):It :=
 ⟨λi H=>∃xs x,dO K H a xs/\xs[i]?=some x,λi H x H'=>H'=H/\∀xs,dO K H a xs->xs[i]?=some x,λi H=>∃xs,dO K H a xs/\xs.length<=i⟩
def LQ (lo:Int)(n:Nat):It:=⟨λi _=>i<n,λi H x H'=>H'=H/\x=.int (lo+i),λi _=>n<=i⟩
theorem vB {P:UP}{w:U1}{K:PySem.W.Frag}{tg:Expr}(a it:Addr):Turn P w K tg (ML K a) [it] it (λi h=>h.IsListIter it a i) where
 mem:=by simp
 obj:=λi h st b hb=>by
  have e:b=it:=by simpa using hb
  subst e;obtain⟨o,e,c,d⟩:=st;exact⟨o,e,λv z=>by rw[d]at z;cases z⟩
 keep:=λi h h' st k=>st.at λo e=>k it (by simp) o e
 item:=by
  intro X hP hw hK hc i pins s σ H E I hf st hg;subst hP hw hK;obtain⟨xs,x,hq,hx⟩:=hg;obtain⟨its,rv,p,hz⟩:=I.list hq;obtain⟨u,hu,ru⟩:=rv.get hx;obtain⟨f0,f1,f2,f3,f4,f5⟩:=hf it (by simp)
  refine wpAny_pyNext_list_item st p.isList (x:=u) (by simpa using hu) λh' aA sb=>?_
  have I1:Inv X pins σ H {s with heap:=h'}:=I.turned (t':=s.toks) (λb o hb e=>(sb.2 b hb).trans e) f0 f1 f3 f4 f5
  obtain⟨o,e,c,d⟩:=id aA;exact⟨u,rfl,z4 (s:={s with heap:=h'}) e c d (by decide) ⟨x,H,I1,ru,⟨rfl,λys hy=>by rw[I.zu hy hq];exact hx⟩,aA,λb hb=>(hf b hb).1⟩⟩
 done:=by
  intro X hP hw hK hc i pins s σ H E I hf st hg;subst hP hw hK;obtain⟨xs,hq,hx⟩:=hg;obtain⟨its,rv,p,hz⟩:=I.list hq;obtain⟨f0,f1,f2,f3,f4,f5⟩:=hf it (by simp)
  have hl:=rv.length;exact wpAny_pyNext_list_end (I.ok.hd hc) st p.isList (by simp;lia) λh' eb=>⟨rfl,I.turned (t':=s.toks) (λb o hb e=>eb b o hb e) f0 f1 f3 f4 f5⟩
 self:=λ_ _ _ _ _ st h=>wpAny_pyIter_listiter st h
theorem rW {P:UP}{w:U1}{K:PySem.W.Frag}{tg:Expr}(it:Addr)(lo:Int)(n:Nat):Turn P w K tg (LQ lo n) [it] it (λi h=>YX h it (lo+(i:Nat)*1) ((n:Int)-(i:Nat)) 1) where
 mem:=by simp
 obj:=λi h st b hb=>by
  have e:b=it:=by simpa using hb
  subst e;exact⟨_,st,λv z=>by
   have z':Data.fields _=Data.cell v:=z;cases z'⟩
 keep:=λi h h' st k=>k it (by simp) _ st
 item:=by
  intro X hP hw hK hc i pins s σ H E I hf st hg;subst hP hw hK;obtain⟨f0,f1,f2,f3,f4,f5⟩:=hf it (by simp)
  have W:=Walks.range (prog:=X.prog) (w:=X.w) (I.ok.hd hc) it lo 1 n;refine W.item i s _ _ hg st λv h' tk hv aA kk=>?_;obtain⟨t,rfl⟩:=hv;have I1:Inv X pins σ H {s with heap:=h',toks:=tk}:=I.turned (λb o hb e=>kk b o (by simpa using hb) e) f0 f1 f3 f4 f5
  refine⟨_,rfl,z4 (s:={s with heap:=h',toks:=tk}) (n:="range_iterator") aA rfl rfl (by decide) ⟨.int (lo+i),H,I1,⟨t,?_⟩,⟨rfl,rfl⟩,aA,λb hb=>(hf b hb).1⟩⟩
  rw[Int.mul_one]
 done:=by
  intro X hP hw hK hc i pins s σ H E I hf st hg;subst hP hw hK;obtain⟨f0,f1,f2,f3,f4,f5⟩:=hf it (by simp)
  exact wpAny_pyNext_range_end (I.ok.hd hc) st (by have:n<=i:=hg;lia) λh' eb=>⟨rfl,I.turned (t':=s.toks) (λb o hb e=>eb b o hb e) f0 f1 f3 f4 f5⟩
 self:=λ_ _ _ _ _ st h=>wpAny_pyIter_rangeiter st h
section
variable {X:Cx}{tg:Expr}
def J6 (K:PySem.W.Frag)(tl:TE):TI:=λσ H R=>tl σ H λx H1=>∃a,x=.ref a/\(∃xs,dO K H1 a xs)/\R (ML K a) H1
theorem ur {l:Expr}{tl:TE}(hl:PE X l tl):PI X tg l (J6 X.K tl):=by
 intro pins s σ H R I h;refine bw (hl pins s σ H _ I h) λv s1 ⟨x,H1,I1,r1,q1⟩=>?_;obtain⟨a,e,⟨xs,hq⟩,q⟩:=q1;subst e;cases r1;obtain⟨its,rv,p,hz⟩:=I1.list hq;refine wpAny_pyIter_list p.isList ?_;refine⟨s1.heap.objs.size,[s1.heap.objs.size],_,_,H1,rfl,I1.kept (t':=s1.toks) λb o e=>U5 _ e,vB a _,⟨_,VF _ rfl,rfl,rfl⟩,λb hb=>?_,q⟩;have e:b=s1.heap.objs.size:=by simpa using hb
 subst e;exact I1.C2 (UO _) (I1.bo.fresh (UO _))
theorem pU {pins:List (Addr×Obj)}{σ:St}{H:Hp}{s:UL}{R:It->Hp->Prop}{E:UK->UL->Prop}{lo hi:Int}{t u v:Tok}{tk:Nat}(I:Inv X pins σ H s)(h1:-(2 ^ 62)<=lo)(h2:lo<2 ^ 62)(h3:-(2 ^ 62)<=hi)(h4:hi<2 ^ 62)
  (q:R (LQ lo (hi-lo).toNat) H):Vp (model X.prog X.w) X.A (Y6 (.ref s.heap.objs.size)) (MH X pins σ tg R) E {s with heap:=s.heap.push {cls:=.type "range",data:=.fields #[.int lo t,.int hi u,.int 1 v]},toks:=tk}:=by
 refine wpAny_pyIter_range (IsRange.new ..) (small_one h1 h2 h3 h4) ?_;have I1:Inv X pins σ H {s with heap:=s.heap.push {cls:=.type "range",data:=.fields #[.int lo t,.int hi u,.int 1 v]},toks:=tk}:=I.kept λb o e=>U5 _ e
 refine⟨(s.heap.push {cls:=.type "range",data:=.fields #[.int lo t,.int hi u,.int 1 v]}).objs.size,[(s.heap.push {cls:=.type "range",data:=.fields #[.int lo t,.int hi u,.int 1 v]}).objs.size],_,_,H,rfl,
  I1.kept (t':=tk) λb o e=>U5 _ e,rW _ lo (hi-lo).toNat,?_,λb hb=>?_,q⟩
 ·have e1:lo+((0:Nat):Int)*1=lo:=by simp
  have e2:(((hi-lo).toNat:Nat):Int)-((0:Nat):Int)=Xr lo hi 1:=by rw[rangeSize_one];split <;> lia
  show YX _ _ (lo+((0:Nat):Int)*1) ((((hi-lo).toNat:Nat):Int)-((0:Nat):Int)) 1;rw[e1,e2];exact VF _ rfl
 ·have e:b=(s.heap.push {cls:=.type "range",data:=.fields #[.int lo t,.int hi u,.int 1 v]}).objs.size:=by simpa using hb
  subst e;exact I1.C2 (UO _) (I1.bo.fresh (UO _))
def J5 (ta:TA):TI:=λσ H R=>ta σ H λvs H1=>∃j:Int,vs=[.int j]/\-(2 ^ 62)<=j/\j<2 ^ 62/\R (LQ 0 j.toNat) H1
def J4 (ta:TA):TI:=λσ H R=>ta σ H λvs H1=>∃i j:Int,vs=[.int i,.int j]/\(-(2 ^ 62)<=i/\i<2 ^ 62/\-(2 ^ 62)<=j/\j<2 ^ 62)/\R (LQ i (j-i).toNat) H1
theorem v8 {a:Expr} {ta:TA} {p pos:Pos} (hg:Gl X "range") (hm:X.mg "range" = none) (ha:PA X [a] ta) (hs:US [a] X.env=[(false,eval a X.env)]:=by rfl):PI X tg (.Call (.Name "range" p) [a] [] pos) (J5 ta):=by
 intro pins s σ H R I h;refine Call_ (jm I hg hm boot_range (WT (bw (ha pos pins s σ H _ I h) λus s1 ⟨vs,H1,I1,r1,q1⟩=>?_) hs rfl));obtain⟨j,e,q1,q2,q⟩:=q1;subst e;cases r1 with
 |cons r rr =>
  cases rr;obtain⟨t,rfl⟩:=r;exact call_range_1 (pU I1 (by lia) (by lia) q1 q2 (by simpa using q))
theorem m5 {a b:Expr} {ta:TA} {p pos:Pos} (hg:Gl X "range") (hm:X.mg "range" = none) (ha:PA X [a,b] ta) (hs:US [a,b] X.env=[(false,eval a X.env),(false,eval b X.env)]:=by rfl) (sU:US [b] X.env=[(false,eval b X.env)]:=by rfl) :
  PI X tg (.Call (.Name "range" p) [a,b] [] pos) (J4 ta):=by
 intro pins s σ H R I h;refine Call_ (jm I hg hm boot_range (WT (bw (ha pos pins s σ H _ I h) λus s1 ⟨vs,H1,I1,r1,q1⟩=>?_) (by rw[hs,sU]) (by rw[sU];rfl)))
 obtain⟨i,j,e,⟨q1,q2,q3,q4⟩,q⟩:=q1;subst e;cases r1 with
 |cons r rr =>
  cases rr with
  |cons r' rr =>
   cases rr;obtain⟨t,rfl⟩:=r;obtain⟨t',rfl⟩:=r';exact call_range_2 (pU I1 q1 q2 q3 q4 q)
def M1 (wi:TI)(g:TG)(tb:TS):TS:=λD σ H=>wi σ H λJ H1=>∃W:Nat->Nat->St->Hp->Prop,(∃m,W 0 m σ H1)/\∀i m σ H,W i m σ H ->
 (J.stop i H/\D.nx σ H)\/(J.go i H/\∃N:St->Hp->Prop,(∀σ' H',N σ' H'->∃m',m'<m/\W (i+1) m' σ' H')/\∀x H',J.Iy i H x H'->g x σ H' λσ2 H2=>tb {D with nx:=N,ct:=N,bk:=D.nx} σ2 H2)
def lq (fp:List Addr)(h:Heap):List (Addr×Obj):=fp.filterMap λb=>(h.get? b).map λo=>(b,o)
theorem fu {fp:List Addr}{h:Heap}{b:Addr}{o:Obj}(hb:b∈fp)(e:h.get? b=some o):(b,o)∈lq fp h:=YG.mpr ⟨b,hb,by rw[e];rfl⟩
theorem wm {fp:List Addr}{h:Heap}{p:Addr×Obj}(hp:p∈lq fp h):p.1∈fp/\h.get? p.1=some p.2:=by
 obtain⟨b,hb,e⟩:=YG.mp hp;cases q:h.get? b with
 |none=>rw[q]at e;cases e
 |some o =>
  rw[q]at e;have e':(b,o)=p:=VE e;subst e';exact⟨hb,q⟩
theorem Inv.pinned {pins:List (Addr×Obj)}{σ:St}{H:Hp}{s:UL}{fp:List Addr}(I:Inv X pins σ H s)(hf:∀b∈fp,g9 X pins H b)(ho:∀b∈fp,∃o,s.heap.get? b=some o/\∀v,o.data≠.cell v):Inv X (pins++lq fp s.heap) σ H s :=
 I.uo λp hp=>(Vl.mp hp).elim (λz=>I.pin p (Vu _ z)) λz=>by
  obtain⟨hb,e⟩:=wm z;obtain⟨f0,f1,f2,_⟩:=hf p.1 hb;obtain⟨o,e',d⟩:=ho p.1 hb;rw[e]at e';cases e';exact⟨e,f0,f1,f2,d⟩
theorem Inv.h9 {pins pl:List (Addr×Obj)}{σ:St}{H:Hp}{s:UL}(I:Inv X (pins++pl) σ H s):Inv X pins σ H s:=I.uo λp hp=>I.pin p (Vu _ (Wi _ hp))
theorem yD {iter:Expr}{body:List Stmt}{wi:TI}{g:TG}{tb:TS}{pos:Pos}(hp:YS (model X.prog X.w) X.A X.env X.xe)(hc:X.calm=true)(hi:PI X tg iter wi)(hg:PG X tg g)(hb:pA X body tb)
  (hs:∀x,VM iter X.env x=pure x:=by intro _;rfl):PS X (.For tg iter body [] pos) (M1 wi g tb):=by
 intro pins s σ H D I h;refine wpAny_For (bw (hi pins s σ H _ I h) λv s1 h1=>bw h1 λEj s2 h2=>?_) hs;obtain⟨it,fp,tn,J,H2,e,I2,T,fE,f2,W,⟨m0,w0⟩,turn⟩:=h2;subst e;have rZ:∀{H':Hp},(∀b∈fp,H' b=none)->∀b∈fp,g9 X pins H' b:=λhn b hb=>⟨hn b hb,(f2 b hb).2⟩;refine codeAny_forLoop_any (λn s'=>∃i σ' H',Inv X pins σ' H' s'/\tn i s'.heap/\(∀b∈fp,H' b=none)/\W i n σ' H') ?_ m0 ⟨0,σ,H2,I2,fE,λb hb=>(f2 b hb).1,w0⟩;rintro n s3 ⟨i,σ3,H3,I3,kR,Lq,w3⟩;rcases turn i n σ3 H3 w3 with⟨stop,qn⟩|⟨go,N,hN,step⟩
 ·refine WM hp (bw (T.done X rfl rfl rfl hc i pins s3 σ3 H3 X.xe I3 (rZ Lq) kR stop) λr s4 ⟨hr,I4⟩=>?_);subst hr;exact XQ ⟨σ3,H3,I4,qn⟩
 ·refine WM hp (bw (T.item X rfl rfl rfl hc i pins s3 σ3 H3 X.xe I3 (rZ Lq) kR go) λr s4 ⟨u,hr,h4⟩=>?_);subst hr;refine WM hp (bw h4 λ_ s5 ⟨x,H5,I5,r5,y5,A6,O4⟩=>?_);have Pu:=I5.pinned (rZ O4) (T.obj _ _ A6);refine WM hp (bw (hg _ s5 σ3 H5 x u _ Pu r5 (step x H5 y5)) λ_ s6 ⟨σ6,H6,I6,q6⟩=>?_);refine WM hp (bw (hb _ s6 σ6 H6 _ I6 q6) λf s7 q7=>?_);have again:∀{σ7:St} {H7:Hp},Inv X (pins++lq fp s5.heap) σ7 H7 s7->N σ7 H7->∃m,m<n/\∃i σ' H',Inv X pins σ' H' s7/\tn i s7.heap/\(∀b∈fp,H' b=none)/\W i m σ' H':=λ{σ7 H7} I7 n7=>by
   obtain⟨m',hm,w7⟩:=hN σ7 H7 n7;refine⟨m',hm,i+1,σ7,H7,I7.h9,T.keep _ _ _ A6 λb hb o e=>(I7.pin (b,o) (Vu _ (Vu _ (fu hb e)))).1,λb hb=>?_,w7⟩;obtain⟨o,e,d⟩:=T.obj _ _ A6 b hb;exact(I7.pin (b,o) (Vu _ (Vu _ (fu hb e)))).2.1
  cases f with
  |next=>obtain⟨σ7,H7,I7,n7⟩:=q7;exact again I7 n7
  |cont=>obtain⟨σ7,H7,I7,n7⟩:=q7;exact again I7 n7
  |brk=>obtain⟨σ7,H7,I7,q7⟩:=q7;exact⟨σ7,H7,I7.h9,q7⟩
  |ret v=>obtain⟨x7,σ7,H7,I7,r7,q7⟩:=q7;exact⟨x7,σ7,H7,I7.h9,r7,q7⟩
end
abbrev R2:=V->V->Hp->VK->Prop
def iW (X:Cx)(f:UK->UK->Sem UK)(r:R2):Prop :=
 ∀(pins:List (Addr×Obj)) (s:UL) (σ:St) (H:Hp) (x y:V) (v u:UK) (Q:VK),Inv X pins σ H s->RelV x v->RelV y u->r x y H Q ->
  Vp (model X.prog X.w) X.A (f v u) (EP X pins σ Q) X.xe s
def LK (X:Cx)(f:UK->Sem UK)(r:V->Hp->VK->Prop):Prop :=
 ∀(pins:List (Addr×Obj)) (s:UL) (σ:St) (H:Hp) (x:V) (v:UK) (Q:VK),Inv X pins σ H s->RelV x v->r x H Q ->
  Vp (model X.prog X.w) X.A (f v) (EP X pins σ Q) X.xe s
def eZ (X:Cx)(f:UK)(r:List V->Hp->VK->Prop):Prop :=
 ∀(pins:List (Addr×Obj)) (s:UL) (σ:St) (H:Hp) (xs:List V) (us:List UK) (Q:VK),Inv X pins σ H s->Vals xs us->r xs H Q ->
  Vp (model X.prog X.w) X.A (call f us) (EP X pins σ Q) X.xe s
def IJ (r:R2)(ta tb:TE):TE:=λσ H Q=>ta σ H λx H1=>tb σ H1 λy H2=>r x y H2 Q
def Rj (r:V->Hp->VK->Prop)(ta:TE):TE:=λσ H Q=>ta σ H λx H1=>r x H1 Q
def rI (C:Int->Int->Prop)(g:Int->Int->V):R2:=λx y H Q=>∃i j,x=.int i/\y=.int j/\C i j/\Q (g i j) H
def BI (g:Int->Int->V):R2:=λx y H Q=>∃i j,x=.int i/\y=.int j/\Q (g i j) H
def rU (g:Int->V):V->Hp->VK->Prop:=λx H Q=>∃i,x=.int i/\Q (g i) H
section
variable {X:Cx}{a b:Expr}{ta tb:TE}{pos:Pos}
theorem HD (ha:PE X a ta)(hb:PE X b tb){pins:List (Addr×Obj)}{s:UL}{σ:St}{H:Hp}{R:V->V->Hp->Prop}(I:Inv X pins σ H s)
  (h:ta σ H λx H1=>tb σ H1 λy H2=>R x y H2) {Q:UK->UL->Prop} {f:UK->UK->Sem UK}
  (hf:∀v u s2 x y H2,Inv X pins σ H2 s2->RelV x v->RelV y u->R x y H2->Vp (model X.prog X.w) X.A (f v u) Q X.xe s2) :
  Vp (model X.prog X.w) X.A (eval a X.env) (λv s₁=>Vp (model X.prog X.w) X.A (eval b X.env) (λu s₂=>Vp (model X.prog X.w) X.A (f v u) Q X.xe s₂) X.xe s₁) X.xe s:=by
 refine bw (ha pins s σ H _ I h) λv s1 ⟨x,H1,I1,r1,q1⟩=>?_;refine bw (hb pins s1 σ H1 _ I1 q1) λu s2 ⟨y,H2,I2,r2,q2⟩=>?_;exact hf v u s2 x y H2 I2 r1 r2 q2
theorem bY {op:Operator}{r:R2}(ho:iW X (Wq op) r)(ha:PE X a ta)(hb:PE X b tb):PE X (.BinOp a op b pos) (IJ r ta tb):=by
 intro pins s σ H Q I h;exact wpAny_BinOp (HD ha hb I h λv u s2 x y H2 I2 rx ry q=>ho pins s2 σ H2 x y v u Q I2 rx ry q)
theorem DW {op:UnaryOp}{r:V->Hp->VK->Prop}(ho:LK X (unaryOp op) r)(ha:PE X a ta):PE X (.UnaryOp op a pos) (Rj r ta):=by
 intro pins s σ H Q I h;exact UnaryOp_ (bw (ha pins s σ H _ I h) λv s1 zO=> by obtain⟨x,H1,I1,r1,q1⟩ := zO;exact ho pins s1 σ H1 x v Q I1 r1 q1)
theorem Jv {f:UK->UK->Sem UK}{C:Int->Int->Prop}{g:Int->Int->Int}
  (rule:∀(i j:Int) (t u:Tok) (s:UL) (Q:UK->UL->Prop) (E:UK->UL->Prop),C i j->Q (.int (g i j) s.toks) {s with toks:=s.toks+1}->Vp (model X.prog X.w) X.A (f (.int i t) (.int j u)) Q E s) :
  iW X f (rI C λi j=>.int (g i j)):=by
 intro pins s σ H x y v u Q I rx ry h;obtain⟨i,j,rfl,rfl,hc,q⟩:=h;obtain⟨t,rfl⟩:=rx;obtain⟨t',rfl⟩:=ry;exact rule i j t t' s _ _ hc ⟨.int (g i j),H,I.tok _,⟨_,rfl⟩,q⟩
theorem Ju {f:UK->UK->Sem UK}{g:Int->Int->Int}
  (rule:∀(i j:Int) (t u:Tok) (s:UL) (Q:UK->UL->Prop) (E:UK->UL->Prop),Q (.int (g i j) s.toks) {s with toks:=s.toks+1}->Vp (model X.prog X.w) X.A (f (.int i t) (.int j u)) Q E s) :
  iW X f (BI λi j=>.int (g i j)):=by
 intro pins s σ H x y v u Q I rx ry h;obtain⟨i,j,rfl,rfl,q⟩:=h;obtain⟨t,rfl⟩:=rx;obtain⟨t',rfl⟩:=ry;exact rule i j t t' s _ _ ⟨.int (g i j),H,I.tok _,⟨_,rfl⟩,q⟩
theorem Jw {f:UK->UK->Sem UK}{g:Int->Int->Bool}
  (rule:∀(i j:Int) (t u:Tok) (s:UL) (Q:UK->UL->Prop) (E:UK->UL->Prop),Q (.bool (g i j)) s->Vp (model X.prog X.w) X.A (f (.int i t) (.int j u)) Q E s) :
  iW X f (BI λi j=>.bl (g i j)):=by
 intro pins s σ H x y v u Q I rx ry h;obtain⟨i,j,rfl,rfl,q⟩:=h;obtain⟨t,rfl⟩:=rx;obtain⟨t',rfl⟩:=ry;exact rule i j t t' s _ _ ⟨.bl (g i j),H,I,rfl,q⟩
def xt (i j:Int):Prop:=0<=j/\j<=1000000/\i.natAbs<2 ^ 64
def j6 (i j:Int):Prop:=(-(2 ^ 64)<i/\i<2 ^ 64)\/(-(2 ^ 64)<j/\j<2 ^ 64)
theorem j6.ok {i j:Int}(h:j6 i j):IntMulOk i j:=by
 rcases h with⟨h1,h2⟩|⟨h1,h2⟩
 ·exact .of_left (intBits_le_64 h1 h2)
 ·exact .of_right (intBits_le_64 h1 h2)
theorem oI:iW X (Wq .Add) (BI λi j=>.int (i+j)):=Ju λ_ _ _ _ _ _ _ q=>add_int q
theorem y_:iW X (Wq .Sub) (BI λi j=>.int (i-j)):=Ju λ_ _ _ _ _ _ _ q=>sub_int q
theorem jf:iW X (Wq .Mult) (rI j6 λi j=>.int (i*j)):=Jv λ_ _ _ _ _ _ _ hc q=>mul_int q hc.ok
theorem gc:iW X (Wq .Mod) (rI (λ_ j=>0<j) λi j=>.int (i % j)):=Jv λi j _ _ _ _ _ hc q=>by
 have h1:(0:Int)<j:=hc;exact mod_int' (by lia) (by rw[Int.fmod_eq_emod_of_nonneg i (by lia)];exact q)
theorem za:iW X (Wq .Pow) (rI xt λi j=>.int (i ^ j.toNat)):=Jv λ_ _ _ _ _ _ _ hc q=>pow_int_small hc.1 hc.2.1 hc.2.2 q
theorem Ri {f:UK->Sem UK}{g:Int->Int}
  (rule:∀(i:Int) (t:Tok) (s:UL) (Q:UK->UL->Prop) (E:UK->UL->Prop),Q (.int (g i) s.toks) {s with toks:=s.toks+1}->Vp (model X.prog X.w) X.A (f (.int i t)) Q E s) :
  LK X f (rU λi=>.int (g i)):=by
 intro pins s σ H x v Q I rx h;obtain⟨i,rfl,q⟩:=h;obtain⟨t,rfl⟩:=rx;exact rule i t s _ _ ⟨.int (g i),H,I.tok _,⟨_,rfl⟩,q⟩
theorem xS:LK X (unaryOp .USub) (rU λi=>.int (-i)):=Ri λ_ _ _ _ _ q=>neg_int q
end
section
variable {X:Cx}{a b c:Expr}{ta tb:TE}{pos:Pos}
theorem Hm {pins:List (Addr×Obj)}{σ:St}{H:Hp}{s:UL}{Q:VK}{k k':Bool}(I:Inv X pins σ H s)(q:Q (.bl k) H)(e:k=k'):EP X pins σ Q (.bool k') s:=by
 subst e;exact⟨.bl k,H,I,rfl,q⟩
theorem DZ:iW X (VQ .Lt) (BI λi j=>.bl (decide (i<j))):=Jw λ_ _ _ _ _ _ _ q=>lt_int q
theorem zb:iW X (VQ .Gt) (BI λi j=>.bl (decide (j<i))):=Jw λ_ _ _ _ _ _ _ q=>gt_int q
theorem FZ:iW X (VQ .Is) (λx y H Q=>y=.cg/\Q (.bl (decide (x=.cg))) H):=by
 intro pins s σ H x y v u Q I rx ry h;obtain⟨rfl,q⟩:=h;cases ry;refine is_none_gen (Hm I q ?_);cases x <;> first
  | (cases rx;rfl)
  | (obtain⟨t,rfl⟩:=rx;rfl)
theorem zj (b:Expr){op:XZ}(h:op≠.In:=by decide)(h2:op≠.NotIn:=by decide):WN op b=false:=by
 have e1:(op==CmpOp.In)=false:=by cases op <;> first|rfl|exact absurd rfl h
 have e2:(op==CmpOp.NotIn)=false:=by cases op <;> first|rfl|exact absurd rfl h2
 cases b <;> simp[WN,e1,e2]
theorem B0 {op:XZ}{r:R2}(ho:iW X (VQ op) r)(ha:PE X a ta)(hb:PE X b tb)(hm:WN op b=false):PE X (.Compare a [op] [b] pos) (IJ r ta tb):=by
 intro pins s σ H Q I h;exact wpAny_Compare1 (HD ha hb I h λv u s2 x y H2 I2 rx ry q=>ho pins s2 σ H2 x y v u Q I2 rx ry q) hm
def IH (t:TE):TT:=λσ H Q=>t σ H λx H'=>∃k,x=.bl k/\Q k H'
theorem oq {op:XZ}{r:R2}(ho:iW X (VQ op) r)(ha:PE X a ta)(hb:PE X b tb)(hm:WN op b=false):PT X (.Compare a [op] [b] pos) (IH (IJ r ta tb)):=by
 intro pins s σ H Q I h;refine wpAny_isTrue_Compare1 (bw (ha pins s σ H _ I h) λv s1 ⟨x,H1,I1,r1,q1⟩=>bw (hb pins s1 σ H1 _ I1 q1) λu s2 ⟨y,H2,I2,r2,q2⟩ =>
  bw (ho pins s2 σ H2 x y v u _ I2 r1 r2 q2) λc s3 ⟨z,H3,I3,r3,k,e,q3⟩=>?_) hm
 subst e;cases r3;exact Wk ⟨H3,I3,q3⟩
theorem oR:(UW:Nat)<2 ^ 63:=by rw[Wd];decide
theorem vals1 {x:V}{us:List UK}(r:Vals [x] us):∃u,us=[u]/\RelV x u:=by
 cases r with
 |cons r1 r2=>cases r2;exact⟨_,rfl,r1⟩
theorem vals2 {x y:V}{us:List UK}(r:Vals [x,y] us):∃u w',us=[u,w']/\RelV x u/\RelV y w':=by
 cases r with
 |cons r1 r2 =>
  cases r2 with
  |cons r3 r4=>cases r4;exact⟨_,_,rfl,r1,r3⟩
theorem nI (hc:X.calm=true):eZ X (.builtin "max") (λxs H Q=>∃i j,xs=[.int i,.int j]/\Q (.int (if j>i then j else i)) H):=by
 intro pins s σ H xs us Q I r h;obtain⟨i,j,rfl,q⟩:=h;obtain⟨u,w',rfl,⟨t,rfl⟩,⟨t',rfl⟩⟩:=vals2 r;refine max_two_ints (I.ok.hd hc) λh' tk k=>⟨_,H,I.kept k,?_,q⟩
 by_cases hj:j>i
 ·rw[if_pos hj,if_pos hj];exact⟨_,rfl⟩
 ·rw[if_neg hj,if_neg hj];exact⟨_,rfl⟩
theorem xh (hc:X.calm=true):eZ X (.builtin "min") (λxs H Q=>∃i j,xs=[.int i,.int j]/\Q (.int (if j<i then j else i)) H):=by
 intro pins s σ H xs us Q I r h;obtain⟨i,j,rfl,q⟩:=h;obtain⟨u,w',rfl,⟨t,rfl⟩,⟨t',rfl⟩⟩:=vals2 r;refine min_two_ints (I.ok.hd hc) λh' tk k=>⟨_,H,I.kept k,?_,q⟩
 by_cases hj:j<i
 ·rw[if_pos hj,if_pos hj];exact⟨_,rfl⟩
 ·rw[if_neg hj,if_neg hj];exact⟨_,rfl⟩
theorem nJ:eZ X (.type "int") (λxs H Q=>(∃i,xs=[.int i]/\Q (.int i) H)\/∃k,xs=[.bl k]/\Q (.int (if k then 1 else 0)) H):=by
 intro pins s σ H xs us Q I r h;rcases h with⟨i,rfl,q⟩|⟨k,rfl,q⟩
 ·obtain⟨u,rfl,t,rfl⟩:=vals1 r;exact call_int_int ⟨.int i,H,I,⟨_,rfl⟩,q⟩
 ·obtain⟨u,rfl,r1⟩:=vals1 r;cases r1;exact call_int_bool ⟨.int (if k then 1 else 0),H,I.tok _,⟨_,rfl⟩,q⟩
end
structure HL (h:Heap)(x dx C:Addr)(mA:Str->Option UK):Prop where
 obj:h.get? x=some (PySem.W.instObj C dx)
 ns:h.Ns1 dx mA
 ne:dx≠x
theorem wz {h:Heap}{dx:Addr}{mA:Str->Option UK}(n:h.Ns1 dx mA):∃od,h.get? dx=some od/\∀name,PySem.W.lookIn name od=some (mA name):=by
 obtain⟨o,es,ep,ho,hd,hk,_,hm⟩:=n;refine⟨o,ho,λname=>?_⟩;have e:=hm name;unfold nsFind findBy at e;rw[<- Array.find?_toList]at e;unfold PySem.W.lookIn;rw[hd];dsimp only
 split
 ·rename_i y q
  rw[q]at e;exact congrArg some e
 ·rename_i q
  rw[q]at e;have a:es.toList.any (·.refKey)=false:=by
   rw[List.any_eq_false];intro y hy;obtain⟨z,t,OI⟩:=hk y (Array.mem_toList_iff.mp hy);simp[DictEntry.refKey,OI]
  have a':¬ es.toList.any (·.refKey)=true:=by rw[a];exact VX
  rw[if_neg a'];exact congrArg some e
theorem HL.look {h:Heap}{x dx C:Addr}{mA:Str->Option UK}(I:HL h x dx C mA):∃od,PySem.W.InstAt h x (PySem.W.instObj C dx) C (some od)/\∀name,PySem.W.lookIn name od=some (mA name) :=
 let ⟨od,ho,hl⟩:=wz I.ns
 ⟨od,⟨I.obj,rfl,rfl,ho⟩,hl⟩
section
end
theorem l4.some_of {v:V}{o:Option UK}(r:l4 (some v) o):∃u,o=some u/\RelV v u:=by
 cases o with
 |none=>exact(show False from r).elim
 |some u=>exact⟨u,rfl,r⟩
section
variable {P:UP}{w:U1}{H:Hp}{h:Heap}{a C dx:Addr}{fs:List (Str×V)}
theorem CJ (bo:fL P w H h)(e:H a=some (.ins C dx fs)):∃mA,HL h a dx C mA/\(∀f,l4 (fs.lookup f) (mA f))/\PySem.Within mA (fs.map (·.1))/\fs.length<=1000/\H dx=some (.own a):=by
 obtain⟨d,z,ne,ob,mA,n,r,q⟩:=(show bu P w H h a (.ins C dx fs) from bo a _ e)
 exact⟨mA,⟨ob,n,ne⟩,r,q,z,d⟩
end
structure PF (K:PySem.W.Frag)(C:Addr):Prop where
 pg:PySem.W.plainGet K C Str.empty=true
 hd:PySem.W.hasDictIn K C=true
 po:PySem.W.plainOver K C=true
 sa:PySem.W.findIn K (.ref C) "__setattr__" = some (some (.builtin "object.__setattr__"))
theorem PF.get {K:PySem.W.Frag}{C:Addr}(c:PF K C)(f:Str):PySem.W.plainGet K C f=true:=c.pg
section
end
section
end
section
variable {X:Cx}{pins:List (Addr×Obj)}{σ:St}{H:Hp}{s:UL}{A:VO}{E:UK->UL->Prop}{Q:UK->UL->Prop}{c:UK}{b:Bool}
inductive iV (K:PySem.W.Frag) (H:Hp):V->UK->Prop where
 |cg:iV K H .cg (.type "NoneType")
 |bl (x:Bool):iV K H (.bl x) (.type "bool")
 |int (i:Int):iV K H (.int i) (.type "int")
 |str (x:Str):iV K H (.str x) (.type "str")
 |Ij (x:UInt64):iV K H (.Ij x) (.type "float")
 |lst {a:Addr} {xs:List V} (e:H a=some (.lst xs)):iV K H (.ref a) (.type "list")
 |s9 {a:Addr} {o:Obj} {xs:List V} (e:H a=some (.s9 o (.lst xs))):iV K H (.ref a) (.type "list")
 |tup {a:Addr} {xs:List V} (e:H a=some (.tup xs)):iV K H (.ref a) (.type "tuple")
 |dK {a:Addr} {kvs:List (Key×V)} (e:H a=some (.dK kvs)):iV K H (.ref a) (.type "dict")
 |dT {a:Addr} {kvs:List (List Key×V)} (e:H a=some (.dT kvs)):iV K H (.ref a) (.type "dict")
 |ins {a C dx:Addr} {fs:List (Str×V)} (e:H a=some (.ins C dx fs)) (cl:PF K C) (ha:PySem.W.findIn K (.ref C) "__class__" = some (some (.builtin "object.__class__")))
   (hn:PySem.W.specialIn K (.builtin "object.__class__") "__get__" = some (some (.builtin "getset_descriptor.__get__"))) (Qv:PySem.W.takesIn K (.builtin "object.__class__")=some true)
   (hm:PySem.W.mroIn K C (.type "object")=some true):iV K H (.ref a) (.ref C)
theorem wJ {x:V}{u t:UK}(I:Inv X pins σ H s)(rx:RelV x u)(ty:iV X.K H x t)(e:PySem.W.kitOne X.K t c=some b)(h:∀tk,Q (.bool b) {s with toks:=tk}):
  Vp (model X.prog X.w) A (call (.builtin "isinstance") [u,c]) Q E s:=by
 cases ty with
 |cg=>cases (show u=Value.none from rx);exact PySem.W.kia_one PySem.W.kitx_none I.lI Xn e (λz=>nomatch z) h
 |bl y=>cases (show u=Value.bool y from rx);exact PySem.W.kia_one PySem.W.kitx_bool I.lI Xn e (λz=>nomatch z) h
 |int i=>obtain⟨t,q⟩:=(show ∃t,u=Value.int i t from rx);cases q;exact PySem.W.kia_one PySem.W.kitx_int I.lI Xn e (λz=>nomatch z) h
 |str y=>obtain⟨t,q⟩:=(show ∃t,u=Value.str y t from rx);cases q;exact PySem.W.kia_one PySem.W.kitx_str I.lI Xn e (λz=>nomatch z) h
 |Ij y=>obtain⟨t,q⟩:=(show ∃t,u=Value.float y t from rx);cases q;exact PySem.W.kia_one PySem.W.kitx_float I.lI Xn e (λz=>nomatch z) h
 | @lst a xs ea =>
  cases (show u=Value.ref a from rx)
  obtain⟨_,_,n,_,h1⟩:=(show bu X.prog X.w H s.heap a (.lst xs) from I.bo a _ ea)
  exact PySem.W.kia_one PySem.W.kitx_list I.lI ⟨_,h1,rfl⟩ e (λz=>nomatch z) h
 | @s9 a ob xs ea =>
  cases (show u=Value.ref a from rx)
  obtain⟨_,_,_,n,_,h1⟩:=(show bu X.prog X.w H s.heap a (.s9 ob (.lst xs)) from I.bo a _ ea)
  exact PySem.W.kia_one PySem.W.kitx_list I.lI ⟨_,h1,rfl⟩ e (λz=>nomatch z) h
 | @tup a xs ea =>
  cases (show u=Value.ref a from rx)
  obtain⟨_,_,_,p⟩:=(show bu X.prog X.w H s.heap a (.tup xs) from I.bo a _ ea)
  obtain⟨o,h1,h2,_⟩:=p;exact PySem.W.kia_one PySem.W.kitx_tuple I.lI ⟨o,h1,h2⟩ e (λz=>nomatch z) h
 | @dK a kvs ea =>
  cases (show u=Value.ref a from rx)
  obtain⟨_,_,vs,_,p⟩:=(show bu X.prog X.w H s.heap a (.dK kvs) from I.bo a _ ea)
  obtain⟨o,es,ep,h1,h2,_⟩:=p;exact PySem.W.kia_one PySem.W.kitx_dict I.lI ⟨o,h1,h2.1⟩ e (λz=>nomatch z) h
 | @dT a kvs ea =>
  cases (show u=Value.ref a from rx)
  obtain⟨_,_,xs,_,o,es,ep,h1,h2,_⟩:=(show bu X.prog X.w H s.heap a (.dT kvs) from I.bo a _ ea)
  exact PySem.W.kia_one PySem.W.kitx_dict I.lI ⟨o,h1,h2.1⟩ e (λz=>nomatch z) h
 | @ins a C dx fs ea cl ha hn Qv hm =>
  cases (show u=Value.ref a from rx)
  obtain⟨mA,O,_⟩:=CJ I.bo ea;obtain⟨od,J,_⟩:=O.look;exact PySem.W.kia_one (PySem.W.kitx_own (cl.get _) cl.hd ha hn Qv hm) I.lI J e (λz=>nomatch z) h
end
structure ck (k:Nat)(A:VO):Prop where
 hd:A.handled=none
 dp:A.depth+3*k+5<recursionLimit
 un:A.units+16*k+200<X7
theorem ck.mono {j k:Nat}{A:VO}(r:ck k A)(h:j<=k):ck j A:=⟨r.hd,by have:=r.dp;lia,by have:=r.un;lia⟩
theorem ck.deeper {k:Nat}{A:VO}(r:ck (k+1) A)(env:Env):ck k (A.deeper env) :=
 ⟨r.hd,by have:=r.dp;show A.depth+1+3*k+5<_;lia,by have:=r.un;show A.units+3+16*k+200<_;lia⟩
theorem ck.depth {k:Nat}{A:VO}(r:ck k A):A.depth<recursionLimit:=by have:=r.dp;lia
theorem ck.units {k:Nat}{A:VO}(r:ck k A):A.units+64<X7:=by have:=r.un;lia
theorem ck.E4 {k:Nat}{A:VO}(r:ck k A):A.units<X7:=by have:=r.un;lia
def IL:TA:=λ_ H Q=>Q [] H
def DR (ta:TE)(tr:TA):TA:=λσ H Q=>ta σ H λx H1=>tr σ H1 λxs H2=>Q (x::xs) H2
section
variable {X:Cx}{e:Expr}{es:List Expr}{te:TE}{t:TA}{pos:Pos}
theorem cy:PA X [] IL:=λ_ _ _ _ H Q I h=>Calls.spliced_nil ⟨[],H,I,.nil,h⟩
theorem a6 (ha:PE X e te)(hr:PA X es t)(hs:US (e::es) X.env=(false,eval e X.env)::US es X.env:=by rfl):PA X (e::es) (DR te t):=by
 intro pos pins s σ H Q I h;rw[hs];show Vp _ _ (spliced ((false,eval e X.env)::V6 pos (US es X.env))) _ _ s;refine Calls.spliced_cons (bw (ha pins s σ H _ I h) λu s1 ⟨x,H1,I1,r1,q1⟩=>?_);exact bw (hr pos pins s1 σ H1 _ I1 q1) λus s2 ⟨xs,H2,I2,r2,q2⟩=>⟨x::xs,H2,I2,.cons r1 r2,q2⟩
def MU (t:TA):TE:=λσ H Q=>t σ H λxs H1=>xs.length<=UW/\∀p,H1 p=none->Q (.ref p) (upd H1 p (.tup xs))
def MZ (t:TA):TE:=λσ H Q=>t σ H λxs H1=>xs.length<=UW/\∀p,H1 p=none->Q (.ref p) (upd H1 p (.lst xs))
theorem yR {x1}(h:PA X es t):PE X (.Tuple es x1 pos) (MU t):=by
 intro pins s σ H Q I hq;refine wpAny_Tuple_spliced (bw (h pos pins s σ H _ I hq) λus s1 ⟨xs,H1,I1,r,z,q⟩=>⟨by rw[<- r.length];exact z,?_⟩)
 have hf:H1 s1.heap.objs.size=none:=I1.bo.fresh (UO _);refine⟨.ref s1.heap.objs.size,upd H1 s1.heap.objs.size (.tup xs),I1.laid (t':=s1.toks) (λb u e=>U5 _ e) (UO _) ?_,rfl,q _ hf⟩;exact⟨z,us,r,⟨_,VF _ rfl,rfl,_,rfl⟩⟩
theorem oE (h:PA X es t):PE X (.List es pos) (MZ t):=by
 intro pins s σ H Q I hq;refine wpAny_List_spliced (bw (h pos pins s σ H _ I hq) λus s1 ⟨xs,H1,I1,r,z,q⟩=>⟨by rw[<- r.length];exact z,?_⟩)
 have hf:H1 s1.heap.objs.size=none:=I1.bo.fresh (UO _);refine⟨.ref s1.heap.objs.size,upd H1 s1.heap.objs.size (.lst xs),I1.laid (t':=s1.toks) (λb u e=>U5 _ e) (UO _) ?_,rfl,q _ hf⟩;exact⟨z,us,0,r,VF _ rfl⟩
end
abbrev Sp:=List V->Hp->VK->XK->Prop
abbrev xr:=List Env->Hp->UL->XK->UK->UL->Prop
structure DL (P:UP)(w:U1)(K:PySem.W.Frag)(mg:Str->Option UK)(base:Heap)(A:VO)(outer:List Env)(s:UL)(H:Hp):Prop where
 frames:A.frames=some outer
 mod:Mod K mg base
 bs:∀b o,base.get? b=some o->s.heap.get? b=some o/\H b=none
 AG:base.objs.size<=s.heap.objs.size
 iM:s.heap.FunFrames base outer
 C0:∀b∈fQ outer,H b=none
 bo:fL P w H s.heap
 bare:Yc s.gens
def CE (outer:List Env)(P:UP)(w:U1)(H:Hp)(s:UL)(Q:VK)(u:UK)(s':UL):Prop :=
 ∃v H',s'.os=s.os/\Yc s'.gens/\Un (fQ outer) [] H H' s.heap s'.heap/\fL P w H' s'.heap/\RelV v u/\Q v H'
def CR (CX:xr)(outer:List Env)(P:UP)(w:U1)(H:Hp)(s:UL)(Q:VK)(E:XK)(r:Result)(s':UL):Prop :=
 match r with
 |.ok (.ret u)=>CE outer P w H s Q u s'
 |.ok _=>False
 |.error e=>CX outer H s E e s'
structure aL (P:UP)(w:U1)(K:PySem.W.Frag)(mg:Str->Option UK)(base:Heap)(CX:xr)(k:Nat)(f:Addr)(fd:Vs)(ps:List Str)(sp:Sp):Prop where
 len:∀vs H Q E,sp vs H Q E->vs.length=ps.length
 run:∀(A:VO) (outer:List Env) (s:UL) (H:Hp) (args:Args) (us:List UK) (vs:List V) (Q:VK) (E:XK),ck k A->DL P w K mg base A outer s H->BindsTo s fd args (ps.zip us)->Vals vs us->sp vs H Q E ->
  Yn (model P w) A (.call (.ref f) args) (CR CX outer P w H s Q E) s
theorem aL.imp {P:UP}{w:U1}{K:PySem.W.Frag}{mg:Str->Option UK}{base:Heap}{CX:xr}{k:Nat}{f:Addr}{fd:Vs}{ps:List Str}{sp P0:Sp}(F:aL P w K mg base CX k f fd ps sp)
  (h:∀vs H Q E,P0 vs H Q E->sp vs H Q E):aL P w K mg base CX k f fd ps P0 :=
 ⟨λvs H Q E q=>F.len vs H Q E (h _ _ _ _ q),λA outer s H args us vs Q E hr he hb hv hs=>F.run A outer s H args us vs Q E hr he hb hv (h _ _ _ _ hs)⟩
section
variable {X:Cx}{pins:List (Addr×Obj)}{σ:St}{H:Hp}{s s':UL}
theorem Inv.Lv (I:Inv X pins σ H s):DL X.prog X.w X.K X.mg X.base X.A X.stack s H :=
 ⟨I.ok.frames,I.ok.mod,I.bs,Vq I.ok.AG I.sz,I.stack,I.nY,I.bo,I.bare⟩
theorem Inv.after {Q:VK}{u:UK}(I:Inv X pins σ H s)(h:CE X.stack X.prog X.w H s Q u s'):EP X pins σ Q u s':=by
 obtain⟨v,H',os,bare,un,bo,r,q⟩:=h;obtain⟨hh,g,d,t,RM⟩:=s';obtain rfl:RM=s.os:=os;exact⟨v,H',I.call (h':=hh) (g':=g) (d':=d) (t':=t) (ch:=[]) un bo bare (λb z=>absurd z (by simp)),r,q⟩
end
def IQ (sp:Sp)(Ez:List V)(E:XK)(t:TA):TE:=λσ H Q=>t σ H λvs H1=>sp (vs++Ez) H1 Q E
def Binds (K:PySem.W.Frag)(fd:Vs)(ps:List Str)(ds:List UK):Prop :=
 ∀(s:UL) (us:List UK),K.In s.heap->(us++ds).length=ps.length->BindsTo s fd ⟨us,[]⟩ (ps.zip (us++ds))
theorem Binds.all {K:PySem.W.Frag}{fd:Vs}{ps:List Str}(h:∀us:List UK,us.length=ps.length->bindArgs fd ⟨us,[]⟩=pure (ps.zip us)):Binds K fd ps []:=λs us _ hl=>by
 rw[VT]at hl ⊢
 exact .of_eq (h us hl)
def Passes (CX:xr)(X:Cx)(E:XK):Prop:=∀(pins:List (Addr×Obj)) (σ:St) (H:Hp) (s:UL) (e:UK) (s':UL),Inv X pins σ H s->CX X.stack H s E e s'->X.xe e s'
section
variable {X:Cx}{CX:xr}{k:Nat}{f:Addr}{fd:Vs}{ps:List Str}{sp:Sp}{Ez:List V}{ds:List UK}{E:XK}{x:Str}{p pos:Pos}{e:Expr}{es:List Expr}{t:TA}
theorem Fu {pins:List (Addr×Obj)}{σ:St}{H:Hp}{s:UL}{Q:VK}{us:List UK}{vs:List V}(F:aL X.prog X.w X.K X.mg X.base CX k f fd ps sp)(hr:ck k X.A)(hb:Binds X.K fd ps ds)(hd:Vals Ez ds)(hx:Passes CX X E)
  (I:Inv X pins σ H s) (r:Vals vs us) (h:sp (vs++Ez) H Q E):Vp (model X.prog X.w) X.A (call (.ref f) us) (EP X pins σ Q) X.xe s:=by
 have r2:Vals (vs++Ez) (us++ds):=r.append hd;have hl:(us++ds).length=ps.length:=by rw[<- r2.length];exact F.len _ _ _ _ h
 refine YE (X0 (F.run X.A X.stack s H ⟨us,[]⟩ (us++ds) (vs++Ez) Q E hr I.Lv (hb s us I.lI hl) r2 h) λr s' hq=>?_);cases r with
 |error e=>exact hx pins σ H s e s' I hq
 |ok fl =>
  cases fl with
  |ret u=>exact I.after hq
  |next=>exact Wu hq
  |brk=>exact Wu hq
  |cont=>exact Wu hq
theorem oF (F:aL X.prog X.w X.K X.mg X.base CX k f fd ps sp)(hr:ck k X.A)(hg:Gl X x)(hm:X.mg x=some (.ref f))(hk:PySem.W.keepIn X.K (.ref f)=true)(hb:Binds X.K fd ps ds)(hd:Vals Ez ds)(hx:Passes CX X E)
  (ha:PA X (e::es) t) (hdb:(x==("__debug__" : Str))=false:=by decide) (he:US (e::es) X.env=(false,eval e X.env)::US es X.env:=by rfl) (hpl:(V6 pos (US es X.env)).any (·.1)=false:=by rfl) :
  PE X (.Call (.Name x p) (e::es) [] pos) (IQ sp Ez E t):=by
 intro pins s σ H Q I h;refine X5 (iH I hg hm ?_ hdb);refine PySem.W.callWith_K (h₀:=X.base) I.ok.mod.Mc hk (bw (ha pos pins s σ H _ I h) λus s1 ⟨vs,H1,I1,r,q⟩=>⟨I1.lI,?_⟩) he hpl;exact Fu F hr hb hd hx I1 r q
end
section
end
structure aG (N P:List Str)(sc:Xp):Prop where
 kind:sc.kind=.function
 co:sc.isCoroutine=false
 gen:sc.isGenerator=false
 nd:N.Nodup
 pre:N.take P.length=P
 par:∀x∈P,sc.names.lookup x=some .local\/sc.names.lookup x=some .cell
 F_:∀y∈sc.names,y.2≠.free
theorem nK {kindOf:Str->Option XN}{x:Str}:∀{binds:List (Str×UK)} {m:Str->Option UK},(∀v,(x,v)∉binds)->bindL kindOf binds m x=m x
 |[],_,_=>rfl
 | (n,v)::r,m,h=>by
  unfold bindL;rw[nK λw hw=>h w (UU _ hw)]
  split
  ·have:x≠n:=by rintro rfl;exact h v UY
   simp[this]
  ·rfl
theorem nN {kindOf:Str->Option XN}{x:Str}:∀{binds:List (Str×UK)} {m:Str->Option UK},(∀v,(x,v)∉binds)->bindC kindOf binds m x=m x
 |[],_,_=>rfl
 | (n,v)::r,m,h=>by
  unfold bindC;rw[nN λw hw=>h w (UU _ hw)]
  split
  ·rfl
  ·have:x≠n:=by rintro rfl;exact h v UY
   simp[this]
theorem nM {kindOf:Str->Option XN}{x:Str}{v:UK}:∀{P:List Str} {vs:List UK} {i:Nat} {m:Str->Option UK},P.Nodup->P[i]?=some x->vs[i]?=some v->kindOf x=some .local ->
  bindL kindOf (P.zip vs) m x=some v
 |[],_,_,_,_,h,_,_=>by simp at h
 |_::_,[],_,_,_,_,h,_=>by simp at h
 |p::P,w::vs,0,m,nd,h1,h2,hk=>by
  simp at h1 h2;subst h1;subst h2;show bindL kindOf ((p,w)::P.zip vs) m p=_;unfold bindL;rw[nK λv hv=>(Vt.mp nd).1 (Yr hv).1,if_pos hk];simp
 |p::P,w::vs,i+1,m,nd,h1,h2,hk=>by
  show bindL kindOf ((p,w)::P.zip vs) m x=_;unfold bindL;exact nM (i:=i) (Vt.mp nd).2 (by simpa using h1) (by simpa using h2) hk
theorem nO {kindOf:Str->Option XN}{x:Str}{v:UK}:∀{P:List Str} {vs:List UK} {i:Nat} {m:Str->Option UK},P.Nodup->P[i]?=some x->vs[i]?=some v->kindOf x≠some .local ->
  bindC kindOf (P.zip vs) m x=some v
 |[],_,_,_,_,h,_,_=>by simp at h
 |_::_,[],_,_,_,_,h,_=>by simp at h
 |p::P,w::vs,0,m,nd,h1,h2,hk=>by
  simp at h1 h2;subst h1;subst h2;show bindC kindOf ((p,w)::P.zip vs) m p=_;unfold bindC;rw[nN λv hv=>(Vt.mp nd).1 (Yr hv).1,if_neg hk];simp
 |p::P,w::vs,i+1,m,nd,h1,h2,hk=>by
  show bindC kindOf ((p,w)::P.zip vs) m x=_;unfold bindC;exact nO (i:=i) (Vt.mp nd).2 (by simpa using h1) (by simpa using h2) hk
def start (N:List Str)(vs:List V):St:=vs.map some++Vg (N.length-vs.length) none
def j4 (CX:xr)(P:UP)(w:U1)(K:PySem.W.Frag)(mg:Str->Option UK)(base:Heap)(N:List Str)(qual:Str)(scope:Xp)(f:Addr)(cd:UK)(A:VO)(outer:List Env)(s:UL)(H:Hp)(E:XK):Cx where
 prog:=P
 w:=w
 K:=K
 mg:=mg
 base:=base
 A:=A.deeper (Ye qual scope s.heap.objs.size f cd)
 N:=N
 s₀:=s
 H₀:=H
 env:=Ye qual scope s.heap.objs.size f cd
 outer:=outer
 stack:=Ye qual scope s.heap.objs.size f cd::outer
 ex:=[]
 calm:=true
 fn:=λ_=>true
 pn:=[]
 xe:=λe s'=>Vp (model P w) (A.deeper (Ye qual scope s.heap.objs.size f cd)) (leaving (Ye qual scope s.heap.objs.size f cd) e) (λ_ yp=>CX outer H s E e yp) (λe' yp=>CX outer H s E e' yp) s'
theorem rl {sc:Xp}{n:Nat}{x:Str}(h:sc.names.lookup x=some .cell):∃c,(cellsFrom n sc.names []).lookup x=some c:=by
 have q:=PySem.W.cellsFrom_some sc.names n [] (.inl h);exact Option.isSome_iff_exists.mp q
theorem wM {CX:xr}{P:UP}{w:U1}{K:PySem.W.Frag}{mg:Str->Option UK}{base:Heap}{N ps:List Str}{qual:Str}{scope:Xp}{f:Addr}{cd:UK}{A:VO}{outer:List Env}{s s1:UL}{H:Hp}{E:XK}{us:List UK}{vs:List V}
  (S:aG N ps scope) (hd:A.handled=none) (e0:DL P w K mg base A outer s H) (hl:vs.length=ps.length) (r:Vals vs us)
  (x:InCallC s s.heap.objs.size (bindL (Ye qual scope s.heap.objs.size f cd).kindOf (ps.zip us) λ_=>none) (cellsFrom (s.heap.objs.size+1) scope.names []) (bindC (Ye qual scope s.heap.objs.size f cd).kindOf (ps.zip us) λ_=>none) s1) :
  Inv (j4 CX P w K mg base N qual scope f cd A outer s H E) [] (start N vs) H s1:=by
 have hpl:ps.length<=N.length:=by have:=congrArg List.length S.pre;rw[VH]at this;lia
 obtain⟨h1,tk,rfl,hk⟩:=x.done;have JF:∀b:Addr,b∉(j4 CX P w K mg base N qual scope f cd A outer s H E).ex:=λb z=>absurd (show b∈([]:List Addr) from z) (by simp)
 refine⟨⟨e0.mod,S.kind,rfl,rfl,UO _,λy z c h1 h2=>?_,λy hy=>?_,λy c _ h=>?_,λ_=>hd,Around.frames_deeper e0.frames,.inr ⟨rfl,rfl⟩,λb z=>absurd z (JF b),e0.bs,e0.AG,λb _ _=>JF b,λb z=>absurd z (JF b),e0.iM,e0.C0⟩,
  rfl,e0.bare,Un.kept hk,⟨_,x.toInCall.ns,λi y v h1 h2 h3=>?_⟩,λy c h=>⟨_,x.cell y c h⟩,e0.bo.fresh (UO _),λy c h=>?_,λp hp=>absurd (show p∈([]:List (Addr×Obj)) from hp) (by simp),e0.bo.kept hk,?_⟩
 ·exact name_of_addr x.apart (PySem.mem_of_lookup h1) (PySem.mem_of_lookup h2)
 ·have hy:scope.names.lookup y=some .cell\/scope.names.lookup y=some .free:=hy;rcases hy with hy|hy
  ·exact rl hy
  ·exact absurd rfl (S.F_ _ (PySem.mem_of_lookup hy))
 ·exact Nat.le_of_lt (x.above y c (PySem.mem_of_lookup h))
 ·have hi:i<vs.length:=by
   unfold start at h2
   by_cases hi:i<vs.length
   ·exact hi
   ·rw[VU (by simpa using hi)]at h2
    rw[List.getElem?_replicate]at h2
    split at h2 <;> cases h2
  have ha:vs[i]?=some v:=by
   unfold start at h2;rw[Wv (by simpa using hi),U8]at h2
   cases e:vs[i]? with
   |none=>rw[e]at h2;cases h2
   |some a=>rw[e]at h2;cases h2;rfl
  obtain⟨u,hu,rv⟩:=r.get ha;have hp:ps[i]?=some y:=by
   rw[<- S.pre,List.getElem?_take_of_lt (by lia)];exact h1
  have Qi:ps.Nodup:=by rw[<- S.pre];exact S.nd.sublist (List.take_sublist _ _)
  refine⟨u,rv,?_⟩;rcases S.par y (Vx hp)with k|k
  ·exact .inl ⟨k,nM Qi hp hu k⟩
  ·obtain⟨c,e⟩:=rl (n:=s.heap.objs.size+1) k;refine .inr ⟨.inl k,c,e,?_⟩;have q:=x.cell y c e;rw[nO Qi hp hu (by show scope.names.lookup y≠_;rw[k];decide)]at q
   exact q
 ·exact e0.bo.fresh (Nat.le_of_lt (x.above y c (PySem.mem_of_lookup h)))
 ·unfold start;show _=N.length;rw[Vr,UN,List.length_replicate];lia
theorem Eu {CX:xr}{P:UP}{w:U1}{K:PySem.W.Frag}{mg:Str->Option UK}{base:Heap}{k:Nat}{f:Addr}{name qual:Str}{params:Arguments}{body:List Stmt}{scope:Xp}{dV kV doc pm b7 ct oc:UK}{an od:Option Addr}
  {DY:Array (Option UK)} {N ps:List Str} {sp:Sp} (lk:K.lookup f=some ⟨oc,od,.func (PySem.W.fnOf name qual params body scope dV kV doc pm an b7 ct),DY⟩) (fH:PySem.W.codeIn K b7 qual=true) (S:aG N ps scope)
  (len:∀vs H Q E,sp vs H Q E->vs.length=ps.length)
  (iL:∀(A:VO) (outer:List Env) (s:UL) (H:Hp) (vs:List V) (Q:VK) (E:XK),ck k (A.deeper (Ye qual scope s.heap.objs.size f b7))->sp vs H Q E ->
   ∃t,pA (j4 CX P w K mg base N qual scope f b7 A outer s H E) body t/\t {nx:=λ_ H'=>Q .cg H',rt:=Q} (start N vs) H) :
  aL P w K mg base CX (k+1) f (PySem.W.fnOf name qual params body scope dV kV doc pm an b7 ct) ps sp:=by
 refine⟨len,λA outer s H args us vs Q E hr e0 hb r gC=>?_⟩;have hl:=len _ _ _ _ gC;have KX:K.In s.heap:=e0.mod.Mc.keeps λb o e=>(e0.bs b o e).1;have lim:s.heap.NoLimit:=e0.mod.nolimit.keeps λb o e=>(e0.bs b o e).1;have Lb:∀y∈ps.zip us,scope.names.lookup y.1=some .local\/(scope.names.lookup y.1=some .cell/\((cellsFrom (s.heap.objs.size+1) scope.names []).lookup y.1).isSome=true):=λOb hy=> by
  obtain⟨n,v⟩ := Ob;rcases S.par n (Yr hy).1 with q|q
  ·exact .inl q
  ·exact .inr ⟨q,PySem.W.cellsFrom_some _ _ _ (.inl q)⟩
 refine codeAny_call_function hr.depth (KX _ _ lk) rfl S.co S.gen rfl (PySem.W.codeRec_of KX fH) (hb _ _ _ _ ?_);refine wpAny_newFunctionEnv_cells S.kind Lb λenv he s1 x=>?_;subst he;refine⟨lim.keeps x.toInCall.keep,codeAny_func ?_⟩;obtain⟨t,ht,hq⟩:=iL A outer s H vs Q E (hr.deeper _) gC;have I:Inv (j4 CX P w K mg base N qual scope f b7 A outer s H E) [] (start N vs) H s1:=wM S hr.hd e0 hl r x;refine Xl (ht [] s1 (start N vs) H _ I hq) (λfl s' hs=>?_) λe s' hs=>hs;have fin:∀{σ':St} {H':Hp} {v:V} {u:UK},Inv (j4 CX P w K mg base N qual scope f b7 A outer s H E) [] σ' H' s'->RelV v u->Q v H'->CE outer P w H s Q u s' :=
  λ{σ' H' v u} J rv q=>⟨v,H',J.os,J.bare,J.base,J.bo,rv,q⟩
 cases fl with
 |ret u =>
  obtain⟨v,σ',H',J,rv,q⟩:=hs;exact fin J rv q
 |next =>
  obtain⟨σ',H',J,q⟩:=hs;exact fin (v:=V.cg) (u:=Value.none) J rfl q
 |brk =>
  obtain⟨_,_,_,q⟩:=hs;exact Wu q
 |cont =>
  obtain⟨_,_,_,q⟩:=hs;exact Wu q
section
variable {X:Cx}{x:Str}{p pos:Pos}{e:Expr}{es:List Expr}{t:TA}{id T:String}{r:List V->Hp->VK->Prop}
def M3 (r:List V->Hp->VK->Prop)(t:TA):TE:=λσ H Q=>t σ H λvs H1=>r vs H1 Q
theorem eR (hc:eZ X (.builtin id) r) (hg:Gl X x) (hm:X.mg x=none) (hv:VJ x=some (.builtin id)) (ha:PA X (e::es) t) (hn:x≠"__name__" := by decide) (hdb:(x==("__debug__" : Str))=false:=by decide)
  (he:US (e::es) X.env=(false,eval e X.env)::US es X.env:=by rfl) (hpl:(V6 pos (US es X.env)).any (·.1)=false:=by rfl):PE X (.Call (.Name x p) (e::es) [] pos) (M3 r t):=by
 intro pins s σ H Q I h;refine X5 (jm I hg hm hv ?_ hn hdb);exact PyProof.Rows.callWith_builtin1 (bw (ha pos pins s σ H _ I h) λus s1 GL=> by obtain⟨vs,H1,I1,r1,q1⟩ := GL;exact hc pins s1 σ H1 vs us Q I1 r1 q1) he hpl
theorem wd (hc:eZ X (.type T) r) (hg:Gl X x) (hm:X.mg x=none) (hv:VJ x=some (.type T)) (ha:PA X (e::es) t) (hn:x≠"__name__" := by decide) (hdb:(x==("__debug__" : Str))=false:=by decide)
  (he:US (e::es) X.env=(false,eval e X.env)::US es X.env:=by rfl) (hpl:(V6 pos (US es X.env)).any (·.1)=false:=by rfl):PE X (.Call (.Name x p) (e::es) [] pos) (M3 r t):=by
 intro pins s σ H Q I h;refine X5 (jm I hg hm hv ?_ hn hdb);exact WT (bw (ha pos pins s σ H _ I h) λus s1 GK=> by obtain⟨vs,H1,I1,r1,q1⟩ := GK;exact hc pins s1 σ H1 vs us Q I1 r1 q1) he hpl
end
end L2
namespace HT
open PySem PyProof.Rows
def lexLt:List Int->List Int->Bool
 |[],[]=>false
 |[],_::_=>true
 |_::_,[]=>false
 |x::xs,y::ys=>if x=y then lexLt xs ys else decide (x<y)
theorem cb (x y:Int)(xs ys:List Int):lexLt (x::xs) (y::ys)=if x=y then lexLt xs ys else decide (x<y):=rfl
theorem Ah (A:VO)(s:UL)(a:Int)(t:Tok)(c:Int)(u:Tok):∃e,SeqAt.EqAt A s (.int a t) (.int c u) e/\(e=true↔a=c) :=
 ⟨(a==c),SeqAt.EqAt.int_int a t c u,by simp⟩
section
open PySem.SeqAt
open PySem.AutoSeq1 (wpAny_loadPart')
open PySem.MeetsSeq PySem.MeetsSeq2 PySem.MeetsSeq3
end
section
def k8 (n d:Nat):Option Int->Nat
 |none=>d
 |some v=>if v<0 then (v+(n:Int)).toNat else min v.toNat n
theorem yo (n d:Nat):k8 n d none=d:=rfl
theorem BF (n d k:Nat):k8 n d (some (k:Int))=min k n:=by
 show (if (k:Int)<0 then ((k:Int)+(n:Int)).toNat else min (k:Int).toNat n)=min k n
 rw[if_neg (by lia),Xy]
end
end HT
namespace L2
open PySem PySem.Spec PyProof.Rows
abbrev TO:=St->Hp->(Option Int->Hp->Prop)->Prop
def PO (X:Cx)(e:Option Expr)(t:TO):Prop :=
 ∀(pins:List (Addr×Obj)) (s:UL) (σ:St) (H:Hp) (Q:Option Int->Hp->Prop),Inv X pins σ H s->t σ H Q ->
  Vp (model X.prog X.w) X.A (evalPart e X.env) (λu s'=>∃o H',Inv X pins σ H' s'/\IsPart u o/\Q o H') X.xe s
def Br:TO:=λ_ H Q=>Q none H
def II (t:TE):TO:=λσ H Q=>t σ H λx H1=>∃i,x=.int i/\Q (some i) H1
theorem intsAre_of {ns:List Int}:∀{us:List UK},Vals (ns.map V.int) us->WK us ns:=by
 induction ns with
 |nil=>intro us r;rw[X3]at r;cases r;exact .nil
 |cons n ns ih =>
  intro us r;rw[Vd]at r;cases r with
  |cons r1 r2 =>
   obtain⟨t,e⟩:=r1;subst e;exact .cons n t (ih r2)
section
variable {X:Cx}{e:Expr}{te:TE}{lo hi:Option Expr}{tl th:TO}{pos p2:Pos}
theorem uk:PO X none Br:=by
 intro pins s σ H Q I h;rw[evalPart_none];exact U6 ⟨none,H,I,.none,h⟩
theorem uj (h:PE X e te):PO X (some e) (II te):=by
 intro pins s σ H Q I hw;rw[evalPart_some];refine bw (h pins s σ H _ I hw) λu s1 ⟨x,H1,I1,r1,q1⟩=>?_;obtain⟨i,rfl,q⟩:=q1;obtain⟨t,rfl⟩:=r1;exact⟨some i,H1,I1,.int i t,q⟩
def Po (X:Cx)(r:V->Option Int->Option Int->Hp->VK->Prop):Prop :=
 ∀(pins:List (Addr×Obj)) (s:UL) (σ:St) (H:Hp) (x:V) (v vl vu:UK) (lo hi:Option Int) (sl:Addr) (Q:VK),Inv X pins σ H s->RelV x v->s.heap.IsSliceOf sl vl vu .none->IsPart vl lo->IsPart vu hi->r x lo hi H Q ->
  ∃T id,typeLookup (.type T) "__getitem__" = pure (some (.builtin id))/\s.TypeIs v T/\Vp (model X.prog X.w) X.A (getItem v (.ref sl)) (EP X pins σ Q) X.xe s
def Rk (r:V->Option Int->Option Int->Hp->VK->Prop)(te:TE)(tl th:TO):TE:=λσ H Q=>te σ H λx H1=>tl σ H1 λl H2=>th σ H2 λu H3=>r x l u H3 Q
theorem pY {r:V->Option Int->Option Int->Hp->VK->Prop}(hr:Po X r)(he:PE X e te)(hl:PO X lo tl)(hu:PO X hi th):PE X (.Subscript e (.Slice lo hi none p2) pos) (Rk r te tl th):=by
 intro pins s σ H Q I h;refine Subscript_ (bw (he pins s σ H _ I h) λv s1 ⟨x,H1,I1,r1,q1⟩=>?_);refine wpAny_Slice (bw (hl pins s1 σ H1 _ I1 q1) λvl s2 ⟨l,H2,I2,pl,q2⟩=>bw (hu pins s2 σ H2 _ I2 q2) λvu s3 ⟨u,H3,I3,pu,q3⟩=>?_);rw[evalPart_none];refine U6 ?_;have I4:Inv X pins σ H3 {s3 with heap:=s3.heap.push {cls:=.type "slice",data:=.fields #[vl,vu,.none]}}:=I3.kept (t':=s3.toks) λb ob q=>U5 _ q
 obtain⟨T,id,hT,ht,hg⟩:=hr pins {s3 with heap:=s3.heap.push {cls:=.type "slice",data:=.fields #[vl,vu,.none]}} σ H3 x v vl vu l u s3.heap.objs.size Q I4 r1 (Heap.IsSliceOf.new ..) pl pu q3
 show Vp (model X.prog X.w) X.A (subscriptTail e (.Slice lo hi none p2) v (.ref s3.heap.objs.size)) (EP X pins σ Q) X.xe {s3 with heap:=s3.heap.push {cls:=.type "slice",data:=.fields #[vl,vu,.none]}}
 exact tail_any (ops:=[.ref s3.heap.objs.size,v]) ht hT hg (by with_unfolding_all rfl)
def rh (xs:List V)(lo hi:Option Int):List V:=(xs.drop (HT.k8 xs.length 0 lo)).take (HT.k8 xs.length xs.length hi-HT.k8 xs.length 0 lo)
theorem rg (xs:List V)(lo hi:Option Int):(rh xs lo hi).length<=xs.length:=by
 unfold rh;rw[VH,List.length_drop];lia
end
def wH (n:Nat)(i:Int):Option Nat:=if 0<=i then (if i<n then some i.toNat else none) else if -(n:Int)<=i then some (i+n).toNat else none
def mK {α:Type}(xs:List α)(i:Int):Option α:=(wH xs.length i).bind λj=>xs[j]?
theorem uK {n:Nat}{i:Int}{j:Nat}(h:wH n i=some j):seqIndex? i n=some j/\j<n/\-(n:Int)<=i/\i<n:=by
 unfold wH at h
 by_cases h0:0<=i
 ·rw[if_pos h0]at h
  by_cases h1:i<n
  ·rw[if_pos h1]at h;have e:i.toNat=j:=VE h;exact⟨by rw[seqIndex_of h0 h1,e],by lia,by lia,h1⟩
  ·rw[if_neg h1]at h;cases h
 ·rw[if_neg h0]at h
  by_cases h1:-(n:Int)<=i
  ·rw[if_pos h1]at h;have e:(i+n).toNat=j:=VE h;exact⟨by rw[seqIndex_neg (by lia) h1,e],by lia,h1,by lia⟩
  ·rw[if_neg h1]at h;cases h
theorem vq {α:Type}{xs:List α}{i:Int}{v:α}(h:mK xs i=some v):∃j,seqIndex? i xs.length=some j/\xs[j]?=some v/\j<xs.length/\-(xs.length:Int)<=i/\i<xs.length:=by
 unfold mK at h;cases e:wH xs.length i with
 |none=>rw[e]at h;cases h
 |some j =>
  rw[e]at h;obtain⟨h1,h2,h3,h4⟩:=uK e;exact⟨j,h1,h,h2,h3,h4⟩
def o9 (b:Expr):Prop:=∀o i,subscripted b false o i=operate [o,i] (getItem o i)
def EO (X:Cx)(r:R2):Prop :=
 ∀(value slice:Expr) (pins:List (Addr×Obj)) (s:UL) (σ:St) (H:Hp) (x y:V) (v u:UK) (Q:VK),Inv X pins σ H s->RelV x v->RelV y u->r x y H Q ->
  subscripted slice false v u=operate [v,u] (getItem v u)->Vp (model X.prog X.w) X.A (subscriptTail value slice v u) (EP X pins σ Q) X.xe s
def Pr (X:Cx)(id:String)(r:V->List V->Hp->VK->Prop):Prop :=
 ∀(pins:List (Addr×Obj)) (s:UL) (σ:St) (H:Hp) (x:V) (xs:List V) (v:UK) (us:List UK) (Q:VK),Inv X pins σ H s->RelV x v->Vals xs us->r x xs H Q ->
  Vp (model X.prog X.w) X.A (call (.builtin id) (v::us)) (EP X pins σ Q) X.xe s
section
variable {X:Cx}{a b:Expr}{ta tb:TE}{pos:Pos}
theorem gL {r:R2}(hr:EO X r)(ha:PE X a ta)(hb:PE X b tb)(hs:o9 b):PE X (.Subscript a b pos) (IJ r ta tb):=by
 intro pins s σ H Q I h;exact Subscript_ (HD ha hb I h λv u s2 x y H2 I2 rx ry q=>hr a b pins s2 σ H2 x y v u Q I2 rx ry q (hs _ _))
def Jc (K:PySem.W.Frag):R2:=λx y H Q=>∃p xs i v,x=.ref p/\y=.int i/\dO K H p xs/\mK xs i=some v/\Q v H
def Jb (K:PySem.W.Frag):R2:=λx y H Q=>∃p xs i v,x=.ref p/\y=.int i/\tP K H p xs/\mK xs i=some v/\Q v H
theorem cS:EO X (Jc X.K):=by
 intro value slice pins s σ H x y v u Q I rx ry h hs;obtain⟨p,xs,i,z,rfl,rfl,hq,he,q⟩:=h;cases rx;obtain⟨t,rfl⟩:=ry;obtain⟨its,r,pl,hz⟩:=I.list hq;obtain⟨j,h1,h2,h3,h4,h5⟩:=vq he;obtain⟨w,ew,A7⟩:=r.get h2;have hl:=r.length;have hn:=oR;have fin:EP X pins σ Q w s:=⟨z,H,I,A7,q⟩
 by_cases h0:0<=i
 ·have hj:i.toNat=j:=by
   rw[seqIndex_of h0 h5]at h1;exact VE h1
  exact item_listR pl.isList h0 (by lia) (by rw[hj];simpa using ew) fin hs
 ·have hj:(i+(its.toArray.size:Int)).toNat=j:=by
   rw[seqIndex_neg (by lia) h4]at h1
   rw[Vc,<- hl];exact VE h1
  exact subscriptTail_builtinR (x:=w) pl.isList.typeIs YK.lookup
   (wpAny_getItem_list_neg (Q:=λr s'=>r=w/\EP X pins σ Q r s') pl.isList (by lia) (by rw[Vc] <;> lia) (by lia) (by rw[hj];simpa using ew) ⟨rfl,fin⟩) hs
theorem zI:EO X (Jb X.K):=by
 intro value slice pins s σ H x y v u Q I rx ry h hs;obtain⟨p,xs,i,z,rfl,rfl,hq,he,q⟩:=h;cases rx;obtain⟨t,rfl⟩:=ry;obtain⟨its,r,pl,hz⟩:=I.tuple hq;obtain⟨j,h1,h2,h3,h4,h5⟩:=vq he;obtain⟨w,ew,A7⟩:=r.get h2;have hl:=r.length;have hn:=oR;have fin:EP X pins σ Q w s:=⟨z,H,I,A7,q⟩;exact subscriptTail_builtinR (x:=w) pl.typeIs slot_tuple_getitem.lookup
  (getItem_tuple (j:=j) (Q:=λr s'=>r=w/\EP X pins σ Q r s') pl (by lia) (by lia) (by rw[Vc,<- hl];exact h1) (by simpa using ew) ⟨rfl,fin⟩) hs
theorem sH (its:List UK)(n j:Nat)(u:UK):W3 (·.setIfInBounds j u) {cls:=.type "list",data:=.seq its.toArray n}={cls:=.type "list",data:=.seq (its.set j u).toArray n}:=by
 simp[W3]
theorem Inv.lst {pins:List (Addr×Obj)}{σ:St}{H:Hp}{s:UL}{p:Addr}{xs:List V}(I:Inv X pins σ H s)(h:H p=some (.lst xs)):
  ∃(its:List UK) (n:Nat),Vals xs its/\s.heap.get? p=some {cls:=.type "list",data:=.seq its.toArray n}/\xs.length<=UW:=by
 obtain⟨z,its,n,r,e⟩:=I.bo p _ h;exact⟨its,n,r,e,z⟩
theorem Inv.Gh {pins:List (Addr×Obj)}{σ:St}{H:Hp}{s:UL}{p:Addr}{xs ys:List V}{its its':List UK}{n n':Nat}{f:Obj->Obj}(I:Inv X pins σ H s)(h:H p=some (.lst xs))
  (ho:s.heap.get? p=some {cls:=.type "list",data:=.seq its.toArray n}) (hf:f {cls:=.type "list",data:=.seq its.toArray n}={cls:=.type "list",data:=.seq its'.toArray n'}) (r:Vals ys its') (hz:ys.length<=UW) (t:Nat) :
  Inv X pins σ (upd H p (.lst ys)) {s with heap:=s.heap.update p f,toks:=t}:=by
 have e:(s.heap.update p f).get? p=some {cls:=.type "list",data:=.seq its'.toArray n'}:=by
  rw[Heap.get?_update_self f ho (by rw[hf] <;> rfl),hf]
 refine I.write (x:=p) (e:=p) (by rw[h];trivial) (.inl rfl) (λb u hb q=>(Heap.get?_update_other _ _ (W7 hb)).trans q) ⟨_,e⟩ ?_
 exact⟨hz,its',n',r,e⟩
def Ja:V->V->V->Hp->(Hp->Prop)->Prop:=λo i v H Q=>∃p xs k j,o=.ref p/\i=.int k/\H p=some (.lst xs)/\wH xs.length k=some j/\Q (upd H p (.lst (xs.set j v)))
theorem set_list:LN X Ja:=by
 intro pins s σ H o i v ov iv u Q I ro ri rv h;obtain⟨p,xs,k,j,rfl,rfl,hp,hj,q⟩:=h;cases ro;obtain⟨t,rfl⟩:=ri;obtain⟨its,n,r,ho,hz⟩:=I.lst hp;obtain⟨h1,h2,h3,h4⟩:=uK hj;have hl:=r.length;have hn:=oR;have I':Inv X pins σ (upd H p (.lst (xs.set j v))) {s with heap:=s.heap.update p (W3 (·.setIfInBounds j u))} :=
  I.Gh hp ho (sH its n j u) (r.set rv j) (by rw[List.length_set];exact hz) s.toks
 by_cases h0:0<=k
 ·have hk:k.toNat=j:=by
   rw[seqIndex_of h0 h4]at h1;exact VE h1
  exact PySem.W.ki_setAt ho h0 (by lia) (by rw[Vc,<- hl];exact h4) (by rw[hk];exact⟨_,I',q⟩)
 ·have hk:(k+(its.toArray.size:Int)).toNat=j:=by
   rw[seqIndex_neg (by lia) h3]at h1
   rw[Vc,<- hl];exact VE h1
  exact PySem.W.ki_setBack ho (by lia) (by rw[Vc,<- hl];exact h3) (by lia) (by rw[hk];exact⟨_,I',q⟩)
theorem n_ (lo hi:Option Int)(n:Nat):(WH lo hi none n).1=((HT.k8 n 0 lo:Nat):Int)/\(WH lo hi none n).2.1=((HT.k8 n n hi:Nat):Int)/\(WH lo hi none n).2.2=1:=by
 refine⟨?_,?_,rfl⟩
 ·cases lo with
  |none=>simp[WH,HT.k8]
  |some i =>
   simp only[WH,HT.k8,Option.getD_none,show (1:Int)>0 by decide,if_true]
   by_cases h:i<0
   ·simp only[h,if_true] <;> lia
   ·simp only[h,if_false] <;> lia
 ·cases hi with
  |none=>simp[WH,HT.k8]
  |some i =>
   simp only[WH,HT.k8,Option.getD_none,show (1:Int)>0 by decide,if_true]
   by_cases h:i<0
   ·simp only[h,if_true] <;> lia
   ·simp only[h,if_false] <;> lia
theorem ml (its:List UK)(lo hi:Option Int):slicePick its.toArray lo hi none=((its.drop (HT.k8 its.length 0 lo)).take (HT.k8 its.length its.length hi-HT.k8 its.length 0 lo)).toArray:=by
 obtain⟨h1,h2,h3⟩:=n_ lo hi its.toArray.size;unfold slicePick;rw[h1,h2,h3];simp only[sliceRange_one,pick_run,Vc] <;> rfl
def Nd (K:PySem.W.Frag):V->Option Int->Option Int->Hp->VK->Prop:=λx lo hi H Q=>∃a xs,x=.ref a/\dO K H a xs/\∀p,H p=none->Q (.ref p) (upd H p (.lst (rh xs lo hi)))
theorem uc:Po X (Nd X.K):=by
 intro pins s σ H x v vl vu lo hi sl Q I rx hs pl pu h;obtain⟨a,xs,rfl,hx,q⟩:=h;cases rx;obtain⟨its,r,ht,hz⟩:=I.list hx;have hlen:=r.length;refine⟨"list",_,YK.lookup,ht.isList.typeIs,?_⟩;refine wpAny_getItem_list_slice ht.isList hs pl pu .none (by simp) ?_ (by rw[Vc] <;> lia)
 rw[ml,<- hlen];refine⟨.ref s.heap.objs.size,_,I.laid (t':=s.toks) (o:=.lst (rh xs lo hi)) (λb ob q=>U5 _ q) (UO _) ?_,rfl,q _ (I.bo.fresh (UO _))⟩;exact⟨Vq (rg xs lo hi) hz,_,0,(r.drop (HT.k8 xs.length 0 lo)).take (HT.k8 xs.length xs.length hi-HT.k8 xs.length 0 lo),VF _ rfl⟩
theorem fA:eZ X (.builtin "len") (λxs H Q=>∃p ys,xs=[.ref p]/\(dO X.K H p ys\/tP X.K H p ys)/\Q (.int ys.length) H):=by
 intro pins s σ H xs us Q I r h;obtain⟨p,ys,rfl,hq,q⟩:=h;obtain⟨u,rfl,rx⟩:=vals1 r;cases rx;have hn:=oR;rcases hq with hq|hq
 ·obtain⟨its,r',pl,hz⟩:=I.list hq;have hlen:=r'.length;exact Calls.call_len_list pl.isList (by simp only[Vc] <;> lia) ⟨.int ys.length,H,I.tok _,⟨s.toks+1,by rw[Vc,hlen]⟩,q⟩
 ·obtain⟨its,r',pl,hz⟩:=I.tuple hq;have hlen:=r'.length;exact len_tuple pl (by simp only[Vc] <;> lia) ⟨.int ys.length,H,I.tok _,⟨s.toks+1,by rw[Vc,hlen]⟩,q⟩
theorem iT:eZ X (.type "list") (λxs H Q=>∃p ys,xs=[.ref p]/\(dO X.K H p ys\/tP X.K H p ys)/\∀l,H l=none->Q (.ref l) (upd H l (.lst ys))):=by
 intro pins s σ H xs us Q I r h;obtain⟨p,ys,rfl,hq,q⟩:=h;obtain⟨u,rfl,rx⟩:=vals1 r;cases rx;have fin:∀(its:List UK),Vals ys its->ys.length<=UW->∀(h':Heap) (c':Nat),(∀b o',s.heap.get? b=some o'->h'.get? b=some o') ->
   h'.get? s.heap.objs.size=some {cls:=.type "list",dict:=none,data:=.seq its.toArray c',slots:=#[]}->EP X pins σ Q (.ref s.heap.objs.size) {s with heap:=h'}:=λits r' hz h' c' kp e =>
  ⟨.ref s.heap.objs.size,_,I.laid (t':=s.toks) kp (UO _) (show bu X.prog X.w _ h' _ (.lst ys) from ⟨hz,its,c',r',e⟩),rfl,q _ (I.bo.fresh (UO _))⟩
 rcases hq with hq|hq
 ·obtain⟨its,r',pl,hz⟩:=I.list hq;have hlen:=r'.length;obtain⟨o,ho,hc,n,hd⟩:=pl.isList;exact call_list_seq p (.inl rfl) ho hc hd (λh' c' kp e=>fin its r' hz h' c' kp e) (by simp only[Vc] <;> lia)
 ·obtain⟨its,r',pl,hz⟩:=I.tuple hq;have hlen:=r'.length;obtain⟨o,ho,hc,n,hd⟩:=pl;exact call_list_seq p (.inr rfl) ho hc hd (λh' c' kp e=>fin its r' hz h' c' kp e) (by simp only[Vc] <;> lia)
def LX (K:PySem.W.Frag)(T:String)(x:V)(H:Hp):Prop:=match x with
 |.str _=>T="str"
 |.int _=>T="int"
 |.ref p=>(T="list" /\ ∃xs,dO K H p xs)\/(T="tuple" /\ ∃o,K.lookup p=some o/\o.cls=.type "tuple" /\ o.dict=none) \/
   (T="dict" /\ ((∃kvs,H p=some (.dK kvs))\/∃kvs,H p=some (.dT kvs)))\/(T="set" /\ ∃S n,H p=some (.set S n))
 |_=>False
theorem xV {pins:List (Addr×Obj)}{σ:St}{H:Hp}{s:UL}{T:String}{x:V}{v:UK}(I:Inv X pins σ H s)(r:RelV x v)(ty:LX X.K T x H):
  s.TypeIs v T/\∀a,v=.ref a->∃ob,s.heap.get? a=some ob/\ob.dict=none:=by
 cases x with
 |str z =>
  obtain⟨t,rfl⟩:=r;cases (show T="str" from ty)
  exact⟨typeIs_str s z t,λ_ e=>nomatch e⟩
 |int i =>
  obtain⟨t,rfl⟩:=r;cases (show T="int" from ty)
  exact⟨typeIs_int s i t,λ_ e=>nomatch e⟩
 |ref p =>
  cases r;rcases ty with⟨rfl,xs,hq⟩|⟨rfl,o,hk,hc,hd⟩|⟨rfl,hk⟩|⟨rfl,S,n,hk⟩
  ·obtain⟨its,_,pl,_⟩:=I.list hq;refine⟨pl.isList.typeIs,λa e=>?_⟩;cases e;obtain⟨o,n,e,c,hd,_⟩:=pl;exact⟨o,e,hd⟩
  ·refine⟨⟨o,I.lI p o hk,hc⟩,λa e=>?_⟩;cases e;exact⟨o,I.lI _ o hk,hd⟩
  ·have z:∃o,s.heap.get? p=some o/\o.ExactDict:=by
    rcases hk with⟨kvs,hk⟩|⟨kvs,hk⟩
    ·obtain⟨_,_,_,_,o,_,_,e,ex,_⟩:=I.bo p _ hk;exact⟨o,e,ex⟩
    ·obtain⟨_,_,_,_,o,_,_,e,ex,_⟩:=I.bo p _ hk;exact⟨o,e,ex⟩
   obtain⟨o,e,ex⟩:=z;refine⟨⟨o,e,ex.1⟩,λa e2=>?_⟩;cases e2;exact⟨o,e,ex.2.1⟩
  ·obtain⟨o,_,_,_,e,ex,_⟩:=I.bo p _ hk;refine⟨⟨o,e,ex.1⟩,λa e2=>?_⟩;cases e2;exact⟨o,e,ex.2.1⟩
 |_=>exact Wu ty
def M4 (K:PySem.W.Frag)(T:String)(r:V->List V->Hp->VK->Prop)(to:TE):TE:=λσ H Q=>to σ H λx H1=>LX K T x H1/\r x [] H1 Q
def Rm (K:PySem.W.Frag)(T:String)(r:V->List V->Hp->VK->Prop)(to:TE)(t:TA):TE:=λσ H Q=>to σ H λx H1=>LX K T x H1/\t σ H1 λxs H2=>r x xs H2 Q
variable {o e:Expr}{es:List Expr}{to:TE}{t:TA}{name:Str}{apos cpos:Pos}{T id:String}{r:V->List V->Hp->VK->Prop}
theorem FP (pa:PlainAttrs T) (slot:Slot T name id) (J8:typeOf (.builtin id)=pure (.type "method_descriptor")) (hm:Pr X id r) (ho:PE X o to)
  (cW:Wz o name X.env (eval o X.env)=eval o X.env:=by rfl) (cV:(apos.endLine==cpos.line)=true:=by rfl):PE X (.Call (.Attribute o name apos) [] [] cpos) (M4 X.K T r to):=by
 intro pins s σ H Q I h;refine wpAny_Call_method0_late cW cV (bw (ho pins s σ H _ I h) λv s1 ⟨x,H1,I1,r1,ty,q1⟩=>?_);obtain⟨h1,h2⟩:=xV I1 r1 ty;exact⟨T,id,pa,slot,J8,h1,h2,Calls.callWith_builtin rfl (PySem.evalArgs_none (hm pins s1 σ H1 x [] v [] Q I1 r1 .nil q1))⟩
theorem uw (pa:PlainAttrs T) (slot:Slot T name id) (J8:typeOf (.builtin id)=pure (.type "method_descriptor")) (hm:Pr X id r) (ho:PE X o to) (ha:PA X (e::es) t)
  (cW:Wz o name X.env (eval o X.env)=eval o X.env:=by rfl)
  (jw:((V6 cpos (US (e::es) X.env)).all (λx=>!x.1)&&(Yu cpos (XJ [] X.env)).all (λx=>x.1.isSome)
   && decide ((e::es).length+([]:List Xi).length+(if ([]:List Xi).isEmpty then 0 else 1)<30))=true:=by rfl)
  (cV:(apos.endLine==cpos.line)=true:=by rfl) (hs:US (e::es) X.env=(false,eval e X.env)::US es X.env:=by rfl) (cO:(V6 cpos (US es X.env)).any (·.1)=false:=by rfl) :
  PE X (.Call (.Attribute o name apos) (e::es) [] cpos) (Rm X.K T r to t):=by
 intro pins s σ H Q I h;refine wpAny_Call_method_late cW jw cV rfl (bw (ho pins s σ H _ I h) λv s1 ⟨x,H1,I1,r1,ty,q1⟩=>?_);obtain⟨h1,h2⟩:=xV I1 r1 ty;refine⟨T,id,pa,slot,J8,h1,h2,?_⟩;have hA:=ha cpos pins s1 σ H1 _ I1 q1;rw[hs]at hA ⊢
 refine Calls.callWith_builtin (by show (false || (V6 cpos (US es X.env)).any (·.1))=false;rw[cO] <;> rfl) (Calls.evalArgs_plain ?_)
 exact bw hA λus s2 ⟨vs,H2,I2,r2,q2⟩=>hm pins s2 σ H2 x vs v us Q I2 r1 r2 q2
end
def Pt (X:Cx)(id:String)(r:V->List V->Hp->VK->Prop):Prop :=
 ∀(pins:List (Addr×Obj)) (s:UL) (σ:St) (H:Hp) (x:V) (xs:List V) (v:UK) (us:List UK) (Q:VK),Inv X pins σ H s->RelV x v->Vals xs us->r x xs H Q ->
  Vp (model X.prog X.w) X.A (call (.builtin id) (v::us)) (EP X pins σ Q) X.xe s
theorem Vals.one:∀{x:V} {us:List UK},Vals [x] us->∃u,us=[u]/\RelV x u
 |_,_,.cons r .nil=>⟨_,rfl,r⟩
theorem Vals.zero:∀{us:List UK},Vals [] us->us=[]
 |_,.nil=>rfl
theorem Vals.dropLast {xs:List V}{us:List UK}(h:Vals xs us):Vals xs.dropLast us.dropLast:=by
 induction h with
 |nil=>exact .nil
 |cons r t ih =>
  cases t with
  |nil=>exact .nil
  |cons q t'=>exact .cons r ih
theorem Vals.rep {xs:List V}{us:List UK}(h:Vals xs us):∀k:Nat,Vals (Vg k xs).flatten (Vg k us).flatten
 |0=>.nil
 |k+1=>by
  rw[Wa,Wa,WV,WV];exact Vals.append h (Vals.rep h k)
theorem tm {α:Type}(l:List α):l.eraseIdx (l.length-1)=l.dropLast:=by
 induction l with
 |nil=>rfl
 |cons a r ih =>
  cases r with
  |nil=>rfl
  |cons b r =>
   have e:(a::b::r).length-1=((b::r).length-1)+1:=by
    have h1:(a::b::r).length=r.length+2:=rfl;have h2:(b::r).length=r.length+1:=rfl;lia
   rw[e,List.eraseIdx_cons_succ,ih]
   all_goals rfl
theorem foldl_rep (its:List UK):∀(k:Nat) (acc:List UK),
  List.foldl (λx1 x2=>x1++x2) acc.toArray (Vg k its.toArray)=(acc++(Vg k its).flatten).toArray
 |0,acc=>by simp
 |k+1,acc=>by
  have e:acc.toArray++its.toArray=(acc++its).toArray:=by simp
  have e2:(acc++its)++(Vg k its).flatten=acc++(Vg (k+1) its).flatten:=by
   rw[Wa,WV,VC]
  rw[<- e2,<- foldl_rep its k (acc++its),<- e,Wa,XX]
section
variable {X:Cx}{pins:List (Addr×Obj)}{σ:St}{H:Hp}{s:UL}{l:Addr}{xs ys:List V}
theorem Inv.Gj {its its':List UK}{n:Nat}{f:Array UK->Array UK}{t':Nat}(I:Inv X pins σ H s)(hH:H l=some (.lst xs))
  (e:s.heap.get? l=some {cls:=.type "list",data:=.seq its.toArray n}) (hf:f its.toArray=its'.toArray) (hv:Vals ys its') (hz:ys.length<=UW) :
  Inv X pins σ (upd H l (.lst ys)) {s with heap:=s.heap.update l (W3 f),toks:=t'}:=by
 have q:=PySem.IsL.update e f;rw[hf]at q;refine I.write (x:=l) (e:=l) (by rw[hH];exact trivial) (.inl rfl) (λb' u hb hu=>(Heap.get?_update_other s.heap (W3 f) (W7 hb)).trans hu) ⟨_,q⟩ ?_
 exact⟨hz,its',_,hv,q⟩
theorem Inv.Gn {its:List UK}{t':Nat}(I:Inv X pins σ H s)(hv:Vals ys its)(hz:ys.length<=UW):
  Inv X pins σ (upd H s.heap.objs.size (.lst ys)) {s with heap:=s.heap.push {cls:=.type "list",data:=.seq its.toArray},toks:=t'} :=
 I.laid (λ_ _ q=>U5 _ q) (UO _) ⟨hz,its,0,hv,VF _ rfl⟩
theorem Inv.fresh (I:Inv X pins σ H s):H s.heap.objs.size=none:=I.bo.fresh (UO _)
theorem Inv.sI (I:Inv X pins σ H s)(hH:H l=some (.lst xs)):xs.length<=UW/\∃(its:List UK) (n:Nat),Vals xs its/\xs.length=its.length/\s.heap.get? l=some {cls:=.type "list",data:=.seq its.toArray n}:=by
 obtain⟨z,its,n,r,e⟩:=I.bo l _ hH;exact⟨z,its,n,r,r.length,e⟩
theorem qe {n:Nat}(h:n<=UW):Xg n=false:=by
 unfold Xg;exact decide_eq_false (by lia)
end
section
variable {X:Cx}
def uf:V->List V->Hp->VK->Prop:=λx vs H Q=>∃l xs y,x=.ref l/\vs=[y]/\H l=some (.lst xs)/\xs.length<UW/\Q .cg (upd H l (.lst (xs++[y])))
theorem ji:Pt X "list.append" uf:=by
 intro pins s σ H x vs v us Q I rx rv h;obtain⟨l,xs,y,rfl,rfl,hH,hz,q⟩:=h;cases rx;obtain⟨u,rfl,ru⟩:=rv.one;obtain⟨z,its,n,r,hl,e⟩:=I.sI hH;refine X6 F.slot_list_append ⟨_,e,rfl⟩ F.entry_list_append (F.args_list_append_2 _ _) (PySem.list_append l its.toArray n u (by rw[Vc];lia)) ⟨e,?_⟩
 refine⟨.cg,_,I.Gj (its':=its++[u]) hH e (by simp) (r.append (.cons ru .nil)) ?_,rfl,q⟩
 rw[Vr,WR];lia
def BJ:V->List V->Hp->VK->Prop:=λx vs H Q=>∃l b xs zs,x=.ref l/\vs=[.ref b]/\H l=some (.lst xs)/\H b=some (.lst zs)/\xs.length+zs.length<=UW/\Q .cg (upd H l (.lst (xs++zs)))
theorem wt:Pt X "list.extend" BJ:=by
 intro pins s σ H x vs v us Q I rx rv h;obtain⟨l,b,xs,zs,rfl,rfl,hH,hB,hz,q⟩:=h;cases rx;obtain⟨u,rfl,ru⟩:=rv.one;cases ru;obtain⟨z,its,n,r,hl,e⟩:=I.sI hH;obtain⟨z2,qA,n2,r2,SD,e2⟩:=I.sI hB;have hsz:its.toArray.size+qA.toArray.size<=UW:=by rw[Vc,Vc];lia
 have zV:¬ (!its.toArray.isEmpty&&Xg (its.toArray.size+qA.toArray.size))=true:=by
  rw[qe hsz,Wj];exact VX
 refine X6 F.slot_list_extend ⟨_,e,rfl⟩ F.entry_list_extend (F.args_list_extend_2 _ _)
  (AutoSeq1.list_extend_list_list_0 l its.toArray n b qA.toArray n2 zV (by rw[Vc];lia) (by lia)) ⟨e,e2,?_⟩
 refine⟨.cg,_,I.Gj (its':=its++qA) hH e (by simp) (r.append r2) ?_,rfl,q⟩
 rw[Vr];lia
def Ng:V->List V->Hp->VK->Prop:=λx vs H Q=>∃l xs y,x=.ref l/\vs=[]/\H l=some (.lst xs)/\xs[xs.length-1]?=some y/\Q y (upd H l (.lst xs.dropLast))
theorem Gf:Pt X "list.pop" Ng:=by
 intro pins s σ H x vs v us Q I rx rv h;obtain⟨l,xs,y,rfl,rfl,hH,hy,q⟩:=h;cases rx;have Sg:=rv.zero;subst Sg;obtain⟨z,its,n,r,hl,e⟩:=I.sI hH;obtain⟨u,hu,ru⟩:=r.get hy;have Se:its.toArray[its.toArray.size-1]?=some u:=by
  show its.toArray[its.length-1]?=some u;rw[<- Ve,<- hl];exact hu
 refine X6 F.slot_list_pop ⟨_,e,rfl⟩ F.entry_list_pop (F.args_list_pop_1 _) (MeetsSeq.list_pop_last l its.toArray n u Se (by rw[Vc];lia)) ⟨e,?_⟩
 refine⟨y,_,I.Gj (its':=its.dropLast) hH e ?_ r.dropLast ?_,ru,q⟩
 ·show its.toArray.eraseIdxIfInBounds (its.toArray.size-1)=its.dropLast.toArray;rw[Vc,List.eraseIdxIfInBounds_toArray,tm]
 ·rw[List.length_dropLast];lia
def Nj:R2:=λx y H Q=>∃l b xs zs,x=.ref l/\y=.ref b/\H l=some (.lst xs)/\H b=some (.lst zs)/\xs.length+zs.length<=UW/\∀p,H p=none->Q (.ref p) (upd H p (.lst (xs++zs)))
theorem zg:iW X (Wq .Add) Nj:=by
 intro pins s σ H x y v u Q I rx ry h;obtain⟨l,b,xs,zs,rfl,rfl,hH,hB,hz,q⟩:=h;cases rx;cases ry;obtain⟨z,its,n,r,hl,e⟩:=I.sI hH;obtain⟨z2,qA,n2,r2,SD,e2⟩:=I.sI hB;refine PySem.P.add_list e e2 ?_ (by rw[Vc,Vc];lia)
 have ea:its.toArray++qA.toArray=(its++qA).toArray:=by simp
 rw[ea];exact⟨.ref _,_,I.Gn (t':=s.toks) (r.append r2) (by rw[Vr];lia),rfl,q _ I.fresh⟩
def Nf:R2:=λx y H Q=>∃l k xs,x=.ref l/\y=.int k/\H l=some (.lst xs)/\-(2 ^ 63)<=k/\k<2 ^ 63/\xs.length*k.toNat<=UW /\
 ∀p,H p=none->Q (.ref p) (upd H p (.lst (Vg k.toNat xs).flatten))
theorem len_rep {α:Type}(xs:List α)(k:Nat):(Vg k xs).flatten.length=k*xs.length:=by
 induction k with
 |zero=>simp
 |succ k ih=>rw[Wa,WV,Vr,ih,Nat.succ_mul,Nat.add_comm]
theorem FY:iW X (Wq .Mult) Nf:=by
 intro pins s σ H x y v u Q I rx ry h;obtain⟨l,k,xs,rfl,rfl,hH,h1,h2,hz,q⟩:=h;cases rx;obtain⟨t,rfl⟩:=ry;obtain⟨z,its,n,r,hl,e⟩:=I.sI hH;have hlen:its.toArray.size*k.toNat<=UW:=by rw[Vc,<- hl];exact hz
 have OX:¬ its.toArray.size*k.toNat>(2 ^ 63-1) / 8:=by
  have:(UW:Nat)<=(2 ^ 63-1) / 8:=by decide
  lia
 have OV:¬ (!Builtin.List.listFitsIndex k)=true:=by
  rw[fitsIndex_both h1 h2];exact VX
 have zV:¬ Xg (its.toArray.size*k.toNat)=true:=by
  rw[qe hlen];exact VX
 have G8:List.foldl (λx1 x2=>x1++x2) #[] (Vg (if its.toArray.isEmpty=true then 0 else k.toNat) its.toArray)=(Vg k.toNat its).flatten.toArray:=by
  have f0:∀m:Nat,List.foldl (λx1 x2=>x1++x2) #[] (Vg m its.toArray)=(Vg m its).flatten.toArray:=λm=>by
   have:=foldl_rep its m [];rw[List.nil_append]at this;exact this
  rw[f0];cases its with
  |nil=>simp
  |cons a r'=>rw[if_neg (by simp)]
 refine wpAny_binaryOp_repeat_ref (T:="list") (U:="int") (by decide) ⟨_,e,rfl⟩ (λs'=>typeIs_int s' k t) noFill_list_mul F.fills_int_mul F.slot_int_rmul repeat_list F.slot_int_index.lookup
  (X6 F.slot_int_rmul (typeIs_int s k t) F.entry_int_rmul (F.args_int_rmul_2 _ _) (int___rmul___int_list k t l its.toArray n)
   ⟨e,rfl,⟨_,e,rfl⟩,X6 F.slot_list_mul ⟨_,e,rfl⟩ F.entry_list_mul (F.args_list_mul_2 _ _) (AutoListH.list___mul___list_int_3 l its.toArray n k t OV OX zV) ⟨e,?_⟩⟩)
 rw[G8];exact⟨.ref _,_,I.Gn (t':=s.toks) (r.rep k.toNat) (by rw[len_rep,YO];exact hz),rfl,q _ I.fresh⟩
end
section
end
section
end
end L2
namespace Rb
open PySem PySem.W PySem.Calls PyProof.Rows
theorem jY {P:Yv}{h:Heap}:∀(ns:List Int) (vs:List UK),WellAll P h vs (ns.map WData.int)->WK vs ns:=by
 intro ns
 induction ns with
 |nil =>
  intro vs w;rw[X3]at w;cases w;exact .nil
 |cons n ns ih =>
  intro vs w;rw[Vd]at w;cases w with
  |cons a b =>
   cases a;exact .cons _ _ (ih _ b)
theorem vL {l:OpenLaw}{n:Nat}(hn:l.most=some n){P:Yv}{h:Heap}{args:List WData}{vals:List UK}
  (CN:l.row.toRowW.claim.pre args=true) (NZ:WellAll P h vals args) :
  ∃a vs ns,vals=[Value.ref a]/\args=[WData.list (ns.map WData.int)]/\h.get? a=some {cls:=.type "list",data:=.seq vs.toArray}/\WK vs ns/\ns.length<=n:=by
 have Si:WShape.hasAll [] args [.list .int]=true:=(pre_splitW CN).1;have hc:l.pre.holds [] {args:=args}=true:=(pre_splitW CN).2;obtain⟨d,r,rfl,h1,h2⟩:=hasAllW_cons Si;obtain rfl:=hasAllW_nil h2;obtain⟨xs,rfl,h3⟩:=hasW_list h1;obtain⟨ns,rfl⟩:=items_int h3;have hlen:ns.length<=n:=by
  unfold OpenLaw.pre at hc;have h4:(WTm.not (.lt (.lit (.int (n:Int))) (.len (.arg 0)))).holds [] {args:=[.list (ns.map .int)]}=true:=by
   have h4:=(holds_andW hc).1;rw[hn]at h4;exact h4
  have h5:=condW_of h4 (w_not (w_lt w_lit (w_len_list (w_arg rfl))));rw[UN]at h5;refine Nat.le_of_not_lt λq=>?_;have q':(n:Int)<((ns.length:Nat):Int):=by lia
  first
   | (rw[decide_eq_true q']at h5;exact absurd h5 (by decide))
   | (simp at h5;lia)
 cases NZ with
 |cons w1 w2 =>
  cases w2;cases w1 with
  |list ho OY=>exact⟨_,_,ns,rfl,rfl,ho,jY ns _ OY,hlen⟩
theorem vY (l:OpenLaw)(args:List WData):l.row.toRowW.claim.post args (.bool true) args=true :=
 postW_of (r:=l.row.toRowW) (X:=(true==true))
  (show WShape.has [] (.bool true) .bool=true by first|rfl|decide|simp[WShape.has,WShape.arms,WShape.armsAll])
  (show (WTm.eq .res (.lit (.bool true))).value [] {args:=args,res:=some (.bool true),after:=args}=some (.bool (true==true)) from w_eq_bool (w_res rfl) w_lit) rfl
theorem rp {l:OpenLaw}{n:Nat}{q:UP}{loose:List Str}{XP:(Str->Option UK)->Heap->Prop}{YP:U1->Heap->Prop}{d:DefRec}
  (hn:l.most=some n) (OW:d.params.defaults=[])
  (call:∀(w:U1) (s₀ s₁:UL) (mg mb:Str->Option UK) (fa:Addr) (o:Obj) (pm cd doc:UK) (a:Addr) (vs:List UK) (ns:List Int),
   Ground q loose [] XP w s₀ mg mb s₁.heap->YP w s₁.heap ->
   s₁.heap.get? fa=some o->o.data=.func (docDef d.name d.params d.body d.scope pm cd doc)->s₁.heap.CodeRec cd d.name->mg d.name=some (.ref fa) ->
   s₁.heap.get? a=some {cls:=.type "list",data:=.seq vs.toArray}->WK vs ns->ns.length<=n->s₁.gens=#[] ->
   Yn (model l.prog w) YL (.call (.ref fa) ⟨[.ref a],[]⟩) (λr s'=>r=.ok (.ret (.bool true))/\OldK s₁.heap s'.heap/\s'.os=s₁.os/\Yc s'.gens) s₁) :
  WalkO q loose XP YP l.row.toRowW d [] (λf vs=>PySem.call f vs):=by
 intro w s₀ s₁ mg mb G Y fa o pm cd doc dV kV ho hd fH hD OA hg args vals as CN SA Um NZ OE;obtain rfl:dV=.none:=Dflts.none hD OW;obtain rfl:kV=.none:=Dflts.noKw hD;obtain⟨a,vs,ns,rfl,rfl,G5,hints,hlen⟩:=vL hn CN NZ;refine enter_call (X0 (call w s₀ s₁ mg mb fa o pm cd doc a vs ns G Y ho (fd_plain hd) fH OA G5 hints hlen hg) λr s' hq=>?_);obtain⟨rfl,h2,h3,h4⟩:=hq;exact⟨.inl ⟨.bool true,.bool true,[],rfl,λ_=>rfl,.bool true,vY l _,λ_=>⟨List.Pairwise.nil,λ_ hm=>(nomatch hm)⟩⟩,h2,h3,h4⟩
section
end
end Rb
namespace L2
open PySem PySem.Spec PyProof.Rows
theorem mP:∀{vs:List UK} {ns:List Int},WK vs ns->Vals (ns.map V.int) vs
 |_,_,.nil=>.nil
 |_,_,.cons n t h=>.cons ⟨t,rfl⟩ (mP h)
def HJ (H:Hp):Prop:=∀b,H b=none\/∃o xs,H b=some (.s9 o (.lst xs))
theorem zD {P:UP}{w:U1}{K:PySem.W.Frag}{mg mb:Str->Option UK}{CX:xr}{k:Nat}{fa a:Addr}{fd:Vs}{x:Str}{sp:Sp}{s₁:UL}{vs:List UK}{ns:List Int}
  (KX:K.In s₁.heap) (Mq:s₁.heap.Ns Wh mg) (hb:s₁.heap.Ns builtinsNs mb) (SW:∀x:Str,x≠"__name__" -> mb x=VJ x) (OG:s₁.heap.NoLimit) (hg:s₁.gens=#[])
  (ha:s₁.heap.get? a=some {cls:=.type "list",data:=.seq vs.toArray}) (hi:WK vs ns) (hl:ns.length<=UW) (hr:ck k YL)
  (F:∀base:Heap,K.In base->base.Ns Wh mg->aL P w K mg base CX k fa fd [x] sp) (Ln:∀(s:UL) (u:UK),BindsTo s fd ⟨[u],[]⟩ [(x,u)])
  (gC:∀H:Hp,HJ H->dO K H a (ns.map V.int)->sp [.ref a] H (λv _=>v=.bl true) λ_ _ _=>False)
  (O0:∀H e s',CX [] H s₁ (λ_ _ _=>False) e s'->False) :
  Yn (model P w) YL (.call (.ref fa) ⟨[.ref a],[]⟩) (λr s'=>r=.ok (.ret (.bool true))/\OldK s₁.heap s'.heap/\s'.os=s₁.os/\Yc s'.gens) s₁:=by
 have rv:=mP hi;have NK:=hi.length;have core:∀H:Hp,HJ H->dO K H a (ns.map V.int)->fL P w H s₁.heap->(∀b,H b≠none->b=a)->(H a≠none->K.lookup a=none) ->
   Yn (model P w) YL (.call (.ref fa) ⟨[.ref a],[]⟩) (λr s'=>r=.ok (.ret (.bool true))/\OldK s₁.heap s'.heap/\s'.os=s₁.os/\Yc s'.gens) s₁:=by
  intro H hO hS bo hA hK;have vp:∀{b:Addr} {o:Obj},s₁.heap.get? b=some o->H b=none->(oV s₁.heap H).get? b=some o:=λe n=>zX e n;have JF:∀{b:Addr} {o:Obj} {es:Array XH} {ep:Nat},s₁.heap.get? b=some o->o.data=.dict es ep->H b=none:=λ{b o es ep} e d=>by
   cases q:H b with
   |none=>rfl
   |some u =>
    have e':b=a:=hA b (by rw[q];simp)
    subst e';rw[ha]at e;cases e;have d':Data.seq vs.toArray _=Data.dict es ep:=d;cases d'
  have L9:∀{b:Addr} {m:Str->Option UK},s₁.heap.Ns b m->(oV s₁.heap H).Ns b m:=λ{b m} ⟨o,es,ep,e,d,r⟩=>⟨o,es,ep,vp e (JF e d),d,r⟩;have QN:K.In (oV s₁.heap H):=λb o e=>vp (KX b o e) (by
   cases q:H b with
   |none=>rfl
   |some u =>
    have e':b=a:=hA b (by rw[q];simp)
    subst e';rw[hK (by rw[q];simp)]at e;cases e)
  have hM:Mod K mg (oV s₁.heap H):=⟨QN,L9 Mq,⟨mb,L9 hb,SW⟩,let ⟨mc,h1,h2⟩:=OG;⟨mc,L9 h1,h2⟩⟩
  have e0:DL P w K mg (oV s₁.heap H) YL [] s₁ H:=⟨rfl,hM,λb o e=>Cr e,Nat.le_of_eq (wQ _ _),trivial,λb hb=>absurd (show b∈([]:List Addr) from hb) (by simp),bo,.of_eq hg⟩
  refine X0 ((F _ QN (L9 Mq)).run YL [] s₁ H ⟨[.ref a],[]⟩ [.ref a] [.ref a] _ _ hr e0 (Ln s₁ (.ref a)) (.cons rfl .nil) (gC H hO hS)) λr s' h=>?_;cases r with
  |error e=>exact(O0 H e s' h).elim
  |ok fl =>
   cases fl with
   |next=>exact Wu h
   |brk=>exact Wu h
   |cont=>exact Wu h
   |ret u =>
    obtain⟨v,H',os,bare,un,Oq,r',q⟩:=h;have q':v=.bl true:=q;subst q';obtain rfl:u=Value.bool true:=r';refine⟨rfl,OldK.of_keep λb o e=>?_,os,bare⟩;cases q:H b with
    |none=>exact un.keep b o e q (by intro z;exact absurd (show b∈([]:List Addr) from z) (by simp)) (by simp)
    |some u =>
     rcases hO b with z|⟨ob,xs,z⟩
     ·rw[q]at z;cases z
     ·have z2:=un.gH b ob _ z;obtain⟨e1,_⟩:=bo b _ z;obtain⟨e2,_⟩:=Oq b _ z2;rw[e]at e1;cases e1;exact e2
 cases hk:K.lookup a with
 |some o =>
  have e:=KX a o hk;rw[ha]at e;cases e;refine core (λ_=>none) (λ_=>.inl rfl) (.inr ⟨_,vs.toArray,_,hk,rfl,rfl,rfl,by rw[Vc,NK];exact hl,by simpa using rv⟩) (λb u z=>by have z':(none:Option HO)=some u:=z;cases z') (λb z=>absurd rfl z) λz=>absurd rfl z
 |none =>
  refine core (λb=>if b=a then some (.s9 {cls:=.type "list",data:=.seq vs.toArray} (.lst (ns.map V.int))) else none) (λb=>?_) (.inl (.inr ⟨{cls:=.type "list",data:=.seq vs.toArray},if_pos rfl⟩)) (λb u z=>?_) (λb z=>?_) λ_=>hk
  ·by_cases hb:b=a
   ·exact .inr ⟨_,_,if_pos hb⟩
   ·exact .inl (if_neg hb)
  ·by_cases hb:b=a
   ·have z':=(if_pos hb).symm.trans z;cases z';subst hb;exact⟨ha,by rw[UN];exact hl,vs,_,rv,ha⟩
   ·have z':=(if_neg hb).symm.trans z;cases z'
  ·by_cases hb:b=a
   ·exact hb
   ·exact absurd (if_neg hb) z
theorem Bj {l:PySem.W.OpenLaw}{n k:Nat}{q:UP}{loose:List Str}{XP:(Str->Option UK)->Heap->Prop}{YP:U1->Heap->Prop}{d:DefRec}{K:Yv->PySem.W.Frag}{CX:U1->xr}{sp:U1->Sp}{x:Str}
  (hn:l.most=some n) (Ms:n<=UW) (OW:d.params.defaults=[]) (hr:ck k YL)
  (hY:∀(w:U1) (h:Heap),YP w h->(K w.params).In h)
  (F:∀(w:U1) (mg:Str->Option UK) (fa:Addr) (h:Heap),(K w.params).In h->h.Ns Wh mg->mg d.name=some (.ref fa) ->
   ∃fd:Vs,(∀(s:UL) (u:UK),BindsTo s fd ⟨[u],[]⟩ [(x,u)]) /\
    ∀base:Heap,(K w.params).In base->base.Ns Wh mg->aL l.prog w (K w.params) mg base (CX w) k fa fd [x] (sp w))
  (gC:∀(w:U1) (H:Hp) (a:Addr) (ns:List Int),ns.length<=n->HJ H->dO (K w.params) H a (ns.map V.int)->sp w [.ref a] H (λv _=>v=.bl true) λ_ _ _=>False)
  (O0:∀(w:U1) (H:Hp) (s:UL) (e:UK) (s':UL),CX w [] H s (λ_ _ _=>False) e s'->False) :
  PySem.W.WalkO q loose XP YP l.row.toRowW d [] (λf vs=>PySem.call f vs):=by
 refine Rb.rp hn OW λw s₀ s₁ mg mb fa o pm cd doc a vs ns G Y ho hd fH OA G5 hints hlen hg=>?_;have KX:=hY w _ Y;obtain⟨fd,hb,hF⟩:=F w mg fa _ KX G.T.g OA;exact zD KX G.T.g G.T.b G.T.builtins G.T.nolimit hg G5 hints (Vq hlen Ms) hr hF hb (λH hO hS=>gC w H a ns hlen hO hS) λH e s'=>O0 w H s₁ e s'
abbrev bS:xr:=λ_ _ _ _ _ _=>False
abbrev E0:XK:=λ_ _ _=>False
theorem yW {X:Cx}:Passes bS X E0:=λ_ _ _ _ _ _ _ h=>h.elim
structure AX (K:PySem.W.Frag)(x qual:Str)(st:Stmt)(f:Addr)(fd:Vs):Prop where
 ex:∃(oc:UK) (od:Option Addr) (kV doc pm:UK) (an:Option Addr) (b7 ct:UK) (DY:Array (Option UK)),
  fd=PySem.W.fnOf x qual (kn st) (dk st) (ak st) .none kV doc pm an b7 ct/\K.lookup f=some ⟨oc,od,.func fd,DY⟩/\PySem.W.codeIn K b7 qual=true
 kp:PySem.W.keepIn K (.ref f)=true
section
variable {P:UP}{w:U1}{K:PySem.W.Frag}{mg:Str->Option UK}{base:Heap}
theorem AX.ok {x qual:Str}{st:Stmt}{f:Addr}{fd:Vs}{N ps:List Str}{k:Nat}{sp:Sp}(F:AX K x qual st f fd)(S:aG N ps (ak st))(len:∀vs H Q E,sp vs H Q E->vs.length=ps.length)
  (iL:∀(b7:UK) (A:VO) (outer:List Env) (s:UL) (H:Hp) (vs:List V) (Q:VK) (E:XK),ck k (A.deeper (Ye qual (ak st) s.heap.objs.size f b7))->sp vs H Q E ->
   ∃t,pA (j4 bS P w K mg base N qual (ak st) f b7 A outer s H E).sF (dk st) t/\t {nx:=λ_ H'=>Q .cg H',rt:=Q} (start N vs) H):aL P w K mg base bS (k+1) f fd ps sp:=by
 obtain⟨oc,od,kV,doc,pm,an,b7,ct,DY,rfl,lk,fH⟩:=F.ex;refine Eu lk fH S len λA outer s H vs Q E hr gC=>?_;obtain⟨t,h,q⟩:=iL b7 A outer s H vs Q E hr gC;exact⟨t,h.sF,q⟩
theorem Hk {x qual:Str}{st:Stmt}{f:Addr}{oc:UK}{od an:Option Addr}{DY:Array (Option UK)}{kV doc pm b7 ct:UK}(l:K.lookup f=some ⟨oc,od,.func (PySem.W.fnOf x qual (kn st) (dk st) (ak st) .none kV doc pm an b7 ct),DY⟩)
  (c:PySem.W.codeIn K b7 qual=true) (k:PySem.W.keepIn K (.ref f)=true):AX K x qual st f (PySem.W.fnOf x qual (kn st) (dk st) (ak st) .none kV doc pm an b7 ct):=⟨⟨oc,od,kV,doc,pm,an,b7,ct,DY,rfl,l,c⟩,k⟩
end
section
variable {X:Cx}
theorem pv (i:Nat){x:Str}{pos:Pos}(hN:X.N[i]?=some x:=by rfl)(hv:rM X.env.scope x:=by first|exact Or.inl rfl|exact Or.inr (Or.inl rfl)|exact Or.inr (Or.inr rfl))(hd:(x==("__debug__" : Str))=false:=by decide)
  (fH:(x==("__classdict__" : Str))=false:=by decide):PE X (.Name x pos) (IF i):=cL hN hv hd fH
end
def aw (H H':Hp):Prop:=∀b o,H b=some o->H' b=some o
theorem aw.refl (H:Hp):aw H H:=λ_ _ h=>h
theorem aw.trans {H H1 H2:Hp}(a:aw H H1)(b:aw H1 H2):aw H H2:=λc o h=>b c o (a c o h)
theorem aw.free {H H':Hp}(e:aw H H'){l:Addr}(h:H' l=Option.none):H l=Option.none:=by
 cases q:H l with
 |none=>rfl
 |some o =>
  rw[e l o q]at h;cases h
theorem aw.seq {K:PySem.W.Frag}{H H':Hp}{a:Addr}{xs:List V}(e:aw H H')(h:dO K H a xs):dO K H' a xs:=by
 rcases h with (h|⟨o,h⟩)|h
 ·exact .inl (.inl (e _ _ h))
 ·exact .inl (.inr ⟨o,e _ _ h⟩)
 ·exact .inr h
section
variable {X:Cx}{a b c:Expr}{ta tb:TE}{pos:Pos}
def rG (i j:Int):Prop:=0<j/\j.natAbs.log2<9000
theorem rG.of {i j:Int}(h0:0<j)(h:j<2 ^ 200):rG i j:=by
 refine⟨h0,?_⟩;have h2:j.natAbs<2 ^ 200:=by lia
 have:=(Nat.log2_lt (n:=j.natAbs) (k:=200) (by lia)).mpr h2
 lia
theorem qc:iW X (Wq .FloorDiv) (rI rG λi j=>.int (i / j)):=Jv λi j _ _ _ _ _ hc q=>by
 have h1:(0:Int)<j:=hc.1;exact floordiv_int (by lia) (by rw[Int.fdiv_eq_ediv_of_nonneg i (by lia)];exact q) (.inl (PyProof.noPylong_of_log2 hc.2))
def EN (X:Cx)(ops:List XZ)(rs:List Expr)(t:V->TE):Prop :=
 ∀(pos:Pos) (pins:List (Addr×Obj)) (s:UL) (σ:St) (H:Hp) (x:V) (v:UK) (Q:VK),Inv X pins σ H s->RelV x v->t x σ H Q ->
  Vp (model X.prog X.w) X.A (compareChain pos v ops (evalEach rs X.env)) (EP X pins σ Q) X.xe s
def tU (X:Cx)(ops:List XZ)(rs:List Expr)(t:V->TT):Prop :=
 ∀(pos:Pos) (pins:List (Addr×Obj)) (s:UL) (σ:St) (H:Hp) (x:V) (v:UK) (Q:Bool->Hp->Prop),Inv X pins σ H s->RelV x v->t x σ H Q ->
  Vp (model X.prog X.w) X.A (testChain pos v ops (evalEach rs X.env)) (TP X pins σ Q) X.xe s
variable {op F0:XZ}{ops:List XZ}{rs:List Expr}{r:R2}{t:V->TE}{tt:V->TT}
theorem Hv (ho:iW X (VQ op) r)(hb:PE X b tb):EN X [op] [b] (λx σ H Q=>tb σ H λy H2=>r x y H2 Q):=by
 intro pos pins s σ H x v Q I rx h;exact chain_last (bw (hb pins s σ H _ I h) λu s1 zS=>by obtain⟨y,H1,I1,r1,q1⟩:=zS;exact ho pins s1 σ H1 x y v u Q I1 rx r1 q1)
theorem DD (ho:iW X (VQ op) r)(hb:PE X b tb)(hc:EN X (F0::ops) (c::rs) t):
  EN X (op::F0::ops) (b::c::rs) (λx σ H Q=>tb σ H λy H2=>r x y H2 λz H3=>∃k,z=.bl k/\(if k=true then t y σ H3 Q else Q (.bl false) H3)):=by
 intro pos pins s σ H x v Q I rx h;refine chain_link (bw (hb pins s σ H _ I h) λu s1 ⟨y,H1,I1,r1,q1⟩=>bw (ho pins s1 σ H1 x y v u _ I1 rx r1 q1) λd s3 ⟨z,H3,I3,r3,k,e,q3⟩=>?_);subst e;cases r3;refine Wk ?_;cases k with
 |false=>exact ite_ff ⟨.bl false,H3,I3,rfl,q3⟩
 |true=>exact ite_tt (hc pos pins s3 σ H3 y u Q I3 r1 q3)
theorem v_ {lA lz:XZ}(ha:PE X a ta)(hc:EN X (lA::lz::ops) (b::c::rs) t)(hm:lastMarks (lA::lz::ops) (b::c::rs)=false:=by with_unfolding_all rfl):
  PE X (.Compare a (lA::lz::ops) (b::c::rs) pos) (λσ H Q=>ta σ H λx H1=>t x σ H1 Q):=by
 intro pins s σ H Q I h;exact Compare_chain (bw (ha pins s σ H _ I h) λv s1 Ki=>by obtain⟨x,H1,I1,r1,q1⟩:=Ki;exact hc pos pins s1 σ H1 x v Q I1 r1 q1) hm
theorem DC (ho:iW X (VQ op) r)(hb:PE X b tb):tU X [op] [b] (λx σ H Q=>tb σ H λy H2=>r x y H2 λz H3=>∃k,z=.bl k/\Q k H3):=by
 intro pos pins s σ H x v Q I rx h;refine test_last (bw (hb pins s σ H _ I h) λu s1 ⟨y,H1,I1,r1,q1⟩=>bw (ho pins s1 σ H1 x y v u _ I1 rx r1 q1) λd s3 ⟨z,H3,I3,r3,k,e,q3⟩=>?_);subst e;cases r3;exact Wk ⟨H3,I3,q3⟩
theorem Ax (ho:iW X (VQ op) r)(hb:PE X b tb)(hc:tU X (F0::ops) (c::rs) tt):
  tU X (op::F0::ops) (b::c::rs) (λx σ H Q=>tb σ H λy H2=>r x y H2 λz H3=>∃k,z=.bl k/\(if k=true then tt y σ H3 Q else Q false H3)):=by
 intro pos pins s σ H x v Q I rx h;refine test_link (bw (hb pins s σ H _ I h) λu s1 ⟨y,H1,I1,r1,q1⟩=>bw (ho pins s1 σ H1 x y v u _ I1 rx r1 q1) λd s3 ⟨z,H3,I3,r3,k,e,q3⟩=>?_);subst e;cases r3;refine Wk ?_;cases k with
 |false=>exact ite_ff ⟨H3,I3,q3⟩
 |true=>exact ite_tt (hc pos pins s3 σ H3 y u Q I3 r1 q3)
theorem AD:eZ X (.builtin "isinstance") (λxs H Q=>∃x n t k,xs=[x,.ty n]/\iV X.K H x t/\PySem.W.kitOne X.K t (.type n)=some k/\Q (.bl k) H):=by
 intro pins s σ H xs us Q I r h;obtain⟨x,n,t,k,rfl,ty,e,q⟩:=h;obtain⟨u,w',rfl,r1,r2⟩:=vals2 r;cases r2;exact wJ I r1 ty e λtk=>⟨.bl k,H,I.tok _,rfl,q⟩
end
theorem tM:VJ "max" = some (.builtin "max"):=by decide +kernel
theorem tL:VJ "min" = some (.builtin "min"):=by decide +kernel
theorem AF:VJ "int" = some (.type "int"):=by decide +kernel
theorem DG:VJ "bool" = some (.type "bool"):=by decide +kernel
theorem DF:VJ "list" = some (.type "list"):=by decide +kernel
theorem xn:VJ "sorted" = some (.builtin "sorted"):=by decide +kernel
theorem tN:VJ "isinstance" = some (.builtin "isinstance"):=by decide +kernel
theorem l3:VJ "len" = some (.builtin "len"):=by decide +kernel
theorem J0 {c A B:Prop}[Decidable c](hc:c)(h:A):if decide c=true then A else B:=by
 rw[if_pos (decide_eq_true hc)];exact h
theorem J1 {c A B:Prop}[Decidable c](hc:¬ c)(h:B):if decide c=true then A else B:=by
 rw[if_neg (by simp[hc])]
 exact h
theorem NR {c A B:Prop}[Decidable c](h1:c->A)(h2:¬ c->B):if decide c=true then A else B:=by
 by_cases h:c
 ·exact J0 h (h1 h)
 ·exact J1 h (h2 h)
theorem aw.new {H:Hp}{p:Addr}{o:HO}(n:H p=none):aw H (L2.upd H p o):=λb u e=>by rw[az (b_ e n)];exact e
section
end
theorem Jq:xt 10 18:=⟨by decide,by decide,by decide⟩
section
theorem oP {a:Int}{b:Int}(h:0<b):0<=a % b/\a % b<b:=⟨Int.emod_nonneg a (by lia),Int.emod_lt_of_pos a h⟩
end
def aE (X:Cx)(scope:Xp)(N':List Str)(cl:List (Str×Addr))(C:Addr)(s:UL)(H:Hp)(ex:List Addr):Cx :=
 {X with N:=N',s₀:=s,H₀:=H,env:=compEnvC scope cl C X.env,outer:=X.stack,stack:=X.stack,ex:=ex,fn:=λ_=>false,pn:=[],xe:=λ_ _=>False}
theorem g7 {env:Env}:∀(names:List (Str×XN)) (cs:List (Str×Addr)),(∀x,(x,VA)∈names->∃c,env.cells.lookup x=some c) ->
  (∀x c,cs.lookup x=some c->env.cells.lookup x=some c) ->
  ∃cl,(forIn names cs λ(p:Str×XN) (cs:List (Str×Addr))=>do
   if p.2==.free then do
    let a <- cellOf env p.1
    pure (Ys ((p.1,a)::cs))
   else pure (Ys cs):Sem (List (Str×Addr)))=pure cl /\
   (∀x,((x,VA)∈names\/(∃c,cs.lookup x=some c))->∃c,cl.lookup x=some c)/\∀x c,cl.lookup x=some c->env.cells.lookup x=some c
 |[],cs,_,Mu=>⟨cs,rfl,λx h=>h.elim (λz=>nomatch z) id,Mu⟩
 | (n,k)::names,cs,hf,Mu=>by
  by_cases hk:k=.free
  ·subst hk;obtain⟨c,hc⟩:=hf n (UY ..);obtain⟨cl,e,h1,h2⟩:=g7 names ((n,c)::cs) (λx hx=>hf x (UU _ hx)) (λx c' hx=>by
    rw[V3]at hx;cases q:x==n with
    |true=>rw[q]at hx;cases hx;rw[eq_of_beq q];exact hc
    |false=>rw[q]at hx;exact Mu x c' hx)
   refine⟨cl,?_,λx hx=>h1 x ?_,h2⟩
   ·rw[List.forIn_cons];have ec:cellOf env n=pure c:=by unfold cellOf;rw[hc]
    simp only[beq_self_eq_true,if_true,ec];exact e
   ·rcases hx with hx|⟨c',hx⟩
    ·rcases UQ.mp hx with z|z
     ·cases z;exact .inr ⟨c,by simp⟩
     ·exact .inl z
    ·right
     rw[V3];cases q:x==n with
     |true=>exact⟨c,rfl⟩
     |false=>exact⟨c',hx⟩
  ·obtain⟨cl,e,h1,h2⟩:=g7 names cs (λx hx=>hf x (UU _ hx)) Mu;refine⟨cl,?_,λx hx=>h1 x ?_,h2⟩
   ·rw[List.forIn_cons];have hb:(k==VA)=false:=by simpa using hk
    simp only[hb,WL,if_false];exact e
   ·rcases hx with hx|hx
    ·rcases UQ.mp hx with z|z
     ·cases z;exact absurd rfl hk
     ·exact .inl z
    ·exact .inr hx
theorem gO {env:Env}{scope:Xp}(h:∀x,(x,VA)∈scope.names->∃c,env.cells.lookup x=some c):
  ∃cl,closureFor scope env=pure cl/\(∀x,(x,VA)∈scope.names->∃c,cl.lookup x=some c)/\∀x c,cl.lookup x=some c->env.cells.lookup x=some c:=by
 obtain⟨cl,e,h1,h2⟩:=g7 scope.names [] h (λx c z=>by simp at z)
 refine⟨cl,?_,λx hx=>h1 x (.inl hx),h2⟩;unfold closureFor;refine Eq.trans ?_ (congrArg (· >>= pure) e);rfl
structure Links (X:Cx)(scope:Xp)(N':List Str)(lk:List (Option Nat)):Prop where
 kind:scope.kind=.function
 sG:∀x∈scope.names,x.2≠.cell
 names:∀x∈scope.names,x.2=.local->scope.names.lookup x.1=some .local
 free:∀x,(x,VA)∈scope.names->X.env.kindOf x=some .cell\/X.env.kindOf x=some .free
 len:lk.length=N'.length
 link:∀(i j:Nat),lk[i]?=some (some j)->∃x,N'[i]?=some x/\X.N[j]?=some x/\(x,VA)∈scope.names/\scope.names.lookup x=some .free
def jl (outer:List (Str×XN))(N:List Str)(scope:Xp)(N':List Str)(lk:List (Option Nat)):Bool :=
 (scope.kind==.function)&&scope.names.all (λx=>x.2 != .cell&&(x.2 != .local || scope.names.lookup x.1==some .local)&&(x.2 != .free || outer.lookup x.1==some .cell || outer.lookup x.1==some .free)) &&
 lk.length==N'.length&&(Vy lk.length).all λi=>match lk[i]? with
  |some (some j)=>match N'[i]? with
   |some x=>N[j]?==some x&&scope.names.contains (x,.free)&&scope.names.lookup x==some .free
   |none=>false
  |_=>true
theorem Links.of {X:Cx}{scope:Xp}{N':List Str}{lk:List (Option Nat)}(h:jl X.env.scope.names X.N scope N' lk=true):Links X scope N' lk:=by
 simp only[jl,VI]at h;obtain⟨⟨⟨h1,h2⟩,h3⟩,h4⟩:=h;rw[Ws]at h2 h4;refine⟨by simpa using h1,λx hx=>?_,λx hx hl=>?_,λx hx=>?_,by simpa using h3,λi j aC=>?_⟩
 ·have:=h2 x hx;simp only[VI]at this;simpa using this.1.1
 ·have:=h2 x hx;simp only[VI]at this;have q:=this.1.2;rw[hl]at q;simpa using q
 ·have:=h2 _ hx;simp only[VI]at this;have q:=this.2;simp only[Y2]at q;rcases q with (q|q)|q
  ·simp at q
  ·exact .inl (show X.env.scope.names.lookup x=some .cell by simpa using q)
  ·exact .inr (show X.env.scope.names.lookup x=some .free by simpa using q)
 ·have hi:i<lk.length:=(U0.mp aC).1;have q:=h4 i (V_.mpr hi);rw[aC]at q;simp only at q;cases e:N'[i]? with
  |none=>rw[e]at q;simp at q
  |some x =>
   rw[e]at q;simp only[VI]at q;obtain⟨⟨q1,q2⟩,q3⟩:=q;exact⟨x,rfl,by simpa using q1,by simpa using q2,by simpa using q3⟩
def c6 (lk:List (Option Nat))(σ:St):St:=lk.map λl=>match l with|some j=>(match σ[j]? with|some v=>v|none=>none)|none=>none
theorem c8 {env:Env}:∀{names:List (Str×XN)} {x:Str},names.lookup x=some .free ->
  (names.map λ(n,k)=>if (k==VA&&env.scope.kind==.function&&env.kindOf n==some .cell) then (n,Xd) else (n,k)).lookup x=some .cell \/
  (names.map λ(n,k)=>if (k==VA&&env.scope.kind==.function&&env.kindOf n==some .cell) then (n,Xd) else (n,k)).lookup x=some .free
 |[],_,h=>by simp at h
 | (n,k)::r,x,h=>by
  have ih:=@c8 env r x;show List.lookup x ((if (k==VA&&env.scope.kind==.function&&env.kindOf n==some .cell)=true then (n,Xd) else (n,k))::_)=_ \/
   List.lookup x ((if (k==VA&&env.scope.kind==.function&&env.kindOf n==some .cell)=true then (n,Xd) else (n,k))::_)=_
  cases hx:x==n with
  |true =>
   simp only[V3,hx]at h;cases h
   by_cases hc:(VA==VA&&env.scope.kind==.function&&env.kindOf n==some .cell)=true
   ·rw[if_pos hc];left;simp[V3,hx]
   ·rw[if_neg hc];right;simp[V3,hx]
  |false =>
   simp only[V3,hx]at h
   by_cases hc:(k==VA&&env.scope.kind==.function&&env.kindOf n==some .cell)=true
   ·rw[if_pos hc];simp only[V3,hx];exact ih h
   ·rw[if_neg hc];simp only[V3,hx];exact ih h
theorem c5 {env:Env}:∀{names:List (Str×XN)} {x:Str} {k:XN},(k=.cell\/k=.free)->(∀y∈names,y.2≠.cell) ->
  (names.map λ(n,k)=>if (k==VA&&env.scope.kind==.function&&env.kindOf n==some .cell) then (n,Xd) else (n,k)).lookup x=some k->(x,VA)∈names
 |[],_,_,_,_,h=>by simp at h
 | (n,k')::r,x,k,hk,hc,h=>by
  have ih:=@c5 env r x k hk (λy hy=>hc y (UU _ hy));have h':List.lookup x ((if (k'==VA&&env.scope.kind==.function&&env.kindOf n==some .cell)=true then (n,Xd) else (n,k'))::(r.map λ(n,k)=>if (k==VA&&env.scope.kind==.function&&env.kindOf n==some .cell) then (n,Xd) else (n,k)))=some k:=h
  have OK:=hc (n,k') (UY ..)
  by_cases CW:(k'==VA&&env.scope.kind==.function&&env.kindOf n==some .cell)=true
  ·rw[if_pos CW]at h';simp only[VI,beq_iff_eq]at CW;cases hx:x==n with
   |true=>rw[eq_of_beq hx,CW.1.1];exact UY ..
   |false=>rw[V3,hx]at h';exact UU _ (ih h')
  ·rw[if_neg CW]at h';cases hx:x==n with
   |true =>
    rw[V3,hx]at h';have e:k'=k:=by simpa using h'
    subst e;rcases hk with hk|hk
    ·exact absurd hk OK
    ·rw[eq_of_beq hx,hk];exact UY ..
   |false=>rw[V3,hx]at h';exact UU _ (ih h')
section
variable {X:Cx}{pins:List (Addr×Obj)}{σ:St}{H:Hp}{s:UL}{scope:Xp}{N':List Str}{lk:List (Option Nat)}{cl:List (Str×Addr)}{ex:List Addr}
theorem zK {h':Heap}{t':Nat}(I:Inv X pins σ H s)(L:Links X scope N' lk)(hex:∀b∈ex,g9 X pins H b)(Ou:∀b∈ex,∃o,s.heap.get? b=some o)
  (mE:∀x,(x,VA)∈scope.names->∃c,cl.lookup x=some c) (pj:∀x c,cl.lookup x=some c->X.env.cells.lookup x=some c)
  (hn:h'.Ns s.heap.objs.size (λ_=>none)) (hk:∀b o,s.heap.get? b=some o->h'.get? b=some o) :
  Inv (aE X scope N' cl s.heap.objs.size s H ex) [] (c6 lk σ) H {s with heap:=h',toks:=t'}:=by
 obtain⟨m,hm,hl⟩:=I.loc;have Te:∀b∈ex,b≠s.heap.objs.size:=λb hb=>by
  obtain⟨o,e⟩:=Ou b hb;exact VN (U_ e)
 refine⟨⟨I.ok.mod,L.kind,I.ok.glob,I.ok.blt,UO _,λx y c h1 h2=>I.ok.inj x y c (pj _ _ h1) (pj _ _ h2),λx hx=>?_,λx c z=>(nomatch z),I.ok.hd,I.ok.frames,.inl rfl,
  λb hb=>⟨Te b hb,λx c e=>(hex b hb).2.2.2.2.1 x c (pj _ _ e)⟩,I.bs,Vq I.ok.AG I.sz,λb o e z=>?_,λb hb z=>?_,I.stack,I.nY⟩,
  rfl,I.bare,Un.kept hk,⟨_,hn,λi x v h1 h2 h3=>?_⟩,λx c e=>?_,I.bo.fresh (UO _),λx c e=>I.c_ x c (pj _ _ e),λp hp=>absurd (show p∈([]:List (Addr×Obj)) from hp) (by simp),I.bo.kept hk,?_⟩
 ·have HZ:(relabel scope X.env).names.lookup x=some .cell\/(relabel scope X.env).names.lookup x=some .free:=hx;rcases HZ with q|q
  ·exact mE x (c5 (.inl rfl) L.sG q)
  ·exact mE x (c5 (.inr rfl) L.sG q)
 ·obtain⟨f0,f1,f2,f3,_⟩:=hex b z;rcases f3 with q|q
  ·exact I.ok.qf b o e q
  ·have h1:=U_ e;have h2:=I.ok.AG;exact absurd (Vn h1 (Vq h2 q)) (WO _)
 ·obtain⟨f0,f1,f2,f3,_⟩:=hex b hb;rcases UQ.mp (I.rY b z)with q|q
  ·exact f1 q
  ·exact f2 q
 ·have hi:∃j,lk[i]?=some (some j)/\σ[j]?=some (some v):=by
   have zZ:(c6 lk σ)[i]?=some (some v):=h2;unfold c6 at zZ;rw[U8]at zZ;cases e:lk[i]? with
   |none=>rw[e]at zZ;cases zZ
   |some l =>
    cases l with
    |none=>rw[e]at zZ;cases zZ
    |some j =>
     rw[e]at zZ;cases e2:σ[j]? with
     |none=>simp[e2]at zZ
     |some w' =>
      simp only[Yq,e2,Option.some.injEq]at zZ;subst zZ;exact⟨j,rfl,e2⟩
  obtain⟨j,hj,hσ⟩:=hi;obtain⟨y,e1,e2,e3,e4⟩:=L.link i j hj;have Tc:x=y:=by
   have wU:N'[i]?=some x:=h1;rw[e1]at wU;exact(VE wU).symm
  subst Tc;have N2:rM X.env.scope x:=by
   rcases L.free x e3 with q|q
   ·exact .inr (.inl q)
   ·exact .inr (.inr q)
  obtain⟨u,ru,lu⟩:=hl j x v e2 hσ N2;refine⟨u,ru,.inr ⟨?_,?_⟩⟩
  ·exact c8 e4
  ·rcases lu with⟨k,_⟩|⟨_,c,hc,z⟩
   ·rcases L.free x e3 with q|q <;> (rw[k]at q;cases q)
   ·obtain⟨c',lN⟩:=mE x e3;have:=pj x c' lN;rw[hc]at this;cases this;obtain⟨o,ho,hd⟩:=z;exact⟨c,lN,o,hk _ _ ho,hd⟩
 ·obtain⟨v,o,ho,hd⟩:=I.cell x c (pj _ _ e);exact⟨v,o,hk _ _ ho,hd⟩
 ·show (c6 lk σ).length=N'.length;unfold c6;rw[UN,L.len]
theorem zL {s':UL}{σ':St}{H':Hp}{pl:List (Addr×Obj)}{C:Addr}{h'':Heap}(I:Inv X pins σ H s)(hex:∀b∈ex,g9 X pins H b)
  (J:Inv (aE X scope N' cl s.heap.objs.size s H ex) pl σ' H' s') (hs:X4 s.heap.objs.size s'.heap h''):Inv X pins σ H' {s' with heap:=h''}:=by
 have hC:H' s.heap.objs.size=none:=J.free;have u:=J.base;refine I.EG (ch:=ex) (s':={s' with heap:=h''}) J.os ?_ ?_ J.bare (λb hb=>?_)
 ·have kk:∀b o,b≠s.heap.objs.size->s'.heap.get? b=some o->h''.get? b=some o:=λb o hb e=>(hs.2 b hb).trans e;have ne:∀b o,s.heap.get? b=some o->b≠s.heap.objs.size:=λb o e=>VN (U_ e);refine⟨λb o e n hb hx=>kk b _ (ne b o e) (u.keep b o e n hb hx),λb o e n hb hx=>?_,u.free,λb o e hx=>?_,u.gQ,u.gH,u.gR⟩
  ·obtain⟨sl,q⟩:=u.slot b o e n hb hx;exact⟨sl,kk b _ (ne b o e) q⟩
  ·obtain⟨o',q⟩:=u.there b o e hx;exact⟨o',kk b _ (ne b o e) q⟩
 ·intro b o e;have hb:b≠s.heap.objs.size:=λz=>by rw[z]at e;rw[hC]at e;cases e
  refine(J.bo b o e).nZ (λc v hc q=>(hs.2 c ?_).trans q) (λ_ q=>q) λ_ _ q=>q;rcases hc with z|z
  ·rw[z];exact hb
  ·intro z';rw[z']at z;rw[hC]at z;cases z
 ·obtain⟨f0,f1,f2,f3,f4,f5⟩:=hex b hb;exact⟨f3,f1,f4,f5⟩
end
def kL (g:Xf)(after:Sem Fin->Sem Fin)(e:Expr)(d:Nat)(it acc:UK)(env:Env):Sem Fin:=do
 Y4 g.iter.pos
 match <- Y5 it with
 |none=>pure (.done .next)
 |some v =>
  Yp g.target it v
  assign g.target env v
  let mut ok:=true
  for c in g.ifs do
   if ok then ok <- isTrue c env (eval c env)
  if ok then after (again (.compLoop e d it acc env)) else again (.compLoop e d it acc env)
def oM (e:Expr)(d:Nat)(g':Xf)(acc:UK)(env:Env)(k:Sem Fin):Sem Fin:=do
 let x <- eval g'.iter env
 Y4 g'.iter.pos
 let x <- VM g'.iter env x
 let _ <- runOwn (.compStart e (d+1) (<- holding [x] (Y6 x)) acc env) env
 k
def t7 (t:Sem Unit)(k:Sem Fin):Sem Fin:=do
 t
 k
def u_ (elt:Expr)(acc:UK)(env:Env):Sem Unit:=do let _ <- call (.builtin "list.append") [acc,<- eval elt env]
structure iX (e:Expr)(d:Nat)(g:Xf)(acc:UK)(env:Env)(after:Sem Fin->Sem Fin):Prop where
 turn:∀it,compTurn e d it acc env=kL g after e d it acc env
 cl:(clausesOf e)[d]?=some g
 sync:g.is_async=0
 quiet:∀it,(Yj e d it acc env).quiet=true
 under:∀(A:VO) it,A.under (Yj e d it acc env)=A
 E5:∀(A:VO) it,A.under (Y9 e d it acc env)=A
 Ga:∀it,(Yj e d it acc env).isFrame=false
 JE:∀it,(Y9 e d it acc env).isFrame=false
section
variable {elt tg xZ cF mz:Expr}{ifs mB:List Expr}{sc:Xp}{pos:Pos}{acc:UK}{env:Env}
theorem AB:iX (.ListComp elt [⟨tg,cF,ifs,0⟩] sc pos) 0 ⟨tg,cF,ifs,0⟩ acc env (t7 (u_ elt acc env)) :=
 ⟨λ_=>rfl,rfl,rfl,λ_=>rfl,λ_ _=>rfl,λ_ _=>rfl,λ_=>rfl,λ_=>rfl⟩
theorem Hz:iX (.ListComp elt [⟨tg,cF,ifs,0⟩,⟨xZ,mz,mB,0⟩] sc pos) 0 ⟨tg,cF,ifs,0⟩ acc env (oM (.ListComp elt [⟨tg,cF,ifs,0⟩,⟨xZ,mz,mB,0⟩] sc pos) 0 ⟨xZ,mz,mB,0⟩ acc env) :=
 ⟨λ_=>rfl,rfl,rfl,λ_=>rfl,λ_ _=>rfl,λ_ _=>rfl,λ_=>rfl,λ_=>rfl⟩
theorem Hw:iX (.ListComp elt [⟨tg,cF,ifs,0⟩,⟨xZ,mz,mB,0⟩] sc pos) 1 ⟨xZ,mz,mB,0⟩ acc env (t7 (u_ elt acc env)) :=
 ⟨λ_=>rfl,rfl,rfl,λ_=>rfl,λ_ _=>rfl,λ_ _=>rfl,λ_=>rfl,λ_=>rfl⟩
end
def IG:TT:=λ_ H Q=>Q true H
def rO (X:Cx)(ifs:List Expr)(t:TT):Prop :=
 ∀(pins:List (Addr×Obj)) (s:UL) (σ:St) (H:Hp) (Q:Bool->Hp->Prop),Inv X pins σ H s->t σ H Q ->
  Vp (model X.prog X.w) X.A (forIn ifs true λc r=>if r=true then do let ok <- isTrue c X.env (eval c X.env);pure (Ys ok) else pure (Ys r)) (TP X pins σ Q) X.xe s
theorem BN {X:Cx}:rO X [] IG:=λ_ _ _ H _ I h=>wpAny_tests_nil ⟨H,I,h⟩
theorem BM {X:Cx}{c:Expr}{t:TT}(h:PT X c t):rO X [c] t:=λpins s σ H Q I q=>wpAny_tests_one (h pins s σ H Q I q)
abbrev mL:=(St->Hp->Prop)->St->Hp->Prop
def rE (X:Cx)(after:Sem Fin->Sem Fin)(t:mL):Prop :=
 ∀(pins:List (Addr×Obj)) (s:UL) (σ:St) (H:Hp) (N:St->Hp->Prop) (k:Sem Fin) (Q:Fin->UL->Prop) (E:UK->UL->Prop),Inv X pins σ H s->t N σ H ->
  (∀σ' H' s',Inv X pins σ' H' s'->N σ' H'->Vp (model X.prog X.w) X.A k Q E s')->Vp (model X.prog X.w) X.A (after k) Q E s
theorem gA {X:Cx}(hx:X.xe=λ_ _=>False){α:Type}{t:Sem α}{Q:α->UL->Prop}{E:UK->UL->Prop}{s:UL}(h:Vp (model X.prog X.w) X.A t Q X.xe s):Vp (model X.prog X.w) X.A t Q E s :=
 Xl h (λ_ _ q=>q) λe s q=>by rw[hx]at q;exact q.elim
def fD (J:It)(g:TG)(tt:TT)(ta:mL)(End:St->Hp->Prop):St->Hp->Prop:=λσ H =>
 ∃W:Nat->Nat->St->Hp->Prop,(∃m,W 0 m σ H)/\∀i m σ H,W i m σ H->(J.stop i H/\End σ H) \/
  (J.go i H/\∃N:St->Hp->Prop,(∀σ' H',N σ' H'->∃m',m'<m/\W (i+1) m' σ' H')/\∀x H',J.Iy i H x H'->g x σ H' λσ2 H2=>tt σ2 H2 λb H3=>if b=true then ta N σ2 H3 else N σ2 H3)
section
variable {X:Cx}{e:Expr}{d:Nat}{g:Xf}{acc:UK}{after:Sem Fin->Sem Fin}{tg:TG}{tt:TT}{ta:mL}
theorem xg (hx:X.xe=λ_ _=>False)(hc:X.calm=true)(F:iX e d g acc X.env after)(hg:PG X g.target tg)(ht:rO X g.ifs tt)(ha:rE X after ta)
  {it:Addr} {fp:List Addr} {tn:Nat->Heap->Prop} {J:It} (T:Turn X.prog X.w X.K g.target J fp it tn) {pins:List (Addr×Obj)} {σ:St} {H:Hp} {s:UL} {End:St->Hp->Prop}
  (I:Inv X pins σ H s) (st:tn 0 s.heap) (hf:∀b∈fp,g9 X pins H b) (h:fD J tg tt ta End σ H) :
  Yn (model X.prog X.w) X.A (.compLoop e d (.ref it) acc X.env) (λr s'=>r=.ok .next/\∃σ' H',Inv X pins σ' H' s'/\End σ' H') s:=by
 obtain⟨W,⟨m0,w0⟩,turn⟩:=h;have rZ:∀{H':Hp},(∀b∈fp,H' b=none)->∀b∈fp,g9 X pins H' b:=λhn b hb=>⟨hn b hb,(hf b hb).2⟩;refine codeAny_loop (F.quiet _) (λn s'=>∃i σ' H',Inv X pins σ' H' s'/\tn i s'.heap/\(∀b∈fp,H' b=none)/\W i n σ' H') (λn s3 hI=>?_) m0 ⟨0,σ,H,I,st,λb hb=>(hf b hb).1,w0⟩;obtain⟨i,σ3,H3,I3,kR,Lq,w3⟩:=hI;rw[F.under];have He:(model X.prog X.w).den (.compLoop e d (.ref it) acc X.env)=(kL g after e d (.ref it) acc X.env).onRaise (λx=>do noteFrame x X.env;theTreesLotGoes x):=by
  rw[<- F.turn];show (if (Yj e d (.ref it) acc X.env).isFrame then _ else _)=_
  rw[F.Ga];rfl
 rw[He];refine wpAny_noted ?_;unfold kL;rcases turn i n σ3 H3 w3 with⟨stop,qn⟩|⟨go,N,hN,step⟩
 ·refine UM (Xa (UM (bw (T.done X rfl rfl rfl hc i pins s3 σ3 H3 _ I3 (rZ Lq) kR stop) λr s4 ⟨hr,I4⟩=>?_)));subst hr;exact U6 ⟨rfl,σ3,H3,I4,qn⟩
 ·refine UM (Xa (UM (bw (T.item X rfl rfl rfl hc i pins s3 σ3 H3 _ I3 (rZ Lq) kR go) λr s4 ⟨u,hr,h4⟩=>?_)));subst hr;refine UM (bw h4 λ_ s5 ⟨x,H5,I5,r5,y5,A6,O4⟩=>?_);have Pu:=I5.pinned (rZ O4) (T.obj _ _ A6);refine UM (bw (gA hx (hg _ s5 σ3 H5 x u _ Pu r5 (step x H5 y5))) λ_ s6 ⟨σ6,H6,I6,q6⟩=>?_);refine UM (bw (gA hx (ht _ s6 σ6 H6 _ I6 q6)) λok s7 ⟨H7,I7,q7⟩=>?_);have AQ:∀{σ8:St} {H8:Hp} {s8:UL},Inv X (pins++lq fp s5.heap) σ8 H8 s8->N σ8 H8->∃m,m<n/\∃i σ' H',Inv X pins σ' H' s8/\tn i s8.heap/\(∀b∈fp,H' b=none)/\W i m σ' H':=λ{σ8 H8 s8} I8 n8=>by
   obtain⟨m',hm,w8⟩:=hN σ8 H8 n8;refine⟨m',hm,i+1,σ8,H8,I8.h9,T.keep _ _ _ A6 λb hb o e=>(I8.pin (b,o) (Vu _ (Vu _ (fu hb e)))).1,λb hb=>?_,w8⟩;obtain⟨o,e,d⟩:=T.obj _ _ A6 b hb;exact(I8.pin (b,o) (Vu _ (Vu _ (fu hb e)))).2.1
  cases ok with
  |false=>exact U6 ⟨rfl,AQ I7 (by simpa using q7)⟩
  |true =>
   exact ha _ s7 σ6 H7 N _ _ _ I7 (by simpa using q7) λσ8 H8 s8 I8 n8=>U6 ⟨rfl,AQ I8 n8⟩
theorem lZ (hx:X.xe=λ_ _=>False)(hc:X.calm=true)(F:iX e d g acc X.env after)(hg:PG X g.target tg)(ht:rO X g.ifs tt)(ha:rE X after ta)
  {it:Addr} {fp:List Addr} {tn:Nat->Heap->Prop} {J:It} (T:Turn X.prog X.w X.K g.target J fp it tn) {pins:List (Addr×Obj)} {σ:St} {H:Hp} {s:UL} {End:St->Hp->Prop}
  (I:Inv X pins σ H s) (st:tn 0 s.heap) (hf:∀b∈fp,g9 X pins H b) (h:fD J tg tt ta End σ H) :
  Yn (model X.prog X.w) X.A (.compStart e d (.ref it) acc X.env) (λr s'=>r=.ok .next/\∃σ' H',Inv X pins σ' H' s'/\End σ' H') s:=by
 have lp:=xg hx hc F hg ht ha T I st hf h;refine codeAny_of_tree ?_;rw[F.E5];have He:(model X.prog X.w).den (.compStart e d (.ref it) acc X.env)=(compStart e d (.ref it) acc X.env).onRaise (λx=>do noteFrame x X.env;Y4 theWindowsPlace):=by
  show (if (Y9 e d (.ref it) acc X.env).isFrame then _ else _)=_
  rw[F.JE];rfl
 rw[He];refine wpAny_notedAt ?_;unfold compStart;rw[F.cl];simp only[Option.elim_some,F.sync];show Vp _ _ (ask >>= _) _ _ s;refine UM (wpAny_askSetting (wpAny_ite ?_))
 split
 ·first
   |exact UM (U6 (U6 (And.intro (F.quiet _) lp)))
   |exact U6 (And.intro (F.quiet _) lp)
 ·have h2:∀(E:UK->UL->Prop),Vp (model X.prog X.w) X.A (Y6 (.ref it)) (λMe s'=>(Yj e d Me acc X.env).quiet=true/\Yn (model X.prog X.w) X.A (.compLoop e d Me acc X.env) (λr s'=>r=.ok .next/\∃σ' H',Inv X pins σ' H' s'/\End σ' H') s') E s :=
   λE=>T.self X.A 0 s _ E st ⟨F.quiet _,lp⟩
  first
   |exact UM (XE (UM (Xa (UM (Xl (h2 _) (λMe s' h'=>U6 h') λ_ _ x=>x)))))
   | (refine UM (XE ?_);exact UM (Xa (UM (Xl (h2 _) (λMe s' h'=>U6 h') λ_ _ x=>x))))
theorem B8 {g':Xf}{wi:TI}(hx:X.xe=λ_ _=>False)(hc:X.calm=true)(F:iX e (d+1) g' acc X.env after)(hi:PI X g'.target g'.iter wi)(hg:PG X g'.target tg)(ht:rO X g'.ifs tt)(ha:rE X after ta)
  (hs:∀x,VM g'.iter X.env x=pure x:=by intro _;rfl) :
  rE X (oM e d g' acc X.env) (λN σ H=>wi σ H λJ H1=>fD J tg tt ta N σ H1):=by
 intro pins s σ H N k Q E I h hk;unfold oM;refine UM (bw (gA hx (hi pins s σ H _ I h)) λx s1 h1=>?_);refine UM (Xa (UM (wpAny_of_eq (hs x) ?_)));refine UM (Wx (bw (gA hx h1) λEj s2 h2=>?_));obtain⟨it,fp,tn,J,H2,e1,I2,T,fE,f2,hl⟩:=h2;subst e1;refine UM (wpAny_runOwn (X0 (lZ hx hc F hg ht ha T I2 fE f2 hl) λr s' hr=>?_));obtain⟨rfl,σ',H',I',q⟩:=hr;exact hk σ' H' s' I' q
theorem iD {elt:Expr}{te:TE}{a:Addr}(hx:X.xe=λ_ _=>False)(he:PE X elt te):
  rE X (t7 (u_ elt (.ref a) X.env)) (λN σ H=>te σ H λv H1=>∃xs,H1 a=some (.lst xs)/\xs.length<UW/\N σ (upd H1 a (.lst (xs++[v])))):=by
 intro pins s σ H N k Q E I h hk;unfold t7 u_;refine UM (UM (bw (gA hx (he pins s σ H _ I h)) λu s1 ⟨v,H1,I1,r1,xs,hH,hz,q⟩=>?_));refine UM (bw (gA hx <| ji (X:=X) pins s1 σ H1 (.ref a) [v] (.ref a) [u] (λw' H'=>N σ H') I1 rfl (.cons r1 .nil) ⟨a,xs,v,rfl,rfl,hH,hz,q⟩) λ_ s2 ⟨_,H2,I2,_,q2⟩=>?_)
 exact U6 (hk σ H2 s2 I2 q2)
end
section
variable {X:Cx}{e:Expr}
structure pf (X:Cx)(eJ:Sem UK)(o:HO):Prop where
 ok:∀(pins:List (Addr×Obj)) (s:UL) (σ:St) (H:Hp) (Q:UK->UL->Prop) (E:UK->UL->Prop),Inv X pins σ H s ->
  (∀a s',s.heap.objs.size<=a->H a=none->(∀b o,s.heap.get? b=some o->s'.heap.get? b=some o)->Inv X pins σ (upd H a o) s'->Q (.ref a) s')->Vp (model X.prog X.w) X.A eJ Q E s
theorem iE:pf X (newList []) (.lst []) :=
 ⟨λpins s σ H Q E I h=>X_ (h _ _ (UO _) I.fresh (λb o e=>U5 _ e) (I.Gn (its:=[]) (t':=s.toks) .nil (U4 _)))⟩
theorem Inv.sameBut {pins:List (Addr×Obj)}{σ:St}{H:Hp}{s:UL}{C:Addr}{h':Heap}(I:Inv X pins σ H s)(f:g9 X pins H C)(hs:X4 C s.heap h'):Inv X pins σ H {s with heap:=h'}:=by
 obtain⟨f0,f1,f2,f3,f4,f5⟩:=f;exact I.turned (t':=s.toks) (λb o hb e=>(hs.2 b hb).trans e) f0 f1 f3 f4 f5
end
end L2
namespace ST
open PySem PySem.SetTable
def eF (m:Nat)(p:Probe):Probe:=advance {mask:=m,place:=#[],dummies:=#[],finger:=0,led:=true,moves:=0,plain:=true} p
def Ro (m:Nat)(h:Int):Probe:=probeStart {mask:=m,place:=#[],dummies:=#[],finger:=0,led:=true,moves:=0,plain:=true} h
def P_ (m:Nat)(h:Int):Nat->Probe
 |0=>Ro m h
 |n+1=>eF m (P_ m h n)
def PH (m:Nat)(h:Int)(n:Nat):Nat:=(P_ m h n).j
abbrev g (xs:Array Nat)(i:Nat):Nat:=xs.getD i 0
def Tw (xs:Array Nat):Prop:=∀i j,i<j->j<xs.size->g xs i<g xs j
def QZ (t:SetTable)(x:Nat):Prop:=∃i,i<t.place.size/\g t.place i=x
structure WF (t:SetTable)(hs:List Int):Prop where
 UG:t.dummies=#[]
 sz:t.place.size=hs.length
 Ua:Tw t.place
 UI:∀i,i<t.place.size->g t.place i<=t.mask
 RY:∃j,3<=j/\t.mask=2 ^ j-1
 room:t.place.size<=t.mask
 Ub:∀i h,hs[i]?=some h->∃n,PH t.mask h n=g t.place i/\∀k,k<n->QZ t (PH t.mask h k)
instance (t:SetTable):DecidablePred (QZ t):=λx=>decidable_of_iff (∃i,i<t.place.size/\g t.place i=x) Iff.rfl
end ST
namespace TS
open PySem PyProof.Rows
def b6:Bool->UR->Array UR->Nat->Nat->Nat->StateT Vi Sem (Option Nat):=sortPriv% PySem.Builtin.gallop
def iF:Array UR->Array UR->StateT Vi Sem (Array UR):=sortPriv% PySem.Builtin.mergeLo
def iG:Array UR->Array UR->StateT Vi Sem (Array UR):=sortPriv% PySem.Builtin.mergeHi
abbrev b9 (st:Vi)(g:Nat):Vi:=SortSt.mk' (kindOf st) (Vo st) (U9 st) g (Xs st)
theorem sZ (left:Bool)(key:UR)(arr:Array UR)(base n hint:Nat):b6 left key arr base n hint=(do
  let ask:=λ(at_:Nat)=>(do
   let z <- elem' arr (base+at_)
   if left then lt' z key else return (<- lt' key z).map (!·):StateT Vi Sem (Option Bool))
  let mut before:=0
  let mut step:=1
  let mut u:=0
  let mut v:=0
  let some up <- ask hint|return none
  if up then
   let room:=n-hint
   for _ in [0:n] do
    if step >= room then break
    let some on <- ask (hint+step)|return none
    if !on then break
    before:=step
    step:=2*step+1
   u:=hint+before+1
   v:=hint+min step room
  else
   let room:=hint+1
   for _ in [0:n] do
    if step >= room then break
    let some hit <- ask (hint-step)|return none
    if hit then break
    before:=step
    step:=2*step+1
   u:=hint+1-min step room
   v:=hint-before
  for _ in [0:n] do
   if u >= v then break
   let mid:=u+(v-u) / 2
   let some on <- ask mid|return none
   if on then u:=mid+1 else v:=mid
  return some v):=rfl
theorem qk (p q:Array UR):iF p q=(do
  rule "list.sort.merge-lo"
  let all:=p.size+q.size
  let rest:=λ(to:Array UR) (i j:Nat)=>to++p.extract i p.size++q.extract j q.size
  let tail:=λ(to:Array UR) (i j:Nat)=>to++q.extract j q.size++p.extract i p.size
  let mut to:Array UR:=#[<- elem' q 0]
  let mut i:=0
  let mut j:=1
  if j==q.size then return rest to i j
  if i+1==p.size then return tail to i j
  let mut mg:=gallopOf (<- get)
  for _ in [0:all] do
   let mut m:=0
   let mut n:=0
   for _ in [0:all] do
    let some EZ <- lt' (<- elem' q j) (<- elem' p i)|return rest to i j
    if EZ then
     to:=to.push (<- elem' q j);j:=j+1;n:=n+1;m:=0
     if j==q.size then return rest to i j
     if n >= mg then break
    else
     to:=to.push (<- elem' p i);i:=i+1;m:=m+1;n:=0
     if i+1==p.size then return tail to i j
     if m >= mg then break
   rule "list.sort.gallop"
   mg:=mg+1
   for _ in [0:all] do
    if mg>1 then mg:=mg-1
    modify λst=>b9 st mg
    let some k <- b6 false (<- elem' q j) p i (p.size-i) 0|return rest to i j
    m:=k
    if k>0 then
     to:=to++p.extract i (i+k);i:=i+k
     if i+1==p.size then return tail to i j
     if i==p.size then return rest to i j
    to:=to.push (<- elem' q j);j:=j+1
    if j==q.size then return rest to i j
    let some k <- b6 true (<- elem' p i) q j (q.size-j) 0|return rest to i j
    n:=k
    if k>0 then
     to:=to++q.extract j (j+k);j:=j+k
     if j==q.size then return rest to i j
    to:=to.push (<- elem' p i);i:=i+1
    if i+1==p.size then return tail to i j
    if m<7&&n<7 then break
   mg:=mg+1
   modify λst=>b9 st mg
  unsupported "internal:list.sort.merge-bound"):=rfl
theorem qm (p q:Array UR):iG p q=(do
  rule "list.sort.merge-hi"
  let all:=p.size+q.size
  let rest:=λ(to:Array UR) (i j:Nat)=>p.extract 0 i++q.extract 0 j++to.reverse
  let tail:=λ(to:Array UR) (i j:Nat)=>q.extract 0 j++p.extract 0 i++to.reverse
  let mut i:=p.size-1
  let mut j:=q.size
  let mut to:Array UR:=#[<- elem' p i]
  if i==0 then return rest to i j
  if j==1 then return tail to i j
  let mut mg:=gallopOf (<- get)
  for _ in [0:all] do
   let mut m:=0
   let mut n:=0
   for _ in [0:all] do
    let some EZ <- lt' (<- elem' q (j-1)) (<- elem' p (i-1))|return rest to i j
    if EZ then
     i:=i-1;to:=to.push (<- elem' p i);m:=m+1;n:=0
     if i==0 then return rest to i j
     if m >= mg then break
    else
     j:=j-1;to:=to.push (<- elem' q j);n:=n+1;m:=0
     if j==1 then return tail to i j
     if n >= mg then break
   rule "list.sort.gallop"
   mg:=mg+1
   for _ in [0:all] do
    if mg>1 then mg:=mg-1
    modify λst=>b9 st mg
    let some h <- b6 false (<- elem' q (j-1)) p 0 i (i-1)|return rest to i j
    let k:=i-h
    m:=k
    if k>0 then
     to:=to++(p.extract h i).reverse;i:=h
     if i==0 then return rest to i j
    j:=j-1;to:=to.push (<- elem' q j)
    if j==1 then return tail to i j
    let some h <- b6 true (<- elem' p (i-1)) q 0 j (j-1)|return rest to i j
    let k:=j-h
    n:=k
    if k>0 then
     to:=to++(q.extract h j).reverse;j:=h
     if j==1 then return tail to i j
     if j==0 then return rest to i j
    i:=i-1;to:=to.push (<- elem' p i)
    if i==0 then return rest to i j
    if m<7&&n<7 then break
   mg:=mg+1
   modify λst=>b9 st mg
  unsupported "internal:list.sort.merge-bound"):=rfl
theorem qp (i:Nat):mergeAt' i=(do
  let st <- get
  let (some (sa,na,pw),some (sb,nb,_)):=((U9 st)[i]?,(U9 st)[i+1]?)|unsupported "internal:list.sort.pending"
  set (XF st (((U9 st).setIfInBounds i (sa,na+nb,pw)).eraseIdxIfInBounds (i+1)))
  let some k <- b6 false (<- elem' (Vo st) sb) (Vo st) sa na 0|return false
  let (sa,na):=(sa+k,na-k)
  if na==0 then return true
  let some nb <- b6 true (<- elem' (Vo st) (sa+na-1)) (Vo st) sb nb (nb-1)|return false
  if nb==0 then return true
  let x:=(Vo st).extract sa sb
  let y:=(Vo st).extract sb (sb+nb)
  let got <- if na<=nb then iF x y else iG x y
  modify λs2=>VZ s2 (got.toList.zipIdx.foldl (λa (p,j)=>a.setIfInBounds (sa+j) p) (Vo s2))
  return (Xs (<- get)).isNone):=rfl
structure b4 (c:UR->UR->Bool):Prop where
 LI:∀x y,c x y=true->c y x=false
 Qe:∀x y z,c x z=true->c x y=true\/c y z=true
def le (c:UR->UR->Bool)(x y:UR):Prop:=c y x=false
section
variable {c:UR->UR->Bool}
theorem b4.refl (O:b4 c)(x:UR):le c x x:=by
 cases h:c x x
 ·exact h
 ·exact O.LI _ _ h
theorem b4.trans (O:b4 c){x y z:UR}(h1:le c x y)(h2:le c y z):le c x z:=by
 cases h:c z x
 ·exact h
 ·rcases O.Qe _ y _ h with q|q
  ·exact absurd (q.symm.trans h2) (by simp)
  ·exact absurd (q.symm.trans h1) (by simp)
theorem b4.of_lt (O:b4 c){x y:UR}(h:c x y=true):le c x y:=O.LI _ _ h
def el (a:Array UR)(i:Nat):UR:=a.getD i (Value.none,Value.none)
theorem iS {a:Array UR}{i:Nat}(h:i<a.size):a[i]?=some (el a i):=by
 rw[getElem?_pos a i h,el,WY,getElem?_pos a i h];rfl
theorem vb {a:Array UR}{i:Nat}{x:UR}(h:a[i]?=some x):el a i=x:=by
 rw[el,WY,h];rfl
theorem dF {a b:Array UR}{i j:Nat}(h:a[i]?=b[j]?):el a i=el b j:=by
 rw[el,el,WY,WY,h]
def SR (c:UR->UR->Bool)(a:Array UR)(lo hi:Nat):Prop:=∀i j,lo<=i->i<=j->j<hi->le c (el a i) (el a j)
def fC (prog:UP)(w:U1)(A:VO)(E:UK->UL->Prop)(s:UL)(κ:Xb)(c:UR->UR->Bool)(S:UR->Prop):Prop :=
 ∀(x y:UR) (st:Vi) (Q:Option Bool->Vi->Prop),S x->S y->kindOf st=κ->Q (some (c x y)) st->wpS (model prog w) A E s (lt' x y) Q st
end
section
variable {prog:UP}{w:U1}{A:VO}{E:UK->UL->Prop}{s:UL}{κ:Xb}{c:UR->UR->Bool}{S:UR->Prop}
theorem aM {a:Array UR}{i:Nat}{Q:UR->Vi->Prop}{st:Vi}(h:i<a.size)(q:Q (el a i) st):wpS (model prog w) A E s (elem' a i) Q st:=by
 rw[elem'_eq,iS h];exact UZ q
def dI (c:UR->UR->Bool)(left:Bool)(key:UR)(a:Array UR)(base i:Nat):Bool:=if left=true then c (el a (base+i)) key else !c key (el a (base+i))
theorem DE (O:b4 c){left:Bool}{key:UR}{a:Array UR}{base n i j:Nat}(hs:SR c a base (base+n))(aC:i<=j)(hj:j<n)(h:dI c left key a base j=true):dI c left key a base i=true:=by
 have hl:=hs (base+i) (base+j) (by lia) (by lia) (by lia)
 unfold dI at *
 cases left with
 |true =>
  rw[if_pos rfl]at *
  rcases O.Qe _ (el a (base+i)) _ h with q|q
  ·exact absurd (q.symm.trans hl) (by simp)
  ·exact q
 |false =>
  rw[if_neg (by simp)]at *
  rw[XB]at *
  exact O.trans hl h
theorem h8 (L:fC prog w A E s κ c S){left:Bool}{key:UR}{a:Array UR}{base n i:Nat}{Q:Option Bool->Vi->Prop}{st:Vi}(hk:kindOf st=κ)(hK:S key)(hA:∀i,i<n->S (el a (base+i)))(hn:base+n<=a.size)(hi:i<n)
  (h:Q (some (dI c left key a base i)) st):wpS (model prog w) A E s (do
   let z <- elem' a (base+i)
   if left then lt' z key else return (<- lt' key z).map (!·):StateT Vi Sem (Option Bool)) Q st:=by
 refine UT (aM (by lia) ?_)
 unfold dI at h;cases left with
 |true =>
  rw[if_pos rfl]at *
  exact L _ _ st Q (hA i hi) hK hk h
 |false =>
  rw[if_neg (by simp)]at *
  exact UT (L _ _ st _ hK (hA i hi) hk (UZ h))
theorem du (O:b4 c)(L:fC prog w A E s κ c S){left:Bool}{key:UR}{a:Array UR}{base n hint:Nat}{Q:Option Nat->Vi->Prop}{st:Vi}(hk:kindOf st=κ)(hK:S key)(hA:∀i,i<n->S (el a (base+i)))(hn:base+n<=a.size)
  (hs:SR c a base (base+n)) (hh:hint<n) (h:∀k,k<=n->(∀i,i<k->dI c left key a base i=true)->(∀i,k<=i->i<n->dI c left key a base i=false)->Q (some k) st) :
  wpS (model prog w) A E s (b6 left key a base n hint) Q st:=by
 rw[sZ];dsimp only;have up:∀{i j},i<=j->j<n->dI c left key a base j=true->dI c left key a base i=true:=λh1 h2 h3=>DE O hs h1 h2 h3;refine UT (h8 L hk hK hA hn hh ?_);dsimp only;have dn:∀{i j},i<=j->j<n->dI c left key a base i=false->dI c left key a base j=false:=λ{i j} h1 h2 h3=>by
  cases q:dI c left key a base j
  ·rfl
  ·rw[up h1 h2 q]at h3;exact absurd h3 (by simp)
 cases Ig:dI c left key a base hint with
 |true =>
  rw[if_pos rfl];refine UT (Wg (VL (I:=λx r aA=>aA=st/\∃be eF,r=(none,be,eF)/\hint+be<n/\be<eF/\x+1<=eF/\dI c left key a base (hint+be)=true)
   (Q:=λr aA=>aA=st/\∃be eF,r=(none,be,eF)/\hint+be<n/\be<eF/\dI c left key a base (hint+be)=true/\(n-hint<=eF\/(hint+eF<n/\dI c left key a base (hint+eF)=false))) ?_ ?_ ?_) ?_)
  ·rintro x r aA _ hx ⟨rfl,be,eF,rfl,h1,h2,h3,h4⟩;dsimp only
   by_cases hr:eF >= n-hint
   ·rw[if_pos hr];exact UZ ⟨rfl,be,eF,rfl,h1,h2,h4,.inl hr⟩
   ·rw[if_neg hr];refine UT (h8 L hk hK hA hn (by omega) ?_)
    dsimp only;cases hb:dI c left key a base (hint+eF)with
    |true =>
     rw[if_neg (by simp)]
     exact UZ ⟨rfl,eF,_,rfl,by omega,by omega,by omega,hb⟩
    |false =>
     rw[if_pos (by simp)]
     exact UZ ⟨rfl,be,eF,rfl,h1,h2,h4,.inr ⟨by omega,hb⟩⟩
  ·rintro r aA ⟨rfl,be,eF,rfl,h1,h2,h3,h4⟩;exact⟨rfl,be,eF,rfl,h1,h2,h4,.inl (by omega)⟩
  ·exact⟨rfl,0,1,rfl,by omega,by omega,by omega,Ig⟩
  rintro r aA ⟨e0,be,eF,rfl,h1,h2,h4,h5⟩;rw[e0];dsimp only;have g1:∀i,i<hint+be+1->dI c left key a base i=true:=λi hi=>up (j:=hint+be) (by omega) h1 h4
  have g2:∀i,hint+min eF (n-hint)<=i->i<n->dI c left key a base i=false:=λi hi fO=>by
   rcases h5 with q|⟨q1,q2⟩
   ·omega
   ·exact dn (i:=hint+eF) (by omega) fO q2
  refine UT (Wg (VL (I:=λx r aA=>aA=st/\∃u v,r=(none,u,v)/\u<=v/\v<=n/\v-u<=n-x/\(∀i,i<u->dI c left key a base i=true)/\(∀i,v<=i->i<n->dI c left key a base i=false))
   (Q:=λr aA=>aA=st/\∃v,r=(none,v,v)/\v<=n/\(∀i,i<v->dI c left key a base i=true)/\(∀i,v<=i->i<n->dI c left key a base i=false)) ?_ ?_ ?_) ?_)
  ·rintro x r aA _ hx ⟨rfl,u,v,rfl,h1,h2,h3,h4,h5⟩;dsimp only
   by_cases J7:u >= v
   ·rw[if_pos J7];obtain rfl:u=v:=by omega
    exact UZ ⟨rfl,u,rfl,h2,h4,h5⟩
   ·rw[if_neg J7];refine UT (h8 L hk hK hA hn (by omega) ?_)
    dsimp only;cases hb:dI c left key a base (u+(v-u) / 2)with
    |true =>
     rw[if_pos rfl];exact UZ ⟨rfl,_,v,rfl,by omega,h2,by omega,λi hi=>up (j:=u+(v-u) / 2) (by omega) (by omega) hb,h5⟩
    |false =>
     rw[if_neg (by simp)]
     exact UZ ⟨rfl,u,_,rfl,by omega,by omega,by omega,h4,λi hi fO=>dn (i:=u+(v-u) / 2) (by omega) (by omega) hb⟩
  ·rintro r aA ⟨rfl,u,v,rfl,h1,h2,h3,h4,h5⟩;obtain rfl:u=v:=by omega
   exact⟨rfl,u,rfl,h2,h4,h5⟩
  ·exact⟨rfl,_,_,rfl,by omega,by omega,by omega,by assumption,by assumption⟩
  ·rintro r aA ⟨rfl,v,rfl,h2,h4,h5⟩;exact UZ (h v h2 h4 h5)
 |false =>
  rw[if_neg (by simp)]
  refine UT (Wg (VL (I:=λx r aA=>aA=st/\∃be eF,r=(none,be,eF)/\be<=hint/\be<eF/\x+1<=eF/\dI c left key a base (hint-be)=false)
   (Q:=λr aA=>aA=st/\∃be eF,r=(none,be,eF)/\be<=hint/\be<eF/\dI c left key a base (hint-be)=false/\(hint+1<=eF\/(eF<=hint/\dI c left key a base (hint-eF)=true))) ?_ ?_ ?_) ?_)
  ·rintro x r aA _ hx ⟨rfl,be,eF,rfl,h1,h2,h3,h4⟩;dsimp only
   by_cases hr:eF >= hint+1
   ·rw[if_pos hr];exact UZ ⟨rfl,be,eF,rfl,h1,h2,h4,.inl hr⟩
   ·rw[if_neg hr];refine UT (h8 L hk hK hA hn (by omega) ?_)
    dsimp only;cases hb:dI c left key a base (hint-eF)with
    |true =>
     rw[if_pos rfl];exact UZ ⟨rfl,be,eF,rfl,h1,h2,h4,.inr ⟨by omega,hb⟩⟩
    |false =>
     rw[if_neg (by simp)]
     exact UZ ⟨rfl,eF,_,rfl,by omega,by omega,by omega,hb⟩
  ·rintro r aA ⟨rfl,be,eF,rfl,h1,h2,h3,h4⟩;exact⟨rfl,be,eF,rfl,h1,h2,h4,.inl (by omega)⟩
  ·exact⟨rfl,0,1,rfl,by omega,by omega,by omega,Ig⟩
  rintro r aA ⟨e0,be,eF,rfl,h1,h2,h4,h5⟩;rw[e0];dsimp only;have g1:∀i,i<hint+1-min eF (hint+1)->dI c left key a base i=true:=λi hi=>by
   rcases h5 with q|⟨q1,q2⟩
   ·omega
   ·exact up (j:=hint-eF) (by omega) (by omega) q2
  have g2:∀i,hint-be<=i->i<n->dI c left key a base i=false:=λi hi fO=>dn (i:=hint-be) hi fO h4;refine UT (Wg (VL (I:=λx r aA=>aA=st/\∃u v,r=(none,u,v)/\u<=v/\v<=n/\v-u<=n-x/\(∀i,i<u->dI c left key a base i=true)/\(∀i,v<=i->i<n->dI c left key a base i=false))
   (Q:=λr aA=>aA=st/\∃v,r=(none,v,v)/\v<=n/\(∀i,i<v->dI c left key a base i=true)/\(∀i,v<=i->i<n->dI c left key a base i=false)) ?_ ?_ ?_) ?_)
  ·rintro x r aA _ hx ⟨rfl,u,v,rfl,h1,h2,h3,h4,h5⟩;dsimp only
   by_cases J7:u >= v
   ·rw[if_pos J7];obtain rfl:u=v:=by omega
    exact UZ ⟨rfl,u,rfl,h2,h4,h5⟩
   ·rw[if_neg J7];refine UT (h8 L hk hK hA hn (by omega) ?_)
    dsimp only;cases hb:dI c left key a base (u+(v-u) / 2)with
    |true =>
     rw[if_pos rfl];exact UZ ⟨rfl,_,v,rfl,by omega,h2,by omega,λi hi=>up (j:=u+(v-u) / 2) (by omega) (by omega) hb,h5⟩
    |false =>
     rw[if_neg (by simp)]
     exact UZ ⟨rfl,u,_,rfl,by omega,by omega,by omega,h4,λi hi fO=>dn (i:=u+(v-u) / 2) (by omega) (by omega) hb⟩
  ·rintro r aA ⟨rfl,u,v,rfl,h1,h2,h3,h4,h5⟩;obtain rfl:u=v:=by omega
   exact⟨rfl,u,rfl,h2,h4,h5⟩
  ·exact⟨rfl,_,_,rfl,by omega,by omega,by omega,by assumption,by assumption⟩
  ·rintro r aA ⟨rfl,v,rfl,h2,h4,h5⟩;exact UZ (h v h2 h4 h5)
end
section
variable {c:UR->UR->Bool}{p q:Array UR}{t:List UR}{i j:Nat}
theorem t8 {a:Array UR}{i:Nat}(h:i<a.size):a.toList.take (i+1)=a.toList.take i++[el a i]:=by
 have e:a.toList[i]?=some (el a i):=by rw[Ve];exact iS h
 rw[List.take_succ,e];rfl
theorem vd {a:Array UR}{i:Nat}(h:i<a.size):a.toList.drop i=el a i::a.toList.drop (i+1):=by
 have hl:i<a.toList.length:=by rw[Vj];exact h
 have e:a.toList[i]=el a i:=by
  have h1:=Vh hl;rw[Ve,iS h]at h1;exact(VE h1).symm
 rw[VW hl,e]
structure Mg (c:UR->UR->Bool)(p q:Array UR)(t:List UR)(i j:Nat):Prop where
 hi:i<=p.size
 hj:j<=q.size
 perm:t.Perm (p.toList.take i++q.toList.take j)
 jI:t.Pairwise (le c)
 ap:∀x∈t,∀k,i<=k->k<p.size->le c x (el p k)
 aq:∀x∈t,∀k,j<=k->k<q.size->le c x (el q k)
def Gd (c:UR->UR->Bool)(p q:Array UR)(t:List UR):Prop:=t.Perm (p.toList++q.toList)/\t.Pairwise (le c)
theorem pN {x:UR}(h:t.Pairwise (le c))(hx:∀y∈t,le c y x):(t++[x]).Pairwise (le c):=by
 rw[W4];exact⟨h,Yl _ _,λy hy z hz=>by rw[UX.mp hz];exact hx y hy⟩
theorem Mg.jL (m:Mg c p q t i j)(hj:j<q.size)(sq:SR c q 0 q.size)(hle:∀k,i<=k->k<p.size->le c (el q j) (el p k)):Mg c p q (t++[el q j]) i (j+1) where
 hi:=m.hi
 hj:=hj
 perm:=by
  rw[t8 hj,<- VC];exact m.perm.append_right _
 jI:=pN m.jI λy hy=>m.aq y hy j (UO _) hj
 ap:=λx hx k h1 h2=>by
  rcases Vl.mp hx with h|h
  ·exact m.ap x h k h1 h2
  ·rw[UX.mp h];exact hle k h1 h2
 aq:=λx hx k h1 h2=>by
  rcases Vl.mp hx with h|h
  ·exact m.aq x h k (by lia) h2
  ·rw[UX.mp h];exact sq j k (by lia) (by lia) h2
theorem Mg.jM (m:Mg c p q t i j)(hi:i<p.size)(sp:SR c p 0 p.size)(hle:∀k,j<=k->k<q.size->le c (el p i) (el q k)):Mg c p q (t++[el p i]) (i+1) j where
 hi:=hi
 hj:=m.hj
 perm:=by
  rw[t8 hi];refine(m.perm.append_right _).trans ?_;rw[VC,VC];exact List.Perm.append_left _ List.perm_append_comm
 jI:=pN m.jI λy hy=>m.ap y hy i (UO _) hi
 ap:=λx hx k h1 h2=>by
  rcases Vl.mp hx with h|h
  ·exact m.ap x h k (by lia) h2
  ·rw[UX.mp h];exact sp i k (by lia) (by lia) h2
 aq:=λx hx k h1 h2=>by
  rcases Vl.mp hx with h|h
  ·exact m.aq x h k h1 h2
  ·rw[UX.mp h];exact hle k h1 h2
theorem gn {a:Array UR}{i k:Nat}(h:i+k<a.size):(a.toList.drop i).take (k+1)=(a.toList.drop i).take k++[el a (i+k)]:=by
 have e:(a.toList.drop i)[k]?=some (el a (i+k)):=by rw[List.getElem?_drop,Ve];exact iS h
 rw[List.take_succ,e];rfl
theorem Mg.ic (m:Mg c p q t i j)(sp:SR c p 0 p.size):∀(k:Nat),i+k<=p.size->(∀x,x<k->∀y,j<=y->y<q.size->le c (el p (i+x)) (el q y))->Mg c p q (t++(p.toList.drop i).take k) (i+k) j
 |0,_,_=>by simpa using m
 |k+1,h,hle=>by
  have m':=Mg.ic m sp k (by lia) λx hx=>hle x (by lia)
  rw[gn (by lia),<- VC,<- Yi]
  exact m'.jM (by lia) sp (hle k (by lia))
theorem Mg.ib (m:Mg c p q t i j)(sq:SR c q 0 q.size):∀(k:Nat),j+k<=q.size->(∀x,x<k->∀y,i<=y->y<p.size->le c (el q (j+x)) (el p y))->Mg c p q (t++(q.toList.drop j).take k) i (j+k)
 |0,_,_=>by simpa using m
 |k+1,h,hle=>by
  have m':=Mg.ib m sq k (by lia) λx hx=>hle x (by lia)
  rw[gn (by lia),<- VC,<- Yi]
  exact m'.jL (by lia) sq (hle k (by lia))
theorem Mg.full (m:Mg c p q t p.size q.size):Gd c p q t:=by
 refine⟨?_,m.jI⟩;have h:=m.perm;rw[Wr (by rw[Vj];lia),Wr (by rw[Vj];lia)]at h
 exact h
theorem bZ (a:Array UR)(i j:Nat):(a.extract i j).toList=(a.toList.drop i).take (j-i):=by
 rw[Array.toList_extract,List.extract_eq_take_drop]
theorem qV {a:Array UR}{i j:Nat}(h:a.size<=i):(a.toList.drop i).take (j-i)=[]:=by
 rw[Yo (by rw[Vj];exact h)]
 simp
theorem Mg.done {to:Array UR}(m:Mg c p q to.toList i j)(sp:SR c p 0 p.size)(sq:SR c q 0 q.size)(h:i=p.size\/j=q.size):Gd c p q (to++p.extract i p.size++q.extract j q.size).toList:=by
 rw[Wc,Wc,bZ,bZ];rcases h with rfl|rfl
 ·rw[qV (UO _),VT];have m':=m.ib sq (q.size-j) (by have:=m.hj;lia) λx hx y h1 h2=>by lia
  rw[show j+(q.size-j)=q.size by have:=m.hj;lia]at m'
  exact m'.full
 ·rw[qV (a:=q) (UO _),VT];have m':=m.ic sp (p.size-i) (by have:=m.hi;lia) λx hx y h1 h2=>by lia
  rw[show i+(p.size-i)=p.size by have:=m.hi;lia]at m'
  exact m'.full
theorem Mg.tail {to:Array UR}(O:b4 c)(m:Mg c p q to.toList i j)(sp:SR c p 0 p.size)(sq:SR c q 0 q.size)(h:i+1=p.size)(hl:∀y,y<q.size->c (el q y) (el p (p.size-1))=true):Gd c p q (to++q.extract j q.size++p.extract i p.size).toList:=by
 rw[Wc,Wc,bZ,bZ];have m':=m.ib sq (q.size-j) (by have:=m.hj;lia) λx hx y h1 h2=>by
  rw[show y=p.size-1 by lia]
  exact O.of_lt (hl _ (by lia))
 rw[show j+(q.size-j)=q.size by have:=m.hj;lia]at m'
 have m2:=m'.ic sp (p.size-i) (by have:=m.hi;lia) λx hx y h1 h2=>by lia
 rw[show i+(p.size-i)=p.size by have:=m.hi;lia]at m2
 exact m2.full
theorem vw (to a:Array UR)(i k:Nat):(to++a.extract i (i+k)).toList=to.toList++(a.toList.drop i).take k:=by
 rw[Wc,bZ,show i+k-i=k by lia]
theorem Mg.start (O:b4 c)(sp:SR c p 0 p.size)(sq:SR c q 0 q.size)(hq:0<q.size)(hp:0<p.size)(h:c (el q 0) (el p 0)=true):Mg c p q [el q 0] 0 1:=by
 have m:Mg c p q [] 0 0:=⟨U4 _,U4 _,(by simp),.nil,(λx hx=>by cases hx),(λx hx=>by cases hx)⟩
 exact m.jL hq sq λk _ hk=>O.trans (O.of_lt h) (sp 0 k (by lia) (by lia) hk)
end
structure jD (st aA:Vi):Prop where
 kind:kindOf aA=kindOf st
 arr:Vo aA=Vo st
 pend:U9 aA=U9 st
 fail:Xs aA=Xs st
theorem jD.refl (st:Vi):jD st st:=⟨rfl,rfl,rfl,rfl⟩
theorem jD.Er {st aA:Vi}(e:jD st aA)(g:Nat):jD st (b9 aA g):=⟨e.kind,e.arr,e.pend,e.fail⟩
abbrev RI:=Array UR×Nat×Nat×Nat×Nat
abbrev RG:=Array UR×Nat×Nat×Nat×Nat×Nat
abbrev RO:=Array UR×Nat×Nat×Nat
def NH (p q t:Array UR)(i j mg m n:Nat):StateT Vi Sem (ForInStep (Option (Array UR)×RG)):=do
 let z <- elem' p i
 if (i+1+1==p.size)=true then pure (.done (some (t.push z++q.extract j++p.extract (i+1)),t.push z,i+1,j,mg,m,n))
 else if (decide (m<7)&&decide (n<7))=true then pure (.done (none,t.push z,i+1,j,mg,m,n)) else pure (.yield (none,t.push z,i+1,j,mg,m,n))
def NJ (p q t:Array UR)(i j mg m n:Nat):StateT Vi Sem (ForInStep (Option (Array UR)×RG)):=do
 let y <- elem' q j
 if (j+1==q.size)=true then pure (.done (some (t.push y++p.extract i++q.extract (j+1)),t.push y,i,j+1,mg,m,n))
 else do
  let x <- elem' p i
  let r <- b6 true x q (j+1) (q.size-(j+1)) 0
  match r with
  |some k=>if k>0 then (if (j+1+k==q.size)=true then pure (.done (some (t.push y++q.extract (j+1) (j+1+k)++p.extract i++q.extract (j+1+k)),t.push y++q.extract (j+1) (j+1+k),i,j+1+k,mg,m,k))
    else NH p q (t.push y++q.extract (j+1) (j+1+k)) i (j+1+k) mg m k) else NH p q (t.push y) i (j+1) mg m k
  |_=>pure (.done (some (t.push y++p.extract i++q.extract (j+1)),t.push y,i,j+1,mg,m,n))
def JW (p q t:Array UR)(i j mg m n:Nat):StateT Vi Sem (ForInStep (Option (Array UR)×RG)):=do
 modify λst=>b9 st mg
 let y <- elem' q j
 let r <- b6 false y p i (p.size-i) 0
 match r with
 |some k=>if k>0 then (if (i+k+1==p.size)=true then pure (.done (some (t++p.extract i (i+k)++q.extract j++p.extract (i+k)),t++p.extract i (i+k),i+k,j,mg,k,n))
   else if (i+k==p.size)=true then pure (.done (some (t++p.extract i (i+k)++p.extract (i+k)++q.extract j),t++p.extract i (i+k),i+k,j,mg,k,n))
   else NJ p q (t++p.extract i (i+k)) (i+k) j mg k n) else NJ p q t i j mg k n
 |_=>pure (.done (some (t++p.extract i++q.extract j),t,i,j,mg,m,n))
def R1 (p q:Array UR)(s:Option (Array UR)×RG):StateT Vi Sem (ForInStep (Option (Array UR)×RG)):=if s.2.2.2.2.1>1 then JW p q s.2.1 s.2.2.1 s.2.2.2.1 (s.2.2.2.2.1-1) s.2.2.2.2.2.1 s.2.2.2.2.2.2 else JW p q s.2.1 s.2.2.1 s.2.2.2.1 s.2.2.2.2.1 s.2.2.2.2.2.1 s.2.2.2.2.2.2
def JV (p q:Array UR)(mg:Nat)(s:Option (Array UR)×RI):StateT Vi Sem (ForInStep (Option (Array UR)×RI)):=do
 let y <- elem' q s.2.2.2.1
 if (s.2.2.2.1+1==q.size)=true then pure (.done (some (s.2.1.push y++p.extract s.2.2.1++q.extract (s.2.2.2.1+1)),s.2.1.push y,s.2.2.1,s.2.2.2.1+1,0,s.2.2.2.2.2+1))
 else if s.2.2.2.2.2+1 >= mg then pure (.done (none,s.2.1.push y,s.2.2.1,s.2.2.2.1+1,0,s.2.2.2.2.2+1)) else pure (.yield (none,s.2.1.push y,s.2.2.1,s.2.2.2.1+1,0,s.2.2.2.2.2+1))
def JU (p q:Array UR)(mg:Nat)(s:Option (Array UR)×RI):StateT Vi Sem (ForInStep (Option (Array UR)×RI)):=do
 let x <- elem' p s.2.2.1
 if (s.2.2.1+1+1==p.size)=true then pure (.done (some (s.2.1.push x++q.extract s.2.2.2.1++p.extract (s.2.2.1+1)),s.2.1.push x,s.2.2.1+1,s.2.2.2.1,s.2.2.2.2.1+1,0))
 else if s.2.2.2.2.1+1 >= mg then pure (.done (none,s.2.1.push x,s.2.2.1+1,s.2.2.2.1,s.2.2.2.2.1+1,0)) else pure (.yield (none,s.2.1.push x,s.2.2.1+1,s.2.2.2.1,s.2.2.2.2.1+1,0))
def NG (p q:Array UR)(mg:Nat)(s:Option (Array UR)×RI):StateT Vi Sem (ForInStep (Option (Array UR)×RI)):=do
 let y <- elem' q s.2.2.2.1
 let x <- elem' p s.2.2.1
 let r <- lt' y x
 match r with
 |some EZ=>if EZ=true then JV p q mg s else JU p q mg s
 |_=>pure (.done (some (s.2.1++p.extract s.2.2.1++q.extract s.2.2.2.1),s.2.1,s.2.2.1,s.2.2.2.1,s.2.2.2.2.1,s.2.2.2.2.2))
def Qo (p q:Array UR)(s:Option (Array UR)×RO):StateT Vi Sem (ForInStep (Option (Array UR)×RO)):=do
 let s1 <- forIn [:p.size+q.size] ((none,s.2.1,s.2.2.1,s.2.2.2.1,0,0):Option (Array UR)×RI) λ_ r=>NG p q s.2.2.2.2 r
 match s1.1 with
 |some r=>pure (.done (some r,s1.2.1,s1.2.2.1,s1.2.2.2.1,s.2.2.2.2))
 |none=>do
  liftM (rule "list.sort.gallop")
  let s2 <- forIn [:p.size+q.size] ((none,s1.2.1,s1.2.2.1,s1.2.2.2.1,s.2.2.2.2+1,s1.2.2.2.2.1,s1.2.2.2.2.2):Option (Array UR)×RG) λ_ r=>R1 p q r
  match s2.1 with
  |some r=>pure (.done (some r,s2.2.1,s2.2.2.1,s2.2.2.2.1,s2.2.2.2.2.1))
  |none=>do
   modify λst=>b9 st (s2.2.2.2.2.1+1)
   pure (.yield (none,s2.2.1,s2.2.2.1,s2.2.2.2.1,s2.2.2.2.2.1+1))
theorem ql (p q:Array UR):iF p q=(do
  liftM (rule "list.sort.merge-lo")
  let y <- elem' q 0
  if (1==q.size)=true then pure (#[y]++p.extract 0++q.extract 1)
  else if (0+1==p.size)=true then pure (#[y]++q.extract 1++p.extract 0)
  else do
   let st <- get
   let s <- forIn [:p.size+q.size] ((none,#[y],0,1,gallopOf st):Option (Array UR)×RO) λ_ s=>Qo p q s
   match s.1 with
   |some r=>pure r
   |none=>liftM (unsupported "internal:list.sort.merge-bound" : Sem (Array UR))):=by
 rw[qk];dsimp only;refine congrArg (bind _) (funext λ_=>?_);refine congrArg (bind _) (funext λy=>?_);refine congrArg (ite _ _) (congrArg (ite _ _) ?_);refine congrArg (bind _) (funext λy=>?_);refine congr (congrArg bind (congrArg _ (funext λ_=>funext λs=>?_))) (funext λs=>?_)
 ·refine congr (congrArg bind (congrArg _ (funext λ_=>funext λs=>?_))) (funext λs=>?_)
  ·rfl
  ·cases s.1
   ·refine congrArg (bind _) (funext λ_=>?_);refine congr (congrArg bind (congrArg _ (funext λ_=>funext λs=>?_))) (funext λs=>?_)
    ·rfl
    ·cases s.1 <;> rfl
   ·rfl
 ·cases s.1 <;> rfl
section
variable {prog:UP}{w:U1}{A:VO}{E:UK->UL->Prop}{s:UL}{κ:Xb}{c:UR->UR->Bool}{S:UR->Prop}{p q:Array UR}
theorem xI {st:Vi}{Q:ForInStep (Option (Array UR)×RG)->Vi->Prop}{t:Array UR}{i j mg m n:Nat}(O:b4 c)(sp:SR c p 0 p.size)(sq:SR c q 0 q.size)(hl:∀y,y<q.size->c (el q y) (el p (p.size-1))=true)(m3:Mg c p q t.toList i j)(hi:i+1<p.size)(g3:∀y,j<=y->y<q.size->le c (el p i) (el q y))
  (hd:∀out r,Gd c p q out.toList->Q (.done (some out,r)) st) (hn:∀t' m n,Mg c p q t'.toList (i+1) j->i+1+1<p.size->Q (.done (none,t',i+1,j,mg,m,n)) st/\Q (.yield (none,t',i+1,j,mg,m,n)) st):wpS (model prog w) A E s (NH p q t i j mg m n) Q st:=by
 refine UT (aM (by lia) ?_)
 have m4:Mg c p q (t.push (el p i)).toList (i+1) j:=by
  rw[WX];exact m3.jM (by lia) sp g3
 by_cases e5:(i+1+1==p.size)=true
 ·rw[if_pos e5];exact UZ (hd _ _ (m4.tail O sp sq (by simpa using e5) hl))
 rw[if_neg e5];have h5:i+1+1≠p.size:=by simpa using e5
 obtain⟨h6,h7⟩:=hn (t.push (el p i)) m n m4 (by lia)
 split
 ·exact UZ h6
 ·exact UZ h7
theorem xJ {st:Vi}{Q:ForInStep (Option (Array UR)×RG)->Vi->Prop}{t:Array UR}{i j mg m n:Nat}(O:b4 c)(L:fC prog w A E s κ c S)(hk:kindOf st=κ)(Sp:∀i,i<p.size->S (el p i))(Sq:∀i,i<q.size->S (el q i))(sp:SR c p 0 p.size)(sq:SR c q 0 q.size)(hl:∀y,y<q.size->c (el q y) (el p (p.size-1))=true)(m1:Mg c p q t.toList i j)(hi:i+1<p.size)(hj:j<q.size)(g1:∀y,i<=y->y<p.size->le c (el q j) (el p y))
  (hd:∀out r,Gd c p q out.toList->Q (.done (some out,r)) st) (hn:∀t' j' m n,Mg c p q t'.toList (i+1) j'->i+1+1<p.size->j<j'->j'<q.size->Q (.done (none,t',i+1,j',mg,m,n)) st/\Q (.yield (none,t',i+1,j',mg,m,n)) st):wpS (model prog w) A E s (NJ p q t i j mg m n) Q st:=by
 refine UT (aM hj ?_);have m2:Mg c p q (t.push (el q j)).toList i (j+1):=by
  rw[WX];exact m1.jL hj sq g1
 by_cases e3:(j+1==q.size)=true
 ·rw[if_pos e3];exact UZ (hd _ _ (m2.done sp sq (.inr (by simpa using e3))))
 rw[if_neg e3];have h3:j+1≠q.size:=by simpa using e3
 refine UT (aM (by lia) (UT (du O L hk (Sp _ (by lia)) (λx hx=>Sq _ (by lia)) (by lia) (λa b h1 h2 h3=>sq a b (by lia) h2 (by lia)) (by lia) λk k1 k2 k3=>?_)))
 have g3:∀y,j+1+k<=y->y<q.size->le c (el p i) (el q y):=λy h1 h2=>by
  have:=k3 (y-(j+1)) (by lia) (by lia)
  unfold dI at this;rw[if_pos rfl,show j+1+(y-(j+1))=y by lia]at this
  exact this
 dsimp only
 by_cases zW:k>0
 ·rw[if_pos zW];have m3:Mg c p q (t.push (el q j)++q.extract (j+1) (j+1+k)).toList i (j+1+k):=by
   rw[vw];exact m2.ib sq k (by lia) λx hx y h1 h2=>O.trans (O.of_lt (show c (el q (j+1+x)) (el p i)=true from k2 x hx)) (sp _ y (by lia) h1 h2)
  by_cases e4:(j+1+k==q.size)=true
  ·rw[if_pos e4];exact UZ (hd _ _ (m3.done sp sq (.inr (by simpa using e4))))
  rw[if_neg e4];have h4:j+1+k≠q.size:=by simpa using e4
  exact xI O sp sq hl m3 hi g3 hd λt' m n h1 h2=>hn t' _ m n h1 h2 (by lia) (by lia)
 ·rw[if_neg zW];exact xI O sp sq hl m2 hi (λy h1 h2=>g3 y (by lia) h2) hd λt' m n h1 h2=>hn t' _ m n h1 h2 (by lia) (by lia)
theorem EU {st:Vi}{Q:ForInStep (Option (Array UR)×RG)->Vi->Prop}{t:Array UR}{i j mg m n:Nat}(O:b4 c)(L:fC prog w A E s κ c S)(hk:kindOf st=κ)(Sp:∀i,i<p.size->S (el p i))(Sq:∀i,i<q.size->S (el q i))(sp:SR c p 0 p.size)(sq:SR c q 0 q.size)(hl:∀y,y<q.size->c (el q y) (el p (p.size-1))=true)(m0:Mg c p q t.toList i j)(hi:i+1<p.size)(hj:j<q.size)
  (hd:∀out r,Gd c p q out.toList->Q (.done (some out,r)) (b9 st mg)) (hn:∀t' i' j' m n,Mg c p q t'.toList i' j'->i'+1<p.size->j'<q.size->i+j<i'+j'->Q (.done (none,t',i',j',mg,m,n)) (b9 st mg)/\Q (.yield (none,t',i',j',mg,m,n)) (b9 st mg)):wpS (model prog w) A E s (JW p q t i j mg m n) Q st:=by
 refine UT (WZ (UT (aM hj (UT (du O L hk (Sq _ hj) (λx hx=>Sp _ (by lia)) (by lia) (λa b h1 h2 h3=>sp a b (by lia) h2 (by lia)) (by lia) λk k1 k2 k3=>?_)))))
 have g0:∀x,x<k->le c (el p (i+x)) (el q j):=λx hx=>by
  have:=k2 x hx;unfold dI at this;rw[if_neg (by simp),XB]at this
  exact this
 have g1:∀y,i+k<=y->y<p.size->le c (el q j) (el p y):=λy h1 h2=>by
  have:=k3 (y-i) (by lia) (by lia)
  unfold dI at this;rw[if_neg (by simp),YH,show i+(y-i)=y by lia]at this
  exact O.of_lt this
 have Uv:i+k<p.size:=by
  rcases WJ (i+k) p.size with fG|QI
  ·exact fG
  ·have h1:=g0 (p.size-1-i) (by lia)
   rw[show i+(p.size-1-i)=p.size-1 by lia]at h1
   exact absurd ((hl j hj).symm.trans h1) (by simp)
 dsimp only
 by_cases zW:k>0
 ·rw[if_pos zW];have m1:Mg c p q (t++p.extract i (i+k)).toList (i+k) j:=by
   rw[vw];exact m0.ic sp k (by lia) λx hx y h1 h2=>O.trans (g0 x hx) (sq j y (by lia) h1 h2)
  by_cases e1:(i+k+1==p.size)=true
  ·rw[if_pos e1];exact UZ (hd _ _ (m1.tail O sp sq (by simpa using e1) hl))
  rw[if_neg e1];have wU:i+k+1≠p.size:=by simpa using e1
  rw[if_neg (by simp;lia)]
  exact xJ O L hk Sp Sq sp sq hl m1 (by lia) hj g1 hd λt' j' m n h1 h2 h3 h4=>hn t' _ j' m n h1 h2 h4 (by lia)
 ·rw[if_neg zW];exact xJ O L hk Sp Sq sp sq hl m0 hi hj (λy h1 h2=>g1 y (by lia) h2) hd λt' j' m n h1 h2 h3 h4=>hn t' _ j' m n h1 h2 h4 (by lia)
theorem ET {st:Vi}{Q:ForInStep (Option (Array UR)×RI)->Vi->Prop}{t:Array UR}{i j mg ma na:Nat}(O:b4 c)(L:fC prog w A E s κ c S)(hk:kindOf st=κ)(Sp:∀i,i<p.size->S (el p i))(Sq:∀i,i<q.size->S (el q i))(sp:SR c p 0 p.size)(sq:SR c q 0 q.size)(hl:∀y,y<q.size->c (el q y) (el p (p.size-1))=true)(m:Mg c p q t.toList i j)(hi:i+1<p.size)(hj:j<q.size)
  (hd:∀out r,Gd c p q out.toList->Q (.done (some out,r)) st) (hn:∀t' i' j' m n,Mg c p q t'.toList i' j'->i'+1<p.size->j'<q.size->i+j<i'+j'->Q (.done (none,t',i',j',m,n)) st/\Q (.yield (none,t',i',j',m,n)) st):wpS (model prog w) A E s (NG p q mg (none,t,i,j,ma,na)) Q st:=by
 unfold NG JV JU;dsimp only;refine UT (aM hj (UT (aM (by lia) (UT (L _ _ st _ (Sq _ hj) (Sp _ (by lia)) hk ?_)))))
 dsimp only;cases hc:c (el q j) (el p i)with
 |true =>
  rw[if_pos rfl];refine UT (aM hj ?_);have m1:Mg c p q (t.push (el q j)).toList i (j+1):=by
   rw[WX];exact m.jL hj sq λk h1 h2=>O.trans (O.of_lt hc) (sp i k (by lia) h1 h2)
  by_cases e3:(j+1==q.size)=true
  ·rw[if_pos e3];exact UZ (hd _ _ (m1.done sp sq (.inr (by simpa using e3))))
  rw[if_neg e3];have h3:j+1≠q.size:=by simpa using e3
  obtain⟨h6,h7⟩:=hn _ _ _ 0 (na+1) m1 hi (by lia) (by lia)
  split
  ·exact UZ h6
  ·exact UZ h7
 |false =>
  rw[if_neg (by simp)]
  refine UT (aM (by lia) ?_)
  have m1:Mg c p q (t.push (el p i)).toList (i+1) j:=by
   rw[WX];exact m.jM (by lia) sp λk h1 h2=>O.trans (show le c (el p i) (el q j) from hc) (sq j k (by lia) h1 h2)
  by_cases e3:(i+1+1==p.size)=true
  ·rw[if_pos e3];exact UZ (hd _ _ (m1.tail O sp sq (by simpa using e3) hl))
  rw[if_neg e3];have h3:i+1+1≠p.size:=by simpa using e3
  obtain⟨h6,h7⟩:=hn _ _ _ (ma+1) 0 m1 (by lia) hj (by lia)
  split
  ·exact UZ h6
  ·exact UZ h7
theorem rQ (O:b4 c)(L:fC prog w A E s κ c S){Q:Array UR->Vi->Prop}{st:Vi}(hk:kindOf st=κ)(Sp:∀i,i<p.size->S (el p i))(Sq:∀i,i<q.size->S (el q i))(sp:SR c p 0 p.size)(sq:SR c q 0 q.size)
  (hp:0<p.size) (hq:0<q.size) (hf:c (el q 0) (el p 0)=true) (hl:∀y,y<q.size->c (el q y) (el p (p.size-1))=true) (h:∀to aA,jD st aA->Gd c p q to.toList->Q to aA) :
  wpS (model prog w) A E s (iF p q) Q st:=by
 rw[ql];refine UT (Yt (XE ⟨rfl,?_⟩));refine UT (aM hq ?_);have m0:Mg c p q (#[el q 0]:Array UR).toList 0 1:=Mg.start O sp sq hq hp hf
 by_cases h1:(1==q.size)=true
 ·rw[if_pos h1];exact UZ (h _ st (jD.refl st) (m0.done sp sq (.inr (by simpa using h1))))
 rw[if_neg h1]
 by_cases h2:(0+1==p.size)=true
 ·rw[if_pos h2];exact UZ (h _ st (jD.refl st) (m0.tail O sp sq (by simpa using h2) hl))
 rw[if_neg h2];refine UT (X9 ?_);refine UT (Wg (VL
  (I:=λx r aA=>jD st aA/\∃to i j mg,r=(none,to,i,j,mg)/\Mg c p q to.toList i j/\i+1<p.size/\j<q.size/\x<i+j)
  (Q:=λr aA=>jD st aA/\∃out r',r=(some out,r')/\Gd c p q out.toList) ?_ ?_ ?_) ?_)
 ·rintro x r aA _ hx ⟨e,to,i,j,mg,rfl,m,hi,hj,hb⟩;unfold Qo;dsimp only;refine UT (Wg (VL
   (I:=λy r aA=>jD st aA/\∃to i j m n,r=(none,to,i,j,m,n)/\Mg c p q to.toList i j/\i+1<p.size/\j<q.size/\x+min y 1<i+j)
   (Q:=λr aA=>jD st aA/\((∃out r',r=(some out,r')/\Gd c p q out.toList)\/∃to i j m n,r=(none,to,i,j,m,n)/\Mg c p q to.toList i j/\i+1<p.size/\j<q.size/\x+1<i+j)) ?_ ?_ ?_) ?_)
  ·rintro y r fE _ hy ⟨e2,to,i,j,ma,na,rfl,m,hi,hj,hb⟩;exact ET O L (e2.kind.trans hk) Sp Sq sp sq hl m hi hj (λout r h=>⟨e2,.inl ⟨_,_,rfl,h⟩⟩) λt' i' j' m n h1 h2 h3 h4=>⟨⟨e2,.inr ⟨_,_,_,_,_,rfl,h1,h2,h3,by lia⟩⟩,⟨e2,_,_,_,_,_,rfl,h1,h2,h3,by lia⟩⟩
  ·rintro r fE ⟨e2,to,i,j,ma,na,rfl,m,hi,hj,hb⟩;exact⟨e2,.inr ⟨_,_,_,_,_,rfl,m,hi,hj,by lia⟩⟩
  ·exact⟨e,_,_,_,_,_,rfl,m,hi,hj,by lia⟩
  rintro r fE ⟨e2,⟨out,r',rfl,g⟩|⟨to,i,j,ma,na,rfl,m,hi,hj,hb⟩⟩
  ·exact UZ ⟨e2,_,_,rfl,g⟩
  dsimp only;refine UT (Yt (XE ⟨rfl,?_⟩));refine UT (Wg (VL
   (I:=λy r aA=>jD st aA/\∃to i j mg m n,r=(none,to,i,j,mg,m,n)/\Mg c p q to.toList i j/\i+1<p.size/\j<q.size/\x+1<i+j)
   (Q:=λr aA=>jD st aA/\((∃out r',r=(some out,r')/\Gd c p q out.toList)\/∃to i j mg m n,r=(none,to,i,j,mg,m,n)/\Mg c p q to.toList i j/\i+1<p.size/\j<q.size/\x+1<i+j)) ?_ ?_ ?_) ?_)
  ·rintro y r fE _ hy ⟨e2,to,i,j,mg,ma,na,rfl,m,hi,hj,hb⟩;show wpS (model prog w) A E s (if mg>1 then JW p q to i j (mg-1) ma na else JW p q to i j mg ma na) _ fE
   split <;> exact EU O L (e2.kind.trans hk) Sp Sq sp sq hl m hi hj (λout r h=>⟨e2.Er _,.inl ⟨_,_,rfl,h⟩⟩) λt' i' j' m n h1 h2 h3 h4=>⟨⟨e2.Er _,.inr ⟨_,_,_,_,_,_,rfl,h1,h2,h3,by lia⟩⟩,⟨e2.Er _,_,_,_,_,_,_,rfl,h1,h2,h3,by lia⟩⟩
  ·rintro r fE ⟨e2,to,i,j,mg,ma,na,rfl,m,hi,hj,hb⟩;exact⟨e2,.inr ⟨_,_,_,_,_,_,rfl,m,hi,hj,hb⟩⟩
  ·exact⟨e2,_,_,_,_,_,_,rfl,m,hi,hj,hb⟩
  rintro r fE ⟨e2,⟨out,r',rfl,g⟩|⟨to,i,j,mg,ma,na,rfl,m,hi,hj,hb⟩⟩
  ·exact UZ ⟨e2,_,_,rfl,g⟩
  dsimp only;refine UT (WZ (UZ ⟨e2.Er _,_,_,_,_,rfl,m,hi,hj,by lia⟩))
 ·rintro r aA ⟨e,to,i,j,mg,rfl,m,hi,hj,hb⟩
  exfalso
  rw[show max 0 (p.size+q.size)=p.size+q.size by lia]at hb
  lia
 ·exact⟨jD.refl st,_,_,_,_,rfl,m0,by simp at h2;lia,by simp at h1;lia,by lia⟩
 ·rintro r aA ⟨e,out,r',rfl,g⟩;exact UZ (h _ aA e g)
end
section
variable {c:UR->UR->Bool}{p q:Array UR}{t:List UR}{i j:Nat}
structure Mh (c:UR->UR->Bool)(p q:Array UR)(t:List UR)(i j:Nat):Prop where
 hi:i<=p.size
 hj:j<=q.size
 perm:t.Perm (p.toList.drop i++q.toList.drop j)
 jI:t.Pairwise (le c)
 ap:∀x∈t,∀k,k<i->le c (el p k) x
 aq:∀x∈t,∀k,k<j->le c (el q k) x
theorem nF {a:Array UR}{i:Nat}(h0:0<i)(h:i<=a.size):a.toList.drop (i-1)=el a (i-1)::a.toList.drop i:=by
 rw[vd (by lia),show i-1+1=i by lia]
theorem Mh.jM (m:Mh c p q t i j)(h0:0<i)(sp:SR c p 0 p.size)(hle:∀k,k<j->le c (el q k) (el p (i-1))):Mh c p q (el p (i-1)::t) (i-1) j where
 hi:=by have:=m.hi;lia
 hj:=m.hj
 perm:=by
  rw[nF h0 m.hi];exact m.perm.cons _
 jI:=VP.mpr ⟨λx hx=>m.ap x hx _ (by lia),m.jI⟩
 ap:=λx hx k hk=>by
  rcases UQ.mp hx with rfl|h
  ·exact sp k (i-1) (by lia) (by lia) (by have:=m.hi;lia)
  ·exact m.ap x h k (by lia)
 aq:=λx hx k hk=>by
  rcases UQ.mp hx with rfl|h
  ·exact hle k hk
  ·exact m.aq x h k hk
theorem Mh.jL (m:Mh c p q t i j)(h0:0<j)(sq:SR c q 0 q.size)(hle:∀k,k<i->le c (el p k) (el q (j-1))):Mh c p q (el q (j-1)::t) i (j-1) where
 hi:=m.hi
 hj:=by have:=m.hj;lia
 perm:=by
  rw[nF h0 m.hj];exact(m.perm.cons _).trans List.perm_middle.symm
 jI:=VP.mpr ⟨λx hx=>m.aq x hx _ (by lia),m.jI⟩
 ap:=λx hx k hk=>by
  rcases UQ.mp hx with rfl|h
  ·exact hle k hk
  ·exact m.ap x h k hk
 aq:=λx hx k hk=>by
  rcases UQ.mp hx with rfl|h
  ·exact sq k (j-1) (by lia) (by lia) (by have:=m.hj;lia)
  ·exact m.aq x h k (by lia)
theorem mR {a:Array UR}{i k:Nat}(h0:k<i)(h:i<=a.size):(a.toList.drop (i-(k+1))).take (k+1)=el a (i-(k+1))::(a.toList.drop (i-k)).take k:=by
 rw[vd (by lia),show i-(k+1)+1=i-k by lia,List.take_succ_cons]
theorem Mh.yb (m:Mh c p q t i j)(sp:SR c p 0 p.size):∀(k:Nat),k<=i->(∀x,i-k<=x->x<i->∀y,y<j->le c (el q y) (el p x))->Mh c p q ((p.toList.drop (i-k)).take k++t) (i-k) j
 |0,_,_=>by simpa using m
 |k+1,h,hle=>by
  have m':=Mh.yb m sp k (by lia) λx h1 h2=>hle x (by lia) h2
  rw[mR (by lia) m.hi,Ym]
  exact m'.jM (by lia) sp λy hy=>hle _ (by lia) (by lia) y hy
theorem Mh.ya (m:Mh c p q t i j)(sq:SR c q 0 q.size):∀(k:Nat),k<=j->(∀x,j-k<=x->x<j->∀y,y<i->le c (el p y) (el q x))->Mh c p q ((q.toList.drop (j-k)).take k++t) i (j-k)
 |0,_,_=>by simpa using m
 |k+1,h,hle=>by
  have m':=Mh.ya m sq k (by lia) λx h1 h2=>hle x (by lia) h2
  rw[mR (by lia) m.hj,Ym]
  exact m'.jL (by lia) sq λy hy=>hle _ (by lia) (by lia) y hy
theorem Mh.ic (m:Mh c p q t i j)(sp:SR c p 0 p.size){h:Nat}(hh:h<=i)(hle:∀x,h<=x->x<i->∀y,y<j->le c (el q y) (el p x)):Mh c p q ((p.toList.drop h).take (i-h)++t) h j:=by
 have m':=m.yb sp (i-h) (by lia) λx h1 h2=>hle x (by lia) h2
 rw[show i-(i-h)=h by lia]at m'
 exact m'
theorem Mh.ib (m:Mh c p q t i j)(sq:SR c q 0 q.size){h:Nat}(hh:h<=j)(hle:∀x,h<=x->x<j->∀y,y<i->le c (el p y) (el q x)):Mh c p q ((q.toList.drop h).take (j-h)++t) i h:=by
 have m':=m.ya sq (j-h) (by lia) λx h1 h2=>hle x (by lia) h2
 rw[show j-(j-h)=h by lia]at m'
 exact m'
theorem Mh.full (m:Mh c p q t 0 0):Gd c p q t:=⟨m.perm,m.jI⟩
theorem Jt (a b to:Array UR)(i j:Nat):(a.extract 0 i++b.extract 0 j++to.reverse).toList=(a.toList.drop 0).take (i-0)++((b.toList.drop 0).take (j-0)++to.toList.reverse):=by
 rw[Wc,Wc,bZ,bZ,Array.toList_reverse,VC]
theorem Mh.done {to:Array UR}(m:Mh c p q to.toList.reverse i j)(sp:SR c p 0 p.size)(sq:SR c q 0 q.size)(h:i=0\/j=0):Gd c p q (p.extract 0 i++q.extract 0 j++to.reverse).toList:=by
 rw[Jt];rcases h with rfl|rfl
 ·have m':=m.ib sq (h:=0) (U4 _) λx _ _ y hy=>by lia
  exact(m'.ic sp (h:=0) (U4 _) λx _ hx=>by lia).full
 ·have m':=m.ib sq (h:=0) (U4 _) λx _ hx=>by lia
  exact(m'.ic sp (h:=0) (U4 _) λx _ hx y hy=>by lia).full
theorem Mh.tail {to:Array UR}(O:b4 c)(m:Mh c p q to.toList.reverse i j)(sp:SR c p 0 p.size)(sq:SR c q 0 q.size)(h:j=1)(hf:c (el q 0) (el p 0)=true):Gd c p q (q.extract 0 j++p.extract 0 i++to.reverse).toList:=by
 rw[Jt];subst h;have m':=m.ic sp (h:=0) (U4 _) λx _ hx y hy=>by
  obtain rfl:y=0:=by lia
  exact O.trans (O.of_lt hf) (sp 0 x (by lia) (by lia) (by have:=m.hi;lia))
 exact(m'.ib sq (h:=0) (U4 _) λx _ _ y hy=>by lia).full
theorem iw (to:Array UR)(x:UR):(to.push x).toList.reverse=x::to.toList.reverse:=by
 rw[WX,YA];rfl
theorem vv (to a:Array UR)(h i:Nat):(to++(a.extract h i).reverse).toList.reverse=(a.toList.drop h).take (i-h)++to.toList.reverse:=by
 rw[Wc,YA,Array.toList_reverse,XO,bZ]
theorem Mh.start (sp:SR c p 0 p.size)(O:b4 c)(hp:0<p.size)(hl:∀y,y<q.size->c (el q y) (el p (p.size-1))=true):Mh c p q [el p (p.size-1)] (p.size-1) q.size:=by
 have m:Mh c p q [] p.size q.size:=⟨UO _,UO _,by rw[Yo (by simp),Yo (by simp)];exact .refl _,.nil,(λx hx=>by cases hx),(λx hx=>by cases hx)⟩
 exact m.jM hp sp λk hk=>O.of_lt (hl k hk)
end
abbrev RJ:=Nat×Nat×Array UR×Nat×Nat
abbrev RH:=Nat×Nat×Array UR×Nat×Nat×Nat
abbrev RP:=Nat×Nat×Array UR×Nat
def OP (p q t:Array UR)(i j mg m n:Nat):StateT Vi Sem (ForInStep (Option (Array UR)×RH)):=do
 let z <- elem' p (i-1)
 if (i-1==0)=true then pure (.done (some (p.extract 0 (i-1)++q.extract 0 j++(t.push z).reverse),i-1,j,t.push z,mg,m,n))
 else if (decide (m<7)&&decide (n<7))=true then pure (.done (none,i-1,j,t.push z,mg,m,n)) else pure (.yield (none,i-1,j,t.push z,mg,m,n))
def OQ (p q t:Array UR)(i j mg m n:Nat):StateT Vi Sem (ForInStep (Option (Array UR)×RH)):=do
 let y <- elem' q (j-1)
 if (j-1==1)=true then pure (.done (some (q.extract 0 (j-1)++p.extract 0 i++(t.push y).reverse),i,j-1,t.push y,mg,m,n))
 else do
  let x <- elem' p (i-1)
  let r <- b6 true x q 0 (j-1) (j-1-1)
  match r with
  |some h=>if j-1-h>0 then (if (h==1)=true then pure (.done (some (q.extract 0 h++p.extract 0 i++(t.push y++(q.extract h (j-1)).reverse).reverse),i,h,t.push y++(q.extract h (j-1)).reverse,mg,m,j-1-h))
    else if (h==0)=true then pure (.done (some (p.extract 0 i++q.extract 0 h++(t.push y++(q.extract h (j-1)).reverse).reverse),i,h,t.push y++(q.extract h (j-1)).reverse,mg,m,j-1-h))
    else OP p q (t.push y++(q.extract h (j-1)).reverse) i h mg m (j-1-h)) else OP p q (t.push y) i (j-1) mg m (j-1-h)
  |_=>pure (.done (some (p.extract 0 i++q.extract 0 (j-1)++(t.push y).reverse),i,j-1,t.push y,mg,m,n))
def Lf (p q t:Array UR)(i j mg m n:Nat):StateT Vi Sem (ForInStep (Option (Array UR)×RH)):=do
 modify λst=>b9 st mg
 let y <- elem' q (j-1)
 let r <- b6 false y p 0 i (i-1)
 match r with
 |some h=>if i-h>0 then (if (h==0)=true then pure (.done (some (p.extract 0 h++q.extract 0 j++(t++(p.extract h i).reverse).reverse),h,j,t++(p.extract h i).reverse,mg,i-h,n))
   else OQ p q (t++(p.extract h i).reverse) h j mg (i-h) n) else OQ p q t i j mg (i-h) n
 |_=>pure (.done (some (p.extract 0 i++q.extract 0 j++t.reverse),i,j,t,mg,m,n))
def SI (p q:Array UR)(s:Option (Array UR)×RH):StateT Vi Sem (ForInStep (Option (Array UR)×RH)):=if s.2.2.2.2.1>1 then Lf p q s.2.2.2.1 s.2.1 s.2.2.1 (s.2.2.2.2.1-1) s.2.2.2.2.2.1 s.2.2.2.2.2.2 else Lf p q s.2.2.2.1 s.2.1 s.2.2.1 s.2.2.2.2.1 s.2.2.2.2.2.1 s.2.2.2.2.2.2
def OO (p q t:Array UR)(mg i j m:Nat):StateT Vi Sem (ForInStep (Option (Array UR)×RJ)):=do
 let x <- elem' p (i-1)
 if (i-1==0)=true then pure (.done (some (p.extract 0 (i-1)++q.extract 0 j++(t.push x).reverse),i-1,j,t.push x,m+1,0))
 else if m+1 >= mg then pure (.done (none,i-1,j,t.push x,m+1,0)) else pure (.yield (none,i-1,j,t.push x,m+1,0))
def ON (p q t:Array UR)(mg i j n:Nat):StateT Vi Sem (ForInStep (Option (Array UR)×RJ)):=do
 let y <- elem' q (j-1)
 if (j-1==1)=true then pure (.done (some (q.extract 0 (j-1)++p.extract 0 i++(t.push y).reverse),i,j-1,t.push y,0,n+1))
 else if n+1 >= mg then pure (.done (none,i,j-1,t.push y,0,n+1)) else pure (.yield (none,i,j-1,t.push y,0,n+1))
def QG (p q t:Array UR)(mg i j m n:Nat):StateT Vi Sem (ForInStep (Option (Array UR)×RJ)):=do
 let y <- elem' q (j-1)
 let x <- elem' p (i-1)
 let r <- lt' y x
 match r with
 |some EZ=>if EZ=true then OO p q t mg i j m else ON p q t mg i j n
 |_=>pure (.done (some (p.extract 0 i++q.extract 0 j++t.reverse),i,j,t,m,n))
def QF (p q:Array UR)(s:Option (Array UR)×RP):StateT Vi Sem (ForInStep (Option (Array UR)×RP)):=do
 let s1 <- forIn [:p.size+q.size] ((none,s.2.1,s.2.2.1,s.2.2.2.1,0,0):Option (Array UR)×RJ) λ_ r=>QG p q r.2.2.2.1 s.2.2.2.2 r.2.1 r.2.2.1 r.2.2.2.2.1 r.2.2.2.2.2
 match s1.1 with
 |some r=>pure (.done (some r,s1.2.1,s1.2.2.1,s1.2.2.2.1,s.2.2.2.2))
 |none=>do
  liftM (rule "list.sort.gallop")
  let s2 <- forIn [:p.size+q.size] ((none,s1.2.1,s1.2.2.1,s1.2.2.2.1,s.2.2.2.2+1,s1.2.2.2.2.1,s1.2.2.2.2.2):Option (Array UR)×RH) λ_ r=>SI p q r
  match s2.1 with
  |some r=>pure (.done (some r,s2.2.1,s2.2.2.1,s2.2.2.2.1,s2.2.2.2.2.1))
  |none=>do
   modify λst=>b9 st (s2.2.2.2.2.1+1)
   pure (.yield (none,s2.2.1,s2.2.2.1,s2.2.2.2.1,s2.2.2.2.2.1+1))
theorem qo (p q:Array UR):iG p q=(do
  liftM (rule "list.sort.merge-hi")
  let y <- elem' p (p.size-1)
  if (p.size-1==0)=true then pure (p.extract 0 (p.size-1)++q.extract 0++#[y].reverse)
  else if (q.size==1)=true then pure (q.extract 0++p.extract 0 (p.size-1)++#[y].reverse)
  else do
   let st <- get
   let s <- forIn [:p.size+q.size] ((none,p.size-1,q.size,#[y],gallopOf st):Option (Array UR)×RP) λ_ s=>QF p q s
   match s.1 with
   |some r=>pure r
   |none=>liftM (unsupported "internal:list.sort.merge-bound" : Sem (Array UR))):=by
 rw[qm];dsimp only;refine congrArg (bind _) (funext λ_=>?_);refine congrArg (bind _) (funext λy=>?_);refine congrArg (ite _ _) (congrArg (ite _ _) ?_);refine congrArg (bind _) (funext λy=>?_);refine congr (congrArg bind (congrArg _ (funext λ_=>funext λs=>?_))) (funext λs=>?_)
 ·refine congr (congrArg bind (congrArg _ (funext λ_=>funext λs=>?_))) (funext λs=>?_)
  ·rfl
  ·cases s.1
   ·refine congrArg (bind _) (funext λ_=>?_);refine congr (congrArg bind (congrArg _ (funext λ_=>funext λs=>?_))) (funext λs=>?_)
    ·rfl
    ·cases s.1 <;> rfl
   ·rfl
 ·cases s.1 <;> rfl
section
variable {prog:UP}{w:U1}{A:VO}{E:UK->UL->Prop}{s:UL}{κ:Xb}{c:UR->UR->Bool}{S:UR->Prop}{p q:Array UR}
theorem xK {st:Vi}{Q:ForInStep (Option (Array UR)×RH)->Vi->Prop}{t:Array UR}{i j mg m n:Nat}(sp:SR c p 0 p.size)(sq:SR c q 0 q.size)(m3:Mh c p q t.toList.reverse i j)(hi:0<i)(g3:∀k,k<j->le c (el q k) (el p (i-1)))
  (hd:∀out r,Gd c p q out.toList->Q (.done (some out,r)) st) (hn:∀t' m n,Mh c p q t'.toList.reverse (i-1) j->0<i-1->Q (.done (none,i-1,j,t',mg,m,n)) st/\Q (.yield (none,i-1,j,t',mg,m,n)) st):wpS (model prog w) A E s (OP p q t i j mg m n) Q st:=by
 have fO:=m3.hi;refine UT (aM (by lia) ?_)
 have m4:Mh c p q (t.push (el p (i-1))).toList.reverse (i-1) j:=by
  rw[iw];exact m3.jM hi sp g3
 by_cases e5:(i-1==0)=true
 ·rw[if_pos e5];exact UZ (hd _ _ (m4.done sp sq (.inl (by simpa using e5))))
 rw[if_neg e5];have h5:i-1≠0:=by simpa using e5
 obtain⟨h6,h7⟩:=hn (t.push (el p (i-1))) m n m4 (by lia)
 split
 ·exact UZ h6
 ·exact UZ h7
theorem xM {st:Vi}{Q:ForInStep (Option (Array UR)×RH)->Vi->Prop}{t:Array UR}{i j mg m n:Nat}(O:b4 c)(L:fC prog w A E s κ c S)(hk:kindOf st=κ)(Sp:∀i,i<p.size->S (el p i))(Sq:∀i,i<q.size->S (el q i))(sp:SR c p 0 p.size)(sq:SR c q 0 q.size)(hf:c (el q 0) (el p 0)=true)(m1:Mh c p q t.toList.reverse i j)(hi:0<i)(hj:1<j)(g1:∀x,x<i->le c (el p x) (el q (j-1)))
  (hd:∀out r,Gd c p q out.toList->Q (.done (some out,r)) st) (hn:∀t' j' m n,Mh c p q t'.toList.reverse (i-1) j'->0<i-1->1<j'->j'<j->Q (.done (none,i-1,j',t',mg,m,n)) st/\Q (.yield (none,i-1,j',t',mg,m,n)) st):wpS (model prog w) A E s (OQ p q t i j mg m n) Q st:=by
 have mi:=m1.hi;have mj:=m1.hj;refine UT (aM (by lia) ?_)
 have m2:Mh c p q (t.push (el q (j-1))).toList.reverse i (j-1):=by
  rw[iw];exact m1.jL (by lia) sq g1
 by_cases e3:(j-1==1)=true
 ·rw[if_pos e3];exact UZ (hd _ _ (m2.tail O sp sq (by simpa using e3) hf))
 rw[if_neg e3];have h3:j-1≠1:=by simpa using e3
 refine UT (aM (by lia) (UT (du O L hk (Sp _ (by lia)) (λx hx=>Sq _ (by lia)) (by lia) (λa b h1 h2 h3=>sq a b (by lia) h2 (by lia)) (by lia) λh k1 k2 k3=>?_)))
 have g2:∀x,x<h->c (el q x) (el p (i-1))=true:=λx hx=>by
  have:=k2 x hx;unfold dI at this;rw[if_pos rfl,V8]at this;exact this
 have g4:∀x,h<=x->x<j-1->le c (el p (i-1)) (el q x):=λx h1 h2=>by
  have:=k3 x h1 h2;unfold dI at this;rw[if_pos rfl,V8]at this;exact this
 have hh:0<h:=by
  rcases Nat.eq_zero_or_pos h with z|z
  ·subst z;have h2:=O.trans (sp 0 (i-1) (by lia) (by lia) (by lia)) (g4 0 (UO _) (by lia))
   exact absurd (hf.symm.trans h2) (by simp)
  ·exact z
 dsimp only
 by_cases zW:j-1-h>0
 ·rw[if_pos zW];have m3:Mh c p q (t.push (el q (j-1))++(q.extract h (j-1)).reverse).toList.reverse i h:=by
   rw[vv];exact m2.ib sq k1 λx h1 h2 y hy=>O.trans (sp y (i-1) (by lia) (by lia) (by lia)) (g4 x h1 h2)
  by_cases e4:(h==1)=true
  ·rw[if_pos e4];exact UZ (hd _ _ (m3.tail O sp sq (by simpa using e4) hf))
  rw[if_neg e4];have h4:h≠1:=by simpa using e4
  rw[if_neg (by simp;lia)]
  exact xK sp sq m3 hi (λk hk=>O.of_lt (g2 k hk)) hd λt' m n h1 h2=>hn t' _ m n h1 h2 (by lia) (by lia)
 ·rw[if_neg zW];exact xK sp sq m2 hi (λk hk=>O.of_lt (g2 k (by lia))) hd λt' m n h1 h2=>hn t' _ m n h1 h2 (by lia) (by lia)
theorem EW {st:Vi}{Q:ForInStep (Option (Array UR)×RH)->Vi->Prop}{t:Array UR}{i j mg m n:Nat}(O:b4 c)(L:fC prog w A E s κ c S)(hk:kindOf st=κ)(Sp:∀i,i<p.size->S (el p i))(Sq:∀i,i<q.size->S (el q i))(sp:SR c p 0 p.size)(sq:SR c q 0 q.size)(hf:c (el q 0) (el p 0)=true)(m0:Mh c p q t.toList.reverse i j)(hi:0<i)(hj:1<j)
  (hd:∀out r,Gd c p q out.toList->Q (.done (some out,r)) (b9 st mg)) (hn:∀t' i' j' m n,Mh c p q t'.toList.reverse i' j'->0<i'->1<j'->i'+j'<i+j->Q (.done (none,i',j',t',mg,m,n)) (b9 st mg)/\Q (.yield (none,i',j',t',mg,m,n)) (b9 st mg)):wpS (model prog w) A E s (Lf p q t i j mg m n) Q st:=by
 have mi:=m0.hi;have mj:=m0.hj;refine UT (WZ (UT (aM (by lia) (UT (du O L hk (Sq _ (by lia)) (λx hx=>Sp _ (by lia)) (by lia) (λa b h1 h2 h3=>sp a b (by lia) h2 (by lia)) (by lia) λh k1 k2 k3=>?_)))))
 have g0:∀x,x<h->le c (el p x) (el q (j-1)):=λx hx=>by
  have:=k2 x hx;unfold dI at this;rw[if_neg (by simp),XB,V8]at this
  exact this
 have g5:∀x,h<=x->x<i->le c (el q (j-1)) (el p x):=λx h1 h2=>by
  have:=k3 x h1 h2;unfold dI at this;rw[if_neg (by simp),YH,V8]at this
  exact O.of_lt this
 dsimp only
 by_cases zW:i-h>0
 ·rw[if_pos zW];have m1:Mh c p q (t++(p.extract h i).reverse).toList.reverse h j:=by
   rw[vv];exact m0.ic sp k1 λx h1 h2 y hy=>O.trans (sq y (j-1) (by lia) (by lia) (by lia)) (g5 x h1 h2)
  by_cases e1:(h==0)=true
  ·rw[if_pos e1];exact UZ (hd _ _ (m1.done sp sq (.inl (by simpa using e1))))
  rw[if_neg e1];have wU:h≠0:=by simpa using e1
  exact xM O L hk Sp Sq sp sq hf m1 (by lia) hj g0 hd λt' j' m n h1 h2 h3 h4=>hn t' _ j' m n h1 h2 h3 (by lia)
 ·rw[if_neg zW];exact xM O L hk Sp Sq sp sq hf m0 hi hj (λx hx=>g0 x (by lia)) hd λt' j' m n h1 h2 h3 h4=>hn t' _ j' m n h1 h2 h3 (by lia)
theorem EV {st:Vi}{Q:ForInStep (Option (Array UR)×RJ)->Vi->Prop}{t:Array UR}{i j mg ma na:Nat}(O:b4 c)(L:fC prog w A E s κ c S)(hk:kindOf st=κ)(Sp:∀i,i<p.size->S (el p i))(Sq:∀i,i<q.size->S (el q i))(sp:SR c p 0 p.size)(sq:SR c q 0 q.size)(hf:c (el q 0) (el p 0)=true)(m:Mh c p q t.toList.reverse i j)(hi:0<i)(hj:1<j)
  (hd:∀out r,Gd c p q out.toList->Q (.done (some out,r)) st) (hn:∀t' i' j' m n,Mh c p q t'.toList.reverse i' j'->0<i'->1<j'->i'+j'<i+j->Q (.done (none,i',j',t',m,n)) st/\Q (.yield (none,i',j',t',m,n)) st):wpS (model prog w) A E s (QG p q t mg i j ma na) Q st:=by
 have fO:=m.hi;have Uw:=m.hj;refine UT (aM (by lia) (UT (aM (by lia) (UT (L _ _ st _ (Sq _ (by lia)) (Sp _ (by lia)) hk ?_)))))
 dsimp only;cases hc:c (el q (j-1)) (el p (i-1))with
 |true =>
  rw[if_pos rfl];refine UT (aM (by lia) ?_)
  have m1:Mh c p q (t.push (el p (i-1))).toList.reverse (i-1) j:=by
   rw[iw];exact m.jM hi sp λk hk=>O.trans (sq k (j-1) (by lia) (by lia) (by lia)) (O.of_lt hc)
  by_cases e3:(i-1==0)=true
  ·rw[if_pos e3];exact UZ (hd _ _ (m1.done sp sq (.inl (by simpa using e3))))
  rw[if_neg e3];have h3:i-1≠0:=by simpa using e3
  obtain⟨h6,h7⟩:=hn _ _ _ (ma+1) 0 m1 (by lia) hj (by lia)
  split
  ·exact UZ h6
  ·exact UZ h7
 |false =>
  rw[if_neg (by simp)]
  refine UT (aM (by lia) ?_)
  have m1:Mh c p q (t.push (el q (j-1))).toList.reverse i (j-1):=by
   rw[iw];exact m.jL (by lia) sq λk hk=>O.trans (sp k (i-1) (by lia) (by lia) (by lia)) (show le c (el p (i-1)) (el q (j-1)) from hc)
  by_cases e3:(j-1==1)=true
  ·rw[if_pos e3];exact UZ (hd _ _ (m1.tail O sp sq (by simpa using e3) hf))
  rw[if_neg e3];have h3:j-1≠1:=by simpa using e3
  obtain⟨h6,h7⟩:=hn _ _ _ 0 (na+1) m1 hi (by lia) (by lia)
  split
  ·exact UZ h6
  ·exact UZ h7
theorem rR (O:b4 c)(L:fC prog w A E s κ c S){Q:Array UR->Vi->Prop}{st:Vi}(hk:kindOf st=κ)(Sp:∀i,i<p.size->S (el p i))(Sq:∀i,i<q.size->S (el q i))(sp:SR c p 0 p.size)(sq:SR c q 0 q.size)
  (hp:0<p.size) (hq:0<q.size) (hf:c (el q 0) (el p 0)=true) (hl:∀y,y<q.size->c (el q y) (el p (p.size-1))=true) (h:∀to aA,jD st aA->Gd c p q to.toList->Q to aA) :
  wpS (model prog w) A E s (iG p q) Q st:=by
 rw[qo];refine UT (Yt (XE ⟨rfl,?_⟩));refine UT (aM (by lia) ?_)
 have m0:Mh c p q (#[el p (p.size-1)]:Array UR).toList.reverse (p.size-1) q.size:=Mh.start sp O hp hl
 by_cases h1:(p.size-1==0)=true
 ·rw[if_pos h1];exact UZ (h _ st (jD.refl st) (m0.done sp sq (.inl (by simpa using h1))))
 rw[if_neg h1];have wU:p.size-1≠0:=by simpa using h1
 by_cases h2:(q.size==1)=true
 ·rw[if_pos h2];exact UZ (h _ st (jD.refl st) (m0.tail O sp sq (by simpa using h2) hf))
 rw[if_neg h2];have zZ:q.size≠1:=by simpa using h2
 refine UT (X9 ?_);refine UT (Wg (VL
  (I:=λx r aA=>jD st aA/\∃i j to mg,r=(none,i,j,to,mg)/\Mh c p q to.toList.reverse i j/\0<i/\1<j/\i+j+x<p.size+q.size)
  (Q:=λr aA=>jD st aA/\∃out r',r=(some out,r')/\Gd c p q out.toList) ?_ ?_ ?_) ?_)
 ·rintro x r aA _ hx ⟨e,i,j,to,mg,rfl,m,hi,hj,hb⟩;unfold QF;dsimp only;refine UT (Wg (VL
   (I:=λy r aA=>jD st aA/\∃i j to m n,r=(none,i,j,to,m,n)/\Mh c p q to.toList.reverse i j/\0<i/\1<j/\i+j+x+min y 1<p.size+q.size)
   (Q:=λr aA=>jD st aA/\((∃out r',r=(some out,r')/\Gd c p q out.toList)\/∃i j to m n,r=(none,i,j,to,m,n)/\Mh c p q to.toList.reverse i j/\0<i/\1<j/\i+j+x+1<p.size+q.size)) ?_ ?_ ?_) ?_)
  ·rintro y r fE _ hy ⟨e2,i,j,to,ma,na,rfl,m,hi,hj,hb⟩;exact EV O L (e2.kind.trans hk) Sp Sq sp sq hf m hi hj (λout r h=>⟨e2,.inl ⟨_,_,rfl,h⟩⟩) λt' i' j' m n h1 h2 h3 h4=>⟨⟨e2,.inr ⟨_,_,_,_,_,rfl,h1,h2,h3,by lia⟩⟩,⟨e2,_,_,_,_,_,rfl,h1,h2,h3,by lia⟩⟩
  ·rintro r fE ⟨e2,i,j,to,ma,na,rfl,m,hi,hj,hb⟩;exact⟨e2,.inr ⟨_,_,_,_,_,rfl,m,hi,hj,by lia⟩⟩
  ·exact⟨e,_,_,_,_,_,rfl,m,hi,hj,by lia⟩
  rintro r fE ⟨e2,⟨out,r',rfl,g⟩|⟨i,j,to,ma,na,rfl,m,hi,hj,hb⟩⟩
  ·exact UZ ⟨e2,_,_,rfl,g⟩
  dsimp only;refine UT (Yt (XE ⟨rfl,?_⟩));refine UT (Wg (VL
   (I:=λy r aA=>jD st aA/\∃i j to mg m n,r=(none,i,j,to,mg,m,n)/\Mh c p q to.toList.reverse i j/\0<i/\1<j/\i+j+x+1<p.size+q.size)
   (Q:=λr aA=>jD st aA/\((∃out r',r=(some out,r')/\Gd c p q out.toList)\/∃i j to mg m n,r=(none,i,j,to,mg,m,n)/\Mh c p q to.toList.reverse i j/\0<i/\1<j/\i+j+x+1<p.size+q.size)) ?_ ?_ ?_) ?_)
  ·rintro y r fE _ hy ⟨e2,i,j,to,mg,ma,na,rfl,m,hi,hj,hb⟩;show wpS (model prog w) A E s (if mg>1 then Lf p q to i j (mg-1) ma na else Lf p q to i j mg ma na) _ fE
   split <;> exact EW O L (e2.kind.trans hk) Sp Sq sp sq hf m hi hj (λout r h=>⟨e2.Er _,.inl ⟨_,_,rfl,h⟩⟩) λt' i' j' m n h1 h2 h3 h4=>⟨⟨e2.Er _,.inr ⟨_,_,_,_,_,_,rfl,h1,h2,h3,by lia⟩⟩,⟨e2.Er _,_,_,_,_,_,_,rfl,h1,h2,h3,by lia⟩⟩
  ·rintro r fE ⟨e2,i,j,to,mg,ma,na,rfl,m,hi,hj,hb⟩;exact⟨e2,.inr ⟨_,_,_,_,_,_,rfl,m,hi,hj,hb⟩⟩
  ·exact⟨e2,_,_,_,_,_,_,rfl,m,hi,hj,hb⟩
  rintro r fE ⟨e2,⟨out,r',rfl,g⟩|⟨i,j,to,mg,ma,na,rfl,m,hi,hj,hb⟩⟩
  ·exact UZ ⟨e2,_,_,rfl,g⟩
  dsimp only;refine UT (WZ (UZ ⟨e2.Er _,_,_,_,_,rfl,m,hi,hj,by lia⟩))
 ·rintro r aA ⟨e,i,j,to,mg,rfl,m,hi,hj,hb⟩
  exfalso
  rw[show max 0 (p.size+q.size)=p.size+q.size by lia]at hb
  lia
 ·exact⟨jD.refl st,_,_,_,_,rfl,m0,by lia,by lia,by lia⟩
 ·rintro r aA ⟨e,out,r',rfl,g⟩;exact UZ (h _ aA e g)
end
section
variable {c:UR->UR->Bool}{a b:Array UR}
structure Rg (a b:Array UR)(lo hi:Nat):Prop where
 perm:b.Perm a
 out:∀k,(k<lo\/hi<=k)->el b k=el a k
theorem Rg.refl {lo hi:Nat}:Rg a a lo hi:=⟨Y3 _,λ_ _=>rfl⟩
theorem Rg.trans {d:Array UR}{lo hi:Nat}(x:Rg a b lo hi)(y:Rg b d lo hi):Rg a d lo hi:=⟨y.perm.trans x.perm,λk h=>(y.out k h).trans (x.out k h)⟩
theorem Rg.mono {lo hi Ed fO:Nat}(x:Rg a b lo hi)(h1:Ed<=lo)(h2:hi<=fO):Rg a b Ed fO:=⟨x.perm,λk h=>x.out k (by lia)⟩
theorem Rg.size {lo hi:Nat}(x:Rg a b lo hi):b.size=a.size:=x.perm.size_eq
theorem SR.congr {lo hi:Nat}(h:SR c a lo hi)(e:∀k,lo<=k->k<hi->el b k=el a k):SR c b lo hi:=λi j h1 h2 h3=>by
 rw[e i h1 (by lia),e j (by lia) h3]
 exact h i j h1 h2 h3
def NI (c:UR->UR->Bool)(a:Array UR)(lo hi:Nat):Prop:=∀i j,lo<=i->i<=j->j<hi->le c (el a j) (el a i)
theorem bQ {i j:Nat}(hj:j<=a.size)(k:Nat):el (mirror a i j ((j-i) / 2)) k=if i<=k/\k<j then el a (i+j-1-k) else el a k:=by
 have e:=getElem?_mirror_all (i:=i) hj k
 by_cases h:i<=k/\k<j
 ·rw[if_pos h]at e ⊢
  exact dF e
 ·rw[if_neg h]at e ⊢
  exact dF e
theorem eU {i j:Nat}(hj:j<=a.size):Rg a (mirror a i j ((j-i) / 2)) i j:=⟨mirror_perm _ _ _ _,λk h=>by rw[bQ hj,if_neg (by lia)]⟩
theorem m7 {i j:Nat}(hj:j<=a.size)(h:NI c a i j):SR c (mirror a i j ((j-i) / 2)) i j:=λx y h1 h2 h3=>by
 rw[bQ hj,bQ hj,if_pos (by lia),if_pos (by lia)]
 exact h _ _ (by lia) (by lia) (by lia)
theorem jj {lo i j:Nat}(OE:lo<=i)(hj:j<=a.size)(h:NI c a lo j)(he:∀x y,i<=x->x<j->i<=y->y<j->le c (el a x) (el a y)):NI c (mirror a i j ((j-i) / 2)) lo j:=λx y h1 h2 h3=>by
 rw[bQ hj,bQ hj]
 by_cases hx:i<=x/\x<j
 ·rw[if_pos hx,if_pos (by lia)]
  exact he _ _ (by lia) (by lia) (by lia) (by lia)
 ·rw[if_neg hx]
  by_cases hy:i<=y/\y<j
  ·rw[if_pos hy];exact h _ _ (by lia) (by lia) (by lia)
  ·rw[if_neg hy];exact h _ _ h1 h2 h3
theorem SR.snoc {lo n:Nat}(O:b4 c)(h:SR c a lo (lo+n))(h1:0<n)(hn:le c (el a (lo+n-1)) (el a (lo+n))):SR c a lo (lo+(n+1)):=λi j h2 h3 h4=>by
 by_cases hj:j<lo+n
 ·exact h i j h2 h3 hj
 ·obtain rfl:j=lo+n:=by lia
  by_cases hi:i<lo+n
  ·exact O.trans (h i (lo+n-1) h2 (by lia) (by lia)) hn
  ·obtain rfl:i=lo+n:=by lia
   exact O.refl _
theorem NI.snoc {lo n:Nat}(O:b4 c)(h:NI c a lo (lo+n))(h1:0<n)(hn:le c (el a (lo+n)) (el a (lo+n-1))):NI c a lo (lo+(n+1)):=λi j h2 h3 h4=>by
 by_cases hj:j<lo+n
 ·exact h i j h2 h3 hj
 ·obtain rfl:j=lo+n:=by lia
  by_cases hi:i<lo+n
  ·exact O.trans hn (h i (lo+n-1) h2 (by lia) (by lia))
  ·obtain rfl:i=lo+n:=by lia
   exact O.refl _
theorem SR.one {lo:Nat}(O:b4 c):SR c a lo (lo+1):=λi j h1 h2 h3=>by
 obtain rfl:i=j:=by lia
 exact O.refl _
end
structure jB (κ:Xb)(a₀:Array UR)(st:Vi):Prop where
 kind:kindOf st=κ
 fail:Xs st=none
 perm:(Vo st).Perm a₀
section
variable {prog:UP}{w:U1}{A:VO}{E:UK->UL->Prop}{s:UL}{κ:Xb}{c:UR->UR->Bool}{a₀:Array UR}
theorem jB.size {st:Vi}(h:jB κ a₀ st):(Vo st).size=a₀.size:=h.perm.size_eq
theorem jB.mem {st:Vi}(h:jB κ a₀ st){i:Nat}(hi:i<a₀.size):el (Vo st) i∈a₀.toList:=by
 have h1:i<(Vo st).size:=by rw[h.size];exact hi
 refine(W6.mp h.perm).mem_iff.mp ?_;have:=iS h1;rw[<- Ve]at this;exact Vx this
theorem jB.set {st:Vi}{b:Array UR}{lo hi:Nat}(h:jB κ a₀ st)(r:Rg (Vo st) b lo hi):jB κ a₀ (VZ st b):=⟨h.kind,h.fail,r.perm.trans h.perm⟩
theorem nS (L:fC prog w A E s κ c (·∈a₀.toList)){st:Vi}{i j:Nat}{Q:Option Bool->Vi->Prop}(h:jB κ a₀ st)(hi:i<a₀.size)(hj:j<a₀.size)(q:Q (some (c (el (Vo st) i) (el (Vo st) j))) st):
  wpS (model prog w) A E s (ltAt' i j) Q st:=by
 rw[ltAt'_eq];refine UT (X9 ?_);exact UT (aM (by rw[h.size];exact hi) (UT (aM (by rw[h.size];exact hj) (L _ _ st Q (h.mem hi) (h.mem hj) h.kind q))))
theorem hZ (L:fC prog w A E s κ c (·∈a₀.toList)){st:Vi}{b:Array UR}{i j lo hi:Nat}{Q:Option Bool->Vi->Prop}(h:jB κ a₀ st)(R:Rg (Vo st) b lo hi)(hi:i<a₀.size)(hj:j<a₀.size)(q:Q (some (c (el b i) (el b j))) (VZ st b)):
  wpS (model prog w) A E s (ltAt' i j) Q (VZ st b):=nS L (h.set R) hi hj q
theorem hV {st:Vi}{i j:Nat}{Q:Unit->Vi->Prop}(q:Q () (VZ st (mirror (Vo st) i j ((j-i) / 2)))):wpS (model prog w) A E s (reverseSlice' i j) Q st:=by
 rw[reverseSlice'_eq];exact WZ q
theorem xN (O:b4 c)(L:fC prog w A E s κ c (·∈a₀.toList)){st:Vi}{lo eT:Nat}{Q:Option Nat->Vi->Prop}(h0:jB κ a₀ st)(h1:1<=eT)(hn:lo+eT<=a₀.size)
  (h:∀n b,1<=n->n<=eT->Rg (Vo st) b lo (lo+eT)->SR c b lo (lo+n)->Q (some n) (VZ st b)):wpS (model prog w) A E s (countRun' lo eT) Q st:=by
 rw[countRun'_eq];dsimp only;refine UT (Wg (VL (I:=λx r aA=>aA=st/\∃n,r=(none,n)/\n=x/\SR c (Vo st) lo (lo+n))
  (Q:=λr aA=>aA=st/\∃n,r=(none,n)/\1<=n/\n<=eT/\SR c (Vo st) lo (lo+n)/\(n=eT\/(n<eT/\c (el (Vo st) (lo+n)) (el (Vo st) (lo+n-1))=true))) ?_ ?_ ?_) ?_)
 ·rintro x r aA GF hx ⟨rfl,n,rfl,rfl,hs⟩;dsimp only;refine UT (nS L h0 (by lia) (by lia) ?_)
  dsimp only;cases hc:c (el (Vo aA) (lo+n)) (el (Vo aA) (lo+n-1))with
  |true =>
   rw[if_pos rfl];exact UZ ⟨rfl,n,rfl,GF,by lia,hs,.inr ⟨by lia,hc⟩⟩
  |false =>
   rw[if_neg (by simp)]
   exact UZ ⟨rfl,n+1,rfl,rfl,hs.snoc O GF hc⟩
 ·rintro r aA ⟨rfl,n,rfl,hx,hs⟩;exact⟨rfl,n,rfl,by lia,by lia,hs,.inl (by lia)⟩
 ·exact⟨rfl,1,rfl,rfl,SR.one O⟩
 rintro r aA ⟨e0,n,rfl,Ox,Ms,hs,hc⟩;rw[e0];dsimp only
 by_cases Ov:(n==eT)=true
 ·rw[if_pos Ov];exact UZ (h n (Vo st) Ox Ms Rg.refl hs)
 rw[if_neg Ov];have So:n≠eT:=by simpa using Ov
 have hc:c (el (Vo st) (lo+n)) (el (Vo st) (lo+n-1))=true:=by
  rcases hc with q|q
  ·lia
  ·exact q.2
 refine(λ(key:∀b,Rg (Vo st) b lo (lo+eT)->NI c b lo (lo+(n+1))->wpS (model prog w) A E s ?cont Q (VZ st b))=>?main) ?key
 case main =>
  by_cases h2:n>1
  ·rw[if_pos h2];refine UT (nS L h0 (by lia) (by lia) ?_)
   dsimp only;cases hr:c (el (Vo st) lo) (el (Vo st) (lo+n-1))with
   |true =>
    rw[if_pos rfl];exact UZ (h n (Vo st) Ox Ms Rg.refl hs)
   |false =>
    rw[if_neg (by simp)]
    refine UT (hV ?_);have hz:lo+n<=(Vo st).size:=by have:=h0.size;lia
    have R0:Rg (Vo st) (mirror (Vo st) lo (lo+n) ((lo+n-lo) / 2)) lo (lo+eT):=(eU hz).mono (UO _) (by lia)
    have all:∀u v,lo<=u->u<lo+n->lo<=v->v<lo+n->le c (el (Vo st) u) (el (Vo st) v):=λu v h1 h2 h3 h4 =>
     O.trans (hs u (lo+n-1) h1 (by lia) (by lia)) (O.trans hr (hs lo v (UO _) h3 h4))
    have N0:NI c (mirror (Vo st) lo (lo+n) ((lo+n-lo) / 2)) lo (lo+(n+1)):=by
     refine NI.snoc O (jj (UO _) hz (λu v h1 h2 h3=>all v u (by lia) (by lia) h1 (by lia)) λu v h1 h2 h3 h4=>all u v h1 h2 h3 h4) (by lia) ?_
     rw[bQ hz,bQ hz,if_neg (by lia),if_pos (by lia)]
     exact O.trans (O.of_lt hc) (all _ _ (by lia) (by lia) (by lia) (by lia))
    exact key _ R0 N0
  ·rw[if_neg h2];have N0:NI c (Vo st) lo (lo+(n+1)):=NI.snoc O (λu v h1 h2 h3=>by
    obtain rfl:u=v:=by lia
    exact O.refl _) (by lia) (O.of_lt hc)
   show wpS _ _ _ _ _ Q (VZ st (Vo st));exact key _ Rg.refl N0
 case key =>
  intro b0 R0 N0;refine UT (Yt (XE ⟨rfl,?_⟩));refine UT (Wg (VL (I:=λx r aA=>∃b n jP,aA=VZ st b/\r=(none,n,jP)/\n=x/\Rg (Vo st) b lo (lo+eT)/\NI c b lo (lo+n)/\jP<n/\(∀u v,lo+n-1-jP<=u->u<lo+n->lo+n-1-jP<=v->v<lo+n->le c (el b u) (el b v)))
   (Q:=λr aA=>∃b n jP,aA=VZ st b/\r=(none,n,jP)/\1<=n/\n<=eT/\Rg (Vo st) b lo (lo+eT)/\NI c b lo (lo+n)/\jP<n/\(∀u v,lo+n-1-jP<=u->u<lo+n->lo+n-1-jP<=v->v<lo+n->le c (el b u) (el b v))) ?_ ?_ ?_) ?_)
  ·rintro x r aA GF hx ⟨b,n',jP,rfl,rfl,rfl,R,N,hq,he⟩;dsimp only;refine UT (hZ L h0 R (by lia) (by lia) ?_)
   dsimp only;cases mE:c (el b (lo+n')) (el b (lo+n' - 1))with
   |true =>
    rw[if_pos rfl]
    by_cases zU:jP>0
    ·rw[if_pos zU];refine UT (hV (UZ ?_));have hz:lo+n'<=b.size:=by have:=R.size;have:=h0.size;lia
     refine⟨mirror b (lo+n' - (jP+1)) (lo+n') ((lo+n' - (lo+n' - (jP+1))) / 2),n'+1,0,rfl,rfl,rfl,R.trans ((eU hz).mono (by lia) (by lia)),?_,by lia,?_⟩
     ·refine NI.snoc O (jj (by lia) hz N λu v h1 h2 h3 h4=>he u v (by lia) h2 (by lia) h4) (by lia) ?_
      rw[bQ hz,bQ hz,if_neg (by lia),if_pos (by lia)]
      exact O.trans (O.of_lt mE) (he _ _ (by lia) (by lia) (by lia) (by lia))
     ·intro u v h1 h2 h3 h4;obtain rfl:u=v:=by lia
      exact O.refl _
    ·rw[if_neg zU];refine UZ ⟨b,n'+1,0,rfl,rfl,rfl,R,N.snoc O (by lia) (O.of_lt mE),by lia,?_⟩
     intro u v h1 h2 h3 h4;obtain rfl:u=v:=by lia
     exact O.refl _
   |false =>
    rw[if_neg (by simp)]
    refine UT (hZ L h0 R (by lia) (by lia) ?_)
    dsimp only;cases pj:c (el b (lo+n' - 1)) (el b (lo+n'))with
    |true =>
     rw[if_pos rfl];exact UZ ⟨b,n',jP,rfl,rfl,by lia,by lia,R,N,hq,he⟩
    |false =>
     rw[if_neg (by simp)]
     refine UZ ⟨b,n'+1,jP+1,rfl,rfl,rfl,R,N.snoc O (by lia) pj,by lia,?_⟩
     have hl:∀u,lo+n' - 1-jP<=u->u<lo+(n'+1)->le c (el b u) (el b (lo+n'))/\le c (el b (lo+n')) (el b u):=λu h1 h2=>by
      by_cases hu:u<lo+n'
      ·exact⟨O.trans (he u (lo+n' - 1) h1 hu (by lia) (by lia)) mE,O.trans pj (he (lo+n' - 1) u (by lia) (by lia) h1 hu)⟩
      ·obtain rfl:u=lo+n':=by lia
       exact⟨O.refl _,O.refl _⟩
     intro u v h1 h2 h3 h4;exact O.trans (hl u (by lia) h2).1 (hl v (by lia) h4).2
  ·rintro r aA ⟨b,n',jP,rfl,rfl,hx,R,N,hq,he⟩;exact⟨b,n',jP,rfl,rfl,by lia,by lia,R,N,hq,he⟩
  ·refine⟨_,n+1,0,rfl,rfl,rfl,R0,N0,by lia,?_⟩
   intro u v h1 h2 h3 h4;obtain rfl:u=v:=by lia
   exact O.refl _
  rintro r aA ⟨b,n',jP,rfl,rfl,Ss,Sr,RB,NB,hq,he⟩;dsimp only
  by_cases zU:jP>0
  ·rw[if_pos zU];refine UT (hV ?_);have hz:lo+n'<=b.size:=by have:=RB.size;have:=h0.size;lia
   have NB:=jj (c:=c) (i:=lo+n' - (jP+1)) (by lia) hz NB λu v h1 h2 h3 h4=>he u v (by lia) h2 (by lia) h4
   have RB:=RB.trans ((eU (i:=lo+n' - (jP+1)) hz).mono (by lia) (by lia:lo+n'<=lo+eT))
   show wpS _ _ _ _ _ Q (VZ st (mirror b (lo+n' - (jP+1)) (lo+n') ((lo+n' - (lo+n' - (jP+1))) / 2)));generalize mirror b (lo+n' - (jP+1)) (lo+n') ((lo+n' - (lo+n' - (jP+1))) / 2)=b1 at NB RB;refine UT (hV ?_);have R2:Rg (Vo st) (mirror b1 lo (lo+n') ((lo+n' - lo) / 2)) lo (lo+eT):=RB.trans ((eU (by have:=RB.size;have:=h0.size;lia)).mono (UO _) (by lia))
   have S2:SR c (mirror b1 lo (lo+n') ((lo+n' - lo) / 2)) lo (lo+n'):=m7 (by have:=RB.size;have:=h0.size;lia) NB
   show wpS _ _ _ _ _ Q (VZ st (mirror b1 lo (lo+n') ((lo+n' - lo) / 2)));generalize mirror b1 lo (lo+n') ((lo+n' - lo) / 2)=b2 at R2 S2;refine UT (Wg (VL (I:=λx r aA=>aA=VZ st b2/\∃m,r=(none,m)/\m=x/\SR c b2 lo (lo+m))
    (Q:=λr aA=>aA=VZ st b2/\∃m,r=(none,m)/\1<=m/\m<=eT/\SR c b2 lo (lo+m)) ?_ ?_ ?_) ?_)
   ·rintro x r aA GF hx ⟨rfl,m,rfl,rfl,hs⟩;dsimp only;refine UT (hZ L h0 R2 (by lia) (by lia) ?_)
    dsimp only;cases hc:c (el b2 (lo+m)) (el b2 (lo+m-1))with
    |true =>
     rw[if_pos rfl];exact UZ ⟨rfl,m,rfl,by lia,by lia,hs⟩
    |false =>
     rw[if_neg (by simp)]
     exact UZ ⟨rfl,m+1,rfl,rfl,hs.snoc O (by lia) hc⟩
   ·rintro r aA ⟨rfl,m,rfl,hx,hs⟩;exact⟨rfl,m,rfl,by lia,by lia,hs⟩
   ·exact⟨rfl,n',rfl,rfl,S2⟩
   rintro r aA ⟨rfl,m,rfl,Mt,Ha,hs⟩;exact UZ (h m b2 Mt Ha R2 hs)
  ·rw[if_neg zU];refine UT (hV ?_);have R2:Rg (Vo st) (mirror b lo (lo+n') ((lo+n' - lo) / 2)) lo (lo+eT):=RB.trans ((eU (by have:=RB.size;have:=h0.size;lia)).mono (UO _) (by lia))
   have S2:SR c (mirror b lo (lo+n') ((lo+n' - lo) / 2)) lo (lo+n'):=m7 (by have:=RB.size;have:=h0.size;lia) NB
   show wpS _ _ _ _ _ Q (VZ st (mirror b lo (lo+n') ((lo+n' - lo) / 2)));generalize mirror b lo (lo+n') ((lo+n' - lo) / 2)=b2 at R2 S2;refine UT (Wg (VL (I:=λx r aA=>aA=VZ st b2/\∃m,r=(none,m)/\m=x/\SR c b2 lo (lo+m))
    (Q:=λr aA=>aA=VZ st b2/\∃m,r=(none,m)/\1<=m/\m<=eT/\SR c b2 lo (lo+m)) ?_ ?_ ?_) ?_)
   ·rintro x r aA GF hx ⟨rfl,m,rfl,rfl,hs⟩;dsimp only;refine UT (hZ L h0 R2 (by lia) (by lia) ?_)
    dsimp only;cases hc:c (el b2 (lo+m)) (el b2 (lo+m-1))with
    |true =>
     rw[if_pos rfl];exact UZ ⟨rfl,m,rfl,by lia,by lia,hs⟩
    |false =>
     rw[if_neg (by simp)]
     exact UZ ⟨rfl,m+1,rfl,rfl,hs.snoc O (by lia) hc⟩
   ·rintro r aA ⟨rfl,m,rfl,hx,hs⟩;exact⟨rfl,m,rfl,by lia,by lia,hs⟩
   ·exact⟨rfl,n',rfl,rfl,S2⟩
   rintro r aA ⟨rfl,m,rfl,Mt,Ha,hs⟩;exact UZ (h m b2 Mt Ha R2 hs)
end
section
variable {c:UR->UR->Bool}{a:Array UR}
theorem jx {src d:Nat}(hs:src<a.size)(hd:d<=src)(k:Nat):el (bubble a src d) k=if k=src-d then el a src else if src-d<k/\k<=src then el a (k-1) else el a k:=by
 have e:=getElem?_bubble hs d hd k
 by_cases h1:k=src-d
 ·rw[if_pos h1]at e ⊢
  exact dF e
 ·rw[if_neg h1]at e ⊢
  by_cases h2:src-d<k/\k<=src
  ·rw[if_pos h2]at e ⊢
   exact dF e
  ·rw[if_neg h2]at e ⊢
   exact dF e
theorem xl {lo k l:Nat}(O:b4 c)(hk:lo+k<a.size)(hl:l<=k)(h:SR c a lo (lo+k))(h1:∀i,i<l->le c (el a (lo+i)) (el a (lo+k)))(h2:∀i,l<=i->i<k->le c (el a (lo+k)) (el a (lo+i))):
  SR c (bubble a (lo+k) (lo+k-(lo+l))) lo (lo+(k+1)):=λi j g1 g2 g3=>by
 rw[jx hk (by lia),jx hk (by lia),show lo+k-(lo+k-(lo+l))=lo+l by lia]
 have q1:∀i,lo<=i->i<lo+l->le c (el a i) (el a (lo+k)):=λi x y=>by
  have:=h1 (i-lo) (by lia)
  rwa [show lo+(i-lo)=i by lia]at this
 have q2:∀i,lo+l<=i->i<lo+k->le c (el a (lo+k)) (el a i):=λi x y=>by
  have:=h2 (i-lo) (by lia) (by lia)
  rwa [show lo+(i-lo)=i by lia]at this
 by_cases ei:i=lo+l
 ·rw[if_pos ei]
  by_cases ej:j=lo+l
  ·rw[if_pos ej];exact O.refl _
  ·rw[if_neg ej,if_pos (by lia)]
   exact q2 _ (by lia) (by lia)
 ·rw[if_neg ei]
  by_cases ej:j=lo+l
  ·rw[if_pos ej,if_neg (by lia)]
   exact q1 _ (by lia) (by lia)
  ·rw[if_neg ej]
   by_cases fi:lo+l<i/\i<=lo+k
   ·rw[if_pos fi,if_pos (by lia)]
    exact h _ _ (by lia) (by lia) (by lia)
   ·rw[if_neg fi]
    by_cases fj:lo+l<j/\j<=lo+k
    ·rw[if_pos fj];exact h _ _ (by lia) (by lia) (by lia)
    ·rw[if_neg fj];exact h _ _ (by lia) (by lia) (by lia)
theorem xm {src d:Nat}(hs:src<a.size)(hd:d<=src):Rg a (bubble a src d) (src-d) (src+1):=⟨bubble_perm _ _ _,λk h=>by
 rw[jx hs hd,if_neg (by lia),if_neg (by lia)]⟩
end
section
variable {prog:UP}{w:U1}{A:VO}{E:UK->UL->Prop}{s:UL}{κ:Xb}{c:UR->UR->Bool}{a₀:Array UR}
theorem EY (O:b4 c)(L:fC prog w A E s κ c (·∈a₀.toList)){st:Vi}{lo n ok:Nat}{Q:Bool->Vi->Prop}(h0:jB κ a₀ st)(bo:ok<=n)(h1:1<=n)(hn:lo+n<=a₀.size)(hs:SR c (Vo st) lo (lo+ok))
  (h:∀b,Rg (Vo st) b lo (lo+n)->SR c b lo (lo+n)->Q true (VZ st b)):wpS (model prog w) A E s (binarySort' lo n ok) Q st:=by
 rw[binarySort'_eq];refine UT (Wg (VL (I:=λk r aA=>r=(none,())/\k<=n/\∃b,aA=VZ st b/\Rg (Vo st) b lo (lo+n)/\SR c b lo (lo+k))
  (Q:=λr aA=>r=(none,())/\∃b,aA=VZ st b/\Rg (Vo st) b lo (lo+n)/\SR c b lo (lo+n)) ?_ ?_ ?_) ?_)
 ·rintro k r aA OJ hk ⟨rfl,_,b,rfl,R,wN⟩;dsimp only;have hz:b.size=a₀.size:=R.size.trans h0.size;refine UT (Wg (VL (I:=λx r aA=>aA=VZ st b/\∃l u,r=(none,l,u)/\l<=u/\u<=k/\u-l<=k-x/\(∀i,i<l->le c (el b (lo+i)) (el b (lo+k)))/\(∀i,u<=i->i<k->le c (el b (lo+k)) (el b (lo+i))))
   (Q:=λr aA=>aA=VZ st b/\∃l,r=(none,l,l)/\l<=k/\(∀i,i<l->le c (el b (lo+i)) (el b (lo+k)))/\(∀i,l<=i->i<k->le c (el b (lo+k)) (el b (lo+i)))) ?_ ?_ ?_) ?_)
  ·rintro x r aA _ hx ⟨rfl,l,u,rfl,g1,g2,g3,g4,g5⟩;dsimp only
   by_cases QC:l >= u
   ·rw[if_pos QC];obtain rfl:l=u:=by lia
    exact UZ ⟨rfl,l,rfl,g2,g4,g5⟩
   ·rw[if_neg QC];refine UT (hZ L h0 R (by lia) (by lia) ?_)
    dsimp only;cases hc:c (el b (lo+k)) (el b (lo+(l+u) / 2))with
    |true =>
     rw[if_pos rfl];exact UZ ⟨rfl,l,_,rfl,by lia,by lia,by lia,g4,λi h1 h2=>O.trans (O.of_lt hc) (wN _ _ (by lia) (by lia) (by lia))⟩
    |false =>
     rw[if_neg (by simp)]
     exact UZ ⟨rfl,_,u,rfl,by lia,by lia,by lia,λi h1=>O.trans (wN _ _ (by lia) (by lia) (by lia)) (show le c (el b (lo+(l+u) / 2)) (el b (lo+k)) from hc),g5⟩
  ·rintro r aA ⟨rfl,l,u,rfl,g1,g2,g3,g4,g5⟩;obtain rfl:l=u:=by lia
   exact⟨rfl,l,rfl,g2,g4,g5⟩
  ·exact⟨rfl,0,k,rfl,U4 _,UO _,by lia,λi hi=>by lia,λi h1 h2=>by lia⟩
  rintro r aA ⟨rfl,l,rfl,g2,g4,g5⟩;dsimp only;rw[moveDown'_eq];refine UT (WZ (UZ ⟨rfl,by lia,_,rfl,R.trans ((xm (a:=b) (by lia) (by lia)).mono (by lia) (by lia)),xl (a:=b) O (by lia) g2 wN g4 g5⟩))
 ·rintro r aA ⟨rfl,hx,b,rfl,R,wN⟩;rw[show max (max ok 1) n=n by lia]at wN
  exact⟨rfl,b,rfl,R,wN⟩
 ·refine⟨rfl,by lia,Vo st,rfl,Rg.refl,?_⟩
  by_cases h2:ok=0
  ·subst h2;exact SR.one O
  ·rw[show max ok 1=ok by lia]
   exact hs
 ·rintro r aA ⟨rfl,b,rfl,R,wN⟩;exact UZ (h b R wN)
theorem qH (base:Nat):∀(l:List UR) (off:Nat) (a:Array UR),base+off+l.length<=a.size->∀k:Nat,
  ((l.zipIdx off).foldl (λx (z:UR×Nat)=>x.setIfInBounds (base+z.2) z.1) a)[k]?=if base+off<=k/\k<base+off+l.length then l[k-(base+off)]? else a[k]?
 |[],off,a,_,k=>by
  rw[if_neg (by rw[XW];lia)]
  rfl
 |x::l,off,a,h,k=>by
  rw[U7]at h;rw[List.zipIdx_cons,XX,qH base l (off+1) _ (by rw[Array.size_setIfInBounds];lia)]
  by_cases h1:base+(off+1)<=k/\k<base+(off+1)+l.length
  ·rw[if_pos h1,if_pos (by rw[U7];lia),show k-(base+off)=k-(base+(off+1))+1 by lia,List.getElem?_cons_succ]
  ·rw[if_neg h1,Array.getElem?_setIfInBounds]
   by_cases h2:base+off=k
   ·subst h2;rw[if_pos rfl,if_pos (by lia),if_pos (by rw[U7];lia),X2]
    rfl
   ·rw[if_neg h2,if_neg (by rw[U7];lia)]
def Bg (a:Array UR)(base:Nat)(l:List UR):Array UR:=l.zipIdx.foldl (λx (z:UR×Nat)=>x.setIfInBounds (base+z.2) z.1) a
theorem nR {a:Array UR}{base:Nat}{l:List UR}(h:base+l.length<=a.size)(k:Nat):(Bg a base l)[k]?=if base<=k/\k<base+l.length then l[k-base]? else a[k]?:=qH base l 0 a h k
theorem xH {a:Array UR}{base:Nat}{l:List UR}(h:base+l.length<=a.size):(Bg a base l).toList=a.toList.take base++(l++a.toList.drop (base+l.length)):=by
 apply WW;intro k;rw[Ve,nR h];have hz:a.toList.length=a.size:=Vj
 by_cases h1:base<=k/\k<base+l.length
 ·rw[if_pos h1,VU (by rw[VH];lia),VH,Wv (by lia)]
  congr 1
  lia
 ·rw[if_neg h1]
  by_cases h2:k<base
  ·rw[Wv (by rw[VH];lia),List.getElem?_take_of_lt h2,Ve]
  ·rw[VU (by rw[VH];lia),VH,VU (by lia),List.getElem?_drop,Ve]
   congr 1
   lia
theorem Fg (a:Array UR)(base m:Nat):a.toList=a.toList.take base++((a.toList.drop base).take m++a.toList.drop (base+m)):=by
 have h1:=(WQ base a.toList).symm;have h2:=(WQ m (a.toList.drop base)).symm;rw[List.drop_drop]at h2;rw[<- h2];exact h1
theorem ES {a:Array UR}{base:Nat}{l:List UR}(h:base+l.length<=a.size)(hp:l.Perm ((a.toList.drop base).take l.length)):Rg a (Bg a base l) base (base+l.length) where
 perm:=by
  rw[W6,xH h];refine List.Perm.trans ?_ (YZ (Fg a base l.length).symm);exact List.Perm.append_left _ (hp.append_right _)
 out:=λk hk=>dF (by rw[nR h,if_neg (by lia)])
end
section
variable {prog:UP}{w:U1}{A:VO}{E:UK->UL->Prop}{s:UL}{κ:Xb}{c:UR->UR->Bool}{a₀:Array UR}
theorem Bh {σ:Type}{M:YW}{Q:PUnit->σ->Prop}{st aA:σ}(h:Q ⟨⟩ aA):wpS M A E s (set aA:StateT σ Sem PUnit) Q st:=by
 unfold wpS;rw[StateT.run_set];exact U6 ⟨rfl,h⟩
theorem tu {a:Array UR}{lo hi i:Nat}(h:i<hi-lo)(hh:hi<=a.size):el (a.extract lo hi) i=el a (lo+i) :=
 dF (by rw[Array.getElem?_extract,if_pos (by lia)])
theorem lW {a:Array UR}{lo hi:Nat}(hh:hi<=a.size):(a.extract lo hi).size=hi-lo:=by
 rw[Array.size_extract];lia
theorem uF {a:Array UR}{lo hi:Nat}(hh:hi<=a.size){z:UR}(h:z∈(a.extract lo hi).toList):∃u,lo<=u/\u<hi/\z=el a u:=by
 obtain⟨i,fO⟩:=List.getElem?_of_mem h;rw[Ve]at fO;have fG:i<(a.extract lo hi).size:=by
  rcases WJ i (a.extract lo hi).size with q|q
  ·exact q
  ·rw[XD q]at fO;cases fO
 rw[lW hh]at fG;exact⟨lo+i,by lia,by lia,by rw[<- tu fG hh,vb fO]⟩
theorem rS (O:b4 c)(L:fC prog w A E s κ c (·∈a₀.toList)){st:Vi}{i sa na pw sb nb Nu:Nat}{Q:Bool->Vi->Prop}(h0:jB κ a₀ st)(p1:(U9 st)[i]?=some (sa,na,pw))(p2:(U9 st)[i+1]?=some (sb,nb,Nu))
  (wN:sb=sa+na) (Uq:1<=na) (Up:1<=nb) (hz:sb+nb<=a₀.size) (s1:SR c (Vo st) sa sb) (s2:SR c (Vo st) sb (sb+nb))
  (h:∀aA,kindOf aA=κ->Xs aA=none->U9 aA=((U9 st).setIfInBounds i (sa,na+nb,pw)).eraseIdxIfInBounds (i+1)->Rg (Vo st) (Vo aA) sa (sb+nb)->SR c (Vo aA) sa (sb+nb)->Q true aA) :
  wpS (model prog w) A E s (mergeAt' i) Q st:=by
 rw[qp];refine UT (X9 ?_);rw[p1,p2];dsimp only;refine UT (Bh ?_);have hsz:=h0.size;have hm:∀{j},j<a₀.size->el (Vo st) j∈a₀.toList:=λhj=>h0.mem hj;generalize ha:Vo st=a at *
 have vF:kindOf (XF st (((U9 st).setIfInBounds i (sa,na+nb,pw)).eraseIdxIfInBounds (i+1)))=κ:=h0.kind;have Fc:Xs (XF st (((U9 st).setIfInBounds i (sa,na+nb,pw)).eraseIdxIfInBounds (i+1)))=none:=h0.fail;have Fd:Vo (XF st (((U9 st).setIfInBounds i (sa,na+nb,pw)).eraseIdxIfInBounds (i+1)))=a:=ha;have IV:U9 (XF st (((U9 st).setIfInBounds i (sa,na+nb,pw)).eraseIdxIfInBounds (i+1)))=((U9 st).setIfInBounds i (sa,na+nb,pw)).eraseIdxIfInBounds (i+1):=rfl;generalize hP:((U9 st).setIfInBounds i (sa,na+nb,pw)).eraseIdxIfInBounds (i+1)=P at *
 generalize XF st P=M7 at *
 refine UT (aM (by lia) ?_)
 refine UT (du O L vF (hm (by lia)) (λx hx=>hm (by lia)) (by lia) (λx y h1 h2 h3=>s1 x y h1 h2 (by lia)) (by lia) λk k1 k2 k3=>?_)
 dsimp only;have g0:∀x,sa<=x->x<sa+k->le c (el a x) (el a sb):=λx h1 h2=>by
  have:=k2 (x-sa) (by lia)
  unfold dI at this;rw[if_neg (by simp),XB,show sa+(x-sa)=x by lia]at this
  exact this
 by_cases e1:(na-k==0)=true
 ·rw[if_pos e1];have e1:na-k=0:=by simpa using e1
  refine UZ (h M7 vF Fc IV (by rw[Fd];exact Rg.refl) ?_)
  rw[Fd];intro x y h1 h2 h3
  by_cases hx:x<sb
  ·by_cases hy:y<sb
   ·exact s1 x y h1 h2 hy
   ·exact O.trans (g0 x h1 (by lia)) (s2 sb y (UO _) (by lia) h3)
  ·exact s2 x y (by lia) h2 h3
 rw[if_neg e1];have e1:na-k≠0:=by simpa using e1
 have g1:c (el a sb) (el a (sa+k))=true:=by
  have:=k3 k (UO _) (by lia)
  unfold dI at this;rw[if_neg (by simp),YH]at this
  exact this
 refine UT (aM (by lia) ?_)
 refine UT (du O L vF (hm (by lia)) (λx hx=>hm (by lia)) (by lia) (λx y h1 h2 h3=>s2 x y h1 h2 (by lia)) (by lia) λm m1 m2 m3=>?_)
 dsimp only;rw[show sa+k+(na-k)-1=sb-1 by lia]at m2 m3
 have g2:∀x,sb<=x->x<sb+m->c (el a x) (el a (sb-1))=true:=λx h1 h2=>by
  have:=m2 (x-sb) (by lia)
  unfold dI at this;rw[if_pos rfl,show sb+(x-sb)=x by lia]at this
  exact this
 have g3:∀x,sb+m<=x->x<sb+nb->le c (el a (sb-1)) (el a x):=λx h1 h2=>by
  have:=m3 (x-sb) (by lia) (by lia)
  unfold dI at this;rw[if_pos rfl,show sb+(x-sb)=x by lia]at this
  exact this
 by_cases e2:(m==0)=true
 ·exfalso
  have e2:m=0:=by simpa using e2
  have:=O.trans (s1 (sa+k) (sb-1) (by lia) (by lia) (by lia)) (g3 sb (by lia) (by lia))
  exact absurd (g1.symm.trans this) (by simp)
 rw[if_neg e2];have e2:m≠0:=by simpa using e2
 have zx:(a.extract (sa+k) sb).size=sb-(sa+k):=lW (by lia)
 have zy:(a.extract sb (sb+m)).size=m:=by rw[lW (by lia)];lia
 have ex:∀{t},t<sb-(sa+k)->el (a.extract (sa+k) sb) t=el a (sa+k+t):=λht=>tu ht (by lia)
 have ey:∀{t},t<m->el (a.extract sb (sb+m)) t=el a (sb+t):=λht=>tu (by lia) (by lia)
 have fin:∀(out:Array UR) (fE:Vi),jD M7 fE->Gd c (a.extract (sa+k) sb) (a.extract sb (sb+m)) out.toList ->
   wpS (model prog w) A E s (do
    modify λs2=>VZ s2 (out.toList.zipIdx.foldl (λx z=>match z with|(p,j)=>x.setIfInBounds (sa+k+j) p) (Vo s2))
    let y <- get
    pure (Xs y).isNone:StateT Vi Sem Bool) Q fE:=by
  rintro out fE e ⟨gp,gs⟩;refine UT (WZ (UT (X9 (UZ ?_))));show Q (Xs fE).isNone (VZ fE (Bg (Vo fE) (sa+k) out.toList));rw[e.fail,Fc,e.arr,Fd];have zo:out.toList.length=sb-(sa+k)+m:=by
   rw[gp.length_eq,Vr,Vj,Vj,zx,zy]
  have hb:sa+k+out.toList.length<=a.size:=by lia
  have xy:(a.toList.drop (sa+k)).take out.toList.length=(a.extract (sa+k) sb).toList++(a.extract sb (sb+m)).toList:=by
   rw[bZ,bZ,zo,show sb+m-sb=m by lia,List.take_add,List.drop_drop,show sa+k+(sb-(sa+k))=sb by lia]
  have R:Rg a (Bg a (sa+k) out.toList) (sa+k) (sa+k+out.toList.length):=ES hb (by rw[xy];exact gp)
  refine h _ (e.kind.trans vF) (e.fail.trans Fc) (e.pend.trans IV) (R.mono (by lia) (by lia)) ?_
  show SR c (Bg a (sa+k) out.toList) sa (sb+nb);have G_:∀t,sa+k<=t->t<sb+m->∃z,out.toList[t-(sa+k)]?=some z/\el (Bg a (sa+k) out.toList) t=z/\((∃u,sa+k<=u/\u<sb/\z=el a u)\/∃u,sb<=u/\u<sb+m/\z=el a u):=by
   intro t h1 h2;have hl:t-(sa+k)<out.toList.length:=by lia
   refine⟨out.toList[t-(sa+k)],Vh hl,vb (by rw[nR hb,if_pos (by lia)];exact Vh hl),?_⟩
   have OB:=gp.mem_iff.mp (YT hl);rcases Vl.mp OB with q|q
   ·exact .inl (uF (by lia) q)
   ·exact .inr (uF (by lia) q)
  have QR:∀t,t<sa+k->el (Bg a (sa+k) out.toList) t=el a t:=λt ht=>R.out t (.inl ht);have MA:∀t,sb+m<=t->el (Bg a (sa+k) out.toList) t=el a t:=λt ht=>R.out t (.inr (by lia))
  intro x y h1 h2 h3
  by_cases hx:x<sa+k
  ·rw[QR x hx]
   by_cases hy:y<sa+k
   ·rw[QR y hy];exact s1 x y h1 h2 (by lia)
   ·by_cases NV:y<sb+m
    ·obtain⟨z,_,ez,NU⟩:=G_ y (by lia) NV
     rw[ez];rcases NU with⟨u,u1,u2,rfl⟩|⟨u,u1,u2,rfl⟩
     ·exact s1 x u h1 (by lia) u2
     ·exact O.trans (g0 x h1 hx) (s2 sb u (UO _) u1 (by lia))
    ·rw[MA y (by lia)]
     exact O.trans (g0 x h1 hx) (s2 sb y (UO _) (by lia) h3)
  ·by_cases NX:x<sb+m
   ·obtain⟨z,iz,ez,NU⟩:=G_ x (by lia) NX
    rw[ez]
    by_cases NV:y<sb+m
    ·obtain⟨z',R9,O9,_⟩:=G_ y (by lia) NV
     rw[O9]
     by_cases NW:x=y
     ·subst NW;rw[ez]at O9;rw[O9];exact O.refl _
     ·obtain⟨q1,q2⟩:=U0.mp iz;obtain⟨q3,q4⟩:=U0.mp R9;have:=Zc.mp gs _ _ q1 q3 (by lia)
      rw[q2,q4]at this;exact this
    ·rw[MA y (by lia)]
     rcases NU with⟨u,u1,u2,rfl⟩|⟨u,u1,u2,rfl⟩
     ·exact O.trans (s1 u (sb-1) (by lia) (by lia) (by lia)) (g3 y (by lia) h3)
     ·exact s2 u y (by lia) (by lia) h3
   ·rw[MA x (by lia),MA y (by lia)]
    exact s2 x y (by lia) h2 h3
 have go:∀(out:Array UR) (fE:Vi),jD M7 fE->Gd c (a.extract (sa+k) sb) (a.extract sb (sb+m)) out.toList->wpS (model prog w) A E s (do
    modify λs2=>VZ s2 (out.toList.zipIdx.foldl (λx z=>match z with|(p,j)=>x.setIfInBounds (sa+k+j) p) (Vo s2))
    let y <- get
    pure (Xs y).isNone:StateT Vi Sem Bool) Q fE:=fin
 have NY:0<(a.extract (sa+k) sb).size:=by lia
 have Qt:0<(a.extract sb (sb+m)).size:=by lia
 have Sx:∀t,t<(a.extract (sa+k) sb).size->el (a.extract (sa+k) sb) t∈a₀.toList:=λt ht=>by rw[ex (by lia)];exact hm (by lia)
 have Sy:∀t,t<(a.extract sb (sb+m)).size->el (a.extract sb (sb+m)) t∈a₀.toList:=λt ht=>by rw[ey (by lia)];exact hm (by lia)
 have PZ:SR c (a.extract (sa+k) sb) 0 (a.extract (sa+k) sb).size:=λx y h1 h2 h3=>by
  rw[ex (by lia),ex (by lia)]
  exact s1 _ _ (by lia) (by lia) (by lia)
 have PY:SR c (a.extract sb (sb+m)) 0 (a.extract sb (sb+m)).size:=λx y h1 h2 h3=>by
  rw[ey (by lia),ey (by lia)]
  exact s2 _ _ (by lia) (by lia) (by lia)
 have hf:c (el (a.extract sb (sb+m)) 0) (el (a.extract (sa+k) sb) 0)=true:=by
  rw[ex (by lia),ey (by lia)]
  exact g1
 have hl:∀y,y<(a.extract sb (sb+m)).size->c (el (a.extract sb (sb+m)) y) (el (a.extract (sa+k) sb) ((a.extract (sa+k) sb).size-1))=true:=λy hy=>by
  rw[ey (by lia),ex (by lia),show sa+k+((a.extract (sa+k) sb).size-1)=sb-1 by lia]
  exact g2 _ (by lia) (by lia)
 by_cases e3:na-k<=m
 ·rw[if_pos e3];exact UT (rQ O L vF Sx Sy PZ PY NY Qt hf hl go)
 ·rw[if_neg e3];exact UT (rR O L vF Sx Sy PZ PY NY Qt hf hl go)
end
section
variable {c:UR->UR->Bool}{a b:Array UR}
def Runs (c:UR->UR->Bool)(a:Array UR):List (Nat×Nat×Nat)->Nat->Nat->Prop
 |[],lo,hi=>lo=hi
 |z::r,lo,hi=>z.1=lo/\1<=z.2.1/\SR c a lo (lo+z.2.1)/\Runs c a r (lo+z.2.1) hi
theorem Runs.app:∀{l r:List (Nat×Nat×Nat)} {lo hi:Nat},Runs c a (l++r) lo hi->∃m,Runs c a l lo m/\Runs c a r m hi
 |[],r,lo,hi,h=>⟨lo,rfl,h⟩
 |z::l,r,lo,hi,⟨h1,h2,h3,h4⟩=>by
  obtain⟨m,g1,g2⟩:=Runs.app h4;exact⟨m,⟨h1,h2,h3,g1⟩,g2⟩
theorem Runs.join:∀{l r:List (Nat×Nat×Nat)} {lo m hi:Nat},Runs c a l lo m->Runs c a r m hi->Runs c a (l++r) lo hi
 |[],r,lo,m,hi,h,g=>by
  obtain rfl:lo=m:=h;exact g
 |z::l,r,lo,m,hi,⟨h1,h2,h3,h4⟩,g=>⟨h1,h2,h3,Runs.join h4 g⟩
theorem Runs.len:∀{l:List (Nat×Nat×Nat)} {lo hi:Nat},Runs c a l lo hi->lo+l.length<=hi
 |[],lo,hi,h=>Nat.le_of_eq h
 |z::l,lo,hi,⟨h1,h2,h3,h4⟩=>by
  have:=Runs.len h4;rw[U7];lia
theorem Runs.congr:∀{l:List (Nat×Nat×Nat)} {lo hi:Nat},Runs c a l lo hi->(∀k,lo<=k->k<hi->el b k=el a k)->Runs c b l lo hi
 |[],lo,hi,h,_=>h
 |z::l,lo,hi,⟨h1,h2,h3,h4⟩,e=>by
  have hl:=Runs.len h4;exact⟨h1,h2,h3.congr λk g1 g2=>e k g1 (by lia),Runs.congr h4 λk g1 g2=>e k (by lia) g2⟩
theorem Runs.pow:∀{l l':List (Nat×Nat×Nat)} {lo hi:Nat},Runs c a l lo hi->l'.map (λz=>(z.1,z.2.1))=l.map (λz=>(z.1,z.2.1))->Runs c a l' lo hi
 |[],[],_,_,h,_=>h
 |[],z::l',_,_,_,e=>by cases e
 |z::l,[],_,_,_,e=>by cases e
 |z::l,z'::l',lo,hi,⟨h1,h2,h3,h4⟩,e=>by
  rw[Vd,Vd]at e;injection e with e1 e2
  injection e1 with e3 e4
  exact⟨e3.trans h1,by rw[e4];exact h2,by rw[e4];exact h3,by rw[e4];exact Runs.pow h4 e2⟩
end
section
variable {prog:UP}{w:U1}{A:VO}{E:UK->UL->Prop}{s:UL}{κ:Xb}{c:UR->UR->Bool}{a₀:Array UR}
theorem Fh {α:Type}{l:List α}{i:Nat}(h:i+1<l.length):∃l1 x y l2,l=l1++x::y::l2/\l1.length=i:=by
 refine⟨l.take i,l[i],l[i+1],l.drop (i+2),?_,by rw[VH];lia⟩
 rw[<- VW h,<- VW (by lia),WQ]
theorem mO (O:b4 c)(L:fC prog w A E s κ c (·∈a₀.toList)){st:Vi}{i hi:Nat}{Q:Bool->Vi->Prop}(h0:jB κ a₀ st)(hr:Runs c (Vo st) (U9 st).toList 0 hi)(hh:hi<=a₀.size)(OR:i+1<(U9 st).size)
  (h:∀aA,jB κ a₀ aA->Rg (Vo st) (Vo aA) 0 hi->Runs c (Vo aA) (U9 aA).toList 0 hi->(U9 aA).size+1=(U9 st).size->Q true aA) :
  wpS (model prog w) A E s (mergeAt' i) Q st:=by
 obtain⟨l1,⟨sa,na,pw⟩,⟨sb,nb,Nu⟩,l2,el,hl⟩:=Fh (l:=(U9 st).toList) (i:=i) (by rw[Vj];exact OR)
 rw[el]at hr;obtain⟨m,r1,r2⟩:=hr.app;obtain⟨x1,x2,x3,y1,y2,y3,r3⟩:=r2;dsimp only at x1 x2 x3 y1 y2 y3 r3;have hlen:=r3.len;have QD:=r1.len;have p1:(U9 st)[i]?=some (sa,na,pw):=by
  rw[<- Ve,el,VU (by lia),hl,X2]
  rfl
 have p2:(U9 st)[i+1]?=some (sb,nb,Nu):=by
  rw[<- Ve,el,VU (by lia),hl,show i+1-i=1 by lia]
  rfl
 subst x1;refine rS O L h0 p1 p2 y1 x2 y2 (by lia) (by rw[y1];exact x3) (by rw[y1];exact y3) λaA k1 k2 k3 R S=>?_
 have ep:(U9 aA).toList=l1++(sa,na+nb,pw)::l2:=by
  rw[k3];have hz:i+1<((U9 st).setIfInBounds i (sa,na+nb,pw)).size:=by rw[Array.size_setIfInBounds];exact OR
  have e1:(((U9 st).setIfInBounds i (sa,na+nb,pw)).eraseIdxIfInBounds (i+1)).toList=((U9 st).toList.set i (sa,na+nb,pw)).eraseIdx (i+1):=by
   unfold Array.eraseIdxIfInBounds;rw[dif_pos hz,Array.toList_eraseIdx,Array.toList_setIfInBounds]
  rw[e1,el,<- hl,List.set_append_right _ _ (UO _),X2,List.set_cons_zero,List.eraseIdx_append_of_length_le (by lia),show l1.length+1-l1.length=1 by lia]
  rfl
 have out:∀k,(k<sa\/sb+nb<=k)->TS.el (Vo aA) k=TS.el (Vo st) k:=R.out;refine h aA ⟨k1,k2,R.perm.trans h0.perm⟩ (R.mono (U4 _) (by lia)) ?_ ?_
 ·rw[ep];refine Runs.join (r1.congr λk g1 g2=>out k (.inl (by lia))) ⟨rfl,by show 1<=na+nb;lia,?_,?_⟩
  ·show SR c (Vo aA) sa (sa+(na+nb));rw[show sa+(na+nb)=sb+nb by lia]
   exact S
  ·show Runs c (Vo aA) l2 (sa+(na+nb)) hi;rw[show sa+(na+nb)=sa+na+nb by lia]
   exact r3.congr λk g1 g2=>out k (.inr (by lia))
 ·have e2:(U9 aA).size=l1.length+(l2.length+1):=by rw[<- Vj,ep,Vr,U7]
  have e3:(U9 st).size=l1.length+(l2.length+1+1):=by rw[<- Vj,el,Vr,U7,U7]
  lia
theorem lD:∀(f n r:Nat),1<=n->1<=minRun' f n r
 |0,n,r,h=>by show 1<=n+r;lia
 |f+1,n,r,h=>by
  rw[minRun'_succ]
  split
  ·lia
  ·exact lD f _ _ (by lia)
theorem BV (p:Array (Nat×Nat×Nat))(i w:Nat):(p.modify i λx=>(x.1,x.2.1,w)).toList.map (λz=>(z.1,z.2.1))=p.toList.map (λz=>(z.1,z.2.1)):=by
 apply WW;intro k;rw[U8,U8,Ve,Ve,Array.getElem?_modify]
 split
 ·rw[Option.map_map];rfl
 ·rfl
theorem pD (O:b4 c)(L:fC prog w A E s κ c (·∈a₀.toList)){st:Vi}{Q:Unit->Vi->Prop}(h0:jB κ a₀ st)(hp:U9 st=#[])(h2:2<=a₀.size)
  (h:∀aA,jB κ a₀ aA->SR c (Vo aA) 0 a₀.size->Q () aA):wpS (model prog w) A E s sortRuns' Q st:=by
 rw[sortRuns'_eq];refine UT (X9 ?_);dsimp only;rw[h0.size];have Su:=lD a₀.size a₀.size 0 (by lia)
 generalize minRun' a₀.size a₀.size 0=mr at Su;refine UT (Wg (VL (I:=λx r aA=>jB κ a₀ aA/\∃lo,r=(none,lo)/\lo<=a₀.size/\(a₀.size<=lo\/x<=lo)/\Runs c (Vo aA) (U9 aA).toList 0 lo)
  (Q:=λr aA=>jB κ a₀ aA/\r=(none,a₀.size)/\Runs c (Vo aA) (U9 aA).toList 0 a₀.size) ?_ ?_ ?_) ?_)
 ·rintro x r aA _ hx ⟨hS,lo,rfl,OE,Sw,hr⟩;dsimp only
  by_cases hl:lo >= a₀.size
  ·rw[if_pos hl];obtain rfl:lo=a₀.size:=by lia
   exact UZ ⟨hS,rfl,hr⟩
  rw[if_neg hl];refine UT (xN O L hS (by lia) (by lia) λn b n1 n2 R Sb=>?_)
  dsimp only;have rK:jB κ a₀ (VZ aA b):=hS.set R;have sV:Runs c (Vo (VZ aA b)) (U9 (VZ aA b)).toList 0 lo:=Runs.congr (b:=b) hr λk q1 q2=>R.out k (.inl q2);refine(λ(key:∀(N:Nat) (stx:Vi),1<=N->lo+N<=a₀.size->Runs c (Vo stx) (U9 stx).toList 0 lo->jB κ a₀ stx->SR c (Vo stx) lo (lo+N)->(?G:Nat->Vi->Prop) N stx)=>?main) ?key
  case main =>
   by_cases QA:n<mr
   ·rw[if_pos QA];refine UT (Yt (XE ⟨rfl,?_⟩));refine UT (EY O L rK (by lia) (by lia) (by lia) Sb λb' R' Tv=>?_)
    rw[if_neg (by simp)]
    have My:1<=min (a₀.size-lo) mr:=by lia
    have OZ:lo+min (a₀.size-lo) mr<=a₀.size:=by lia
    have sV:Runs c (Vo (VZ (VZ aA b) b')) (U9 (VZ (VZ aA b) b')).toList 0 lo:=Runs.congr (b:=b') sV λk q1 q2=>R'.out k (.inl q2);have rK:jB κ a₀ (VZ (VZ aA b) b'):=rK.set R';have EK:SR c (Vo (VZ (VZ aA b) b')) lo (lo+(min (a₀.size-lo) mr)):=Tv;generalize VZ (VZ aA b) b'=stx at sV rK EK ⊢
    generalize min (a₀.size-lo) mr=N at My OZ EK ⊢
    exact key N stx My OZ sV rK EK
   ·rw[if_neg QA];have EK:SR c (Vo (VZ aA b)) lo (lo+n):=Sb;exact key n _ n1 (by lia) sV rK EK
  case key =>
   intro N stx My OZ sV rK EK;refine UT (X9 ?_);have LM:∀(kR:Vi),jB κ a₀ kR->SR c (Vo kR) lo (lo+N)->Runs c (Vo kR) (U9 kR).toList 0 lo->jB κ a₀ (XF kR ((U9 kR).push (lo,N,0)))/\∃Ed,((none,lo+N):Option Unit×Nat)=(none,Ed)/\Ed<=a₀.size/\(a₀.size<=Ed\/x+1<=Ed)/\Runs c (Vo kR) ((U9 kR).push (lo,N,0)).toList 0 Ed:=λkR g1 g2 g3 =>
    ⟨⟨g1.kind,g1.fail,g1.perm⟩,_,rfl,by lia,by lia,by rw[WX];exact g3.join ⟨rfl,My,g2,rfl⟩⟩
   cases hb:(U9 stx).back? with
   |none =>
    dsimp only;exact UT (WZ (UZ (LM stx rK EK sV)))
   |some z =>
    obtain⟨s1,n1,p1⟩:=z;dsimp only;refine UT (Wg (VL (I:=λx r aA=>r=(none,())/\jB κ a₀ aA/\SR c (Vo aA) lo (lo+N)/\Runs c (Vo aA) (U9 aA).toList 0 lo)
     (Q:=λr aA=>r=(none,())/\jB κ a₀ aA/\SR c (Vo aA) lo (lo+N)/\Runs c (Vo aA) (U9 aA).toList 0 lo) ?_ ?_ ?_) ?_)
    ·rintro y r kR _ _ ⟨rfl,g1,g2,g3⟩;refine UT (X9 ?_)
     by_cases Ia:(U9 kR).size>1
     ·rw[if_pos Ia];cases hq:(U9 kR)[(U9 kR).size-2]? with
      |none =>
       dsimp only;exact UZ ⟨rfl,g1,g2,g3⟩
      |some z =>
       obtain⟨u,v,Qc⟩:=z;dsimp only
       split
       ·exact UZ ⟨rfl,g1,g2,g3⟩
       ·refine UT (mO O L g1 g3 (by lia) (by lia) λIU f1 f2 f3 f4=>?_)
        exact UZ ⟨rfl,f1,g2.congr λk q1 q2=>f2.out k (.inr q1),f3⟩
     ·rw[if_neg Ia];dsimp only;exact UZ ⟨rfl,g1,g2,g3⟩
    ·rintro r kR ⟨rfl,g1,g2,g3⟩;exact⟨rfl,g1,g2,g3⟩
    ·exact⟨rfl,rK,EK,sV⟩
    rintro r kR ⟨rfl,g1,g2,g3⟩;dsimp only;refine UT (WZ (UT (WZ (UZ ?_))));exact LM (XF kR _) ⟨g1.kind,g1.fail,g1.perm⟩ g2 (g3.pow (BV _ _ _))
 ·rintro r aA ⟨hS,lo,rfl,OE,Sw,hr⟩;obtain rfl:lo=a₀.size:=by lia
  exact⟨hS,rfl,hr⟩
 ·exact⟨h0,0,rfl,U4 _,.inr (UO _),by rw[hp];rfl⟩
 rintro r aA ⟨hS,rfl,hr⟩;dsimp only;refine UT (Wg (VL (I:=λx r aA=>r=(none,())/\jB κ a₀ aA/\Runs c (Vo aA) (U9 aA).toList 0 a₀.size/\((U9 aA).size<=1\/(U9 aA).size+x<=a₀.size))
  (Q:=λr aA=>r=(none,())/\jB κ a₀ aA/\Runs c (Vo aA) (U9 aA).toList 0 a₀.size/\(U9 aA).size<=1) ?_ ?_ ?_) ?_)
 ·rintro x r fE _ hx ⟨rfl,rK,sV,hz⟩;refine UT (X9 ?_)
  by_cases h1:(U9 fE).size<=1
  ·rw[if_pos h1];exact UZ ⟨rfl,rK,sV,h1⟩
  rw[if_neg h1];refine UT (mO O L rK sV (UO _) ?_ λkR S3 R3 Sl Uj=>?_)
  ·split
   ·split <;> lia
   ·rw[if_neg (by simp)]
    lia
  ·exact UZ ⟨rfl,S3,Sl,.inr (by lia)⟩
 ·rintro r fE ⟨rfl,rK,sV,hz⟩;exact⟨rfl,rK,sV,by lia⟩
 ·refine⟨rfl,hS,hr,.inr ?_⟩;have:=hr.len;rw[Vj]at this;lia
 ·rintro r fE ⟨rfl,rK,sV,hz⟩;refine UZ (h fE rK ?_)
  match hq:(U9 fE).toList,sV with
  |[],e=>
   have:(0:Nat)=a₀.size:=e;lia
  |[z],e =>
   obtain⟨e1,e2,e3,e4⟩:=e;have e4:0+z.2.1=a₀.size:=e4;rw[e4]at e3;exact e3
  |z::y::l,e =>
   have:(U9 fE).toList.length<=1:=by rw[Vj];exact hz
   rw[hq]at this;simp at this
end
theorem lex_nil {y:List Int}:HT.lexLt [] y=decide (0<y.length):=by cases y <;> rfl
theorem gf {a b:Int}{x y:List Int}:HT.lexLt (a::x) (b::y)=if a=b then HT.lexLt x y else decide (a<b):=rfl
theorem qt:∀{x y:List Int},HT.lexLt x y=true->HT.lexLt y x=false
 |[],[],_=>rfl
 |[],_::_,_=>rfl
 |_::_,[],h=>by cases h
 |a::x,b::y,h=>by
  rw[gf]at h ⊢
  by_cases e:a=b
  ·rw[if_pos e]at h;rw[if_pos e.symm];exact qt h
  ·rw[if_neg e]at h;rw[if_neg λz=>e z.symm];have:=of_decide_eq_true h;exact decide_eq_false (by lia)
theorem uH:∀{x z:List Int} (y:List Int),HT.lexLt x z=true->HT.lexLt x y=true\/HT.lexLt y z=true
 |[],[],_,h=>by cases h
 |[],_::_,[],h=>.inr rfl
 |[],_::_,_::_,h=>.inl rfl
 |_::_,[],_,h=>by cases h
 |a::x,b::z,[],h=>.inr rfl
 |a::x,b::z,d::y,h=>by
  rw[gf]at h ⊢
  rw[gf]
  by_cases e:a=b
  ·subst e;rw[if_pos rfl]at h
   by_cases e2:a=d
   ·subst e2;rw[if_pos rfl,if_pos rfl];exact uH y h
   ·rw[if_neg e2,if_neg λq=>e2 q.symm]
    by_cases e3:a<d
    ·exact .inl (decide_eq_true e3)
    ·exact .inr (decide_eq_true (by lia))
  ·rw[if_neg e]at h;have h:=of_decide_eq_true h
   by_cases e2:a=d
   ·subst e2;rw[if_neg e];exact .inr (decide_eq_true h)
   ·rw[if_neg e2]
    by_cases e3:a<d
    ·exact .inl (decide_eq_true e3)
    ·rw[if_neg (by lia)]
     exact .inr (decide_eq_true (by lia))
theorem m_:∀{x y:List Int},HT.lexLt x y=false->HT.lexLt y x=false->x=y
 |[],[],_,_=>rfl
 |[],_::_,h,_=>by cases h
 |_::_,[],_,h=>by cases h
 |a::x,b::y,h1,h2=>by
  rw[gf]at h1 h2
  by_cases e:a=b
  ·subst e;rw[if_pos rfl]at h1 h2;rw[m_ h1 h2]
  ·rw[if_neg e]at h1;rw[if_neg λq=>e q.symm]at h2;have h1:=of_decide_eq_false h1;have h2:=of_decide_eq_false h2;lia
def byKey (kf:UK->List Int)(x y:UR):Bool:=HT.lexLt (kf x.1) (kf y.1)
theorem Ca (kf:UK->List Int):b4 (byKey kf):=⟨λ_ _ h=>qt h,λ_ y _ h=>uH (kf y.1) h⟩
section
variable {prog:UP}{w:U1}{A:VO}{E:UK->UL->Prop}{s:UL}
theorem qr {b:Bool}{Q:Bool->UL->Prop}:∀{ns ms:List Int} {us vs:List UK} (i:Nat),WK us ns->WK vs ms->Q (HT.lexLt ns ms) s->PySem.W.KatLex prog w A b (decide (ns.length<ms.length)) Q (us.zip vs) i s
 |[],ms,us,vs,i,hu,hv,q=>by
  cases hu;rw[Yb];rw[lex_nil]at q;exact PySem.W.kat_nil q
 |n::ns,[],us,vs,i,hu,hv,q=>by
  cases hv;rw[List.zip_nil_right];exact PySem.W.kat_nil q
 |n::ns,m::ms,us,vs,i,hu,hv,q=>by
  cases hu with
  |cons _ t hu =>
   cases hv with
   |cons _ t' hv =>
    rw[Wt];refine PySem.W.kat_cons (wpAny_eqBool_int ?_);rw[gf]at q
    by_cases e:n=m
    ·subst e;rw[if_pos rfl]at q;rw[beq_self_eq_true];have:=qr (b:=b) (Q:=Q) (i+1) hu hv q;rw[show decide ((n::ns).length<(n::ms).length)=decide (ns.length<ms.length) by rw[U7,U7];congr 1;simp]
     exact PySem.W.kat_yes this
    ·rw[if_neg e]at q;rw[show (n==m)=false from beq_eq_false_iff_ne.mpr e]
     refine PySem.W.kat_no ?_;cases b&&i==0 with
     |true=>exact oneLt_int q
     |false=>exact PySem.W.kat_one _ _ (lt_int q)
def rC (h:Heap)(kf:UK->List Int)(a:Addr)(vs:List UK):Prop :=
 ∀v∈vs,∃t o xs k,v=.ref t/\t≠a/\h.get? t=some o/\o.cls=.type "tuple" /\ o.data=.seq xs k/\WK xs.toList (kf v)/\kf v≠[]
theorem wx {kf:UK->List Int}{a:Addr}{vs:List UK}{b:Bool}{a₀:Array UR}(T:rC s.heap kf a vs)(hm:∀z∈a₀.toList,z.1∈vs):fC prog w A E s (tuples' b) (byKey kf) (·∈a₀.toList):=by
 intro x y st Q hx hy hk q;obtain⟨t,o,xs,n,e1,_,e2,_,e3,e4,_⟩:=T _ (hm _ hx);obtain⟨t',o',LW,n',f1,_,f2,_,f3,f4,_⟩:=T _ (hm _ hy);rw[lt'_eq];refine UT (X9 ?_);rw[hk,e1,f1];have z1:xs.size=(kf x.1).length:=by rw[<- Vj];exact e4.length
 have z2:LW.size=(kf y.1).length:=by rw[<- Vj];exact f4.length
 refine UT (Yt (Yd (PySem.W.kat_lt e2 e3 f2 f3 ?_)));rw[z1,z2];exact qr 0 e4 f4 ⟨rfl,UZ q⟩
theorem kM {kf:UK->List Int}{a:Addr}{h:Heap}:∀{vs:List UK},rC h kf a vs->∃fs:List UK,PySem.W.KatTups h vs fs/\fs.length=vs.length/\∀f∈fs,∃n t,f=Value.int n t
 |[],_=>⟨[],trivial,rfl,λf hf=>by cases hf⟩
 |v::vs,T=>by
  obtain⟨fs,h1,h2,h3⟩:=kM (vs:=vs) λu hu=>T u (UU _ hu);obtain⟨t,o,xs,k,rfl,_,e2,e3,e4,e5,e6⟩:=T v UY;obtain⟨f,r,ef,n,tk,hn⟩:∃f r,xs.toList=f::r/\∃n tk,f=Value.int n tk:=by
   generalize kf (.ref t)=ks at e5 e6;generalize xs.toList=us at e5;cases e5 with
   |nil=>exact absurd rfl e6
   |cons n tk r=>exact⟨_,_,rfl,_,_,rfl⟩
  have e:xs[0]?=some f:=by rw[<- Ve,ef];rfl
  exact⟨f::fs,PySem.W.KatTups.cons e2 e3 e4 e h1,by rw[U7,U7,h2],λg hg=>by
   rcases UQ.mp hg with rfl|hg
   ·exact⟨_,_,hn⟩
   ·exact h3 g hg⟩
theorem wC {kf:UK->List Int}{a:Addr}{vs:List UK}{Q:Xb->UL->Prop}(T:rC s.heap kf a vs)(h0:0<vs.length)(q:Q (tuples' true) s):Vp (model prog w) A (keyKind' vs.toArray) Q E s:=by
 obtain⟨fs,h1,h2,h3⟩:=kM T;refine PySem.W.kat_kind (T:=.type "int") h1 (by lia) (λv hv=>?_) (by decide) q
 obtain⟨n,t,rfl⟩:=h3 v hv;exact .now
theorem yj {α:Type}{R:α->α->Prop}:∀{l:List α},l.length<2->l.Pairwise R
 |[],_=>.nil
 |[x],_=>Yl _ _
 |_::_::_,h=>by
  rw[U7,U7]at h;lia
theorem sL {a:Addr} {vs:List UK} {n:Nat} {κ:Xb} {c:UK->UK->Bool} {P:PySem.Fin->UL->Prop} (ho:s.heap.get? a=some (Xm "list" vs.toArray n)) (hz:vs.length<=1000000) (O:b4 λx y=>c x.1 y.1)
  (T:∀s':UL,(∀t o,t≠a->s.heap.get? t=some o->s'.heap.get? t=some o)->(2<=vs.length->∀(Q:Xb->UL->Prop),Q κ s'->Vp (model prog w) A (keyKind' vs.toArray) Q E s')/\fC prog w A E s' κ (λx y=>c x.1 y.1) (·∈(vs.toArray.zip vs.toArray).toList))
  (h:∀out:List UK,out.Perm vs->out.Pairwise (λx y=>c y x=false)->P (.done (.ret .none)) {s with heap:=sortedHeap s.heap a vs out.toArray}) :
  Vp (model prog w) A (Xj.«list.sort» ⟨[.ref a],[]⟩) P E s:=by
 have la:a<s.heap.objs.size:=U_ ho;obtain⟨ep,hc⟩:∃ep,(s.heap.update a (W3 λ_=>#[])).get? a=some (Xm "list" #[] ep):=⟨_,get?_update_seq ho (λ_=>#[])⟩;have old:∀t o,t≠a->s.heap.get? t=some o->(((s.heap.update a (W3 λ_=>#[])).push (Xm "tuple" vs.toArray 0)).push (Xm "list" #[] 0)).get? t=some o:=λt o ht e =>
  U5 _ (U5 _ (by rw[Heap.get?_update_ne _ _ _ _ ht];exact e))
 have lN:(((s.heap.update a (W3 λ_=>#[])).push (Xm "tuple" vs.toArray 0)).push (Xm "list" #[] 0)).get? a=some (Xm "list" #[] ep):=U5 _ (U5 _ hc);have big:∀m:Nat,m<=vs.length->m<=UW:=λm hm=>by rw[Wd];lia
 have zz:vs.toArray.size=vs.length:=by simp
 rw[list_sort_plain];refine UM (listItems_at ho rfl ?_);refine UM (listUpdate_at ho rfl ?_ (big _ (Nat.le_of_eq zz)) (U4 _));refine UM (seqEpoch_at hc rfl ?_);refine UM (wpAny_newTuple ?_ (big _ (UO _)));refine UM (wpAny_newList ?_ (U4 _));refine Wx ?_;show Vp (model prog w) A _ P E {s with heap:=((s.heap.update a (W3 λ_=>#[])).push (Xm "tuple" vs.toArray 0)).push (Xm "list" #[] 0)}
 dsimp only;have done:∀aA:Vi,(Vo aA).Perm (vs.toArray.zip vs.toArray)->(Vo aA).toList.Pairwise (le λx y=>c x.1 y.1)->P (.done (.ret .none)) {s with heap:=sortedHeap s.heap a vs ((Vo aA).map (·.2))}:=λaA hp hs=>by
  have h1:∀z∈(Vo aA).toList,z.1=z.2:=λz hz=>by
   have:=(W6.mp hp).mem_iff.mp hz;rw[YU]at this;obtain⟨i,hi⟩:=List.getElem?_of_mem this;rw[List.getElem?_zip_eq_some]at hi;exact VE (hi.1.symm.trans hi.2)
  have e2:(Vo aA).map (·.2)=((Vo aA).toList.map (·.2)).toArray:=by
   apply Array.toList_inj.mp;rw[Array.toList_map]
  rw[e2];refine h _ ?_ ?_
  ·have:=(W6.mp hp).map (λz:UR=>z.2);rw[YU]at this;refine this.trans (YZ ?_);exact List.map_snd_zip (by simp)
  ·rw[Wl];refine hs.imp_of_mem λ{x y} hx hy hl=>?_;rw[<- h1 x hx,<- h1 y hy];exact hl
 by_cases h2:vs.toArray.size<2
 ·rw[if_pos h2,if_pos h2];refine UM (U6 ?_);rw[StateT.run_pure];refine UM (U6 ?_);dsimp only;refine UM (seqEpoch_at lN rfl ?_);refine UM (listUpdate_at lN rfl ?_ (U4 _) (by rw[Array.size_map,Za];exact Vq (big _ (by lia)) (Nat.le_succ _)))
  simp only[bne_self_eq_false,WL,if_false];refine U6 (done (SortSt.mk' general' (vs.toArray.zip vs.toArray) #[] 7 none) (Y3 _) ?_);refine yj ?_;show (vs.toArray.zip vs.toArray).toList.length<2;rw[Vj,Za];lia
 ·rw[if_neg h2,if_neg h2];obtain⟨hK,L⟩:=T {s with heap:=((s.heap.update a (W3 λ_=>#[])).push (Xm "tuple" vs.toArray 0)).push (Xm "list" #[] 0)} old
  refine UM (hK (by lia) _ ?_)
  have zp:(vs.toArray.zip vs.toArray).size=vs.length:=by rw[Za];lia
  refine UM (Xl (pD (Q:=λ_ aA=>(Vo aA).Perm (vs.toArray.zip vs.toArray)/\Xs aA=none/\SR (λx y=>c x.1 y.1) (Vo aA) 0 vs.length) O L
   (st:=SortSt.mk' κ (vs.toArray.zip vs.toArray) #[] 7 none) ⟨rfl,rfl,Y3 _⟩ rfl (by lia) λaA g1 g2=>⟨g1.perm,g1.fail,by rw[zp]at g2;exact g2⟩) ?_ λ_ _ e=>e)
  rintro⟨⟨⟩,aA⟩ s' ⟨rfl,hp,hf,hs⟩;dsimp only;have zs:(Vo aA).size=vs.length:=hp.size_eq.trans zp;refine UM (seqEpoch_at lN rfl ?_);refine UM (listUpdate_at lN rfl ?_ (U4 _) (by rw[Array.size_map,zs];exact Vq (big _ (UO _)) (Nat.le_succ _)))
  rw[hf];simp only[bne_self_eq_false,WL,if_false];refine U6 (done aA hp ?_);rw[Zc];intro i j hi hj aC;rw[Vj]at hi hj;have:=hs i j (U4 _) (by lia) (by lia)
  have ei:el (Vo aA) i=(Vo aA).toList[i]:=vb (by rw[<- Ve];exact Vh _)
  have ej:el (Vo aA) j=(Vo aA).toList[j]:=vb (by rw[<- Ve];exact Vh _)
  rw[ei,ej]at this;exact this
theorem sJ {a:Addr} {vs:List UK} {n:Nat} {kf:UK->List Int} {P:PySem.Fin->UL->Prop} (ho:s.heap.get? a=some (Xm "list" vs.toArray n)) (hz:vs.length<=1000000) (T:rC s.heap kf a vs)
  (h:∀out:List UK,out.Perm vs->out.Pairwise (λx y=>HT.lexLt (kf y) (kf x)=false)->P (.done (.ret .none)) {s with heap:=sortedHeap s.heap a vs out.toArray}) :
  Vp (model prog w) A (Xj.«list.sort» ⟨[.ref a],[]⟩) P E s:=by
 refine sL (κ:=tuples' true) (c:=λx y=>HT.lexLt (kf x) (kf y)) ho hz (Ca kf) (λs' kp=>?_) h;have T':rC s'.heap kf a vs:=λv hv=>by
  obtain⟨t,o,xs,k,e1,e2,e3,r⟩:=T v hv;exact⟨t,o,xs,k,e1,e2,kp t o e2 e3,r⟩
 exact⟨λh2 Q q=>wC T' (by lia) q,wx T' λz hz=>by
  rw[YU]at hz;exact(Yr hz).1⟩
end
end TS
namespace ST
open PySem PyProof.Rows
section
variable {prog:UP}{w:U1}
abbrev TK (prog:UP)(w:U1):=Yy (intKind prog w)
abbrev kH (prog:UP)(w:U1)(k:List Int):Int:=(TK prog w).hash k
abbrev ent (prog:UP)(w:U1)(x:Addr×List Int):Int×UK:=(kH prog w x.2,.ref x.1)
structure Pp (prog:UP)(w:U1)(o:Obj)(ts:List (Addr×List Int))(es:Array (Int×UK))(ep:Nat)(t:SetTable):Prop where
 ex:o.ExactSet
 dat:o.data=.set es ep t
 UE:es.toList=ts.map (ent prog w)
 wf:WF t (ts.map λx=>kH prog w x.2)
 T_:t.place.size*5<t.mask*3
 RY:t.mask<=8191
 led:t.led=!w.params.followText "set-order"
 Ue:t.plain=true
 Uh:(ts.map (·.2)).Nodup
end
end ST
namespace L2
open PySem PySem.Spec PyProof.Rows
inductive D where
 |cg|bl (b:Bool)|int (i:Int)|str (x:Str)|obj (a:Addr)
 |tup (ds:List D)|lst (ds:List D)
 |dT (ks:List (List Key)) (ds:List D)|dK (ks:List Key) (ds:List D)
 |sT (ts:List (List Int))
 /-- one object,by what M6 there -/
 |ob (φ:Addr->HO)
def Fp (P:UP)(w:U1)(a:Addr)(ts:List (Addr×List Int))(h:Heap):Prop:=∃o es ep t,h.get? a=some o/\ST.Pp P w o ts es ep t
abbrev LL (P:UP)(w:U1)(a:Addr)(ts:List (Addr×List Int)):HO:=.ext (Fp P w a ts)
def DJ (P:UP)(w:U1)(H:Hp)(a:Addr)(ts:List (List Int)):Prop :=
 ∃A5:List (Addr×List Int),H a=some (LL P w a A5)/\(∀x∈A5,H x.1=some (.tup (x.2.map V.int)))/\(A5.map (·.2)).Perm ts
section
variable (P:UP)(w:U1)(W:Addr->Prop)(H:Hp)
mutual
def ay:D->V->Prop
 |.cg,v=>v=.cg
 |.bl b,v=>v=.bl b
 |.int i,v=>v=.int i
 |.str x,v=>v=.str x
 |.obj a,v=>v=.ref a
 |.tup ds,v=>∃a vs,v=.ref a/\H a=some (.tup vs)/\ai ds vs
 |.lst ds,v=>∃a vs,v=.ref a/\H a=some (.lst vs)/\¬ W a/\ai ds vs
 |.dT ks ds,v=>∃a vs,v=.ref a/\H a=some (.dT (ks.zip vs))/\ks.length=vs.length/\¬ W a/\ai ds vs
 |.dK ks ds,v=>∃a vs,v=.ref a/\H a=some (.dK (ks.zip vs))/\ks.length=vs.length/\¬ W a/\ai ds vs
 |.sT ts,v=>∃a,v=.ref a/\DJ P w H a ts/\¬ W a
 |.ob φ,v=>∃a,v=.ref a/\(H a=some (φ a)/\∀xs,φ a≠.tup xs)/\¬ W a
def ai:List D->List V->Prop
 |[],vs=>vs=[]
 |d::ds,vs=>∃v r,vs=v::r/\ay d v/\ai ds r
end
end
mutual
def D.flat:D->Bool
 |.tup ds=>D.eW ds
 |.lst _=>false
 |.dT _ _=>false
 |.dK _ _=>false
 |.sT _=>false
 |.ob _=>false
 |_=>true
def D.eW:List D->Bool
 |[]=>true
 |d::ds=>D.flat d&&D.eW ds
end
structure Kp (W:Addr->Prop)(H H':Hp):Prop where
 out:∀b o,H b=some o->¬ W b->H' b=some o
 tup:∀b xs,H b=some (.tup xs)->H' b=some (.tup xs)
theorem Kp.refl {W:Addr->Prop}{H:Hp}:Kp W H H:=⟨λ_ _ e _=>e,λ_ _ e=>e⟩
theorem Kp.trans {W:Addr->Prop}{H H1 H2:Hp}(a:Kp W H H1)(b:Kp W H1 H2):Kp W H H2:=⟨λc o e n=>b.out c o (a.out c o e n) n,λc xs e=>b.tup c xs (a.tup c xs e)⟩
theorem aw.kp {W:Addr->Prop}{H H':Hp}(h:aw H H'):Kp W H H':=⟨λb o e _=>h b o e,λb xs e=>h b _ e⟩
theorem Kp.mono {W W':Addr->Prop}{H H':Hp}(h:Kp W H H')(s:∀a,W a->W' a):Kp W' H H':=⟨λb o e n=>h.out b o e λz=>n (s b z),h.tup⟩
section
variable {P:UP}{w:U1}{W W':Addr->Prop}{H H':Hp}
mutual
theorem ay.keep (k:Kp W H H'):∀{d:D} {v:V},ay P w W H d v->ay P w W H' d v
 |.cg,_,h=>h
 |.bl _,_,h=>h
 |.int _,_,h=>h
 |.str _,_,h=>h
 |.obj _,_,h=>h
 |.tup ds,_,⟨a,vs,e,t,r⟩=>⟨a,vs,e,k.tup a vs t,ai.keep k r⟩
 |.lst ds,_,⟨a,vs,e,t,n,r⟩=>⟨a,vs,e,k.out a _ t n,n,ai.keep k r⟩
 |.dT ks ds,_,⟨a,vs,e,t,l,n,r⟩=>⟨a,vs,e,k.out a _ t n,l,n,ai.keep k r⟩
 |.dK ks ds,_,⟨a,vs,e,t,l,n,r⟩=>⟨a,vs,e,k.out a _ t n,l,n,ai.keep k r⟩
 |.sT ts,_,⟨a,e,⟨A5,t,r,z⟩,n⟩=>⟨a,e,⟨A5,k.out a _ t n,λx hx=>k.tup _ _ (r x hx),z⟩,n⟩
 |.ob φ,_,⟨a,e,⟨t,z⟩,n⟩=>⟨a,e,⟨k.out a _ t n,z⟩,n⟩
theorem ai.keep (k:Kp W H H'):∀{ds:List D} {vs:List V},ai P w W H ds vs->ai P w W H' ds vs
 |[],_,h=>h
 |d::ds,_,⟨v,r,e,h1,h2⟩=>⟨v,r,e,ay.keep k h1,ai.keep k h2⟩
end
mutual
theorem ay.aO (s:∀a,W' a->W a):∀{d:D} {v:V},ay P w W H d v->ay P w W' H d v
 |.cg,_,h=>h
 |.bl _,_,h=>h
 |.int _,_,h=>h
 |.str _,_,h=>h
 |.obj _,_,h=>h
 |.tup ds,_,⟨a,vs,e,t,r⟩=>⟨a,vs,e,t,ai.aO s r⟩
 |.lst ds,_,⟨a,vs,e,t,n,r⟩=>⟨a,vs,e,t,λz=>n (s a z),ai.aO s r⟩
 |.dT ks ds,_,⟨a,vs,e,t,l,n,r⟩=>⟨a,vs,e,t,l,λz=>n (s a z),ai.aO s r⟩
 |.dK ks ds,_,⟨a,vs,e,t,l,n,r⟩=>⟨a,vs,e,t,l,λz=>n (s a z),ai.aO s r⟩
 |.sT ts,_,⟨a,e,t,n⟩=>⟨a,e,t,λz=>n (s a z)⟩
 |.ob φ,_,⟨a,e,t,n⟩=>⟨a,e,t,λz=>n (s a z)⟩
theorem ai.aO (s:∀a,W' a->W a):∀{ds:List D} {vs:List V},ai P w W H ds vs->ai P w W' H ds vs
 |[],_,h=>h
 |d::ds,_,⟨v,r,e,h1,h2⟩=>⟨v,r,e,ay.aO s h1,ai.aO s h2⟩
end
mutual
theorem ay.flat:∀{d:D} {v:V},d.flat=true->ay P w W H d v->ay P w W' H d v
 |.cg,_,_,h=>h
 |.bl _,_,_,h=>h
 |.int _,_,_,h=>h
 |.str _,_,_,h=>h
 |.obj _,_,_,h=>h
 |.tup ds,_,f,⟨a,vs,e,t,r⟩=>⟨a,vs,e,t,ai.flat (by simpa[D.flat] using f) r⟩
 |.lst ds,_,f,_=>by simp[D.flat]at f
 |.dT ks ds,_,f,_=>by simp[D.flat]at f
 |.dK ks ds,_,f,_=>by simp[D.flat]at f
 |.sT ts,_,f,_=>by simp[D.flat]at f
 |.ob φ,_,f,_=>by simp[D.flat]at f
theorem ai.flat:∀{ds:List D} {vs:List V},D.eW ds=true->ai P w W H ds vs->ai P w W' H ds vs
 |[],_,_,h=>h
 |d::ds,_,f,⟨v,r,e,h1,h2⟩=>by
  have f':(d.flat&&D.eW ds)=true:=f;rw[VI]at f';exact⟨v,r,e,ay.flat f'.1 h1,ai.flat f'.2 h2⟩
end
theorem ay.same (s:aw H H'){d:D}{v:V}(h:ay P w W H d v):ay P w W H' d v:=h.keep s.kp
theorem ai.same (s:aw H H'){ds:List D}{vs:List V}(h:ai P w W H ds vs):ai P w W H' ds vs:=h.keep s.kp
theorem ai.length:∀{ds:List D} {vs:List V},ai P w W H ds vs->vs.length=ds.length
 |[],_,h=>by rw[show _=[] from h];rfl
 |d::ds,_,⟨v,r,e,h1,h2⟩=>by rw[e,U7,U7,ai.length h2]
theorem ai.get:∀{ds:List D} {vs:List V} {i:Nat} {d:D},ai P w W H ds vs->ds[i]?=some d->∃v,vs[i]?=some v/\ay P w W H d v
 |[],_,_,_,_,e=>by simp at e
 |d::ds,_,0,_,⟨v,r,e,h1,h2⟩,e'=>by simp at e';subst e' e;exact⟨v,by simp,h1⟩
 |d::ds,_,i+1,_,⟨v,r,e,h1,h2⟩,e'=>by
  subst e;obtain⟨u,e1,e2⟩:=ai.get (i:=i) h2 (by simpa using e')
  exact⟨u,by simpa using e1,e2⟩
theorem ai.append:∀{ds ds':List D} {vs vs':List V},ai P w W H ds vs->ai P w W H ds' vs'->ai P w W H (ds++ds') (vs++vs')
 |[],_,_,_,h,h'=>by rw[show _=[] from h];exact h'
 |d::ds,_,_,_,⟨v,r,e,h1,h2⟩,h'=>by subst e;exact⟨v,_,rfl,h1,ai.append h2 h'⟩
theorem ai.one {d:D}{v:V}(h:ay P w W H d v):ai P w W H [d] [v]:=⟨v,[],rfl,h,rfl⟩
theorem ai.take:∀{ds:List D} {vs:List V} (n:Nat),ai P w W H ds vs->ai P w W H (ds.take n) (vs.take n)
 |[],_,n,h=>by rw[show _=[] from h];simp[ai]
 |d::ds,_,0,_=>by simp[ai]
 |d::ds,_,n+1,⟨v,r,e,h1,h2⟩=>by subst e;exact⟨v,_,rfl,h1,ai.take n h2⟩
theorem ai.drop:∀{ds:List D} {vs:List V} (n:Nat),ai P w W H ds vs->ai P w W H (ds.drop n) (vs.drop n)
 |[],_,n,h=>by rw[show _=[] from h];simp[ai]
 |d::ds,_,0,h=>h
 |d::ds,_,n+1,⟨v,r,e,h1,h2⟩=>by subst e;exact ai.drop n h2
end
open PySem.SeqAt
abbrev Dm (W:Addr->Prop)(H:Hp):Prop:=∀a,W a->H a≠none
abbrev Rp (X:Cx)(W:Addr->Prop)(H:Hp)(d:D)(v:V):Prop:=ay X.prog X.w W H d v
abbrev rN (X:Cx)(W:Addr->Prop)(H:Hp)(ds:List D)(vs:List V):Prop:=ai X.prog X.w W H ds vs
def P6 (X:Cx)(f:D->Option D):V->Hp->VK->Prop:=λx H Q=>∃W d1 d,Dm W H/\Rp X W H d1 x/\f d1=some d/\∀v H',aw H H'->Rp X W H' d v->Q v H'
def P5 (X:Cx)(f:D->D->Option D):R2:=λx y H Q=>∃W d1 d2 d,Dm W H/\Rp X W H d1 x/\Rp X W H d2 y/\f d1 d2=some d/\∀v H',aw H H'->Rp X W H' d v->Q v H'
def Ry (X:Cx)(f:List D->Option D):List V->Hp->VK->Prop:=λxs H Q=>∃W ds d,Dm W H/\rN X W H ds xs/\f ds=some d/\∀v H',aw H H'->Rp X W H' d v->Q v H'
abbrev bK (X:Cx)(f:UK->UK->Sem UK)(g:D->D->Option D):Prop:=iW X f (P5 X g)
abbrev cJ (X:Cx)(f:UK)(g:List D->Option D):Prop:=eZ X f (Ry X g)
section
variable {X:Cx}{W:Addr->Prop}{H:Hp}
theorem Cu {p:Addr}(d:Dm W H)(n:H p=none):¬ W p:=λz=>d p z n
theorem Rp.jk {p:Addr}{vs:List V}{ds:List D}(d:Dm W H)(n:H p=none)(r:rN X W H ds vs):Rp X W (upd H p (.lst vs)) (.lst ds) (.ref p) :=
 ⟨p,vs,rfl,ao,Cu d n,r.same (aw.new n)⟩
end
def D.GD:D->Option Int
 |.int i=>some i
 |_=>none
def D.GC:D->Option (List D)
 |.lst a=>some a
 |_=>none
def D.CG:D->Option (List D)
 |.tup a=>some a
 |_=>none
def D.El:D->Bool
 |.cg=>true
 |_=>false
theorem D.iJ {d:D}{i:Int}(h:d.GD=some i):d=.int i:=by cases d <;> first|(cases h;rfl)|cases h
theorem D.lK {d:D}{i:List D}(h:d.GC=some i):d=.lst i:=by cases d <;> first|(cases h;rfl)|cases h
theorem D.lJ {d:D}{i:List D}(h:d.CG=some i):d=.tup i:=by cases d <;> first|(cases h;rfl)|cases h
theorem D.qE {d:D}(h:d.El=true):d=.cg:=by cases d <;> first|rfl|cases h
theorem D.CH {d:D}:d=.cg↔d.El=true:=⟨λe=>by rw[e];rfl,D.qE⟩
def lM (f:Int->Int->Option D)(a b:D):Option D:=match a.GD,b.GD with
 |some i,some j=>f i j
 |_,_=>none
theorem jr {f:Int->Int->Option D}{a b d:D}(h:lM f a b=some d):∃i j,a=.int i/\b=.int j/\f i j=some d:=by
 unfold lM at h;cases ha:a.GD with
 |none=>rw[ha]at h;cases h
 |some i =>
  cases hb:b.GD with
  |none=>rw[ha,hb]at h;cases h
  |some j=>rw[ha,hb]at h;exact⟨i,j,D.iJ ha,D.iJ hb,h⟩
def Gi (f:D->D->Option D)(g:List D->List D->Option D)(a b:D):Option D:=match a.GC,b.GC with
 |some i,some j=>g i j
 |_,_=>f a b
theorem wy {f:D->D->Option D}{g:List D->List D->Option D}{a b d:D}(h:Gi f g a b=some d):(∃i j,a=.lst i/\b=.lst j/\g i j=some d)\/f a b=some d:=by
 unfold Gi at h;cases ha:a.GC with
 |none=>rw[ha]at h;exact .inr h
 |some i =>
  cases hb:b.GC with
  |none=>rw[ha,hb]at h;exact .inr h
  |some j=>rw[ha,hb]at h;exact .inl ⟨i,j,D.lK ha,D.lK hb,h⟩
def Av:D->D->Option D:=Gi (lM λi j=>some (.int (i+j))) λa b=>if a.length+b.length<=UW then some (.lst (a++b)) else none
def Pc:D->D->Option D:=lM λi j=>some (.int (i-j))
instance (i j:Int):Decidable (j6 i j):=by unfold j6;infer_instance
instance (i j:Int):Decidable (xt i j):=by unfold xt;infer_instance
def Ht:D->D->Option D:=lM λi j=>if j6 i j then some (.int (i*j)) else none
def LA:D->D->Option D:=lM λi j=>if 0<j then some (.int (i % j)) else none
def Lz:D->D->Option D:=lM λi j=>if xt i j then some (.int (i ^ j.toNat)) else none
def Pe:D->Option D
 |.int i=>some (.int (-i))
 |_=>none
section
variable {X:Cx}
theorem cC {c:Prop}[Decidable c]{α:Type}{a b:α}(h:(if c then some a else none)=some b):c/\b=a:=by
 by_cases hc:c
 ·rw[if_pos hc]at h;cases h;exact⟨hc,rfl⟩
 ·rw[if_neg hc]at h;cases h
theorem uC {f:UK->UK->Sem UK}{C:Int->Int->Prop}{g:Int->Int->V}{h:Int->Int->D}{F:Int->Int->Option D}(ho:iW X f (rI C g))(hF:∀i j d,F i j=some d->C i j/\d=h i j)
  (hg:∀(W:Addr->Prop) (H:Hp) i j,Rp X W H (h i j) (g i j)):bK X f (lM F):=by
 intro pins s σ H x y v u Q I rx ry hh;obtain⟨W,d1,d2,d,hd,r1,r2,e,q⟩:=hh;obtain⟨i,j,rfl,rfl,e⟩:=jr e;obtain⟨c,rfl⟩:=hF _ _ _ e;cases r1;cases r2;exact ho pins s σ H _ _ v u Q I rx ry ⟨i,j,rfl,rfl,c,q _ _ (aw.refl _) (hg W H i j)⟩
theorem zd {f:UK->UK->Sem UK}{g:Int->Int->V}{h:Int->Int->D}(ho:iW X f (BI g))
  (hg:∀(W:Addr->Prop) (H:Hp) i j,Rp X W H (h i j) (g i j)):bK X f (lM λi j=>some (h i j)):=by
 intro pins s σ H x y v u Q I rx ry hh;obtain⟨W,d1,d2,d,hd,r1,r2,e,q⟩:=hh;obtain⟨i,j,rfl,rfl,e⟩:=jr e;cases e;cases r1;cases r2;exact ho pins s σ H _ _ v u Q I rx ry ⟨i,j,rfl,rfl,q _ _ (aw.refl _) (hg W H i j)⟩
theorem cR:bK X (Wq .Sub) Pc:=zd (h:=λi j=>.int (i-j)) y_ λ_ _ _ _=>rfl
theorem kh:bK X (Wq .Mult) Ht:=uC (h:=λi j=>.int (i*j)) jf (λ_ _ _ e=>cC e) λ_ _ _ _=>rfl
theorem Cd:bK X (Wq .Mod) LA:=uC (h:=λi j=>.int (i % j)) gc (λ_ _ _ e=>cC e) λ_ _ _ _=>rfl
theorem Cc:bK X (Wq .Pow) Lz:=uC (h:=λi j=>.int (i ^ j.toNat)) za (λ_ _ _ e=>cC e) λ_ _ _ _=>rfl
theorem e9:LK X (unaryOp .USub) (P6 X Pe):=by
 intro pins s σ H x v Q I rx h;obtain⟨W,d1,d,hd,r1,e,q⟩:=h;cases d1 with
 |int i=>cases e;cases r1;exact xS pins s σ H _ v Q I rx ⟨i,rfl,q _ _ (aw.refl _) rfl⟩
 |_=>cases e
end
def As (p:Int->Int->Bool):D->D->Option D:=lM λi j=>some (.bl (p i j))
abbrev Hu:D->D->Option D:=As λi j=>decide (i<j)
abbrev To:D->D->Option D:=As λi j=>decide (j<i)
section
variable {X:Cx}
theorem oH {p:Int->Int->Bool}{f:UK->UK->Sem UK}(ho:iW X f (BI λi j=>.bl (p i j))):bK X f (As p):=zd (h:=λi j=>.bl (p i j)) ho λ_ _ _ _=>rfl
theorem bG:bK X (VQ .Lt) Hu:=oH DZ
theorem ze:bK X (VQ .Gt) To:=oH zb
end
mutual
def D.pd:D->PyData
 |.cg=>.none
 |.bl b=>.bool b
 |.int i=>.int i
 |.str x=>.str x
 |.tup ds=>.tuple (D.fF ds)
 |.lst ds=>.list (D.fF ds)
 |_=>.dict []
def D.fF:List D->List PyData
 |[]=>[]
 |d::ds=>d.pd::D.fF ds
end
abbrev D.oh (d:D):Bool:=shaped d.pd
mutual
theorem bB {X:Cx}{pins:List (Addr×Obj)}{σ:St}{H:Hp}{s:UL}(I:Inv X pins σ H s){W:Addr->Prop}:∀{d:D} {v:V} {u:UK},Rp X W H d v->RelV v u->d.pd.canLay0=true->∃as,Reads s.heap u d.pd as
 |.cg,_,_,h,r,_=>by cases h;cases r;exact⟨_,.none⟩
 |.bl b,_,_,h,r,_=>by cases h;cases r;exact⟨_,.bool b⟩
 |.int i,_,_,h,r,_=>by cases h;obtain⟨t,rfl⟩:=r;exact⟨_,.int i t⟩
 |.str x,_,_,h,r,_=>by cases h;obtain⟨t,rfl⟩:=r;exact⟨_,.str x t⟩
 |.tup ds,_,_,h,r,c=>by
  obtain⟨a,vs,rfl,e,q⟩:=h;cases r;obtain⟨its,rv,⟨o,ho,hc,n,hd⟩,hz⟩:=I.tuple (tP.of e);obtain⟨as,ha⟩:=fZ I q rv (by simpa[D.pd,V5] using c)
  exact⟨_,.tuple ho hc hd (by simpa using ha)⟩
 |.lst ds,_,_,h,r,c=>by
  obtain⟨a,vs,rfl,e,_,q⟩:=h;cases r;obtain⟨z,its,n,rv,e'⟩:=I.bo a _ e;obtain⟨as,ha⟩:=fZ I q rv (by simpa[D.pd,V5] using c)
  exact⟨_,.list e' rfl rfl (by simpa using ha)⟩
 |.obj _,_,_,_,_,c=>by simp[D.pd,V5]at c
 |.dT _ _,_,_,_,_,c=>by simp[D.pd,V5]at c
 |.dK _ _,_,_,_,_,c=>by simp[D.pd,V5]at c
 |.sT _,_,_,_,_,c=>by simp[D.pd,V5]at c
 |.ob _,_,_,_,_,c=>by simp[D.pd,V5]at c
theorem fZ {X:Cx}{pins:List (Addr×Obj)}{σ:St}{H:Hp}{s:UL}(I:Inv X pins σ H s){W:Addr->Prop}:∀{ds:List D} {vs:List V} {us:List UK},rN X W H ds vs->Vals vs us->WU (D.fF ds)=true->∃as,ReadsAll s.heap us (D.fF ds) as
 |[],_,_,h,r,_=>by
  rw[show _=[] from h]at r
  cases r;exact⟨_,.nil⟩
 |d::ds,_,_,⟨v,vr,e,h1,h2⟩,r,c=>by
  subst e;have c':(d.pd.canLay0&&WU (D.fF ds))=true:=c;rw[VI]at c';cases r with
  |cons r1 r2 =>
   obtain⟨as,ha⟩:=bB I h1 r1 c'.1;obtain⟨bs,hb⟩:=fZ I h2 r2 c'.2;exact⟨_,.cons ha hb⟩
end
def Ip (a b:D):Option D:=if a.oh=true/\b.oh=true then some (.bl (VG a.pd b.pd)) else none
def Bc (a b:D):Option D:=if a.oh=true/\b.oh=true then some (.bl (!VG a.pd b.pd)) else none
section
variable {X:Cx}
theorem gd (hu:X.A.units+64<X7):bK X (VQ .Eq) Ip:=by
 intro pins s σ H x y v u Q I rx ry h;obtain⟨W,d1,d2,d,hd,r1,r2,e,q⟩:=h;obtain⟨⟨s1,s2⟩,rfl⟩:=cC e;obtain⟨as,ra⟩:=bB I r1 rx (Vz s1);obtain⟨bs,rb⟩:=bB I r2 ry (Vz s2);exact compareEq_shaped ra rb s1 s2 hu ⟨.bl _,H,I,rfl,q _ _ (aw.refl _) rfl⟩
theorem jh (hu:X.A.units+64<X7):bK X (VQ .NotEq) Bc:=by
 intro pins s σ H x y v u Q I rx ry h;obtain⟨W,d1,d2,d,hd,r1,r2,e,q⟩:=h;obtain⟨⟨s1,s2⟩,rfl⟩:=cC e;obtain⟨as,ra⟩:=bB I r1 rx (Vz s1);obtain⟨bs,rb⟩:=bB I r2 ry (Vz s2);exact compareNe_shaped ra rb s1 s2 hu ⟨.bl _,H,I,rfl,q _ _ (aw.refl _) rfl⟩
def Pf (a b:D):Option D:=match b.El with
 |true=>some (.bl a.El)
 |false=>none
theorem Rp.Cs {W:Addr->Prop}{H:Hp}{d:D}{v:V}(h:Rp X W H d v):v=.cg↔d=.cg:=by
 cases d with
 |cg=>cases h;simp
 |bl b=>cases h;simp
 |int i=>cases h;simp
 |str x=>cases h;simp
 |obj a=>cases h;simp
 |tup ds=>obtain⟨a,vs,rfl,_⟩:=h;simp
 |lst ds=>obtain⟨a,vs,rfl,_⟩:=h;simp
 |dT ks ds=>obtain⟨a,vs,rfl,_⟩:=h;simp
 |dK ks ds=>obtain⟨a,vs,rfl,_⟩:=h;simp
 |sT ts=>obtain⟨a,rfl,_⟩:=h;simp
 |ob φ=>obtain⟨a,rfl,_⟩:=h;simp
theorem zJ {b d e:D}(h:(match b.El with|true=>some d|false=>none)=some e):b=.cg/\e=d:=by
 cases q:b.El with
 |true=>rw[q]at h;cases h;exact⟨D.qE q,rfl⟩
 |false=>rw[q]at h;cases h
theorem Rp.Ct {W:Addr->Prop}{H:Hp}{d:D}{v:V}(h:Rp X W H d v):decide (v=.cg)=d.El:=by
 have q:=h.Cs.trans D.CH;cases e:d.El with
 |true=>exact decide_eq_true (q.mpr e)
 |false=>exact decide_eq_false λz=>by rw[q.mp z]at e;cases e
theorem uB:bK X (VQ .Is) Pf:=by
 intro pins s σ H x y v u Q I rx ry h;obtain⟨W,d1,d2,d,hd,r1,r2,e,q⟩:=h;obtain⟨rfl,rfl⟩:=zJ e;cases r2;exact FZ pins s σ H _ _ v u Q I rx ry ⟨rfl,q _ _ (aw.refl _) (congrArg V.bl r1.Ct)⟩
end
def Dy:D->D->Option Bool
 |a,.lst ds=>if a.oh=true/\(D.lst ds).oh=true then some ((D.fF ds).any λy=>VG y a.pd) else none
 |a,.tup ds=>if a.oh=true/\(D.tup ds).oh=true then some ((D.fF ds).any λy=>VG y a.pd) else none
 |_,_=>none
def Io (a b:D):Option D:=(Dy a b).map .bl
def jy (a b:D):Option D:=(Dy a b).map λc=>.bl (!c)
theorem j9 {ds:List D}{n:PyData}(hn:n=.list (D.fF ds)\/n=.tuple (D.fF ds))(h:shaped n=true):WU (D.fF ds)=true/\V2 (D.fF ds)<=64:=by
 have h1:=Vz h;have h2:=depth_of_shaped h;rcases hn with rfl|rfl
 ·refine⟨by simpa[V5] using h1,?_⟩
  have:Xu (.list (D.fF ds))=V2 (D.fF ds)+1:=by simp[Xu]
  lia
 ·refine⟨by simpa[V5] using h1,?_⟩
  have:Xu (.tuple (D.fF ds))=V2 (D.fF ds)+1:=by simp[Xu]
  lia
section
variable {X:Cx}
theorem lB (hu:X.A.units+64+1<X7):bK X (VQ .In) Io:=by
 intro pins s σ H x y v u Q I rx ry h;obtain⟨W,d1,d2,d,hd,r1,r2,e,q⟩:=h;cases d2 with
 |lst ds =>
  obtain⟨b,e1,rfl⟩:=U3.mp e;obtain⟨⟨s1,s2⟩,rfl⟩:=cC e1;obtain⟨as,ra⟩:=bB I r1 rx (Vz s1);obtain⟨bs,rb⟩:=bB I r2 ry (Vz s2);obtain⟨c1,c2⟩:=j9 (.inl rfl) s2;exact in_list_reads rb ra c1 (Vz s1) (by have:=XT (V2 (D.fF ds)) d1.pd.depth;lia) ⟨.bl _,H,I,rfl,q _ _ (aw.refl _) rfl⟩
 |tup ds =>
  obtain⟨b,e1,rfl⟩:=U3.mp e;obtain⟨⟨s1,s2⟩,rfl⟩:=cC e1;obtain⟨as,ra⟩:=bB I r1 rx (Vz s1);obtain⟨bs,rb⟩:=bB I r2 ry (Vz s2);obtain⟨c1,c2⟩:=j9 (.inr rfl) s2;exact in_tuple_reads rb ra c1 (Vz s1) (by have:=XT (V2 (D.fF ds)) d1.pd.depth;lia) ⟨.bl _,H,I,rfl,q _ _ (aw.refl _) rfl⟩
 |_=>cases e
theorem jg (hu:X.A.units+64+1<X7):bK X (VQ .NotIn) jy:=by
 intro pins s σ H x y v u Q I rx ry h;obtain⟨W,d1,d2,d,hd,r1,r2,e,q⟩:=h;cases d2 with
 |lst ds =>
  obtain⟨b,e1,rfl⟩:=U3.mp e;obtain⟨⟨s1,s2⟩,rfl⟩:=cC e1;obtain⟨as,ra⟩:=bB I r1 rx (Vz s1);obtain⟨bs,rb⟩:=bB I r2 ry (Vz s2);obtain⟨c1,c2⟩:=j9 (.inl rfl) s2;exact notIn_list_reads rb ra c1 (Vz s1) (by have:=XT (V2 (D.fF ds)) d1.pd.depth;lia) ⟨.bl _,H,I,rfl,q _ _ (aw.refl _) rfl⟩
 |tup ds =>
  obtain⟨b,e1,rfl⟩:=U3.mp e;obtain⟨⟨s1,s2⟩,rfl⟩:=cC e1;obtain⟨as,ra⟩:=bB I r1 rx (Vz s1);obtain⟨bs,rb⟩:=bB I r2 ry (Vz s2);obtain⟨c1,c2⟩:=j9 (.inr rfl) s2;exact notIn_tuple_reads rb ra c1 (Vz s1) (by have:=XT (V2 (D.fF ds)) d1.pd.depth;lia) ⟨.bl _,H,I,rfl,q _ _ (aw.refl _) rfl⟩
 |_=>cases e
def xa (a b:D):Option D:=match b.GD with
 |some i=>match a.GC with
  |some ds=>mK ds i
  |none=>match a.CG with
   |some ds=>mK ds i
   |none=>none
 |none=>none
theorem Ao {a b d:D}(h:xa a b=some d):∃ds i,(a=.lst ds\/a=.tup ds)/\b=.int i/\mK ds i=some d:=by
 unfold xa at h;cases hb:b.GD with
 |none=>rw[hb]at h;cases h
 |some i =>
  rw[hb]at h;cases ha:a.GC with
  |some ds=>rw[ha]at h;exact⟨ds,i,.inl (D.lK ha),D.iJ hb,h⟩
  |none =>
   rw[ha]at h;cases ht:a.CG with
   |some ds=>rw[ht]at h;exact⟨ds,i,.inr (D.lJ ht),D.iJ hb,h⟩
   |none=>rw[ht]at h;cases h
theorem rN.mK {W:Addr->Prop}{H:Hp}{ds:List D}{vs:List V}{i:Int}{d:D}(h:rN X W H ds vs)(e:L2.mK ds i=some d):∃v,L2.mK vs i=some v/\Rp X W H d v:=by
 unfold L2.mK at *
 rw[h.length];cases q:wH ds.length i with
 |none=>rw[q]at e;cases e
 |some j =>
  rw[q]at e;exact ai.get h e
theorem GB:EO X (P5 X xa):=by
 intro value slice pins s σ H x y v u Q I rx ry h hs;obtain⟨W,d1,d2,d,hd,r1,r2,e,q⟩:=h;obtain⟨ds,i,h,rfl,e⟩:=Ao e;cases r2;rcases h with rfl|rfl
 ·obtain⟨p,vs,rfl,h1,n1,q1⟩:=r1;obtain⟨z,hz,rz⟩:=rN.mK (X:=X) q1 e;exact cS value slice pins s σ H _ _ v u Q I rx ry ⟨p,vs,i,z,rfl,rfl,dO.of h1,hz,q _ _ (aw.refl _) rz⟩ hs
 ·obtain⟨p,vs,rfl,h1,q1⟩:=r1;obtain⟨z,hz,rz⟩:=rN.mK (X:=X) q1 e;exact zI value slice pins s σ H _ _ v u Q I rx ry ⟨p,vs,i,z,rfl,rfl,tP.of h1,hz,q _ _ (aw.refl _) rz⟩ hs
def cutD (xs:List D)(lo hi:Option Int):List D:=(xs.drop (HT.k8 xs.length 0 lo)).take (HT.k8 xs.length xs.length hi-HT.k8 xs.length 0 lo)
def QS:D->Option Int->Option Int->Option D
 |.lst ds,lo,hi=>some (.lst (cutD ds lo hi))
 |_,_,_=>none
def LC:List D->Option D
 |[.lst ds]=>some (.int ds.length)
 |[.tup ds]=>some (.int ds.length)
 |_=>none
theorem gE:cJ X (.builtin "len") LC:=by
 intro pins s σ H xs us Q I r h;obtain⟨W,ds,d,hd,r1,e,q⟩:=h
 match ds,e with
 |[.lst es],e =>
  cases e;obtain⟨v,r',rfl,⟨p,vs,rfl,h1,n1,q1⟩,hr⟩:=r1;cases hr;refine fA pins s σ H _ us Q I r ⟨p,vs,rfl,.inl (dO.of h1),?_⟩;rw[q1.length];exact q _ _ (aw.refl _) rfl
 |[.tup es],e =>
  cases e;obtain⟨v,r',rfl,⟨p,vs,rfl,h1,q1⟩,hr⟩:=r1;cases hr;refine fA pins s σ H _ us Q I r ⟨p,vs,rfl,.inr (tP.of h1),?_⟩;rw[q1.length];exact q _ _ (aw.refl _) rfl
def dList:List D->Option D
 |[.lst ds]=>some (.lst ds)
 |[.tup ds]=>some (.lst ds)
 |_=>none
def LB:List D->Option D
 |[.int i,.int j]=>some (.int (if j>i then j else i))
 |_=>none
def rd:List D->Option D
 |[.int i,.int j]=>some (.int (if j<i then j else i))
 |_=>none
theorem vt {W:Addr->Prop}{H:Hp}{a b:D}{xs:List V}(h:rN X W H [a,b] xs):∃x y,xs=[x,y]/\Rp X W H a x/\Rp X W H b y:=by
 obtain⟨x,r,rfl,hx,y,r',rfl,hy,hr⟩:=h;cases hr;exact⟨x,y,rfl,hx,hy⟩
theorem rq {W:Addr->Prop}{H:Hp}{a:D}{xs:List V}(h:rN X W H [a] xs):∃x,xs=[x]/\Rp X W H a x:=by
 obtain⟨x,r,rfl,hx,hr⟩:=h;cases hr;exact⟨x,rfl,hx⟩
theorem l0 (hc:X.calm=true):cJ X (.builtin "max") LB:=by
 intro pins s σ H xs us Q I r h;obtain⟨W,ds,d,hd,r1,e,q⟩:=h
 match ds,e with
 |[.int i,.int j],e =>
  cases e;obtain⟨x,y,rfl,hx,hy⟩:=vt r1;cases hx;cases hy;exact nI hc pins s σ H _ us Q I r ⟨i,j,rfl,q _ _ (aw.refl _) rfl⟩
theorem g8 (hc:X.calm=true):cJ X (.builtin "min") rd:=by
 intro pins s σ H xs us Q I r h;obtain⟨W,ds,d,hd,r1,e,q⟩:=h
 match ds,e with
 |[.int i,.int j],e =>
  cases e;obtain⟨x,y,rfl,hx,hy⟩:=vt r1;cases hx;cases hy;exact xh hc pins s σ H _ us Q I r ⟨i,j,rfl,q _ _ (aw.refl _) rfl⟩
def Pg:List D->Option D
 |[.int i]=>some (.int i)
 |[.bl k]=>some (.int (if k then 1 else 0))
 |_=>none
theorem xk:cJ X (.type "int") Pg:=by
 intro pins s σ H xs us Q I r h;obtain⟨W,ds,d,hd,r1,e,q⟩:=h
 match ds,e with
 |[.int i],e =>
  cases e;obtain⟨x,rfl,hx⟩:=rq r1;cases hx;exact nJ pins s σ H _ us Q I r (.inl ⟨i,rfl,q _ _ (aw.refl _) rfl⟩)
 |[.bl k],e =>
  cases e;obtain⟨x,rfl,hx⟩:=rq r1;cases hx;exact nJ pins s σ H _ us Q I r (.inr ⟨k,rfl,q _ _ (aw.refl _) rfl⟩)
end
abbrev Iv:=List (Option D)
abbrev Iw:=Iv->(D->Prop)->Prop
def Py (P:UP)(w:U1)(W:Addr->Prop)(H:Hp)(σ:St)(ρ:Iv):Prop:=∀(i:Nat) (d:D),ρ[i]?=some (some d)->∃v,σ[i]?=some (some v)/\ay P w W H d v
theorem PE.pre {X:Cx}{e:Expr}{t t':TE}(h:PE X e t)(k:∀σ H Q,t' σ H Q->t σ H Q):PE X e t':=λpins s σ H Q I q=>h pins s σ H Q I (k σ H Q q)
theorem PT.pre {X:Cx}{e:Expr}{t t':TT}(h:PT X e t)(k:∀σ H Q,t' σ H Q->t σ H Q):PT X e t':=λpins s σ H Q I q=>h pins s σ H Q I (k σ H Q q)
theorem PA.pre {X:Cx}{es:List Expr}{t t':TA}(h:PA X es t)(k:∀σ H Q,t' σ H Q->t σ H Q):PA X es t':=λpos pins s σ H Q I q=>h pos pins s σ H Q I (k σ H Q q)
structure QX (P:UP)(w:U1)(W:Addr->Prop)(σ:St)(H:Hp)(ρ:Iv):Prop where
 dm:Dm W H
 env:Py P w W H σ ρ
abbrev SE (X:Cx):(Addr->Prop)->St->Hp->Iv->Prop:=QX X.prog X.w
def tD (X:Cx)(φ:Iw):TE:=λσ H Q=>∃W ρ,SE X W σ H ρ/\φ ρ λd=>∀v H',aw H H'->Rp X W H' d v->Q v H'
structure PV (X:Cx)(e:Expr)(φ:Iw):Prop where
 mono:∀ρ R R',(∀d,R d->R' d)->φ ρ R->φ ρ R'
 pe:PE X e (tD X φ)
section
variable {X:Cx}{e:Expr}{φ:Iw}{pos:Pos}{W:Addr->Prop}{σ:St}{H:Hp}{ρ:Iv}
theorem tD.of (h:PV X e φ)(se:SE X W σ H ρ){R:D->Prop}{Q:VK}(hr:φ ρ R)(k:∀d v H',R d->aw H H'->Rp X W H' d v->Q v H'):tD X φ σ H Q :=
 ⟨W,ρ,se,h.mono ρ _ _ (λd hd v H' s r=>k d v H' hd s r) hr⟩
def O8 (i:Nat):Iw:=λρ R=>∃d,ρ[i]?=some (some d)/\R d
theorem yw {i:Nat}{x:Str}(hN:X.N[i]?=some x:=by rfl)(hv:rM X.env.scope x:=by first|exact .inl rfl|exact .inr (.inl rfl)|exact .inr (.inr rfl))(hd:(x==("__debug__" : Str))=false:=by decide)(fH:(x==("__classdict__" : Str))=false:=by decide):
  PV X (.Name x pos) (O8 i):=⟨λρ R R' k N8=> by obtain⟨d,e,h⟩ := N8;exact⟨d,e,k d h⟩,(cL hN hv hd fH).pre λσ H Q N7=> by
 obtain⟨W,ρ,se,d,e,q⟩ := N7;obtain⟨v,h1,h2⟩:=se.env i d e;exact⟨v,h1,q v H (aw.refl _) h2⟩⟩
theorem PW.pre {t t':TT}(h:PW X e t)(k:∀σ H Q,t' σ H Q->t σ H Q):PW X e t':=λw pins s σ H Q I q=>h w pins s σ H Q I (k σ H Q q)
end
abbrev FD:=List D->(D->Prop)->Prop
def dt (F:FD):Prop:=∀ds R R',(∀d,R d->R' d)->F ds R->F ds R'
section
end
section
variable {X:Cx}{e:Expr}{pos:Pos}{σ:St}{H:Hp}
theorem EN.pre {ops:List XZ}{rs:List Expr}{t t':V->TE}(h:EN X ops rs t)(k:∀x σ H Q,t' x σ H Q->t x σ H Q):EN X ops rs t':=λpos pins s σ H x v Q I r q=>h pos pins s σ H x v Q I r (k x σ H Q q)
theorem tU.pre {ops:List XZ}{rs:List Expr}{t t':V->TT}(h:tU X ops rs t)(k:∀x σ H Q,t' x σ H Q->t x σ H Q):tU X ops rs t':=λpos pins s σ H x v Q I r q=>h pos pins s σ H x v Q I r (k x σ H Q q)
theorem PO.pre {e:Option Expr}{t t':TO}(h:PO X e t)(k:∀σ H Q,t' σ H Q->t σ H Q):PO X e t':=λpins s σ H Q I q=>h pins s σ H Q I (k σ H Q q)
end
abbrev NF:D->Prop:=λd=>d.flat=true
section
abbrev NL:D->Prop:=λd=>match d with | .lst ds=>D.eW ds=true|d=>d.flat=true
end
section
variable {P:UP}{w:U1}{W W':Addr->Prop}{H:Hp}
mutual
theorem ay.grow (s:∀a,W' a->W a\/H a=none):∀{d:D} {v:V},ay P w W H d v->ay P w W' H d v
 |.cg,_,h=>h
 |.bl _,_,h=>h
 |.int _,_,h=>h
 |.str _,_,h=>h
 |.obj _,_,h=>h
 |.tup ds,_,⟨a,vs,e,t,r⟩=>⟨a,vs,e,t,ai.grow s r⟩
 |.lst ds,_,⟨a,vs,e,t,n,r⟩=>⟨a,vs,e,t,λz=>(s a z).elim n λq=>(by rw[t]at q;cases q),ai.grow s r⟩
 |.dT ks ds,_,⟨a,vs,e,t,l,n,r⟩=>⟨a,vs,e,t,l,λz=>(s a z).elim n λq=>(by rw[t]at q;cases q),ai.grow s r⟩
 |.dK ks ds,_,⟨a,vs,e,t,l,n,r⟩=>⟨a,vs,e,t,l,λz=>(s a z).elim n λq=>(by rw[t]at q;cases q),ai.grow s r⟩
 |.sT ts,_,⟨a,e,⟨A5,t,r,z⟩,n⟩=>⟨a,e,⟨A5,t,r,z⟩,λz=>(s a z).elim n λq=>(by rw[t]at q;cases q)⟩
 |.ob φ,_,⟨a,e,⟨t,z⟩,n⟩=>⟨a,e,⟨t,z⟩,λz=>(s a z).elim n λq=>(by rw[t]at q;cases q)⟩
theorem ai.grow (s:∀a,W' a->W a\/H a=none):∀{ds:List D} {vs:List V},ai P w W H ds vs->ai P w W' H ds vs
 |[],_,h=>h
 |d::ds,_,⟨v,r,e,h1,h2⟩=>⟨v,r,e,ay.grow s h1,ai.grow s h2⟩
end
end
def Tx (X:Cx)(W:Addr->Prop)(J:It)(ds:List D)(H0:Hp):Prop:=∀(i:Nat) (H:Hp),Kp W H0 H ->
 (∀d,ds[i]?=some d->J.go i H/\∀x H1,J.Iy i H x H1->aw H H1/\Rp X W H1 d x)/\(ds.length<=i->J.stop i H)
def AV (X:Cx)(W:Addr->Prop)(J:It)(ds:List D)(H0:Hp):Prop:=∀W':Addr->Prop,(∀b,W' b->W b\/H0 b=none)->Tx X W' J ds H0
section
variable {X:Cx}{tg e:Expr}
theorem PI.pre {iter:Expr}{t t':TI}(h:PI X tg iter t)(k:∀σ H R,t' σ H R->t σ H R):PI X tg iter t':=λpins s σ H R I q=>h pins s σ H R I (k σ H R q)
theorem qD {W:Addr->Prop}{H:Hp}{p:Addr}{vs:List V}{ds:List D}(h1:H p=some (.lst vs))(n1:¬ W p)(q1:rN X W H ds vs):AV X W (ML X.K p) ds H:=λW' hW i H' k=>by
 have h2:=k.out p _ h1 λz=>(hW p z).elim n1 λq=>by rw[h1]at q;cases q
 replace q1:=ai.grow hW q1;constructor
 ·intro d hd;obtain⟨v,hv,rv⟩:=ai.get q1 hd;refine⟨⟨vs,v,dO.of h2,hv⟩,λx H1 y=>?_⟩;obtain⟨rfl,y⟩:=y;have e:=y vs (dO.of h2);rw[hv]at e;cases e;exact⟨aw.refl _,rv.keep k⟩
 ·intro hl;exact⟨vs,dO.of h2,by rw[q1.length];exact hl⟩
def oi (lo:Int)(n:Nat):List D:=(Vy n).map λ(k:Nat)=>D.int (lo+(k:Int))
theorem jo {W:Addr->Prop}{H:Hp}{lo:Int}{n:Nat}:AV X W (LQ lo n) (oi lo n) H:=λ_ _ i H' k=>by
 constructor
 ·intro d hd;unfold oi at hd;rw[U8]at hd;have hi:i<n:=by
   by_cases h:i<n
   ·exact h
   ·rw[WS (by simpa using h)]at hd;cases hd
  rw[WA hi]at hd;cases hd;refine⟨hi,λx H1 y=>?_⟩;obtain⟨rfl,rfl⟩:=y;exact⟨aw.refl _,rfl⟩
 ·intro hl;unfold oi at hl;rw[UN,V1]at hl;exact hl
end
section
variable {X:Cx}{tg:Expr}{vD:List Expr}
theorem PG.pre {t t':TG}(h:PG X tg t)(k:∀v σ H Q,t' v σ H Q->t v σ H Q):PG X tg t':=λpins s σ H v u Q I r q=>h pins s σ H v u Q I r (k v σ H Q q)
theorem EL.pre {t t':EJ}(h:EL X vD t)(k:∀v σ H Q,t' v σ H Q->t v σ H Q):EL X vD t':=λpins s σ H v u Q I r q=>h pins s σ H v u Q I r (k v σ H Q q)
end
theorem jn {H:Hp}{a:Addr}{o o':HO}(h:H a=some o)(ht:∀xs,o≠.tup xs):Kp (·=a) H (upd H a o') :=
 ⟨λb u e n=>by rw[az n];exact e,λb xs e=>by rw[az (Ea e h (λz=>ht xs z.symm))];exact e⟩
section
end
section
end
section
end
section
variable {σ:St}{β:a3}{own:Nat->List Addr}
def aD (own:Nat->List Addr)(i:Nat)(as:List Addr):Nat->List Addr:=λj=>if j=i then as else own j
theorem bb {own:Nat->List Addr}{i j:Nat}{a:Addr}(h:a∈aD own i [] j):a∈own j/\j≠i:=by
 unfold aD at h
 by_cases e:j=i
 ·rw[if_pos e]at h;cases h
 ·rw[if_neg e]at h;exact⟨h,e⟩
theorem aP {α:Type}{β:List α}{i j:Nat}{x:α}(h:i≠j):(β.set i x)[j]?=β[j]?:=by rw[Ww,if_neg h]
theorem aU {α:Type}{β:List α}{i:Nat}{x y:α}(h:(β.set i x)[i]?=some y):y=x/\i<β.length:=by
 rw[Ww,if_pos rfl]at h
 by_cases hi:i<β.length
 ·rw[if_pos hi]at h;cases h;exact⟨rfl,hi⟩
 ·rw[if_neg hi]at h;cases h
theorem get_set {α:Type}{σ:List α}{i:Nat}{x:α}(h:i<σ.length):(σ.set i x)[i]?=some x:=by rw[Ww,if_pos rfl,if_pos h]
end
structure Sn (Z:Hp×(Addr->Prop))(H:Hp)(W:Addr->Prop):Prop where
 w:∀b,W b->Z.2 b\/Z.1 b=none
 k:Kp (λb=>Z.2 b\/Z.1 b=none) Z.1 H
 d:∀b,Z.1 b≠none->H b≠none
theorem Sn.refl {H:Hp}{W:Addr->Prop}:Sn (H,W) H W:=⟨λ_ z=>.inl z,Kp.refl,λ_ z=>z⟩
theorem Sn.same {Z:Hp×(Addr->Prop)}{H H':Hp}{W:Addr->Prop}(n:Sn Z H W)(s:aw H H'):Sn Z H' W:=⟨n.w,n.k.trans s.kp,λb z e=>n.d b z (s.free e)⟩
theorem Sn.free {Z:Hp×(Addr->Prop)}{H:Hp}{W:Addr->Prop}(n:Sn Z H W){a:Addr}(h:H a=none):Z.1 a=none:=by
 cases q:Z.1 a with
 |none=>rfl
 |some o=>exact absurd h (n.d a (by rw[q];intro z;cases z))
theorem Sn.upd {Z:Hp×(Addr->Prop)}{H:Hp}{W:Addr->Prop}(n:Sn Z H W){a:Addr}{o o':HO}(h:H a=some o)(ht:∀xs,o≠.tup xs)(wa:W a):Sn Z (L2.upd H a o') W :=
 ⟨n.w,n.k.trans ((jn h ht).mono λb z=>by rw[z];exact n.w a wa),λb z e=>by
  by_cases hb:b=a
  ·subst hb;rw[ao]at e;cases e
  ·rw[az hb]at e;exact n.d b z e⟩
theorem Sn.trans {Z:Hp×(Addr->Prop)}{H1 H:Hp}{W1 W:Addr->Prop}(n1:Sn Z H1 W1)(n:Sn (H1,W1) H W):Sn Z H W:=by
 have big:∀b,W1 b\/H1 b=none->Z.2 b\/Z.1 b=none:=λb z=>z.elim (n1.w b) λq=>.inr (n1.free q);exact⟨λb z=>big b (n.w b z),n1.k.trans (n.k.mono big),λb z=>n.d b (n1.d b z)⟩
section
variable {X:Cx}{st:Stmt}{rest:List Stmt}{σ:St}{H:Hp}
theorem PS.pre {t t':TS}(h:PS X st t)(k:∀D σ H,t' D σ H->t D σ H):PS X st t':=λpins s σ H D I q=>h pins s σ H D I (k D σ H q)
theorem pA.pre {t t':TS}(h:pA X rest t)(k:∀D σ H,t' D σ H->t D σ H):pA X rest t':=λpins s σ H D I q=>h pins s σ H D I (k D σ H q)
end
section
variable {b:Expr}{H:Hp}
theorem held {P:UP}{w:U1}{W W2:Addr->Prop}{H2:Hp}{d:D}{v:V}(r:ay P w W H d v)(n:Sn (H,W) H2 W2):ay P w W2 H2 d v :=
 ay.aO n.w (ay.keep n.k (ay.grow (λb z=>z) r))
end
theorem Sn.kp {Z:Hp×(Addr->Prop)}{H H':Hp}{W:Addr->Prop}(n:Sn Z H W)(k:Kp W H H')(dn:∀c,H c≠none->H' c≠none):Sn Z H' W:=⟨n.w,n.k.trans (k.mono n.w),λb z=>dn b (n.d b z)⟩
section
end
section
end
end L2
namespace HP
open PySem PySem.Spec PyProof.Rows
def c9:List Int->List Int->Bool
 |[],_=>false
 |_::_,[]=>true
 |x::xs,y::ys=>if x=y then c9 xs ys else decide (y<x)
theorem qv (x y:Int)(xs ys:List Int):c9 (x::xs) (y::ys)=if x=y then c9 xs ys else decide (y<x):=rfl
theorem zv:c9 [] []=false:=rfl
theorem zw (y:Int)(ys:List Int):c9 [] (y::ys)=false:=rfl
theorem zA (x:Int)(xs:List Int):c9 (x::xs) []=true:=rfl
section
open PySem.SeqAt
open PySem.AutoSeq1 (wpAny_loadPart')
open PySem.MeetsSeq PySem.MeetsSeq2 PySem.MeetsSeq3
end
section
end
theorem yt (A:VO)(s:UL)(a:Int)(t:Tok)(c:Int)(u:Tok)(prog:UP)(w:U1)(E:UK->UL->Prop)(Q:UK->UL->Prop)(h:Q (.bool (decide (c<a))) s):
  Vp (model prog w) A (richCompare .Gt (.int a t) (.int c u)) Q E s :=
 (PyProof.Rows.gt_int h:Vp (model prog w) A (VQ .Gt (.int a t) (.int c u)) Q E s)
section
open PySem.SeqAt
open PySem.AutoSeq1 (wpAny_loadPart')
open PySem.MeetsSeq PySem.MeetsSeq2 PySem.MeetsSeq3
theorem md (l b:Addr)(items cz:Array UK)(n n2:Nat)(dd Pb:Option Addr)(sl M_:Array (Option UK))(ns ms:List Int)(hi:WK items.toList ns)(hj:WK cz.toList ms):
  Meets (Xj.«tuple.__gt__» ⟨[.ref l,.ref b],[]⟩)
   (λ_ R s=>s.heap.get? l=some {cls:=.type "tuple",dict:=dd,data:=.seq items n,slots:=sl}/\s.heap.get? b=some {cls:=.type "tuple",dict:=Pb,data:=.seq cz n2,slots:=M_} /\
    R (.ok (.ret (.bool (c9 ns ms)))) s) :=
 .of_wp λprog w A R s h=>by
  obtain⟨hp,g,d,tk,os⟩:=s;obtain⟨hl,hb,h⟩:=h;have f2:=AutoSeq1.sub_tuple_tuple;have z1:items.size=ns.length:=by rw[<- hi.length];simp
  have z2:cz.size=ms.length:=by rw[<- hj.length];simp
  wp_walk using Xh hl,Xh hb,wpAny_forIn_list _ (λrest b s'=>b.1=none/\s'=⟨hp,g,d,tk,os⟩/\∃(vs ws:List UK) (ph HY:List Int),rest=vs.zip ws /\
   WK vs ph/\WK ws HY/\ph.length+cz.size=HY.length+items.size/\R (.ok (.ret (.bool (c9 ph HY)))) ⟨hp,g,d,tk,os⟩) _
  case turn =>
   rintro⟨y,x⟩ rest b s' ⟨lO,rfl,vs,ws,ph,HY,hz,N4,Mi,hlen,hR⟩;cases N4 with
   |nil=>rw[Yb]at hz;cases hz
   |cons a t N3 =>
    cases Mi with
    |nil=>rw[List.zip_nil_right]at hz;cases hz
    |cons c u N1 =>
     rw[Wt]at hz;injection hz with Sd zN
     injection Sd with hy hx
     subst hy hx;rw[qv]at hR;simp only[U7]at hlen;obtain⟨e,he,Ld⟩:=HT.Ah A.in1 ⟨hp,g,d,tk,os⟩ a t c u;refine UM (he prog w _ _ ?_);cases e with
     |true =>
      rw[if_pos (Ld.mp rfl)]at hR
      wp_walk
      exact⟨rfl,rfl,_,_,_,_,zN,N3,N1,by lia,hR⟩
     |false =>
      rw[if_neg (λq=>absurd (Ld.mpr q) VX)]at hR;have Sk:=yt A.in1 ⟨hp,g,d,tk,os⟩ a t c u prog w
      wp_walk using Sk
      exact⟨_,rfl,by simpa using hR⟩
  case fin =>
   rintro⟨b1,b2⟩ s' ⟨lO,rfl,vs,ws,ph,HY,hz,N4,Mi,hlen,hR⟩;simp only at lO;subst lO;have hv:c9 ph HY=decide (cz.size<items.size):=by
    cases N4 with
    |nil =>
     cases Mi with
     |nil =>
      simp only[XW]at hlen;rw[zv];exact(decide_eq_false (by lia)).symm
     |cons c u hw =>
      simp only[XW,U7]at hlen;rw[zw];exact(decide_eq_false (by lia)).symm
    |cons a t hv =>
     cases Mi with
     |nil =>
      simp only[XW,U7]at hlen;rw[zA];exact(decide_eq_true (by lia)).symm
     |cons c u hw =>
      rw[Wt]at hz;cases hz
   rw[hv]at hR
   wp_walk
   exact⟨_,rfl,by simpa[Builtin.Tuple.tupleCompareSizes] using hR⟩
  case h =>
   exact⟨rfl,rfl,items.toList,cz.toList,ns,ms,rfl,hi,hj,by lia,h⟩
end
section
variable {prog:UP}{w:U1}{A:VO}{E:UK->UL->Prop}{s:UL}
theorem sY {l b:Addr}{items cz:Array UK}{ns ms:List Int}{Q:UK->UL->Prop}(hl:IsTup s.heap l items)(hb:IsTup s.heap b cz)(hi:WK items.toList ns)(hj:WK cz.toList ms)
  (hu:A.units<X7) (h:Q (.bool (c9 ns ms)) s):Vp (model prog w) A (VQ .Gt (.ref l) (.ref b)) Q E s:=by
 obtain⟨⟨cls,dd,data,sl⟩,ho,hc,n,hd⟩:=id hl;obtain⟨⟨Tp,Pb,data2,M_⟩,Qz,pj,n2,hd2⟩:=id hb;simp only at hc hd pj hd2;subst hc hd pj hd2;exact richCompare_meets_room (op:=.Gt) ⟨_,ho,rfl⟩ ⟨_,Qz,rfl⟩ PySem.F.slot_tuple_gt PySem.F.entry_tuple_gt (PySem.F.args_tuple_gt_2 _ _) (md l b items cz n n2 dd Pb sl M_ ns ms hi hj)
  ⟨ho,Qz,show Value.bool (c9 ns ms)≠Value.notImplemented/\Q (.bool (c9 ns ms)) s from ⟨(λx=>nomatch x),h⟩⟩ hu
end
end HP
namespace L2
open PySem PySem.Spec PySem.SeqAt PyProof.Rows
def cj:List D->Option (List Int)
 |[]=>some []
 |.int i::ds=>(cj ds).map (i::·)
 |_::_=>none
theorem lL:∀{ds:List D} {ns:List Int},cj ds=some ns->ds=ns.map D.int
 |[],_,h=>by cases h;rfl
 |.int i::ds,_,h=>by
  obtain⟨ns,h1,rfl⟩:=U3.mp h;rw[Vd,<- lL h1]
 |.cg::_,_,h=>by cases h
 |.bl _::_,_,h=>by cases h
 |.str _::_,_,h=>by cases h
 |.obj _::_,_,h=>by cases h
 |.tup _::_,_,h=>by cases h
 |.lst _::_,_,h=>by cases h
 |.dT _ _::_,_,h=>by cases h
 |.dK _ _::_,_,h=>by cases h
 |.sT _::_,_,h=>by cases h
 |.ob _::_,_,h=>by cases h
theorem jq:∀(ns:List Int),cj (ns.map D.int)=some ns
 |[]=>rfl
 |n::ns=>by rw[Vd];show (cj (ns.map D.int)).map _=_;rw[jq ns];rfl
theorem bN {P:UP}{w:U1}{W:Addr->Prop}{H:Hp}:∀{ns:List Int} {vs:List V},ai P w W H (ns.map D.int) vs->vs=ns.map V.int
 |[],_,h=>h
 |n::ns,_,⟨v,r,e,h1,h2⟩=>by rw[e,bN h2,show v=V.int n from h1];rfl
theorem nk {P:UP}{w:U1}{W:Addr->Prop}{H:Hp}:∀(ns:List Int),ai P w W H (ns.map D.int) (ns.map V.int)
 |[]=>rfl
 |n::ns=>⟨_,_,rfl,rfl,nk ns⟩
def vm (p:Int->Int->Bool)(lex:List Int->List Int->Bool)(a b:D):Option D:=match a.CG,b.CG with
 |some a,some b=>match cj a,cj b with
  |some ns,some ms=>some (.bl (lex ns ms))
  |_,_=>none
 |_,_=>As p a b
theorem vC {p:Int->Int->Bool}{lex:List Int->List Int->Bool}{a b d:D}(h:vm p lex a b=some d):(∃i j ns ms,a=.tup i/\b=.tup j/\cj i=some ns/\cj j=some ms/\d=.bl (lex ns ms))\/As p a b=some d:=by
 unfold vm at h;cases ha:a.CG with
 |none=>rw[ha]at h;exact .inr h
 |some i =>
  cases hb:b.CG with
  |none=>rw[ha,hb]at h;exact .inr h
  |some j =>
   rw[ha,hb]at h;cases ea:cj i with
   |none=>simp only[ea]at h;cases h
   |some ns =>
    cases eb:cj j with
    |none=>simp only[ea,eb]at h;cases h
    |some ms=>simp only[ea,eb]at h;cases h;exact .inl ⟨i,j,ns,ms,D.lJ ha,D.lJ hb,ea,eb,rfl⟩
abbrev LD:D->D->Option D:=vm (λi j=>decide (j<i)) HP.c9
section
variable {X:Cx}
theorem zf {p:Int->Int->Bool}{lex:List Int->List Int->Bool}{op:XZ}(ho:iW X (VQ op) (BI λi j=>.bl (p i j)))
  (ht:∀(s:UL) (E:UK->UL->Prop) (l b:Addr) (items cz:Array UK) (ns ms:List Int) (Q:UK->UL->Prop),IsTup s.heap l items->IsTup s.heap b cz->WK items.toList ns->WK cz.toList ms->Q (.bool (lex ns ms)) s->Vp (model X.prog X.w) X.A (VQ op (.ref l) (.ref b)) Q E s) :
  bK X (VQ op) (vm p lex):=by
 intro pins s σ H x y v u Q I rx ry h;obtain⟨W,d1,d2,d,hd,r1,r2,e,q⟩:=h;rcases vC e with⟨a,b,ns,ms,rfl,rfl,ea,eb,rfl⟩|e
 ·rw[lL ea]at r1;rw[lL eb]at r2;obtain⟨pa,vs,rfl,ha,ra⟩:=r1;obtain⟨pb,us,rfl,hb,rb⟩:=r2;rw[bN ra]at ha;rw[bN rb]at hb;cases rx;cases ry;obtain⟨its,q1,p1,_⟩:=I.tuple (tP.of ha);obtain⟨qA,q2,p2,_⟩:=I.tuple (tP.of hb);exact ht s _ pa pb _ _ ns ms _ p1 p2 (by simpa using intsAre_of q1) (by simpa using intsAre_of q2) ⟨.bl _,H,I,rfl,q _ _ (aw.refl _) rfl⟩
 ·exact oH ho pins s σ H x y v u Q I rx ry ⟨W,_,_,d,hd,r1,r2,e,q⟩
theorem Ce (hu:X.A.units<X7):bK X (VQ .Gt) LD:=zf zb λs E l b items cz ns ms Q h1 h2 h3 h4 h5=>HP.sY h1 h2 h3 h4 hu h5
end
end L2
namespace TS
open PySem PyProof.Rows
section
end
end TS
namespace L2
open PySem PySem.Spec PyProof.Rows
def wD (H:Hp):UK->List Int
 |.ref t=>match H t with
  |some (.tup xs)=>xs.filterMap fun
   |.int i=>some i
   |_=>none
  |_=>[]
 |_=>[]
theorem qK:∀ns:List Int,((ns.map V.int).filterMap fun
   |.int i=>some i
   |_=>none)=ns
 |[]=>rfl
 |n::ns=>by
  rw[Vd,V4];dsimp only;rw[qK ns]
theorem lH {H:Hp}{t:Addr}{ns:List Int}(h:H t=some (.tup (ns.map V.int))):wD H (.ref t)=ns:=by
 unfold wD;dsimp only;rw[h];exact qK ns
def Hi (H:Hp):UK->Addr×List Int
 |.ref t=>(t,wD H (.ref t))
 |_=>(0,[])
abbrev HG (H:Hp)(ts:List (Addr×List Int)):Prop:=∀t∈ts,H t.1=some (.tup (t.2.map V.int))/\t.2≠[]
abbrev Bq (t:Addr×List Int):V:=.ref t.1
theorem mY:∀(ts:List (Addr×List Int)),Vals (ts.map Bq) (ts.map λt=>Value.ref t.1)
 |[]=>.nil
 |t::ts=>.cons rfl (mY ts)
theorem v9 {H:Hp}{ts:List (Addr×List Int)}(T:HG H ts){out:List UK}(hp:out.Perm (ts.map λt=>Value.ref t.1)):out=(out.map (Hi H)).map (λt=>Value.ref t.1)/\(out.map (Hi H)).Perm ts:=by
 constructor
 ·rw[VB];refine(VR (g:=id) λv hv=>?_).trans (List.map_id _) |>.symm
  obtain⟨t,ht,rfl⟩:=Vv.mp (hp.mem_iff.mp hv);rfl
 ·refine(hp.map (Hi H)).trans (YZ ?_);rw[VB];refine(VR (g:=id) λt ht=>?_).trans (List.map_id _);show (t.1,wD H (.ref t.1))=t;rw[lH (T t ht).1]
theorem Bl {P:UP}{w:U1}{H:Hp}{h:Heap}{ts:List (Addr×List Int)}(ok:fL P w H h)(T:HG H ts){a:Addr}(ha:h.objs.size<=a):TS.rC h (wD H) a (ts.map λt=>Value.ref t.1):=λv hv=>by
 obtain⟨t,ht,rfl⟩:=Vv.mp hv;obtain⟨h1,h2⟩:=T t ht;obtain⟨_,its,r,o,ho,hc,n,hd⟩:=(show bu P w H h t.1 (.tup (t.2.map V.int)) from ok _ _ h1)
 exact⟨t.1,o,_,n,rfl,VN (Vn (U_ ho) ha),ho,hc,hd,by rw[lH h1];exact intsAre_of (by simpa using r),by rw[lH h1];exact h2⟩
section
end
end L2
namespace TS
open PySem PyProof.Rows
section
variable {prog:UP}{w:U1}{A:VO}{E:UK->UL->Prop}{s:UL}
theorem r9 {x:UK}{vs:List UK}{kf:UK->List Int}{Q:UK->UL->Prop}(hz:vs.length<=1000000)
  (col:∀(R:List UK->UL->Prop),(∀(h':Heap) (tk:Nat),(∀b o,s.heap.get? b=some o->h'.get? b=some o)->R vs {s with heap:=h',toks:=tk})->Vp (model prog w) A.in1 (collect x) R E s)
  (T:rC s.heap kf s.heap.objs.size vs)
  (h:∀(out:List UK) (h1 h':Heap) (tk:Nat) (n:Nat),out.Perm vs->out.Pairwise (λx y=>HT.lexLt (kf y) (kf x)=false)->(∀b o,s.heap.get? b=some o->h1.get? b=some o)->(∀b o,h1.get? b=some o->h'.get? b=some o)->h'.get? h1.objs.size=some (Xm "list" out.toArray n)->Q (.ref h1.objs.size) {s with heap:=h',toks:=tk}) :
  Vp (model prog w) A (call (.builtin "sorted") [x]) Q E s:=by
 refine Calls.call_function_entry kind_sorted plain_sorted entry_sorted (args_sorted1 _) ?_;unfold Xj.«sorted»
 refine UM (m:=checkCount "sorted" 1 1 _) (U6 ?_);refine UM (col _ λh' tk kp=>?_);have nl:vs.length<=UW:=by rw[Wd];lia
 refine UM (wpAny_newList ?_ nl);have hl:(h'.push (Xm "list" vs.toArray 0)).get? h'.objs.size=some (Xm "list" vs.toArray 0):=VF _ rfl;have T':rC (h'.push (Xm "list" vs.toArray 0)) kf h'.objs.size vs:=λv hv=>by
  obtain⟨t,o,xs,k,e1,_,e3,r⟩:=T v hv;exact⟨t,o,xs,k,e1,VN (U_ (kp _ _ e3)),U5 _ (kp _ _ e3),r⟩
 refine UM (Wx (Yk slot_list_sort ⟨_,hl,rfl⟩ entry_list_sort (sJ (s:={s with heap:=h'.push (Xm "list" vs.toArray 0),toks:=tk}) hl hz T' λout hp hs=>⟨_,rfl,?_⟩) (args_list_sort _)))
 obtain⟨n,hn⟩:=sortedHeap_at (out:=out.toArray) hl;refine U6 ⟨_,rfl,h out h' _ tk n hp hs kp (λb o e=>?_) hn⟩;have hb:=U_ e;rw[sortedHeap_old (VN hb) (by rw[size_push'];exact Nat.lt_succ_of_lt hb)]
 exact U5 _ e
end
end TS
namespace ST
open PySem PyProof.Rows
section
end
end ST
namespace L2
open PySem PySem.Spec PySem.SeqAt PyProof.Rows HT
theorem ng:∀a:List Int,lexLt a a=false
 |[]=>rfl
 |x::xs=>by rw[cb,if_pos rfl];exact ng xs
theorem fv:∀{a b:List Int},lexLt a b=false->lexLt b a=false->a=b
 |[],[],_,_=>rfl
 |[],_::_,h,_=>by cases h
 |_::_,[],_,h=>by cases h
 |x::xs,y::ys,h1,h2=>by
  rw[cb]at h1 h2
  by_cases e:x=y
  ·subst e;rw[if_pos rfl]at h1 h2;rw[fv h1 h2]
  ·rw[if_neg e]at h1;rw[if_neg (λz=>e z.symm)]at h2;have:=of_decide_eq_false h1;have:=of_decide_eq_false h2;omega
theorem gY:∀{a b:List Int},lexLt a b=true->lexLt b a=false
 |[],[],h=>by cases h
 |[],_::_,_=>rfl
 |_::_,[],h=>by cases h
 |x::xs,y::ys,h=>by
  rw[cb]at h ⊢
  by_cases e:x=y
  ·subst e;rw[if_pos rfl]at h ⊢
   exact gY h
  ·rw[if_neg e]at h;rw[if_neg (λz=>e z.symm)];have:=of_decide_eq_true h;exact decide_eq_false (by lia)
theorem gg:∀{a b c:List Int},lexLt a b=true->lexLt b c=true->lexLt a c=true
 |[],[],_,h,_=>by cases h
 |[],_::_,[],_,h=>by cases h
 |[],_::_,_::_,_,_=>rfl
 |_::_,[],_,h,_=>by cases h
 |x::xs,y::ys,[],_,h=>by cases h
 |x::xs,y::ys,z::zs,h1,h2=>by
  rw[cb]at h1 h2 ⊢
  by_cases e:x=y
  ·subst e;rw[if_pos rfl]at h1
   by_cases e2:x=z
   ·subst e2;rw[if_pos rfl]at h2 ⊢
    exact gg h1 h2
   ·rw[if_neg e2]at h2 ⊢
    exact h2
  ·rw[if_neg e]at h1;have q1:=of_decide_eq_true h1
   by_cases e2:y=z
   ·subst e2;rw[if_neg e];exact h1
   ·rw[if_neg e2]at h2;have q2:=of_decide_eq_true h2;rw[if_neg (by omega)]
    exact decide_eq_true (by omega)
def sQ (k:List Int):List (List Int)->List (List Int)
 |[]=>[k]
 |x::xs=>if lexLt x k=true then x::sQ k xs else k::x::xs
def jI:List (List Int)->List (List Int)
 |[]=>[]
 |k::ks=>sQ k (jI ks)
theorem jt (k:List Int):∀xs,(sQ k xs).Perm (k::xs)
 |[]=>.refl _
 |x::xs=>by
  unfold sQ
  split
  ·exact((jt k xs).cons x).trans (List.Perm.swap _ _ _)
  ·exact .refl _
theorem ij:∀ks,(jI ks).Perm ks
 |[]=>.refl _
 |k::ks=>(jt k (jI ks)).trans ((ij ks).cons k)
abbrev rD (ks:List (List Int)):Prop:=ks.Pairwise λx y=>HT.lexLt y x=false
theorem le_trans' {a b c:List Int}(h1:lexLt b a=false)(h2:lexLt c b=false):lexLt c a=false:=by
 cases h:lexLt c a with
 |false=>rfl
 |true =>
  cases hb:lexLt a b with
  |true=>rw[gg h hb]at h2;cases h2
  |false =>
   have:=fv hb h1;subst this;rw[h]at h2;cases h2
theorem nr (k:List Int):∀xs,rD xs->rD (sQ k xs)
 |[],_=>by simp[sQ]
 |x::xs,h=>by
  obtain⟨h1,h2⟩:=VP.mp h;unfold sQ
  split
  ·rename_i hx
   refine VP.mpr ⟨λy hy=>?_,nr k xs h2⟩;rcases UQ.mp ((jt k xs).mem_iff.mp hy)with rfl|hy
   ·exact gY hx
   ·exact h1 y hy
  ·rename_i hx
   have HZ:lexLt x k=false:=by cases q:lexLt x k <;> simp_all
   refine VP.mpr ⟨λy hy=>?_,h⟩;rcases UQ.mp hy with rfl|hy
   ·exact HZ
   ·exact le_trans' HZ (h1 y hy)
theorem kS:∀ks,rD (jI ks)
 |[]=>.nil
 |k::ks=>nr k _ (kS ks)
theorem jH:∀{a b:List (List Int)},a.Perm b->rD a->rD b->a=b
 |[],b,p,_,_=>by rw[List.nil_perm.mp p]
 |x::a,[],p,_,_=>by have:=p.length_eq;simp at this
 |x::a,y::b,p,ha,hb=>by
  obtain⟨a1,a2⟩:=VP.mp ha;obtain⟨b1,b2⟩:=VP.mp hb;have NW:x=y:=by
   rcases UQ.mp (p.mem_iff.mp (UY (a:=x) (l:=a)))with h|h
   ·exact h
   ·rcases UQ.mp (p.mem_iff.mpr (UY (a:=y) (l:=b)))with h' | h'
    ·exact h'.symm
    ·exact fv (b1 x h) (a1 y h')
  subst NW;rw[jH (List.perm_cons x |>.mp p) a2 b2]
theorem Ff {a b:List (List Int)}(p:a.Perm b)(h:rD a):a=jI b:=jH (p.trans (ij b).symm) h (kS b)
abbrev kD (k:List Int):D:=.tup (k.map D.int)
section
variable {P:UP}{w:U1}{W:Addr->Prop}{H:Hp}
theorem mX:∀{ts:List (Addr×List Int)},(∀t∈ts,H t.1=some (.tup (t.2.map V.int)))->ai P w W H ((ts.map (·.2)).map kD) (ts.map Bq)
 |[],_=>rfl
 |t::ts,h=>⟨_,_,rfl,⟨t.1,_,rfl,h t (UY ..),nk t.2⟩,mX λx hx=>h x (UU _ hx)⟩
end
section
end
def bR:FD:=λds R=>∃n:Int,ds=[.int n]/\0<n/\n<2 ^ 200/\∀r:Int,0<=r->r<n->R (.int r)
theorem bR.mono:dt bR:=λds R R' k ⟨n,e,h1,h2,q⟩=>⟨n,e,h1,h2,λr a b=>k _ (q r a b)⟩
section
end
section
variable {X:Cx}{W:Addr->Prop}{H:Hp}
theorem wo {p:Addr}{vs:List V}{ds:List D}(n:H p=none)(f:NL (.lst ds))(r:rN X W H ds vs):Rp X (λa=>H a≠none) (upd H p (.lst vs)) (.lst ds) (.ref p) :=
 ⟨p,vs,rfl,ao,λz=>z n,ai.flat f (r.same (aw.new n))⟩
def Ni (X:Cx)(f:D->D->Option D):R2:=λx y H Q=>∃W d1 d2 d,Dm W H/\Rp X W H d1 x/\Rp X W H d2 y/\f d1 d2=some d/\∀v H',aw H H'->Rp X W H' d v->(NL d->Rp X (λa=>H a≠none) H' d v)->Q v H'
def Nh (X:Cx)(f:List D->Option D):List V->Hp->VK->Prop:=λxs H Q=>∃W ds d,Dm W H/\rN X W H ds xs/\f ds=some d/\∀v H',aw H H'->Rp X W H' d v->(NL d->Rp X (λa=>H a≠none) H' d v)->Q v H'
def Je (X:Cx)(f:D->Option Int->Option Int->Option D):V->Option Int->Option Int->Hp->VK->Prop:=λx lo hi H Q=>∃W d1 d,Dm W H/\Rp X W H d1 x/\f d1 lo hi=some d/\∀v H',aw H H'->Rp X W H' d v->(NL d->Rp X (λa=>H a≠none) H' d v)->Q v H'
abbrev LO (X:Cx)(f:UK->UK->Sem UK)(g:D->D->Option D):Prop:=iW X f (Ni X g)
abbrev AZ (X:Cx)(f:UK)(g:List D->Option D):Prop:=eZ X f (Nh X g)
theorem aF:LO X (Wq .Add) Av:=by
 intro pins s σ H x y v u Q I rx ry h;obtain⟨W,d1,d2,d,hd,r1,r2,e,q⟩:=h;rcases wy e with⟨a,b,rfl,rfl,e⟩|e
 ·obtain⟨hl,rfl⟩:=cC e;obtain⟨p,vs,rfl,h1,n1,q1⟩:=r1;obtain⟨p',vs',rfl,h2,n2,q2⟩:=r2;exact zg pins s σ H _ _ v u Q I rx ry ⟨p,p',vs,vs',rfl,rfl,h1,h2,by rw[q1.length,q2.length];exact hl,λl wO=>q _ _ (aw.new wO) (Rp.jk hd wO (q1.append q2)) λf=>wo wO f (q1.append q2)⟩
 ·obtain⟨i,j,rfl,rfl,e⟩:=jr e;cases e;cases r1;cases r2;exact oI pins s σ H _ _ v u Q I rx ry ⟨i,j,rfl,rfl,q _ _ (aw.refl _) rfl λ_=>rfl⟩
theorem Bz:Po X (Je X QS):=by
 intro pins s σ H x v vl vu lo hi sl Q I rx hs pl pu h;obtain⟨W,d1,d,hd,r1,e,q⟩:=h;cases d1 with
 |lst ds =>
  cases e;obtain⟨p,vs,rfl,h1,n1,q1⟩:=r1;have rr:rN X W H (cutD ds lo hi) (rh vs lo hi):=by
   unfold rh cutD;rw[q1.length];exact(ai.drop _ q1).take _
  exact uc pins s σ H _ v vl vu lo hi sl Q I rx hs pl pu ⟨p,vs,rfl,dO.of h1,λl hl=>q _ _ (aw.new hl) (Rp.jk hd hl rr) λf=>wo hl f rr⟩
 |_=>cases e
theorem rm:AZ X (.type "list") dList:=by
 intro pins s σ H xs us Q I r h;obtain⟨W,ds,d,hd,r1,e,q⟩:=h
 match ds,e with
 |[.lst es],e =>
  cases e;obtain⟨v,r',rfl,⟨p,vs,rfl,h1,n1,q1⟩,hr⟩:=r1;cases hr;exact iT pins s σ H _ us Q I r ⟨p,vs,rfl,.inl (dO.of h1),λl hl=>q _ _ (aw.new hl) (Rp.jk hd hl q1) λf=>wo hl f q1⟩
 |[.tup es],e =>
  cases e;obtain⟨v,r',rfl,⟨p,vs,rfl,h1,q1⟩,hr⟩:=r1;cases hr;exact iT pins s σ H _ us Q I r ⟨p,vs,rfl,.inr (tP.of h1),λl hl=>q _ _ (aw.new hl) (Rp.jk hd hl q1) λf=>wo hl f q1⟩
end
section
end
end L2
namespace L2.Q
open PySem PySem.Spec PySem.SeqAt PyProof.Rows
section
variable (P:UP)(w:U1)(H:Hp)
mutual
def Own:D->V->List Addr->Prop
 |.tup ds,v,A=>∃a vs,v=.ref a/\H a=some (.tup vs)/\aK ds vs A
 |.lst ds,v,A=>∃a vs A',v=.ref a/\H a=some (.lst vs)/\A=a::A'/\aK ds vs A'
 |.dT ks ds,v,A=>∃a vs A',v=.ref a/\H a=some (.dT (ks.zip vs))/\ks.length=vs.length/\A=a::A'/\aK ds vs A'
 |.dK ks ds,v,A=>∃a vs A',v=.ref a/\H a=some (.dK (ks.zip vs))/\ks.length=vs.length/\A=a::A'/\aK ds vs A'
 |.sT ts,v,A=>∃a,v=.ref a/\DJ P w H a ts/\A=[a]
 |.ob φ,v,A=>∃a,v=.ref a/\(H a=some (φ a)/\∀xs,φ a≠.tup xs)/\A=[a]
 |.cg,v,A=>v=.cg/\A=[]
 |.bl b,v,A=>v=.bl b/\A=[]
 |.int i,v,A=>v=.int i/\A=[]
 |.str x,v,A=>v=.str x/\A=[]
 |.obj a,v,A=>v=.ref a/\A=[]
def aK:List D->List V->List Addr->Prop
 |[],vs,A=>vs=[]/\A=[]
 |d::ds,vs,A=>∃v r A1 A2,vs=v::r/\A=A1++A2/\Own d v A1/\aK ds r A2
end
end
section
variable {P:UP}{w:U1}{W:Addr->Prop}{H H':Hp}
theorem vK {a:Addr}{ts:List (List Int)}(k:∀b xs,H b=some (.tup xs)->H' b=some (.tup xs))(ha:∀o,H a=some o->H' a=some o)(h:DJ P w H a ts):DJ P w H' a ts :=
 let ⟨A5,e,r,z⟩:=h;⟨A5,ha _ e,λx hx=>k _ _ (r x hx),z⟩
mutual
theorem Own.keep (k:∀b xs,H b=some (.tup xs)->H' b=some (.tup xs)):∀{d:D} {v:V} {A:List Addr},(∀c∈A,∀o,H c=some o->H' c=some o)->Own P w H d v A->Own P w H' d v A
 |.tup ds,_,_,ha,⟨a,vs,e,t,r⟩=>⟨a,vs,e,k a vs t,aK.keep k ha r⟩
 |.lst ds,_,_,ha,⟨a,vs,A',e,t,eA,r⟩=>⟨a,vs,A',e,ha a (by rw[eA];simp) _ t,eA,aK.keep k (λc hc=>ha c (by rw[eA];simp[hc])) r⟩
 |.dT ks ds,_,_,ha,⟨a,vs,A',e,t,l,eA,r⟩=>⟨a,vs,A',e,ha a (by rw[eA];simp) _ t,l,eA,aK.keep k (λc hc=>ha c (by rw[eA];simp[hc])) r⟩
 |.dK ks ds,_,_,ha,⟨a,vs,A',e,t,l,eA,r⟩=>⟨a,vs,A',e,ha a (by rw[eA];simp) _ t,l,eA,aK.keep k (λc hc=>ha c (by rw[eA];simp[hc])) r⟩
 |.sT ts,_,_,ha,⟨a,e,r,eA⟩=>⟨a,e,vK k (λo ho=>ha a (by rw[eA];simp) o ho) r,eA⟩
 |.ob φ,_,_,ha,⟨a,e,r,eA⟩=>⟨a,e,⟨ha a (by rw[eA];simp) _ r.1,r.2⟩,eA⟩
 |.cg,_,_,_,h=>h
 |.bl _,_,_,_,h=>h
 |.int _,_,_,_,h=>h
 |.str _,_,_,_,h=>h
 |.obj _,_,_,_,h=>h
theorem aK.keep (k:∀b xs,H b=some (.tup xs)->H' b=some (.tup xs)):∀{ds:List D} {vs:List V} {A:List Addr},(∀c∈A,∀o,H c=some o->H' c=some o)->aK P w H ds vs A->aK P w H' ds vs A
 |[],_,_,_,h=>h
 |d::ds,_,_,ha,⟨v,r,A1,A2,e,eA,h1,h2⟩=>⟨v,r,A1,A2,e,eA,Own.keep k (λc hc=>ha c (by rw[eA];simp[hc])) h1,aK.keep k (λc hc=>ha c (by rw[eA];simp[hc])) h2⟩
end
mutual
theorem Own.rep:∀{d:D} {v:V} {A:List Addr},(∀c∈A,¬ W c)->Own P w H d v A->ay P w W H d v
 |.tup ds,_,_,ha,⟨a,vs,e,t,r⟩=>⟨a,vs,e,t,aK.rep ha r⟩
 |.lst ds,_,_,ha,⟨a,vs,A',e,t,eA,r⟩=>⟨a,vs,e,t,ha a (by rw[eA];simp),aK.rep (λc hc=>ha c (by rw[eA];simp[hc])) r⟩
 |.dT ks ds,_,_,ha,⟨a,vs,A',e,t,l,eA,r⟩=>⟨a,vs,e,t,l,ha a (by rw[eA];simp),aK.rep (λc hc=>ha c (by rw[eA];simp[hc])) r⟩
 |.dK ks ds,_,_,ha,⟨a,vs,A',e,t,l,eA,r⟩=>⟨a,vs,e,t,l,ha a (by rw[eA];simp),aK.rep (λc hc=>ha c (by rw[eA];simp[hc])) r⟩
 |.sT ts,_,_,ha,⟨a,e,r,eA⟩=>⟨a,e,r,ha a (by rw[eA];simp)⟩
 |.ob φ,_,_,ha,⟨a,e,r,eA⟩=>⟨a,e,r,ha a (by rw[eA];simp)⟩
 |.cg,_,_,_,h=>h.1
 |.bl _,_,_,_,h=>h.1
 |.int _,_,_,_,h=>h.1
 |.str _,_,_,_,h=>h.1
 |.obj _,_,_,_,h=>h.1
theorem aK.rep:∀{ds:List D} {vs:List V} {A:List Addr},(∀c∈A,¬ W c)->aK P w H ds vs A->ai P w W H ds vs
 |[],_,_,_,h=>h.1
 |d::ds,_,_,ha,⟨v,r,A1,A2,e,eA,h1,h2⟩=>⟨v,r,e,Own.rep (λc hc=>ha c (by rw[eA];simp[hc])) h1,aK.rep (λc hc=>ha c (by rw[eA];simp[hc])) h2⟩
end
mutual
theorem Own.l9:∀{d:D} {v:V} {A:List Addr},Own P w H d v A->∀c∈A,H c≠none/\∀xs,H c≠some (.tup xs)
 |.tup ds,_,_,⟨a,vs,e,t,r⟩,c,hc=>aK.l9 r c hc
 |.lst ds,_,_,⟨a,vs,A',e,t,eA,r⟩,c,hc=>by
  rw[eA]at hc;rcases UQ.mp hc with rfl|hc
  ·rw[t];exact⟨λz=>(nomatch z),λxs z=>by cases z⟩
  ·exact aK.l9 r c hc
 |.dT ks ds,_,_,⟨a,vs,A',e,t,l,eA,r⟩,c,hc=>by
  rw[eA]at hc;rcases UQ.mp hc with rfl|hc
  ·rw[t];exact⟨λz=>(nomatch z),λxs z=>by cases z⟩
  ·exact aK.l9 r c hc
 |.dK ks ds,_,_,⟨a,vs,A',e,t,l,eA,r⟩,c,hc=>by
  rw[eA]at hc;rcases UQ.mp hc with rfl|hc
  ·rw[t];exact⟨λz=>(nomatch z),λxs z=>by cases z⟩
  ·exact aK.l9 r c hc
 |.sT ts,_,_,⟨a,e,⟨A5,t,r,z⟩,eA⟩,c,hc=>by
  rw[eA]at hc;rw[UX.mp hc,t];exact⟨λz=>(nomatch z),λxs z=>by cases z⟩
 |.ob φ,_,_,⟨a,e,⟨t,z⟩,eA⟩,c,hc=>by
  rw[eA]at hc;rw[UX.mp hc,t];exact⟨λz=>(nomatch z),λxs q=>z xs (VE q)⟩
 |.cg,_,_,h,c,hc=>by rw[h.2]at hc;cases hc
 |.bl _,_,_,h,c,hc=>by rw[h.2]at hc;cases hc
 |.int _,_,_,h,c,hc=>by rw[h.2]at hc;cases hc
 |.str _,_,_,h,c,hc=>by rw[h.2]at hc;cases hc
 |.obj _,_,_,h,c,hc=>by rw[h.2]at hc;cases hc
theorem aK.l9:∀{ds:List D} {vs:List V} {A:List Addr},aK P w H ds vs A->∀c∈A,H c≠none/\∀xs,H c≠some (.tup xs)
 |[],_,_,h,c,hc=>by rw[h.2]at hc;cases hc
 |d::ds,_,_,⟨v,r,A1,A2,e,eA,h1,h2⟩,c,hc=>by
  rw[eA]at hc;rcases Vl.mp hc with hc|hc
  ·exact Own.l9 h1 c hc
  ·exact aK.l9 h2 c hc
end
mutual
theorem eS:∀{d:D} {v:V},d.flat=true->ay P w W H d v->Own P w H d v []
 |.tup ds,_,f,⟨a,vs,e,t,r⟩=>⟨a,vs,e,t,jc (by simpa[D.flat] using f) r⟩
 |.lst ds,_,f,_=>by simp[D.flat]at f
 |.dT ks ds,_,f,_=>by simp[D.flat]at f
 |.dK ks ds,_,f,_=>by simp[D.flat]at f
 |.sT ts,_,f,_=>by simp[D.flat]at f
 |.ob φ,_,f,_=>by simp[D.flat]at f
 |.cg,_,_,h=>⟨h,rfl⟩
 |.bl _,_,_,h=>⟨h,rfl⟩
 |.int _,_,_,h=>⟨h,rfl⟩
 |.str _,_,_,h=>⟨h,rfl⟩
 |.obj _,_,_,h=>⟨h,rfl⟩
theorem jc:∀{ds:List D} {vs:List V},D.eW ds=true->ai P w W H ds vs->aK P w H ds vs []
 |[],_,_,h=>⟨h,rfl⟩
 |d::ds,_,f,⟨v,r,e,h1,h2⟩=>by
  have f':(d.flat&&D.eW ds)=true:=f;rw[VI]at f';exact⟨v,r,[],[],e,rfl,eS f'.1 h1,jc f'.2 h2⟩
end
theorem aK.length:∀{ds:List D} {vs:List V} {A:List Addr},aK P w H ds vs A->vs.length=ds.length
 |[],_,_,h=>by rw[h.1];rfl
 |d::ds,_,_,⟨v,r,A1,A2,e,eA,h1,h2⟩=>by rw[e,U7,U7,aK.length h2]
theorem aK.append:∀{ds ds':List D} {vs vs':List V} {A A':List Addr},aK P w H ds vs A->aK P w H ds' vs' A'->aK P w H (ds++ds') (vs++vs') (A++A')
 |[],_,_,_,_,_,h,h'=>by rw[h.1,h.2];exact h'
 |d::ds,_,_,_,_,_,⟨v,r,A1,A2,e,eA,h1,h2⟩,h'=>by
  subst e eA;exact⟨v,_,A1,_,rfl,by rw[VC],h1,aK.append h2 h'⟩
theorem aK.one {d:D}{v:V}{A:List Addr}(h:Own P w H d v A):aK P w H [d] [v] A:=⟨v,[],A,[],rfl,by simp,h,rfl,rfl⟩
theorem aK.split:∀{ds:List D} {vs:List V} {A:List Addr} {i:Nat} {d:D},aK P w H ds vs A->ds[i]?=some d->∃v A1 A2 A3,vs[i]?=some v/\A=A1++(A2++A3)/\aK P w H (ds.take i) (vs.take i) A1/\Own P w H d v A2/\aK P w H (ds.drop (i+1)) (vs.drop (i+1)) A3
 |[],_,_,_,_,_,e=>by simp at e
 |d::ds,_,_,0,_,⟨v,r,A1,A2,e,eA,h1,h2⟩,e'=>by
  simp at e';subst e' e eA;exact⟨v,[],A1,A2,by simp,by simp,⟨rfl,rfl⟩,h1,by simpa using h2⟩
 |d::ds,_,_,i+1,_,⟨v,r,A1,A2,e,eA,h1,h2⟩,e'=>by
  subst e eA;obtain⟨u,B1,B2,B3,g1,g2,g3,g4,g5⟩:=aK.split (i:=i) h2 (by simpa using e')
  exact⟨u,A1++B1,B2,B3,by simpa using g1,by rw[g2];simp[VC],by simpa using ⟨v,_,A1,B1,rfl,rfl,h1,g3⟩,g4,by simpa using g5⟩
end
inductive Kd where
 |own|cE|old|bor
inductive B where
 |val (y:Bool) (d:D)|own (d:D)|hand (ok:List Int->Prop)|shl (y:Bool) (d:D)
abbrev a3:=List (Option B)
structure Cfg where
 H0:Hp
 IO:Addr->Prop
 /-- is the result to be Jx own -/
 ro:Bool
 /-- what else ND data keeps off -/
 U:Addr->Prop:=λ_=>False
abbrev Wn (own:Nat->List Addr):Addr->Prop:=λa=>∃i,a∈own i
def av (C:Cfg)(W:Addr->Prop):Kd->Addr->Prop
 |.own,a=>W a\/C.H0 a≠none
 |.cE,a=>W a\/C.H0 a≠none
 |.old,a=>W a
 |.bor,_=>False
def eN (C:Cfg)(W:Addr->Prop)(k:Kd)(a:Addr):Prop:=av C W k a\/C.U a
abbrev yk (y:Bool):Kd:=match y with|true=>.cE|false=>.old
def HU:D->HO->List V->Prop
 |.lst _,o,vs=>o=.lst vs
 |.dT ks _,o,vs=>o=.dT (ks.zip vs)/\ks.length=vs.length
 |.dK ks _,o,vs=>o=.dK (ks.zip vs)/\ks.length=vs.length
 |_,_,_=>False
def IY:D->List D
 |.lst ds=>ds
 |.dT _ ds=>ds
 |.dK _ ds=>ds
 |_=>[]
def HI (P:UP)(w:U1)(W:Addr->Prop)(H:Hp)(d:D)(v:V)(A:List Addr):Prop:=∃a o vs,v=.ref a/\A=[a]/\H a=some o/\HU d o vs/\ai P w W H (IY d) vs
theorem HI.map {P:UP}{w:U1}{W W':Addr->Prop}{H H':Hp}{d:D}{v:V}{A:List Addr}(h:HI P w W H d v A)(ha:∀c∈A,∀o,H c=some o->H' c=some o)(hr:∀ds vs,ai P w W H ds vs->ai P w W' H' ds vs):HI P w W' H' d v A :=
 let ⟨a,o,vs,e1,e2,e3,e4,r⟩:=h;⟨a,o,vs,e1,e2,ha a (by rw[e2];simp) o e3,e4,hr _ _ r⟩
theorem HI.rep {P:UP}{w:U1}{W W':Addr->Prop}{H:Hp}{d:D}{v:V}{A:List Addr}(h:HI P w W H d v A)(ha:∀c∈A,¬ W' c)(hs:∀ds vs,ai P w W H ds vs->ai P w W' H ds vs):ay P w W' H d v:=by
 obtain⟨a,o,vs,rfl,rfl,e,sh,r⟩:=h;have na:=ha a (by simp)
 replace r:=hs _ _ r;cases d with
 |lst ds=>cases sh;exact⟨a,vs,rfl,e,na,r⟩
 |dT ks ds=>obtain⟨rfl,l⟩:=sh;exact⟨a,vs,rfl,e,l,na,r⟩
 |dK ks ds=>obtain⟨rfl,l⟩:=sh;exact⟨a,vs,rfl,e,l,na,r⟩
 |_=>exact sh.elim
structure bz (P:UP)(w:U1)(C:Cfg)(σ:St)(H:Hp)(β:a3)(own:Nat->List Addr):Prop where
 len:β.length=σ.length
 val:∀(i:Nat) (y:Bool) (d:D),β[i]?=some (some (.val y d))->∃v,σ[i]?=some (some v)/\ay P w (eN C (Wn own) (yk y)) H d v
 ow:∀(i:Nat) (d:D),β[i]?=some (some (.own d))->∃v,σ[i]?=some (some v)/\Own P w H d v (own i)/\∀c∈own i,C.H0 c=none
 nz:∀(i:Nat) (ok:List Int->Prop),β[i]?=some (some (.hand ok))->∃a ns,σ[i]?=some (some (.ref a))/\H a=some (.lst (ns.map V.int))/\ok ns/\own i=[a]/\((∀b,¬ C.IO b)\/C.IO a)
 dm:∀(i:Nat) (a:Addr),a∈own i->H a≠none/\(∀xs,H a≠some (.tup xs))/\(C.H0 a=none\/C.IO a)/\¬ C.U a
 g_:∀(i j:Nat) (a:Addr),a∈own i->a∈own j->i=j
 l7:∀i,(own i).Nodup
 kp:Kp C.IO C.H0 H
 fP:∀a,C.H0 a≠none->H a≠none
 shl:∀(i:Nat) (y:Bool) (d:D),β[i]?=some (some (.shl y d))->∃v,σ[i]?=some (some v)/\HI P w (eN C (Wn own) (yk y)) H d v (own i)/\∀c∈own i,C.H0 c=none
abbrev SQ (X:Cx):=bz X.prog X.w
section
variable {P:UP}{w:U1}{C:Cfg}{σ:St}{H H':Hp}{β:a3}{own:Nat->List Addr}{W W':Addr->Prop}
theorem bz.pq (b:bz P w C σ H β own):Dm (Wn own) H:=λa ⟨i,h⟩=>(b.dm i a h).1
theorem bz.Ak (b:bz P w C σ H β own)(k:Kd):Dm (av C (Wn own) k) H:=λa h=>by
 cases k with
 |own=>exact h.elim (b.pq a) (b.fP a)
 |cE=>exact h.elim (b.pq a) (b.fP a)
 |old=>exact b.pq a h
 |bor=>exact h.elim
theorem iU (s:∀a,W' a->W a)(k:Kd):∀a,av C W' k a->av C W k a:=λa h=>by
 cases k with
 |own=>exact h.imp (s a) id
 |cE=>exact h.imp (s a) id
 |old=>exact s a h
 |bor=>exact h
theorem eY (s:∀a,W' a->W a)(k:Kd):∀a,eN C W' k a->eN C W k a:=λa h=>h.imp (iU s k a) id
theorem bz.keep (b:bz P w C σ H β own)(k:Kp (λa=>H a=none) H H')(kp:Kp C.IO H H')(dn:∀a,H a≠none->H' a≠none):bz P w C σ H' β own:=by
 have ko:∀c o,H c=some o->H' c=some o:=λc o e=>k.out c o e (by rw[e];exact λz=>(nomatch z))
 have same:aw H H':=ko;exact⟨b.len,λi y d e=>let ⟨v,h1,h2⟩:=b.val i y d e;⟨v,h1,h2.same same⟩,λi d e=>let ⟨v,h1,h2,h3⟩:=b.ow i d e;⟨v,h1,h2.keep (λ_ _ e=>same _ _ e) (λc _ o e=>same c o e),h3⟩,
  λi ok e=>let ⟨a,ns,h1,h2,h3⟩:=b.nz i ok e;⟨a,ns,h1,same _ _ h2,h3⟩,λi a h=>by
   obtain⟨h1,h2,h3⟩:=b.dm i a h;cases q:H a with
   |none=>exact absurd q h1
   |some o=>rw[same a o q];exact⟨λz=>(nomatch z),λxs z=>h2 xs (by rw[q];exact z),h3⟩,b.g_,b.l7,b.kp.trans kp,λa z=>dn a (b.fP a z),λi y d e=>let ⟨v,h1,h2,h3⟩:=b.shl i y d e;⟨v,h1,h2.map (λc _ o e=>same c o e) (λ_ _ r=>r.same same),h3⟩⟩
theorem bz.same (b:bz P w C σ H β own)(s:aw H H'):bz P w C σ H' β own:=b.keep s.kp s.kp λa z e=>z (s.free e)
theorem cZ {own:Nat->List Addr}{i:Nat}{a:Addr}(h:Wn (aD own i []) a):Wn own a:=let ⟨j,q⟩:=h;⟨j,(bb q).1⟩
theorem a_ {own:Nat->List Addr}{i j:Nat}{A:List Addr}(h:i≠j):aD own i A j=own j:=by unfold aD;rw[if_neg (W7 h)]
theorem os_eq {own:Nat->List Addr}{i:Nat}{A:List Addr}:aD own i A i=A:=by unfold aD;rw[if_pos rfl]
theorem bz.cK {i:Nat}{d:D}{v:V}{y:Bool}(b:bz P w C σ H β own)(r:ay P w (eN C (Wn own) (yk y)) H d v):bz P w C (σ.set i (some v)) H (β.set i (some (.val y d))) (aD own i []):=by
 have sub:∀y a,eN C (Wn (aD own i [])) (yk y) a->eN C (Wn own) (yk y) a:=λy=>eY (λa h=>cZ h) _;refine⟨by simp[b.len],λj y' d' e=>?_,λj d' e=>?_,λj ok e=>?_,λj a h=>b.dm j a (bb h).1,λj k a h1 h2=>b.g_ j k a (bb h1).1 (bb h2).1,λj=>?_,b.kp,b.fP,λj y' d' e=>?_⟩
 ·by_cases aC:i=j
  ·subst aC;obtain⟨e',hl⟩:=aU e;cases e';exact⟨v,get_set (by rw[<- b.len];exact hl),r.aO (sub _)⟩
  ·rw[aP aC]at e ⊢
   obtain⟨u,h1,h2⟩:=b.val j y' d' e;exact⟨u,h1,h2.aO (sub _)⟩
 ·by_cases aC:i=j
  ·subst aC;obtain⟨e',hl⟩:=aU e;cases e'
  ·rw[aP aC]at e ⊢
   rw[a_ aC];exact b.ow j d' e
 ·by_cases aC:i=j
  ·subst aC;obtain⟨e',hl⟩:=aU e;cases e'
  ·rw[aP aC]at e ⊢
   rw[a_ aC];exact b.nz j ok e
 ·by_cases aC:i=j
  ·rw[aC,os_eq];exact VY
  ·rw[a_ aC];exact b.l7 j
 ·by_cases aC:i=j
  ·subst aC;obtain⟨e',hl⟩:=aU e;cases e'
  ·rw[aP aC]at e ⊢
   rw[a_ aC];obtain⟨u,h1,h2,h3⟩:=b.shl j y' d' e;exact⟨u,h1,h2.map (λ_ _ _ z=>z) (λ_ _ r=>ai.aO (sub _) r),h3⟩
theorem bz.r_ {i:Nat}{d:D}{v:V}{A:List Addr}(b:bz P w C σ H β own)(r:Own P w H d v A)(nd:A.Nodup)(nw:∀c∈A,C.H0 c=none/\¬ Wn own c/\C.U c):
  bz P w {C with U:=λ_=>False} (σ.set i (some v)) H (β.set i (some (.own d))) (aD own i A):=by
 have sub:∀y a,eN {C with U:=λ_=>False} (Wn (aD own i A)) (yk y) a->eN C (Wn own) (yk y) a:=λy a h=>by
  have q:∀a,Wn (aD own i A) a->Wn own a\/a∈A:=λa zP=>by
   obtain⟨j,q⟩:=zP
   by_cases aC:i=j
   ·rw[aC,os_eq]at q;exact .inr q
   ·rw[a_ aC]at q;exact .inl ⟨j,q⟩
  have q':∀a,Wn (aD own i A) a->Wn own a\/C.U a:=λa z=>(q a z).imp id λz=>(nw a z).2.2;rcases h with h|h
  ·cases y with
   |true=>exact h.elim (λz=>(q' a z).imp .inl id) λz=>.inl (.inr z)
   |false=>exact q' a h
  ·exact h.elim
 have mem:∀{j c},c∈aD own i A j->(i=j/\c∈A)\/(i≠j/\c∈own j):=λ{j c} h=>by
  by_cases aC:i=j
  ·subst aC;rw[os_eq]at h;exact .inl ⟨rfl,h⟩
  ·rw[a_ aC]at h;exact .inr ⟨aC,h⟩
 refine⟨by simp[b.len],λj y' d' e=>?_,λj d' e=>?_,λj ok e=>?_,λj a h=>?_,λj k a h1 h2=>?_,λj=>?_,b.kp,b.fP,λj y' d' e=>?_⟩
 ·by_cases aC:i=j
  ·subst aC;obtain⟨e',hl⟩:=aU e;cases e'
  ·rw[aP aC]at e ⊢
   obtain⟨u,h1,h2⟩:=b.val j y' d' e;exact⟨u,h1,h2.aO (sub _)⟩
 ·by_cases aC:i=j
  ·subst aC;obtain⟨e',hl⟩:=aU e;cases e';rw[os_eq];exact⟨v,get_set (by rw[<- b.len];exact hl),r,λc hc=>(nw c hc).1⟩
  ·rw[aP aC]at e ⊢
   rw[a_ aC];exact b.ow j d' e
 ·by_cases aC:i=j
  ·subst aC;obtain⟨e',hl⟩:=aU e;cases e'
  ·rw[aP aC]at e ⊢
   rw[a_ aC];exact b.nz j ok e
 ·rcases mem h with⟨_,h⟩|⟨_,h⟩
  ·exact⟨(r.l9 a h).1,(r.l9 a h).2,.inl (nw a h).1,λz=>z⟩
  ·exact⟨(b.dm j a h).1,(b.dm j a h).2.1,(b.dm j a h).2.2.1,λz=>z⟩
 ·rcases mem h1 with⟨e1,h1⟩|⟨n1,h1⟩
  ·rcases mem h2 with⟨e2,h2⟩|⟨n2,h2⟩
   ·rw[<- e1,<- e2]
   ·exact absurd ⟨k,h2⟩ (nw a h1).2.1
  ·rcases mem h2 with⟨e2,h2⟩|⟨n2,h2⟩
   ·exact absurd ⟨j,h1⟩ (nw a h2).2.1
   ·exact b.g_ j k a h1 h2
 ·by_cases aC:i=j
  ·rw[<- aC,os_eq];exact nd
  ·rw[a_ aC];exact b.l7 j
 ·by_cases aC:i=j
  ·subst aC;obtain⟨e',hl⟩:=aU e;cases e'
  ·rw[aP aC]at e ⊢
   rw[a_ aC];obtain⟨u,h1,h2,h3⟩:=b.shl j y' d' e;exact⟨u,h1,h2.map (λ_ _ _ z=>z) (λ_ _ r=>ai.aO (sub _) r),h3⟩
theorem bz.freeze {i:Nat}{d:D}(b:bz P w C σ H β own)(h:β[i]?=some (some (.own d))):bz P w C σ H (β.set i (some (.val true d))) (aD own i []):=by
 obtain⟨v,h1,h2,h3⟩:=b.ow i d h;have e:σ.set i (some v)=σ:=by
  apply WW;intro j;rw[Ww]
  by_cases aC:i=j
  ·subst aC;rw[if_pos rfl,h1];have:i<σ.length:=(U0.mp h1).1;rw[if_pos this]
  ·rw[if_neg aC]
 have q:=bz.cK (i:=i) (d:=d) (v:=v) (y:=true) (own:=aD own i []) (C:=C) (P:=P) (w:=w) (σ:=σ) (H:=H) (β:=β.set i none);have b':bz P w C σ H (β.set i none) (aD own i []):=by
  have sub:∀y a,eN C (Wn (aD own i [])) (yk y) a->eN C (Wn own) (yk y) a:=λy=>eY (λa h=>cZ h) _;refine⟨by simp[b.len],λj y' d' e=>?_,λj d' e=>?_,λj ok e=>?_,λj a h=>b.dm j a (bb h).1,λj k a h1 h2=>b.g_ j k a (bb h1).1 (bb h2).1,λj=>?_,b.kp,b.fP,λj y' d' e=>?_⟩
  ·by_cases aC:i=j
   ·subst aC;obtain⟨e',hl⟩:=aU e;cases e'
   ·rw[aP aC]at e;obtain⟨u,h1,h2⟩:=b.val j y' d' e;exact⟨u,h1,h2.aO (sub _)⟩
  ·by_cases aC:i=j
   ·subst aC;obtain⟨e',hl⟩:=aU e;cases e'
   ·rw[aP aC]at e;rw[a_ aC];exact b.ow j d' e
  ·by_cases aC:i=j
   ·subst aC;obtain⟨e',hl⟩:=aU e;cases e'
   ·rw[aP aC]at e;rw[a_ aC];exact b.nz j ok e
  ·by_cases aC:i=j
   ·rw[aC,os_eq];exact VY
   ·rw[a_ aC];exact b.l7 j
  ·by_cases aC:i=j
   ·subst aC;obtain⟨e',hl⟩:=aU e;cases e'
   ·rw[aP aC]at e;rw[a_ aC];obtain⟨u,h1,h2,h3⟩:=b.shl j y' d' e;exact⟨u,h1,h2.map (λ_ _ _ z=>z) (λ_ _ r=>ai.aO (sub _) r),h3⟩
 have q:=bz.cK (i:=i) (d:=d) (v:=v) (y:=true) b' (h2.rep λc hc z=>by
  rcases z with (z|z)|z
  ·obtain⟨j,hj⟩:=z;obtain⟨hj,ne⟩:=bb hj;exact ne (b.g_ j i c hj hc)
  ·exact z (h3 c hc)
  ·exact(b.dm i c hc).2.2.2 z)
 rw[e,Xw]at q;have eo:aD (aD own i []) i []=aD own i []:=by
  funext j
  by_cases aC:i=j
  ·rw[<- aC,os_eq,os_eq]
  ·rw[a_ aC,a_ aC]
 rwa [eo]at q
abbrev Cfg.u (C:Cfg)(U:Addr->Prop):Cfg:={C with U:=U}
theorem bz.jE {U:Addr->Prop}(b:bz P w C σ H β own)(hU:∀a,U a->H a=none):bz P w (C.u U) σ H β own :=
 ⟨b.len,λi y d e=>let ⟨v,h1,h2⟩:=b.val i y d e;⟨v,h1,ay.grow (λa z=>z.elim (λz=>.inl (.inl z)) λz=>.inr (hU a z)) h2⟩,b.ow,b.nz,λi a h=>let ⟨h1,h2,h3,_⟩:=b.dm i a h;⟨h1,h2,h3,λz=>h1 (hU a z)⟩,b.g_,b.l7,b.kp,b.fP,λi y d e=>let ⟨v,h1,h2,h3⟩:=b.shl i y d e;⟨v,h1,h2.map (λ_ _ _ z=>z) (λ_ _ r=>ai.grow (λa z=>z.elim (λz=>.inl (.inl z)) λz=>.inr (hU a z)) r),h3⟩⟩
theorem bz.Qf {U:Addr->Prop}(b:bz P w (C.u U) σ H β own):bz P w (C.u λ_=>False) σ H β own :=
 ⟨b.len,λi y d e=>let ⟨v,h1,h2⟩:=b.val i y d e;⟨v,h1,ay.aO (λa z=>z.elim .inl λz=>z.elim) h2⟩,b.ow,b.nz,λi a h=>let ⟨h1,h2,h3,_⟩:=b.dm i a h;⟨h1,h2,h3,λz=>z⟩,b.g_,b.l7,b.kp,b.fP,λi y d e=>let ⟨v,h1,h2,h3⟩:=b.shl i y d e;⟨v,h1,h2.map (λ_ _ _ z=>z) (λ_ _ r=>ai.aO (λa z=>z.elim .inl λz=>z.elim) r),h3⟩⟩
theorem bz.fR {i:Nat}{y:Bool}{d:D}(b:bz P w C σ H β own)(e:β[i]?=some (some (.val y d))):∃v,σ[i]?=some (some v)/\ay P w (av C (Wn own) (yk y)) H d v:=let ⟨v,h1,h2⟩:=b.val i y d e;⟨v,h1,ay.aO (λa z=>.inl z) h2⟩
end
def KV (P:UP)(w:U1)(C:Cfg)(Z:Hp×(Addr->Prop))(own:Nat->List Addr)(H:Hp):Kd->D->V->Prop
 |.own,d,v=>∃A,Own P w H d v A/\A.Nodup/\∀c∈A,Z.1 c=none/\¬ Wn own c/\C.H0 c=none
 |.cE,d,v=>ay P w (av C (Wn own) .cE) H d v
 |.old,d,v=>ay P w (av C (Wn own) .old) H d v
 |.bor,d,v=>ay P w (av C (Wn own) .bor) H d v
structure Pq (P:UP)(w:U1)(C:Cfg)(σ:St)(H:Hp)(own:Nat->List Addr)(p:Bool)(β':a3)(H':Hp)(aS:Nat->List Addr):Prop where
 sq:bz P w C σ H' β' aS
 sn:Sn (H,Wn own) H' (Wn aS)
 pu:p=true->aw H H'/\aS=own
 le:∀a,Wn aS a->Wn own a
abbrev Out (X:Cx):=Pq X.prog X.w
section
variable {X:Cx}{C:Cfg}{σ:St}{H H1 H2 H':Hp}{own aB aZ:Nat->List Addr}{p p':Bool}{β β1 β2 β':a3}{Z:Hp×(Addr->Prop)}{d:D}{v:V}{k:Kd}{P:UP}{w:U1}
theorem Out.refl (s:SQ X C σ H β own)(p:Bool):Out X C σ H own p β H own:=⟨s,Sn.refl,λ_=>⟨aw.refl _,rfl⟩,λ_ z=>z⟩
theorem Out.trans (a:Out X C σ H own p β1 H1 aB)(b:Out X C σ H1 aB p' β2 H2 aZ):Out X C σ H own (p&&p') β2 H2 aZ:=⟨b.sq,a.sn.trans b.sn,λh=>by
 rw[VI]at h;obtain⟨s1,e1⟩:=a.pu h.1;obtain⟨s2,e2⟩:=b.pu h.2;exact⟨s1.trans s2,e2.trans e1⟩,λc z=>a.le c (b.le c z)⟩
theorem Out.same (a:Out X C σ H own p β1 H1 aB)(s:aw H1 H2):Out X C σ H own p β1 H2 aB:=⟨a.sq.same s,a.sn.same s,λh=>let ⟨s1,e1⟩:=a.pu h;⟨s1.trans s,e1⟩,a.le⟩
theorem Out.wk (a:Out X C σ H own p β1 H1 aB)(h:p'=true->p=true):Out X C σ H own p' β1 H1 aB:=⟨a.sq,a.sn,λz=>a.pu (h z),a.le⟩
theorem Out.xu {q:Bool}(a:Out X C σ H own p β1 H1 aB)(b:Out X C σ H1 aB p' β2 H2 aZ)(h:q=true->p=true/\p'=true):Out X C σ H own q β2 H2 aZ:=(a.trans b).wk λz=>by rw[(h z).1,(h z).2];rfl
theorem KV.rep (h:KV P w C Z own H k d v):ay P w (av C (Wn own) k) H d v:=by
 cases k with
 |own=>obtain⟨A,h1,h2,h3⟩:=h;exact h1.rep λc hc z=>z.elim (h3 c hc).2.1 λz=>z (h3 c hc).2.2
 |_=>exact h
theorem KV.cE (h:KV P w C Z own H .own d v):KV P w C Z own H .cE d v:=KV.rep (k:=.own) h
theorem KV.flat {W:Addr->Prop}(f:d.flat=true)(h:ay P w W H d v):KV P w C Z own H .own d v:=⟨[],eS f h,VY,λc hc=>(nomatch hc)⟩
abbrev Kd.wk:Kd->Kd
 |.own=>.cE
 |.cE=>.cE
 |.old=>.old
 |.bor=>.bor
abbrev Kd.max:Kd->Kd->Kd
 |.bor,_=>.bor
 |_,.bor=>.bor
 |.old,_=>.old
 |_,.old=>.old
 |_,_=>.cE
theorem cD {W:Addr->Prop}{a b:Kd}:∀c,av C W (a.max b) c->av C W a c:=λc h=>by
 cases a <;> cases b <;> first|exact h|exact h.elim|exact .inl h
theorem eg {W:Addr->Prop}{a b:Kd}:∀c,av C W (a.max b) c->av C W b c:=λc h=>by
 cases a <;> cases b <;> first|exact h|exact h.elim|exact .inl h
theorem KV.of (h:ay P w (av C (Wn own) k.wk) H d v):KV P w C Z own H k.wk d v:=by
 cases k <;> exact h
theorem KV.IZ (h:KV P w C Z own H k d v)(s:aw H H'):KV P w C Z own H' k d v:=by
 cases k with
 |own=>obtain⟨A,h1,h2⟩:=h;exact⟨A,h1.keep (λb xs e=>s _ _ e) (λc _ o e=>s c o e),h2⟩
 |cE=>exact ay.same s h
 |old=>exact ay.same s h
 |bor=>exact ay.same s h
theorem KV.held (hk:k≠.bor)(h:KV P w C Z own H k d v)(n:Sn (H,Wn own) H2 (Wn aZ)):KV P w C Z aZ H2 k d v:=by
 cases k with
 |own =>
  obtain⟨A,h1,h2,h3⟩:=h;refine⟨A,h1.keep n.k.tup (λc hc o e=>n.k.out c o e λz=>z.elim (h3 c hc).2.1 λz=>(h1.l9 c hc).1 z),h2,λc hc=>⟨(h3 c hc).1,λz=>(n.w c z).elim (h3 c hc).2.1 λz=>(h1.l9 c hc).1 z,(h3 c hc).2.2⟩⟩
 |cE =>
  have g:ay P w (λa=>av C (Wn own) .cE a\/H a=none) H d v:=ay.grow (λb z=>z) h;exact ay.aO (λb z=>z.elim (λz=>(n.w b z).imp .inl id) λz=>.inl (.inr z)) (ay.keep (n.k.mono λb z=>z.imp .inl id) g)
 |old=>exact held (W:=Wn own) h n
 |bor=>exact absurd rfl hk
theorem KV.Li (h:KV P w C Z own H k d v)(s:aw H H2)(e:aZ=own):KV P w C Z aZ H2 k d v:=by rw[e];exact h.IZ s
abbrev hold (k:Kd)(p:Bool):Prop:=match k,p with
 |.bor,false=>False
 |_,_=>True
theorem KV.ho (h:KV P w C Z own H k d v)(o:Out X C σ H own p β' H2 aZ)(hh:hold k p):KV P w C Z aZ H2 k d v:=by
 cases p with
 |true=>obtain⟨s,e⟩:=o.pu rfl;exact h.Li s e
 |false=>exact h.held (by rintro rfl;exact hh) o.sn
theorem KV.later (h:KV P w C (H1,Wn aB) own H k d v)(n:Sn Z H1 (Wn aB)):KV P w C Z own H k d v:=by
 cases k with
 |own=>obtain⟨A,h1,h2,h3⟩:=h;exact⟨A,h1,h2,λc hc=>⟨n.free (h3 c hc).1,(h3 c hc).2⟩⟩
 |_=>exact h
end
abbrev aQ:=a3->(D->Kd->a3->Prop)->Prop
abbrev a8:=a3->(Bool->a3->Prop)->Prop
abbrev b3:=a3->(List D->List Kd->a3->Prop)->Prop
def tQ (X:Cx)(C:Cfg)(p:Bool)(φ:aQ):TE:=λσ H Q=>∃β own,SQ X C σ H β own/\φ β λd k β'=>∀v H' aS,Out X C σ H own p β' H' aS->KV X.prog X.w C (H,Wn own) aS H' k d v->Q v H'
def jG (X:Cx)(C:Cfg)(p:Bool)(φ:a8):TT:=λσ H Q=>∃β own,SQ X C σ H β own/\φ β λb β'=>∀H' aS,Out X C σ H own p β' H' aS->Q b H'
def KF (P:UP)(w:U1)(C:Cfg)(own:Nat->List Addr)(H:Hp):List Kd->List D->List V->List Addr->Prop
 |[],ds,vs,A=>ds=[]/\vs=[]/\A=[]
 |k::ks,ds,vs,A=>∃d dr v vr A1 A2,ds=d::dr/\vs=v::vr/\A=A1++A2/\(match k with | .own=>Own P w H d v A1|k=>A1=[]/\ay P w (av C (Wn own) k) H d v)/\KF P w C own H ks dr vr A2
def rF (P:UP)(w:U1)(C:Cfg)(Z:Hp×(Addr->Prop))(own:Nat->List Addr)(H:Hp)(ks:List Kd)(ds:List D)(vs:List V):Prop :=
 ∃A,KF P w C own H ks ds vs A/\A.Nodup/\∀c∈A,Z.1 c=none/\¬ Wn own c/\C.H0 c=none
def rH (X:Cx)(C:Cfg)(p:Bool)(φ:b3):TA:=λσ H Q=>∃β own,SQ X C σ H β own/\φ β λds ks β'=>∀vs H' aS,Out X C σ H own p β' H' aS->rF X.prog X.w C (H,Wn own) aS H' ks ds vs->Q vs H'
section
variable {C:Cfg}{H H1:Hp}{own aB:Nat->List Addr}{Z:Hp×(Addr->Prop)}{d:D}{v:V}{k:Kd}{P:UP}{w:U1}{ks:List Kd}{ds:List D}{vs:List V}
theorem rF.nil:rF P w C Z own H [] [] []:=⟨[],⟨rfl,rfl,rfl⟩,VY,λc hc=>(nomatch hc)⟩
theorem KF.l9:∀{ks:List Kd} {ds:List D} {vs:List V} {A:List Addr},KF P w C own H ks ds vs A->∀c∈A,H c≠none
 |[],_,_,_,⟨_,_,e⟩,c,hc=>by rw[e]at hc;cases hc
 |k::ks,_,_,_,⟨d,dr,v,vr,A1,A2,rfl,rfl,rfl,h1,h2⟩,c,hc=>by
  rcases Vl.mp hc with hc|hc
  ·cases k with
   |own=>exact(Own.l9 h1 c hc).1
   |_=>rw[h1.1]at hc;cases hc
  ·exact KF.l9 h2 c hc
theorem rF.cons (h1:KV P w C Z aB H1 k d v)(n:Sn (H1,Wn aB) H (Wn own))(wU:KV P w C Z own H k d v)(h2:rF P w C (H1,Wn aB) own H ks ds vs)(n0:Sn Z H1 (Wn aB)):rF P w C Z own H (k::ks) (d::ds) (v::vs):=by
 obtain⟨A2,f2,Cw,q2⟩:=h2;have z2:∀c∈A2,Z.1 c=none/\¬ Wn own c/\C.H0 c=none:=λc hc=>⟨n0.free (q2 c hc).1,(q2 c hc).2⟩;cases k with
 |own =>
  obtain⟨A1,o1,HX,q1⟩:=h1;obtain⟨UJ,Ug,RU,P8⟩:=(show KV P w C Z own H .own d v from KV.held (k:=.own) (λz=>(nomatch z)) (⟨A1,o1,HX,q1⟩:KV P w C Z aB H1 .own d v) n)
  have Nz:Own P w H d v A1:=o1.keep n.k.tup (λc hc o e=>n.k.out c o e λz=>z.elim (q1 c hc).2.1 λz=>(o1.l9 c hc).1 z);refine⟨A1++A2,⟨d,ds,v,vs,A1,A2,rfl,rfl,rfl,Nz,f2⟩,VV.mpr ⟨HX,Cw,λa ha b hb e=>?_⟩,λc hc=>?_⟩
  ·subst e;exact(o1.l9 a ha).1 (q2 a hb).1
  ·rcases Vl.mp hc with hc|hc
   ·exact⟨(q1 c hc).1,λz=>(n.w c z).elim (q1 c hc).2.1 λz=>(o1.l9 c hc).1 z,(q1 c hc).2.2⟩
   ·exact z2 c hc
 |cE=>exact⟨A2,⟨d,ds,v,vs,[],A2,rfl,rfl,rfl,⟨rfl,wU⟩,f2⟩,Cw,z2⟩
 |old=>exact⟨A2,⟨d,ds,v,vs,[],A2,rfl,rfl,rfl,⟨rfl,wU⟩,f2⟩,Cw,z2⟩
 |bor=>exact⟨A2,⟨d,ds,v,vs,[],A2,rfl,rfl,rfl,⟨rfl,wU⟩,f2⟩,Cw,z2⟩
abbrev gG:List Kd->Kd
 |[]=>.cE
 |k::ks=>Kd.max k (gG ks)
theorem KF.iu:∀{ks:List Kd} {ds:List D} {vs:List V} {A:List Addr},KF P w C own H ks ds vs A->(∀c∈A,¬ Wn own c/\C.H0 c=none)->ai P w (av C (Wn own) (gG ks)) H ds vs
 |[],_,_,_,⟨e1,e2,e⟩,_=>by rw[e1,e2];rfl
 |k::ks,_,_,_,⟨d,dr,v,vr,A1,A2,rfl,rfl,rfl,h1,h2⟩,hA=>by
  refine⟨v,vr,rfl,?_,ai.aO eg (KF.iu h2 λc hc=>hA c (Vu _ hc))⟩;cases k with
  |own=>exact ay.aO cD (Own.rep (W:=av C (Wn own) .own) (λc hc z=>z.elim (hA c (Wi _ hc)).1 λz=>z (hA c (Wi _ hc)).2) h1)
  |cE=>exact ay.aO (cD (a:=.cE)) h1.2
  |old=>exact ay.aO (cD (a:=.old)) h1.2
  |bor=>exact ay.aO (cD (a:=.bor)) h1.2
theorem rF.iu (h:rF P w C Z own H ks ds vs):ai P w (av C (Wn own) (gG ks)) H ds vs:=let ⟨A,h1,_,h3⟩:=h;h1.iu λc hc=>(h3 c hc).2
theorem rF.bor (h:rF P w C Z own H ks ds vs):ai P w (λ_=>False) H ds vs:=ai.aO (λ_ z=>z.elim) h.iu
def vy:List Kd->List D->Prop
 |k::ks,d::ds=>(match k with | .own=>True|_=>d.flat=true)/\vy ks ds
 |_,_=>True
theorem KF.FU:∀{ks:List Kd} {ds:List D} {vs:List V} {A:List Addr},KF P w C own H ks ds vs A->vy ks ds->aK P w H ds vs A
 |[],_,_,_,⟨e1,e2,e⟩,_=>by rw[e1,e2,e];exact⟨rfl,rfl⟩
 |k::ks,_,_,_,⟨d,dr,v,vr,A1,A2,rfl,rfl,rfl,h1,h2⟩,⟨f1,f2⟩=>by
  refine⟨v,vr,A1,A2,rfl,rfl,?_,KF.FU h2 f2⟩;cases k with
  |own=>exact h1
  |cE=>rw[h1.1];exact eS f1 h1.2
  |old=>rw[h1.1];exact eS f1 h1.2
  |bor=>rw[h1.1];exact eS f1 h1.2
theorem iI:∀{ks:List Kd},(gG ks).wk=gG ks
 |[]=>rfl
 |k::ks=>by cases k <;> cases h:gG ks <;> simp[gG,Kd.max,h]
def zH (ks:List Kd)(ds:List D)(K:Kd->Prop):Prop:=match ks.all (λk=>match k with | .own=>true|_=>false)with
 |true=>K .own
 |false=>(vy ks ds/\K .own)\/K (gG ks)
theorem zH.mono {ks:List Kd}{ds:List D}{K K':Kd->Prop}(k:∀x,K x->K' x)(h:zH ks ds K):zH ks ds K':=by
 unfold zH at *
 split
 ·next e=>rw[e]at h;exact k _ h
 ·next e=>rw[e]at h;exact h.imp (λz=>⟨z.1,k _ z.2⟩) (k _)
theorem zH.of {ks:List Kd}{ds:List D}{K:Kd->Prop}(h:zH ks ds K):(vy ks ds/\K .own)\/K (gG ks):=by
 unfold zH at h
 split at h
 ·next e =>
  refine .inl ⟨?_,h⟩
  clear h
  induction ks generalizing ds with
  |nil=>cases ds <;> trivial
  |cons k ks ih =>
   cases ds with
   |nil=>trivial
   |cons d ds =>
    rw[List.all_cons,VI]at e;refine⟨?_,ih e.2⟩;have e1:=e.1;cases k <;> first|trivial|cases e1
 ·exact h
end
structure PQ (X:Cx)(C:Cfg)(p:Bool)(e:Expr)(φ:aQ):Prop where
 mono:∀β R R',(∀d k β,R d k β->R' d k β)->φ β R->φ β R'
 pe:PE X e (tQ X C p φ)
structure vx (X:Cx)(C:Cfg)(p:Bool)(e:Expr)(φ:a8):Prop where
 mono:∀β R R',(∀d β,R d β->R' d β)->φ β R->φ β R'
 pt:PT X e (jG X C p φ)
structure pB (X:Cx)(C:Cfg)(p:Bool)(e:Expr)(φ:a8):Prop where
 mono:∀β R R',(∀d β,R d β->R' d β)->φ β R->φ β R'
 pw:PW X e (jG X C p φ)
structure pC (X:Cx)(C:Cfg)(p:Bool)(es:List Expr)(φ:b3):Prop where
 mono:∀β R R',(∀d k β,R d k β->R' d k β)->φ β R->φ β R'
 pa:PA X es (rH X C p φ)
section
variable {X:Cx}{C:Cfg}{a b c e:Expr}{es:List Expr}{φ φa φb:aQ}{τ τa τb:a8}{φs:b3}{pos:Pos}{σ:St}{H H':Hp}{β:a3}{own:Nat->List Addr}{p p':Bool}
theorem tQ.of (h:PQ X C p e φ)(s:SQ X C σ H β own){R:D->Kd->a3->Prop}{Q:VK}(hr:φ β R)(k:∀d kd β' v H' aS,R d kd β'->Out X C σ H own p β' H' aS->KV X.prog X.w C (H,Wn own) aS H' kd d v->Q v H'):tQ X C p φ σ H Q :=
 ⟨β,own,s,h.mono β _ _ (λd kd β' hd v H' aS o r=>k d kd β' v H' aS hd o r) hr⟩
theorem jG.of (h:vx X C p e τ)(s:SQ X C σ H β own){R:Bool->a3->Prop}{Q:Bool->Hp->Prop}(hr:τ β R)(k:∀t β' H' aS,R t β'->Out X C σ H own p β' H' aS->Q t H'):jG X C p τ σ H Q :=
 ⟨β,own,s,h.mono β _ _ (λt β' hd H' aS o=>k t β' H' aS hd o) hr⟩
theorem rH.of (h:pC X C p es φs)(s:SQ X C σ H β own){R:List D->List Kd->a3->Prop}{Q:List V->Hp->Prop}(hr:φs β R)(k:∀ds ks β' vs H' aS,R ds ks β'->Out X C σ H own p β' H' aS->rF X.prog X.w C (H,Wn own) aS H' ks ds vs->Q vs H'):rH X C p φs σ H Q :=
 ⟨β,own,s,h.mono β _ _ (λd kd β' hd v H' aS o r=>k d kd β' v H' aS hd o r) hr⟩
theorem pB.t (h:pB X C p e τ):vx X C p e τ:=⟨h.mono,h.pw.pt⟩
abbrev vk (y:Bool):D->Kd
 |.int _=>.own
 |.bl _=>.own
 |.cg=>.own
 |.str _=>.own
 |_=>yk y
def qB:B->(D->Kd->Prop)->Prop
 |.val y d,K=>K d (vk y d)
 |.own d,K=>K d .bor
 |.hand _,_=>False
 |.shl _ _,_=>False
def yu (i:Nat):aQ:=λβ R=>∃b,β[i]?=some (some b)/\qB b λd k=>R d k β
theorem Gq {P:UP}{w:U1}{Z:Hp×(Addr->Prop)}{y:Bool}{d:D}{v:V}(h:ay P w (av C (Wn own) (yk y)) H d v):KV P w C Z own H (vk y d) d v:=by
 cases d with
 |int i=>exact KV.flat rfl h
 |bl i=>exact KV.flat rfl h
 |cg=>exact KV.flat rfl h
 |str i=>exact KV.flat rfl h
 |_=>cases y <;> exact h
theorem ae {i:Nat}{x:Str}(hN:X.N[i]?=some x:=by rfl)(hv:rM X.env.scope x:=by first|exact .inl rfl|exact .inr (.inl rfl)|exact .inr (.inr rfl))(hd:(x==("__debug__" : Str))=false:=by decide)(fH:(x==("__classdict__" : Str))=false:=by decide):
  PQ X C true (.Name x pos) (yu i):=⟨λβ R R' k zP=>by obtain⟨b,e,h⟩:=zP;exact⟨b,e,by cases b <;> first|exact k _ _ _ h|exact h⟩,(cL hN hv hd fH).pre λσ H Q GQ=>by
 obtain⟨β,own,s,b,e,q⟩:=GQ;cases b with
 |val y d=>obtain⟨v,h1,h2⟩:=s.fR e;exact⟨v,h1,q v H own (Out.refl s _) (Gq h2)⟩
 |own d=>obtain⟨v,h1,h2,h3⟩:=s.ow i d e;exact⟨v,h1,q v H own (Out.refl s _) (h2.rep λ_ _ z=>z)⟩
 |hand ok=>exact q.elim
 |shl _ _=>exact q.elim⟩
def qC (d:D):aQ:=λβ R=>R d .own β
theorem ah {i j}:PQ X C true (.Constant (.int i) j pos) (qC (.int i)):=⟨λρ R R' k h=>k _ _ _ h,aY.pre λσ H Q Kg=>by obtain⟨β,own,s,q⟩:=Kg;exact q _ H own (Out.refl s _) (KV.flat (W:=λ_=>False) rfl rfl)⟩
theorem jN {b j}:PQ X C true (.Constant (.bool b) j pos) (qC (.bl b)):=⟨λρ R R' k h=>k _ _ _ h,yT.pre λσ H Q Sm=>by obtain⟨β,own,s,q⟩:=Sm;exact q _ H own (Out.refl s _) (KV.flat (W:=λ_=>False) rfl rfl)⟩
theorem ll {j}:PQ X C true (.Constant .none j pos) (qC .cg):=⟨λρ R R' k h=>k _ _ _ h,FO.pre λσ H Q GJ=>by obtain⟨β,own,s,q⟩:=GJ;exact q _ H own (Out.refl s _) (KV.flat (W:=λ_=>False) rfl rfl)⟩
theorem jb {x j}:PQ X C true (.Constant (.str x) j pos) (qC (.str x)):=⟨λρ R R' k h=>k _ _ _ h,FK.pre λσ H Q CM=>by obtain⟨β,own,s,q⟩:=CM;exact q _ H own (Out.refl s _) (KV.flat (W:=λ_=>False) rfl rfl)⟩
def vT (X:Cx)(f:D->D->Option D)(N:D->Prop):R2:=λx y H Q=>∃W d1 d2 d,Dm W H/\Rp X W H d1 x/\Rp X W H d2 y/\f d1 d2=some d/\∀v H',aw H H'->Rp X W H' d v->(N d->Rp X (λa=>H a≠none) H' d v)->Q v H'
abbrev MJ (X:Cx)(f:UK->UK->Sem UK)(g:D->D->Option D)(N:D->Prop):Prop:=iW X f (vT X g N)
theorem bK.m {f:UK->UK->Sem UK}{g:D->D->Option D}(h:bK X f g):MJ X f g NF:=λpins s σ H x y v u Q I rx ry ⟨W,d1,d2,d,hd,r1,r2,e,q⟩ =>
 h pins s σ H x y v u Q I rx ry ⟨W,d1,d2,d,hd,r1,r2,e,λv H' s r=>q v H' s r λf=>ay.flat f r⟩
def kN (N:D->Prop)(d:D)(k:Kd)(K:Kd->Prop):Prop:=match d with
 |.int _=>K .own
 |.bl _=>K .own
 |.cg=>K .own
 |.str _=>K .own
 |.tup _=>K k
 |_=>(N d/\K .own)\/K k
theorem kN.mono {N:D->Prop}{d:D}{k:Kd}{K K':Kd->Prop}(h:∀x,K x->K' x)(q:kN N d k K):kN N d k K':=by
 cases d <;> first|exact h _ q|exact q.imp (λz=>⟨z.1,h _ z.2⟩) (h _)
theorem gz {P:UP}{w:U1}{Z:Hp×(Addr->Prop)}{d:D}{v:V}(hd:Dm (Wn own) H)(h0:∀a,C.H0 a≠none->H a≠none)(hz:∀a,Z.1 a≠none->H a≠none)(f:NL d)(r:ay P w (λa=>H a≠none) H' d v):KV P w C Z own H' .own d v:=by
 have nn:∀{a:Addr},¬ (H a≠none)->H a=none:=λ{a} h=>Vw λz=>h z;have cl:∀{a:Addr},H a=none->Z.1 a=none/\¬ Wn own a/\C.H0 a=none:=λ{a} h=>⟨Vw λz=>hz a z h,λz=>hd a z h,Vw λz=>h0 a z h⟩;cases d with
 |lst ds =>
  obtain⟨a,vs,rfl,e,n,q⟩:=r;exact⟨[a],⟨a,vs,[],rfl,e,rfl,jc f q⟩,by simp,λc hc=>by rw[UX.mp hc];exact cl (nn n)⟩
 |_=>exact KV.flat f r
theorem KV.kN {N:D->Prop}{P:UP}{w:U1}{Z:Hp×(Addr->Prop)}{d:D}{v:V}{k:Kd}{K:Kd->Prop}(hk:k.wk=k)(r:ay P w (av C (Wn own) k) H' d v)(ro:N d->KV P w C Z own H' .own d v)(q:kN N d k K):∃k',K k'/\KV P w C Z own H' k' d v:=by
 have rk:KV P w C Z own H' k d v:=by rw[<- hk];exact KV.of (by rw[hk];exact r)
 cases d with
 |int i=>exact⟨_,q,KV.flat rfl r⟩
 |bl i=>exact⟨_,q,KV.flat rfl r⟩
 |cg=>exact⟨_,q,KV.flat rfl r⟩
 |str i=>exact⟨_,q,KV.flat rfl r⟩
 |tup ds=>exact⟨_,q,rk⟩
 |_=>exact q.elim (λz=>⟨_,z.2,ro z.1⟩) λz=>⟨_,z,rk⟩
structure Bf (N:D->Prop):Prop where
 nl:∀d,N d->NL d
theorem aV:Bf NL:=⟨λ_ h=>h⟩
theorem ag:Bf NF:=⟨λd h=>by cases d <;> first|exact h|cases h⟩
theorem zq {a b:Kd}:(a.max b).wk=a.max b:=by cases a <;> cases b <;> rfl
def xv (g:D->D->Option D)(N:D->Prop)(pb:Bool)(φa φb:aQ):aQ:=λβ R=>φa β λx ka β1=>hold ka pb/\φb β1 λy kb β2=>∃d,g x y=some d/\kN N d (ka.max kb) λk=>R d k β2
variable {g:D->D->Option D}{N:D->Prop}
theorem xv.mono (ha:PQ X C p a φa)(hb:PQ X C p' b φb):∀β R R',(∀d k β,R d k β->R' d k β)->xv g N p' φa φb β R->xv g N p' φa φb β R':=λβ R R' k h =>
 ha.mono β _ _ (λx ka β1 hx=>⟨hx.1,hb.mono β1 _ _ (λy kb β2 zR=>by obtain⟨d,e,q⟩:=zR;exact⟨d,e,q.mono λ_ z=>k _ _ _ z⟩) hx.2⟩) h
theorem si (hn:Bf N)(ha:PQ X C p a φa)(hb:PQ X C p' b φb):∀σ H Q,tQ X C (p&&p') (xv g N p' φa φb) σ H Q->IJ (vT X g N) (tQ X C p φa) (tQ X C p' φb) σ H Q:=λσ H Q ⟨β,own,s,h⟩ =>
 tQ.of ha s h λd1 k1 β1 v1 H1 aB ⟨hh,h1⟩ o1 r1=>tQ.of hb o1.sq h1 λd2 k2 β2 v2 H2 aZ zQ o2 r2=>by
  obtain⟨d,e,q⟩:=zQ;have HW:=r1.ho o2 hh;refine⟨av C (Wn aZ) (k1.max k2),d1,d2,d,o2.sq.Ak _,ay.aO cD HW.rep,ay.aO eg r2.rep,e,λv H' s3 r3 n3=>?_⟩;have o:=(o1.trans o2).same s3;obtain⟨k,q,r⟩:=KV.kN (Z:=(H,Wn own)) zq r3 (λn=>gz (H:=H2) o2.sq.pq o2.sq.fP (λa z=>o2.sn.d a (o1.sn.d a z)) (hn.nl _ n) (n3 n)) q;exact q v H' aZ o r
theorem aN {op:Operator}(hn:Bf N)(ho:MJ X (Wq op) g N)(ha:PQ X C p a φa)(hb:PQ X C p' b φb):PQ X C (p&&p') (.BinOp a op b pos) (xv g N p' φa φb):=⟨xv.mono ha hb,(bY ho ha.pe hb.pe).pre (si hn ha hb)⟩
theorem oC {op:XZ}(hn:Bf N)(ho:MJ X (VQ op) g N)(ha:PQ X C p a φa)(hb:PQ X C p' b φb)(hm:WN op b=false:=by first|exact qg _ (by decide) (by decide)|rfl):PQ X C (p&&p') (.Compare a [op] [b] pos) (xv g N p' φa φb) :=
 ⟨xv.mono ha hb,(B0 ho ha.pe hb.pe hm).pre (si hn ha hb)⟩
theorem aI (hn:Bf N)(ho:EO X (vT X g N))(ha:PQ X C p a φa)(hb:PQ X C p' b φb)(hs:o9 b:=by exact λ_ _=>rfl):PQ X C (p&&p') (.Subscript a b pos) (xv g N p' φa φb):=⟨xv.mono ha hb,(gL ho ha.pe hb.pe hs).pre (si hn ha hb)⟩
def DU (φ:aQ):a8:=λβ R=>φ β λd k β'=>∃b,d=.bl b/\R b β'
theorem aJ {op:XZ}(hn:Bf N)(ho:MJ X (VQ op) g N)(ha:PQ X C p a φa)(hb:PQ X C p' b φb)(hm:WN op b=false:=by first|exact qg _ (by decide) (by decide)|rfl):vx X C (p&&p') (.Compare a [op] [b] pos) (DU (xv g N p' φa φb)) :=
 ⟨λβ R R' k h=>xv.mono ha hb β _ _ (λd kd β G1=>by obtain⟨t,e,q⟩:=G1;exact⟨t,e,k _ _ q⟩) h,(oq ho ha.pe hb.pe hm).pre λσ H Q ⟨β,own,s,h⟩ =>
  tQ.of ha s h λd1 k1 β1 v1 H1 aB ⟨hh,h1⟩ o1 r1=>tQ.of hb o1.sq h1 λd2 k2 β2 v2 H2 aZ G0 o2 r2=>by
   obtain⟨d,e,q⟩:=G0;have HW:=r1.ho o2 hh;refine⟨av C (Wn aZ) (k1.max k2),d1,d2,d,o2.sq.Ak _,ay.aO cD HW.rep,ay.aO eg r2.rep,e,λv H' s3 r3 n3=>?_⟩;obtain⟨k,⟨t,et,q'⟩,r⟩:=KV.kN (Z:=(H,Wn own)) zq r3 (λn=>gz (H:=H2) o2.sq.pq o2.sq.fP (λa z=>o2.sn.d a (o1.sn.d a z)) (hn.nl _ n) (n3 n)) q;subst et;cases r3;exact⟨t,rfl,q' H' aZ ((o1.trans o2).same s3)⟩⟩
theorem dh (ha:PQ X C p a φa)(he:∀whole,isTrue a X.env whole=(do let v <- whole;Y4 a.pos;holding [v] (truthy v)):=by intro _;rfl):vx X C p a (DU φa) :=
 ⟨λβ R R' k h=>ha.mono β _ _ (λd kd β' GZ=>by obtain⟨b,e,q⟩:=GZ;exact⟨b,e,k _ _ q⟩) h,(FA ha.pe he).pre λσ H Q ⟨β,own,s,h⟩=>tQ.of ha s h λd k β' v H1 aB GW o1 r1=>by
  obtain⟨b,e,q⟩:=GW;subst e;cases r1.rep;exact⟨b,rfl,q H1 aB o1⟩⟩
def Jg (τ:a8):a8:=λβ R=>τ β λb β'=>R (!b) β'
theorem iB (ha:vx X C p a τ):vx X C p (.UnaryOp .Not a pos) (Jg τ) :=
 ⟨λβ R R' k h=>ha.mono β _ _ (λb β' q=>k _ _ q) h,(FC ha.pt).pre λσ H Q GV=>by obtain⟨β,own,s,h⟩:=GV;exact jG.of ha s h λb β' H1 aB q o=>q H1 aB o⟩
variable {rest:List Expr}
def Jm (τa τb:a8):a8:=λβ R=>τa β λt β1=>if t=true then τb β1 R else R false β1
def Nm (τa τb:a8):a8:=λβ R=>τa β λt β1=>if t=true then R true β1 else τb β1 R
theorem f9 (ha:vx X C p a τ):pB X C p (.BoolOp .And [a] pos) τ:=⟨ha.mono,pw_and1 ha.pt⟩
theorem iy (ha:vx X C p a τ):pB X C p (.BoolOp .Or [a] pos) τ:=⟨ha.mono,pw_or1 ha.pt⟩
theorem AO {p q:Bool}(z:(p&&q)=true):p=true:=by cases p <;> first|rfl|cases z
theorem Pl {p q:Bool}(z:(p&&q)=true):q=true:=by cases p <;> first|exact z|cases z
theorem iA (ha:vx X C p a τa)(hb:pB X C p' (.BoolOp .And (b::rest) pos) τb):pB X C (p&&p') (.BoolOp .And (a::b::rest) pos) (Jm τa τb) :=
 ⟨λβ R R' k h=>ha.mono β _ _ (λt β1 q=>by
   cases t
   ·exact k _ _ q
   ·exact hb.mono β1 _ _ k q) h,(pw_and ha.pt hb.pw).pre λσ H Q ⟨β,own,s,h⟩=>jG.of ha s h λt β1 H1 aB q o1=>by
  cases t
  ·exact q H1 aB (o1.wk AO)
  ·exact jG.of hb.t o1.sq q λt' β2 H2 aZ q2 o2=>q2 H2 aZ (o1.trans o2)⟩
theorem gX (ha:vx X C p a τa)(hb:pB X C p' (.BoolOp .Or (b::rest) pos) τb):pB X C (p&&p') (.BoolOp .Or (a::b::rest) pos) (Nm τa τb) :=
 ⟨λβ R R' k h=>ha.mono β _ _ (λt β1 q=>by
   cases t
   ·exact hb.mono β1 _ _ k q
   ·exact k _ _ q) h,(pw_or ha.pt hb.pw).pre λσ H Q ⟨β,own,s,h⟩=>jG.of ha s h λt β1 H1 aB q o1=>by
  cases t
  ·exact jG.of hb.t o1.sq q λt' β2 H2 aZ q2 o2=>q2 H2 aZ (o1.trans o2)
  ·exact q H1 aB (o1.wk AO)⟩
def Nt (φa φb:aQ):aQ:=λβ R=>φa β λx _ β1=>∃c,x=.bl c/\if c=true then φb β1 R else R (.bl false) .own β1
def RE (φa φb:aQ):aQ:=λβ R=>φa β λx _ β1=>∃c,x=.bl c/\if c=true then R (.bl true) .own β1 else φb β1 R
def Nn (φa:aQ):aQ:=λβ R=>φa β λx _ β1=>∃c,x=.bl c/\R (.bl (!c)) .own β1
theorem oA {op}(h:PQ X C p a φ):PQ X C p (.BoolOp op [a] pos) φ:=⟨h.mono,FL h.pe⟩
theorem nh {P:UP}{w:U1}{Z:Hp×(Addr->Prop)}{b:Bool}:KV P w C Z own H .own (.bl b) (.bl b):=KV.flat (W:=λ_=>False) rfl rfl
theorem yM (ha:PQ X C p a φa)(hb:PQ X C p' (.BoolOp .And (b::rest) pos) φb):PQ X C (p&&p') (.BoolOp .And (a::b::rest) pos) (Nt φa φb) :=
 ⟨λβ R R' k h=>ha.mono β _ _ (λd kd β1 ⟨c,e,q⟩=>⟨c,e,by
   cases c
   ·exact k _ _ _ q
   ·exact hb.mono β1 _ _ k q⟩) h,(FQ ha.pe hb.pe).pre λσ H Q ⟨β,own,s,h⟩=>tQ.of ha s h λd kd β1 v H1 aB zO o1 r1=>by
  obtain⟨c,e,q⟩:=zO;subst e;cases r1.rep;refine⟨c,rfl,?_⟩;cases c
  ·exact q _ H1 aB (o1.wk AO) nh
  ·exact tQ.of hb o1.sq q λd2 k2 β2 v2 H2 aZ q2 o2 r2=>q2 v2 H2 aZ (o1.trans o2) (r2.later o1.sn)⟩
theorem yI (ha:PQ X C p a φa)(hb:PQ X C p' (.BoolOp .Or (b::rest) pos) φb):PQ X C (p&&p') (.BoolOp .Or (a::b::rest) pos) (RE φa φb) :=
 ⟨λβ R R' k h=>ha.mono β _ _ (λd kd β1 ⟨c,e,q⟩=>⟨c,e,by
   cases c
   ·exact hb.mono β1 _ _ k q
   ·exact k _ _ _ q⟩) h,(Js ha.pe hb.pe).pre λσ H Q ⟨β,own,s,h⟩=>tQ.of ha s h λd kd β1 v H1 aB GP o1 r1=>by
  obtain⟨c,e,q⟩:=GP;subst e;cases r1.rep;refine⟨c,rfl,?_⟩;cases c
  ·exact tQ.of hb o1.sq q λd2 k2 β2 v2 H2 aZ q2 o2 r2=>q2 v2 H2 aZ (o1.trans o2) (r2.later o1.sn)
  ·exact q _ H1 aB (o1.wk AO) nh⟩
theorem FG (ha:PQ X C p a φa):PQ X C p (.UnaryOp .Not a pos) (Nn φa) :=
 ⟨λβ R R' k h=>ha.mono β _ _ (λd kd β1 GO=>by obtain⟨c,e,q⟩:=GO;exact⟨c,e,k _ _ _ q⟩) h,(FN ha.pe).pre λσ H Q ⟨β,own,s,h⟩=>tQ.of ha s h λd kd β1 v H1 aB GN o1 r1=>by
  obtain⟨c,e,q⟩:=GN;subst e;cases r1.rep;exact⟨c,rfl,q _ H1 aB o1 nh⟩⟩
def RC (g:D->Option D)(φa:aQ):aQ:=λβ R=>φa β λx _ β1=>∃d,g x=some d/\d.flat=true/\R d .own β1
theorem lj {op:UnaryOp}{g:D->Option D}(ho:LK X (unaryOp op) (P6 X g))(ha:PQ X C p a φa):PQ X C p (.UnaryOp op a pos) (RC g φa) :=
 ⟨λβ R R' k h=>ha.mono β _ _ (λx _ β1 Oc=>by obtain⟨d,e,f,q⟩:=Oc;exact⟨d,e,f,k _ _ _ q⟩) h,(DW ho ha.pe).pre λσ H Q ⟨β,own,s,h⟩ =>
  tQ.of ha s h λd1 k1 β1 v1 H1 aB GL o1 r1=>by obtain⟨d,e,f,q⟩:=GL;exact⟨_,d1,d,o1.sq.Ak _,r1.rep,e,λv H' s2 r2=>q v H' aB (o1.same s2) (KV.flat f r2)⟩⟩
def Np:b3:=λβ R=>R [] [] β
def Jl (pr:Bool)(φ:aQ)(φs:b3):b3:=λβ R=>φ β λd k β1=>hold k pr/\φs β1 λds ks β2=>R (d::ds) (k::ks) β2
theorem af:pC X C true [] Np:=⟨λβ R R' k h=>k _ _ _ h,cy.pre λσ H Q GK=>by obtain⟨β,own,s,q⟩:=GK;exact q [] H own (Out.refl s _) rF.nil⟩
theorem aa (ha:PQ X C p a φ)(hr:pC X C p' es φs)(hs:US (a::es) X.env=(false,eval a X.env)::US es X.env:=by rfl):pC X C (p&&p') (a::es) (Jl p' φ φs) :=
 ⟨λβ R R' k h=>ha.mono β _ _ (λd kd β1 q=>⟨q.1,hr.mono β1 _ _ (λds ks β2 q2=>k _ _ _ q2) q.2⟩) h,(a6 ha.pe hr.pa hs).pre λσ H Q ⟨β,own,s,h⟩ =>
  tQ.of ha s h λd1 k1 β1 v1 H1 aB Oa o1 r1=>by obtain⟨hh,h1⟩:=Oa;exact rH.of hr o1.sq h1 λds ks β2 vs H2 aZ q o2 r2=>q (v1::vs) H2 aZ (o1.trans o2) (rF.cons r1 o2.sn (r1.ho o2 hh) r2 o1.sn)⟩
def Nk (φs:b3):aQ:=λβ R=>φs β λds ks β1=>ds.length<=UW/\zH ks ds λk=>R (.tup ds) k β1
def Nr (φs:b3):aQ:=λβ R=>φs β λds ks β1=>ds.length<=UW/\zH ks ds λk=>R (.lst ds) k β1
theorem aK.same {P:UP}{w:U1}{ds:List D}{vs:List V}{A:List Addr}(s:aw H H')(h:aK P w H ds vs A):aK P w H' ds vs A:=h.keep (λb xs e=>s _ _ e) λc _ o e=>s c o e
theorem Gr {P:UP}{w:U1}{Z:Hp×(Addr->Prop)}{ks:List Kd}{ds:List D}{vs:List V}{K:Kd->Prop}{q:Addr}(hq:H q=none)(h:rF P w C Z own H ks ds vs)(m:zH ks ds K):∃k,K k/\KV P w C Z own (upd H q (.tup vs)) k (.tup ds) (.ref q):=by
 rcases m.of with⟨f,k⟩|k
 ·obtain⟨A,h1,h2,h3⟩:=h;exact⟨_,k,A,⟨q,vs,rfl,ao,(h1.FU f).same (aw.new hq)⟩,h2,h3⟩
 ·refine⟨_,k,?_⟩;rw[<- iI];exact KV.of (by rw[iI];exact⟨q,vs,rfl,ao,h.iu.same (aw.new hq)⟩)
theorem Gs {P:UP}{w:U1}{Z:Hp×(Addr->Prop)}{ks:List Kd}{ds:List D}{vs:List V}{K:Kd->Prop}{q:Addr}(hq:H q=none)(hd:Dm (Wn own) H)(h0:∀a,C.H0 a≠none->H a≠none)(hz:∀a,Z.1 a≠none->H a≠none)(h:rF P w C Z own H ks ds vs)(m:zH ks ds K):∃k,K k/\KV P w C Z own (upd H q (.lst vs)) k (.lst ds) (.ref q):=by
 rcases m.of with⟨f,k⟩|k
 ·obtain⟨A,h1,h2,h3⟩:=h;refine⟨_,k,q::A,⟨q,vs,A,rfl,ao,rfl,(h1.FU f).same (aw.new hq)⟩,Vt.mpr ⟨λz=>h1.l9 q z hq,h2⟩,λc hc=>?_⟩;rcases UQ.mp hc with rfl|hc
  ·exact⟨Vw λz=>hz c z hq,λz=>hd c z hq,Vw λz=>h0 c z hq⟩
  ·exact h3 c hc
 ·refine⟨_,k,?_⟩;have nq:¬ av C (Wn own) (gG ks) q:=λz=>by
   cases e:gG ks <;> rw[e]at z <;> first|exact z.elim (λz=>hd q z hq) λz=>h0 q z hq|exact hd q z hq|exact z
  rw[<- iI];exact KV.of (by rw[iI];exact⟨q,vs,rfl,ao,nq,h.iu.same (aw.new hq)⟩)
theorem rF.length {P:UP}{w:U1}{Z:Hp×(Addr->Prop)}{ks:List Kd}{ds:List D}{vs:List V}(h:rF P w C Z own H ks ds vs):vs.length=ds.length:=h.iu.length
theorem a9 {x1}(h:pC X C p es φs):PQ X C p (.Tuple es x1 pos) (Nk φs) :=
 ⟨λβ R R' k q=>h.mono β _ _ (λds ks β1 N_=>by obtain⟨l,q⟩:=N_;exact⟨l,q.mono λ_ z=>k _ _ _ z⟩) q,(yR h.pa).pre λσ H Q ⟨β,own,s,q⟩=>rH.of h s q λds ks β1 vs H1 aB ⟨l,q1⟩ o1 r1 =>
  ⟨by rw[r1.length];exact l,λq hq=>let ⟨k,q1,r⟩:=Gr hq r1 q1;q1 _ _ aB (o1.same (aw.new hq)) r⟩⟩
theorem ba (h:pC X C p es φs):PQ X C p (.List es pos) (Nr φs) :=
 ⟨λβ R R' k q=>h.mono β _ _ (λds ks β1 N9=>by obtain⟨l,q⟩:=N9;exact⟨l,q.mono λ_ z=>k _ _ _ z⟩) q,(oE h.pa).pre λσ H Q ⟨β,own,s,q⟩=>rH.of h s q λds ks β1 vs H1 aB ⟨l,q1⟩ o1 r1 =>
  ⟨by rw[r1.length];exact l,λq hq=>let ⟨k,q1,r⟩:=Gs hq o1.sq.pq o1.sq.fP (λa z=>o1.sn.d a z) r1 q1;q1 _ _ aB (o1.same (aw.new hq)) r⟩⟩
end
section
variable {X:Cx}{C:Cfg}{a b c e:Expr}{es:List Expr}{φ φa φb:aQ}{φs:b3}{pos:Pos}{σ:St}{H H':Hp}{β:a3}{own:Nat->List Addr}{p:Bool}{g:D->D->Option D}{N:D->Prop}
abbrev nP:=D->Kd->aQ
structure MG (X:Cx)(C:Cfg)(ops:List XZ)(es:List Expr)(φ:nP):Prop where
 mono:∀x k β R R',(∀d k β,R d k β->R' d k β)->φ x k β R->φ x k β R'
 ch:EN X ops es λx σ H Q=>∃β own d k,SQ X C σ H β own/\Rp X (av C (Wn own) k) H d x/\φ d k β λd' k' β'=>∀v H',aw H H'->SQ X C σ H' β' own->KV X.prog X.w C (H,Wn own) own H' k' d' v->Q v H'
 Tr:tU X ops es λx σ H Q=>∃β own d k,SQ X C σ H β own/\Rp X (av C (Wn own) k) H d x/\φ d k β λd' k' β'=>∃b,d'=.bl b/\∀H',aw H H'->SQ X C σ H' β' own->Q b H'
def Fz (g:D->D->Option D)(φb:aQ):nP:=λx _ β R=>φb β λy _ β1=>∃b,g x y=some (.bl b)/\R (.bl b) .own β1
def yv (g:D->D->Option D)(φb:aQ)(φr:nP):nP:=λx _ β R=>φb β λy ky β1=>∃k,g x y=some (.bl k)/\if k=true then φr y ky β1 R else R (.bl false) .own β1
variable {op F0:XZ}{ops:List XZ}{rs:List Expr}{φr:nP}
theorem j_ (ho:bK X (VQ op) g)(hb:PQ X C true b φb):MG X C [op] [b] (Fz g φb) :=
 ⟨λx k β R R' h q=>hb.mono β _ _ (λy _ β1 zS=>by obtain⟨d,e,q⟩:=zS;exact⟨d,e,h _ _ _ q⟩) q,
  (Hv ho hb.pe).pre λx σ H Q ⟨β,own,d,k,s,r,h⟩=>tQ.of hb s h λd2 k2 β2 v2 H2 aZ GQ o2 r2=>by
    obtain⟨d',e,q⟩:=GQ;obtain⟨s2,rfl⟩:=o2.pu rfl;exact⟨av C (Wn aZ) (k.max k2),d,d2,.bl d',o2.sq.Ak _,ay.aO cD (r.same s2),ay.aO eg r2.rep,e,λv H' s3 r3=>q v H' (s2.trans s3) (o2.sq.same s3) (KV.flat rfl r3)⟩,
  (DC ho hb.pe).pre λx σ H Q ⟨β,own,d,k,s,r,h⟩=>tQ.of hb s h λd2 k2 β2 v2 H2 aZ Kh o2 r2=>by
    obtain⟨d',e,b,eb,q⟩:=Kh;obtain⟨s2,rfl⟩:=o2.pu rfl;cases eb;exact⟨av C (Wn aZ) (k.max k2),d,d2,.bl d',o2.sq.Ak _,ay.aO cD (r.same s2),ay.aO eg r2.rep,e,λv H' s3 r3=>by
      cases r3;exact⟨_,rfl,q H' (s2.trans s3) (o2.sq.same s3)⟩⟩⟩
theorem cU (ho:bK X (VQ op) g)(hb:PQ X C true b φb)(hc:MG X C (F0::ops) (c::rs) φr):MG X C (op::F0::ops) (b::c::rs) (yv g φb φr) :=
 ⟨λx k β R R' h q=>hb.mono β _ _ (λy ky β1 ⟨d,e,q⟩=>⟨d,e,by
   cases d
   ·exact h _ _ _ q
   ·exact hc.mono y ky β1 _ _ h q⟩) q,
  (DD ho hb.pe hc.ch).pre λx σ H Q ⟨β,own,d,k,s,r,h⟩=>tQ.of hb s h λd2 k2 β2 v2 H2 aZ GJ o2 r2=>by
    obtain⟨t,e,q⟩:=GJ;obtain⟨s2,rfl⟩:=o2.pu rfl;refine⟨av C (Wn aZ) (k.max k2),d,d2,.bl t,o2.sq.Ak _,ay.aO cD (r.same s2),ay.aO eg r2.rep,e,λv H' s3 r3=>?_⟩;cases r3;refine⟨t,rfl,?_⟩;cases t
    · exact q _ H' (s2.trans s3) (o2.sq.same s3) nh
    · exact⟨β2,aZ,d2,k2,o2.sq.same s3,r2.rep.same s3,hc.mono d2 k2 β2 _ _ (λd' k' β' q' v AW s4 sq r4=>q' v AW ((s2.trans s3).trans s4) sq (r4.later ((o2.same s3).sn))) q⟩,
  (Ax ho hb.pe hc.Tr).pre λx σ H Q ⟨β,own,d,k,s,r,h⟩=>tQ.of hb s h λd2 k2 β2 v2 H2 aZ sW o2 r2=>by
    obtain⟨t,e,q⟩:=sW;obtain⟨s2,rfl⟩:=o2.pu rfl;refine⟨av C (Wn aZ) (k.max k2),d,d2,.bl t,o2.sq.Ak _,ay.aO cD (r.same s2),ay.aO eg r2.rep,e,λv H' s3 r3=>?_⟩;cases r3;refine⟨t,rfl,?_⟩;cases t
    · obtain⟨b,eb,q⟩:=q;cases eb;exact q H' (s2.trans s3) (o2.sq.same s3)
    · exact⟨β2,aZ,d2,k2,o2.sq.same s3,r2.rep.same s3,hc.mono d2 k2 β2 _ _ (λd' k' β' zR=>by obtain⟨b,eb,q'⟩:=zR;exact⟨b,eb,λAW s4 sq=>q' AW ((s2.trans s3).trans s4) sq⟩) q⟩⟩
def sj (φa:aQ)(φr:nP):aQ:=λβ R=>φa β λx k β1=>φr x k β1 R
theorem iC {lA lz:XZ}(ha:PQ X C true a φa)(hc:MG X C (lA::lz::ops) (b::c::rs) φr)(hm:lastMarks (lA::lz::ops) (b::c::rs)=false:=by with_unfolding_all rfl):
  PQ X C true (.Compare a (lA::lz::ops) (b::c::rs) pos) (sj φa φr) :=
 ⟨λβ R R' k h=>ha.mono β _ _ (λx kx β1 q=>hc.mono x kx β1 _ _ k q) h,(v_ ha.pe hc.ch hm).pre λσ H Q ⟨β,own,s,h⟩=>tQ.of ha s h λd k β1 v H1 aB q o1 r1=>by
  obtain⟨s1,rfl⟩:=o1.pu rfl;exact⟨β1,aB,d,k,o1.sq,r1.rep,hc.mono d k β1 _ _ (λd' k' β' q' v AW s4 sq r4=>q' v AW aB ⟨sq,o1.sn.same s4,λ_=>⟨s1.trans s4,rfl⟩,o1.le⟩ (r4.later o1.sn)) q⟩⟩
abbrev AR:=a3->(Option Int->a3->Prop)->Prop
structure MF (X:Cx)(C:Cfg)(e:Option Expr)(φ:AR):Prop where
 mono:∀β R R',(∀d β,R d β->R' d β)->φ β R->φ β R'
 po:PO X e λσ H Q=>∃β own,SQ X C σ H β own/\φ β λo β'=>∀H',aw H H'->SQ X C σ H' β' own->Q o H'
theorem yH:MF X C none (λβ R=>R none β):=⟨λβ R R' k h=>k _ _ h,uk.pre λσ H Q Ol=>by obtain⟨β,own,s,q⟩:=Ol;exact q H (aw.refl _) s⟩
theorem yG (ha:PQ X C true a φ):MF X C (some a) (λβ R=>φ β λd _ β1=>∃i,d=.int i/\R (some i) β1) :=
 ⟨λβ R R' k h=>ha.mono β _ _ (λd _ β1 Oj=>by obtain⟨i,e,q⟩:=Oj;exact⟨i,e,k _ _ q⟩) h,(uj ha.pe).pre λσ H Q ⟨β,own,s,h⟩=>tQ.of ha s h λd k β1 v H1 aB GZ o1 r1=>by
  obtain⟨i,e,q⟩:=GZ;subst e;cases r1.rep;obtain⟨s1,rfl⟩:=o1.pu rfl;exact⟨i,rfl,q H1 s1 o1.sq⟩⟩
def RD (φ:aQ)(φl φh:AR):aQ:=λβ R=>φ β λx k β1=>φl β1 λl β2=>φh β2 λh β3=>∃d,QS x l h=some d/\kN NL d k.wk λk'=>R d k' β3
theorem DM {k:Kd}:k.wk.wk=k.wk:=by cases k <;> rfl
theorem AL {W:Addr->Prop}{k:Kd}:∀c,av C W k.wk c->av C W k c:=λc h=>by cases k <;> exact h
theorem Jo {lo hi:Option Expr}{φl φh:AR}{p2:Pos}(ha:PQ X C p a φ)(hl:MF X C lo φl)(hh:MF X C hi φh):PQ X C p (.Subscript a (.Slice lo hi none p2) pos) (RD φ φl φh) :=
 ⟨λβ R R' k h=>ha.mono β _ _ (λx kx β1 q=>hl.mono β1 _ _ (λl β2 q=>hh.mono β2 _ _ (λu β3 GY=>by obtain⟨d,e,q⟩:=GY;exact⟨d,e,q.mono λ_ z=>k _ _ _ z⟩) q) q) h,
  (pY Bz ha.pe hl.po hh.po).pre λσ H Q ⟨β,own,s,h⟩=>tQ.of ha s h λd k β1 v H1 aB q o1 r1 =>
    ⟨β1,aB,o1.sq,hl.mono β1 _ _ (λl β2 q H2 s2 M8=>⟨β2,aB,M8,hh.mono β2 _ _ (λu β3 GV H3 s3 LZ=>by
      obtain⟨d',e,q⟩:=GV;refine⟨av C (Wn aB) k.wk,d,d',LZ.Ak _,((ay.aO AL r1.rep).same s2).same s3,e,λv H' s4 r4 n4=>?_⟩;obtain⟨k',q,r⟩:=KV.kN (Z:=(H,Wn own)) DM r4 (λn=>gz (H:=H3) LZ.pq LZ.fP (λa z e=>o1.sn.d a z (s2.free (s3.free e))) n (n4 n)) q;exact q v H' aB ⟨LZ.same s4,o1.sn.same ((s2.trans s3).trans s4),λz=>⟨(o1.pu z).1.trans ((s2.trans s3).trans s4),(o1.pu z).2⟩,o1.le⟩ r) q⟩) q⟩⟩
def Jd (X:Cx)(f:List D->Option D)(N:D->Prop):List V->Hp->VK->Prop:=λxs H Q=>∃W ds d,Dm W H/\rN X W H ds xs/\f ds=some d/\∀v H',aw H H'->Rp X W H' d v->(N d->Rp X (λa=>H a≠none) H' d v)->Q v H'
abbrev AY (X:Cx)(f:UK)(g:List D->Option D)(N:D->Prop):Prop:=eZ X f (Jd X g N)
theorem cJ.m {f:UK}{g:List D->Option D}(h:cJ X f g):AY X f g NF:=λpins s σ H xs us Q I r ⟨W,ds,d,hd,r1,e,q⟩ =>
 h pins s σ H xs us Q I r ⟨W,ds,d,hd,r1,e,λv H' s r=>q v H' s r λf=>ay.flat f r⟩
def jK (g:List D->Option D)(N:D->Prop)(φs:b3):aQ:=λβ R=>φs β λds ks β1=>∃d,g ds=some d/\kN N d (gG ks) λk=>R d k β1
variable {x:Str}{pp:Pos}{id T:String}{gs:List D->Option D}
theorem jK.mono (h:pC X C p es φs):∀β R R',(∀d k β,R d k β->R' d k β)->jK gs N φs β R->jK gs N φs β R':=λβ R R' k q=>h.mono β _ _ (λds ks β1 Oh=>by obtain⟨d,e,q⟩:=Oh;exact⟨d,e,q.mono λ_ z=>k _ _ _ z⟩) q
theorem pV (hn:Bf N)(h:pC X C p es φs):∀σ H Q,tQ X C p (jK gs N φs) σ H Q->M3 (Jd X gs N) (rH X C p φs) σ H Q:=λσ H Q ⟨β,own,s,q⟩=>rH.of h s q λds ks β1 vs H1 aB Of o1 r1=>by
 obtain⟨d,e,q1⟩:=Of;refine⟨av C (Wn aB) (gG ks),ds,d,o1.sq.Ak _,r1.iu,e,λv H' s2 r2 n2=>?_⟩;obtain⟨k',q,r⟩:=KV.kN (Z:=(H,Wn own)) iI r2 (λn=>gz (H:=H1) o1.sq.pq o1.sq.fP (λa z=>o1.sn.d a z) (hn.nl _ n) (n2 n)) q1;exact q v H' aB (o1.same s2) r
theorem bL (CS:Bf N)(hc:AY X (.builtin id) gs N)(hm:X.mg x=none)(hv:VJ x=some (.builtin id))(ha:pC X C p (e::es) φs)(hg:Gl X x:=by rfl)(hn:x≠"__name__" := by decide)(hdb:(x==("__debug__" : Str))=false:=by decide)
  (gC:US (e::es) X.env=(false,eval e X.env)::US es X.env:=by rfl) (hpl:(V6 pos (US es X.env)).any (·.1)=false:=by rfl) :
  PQ X C p (.Call (.Name x pp) (e::es) [] pos) (jK gs N φs):=⟨jK.mono ha,(eR hc hg hm hv ha.pa hn hdb (he:=gC) (hpl:=hpl)).pre (pV CS ha)⟩
theorem mZ (CS:Bf N)(hc:AY X (.type T) gs N)(hm:X.mg x=none)(hv:VJ x=some (.type T))(ha:pC X C p (e::es) φs)(hg:Gl X x:=by rfl)(hn:x≠"__name__" := by decide)(hdb:(x==("__debug__" : Str))=false:=by decide)
  (gC:US (e::es) X.env=(false,eval e X.env)::US es X.env:=by rfl) (hpl:(V6 pos (US es X.env)).any (·.1)=false:=by rfl) :
  PQ X C p (.Call (.Name x pp) (e::es) [] pos) (jK gs N φs):=⟨jK.mono ha,(wd hc hg hm hv ha.pa hn hdb (he:=gC) (hpl:=hpl)).pre (pV CS ha)⟩
end
def mM (P:UP)(w:U1)(ro:Bool)(H H':Hp)(d:D)(v:V):Prop:=match ro with
 |true=>∃A,Own P w H' d v A/\A.Nodup/\∀c∈A,H c=none
 |false=>ay P w (λa=>H a≠none) H' d v
abbrev rk (ro:Bool):Kd:=match ro with|true=>.own|false=>.cE
def dU (P:UP)(w:U1)(ro:Bool)(F:FD):Sp:=λvs H Q _=>∃ds,ai P w (λ_=>False) H ds vs/\F ds λd=>∀v H',aw H H'->mM P w ro H H' d v->Q v H'
def me (P:UP)(w:U1)(ok:List Int->Prop)(ro:Bool)(F:FD):Sp:=λvs H Q _=>∃h vs' ds ns,vs=.ref h::vs'/\H h=some (.lst (ns.map V.int))/\ok ns/\ai P w (λa=>a=h) H ds vs' /\
 F ds λd=>∀v H' ph,Kp (·=h) H H'->(∀c,H c≠none->H' c≠none)->H' h=some (.lst (ph.map V.int))->ok ph->mM P w ro H H' d v->Q v H'
section
variable {X:Cx}{C:Cfg}{k ih:Nat}{f:Addr}{fd:Vs}{ps:List Str}{F:FD}{ro p:Bool}{x hx:Str}{pp pos px:Pos}{e:Expr}{es:List Expr}{φs:b3}{ok:List Int->Prop}{σ:St}{H H':Hp}{β:a3}{own:Nat->List Addr}{P:UP}{w:U1}
theorem mM.kv {Z:Hp×(Addr->Prop)}{d:D}{v:V}(hd:Dm (Wn own) H)(h0:∀a,C.H0 a≠none->H a≠none)(hz:∀a,Z.1 a≠none->H a≠none)(h:mM P w ro H H' d v):KV P w C Z own H' (rk ro) d v:=by
 cases ro with
 |true =>
  obtain⟨A,h1,h2,h3⟩:=h;exact⟨A,h1,h2,λc hc=>⟨Vw λz=>hz c z (h3 c hc),λz=>hd c z (h3 c hc),Vw λz=>h0 c z (h3 c hc)⟩⟩
 |false=>exact ay.aO (λa z=>z.elim (hd a) (h0 a)) h
def Nl (ro:Bool)(F:FD)(φs:b3):aQ:=λβ R=>φs β λds _ β1=>F ds λd=>R d (rk ro) β1
theorem aW (mF:dt F)(G:aL X.prog X.w X.K X.mg X.base bS k f fd ps (dU X.prog X.w ro F))(hr:ck k X.A)(hm:X.mg x=some (.ref f))(hk:PySem.W.keepIn X.K (.ref f)=true)(hb:Binds X.K fd ps [])(ha:pC X C p (e::es) φs)(hg:Gl X x:=by rfl)
  (hdb:(x==("__debug__" : Str))=false:=by decide)
  (gC:US (e::es) X.env=(false,eval e X.env)::US es X.env:=by rfl) (hpl:(V6 pos (US es X.env)).any (·.1)=false:=by rfl) :
  PQ X C p (.Call (.Name x pp) (e::es) [] pos) (Nl ro F φs) :=
 ⟨λβ R R' k h=>ha.mono β _ _ (λds ks β1 q=>mF ds _ _ (λd q=>k _ _ _ q) q) h,(oF G hr hg hm hk hb .nil yW ha.pa (hdb:=hdb) (he:=gC) (hpl:=hpl)).pre λσ H Q ⟨β,own,s,h⟩=>rH.of ha s h λds ks β1 vs H1 aB q o1 r1=>by
  rw[VT];exact⟨ds,r1.bor,mF ds _ _ (λd q2 v H' s2 r2=>q2 v H' aB (o1.same s2) (r2.kv o1.sq.pq o1.sq.fP λa z=>o1.sn.d a z)) q⟩⟩
theorem bz.drawn {i:Nat}{h:Addr}{ph:List Int}(b:bz P w C σ H β own)(e:β[i]?=some (some (.hand ok)))(hσ:σ[i]?=some (some (.ref h)))(k:Kp (·=h) H H')(e':H' h=some (.lst (ph.map V.int)))(o':ok ph)(dn:∀c,H c≠none->H' c≠none):bz P w C σ H' β own:=by
 obtain⟨a,ns,h1,h2,h3,h4,h5⟩:=b.nz i ok e;rw[hσ]at h1;cases h1;have wh:Wn own h:=⟨i,by rw[h4];simp⟩
 have kW:∀y,Kp (eN C (Wn own) (yk y)) H H':=λy=>k.mono λc z=>by rw[z];cases y <;> first|exact .inl wh|exact .inl (.inl wh)
 have ne:∀j,j≠i->∀c∈own j,c≠h:=λj hj c hc z=>hj (b.g_ j i c hc (by rw[h4,z];simp))
 refine⟨b.len,λj y d e=>let ⟨v,g1,g2⟩:=b.val j y d e;⟨v,g1,g2.keep (kW y)⟩,λj d ej=>?_,λj xw ej=>?_,λj c hc=>?_,b.g_,b.l7,⟨λc o z n=>?_,λc xs z=>k.tup c xs (b.kp.tup c xs z)⟩,λc z=>dn c (b.fP c z),λj y d ej=>by
  obtain⟨v,g1,g2,g3⟩:=b.shl j y d ej;have hj:j≠i:=λz=>by rw[z,e]at ej;cases ej
  exact⟨v,g1,g2.map (λc hc o eo=>k.out c o eo (ne j hj c hc)) (λ_ _ r=>r.keep (kW y)),g3⟩⟩
 ·obtain⟨v,g1,g2,g3⟩:=b.ow j d ej;have hj:j≠i:=λz=>by rw[z,e]at ej;cases ej
  exact⟨v,g1,g2.keep k.tup (λc hc o eo=>k.out c o eo (ne j hj c hc)),g3⟩
 ·by_cases hj:j=i
  ·subst hj;rw[e]at ej;cases ej;exact⟨h,ph,hσ,e',o',h4,h5⟩
  ·obtain⟨a,ms,g1,g2,g3,g4,g5⟩:=b.nz j xw ej;exact⟨a,ms,g1,k.out a _ g2 (ne j hj a (by rw[g4];simp)),g3,g4,g5⟩
 ·obtain⟨g1,g2,g3⟩:=b.dm j c hc
  by_cases uQ:c=h
  ·rw[uQ,e'];rw[uQ]at g3;exact⟨λz=>(nomatch z),λxs z=>(by cases z),g3⟩
  ·cases q:H c with
   |none=>exact absurd q g1
   |some o=>rw[k.out c o q uQ];exact⟨λz=>(nomatch z),λxs z=>g2 xs (by rw[q];exact z),g3⟩
 ·refine k.out c o (b.kp.out c o z n) λq=>?_;subst q;rcases (b.dm i c (by rw[h4];simp)).2.2.1 with z0|z0
  ·rw[z0]at z;cases z
  ·exact n z0
def Jk (ih:Nat)(ok:List Int->Prop)(ro:Bool)(F:FD)(φs:b3):aQ:=λβ R=>β[ih]?=some (some (.hand ok))/\φs β λds ks β1=>β1[ih]?=some (some (.hand ok))/\hold (gG ks) false/\F ds λd=>R d (rk ro) β1
theorem bj (mF:dt F)(G:aL X.prog X.w X.K X.mg X.base bS k f fd ps (me X.prog X.w ok ro F))(hr:ck k X.A)(hm:X.mg x=some (.ref f))(hk:PySem.W.keepIn X.K (.ref f)=true)(hb:Binds X.K fd ps [])(ha:pC X C p es φs)(hN:X.N[ih]?=some hx:=by rfl)
  (hv:rM X.env.scope hx:=by first|exact .inl rfl|exact .inr (.inl rfl)|exact .inr (.inr rfl)) (hd:(hx==("__debug__" : Str))=false:=by decide) (fH:(hx==("__classdict__" : Str))=false:=by decide) (hg:Gl X x:=by rfl) (hdb:(x==("__debug__" : Str))=false:=by decide)
  (gC:US (.Name hx px::es) X.env=(false,eval (.Name hx px) X.env)::US es X.env:=by rfl) (hpl:(V6 pos (US es X.env)).any (·.1)=false:=by rfl) :
  PQ X C false (.Call (.Name x pp) (.Name hx px::es) [] pos) (Jk ih ok ro F φs) :=
 ⟨λβ R R' k Oe=>by obtain⟨e,h⟩:=Oe;exact⟨e,ha.mono β _ _ (λds ks β1 GU=>by obtain⟨e,hh,q⟩:=GU;exact⟨e,hh,mF ds _ _ (λd q=>k _ _ _ q) q⟩) h⟩,
  (oF G hr hg hm hk hb .nil yW (a6 (cL (pos:=px) hN hv hd fH) ha.pa gC) (hdb:=hdb) (he:=gC) (hpl:=hpl)).pre λσ H Q GP=>by
  obtain⟨β,own,s,e,h⟩:=GP;obtain⟨hh,ns,h1,h2,h3,h4⟩:=s.nz ih ok e;refine⟨.ref hh,h1,rH.of ha s h λds ks β1 vs H1 aB ⟨e1,ho,q⟩ o1 r1=>?_⟩;obtain⟨Uy,RN,g1,g2,g3,g4,g5⟩:=o1.sq.nz ih ok e1;rw[h1]at g1;cases g1;have wh:Wn aB hh:=⟨ih,by rw[g4];simp⟩
  rw[VT];refine⟨hh,vs,ds,RN,rfl,g2,g3,ai.aO (λa z=>?_) r1.iu,mF ds _ _ (λd q v H' ph kp dn e' xw r=>?_) q⟩
  ·subst z;cases hk:gG ks with
   |own=>exact .inl wh
   |cE=>exact .inl wh
   |old=>exact wh
   |bor=>rw[hk]at ho;exact ho.elim
  ·exact q v H' aB ⟨o1.sq.drawn e1 h1 kp e' xw dn,o1.sn.kp (kp.mono λb z=>by rw[z];exact wh) dn,λz=>(nomatch z),o1.le⟩ (r.kv o1.sq.pq o1.sq.fP λa z=>o1.sn.d a z)⟩
end
abbrev Cfg.z (C:Cfg):Cfg:=C.u λ_=>False
def SB (X:Cx)(C:Cfg)(Z:Hp×(Addr->Prop))(σ:St)(H:Hp)(β:a3):Prop:=∃own,SQ X C.z σ H β own/\Sn Z H (Wn own)
structure eh where
 nx:a3->Prop
 rt:D->a3->Prop
 bk:a3->Prop:=λ_=>False
 ct:a3->Prop:=λ_=>False
def eh.up (E:eh)(n:a3->Prop):eh:=⟨n,E.rt,E.bk,E.ct⟩
def eh.lp (E:eh)(n:a3->Prop):eh:=⟨n,E.rt,E.nx,n⟩
structure Q3 (X:Cx)(C:Cfg)(Z:Hp×(Addr->Prop))(E:eh)(D:Ends):Prop where
 nx:∀σ H β,SB X C Z σ H β->E.nx β->D.nx σ H
 rt:∀σ H β d v,SB X C Z σ H β->mM X.prog X.w C.ro C.H0 H d v->E.rt d β->D.rt v H
 bk:∀σ H β,SB X C Z σ H β->E.bk β->D.bk σ H
 ct:∀σ H β,SB X C Z σ H β->E.ct β->D.ct σ H
structure Le (E E':eh):Prop where
 nx:∀β,E.nx β->E'.nx β
 rt:∀d β,E.rt d β->E'.rt d β
 bk:∀β,E.bk β->E'.bk β
 ct:∀β,E.ct β->E'.ct β
abbrev Be:=eh->a3->Prop
def PR (X:Cx)(C:Cfg)(ψ:Be):TS:=λD σ H=>∃Z E β,SB X C Z σ H β/\ψ E β/\Q3 X C Z E D
structure PB (X:Cx)(C:Cfg)(st:Stmt)(ψ:Be):Prop where
 mono:∀E E' β,Le E E'->ψ E β->ψ E' β
 ps:PS X st (PR X C ψ)
structure o_ (X:Cx)(C:Cfg)(st:List Stmt)(ψ:Be):Prop where
 mono:∀E E' β,Le E E'->ψ E β->ψ E' β
 ps:pA X st (PR X C ψ)
section
variable {X:Cx}{C:Cfg}{st:Stmt}{rest a b:List Stmt}{ψ ψ1 ψ2:Be}{Z:Hp×(Addr->Prop)}{σ:St}{H H':Hp}{β β':a3}{pos pos':Pos}{e c:Expr}{φ:aQ}{τ:a8}{p:Bool}{own aS:Nat->List Addr}{i:Nat}{x:Str}
theorem Out.sb (n:Sn Z H (Wn own))(o:Out X C.z σ H own p β' H' aS):SB X C Z σ H' β':=⟨aS,o.sq,n.trans o.sn⟩
theorem bx:o_ X C [] (λE β=>E.nx β):=⟨λE E' β l h=>l.nx β h,ot.pre λD σ H zS=>by obtain⟨Z,E,β,sb,h,ok⟩:=zS;exact ok.nx σ H β sb h⟩
theorem aj (h1:PB X C st ψ1)(h2:o_ X C rest ψ2):o_ X C (st::rest) (λE β=>ψ1 (E.up (ψ2 E)) β) :=
 ⟨λE E' β l h=>h1.mono {E with nx:=ψ2 E} {E' with nx:=ψ2 E'} β ⟨λβ' q=>h2.mono E E' β' l q,l.rt,l.bk,l.ct⟩ h,(bX h1.ps h2.ps).pre λD σ H ⟨Z,E,β,sb,h,ok⟩ =>
  ⟨Z,{E with nx:=ψ2 E},β,sb,h,⟨λσ' H' β' sf h'=>⟨Z,E,β',sf,h',ok⟩,ok.rt,ok.bk,ok.ct⟩⟩⟩
theorem ar (h1:PB X C st ψ):o_ X C [st] ψ:=⟨h1.mono,d7 h1.ps⟩
theorem di (h1:PB X C st ψ1)(h2:o_ X C rest ψ2):o_ X C (st::rest) (λE β=>∃J:a3->Prop,ψ1 (E.up J) β/\∀β',J β'->ψ2 E β') :=
 ⟨λE E' β l GQ=>by obtain⟨J,h,k⟩:=GQ;exact⟨J,h1.mono {E with nx:=J} {E' with nx:=J} β ⟨λ_ q=>q,l.rt,l.bk,l.ct⟩ h,λβ' q=>h2.mono E E' β' l (k β' q)⟩,(bX h1.ps h2.ps).pre λD σ H ⟨Z,E,β,sb,⟨J,h,k⟩,ok⟩ =>
  ⟨Z,{E with nx:=J},β,sb,h,⟨λσ' H' β' sf h'=>⟨Z,E,β',sf,k β' h',ok⟩,ok.rt,ok.bk,ok.ct⟩⟩⟩
theorem c7 (hc:vx X C.z p c τ)(ha:o_ X C a ψ1)(hb:o_ X C b ψ2):PB X C (.If c a b pos) (λE β=>τ β λt β'=>if t=true then ψ1 E β' else ψ2 E β') :=
 ⟨λE E' β l h=>hc.mono _ _ _ (λt β' q=>by
   cases t
   ·exact hb.mono E E' β' l q
   ·exact ha.mono E E' β' l q) h,(yC hc.pt ha.ps hb.ps).pre λD σ H CM=>by
  obtain⟨Z,E,β,⟨own,s,n⟩,h,ok⟩:=CM;refine jG.of hc s h λt β' H1 aB q o1=>?_;cases t
  ·exact⟨Z,E,β',o1.sb n,q,ok⟩
  ·exact⟨Z,E,β',o1.sb n,q,ok⟩⟩
abbrev CC (d:D)(k:Kd)(K:B->Prop):Prop:=match k with
 |.own=>K (.val true d)
 |.cE=>K (.val true d)
 |.old=>K (.val false d)
 |.bor=>d.flat=true/\K (.val true d)
theorem CC.mono {d:D}{k:Kd}{K K':B->Prop}(h:∀b,K b->K' b)(q:CC d k K):CC d k K':=by
 cases k <;> first|exact h _ q|exact⟨q.1,h _ q.2⟩
theorem CC.of {P:UP}{w:U1}{d:D}{v:V}{k:Kd}{K:B->Prop}(r:KV P w C Z own H k d v)(q:CC d k K):∃y,K (.val y d)/\ay P w (av C (Wn own) (yk y)) H d v:=by
 cases k with
 |own=>exact⟨true,q,r.cE⟩
 |cE=>exact⟨true,q,r⟩
 |old=>exact⟨false,q,r⟩
 |bor=>exact⟨true,q.2,ay.flat q.1 r⟩
theorem i6 {own:Nat->List Addr}{i:Nat}(n:Sn Z H (Wn own)):Sn Z H (Wn (aD own i [])):=⟨λb z=>n.w b (cZ z),n.k,n.d⟩
theorem aR (he:PQ X C.z p e φ)(hN:X.N.Nodup)(hi:X.N[i]?=some x:=by rfl)(hx:Loc X.env.scope x:=by first|exact .inl rfl|exact .inr rfl)
  (hs:Wf e (some (.Name x pos')) pos.line X.env=pure false:=by rfl) (hf:X.fn x=true\/X.env.scope.names.lookup x=some .local:=by first|exact .inl rfl|exact .inr rfl|assumption) :
  PB X C (.Assign [.Name x pos'] e pos) (λE β=>φ β λd k β'=>CC d k λb=>E.nx (β'.set i (some b))) :=
 ⟨λE E' β l q=>he.mono _ _ _ (λd k β' q=>q.mono λ_=>l.nx _) q,(gW hN hi hx he.pe hs hf).pre λD σ H ⟨Z,E,β,⟨own,s,n⟩,q,ok⟩=>tQ.of he s q λd k β' v H' aS q o r=>by
  obtain⟨y,q,r⟩:=q.of r;exact ok.nx _ _ _ ⟨_,o.sq.cK (ay.aO (λa z=>z.elim id λz=>z.elim) r),i6 (n.trans o.sn)⟩ q⟩
abbrev CD (k:Kd)(d:D):Prop:=match k with
 |.own=>True
 |_=>d.flat=true
theorem KV.fl {P:UP}{w:U1}{d:D}{v:V}{k:Kd}(f:CD k d)(r:KV P w C Z own H k d v):KV P w C Z own H .own d v:=by
 cases k with
 |own=>exact r
 |cE=>exact KV.flat f r.rep
 |old=>exact KV.flat f r.rep
 |bor=>exact KV.flat f r.rep
theorem kc (he:∀U,PQ X (C.u U) p e φ)(hN:X.N.Nodup)(hi:X.N[i]?=some x:=by rfl)(hx:Loc X.env.scope x:=by first|exact .inl rfl|exact .inr rfl)
  (hs:Wf e (some (.Name x pos')) pos.line X.env=pure false:=by rfl) (hf:X.fn x=true\/X.env.scope.names.lookup x=some .local:=by first|exact .inl rfl|exact .inr rfl|assumption) :
  PB X C (.Assign [.Name x pos'] e pos) (λE β=>φ β λd k β'=>CD k d/\E.nx (β'.set i (some (.own d)))) :=
 ⟨λE E' β l q=>(he λ_=>False).mono _ _ _ (λd k β' q=>⟨q.1,l.nx _ q.2⟩) q,λpins s σ H D I ⟨Z,E,β,⟨own,sq,n⟩,q,ok⟩ =>
  gW hN hi hx (he λa=>H a=none).pe hs hf pins s σ H D I (tQ.of (he λa=>H a=none) (sq.jE (C:=C.z) (U:=λa=>H a=none) λa z=>z) q λd k β' v H' aS G2 o r=>by
   obtain⟨f,q⟩:=G2;obtain⟨A,h1,h2,h3⟩:=r.fl f;refine ok.nx _ _ _ ⟨_,o.sq.r_ h1 h2 λc hc=>⟨(h3 c hc).2.2,(h3 c hc).2.1,(h3 c hc).1⟩,?_⟩ q;have m:=n.trans o.sn;exact⟨λb Om=>by
    obtain⟨j,hj⟩:=Om
    by_cases aC:i=j
    ·rw[<- aC,os_eq]at hj;exact .inr (n.free (h3 b hj).1)
    ·rw[a_ aC]at hj;exact m.w b ⟨j,hj⟩,m.k,m.d⟩)⟩
theorem bz.BL {P:UP}{w:U1}{U U2:Addr->Prop}{d d':D}{v:V}{A':List Addr}{c:Addr}{o:HO}(b:bz P w (C.u U) σ H β own)(e:β[i]?=some (some (.own d)))(hσ:σ[i]?=some (some v))(hc:c∈own i)
  (r:Own P w (upd H c o) d' v A') (nd:A'.Nodup) (hA:∀a∈A',a∈own i\/(C.H0 a=none/\¬ Wn own a/\U a)) (hU:∀a,U2 a->U a) (O1:∀a∈A',¬ U2 a):bz P w (C.u U2) σ (upd H c o) (β.set i (some (.own d'))) (aD own i A'):=by
 obtain⟨g1,g2,g3,g4⟩:=b.dm i c hc;obtain⟨oc,CO⟩:∃oc,H c=some oc:=by
  cases q:H c with
  |none=>exact absurd q g1
  |some oc=>exact⟨oc,rfl⟩
 have ht:∀xs,oc≠.tup xs:=λxs z=>g2 xs (by rw[CO,z])
 have k:Kp (·=c) H (upd H c o):=jn CO ht;have h0:∀a∈own i,C.H0 a=none:=by obtain⟨_,_,_,h⟩:=b.ow i d e;exact h
 have wc:Wn own c:=⟨i,hc⟩;have sub:∀y a,eN (C.u U2) (Wn (aD own i A')) (yk y) a->eN (C.u U) (Wn own) (yk y) a:=λy a h=>by
  have q:∀a,Wn (aD own i A') a->Wn own a\/U a:=λa zQ=>by
   obtain⟨j,q⟩:=zQ
   by_cases aC:i=j
   ·rw[aC,os_eq]at q;rcases hA a q with z|z
    ·exact .inl ⟨i,z⟩
    ·exact .inr z.2.2
   ·rw[a_ aC]at q;exact .inl ⟨j,q⟩
  rcases h with h|h
  ·cases y with
   |true=>exact h.elim (λz=>(q a z).imp .inl id) λz=>.inl (.inr z)
   |false=>exact q a h
  ·exact .inr (hU a h)
 have mem:∀{j c},c∈aD own i A' j->(i=j/\c∈A')\/(i≠j/\c∈own j):=λ{j c} h=>by
  by_cases aC:i=j
  ·subst aC;rw[os_eq]at h;exact .inl ⟨rfl,h⟩
  ·rw[a_ aC]at h;exact .inr ⟨aC,h⟩
 have L_:∀j,i≠j->∀a∈own j,a≠c:=λj aC a ha z=>aC (b.g_ i j c hc (by rw[<- z];exact ha))
 refine⟨by simp[b.len],λj y' d2 e2=>?_,λj d2 e2=>?_,λj ok e2=>?_,λj a h=>?_,λj k2 a h1 h2=>?_,λj=>?_,⟨λa oa z n=>?_,λa xs z=>k.tup a xs (b.kp.tup a xs z)⟩,λa z=>?_,λj y' d2 e2=>by
  by_cases aC:i=j
  ·subst aC;obtain⟨e',hl⟩:=aU e2;cases e'
  ·rw[aP aC]at e2;rw[a_ aC];obtain⟨u,h1,h2,h3⟩:=b.shl j y' d2 e2;exact⟨u,h1,h2.map (λa ha oa ea=>k.out a oa ea (L_ j aC a ha)) (λ_ _ r=>ai.aO (sub _) (r.keep (k.mono λa z=>by rw[z];cases y' <;> first|exact .inl wc|exact .inl (.inl wc)))),h3⟩⟩
 ·by_cases aC:i=j
  ·subst aC;obtain⟨e',hl⟩:=aU e2;cases e'
  ·rw[aP aC]at e2;obtain⟨u,h1,h2⟩:=b.val j y' d2 e2;exact⟨u,h1,(h2.keep (k.mono λa z=>by rw[z];cases y' <;> first|exact .inl wc|exact .inl (.inl wc))).aO (sub _)⟩
 ·by_cases aC:i=j
  ·subst aC;obtain⟨e',hl⟩:=aU e2;cases e';rw[os_eq];exact⟨v,hσ,r,λa ha=>(hA a ha).elim (h0 a) λz=>z.1⟩
  ·rw[aP aC]at e2;rw[a_ aC];obtain⟨u,h1,h2,h3⟩:=b.ow j d2 e2;exact⟨u,h1,h2.keep k.tup (λa ha oa ea=>k.out a oa ea (L_ j aC a ha)),h3⟩
 ·by_cases aC:i=j
  ·subst aC;obtain⟨e',hl⟩:=aU e2;cases e'
  ·rw[aP aC]at e2;rw[a_ aC];obtain⟨a,ns,h1,h2,h3,h4,h5⟩:=b.nz j ok e2;exact⟨a,ns,h1,k.out a _ h2 (L_ j aC a (by rw[h4];simp)),h3,h4,h5⟩
 ·rcases mem h with⟨_,h⟩|⟨aC,h⟩
  ·exact⟨(r.l9 a h).1,(r.l9 a h).2,.inl ((hA a h).elim (h0 a) λz=>z.1),O1 a h⟩
  ·obtain⟨q1,q2,q3,q4⟩:=b.dm j a h;rw[az (L_ j aC a h)];exact⟨q1,q2,q3,λz=>q4 (hU a z)⟩
 ·rcases mem h1 with⟨e1,h1⟩|⟨n1,h1⟩
  ·rcases mem h2 with⟨e2,h2⟩|⟨n2,h2⟩
   ·rw[<- e1,<- e2]
   ·rcases hA a h1 with z|z
    ·exact absurd (b.g_ i k2 a z h2) n2
    ·exact absurd ⟨k2,h2⟩ z.2.1
  ·rcases mem h2 with⟨e2,h2⟩|⟨n2,h2⟩
   ·rcases hA a h2 with z|z
    ·exact absurd (b.g_ i j a z h1) n1
    ·exact absurd ⟨j,h1⟩ z.2.1
   ·exact b.g_ j k2 a h1 h2
 ·by_cases aC:i=j
  ·rw[<- aC,os_eq];exact nd
  ·rw[a_ aC];exact b.l7 j
 ·refine k.out a oa (b.kp.out a oa z n) λq=>?_;subst q;rw[h0 a hc]at z;cases z
 ·by_cases QM:a=c
  ·rw[QM,ao];exact λz=>(nomatch z)
  ·rw[az QM];exact b.fP a z
theorem bz.putIn {P:UP}{w:U1}{U:Addr->Prop}{d d':D}{v:V}{A':List Addr}{c:Addr}{o:HO}(b:bz P w (C.u U) σ H β own)(e:β[i]?=some (some (.own d)))(hσ:σ[i]?=some (some v))(hc:c∈own i)
  (r:Own P w (upd H c o) d' v A') (nd:A'.Nodup) (hA:∀a∈A',a∈own i\/(C.H0 a=none/\¬ Wn own a/\U a)):bz P w C.z σ (upd H c o) (β.set i (some (.own d'))) (aD own i A') :=
 b.BL (U2:=λ_=>False) e hσ hc r nd hA (λ_ z=>z.elim) λ_ _ z=>z
theorem kU {A':List Addr}{c:Addr}{o:HO}{U:Addr->Prop}(n:Sn Z H (Wn own))(m:∀a,U a->Z.1 a=none)(hc:Wn own c)(CO:∃oc,H c=some oc/\∀xs,oc≠.tup xs)(hA:∀a∈A',a∈own i\/(C.H0 a=none/\¬ Wn own a/\U a)):Sn Z (upd H c o) (Wn (aD own i A')):=by
 obtain⟨oc,h1,h2⟩:=CO;have u:=Sn.upd (o':=o) n h1 h2 hc;exact⟨λb G1=>by
  obtain⟨j,hj⟩:=G1
  by_cases aC:i=j
  ·rw[<- aC,os_eq]at hj;rcases hA b hj with z|z
   ·exact n.w b ⟨i,z⟩
   ·exact .inr (m b z.2.2)
  ·rw[a_ aC]at hj;exact n.w b ⟨j,hj⟩,u.k,u.d⟩
theorem bz.zr {P:UP}{w:U1}{ds:List D}(b:bz P w C σ H β own)(e:β[i]?=some (some (.own (.lst ds)))):∃a vs A',σ[i]?=some (some (.ref a))/\H a=some (.lst vs)/\own i=a::A'/\aK P w H ds vs A':=by
 obtain⟨v,h1,⟨a,vs,A',rfl,h2,h3,h4⟩,_⟩:=b.ow i _ e;exact⟨a,vs,A',h1,h2,h3,h4⟩
end
abbrev eM:=D->Kd->a3->(a3->Prop)->Prop
abbrev nQ:=List D->Kd->a3->(a3->Prop)->Prop
structure AU (X:Cx)(C:Cfg)(tg:Expr)(T:List Nat)(γ:eM):Prop where
 mono:∀d k β R R',(∀r,R r->R' r)->γ d k β R->γ d k β R'
 pg:PG X tg λv σ H Q=>∃own β d k,SQ X C σ H β own/\Rp X (eN C (Wn own) k) H d v/\γ d k β λβ'=>∀σ' aS,SQ X C σ' H β' aS->(∀a,Wn aS a->Wn own a)->(∀j,j∉T->σ'[j]?=σ[j]?)->Q σ' H
structure DK (X:Cx)(C:Cfg)(vD:List Expr)(T:List Nat)(γ:nQ):Prop where
 mono:∀d k β R R',(∀r,R r->R' r)->γ d k β R->γ d k β R'
 Qa:EL X vD λvs σ H Q=>∃own β ds k,SQ X C σ H β own/\rN X (eN C (Wn own) k) H ds vs/\γ ds k β λβ'=>∀σ' aS,SQ X C σ' H β' aS->(∀a,Wn aS a->Wn own a)->(∀j,j∉T->σ'[j]?=σ[j]?)->Q σ' H
section
variable {X:Cx}{C:Cfg}{tg:Expr}{vD:List Expr}{γ:eM}{γs:nQ}{T T':List Nat}{pos:Pos}{e:Expr}{φ:aQ}{p:Bool}
def S7 (i:Nat):eM:=λd k β R=>CC d k λb=>R (β.set i (some b))
theorem au {i:Nat}{x:Str}(hN:X.N.Nodup)(hi:X.N[i]?=some x:=by rfl)(hx:Loc X.env.scope x:=by first|exact .inl rfl|exact .inr rfl)
  (hf:X.fn x=true\/X.env.scope.names.lookup x=some .local:=by first|exact .inl rfl|exact .inr rfl|assumption):AU X C (.Name x pos) [i] (S7 i) :=
 ⟨λd k β R R' h q=>CC.mono (d:=d) (k:=k) (K:=λb=>R (β.set i (some b))) (K':=λb=>R' (β.set i (some b))) (λ_=>h _) q,(uu hN hi hx hf).pre λv σ H Q zS=>by
  obtain⟨own,β,d,k,s,r,q⟩:=zS;have L4:∀(v:V) (j:Nat),j∉[i]->(σ.set i (some v))[j]?=σ[j]?:=λv j hj=>aP (W7 (by simpa using hj))
  cases k with
  |own=>exact q _ _ (s.cK (y:=true) r) (λa h=>cZ h) (L4 v)
  |cE=>exact q _ _ (s.cK (y:=true) r) (λa h=>cZ h) (L4 v)
  |old=>exact q _ _ (s.cK (y:=false) r) (λa h=>cZ h) (L4 v)
  |bor=>exact q.2 _ _ (s.cK (y:=true) (ay.flat q.1 r)) (λa h=>cZ h) (L4 v)⟩
abbrev sk (k:Kd):D->Kd
 |.int _=>.own
 |.bl _=>.own
 |.cg=>.own
 |.str _=>.own
 |_=>k.wk
theorem og {P:UP}{w:U1}{W:Addr->Prop}{H:Hp}{k:Kd}{d:D}{v:V}(r:ay P w (eN C W k) H d v):ay P w (eN C W (sk k d)) H d v:=by
 cases d with
 |int i=>exact ay.flat rfl r
 |bl i=>exact ay.flat rfl r
 |cg=>exact ay.flat rfl r
 |str i=>exact ay.flat rfl r
 |_=>exact ay.aO (λa z=>z.imp (AL a) id) r
def Hj:nQ:=λds _ β R=>ds=[]/\R β
def z5 (γ:eM)(γs:nQ):nQ:=λds k β R=>∃d r,ds=d::r/\γ d (sk k d) β λβ'=>γs r k β' R
theorem cw:DK X C [] [] Hj:=⟨λd k β R R' h q=>⟨q.1,h _ q.2⟩,BY.pre λvs σ H Q zP=>by
 obtain⟨own,β,ds,k,s,r,e,q⟩:=zP;subst e;exact⟨r,q σ own s (λ_ z=>z) λ_ _=>rfl⟩⟩
theorem aT (h1:AU X C tg T γ)(h2:DK X C vD T' γs)(hs:(WI (tg::vD) X.env).map (·.2)=assign tg X.env::(WI vD X.env).map (·.2):=by rfl):DK X C (tg::vD) (T++T') (z5 γ γs) :=
 ⟨λds k β R R' h GQ=>by obtain⟨d,r,e,q⟩:=GQ;exact⟨d,r,e,h1.mono _ _ β _ _ (λβ' q=>h2.mono r k β' _ _ h q) q⟩,
  (yP h1.pg h2.Qa hs).pre λvs σ H Q Ki=>by
    obtain⟨own,β,ds,k,s,rr,d,r,e,q⟩:=Ki;subst e;obtain⟨v,vr,rfl,rv,Rx⟩:=rr;exact⟨v,vr,rfl,own,β,d,_,s,og rv,h1.mono _ _ β _ _ (λβ' q σ' aS s' w' t'=>⟨aS,β',r,k,s',ai.aO (eY w' k) Rx,h2.mono r k β' _ _ (λβ2 q2 σ2 aZ s2 w2 t2=>q2 σ2 aZ s2 (λa z=>w' a (w2 a z)) λj hj=>(t2 j λz=>hj (Vu _ z)).trans (t' j λz=>hj (Wi _ z))) q⟩) q⟩⟩
def S6 (n:Nat)(γs:nQ):eM:=λd k β R=>∃ds,d=.tup ds/\ds.length=n/\γs ds k β R
theorem dj {k:Nat}{n:Nat}(hc:X.calm=true)(h:DK X C vD T γs)(hn:(WI vD X.env).length=n:=by rfl)(nv:(WI vD X.env).findIdx? (·.1)=none:=by rfl):AU X C (.Tuple vD k pos) T (S6 n γs) :=
 ⟨λd k β R R' hh Kh=>by obtain⟨ds,e,l,q⟩:=Kh;exact⟨ds,e,l,h.mono ds k β _ _ hh q⟩,(FJ hc h.Qa hn nv).pre λv σ H Q Kg=>by
  obtain⟨own,β,d,k,s,r,ds,e,l,q⟩:=Kg;subst e;obtain⟨a,vs,rfl,ha,rs⟩:=r;exact⟨a,vs,rfl,tP.of ha,by rw[rs.length];exact l,own,β,ds,k,s,rs,q⟩⟩
theorem ik {Z:Hp×(Addr->Prop)}{H:Hp}{own aS:Nat->List Addr}(n:Sn Z H (Wn own))(h:∀a,Wn aS a->Wn own a):Sn Z H (Wn aS):=⟨λb z=>n.w b (h b z),n.k,n.d⟩
theorem lx (he:PQ X C.z p e φ)(hg:AU X C.z tg T γ)(hs:swapsWithSole [tg] e pos.line X.env=pure false:=by rfl)(hw:swappedStores [tg] e X.env=pure none:=by rfl)
  (h1:(WI [tg] X.env).map (·.2)=[assign tg X.env]:=by rfl):PB X C (.Assign [tg] e pos) (λE β=>φ β λd k β'=>γ d k β' E.nx) :=
 ⟨λE E' β l q=>he.mono _ _ _ (λd k β' q=>hg.mono _ _ _ _ _ l.nx q) q,(sA he.pe hg.pg hs hw h1).pre λD σ H ⟨Z,E,β,⟨own,s,n⟩,q,ok⟩=>tQ.of he s q λd k β' v H' aS q o r =>
  ⟨aS,β',d,k,o.sq,ay.aO (λa z=>z.elim id λz=>z.elim) r.rep,hg.mono _ _ _ _ _ (λβ2 q σ2 aZ s2 w2 _=>ok.nx _ _ _ ⟨aZ,s2,ik (n.trans o.sn) w2⟩ q) q⟩⟩
abbrev Qr (ro:Bool)(k:Kd)(d:D):Prop:=match k,ro with
 |.own,_=>True
 |.cE,false=>True
 |_,_=>d.flat=true
theorem dw {P:UP}{w:U1}{W:Addr->Prop}{ro:Bool}{H H':Hp}{d:D}{v:V}(f:d.flat=true)(r:ay P w W H' d v):mM P w ro H H' d v:=by
 cases ro with
 |true=>exact⟨[],eS f r,VY,λc hc=>(nomatch hc)⟩
 |false=>exact ay.flat f r
theorem Cv {P:UP}{w:U1}{Z:Hp×(Addr->Prop)}{own:Nat->List Addr}{ro:Bool}{H':Hp}{k:Kd}{d:D}{v:V}(f:Qr ro k d)(r:KV P w C Z own H' k d v):mM P w ro C.H0 H' d v:=by
 cases k with
 |own =>
  cases ro with
  |true=>obtain⟨A,h1,h2,h3⟩:=r;exact⟨A,h1,h2,λc hc=>(h3 c hc).2.2⟩
  |false=>exact ay.aO (λa z=>.inr z) r.rep
 |cE =>
  cases ro with
  |true=>exact dw f r.rep
  |false=>exact ay.aO (λa z=>.inr z) r.rep
 |old=>cases ro <;> exact dw f r.rep
 |bor=>cases ro <;> exact dw f r.rep
theorem a5 (he:PQ X C.z p e φ):PB X C (.Return (some e) pos) (λE β=>φ β λd k β'=>Qr C.ro k d/\E.rt d β') :=
 ⟨λE E' β l q=>he.mono _ _ _ (λd k β' q=>⟨q.1,l.rt _ _ q.2⟩) q,(f7 he.pe).pre λD σ H CM=>by obtain⟨Z,E,β,⟨own,s,n⟩,q,ok⟩:=CM;exact tQ.of he s q λd k β' v H' aS q o r=>ok.rt _ _ _ _ _ (o.sb n) (Cv (C:=C.z) q.1 r) q.2⟩
theorem uy {i:Nat}{x:Str}{px:Pos}(hN:X.N[i]?=some x:=by rfl)(hv:rM X.env.scope x:=by first|exact .inl rfl|exact .inr (.inl rfl)|exact .inr (.inr rfl))(hd:(x==("__debug__" : Str))=false:=by decide)(fH:(x==("__classdict__" : Str))=false:=by decide):
  PB X C (.Return (some (.Name x px)) pos) (λE β=>∃d,β[i]?=some (some (.own d))/\E.rt d β) :=
 ⟨λE E' β l sW=>by obtain⟨d,h1,q⟩:=sW;exact⟨d,h1,l.rt _ _ q⟩,(f7 (cL (pos:=px) hN hv hd fH)).pre λD σ H zR=>by
  obtain⟨Z,E,β,⟨own,s,n⟩,⟨d,h1,q⟩,ok⟩:=zR;obtain⟨v,e1,r,h0⟩:=s.ow i d h1;refine⟨_,e1,ok.rt _ _ _ _ _ ⟨own,s,n⟩ ?_ q⟩;cases hr:C.ro with
  |true=>exact⟨_,r,s.l7 i,h0⟩
  |false=>exact r.rep λc hc z=>z (h0 c hc)⟩
end
abbrev cI:=a3->(List D->Kd->a3->Prop)->Prop
structure AS (X:Cx)(C:Cfg)(p:Bool)(tg iter:Expr)(ι:cI):Prop where
 mono:∀β R R',(∀d k β,R d k β->R' d k β)->ι β R->ι β R'
 pi:PI X tg iter λσ H R=>∃β own,SQ X C σ H β own/\ι β λds k β'=>∀J H' aS,Out X C σ H own p β' H' aS->AV X (av C (Wn aS) k) J ds H'->R J H'
section
variable {X:Cx}{C:Cfg}{tg e a b:Expr}{φ:aQ}{φs:b3}{p:Bool}{pp pos:Pos}
def NT (φ:aQ):cI:=λβ R=>φ β λd k β'=>∃ds,d=.lst ds/\R ds k β'
theorem a7 (h:PQ X C p e φ):AS X C p tg e (NT φ) :=
 ⟨λβ R R' k q=>h.mono β _ _ (λd kd β' G2=>by obtain⟨ds,e,q⟩:=G2;exact⟨ds,e,k _ _ _ q⟩) q,(ur h.pe).pre λσ H R ⟨β,own,s,q⟩=>tQ.of h s q λd k β' v H1 aB zQ o1 r1=>by
  obtain⟨ds,e,q1⟩:=zQ;subst e;obtain⟨a,vs,rfl,h1,n1,q2⟩:=r1.rep;exact⟨a,rfl,⟨vs,dO.of h1⟩,q1 _ _ aB o1 (qD h1 n1 q2)⟩⟩
def CL (φs:b3):cI:=λβ R=>φs β λds _ β'=>∃j:Int,ds=[.int j]/\-(2 ^ 62)<=j/\j<2 ^ 62/\R (oi 0 j.toNat) .cE β'
def uN (φs:b3):cI:=λβ R=>φs β λds _ β'=>∃i j:Int,ds=[.int i,.int j]/\(-(2 ^ 62)<=i/\i<2 ^ 62/\-(2 ^ 62)<=j/\j<2 ^ 62)/\R (oi i (j-i).toNat) .cE β'
theorem dC (hm:X.mg "range" = none) (ha:pC X C p [a] φs) (hg:Gl X "range" := by rfl) (hs:US [a] X.env=[(false,eval a X.env)]:=by rfl):AS X C p tg (.Call (.Name "range" pp) [a] [] pos) (CL φs) :=
 ⟨λβ R R' k q=>ha.mono β _ _ (λd kd β' G0=>by obtain⟨j,e,h1,h2,q⟩:=G0;exact⟨j,e,h1,h2,k _ _ _ q⟩) q,(v8 hg hm ha.pa hs).pre λσ H R ⟨β,own,s,q⟩=>rH.of ha s q λds ks β' vs H1 aB GY o1 r1=>by
  obtain⟨j,e,h1,h2,q1⟩:=GY;subst e;obtain⟨x,rfl,hx⟩:=rq r1.iu;cases hx;exact⟨j,rfl,h1,h2,q1 _ _ aB o1 jo⟩⟩
theorem lh (hm:X.mg "range" = none) (ha:pC X C p [a,b] φs) (hg:Gl X "range" := by rfl) (hs:US [a,b] X.env=[(false,eval a X.env),(false,eval b X.env)]:=by rfl) (sU:US [b] X.env=[(false,eval b X.env)]:=by rfl) :
  AS X C p tg (.Call (.Name "range" pp) [a,b] [] pos) (uN φs) :=
 ⟨λβ R R' k q=>ha.mono β _ _ (λd kd β' GW=>by obtain⟨i,j,e,h1,q⟩:=GW;exact⟨i,j,e,h1,k _ _ _ q⟩) q,(m5 hg hm ha.pa hs sU).pre λσ H R ⟨β,own,s,q⟩=>rH.of ha s q λds ks β' vs H1 aB Oi o1 r1=>by
  obtain⟨i,j,e,h1,q1⟩:=Oi;subst e;obtain⟨x,y,rfl,hx,hy⟩:=vt r1.iu;cases hx;cases hy;exact⟨i,j,rfl,h1,q1 _ _ aB o1 jo⟩⟩
end
def C3 (γ:eM)(ψ:Be)(E:eh)(ds:List D)(k:Kd)(β:a3):Prop:=∃I:Nat->a3->Prop,I 0 β/\(∀i d β,ds[i]?=some d->I i β->γ d (sk k d) β λβ1=>ψ (E.lp (I (i+1))) β1)/\∀β,I ds.length β->E.nx β
section
variable {X:Cx}{C:Cfg}{tg iter c:Expr}{γ:eM}{T:List Nat}{ψ:Be}{ι:cI}{τ:a8}{body:List Stmt}{pos:Pos}{p:Bool}
theorem C3.mono {E E':eh}{ds:List D}{k:Kd}{β:a3}(hγ:∀d k β R R',(∀r,R r->R' r)->γ d k β R->γ d k β R')(hψ:∀E E' β,Le E E'->ψ E β->ψ E' β)(l:Le E E'):C3 γ ψ E ds k β->C3 γ ψ E' ds k β:=λ⟨I,h0,h1,h2⟩ =>
 ⟨I,h0,λi d β e q=>hγ d _ β _ _ (λβ1 q=>hψ {nx:=I (i+1),rt:=E.rt,bk:=E.nx,ct:=I (i+1)} {nx:=I (i+1),rt:=E'.rt,bk:=E'.nx,ct:=I (i+1)} β1 ⟨λ_ q=>q,l.rt,l.nx,λ_ q=>q⟩ q) (h1 i d β e q),λβ q=>l.nx _ (h2 β q)⟩
theorem DI {own aZ:Nat->List Addr}{H H2:Hp}{k:Kd}(n:Sn (H,Wn own) H2 (Wn aZ)):∀b,av C (Wn aZ) k b->av C (Wn own) k b\/H b=none:=λb z=>by
 cases k with
 |own=>exact z.elim (λz=>(n.w b z).imp .inl id) λz=>.inl (.inr z)
 |cE=>exact z.elim (λz=>(n.w b z).imp .inl id) λz=>.inl (.inr z)
 |old=>exact n.w b z
 |bor=>exact z.elim
theorem c4 (hp:YS (model X.prog X.w) X.A X.env X.xe)(hc:X.calm=true)(hi:AS X C.z p tg iter ι)(hg:AU X C.z tg T γ)(hb:o_ X C body ψ)(hs:∀x,VM iter X.env x=pure x:=by intro _;rfl):
  PB X C (.For tg iter body [] pos) (λE β=>ι β λds k β1=>hold k false/\C3 γ ψ E ds k β1) :=
 ⟨λE E' β l q=>hi.mono _ _ _ (λds k β1 q=>⟨q.1,q.2.mono hg.mono hb.mono l⟩) q,(yD hp hc hi.pi hg.pg hb.ps hs).pre λD σ H Og=>by
  obtain⟨Z,E,β,⟨own,s,n⟩,q,ok⟩:=Og;refine⟨β,own,s,hi.mono _ _ _ (λds k β1 ⟨hk,I,i0,i1,i2⟩ J H1 aB o1 it=>?_) q⟩;have n':=n.trans o1.sn;have ig:∀b,Wn aB b\/H1 b=none->av C.z (Wn aB) k b\/H1 b=none:=λb z=>by
   cases k with
   |own=>exact z.imp .inl id
   |cE=>exact z.imp .inl id
   |old=>exact z
   |bor=>exact hk.elim
  have Ei:=it (λb=>av C.z (Wn aB) k b\/H1 b=none) λb z=>z;refine⟨λi m σ H=>i<=ds.length/\m=ds.length-i/\∃β,SB X C (H1,Wn aB) σ H β/\I i β,⟨_,U4 _,rfl,β1,⟨aB,o1.sq,Sn.refl⟩,i0⟩,?_⟩;rintro i m σ2 H2 ⟨hi,rfl,β2,⟨aZ,s2,n2⟩,hl⟩;obtain⟨cF,mz⟩:=Ei i H2 (n2.k.mono ig)
  by_cases fG:i<ds.length
  ·right
   have hd:ds[i]?=some ds[i]:=Vh fG;obtain⟨go,yl⟩:=cF _ hd;refine⟨go,λσ' H'=>∃β,SB X C (H1,Wn aB) σ' H' β/\I (i+1) β,λσ' H' zO=>by obtain⟨β',sf,wO⟩:=zO;exact⟨_,by lia,fG,rfl,β',sf,wO⟩,λx H3 y=>?_⟩
   obtain⟨s3,r3⟩:=yl x H3 y;refine⟨aZ,β2,_,_,s2.same s3,og (C:=C.z) (ay.aO (λb z=>DI (C:=C) n2 b (z.elim id λz=>z.elim)) r3),hg.mono _ _ _ _ _ (λβ4 q σ4 qb s4 w4 _=>?_) (i1 i _ β2 hd hl)⟩;refine⟨(H1,Wn aB),_,β4,⟨qb,s4,ik (n2.same s3) w4⟩,q,⟨λσ5 H5 β5 vN q5=>⟨β5,vN,q5⟩,λσ5 H5 β5 d5 v5 vN r5 q5=>?_,λσ5 H5 β5 vN q5=>?_,λσ5 H5 β5 vN q5=>⟨β5,vN,q5⟩⟩⟩
   ·obtain⟨je,s5,n5⟩:=vN;exact ok.rt _ _ _ _ _ ⟨je,s5,n'.trans n5⟩ r5 q5
   ·obtain⟨je,s5,n5⟩:=vN;exact ok.nx _ _ _ ⟨je,s5,n'.trans n5⟩ q5
  ·left
   have e:i=ds.length:=by lia
   subst e;exact⟨mz (UO _),ok.nx _ _ _ ⟨aZ,s2,n'.trans n2⟩ (i2 β2 hl)⟩⟩
def E1 (τ:a8)(ψ:Be):Be:=λE β=>∃V:Nat->a3->Prop,(∃m,V m β)/\∀m β,V m β->τ β λt β1=>if t=true then ψ {nx:=λβ'=>∃m',m'<m/\V m' β',rt:=E.rt,bk:=E.nx,ct:=λβ'=>∃m',m'<m/\V m' β'} β1 else E.nx β1
theorem yU (hp:YS (model X.prog X.w) X.A X.env X.xe)(hc:vx X C.z p c τ)(hb:o_ X C body ψ):PB X C (.While c body [] pos) (E1 τ ψ) :=
 ⟨λE E' β l ⟨V,h0,h⟩=>⟨V,h0,λm β v=>hc.mono _ _ _ (λt β1 q=>by
   cases t
   ·exact l.nx _ q
   ·exact hb.mono {nx:=λβ'=>∃m',m'<m/\V m' β',rt:=E.rt,bk:=E.nx,ct:=λβ'=>∃m',m'<m/\V m' β'} {nx:=λβ'=>∃m',m'<m/\V m' β',rt:=E'.rt,bk:=E'.nx,ct:=λβ'=>∃m',m'<m/\V m' β'} β1 ⟨λ_ q=>q,l.rt,l.nx,λ_ q=>q⟩ q) (h m β v)⟩,(yB hp hc.pt hb.ps).pre λD σ H GU=>by
  obtain⟨Z,E,β,sb,⟨V,⟨m0,v0⟩,h⟩,ok⟩:=GU;refine⟨λm σ H=>∃β,SB X C Z σ H β/\V m β,⟨m0,β,sb,v0⟩,λm σ H ⟨β,⟨own,s,n⟩,v⟩=>?_⟩;refine jG.of hc s (h m β v) λt β1 H1 aB q o1=>?_;cases t
  ·exact ok.nx _ _ _ (o1.sb n) q
  ·exact⟨λσ' H'=>∃β',SB X C Z σ' H' β'/\∃m',m'<m/\V m' β',λσ' H' GO=>by obtain⟨β',sf,m',hm,v'⟩:=GO;exact⟨m',hm,β',sf,v'⟩,Z,_,β1,o1.sb n,q,λσ' H' β' sf q'=>⟨β',sf,q'⟩,ok.rt,ok.nx,λσ' H' β' sf q'=>⟨β',sf,q'⟩⟩⟩
end
def startB (N:List Str)(ds:List D):a3:=ds.map (λd=>some (.val false d))++Vg (N.length-ds.length) none
def i5 (N:List Str)(ok:List Int->Prop)(ds:List D):a3:=some (.hand ok)::(ds.map (λd=>some (.val false d))++Vg (N.length-(ds.length+1)) none)
section
variable {P:UP}{w:U1}{K:PySem.W.Frag}{mg:Str->Option UK}{base:Heap}
theorem fY {i n:Nat}{b:B}(h:(Vg n (none:Option B))[i]?=some (some b)):False:=by
 rw[List.getElem?_replicate]at h
 split at h <;> cases h
theorem eO {ds:List D}{n i:Nat}{b:B}(h:(ds.map (λd=>some (B.val false d))++Vg n none)[i]?=some (some b)):∃d,ds[i]?=some d/\b=.val false d:=by
 by_cases hi:i<ds.length
 ·rw[Wv (by simpa using hi),U8]at h
  cases q:ds[i]? with
  |none=>rw[q]at h;cases h
  |some d=>rw[q]at h;cases h;exact⟨d,rfl,rfl⟩
 ·rw[VU (by simpa using hi)]at h
  exact(fY h).elim
theorem i4 {N:List Str}{vs:List V}{i:Nat}{v:V}(h:vs[i]?=some v):(start N vs)[i]?=some (some v):=by
 unfold start;rw[Wv (by simpa using (U0.mp h).1),U8,h]
 rfl
theorem pM {N:List Str}{vs:List V}{ds:List D}{H:Hp}{ro:Bool}(r:ai P w (λ_=>False) H ds vs):bz P w ⟨H,λ_=>False,ro,λ_=>False⟩ (start N vs) H (startB N ds) (λ_=>[]):=by
 refine⟨?_,λi y d h=>?_,λi d h=>?_,λi ok h=>?_,λi a h=>(nomatch h),λi j a h=>(nomatch h),λi=>VY,Kp.refl,λ_ z=>z,λi y d h=>by obtain⟨d',e,e'⟩:=eO h;cases e'⟩
 ·unfold startB start;simp[r.length]
 ·obtain⟨d',e,e'⟩:=eO h;cases e';obtain⟨v,e1,e2⟩:=ai.get r e;exact⟨v,i4 e1,ay.aO (λa z=>z.elim (λOd=>by obtain⟨_,q⟩:=Od;exact(nomatch q)) λz=>z) e2⟩
 ·obtain⟨d',e,e'⟩:=eO h;cases e'
 ·obtain⟨d',e,e'⟩:=eO h;cases e'
theorem oK {x qual:Str}{st:Stmt}{f:Addr}{fd:Vs}{N ps:List Str}{k:Nat}{F:FD}{ro:Bool}(G:AX K x qual st f fd)(S:aG N ps (ak st))(len:∀ds R,F ds R->ds.length=ps.length)
  (iL:∀(b7:UK) (A:VO) (outer:List Env) (s:UL) (H:Hp) (E:XK),ck k (A.deeper (Ye qual (ak st) s.heap.objs.size f b7)) ->
   ∃ψ,o_ (j4 bS P w K mg base N qual (ak st) f b7 A outer s H E).sF ⟨H,λ_=>False,ro,λ_=>False⟩ (dk st) ψ/\∀ds R,F ds R->ψ {nx:=λ_=>R .cg,rt:=λd _=>R d} (startB N ds)) :
  aL P w K mg base bS (k+1) f fd ps (dU P w ro F):=by
 refine G.ok S (λvs H Q E h=>?_) (λb7 A outer s H vs Q E hr h=>?_)
 ·obtain⟨ds,r,h⟩:=h;rw[r.length];exact len ds _ h
 ·obtain⟨ds,r,h⟩:=h;obtain⟨ψ,hb,hF⟩:=iL b7 A outer s H E hr;refine⟨_,hb.ps,(H,Wn λ_=>[]),_,startB N ds,⟨λ_=>[],pM r,Sn.refl⟩,hF ds _ h,λσ H' β sb q=>?_,λσ H' β d v sb rr q=>?_,λ_ _ _ _ z=>z.elim,λ_ _ _ _ z=>z.elim⟩
  ·obtain⟨own,s',n'⟩:=sb;exact q _ H' (λb o e=>s'.kp.out b o e (λz=>z)) (dw (W:=λ_=>False) rfl rfl)
  ·obtain⟨own,s',n'⟩:=sb;exact q _ H' (λb o e=>s'.kp.out b o e (λz=>z)) rr
theorem vG {N:List Str}{ok:List Int->Prop}{h:Addr}{ns:List Int}{vs:List V}{ds:List D}{H:Hp}{ro:Bool}(hh:H h=some (.lst (ns.map V.int)))(ho:ok ns)(r:ai P w (λa=>a=h) H ds vs):
  bz P w ⟨H,(·=h),ro,λ_=>False⟩ (start N (.ref h::vs)) H (i5 N ok ds) (λi=>if i=0 then [h] else []):=by
 have B_:∀{i:Nat} {a:Addr},a∈(if i=0 then [h] else ([]:List Addr))->i=0/\a=h:=λ{i a} q=>by
  by_cases e:i=0
  ·rw[if_pos e]at q;exact⟨e,by simpa using q⟩
  ·rw[if_neg e]at q;cases q
 have CZ:∀{i:Nat} {b:B},(i5 N ok ds)[i]?=some (some b)->(i=0/\b=.hand ok)\/∃j d,i=j+1/\ds[j]?=some d/\b=.val false d:=λ{i b} q=>by
  unfold i5 at q;cases i with
  |zero=>simp at q;exact .inl ⟨rfl,q.symm⟩
  |succ i =>
   rw[List.getElem?_cons_succ]at q;obtain⟨d,e,e'⟩:=eO q;exact .inr ⟨i,d,rfl,e,e'⟩
 refine⟨?_,λi y d q=>?_,λi d q=>?_,λi xw q=>?_,λi a q=>?_,λi j a h1 h2=>?_,λi=>?_,Kp.refl,λ_ z=>z,λi y d q=>(CZ q).elim (λK9=> by obtain⟨_,e⟩ := K9;cases e) (λK8=> by obtain⟨j,d',_,_,e'⟩ := K8;cases e')⟩
 ·unfold i5 start;simp[r.length]
 ·rcases CZ q with⟨_,e⟩|⟨j,d',rfl,e,e'⟩
  ·cases e
  ·cases e';obtain⟨v,e1,e2⟩:=ai.get r e;exact⟨v,i4 (by simpa using e1),ay.aO (λa z=>z.elim (λGN=>by obtain⟨j,q⟩:=GN;exact(B_ q).2) λz=>z.elim) e2⟩
 ·rcases CZ q with⟨_,e⟩|⟨j,d',_,_,e'⟩
  ·cases e
  ·cases e'
 ·rcases CZ q with⟨e0,e⟩|⟨j,d',_,_,e'⟩
  ·cases e;subst e0;exact⟨h,ns,i4 rfl,hh,ho,rfl,.inr rfl⟩
  ·cases e'
 ·obtain⟨_,rfl⟩:=B_ q;exact⟨by rw[hh];exact λz=>(nomatch z),λxs z=>(by rw[hh]at z;cases z),.inr rfl,λz=>z⟩
 ·rw[(B_ h1).1,(B_ h2).1]
 ·by_cases e:i=0
  ·simp[e]
  ·simp[e]
theorem JA {x qual:Str}{st:Stmt}{f:Addr}{fd:Vs}{N ps:List Str}{k:Nat}{F:FD}{ok:List Int->Prop}{ro:Bool}(G:AX K x qual st f fd)(S:aG N ps (ak st))(len:∀ds R,F ds R->ds.length+1=ps.length)
  (iL:∀(b7:UK) (A:VO) (outer:List Env) (s:UL) (H:Hp) (E:XK) (IO:Addr->Prop),ck k (A.deeper (Ye qual (ak st) s.heap.objs.size f b7)) ->
   ∃ψ,o_ (j4 bS P w K mg base N qual (ak st) f b7 A outer s H E).sF ⟨H,IO,ro,λ_=>False⟩ (dk st) ψ/\∀ds R,F ds R->ψ {nx:=λ_=>False,rt:=λd β=>β[0]?=some (some (.hand ok))/\R d} (i5 N ok ds)) :
  aL P w K mg base bS (k+1) f fd ps (me P w ok ro F):=by
 refine G.ok S (λvs H Q E h=>?_) (λb7 A outer s H vs Q E hr h=>?_)
 ·obtain⟨h,vs',ds,ns,rfl,hh,ho,r,q⟩:=h;rw[U7,r.length];exact len ds _ q
 ·obtain⟨h,vs',ds,ns,rfl,hh,ho,r,q⟩:=h;obtain⟨ψ,hb,hF⟩:=iL b7 A outer s H E (·=h) hr;refine⟨_,hb.ps,(H,_),_,i5 N ok ds,⟨_,vG hh ho r,Sn.refl⟩,hF ds _ q,λσ H' β sb z=>z.elim,λσ H' β d v sb rr ⟨b0,q⟩=>?_,λ_ _ _ _ z=>z.elim,λ_ _ _ _ z=>z.elim⟩;obtain⟨own,s',n'⟩:=sb;obtain⟨a,ph,g1,g2,g3,g4,g5⟩:=s'.nz 0 ok b0;have ea:a=h:=g5.elim (λz=>(z h rfl).elim) λz=>z;subst ea;exact q v H' ph s'.kp s'.fP g2 g3 rr
end
end L2.Q
namespace L2
open PySem PySem.Spec PySem.SeqAt PyProof.Rows
theorem rO.pre {X:Cx}{ifs:List Expr}{t t':TT}(h:rO X ifs t)(k:∀σ H Q,t' σ H Q->t σ H Q):rO X ifs t':=λpins s σ H Q I q=>h pins s σ H Q I (k σ H Q q)
section
end
section
end
section
variable {X:Cx}{e:Expr}{g:Xf}{gs:List Xf}{scope:Xp}{N':List Str}{lk:List (Option Nat)}{tg:Addr->TG}{tt:Addr->TT}{wi:TI}
theorem jV {eJ:Sem UK}{o:HO}{after:UK->Env->Sem Fin->Sem Fin}{ta:Addr->mL}(L:Links X scope N' lk)(hc:X.calm=true)(hA:pf X eJ o)
  (F:∀acc env,iX e 0 g acc env (after acc env))
  (uP:∀a cl C s H ex,PG (aE X scope N' cl C s H ex) g.target (tg a)/\rO (aE X scope N' cl C s H ex) g.ifs (tt a)/\rE (aE X scope N' cl C s H ex) (after (.ref a) (aE X scope N' cl C s H ex).env) (ta a))
  {cl:List (Str×Addr)} (mE:∀x,(x,VA)∈scope.names->∃c,cl.lookup x=some c) (pj:∀x c,cl.lookup x=some c->X.env.cells.lookup x=some c)
  {pins:List (Addr×Obj)} {σ:St} {s:UL} {Q:V->Hp->Prop} {Ej:UK} {E:UK->UL->Prop} {RR:UK->Addr->Result->UL->Prop}
  (h:MH X pins σ g.target (λJ H1=>∀a,H1 a=none->fD J (tg a) (tt a) (ta a) (λ_ H'=>Q (.ref a) H') (c6 lk σ) (upd H1 a o)) Ej s)
  (hR:∀a H' C s',Inv X pins σ H' s'->g9 X pins H' C->(∃m,s'.heap.Ns C m)->Q (.ref a) H'->RR (.ref a) C (.ok .next) s') :
  Vp (model X.prog X.w) X.A eJ (λacc s₃=>Vp (model X.prog X.w) X.A (newFunctionEnv scope X.env.globals cl [] X.env.qual none .none (some X.env)) (λLG s₄ =>
   Yn (model X.prog X.w) X.A (.compStart e 0 Ej acc {LG with scope:=relabel scope X.env}) (RR acc LG.locals) s₄) E s₃) E s:=by
 obtain⟨it,fp,tn,J,H2,e1,I2,T,fE,f2,hl⟩:=h;subst e1;refine hA.ok pins s σ H2 _ E I2 λa s3 ha hn hk I3=>?_;refine wpAny_newFunctionEnv L.sG (by intro y hy;simp at hy) (λh₁ G6 GI=>?_) L.kind
 have Ou:∀b∈fp,∃o,s3.heap.get? b=some o:=λb hb=>by
  obtain⟨ob,q,_⟩:=T.obj _ _ fE b hb;exact⟨ob,hk b ob q⟩
 have SX:∀b∈fp,b≠a:=λb hb=>by
  obtain⟨ob,q,_⟩:=T.obj _ _ fE b hb;exact VN (Vn (U_ q) ha)
 have f3:∀b∈fp,g9 X pins (upd H2 a o) b:=λb hb=>⟨by rw[az (SX b hb)];exact(f2 b hb).1,(f2 b hb).2⟩
 have OJ:∀b ob,s3.heap.get? b=some ob->h₁.get? b=some ob:=λb ob q=>GI.extBut b ob (VN (U_ q)) (U5 _ q);have Mq:h₁.Ns s3.heap.objs.size (λ_=>none):=G6;have I4:=zK (t':=s3.toks+([]:List (Str×UK)).length) I3 L f3 Ou mE pj Mq OJ;obtain⟨g1,g2,g3⟩:=uP a cl s3.heap.objs.size s3 (upd H2 a o) fp;have f4:∀b∈fp,g9 (aE X scope N' cl s3.heap.objs.size s3 (upd H2 a o) fp) [] (upd H2 a o) b:=λb hb =>
  ⟨(f3 b hb).1,(I4.ok.Hn b hb).1,I4.ok.qW b hb,.inl hb,(I4.ok.Hn b hb).2,λp hp=>absurd (show p∈([]:List (Addr×Obj)) from hp) (by simp)⟩
 have IU:tn 0 h₁:=T.keep 0 _ _ fE λb hb ob q=>OJ b ob (hk b ob q);refine X0 (lZ (X:=aE X scope N' cl s3.heap.objs.size s3 (upd H2 a o) fp) rfl hc (F (.ref a) _) g1 g2 g3 T I4 IU f4 (hl a hn)) λr s' hr=>?_;obtain⟨rfl,σ',H',J',q⟩:=hr;have I5:Inv X pins σ H' s':=zL (C:=s3.heap.objs.size) (h'':=s'.heap) I3 f3 J' (.refl ..);refine hR a H' s3.heap.objs.size s' I5 (I3.C2 (UO _) J'.free) ?_ q;obtain⟨m,hm,_⟩:=J'.loc;exact⟨m,hm⟩
theorem p0 {eJ:Sem UK}{o:HO}{after:UK->Env->Sem Fin->Sem Fin}{ta:Addr->mL}{pos:Pos}(L:Links X scope N' lk)(hc:X.calm=true)(hA:pf X eJ o)
  (CU:eval e X.env=comprehension e scope X.env pos eJ false (eval g.iter X.env)) (Ie:clausesOf e=g::gs)
  (F:∀acc env,iX e 0 g acc env (after acc env)) (hi:PI X g.target g.iter wi)
  (uP:∀a cl C s H ex,PG (aE X scope N' cl C s H ex) g.target (tg a)/\rO (aE X scope N' cl C s H ex) g.ifs (tt a)/\rE (aE X scope N' cl C s H ex) (after (.ref a) (aE X scope N' cl C s H ex).env) (ta a))
  (hs:∀x,VM g.iter X.env x=pure x) :
  PE X e (λσ H Q=>wi σ H λJ H1=>∀a,H1 a=none->fD J (tg a) (tt a) (ta a) (λ_ H'=>Q (.ref a) H') (c6 lk σ) (upd H1 a o)):=by
 intro pins s σ H Q I h;rw[CU];obtain⟨cl,zY,mE,pj⟩:=gO (env:=X.env) (scope:=scope) λx hx=>I.ok.has x (L.free x hx);refine wpAny_comprehension_free (use:=none) Ie hs zY L.kind L.names (bw (hi pins s σ H _ I h) λv s1 h1=>bw h1 λEj s2 h2=>?_);refine jV (RR:=λacc C=>compPost (model X.prog X.w) X.A X.xe none (EP X pins σ Q) acc C) L hc hA F uP mE pj h2 λa H' C s' I' f ⟨m,hm⟩ q=>?_;exact⟨m,hm,λh' wN=>⟨.ref a,H',I'.sameBut f wN,rfl,q⟩⟩
theorem pW {eJ:Sem UK}{o:HO}{after:UK->Env->Sem Fin->Sem Fin}{ta:Addr->mL}{pos pos' kT:Pos}{y:Str}{i:Nat}(L:Links X scope N' lk)(hc:X.calm=true)(hA:pf X eJ o)
  (sS:Wf e (some (.Name y pos')) kT.line X.env=pure true)
  (CU:YV e X.env (assign (.Name y pos') X.env)=(do let _ <- comprehension e scope X.env pos eJ false (eval g.iter X.env) (some (assign (.Name y pos') X.env));pure ())) (Ie:clausesOf e=g::gs)
  (hN:X.N.Nodup) (hy:X.N[i]?=some y) (hx:Loc X.env.scope y) (hf:X.fn y=true\/X.env.scope.names.lookup y=some .local)
  (F:∀acc env,iX e 0 g acc env (after acc env)) (hi:PI X g.target g.iter wi)
  (uP:∀a cl C s H ex,PG (aE X scope N' cl C s H ex) g.target (tg a)/\rO (aE X scope N' cl C s H ex) g.ifs (tt a)/\rE (aE X scope N' cl C s H ex) (after (.ref a) (aE X scope N' cl C s H ex).env) (ta a))
  (hs:∀x,VM g.iter X.env x=pure x) :
  PS X (.Assign [.Name y pos'] e kT) (λD σ H=>wi σ H λJ H1=>∀a,H1 a=none->fD J (tg a) (tt a) (ta a) (λ_ H'=>D.nx (σ.set i (some (.ref a))) H') (c6 lk σ) (upd H1 a o)):=by
 intro pins s σ H D I h;rw[exec_Assign_Name_used _ _ _ _ sS,CU];refine UM (Xa (UM (UM ?_)));obtain⟨cl,zY,mE,pj⟩:=gO (env:=X.env) (scope:=scope) λx hx=>I.ok.has x (L.free x hx);refine bw (wpAny_comprehension_free (use:=some (assign (.Name y pos') X.env)) (Q:=λ_ s'=>SP X pins D .next s') Ie hs zY L.kind L.names (bw (hi pins s σ H _ I h) λv s1 h1=>bw h1 λEj s2 h2=>?_)) λ_ s' q=>U6 (U6 q)
 refine jV (Q:=λv H'=>D.nx (σ.set i (some v)) H') (RR:=λacc C=>compPost (model X.prog X.w) X.A X.xe (some (assign (.Name y pos') X.env)) (λ_ s'=>SP X pins D .next s') acc C) L hc hA F uP mE pj h2 λa H' C s' I' f ⟨m,hm⟩ q=>?_
 show Vp _ _ (assign (.Name y pos') X.env (.ref a)) _ _ s';have Uz:∃o,s'.heap.get? C=some o:=by obtain⟨o,_,_,ho,_⟩:=hm;exact⟨o,ho⟩
 refine wpAny_assign_Name (mT I' hN hy hx (v:=.ref a) (u:=.ref a) rfl (λs4 I4 k4=>?_) hf);obtain⟨a4,Rw,SY⟩:=k4;have CQ:C≠a4:=by
  rcases SY with z|z
  ·rw[z];exact f.2.1
  ·exact(f.2.2.2.2.1 y a4 z).symm
 exact⟨m,hm.at' (λo e=>(Rw.2 C CQ).trans e),λh' wN=>⟨_,H',I4.sameBut f wN,q⟩⟩
end
end L2
namespace L2.Q
open PySem PySem.Spec PySem.SeqAt PyProof.Rows
def Qs:Option B->Option B
 |some (.own d)=>some (.val false d)
 |some (.shl _ d)=>some (.val false d)
 |b=>b
def cH (lk:List (Option Nat))(β:a3):a3:=lk.map λl=>match l with|some j=>(match β[j]? with|some b=>Qs b|none=>none)|none=>none
def Mf:Option (Option B)->Bool
 |some (some (.hand _))=>true
 |_=>false
def bf (lk:List (Option Nat))(β:a3)(own:Nat->List Addr)(i:Nat):List Addr:=match lk[i]? with
 |some (some j)=>if Mf β[j]?=true then own j else []
 |_=>[]
def d9:a3->a3->Prop
 |[],_=>True
 |some (.hand ok)::a,c=>c.head?=some (some (.hand ok))/\d9 a c.tail
 |_::a,c=>d9 a c.tail
theorem d9.get:∀{a c:a3} {i:Nat} {ok:List Int->Prop},d9 a c->a[i]?=some (some (.hand ok))->c[i]?=some (some (.hand ok))
 |[],_,_,_,_,e=>by simp at e
 |x::a,c,0,ok,h,e=>by
  simp at e;subst e;rw[<- List.head?_eq_getElem?];exact h.1
 |x::a,c,i+1,ok,h,e=>by
  have h':d9 a c.tail:=by
   cases x with
   |none=>exact h
   |some x=>cases x <;> first|exact h|exact h.2
  have:=d9.get (i:=i) h' (by simpa using e)
  rwa [List.getElem?_tail]at this
section
variable {P:UP}{w:U1}{C:Cfg}{σ σ':St}{H H' H1:Hp}{β βi:a3}{own eI:Nat->List Addr}{lk:List (Option Nat)}{a:Addr}
theorem bP {i:Nat}{c:Addr}(h:c∈bf lk β own i):∃j,lk[i]?=some (some j)/\Mf β[j]?=true/\c∈own j:=by
 unfold bf at h
 split at h
 ·next j e =>
  by_cases q:Mf β[j]?=true
  ·rw[if_pos q]at h;exact⟨j,e,q,h⟩
  ·rw[if_neg q]at h;cases h
 ·cases h
theorem bc:∀c,Wn (bf lk β own) c->Wn own c:=λc ⟨i,h⟩=>let ⟨j,_,_,h⟩:=bP h;⟨j,h⟩
theorem gi {i j:Nat}{v:V}(h:lk[i]?=some (some j))(e:σ[j]?=some (some v)):(c6 lk σ)[i]?=some (some v):=by
 unfold c6;rw[U8,h];simp only[Yq];rw[e]
theorem gB {i:Nat}{b:B}(h:(cH lk β)[i]?=some (some b)):∃j b',lk[i]?=some (some j)/\β[j]?=some (some b')/\Qs (some b')=some b:=by
 unfold cH at h;rw[U8]at h;cases q:lk[i]? with
 |none=>rw[q]at h;cases h
 |some l =>
  rw[q]at h;cases l with
  |none=>cases h
  |some j =>
   simp only[Yq]at h;cases q2:β[j]? with
   |none=>rw[q2]at h;cases h
   |some b2 =>
    rw[q2]at h;simp only[Option.some.injEq]at h;cases b2 with
    |none=>cases h
    |some b'=>exact⟨j,b',rfl,q2,h⟩
theorem bz.enter (s:bz P w C σ H β own)(ha:H a=none)(inj:∀(i i' j:Nat),lk[i]?=some (some j)->lk[i']?=some (some j)->i=i'):
  bz P w (C.u λc=>c=a) (c6 lk σ) (upd H a (.lst [])) (cH lk β) (bf lk β own):=by
 have sm:aw H (upd H a (.lst [])):=aw.new ha;have na:∀{i c},c∈own i->c≠a:=λ{i c} hc z=>(s.dm i c hc).1 (by rw[z];exact ha)
 have gr:∀k,∀c,eN (C.u λc=>c=a) (Wn (bf lk β own)) k c->eN C (Wn own) k c\/H c=none:=λk c z=>by
  rcases z with z|z
  ·exact .inl (.inl (iU bc k c z))
  ·exact .inr (by rw[z];exact ha)
 refine⟨by unfold cH c6;simp,λi y d e=>?_,λi d e=>?_,λi ok e=>?_,λi c h=>?_,λi i' c h1 h2=>?_,λi=>?_,s.kp.trans sm.kp,λc z e=>s.fP c z (sm.free e),λi y d e=>by
  obtain⟨j,b',e1,e2,e3⟩:=gB e;cases b' <;> cases e3⟩
 ·obtain⟨j,b',e1,e2,e3⟩:=gB e;cases b' with
  |val y' d' =>
   cases e3;obtain⟨v,h1,h2⟩:=s.val j y d e2;exact⟨v,gi e1 h1,(ay.grow (gr _) h2).same sm⟩
  |own d' =>
   cases e3;obtain⟨v,h1,h2,h3⟩:=s.ow j d e2;refine⟨v,gi e1 h1,ay.same sm (h2.rep λc hc z=>?_)⟩;rcases z with z|z
   ·obtain⟨i',fO⟩:=z;obtain⟨j',q1,q2,q3⟩:=bP fO;have:=s.g_ j j' c hc q3;subst this;rw[e2]at q2;cases q2
   ·exact na hc z
  |hand ok=>cases e3
  |shl y' d' =>
   cases e3;obtain⟨v,h1,h2,h3⟩:=s.shl j y' d e2;refine⟨v,gi e1 h1,ay.same sm (h2.rep (λc hc z=>?_) λds vs r=>ai.grow (λc z=>?_) r)⟩
   ·rcases z with z|z
    ·obtain⟨i',fO⟩:=z;obtain⟨j',q1,q2,q3⟩:=bP fO;have:=s.g_ j j' c hc q3;subst this;rw[e2]at q2;cases q2
    ·exact na hc z
   ·rcases gr _ c z with z|z
    ·refine .inl ?_;rcases z with z|z
     ·cases y' with
      |true=>exact .inl (.inl z)
      |false=>exact .inl z
     ·exact .inr z
    ·exact .inr z
 ·obtain⟨j,b',e1,e2,e3⟩:=gB e;cases b' <;> cases e3
 ·obtain⟨j,b',e1,e2,e3⟩:=gB e;cases b' with
  |val y' d'=>cases e3
  |own d'=>cases e3
  |shl y d=>cases e3
  |hand xw =>
   cases e3;obtain⟨h,ns,h1,h2,h3,h4,h5⟩:=s.nz j ok e2;refine⟨h,ns,gi e1 h1,sm _ _ h2,h3,?_,h5⟩;unfold bf;rw[e1];simp only;rw[e2];exact(if_pos rfl).trans h4
 ·obtain⟨j,q1,q2,q3⟩:=bP h;obtain⟨g1,g2,g3,g4⟩:=s.dm j c q3;rw[az (na q3)];exact⟨g1,g2,g3,na q3⟩
 ·obtain⟨j,q1,q2,q3⟩:=bP h1;obtain⟨j',P8,Ud,RF⟩:=bP h2;have:=s.g_ j j' c q3 RF;subst this;exact inj _ _ _ q1 P8
 ·unfold bf
  split
  ·next j e =>
   split
   ·exact s.l7 j
   ·exact VY
  ·exact VY
theorem bz.Fo {o:HO}(s:bz P w (C.u λc=>c=a) σ H β own){oa:HO}(ha:H a=some oa)(ht:∀xs,oa≠.tup xs)(h0:C.H0 a=none):bz P w (C.u λc=>c=a) σ (upd H a o) β own:=by
 have k:Kp (·=a) H (upd H a o):=jn ha ht;have na:∀{i c},c∈own i->c≠a:=λ{i c} hc=>(s.dm i c hc).2.2.2;refine⟨s.len,λi y d e=>let ⟨v,h1,h2⟩:=s.val i y d e;⟨v,h1,h2.keep (k.mono λc z=>.inr z)⟩,λi d e=>let ⟨v,h1,h2,h3⟩:=s.ow i d e;⟨v,h1,h2.keep k.tup (λc hc oc ec=>k.out c oc ec (na hc)),h3⟩,
  λi ok e=>?_,λi c h=>?_,s.g_,s.l7,⟨λc oc z n=>k.out c oc (s.kp.out c oc z n) λq=>?_,λc xs z=>k.tup c xs (s.kp.tup c xs z)⟩,λc z=>?_,λi y d e=>let ⟨v,h1,h2,h3⟩:=s.shl i y d e;⟨v,h1,h2.map (λc hc oc ec=>k.out c oc ec (na hc)) (λ_ _ r=>r.keep (k.mono λc z=>.inr z)),h3⟩⟩
 ·obtain⟨h,ns,h1,h2,h3,h4,h5⟩:=s.nz i ok e;exact⟨h,ns,h1,k.out h _ h2 (na (by rw[h4];simp)),h3,h4,h5⟩
 ·rw[az (na h)];exact s.dm i c h
 ·rw[q,h0]at z;cases z
 ·by_cases q:c=a
  ·rw[q,ao];exact λz=>(nomatch z)
  ·rw[az q];exact s.fP c z
theorem bz.leave (s:bz P w C σ H1 β own)(i:bz P w (C.u λc=>c=a) σ' H' βi eI)(n:Sn (H1,Wn (bf lk β own)) H' (Wn eI))(le:∀c,Wn eI c->Wn (bf lk β own) c)
  (hh:d9 (cH lk β) βi) (hσ:∀(j:Nat) (ok:List Int->Prop) (i:Nat),β[j]?=some (some (B.hand ok))->lk[i]?=some (some j)->σ'[i]?=(c6 lk σ)[i]?):bz P w C σ H' β own:=by
 have off:∀{j c},c∈own j->¬ Wn (bf lk β own) c->∀o,H1 c=some o->H' c=some o:=λ{j c} hc nw o e=>n.k.out c o e λz=>z.elim nw λz=>(s.dm j c hc).1 z;have Kb:∀{j c},c∈own j->Mf β[j]?=false->¬ Wn (bf lk β own) c:=λ{j c} hc q zP=>by
  obtain⟨i',fO⟩:=zP;obtain⟨j',q1,q2,q3⟩:=bP fO;have:=s.g_ j j' c hc q3;subst this;rw[q]at q2;cases q2
 have hN:∀(j:Nat) (ok:List Int->Prop),β[j]?=some (some (B.hand ok))->∃a ns,σ[j]?=some (some (V.ref a))/\H' a=some (.lst (ns.map V.int))/\ok ns/\own j=[a]/\((∀b,¬ C.IO b)\/C.IO a):=λj ok e=>by
  obtain⟨h,ns,h1,h2,h3,h4,h5⟩:=s.nz j ok e
  by_cases q:Wn (bf lk β own) h
  ·obtain⟨i',fO⟩:=q;obtain⟨j',q1,q2,q3⟩:=bP fO;have:=s.g_ j j' h (by rw[h4];simp) q3
   subst this;have eB:(cH lk β)[i']?=some (some (.hand ok)):=by
    unfold cH;rw[U8,q1];simp only[Yq];rw[e];rfl
   obtain⟨h',ph,g1,g2,g3,g4,g5⟩:=i.nz i' ok (hh.get eB);rw[hσ j ok i' e q1,gi q1 h1]at g1;cases g1;exact⟨h,ph,h1,g2,g3,h4,h5⟩
  ·exact⟨h,ns,h1,off (by rw[h4];simp) q _ h2,h3,h4,h5⟩
 refine⟨s.len,λj y d e=>?_,λj d e=>?_,hN,λj c hc=>?_,s.g_,s.l7,i.kp,i.fP,λj y d e=>by
  obtain⟨v,h1,h2,h3⟩:=s.shl j y d e;refine⟨v,h1,h2.map (λc hc o eo=>off hc (Kb hc (by rw[e];rfl)) o eo) (λds vs r=>?_),h3⟩
  have g:ai P w (λc=>eN C (Wn own) (yk y) c\/H1 c=none) H1 ds vs:=ai.grow (λc z=>z) r;refine ai.aO (λc z=>.inl z) (g.keep (n.k.mono λc z=>z.imp (λz=>?_) id));cases y with
  |true=>exact .inl (.inl (bc c z))
  |false=>exact .inl (bc c z)⟩
 ·obtain⟨v,h1,h2⟩:=s.val j y d e;have g:ay P w (λc=>eN C (Wn own) (yk y) c\/H1 c=none) H1 d v:=ay.grow (λc z=>z) h2;refine⟨v,h1,ay.aO (λc z=>.inl z) (g.keep (n.k.mono λc z=>z.imp (λz=>?_) id))⟩;cases y with
  |true=>exact .inl (.inl (bc c z))
  |false=>exact .inl (bc c z)
 ·obtain⟨v,h1,h2,h3⟩:=s.ow j d e;exact⟨v,h1,h2.keep n.k.tup (λc hc o eo=>off hc (Kb hc (by rw[e];rfl)) o eo),h3⟩
 ·obtain⟨g1,g2,g3,g4⟩:=s.dm j c hc
  by_cases q:Wn (bf lk β own) c
  ·obtain⟨i',fO⟩:=q;obtain⟨j',q1,q2,q3⟩:=bP fO;have:=s.g_ j j' c hc q3;subst this;cases e:β[j]? with
   |none=>rw[e]at q2;cases q2
   |some b =>
    rw[e]at q2;cases b with
    |none=>cases q2
    |some b =>
     cases b with
     |val y d=>cases q2
     |own d=>cases q2
     |shl y d=>cases q2
     |hand ok =>
      obtain⟨h,ns,k1,k2,k3,k4,k5⟩:=hN j ok e;rw[k4]at hc;rw[UX.mp hc]at g3 g4 ⊢
      rw[k2];exact⟨λz=>(nomatch z),λxs z=>(by cases z),g3,g4⟩
  ·cases e:H1 c with
   |none=>exact absurd e g1
   |some o=>rw[off hc q o e];exact⟨λz=>(nomatch z),λxs z=>g2 xs (by rw[e];exact z),g3,g4⟩
end
def ID:a8:=λβ R=>R true β
theorem yF {X:Cx}{C:Cfg}:rO X [] (jG X C true ID):=BN.pre λσ H Q ⟨β,own,s,q⟩=>q H own (Out.refl s _)
theorem yE {X:Cx}{C:Cfg}{p:Bool}{c:Expr}{τ:a8}(h:vx X C p c τ):rO X [c] (jG X C p τ):=BM h.pt
def lF (γ:eM)(τ:a8)(φ:aQ)(ds:List D)(k:Kd)(β0:a3)(K:List D->Prop):Prop:=∃I:Nat->a3->List D->Prop,I 0 β0 [] /\
 (∀i d β o,ds[i]?=some d->I i β o->γ d (sk k d) β λβ1=>τ β1 λt β2=>if t=true then φ β2 λx kx β3=>CD kx x/\o.length<UW/\I (i+1) β3 (o++[x]) else I (i+1) β2 o)/\∀β o,I ds.length β o->d9 β0 β/\K o
theorem lF.mono {γ:eM}{τ:a8}{φ:aQ}{ds:List D}{k:Kd}{β0:a3}{K K':List D->Prop}(h:∀o,K o->K' o)(q:lF γ τ φ ds k β0 K):lF γ τ φ ds k β0 K':=let ⟨I,h0,h1,h2⟩:=q;⟨I,h0,h1,λβ o z=>⟨(h2 β o z).1,h _ (h2 β o z).2⟩⟩
section
variable {X:Cx}{C:Cfg}{lk:List (Option Nat)}{γ:eM}{τ:a8}{φ:aQ}{T:List Nat}{pc pe:Bool}
theorem nH {σ:St}{H1:Hp}{β:a3}{own:Nat->List Addr}{a:Addr}{J:It}{ds:List D}{k:Kd}{K:List D->Prop}{End:Hp->Prop}
  (γm:∀d k β R R',(∀r,R r->R' r)->γ d k β R->γ d k β R') (τm:∀β R R',(∀d β,R d β->R' d β)->τ β R->τ β R') (φm:∀β R R',(∀d k β,R d k β->R' d k β)->φ β R->φ β R')
  (inj:∀(i i' j:Nat),lk[i]?=some (some j)->lk[i']?=some (some j)->i=i') (hT:∀i∈T,∀j,lk[i]?≠some (some j))
  (s1:SQ X C σ H1 β own) (ha:H1 a=none) {hp:Bool} (H_:hp=true->(pc&&pe)=true) (hk:hold k hp) (it:AV X (av C (Wn own) k) J ds H1) (q:lF γ τ φ ds k (cH lk β) K)
  (fin:∀o H',K o->Out X C σ H1 own (pc&&pe) β H' own->KV X.prog X.w C (H1,Wn own) own H' .own (.lst o) (.ref a)->End H') :
  fD J (λv σ H Q=>∃own β d k,SQ X (C.u λc=>c=a) σ H β own/\Rp X (eN (C.u λc=>c=a) (Wn own) k) H d v/\γ d k β λβ'=>∀σ' aS,SQ X (C.u λc=>c=a) σ' H β' aS->(∀a,Wn aS a->Wn own a)->(∀j,j∉T->σ'[j]?=σ[j]?)->Q σ' H)
   (jG X (C.u λc=>c=a) pc τ) (λN σ H=>tQ X (C.u λc=>c=a) pe φ σ H λv H1=>∃xs,H1 a=some (.lst xs)/\xs.length<UW/\N σ (upd H1 a (.lst (xs++[v]))))
   (λ_ H'=>End H') (c6 lk σ) (upd H1 a (.lst [])):=by
 obtain⟨I,i0,i1,i2⟩:=q;have h0:C.H0 a=none:=Vw λz=>s1.fP a z ha;have sm:aw H1 (upd H1 a (.lst [])):=aw.new ha;have Qn:∀c,Wn (bf lk β own) c->c≠a:=λc z e=>by
  obtain⟨j,hj⟩:=bc c z;exact(s1.dm j c hj).1 (by rw[e];exact ha)
 let S:Nat->St->Hp->Prop:=λi σ' H'=>∃βi eI vs o A,SQ X (C.u λc=>c=a) σ' H' βi eI/\Sn (H1,Wn (bf lk β own)) H' (Wn eI)/\(∀c,Wn eI c->Wn (bf lk β own) c)/\H' a=some (.lst vs)/\aK X.prog X.w H' o vs A/\A.Nodup/\(∀c∈A,H1 c=none/\c≠a) /\
  ((pc&&pe)=true->aw H1 H')/\(∀j,j∉T->σ'[j]?=(c6 lk σ)[j]?)/\I i βi o
 have W':Addr->Prop:=λb=>av C (Wn own) k b\/H1 b=none;have Ei:=it (λb=>av C (Wn own) k b\/H1 b=none) λb z=>z;have kI:∀{H':Hp} {eI:Nat->List Addr},Sn (H1,Wn (bf lk β own)) H' (Wn eI)->((pc&&pe)=true->aw H1 H')->Kp (λb=>av C (Wn own) k b\/H1 b=none) H1 H':=λn pu=>by
  cases k with
  |own=>exact n.k.mono λb z=>z.imp (λz=>.inl (bc b z)) id
  |cE=>exact n.k.mono λb z=>z.imp (λz=>.inl (bc b z)) id
  |old=>exact n.k.mono λb z=>z.imp (bc b) id
  |bor =>
   cases hp with
   |false=>exact hk.elim
   |true=>exact(pu (H_ rfl)).kp.mono λb z=>.inr z
 refine⟨λi m σ' H'=>i<=ds.length/\m=ds.length-i/\S i σ' H',⟨_,U4 _,rfl,cH lk β,bf lk β own,[],[],[],s1.enter ha inj,⟨λb z=>.inl z,sm.kp,λb z e=>z (sm.free e)⟩,λ_ z=>z,ao,⟨rfl,rfl⟩,VY,λc hc=>(nomatch hc),λ_=>sm,λ_ _=>rfl,i0⟩,?_⟩;rintro i m σ2 H2 ⟨hi,rfl,βi,eI,vs,o,A,sq,sn,le,Ih,os,nd,nw,pu,st,hl⟩;obtain⟨cF,mz⟩:=Ei i H2 (kI sn pu)
 by_cases fG:i<ds.length
 ·right
  have hd:ds[i]?=some ds[i]:=Vh fG;obtain⟨go,yl⟩:=cF _ hd;refine⟨go,λσ' H'=>S (i+1) σ' H',λσ' H' h=>⟨_,by omega,fG,rfl,h⟩,λx H3 y=>?_⟩
  obtain⟨s3,r3⟩:=yl x H3 y;have Tt:∀{eI:Nat->List Addr},(∀c,Wn eI c->Wn (bf lk β own) c)->∀c,eN (C.u λc=>c=a) (Wn eI) k c->av C (Wn own) k c\/H1 c=none:=λle c z=>z.elim (λz=>.inl (iU (λc z=>bc c (le c z)) k c z)) λz=>.inr (by rw[z];exact ha)
  refine⟨eI,βi,_,_,sq.same s3,og (ay.aO (Tt le) r3),γm _ _ _ _ _ (λβ4 q σ4 qb s4 w4 t4=>?_) (i1 i _ βi o hd hl)⟩;have JY:∀c,Wn qb c->Wn (bf lk β own) c:=λc z=>le c (w4 c z);refine⟨β4,qb,s4,τm _ _ _ (λt β5 q H5 je o5=>?_) q⟩;have Mb:∀c,Wn je c->Wn (bf lk β own) c:=λc z=>JY c (o5.le c z);have zF:∀c,c∈a::A->∀oc,H2 c=some oc->H5 c=some oc:=λc hc oc e=>by
   refine o5.sn.k.out c oc (s3 c oc e) λz=>?_;rcases z with z|z
   ·rcases UQ.mp hc with rfl|hc
    ·exact Qn _ (JY _ z) rfl
    ·obtain⟨j,hj⟩:=bc c (JY c z);exact(s1.dm j c hj).1 (nw c hc).1
   ·exact absurd ((s3 c oc e).symm.trans z) (λz=>(nomatch z))
  have R6:∀b xs,H2 b=some (.tup xs)->H5 b=some (.tup xs):=λb xs e=>o5.sn.k.tup b xs (s3 b _ e);have FX:aK X.prog X.w H5 o vs A:=os.keep R6 λc hc oc e=>zF c (by simp[hc]) oc e
  have M9:Sn (H1,Wn (bf lk β own)) H5 (Wn je):=(ik (sn.same s3) w4).trans o5.sn;have P9:(pc&&pe)=true->aw H1 H5:=λz=>((pu z).trans s3).trans (o5.pu (AO z)).1;have IU:∀j,j∉T->σ4[j]?=(c6 lk σ)[j]?:=λj hj=>(t4 j hj).trans (st j hj);cases t with
  |false=>exact⟨β5,je,vs,o,A,o5.sq,M9,Mb,zF a (by simp) _ Ih,FX,nd,nw,P9,IU,q⟩
  |true =>
   refine⟨β5,je,o5.sq,φm _ _ _ (λxd kx β6 ⟨f,hz,q⟩ v H6 FW o6 r6=>?_) q⟩;obtain⟨B',r1,r2,HV⟩:=r6.fl f;have sX:H5 a=some (.lst vs):=zF a (by simp) _ Ih
   have Ee:∀c,c∈a::A->∀oc,H5 c=some oc->H6 c=some oc:=λc hc oc e=>by
    refine o6.sn.k.out c oc e λz=>?_;rcases z with z|z
    ·rcases UQ.mp hc with rfl|hc
     ·exact Qn _ (Mb _ z) rfl
     ·obtain⟨j,hj⟩:=bc c (Mb c z);exact(s1.dm j c hj).1 (nw c hc).1
    ·exact absurd (e.symm.trans z) (λz=>(nomatch z))
   have qG:H6 a=some (.lst vs):=Ee a (by simp) _ sX
   have Qb:aK X.prog X.w H6 o vs A:=FX.keep o6.sn.k.tup λc hc oc e=>Ee c (by simp[hc]) oc e
   have RQ:∀c∈A,c≠a:=λc hc=>(nw c hc).2;have JG:∀c∈B',c≠a:=λc hc z=>by rw[z]at hc;exact absurd (sX.symm.trans (HV a hc).1) (λz=>(nomatch z))
   have kt:∀b xs,H6 b=some (.tup xs)->upd H6 a (.lst (vs++[v])) b=some (.tup xs):=λb xs z=>by rw[az (λz'=>by rw[z',qG]at z;cases z)];exact z
   refine⟨vs,qG,by rw[Qb.length];exact hz,β6,FW,vs++[v],o++[xd],A++B',o6.sq.Fo qG (λxs z=>by cases z) h0,?_,λc z=>Mb c (o6.le c z),ao,?_,?_,λc hc=>?_,λz=>?_,IU,q⟩
   ·have m:=M9.trans o6.sn;refine⟨m.w,m.k.trans ((jn qG (λxs z=>by cases z)).mono λb z=>.inr (by rw[z];exact ha)),λb z e=>?_⟩
    by_cases hb:b=a
    ·rw[hb,ao]at e;cases e
    ·rw[az hb]at e;exact m.d b z e
   ·exact(Qb.keep kt λc hc oc e=>by rw[az (RQ c hc)];exact e).append (aK.one (r1.keep kt λc hc oc e=>by rw[az (JG c hc)];exact e))
   ·refine VV.mpr ⟨nd,r2,λx hx y hy e=>?_⟩;subst e;have:=(HV x hy).1;exact(FX.l9 x hx).1 this
   ·rcases Vl.mp hc with hc|hc
    ·exact nw c hc
    ·exact⟨M9.free (HV c hc).1,JG c hc⟩
   ·refine λb ob e=>?_;rw[az (λz'=>by rw[z',ha]at e;cases e)]
    exact(o6.pu (Pl z)).1 b ob (P9 z b ob e)
 ·left
  have e:i=ds.length:=by omega
  subst e;obtain⟨hh,q⟩:=i2 βi o hl;have lv:SQ X C σ H2 β own:=s1.leave sq sn le hh λj ok i' e1 e2=>st i' λz=>hT i' z j e2;refine⟨mz (UO _),fin o H2 q ⟨lv,⟨λb z=>.inl z,sn.k.mono λb z=>z.imp (bc b) id,sn.d⟩,λz=>⟨pu z,rfl⟩,λ_ z=>z⟩ ⟨a::A,⟨a,vs,A,rfl,Ih,rfl,os⟩,Vt.mpr ⟨λz=>(nw a z).2 rfl,nd⟩,λc hc=>?_⟩⟩;have mE:H1 c=none:=by
   rcases UQ.mp hc with rfl|hc
   ·exact ha
   ·exact(nw c hc).1
  exact⟨mE,λKh=>by obtain⟨j,hj⟩:=Kh;exact(s1.dm j c hj).1 mE,Vw λz=>s1.fP c z mE⟩
theorem eV {scope:Xp}{N':List Str}(L:Links X scope N' lk)(hN:N'.Nodup):∀(i i' j:Nat),lk[i]?=some (some j)->lk[i']?=some (some j)->i=i':=λi i' j h1 h2=>by
 obtain⟨x,a1,a2,_⟩:=L.link i j h1;obtain⟨y,b1,b2,_⟩:=L.link i' j h2;rw[a2]at b2;cases b2;exact(List.getElem?_inj (U0.mp a1).1 hN).mp (a1.trans b1.symm)
def ug (lk:List (Option Nat))(ι:cI)(γ:eM)(τ:a8)(φ:aQ):aQ:=λβ R=>ι β λds k β1=>hold k false/\lF γ τ φ ds k (cH lk β1) λo=>R (.lst o) .own β1
variable {scope:Xp}{N':List Str}{tg cF elt:Expr}{ifs:List Expr}{ι:cI}{pi:Bool}{pos pos' kT:Pos}{y:Str}{i:Nat}
theorem Jp (L:Links X scope N' lk)(wR:N'.Nodup)(hT:T.all (λi=>match lk[i]? with|some (some _)=>false|_=>true)=true)(hc:X.calm=true)(hi:AS X C pi tg cF ι)
  (xB:∀a cl c s H ex,AU (aE X scope N' cl c s H ex) (C.u λc=>c=a) tg T γ) (sR:∀a cl c s H ex,rO (aE X scope N' cl c s H ex) ifs (jG (aE X scope N' cl c s H ex) (C.u λc=>c=a) pc τ)) (τm:∀β R R',(∀d β,R d β->R' d β)->τ β R->τ β R')
  (xC:∀a cl c s H ex,PQ (aE X scope N' cl c s H ex) (C.u λc=>c=a) pe elt φ) (γm:∀d k β R R',(∀r,R r->R' r)->γ d k β R->γ d k β R') (φm:∀β R R',(∀d k β,R d k β->R' d k β)->φ β R->φ β R')
  (hs:∀x,VM cF X.env x=pure x:=by intro _;rfl):PQ X C (pi&&(pc&&pe)) (.ListComp elt [⟨tg,cF,ifs,0⟩] scope pos) (ug lk ι γ τ φ):=by
 have Lp:∀i∈T,∀j,lk[i]?≠some (some j):=λi hi j e=>by
  have:=Ws.mp hT i hi;rw[e]at this;cases this
 refine⟨λβ R R' k h=>hi.mono β _ _ (λds kd β1 q=>⟨q.1,q.2.mono λo z=>k _ _ _ z⟩) h,?_⟩;refine(p0 (g:=⟨tg,cF,ifs,0⟩) (gs:=[]) (tg:=λa v σ H Q=>∃own β d k,SQ X (C.u λc=>c=a) σ H β own/\Rp X (eN (C.u λc=>c=a) (Wn own) k) H d v/\γ d k β λβ'=>∀σ' aS,SQ X (C.u λc=>c=a) σ' H β' aS->(∀a,Wn aS a->Wn own a)->(∀j,j∉T->σ'[j]?=σ[j]?)->Q σ' H)
  (tt:=λa=>jG X (C.u λc=>c=a) pc τ) (ta:=λa N σ H=>tQ X (C.u λc=>c=a) pe φ σ H λv H1=>∃xs,H1 a=some (.lst xs)/\xs.length<UW/\N σ (upd H1 a (.lst (xs++[v]))))
  L hc iE rfl rfl (λ_ _=>AB) hi.pi (λa cl c s H ex=>⟨(xB a cl c s H ex).pg,sR a cl c s H ex,iD rfl (xC a cl c s H ex).pe⟩) hs).pre λσ H Q ⟨β,own,s,h⟩=>?_
 refine⟨β,own,s,hi.mono β _ _ (λds k β1 ⟨hk,q⟩ J H1 aB o1 it a ha=>?_) h⟩;exact nH γm τm φm (eV L wR) Lp o1.sq ha (hp:=false) (λz=>by cases z) hk it q λo H' q o2 r=>q _ _ aB (o1.trans o2) (r.later o1.sn)
theorem Jn {K:D->a3->eh->Prop}(L:Links X scope N' lk)(wR:N'.Nodup)(hT:T.all (λi=>match lk[i]? with|some (some _)=>false|_=>true)=true)(hc:X.calm=true)(hi:∀U,AS X (C.u U) pi tg cF ι)
  (xB:∀U cl c s H ex,AU (aE X scope N' cl c s H ex) (C.u U) tg T γ) (sR:∀U cl c s H ex,rO (aE X scope N' cl c s H ex) ifs (jG (aE X scope N' cl c s H ex) (C.u U) pc τ)) (τm:∀β R R',(∀d β,R d β->R' d β)->τ β R->τ β R')
  (xC:∀U cl c s H ex,PQ (aE X scope N' cl c s H ex) (C.u U) pe elt φ) (γm:∀d k β R R',(∀r,R r->R' r)->γ d k β R->γ d k β R') (φm:∀β R R',(∀d k β,R d k β->R' d k β)->φ β R->φ β R') (o:Bool)
  (hN:X.N.Nodup) (hy:X.N[i]?=some y:=by rfl) (hx:Loc X.env.scope y:=by first|exact .inl rfl|exact .inr rfl) (hf:X.fn y=true\/X.env.scope.names.lookup y=some .local:=by first|exact .inl rfl|exact .inr rfl|assumption)
  (sS:Wf (.ListComp elt [⟨tg,cF,ifs,0⟩] scope pos) (some (.Name y pos')) kT.line X.env=pure true:=by rfl)
  (CU:YV (.ListComp elt [⟨tg,cF,ifs,0⟩] scope pos) X.env (assign (.Name y pos') X.env)=(do let _ <- comprehension (.ListComp elt [⟨tg,cF,ifs,0⟩] scope pos) scope X.env (firstIterPos [⟨tg,cF,ifs,0⟩] pos) (newList []) false (eval cF X.env) (some (assign (.Name y pos') X.env));pure ()):=by first|rfl|exact Yg ..)
  (hs:∀x,VM cF X.env x=pure x:=by intro _;rfl) :
  PB X C (.Assign [.Name y pos'] (.ListComp elt [⟨tg,cF,ifs,0⟩] scope pos) kT) (λE β=>ug lk ι γ τ φ β λd _ β'=>E.nx (β'.set i (some (match o with|true=>.own d|false=>.val true d)))):=by
 have Lp:∀i∈T,∀j,lk[i]?≠some (some j):=λi hi j e=>by
  have:=Ws.mp hT i hi;rw[e]at this;cases this
 refine⟨λE E' β l h=>(hi λ_=>False).mono β _ _ (λds kd β1 q=>⟨q.1,q.2.mono λo z=>l.nx _ z⟩) h,λpins s σ H D I0 ⟨Z,E,β,⟨own,sq,n⟩,h,ok⟩=>?_⟩;refine pW (g:=⟨tg,cF,ifs,0⟩) (gs:=[]) (tg:=λa v σ H Q=>∃own β d k,SQ X (C.u λc=>c=a) σ H β own/\Rp X (eN (C.u λc=>c=a) (Wn own) k) H d v/\γ d k β λβ'=>∀σ' aS,SQ X (C.u λc=>c=a) σ' H β' aS->(∀a,Wn aS a->Wn own a)->(∀j,j∉T->σ'[j]?=σ[j]?)->Q σ' H)
  (tt:=λa=>jG X (C.u λc=>c=a) pc τ) (ta:=λa N σ H=>tQ X (C.u λc=>c=a) pe φ σ H λv H1=>∃xs,H1 a=some (.lst xs)/\xs.length<UW/\N σ (upd H1 a (.lst (xs++[v]))))
  L hc iE sS CU rfl hN hy hx hf (λ_ _=>AB) (hi λa=>H a=none).pi (λa cl c s H ex=>⟨(xB _ cl c s H ex).pg,sR _ cl c s H ex,iD rfl (xC _ cl c s H ex).pe⟩) hs pins s σ H D I0 ?_
 refine⟨β,own,sq.jE (C:=C.z) (U:=λa=>H a=none) λa z=>z,(hi λ_=>False).mono β _ _ (λds k β1 ⟨hk,q⟩ J H1 aB o1 it a ha=>?_) h⟩;refine nH (C:=C.u λa=>H a=none) γm τm φm (eV L wR) Lp o1.sq ha (hp:=false) (λz=>by cases z) hk it q λol H' q o2 r=>?_
 have r':=r.later o1.sn;have oo:=o1.trans o2;have m:=n.trans oo.sn;cases o with
 |false=>exact ok.nx _ _ _ ⟨_,(bz.Qf oo.sq).cK (ay.aO (λa z=>z.elim id λz=>z.elim) (KV.rep r')),i6 m⟩ q
 |true =>
  obtain⟨A,h1,h2,h3⟩:=r';refine ok.nx _ _ _ ⟨_,oo.sq.r_ h1 h2 λc hc=>⟨(h3 c hc).2.2,(h3 c hc).2.1,(h3 c hc).1⟩,?_⟩ q;exact⟨λb sW=>by
   obtain⟨j,hj⟩:=sW
   by_cases aC:i=j
   ·rw[<- aC,os_eq]at hj;exact .inr (n.free (h3 b hj).1)
   ·rw[a_ aC]at hj;exact m.w b ⟨j,hj⟩,m.k,m.d⟩
end
end L2.Q
namespace L2
open PySem PySem.Spec PySem.SeqAt PyProof.Rows
section
end
theorem eQ {lo:Int}{n i:Nat}{d:D}(h:(oi lo n)[i]?=some d):i<n/\d=.int (lo+i):=by
 unfold oi at h;rw[U8]at h;have hi:i<n:=by
  by_cases hi:i<n
  ·exact hi
  ·rw[WS (by simpa using hi)]at h;cases h
 rw[WA hi]at h;cases h;exact⟨hi,rfl⟩
theorem eP {lo:Int}{n:Nat}:(oi lo n).length=n:=by unfold oi;simp
section
end
structure Df (K:PySem.W.Frag)(mg:Str->Option UK)(x:Str)(st:Stmt)(ps:List Str)(f:Addr)(fd:Vs):Prop where
 F:AX K x x st f fd
 b:Binds K fd ps []
 m:mg x=some (.ref f)
structure Bs (mg:Str->Option UK):Prop where
 max:mg "max" = none
 min:mg "min" = none
 int:mg "int" = none
 range:mg "range" = none
 sorted:mg "sorted" = none
 set:mg "set" = none
 len:mg "len" = none
 list:mg "list" = none
theorem ck.dQ {k:Nat}{A:VO}(r:ck k A):A.units+64+1<X7:=by have:=r.un;lia
def ME (n:Int)(t:List Int):Prop:=∃a b,t=[a,b]/\0<=a/\a<b/\b<n
theorem ME.ne {n:Int}{t:List Int}(h:ME n t):t≠[]:=by
 obtain⟨a,b,rfl,_⟩:=h;intro z;cases z
def gI (n:Int)(ts:List (List Int)):Prop:=∀t∈ts,ME n t
theorem gI.ne {n:Int}{ts:List (List Int)}(h:gI n ts):∀k∈ts,k≠[]:=λk hk=>(h k hk).ne
theorem gI.nil {n:Int}:gI n []:=λ_ z=>(nomatch z)
theorem lQ (ts:List (List Int)):D.eW (ts.map kD)=true:=by
 have fi:∀k:List Int,D.eW (k.map D.int)=true:=λk=>by
  induction k with
  |nil=>rfl
  |cons i k ih=>show (D.flat (.int i)&&D.eW (k.map D.int))=true;rw[ih];rfl
 induction ts with
 |nil=>rfl
 |cons t ts ih =>
  show (D.flat (kD t)&&D.eW (ts.map kD))=true;rw[ih];show (D.eW (t.map D.int)&&true)=true;rw[fi];rfl
def Drawn (n:Int)(ts:List (List Int)):Prop:=ts.length<=300/\gI n ts/\rD ts/\ts.Nodup
theorem gJ {a b:D}:[a,b].length<=UW:=by show 2<=UW;decide
theorem PU {a b c:D}:[a,b,c].length<=UW:=by show 3<=UW;decide
theorem yd {a:D}:[a].length<=UW:=by show 1<=UW;decide
theorem mC {b:Bool}{p q:Prop}(hb:b=true)(h:p):(if b=true then p else q):=by rw[if_pos hb];exact h
theorem fN {b:Bool}{p q:Prop}(hb:b=false)(h:q):(if b=true then p else q):=by rw[hb,if_neg (by simp)];exact h
theorem mD {c:Prop}[Decidable c]{p q:Prop}(h1:c->p)(h2:¬ c->q):(if decide c=true then p else q):=by
 by_cases h:c
 ·exact mC (by simp[h]) (h1 h)
 ·exact fN (by simp[h]) (h2 h)
theorem cu {α:Type}(f:α->D):∀l:List α,D.fF (l.map f)=l.map λa=>(f a).pd
 |[]=>rfl
 |a::l=>by
  show (f a).pd::D.fF (l.map f)=_;rw[cu f l];rfl
theorem jA {n:Nat}:∀{xs:List PyData},(∀x∈xs,x.canLay0=true/\x.depth<=n)->WU xs=true/\V2 xs<=n
 |[],_=>⟨by simp[WU],by simp[V2]⟩
 |x::xs,h=>by
  obtain⟨h1,h2⟩:=jA (n:=n) (xs:=xs) λy hy=>h y (by simp[hy])
  obtain⟨g1,g2⟩:=h x (by simp)
  refine⟨by simp[WU,h1,g1],?_⟩
  simp only[V2];lia
theorem mU {n:Nat}{ds:List D}(h:∀d∈ds,d.pd.canLay0=true/\d.pd.depth<=n):(D.tup ds).pd.canLay0=true/\(D.tup ds).pd.depth<=n+1:=by
 have e:D.fF ds=ds.map λd=>d.pd:=by
  have:=cu (λd:D=>d) ds;simpa using this
 obtain⟨h1,h2⟩:=jA (n:=n) (xs:=D.fF ds) λx hx=>by
  rw[e]at hx;obtain⟨d,hd,rfl⟩:=Vv.mp hx;exact h d hd
 refine⟨by simpa[D.pd,V5] using h1,?_⟩
 have:(D.tup ds).pd.depth=V2 (D.fF ds)+1:=by simp[D.pd,Xu]
 lia
theorem i9 {n:Nat}{ds:List D}(h:∀d∈ds,d.pd.canLay0=true/\d.pd.depth<=n):(D.lst ds).pd.canLay0=true/\(D.lst ds).pd.depth<=n+1:=by
 have e:D.fF ds=ds.map λd=>d.pd:=by
  have:=cu (λd:D=>d) ds;simpa using this
 obtain⟨h1,h2⟩:=jA (n:=n) (xs:=D.fF ds) λx hx=>by
  rw[e]at hx;obtain⟨d,hd,rfl⟩:=Vv.mp hx;exact h d hd
 refine⟨by simpa[D.pd,V5] using h1,?_⟩
 have:(D.lst ds).pd.depth=V2 (D.fF ds)+1:=by simp[D.pd,Xu]
 lia
theorem bH (i:Int):(D.int i).pd.canLay0=true/\(D.int i).pd.depth<=1:=⟨by simp[D.pd,V5],by simp[D.pd,Xu]⟩
theorem il (t:List Int):(kD t).pd.canLay0=true/\(kD t).pd.depth<=2:=mU λd hd=>by
 obtain⟨i,_,rfl⟩:=Vv.mp hd;exact bH i
theorem fb (ts:List (List Int)):(D.lst (ts.map kD)).pd.canLay0=true/\(D.lst (ts.map kD)).pd.depth<=3:=i9 λd hd=>by
 obtain⟨i,_,rfl⟩:=Vv.mp hd;exact il i
theorem bI {d:D}{n:Nat}(h:d.pd.canLay0=true/\d.pd.depth<=n)(hn:n<=64:=by decide):d.oh=true:=by
 show (d.pd.canLay0&&decide (d.pd.depth<=64))=true;rw[h.1,decide_eq_true (by lia)]
 rfl
theorem dE {α:Type}[DecidableEq α]{f:α->PyData}(hf:∀a b,VG (f a) (f b)=decide (a=b)):∀xs ys:List α,Yh (xs.map f) (ys.map f)=decide (xs=ys)
 |[],[]=>by simp[Yh]
 |[],_::_=>by simp[Yh]
 |_::_,[]=>by simp[Yh]
 |x::xs,y::ys=>by
  simp only[Vd,Yh];rw[hf,dE hf xs ys]
  by_cases h1:x=y
  ·by_cases h2:xs=ys <;> simp[h1,h2]
  ·simp[h1]
theorem km (i j:Int):VG (D.int i).pd (D.int j).pd=decide (i=j):=by
 simp only[D.pd,VG]
 by_cases h:i=j <;> simp[h]
theorem tq (t u:List Int):VG (kD t).pd (kD u).pd=decide (t=u):=by
 show VG (.tuple (D.fF (t.map D.int))) (.tuple (D.fF (u.map D.int)))=_;rw[cu,cu];simp only[VG];exact dE km t u
theorem Ag (ts us:List (List Int)):VG (D.lst (ts.map kD)).pd (D.lst (us.map kD)).pd=decide (ts=us):=by
 show VG (.list (D.fF (ts.map kD))) (.list (D.fF (us.map kD)))=_;rw[cu,cu];simp only[VG];exact dE tq ts us
theorem tH {a b:D}{c:Bool}(h1:a.oh=true)(h2:b.oh=true)(e:VG a.pd b.pd=c):Ip a b=some (.bl c):=by
 unfold Ip;rw[if_pos ⟨h1,h2⟩,e]
theorem oZ {a b:D}{c:Bool}(h1:a.oh=true)(h2:b.oh=true)(e:VG a.pd b.pd=c):Bc a b=some (.bl (!c)):=by
 unfold Bc;rw[if_pos ⟨h1,h2⟩,e]
theorem gD (i j:Int):Ip (.int i) (.int j)=some (.bl (decide (i=j))):=tH (bI (bH i)) (bI (bH j)) (km i j)
theorem kr (i j:Int):Bc (.int i) (.int j)=some (.bl (!decide (i=j))):=oZ (bI (bH i)) (bI (bH j)) (km i j)
theorem An (ts us:List (List Int)):Bc (.lst (ts.map kD)) (.lst (us.map kD))=some (.bl (!decide (ts=us))):=oZ (bI (fb ts)) (bI (fb us)) (Ag ts us)
theorem any_map {α:Type}[DecidableEq α]{f:α->D}(hf:∀a b,VG (f a).pd (f b).pd=decide (a=b))(t:α):∀xs:List α,((D.fF (xs.map f)).any λy=>VG y (f t).pd)=decide (t∈xs)
 |[]=>rfl
 |x::xs=>by
  show (VG (f x).pd (f t).pd || (D.fF (xs.map f)).any λy=>VG y (f t).pd)=_
  rw[any_map hf t xs,hf]
  by_cases h:x=t
  ·simp[h]
  ·have h':¬ t=x:=λz=>h z.symm;simp[h,h']
theorem rf (t:List Int)(ts:List (List Int)):Dy (kD t) (.lst (ts.map kD))=some (decide (t∈ts)):=by
 show (if (kD t).oh=true/\(D.lst (ts.map kD)).oh=true then some _ else none)=_
 rw[if_pos ⟨bI (il t),bI (fb ts)⟩,any_map tq];exact congrArg some (decide_eq_decide.mpr Iff.rfl)
theorem Dx (i:Int)(t:List Int):Dy (.int i) (kD t)=some (decide (i∈t)):=by
 show (if (D.int i).oh=true/\(D.tup (t.map D.int)).oh=true then some _ else none)=_
 rw[if_pos ⟨bI (bH i),bI (il t)⟩,any_map km]
theorem Dw (t:List Int)(ts:List (List Int)):Io (kD t) (.lst (ts.map kD))=some (.bl (decide (t∈ts))):=by unfold Io;rw[rf];rfl
theorem g6 (t:List Int)(ts:List (List Int)):jy (kD t) (.lst (ts.map kD))=some (.bl (!decide (t∈ts))):=by unfold jy;rw[rf];rfl
theorem o3 (i:Int)(t:List Int):Io (.int i) (kD t)=some (.bl (decide (i∈t))):=by unfold Io;rw[Dx];rfl
theorem QT {α:Type}{ds:List α}{i:Nat}{d:α}(h:ds[i]?=some d):mK ds (i:Int)=some d:=by
 have hl:i<ds.length:=(U0.mp h).1;unfold mK wH;rw[if_pos (by lia),if_pos (by lia),Xy]
 exact h
theorem HE {α:Type}{ds:List α}{i:Int}(h0:0<=i)(h1:i<ds.length):∃d∈ds,mK ds i=some d/\ds[i.toNat]?=some d:=by
 have hl:i.toNat<ds.length:=by lia
 refine⟨ds[i.toNat],YT hl,?_,Vh hl⟩;have:=QT (ds:=ds) (i:=i.toNat) (Vh hl)
 rwa [show ((i.toNat:Nat):Int)=i by lia]at this
theorem Du {ds:List D}{i:Nat}{d:D}(h:ds[i]?=some d):xa (.lst ds) (.int (i:Int))=some d:=QT h
theorem pick {ds:List D}{r:Int}{p:D->Prop}(h0:0<=r)(h1:r<ds.length)(h:∀d∈ds,p d):∃d,xa (.lst ds) (.int r)=some d/\p d:=by
 obtain⟨d,hd,e,_⟩:=HE h0 h1;exact⟨d,e,h d hd⟩
theorem q_ {i j:Int}:rd [.int i,.int j]=some (.int (if j<i then j else i)):=by
 first|rfl|(simp[rd])
def PK:D->Option String
 |.cg=>some "NoneType"
 |.bl _=>some "bool"
 |.int _=>some "int"
 |.str _=>some "str"
 |.tup _=>some "tuple"
 |.lst _=>some "list"
 |_=>none
section
variable {X:Cx}{W:Addr->Prop}{H:Hp}
theorem Rp.ty {d:D}{v:V}{T:String}(h:Rp X W H d v)(e:PK d=some T):iV X.K H v (.type T):=by
 cases d with
 |cg=>cases h;cases e;exact .cg
 |bl b=>cases h;cases e;exact .bl _
 |int b=>cases h;cases e;exact .int _
 |str b=>cases h;cases e;exact .str _
 |tup ds=>obtain⟨a,vs,rfl,h1,_⟩:=h;cases e;exact .tup h1
 |lst ds=>obtain⟨a,vs,rfl,h1,_⟩:=h;cases e;exact .lst h1
 |_=>cases e
end
section
variable {X:Cx}{a:Expr}{φ:Iw}{T:Str}{n:String}{p p2 pos:Pos}
theorem uh (hm:X.mg "isinstance" = none) (ha:PV X a φ) (hT:X.mg T=none) (bT:VJ T=some (.type n)) (hg:Gl X "isinstance" := by rfl) (Hc:Gl X T:=by rfl) (Ow:T≠"__name__" := by decide) (Hf:(T==("__debug__" : Str))=false:=by decide)
  (gC:US [a,.Name T p2] X.env=(false,eval a X.env)::US [.Name T p2] X.env:=by rfl) (oU:US [.Name T p2] X.env=(false,eval (.Name T p2) X.env)::US [] X.env:=by rfl) (hpl:(V6 pos (US [.Name T p2] X.env)).any (·.1)=false:=by rfl) :
  PV X (.Call (.Name "isinstance" p) [a,.Name T p2] [] pos) (λρ R=>φ ρ λd=>∃t k,PK d=some t/\PySem.W.kitOne X.K (.type t) (.type n)=some k/\R (.bl k)) :=
 ⟨λρ R R' k h=>ha.mono ρ _ _ (λd K7=> by obtain⟨t,b,h1,h2,q⟩ := K7;exact⟨t,b,h1,h2,k _ q⟩) h,
  (eR AD hg hm tN (a6 ha.pe (a6 (ux (v:=.ty n) Hc hT bT rfl Ow Hf) cy oU) gC) (he:=gC) (hpl:=hpl)).pre λσ H Q ⟨W,ρ,se,h⟩=>tD.of ha se h λd v H1 ⟨t,k,h1,h2,q⟩ s1 r1 =>
    ⟨v,n,_,k,rfl,r1.ty h1,h2,q _ H1 s1 rfl⟩⟩
end
theorem Gu {K:PySem.W.Frag}:PySem.W.kitOne K (.type "int") (.type "int")=some true:=rfl
theorem Gv {K:PySem.W.Frag}:PySem.W.kitOne K (.type "int") (.type "bool")=some false:=rfl
end L2
namespace HT
open PySem PySem.Spec PyProof.Rows
theorem lP {α β:Type}{f g:α->Option β}:∀{l:List α},(∀x∈l,f x=g x)->l.filterMap f=l.filterMap g
 |[],_=>rfl
 |x::l,h=>by
  rw[V4,V4,h x (by simp),lP λy hy=>h y (by simp[hy])]
theorem yr {α:Type}(xs:List α):((Vy xs.length).filterMap λk=>xs[xs.length-1-k]?)=xs.reverse:=by
 have h:=pick_run xs.reverse.toArray 0 xs.length;rw[List.filterMap_map]at h;have e:((Vy xs.length).filterMap λk=>xs[xs.length-1-k]?)=(Vy xs.length).filterMap ((λx=>xs.reverse.toArray[x]?) ∘ λx=>0+x):=by
  refine lP λk hk=>?_;have OK:=V_.mp hk;show _=xs.reverse.toArray[0+k]?;rw[List.getElem?_toArray,V8,List.getElem?_reverse OK]
 rw[e,h];simp only[List.drop_zero];exact Wr (by simp)
theorem mh (items:Array UK):slicePick items none none (some (-1))=items.toList.reverse.toArray:=by
 have e:(sliceRange (WH none none (some (-1)) items.size).1 (WH none none (some (-1)) items.size).2.1 (WH none none (some (-1)) items.size).2.2)=(Vy items.size).map λk=>items.size-1-k:=by
  show sliceRange ((items.size:Int)-1) (-1) (-1)=_;unfold sliceRange;have c:(if (-1:Int)>0 then (if (items.size:Int)-1 < -1 then ((-1)-((items.size:Int)-1)+-1-1) / -1 else 0) else (if (items.size:Int)-1 > -1 then ((items.size:Int)-1-(-1)-(-1)-1) / (-(-1)) else 0)).toNat=items.size:=by
   rw[if_neg (by lia)]
   split
   ·rw[show (-(-1):Int)=1 by rfl,Int.ediv_one];lia
   ·lia
  simp only[c];refine VR λk hk=>?_;have:=V_.mp hk;lia
 unfold slicePick;rw[e,List.filterMap_map]
 congr 1
 have:=yr items.toList;rw[Vj]at this;rw[<- this];refine lP λk hk=>?_;show items[items.size-1-k]?=_;rw[Ve]
section
end
end HT
namespace L2
open PySem PySem.Spec PySem.SeqAt PyProof.Rows
theorem ai.rev {P:UP}{w:U1}{W:Addr->Prop}{H:Hp}:∀{ds:List D} {vs:List V},ai P w W H ds vs->ai P w W H ds.reverse vs.reverse
 |[],_,h=>by rw[show _=[] from h];rfl
 |d::ds,_,⟨v,r,e,h1,h2⟩=>by
  subst e;rw[Xx,Xx];exact(ai.rev h2).append (.one h1)
theorem Vals.rev:∀{xs:List V} {us:List UK},Vals xs us->Vals xs.reverse us.reverse
 |_,_,.nil=>.nil
 |_,_,.cons r t=>by
  rw[Xx,Xx];exact(Vals.rev t).append (.cons r .nil)
section
end
end L2
namespace L2.Q
open PySem PySem.Spec PySem.SeqAt PyProof.Rows
def allB (β:a3):Iv:=β.map λb=>match b with|some (.val _ d)=>some d|some (.own d)=>some d|_=>none
section
variable {P:UP}{w:U1}{C:Cfg}{σ:St}{H:Hp}{β:a3}{own:Nat->List Addr}{i:Nat}
theorem bz.Na (s:bz P w C σ H β own):QX P w (λ_=>False) σ H (allB β):=⟨λa z=>z.elim,λi d e=>by
 unfold allB at e;rw[U8]at e;cases q:β[i]? with
 |none=>rw[q]at e;cases e
 |some x =>
  rw[q]at e;cases x with
  |none=>cases e
  |some x =>
   cases x with
   |val y d'=>cases e;obtain⟨v,h1,h2⟩:=s.val i y d q;exact⟨v,h1,h2.aO λ_ z=>z.elim⟩
   |own d'=>cases e;obtain⟨v,h1,h2,_⟩:=s.ow i d q;exact⟨v,h1,h2.rep λ_ _ z=>z⟩
   |hand ok=>cases e
   |shl y d=>cases e⟩
end
section
variable {X:Cx}{C:Cfg}{e:Expr}{φ:Iw}
theorem yJ (h:PV X e φ):PQ X C true e (λβ R=>φ (allB β) λd=>d.flat=true/\R d .own β) :=
 ⟨λβ R R' k q=>h.mono _ _ _ (λd q=>⟨q.1,k _ _ _ q.2⟩) q,h.pe.pre λσ H Q zS=>by obtain⟨β,own,s,q⟩:=zS;exact tD.of h s.Na q λd v H1 zP s1 r1=>by obtain⟨f,q⟩:=zP;exact q v H1 own ((Out.refl s true).same s1) (KV.flat f r1)⟩
end
section
variable {P:UP}{w:U1}{C:Cfg}{σ:St}{H:Hp}{β:a3}{own:Nat->List Addr}{i:Nat}{ok:List Int->Prop}{ns:List Int}
theorem m6:∀{ns:List Int} {vs:List V} {A:List Addr},aK P w H (ns.map D.int) vs A->vs=ns.map V.int/\A=[]
 |[],_,_,h=>h
 |n::ns,_,_,⟨v,r,A1,A2,e,eA,h1,h2⟩=>by
  obtain⟨rfl,rfl⟩:=m6 h2;obtain⟨rfl,rfl⟩:=h1;exact⟨e,by rw[eA];rfl⟩
theorem bz.toHand (s:bz P w C σ H β own)(e:β[i]?=some (some (.own (.lst (ns.map D.int)))))(ho:ok ns)(io:∀b,¬ C.IO b):bz P w C σ H (β.set i (some (.hand ok))) own:=by
 obtain⟨v,h1,⟨a,vs,A',rfl,h2,h3,h4⟩,h5⟩:=s.ow i _ e;obtain⟨rfl,rfl⟩:=m6 h4;refine⟨by simp[s.len],λj y d q=>?_,λj d q=>?_,λj xw q=>?_,s.dm,s.g_,s.l7,s.kp,s.fP,λj y d q=>by
  by_cases aC:i=j
  ·subst aC;obtain⟨e',_⟩:=aU q;cases e'
  ·rw[aP aC]at q;exact s.shl j y d q⟩
 ·by_cases aC:i=j
  ·subst aC;obtain⟨e',_⟩:=aU q;cases e'
  ·rw[aP aC]at q;exact s.val j y d q
 ·by_cases aC:i=j
  ·subst aC;obtain⟨e',_⟩:=aU q;cases e'
  ·rw[aP aC]at q;exact s.ow j d q
 ·by_cases aC:i=j
  ·subst aC;obtain⟨e',_⟩:=aU q;cases e';exact⟨a,ns,h1,h2,ho,h3,.inl io⟩
  ·rw[aP aC]at q;exact s.nz j xw q
end
section
variable {X:Cx}{C:Cfg}{e:Expr}{φ:aQ}{p:Bool}{i:Nat}{x:Str}{pos pos' px ap cp:Pos}{ok:List Int->Prop}
theorem B4 (ok:List Int->Prop)(OL:∀b,¬ C.IO b)(he:∀U,PQ X (C.u U) p e φ)(hN:X.N.Nodup)(hi:X.N[i]?=some x:=by rfl)(hx:Loc X.env.scope x:=by first|exact .inl rfl|exact .inr rfl)
  (hs:Wf e (some (.Name x pos')) pos.line X.env=pure false:=by rfl) (hf:X.fn x=true\/X.env.scope.names.lookup x=some .local:=by first|exact .inl rfl|exact .inr rfl|assumption) :
  PB X C (.Assign [.Name x pos'] e pos) (λE β=>φ β λd k β'=>CD k d/\i<β'.length/\∃ns:List Int,d=.lst (ns.map D.int)/\ok ns/\E.nx (β'.set i (some (.hand ok)))):=by
 have B:=kc (C:=C) (i:=i) (pos:=pos) (pos':=pos') he hN hi hx hs hf;refine⟨λE E' β l q=>(he λ_=>False).mono _ _ _ (λd k β' Ki=>by obtain⟨f,h,ns,e,o,q⟩:=Ki;exact⟨f,h,ns,e,o,l.nx _ q⟩) q,B.ps.pre λDe σ H ⟨Z,E,β,sb,q,xw⟩=>?_⟩
 refine⟨Z,{E with nx:=λβ'=>∃(ns:List Int) (β2:a3),i<β2.length/\β'=β2.set i (some (.own (.lst (ns.map D.int))))/\ok ns/\E.nx (β2.set i (some (.hand ok)))},β,sb,(he λ_=>False).mono _ _ _ (λd k β' Kg=>by obtain⟨f,h,ns,e,o,q⟩:=Kg;exact⟨f,ns,β',h,by rw[e],o,q⟩) q,⟨λσ' H' β' sf ⟨ns,β2,hl,e,o,q⟩=>?_,xw.rt,xw.bk,xw.ct⟩⟩
 subst e;obtain⟨own,s,n⟩:=sf;have:=s.toHand (i:=i) (ok:=ok) (get_set hl) o OL;rw[Xw]at this;exact xw.nx _ _ _ ⟨own,this,n⟩ q
theorem bz.putL {P:UP}{w:U1}{σ:St}{H:Hp}{β:a3}{own:Nat->List Addr}{U U2:Addr->Prop}{ds ds':List D}{vs':List V}{a:Addr}{vs:List V}{A A':List Addr}(s:bz P w (C.u U) σ H β own)(e:β[i]?=some (some (.own (.lst ds))))(h1:σ[i]?=some (some (.ref a)))(h2:H a=some (.lst vs))(h3:own i=a::A)
  (r:aK P w H ds' vs' A') (nd:A'.Nodup) (hA:∀c∈A',c∈A\/(C.H0 c=none/\¬ Wn own c/\U c)) (hU:∀a,U2 a->U a) (O1:∀c∈A',c∉A->¬ U2 c) :
  bz P w (C.u U2) σ (upd H a (.lst vs')) (β.set i (some (.own (.lst ds')))) (aD own i (a::A'))/\∀c∈a::A',c∈own i\/(C.H0 c=none/\¬ Wn own c/\U c):=by
 have ha:a∈own i:=by rw[h3];simp
 have nA:a∉A:=by have:=s.l7 i;rw[h3]at this;exact(Vt.mp this).1
 have na:∀c∈A',c≠a:=λc hc z=>by
  subst z;rcases hA c hc with z|z
  ·exact nA z
  ·exact z.2.1 ⟨i,ha⟩
 have kt:∀b xs,H b=some (.tup xs)->upd H a (.lst vs') b=some (.tup xs):=λb xs z=>by rw[az (λz'=>by rw[z',h2]at z;cases z)];exact z
 have QP:∀c∈a::A',c∈own i\/(C.H0 c=none/\¬ Wn own c/\U c):=λc hc=>by
  rcases UQ.mp hc with rfl|hc
  ·exact .inl ha
  ·exact(hA c hc).imp (λz=>by rw[h3];simp[z]) id
 refine⟨s.BL e h1 ha ⟨a,vs',A',rfl,ao,rfl,r.keep kt λc hc oc ec=>by rw[az (na c hc)];exact ec⟩ (Vt.mpr ⟨λz=>na a z rfl,nd⟩) QP hU (λc hc z=>?_),QP⟩
 rcases UQ.mp hc with rfl|hc
 ·exact(s.dm i c ha).2.2.2 (hU c z)
 ·by_cases q:c∈A
  ·exact(s.dm i c (by rw[h3];simp[q])).2.2.2 (hU c z)
  ·exact O1 c hc q z
theorem yX {own:Nat->List Addr}{i:Nat}{A':List Addr}(h:∀c∈A',c∈own i):∀c,Wn (aD own i A') c->Wn own c:=λc GJ=>by
 obtain⟨j,hj⟩:=GJ
 by_cases aC:i=j
 ·rw[<- aC,os_eq]at hj;exact⟨i,h c hj⟩
 ·rw[a_ aC]at hj;exact⟨j,hj⟩
theorem FI {P:UP}{w:U1}{H:Hp}{own:Nat->List Addr}{Z:Hp×(Addr->Prop)}{d:D}{v:V}{A:List Addr}(r:Own P w H d v A)(h:∀c∈A,¬ Wn own c/\C.H0 c=none):KV P w C Z own H (sk .cE d) d v:=by
 have q:ay P w (av C (Wn own) .cE) H d v:=r.rep λc hc z=>z.elim (h c hc).1 λz=>z (h c hc).2;cases d with
 |int i=>exact KV.flat rfl q
 |bl i=>exact KV.flat rfl q
 |cg=>exact KV.flat rfl q
 |str i=>exact KV.flat rfl q
 |_=>exact q
theorem aK.concat {P:UP}{w:U1}{H:Hp}{ds:List D}{d:D}{vs:List V}{A:List Addr}(h:aK P w H (ds++[d]) vs A):∃us v A1 A2,vs=us++[v]/\A=A1++A2/\aK P w H ds us A1/\Own P w H d v A2:=by
 obtain⟨v,A1,A2,A3,g1,g2,g3,g4,g5⟩:=h.split (i:=ds.length) (d:=d) (by simp)
 rw[List.take_left]at g3;have e3:aK P w H [] (vs.drop (ds.length+1)) A3:=by simpa using g5
 have hl:=h.length;rw[Vr,WR]at hl;refine⟨vs.take ds.length,v,A1,A2,?_,by rw[g2,e3.2,VT],g3,g4⟩
 have fG:ds.length<vs.length:=by lia
 have e1:vs=vs.take ds.length++vs.drop ds.length:=(WQ _ _).symm;rw[VW fG,e3.1]at e1;have:vs[ds.length]=v:=by
  have:=Vh fG;rw[g1]at this;exact(VE this).symm
 rw[this]at e1;exact e1
theorem FF (hN:X.N[i]?=some x:=by rfl)(hv:rM X.env.scope x:=by first|exact .inl rfl|exact .inr (.inl rfl)|exact .inr (.inr rfl))(hd:(x==("__debug__" : Str))=false:=by decide)(fH:(x==("__classdict__" : Str))=false:=by decide)
  (cW:Wz (.Name x px) "pop" X.env (eval (.Name x px) X.env)=eval (.Name x px) X.env:=by rfl) (cV:(ap.endLine==cp.line)=true:=by rfl) :
  PQ X C false (.Call (.Attribute (.Name x px) "pop" ap) [] [] cp) (λβ R=>∃ds d,β[i]?=some (some (.own (.lst (ds++[d]))))/\R d (sk .cE d) (β.set i (some (.own (.lst ds))))) :=
 ⟨λβ R R' k CM=>by obtain⟨ds,d,h1,q⟩:=CM;exact⟨ds,d,h1,k _ _ _ q⟩,(FP (apos:=ap) (cpos:=cp) PySem.F.plainAttrs_list PySem.F.slot_list_pop PySem.F.type_list_pop Gf (cL (pos:=px) hN hv hd fH) cW cV).pre λσ H Q sW=>by
  obtain⟨β,own,s,ds,d,hb,q⟩:=sW;obtain⟨a,vs,A,h1,h2,h3,h4⟩:=s.zr hb;obtain⟨us,v,A1,A2,rfl,rfl,g3,g4⟩:=h4.concat;have nd:=s.l7 i;rw[h3]at nd;obtain⟨HX,Cw,JH⟩:=VV.mp (Vt.mp nd).2;obtain⟨s2,hA⟩:=s.putL (C:=C) (U:=C.U) (U2:=C.U) (ds':=ds) (vs':=us) (A':=A1) hb h1 h2 h3 g3 HX (λc hc=>.inl (by simp[hc])) (λ_ z=>z) (λc hc n=>absurd (by simp[hc]) n)
  have h0:∀c∈own i,C.H0 c=none:=by obtain⟨_,_,_,h⟩:=s.ow i _ hb;exact h
  have kt:∀b xs,H b=some (.tup xs)->upd H a (.lst us) b=some (.tup xs):=λb xs z=>by rw[az (λz'=>by rw[z',h2]at z;cases z)];exact z
  have na:∀c∈A2,c≠a:=λc hc z=>(Vt.mp nd).1 (by rw[<- z];simp[hc])
  have le:∀c,Wn (aD own i (a::A1)) c->Wn own c:=yX λc hc=>by rw[h3];rcases UQ.mp hc with rfl|hc <;> simp[*]
  refine⟨.ref a,h1,.inl ⟨rfl,_,dO.of h2⟩,a,_,v,rfl,rfl,h2,by simp,?_⟩
  rw[List.dropLast_concat];refine q v _ _ ⟨s2,?_,λz=>(nomatch z),le⟩ (FI (C:=C) (g4.keep kt λc hc oc ec=>by rw[az (na c hc)];exact ec) λc hc=>⟨λ⟨j,hj⟩=>?_,h0 c (by rw[h3];simp[hc])⟩)
  ·have u:=Sn.upd (Z:=(H,Wn own)) (o':=.lst us) (Sn.refl (H:=H) (W:=Wn own)) h2 (λxs z=>by cases z) ⟨i,by rw[h3];simp⟩
   exact⟨λb z=>.inl (le b z),u.k,u.d⟩
  ·by_cases aC:i=j
   ·rw[<- aC,os_eq]at hj;rcases UQ.mp hj with rfl|hj
    ·exact na _ hc rfl
    ·exact JH _ hj _ hc rfl
   ·rw[a_ aC]at hj;exact aC (s.g_ i j c (by rw[h3];simp[hc]) hj)⟩
end
section
variable {C:Cfg}{i:Nat}
theorem By {Z:Hp×(Addr->Prop)}{H:Hp}{own:Nat->List Addr}{a:Addr}{o oa:HO}{A':List Addr}{U:Addr->Prop}(n:Sn Z H (Wn own))(m:∀a,U a->Z.1 a=none)(h2:H a=some oa)(ht:∀xs,oa≠.tup xs)(ha:Wn own a)(hA:∀c∈A',c∈own i\/(C.H0 c=none/\¬ Wn own c/\U c)):Sn Z (upd H a o) (Wn (aD own i A')) :=
 kU n m ha ⟨oa,h2,ht⟩ hA
end
abbrev JT (l:Bool)(ds:List D):D:=match l with|true=>.lst ds|false=>.tup ds
section
variable {P:UP}{w:U1}{H:Hp}{A:List Addr}{v:V}{ds:List D}{l:Bool}
theorem p_ {m:Nat}{es:List D}(r:Own P w H (JT l ds) v A)(nd:A.Nodup)(hm:ds[m]?=some (.lst es)):∃a vs c us B,v=.ref a/\H a=some (match l with|true=>.lst vs|false=>.tup vs)/\vs.length=ds.length/\vs[m]?=some (.ref c)/\H c=some (.lst us)/\c∈A/\aK P w H es us B/\(∀x∈B,x∈A/\x≠c)/\B.Nodup /\
  ∀tj tZ B',aK P w H tj tZ B'->B'.Nodup->(∀x∈B',x∈B\/x∉A)->(∀x∈B',x≠c)->∃A',Own P w (upd H c (.lst tZ)) (JT l (ds.set m (.lst tj))) v A'/\A'.Nodup/\∀x∈A',x∈A\/x∈B':=by
 have core:∀{vs:List V} {A:List Addr},A.Nodup->aK P w H ds vs A->∃c us B,vs[m]?=some (.ref c)/\H c=some (.lst us)/\c∈A/\aK P w H es us B/\(∀x∈B,x∈A/\x≠c)/\B.Nodup /\
   ∀tj tZ B',aK P w H tj tZ B'->B'.Nodup->(∀x∈B',x∈B\/x∉A)->(∀x∈B',x≠c)->∃A',aK P w (upd H c (.lst tZ)) (ds.set m (.lst tj)) vs A'/\A'.Nodup/\(∀x∈A',x∈A\/x∈B'):=λ{vs A} nd os=>by
  have hl:=os.length;have Sv:m<ds.length:=(U0.mp hm).1;obtain⟨u,A1,A2,A3,g1,rfl,g3,⟨c,us,B,rfl,h2,rfl,h4⟩,g5⟩:=os.split hm;obtain⟨HX,Cw,JH⟩:=VV.mp nd;obtain⟨Ql,RT,Qj⟩:=VV.mp Cw;have RV:=(Vt.mp Ql).1;refine⟨c,us,B,g1,h2,by simp,h4,λx hx=>⟨by simp[hx],λz=>RV (by rw[<- z];exact hx)⟩,(Vt.mp Ql).2,λtj tZ B' o' n' lO lN=>?_⟩
  have kt:∀b xs,H b=some (.tup xs)->upd H c (.lst tZ) b=some (.tup xs):=λb xs z=>by rw[az (λz'=>by rw[z',h2]at z;cases z)];exact z
  have n1:∀x∈A1,x≠c:=λx hx z=>JH x hx c (by simp) z
  have n3:∀x∈A3,x≠c:=λx hx z=>Qj c (by simp) x hx z.symm
  have off:∀x∈B',x∉A1/\x∉A3:=λx hx=>by
   rcases lO x hx with z|z
   ·exact⟨λq=>JH x q x (by simp[z]) rfl,λq=>Qj x (by simp[z]) x q rfl⟩
   ·exact⟨λq=>z (by simp[q]),λq=>z (by simp[q])⟩
  have QB:m<vs.length:=by lia
  have ev:vs=vs.take m++V.ref c::vs.drop (m+1):=by
   have e1:vs=vs.take m++vs.drop m:=(WQ _ _).symm;rw[VW QB]at e1;have:vs[m]=V.ref c:=by
    have:=Vh QB;rw[g1]at this;exact(VE this).symm
   rwa [this]at e1
  refine⟨A1++((c::B')++A3),?_,VV.mpr ⟨HX,VV.mpr ⟨Vt.mpr ⟨λz=>lN c z rfl,n'⟩,RT,λx hx y hy=>?_⟩,λx hx y hy z=>?_⟩,λx hx=>?_⟩
  ·rw[List.set_eq_take_append_cons_drop,if_pos Sv];have q:aK P w (upd H c (.lst tZ)) (ds.take m++.lst tj::ds.drop (m+1)) (vs.take m++.ref c::vs.drop (m+1)) (A1++((c::B')++A3)) :=
    (g3.keep kt λx hx oc ec=>by rw[az (n1 x hx)];exact ec).append ⟨.ref c,_,c::B',A3,rfl,rfl,⟨c,tZ,B',rfl,ao,rfl,o'.keep kt λx hx oc ec=>by rw[az (lN x hx)];exact ec⟩,g5.keep kt λx hx oc ec=>by rw[az (n3 x hx)];exact ec⟩
   rw[<- ev]at q;exact q
  ·intro z;subst z;rcases UQ.mp hx with rfl|hx
   ·exact n3 _ hy rfl
   ·exact(off x hx).2 hy
  ·subst z;rcases Vl.mp hy with hy|hy
   ·rcases UQ.mp hy with rfl|hy
    ·exact n1 _ hx rfl
    ·exact(off x hy).1 hx
   ·exact JH x hx x (by simp[hy]) rfl
  ·rcases Vl.mp hx with hx|hx
   ·exact .inl (by simp[hx])
   ·rcases Vl.mp hx with hx|hx
    ·rcases UQ.mp hx with rfl|hx
     ·exact .inl (by simp)
     ·exact .inr hx
    ·exact .inl (by simp[hx])
 cases l with
 |true =>
  obtain⟨a,vs,A',rfl,h2,rfl,h4⟩:=r;obtain⟨na,JI⟩:=Vt.mp nd;obtain⟨c,us,B,q1,q2,q3,q4,q5,q6,q7⟩:=core JI h4;have ca:c≠a:=λz=>na (by rw[<- z];exact q3)
  refine⟨a,vs,c,us,B,rfl,h2,h4.length,q1,q2,by simp[q3],q4,λx hx=>⟨by simp[(q5 x hx).1],(q5 x hx).2⟩,q6,λtj tZ B' o' n' lO lN=>?_⟩
  obtain⟨A2,g1,g2,g3⟩:=q7 tj tZ B' o' n' (λx hx=>(lO x hx).imp id λz q=>z (by simp[q])) lN
  refine⟨a::A2,⟨a,vs,A2,rfl,by rw[az ca.symm];exact h2,rfl,g1⟩,Vt.mpr ⟨λz=>?_,g2⟩,λx hx=>?_⟩
  ·rcases g3 a z with z|z
   ·exact na z
   ·rcases lO a z with z|z
    ·exact na (q5 a z).1
    ·exact z (by simp)
  ·rcases UQ.mp hx with rfl|hx
   ·exact .inl (by simp)
   ·exact(g3 x hx).imp (λz=>by simp[z]) id
 |false =>
  obtain⟨a,vs,rfl,h2,h4⟩:=r;obtain⟨c,us,B,q1,q2,q3,q4,q5,q6,q7⟩:=core nd h4;have ca:a≠c:=λz=>by rw[z,q2]at h2;cases h2
  refine⟨a,vs,c,us,B,rfl,h2,h4.length,q1,q2,q3,q4,q5,q6,λtj tZ B' o' n' lO lN=>?_⟩;obtain⟨A2,g1,g2,g3⟩:=q7 tj tZ B' o' n' lO lN;exact⟨A2,⟨a,vs,rfl,by rw[az ca];exact h2,g1⟩,g2,g3⟩
end
section
variable {X:Cx}{C:Cfg}{e k:Expr}{φ φk:aQ}{i:Nat}{x:Str}{pos px kp ap cp:Pos}
theorem jO (l:Bool)(he:∀U,PQ X (C.u U) true e φ)(hk:∀U,PQ X (C.u U) true k φk)(hN:X.N[i]?=some x:=by rfl)(hv:rM X.env.scope x:=by first|exact .inl rfl|exact .inr (.inl rfl)|exact .inr (.inr rfl))(hd:(x==("__debug__" : Str))=false:=by decide)(fH:(x==("__classdict__" : Str))=false:=by decide)
  (SF:o9 k:=by exact λ_ _=>rfl)
  (cW:Wz (.Subscript (.Name x px) k kp) "append" X.env (eval (.Subscript (.Name x px) k kp) X.env)=eval (.Subscript (.Name x px) k kp) X.env:=by rfl)
  (jw:((V6 cp (US [e] X.env)).all (λx=>!x.1)&&(Yu cp (XJ [] X.env)).all (λx=>x.1.isSome)&&decide ([e].length+([]:List Xi).length+(if ([]:List Xi).isEmpty then 0 else 1)<30))=true:=by rfl)
  (cV:(ap.endLine==cp.line)=true:=by rfl) (hs:US [e] X.env=(false,eval e X.env)::US [] X.env:=by rfl) (cO:(V6 cp (US [] X.env)).any (·.1)=false:=by rfl)
  (sS:Wf (.Call (.Attribute (.Subscript (.Name x px) k kp) "append" ap) [e] [] cp) none pos.line X.env=pure false:=by rfl) :
  PB X C (.Expr (.Call (.Attribute (.Subscript (.Name x px) k kp) "append" ap) [e] [] cp) pos) (λE β=>(∃d0,β[i]?=some (some (.own d0)))/\φk β λjd _ β1=>∃ds j m es,jd=.int j/\β1[i]?=some (some (.own (JT l ds)))/\wH ds.length j=some m/\ds[m]?=some (.lst es)/\φ β1 λd kd β2=>CD kd d/\β2[i]?=some (some (.own (JT l ds)))/\es.length<UW/\E.nx (β2.set i (some (.own (JT l (ds.set m (.lst (es++[d]))))))) ):=by
 refine⟨λE E' β l K6=> by obtain⟨q0,q⟩ := K6;exact⟨q0,(hk λ_=>False).mono _ _ _ (λjd _ β1 K5=> by obtain⟨ds,j,m,es,h1,h2,h3,h4,q⟩ := K5;exact⟨ds,j,m,es,h1,h2,h3,h4,(he λ_=>False).mono _ _ _ (λd kd β2 K4=> by obtain⟨g1,g2,g3,q⟩ := K4;exact⟨g1,g2,g3,l.nx _ q⟩) q⟩) q⟩,λpins s σ H De I ⟨Z,E,β,⟨own,sq,n⟩,⟨⟨d0,SS⟩,q⟩,ok⟩=>?_⟩
 have ix:EO X (λx y H Q=>Jc X.K x y H Q\/Jb X.K x y H Q):=λvalue slice pins s σ H x y v u Q I rx ry h hs=>h.elim (λh=>cS value slice pins s σ H x y v u Q I rx ry h hs) λh=>zI value slice pins s σ H x y v u Q I rx ry h hs;refine oz (pos:=pos) (uw (apos:=ap) (cpos:=cp) PySem.F.plainAttrs_list PySem.F.slot_list_append PySem.F.type_list_append ji (gL (pos:=kp) ix (cL (pos:=px) hN hv hd fH) (hk λa=>H a=none).pe SF) (a6 (he λa=>H a=none).pe cy hs) cW jw cV hs cO) sS pins s σ H De I ?_;have Rq:=sq.jE (C:=C.z) (U:=λa=>H a=none) λa z=>z;obtain⟨v0,xx,_,_⟩:=sq.ow i d0 SS;refine⟨v0,xx,tQ.of (hk λa=>H a=none) Rq q λjd kk β1 kv H1 aB ⟨ds,j,m,es,e1,hb,hj,hm,q⟩ o r=>?_⟩;subst e1;cases r.rep;obtain⟨v,Em,ow,h0⟩:=o.sq.ow i _ hb;rw[xx]at Em;cases Em;obtain⟨a,vs,c,us,B,rfl,q1,q2,q3,q4,q5,q6,q7,q8,q9⟩:=p_ ow (o.sq.l7 i) hm;have QU:mK vs j=some (.ref c):=by unfold mK;rw[q2,hj];exact q3
 have Qd:LX X.K "list" (.ref c) H1/\DR (tQ X (C.u λa=>H a=none) true φ) IL σ H1 λxs H2=>uf (.ref c) xs H2 λ_ H1=>De.nx σ H1:=by
  refine⟨.inl ⟨rfl,us,dO.of q4⟩,tQ.of (he λa=>H a=none) o.sq q λd kd β2 v2 H2 aZ ⟨f,QL,hl,q⟩ o2 r2=>?_⟩;obtain⟨s2,e2⟩:=o2.pu rfl;obtain⟨v',Mj,RK,UA⟩:=o2.sq.ow i _ QL;rw[xx]at Mj;cases Mj;obtain⟨a',vs',c',tZ,B',ea,p1,p2,p3,p4,p5,p6,p7,p8,p9⟩:=p_ RK (o2.sq.l7 i) hm;cases ea;have e3:=s2 _ _ q1;rw[p1]at e3;have ev:vs'=vs:=by cases l <;> (cases e3;rfl)
  subst ev;rw[q3]at p3;cases p3;have e4:=s2 _ _ q4;rw[p4]at e4;cases e4;obtain⟨A,r1,rn,r3⟩:=r2.fl f;have F9:∀x∈A,x∉aZ i:=λx hx z=>(r3 x hx).2.1 ⟨i,z⟩;obtain⟨A',g1,g2,g3⟩:=p9 (es++[d]) (us++[v2]) (B'++A) (p6.append (aK.one r1)) (VV.mpr ⟨p8,rn,λx hx y hy z=>F9 y hy (by rw[<- z];exact(p7 x hx).1)⟩)
   (λx hx=>(Vl.mp hx).imp id (F9 x)) (λx hx z=>by
    rcases Vl.mp hx with hx|hx
    ·exact(p7 x hx).2 z
    ·exact F9 x hx (by rw[z];exact p5))
  have hA:∀x∈A',x∈aZ i\/(C.H0 x=none/\¬ Wn aZ x/\H x=none):=λx hx=>by
   rcases g3 x hx with z|z
   ·exact .inl z
   ·rcases Vl.mp z with z|z
    ·exact .inl (p7 x z).1
    ·exact .inr ⟨(r3 x z).2.2,(r3 x z).2.1,o.sn.free (r3 x z).1⟩
  exact⟨c,us,v2,rfl,rfl,p4,by rw[p6.length];exact hl,ok.nx _ _ _ ⟨_,o2.sq.putIn (C:=C) (U:=λa=>H a=none) QL xx p5 g1 g2 hA,kU ((n.trans o.sn).trans o2.sn) (λb z=>n.free z) ⟨i,p5⟩ ⟨_,p4,λxs z=>by cases z⟩ hA⟩ q⟩
 cases l with
 |true=>exact .inl ⟨a,vs,j,.ref c,rfl,rfl,dO.of q1,QU,Qd⟩
 |false=>exact .inr ⟨a,vs,j,.ref c,rfl,rfl,tP.of q1,QU,Qd⟩
end
end L2.Q
namespace L2
open PySem PySem.Spec PySem.SeqAt PyProof.Rows
theorem NS {b:Bool}{p q:Prop}(h1:b=true->p)(h2:b=false->q):(if b=true then p else q):=by
 cases b
 ·exact fN rfl (h2 rfl)
 ·exact mC rfl (h1 rfl)
def fz (a b c d:Int):Bool:=(decide (a<c)&&(decide (c<b)&&decide (b<d))) || (decide (c<a)&&(decide (a<d)&&decide (d<b)))
def bJ:List Int->List Int->Bool
 |[a,b],[c,d]=>fz a b c d
 |_,_=>false
def Pair (t:List Int):Prop:=∃a b,t=[a,b]
def gm:FD:=λds R=>∃t u,ds=[kD t,kD u]/\Pair t/\Pair u/\R (.bl (bJ t u))
theorem gm.mono:dt gm:=λds R R' k ⟨t,u,e,h1,h2,q⟩=>⟨t,u,e,h1,h2,k _ q⟩
def bD (t u:List Int):Bool:=t.any λi=>decide (i∈u)
def lT:FD:=λds R=>∃t u,ds=[kD t,kD u]/\Pair t/\R (.bl (bD t u))
theorem lT.mono:dt lT:=λds R R' k ⟨t,u,e,h1,q⟩=>⟨t,u,e,h1,k _ q⟩
def Pairs (ts:List (List Int)):Prop:=∀t∈ts,Pair t
structure Bs2 (mg:Str->Option UK):Prop extends Bs mg where
 Ek:mg "isinstance" = none
 tuple:mg "tuple" = none
 str:mg "str" = none
 bool:mg "bool" = none
 zip:mg "zip" = none
 enumerate:mg "enumerate" = none
theorem Aq {d:D}{n:Nat}(h:d.pd.canLay0=true/\d.pd.depth<=n)(hn:n<=64:=by decide):Ip d d=some (.bl true):=tH (bI h hn) (bI h hn) (eqv_refl _ h.1)
theorem qZ {d:D}{n:Nat}(h:d.pd.canLay0=true/\d.pd.depth<=n)(hn:n<=64:=by decide):Bc d d=some (.bl false):=oZ (bI h hn) (bI h hn) (eqv_refl _ h.1)
end L2
namespace L2.Q
open PySem PySem.Spec PySem.SeqAt PyProof.Rows
structure tT (X:Cx)(C:Cfg)(p:Bool)(ifs:List Expr)(τ:a8):Prop where
 mono:∀β R R',(∀d β,R d β->R' d β)->τ β R->τ β R'
 pt:rO X ifs (jG X C p τ)
theorem iZ {X:Cx}{C:Cfg}:tT X C true [] ID:=⟨λ_ _ _ k h=>k _ _ h,yF⟩
theorem eD {X:Cx}{C:Cfg}{p:Bool}{c:Expr}{τ:a8}(h:vx X C p c τ):tT X C p [c] τ:=⟨h.mono,yE h⟩
section
variable {X:Cx}{C:Cfg}{lk:List (Option Nat)}{γ:eM}{τ:a8}{φ:aQ}{T:List Nat}{pc pe pi:Bool}{scope:Xp}{N':List Str}{tg cF elt:Expr}{ifs:List Expr}{ι:cI}{pos pos' kT:Pos}{y:Str}{i:Nat}
theorem Gp (N':List Str)(lk:List (Option Nat))(L:jl X.env.scope.names X.N scope N' lk=true)(wR:N'.Nodup)(hc:X.calm=true)(hi:AS X C pi tg cF ι)
  (xB:∀U cl c s H ex,AU (aE X scope N' cl c s H ex) (C.u U) tg T γ) (sR:∀U cl c s H ex,tT (aE X scope N' cl c s H ex) (C.u U) pc ifs τ) (xC:∀U cl c s H ex,PQ (aE X scope N' cl c s H ex) (C.u U) pe elt φ)
  (hT:T.all (λi=>match lk[i]? with|some (some _)=>false|_=>true)=true:=by rfl) (hs:∀x,VM cF X.env x=pure x:=by intro _;rfl):PQ X C (pi&&(pc&&pe)) (.ListComp elt [⟨tg,cF,ifs,0⟩] scope pos) (ug lk ι γ τ φ) :=
 Jp (Links.of L) wR hT hc hi (λa=>xB _) (λa cl c s H ex=>(sR _ cl c s H ex).pt) (sR (λ_=>False) [] 0 X.s₀ X.H₀ []).mono (λa=>xC _) (xB (λ_=>False) [] 0 X.s₀ X.H₀ []).mono (xC (λ_=>False) [] 0 X.s₀ X.H₀ []).mono hs
theorem vO (o:Bool)(N':List Str)(lk:List (Option Nat))(L:jl X.env.scope.names X.N scope N' lk=true)(wR:N'.Nodup)(hc:X.calm=true)(hi:∀U,AS X (C.u U) pi tg cF ι)
  (xB:∀U cl c s H ex,AU (aE X scope N' cl c s H ex) (C.u U) tg T γ) (sR:∀U cl c s H ex,tT (aE X scope N' cl c s H ex) (C.u U) pc ifs τ) (xC:∀U cl c s H ex,PQ (aE X scope N' cl c s H ex) (C.u U) pe elt φ)
  (hN:X.N.Nodup) (hT:T.all (λi=>match lk[i]? with|some (some _)=>false|_=>true)=true:=by rfl) (hy:X.N[i]?=some y:=by rfl) (hx:Loc X.env.scope y:=by first|exact .inl rfl|exact .inr rfl) (hf:X.fn y=true\/X.env.scope.names.lookup y=some .local:=by first|exact .inl rfl|exact .inr rfl|assumption)
  (sS:Wf (.ListComp elt [⟨tg,cF,ifs,0⟩] scope pos) (some (.Name y pos')) kT.line X.env=pure true:=by rfl)
  (CU:YV (.ListComp elt [⟨tg,cF,ifs,0⟩] scope pos) X.env (assign (.Name y pos') X.env)=(do let _ <- comprehension (.ListComp elt [⟨tg,cF,ifs,0⟩] scope pos) scope X.env (firstIterPos [⟨tg,cF,ifs,0⟩] pos) (newList []) false (eval cF X.env) (some (assign (.Name y pos') X.env));pure ()):=by first|rfl|exact Yg ..)
  (hs:∀x,VM cF X.env x=pure x:=by intro _;rfl) :
  PB X C (.Assign [.Name y pos'] (.ListComp elt [⟨tg,cF,ifs,0⟩] scope pos) kT) (λE β=>ug lk ι γ τ φ β λd _ β'=>E.nx (β'.set i (some (match o with|true=>.own d|false=>.val true d)))) :=
 Jn (K:=λ_ _ _=>True) (Links.of L) wR hT hc hi xB (λU cl c s H ex=>(sR U cl c s H ex).pt) (sR (λ_=>False) [] 0 X.s₀ X.H₀ []).mono xC (xB (λ_=>False) [] 0 X.s₀ X.H₀ []).mono (xC (λ_=>False) [] 0 X.s₀ X.H₀ []).mono o hN hy hx hf sS CU hs
theorem bg:EO X (vT X xa NF):=λvalue slice pins s σ H x y v u Q I rx ry ⟨W,d1,d2,d,hd,r1,r2,e,q⟩ hs =>
 GB value slice pins s σ H x y v u Q I rx ry ⟨W,d1,d2,d,hd,r1,r2,e,λv H' s r=>q v H' s r λf=>ay.flat f r⟩ hs
end
section
end
theorem xf (ns:List Int)(lo hi:Option Int):∃ms:List Int,rh (ns.map V.int) lo hi=ms.map V.int/\ms.length<=ns.length:=by
 refine⟨(ns.drop (HT.k8 (ns.map V.int).length 0 lo)).take (HT.k8 (ns.map V.int).length (ns.map V.int).length hi-HT.k8 (ns.map V.int).length 0 lo),?_,?_⟩
 ·unfold rh;rw[List.map_take,List.map_drop]
 ·rw[VH,List.length_drop];lia
section
variable {P:UP}{w:U1}
theorem bN {W:Addr->Prop}{H:Hp}:∀ns:List Int,ai P w W H (ns.map D.int) (ns.map V.int)
 |[]=>rfl
 |n::ns=>⟨_,_,rfl,rfl,bN ns⟩
theorem Bu {N:List Str}{vs:List V}{H H':Hp}{n:Nat}{ro:Bool}{U:Addr->Prop}(hl:(L2.start N vs).length=n)(sm:aw H H'):bz P w ⟨H,λ_=>False,ro,U⟩ (L2.start N vs) H' (Vg n none) (λ_=>[]) :=
 ⟨by rw[hl,List.length_replicate],λi y d h=>(fY h).elim,λi d h=>(fY h).elim,λi ok h=>(fY h).elim,λi a h=>(nomatch h),λi j a h=>(nomatch h),λi=>VY,sm.kp,λa z e=>z (sm.free e),λi y d h=>(fY h).elim⟩
theorem I_ {ro:Bool}{H H':Hp}{b:Bool}{v:V}(h:mM P w ro H H' (.bl b) v):v=.bl b:=by
 cases ro with
 |true=>obtain⟨A,h1,_⟩:=h;exact h1.1
 |false=>exact h
end
end L2.Q
namespace L2
open PySem PySem.Spec PySem.SeqAt PyProof.Rows
abbrev Fv (n:Int)(rows:List (List Int)):D:=.tup [.int n,.lst (rows.map kD)]
theorem vI (n:Int)(rows:List (List Int)):(Fv n rows).pd.canLay0=true/\(Fv n rows).pd.depth<=4:=mU λd hd=>by
 rcases UQ.mp hd with rfl|hd
 ·exact⟨(bH n).1,Vq (bH n).2 (by decide)⟩
 ·rw[UX.mp hd];exact fb rows
end L2
namespace L2.Q
open PySem PySem.Spec PySem.SeqAt PyProof.Rows
theorem Az {β:a3}{i j k l:Nat}{y1 y2 y3 y4:Bool}{a b c d:Int}{R:D->Kd->a3->Prop}(h1:β[i]?=some (some (.val y1 (.int a))))(h2:β[j]?=some (some (.val y2 (.int b))))(h3:β[k]?=some (some (.val y3 (.int c))))(h4:β[l]?=some (some (.val y4 (.int d))))
  (q:R (.bl (decide (a<b)&&(decide (b<c)&&decide (c<d)))) .own β):sj (yu i) (yv Hu (yu j) (yv Hu (yu k) (Fz Hu (yu l)))) β R:=by
 refine⟨_,h1,_,h2,_,rfl,mD (λz1=>⟨_,h3,_,rfl,mD (λz2=>⟨_,h4,_,rfl,?_⟩) (λz2=>?_)⟩) (λz1=>?_)⟩
 ·simpa[z1,z2] using q
 ·simpa[z1,z2] using q
 ·simpa[z1] using q
def l6 (ns:List Int):Prop:=∃x y z:Int,ns=[x,y,z]/\0<=x
def z_:FD:=λds R=>∃c:Int,ds=[.int c]/\∀ns,l6 ns->R (.lst (ns.map D.int))
theorem z_.mono:dt z_:=λds R R' k ⟨c,e,q⟩=>⟨c,e,λns o=>k _ (q ns o)⟩
section
variable {P:UP}{w:U1}{H:Hp}{h:Addr}
theorem qa {H:Hp}:∀ns:List Int,aK P w H (ns.map D.int) (ns.map V.int) []
 |[]=>⟨rfl,rfl⟩
 |n::ns=>⟨_,_,[],[],rfl,rfl,⟨rfl,rfl⟩,qa ns⟩
theorem su {xs ys:List V}(e:H h=some (.lst xs)):Kp (·=h) H (upd H h (.lst ys)):=⟨λb u hb nb=>by rw[az nb];exact hb,λb LW hb=>by rw[az λz=>by rw[z,e]at hb;cases hb];exact hb⟩
theorem sv {ys:List V}:∀c,H c≠none->upd H h (.lst ys) c≠none:=λc hc=>by
 by_cases z:c=h
 ·rw[z,ao];exact λz=>(nomatch z)
 ·rw[az z];exact hc
theorem uE {H':Hp}{r:Int}:mM P w true H H' (.int r) (.int r):=dw (W:=λ_=>False) rfl rfl
end
end L2.Q
namespace hG
open PySem L2 L2.Q
abbrev D0 (K:PySem.W.Frag)(mg:Str->Option UK)(f:Addr)(fd:Vs):Prop:=Df K mg "_law_row" gv ["deck","most"] f fd
abbrev D1 (K:PySem.W.Frag)(mg:Str->Option UK)(f:Addr)(fd:Vs):Prop:=Df K mg "_law_take" dz ["deck","many"] f fd
abbrev D2 (K:PySem.W.Frag)(mg:Str->Option UK)(f:Addr)(fd:Vs):Prop:=Df K mg "stretches_rising" bF ["many"] f fd
abbrev D3 (K:PySem.W.Frag)(mg:Str->Option UK)(f:Addr)(fd:Vs):Prop:=Df K mg "partners_of" cP ["row"] f fd
abbrev D4 (K:PySem.W.Frag)(mg:Str->Option UK)(f:Addr)(fd:Vs):Prop:=Df K mg "parts_left" dc ["i","k","j"] f fd
abbrev D5 (K:PySem.W.Frag)(mg:Str->Option UK)(f:Addr)(fd:Vs):Prop:=Df K mg "ways_in" gq ["counts","parts"] f fd
abbrev D6 (K:PySem.W.Frag)(mg:Str->Option UK)(f:Addr)(fd:Vs):Prop:=Df K mg "ways_by" gu ["counts","choices","i","j"] f fd
abbrev D7 (K:PySem.W.Frag)(mg:Str->Option UK)(f:Addr)(fd:Vs):Prop:=Df K mg "counts_of" d3 ["row"] f fd
abbrev D8 (K:PySem.W.Frag)(mg:Str->Option UK)(f:Addr)(fd:Vs):Prop:=Df K mg "count_sets" df ["row"] f fd
abbrev D9 (K:PySem.W.Frag)(mg:Str->Option UK)(f:Addr)(fd:Vs):Prop:=Df K mg "arcs_cross" dg ["one","other"] f fd
abbrev LV (K:PySem.W.Frag)(mg:Str->Option UK)(f:Addr)(fd:Vs):Prop:=Df K mg "share_a_point" b5 ["one","other"] f fd
abbrev MN (K:PySem.W.Frag)(mg:Str->Option UK)(f:Addr)(fd:Vs):Prop:=Df K mg "row_beside" da ["row","tie"] f fd
abbrev PD (K:PySem.W.Frag)(mg:Str->Option UK)(f:Addr)(fd:Vs):Prop:=Df K mg "count_with" cq ["row","tie"] f fd
abbrev Ra (K:PySem.W.Frag)(mg:Str->Option UK)(f:Addr)(fd:Vs):Prop:=Df K mg "_law_copied" de ["row"] f fd
abbrev LU (K:PySem.W.Frag)(mg:Str->Option UK)(f:Addr)(fd:Vs):Prop:=Df K mg "_law_do_cross" cn ["one","other"] f fd
abbrev MM (K:PySem.W.Frag)(mg:Str->Option UK)(f:Addr)(fd:Vs):Prop:=Df K mg "_law_fits" fm ["some","tie"] f fd
abbrev Q_ (K:PySem.W.Frag)(mg:Str->Option UK)(f:Addr)(fd:Vs):Prop:=Df K mg "_law_sets" fg ["row"] f fd
abbrev PC (K:PySem.W.Frag)(mg:Str->Option UK)(f:Addr)(fd:Vs):Prop:=Df K mg "_law_count" dZ ["many","ties"] f fd
abbrev Q9 (K:PySem.W.Frag)(mg:Str->Option UK)(f:Addr)(fd:Vs):Prop:=Df K mg "_law_due" gw ["row","tie"] f fd
abbrev Pz (K:PySem.W.Frag)(mg:Str->Option UK)(f:Addr)(fd:Vs):Prop:=Df K mg "_law_kind" fk ["caught"] f fd
abbrev Q8 (K:PySem.W.Frag)(mg:Str->Option UK)(f:Addr)(fd:Vs):Prop:=Df K mg "_law_is" ir ["found","due"] f fd
abbrev Q6 (K:PySem.W.Frag)(mg:Str->Option UK)(f:Addr)(fd:Vs):Prop:=Df K mg "_law_told" fe ["row","tie"] f fd
abbrev Q5 (K:PySem.W.Frag)(mg:Str->Option UK)(f:Addr)(fd:Vs):Prop:=Df K mg "_law_none" fh ["deck","row"] f fd
abbrev Q4 (K:PySem.W.Frag)(mg:Str->Option UK)(f:Addr)(fd:Vs):Prop:=Df K mg "_law_cell_at" cQ ["script","k"] f fd
abbrev T5 (K:PySem.W.Frag)(mg:Str->Option UK)(f:Addr)(fd:Vs):Prop:=Df K mg "_law_same" gT ["found","due"] f fd
abbrev T4 (K:PySem.W.Frag)(mg:Str->Option UK)(f:Addr)(fd:Vs):Prop:=Df K mg "_law_deck" dB ["cell"] f fd
section
variable {P:UP}{w:U1}{K:PySem.W.Frag}{mg:Str->Option UK}{base:Heap}
theorem pO:aG ["cell"] ["cell"] (ak dB):=⟨rfl,rfl,rfl,by decide +kernel,rfl,by decide +kernel,by decide +kernel⟩
theorem Co {f:Addr} {fd:Vs} (F:AX K "_law_deck" "_law_deck" dB f fd) (B:Bs mg):aL P w K mg base bS 1 f fd ["cell"] (dU P w true z_):=by
 refine F.ok pO (λvs H Q E h=>?_) (λb7 A outer s H vs Q E hr h=>?_)
 ·obtain⟨ds,r,c,rfl,_⟩:=h;obtain⟨x,rr,rfl,_,hr⟩:=r;cases (show rr=[] from hr)
  rfl
 ·obtain⟨ds,r,c,rfl,q⟩:=h;obtain⟨x,rr,rfl,hx,Kc⟩:=r;cases (show rr=[] from Kc)
  cases (show x=V.int c from hx)
  refine⟨_,d7 (f7 (oE (a6 (eR (nI rfl) (by rfl) B.max tM (a6 aY (a6 (bY y_ (pv 0) (bY za aY aY)) cy)))
   (a6 (bY gc (pv 0) aY) (a6 aY cy))))),?_⟩
  refine⟨_,rfl,_,_,rfl,rfl,Jq,_,_,rfl,rfl,_,_,rfl,?_⟩;refine⟨_,rfl,_,_,rfl,rfl,(by show (0:Int)<2147483629;decide),(by show 3<=UW;decide),λp hp=>?_⟩
  refine q [_,_,_] ⟨_,_,_,rfl,?_⟩ _ _ (aw.new hp) ⟨[p],⟨p,_,[],rfl,ao,rfl,qa [_,_,_]⟩,by simp,λc hc=>by rw[UX.mp hc];exact hp⟩
  split <;> lia
theorem dW:aG ["deck","many","digit","stir"] ["deck","many"] (ak dz):=⟨rfl,rfl,rfl,by decide +kernel,rfl,by decide +kernel,by decide +kernel⟩
theorem oJ {f:Addr} {fd:Vs} (F:AX K "_law_take" "_law_take" dz f fd):aL P w K mg base bS 1 f fd ["deck","many"] (me P w l6 true bR):=by
 refine F.ok dW (λvs H Q E h=>?_) (λb7 A outer s H vs Q E hr h=>?_)
 ·obtain⟨h,vs',ds,ns,rfl,_,_,r,n,rfl,_⟩:=h;obtain⟨x,rr,rfl,_,hr⟩:=r;cases (show rr=[] from hr)
  rfl
 ·obtain⟨h,vs',ds,ns,rfl,e,⟨x,y,z,rfl,x0⟩,r,n,rfl,n0,n1,q⟩:=h;obtain⟨x',rr,rfl,HZ,Kc⟩:=r;cases (show rr=[] from Kc)
  cases (show x'=V.int n from HZ)
  have hx:H h=some (.lst [.int x,.int y,.int z]):=e;refine⟨_,bX (sA (bY oI (gL cS (pv 0) aY (λ_ _=>rfl)) aY) (yQ (pv 0) aY set_list))
   (bX (yC (oq zb (gL cS (pv 0) aY (λ_ _=>rfl)) aY (zj _))
    (bX (gW (i:=2) dW.nd rfl (Or.inl rfl) (bY gc (gL cS (pv 0) aY (λ_ _=>rfl)) aY))
    (bX (sA (bY qc (gL cS (pv 0) aY (λ_ _=>rfl)) aY) (yQ (pv 0) aY set_list))
    (d7 (f7 (bY gc (pv 2) (pv 1)))))) ot)
   (bX (gW (i:=3) dW.nd rfl (Or.inl rfl) (bY gc (bY jf (bY oI (gL cS (pv 0) aY (λ_ _=>rfl)) (bY jf aY (gL cS (pv 0) aY (λ_ _=>rfl)))) aY) aY))
   (bX (gW (i:=3) dW.nd rfl (Or.inl rfl) (bY gc (bY jf (pv 3) (pv 3)) aY))
   (d7 (f7 (bY gc (bY qc (bY gc (bY jf (bY oI (pv 3) (bY jf aY (gL cS (pv 0) aY (λ_ _=>rfl)))) aY) aY) aY) (pv 1))))))),?_⟩
  refine⟨_,rfl,h,_,_,_,rfl,rfl,dO.of hx,rfl,_,_,rfl,rfl,?_⟩;refine⟨_,rfl,h,_,_,2,rfl,rfl,hx,rfl,?_⟩;have hy:upd H h (.lst ([V.int x,V.int y,V.int z].set 2 (V.int (z+1)))) h=some (.lst [V.int x,V.int y,V.int (z+1)]):=ao;refine⟨_,rfl,h,_,_,_,rfl,rfl,dO.of hy,rfl,_,_,rfl,rfl,_,rfl,?_⟩;refine NR (λhp=>?_) (λhp=>?_)
  ·refine⟨_,rfl,h,_,_,_,rfl,rfl,dO.of hy,rfl,_,_,rfl,rfl,(by show (0:Int)<65536;decide),?_⟩
   refine⟨_,rfl,h,_,_,_,rfl,rfl,dO.of hy,rfl,_,_,rfl,rfl,rG.of (by decide) (by decide),?_⟩
   refine⟨_,rfl,h,_,_,0,rfl,rfl,hy,rfl,?_⟩;have m:=oP (a:=x % 65536) n0;exact⟨_,rfl,_,rfl,_,_,rfl,rfl,n0,q _ m.1 m.2 _ _ [x / 65536,y,z+1] ((su hx).trans (su hy)) (λc hc=>sv c (sv c hc)) ao ⟨_,_,_,rfl,Int.ediv_nonneg x0 (by decide)⟩ uE⟩
  ·refine⟨_,rfl,h,_,_,_,rfl,rfl,dO.of hy,rfl,_,rfl,h,_,_,_,rfl,rfl,dO.of hy,rfl,_,_,rfl,rfl,.inl ⟨by decide,by decide⟩,_,_,rfl,rfl,_,_,rfl,rfl,.inr ⟨by decide,by decide⟩,_,_,rfl,rfl,(by show (0:Int)<2147483647;decide),?_⟩
   have m1:=oP (a:=(y+7919*(z+1))*48271) (b:=2147483647) (by decide)
   refine⟨_,rfl,_,rfl,_,_,rfl,rfl,.inl ⟨Int.lt_of_lt_of_le (by decide) m1.1,Int.lt_trans m1.2 (by decide)⟩,_,_,rfl,rfl,(by show (0:Int)<2147483629;decide),?_⟩
   refine⟨_,rfl,_,rfl,h,_,_,_,rfl,rfl,dO.of hy,rfl,_,_,rfl,rfl,.inl ⟨by decide,by decide⟩,_,_,rfl,rfl,_,_,rfl,rfl,.inr ⟨by decide,by decide⟩,_,_,rfl,rfl,(by show (0:Int)<2147483563;decide),_,_,rfl,rfl,rG.of (by decide) (by decide),_,rfl,_,_,rfl,rfl,n0,?_⟩
   have m:=λa:Int=>oP (a:=a) n0;exact q _ (m _).1 (m _).2 _ _ [x,y,z+1] (su hx) sv ao ⟨_,_,_,rfl,x0⟩ uE
end
end hG
namespace L2
open PySem PySem.Spec PyProof.Rows
section
variable {κ:Type}[DecidableEq κ]
def fM (kvs:List (κ×V))(k:κ):Option V:=(kvs.find? λkv=>decide (kv.1=k)).map (·.2)
def putK (kvs:List (κ×V))(k:κ)(v:V):List (κ×V) :=
 if (kvs.any λkv=>decide (kv.1=k))=true then kvs.map (λkv=>if kv.1=k then (kv.1,v) else kv) else kvs++[(k,v)]
theorem kB {p:κ×V}{r:List (κ×V)}{k:κ}(e:p.1=k):fM (p::r) k=some p.2:=by simp[fM,We,e]
theorem kG {p:κ×V}{r:List (κ×V)}{k:κ}(e:¬ p.1=k):fM (p::r) k=fM r k:=by simp[fM,We,e]
theorem kJ (k:κ):∀kvs:List (κ×V),(kvs.any λkv=>decide (kv.1=k))=(fM kvs k).isSome
 |[]=>rfl
 |p::r=>by
  rw[YD]
  by_cases e:p.1=k
  ·simp only[kB e,decide_eq_true e,Bool.true_or,Option.isSome_some]
  ·rw[kG e,decide_eq_false e,Bool.false_or];exact kJ k r
theorem jQ (kvs:List (κ×V))(k:κ)(v:V):(putK kvs k v).length<=kvs.length+1:=by
 unfold putK
 split
 ·rw[UN];lia
 ·rw[Vr,U7,XW];lia
theorem yx {kvs:List (κ×V)}{k:κ}(v:V)(h:fM kvs k=none):putK kvs k v=kvs++[(k,v)]:=by
 unfold putK;rw[kJ,h];exact if_neg (by decide)
theorem l4.wK {o:Option V}{u:Option UK}(r:l4 o u):o.isSome=u.isSome:=by
 cases o with
 |none=>cases u with
  |none=>rfl
  |some _=>exact(show False from r).elim
 |some _=>cases u with
  |none=>exact(show False from r).elim
  |some _=>rfl
theorem KV.val {kvs:List (κ×V)}{vs:List (κ×UK)}(r:KV kvs vs)(k:κ):l4 (fM kvs k) (YJ vs k):=by
 unfold KV at r
 induction r with
 |nil=>exact Xn
 | @cons p q ps qs h t ih =>
  obtain⟨h1,h2⟩:=h
  by_cases e:p.1=k
  ·have e':q.1=k:=h1.symm.trans e;have b:YJ (q::qs) k=some q.2:=by simp[YJ,We,e']
   rw[kB e,b];exact h2
  ·have e':¬ q.1=k:=λz=>e (h1.trans z);have b:YJ (q::qs) k=YJ qs k:=by simp[YJ,We,e']
   rw[kG e,b];exact ih
theorem KV.any {kvs:List (κ×V)}{vs:List (κ×UK)}(r:KV kvs vs)(k:κ):(kvs.any λkv=>decide (kv.1=k))=vs.any λkv=>decide (kv.1=k):=by
 unfold KV at r
 induction r with
 |nil=>rfl
 |cons h t ih=>rw[YD,YD,ih,h.1]
theorem KV.Fw {kvs:List (κ×V)}{vs:List (κ×UK)}(r:KV kvs vs)(k:κ){y:V}{u:UK}(ry:RelV y u):
  KV (kvs.map λkv=>if kv.1=k then (kv.1,y) else kv) (vs.map λkv=>if kv.1=k then (kv.1,u) else kv):=by
 unfold KV at r ⊢
 induction r with
 |nil=>exact .nil
 | @cons p q ps qs h t ih =>
  rw[Vd,Vd];refine .cons ?_ ih;obtain⟨h1,h2⟩:=h
  by_cases e:p.1=k
  ·rw[if_pos e,if_pos (h1.symm.trans e)];exact⟨h1,ry⟩
  ·rw[if_neg e,if_neg (λz=>e (h1.trans z))];exact⟨h1,h2⟩
theorem KV.put {kvs:List (κ×V)}{vs:List (κ×UK)}(r:KV kvs vs)(k:κ){y:V}{u:UK}(ry:RelV y u):KV (putK kvs k y) (stored vs k u):=by
 unfold putK stored;rw[r.any k]
 by_cases e:(vs.any λkv=>decide (kv.1=k))=true
 ·rw[if_pos e,if_pos e];exact r.Fw k ry
 ·rw[if_neg e,if_neg e];exact Paired.snoc r ⟨rfl,ry⟩
theorem KV.length {kvs:List (κ×V)}{vs:List (κ×UK)}(r:KV kvs vs):kvs.length=vs.length:=Paired.length r
end
theorem zG {P:UP}{w:U1}{k:Key}{u:UK}(r:RelV (kV k) u):(bO P w).is k u=true:=by
 cases k with
 |inl i=>obtain⟨t,e⟩:=(show ∃t,u=Value.int i t from r);subst e;exact qj P w i t
 |inr x=>obtain⟨t,e⟩:=(show ∃t,u=Value.str x t from r);subst e;exact qi P w x t
theorem nj {P:UP}{w:U1}:∀{ks:List Key} {us:List UK},Vals (ks.map kV) us->ItemsAre (bO P w) ks us
 |[],_,r=>by rw[X3]at r;cases r;exact .nil
 |k::ks,_,r=>by
  rw[Vd]at r;cases r with
  |cons h t=>exact .cons (zG h) (nj t)
abbrev KT (H:Hp):List (List Key×V)->List (List Key×Addr×UK)->Prop:=Paired λp q=>p.1=q.1/\H q.2.1=some (.tup (p.1.map kV))/\RelV p.2 q.2.2
theorem KT.val {H:Hp}{kvs:List (List Key×V)}{xs:List (List Key×Addr×UK)}(r:KT H kvs xs)(k:List Key):l4 (fM kvs k) ((Y8 xs k).map (·.2)):=by
 induction r with
 |nil=>exact Xn
 | @cons p q ps qs h t ih =>
  obtain⟨h1,_,h2⟩:=h
  by_cases e:p.1=k
  ·have e':q.1=k:=h1.symm.trans e;have b:Y8 (q::qs) k=some q.2:=by simp[Y8,We,e']
   rw[kB e,b];exact h2
  ·have e':¬ q.1=k:=λz=>e (h1.trans z);have b:Y8 (q::qs) k=Y8 qs k:=by simp[Y8,We,e']
   rw[kG e,b];exact ih
theorem KT.Fw {H:Hp}{kvs:List (List Key×V)}{xs:List (List Key×Addr×UK)}(r:KT H kvs xs)(k:List Key){y:V}{u:UK}(ry:RelV y u):
  KT H (kvs.map λkv=>if kv.1=k then (kv.1,y) else kv) (xs.map (putAt k u)):=by
 induction r with
 |nil=>exact .nil
 | @cons p q ps qs h t ih =>
  rw[Vd,Vd];refine .cons ?_ ih;obtain⟨h1,h2,h3⟩:=h;unfold putAt
  by_cases e:p.1=k
  ·rw[if_pos e,if_pos (h1.symm.trans e)];exact⟨h1,h2,ry⟩
  ·rw[if_neg e,if_neg (λz=>e (h1.trans z))];exact⟨h1,h2,h3⟩
theorem KT.put {H:Hp}{kvs:List (List Key×V)}{xs:List (List Key×Addr×UK)}(r:KT H kvs xs)(k:List Key){b:Addr}{y:V}{u:UK}(hb:H b=some (.tup (k.map kV)))(ry:RelV y u):
  KT H (putK kvs k y) (storedH xs k b u):=by
 have e:(kvs.any λkv=>decide (kv.1=k))=(Y8 xs k).isSome:=by
  rw[kJ,(r.val k).wK,Option.isSome_map]
 unfold putK storedH;rw[e]
 by_cases q:(Y8 xs k).isSome=true
 ·rw[if_pos q,if_pos q];exact r.Fw k ry
 ·rw[if_neg q,if_neg q];exact Paired.snoc r ⟨rfl,hb,ry⟩
theorem KT.keeps {H H':Hp}{kvs:List (List Key×V)}{xs:List (List Key×Addr×UK)}(r:KT H kvs xs)(ht:∀b ys,H b=some (.tup ys)->H' b=some (.tup ys)):KT H' kvs xs :=
 Paired.Gg r λ_ _ z=>⟨z.1,ht _ _ z.2.1,z.2.2⟩
section
variable {P:UP}{w:U1}{H:Hp}{h:Heap}{a:Addr}
theorem DT {u:HO}(ok:fL P w H h)(e:Rd H a u):bu P w H h a u:=e.ok ok
theorem Al {kvs:List (Key×V)}(ok:fL P w H h)(e:Rd H a (.dK kvs)):kvs.length<=UW/\(a==Wy)=false/\∃vs,KV kvs vs/\h.DictOf (bO P w) a vs :=
 show bu P w H h a (.dK kvs) from DT ok e
theorem Ly {kvs:List (Key×V)}(ok:fL P w H h)(e:H a=some (.dK kvs)):kvs.length<=UW/\(a==Wy)=false/\∃vs,KV kvs vs/\h.DictOf (bO P w) a vs:=Al ok (.inl e)
theorem sO {ks:List Key}(ok:fL P w H h)(e:H a=some (.tup (ks.map kV))):(Yy (bO P w)).is h ks a:=by
 obtain⟨_,its,r,o,h1,h2,n,h3⟩:=(show bu P w H h a (.tup (ks.map kV)) from ok a _ e)
 exact⟨o,its.toArray,n,h1,h2,h3,by simpa using nj r⟩
theorem Ai {kvs:List (List Key×V)}(ok:fL P w H h)(e:Rd H a (.dT kvs)):kvs.length<=UW/\(a==Wy)=false /\
  ∃xs,KT H kvs xs/\h.DictOfH (Yy (bO P w)) a xs:=by
 obtain⟨z,y,xs,r,o,es,ep,h1,h2,h3,h4,h5⟩:=(show bu P w H h a (.dT kvs) from DT ok e)
 refine⟨z,y,xs,r,o,es,ep,h1,h2,h3,h4,λx hx=>?_,h5⟩;have all:∀{l:List (List Key×V)} {m:List (List Key×Addr×UK)},KT H l m->∀x∈m,(Yy (bO P w)).is h x.1 x.2.1:=by
  intro l m q
  induction q with
  |nil=>intro x hx;exact nomatch hx
  | @cons p q ps qs hq t ih =>
   intro x hx;rcases UQ.mp hx with e|hx
   ·subst e;exact sO ok (by rw[<- hq.1];exact hq.2.1)
   ·exact ih x hx
 exact all r x hx
theorem Lx {kvs:List (List Key×V)}(ok:fL P w H h)(e:H a=some (.dT kvs)):kvs.length<=UW/\(a==Wy)=false /\
  ∃xs,KT H kvs xs/\h.DictOfH (Yy (bO P w)) a xs:=Ai ok (.inl e)
end
def xq (H:Hp)(a:Addr)(y:V)(r:Option V):Prop :=
 (∃kvs k,Rd H a (.dK kvs)/\y=kV k/\r=fM kvs k)\/∃kvs k b,Rd H a (.dT kvs)/\y=.ref b/\H b=some (.tup (k.map kV))/\r=fM kvs k
def LS (H:Hp)(a:Addr)(y v:V)(H':Hp):Prop :=
 (∃kvs k,H a=some (.dK kvs)/\y=kV k/\kvs.length<UW/\H'=upd H a (.dK (putK kvs k v))) \/
 ∃kvs k b,H a=some (.dT kvs)/\y=.ref b/\H b=some (.tup (k.map kV))/\kvs.length<UW/\H'=upd H a (.dT (putK kvs k v))
theorem xq.t {H:Hp}{a b:Addr}{kvs:List (List Key×V)}{k:List Key}(e:H a=some (.dT kvs))(eb:H b=some (.tup (k.map kV))):xq H a (.ref b) (fM kvs k):=.inr ⟨kvs,k,b,.inl e,rfl,eb,rfl⟩
section
variable {X:Cx}{pins:List (Addr×Obj)}{σ:St}{H:Hp}{s:UL}{a:Addr}{y v:V}{u r:UK}{o:Option V}{A:VO}{E:UK->UL->Prop}
theorem Inv.big (I:Inv X pins σ H s):Wy<s.heap.objs.size:=by
 have h:Wh<s.heap.objs.size:=(I.mod.glob.keeps I.bk).lt;exact Nat.lt_trans (by decide) h
theorem w9 {Q:UK->UL->Prop}(hu:A.units+1<X7)(I:Inv X pins σ H s)(g:xq H a y (some v))(ry:RelV y u)(h:∀w' s',Inv X pins σ H s'->RelV v w'->Q w' s'):
  Vp (model X.prog X.w) A (getItem (.ref a) u) Q E s:=by
 rcases g with⟨kvs,k,e,ey,l⟩|⟨kvs,k,b,e,ey,eb,l⟩
 ·subst ey;obtain⟨z,hd,vs,rel,dd⟩:=Al I.bo e;obtain⟨w',hw,A7⟩:=l4.some_of (v:=v) (o:=YJ vs k) (by rw[l];exact rel.val k)
  exact wpAny_getItem_of (zG ry) dd.mapOf hw (h w' _ (I.tok _) A7)
 ·subst ey;cases (show u=Value.ref b from ry)
  obtain⟨z,hd,xs,rel,dd⟩:=Ai I.bo e;obtain⟨w',hw,A7⟩:=l4.some_of (v:=v) (o:=(Y8 xs k).map (·.2)) (by rw[l];exact rel.val k)
  obtain⟨p,hp,Mp⟩:=U3.mp hw;refine wpAny_getItem_heap (tupleKind_room_in1 hu) (sO I.bo eb) dd hp ?_;rw[Mp];exact h w' _ (I.tok _) A7
theorem ve {h':Heap}{t':Nat}{ob:HO}(I:Inv X pins σ H s)(mu:LP (H a))(hs:X4 a s.heap h')(he:∃q,h'.get? a=some q)(new:bu X.prog X.w (upd H a ob) h' a ob):
  Inv X pins σ (upd H a ob) {s with heap:=h',toks:=t'} :=
 I.write (x:=a) (e:=a) mu (.inl rfl) (λb q hb z=>(hs.2 b hb).trans z) he new
theorem Ho {P:UP}{w:U1}{H':Hp}{h':Heap}{kvs:List (Key×V)}{vs:List (Key×UK)}(z:kvs.length<=UW)(hd:(a==Wy)=false)(rel:KV kvs vs)(dd:h'.DictOf (bO P w) a vs):
  bu P w H' h' a (.dK kvs):=⟨z,hd,vs,rel,dd⟩
theorem w6 {H':Hp}{Q:Unit->UL->Prop}(hu:A.units+1<X7)(I:Inv X pins σ H s)(g:LS H a y v H')(ry:RelV y u)(rv:RelV v r)(h:∀s',Inv X pins σ H' s'->Q () s'):
  Vp (model X.prog X.w) A (setItem (.ref a) u r) Q E s:=by
 rcases g with⟨kvs,k,e,ey,l,eH⟩|⟨kvs,k,b,e,ey,eb,l,eH⟩
 ·subst ey eH;obtain⟨z,hd,vs,rel,dd⟩:=Ly I.bo e;have hz:vs.length<=UW:=by rw[<- rel.length];exact z
  have hl:(putK kvs k v).length<=UW:=by have:=jQ kvs k v;lia
  refine wpAny_setItem_pairs (hsz:=hz) (zG ry) dd λh' MB hs=>h _ ?_;have he:∃q,h'.get? a=some q:=let ⟨q,_,_,hq,_⟩:=MB;⟨q,hq⟩
  exact ve I (by rw[e];exact Xn) hs he (Ho hl hd (rel.put k rv) MB)
 ·subst ey eH;cases (show u=Value.ref b from ry)
  obtain⟨z,hd,xs,rel,dd⟩:=Lx I.bo e;have hz:xs.length<=UW:=by rw[<- Paired.length rel];exact z
  have hl:(putK kvs k v).length<=UW:=by have:=jQ kvs k v;lia
  refine wpAny_setItem_heap (hsz:=hz) (tupleKind_room_in1 hu) (sO I.bo eb) dd λh' MB hs=>h _ ?_;obtain⟨q,es,ep,hq,h2,h3,h4,_,h5⟩:=MB;refine ve I (by rw[e];exact Xn) hs ⟨q,hq⟩ ⟨hl,hd,_,(rel.put k eb rv).keeps λc ys ec=>?_,q,es,ep,hq,h2,h3,h4,h5⟩
  rw[az (Ea ec e (λz=>nomatch z))];exact ec
end
section
end
theorem qY {X:Cx} {pins:List (Addr×Obj)} {σ:St} {H:Hp} {s:UL} {a:Addr} {y:V} {o:Option V} (I:Inv X pins σ H s) (g:xq H a y o):s.TypeIs (.ref a) "dict" := by
 rcases g with⟨kvs,k,e,_,_⟩|⟨kvs,k,b,e,_,_,_⟩
 ·obtain⟨_,_,vs,_,dd⟩:=Al I.bo e;exact dd.typeIs
 ·obtain⟨_,_,xs,_,dd⟩:=Ai I.bo e;exact dd.typeIs
def I9 (td ty tv:TE):TS:=λD σ H=>tv σ H λv H1=>td σ H1 λx H2=>ty σ H2 λy H3=>∃a H4,x=.ref a/\LS H3 a y v H4/\D.nx σ H4
section
variable {X:Cx}{o i value:Expr}{pos pos':Pos}{td ty tv:TE}
theorem ui (hu:X.A.units+1<X7)(ho:PE X o td)(hi:PE X i ty)(hv:PE X value tv)(hs:Wf value (some (.Subscript o i pos')) pos.line X.env=pure false):
  PS X (.Assign [.Subscript o i pos'] value pos) (I9 td ty tv):=by
 intro pins s σ H D I h;refine wpAny_Assign_Subscript (bw (hv pins s σ H _ I h) λr s1 ⟨v,H1,I1,rv,q1⟩=>bw (ho pins s1 σ H1 _ I1 q1) λu s2 ⟨x,H2,I2,rx,q2⟩=>bw (hi pins s2 σ H2 _ I2 q2) λiv s3 ⟨y,H3,I3,ry,a,H4,ex,g,q3⟩=>?_) hs;subst ex;obtain rfl:u=Value.ref a:=rx;exact w6 hu I3 g ry rv λs4 I4=>⟨σ,H4,I4,q3⟩
end
theorem Aj {P:UP}{w:U1}{H:Hp}(h:Heap)(hb:Wy<h.objs.size):bu P w H (h.push {cls:=.type "dict",data:=.dict #[]}) h.objs.size (.dT []) :=
 ⟨U4 _,beq_eq_false_iff_ne.mpr (W7 (VN hb)),[],.nil,_,#[],0,VF _ rfl,⟨rfl,rfl,rfl⟩,rfl,rfl,VY⟩
def E9:TE:=λ_ H Q=>∀p,H p=none->Q (.ref p) (upd H p (.dT []))
section
variable {X:Cx}{pos:Pos}
theorem pZ:PE X (.Dict [] [] pos) E9:=λpins s σ H Q I h =>
 wpAny_Dict_empty ⟨.ref s.heap.objs.size,_,I.laid (a:=s.heap.objs.size) (o:=.dT []) (t':=s.toks) (λ_ _ q=>U5 _ q) (UO _) (Aj s.heap I.big),rfl,h _ (I.bo.fresh (UO _))⟩
end
section
end
section
end
section
end
section
end
section
end
section
variable {κ:Type}[DecidableEq κ]
end
end L2
namespace L2.Q
open PySem PySem.Spec PySem.SeqAt PyProof.Rows
theorem _root_.L2.ck.eC {k:Nat}{A:VO}(r:ck k A):A.units+1<X7:=by have:=r.un;lia
def iK (t:List Int):List Key:=t.map Yz
theorem zM {t u:List Int}(h:iK t=iK u):t=u:=by
 unfold iK at h
 induction t generalizing u with
 |nil=>cases u with|nil=>rfl|cons _ _=>cases h
 |cons a t ih =>
  cases u with
  |nil=>cases h
  |cons b u =>
   rw[Vd,Vd]at h;injection h with h1 h2
   injection h1 with h1
   rw[h1,ih h2]
theorem uO (t:List Int):(iK t).map kV=t.map V.int:=by
 unfold iK;rw[VB];rfl
def dP (ts:List (List Int))(b:Bool):D:=.dT (ts.map iK) (Vg ts.length (.bl b))
def rB (ts:List (List Int))(t:List Int):List (List Int):=if t∈ts then ts else ts++[t]
theorem om {v:V}:∀{ks:List (List Key)} {n:Nat},ks.length=n->ks.zip (Vg n v)=ks.map λk=>(k,v)
 |[],_,_=>by simp
 |k::ks,0,h=>by cases h
 |k::ks,n+1,h=>by
  rw[Wa,Wt,om (X1 h)];rfl
theorem BK {v:V}{ts:List (List Int)}{t:List Int}:putK ((ts.map iK).map λk=>(k,v)) (iK t) v=((rB ts t).map iK).map λk=>(k,v):=by
 unfold putK rB;have any:(((ts.map iK).map λk=>(k,v)).any λkv=>decide (kv.1=iK t))=decide (t∈ts):=by
  rw[Bool.eq_iff_iff,List.any_eq_true,decide_eq_true_eq];constructor
  ·rintro⟨kv,h1,h2⟩;obtain⟨k,h3,rfl⟩:=Vv.mp h1;obtain⟨u,h4,rfl⟩:=Vv.mp h3;have:=zM (of_decide_eq_true h2);rw[<- this];exact h4
  ·intro h;exact⟨(iK t,v),Vv.mpr ⟨iK t,Vv.mpr ⟨t,h,rfl⟩,rfl⟩,by simp⟩
 rw[any]
 by_cases h:t∈ts
 ·rw[if_pos (by simpa using h),if_pos h,VB]
  refine VR λk _=>?_;show (if k=iK t then (k,v) else (k,v))=(k,v)
  split <;> rfl
 ·rw[if_neg (by simpa using h),if_neg h,Vb,Vb]
  rfl
section
variable {P:UP}{w:U1}{H:Hp}{a:Addr}
theorem uA {b:Bool}:∀{n:Nat},aK P w H (Vg n (.bl b)) (Vg n (V.bl b)) []
 |0=>⟨rfl,rfl⟩
 |n+1=>⟨_,_,[],[],rfl,rfl,⟨rfl,rfl⟩,uA⟩
theorem vo {b:Bool}:∀{n:Nat} {vs:List V} {A:List Addr},aK P w H (Vg n (.bl b)) vs A->vs=Vg n (V.bl b)/\A=[]
 |0,_,_,h=>h
 |n+1,_,_,⟨v,r,A1,A2,e,eA,h1,h2⟩=>by
  obtain⟨e1,e2⟩:=h1;obtain⟨e3,e4⟩:=vo h2;rw[e,eA,e1,e2,e3,e4];exact⟨rfl,rfl⟩
theorem yY {ts:List (List Int)}{b:Bool}(h:H a=some (.dT ((ts.map iK).map λk=>(k,V.bl b)))):Own P w H (dP ts b) (.ref a) [a] :=
 ⟨a,Vg ts.length (V.bl b),[],rfl,by rw[om (by simp)];exact h,by simp,rfl,uA⟩
theorem Hr {ts:List (List Int)}{b:Bool}{v:V}{A:List Addr}(h:Own P w H (dP ts b) v A):∃a,v=.ref a/\A=[a]/\H a=some (.dT ((ts.map iK).map λk=>(k,V.bl b))):=by
 obtain⟨a,vs,A',e,h1,l,eA,h2⟩:=h;obtain⟨e3,e4⟩:=vo h2;rw[e3,om (by simp)]at h1
 exact⟨a,e,by rw[eA,e4],h1⟩
end
section
variable {X:Cx}{C:Cfg}{k:Expr}{φk:aQ}{i:Nat}{x:Str}{pos pos' px pc:Pos}{b:Bool}
theorem BU (b:Bool):PQ X C true (.Dict [] [] pos) (λβ R=>R (dP [] b) .own β) :=
 ⟨λβ R R' k h=>k _ _ _ h,pZ.pre λσ H Q h p hp=>by
  obtain⟨β,own,s,q⟩:=h;refine q _ _ own ((Out.refl s _).same (aw.new hp)) ⟨[p],yY ao,by simp,λc hc=>?_⟩
  rw[UX.mp hc];exact⟨hp,λz=>s.pq p z hp,Vw λz=>s.fP p z hp⟩⟩
theorem ke {j}(hu:X.A.units+1<X7)(hk:PQ X C.z true k φk)(hN:X.N[i]?=some x:=by rfl)(hv:rM X.env.scope x:=by first|exact .inl rfl|exact .inr (.inl rfl)|exact .inr (.inr rfl))(hd:(x==("__debug__" : Str))=false:=by decide)(fH:(x==("__classdict__" : Str))=false:=by decide)
  (hs:Wf (.Constant (.bool b) j pc) (some (.Subscript (.Name x px) k pos')) pos.line X.env=pure false:=by rfl) :
  PB X C (.Assign [.Subscript (.Name x px) k pos'] (.Constant (.bool b) j pc) pos) (λE β=>(∃ts,β[i]?=some (some (.own (dP ts b))))/\φk β λjd _ β2=>∃ts t,jd=kD t/\β2[i]?=some (some (.own (dP ts b)))/\ts.length<UW/\E.nx (β2.set i (some (.own (dP (rB ts t) b))))):=by
 refine⟨λE E' β l h=>⟨h.1,hk.mono _ _ _ (λjd _ β2 h=>by obtain⟨ts,t,h1,h2,h3,q⟩:=h;exact⟨ts,t,h1,h2,h3,l.nx _ q⟩) h.2⟩,(ui hu (cL (pos:=px) hN hv hd fH) hk.pe (yT (j:=j) (pos:=pc)) hs).pre λDe σ H h=>?_⟩
 obtain⟨Z,E,β,⟨own,s0,n⟩,⟨⟨T8,Ig⟩,q⟩,ok⟩:=h;obtain⟨v0,xx,RL,_⟩:=s0.ow i _ Ig;refine⟨v0,xx,tQ.of hk s0 q λjd kk β2 v H1 aB h o r=>?_⟩;obtain⟨ts,t,e1,hb,hl,q⟩:=h;subst e1;obtain⟨v1,Em,ow,h0⟩:=o.sq.ow i _ hb;rw[xx]at Em;cases Em;obtain⟨a,rfl,eA,ha⟩:=Hr ow;obtain⟨p,vs,rfl,hp,rv⟩:=r.rep;have ev:vs=(iK t).map kV:=by
  rw[uO];have key:∀(t:List Int) (vs:List V),ai X.prog X.w (av C.z (Wn aB) kk) H1 (t.map D.int) vs->vs=t.map V.int:=λt=>by
   induction t with
   |nil=>intro vs h;exact h
   |cons y t ih =>
    intro vs h;obtain⟨z,r',e1,e2,e3⟩:=h;rw[e1,ih r' e3,show z=V.int y from e2]
    rfl
  exact key t vs rv
 have En:a∈aB i:=by rw[eA];simp
 refine⟨a,_,rfl,.inr ⟨_,iK t,p,ha,rfl,by rw[<- ev];exact hp,by rw[UN,UN];exact hl,rfl⟩,?_⟩
 have hA:∀c∈[a],c∈aB i\/(C.H0 c=none/\¬ Wn aB c/\(λ_=>False) c):=λc hc=>.inl (by rw[UX.mp hc];exact En)
 have r':Own X.prog X.w (upd H1 a (.dT (putK ((ts.map iK).map λk=>(k,V.bl b)) (iK t) (V.bl b)))) (dP (rB ts t) b) (.ref a) [a]:=yY (by rw[BK];exact ao)
 exact ok.nx _ _ _ ⟨_,o.sq.BL (C:=C) (U:=λ_=>False) (U2:=λ_=>False) hb xx En r' (by simp) hA (λ_ z=>z) (λ_ _ z=>z),kU (C:=C) (n.trans o.sn) (λ_ z=>z.elim) ⟨i,En⟩ ⟨_,ha,λxs z=>by cases z⟩ hA⟩ q
end
end L2.Q
namespace Dk
open PySem PySem.Spec PyProof.Rows
def At (h:Heap)(d:Addr)(es:Array XH)(ep:Nat):Prop:=∃o,h.get? d=some o/\o.ExactDict/\o.data=.dict es ep
theorem At.at' {h h':Heap}{d:Addr}{es:Array XH}{ep:Nat}(x:At h d es ep)(e:∀o,h.get? d=some o->h'.get? d=some o):At h' d es ep:=by
 obtain⟨o,h1,r⟩:=x;exact⟨o,e _ h1,r⟩
theorem At.lt {h:Heap}{d:Addr}{es:Array XH}{ep:Nat}(x:At h d es ep):d<h.objs.size:=by
 obtain⟨o,h1,_⟩:=x;exact U_ h1
theorem At.typeIs {s:UL} {d:Addr} {es:Array XH} {ep:Nat} (x:At s.heap d es ep):s.TypeIs (.ref d) "dict" := by
 obtain⟨o,h1,h2,_⟩:=x;exact⟨o,h1,h2.1⟩
section
variable {prog:UP}{w:U1}{A:VO}{E:UK->UL->Prop}{s:UL}{d it:Addr}{es:Array XH}{i ep:Nat}
theorem wI {Q:UK->UL->Prop}(hd:(d==Wy)=false)(hm:At s.heap d es ep)
  (hQ:Q (.ref s.heap.objs.size) {s with heap:=s.heap.push {cls:=.type "dict_keyiterator",data:=.fields #[.ref d,.int 0 0,.int es.size 0,.int ep 0]}}):Vp (model prog w) A (Y6 (.ref d)) Q E s:=by
 have hT:=hm.typeIs;obtain⟨o,ho,hc,Lm⟩:=id hm;refine wpAny_pyIter_slot hT F.slot_dict_iter (Yk F.slot_dict_iter hT F.entry_dict_iter ?_ (F.args_dict_iter_1 _));unfold Xj.«dict.__iter__»
 refine UM ?_;unfold Builtin.Dict.dictSlotNone;refine UM (wpAny_notOrdered_dict hT ?_);show Vp _ _ (pure (Value.ref d)) _ _ s;refine U6 ?_;show Vp _ _ (Builtin.Dict.showsAll d >>= _) _ _ s;unfold Builtin.Dict.showsAll;rw[if_neg (by rw[hd];exact VX)]
 refine UM (U6 ?_);refine UM (YI ho Lm ?_);refine UM (YY ho Lm ?_);refine UM (X_ (U6 ⟨_,rfl,"dict_keyiterator",_,⟨_,VF _ rfl,rfl⟩,F.slot_dict_keyiterator_next.lookup,?_⟩));simpa[rawInt] using hQ
theorem next_item {Q:Option UK->UL->Prop}(hit:s.heap.IsKeyIter it d i es.size ep)(hm:At s.heap d es ep)(OC:i<es.size)
  (hQ:∀h',h'.IsKeyIter it d (i+1) es.size ep->X4 it s.heap h'->Q (some es[i].key) {s with heap:=h'}):Vp (model prog w) A (Y5 (.ref it)) Q E s:=by
 obtain⟨o,ho,hc,hd⟩:=id hit;obtain⟨od,La,fH,Ll⟩:=id hm;unfold Y5;refine UM (Yd (wpAny_callSpecial?_slot (name:=Str.ofString "__next__") hit.typeIs F.slot_dict_keyiterator_next
  (Yk F.slot_dict_keyiterator_next hit.typeIs F.entry_dict_keyiterator_next ?_ (F.args_dict_keyiterator_next_1 _))))
 refine UM (U6 ?_);refine UM ?_;refine UM ?_
 first|refine UM (WG hit.typeIs (U6 ?_))|refine UM (W_ hit.typeIs (U6 ?_))
 refine UM (wpAny_fieldsOf ho hd ?_);have G4:Y1 "dict_keyiterator" = false:=by decide
 simp only[G4,WL,if_false];show Vp _ _ (if (Value.ref d==Value.none)=true then _ else _) _ _ s
 rw[if_neg (show ¬ ((Value.ref d==Value.none)=true) from VX)]
 refine UM (U6 ?_);refine UM (YI La Ll ?_);rw[if_neg (by simp)]
 refine UM (U6 ?_);refine UM (YY La Ll ?_);rw[if_neg (by simp)]
 refine U6 ?_;simp only[show ¬ ((i:Int)<0) from by lia,if_false,Xy,Array.getElem?_eq_getElem OC]
 refine UM ?_
 first|refine UM (WG hit.typeIs (U6 ?_))|refine UM (W_ hit.typeIs (U6 ?_))
 refine UM (wpAny_isOneOf_keyiter hit.typeIs ?_);show Vp _ _ (setField (.ref it) 1 (rawInt ((i:Int)+1)) >>= _) _ _ s;refine UM (wpAny_setField ho hd (by simp) ?_)
 have CT:(s.heap.update it (Obj.mapFields (·.setIfInBounds 1 (rawInt ((i:Int)+1))))).IsKeyIter it d (i+1) es.size ep :=
  ⟨_,Heap.get?_update_self _ ho (Obj.isFreed_of_fields (Obj.data_mapFields hd _)),(Obj.cls_mapFields ..).trans hc,by rw[Obj.data_mapFields hd];simp[rawInt]⟩
 refine UM (Wx ?_);refine UM (wpAny_isOneOf_keyiter (s:={s with heap:=s.heap.update it (Obj.mapFields (·.setIfInBounds 1 (rawInt ((i:Int)+1))))}) CT.typeIs ?_)
 show Vp _ _ (pure es[i].key) _ _ _;exact U6 (U6 ⟨_,rfl,U6 (hQ _ CT (Heap.SameBut.update ..))⟩)
end
section
variable {prog:UP}{w:U1}{A:VO}{E:UK->UL->Prop}{s:UL}{d it:Addr}{es:Array XH}{i ep:Nat}
theorem next_end {Q:Option UK->UL->Prop}(hh:A.handled=none)(hit:s.heap.IsKeyIter it d i es.size ep)(hm:At s.heap d es ep)(QI:es.size<=i)
  (hQ:∀h',Heap.ExtBut it s.heap h'->Q none {s with heap:=h'}):Vp (model prog w) A (Y5 (.ref it)) Q E s:=by
 obtain⟨o,ho,hc,hd⟩:=id hit;obtain⟨od,La,fH,Ll⟩:=id hm;unfold Y5;refine UM (Yd (wpAny_callSpecial?_slot (name:=Str.ofString "__next__") hit.typeIs F.slot_dict_keyiterator_next
  (Yk F.slot_dict_keyiterator_next hit.typeIs F.entry_dict_keyiterator_next ?_ (F.args_dict_keyiterator_next_1 _))))
 refine UM (U6 ?_);refine UM ?_;refine UM ?_
 first|refine UM (WG hit.typeIs (U6 ?_))|refine UM (W_ hit.typeIs (U6 ?_))
 refine UM (wpAny_fieldsOf ho hd ?_);have G4:Y1 "dict_keyiterator" = false:=by decide
 simp only[G4,WL,if_false];show Vp _ _ (if (Value.ref d==Value.none)=true then _ else _) _ _ s
 rw[if_neg (show ¬ ((Value.ref d==Value.none)=true) from VX)]
 refine UM (U6 ?_);refine UM (YI La Ll ?_);rw[if_neg (by simp)]
 refine UM (U6 ?_);refine UM (YY La Ll ?_);rw[if_neg (by simp)]
 refine U6 ?_;simp only[show ¬ ((i:Int)<0) from by lia,if_false,Xy,XD QI]
 refine UM ?_
 first|refine UM (WG hit.typeIs (U6 ?_))|refine UM (W_ hit.typeIs (U6 ?_))
 show Vp _ _ (setField (.ref it) 0 .none >>= _) _ _ s;refine UM (wpAny_setField ho hd (by simp) ?_)
 show Vp _ _ (newExc (.type "StopIteration") [] >>= _) _ _ _;refine UM ?_;simp only[newExc,newTuple];refine UM (X_ ?_ (by size_fits))
 refine UM (m:=firstArgMember _ _) (wpAny_of_eq (a:=Value.none) (by first|rfl|(simp only[firstArgMember];rfl)) ?_)
 refine X_ ?_ (by size_fits)
 simp only[raiseNew];refine UM (wpAny_handled ?_);rw[show A.in1.handled=none from hh]
 refine UM (U6 (wpAny_throw ?_));refine UM (wpAny_isInstance (T:="StopIteration") (b:=true) ⟨_,VF _ rfl,rfl⟩ isSubtype_stop ?_);exact U6 (hQ _ (((Heap.SameBut.update ..).extBut.push _).push _))
theorem walks (hh:A.handled=none)(I d:Addr)(CQ:d≠I)(es:Array XH)(ep:Nat):
  Walks prog w A I [I,d] [I] es.size (λi v=>∃h:i<es.size,v=es[i].key) (λi h=>h.IsKeyIter I d i es.size ep/\At h d es ep) where
 sub:=λb hb=>by simp at hb;simp[hb]
 frame:=λ_ _ _ st hk=>⟨st.1.at λo e=>hk I (by simp) o e,st.2.at' λo e=>hk d (by simp) o e⟩
 item:=λi s Q E hi st hQ=>by
  refine next_item st.1 st.2 hi λh' CT Mn=>?_;exact hQ _ h' s.toks ⟨hi,rfl⟩ ⟨CT,st.2.at' λo e=>Mn.extBut d o CQ e⟩ λb o hb e=>Mn.extBut b o (λh=>hb (by simp[h])) e
 done:=λs Q E st hQ=>next_end hh st.1 st.2 (UO _) λh' SN=>hQ h' s.toks λb o hb e=>SN b o (λh=>hb (by simp[h])) e
 self:=λ_ _ _ _ st hQ=>wpAny_pyIter_keyiter st.1 hQ
theorem src (lo:(d==Wy)=false):PySem.W.KdlSrc prog w "dict" d d es.size (λi v=>∃h:i<es.size,v=es[i].key) (λh=>At h d es ep) where
 type:=λ_ hm=>hm.typeIs
 there:=λ_ hm=>⟨hm.lt,hm.lt⟩
 keep:=λ_ _ hm hk=>hm.at' λo e=>hk d (.inl rfl) o e
 notList:=by decide
 notTuple:=by decide
 hint:=λ_ _ _ _ hm hq=>PySem.W.kdl_hint_dict hm.typeIs hq
 iter:=λ_ _ hh hm=>⟨_,_,(λ_ _ hq=>wI lo hm hq),walks hh _ d (VN hm.lt) es ep,⟨⟨_,VF _ rfl,rfl,rfl⟩,hm.at' λo e=>U5 _ e⟩⟩
theorem o7 {R:List UK->UL->Prop}(lo:(d==Wy)=false)(hm:At s.heap d es ep)(hn:es.size<=UW)(hh:A.handled=none)
  (h:∀(h':Heap) (tk:Nat),(∀b o,s.heap.get? b=some o->h'.get? b=some o)->R (es.toList.map (·.key)) {s with heap:=h',toks:=tk}):Vp (model prog w) A (collect (.ref d)) R E s:=by
 refine PySem.W.kdu_collect (src (es:=es) (ep:=ep) lo) hh hm hn λh' tk acc hk Lo=>?_;have e:acc.toList=es.toList.map (·.key):=by
  apply WW;intro i;rw[U8,Ve,Ve]
  by_cases hi:i<acc.size
  ·obtain⟨g1,g2⟩:=Lo.2 i acc[i] (getElem?_pos acc i hi);rw[getElem?_pos acc i hi,getElem?_pos es i g1,g2];rfl
  ·have:=Lo.1;rw[XD (by lia),XD (by lia)]
   rfl
 rw[e];exact h h' tk hk
end
end Dk
namespace L2.Q
open PySem PySem.Spec PySem.SeqAt PyProof.Rows HT
def Bk:List Key->Option (List Int)
 |[]=>some []
 |.inl i::r=>(Bk r).map (i::·)
 |.inr _::_=>none
def l_:List (List Key)->Option (List (List Int))
 |[]=>some []
 |k::r=>match Bk k,l_ r with
  |some t,some ts=>some (t::ts)
  |_,_=>none
theorem xT:∀t:List Int,Bk (iK t)=some t
 |[]=>rfl
 |i::t=>by
  show (Bk (iK t)).map (i::·)=_;rw[xT t];rfl
theorem pF:∀ts:List (List Int),l_ (ts.map iK)=some ts
 |[]=>rfl
 |t::ts=>by
  show (match Bk (iK t),l_ (ts.map iK)with|some t,some ts=>some (t::ts)|_,_=>none)=_
  rw[xT,pF ts]
theorem xU:∀{k:List Key} {t:List Int},Bk k=some t->k=iK t
 |[],t,h=>by cases h;rfl
 |.inl i::r,t,h=>by
  obtain⟨u,h1,h2⟩:=U3.mp (show (Bk r).map (i::·)=some t from h)
  rw[<- h2,xU h1];rfl
 |.inr _::_,t,h=>by cases h
theorem t6:∀{ks:List (List Key)} {ts:List (List Int)},l_ ks=some ts->ks=ts.map iK
 |[],ts,h=>by cases h;rfl
 |k::r,ts,h=>by
  have h:(match Bk k,l_ r with|some t,some ts=>some (t::ts)|_,_=>none)=some ts:=h
  cases h1:Bk k with
  |none=>rw[h1]at h;cases h
  |some t =>
   cases h2:l_ r with
   |none=>rw[h1,h2]at h;cases h
   |some us =>
    rw[h1,h2]at h;cases h;rw[xU h1,t6 h2];rfl
def Am:List D->Option D
 |[.dT ks _]=>match l_ ks with
  |some ts=>if ts.length<=1000/\(∀k∈ts,k≠[]) then some (.lst ((jI ts).map kD)) else none
  |none=>none
 |_=>none
theorem Bw {ts:List (List Int)}{b:Bool}(h:∀k∈ts,k≠[])(l:ts.length<=1000):Am [dP ts b]=some (.lst ((jI ts).map kD)):=by
 show (match l_ (ts.map iK)with|some ts=>if ts.length<=1000/\(∀k∈ts,k≠[]) then some (D.lst ((jI ts).map kD)) else none|none=>none)=_
 rw[pF];exact if_pos ⟨l,h⟩
theorem uI {H:Hp}:∀{ts:List (List Int)} {vs:List V} {xs:List (List Key×Addr×UK)},(ts.map iK).length=vs.length ->
  Paired (λ(p:List Key×V) (q:List Key×Addr×UK)=>p.1=q.1/\H q.2.1=some (.tup (p.1.map kV))/\RelV p.2 q.2.2) ((ts.map iK).zip vs) xs->∃us:List (Addr×List Int),xs.map (λq=>Value.ref q.2.1)=us.map (λx=>Value.ref x.1)/\us.map (·.2)=ts/\∀u∈us,H u.1=some (.tup (u.2.map V.int))
 |[],vs,xs,_,p=>by cases p;exact⟨[],rfl,rfl,λ_ z=>(nomatch z)⟩
 |t::ts,[],xs,l,p=>by cases l
 |t::ts,v::vs,xs,l,p=>by
  cases p with
  |cons h r =>
   obtain⟨us,h1,h2,h3⟩:=uI (X1 l) r
   rename_i q LW
   refine⟨(q.2.1,t)::us,by rw[Vd,Vd,h1],by rw[Vd,h2],λu hu=>?_⟩
   rcases UQ.mp hu with rfl|hu
   ·have:=h.2.1;rw[uO]at this;exact this
   ·exact h3 u hu
theorem o8 {X:Cx} (hc:X.calm=true):AZ X (.builtin "sorted") Am:=by
 intro pins s σ H xs T7 Q I r h;obtain⟨W,ds,d,hd,r1,e,q⟩:=h
 match ds,e with
 |[.dT ks fs],e =>
  have e:(match l_ ks with|some ts=>if ts.length<=1000/\(∀k∈ts,k≠[]) then some (D.lst ((jI ts).map kD)) else none|none=>none)=some d:=e
  cases hk:l_ ks with
  |none=>rw[hk]at e;cases e
  |some ts =>
   rw[hk]at e;obtain⟨⟨hl,CQ⟩,rfl⟩:=cC e;have:=t6 hk;subst this;obtain⟨x,rfl,p,vs,rfl,hp,Sz,nW,rs⟩:=rq r1;obtain⟨u,rfl,rx⟩:=vals1 r;cases rx;obtain⟨z,y,LW,pr,o,es,ep,h1,h2,h3,h4,h5⟩:=(show bu X.prog X.w H s.heap p (.dT ((ts.map iK).zip vs)) from I.bo p _ hp)
   obtain⟨us,eu,ek,T⟩:=uI Sz pr;have T2:HG H us:=λt ht=>⟨T t ht,CQ _ (by rw[<- ek];exact Vv.mpr ⟨t,ht,rfl⟩)⟩
   have ul:us.length=ts.length:=by rw[<- ek,UN]
   have ev:es.toList.map (·.key)=us.map λx=>Value.ref x.1:=by
    rw[h4,VB,<- eu];rfl
   have Th:es.size=us.length:=by
    have:=congrArg List.length ev;rw[UN,UN,Vj]at this;exact this
   refine TS.r9 (vs:=us.map λx=>Value.ref x.1) (kf:=wD H) (by rw[UN];lia) (λR hR=>Dk.o7 (es:=es) (ep:=ep) y ⟨o,h1,h2,h3⟩ (by rw[Th,ul,Wd];lia) (by simp[I.ok.hd hc]) λh' tk kp=>by rw[ev];exact hR h' tk kp) (Bl I.bo T2 (UO _)) λout wU h' tk n G3 hs k1 kp CP=>?_
   ·obtain⟨e1,e2⟩:=v9 T2 G3;have zl:out.length=us.length:=by rw[G3.length_eq,UN]
    have eq:(out.map (Hi H)).map (·.2)=jI ts:=by
     refine Ff (by rw[<- ek];exact e2.map _) ?_
     refine Wl.mpr (Wl.mpr ?_);refine hs.imp_of_mem λ{x y} hx hy hh=>?_;obtain⟨t,ht,rfl⟩:=Vv.mp (G3.mem_iff.mp hx);obtain⟨t',Ul,rfl⟩:=Vv.mp (G3.mem_iff.mp hy);exact hh
    have I1:Inv X pins σ H {s with heap:=wU,toks:=s.toks}:=I.kept k1
    have OS:H wU.objs.size=none:=I1.bo.fresh (UO _);have rk:ai X.prog X.w W H ((jI ts).map kD) ((out.map (Hi H)).map Bq):=by rw[<- eq];exact mX λt ht=>(T2 t (e2.mem_iff.mp ht)).1
    refine⟨.ref wU.objs.size,_,I1.laid (t':=tk) (o:=.lst ((out.map (Hi H)).map Bq)) kp (UO _) ?_,rfl,q _ _ (aw.new OS) (Rp.jk hd OS rk) λf=>wo OS f rk⟩;refine⟨by rw[UN,UN,zl,ul,Wd];lia,out,n,?_,CP⟩
    have:=mY (out.map (Hi H));rw[<- e1]at this;exact this
end L2.Q
namespace L2
open PySem PySem.Spec PySem.SeqAt PyProof.Rows
theorem HC:VJ "sum" = some (.builtin "sum"):=by decide +kernel
def D.int?:D->Option Int
 |.int i=>some i
 |_=>none
def D.zt:D->Option (List D)
 |.lst ds=>some ds
 |_=>none
theorem D.uM {d:D}{i:Int}(h:d.int?=some i):d=.int i:=by
 cases d <;> first|(cases h;rfl)|cases h
theorem D.ki {d:D}{ds:List D}(h:d.zt=some ds):d=.lst ds:=by
 cases d <;> first|(cases h;rfl)|cases h
def jU:List D->Option (List Int)
 |[]=>some []
 |d::ds=>d.int?.bind λi=>(jU ds).map (i::·)
theorem lX:∀{ds:List D} {ns:List Int},jU ds=some ns->ds=ns.map D.int
 |[],_,h=>by cases h;rfl
 |d::ds,ns,h=>by
  obtain⟨i,h1,h2⟩:=Vf.mp h;obtain⟨ms,h3,rfl⟩:=U3.mp h2;rw[D.uM h1,lX h3];rfl
theorem jz:∀ns:List Int,jU (ns.map D.int)=some ns
 |[]=>rfl
 |n::ns=>by
  show (some n).bind (λi=>(jU (ns.map D.int)).map (i::·))=_;rw[jz ns];rfl
def kq (f:List Int->Option Int):List D->Option D
 |[d]=>d.zt.bind λds=>(jU ds).bind λns=>(f ns).map D.int
 |_=>none
theorem tF {f:List Int->Option Int}{ds:List D}{d:D}(h:kq f ds=some d):∃ns i,ds=[.lst (ns.map D.int)]/\f ns=some i/\d=.int i:=by
 cases ds with
 |nil=>cases h
 |cons x r =>
  cases r with
  |cons _ _=>cases h
  |nil =>
   obtain⟨es,h1,h2⟩:=Vf.mp h;obtain⟨ns,h3,h4⟩:=Vf.mp h2;obtain⟨i,h5,rfl⟩:=U3.mp h4;exact⟨ns,i,by rw[D.ki h1,lX h3],h5,rfl⟩
theorem tE {f:List Int->Option Int}{ns:List Int}{i:Int}(h:f ns=some i):kq f [.lst (ns.map D.int)]=some (.int i):=by
 show (some (ns.map D.int)).bind (λds=>(jU ds).bind λns=>(f ns).map D.int)=_;rw[WB,jz,WB,h];rfl
section
variable {X:Cx}
theorem kA:∀{ns:List Int} {us:List UK},Vals (ns.map V.int) us->∃xs:Array (Int×Tok),us.toArray=intItems xs/\xs.toList.map (·.1)=ns
 |[],_,h=>by cases h;exact⟨#[],by simp[intItems],rfl⟩
 |n::ns,_,h=>by
  cases h with
  |cons h1 h2 =>
   obtain⟨t,rfl⟩:=h1;obtain⟨xs,e1,e2⟩:=kA h2;refine⟨⟨(n,t)::xs.toList⟩,?_,by simp[e2]⟩
   have:=congrArg Array.toList e1;simp[intItems]at this ⊢
   exact this
theorem xj (hc:X.calm=true):cJ X (.builtin "sum") (kq λns=>some ns.sum):=by
 intro pins s σ H xs us Q I r h;obtain⟨W,ds,d,hd,r1,e,q⟩:=h;obtain⟨ns,i,rfl,e1,rfl⟩:=tF e;cases e1;obtain⟨x,rfl,p,vs,rfl,h1,n1,q1⟩:=rq r1;obtain⟨u,rfl,ru⟩:=vals1 r;cases ru;rw[bN q1]at h1;obtain⟨its,r2,ht,hz⟩:=I.list (dO.of h1);obtain⟨ys,e1,e2⟩:=kA r2;refine sum_intListG (I.ok.hd hc) (xs:=ys) (by rw[<- e1];exact ht.isList) λh' tk t' k=>⟨.int ns.sum,H,I.kept k,⟨t',?_⟩,q _ _ (aw.refl _) rfl⟩
 rw[preSum_eq,Wr (by simp),e2]
end
end L2
namespace L2.Q
open PySem PySem.Spec PySem.SeqAt PyProof.Rows
def dA (kvs:List (List Int×D)):D:=.dT (kvs.map λp=>iK p.1) (kvs.map (·.2))
def fR (kvs:List (List Int×D))(t:List Int):Option D:=(kvs.find? λp=>decide (p.1=t)).map (·.2)
def _root_.L2.D.J2:D->Option (List (List Key)×List D)
 |.dT ks ds=>some (ks,ds)
 |_=>none
theorem CI {d:D}{ks:List (List Key)}{ds:List D}(h:d.J2=some (ks,ds)):d=.dT ks ds:=by
 cases d <;> first|(cases h;rfl)|cases h
def rV (ks:List (List Key))(ds:List D)(k:List Key):Option D:=((ks.zip ds).find? λp=>decide (p.1=k)).map (·.2)
theorem CF {d:D}{es:List D}(h:d.CG=some es):d=.tup es:=by
 cases d <;> first|(cases h;rfl)|cases h
def Dt (a b:D):Option ((List (List Key)×List D)×List Int):=a.J2.bind λp=>b.CG.bind λes=>(jU es).map λt=>(p,t)
theorem Ds {a b:D}{ks:List (List Key)}{ds:List D}{t:List Int}(h:Dt a b=some ((ks,ds),t)):a=.dT ks ds/\b=.tup (t.map D.int):=by
 obtain⟨p,h1,h2⟩:=Vf.mp h;obtain⟨es,h3,h4⟩:=Vf.mp h2;obtain⟨t',h5,h6⟩:=U3.mp h4;cases h6;exact⟨CI h1,by rw[CF h3,lX h5]⟩
theorem Dr {kvs:List (List Int×D)}{t:List Int}:Dt (dA kvs) (.tup (t.map D.int))=some ((kvs.map λp=>iK p.1,kvs.map (·.2)),t):=by
 show (some _).bind (λp=>(some (t.map D.int)).bind λes=>(jU es).map λt=>(p,t))=_;rw[WB,WB,jz];rfl
theorem rT {t:List Int}:∀{kvs:List (List Int×D)},rV (kvs.map λp=>iK p.1) (kvs.map (·.2)) (iK t)=fR kvs t
 |[]=>rfl
 |p::kvs=>by
  have ih:=rT (t:=t) (kvs:=kvs);unfold rV fR at *
  rw[Vd,Vd,Wt,We,We]
  by_cases h:p.1=t
  ·rw[decide_eq_true (congrArg iK h),decide_eq_true h];rfl
  ·rw[decide_eq_false (λz=>h (zM z)),decide_eq_false h];exact ih
def vi (a b:D):Option D:=(Dt a b).bind λz=>rV z.1.1 z.1.2 (iK z.2)
theorem DA {kvs:List (List Int×D)}{t:List Int}:vi (dA kvs) (.tup (t.map D.int))=fR kvs t:=by
 unfold vi;rw[Dr,WB];exact rT
section
variable {P:UP}{w:U1}{W:Addr->Prop}{H:Hp}
theorem oj {k:List Key}:∀{ks:List (List Key)} {ds:List D} {vs:List V},ks.length=vs.length->ai P w W H ds vs->(fM (ks.zip vs) k).isSome=(rV ks ds k).isSome/\∀d,rV ks ds k=some d->∃v,fM (ks.zip vs) k=some v/\ay P w W H d v
 |[],ds,vs,_,_=>by
  unfold fM rV;rw[Yb,Yb];exact⟨rfl,λd h=>by cases h⟩
 |k'::ks,[],_,l,h=>by rw[show _=([]:List V) from h]at l;cases l
 |k'::ks,d::ds,_,l,⟨v,r,e,h1,h2⟩=>by
  subst e;obtain⟨i1,i2⟩:=oj (k:=k) (ks:=ks) (X1 l) h2;unfold fM rV at *
  rw[Wt,Wt,We,We]
  by_cases hk:k'=k
  ·rw[decide_eq_true hk];exact⟨rfl,λd' e=>by cases e;exact⟨v,rfl,h1⟩⟩
  ·rw[decide_eq_false hk];exact⟨i1,i2⟩
end
section
variable {X:Cx}
theorem GA {W:Addr->Prop}{H:Hp}{a b:D}{x y:V}{ks:List (List Key)}{ds:List D}{t:List Int}(h:Dt a b=some ((ks,ds),t))(r1:Rp X W H a x)(r2:Rp X W H b y):∃p vs,x=.ref p/\xq H p y (fM (ks.zip vs) (iK t))/\ks.length=vs.length/\ai X.prog X.w W H ds vs:=by
 obtain⟨rfl,rfl⟩:=Ds h;obtain⟨p,vs,rfl,e1,l,n,rs⟩:=r1;obtain⟨q,us,rfl,e2,rt⟩:=r2;rw[L2.bN rt]at e2;exact⟨p,vs,rfl,xq.t e1 (by rw[uO];exact e2),l,rs⟩
theorem uJ (hu:X.A.units+1<X7):EO X (vT X vi NF):=by
 intro value slice pins s σ H x y v u Q I rx ry h hs;obtain⟨W,d1,d2,d,hd,r1,r2,e,q⟩:=h;obtain⟨⟨⟨ks,ds⟩,t⟩,h1,h2⟩:=Vf.mp e;obtain⟨p,vs,rfl,g,l,rs⟩:=GA h1 r1 r2;obtain⟨w',hw,A7⟩:=(oj l rs).2 d h2;rw[hw]at g;cases (show v=Value.ref p from rx)
 exact tail_any (qY I g) PySem.F.slot_dict_getitem.lookup (w9 hu I g ry λu' s' I' r'=>⟨w',H,I',r',q w' H (aw.refl _) A7 λf=>ay.flat f A7⟩) hs
end
theorem yZ {P:UP}{w:U1}{H:Hp}{kvs:List (List Int×D)}{a:Addr}{vs:List V}{A:List Addr}(h:H a=some (.dT ((kvs.map λp=>iK p.1).zip vs)))(o:aK P w H (kvs.map (·.2)) vs A):Own P w H (dA kvs) (.ref a) (a::A) :=
 ⟨a,vs,A,rfl,h,by rw[UN,o.length,UN],rfl,o⟩
theorem E2 {P:UP}{w:U1}{H:Hp}{kvs:List (List Int×D)}{vs:List V}{A:List Addr}{t:List Int}(o:aK P w H (kvs.map (·.2)) vs A)(h:fR kvs t=none):fM ((kvs.map λp=>iK p.1).zip vs) (iK t)=none:=by
 have:=(oj (k:=iK t) (ks:=kvs.map λp=>iK p.1) (W:=λ_=>False) (by rw[UN,o.length,UN]) (o.rep λc _ z=>z)).1
 rw[rT,h]at this;exact Option.isNone_iff_eq_none.mp (by rw[<- Option.not_isSome,this];rfl)
section
variable {X:Cx}{C:Cfg}{k e:Expr}{φ φk:aQ}{i:Nat}{x:Str}{pos pos' px:Pos}{p pk:Bool}
theorem yL:PQ X C true (.Dict [] [] pos) (λβ R=>R (dA []) .own β) :=
 ⟨λβ R R' k h=>k _ _ _ h,pZ.pre λσ H Q h p hp=>by
  obtain⟨β,own,s,q⟩:=h;refine q _ _ own ((Out.refl s _).same (aw.new hp)) ⟨[p],yZ (kvs:=[]) (vs:=[]) ao ⟨rfl,rfl⟩,by simp,λc hc=>?_⟩
  rw[UX.mp hc];exact⟨hp,λz=>s.pq p z hp,Vw λz=>s.fP p z hp⟩⟩
theorem uz (hu:X.A.units+1<X7)(he:∀U,PQ X (C.u U) p e φ)(hk:∀U,PQ X (C.u U) pk k φk)(hN:X.N[i]?=some x:=by rfl)(hv:rM X.env.scope x:=by first|exact .inl rfl|exact .inr (.inl rfl)|exact .inr (.inr rfl))(hd:(x==("__debug__" : Str))=false:=by decide)(fH:(x==("__classdict__" : Str))=false:=by decide)
  (hs:Wf e (some (.Subscript (.Name x px) k pos')) pos.line X.env=pure false:=by rfl) :
  PB X C (.Assign [.Subscript (.Name x px) k pos'] e pos) (λE β=>φ β λd kd β1=>CD kd d/\(∃kvs,β1[i]?=some (some (.own (dA kvs))))/\φk β1 λjd _ β2=>∃kvs t,jd=.tup (t.map D.int)/\β2[i]?=some (some (.own (dA kvs)))/\fR kvs t=none/\kvs.length<UW/\E.nx (β2.set i (some (.own (dA (kvs++[(t,d)])))))):=by
 refine⟨λE E' β l q=>(he λ_=>False).mono _ _ _ (λd kd β1 h=>by obtain⟨f,h0,q⟩:=h;exact⟨f,h0,(hk λ_=>False).mono _ _ _ (λjd _ β2 h=>by obtain⟨kvs,t,h1,h2,h3,h4,q⟩:=h;exact⟨kvs,t,h1,h2,h3,h4,l.nx _ q⟩) q⟩) q,λpins s σ H De I ⟨Z,E,β,⟨own,sq,n⟩,q,ok⟩=>?_⟩
 refine ui hu (cL (pos:=px) hN hv hd fH) (hk λa=>H a=none).pe (he λa=>H a=none).pe hs pins s σ H De I ?_;refine tQ.of (he λa=>H a=none) (sq.jE (C:=C.z) (U:=λa=>H a=none) λa z=>z) q λd kd β1 v H1 aB ⟨f,⟨R5,Ig⟩,q⟩ o r=>?_;obtain⟨v0,xx,RL,_⟩:=o.sq.ow i _ Ig;refine⟨v0,xx,tQ.of (hk λa=>H a=none) o.sq q λjd kj β2 jv H2 aZ ⟨kvs,t,e1,hb,hn,hl,q⟩ o2 r2=>?_⟩;subst e1;obtain⟨A,r1,rn,r3⟩:=(r.fl f).held (by intro z;cases z) o2.sn
 obtain⟨v1,Em,ow,h0⟩:=o2.sq.ow i _ hb;rw[xx]at Em;cases Em;obtain⟨a,vs,A',rfl,ha,l,eA,os⟩:=ow;obtain⟨b,us,rfl,Mv,rt⟩:=r2.rep;rw[L2.bN rt]at Mv;have En:a∈aZ i:=by rw[eA];simp
 have nd:=o2.sq.l7 i;rw[eA]at nd;have G8:putK ((kvs.map λp=>iK p.1).zip vs) (iK t) v=((kvs++[(t,d)]).map λp=>iK p.1).zip (vs++[v]):=by
  rw[yx v (E2 os hn),Vb,List.zip_append l];rfl
 refine⟨a,_,rfl,.inr ⟨_,iK t,b,ha,rfl,by rw[uO];exact Mv,by rw[List.length_zip,<- l,Nat.min_self,UN];exact hl,rfl⟩,?_⟩
 have kt:∀c xs,H2 c=some (.tup xs)->upd H2 a (.dT (putK ((kvs.map λp=>iK p.1).zip vs) (iK t) v)) c=some (.tup xs):=λc xs z=>by rw[az (λz'=>by rw[z',ha]at z;cases z)];exact z
 have Qm:∀c∈A',c≠a:=λc hc z=>(Vt.mp nd).1 (z▸hc);have nA:∀c∈A,c≠a:=λc hc z=>(r3 c hc).2.1 ⟨i,by rw[z];exact En⟩
 have r':Own X.prog X.w (upd H2 a (.dT (putK ((kvs.map λp=>iK p.1).zip vs) (iK t) v))) (dA (kvs++[(t,d)])) (.ref a) (a::(A'++A)):=by
  refine yZ (vs:=vs++[v]) (by rw[ao,G8]) ?_
  rw[Vb];exact(os.keep kt λc hc oc z=>by rw[az (Qm c hc)];exact z).append (aK.one (r1.keep kt λc hc oc z=>by rw[az (nA c hc)];exact z))
 have RS:(a::(A'++A)).Nodup:=by
  refine Vt.mpr ⟨λz=>?_,VV.mpr ⟨(Vt.mp nd).2,rn,λc hc c' lN z=>(r3 c' lN).2.1 ⟨i,by rw[eA,<- z];simp[hc]⟩⟩⟩
  rcases Vl.mp z with z|z
  ·exact Qm a z rfl
  ·exact nA a z rfl
 have hA:∀c∈a::(A'++A),c∈aZ i\/(C.H0 c=none/\¬ Wn aZ c/\(λa=>H a=none) c):=λc hc=>by
  rcases UQ.mp hc with rfl|hc
  ·exact .inl En
  ·rcases Vl.mp hc with hc|hc
   ·exact .inl (by rw[eA];simp[hc])
   ·exact .inr ⟨(r3 c hc).2.2,(r3 c hc).2.1,(r3 c hc).1⟩
 exact ok.nx _ _ _ ⟨_,o2.sq.BL (C:=C) (U:=λa=>H a=none) (U2:=λ_=>False) hb xx En r' RS hA (λ_ z=>z.elim) (λ_ _ z=>z),kU (C:=C) ((n.trans o.sn).trans o2.sn) (λb z=>n.free z) ⟨i,En⟩ ⟨_,ha,λxs z=>by cases z⟩ hA⟩ q
end
end L2.Q
namespace L2
open PySem PySem.Spec PySem.SeqAt PyProof.Rows
def MK (lo:Int)(n:Nat):It:=⟨λi _=>i<n,λi H x H'=>H'=H/\x=.int (lo-i),λi _=>n<=i⟩
theorem pG {P:UP}{w:U1}{K:PySem.W.Frag}{tg:Expr}(it:Addr)(lo:Int)(n:Nat):Turn P w K tg (MK lo n) [it] it (λi h=>YX h it (lo+(i:Nat)*(-1)) ((n:Int)-(i:Nat)) (-1)) where
 mem:=by simp
 obj:=λi h st b hb=>by
  have e:b=it:=by simpa using hb
  subst e;exact⟨_,st,λv z=>by
   have z':Data.fields _=Data.cell v:=z;cases z'⟩
 keep:=λi h h' st k=>k it (by simp) _ st
 item:=by
  intro X hP hw hK hc i pins s σ H E I hf st hg;subst hP hw hK;obtain⟨f0,f1,f2,f3,f4,f5⟩:=hf it (by simp)
  have W:=Walks.range (prog:=X.prog) (w:=X.w) (I.ok.hd hc) it lo (-1) n;refine W.item i s _ _ hg st λv h' tk hv aA kk=>?_;obtain⟨t,rfl⟩:=hv;have I1:Inv X pins σ H {s with heap:=h',toks:=tk}:=I.turned (λb o hb e=>kk b o (by simpa using hb) e) f0 f1 f3 f4 f5
  refine⟨_,rfl,z4 (s:={s with heap:=h',toks:=tk}) (n:="range_iterator") aA rfl rfl (by decide) ⟨.int (lo-i),H,I1,⟨t,?_⟩,⟨rfl,rfl⟩,aA,λb hb=>(hf b hb).1⟩⟩
  rw[Int.mul_neg,Int.mul_one];rfl
 done:=by
  intro X hP hw hK hc i pins s σ H E I hf st hg;subst hP hw hK;obtain⟨f0,f1,f2,f3,f4,f5⟩:=hf it (by simp)
  exact wpAny_pyNext_range_end (I.ok.hd hc) st (by have:n<=i:=hg;lia) λh' eb=>⟨rfl,I.turned (t':=s.toks) (λb o hb e=>eb b o hb e) f0 f1 f3 f4 f5⟩
 self:=λ_ _ _ _ _ st h=>wpAny_pyIter_rangeiter st h
theorem gK (a b:Int):Xr a b (-1)=if b<a then a-b else 0:=by
 unfold Xr;rw[if_neg (by decide)]
 by_cases h:b<a
 ·rw[if_pos h,if_pos h,show -(-1:Int)=1 by decide,Int.ediv_one];lia
 ·rw[if_neg h,if_neg h]
theorem vJ {a b:Int}(ha:-(2 ^ 62)<=a)(Mw:a<2 ^ 62)(hb:-(2 ^ 62)<=b)(lO:b<2 ^ 62):Builtin.Range.small a b (-1)=true:=by
 unfold Builtin.Range.small;rw[gK];simp only[Builtin.Range.rangeFitsLong,VI,Y2,decide_eq_true_eq,beq_iff_eq,show ¬ ((-1:Int)>0) by decide,if_false]
 split <;> lia
section
variable {X:Cx}{tg:Expr}
theorem vR {pins:List (Addr×Obj)}{σ:St}{H:Hp}{s:UL}{R:It->Hp->Prop}{E:UK->UL->Prop}{lo hi:Int}{t u v:Tok}{tk:Nat}(I:Inv X pins σ H s)(h1:-(2 ^ 62)<=lo)(h2:lo<2 ^ 62)(h3:-(2 ^ 62)<=hi)(h4:hi<2 ^ 62)
  (q:R (MK lo (lo-hi).toNat) H):Vp (model X.prog X.w) X.A (Y6 (.ref s.heap.objs.size)) (MH X pins σ tg R) E {s with heap:=s.heap.push {cls:=.type "range",data:=.fields #[.int lo t,.int hi u,.int (-1) v]},toks:=tk}:=by
 refine wpAny_pyIter_range (IsRange.new ..) (vJ h1 h2 h3 h4) ?_;have I1:Inv X pins σ H {s with heap:=s.heap.push {cls:=.type "range",data:=.fields #[.int lo t,.int hi u,.int (-1) v]},toks:=tk}:=I.kept λb o e=>U5 _ e
 refine⟨(s.heap.push {cls:=.type "range",data:=.fields #[.int lo t,.int hi u,.int (-1) v]}).objs.size,[(s.heap.push {cls:=.type "range",data:=.fields #[.int lo t,.int hi u,.int (-1) v]}).objs.size],_,_,H,rfl,
  I1.kept (t':=tk) λb o e=>U5 _ e,pG _ lo (lo-hi).toNat,?_,λb hb=>?_,q⟩
 ·have e1:lo+((0:Nat):Int)*(-1)=lo:=by simp
  have e2:(((lo-hi).toNat:Nat):Int)-((0:Nat):Int)=Xr lo hi (-1):=by rw[gK];split <;> lia
  show YX _ _ (lo+((0:Nat):Int)*(-1)) ((((lo-hi).toNat:Nat):Int)-((0:Nat):Int)) (-1);rw[e1,e2];exact VF _ rfl
 ·have e:b=(s.heap.push {cls:=.type "range",data:=.fields #[.int lo t,.int hi u,.int (-1) v]}).objs.size:=by simpa using hb
  subst e;exact I1.C2 (UO _) (I1.bo.fresh (UO _))
def J3 (ta:TA):TI:=λσ H R=>ta σ H λvs H1=>∃i j:Int,vs=[.int i,.int j,.int (-1)]/\(-(2 ^ 62)<=i/\i<2 ^ 62/\-(2 ^ 62)<=j/\j<2 ^ 62)/\R (MK i (i-j).toNat) H1
theorem v7 {a b c:Expr} {ta:TA} {p pos:Pos} (hg:Gl X "range") (hm:X.mg "range" = none) (ha:PA X [a,b,c] ta) (hs:US [a,b,c] X.env=[(false,eval a X.env),(false,eval b X.env),(false,eval c X.env)]:=by rfl) (sU:US [b,c] X.env=[(false,eval b X.env),(false,eval c X.env)]:=by rfl) :
  PI X tg (.Call (.Name "range" p) [a,b,c] [] pos) (J3 ta):=by
 intro pins s σ H R I h;refine Call_ (jm I hg hm boot_range (WT (bw (ha pos pins s σ H _ I h) λus s1 ⟨vs,H1,I1,r1,q1⟩=>?_) (by rw[hs,sU]) (by rw[sU];rfl)))
 obtain⟨i,j,e,⟨q1,q2,q3,q4⟩,q⟩:=q1;subst e;cases r1 with
 |cons r rr =>
  cases rr with
  |cons r' rr =>
   cases rr with
   |cons P7 rr =>
    cases rr;obtain⟨t,rfl⟩:=r;obtain⟨t',rfl⟩:=r';obtain⟨T9,rfl⟩:=P7;exact call_range_3 (by decide) (vR I1 q1 q2 q3 q4 q) (.inl (PyProof.noPylong_of_log2 (by decide +kernel)))
def vQ (hi:Int)(n:Nat):List D:=(Vy n).map λ(k:Nat)=>D.int (hi-(k:Int))
theorem k_ {hi:Int}{n i:Nat}{d:D}(h:(vQ hi n)[i]?=some d):i<n/\d=.int (hi-i):=by
 unfold vQ at h;rw[U8]at h
 by_cases hi:i<n
 ·rw[WA hi]at h;cases h;exact⟨hi,rfl⟩
 ·rw[WS (by simpa using hi)]at h;cases h
theorem k9 {hi:Int}{n:Nat}:(vQ hi n).length=n:=by unfold vQ;simp
theorem sP {W:Addr->Prop}{H:Hp}{lo:Int}{n:Nat}:AV X W (MK lo n) (vQ lo n) H:=λ_ _ i H' k=>by
 constructor
 ·intro d hd;obtain⟨hi,rfl⟩:=k_ hd;refine⟨hi,λx H1 y=>?_⟩;obtain⟨rfl,rfl⟩:=y;exact⟨aw.refl _,rfl⟩
 ·intro hl;rw[k9]at hl;exact hl
end
end L2
namespace L2.Q
open PySem PySem.Spec PySem.SeqAt PyProof.Rows
section
variable {X:Cx}{C:Cfg}{tg a b c:Expr}{φs:b3}{p:Bool}{pp pos:Pos}
def CK (φs:b3):cI:=λβ R=>φs β λds _ β'=>∃i j:Int,ds=[.int i,.int j,.int (-1)]/\(-(2 ^ 62)<=i/\i<2 ^ 62/\-(2 ^ 62)<=j/\j<2 ^ 62)/\R (vQ i (i-j).toNat) .cE β'
theorem LJ {W:Addr->Prop}{H:Hp}{a b c:D}{xs:List V}(h:rN X W H [a,b,c] xs):∃x y z,xs=[x,y,z]/\Rp X W H a x/\Rp X W H b y/\Rp X W H c z:=by
 obtain⟨x,r,rfl,hx,y,r',rfl,hy,z,P7,rfl,hz,hr⟩:=h;cases hr;exact⟨x,y,z,rfl,hx,hy,hz⟩
theorem lg (hm:X.mg "range" = none) (ha:pC X C p [a,b,c] φs) (hg:Gl X "range" := by rfl) (hs:US [a,b,c] X.env=[(false,eval a X.env),(false,eval b X.env),(false,eval c X.env)]:=by rfl) (sU:US [b,c] X.env=[(false,eval b X.env),(false,eval c X.env)]:=by rfl) :
  AS X C p tg (.Call (.Name "range" pp) [a,b,c] [] pos) (CK φs) :=
 ⟨λβ R R' k q=>ha.mono β _ _ (λd kd β' h=>by obtain⟨i,j,e,h1,q⟩:=h;exact⟨i,j,e,h1,k _ _ _ q⟩) q,(v7 hg hm ha.pa hs sU).pre λσ H R h=>by
  obtain⟨β,own,s,q⟩:=h;refine rH.of ha s q λds ks β' vs H1 aB h o1 r1=>?_;obtain⟨i,j,e,h1,q1⟩:=h;subst e;obtain⟨x,y,z,rfl,hx,hy,hz⟩:=LJ r1.iu;cases hx;cases hy;cases hz;exact⟨i,j,rfl,h1,q1 _ _ aB o1 sP⟩⟩
end
structure QY (X:Cx)(C:Cfg)(tg iter:Expr)(ι:cI):Prop where
 mono:∀β R R',(∀d k β,R d k β->R' d k β)->ι β R->ι β R'
 pi:PI X tg iter λσ H R=>∃β own,SQ X C σ H β own/\ι β λds k β'=>∀J H',aw H H'->SQ X C σ H' β' own->AV X (eN C (Wn own) k) J ds H'->R J H'
section
variable {X:Cx}{C:Cfg}{tg a b:Expr}{φs:b3}{pp pos:Pos}{i:Nat}{x:Str}
theorem sC (hm:X.mg "range" = none) (ha:pC X C true [a,b] φs) (hg:Gl X "range" := by rfl) (hs:US [a,b] X.env=[(false,eval a X.env),(false,eval b X.env)]:=by rfl) (sU:US [b] X.env=[(false,eval b X.env)]:=by rfl) :
  QY X C tg (.Call (.Name "range" pp) [a,b] [] pos) (uN φs) :=
 ⟨λβ R R' k q=>ha.mono β _ _ (λd kd β' h=>by obtain⟨i,j,e,h1,q⟩:=h;exact⟨i,j,e,h1,k _ _ _ q⟩) q,(m5 hg hm ha.pa hs sU).pre λσ H R h=>by
  obtain⟨β,own,s,q⟩:=h;refine rH.of ha s q λds ks β' vs H1 aB h o1 r1=>?_;obtain⟨i,j,e,h1,q1⟩:=h;subst e;obtain⟨s1,rfl⟩:=o1.pu rfl;obtain⟨x,y,rfl,hx,hy⟩:=vt r1.iu;cases hx;cases hy;exact⟨i,j,rfl,h1,q1 _ _ s1 o1.sq jo⟩⟩
end
structure SC (X:Cx)(C:Cfg)(W0:Addr->Prop)(T:List Nat)(σ0:St)(H1:Hp)(a:Addr)(Hb:Hp)(Wb:Addr->Prop)(Ac:Hp->Prop)(β:a3)(σ':St)(H':Hp)(own:Nat->List Addr):Prop where
 sq:SQ X (C.u λc=>c=a) σ' H' β own
 sn:Sn (H1,W0) H' (Wn own)
 le:∀c,Wn own c->Wb c
 ac:Ac H'
 pu:aw H1 H'
 bs:∀b ob,b≠a->Hb b=some ob->H' b=some ob
 st:∀j,j∉T->σ'[j]?=σ0[j]?
abbrev tS {α:Type}(X:Cx)(C:Cfg)(W0:Addr->Prop)(T:List Nat)(σ0:St)(H1:Hp)(a:Addr)(Hb:Hp)(Wb:Addr->Prop)(Ac:α->Hp->Prop)(β:a3)(o:α)(σ':St)(H':Hp):Prop:=∃own,SC X C W0 T σ0 H1 a Hb Wb (Ac o) β σ' H' own
structure A4 {α:Type}(a:Addr)(Ac:α->Hp->Prop):Prop where
 same:∀o H H',aw H H'->Ac o H->Ac o H'
 JD:∀o H xs,Ac o H->H a≠some (.tup xs)
abbrev IC (X:Cx)(C:Cfg)(a:Addr)(T:List Nat)(γ:eM):TG:=λv σ H Q=>∃own β d k,SQ X (C.u λc=>c=a) σ H β own/\Rp X (eN (C.u λc=>c=a) (Wn own) k) H d v/\γ d k β λβ'=>∀σ' aS,SQ X (C.u λc=>c=a) σ' H β' aS->(∀a,Wn aS a->Wn own a)->(∀j,j∉T->σ'[j]?=σ[j]?)->Q σ' H
abbrev PM (X:Cx)(C:Cfg)(a:Addr)(φ:aQ):mL:=λN σ H=>tQ X (C.u λc=>c=a) true φ σ H λv H1=>∃xs,H1 a=some (.lst xs)/\xs.length<UW/\N σ (upd H1 a (.lst (xs++[v])))
section
variable {α:Type}{X:Cx}{C:Cfg}{W0:Addr->Prop}{T Tg:List Nat}{σ0:St}{H1:Hp}{a:Addr}{Hb:Hp}{Wb:Addr->Prop}{γ:eM}{τ:a8}{φ:aQ}{Ac:α->Hp->Prop}
theorem SC.next {o:α}(hA:A4 a Ac){β β':a3}{σ σ':St}{H H':Hp}{own aS:Nat->List Addr}(s:SC X C W0 T σ0 H1 a Hb Wb (Ac o) β σ H own)(sq:SQ X (C.u λc=>c=a) σ' H' β' aS)(w:∀c,Wn aS c->Wn own c)(sm:aw H H')(t:∀j,j∉T->σ'[j]?=σ[j]?):
  SC X C W0 T σ0 H1 a Hb Wb (Ac o) β' σ' H' aS :=
 ⟨sq,ik (s.sn.same sm) w,λc z=>s.le c (w c z),hA.same o _ _ sm s.ac,s.pu.trans sm,λb ob n e=>sm _ _ (s.bs b ob n e),λj hj=>(t j hj).trans (s.st j hj)⟩
theorem SC.put {A:Hp->Prop}{A':Hp->Prop}(h0:C.H0 a=none)(ha:H1 a=none){β:a3}{σ:St}{H:Hp}{own:Nat->List Addr}{oa ob:HO}(s:SC X C W0 T σ0 H1 a Hb Wb A β σ H own)(e:H a=some oa)(nt:∀xs,oa≠.tup xs)(q:A' (upd H a ob)):
  SC X C W0 T σ0 H1 a Hb Wb A' β σ (upd H a ob) own:=by
 refine⟨s.sq.Fo e nt h0,⟨s.sn.w,s.sn.k.trans ((jn e nt).mono λb z=>.inr (by rw[z];exact ha)),λb z e=>?_⟩,s.le,q,λb o e=>?_,λb o n e=>?_,s.st⟩
 ·by_cases hb:b=a
  ·rw[hb,ao]at e;cases e
  ·rw[az hb]at e;exact s.sn.d b z e
 ·rw[az (λz'=>by rw[z',ha]at e;cases e)]
  exact s.pu b o e
 ·rw[az n];exact s.bs b o n e
def MO (P:UP)(w:U1)(H1:Hp)(a:Addr)(o:List D)(H:Hp):Prop:=∃vs A,H a=some (.lst vs)/\aK P w H o vs A/\A.Nodup/\∀c∈A,H1 c=none/\c≠a
theorem tO {P:UP}{w:U1}:A4 a (MO P w H1 a):=⟨λo H H' s h=>by
  obtain⟨vs,A,h1,h2,h3,h4⟩:=h;exact⟨vs,A,s _ _ h1,h2.keep (λb xs e=>s _ _ e) λc _ oc e=>s _ _ e,h3,h4⟩,λo H xs h z=>by
  obtain⟨vs,A,h1,_⟩:=h;rw[h1]at z;cases z⟩
def Ey (φ:aQ)(o:List D)(β:a3)(N:a3->List D->Prop):Prop:=φ β λx kx β3=>CD kx x/\o.length<UW/\N β3 (o++[x])
theorem BD (h0:C.H0 a=none)(ha:H1 a=none)(φm:∀β R R',(∀d k β,R d k β->R' d k β)->φ β R->φ β R'){β:a3}{o:List D}{σ:St}{H:Hp}{N:a3->List D->Prop}(s:tS X C W0 T σ0 H1 a Hb Wb (MO X.prog X.w H1 a) β o σ H)(q:Ey φ o β N):
  PM X C a φ (λσ' H'=>∃β' o',tS X C W0 T σ0 H1 a Hb Wb (MO X.prog X.w H1 a) β' o' σ' H'/\N β' o') σ H:=by
 obtain⟨own,s⟩:=s;refine⟨β,own,s.sq,φm _ _ _ (λxd kx β6 ⟨f,hz,q⟩ v H6 FW o6 r6=>?_) q⟩;obtain⟨sm,rfl⟩:=o6.pu rfl;have s6:=s.next tO (o6.sq) (λ_ z=>z) sm (λ_ _=>rfl)
 obtain⟨B',r1,r2,r3⟩:=r6.fl f;obtain⟨vs,A,at',os,nd,nw⟩:=s.ac;have qG:H6 a=some (.lst vs):=sm _ _ at';have JG:∀c∈B',c≠a:=λc hc z=>by rw[z]at hc;exact absurd (at'.symm.trans (r3 a hc).1) (λz=>(nomatch z))
 have kt:∀b xs,H6 b=some (.tup xs)->upd H6 a (.lst (vs++[v])) b=some (.tup xs):=λb xs z=>by rw[az (λz'=>by rw[z',qG]at z;cases z)];exact z
 refine⟨vs,qG,by rw[os.length];exact hz,β6,o++[xd],⟨FW,s6.put h0 ha qG (λxs z=>by cases z) ⟨vs++[v],A++B',ao,?_,?_,λc hc=>?_⟩⟩,q⟩
 ·exact(os.keep (λb xs e=>kt b xs (sm _ _ e)) λc hc oc e=>by rw[az (nw c hc).2];exact sm _ _ e).append (aK.one (r1.keep kt λc hc oc e=>by rw[az (JG c hc)];exact e))
 ·refine VV.mpr ⟨nd,r2,λx hx y hy e=>?_⟩;subst e;exact(os.l9 x hx).1 (r3 x hy).1
 ·rcases Vl.mp hc with hc|hc
  ·exact nw c hc
  ·exact⟨s.sn.free (r3 c hc).1,JG c hc⟩
def lG {α:Type}(γ:eM)(τ:a8)(Af:α->a3->(a3->α->Prop)->Prop)(ds:List D)(k:Kd)(β0:a3)(o0:α)(F:a3->α->Prop):Prop:=∃I:Nat->a3->α->Prop,I 0 β0 o0 /\
 (∀i d β o,ds[i]?=some d->I i β o->γ d (sk k d) β λβ1=>τ β1 λt β2=>if t=true then Af o β2 (I (i+1)) else I (i+1) β2 o)/\∀β o,I ds.length β o->F β o
theorem lG.mono {Af:α->a3->(a3->α->Prop)->Prop}{ds:List D}{k:Kd}{β0:a3}{o0:α}{F F':a3->α->Prop}(h:∀β o,F β o->F' β o)(q:lG γ τ Af ds k β0 o0 F):lG γ τ Af ds k β0 o0 F':=by
 obtain⟨I,h0,h1,h2⟩:=q;exact⟨I,h0,h1,λβ o z=>h _ _ (h2 β o z)⟩
theorem ue (hA:A4 a Ac)(hT:∀j∈Tg,j∈T)(γm:∀d k β R R',(∀r,R r->R' r)->γ d k β R->γ d k β R')(τm:∀β R R',(∀d β,R d β->R' d β)->τ β R->τ β R'){J:It}{ds:List D}{k:Kd}{Af:α->a3->(a3->α->Prop)->Prop}{ta:mL}{F:a3->α->Prop}{End:St->Hp->Prop}{β0:a3}{o0:α}{σ1:St}{Hs:Hp}
  (it:∀i β o σ' H',tS X C W0 T σ0 H1 a Hb Wb Ac β o σ' H'->(∀d,ds[i]?=some d->J.go i H'/\∀x H3,J.Iy i H' x H3->aw H' H3/\∀own,(∀c,Wn own c->Wb c)->ay X.prog X.w (eN (C.u λc=>c=a) (Wn own) k) H3 d x)/\(ds.length<=i->J.stop i H'))
  (Ka:∀β o σ' H' N,tS X C W0 T σ0 H1 a Hb Wb Ac β o σ' H'->Af o β N->ta (λxF AW=>∃β' o',tS X C W0 T σ0 H1 a Hb Wb Ac β' o' xF AW/\N β' o') σ' H')
  (s0:tS X C W0 T σ0 H1 a Hb Wb Ac β0 o0 σ1 Hs) (q:lG γ τ Af ds k β0 o0 F) (fin:∀β o σ' H',tS X C W0 T σ0 H1 a Hb Wb Ac β o σ' H'->F β o->End σ' H') :
  fD J (IC X C a Tg γ) (jG X (C.u λc=>c=a) true τ) ta End σ1 Hs:=by
 obtain⟨I,i0,i1,i2⟩:=q;refine⟨λi m σ' H'=>i<=ds.length/\m=ds.length-i/\∃β o,tS X C W0 T σ0 H1 a Hb Wb Ac β o σ' H'/\I i β o,⟨_,U4 _,rfl,β0,o0,s0,i0⟩,?_⟩;rintro i m σ2 H2 ⟨hi,rfl,β,o,sE,hl⟩;obtain⟨cF,mz⟩:=it i β o σ2 H2 sE
 by_cases fG:i<ds.length
 ·right
  have hd:ds[i]?=some ds[i]:=Vh fG;obtain⟨go,yl⟩:=cF _ hd;refine⟨go,λσ' H'=>∃β' o',tS X C W0 T σ0 H1 a Hb Wb Ac β' o' σ' H'/\I (i+1) β' o',λσ' H' h=>⟨_,by omega,fG,rfl,h⟩,λx H3 y=>?_⟩
  obtain⟨s3,r3⟩:=yl x H3 y;obtain⟨own,s⟩:=sE;refine⟨own,β,_,_,s.sq.same s3,og (r3 own s.le),γm _ _ _ _ _ (λβ4 q σ4 qb s4 w4 t4=>?_) (i1 i _ β o hd hl)⟩;have Rv:=s.next hA s4 w4 s3 λj hj=>t4 j λz=>hj (hT j z)
  refine⟨β4,qb,s4,τm _ _ _ (λt β5 q H5 je o5=>?_) q⟩;obtain⟨L5,rfl⟩:=o5.pu rfl;have P4:=Rv.next hA o5.sq (λ_ z=>z) L5 λ_ _=>rfl
  cases t with
  |false=>exact⟨β5,o,⟨_,P4⟩,q⟩
  |true=>exact Ka β5 o σ4 H5 _ ⟨_,P4⟩ q
 ·left
  have e:i=ds.length:=by omega
  subst e;exact⟨mz (UO _),fin β o σ2 H2 sE (i2 β o hl)⟩
def D_ {α:Type}(ι:cI)(γ:eM)(τ:a8)(Af:α->a3->(a3->α->Prop)->Prop)(o:α)(β:a3)(N:a3->α->Prop):Prop:=ι β λds k β1=>lG γ τ Af ds k β1 o N
theorem BC (hA:A4 a Ac){ι:cI}(hT:∀j∈Tg,j∈T)(γm:∀d k β R R',(∀r,R r->R' r)->γ d k β R->γ d k β R')(τm:∀β R R',(∀d β,R d β->R' d β)->τ β R->τ β R'){Af:α->a3->(a3->α->Prop)->Prop}{ta:mL}
  (Ka:∀Hb Wb β o σ' H' N,tS X C W0 T σ0 H1 a Hb Wb Ac β o σ' H'->Af o β N->ta (λxF AW=>∃β' o',tS X C W0 T σ0 H1 a Hb Wb Ac β' o' xF AW/\N β' o') σ' H')
  (ιm:∀β R R',(∀d k β,R d k β->R' d k β)->ι β R->ι β R') {β:a3} {o:α} {σ:St} {H:Hp} {N:a3->α->Prop} (s:tS X C W0 T σ0 H1 a Hb Wb Ac β o σ H) (q:D_ ι γ τ Af o β N) :
  ∃β own,SQ X (C.u λc=>c=a) σ H β own/\ι β λds k β'=>∀J H',aw H H'->SQ X (C.u λc=>c=a) σ H' β' own->AV X (eN (C.u λc=>c=a) (Wn own) k) J ds H' ->
   fD J (IC X C a Tg γ) (jG X (C.u λc=>c=a) true τ) ta (λσ' H'=>∃β' o',tS X C W0 T σ0 H1 a Hb Wb Ac β' o' σ' H'/\N β' o') σ H':=by
 obtain⟨own,s⟩:=s;refine⟨β,own,s.sq,ιm _ _ _ (λds k β1 q J H' sm sq R_=>?_) q⟩;have s1:=s.next hA sq (λ_ z=>z) sm λ_ _=>rfl
 have hu:eN (C.u λc=>c=a) (Wn own) k a:=.inr rfl;refine ue (Hb:=H') (Wb:=Wn own) hA hT γm τm (λi βx ox σx Hx sx=>?_) (λβx ox σx Hx Nx sx qx=>Ka _ _ _ _ _ _ _ sx qx) ⟨own,⟨s1.sq,s1.sn,λ_ z=>z,s1.ac,s1.pu,λ_ _ _ e=>e,s1.st⟩⟩ q λβx ox σx Hx sx hx=>?_
 ·obtain⟨B9,sx⟩:=sx;have kp:Kp (λb=>eN (C.u λc=>c=a) (Wn own) k b\/H' b=none) H' Hx:=⟨λb ob e n=>sx.bs b ob (λz=>n (.inl (by rw[z];exact hu))) e,λb xs e=>sx.bs b _ (λz=>hA.JD _ _ _ s1.ac (by rw[<- z];exact e)) e⟩
  obtain⟨g1,g2⟩:=R_ (λb=>eN (C.u λc=>c=a) (Wn own) k b\/H' b=none) (λb z=>z) i Hx kp;refine⟨λd hd=>?_,g2⟩;obtain⟨go,yl⟩:=g1 d hd;refine⟨go,λx H3 y=>?_⟩;obtain⟨s3,r3⟩:=yl x H3 y;exact⟨s3,λaS NN=>ay.aO (λb z=>.inl (eY NN k b z)) r3⟩
 ·obtain⟨B9,sx⟩:=sx;exact⟨βx,ox,⟨B9,⟨sx.sq,sx.sn,λc z=>s.le c (sx.le c z),sx.ac,sx.pu,λb ob n e=>sx.bs b ob n (s1.bs b ob n e),sx.st⟩⟩,hx⟩
theorem ym {lk:List (Option Nat)}{σ:St}{β:a3}{own:Nat->List Addr}{oa:HO}(hA:A4 a Ac){Af:α->a3->(a3->α->Prop)->Prop}{ta:mL}{J:It}{ds:List D}{k:Kd}{o0:α}{K:α->Prop}{End:Hp->Prop}
  (γm:∀d k β R R',(∀r,R r->R' r)->γ d k β R->γ d k β R') (τm:∀β R R',(∀d β,R d β->R' d β)->τ β R->τ β R') (S1:∀j∈Tg,j∈T)
  (inj:∀(i i' j:Nat),lk[i]?=some (some j)->lk[i']?=some (some j)->i=i') (hT:∀i∈T,∀j,lk[i]?≠some (some j))
  (s1:SQ X C σ H1 β own) (ha:H1 a=none) (hk:hold k false) (it:AV X (av C (Wn own) k) J ds H1) (a0:Ac o0 (upd H1 a oa)) (ent:SQ X (C.u λc=>c=a) (c6 lk σ) (upd H1 a oa) (cH lk β) (bf lk β own))
  (Ka:∀Hb Wb β' o σ' H' N,C.H0 a=none->tS X C (Wn (bf lk β own)) T (c6 lk σ) H1 a Hb Wb Ac β' o σ' H'->Af o β' N->ta (λxF AW=>∃β' o',tS X C (Wn (bf lk β own)) T (c6 lk σ) H1 a Hb Wb Ac β' o' xF AW/\N β' o') σ' H')
  (q:lG γ τ Af ds k (cH lk β) o0 λβf o=>d9 (cH lk β) βf/\K o)
  (fin:∀o H',K o->Out X C σ H1 own true β H' own->Ac o H'->End H') :
  fD J (IC X C a Tg γ) (jG X (C.u λc=>c=a) true τ) ta (λ_ H'=>End H') (c6 lk σ) (upd H1 a oa):=by
 have h0:C.H0 a=none:=Vw λz=>s1.fP a z ha;have sm:aw H1 (upd H1 a oa):=aw.new ha;refine ue (W0:=Wn (bf lk β own)) (T:=T) (σ0:=c6 lk σ) (H1:=H1) (Hb:=H1) (Wb:=Wn (bf lk β own)) hA S1 γm τm (λi βx ox σx Hx sx=>?_) (λβx ox σx Hx Nx sx qx=>Ka _ _ _ _ _ _ _ h0 sx qx)
  ⟨bf lk β own,⟨ent,⟨λb z=>.inl z,sm.kp,λb z e=>z (sm.free e)⟩,λ_ z=>z,a0,sm,λb ob n e=>sm _ _ e,λ_ _=>rfl⟩⟩ q λβx ox σx Hx sx hx=>?_
 ·obtain⟨B9,sx⟩:=sx;have kI:Kp (λb=>av C (Wn own) k b\/H1 b=none) H1 Hx:=sx.pu.kp;obtain⟨g1,g2⟩:=it (λb=>av C (Wn own) k b\/H1 b=none) (λb z=>z) i Hx kI;refine⟨λd hd=>?_,g2⟩;obtain⟨go,yl⟩:=g1 d hd;refine⟨go,λx H3 y=>?_⟩;obtain⟨s3,r3⟩:=yl x H3 y;exact⟨s3,λaS NN=>ay.aO (λc z=>z.elim (λz=>.inl (iU (λc z=>bc c (NN c z)) k c z)) λz=>.inr (by rw[z];exact ha)) r3⟩
 ·obtain⟨B9,sx⟩:=sx;obtain⟨hh,hK⟩:=hx;have lv:SQ X C σ Hx β own:=s1.leave sx.sq sx.sn sx.le hh λj ok i' e1 e2=>sx.st i' λz=>hT i' z j e2;exact fin ox Hx hK ⟨lv,⟨λb z=>.inl z,sx.sn.k.mono λb z=>z.imp (bc b) id,sx.sn.d⟩,λz=>⟨sx.pu,rfl⟩,λ_ z=>z⟩ sx.ac
end
theorem HF {X:Cx}{C:Cfg}{σ:St}{H1 H':Hp}{β:a3}{own:Nat->List Addr}{a:Addr}{o:List D}(s1:SQ X C σ H1 β own)(ha:H1 a=none)(h:MO X.prog X.w H1 a o H'):KV X.prog X.w C (H1,Wn own) own H' .own (.lst o) (.ref a):=by
 obtain⟨vs,A,at',os,nd,nw⟩:=h;refine⟨a::A,⟨a,vs,A,rfl,at',rfl,os⟩,Vt.mpr ⟨λz=>(nw a z).2 rfl,nd⟩,λc hc=>?_⟩;have mE:H1 c=none:=by
  rcases UQ.mp hc with rfl|hc
  ·exact ha
  ·exact(nw c hc).1
 exact⟨mE,λh=>by obtain⟨j,hj⟩:=h;exact(s1.dm j c hj).1 mE,Vw λz=>s1.fP c z mE⟩
def Fy (lk:List (Option Nat))(ι:cI)(γ:eM)(τ:a8)(ι2:cI)(γ2:eM)(τ2:a8)(φ:aQ):aQ:=λβ R=>ι β λds k β1=>hold k false/\lG γ τ (D_ ι2 γ2 τ2 (Ey φ)) ds k (cH lk β1) [] λβf o=>d9 (cH lk β1) βf/\R (.lst o) .own β1
section
variable {X:Cx}{C:Cfg}{lk:List (Option Nat)}{γ γ2:eM}{τ τ2:a8}{φ:aQ}{T T2:List Nat}
variable {scope:Xp}{tg cF xZ mz elt:Expr}{ifs mB:List Expr}{ι ι2:cI}{pi:Bool}{pos:Pos}{i:Nat}
theorem R4 (N':List Str)(lk:List (Option Nat))(L:jl X.env.scope.names X.N scope N' lk=true)(wR:N'.Nodup)(hc:X.calm=true)(hi:AS X C pi tg cF ι)
  (xB:∀a cl c s H ex,AU (aE X scope N' cl c s H ex) (C.u λc=>c=a) tg T γ) (sR:∀a cl c s H ex,tT (aE X scope N' cl c s H ex) (C.u λc=>c=a) true ifs τ)
  (QH:∀a cl c s H ex,QY (aE X scope N' cl c s H ex) (C.u λc=>c=a) xZ mz ι2)
  (J_:∀a cl c s H ex,AU (aE X scope N' cl c s H ex) (C.u λc=>c=a) xZ T2 γ2) (J9:∀a cl c s H ex,tT (aE X scope N' cl c s H ex) (C.u λc=>c=a) true mB τ2)
  (xC:∀a cl c s H ex,PQ (aE X scope N' cl c s H ex) (C.u λc=>c=a) true elt φ) (hT:(T++T2).all (λi=>match lk[i]? with|some (some _)=>false|_=>true)=true:=by rfl)
  (hs:∀x,VM cF X.env x=pure x:=by intro _;rfl) (sU:∀cl c s H ex x,VM mz (aE X scope N' cl c s H ex).env x=pure x:=by intro _ _ _ _ _ _;rfl):PQ X C pi (.ListComp elt [⟨tg,cF,ifs,0⟩,⟨xZ,mz,mB,0⟩] scope pos) (Fy lk ι γ τ ι2 γ2 τ2 φ):=by
 have L:=Links.of L;have Lp:∀i∈T++T2,∀j,lk[i]?≠some (some j):=λi hi j e=>by
  have:=Ws.mp hT i hi;rw[e]at this;cases this
 have ax:Addr:=0;have UH:List (Str×Addr):=[];have γm:=(xB 0 [] 0 X.s₀ X.H₀ []).mono;have τm:=(sR 0 [] 0 X.s₀ X.H₀ []).mono;have MQ:=(J_ 0 [] 0 X.s₀ X.H₀ []).mono;have MP:=(J9 0 [] 0 X.s₀ X.H₀ []).mono;have φm:=(xC 0 [] 0 X.s₀ X.H₀ []).mono;have ιm:=(QH 0 [] 0 X.s₀ X.H₀ []).mono;refine⟨λβ R R' k h=>hi.mono β _ _ (λds kd β1 q=>⟨q.1,q.2.mono λ_ _ z=>⟨z.1,k _ _ _ z.2⟩⟩) h,?_⟩;refine(p0 (g:=⟨tg,cF,ifs,0⟩) (gs:=[⟨xZ,mz,mB,0⟩]) (tg:=λa=>IC X C a T γ) (tt:=λa=>jG X (C.u λc=>c=a) true τ)
  (ta:=λa N σ H=>∃β own,SQ X (C.u λc=>c=a) σ H β own/\ι2 β λds k β'=>∀J H',aw H H'->SQ X (C.u λc=>c=a) σ H' β' own->AV X (eN (C.u λc=>c=a) (Wn own) k) J ds H' ->
   fD J (IC X C a T2 γ2) (jG X (C.u λc=>c=a) true τ2) (PM X C a φ) N σ H')
  L hc iE rfl rfl (λ_ _=>Hz) hi.pi (λa cl c s H ex=>⟨(xB a cl c s H ex).pg,(sR a cl c s H ex).pt,B8 (X:=aE X scope N' cl c s H ex) (g':=⟨xZ,mz,mB,0⟩) rfl hc Hw (QH a cl c s H ex).pi (J_ a cl c s H ex).pg (J9 a cl c s H ex).pt (iD (X:=aE X scope N' cl c s H ex) rfl (xC a cl c s H ex).pe) (sU cl c s H ex)⟩) hs).pre λσ H Q h=>?_
 obtain⟨β,own,s,h⟩:=h;refine⟨β,own,s,hi.mono β _ _ (λds k β1 h J H1 aB o1 it a ha=>?_) h⟩;obtain⟨hk,q⟩:=h;refine ym (T:=T++T2) (tO (P:=X.prog) (w:=X.w) (H1:=H1)) γm τm (λj hj=>Wi _ hj) (eV L wR) Lp o1.sq ha hk it ⟨[],[],ao,(show aK _ _ _ [] [] [] from ⟨rfl,rfl⟩),VY,λc hc=>(nomatch hc)⟩ (o1.sq.enter ha (eV L wR))
  (λHb Wb βx ox σx Hx Nx h0 sx qx=>BC tO (λj hj=>Vu _ hj) MQ MP (λHb Wb βy oy σy Hy Ny sy qy=>BD h0 ha φm sy qy) ιm sx qx) q λo H' q o2 r=>?_
 refine q _ _ aB ⟨o2.sq,o1.sn.trans o2.sn,λz=>⟨(o1.pu z).1.trans (o2.pu rfl).1,(o1.pu z).2⟩,o1.le⟩ ((HF o1.sq ha r).later o1.sn)
end
section
variable {X:Cx}{C:Cfg}{e a:Expr}{φ:aQ}{p:Bool}{pos p2 p3 p4:Pos}{j:Nat}
theorem BZ {te:TE}(he:PE X e te):PE X (.Subscript e (.Slice none none (some (.UnaryOp .USub (.Constant (.int 1) j p3) p4)) p2) pos) (λσ H Q=>te σ H λx H1=>∃a xs,x=.ref a/\H1 a=some (.lst xs)/\∀p,H1 p=none->Q (.ref p) (upd H1 p (.lst xs.reverse))):=by
 intro pins s σ H Q I h;refine Subscript_ (bw (he pins s σ H _ I h) λv s1 ⟨x,H1,I1,r1,q1⟩=>?_);refine wpAny_Slice ?_;rw[evalPart_none];refine U6 (U6 ?_);rw[evalPart_some];refine bw (DW (X:=X) (pos:=p4) xS (aY (i:=1) (j:=j) (pos:=p3)) pins s1 σ H1 (λv H'=>v=.int (-1)/\H'=H1) I1 ⟨1,rfl,rfl,rfl⟩) λu s3 ⟨y,H3,I3,r3,ey,eH⟩=>?_;subst ey eH;obtain⟨tk,rfl⟩:=(show ∃t,u=Value.int (-1) t from r3)
 have I4:Inv X pins σ H3 {s3 with heap:=s3.heap.push {cls:=.type "slice",data:=.fields #[.none,.none,.int (-1) tk]}}:=I3.kept (t':=s3.toks) λb ob q=>U5 _ q
 have Ml:(s3.heap.push {cls:=.type "slice",data:=.fields #[.none,.none,.int (-1) tk]}).IsSliceOf s3.heap.objs.size .none .none (.int (-1) tk):=Heap.IsSliceOf.new ..
 generalize Mm:({s3 with heap:=s3.heap.push {cls:=.type "slice",data:=.fields #[.none,.none,.int (-1) tk]}}:UL)=s4 at I4 ⊢
 have N6:s4.heap.IsSliceOf s3.heap.objs.size .none .none (.int (-1) tk):=by rw[<- Mm];exact Ml
 have main:∃T id,typeLookup (.type T) "__getitem__" = pure (some (.builtin id))/\s4.TypeIs v T/\Vp (model X.prog X.w) X.A (getItem v (.ref s3.heap.objs.size)) (EP X pins σ Q) X.xe s4:=by
  obtain⟨a,xs,rfl,hx,q⟩:=q1;cases (show v=Value.ref a from r1)
  obtain⟨its,r,ht,hz⟩:=I4.list (dO.of hx);have hlen:=r.length;refine⟨"list",_,YK.lookup,ht.isList.typeIs,?_⟩;refine wpAny_getItem_list_slice ht.isList N6 .none .none (.int (-1) tk) (by simp) ?_ (by rw[Vc] <;> lia)
  rw[HT.mh];refine⟨.ref s4.heap.objs.size,_,I4.laid (t':=s4.toks) (o:=.lst xs.reverse) (λb ob q=>U5 _ q) (UO _) ?_,rfl,q _ (I4.bo.fresh (UO _))⟩;exact⟨by rw[XY];lia,_,0,by simpa using Vals.rev r,VF _ rfl⟩
 obtain⟨T,id,hT,ht,hg⟩:=main;show Vp (model X.prog X.w) X.A (subscriptTail e (.Slice none none (some (.UnaryOp .USub (.Constant (.int 1) j p3) p4)) p2) v (.ref s3.heap.objs.size)) (EP X pins σ Q) X.xe s4;exact tail_any (ops:=[v,.ref s3.heap.objs.size]) ht hT hg (by with_unfolding_all rfl)
def EA:D->Option D
 |.lst ds=>some (.lst ds.reverse)
 |_=>none
def Jf (φ:aQ):aQ:=λβ R=>φ β λx k β1=>∃d,EA x=some d/\kN NL d k.wk λk'=>R d k' β1
theorem BQ {j:Nat}(ha:PQ X C p a φ):PQ X C p (.Subscript a (.Slice none none (some (.UnaryOp .USub (.Constant (.int 1) j p3) p4)) p2) pos) (Jf φ) :=
 ⟨λβ R R' k h=>ha.mono β _ _ (λx kx β1 h=>by obtain⟨d,e,q⟩:=h;exact⟨d,e,q.mono λ_ z=>k _ _ _ z⟩) h,
  (BZ ha.pe).pre λσ H Q h=>by
    obtain⟨β,own,s,h⟩:=h;refine tQ.of ha s h λd k β1 v H1 aB h o1 r1=>?_;obtain⟨d',e,q⟩:=h;have rr:=ay.aO AL r1.rep;cases d with
    |lst ds =>
      cases e;obtain⟨c,vs,rfl,h1,n1,rs⟩:=rr;refine⟨c,vs,rfl,h1,λp hp=>?_⟩;have sm:aw H1 (upd H1 p (.lst vs.reverse)):=aw.new hp;have hw:¬ av C (Wn aB) k.wk p:=λz=>o1.sq.Ak _ p z hp;have r2:ay X.prog X.w (av C (Wn aB) k.wk) (upd H1 p (.lst vs.reverse)) (.lst ds.reverse) (.ref p):=⟨p,_,rfl,ao,hw,(ai.rev rs).same sm⟩;obtain⟨k',q,r⟩:=KV.kN (Z:=(H,Wn own)) DM r2 (λn=>gz (H:=H1) o1.sq.pq o1.sq.fP (λa z e=>o1.sn.d a z e) n ⟨p,_,rfl,ao,λz=>z hp,ai.flat n ((ai.rev rs).same sm)⟩) q;exact q _ _ aB (o1.same sm) r
    |_=>cases e⟩
end
end L2.Q
namespace L2
open PySem PySem.Spec PySem.SeqAt PyProof.Rows
def Apart (t u:List Int):Prop:=bD t u=false/\bJ t u=false
theorem b8 {t u:List Int}:bD t u=true↔∃i∈t,i∈u:=by
 unfold bD;rw[List.any_eq_true];simp
theorem fy {a b c d:Int}:fz a b c d=true↔(a<c/\c<b/\b<d)\/(c<a/\a<d/\d<b):=by
 unfold fz;simp[Y2,VI]
end L2
namespace L2.Q
open PySem PySem.Spec PySem.SeqAt PyProof.Rows
structure rP (mg:Str->Option UK):Prop extends Bs2 mg where
 sum:mg "sum" = none
def tI (p:Nat×Nat):List Int:=[(p.1:Int),(p.2:Int)]
theorem eE {p q:Nat×Nat}(h:tI p=tI q):p=q:=by
 unfold tI at h;injection h with h1 h2
 injection h2 with h2 _
 exact Prod.ext (Int.ofNat.inj h1) (Int.ofNat.inj h2)
def dJ (ps:List (Nat×Nat)):D:=.lst (ps.map λp=>kD (tI p))
def gU (n:Nat)(ps:List (Nat×Nat)):D:=.tup [.int n,dJ ps]
structure j5 (n:Nat)(ps:List (Nat×Nat)):Prop where
 lt:∀p∈ps,p.1<p.2/\p.2<n
 nd:ps.Nodup
 le:n<=80
 sm:ps.length<=400
theorem xY {n:Int}{ts:List (List Int)}(n0:0<=n)(h:gI n ts):∃ps:List (Nat×Nat),ts=ps.map tI/\∀p∈ps,p.1<p.2/\p.2<n.toNat:=by
 induction ts with
 |nil=>exact⟨[],rfl,λ_ z=>(nomatch z)⟩
 |cons t ts ih =>
  obtain⟨ps,e,q⟩:=ih λu hu=>h u (by simp[hu])
  obtain⟨a,b,rfl,h1,h2,h3⟩:=h t (by simp)
  refine⟨(a.toNat,b.toNat)::ps,?_,λp hp=>?_⟩
  ·rw[Vd,<- e]
   congr 1
   show [a,b]=[((a.toNat:Nat):Int),((b.toNat:Nat):Int)];rw[YB h1,YB (by lia)]
  ·rcases UQ.mp hp with rfl|hp
   ·exact⟨by show a.toNat<b.toNat;lia,by show b.toNat<n.toNat;lia⟩
   ·exact q p hp
theorem BG {n:Int}{ts:List (List Int)}(n0:0<=n)(n1:n<=80)(l:ts.length<=400)(h:gI n ts)(nd:ts.Nodup):∃(m:Nat) (ps:List (Nat×Nat)),j5 m ps/\n=m/\ts=ps.map tI/\D.tup [.int n,.lst (ts.map kD)]=gU m ps:=by
 obtain⟨ps,e,q⟩:=xY n0 h;refine⟨n.toNat,ps,⟨q,?_,by lia,by rw[e,UN]at l;exact l⟩,by lia,e,?_⟩
 ·rw[e]at nd;exact(Wl.mp nd).imp λz e=>z (congrArg tI e)
 ·unfold gU dJ;rw[e,VB,YB n0];rfl
def cj (l:List Nat):List D:=l.map λ(k:Nat)=>D.int (k:Int)
def gx (ps:List (Nat×Nat))(i:Nat):List Nat:=(ps.filter λp=>decide (p.1=i)).map (·.2)
theorem oQ {ps:List (Nat×Nat)}{i k:Nat}:k∈gx ps i↔(i,k)∈ps:=by
 unfold gx;rw[Vv];constructor
 ·rintro⟨p,hp,rfl⟩;obtain⟨h1,h2⟩:=Vk.mp hp;rw[<- of_decide_eq_true h2];exact h1
 ·intro h;exact⟨(i,k),Vk.mpr ⟨h,by simp⟩,rfl⟩
def L8 (n:Nat)(ps:List (Nat×Nat)):D:=.lst ((Vy n).map λi=>.lst (cj (gx ps i)))
theorem d4 {α:Type}{n i:Nat}{f:Nat->α}(h:i<n):((Vy n).map f)[i]?=some (f i):=by
 rw[U8,WA h];rfl
theorem qz {ds:List D}{x:Int}{i:Nat}{d:D}(hx:x=(i:Int))(h:ds[i]?=some d):xa (.lst ds) (.int x)=some d:=by rw[hx];exact Du h
theorem NQ {n:Nat}{ps:List (Nat×Nat)}{x:Int}{i:Nat}(hx:x=(i:Int))(h:i<n):xa (L8 n ps) (.int x)=some (.lst (cj (gx ps i))):=qz hx (d4 h)
def pH (L:Nat)(T:Nat->Int):List D:=(Vy L).map λl=>.int (T l)
def i3 (n:Nat)(L:Nat->Nat)(T:Nat->Nat->Int):D:=.lst ((Vy (n+1)).map λi=>.lst (pH (L i) λl=>T l i))
theorem Eg {L:Nat}{T:Nat->Int}{x:Int}{l:Nat}(hx:x=(l:Int))(h:l<L):xa (.lst (pH L T)) (.int x)=some (.int (T l)):=qz hx (d4 h)
theorem Ef {n:Nat}{L:Nat->Nat}{T:Nat->Nat->Int}{x:Int}{i:Nat}(hx:x=(i:Int))(h:i<=n):xa (i3 n L T) (.int x)=some (.lst (pH (L i) λl=>T l i)):=qz hx (d4 (by lia))
def dN (n a:Nat):List (Nat×Nat):=(Vy (a+1)).map λb=>(n-1-a,n-a+b)
def nX (n:Nat):List (Nat×Nat):=(Vy n).flatMap (dN n)
def BP (p:Nat×Nat):D:=.tup [.int (p.1:Int),.int (p.2:Int)]
def d6 (n a b:Nat):List (Nat×Nat):=(dN n a).drop b++((Vy n).drop (a+1)).flatMap (dN n)
theorem gV {n a b:Nat}(h:b<=a):d6 n a b=(n-1-a,n-a+b)::d6 n a (b+1):=by
 unfold d6 dN;rw[VW (by rw[UN,V1];lia)]
 simp
theorem nG {n a:Nat}(h:a<n):((Vy n).drop a).flatMap (dN n)=d6 n a 0:=by
 unfold d6;rw[VW (by rw[V1];exact h)]
 simp
theorem mW {n a:Nat}(h:a+1<n):d6 n a (a+1)=d6 n (a+1) 0:=by
 rw[<- nG h];unfold d6 dN;simp
theorem sg {n a:Nat}(h:n<=a+1):d6 n a (a+1)=[]:=by
 unfold d6 dN;rw[List.drop_eq_nil_of_le (by simp),List.drop_eq_nil_of_le (by simpa using h)]
 rfl
theorem vE {n:Nat}(h:0<n):nX n=d6 n 0 0:=by rw[<- nG h];rfl
theorem dD {α:Type}{γ:eM}{τ:a8}{φ:aQ}{l:List α}{f:α->D}{k:Kd}{ku:a3}{K:List D->Prop}(t:α->Bool)(g:α->D)(h0:d9 ku ku)(hl:l.length<=UW)
  (h:∀x∈l,∀(x0:Option B) (o:List D) (J:a3->List D->Prop),o.length<UW->(t x=true->∀x0,J (x0::ku) (o++[g x]))->(t x=false->∀x0,J (x0::ku) o)->γ (f x) (sk k (f x)) (x0::ku) λβ1=>τ β1 λt β2=>if t=true then φ β2 λx kx β3=>CD kx x/\o.length<UW/\J β3 (o++[x]) else J β2 o)
  (q:K ((l.filter t).map g)):lF γ τ φ (l.map f) k (none::ku) K:=by
 refine⟨λi β o=>i<=l.length/\(∃x0,β=x0::ku)/\o=((l.take i).filter t).map g,⟨U4 _,⟨_,rfl⟩,rfl⟩,?_,?_⟩
 ·rintro i d β o hd ⟨hi,⟨x0,rfl⟩,rfl⟩;rw[U8]at hd;obtain⟨x,hx,rfl⟩:=U3.mp hd;have fG:i<l.length:=(U0.mp hx).1;have hle:(((l.take i).filter t).map g).length<UW:=by
   rw[UN];have:=VD t (l.take i);rw[VH]at this;lia
  have e:l.take (i+1)=l.take i++[x]:=by rw[V0,hx];rfl
  refine h x (Vx hx) x0 _ (λβ o=>i+1<=l.length/\(∃x0,β=x0::ku)/\o=((l.take (i+1)).filter t).map g) hle (λht x0=>?_) λht x0=>?_
  ·exact⟨fG,⟨_,rfl⟩,by rw[e,V7,Vb,XG,if_pos ht];rfl⟩
  ·exact⟨fG,⟨_,rfl⟩,by rw[e,V7,Vb,XG,if_neg (by rw[ht];simp)];simp⟩
 ·rintro β o ⟨_,⟨x0,rfl⟩,rfl⟩;rw[UN,WC];exact⟨h0,q⟩
theorem Gm {α:Type}{γ:eM}{τ:a8}{φ:aQ}{l:List α}{f:α->D}{k:Kd}{ku:a3}{K:List D->Prop}(t:α->Bool)(g:α->D)(h0:d9 ku ku)(hl:l.length<=UW)
  (h:∀x∈l,∀(x0 x1:Option B) (o:List D) (J:a3->List D->Prop),o.length<UW->(t x=true->∀x0 x1,J (x0::x1::ku) (o++[g x]))->(t x=false->∀x0 x1,J (x0::x1::ku) o)->γ (f x) (sk k (f x)) (x0::x1::ku) λβ1=>τ β1 λt β2=>if t=true then φ β2 λx kx β3=>CD kx x/\o.length<UW/\J β3 (o++[x]) else J β2 o)
  (q:K ((l.filter t).map g)):lF γ τ φ (l.map f) k (none::none::ku) K:=by
 refine⟨λi β o=>i<=l.length/\(∃x0 x1,β=x0::x1::ku)/\o=((l.take i).filter t).map g,⟨U4 _,⟨_,_,rfl⟩,rfl⟩,?_,?_⟩
 ·rintro i d β o hd ⟨hi,⟨x0,x1,rfl⟩,rfl⟩;rw[U8]at hd;obtain⟨x,hx,rfl⟩:=U3.mp hd;have fG:i<l.length:=(U0.mp hx).1;have hle:(((l.take i).filter t).map g).length<UW:=by
   rw[UN];have:=VD t (l.take i);rw[VH]at this;lia
  have e:l.take (i+1)=l.take i++[x]:=by rw[V0,hx];rfl
  refine h x (Vx hx) x0 x1 _ (λβ o=>i+1<=l.length/\(∃x0 x1,β=x0::x1::ku)/\o=((l.take (i+1)).filter t).map g) hle (λht x0 x1=>?_) λht x0 x1=>?_
  ·exact⟨fG,⟨_,_,rfl⟩,by rw[e,V7,Vb,XG,if_pos ht];rfl⟩
  ·exact⟨fG,⟨_,_,rfl⟩,by rw[e,V7,Vb,XG,if_neg (by rw[ht];simp)];simp⟩
 ·rintro β o ⟨_,⟨x0,x1,rfl⟩,rfl⟩;rw[UN,WC];exact⟨h0,q⟩
theorem gj {α:Type}{l:List α}:l.filter (λ_=>true)=l:=List.filter_eq_self.mpr λ_ _=>rfl
theorem lY {a b:List D}(h:a.length+b.length<=1000000):Av (.lst a) (.lst b)=some (.lst (a++b)):=by
 show (if a.length+b.length<=UW then _ else _)=_
 rw[if_pos (Vq h (by decide))]
def z9:FD:=λds R=>∃n:Nat,ds=[.int n]/\n<=80/\R (.lst ((nX n).map BP))
theorem z9.mono:dt z9:=λds R R' k h=>by obtain⟨n,e,h1,q⟩:=h;exact⟨n,e,h1,k _ q⟩
def qR:FD:=λds R=>∃n ps,ds=[gU n ps]/\j5 n ps/\R (L8 n ps)
theorem qR.mono:dt qR:=λds R R' k h=>by obtain⟨n,ps,e,h1,q⟩:=h;exact⟨n,ps,e,h1,k _ q⟩
abbrev Es (n:Nat)(T:Nat->Nat->Int):D:=i3 n (λi=>n+1-i) T
theorem bU {n:Nat}(h:n<=1000):n<=UW:=Vq h (by decide)
theorem yc {n:Nat}(h:n<=1000):n<UW:=YF h (by decide)
theorem JZ {n i:Nat}{x:Int}(hx:x=(i:Int))(h:i<n):wH n x=some i:=by
 subst hx;unfold wH;rw[if_pos (by lia),if_pos (by lia)]
 simp
theorem ud {α:Type}{n i:Nat}{f:Nat->α}{y:α}(h:i<n):((Vy n).map f).set i y=(Vy n).map λk=>if k=i then y else f k:=by
 refine WW λk=>?_;rw[Ww]
 by_cases hk:k<n
 ·rw[d4 hk,d4 hk,UN,V1]
  by_cases e:i=k
  ·rw[if_pos e,if_pos (e▸hk),if_pos e.symm]
  ·rw[if_neg e,if_neg (W7 e)]
 ·rw[WS (l:=(Vy n).map f) (by simpa using hk),WS (l:=(Vy n).map λk=>if k=i then y else f k) (by simpa using hk),if_neg (by lia)]
theorem Fn {n i k:Nat}{ps:List (Nat×Nat)}(h:i<n):((Vy n).map λj=>D.lst (cj (gx ps j))).set i (.lst (cj (gx ps i)++[D.int k]))=(Vy n).map λj=>D.lst (cj (gx (ps++[(i,k)]) j)):=by
 rw[ud h];refine VR λj _=>?_;unfold gx cj;rw[V7,Vb,Vb]
 by_cases e:j=i
 ·rw[if_pos e,e];simp
 ·rw[if_neg e,XG,if_neg (by simpa using W7 e)];simp
theorem BO {ps:List (Nat×Nat)}{i:Nat}:(gx ps i).length<=ps.length:=by
 unfold gx;rw[UN];exact VD _ _
def fw (n a b:Nat)(i:Nat):Nat:=if n-1-a<i then n+1-i else if i=n-1-a then b+1 else 1
theorem BA {n a b:Nat}{T:Nat->Nat->Int}(ha:a<n)(hb:b<=a):
  ((Vy (n+1)).map λi=>D.lst (pH (fw n a b i) λl=>T l i)).set (n-1-a) (.lst (pH (b+1) (λl=>T l (n-1-a))++[D.int (T (b+1) (n-1-a))]))=(Vy (n+1)).map λi=>D.lst (pH (fw n a (b+1) i) λl=>T l i):=by
 rw[ud (by lia)]
 refine VR λi _=>?_;unfold fw
 by_cases e:i=n-1-a
 ·rw[if_pos e,e,if_neg (by lia),if_pos rfl]
  unfold pH;rw[List.range_succ (n:=b+1),Vb];rfl
 ·rw[if_neg e,if_neg e,if_neg e]
theorem wA {n a:Nat}(h:a+1<n)(i:Nat)(hi:i<=n):fw n a (a+1) i=fw n (a+1) 0 i:=by
 unfold fw
 by_cases h1:n-1-a<i
 ·rw[if_pos h1,if_pos (by omega)]
 ·rw[if_neg h1]
  by_cases h2:i=n-1-a
  ·rw[if_pos h2,if_pos (by omega)];omega
  ·rw[if_neg h2,if_neg (by omega)]
   split <;> rfl
theorem zB {n a:Nat}(h:n=a+1)(i:Nat)(hi:i<=n):fw n a (a+1) i=n+1-i:=by
 unfold fw
 split
 ·rfl
 ·split <;> lia
theorem sM {n:Nat}(h:0<n)(i:Nat)(hi:i<=n):fw n 0 0 i=1:=by
 unfold fw
 split
 ·lia
 ·split <;> rfl
theorem mS {n:Nat}{L L':Nat->Nat}{T:Nat->Nat->Int}(h:∀i,i<=n->L i=L' i):i3 n L T=i3 n L' T:=by
 unfold i3
 congr 1
 refine VR λi hi=>?_;rw[h i (by have:=V_.mp hi;lia)]
def vA (n idx:Nat)(L:Nat->Nat):Prop:=(n=0/\L 0=1)\/∃a b,a<n/\b<=a+1/\(∀i,i<=n->L i=fw n a b i)/\(nX n).drop idx=d6 n a b
theorem qX {n:Nat}:vA n 0 λ_=>1:=by
 rcases Nat.eq_zero_or_pos n with h|h
 ·exact .inl ⟨h,rfl⟩
 ·exact .inr ⟨0,0,h,U4 _,λi hi=>(sM h i hi).symm,vE h⟩
theorem w5 {n:Nat}{L:Nat->Nat}(h:vA n (nX n).length L):∀i,i<=n->L i=n+1-i:=by
 rcases h with⟨rfl,h⟩|⟨a,b,h1,h2,h3,h4⟩
 ·intro i hi;rw[show i=0 by lia,h]
 ·intro i hi;rw[List.drop_length]at h4;have hb:b=a+1:=by
   rcases WJ a b with q|q
   ·lia
   ·rw[gV q]at h4;cases h4
  have ha:n=a+1:=by
   rcases WJ (a+1) n with q|q
   ·rw[hb,mW q,gV (U4 _)]at h4;cases h4
   ·lia
  rw[h3 i hi,hb];exact zB ha i hi
theorem tw {n idx:Nat}{L:Nat->Nat}{p:Nat×Nat}(h:vA n idx L)(hp:(nX n)[idx]?=some p):∃a b,a<n/\b<=a/\p=(n-1-a,n-a+b)/\(∀i,i<=n->L i=fw n a b i)/\(nX n).drop (idx+1)=d6 n a (b+1):=by
 have hd:(nX n).drop idx=p::(nX n).drop (idx+1):=by
  obtain⟨h1,h2⟩:=U0.mp hp;rw[VW h1,h2]
 rcases h with⟨rfl,h⟩|⟨a,b,h1,h2,h3,h4⟩
 ·cases hp
 ·have key:∃a b,a<n/\b<=a/\(∀i,i<=n->L i=fw n a b i)/\(nX n).drop idx=d6 n a b:=by
   rcases WJ a b with q|q
   ·have e:b=a+1:=by lia
    rcases WJ (a+1) n with q2|q2
    ·exact⟨a+1,0,q2,U4 _,λi hi=>by rw[h3 i hi,e,wA q2 i hi],by rw[h4,e,mW q2]⟩
    ·rw[h4,e,sg q2]at hd;cases hd
   ·exact⟨a,b,h1,q,h3,h4⟩
  obtain⟨a,b,h1,h2,h3,h4⟩:=key;rw[h4,gV h2]at hd;injection hd with e1 e2
  exact⟨a,b,h1,h2,e1.symm,h3,e2.symm⟩
theorem pR {n a:Nat}:(dN n a).length=a+1:=by unfold dN;simp
theorem vP {n a b:Nat}(h:b<a+1):(dN n a).take (b+1)=(dN n a).take b++[(n-1-a,n-a+b)]:=by
 rw[V0];unfold dN;rw[d4 h];rfl
theorem yq {n a:Nat}:(dN n a).take (a+1)=dN n a:=Wr (by rw[pR];exact UO _)
theorem qJ {n:Nat}:∀a:Nat,a<=n->(((Vy n).take a).flatMap (dN n)).length<=a*a
 |0,_=>by simp
 |a+1,h=>by
  have:=qJ (n:=n) a (by lia)
  rw[V0,WA (show a<n by lia),List.flatMap_append,Vr]
  have e:((some a).toList.flatMap (dN n)).length=a+1:=by simp[pR]
  rw[e,Nat.mul_add,XM];lia
theorem ye {n a b:Nat}(hn:n<=80)(ha:a<n)(hb:b<a+1):(((Vy n).take a).flatMap (dN n)).length+((dN n a).take b).length<UW:=by
 have h1:=qJ (n:=n) a (by lia)
 have h2:((dN n a).take b).length<=b:=by rw[VH];exact XT _ _
 have h3:a*a<=80*80:=Xv (by lia) (by lia)
 have h4:80*80+80<UW:=by decide
 lia
def oD:Option Nat->D
 |none=>.cg
 |some k=>.int (k:Int)
def parts (i:Nat)(k:Option Nat)(j:Nat):List (Nat×Nat):=match k with
 |none=>[(i+1,j)]
 |some k=>[(i+1,k),(k+1,j)]
def lU:FD:=λds R=>∃(i:Nat) (k:Option Nat) (j:Nat),ds=[.int i,oD k,.int j]/\R (.lst ((parts i k j).map BP))
theorem lU.mono:dt lU:=λds R R' k h=>by obtain⟨i,c,j,e,q⟩:=h;exact⟨i,c,j,e,k _ q⟩
theorem Eb:∀{i:Nat} {l:List Nat},l.Nodup->(∀x∈l,x<i)->l.length<=i
 |0,l,_,h=>by
  cases l with
  |nil=>exact UO _
  |cons x l=>exact absurd (h x (by simp)) (Nat.not_lt_zero _)
 |i+1,l,nd,h=>by
  have q:=Eb (i:=i) (nd.erase i) λx hx=>by
   have:=nd.mem_erase_iff.mp hx;have:=h x this.2;lia
  have:=List.length_erase (a:=i) (l:=l)
  split at this <;> lia
theorem Ap {ds:List D}{d:D}:xa (.lst (ds++[d])) (.int (-1))=some d:=by
 show mK (ds++[d]) (-1)=some d;unfold mK wH;rw[if_neg (by decide),if_pos (by rw[Vr,WR];lia),WB,Vr,WR,show (-1+((ds.length+1:Nat):Int)).toNat=ds.length by lia,VU (UO _),X2]
 rfl
theorem qI {ps:List (Nat×Nat)}:D.eW (ps.map λp=>kD (tI p))=true:=by
 have:=lQ (ps.map tI);rw[VB]at this;exact this
def qU:FD:=λds R=>∃n ps,ds=[gU n ps]/\R (gU n ps)
theorem qU.mono:dt qU:=λds R R' k h=>by obtain⟨n,ps,e,q⟩:=h;exact⟨n,ps,e,k _ q⟩
theorem pI {α:Type}{f:α->Nat}:∀{l:List α},(l.map λa=>((f a:Nat):Int)).sum=((l.map f).sum:Nat)
 |[]=>rfl
 |a::l=>by rw[Vd,Xe,Vd,Xe,pI];lia
def l8:Nat->Nat
 |0=>1
 |n+1=>(n+1)*l8 n
theorem oX (a:Nat):∀b,l8 a*l8 b<=l8 (a+b)
 |0=>by show l8 a*1<=l8 a;lia
 |b+1=>by
  show l8 a*((b+1)*l8 b)<=(a+b+1)*l8 (a+b);rw[YN];exact Xv (by lia) (oX a b)
theorem eX {a b:Nat}(h:a<=b):l8 a<=l8 b:=by
 induction b with
 |zero=>rw[show a=0 by lia];exact UO _
 |succ b ih =>
  rcases WJ b a with q|q
  ·rw[show a=b+1 by lia];exact UO _
  ·exact Vq (ih q) (Nat.le_mul_of_pos_left _ (by lia))
theorem tG {a b:Int}(h:j6 a b):Ht (.int a) (.int b)=some (.int (a*b)):=by
 show (if j6 a b then _ else _)=_
 rw[if_pos h]
theorem sum_ints {α:Type}{f:α->Int}{l:List α}:kq (λns=>some ns.sum) [.lst (l.map λk=>D.int (f k))]=some (.int (l.map f).sum):=by
 have e:(l.map λk=>D.int (f k))=(l.map f).map D.int:=by simp
 rw[e];exact tE rfl
theorem mQ {kvs:List (List Int×D)}{t u:List Int}{d:D}(h:fR kvs t=none):fR (kvs++[(t,d)]) u=if u=t then some d else fR kvs u:=by
 unfold fR at *
 rw[List.find?_append]
 by_cases e:u=t
 ·subst e;rw[if_pos rfl,Option.map_eq_none_iff.mp h];simp
 ·rw[if_neg e];cases q:kvs.find? λp=>decide (p.1=u)with
  |some p=>rfl
  |none=>simp[W7 e]
theorem oW {kvs:List (List Int×D)}{x y:Int}{i j:Nat}{d:D}(hx:x=(i:Int))(hy:y=(j:Int))(h:fR kvs (tI (i,j))=some d):vi (dA kvs) (.tup [.int x,.int y])=some d:=by
 subst hx hy;rw[<- h];exact DA (t:=tI (i,j))
theorem yi (n:Nat)(ps:List (Nat×Nat)):(gU n ps).pd.canLay0=true/\(gU n ps).pd.depth<=4:=by
 have:=vI (n:Int) (ps.map tI);unfold Fv at this;rw[VB]at this;exact this
def Lr:V->D
 |.cg=>.cg
 |.bl b=>.bl b
 |.int i=>.int i
 |.str x=>.str x
 |.ref a=>.obj a
 |_=>.cg
def PJ:D->List V->D
 |.lst _,vs=>.lst (vs.map Lr)
 |.dT ks _,vs=>.dT ks (vs.map Lr)
 |.dK ks _,vs=>.dK ks (vs.map Lr)
 |d,_=>d
section
variable {P:UP}{w:U1}{C:Cfg}{σ:St}{H:Hp}{β:a3}{own:Nat->List Addr}{i:Nat}
theorem FV {W:Addr->Prop}{H':Hp}{d:D}{v:V}(r:ay P w W H' d v):Own P w H (Lr v) v []:=by
 cases d with
 |tup ds=>obtain⟨a,vs,rfl,_⟩:=r;exact⟨rfl,rfl⟩
 |lst ds=>obtain⟨a,vs,rfl,_⟩:=r;exact⟨rfl,rfl⟩
 |dT ks ds=>obtain⟨a,vs,rfl,_⟩:=r;exact⟨rfl,rfl⟩
 |dK ks ds=>obtain⟨a,vs,rfl,_⟩:=r;exact⟨rfl,rfl⟩
 |sT ts=>obtain⟨a,rfl,_⟩:=r;exact⟨rfl,rfl⟩
 |ob φ=>obtain⟨a,rfl,_⟩:=r;exact⟨rfl,rfl⟩
 |cg=>cases (show v=_ from r);exact⟨rfl,rfl⟩
 |bl b=>cases (show v=_ from r);exact⟨rfl,rfl⟩
 |int b=>cases (show v=_ from r);exact⟨rfl,rfl⟩
 |str b=>cases (show v=_ from r);exact⟨rfl,rfl⟩
 |obj b=>cases (show v=_ from r);exact⟨rfl,rfl⟩
theorem kg {W:Addr->Prop}{H':Hp}:∀{ds:List D} {vs:List V},ai P w W H' ds vs->aK P w H (vs.map Lr) vs []
 |[],_,e=>by cases e;exact⟨rfl,rfl⟩
 |_::_,_,⟨v,vs,rfl,h1,h2⟩=>⟨v,vs,[],[],rfl,rfl,FV h1,kg h2⟩
theorem oG {W:Addr->Prop}{H':Hp}{d:D}{o:HO}{vs:List V}{a:Addr}(r:ai P w W H' (IY d) vs)(sh:HU d o vs)(h:H a=some o):Own P w H (PJ d vs) (.ref a) [a]:=by
 cases d with
 |lst ds=>cases sh;exact⟨a,vs,[],rfl,h,rfl,kg r⟩
 |dT ks ds=>obtain⟨rfl,l⟩:=sh;exact⟨a,vs,[],rfl,h,l,rfl,kg r⟩
 |dK ks ds=>obtain⟨rfl,l⟩:=sh;exact⟨a,vs,[],rfl,h,l,rfl,kg r⟩
 |_=>exact sh.elim
theorem IX {d:D}{o:HO}{vs:List V}(sh:HU d o vs):∀xs,o≠.tup xs:=λxs z=>by
 cases d with
 |lst ds=>cases sh;cases z
 |dT ks ds=>obtain⟨rfl,l⟩:=sh;cases z
 |dK ks ds=>obtain⟨rfl,l⟩:=sh;cases z
 |_=>exact sh.elim
theorem bz.toShl {d0 d:D}{v:V}{y:Bool}(s:bz P w C σ H β own)(e:β[i]?=some (some (.own d0)))(hσ:σ[i]?=some (some v))(r:HI P w (eN C (Wn own) (yk y)) H d v (own i)):bz P w C σ H (β.set i (some (.shl y d))) own:=by
 refine⟨by simp[s.len],λj y' d' q=>?_,λj d' q=>?_,λj ok q=>?_,s.dm,s.g_,s.l7,s.kp,s.fP,λj y' d' q=>?_⟩
 ·by_cases aC:i=j
  ·subst aC;obtain⟨e',_⟩:=aU q;cases e'
  ·rw[aP aC]at q;exact s.val j y' d' q
 ·by_cases aC:i=j
  ·subst aC;obtain⟨e',_⟩:=aU q;cases e'
  ·rw[aP aC]at q;exact s.ow j d' q
 ·by_cases aC:i=j
  ·subst aC;obtain⟨e',_⟩:=aU q;cases e'
  ·rw[aP aC]at q;exact s.nz j ok q
 ·by_cases aC:i=j
  ·subst aC;obtain⟨e',_⟩:=aU q;cases e';obtain⟨_,_,_,h0⟩:=s.ow i d0 e;exact⟨v,hσ,r,h0⟩
  ·rw[aP aC]at q;exact s.shl j y' d' q
theorem bz.t5 {d:D}{y:Bool}(s:bz P w C σ H β own)(e:β[i]?=some (some (.shl y d))):∃a o vs,σ[i]?=some (some (.ref a))/\own i=[a]/\H a=some o/\HU d o vs/\ai P w (eN C (Wn own) (yk y)) H (IY d) vs/\C.H0 a=none/\bz P w C σ H (β.set i (some (.own (PJ d vs)))) own:=by
 obtain⟨v,h1,⟨a,o,vs,rfl,h2,h3,h4,h5⟩,h6⟩:=s.shl i y d e;refine⟨a,o,vs,h1,h2,h3,h4,h5,h6 a (by rw[h2];simp),by simp[s.len],λj y' d' q=>?_,λj d' q=>?_,λj ok q=>?_,s.dm,s.g_,s.l7,s.kp,s.fP,λj y' d' q=>?_⟩
 ·by_cases aC:i=j
  ·subst aC;obtain⟨e',_⟩:=aU q;cases e'
  ·rw[aP aC]at q;exact s.val j y' d' q
 ·by_cases aC:i=j
  ·subst aC;obtain⟨e',_⟩:=aU q;cases e';exact⟨.ref a,h1,by rw[h2];exact oG h5 h4 h3,h6⟩
  ·rw[aP aC]at q;exact s.ow j d' q
 ·by_cases aC:i=j
  ·subst aC;obtain⟨e',_⟩:=aU q;cases e'
  ·rw[aP aC]at q;exact s.nz j ok q
 ·by_cases aC:i=j
  ·subst aC;obtain⟨e',_⟩:=aU q;cases e'
  ·rw[aP aC]at q;exact s.shl j y' d' q
theorem Fm {W:Addr->Prop}{d:D}{o:HO}{vs:List V}{a:Addr}(sh:HU d o vs)(h:H a=some o)(nw:¬ W a)(r:ai P w W H (IY d) vs):ay P w W H d (.ref a):=by
 cases d with
 |lst ds=>cases sh;exact⟨a,vs,rfl,h,nw,r⟩
 |dT ks ds=>obtain⟨rfl,l⟩:=sh;exact⟨a,vs,rfl,h,l,nw,r⟩
 |dK ks ds=>obtain⟨rfl,l⟩:=sh;exact⟨a,vs,rfl,h,l,nw,r⟩
 |_=>exact sh.elim
theorem bz.C1 {d:D}{y:Bool}(s:bz P w C σ H β own)(e:β[i]?=some (some (.shl y d))):bz P w C σ H (β.set i (some (.val y d))) (aD own i []):=by
 obtain⟨a,o,vs,h1,h2,h3,h4,h5,h6,s'⟩:=s.t5 e;have hl:i<β.length:=(U0.mp e).1;have f:=s'.freeze (get_set hl);have sub:∀c,eN C (Wn (aD own i [])) (yk y) c->eN C (Wn own) (yk y) c:=eY (λc z=>cZ z) _;have q:=bz.cK (i:=i) (d:=d) (v:=.ref a) (y:=y) f (Fm h4 h3 (λz=>?_) (ai.aO sub h5))
 ·have es:σ.set i (some (.ref a))=σ:=by
   apply WW;intro j;rw[Ww]
   by_cases aC:i=j
   ·subst aC;rw[if_pos rfl,h1,if_pos (U0.mp h1).1]
   ·rw[if_neg aC]
  have eo:aD (aD own i []) i []=aD own i []:=by
   funext j
   by_cases aC:i=j
   ·rw[<- aC,os_eq,os_eq]
   ·rw[a_ aC,a_ aC]
  rw[es,Xw,Xw,eo]at q;exact q
 ·have nW:¬ Wn (aD own i []) a:=λK3=> by
   obtain⟨j,hj⟩ := K3;obtain⟨hj,ne⟩:=bb hj;exact ne (s.g_ j i a hj (by rw[h2];simp))
  rcases z with z|z
  ·cases y with
   |true=>exact z.elim nW λz=>z h6
   |false=>exact nW z
  ·exact(s.dm i a (by rw[h2];simp)).2.2.2 z
end
abbrev Qq (k:Kd)(d:D):Prop:=match k with
 |.own=>True
 |.cE=>True
 |_=>d.flat=true
theorem KV.yg {P:UP}{w:U1}{C:Cfg}{Z:Hp×(Addr->Prop)}{own:Nat->List Addr}{H:Hp}{d:D}{v:V}{k:Kd}(f:Qq k d)(r:KV P w C Z own H k d v):ay P w (av C (Wn own) .cE) H d v:=by
 cases k with
 |own=>exact r.cE
 |cE=>exact r
 |old=>exact ay.flat f r
 |bor=>exact ay.flat f r
theorem ai.snoc {P:UP}{w:U1}{W:Addr->Prop}{H:Hp}{d:D}{v:V}(h:ay P w W H d v):∀{ds:List D} {vs:List V},ai P w W H ds vs->ai P w W H (ds++[d]) (vs++[v])
 |[],_,e=>by cases e;exact⟨v,[],rfl,h,rfl⟩
 |_::_,_,⟨u,r,rfl,h1,h2⟩=>⟨u,r++[v],rfl,h1,ai.snoc h h2⟩
section
variable {X:Cx}{C:Cfg}{k e:Expr}{es:List Expr}{φ:aQ}{φs:b3}{i:Nat}{x:Str}{pos pos' px pc ap cp:Pos}{p:Bool}
def Ji (i:Nat):aQ:=λβ R=>∃d,β[i]?=some (some (.shl true d))/\R d .cE (β.set i (some (.val true d)))
theorem BS (hN:X.N[i]?=some x:=by rfl)(hv:rM X.env.scope x:=by first|exact .inl rfl|exact .inr (.inl rfl)|exact .inr (.inr rfl))(hd:(x==("__debug__" : Str))=false:=by decide)(fH:(x==("__classdict__" : Str))=false:=by decide):
  PQ X C false (.Name x pos) (Ji i):=⟨λβ R R' k h=>by obtain⟨b,e,h⟩:=h;exact⟨b,e,k _ _ _ h⟩,(cL hN hv hd fH).pre λσ H Q h=>by
 obtain⟨β,own,s,d,e,q⟩:=h;have f:=s.C1 e;obtain⟨v,h1,h2⟩:=f.fR (y:=true) (get_set (U0.mp e).1);exact⟨v,h1,q v H _ ⟨f,⟨λb z=>.inl (cZ z),Kp.refl,λ_ z=>z⟩,λz=>(nomatch z),λ_ z=>cZ z⟩ h2⟩⟩
theorem E_ {own:Nat->List Addr}{i:Nat}{a:Addr}(h:own i=[a]):∀c,Wn (aD own i [a]) c->Wn own c:=λc K2=> by
 obtain⟨j,hj⟩ := K2
 by_cases aC:i=j
 ·rw[<- aC,os_eq]at hj;exact⟨i,by rw[h];exact hj⟩
 ·rw[a_ aC]at hj;exact⟨j,hj⟩
theorem bz.Nv {P:UP}{w:U1}{U:Addr->Prop}{σ:St}{H:Hp}{β:a3}{own:Nat->List Addr}{d d':D}{a:Addr}{o:HO}{vs':List V}(b:bz P w (C.u U) σ H β own)(e:β[i]?=some (some (.shl true d)))(hσ:σ[i]?=some (some (.ref a)))
  (sh:HU d' o vs') (r:ai P w (av (C.u U) (Wn own) .cE) (upd H a o) (IY d') vs'):bz P w C.z σ (upd H a o) (β.set i (some (.shl true d'))) (aD own i [a])/\(∀c∈[a],c∈own i\/(C.H0 c=none/\¬ Wn own c/\U c))/\Wn own a/\∃oc,H a=some oc/\∀xs,oc≠.tup xs:=by
 obtain⟨a',o1,vs,h1,h2,h3,h4,h5,h6,s'⟩:=b.t5 e;rw[hσ]at h1;cases h1;have hl:i<β.length:=(U0.mp e).1;have ha:a∈own i:=by rw[h2];simp
 have hA:∀c∈[a],c∈own i\/(C.H0 c=none/\¬ Wn own c/\U c):=λc hc=>.inl (by rw[h2];exact hc)
 have q:=s'.putIn (get_set hl) hσ ha (oG r sh ao) (by simp) hA
 rw[Xw]at q;have q2:=q.toShl (d:=d') (y:=true) (get_set (by simpa using hl)) hσ ⟨a,o,vs',rfl,by rw[os_eq],ao,sh,ai.aO (λc z=>?_) r⟩
 ·rw[Xw]at q2;exact⟨q2,hA,⟨i,ha⟩,o1,h3,IX h4⟩
 ·rcases z with z|z
  ·exact iU (C:=C) (E_ h2) .cE c z
  ·exact z.elim
theorem zE {H:Hp}{a:Addr}{o oc:HO}{W:Addr->Prop}(h:H a=some oc)(ht:∀xs,oc≠.tup xs)(hw:W a):Kp W H (upd H a o):=(jn h ht).mono λc z=>by rw[z];exact hw
theorem B6 (he:∀U,PQ X (C.u U) p e φ)(hN:X.N[i]?=some x:=by rfl)(hv:rM X.env.scope x:=by first|exact .inl rfl|exact .inr (.inl rfl)|exact .inr (.inr rfl))(hd:(x==("__debug__" : Str))=false:=by decide)(fH:(x==("__classdict__" : Str))=false:=by decide)
  (cW:Wz (.Name x px) "append" X.env (eval (.Name x px) X.env)=eval (.Name x px) X.env:=by rfl)
  (jw:((V6 cp (US [e] X.env)).all (λx=>!x.1)&&(Yu cp (XJ [] X.env)).all (λx=>x.1.isSome)&&decide ([e].length+([]:List Xi).length+(if ([]:List Xi).isEmpty then 0 else 1)<30))=true:=by rfl)
  (cV:(ap.endLine==cp.line)=true:=by rfl) (hs:US [e] X.env=(false,eval e X.env)::US [] X.env:=by rfl) (cO:(V6 cp (US [] X.env)).any (·.1)=false:=by rfl)
  (sS:Wf (.Call (.Attribute (.Name x px) "append" ap) [e] [] cp) none pos.line X.env=pure false:=by rfl) :
  PB X C (.Expr (.Call (.Attribute (.Name x px) "append" ap) [e] [] cp) pos) (λE β=>(∃ds,β[i]?=some (some (.shl true (.lst ds))))/\φ β λd k β'=>Qq k d/\∃ds,β'[i]?=some (some (.shl true (.lst ds)))/\ds.length<UW/\E.nx (β'.set i (some (.shl true (.lst (ds++[d])))))):=by
 refine⟨λE E' β l h=>by obtain⟨h1,q⟩:=h;exact⟨h1,(he λ_=>False).mono _ _ _ (λd k β' h=>by obtain⟨f,ds,h1,h2,q⟩:=h;exact⟨f,ds,h1,h2,l.nx _ q⟩) q⟩,λpins s σ H D I ⟨Z,E,β,⟨own,sq,n⟩,⟨⟨Tn,hb⟩,q⟩,ok⟩=>?_⟩
 refine oz (pos:=pos) (uw (apos:=ap) (cpos:=cp) PySem.F.plainAttrs_list PySem.F.slot_list_append PySem.F.type_list_append ji (cL (pos:=px) hN hv hd fH) (a6 (he λa=>H a=none).pe cy hs) cW jw cV hs cO) sS pins s σ H D I ?_;obtain⟨a,o0,vs,h1,h2,h3,h4,_⟩:=sq.t5 hb;cases h4;refine⟨.ref a,h1,.inl ⟨rfl,vs,dO.of h3⟩,tQ.of (he λa=>H a=none) (sq.jE (C:=C.z) (U:=λa=>H a=none) λa z=>z) q λd k β' v H1 aB ⟨f,ds,lO,hl,q⟩ o r=>?_⟩;obtain⟨a',o1,vs',g1,g2,g3,g4,g5,_,_⟩:=o.sq.t5 lO;rw[h1]at g1;cases g1;cases g4;have wa:av (C.u λa=>H a=none) (Wn aB) .cE a:=.inl ⟨i,by rw[g2];simp⟩
 have kp:Kp (av (C.u λa=>H a=none) (Wn aB) .cE) H1 (upd H1 a (.lst (vs'++[v]))):=zE g3 (λxs z=>by cases z) wa
 obtain⟨s2,hA,hw,CO⟩:=o.sq.Nv (d':=.lst (ds++[d])) (o:=.lst (vs'++[v])) (vs':=vs'++[v]) lO h1 rfl (ai.snoc ((r.yg f).keep kp) ((ai.aO (λc z=>.inl z) g5).keep kp));exact⟨a,vs',v,rfl,rfl,g3,by rw[g5.length];exact hl,ok.nx _ _ _ ⟨_,s2,kU (C:=C) (n.trans o.sn) (λb z=>n.free z) hw CO hA⟩ q⟩
theorem B5 (he:∀U,pC X (C.u U) p es φs)(hN:X.N.Nodup)(hi:X.N[i]?=some x:=by rfl)(hx:Loc X.env.scope x:=by first|exact .inl rfl|exact .inr rfl)
  (hs:Wf (.List es pc) (some (.Name x pos')) pos.line X.env=pure false:=by rfl) (hf:X.fn x=true\/X.env.scope.names.lookup x=some .local:=by first|exact .inl rfl|exact .inr rfl|assumption) :
  PB X C (.Assign [.Name x pos'] (.List es pc) pos) (λE β=>φs β λds ks β'=>gG ks=.cE/\ds.length<=UW/\i<β'.length/\E.nx (β'.set i (some (.shl true (.lst ds))))) :=
 ⟨λE E' β l h=>(he λ_=>False).mono _ _ _ (λds ks β' h=>⟨h.1,h.2.1,h.2.2.1,l.nx _ h.2.2.2⟩) h,λpins s σ H D I K1=> by
  obtain⟨Z,E,β,⟨own,sq,n⟩,q,ok⟩ := K1;refine gW hN hi hx (oE (he λa=>H a=none).pa) hs hf pins s σ H D I ?_;refine rH.of (he λa=>H a=none) (sq.jE (C:=C.z) (U:=λa=>H a=none) λa z=>z) q λds ks β1 vs H1 aB ⟨hk,hl,OM,q⟩ o r=>⟨by rw[r.length];exact hl,λa ha=>?_⟩
  have QO:H a=none:=o.sn.free ha;have h0:C.H0 a=none:=Vw λz=>o.sq.fP a z ha;have nw:¬ Wn aB a:=λz=>o.sq.pq a z ha;have rr:=r.iu;rw[hk]at rr;have s1:=o.sq.same (aw.new (o:=.lst vs) ha);have s2:=s1.r_ (i:=i) (oG (d:=.lst ds) (vs:=vs) rr rfl ao) (by simp) λc hc=>⟨by rw[UX.mp hc];exact h0,by rw[UX.mp hc];exact nw,by rw[UX.mp hc];exact QO⟩
  have s3:=s2.toShl (d:=.lst ds) (y:=true) (get_set OM) (get_set (by rw[<- o.sq.len];exact OM)) ⟨a,.lst vs,vs,rfl,by rw[os_eq],ao,rfl,(ai.grow (λc z=>?_) rr).same (aw.new ha)⟩
  ·rw[Xw]at s3;refine ok.nx _ _ _ ⟨_,s3,?_⟩ q;have m:=(n.trans o.sn).same (aw.new (o:=.lst vs) ha);exact⟨λb K0=> by
    obtain⟨j,hj⟩ := K0
    by_cases aC:i=j
    ·rw[<- aC,os_eq]at hj;rw[UX.mp hj];exact .inr (n.free QO)
    ·rw[a_ aC]at hj;exact m.w b ⟨j,hj⟩,m.k,m.d⟩
  ·rcases z with z|z
   ·rcases z with⟨j,hj⟩|z
    ·by_cases aC:i=j
     ·rw[<- aC,os_eq]at hj;rw[UX.mp hj];exact .inr ha
     ·rw[a_ aC]at hj;exact .inl (.inl ⟨j,hj⟩)
    ·exact .inl (.inr z)
   ·exact z.elim⟩
end
def m8 (τ:a8)(T:Nat)(ds:List D)(β0:a3)(K:List D->Prop):Prop:=∃I:Nat->a3->List D->Prop,I 0 β0 [] /\
 (∀i d β o,ds[i]?=some d->I i β o->τ (β.set T (some (.val true d))) λt β2=>if t=true then o.length<UW/\I (i+1) β2 (o++[d]) else I (i+1) β2 o)/\∀β o,I ds.length β o->d9 β0 β/\K o
theorem m8.mono {τ:a8}{T:Nat}{ds:List D}{β0:a3}{K K':List D->Prop}(h:∀o,K o->K' o)(q:m8 τ T ds β0 K):m8 τ T ds β0 K':=let ⟨I,h0,h1,h2⟩:=q;⟨I,h0,h1,λβ o z=>⟨(h2 β o z).1,h _ (h2 β o z).2⟩⟩
section
variable {X:Cx}{C:Cfg}{lk:List (Option Nat)}{τ:a8}{T:Nat}
theorem wV {σ:St}{H1:Hp}{β:a3}{own:Nat->List Addr}{a:Addr}{J:It}{ds:List D}{K:List D->Prop}{End:Hp->Prop}
  (τm:∀β R R',(∀d β,R d β->R' d β)->τ β R->τ β R')
  (inj:∀(i i' j:Nat),lk[i]?=some (some j)->lk[i']?=some (some j)->i=i') (hT:∀j,lk[T]?≠some (some j)) (S0:T<lk.length)
  (s1:SQ X C σ H1 β own) (ha:H1 a=none) (it:AV X (av C (Wn own) .cE) J ds H1) (q:m8 τ T ds (cH lk β) K)
  (fin:∀o H',K o->Out X C σ H1 own true β H' own->KV X.prog X.w C (H1,Wn own) own H' .cE (.lst o) (.ref a)->End H') :
  fD J (uS T) (jG X (C.u λc=>c=a) true τ) (λN σ H=>(∃v,σ[T]?=some (some v)/\∃xs,H a=some (.lst xs)/\xs.length<UW/\N σ (upd H a (.lst (xs++[v])))))
   (λ_ H'=>End H') (c6 lk σ) (upd H1 a (.lst [])):=by
 obtain⟨I,i0,i1,i2⟩:=q;have h0:C.H0 a=none:=Vw λz=>s1.fP a z ha;have sm:aw H1 (upd H1 a (.lst [])):=aw.new ha;have RW:¬ av C (Wn own) .cE a:=λz=>z.elim (λz=>s1.pq a z ha) λz=>z h0;let W:Addr->Prop:=λb=>av C (Wn own) .cE b\/H1 b=none
 let S:Nat->St->Hp->Prop:=λi σ' H'=>∃βi eI vs o,SQ X (C.u λc=>c=a) σ' H' βi eI/\(∀c,Wn eI c->Wn (bf lk β own) c)/\H' a=some (.lst vs)/\ai X.prog X.w W H' o vs /\
  aw H1 H'/\σ'.length=lk.length/\(∀j,j≠T->σ'[j]?=(c6 lk σ)[j]?)/\I i βi o
 have Ei:=it (λb=>av C (Wn own) .cE b\/H1 b=none) λb z=>z;refine⟨λi m σ' H'=>i<=ds.length/\m=ds.length-i/\S i σ' H',⟨_,U4 _,rfl,cH lk β,bf lk β own,[],[],s1.enter ha inj,λ_ z=>z,ao,rfl,sm,by unfold c6;simp,λ_ _=>rfl,i0⟩,?_⟩
 rintro i m σ2 H2 ⟨hi,rfl,βi,eI,vs,o,sq,le,Ih,os,pu,hlen,st,hl⟩;obtain⟨cF,mz⟩:=Ei i H2 (pu.kp.mono λb z=>.inr z)
 by_cases fG:i<ds.length
 ·right
  have hd:ds[i]?=some ds[i]:=Vh fG;obtain⟨go,yl⟩:=cF _ hd;refine⟨go,λσ' H'=>S (i+1) σ' H',λσ' H' h=>⟨_,by lia,fG,rfl,h⟩,λx H3 y=>?_⟩
  obtain⟨s3,r3⟩:=yl x H3 y;have HV:ay X.prog X.w W H3 ds[i] x:=r3;have sub:∀c,eN (C.u λc=>c=a) (Wn eI) .cE c->W c:=λc z=>z.elim (λz=>.inl (z.imp (λz=>bc c (le c z)) id)) λz=>.inr (by rw[z];exact ha)
  have s4:=(sq.same s3).cK (i:=T) (y:=true) (ay.aO sub HV);have JY:∀c,Wn (aD eI T []) c->Wn (bf lk β own) c:=λc z=>le c (cZ z);refine⟨_,_,s4,τm _ _ _ (λt β5 q H5 je o5=>?_) (i1 i _ βi o hd hl)⟩;obtain⟨s5,e5⟩:=o5.pu rfl;have ee:aw H1 H5:=(pu.trans s3).trans s5;have FX:ai X.prog X.w W H5 o vs:=(os.same s3).same s5;have sX:H5 a=some (.lst vs):=s5 _ _ (s3 _ _ Ih);have Qp:∀c,Wn je c->Wn (bf lk β own) c:=λc z=>JY c (o5.le c z);have A6:∀j,j≠T->(σ2.set T (some x))[j]?=(c6 lk σ)[j]?:=λj hj=>(aP (W7 hj)).trans (st j hj);cases t with
  |false=>exact⟨β5,je,vs,o,o5.sq,Qp,sX,FX,ee,by simpa using hlen,A6,q⟩
  |true =>
   obtain⟨hz,q⟩:=q;have kp:Kp W H5 (upd H5 a (.lst (vs++[x]))):=zE sX (λxs z=>by cases z) (.inr ha)
   refine⟨x,get_set (by rw[hlen];exact S0),vs,sX,by rw[FX.length];exact hz,β5,je,vs++[x],o++[ds[i]],o5.sq.Fo sX (λxs z=>by cases z) h0,Qp,ao,ai.snoc ((HV.same s5).keep kp) (FX.keep kp),λb ob e=>?_,by simpa using hlen,A6,q⟩
   rw[az (λz'=>by rw[z',ha]at e;cases e)]
   exact ee b ob e
 ·left
  have e:i=ds.length:=by lia
  subst e;obtain⟨hh,q⟩:=i2 βi o hl;have sn:Sn (H1,Wn (bf lk β own)) H2 (Wn eI):=⟨λb z=>.inl (le b z),pu.kp.mono λb z=>.inr z,λb z e=>z (pu.free e)⟩;have lv:SQ X C σ H2 β own:=s1.leave sq sn le hh λj ok i' e1 e2=>st i' λz=>hT j (z▸e2);exact⟨mz (UO _),fin o H2 q ⟨lv,⟨λb z=>.inl z,pu.kp.mono λb z=>.inr z,λb z e=>z (pu.free e)⟩,λz=>⟨pu,rfl⟩,λ_ z=>z⟩ ⟨a,vs,rfl,Ih,RW,ai.aO (λc z=>.inl z) os⟩⟩
variable {ι:cI}
def Jj (lk:List (Option Nat))(ι:cI)(τ:a8)(T:Nat):aQ:=λβ R=>ι β λds k β1=>k=.cE/\m8 τ T ds (cH lk β1) λo=>R (.lst o) .cE β1
end
theorem Gk {α:Type}{τ:a8}{l:List α}{f:α->D}{ku:a3}{K:List D->Prop}(t:α->Bool)(h0:d9 ku ku)(hl:l.length<=UW)(h:∀x∈l,∀R:Bool->a3->Prop,R (t x) (some (.val true (f x))::ku)->τ (some (.val true (f x))::ku) R)(q:K ((l.filter t).map f)):m8 τ 0 (l.map f) (none::ku) K:=by
 refine⟨λi β o=>i<=l.length/\(∃x0,β=x0::ku)/\o=((l.take i).filter t).map f,⟨U4 _,⟨_,rfl⟩,rfl⟩,?_,?_⟩
 ·rintro i d β o hd ⟨hi,⟨x0,rfl⟩,rfl⟩;rw[U8]at hd;obtain⟨x,hx,rfl⟩:=U3.mp hd;have OM:=(U0.mp hx).1;have hlen:(((l.take i).filter t).map f).length<=i:=by
   rw[UN];exact Vq (VD _ _) (by rw[VH];lia)
  have et:(l.take (i+1)).filter t=(l.take i).filter t++if t x=true then [x] else []:=by
   rw[V0,hx,V7];cases ee:t x <;> simp[ee]
  refine h x (Vx hx) _ ?_;cases e:t x with
  |true =>
   rw[if_pos rfl];exact⟨by lia,by lia,⟨_,rfl⟩,by rw[et,e,if_pos rfl,Vb];rfl⟩
  |false =>
   rw[if_neg (by simp)]
   exact⟨by lia,⟨_,rfl⟩,by rw[et,e,if_neg (by simp),VT]⟩
 ·rintro β o ⟨_,⟨x0,rfl⟩,rfl⟩;rw[UN,WC];exact⟨h0,q⟩
end L2.Q
namespace L2
open PySem PySem.Spec PySem.SeqAt PyProof.Rows
def Pd (a b:D):Option D:=a.zt.bind λds=>b.int?.bind λk=>if 0<=k/\k<2 ^ 62/\ds.length*k.toNat<=UW then some (.lst (Vg k.toNat ds).flatten) else none
theorem ja {P:UP}{w:U1}{W:Addr->Prop}{H:Hp}{ds:List D}{vs:List V}(h:ai P w W H ds vs):∀k:Nat,ai P w W H (Vg k ds).flatten (Vg k vs).flatten
 |0=>rfl
 |k+1=>by
  rw[Wa,WV,Wa,WV];exact h.append (ja h k)
theorem qd {X:Cx}:LO X (Wq .Mult) Pd:=by
 intro pins s σ H x y v u Q I rx ry h;obtain⟨W,d1,d2,d,hd,r1,r2,e,q⟩:=h;obtain⟨ds,h1,e⟩:=Vf.mp e;obtain⟨k,h2,e⟩:=Vf.mp e;obtain⟨⟨k0,k1,hl⟩,rfl⟩:=cC e;rw[D.ki h1]at r1;rw[D.uM h2]at r2;obtain⟨p,vs,rfl,g1,n1,q1⟩:=r1;exact FY pins s σ H _ _ v u Q I rx ry ⟨p,k,vs,rfl,r2,g1,by lia,by lia,by rw[q1.length];exact hl,λl wO=>q _ _ (aw.new wO) (Rp.jk hd wO (ja q1 _)) λf=>wo wO f (ja q1 _)⟩
namespace Q
section
end
end Q
end L2
namespace hG
open PySem L2 L2.Q
def qQ:FD:=λds R=>∃m:Int,ds=[.int m]/\0<=m/\m<=40/\∀(n:Int) ts,0<=n->n<=m->Drawn n ts->R (.tup [.int n,.lst (ts.map kD)])
theorem qQ.mono:dt qQ:=λds R R' k h=>by obtain⟨m,e,h1,h2,q⟩:=h;exact⟨m,e,h1,h2,λn ts a b c=>k _ (q n ts a b c)⟩
theorem wZ {n:Int}{ks:List (List Int)}(h:gI n ks)(nd:ks.Nodup):∃ts,cutD ((jI ks).map kD) none (some 300)=ts.map kD/\Drawn n ts:=by
 refine⟨(jI ks).take (min 300 (jI ks).length),?_,?_,?_,?_,?_⟩
 ·unfold cutD;rw[HT.yo,show (some (300:Int))=some ((300:Nat):Int) from rfl,HT.BF,List.drop_zero,<- List.map_take]
  simp
 ·rw[VH];lia
 ·exact λt ht=>h t ((ij _).mem_iff.mp (List.mem_of_mem_take ht))
 ·exact List.Pairwise.take (kS _)
 ·exact List.Nodup.sublist (List.take_sublist _ _) ((ij _).nodup_iff.mpr nd)
section
variable {P:UP}{w:U1}{K:PySem.W.Frag}{mg:Str->Option UK}{base:Heap}
theorem bh:aG ["deck","most","size","great","many","ties","way","a","b","k"] ["deck","most"] (ak gv):=⟨rfl,rfl,rfl,by decide +kernel,rfl,by decide +kernel,by decide +kernel⟩
theorem F3 {Mz C6} (dR:D0 K mg Mz C6) {Ls z8} (dT:D1 K mg Ls z8) (B:Bs mg):aL P w K mg base bS 3 Mz C6 ["deck","most"] (me P w l6 true qQ):=by
 have GT:aL P w K mg base bS 1 _ _ _ (me P w l6 true bR):=oJ dT.F;refine JA dR.F bh (λds R KZ=> by obtain⟨m,e,_⟩ := KZ;subst e;rfl) λb7 A outer s H E IO hr=>⟨_,(aj (aR (i:=2) (aI ag bg (aN aV aF (aN aV aF (aN aV qd (ba (aa ah af)) ah) (aN aV qd (ba (aa ah af)) ah)) (ba (aa ah af))) (bj (ih:=0) bR.mono GT (hr.mono (by decide)) dT.m dT.F.kp dT.b (aa ah af))) bh.nd)
    (aj (aR (i:=3) (aI ag bg (ba (aa (bj (ih:=0) bR.mono GT (hr.mono (by decide)) dT.m dT.F.kp dT.b (aa (aN aV aF (ae (i:=1)) ah) af)) (aa (ae (i:=1)) af))) (bj (ih:=0) bR.mono GT (hr.mono (by decide)) dT.m dT.F.kp dT.b (aa ah af))) bh.nd)
    (aj (aR (i:=4) (bL ag (cJ.m (g8 rfl)) B.min tL (aa (ae (i:=1)) (aa (aI ag bg (ba (aa (bj (ih:=0) bR.mono GT (hr.mono (by decide)) dT.m dT.F.kp dT.b (aa ah af)) (aa (bj (ih:=0) bR.mono GT (hr.mono (by decide)) dT.m dT.F.kp dT.b (aa ah af)) (aa (ae (i:=3)) af)))) (ae (i:=2))) af))) bh.nd)
    (aj (kc (i:=5) (λ_=>(BU true)) bh.nd)
    (aj (aR (i:=6) (bj (ih:=0) bR.mono GT (hr.mono (by decide)) dT.m dT.F.kp dT.b (aa ah af)) bh.nd)
    (aj (c4 VS rfl (dC B.range (aa (ae (i:=4)) af)) (au (i:=7) bh.nd) (di (c7 (pB.t (iA (aJ ag (bK.m (gd hr.units)) (ae (i:=6)) ah) (f9 (aJ ag (bK.m bG) (aN aV aF (ae (i:=7)) ah) (ae (i:=4)))))) (ar (ke (i:=5) hr.eC (a9 (aa (ae (i:=7)) (aa (aN aV aF (ae (i:=7)) ah) af))))) bx)
    (di (c7 (pB.t (iA (aJ ag (bK.m (gd hr.units)) (ae (i:=6)) ah) (f9 (aJ ag (bK.m bG) (ae (i:=7)) (aN ag (bK.m cR) (aN ag (bK.m cR) (ae (i:=4)) ah) (ae (i:=7))))))) (ar (ke (i:=5) hr.eC (a9 (aa (ae (i:=7)) (aa (aN ag (bK.m cR) (aN ag (bK.m cR) (ae (i:=4)) ah) (ae (i:=7))) af))))) bx)
    (ar (c4 VS rfl (lh B.range (aa (aN aV aF (ae (i:=7)) ah) (aa (bL ag (cJ.m (g8 rfl)) B.min tL (aa (ae (i:=4)) (aa ah af))) af))) (au (i:=8) bh.nd) (ar (c7 (pB.t (gX (aJ ag (bK.m (gd hr.units)) (ae (i:=6)) ah) (iy (pB.t (iA (aJ ag (bK.m (gd hr.units)) (ae (i:=6)) ah) (f9 (aJ ag (bK.m (gd hr.units)) (bj (ih:=0) bR.mono GT (hr.mono (by decide)) dT.m dT.F.kp dT.b (aa ah af)) ah))))))) (ar (ke (i:=5) hr.eC (a9 (aa (ae (i:=7)) (aa (ae (i:=8)) af))))) bx)))))))
    (aj (c4 VS rfl (dC B.range (aa (aN ag (bK.m kh) (bj (ih:=0) bR.mono GT (hr.mono (by decide)) dT.m dT.F.kp dT.b (aa (aI ag bg (ba (aa ah (aa ah (aa ah af)))) (bj (ih:=0) bR.mono GT (hr.mono (by decide)) dT.m dT.F.kp dT.b (aa ah af))) af)) (mZ ag (cJ.m xk) B.int AF (aa (oC ag (bK.m ze) (ae (i:=4)) ah) af))) af)) (au (i:=9) bh.nd) (aj (aR (i:=7) (bj (ih:=0) bR.mono GT (hr.mono (by decide)) dT.m dT.F.kp dT.b (aa (ae (i:=4)) af)) bh.nd)
    (aj (aR (i:=8) (aN ag (bK.m Cd) (aN aV aF (aN aV aF (ae (i:=7)) ah) (bj (ih:=0) bR.mono GT (hr.mono (by decide)) dT.m dT.F.kp dT.b (aa (aN ag (bK.m cR) (ae (i:=4)) ah) af))) (ae (i:=4))) bh.nd)
    (ar (ke (i:=5) hr.eC (a9 (aa (bL ag (cJ.m (g8 rfl)) B.min tL (aa (ae (i:=7)) (aa (ae (i:=8)) af))) (aa (bL ag (cJ.m (l0 rfl)) B.max tM (aa (ae (i:=7)) (aa (ae (i:=8)) af))) af))))))))
    (ar (a5 (a9 (aa (ae (i:=4)) (aa (Jo (bL aV (o8 rfl) B.sorted xn (aa (ae (i:=5)) af)) yH (yG ah)) af)))))))))))),λds R h=>?_⟩
 obtain⟨m,rfl,Us,Mt,q⟩:=h;have yd:(1:Nat)<=UW:=bU (by lia)
 refine⟨trivial,yd,trivial,_,rfl,.inl ⟨rfl,trivial,trivial,yd,trivial,_,rfl,.inl ⟨rfl,_,rfl,.inl ⟨rfl,trivial,trivial,yd,_,rfl,.inl ⟨rfl,trivial,rfl,trivial,rfl,trivial,16,rfl,by lia,by lia,λr r0 r1=>pick r0 (by simpa using r1) λd hd=>?_⟩⟩⟩⟩⟩
 obtain⟨sz,rfl,s0,s1⟩:∃s:Nat,d=.int (s:Int)/\0<=s/\s<=2:=by
  simp at hd;rcases hd with rfl|rfl|rfl
  ·exact⟨0,rfl,by lia,by lia⟩
  ·exact⟨1,rfl,by lia,by lia⟩
  ·exact⟨2,rfl,by lia,by lia⟩
 refine⟨rfl,_,rfl,trivial,_,rfl,trivial,rfl,trivial,m+1,rfl,by lia,by lia,λg0 UD UC=>⟨trivial,_,rfl,trivial,gJ,trivial,rfl,trivial,rfl,trivial,2,rfl,by lia,by lia,λr r0 r1=>pick r0 (by simpa using r1) λd hd=>?_⟩⟩
 obtain⟨gr,rfl,S5,UB⟩:∃s:Int,d=.int s/\0<=s/\s<=m:=by
  simp only[UQ,WD,or_false]at hd;rcases hd with rfl|rfl
  ·exact⟨g0,rfl,by lia,by lia⟩
  ·exact⟨m,rfl,by lia,by lia⟩
 refine⟨_,rfl,trivial,rfl,trivial,rfl,trivial,7,rfl,by lia,by lia,λu u0 u1=>⟨trivial,rfl,trivial,rfl,trivial,11,rfl,by lia,by lia,λv v0 v1=>⟨trivial,_,rfl,trivial,PU,trivial,_,rfl,pick (by lia) (by show (sz:Int)<3;lia) λd hd=>?_⟩⟩⟩
 obtain⟨x,rfl,NY⟩:∃s:Int,d=.int s/\0<=s:=by
  simp only[UQ,WD,or_false]at hd;rcases hd with rfl|rfl|rfl
  ·exact⟨u,rfl,u0⟩
  ·exact⟨v,rfl,v0⟩
  ·exact⟨gr,rfl,S5⟩
 obtain⟨n,hn,n0,n1⟩:∃n:Int,rd [.int m,.int x]=some (.int n)/\0<=n/\n<=m:=⟨_,q_,by split <;> lia,by split <;> lia⟩
 refine⟨trivial,_,hn,trivial,?_⟩;refine⟨rfl,trivial,rfl,trivial,6,rfl,by lia,by lia,λway w0 w1=>?_⟩
 have add:∀{ts:List (List Int)} {t:List Int},ts.Nodup->gI n ts->ME n t->(rB ts t).Nodup/\gI n (rB ts t)/\(rB ts t).length<=ts.length+1:=λ{ts t} h1 h2 h3=>by
  unfold rB
  split
  ·exact⟨h1,h2,by lia⟩
  ·next hn =>
   refine⟨VV.mpr ⟨h1,by simp,λx hx y hy z=>?_⟩,λu hu=>?_,by simp⟩
   ·rw[UX.mp hy]at z;exact hn (by rw[<- z];exact hx)
   ·rcases Vl.mp hu with z|z
    ·exact h2 u z
    ·rw[UX.mp z];exact h3
 refine⟨_,rfl,trivial,n,rfl,by lia,by lia,trivial,?_⟩
 refine⟨λi β=>∃(ts:List (List Int)) (x7 x8 x9:Option Q.B),β=[some (.hand l6),some (.val false (.int m)),some (.val true (.int sz)),some (.val true (.int gr)),some (.val true (.int n)),some (.own (dP ts true)),some (.val true (.int way)),x7,x8,x9]/\ts.Nodup/\gI n ts/\ts.length<=2*i+23*min i 23,⟨[],_,_,_,rfl,VY,gI.nil,by simp⟩,?_,?_⟩
 ·rintro i d β hd ⟨ts,x7,x8,x9,rfl,h1,h2,h3⟩;obtain⟨hi,rfl⟩:=eQ hd;refine⟨λβ=>∃(ts:List (List Int)) (x8 x9:Option Q.B),β=[some (.hand l6),some (.val false (.int m)),some (.val true (.int sz)),some (.val true (.int gr)),some (.val true (.int n)),some (.own (dP ts true)),some (.val true (.int way)),some (.val true (.int (0+(i:Int)))),x8,x9]/\ts.Nodup/\gI n ts/\ts.length<=2*i+23*min i 23+1,?_,?_⟩
  ·refine⟨_,rfl,trivial,_,gD _ _,_,rfl,mD (λ_=>⟨_,rfl,trivial,_,rfl,trivial,_,rfl,_,rfl,_,rfl,mD (λfG=>?_) (λ_=>⟨ts,_,_,rfl,h1,h2,by lia⟩)⟩) (λ_=>fN rfl ⟨ts,_,_,rfl,h1,h2,by lia⟩)⟩
   obtain⟨g1,g2,g3⟩:=add h1 h2 (t:=[0+(i:Int),0+(i:Int)+1]) ⟨_,_,rfl,by lia,by lia,by lia⟩
   exact⟨⟨_,rfl⟩,_,rfl,trivial,_,rfl,trivial,_,rfl,trivial,gJ,ts,[0+(i:Int),0+(i:Int)+1],rfl,rfl,by rw[Wd];lia,_,_,_,rfl,g1,g2,by lia⟩
  rintro β ⟨ts,x8,x9,rfl,h1,h2,h3⟩;refine⟨λβ=>∃(ts:List (List Int)) (x8 x9:Option Q.B),β=[some (.hand l6),some (.val false (.int m)),some (.val true (.int sz)),some (.val true (.int gr)),some (.val true (.int n)),some (.own (dP ts true)),some (.val true (.int way)),some (.val true (.int (0+(i:Int)))),x8,x9]/\ts.Nodup/\gI n ts/\ts.length<=2*i+23*min i 23+2,?_,?_⟩
  ·refine⟨_,rfl,trivial,_,gD _ _,_,rfl,mD (λ_=>⟨_,rfl,trivial,_,rfl,trivial,_,rfl,trivial,_,rfl,_,rfl,_,rfl,_,rfl,mD (λfG=>?_) (λ_=>⟨ts,_,_,rfl,h1,h2,by lia⟩)⟩) (λ_=>fN rfl ⟨ts,_,_,rfl,h1,h2,by lia⟩)⟩
   obtain⟨g1,g2,g3⟩:=add h1 h2 (t:=[0+(i:Int),n-1-(0+(i:Int))]) ⟨_,_,rfl,by lia,by lia,by lia⟩
   exact⟨⟨_,rfl⟩,_,rfl,trivial,_,rfl,trivial,_,rfl,trivial,_,rfl,_,rfl,trivial,gJ,ts,[0+(i:Int),n-1-(0+(i:Int))],rfl,rfl,by rw[Wd];lia,_,_,_,rfl,g1,g2,by lia⟩
  rintro β ⟨ts,x8,x9,rfl,h1,h2,h3⟩;obtain⟨fO,Oz,Ux,OR⟩:∃h:Int,rd [.int n,.int 24]=some (.int h)/\h<=n/\h<=24/\0<=h:=⟨_,q_,by split <;> lia,by split <;> lia,by split <;> lia⟩
  refine⟨_,rfl,trivial,_,rfl,trivial,_,rfl,trivial,trivial,_,Oz,trivial,0+(i:Int)+1,fO,rfl,⟨by lia,by lia,by lia,by lia⟩,trivial,?_⟩
  refine⟨λj β=>∃(ts:List (List Int)) (x8 x9:Option Q.B),β=[some (.hand l6),some (.val false (.int m)),some (.val true (.int sz)),some (.val true (.int gr)),some (.val true (.int n)),some (.own (dP ts true)),some (.val true (.int way)),some (.val true (.int (0+(i:Int)))),x8,x9]/\ts.Nodup/\gI n ts/\ts.length<=2*i+23*min i 23+2+j,⟨ts,_,_,rfl,h1,h2,by lia⟩,?_,?_⟩
  ·rintro j d β hd ⟨ts,x8,x9,rfl,h1,h2,h3⟩;obtain⟨hj,rfl⟩:=eQ hd;obtain⟨g1,g2,g3⟩:=add h1 h2 (t:=[0+(i:Int),0+(i:Int)+1+(j:Int)]) ⟨_,_,rfl,by lia,by lia,by lia⟩
   refine⟨_,rfl,trivial,_,gD _ _,_,rfl,mD (λ_=>mC rfl ?_) (λ_=>⟨_,rfl,trivial,_,gD _ _,_,rfl,mD (λ_=>⟨rfl,trivial,rfl,trivial,3,rfl,by lia,by lia,λr r0 r1=>⟨trivial,_,gD _ _,_,rfl,mD (λ_=>?_) (λ_=>⟨ts,_,_,rfl,h1,h2,by lia⟩)⟩⟩) (λ_=>fN rfl ⟨ts,_,_,rfl,h1,h2,by lia⟩)⟩)⟩
   ·exact⟨⟨_,rfl⟩,_,rfl,trivial,_,rfl,trivial,gJ,ts,[0+(i:Int),0+(i:Int)+1+(j:Int)],rfl,rfl,by rw[Wd];lia,_,_,_,rfl,g1,g2,by lia⟩
   ·exact⟨⟨_,rfl⟩,_,rfl,trivial,_,rfl,trivial,gJ,ts,[0+(i:Int),0+(i:Int)+1+(j:Int)],rfl,rfl,by rw[Wd];lia,_,_,_,rfl,g1,g2,by lia⟩
  ·rintro β ⟨ts,x8,x9,rfl,h1,h2,h3⟩;rw[eP]at h3;exact⟨ts,_,_,_,rfl,h1,h2,by lia⟩
 ·rintro β ⟨ts,x7,x8,x9,rfl,h1,h2,h3⟩;rw[eP]at h3;refine⟨rfl,trivial,trivial,trivial,PU,trivial,rfl,trivial,rfl,trivial,3,rfl,by lia,by lia,λr r0 r1=>pick r0 (by simpa using r1) λd hd=>?_⟩
  obtain⟨mm,rfl,RZ,Ui⟩:∃m:Int,d=.int m/\0<m/\m<=301:=by
   simp only[UQ,WD,or_false]at hd;rcases hd with rfl|rfl|rfl
   ·exact⟨5,rfl,by lia,by lia⟩
   ·exact⟨21,rfl,by lia,by lia⟩
   ·exact⟨301,rfl,by lia,by lia⟩
  refine⟨trivial,rfl,trivial,mm,rfl,RZ,by lia,λc c0 c1=>?_⟩
  have Lw:Ht (.int c) (.int (if decide (n>1)=true then 1 else 0))=some (.int (c*(if decide (n>1)=true then 1 else 0))):=by
   show (if j6 c _ then some _ else none)=_
   rw[if_pos (show j6 c (if decide (n>1)=true then 1 else 0) from .inl ⟨by lia,by lia⟩)]
  have hj:0<=c*(if decide (n>1)=true then 1 else 0)/\c*(if decide (n>1)=true then 1 else 0)<=300/\(¬ n>1->c*(if decide (n>1)=true then 1 else 0)=0):=by
   by_cases hn:n>1
   ·simp[hn];lia
   ·simp[hn]
  generalize c*(if decide (n>1)=true then 1 else 0)=j at Lw hj
  refine⟨trivial,_,rfl,trivial,_,rfl,trivial,_,rfl,_,Lw,trivial,j,rfl,by lia,by lia,trivial,?_⟩
  refine⟨λi β=>∃(ts:List (List Int)) (x7 x8 x9:Option Q.B),β=[some (.hand l6),some (.val false (.int m)),some (.val true (.int sz)),some (.val true (.int gr)),some (.val true (.int n)),some (.own (dP ts true)),some (.val true (.int way)),x7,x8,x9]/\ts.Nodup/\gI n ts/\ts.length<=609+i,⟨ts,_,_,_,rfl,h1,h2,by lia⟩,?_,?_⟩
  ·rintro i d β hd ⟨ts,x7,x8,x9,rfl,h1,h2,h3⟩;obtain⟨hi,rfl⟩:=eQ hd;have Ox:n>1:=Vw λz=>by have:=hj.2.2 z;lia
   refine⟨rfl,_,rfl,trivial,rfl,trivial,n,rfl,by lia,by lia,λone o0 o1=>?_⟩
   refine⟨_,rfl,trivial,_,rfl,trivial,rfl,_,rfl,trivial,_,rfl,trivial,rfl,trivial,n-1,rfl,by lia,by lia,λr' Uc HW=>?_⟩
   have Oy:LA (.int (one+1+r')) (.int n)=some (.int ((one+1+r') % n)):=if_pos (by lia)
   refine⟨_,rfl,trivial,_,rfl,_,Oy,?_⟩;have CS:(one+1+r') % n≠one/\0<=(one+1+r') % n/\(one+1+r') % n<n:=by
    by_cases fG:one+1+r'<n
    ·rw[Int.emod_eq_of_lt (by lia) fG];lia
    ·rw[show one+1+r'=(one+1+r' - n)+n by lia,Int.add_emod_right,Int.emod_eq_of_lt (by lia) (by lia)];lia
   generalize (one+1+r') % n=DX at CS;obtain⟨g1,g2,g3⟩:=add h1 h2 (t:=[if DX<one then DX else one,if DX>one then DX else one]) ⟨_,_,rfl,by split <;> lia,by split <;> (try split) <;> lia,by split <;> lia⟩
   exact⟨⟨_,rfl⟩,_,rfl,trivial,_,rfl,trivial,_,rfl,trivial,_,rfl,trivial,_,rfl,trivial,_,rfl,trivial,gJ,ts,[if DX<one then DX else one,if DX>one then DX else one],rfl,rfl,by rw[Wd];lia,_,_,_,_,rfl,g1,g2,by lia⟩
  ·rintro β ⟨ts,x7,x8,x9,rfl,h1,h2,h3⟩;rw[eP]at h3;refine⟨_,rfl,trivial,_,rfl,trivial,_,Bw h2.ne (by lia),.inl ⟨lQ _,300,rfl,_,rfl,?_⟩⟩
   obtain⟨us,e,dr⟩:=wZ h2 h1;rw[e];exact .inl ⟨lQ _,trivial,gJ,trivial,rfl,q n us n0 n1 dr⟩
end
section
variable {P:UP}{w:U1}{K:PySem.W.Frag}{mg:Str->Option UK}{base:Heap}
theorem gF:aG ["many"] ["many"] (ak bF):=⟨rfl,rfl,rfl,by decide +kernel,rfl,by decide +kernel,by decide +kernel⟩
theorem Ci {j0 fJ} (vg:D2 K mg j0 fJ) (B:rP mg):aL P w K mg base bS 1 j0 fJ ["many"] (dU P w true z9):=by
 refine oK vg.F gF (λds R KY=> by obtain⟨n,e,_⟩ := KY;subst e;rfl) λb7 A outer s H E hr=>⟨_,(ar (a5 (R4 ["i","j","many"] [none,none,some 0] (by rfl) (by decide:(["i","j","many"]:List Str).Nodup) rfl (lg B.range (aa (aN ag (bK.m cR) (ae (i:=0)) ah) (aa (lj e9 ah) (aa (lj e9 ah) af)))) (λ_ _ _ _ _ _=>(au (i:=0) (by decide:(["i","j","many"]:List Str).Nodup))) (λ_ _ _ _ _ _=>iZ) (λ_ _ _ _ _ _=>(sC B.range (aa (aN aV aF (ae (i:=0)) ah) (aa (aN aV aF (ae (i:=2)) ah) af)))) (λ_ _ _ _ _ _=>(au (i:=1) (by decide:(["i","j","many"]:List Str).Nodup))) (λ_ _ _ _ _ _=>iZ) (λ_ _ _ _ _ _=>(a9 (aa (ae (i:=0)) (aa (ae (i:=1)) af))))))),λds R h=>?_⟩
 obtain⟨n,rfl,hn,q⟩:=h;refine⟨_,rfl,trivial,_,rfl,trivial,_,rfl,rfl,trivial,_,rfl,rfl,trivial,(n:Int)-1,-1,rfl,⟨by lia,by lia,by lia,by lia⟩,trivial,?_⟩
 have en:((n:Int)-1 - -1).toNat=n:=by lia
 rw[en];refine⟨λa β o=>a<=n/\(∃x0 x1,β=[x0,x1,some (.val false (.int n))])/\o=(((Vy n).take a).flatMap (dN n)).map BP,⟨U4 _,⟨_,_,rfl⟩,rfl⟩,?_,?_⟩
 ·rintro a d β o hd ⟨ha,⟨x0,x1,rfl⟩,rfl⟩;obtain⟨Mw,rfl⟩:=k_ hd;have e1:(n:Int)-1-a=((n-1-a:Nat):Int):=by lia
  rw[e1];refine⟨_,rfl,trivial,_,rfl,trivial,_,rfl,trivial,_,rfl,trivial,((n-1-a:Nat):Int)+1,(n:Int)+1,rfl,⟨by lia,by lia,by lia,by lia⟩,?_⟩
  have e2:((n:Int)+1-(((n-1-a:Nat):Int)+1)).toNat=a+1:=by lia
  rw[e2];refine⟨λb β o=>b<=a+1/\(∃x1,β=[some (.val true (.int ((n-1-a:Nat):Int))),x1,some (.val false (.int n))])/\o=(((Vy n).take a).flatMap (dN n)++(dN n a).take b).map BP,⟨U4 _,⟨_,rfl⟩,by simp⟩,?_,?_⟩
  ·rintro b d β o hd ⟨hb,⟨x1,rfl⟩,rfl⟩;obtain⟨lO,rfl⟩:=eQ hd;refine⟨_,rfl,trivial,_,rfl,trivial,gJ,trivial,?_,lO,⟨_,rfl⟩,?_⟩
   ·rw[UN,Vr];exact ye hn Mw lO
   ·rw[show ((n-1-a:Nat):Int)+1+(b:Int)=((n-a+b:Nat):Int) by lia,vP lO,<- VC,Vb,Vb,Vb]
    rfl
  ·rintro β o ⟨_,⟨x1,rfl⟩,rfl⟩;refine⟨Mw,⟨_,_,rfl⟩,?_⟩;rw[eP,yq,V0,WA Mw,List.flatMap_append];simp
 ·rintro β o ⟨_,⟨x0,x1,rfl⟩,rfl⟩;rw[k9,Wr (by simp)]
  exact⟨trivial,trivial,q⟩
theorem bA:aG ["row","many","ties","partners","a","b"] ["row"] (ak cP):=⟨rfl,rfl,rfl,by decide +kernel,rfl,by decide +kernel,by decide +kernel⟩
theorem Ck {j3 fK} (vh:D3 K mg j3 fK) (B:rP mg):aL P w K mg base bS 1 j3 fK ["row"] (dU P w true qR):=by
 refine oK vh.F bA (λds R KW=> by obtain⟨n,ps,e,_⟩ := KW;subst e;rfl) λb7 A outer s H E hr=>⟨_,(aj (lx (ae (i:=0)) (dj (n:=2) rfl (aT (au (i:=1) bA.nd) (aT (au (i:=2) bA.nd) cw))))
    (aj (vO (i:=3) true ["point"] [none] (by rfl) (by decide:(["point"]:List Str).Nodup) rfl (λ_=>(dC B.range (aa (ae (i:=1)) af))) (λ_ _ _ _ _ _=>(au (i:=0) (by decide:(["point"]:List Str).Nodup))) (λ_ _ _ _ _ _=>iZ) (λ_ _ _ _ _ _=>(ba af)) bA.nd)
    (aj (c4 VS rfl (a7 (ae (i:=2))) (dj (n:=2) rfl (aT (au (i:=4) bA.nd) (aT (au (i:=5) bA.nd) cw))) (ar (jO (i:=3) true (λ_=>(ae (i:=5))) (λ_=>(ae (i:=4))))))
    (ar (uy (i:=3)))))),λds R h=>?_⟩
 obtain⟨n,ps,rfl,ok,q⟩:=h;have hn:=ok.le;refine⟨_,rfl,_,rfl,rfl,_,_,rfl,_,_,rfl,rfl,_,rfl,trivial,n,rfl,by lia,by lia,trivial,?_⟩
 rw[Xy];refine dD (λ_=>true) (λ_=>.lst []) trivial (by rw[V1];exact bU (by lia)) (λx hx x0 o J ho h1 _=>⟨U4 _,trivial,ho,h1 rfl _⟩) ?_
 rw[gj];refine⟨_,rfl,_,rfl,trivial,?_⟩;refine⟨λm β=>∃x4 x5,β=[some (.val false (gU n ps)),some (.val true (.int n)),some (.val false (dJ ps)),some (.own (L8 n (ps.take m))),x4,x5],⟨_,_,rfl⟩,?_,?_⟩
 ·rintro m d β hd ⟨x4,x5,rfl⟩;rw[U8]at hd;obtain⟨p,hp,rfl⟩:=U3.mp hd;obtain⟨h1,h2⟩:=ok.lt p (Vx hp);refine⟨_,rfl,rfl,_,_,rfl,_,_,rfl,rfl,⟨_,rfl⟩,_,rfl,_,_,_,_,rfl,rfl,by rw[UN,V1];exact JZ rfl (show p.1<n by lia),d4 (show p.1<n by lia),_,rfl,trivial,rfl,?_,?_⟩
  ·unfold Q.cj;rw[UN];have:=BO (ps:=ps.take m) (i:=p.1);rw[VH]at this;have:=ok.sm;exact yc (by lia)
  ·refine⟨some (.val true (.int p.1)),some (.val true (.int p.2)),?_⟩;have e:ps.take (m+1)=ps.take m++[(p.1,p.2)]:=by rw[V0,hp];rfl
   rw[Fn (show p.1<n by lia),e]
   rfl
 ·rintro β ⟨x4,x5,rfl⟩;rw[UN,WC];exact⟨_,rfl,q⟩
end
section
variable {P:UP}{w:U1}{K:PySem.W.Frag}{mg:Str->Option UK}{base:Heap}
theorem mn:aG ["i","k","j"] ["i","k","j"] (ak dc):=⟨rfl,rfl,rfl,by decide +kernel,rfl,by decide +kernel,by decide +kernel⟩
theorem zi {iO d_} (rL:D4 K mg iO d_):aL P w K mg base bS 1 iO d_ ["i","k","j"] (dU P w true lU):=by
 refine oK rL.F mn (λds R KU=> by obtain⟨i,k,j,e,_⟩ := KU;subst e;rfl) λb7 A outer s H E hr=>⟨_,(di (c7 (aJ ag (bK.m uB) (ae (i:=1)) ll) (ar (a5 (ba (aa (a9 (aa (aN aV aF (ae (i:=0)) ah) (aa (ae (i:=2)) af))) af)))) bx)
    (ar (a5 (ba (aa (a9 (aa (aN aV aF (ae (i:=0)) ah) (aa (ae (i:=1)) af))) (aa (a9 (aa (aN aV aF (ae (i:=1)) ah) (aa (ae (i:=2)) af))) af)))))),λds R h=>?_⟩
 obtain⟨i,k,j,rfl,q⟩:=h;cases k with
 |none=>exact⟨λ_=>False,⟨_,rfl,trivial,_,rfl,_,rfl,mC rfl ⟨_,rfl,trivial,_,rfl,trivial,_,rfl,trivial,gJ,trivial,yd,trivial,q⟩⟩,λ_ z=>z.elim⟩
 |some k =>
  refine⟨λβ=>β=[some (.val false (.int i)),some (.val false (.int k)),some (.val false (.int j))],⟨_,rfl,trivial,_,rfl,_,rfl,fN rfl rfl⟩,?_⟩;rintro β rfl;exact⟨_,rfl,trivial,_,rfl,trivial,_,rfl,trivial,gJ,trivial,_,rfl,trivial,_,rfl,trivial,_,rfl,trivial,gJ,trivial,gJ,trivial,q⟩
end
end hG
namespace L2.Q
open PySem PySem.Spec PySem.SeqAt PyProof.Rows
theorem fx {α:Type}{f g:α->Nat}:∀{l:List α} {b:Nat},(∀p∈l,f p=g p)->l.foldl (λa p=>a*f p) b=l.foldl (λa p=>a*g p) b
 |[],_,_=>rfl
 |x::l,b,h=>by
  rw[XX,XX,h x (by simp)]
  exact fx λp hp=>h p (by simp[hp])
theorem FE {ps:List (Nat×Nat)}{i:Nat}(h:ps.Nodup):(gx ps i).Nodup:=by
 unfold gx;refine Wl.mpr (List.Pairwise.imp_of_mem ?_ (Yx _ h));intro a b ha hb Ii e;have h1:=(Vk.mp ha).2;have h2:=(Vk.mp hb).2;simp only[decide_eq_true_eq]at h1 h2;exact Ii (Prod.ext (by rw[h1,h2]) e)
theorem zk:∀{n i:Nat} {l:List Nat},l.Nodup->(∀x∈l,i<=x/\x<i+n)->l.length<=n
 |0,i,l,_,h=>by
  cases l with
  |nil=>exact UO _
  |cons x l=>have:=h x (by simp);lia
 |n+1,i,l,nd,h=>by
  have q:=zk (n:=n) (i:=i) (nd.erase (i+n)) λx hx=>by
   have:=nd.mem_erase_iff.mp hx;have:=h x this.2;lia
  have:=List.length_erase (a:=i+n) (l:=l)
  split at this <;> lia
theorem t_ {α:Type}{f:α->Nat}{c:Nat}:∀{l:List α},(∀x∈l,f x<=c)->(l.map f).sum<=l.length*c
 |[],_=>U4 _
 |x::l,h=>by
  have h1:=h x (by simp)
  have h2:=t_ (l:=l) λy hy=>h y (by simp[hy])
  rw[Vd,Xe,U7,XM,Xq];lia
def dG (ps:List (Nat×Nat))(i j:Nat):List (Option Nat):=((gx ps i).filter λk=>decide (k<j)).map some++[none]
theorem lE {ps:List (Nat×Nat)}{i j:Nat}{c:Option Nat}(h:c∈dG ps i j):match c with|none=>True|some k=>(i,k)∈ps/\k<j/\True:=by
 cases c with
 |none=>trivial
 |some k =>
  rcases Vl.mp h with h|h
  ·obtain⟨k',h',e⟩:=Vv.mp h;cases e;obtain⟨h1,h2⟩:=Vk.mp h';exact⟨oQ.mp h1,of_decide_eq_true h2,trivial⟩
  ·cases UX.mp h
def L6 (ps:List (Nat×Nat)):Nat->Nat->Nat->Nat
 |0,_,_=>1
 |_+1,0,_=>1
 |n+1,l+1,i=>((dG ps i (i+l+1)).map λc=>(parts i c (i+l+1)).foldl (λa p=>a*L6 ps n (p.2-p.1) p.1) 1).sum
def sa (ps:List (Nat×Nat))(l i:Nat):Nat:=L6 ps l l i
theorem ly {ps:List (Nat×Nat)}(hp:∀p∈ps,p.1<p.2){i l:Nat}{c:Option Nat}(hc:c∈dG ps i (i+l+1)){p:Nat×Nat}(h:p∈parts i c (i+l+1)):i<p.1/\p.1<=p.2/\p.2<=i+l+1:=by
 have o:=lE hc;cases c with
 |none =>
  rw[UX.mp h];exact⟨Nat.lt_succ_self _,by show i+1<=i+l+1;lia,UO _⟩
 |some k =>
  obtain⟨o1,o2,_⟩:=o;have:=hp _ o1;dsimp only at this;rcases UQ.mp h with rfl|h
  ·exact⟨Nat.lt_succ_self _,by show i+1<=k;lia,by show k<=_;lia⟩
  ·rw[UX.mp h];exact⟨by show i<k+1;lia,by show k+1<=_;lia,UO _⟩
theorem pQ {ps:List (Nat×Nat)}(hp:∀p∈ps,p.1<p.2):∀{n m l i:Nat},l<=n->l<=m->L6 ps n l i=L6 ps m l i
 |0,m,l,i,h1,h2=>by
  rw[show l=0 by lia]
  cases m <;> rfl
 |n+1,m,0,i,h1,h2=>by cases m <;> rfl
 |n+1,0,l+1,i,h1,h2=>by lia
 |n+1,m+1,l+1,i,h1,h2=>by
  show ((dG ps i (i+l+1)).map _).sum=((dG ps i (i+l+1)).map _).sum
  congr 1
  refine VR λc hc=>fx λp h=>?_;obtain⟨a,b,d⟩:=ly hp hc h;exact pQ hp (by lia) (by lia)
theorem ip {ps:List (Nat×Nat)}(hp:∀p∈ps,p.1<p.2){l i:Nat}:sa ps (l+1) i=((dG ps i (i+l+1)).map λc=>(parts i c (i+l+1)).foldl (λa p=>a*sa ps (p.2-p.1) p.1) 1).sum:=by
 show ((dG ps i (i+l+1)).map _).sum=_
 congr 1
 refine VR λc hc=>fx λp h=>?_;obtain⟨a,b,d⟩:=ly hp hc h;exact pQ hp (by lia) (UO _)
theorem rA {ps:List (Nat×Nat)}(hp:∀p∈ps,p.1<p.2)(nd:ps.Nodup){l i:Nat}:(dG ps i (i+l+1)).length<=l+1:=by
 unfold dG;rw[Vr,UN];have h:=zk (n:=l) (i:=i+1) ((FE nd).sublist (W9 (p:=λk=>decide (k<i+l+1)))) λx hx=>by
  obtain⟨h1,h2⟩:=Vk.mp hx;have:=hp (i,x) (oQ.mp h1);have:=of_decide_eq_true h2;dsimp only at *
  lia
 show _+1<=_;lia
def cG (ps:List (Nat×Nat))(i j:Nat)(c:Option Nat):Nat:=(parts i c j).foldl (λa p=>a*sa ps (p.2-p.1) p.1) 1
theorem ft {ps:List (Nat×Nat)}{i j:Nat}:cG ps i j none=sa ps (j-(i+1)) (i+1):=by
 show 1*_=_;rw[Xq]
theorem fq {ps:List (Nat×Nat)}{i j k:Nat}:cG ps i j (some k)=sa ps (k-(i+1)) (i+1)*sa ps (j-(k+1)) (k+1):=by
 show 1*_*_=_;rw[Xq]
theorem pP {ps:List (Nat×Nat)}(hp:∀p∈ps,p.1<p.2)(nd:ps.Nodup):∀l i,sa ps l i<=l8 (l+1):=by
 intro l
 induction l using XS with
 |_ l ih =>
 intro i;cases l with
 |zero=>exact UO _
 |succ l =>
  rw[ip hp];refine Vq (t_ (c:=l8 (l+1)) λc hc=>?_) ?_
  ·show cG ps i (i+l+1) c<=_;have o:=lE hc;cases c with
   |none =>
    rw[ft,show i+l+1-(i+1)=l by lia]
    exact ih l (by lia) _
   |some k =>
    obtain⟨o1,o2,_⟩:=o;have:=hp _ o1;dsimp only at this;rw[fq];have h1:=ih (k-(i+1)) (by lia) (i+1)
    have h2:=ih (i+l+1-(k+1)) (by lia) (k+1)
    have h3:=oX (k-(i+1)+1) (i+l+1-(k+1)+1);rw[show k-(i+1)+1+(i+l+1-(k+1)+1)=l+1 by lia]at h3
    exact Vq (Xv h1 h2) h3
  ·show _<=(l+2)*l8 (l+1);exact Xv (Vq (rA hp nd) (by lia)) (UO _)
theorem k6 {ps:List (Nat×Nat)}(hp:∀p∈ps,p.1<p.2)(nd:ps.Nodup){l i:Nat}(h:l<=19):((sa ps l i:Nat):Int)<2 ^ 64:=by
 have h1:=pP hp nd l i;have h2:=eX (show l+1<=20 by lia)
 have h3:l8 20<2 ^ 64:=by decide
 lia
theorem Fq {ps:List (Nat×Nat)}(hp:∀p∈ps,p.1<p.2)(nd:ps.Nodup){l m i j:Nat}(h:l+m<=39):j6 (sa ps l i:Int) (sa ps m j:Int):=by
 rcases WJ 19 l with q|q
 ·exact .inr ⟨by lia,k6 hp nd (by lia)⟩
 ·exact .inl ⟨by lia,k6 hp nd q⟩
abbrev sT (ps:List (Nat×Nat)):Nat->Nat->Int:=λl i=>((sa ps l i:Nat):Int)
def lR:FD:=λds R=>∃(n:Nat) (ps:List (Nat×Nat)) (L:Nat->Nat) (i j:Nat) (c:Option Nat),ds=[i3 n L (sT ps),.lst ((parts i c j).map BP)]/\c∈dG ps i j/\j5 n ps/\n<=40/\i<j/\j<=n/\(∀a,i<a->a<=n->n+1-a<=L a)/\R (.int (cG ps i j c:Nat))
theorem lR.mono:dt lR:=λds R R' k h=>by obtain⟨n,ps,L,i,j,c,e,h1,h2,h3,h4,h5,h6,q⟩:=h;exact⟨n,ps,L,i,j,c,e,h1,h2,h3,h4,h5,h6,k _ q⟩
def qO:FD:=λds R=>∃(n:Nat) (ps:List (Nat×Nat)) (L:Nat->Nat) (i j:Nat),ds=[i3 n L (sT ps),.lst ((dG ps i j).map oD),.int i,.int j]/\j5 n ps/\n<=40/\i<j/\j<=n/\(∀a,i<a->a<=n->n+1-a<=L a)/\R (.int (sT ps (j-i) i))
theorem qO.mono:dt qO:=λds R R' k h=>by obtain⟨n,ps,L,i,j,e,h2,h3,h4,h5,h6,q⟩:=h;exact⟨n,ps,L,i,j,e,h2,h3,h4,h5,h6,k _ q⟩
theorem rX {ps:List (Nat×Nat)}{l:List (Nat×Nat)}{m:Nat}{p:Nat×Nat}(h:l[m]?=some p):(l.take (m+1)).foldl (λa p=>a*sa ps (p.2-p.1) p.1) 1=(l.take m).foldl (λa p=>a*sa ps (p.2-p.1) p.1) 1*sa ps (p.2-p.1) p.1:=by
 rw[V0,h,List.foldl_append];rfl
def iP:FD:=λds R=>∃(n:Nat) (ps:List (Nat×Nat)),ds=[gU n ps]/\j5 n ps/\n<=40/\R (Es n (sT ps))
theorem iP.mono:dt iP:=λds R R' k h=>by obtain⟨n,ps,e,h2,h3,q⟩:=h;exact⟨n,ps,e,h2,h3,k _ q⟩
def iQ:FD:=λds R=>∃(n:Nat) (ps:List (Nat×Nat)),ds=[gU n ps]/\j5 n ps/\n<=40/\R (.int (sT ps n 0))
theorem iQ.mono:dt iQ:=λds R R' k h=>by obtain⟨n,ps,e,h2,h3,q⟩:=h;exact⟨n,ps,e,h2,h3,k _ q⟩
theorem all_map {ps:List (Nat×Nat)}{i j:Nat}:((gx ps i).filter λk=>decide (k<j)).map (λk:Nat=>D.int (k:Int))++[D.cg]=(dG ps i j).map oD:=by
 unfold dG;rw[Vb,VB];rfl
def gP (n:Nat):Nat->List (Nat×Nat)->Prop
 |_,[]=>True
 |lo,p::ws=>lo<=p.1/\p.1<=p.2/\p.2<=n/\gP n (p.2+1) ws
theorem gP.lo {n:Nat}:∀{ws:List (Nat×Nat)} {a b:Nat},gP n a ws->b<=a->gP n b ws
 |[],_,_,_,_=>trivial
 |_::_,_,_,h,hb=>⟨Vq hb h.1,h.2⟩
theorem gP.mem {n:Nat}:∀{ws:List (Nat×Nat)} {a:Nat},gP n a ws->∀p∈ws,a<=p.1/\p.1<=p.2/\p.2<=n
 |[],_,_,_,h=>nomatch h
 |q::ws,a,h,p,hp=>by
  rcases UQ.mp hp with rfl|hp
  ·exact⟨h.1,h.2.1,h.2.2.1⟩
  ·have:=gP.mem h.2.2.2 p hp;have:=h.1;have:=h.2.1;lia
abbrev fW (ps:List (Nat×Nat)):Nat->Nat×Nat->Nat:=λa p=>a*sa ps (p.2-p.1) p.1
abbrev aX (ps ws:List (Nat×Nat)):Nat:=ws.foldl (fW ps) 1
theorem Di (n:Nat):1<=l8 n:=by
 induction n with
 |zero=>exact UO _
 |succ n ih=>exact Vq ih (Nat.le_mul_of_pos_left _ (by lia))
theorem pX {ps:List (Nat×Nat)}(hp:∀p∈ps,p.1<p.2)(nd:ps.Nodup){n:Nat}{p:Nat×Nat}:∀{ws:List (Nat×Nat)} {lo m acc:Nat},gP n lo ws->ws[m]?=some p->(ws.take m).foldl (fW ps) acc<=acc*l8 (p.1-lo)
 |[],_,_,_,_,e=>nomatch e
 |q::ws,lo,0,acc,h,e=>by
  show acc<=_;exact Nat.le_mul_of_pos_right _ (Di _)
 |q::ws,lo,m+1,acc,h,e=>by
  have k:=pX hp nd (m:=m) (acc:=fW ps acc q) h.2.2.2 e;have k1:=(gP.mem h.2.2.2 p (Vx (i:=m) e)).1;have k2:=h.2.1;have k3:=h.1;refine Vq k ?_;have s1:=pP hp nd (q.2-q.1) q.1;have s2:=oX (q.2-q.1+1) (p.1-(q.2+1));have s3:=eX (show q.2-q.1+1+(p.1-(q.2+1))<=p.1-lo by lia)
  show acc*sa ps (q.2-q.1) q.1*_<=_;rw[XI];exact Xv (UO _) (Vq (Vq (Xv s1 (UO _)) s2) s3)
theorem Bi {ps:List (Nat×Nat)}(hp:∀p∈ps,p.1<p.2)(nd:ps.Nodup){n m:Nat}{p:Nat×Nat}{ws:List (Nat×Nat)}(hn:n<=40)(h:gP n 0 ws)(e:ws[m]?=some p):
  j6 ((aX ps (ws.take m):Nat):Int) ((sa ps (p.2-p.1) p.1:Nat):Int):=by
 have a:aX ps (ws.take m)<=1*l8 (p.1-0):=pX hp nd (acc:=1) h e;have b:=h.mem p (Vx e);rcases WJ 20 p.1 with q|q
 ·exact .inr ⟨by lia,k6 hp nd (by lia)⟩
 ·refine .inl ⟨by lia,?_⟩
  have h2:=eX (show p.1-0<=20 by lia)
  have h3:l8 20<2 ^ 64:=by decide
  rw[Xq]at a;lia
theorem IE {ps ws:List (Nat×Nat)}{m:Nat}{p:Nat×Nat}(h:ws[m]?=some p):aX ps (ws.take (m+1))=aX ps (ws.take m)*sa ps (p.2-p.1) p.1:=rX h
def Ew:FD:=λds R=>∃(n:Nat) (ps:List (Nat×Nat)) (L:Nat->Nat) (ws:List (Nat×Nat)),ds=[i3 n L (sT ps),.lst (ws.map BP)]/\j5 n ps/\n<=40/\gP n 0 ws/\(∀p∈ws,n+1-p.1<=L p.1)/\R (.int (aX ps ws:Nat))
theorem lR.toW {ds:List D}{R:D->Prop}(h:lR ds R):Ew ds R:=by
 obtain⟨n,ps,L,i,j,c,rfl,hc,ok,hn,h1,h2,h3,q⟩:=h;have hp:∀p∈ps,p.1<p.2:=λp hp=>(ok.lt p hp).1;have o:=lE hc;refine⟨n,ps,L,parts i c j,rfl,ok,hn,?_,λp h=>?_,q⟩
 ·cases c with
  |none=>exact⟨U4 _,h1,h2,trivial⟩
  |some k =>
   have:=hp _ o.1;dsimp only at this;exact⟨U4 _,this,by show k<=n;lia,UO _,o.2.1,h2,trivial⟩
 ·obtain⟨l,rfl⟩:∃l,j=i+l+1:=⟨j-i-1,by lia⟩
  have:=ly hp hc h;exact h3 p.1 this.1 (by lia)
def wb:List (Nat×Nat)->Nat×Nat->Option (List (Nat×Nat))
 |[],_=>none
 |v::ws,p=>if v.1<=p.1/\p.2<v.2 then some ((p.1+1,p.2)::(p.2+1,v.2)::ws) else wb ws p
def HN (ws:List (Nat×Nat))(p:Nat×Nat):Prop:=∃v∈ws,v.1<=p.1/\p.2<v.2
theorem tV {p:Nat×Nat}:∀{ws:List (Nat×Nat)},HN ws p->∃l,wb ws p=some l
 |[],⟨_,h,_⟩=>nomatch h
 |v::ws,⟨u,h,k⟩=>by
  show ∃l,(if v.1<=p.1/\p.2<v.2 then some _ else wb ws p)=some l
  by_cases c:v.1<=p.1/\p.2<v.2
  ·exact⟨_,if_pos c⟩
  ·rw[if_neg c];rcases UQ.mp h with rfl|h
   ·exact absurd k c
   ·exact tV ⟨u,h,k⟩
theorem jF {n:Nat}{p:Nat×Nat}(hp:p.1<p.2):∀{ws l:List (Nat×Nat)} {lo:Nat},gP n lo ws->wb ws p=some l->gP n lo l
 |[],_,_,_,e=>nomatch e
 |v::ws,l,lo,h,e=>by
  change (if v.1<=p.1/\p.2<v.2 then some _ else wb ws p)=some l at e
  by_cases c:v.1<=p.1/\p.2<v.2
  ·rw[if_pos c]at e;cases e;have:=h.1;have:=h.2.2.1;exact⟨by show lo<=p.1+1;lia,hp,by show p.2<=n;lia,UO _,c.2,h.2.2.1,h.2.2.2⟩
  ·rw[if_neg c]at e;have:=h.1;have:=h.2.1;exact(jF hp h.2.2.2 e).lo (by lia)
def HR (s t:Nat×Nat):Prop:=t.2<s.2\/s.2<t.1
theorem tW {n:Nat}{s t:Nat×Nat}(hs:s.1<s.2)(ht:t.1<t.2)(hl:s.1<t.1)(ha:HR s t):∀{ws l:List (Nat×Nat)} {lo:Nat},gP n lo ws->HN ws t->wb ws s=some l->HN l t
 |[],_,_,_,_,e=>nomatch e
 |v::ws,l,lo,h,⟨u,hu,k⟩,e=>by
  change (if v.1<=s.1/\s.2<v.2 then some _ else wb ws s)=some l at e
  by_cases c:v.1<=s.1/\s.2<v.2
  ·rw[if_pos c]at e;cases e;rcases UQ.mp hu with rfl|hu
   ·rcases ha with a|a
    ·exact⟨_,UY,hl,a⟩
    ·exact⟨_,UU _ UY,a,k.2⟩
   ·exact⟨u,UU _ (UU _ hu),k⟩
  ·rw[if_neg c]at e;rcases UQ.mp hu with rfl|hu
   ·-- t lies in the first,s beyond it
    exfalso
    have:HN ws s:=by
     revert e
     clear h k hu
     induction ws with
     |nil=>exact λe=>nomatch e
     |cons v ws ih =>
      intro e
      change (if v.1<=s.1/\s.2<v.2 then some _ else wb ws s)=some l at e
      by_cases c:v.1<=s.1/\s.2<v.2
      ·exact⟨v,UY,c⟩
      ·rw[if_neg c]at e;obtain⟨x,hx,kx⟩:=ih e;exact⟨x,UU _ hx,kx⟩
    obtain⟨x,hx,kx⟩:=this;have:=h.2.2.2.mem x hx;lia
   ·exact tW hs ht hl ha h.2.2.2 ⟨u,hu,k⟩ e
def wa:List (Nat×Nat)->List (Nat×Nat)->Option (List (Nat×Nat))
 |ws,[]=>some ws
 |ws,p::ts=>(wb ws p).bind λl=>wa l ts
def vz (ts:List (Nat×Nat)):Prop:=ts.Pairwise λs t=>s.1<t.1/\HR s t
theorem tX {n:Nat}:∀{ts ws:List (Nat×Nat)},gP n 0 ws->(∀t∈ts,t.1<t.2/\HN ws t)->vz ts->∃l,wa ws ts=some l/\gP n 0 l
 |[],ws,h,_,_=>⟨ws,rfl,h⟩
 |t::ts,ws,h,hi,g=>by
  obtain⟨l,e⟩:=tV (hi t UY).2;have g':=VP.mp g;obtain⟨l',e',k⟩:=tX (jF (hi t UY).1 h e) (λu hu=>⟨(hi u (UU _ hu)).1,tW (hi t UY).1 (hi u (UU _ hu)).1 (g'.1 u hu).1 (g'.1 u hu).2 h (hi u (UU _ hu)).2 e⟩) g'.2;exact⟨l',by show (wb ws t).bind _=_;rw[e];exact e',k⟩
def tR (ps ns:List (Nat×Nat)):Prop:=(∀p∈ns,p∈ps)/\vz ns
theorem Tu {s t:Nat×Nat}(hs:s.1<s.2)(ht:t.1<t.2)(l:HT.lexLt (tI s) (tI t)=true)(a:Apart (tI s) (tI t)):s.1<t.1/\HR s t:=by
 obtain⟨s1,s2⟩:=s;obtain⟨t1,t2⟩:=t;dsimp only at hs ht;have sh:∀x:Int,x∈tI (s1,s2)->x∈tI (t1,t2)->False:=λx h1 h2=>by
  have:=b8.mpr ⟨x,h1,h2⟩;rw[a.1]at this;cases this
 have e1:s1≠t1:=λe=>sh s1 (by simp[tI]) (by simp[tI,e])
 have e2:s2≠t1:=λe=>sh s2 (by simp[tI]) (by simp[tI,e])
 have e3:s2≠t2:=λe=>sh s2 (by simp[tI]) (by simp[tI,e])
 have l1:s1<t1:=by
  change HT.lexLt ((s1:Int)::[(s2:Int)]) ((t1:Int)::[(t2:Int)])=true at l
  rw[HT.cb,if_neg (by lia)]at l
  have:=of_decide_eq_true l;lia
 refine⟨l1,?_⟩;have c:=a.2;have c':¬ (((s1:Nat):Int)<t1/\((t1:Nat):Int)<s2/\((s2:Nat):Int)<t2):=λz=>by
  have:fz (s1:Int) s2 t1 t2=true:=fy.mpr (.inl z);have c:fz (s1:Int) s2 t1 t2=false:=c;rw[this]at c;cases c
 show t2<s2\/s2<t1;lia
theorem tR.Sa {n:Nat}{ps ns:List (Nat×Nat)}(ok:j5 n ps)(h:tR ps ns):∀t∈ns,t.1<t.2/\HN [(0,n)] t:=λt ht=>⟨(ok.lt t (h.1 t ht)).1,(0,n),UY,U4 _,(ok.lt t (h.1 t ht)).2⟩
theorem jW {n:Nat}:gP n 0 [(0,n)]:=⟨UO _,U4 _,UO _,trivial⟩
theorem tR.wa {n:Nat}{ps ns:List (Nat×Nat)}(ok:j5 n ps)(h:tR ps ns):∃l,wa [(0,n)] ns=some l/\gP n 0 l:=tX jW (h.Sa ok) h.2
theorem xQ:∀{a b ws:List (Nat×Nat)},wa ws (a++b)=(wa ws a).bind λl=>wa l b
 |[],b,ws=>rfl
 |p::a,b,ws=>by
  show (wb ws p).bind (λl=>wa l (a++b))=((wb ws p).bind λl=>wa l a).bind _;cases wb ws p with
  |none=>rfl
  |some l=>exact xQ
def Bo (ps ws:List (Nat×Nat)):List (Nat×Nat):=ps.filter λp=>(wb ws p).isSome
def vH (ps ws:List (Nat×Nat))(t:Nat×Nat):Nat:=1+(((Bo ps ws).filter λo=>HT.lexLt (tI o) (tI t)).map λo=>aX ps ((wb ws o).getD [])).sum
def mf (ps:List (Nat×Nat)):List (Nat×Nat)->List (Nat×Nat)->Nat
 |_,[]=>0
 |ws,t::ts=>vH ps ws t+mf ps ((wb ws t).getD []) ts
def mx (ps:List (Nat×Nat))(u:List (Nat×Nat)×List (Nat×Nat)×Int)(p:Nat×Nat):List (Nat×Nat)×List (Nat×Nat)×Int:=match wb u.1 p with
 |none=>u
 |some l=>if 0<u.2.2 then (if u.2.2<=((aX ps l:Nat):Int) then (l,u.2.1++[p],u.2.2-1) else (u.1,u.2.1,u.2.2-((aX ps l:Nat):Int))) else u
def sat (ps:List (Nat×Nat))(n:Nat)(k:Int):List (Nat×Nat):=(ps.foldl (mx ps) ([(0,n)],[],k)).2.1
end L2.Q
namespace hG
open PySem L2 L2.Q
section
variable {P:UP}{w:U1}{K:PySem.W.Frag}{mg:Str->Option UK}{base:Heap}
theorem dy:aG ["counts","parts","ways","low","high"] ["counts","parts"] (ak gq):=⟨rfl,rfl,rfl,by decide +kernel,rfl,by decide +kernel,by decide +kernel⟩
theorem Cf {gk cY} (pz:D5 K mg gk cY):aL P w K mg base bS 1 gk cY ["counts","parts"] (dU P w true Ew):=by
 refine oK pz.F dy (λds R KS=> by obtain⟨n,ps,L,ws,e,_⟩ := KS;subst e;rfl) λb7 A outer s H E hr=>⟨_,(aj (aR (i:=2) ah dy.nd)
    (aj (c4 VS rfl (a7 (ae (i:=1))) (dj (n:=2) rfl (aT (au (i:=3) dy.nd) (aT (au (i:=4) dy.nd) cw))) (ar (aR (i:=2) (aN ag (bK.m kh) (ae (i:=2)) (aI ag bg (aI ag bg (ae (i:=0)) (ae (i:=3))) (aN ag (bK.m cR) (ae (i:=4)) (ae (i:=3))))) dy.nd)))
    (ar (a5 (ae (i:=2)))))),λds R h=>?_⟩
 obtain⟨n,ps,L,ws,rfl,ok,hn,hw,h3,q⟩:=h;have hp:∀p∈ps,p.1<p.2:=λp hp=>(ok.lt p hp).1;refine⟨_,rfl,_,rfl,trivial,?_⟩;refine⟨λm β=>∃x3 x4,β=[some (.val false (i3 n L (sT ps))),some (.val false (.lst (ws.map BP))),some (.val true (.int ((aX ps (ws.take m):Nat):Int))),x3,x4],⟨_,_,rfl⟩,?_,?_⟩
 ·rintro m d β hd ⟨x3,x4,rfl⟩;rw[U8]at hd;obtain⟨p,H_,rfl⟩:=U3.mp hd;have b:=hw.mem p (Vx H_);have hl:=h3 p (Vx H_);refine⟨_,rfl,rfl,_,_,rfl,_,_,rfl,rfl,?_⟩;refine⟨_,rfl,trivial,_,rfl,trivial,_,rfl,_,Ef rfl (by lia),.inr ⟨trivial,_,rfl,trivial,_,rfl,_,rfl,_,Eg (l:=p.2-p.1) (by lia) (by lia),_,tG (Bi hp ok.nd (by lia) hw H_),_,_,by rw[IE H_,Y0];rfl⟩⟩
 ·rintro β ⟨x3,x4,rfl⟩;rw[UN,WC];exact⟨_,rfl,trivial,q⟩
theorem F1 {gk cY} (pz:D5 K mg gk cY):aL P w K mg base bS 1 gk cY ["counts","parts"] (dU P w true lR):=(Cf pz).imp λvs H Q E ⟨ds,r,h⟩=>⟨ds,r,h.toW⟩
theorem sd:aG ["counts","choices","i","j"] ["counts","choices","i","j"] (ak gu):=⟨rfl,rfl,rfl,by decide +kernel,rfl,by decide +kernel,by decide +kernel⟩
theorem F2 {jZ fI} (vf:D6 K mg jZ fI) {gk cY} (pz:D5 K mg gk cY) {iO d_} (rL:D4 K mg iO d_) (B:rP mg):aL P w K mg base bS 2 jZ fI ["counts","choices","i","j"] (dU P w true qO):=by
 have Tz:aL P w K mg base bS 1 _ _ _ (dU P w true lR):= F1 pz;have TN:aL P w K mg base bS 1 _ _ _ (dU P w true lU):= zi rL;refine oK vf.F sd (λds R KR=> by obtain⟨n,ps,L,i,j,e,_⟩ := KR;subst e;rfl) λb7 A outer s H E hr=>⟨_,(ar (a5 (bL ag (cJ.m (xj rfl)) B.sum HC (aa (Gp ["k","counts","i","j"] [none,some 0,some 2,some 3] (by rfl) (by decide:(["k","counts","i","j"]:List Str).Nodup) rfl (a7 (ae (i:=1))) (λ_ _ _ _ _ _=>(au (i:=0) (by decide:(["k","counts","i","j"]:List Str).Nodup))) (λ_ _ _ _ _ _=>iZ) (λ_ _ _ _ _ _=>(aW lR.mono Tz (hr.mono (by decide)) pz.m pz.F.kp pz.b (aa (ae (i:=1)) (aa (aW lU.mono TN (hr.mono (by decide)) rL.m rL.F.kp rL.b (aa (ae (i:=2)) (aa (ae (i:=0)) (aa (ae (i:=3)) af)))) af))))) af)))),λds R h=>?_⟩
 obtain⟨n,ps,L,i,j,rfl,ok,hn,h1,h2,h3,q⟩:=h;have hp:∀p∈ps,p.1<p.2:=λp hp=>(ok.lt p hp).1;have bl:(dG ps i j).length<=41:=by
  obtain⟨l,rfl⟩:∃l,j=i+l+1:=⟨j-i-1,by lia⟩
  exact Vq (rA hp ok.nd) (by lia)
 refine⟨_,rfl,_,rfl,trivial,?_⟩;refine dD (λ_=>true) (λc=>.int ((cG ps i j c:Nat):Int)) trivial (bU (by lia)) (λc hc x0 o J ho j1 _=>?_) ?_
 ·cases c with
  |none=>exact⟨_,rfl,trivial,_,rfl,trivial,_,rfl,trivial,_,rfl,trivial,i,none,j,rfl,trivial,n,ps,L,i,j,none,rfl,hc,ok,hn,h1,h2,h3,trivial,ho,j1 rfl _⟩
  |some k=>exact⟨_,rfl,trivial,_,rfl,trivial,_,rfl,trivial,_,rfl,trivial,i,some k,j,rfl,trivial,n,ps,L,i,j,some k,rfl,hc,ok,hn,h1,h2,h3,trivial,ho,j1 rfl _⟩
 ·rw[gj];refine⟨trivial,_,sum_ints,trivial,?_⟩;obtain⟨l,rfl⟩:∃l,j=i+l+1:=⟨j-i-1,by lia⟩
  have e:((dG ps i (i+l+1)).map λc=>((cG ps i (i+l+1) c:Nat):Int)).sum=sT ps (i+l+1-i) i:=by
   rw[pI,show i+l+1-i=l+1 by lia]
   show _=((sa ps (l+1) i:Nat):Int);rw[ip hp];rfl
  rw[e];exact q
theorem bE:aG ["row","many","partners","counts","i","j","choices"] ["row"] (ak d3):=⟨rfl,rfl,rfl,by decide +kernel,rfl,by decide +kernel,by decide +kernel⟩
theorem we {mI gM} (xE:D7 K mg mI gM) {j3 fK} (vh:D3 K mg j3 fK) {j0 fJ} (vg:D2 K mg j0 fJ) {jZ fI} (vf:D6 K mg jZ fI) {gk cY} (pz:D5 K mg gk cY) {iO d_} (rL:D4 K mg iO d_) (B:rP mg):aL P w K mg base bS 3 mI gM ["row"] (dU P w true iP):=by
 have TM:aL P w K mg base bS 1 _ _ _ (dU P w true qR):= Ck vh B;have TF:aL P w K mg base bS 1 _ _ _ (dU P w true z9):= Ci vg B;have TC:aL P w K mg base bS 2 _ _ _ (dU P w true qO):= F2 vf pz rL B;refine oK xE.F bE (λds R KQ=> by obtain⟨n,ps,e,_⟩ := KQ;subst e;rfl) λb7 A outer s H E hr=>⟨_,(aj (aR (i:=1) (aI ag bg (ae (i:=0)) ah) bE.nd)
    (aj (aR (i:=2) (aW qR.mono TM (hr.mono (by decide)) vh.m vh.F.kp vh.b (aa (ae (i:=0)) af)) bE.nd)
    (aj (vO (i:=3) true ["i"] [none] (by rfl) (by decide:(["i"]:List Str).Nodup) rfl (λ_=>(dC B.range (aa (aN aV aF (ae (i:=1)) ah) af))) (λ_ _ _ _ _ _=>(au (i:=0) (by decide:(["i"]:List Str).Nodup))) (λ_ _ _ _ _ _=>iZ) (λ_ _ _ _ _ _=>(ba (aa ah af))) bE.nd)
    (aj (c4 VS rfl (a7 (aW z9.mono TF (hr.mono (by decide)) vg.m vg.F.kp vg.b (aa (ae (i:=1)) af))) (dj (n:=2) rfl (aT (au (i:=4) bE.nd) (aT (au (i:=5) bE.nd) cw))) (aj (aR (i:=6) (aN aV aF (Gp ["k","j"] [none,some 5] (by rfl) (by decide:(["k","j"]:List Str).Nodup) rfl (a7 (aI ag bg (ae (i:=2)) (ae (i:=4)))) (λ_ _ _ _ _ _=>(au (i:=0) (by decide:(["k","j"]:List Str).Nodup))) (λ_ _ _ _ _ _=>(eD (aJ ag (bK.m bG) (ae (i:=0)) (ae (i:=1))))) (λ_ _ _ _ _ _=>(ae (i:=0)))) (ba (aa ll af))) bE.nd)
    (ar (jO (i:=3) true (λ_=>(aW qO.mono TC (hr.mono (by decide)) vf.m vf.F.kp vf.b (aa (ae (i:=3)) (aa (ae (i:=6)) (aa (ae (i:=4)) (aa (ae (i:=5)) af)))))) (λ_=>(ae (i:=4)))))))
    (ar (uy (i:=3))))))),λds R h=>?_⟩
 obtain⟨n,ps,rfl,ok,G9,q⟩:=h;have hn:=ok.le;have hp:∀p∈ps,p.1<p.2:=λp hp=>(ok.lt p hp).1;refine⟨_,rfl,trivial,_,rfl,_,rfl,trivial,n,ps,rfl,ok,_,rfl,trivial,_,rfl,trivial,(n:Int)+1,rfl,by lia,by lia,trivial,?_⟩
 rw[show ((n:Int)+1).toNat=n+1 by lia]
 refine dD (λ_=>true) (λ_=>.lst [.int 1]) trivial (by rw[V1];exact bU (by lia)) (λx hx x0 o J ho h1 _=>⟨trivial,yd,trivial,ho,h1 rfl _⟩) ?_
 rw[gj];refine⟨_,rfl,trivial,n,rfl,hn,_,rfl,trivial,?_⟩;refine⟨λidx β=>∃L x4 x5 x6,β=[some (.val false (gU n ps)),some (.val true (.int n)),some (.val true (L8 n ps)),some (.own (i3 n L (sT ps))),x4,x5,x6]/\vA n idx L,⟨λ_=>1,_,_,_,rfl,qX⟩,?_,?_⟩
 ·rintro idx d β hd ⟨L,x4,x5,x6,rfl,dn⟩;rw[U8]at hd;obtain⟨p,G3,rfl⟩:=U3.mp hd;obtain⟨a,b,ha,hb,rfl,hL,zN⟩:=tw dn G3;have eL:i3 n L (sT ps)=i3 n (fw n a b) (sT ps):=mS hL;have e0:fw n a b (n-1-a)=b+1:=by unfold fw;rw[if_neg (by lia),if_pos rfl]
  rw[eL];refine⟨_,rfl,rfl,_,_,rfl,_,_,rfl,rfl,?_⟩;have hpl:(gx ps (n-1-a)).length<=400:=by unfold gx;rw[UN];exact Vq (VD _ _) ok.sm
  refine⟨_,rfl,trivial,_,rfl,_,NQ rfl (by lia),.inr ⟨_,rfl,trivial,?_⟩⟩
  refine dD (λk:Nat=>decide (k<n-a+b)) (λk=>.int (k:Int)) trivial (bU (Vq hpl (by decide))) (λk hk y0 o J ho j1 j2=>?_) ?_
  ·refine⟨_,rfl,trivial,_,rfl,_,rfl,_,rfl,?_⟩
   by_cases Ib:(k:Int)<((n-a+b:Nat):Int)
   ·exact mC (decide_eq_true Ib) ⟨_,rfl,trivial,ho,j1 (decide_eq_true (by lia)) _⟩
   ·exact fN (decide_eq_false Ib) (j2 (decide_eq_false (by lia)) _)
  have ea:Av (.lst (((gx ps (n-1-a)).filter λk=>decide (k<n-a+b)).map λk:Nat=>D.int (k:Int))) (.lst [.cg])=some (.lst ((dG ps (n-1-a) (n-a+b)).map oD)):=by
   rw[<- all_map];exact lY (by rw[UN];have:=VD (λk=>decide (k<n-a+b)) (gx ps (n-1-a));show _+1<=_;lia)
  refine⟨trivial,trivial,yd,_,ea,.inr ?_⟩;refine⟨⟨_,rfl⟩,_,rfl,_,_,_,_,rfl,rfl,by rw[UN,V1];exact JZ rfl (show n-1-a<n+1 by lia),d4 (show n-1-a<n+1 by lia),?_⟩
  refine⟨_,rfl,trivial,_,rfl,trivial,_,rfl,trivial,_,rfl,trivial,n,ps,fw n a b,n-1-a,n-a+b,rfl,ok,G9,by lia,by lia,λa' h1 h2=>by unfold fw;rw[if_pos h1];exact UO _,trivial,rfl,?_,?_⟩
  ·rw[e0];unfold pH;rw[UN,V1];exact yc (by lia)
  ·refine⟨fw n a (b+1),some (.val true (.int ((n-1-a:Nat):Int))),some (.val true (.int ((n-a+b:Nat):Int))),some (.val true (.lst ((dG ps (n-1-a) (n-a+b)).map oD))),?_,.inr ⟨a,b+1,ha,by lia,λ_ _=>rfl,zN⟩⟩
   rw[show n-a+b-(n-1-a)=b+1 by lia,e0,BA ha hb]
   rfl
 ·rintro β ⟨L,x4,x5,x6,rfl,dn⟩;rw[UN]at dn;have e:i3 n L (sT ps)=Es n (sT ps):=mS (w5 dn);rw[e];exact⟨_,rfl,q⟩
theorem mw:aG ["row"] ["row"] (ak df):=⟨rfl,rfl,rfl,by decide +kernel,rfl,by decide +kernel,by decide +kernel⟩
theorem Cp {qN jT} (Bd:D8 K mg qN jT) {mI gM} (xE:D7 K mg mI gM) {j3 fK} (vh:D3 K mg j3 fK) {j0 fJ} (vg:D2 K mg j0 fJ) {jZ fI} (vf:D6 K mg jZ fI) {gk cY} (pz:D5 K mg gk cY) {iO d_} (rL:D4 K mg iO d_) (B:rP mg):aL P w K mg base bS 4 qN jT ["row"] (dU P w true iQ):=by
 have TX:aL P w K mg base bS 3 _ _ _ (dU P w true iP):= we xE vh vg vf pz rL B;refine oK Bd.F mw (λds R KP=> by obtain⟨n,ps,e,_⟩ := KP;subst e;rfl) λb7 A outer s H E hr=>⟨_,(ar (a5 (aI ag bg (aI ag bg (aW iP.mono TX (hr.mono (by decide)) xE.m xE.F.kp xE.b (aa (ae (i:=0)) af)) ah) (aI ag bg (ae (i:=0)) ah)))),λds R h=>?_⟩
 obtain⟨n,ps,rfl,ok,G9,q⟩:=h;exact⟨_,rfl,trivial,n,ps,rfl,ok,G9,trivial,_,Ef (i:=0) rfl (U4 _),.inr ⟨trivial,_,rfl,trivial,_,rfl,_,Eg (l:=n) rfl (by lia),trivial,q⟩⟩
end
end hG
namespace L2.EX
open PySem PySem.W PySem.Spec PySem.Calls PyProof.Rows Builtin Builtin.ObjectAttr Builtin.Getset_descriptor
def ExcAt (a C:Addr)(h:Heap):Prop:=∃o vs,h.get? a=some o/\o.cls=.ref C/\o.data=.fields vs
theorem ExcAt.ty {a C:Addr}{h:Heap}{M:YW}(p:ExcAt a C h):Looks M h (typeOf (.ref a)) (.ref C):=by
 obtain⟨o,vs,h1,h2,_⟩:=p;exact h2▸(Looks.ld h1).andThen .now
section
variable {prog:UP}{w:U1}{A:VO}{E:UK->UL->Prop}{s:UL}{K:Frag}{x C:Addr}{R:Result->UL->Prop}
theorem class_get {tp:UK} (X:K.In s.heap) (I:ExcAt x C s.heap) (hm:mroIn K C (.type "object")=some true)
  (h:R (.ok (.ret (.ref C))) s):Yn (model prog w) A (.call (.builtin "getset_descriptor.__get__") ⟨[.builtin "object.__class__",.ref x,tp],[]⟩) R s:=by
 obtain⟨hh,g,dr,t,os⟩:=s;have L0:=I.ty (M:=model prog w);have L1:=looks_mroIn (M:=model prog w) X hm;refine codeAny_call_builtin KF.slot_gs.plain KF.entry_gs (KF.slot_gs.check _ _ _ _ _ _ _ _ KF.type_class (KF.args_gs _ _ _) ?_);unfold Xj.«getset_descriptor.__get__» descrGet;rw[dga_obj];refine UM (U6 ?_);unfold descrGetter descrCheckInstance descrNameAndClass isInstance;simp only[KF.owner_class]
 repeat lk
 refine⟨Code.quiet_builtin _ (by decide +kernel),codeAny_builtin KF.entry_class ?_⟩
 unfold Xj.«object.__class__» shownTypeOf
 repeat lk
 exact h
structure XC (K:Frag)(C:Addr):Prop where
 obj:mroIn K C (.type "object")=some true
 base:mroIn K C (.type "BaseException")=some true
 ga:findIn K (.ref C) "__getattribute__" = some (some (.builtin "BaseException.__getattribute__"))
 hook:findIn K (.ref C) "__getattr__" = some none
 cls:findIn K (.ref C) "__class__" = some (some (.builtin "object.__class__"))
theorem Ay {M:YW} {Ec:UK} {Q:Unit->UL->Prop} (X:K.In s.heap) (I:ExcAt x C s.heap) (Z:XC K C) (hq:Q () s):Vp M A (checkBuiltinCall "BaseException.__getattribute__" ⟨[.ref x,Ec],[]⟩) Q E s:=by
 obtain⟨hh,g,dr,t,os⟩:=s;have hk:builtinKind "BaseException.__getattribute__" = some .slot:=by decide +kernel
 have GG:splitId "BaseException.__getattribute__" = some ("BaseException","__getattribute__"):=by decide +kernel
 have ha:=F.args_bexc_ga (.ref x) Ec;have L0:=I.ty (M:=M);have L1:=looks_mroIn (M:=M) X Z.base;simp only[checkBuiltinCall,hk,GG];refine UM ?_;unfold isInstance
 repeat lk
 exact hq
theorem rj {tk:Tok}{Q:Fin->UL->Prop}(X:K.In s.heap)(I:ExcAt x C s.heap)(Z:XC K C)(hq:Q (.done (.ret (.ref C))) s):
  Vp (model prog w) A (Xj.«object.__getattribute__» ⟨[.ref x,.str "__class__" tk],[]⟩) Q E s:=by
 obtain⟨hh,g,dr,t,os⟩:=s;have L0:=I.ty (M:=model prog w);have L1:=looks_findIn (M:=model prog w) X Z.cls;have L2:=looks_specialIn (M:=model prog w) (K:=K) X (v:=.builtin "object.__class__") (name:="__get__") (r:=some (.builtin "getset_descriptor.__get__")) (by kernel_rfl)
 have L3:=looks_takesIn (M:=model prog w) (K:=K) X (a:=.builtin "object.__class__") (r:=true) (by kernel_rfl)
 unfold Xj.«object.__getattribute__»
 repeat (first|(with_reducible refine UM (YE (class_get (s:=⟨hh,g,dr,t,os⟩) X I Z.obj ?_)))|(with_reducible refine YE (class_get (s:=⟨hh,g,dr,t,os⟩) X I Z.obj ?_))|lk)
 exact hq
theorem tK {Q:Option UK->UL->Prop}(X:K.In s.heap)(I:ExcAt x C s.heap)(Z:XC K C)(h:Q (some (.ref C)) {s with toks:=s.toks+1}):Vp (model prog w) A (getAttr? (.ref x) "__class__") Q E s:=by
 obtain⟨hh,g,dr,t,os⟩:=s;have L0:=I.ty (M:=model prog w);have L1:=looks_findIn (M:=model prog w) X Z.ga;have L2:=looks_findIn (M:=model prog w) X Z.hook;have f3:=F.attr_ValueError.ga.bind (.ref x);have NX:(YC "BaseException.__getattribute__" == YC "object.__getattribute__")=false:=by decide +kernel
 have GF:(onTheHeap (Value.ref C)&&YC "BaseException.__getattribute__" == YC "object.__getattribute__")=false:=by rw[NX];rfl
 unfold getAttr? getAttrBy? getAttrBy;refine UM (wpAny_mkText (UM (Yd (Wx (UM (L0.at (UM (L1.at ?_))))))));dsimp only;rw[if_neg (λq=>by rw[GF]at q;cases q)]
 unfold getAttrByItsOwn hookBefore onTheHeap callGetattribute boundAndCalled;dsimp only;rw[if_pos rfl];refine UM (L2.at (UM (Yd (Wx ?_))));simp only[W5,WL,if_false];refine UM (wpAny_of_eq f3 ?_);refine YE (codeAny_call_builtin F.attr_ValueError.ga.plain F.entry_bexc_ga (Ay (s:=⟨hh,g,dr,t+1,os⟩) X I Z (rj (s:=⟨hh,g,dr,t+1,os⟩) X I Z ?_)));exact handed_on rfl (U6 h)
theorem qw (Z:XC K C):KitX K (.ref x) (.ref C) (ExcAt x C) where
 ty:=λ_ _ _ I=>I.ty
 it:=λ_ _ X _=>by
  obtain⟨cd,hc,_⟩:=Vf.mp Z.obj;unfold clsIn at hc
  split at hc
  ·rename_i c' d' Ts DS ho
   intro A' Q' E' s' k q;unfold isType loadHead;exact UM (wpAny_loadPart (k _ _ (X _ _ ho)) (U6 q))
  ·cases hc
 ne:=λh tp dd its n sl X Sh=>by
  obtain⟨cd,hc,_⟩:=Vf.mp Z.obj;refine Wo.mpr λq=>?_;have e:C=tp:=Value.ref.inj (beq_iff_eq.mp q);subst e;unfold clsIn at hc
  split at hc
  ·rename_i c' d' Ts DS ho
   have z:=(X _ _ ho).symm.trans Sh;cases z
  ·cases hc
 ca:=λX I k=>tK X I Z k
end
end L2.EX
namespace L2
open PySem PySem.W PySem.Spec PyProof.Rows
abbrev jC (C a:Addr):HO:=.ext (EX.ExcAt a C)
def D.exc (C:Addr):D:=.ob (jC C)
structure HQ (P:UP)(w:U1)(outer:List Env)(H:Hp)(s:UL)(a C:Addr)(H':Hp)(s':UL):Prop where
 os:s'.os=s.os
 bare:Yc s'.gens
 un:Un (fQ outer) [] H H' s.heap s'.heap
 bo:fL P w H' s'.heap
 fl:∃(B:Heap) (a0:UK),Xz B outer a (.ref C) a0 s'.heap/\(∀b,H' b≠none->∃o,B.get? b=some o) /\
  ∀b o,s.heap.get? b=some o->b∉fQ outer->∃o',B.get? b=some o'/\(H b=none->o'=o)
 nt:H' a=none
 nw:s.heap.get? a=none
def ER (P:UP)(w:U1):xr:=λouter H s E e s'=>∃(a C:Addr) (H':Hp),e=.ref a/\HQ P w outer H s a C H' s'/\E (.ref C) none H'
section
variable {P:UP}{w:U1}{H:Hp}{h h' B:Heap}
theorem ny (x:fL P w H h){b:Addr}(e:H b≠none):∃o,h.get? b=some o:=by
 cases q:H b with
 |none=>exact absurd q e
 |some u =>
  have z:=x b u q;cases u with
  |lst xs=>obtain⟨_,_,_,_,e⟩:=z;exact⟨_,e⟩
  |tup xs=>obtain⟨_,_,_,o,e,_⟩:=z;exact⟨_,e⟩
  |dK kvs=>obtain⟨_,_,_,_,o,_,_,e,_⟩:=z;exact⟨_,e⟩
  |dT kvs=>obtain⟨_,_,_,_,o,_,_,e,_⟩:=z;exact⟨_,e⟩
  |set S n=>obtain⟨o,_,_,_,e,_⟩:=z;exact⟨_,e⟩
  |ins C dx fs=>obtain⟨_,_,_,e,_⟩:=z;exact⟨_,e⟩
  |own y=>obtain⟨_,e⟩:=z;exact⟨_,e⟩
  |xd fs=>obtain⟨_,⟨_,_,_,e,_⟩,_⟩:=z;exact⟨_,e⟩
  |L7 lo hi=>obtain⟨_,_,_,e⟩:=z;exact⟨_,e⟩
  |s9 ob u=>obtain⟨e,_⟩:=z;exact⟨_,e⟩
  |DQ ps=>exact⟨_,(show h.get? b=some _ from z)⟩
  |met f y=>exact⟨_,(show h.get? b=some _ from z)⟩
  |ext φ=>obtain⟨_,e,_⟩:=z;exact e
theorem ju (x:fL P w H h)(st:B.StaysIn h)(aA:B.StaysIn h')(tr:∀b,H b≠none->∃o,B.get? b=some o):fL P w H h':=λb u e =>
 (x b u e).nZ (λc v hc q=>by
  have nc:H c≠none:=by
   rcases hc with rfl|z
   ·rw[e];exact λz=>(nomatch z)
   ·rw[z];exact λz=>(nomatch z)
  obtain⟨o,ho⟩:=tr c nc;rw[st c o ho]at q;cases q;exact aA c _ ho) (λ_ q=>q) λ_ _ q=>q
end
section
variable {X:Cx}{pins:List (Addr×Obj)}{σ:St}{H H':Hp}{s s':UL}{e C:Addr}
theorem s_ {B:Heap}{outer:List Env}{h0 h1 h2:Heap}{H0:Hp}(u:Un (fQ outer) [] H0 H h0 h1)(ff:h1.FunFrames B outer)(st:B.StaysIn h2)(up:h1.UpToSlots h2)
  (tr:∀b o,h0.get? b=some o->b∉fQ outer->∃o',B.get? b=some o'/\(H0 b=none->o'=o)):Un (fQ outer) [] H0 H h0 h2 where
 keep:=λb o e n hb _=>by
  obtain⟨o',e1,e2⟩:=tr b o e hb;rw[<- e2 n];exact st b _ e1
 slot:=λb o e n hb hx=>by
  obtain⟨sl,e1⟩:=u.slot b o e n hb hx;obtain⟨_,o',e2,nf⟩:=ff.mem hb;rw[e1]at e2;cases e2;obtain⟨DS,e3⟩:=up b _ e1 nf;exact⟨DS,e3⟩
 free:=u.free
 there:=λb o e hx=>by
  by_cases hb:b∈fQ outer
  ·obtain⟨_,o',e2,nf⟩:=ff.mem hb;obtain⟨DS,e3⟩:=up b _ e2 nf;exact⟨_,e3⟩
  ·obtain⟨o',e1,_⟩:=tr b o e hb;exact⟨o',st b _ e1⟩
 gQ:=u.gQ
 gH:=u.gH
 gR:=u.gR
theorem sN {vs:List UK}{hs:Heap}{M:YW}{E:UK->UL->Prop}{Q:Unit->UL->Prop}(I:Inv X pins σ H s)(hx:X.ex=[])(nv:X.stack=X.env::X.outer)(hf:X.env.frame=some X.env.locals)(m:Heap.MadeExcOf s.heap hs e (.ref C) vs)
  (k:∀yp,HQ X.prog X.w X.outer X.H₀ X.s₀ e C H yp->Q () yp):Vp M X.A (leaving X.env (.ref e)) Q E {s with heap:=hs}:=by
 have fr:X.A.frames=some (X.env::X.outer):=by rw[<- nv];exact I.ok.frames
 have ff:s.heap.FunFrames X.base (X.env::X.outer):=by rw[<- nv];exact I.stack
 have uP:∀env∈(X.env::X.outer),∀b,env.frame=some b->b∈fQ (X.env::X.outer):=λenv he b hb=>YG.mpr ⟨env,he,hb⟩;have nl:∀b o,X.s₀.heap.get? b=some o->b∉X.fs->b∉fQ (X.env::X.outer):=λb o eb nb z=>by
  unfold fQ at z;rw[V4,hf]at z;rcases UQ.mp z with z|z
  ·exact absurd (Vn (U_ eb) I.ok.above) (by rw[z];exact WO _)
  ·exact nb z
 have I0:∀b,b∉X.ex:=λb z=>by rw[hx]at z;cases z
 have PX:(hideAll s.heap (fQ (X.env::X.outer))).StaysIn s.heap:=λb o q=>of_hideAll _ q;refine wpAny_leaves_madeW (h:=s.heap) (base:=hideAll s.heap (fQ (X.env::X.outer))) fr hf PX (funFrames_hide ff uP) m λh' t f1 f2 f3 f4=>k _ ?_;have tr:∀b,H b≠none->∃o,(hideAll s.heap (fQ (X.env::X.outer))).get? b=some o:=λb nb=>by
  obtain⟨o,ho⟩:=ny I.bo nb;exact⟨o,hideAll_get _ ho λz=>nb (I.nY b (by rw[nv];exact z))⟩
 have xu:∀b o,X.s₀.heap.get? b=some o->b∉fQ X.outer->∃o',(hideAll s.heap (fQ (X.env::X.outer))).get? b=some o'/\(X.H₀ b=none->o'=o):=λb o eb nb=>by
  obtain⟨o1,e1⟩:=I.base.there b o eb (I0 b);refine⟨o1,hideAll_get _ e1 (nl b o eb nb),λn=>?_⟩;rw[I.base.keep b o eb n nb (I0 b)]at e1;exact(VE e1).symm
 have u0:Un (fQ X.outer) [] X.H₀ H X.s₀.heap s.heap:=by
  have z:=I.base;rw[hx]at z;exact z
 have S9:s.heap.FunFrames (hideAll s.heap (fQ (X.env::X.outer))) X.outer:=(funFrames_hide ff uP).2.2;refine⟨I.os,I.bare,s_ u0 S9 f1.1 ((Heap.UpToSlots.of_keeps m.keeps).trans f4) xu,ju I.bo PX f1.1 tr,⟨_,_,f1,tr,xu⟩,?_,?_⟩
 ·cases q:H e with
  |none=>rfl
  |some u =>
   obtain⟨o,ho⟩:=ny I.bo (b:=e) (by rw[q];exact λz=>(nomatch z))
   rw[m.new]at ho;cases ho
 ·cases q:X.s₀.heap.get? e with
  |none=>rfl
  |some o =>
   obtain⟨o',e1⟩:=I.base.there e o q (I0 e);rw[m.new]at e1;cases e1
theorem zC {M:YW}{E:UK->UL->Prop}{Q:Unit->UL->Prop}(I:Inv X pins σ H s)(hx:X.ex=[])(nv:X.stack=X.env::X.outer)(hf:X.env.frame=some X.env.locals)(f:HQ X.prog X.w X.stack H s e C H' s')
  (k:∀yp,HQ X.prog X.w X.outer X.H₀ X.s₀ e C H' yp->Q () yp):Vp M X.A (leaving X.env (.ref e)) Q E s':=by
 have fr:X.A.frames=some (X.env::X.outer):=by rw[<- nv];exact I.ok.frames
 have I0:∀b,b∉X.ex:=λb z=>by rw[hx]at z;cases z
 obtain⟨os,bare,un,bo,⟨B,a0,fl,tr,xu⟩,nt,nw⟩:=f;rw[nv]at fl un xu;have nl:∀b o,X.s₀.heap.get? b=some o->b∉X.fs->b∉fQ (X.env::X.outer):=λb o eb nb z=>by
  unfold fQ at z;rw[V4,hf]at z;rcases UQ.mp z with z|z
  ·exact absurd (Vn (U_ eb) I.ok.above) (by rw[z];exact WO _)
  ·exact nb z
 refine wpAny_leaves_onW fr hf fl λh' f1 f4=>k _ ?_;have u0:Un (fQ X.outer) [] X.H₀ H X.s₀.heap s.heap:=by
  have z:=I.base;rw[hx]at z;exact z
 have MT:∀b o,X.s₀.heap.get? b=some o->b∉fQ X.outer->∃o',B.get? b=some o'/\(X.H₀ b=none->o'=o):=λb o eb nb=>by
  obtain⟨o1,e1⟩:=I.base.there b o eb (I0 b);obtain⟨o',e2,e3⟩:=xu b o1 e1 (nl b o eb nb);refine⟨o',e2,λn=>?_⟩;rw[I.base.keep b o eb n nb (I0 b)]at e1;cases e1;exact e3 (I.base.free b o eb n (I0 b))
 have u1:Un (fQ X.outer) [] X.H₀ H' X.s₀.heap s'.heap:=by
  refine⟨λb o eb n nb _=>?_,λb o eb n hb hx=>?_,λb o eb n hx=>?_,λb o eb hx=>?_,λb xs q=>un.gQ b xs (u0.gQ b xs q),λb o q z=>un.gH b o q (u0.gH b o q z),λb ps q=>?_⟩
  ·obtain⟨o',e1,e2⟩:=MT b o eb nb;rw[<- e2 n];exact fl.1 b _ e1
  ·obtain⟨sl,e1⟩:=u0.slot b o eb n hb hx;have lO:b∈fQ (X.env::X.outer):=by unfold fQ;rw[V4,hf];exact UU _ hb
   obtain⟨DS,e2⟩:=un.slot b _ e1 (u0.free b o eb n hx) lO (by simp)
   exact⟨DS,e2⟩
  ·obtain⟨o',e1⟩:=u0.there b o eb hx;exact un.free b o' e1 (u0.free b o eb n hx) (by simp)
  ·obtain⟨o',e1⟩:=u0.there b o eb hx;exact un.there b o' e1 (by simp)
  ·obtain⟨m1,e1⟩:=u0.gR b ps q;obtain⟨m2,e2⟩:=un.gR b _ e1;exact⟨m1++m2,by rw[e2,Array.append_assoc]⟩
 refine⟨os.trans I.os,bare,s_ u1 fl.2.2.1.2.2 f1.1 f4 MT,ju bo fl.1 f1.1 tr,⟨B,a0,f1,tr,MT⟩,nt,?_⟩;cases q:X.s₀.heap.get? e with
 |none=>rfl
 |some o =>
  obtain⟨o',e1⟩:=I.base.there e o q (I0 e);rw[nw]at e1;cases e1
end
abbrev Cx.A8 (X:Cx)(e:Addr):Cx:={X with A:=X.A.mark (some (.ref e)),calm:=false,xe:=λ_ _=>False}
section
variable {X:Cx}{pins:List (Addr×Obj)}{σ:St}{H H':Hp}{s s':UL}{e C:Addr}
theorem Inv.A8 (I:Inv X pins σ H s):Inv (X.A8 e) pins σ H s :=
 ⟨⟨I.ok.mod,I.ok.kind,I.ok.glob,I.ok.blt,I.ok.above,I.ok.inj,I.ok.has,I.ok.EH,(λz=>by cases z),I.ok.frames,I.ok.Fb,I.ok.Hn,I.ok.bs,I.ok.AG,I.ok.qf,I.ok.qW,I.ok.iM,I.ok.C0⟩,I.os,I.bare,I.base,I.loc,I.cell,I.free,I.c_,I.pin,I.bo,I.len⟩
theorem Inv.IA (ok:X.Ok)(I:Inv (X.A8 e) pins σ H s):Inv X pins σ H s:=⟨ok,I.os,I.bare,I.base,I.loc,I.cell,I.free,I.c_,I.pin,I.bo,I.len⟩
theorem CY {M:YW}{A:VO}{E:UK->UL->Prop}{j:Nat}{n:Str}{pos:Pos}{Q:Unit->UL->Prop}(I:Inv X pins σ H s)(hN:X.N.Nodup)(hj:X.N[j]?=some n)(hl:X.env.scope.names.lookup n=some .local)
  (h:∀s',Inv X pins (σ.set j none) H s'->Q () s'):Vp M A (do bindName X.env n .none;unbindBehindTheSuite X.env n pos) Q E s:=by
 obtain⟨m,hn,wO⟩:=id I.loc;have Hg:(X.env.scope.kind==.class || (X.env.scope.kind==.module&&X.env.locals != X.env.globals))=false:=by rw[I.ok.kind];rfl
 have Aw:=I.Aw;obtain⟨oL,_,_,Qy,_⟩:=id hn;refine wpAny_nameGoes_keeps hl hn Hg λh' v CS hs=>h _ ?_;have HS:fL X.prog X.w H h':=λb ob eb=>by
  refine(I.bo b ob eb).nZ (λc w' hc q=>(hs.2 c ?_).trans q) (λ_ q=>q) λ_ _ q=>q;rintro rfl;rcases hc with rfl|hc
  ·rw[I.free]at eb;cases eb
  ·rw[I.free]at hc;cases hc
 have nL:∀b o,X.s₀.heap.get? b=some o->b≠X.env.locals:=λb o eb=>VN (Vn (U_ eb) I.ok.above);refine⟨I.ok,I.os,I.bare,⟨λb o eb nb hb hx=>(hs.2 b (nL b o eb)).trans (I.base.keep b o eb nb hb hx),λb o eb nb hb hx=>?_,I.base.free,λb o eb hx=>?_,I.base.gQ,I.base.gH,I.base.gR⟩,⟨_,CS,λi y v' e1 e2 e3=>?_⟩,λy c ec=>?_,I.free,I.c_,λp hp=>?_,HS,by simpa using I.len⟩
 ·obtain⟨sl,e1⟩:=I.base.slot b o eb nb hb hx;exact⟨sl,(hs.2 b (nL b o eb)).trans e1⟩
 ·obtain⟨o',e1⟩:=I.base.there b o eb hx;exact⟨o',(hs.2 b (nL b o eb)).trans e1⟩
 ·by_cases aC:i=j
  ·subst aC;rw[Ww]at e2;rw[if_pos rfl]at e2
   split at e2 <;> cases e2
  ·rw[Yw (W7 aC)]at e2;obtain⟨u',r',q⟩:=wO i y v' e1 e2 e3;refine⟨u',r',?_⟩;rcases q with⟨k,z⟩|⟨k,c,z,z'⟩
   ·refine .inl ⟨k,?_⟩;have ne:y≠n:=λz=>aC (lC hN e1 (z▸hj));simp[ne,z]
   ·exact .inr ⟨k,c,z,z'.sameBut hs (Aw y c z)⟩
 ·obtain⟨w',z⟩:=I.cell y c ec;exact⟨w',z.sameBut hs (Aw y c ec)⟩
 ·obtain⟨e1,n1,ne,nf,d⟩:=I.pin p hp;exact⟨(hs.2 p.1 ne).trans e1,n1,ne,nf,d⟩
theorem HQ.land {B:Heap}{a0:UK}{h6:Heap}{t:Nat}(I:Inv X pins σ H s)(f:HQ X.prog X.w X.stack H s e C H' s')(fl:Xz B X.stack e (.ref C) a0 s'.heap)(tr:∀b,H' b≠none->∃o,B.get? b=some o)
  (xu:∀b o,s.heap.get? b=some o->b∉fQ X.stack->∃o',B.get? b=some o'/\(H b=none->o'=o)) (f6:Xz B X.stack e (.ref C) a0 h6) (up:s'.heap.UpToSlots h6) :
  Inv X pins σ (upd H' e (jC C e)) {s' with heap:=h6,toks:=t}:=by
 have u:=s_ f.un fl.2.2.1 f6.1 up xu;obtain⟨oe,vs,g1,g2,g3,_⟩:=f6.first
 have ex:EX.ExcAt e C h6:=⟨oe,vs,g1,g2,g3⟩;have bo:fL X.prog X.w H' h6:=ju f.bo fl.1 f6.1 tr;have ne:∀b u,H' b=some u->b≠e:=λb u q z=>by rw[z,f.nt]at q;cases q
 have Oo:fL X.prog X.w (upd H' e (jC C e)) h6:=λb u q=>by
  by_cases hb:b=e
  ·subst hb;rw[ao]at q;cases q;exact⟨ex,⟨oe,g1⟩,λh1 h2 KO k=> by obtain⟨o,vs,z1,z2⟩ := KO;exact⟨o,vs,k o z1,z2⟩⟩
  ·rw[az hb]at q;exact(bo b u q).nZ (λc v _ q=>q) (λc q=>by rw[az (ne c _ q)];exact q) λc xs q=>by rw[az (ne c _ q)];exact q
 have u2:Un (fQ X.stack) [] H (upd H' e (jC C e)) s.heap h6:=by
  refine⟨u.keep,u.slot,λb o eb nb hx=>?_,u.there,λb xs q=>?_,λb o q z=>?_,λb ps q=>?_⟩
  ·rw[az (λz=>by rw[z,f.nw]at eb;cases eb)]
   exact u.free b o eb nb hx
  ·have z:=u.gQ b xs q;rw[az (ne b _ z)];exact z
  ·have z':=u.gH b o q z;rw[az (ne b _ z')];exact z'
  ·obtain⟨more,z⟩:=u.gR b ps q;exact⟨more,by rw[az (ne b _ z)];exact z⟩
 exact I.EG (s':={s' with heap:=h6,toks:=t}) f.os u2 Oo f.bare (λb z=>nomatch z)
theorem ExcAt.stays {B h:Heap}{l:List Env}{a0:UK}(f:Xz B l e (.ref C) a0 h):EX.ExcAt e C h:=by
 obtain⟨oe,vs,g1,g2,g3,_⟩:=f.first
 exact⟨oe,vs,g1,g2,g3⟩
theorem HA {xA n:Str}{CA:Addr}{j:Nat}{np zT:Pos}{b₀:Stmt}{pL:List Stmt}{Q:Flow->UL->Prop}{E:UK->UL->Prop}(I:Inv X pins σ H s)(nv:X.stack=X.env::X.outer)(hf:X.env.frame=some X.env.locals)
  (f:HQ X.prog X.w X.stack H s e C H' s') (hm:X.mg xA=some (.ref CA)) (hg:Gl X xA) (hx:exmOne X.K (.ref C) (.ref CA)=some true) (hN:X.N.Nodup) (hj:X.N[j]?=some n) (hl:X.env.scope.names.lookup n=some .local)
  (k:∀s1,Inv (X.A8 e) pins (σ.set j (some (.ref e))) (upd H' e (jC C e)) s1->Vp (model X.prog X.w) (X.A8 e).A (execs (b₀::pL) X.env)
   (λf s4=>Vp (model X.prog X.w) X.A (do bindName X.env n .none;unbindBehindTheSuite X.env n zT) (λ_ s5=>Q f s5) E s4) (λ_ _=>False) s1) (hd:(xA==("__debug__" : Str))=false:=by decide) :
  Vp (model X.prog X.w) X.A (noteFrame (.ref e) X.env) (λ_ s₂=>Vp (model X.prog X.w) X.A (setFlight (.ref e) none) (λ_ s₃ =>
   Vp (model X.prog X.w) X.A (handleBy (.ref e) X.env [.ExceptHandler (some (.Name xA np)) (some n) (b₀::pL) zT]) Q E s₃) E s₂) E s':=by
 have fr:X.A.frames=some (X.env::X.outer):=by rw[<- nv];exact I.ok.frames
 obtain⟨B,a0,fl,tr,xu⟩:=f.fl;have S8:Xz B (X.env::X.outer) e (.ref C) a0 s'.heap:=by rw[<- nv];exact fl
 refine wpAny_looks_onW fr hf S8 λh4 Lj P1=>?_;refine wpAny_landsW Lj λh5 Lh L5=>?_;have Ep:Xz B X.stack e (.ref C) a0 h5:=by rw[nv];exact Lh
 have I5:Inv X pins σ (upd H' e (jC C e)) {s' with heap:=h5}:=f.land (t:=s'.toks) I fl tr xu Ep (P1.trans L5)
 refine wpAny_handleBy_cons (codeAny_handlers_test ?_) (by intro q;cases q)
 refine iH (X:=X.A8 e) (Inv.A8 I5) hg hm ?_ hd;refine(exm_one (M:=model X.prog X.w) I5.lI (ExcAt.stays Ep).ty hx).here ?_;rw[if_pos rfl];refine codeAny_handlers_suite_as ?_;refine lands_againW Lh λh6 OU Ru=>?_;have Lg:Xz B X.stack e (.ref C) a0 h6:=by rw[nv];exact OU
 have I6:Inv X pins σ (upd H' e (jC C e)) {s' with heap:=h6}:=f.land (t:=s'.toks) I fl tr xu Lg ((P1.trans L5).trans Ru)
 refine kQ (X:=X.A8 e) (Inv.A8 I6) hN hj (.inl hl) (v:=.ref e) rfl (λs7 I7=>?_) (.inr hl);exact Xl (k s7 I7) (λf s8 z=>z) λ_ _ z=>z.elim
end
end L2
namespace L2.Q
open PySem PySem.W PySem.Spec PySem.SeqAt PyProof.Rows
abbrev LR:=List D->(D->Prop)->(Addr->Prop)->Prop
def EM (F:LR):Prop:=∀ds R R' T T',(∀d,R d->R' d)->(∀c,T c->T' c)->F ds R T->F ds R' T'
def Bv (P:UP)(w:U1)(ro:Bool)(F:LR):Sp:=λvs H Q E=>∃ds,ai P w (λ_=>False) H ds vs/\F ds (λd=>∀v H',aw H H'->mM P w ro H H' d v->Q v H') (λcl=>∀H',aw H H'->E (.ref cl) none H')
structure QV (X:Cx)(H0:Hp)(IO:Addr->Prop)(T:Addr->Prop):Prop where
 made:∀pins σ H s e cl hs vs,Inv X pins σ H s->Kp IO H0 H->Heap.MadeExcOf s.heap hs e (.ref cl) vs->T cl->X.xe (.ref e) {s with heap:=hs}
 pass:Passes (ER X.prog X.w) X (λcv _ H'=>∃cl,cv=.ref cl/\T cl/\Kp IO H0 H')
 own:YS (model X.prog X.w) X.A X.env X.xe
abbrev XR (H:Hp)(E:XK)(cl:Addr):Prop:=∀H',aw H H'->E (.ref cl) none H'
theorem xG {P:UP}{w:U1}{K:Frag}{mg:Str->Option UK}{base:Heap}{N:List Str}{qual:Str}{scope:Xp}{f:Addr}{cd:UK}{A:VO}{outer:List Env}{s:UL}{H:Hp}{E:XK}:
  QV (j4 (ER P w) P w K mg base N qual scope f cd A outer s H E) H (λ_=>False) (XR H E) where
 made:=λpins σ H1 s1 e cl hs vs I k m t=>sN I rfl rfl rfl m λyp fl=>⟨e,cl,H1,rfl,fl,t H1 λb o z=>k.out b o z λz=>z⟩
 pass:=λpins σ H1 s1 e s' I KN=> by
  obtain⟨a,cl,H',ea,fl,Tq,Pa,t,k⟩ := KN;cases ea;cases Pa;exact zC I rfl rfl rfl fl λyp fl=>⟨a,cl,H',rfl,fl,t H' λb o z=>k.out b o z λz=>z⟩
 own:=PassesOwn.leaving
abbrev MC:List UK:=[.type "ValueError",.type "Exception",.type "BaseException",.type "object"]
structure Xc (K:Frag)(mg:Str->Option UK)(x:Str)(C:Addr):Prop where
 m:mg x=some (.ref C)
 exc:excIn K C MC "ValueError.__new__" = true
theorem Xc.own {K:Frag} {mg:Str->Option UK} {x:Str} {C:Addr} {h:Heap} (z:Xc K mg x C) (X:K.In h):OwnCls x C MC "ValueError.__new__" mg h:=by
 refine⟨z.m,?_⟩;have q:=z.exc;unfold excIn at q
 split at q
 ·rename_i dd cd sl ho
  split at q
  ·rename_i C' bm k0 k1 k2 k3 n k5 hm hs
   simp only[VI,beq_iff_eq,XB]at q;obtain⟨⟨⟨⟨⟨rfl,rfl⟩,Lk⟩,ht⟩,bo⟩,A9⟩:=q;obtain⟨nm,bs,mro,ns,qn,hd,sn,sub,ab,col,del⟩:=cd;dsimp only at hm Lk bo A9;subst hm Lk;have Ml:sl=#[k0,k1,k2,k3,some (.builtin "ValueError.__new__"),k5]:=by
    obtain⟨l⟩:=sl;simp only at hs;rw[hs]
   subst Ml;exact⟨bm,ns,nm,qn,bs,hd,sn,sub,ab,col,dd,k0,k1,k2,k3,k5,_,X _ _ ho,.of_isNs (isNs_of_in X bo),nsMap_none_of_in X bo A9,tail_of_in X ht⟩
  ·cases q
 ·cases q
section
variable {X:Cx}{C:Cfg}{T:Addr->Prop}{x:Str}{cl:Addr}{np cpos pos LF:Pos}{m:Str}
theorem yV {j}(Z:QV X C.H0 C.IO T)(hc:X.calm=true)(hx:Xc X.K X.mg x cl)(hg:Gl X x:=by rfl)(hd:(x==("__debug__" : Str))=false:=by decide)
  (he:US [.Constant (.str m) j LF] X.env=[(false,eval (.Constant (.str m) j LF) X.env)]:=by rfl) (hp:(V6 cpos (US [.Constant (.str m) j LF] X.env)).any (·.1)=false:=by rfl) :
  PB X C (.Raise (some (.Call (.Name x np) [.Constant (.str m) j LF] [] cpos)) none pos) (λ_ _=>T cl) :=
 ⟨λ_ _ _ _ h=>h,λpins s σ H D I KL=> by
  obtain⟨_,E,β,⟨own,sq,n⟩,t,_⟩ := KL;obtain⟨tl,N,nm,q,bs,hdct,sn,sub,ab,col,dd,k0,k1,k2,k3,k5,mN,hC,hN,A9,TL⟩:=(hx.own I.lI).obj;have FB:=PySem.F.excBase_ValueError;refine wpAny_Raise_call_subT (C:=cl) (nm:=nm) (q:=q) (N:=N) (bs:=bs) (bm:=tl) (hdct:=hdct) (sn:=sn) (sub:=sub) (ab:=ab) (col:=col) (dd:=dd) (k0:=k0) (k1:=k1) (k2:=k2) (k3:=k3) (k5:=k5)
   FB (mN:=mN) (TL.hasType FB.hasBase) (I.ok.hd hc) hp A9 (iH I hg hx.m ⟨rfl,?_⟩ hd)
  rw[he];refine Calls.evalArgs_plain ?_;show Vp _ _ (spliced ((false,eval (.Constant (.str m) j LF) X.env)::V6 cpos [])) _ _ _;refine Calls.spliced_cons (Calls.Constant_str (Calls.spliced_nil ⟨rfl,(by show 1<=UW;decide),hC,hN,TL,λh' e mk=>?_⟩))
  exact Z.made pins σ H {s with toks:=s.toks+1} e cl h' _ (I.tok _) sq.kp mk t⟩
end
section
end
theorem o_.sF {X:Cx}{C:Cfg}{st:List Stmt}{ψ:Be}(h:o_ X.sF C st ψ):o_ X C st ψ:=⟨h.mono,pA.sF (h.ps.pre λD σ H hq=>by obtain⟨Z,E,β,sb,q,ok⟩:=hq;exact⟨Z,E,β,sb,q,⟨ok.nx,ok.rt,ok.bk,ok.ct⟩⟩)⟩
section
variable {P:UP}{w:U1}{K:Frag}{mg:Str->Option UK}{base:Heap}
theorem Nw {x qual:Str}{st:Stmt}{f:Addr}{fd:Vs}{N ps:List Str}{k:Nat}{F:LR}{ro:Bool}(G:AX K x qual st f fd)(S:aG N ps (ak st))(len:∀ds R T,F ds R T->ds.length=ps.length)
  (iL:∀(b7:UK) (A:VO) (outer:List Env) (s:UL) (H:Hp) (E:XK),ck k (A.deeper (Ye qual (ak st) s.heap.objs.size f b7)) ->
   ∃ψ,o_ (j4 (ER P w) P w K mg base N qual (ak st) f b7 A outer s H E) ⟨H,λ_=>False,ro,λ_=>False⟩ (dk st) ψ/\∀ds R,F ds R (XR H E)->ψ {nx:=λ_=>R .cg,rt:=λd _=>R d} (startB N ds)) :
  aL P w K mg base (ER P w) (k+1) f fd ps (Bv P w ro F):=by
 obtain⟨oc,od,kV,doc,pm,an,b7,ct,DY,rfl,lk,fH⟩:=G.ex;refine Eu lk fH S (λvs H Q E h=>?_) (λA outer s H vs Q E hr h=>?_)
 ·obtain⟨ds,r,h⟩:=h;rw[r.length];exact len ds _ _ h
 ·obtain⟨ds,r,h⟩:=h;obtain⟨ψ,hb,hF⟩:=iL b7 A outer s H E hr;refine⟨_,hb.ps,(H,Wn λ_=>[]),_,startB N ds,⟨λ_=>[],pM r,Sn.refl⟩,hF ds _ h,λσ H' β sb q=>?_,λσ H' β d v sb rr q=>?_,λ_ _ _ _ z=>z.elim,λ_ _ _ _ z=>z.elim⟩
  ·obtain⟨own,s',n'⟩:=sb;exact q _ H' (λb o e=>s'.kp.out b o e (λz=>z)) (dw (W:=λ_=>False) rfl rfl)
  ·obtain⟨own,s',n'⟩:=sb;exact q _ H' (λb o e=>s'.kp.out b o e (λz=>z)) rr
end
abbrev _root_.L2.Cx.BX (X:Cx)(pins:List (Addr×Obj))(Eh:UK->UL->Prop):Cx:={X with pn:=X.pn++pins,xe:=Eh}
section
variable {X:Cx}{pins gb:List (Addr×Obj)}{σ:St}{H:Hp}{s:UL}{Eh:UK->UL->Prop}
theorem F4 (ok:X.Ok):(X.BX pins Eh).Ok:=⟨ok.mod,ok.kind,ok.glob,ok.blt,ok.above,ok.inj,ok.has,ok.EH,ok.hd,ok.frames,ok.Fb,ok.Hn,ok.bs,ok.AG,ok.qf,ok.qW,ok.iM,ok.C0⟩
theorem uL (I:Inv X (pins++gb) σ H s):Inv (X.BX pins Eh) gb σ H s:=⟨F4 I.ok,I.os,I.bare,I.base,I.loc,I.cell,I.free,I.c_,λp hp=>I.pin p (by rw[<- VC];exact hp),I.bo,I.len⟩
theorem yN (ok:(X.BX pins Eh).Ok):X.Ok:=⟨ok.mod,ok.kind,ok.glob,ok.blt,ok.above,ok.inj,ok.has,ok.EH,ok.hd,ok.frames,ok.Fb,ok.Hn,ok.bs,ok.AG,ok.qf,ok.qW,ok.iM,ok.C0⟩
theorem BW (I:Inv (X.BX pins Eh) gb σ H s):Inv X (pins++gb) σ H s:=⟨yN I.ok,I.os,I.bare,I.base,I.loc,I.cell,I.free,I.c_,λp hp=>I.pin p (by rw[<- VC]at hp;exact hp),I.bo,I.len⟩
theorem f_ (I:Inv (X.BX pins Eh) gb σ H s):Inv X pins σ H s:=⟨yN I.ok,I.os,I.bare,I.base,I.loc,I.cell,I.free,I.c_,λp hp=>I.pin p (Wi _ hp),I.bo,I.len⟩
theorem FT {es:List Expr}{t:TA}(h:PA X.sF es t):PA (X.BX pins Eh) es t:=λpos gb s σ H Q I q =>
 Xl (h pos (pins++gb) s σ H Q ((BW I).kz _) q) (λ_ _ KJ=> by obtain⟨vs,H',I',r,q⟩ := KJ;exact⟨vs,H',uL I'.e8,r,q⟩) λ_ _ z=>z.elim
theorem Fi {D:Ends}{f:Flow}{s':UL}(h:SP (X.BX pins Eh) [] D f s'):SP X pins D f s':=by
 cases f with
 |next=>obtain⟨σ',H',I,q⟩:=h;exact⟨σ',H',f_ I,q⟩
 |brk=>obtain⟨σ',H',I,q⟩:=h;exact⟨σ',H',f_ I,q⟩
 |cont=>obtain⟨σ',H',I,q⟩:=h;exact⟨σ',H',f_ I,q⟩
 |ret u=>obtain⟨v,σ',H',I,r,q⟩:=h;exact⟨v,σ',H',f_ I,r,q⟩
end
theorem yS {X:Cx}{CX:xr}{k:Nat}{f:Addr}{fd:Vs}{ps:List Str}{sp:Sp}{x:Str}{p pos:Pos}{e:Expr}{es:List Expr}{t:TA}(F:aL X.prog X.w X.K X.mg X.base CX k f fd ps sp)(hr:ck k X.A)(hg:Gl X x)(hm:X.mg x=some (.ref f))
  (hk:PySem.W.keepIn X.K (.ref f)=true) (hb:Binds X.K fd ps []) (ha:PA X (e::es) t) (hdb:(x==("__debug__" : Str))=false:=by decide) (he:US (e::es) X.env=(false,eval e X.env)::US es X.env:=by rfl)
  (hpl:(V6 pos (US es X.env)).any (·.1)=false:=by rfl) :
  PE X (.Call (.Name x p) (e::es) [] pos) (λσ H Q=>t σ H λvs H1=>∃E:XK,sp vs H1 Q E/\∀pins s e s',Inv X pins σ H1 s->CX X.stack H1 s E e s'->X.xe e s'):=by
 intro pins s σ H Q I h;refine X5 (iH I hg hm ?_ hdb);refine PySem.W.callWith_K (h₀:=X.base) I.ok.mod.Mc hk (bw (ha pos pins s σ H _ I h) λus s1 ⟨vs,H1,I1,r,q⟩=>⟨I1.lI,?_⟩) he hpl;obtain⟨E,q,hx⟩:=q;have r2:Vals (vs++[]) (us++[]):=r.append .nil;have hl:(us++[]).length=ps.length:=by rw[<- r2.length,VT];exact F.len _ _ _ _ q
 refine YE (X0 (F.run X.A X.stack s1 H1 ⟨us,[]⟩ (us++[]) (vs++[]) Q E hr I1.Lv (hb s1 us I1.lI hl) r2 (by rw[VT];exact q)) λr s' hq=>?_)
 cases r with
 |error e=>exact hx pins s1 e s' I1 hq
 |ok fl =>
  cases fl with
  |ret u=>exact I1.after hq
  |next=>exact Wu hq
  |brk=>exact Wu hq
  |cont=>exact Wu hq
abbrev EI:=eh->(Addr->Prop)->a3->Prop
structure TB (X:Cx)(C:Cfg)(body:List Stmt)(θ:EI):Prop where
 mono:∀E E' T T' β,Le E E'->(∀c,T c->T' c)->θ E T β->θ E' T' β
 run:∀(pins:List (Addr×Obj)) (s:UL) (σ:St) (H:Hp) (D:Ends) (Eh:UK->UL->Prop) (Z:Hp×(Addr->Prop)) (E:eh) (β:a3) (own:Nat->List Addr) (T:Addr->Prop),Inv X pins σ H s->SQ X C.z σ H β own->Sn Z H (Wn own)->Q3 X C Z E D->θ E T β ->
  (∀s1 H1 e s',Inv X pins σ H1 s1->aw H H1->ER X.prog X.w X.stack H1 s1 (λcv _ H'=>∃cl,cv=.ref cl/\aw H1 H'/\T cl) e s'->Eh e s')->Vp (model X.prog X.w) X.A (execs body X.env) (SP X pins D) Eh s
section
variable {X:Cx}{C:Cfg}{k:Nat}{f:Addr}{fd:Vs}{ps:List Str}{F:LR}{ro:Bool}{x y:Str}{pp pos cp py:Pos}{e:Expr}{es:List Expr}{φs:b3}{a b:List Stmt}{i:Nat}
theorem E6 (mF:EM F)(G:aL X.prog X.w X.K X.mg X.base (ER X.prog X.w) k f fd ps (Bv X.prog X.w ro F))(hr:ck k X.A)(hm:X.mg x=some (.ref f))(hk:PySem.W.keepIn X.K (.ref f)=true)(hb:Binds X.K fd ps [])(ha:pC X.sF C.z true (e::es) φs)(hN:X.N.Nodup)(hi:X.N[i]?=some y:=by rfl)(hy:Loc X.env.scope y:=by first|exact .inl rfl|exact .inr rfl)
  (hg:Gl X x:=by rfl) (hdb:(x==("__debug__" : Str))=false:=by decide) (gC:US (e::es) X.env=(false,eval e X.env)::US es X.env:=by rfl) (hpl:(V6 cp (US es X.env)).any (·.1)=false:=by rfl)
  (sS:Wf (.Call (.Name x pp) (e::es) [] cp) (some (.Name y py)) pos.line X.env=pure false:=by rfl) (hf:X.fn y=true\/X.env.scope.names.lookup y=some .local:=by first|exact .inl rfl|exact .inr rfl|assumption) :
  TB X C [.Assign [.Name y py] (.Call (.Name x pp) (e::es) [] cp) pos] (λE T β=>φs β λds _ β1=>F ds (λd=>CC d (rk ro) λb=>E.nx (β1.set i (some b))) T) where
 mono:=λE E' T T' β l m h=>ha.mono _ _ _ (λds ks β1 q=>mF ds _ _ _ _ (λ_ q=>q.mono λ_=>l.nx _) m q) h
 run:=λpins s σ H D Eh Z E β own T I sq n ok h hE=>by
  have P:=d7 (gW (X:=X.BX pins Eh) (pos:=pos) (pos':=py) hN hi hy (yS (X:=X.BX pins Eh) (p:=pp) (pos:=cp) G hr hg hm hk hb (FT ha.pa) hdb gC hpl) sS hf);refine bw (P [] s σ H D (uL (by rw[VT];exact I)) ?_) λfl s' q=>Fi q
  refine rH.of (X:=X.sF) ha sq h λds ks β1 vs H1 aB q o1 r1=>?_;obtain⟨sm,rfl⟩:=o1.pu rfl;refine⟨λcv _ H'=>∃cl,cv=.ref cl/\aw H1 H'/\T cl,⟨ds,r1.bor,mF ds _ _ _ _ (λd q2 v H' s2 r2=>?_) (λcl t H' s2=>⟨cl,rfl,s2,t⟩) q⟩,λgb s1 e s' I1 q=>hE s1 H1 e s' (f_ I1) sm q⟩;obtain⟨y',q3,r3⟩:=q2.of (C:=C.z) (Z:=(H,Wn aB)) (r2.kv o1.sq.pq o1.sq.fP λa z=>o1.sn.d a z);exact ok.nx _ _ _ ⟨_,(o1.sq.same s2).cK (ay.aO (λa z=>z.elim id λz=>z.elim) r3),i6 ((n.same sm).same s2)⟩ q3
end
section
variable {P:UP}{w:U1}{C:Cfg}{σ:St}{H:Hp}{β:a3}{own:Nat->List Addr}
theorem bz.BB {i:Nat}(b:bz P w C σ H β own):bz P w C (σ.set i none) H (β.set i none) (aD own i []):=by
 have sub:∀y a,eN C (Wn (aD own i [])) (yk y) a->eN C (Wn own) (yk y) a:=λy=>eY (λa h=>cZ h) _;refine⟨by simp[b.len],λj y' d' e=>?_,λj d' e=>?_,λj ok e=>?_,λj a h=>b.dm j a (bb h).1,λj k a h1 h2=>b.g_ j k a (bb h1).1 (bb h2).1,λj=>?_,b.kp,b.fP,λj y' d' e=>?_⟩
 ·by_cases aC:i=j
  ·subst aC;obtain⟨e',hl⟩:=aU e;cases e'
  ·rw[aP aC]at e ⊢
   obtain⟨u,h1,h2⟩:=b.val j y' d' e;exact⟨u,h1,h2.aO (sub _)⟩
 ·by_cases aC:i=j
  ·subst aC;obtain⟨e',hl⟩:=aU e;cases e'
  ·rw[aP aC]at e ⊢
   rw[a_ aC];exact b.ow j d' e
 ·by_cases aC:i=j
  ·subst aC;obtain⟨e',hl⟩:=aU e;cases e'
  ·rw[aP aC]at e ⊢
   rw[a_ aC];exact b.nz j ok e
 ·by_cases aC:i=j
  ·rw[aC,os_eq];exact VY
  ·rw[a_ aC];exact b.l7 j
 ·by_cases aC:i=j
  ·subst aC;obtain⟨e',hl⟩:=aU e;cases e'
  ·rw[aP aC]at e ⊢
   rw[a_ aC];obtain⟨u,h1,h2,h3⟩:=b.shl j y' d' e;exact⟨u,h1,h2.map (λ_ _ _ z=>z) (λ_ _ r=>ai.aO (sub _) r),h3⟩
end
section
variable {X:Cx}{C:Cfg}{body pL:List Stmt}{b₀:Stmt}{θ:EI}{ψ:Be}{j:Nat}{xA n:Str}{CA:Addr}{np zT pos:Pos}
theorem BH {P:UP}{w:U1}{σ:St}{H H':Hp}{β:a3}{own:Nat->List Addr}{e cl:Addr}(b:bz P w C.z σ H β own)(sm:aw H H')(nt:H' e=none):ay P w (eN C.z (Wn own) .cE) (upd H' e (jC cl e)) (.exc cl) (.ref e) :=
 ⟨e,rfl,⟨ao,λxs z=>(by cases z)⟩,λz=>by
  have b':=b.same sm;rcases z with (z|z)|z
  ·exact b'.pq e z nt
  ·exact b'.fP e z nt
  ·exact z⟩
theorem FR (nv:X.stack=X.env::X.outer)(hf:X.env.frame=some X.env.locals)(hb:TB X C body θ)(hs:∀e,o_ (X.A8 e) C (b₀::pL) ψ)(hm:X.mg xA=some (.ref CA))(hN:X.N.Nodup)(hj:X.N[j]?=some n:=by rfl)(hl:X.env.scope.names.lookup n=some .local:=by rfl)(hg:Gl X xA:=by rfl)
  (hd:(xA==("__debug__" : Str))=false:=by decide) :
  PB X C (.Try body [.ExceptHandler (some (.Name xA np)) (some n) (b₀::pL) zT] [] [] pos)
   (λE β=>∃T:Addr->Prop,θ E T β/\∀cl,T cl->exmOne X.K (.ref cl) (.ref CA)=some true/\ψ {nx:=λβ'=>E.nx (β'.set j none),rt:=λ_ _=>False} (β.set j (some (.val true (.exc cl))))) :=
 ⟨λE E' β l KI=> by obtain⟨T,h,k⟩ := KI;exact⟨T,hb.mono E E' T T β l (λ_ z=>z) h,λcl t=>⟨(k cl t).1,(hs 0).mono {nx:=λβ'=>E.nx (β'.set j none),rt:=λ_ _=>False} {nx:=λβ'=>E'.nx (β'.set j none),rt:=λ_ _=>False} _ ⟨λβ' q=>l.nx _ q,λ_ _ z=>z,λ_ z=>z,λ_ z=>z⟩ (k cl t).2⟩⟩,λpins s σ H D I KH=> by
  obtain⟨Z,E,β,⟨own,sq,sn⟩,⟨T,h,k⟩,ok⟩ := KH;refine wpAny_Try_except (bw (hb.run pins s σ H D _ Z E β own T I sq sn ok h λs1 H1 e s' I1 sm cx=>?_) λfl s1 q=>?_)
  ·obtain⟨a,cl,H',rfl,O5,Tq,Pa,P2,t⟩:=cx;cases Pa;obtain⟨hx,hk⟩:=k cl t;refine HA (X:=X) I1 nv hf O5 hm hg hx hN hj hl (λs2 I2=>?_) hd;have s3:aw H (upd H' a (jC cl a)):=(sm.trans P2).trans (aw.new O5.nt);have M8:SQ X C.z (σ.set j (some (.ref a))) (upd H' a (jC cl a)) (β.set j (some (.val true (.exc cl)))) (aD own j []):=(sq.same s3).cK (BH sq (sm.trans P2) O5.nt);refine bw ((hs a).ps pins s2 _ _ {nx:=λσ' H'=>D.nx (σ'.set j none) H',rt:=λ_ _=>False} I2 ⟨Z,_,_,⟨_,M8,i6 (sn.same s3)⟩,hk,⟨λσ' H' β' sb q=>?_,λ_ _ _ _ _ _ _ z=>z.elim,λ_ _ _ _ z=>z.elim,λ_ _ _ _ z=>z.elim⟩⟩) λfl s4 q=>?_
   ·obtain⟨aS,Rr,Rt⟩:=sb;exact ok.nx _ _ _ ⟨_,Rr.BB,i6 Rt⟩ q
   ·cases fl with
    |next =>
     obtain⟨σ4,H4,I4,q4⟩:=q;exact CY (X:=X) (I4.IA I1.ok) hN hj hl λs5 I5=>⟨_,H4,I5,q4⟩
    |brk=>obtain⟨_,_,_,z⟩:=q;exact z.elim
    |cont=>obtain⟨_,_,_,z⟩:=q;exact z.elim
    |ret u=>obtain⟨_,_,_,_,_,z⟩:=q;exact z.elim
  ·cases fl with
   |next=>exact XQ q
   |ret v=>exact q
   |brk=>exact q
   |cont=>exact q⟩
variable {e:Expr}{φ:aQ}{p:Bool}{T:Str}{pp pT:Pos}{cA:Addr}
structure Xk (K:Frag)(cl:Addr)(c:UK)(b:Bool):Prop where
 xc:EX.XC K cl
 is:kitOne K (.ref cl) c=some b
def Fx (K:Frag)(c:UK)(φ:aQ):aQ:=λβ R=>φ β λd _ β1=>∃cl b,d=.exc cl/\Xk K cl c b/\R (.bl b) .own β1
inductive CV:V->UK->Prop where
 |own (a:Addr):CV (.ref a) (.ref a)
 |ty (n:String):CV (.ty n) (.type n)
theorem CV.rel {v:V}{c u:UK}(h:CV v c)(r:RelV v u):u=c:=by
 cases h with
 |own a=>exact r
 |ty n=>exact r
theorem AE {c:UK} {vc:V} (hc:CV vc c):eZ X (.builtin "isinstance") (λxs H Q=>∃a cl b,xs=[.ref a,vc]/\H a=some (jC cl a)/\Xk X.K cl c b/\Q (.bl b) H):=by
 intro pins s σ H xs us Q I r h;obtain⟨a,cl,b,rfl,ha,z,q⟩:=h;obtain⟨u1,u2,rfl,r1,r2⟩:∃u1 u2,us=[u1,u2]/\RelV (.ref a) u1/\RelV vc u2:=by
  cases r with
  |cons r1 r =>
   cases r with
   |cons r2 r=>cases r;exact⟨_,_,rfl,r1,r2⟩
 cases r1;obtain⟨ex,_,_⟩:=I.bo a _ ha;have e2:=hc.rel r2;subst e2;exact kia_one (EX.qw z.xc) I.lI ex z.is (λz=>by cases z) λtk=>⟨.bl b,H,I.tok _,rfl,q⟩
theorem Ab {P:UP}{w:U1}{W:Addr->Prop}{H:Hp}{cl:Addr}{v:V}(h:ay P w W H (.exc cl) v):∃a,v=.ref a/\H a=some (jC cl a):=by
 obtain⟨a,rfl,⟨h1,_⟩,_⟩:=h;exact⟨a,rfl,h1⟩
theorem yK {c:UK} {vc:V} {ce:Expr} (hm:X.mg "isinstance" = none) (he:PQ X C p e φ) (hc:CV vc c) (SV:PE X ce (tC vc)) (hg:Gl X "isinstance" := by rfl)
  (gC:US [e,ce] X.env=(false,eval e X.env)::US [ce] X.env:=by rfl) (oU:US [ce] X.env=(false,eval ce X.env)::US [] X.env:=by rfl) (hpl:(V6 pos (US [ce] X.env)).any (·.1)=false:=by rfl) :
  PQ X C p (.Call (.Name "isinstance" pp) [e,ce] [] pos) (Fx X.K c φ) :=
 ⟨λβ R R' k h=>he.mono β _ _ (λd kd β1 KG=> by obtain⟨cl,b,ed,z,q⟩ := KG;exact⟨cl,b,ed,z,k _ _ _ q⟩) h,
  (eR (AE hc) hg hm tN (a6 he.pe (a6 SV cy oU) gC) (by decide) (by decide) (he:=gC) (hpl:=hpl)).pre λσ H Q ⟨β,own,s,h⟩=>tQ.of he s h λd kd β1 v H1 aB hq o1 r1=>by
  obtain⟨cl,b,ed,z,q⟩:=hq;subst ed;obtain⟨a,rfl,ha⟩:=Ab r1.rep;exact⟨a,cl,b,rfl,ha,z,q _ H1 aB o1 nh⟩⟩
theorem oB (hm:X.mg "isinstance" = none) (he:PQ X C p e φ) (hT:X.mg T=some (.ref cA)) (hg:Gl X "isinstance" := by rfl) (Hc:Gl X T:=by rfl) (Hf:(T==("__debug__" : Str))=false:=by decide)
  (gC:US [e,.Name T pT] X.env=(false,eval e X.env)::US [.Name T pT] X.env:=by rfl) (oU:US [.Name T pT] X.env=(false,eval (.Name T pT) X.env)::US [] X.env:=by rfl) (hpl:(V6 pos (US [.Name T pT] X.env)).any (·.1)=false:=by rfl) :
  PQ X C p (.Call (.Name "isinstance" pp) [e,.Name T pT] [] pos) (Fx X.K (.ref cA) φ):=yK hm he (.own cA) (uv Hc hT rfl Hf) hg gC oU hpl
theorem FH {n:String} (hm:X.mg "isinstance" = none) (he:PQ X C p e φ) (hT:X.mg T=none) (bT:VJ T=some (.type n)) (hg:Gl X "isinstance" := by rfl) (Hc:Gl X T:=by rfl) (Ow:T≠"__name__" := by decide) (Hf:(T==("__debug__" : Str))=false:=by decide)
  (gC:US [e,.Name T pT] X.env=(false,eval e X.env)::US [.Name T pT] X.env:=by rfl) (oU:US [.Name T pT] X.env=(false,eval (.Name T pT) X.env)::US [] X.env:=by rfl) (hpl:(V6 pos (US [.Name T pT] X.env)).any (·.1)=false:=by rfl) :
  PQ X C p (.Call (.Name "isinstance" pp) [e,.Name T pT] [] pos) (Fx X.K (.type n) φ):=yK hm he (.ty n) (ux Hc hT bT rfl Ow Hf) hg gC oU hpl
structure MI (X:Cx)(es:List Expr)(vs:List V)(cs:List UK):Prop where
 pa:PA X es λ_ H Q=>Q vs H
 rel:Paired CV vs cs
theorem B7:MI X [] [] []:=⟨cy.pre λσ H Q h=>h,.nil⟩
theorem d8 {es:List Expr}{vs:List V}{cs:List UK}(h:MI X es vs cs)(hT:X.mg T=some (.ref cA))(Hc:Gl X T:=by rfl)(Hf:(T==("__debug__" : Str))=false:=by decide)(gC:US (.Name T pT::es) X.env=(false,eval (.Name T pT) X.env)::US es X.env:=by rfl):
  MI X (.Name T pT::es) (.ref cA::vs) (.ref cA::cs):=⟨(a6 (uv (v:=.ref cA) (pos:=pT) Hc hT rfl Hf) h.pa gC).pre λσ H Q h=>h,.cons (.own cA) h.rel⟩
theorem vn:∀{vs:List V} {cs us:List UK},Paired CV vs cs->Vals vs us->us=cs
 |_,_,_,.nil,.nil=>rfl
 |_,_,_,.cons h t,.cons r t'=>by rw[h.rel r,vn t t']
structure Pn (K:Frag)(cl:Addr)(cs:List UK)(b:Bool):Prop where
 xc:EX.XC K cl
 is:kitAny K (.ref cl) cs=some b
theorem xi {cs:List UK} {vs:List V} (hc:Paired CV vs cs):eZ X (.builtin "isinstance") (λxs H Q=>∃a t cl b,xs=[.ref a,.ref t]/\H a=some (jC cl a)/\H t=some (.tup vs)/\Pn X.K cl cs b/\Q (.bl b) H):=by
 intro pins s σ H xs us Q I r h;obtain⟨a,t,cl,b,rfl,ha,ht,z,q⟩:=h;obtain⟨u1,u2,rfl,r1,r2⟩:∃u1 u2,us=[u1,u2]/\RelV (.ref a) u1/\RelV (.ref t) u2:=by
  cases r with
  |cons r1 r =>
   cases r with
   |cons r2 r=>cases r;exact⟨_,_,rfl,r1,r2⟩
 cases r1;cases r2;obtain⟨ex,_,_⟩:=I.bo a _ ha;obtain⟨_,its,rv,⟨⟨oc,dd,od,sl⟩,ho,Ie,n,hd⟩⟩:=I.bo t _ ht;have e2:=vn hc rv;subst e2;dsimp only at Ie hd;subst Ie hd;exact kia_tup (EX.qw z.xc) I.lI ex ho z.is (λz=>by cases z) λtk=>⟨.bl b,H,I.tok _,rfl,q⟩
def Jh (K:Frag)(cs:List UK)(φ:aQ):aQ:=λβ R=>φ β λd _ β1=>∃cl b,d=.exc cl/\Pn K cl cs b/\R (.bl b) .own β1
theorem BR {es:List Expr} {vs:List V} {cs:List UK} {tk} (hm:X.mg "isinstance" = none) (he:PQ X C p e φ) (hc:MI X es vs cs) (hz:vs.length<=UW) (hg:Gl X "isinstance" := by rfl)
  (gC:US [e,.Tuple es tk pT] X.env=(false,eval e X.env)::US [.Tuple es tk pT] X.env:=by rfl) (oU:US [.Tuple es tk pT] X.env=(false,eval (.Tuple es tk pT) X.env)::US [] X.env:=by rfl) (hpl:(V6 pos (US [.Tuple es tk pT] X.env)).any (·.1)=false:=by rfl) :
  PQ X C p (.Call (.Name "isinstance" pp) [e,.Tuple es tk pT] [] pos) (Jh X.K cs φ) :=
 ⟨λβ R R' k h=>he.mono β _ _ (λd kd β1 KD=> by obtain⟨cl,b,ed,z,q⟩ := KD;exact⟨cl,b,ed,z,k _ _ _ q⟩) h,
  (eR (xi hc.rel) hg hm tN (a6 he.pe (a6 (yR hc.pa) cy oU) gC) (by decide) (by decide) (he:=gC) (hpl:=hpl)).pre λσ H Q ⟨β,own,s,h⟩=>tQ.of he s h λd kd β1 v H1 aB hq o1 r1=>by
  obtain⟨cl,b,ed,z,q⟩:=hq;subst ed;obtain⟨a,rfl,ha⟩:=Ab r1.rep;refine⟨hz,λt ht=>⟨a,t,cl,b,rfl,?_,ao,z,q _ _ aB (o1.same (aw.new ht)) nh⟩⟩;rw[az (λz=>by rw[z,ht]at ha;cases ha)]
  exact ha⟩
end
def MR:List Str:=["NoRow","NoTie","NoStretch","NoWeights","NoNumber","NoSet","NoGap","NoPlace","NoShape","NoText","NoForm","NoneYet"]
structure XA (K:Frag)(mg:Str->Option UK)(cA:Addr)(c:Nat->Addr):Prop where
 Pk:mg "ArchError" = some (.ref cA)
 nm:∀i x,MR[i]?=some x->mg x=some (.ref (c i))
 exc:∀i,i<12->excIn K (c i) MC "ValueError.__new__" = true
 xc:∀i,i<12->EX.XC K (c i)
 is:∀i,i<12->∀j,j<12->kitOne K (.ref (c i)) (.ref (c j))=some (decide (i=j))
 val:∀i,i<12->kitOne K (.ref (c i)) (.type "ValueError")=some true
 Td:∀i,i<12->exmOne K (.ref (c i)) (.ref cA)=some true
def MS (K:Frag)(cA:Addr)(c:Nat->Addr):Bool:=(Vy 12).all λi=>excIn K (c i) MC "ValueError.__new__" && (mroIn K (c i) (.type "object")==some true&&(mroIn K (c i) (.type "BaseException")==some true &&
 (findIn K (.ref (c i)) "__getattribute__" == some (some (.builtin "BaseException.__getattribute__"))&&(findIn K (.ref (c i)) "__getattr__" == some none&&(findIn K (.ref (c i)) "__class__" == some (some (.builtin "object.__class__")) &&
 (kitOne K (.ref (c i)) (.type "ValueError")==some true&&(exmOne K (.ref (c i)) (.ref cA)==some true&&(Vy 12).all λj=>kitOne K (.ref (c i)) (.ref (c j))==some (decide (i=j)))))))))
theorem Iz {K:Frag} {mg:Str->Option UK} {cA:Addr} {c:Nat->Addr} (h:MS K cA c=true) (a:mg "ArchError" = some (.ref cA)) (n:∀i x,MR[i]?=some x->mg x=some (.ref (c i))):XA K mg cA c:=by
 have q:∀i,i<12->_:=λi hi=>Ws.mp h i (V_.mpr hi);simp only[VI,beq_iff_eq,Ws,V_]at q;exact⟨a,n,λi hi=>(q i hi).1,λi hi=>⟨(q i hi).2.1,(q i hi).2.2.1,(q i hi).2.2.2.1,(q i hi).2.2.2.2.1,(q i hi).2.2.2.2.2.1⟩,λi hi j hj=>(q i hi).2.2.2.2.2.2.2.2 j hj,λi hi=>(q i hi).2.2.2.2.2.2.1,λi hi=>(q i hi).2.2.2.2.2.2.2.1⟩
section
variable {K:Frag}{mg:Str->Option UK}{cA:Addr}{c:Nat->Addr}
theorem XA.x (Z:XA K mg cA c)(i:Nat){x:Str}(h:MR[i]?=some x:=by rfl)(hi:i<12:=by decide):Xc K mg x (c i):=⟨Z.nm i x h,Z.exc i hi⟩
theorem XA.k (Z:XA K mg cA c){i j:Nat}(hi:i<12)(hj:j<12):Xk K (c i) (.ref (c j)) (decide (i=j)):=⟨Z.xc i hi,Z.is i hi j hj⟩
theorem XA.kv (Z:XA K mg cA c) {i:Nat} (hi:i<12):Xk K (c i) (.type "ValueError") true:=⟨Z.xc i hi,Z.val i hi⟩
theorem XA.any (Z:XA K mg cA c){i:Nat}(hi:i<12):∀(js:List Nat),(∀j∈js,j<12)->kitAny K (.ref (c i)) (js.map λj=>.ref (c j))=some (js.any λj=>decide (i=j))
 |[],_=>rfl
 |j::js,h=>by
  show (match kitOne K (.ref (c i)) (.ref (c j))with|some true=>some true|some false=>kitAny K (.ref (c i)) (js.map λj=>.ref (c j))|none=>none)=_
  rw[Z.is i hi j (h j UY),YD]
  by_cases e:i=j
  ·rw[decide_eq_true e];rfl
  ·rw[decide_eq_false e];exact XA.any Z hi js λj hj=>h j (UU _ hj)
theorem XA.ks (Z:XA K mg cA c){i:Nat}(hi:i<12)(js:List Nat)(h:∀j∈js,j<12:=by decide):Pn K (c i) (js.map λj=>.ref (c j)) (js.any λj=>decide (i=j)):=⟨Z.xc i hi,Z.any hi js h⟩
end
theorem HB:VJ "ValueError" = some (.type "ValueError"):=by decide +kernel
abbrev PN:=Nat×Nat
def sumF (ps:List PN)(c:PN->Bool)(f:PN->Nat):Nat:=((ps.filter c).map f).sum
theorem ie {c:PN->Bool}{f:PN->Nat}:sumF [] c f=0:=rfl
theorem aH {p:PN}{ps:List PN}{c:PN->Bool}{f:PN->Nat}:sumF (p::ps) c f=(if c p=true then f p else 0)+sumF ps c f:=by
 unfold sumF
 by_cases h:c p=true
 ·rw[WE h,if_pos h,Vd,Xe]
 ·rw[Wm h,if_neg h,V8]
theorem pK {f:PN->Nat}{c:PN->Bool}:∀{as bs:List PN},sumF (as++bs) c f=sumF as c f+sumF bs c f
 |[],bs=>by rw[List.nil_append,ie,V8]
 |a::as,bs=>by rw[Ym,aH,aH,pK,Yi]
theorem bt {c d:PN->Bool}{f g:PN->Nat}:∀{ps:List PN},(∀p∈ps,c p=d p/\(c p=true->f p=g p))->sumF ps c f=sumF ps d g
 |[],_=>rfl
 |p::ps,h=>by
  rw[aH,aH,bt λq hq=>h q (UU _ hq)];obtain⟨h1,h2⟩:=h p UY;rw[<- h1]
  by_cases hc:c p=true
  ·rw[if_pos hc,if_pos hc,h2 hc]
  ·rw[if_neg hc,if_neg hc]
theorem bM {c:PN->Bool}{f:PN->Nat}:∀{ps:List PN},(∀p∈ps,c p=false)->sumF ps c f=0
 |[],_=>rfl
 |p::ps,h=>by
  rw[aH,h p UY,bM λq hq=>h q (UU _ hq)];rfl
theorem e_ {c d e:PN->Bool}{f:PN->Nat}:∀{ps:List PN},(∀p∈ps,c p=(d p || e p)/\¬ (d p=true/\e p=true))->sumF ps c f=sumF ps d f+sumF ps e f
 |[],_=>rfl
 |p::ps,h=>by
  rw[aH,aH,aH,e_ λq hq=>h q (UU _ hq)];obtain⟨h1,h2⟩:=h p UY;rw[h1];cases hd:d p <;> cases he:e p
  ·simp
  ·simp;lia
  ·simp;lia
  ·exact absurd ⟨hd,he⟩ h2
theorem nV {c d:PN->Bool}{f:PN->Nat}:∀{ps:List PN},(∀p∈ps,c p=true->d p=true)->sumF ps c f<=sumF ps d f
 |[],_=>UO _
 |p::ps,h=>by
  rw[aH,aH];have:=nV (f:=f) λq hq=>h q (UU _ hq)
  by_cases hc:c p=true
  ·rw[if_pos hc,if_pos (h p UY hc)];lia
  ·rw[if_neg hc];lia
theorem fT {c:PN->Bool}{f:PN->Nat}{a:Nat}:∀{ps:List PN},sumF ps c (λp=>f p*a)=sumF ps c f*a
 |[]=>by rw[ie,ie,Nat.zero_mul]
 |p::ps=>by
  rw[aH,aH,fT,XM]
  congr 1
  by_cases hc:c p=true
  ·rw[if_pos hc,if_pos hc]
  ·rw[if_neg hc,if_neg hc,Nat.zero_mul]
theorem j8 {p:PN}{f:PN->Nat}:∀{ps:List PN},ps.Nodup->p∈ps->sumF ps (λo=>decide (o=p)) f=f p
 |[],_,h=>nomatch h
 |q::ps,nd,h=>by
  rw[aH];have JI:=Vt.mp nd;rcases UQ.mp h with rfl|h
  ·rw[if_pos (decide_eq_true rfl),bM (c:=λo=>decide (o=p)) λo ho=>decide_eq_false λ(z:o=p)=>JI.1 (z▸ho)];rfl
  ·have ne:q≠p:=λz=>JI.1 (z▸h);rw[if_neg (λz=>ne (of_decide_eq_true z)),j8 JI.2 h,V8]
def nu (v p:PN):Bool:=decide (v.1<=p.1/\p.2<v.2)
theorem gS {ps:List PN}(hp:∀p∈ps,p.1<p.2):∀l i,sa ps l i=1+sumF ps (nu (i,i+l)) (λp=>sa ps (p.2-(p.1+1)) (p.1+1)*sa ps (i+l-(p.2+1)) (p.2+1))
 |0,i=>by
  rw[bM (c:=nu (i,i+0)) λp h=>decide_eq_false λz=>?_]
  ·rfl
  ·have:=hp p h;have:=z.1;have:=z.2;dsimp only at *
   lia
 |l+1,i=>by
  have e:sa ps (l+1) i=((dG ps i (i+l+1)).map (cG ps i (i+l+1))).sum:=ip hp;rw[e];unfold dG;rw[Vb,XU,Vd,X3,Xe,List.sum_nil,V9,ft,show i+l+1-(i+1)=l by lia,gS hp l (i+1)]
  have a:(((((gx ps i).filter λk=>decide (k<i+l+1)).map some).map (cG ps i (i+l+1))).sum)=sumF ps (λp=>decide (p.1=i)&&decide (p.2<i+l+1)) (λp=>sa ps (p.2-(p.1+1)) (p.1+1)*sa ps (i+(l+1)-(p.2+1)) (p.2+1)):=by
   unfold gx sumF;rw[List.filter_map,VB,VB,X8]
   congr 1
   rw[YQ (q:=λp=>decide (p.1=i)&&decide (p.2<i+l+1)) λp hp=>by simp only[Function.comp];exact Bool.and_comm _ _]
   refine VR λp hp=>?_;obtain⟨_,h⟩:=Vk.mp hp;have h1:=of_decide_eq_true (Vm.mp h).1;show cG ps i (i+l+1) (some p.2)=_;rw[fq,h1];rfl
  rw[a];generalize hA:sumF ps (λp=>decide (p.fst=i)&&decide (p.snd<i+l+1)) _=A;rw[show ∀B:Nat,A+(1+B+0)=1+(A+B) from λB=>by lia,<- hA]
  refine congrArg (1+·) ?_;rw[e_ (c:=nu (i,i+(l+1))) (d:=λp=>decide (p.1=i)&&decide (p.2<i+l+1)) (e:=nu (i+1,i+1+l))]
  ·congr 1
   refine bt λp h=>⟨rfl,λ_=>by rw[show i+(l+1)-(p.2+1)=i+1+l-(p.2+1) by lia]⟩
  ·intro p h;constructor
   ·unfold nu;rw[<- Bool.decide_and,<- Bool.decide_or];refine decide_eq_decide.mpr ?_;dsimp only;lia
   ·rintro⟨z1,z2⟩;have z1:=of_decide_eq_true (Vm.mp z1).1;have z2:=of_decide_eq_true z2;have:=z2.1;dsimp only at this;lia
theorem z7 {ps:List PN}:∀{ws:List PN} {a:Nat},ws.foldl (fW ps) a=a*aX ps ws
 |[],a=>by show a=a*1;rw[Nat.mul_one]
 |v::ws,a=>by
  show ws.foldl (fW ps) (a*_)=a*ws.foldl (fW ps) (1*_);rw[z7,z7 (a:=1*_),Xq,XI]
theorem fo {ps ws:List PN}{v:PN}:aX ps (v::ws)=sa ps (v.2-v.1) v.1*aX ps ws:=by
 show ws.foldl (fW ps) (1*_)=_;rw[z7,Xq]
theorem e7 {v p:PN}{ws:List PN}:wb (v::ws) p=if v.1<=p.1/\p.2<v.2 then some ((p.1+1,p.2)::(p.2+1,v.2)::ws) else wb ws p:=rfl
theorem nT {p:PN}:∀{ws l:List PN},wb ws p=some l->HN ws p
 |[],_,e=>nomatch e
 |v::ws,l,e=>by
  rw[e7]at e
  by_cases c:v.1<=p.1/\p.2<v.2
  ·exact⟨v,UY,c⟩
  ·rw[if_neg c]at e;obtain⟨x,hx,kx⟩:=nT e;exact⟨x,UU _ hx,kx⟩
abbrev fits (ws:List PN)(p:PN):Bool:=(wb ws p).isSome
abbrev below (ps ws:List PN)(p:PN):Nat:=aX ps ((wb ws p).getD [])
theorem iN {ws:List PN}{p:PN}(h:fits ws p=true):∃l,wb ws p=some l:=Option.isSome_iff_exists.mp h
theorem tJ {ps:List PN}(hp:∀p∈ps,p.1<p.2){n:Nat}:∀{ws:List PN} {lo:Nat},gP n lo ws->aX ps ws=1+sumF ps (fits ws) (below ps ws)
 |[],_,_=>by rw[bM (c:=fits []) λ_ _=>rfl];rfl
 |v::ws,lo,h=>by
  have ih:=tJ hp h.2.2.2;have g_:∀p∈ps,nu v p=true->wb ws p=none:=λp hm hs=>by
   cases e:wb ws p with
   |none=>rfl
   |some l =>
    obtain⟨x,hx,kx⟩:=nT e;have:=h.2.2.2.mem x hx;have:=of_decide_eq_true hs;have:=hp p hm;lia
  rw[e_ (d:=nu v) (e:=fits ws)]
  ·rw[bt (c:=nu v) (d:=nu (v.1,v.1+(v.2-v.1))) (g:=λp=>(sa ps (p.2-(p.1+1)) (p.1+1)*sa ps (v.1+(v.2-v.1)-(p.2+1)) (p.2+1))*aX ps ws),fT,bt (c:=fits ws) (d:=fits ws) (g:=below ps ws)]
   ·rw[fo,gS hp (v.2-v.1) v.1];generalize sumF ps (nu (v.1,v.1+(v.2-v.1))) _=A;rw[XM,Xq];lia
   ·intro p hm;refine⟨rfl,λhf=>?_⟩;show aX ps ((wb (v::ws) p).getD [])=_;rw[e7,if_neg];intro z;obtain⟨l,e⟩:=iN hf;rw[g_ p hm (decide_eq_true z)]at e;cases e
   ·intro p hm;have hv:v.1+(v.2-v.1)=v.2:=by have:=h.2.1;lia
    rw[hv];refine⟨rfl,λhs=>?_⟩;show aX ps ((wb (v::ws) p).getD [])=_;rw[e7,if_pos (of_decide_eq_true hs)];show aX ps (_::_::ws)=_;rw[fo,fo,XI]
  ·intro p hm;constructor
   ·show (wb (v::ws) p).isSome=_;rw[e7]
    by_cases c:v.1<=p.1/\p.2<v.2
    ·rw[if_pos c,show nu v p=true from decide_eq_true c];rfl
    ·rw[if_neg c,show nu v p=false from decide_eq_false c];rfl
   ·rintro⟨z1,z2⟩;obtain⟨l,e⟩:=iN z2;rw[g_ p hm z1]at e;cases e
end L2.Q
namespace QW
open PySem PySem.Spec PyProof.Rows TS
def CB:List (List Int)->List (List Int)->Bool
 |[],y=>decide (0<y.length)
 |_::_,[]=>false
 |a::x,b::y=>if a=b then CB x y else HT.lexLt a b
theorem uG {b:List Int}{y:List (List Int)}:CB [] (b::y)=true:=decide_eq_true (Nat.succ_pos _)
theorem qq {a b:List Int}{x y:List (List Int)}:CB (a::x) (b::y)=if a=b then CB x y else HT.lexLt a b:=rfl
theorem m9:∀{x y:List (List Int)},CB x y=false->CB y x=false->x=y
 |[],[],_,_=>rfl
 |[],_::_,h,_=>by rw[uG]at h;cases h
 |_::_,[],_,h=>by rw[uG]at h;cases h
 |a::x,b::y,h1,h2=>by
  rw[qq]at h1 h2
  by_cases e:a=b
  ·subst e;rw[if_pos rfl]at h1 h2;rw[m9 h1 h2]
  ·rw[if_neg e]at h1;rw[if_neg (W7 e)]at h2;exact absurd (m_ h1 h2) e
section
end
section
open PySem.SeqAt
open PySem.AutoSeq1 (wpAny_loadPart')
open PySem.MeetsSeq PySem.MeetsSeq2 PySem.MeetsSeq3
end
end QW
namespace L2.Q
open PySem PySem.Spec PySem.SeqAt PyProof.Rows QW
abbrev iY (p q:PN):Bool:=HT.lexLt (tI p) (tI q)
theorem nU {p q:PN}(h:p.1<q.1):iY p q=true:=by
 show HT.lexLt ((p.1:Int)::[(p.2:Int)]) ((q.1:Int)::[(q.2:Int)])=true;rw[HT.cb,if_neg (by lia)]
 exact decide_eq_true (by lia)
theorem ia (p:PN):iY p p=false:=ng _
theorem kP {p q:PN}(h:iY p q=true):iY q p=false:=gY h
theorem xW {p q r:PN}(h:iY p q=true)(k:iY q r=true):iY p r=true:=gg h k
theorem xX {p q:PN}(h:iY p q=false)(k:iY q p=false):p=q:=eE (fv h k)
def xp (ps:List PN):Prop:=ps.Pairwise λp q=>iY p q=true
def Va (ps:List PN):List PN->List PN->Prop
 |_,[]=>True
 |ws,t::ts=>t∈ps/\∃l,wb ws t=some l/\Va ps l ts
theorem i7 {ps ws:List PN}{t:PN}:vH ps ws t=1+sumF ps (λo=>iY o t&&fits ws o) (below ps ws):=by
 unfold vH Bo sumF;rw[X8]
theorem fU {ps ws ts l:List PN}{t:PN}(e:wb ws t=some l):mf ps ws (t::ts)=vH ps ws t+mf ps l ts:=by
 show vH ps ws t+mf ps ((wb ws t).getD []) ts=_;rw[e];rfl
section
variable {ps:List PN}{n:Nat}
theorem Fl (hp:∀p∈ps,p.1<p.2)(nd:ps.Nodup){ws l:List PN}{lo:Nat}{t:PN}(h:gP n lo ws)(ht:t∈ps)(e:wb ws t=some l):vH ps ws t+aX ps l<=aX ps ws:=by
 rw[i7,tJ hp h];have a:sumF ps (λo=>decide (o=t)) (below ps ws)=aX ps l:=by
  rw[j8 nd ht];show aX ps ((wb ws t).getD [])=_;rw[e];rfl
 have b:=e_ (f:=below ps ws) (ps:=ps) (c:=λo=>(iY o t&&fits ws o) || decide (o=t)) (d:=λo=>iY o t&&fits ws o) (e:=λo=>decide (o=t)) λp _=>⟨rfl,λKC=> by
  obtain⟨z1,z2⟩ := KC;have z2:=of_decide_eq_true z2;rw[z2,ia]at z1;cases z1⟩
 have c:=nV (f:=below ps ws) (ps:=ps) (c:=λo=>(iY o t&&fits ws o) || decide (o=t)) (d:=fits ws) λp _ z=>by
  rcases Bool.or_eq_true_iff.mp z with z|z
  ·exact(Vm.mp z).2
  ·rw[of_decide_eq_true z];show (wb ws t).isSome=true;rw[e];rfl
 lia
theorem Fj (nd:ps.Nodup){ws l:List PN}{t u:PN}(ht:t∈ps)(e:wb ws t=some l)(h:iY t u=true):vH ps ws t+aX ps l<=vH ps ws u:=by
 rw[i7,i7];have a:sumF ps (λo=>decide (o=t)) (below ps ws)=aX ps l:=by
  rw[j8 nd ht];show aX ps ((wb ws t).getD [])=_;rw[e];rfl
 have b:=e_ (f:=below ps ws) (ps:=ps) (c:=λo=>(iY o t&&fits ws o) || decide (o=t)) (d:=λo=>iY o t&&fits ws o) (e:=λo=>decide (o=t)) λp _=>⟨rfl,λKA=> by
  obtain⟨z1,z2⟩ := KA;have z2:=of_decide_eq_true z2;rw[z2,ia]at z1;cases z1⟩
 have c:=nV (f:=below ps ws) (ps:=ps) (c:=λo=>(iY o t&&fits ws o) || decide (o=t)) (d:=λo=>iY o u&&fits ws o) λp _ z=>by
  rcases Bool.or_eq_true_iff.mp z with z|z
  ·exact Vm.mpr ⟨xW (Vm.mp z).1 h,(Vm.mp z).2⟩
  ·rw[of_decide_eq_true z,h];show (true&&(wb ws t).isSome)=true;rw[e];rfl
 lia
theorem n6 (hp:∀p∈ps,p.1<p.2)(nd:ps.Nodup):∀{ts ws:List PN} {lo:Nat},gP n lo ws->Va ps ws ts->mf ps ws ts<aX ps ws
 |[],ws,_,h,_=>by
  rw[tJ hp h];show 0<_;lia
 |t::ts,ws,lo,h,⟨ht,l,e,v⟩=>by
  have:=n6 hp nd (jF (hp t ht) h e) v;have:=Fl hp nd h ht e;rw[fU e];lia
theorem n9 (hp:∀p∈ps,p.1<p.2)(nd:ps.Nodup):∀{ts us ws:List PN} {lo:Nat},gP n lo ws->Va ps ws ts->Va ps ws us->CB (ts.map tI) (us.map tI)=true->mf ps ws ts<mf ps ws us
 |[],[],_,_,_,_,_,z=>by cases z
 |[],u::us,ws,_,h,_,_,_=>by
  show 0<vH ps ws u+_;rw[i7];lia
 |_::_,[],_,_,_,_,_,z=>by cases z
 |t::ts,u::us,ws,lo,h,⟨ht,l,e,v⟩,⟨hu,m,e',v'⟩,z=>by
  rw[Vd,Vd,qq]at z;rw[fU e,fU e']
  by_cases c:tI t=tI u
  ·rw[if_pos c]at z;cases eE c;rw[e]at e';cases e';have:=n9 hp nd (jF (hp t ht) h e) v v' z;lia
  ·rw[if_neg c]at z;have:=Fj nd ht e z;have:=n6 hp nd (jF (hp t ht) h e) v;lia
theorem t9:∀{ts us:List PN},ts.map tI=us.map tI->ts=us
 |[],[],_=>rfl
 |[],_::_,z=>by cases z
 |_::_,[],z=>by cases z
 |t::ts,u::us,z=>by
  rw[Vd,Vd]at z;obtain⟨a,b⟩:=List.cons.inj z;rw[eE a,t9 b]
theorem ua (hp:∀p∈ps,p.1<p.2)(nd:ps.Nodup){ts us ws:List PN}{lo:Nat}(h:gP n lo ws)(v:Va ps ws ts)(v':Va ps ws us)(e:mf ps ws ts=mf ps ws us):ts=us:=by
 refine t9 (m9 ?_ ?_)
 ·cases z:CB (ts.map tI) (us.map tI)with
  |false=>rfl
  |true=>have:=n9 hp nd h v v' z;lia
 ·cases z:CB (us.map tI) (ts.map tI)with
  |false=>rfl
  |true=>have:=n9 hp nd h v' v z;lia
theorem DO {p:PN}(hp:p.1<p.2):∀{ws l:List PN} {lo:Nat},gP n lo ws->wb ws p=some l->gP n (p.1+1) l
 |[],_,_,_,e=>nomatch e
 |v::ws,l,lo,h,e=>by
  rw[e7]at e
  by_cases c:v.1<=p.1/\p.2<v.2
  ·rw[if_pos c]at e;cases e;have:=h.2.2.1;exact⟨UO _,hp,by show p.2<=n;lia,UO _,c.2,h.2.2.1,h.2.2.2⟩
  ·rw[if_neg c]at e;exact DO hp h.2.2.2 e
theorem C4 {p:PN}{ws:List PN}{lo:Nat}(h:gP n lo ws)(f:fits ws p=true):lo<=p.1:=by
 obtain⟨l,e⟩:=iN f;obtain⟨x,hx,k⟩:=nT e;have:=h.mem x hx;lia
def IW (ps qs ws:List PN):List PN->Nat
 |[]=>0
 |t::ts=>1+sumF qs (λo=>iY o t&&fits ws o) (below ps ws)+mf ps ((wb ws t).getD []) ts
theorem Bx {ws:List PN}:∀ts:List PN,IW ps ps ws ts=mf ps ws ts
 |[]=>rfl
 |t::ts=>by
  show 1+_+_=vH ps ws t+_;rw[i7]
theorem fX (hp:∀p∈ps,p.1<p.2)(hs:xp ps):∀(qs as ws ch:List PN) (k:Nat),ps=as++qs->gP n 0 ws->k<=sumF qs (fits ws) (below ps ws) ->
  ∃ts,(qs.foldl (mx ps) (ws,ch,(k:Int))).2.1=ch++ts/\Va ps ws ts/\IW ps qs ws ts=k/\∀t us,ts=t::us->t∈qs
 |[],as,ws,ch,k,_,_,h=>by
  rw[ie]at h;exact⟨[],(VT _).symm,trivial,by show 0=k;lia,λt us z=>nomatch z⟩
 |q::qs,as,ws,ch,k,ep,hw,h=>by
  have Ex:ps=(as++[q])++qs:=by rw[ep,VC];rfl
  have hq:q∈ps:=by rw[ep];exact Vu _ UY
  rw[ep]at hs;obtain⟨_,sU,Sj⟩:=W4.mp hs;have Mm:=VP.mp sU;rw[<- ep]at hs;rw[aH]at h;rw[XX];cases e:wb ws q with
  |none =>
   have ef:fits ws q=false:=by show (wb ws q).isSome=false;rw[e];rfl
   have es:mx ps (ws,ch,(k:Int)) q=(ws,ch,(k:Int)):=by unfold mx;rw[e]
   rw[es];rw[if_neg (by rw[ef];decide),V8]at h
   obtain⟨ts,h1,h2,h3,h4⟩:=fX hp hs qs _ ws ch k Ex hw h;refine⟨ts,h1,h2,?_,λt us z=>UU _ (h4 t us z)⟩;cases ts with
   |nil=>exact h3
   |cons t ts =>
    rw[<- h3];show 1+sumF (q::qs) _ _+_=1+sumF qs _ _+_;rw[aH,if_neg (by rw[ef,Wj];decide),V8]
  |some l =>
   have ef:fits ws q=true:=by show (wb ws q).isSome=true;rw[e];rfl
   have eb:below ps ws q=aX ps l:=by show aX ps ((wb ws q).getD [])=_;rw[e];rfl
   rw[if_pos ef,eb]at h
   by_cases k0:k=0
   ·subst k0;have es:mx ps (ws,ch,((0:Nat):Int)) q=(ws,ch,((0:Nat):Int)):=by unfold mx;rw[e];exact if_neg (by dsimp only;lia)
    rw[es];obtain⟨ts,h1,h2,h3,h4⟩:=fX hp hs qs _ ws ch 0 Ex hw (U4 _);cases ts with
    |nil=>exact⟨[],h1,trivial,rfl,λt us z=>nomatch z⟩
    |cons t ts=>change 1+_+_=0 at h3;lia
   by_cases kl:k<=aX ps l
   ·have es:mx ps (ws,ch,(k:Int)) q=(l,ch++[q],((k-1:Nat):Int)):=by
     unfold mx;rw[e];show (if (0:Int)<k then (if (k:Int)<=_ then _ else _) else _)=_
     rw[if_pos (by lia),if_pos (by lia),show (k:Int)-1=((k-1:Nat):Int) by lia]
    rw[es];have hl:=DO (hp q hq) hw e;have QE:=jF (hp q hq) hw e;have out:∀p,p∈as\/p=q->fits l p=false:=λp qF=>by
     cases z:fits l p with
     |false=>rfl
     |true =>
      have z1:=C4 hl z;have z2:=nU (p:=q) (q:=p) (by lia)
      rcases qF with hm|rfl
      ·have:=kP z2;rw[Sj p hm q UY]at this;cases this
      ·rw[ia]at z2;cases z2
    have sm:∀c:PN->Bool,(∀p,c p=true->fits l p=true)->sumF ps c (below ps l)=sumF qs c (below ps l):=λc hc=>by
     have o2:∀p,p∈as\/p=q->c p=false:=λp qF=>by
      cases z:c p with
      |false=>rfl
      |true=>exact absurd (hc p z) (by rw[out p qF];decide)
     conv=>lhs;arg 1;rw[ep]
     rw[pK,bM λp hm=>o2 p (.inl hm),aH,if_neg (by rw[o2 q (.inr rfl)];decide)]
     lia
    obtain⟨ts,h1,h2,h3,h4⟩:=fX hp hs qs _ l (ch++[q]) (k-1) Ex QE (by
     have:=tJ hp QE;rw[sm _ λ_ z=>z]at this;lia)
    refine⟨q::ts,by rw[h1,VC];rfl,⟨hq,l,e,h2⟩,?_,λt us z=>by cases z;exact UY⟩
    show 1+sumF (q::qs) _ _+mf ps ((wb ws q).getD []) ts=k;rw[e,bM λp hm=>?_]
    ·show 1+0+mf ps l ts=k;have:mf ps l ts=k-1:=by
      rw[<- h3];cases ts with
      |nil=>rfl
      |cons t ts =>
       show vH ps l t+_=1+_+_;rw[i7,sm _ λp z=>(Vm.mp z).2]
     lia
    ·rcases UQ.mp hm with rfl|hm
     ·rw[ia];rfl
     ·rw[kP (Mm.1 p hm)];rfl
   ·have es:mx ps (ws,ch,(k:Int)) q=(ws,ch,((k-aX ps l:Nat):Int)):=by
     unfold mx;rw[e];show (if (0:Int)<k then (if (k:Int)<=_ then _ else _) else _)=_
     rw[if_pos (by lia),if_neg (by lia),show (k:Int)-((aX ps l:Nat):Int)=((k-aX ps l:Nat):Int) by lia]
    rw[es];obtain⟨ts,h1,h2,h3,h4⟩:=fX hp hs qs _ ws ch (k-aX ps l) Ex hw (by lia)
    refine⟨ts,h1,h2,?_,λt us z=>UU _ (h4 t us z)⟩;cases ts with
    |nil=>change 0=_ at h3;lia
    |cons t ts =>
     change 1+sumF qs _ _+_=_ at h3
     show 1+sumF (q::qs) _ _+_=k;rw[aH,if_pos (by rw[ef,Mm.1 t (h4 t ts rfl)];rfl),eb]
     lia
theorem gy:aX ps [(0,n)]=sa ps n 0:=by
 rw[fo];show sa ps (n-0) 0*1=_;rw[Nat.mul_one,Nat.sub_zero]
theorem fV (hp:∀p∈ps,p.1<p.2)(hs:xp ps){k:Nat}(hk:k<sa ps n 0):Va ps [(0,n)] (sat ps n k)/\mf ps [(0,n)] (sat ps n k)=k:=by
 have:=tJ hp (jW (n:=n));rw[gy]at this;obtain⟨ts,h1,h2,h3,_⟩:=fX hp hs ps [] [(0,n)] [] k rfl jW (by lia)
 have e:sat ps n k=ts:=h1;rw[e];exact⟨h2,by rw[<- h3,Bx]⟩
end
section
variable {ps:List PN}{n:Nat}
theorem kK:∀{a b ws:List PN},Va ps ws (a++b)↔Va ps ws a/\∃l,wa ws a=some l/\Va ps l b
 |[],b,ws=>⟨λh=>⟨trivial,ws,rfl,h⟩,λKz=> by obtain⟨_,l,e,h⟩ := Kz;cases e;exact h⟩
 |t::a,b,ws=>by
  constructor
  ·rintro⟨ht,l,e,v⟩;obtain⟨h1,m,e',h2⟩:=kK.mp v;exact⟨⟨ht,l,e,h1⟩,m,by show (wb ws t).bind _=_;rw[e];exact e',h2⟩
  ·rintro⟨⟨ht,l,e,h1⟩,m,e',h2⟩
   change (wb ws t).bind _=_ at e'
   rw[e]at e';exact⟨ht,l,e,kK.mpr ⟨h1,m,e',h2⟩⟩
theorem xR:∀{a ws:List PN},Va ps ws a->∃l,wa ws a=some l
 |[],ws,_=>⟨ws,rfl⟩
 |t::a,ws,⟨ht,l,e,v⟩=>by
  obtain⟨m,e'⟩:=xR v;exact⟨m,by show (wb ws t).bind _=_;rw[e];exact e'⟩
theorem xP (hp:∀p∈ps,p.1<p.2):∀{a ws l:List PN} {lo:Nat},gP n lo ws->Va ps ws a->wa ws a=some l->gP n lo l
 |[],ws,l,lo,h,_,e=>by cases e;exact h
 |t::a,ws,l,lo,h,⟨ht,m,e,v⟩,e'=>by
  change (wb ws t).bind _=_ at e'
  rw[e]at e';exact xP hp (jF (hp t ht) h e) v e'
theorem ub:∀{a b ws l:List PN},wa ws a=some l->mf ps ws (a++b)=mf ps ws a+mf ps l b
 |[],b,ws,l,e=>by cases e;show _=0+_;rw[V8];rfl
 |t::a,b,ws,l,e=>by
  change (wb ws t).bind _=_ at e
  obtain⟨m,e1,e2⟩:=Vf.mp e;rw[Ym,fU e1,fU e1,ub e2,Yi]
theorem tY:∀{ts ws l:List PN},(∀t∈ts,t∈ps)->wa ws ts=some l->Va ps ws ts
 |[],_,_,_,_=>trivial
 |t::ts,ws,l,h,e=>by
  change (wb ws t).bind _=_ at e
  obtain⟨m,e1,e2⟩:=Vf.mp e;exact⟨h t UY,m,e1,tY (λu hu=>h u (UU _ hu)) e2⟩
theorem tR.va (ok:j5 n ps){ns:List PN}(h:tR ps ns):Va ps [(0,n)] ns:=by
 obtain⟨l,e,_⟩:=h.wa ok;exact tY h.1 e
def Fr (s:PN)(ws:List PN):Prop:=∀v∈ws,s.1<v.1/\(v.2<=s.2\/s.2<v.1)
theorem Et {s p:PN}(hp:p.1<p.2):∀{ws l:List PN},Fr s ws->wb ws p=some l->Fr s l
 |[],_,_,e=>nomatch e
 |v::ws,l,h,e=>by
  rw[e7]at e
  by_cases c:v.1<=p.1/\p.2<v.2
  ·rw[if_pos c]at e;cases e;have hv:=h v UY;intro u hu;rcases UQ.mp hu with rfl|hu
   ·dsimp only;lia
   rcases UQ.mp hu with rfl|hu
   ·dsimp only;lia
   exact h u (UU _ hu)
  ·rw[if_neg c]at e;exact Et hp (λu hu=>h u (UU _ hu)) e
theorem uT {p:PN}(hp:p.1<p.2):∀{ws l:List PN} {lo:Nat},gP n lo ws->wb ws p=some l->Fr p l
 |[],_,_,_,e=>nomatch e
 |v::ws,l,lo,h,e=>by
  rw[e7]at e
  by_cases c:v.1<=p.1/\p.2<v.2
  ·rw[if_pos c]at e;cases e;intro u hu;rcases UQ.mp hu with rfl|hu
   ·dsimp only;lia
   rcases UQ.mp hu with rfl|hu
   ·dsimp only;lia
   have:=h.2.2.2.mem u hu;lia
  ·rw[if_neg c]at e;exact uT hp h.2.2.2 e
theorem DP (hp:∀p∈ps,p.1<p.2){s:PN}:∀{ts ws:List PN},Fr s ws->Va ps ws ts->∀t∈ts,s.1<t.1/\HR s t
 |[],_,_,_,t,ht=>nomatch ht
 |u::ts,ws,f,⟨hu,l,e,v⟩,t,ht=>by
  rcases UQ.mp ht with rfl|ht
  ·obtain⟨x,hx,k⟩:=nT e;have:=f x hx;show s.1<t.1/\(t.2<s.2\/s.2<t.1);lia
  ·exact DP hp (Et (hp u hu) f e) v t ht
theorem j7 (hp:∀p∈ps,p.1<p.2):∀{ts ws:List PN} {lo:Nat},gP n lo ws->Va ps ws ts->vz ts
 |[],_,_,_,_=>List.Pairwise.nil
 |t::ts,ws,lo,h,⟨ht,l,e,v⟩=>VP.mpr ⟨λu hu=>DP hp (uT (hp t ht) h e) v u hu,j7 hp (jF (hp t ht) h e) v⟩
theorem fS:∀{ts ws:List PN},Va ps ws ts->∀t∈ts,t∈ps
 |[],_,_,_,h=>nomatch h
 |t::ts,ws,⟨ht,l,e,v⟩,u,hu=>by
  rcases UQ.mp hu with rfl|hu
  ·exact ht
  ·exact fS v u hu
end
section
variable {ps:List PN}{n:Nat}
def cA (s:List PN)(o:PN):Bool:=match s.getLast? with
 |none=>true
 |some z=>iY z o
def cB (s:List PN)(o:PN):Bool:=(s.map tI).all λu=>!bD u (tI o)&&!bJ u (tI o)
theorem AM {s o:PN}(hs:s.1<s.2)(ho:o.1<o.2)(h:s.1<o.1/\HR s o):(!bD (tI s) (tI o)&&!bJ (tI s) (tI o))=true:=by
 obtain⟨s1,s2⟩:=s;obtain⟨o1,o2⟩:=o;obtain⟨h1,h2⟩:=h
 change o2<s2\/s2<o1 at h2
 dsimp only at hs ho h1;have a:bD (tI (s1,s2)) (tI (o1,o2))=false:=Wo.mpr λz=>by
  obtain⟨x,z1,z2⟩:=b8.mp z;simp only[tI,UQ,WD,or_false]at z1 z2;lia
 have b:bJ (tI (s1,s2)) (tI (o1,o2))=false:=Wo.mpr λz=>by
  have z:fz (s1:Int) s2 o1 o2=true:=z;have:=fy.mp z;lia
 rw[a,b];rfl
theorem uR:∀{s:List PN},vz s->∀z,s.getLast?=some z->∀u∈s,u=z\/u.1<z.1
 |[],_,_,_,_,h=>nomatch h
 |[a],_,z,e,u,hu=>by
  cases e;exact .inl (UX.mp hu)
 |a::b::s,h,z,e,u,hu=>by
  have h':=VP.mp h;rw[List.getLast?_cons_cons]at e;rcases UQ.mp hu with rfl|hu
  ·exact .inr (h'.1 z (List.mem_of_getLast? e)).1
  ·exact uR h'.2 z e u hu
theorem C5 (ok:j5 n ps){s ws:List PN}(hv:Va ps [(0,n)] s)(ew:wa [(0,n)] s=some ws){o:PN}(ho:o∈ps):(cA s o&&cB s o)=fits ws o:=by
 have hp:∀p∈ps,p.1<p.2:=λp h=>(ok.lt p h).1;have hg:=j7 hp jW hv;cases f:fits ws o with
 |true =>
  obtain⟨l,el⟩:=iN f;have Mj:Va ps [(0,n)] (s++[o]):=kK.mpr ⟨hv,ws,ew,ho,l,el,trivial⟩;have SJ:=W4.mp (j7 hp jW Mj);have key:∀u∈s,u.1<o.1/\HR u o:=λu hu=>SJ.2.2 u hu o (UX.mpr rfl);rw[Vm];constructor
  ·unfold cA;cases e:s.getLast? with
   |none=>rfl
   |some z=>exact nU (key z (List.mem_of_getLast? e)).1
  ·refine Ws.mpr λu hu=>?_;obtain⟨x,hx,rfl⟩:=Vv.mp hu;exact AM (hp x (fS hv x hx)) (hp o ho) (key x hx)
 |false =>
  cases z:(cA s o&&cB s o)with
  |false=>rfl
  |true =>
   exfalso
   obtain⟨z1,z2⟩:=Vm.mp z;have key:∀u∈s,u.1<o.1/\HR u o:=λu hu=>by
    have lt:iY u o=true:=by
     unfold cA at z1;cases e:s.getLast? with
     |none=>rw[List.getLast?_eq_none_iff.mp e]at hu;cases hu
     |some x =>
      rw[e]at z1;rcases uR hg x e u hu with rfl|h
      ·exact z1
      ·exact xW (nU h) z1
    have ap:=Ws.mp z2 (tI u) (W8 hu);obtain⟨a1,a2⟩:=Vm.mp ap;exact Tu (hp u (fS hv u hu)) (hp o ho) lt ⟨by simpa using a1,by simpa using a2⟩
   have Mn:tR ps (s++[o]):=⟨λp qF=>by
    rcases Vl.mp qF with h|h
    ·exact fS hv p h
    ·rw[UX.mp h];exact ho,W4.mpr ⟨hg,Yl _ _,λu hu v hv=>by rw[UX.mp hv];exact key u hu⟩⟩
   obtain⟨_,l,e1,_,m,e2,_⟩:=kK.mp (Mn.va ok);rw[ew]at e1;cases e1;have:fits ws o=true:=by show (wb ws o).isSome=true;rw[e2];rfl
   rw[f]at this;cases this
theorem Hl (ok:j5 n ps){s ws:List PN}(hv:Va ps [(0,n)] s)(ew:wa [(0,n)] s=some ws):(ps.filter (cA s)).reverse.filter (cB s)=(Bo ps ws).reverse:=by
 rw[List.filter_reverse,X8]
 congr 1
 refine YQ λo ho=>?_;rw[Bool.and_comm];exact C5 ok hv ew ho
def eK (ps:List PN)(n:Nat):Nat->List (List PN)->Prop
 |m,[]=>m=sa ps n 0
 |m,s::r=>Va ps [(0,n)] s/\mf ps [(0,n)] s=m/\∃l,wa [(0,n)] s=some l/\eK ps n (m+aX ps l) r
theorem Jr:eK ps n 0 [[]]:=⟨trivial,rfl,[(0,n)],rfl,by show 0+aX ps [(0,n)]=_;rw[gy,V8]⟩
theorem vV {ws:List PN}(hp:∀p∈ps,p.1<p.2){lo:Nat}(h:gP n lo ws):1<=aX ps ws:=by rw[tJ hp h];lia
theorem lr (hp:∀p∈ps,p.1<p.2):∀{r:List (List PN)} {m:Nat},eK ps n m r->m+r.length<=sa ps n 0
 |[],m,h=>by rw[show m=_ from h];exact UO _
 |s::r,m,⟨v,_,l,e,h⟩=>by
  have:=lr hp h;have:=vV hp (xP hp jW v e);rw[U7];lia
theorem Bt:∀{a b:List PN} {o:PN},(a++o::b).Pairwise (λp q=>iY p q=true)->(a++o::b).filter (λp=>iY p o)=a:=by
 intro a b o h;obtain⟨_,h2,h3⟩:=W4.mp h;have h4:=VP.mp h2;rw[V7,List.filter_eq_self.mpr λp hp=>h3 p hp o UY,Wm (by rw[ia];decide),List.filter_eq_nil_iff.mpr λp hp=>by rw[kP (h4.1 p hp)];decide,VT]
theorem uq (hp:∀p∈ps,p.1<p.2)(hs:xp ps){s l:List PN}{r:List (List PN)}(v:Va ps [(0,n)] s)(e:wa [(0,n)] s=some l)(hr:eK ps n (mf ps [(0,n)] s+aX ps l) r):
  ∀{cs dn:List PN} {m:Nat},Bo ps l=dn++cs->m=mf ps [(0,n)] s+1+(dn.map (below ps l)).sum->eK ps n m (cs.map (λo=>s++[o])++r)
 |[],dn,m,et,em=>by
  rw[VT]at et;show eK ps n m r;have:aX ps l=1+((Bo ps l).map (below ps l)).sum:=tJ hp (xP hp jW v e);rw[et]at this;rw[em,Yi,<- this];exact hr
 |o::cs,dn,m,et,em=>by
  have ho:o∈Bo ps l:=by rw[et];exact Vu _ UY
  obtain⟨h1,h2⟩:=Vk.mp ho;obtain⟨u,eu⟩:=iN h2;refine⟨kK.mpr ⟨v,l,e,h1,u,eu,trivial⟩,?_,u,?_,uq hp hs v e hr (cs:=cs) (dn:=dn++[o]) (by rw[et,VC];rfl) ?_⟩
  ·rw[ub e,em];show _+(vH ps l o+0)=_;unfold vH;have Qw:(Bo ps l).Pairwise λp q=>iY p q=true:=Yx _ hs;rw[et]at Qw;rw[et,Bt Qw];show _+(1+(dn.map (below ps l)).sum+0)=_;lia
  ·rw[xQ,e,WB];show (wb l o).bind _=_;rw[eu];rfl
  ·rw[em,Vb,XU];show _=_+1+(_+(aX ps ((wb l o).getD [])+0));rw[eu];show _+aX ps u=_+1+(_+(aX ps u+0));lia
theorem vZ (hp:∀p∈ps,p.1<p.2)(hs:xp ps){s l:List PN}{r:List (List PN)}{m:Nat}(h:eK ps n m (s::r))(e:wa [(0,n)] s=some l):eK ps n (m+1) ((Bo ps l).map (λo=>s++[o])++r):=by
 obtain⟨v,rfl,l',e',hr⟩:=h;rw[e]at e';cases e';exact uq hp hs v e hr (dn:=[]) rfl rfl
theorem yO (hp:∀p∈ps,p.1<p.2)(nd:ps.Nodup)(hs:xp ps){s:List PN}{r:List (List PN)}{m:Nat}(h:eK ps n m (s::r)):m<sa ps n 0/\s=sat ps n m:=by
 obtain⟨v,em,l,e,_⟩:=h;have h1:=n6 hp nd jW v;rw[em,gy]at h1;obtain⟨v2,e2⟩:=fV hp hs h1;exact⟨h1,ua hp nd jW v v2 (by rw[em,e2])⟩
theorem E3 (ok:j5 n ps){s:List PN}(v:Va ps [(0,n)] s):s.length<=n:=by
 have hp:∀p∈ps,p.1<p.2:=λp h=>(ok.lt p h).1;have hg:=j7 hp jW v;have nd:(s.map (·.1)).Nodup:=Wl.mpr (hg.imp λh z=>by lia)
 have:=Eb nd (i:=n) λx hx=>by
  obtain⟨p,hm,rfl⟩:=Vv.mp hx;have:=ok.lt p (fS v p hm);lia
 rwa [UN]at this
def u6 (ps:List PN)(n m:Nat):List (List PN):=(Vy m).map λ(k:Nat)=>sat ps n (k:Int)
theorem Ad {m:Nat}:u6 ps n (m+1)=u6 ps n m++[sat ps n (m:Int)]:=by
 unfold u6;rw[List.range_succ,Vb];rfl
theorem Fe (h:rD (ps.map tI))(nd:ps.Nodup):xp ps:=by
 have h1:ps.Pairwise λx y=>HT.lexLt (tI y) (tI x)=false:=Wl.mp h;refine(List.Pairwise.and h1 nd).imp λ{a b} ⟨q1,q2⟩=>?_;cases z:iY a b with
 |true=>rfl
 |false=>exact absurd (xX z q1) q2
end
theorem Dj (p q:PN):VG (kD (tI p)).pd (kD (tI q)).pd=decide (p=q):=by
 rw[tq];exact decide_eq_decide.mpr ⟨eE,λh=>by rw[h]⟩
theorem u7 (a b:List PN):VG (dJ a).pd (dJ b).pd=decide (a=b):=by
 show VG (.list (D.fF (a.map λp=>kD (tI p)))) (.list (D.fF (b.map λp=>kD (tI p))))=_;rw[cu,cu];simp only[VG];exact dE Dj a b
theorem i8 (a:List PN):(dJ a).pd.canLay0=true/\(dJ a).pd.depth<=3:=i9 λd hd=>by
 obtain⟨i,_,rfl⟩:=Vv.mp hd;exact il _
theorem Dl (a b:List (List PN)):VG (D.lst (a.map dJ)).pd (D.lst (b.map dJ)).pd=decide (a=b):=by
 show VG (.list (D.fF (a.map dJ))) (.list (D.fF (b.map dJ)))=_;rw[cu,cu];simp only[VG];exact dE u7 a b
theorem mV (a:List (List PN)):(D.lst (a.map dJ)).pd.canLay0=true/\(D.lst (a.map dJ)).pd.depth<=4:=i9 λd hd=>by
 obtain⟨i,_,rfl⟩:=Vv.mp hd;exact i8 _
theorem Dp (a b:List (List PN)):Bc (.lst (a.map dJ)) (.lst (b.map dJ))=some (.bl (!decide (a=b))):=oZ (bI (mV a)) (bI (mV b)) (Dl a b)
theorem DB (a b:List PN):Ip (dJ a) (dJ b)=some (.bl (decide (a=b))):=tH (bI (i8 a)) (bI (i8 b)) (u7 a b)
section
variable {ps:List PN}{n:Nat}
theorem oY {m:Nat}:(u6 ps n m).length=m:=by unfold u6;rw[UN,V1]
end
section
variable {ps:List PN}
theorem cm {c d:PN->Bool}{f:PN->Nat}:∀{ps:List PN},sumF (ps.filter c) d f=sumF ps (λp=>c p&&d p) f
 |[]=>rfl
 |p::ps=>by
  rw[aH]
  by_cases h:c p=true
  ·rw[WE h,aH,cm,h,Bool.true_and]
  ·rw[Wm h,cm,if_neg (by rw[Wo.mpr h,W5];decide),V8]
theorem iq (hp:∀p∈ps,p.1<p.2)(l i:Nat):sa ps (l+1) i=sa ps l (i+1)+sumF ps (λp=>decide (p.1=i)&&decide (p.2<i+l+1)) (λp=>sa ps (p.2-(i+1)) (i+1)*sa ps (i+l+1-(p.2+1)) (p.2+1)):=by
 have e:sa ps (l+1) i=((dG ps i (i+l+1)).map (cG ps i (i+l+1))).sum:=ip hp;rw[e];unfold dG;rw[Vb,XU,Vd,X3,Xe,List.sum_nil,ft,show i+l+1-(i+1)=l by lia]
 have a:(((((gx ps i).filter λk=>decide (k<i+l+1)).map some).map (cG ps i (i+l+1))).sum)=sumF ps (λp=>decide (p.1=i)&&decide (p.2<i+l+1)) (λp=>sa ps (p.2-(i+1)) (i+1)*sa ps (i+l+1-(p.2+1)) (p.2+1)):=by
  unfold gx sumF;rw[List.filter_map,VB,VB,X8]
  congr 1
  rw[YQ (q:=λp=>decide (p.1=i)&&decide (p.2<i+l+1)) λp hp=>by simp only[Function.comp];exact Bool.and_comm _ _]
  refine VR λp hp=>?_;show cG ps i (i+l+1) (some p.2)=_;rw[fq]
 rw[a];lia
theorem cM (hp:∀p∈ps,p.1<p.2){c:PN->Bool}:∀p∈ps.filter c,p.1<p.2:=λp h=>hp p (Vk.mp h).1
theorem yn (hp:∀p∈ps,p.1<p.2){c:PN->Bool}:∀(l i:Nat),(∀p∈ps,i<=p.1->p.2<i+l->c p=true)->sa (ps.filter c) l i=sa ps l i:=by
 intro l
 induction l using XS with
 |_ l ih =>
  intro i h;rw[gS (cM hp),gS hp,cm];refine congrArg (1+·) (bt λp hm=>?_);constructor
  ·cases z:nu (i,i+l) p with
   |false=>rw[Wj]
   |true =>
    have z:=of_decide_eq_true z;rw[h p hm z.1 z.2];rfl
  ·intro z;have z:=of_decide_eq_true (Vm.mp z).2;have z1:=z.1;have z2:=z.2;have h3:=hp p hm;dsimp only at z1 z2;rw[ih (p.2-(p.1+1)) (by lia) (p.1+1) λq hq a b=>h q hq (by lia) (by lia),ih (i+l-(p.2+1)) (by lia) (p.2+1) λq hq a b=>h q hq (by lia) (by lia)]
theorem kZ (hp:∀p∈ps,p.1<p.2):∀(l i k:Nat),i<=k->k<i+l->(∀p∈ps,i<=p.1->p.2<i+l->p.2<k\/k<p.1)->sa ps l i=sa ps (k-i) i*sa ps (i+l-(k+1)) (k+1):=by
 intro l
 induction l using XS with
 |_ l ih =>
  intro i k h1 h2 h;rw[gS hp l i,gS hp (k-i) i];rw[e_ (c:=nu (i,i+l)) (d:=nu (i,i+(k-i))) (e:=nu (k+1,k+1+(i+l-(k+1))))]
  ·have a:sumF ps (nu (k+1,k+1+(i+l-(k+1)))) (λp=>sa ps (p.2-(p.1+1)) (p.1+1)*sa ps (i+l-(p.2+1)) (p.2+1))+1=sa ps (i+l-(k+1)) (k+1):=by
    rw[gS hp (i+l-(k+1)) (k+1),Nat.add_comm];refine congrArg (1+·) (bt λp hm=>⟨rfl,λz=>?_⟩);rw[show k+1+(i+l-(k+1))=i+l by lia]
   have b:sumF ps (nu (i,i+(k-i))) (λp=>sa ps (p.2-(p.1+1)) (p.1+1)*sa ps (i+l-(p.2+1)) (p.2+1))=sumF ps (nu (i,i+(k-i))) (λp=>sa ps (p.2-(p.1+1)) (p.1+1)*sa ps (i+(k-i)-(p.2+1)) (p.2+1))*sa ps (i+l-(k+1)) (k+1):=by
    rw[<- fT];refine bt λp hm=>⟨rfl,λz=>?_⟩;have z:=of_decide_eq_true z;have z1:=z.1;have z2:=z.2;have h3:=hp p hm;dsimp only at z1 z2;rw[XI]
    congr 1
    have:=ih (i+l-(p.2+1)) (by lia) (p.2+1) k (by lia) (by lia) λq hq a b=>h q hq (by lia) (by lia)
    rw[this,show k-(p.2+1)=i+(k-i)-(p.2+1) by lia,show p.2+1+(i+l-(p.2+1))-(k+1)=i+l-(k+1) by lia]
   rw[b,XM,Xq];lia
  ·intro p hm;have h3:=hp p hm;constructor
   ·unfold nu;rw[<- Bool.decide_or];refine decide_eq_decide.mpr ?_;dsimp only;constructor
    ·intro z;have:=h p hm z.1 z.2;lia
    ·intro z;lia
   ·rintro⟨z1,z2⟩;have z1:=(of_decide_eq_true z1).2;have z2:=(of_decide_eq_true z2).1;dsimp only at z1 z2;lia
end
def fB (t o:PN):Bool:=!bD (tI t) (tI o)&&!bJ (tI t) (tI o)
theorem dq {t o:PN}(ht:t.1<t.2)(ho:o.1<o.2):fB t o=true↔(o.2<t.1\/t.2<o.1\/(t.1<o.1/\o.2<t.2)\/(o.1<t.1/\t.2<o.2)):=by
 obtain⟨a,b⟩:=t;obtain⟨c,d⟩:=o;dsimp only at ht ho ⊢
 unfold fB;rw[Vm];constructor
 ·rintro⟨h1,h2⟩;have e1:∀x:Int,x∈tI (a,b)->x∈tI (c,d)->False:=λx g1 g2=>by
   rw[b8.mpr ⟨x,g1,g2⟩]at h1;cases h1
  have n1:a≠c:=λe=>e1 a (by simp[tI]) (by simp[tI,e])
  have n2:a≠d:=λe=>e1 a (by simp[tI]) (by simp[tI,e])
  have n3:b≠c:=λe=>e1 b (by simp[tI]) (by simp[tI,e])
  have n4:b≠d:=λe=>e1 b (by simp[tI]) (by simp[tI,e])
  have c':¬ ((((a:Nat):Int)<c/\((c:Nat):Int)<b/\((b:Nat):Int)<d)\/(((c:Nat):Int)<a/\((a:Nat):Int)<d/\((d:Nat):Int)<b)):=λz=>by
   have:fz (a:Int) b c d=true:=fy.mpr z;have h2:(!fz (a:Int) b c d)=true:=h2;rw[this]at h2;cases h2
  lia
 ·intro h;constructor
  ·have:bD (tI (a,b)) (tI (c,d))=false:=Wo.mpr λz=>by
    obtain⟨x,z1,z2⟩:=b8.mp z;simp only[tI,UQ,WD,or_false]at z1 z2;lia
   rw[this];rfl
  ·have:bJ (tI (a,b)) (tI (c,d))=false:=Wo.mpr λz=>by
    have z:fz (a:Int) b c d=true:=z;have:=fy.mp z;lia
   rw[this];rfl
def cN (t o:PN):Bool:=decide (t.1<o.1/\o.2<t.2)
section
variable {ps:List PN}{t:PN}
theorem BE (hp:∀p∈ps,p.1<p.2)(ht:t.1<t.2):∀(l i:Nat),sa (ps.filter (fB t)) l i=sa ((ps.filter (fB t)).filter (cN t)) l i*sa ((ps.filter (fB t)).filter λo=>!cN t o) l i:=by
 generalize hX:ps.filter (fB t)=qs;have hq:∀p∈qs,p.1<p.2:=by rw[<- hX];exact cM hp
 have ha:∀p∈qs,p.2<t.1\/t.2<p.1\/(t.1<p.1/\p.2<t.2)\/(p.1<t.1/\t.2<p.2):=λp h=>by
  rw[<- hX]at h;obtain⟨h1,h2⟩:=Vk.mp h;exact(dq ht (hp p h1)).mp h2
 have hg:∀p∈qs.filter (cN t),t.1<p.1/\p.2<t.2/\p.1<p.2:=λp h=>by
  obtain⟨h1,h2⟩:=Vk.mp h;have h2:=of_decide_eq_true h2;exact⟨h2.1,h2.2,hq p h1⟩
 have hh:∀p∈qs.filter (λo=>!cN t o),p.1<p.2/\(p.2<t.1\/t.2<p.1\/(p.1<t.1/\t.2<p.2)):=λp h=>by
  obtain⟨h1,h2⟩:=Vk.mp h;have h2:¬ (t.1<p.1/\p.2<t.2):=λz=>by
   have:cN t p=true:=decide_eq_true z;rw[this]at h2;cases h2
  have:=ha p h1;exact⟨hq p h1,by lia⟩
 intro l
 induction l using XS with
 |_ l ih =>
  intro i;cases l with
  |zero=>rfl
  |succ l =>
   rw[iq hq,iq (cM hq),iq (cM hq),cm,cm]
   by_cases hi:t.1<i/\i<t.2
   ·have e0:sumF qs (λp=>(!cN t p)&&(decide (p.1=i)&&decide (p.2<i+l+1))) (λp=>sa (qs.filter λo=>!cN t o) (p.2-(i+1)) (i+1)*sa (qs.filter λo=>!cN t o) (i+l+1-(p.2+1)) (p.2+1))=0:=by
     refine bM λp hm=>?_;cases z:decide (p.1=i)with
     |false=>rw[W5,Wj]
     |true =>
      have z:=of_decide_eq_true z;have:=ha p hm;have:cN t p=true:=decide_eq_true (by have:=hq p hm;lia)
      rw[this];rfl
    rw[e0,V9,ih l (by lia) (i+1),XM,<- fT]
    refine congrArg (_+·) (bt λp hm=>?_);constructor
    ·cases z:decide (p.1=i)with
     |false=>rw[W5,Wj]
     |true =>
      have z:=of_decide_eq_true z;have:=ha p hm;have:cN t p=true:=decide_eq_true (by have:=hq p hm;lia)
      rw[this];rfl
    ·intro z;obtain⟨z1,z2⟩:=Vm.mp z;have z1:=of_decide_eq_true z1;have z2:=of_decide_eq_true z2;have h3:=hq p hm;have h4:=ha p hm;rw[ih (p.2-(i+1)) (by lia),ih (i+l+1-(p.2+1)) (by lia)]
     have sp:=kZ (cM hq (c:=λo=>!cN t o)) l (i+1) p.2 (by lia) (by lia) λq Ha a b=>by
      have:=hh q Ha;lia
     rw[sp,show i+1+l-(p.2+1)=i+l+1-(p.2+1) by lia]
     simp only[V9,YO,YN,XI]
   ·have e0:sumF qs (λp=>cN t p&&(decide (p.1=i)&&decide (p.2<i+l+1))) (λp=>sa (qs.filter (cN t)) (p.2-(i+1)) (i+1)*sa (qs.filter (cN t)) (i+l+1-(p.2+1)) (p.2+1))=0:=by
     refine bM λp hm=>?_;cases z:decide (p.1=i)with
     |false=>rw[W5,Wj]
     |true =>
      have z:=of_decide_eq_true z;have:cN t p=false:=decide_eq_false λy=>by have:=hq p hm;lia
      rw[this];rfl
    rw[e0,V9,ih l (by lia) (i+1),Nat.mul_add,YO _ (sumF _ _ _),<- fT]
    refine congrArg (_+·) (bt λp hm=>?_);constructor
    ·cases z:decide (p.1=i)with
     |false=>rw[W5,Wj]
     |true =>
      have z:=of_decide_eq_true z;have:cN t p=false:=decide_eq_false λy=>by have:=hq p hm;lia
      rw[this];rfl
    ·intro z;obtain⟨z1,z2⟩:=Vm.mp z;have z1:=of_decide_eq_true z1;have z2:=of_decide_eq_true z2;have h3:=hq p hm;have h4:=ha p hm;rw[ih (p.2-(i+1)) (by lia),ih (i+l+1-(p.2+1)) (by lia)]
     have sp:=kZ (cM hq (c:=cN t)) l (i+1) p.2 (by lia) (by lia) λq Ha a b=>by
      have:=hg q Ha;lia
     rw[sp,show i+1+l-(p.2+1)=i+l+1-(p.2+1) by lia]
     simp only[V9,YO,YN,XI]
end
section
variable {ps:List PN}{t:PN}
theorem Fs (hp:∀p∈ps,p.1<p.2)(nd:ps.Nodup)(hm:t∈ps):∀(l i:Nat),sa ps l i=sa (ps.filter λo=>!decide (o=t)) l i+(if i<=t.1/\t.2<i+l then sa (ps.filter (fB t)) l i else 0):=by
 have ht:=hp t hm;intro l
 induction l using XS with
 |_ l ih =>
  intro i;cases l with
  |zero=>rw[if_neg (by lia)];rfl
  |succ l =>
   have out:∀l i,¬ (i<=t.1/\t.2<i+l)->sa (ps.filter λo=>!decide (o=t)) l i=sa ps l i:=λl i h=>yn hp l i λp G3 a b=>by
    rw[decide_eq_false λe=>h (by rw[<- e];exact⟨a,b⟩)]
    rfl
   by_cases uP:i<=t.1/\t.2<i+(l+1)
   ·rw[if_pos uP];have MD:∀l i,(∀p∈ps,i<=p.1->p.2<i+l->fB t p=true)->sa (ps.filter (fB t)) l i=sa ps l i:=λl i h=>yn hp l i h
    by_cases SH:i=t.1
    ·-- the PL own first point
     rw[iq hp,iq (cM hp),iq (cM hp),cm,cm];have e1:sumF ps (λp=>decide (p.1=i)&&decide (p.2<i+l+1)) (λp=>sa ps (p.2-(i+1)) (i+1)*sa ps (i+l+1-(p.2+1)) (p.2+1))=sumF ps (λp=>(!decide (p=t))&&(decide (p.1=i)&&decide (p.2<i+l+1))) (λp=>sa ps (p.2-(i+1)) (i+1)*sa ps (i+l+1-(p.2+1)) (p.2+1))+sumF ps (λp=>decide (p=t)) (λp=>sa ps (p.2-(i+1)) (i+1)*sa ps (i+l+1-(p.2+1)) (p.2+1)):=e_ λp _=>by
      by_cases e:p=t
      ·rw[e,decide_eq_true (rfl:t=t),decide_eq_true SH.symm,decide_eq_true (show t.2<i+l+1 by lia)]
       exact⟨rfl,λz=>by cases z.1⟩
      ·rw[decide_eq_false e];exact⟨by rw[Bool.not_false,Bool.true_and,Bool.or_false],λz=>by cases z.2⟩
     have e2:sumF ps (λp=>fB t p&&(decide (p.1=i)&&decide (p.2<i+l+1))) (λp=>sa (ps.filter (fB t)) (p.2-(i+1)) (i+1)*sa (ps.filter (fB t)) (i+l+1-(p.2+1)) (p.2+1))=0:=bM λp qF=>by
      cases z:fB t p with
      |false=>rfl
      |true =>
       have:=(dq ht (hp p qF)).mp z;have h3:=hp p qF;rw[decide_eq_false (show ¬ p.1=i by lia)]
       rfl
     have e3:sumF ps (λp=>(!decide (p=t))&&(decide (p.1=i)&&decide (p.2<i+l+1))) (λp=>sa (ps.filter λo=>!decide (o=t)) (p.2-(i+1)) (i+1)*sa (ps.filter λo=>!decide (o=t)) (i+l+1-(p.2+1)) (p.2+1))=sumF ps (λp=>(!decide (p=t))&&(decide (p.1=i)&&decide (p.2<i+l+1))) (λp=>sa ps (p.2-(i+1)) (i+1)*sa ps (i+l+1-(p.2+1)) (p.2+1)):=bt λp qF=>⟨rfl,λz=>by
      have h3:=hp p qF;have z:=of_decide_eq_true (Vm.mp (Vm.mp z).2).1;rw[out _ _ (by lia),out _ _ (by lia)]⟩
     have e4:=kZ (cM hp (c:=fB t)) l (i+1) t.2 (by lia) (by lia) λq hq a b=>by
      obtain⟨q1,q2⟩:=Vk.mp hq;have:=(dq ht (hp q q1)).mp q2;have:=hp q q1;lia
     rw[MD (t.2-(i+1)) (i+1) λp qF a b=>(dq ht (hp p qF)).mpr (by lia),MD _ (t.2+1) λp qF a b=>(dq ht (hp p qF)).mpr (by lia)]at e4
     rw[e1,j8 nd hm,e2,e3,V9,e4,out l (i+1) (by lia),show i+1+l-(t.2+1)=i+l+1-(t.2+1) by lia]
     lia
    ·-- ahead of it
     have fG:i<t.1:=by lia
     have i1:=ih l (by lia) (i+1)
     rw[if_pos (by lia)]at i1
     rw[iq hp,iq (cM hp),iq (cM hp),cm,cm,i1];have e1:sumF ps (λp=>decide (p.1=i)&&decide (p.2<i+l+1)) (λp=>sa ps (p.2-(i+1)) (i+1)*sa ps (i+l+1-(p.2+1)) (p.2+1))=sumF ps (λp=>(!decide (p=t))&&(decide (p.1=i)&&decide (p.2<i+l+1))) (λp=>sa (ps.filter λo=>!decide (o=t)) (p.2-(i+1)) (i+1)*sa (ps.filter λo=>!decide (o=t)) (i+l+1-(p.2+1)) (p.2+1))+sumF ps (λp=>fB t p&&(decide (p.1=i)&&decide (p.2<i+l+1))) (λp=>sa (ps.filter (fB t)) (p.2-(i+1)) (i+1)*sa (ps.filter (fB t)) (i+l+1-(p.2+1)) (p.2+1)):=by
      refine pJ λp qF=>?_;have h3:=hp p qF
      by_cases hc:p.1=i/\p.2<i+l+1
      ·have ne:¬ p=t:=λe=>by rw[e]at hc;lia
       rw[decide_eq_true hc.1,decide_eq_true hc.2,decide_eq_false ne];have j1:=ih (p.2-(i+1)) (by lia) (i+1)
       have j2:=ih (i+l+1-(p.2+1)) (by lia) (p.2+1)
       cases z:fB t p with
       |true =>
        have z:=(dq ht h3).mp z;show _=_+_
        by_cases hb:t.2<p.2
        ·rw[if_pos (by lia)]at j1
         rw[if_neg (by lia),V9]at j2
         rw[j1,j2,MD _ (p.2+1) λq hq a b=>(dq ht (hp q hq)).mpr (by lia),out _ (p.2+1) (by lia)]
         show (_+_)*_=(if true=true then _ else 0)+(if true=true then _ else 0)
         rw[if_pos rfl,if_pos rfl,XM];simp only[V9]
        ·rw[if_neg (by lia),V9]at j1
         rw[if_pos (by lia)]at j2
         rw[j1,j2,MD _ (i+1) λq hq a b=>(dq ht (hp q hq)).mpr (by have:=hp q hq;lia),out _ (i+1) (by lia)]
         show _*(_+_)=(if true=true then _ else 0)+(if true=true then _ else 0)
         rw[if_pos rfl,if_pos rfl,Nat.mul_add];simp only[V9]
       |false =>
        have z:¬ (p.2<t.1\/t.2<p.1\/(t.1<p.1/\p.2<t.2)\/(p.1<t.1/\t.2<p.2)):=λy=>by rw[(dq ht h3).mpr y]at z;cases z
        rw[if_neg (by lia),V9]at j1
        rw[if_neg (by lia),V9]at j2
        rw[j1,j2];show (if true=true then _ else 0)=(if true=true then _ else 0)+(if false=true then _ else 0)
        simp only[if_true,V9,if_neg VX]
      ·have lN:(decide (p.1=i)&&decide (p.2<i+l+1))=false:=by rw[<- Bool.decide_and];exact decide_eq_false hc
       rw[lN,Wj,Wj];rfl
     rw[e1];lia
   ·rw[if_neg uP,out _ _ uP];rfl
where
 pJ {c d e:PN->Bool} {f g h:PN->Nat}:∀{ps:List PN},(∀p∈ps,(if c p=true then f p else 0)=(if d p=true then g p else 0)+(if e p=true then h p else 0))->sumF ps c f=sumF ps d g+sumF ps e h
  |[],_=>rfl
  |p::ps,k=>by
   rw[aH,aH,aH,pJ λq hq=>k q (UU _ hq),k p UY];lia
theorem u5 {n:Nat}(ok:j5 n ps)(hs:xp ps){x:List PN}:x∈u6 ps n (sa ps n 0)↔Va ps [(0,n)] x:=by
 have hp:∀p∈ps,p.1<p.2:=λp h=>(ok.lt p h).1;constructor
 ·intro h;obtain⟨k,hk,rfl⟩:=Vv.mp h;exact(fV hp hs (V_.mp hk)).1
 ·intro h;have h1:=n6 hp ok.nd jW h;rw[gy]at h1;obtain⟨v,e⟩:=fV hp hs h1;refine Vv.mpr ⟨_,V_.mpr h1,?_⟩;exact ua hp ok.nd jW v h e
theorem Ae {n:Nat}(ok:j5 n ps)(hs:xp ps):(u6 ps n (sa ps n 0)).Nodup:=by
 have hp:∀p∈ps,p.1<p.2:=λp h=>(ok.lt p h).1;refine Wl.mpr (List.Pairwise.imp_of_mem (λ{a b} ha hb ne e=>ne ?_) (List.nodup_range (n:=sa ps n 0)));have h1:=(fV hp hs (V_.mp ha)).2;have h2:=(fV hp hs (V_.mp hb)).2;rw[e]at h1;exact h1.symm.trans h2
theorem len_eq {α:Type}{a b:List α}(ha:a.Nodup)(hb:b.Nodup)(h:∀x,x∈a↔x∈b):a.length=b.length:=((List.perm_ext_iff_of_nodup ha hb).mpr h).length_eq
theorem gZ {n:Nat}(ok:j5 n ps)(c:PN->Bool):j5 n (ps.filter c):=⟨λp h=>ok.lt p (Vk.mp h).1,ok.nd.sublist W9,ok.le,Vq (VD _ _) ok.sm⟩
theorem uU (hs:xp ps)(c:PN->Bool):xp (ps.filter c):=Yx _ hs
theorem oS {α:Type}{c:α->Bool}:∀{l:List α},(l.filter c).length+(l.filter λx=>!c x).length=l.length
 |[]=>rfl
 |x::l=>by
  by_cases h:c x=true
  ·rw[WE h,Wm (by rw[h];decide),U7,U7,<- oS (l:=l) (c:=c)]
   lia
  ·rw[Wm h,WE (by rw[Wo.mpr h];rfl),U7,U7,<- oS (l:=l) (c:=c)]
   lia
theorem xO {n:Nat}(ok:j5 n ps)(hs:xp ps)(hm:t∈ps):((u6 ps n (sa ps n 0)).filter λo=>decide (t∈o)).length=sa (ps.filter (fB t)) n 0:=by
 have hp:∀p∈ps,p.1<p.2:=λp h=>(ok.lt p h).1;have h1:=oS (l:=u6 ps n (sa ps n 0)) (c:=λo=>decide (t∈o));have h2:((u6 ps n (sa ps n 0)).filter λo=>!decide (t∈o)).length=sa (ps.filter λo=>!decide (o=t)) n 0:=by
  rw[<- oY (ps:=ps.filter λo=>!decide (o=t)) (n:=n) (m:=sa (ps.filter λo=>!decide (o=t)) n 0)];refine len_eq ((Ae ok hs).sublist W9) (Ae (gZ ok _) (uU hs _)) λx=>?_;rw[Vk,u5 ok hs,u5 (gZ ok _) (uU hs _)];constructor
  ·rintro⟨v,hx⟩;obtain⟨l,e⟩:=xR v;refine tY (λp K_=>Vk.mpr ⟨fS v p K_,?_⟩) e;rw[decide_eq_false λz=>?_]
   ·rfl
   ·rw[z]at K_;rw[decide_eq_true K_]at hx;cases hx
  ·intro v;obtain⟨l,e⟩:=xR v;refine⟨tY (λp K_=>(Vk.mp (fS v p K_)).1) e,?_⟩;rw[decide_eq_false λz=>?_]
   ·rfl
   ·have:=(Vk.mp (fS v t z)).2;rw[decide_eq_true (rfl:t=t)]at this;cases this
 have h3:=Fs hp ok.nd hm n 0;have h4:=ok.lt t hm;rw[if_pos (by lia)]at h3
 rw[oY,h2]at h1;lia
end
section
variable {X:Cx}{C:Cfg}{e k:Expr}{φ:aQ}{p:Bool}{i:Nat}{x:Str}{pos px ap cp:Pos}
theorem sD (he:∀U,PQ X (C.u U) p e φ)(hN:X.N[i]?=some x:=by rfl)(hv:rM X.env.scope x:=by first|exact .inl rfl|exact .inr (.inl rfl)|exact .inr (.inr rfl))(hd:(x==("__debug__" : Str))=false:=by decide)(fH:(x==("__classdict__" : Str))=false:=by decide)
  (cW:Wz (.Name x px) "extend" X.env (eval (.Name x px) X.env)=eval (.Name x px) X.env:=by rfl)
  (jw:((V6 cp (US [e] X.env)).all (λx=>!x.1)&&(Yu cp (XJ [] X.env)).all (λx=>x.1.isSome)&&decide ([e].length+([]:List Xi).length+(if ([]:List Xi).isEmpty then 0 else 1)<30))=true:=by rfl)
  (cV:(ap.endLine==cp.line)=true:=by rfl) (hs:US [e] X.env=(false,eval e X.env)::US [] X.env:=by rfl) (cO:(V6 cp (US [] X.env)).any (·.1)=false:=by rfl)
  (sS:Wf (.Call (.Attribute (.Name x px) "extend" ap) [e] [] cp) none pos.line X.env=pure false:=by rfl) :
  PB X C (.Expr (.Call (.Attribute (.Name x px) "extend" ap) [e] [] cp) pos) (λE β=>(∃ds,β[i]?=some (some (.own (.lst ds))))/\φ β λd k β'=>k=.own/\∃ds es,d=.lst es/\β'[i]?=some (some (.own (.lst ds)))/\ds.length+es.length<=UW/\E.nx (β'.set i (some (.own (.lst (ds++es)))))):=by
 refine⟨λE E' β l g=>by obtain⟨h1,q⟩:=g;exact⟨h1,(he λ_=>False).mono _ _ _ (λd k β' g=>by obtain⟨h0,ds,es,h1,h2,h3,q⟩:=g;exact⟨h0,ds,es,h1,h2,h3,l.nx _ q⟩) q⟩,λpins s σ H De I ⟨Z,E,β,⟨own,sq,n⟩,⟨⟨Tn,hb⟩,q⟩,ok⟩=>?_⟩
 refine oz (pos:=pos) (uw (apos:=ap) (cpos:=cp) PySem.F.plainAttrs_list PySem.F.slot_list_extend PySem.F.type_list_extend wt (cL (pos:=px) hN hv hd fH) (a6 (he λa=>H a=none).pe cy hs) cW jw cV hs cO) sS pins s σ H De I ?_;obtain⟨a,T6,A0,h1,h2,h3,h4⟩:=sq.zr hb;refine⟨.ref a,h1,.inl ⟨rfl,_,dO.of h2⟩,tQ.of (he λa=>H a=none) (sq.jE (C:=C.z) (U:=λa=>H a=none) λa z=>z) q λd k β' v H1 aB ⟨ek,ds,es,e1,lO,hl,q⟩ o r=>?_⟩;subst ek e1;obtain⟨A2,⟨b,us,A3,rfl,Mv,rfl,ow⟩,Cw,r3⟩:=r;obtain⟨a',vs,A,g1,g2,g3,g4⟩:=o.sq.zr lO;rw[h1]at g1;cases g1;have nd:=o.sq.l7 i;rw[g3]at nd;have off:∀c∈A3,∀c'∈A,c≠c':=λc hc c' lN z=>(r3 c (by simp[hc])).2.1 ⟨i,by rw[g3,z];simp[lN]⟩
 obtain⟨s2,hA⟩:=o.sq.putL (C:=C) (U:=λa=>H a=none) (U2:=λ_=>False) (ds':=ds++es) (vs':=vs++us) (A':=A++A3) lO h1 g2 g3 (g4.append ow)
  (VV.mpr ⟨(Vt.mp nd).2,(Vt.mp Cw).2,λx hx y hy z=>off y hy x hx z.symm⟩)
  (λc hc=>by
   rcases Vl.mp hc with hc|hc
   ·exact .inl hc
   ·have:=r3 c (by simp[hc])
    exact .inr ⟨this.2.2,this.2.1,this.1⟩) (λ_ z=>z.elim) (λc hc n z=>z)
 exact⟨a,b,vs,us,rfl,rfl,g2,Mv,by rw[g4.length,ow.length];exact hl,ok.nx _ _ _ ⟨_,s2,By (n.trans o.sn) (λb z=>n.free z) g2 (λxs z=>by cases z) ⟨i,by rw[g3];simp⟩ hA⟩ q⟩
end
end L2.Q
namespace hG
open PySem L2 L2.Q
section
variable {P:UP}{w:U1}{K:PySem.W.Frag}{mg:Str->Option UK}{base:Heap}{cA:Addr}{c:Nat->Addr}
theorem bW:aG ["one","other","a","b","c","d"] ["one","other"] (ak dg):=⟨rfl,rfl,rfl,by decide +kernel,rfl,by decide +kernel,by decide +kernel⟩
theorem my {A_ mG} (dX:D9 K mg A_ mG):aL P w K mg base bS 1 A_ mG ["one","other"] (dU P w true gm):=by
 refine oK dX.F bW (λds R Ky=> by obtain⟨t,u,e,_⟩ := Ky;subst e;rfl) λb7 A outer s H E hr=>⟨_,(aj (lx (ae (i:=0)) (dj (n:=2) rfl (aT (au (i:=2) bW.nd) (aT (au (i:=3) bW.nd) cw))))
    (aj (lx (ae (i:=1)) (dj (n:=2) rfl (aT (au (i:=4) bW.nd) (aT (au (i:=5) bW.nd) cw))))
    (ar (a5 (yI (iC (ae (i:=2)) (cU bG (ae (i:=4)) (cU bG (ae (i:=3)) (j_ bG (ae (i:=5)))))) (oA (iC (ae (i:=4)) (cU bG (ae (i:=2)) (cU bG (ae (i:=5)) (j_ bG (ae (i:=3)))))))))))),λds R h=>?_⟩
 obtain⟨t,u,rfl,⟨a,b,rfl⟩,⟨c,d,rfl⟩,q⟩:=h;refine⟨_,rfl,_,rfl,rfl,_,_,rfl,_,_,rfl,rfl,?_⟩;refine⟨_,rfl,_,rfl,rfl,_,_,rfl,_,_,rfl,rfl,?_⟩;refine Az (a:=a) (b:=c) (c:=b) (d:=d) rfl rfl rfl rfl ⟨_,rfl,NS (λh=>⟨trivial,?_⟩) (λh=>Az (a:=c) (b:=a) (c:=d) (d:=b) rfl rfl rfl rfl ⟨trivial,?_⟩)⟩
 ·have:bJ [a,b] [c,d]=true:=by show (_ || _)=true;rw[h];rfl
  rw[<- this];exact q
 ·have:bJ [a,b] [c,d]=(decide (c<a)&&(decide (a<d)&&decide (d<b))):=by show (_ || _)=_;rw[h];rfl
  rw[<- this];exact q
theorem i_:aG ["one","other"] ["one","other"] (ak b5):=⟨rfl,rfl,rfl,by decide +kernel,rfl,by decide +kernel,by decide +kernel⟩
theorem zh {Ba mH} (dS:LV K mg Ba mH):aL P w K mg base bS 1 Ba mH ["one","other"] (dU P w true lT):=by
 refine oK dS.F i_ (λds R Kx=> by obtain⟨t,u,e,_⟩ := Kx;subst e;rfl) λb7 A outer s H E hr=>⟨_,(ar (a5 (yI (oC ag (bK.m (lB hr.dQ)) (aI ag bg (ae (i:=0)) ah) (ae (i:=1))) (oA (oC ag (bK.m (lB hr.dQ)) (aI ag bg (ae (i:=0)) ah) (ae (i:=1))))))),λds R h=>?_⟩
 obtain⟨t,u,rfl,⟨a,b,rfl⟩,q⟩:=h;refine⟨_,rfl,trivial,_,rfl,trivial,_,rfl,_,o3 a u,_,rfl,mD (λh=>⟨trivial,?_⟩) (λh=>⟨_,rfl,trivial,_,rfl,trivial,_,rfl,_,o3 b u,trivial,?_⟩)⟩
 ·simpa[bD,h] using q
 ·simpa[bD,h] using q
theorem eG:aG ["row","tie","many","ties"] ["row","tie"] (ak da):=⟨rfl,rfl,rfl,by decide +kernel,rfl,by decide +kernel,by decide +kernel⟩
def iR:FD:=λds R=>∃(n:Nat) (ps:List (Nat×Nat)) (t:Nat×Nat),ds=[gU n ps,BP t]/\j5 n ps/\R (gU n (ps.filter (fB t)))
theorem iR.mono:dt iR:=λds R R' k ⟨n,ps,t,e,h,q⟩=>⟨n,ps,t,e,h,k _ q⟩
theorem wj {qL jR} (Bb:MN K mg qL jR) {Ba mH} (dS:LV K mg Ba mH) {A_ mG} (dX:D9 K mg A_ mG) (B:rP mg):aL P w K mg base bS 2 qL jR ["row","tie"] (dU P w true iR):=by
 have GX:aL P w K mg base bS 1 _ _ _ (dU P w true gm):=my dX;have GS:aL P w K mg base bS 1 _ _ _ (dU P w true lT):=zh dS;refine oK Bb.F eG (λds R Kw=> by obtain⟨n,ps,t,e,_⟩ := Kw;subst e;rfl) λb7 A outer s H E hr=>⟨_,(aj (lx (ae (i:=0)) (dj (n:=2) rfl (aT (au (i:=2) eG.nd) (aT (au (i:=3) eG.nd) cw))))
    (ar (a5 (a9 (aa (ae (i:=2)) (aa (Gp ["other","tie"] [none,some 1] (by rfl) (by decide:(["other","tie"]:List Str).Nodup) rfl (a7 (ae (i:=3))) (λ_ _ _ _ _ _=>(au (i:=0) (by decide:(["other","tie"]:List Str).Nodup))) (λ_ _ _ _ _ _=>(eD (pB.t (iA (iB (dh (aW lT.mono GS (hr.mono (by decide)) dS.m dS.F.kp dS.b (aa (ae (i:=1)) (aa (ae (i:=0)) af))))) (f9 (iB (dh (aW gm.mono GX (hr.mono (by decide)) dX.m dX.F.kp dX.b (aa (ae (i:=1)) (aa (ae (i:=0)) af)))))))))) (λ_ _ _ _ _ _=>(ae (i:=0)))) af)))))),λds R h=>?_⟩
 obtain⟨n,ps,t,rfl,ok,q⟩:=h;refine⟨_,rfl,_,rfl,rfl,_,_,rfl,_,_,rfl,rfl,?_⟩;have H9:=ok.sm;refine⟨_,rfl,trivial,_,rfl,_,rfl,trivial,dD (fB t) (λp=>kD (tI p)) trivial (bU (by lia)) (λo ho x0 ou J rJ j1 j2=>?_) ?_⟩
 ·refine⟨_,rfl,trivial,_,rfl,trivial,tI t,tI o,rfl,⟨_,_,rfl⟩,_,rfl,?_⟩;unfold fB at j1 j2;cases z1:bD (tI t) (tI o)with
  |true=>exact fN rfl (fN rfl (j2 (by rw[z1];rfl) _))
  |false =>
   refine mC rfl ⟨_,rfl,trivial,_,rfl,trivial,tI t,tI o,rfl,⟨_,_,rfl⟩,⟨_,_,rfl⟩,_,rfl,?_⟩;cases z2:bJ (tI t) (tI o)with
   |true=>exact fN rfl (j2 (by rw[z1,z2];rfl) _)
   |false=>exact mC rfl ⟨_,rfl,rfl,rJ,j1 (by rw[z1,z2];rfl) _⟩
 exact⟨trivial,gJ,trivial,q⟩
theorem mv:aG ["row","tie"] ["row","tie"] (ak cq):=⟨rfl,rfl,rfl,by decide +kernel,rfl,by decide +kernel,by decide +kernel⟩
def Lu (c:Nat->Addr):LR:=λds R T=>∃(n:Nat) (ps:List (Nat×Nat)) (t:List Int),ds=[gU n ps,kD t]/\j5 n ps/\n<=40/\(t∉ps.map tI->T (c 1))/\∀p,p∈ps->t=tI p->R (.int (sT (ps.filter (fB p)) n 0))
theorem Lu.mono:EM (Lu c):=λds R R' T T' k l ⟨n,ps,t,e,h1,h2,h3,q⟩=>⟨n,ps,t,e,h1,h2,λz=>l _ (h3 z),λp a b=>k _ (q p a b)⟩
theorem Jz {tf nD} (EE:PD K mg tf nD) {qL jR} (Bb:MN K mg qL jR) {Ba mH} (dS:LV K mg Ba mH) {A_ mG} (dX:D9 K mg A_ mG) {qN jT} (Bd:D8 K mg qN jT) {mI gM} (xE:D7 K mg mI gM) {j3 fK} (vh:D3 K mg j3 fK) {j0 fJ} (vg:D2 K mg j0 fJ) {jZ fI} (vf:D6 K mg jZ fI) {gk cY} (pz:D5 K mg gk cY) {iO d_} (rL:D4 K mg iO d_) (B:rP mg) (ZA:XA K mg cA c):aL P w K mg base (ER P w) 5 tf nD ["row","tie"] (Bv P w true (Lu c)):=by
 have TJ:aL P w K mg base bS 2 _ _ _ (dU P w true iR):=wj Bb dS dX B;have TY:aL P w K mg base bS 4 _ _ _ (dU P w true iQ):=Cp Bd xE vh vg vf pz rL B;refine Nw EE.F mv (λds R T Kv=> by obtain⟨n,ps,t,e,_⟩ := Kv;subst e;rfl) λb7 A outer s H E hr=>?_
 have Z:=xG (P:=P) (w:=w) (K:=K) (mg:=mg) (base:=base) (N:=["row","tie"]) (qual:="count_with") (scope:=ak cq) (f:=tf) (cd:=b7) (A:=A) (outer:=outer) (s:=s) (H:=H) (E:=E);refine⟨_,(aj (c7 (aJ ag (bK.m (jg hr.dQ)) (ae (i:=1)) (aI ag bg (ae (i:=0)) ah)) (ar (yV Z rfl (XA.x ZA 1))) bx)
    (o_.sF (ar (a5 (aW iQ.mono TY (hr.mono (by decide)) Bd.m Bd.F.kp Bd.b (aa (aW iR.mono TJ (hr.mono (by decide)) Bb.m Bb.F.kp Bb.b (aa (ae (i:=0)) (aa (ae (i:=1)) af))) af)))))),λds R h=>?_⟩
 obtain⟨n,ps,t,rfl,ok,hn,hx,q⟩:=h;have A9:jy (kD t) (dJ ps)=some (.bl (!decide (t∈ps.map tI))):=by
  have:=g6 t (ps.map tI);rw[VB]at this;exact this
 refine⟨_,rfl,trivial,_,rfl,trivial,_,rfl,.inr ⟨_,A9,_,rfl,?_⟩⟩
 by_cases ht:t∈ps.map tI
 ·refine fN (by rw[decide_eq_true ht];rfl) ?_
  obtain⟨p,hp,rfl⟩:=Vv.mp ht;exact⟨_,rfl,trivial,_,rfl,trivial,n,ps,p,rfl,ok,trivial,n,_,rfl,gZ ok _,hn,trivial,q p hp rfl⟩
 ·exact mC (by rw[decide_eq_false ht];rfl) (hx ht)
end
end hG
namespace L2.Q
open PySem PySem.Spec PySem.SeqAt PyProof.Rows
section
variable {X:Cx}{C:Cfg}{p p':Bool}{a b:Expr}{φa φb:aQ}{g:D->D->Option D}{name:Str}{id:String}{apos cpos:Pos}
def Nq (g:D->D->Option D)(pb:Bool)(φa φb:aQ):aQ:=λβ R=>φa β λx ka β1=>(∃ds,x=.lst ds)/\hold ka pb/\φb β1 λy kb β2=>∃d,g x y=some d/\kN NF d (ka.max kb) λk=>R d k β2
abbrev HM (X:Cx)(id:String)(g:D->D->Option D):Prop:=Pr X id λx xs H Q=>∃y,xs=[y]/\vT X g NF x y H Q
theorem DV (slot:Slot "list" name id) (J8:typeOf (.builtin id)=pure (.type "method_descriptor")) (hm:HM X id g) (ha:PQ X C p a φa) (hb:PQ X C p' b φb)
  (cW:Wz a name X.env (eval a X.env)=eval a X.env:=by rfl)
  (jw:((V6 cpos (US [b] X.env)).all (λx=>!x.1)&&(Yu cpos (XJ [] X.env)).all (λx=>x.1.isSome)
   && decide ([b].length+([]:List Xi).length+(if ([]:List Xi).isEmpty then 0 else 1)<30))=true:=by rfl)
  (cV:(apos.endLine==cpos.line)=true:=by rfl) (hs:US [b] X.env=(false,eval b X.env)::US [] X.env:=by rfl) (cO:(V6 cpos (US [] X.env)).any (·.1)=false:=by rfl) :
  PQ X C (p&&p') (.Call (.Attribute a name apos) [b] [] cpos) (Nq g p' φa φb) :=
 ⟨λβ R R' k h=>ha.mono β _ _ (λx ka β1 hx=>⟨hx.1,hx.2.1,hb.mono β1 _ _ (λy kb β2 hq=>by obtain⟨d,e,q⟩:=hq;exact⟨d,e,q.mono λ_ z=>k _ _ _ z⟩) hx.2.2⟩) h,
  (uw PySem.F.plainAttrs_list slot J8 hm ha.pe (a6 hb.pe cy (hs:=hs)) cW jw cV hs cO).pre λσ H Q hq=>by
    obtain⟨β,own,s,h⟩:=hq;refine tQ.of ha s h λd1 k1 β1 v1 H1 aB hx o1 r1=>?_;obtain⟨⟨ds,rfl⟩,hh,h1⟩:=hx;refine⟨?_,tQ.of hb o1.sq h1 λd2 k2 β2 v2 H2 aZ zP o2 r2=>?_⟩
    · obtain⟨l,vs,rfl,hl,_⟩:=r1.rep;exact .inl ⟨rfl,vs,dO.of hl⟩
    · obtain⟨d,e,q⟩:=zP;have HW:=r1.ho o2 hh;refine⟨v2,rfl,av C (Wn aZ) (k1.max k2),.lst ds,d2,d,o2.sq.Ak _,ay.aO cD HW.rep,ay.aO eg r2.rep,e,λv H' s3 r3 n3=>?_⟩;have o:=(o1.trans o2).same s3;obtain⟨k,q,r⟩:=KV.kN (Z:=(H,Wn own)) zq r3 (λn=>gz (H:=H2) o2.sq.pq o2.sq.fP (λa z=>o2.sn.d a (o1.sn.d a z)) (ag.nl _ n) (n3 n)) q;exact q v H' aZ o r⟩
end
end L2.Q
namespace L2
open PySem PySem.Spec PySem.SeqAt PyProof.Rows
def Au:List D->Option (List Bool)
 |[]=>some []
 |.bl b::ds=>(Au ds).map (b::·)
 |_::_=>none
theorem o4:∀{ds:List D} {bs:List Bool},Au ds=some bs->ds=bs.map D.bl
 |[],_,h=>by cases h;rfl
 |d::ds,bs,h=>by
  cases d with
  |bl b =>
   obtain⟨r,h1,rfl⟩:=U3.mp (show (Au ds).map (b::·)=some bs from h)
   rw[o4 h1];rfl
  |_=>cases h
section
variable {P:UP}{w:U1}{W:Addr->Prop}{H:Hp}
theorem pS:∀{bs:List Bool} {vs:List V},ai P w W H (bs.map D.bl) vs->vs=bs.map V.bl
 |[],_,h=>h
 |b::bs,_,⟨v,r,e,h1,h2⟩=>by rw[e,show v=.bl b from h1,pS h2];rfl
end
theorem pE:∀{bs:List Bool} {us:List UK},Vals (bs.map V.bl) us->us=bs.map Value.bool
 |[],_,.nil=>rfl
 |b::bs,_,.cons r q=>by rw[Vd,<- pE q,show _=Value.bool b from r]
namespace Q
section
end
end Q
end L2
namespace L2.Q
open PySem PySem.Spec PySem.SeqAt PyProof.Rows
def _root_.L2.D.Pj:D->Option Bool
 |.bl b=>some b
 |_=>none
theorem D.AK {d:D}{b:Bool}(h:d.Pj=some b):d=.bl b:=by cases d <;> first|(cases h;rfl)|cases h
section
variable {X:Cx}{C:Cfg}{p p':Bool}{a b:Expr}{φa φb:aQ}{apos cpos:Pos}
def wL (k:Bool):UK->Bool
 |.bool b=>b==k
 |_=>false
theorem u9 (k:Bool){A:VO}{s:UL}{bs:List Bool}{y:UK}(hy:y∈bs.map Value.bool):EqAt A s y (.bool k) (wL k y):=by
 obtain⟨b,_,rfl⟩:=Vv.mp hy;exact EqAt.bool_bool b k
def EF (a b:D):Option D:=a.zt.bind λds=>(Au ds).bind λbs=>b.Pj.map λk=>.int (bs.count k:Nat)
def ED (a b:D):Option D:=a.zt.bind λds=>(Au ds).bind λbs=>b.Pj.bind λk=>if k∈bs/\bs.length<=UW then some (.int (bs.idxOf k:Nat)) else none
theorem AJ {pins:List (Addr×Obj)}{s:UL}{σ:St}{H:Hp}{W:Addr->Prop}{bs:List Bool}{x:V}{v:UK}(I:Inv X pins σ H s)(rx:RelV x v)(r1:Rp X W H (.lst (bs.map D.bl)) x):
  ∃l dd n sl,v=.ref l/\s.heap.get? l=some ⟨.type "list",dd,.seq (bs.map Value.bool).toArray n,sl⟩:=by
 obtain⟨l,vs,rfl,hl,_,rv⟩:=r1;rw[pS rv]at hl;cases (show v=.ref l from rx)
 obtain⟨_,its,n,r',ho⟩:=I.bo l _ hl;rw[pE r']at ho;exact⟨l,_,n,_,rfl,ho⟩
theorem wu:HM X "list.count" EF:=by
 intro pins s σ H x xs v us Q I rx rs h;obtain⟨y,rfl,W,d1,d2,d,hd,r1,r2,e,q⟩:=h;obtain⟨ds,e1,e2⟩:=Vf.mp e;obtain⟨bs,e3,e4⟩:=Vf.mp e2;obtain⟨k,e5,rfl⟩:=U3.mp e4;rw[D.ki e1,o4 e3]at r1;rw[D.AK e5]at r2;obtain⟨l,dd,n,sl,rfl,ho⟩:=AJ I rx r1;obtain⟨u,rfl,ru⟩:=vals1 rs;cases (show y=.bl k from r2)
 cases ru;refine X6 PySem.F.slot_list_count ⟨_,ho,rfl⟩ PySem.F.entry_list_count (PySem.F.args_list_count_2 _ _) (list_countAt l (bs.map Value.bool).toArray n dd sl (.bool k) (wL k)) ⟨ho,λy hy=>u9 k (by simpa using hy),?_⟩
 have ec:(bs.map Value.bool).countP (wL k)=bs.count k:=by
  rw[List.countP_map];rfl
 rw[show (bs.map Value.bool).toArray.toList=bs.map Value.bool from rfl,ec]
 exact⟨.int (bs.count k:Nat),H,I.tok _,⟨_,rfl⟩,q _ _ (aw.refl _) rfl λ_=>rfl⟩
theorem wq:HM X "list.index" ED:=by
 intro pins s σ H x xs v us Q I rx rs h;obtain⟨y,rfl,W,d1,d2,d,hd,r1,r2,e,q⟩:=h;obtain⟨ds,e1,e2⟩:=Vf.mp e;obtain⟨bs,e3,e4⟩:=Vf.mp e2;obtain⟨k,e5,e6⟩:=Vf.mp e4;obtain⟨⟨hk,hz⟩,rfl⟩:=cC e6;rw[D.ki e1,o4 e3]at r1;rw[D.AK e5]at r2;obtain⟨l,dd,n,sl,rfl,ho⟩:=AJ I rx r1;obtain⟨u,rfl,ru⟩:=vals1 rs;cases (show y=.bl k from r2)
 cases ru;have hj:bs.idxOf k<bs.length:=List.idxOf_lt_length_iff.mpr hk;have hsz:UW<2 ^ 63-1:=by decide
 refine X6 PySem.F.slot_list_index ⟨_,ho,rfl⟩ PySem.F.entry_list_index (PySem.F.args_list_index_2 _ _) (list_indexAt l (bs.map Value.bool).toArray n dd sl (.bool k) (wL k) (bs.idxOf k) (by simpa using hj) (by lia) ?_ ?_)
  ⟨ho,λy hy=>u9 k (by simpa using hy),⟨.int (bs.idxOf k:Nat),H,I.tok _,⟨_,rfl⟩,q _ _ (aw.refl _) rfl λ_=>rfl⟩⟩
 ·simp[wL]
 ·intro m hm fG;have Ut:m<bs.length:=by simpa using hm
  have:=List.not_of_lt_findIdx (p:=(·==k)) (xs:=bs) fG;simpa[wL] using this
theorem vX (ha:PQ X C p a φa) (hb:PQ X C p' b φb) (cW:Wz a "count" X.env (eval a X.env)=eval a X.env:=by rfl)
  (jw:((V6 cpos (US [b] X.env)).all (λx=>!x.1)&&(Yu cpos (XJ [] X.env)).all (λx=>x.1.isSome)
   && decide ([b].length+([]:List Xi).length+(if ([]:List Xi).isEmpty then 0 else 1)<30))=true:=by rfl)
  (cV:(apos.endLine==cpos.line)=true:=by rfl) (hs:US [b] X.env=(false,eval b X.env)::US [] X.env:=by rfl) (cO:(V6 cpos (US [] X.env)).any (·.1)=false:=by rfl) :
  PQ X C (p&&p') (.Call (.Attribute a "count" apos) [b] [] cpos) (Nq EF p' φa φb):=DV PySem.F.slot_list_count PySem.F.type_list_count wu ha hb cW jw cV hs cO
theorem vW (ha:PQ X C p a φa) (hb:PQ X C p' b φb) (cW:Wz a "index" X.env (eval a X.env)=eval a X.env:=by rfl)
  (jw:((V6 cpos (US [b] X.env)).all (λx=>!x.1)&&(Yu cpos (XJ [] X.env)).all (λx=>x.1.isSome)
   && decide ([b].length+([]:List Xi).length+(if ([]:List Xi).isEmpty then 0 else 1)<30))=true:=by rfl)
  (cV:(apos.endLine==cpos.line)=true:=by rfl) (hs:US [b] X.env=(false,eval b X.env)::US [] X.env:=by rfl) (cO:(V6 cpos (US [] X.env)).any (·.1)=false:=by rfl) :
  PQ X C (p&&p') (.Call (.Attribute a "index" apos) [b] [] cpos) (Nq ED p' φa φb):=DV PySem.F.slot_list_index PySem.F.type_list_index wq ha hb cW jw cV hs cO
end
theorem Dn (a b:Str)(ha:(D.str a).oh=true:=by decide +kernel)(hb:(D.str b).oh=true:=by decide +kernel):Bc (.str a) (.str b)=some (.bl (!decide (a=b))):=by
 unfold Bc;rw[if_pos ⟨ha,hb⟩];show some (D.bl (!(a==b)))=_;rw[show (a==b)=decide (a=b) from Bool.eq_iff_iff.mpr (by rw[beq_iff_eq,decide_eq_true_iff])]
end L2.Q
namespace hG
open PySem L2 L2.Q
section
variable {P:UP}{w:U1}{K:PySem.W.Frag}{mg:Str->Option UK}{base:Heap}{c:Nat->Addr}
theorem AA {β:Q.a3}{φ1 φ2 φ3 φ4:aQ}{a b c d:Int}{R:D->Kd->Q.a3->Prop}(h1:∀R:D->Kd->Q.a3->Prop,R (.int a) .own β->φ1 β R)(h2:∀R:D->Kd->Q.a3->Prop,R (.int b) .own β->φ2 β R)(h3:∀R:D->Kd->Q.a3->Prop,R (.int c) .own β->φ3 β R)(h4:∀R:D->Kd->Q.a3->Prop,R (.int d) .own β->φ4 β R)
  (q:R (.bl (decide (a<b)&&(decide (b<c)&&decide (c<d)))) .own β):sj φ1 (yv Hu φ2 (yv Hu φ3 (Fz Hu φ4))) β R:=by
 refine h1 _ (h2 _ ⟨_,rfl,mD (λz1=>h3 _ ⟨_,rfl,mD (λz2=>h4 _ ⟨_,rfl,?_⟩) (λz2=>?_)⟩) (λz1=>?_)⟩)
 ·simpa[z1,z2] using q
 ·simpa[z1,z2] using q
 ·simpa[z1] using q
theorem mq:aG ["row"] ["row"] (ak de):=⟨rfl,rfl,rfl,by decide +kernel,rfl,by decide +kernel,by decide +kernel⟩
theorem wg {Dd u3} (Ir:Ra K mg Dd u3) (B:Bs mg):aL P w K mg base bS 1 Dd u3 ["row"] (dU P w true qU):=by
 refine oK Ir.F mq (λds R Ku=> by obtain⟨n,ps,e,_⟩ := Ku;subst e;rfl) λb7 A outer s H E hr=>⟨_,(ar (a5 (a9 (aa (aI ag bg (ae (i:=0)) ah) (aa (mZ aV rm B.list DF (aa (aI ag bg (ae (i:=0)) ah) af)) af))))),λds R h=>?_⟩
 obtain⟨n,ps,rfl,q⟩:=h;exact⟨_,rfl,trivial,_,rfl,trivial,_,rfl,trivial,_,rfl,.inr ⟨trivial,_,rfl,.inl ⟨qI,trivial,gJ,trivial,q⟩⟩⟩
theorem jX:aG ["one","other"] ["one","other"] (ak cn):=⟨rfl,rfl,rfl,by decide +kernel,rfl,by decide +kernel,by decide +kernel⟩
theorem F7 {mJ gN} (xb:LU K mg mJ gN):aL P w K mg base bS 1 mJ gN ["one","other"] (dU P w true gm):=by
 refine oK xb.F jX (λds R Kt=> by obtain⟨t,u,e,_⟩ := Kt;subst e;rfl) λb7 A outer s H E hr=>⟨_,(ar (a5 (yI (iC (aI ag bg (ae (i:=0)) ah) (cU bG (aI ag bg (ae (i:=1)) ah) (cU bG (aI ag bg (ae (i:=0)) ah) (j_ bG (aI ag bg (ae (i:=1)) ah))))) (oA (iC (aI ag bg (ae (i:=1)) ah) (cU bG (aI ag bg (ae (i:=0)) ah) (cU bG (aI ag bg (ae (i:=1)) ah) (j_ bG (aI ag bg (ae (i:=0)) ah))))))))),λds R h=>?_⟩
 obtain⟨t,u,rfl,⟨a,b,rfl⟩,⟨c,d,rfl⟩,q⟩:=h;refine AA (a:=a) (b:=c) (c:=b) (d:=d) (λR h=>⟨_,rfl,trivial,_,rfl,h⟩) (λR h=>⟨_,rfl,trivial,_,rfl,h⟩) (λR h=>⟨_,rfl,trivial,_,rfl,h⟩) (λR h=>⟨_,rfl,trivial,_,rfl,h⟩) ⟨_,rfl,NS (λh=>⟨trivial,?_⟩) (λh=>AA (a:=c) (b:=a) (c:=d) (d:=b) (λR h=>⟨_,rfl,trivial,_,rfl,h⟩) (λR h=>⟨_,rfl,trivial,_,rfl,h⟩) (λR h=>⟨_,rfl,trivial,_,rfl,h⟩) (λR h=>⟨_,rfl,trivial,_,rfl,h⟩) ⟨trivial,?_⟩)⟩
 ·have:bJ [a,b] [c,d]=true:=by show (_ || _)=true;rw[h];rfl
  rw[<- this];exact q
 ·have:bJ [a,b] [c,d]=(decide (c<a)&&(decide (a<d)&&decide (d<b))):=by show (_ || _)=_;rw[h];rfl
  rw[<- this];exact q
def lV:FD:=λds R=>∃(ts:List (List Int)) (t:List Int),ds=[.lst (ts.map kD),kD t]/\Pairs ts/\Pair t/\R (.bl (ts.all λu=>!bD u t&&!bJ u t))
theorem lV.mono:dt lV:=λds R R' k h=>by obtain⟨ts,t,e,h1,h2,q⟩:=h;exact⟨ts,t,e,h1,h2,k _ q⟩
theorem jJ:aG ["some","tie","one"] ["some","tie"] (ak fm):=⟨rfl,rfl,rfl,by decide +kernel,rfl,by decide +kernel,by decide +kernel⟩
theorem uD {qM jS} (vj:MM K mg qM jS) {mJ gN} (xb:LU K mg mJ gN):aL P w K mg base bS 2 qM jS ["some","tie"] (dU P w true lV):=by
 have TZ:aL P w K mg base bS 1 _ _ _ (dU P w true gm):=F7 xb;refine oK vj.F jJ (λds R Ks=> by obtain⟨ss,p,e,_⟩ := Ks;subst e;rfl) λb7 A outer s H E hr=>⟨_,(aj (c4 VS rfl (a7 (ae (i:=0))) (au (i:=2) jJ.nd) (ar (c7 (pB.t (gX (aJ ag (bK.m (lB hr.dQ)) (aI ag bg (ae (i:=2)) ah) (ae (i:=1))) (gX (aJ ag (bK.m (lB hr.dQ)) (aI ag bg (ae (i:=2)) ah) (ae (i:=1))) (iy (dh (aW gm.mono TZ (hr.mono (by decide)) xb.m xb.F.kp xb.b (aa (ae (i:=2)) (aa (ae (i:=1)) af)))))))) (ar (a5 jN)) bx)))
    (ar (a5 jN))),λds R h=>?_⟩
 obtain⟨ts,t,rfl,hp,ht,q⟩:=h;refine⟨_,rfl,_,rfl,trivial,?_⟩;refine⟨λm β=>(∃x2,β=[some (.val false (.lst (ts.map kD))),some (.val false (kD t)),x2])/\(ts.take m).all (λu=>!bD u t&&!bJ u t)=true,⟨⟨_,rfl⟩,by rfl⟩,?_,?_⟩
 ·rintro m d β hd ⟨⟨x2,rfl⟩,hm⟩;rw[U8]at hd;obtain⟨u,hu,rfl⟩:=U3.mp hd;have um:=Vx hu;obtain⟨a,b,rfl⟩:=hp u um;have bad:(!bD [a,b] t&&!bJ [a,b] t)=false->R (.bl false):=λz=>by
   have e:ts.all (λu=>!bD u t&&!bJ u t)=false:=List.all_eq_false.mpr ⟨_,um,by rw[z];exact VX⟩
   rw[e]at q;exact q
  refine⟨_,rfl,trivial,_,rfl,trivial,_,rfl,_,o3 a t,_,rfl,mD (λz=>mC rfl ⟨trivial,bad ?_⟩) (λz=>⟨_,rfl,trivial,_,rfl,trivial,_,rfl,_,o3 b t,_,rfl,mD (λz2=>mC rfl ⟨trivial,bad ?_⟩) (λz2=>⟨_,rfl,trivial,_,rfl,trivial,[a,b],t,rfl,⟨_,_,rfl⟩,ht,_,rfl,NS (λz3=>⟨trivial,bad ?_⟩) (λz3=>⟨⟨_,rfl⟩,?_⟩)⟩)⟩)⟩
  ·rw[b8.mpr ⟨a,by simp,z⟩];rfl
  ·rw[b8.mpr ⟨b,by simp,z2⟩];rfl
  ·rw[z3,Bool.not_true,Wj]
  ·have hs:bD [a,b] t=false:=Wo.mpr λh=>by
    obtain⟨i,h1,h2⟩:=b8.mp h;rcases UQ.mp h1 with rfl|h1
    ·exact z h2
    ·rw[UX.mp h1]at h2;exact z2 h2
   rw[V0,hu,List.all_append,hm,Bool.true_and];show ((!bD [a,b] t&&!bJ [a,b] t)&&true)=true;rw[hs,z3];rfl
 ·rintro β ⟨⟨x2,rfl⟩,hm⟩;rw[UN,WC]at hm;rw[hm]at q;exact⟨trivial,q⟩
end
end hG
namespace L2
open PySem PySem.Spec PySem.SeqAt PyProof.Rows L2.Q
theorem Bm {ns:List (Nat×Nat)}:dJ ns=.lst ((ns.map tI).map kD):=by
 unfold dJ;rw[VB];rfl
theorem Bn {bs:List (Nat×Nat)}{p:Nat×Nat}(h:bs.length<=1000):Av (dJ bs) (.lst [kD (tI p)])=some (.lst ((bs++[p]).map BP)):=by
 rw[Vb];exact lY (by rw[UN];show _+1<=_;lia)
theorem qu:∀t u:List Int,HP.c9 t u=HT.lexLt u t
 |[],[]=>rfl
 |[],_::_=>rfl
 |_::_,[]=>rfl
 |x::xs,y::ys=>by
  rw[HP.qv,HT.cb,qu xs ys]
  by_cases h:x=y
  ·rw[if_pos h,if_pos h.symm]
  ·rw[if_neg h,if_neg λe=>h e.symm]
theorem Dz (t u:List Int):LD (kD t) (kD u)=some (.bl (HT.lexLt u t)):=by
 show (match cj (t.map D.int),cj (u.map D.int)with|some ns,some ms=>some (D.bl (HP.c9 ns ms))|_,_=>none)=_
 rw[jq,jq];show some (D.bl (HP.c9 t u))=_;rw[qu]
theorem Hq:Lz (.int 10) (.int 15)=some (.int (10 ^ 15)):=by
 show (if xt 10 15 then _ else none)=_
 rw[if_pos (by decide)]
 rfl
theorem w_ (ps:List (Nat×Nat)):Bc (.lst (ps.map λp=>kD (tI p))) (.lst [])=some (.bl (!decide (ps=[]))):=by
 have:=An (ps.map tI) [];rw[VB]at this;refine this.trans ?_;cases ps <;> rfl
end L2
namespace hG
open PySem L2 L2.Q
def qP:FD:=λds R=>∃(n:Nat) (ps:List (Nat×Nat)),ds=[gU n ps]/\j5 n ps/\n<=8/\xp ps/\R (.lst ((u6 ps n (sa ps n 0)).map dJ))
theorem qP.mono:dt qP:=λds R R' k h=>by obtain⟨n,ps,e,h1,h2,h3,q⟩:=h;exact⟨n,ps,e,h1,h2,h3,k _ q⟩
section
variable {P:UP}{w:U1}{K:PySem.W.Frag}{mg:Str->Option UK}{base:Heap}
theorem cT:aG ["row","found","pile","some","later"] ["row"] (ak fg):=⟨rfl,rfl,rfl,by decide +kernel,rfl,by decide +kernel,by decide +kernel⟩
theorem Cj {C8 uW} (Il:Q_ K mg C8 uW) {qM jS} (vj:MM K mg qM jS) {mJ gN} (xb:LU K mg mJ gN) (B:rP mg):aL P w K mg base bS 3 C8 uW ["row"] (dU P w false qP):=by
 have Px:aL P w K mg base bS 2 _ _ _ (dU P w true lV):=uD vj xb;refine oK Il.F cT (λds R Kr=> by obtain⟨n,ps,e,_⟩ := Kr;subst e;rfl) λb7 A outer s H E hr=>⟨_,(aj (B5 (i:=1) (λ_=>af) cT.nd)
    (aj (kc (i:=2) (λ_=>(ba (aa (ba af) af))) cT.nd)
    (aj (yU VS (aJ ag (bK.m (jh hr.units)) (ae (i:=2)) (ba af)) (aj (aR (i:=3) (FF (i:=2)) cT.nd)
    (aj (B6 (i:=1) (λ_=>(ae (i:=3))))
    (aj (vO (i:=4) false ["tie","some"] [none,some 3] (by rfl) (by decide:(["tie","some"]:List Str).Nodup) rfl (λ_=>(a7 (aI ag bg (ae (i:=0)) ah))) (λ_ _ _ _ _ _=>(au (i:=0) (by decide:(["tie","some"]:List Str).Nodup))) (λ_ _ _ _ _ _=>(eD (pB.t (gX (aJ ag (bK.m (gd hr.units)) (ae (i:=1)) (ba af)) (iy (aJ ag (bK.m (Ce hr.E4)) (ae (i:=0)) (aI ag bg (ae (i:=1)) (lj e9 ah)))))))) (λ_ _ _ _ _ _=>(ae (i:=0))) cT.nd)
    (ar (sD (i:=2) (λ_=>(Gp ["tie","some"] [none,some 3] (by rfl) (by decide:(["tie","some"]:List Str).Nodup) rfl (a7 (BQ (ae (i:=4)))) (λ_ _ _ _ _ _=>(au (i:=0) (by decide:(["tie","some"]:List Str).Nodup))) (λ_ _ _ _ _ _=>(eD (dh (aW lV.mono Px (hr.mono (by decide)) vj.m vj.F.kp vj.b (aa (ae (i:=1)) (aa (ae (i:=0)) af)))))) (λ_ _ _ _ _ _=>(aN aV aF (ae (i:=1)) (ba (aa (ae (i:=0)) af))))))))))))
    (ar (a5 (BS (i:=1))))))),λds R h=>?_⟩
 obtain⟨n,ps,rfl,ok,hn,hs,q⟩:=h;have hp:∀p∈ps,p.1<p.2:=λp h=>(ok.lt p h).1;have hN:sa ps n 0<=362880:=by
  have h1:=pP hp ok.nd n 0;have h2:=eX (show n+1<=9 by lia)
  have h3:l8 9=362880:=by decide
  lia
 refine⟨rfl,U4 _,by show 1<5;decide,?_⟩
 refine⟨U4 _,trivial,yd,trivial,?_⟩;refine⟨λv β=>∃m pl x3 x4,β=[some (.val false (gU n ps)),some (.shl true (.lst ((u6 ps n m).map dJ))),some (.own (.lst (pl.map dJ))),x3,x4]/\eK ps n m pl.reverse/\v=sa ps n 0-m,⟨_,0,[[]],none,none,rfl,Jr,rfl⟩,?_⟩;rintro v β ⟨m,pl,x3,x4,rfl,hpl,rfl⟩;have Qx:=lr hp hpl;refine⟨_,rfl,trivial,U4 _,_,Dp pl [],_,rfl,?_⟩
 by_cases G7:pl=[]
 ·subst G7;have hm:m=sa ps n 0:=hpl;subst hm;exact fN rfl ⟨_,rfl,trivial,q⟩
 ·refine mC (by rw[decide_eq_false G7];rfl) ?_
  obtain⟨s,r,er⟩:∃s r,pl.reverse=s::r:=by
   cases e:pl.reverse with
   |nil=>exact absurd (List.reverse_eq_nil_iff.mp e) G7
   |cons s r=>exact⟨s,r,rfl⟩
  have Tj:pl=r.reverse++[s]:=by rw[<- XO pl,er,Xx]
  rw[er]at hpl;obtain⟨Ur,es⟩:=yO hp ok.nd hs hpl;obtain⟨hv,em,l,ew,_⟩:=id hpl;have nv:=vZ hp hs hpl ew;have Ml:=E3 ok hv;subst Tj;rw[Vb];refine⟨r.reverse.map dJ,dJ s,rfl,?_⟩;refine⟨⟨_,rfl⟩,_,rfl,trivial,_,rfl,?_,?_⟩
  ·rw[UN];unfold u6;rw[UN,V1];rw[Wd];lia
  have H9:=ok.sm;refine⟨_,rfl,trivial,_,rfl,.inr ⟨_,rfl,trivial,dD (cA s) (λp=>kD (tI p)) trivial (bU (by lia)) (λo ho x0 ou J rJ j1 j2=>?_) ?_⟩⟩
  ·refine⟨_,rfl,trivial,U4 _,_,DB s [],_,rfl,mD (λh1=>?_) λh1=>?_⟩
   ·exact mC rfl ⟨_,rfl,rfl,rJ,j1 (by rw[h1];rfl) _⟩
   ·obtain⟨s0,z,e⟩:∃s0 z,s=s0++[z]:=⟨s.dropLast,s.getLast h1,(List.dropLast_concat_getLast h1).symm⟩;have ez:xa (dJ s) (.int (-1))=some (kD (tI z)):=by
     rw[e];unfold dJ;rw[Vb];exact Ap
    have ec:cA s o=iY z o:=by
     unfold cA;rw[e,List.getLast?_append,List.getLast?_singleton];rfl
    refine⟨_,rfl,trivial,_,rfl,trivial,_,rfl,rfl,_,ez,_,Dz _ _,_,rfl,?_⟩;cases q2:iY z o with
    |true=>exact mC q2 ⟨_,rfl,rfl,rJ,j1 (by rw[ec,q2]) _⟩
    |false=>exact fN q2 (j2 (by rw[ec,q2]) _)
  have Ti:EA (.lst ((ps.filter (cA s)).map λp=>kD (tI p)))=some (.lst ((ps.filter (cA s)).reverse.map λp=>kD (tI p))):=by
   show some (D.lst _)=_;rw[List.map_reverse]
  have hle:=VD (cA s) ps;refine⟨⟨_,rfl⟩,_,rfl,_,Ti,.inr ⟨_,rfl,trivial,dD (cB s) (λo=>dJ (s++[o])) trivial (bU (by rw[XY];lia)) (λo ho x0 ou J rJ j1 j2=>?_) ?_⟩⟩
  ·have Uo:o∈ps:=(Vk.mp (List.mem_reverse.mp ho)).1;refine⟨_,rfl,trivial,_,rfl,trivial,s.map tI,tI o,by rw[Bm],λu hu=>?_,⟨_,_,rfl⟩,_,rfl,?_⟩
   ·obtain⟨p,_,rfl⟩:=Vv.mp hu;exact⟨_,_,rfl⟩
   have et:Av (dJ s) (.lst [kD (tI o)])=some (dJ (s++[o])):=Bn (by lia)
   cases q2:cB s o with
   |true=>exact mC q2 ⟨_,rfl,trivial,_,rfl,trivial,yd,.inl ⟨⟨rfl,trivial⟩,_,et,.inl ⟨qI,trivial,rJ,j1 q2 _⟩⟩⟩
   |false=>exact fN q2 (j2 q2 _)
  rw[Hl ok hv ew];have OH:=lr hp nv;rw[Vr,UN]at OH;refine⟨rfl,_,_,rfl,rfl,?_,sa ps n 0-(m+1),by lia,m+1,r.reverse++(Bo ps l).reverse.map (λo=>s++[o]),some (.val true (dJ s)),some (.val true (.lst ((ps.filter (cA s)).map λp=>kD (tI p)))),?_,?_,rfl⟩
  ·rw[UN,UN,XY,XY,Wd];lia
  ·rw[Ad,Vb,Vb,VB,<- es];rfl
  ·rw[YA,XO,<- List.map_reverse,XO];exact nv
end
end hG
namespace L2.Q
open PySem PySem.Spec PySem.SeqAt PyProof.Rows
structure Tb (T:Nat->Nat->Int)(kvs:List (List Int×D))(n i J:Nat):Prop where
 ge:∀a b,a<=b->b<=n->(i<a\/(a=i/\b<J))->fR kvs (tI (a,b))=some (.int (T a b))
 no:∀a b,¬ (i<a\/(a=i/\b<J))->fR kvs (tI (a,b))=none
 len:kvs.length<=(n+1-i)*100+(J-i)
theorem x_ {T:Nat->Nat->Int}{kvs:List (List Int×D)}{n i J:Nat}(k:Tb T kvs n i J)(hJ:i<=J):fR kvs (tI (i,J))=none/\Tb T (kvs++[(tI (i,J),.int (T i J))]) n i (J+1):=by
 have hn:fR kvs (tI (i,J))=none:=k.no i J (by lia)
 refine⟨hn,λa b Ii hb d=>?_,λa b d=>?_,by have:=k.len;rw[Vr];show _+1<=_;lia⟩
 ·rw[mQ hn]
  by_cases e:tI (a,b)=tI (i,J)
  ·have e2:=eE e;injection e2 with e3 e4
   rw[if_pos e,e3,e4]
  ·rw[if_neg e];have:¬ (a=i/\b=J):=λz=>e (by rw[z.1,z.2])
   exact k.ge a b Ii hb (by lia)
 ·rw[mQ hn,if_neg (λe=>?_)]
  ·exact k.no a b (by lia)
  ·have e2:=eE e;injection e2 with e3 e4
   lia
theorem Bp {T:Nat->Nat->Int}{kvs:List (List Int×D)}{n i:Nat}(hn:n<=90)(hi:i<=n)(k:Tb T kvs n (i+1) (n+1)):Tb T kvs n i i :=
 ⟨λa b Ii hb d=>k.ge a b Ii hb (by lia),λa b d=>k.no a b (by lia),by have:=k.len;lia⟩
theorem E7 {T:Nat->Nat->Int}{n:Nat}:Tb T [] n (n+1) (n+1):=⟨λa b Ii hb d=>by lia,λ_ _ _=>rfl,U4 _⟩
def sK (ps:List PN)(a b:Nat):Int:=((sa ps (b-a) a:Nat):Int)
theorem Ft {ps:List PN}(hp:∀p∈ps,p.1<p.2)(l i:Nat):sa ps (l+1) i=cG ps i (i+l+1) none+(((gx ps i).filter λk=>decide (k<i+l+1)).map λk=>cG ps i (i+l+1) (some k)).sum:=by
 have e:sa ps (l+1) i=((dG ps i (i+l+1)).map (cG ps i (i+l+1))).sum:=ip hp;rw[e];unfold dG;rw[Vb,XU,Vd,X3,Xe,List.sum_nil,VB,Nat.add_comm];rfl
def lb (ps:List PN)(i j q:Nat):Nat:=cG ps i j none+((((gx ps i).take q).filter λk=>decide (k<j)).map λk=>cG ps i j (some k)).sum
theorem yy {ps:List PN}{i j q k:Nat}(hk:(gx ps i)[q]?=some k)(h:k<j):((lb ps i j q:Nat):Int)+sK ps (i+1) k*sK ps (k+1) j=((lb ps i j (q+1):Nat):Int):=by
 unfold lb sK;rw[V0,hk,V7,show (some k).toList=[k] from rfl,WE (p:=λk=>decide (k<j)) (decide_eq_true h),Vb,XU,<- Y0]
 show _=((_+(_+(cG ps i j (some k)+0)):Nat):Int);rw[fq];lia
theorem yz {ps:List PN}{i j q k:Nat}(hk:(gx ps i)[q]?=some k)(h:¬ k<j):lb ps i j (q+1)=lb ps i j q:=by
 unfold lb;rw[V0,hk,V7,show (some k).toList=[k] from rfl,Wm (p:=λk=>decide (k<j)) (λz=>h (of_decide_eq_true z)),List.filter_nil,VT]
theorem vU {ps:List PN}{i j:Nat}:((lb ps i j 0:Nat):Int)=sK ps (i+1) j:=by
 unfold lb sK;rw[ft];rfl
theorem yA {ps:List PN}(hp:∀p∈ps,p.1<p.2){i j:Nat}(h:i<j):((lb ps i j (gx ps i).length:Nat):Int)=sK ps i j:=by
 unfold lb sK;rw[WC];obtain⟨l,rfl⟩:∃l,j=i+l+1:=⟨j-i-1,by lia⟩
 rw[show i+l+1-i=l+1 by lia,Ft hp l i]
end L2.Q
namespace L2
open PySem PySem.Spec PySem.SeqAt PyProof.Rows
def l5 (i j:Int):Prop:=i.natAbs<2 ^ 200/\j.natAbs<2 ^ 200
instance (i j:Int):Decidable (l5 i j):=inferInstanceAs (Decidable (_/\_))
theorem l5.ok {i j:Int}(h:l5 i j):IntMulOk i j:=IntMulOk.of_le (PySem.intBits_le_iff.mpr h.1) (PySem.intBits_le_iff.mpr h.2) (by decide)
def EB:D->D->Option D:=lM λi j=>if l5 i j then some (.int (i*j)) else none
section
variable {X:Cx}
theorem Cb:iW X (Wq .Mult) (rI l5 λi j=>.int (i*j)):=Jv λ_ _ _ _ _ _ _ hc q=>mul_int q hc.ok
theorem zc:bK X (Wq .Mult) EB:=uC (h:=λi j=>.int (i*j)) Cb (λ_ _ _ e=>cC e) λ_ _ _ _=>rfl
end
theorem Dq {a b:Int}(h:l5 a b):EB (.int a) (.int b)=some (.int (a*b)):=by
 show (if l5 a b then _ else _)=_
 rw[if_pos h]
end L2
namespace hG
open PySem L2 L2.Q
section
variable {P:UP}{w:U1}{K:PySem.W.Frag}{mg:Str->Option UK}{base:Heap}{cA:Addr}{c:Nat->Addr}
theorem bq:aG ["many","ties","known","i","own","j","found","k"] ["many","ties"] (ak dZ):=⟨rfl,rfl,rfl,by decide +kernel,rfl,by decide +kernel,by decide +kernel⟩
def wY:FD:=λds R=>∃(n:Nat) (ps:List (Nat×Nat)),ds=[.int (n:Int),dJ ps]/\j5 n ps/\n<=40/\R (.int (sT ps n 0))
theorem wY.mono:dt wY:=λds R R' k ⟨n,ps,e,h1,h2,q⟩=>⟨n,ps,e,h1,h2,k _ q⟩
theorem F8 {wX nE} (Ar:PC K mg wX nE) (B:rP mg):aL P w K mg base bS 1 wX nE ["many","ties"] (dU P w true wY):=by
 refine oK Ar.F bq (λds R Kq=> by obtain⟨n,ps,e,_⟩ := Kq;subst e;rfl) λb7 A outer s H E hr=>⟨_,(aj (kc (i:=2) (λ_=>yL) bq.nd)
    (aj (c4 VS rfl (lg B.range (aa (ae (i:=0)) (aa (lj e9 ah) (aa (lj e9 ah) af)))) (au (i:=3) bq.nd) (aj (uz (i:=2) hr.eC (λ_=>ah) (λ_=>(a9 (aa (ae (i:=3)) (aa (ae (i:=3)) af)))))
    (aj (vO (i:=4) false ["a","k","i"] [none,none,some 3] (by rfl) (by decide:(["a","k","i"]:List Str).Nodup) rfl (λ_=>(a7 (ae (i:=1)))) (λ_ _ _ _ _ _=>(dj (n:=2) rfl (aT (au (i:=0) (by decide:(["a","k","i"]:List Str).Nodup)) (aT (au (i:=1) (by decide:(["a","k","i"]:List Str).Nodup)) cw)))) (λ_ _ _ _ _ _=>(eD (aJ ag (bK.m (gd hr.units)) (ae (i:=0)) (ae (i:=2))))) (λ_ _ _ _ _ _=>(ae (i:=1))) bq.nd)
    (ar (c4 VS rfl (lh B.range (aa (aN aV aF (ae (i:=3)) ah) (aa (aN aV aF (ae (i:=0)) ah) af))) (au (i:=5) bq.nd) (aj (aR (i:=6) (aI ag (uJ hr.eC) (ae (i:=2)) (a9 (aa (aN aV aF (ae (i:=3)) ah) (aa (ae (i:=5)) af)))) bq.nd)
    (aj (c4 VS rfl (a7 (ae (i:=4))) (au (i:=7) bq.nd) (ar (c7 (aJ ag (bK.m bG) (ae (i:=7)) (ae (i:=5))) (ar (aR (i:=6) (aN aV aF (ae (i:=6)) (aN ag (bK.m kh) (aI ag (uJ hr.eC) (ae (i:=2)) (a9 (aa (aN aV aF (ae (i:=3)) ah) (aa (ae (i:=7)) af)))) (aI ag (uJ hr.eC) (ae (i:=2)) (a9 (aa (aN aV aF (ae (i:=7)) ah) (aa (ae (i:=5)) af)))))) bq.nd)) bx)))
    (ar (uz (i:=2) hr.eC (λ_=>(ae (i:=6))) (λ_=>(a9 (aa (ae (i:=3)) (aa (ae (i:=5)) af)))))))))))))
    (ar (a5 (aI ag (uJ hr.eC) (ae (i:=2)) (a9 (aa ah (aa (ae (i:=0)) af)))))))),λds R h=>?_⟩
 obtain⟨n,ps,rfl,ok,hn,q⟩:=h;have H9:=ok.sm;have hp:∀p∈ps,p.1<p.2:=λp hp=>(ok.lt p hp).1;refine⟨trivial,_,rfl,trivial,_,rfl,rfl,trivial,_,rfl,rfl,trivial,(n:Int),-1,rfl,⟨by lia,by lia,by lia,by lia⟩,trivial,?_⟩
 rw[show ((n:Int) - -1).toNat=n+1 by lia]
 refine⟨λm β=>m<=n+1/\∃kvs x3 x4 x5 x6 x7,β=[some (.val false (.int n)),some (.val false (dJ ps)),some (.own (dA kvs)),x3,x4,x5,x6,x7]/\Tb (sK ps) kvs n (n+1-m) (n+1),⟨U4 _,[],_,_,_,_,_,rfl,E7⟩,?_,?_⟩
 ·rintro m d β hd ⟨_,kvs,x3,x4,x5,x6,x7,rfl,tb⟩;obtain⟨hm,rfl⟩:=k_ hd;obtain⟨i,hi⟩:∃i,i=n-m:=⟨_,rfl⟩;rw[show (n:Int)-(m:Int)=((i:Nat):Int) by lia]
  rw[show n+1-m=i+1 by lia]at tb
  obtain⟨v0,tb⟩:=x_ (Bp (by lia) (by lia) tb) (UO _)
  have hlen:=tb.len;rw[Vr]at hlen;have e1:sK ps i i=1:=by unfold sK;rw[X2];rfl
  rw[e1]at tb;refine⟨trivial,⟨_,rfl⟩,_,rfl,trivial,_,rfl,trivial,gJ,kvs,tI (i,i),rfl,rfl,v0,YF (show kvs.length<=9000 by have:[((tI (i,i):List Int),D.int (sK ps i i))].length=1:=rfl;lia) (by decide),?_⟩
  refine⟨_,rfl,_,rfl,trivial,Gm (λp=>decide (p.1=i)) (λp=>.int (p.2:Int)) trivial (bU (by lia)) (λp qF y0 y1 ou J rJ j1 j2=>?_) ?_⟩
  ·exact⟨_,rfl,rfl,_,_,rfl,_,_,rfl,rfl,_,rfl,trivial,_,rfl,_,gD _ _,_,rfl,mD (λh=>⟨_,rfl,trivial,rJ,j1 (by simp;lia) _ _⟩) (λh=>j2 (by simp;lia) _ _)⟩
  have O_:(ps.filter λp=>decide (p.1=i)).map (λp=>D.int (p.2:Int))=(gx ps i).map λk:Nat=>D.int (k:Int):=by
   unfold gx;rw[VB];rfl
  rw[O_];have hpl:(gx ps i).length<=400:=by
   unfold gx;rw[UN];exact Vq (VD _ _) H9
  refine⟨_,rfl,trivial,_,rfl,trivial,_,rfl,trivial,_,rfl,trivial,(i:Int)+1,(n:Int)+1,rfl,⟨by lia,by lia,by lia,by lia⟩,trivial,?_⟩
  rw[show ((n:Int)+1-((i:Int)+1)).toNat=n-i by lia]
  refine⟨λr β=>r<=n-i/\∃kvs x5 x6 x7,β=[some (.val false (.int n)),some (.val false (dJ ps)),some (.own (dA kvs)),some (.val true (.int (i:Int))),some (.val true (.lst ((gx ps i).map λk:Nat=>D.int (k:Int)))),x5,x6,x7]/\Tb (sK ps) kvs n i (i+1+r),⟨U4 _,_,_,_,_,rfl,tb⟩,?_,?_⟩
  ·rintro r d β hd ⟨_,kvs,x5,x6,x7,rfl,tb⟩;obtain⟨Kc,rfl⟩:=eQ hd;obtain⟨j,hj⟩:∃j,j=i+r+1:=⟨_,rfl⟩;rw[show (i:Int)+1+(r:Int)=((j:Nat):Int) by lia]
   rw[show i+1+r=j by lia]at tb
   have hlen:=tb.len;refine⟨_,rfl,trivial,_,rfl,trivial,_,rfl,trivial,_,rfl,trivial,gJ,_,oW (i:=i+1) (j:=j) rfl rfl (tb.ge (i+1) j (by lia) (by lia) (.inl (by lia))),?_⟩
   refine⟨_,rfl,_,rfl,trivial,?_⟩;refine⟨λq β=>q<=(gx ps i).length/\∃x7,β=[some (.val false (.int n)),some (.val false (dJ ps)),some (.own (dA kvs)),some (.val true (.int (i:Int))),some (.val true (.lst ((gx ps i).map λk:Nat=>D.int (k:Int)))),some (.val true (.int (j:Int))),some (.val true (.int ((lb ps i j q:Nat):Int))),x7],⟨U4 _,x7,?_⟩,?_,?_⟩
   ·rw[vU];rfl
   ·rintro q d β hd ⟨_,y7,rfl⟩;rw[U8]at hd;obtain⟨k,hk,rfl⟩:=U3.mp hd;have Kf:=(U0.mp hk).1;have SG:=oQ.mp (Vx hk);have h1:=ok.lt _ SG;dsimp only at h1;refine⟨_,rfl,trivial,_,rfl,_,rfl,_,rfl,mD (λIb=>?_) λIb=>⟨Kf,some (.val true (.int (k:Int))),?_⟩⟩
    ·have Ib:k<j:=by lia
     refine⟨_,rfl,trivial,_,rfl,trivial,_,rfl,trivial,_,rfl,trivial,_,rfl,trivial,gJ,_,oW (i:=i+1) (j:=k) rfl rfl (tb.ge (i+1) k (by lia) (by lia) (.inl (by lia))),trivial,_,rfl,trivial,_,rfl,trivial,_,rfl,trivial,_,rfl,trivial,gJ,_,oW (i:=k+1) (j:=j) rfl rfl (tb.ge (k+1) j (by lia) (by lia) (.inl (by lia))),_,tG (Fq hp ok.nd (by lia)),_,rfl,Kf,some (.val true (.int (k:Int))),?_⟩
     rw[<- yy hk Ib];rfl
    ·rw[yz hk (by lia)]
     rfl
   ·rintro β ⟨_,y7,rfl⟩;rw[UN];obtain⟨v1,tb⟩:=x_ tb (by lia)
    rw[yA hp (by lia)]
    refine⟨_,rfl,trivial,⟨_,rfl⟩,_,rfl,trivial,_,rfl,trivial,gJ,kvs,tI (i,j),rfl,rfl,v1,YF (show kvs.length<=9000 by lia) (by decide),Kc,_,_,_,_,rfl,?_⟩
    rw[show i+1+(r+1)=j+1 by lia]
    exact tb
  ·rintro β ⟨_,kvs,x5,x6,x7,rfl,tb⟩;rw[eP]at tb;refine⟨hm,_,_,_,_,_,_,rfl,?_⟩;rw[show n+1-(m+1)=i by lia]
   rw[show i+1+(n-i)=n+1 by lia]at tb
   exact tb
 ·rintro β ⟨_,kvs,x3,x4,x5,x6,x7,rfl,tb⟩;rw[k9,X2]at tb;exact⟨_,rfl,trivial,trivial,_,rfl,trivial,gJ,_,oW (i:=0) (j:=n) rfl rfl (tb.ge 0 n (by lia) (by lia) (.inr ⟨rfl,by lia⟩)),trivial,q⟩
theorem fc:aG ["row","tie","left","beneath","beside"] ["row","tie"] (ak gw):=⟨rfl,rfl,rfl,by decide +kernel,rfl,by decide +kernel,by decide +kernel⟩
def Aa:FD:=λds R=>∃(n:Nat) (ps:List (Nat×Nat)) (t:Nat×Nat),ds=[gU n ps,kD (tI t)]/\j5 n ps/\n<=40/\t∈ps/\R (.int (sT (ps.filter (fB t)) n 0))
theorem Aa.mono:dt Aa:=λds R R' k ⟨n,ps,t,e,h1,h2,h3,q⟩=>⟨n,ps,t,e,h1,h2,h3,k _ q⟩
theorem F6 {Dc uZ} (Iq:Q9 K mg Dc uZ) {qM jS} (vj:MM K mg qM jS) {mJ gN} (xb:LU K mg mJ gN) {wX nE} (Ar:PC K mg wX nE) (B:rP mg):aL P w K mg base bS 3 Dc uZ ["row","tie"] (dU P w true Aa):=by
 have Px:aL P w K mg base bS 2 _ _ _ (dU P w true lV):=uD vj xb;have Q1:aL P w K mg base bS 1 _ _ _ (dU P w true wY):=F8 Ar B;refine oK Iq.F fc (λds R Ko=> by obtain⟨n,ps,t,e,_⟩ := Ko;subst e;rfl) λb7 A outer s H E hr=>⟨_,(aj (vO (i:=2) false ["other","tie"] [none,some 1] (by rfl) (by decide:(["other","tie"]:List Str).Nodup) rfl (λ_=>(a7 (aI ag bg (ae (i:=0)) ah))) (λ_ _ _ _ _ _=>(au (i:=0) (by decide:(["other","tie"]:List Str).Nodup))) (λ_ _ _ _ _ _=>(eD (dh (aW lV.mono Px (hr.mono (by decide)) vj.m vj.F.kp vj.b (aa (ba (aa (ae (i:=1)) af)) (aa (ae (i:=0)) af)))))) (λ_ _ _ _ _ _=>(ae (i:=0))) fc.nd)
    (aj (aR (i:=3) (Gp ["other","tie"] [none,some 1] (by rfl) (by decide:(["other","tie"]:List Str).Nodup) rfl (a7 (ae (i:=2))) (λ_ _ _ _ _ _=>(au (i:=0) (by decide:(["other","tie"]:List Str).Nodup))) (λ_ _ _ _ _ _=>(eD (pB.t (iA (aJ ag (bK.m bG) (aI ag bg (ae (i:=1)) ah) (aI ag bg (ae (i:=0)) ah)) (f9 (aJ ag (bK.m bG) (aI ag bg (ae (i:=0)) ah) (aI ag bg (ae (i:=1)) ah))))))) (λ_ _ _ _ _ _=>(ae (i:=0)))) fc.nd)
    (aj (vO (i:=4) false ["other","beneath"] [none,some 3] (by rfl) (by decide:(["other","beneath"]:List Str).Nodup) rfl (λ_=>(a7 (ae (i:=2)))) (λ_ _ _ _ _ _=>(au (i:=0) (by decide:(["other","beneath"]:List Str).Nodup))) (λ_ _ _ _ _ _=>(eD (aJ ag (bK.m (jg hr.dQ)) (ae (i:=0)) (ae (i:=1))))) (λ_ _ _ _ _ _=>(ae (i:=0))) fc.nd)
    (ar (a5 (aN ag (bK.m zc) (aW wY.mono Q1 (hr.mono (by decide)) Ar.m Ar.F.kp Ar.b (aa (aI ag bg (ae (i:=0)) ah) (aa (ae (i:=3)) af))) (aW wY.mono Q1 (hr.mono (by decide)) Ar.m Ar.F.kp Ar.b (aa (aI ag bg (ae (i:=0)) ah) (aa (ae (i:=4)) af))))))))),λds R h=>?_⟩
 obtain⟨n,ps,t,rfl,ok,hn,ht,q⟩:=h;have H9:=ok.sm;have hp:∀p∈ps,p.1<p.2:=λp hp=>(ok.lt p hp).1;refine⟨_,rfl,trivial,_,rfl,.inr ⟨_,rfl,trivial,dD (fB t) (λp=>kD (tI p)) trivial (bU (by lia)) (λo ho x0 ou J rJ j1 j2=>?_) ?_⟩⟩
 ·have ea:([tI t].all λu=>!bD u (tI o)&&!bJ u (tI o))=fB t o:=by
   rw[List.all_cons,List.all_nil,Bool.and_true];rfl
  refine⟨_,rfl,trivial,yd,.inl ⟨⟨rfl,trivial⟩,trivial,_,rfl,trivial,[tI t],tI o,rfl,λu hu=>⟨_,_,UX.mp hu⟩,⟨_,_,rfl⟩,_,rfl,?_⟩⟩;rw[ea];cases z:fB t o with
  |true=>exact mC rfl ⟨_,rfl,rfl,rJ,j1 z _⟩
  |false=>exact fN rfl (j2 z _)
 have Uk:=VD (fB t) ps;refine⟨_,rfl,_,rfl,trivial,dD (cN t) (λp=>kD (tI p)) trivial (bU (by lia)) (λo ho x0 ou J rJ j1 j2=>?_) ?_⟩
 ·refine⟨_,rfl,trivial,_,rfl,trivial,_,rfl,trivial,_,rfl,_,rfl,_,rfl,mD (λh1=>?_) λh1=>fN rfl (j2 (decide_eq_false (by lia)) _)⟩
  exact⟨_,rfl,trivial,_,rfl,trivial,_,rfl,trivial,_,rfl,_,rfl,_,rfl,mD (λh2=>⟨_,rfl,rfl,rJ,j1 (decide_eq_true (by lia)) _⟩) λh2=>j2 (decide_eq_false (by lia)) _⟩
 have Sf:=VD (cN t) (ps.filter (fB t));refine⟨_,rfl,_,rfl,trivial,dD (λo=>!cN t o) (λp=>kD (tI p)) trivial (bU (by lia)) (λo ho x0 ou J rJ j1 j2=>?_) ?_⟩
 ·have A9:jy (kD (tI o)) (.lst (((ps.filter (fB t)).filter (cN t)).map λp=>kD (tI p)))=some (.bl (!cN t o)):=by
   have:=g6 (tI o) (((ps.filter (fB t)).filter (cN t)).map tI);rw[VB]at this;refine this.trans ?_
   congr 3
   cases z:cN t o with
   |true=>exact decide_eq_true (W8 (Vk.mpr ⟨ho,z⟩))
   |false =>
    refine decide_eq_false λy=>?_;obtain⟨x,hx,e⟩:=Vv.mp y;rw[eE e]at hx;have:=(Vk.mp hx).2;rw[z]at this;cases this
  refine⟨_,rfl,trivial,_,rfl,_,A9,_,rfl,?_⟩;cases z:cN t o with
  |true=>exact fN rfl (j2 (by rw[z];rfl) _)
  |false=>exact mC rfl ⟨_,rfl,rfl,rJ,j1 (by rw[z];rfl) _⟩
 have big:∀c d,((sa ((ps.filter (fB t)).filter c) n d:Nat):Int).natAbs<2 ^ 200:=λc d=>by
  have h1:=pP (cM (cM hp (c:=fB t)) (c:=c)) ((ok.nd.sublist W9).sublist W9) n d;have h2:=eX (show n+1<=41 by lia)
  have h3:l8 41<2 ^ 200:=by decide
  rw[Int.natAbs_natCast];lia
 refine⟨_,rfl,trivial,_,rfl,trivial,_,rfl,trivial,n,_,rfl,gZ (gZ ok _) _,hn,trivial,_,rfl,trivial,_,rfl,trivial,_,rfl,trivial,n,_,rfl,gZ (gZ ok _) _,hn,_,Dq ⟨big _ _,big _ _⟩,trivial,?_⟩;have e:=BE (t:=t) hp (hp t ht) n 0;show R (.int (((sa ((ps.filter (fB t)).filter (cN t)) n 0:Nat):Int)*((sa ((ps.filter (fB t)).filter λo=>!cN t o) n 0:Nat):Int)));rw[<- Y0,<- e];exact q
theorem dY:aG ["caught","kinds","odd"] ["caught"] (ak fk):=⟨rfl,rfl,rfl,by decide +kernel,rfl,by decide +kernel,by decide +kernel⟩
def knd:List (Nat×Str):=[(3,"weights"),(4,"number"),(5,"set"),(1,"tie")]
def qT (c:Nat->Addr):FD:=λds R=>∃i s,(i,s)∈knd/\ds=[.exc (c i)]/\R (.str s)
theorem qT.mono:dt (qT c):=λds R R' k ⟨i,s,hi,e,q⟩=>⟨i,s,hi,e,k _ q⟩
theorem Cn {wW nC} (EC:Pz K mg wW nC) (B:rP mg) (bV:mg "ValueError" = none) (ZA:XA K mg cA c):aL P w K mg base bS 1 wW nC ["caught"] (dU P w true (qT c)):=by
 refine oK EC.F dY (λds R h=>by obtain⟨_,_,_,e,_⟩:=h;subst e;rfl) λb7 A outer s H E hr=>⟨_,(aj (aR (i:=1) (ba (aa (oB B.Ek (ae (i:=0)) (XA.x ZA 3).m) (aa (oB B.Ek (ae (i:=0)) (XA.x ZA 4).m) (aa (oB B.Ek (ae (i:=0)) (XA.x ZA 5).m) af)))) dY.nd)
    (aj (aR (i:=1) (aN aV aF (ae (i:=1)) (ba (aa (oB B.Ek (ae (i:=0)) (XA.x ZA 1).m) af))) dY.nd)
    (aj (aR (i:=2) (BR B.Ek (ae (i:=0)) (d8 (d8 (d8 (d8 (d8 (d8 (d8 (d8 B7 (XA.x ZA 11).m) (XA.x ZA 9).m) (XA.x ZA 2).m) (XA.x ZA 8).m) (XA.x ZA 0).m) (XA.x ZA 7).m) (XA.x ZA 6).m) (XA.x ZA 10).m) (by show 8<=UW;decide)) dY.nd)
    (di (c7 (pB.t (gX (dh (ae (i:=2))) (gX (iB (dh (FH B.Ek (ae (i:=0)) bV HB))) (iy (aJ ag (bK.m (jh hr.units)) (vX (ae (i:=1)) jN) ah))))) (ar (a5 jb)) bx)
    (ar (a5 (aI ag bg (ba (aa jb (aa jb (aa jb (aa jb af))))) (vW (ae (i:=1)) jN)))))))),λds R h=>?_⟩
 obtain⟨i,st,hi,rfl,q⟩:=h;have fO:i<12:=by
  rcases UQ.mp hi with z|hi
  ·cases z;decide
  rcases UQ.mp hi with z|hi
  ·cases z;decide
  rcases UQ.mp hi with z|hi
  ·cases z;decide
  cases UX.mp hi;decide
 refine⟨_,rfl,c i,_,rfl,ZA.k fO (j:=3) (by decide),trivial,_,rfl,c i,_,rfl,ZA.k fO (j:=4) (by decide),trivial,_,rfl,c i,_,rfl,ZA.k fO (j:=5) (by decide),trivial,bU (by show 3<=1000;decide),?_⟩
 refine⟨_,rfl,trivial,_,rfl,c i,_,rfl,ZA.k fO (j:=1) (by decide),trivial,yd,_,lY (by show 3+1<=_;decide),.inl ⟨rfl,?_⟩⟩
 refine⟨_,rfl,c i,_,rfl,ZA.ks fO [10,6,7,0,8,2,9,11],?_⟩;rcases UQ.mp hi with z|hi
 ·cases z;refine⟨λβ=>β=[some (.val false (.exc (c 3))),some (.val true (.lst [.bl true,.bl false,.bl false,.bl false])),some (.val true (.bl false))],⟨_,rfl,_,rfl,fN rfl ⟨_,rfl,c 3,true,rfl,ZA.kv fO,_,rfl,fN rfl ⟨_,rfl,⟨_,rfl⟩,trivial,_,rfl,trivial,_,kr _ _,_,rfl,fN rfl rfl⟩⟩⟩,?_⟩;rintro β rfl;exact⟨trivial,trivial,trivial,trivial,bU (by show 4<=1000;decide),trivial,_,rfl,⟨_,rfl⟩,trivial,_,rfl,_,rfl,trivial,q⟩
 rcases UQ.mp hi with z|hi
 ·cases z;refine⟨λβ=>β=[some (.val false (.exc (c 4))),some (.val true (.lst [.bl false,.bl true,.bl false,.bl false])),some (.val true (.bl false))],⟨_,rfl,_,rfl,fN rfl ⟨_,rfl,c 4,true,rfl,ZA.kv fO,_,rfl,fN rfl ⟨_,rfl,⟨_,rfl⟩,trivial,_,rfl,trivial,_,kr _ _,_,rfl,fN rfl rfl⟩⟩⟩,?_⟩;rintro β rfl;exact⟨trivial,trivial,trivial,trivial,bU (by show 4<=1000;decide),trivial,_,rfl,⟨_,rfl⟩,trivial,_,rfl,_,rfl,trivial,q⟩
 rcases UQ.mp hi with z|hi
 ·cases z;refine⟨λβ=>β=[some (.val false (.exc (c 5))),some (.val true (.lst [.bl false,.bl false,.bl true,.bl false])),some (.val true (.bl false))],⟨_,rfl,_,rfl,fN rfl ⟨_,rfl,c 5,true,rfl,ZA.kv fO,_,rfl,fN rfl ⟨_,rfl,⟨_,rfl⟩,trivial,_,rfl,trivial,_,kr _ _,_,rfl,fN rfl rfl⟩⟩⟩,?_⟩;rintro β rfl;exact⟨trivial,trivial,trivial,trivial,bU (by show 4<=1000;decide),trivial,_,rfl,⟨_,rfl⟩,trivial,_,rfl,_,rfl,trivial,q⟩
 cases UX.mp hi;refine⟨λβ=>β=[some (.val false (.exc (c 1))),some (.val true (.lst [.bl false,.bl false,.bl false,.bl true])),some (.val true (.bl false))],⟨_,rfl,_,rfl,fN rfl ⟨_,rfl,c 1,true,rfl,ZA.kv fO,_,rfl,fN rfl ⟨_,rfl,⟨_,rfl⟩,trivial,_,rfl,trivial,_,kr _ _,_,rfl,fN rfl rfl⟩⟩⟩,?_⟩;rintro β rfl;exact⟨trivial,trivial,trivial,trivial,bU (by show 4<=1000;decide),trivial,_,rfl,⟨_,rfl⟩,trivial,_,rfl,_,rfl,trivial,q⟩
theorem NO:((1,"tie"):Nat×Str)∈knd:=UU _ (UU _ (UU _ UY))
theorem vM:aG ["found","due"] ["found","due"] (ak ir):=⟨rfl,rfl,rfl,by decide +kernel,rfl,by decide +kernel,by decide +kernel⟩
def Ik:FD:=λds R=>∃k:Int,ds=[.int k,.int k]/\R (.bl true)
theorem Ik.mono:dt Ik:=λds R R' k ⟨i,e,q⟩=>⟨i,e,k _ q⟩
theorem Jy {C_ uY} (Dv:Q8 K mg C_ uY) (B:rP mg):aL P w K mg base bS 1 C_ uY ["found","due"] (dU P w true Ik):=by
 refine oK Dv.F vM (λds R Kn=> by obtain⟨k,e,_⟩ := Kn;subst e;rfl) λb7 A outer s H E hr=>⟨_,(ar (a5 (yM (yJ (uh B.Ek (yw (i:=0)) B.int AF)) (yM (FG (yJ (uh B.Ek (yw (i:=0)) B.bool DG))) (oA (oC ag (bK.m (gd hr.units)) (ae (i:=0)) (ae (i:=1)))))))),λds R h=>?_⟩
 obtain⟨i,rfl,q⟩:=h;exact⟨_,rfl,_,_,rfl,Gu,rfl,_,rfl,mC rfl ⟨_,rfl,_,_,rfl,Gv,rfl,_,rfl,_,rfl,mC rfl ⟨_,rfl,trivial,_,rfl,_,Aq (bH i),trivial,q⟩⟩⟩
theorem cf:aG ["row","tie","found","caught","e"] ["row","tie"] (ak fe):=⟨rfl,rfl,rfl,by decide +kernel,rfl,by decide +kernel,by decide +kernel⟩
def lS:FD:=λds R=>∃(n:Nat) (ps:List (Nat×Nat)) (t:List Int),ds=[gU n ps,kD t]/\j5 n ps/\n<=40/\(t∉ps.map tI->R (.str "tie"))/\∀p,p∈ps->t=tI p->R (.int (sT (ps.filter (fB p)) n 0))
theorem lS.mono:dt lS:=λds R R' k ⟨n,ps,t,e,h1,h2,h3,q⟩=>⟨n,ps,t,e,h1,h2,λz=>k _ (h3 z),λp a b=>k _ (q p a b)⟩
theorem Cg {C7 uV} (xD:Q6 K mg C7 uV) {tf nD} (EE:PD K mg tf nD) {qL jR} (Bb:MN K mg qL jR) {Ba mH} (dS:LV K mg Ba mH) {A_ mG} (dX:D9 K mg A_ mG) {qN jT} (Bd:D8 K mg qN jT) {mI gM} (xE:D7 K mg mI gM) {j3 fK} (vh:D3 K mg j3 fK) {j0 fJ} (vg:D2 K mg j0 fJ) {jZ fI} (vf:D6 K mg jZ fI) {gk cY} (pz:D5 K mg gk cY) {iO d_} (rL:D4 K mg iO d_) {wW nC} (EC:Pz K mg wW nC) (B:rP mg) (bV:mg "ValueError" = none) (ZA:XA K mg cA c):aL P w K mg base bS 6 C7 uV ["row","tie"] (dU P w true lS):=by
 have TV:aL P w K mg base (ER P w) 5 _ _ _ (Bv P w true (Lu c)):=Jz EE Bb dS dX Bd xE vh vg vf pz rL B ZA;have TR:aL P w K mg base bS 1 _ _ _ (dU P w true (qT c)):=Cn EC B bV ZA;refine oK xD.F cf (λds R Km=> by obtain⟨n,ps,t,e,_⟩ := Km;subst e;rfl) λb7 A outer s H E hr=>⟨_,(aj (aR (i:=2) ll cf.nd)
    (aj (aR (i:=3) ll cf.nd)
    (di (FR (j:=4) rfl rfl (E6 (i:=2) Lu.mono TV (hr.mono (by decide)) EE.m EE.F.kp EE.b (aa (ae (i:=0)) (aa (ae (i:=1)) af)) cf.nd) (λ_=>(ar (aR (i:=3) (ae (i:=4)) cf.nd))) ZA.Pk cf.nd)
    (aj (c7 (aJ ag (bK.m uB) (ae (i:=3)) ll) (ar (a5 (ae (i:=2)))) bx)
    (ar (a5 (aW qT.mono TR (hr.mono (by decide)) EC.m EC.F.kp EC.b (aa (ae (i:=3)) af)))))))),λds R h=>?_⟩
 obtain⟨n,ps,t,rfl,ok,hn,q1,q2⟩:=h;refine⟨λβ=>∃f d,β=[some (.val false (gU n ps)),some (.val false (kD t)),some (.val true f),some (.val true d),none]/\((d=.cg/\∃k:Int,f=.int k/\R (.int k))\/(d=.exc (c 1)/\R (.str "tie"))),
  ⟨λcl=>cl=c 1/\R (.str "tie"),?_,λcl h=>by
   obtain⟨rfl,q⟩:=h;exact⟨ZA.Td 1 (by decide),_,rfl,_,_,rfl,.inr ⟨rfl,q⟩⟩⟩,?_⟩
 ·exact⟨_,rfl,trivial,_,rfl,trivial,n,ps,t,rfl,ok,hn,λz=>⟨rfl,q1 z⟩,λp hp e=>⟨_,_,rfl,.inl ⟨rfl,_,rfl,q2 p hp e⟩⟩⟩
 ·rintro β ⟨f,d,rfl,⟨rfl,k,rfl,q⟩|⟨rfl,q⟩⟩
  ·exact⟨_,rfl,trivial,_,rfl,_,rfl,mC rfl ⟨_,rfl,trivial,q⟩⟩
  ·exact⟨_,rfl,trivial,_,rfl,_,rfl,fN rfl ⟨_,rfl,trivial,1,_,NO,rfl,trivial,q⟩⟩
theorem bp:aG ["deck","row","many","far","a","found","b"] ["deck","row"] (ak fh):=⟨rfl,rfl,rfl,by decide +kernel,rfl,by decide +kernel,by decide +kernel⟩
def qS:FD:=λds R=>∃(n:Nat) (ps:List (Nat×Nat)),ds=[gU n ps]/\j5 n ps/\n<=40/\∀ts:List (List Int),Pairs ts->ts.length<=10->(∀t∈ts,t∉ps.map tI)->R (.lst (ts.map kD))
theorem qS.mono:dt qS:=λds R R' k ⟨n,ps,e,h1,h2,q⟩=>⟨n,ps,e,h1,h2,λts a b d=>k _ (q ts a b d)⟩
theorem Cm {C9 uX} (Im:Q5 K mg C9 uX) {Ls z8} (dT:D1 K mg Ls z8) (B:rP mg):aL P w K mg base bS 2 C9 uX ["deck","row"] (me P w l6 true qS):=by
 have GT:aL P w K mg base bS 1 _ _ _ (me P w l6 true bR):=oJ dT.F;refine JA Im.F bp (λds R Kl=> by obtain⟨n,ps,e,_⟩ := Kl;subst e;rfl) λb7 A outer s H E IO hr=>⟨_,(aj (aR (i:=2) (aI ag bg (ae (i:=1)) ah) bp.nd)
    (aj (aR (i:=3) (aN ag (bK.m kh) (bj (ih:=0) bR.mono GT (hr.mono (by decide)) dT.m dT.F.kp dT.b (aa ah af)) (aI ag bg (ba (aa ah (aa (aN ag (bK.m Cc) ah ah) af))) (bj (ih:=0) bR.mono GT (hr.mono (by decide)) dT.m dT.F.kp dT.b (aa ah af)))) bp.nd)
    (aj (aR (i:=4) (bj (ih:=0) bR.mono GT (hr.mono (by decide)) dT.m dT.F.kp dT.b (aa (bL ag (cJ.m (l0 rfl)) B.max tM (aa ah (aa (ae (i:=2)) af))) af)) bp.nd)
    (aj (aR (i:=5) (ba (aa (a9 (aa (ae (i:=4)) (aa (ae (i:=4)) af))) (aa (a9 (aa (ae (i:=4)) (aa (ae (i:=2)) af))) (aa (a9 (aa (ae (i:=4)) (aa (aN aV aF (ae (i:=2)) (ae (i:=3))) af))) (aa (a9 (aa (lj e9 ah) (aa (ae (i:=4)) af))) af))))) bp.nd)
    (aj (aR (i:=5) (aN aV aF (ae (i:=5)) (ba (aa (a9 (aa (aN ag (bK.m cR) (lj e9 ah) (ae (i:=3))) (aa (ae (i:=4)) af))) (aa (a9 (aa (ae (i:=2)) (aa (aN aV aF (ae (i:=2)) ah) af))) (aa (a9 (aa (aN ag (bK.m cR) ah (ae (i:=3))) (aa (ae (i:=3)) af))) af))))) bp.nd)
    (di (c7 (aJ ag (bK.m (jh hr.units)) (aI ag bg (ae (i:=1)) ah) (ba af)) (aj (lx (aI ag bg (aI ag bg (ae (i:=1)) ah) (bj (ih:=0) bR.mono GT (hr.mono (by decide)) dT.m dT.F.kp dT.b (aa (bL ag (cJ.m gE) B.len l3 (aa (aI ag bg (ae (i:=1)) ah) af)) af))) (dj (n:=2) rfl (aT (au (i:=4) bp.nd) (aT (au (i:=6) bp.nd) cw))))
    (ar (aR (i:=5) (aN aV aF (ae (i:=5)) (ba (aa (a9 (aa (ae (i:=6)) (aa (ae (i:=4)) af))) (aa (a9 (aa (ae (i:=4)) (aa (aN aV aF (ae (i:=6)) ah) af))) (aa (a9 (aa (aN ag (bK.m cR) (ae (i:=4)) ah) (aa (ae (i:=6)) af))) af))))) bp.nd))) bx)
    (ar (a5 (Gp ["tie","row"] [none,some 1] (by rfl) (by decide:(["tie","row"]:List Str).Nodup) rfl (a7 (ae (i:=5))) (λ_ _ _ _ _ _=>(au (i:=0) (by decide:(["tie","row"]:List Str).Nodup))) (λ_ _ _ _ _ _=>(eD (aJ ag (bK.m (jg hr.dQ)) (ae (i:=0)) (aI ag bg (ae (i:=1)) ah)))) (λ_ _ _ _ _ _=>(ae (i:=0)))))))))))),λds R h=>?_⟩
 obtain⟨n,ps,rfl,ok,hn,q⟩:=h;have H9:=ok.sm;refine⟨_,rfl,trivial,_,rfl,?_⟩;refine⟨rfl,trivial,rfl,trivial,65536,rfl,by decide,by decide,λf f0 f1=>?_⟩
 refine⟨trivial,trivial,trivial,_,Hq,trivial,gJ,trivial,rfl,trivial,rfl,trivial,2,rfl,by decide,by decide,λg g0 g1=>?_⟩
 obtain⟨v,ev⟩:∃v,xa (.lst [.int 1,.int (10 ^ 15)]) (.int g)=some (.int v):=by
  rcases (show g=0\/g=1 by lia)with rfl|rfl
  ·exact⟨1,rfl⟩
  ·exact⟨_,rfl⟩
 refine⟨_,ev,_,tG (.inl ⟨by lia,by lia⟩),?_⟩
 generalize f*v=Dh;refine⟨rfl,trivial,_,rfl,trivial,_,rfl,trivial,rfl,trivial,(if (1:Int)<n then (n:Int) else 1),rfl,by split <;> lia,by split <;> lia,λa a0 a1=>?_⟩
 refine⟨_,rfl,trivial,_,rfl,trivial,gJ,trivial,_,rfl,trivial,_,rfl,trivial,gJ,trivial,_,rfl,trivial,_,rfl,trivial,_,rfl,_,rfl,trivial,gJ,trivial,_,rfl,rfl,trivial,_,rfl,trivial,gJ,trivial,bU (by show 4<=1000;decide),?_⟩
 refine⟨_,rfl,trivial,_,rfl,rfl,trivial,_,rfl,_,rfl,trivial,_,rfl,trivial,gJ,trivial,_,rfl,trivial,_,rfl,trivial,_,rfl,trivial,gJ,trivial,trivial,_,rfl,_,rfl,trivial,_,rfl,trivial,gJ,trivial,bU (by show 3<=1000;decide),_,rfl,.inr ?_⟩
 have pp:∀ts:List (List Int),(∀t∈ts,∃x y,t=[x,y])->Pairs ts:=λts h=>h;refine⟨λβ=>∃ts x4 x6,β=[some (.hand l6),some (.val false (gU n ps)),some (.val true (.int n)),some (.val true (.int Dh)),x4,some (.val true (.lst (ts.map kD))),x6]/\Pairs ts/\ts.length<=10,?_,?_⟩
 ·have h7:Pairs [[a,a],[a,(n:Int)],[a,(n:Int)+Dh],[-1,a],[-1-Dh,a],[(n:Int),(n:Int)+1],[0-Dh,Dh]]:=λt ht=>by
   simp only[UQ,WD,or_false]at ht;rcases ht with rfl|rfl|rfl|rfl|rfl|rfl|rfl <;> exact⟨_,_,rfl⟩
  refine⟨_,rfl,trivial,_,rfl,.inr ⟨trivial,U4 _,_,w_ _,_,rfl,?_⟩⟩
  by_cases CQ:ps=[]
  ·refine fN (by rw[CQ];rfl) ⟨_,_,_,rfl,h7,by show 7<=10;decide⟩
  ·refine mC (by rw[decide_eq_false CQ];rfl) ?_
   have zT:0<ps.length:=List.length_pos_iff.mpr CQ;refine⟨_,rfl,trivial,_,rfl,.inr ⟨trivial,rfl,_,rfl,trivial,_,rfl,.inr ⟨trivial,_,rfl,trivial,rfl,trivial,(ps.length:Int),by rw[UN],by lia,by lia,λk k0 k1=>?_⟩⟩⟩
   obtain⟨k,rfl⟩:=Int.eq_ofNat_of_zero_le k0;obtain⟨pr,Mo⟩:∃p,ps[k]?=some p:=⟨_,Vh (by lia)⟩
   refine⟨_,qz (d:=kD (tI pr)) (i:=k) rfl (by rw[U8,Mo];rfl),?_⟩
   have S4:Pairs [[a,a],[a,(n:Int)],[a,(n:Int)+Dh],[-1,a],[-1-Dh,a],[(n:Int),(n:Int)+1],[0-Dh,Dh],[(pr.2:Int),(pr.1:Int)],[(pr.1:Int),(pr.2:Int)+1],[(pr.1:Int)-1,(pr.2:Int)]]:=λt ht=>by
    simp only[UQ,WD,or_false]at ht;rcases ht with rfl|rfl|rfl|rfl|rfl|rfl|rfl|rfl|rfl|rfl <;> exact⟨_,_,rfl⟩
   refine⟨_,rfl,rfl,_,_,rfl,_,_,rfl,rfl,?_⟩;exact⟨_,rfl,trivial,_,rfl,trivial,_,rfl,trivial,gJ,trivial,_,rfl,trivial,_,rfl,trivial,_,rfl,trivial,gJ,trivial,_,rfl,trivial,_,rfl,trivial,_,rfl,trivial,gJ,trivial,bU (by show 3<=1000;decide),_,rfl,.inr ⟨_,_,_,rfl,S4,by show 10<=10;decide⟩⟩
 ·rintro β ⟨ts,x4,x6,rfl,ht,hl⟩;refine⟨_,rfl,_,rfl,trivial,dD (λt=>!decide (t∈ps.map tI)) kD trivial (bU (by lia)) (λt Mk x0 ou J rJ j1 j2=>?_) ?_⟩
  ·have A9:jy (kD t) (dJ ps)=some (.bl (!decide (t∈ps.map tI))):=by
    have:=g6 t (ps.map tI);rw[VB]at this;exact this
   refine⟨_,rfl,trivial,_,rfl,trivial,_,rfl,.inr ⟨_,A9,_,rfl,?_⟩⟩;obtain⟨tx,ty,rfl⟩:=ht t Mk
   by_cases z:[tx,ty]∈ps.map tI
   ·exact fN (by rw[decide_eq_true z];rfl) (j2 (by rw[decide_eq_true z];rfl) _)
   ·exact mC (by rw[decide_eq_false z];rfl) ⟨_,rfl,rfl,rJ,j1 (by rw[decide_eq_false z];rfl) _⟩
  ·refine⟨trivial,rfl,q _ (λt h=>ht t (Vk.mp h).1) (Vq (VD _ _) hl) λt h z=>?_⟩;have:=(Vk.mp h).2;rw[decide_eq_true z]at this;cases this
end
end hG
namespace L2.Q
open PySem PySem.Spec PySem.SeqAt PyProof.Rows
section
variable {X:Cx}{C:Cfg}{lk:List (Option Nat)}{τ:a8}{ι:cI}{pi:Bool}{scope:Xp}{N':List Str}{cF:Expr}{ifs:List Expr}{x y:Str}{i:Nat}{px py pos pos' kT:Pos}
theorem Nc (T:Nat)(N':List Str)(lk:List (Option Nat))(L:jl X.env.scope.names X.N scope N' lk=true)(wR:N'.Nodup)(hc:X.calm=true)(hi:∀U,AS X (C.u U) pi (.Name x px) cF ι)
  (sR:∀U cl c s H ex,tT (aE X scope N' cl c s H ex) (C.u U) true ifs τ) (hN:X.N.Nodup) (Qu:N'[T]?=some x:=by rfl) (hT:lk[T]?=some none:=by rfl)
  (OD:∀cl c s H ex,Loc (aE X scope N' cl c s H ex).env.scope x:=by intro _ _ _ _ _;first|exact .inl rfl|exact .inr rfl)
  (hv:∀cl c s H ex,rM (aE X scope N' cl c s H ex).env.scope x:=by intro _ _ _ _ _;first|exact .inl rfl|exact .inr (.inl rfl)|exact .inr (.inr rfl))
  (SK:∀cl c s H ex,(aE X scope N' cl c s H ex).fn x=true\/(aE X scope N' cl c s H ex).env.scope.names.lookup x=some .local:=by intro _ _ _ _ _;first|exact .inl rfl|exact .inr rfl)
  (hd:(x==("__debug__" : Str))=false:=by decide) (fH:(x==("__classdict__" : Str))=false:=by decide)
  (hy:X.N[i]?=some y:=by rfl) (hx:Loc X.env.scope y:=by first|exact .inl rfl|exact .inr rfl) (hf:X.fn y=true\/X.env.scope.names.lookup y=some .local:=by first|exact .inl rfl|exact .inr rfl|assumption)
  (sS:Wf (.ListComp (.Name x py) [⟨.Name x px,cF,ifs,0⟩] scope pos) (some (.Name y pos')) kT.line X.env=pure true:=by rfl)
  (CU:YV (.ListComp (.Name x py) [⟨.Name x px,cF,ifs,0⟩] scope pos) X.env (assign (.Name y pos') X.env)=(do let _ <- comprehension (.ListComp (.Name x py) [⟨.Name x px,cF,ifs,0⟩] scope pos) scope X.env (firstIterPos [⟨.Name x px,cF,ifs,0⟩] pos) (newList []) false (eval cF X.env) (some (assign (.Name y pos') X.env));pure ()):=by first|rfl|exact Yg ..)
  (hs:∀x,VM cF X.env x=pure x:=by intro _;rfl) :
  PB X C (.Assign [.Name y pos'] (.ListComp (.Name x py) [⟨.Name x px,cF,ifs,0⟩] scope pos) kT) (λE β=>Jj lk ι τ T β λd _ β'=>E.nx (β'.set i (some (.val true d)))):=by
 have L':=Links.of L;refine⟨λE E' β l h=>(hi λ_=>False).mono β _ _ (λds kd β1 q=>⟨q.1,q.2.mono λo z=>l.nx _ z⟩) h,λpins s σ H D I0 ⟨Z,E,β,⟨own,sq,n⟩,h,ok⟩=>?_⟩;refine pW (g:=⟨.Name x px,cF,ifs,0⟩) (gs:=[]) (tg:=λ_=>uS T) (tt:=λa=>jG X (C.u λc=>c=a) true τ) (ta:=λa N σ H=>∃v,σ[T]?=some (some v)/\∃xs,H a=some (.lst xs)/\xs.length<UW/\N σ (upd H a (.lst (xs++[v]))))
  L' hc iE sS CU rfl hN hy hx hf (λ_ _=>AB) (hi λa=>H a=none).pi (λa cl c s H ex=>⟨uu wR Qu (OD cl c s H ex) (SK cl c s H ex),(sR _ cl c s H ex).pt,iD rfl (cL Qu (hv cl c s H ex) hd fH)⟩) hs pins s σ H D I0 ?_
 refine⟨β,own,sq.jE (C:=C.z) (U:=λa=>H a=none) λa z=>z,(hi λ_=>False).mono β _ _ (λds k β1 ⟨hk,q⟩ J H1 aB o1 it a ha=>?_) h⟩;subst hk;refine wV (C:=C.u λa=>H a=none) (sR (λ_=>False) [] 0 X.s₀ X.H₀ []).mono (eV L' wR) (λj e=>by rw[hT]at e;cases e) (U0.mp hT).1 o1.sq ha it q λo H' q o2 r=>?_
 have r':=r.later o1.sn;have oo:=o1.xu o2 λz=>⟨z,rfl⟩;have m:=n.trans oo.sn;exact ok.nx _ _ _ ⟨_,(bz.Qf oo.sq).cK (ay.aO (λa z=>z.elim id λz=>z.elim) (KV.rep r')),i6 m⟩ q
end
end L2.Q
namespace hG
open PySem L2 L2.Q
section
variable {P:UP}{w:U1}{K:PySem.W.Frag}{mg:Str->Option UK}{base:Heap}{cA:Addr}{c:Nat->Addr}
theorem kY:aG ["script","k"] ["script","k"] (ak cQ):=⟨rfl,rfl,rfl,by decide +kernel,rfl,by decide +kernel,by decide +kernel⟩
def yh (K:PySem.W.Frag):Sp:=λvs H Q _=>∃(a:Addr) (ns:List Int),vs=[.ref a,.int 0]/\dO K H a (ns.map V.int)/\∀c:Int,Q (.int c) H
theorem Cq {Dg u4} (Iu:Q4 K mg Dg u4) (B:Bs mg):aL P w K mg base bS 1 Dg u4 ["script","k"] (yh K):=by
 refine Iu.F.ok kY (λvs H Q E h=>?_) (λb7 A outer s H vs Qk E hr h=>?_)
 ·obtain⟨a,ns,rfl,_⟩:=h;rfl
 ·obtain⟨a,ns,rfl,hS,k⟩:=h;refine⟨_,bX (yC (oq DZ (pv 1) (eR fA (by rfl) B.len l3 (a6 (pv 0) cy)) (zj _)) (d7 (f7 (gL cS (pv 0) (pv 1) (λ_ _=>rfl)))) ot) (d7 (f7 aY)),?_⟩
  refine⟨_,rfl,_,rfl,a,_,rfl,.inl hS,0,_,rfl,rfl,_,rfl,?_⟩;dsimp only
  split
  ·rename_i hl
   cases ns with
   |nil=>exact absurd hl (by decide)
   |cons n ns=>exact⟨_,rfl,_,rfl,a,_,0,.int n,rfl,rfl,hS,(by unfold mK;rw[show wH (List.map V.int (n::ns)).length 0=some 0 by unfold wH;rw[if_pos (by decide),if_pos (by rw[UN,U7];lia)];rfl];rfl),k n⟩
  ·exact k 0
theorem c3:aG ["script","cell","deck","row","handed","some","tie","due","listed","told"] ["script"] (ak k7):=⟨rfl,rfl,rfl,by decide +kernel,rfl,by decide +kernel,by decide +kernel⟩
def yf (K:PySem.W.Frag):Sp:=λvs H Q _=>∃(a:Addr) (ns:List Int),vs=[.ref a]/\dO K H a (ns.map V.int)/\ns.length<=63/\∀H',Q (.bl true) H'
def JL (β:Q.a3):Prop:=∃y0 y1 y2 y3 y4 y5 y6 y7 y8 y9:Option Q.B,β=[y0,y1,y2,y3,y4,y5,y6,y7,y8,y9]
theorem F5 {f:Addr} {fd:Vs} (F:AX K "law" "law" k7 f fd) (B:rP mg) (bV:mg "ValueError" = none) (ZA:XA K mg cA c) {tf nD} (EE:PD K mg tf nD) {qL jR} (Bb:MN K mg qL jR) {Ba mH} (dS:LV K mg Ba mH) {A_ mG} (dX:D9 K mg A_ mG) {qN jT} (Bd:D8 K mg qN jT) {mI gM} (xE:D7 K mg mI gM) {j3 fK} (vh:D3 K mg j3 fK) {j0 fJ} (vg:D2 K mg j0 fJ) {jZ fI} (vf:D6 K mg jZ fI) {gk cY} (pz:D5 K mg gk cY) {iO d_} (rL:D4 K mg iO d_) {wW nC} (EC:Pz K mg wW nC) {C7 uV} (xD:Q6 K mg C7 uV) {C_ uY} (Dv:Q8 K mg C_ uY) {C9 uX} (Im:Q5 K mg C9 uX) {Dc uZ} (Iq:Q9 K mg Dc uZ) {wX nE} (Ar:PC K mg wX nE) {qM jS} (vj:MM K mg qM jS) {mJ gN} (xb:LU K mg mJ gN) {C8 uW} (Il:Q_ K mg C8 uW) {S_ O6} (dM:T5 K mg S_ O6) {Dd u3} (Ir:Ra K mg Dd u3) {Dg u4} (Iu:Q4 K mg Dg u4) {Ta O7} (dH:T4 K mg Ta O7) {Ls z8} (dT:D1 K mg Ls z8) {Mz C6} (dR:D0 K mg Mz C6):aL P w K mg base bS 45 f fd ["script"] (yf K):=by
 have T3:aL P w K mg base bS 1 _ _ _ (yh K):=Cq Iu B.toBs;have GH:aL P w K mg base bS 1 _ _ _ (dU P w true z_):=Co dH.F B.toBs;have GT:aL P w K mg base bS 1 _ _ _ (me P w l6 true bR):=oJ dT.F;have GR:aL P w K mg base bS 3 _ _ _ (me P w l6 true qQ):=F3 dR dT B.toBs;have T1:aL P w K mg base bS 1 _ _ _ (dU P w true qU):=wg Ir B.toBs;have TH:aL P w K mg base bS 3 _ _ _ (dU P w false qP):=Cj Il vj xb B;have TU:aL P w K mg base bS 3 _ _ _ (dU P w true Aa):=F6 Iq vj xb Ar B;have Q0:aL P w K mg base bS 1 _ _ _ (dU P w true Ik):=Jy Dv B;have TQ:aL P w K mg base bS 2 _ _ _ (me P w l6 true qS):=Cm Im dT B;have Pw:aL P w K mg base bS 6 _ _ _ (dU P w true lS):=Cg xD EE Bb dS dX Bd xE vh vg vf pz rL EC B bV ZA;refine F.ok c3 (λvs H Q E h=>?_) (λb7 A outer s H vs Qk E hr h=>?_)
 ·obtain⟨a,ns,rfl,_⟩:=h;rfl
 ·obtain⟨a,ns,rfl,hS,hlen,k⟩:=h;have OL:∀b:Addr,¬ (λ_=>False) b:=λb z=>z;obtain⟨ψ,hb,hψ⟩:∃ψ,Q.o_ (j4 bS P w K mg base _ "law" (ak k7) f b7 A outer s H E).sF ⟨H,λ_=>False,true,λ_=>False⟩ (match (dk k7)with | .For _ _ b _ _::_=>b|_=>[]) ψ /\
    ∀(c:Int) (x0 x2 x3 x4 x5 x6 x7 x8 x9:Option Q.B),ψ {nx:=JL,rt:=λd _=>d=.bl true,bk:=JL,ct:=JL} [x0,some (.val true (.int c)),x2,x3,x4,x5,x6,x7,x8,x9]:=by
   refine⟨_,(aj (B4 (i:=2) l6 OL (λ_=>(aW z_.mono GH (hr.mono (by decide)) dH.m dH.F.kp dH.b (aa (ae (i:=1)) af))) c3.nd)
    (aj (aR (i:=3) (bj (ih:=2) qQ.mono GR (hr.mono (by decide)) dR.m dR.F.kp dR.b (aa ah af)) c3.nd)
    (aj (aR (i:=4) (aW qU.mono T1 (hr.mono (by decide)) Ir.m Ir.F.kp Ir.b (aa (ae (i:=3)) af)) c3.nd)
    (aj (aR (i:=5) (aI ag bg (ae (i:=3)) ah) c3.nd)
    (di (c7 (aJ ag (bK.m ze) (bL ag (cJ.m gE) B.len l3 (aa (ae (i:=5)) af)) ah) (ar (aR (i:=5) (Gp ["k","some","deck"] [none,some 5,some 2] (by rfl) (by decide:(["k","some","deck"]:List Str).Nodup) rfl (dC B.range (aa ah af)) (λ_ _ _ _ _ _=>(au (i:=0) (by decide:(["k","some","deck"]:List Str).Nodup))) (λ_ _ _ _ _ _=>iZ) (λ_ _ _ _ _ _=>(aI ag bg (ae (i:=1)) (bj (ih:=2) bR.mono GT (hr.mono (by decide)) dT.m dT.F.kp dT.b (aa (bL ag (cJ.m gE) B.len l3 (aa (ae (i:=1)) af)) af))))) c3.nd)) bx)
    (aj (c4 VS rfl (a7 (ae (i:=5))) (au (i:=6) c3.nd) (aj (aR (i:=7) (aW Aa.mono TU (hr.mono (by decide)) Iq.m Iq.F.kp Iq.b (aa (ae (i:=3)) (aa (ae (i:=6)) af))) c3.nd)
    (di (c7 (aJ ag (bK.m bG) (aI ag bg (ae (i:=3)) ah) ah) (aj (Nc (i:=8) 0 ["one","tie"] [none,some 6] (by rfl) (by decide:(["one","tie"]:List Str).Nodup) rfl (λ_=>(a7 (aW qP.mono TH (hr.mono (by decide)) Il.m Il.F.kp Il.b (aa (ae (i:=3)) af)))) (λ_ _ _ _ _ _=>(eD (aJ ag (bK.m (lB hr.dQ)) (ae (i:=1)) (ae (i:=0))))) c3.nd)
    (ar (c7 (aJ ag (bK.m (jh hr.units)) (bL ag (cJ.m gE) B.len l3 (aa (ae (i:=8)) af)) (ae (i:=7))) (ar (a5 jN)) bx))) bx)
    (di (aR (i:=9) (ba (aa (aW lS.mono Pw (hr.mono (by decide)) xD.m xD.F.kp xD.b (aa (ae (i:=4)) (aa (ae (i:=6)) af))) (aa (aW lS.mono Pw (hr.mono (by decide)) xD.m xD.F.kp xD.b (aa (ae (i:=4)) (aa (ae (i:=6)) af))) af))) c3.nd)
    (ar (c7 (pB.t (gX (iB (dh (aW Ik.mono Q0 (hr.mono (by decide)) Dv.m Dv.F.kp Dv.b (aa (aI ag bg (ae (i:=9)) ah) (aa (ae (i:=7)) af))))) (iy (iB (dh (aW Ik.mono Q0 (hr.mono (by decide)) Dv.m Dv.F.kp Dv.b (aa (aI ag bg (ae (i:=9)) ah) (aa (ae (i:=7)) af)))))))) (ar (a5 jN)) bx))))))
    (aj (c4 VS rfl (a7 (bj (ih:=2) qS.mono TQ (hr.mono (by decide)) Im.m Im.F.kp Im.b (aa (ae (i:=3)) af))) (au (i:=6) c3.nd) (ar (c7 (aJ ag (bK.m (jh hr.units)) (aW lS.mono Pw (hr.mono (by decide)) xD.m xD.F.kp xD.b (aa (ae (i:=4)) (aa (ae (i:=6)) af))) jb) (ar (a5 jN)) bx)))
    (ar (c7 (aJ ag (bK.m (jh hr.units)) (ae (i:=4)) (ae (i:=3))) (ar (a5 jN)) bx))))))))),λcc x0 x2 x3 x4 x5 x6 x7 x8 x9=>?_⟩
   refine⟨_,rfl,trivial,cc,rfl,λns hk=>⟨trivial,(by show 2<10;decide),ns,rfl,hk,?_⟩⟩
   refine⟨rfl,trivial,rfl,trivial,40,rfl,by decide,by decide,λn ts n0 n1 dr=>?_⟩
   obtain⟨hl,tr,sr,nd⟩:=dr;obtain⟨m,ps,ok,en,Tf,er⟩:=BG n0 (by lia) (by lia) tr nd
   rw[er];have hm:m<=40:=by lia
   have H9:=ok.sm;have hs:xp ps:=Fe (by rw[<- Tf];exact sr) ok.nd
   refine⟨_,rfl,trivial,m,ps,rfl,?_⟩;refine⟨_,rfl,trivial,_,rfl,.inr ?_⟩;refine⟨λβ=>∃qs x6 x7 x8 x9,β=[x0,some (.val true (.int cc)),some (.hand l6),some (.val true (gU m ps)),some (.val true (gU m ps)),some (.val true (dJ qs)),x6,x7,x8,x9]/\∀t∈qs,t∈ps,?_,?_⟩
   ·refine⟨_,rfl,trivial,_,rfl,trivial,_,rfl,_,rfl,mD (λQQ=>?_) λQQ=>⟨ps,_,_,_,_,rfl,λt h=>h⟩⟩;rw[UN]at QQ;refine⟨trivial,6,rfl,by decide,by decide,trivial,?_⟩
    refine⟨λi β o=>(∃x0,β=[x0,some (.val true (dJ ps)),some (.hand l6)])/\i<=6/\∃qs:List (Nat×Nat),o=qs.map (λp=>kD (tI p))/\qs.length=i/\∀t∈qs,t∈ps,⟨⟨_,rfl⟩,U4 _,[],rfl,rfl,λt h=>nomatch h⟩,?_,?_⟩
    ·rintro i d β o hd ⟨⟨y0,rfl⟩,hi,qs,rfl,Kf,Ke⟩;have fG:i<6:=by
      have:=(U0.mp hd).1
      rwa [eP]at this
     obtain⟨_,rfl⟩:=eQ hd;refine⟨_,rfl,trivial,rfl,_,rfl,trivial,_,rfl,trivial,rfl,trivial,(ps.length:Int),by rw[UN],by lia,by lia,λr r0 r1=>?_⟩
     obtain⟨j,rfl⟩:=Int.eq_ofNat_of_zero_le r0;obtain⟨pr,Mo⟩:∃p,ps[j]?=some p:=⟨_,Vh (by lia)⟩
     refine⟨_,qz (d:=kD (tI pr)) (i:=j) rfl (by rw[U8,Mo];rfl),rfl,yc (by rw[UN];lia),⟨_,rfl⟩,fG,qs++[pr],by rw[Vb];rfl,by rw[Vr,Kf];rfl,λt h=>?_⟩
     rcases Vl.mp h with h|h
     ·exact Ke t h
     ·rw[UX.mp h];exact Vx Mo
    ·rintro β o ⟨⟨y0,rfl⟩,_,qs,rfl,Kf,Ke⟩;exact⟨⟨rfl,trivial⟩,qs,_,_,_,_,rfl,Ke⟩
   ·rintro β ⟨qs,x6,x7,x8,x9,rfl,Ke⟩;refine⟨_,rfl,_,rfl,trivial,?_⟩;refine⟨λ_ β=>∃x6 x7 x8 x9,β=[x0,some (.val true (.int cc)),some (.hand l6),some (.val true (gU m ps)),some (.val true (gU m ps)),some (.val true (dJ qs)),x6,x7,x8,x9],⟨_,_,_,_,rfl⟩,?_,?_⟩
    ·rintro i d β hd ⟨x6,x7,x8,x9,rfl⟩;rw[U8]at hd;obtain⟨t,N5,rfl⟩:=U3.mp hd;have ht:=Ke t (Vx N5);refine⟨_,rfl,trivial,_,rfl,trivial,m,ps,t,rfl,ok,hm,ht,?_⟩;refine⟨λβ=>∃x8 x9,β=[x0,some (.val true (.int cc)),some (.hand l6),some (.val true (gU m ps)),some (.val true (gU m ps)),some (.val true (dJ qs)),some (.val true (kD (tI t))),some (.val true (.int (sT (ps.filter (fB t)) m 0))),x8,x9],?_,?_⟩
     ·refine⟨_,rfl,trivial,_,rfl,trivial,_,rfl,_,rfl,mD (λh7=>?_) λh7=>⟨_,_,rfl⟩⟩;have hw:sa ps m 0<=362880:=by
       have h1:=pP (λp h=>(ok.lt p h).1) ok.nd m 0;have h2:=eX (show m+1<=9 by lia)
       have h3:l8 9=362880:=by decide
       lia
      refine⟨_,rfl,trivial,m,ps,rfl,ok,by lia,hs,_,rfl,rfl,Gk (λo:List (Nat×Nat)=>decide (t∈o)) trivial (by rw[oY,Wd];lia) (λo ho R' hR=>?_) ?_⟩
      ·have uP:Io (kD (tI t)) (dJ o)=some (.bl (decide (t∈o))):=by
        have:=Dw (tI t) (o.map tI);rw[VB]at this;refine this.trans ?_
        congr 2
        exact decide_eq_decide.mpr ⟨λz=>by obtain⟨x,hx,e⟩:=Vv.mp z;rw[<- eE e];exact hx,λz=>W8 z⟩
       exact⟨_,rfl,trivial,_,rfl,_,uP,_,rfl,hR⟩
      ·have hlen:LC [.lst (((u6 ps m (sa ps m 0)).filter λo=>decide (t∈o)).map dJ)]=some (.int (sT (ps.filter (fB t)) m 0)):=by
        show some (D.int _)=_;rw[UN,xO ok hs ht]
       exact⟨_,rfl,trivial,_,hlen,trivial,_,rfl,_,qZ (bH _),_,rfl,fN rfl ⟨_,_,rfl⟩⟩
     ·rintro β ⟨x8,x9,rfl⟩;generalize QJ:sT (ps.filter (fB t)) m 0=dv;refine⟨λβ=>β=[x0,some (.val true (.int cc)),some (.hand l6),some (.val true (gU m ps)),some (.val true (gU m ps)),some (.val true (dJ qs)),some (.val true (kD (tI t))),some (.val true (.int dv)),x8,some (.val true (.lst [.int dv,.int dv]))],?_,?_⟩
      ·have Mr:∀P:Prop,tI t∉ps.map tI->P:=λP z=>absurd (W8 ht) z;refine⟨_,rfl,trivial,_,rfl,trivial,m,ps,tI t,rfl,ok,hm,Mr _,λp hp e=>?_⟩;cases eE e;rw[QJ];refine⟨trivial,_,rfl,trivial,_,rfl,trivial,m,ps,tI t,rfl,ok,hm,Mr _,λp hp e=>?_⟩;cases eE e;rw[QJ];exact⟨trivial,gJ,rfl⟩
      ·rintro β rfl;exact⟨_,rfl,trivial,_,rfl,trivial,_,rfl,trivial,dv,rfl,_,rfl,fN rfl ⟨_,rfl,trivial,_,rfl,trivial,_,rfl,trivial,dv,rfl,_,rfl,fN rfl ⟨_,_,_,_,rfl⟩⟩⟩
    ·rintro β ⟨x6,x7,x8,x9,rfl⟩;refine⟨rfl,_,rfl,trivial,rfl,trivial,m,ps,rfl,ok,hm,λns Qx Uu Mr=>⟨_,rfl,trivial,?_⟩⟩;refine⟨λ_ β=>∃x6,β=[x0,some (.val true (.int cc)),some (.hand l6),some (.val true (gU m ps)),some (.val true (gU m ps)),some (.val true (dJ qs)),x6,x7,x8,x9],⟨_,rfl⟩,?_,?_⟩
     ·rintro i d β hd ⟨x6,rfl⟩;rw[U8]at hd;obtain⟨t,N5,rfl⟩:=U3.mp hd;have Mk:=Vx N5;obtain⟨tx,ty,rfl⟩:=Qx t Mk;exact⟨_,rfl,trivial,_,rfl,trivial,m,ps,_,rfl,ok,hm,λ_=>⟨trivial,_,Dn _ _,_,rfl,fN (by decide) ⟨_,rfl⟩⟩,λp hp e=>absurd (by rw[e];exact W8 hp) (Mr _ Mk)⟩
     ·rintro β ⟨x6,rfl⟩;exact⟨_,rfl,trivial,_,rfl,_,qZ (yi _ _),_,rfl,fN rfl ⟨_,_,_,_,_,_,_,_,_,_,rfl⟩⟩
  refine⟨_,bX (yD VS rfl (ur (bY zg (pY uc (pv 0) uk (uj aY)) (oE (a6 (oF T3 (hr.mono (by decide)) (by rfl) Iu.m Iu.F.kp Iu.b .nil yW (a6 (pv 0) (a6 aY cy))) cy)))) (Q.au (C:=⟨H,λ_=>False,true,λ_=>False⟩) (i:=1) c3.nd).pg hb.ps) (d7 (f7 yT)),?_⟩
  obtain⟨ms,em,hm⟩:=xf ns none (some 5);refine⟨_,rfl,_,rfl,a,_,rfl,hS,λp2 Mp=>⟨_,rfl,a,ns,rfl,(aw.new Mp).seq hS,λc0=>⟨(by show 1<=UW;decide),λp1 Ia=>?_⟩⟩⟩
  have RX:p2≠p1:=b_ ao Ia;refine⟨p2,p1,_,_,rfl,rfl,(by rw[az RX];exact ao),ao,(by rw[em,UN,Wd,WR];lia),λl hl=>⟨l,rfl,⟨_,dO.of ao⟩,?_⟩⟩
  rw[em];rw[em]at hl;rw[em]at Ia;have sm:aw H (upd (upd (upd H p2 (.lst (ms.map V.int))) p1 (.lst [V.int c0])) l (.lst (ms.map V.int++[V.int c0]))):=((aw.new Mp).trans (aw.new Ia)).trans (aw.new hl);have nB:(upd (upd (upd H p2 (.lst (ms.map V.int))) p1 (.lst [V.int c0])) l (.lst (ms.map V.int++[V.int c0]))) l=some (.lst ((ms++[c0]).map V.int)):=by rw[Vb];exact ao
  generalize (upd (upd (upd H p2 (.lst (ms.map V.int))) p1 (.lst [V.int c0])) l (.lst (ms.map V.int++[V.int c0])))=H1 at sm nB ⊢
  generalize (ms++[c0])=cs at nB;let X:Cx:=(j4 bS P w K mg base ["script","cell","deck","row","handed","some","tie","due","listed","told"] "law" (ak k7) f b7 A outer s H E).sF
  let C:Q.Cfg:=⟨H,λ_=>False,true,λ_=>False⟩
  have it:AV X (λ_=>False) (ML K l) (cs.map D.int) H1:=qD nB (λz=>z) (bN cs);have Ei:=it (λb=>(λ_=>False) b\/H1 b=none) λb z=>z;have s':Q.bz P w C.z (L2.start ["script","cell","deck","row","handed","some","tie","due","listed","told"] [.ref a]) H1 (Vg 10 none) (λ_=>[]):=Bu (by rfl) sm
  generalize SO:cs.map D.int=ds at Ei;have hint:∀d∈ds,∃c:Int,d=.int c:=λd hd=>by
   rw[<- SO]at hd;obtain⟨c,_,rfl⟩:=Vv.mp hd;exact⟨c,rfl⟩
  refine⟨λi m σ H'=>i<=ds.length/\m=ds.length-i/\∃β,Q.SB X C (H1,Q.Wn λ_=>[]) σ H' β/\JL β,⟨_,U4 _,rfl,_,⟨_,s',Sn.refl⟩,⟨_,_,_,_,_,_,_,_,_,_,rfl⟩⟩,?_⟩;rintro i m σ2 H2 ⟨hi,rfl,β2,⟨aZ,s2,n2⟩,⟨y0,y1,y2,y3,y4,y5,y6,y7,y8,y9,rfl⟩⟩;obtain⟨cF,mz⟩:=Ei i H2 (n2.k.mono λb z=>z.imp (λKk=> by obtain⟨_,q⟩ := Kk;exact(nomatch q)) id)
  by_cases fG:i<ds.length
  ·right
   have hd:ds[i]?=some ds[i]:=Vh fG;obtain⟨go,yl⟩:=cF _ hd;obtain⟨c,hc⟩:=hint ds[i] (YT fG);refine⟨go,λσ' H'=>∃β,Q.SB X C (H1,Q.Wn λ_=>[]) σ' H' β/\JL β,λσ' H' Kj=> by obtain⟨β',sf,wO⟩ := Kj;exact⟨_,by lia,fG,rfl,β',sf,wO⟩,λx H3 y=>?_⟩
   obtain⟨s3,r3⟩:=yl x H3 y;rw[hc]at r3;refine⟨aZ,_,.int c,.own,s2.same s3,ay.flat rfl r3,λσ4 qb s4 w4 _=>?_⟩;exact⟨(H1,Q.Wn λ_=>[]),{nx:=JL,rt:=λd _=>d=.bl true,bk:=JL,ct:=JL},_,⟨qb,s4,Q.ik (n2.same s3) w4⟩,hψ c y0 y2 y3 y4 y5 y6 y7 y8 y9,⟨λσ5 H5 β5 vN q5=>⟨β5,vN,q5⟩,λσ5 H5 β5 d5 v5 vN r5 q5=>by
    subst q5;cases (show v5=V.bl true from I_ r5)
    exact k _,λσ5 H5 β5 vN q5=>k _,λσ5 H5 β5 vN q5=>⟨β5,vN,q5⟩⟩⟩
  ·left
   have e:i=ds.length:=by lia
   subst e;exact⟨mz (UO _),k _⟩
end
theorem oT {α:Type}{P:List α->Prop}(h:∀a,P [a]):∀us:List α,us.length=1->P us:=λus e=>by
 obtain⟨a,rfl⟩:=List.length_eq_one_iff.mp e;exact h a
theorem gh {α:Type}{P:List α->Prop}(h:∀a b,P [a,b]):∀us:List α,us.length=2->P us:=λus e=>by
 cases us with
 |nil=>cases e
 |cons a us=>exact oT (P:=λus=>P (a::us)) (h a) us (X1 e)
theorem JX {α:Type}{P:List α->Prop}(h:∀a b c,P [a,b,c]):∀us:List α,us.length=3->P us:=λus e=>by
 cases us with
 |nil=>cases e
 |cons a us=>exact gh (P:=λus=>P (a::us)) (h a) us (X1 e)
theorem NM {α:Type}{P:List α->Prop}(h:∀a b c d,P [a,b,c,d]):∀us:List α,us.length=4->P us:=λus e=>by
 cases us with
 |nil=>cases e
 |cons a us=>exact JX (P:=λus=>P (a::us)) (h a) us (X1 e)
theorem z6 {K:PySem.W.Frag}{x m:Str}{st:Stmt}{t c f:Nat}(l:K.lookup f=some (kF st x m t c))(cd:PySem.W.codeIn K (.ref c) x=true)(k:PySem.W.keepIn K (.ref f)=true):AX K x x st f (Md st x m t c):=Hk l cd k
theorem bC {K:PySem.W.Frag}{h:Heap}{mg:Str->Option UK}{x m:Str}{st:Stmt}{t c f:Nat}{ps:List Str}(X:K.In h)(G:h.Ns Wh mg)(l:K.lookup f=some (kF st x m t c))(cd:PySem.W.codeIn K (.ref c) x=true)(k:PySem.W.keepIn K (.ref f)=true)
  (a:PySem.W.nsIn K Wh x=some (some (.ref f))) (b:∀us:List UK,us.length=ps.length->bindArgs (Md st x m t c) ⟨us,[]⟩=pure (ps.zip us)):Df K mg x st ps f (Md st x m t c):=⟨z6 l cd k,.all b,PySem.W.mg_of X G a⟩
abbrev cX (i:Nat):Addr:=[37,49,61,73,85,97,109,121,133,145,157,169].getD i 0
theorem all_mk {l:PySem.W.OpenLaw} (w:U1) (mg:Str->Option UK) (fa:Addr) (h:Heap) (X:(KK w.params).In h) (G:h.Ns Wh mg) (SM:mg "law" = some (.ref fa))   :∃fd:Vs,(∀(s:UL) (v:UK),BindsTo s fd ⟨[v],[]⟩ [("script",v)])/\∀base:Heap,(KK w.params).In base->base.Ns Wh mg->aL l.prog w (KK w.params) mg base bS 45 fa fd ["script"] (yf (KK w.params)):=by
 have e:=SM.symm.trans (PySem.W.mg_of X G (v:=.ref 338) (by kernel_rfl))
 cases e;have JQ:=PySem.W.mg_none_of X G (n:="max") (by kernel_rfl)
 have JP:=PySem.W.mg_none_of X G (n:="min") (by kernel_rfl)
 have JS:=PySem.W.mg_none_of X G (n:="int") (by kernel_rfl)
 have Cz:=PySem.W.mg_none_of X G (n:="range") (by kernel_rfl)
 have zm:=PySem.W.mg_none_of X G (n:="sorted") (by kernel_rfl)
 have JO:=PySem.W.mg_none_of X G (n:="set") (by kernel_rfl)
 have JR:=PySem.W.mg_none_of X G (n:="len") (by kernel_rfl)
 have Gb:=PySem.W.mg_none_of X G (n:="list") (by kernel_rfl)
 have oN:=PySem.W.mg_none_of X G (n:="isinstance") (by kernel_rfl)
 have Cy:=PySem.W.mg_none_of X G (n:="tuple") (by kernel_rfl)
 have JN:=PySem.W.mg_none_of X G (n:="str") (by kernel_rfl)
 have Ge:=PySem.W.mg_none_of X G (n:="bool") (by kernel_rfl)
 have JK:=PySem.W.mg_none_of X G (n:="zip") (by kernel_rfl)
 have qh:=PySem.W.mg_none_of X G (n:="enumerate") (by kernel_rfl)
 have JM:=PySem.W.mg_none_of X G (n:="sum") (by kernel_rfl)
 have oO:=PySem.W.mg_none_of X G (n:="ValueError") (by kernel_rfl)
 have B:=(⟨⟨⟨JQ,JP,JS,Cz,zm,JO,JR,Gb⟩,oN,Cy,JN,Ge,JK,qh⟩,JM⟩:rP mg);have ZA:XA (KK w.params) mg 24 cX:=Iz (by kernel_rfl) (PySem.W.mg_of X G (v:=.ref 24) (by kernel_rfl)) λi x h=>by
  match i,h with
  |0,h=>cases h;exact PySem.W.mg_of X G (v:=.ref 37) (by kernel_rfl)
  |1,h=>cases h;exact PySem.W.mg_of X G (v:=.ref 49) (by kernel_rfl)
  |2,h=>cases h;exact PySem.W.mg_of X G (v:=.ref 61) (by kernel_rfl)
  |3,h=>cases h;exact PySem.W.mg_of X G (v:=.ref 73) (by kernel_rfl)
  |4,h=>cases h;exact PySem.W.mg_of X G (v:=.ref 85) (by kernel_rfl)
  |5,h=>cases h;exact PySem.W.mg_of X G (v:=.ref 97) (by kernel_rfl)
  |6,h=>cases h;exact PySem.W.mg_of X G (v:=.ref 109) (by kernel_rfl)
  |7,h=>cases h;exact PySem.W.mg_of X G (v:=.ref 121) (by kernel_rfl)
  |8,h=>cases h;exact PySem.W.mg_of X G (v:=.ref 133) (by kernel_rfl)
  |9,h=>cases h;exact PySem.W.mg_of X G (v:=.ref 145) (by kernel_rfl)
  |10,h=>cases h;exact PySem.W.mg_of X G (v:=.ref 157) (by kernel_rfl)
  |11,h=>cases h;exact PySem.W.mg_of X G (v:=.ref 169) (by kernel_rfl)
  |n+12,h=>cases h
 exact⟨_,λs v=>.of_eq rfl,λbase _ _=>F5 (z6 (x:="law") (m:="law_archrow_k21_sets_with_a_tie") (st:=k7) (t:=490) (c:=337) (f:=338) (by kernel_rfl) (by kernel_rfl) (by kernel_rfl)) B oO ZA (bC X G (x:="count_with") (m:="archrow.counted") (st:=cq) (t:=467) (c:=232) (f:=233) (ps:=["row","tie"]) (by kernel_rfl) (by kernel_rfl) (by kernel_rfl) (by kernel_rfl) (gh λ_ _=>rfl))
  (bC X G (x:="row_beside") (m:="archrow.arcs") (st:=da) (t:=399) (c:=189) (f:=190) (ps:=["row","tie"]) (by kernel_rfl) (by kernel_rfl) (by kernel_rfl) (by kernel_rfl) (gh λ_ _=>rfl))
  (bC X G (x:="share_a_point") (m:="archrow.arcs") (st:=b5) (t:=399) (c:=184) (f:=185) (ps:=["one","other"]) (by kernel_rfl) (by kernel_rfl) (by kernel_rfl) (by kernel_rfl) (gh λ_ _=>rfl))
  (bC X G (x:="arcs_cross") (m:="archrow.arcs") (st:=dg) (t:=399) (c:=177) (f:=178) (ps:=["one","other"]) (by kernel_rfl) (by kernel_rfl) (by kernel_rfl) (by kernel_rfl) (gh λ_ _=>rfl))
  (bC X G (x:="count_sets") (m:="archrow.counted") (st:=df) (t:=467) (c:=225) (f:=226) (ps:=["row"]) (by kernel_rfl) (by kernel_rfl) (by kernel_rfl) (by kernel_rfl) (oT λ_=>rfl))
  (bC X G (x:="counts_of") (m:="archrow.counted") (st:=d3) (t:=467) (c:=237) (f:=238) (ps:=["row"]) (by kernel_rfl) (by kernel_rfl) (by kernel_rfl) (by kernel_rfl) (oT λ_=>rfl))
  (bC X G (x:="partners_of") (m:="archrow.stretches") (st:=cP) (t:=427) (c:=199) (f:=200) (ps:=["row"]) (by kernel_rfl) (by kernel_rfl) (by kernel_rfl) (by kernel_rfl) (oT λ_=>rfl))
  (bC X G (x:="stretches_rising") (m:="archrow.stretches") (st:=bF) (t:=427) (c:=194) (f:=195) (ps:=["many"]) (by kernel_rfl) (by kernel_rfl) (by kernel_rfl) (by kernel_rfl) (oT λ_=>rfl))
  (bC X G (x:="ways_by") (m:="archrow.stretches") (st:=gu) (t:=427) (c:=218) (f:=219) (ps:=["counts","choices","i","j"]) (by kernel_rfl) (by kernel_rfl) (by kernel_rfl) (by kernel_rfl) (NM λ_ _ _ _=>rfl))
  (bC X G (x:="ways_in") (m:="archrow.stretches") (st:=gq) (t:=427) (c:=213) (f:=214) (ps:=["counts","parts"]) (by kernel_rfl) (by kernel_rfl) (by kernel_rfl) (by kernel_rfl) (gh λ_ _=>rfl))
  (bC X G (x:="parts_left") (m:="archrow.stretches") (st:=dc) (t:=427) (c:=206) (f:=207) (ps:=["i","k","j"]) (by kernel_rfl) (by kernel_rfl) (by kernel_rfl) (by kernel_rfl) (JX λ_ _ _=>rfl))
  (bC X G (x:="_law_kind") (m:="law_archrow_k21_sets_with_a_tie") (st:=fk) (t:=490) (c:=303) (f:=304) (ps:=["caught"]) (by kernel_rfl) (by kernel_rfl) (by kernel_rfl) (by kernel_rfl) (oT λ_=>rfl))
  (bC X G (x:="_law_told") (m:="law_archrow_k21_sets_with_a_tie") (st:=fe) (t:=490) (c:=320) (f:=321) (ps:=["row","tie"]) (by kernel_rfl) (by kernel_rfl) (by kernel_rfl) (by kernel_rfl) (gh λ_ _=>rfl))
  (bC X G (x:="_law_is") (m:="law_archrow_k21_sets_with_a_tie") (st:=ir) (t:=490) (c:=327) (f:=328) (ps:=["found","due"]) (by kernel_rfl) (by kernel_rfl) (by kernel_rfl) (by kernel_rfl) (gh λ_ _=>rfl))
  (bC X G (x:="_law_none") (m:="law_archrow_k21_sets_with_a_tie") (st:=fh) (t:=490) (c:=332) (f:=333) (ps:=["deck","row"]) (by kernel_rfl) (by kernel_rfl) (by kernel_rfl) (by kernel_rfl) (gh λ_ _=>rfl))
  (bC X G (x:="_law_due") (m:="law_archrow_k21_sets_with_a_tie") (st:=gw) (t:=490) (c:=313) (f:=314) (ps:=["row","tie"]) (by kernel_rfl) (by kernel_rfl) (by kernel_rfl) (by kernel_rfl) (gh λ_ _=>rfl))
  (bC X G (x:="_law_count") (m:="law_archrow_k21_sets_with_a_tie") (st:=dZ) (t:=490) (c:=308) (f:=309) (ps:=["many","ties"]) (by kernel_rfl) (by kernel_rfl) (by kernel_rfl) (by kernel_rfl) (gh λ_ _=>rfl))
  (bC X G (x:="_law_fits") (m:="law_archrow_k21_sets_with_a_tie") (st:=fm) (t:=490) (c:=286) (f:=287) (ps:=["some","tie"]) (by kernel_rfl) (by kernel_rfl) (by kernel_rfl) (by kernel_rfl) (gh λ_ _=>rfl))
  (bC X G (x:="_law_do_cross") (m:="law_archrow_k21_sets_with_a_tie") (st:=cn) (t:=490) (c:=279) (f:=280) (ps:=["one","other"]) (by kernel_rfl) (by kernel_rfl) (by kernel_rfl) (by kernel_rfl) (gh λ_ _=>rfl))
  (bC X G (x:="_law_sets") (m:="law_archrow_k21_sets_with_a_tie") (st:=fg) (t:=490) (c:=291) (f:=292) (ps:=["row"]) (by kernel_rfl) (by kernel_rfl) (by kernel_rfl) (by kernel_rfl) (oT λ_=>rfl))
  (bC X G (x:="_law_same") (m:="law_archrow_k21_sets_with_a_tie") (st:=gT) (t:=490) (c:=296) (f:=297) (ps:=["found","due"]) (by kernel_rfl) (by kernel_rfl) (by kernel_rfl) (by kernel_rfl) (gh λ_ _=>rfl))
  (bC X G (x:="_law_copied") (m:="law_archrow_k21_sets_with_a_tie") (st:=de) (t:=490) (c:=272) (f:=273) (ps:=["row"]) (by kernel_rfl) (by kernel_rfl) (by kernel_rfl) (by kernel_rfl) (oT λ_=>rfl))
  (bC X G (x:="_law_cell_at") (m:="law_archrow_k21_sets_with_a_tie") (st:=cQ) (t:=490) (c:=244) (f:=245) (ps:=["script","k"]) (by kernel_rfl) (by kernel_rfl) (by kernel_rfl) (by kernel_rfl) (gh λ_ _=>rfl))
  (bC X G (x:="_law_deck") (m:="law_archrow_k21_sets_with_a_tie") (st:=dB) (t:=490) (c:=251) (f:=252) (ps:=["cell"]) (by kernel_rfl) (by kernel_rfl) (by kernel_rfl) (by kernel_rfl) (oT λ_=>rfl))
  (bC X G (x:="_law_take") (m:="law_archrow_k21_sets_with_a_tie") (st:=dz) (t:=490) (c:=258) (f:=259) (ps:=["deck","many"]) (by kernel_rfl) (by kernel_rfl) (by kernel_rfl) (by kernel_rfl) (gh λ_ _=>rfl))
  (bC X G (x:="_law_row") (m:="law_archrow_k21_sets_with_a_tie") (st:=gv) (t:=490) (c:=265) (f:=266) (ps:=["deck","most"]) (by kernel_rfl) (by kernel_rfl) (by kernel_rfl) (by kernel_rfl) (gh λ_ _=>rfl))⟩
end hG
abbrev PySem.W.Fast.tw3162770206229738472:PySem.Program:=PySem.Challenge.pw_archrow_k21_sets_with_a_tie
theorem PySem.W.Fast.te3162770206229738472:PySem.Challenge.pw_archrow_k21_sets_with_a_tie=PySem.W.Fast.tw3162770206229738472:=rfl
open PySem PySem.W PyProof.Rows
set_option maxRecDepth 100000 in
set_option maxHeartbeats 0 in
theorem PySem.Challenge.cw_archrow_k21_sets_with_a_tie_holds : PySem.Challenge.rw_archrow_k21_sets_with_a_tie.Holds := by
 w_on;o_law
 refine holds_open (q:=hG.view) (loose:=[]) (Xt:=λs=>xlAt hG.view [] s&&recOk (RowW.records PySem.Challenge.rw_archrow_k21_sets_with_a_tie.row.toRowW) s) (XP:=XL hG.view []) (Yf:=hG.HK.obs) (Ya:=hG.HK.val) (YP:=λw h=>(hG.KK w.params).In h) (N:=7272) hG.left hG.HK.of hG.HK.keeps (λs e=>xl_of s (Vm.mp e).1) XL.keeps (by rfl) (by rfl) (by rfl) (λs e=>recFacts_of (Vm.mp e).2) (by rfl) (by first|assumption|decide +kernel) (by decide +kernel) ⟨rfl,rfl,rfl,rfl,rfl,by decide +kernel⟩ ?hw ?hc
 (case hw=>w_witness2)
 case hc =>
  exact L2.Bj (l:=PySem.Challenge.rw_archrow_k21_sets_with_a_tie) (K:=hG.KK) (n:=63) (k:=45) (x:="script") (CX:=λ_=>L2.bS) (sp:=λw=>hG.yf (hG.KK w.params)) rfl (by decide) rfl ⟨rfl,by decide,by decide⟩ (λw h Y=>Y) hG.all_mk (λ_ _ a ns hl _ hS=>⟨a,ns,rfl,hS,hl,λ_=>rfl⟩) λ_ _ _ _ _ z=>z
#print axioms PySem.Challenge.cw_archrow_k21_sets_with_a_tie_holds
