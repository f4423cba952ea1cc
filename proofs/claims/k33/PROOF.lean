import PyProof.Rows.All
import Wide.All
import OpenK.AllK
import Wide.FinOn
import OpenK.KLine
import Lean
import PyProof.EqAt
import PyProof.EqKinds
import PyProof.TupleCall
import PyProof.Rows.SortShell
import PyProof.Rows.SortWalk
import PyProof.CompFree
import PyProof.Rows.SortRuns
import PyProof.EqLayable
import PyProof.NeData
import PyProof.P3In
import PyProof.ZipIter
import PyProof.EnumMake
import PyProof.EnumFor
import PyProof.Rows.Range3
import PyProof.AttrMissSeq
import KE.KDictOf
import KE.IntBitsLaws
import PyProof.ListNew
import PyProof.Rows.SeqMore
import PyProof.ConsumeWalk
import KE.KTryMore
import PyProof.NsDelKeeps
import PyProof.ExcBaseAll.ValueError
import PySem.Challenge.RW_archrow_k33_kinds_refused
set_option Elab.async false
set_option linter.all false
set_option maxRecDepth 100000
set_option maxHeartbeats 4000000
set_option compiler.extract_closed false
open List renaming length_map->Vt,mem_cons->VB,getElem?_eq_getElem->VC,mem_singleton->VD,range->VF,map_append->VI,getElem?_map->VJ,mem_append->VL,map_cons->VM,getElem?_eq_some_iff->VN,size_toArray->VO,length_append->VV,mem_append_right->VY,nodup_cons->VZ,mem_cons_of_mem->V2,mem_append_left->V3,mem_map->V6,length_take->V7,mem_cons_self->V8,length_range->V9,length_cons->Wa,find?_cons->Wd,filterMap_cons->We,nodup_nil->Wg,getD_eq_getElem?_getD->Wj,nodup_append->Wk,mem_range->Wl,take_add_one->Wr,replicate->Ws,mem_of_getElem?->Wt,zip_cons_cons->Wu,length_filter_le->Wx,getElem?_range->Wz,mem_filter->WA,append_nil->WB,getElem_mem->WC,getElem?_eq_none->WE,lookup_cons->WL,all_eq_true->WM,map_map->WO,take_of_length_le->WS,append_assoc->WT,drop_eq_getElem_cons->WW,map_congr_left->W3,not_mem_nil->W7,getElem?_append_left->W9,mem_map_of_mem->Xh,flatMap_append->Xi,take_length->Xm,getElem?_cons_succ->Xn,getElem?_set->XD,getElem?_append_right->XH,length_drop->XJ,filter_cons->XM,mem_filterMap->XX,filter_append->XY,length_eq_zero_iff->X0,set_set->X3,any_cons->X_,mem_of_mem_take->Yc,foldl_cons->Yi,length_reverse->Yj,reverse_cons->Yw,ext_getElem?->Yx,map_take->YC,map_drop->YD,getElem?_take_of_lt->YE,pairwise_lt_range->YL,head?_eq_getElem?->YM,range_succ->YO,of_mem_zip->YQ,take_append_drop->YT,length_singleton->YU,filterMap_append->YV,reverse_reverse->Y1,getElem?_set_ne->Y2,getElem_of_mem->Y7,pairwise_cons->Zf,getElem?_tail->Zg,findIdx?_eq_some_iff_getElem->Zj,eraseIdxIfInBounds_toArray->Zv,perm_middle->ZG,zip_append->ZQ,length_zip->ZR
open PySem renaming wpAny_bind->Vu,Value->Vv,Shared->Vw,wpAny_pure->Vy,Program->Vz,starEach->VE,World->VG,sizeLine->VH,wpAny->VU,FuncData->VW,foldedSetIterable->V4,wpAny_holding->Wo,bootBuiltins->Wq,Around->Wv,compareOp->Ww,hashInt->Wy,sizeLine_eq->WD,wpAny_setState_of->WG,wpAny_newObj_type->WN,backTo->WR,swapsWith->WU,mainGlobals->WZ,Builtin->W4,wpAny_standAt->W5,wpAny_call_entry->W6,wpAny_Call_Name_kw->W8,wpAny_truthy_bool->W_,codeAny_mono->Xa,sysModules->Xb,sliceBounds->Xp,assignEach->Xq,wpAny_passesOwn->Xu,binaryOp->Xv,Scope->Xw,behindInMarks->Xy,attributeBase->Xz,wpAny_mono->XE,cLine->XQ,Comprehension->XT,wpAny_execs_nil->XW,wpAny_storeSet_of->X1,wpAny_askSetting->X8,codeAny->X9,NameKind->Yb,CmpOp->Yd,codeAny_builtin->Yg,intKind->Yk,wpAny_call->Ym,isSubtype_type->Yn,standAt->Yt,slot_list_getitem->Yu,Keyword->Yy,wpAny_getItem_list_slice->YA,arm_evalThenUse_ListComp->YB,wpAny_isInstance->YH,wpAny_callSpecial?_slot->YI,tupleKind->YJ,checkBuiltinCall->YK,letOwnedTupleGo->YN,keywordEach->YX,codeAny_call_builtin->YY,Params->YZ,getItem->Y5,wpAny_setEntries_of->Y6,wpAny_attempt->Y8,evalPart_none->Y_,tupleKind_room_in1->Zb,pyNext->Zc,pyIter->Zd,wpAny_setEpoch_of->Zk,valueAt->Zl,callerA->Zm,wpAny_execs_cons->Zx,treeTable->Zy,seqIndex?->Zz,isTrue->ZC,PassesOwn->ZD,DictEntry->ZH,wpAny_of_eq->ZI,evalThenUse->ZJ,IsRangeIter->ZM,wpAny_loadPart'->ZN,codeAny_of_tree->ZO,BindsTo->ZV,wpAny_newFunctionEnv_cells->ZW,recursionLimit->ZY,entryFor_alias->ZZ,call_meets->Z0,backToKw->Z3,atKey->Z4,Model->Z7,GenState->Z8
open PySem.Heap renaming get?_push_of_some->Vx,lt_size->VR,get?_push_size->VT,SameBut->WY,FlyingW->X6,size_push->Y3
open Nat renaming le_refl->VA,zero_le->VX,lt_of_lt_of_le->V1,ne_of_lt->V_,le_trans->Wc,lt_or_ge->WX,lt_irrefl->Xe,lt_of_le_of_lt->Xr,pow_le_pow_right->XG,min_le_left->Yh,zero_add->Yl,mod_lt->Yp,lt_succ_of_lt->Yv,mul_add->Y0,pow_succ->Zq,ne_of_gt->Zr,lt_trichotomy->Zs,mod_eq_of_lt->ZE,lt_succ_self->ZF,pow_pos->ZK,mod_mul->ZL,not_lt_zero->ZP
open Array renaming length_toList->VP,getD_eq_getD_getElem?->V0,getElem?_toList->Wm,getElem?_eq_none->Xs,getElem?_setIfInBounds_self_of_lt->YW,getElem?_setIfInBounds_ne->Zw
open Option renaming map_eq_some_iff->VQ,bind_eq_some_iff->WH,bind_some->Xl,map_some->Xx,isNone_iff_eq_none->Yr,isSome_map->Zp
open Decidable renaming by_contra->VS
open Option.some renaming inj->V5,injEq->Zo
open Bool renaming and_eq_true->Wf,false_ne_true->Yq,or_eq_true->YS,eq_iff_iff->ZT
open PySem.SeqAt renaming canLay_of_shaped->Wh
open PySem.NameKind renaming free->Wi,cell->XS
open PySem.PyData renaming canLay0->WI,depthAll->WK,eqv->Xd,canLayAll0->XB,depth->XI
open False renaming elim->WJ
open PyProof.Rows renaming callWith_type1->WQ,IntsAre->X4,slot_tuple_getitem->X7,envOfC->Ye,AllBare->Yz,subscriptTail->Y9,tail_any->ZX,boot_range->Z1,Subscript_->Z5
open PySem.PassesOwn renaming never->WV
open Sum renaming inl->Xf,inr->Zn
open Ne renaming symm->Xg
open PySem.Heap.SameBut renaming update->Xj,refl->Zt
open PySem.Builtin.Range renaming rangeSize->Xo
open PySem.Value renaming isInt->XF,builtin->Za
open Classical renaming byContradiction->XN
open PySem.Builtin.Slice renaming slicePlaces->XO,sliceAdjust->Ys
open PySem.Builtin.Tuple renaming tupleExact->XU
open PySem.W renaming boot_heap->XZ,boot_drawn->Z2
open Nat.succ renaming inj->X2
open Int renaming toNat_natCast->X5
open True renaming intro->Yo
open PySem.Code renaming compLoop->YF,compStart->Z9
open PySem.Builtin.List renaming listTooLong->YG,listLengthHint->ZU
open ForInStep renaming yield->YR
open PySem.Around renaming under_plainId->Y4
open PySem.Obj renaming mapSeq->Ze,putSet->Z6
open PySem.Heap.IsSliceOf renaming new->Zh
open PySem.Calls renaming spliced_cons->Zi,spliced_nil->Zu,Name_function_global->Z_
open PySem.Builtin.Frozenset renaming updateFrom->ZS
noncomputable section
namespace L2
open PySem PySem.Spec PyProof.Rows
def lV (s:Stmt):Arguments:=match s with
 |.FunctionDef _ a _ _ _ _ _ _ _ _=>a
 |_=>{posonlyargs:=[],args:=[],vararg:=none,kwonlyargs:=[],kw_defaults:=[],kwarg:=none,defaults:=[]}
def dh (s:Stmt):List Stmt:=match s with
 |.FunctionDef _ _ b _ _ _ _ _ _ _=>b
 |_=>[]
def aj (s:Stmt):Xw:=match s with
 |.FunctionDef _ _ _ _ _ _ sc _ _ _=>sc
 |_=>{kind:=.function,names:=[],isGenerator:=false,isCoroutine:=false}
end L2
namespace L2.Hd
open PySem PySem.W PySem.Spec PyProof.Rows
noncomputable def js (tb:String->Option W4)(p:Vz)(w:VG)(n₀:Nat)(ann:Option Vv):Nat->SharedT->Thread->Option SharedT
 |0,_,_=>none
 |n+1,s,t=>match through t with
  |true=>some s
  |false=>match stepOk n₀ ann t with
   |false=>none
   |true=>match stepT (denote tb) p w s t with
    |some (s',t')=>js tb p w n₀ ann n s' t'
    |none=>none
theorem ma {tb:String->Option W4}{p:Vz}{w:VG}{n₀:Nat}{ann:Option Vv}:∀{n:Nat} {s s':SharedT} {t:Thread},js tb p w n₀ ann n s t=some s'->topRun tb p w n₀ ann n s.abs t=some s'.abs
 |0,_,_,_,g=>by cases g
 |n+1,s,s',t,g=>by
  unfold js at g;unfold topRun;cases ht:through t with
  |true=>rw[ht]at g;cases g;rfl
  |false =>
   rw[ht]at g;cases hk:stepOk n₀ ann t with
   |false=>rw[hk]at g;cases g
   |true =>
    rw[hk]at g;cases hq:stepT (denote tb) p w s t with
    |none=>rw[hq]at g;cases g
    |some r=>obtain⟨s₂,t₂⟩:=r;rw[hq]at g;dsimp only;rw[stepT_spec hq];exact ma g
noncomputable def M8 (P:YZ):BT:=((XZ P).objs.toList.foldl (λ(x:BT×Nat) o=>(x.1.ins x.2 o,x.2+1)) (.nil,0)).1
noncomputable def Cr (w:VG)(os:OsState):SharedT:=⟨M8 w.params,11,(XZ w.params).life,Array.mk [],Z2,boot_toks,os⟩
theorem boot_abs (w:VG)(os:OsState):(Cr w os).abs=⟨XZ w.params,Array.mk [],Z2,boot_toks,os⟩:=by kernel_rfl
theorem Fi (P:YZ):((XZ P).isNs WZ&&((Array.mk []:Array Z8).size==0))=true:=by kernel_rfl
theorem yC (P:YZ):(XZ P).objs.size=11:=by kernel_rfl
theorem Cq (P:YZ):(XZ P).nsMap WZ "__annotations__" = some (.ref 6):=by kernel_rfl
def ends (p:Vz)(h0:Heap)(s₁:Vw):Option Vw:=match staticsOk (importedModules p.main.body) h0 s₁.heap&&namesBound p s₁.heap&&gensDone s₁&&laidKept h0 s₁.heap with
 |true=>some s₁
 |false=>none
theorem xY {p q:Vz}{loose:List Str}{Xt:Vw->Bool}{α:Type}{Yf:Vw->α}{Ya:VG->α}{N:Nat}{g0:Bool}
  (g1:opening p=plainProg p.main.scope.names) (g2:Nat.ble 600 N=true) (g3:∀s,fenceModules? p s=some s)
  (g4:∀(w:VG) (os:OsState),((js Zy p w 11 (some (.ref 6)) N (Cr w os) (topStub p)).bind λs₁=>ends p (XZ w.params) s₁.abs).map (λs=>(openSeen q loose (importedModules p.main.body) Xt g0 s,Yf s))=some (openGood q loose,Ya w)) :
  LeftO p q loose Xt Yf Ya N g0:=λw=>by
 obtain⟨⟨hp,gs,dr,tk,os⟩,e,v⟩:=VQ.mp (boot_open (N:=N) g1 g2 g3 w);obtain⟨v1,v⟩:=Prod.mk.inj v;obtain⟨v2,v⟩:=Prod.mk.inj v;obtain⟨v3,v4⟩:=Prod.mk.inj v;dsimp only at v1 v2 v3 v4;subst v1 v2 v3 v4;have g:=g4 w os;unfold openEnds;rw[e];show (topFrom Zy p w N _).map _=_;have t:topFrom Zy p w N ⟨XZ w.params,Array.mk [],Z2,boot_toks,os⟩=(topRun Zy p w 11 (some (.ref 6)) N ⟨XZ w.params,Array.mk [],Z2,boot_toks,os⟩ (topStub p)).bind (ends p (XZ w.params)):=by
  unfold topFrom;rw[Fi];dsimp only;rw[yC,Cq];rfl
 rw[t];cases hT:js Zy p w 11 (some (.ref 6)) N (Cr w os) (topStub p)with
 |none=>rw[hT]at g;cases g
 |some s₁ =>
  have r:=ma hT;rw[boot_abs]at r;rw[hT]at g;rw[r];exact g
end L2.Hd
namespace lY
open PySem L2
def top (i:Nat):Stmt:=PySem.Challenge.pw_archrow_k33_kinds_refused.main.body.getD i (.Pass ⟨0,0,0,0⟩)
abbrev el:Stmt:=top 15
abbrev cO:Stmt:=top 16
abbrev ei:Stmt:=top 17
abbrev b4:Stmt:=top 19
abbrev dE:Stmt:=top 20
abbrev ek:Stmt:=top 21
abbrev cC:Stmt:=top 22
abbrev dF:Stmt:=top 23
abbrev c6:Stmt:=top 24
abbrev c8:Stmt:=top 25
abbrev cD:Stmt:=top 26
abbrev fm:Stmt:=top 28
abbrev hZ:Stmt:=top 29
abbrev f7:Stmt:=top 30
abbrev f9:Stmt:=top 31
abbrev cn:Stmt:=top 33
abbrev b9:Stmt:=top 34
abbrev c7:Stmt:=top 35
abbrev dN:Stmt:=top 36
abbrev dO:Stmt:=top 37
abbrev b5:Stmt:=top 38
abbrev c5:Stmt:=top 39
abbrev dG:Stmt:=top 40
abbrev fR:Stmt:=top 42
abbrev eO:Stmt:=top 43
abbrev fq:Stmt:=top 44
abbrev fo:Stmt:=top 45
abbrev h7:Stmt:=top 46
abbrev i7:Stmt:=top 47
abbrev ft:Stmt:=top 48
abbrev cP:Stmt:=top 49
abbrev f_:Stmt:=top 50
abbrev h8:Stmt:=top 51
abbrev mx:Stmt:=top 52
noncomputable abbrev vS (x:Str)(t:Nat):Vv:=.str x t
noncomputable abbrev kE (P:YZ)(x:Str)(t:Nat)(v:Vv):ZH:=⟨PyData.keyHash P x,.str x t,v⟩
noncomputable abbrev kC (n:Str)(t l p r8 Ts S6:Nat)(Su Ss Sr:Vv)(S5 Tr SG:Nat):Obj:={cls:=.type "code",data:=.fields #[vS n t,vS n (t+1),vS "/claim/cut.py" (t+2),.int l 0,.int p 0,.int 0 0,.int 0 0,.int 3 0,.ref r8,.bool true,.int Ts 0,.ref S6,Su,Ss,Sr,.ref S5,.int Tr 0,.int l 0,vS "/claim/cut.py" SG]}
noncomputable abbrev NJ (st:Stmt)(x m:Str)(t c:Nat):VW:=PySem.W.fnOf x x (lV st) (dh st) (aj st) .none .none .none (vS m t) none (.ref c) .none
noncomputable abbrev kF (st:Stmt)(x m:Str)(t c:Nat):Obj:={cls:=.type "function",data:=.func (NJ st x m t c)}
noncomputable abbrev kX (x:Str)(a A t:Nat):Obj:={cls:=.type "type",data:=.cls {name:=x,bases:=[.ref A],mro:=[.ref a,.ref A,.type "ValueError",.type "Exception",.type "BaseException",.type "object"],ns:=a-1,qualname:=x},slots:=#[some (.ref (a-9)),none,some (vS x t),some (vS x (t+8)),some (.builtin "ValueError.__new__"),some (.bool true)]}
noncomputable abbrev kN (P:YZ)(a t m l:Nat):Obj:={cls:=.type "dict",data:=.dict #[kE P "__module__" (t+7) (vS "archrow.errors" m),kE P "__firstlineno__" (t+11) (.int l (t+10)),kE P "__static_attributes__" (t+12) (.ref (a-2)),kE P "__doc__" (t+13) .none] 2}
noncomputable def KK:YZ->PySem.W.Frag:=λP=>[(3,{cls:=.type "dict",data:=.dict #[kE P "__name__" 165 (vS "law_archrow_k33_kinds_refused" 594),kE P "__doc__" 166 .none,kE P "__package__" 167 .none,kE P "__loader__" 168 (.builtin "__main__.__loader__#opaque"),kE P "__spec__" 169 .none,kE P "__annotations__" 170 (.ref 6),kE P "__builtins__" 171 (.ref 4),kE P "__file__" 173 (vS "/claim/cut.py" 172),kE P "__cached__" 174 .none,kE P "ArchError" 206 (.ref 24),kE P "NoRow" 222 (.ref 37),kE P "NoTie" 238 (.ref 49),kE P "NoStretch" 254 (.ref 61),kE P "NoWeights" 270 (.ref 73),kE P "NoNumber" 286 (.ref 85),kE P "NoSet" 302 (.ref 97),kE P "NoGap" 318 (.ref 109),kE P "NoPlace" 334 (.ref 121),kE P "NoShape" 350 (.ref 133),kE P "NoText" 366 (.ref 145),kE P "NoForm" 382 (.ref 157),kE P "NoneYet" 398 (.ref 169),kE P "arcs_cross" 412 (.ref 178),kE P "share_a_point" 420 (.ref 185),kE P "row_beside" 426 (.ref 190),kE P "stretches_rising" 434 (.ref 195),kE P "partners_of" 440 (.ref 200),kE P "parts_left" 449 (.ref 207),kE P "greatest_table" 455 (.ref 212),kE P "number_with" 466 (.ref 219),kE P "least_number" 472 (.ref 224),kE P "best_choices" 478 (.ref 229),kE P "first_greatest" 495 (.ref 236),kE P "most_ties" 504 (.ref 243),kE P "most_of" 514 (.ref 250),kE P "table_of" 521 (.ref 257),kE P "one_each" 527 (.ref 262),kE P "row_of_kinds" 535 (.ref 267),kE P "most_of_kinds" 544 (.ref 274),kE P "best_kinds" 550 (.ref 279),kE P "most_with" 561 (.ref 286),kE P "check_gap" 568 (.ref 293),kE P "pairs_either_way" 578 (.ref 300),kE P "most_without" 584 (.ref 305),kE P "most_beside" 593 (.ref 312),kE P "_law_pot" 602 (.ref 319),kE P "_law_take" 612 (.ref 326),kE P "_law_kinds" 618 (.ref 331),kE P "_law_pairs" 629 (.ref 338),kE P "_law_gap" 636 (.ref 345),kE P "_law_ties" 642 (.ref 350),kE P "_law_flags" 650 (.ref 357),kE P "_law_due_flags" 656 (.ref 362),kE P "_law_said" 668 (.ref 369),kE P "_law_due" 678 (.ref 376),kE P "law" 695 (.ref 383)] 56}),
 (177,kC "arcs_cross" 401 29 2 172 181 173 .none (.ref 174) (.ref 175) 176 410 411),
 (178,kF el "arcs_cross" "archrow.arcs" 399 177),
 (184,kC "share_a_point" 413 33 2 179 181 180 .none (.ref 181) (.ref 182) 183 418 419),
 (185,kF cO "share_a_point" "archrow.arcs" 399 184),
 (189,kC "row_beside" 421 35 2 186 181 187 .none .none .none 188 424 425),
 (190,kF ei "row_beside" "archrow.arcs" 399 189),
 (194,kC "stretches_rising" 429 39 1 191 181 192 .none .none .none 193 432 433),
 (195,kF b4 "stretches_rising" "archrow.stretches" 427 194),
 (199,kC "partners_of" 435 41 1 196 181 197 .none .none .none 198 438 439),
 (200,kF dE "partners_of" "archrow.stretches" 427 199),
 (206,kC "parts_left" 441 47 3 201 181 202 .none (.ref 203) (.ref 204) 205 447 448),
 (207,kF ek "parts_left" "archrow.stretches" 427 206),
 (211,kC "greatest_table" 450 51 2 208 181 209 .none .none .none 210 453 454),
 (212,kF cC "greatest_table" "archrow.stretches" 427 211),
 (218,kC "number_with" 456 58 5 213 181 214 .none (.ref 215) (.ref 216) 217 464 465),
 (219,kF dF "number_with" "archrow.stretches" 427 218),
 (223,kC "least_number" 467 60 5 220 181 221 .none .none .none 222 470 471),
 (224,kF c6 "least_number" "archrow.stretches" 427 223),
 (228,kC "best_choices" 473 63 5 225 181 226 .none .none .none 227 476 477),
 (229,kF c8 "best_choices" "archrow.stretches" 427 228),
 (235,kC "first_greatest" 479 69 5 230 181 231 .none (.ref 232) (.ref 233) 234 493 494),
 (236,kF cD "first_greatest" "archrow.stretches" 427 235),
 (242,kC "most_ties" 498 82 1 237 181 238 .none (.ref 239) (.ref 240) 241 502 503),
 (243,kF fm "most_ties" "archrow.kept" 496 242),
 (249,kC "most_of" 505 84 3 244 181 245 .none (.ref 246) (.ref 247) 248 512 513),
 (250,kF hZ "most_of" "archrow.kept" 496 249),
 (256,kC "table_of" 515 89 1 251 181 252 .none (.ref 253) (.ref 254) 255 519 520),
 (257,kF f7 "table_of" "archrow.kept" 496 256),
 (261,kC "one_each" 522 91 1 258 181 259 .none .none .none 260 525 526),
 (262,kF f9 "one_each" "archrow.kept" 496 261),
 (266,kC "row_of_kinds" 530 94 3 263 181 264 .none .none .none 265 533 534),
 (267,kF cn "row_of_kinds" "archrow.kinds" 528 266),
 (273,kC "most_of_kinds" 536 100 3 268 181 269 .none (.ref 270) (.ref 271) 272 542 543),
 (274,kF b9 "most_of_kinds" "archrow.kinds" 528 273),
 (278,kC "best_kinds" 545 102 4 275 181 276 .none .none .none 277 548 549),
 (279,kF c7 "best_kinds" "archrow.kinds" 528 278),
 (285,kC "most_with" 551 114 5 280 181 281 .none (.ref 282) (.ref 283) 284 559 560),
 (286,kF dN "most_with" "archrow.kinds" 528 285),
 (292,kC "check_gap" 562 119 1 287 181 288 .none (.ref 289) (.ref 290) 291 566 567),
 (293,kF dO "check_gap" "archrow.kinds" 528 292),
 (299,kC "pairs_either_way" 569 122 1 294 181 295 .none (.ref 296) (.ref 297) 298 576 577),
 (300,kF b5 "pairs_either_way" "archrow.kinds" 528 299),
 (304,kC "most_without" 579 128 2 301 181 302 .none .none .none 303 582 583),
 (305,kF c5 "most_without" "archrow.kinds" 528 304),
 (311,kC "most_beside" 585 130 3 306 181 307 .none (.ref 308) (.ref 309) 310 591 592),
 (312,kF dG "most_beside" "archrow.kinds" 528 311),
 (318,kC "_law_pot" 596 133 1 313 181 314 .none (.ref 315) (.ref 316) 317 600 601),
 (319,kF fR "_law_pot" "law_archrow_k33_kinds_refused" 594 318),
 (325,kC "_law_take" 603 135 2 320 181 321 .none (.ref 322) (.ref 323) 324 610 611),
 (326,kF eO "_law_take" "law_archrow_k33_kinds_refused" 594 325),
 (330,kC "_law_kinds" 613 145 1 327 181 328 .none .none .none 329 616 617),
 (331,kF fq "_law_kinds" "law_archrow_k33_kinds_refused" 594 330),
 (337,kC "_law_pairs" 619 154 2 332 181 333 .none (.ref 334) (.ref 335) 336 627 628),
 (338,kF fo "_law_pairs" "law_archrow_k33_kinds_refused" 594 337),
 (344,kC "_law_gap" 630 164 1 339 181 340 .none (.ref 341) (.ref 342) 343 634 635),
 (345,kF h7 "_law_gap" "law_archrow_k33_kinds_refused" 594 344),
 (349,kC "_law_ties" 637 166 3 346 181 347 .none .none .none 348 640 641),
 (350,kF i7 "_law_ties" "law_archrow_k33_kinds_refused" 594 349),
 (356,kC "_law_flags" 643 175 1 351 181 352 .none (.ref 353) (.ref 354) 355 648 649),
 (357,kF ft "_law_flags" "law_archrow_k33_kinds_refused" 594 356),
 (361,kC "_law_due_flags" 651 180 1 358 181 359 .none .none .none 360 654 655),
 (362,kF cP "_law_due_flags" "law_archrow_k33_kinds_refused" 594 361),
 (368,kC "_law_said" 657 182 4 363 181 364 .none (.ref 365) (.ref 366) 367 666 667),
 (369,kF f_ "_law_said" "law_archrow_k33_kinds_refused" 594 368),
 (375,kC "_law_due" 669 196 4 370 181 371 .none (.ref 372) (.ref 373) 374 676 677),
 (376,kF h8 "_law_due" "law_archrow_k33_kinds_refused" 594 375),
 (382,kC "law" 679 202 1 377 181 378 .none (.ref 379) (.ref 380) 381 693 694),
 (383,kF mx "law" "law_archrow_k33_kinds_refused" 594 382),
 (24,{cls:=.type "type",data:=.cls {name:="ArchError",bases:=[(.type "ValueError")],mro:=[(.ref 24),(.type "ValueError"),(.type "Exception"),(.type "BaseException"),(.type "object")],ns:=23,qualname:="ArchError",subclasses:=[(.ref 37),(.ref 49),(.ref 61),(.ref 73),(.ref 85),(.ref 97),(.ref 109),(.ref 121),(.ref 133),(.ref 145),(.ref 157),(.ref 169)]},slots:=#[some ((.ref 15)),none,some ((vS "ArchError" 189)),some ((vS "ArchError" 197)),some ((.builtin "ValueError.__new__")),some (.bool true)]}),
 (23,{cls:=.type "dict",data:=.dict #[kE P "__module__" 196 (vS "archrow.errors" 187),kE P "__firstlineno__" 200 (.int 2 199),kE P "__static_attributes__" 201 (.ref 22),kE P "__weakref__" 203 (.ref 25),kE P "__doc__" 204 .none] 3}),
 (37,kX "NoRow" 37 24 207),
 (36,kN P 37 207 187 4),
 (49,kX "NoTie" 49 24 223),
 (48,kN P 49 223 187 6),
 (61,kX "NoStretch" 61 24 239),
 (60,kN P 61 239 187 8),
 (73,kX "NoWeights" 73 24 255),
 (72,kN P 73 255 187 10),
 (85,kX "NoNumber" 85 24 271),
 (84,kN P 85 271 187 12),
 (97,kX "NoSet" 97 24 287),
 (96,kN P 97 287 187 14),
 (109,kX "NoGap" 109 24 303),
 (108,kN P 109 303 187 16),
 (121,kX "NoPlace" 121 24 319),
 (120,kN P 121 319 187 18),
 (133,kX "NoShape" 133 24 335),
 (132,kN P 133 335 187 20),
 (145,kX "NoText" 145 24 351),
 (144,kN P 145 351 187 22),
 (157,kX "NoForm" 157 24 367),
 (156,kN P 157 367 187 24),
 (169,kX "NoneYet" 169 24 383),
 (168,kN P 169 383 187 26)]
noncomputable abbrev HK:PySem.W.Hook:=PySem.W.kHook KK [3,177,178,184,185,189,190,194,195,199,200,206,207,211,212,218,219,223,224,228,229,235,236,242,243,249,250,256,257,261,262,266,267,273,274,278,279,285,286,292,293,299,300,304,305,311,312,318,319,325,326,330,331,337,338,344,345,349,350,356,357,361,362,368,369,375,376,382,383,24,23,37,36,49,48,61,60,73,72,85,84,97,96,109,108,121,120,133,132,145,144,157,156,169,168] (λ_=>by kernel_rfl)
noncomputable def view:Vz:={PySem.Challenge.pw_archrow_k33_kinds_refused with main:={PySem.Challenge.pw_archrow_k33_kinds_refused.main with body:=[top 1,top 2,top 3,top 4,top 5,top 6,top 7,top 8,top 9,top 10,top 11,top 12,top 13,top 15,top 16,top 17,top 19,top 20,top 21,top 22,top 23,top 24,top 25,top 26,top 28,top 29,top 30,top 31,top 33,top 34,top 35,top 36,top 37,top 38,top 39,top 40,top 42,top 43,top 44,top 45,top 46,top 47,top 48,top 49,top 50,top 51,top 52]}}
theorem left:PySem.W.LeftO PySem.Challenge.pw_archrow_k33_kinds_refused view [] (λs=>PySem.W.xlAt view [] s&&PySem.W.recOk (PySem.W.RowW.records PySem.Challenge.rw_archrow_k33_kinds_refused.row.toRowW) s) HK.obs HK.val 7736:=L2.Hd.xY (by kernel_rfl) (by kernel_rfl) (λ_=>rfl) (λw os=>by kernel_rfl)
end lY
namespace L2
open PySem PySem.Spec PyProof.Rows
abbrev Key:=Sum Int Str
def mT:Key->Vv->Bool
 |.inl k,v=>XF k v
 |.inr x,v=>Value.isStrOf x v
def Pe (w:VG):Key->Int
 |.inl k=>Wy k
 |.inr x=>hashStr w x
theorem ba:∀{k:Key} {v:Vv},mT k v=true->(∃i t,k=Xf i/\v=Value.int i t)\/(∃x t,k=Zn x/\v=Value.str x t)
 |.inl i,v,h=>by
  obtain⟨t,e⟩:=Value.isInt_shape (k:=i) (v:=v) h;exact .inl ⟨i,t,rfl,e⟩
 |.inr x,v,h=>by
  obtain⟨t,e⟩:=Value.isStrOf_shape (x:=x) (v:=v) h;exact .inr ⟨x,t,rfl,e⟩
theorem x_ (i:Int)(t:Tok):mT (.inl i) (.int i t)=true:=by simp[mT,XF]
theorem xZ (x:Str)(t:Tok):mT (.inr x) (.str x t)=true:=by simp[mT,Value.isStrOf]
theorem Ir (a b:Int):decide ((Xf a:Key)=Xf b)=(a==b):=by
 by_cases e:a=b
 ·subst e;simp
 ·have h:¬ (Xf a:Key)=Xf b:=λq=>e (Sum.inl.inj q);rw[decide_eq_false h];exact(beq_eq_false_iff_ne.mpr e).symm
theorem Io (a b:Str):decide ((Zn a:Key)=Zn b)=decide (a=b):=by
 by_cases e:a=b
 ·subst e;simp
 ·have h:¬ (Zn a:Key)=Zn b:=λq=>e (Sum.inr.inj q);rw[decide_eq_false h,decide_eq_false e]
theorem Iq (a:Int)(b:Str):decide ((Xf a:Key)=Zn b)=false:=decide_eq_false (λq=>nomatch q)
theorem Ip (a:Str)(b:Int):decide ((Zn a:Key)=Xf b)=false:=decide_eq_false (λq=>nomatch q)
def aY (prog:Vz)(w:VG):PySem.KeyKind prog w Key where
 is:=mT
 hash:=Pe w
 inj:=λv a b ha hb=>by
  rcases ba ha with⟨i,t,rfl,rfl⟩|⟨x,t,rfl,rfl⟩
  ·rcases ba hb with⟨j,u,rfl,e⟩|⟨y,u,rfl,e⟩
   ·injection e with e1 _;rw[e1]
   ·exact nomatch e
  ·rcases ba hb with⟨j,u,rfl,e⟩|⟨y,u,rfl,e⟩
   ·exact nomatch e
   ·injection e with e1 _;rw[e1]
 byValue:=λk v h=>by
  rcases ba h with⟨i,t,rfl,rfl⟩|⟨x,t,rfl,rfl⟩ <;> rfl
 pyHash:=λhv h=>by
  rcases ba hv with⟨i,t,rfl,rfl⟩|⟨x,t,rfl,rfl⟩
  ·exact wpAny_pyHash_int h
  ·exact wpAny_pyHash_str h
 eqBool:=λhu hv h=>by
  rcases ba hu with⟨i,t,rfl,rfl⟩|⟨x,t,rfl,rfl⟩
  ·rcases ba hv with⟨j,u,rfl,rfl⟩|⟨y,u,rfl,rfl⟩
   ·rw[Ir]at h;exact wpAny_eqBool_int h
   ·rw[Iq]at h;exact SeqAt.EqAt.int_str i t y u _ _ _ _ h
  ·rcases ba hv with⟨j,u,rfl,rfl⟩|⟨y,u,rfl,rfl⟩
   ·rw[Ip]at h;exact SeqAt.EqAt.str_int x t j u _ _ _ _ h
   ·rw[Io]at h;exact wpAny_eqBool_str h
 «strs»:=λk x t v h=>by
  rcases ba h with⟨i,u,rfl,e⟩|⟨y,u,rfl,e⟩
  ·exact nomatch e
  ·injection e with e1 _
   subst e1;cases v <;> rfl
theorem rX (prog:Vz)(w:VG)(i:Int)(t:Tok):(aY prog w).is (.inl i) (.int i t)=true:=x_ i t
theorem rW (prog:Vz)(w:VG)(x:Str)(t:Tok):(aY prog w).is (.inr x) (.str x t)=true:=xZ x t
inductive V where
 |cU|bl (b:Bool)|int (i:Int)|str (x:Str)|M7 (b:Array UInt8)|QC (b:UInt64)|ref (a:Addr)|ty (n:String)
 deriving DecidableEq
def RelV:V->Vv->Prop
 |.cU,u=>u=Value.none
 |.bl b,u=>u=Value.bool b
 |.int i,u=>∃t,u=Value.int i t
 |.str x,u=>∃t,u=Value.str x t
 |.M7 b,u=>∃t,u=Value.bytes b t
 |.QC b,u=>∃t,u=Value.float b t
 |.ref a,u=>u=Value.ref a
 |.ty n,u=>u=Value.type n
abbrev Vals:List V->List Vv->Prop:=Paired RelV
theorem Vals.length {xs:List V}{us:List Vv}(r:Vals xs us):xs.length=us.length:=Paired.length r
theorem Vals.get:∀{xs:List V} {us:List Vv} {i:Nat} {x:V},Vals xs us->xs[i]?=some x->∃u,us[i]?=some u/\RelV x u
 |_,_,_,_,.nil,e=>by simp at e
 |_,_,0,_,.cons r _,e=>by simp at e;subst e;exact⟨_,rfl,r⟩
 |_,_,i+1,x,.cons _ t,e=>by
  obtain⟨u,h1,h2⟩:=Vals.get (i:=i) (x:=x) t (by simpa using e)
  exact⟨u,by simpa using h1,h2⟩
theorem Vals.set {x:V}{u:Vv}(r:RelV x u):∀{xs:List V} {us:List Vv} (i:Nat),Vals xs us->Vals (xs.set i x) (us.set i u)
 |_,_,_,.nil=>.nil
 |_,_,0,.cons _ t=>.cons r t
 |_,_,i+1,.cons q t=>.cons q (Vals.set r i t)
theorem Vals.append:∀{xs ys:List V} {us ws:List Vv},Vals xs us->Vals ys ws->Vals (xs++ys) (us++ws)
 |_,_,_,_,.nil,s=>s
 |_,_,_,_,.cons r t,s=>.cons r (Vals.append t s)
theorem Vals.take:∀{xs:List V} {us:List Vv} (n:Nat),Vals xs us->Vals (xs.take n) (us.take n)
 |_,_,0,_=>.nil
 |_,_,_+1,.nil=>.nil
 |_,_,n+1,.cons r t=>.cons r (Vals.take n t)
theorem Vals.drop:∀{xs:List V} {us:List Vv} (n:Nat),Vals xs us->Vals (xs.drop n) (us.drop n)
 |_,_,0,r=>r
 |_,_,_+1,.nil=>.nil
 |_,_,n+1,.cons _ t=>Vals.drop n t
def om:Option V->Option Vv->Prop
 |some v,some u=>RelV v u
 |none,none=>True
 |_,_=>False
def KV {κ:Type}:List (κ×V)->List (κ×Vv)->Prop:=Paired λ(p:κ×V) (q:κ×Vv)=>p.1=q.1/\RelV p.2 q.2
def kV:Key->V
 |.inl i=>.int i
 |.inr x=>.str x
inductive HO where
 |lst (xs:List V)
 |tup (xs:List V)
 |dK (kvs:List (Key×V))|dT (kvs:List (List Key×V))
 |set (S:Int->Bool) (n:Nat)
 |ins (C dx:Addr) (fs:List (Str×V))
 |own (x:Addr)
 |xd (fs:List (Str×V))
 |met (f x:Addr)
 |NA (lo hi:Int)
 |wb (o:Obj) (u:HO)
 |FC (ps:Array Vv)
 |ext (φ:Heap->Prop)
abbrev Hp:=Addr->Option HO
def upd (H:Hp)(a:Addr)(o:HO):Hp:=λb=>if b=a then some o else H b
theorem ao {H:Hp}{a:Addr}{o:HO}:upd H a o a=some o:=by unfold upd;rw[if_pos rfl]
theorem ar {H:Hp}{a b:Addr}{o:HO}(h:b≠a):upd H a o b=H b:=by unfold upd;rw[if_neg h]
theorem rT {H:Hp}{a b:Addr}{o u:HO}(h:H a=some o)(h':H b=some u)(d:o≠u):a≠b:=by
 intro e;subst e;rw[h]at h';exact d (V5 h')
theorem cR {H:Hp}{a b:Addr}{o:HO}(h:H a=some o)(h':H b=none):a≠b:=by
 intro e;subst e;rw[h]at h';cases h'
section
variable (P:Vz)(w:VG)
def bp (H:Hp)(h:Heap)(a:Addr):HO->Prop
 |.lst xs=>xs.length<=VH/\∃(its:List Vv) (n:Nat),Vals xs its/\h.get? a=some {cls:=.type "list",data:=.seq its.toArray n}
 |.tup xs=>xs.length<=VH/\∃its:List Vv,Vals xs its/\IsTup h a its.toArray
 |.dK kvs=>kvs.length<=VH/\(a==Xb)=false/\∃vs,KV kvs vs/\h.DictOf (aY P w) a vs
 |.dT kvs=>kvs.length<=VH/\(a==Xb)=false/\∃xs:List (List Key×Addr×Vv),
   Paired (λ(p:List Key×V) (q:List Key×Addr×Vv)=>p.1=q.1/\H q.2.1=some (.tup (p.1.map kV))/\RelV p.2 q.2.2) kvs xs /\
   ∃o es ep,h.get? a=some o/\o.ExactDict/\o.data=.dict es ep/\es.toList=xs.map (entryOfKey (YJ (aY P w)))/\(xs.map (·.1)).Nodup
 |.set S n=>h.SetOf (Yk P w) a S n
 |.ins C dx fs=>H dx=some (.own a)/\fs.length<=1000/\dx≠a/\h.get? a=some (PySem.W.instObj C dx) /\
   ∃mA,h.Ns1 dx mA/\(∀f,om (fs.lookup f) (mA f))/\PySem.Within mA (fs.map (·.1))
 |.own _=>∃o,h.get? a=some o
 |.xd fs=>∃mA,h.Ns1 a mA/\∀f,om (fs.lookup f) (mA f)
 |.NA lo hi=>∃t u v,h.get? a=some {cls:=.type "range",data:=.fields #[.int lo t,.int hi u,.int 1 v]}
 |.wb o u=>h.get? a=some o/\bp H h a u
 |.FC ps=>h.get? a=some {cls:=.none,data:=.fields ps}
 |.met f x=>h.get? a=some (PySem.W.methodObj (.ref f) (.ref x))
 |.ext φ=>φ h/\(∃o,h.get? a=some o)/\∀h1 h2:Heap,φ h1->(∀o,h1.get? a=some o->h2.get? a=some o)->φ h2
def gL (H:Hp)(h:Heap):Prop:=∀a o,H a=some o->bp P w H h a o
end
section
variable {P:Vz}{w:VG}{H H':Hp}{h h':Heap}{a:Addr}{o:HO}
theorem bp.lt (x:bp P w H h a o):a<h.objs.size:=by
 cases o with
 |lst xs=>obtain⟨_,_,_,_,e⟩:=x;exact VR e
 |tup xs=>obtain⟨_,_,_,p⟩:=x;exact p.lt
 |dK kvs=>obtain⟨_,_,_,_,o,_,_,e,_⟩:=x;exact VR e
 |dT kvs=>obtain⟨_,_,_,_,o,_,_,e,_⟩:=x;exact VR e
 |set S n=>obtain⟨o,_,_,_,e,_⟩:=x;exact VR e
 |ins C dx fs=>obtain⟨_,_,_,e,_⟩:=x;exact VR e
 |own y=>obtain⟨_,e⟩:=x;exact VR e
 |xd fs=>obtain⟨_,⟨_,_,_,e,_⟩,_⟩:=x;exact VR e
 |NA lo hi=>obtain⟨_,_,_,e⟩:=x;exact VR e
 |wb ob u=>obtain⟨e,_⟩:=x;exact VR e
 |FC ps=>exact VR (show h.get? a=some _ from x)
 |met f y=>exact VR (show h.get? a=some _ from x)
 |ext φ=>obtain⟨_,⟨_,e⟩,_⟩:=x;exact VR e
theorem Paired.H9 {α β:Type}{F G:α->β->Prop}:∀{l₁:List α} {l₂:List β},Paired F l₁ l₂->(∀a b,F a b->G a b)->Paired G l₁ l₂
 |_,_,.nil,_=>.nil
 |_,_,.cons r t,f=>.cons (f _ _ r) (Paired.H9 t f)
theorem bp.nQ (x:bp P w H h a o)(k:∀b u,(b=a\/H b=some (.own a))->h.get? b=some u->h'.get? b=some u)
  (ho:∀b,H b=some (.own a)->H' b=some (.own a)) (ht:∀b xs,H b=some (.tup xs)->H' b=some (.tup xs)):bp P w H' h' a o:=by
 induction o with
 |lst xs=>obtain⟨z,its,n,r,e⟩:=x;exact⟨z,its,n,r,k _ _ (.inl rfl) e⟩
 |tup xs=>obtain⟨z,its,r,ob,e,c⟩:=x;exact⟨z,its,r,ob,k _ _ (.inl rfl) e,c⟩
 |dK kvs=>obtain⟨z,y,vs,r,ob,es,ep,e,c⟩:=x;exact⟨z,y,vs,r,ob,es,ep,k _ _ (.inl rfl) e,c⟩
 |dT kvs =>
  obtain⟨z,y,xs,r,ob,es,ep,e,c⟩:=x;exact⟨z,y,xs,Paired.H9 r λp q z=>⟨z.1,ht _ _ z.2.1,z.2.2⟩,ob,es,ep,k _ _ (.inl rfl) e,c⟩
 |set S n=>obtain⟨ob,es,ep,t,e,c⟩:=x;exact⟨ob,es,ep,t,k _ _ (.inl rfl) e,c⟩
 |ins C dx fs =>
  obtain⟨d,z,ne,e,mA,⟨od,es,ep,e2,c⟩,r⟩:=x;exact⟨ho _ d,z,ne,k _ _ (.inl rfl) e,mA,⟨od,es,ep,k _ _ (.inr d) e2,c⟩,r⟩
 |own y=>obtain⟨ob,e⟩:=x;exact⟨ob,k _ _ (.inl rfl) e⟩
 |xd fs=>obtain⟨mA,⟨od,es,ep,e,c⟩,r⟩:=x;exact⟨mA,⟨od,es,ep,k _ _ (.inl rfl) e,c⟩,r⟩
 |NA lo hi=>obtain⟨t,u,v,e⟩:=x;exact⟨t,u,v,k _ _ (.inl rfl) e⟩
 |wb ob u ih=>obtain⟨e,q⟩:=x;exact⟨k _ _ (.inl rfl) e,ih q⟩
 |FC ps =>
  have e:h.get? a=some {cls:=.none,data:=.fields ps}:=x;show h'.get? a=some {cls:=.none,data:=.fields ps};exact k a _ (.inl rfl) e
 |met f y =>
  have e:h.get? a=some (PySem.W.methodObj (.ref f) (.ref y)):=x;show h'.get? a=some (PySem.W.methodObj (.ref f) (.ref y));exact k a _ (.inl rfl) e
 |ext φ=>obtain⟨p,⟨o,e⟩,st⟩:=x;exact⟨st _ _ p λo q=>k _ _ (.inl rfl) q,⟨o,k _ _ (.inl rfl) e⟩,st⟩
theorem gL.lt (x:gL P w H h)(e:H a=some o):a<h.objs.size:=(x a o e).lt
theorem gL.fresh (x:gL P w H h)(e:h.objs.size<=a):H a=none:=by
 cases q:H a with
 |none=>rfl
 |some u=>exact absurd (V1 (x.lt q) e) (Xe _)
theorem gL.kept (x:gL P w H h)(k:∀b u,h.get? b=some u->h'.get? b=some u):gL P w H h':=λa o e =>
 (x a o e).nQ (λb u _ q=>k b u q) (λ_ q=>q) λ_ _ q=>q
theorem gL.laid (x:gL P w H h)(k:∀b u,h.get? b=some u->h'.get? b=some u)(hp:h.objs.size<=a)(new:bp P w (upd H a o) h' a o):gL P w (upd H a o) h':=λb u e=>by
 have hn:=x.fresh hp
 by_cases hb:b=a
 ·subst hb;rw[ao]at e;cases e;exact new
 ·rw[ar hb]at e;exact(x b u e).nQ (λc v _ q=>k c v q) (λc q=>by rw[ar (cR q hn)];exact q) λc xs q=>by rw[ar (cR q hn)];exact q
end
def Rd (H:Hp)(a:Addr)(u:HO):Prop:=H a=some u\/∃o,H a=some (.wb o u)
theorem Rd.ok {P:Vz}{w:VG}{H:Hp}{h:Heap}{a:Addr}{u:HO}(r:Rd H a u)(x:gL P w H h):bp P w H h a u:=by
 rcases r with r|⟨o,r⟩
 ·exact x a u r
 ·obtain⟨_,q⟩:=x a _ r;exact q
def Ni:Option HO->Prop
 |some (.lst _)=>True
 |some (.dK _)=>True
 |some (.dT _)=>True
 |some (.set _ _)=>True
 |some (.ins _ _ _)=>True
 |some (.ext _)=>True
 |_=>False
section
variable {P:Vz}{w:VG}{H:Hp}{h h':Heap}{x e:Addr}{o':HO}
theorem gL.write (ok:gL P w H h)(mu:Ni (H x))(he:e=x\/H e=some (.own x))(k:∀b u,b≠e->h.get? b=some u->h'.get? b=some u)(J2:∃u,h'.get? e=some u)
  (new:bp P w (upd H x o') h' x o'):gL P w (upd H x o') h':=λb u q=>by
 have Lf:∀c y,H c=some (.own y)->c≠x:=λc y r z=>by subst z;rw[r]at mu;exact mu
 have O5:∀c xs,H c=some (.tup xs)->c≠x:=λc xs r z=>by subst z;rw[r]at mu;exact mu
 by_cases hb:b=x
 ·subst hb;rw[ao]at q;cases q;exact new
 ·rw[ar hb]at q
  by_cases Ja:b=e
  ·have q':H b=some (.own x):=by
    rcases he with z|z
    ·exact absurd (Ja.trans z) hb
    ·rw[Ja];exact z
   rw[q]at q';cases q';obtain⟨v,hv⟩:=J2;exact⟨v,by rw[Ja];exact hv⟩
  ·refine(ok b u q).nQ (λc v hc r=>k c v ?_ r) (λc r=>by rw[ar (Lf c b r)];exact r) λc xs r=>by rw[ar (O5 c xs r)];exact r
   rcases hc with rfl|hc
   ·exact Ja
   ·rintro rfl;rcases he with z|z
    ·exact Lf c b hc z
    ·rw[hc]at z;cases z;exact hb rfl
end
structure Un (fs ex:List Addr)(H H':Hp)(h h':Heap):Prop where
 keep:∀b o,h.get? b=some o->H b=none->b∉fs->b∉ex->h'.get? b=some o
 slot:∀b o,h.get? b=some o->H b=none->b∈fs->b∉ex->∃sl,h'.get? b=some {o with slots:=sl}
 free:∀b o,h.get? b=some o->H b=none->b∉ex->H' b=none
 there:∀b o,h.get? b=some o->b∉ex->∃o',h'.get? b=some o'
 i4:∀b xs,H b=some (.tup xs)->H' b=some (.tup xs)
 iH:∀b o u,H b=some (.wb o u)->H' b=some (.wb o u)
 i5:∀b ps,H b=some (.FC ps)->∃more,H' b=some (.FC (ps++more))
section
variable {fs ex:List Addr}{H H1:Hp}{h h1 h':Heap}{a x e:Addr}{o:HO}
theorem Un.any (u:Un fs ex H H1 h h1){b:Addr}{ob:Obj}(q:h.get? b=some ob)(n:H b=none)(hx:b∉ex):∃sl,h1.get? b=some {ob with slots:=sl}:=by
 by_cases hb:b∈fs
 ·exact u.slot b ob q n hb hx
 ·exact⟨ob.slots,u.keep b ob q n hb hx⟩
theorem Un.kept (k:∀b u,h.get? b=some u->h'.get? b=some u):Un fs ex H H h h' :=
 ⟨λb ob q _ _ _=>k b ob q,λb ob q _ _ _=>⟨ob.slots,k b ob q⟩,λ_ _ _ n _=>n,λb ob q _=>⟨ob,k b ob q⟩,λ_ _ q=>q,λ_ _ _ q=>q,λ_ ps q=>⟨#[],by rw[q];simp⟩⟩
theorem Un.refl:Un fs ex H H h h:=Un.kept λ_ _ q=>q
theorem Un.laid (k:∀b u,h.get? b=some u->h'.get? b=some u)(hp:h.objs.size<=a)(hn:H a=none):Un fs ex H (upd H a o) h h' where
 keep:=λb u q _ _ _=>k b u q
 slot:=λb u q _ _ _=>⟨u.slots,k b u q⟩
 free:=λb u q n _=>by rw[ar (V_ (V1 (VR q) hp))];exact n
 there:=λb u q _=>⟨u,k b u q⟩
 i4:=λb xs q=>by rw[ar (cR q hn)];exact q
 iH:=λb u xs q=>by rw[ar (cR q hn)];exact q
 i5:=λb ps q=>⟨#[],by rw[ar (cR q hn),q];simp⟩
theorem Un.write (mu:Ni (H x))(he:e=x\/H e=some (.own x))(k:∀b u,b≠e->h.get? b=some u->h'.get? b=some u)(J2:∃u,h'.get? e=some u):Un fs ex H (upd H x o) h h':=by
 have hx:∀b,H b=none->b≠x:=λb n z=>by subst z;rw[n]at mu;exact mu
 have hb:∀b,H b=none->b≠e:=λb n z=>by
  subst z;rcases he with r|r
  ·exact hx b n r
  ·rw[n]at r;cases r
 have hm:∀b u,H b=some u->¬ Ni (some u)->b≠x:=λb u q nm z=>by subst z;rw[q]at mu;exact nm mu
 refine⟨λb u q n _ _=>k b u (hb b n) q,λb u q n _ _=>⟨u.slots,k b u (hb b n) q⟩,λb u q n _=>by rw[ar (hx b n)];exact n,λb u q _=>?_,
  λb xs q=>by rw[ar (hm b _ q λz=>z)];exact q,λb u xs q=>by rw[ar (hm b _ q λz=>z)];exact q,λb ps q=>⟨#[],by rw[ar (hm b _ q λz=>z),q];simp⟩⟩
 by_cases Ja:b=e
 ·subst Ja;exact J2
 ·exact⟨u,k b u Ja q⟩
end
def JU (h:Heap)(H:Hp):List Addr:=(VF h.objs.size).filter λa=>(H a).isSome
def qp (h:Heap)(H:Hp):Heap:=PySem.W.hideAll h (JU h H)
theorem ye (h:Heap)(H:Hp):(qp h H).objs.size=h.objs.size:=PySem.W.hideAll_size _ _
theorem BC {h:Heap}{H:Hp}{b:Addr}{o:Obj}(e:h.get? b=some o)(n:H b=none):(qp h H).get? b=some o :=
 PySem.W.hideAll_get _ e λhm=>by
  have q:(H b).isSome=true:=(WA.mp hm).2;rw[n]at q;simp at q
theorem DV {h:Heap}{H:Hp}{b:Addr}{o:Obj}(e:(qp h H).get? b=some o):h.get? b=some o/\H b=none:=by
 have e':h.get? b=some o:=PySem.W.of_hideAll (JU h H) e;refine⟨e',?_⟩;cases q:H b with
 |none=>rfl
 |some x =>
  have hm:b∈JU h H:=WA.mpr ⟨Wl.mpr (VR e'),by simp[q]⟩
  have z:(qp h H).get? b=none:=PySem.W.hideAll_none (JU h H) hm;rw[z]at e;cases e
structure Mod (K:PySem.W.Frag)(mg:Str->Option Vv)(base:Heap):Prop where
 JZ:K.In base
 glob:base.Ns WZ mg
 blt:∃mb,base.Ns builtinsNs mb/\∀x:Str,x≠"__name__" -> mb x=Wq x
 nolimit:base.NoLimit
structure Cx where
 prog:Vz
 w:VG
 K:PySem.W.Frag
 mg:Str->Option Vv
 base:Heap
 A:Wv
 N:List Str
 s₀:Vw
 H₀:Hp
 env:Env
 outer:List Env
 stack:List Env
 ex:List Addr
 fn:Str->Bool
 calm:Bool
 pn:List (Addr×Obj)
 xe:Vv->Vw->Prop
def gH (l:List Env):List Addr:=l.filterMap (·.frame)
abbrev Cx.fs (X:Cx):List Addr:=gH X.outer
def Kc (sc:Xw)(x:Str):Prop:=sc.names.lookup x=some .local\/sc.names.lookup x=some .cell\/sc.names.lookup x=some .free
def Loc (sc:Xw)(x:Str):Prop:=sc.names.lookup x=some .local\/sc.names.lookup x=some .cell
def Look (env:Env)(h:Heap)(m:Str->Option Vv)(x:Str)(u:Vv):Prop :=
 (env.kindOf x=some .local/\m x=some u)\/((env.kindOf x=some .cell\/env.kindOf x=some .free)/\∃c,env.cells.lookup x=some c/\h.IsCell c (some u))
structure Cx.Ok (X:Cx):Prop where
 mod:Mod X.K X.mg X.base
 kind:X.env.scope.kind=.function
 glob:X.env.globals=WZ
 blt:X.env.builtins=builtinsNs
 above:X.s₀.heap.objs.size<=X.env.locals
 inj:∀x y c,X.env.cells.lookup x=some c->X.env.cells.lookup y=some c->x=y
 has:∀x,(X.env.kindOf x=some .cell\/X.env.kindOf x=some .free)->∃c,X.env.cells.lookup x=some c
 Fh:∀x c,X.fn x=true->X.env.cells.lookup x=some c->X.s₀.heap.objs.size<=c
 hd:X.calm=true->X.A.handled=none
 frames:X.A.frames=some X.stack
 FH:X.stack=X.outer\/(X.stack=X.env::X.outer/\X.env.frame=some X.env.locals)
 Ga:∀b∈X.ex,b≠X.env.locals/\∀x c,X.env.cells.lookup x=some c->c≠b
 bs:∀b o,X.base.get? b=some o->X.s₀.heap.get? b=some o/\X.H₀ b=none
 yB:X.base.objs.size<=X.s₀.heap.objs.size
 qh:∀b o,X.base.get? b=some o->b∉X.ex
 qt:∀b∈X.ex,b∉X.fs
 iF:X.s₀.heap.FunFrames X.base X.outer
 BJ:∀b∈X.fs,X.H₀ b=none
structure Inv (X:Cx)(pins:List (Addr×Obj))(σ:List (Option V))(H:Hp)(s:Vw):Prop where
 ok:X.Ok
 os:s.os=X.s₀.os
 bare:Yz s.gens
 base:Un X.fs X.ex X.H₀ H X.s₀.heap s.heap
 loc:∃m,s.heap.Ns X.env.locals m/\∀(i:Nat) (x:Str) (v:V),X.N[i]?=some x->σ[i]?=some (some v)->Kc X.env.scope x->∃u,RelV v u/\Look X.env s.heap m x u
 cell:∀x c,X.env.cells.lookup x=some c->∃v,s.heap.IsCell c v
 free:H X.env.locals=none
 dQ:∀x c,X.env.cells.lookup x=some c->H c=none
 pin:∀p∈X.pn++pins,s.heap.get? p.1=some p.2/\H p.1=none/\p.1≠X.env.locals/\p.1∉X.fs/\∀v,p.2.data≠.cell v
 a6:gL X.prog X.w H s.heap
 len:σ.length=X.N.length
section
variable {X:Cx}{pins:List (Addr×Obj)}{σ:List (Option V)}{H H':Hp}{s:Vw}{h':Heap}
theorem Cx.Ok.HS (ok:X.Ok){b:Addr}{o:Obj}(e:X.base.get? b=some o):b∉X.fs:=λhb=>by
 have:=(ok.iF.mem hb).1;rw[e]at this;cases this
theorem Inv.bs (I:Inv X pins σ H s):∀b o,X.base.get? b=some o->s.heap.get? b=some o/\H b=none:=λb o e =>
 ⟨I.base.keep b o (I.ok.bs b o e).1 (I.ok.bs b o e).2 (I.ok.HS e) (I.ok.qh b o e),I.base.free b o (I.ok.bs b o e).1 (I.ok.bs b o e).2 (I.ok.qh b o e)⟩
theorem Inv.bk (I:Inv X pins σ H s):∀b o,X.base.get? b=some o->s.heap.get? b=some o:=λb o e=>(I.bs b o e).1
theorem Inv.mod (I:Inv X pins σ H s):Mod X.K X.mg X.base:=I.ok.mod
theorem Inv.ya (I:Inv X pins σ H s):X.K.In s.heap:=I.ok.mod.JZ.keeps I.bk
theorem Inv.lt (I:Inv X pins σ H s):X.env.locals<s.heap.objs.size:=let ⟨_,hn,_⟩:=I.loc;hn.lt
theorem Inv.sz (I:Inv X pins σ H s):X.s₀.heap.objs.size<=s.heap.objs.size:=Wc I.ok.above (Nat.le_of_lt I.lt)
theorem Inv.O6 (I:Inv X pins σ H s){a:Addr}(h:s.heap.objs.size<=a):a∉X.fs:=λhb=>by
 obtain⟨_,o,ho,_⟩:=I.ok.iF.mem hb;exact absurd (V1 (VR ho) (Wc I.sz h)) (Xe _)
theorem Inv.Cf (I:Inv X pins σ H s):∀x c,X.env.cells.lookup x=some c->c≠X.env.locals:=λx c e z=>by
 obtain⟨v,o,ho,hd⟩:=I.cell x c e;obtain⟨m,⟨o',es,ep,qL,MS,_⟩,_⟩:=I.loc;rw[z,qL]at ho;cases ho;rw[MS]at hd;cases hd
theorem Inv.iF (I:Inv X pins σ H s):s.heap.FunFrames X.base X.outer:=by
 have all:∀(l:List Env),(∀b∈gH l,b∈X.fs)->X.s₀.heap.FunFrames X.base l->s.heap.FunFrames X.base l:=by
  intro l
  induction l with
  |nil=>intro _ _;trivial
  |cons env r ih =>
   intro hs hl;obtain⟨hk,⟨L,o,hf,hn,ho,hd⟩,hr⟩:=hl;have hL:L∈X.fs:=hs L (by unfold gH;rw[We,hf];exact V8)
   obtain⟨sl,e⟩:=I.base.slot L o ho (I.ok.BJ L hL) hL λz=>I.ok.qt L z hL;exact⟨hk,⟨L,_,hf,hn,e,hd⟩,ih (λb hb=>hs b (by unfold gH;rw[We,hf];exact V2 _ hb)) hr⟩
 exact all X.outer (λ_ hb=>hb) I.ok.iF
theorem Inv.stack (I:Inv X pins σ H s):s.heap.FunFrames X.base X.stack:=by
 rcases I.ok.FH with e|⟨e,hf⟩
 ·rw[e];exact I.iF
 ·rw[e];obtain⟨m,hn,_⟩:=I.loc;refine .cons (by rw[I.ok.kind];decide) hf hn ?_ I.iF
  exact Heap.get?_none_of_le (Wc I.ok.yB I.ok.above)
theorem Inv.t8 (I:Inv X pins σ H s):∀b∈gH X.stack,b∈X.env.locals::X.fs:=λb hb=>by
 rcases I.ok.FH with e|⟨e,hf⟩
 ·rw[e]at hb;exact V2 _ hb
 ·rw[e]at hb;unfold gH at hb;rw[We,hf]at hb;exact hb
theorem Inv.pO (I:Inv X pins σ H s):∀b∈gH X.stack,H b=none:=λb hb=>by
 rcases VB.mp (I.t8 b hb)with e|hb
 ·rw[e];exact I.free
 ·obtain⟨_,o,ho,_⟩:=I.ok.iF.mem hb;exact I.base.free b o ho (I.ok.BJ b hb) λz=>I.ok.qt b z hb
theorem Inv.step {g':Array Z8}{t':Nat}{d':Drawn}{ch:List Addr}(I:Inv X pins σ H s)
  (v9:∀b∈ch,(b∈X.ex\/X.s₀.heap.objs.size<=b)/\b≠X.env.locals/\(∀x c,X.env.cells.lookup x=some c->c≠b)/\∀p∈X.pn++pins,p.1≠b)
  (keep:∀b o,b≠X.env.locals->b∉X.fs->b∉ch->s.heap.get? b=some o->H b=none->h'.get? b=some o)
  (slot:∀b o,b≠X.env.locals->b∈X.fs->b∉ch->s.heap.get? b=some o->H b=none->∃sl,h'.get? b=some {o with slots:=sl}) (free:∀b o,b∉ch->s.heap.get? b=some o->H b=none->H' b=none)
  (there:∀b o,b∉ch->s.heap.get? b=some o->∃o',h'.get? b=some o')
  (i4:∀b xs,H b=some (.tup xs)->H' b=some (.tup xs)) (iH:∀b o u,H b=some (.wb o u)->H' b=some (.wb o u)) (i5:∀b ps,H b=some (.FC ps)->∃more,H' b=some (.FC (ps++more)))
  (ns:∀m,s.heap.Ns X.env.locals m->h'.Ns X.env.locals m) (a6:gL X.prog X.w H' h') (hg:Yz g') :
  Inv X pins σ H' {s with heap:=h',gens:=g',drawn:=d',toks:=t'}:=by
 have RJ:∀b o,X.s₀.heap.get? b=some o->b≠X.env.locals:=λb o e=>V_ (V1 (VR e) I.ok.above);have NH:∀b o,X.s₀.heap.get? b=some o->b∉X.ex->b∉ch:=λb o e hx hb=>by
  rcases (v9 b hb).1 with z|z
  ·exact hx z
  ·exact absurd (V1 (VR e) z) (Xe _)
 have cellK:∀x c,X.env.cells.lookup x=some c->∀v,s.heap.IsCell c v->h'.IsCell c v:=λx c e v qo=>by
  obtain⟨o,ho,hd⟩:=qo;have Lj:c∉ch:=λz=>(v9 c z).2.2.1 x c e rfl
  by_cases hc:c∈X.fs
  ·obtain⟨sl,q⟩:=slot c o (I.Cf x c e) hc Lj ho (I.dQ x c e);exact⟨_,q,hd⟩
  ·exact⟨o,keep c o (I.Cf x c e) hc Lj ho (I.dQ x c e),hd⟩
 refine⟨I.ok,I.os,hg,⟨λb o e n hb hx=>?_,λb o e n hb hx=>?_,λb o e n hx=>?_,λb o e hx=>?_,λb xs e=>i4 b xs (I.base.i4 b xs e),λb o xs e=>iH b o xs (I.base.iH b o xs e),λb ps e=>?_⟩,?_,λx c e=>?_,?_,λx c e=>?_,λp hp=>?_,a6,I.len⟩
 ·exact keep b o (RJ b o e) hb (NH b o e hx) (I.base.keep b o e n hb hx) (I.base.free b o e n hx)
 ·obtain⟨sl,e1⟩:=I.base.slot b o e n hb hx;obtain⟨vq,e2⟩:=slot b _ (RJ b o e) hb (NH b o e hx) e1 (I.base.free b o e n hx);exact⟨vq,e2⟩
 ·obtain⟨o',e1⟩:=I.base.there b o e hx;exact free b o' (NH b o e hx) e1 (I.base.free b o e n hx)
 ·obtain⟨o',e1⟩:=I.base.there b o e hx;exact there b o' (NH b o e hx) e1
 ·obtain⟨m1,e1⟩:=I.base.i5 b ps e;obtain⟨m2,e2⟩:=i5 b _ e1;exact⟨m1++m2,by rw[e2,Array.append_assoc]⟩
 ·obtain⟨m,hn,hl⟩:=I.loc;refine⟨m,ns m hn,λi x v e1 e2 e3=>?_⟩;obtain⟨u,r,l⟩:=hl i x v e1 e2 e3;refine⟨u,r,?_⟩;rcases l with l|⟨k,c,e,z⟩
  ·exact .inl l
  ·exact .inr ⟨k,c,e,cellK x c e _ z⟩
 ·obtain⟨v,z⟩:=I.cell x c e;exact⟨v,cellK x c e v z⟩
 ·obtain⟨m,⟨o,_,_,ho,_⟩,_⟩:=I.loc;exact free _ o (λz=>(v9 _ z).2.1 rfl) ho I.free
 ·obtain⟨v,o,ho,hd⟩:=I.cell x c e;exact free c o (λz=>(v9 c z).2.2.1 x c e rfl) ho (I.dQ x c e)
 ·obtain⟨e,n,ne,nf,d⟩:=I.pin p hp;have Lj:p.1∉ch:=λz=>(v9 p.1 z).2.2.2 p hp rfl;exact⟨keep p.1 p.2 ne nf Lj e n,free p.1 p.2 Lj e n,ne,nf,d⟩
theorem Inv.un {t':Nat}(I:Inv X pins σ H s)(u:Un X.fs [] H H' s.heap h')(a6:gL X.prog X.w H' h'):Inv X pins σ H' {s with heap:=h',toks:=t'}:=by
 obtain⟨m,⟨o,es,ep,ho,r⟩,_⟩:=id I.loc;obtain⟨sl,hL⟩:=u.any ho I.free (by simp)
 exact I.step (g':=s.gens) (d':=s.drawn) (ch:=[]) (λ_ z=>nomatch z) (λb o _ hb _ e n=>u.keep b o e n hb (by simp)) (λb o _ hb _ e n=>u.slot b o e n hb (by simp)) (λb o _ e n=>u.free b o e n (by simp)) (λb o _ e=>u.there b o e (by simp)) u.i4 u.iH u.i5 (λm' hm=>by
  obtain⟨o',dY,jn,qL,r'⟩:=hm;rw[ho]at qL;cases qL;exact⟨_,dY,jn,hL,r'⟩) a6 I.bare
theorem Inv.call {g':Array Z8}{t':Nat}{d':Drawn}{ch:List Addr}(I:Inv X pins σ H s)(u:Un (gH X.stack) ch H H' s.heap h')(a6:gL X.prog X.w H' h')(hg:Yz g')
  (v9:∀b∈ch,(b∈X.ex\/X.s₀.heap.objs.size<=b)/\b≠X.env.locals/\(∀x c,X.env.cells.lookup x=some c->c≠b)/\∀p∈X.pn++pins,p.1≠b) :
  Inv X pins σ H' {s with heap:=h',gens:=g',drawn:=d',toks:=t'}:=by
 obtain⟨m,⟨o,es,ep,ho,r⟩,_⟩:=id I.loc;obtain⟨sl,hL⟩:=u.any ho I.free λz=>(v9 _ z).2.1 rfl;exact I.step (ch:=ch) v9 (λb o hL hb hc e n=>u.keep b o e n (λz=>(VB.mp (I.t8 b z)).elim hL hb) hc) (λb o _ _ hc e n=>u.any e n hc) (λb o hc e n=>u.free b o e n hc) (λb o hc e=>u.there b o e hc) u.i4 u.iH u.i5 (λm' hm=>by
  obtain⟨o',dY,jn,qL,r'⟩:=hm;rw[ho]at qL;cases qL;exact⟨_,dY,jn,hL,r'⟩) a6 hg
theorem Inv.turned {t':Nat}{it:Addr}(I:Inv X pins σ H s)(k:∀b o,b≠it->s.heap.get? b=some o->h'.get? b=some o)(hn:H it=none)(hL:it≠X.env.locals)
  (h1:it∈X.ex\/X.s₀.heap.objs.size<=it) (h2:∀x c,X.env.cells.lookup x=some c->c≠it) (h3:∀p∈X.pn++pins,p.1≠it):Inv X pins σ H {s with heap:=h',toks:=t'}:=by
 have RI:∀b u,H b=some u->b≠it:=λb u e z=>by rw[z,hn]at e;cases e
 refine I.step (g':=s.gens) (d':=s.drawn) (ch:=[it]) (λb hb=>?_) (λb o _ _ hc e _=>k b o (λz=>hc (by simp[z])) e) (λb o _ _ hc e _=>⟨o.slots,k b o (λz=>hc (by simp[z])) e⟩) (λ_ _ _ _ n=>n)
  (λb o hc e=>⟨o,k b o (λz=>hc (by simp[z])) e⟩) (λ_ _ e=>e) (λ_ _ _ e=>e) (λb ps e=>⟨#[],by rw[e];simp⟩) (λm hm=>?_) (λb u e=>?_) I.bare
 ·have e:b=it:=by simpa using hb
  subst e;exact⟨h1,hL,h2,h3⟩
 ·obtain⟨o,es,ep,ho,r⟩:=hm;exact⟨o,es,ep,k _ o (Xg hL) ho,r⟩
 ·refine(I.a6 b u e).nQ (λc v hc q=>k c v ?_ q) (λ_ q=>q) λ_ _ q=>q;rcases hc with z|z
  ·rw[z];exact RI b u e
  ·exact RI c _ z
theorem Inv.tok (I:Inv X pins σ H s)(t:Nat):Inv X pins σ H {s with toks:=t}:=I.un (h':=s.heap) (t':=t) Un.refl I.a6
theorem Inv.kept {t':Nat}(I:Inv X pins σ H s)(k:∀b u,s.heap.get? b=some u->h'.get? b=some u):Inv X pins σ H {s with heap:=h',toks:=t'}:=I.un (Un.kept k) (I.a6.kept k)
theorem Inv.laid {a:Addr}{o:HO}{t':Nat}(I:Inv X pins σ H s)(k:∀b u,s.heap.get? b=some u->h'.get? b=some u)(hp:s.heap.objs.size<=a)(new:bp X.prog X.w (upd H a o) h' a o):
  Inv X pins σ (upd H a o) {s with heap:=h',toks:=t'}:=I.un (Un.laid k hp (I.a6.fresh hp)) (I.a6.laid k hp new)
theorem Inv.write {x e:Addr}{o:HO}{t':Nat}(I:Inv X pins σ H s)(mu:Ni (H x))(he:e=x\/H e=some (.own x))(k:∀b u,b≠e->s.heap.get? b=some u->h'.get? b=some u)(J2:∃u,h'.get? e=some u)
  (new:bp X.prog X.w (upd H x o) h' x o):Inv X pins σ (upd H x o) {s with heap:=h',toks:=t'}:=I.un (Un.write mu he k J2) (I.a6.write mu he k J2 new)
theorem Inv.vH {gT:List (Addr×Obj)}(I:Inv X pins σ H s)(h:∀p∈gT,s.heap.get? p.1=some p.2/\H p.1=none/\p.1≠X.env.locals/\p.1∉X.fs/\∀v,p.2.data≠.cell v):Inv X gT σ H s :=
 ⟨I.ok,I.os,I.bare,I.base,I.loc,I.cell,I.free,I.dQ,λp hp=>(VL.mp hp).elim (λz=>I.pin p (V3 _ z)) (h p),I.a6,I.len⟩
theorem mM {N:List Str}(hN:N.Nodup){i j:Nat}{x:Str}(a:N[i]?=some x)(b:N[j]?=some x):i=j:=by
 obtain⟨h1,e1⟩:=VN.mp a;obtain⟨h2,e2⟩:=VN.mp b;exact(List.getElem_inj hN).mp (e1.trans e2.symm)
theorem oA {M:Z7}{A:Wv}{E:Vv->Vw->Prop}{i:Nat}{x:Str}{v:V}{u:Vv}{Q:Unit->Vw->Prop}(I:Inv X pins σ H s)(hN:X.N.Nodup)(hi:X.N[i]?=some x)(hx:Loc X.env.scope x)(r:RelV v u)
  (h:∀s',Inv X pins (σ.set i (some v)) H s'->(∃a,WY a s.heap s'.heap/\(a=X.env.locals\/X.env.cells.lookup x=some a))->Q () s') (hf:X.fn x=true\/X.env.scope.names.lookup x=some .local:=by first|exact .inl rfl|exact .inr rfl|assumption):VU M A (storeName X.env x u) Q E s:=by
 obtain⟨m,hn,hl⟩:=id I.loc;have I_:(X.env.scope.kind==.class || (X.env.scope.kind==.module&&X.env.locals != X.env.globals))=false:=by rw[I.ok.kind];rfl
 have ML:i<σ.length:=by rw[I.len];exact(VN.mp hi).1
 have Cf:=I.Cf;have tracked:∀{a:Addr} {h':Heap},(∃o,s.heap.get? a=some o/\H a=none)->WY a s.heap h'->gL X.prog X.w H h':=λ{a h'} ha hs b ob e=>by
  obtain⟨_,_,v8⟩:=ha;refine(I.a6 b ob e).nQ (λc w' hc q=>(hs.2 c ?_).trans q) (λ_ q=>q) λ_ _ q=>q;rintro rfl;rcases hc with rfl|hc
  ·rw[v8]at e;cases e
  ·rw[v8]at hc;cases hc
 rcases hx with hk|hk
 ·refine wpAny_storeName_local hk hn (λh' IW hs=>?_) I_;obtain⟨oL,_,_,RV,_⟩:=id hn;refine h _ ⟨I.ok,I.os,I.bare,⟨λb o e n hb hx=>?_,λb o e n hb hx=>?_,I.base.free,λb o e hx=>?_,I.base.i4,I.base.iH,I.base.i5⟩,⟨_,IW,λj y v' e1 e2 e3=>?_⟩,λy c e=>?_,I.free,I.dQ,λp hp=>?_,tracked ⟨oL,RV,I.free⟩ hs,by simpa using I.len⟩ ⟨_,hs,.inl rfl⟩
  ·exact(hs.2 b (V_ (V1 (VR e) I.ok.above))).trans (I.base.keep b o e n hb hx)
  ·obtain⟨sl,e1⟩:=I.base.slot b o e n hb hx;exact⟨sl,(hs.2 b (V_ (V1 (VR e) I.ok.above))).trans e1⟩
  ·obtain⟨o',e1⟩:=I.base.there b o e hx;exact⟨o',(hs.2 b (V_ (V1 (VR e) I.ok.above))).trans e1⟩
  ·by_cases hj:j=i
   ·subst hj;rw[hi]at e1;cases e1;rw[List.getElem?_set_self ML]at e2;cases e2;exact⟨u,r,.inl ⟨hk,by simp⟩⟩
   ·rw[Y2 (Xg hj)]at e2;obtain⟨u',r',q⟩:=hl j y v' e1 e2 e3;refine⟨u',r',?_⟩;rcases q with⟨k,e⟩|⟨k,c,e,z⟩
    ·refine .inl ⟨k,?_⟩;have:y≠x:=λe=>hj (mM hN e1 (e▸hi));simp[this,e]
    ·exact .inr ⟨k,c,e,z.sameBut hs (Cf y c e)⟩
  ·obtain⟨w',z⟩:=I.cell y c e;exact⟨w',z.sameBut hs (Cf y c e)⟩
  ·obtain⟨e,n,ne,nf,d⟩:=I.pin p hp;exact⟨(hs.2 p.1 ne).trans e,n,ne,nf,d⟩
 ·have Qo:X.fn x=true:=by
   rcases hf with z|z
   ·exact z
   ·rw[z]at hk;cases hk
  obtain⟨c,hc⟩:=I.ok.has x (.inl hk);obtain⟨w',z⟩:=I.cell x c hc;refine wpAny_storeName_cell I.ok.kind hk hc z (λh' yR hs=>?_);obtain⟨oc,EJ,P_⟩:=id z;refine h {s with heap:=h'} ⟨I.ok,I.os,I.bare,⟨λb o e n hb hx=>?_,λb o e n hb hx=>?_,I.base.free,λb o e hx=>?_,I.base.i4,I.base.iH,I.base.i5⟩,⟨m,hn.sameBut hs (Xg (Cf x c hc)),λj y v' e1 e2 e3=>?_⟩,λy c' e=>?_,I.free,I.dQ,λp hp=>?_,tracked ⟨oc,EJ,I.dQ x c hc⟩ hs,by simpa using I.len⟩ ⟨c,hs,.inr hc⟩
  ·exact(hs.2 b (V_ (V1 (VR e) (I.ok.Fh x c Qo hc)))).trans (I.base.keep b o e n hb hx)
  ·obtain⟨sl,e1⟩:=I.base.slot b o e n hb hx;exact⟨sl,(hs.2 b (V_ (V1 (VR e) (I.ok.Fh x c Qo hc)))).trans e1⟩
  ·obtain⟨o',e1⟩:=I.base.there b o e hx;exact⟨o',(hs.2 b (V_ (V1 (VR e) (I.ok.Fh x c Qo hc)))).trans e1⟩
  ·by_cases hj:j=i
   ·subst hj;rw[hi]at e1;cases e1;rw[List.getElem?_set_self ML]at e2;cases e2;exact⟨u,r,.inr ⟨.inl hk,c,hc,yR⟩⟩
   ·rw[Y2 (Xg hj)]at e2;obtain⟨u',r',q⟩:=hl j y v' e1 e2 e3;refine⟨u',r',?_⟩;rcases q with q|⟨k,c',e,z'⟩
    ·exact .inl q
    ·refine .inr ⟨k,c',e,z'.sameBut hs ?_⟩;rintro rfl;exact hj (mM hN e1 (I.ok.inj _ _ _ e hc▸hi))
  ·by_cases R6:c'=c
   ·subst R6;exact⟨_,yR⟩
   ·obtain⟨w2,z2⟩:=I.cell y c' e;exact⟨w2,z2.sameBut hs R6⟩
  ·obtain⟨e,n,ne,nf,d⟩:=I.pin p hp;refine⟨(hs.2 p.1 ?_).trans e,n,ne,nf,d⟩;intro q;rw[q,EJ]at e;have q':oc=p.2:=V5 e;exact d w' (by rw[<- q'];exact P_)
theorem me {M:Z7}{A:Wv}{E:Vv->Vw->Prop}{i:Nat}{x:Str}{v:V}{u:Vv}{Q:Unit->Vw->Prop}(I:Inv X pins σ H s)(hN:X.N.Nodup)(hi:X.N[i]?=some x)(hx:Loc X.env.scope x)(r:RelV v u)
  (h:∀s',Inv X pins (σ.set i (some v)) H s'->Q () s') (hf:X.fn x=true\/X.env.scope.names.lookup x=some .local:=by first|exact .inl rfl|exact .inr rfl|assumption):VU M A (storeName X.env x u) Q E s :=
 oA I hN hi hx r (λs' I' _=>h s' I') hf
theorem Inv.Gi {s':Vw}{ch:List Addr}(I:Inv X pins σ H s)(ho:s'.os=s.os)(u:Un (gH X.stack) ch H H' s.heap s'.heap)(a6:gL X.prog X.w H' s'.heap)(hg:Yz s'.gens)
  (v9:∀b∈ch,(b∈X.ex\/X.s₀.heap.objs.size<=b)/\b≠X.env.locals/\(∀x c,X.env.cells.lookup x=some c->c≠b)/\∀p∈X.pn++pins,p.1≠b):Inv X pins σ H' s':=by
 obtain⟨h',g',d',t',o'⟩:=s';have e:o'=s.os:=ho;subst e;exact I.call (g':=g') (t':=t') (d':=d') u a6 hg v9
end
abbrev XK:=Vv->Option Addr->Hp->Prop
abbrev St:=List (Option V)
abbrev VK:=V->Hp->Prop
abbrev TE:=St->Hp->VK->Prop
abbrev TT:=St->Hp->(Bool->Hp->Prop)->Prop
abbrev TA:=St->Hp->(List V->Hp->Prop)->Prop
structure Ends where
 nx:St->Hp->Prop
 rt:VK
 bk:St->Hp->Prop:=λ_ _=>False
 ct:St->Hp->Prop:=λ_ _=>False
abbrev TS:=Ends->St->Hp->Prop
def EP (X:Cx)(pins:List (Addr×Obj))(σ:St)(Q:VK)(u:Vv)(s':Vw):Prop:=∃v H',Inv X pins σ H' s'/\RelV v u/\Q v H'
def TP (X:Cx)(pins:List (Addr×Obj))(σ:St)(Q:Bool->Hp->Prop)(b:Bool)(s':Vw):Prop:=∃H',Inv X pins σ H' s'/\Q b H'
def AP (X:Cx)(pins:List (Addr×Obj))(σ:St)(Q:List V->Hp->Prop)(us:List Vv)(s':Vw):Prop:=∃vs H',Inv X pins σ H' s'/\Vals vs us/\Q vs H'
def SP (X:Cx)(pins:List (Addr×Obj))(D:Ends)(f:Flow)(s':Vw):Prop :=
 match f with
 |.next=>∃σ' H',Inv X pins σ' H' s'/\D.nx σ' H'
 |.brk=>∃σ' H',Inv X pins σ' H' s'/\D.bk σ' H'
 |.cont=>∃σ' H',Inv X pins σ' H' s'/\D.ct σ' H'
 |.ret u=>∃v σ' H',Inv X pins σ' H' s'/\RelV v u/\D.rt v H'
def PE (X:Cx)(e:Expr)(t:TE):Prop :=
 ∀(pins:List (Addr×Obj)) (s:Vw) (σ:St) (H:Hp) (Q:VK),Inv X pins σ H s->t σ H Q->VU (model X.prog X.w) X.A (eval e X.env) (EP X pins σ Q) X.xe s
def PT (X:Cx)(e:Expr)(t:TT):Prop :=
 ∀(pins:List (Addr×Obj)) (s:Vw) (σ:St) (H:Hp) (Q:Bool->Hp->Prop),Inv X pins σ H s->t σ H Q->VU (model X.prog X.w) X.A (ZC e X.env (eval e X.env)) (TP X pins σ Q) X.xe s
def PW (X:Cx)(e:Expr)(t:TT):Prop :=
 ∀(whole:Sem Vv) (pins:List (Addr×Obj)) (s:Vw) (σ:St) (H:Hp) (Q:Bool->Hp->Prop),Inv X pins σ H s->t σ H Q->VU (model X.prog X.w) X.A (ZC e X.env whole) (TP X pins σ Q) X.xe s
theorem PW.pt {X:Cx}{e:Expr}{t:TT}(h:PW X e t):PT X e t:=h _
def PA (X:Cx)(es:List Expr)(t:TA):Prop :=
 ∀(pos:Pos) (pins:List (Addr×Obj)) (s:Vw) (σ:St) (H:Hp) (Q:List V->Hp->Prop),Inv X pins σ H s->t σ H Q->VU (model X.prog X.w) X.A (spliced (WR pos (VE es X.env))) (AP X pins σ Q) X.xe s
def PS (X:Cx)(st:Stmt)(t:TS):Prop :=
 ∀(pins:List (Addr×Obj)) (s:Vw) (σ:St) (H:Hp) (D:Ends),Inv X pins σ H s->t D σ H->VU (model X.prog X.w) X.A (exec st X.env) (SP X pins D) X.xe s
def qE (X:Cx)(st:List Stmt)(t:TS):Prop :=
 ∀(pins:List (Addr×Obj)) (s:Vw) (σ:St) (H:Hp) (D:Ends),Inv X pins σ H s->t D σ H->VU (model X.prog X.w) X.A (execs st X.env) (SP X pins D) X.xe s
theorem bt {α:Type}{t:Sem α}{Q Q':α->Vw->Prop}{M:Z7}{A:Wv}{E:Vv->Vw->Prop}{s:Vw}(h:VU M A t Q E s)(hQ:∀a s,Q a s->Q' a s):VU M A t Q' E s:=XE h hQ λ_ _ x=>x
section
variable {X:Cx}
def GB (i:Nat):TE:=λσ H Q=>∃v,σ[i]?=some (some v)/\Q v H
def tC (v:V):TE:=λ_ H Q=>Q v H
theorem z_ {i:Nat} {x:Str} {pos:Pos} (hN:X.N[i]?=some x) (hv:Kc X.env.scope x) (hd:(x==("__debug__" : Str))=false:=by decide) (v_:(x==("__classdict__" : Str))=false:=by decide):PE X (.Name x pos) (GB i):=by
 intro pins s σ H Q I h;obtain⟨v,e,h⟩:=h;obtain⟨m,hn,hl⟩:=I.loc;obtain⟨u,r,l⟩:=hl i x v hN e hv;have fin:EP X pins σ Q u s:=⟨v,H,I,r,h⟩;rcases l with⟨hk,hm⟩|⟨hk,c,hc,oT⟩
 ·exact wpAny_Name (wpAny_loadName_local I.ok.kind hk hn hm fin) hd
 ·rcases hk with hk|hk
  ·exact wpAny_Name (wpAny_loadName_cell I.ok.kind hk hc oT fin) hd
  ·exact wpAny_Name (wpAny_loadName_free I.ok.kind hk hc oT fin v_) hd
theorem a9 {i j pos}:PE X (.Constant (.int i) j pos) (tC (.int i)):=λ_ _ _ H _ I h=>wpAny_Constant_int ⟨.int i,H,I.tok _,⟨_,rfl⟩,h⟩
theorem Ai {b j pos}:PE X (.Constant (.bool b) j pos) (tC (.bl b)):=λ_ _ _ H _ I h=>Constant_bool ⟨.bl b,H,I,rfl,h⟩
theorem Hl {j pos}:PE X (.Constant .none j pos) (tC .cU):=λ_ _ _ H _ I h=>Constant_none ⟨.cU,H,I,rfl,h⟩
def Gl (X:Cx)(x:Str):Prop:=X.env.kindOf x=some .globalImplicit
theorem il {E:Vv->Vw->Prop}{pins:List (Addr×Obj)}{s:Vw}{σ:St}{H:Hp}{x:Str}{u:Vv}{pos:Pos}{Q:Vv->Vw->Prop}(I:Inv X pins σ H s)(hg:Gl X x)(hm:X.mg x=some u)(h:Q u s)
  (hd:(x==("__debug__" : Str))=false:=by decide):VU (model X.prog X.w) X.A (eval (.Name x pos) X.env) Q E s :=
 Z_ I.ok.kind hg (Calls.loadGlobal_global (by rw[I.ok.glob];exact I.mod.glob.keeps I.bk) hm h) hd
theorem g7 {E:Vv->Vw->Prop}{pins:List (Addr×Obj)}{s:Vw}{σ:St}{H:Hp}{x:Str}{u:Vv}{pos:Pos}{Q:Vv->Vw->Prop}(I:Inv X pins σ H s)(hg:Gl X x)(hm:X.mg x=none)(hv:Wq x=some u)(h:Q u s)
  (hn:x≠"__name__" := by decide) (hd:(x==("__debug__" : Str))=false:=by decide):VU (model X.prog X.w) X.A (eval (.Name x pos) X.env) Q E s:=by
 obtain⟨mb,h1,h2⟩:=I.mod.blt;exact Z_ I.ok.kind hg (Calls.loadGlobal_builtin (by rw[I.ok.glob];exact I.mod.glob.keeps I.bk) hm (by rw[I.ok.blt];exact h1.keeps I.bk) ((h2 x hn).trans hv) h) hd
theorem DB {x:Str} {v:V} {u:Vv} {pos:Pos} (hg:Gl X x) (hm:X.mg x=some u) (r:RelV v u) (hd:(x==("__debug__" : Str))=false:=by decide):PE X (.Name x pos) (tC v) :=
 λ_ _ _ H _ I h=>il I hg hm ⟨v,H,I,r,h⟩ hd
theorem DD {x:Str} {v:V} {u:Vv} {pos:Pos} (hg:Gl X x) (hm:X.mg x=none) (hv:Wq x=some u) (r:RelV v u) (hn:x≠"__name__" := by decide) (hd:(x==("__debug__" : Str))=false:=by decide):PE X (.Name x pos) (tC v) :=
 λ_ _ _ H _ I h=>g7 I hg hm hv ⟨v,H,I,r,h⟩ hn hd
variable {a b:Expr}{ta tb:TE}{pos:Pos}
theorem rS (b:Expr){op:Yd}(h:op≠.In)(h2:op≠.NotIn):Xy op b=false:=by
 have e1:(op==CmpOp.In)=false:=by cases op <;> first|rfl|exact absurd rfl h
 have e2:(op==CmpOp.NotIn)=false:=by cases op <;> first|rfl|exact absurd rfl h2
 cases b <;> simp[Xy,e1,e2]
def tB (t:TE):TT:=λσ H Q=>t σ H λx H1=>∃c,x=.bl c/\Q c H1
theorem G_ {e:Expr}{t:TE}(h:PE X e t)(he:∀whole,ZC e X.env whole=(do let v <- whole;Yt e.pos;holding [v] (truthy v)):=by intro _;rfl):PT X e (tB t):=by
 intro pins s σ H Q I hw;refine isTrue_plain (bt (h pins s σ H _ I hw) λv s1 ⟨x,H1,I1,r1,q1⟩=>?_) (he _);obtain⟨d,rfl,q⟩:=q1;cases r1;exact W_ ⟨H1,I1,q⟩
variable {tA Rr:TT}{rest:List Expr}
def OA (t u:TT):TT:=λσ H Q=>t σ H λc H1=>if c=true then u σ H1 Q else Q false H1
def Ot (t:TT):TT:=λσ H Q=>t σ H λc H1=>Q (!c) H1
theorem pw_and1 (ha:PT X a tA):PW X (.BoolOp .And [a] pos) tA:=by
 intro wh pins s σ H Q I h;refine isTrue_and (bt (ha pins s σ H Q I h) λc s1 e=>?_);cases c with
 |true=>exact isTrue_and_nil e
 |false=>exact e
theorem pw_and (ha:PT X a tA)(hb:PW X (.BoolOp .And (b::rest) pos) Rr):PW X (.BoolOp .And (a::b::rest) pos) (OA tA Rr):=by
 intro wh pins s σ H Q I h;refine isTrue_and (bt (ha pins s σ H _ I h) λc s1 ⟨H1,I1,q1⟩=>?_);cases c with
 |true=>exact hb wh pins s1 σ H1 Q I1 q1
 |false=>exact⟨H1,I1,q1⟩
theorem Ha (ha:PT X a tA):PT X (.UnaryOp .Not a pos) (Ot tA):=by
 intro pins s σ H Q I h;exact isTrue_not (ha pins s σ H (λc H1=>Q (!c) H1) I h)
def Oq (ta tb:TE):TE:=λσ H Q=>ta σ H λx H1=>∃c,x=.bl c/\if c=true then Q (.bl true) H1 else tb σ H1 Q
theorem Hk {op}{t:TE}(h:PE X a t):PE X (.BoolOp op [a] pos) t:=λpins s σ H Q I hw=>BoolOp_one (h pins s σ H Q I hw)
theorem K6 (ha:PE X a ta)(hb:PE X (.BoolOp .Or (b::rest) pos) tb):PE X (.BoolOp .Or (a::b::rest) pos) (Oq ta tb):=by
 intro pins s σ H Q I h;refine BoolOp_or (bt (ha pins s σ H _ I h) λv s1 ⟨x,H1,I1,r1,q1⟩=>?_);obtain⟨c,rfl,q1⟩:=q1;cases r1;refine W_ ?_;cases c with
 |false=>exact hb pins s1 σ H1 Q I1 q1
 |true=>exact⟨.bl true,H1,I1,rfl,q1⟩
end
def eE (K:PySem.W.Frag)(H:Hp)(a:Addr)(xs:List V):Prop :=
 Rd H a (.lst xs) \/
  ∃(o:Obj) (its:Array Vv) (n:Nat),K.lookup a=some o/\o.cls=.type "list" /\ o.dict=none/\o.data=.seq its n/\its.size<=VH/\Vals xs its.toList
def lr (K:PySem.W.Frag)(H:Hp)(a:Addr)(xs:List V):Prop :=
 Rd H a (.tup xs) \/
  ∃(o:Obj) (its:Array Vv) (n:Nat),K.lookup a=some o/\o.cls=.type "tuple" /\ o.data=.seq its n/\its.size<=VH/\Vals xs its.toList
noncomputable def QV:Vv->Option V
 |.none=>some .cU
 |.bool b=>some (.bl b)
 |.int i _=>some (.int i)
 |.str x _=>some (.str x)
 |.bytes b _=>some (.M7 b)
 |.float b _=>some (.QC b)
 |.ref a=>some (.ref a)
 |.type n=>some (.ty n)
 |_=>none
theorem RelV.abs {x:V}{u:Vv}(r:RelV x u):QV u=some x:=by
 cases x with
 |cU=>cases r;rfl
 |bl _=>cases r;rfl
 |int _=>obtain⟨t,rfl⟩:=r;rfl
 |str _=>obtain⟨t,rfl⟩:=r;rfl
 |M7 _=>obtain⟨t,rfl⟩:=r;rfl
 |QC _=>obtain⟨t,rfl⟩:=r;rfl
 |ref _=>cases r;rfl
 |ty _=>cases r;rfl
theorem RelV.inj {x y:V}{u:Vv}(r:RelV x u)(q:RelV y u):x=y:=V5 (r.abs.symm.trans q.abs)
theorem Vals.inj:∀{xs ys:List V} {us:List Vv},Vals xs us->Vals ys us->xs=ys
 |_,_,_,.nil,.nil=>rfl
 |_,_,_,.cons r t,.cons r' t'=>by rw[r.inj r',Vals.inj t t']
section
variable {X:Cx}{pins:List (Addr×Obj)}{σ:St}{H:Hp}{s:Vw}{a:Addr}{xs ys:List V}
theorem eE.of {K:PySem.W.Frag}(h:H a=some (.lst xs)):eE K H a xs:=.inl (.inl h)
theorem lr.of {K:PySem.W.Frag}(h:H a=some (.tup xs)):lr K H a xs:=.inl (.inl h)
theorem Inv.list (I:Inv X pins σ H s)(h:eE X.K H a xs):∃its:List Vv,Vals xs its/\PlainL s.heap a its.toArray/\xs.length<=VH:=by
 rcases h with h|⟨o,its,n,hk,hc,hd,hs,hz,r⟩
 ·obtain⟨z,its,n,r,e⟩:=h.ok I.a6;exact⟨its,r,⟨_,n,e,rfl,rfl,rfl⟩,z⟩
 ·refine⟨its.toList,r,⟨o,n,I.ya a o hk,hc,hd,by simpa using hs⟩,?_⟩
  have e:=r.length;simp only[VP]at e;lia
theorem Inv.tuple (I:Inv X pins σ H s)(h:lr X.K H a xs):∃its:List Vv,Vals xs its/\IsTup s.heap a its.toArray/\xs.length<=VH:=by
 rcases h with h|⟨o,its,n,hk,hc,hs,hz,r⟩
 ·obtain⟨z,its,r,p⟩:=h.ok I.a6;exact⟨its,r,p,z⟩
 ·refine⟨its.toList,r,⟨o,I.ya a o hk,hc,n,by simpa using hs⟩,?_⟩
  have e:=r.length;simp only[VP]at e;lia
theorem Inv.A8 (I:Inv X pins σ H s)(h:eE X.K H a xs)(h':eE X.K H a ys):xs=ys:=by
 obtain⟨its,r,⟨o,n,e,_,_,d⟩,_⟩:=I.list h;obtain⟨its',r',⟨o',n',e',_,_,d'⟩,_⟩:=I.list h';rw[e]at e';cases e';rw[d]at d';injection d' with d1 _
 have:its=its':=by simpa using congrArg Array.toList d1
 subst this;exact r.inj r'
theorem Inv.w5 (I:Inv X pins σ H s)(h:lr X.K H a xs)(h':lr X.K H a ys):xs=ys:=by
 obtain⟨its,r,⟨o,e,_,n,d⟩,_⟩:=I.tuple h;obtain⟨its',r',⟨o',e',_,n',d'⟩,_⟩:=I.tuple h';rw[e]at e';cases e';rw[d]at d';injection d' with d1 _
 have:its=its':=by simpa using congrArg Array.toList d1
 subst this;exact r.inj r'
end
noncomputable abbrev Cx.jq (X:Cx)(E:Vv->Vw->Prop):Cx:={X with xe:=E}
abbrev Cx.rR (X:Cx):Cx:=X.jq λ_ _=>False
theorem Cx.Ok.jq {X:Cx}(ok:X.Ok)(E:Vv->Vw->Prop):(X.jq E).Ok :=
 ⟨ok.mod,ok.kind,ok.glob,ok.blt,ok.above,ok.inj,ok.has,ok.Fh,ok.hd,ok.frames,ok.FH,ok.Ga,ok.bs,ok.yB,ok.qh,ok.qt,ok.iF,ok.BJ⟩
theorem Cx.Ok.dZ {X:Cx}{E:Vv->Vw->Prop}(ok:(X.jq E).Ok):X.Ok :=
 ⟨ok.mod,ok.kind,ok.glob,ok.blt,ok.above,ok.inj,ok.has,ok.Fh,ok.hd,ok.frames,ok.FH,ok.Ga,ok.bs,ok.yB,ok.qh,ok.qt,ok.iF,ok.BJ⟩
section
variable {X:Cx}{pins:List (Addr×Obj)}{σ:St}{H:Hp}{s:Vw}{E:Vv->Vw->Prop}
theorem Inv.jq (I:Inv X pins σ H s)(E:Vv->Vw->Prop):Inv (X.jq E) pins σ H s:=⟨I.ok.jq E,I.os,I.bare,I.base,I.loc,I.cell,I.free,I.dQ,I.pin,I.a6,I.len⟩
theorem Inv.dZ (I:Inv (X.jq E) pins σ H s):Inv X pins σ H s:=⟨I.ok.dZ,I.os,I.bare,I.base,I.loc,I.cell,I.free,I.dQ,I.pin,I.a6,I.len⟩
theorem SP.dZ {D:Ends}{f:Flow}{s':Vw}(h:SP (X.jq E) pins D f s'):SP X pins D f s':=by
 cases f with
 |next=>obtain⟨σ',H',I,q⟩:=h;exact⟨σ',H',I.dZ,q⟩
 |brk=>obtain⟨σ',H',I,q⟩:=h;exact⟨σ',H',I.dZ,q⟩
 |cont=>obtain⟨σ',H',I,q⟩:=h;exact⟨σ',H',I.dZ,q⟩
 |ret u=>obtain⟨v,σ',H',I,r,q⟩:=h;exact⟨v,σ',H',I.dZ,r,q⟩
theorem PT.rR {e:Expr}{t:TT}(h:PT X.rR e t):PT X e t:=λpins s σ H Q I hw =>
 XE (h pins s σ H Q (I.jq _) hw) (λ_ _ uJ=>by obtain⟨H',I',q⟩:=uJ;exact⟨H',I'.dZ,q⟩) λ_ _ z=>WJ z
theorem qE.rR {st:List Stmt}{t:TS}(h:qE X.rR st t):qE X st t:=λpins s σ H D I hw =>
 XE (h pins s σ H D (I.jq _) hw) (λ_ _ q=>q.dZ) λ_ _ z=>WJ z
end
section
variable {X:Cx}{st:Stmt}{rest:List Stmt}{t u:TS}{e:Expr}{te:TE}{pos:Pos}
def Kt:TS:=λD σ H=>D.nx σ H
def Om (t u:TS):TS:=λD σ H=>t {D with nx:=u D} σ H
theorem vB:qE X [] Kt:=λ_ _ σ H _ I h=>XW ⟨σ,H,I,h⟩
theorem cL (h1:PS X st t)(h2:qE X rest u):qE X (st::rest) (Om t u):=by
 intro pins s σ H D I h;refine Zx (bt (h1 pins s σ H {D with nx:=u D} I h) λf s1 q=>?_)
 cases f with
 |next =>
  obtain⟨σ',H',I',q⟩:=q;exact h2 pins s1 σ' H' D I' q
 |ret v=>exact q
 |brk=>exact q
 |cont=>exact q
theorem ia (h1:PS X st t):qE X [st] t:=by
 intro pins s σ H D I h;refine Zx (bt (h1 pins s σ H D I h) λf s1 q=>?_);cases f with
 |next=>exact XW q
 |ret v=>exact q
 |brk=>exact q
 |cont=>exact q
theorem Inv.quiet {pins:List (Addr×Obj)}{σ:St}{H:Hp}{s:Vw}(I:Inv X pins σ H s):interactive X.env=false:=by simp[interactive,I.ok.kind]
def Kw (te:TE):TS:=λD σ H=>te σ H λ_ H1=>D.nx σ H1
theorem jx (he:PE X e te)(hs:WU e none pos.line X.env=pure false:=by rfl):PS X (.Expr e pos) (Kw te):=by
 intro pins s σ H D I h;exact wpAny_Expr_any (bt (he pins s σ H _ I h) λv s1 Bv=>by obtain⟨x,H1,I1,r1,q1⟩:=Bv;exact⟨σ,H1,I1,q1⟩) I.quiet hs
def Oo (te:TE):TS:=λD σ H=>te σ H D.rt
theorem i_ (he:PE X e te):PS X (.Return (some e) pos) (Oo te):=by
 intro pins s σ H D I h;exact wpAny_Return_some (bt (he pins s σ H _ I h) λv s1 Bu=>by obtain⟨x,H1,I1,r1,q1⟩:=Bu;exact⟨x,σ,H1,I1,r1,q1⟩)
def Ov (c:TT)(t u:TS):TS:=λD σ H=>c σ H λb H1=>if b=true then t D σ H1 else u D σ H1
theorem FK {c:Expr}{a b:List Stmt}{tc:TT}(hc:PT X c tc)(ha:qE X a t)(hb:qE X b u):PS X (.If c a b pos) (Ov tc t u):=by
 intro pins s σ H D I h;refine wpAny_If (bt (hc pins s σ H _ I h) λd s1 ⟨H1,I1,q1⟩=>?_);cases d with
 |true=>exact ha pins s1 σ H1 D I1 q1
 |false=>exact hb pins s1 σ H1 D I1 q1
def GC:TS:=λ_ _ _=>False
theorem xv {SK:List Stmt}:qE X SK GC:=λ_ _ _ _ _ _ h=>h.elim
end
abbrev TG:=V->St->Hp->(St->Hp->Prop)->Prop
abbrev Gj:=List V->St->Hp->(St->Hp->Prop)->Prop
def PG (X:Cx)(target:Expr)(t:TG):Prop :=
 ∀(pins:List (Addr×Obj)) (s:Vw) (σ:St) (H:Hp) (v:V) (u:Vv) (Q:St->Hp->Prop),Inv X pins σ H s->RelV v u->t v σ H Q ->
  VU (model X.prog X.w) X.A (assign target X.env u) (λ_ s'=>∃σ' H',Inv X pins σ' H' s'/\Q σ' H') X.xe s
def Gm (X:Cx)(ts:List Expr)(t:Gj):Prop :=
 ∀(pins:List (Addr×Obj)) (s:Vw) (σ:St) (H:Hp) (vs:List V) (us:List Vv) (Q:St->Hp->Prop),Inv X pins σ H s->Vals vs us->t vs σ H Q ->
  VU (model X.prog X.w) X.A (assignInOrder ((Xq ts X.env).map (·.2)) us) (λ_ s'=>∃σ' H',Inv X pins σ' H' s'/\Q σ' H') X.xe s
abbrev JJ:=V->V->V->Hp->(Hp->Prop)->Prop
def Nf (X:Cx)(t:JJ):Prop :=
 ∀(pins:List (Addr×Obj)) (s:Vw) (σ:St) (H:Hp) (o i v:V) (ov iv u:Vv) (Q:Hp->Prop),Inv X pins σ H s->RelV o ov->RelV i iv->RelV v u->t o i v H Q ->
  VU (model X.prog X.w) X.A (setItem ov iv u) (λ_ s'=>∃H',Inv X pins σ H' s'/\Q H') X.xe s
section
variable {X:Cx}{pos:Pos}
def F9 (i:Nat):TG:=λv σ H Q=>Q (σ.set i (some v)) H
theorem Dz {i:Nat}{x:Str}(hN:X.N.Nodup)(hi:X.N[i]?=some x)(hx:Loc X.env.scope x)(hf:X.fn x=true\/X.env.scope.names.lookup x=some .local:=by first|exact .inl rfl|exact .inr rfl|assumption):PG X (.Name x pos) (F9 i):=by
 intro pins s σ H v u Q I r h;exact wpAny_assign_Name (me I hN hi hx r (λs' I'=>⟨_,H,I',h⟩) hf)
def Jd:Gj:=λvs σ H Q=>vs=[]/\Q σ H
def BG (t:TG)(u:Gj):Gj:=λvs σ H Q=>∃v r,vs=v::r/\t v σ H λσ' H'=>u r σ' H' Q
theorem Dy:Gm X [] Jd:=by
 intro pins s σ H vs us Q I r h;obtain⟨e,h⟩:=h;subst e;cases r;exact assignInOrder_nil ⟨σ,H,I,h⟩
theorem z7 {e:Expr}{es:List Expr}{t:TG}{u:Gj}(h1:PG X e t)(h2:Gm X es u)
  (hs:(Xq (e::es) X.env).map (·.2)=assign e X.env::(Xq es X.env).map (·.2):=by rfl):Gm X (e::es) (BG t u):=by
 intro pins s σ H vs us Q I r h;obtain⟨v,vr,e1,h⟩:=h;subst e1;cases r with
 |cons r rr =>
  rw[hs];refine assignInOrder_cons (bt (h1 pins s σ H _ _ _ I r h) λ_ s1 ⟨σ1,H1,I1,q1⟩=>?_);exact h2 pins s1 σ1 H1 _ _ Q I1 rr q1
def Qy (K:PySem.W.Frag)(n:Nat)(t:Gj):TG:=λv σ H Q=>∃a xs,v=.ref a/\lr K H a xs/\xs.length=n/\t xs σ H Q
theorem Hi {es:List Expr}{k:Nat}{t:Gj}{n:Nat}(hc:X.calm=true)(h:Gm X es t)
  (hn:(Xq es X.env).length=n:=by rfl) (nW:(Xq es X.env).findIdx? (·.1)=none:=by rfl):PG X (.Tuple es k pos) (Qy X.K n t):=by
 intro pins s σ H v u Q I r hw;obtain⟨a,xs,e1,hq,hl,hw⟩:=hw;subst e1;cases r;obtain⟨its,rv,ht,hz⟩:=I.tuple hq;refine assign_Tuple_tuple (I.ok.hd hc) ht (by simp[hn,<- hl,rv.length]) nW λh' hx=>?_
 have I1:Inv X pins σ H {s with heap:=h'}:=I.kept (t':=s.toks) λb o e=>hx b o (V_ (VR e)) e
 exact h pins _ σ H xs _ Q I1 (by simpa using rv) hw
def Qz (to ti:TE)(t:JJ):TG:=λv σ H Q=>to σ H λo H1=>ti σ H1 λi H2=>t o i v H2 λH3=>Q σ H3
theorem z8 {o i:Expr}{to ti:TE}{t:JJ}(ho:PE X o to)(hi:PE X i ti)(hs:Nf X t)
  (ha:∀v,assign (.Subscript o i pos) X.env v=(do
   let ov <- holding [v] (eval o X.env)
   let iv <- holding [v,ov] (eval i X.env)
   Yt pos
   holding [v,ov,iv] (setItem ov iv v)
   release [v,ov,iv] []):=by intro _;rfl):PG X (.Subscript o i pos) (Qz to ti t):=by
 intro pins s σ H v u Q I r h;rw[ha];refine Vu (Wo (bt (ho pins s σ H _ I h) λov s1 ⟨x,H1,I1,r1,q1⟩=>?_));refine Vu (Wo (bt (hi pins s1 σ H1 _ I1 q1) λiv s2 ⟨y,H2,I2,r2,q2⟩=>?_));refine Vu (W5 (Vu (Wo (bt (hs pins s2 σ H2 x y v ov iv u _ I2 r1 r2 r q2) λ_ s3 ⟨H3,I3,q3⟩=>?_))));exact wpAny_release ⟨σ,H3,I3,q3⟩
def Kx (te:TE)(g:TG):TS:=λD σ H=>te σ H λx H1=>g x σ H1 D.nx
theorem ui {tg e:Expr}{te:TE}{g:TG}(he:PE X e te)(hg:PG X tg g)(hs:swapsWithSole [tg] e pos.line X.env=pure false:=by rfl)(hw:swappedStores [tg] e X.env=pure none:=by rfl)
  (h1:(Xq [tg] X.env).map (·.2)=[assign tg X.env]:=by rfl):PS X (.Assign [tg] e pos) (Kx te g):=by
 intro pins s σ H D I h;refine wpAny_Assign_stores (bt (he pins s σ H _ I h) λv s1 ⟨x,H1,I1,r1,q1⟩=>?_) hs hw;rw[h1];exact bt (hg pins s1 σ H1 x v _ I1 r1 q1) λ_ s2 q=>q
theorem i9 {i:Nat}{x:Str}{e:Expr}{te:TE}{pos':Pos}(hN:X.N.Nodup)(hi:X.N[i]?=some x)(hx:Loc X.env.scope x)(he:PE X e te)(hs:WU e (some (.Name x pos')) pos.line X.env=pure false:=by rfl)(hf:X.fn x=true\/X.env.scope.names.lookup x=some .local:=by first|exact .inl rfl|exact .inr rfl|assumption):
  PS X (.Assign [.Name x pos'] e pos) (Kx te (F9 i)):=by
 intro pins s σ H D I h;refine wpAny_Assign_Name (bt (he pins s σ H _ I h) λv s1 ⟨y,H1,I1,r1,q1⟩=>?_) hs;exact me I1 hN hi hx r1 (λs2 I2=>⟨_,H1,I2,q1⟩) hf
end
section
variable {X:Cx}{pos:Pos}
def Gz (c:TT)(tb:TS):TS:=λD σ H=>∃W:Nat->St->Hp->Prop,(∃m,W m σ H)/\∀m σ H,W m σ H ->
 c σ H λb H1=>if b=true then ∃N:St->Hp->Prop,(∀σ' H',N σ' H'->∃m',m'<m/\W m' σ' H')/\tb {D with nx:=N,ct:=N,bk:=D.nx} σ H1 else D.nx σ H1
theorem zP {c:Expr}{body:List Stmt}{tc:TT}{tb:TS}(hp:ZD (model X.prog X.w) X.A X.env X.xe)(hc:PT X c tc)(hb:qE X body tb):PS X (.While c body [] pos) (Gz tc tb):=by
 intro pins s σ H D I h;obtain⟨W,⟨m0,w0⟩,turn⟩:=h;refine wpAny_While (codeAny_whileLoop (λn s'=>∃σ' H',Inv X pins σ' H' s'/\W n σ' H') ?_ m0 ⟨σ,H,I,w0⟩);rintro n s1 ⟨σ1,H1,I1,w1⟩;refine Xu hp (bt (hc pins s1 σ1 H1 _ I1 (turn n σ1 H1 w1)) λb s2 ⟨H2,I2,q2⟩=>?_);cases b with
 |true =>
  obtain⟨N,hN,q2⟩:=q2;rw[if_pos rfl];refine Xu hp (bt (hb pins s2 σ1 H2 _ I2 q2) λf s3 q3=>?_);cases f with
  |next =>
   obtain⟨σ3,H3,I3,n3⟩:=q3;obtain⟨m',hm,w3⟩:=hN σ3 H3 n3;exact⟨m',hm,σ3,H3,I3,w3⟩
  |cont =>
   obtain⟨σ3,H3,I3,n3⟩:=q3;obtain⟨m',hm,w3⟩:=hN σ3 H3 n3;exact⟨m',hm,σ3,H3,I3,w3⟩
  |brk=>exact q3
  |ret v=>exact q3
 |false =>
  rw[if_neg Yq];exact XW ⟨σ1,H2,I2,q2⟩
end
structure It where
 go:Nat->Hp->Prop
 Kh:Nat->Hp->V->Hp->Prop
 stop:Nat->Hp->Prop
def jk (X:Cx)(pins:List (Addr×Obj))(H:Hp)(b:Addr):Prop :=
 H b=none/\b≠X.env.locals/\b∉X.fs/\(b∈X.ex\/X.s₀.heap.objs.size<=b)/\(∀x c,X.env.cells.lookup x=some c->c≠b)/\∀p∈X.pn++pins,p.1≠b
theorem Inv.yf {X:Cx}{pins:List (Addr×Obj)}{σ:St}{H H':Hp}{s:Vw}{b:Addr}(I:Inv X pins σ H s)(hb:s.heap.objs.size<=b)(hn:H' b=none):jk X pins H' b:=by
 refine⟨hn,Zr (V1 I.lt hb),I.O6 hb,.inr (Wc I.sz hb),λx c e z=>?_,λp hp z=>?_⟩
 ·obtain⟨v,q⟩:=I.cell x c e;exact absurd (V1 q.lt (by rw[z];exact hb)) (Xe _)
 ·exact absurd (V1 (VR (I.pin p hp).1) (by rw[z];exact hb)) (Xe _)
structure Turn (P:Vz)(w:VG)(K:PySem.W.Frag)(tg:Expr)(J:It)(fp:List Addr)(it:Addr)(tn:Nat->Heap->Prop):Prop where
 mem:it∈fp
 obj:∀i h,tn i h->∀b∈fp,∃o,h.get? b=some o/\∀v,o.data≠.cell v
 keep:∀i h h',tn i h->(∀b∈fp,∀o,h.get? b=some o->h'.get? b=some o)->tn i h'
 item:∀(X:Cx),X.prog=P->X.w=w->X.K=K->X.calm=true->∀(i:Nat) (pins:List (Addr×Obj)) (s:Vw) (σ:St) (H:Hp) (E:Vv->Vw->Prop),Inv X pins σ H s->(∀b∈fp,jk X pins H b)->tn i s.heap->J.go i H ->
  VU (model P w) X.A (Zc (.ref it)) (λr s1=>∃u,r=some u /\
   VU (model P w) X.A (YN tg (.ref it) u) (λ_ s2=>∃x H',Inv X pins σ H' s2/\RelV x u/\J.Kh i H x H'/\tn (i+1) s2.heap/\∀b∈fp,H' b=none) E s1) E s
 done:∀(X:Cx),X.prog=P->X.w=w->X.K=K->X.calm=true->∀(i:Nat) (pins:List (Addr×Obj)) (s:Vw) (σ:St) (H:Hp) (E:Vv->Vw->Prop),Inv X pins σ H s->(∀b∈fp,jk X pins H b)->tn i s.heap->J.stop i H ->
  VU (model P w) X.A (Zc (.ref it)) (λr s1=>r=none/\Inv X pins σ H s1) E s
 self:∀(A:Wv) (i:Nat) (s:Vw) (Q:Vv->Vw->Prop) (E:Vv->Vw->Prop),tn i s.heap->Q (.ref it) s->VU (model P w) A (Zd (.ref it)) Q E s
abbrev TI:=St->Hp->(It->Hp->Prop)->Prop
def N5 (X:Cx)(pins:List (Addr×Obj))(σ:St)(tg:Expr)(R:It->Hp->Prop)(F1:Vv)(s2:Vw):Prop :=
 ∃(it:Addr) (fp:List Addr) (tn:Nat->Heap->Prop) (J:It) (H':Hp),F1=.ref it/\Inv X pins σ H' s2/\Turn X.prog X.w X.K tg J fp it tn/\tn 0 s2.heap/\(∀b∈fp,jk X pins H' b)/\R J H'
def PI (X:Cx)(tg iter:Expr)(wi:TI):Prop :=
 ∀(pins:List (Addr×Obj)) (s:Vw) (σ:St) (H:Hp) (R:It->Hp->Prop),Inv X pins σ H s->wi σ H R ->
  VU (model X.prog X.w) X.A (eval iter X.env) (λv s1=>VU (model X.prog X.w) X.A (Zd v) (N5 X pins σ tg R) X.xe s1) X.xe s
theorem sF {M:Z7}{A:Wv}{E:Vv->Vw->Prop}{s:Vw}{tg:Expr}{it:Addr}{u:Vv}{o:Obj}{n:String}{vs:Array Vv}{Q:Unit->Vw->Prop}(ho:s.heap.get? it=some o)(hc:o.cls=.type n)(hd:o.data=.fields vs)
  (hn:["enumerate","zip","dict_itemiterator","dict_reverseitemiterator","odict_iterator","itertools.zip_longest","itertools.pairwise"].contains n=false) (hQ:Q () s):VU M A (YN tg (.ref it) u) Q E s:=by
 unfold YN;cases tg <;> first
  |exact Vy hQ
  | (cases u <;> first
    |exact Vy hQ
    | (refine Vu (wpAny_load ho ?_)
       rw[hc,hd];show VU M A (if (["enumerate","zip","dict_itemiterator","dict_reverseitemiterator","odict_iterator","itertools.zip_longest","itertools.pairwise"].contains n&&vs[0]?==some (rawInt _))=true then _ else _) Q E s
       rw[if_neg (by intro h;rw[hn,Bool.false_and]at h;cases h)]
       exact Vy hQ))
def N9 (K:PySem.W.Frag)(a:Addr):It :=
 ⟨λi H=>∃xs x,eE K H a xs/\xs[i]?=some x,λi H x H'=>H'=H/\∀xs,eE K H a xs->xs[i]?=some x,λi H=>∃xs,eE K H a xs/\xs.length<=i⟩
def Q6 (K:PySem.W.Frag)(a:Addr):It :=
 ⟨λi H=>∃xs x,lr K H a xs/\xs[i]?=some x,λi H x H'=>H'=H/\∀xs,lr K H a xs->xs[i]?=some x,λi H=>∃xs,lr K H a xs/\xs.length<=i⟩
def Nk (lo:Int)(n:Nat):It:=⟨λi _=>i<n,λi H x H'=>H'=H/\x=.int (lo+i),λi _=>n<=i⟩
theorem wZ {P:Vz}{w:VG}{K:PySem.W.Frag}{tg:Expr}(a it:Addr):Turn P w K tg (N9 K a) [it] it (λi h=>h.IsListIter it a i) where
 mem:=by simp
 obj:=λi h st b hb=>by
  have e:b=it:=by simpa using hb
  subst e;obtain⟨o,e,c,d⟩:=st;exact⟨o,e,λv z=>by rw[d]at z;cases z⟩
 keep:=λi h h' st k=>st.at λo e=>k it (by simp) o e
 item:=by
  intro X hP hw hK hc i pins s σ H E I hf st hg;subst hP hw hK;obtain⟨xs,x,hq,hx⟩:=hg;obtain⟨its,rv,p,hz⟩:=I.list hq;obtain⟨u,hu,ru⟩:=rv.get hx;obtain⟨f0,f1,f2,f3,f4,f5⟩:=hf it (by simp)
  refine wpAny_pyNext_list_item st p.isList (x:=u) (by simpa using hu) λh' qK sb=>?_
  have I1:Inv X pins σ H {s with heap:=h'}:=I.turned (t':=s.toks) (λb o hb e=>(sb.2 b hb).trans e) f0 f1 f3 f4 f5
  obtain⟨o,e,c,d⟩:=id qK;exact⟨u,rfl,sF (s:={s with heap:=h'}) e c d (by decide) ⟨x,H,I1,ru,⟨rfl,λys hy=>by rw[I.A8 hy hq];exact hx⟩,qK,λb hb=>(hf b hb).1⟩⟩
 done:=by
  intro X hP hw hK hc i pins s σ H E I hf st hg;subst hP hw hK;obtain⟨xs,hq,hx⟩:=hg;obtain⟨its,rv,p,hz⟩:=I.list hq;obtain⟨f0,f1,f2,f3,f4,f5⟩:=hf it (by simp)
  have hl:=rv.length;exact wpAny_pyNext_list_end (I.ok.hd hc) st p.isList (by simp;lia) λh' eb=>⟨rfl,I.turned (t':=s.toks) (λb o hb e=>eb b o hb e) f0 f1 f3 f4 f5⟩
 self:=λ_ _ _ _ _ st h=>wpAny_pyIter_listiter st h
theorem t5 {P:Vz}{w:VG}{K:PySem.W.Frag}{tg:Expr}(a it:Addr):Turn P w K tg (Q6 K a) [it] it (λi h=>h.IsTupleIter it a i) where
 mem:=by simp
 obj:=λi h st b hb=>by
  have e:b=it:=by simpa using hb
  subst e;obtain⟨o,e,c,d⟩:=st;exact⟨o,e,λv z=>by rw[d]at z;cases z⟩
 keep:=λi h h' st k=>st.at λo e=>k it (by simp) o e
 item:=by
  intro X hP hw hK hc i pins s σ H E I hf st hg;subst hP hw hK;obtain⟨xs,x,hq,hx⟩:=hg;obtain⟨its,rv,p,hz⟩:=I.tuple hq;obtain⟨u,hu,ru⟩:=rv.get hx;obtain⟨f0,f1,f2,f3,f4,f5⟩:=hf it (by simp)
  refine wpAny_pyNext_tuple_item st (show s.heap.IsTuple a its.toArray from p) (x:=u) (by simpa using hu) λh' qK sb=>?_
  have I1:Inv X pins σ H {s with heap:=h'}:=I.turned (t':=s.toks) (λb o hb e=>(sb.2 b hb).trans e) f0 f1 f3 f4 f5
  obtain⟨o,e,c,d⟩:=id qK;exact⟨u,rfl,sF (s:={s with heap:=h'}) e c d (by decide) ⟨x,H,I1,ru,⟨rfl,λys hy=>by rw[I.w5 hy hq];exact hx⟩,qK,λb hb=>(hf b hb).1⟩⟩
 done:=by
  intro X hP hw hK hc i pins s σ H E I hf st hg;subst hP hw hK;obtain⟨xs,hq,hx⟩:=hg;obtain⟨its,rv,p,hz⟩:=I.tuple hq;obtain⟨f0,f1,f2,f3,f4,f5⟩:=hf it (by simp)
  have hl:=rv.length;exact wpAny_pyNext_tuple_end (I.ok.hd hc) st (show s.heap.IsTuple a its.toArray from p) (by simp;lia) λh' eb=>⟨rfl,I.turned (t':=s.toks) (λb o hb e=>eb b o hb e) f0 f1 f3 f4 f5⟩
 self:=λ_ _ _ _ _ st h=>wpAny_pyIter_tupleiter st h
theorem t6 {P:Vz}{w:VG}{K:PySem.W.Frag}{tg:Expr}(it:Addr)(lo:Int)(n:Nat):Turn P w K tg (Nk lo n) [it] it (λi h=>ZM h it (lo+(i:Nat)*1) ((n:Int)-(i:Nat)) 1) where
 mem:=by simp
 obj:=λi h st b hb=>by
  have e:b=it:=by simpa using hb
  subst e;exact⟨_,st,λv z=>by
   have z':Data.fields _=Data.cell v:=z;cases z'⟩
 keep:=λi h h' st k=>k it (by simp) _ st
 item:=by
  intro X hP hw hK hc i pins s σ H E I hf st hg;subst hP hw hK;obtain⟨f0,f1,f2,f3,f4,f5⟩:=hf it (by simp)
  have W:=Walks.range (prog:=X.prog) (w:=X.w) (I.ok.hd hc) it lo 1 n;refine W.item i s _ _ hg st λv h' tk hv qK kk=>?_;obtain⟨t,rfl⟩:=hv;have I1:Inv X pins σ H {s with heap:=h',toks:=tk}:=I.turned (λb o hb e=>kk b o (by simpa using hb) e) f0 f1 f3 f4 f5
  refine⟨_,rfl,sF (s:={s with heap:=h',toks:=tk}) (n:="range_iterator") qK rfl rfl (by decide) ⟨.int (lo+i),H,I1,⟨t,?_⟩,⟨rfl,rfl⟩,qK,λb hb=>(hf b hb).1⟩⟩
  rw[Int.mul_one]
 done:=by
  intro X hP hw hK hc i pins s σ H E I hf st hg;subst hP hw hK;obtain⟨f0,f1,f2,f3,f4,f5⟩:=hf it (by simp)
  exact wpAny_pyNext_range_end (I.ok.hd hc) st (by have:n<=i:=hg;lia) λh' eb=>⟨rfl,I.turned (t':=s.toks) (λb o hb e=>eb b o hb e) f0 f1 f3 f4 f5⟩
 self:=λ_ _ _ _ _ st h=>wpAny_pyIter_rangeiter st h
section
variable {X:Cx}{tg:Expr}
def LL (K:PySem.W.Frag)(tl:TE):TI:=λσ H R=>tl σ H λx H1=>∃a,x=.ref a/\(∃xs,eE K H1 a xs)/\R (N9 K a) H1
def Pl (K:PySem.W.Frag)(tl:TE):TI:=λσ H R=>tl σ H λx H1=>∃a,x=.ref a/\(∃xs,lr K H1 a xs)/\R (Q6 K a) H1
theorem vJ {l:Expr}{tl:TE}(hl:PE X l tl):PI X tg l (LL X.K tl):=by
 intro pins s σ H R I h;refine bt (hl pins s σ H _ I h) λv s1 ⟨x,H1,I1,r1,q1⟩=>?_;obtain⟨a,e,⟨xs,hq⟩,q⟩:=q1;subst e;cases r1;obtain⟨its,rv,p,hz⟩:=I1.list hq;refine wpAny_pyIter_list p.isList ?_;refine⟨s1.heap.objs.size,[s1.heap.objs.size],_,_,H1,rfl,I1.kept (t':=s1.toks) λb o e=>Vx _ e,wZ a _,⟨_,VT _ rfl,rfl,rfl⟩,λb hb=>?_,q⟩;have e:b=s1.heap.objs.size:=by simpa using hb
 subst e;exact I1.yf (VA _) (I1.a6.fresh (VA _))
theorem Hh {l:Expr}{tl:TE}(hl:PE X l tl):PI X tg l (Pl X.K tl):=by
 intro pins s σ H R I h;refine bt (hl pins s σ H _ I h) λv s1 ⟨x,H1,I1,r1,q1⟩=>?_;obtain⟨a,e,⟨xs,hq⟩,q⟩:=q1;subst e;cases r1;obtain⟨its,rv,p,hz⟩:=I1.tuple hq;refine wpAny_pyIter_tuple (show s1.heap.IsTuple a its.toArray from p) ?_
 refine⟨s1.heap.objs.size,[s1.heap.objs.size],_,_,H1,rfl,I1.kept (t':=s1.toks) λb o e=>Vx _ e,t5 a _,⟨_,VT _ rfl,rfl,rfl⟩,λb hb=>?_,q⟩;have e:b=s1.heap.objs.size:=by simpa using hb
 subst e;exact I1.yf (VA _) (I1.a6.fresh (VA _))
theorem rB {pins:List (Addr×Obj)}{σ:St}{H:Hp}{s:Vw}{R:It->Hp->Prop}{E:Vv->Vw->Prop}{lo hi:Int}{t u v:Tok}{tk:Nat}(I:Inv X pins σ H s)(h1:-(2 ^ 62)<=lo)(h2:lo<2 ^ 62)(h3:-(2 ^ 62)<=hi)(h4:hi<2 ^ 62)
  (q:R (Nk lo (hi-lo).toNat) H):VU (model X.prog X.w) X.A (Zd (.ref s.heap.objs.size)) (N5 X pins σ tg R) E {s with heap:=s.heap.push {cls:=.type "range",data:=.fields #[.int lo t,.int hi u,.int 1 v]},toks:=tk}:=by
 refine wpAny_pyIter_range (IsRange.new ..) (small_one h1 h2 h3 h4) ?_;have I1:Inv X pins σ H {s with heap:=s.heap.push {cls:=.type "range",data:=.fields #[.int lo t,.int hi u,.int 1 v]},toks:=tk}:=I.kept λb o e=>Vx _ e
 refine⟨(s.heap.push {cls:=.type "range",data:=.fields #[.int lo t,.int hi u,.int 1 v]}).objs.size,[(s.heap.push {cls:=.type "range",data:=.fields #[.int lo t,.int hi u,.int 1 v]}).objs.size],_,_,H,rfl,
  I1.kept (t':=tk) λb o e=>Vx _ e,t6 _ lo (hi-lo).toNat,?_,λb hb=>?_,q⟩
 ·have e1:lo+((0:Nat):Int)*1=lo:=by simp
  have e2:(((hi-lo).toNat:Nat):Int)-((0:Nat):Int)=Xo lo hi 1:=by rw[rangeSize_one];split <;> lia
  show ZM _ _ (lo+((0:Nat):Int)*1) ((((hi-lo).toNat:Nat):Int)-((0:Nat):Int)) 1;rw[e1,e2];exact VT _ rfl
 ·have e:b=(s.heap.push {cls:=.type "range",data:=.fields #[.int lo t,.int hi u,.int 1 v]}).objs.size:=by simpa using hb
  subst e;exact I1.yf (VA _) (I1.a6.fresh (VA _))
def LK (ta:TA):TI:=λσ H R=>ta σ H λvs H1=>∃j:Int,vs=[.int j]/\-(2 ^ 62)<=j/\j<2 ^ 62/\R (Nk 0 j.toNat) H1
def LJ (ta:TA):TI:=λσ H R=>ta σ H λvs H1=>∃i j:Int,vs=[.int i,.int j]/\(-(2 ^ 62)<=i/\i<2 ^ 62/\-(2 ^ 62)<=j/\j<2 ^ 62)/\R (Nk i (j-i).toNat) H1
theorem xE {a:Expr} {ta:TA} {p pos:Pos} (hg:Gl X "range") (hm:X.mg "range" = none) (ha:PA X [a] ta) (hs:VE [a] X.env=[(false,eval a X.env)]:=by rfl):PI X tg (.Call (.Name "range" p) [a] [] pos) (LK ta):=by
 intro pins s σ H R I h;refine Call_ (g7 I hg hm Z1 (WQ (bt (ha pos pins s σ H _ I h) λus s1 ⟨vs,H1,I1,r1,q1⟩=>?_) hs rfl));obtain⟨j,e,q1,q2,q⟩:=q1;subst e;cases r1 with
 |cons r rr =>
  cases rr;obtain⟨t,rfl⟩:=r;exact call_range_1 (rB I1 (by lia) (by lia) q1 q2 (by simpa using q))
theorem xD {a b:Expr} {ta:TA} {p pos:Pos} (hg:Gl X "range") (hm:X.mg "range" = none) (ha:PA X [a,b] ta) (hs:VE [a,b] X.env=[(false,eval a X.env),(false,eval b X.env)]:=by rfl) (nP:VE [b] X.env=[(false,eval b X.env)]:=by rfl) :
  PI X tg (.Call (.Name "range" p) [a,b] [] pos) (LJ ta):=by
 intro pins s σ H R I h;refine Call_ (g7 I hg hm Z1 (WQ (bt (ha pos pins s σ H _ I h) λus s1 ⟨vs,H1,I1,r1,q1⟩=>?_) (by rw[hs,nP]) (by rw[nP];rfl)))
 obtain⟨i,j,e,⟨q1,q2,q3,q4⟩,q⟩:=q1;subst e;cases r1 with
 |cons r rr =>
  cases rr with
  |cons r' rr =>
   cases rr;obtain⟨t,rfl⟩:=r;obtain⟨t',rfl⟩:=r';exact call_range_2 (rB I1 q1 q2 q3 q4 q)
def Ox (wi:TI)(g:TG)(tb:TS):TS:=λD σ H=>wi σ H λJ H1=>∃W:Nat->Nat->St->Hp->Prop,(∃m,W 0 m σ H1)/\∀i m σ H,W i m σ H ->
 (J.stop i H/\D.nx σ H)\/(J.go i H/\∃N:St->Hp->Prop,(∀σ' H',N σ' H'->∃m',m'<m/\W (i+1) m' σ' H')/\∀x H',J.Kh i H x H'->g x σ H' λσ2 H2=>tb {D with nx:=N,ct:=N,bk:=D.nx} σ2 H2)
def mE (fp:List Addr)(h:Heap):List (Addr×Obj):=fp.filterMap λb=>(h.get? b).map λo=>(b,o)
theorem gg {fp:List Addr}{h:Heap}{b:Addr}{o:Obj}(hb:b∈fp)(e:h.get? b=some o):(b,o)∈mE fp h:=XX.mpr ⟨b,hb,by rw[e];rfl⟩
theorem xK {fp:List Addr}{h:Heap}{p:Addr×Obj}(hp:p∈mE fp h):p.1∈fp/\h.get? p.1=some p.2:=by
 obtain⟨b,hb,e⟩:=XX.mp hp;cases q:h.get? b with
 |none=>rw[q]at e;cases e
 |some o =>
  rw[q]at e;have e':(b,o)=p:=V5 e;subst e';exact⟨hb,q⟩
theorem Inv.pinned {pins:List (Addr×Obj)}{σ:St}{H:Hp}{s:Vw}{fp:List Addr}(I:Inv X pins σ H s)(hf:∀b∈fp,jk X pins H b)(ho:∀b∈fp,∃o,s.heap.get? b=some o/\∀v,o.data≠.cell v):Inv X (pins++mE fp s.heap) σ H s :=
 I.vH λp hp=>(VL.mp hp).elim (λz=>I.pin p (VY _ z)) λz=>by
  obtain⟨hb,e⟩:=xK z;obtain⟨f0,f1,f2,_⟩:=hf p.1 hb;obtain⟨o,e',d⟩:=ho p.1 hb;rw[e]at e';cases e';exact⟨e,f0,f1,f2,d⟩
theorem Inv.jr {pins pl:List (Addr×Obj)}{σ:St}{H:Hp}{s:Vw}(I:Inv X (pins++pl) σ H s):Inv X pins σ H s:=I.vH λp hp=>I.pin p (VY _ (V3 _ hp))
theorem zQ {iter:Expr}{body:List Stmt}{wi:TI}{g:TG}{tb:TS}{pos:Pos}(hp:ZD (model X.prog X.w) X.A X.env X.xe)(hc:X.calm=true)(hi:PI X tg iter wi)(hg:PG X tg g)(hb:qE X body tb)
  (hs:∀x,V4 iter X.env x=pure x:=by intro _;rfl):PS X (.For tg iter body [] pos) (Ox wi g tb):=by
 intro pins s σ H D I h;refine wpAny_For (bt (hi pins s σ H _ I h) λv s1 h1=>bt h1 λF1 s2 h2=>?_) hs;obtain⟨it,fp,tn,J,H2,e,I2,T,GJ,f2,W,⟨m0,w0⟩,turn⟩:=h2;subst e;have t9:∀{H':Hp},(∀b∈fp,H' b=none)->∀b∈fp,jk X pins H' b:=λhn b hb=>⟨hn b hb,(f2 b hb).2⟩;refine codeAny_forLoop_any (λn s'=>∃i σ' H',Inv X pins σ' H' s'/\tn i s'.heap/\(∀b∈fp,H' b=none)/\W i n σ' H') ?_ m0 ⟨0,σ,H2,I2,GJ,λb hb=>(f2 b hb).1,w0⟩;rintro n s3 ⟨i,σ3,H3,I3,Ky,MX,w3⟩;rcases turn i n σ3 H3 w3 with⟨stop,qn⟩|⟨go,N,hN,step⟩
 ·refine Xu hp (bt (T.done X rfl rfl rfl hc i pins s3 σ3 H3 X.xe I3 (t9 MX) Ky stop) λr s4 ⟨hr,I4⟩=>?_);subst hr;exact XW ⟨σ3,H3,I4,qn⟩
 ·refine Xu hp (bt (T.item X rfl rfl rfl hc i pins s3 σ3 H3 X.xe I3 (t9 MX) Ky go) λr s4 ⟨u,hr,h4⟩=>?_);subst hr;refine Xu hp (bt h4 λ_ s5 ⟨x,H5,I5,r5,y5,GH,QA⟩=>?_);have Q8:=I5.pinned (t9 QA) (T.obj _ _ GH);refine Xu hp (bt (hg _ s5 σ3 H5 x u _ Q8 r5 (step x H5 y5)) λ_ s6 ⟨σ6,H6,I6,q6⟩=>?_);refine Xu hp (bt (hb _ s6 σ6 H6 _ I6 q6) λf s7 q7=>?_);have again:∀{σ7:St} {H7:Hp},Inv X (pins++mE fp s5.heap) σ7 H7 s7->N σ7 H7->∃m,m<n/\∃i σ' H',Inv X pins σ' H' s7/\tn i s7.heap/\(∀b∈fp,H' b=none)/\W i m σ' H':=λ{σ7 H7} I7 n7=>by
   obtain⟨m',hm,w7⟩:=hN σ7 H7 n7;refine⟨m',hm,i+1,σ7,H7,I7.jr,T.keep _ _ _ GH λb hb o e=>(I7.pin (b,o) (VY _ (VY _ (gg hb e)))).1,λb hb=>?_,w7⟩;obtain⟨o,e,d⟩:=T.obj _ _ GH b hb;exact(I7.pin (b,o) (VY _ (VY _ (gg hb e)))).2.1
  cases f with
  |next=>obtain⟨σ7,H7,I7,n7⟩:=q7;exact again I7 n7
  |cont=>obtain⟨σ7,H7,I7,n7⟩:=q7;exact again I7 n7
  |brk=>obtain⟨σ7,H7,I7,q7⟩:=q7;exact⟨σ7,H7,I7.jr,q7⟩
  |ret v=>obtain⟨x7,σ7,H7,I7,r7,q7⟩:=q7;exact⟨x7,σ7,H7,I7.jr,r7,q7⟩
end
abbrev R2:=V->V->Hp->VK->Prop
def j8 (X:Cx)(f:Vv->Vv->Sem Vv)(r:R2):Prop :=
 ∀(pins:List (Addr×Obj)) (s:Vw) (σ:St) (H:Hp) (x y:V) (v u:Vv) (Q:VK),Inv X pins σ H s->RelV x v->RelV y u->r x y H Q ->
  VU (model X.prog X.w) X.A (f v u) (EP X pins σ Q) X.xe s
def Nb (X:Cx)(f:Vv->Sem Vv)(r:V->Hp->VK->Prop):Prop :=
 ∀(pins:List (Addr×Obj)) (s:Vw) (σ:St) (H:Hp) (x:V) (v:Vv) (Q:VK),Inv X pins σ H s->RelV x v->r x H Q ->
  VU (model X.prog X.w) X.A (f v) (EP X pins σ Q) X.xe s
def eY (X:Cx)(f:Vv)(r:List V->Hp->VK->Prop):Prop :=
 ∀(pins:List (Addr×Obj)) (s:Vw) (σ:St) (H:Hp) (xs:List V) (us:List Vv) (Q:VK),Inv X pins σ H s->Vals xs us->r xs H Q ->
  VU (model X.prog X.w) X.A (call f us) (EP X pins σ Q) X.xe s
def QX (X:Cx)(r:V->Hp->(Bool->Hp->Prop)->Prop):Prop :=
 ∀(pins:List (Addr×Obj)) (s:Vw) (σ:St) (H:Hp) (x:V) (v:Vv) (Q:Bool->Hp->Prop),Inv X pins σ H s->RelV x v->r x H Q ->
  VU (model X.prog X.w) X.A (truthy v) (TP X pins σ Q) X.xe s
def Kr (r:R2)(ta tb:TE):TE:=λσ H Q=>ta σ H λx H1=>tb σ H1 λy H2=>r x y H2 Q
def SA (r:V->Hp->VK->Prop)(ta:TE):TE:=λσ H Q=>ta σ H λx H1=>r x H1 Q
def rI (C:Int->Int->Prop)(g:Int->Int->V):R2:=λx y H Q=>∃i j,x=.int i/\y=.int j/\C i j/\Q (g i j) H
def Dj (g:Int->Int->V):R2:=λx y H Q=>∃i j,x=.int i/\y=.int j/\Q (g i j) H
def rU (g:Int->V):V->Hp->VK->Prop:=λx H Q=>∃i,x=.int i/\Q (g i) H
section
variable {X:Cx}{a b:Expr}{ta tb:TE}{pos:Pos}
theorem JH (ha:PE X a ta)(hb:PE X b tb){pins:List (Addr×Obj)}{s:Vw}{σ:St}{H:Hp}{R:V->V->Hp->Prop}(I:Inv X pins σ H s)
  (h:ta σ H λx H1=>tb σ H1 λy H2=>R x y H2) {Q:Vv->Vw->Prop} {f:Vv->Vv->Sem Vv}
  (hf:∀v u s2 x y H2,Inv X pins σ H2 s2->RelV x v->RelV y u->R x y H2->VU (model X.prog X.w) X.A (f v u) Q X.xe s2) :
  VU (model X.prog X.w) X.A (eval a X.env) (λv s₁=>VU (model X.prog X.w) X.A (eval b X.env) (λu s₂=>VU (model X.prog X.w) X.A (f v u) Q X.xe s₂) X.xe s₁) X.xe s:=by
 refine bt (ha pins s σ H _ I h) λv s1 ⟨x,H1,I1,r1,q1⟩=>?_;refine bt (hb pins s1 σ H1 _ I1 q1) λu s2 ⟨y,H2,I2,r2,q2⟩=>?_;exact hf v u s2 x y H2 I2 r1 r2 q2
theorem c9 {op:Operator}{r:R2}(ho:j8 X (Xv op) r)(ha:PE X a ta)(hb:PE X b tb):PE X (.BinOp a op b pos) (Kr r ta tb):=by
 intro pins s σ H Q I h;exact wpAny_BinOp (JH ha hb I h λv u s2 x y H2 I2 rx ry q=>ho pins s2 σ H2 x y v u Q I2 rx ry q)
theorem Aa {op:UnaryOp}{r:V->Hp->VK->Prop}(ho:Nb X (unaryOp op) r)(ha:PE X a ta):PE X (.UnaryOp op a pos) (SA r ta):=by
 intro pins s σ H Q I h;exact UnaryOp_ (bt (ha pins s σ H _ I h) λv s1 PH=>by obtain⟨x,H1,I1,r1,q1⟩:=PH;exact ho pins s1 σ H1 x v Q I1 r1 q1)
theorem NC {f:Vv->Vv->Sem Vv}{C:Int->Int->Prop}{g:Int->Int->Int}
  (rule:∀(i j:Int) (t u:Tok) (s:Vw) (Q:Vv->Vw->Prop) (E:Vv->Vw->Prop),C i j->Q (.int (g i j) s.toks) {s with toks:=s.toks+1}->VU (model X.prog X.w) X.A (f (.int i t) (.int j u)) Q E s) :
  j8 X f (rI C λi j=>.int (g i j)):=by
 intro pins s σ H x y v u Q I rx ry h;obtain⟨i,j,rfl,rfl,hc,q⟩:=h;obtain⟨t,rfl⟩:=rx;obtain⟨t',rfl⟩:=ry;exact rule i j t t' s _ _ hc ⟨.int (g i j),H,I.tok _,⟨_,rfl⟩,q⟩
theorem La {f:Vv->Vv->Sem Vv}{g:Int->Int->Int}
  (rule:∀(i j:Int) (t u:Tok) (s:Vw) (Q:Vv->Vw->Prop) (E:Vv->Vw->Prop),Q (.int (g i j) s.toks) {s with toks:=s.toks+1}->VU (model X.prog X.w) X.A (f (.int i t) (.int j u)) Q E s) :
  j8 X f (Dj λi j=>.int (g i j)):=by
 intro pins s σ H x y v u Q I rx ry h;obtain⟨i,j,rfl,rfl,q⟩:=h;obtain⟨t,rfl⟩:=rx;obtain⟨t',rfl⟩:=ry;exact rule i j t t' s _ _ ⟨.int (g i j),H,I.tok _,⟨_,rfl⟩,q⟩
theorem HC {f:Vv->Vv->Sem Vv}{g:Int->Int->Bool}
  (rule:∀(i j:Int) (t u:Tok) (s:Vw) (Q:Vv->Vw->Prop) (E:Vv->Vw->Prop),Q (.bool (g i j)) s->VU (model X.prog X.w) X.A (f (.int i t) (.int j u)) Q E s) :
  j8 X f (Dj λi j=>.bl (g i j)):=by
 intro pins s σ H x y v u Q I rx ry h;obtain⟨i,j,rfl,rfl,q⟩:=h;obtain⟨t,rfl⟩:=rx;obtain⟨t',rfl⟩:=ry;exact rule i j t t' s _ _ ⟨.bl (g i j),H,I,rfl,q⟩
def ve (i j:Int):Prop:=0<=j/\j<=1000000/\i.natAbs<2 ^ 64
def CJ (i j:Int):Prop:=(-(2 ^ 64)<i/\i<2 ^ 64)\/(-(2 ^ 64)<j/\j<2 ^ 64)
theorem CJ.ok {i j:Int}(h:CJ i j):IntMulOk i j:=by
 rcases h with⟨h1,h2⟩|⟨h1,h2⟩
 ·exact .of_left (intBits_le_64 h1 h2)
 ·exact .of_right (intBits_le_64 h1 h2)
theorem qf:j8 X (Xv .Add) (Dj λi j=>.int (i+j)):=La λ_ _ _ _ _ _ _ q=>add_int q
theorem Au:j8 X (Xv .Sub) (Dj λi j=>.int (i-j)):=La λ_ _ _ _ _ _ _ q=>sub_int q
theorem ur:j8 X (Xv .Mult) (rI CJ λi j=>.int (i*j)):=NC λ_ _ _ _ _ _ _ hc q=>mul_int q hc.ok
theorem kB:j8 X (Xv .Mod) (rI (λ_ j=>0<j) λi j=>.int (i % j)):=NC λi j _ _ _ _ _ hc q=>by
 have h1:(0:Int)<j:=hc;exact mod_int' (by lia) (by rw[Int.fmod_eq_emod_of_nonneg i (by lia)];exact q)
theorem Av:j8 X (Xv .Pow) (rI ve λi j=>.int (i ^ j.toNat)):=NC λ_ _ _ _ _ _ _ hc q=>pow_int_small hc.1 hc.2.1 hc.2.2 q
theorem Sw {f:Vv->Sem Vv}{g:Int->Int}
  (rule:∀(i:Int) (t:Tok) (s:Vw) (Q:Vv->Vw->Prop) (E:Vv->Vw->Prop),Q (.int (g i) s.toks) {s with toks:=s.toks+1}->VU (model X.prog X.w) X.A (f (.int i t)) Q E s) :
  Nb X f (rU λi=>.int (g i)):=by
 intro pins s σ H x v Q I rx h;obtain⟨i,rfl,q⟩:=h;obtain⟨t,rfl⟩:=rx;exact rule i t s _ _ ⟨.int (g i),H,I.tok _,⟨_,rfl⟩,q⟩
theorem tZ:Nb X (unaryOp .USub) (rU λi=>.int (-i)):=Sw λ_ _ _ _ _ q=>neg_int q
end
section
variable {X:Cx}{a b c:Expr}{ta tb:TE}{pos:Pos}
theorem BP {pins:List (Addr×Obj)}{σ:St}{H:Hp}{s:Vw}{Q:VK}{k k':Bool}(I:Inv X pins σ H s)(q:Q (.bl k) H)(e:k=k'):EP X pins σ Q (.bool k') s:=by
 subst e;exact⟨.bl k,H,I,rfl,q⟩
theorem K8:j8 X (Ww .Lt) (Dj λi j=>.bl (decide (i<j))):=HC λ_ _ _ _ _ _ _ q=>lt_int q
theorem K9:j8 X (Ww .LtE) (Dj λi j=>.bl (decide (i<=j))):=HC λ_ _ _ _ _ _ _ q=>le_int q
theorem FQ:j8 X (Ww .Gt) (Dj λi j=>.bl (decide (j<i))):=HC λ_ _ _ _ _ _ _ q=>gt_int q
theorem HB:j8 X (Ww .Is) (λx y H Q=>y=.cU/\Q (.bl (decide (x=.cU))) H):=by
 intro pins s σ H x y v u Q I rx ry h;obtain⟨rfl,q⟩:=h;cases ry;refine is_none_gen (BP I q ?_);cases x <;> first
  | (cases rx;rfl)
  | (obtain⟨t,rfl⟩:=rx;rfl)
theorem DN:j8 X (Ww .IsNot) (λx y H Q=>y=.cU/\Q (.bl (!decide (x=.cU))) H):=by
 intro pins s σ H x y v u Q I rx ry h;obtain⟨rfl,q⟩:=h;cases ry;refine isnot_none_gen (BP I q ?_);cases x <;> first
  | (cases rx;rfl)
  | (obtain⟨t,rfl⟩:=rx;rfl)
theorem HQ (b:Expr){op:Yd}(h:op≠.In:=by decide)(h2:op≠.NotIn:=by decide):Xy op b=false:=by
 have e1:(op==CmpOp.In)=false:=by cases op <;> first|rfl|exact absurd rfl h
 have e2:(op==CmpOp.NotIn)=false:=by cases op <;> first|rfl|exact absurd rfl h2
 cases b <;> simp[Xy,e1,e2]
theorem DC {op:Yd}{r:R2}(ho:j8 X (Ww op) r)(ha:PE X a ta)(hb:PE X b tb)(hm:Xy op b=false):PE X (.Compare a [op] [b] pos) (Kr r ta tb):=by
 intro pins s σ H Q I h;exact wpAny_Compare1 (JH ha hb I h λv u s2 x y H2 I2 rx ry q=>ho pins s2 σ H2 x y v u Q I2 rx ry q) hm
def Ko (t:TE):TT:=λσ H Q=>t σ H λx H'=>∃k,x=.bl k/\Q k H'
theorem vA {op:Yd}{r:R2}(ho:j8 X (Ww op) r)(ha:PE X a ta)(hb:PE X b tb)(hm:Xy op b=false):PT X (.Compare a [op] [b] pos) (Ko (Kr r ta tb)):=by
 intro pins s σ H Q I h;refine wpAny_isTrue_Compare1 (bt (ha pins s σ H _ I h) λv s1 ⟨x,H1,I1,r1,q1⟩=>bt (hb pins s1 σ H1 _ I1 q1) λu s2 ⟨y,H2,I2,r2,q2⟩ =>
  bt (ho pins s2 σ H2 x y v u _ I2 r1 r2 q2) λc s3 ⟨z,H3,I3,r3,k,e,q3⟩=>?_) hm
 subst e;cases r3;exact W_ ⟨H3,I3,q3⟩
def Nc (K:PySem.W.Frag)(x:V)(H:Hp)(k:Bool):Prop :=
 match x with
 |.cU=>k=false
 |.bl b=>k=b
 |.int i=>k=(i != 0)
 |.str y=>y.length<=VH/\k=((y.length:Int) != 0)
 |.M7 y=>y.size<=VH/\k=((y.size:Int) != 0)
 |.ref p=>(∃xs,eE K H p xs/\k=!xs.isEmpty)\/(∃xs,lr K H p xs/\k=!xs.isEmpty)\/∃kvs,H p=some (.dK kvs)/\k=!kvs.isEmpty
 |_=>False
theorem uG {κ:Type}{kvs:List (κ×V)}{vs:List (κ×Vv)}(r:KV kvs vs):(!vs.isEmpty)=!kvs.isEmpty:=by
 cases r <;> rfl
theorem mW {xs:List V}{its:List Vv}(r:Vals xs its):(!its.toArray.isEmpty)=!xs.isEmpty:=by
 cases r <;> simp
theorem mR:(VH:Nat)<2 ^ 63:=by rw[WD];decide
theorem Gx:QX X (λx H Q=>∃k,Nc X.K x H k/\Q k H):=by
 intro pins s σ H x v Q I rx h;obtain⟨k,e,q⟩:=h;have hl:=mR;have hs:VH=16777216:=WD;cases x with
 |cU =>
  cases rx;have e':k=false:=e;subst e';exact truthy_none ⟨H,I,q⟩
 |bl b =>
  cases rx;have e':k=b:=e;subst e';exact W_ ⟨H,I,q⟩
 |int i =>
  obtain⟨t,rfl⟩:=rx;have e':k=(i != 0):=e;subst e';exact PySem.P.truthy_int ⟨H,I,q⟩
 |str y =>
  obtain⟨t,rfl⟩:=rx;obtain⟨hy,e'⟩:y.length<=VH/\k=((y.length:Int) != 0):=e;subst e';exact PySem.P.truthy_str (by lia) ⟨H,I.tok _,q⟩
 |M7 y =>
  obtain⟨t,rfl⟩:=rx;obtain⟨hy,e'⟩:y.size<=VH/\k=((y.size:Int) != 0):=e;subst e';exact PySem.W.truthy_bytes (by lia) ⟨H,I.tok _,q⟩
 |ref p =>
  cases rx;have e':(∃xs,eE X.K H p xs/\k=!xs.isEmpty)\/(∃xs,lr X.K H p xs/\k=!xs.isEmpty)\/∃kvs,H p=some (.dK kvs)/\k=!kvs.isEmpty:=e;rcases e' with⟨xs,hx,e'⟩|⟨xs,hx,e'⟩|⟨kvs,hx,e'⟩
  ·subst e';obtain⟨its,r,pl,hz⟩:=I.list hx;have hlen:=r.length;exact wpAny_truthy_list pl.isList (by simp only[VO];lia) ⟨H,I.tok _,by rw[mW r];exact q⟩
  ·subst e';obtain⟨its,r,pl,hz⟩:=I.tuple hx;have hlen:=r.length;exact truthy_tuple pl (by simp only[VO];lia) ⟨H,I.tok _,by rw[mW r];exact q⟩
  ·subst e';obtain⟨hz,hS,vs,r,m⟩:kvs.length<=VH/\(p==Xb)=false/\∃vs,KV kvs vs/\s.heap.DictOf (aY X.prog X.w) p vs:=I.a6 p _ hx;have hlen:kvs.length=vs.length:=Paired.length r;exact wpAny_truthy_dict hS m (by lia) ⟨H,I.tok _,by rw[uG r];exact q⟩
 |_=>exact(show False from e).elim
theorem zO (ha:PE X a ta)(he:∀whole,ZC a X.env whole=(do let v <- whole;Yt a.pos;holding [v] (truthy v))):
  PT X a (λσ H Q=>ta σ H λx H'=>∃k,Nc X.K x H' k/\Q k H'):=by
 intro pins s σ H Q I h;exact isTrue_plain (bt (ha pins s σ H _ I h) λv s1 PF=>by obtain⟨x,H1,I1,r1,q1⟩:=PF;exact Gx pins s1 σ H1 x v Q I1 r1 q1) (he _)
theorem vals1 {x:V}{us:List Vv}(r:Vals [x] us):∃u,us=[u]/\RelV x u:=by
 cases r with
 |cons r1 r2=>cases r2;exact⟨_,rfl,r1⟩
theorem vals2 {x y:V}{us:List Vv}(r:Vals [x,y] us):∃u w',us=[u,w']/\RelV x u/\RelV y w':=by
 cases r with
 |cons r1 r2 =>
  cases r2 with
  |cons r3 r4=>cases r4;exact⟨_,_,rfl,r1,r3⟩
theorem Cp:eY X (.builtin "abs") (λxs H Q=>∃i,xs=[.int i]/\Q (.int (if i<0 then -i else i)) H):=by
 intro pins s σ H xs us Q I r h;obtain⟨i,rfl,q⟩:=h;obtain⟨u,rfl,t,rfl⟩:=vals1 r;exact call_abs_int λu tk=>⟨.int (if i<0 then -i else i),H,I.tok _,⟨_,rfl⟩,q⟩
theorem pj (hc:X.calm=true):eY X (.builtin "max") (λxs H Q=>∃i j,xs=[.int i,.int j]/\Q (.int (if j>i then j else i)) H):=by
 intro pins s σ H xs us Q I r h;obtain⟨i,j,rfl,q⟩:=h;obtain⟨u,w',rfl,⟨t,rfl⟩,⟨t',rfl⟩⟩:=vals2 r;refine max_two_ints (I.ok.hd hc) λh' tk k=>⟨_,H,I.kept k,?_,q⟩
 by_cases hj:j>i
 ·rw[if_pos hj,if_pos hj];exact⟨_,rfl⟩
 ·rw[if_neg hj,if_neg hj];exact⟨_,rfl⟩
theorem yx (hc:X.calm=true):eY X (.builtin "min") (λxs H Q=>∃i j,xs=[.int i,.int j]/\Q (.int (if j<i then j else i)) H):=by
 intro pins s σ H xs us Q I r h;obtain⟨i,j,rfl,q⟩:=h;obtain⟨u,w',rfl,⟨t,rfl⟩,⟨t',rfl⟩⟩:=vals2 r;refine min_two_ints (I.ok.hd hc) λh' tk k=>⟨_,H,I.kept k,?_,q⟩
 by_cases hj:j<i
 ·rw[if_pos hj,if_pos hj];exact⟨_,rfl⟩
 ·rw[if_neg hj,if_neg hj];exact⟨_,rfl⟩
theorem pq:eY X (.type "int") (λxs H Q=>(∃i,xs=[.int i]/\Q (.int i) H)\/∃k,xs=[.bl k]/\Q (.int (if k then 1 else 0)) H):=by
 intro pins s σ H xs us Q I r h;rcases h with⟨i,rfl,q⟩|⟨k,rfl,q⟩
 ·obtain⟨u,rfl,t,rfl⟩:=vals1 r;exact call_int_int ⟨.int i,H,I,⟨_,rfl⟩,q⟩
 ·obtain⟨u,rfl,r1⟩:=vals1 r;cases r1;exact call_int_bool ⟨.int (if k then 1 else 0),H,I.tok _,⟨_,rfl⟩,q⟩
end
section
end
theorem om.some_of {v:V}{o:Option Vv}(r:om (some v) o):∃u,o=some u/\RelV v u:=by
 cases o with
 |none=>exact(show False from r).elim
 |some u=>exact⟨u,rfl,r⟩
section
end
section
end
section
end
section
end
structure cS (k:Nat)(A:Wv):Prop where
 hd:A.handled=none
 dp:A.depth+3*k+5<ZY
 un:A.units+16*k+200<XQ
theorem cS.mono {j k:Nat}{A:Wv}(r:cS k A)(h:j<=k):cS j A:=⟨r.hd,by have:=r.dp;lia,by have:=r.un;lia⟩
theorem cS.deeper {k:Nat}{A:Wv}(r:cS (k+1) A)(env:Env):cS k (A.deeper env) :=
 ⟨r.hd,by have:=r.dp;show A.depth+1+3*k+5<_;lia,by have:=r.un;show A.units+3+16*k+200<_;lia⟩
theorem cS.depth {k:Nat}{A:Wv}(r:cS k A):A.depth<ZY:=by have:=r.dp;lia
theorem cS.units {k:Nat}{A:Wv}(r:cS k A):A.units+64<XQ:=by have:=r.un;lia
def Ks:TA:=λ_ H Q=>Q [] H
def FF (ta:TE)(tr:TA):TA:=λσ H Q=>ta σ H λx H1=>tr σ H1 λxs H2=>Q (x::xs) H2
section
variable {X:Cx}{e:Expr}{es:List Expr}{te:TE}{t:TA}{pos:Pos}
theorem dz:PA X [] Ks:=λ_ _ _ _ H Q I h=>Zu ⟨[],H,I,.nil,h⟩
theorem bj (ha:PE X e te)(hr:PA X es t)(hs:VE (e::es) X.env=(false,eval e X.env)::VE es X.env:=by rfl):PA X (e::es) (FF te t):=by
 intro pos pins s σ H Q I h;rw[hs];show VU _ _ (spliced ((false,eval e X.env)::WR pos (VE es X.env))) _ _ s;refine Zi (bt (ha pins s σ H _ I h) λu s1 ⟨x,H1,I1,r1,q1⟩=>?_);exact bt (hr pos pins s1 σ H1 _ I1 q1) λus s2 ⟨xs,H2,I2,r2,q2⟩=>⟨x::xs,H2,I2,.cons r1 r2,q2⟩
def Ol (t:TA):TE:=λσ H Q=>t σ H λxs H1=>xs.length<=VH/\∀p,H1 p=none->Q (.ref p) (upd H1 p (.tup xs))
def Ou (t:TA):TE:=λσ H Q=>t σ H λxs H1=>xs.length<=VH/\∀p,H1 p=none->Q (.ref p) (upd H1 p (.lst xs))
theorem Ab {x1}(h:PA X es t):PE X (.Tuple es x1 pos) (Ol t):=by
 intro pins s σ H Q I hq;refine wpAny_Tuple_spliced (bt (h pos pins s σ H _ I hq) λus s1 ⟨xs,H1,I1,r,z,q⟩=>⟨by rw[<- r.length];exact z,?_⟩)
 have hf:H1 s1.heap.objs.size=none:=I1.a6.fresh (VA _);refine⟨.ref s1.heap.objs.size,upd H1 s1.heap.objs.size (.tup xs),I1.laid (t':=s1.toks) (λb u e=>Vx _ e) (VA _) ?_,rfl,q _ hf⟩;exact⟨z,us,r,⟨_,VT _ rfl,rfl,_,rfl⟩⟩
theorem uo (h:PA X es t):PE X (.List es pos) (Ou t):=by
 intro pins s σ H Q I hq;refine wpAny_List_spliced (bt (h pos pins s σ H _ I hq) λus s1 ⟨xs,H1,I1,r,z,q⟩=>⟨by rw[<- r.length];exact z,?_⟩)
 have hf:H1 s1.heap.objs.size=none:=I1.a6.fresh (VA _);refine⟨.ref s1.heap.objs.size,upd H1 s1.heap.objs.size (.lst xs),I1.laid (t':=s1.toks) (λb u e=>Vx _ e) (VA _) ?_,rfl,q _ hf⟩;exact⟨z,us,0,r,VT _ rfl⟩
end
abbrev Sp:=List V->Hp->VK->XK->Prop
abbrev yZ:=List Env->Hp->Vw->XK->Vv->Vw->Prop
structure CG (P:Vz)(w:VG)(K:PySem.W.Frag)(mg:Str->Option Vv)(base:Heap)(A:Wv)(outer:List Env)(s:Vw)(H:Hp):Prop where
 frames:A.frames=some outer
 mod:Mod K mg base
 bs:∀b o,base.get? b=some o->s.heap.get? b=some o/\H b=none
 yB:base.objs.size<=s.heap.objs.size
 iF:s.heap.FunFrames base outer
 BJ:∀b∈gH outer,H b=none
 a6:gL P w H s.heap
 bare:Yz s.gens
def CE (outer:List Env)(P:Vz)(w:VG)(H:Hp)(s:Vw)(Q:VK)(u:Vv)(s':Vw):Prop :=
 ∃v H',s'.os=s.os/\Yz s'.gens/\Un (gH outer) [] H H' s.heap s'.heap/\gL P w H' s'.heap/\RelV v u/\Q v H'
def CR (CX:yZ)(outer:List Env)(P:Vz)(w:VG)(H:Hp)(s:Vw)(Q:VK)(E:XK)(r:Result)(s':Vw):Prop :=
 match r with
 |.ok (.ret u)=>CE outer P w H s Q u s'
 |.ok _=>False
 |.error e=>CX outer H s E e s'
structure aB (P:Vz)(w:VG)(K:PySem.W.Frag)(mg:Str->Option Vv)(base:Heap)(CX:yZ)(k:Nat)(f:Addr)(fd:VW)(ps:List Str)(sp:Sp):Prop where
 len:∀vs H Q E,sp vs H Q E->vs.length=ps.length
 run:∀(A:Wv) (outer:List Env) (s:Vw) (H:Hp) (args:Args) (us:List Vv) (vs:List V) (Q:VK) (E:XK),cS k A->CG P w K mg base A outer s H->ZV s fd args (ps.zip us)->Vals vs us->sp vs H Q E ->
  X9 (model P w) A (.call (.ref f) args) (CR CX outer P w H s Q E) s
section
variable {X:Cx}{pins:List (Addr×Obj)}{σ:St}{H:Hp}{s s':Vw}
theorem Inv.Jk (I:Inv X pins σ H s):CG X.prog X.w X.K X.mg X.base X.A X.stack s H :=
 ⟨I.ok.frames,I.ok.mod,I.bs,Wc I.ok.yB I.sz,I.stack,I.pO,I.a6,I.bare⟩
theorem Inv.after {Q:VK}{u:Vv}(I:Inv X pins σ H s)(h:CE X.stack X.prog X.w H s Q u s'):EP X pins σ Q u s':=by
 obtain⟨v,H',os,bare,un,a6,r,q⟩:=h;obtain⟨hh,g,d,t,O1⟩:=s';obtain rfl:O1=s.os:=os;exact⟨v,H',I.call (h':=hh) (g':=g) (d':=d) (t':=t) (ch:=[]) un a6 bare (λb z=>absurd z (by simp)),r,q⟩
end
def FG (sp:Sp)(Ge:List V)(E:XK)(t:TA):TE:=λσ H Q=>t σ H λvs H1=>sp (vs++Ge) H1 Q E
def Binds (K:PySem.W.Frag)(fd:VW)(ps:List Str)(ds:List Vv):Prop :=
 ∀(s:Vw) (us:List Vv),K.In s.heap->(us++ds).length=ps.length->ZV s fd ⟨us,[]⟩ (ps.zip (us++ds))
theorem Binds.all {K:PySem.W.Frag}{fd:VW}{ps:List Str}(h:∀us:List Vv,us.length=ps.length->bindArgs fd ⟨us,[]⟩=pure (ps.zip us)):Binds K fd ps []:=λs us _ hl=>by
 rw[WB]at hl ⊢
 exact .of_eq (h us hl)
def Passes (CX:yZ)(X:Cx)(E:XK):Prop:=∀(pins:List (Addr×Obj)) (σ:St) (H:Hp) (s:Vw) (e:Vv) (s':Vw),Inv X pins σ H s->CX X.stack H s E e s'->X.xe e s'
section
variable {X:Cx}{CX:yZ}{k:Nat}{f:Addr}{fd:VW}{ps:List Str}{sp:Sp}{Ge:List V}{ds:List Vv}{E:XK}{x:Str}{p pos:Pos}{e:Expr}{es:List Expr}{t:TA}
theorem GV {pins:List (Addr×Obj)}{σ:St}{H:Hp}{s:Vw}{Q:VK}{us:List Vv}{vs:List V}(F:aB X.prog X.w X.K X.mg X.base CX k f fd ps sp)(hr:cS k X.A)(hb:Binds X.K fd ps ds)(hd:Vals Ge ds)(hx:Passes CX X E)
  (I:Inv X pins σ H s) (r:Vals vs us) (h:sp (vs++Ge) H Q E):VU (model X.prog X.w) X.A (call (.ref f) us) (EP X pins σ Q) X.xe s:=by
 have r2:Vals (vs++Ge) (us++ds):=r.append hd;have hl:(us++ds).length=ps.length:=by rw[<- r2.length];exact F.len _ _ _ _ h
 refine Ym (Xa (F.run X.A X.stack s H ⟨us,[]⟩ (us++ds) (vs++Ge) Q E hr I.Jk (hb s us I.ya hl) r2 h) λr s' hq=>?_);cases r with
 |error e=>exact hx pins σ H s e s' I hq
 |ok fl =>
  cases fl with
  |ret u=>exact I.after hq
  |next=>exact WJ hq
  |brk=>exact WJ hq
  |cont=>exact WJ hq
theorem p_ (F:aB X.prog X.w X.K X.mg X.base CX k f fd ps sp)(hr:cS k X.A)(hg:Gl X x)(hm:X.mg x=some (.ref f))(hk:PySem.W.keepIn X.K (.ref f)=true)(hb:Binds X.K fd ps ds)(hd:Vals Ge ds)(hx:Passes CX X E)
  (ha:PA X (e::es) t) (hdb:(x==("__debug__" : Str))=false:=by decide) (he:VE (e::es) X.env=(false,eval e X.env)::VE es X.env:=by rfl) (hpl:(WR pos (VE es X.env)).any (·.1)=false:=by rfl) :
  PE X (.Call (.Name x p) (e::es) [] pos) (FG sp Ge E t):=by
 intro pins s σ H Q I h;refine W8 (il I hg hm ?_ hdb);refine PySem.W.callWith_K (h₀:=X.base) I.ok.mod.JZ hk (bt (ha pos pins s σ H _ I h) λus s1 ⟨vs,H1,I1,r,q⟩=>⟨I1.ya,?_⟩) he hpl;exact GV F hr hb hd hx I1 r q
end
section
end
structure aC (N P:List Str)(sc:Xw):Prop where
 kind:sc.kind=.function
 co:sc.isCoroutine=false
 gen:sc.isGenerator=false
 nd:N.Nodup
 pre:N.take P.length=P
 par:∀x∈P,sc.names.lookup x=some .local\/sc.names.lookup x=some .cell
 HR:∀y∈sc.names,y.2≠.free
theorem mkS{N P:List Str}{sc:Xw}(h0:sc.kind=.function:=by rfl)(h1:sc.isCoroutine=false:=by rfl)(h2:sc.isGenerator=false:=by rfl)(h3:N.Nodup:=by decide +kernel)(h4:N.take P.length=P:=by rfl)(h5:∀x∈P,sc.names.lookup x=some .local\/sc.names.lookup x=some .cell:=by decide +kernel)(h6:∀y∈sc.names,y.2≠.free:=by decide +kernel):aC N P sc:=⟨h0,h1,h2,h3,h4,h5,h6⟩
theorem pA {kindOf:Str->Option Yb}{x:Str}:∀{binds:List (Str×Vv)} {m:Str->Option Vv},(∀v,(x,v)∉binds)->bindL kindOf binds m x=m x
 |[],_,_=>rfl
 | (n,v)::r,m,h=>by
  unfold bindL;rw[pA λw hw=>h w (V2 _ hw)]
  split
  ·have:x≠n:=by rintro rfl;exact h v V8
   simp[this]
  ·rfl
theorem pC {kindOf:Str->Option Yb}{x:Str}:∀{binds:List (Str×Vv)} {m:Str->Option Vv},(∀v,(x,v)∉binds)->bindC kindOf binds m x=m x
 |[],_,_=>rfl
 | (n,v)::r,m,h=>by
  unfold bindC;rw[pC λw hw=>h w (V2 _ hw)]
  split
  ·rfl
  ·have:x≠n:=by rintro rfl;exact h v V8
   simp[this]
theorem pB {kindOf:Str->Option Yb}{x:Str}{v:Vv}:∀{P:List Str} {vs:List Vv} {i:Nat} {m:Str->Option Vv},P.Nodup->P[i]?=some x->vs[i]?=some v->kindOf x=some .local ->
  bindL kindOf (P.zip vs) m x=some v
 |[],_,_,_,_,h,_,_=>by simp at h
 |_::_,[],_,_,_,_,h,_=>by simp at h
 |p::P,w::vs,0,m,nd,h1,h2,hk=>by
  simp at h1 h2;subst h1;subst h2;show bindL kindOf ((p,w)::P.zip vs) m p=_;unfold bindL;rw[pA λv hv=>(VZ.mp nd).1 (YQ hv).1,if_pos hk];simp
 |p::P,w::vs,i+1,m,nd,h1,h2,hk=>by
  show bindL kindOf ((p,w)::P.zip vs) m x=_;unfold bindL;exact pB (i:=i) (VZ.mp nd).2 (by simpa using h1) (by simpa using h2) hk
theorem pD {kindOf:Str->Option Yb}{x:Str}{v:Vv}:∀{P:List Str} {vs:List Vv} {i:Nat} {m:Str->Option Vv},P.Nodup->P[i]?=some x->vs[i]?=some v->kindOf x≠some .local ->
  bindC kindOf (P.zip vs) m x=some v
 |[],_,_,_,_,h,_,_=>by simp at h
 |_::_,[],_,_,_,_,h,_=>by simp at h
 |p::P,w::vs,0,m,nd,h1,h2,hk=>by
  simp at h1 h2;subst h1;subst h2;show bindC kindOf ((p,w)::P.zip vs) m p=_;unfold bindC;rw[pC λv hv=>(VZ.mp nd).1 (YQ hv).1,if_neg hk];simp
 |p::P,w::vs,i+1,m,nd,h1,h2,hk=>by
  show bindC kindOf ((p,w)::P.zip vs) m x=_;unfold bindC;exact pD (i:=i) (VZ.mp nd).2 (by simpa using h1) (by simpa using h2) hk
def start (N:List Str)(vs:List V):St:=vs.map some++Ws (N.length-vs.length) none
noncomputable def kS (CX:yZ)(P:Vz)(w:VG)(K:PySem.W.Frag)(mg:Str->Option Vv)(base:Heap)(N:List Str)(qual:Str)(scope:Xw)(f:Addr)(cd:Vv)(A:Wv)(outer:List Env)(s:Vw)(H:Hp)(E:XK):Cx where
 prog:=P
 w:=w
 K:=K
 mg:=mg
 base:=base
 A:=A.deeper (Ye qual scope s.heap.objs.size f cd)
 N:=N
 s₀:=s
 H₀:=H
 env:=Ye qual scope s.heap.objs.size f cd
 outer:=outer
 stack:=Ye qual scope s.heap.objs.size f cd::outer
 ex:=[]
 calm:=true
 fn:=λ_=>true
 pn:=[]
 xe:=λe s'=>VU (model P w) (A.deeper (Ye qual scope s.heap.objs.size f cd)) (leaving (Ye qual scope s.heap.objs.size f cd) e) (λ_ zA=>CX outer H s E e zA) (λe' zA=>CX outer H s E e' zA) s'
theorem s9 {sc:Xw}{n:Nat}{x:Str}(h:sc.names.lookup x=some .cell):∃c,(cellsFrom n sc.names []).lookup x=some c:=by
 have q:=PySem.W.cellsFrom_some sc.names n [] (.inl h);exact Option.isSome_iff_exists.mp q
theorem oP {CX:yZ}{P:Vz}{w:VG}{K:PySem.W.Frag}{mg:Str->Option Vv}{base:Heap}{N ps:List Str}{qual:Str}{scope:Xw}{f:Addr}{cd:Vv}{A:Wv}{outer:List Env}{s s1:Vw}{H:Hp}{E:XK}{us:List Vv}{vs:List V}
  (S:aC N ps scope) (hd:A.handled=none) (e0:CG P w K mg base A outer s H) (hl:vs.length=ps.length) (r:Vals vs us)
  (x:InCallC s s.heap.objs.size (bindL (Ye qual scope s.heap.objs.size f cd).kindOf (ps.zip us) λ_=>none) (cellsFrom (s.heap.objs.size+1) scope.names []) (bindC (Ye qual scope s.heap.objs.size f cd).kindOf (ps.zip us) λ_=>none) s1) :
  Inv (kS CX P w K mg base N qual scope f cd A outer s H E) [] (start N vs) H s1:=by
 have hpl:ps.length<=N.length:=by have:=congrArg List.length S.pre;rw[V7]at this;lia
 obtain⟨h1,tk,rfl,hk⟩:=x.done;have Li:∀b:Addr,b∉(kS CX P w K mg base N qual scope f cd A outer s H E).ex:=λb z=>absurd (show b∈([]:List Addr) from z) (by simp)
 refine⟨⟨e0.mod,S.kind,rfl,rfl,VA _,λy z c h1 h2=>?_,λy hy=>?_,λy c _ h=>?_,λ_=>hd,Around.frames_deeper e0.frames,.inr ⟨rfl,rfl⟩,λb z=>absurd z (Li b),e0.bs,e0.yB,λb _ _=>Li b,λb z=>absurd z (Li b),e0.iF,e0.BJ⟩,
  rfl,e0.bare,Un.kept hk,⟨_,x.toInCall.ns,λi y v h1 h2 h3=>?_⟩,λy c h=>⟨_,x.cell y c h⟩,e0.a6.fresh (VA _),λy c h=>?_,λp hp=>absurd (show p∈([]:List (Addr×Obj)) from hp) (by simp),e0.a6.kept hk,?_⟩
 ·exact name_of_addr x.apart (PySem.mem_of_lookup h1) (PySem.mem_of_lookup h2)
 ·have hy:scope.names.lookup y=some .cell\/scope.names.lookup y=some .free:=hy;rcases hy with hy|hy
  ·exact s9 hy
  ·exact absurd rfl (S.HR _ (PySem.mem_of_lookup hy))
 ·exact Nat.le_of_lt (x.above y c (PySem.mem_of_lookup h))
 ·have hi:i<vs.length:=by
   unfold start at h2
   by_cases hi:i<vs.length
   ·exact hi
   ·rw[XH (by simpa using hi)]at h2
    rw[List.getElem?_replicate]at h2
    split at h2 <;> cases h2
  have ha:vs[i]?=some v:=by
   unfold start at h2;rw[W9 (by simpa using hi),VJ]at h2
   cases e:vs[i]? with
   |none=>rw[e]at h2;cases h2
   |some a=>rw[e]at h2;cases h2;rfl
  obtain⟨u,hu,rv⟩:=r.get ha;have hp:ps[i]?=some y:=by
   rw[<- S.pre,YE (by lia)];exact h1
  have RK:ps.Nodup:=by rw[<- S.pre];exact S.nd.sublist (List.take_sublist _ _)
  refine⟨u,rv,?_⟩;rcases S.par y (Wt hp)with k|k
  ·exact .inl ⟨k,pB RK hp hu k⟩
  ·obtain⟨c,e⟩:=s9 (n:=s.heap.objs.size+1) k;refine .inr ⟨.inl k,c,e,?_⟩;have q:=x.cell y c e;rw[pD RK hp hu (by show scope.names.lookup y≠_;rw[k];decide)]at q
   exact q
 ·exact e0.a6.fresh (Nat.le_of_lt (x.above y c (PySem.mem_of_lookup h)))
 ·unfold start;show _=N.length;rw[VV,Vt,List.length_replicate];lia
theorem F_ {CX:yZ}{P:Vz}{w:VG}{K:PySem.W.Frag}{mg:Str->Option Vv}{base:Heap}{k:Nat}{f:Addr}{name qual:Str}{params:Arguments}{body:List Stmt}{scope:Xw}{dV kV doc pm bB ct oc:Vv}{an od:Option Addr}
  {DM:Array (Option Vv)} {N ps:List Str} {sp:Sp} (lk:K.lookup f=some ⟨oc,od,.func (PySem.W.fnOf name qual params body scope dV kV doc pm an bB ct),DM⟩) (v_:PySem.W.codeIn K bB qual=true) (S:aC N ps scope)
  (len:∀vs H Q E,sp vs H Q E->vs.length=ps.length)
  (fV:∀(A:Wv) (outer:List Env) (s:Vw) (H:Hp) (vs:List V) (Q:VK) (E:XK),cS k (A.deeper (Ye qual scope s.heap.objs.size f bB))->sp vs H Q E ->
   ∃t,qE (kS CX P w K mg base N qual scope f bB A outer s H E) body t/\t {nx:=λ_ H'=>Q .cU H',rt:=Q} (start N vs) H) :
  aB P w K mg base CX (k+1) f (PySem.W.fnOf name qual params body scope dV kV doc pm an bB ct) ps sp:=by
 refine⟨len,λA outer s H args us vs Q E hr e0 hb r iE=>?_⟩;have hl:=len _ _ _ _ iE;have KX:K.In s.heap:=e0.mod.JZ.keeps λb o e=>(e0.bs b o e).1;have lim:s.heap.NoLimit:=e0.mod.nolimit.keeps λb o e=>(e0.bs b o e).1;have BB:∀y∈ps.zip us,scope.names.lookup y.1=some .local\/(scope.names.lookup y.1=some .cell/\((cellsFrom (s.heap.objs.size+1) scope.names []).lookup y.1).isSome=true):=λPD hy=>by
  obtain⟨n,v⟩:=PD;rcases S.par n (YQ hy).1 with q|q
  ·exact .inl q
  ·exact .inr ⟨q,PySem.W.cellsFrom_some _ _ _ (.inl q)⟩
 refine codeAny_call_function hr.depth (KX _ _ lk) rfl S.co S.gen rfl (PySem.W.codeRec_of KX v_) (hb _ _ _ _ ?_);refine ZW S.kind BB λenv he s1 x=>?_;subst he;refine⟨lim.keeps x.toInCall.keep,codeAny_func ?_⟩;obtain⟨t,ht,hq⟩:=fV A outer s H vs Q E (hr.deeper _) iE;have I:Inv (kS CX P w K mg base N qual scope f bB A outer s H E) [] (start N vs) H s1:=oP S hr.hd e0 hl r x;refine XE (ht [] s1 (start N vs) H _ I hq) (λfl s' hs=>?_) λe s' hs=>hs;have fin:∀{σ':St} {H':Hp} {v:V} {u:Vv},Inv (kS CX P w K mg base N qual scope f bB A outer s H E) [] σ' H' s'->RelV v u->Q v H'->CE outer P w H s Q u s' :=
  λ{σ' H' v u} J rv q=>⟨v,H',J.os,J.bare,J.base,J.a6,rv,q⟩
 cases fl with
 |ret u =>
  obtain⟨v,σ',H',J,rv,q⟩:=hs;exact fin J rv q
 |next =>
  obtain⟨σ',H',J,q⟩:=hs;exact fin (v:=V.cU) (u:=Value.none) J rfl q
 |brk =>
  obtain⟨_,_,_,q⟩:=hs;exact WJ q
 |cont =>
  obtain⟨_,_,_,q⟩:=hs;exact WJ q
section
variable {X:Cx}{x:Str}{p pos:Pos}{e:Expr}{es:List Expr}{t:TA}{id T:String}{r:List V->Hp->VK->Prop}
def Oy (r:List V->Hp->VK->Prop)(t:TA):TE:=λσ H Q=>t σ H λvs H1=>r vs H1 Q
theorem gV (hc:eY X (.builtin id) r) (hg:Gl X x) (hm:X.mg x=none) (hv:Wq x=some (.builtin id)) (ha:PA X (e::es) t) (hn:x≠"__name__" := by decide) (hdb:(x==("__debug__" : Str))=false:=by decide)
  (he:VE (e::es) X.env=(false,eval e X.env)::VE es X.env:=by rfl) (hpl:(WR pos (VE es X.env)).any (·.1)=false:=by rfl):PE X (.Call (.Name x p) (e::es) [] pos) (Oy r t):=by
 intro pins s σ H Q I h;refine W8 (g7 I hg hm hv ?_ hn hdb);exact PyProof.Rows.callWith_builtin1 (bt (ha pos pins s σ H _ I h) λus s1 PC=>by obtain⟨vs,H1,I1,r1,q1⟩:=PC;exact hc pins s1 σ H1 vs us Q I1 r1 q1) he hpl
theorem oE (hc:eY X (.type T) r) (hg:Gl X x) (hm:X.mg x=none) (hv:Wq x=some (.type T)) (ha:PA X (e::es) t) (hn:x≠"__name__" := by decide) (hdb:(x==("__debug__" : Str))=false:=by decide)
  (he:VE (e::es) X.env=(false,eval e X.env)::VE es X.env:=by rfl) (hpl:(WR pos (VE es X.env)).any (·.1)=false:=by rfl):PE X (.Call (.Name x p) (e::es) [] pos) (Oy r t):=by
 intro pins s σ H Q I h;refine W8 (g7 I hg hm hv ?_ hn hdb);exact WQ (bt (ha pos pins s σ H _ I h) λus s1 Pz=>by obtain⟨vs,H1,I1,r1,q1⟩:=Pz;exact hc pins s1 σ H1 vs us Q I1 r1 q1) he hpl
end
end L2
namespace HT
open PySem PyProof.Rows
section
open PySem.SeqAt
open PySem.AutoSeq1 (wpAny_loadPart')
open PySem.MeetsSeq PySem.MeetsSeq2 PySem.MeetsSeq3
end
section
def k6 (n d:Nat):Option Int->Nat
 |none=>d
 |some v=>if v<0 then (v+(n:Int)).toNat else min v.toNat n
theorem lK (n d k:Nat):k6 n d (some (k:Int))=min k n:=by
 show (if (k:Int)<0 then ((k:Int)+(n:Int)).toNat else min (k:Int).toNat n)=min k n
 rw[if_neg (by lia),X5]
end
end HT
namespace L2
open PySem PySem.Spec PyProof.Rows
abbrev TO:=St->Hp->(Option Int->Hp->Prop)->Prop
def PO (X:Cx)(e:Option Expr)(t:TO):Prop :=
 ∀(pins:List (Addr×Obj)) (s:Vw) (σ:St) (H:Hp) (Q:Option Int->Hp->Prop),Inv X pins σ H s->t σ H Q ->
  VU (model X.prog X.w) X.A (evalPart e X.env) (λu s'=>∃o H',Inv X pins σ H' s'/\IsPart u o/\Q o H') X.xe s
def C3:TO:=λ_ H Q=>Q none H
def Kq (t:TE):TO:=λσ H Q=>t σ H λx H1=>∃i,x=.int i/\Q (some i) H1
section
variable {X:Cx}{e:Expr}{te:TE}{lo hi:Option Expr}{tl th:TO}{pos p2:Pos}
theorem vG:PO X none C3:=by
 intro pins s σ H Q I h;rw[Y_];exact Vy ⟨none,H,I,.none,h⟩
theorem vF (h:PE X e te):PO X (some e) (Kq te):=by
 intro pins s σ H Q I hw;rw[evalPart_some];refine bt (h pins s σ H _ I hw) λu s1 ⟨x,H1,I1,r1,q1⟩=>?_;obtain⟨i,rfl,q⟩:=q1;obtain⟨t,rfl⟩:=r1;exact⟨some i,H1,I1,.int i t,q⟩
def QY (X:Cx)(r:V->Option Int->Option Int->Hp->VK->Prop):Prop :=
 ∀(pins:List (Addr×Obj)) (s:Vw) (σ:St) (H:Hp) (x:V) (v vl vu:Vv) (lo hi:Option Int) (sl:Addr) (Q:VK),Inv X pins σ H s->RelV x v->s.heap.IsSliceOf sl vl vu .none->IsPart vl lo->IsPart vu hi->r x lo hi H Q ->
  ∃T id,typeLookup (.type T) "__getitem__" = pure (some (.builtin id))/\s.TypeIs v T/\VU (model X.prog X.w) X.A (Y5 v (.ref sl)) (EP X pins σ Q) X.xe s
def SD (r:V->Option Int->Option Int->Hp->VK->Prop)(te:TE)(tl th:TO):TE:=λσ H Q=>te σ H λx H1=>tl σ H1 λl H2=>th σ H2 λu H3=>r x l u H3 Q
theorem rK {r:V->Option Int->Option Int->Hp->VK->Prop}(hr:QY X r)(he:PE X e te)(hl:PO X lo tl)(hu:PO X hi th):PE X (.Subscript e (.Slice lo hi none p2) pos) (SD r te tl th):=by
 intro pins s σ H Q I h;refine Z5 (bt (he pins s σ H _ I h) λv s1 ⟨x,H1,I1,r1,q1⟩=>?_);refine wpAny_Slice (bt (hl pins s1 σ H1 _ I1 q1) λvl s2 ⟨l,H2,I2,pl,q2⟩=>bt (hu pins s2 σ H2 _ I2 q2) λvu s3 ⟨u,H3,I3,pu,q3⟩=>?_);rw[Y_];refine Vy ?_;have I4:Inv X pins σ H3 {s3 with heap:=s3.heap.push {cls:=.type "slice",data:=.fields #[vl,vu,.none]}}:=I3.kept (t':=s3.toks) λb ob q=>Vx _ q
 obtain⟨T,id,hT,ht,hg⟩:=hr pins {s3 with heap:=s3.heap.push {cls:=.type "slice",data:=.fields #[vl,vu,.none]}} σ H3 x v vl vu l u s3.heap.objs.size Q I4 r1 (Zh ..) pl pu q3
 show VU (model X.prog X.w) X.A (Y9 e (.Slice lo hi none p2) v (.ref s3.heap.objs.size)) (EP X pins σ Q) X.xe {s3 with heap:=s3.heap.push {cls:=.type "slice",data:=.fields #[vl,vu,.none]}}
 exact ZX (ops:=[.ref s3.heap.objs.size,v]) ht hT hg (by with_unfolding_all rfl)
def sY (xs:List V)(lo hi:Option Int):List V:=(xs.drop (HT.k6 xs.length 0 lo)).take (HT.k6 xs.length xs.length hi-HT.k6 xs.length 0 lo)
theorem sX (xs:List V)(lo hi:Option Int):(sY xs lo hi).length<=xs.length:=by
 unfold sY;rw[V7,XJ];lia
end
def yb (n:Nat)(i:Int):Option Nat:=if 0<=i then (if i<n then some i.toNat else none) else if -(n:Int)<=i then some (i+n).toNat else none
def qM {α:Type}(xs:List α)(i:Int):Option α:=(yb xs.length i).bind λj=>xs[j]?
theorem vX {n:Nat}{i:Int}{j:Nat}(h:yb n i=some j):Zz i n=some j/\j<n/\-(n:Int)<=i/\i<n:=by
 unfold yb at h
 by_cases h0:0<=i
 ·rw[if_pos h0]at h
  by_cases h1:i<n
  ·rw[if_pos h1]at h;have e:i.toNat=j:=V5 h;exact⟨by rw[seqIndex_of h0 h1,e],by lia,by lia,h1⟩
  ·rw[if_neg h1]at h;cases h
 ·rw[if_neg h0]at h
  by_cases h1:-(n:Int)<=i
  ·rw[if_pos h1]at h;have e:(i+n).toNat=j:=V5 h;exact⟨by rw[seqIndex_neg (by lia) h1,e],by lia,h1,by lia⟩
  ·rw[if_neg h1]at h;cases h
theorem wL {α:Type}{xs:List α}{i:Int}{v:α}(h:qM xs i=some v):∃j,Zz i xs.length=some j/\xs[j]?=some v/\j<xs.length/\-(xs.length:Int)<=i/\i<xs.length:=by
 unfold qM at h;cases e:yb xs.length i with
 |none=>rw[e]at h;cases h
 |some j =>
  rw[e]at h;obtain⟨h1,h2,h3,h4⟩:=vX e;exact⟨j,h1,h,h2,h3,h4⟩
def lX (b:Expr):Prop:=∀o i,subscripted b false o i=operate [o,i] (Y5 o i)
def Fw (X:Cx)(r:R2):Prop :=
 ∀(value slice:Expr) (pins:List (Addr×Obj)) (s:Vw) (σ:St) (H:Hp) (x y:V) (v u:Vv) (Q:VK),Inv X pins σ H s->RelV x v->RelV y u->r x y H Q ->
  subscripted slice false v u=operate [v,u] (Y5 v u)->VU (model X.prog X.w) X.A (Y9 value slice v u) (EP X pins σ Q) X.xe s
def Q5 (X:Cx)(id:String)(r:V->List V->Hp->VK->Prop):Prop :=
 ∀(pins:List (Addr×Obj)) (s:Vw) (σ:St) (H:Hp) (x:V) (xs:List V) (v:Vv) (us:List Vv) (Q:VK),Inv X pins σ H s->RelV x v->Vals xs us->r x xs H Q ->
  VU (model X.prog X.w) X.A (call (.builtin id) (v::us)) (EP X pins σ Q) X.xe s
section
variable {X:Cx}{a b:Expr}{ta tb:TE}{pos:Pos}
theorem jB {r:R2}(hr:Fw X r)(ha:PE X a ta)(hb:PE X b tb)(hs:lX b):PE X (.Subscript a b pos) (Kr r ta tb):=by
 intro pins s σ H Q I h;exact Z5 (JH ha hb I h λv u s2 x y H2 I2 rx ry q=>hr a b pins s2 σ H2 x y v u Q I2 rx ry q (hs _ _))
def KI (K:PySem.W.Frag):R2:=λx y H Q=>∃p xs i v,x=.ref p/\y=.int i/\eE K H p xs/\qM xs i=some v/\Q v H
def KH (K:PySem.W.Frag):R2:=λx y H Q=>∃p xs i v,x=.ref p/\y=.int i/\lr K H p xs/\qM xs i=some v/\Q v H
theorem fA:Fw X (KI X.K):=by
 intro value slice pins s σ H x y v u Q I rx ry h hs;obtain⟨p,xs,i,z,rfl,rfl,hq,he,q⟩:=h;cases rx;obtain⟨t,rfl⟩:=ry;obtain⟨its,r,pl,hz⟩:=I.list hq;obtain⟨j,h1,h2,h3,h4,h5⟩:=wL he;obtain⟨w,ew,yH⟩:=r.get h2;have hl:=r.length;have hn:=mR;have fin:EP X pins σ Q w s:=⟨z,H,I,yH,q⟩
 by_cases h0:0<=i
 ·have hj:i.toNat=j:=by
   rw[seqIndex_of h0 h5]at h1;exact V5 h1
  exact item_listR pl.isList h0 (by lia) (by rw[hj];simpa using ew) fin hs
 ·have hj:(i+(its.toArray.size:Int)).toNat=j:=by
   rw[seqIndex_neg (by lia) h4]at h1
   rw[VO,<- hl];exact V5 h1
  exact subscriptTail_builtinR (x:=w) pl.isList.typeIs Yu.lookup
   (wpAny_getItem_list_neg (Q:=λr s'=>r=w/\EP X pins σ Q r s') pl.isList (by lia) (by rw[VO] <;> lia) (by lia) (by rw[hj];simpa using ew) ⟨rfl,fin⟩) hs
theorem Bi:Fw X (KH X.K):=by
 intro value slice pins s σ H x y v u Q I rx ry h hs;obtain⟨p,xs,i,z,rfl,rfl,hq,he,q⟩:=h;cases rx;obtain⟨t,rfl⟩:=ry;obtain⟨its,r,pl,hz⟩:=I.tuple hq;obtain⟨j,h1,h2,h3,h4,h5⟩:=wL he;obtain⟨w,ew,yH⟩:=r.get h2;have hl:=r.length;have hn:=mR;have fin:EP X pins σ Q w s:=⟨z,H,I,yH,q⟩;exact subscriptTail_builtinR (x:=w) pl.typeIs slot_tuple_getitem.lookup
  (getItem_tuple (j:=j) (Q:=λr s'=>r=w/\EP X pins σ Q r s') pl (by lia) (by lia) (by rw[VO,<- hl];exact h1) (by simpa using ew) ⟨rfl,fin⟩) hs
theorem uy (its:List Vv)(n j:Nat)(u:Vv):Ze (·.setIfInBounds j u) {cls:=.type "list",data:=.seq its.toArray n}={cls:=.type "list",data:=.seq (its.set j u).toArray n}:=by
 simp[Ze]
theorem Inv.lst {pins:List (Addr×Obj)}{σ:St}{H:Hp}{s:Vw}{p:Addr}{xs:List V}(I:Inv X pins σ H s)(h:H p=some (.lst xs)):
  ∃(its:List Vv) (n:Nat),Vals xs its/\s.heap.get? p=some {cls:=.type "list",data:=.seq its.toArray n}/\xs.length<=VH:=by
 obtain⟨z,its,n,r,e⟩:=I.a6 p _ h;exact⟨its,n,r,e,z⟩
theorem Inv.H_ {pins:List (Addr×Obj)}{σ:St}{H:Hp}{s:Vw}{p:Addr}{xs ys:List V}{its its':List Vv}{n n':Nat}{f:Obj->Obj}(I:Inv X pins σ H s)(h:H p=some (.lst xs))
  (ho:s.heap.get? p=some {cls:=.type "list",data:=.seq its.toArray n}) (hf:f {cls:=.type "list",data:=.seq its.toArray n}={cls:=.type "list",data:=.seq its'.toArray n'}) (r:Vals ys its') (hz:ys.length<=VH) (t:Nat) :
  Inv X pins σ (upd H p (.lst ys)) {s with heap:=s.heap.update p f,toks:=t}:=by
 have e:(s.heap.update p f).get? p=some {cls:=.type "list",data:=.seq its'.toArray n'}:=by
  rw[Heap.get?_update_self f ho (by rw[hf] <;> rfl),hf]
 refine I.write (x:=p) (e:=p) (by rw[h];trivial) (.inl rfl) (λb u hb q=>(Heap.get?_update_other _ _ (Xg hb)).trans q) ⟨_,e⟩ ?_
 exact⟨hz,its',n',r,e⟩
def KG:V->V->V->Hp->(Hp->Prop)->Prop:=λo i v H Q=>∃p xs k j,o=.ref p/\i=.int k/\H p=some (.lst xs)/\yb xs.length k=some j/\Q (upd H p (.lst (xs.set j v)))
theorem set_list:Nf X KG:=by
 intro pins s σ H o i v ov iv u Q I ro ri rv h;obtain⟨p,xs,k,j,rfl,rfl,hp,hj,q⟩:=h;cases ro;obtain⟨t,rfl⟩:=ri;obtain⟨its,n,r,ho,hz⟩:=I.lst hp;obtain⟨h1,h2,h3,h4⟩:=vX hj;have hl:=r.length;have hn:=mR;have I':Inv X pins σ (upd H p (.lst (xs.set j v))) {s with heap:=s.heap.update p (Ze (·.setIfInBounds j u))} :=
  I.H_ hp ho (uy its n j u) (r.set rv j) (by rw[List.length_set];exact hz) s.toks
 by_cases h0:0<=k
 ·have hk:k.toNat=j:=by
   rw[seqIndex_of h0 h4]at h1;exact V5 h1
  exact PySem.W.ki_setAt ho h0 (by lia) (by rw[VO,<- hl];exact h4) (by rw[hk];exact⟨_,I',q⟩)
 ·have hk:(k+(its.toArray.size:Int)).toNat=j:=by
   rw[seqIndex_neg (by lia) h3]at h1
   rw[VO,<- hl];exact V5 h1
  exact PySem.W.ki_setBack ho (by lia) (by rw[VO,<- hl];exact h3) (by lia) (by rw[hk];exact⟨_,I',q⟩)
theorem pQ (lo hi:Option Int)(n:Nat):(Xp lo hi none n).1=((HT.k6 n 0 lo:Nat):Int)/\(Xp lo hi none n).2.1=((HT.k6 n n hi:Nat):Int)/\(Xp lo hi none n).2.2=1:=by
 refine⟨?_,?_,rfl⟩
 ·cases lo with
  |none=>simp[Xp,HT.k6]
  |some i =>
   simp only[Xp,HT.k6,Option.getD_none,show (1:Int)>0 by decide,if_true]
   by_cases h:i<0
   ·simp only[h,if_true] <;> lia
   ·simp only[h,if_false] <;> lia
 ·cases hi with
  |none=>simp[Xp,HT.k6]
  |some i =>
   simp only[Xp,HT.k6,Option.getD_none,show (1:Int)>0 by decide,if_true]
   by_cases h:i<0
   ·simp only[h,if_true] <;> lia
   ·simp only[h,if_false] <;> lia
theorem nR (its:List Vv)(lo hi:Option Int):slicePick its.toArray lo hi none=((its.drop (HT.k6 its.length 0 lo)).take (HT.k6 its.length its.length hi-HT.k6 its.length 0 lo)).toArray:=by
 obtain⟨h1,h2,h3⟩:=pQ lo hi its.toArray.size;unfold slicePick;rw[h1,h2,h3];simp only[sliceRange_one,pick_run,VO] <;> rfl
def OK (K:PySem.W.Frag):V->Option Int->Option Int->Hp->VK->Prop:=λx lo hi H Q=>∃a xs,x=.ref a/\eE K H a xs/\∀p,H p=none->Q (.ref p) (upd H p (.lst (sY xs lo hi)))
theorem vp:QY X (OK X.K):=by
 intro pins s σ H x v vl vu lo hi sl Q I rx hs pl pu h;obtain⟨a,xs,rfl,hx,q⟩:=h;cases rx;obtain⟨its,r,ht,hz⟩:=I.list hx;have hlen:=r.length;refine⟨"list",_,Yu.lookup,ht.isList.typeIs,?_⟩;refine YA ht.isList hs pl pu .none (by simp) ?_ (by rw[VO] <;> lia)
 rw[nR,<- hlen];refine⟨.ref s.heap.objs.size,_,I.laid (t':=s.toks) (o:=.lst (sY xs lo hi)) (λb ob q=>Vx _ q) (VA _) ?_,rfl,q _ (I.a6.fresh (VA _))⟩;exact⟨Wc (sX xs lo hi) hz,_,0,(r.drop (HT.k6 xs.length 0 lo)).take (HT.k6 xs.length xs.length hi-HT.k6 xs.length 0 lo),VT _ rfl⟩
theorem j5:eY X (.builtin "len") (λxs H Q=>∃p ys,xs=[.ref p]/\(eE X.K H p ys\/lr X.K H p ys)/\Q (.int ys.length) H):=by
 intro pins s σ H xs us Q I r h;obtain⟨p,ys,rfl,hq,q⟩:=h;obtain⟨u,rfl,rx⟩:=vals1 r;cases rx;have hn:=mR;rcases hq with hq|hq
 ·obtain⟨its,r',pl,hz⟩:=I.list hq;have hlen:=r'.length;exact Calls.call_len_list pl.isList (by simp only[VO] <;> lia) ⟨.int ys.length,H,I.tok _,⟨s.toks+1,by rw[VO,hlen]⟩,q⟩
 ·obtain⟨its,r',pl,hz⟩:=I.tuple hq;have hlen:=r'.length;exact len_tuple pl (by simp only[VO] <;> lia) ⟨.int ys.length,H,I.tok _,⟨s.toks+1,by rw[VO,hlen]⟩,q⟩
theorem j4:eY X (.type "list") (λxs H Q=>∃p ys,xs=[.ref p]/\(eE X.K H p ys\/lr X.K H p ys)/\∀l,H l=none->Q (.ref l) (upd H l (.lst ys))):=by
 intro pins s σ H xs us Q I r h;obtain⟨p,ys,rfl,hq,q⟩:=h;obtain⟨u,rfl,rx⟩:=vals1 r;cases rx;have fin:∀(its:List Vv),Vals ys its->ys.length<=VH->∀(h':Heap) (c':Nat),(∀b o',s.heap.get? b=some o'->h'.get? b=some o') ->
   h'.get? s.heap.objs.size=some {cls:=.type "list",dict:=none,data:=.seq its.toArray c',slots:=#[]}->EP X pins σ Q (.ref s.heap.objs.size) {s with heap:=h'}:=λits r' hz h' c' kp e =>
  ⟨.ref s.heap.objs.size,_,I.laid (t':=s.toks) kp (VA _) (show bp X.prog X.w _ h' _ (.lst ys) from ⟨hz,its,c',r',e⟩),rfl,q _ (I.a6.fresh (VA _))⟩
 rcases hq with hq|hq
 ·obtain⟨its,r',pl,hz⟩:=I.list hq;have hlen:=r'.length;obtain⟨o,ho,hc,n,hd⟩:=pl.isList;exact call_list_seq p (.inl rfl) ho hc hd (λh' c' kp e=>fin its r' hz h' c' kp e) (by simp only[VO] <;> lia)
 ·obtain⟨its,r',pl,hz⟩:=I.tuple hq;have hlen:=r'.length;obtain⟨o,ho,hc,n,hd⟩:=pl;exact call_list_seq p (.inr rfl) ho hc hd (λh' c' kp e=>fin its r' hz h' c' kp e) (by simp only[VO] <;> lia)
def Nt (K:PySem.W.Frag)(T:String)(x:V)(H:Hp):Prop:=match x with
 |.str _=>T="str"
 |.int _=>T="int"
 |.ref p=>(T="list" /\ ∃xs,eE K H p xs)\/(T="tuple" /\ ∃o,K.lookup p=some o/\o.cls=.type "tuple" /\ o.dict=none) \/
   (T="dict" /\ ((∃kvs,H p=some (.dK kvs))\/∃kvs,H p=some (.dT kvs)))\/(T="set" /\ ∃S n,H p=some (.set S n))
 |_=>False
theorem zi {pins:List (Addr×Obj)}{σ:St}{H:Hp}{s:Vw}{T:String}{x:V}{v:Vv}(I:Inv X pins σ H s)(r:RelV x v)(ty:Nt X.K T x H):
  s.TypeIs v T/\∀a,v=.ref a->∃ob,s.heap.get? a=some ob/\ob.dict=none:=by
 cases x with
 |str z =>
  obtain⟨t,rfl⟩:=r;cases (show T="str" from ty)
  exact⟨typeIs_str s z t,λ_ e=>nomatch e⟩
 |int i =>
  obtain⟨t,rfl⟩:=r;cases (show T="int" from ty)
  exact⟨typeIs_int s i t,λ_ e=>nomatch e⟩
 |ref p =>
  cases r;rcases ty with⟨rfl,xs,hq⟩|⟨rfl,o,hk,hc,hd⟩|⟨rfl,hk⟩|⟨rfl,S,n,hk⟩
  ·obtain⟨its,_,pl,_⟩:=I.list hq;refine⟨pl.isList.typeIs,λa e=>?_⟩;cases e;obtain⟨o,n,e,c,hd,_⟩:=pl;exact⟨o,e,hd⟩
  ·refine⟨⟨o,I.ya p o hk,hc⟩,λa e=>?_⟩;cases e;exact⟨o,I.ya _ o hk,hd⟩
  ·have z:∃o,s.heap.get? p=some o/\o.ExactDict:=by
    rcases hk with⟨kvs,hk⟩|⟨kvs,hk⟩
    ·obtain⟨_,_,_,_,o,_,_,e,ex,_⟩:=I.a6 p _ hk;exact⟨o,e,ex⟩
    ·obtain⟨_,_,_,_,o,_,_,e,ex,_⟩:=I.a6 p _ hk;exact⟨o,e,ex⟩
   obtain⟨o,e,ex⟩:=z;refine⟨⟨o,e,ex.1⟩,λa e2=>?_⟩;cases e2;exact⟨o,e,ex.2.1⟩
  ·obtain⟨o,_,_,_,e,ex,_⟩:=I.a6 p _ hk;refine⟨⟨o,e,ex.1⟩,λa e2=>?_⟩;cases e2;exact⟨o,e,ex.2.1⟩
 |_=>exact WJ ty
def Oz (K:PySem.W.Frag)(T:String)(r:V->List V->Hp->VK->Prop)(to:TE):TE:=λσ H Q=>to σ H λx H1=>Nt K T x H1/\r x [] H1 Q
def SE (K:PySem.W.Frag)(T:String)(r:V->List V->Hp->VK->Prop)(to:TE)(t:TA):TE:=λσ H Q=>to σ H λx H1=>Nt K T x H1/\t σ H1 λxs H2=>r x xs H2 Q
variable {o e:Expr}{es:List Expr}{to:TE}{t:TA}{name:Str}{apos cpos:Pos}{T id:String}{r:V->List V->Hp->VK->Prop}
theorem Ah (pa:PlainAttrs T) (slot:Slot T name id) (Pt:typeOf (.builtin id)=pure (.type "method_descriptor")) (hm:Q5 X id r) (ho:PE X o to)
  (eT:Xz o name X.env (eval o X.env)=eval o X.env:=by rfl) (eS:(apos.endLine==cpos.line)=true:=by rfl):PE X (.Call (.Attribute o name apos) [] [] cpos) (Oz X.K T r to):=by
 intro pins s σ H Q I h;refine wpAny_Call_method0_late eT eS (bt (ho pins s σ H _ I h) λv s1 ⟨x,H1,I1,r1,ty,q1⟩=>?_);obtain⟨h1,h2⟩:=zi I1 r1 ty;exact⟨T,id,pa,slot,Pt,h1,h2,Calls.callWith_builtin rfl (PySem.evalArgs_none (hm pins s1 σ H1 x [] v [] Q I1 r1 .nil q1))⟩
theorem vK (pa:PlainAttrs T) (slot:Slot T name id) (Pt:typeOf (.builtin id)=pure (.type "method_descriptor")) (hm:Q5 X id r) (ho:PE X o to) (ha:PA X (e::es) t)
  (eT:Xz o name X.env (eval o X.env)=eval o X.env:=by rfl)
  (qq:((WR cpos (VE (e::es) X.env)).all (λx=>!x.1)&&(Z3 cpos (YX [] X.env)).all (λx=>x.1.isSome)
   && decide ((e::es).length+([]:List Yy).length+(if ([]:List Yy).isEmpty then 0 else 1)<30))=true:=by rfl)
  (eS:(apos.endLine==cpos.line)=true:=by rfl) (hs:VE (e::es) X.env=(false,eval e X.env)::VE es X.env:=by rfl) (gq:(WR cpos (VE es X.env)).any (·.1)=false:=by rfl) :
  PE X (.Call (.Attribute o name apos) (e::es) [] cpos) (SE X.K T r to t):=by
 intro pins s σ H Q I h;refine wpAny_Call_method_late eT qq eS rfl (bt (ho pins s σ H _ I h) λv s1 ⟨x,H1,I1,r1,ty,q1⟩=>?_);obtain⟨h1,h2⟩:=zi I1 r1 ty;refine⟨T,id,pa,slot,Pt,h1,h2,?_⟩;have hA:=ha cpos pins s1 σ H1 _ I1 q1;rw[hs]at hA ⊢
 refine Calls.callWith_builtin (by show (false || (WR cpos (VE es X.env)).any (·.1))=false;rw[gq] <;> rfl) (Calls.evalArgs_plain ?_)
 exact bt hA λus s2 ⟨vs,H2,I2,r2,q2⟩=>hm pins s2 σ H2 x vs v us Q I2 r1 r2 q2
end
def N7 (X:Cx)(id:String)(r:V->List V->Hp->VK->Prop):Prop :=
 ∀(pins:List (Addr×Obj)) (s:Vw) (σ:St) (H:Hp) (x:V) (xs:List V) (v:Vv) (us:List Vv) (Q:VK),Inv X pins σ H s->RelV x v->Vals xs us->r x xs H Q ->
  VU (model X.prog X.w) X.A (call (.builtin id) (v::us)) (EP X pins σ Q) X.xe s
theorem Vals.one:∀{x:V} {us:List Vv},Vals [x] us->∃u,us=[u]/\RelV x u
 |_,_,.cons r .nil=>⟨_,rfl,r⟩
theorem Vals.zero:∀{us:List Vv},Vals [] us->us=[]
 |_,.nil=>rfl
theorem Vals.dropLast {xs:List V}{us:List Vv}(h:Vals xs us):Vals xs.dropLast us.dropLast:=by
 induction h with
 |nil=>exact .nil
 |cons r t ih =>
  cases t with
  |nil=>exact .nil
  |cons q t'=>exact .cons r ih
theorem Vals.eraseIdx:∀{xs:List V} {us:List Vv} (i:Nat),Vals xs us->Vals (xs.eraseIdx i) (us.eraseIdx i)
 |_,_,_,.nil=>.nil
 |_,_,0,.cons _ t=>t
 |_,_,i+1,.cons r t=>.cons r (Vals.eraseIdx i t)
theorem uS {α:Type}(l:List α):l.eraseIdx (l.length-1)=l.dropLast:=by
 induction l with
 |nil=>rfl
 |cons a r ih =>
  cases r with
  |nil=>rfl
  |cons b r =>
   have e:(a::b::r).length-1=((b::r).length-1)+1:=by
    have h1:(a::b::r).length=r.length+2:=rfl;have h2:(b::r).length=r.length+1:=rfl;lia
   rw[e,List.eraseIdx_cons_succ,ih]
   all_goals rfl
theorem oJ {α:Type}:∀(l:List α) (i:Nat),(l.eraseIdx i).length<=l.length
 |[],_=>VA _
 |_::_,0=>Nat.le_succ _
 |_::r,i+1=>Nat.succ_le_succ (oJ r i)
section
variable {X:Cx}{pins:List (Addr×Obj)}{σ:St}{H:Hp}{s:Vw}{l:Addr}{xs ys:List V}
theorem Inv.Em {its its':List Vv}{n:Nat}{f:Array Vv->Array Vv}{t':Nat}(I:Inv X pins σ H s)(hH:H l=some (.lst xs))
  (e:s.heap.get? l=some {cls:=.type "list",data:=.seq its.toArray n}) (hf:f its.toArray=its'.toArray) (hv:Vals ys its') (hz:ys.length<=VH) :
  Inv X pins σ (upd H l (.lst ys)) {s with heap:=s.heap.update l (Ze f),toks:=t'}:=by
 have q:=PySem.IsL.update e f;rw[hf]at q;refine I.write (x:=l) (e:=l) (by rw[hH];exact trivial) (.inl rfl) (λb' u hb hu=>(Heap.get?_update_other s.heap (Ze f) (Xg hb)).trans hu) ⟨_,q⟩ ?_
 exact⟨hz,its',_,hv,q⟩
theorem Inv.Ly {its:List Vv}{t':Nat}(I:Inv X pins σ H s)(hv:Vals ys its)(hz:ys.length<=VH):
  Inv X pins σ (upd H s.heap.objs.size (.lst ys)) {s with heap:=s.heap.push {cls:=.type "list",data:=.seq its.toArray},toks:=t'} :=
 I.laid (λ_ _ q=>Vx _ q) (VA _) ⟨hz,its,0,hv,VT _ rfl⟩
theorem Inv.fresh (I:Inv X pins σ H s):H s.heap.objs.size=none:=I.a6.fresh (VA _)
theorem Inv.uz (I:Inv X pins σ H s)(hH:H l=some (.lst xs)):xs.length<=VH/\∃(its:List Vv) (n:Nat),Vals xs its/\xs.length=its.length/\s.heap.get? l=some {cls:=.type "list",data:=.seq its.toArray n}:=by
 obtain⟨z,its,n,r,e⟩:=I.a6 l _ hH;exact⟨z,its,n,r,r.length,e⟩
theorem AR {n:Nat}(h:n<=VH):YG n=false:=by
 unfold YG;exact decide_eq_false (by lia)
end
section
variable {X:Cx}
def vy:V->List V->Hp->VK->Prop:=λx vs H Q=>∃l xs y,x=.ref l/\vs=[y]/\H l=some (.lst xs)/\xs.length<VH/\Q .cU (upd H l (.lst (xs++[y])))
theorem kJ:N7 X "list.append" vy:=by
 intro pins s σ H x vs v us Q I rx rv h;obtain⟨l,xs,y,rfl,rfl,hH,hz,q⟩:=h;cases rx;obtain⟨u,rfl,ru⟩:=rv.one;obtain⟨z,its,n,r,hl,e⟩:=I.uz hH;refine Z0 F.slot_list_append ⟨_,e,rfl⟩ F.entry_list_append (F.args_list_append_2 _ _) (PySem.list_append l its.toArray n u (by rw[VO];lia)) ⟨e,?_⟩
 refine⟨.cU,_,I.Em (its':=its++[u]) hH e (by simp) (r.append (.cons ru .nil)) ?_,rfl,q⟩
 rw[VV,YU];lia
def Dk:V->List V->Hp->VK->Prop:=λx vs H Q=>∃l b xs zs,x=.ref l/\vs=[.ref b]/\H l=some (.lst xs)/\H b=some (.lst zs)/\xs.length+zs.length<=VH/\Q .cU (upd H l (.lst (xs++zs)))
theorem xR:N7 X "list.extend" Dk:=by
 intro pins s σ H x vs v us Q I rx rv h;obtain⟨l,b,xs,zs,rfl,rfl,hH,hB,hz,q⟩:=h;cases rx;obtain⟨u,rfl,ru⟩:=rv.one;cases ru;obtain⟨z,its,n,r,hl,e⟩:=I.uz hH;obtain⟨z2,uD,n2,r2,RZ,e2⟩:=I.uz hB;have hsz:its.toArray.size+uD.toArray.size<=VH:=by rw[VO,VO];lia
 have MJ:¬ (!its.toArray.isEmpty&&YG (its.toArray.size+uD.toArray.size))=true:=by
  rw[AR hsz,Bool.and_false];exact Yq
 refine Z0 F.slot_list_extend ⟨_,e,rfl⟩ F.entry_list_extend (F.args_list_extend_2 _ _)
  (AutoSeq1.list_extend_list_list_0 l its.toArray n b uD.toArray n2 MJ (by rw[VO];lia) (by lia)) ⟨e,e2,?_⟩
 refine⟨.cU,_,I.Em (its':=its++uD) hH e (by simp) (r.append r2) ?_,rfl,q⟩
 rw[VV];lia
def OL:V->List V->Hp->VK->Prop:=λx vs H Q=>∃l xs y,x=.ref l/\vs=[]/\H l=some (.lst xs)/\xs[xs.length-1]?=some y/\Q y (upd H l (.lst xs.dropLast))
theorem HX:N7 X "list.pop" OL:=by
 intro pins s σ H x vs v us Q I rx rv h;obtain⟨l,xs,y,rfl,rfl,hH,hy,q⟩:=h;cases rx;have ID:=rv.zero;subst ID;obtain⟨z,its,n,r,hl,e⟩:=I.uz hH;obtain⟨u,hu,ru⟩:=r.get hy;have Tw:its.toArray[its.toArray.size-1]?=some u:=by
  show its.toArray[its.length-1]?=some u;rw[<- Wm,<- hl];exact hu
 refine Z0 F.slot_list_pop ⟨_,e,rfl⟩ F.entry_list_pop (F.args_list_pop_1 _) (MeetsSeq.list_pop_last l its.toArray n u Tw (by rw[VO];lia)) ⟨e,?_⟩
 refine⟨y,_,I.Em (its':=its.dropLast) hH e ?_ r.dropLast ?_,ru,q⟩
 ·show its.toArray.eraseIdxIfInBounds (its.toArray.size-1)=its.dropLast.toArray;rw[VO,Zv,uS]
 ·rw[List.length_dropLast];lia
def GY:V->List V->Hp->VK->Prop:=λx vs H Q=>∃l xs i k y,x=.ref l/\vs=[.int i]/\H l=some (.lst xs)/\-(2 ^ 63)<=i/\i<2 ^ 63/\Zz i xs.length=some k/\xs[k]?=some y/\Q y (upd H l (.lst (xs.eraseIdx k)))
theorem AY:N7 X "list.pop" GY:=by
 intro pins s σ H x vs v us Q I rx rv h;obtain⟨l,xs,i,k,y,rfl,rfl,hH,h1,h2,hk,hy,q⟩:=h;cases rx;obtain⟨u,rfl,ru⟩:=rv.one;obtain⟨t,rfl⟩:=ru;obtain⟨z,its,n,r,hl,e⟩:=I.uz hH;obtain⟨w,hw,yH⟩:=r.get hy;refine Z0 F.slot_list_pop ⟨_,e,rfl⟩ F.entry_list_pop (F.args_list_pop_2 _ _)
  (MeetsSeq.list_pop_at l its.toArray n i t k w (fitsIndex_both h1 h2) (by rw[VO,<- hl];exact hk) (by rw[<- Wm];exact hw) (by rw[VO];lia)) ⟨e,?_⟩
 refine⟨y,_,I.Em (its':=its.eraseIdx k) hH e ?_ (r.eraseIdx k) ?_,yH,q⟩
 ·show its.toArray.eraseIdxIfInBounds k=(its.eraseIdx k).toArray;rw[Zv]
 ·have:=oJ xs k;lia
def OO:R2:=λx y H Q=>∃l b xs zs,x=.ref l/\y=.ref b/\H l=some (.lst xs)/\H b=some (.lst zs)/\xs.length+zs.length<=VH/\∀p,H p=none->Q (.ref p) (upd H p (.lst (xs++zs)))
theorem Az:j8 X (Xv .Add) OO:=by
 intro pins s σ H x y v u Q I rx ry h;obtain⟨l,b,xs,zs,rfl,rfl,hH,hB,hz,q⟩:=h;cases rx;cases ry;obtain⟨z,its,n,r,hl,e⟩:=I.uz hH;obtain⟨z2,uD,n2,r2,RZ,e2⟩:=I.uz hB;refine PySem.P.add_list e e2 ?_ (by rw[VO,VO];lia)
 have ea:its.toArray++uD.toArray=(its++uD).toArray:=by simp
 rw[ea];exact⟨.ref _,_,I.Ly (t':=s.toks) (r.append r2) (by rw[VV];lia),rfl,q _ I.fresh⟩
end
section
end
section
end
end L2
namespace So
open PySem PySem.W PySem.Calls PyProof.Rows
theorem lA {P:YZ}{h:Heap}:∀(ns:List Int) (vs:List Vv),WellAll P h vs (ns.map WData.int)->X4 vs ns:=by
 intro ns
 induction ns with
 |nil =>
  intro vs w;rw[List.map_nil]at w;cases w;exact .nil
 |cons n ns ih =>
  intro vs w;rw[VM]at w;cases w with
  |cons a b =>
   cases a;exact .cons _ _ (ih _ b)
theorem xn {l:OpenLaw}{n:Nat}(hn:l.most=some n){P:YZ}{h:Heap}{args:List WData}{vals:List Vv}
  (EH:l.row.toRowW.claim.pre args=true) (Po:WellAll P h vals args) :
  ∃a vs ns,vals=[Value.ref a]/\args=[WData.list (ns.map WData.int)]/\h.get? a=some {cls:=.type "list",data:=.seq vs.toArray}/\X4 vs ns/\ns.length<=n:=by
 have TN:WShape.hasAll [] args [.list .int]=true:=(pre_splitW EH).1;have hc:l.pre.holds [] {args:=args}=true:=(pre_splitW EH).2;obtain⟨d,r,rfl,h1,h2⟩:=hasAllW_cons TN;obtain rfl:=hasAllW_nil h2;obtain⟨xs,rfl,h3⟩:=hasW_list h1;obtain⟨ns,rfl⟩:=items_int h3;have hlen:ns.length<=n:=by
  unfold OpenLaw.pre at hc;have h4:(WTm.not (.lt (.lit (.int (n:Int))) (.len (.arg 0)))).holds [] {args:=[.list (ns.map .int)]}=true:=by
   have h4:=(holds_andW hc).1;rw[hn]at h4;exact h4
  have h5:=condW_of h4 (w_not (w_lt w_lit (w_len_list (w_arg rfl))));rw[Vt]at h5;refine Nat.le_of_not_lt λq=>?_;have q':(n:Int)<((ns.length:Nat):Int):=by lia
  first
   | (rw[decide_eq_true q']at h5;exact absurd h5 (by decide))
   | (simp at h5;lia)
 cases Po with
 |cons w1 w2 =>
  cases w2;cases w1 with
  |list ho EN=>exact⟨_,_,ns,rfl,rfl,ho,lA ns _ EN,hlen⟩
theorem xx (l:OpenLaw)(args:List WData):l.row.toRowW.claim.post args (.bool true) args=true :=
 postW_of (r:=l.row.toRowW) (X:=(true==true))
  (show WShape.has [] (.bool true) .bool=true by first|rfl|decide|simp[WShape.has,WShape.arms,WShape.armsAll])
  (show (WTm.eq .res (.lit (.bool true))).value [] {args:=args,res:=some (.bool true),after:=args}=some (.bool (true==true)) from w_eq_bool (w_res rfl) w_lit) rfl
theorem tu {l:OpenLaw}{n:Nat}{q:Vz}{loose:List Str}{XP:(Str->Option Vv)->Heap->Prop}{YP:VG->Heap->Prop}{d:DefRec}
  (hn:l.most=some n) (Qr:d.params.defaults=[])
  (call:∀(w:VG) (s₀ s₁:Vw) (mg mb:Str->Option Vv) (fa:Addr) (o:Obj) (pm cd doc:Vv) (a:Addr) (vs:List Vv) (ns:List Int),
   Ground q loose [] XP w s₀ mg mb s₁.heap->YP w s₁.heap ->
   s₁.heap.get? fa=some o->o.data=.func (docDef d.name d.params d.body d.scope pm cd doc)->s₁.heap.CodeRec cd d.name->mg d.name=some (.ref fa) ->
   s₁.heap.get? a=some {cls:=.type "list",data:=.seq vs.toArray}->X4 vs ns->ns.length<=n->s₁.gens=#[] ->
   X9 (model l.prog w) Zm (.call (.ref fa) ⟨[.ref a],[]⟩) (λr s'=>r=.ok (.ret (.bool true))/\OldK s₁.heap s'.heap/\s'.os=s₁.os/\Yz s'.gens) s₁) :
  WalkO q loose XP YP l.row.toRowW d [] (λf vs=>PySem.call f vs):=by
 intro w s₀ s₁ mg mb G Y fa o pm cd doc dV kV ho hd v_ hD Qc hg args vals as EH T4 RT Po Vj;obtain rfl:dV=.none:=Dflts.none hD Qr;obtain rfl:kV=.none:=Dflts.noKw hD;obtain⟨a,vs,ns,rfl,rfl,IT,hints,hlen⟩:=xn hn EH Po;refine enter_call (Xa (call w s₀ s₁ mg mb fa o pm cd doc a vs ns G Y ho (fd_plain hd) v_ Qc IT hints hlen hg) λr s' hq=>?_);obtain⟨rfl,h2,h3,h4⟩:=hq;exact⟨.inl ⟨.bool true,.bool true,[],rfl,λ_=>rfl,.bool true,xx l _,λ_=>⟨List.Pairwise.nil,λ_ hm=>(nomatch hm)⟩⟩,h2,h3,h4⟩
section
end
end So
namespace L2
open PySem PySem.Spec PyProof.Rows
theorem ot:∀{vs:List Vv} {ns:List Int},X4 vs ns->Vals (ns.map V.int) vs
 |_,_,.nil=>.nil
 |_,_,.cons n t h=>.cons ⟨t,rfl⟩ (ot h)
def JK (H:Hp):Prop:=∀b,H b=none\/∃o xs,H b=some (.wb o (.lst xs))
theorem Bc {P:Vz}{w:VG}{K:PySem.W.Frag}{mg mb:Str->Option Vv}{CX:yZ}{k:Nat}{fa a:Addr}{fd:VW}{x:Str}{sp:Sp}{s₁:Vw}{vs:List Vv}{ns:List Int}
  (KX:K.In s₁.heap) (NR:s₁.heap.Ns WZ mg) (hb:s₁.heap.Ns builtinsNs mb) (Ud:∀x:Str,x≠"__name__" -> mb x=Wq x) (Qf:s₁.heap.NoLimit) (hg:s₁.gens=#[])
  (ha:s₁.heap.get? a=some {cls:=.type "list",data:=.seq vs.toArray}) (hi:X4 vs ns) (hl:ns.length<=VH) (hr:cS k Zm)
  (F:∀base:Heap,K.In base->base.Ns WZ mg->aB P w K mg base CX k fa fd [x] sp) (MT:∀(s:Vw) (u:Vv),ZV s fd ⟨[u],[]⟩ [(x,u)])
  (iE:∀H:Hp,JK H->eE K H a (ns.map V.int)->sp [.ref a] H (λv _=>v=.bl true) λ_ _ _=>False)
  (Qw:∀H e s',CX [] H s₁ (λ_ _ _=>False) e s'->False) :
  X9 (model P w) Zm (.call (.ref fa) ⟨[.ref a],[]⟩) (λr s'=>r=.ok (.ret (.bool true))/\OldK s₁.heap s'.heap/\s'.os=s₁.os/\Yz s'.gens) s₁:=by
 have rv:=ot hi;have Pb:=hi.length;have core:∀H:Hp,JK H->eE K H a (ns.map V.int)->gL P w H s₁.heap->(∀b,H b≠none->b=a)->(H a≠none->K.lookup a=none) ->
   X9 (model P w) Zm (.call (.ref fa) ⟨[.ref a],[]⟩) (λr s'=>r=.ok (.ret (.bool true))/\OldK s₁.heap s'.heap/\s'.os=s₁.os/\Yz s'.gens) s₁:=by
  intro H hO hS a6 hA hK;have wJ:∀{b:Addr} {o:Obj},s₁.heap.get? b=some o->H b=none->(qp s₁.heap H).get? b=some o:=λe n=>BC e n;have Li:∀{b:Addr} {o:Obj} {es:Array ZH} {ep:Nat},s₁.heap.get? b=some o->o.data=.dict es ep->H b=none:=λ{b o es ep} e d=>by
   cases q:H b with
   |none=>rfl
   |some u =>
    have e':b=a:=hA b (by rw[q];simp)
    subst e';rw[ha]at e;cases e;have d':Data.seq vs.toArray _=Data.dict es ep:=d;cases d'
  have ND:∀{b:Addr} {m:Str->Option Vv},s₁.heap.Ns b m->(qp s₁.heap H).Ns b m:=λ{b m} ⟨o,es,ep,e,d,r⟩=>⟨o,es,ep,wJ e (Li e d),d,r⟩;have R9:K.In (qp s₁.heap H):=λb o e=>wJ (KX b o e) (by
   cases q:H b with
   |none=>rfl
   |some u =>
    have e':b=a:=hA b (by rw[q];simp)
    subst e';rw[hK (by rw[q];simp)]at e;cases e)
  have hM:Mod K mg (qp s₁.heap H):=⟨R9,ND NR,⟨mb,ND hb,Ud⟩,let ⟨mc,h1,h2⟩:=Qf;⟨mc,ND h1,h2⟩⟩
  have e0:CG P w K mg (qp s₁.heap H) Zm [] s₁ H:=⟨rfl,hM,λb o e=>DV e,Nat.le_of_eq (ye _ _),trivial,λb hb=>absurd (show b∈([]:List Addr) from hb) (by simp),a6,.of_eq hg⟩
  refine Xa ((F _ R9 (ND NR)).run Zm [] s₁ H ⟨[.ref a],[]⟩ [.ref a] [.ref a] _ _ hr e0 (MT s₁ (.ref a)) (.cons rfl .nil) (iE H hO hS)) λr s' h=>?_;cases r with
  |error e=>exact(Qw H e s' h).elim
  |ok fl =>
   cases fl with
   |next=>exact WJ h
   |brk=>exact WJ h
   |cont=>exact WJ h
   |ret u =>
    obtain⟨v,H',os,bare,un,P9,r',q⟩:=h;have q':v=.bl true:=q;subst q';obtain rfl:u=Value.bool true:=r';refine⟨rfl,OldK.of_keep λb o e=>?_,os,bare⟩;cases q:H b with
    |none=>exact un.keep b o e q (by intro z;exact absurd (show b∈([]:List Addr) from z) (by simp)) (by simp)
    |some u =>
     rcases hO b with z|⟨ob,xs,z⟩
     ·rw[q]at z;cases z
     ·have z2:=un.iH b ob _ z;obtain⟨e1,_⟩:=a6 b _ z;obtain⟨e2,_⟩:=P9 b _ z2;rw[e]at e1;cases e1;exact e2
 cases hk:K.lookup a with
 |some o =>
  have e:=KX a o hk;rw[ha]at e;cases e;refine core (λ_=>none) (λ_=>.inl rfl) (.inr ⟨_,vs.toArray,_,hk,rfl,rfl,rfl,by rw[VO,Pb];exact hl,by simpa using rv⟩) (λb u z=>by have z':(none:Option HO)=some u:=z;cases z') (λb z=>absurd rfl z) λz=>absurd rfl z
 |none =>
  refine core (λb=>if b=a then some (.wb {cls:=.type "list",data:=.seq vs.toArray} (.lst (ns.map V.int))) else none) (λb=>?_) (.inl (.inr ⟨{cls:=.type "list",data:=.seq vs.toArray},if_pos rfl⟩)) (λb u z=>?_) (λb z=>?_) λ_=>hk
  ·by_cases hb:b=a
   ·exact .inr ⟨_,_,if_pos hb⟩
   ·exact .inl (if_neg hb)
  ·by_cases hb:b=a
   ·have z':=(if_pos hb).symm.trans z;cases z';subst hb;exact⟨ha,by rw[Vt];exact hl,vs,_,rv,ha⟩
   ·have z':=(if_neg hb).symm.trans z;cases z'
  ·by_cases hb:b=a
   ·exact hb
   ·exact absurd (if_neg hb) z
theorem C1 {l:PySem.W.OpenLaw}{n k:Nat}{q:Vz}{loose:List Str}{XP:(Str->Option Vv)->Heap->Prop}{YP:VG->Heap->Prop}{d:DefRec}{K:YZ->PySem.W.Frag}{CX:VG->yZ}{sp:VG->Sp}{x:Str}
  (hn:l.most=some n) (NT:n<=VH) (Qr:d.params.defaults=[]) (hr:cS k Zm)
  (hY:∀(w:VG) (h:Heap),YP w h->(K w.params).In h)
  (F:∀(w:VG) (mg:Str->Option Vv) (fa:Addr) (h:Heap),(K w.params).In h->h.Ns WZ mg->mg d.name=some (.ref fa) ->
   ∃fd:VW,(∀(s:Vw) (u:Vv),ZV s fd ⟨[u],[]⟩ [(x,u)]) /\
    ∀base:Heap,(K w.params).In base->base.Ns WZ mg->aB l.prog w (K w.params) mg base (CX w) k fa fd [x] (sp w))
  (iE:∀(w:VG) (H:Hp) (a:Addr) (ns:List Int),ns.length<=n->JK H->eE (K w.params) H a (ns.map V.int)->sp w [.ref a] H (λv _=>v=.bl true) λ_ _ _=>False)
  (Qw:∀(w:VG) (H:Hp) (s:Vw) (e:Vv) (s':Vw),CX w [] H s (λ_ _ _=>False) e s'->False) :
  PySem.W.WalkO q loose XP YP l.row.toRowW d [] (λf vs=>PySem.call f vs):=by
 refine So.tu hn Qr λw s₀ s₁ mg mb fa o pm cd doc a vs ns G Y ho hd v_ Qc IT hints hlen hg=>?_;have KX:=hY w _ Y;obtain⟨fd,hb,hF⟩:=F w mg fa _ KX G.T.g Qc;exact Bc KX G.T.g G.T.b G.T.builtins G.T.nolimit hg IT hints (Wc hlen NT) hr hF hb (λH hO hS=>iE w H a ns hlen hO hS) λH e s'=>Qw w H s₁ e s'
abbrev bE:yZ:=λ_ _ _ _ _ _=>False
abbrev E0:XK:=λ_ _ _=>False
theorem Am {X:Cx}:Passes bE X E0:=λ_ _ _ _ _ _ _ h=>h.elim
structure wO (K:PySem.W.Frag)(x qual:Str)(st:Stmt)(f:Addr)(fd:VW):Prop where
 ex:∃(oc:Vv) (od:Option Addr) (kV doc pm:Vv) (an:Option Addr) (bB ct:Vv) (DM:Array (Option Vv)),
  fd=PySem.W.fnOf x qual (lV st) (dh st) (aj st) .none kV doc pm an bB ct/\K.lookup f=some ⟨oc,od,.func fd,DM⟩/\PySem.W.codeIn K bB qual=true
 kp:PySem.W.keepIn K (.ref f)=true
section
variable {P:Vz}{w:VG}{K:PySem.W.Frag}{mg:Str->Option Vv}{base:Heap}
theorem wO.ok {x qual:Str}{st:Stmt}{f:Addr}{fd:VW}{N ps:List Str}{k:Nat}{sp:Sp}(F:wO K x qual st f fd)(S:aC N ps (aj st))(len:∀vs H Q E,sp vs H Q E->vs.length=ps.length)
  (fV:∀(bB:Vv) (A:Wv) (outer:List Env) (s:Vw) (H:Hp) (vs:List V) (Q:VK) (E:XK),cS k (A.deeper (Ye qual (aj st) s.heap.objs.size f bB))->sp vs H Q E ->
   ∃t,qE (kS bE P w K mg base N qual (aj st) f bB A outer s H E).rR (dh st) t/\t {nx:=λ_ H'=>Q .cU H',rt:=Q} (start N vs) H):aB P w K mg base bE (k+1) f fd ps sp:=by
 obtain⟨oc,od,kV,doc,pm,an,bB,ct,DM,rfl,lk,v_⟩:=F.ex;refine F_ lk v_ S len λA outer s H vs Q E hr iE=>?_;obtain⟨t,h,q⟩:=fV bB A outer s H vs Q E hr iE;exact⟨t,h.rR,q⟩
theorem Je {x qual:Str}{st:Stmt}{f:Addr}{oc:Vv}{od an:Option Addr}{DM:Array (Option Vv)}{kV doc pm bB ct:Vv}(l:K.lookup f=some ⟨oc,od,.func (PySem.W.fnOf x qual (lV st) (dh st) (aj st) .none kV doc pm an bB ct),DM⟩)
  (c:PySem.W.codeIn K bB qual=true) (k:PySem.W.keepIn K (.ref f)=true):wO K x qual st f (PySem.W.fnOf x qual (lV st) (dh st) (aj st) .none kV doc pm an bB ct):=⟨⟨oc,od,kV,doc,pm,an,bB,ct,DM,rfl,l,c⟩,k⟩
end
section
variable {X:Cx}
theorem pv (i:Nat){x:Str}{pos:Pos}(hN:X.N[i]?=some x:=by rfl)(hv:Kc X.env.scope x:=by first|exact Or.inl rfl|exact Or.inr (Or.inl rfl)|exact Or.inr (Or.inr rfl))(hd:(x==("__debug__" : Str))=false:=by decide)
  (v_:(x==("__classdict__" : Str))=false:=by decide):PE X (.Name x pos) (GB i):=z_ hN hv hd v_
end
def ay (H H':Hp):Prop:=∀b o,H b=some o->H' b=some o
theorem ay.refl (H:Hp):ay H H:=λ_ _ h=>h
theorem ay.trans {H H1 H2:Hp}(a:ay H H1)(b:ay H1 H2):ay H H2:=λc o h=>b c o (a c o h)
theorem ay.free {H H':Hp}(e:ay H H'){l:Addr}(h:H' l=Option.none):H l=Option.none:=by
 cases q:H l with
 |none=>rfl
 |some o =>
  rw[e l o q]at h;cases h
theorem ay.seq {K:PySem.W.Frag}{H H':Hp}{a:Addr}{xs:List V}(e:ay H H')(h:eE K H a xs):eE K H' a xs:=by
 rcases h with (h|⟨o,h⟩)|h
 ·exact .inl (.inl (e _ _ h))
 ·exact .inl (.inr ⟨o,e _ _ h⟩)
 ·exact .inr h
structure Nm (X:Cx)(i:Nat)(x:Str):Prop where
 a:X.N[i]?=some x
 b:Kc X.env.scope x
 c:(x==("__debug__" : Str))=false
 d:(x==("__classdict__" : Str))=false
theorem xN {X:Cx}{i:Nat}{x:Str}(a:X.N[i]?=some x:=by rfl)(b:Kc X.env.scope x:=by first|exact .inl rfl|exact .inr (.inl rfl)|exact .inr (.inr rfl))(c:(x==("__debug__" : Str))=false:=by decide)(d:(x==("__classdict__" : Str))=false:=by decide):Nm X i x:=⟨a,b,c,d⟩
theorem fT {X:Cx}{i:Nat}{x:Str}{pos:Pos}(h:Nm X i x):PE X (.Name x pos) (GB i):=z_ h.a h.b h.c h.d
section
variable {X:Cx}{a b c:Expr}{ta tb:TE}{pos:Pos}
def tL (i j:Int):Prop:=0<j/\j.natAbs.log2<9000
theorem tL.of {i j:Int}(h0:0<j)(h:j<2 ^ 200):tL i j:=by
 refine⟨h0,?_⟩;have h2:j.natAbs<2 ^ 200:=by lia
 have:=(Nat.log2_lt (n:=j.natAbs) (k:=200) (by lia)).mpr h2
 lia
theorem rQ:j8 X (Xv .FloorDiv) (rI tL λi j=>.int (i / j)):=NC λi j _ _ _ _ _ hc q=>by
 have h1:(0:Int)<j:=hc.1;exact floordiv_int (by lia) (by rw[Int.fdiv_eq_ediv_of_nonneg i (by lia)];exact q) (.inl (PyProof.noPylong_of_log2 hc.2))
def Gn (X:Cx)(ops:List Yd)(rs:List Expr)(t:V->TE):Prop :=
 ∀(pos:Pos) (pins:List (Addr×Obj)) (s:Vw) (σ:St) (H:Hp) (x:V) (v:Vv) (Q:VK),Inv X pins σ H s->RelV x v->t x σ H Q ->
  VU (model X.prog X.w) X.A (compareChain pos v ops (evalEach rs X.env)) (EP X pins σ Q) X.xe s
def tG (X:Cx)(ops:List Yd)(rs:List Expr)(t:V->TT):Prop :=
 ∀(pos:Pos) (pins:List (Addr×Obj)) (s:Vw) (σ:St) (H:Hp) (x:V) (v:Vv) (Q:Bool->Hp->Prop),Inv X pins σ H s->RelV x v->t x σ H Q ->
  VU (model X.prog X.w) X.A (testChain pos v ops (evalEach rs X.env)) (TP X pins σ Q) X.xe s
variable {op HD:Yd}{ops:List Yd}{rs:List Expr}{r:R2}{t:V->TE}{tt:V->TT}
theorem Jx (ho:j8 X (Ww op) r)(hb:PE X b tb):Gn X [op] [b] (λx σ H Q=>tb σ H λy H2=>r x y H2 Q):=by
 intro pos pins s σ H x v Q I rx h;exact chain_last (bt (hb pins s σ H _ I h) λu s1 qo=>by obtain⟨y,H1,I1,r1,q1⟩:=qo;exact ho pins s1 σ H1 x y v u Q I1 rx r1 q1)
theorem Fg (ho:j8 X (Ww op) r)(hb:PE X b tb)(hc:Gn X (HD::ops) (c::rs) t):
  Gn X (op::HD::ops) (b::c::rs) (λx σ H Q=>tb σ H λy H2=>r x y H2 λz H3=>∃k,z=.bl k/\(if k=true then t y σ H3 Q else Q (.bl false) H3)):=by
 intro pos pins s σ H x v Q I rx h;refine chain_link (bt (hb pins s σ H _ I h) λu s1 ⟨y,H1,I1,r1,q1⟩=>bt (ho pins s1 σ H1 x y v u _ I1 rx r1 q1) λd s3 gn=>?_);obtain⟨z,H3,I3,r3,k,e,q3⟩:=gn;subst e;cases r3;refine W_ ?_;cases k with
 |false=>exact ite_ff ⟨.bl false,H3,I3,rfl,q3⟩
 |true=>exact ite_tt (hc pos pins s3 σ H3 y u Q I3 r1 q3)
theorem xF {eR eQ:Yd}(ha:PE X a ta)(hc:Gn X (eR::eQ::ops) (b::c::rs) t)(hm:lastMarks (eR::eQ::ops) (b::c::rs)=false:=by with_unfolding_all rfl):
  PE X (.Compare a (eR::eQ::ops) (b::c::rs) pos) (λσ H Q=>ta σ H λx H1=>t x σ H1 Q):=by
 intro pins s σ H Q I h;exact Compare_chain (bt (ha pins s σ H _ I h) λv s1 Bt=>by obtain⟨x,H1,I1,r1,q1⟩:=Bt;exact hc pos pins s1 σ H1 x v Q I1 r1 q1) hm
theorem Ff (ho:j8 X (Ww op) r)(hb:PE X b tb):tG X [op] [b] (λx σ H Q=>tb σ H λy H2=>r x y H2 λz H3=>∃k,z=.bl k/\Q k H3):=by
 intro pos pins s σ H x v Q I rx h;refine test_last (bt (hb pins s σ H _ I h) λu s1 ⟨y,H1,I1,r1,q1⟩=>bt (ho pins s1 σ H1 x y v u _ I1 rx r1 q1) λd s3 jJ=>?_);obtain⟨z,H3,I3,r3,k,e,q3⟩:=jJ;subst e;cases r3;exact W_ ⟨H3,I3,q3⟩
theorem Cg (ho:j8 X (Ww op) r)(hb:PE X b tb)(hc:tG X (HD::ops) (c::rs) tt):
  tG X (op::HD::ops) (b::c::rs) (λx σ H Q=>tb σ H λy H2=>r x y H2 λz H3=>∃k,z=.bl k/\(if k=true then tt y σ H3 Q else Q false H3)):=by
 intro pos pins s σ H x v Q I rx h;refine test_link (bt (hb pins s σ H _ I h) λu s1 ⟨y,H1,I1,r1,q1⟩=>bt (ho pins s1 σ H1 x y v u _ I1 rx r1 q1) λd s3 qm=>?_);obtain⟨z,H3,I3,r3,k,e,q3⟩:=qm;subst e;cases r3;refine W_ ?_;cases k with
 |false=>exact ite_ff ⟨H3,I3,q3⟩
 |true=>exact ite_tt (hc pos pins s3 σ H3 y u Q I3 r1 q3)
theorem xu {eR eQ:Yd}(ha:PE X a ta)(hc:tG X (eR::eQ::ops) (b::c::rs) tt)(hm:lastMarks (eR::eQ::ops) (b::c::rs)=false:=by with_unfolding_all rfl):
  PT X (.Compare a (eR::eQ::ops) (b::c::rs) pos) (λσ H Q=>ta σ H λx H1=>tt x σ H1 Q):=by
 intro pins s σ H Q I h;exact isTrue_chain (bt (ha pins s σ H _ I h) λv s1 EF=>by obtain⟨x,H1,I1,r1,q1⟩:=EF;exact hc pos pins s1 σ H1 x v Q I1 r1 q1) hm
end
theorem nH:Wq "max" = some (.builtin "max"):=by decide +kernel
theorem JD:Wq "min" = some (.builtin "min"):=by decide +kernel
theorem JF:Wq "int" = some (.type "int"):=by decide +kernel
theorem qD:Wq "list" = some (.type "list"):=by decide +kernel
theorem yA:Wq "sorted" = some (.builtin "sorted"):=by decide +kernel
theorem JE:Wq "isinstance" = some (.builtin "isinstance"):=by decide +kernel
theorem di:Wq "len" = some (.builtin "len"):=by decide +kernel
theorem LD {c A B:Prop}[Decidable c](hc:c)(h:A):if decide c=true then A else B:=by
 rw[if_pos (decide_eq_true hc)];exact h
theorem LF {c A B:Prop}[Decidable c](hc:¬ c)(h:B):if decide c=true then A else B:=by
 rw[if_neg (by simp[hc])]
 exact h
theorem Ph {c A B:Prop}[Decidable c](h1:c->A)(h2:¬ c->B):if decide c=true then A else B:=by
 by_cases h:c
 ·exact LD h (h1 h)
 ·exact LF h (h2 h)
theorem ay.new {H:Hp}{p:Addr}{o:HO}(n:H p=none):ay H (L2.upd H p o):=λb u e=>by rw[ar (cR e n)];exact e
section
end
theorem K5:ve 10 18:=⟨by decide,by decide,by decide⟩
section
theorem lS {a:Int}{b:Int}(h:0<b):0<=a % b/\a % b<b:=⟨Int.emod_nonneg a (by lia),Int.emod_lt_of_pos a h⟩
end
noncomputable def aq (X:Cx)(scope:Xw)(N':List Str)(cl:List (Str×Addr))(C:Addr)(s:Vw)(H:Hp)(ex:List Addr):Cx :=
 {X with N:=N',s₀:=s,H₀:=H,env:=compEnvC scope cl C X.env,outer:=X.stack,stack:=X.stack,ex:=ex,fn:=λ_=>false,pn:=[],xe:=λ_ _=>False}
theorem ji {env:Env}:∀(names:List (Str×Yb)) (cs:List (Str×Addr)),(∀x,(x,Wi)∈names->∃c,env.cells.lookup x=some c) ->
  (∀x c,cs.lookup x=some c->env.cells.lookup x=some c) ->
  ∃cl,(forIn names cs λ(p:Str×Yb) (cs:List (Str×Addr))=>do
   if p.2==.free then do
    let a <- cellOf env p.1
    pure (YR ((p.1,a)::cs))
   else pure (YR cs):Sem (List (Str×Addr)))=pure cl /\
   (∀x,((x,Wi)∈names\/(∃c,cs.lookup x=some c))->∃c,cl.lookup x=some c)/\∀x c,cl.lookup x=some c->env.cells.lookup x=some c
 |[],cs,_,I9=>⟨cs,rfl,λx h=>h.elim (λz=>nomatch z) id,I9⟩
 | (n,k)::names,cs,hf,I9=>by
  by_cases hk:k=.free
  ·subst hk;obtain⟨c,hc⟩:=hf n (V8 ..);obtain⟨cl,e,h1,h2⟩:=ji names ((n,c)::cs) (λx hx=>hf x (V2 _ hx)) (λx c' hx=>by
    rw[WL]at hx;cases q:x==n with
    |true=>rw[q]at hx;cases hx;rw[eq_of_beq q];exact hc
    |false=>rw[q]at hx;exact I9 x c' hx)
   refine⟨cl,?_,λx hx=>h1 x ?_,h2⟩
   ·rw[List.forIn_cons];have ec:cellOf env n=pure c:=by unfold cellOf;rw[hc]
    simp only[beq_self_eq_true,if_true,ec];exact e
   ·rcases hx with hx|⟨c',hx⟩
    ·rcases VB.mp hx with z|z
     ·cases z;exact .inr ⟨c,by simp⟩
     ·exact .inl z
    ·right
     rw[WL];cases q:x==n with
     |true=>exact⟨c,rfl⟩
     |false=>exact⟨c',hx⟩
  ·obtain⟨cl,e,h1,h2⟩:=ji names cs (λx hx=>hf x (V2 _ hx)) I9;refine⟨cl,?_,λx hx=>h1 x ?_,h2⟩
   ·rw[List.forIn_cons];have hb:(k==Wi)=false:=by simpa using hk
    simp only[hb,Bool.false_eq_true,if_false];exact e
   ·rcases hx with hx|hx
    ·rcases VB.mp hx with z|z
     ·cases z;exact absurd rfl hk
     ·exact .inl z
    ·exact .inr hx
theorem iX {env:Env}{scope:Xw}(h:∀x,(x,Wi)∈scope.names->∃c,env.cells.lookup x=some c):
  ∃cl,closureFor scope env=pure cl/\(∀x,(x,Wi)∈scope.names->∃c,cl.lookup x=some c)/\∀x c,cl.lookup x=some c->env.cells.lookup x=some c:=by
 obtain⟨cl,e,h1,h2⟩:=ji scope.names [] h (λx c z=>by simp at z)
 refine⟨cl,?_,λx hx=>h1 x (.inl hx),h2⟩;unfold closureFor;refine Eq.trans ?_ (congrArg (· >>= pure) e);rfl
structure Links (X:Cx)(scope:Xw)(N':List Str)(lk:List (Option Nat)):Prop where
 kind:scope.kind=.function
 uw:∀x∈scope.names,x.2≠.cell
 names:∀x∈scope.names,x.2=.local->scope.names.lookup x.1=some .local
 free:∀x,(x,Wi)∈scope.names->X.env.kindOf x=some .cell\/X.env.kindOf x=some .free
 len:lk.length=N'.length
 link:∀(i j:Nat),lk[i]?=some (some j)->∃x,N'[i]?=some x/\X.N[j]?=some x/\(x,Wi)∈scope.names/\scope.names.lookup x=some .free
noncomputable def fH (outer:List (Str×Yb))(N:List Str)(scope:Xw)(N':List Str)(lk:List (Option Nat)):Bool :=
 (scope.kind==.function)&&scope.names.all (λx=>x.2 != .cell&&(x.2 != .local || scope.names.lookup x.1==some .local)&&(x.2 != .free || outer.lookup x.1==some .cell || outer.lookup x.1==some .free)) &&
 lk.length==N'.length&&(VF lk.length).all λi=>match lk[i]? with
  |some (some j)=>match N'[i]? with
   |some x=>N[j]?==some x&&scope.names.contains (x,.free)&&scope.names.lookup x==some .free
   |none=>false
  |_=>true
theorem Links.of {X:Cx}{scope:Xw}{N':List Str}{lk:List (Option Nat)}(h:fH X.env.scope.names X.N scope N' lk=true):Links X scope N' lk:=by
 simp only[fH,Wf]at h;obtain⟨⟨⟨h1,h2⟩,h3⟩,h4⟩:=h;rw[WM]at h2 h4;refine⟨by simpa using h1,λx hx=>?_,λx hx hl=>?_,λx hx=>?_,by simpa using h3,λi j aD=>?_⟩
 ·have:=h2 x hx;simp only[Wf]at this;simpa using this.1.1
 ·have:=h2 x hx;simp only[Wf]at this;have q:=this.1.2;rw[hl]at q;simpa using q
 ·have:=h2 _ hx;simp only[Wf]at this;have q:=this.2;simp only[YS]at q;rcases q with (q|q)|q
  ·simp at q
  ·exact .inl (show X.env.scope.names.lookup x=some .cell by simpa using q)
  ·exact .inr (show X.env.scope.names.lookup x=some .free by simpa using q)
 ·have hi:i<lk.length:=(VN.mp aD).1;have q:=h4 i (Wl.mpr hi);rw[aD]at q;simp only at q;cases e:N'[i]? with
  |none=>rw[e]at q;simp at q
  |some x =>
   rw[e]at q;simp only[Wf]at q;obtain⟨⟨q1,q2⟩,q3⟩:=q;exact⟨x,rfl,by simpa using q1,by simpa using q2,by simpa using q3⟩
noncomputable def de (lk:List (Option Nat))(σ:St):St:=lk.map λl=>match l with|some j=>(match σ[j]? with|some v=>v|none=>none)|none=>none
theorem d_ {env:Env}:∀{names:List (Str×Yb)} {x:Str},names.lookup x=some .free ->
  (names.map λ(n,k)=>if (k==Wi&&env.scope.kind==.function&&env.kindOf n==some .cell) then (n,XS) else (n,k)).lookup x=some .cell \/
  (names.map λ(n,k)=>if (k==Wi&&env.scope.kind==.function&&env.kindOf n==some .cell) then (n,XS) else (n,k)).lookup x=some .free
 |[],_,h=>by simp at h
 | (n,k)::r,x,h=>by
  have ih:=@d_ env r x;show List.lookup x ((if (k==Wi&&env.scope.kind==.function&&env.kindOf n==some .cell)=true then (n,XS) else (n,k))::_)=_ \/
   List.lookup x ((if (k==Wi&&env.scope.kind==.function&&env.kindOf n==some .cell)=true then (n,XS) else (n,k))::_)=_
  cases hx:x==n with
  |true =>
   simp only[WL,hx]at h;cases h
   by_cases hc:(Wi==Wi&&env.scope.kind==.function&&env.kindOf n==some .cell)=true
   ·rw[if_pos hc];left;simp[WL,hx]
   ·rw[if_neg hc];right;simp[WL,hx]
  |false =>
   simp only[WL,hx]at h
   by_cases hc:(k==Wi&&env.scope.kind==.function&&env.kindOf n==some .cell)=true
   ·rw[if_pos hc];simp only[WL,hx];exact ih h
   ·rw[if_neg hc];simp only[WL,hx];exact ih h
theorem d7 {env:Env}:∀{names:List (Str×Yb)} {x:Str} {k:Yb},(k=.cell\/k=.free)->(∀y∈names,y.2≠.cell) ->
  (names.map λ(n,k)=>if (k==Wi&&env.scope.kind==.function&&env.kindOf n==some .cell) then (n,XS) else (n,k)).lookup x=some k->(x,Wi)∈names
 |[],_,_,_,_,h=>by simp at h
 | (n,k')::r,x,k,hk,hc,h=>by
  have ih:=@d7 env r x k hk (λy hy=>hc y (V2 _ hy));have h':List.lookup x ((if (k'==Wi&&env.scope.kind==.function&&env.kindOf n==some .cell)=true then (n,XS) else (n,k'))::(r.map λ(n,k)=>if (k==Wi&&env.scope.kind==.function&&env.kindOf n==some .cell) then (n,XS) else (n,k)))=some k:=h
  have EK:=hc (n,k') (V8 ..)
  by_cases EM:(k'==Wi&&env.scope.kind==.function&&env.kindOf n==some .cell)=true
  ·rw[if_pos EM]at h';simp only[Wf,beq_iff_eq]at EM;cases hx:x==n with
   |true=>rw[eq_of_beq hx,EM.1.1];exact V8 ..
   |false=>rw[WL,hx]at h';exact V2 _ (ih h')
  ·rw[if_neg EM]at h';cases hx:x==n with
   |true =>
    rw[WL,hx]at h';have e:k'=k:=by simpa using h'
    subst e;rcases hk with hk|hk
    ·exact absurd hk EK
    ·rw[eq_of_beq hx,hk];exact V8 ..
   |false=>rw[WL,hx]at h';exact V2 _ (ih h')
section
variable {X:Cx}{pins:List (Addr×Obj)}{σ:St}{H:Hp}{s:Vw}{scope:Xw}{N':List Str}{lk:List (Option Nat)}{cl:List (Str×Addr)}{ex:List Addr}
theorem Bl {h':Heap}{t':Nat}(I:Inv X pins σ H s)(L:Links X scope N' lk)(hex:∀b∈ex,jk X pins H b)(MF:∀b∈ex,∃o,s.heap.get? b=some o)
  (nZ:∀x,(x,Wi)∈scope.names->∃c,cl.lookup x=some c) (yQ:∀x c,cl.lookup x=some c->X.env.cells.lookup x=some c)
  (hn:h'.Ns s.heap.objs.size (λ_=>none)) (hk:∀b o,s.heap.get? b=some o->h'.get? b=some o) :
  Inv (aq X scope N' cl s.heap.objs.size s H ex) [] (de lk σ) H {s with heap:=h',toks:=t'}:=by
 obtain⟨m,hm,hl⟩:=I.loc;have Uw:∀b∈ex,b≠s.heap.objs.size:=λb hb=>by
  obtain⟨o,e⟩:=MF b hb;exact V_ (VR e)
 refine⟨⟨I.ok.mod,L.kind,I.ok.glob,I.ok.blt,VA _,λx y c h1 h2=>I.ok.inj x y c (yQ _ _ h1) (yQ _ _ h2),λx hx=>?_,λx c z=>(nomatch z),I.ok.hd,I.ok.frames,.inl rfl,
  λb hb=>⟨Uw b hb,λx c e=>(hex b hb).2.2.2.2.1 x c (yQ _ _ e)⟩,I.bs,Wc I.ok.yB I.sz,λb o e z=>?_,λb hb z=>?_,I.stack,I.pO⟩,
  rfl,I.bare,Un.kept hk,⟨_,hn,λi x v h1 h2 h3=>?_⟩,λx c e=>?_,I.a6.fresh (VA _),λx c e=>I.dQ x c (yQ _ _ e),λp hp=>absurd (show p∈([]:List (Addr×Obj)) from hp) (by simp),I.a6.kept hk,?_⟩
 ·have LN:(relabel scope X.env).names.lookup x=some .cell\/(relabel scope X.env).names.lookup x=some .free:=hx;rcases LN with q|q
  ·exact nZ x (d7 (.inl rfl) L.uw q)
  ·exact nZ x (d7 (.inr rfl) L.uw q)
 ·obtain⟨f0,f1,f2,f3,_⟩:=hex b z;rcases f3 with q|q
  ·exact I.ok.qh b o e q
  ·have h1:=VR e;have h2:=I.ok.yB;exact absurd (V1 h1 (Wc h2 q)) (Xe _)
 ·obtain⟨f0,f1,f2,f3,_⟩:=hex b hb;rcases VB.mp (I.t8 b z)with q|q
  ·exact f1 q
  ·exact f2 q
 ·have hi:∃j,lk[i]?=some (some j)/\σ[j]?=some (some v):=by
   have CU:(de lk σ)[i]?=some (some v):=h2;unfold de at CU;rw[VJ]at CU;cases e:lk[i]? with
   |none=>rw[e]at CU;cases CU
   |some l =>
    cases l with
    |none=>rw[e]at CU;cases CU
    |some j =>
     rw[e]at CU;cases e2:σ[j]? with
     |none=>simp[e2]at CU
     |some w' =>
      simp only[Xx,e2,Zo]at CU;subst CU;exact⟨j,rfl,e2⟩
  obtain⟨j,hj,hσ⟩:=hi;obtain⟨y,e1,e2,e3,e4⟩:=L.link i j hj;have Uu:x=y:=by
   have J3:N'[i]?=some x:=h1;rw[e1]at J3;exact(V5 J3).symm
  subst Uu;have Pr:Kc X.env.scope x:=by
   rcases L.free x e3 with q|q
   ·exact .inr (.inl q)
   ·exact .inr (.inr q)
  obtain⟨u,ru,lu⟩:=hl j x v e2 hσ Pr;refine⟨u,ru,.inr ⟨?_,?_⟩⟩
  ·exact d_ e4
  ·rcases lu with⟨k,_⟩|⟨_,c,hc,z⟩
   ·rcases L.free x e3 with q|q <;> (rw[k]at q;cases q)
   ·obtain⟨c',yR⟩:=nZ x e3;have:=yQ x c' yR;rw[hc]at this;cases this;obtain⟨o,ho,hd⟩:=z;exact⟨c,yR,o,hk _ _ ho,hd⟩
 ·obtain⟨v,o,ho,hd⟩:=I.cell x c (yQ _ _ e);exact⟨v,o,hk _ _ ho,hd⟩
 ·show (de lk σ).length=N'.length;unfold de;rw[Vt,L.len]
theorem Bm {s':Vw}{σ':St}{H':Hp}{pl:List (Addr×Obj)}{C:Addr}{h'':Heap}(I:Inv X pins σ H s)(hex:∀b∈ex,jk X pins H b)
  (J:Inv (aq X scope N' cl s.heap.objs.size s H ex) pl σ' H' s') (hs:WY s.heap.objs.size s'.heap h''):Inv X pins σ H' {s' with heap:=h''}:=by
 have hC:H' s.heap.objs.size=none:=J.free;have u:=J.base;refine I.Gi (ch:=ex) (s':={s' with heap:=h''}) J.os ?_ ?_ J.bare (λb hb=>?_)
 ·have kk:∀b o,b≠s.heap.objs.size->s'.heap.get? b=some o->h''.get? b=some o:=λb o hb e=>(hs.2 b hb).trans e;have ne:∀b o,s.heap.get? b=some o->b≠s.heap.objs.size:=λb o e=>V_ (VR e);refine⟨λb o e n hb hx=>kk b _ (ne b o e) (u.keep b o e n hb hx),λb o e n hb hx=>?_,u.free,λb o e hx=>?_,u.i4,u.iH,u.i5⟩
  ·obtain⟨sl,q⟩:=u.slot b o e n hb hx;exact⟨sl,kk b _ (ne b o e) q⟩
  ·obtain⟨o',q⟩:=u.there b o e hx;exact⟨o',kk b _ (ne b o e) q⟩
 ·intro b o e;have hb:b≠s.heap.objs.size:=λz=>by rw[z]at e;rw[hC]at e;cases e
  refine(J.a6 b o e).nQ (λc v hc q=>(hs.2 c ?_).trans q) (λ_ q=>q) λ_ _ q=>q;rcases hc with z|z
  ·rw[z];exact hb
  ·intro z';rw[z']at z;rw[hC]at z;cases z
 ·obtain⟨f0,f1,f2,f3,f4,f5⟩:=hex b hb;exact⟨f3,f1,f4,f5⟩
end
noncomputable def l9 (g:XT)(after:Sem Fin->Sem Fin)(e:Expr)(d:Nat)(it acc:Vv)(env:Env):Sem Fin:=do
 Yt g.iter.pos
 match <- Zc it with
 |none=>pure (.done .next)
 |some v =>
  YN g.target it v
  assign g.target env v
  let mut ok:=true
  for c in g.ifs do
   if ok then ok <- ZC c env (eval c env)
  if ok then after (again (.compLoop e d it acc env)) else again (.compLoop e d it acc env)
noncomputable def lR (e:Expr)(d:Nat)(g':XT)(acc:Vv)(env:Env)(k:Sem Fin):Sem Fin:=do
 let x <- eval g'.iter env
 Yt g'.iter.pos
 let x <- V4 g'.iter env x
 let _ <- runOwn (.compStart e (d+1) (<- holding [x] (Zd x)) acc env) env
 k
def gA (t:Sem Unit)(k:Sem Fin):Sem Fin:=do
 t
 k
def wx (elt:Expr)(acc:Vv)(env:Env):Sem Unit:=do let _ <- call (.builtin "list.append") [acc,<- eval elt env]
def BY (elt:Expr)(acc:Vv)(env:Env):Sem Unit:=do let v <- eval elt env;Yt elt.pos;let _ <- call (.builtin "set.add") [acc,v]
noncomputable def sQ (k v:Expr)(acc:Vv)(env:Env):Sem Unit:=do
    let kv <- eval k env
    let vv <- holding [kv] (eval v env)
    match acc with
    |.ref d=>do
     Yt {k.pos with endLine:=v.pos.endLine,endCol:=v.pos.endCol}
     holding [kv,vv] (dictSet d kv vv)
    |_=>unsupported "internal:dictcomp"
structure fX (e:Expr)(d:Nat)(g:XT)(acc:Vv)(env:Env)(after:Sem Fin->Sem Fin):Prop where
 turn:∀it,compTurn e d it acc env=l9 g after e d it acc env
 cl:(clausesOf e)[d]?=some g
 sync:g.is_async=0
 quiet:∀it,(YF e d it acc env).quiet=true
 under:∀(A:Wv) it,A.under (YF e d it acc env)=A
 Gv:∀(A:Wv) it,A.under (Z9 e d it acc env)=A
 HS:∀it,(YF e d it acc env).isFrame=false
 Lh:∀it,(Z9 e d it acc env).isFrame=false
section
variable {elt tg iM bJ fK k v:Expr}{ifs df:List Expr}{sc:Xw}{pos:Pos}{acc:Vv}{env:Env}
theorem Cn:fX (.ListComp elt [⟨tg,bJ,ifs,0⟩] sc pos) 0 ⟨tg,bJ,ifs,0⟩ acc env (gA (wx elt acc env)) :=
 ⟨λ_=>rfl,rfl,rfl,λ_=>rfl,λ_ _=>rfl,λ_ _=>rfl,λ_=>rfl,λ_=>rfl⟩
theorem Gh:fX (.DictComp k v [⟨tg,bJ,ifs,0⟩] sc pos) 0 ⟨tg,bJ,ifs,0⟩ acc env (gA (sQ k v acc env)) :=
 ⟨λ_=>rfl,rfl,rfl,λ_=>rfl,λ_ _=>rfl,λ_ _=>rfl,λ_=>rfl,λ_=>rfl⟩
theorem Cm:fX (.ListComp elt [⟨tg,bJ,ifs,0⟩,⟨iM,fK,df,0⟩] sc pos) 0 ⟨tg,bJ,ifs,0⟩ acc env (lR (.ListComp elt [⟨tg,bJ,ifs,0⟩,⟨iM,fK,df,0⟩] sc pos) 0 ⟨iM,fK,df,0⟩ acc env) :=
 ⟨λ_=>rfl,rfl,rfl,λ_=>rfl,λ_ _=>rfl,λ_ _=>rfl,λ_=>rfl,λ_=>rfl⟩
theorem Ck:fX (.ListComp elt [⟨tg,bJ,ifs,0⟩,⟨iM,fK,df,0⟩] sc pos) 1 ⟨iM,fK,df,0⟩ acc env (gA (wx elt acc env)) :=
 ⟨λ_=>rfl,rfl,rfl,λ_=>rfl,λ_ _=>rfl,λ_ _=>rfl,λ_=>rfl,λ_=>rfl⟩
theorem Jz:fX (.SetComp elt [⟨tg,bJ,ifs,0⟩,⟨iM,fK,df,0⟩] sc pos) 0 ⟨tg,bJ,ifs,0⟩ acc env (lR (.SetComp elt [⟨tg,bJ,ifs,0⟩,⟨iM,fK,df,0⟩] sc pos) 0 ⟨iM,fK,df,0⟩ acc env) :=
 ⟨λ_=>rfl,rfl,rfl,λ_=>rfl,λ_ _=>rfl,λ_ _=>rfl,λ_=>rfl,λ_=>rfl⟩
theorem Jy:fX (.SetComp elt [⟨tg,bJ,ifs,0⟩,⟨iM,fK,df,0⟩] sc pos) 1 ⟨iM,fK,df,0⟩ acc env (gA (BY elt acc env)) :=
 ⟨λ_=>rfl,rfl,rfl,λ_=>rfl,λ_ _=>rfl,λ_ _=>rfl,λ_=>rfl,λ_=>rfl⟩
end
def Kn:TT:=λ_ H Q=>Q true H
def qN (X:Cx)(ifs:List Expr)(t:TT):Prop :=
 ∀(pins:List (Addr×Obj)) (s:Vw) (σ:St) (H:Hp) (Q:Bool->Hp->Prop),Inv X pins σ H s->t σ H Q ->
  VU (model X.prog X.w) X.A (forIn ifs true λc r=>if r=true then do let ok <- ZC c X.env (eval c X.env);pure (YR ok) else pure (YR r)) (TP X pins σ Q) X.xe s
theorem Dr {X:Cx}:qN X [] Kn:=λ_ _ _ H _ I h=>wpAny_tests_nil ⟨H,I,h⟩
theorem Dq {X:Cx}{c:Expr}{t:TT}(h:PT X c t):qN X [c] t:=λpins s σ H Q I q=>wpAny_tests_one (h pins s σ H Q I q)
abbrev j7:=(St->Hp->Prop)->St->Hp->Prop
def lE (X:Cx)(after:Sem Fin->Sem Fin)(t:j7):Prop :=
 ∀(pins:List (Addr×Obj)) (s:Vw) (σ:St) (H:Hp) (N:St->Hp->Prop) (k:Sem Fin) (Q:Fin->Vw->Prop) (E:Vv->Vw->Prop),Inv X pins σ H s->t N σ H ->
  (∀σ' H' s',Inv X pins σ' H' s'->N σ' H'->VU (model X.prog X.w) X.A k Q E s')->VU (model X.prog X.w) X.A (after k) Q E s
theorem dc {X:Cx}(hx:X.xe=λ_ _=>False){α:Type}{t:Sem α}{Q:α->Vw->Prop}{E:Vv->Vw->Prop}{s:Vw}(h:VU (model X.prog X.w) X.A t Q X.xe s):VU (model X.prog X.w) X.A t Q E s :=
 XE h (λ_ _ q=>q) λe s q=>by rw[hx]at q;exact q.elim
def eM (J:It)(g:TG)(tt:TT)(ta:j7)(End:St->Hp->Prop):St->Hp->Prop:=λσ H =>
 ∃W:Nat->Nat->St->Hp->Prop,(∃m,W 0 m σ H)/\∀i m σ H,W i m σ H->(J.stop i H/\End σ H) \/
  (J.go i H/\∃N:St->Hp->Prop,(∀σ' H',N σ' H'->∃m',m'<m/\W (i+1) m' σ' H')/\∀x H',J.Kh i H x H'->g x σ H' λσ2 H2=>tt σ2 H2 λb H3=>if b=true then ta N σ2 H3 else N σ2 H3)
section
variable {X:Cx}{e:Expr}{d:Nat}{g:XT}{acc:Vv}{after:Sem Fin->Sem Fin}{tg:TG}{tt:TT}{ta:j7}
theorem yt (hx:X.xe=λ_ _=>False)(hc:X.calm=true)(F:fX e d g acc X.env after)(hg:PG X g.target tg)(ht:qN X g.ifs tt)(ha:lE X after ta)
  {it:Addr} {fp:List Addr} {tn:Nat->Heap->Prop} {J:It} (T:Turn X.prog X.w X.K g.target J fp it tn) {pins:List (Addr×Obj)} {σ:St} {H:Hp} {s:Vw} {End:St->Hp->Prop}
  (I:Inv X pins σ H s) (st:tn 0 s.heap) (hf:∀b∈fp,jk X pins H b) (h:eM J tg tt ta End σ H) :
  X9 (model X.prog X.w) X.A (.compLoop e d (.ref it) acc X.env) (λr s'=>r=.ok .next/\∃σ' H',Inv X pins σ' H' s'/\End σ' H') s:=by
 obtain⟨W,⟨m0,w0⟩,turn⟩:=h;have t9:∀{H':Hp},(∀b∈fp,H' b=none)->∀b∈fp,jk X pins H' b:=λhn b hb=>⟨hn b hb,(hf b hb).2⟩;refine codeAny_loop (F.quiet _) (λn s'=>∃i σ' H',Inv X pins σ' H' s'/\tn i s'.heap/\(∀b∈fp,H' b=none)/\W i n σ' H') (λn s3 hI=>?_) m0 ⟨0,σ,H,I,st,λb hb=>(hf b hb).1,w0⟩;obtain⟨i,σ3,H3,I3,Ky,MX,w3⟩:=hI;rw[F.under];have IZ:(model X.prog X.w).den (.compLoop e d (.ref it) acc X.env)=(l9 g after e d (.ref it) acc X.env).onRaise (λx=>do noteFrame x X.env;theTreesLotGoes x):=by
  rw[<- F.turn];show (if (YF e d (.ref it) acc X.env).isFrame then _ else _)=_
  rw[F.HS];rfl
 rw[IZ];refine wpAny_noted ?_;unfold l9;rcases turn i n σ3 H3 w3 with⟨stop,qn⟩|⟨go,N,hN,step⟩
 ·refine Vu (W5 (Vu (bt (T.done X rfl rfl rfl hc i pins s3 σ3 H3 _ I3 (t9 MX) Ky stop) λr s4 gn=>?_)));obtain⟨hr,I4⟩:=gn;subst hr;exact Vy ⟨rfl,σ3,H3,I4,qn⟩
 ·refine Vu (W5 (Vu (bt (T.item X rfl rfl rfl hc i pins s3 σ3 H3 _ I3 (t9 MX) Ky go) λr s4 jJ=>?_)));obtain⟨u,hr,h4⟩:=jJ;subst hr;refine Vu (bt h4 λ_ s5 qm=>?_);obtain⟨x,H5,I5,r5,y5,GH,QA⟩:=qm;have Q8:=I5.pinned (t9 QA) (T.obj _ _ GH);refine Vu (bt (dc hx (hg _ s5 σ3 H5 x u _ Q8 r5 (step x H5 y5))) λ_ s6 Pp=>?_);obtain⟨σ6,H6,I6,q6⟩:=Pp;refine Vu (bt (dc hx (ht _ s6 σ6 H6 _ I6 q6)) λok s7 TH=>?_);obtain⟨H7,I7,q7⟩:=TH;have Cv:∀{σ8:St} {H8:Hp} {s8:Vw},Inv X (pins++mE fp s5.heap) σ8 H8 s8->N σ8 H8->∃m,m<n/\∃i σ' H',Inv X pins σ' H' s8/\tn i s8.heap/\(∀b∈fp,H' b=none)/\W i m σ' H':=λ{σ8 H8 s8} I8 n8=>by
   obtain⟨m',hm,w8⟩:=hN σ8 H8 n8;refine⟨m',hm,i+1,σ8,H8,I8.jr,T.keep _ _ _ GH λb hb o e=>(I8.pin (b,o) (VY _ (VY _ (gg hb e)))).1,λb hb=>?_,w8⟩;obtain⟨o,e,d⟩:=T.obj _ _ GH b hb;exact(I8.pin (b,o) (VY _ (VY _ (gg hb e)))).2.1
  cases ok with
  |false=>exact Vy ⟨rfl,Cv I7 (by simpa using q7)⟩
  |true =>
   exact ha _ s7 σ6 H7 N _ _ _ I7 (by simpa using q7) λσ8 H8 s8 I8 n8=>Vy ⟨rfl,Cv I8 n8⟩
theorem nF (hx:X.xe=λ_ _=>False)(hc:X.calm=true)(F:fX e d g acc X.env after)(hg:PG X g.target tg)(ht:qN X g.ifs tt)(ha:lE X after ta)
  {it:Addr} {fp:List Addr} {tn:Nat->Heap->Prop} {J:It} (T:Turn X.prog X.w X.K g.target J fp it tn) {pins:List (Addr×Obj)} {σ:St} {H:Hp} {s:Vw} {End:St->Hp->Prop}
  (I:Inv X pins σ H s) (st:tn 0 s.heap) (hf:∀b∈fp,jk X pins H b) (h:eM J tg tt ta End σ H) :
  X9 (model X.prog X.w) X.A (.compStart e d (.ref it) acc X.env) (λr s'=>r=.ok .next/\∃σ' H',Inv X pins σ' H' s'/\End σ' H') s:=by
 have lp:=yt hx hc F hg ht ha T I st hf h;refine ZO ?_;rw[F.Gv];have IZ:(model X.prog X.w).den (.compStart e d (.ref it) acc X.env)=(compStart e d (.ref it) acc X.env).onRaise (λx=>do noteFrame x X.env;Yt theWindowsPlace):=by
  show (if (Z9 e d (.ref it) acc X.env).isFrame then _ else _)=_
  rw[F.Lh];rfl
 rw[IZ];refine wpAny_notedAt ?_;unfold compStart;rw[F.cl];simp only[Option.elim_some,F.sync];show VU _ _ (ask >>= _) _ _ s;refine Vu (X8 (wpAny_ite ?_))
 split
 ·first
   |exact Vu (Vy (Vy (And.intro (F.quiet _) lp)))
   |exact Vy (And.intro (F.quiet _) lp)
 ·have h2:∀(E:Vv->Vw->Prop),VU (model X.prog X.w) X.A (Zd (.ref it)) (λNK s'=>(YF e d NK acc X.env).quiet=true/\X9 (model X.prog X.w) X.A (.compLoop e d NK acc X.env) (λr s'=>r=.ok .next/\∃σ' H',Inv X pins σ' H' s'/\End σ' H') s') E s :=
   λE=>T.self X.A 0 s _ E st ⟨F.quiet _,lp⟩
  first
   |exact Vu (wpAny_rule (Vu (W5 (Vu (XE (h2 _) (λNK s' h'=>Vy h') λ_ _ x=>x)))))
   | (refine Vu (wpAny_rule ?_);exact Vu (W5 (Vu (XE (h2 _) (λNK s' h'=>Vy h') λ_ _ x=>x))))
theorem qb {g':XT}{wi:TI}(hx:X.xe=λ_ _=>False)(hc:X.calm=true)(F:fX e (d+1) g' acc X.env after)(hi:PI X g'.target g'.iter wi)(hg:PG X g'.target tg)(ht:qN X g'.ifs tt)(ha:lE X after ta)
  (hs:∀x,V4 g'.iter X.env x=pure x:=by intro _;rfl) :
  lE X (lR e d g' acc X.env) (λN σ H=>wi σ H λJ H1=>eM J tg tt ta N σ H1):=by
 intro pins s σ H N k Q E I h hk;unfold lR;refine Vu (bt (dc hx (hi pins s σ H _ I h)) λx s1 h1=>?_);refine Vu (W5 (Vu (ZI (hs x) ?_)));refine Vu (Wo (bt (dc hx h1) λF1 s2 h2=>?_));obtain⟨it,fp,tn,J,H2,e1,I2,T,GJ,f2,hl⟩:=h2;subst e1;refine Vu (wpAny_runOwn (Xa (nF hx hc F hg ht ha T I2 GJ f2 hl) λr s' hr=>?_));obtain⟨rfl,σ',H',I',q⟩:=hr;exact hk σ' H' s' I' q
theorem gX {elt:Expr}{te:TE}{a:Addr}(hx:X.xe=λ_ _=>False)(he:PE X elt te):
  lE X (gA (wx elt (.ref a) X.env)) (λN σ H=>te σ H λv H1=>∃xs,H1 a=some (.lst xs)/\xs.length<VH/\N σ (upd H1 a (.lst (xs++[v])))):=by
 intro pins s σ H N k Q E I h hk;unfold gA wx;refine Vu (Vu (bt (dc hx (he pins s σ H _ I h)) λu s1 TF=>?_));obtain⟨v,H1,I1,r1,xs,hH,hz,q⟩:=TF;refine Vu (bt (dc hx <| kJ (X:=X) pins s1 σ H1 (.ref a) [v] (.ref a) [u] (λw' H'=>N σ H') I1 rfl (.cons r1 .nil) ⟨a,xs,v,rfl,rfl,hH,hz,q⟩) λ_ s2 TC=>?_)
 obtain⟨_,H2,I2,_,q2⟩:=TC;exact Vy (hk σ H2 s2 I2 q2)
end
section
variable {X:Cx}{e:Expr}
structure nN (X:Cx)(dC:Sem Vv)(o:HO):Prop where
 ok:∀(pins:List (Addr×Obj)) (s:Vw) (σ:St) (H:Hp) (Q:Vv->Vw->Prop) (E:Vv->Vw->Prop),Inv X pins σ H s ->
  (∀a s',s.heap.objs.size<=a->H a=none->(∀b o,s.heap.get? b=some o->s'.heap.get? b=some o)->Inv X pins σ (upd H a o) s'->Q (.ref a) s')->VU (model X.prog X.w) X.A dC Q E s
theorem gY:nN X (newList []) (.lst []) :=
 ⟨λpins s σ H Q E I h=>WN (h _ _ (VA _) I.fresh (λb o e=>Vx _ e) (I.Ly (its:=[]) (t':=s.toks) .nil (VX _)))⟩
theorem Inv.sameBut {pins:List (Addr×Obj)}{σ:St}{H:Hp}{s:Vw}{C:Addr}{h':Heap}(I:Inv X pins σ H s)(f:jk X pins H C)(hs:WY C s.heap h'):Inv X pins σ H {s with heap:=h'}:=by
 obtain⟨f0,f1,f2,f3,f4,f5⟩:=f;exact I.turned (t':=s.toks) (λb o hb e=>(hs.2 b hb).trans e) f0 f1 f3 f4 f5
end
end L2
namespace ST
open PySem PySem.SetTable
def it:Nat->Nat->Nat
 |0,x=>x
 |n+1,x=>5*it n x+1
theorem uF (a:Nat):∀(b x:Nat),it (a+b) x=it b (it a x)
 |0,x=>rfl
 |b+1,x=>by
  show 5*it (a+b) x+1=5*it b (it a x)+1;rw[uF a b x]
theorem Bj:∀j:Nat,∃a b:Nat,∀x,it (2 ^ j) x=(1+4*2 ^ j*a)*x+2 ^ j*(1+2*b)
 |0=>⟨1,0,λx=>by show 5*x+1=_;simp⟩
 |j+1=>by
  obtain⟨a,b,h⟩:=Bj j;refine⟨a+2*2 ^ j*a*a,b+2 ^ j*a*(1+2*b),λx=>?_⟩;rw[show 2 ^ (j+1)=2 ^ j+2 ^ j by rw[Zq];lia,uF,h,h]
  generalize 2 ^ j=P
  grind
theorem lift:∀(j x t:Nat),∃k,k<2 ^ j/\it k x % 2 ^ j=t % 2 ^ j
 |0,x,t=>⟨0,by decide,by rw[Nat.pow_zero,Nat.mod_one,Nat.mod_one]⟩
 |j+1,x,t=>by
  obtain⟨k,hk,e⟩:=lift j x t;obtain⟨a,b,h⟩:=Bj j;have hP:0<2 ^ j:=ZK (by decide)
  rw[Zq]
  by_cases q:it k x % (2 ^ j*2)=t % (2 ^ j*2)
  ·exact⟨k,by lia,q⟩
  ·refine⟨k+2 ^ j,by lia,?_⟩
   rw[uF,h];generalize it k x=y at *
   generalize 2 ^ j=P at *
   have e1:((1+4*P*a)*y+P*(1+2*b))=(y+P)+(P*2)*(2*a*y+b):=by grind
   rw[e1,Nat.add_mul_mod_self_left,ZL,ZL];rw[ZL,ZL,e]at q;rw[Nat.add_mod_right,Nat.add_div_right _ hP,e];have u1:y / P % 2<2:=Yp _ (by decide)
   have u2:t / P % 2<2:=Yp _ (by decide)
   have u3:y / P % 2≠t / P % 2:=λz=>q (by rw[z])
   have u4:(y / P).succ % 2=t / P % 2:=by lia
   rw[u4]
def CL (m:Nat)(p:Probe):Probe:=advance {mask:=m,place:=#[],dummies:=#[],finger:=0,led:=true,moves:=0,plain:=true} p
def SM (m:Nat)(h:Int):Probe:=probeStart {mask:=m,place:=#[],dummies:=#[],finger:=0,led:=true,moves:=0,plain:=true} h
noncomputable def iB (m:Nat)(h:Int):Nat->Probe
 |0=>SM m h
 |n+1=>CL m (iB m h n)
def cY (m:Nat)(h:Int)(n:Nat):Nat:=(iB m h n).j
def lp (m:Nat)(h:Int):Nat->Nat×Nat
 |0=>(bits h % (m+1),bits h)
 |k+1=>leap m (lp m h k).1 (lp m h k).2
def Kb (m:Nat)(x:Nat×Nat):Probe:={j:=x.1,more:=runEnd m x.1-x.1,i:=x.1,perturb:=x.2,dummy:=none}
theorem GU (m i:Nat):runEnd m i-i<=9:=by
 unfold runEnd
 split <;> lia
theorem uH (m:Nat)(h:Int)(x:Nat×Nat)(n:Nat)(e:iB m h n=Kb m x):∀d,d<=runEnd m x.1-x.1->iB m h (n+d)={Kb m x with j:=x.1+d,more:=runEnd m x.1-x.1-d}
 |0,_=>by rw[Nat.add_zero,e];rfl
 |d+1,hd=>by
  show CL m (iB m h (n+d))=_;rw[uH m h x n e d (by lia)]
  unfold CL advance;rw[if_pos (by show runEnd m x.1-x.1-d>0;lia)]
  rfl
theorem tf (m:Nat)(h:Int)(x:Nat×Nat)(n:Nat)(e:iB m h n=Kb m x):iB m h (n+(runEnd m x.1-x.1)+1)=Kb m (leap m x.1 x.2):=by
 show CL m (iB m h (n+(runEnd m x.1-x.1)))=_;rw[uH m h x n e _ (VA _)];unfold CL advance;rw[if_neg (by show ¬ runEnd m x.1-x.1-(runEnd m x.1-x.1)>0;lia)]
 rfl
theorem Cs (m:Nat)(h:Int):∀k,∃n,n<=10*k/\iB m h n=Kb m (lp m h k)
 |0=>⟨0,VA _,rfl⟩
 |k+1=>by
  obtain⟨n,h1,h2⟩:=Cs m h k;refine⟨n+(runEnd m (lp m h k).1-(lp m h k).1)+1,?_,tf m h _ n h2⟩;have:=GU m (lp m h k).1;lia
theorem A6 (m:Nat)(h:Int):∀k,(lp m h k).2=bits h / 32 ^ k
 |0=>by rw[Nat.pow_zero,Nat.div_one];rfl
 |k+1=>by
  show (lp m h k).2 / 32=_;rw[A6 m h k,Nat.div_div_eq_div_mul,Zq]
theorem Fj (h:Int):bits h<2 ^ 64:=by
 unfold bits;have h1:=Int.emod_lt_of_pos h (show (0:Int)<2 ^ 64 by decide)
 have h2:=Int.emod_nonneg h (show (2 ^ 64:Int)≠0 by decide)
 lia
theorem En (m:Nat)(h:Int){k:Nat}(hk:13<=k):(lp m h k).2=0:=by
 rw[A6];refine Nat.div_eq_of_lt (V1 (Fj h) ?_);have:32 ^ 13<=32 ^ k:=XG (by decide) hk
 exact Wc (by decide) this
theorem FY {j:Nat}(h:Int):∀d,(lp (2 ^ j-1) h (13+d)).1=it d (lp (2 ^ j-1) h 13).1 % 2 ^ j:=by
 have hP:2 ^ j-1+1=2 ^ j:=by have:0<2 ^ j:=ZK (by decide);lia
 have lt:∀k,(lp (2 ^ j-1) h k).1<2 ^ j:=λk=>by
  cases k with
  |zero=>show bits h % (2 ^ j-1+1)<_;rw[hP];exact Yp _ (by lia)
  |succ k=>show (_*5+1+_ / 32) % (2 ^ j-1+1)<_;rw[hP];exact Yp _ (by lia)
 intro d
 induction d with
 |zero=>exact(ZE (lt 13)).symm
 |succ d ih =>
  show ((lp (2 ^ j-1) h (13+d)).1*5+1+(lp (2 ^ j-1) h (13+d)).2 / 32) % (2 ^ j-1+1)=(5*it d _+1) % 2 ^ j;rw[hP,En _ h (by lia),ih,Nat.zero_div,Nat.add_zero,Nat.mul_comm]
  conv=>rhs;rw[Nat.add_mod,Nat.mul_mod]
  rw[Nat.add_mod,Nat.mul_mod,Nat.mod_mod]
theorem UG (j:Nat)(h:Int){t:Nat}(ht:t<2 ^ j):∃n,n<10*turns (2 ^ j-1)/\cY (2 ^ j-1) h n=t:=by
 obtain⟨k,hk,e⟩:=lift j (lp (2 ^ j-1) h 13).1 t;obtain⟨n,h1,h2⟩:=Cs (2 ^ j-1) h (13+k);refine⟨n,by unfold turns;lia,?_⟩
 unfold cY;rw[h2];show (lp (2 ^ j-1) h (13+k)).1=t;rw[FY,e,ZE ht]
abbrev g (xs:Array Nat)(i:Nat):Nat:=xs.getD i 0
theorem uN {xs:Array Nat}{i:Nat}(h:i<xs.size):xs[i]?=some (g xs i):=by
 rw[getElem?_pos xs i h,g,V0,getElem?_pos xs i h];rfl
def Gk (xs:Array Nat):Prop:=∀i j,i<j->j<xs.size->g xs i<g xs j
theorem Gk.inj {xs:Array Nat}(r:Gk xs){i j:Nat}(hi:i<xs.size)(hj:j<xs.size)(e:g xs i=g xs j):i=j:=by
 rcases Zs i j with h|h|h
 ·have:=r i j h hj;lia
 ·exact h
 ·have:=r j i h hi;lia
theorem nJ {xs:Array Nat}{j:Nat}(r:Gk xs):∀(f lo hi:Nat),hi<=xs.size->lo<=hi->hi-lo<=f->(∀k,k<lo->g xs k<j)->(∀k,hi<=k->k<xs.size->j<=g xs k) ->
  below.go xs j f lo hi<=xs.size/\(∀k,k<below.go xs j f lo hi->g xs k<j)/\(∀k,below.go xs j f lo hi<=k->k<xs.size->j<=g xs k)
 |0,lo,hi,h1,h2,h3,h4,h5=>by
  obtain rfl:lo=hi:=by omega
  exact⟨h1,h4,h5⟩
 |f+1,lo,hi,h1,h2,h3,h4,h5=>by
  unfold below.go
  by_cases hl:lo<hi
  ·rw[if_pos hl];dsimp only;have hm:(lo+hi) / 2<xs.size:=by omega
   have e:xs.getD ((lo+hi) / 2) j=g xs ((lo+hi) / 2):=by
    rw[g,V0,V0,getElem?_pos xs _ hm];rfl
   rw[e]
   by_cases hc:g xs ((lo+hi) / 2)<j
   ·rw[if_pos hc];refine nJ r f _ _ h1 (by omega) (by omega) (λk hk=>?_) h5
    by_cases Qi:k=(lo+hi) / 2
    ·rw[Qi];exact hc
    ·have:=r k ((lo+hi) / 2) (by omega) hm;omega
   ·rw[if_neg hc];refine nJ r f _ _ (by omega) (by omega) (by omega) h4 (λk hk EK=>?_)
    by_cases Qi:k=(lo+hi) / 2
    ·rw[Qi];omega
    ·have:=r ((lo+hi) / 2) k (by omega) EK;omega
  ·rw[if_neg hl];obtain rfl:lo=hi:=by omega
   exact⟨h1,h4,h5⟩
theorem gx {xs:Array Nat}(r:Gk xs)(j:Nat):below xs j<=xs.size/\(∀k,k<below xs j->g xs k<j)/\(∀k,below xs j<=k->k<xs.size->j<=g xs k) :=
 nJ r xs.size 0 xs.size (VA _) (VX _) (VA _) (λk hk=>by lia) (λk h1 h2=>by lia)
theorem below_at {xs:Array Nat}(r:Gk xs){i:Nat}(hi:i<xs.size):below xs (g xs i)=i:=by
 obtain⟨h1,h2,h3⟩:=gx r (g xs i);rcases Zs (below xs (g xs i)) i with h|h|h
 ·have:=h3 (below xs (g xs i)) (VA _) (by omega)
  have:=r _ _ h hi;omega
 ·exact h
 ·have:=h2 i h;omega
def tF (t:SetTable)(x:Nat):Prop:=∃i,i<t.place.size/\g t.place i=x
theorem xi {t:SetTable}(r:Gk t.place){i:Nat}(hi:i<t.place.size):t.slot (g t.place i)=.live i:=by
 unfold slot;dsimp only;rw[below_at r hi,if_pos (by rw[uN hi];exact beq_self_eq_true _)]
theorem xj {t:SetTable}(r:Gk t.place)(d:t.dummies=#[]){x:Nat}(h:¬ tF t x):t.slot x=.empty:=by
 unfold slot;dsimp only;rw[if_neg ?_,if_neg ?_]
 ·rw[d];unfold has;simp
 ·intro q;have q:=eq_of_beq q;have hl:below t.place x<t.place.size:=by
   rcases WX (below t.place x) t.place.size with z|z
   ·exact z
   ·rw[Xs z]at q;cases q
  rw[uN hl]at q;exact h ⟨_,hl,V5 q⟩
structure WF (t:SetTable)(hs:List Int):Prop where
 E7:t.dummies=#[]
 sz:t.place.size=hs.length
 zD:Gk t.place
 Sf:∀i,i<t.place.size->g t.place i<=t.mask
 Eg:∃j,3<=j/\t.mask=2 ^ j-1
 room:t.place.size<=t.mask
 S0:∀i h,hs[i]?=some h->∃n,cY t.mask h n=g t.place i/\∀k,k<n->tF t (cY t.mask h k)
theorem least {p:Nat->Prop}[DecidablePred p]:∀n,p n->∃m,m<=n/\p m/\∀k,k<m->¬ p k:=by
 intro n
 induction n using Nat.strongRecOn with
 |_ n ih =>
  intro hn
  by_cases h:∃k,k<n/\p k
  ·obtain⟨k,hk,hp⟩:=h;obtain⟨m,h1,h2,h3⟩:=ih k hk hp;exact⟨m,by lia,h2,h3⟩
  ·exact⟨n,VA _,hn,λk hk hp=>h ⟨k,hk,hp⟩⟩
instance (t:SetTable):DecidablePred (tF t):=λx=>decidable_of_iff (∃i,i<t.place.size/\g t.place i=x) Iff.rfl
theorem WF.hole {t:SetTable}{hs:List Int}(w:WF t hs):∃x,x<=t.mask/\¬ tF t x:=by
 refine XN λMH=>?_;have all:∀x,x<=t.mask->tF t x:=λx hx=>XN λq=>MH ⟨x,hx,q⟩;have up:∀x,x<=t.mask->∃i,i<t.place.size/\g t.place i=x/\x<=i:=by
  intro x
  induction x with
  |zero =>
   intro hx;obtain⟨i,h1,h2⟩:=all 0 hx;exact⟨i,h1,h2,VX _⟩
  |succ x ih =>
   intro hx;obtain⟨i,h1,h2,h3⟩:=ih (by lia)
   obtain⟨i',h4,h5⟩:=all (x+1) hx;refine⟨i',h4,h5,?_⟩;rcases WX i i' with q|q
   ·lia
   ·rcases WX i' i with q2|q2
    ·have:=w.zD i' i q2 h1;lia
    ·obtain rfl:i=i':=by lia
     lia
 obtain⟨i,h1,h2,h3⟩:=up t.mask (VA _);have:=w.room;lia
theorem WF.first {t:SetTable}{hs:List Int}(w:WF t hs)(h:Int):∃n,n<10*turns t.mask/\¬ tF t (cY t.mask h n)/\∀k,k<n->tF t (cY t.mask h k):=by
 obtain⟨x,hx,hf⟩:=w.hole;obtain⟨j,_,hj⟩:=w.Eg;have LN:x<2 ^ j:=by have:0<2 ^ j:=ZK (by decide);lia
 obtain⟨n,h1,h2⟩:=UG j h LN;rw[<- hj]at h1 h2;obtain⟨m,g1,g2,g3⟩:=least (p:=λn=>¬ tF t (cY t.mask h n)) n (by rw[h2];exact hf)
 exact⟨m,by lia,g2,λk hk=>XN λq=>g3 k hk q⟩
theorem kq (m:Nat)(h:Int):∀n,(iB m h n).dummy=none
 |0=>rfl
 |n+1=>by
  show (CL m (iB m h n)).dummy=none;unfold CL advance
  split
  ·exact kq m h n
  ·exact kq m h n
theorem rG {t:SetTable}{hs:List Int}(w:WF t hs)(ha:Nat->Int)(h:Int){N:Nat}(hN:¬ tF t (cY t.mask h N))(hO:∀k,k<N->tF t (cY t.mask h k)):∀(d n f:Nat),n+d=N->d<f ->
  (probe.go t ha h f (iB t.mask h n)=some (.empty (cY t.mask h N) none)/\∀k,n<=k->k<N->∀i,i<t.place.size->g t.place i=cY t.mask h k->ha i≠h) \/
  ∃m i,n<=m/\m<N/\i<t.place.size/\g t.place i=cY t.mask h m/\ha i=h/\probe.go t ha h f (iB t.mask h n)=some (.candidate (cY t.mask h m) i (iB t.mask h (m+1)))/\∀k,n<=k->k<m->∀i,i<t.place.size->g t.place i=cY t.mask h k->ha i≠h
 |0,n,f,e,hf=>by
  obtain rfl:n=N:=by lia
  obtain⟨f,rfl⟩:∃f',f=f'+1:=⟨f-1,by lia⟩
  refine .inl ⟨?_,λk h1 h2=>by lia⟩
  unfold probe.go;rw[show t.slot (iB t.mask h n).j=.empty from xj w.zD w.E7 hN]
  dsimp only;rw[kq];rfl
 |d+1,n,f,e,hf=>by
  obtain⟨f,rfl⟩:∃f',f=f'+1:=⟨f-1,by lia⟩
  obtain⟨i,hi,hg⟩:=hO n (by lia)
  have CQ:t.slot (iB t.mask h n).j=.live i:=by
   show t.slot (cY t.mask h n)=.live i;rw[<- hg];exact xi w.zD hi
  by_cases hh:ha i=h
  ·refine .inr ⟨n,i,VA _,by lia,hi,hg,hh,?_,λk h1 h2=>by lia⟩
   unfold probe.go;rw[CQ];dsimp only;rw[if_pos (by rw[hh];exact beq_self_eq_true _)]
   rfl
  ·have st:probe.go t ha h (f+1) (iB t.mask h n)=probe.go t ha h f (iB t.mask h (n+1)):=by
    conv=>lhs;unfold probe.go
    rw[CQ];dsimp only;rw[if_neg (by simpa using hh)]
    rfl
   rw[st];have here:∀i',i'<t.place.size->g t.place i'=cY t.mask h n->ha i'≠h:=λi' h1 h2=>by
    rw[w.zD.inj h1 hi (h2.trans hg.symm)];exact hh
   rcases rG w ha h hN hO d (n+1) f (by lia) (by lia)with⟨q1,q2⟩|⟨m,i',q1,q2,q3,q4,q5,q6,q7⟩
   ·refine .inl ⟨q1,λk h1 h2=>?_⟩
    by_cases hk:k=n
    ·subst hk;exact here
    ·exact q2 k (by lia) h2
   ·refine .inr ⟨m,i',by lia,q2,q3,q4,q5,q6,λk h1 h2=>?_⟩
    by_cases hk:k=n
    ·subst hk;exact here
    ·exact q7 k (by lia) h2
theorem mZ {α:Type}(xs:Array α)(p:Nat)(x:α):(insertAt xs p x).toList=xs.toList.take p++x::xs.toList.drop p:=by
 unfold insertAt;rw[Array.toList_append,Array.toList_push,Array.toList_extract,Array.toList_extract,List.extract_eq_take_drop,List.extract_eq_take_drop,WT];simp[WS]
theorem Bn {α:Type}{xs:Array α}{p:Nat}{x:α}(h:p<=xs.size):(insertAt xs p x).size=xs.size+1:=by
 rw[<- VP,mZ,VV,Wa,V7,XJ,VP];lia
theorem gk {xs:Array Nat}{p x:Nat}(h:p<=xs.size)(k:Nat):g (insertAt xs p x) k=if k<p then g xs k else if k=p then x else g xs (k-1):=by
 have e:∀(ys:Array Nat) (k:Nat),g ys k=(ys.toList[k]?).getD 0:=λys k=>by rw[g,V0,Wm]
 rw[e,e,e,mZ]
 by_cases h1:k<p
 ·rw[if_pos h1,W9 (by rw[V7,VP];lia),YE h1]
 ·rw[if_neg h1,XH (by rw[V7];lia),V7,VP,show min p xs.size=p by lia]
  by_cases h2:k=p
  ·rw[if_pos h2,h2,Nat.sub_self];rfl
  ·rw[if_neg h2,show k-p=k-p-1+1 by lia,Xn,List.getElem?_drop,show p+(k-p-1)=k-1 by lia]
theorem WF.put {t:SetTable}{hs:List Int}(w:WF t hs){h:Int}{N:Nat}(hb:cY t.mask h N<=t.mask)(hN:¬ tF t (cY t.mask h N))(hO:∀k,k<N->tF t (cY t.mask h k))(hr:t.place.size+1<=t.mask):
  WF (t.put (cY t.mask h N)).1 (hs.take (t.put (cY t.mask h N)).2++h::hs.drop (t.put (cY t.mask h N)).2)/\(t.put (cY t.mask h N)).2<=t.place.size:=by
 obtain⟨b1,b2,b3⟩:=gx w.zD (cY t.mask h N);have hp:(t.put (cY t.mask h N)).2=below t.place (cY t.mask h N):=rfl;rw[hp];generalize hx:cY t.mask h N=x at *
 generalize hq:below t.place x=p at *
 have e:(t.put x).1={t with place:=insertAt t.place p x}:=by
  unfold SetTable.put;dsimp only;rw[w.E7,hq];unfold has;simp
 have ne:∀k,p<=k->k<t.place.size->x<g t.place k:=λk h1 h2=>by
  have:=b3 k h1 h2;rcases WX x (g t.place k)with q|q
  ·exact q
  ·exact absurd ⟨k,h2,by lia⟩ hN
 have OB:(insertAt t.place p x).size=t.place.size+1:=Bn b1;have RE:∀y,tF t y->tF {t with place:=insertAt t.place p x} y:=by
  rintro y ⟨i,h1,h2⟩
  by_cases hi:i<p
  ·exact⟨i,by show i<(insertAt t.place p x).size;lia,by show g (insertAt t.place p x) i=y;rw[gk b1,if_pos hi];exact h2⟩
  ·exact⟨i+1,by show i+1<(insertAt t.place p x).size;lia,by show g (insertAt t.place p x) (i+1)=y;rw[gk b1,if_neg (by lia),if_neg (by lia)];exact h2⟩
 rw[e];refine⟨⟨w.E7,?_,?_,?_,w.Eg,?_,?_⟩,b1⟩
 ·show (insertAt t.place p x).size=_;rw[OB,VV,Wa,V7,XJ,<- w.sz];lia
 ·intro i j aD hj;have hj:j<t.place.size+1:=by rw[<- OB];exact hj
  show g (insertAt t.place p x) i<g (insertAt t.place p x) j;rw[gk b1,gk b1]
  by_cases h1:i<p
  ·rw[if_pos h1]
   by_cases h2:j<p
   ·rw[if_pos h2];exact w.zD i j aD (by lia)
   ·rw[if_neg h2]
    by_cases h3:j=p
    ·rw[if_pos h3];exact b2 i h1
    ·rw[if_neg h3];exact w.zD i (j-1) (by lia) (by lia)
  ·rw[if_neg h1,if_neg (show ¬ j<p by lia)]
   by_cases h3:i=p
   ·rw[if_pos h3,if_neg (show ¬ j=p by lia)];exact ne _ (by lia) (by lia)
   ·rw[if_neg h3,if_neg (show ¬ j=p by lia)];exact w.zD (i-1) (j-1) (by lia) (by lia)
 ·intro i hi;have hi:i<t.place.size+1:=by rw[<- OB];exact hi
  show g (insertAt t.place p x) i<=t.mask;rw[gk b1]
  split
  ·exact w.Sf i (by lia)
  ·split
   ·exact hb
   ·exact w.Sf _ (by lia)
 ·show (insertAt t.place p x).size<=t.mask;lia
 ·intro i h' nY;show ∃n,cY t.mask h' n=g (insertAt t.place p x) i/\_;have old:∀i h',hs[i]?=some h'->∃n,cY t.mask h' n=g t.place i/\∀k,k<n->tF {t with place:=insertAt t.place p x} (cY t.mask h' k):=λi h' q=>by
   obtain⟨n,h1,h2⟩:=w.S0 i h' q;exact⟨n,h1,λk hk=>RE _ (h2 k hk)⟩
  have hpl:p<=hs.length:=by rw[<- w.sz];exact b1
  by_cases h1:i<p
  ·rw[W9 (by rw[V7];lia),YE h1]at nY
   rw[gk b1,if_pos h1];exact old i h' nY
  ·rw[XH (by rw[V7];lia),V7,show min p hs.length=p by lia]at nY
   rw[gk b1,if_neg h1]
   by_cases h2:i=p
   ·rw[h2,Nat.sub_self]at nY;rw[if_pos h2];obtain rfl:h=h':=V5 nY;exact⟨N,hx,λk hk=>RE _ (hO k hk)⟩
   ·rw[show i-p=i-p-1+1 by lia,Xn,List.getElem?_drop,show p+(i-p-1)=i-1 by lia]at nY
    rw[if_neg h2];exact old (i-1) h' nY
theorem h_ {m i:Nat}(h:i<=m):i<=runEnd m i/\runEnd m i<=m:=by
 unfold runEnd
 split <;> lia
theorem zN (m:Nat)(h:Int):∀n,(iB m h n).j+(iB m h n).more<=m
 |0=>by
  show bits h % (m+1)+(runEnd m (bits h % (m+1))-bits h % (m+1))<=m;have hl:bits h % (m+1)<=m:=Nat.le_of_lt_succ (Yp _ (Nat.succ_pos _));have:=h_ hl;lia
 |n+1=>by
  have ih:=zN m h n;show (CL m (iB m h n)).j+(CL m (iB m h n)).more<=m;unfold CL advance
  split
  ·show (iB m h n).j+1+((iB m h n).more-1)<=m;lia
  ·show (leap m (iB m h n).i (iB m h n).perturb).1+(runEnd m (leap m (iB m h n).i (iB m h n).perturb).1-(leap m (iB m h n).i (iB m h n).perturb).1)<=m;have hl:(leap m (iB m h n).i (iB m h n).perturb).1<=m:=Nat.le_of_lt_succ (Yp _ (Nat.succ_pos _));have:=h_ hl;lia
theorem lG (m:Nat)(h:Int)(n:Nat):cY m h n<=m:=by
 have:=zN m h n;unfold cY;lia
abbrev Ow:=Array (Option Nat)
def gC (o:Ow)(j:Nat):Bool:=(o.getD j (some 0)).isNone
theorem oV {m:Nat}{o:Ow}(h:Int):∀(f b n:Nat) (j:Nat),iB m h n=Kb m (lp m h b)->layClean.free m o f (lp m h b).1 (lp m h b).2=some j->∃N,n<=N/\cY m h N=j/\gC o j=true/\∀k,n<=k->k<N->gC o (cY m h k)=false
 |0,b,n,j,_,e=>by cases e
 |f+1,b,n,j,hb,e=>by
  unfold layClean.free at e;have Pj:∀d,d<=runEnd m (lp m h b).1-(lp m h b).1->cY m h (n+d)=(lp m h b).1+d:=λd hd=>by
   unfold cY;rw[uH m h _ n hb d hd]
  have hl:(lp m h b).1<=m:=by
   have:=lG m h n;unfold cY at this;rw[hb]at this;exact this
  have hr:=h_ hl;cases hf:(VF (runEnd m (lp m h b).1+1-(lp m h b).1)).find? (λk=>(o.getD ((lp m h b).1+k) (some 0)).isNone)with
  |some k =>
   rw[hf]at e;dsimp only at e;obtain⟨h1,h2,h3⟩:=List.find?_range_eq_some.mp hf;have h2:=Wl.mp h2;refine⟨n+k,by lia,?_,?_,λx g1 g2=>?_⟩
   ·rw[Pj k (by lia)]
    exact V5 e
   ·rw[<- V5 e];exact h1
   ·have:=h3 (x-n) (by lia)
    rw[show x=n+(x-n) by lia,Pj (x-n) (by lia)]
    unfold gC;simpa using this
  |none =>
   rw[hf]at e;dsimp only at e;have h3:=List.find?_range_eq_none.mp hf;obtain⟨N,q1,q2,q3,q4⟩:=oV h f (b+1) (n+(runEnd m (lp m h b).1-(lp m h b).1)+1) j (tf m h _ n hb) e;refine⟨N,by lia,q2,q3,λx g1 g2=>?_⟩
   by_cases hx:n+(runEnd m (lp m h b).1-(lp m h b).1)+1<=x
   ·exact q4 x hx g2
   ·have:=h3 (x-n) (by lia)
    rw[show x=n+(x-n) by lia,Pj (x-n) (by lia)]
    unfold gC;simpa using this
theorem oW {m:Nat}{o:Ow}(h:Int):∀(f b:Nat),layClean.free m o f (lp m h b).1 (lp m h b).2=none->∀d,d<f->(lp m h (b+d)).1<=m->gC o (lp m h (b+d)).1=false
 |0,b,_,d,hd,_=>by lia
 |f+1,b,e,d,hd,hl=>by
  unfold layClean.free at e;cases hf:(VF (runEnd m (lp m h b).1+1-(lp m h b).1)).find? (λk=>(o.getD ((lp m h b).1+k) (some 0)).isNone)with
  |some k =>
   rw[hf]at e;cases e
  |none =>
   rw[hf]at e;dsimp only at e;cases d with
   |zero =>
    have:=List.find?_range_eq_none.mp hf 0 (by have:=h_ hl;rw[Nat.add_zero]at this;lia)
    unfold gC;simpa using this
   |succ d =>
    have:=oW h f (b+1) e d (by lia) (by rw[show b+1+d=b+(d+1) by lia];exact hl)
    rw[show b+1+d=b+(d+1) by lia]at this
    exact this
theorem Ib (j:Nat)(h:Int){t:Nat}(ht:t<2 ^ j):∃k,k<turns (2 ^ j-1)/\(lp (2 ^ j-1) h k).1=t:=by
 obtain⟨k,hk,e⟩:=lift j (lp (2 ^ j-1) h 13).1 t;refine⟨13+k,by unfold turns;lia,?_⟩
 rw[FY,e,ZE ht]
def ow (o:Ow)(j:Nat):Option Nat:=o.getD j none
theorem eU {α:Type}{f f':Nat->Option α}:∀(l:List Nat),(∀k∈l,f' k=f k)->l.filterMap f'=l.filterMap f
 |[],_=>rfl
 |x::l,h=>by
  rw[We,We,h x V8,eU l λk hk=>h k (V2 _ hk)]
theorem sI {α:Type}{f f':Nat->Option α}(l:List Nat)(h:∀k∈l,f' k=f k):l.filterMap f'=l.filterMap f:=eU l h
theorem sH {α:Type}(f f':Nat->Option α)(j:Nat)(v:α)(h1:f j=none)(h2:f' j=some v)(h3:∀k,k≠j->f' k=f k):∀N,j<N->((VF N).filterMap f').Perm (v::(VF N).filterMap f)
 |0,h=>by lia
 |N+1,h=>by
  rw[YO,YV,YV]
  by_cases e:j=N
  ·subst e;have e1:(VF j).filterMap f'=(VF j).filterMap f:=by
    exact eU _ λk hk=>h3 k (V_ (Wl.mp hk))
   rw[e1,We,h2,We,h1,List.filterMap_nil,List.filterMap_nil];show ((VF j).filterMap f++[v]).Perm (v::((VF j).filterMap f++[]));rw[WB];exact List.perm_append_comm
  ·have ih:=sH f f' j v h1 h2 h3 N (by lia)
   have e2:[N].filterMap f'=[N].filterMap f:=eU _ λk hk=>by
    rw[VD.mp hk];exact h3 N (λz=>e z.symm)
   rw[e2];exact ih.append_right _
theorem sJ {α:Type}(f:Nat->Option α):∀N,(∀k,k<N->(f k).isSome=true)->((VF N).filterMap f).length=N
 |0,_=>rfl
 |N+1,h=>by
  rw[YO,YV,VV,sJ f N λk hk=>h k (by lia)]
  have:=h N (by lia)
  cases e:f N with
  |none=>rw[e]at this;cases this
  |some x=>rw[We,e];rfl
structure Ld (m:Nat)(hs:Array Int)(o:Ow)(k:Nat):Prop where
 sz:o.size=m+1
 OZ:((VF (m+1)).filterMap (ow o)).Perm (VF k)
 way:∀j a,ow o j=some a->a<k/\∃n,cY m (hs.getD a 0) n=j/\∀x,x<n->gC o (cY m (hs.getD a 0) x)=false
theorem mL {o:Ow}{j:Nat}(h:j<o.size):gC o j=true↔ow o j=none:=by
 unfold gC ow;rw[V0,V0,getElem?_pos o j h];show (o[j]).isNone=true↔o[j]=none;exact Yr
theorem Ld.next {j0:Nat}{hs:Array Int}{o:Ow}{k:Nat}(L:Ld (2 ^ j0-1) hs o k)(hk:k<=2 ^ j0-1)(h:Int)(hh:hs.getD k 0=h):
  ∃j,layClean.free (2 ^ j0-1) o (turns (2 ^ j0-1)) (bits h % (2 ^ j0-1+1)) (bits h)=some j/\Ld (2 ^ j0-1) hs (o.setIfInBounds j (some k)) (k+1):=by
 have hP:0<2 ^ j0:=ZK (by decide)
 generalize hm:2 ^ j0-1=m at *
 obtain⟨x,hx,TX⟩:∃x,x<=m/\ow o x=none:=by
  refine XN λMH=>?_;have:=sJ (ow o) (m+1) λx hx=>by
   cases e:ow o x with
   |none=>exact absurd ⟨x,by lia,e⟩ MH
   |some _=>rfl
  rw[L.OZ.length_eq,V9]at this;lia
 cases hf:layClean.free m o (turns m) (bits h % (m+1)) (bits h)with
 |none =>
  exfalso
  obtain⟨c,hc,he⟩:=Ib j0 h (t:=x) (by lia)
  rw[hm]at hc he;have:=oW (m:=m) (o:=o) h (turns m) 0 hf c hc (by rw[Yl,he];exact hx)
  rw[Yl,he]at this;have q:=(mL (o:=o) (j:=x) (by rw[L.sz];lia)).mpr TX
  rw[q]at this;cases this
 |some j =>
  refine⟨j,rfl,?_⟩;obtain⟨N,_,q2,q3,q4⟩:=oV (m:=m) (o:=o) h (turns m) 0 0 j rfl hf;have hj:j<=m:=by rw[<- q2];exact lG m h N
  have Qj:j<o.size:=by rw[L.sz];lia
  have MG:ow o j=none:=(mL Qj).mp q3;have same:∀i,i≠j->ow (o.setIfInBounds j (some k)) i=ow o i:=λi hi=>by
   unfold ow;rw[V0,V0,Zw (λz=>hi z.symm)]
  have here:ow (o.setIfInBounds j (some k)) j=some k:=by
   unfold ow;rw[V0,YW Qj];rfl
  have shut:∀i,gC o i=false->gC (o.setIfInBounds j (some k)) i=false:=λi hi=>by
   unfold gC at *
   rw[V0]at *
   by_cases e:i=j
   ·subst e;rw[YW Qj];rfl
   ·rw[Zw (λz=>e z.symm)];exact hi
  refine⟨by rw[Array.size_setIfInBounds];exact L.sz,?_,λi a NU=>?_⟩
  ·refine(sH (ow o) _ j k MG here same (m+1) (by lia)).trans ?_
   refine(L.OZ.cons k).trans ?_;rw[YO];exact(List.perm_append_singleton k _).symm
  ·by_cases e:i=j
   ·subst e;rw[here]at NU;obtain rfl:=V5 NU;refine⟨ZF _,N,by rw[hh];exact q2,λx hx=>shut _ ?_⟩
    rw[hh];exact q4 x (VX _) hx
   ·rw[same i e]at NU;obtain⟨g1,n,g2,g3⟩:=L.way i a NU;exact⟨by lia,n,g2,λx hx=>shut _ (g3 x hx)⟩
theorem nG {j0:Nat}{hs:Array Int}(hk:hs.size<=2 ^ j0-1):∀(l:List Int) (k:Nat) (o:Ow),hs.toList.drop k=l->k+l.length=hs.size->Ld (2 ^ j0-1) hs o k ->
  ∃o',(l.foldl (λ(acc:Option (Ow×Nat)) h=>do
   let (owner,k) <- acc
   let j <- layClean.free (2 ^ j0-1) owner (turns (2 ^ j0-1)) (bits h % (2 ^ j0-1+1)) (bits h)
   pure (owner.setIfInBounds j (some k),k+1)) (some (o,k)))=some (o',hs.size)/\Ld (2 ^ j0-1) hs o' hs.size
 |[],k,o,e,z,L=>by
  obtain rfl:k=hs.size:=z;exact⟨o,rfl,L⟩
 |h::l,k,o,e,z,L=>by
  rw[Wa]at z;have jm:k<hs.toList.length:=by rw[VP];lia
  rw[WW jm]at e;injection e with e1 e2
  have hh:hs.getD k 0=h:=by
   rw[V0,<- Wm,VC jm,e1];rfl
  obtain⟨j,q1,q2⟩:=L.next (by lia) h hh
  rw[Yi];show ∃o',(l.foldl _ (do
   let j <- layClean.free (2 ^ j0-1) o (turns (2 ^ j0-1)) (bits h % (2 ^ j0-1+1)) (bits h)
   pure (o.setIfInBounds j (some k),k+1)))=_/\_
  rw[q1];exact nG hk l (k+1) _ e2 (by lia) q2
theorem Ld.start (m:Nat)(hs:Array Int):Ld m hs (Array.replicate (m+1) none) 0:=by
 have e:∀j,ow (Array.replicate (m+1) none) j=none:=λj=>by
  unfold ow;rw[V0,Array.getElem?_replicate]
  split <;> rfl
 refine⟨Array.size_replicate,?_,λj a h=>by rw[e]at h;cases h⟩
 rw[eU (f:=λ_=>(none:Option Nat)) _ λk _=>e k];have:∀l:List Nat,l.filterMap (λ_=>(none:Option Nat))=[]:=λl=>by
  induction l with
  |nil=>rfl
  |cons x l ih=>rw[We];exact ih
 rw[this];exact .refl _
theorem Ep {j0:Nat}{hs:Array Int}(h3:3<=j0)(hk:hs.size<=2 ^ j0-1)(finger moves:Nat)(led plain:Bool):
  ∃t order,laid (2 ^ j0-1) finger moves led plain hs=some (t,order)/\t.mask=2 ^ j0-1/\t.led=led/\t.plain=plain/\t.moves=moves/\order.toList.Perm (VF hs.size)/\WF t (order.toList.map λa=>hs.getD a 0)/\t.place.size=hs.size:=by
 obtain⟨o,e1,L⟩:=nG hk hs.toList 0 _ rfl (by rw[Yl,VP]) (Ld.start _ hs)
 have e2:layClean (2 ^ j0-1) hs=some o:=by
  unfold layClean;rw[<- Array.foldl_toList];exact congrArg (Option.map (·.1)) e1
 generalize hm:2 ^ j0-1=m at *
 have Lz:∀(l:List Nat),((l.filterMap λj=>(o.getD j none).map (j,·)).map (·.2))=l.filterMap (ow o):=λl=>by
  rw[List.map_filterMap];refine sI l λj _=>?_;rw[Option.map_map];show ((o.getD j none).map λa=>a)=_;rw[Option.map_id'];rfl
 generalize MI:((VF (m+1)).filterMap λj=>(o.getD j none).map (j,·))=live at *
 have pw:live.Pairwise (λx y=>x.1<y.1):=by
  rw[<- MI,List.pairwise_filterMap];refine YL.imp λ{a b} uL x hx y hy=>?_;obtain⟨_,_,rfl⟩:=VQ.mp hx;obtain⟨_,_,rfl⟩:=VQ.mp hy;exact uL
 have mem:∀x∈live,x.1<m+1/\ow o x.1=some x.2:=λx hx=>by
  rw[<- MI]at hx;obtain⟨j,hj,e⟩:=XX.mp hx;obtain⟨a,ha,rfl⟩:=VQ.mp e;exact⟨Wl.mp hj,ha⟩
 have ord:(live.map (·.2)).Perm (VF hs.size):=by
  rw[<- MI,Lz];exact L.OZ
 have len:live.length=hs.size:=by
  have:=ord.length_eq;rw[Vt,V9]at this;exact this
 have gp:∀i (hi:i<live.length),g (live.map (·.1)).toArray i=(live[i]).1:=λi hi=>by
  rw[g,V0,List.getElem?_toArray,VJ,VC hi];rfl
 refine⟨{mask:=m,place:=(live.map (·.1)).toArray,dummies:=#[],finger,led,moves,plain},(live.map (·.2)).toArray,?_,rfl,rfl,rfl,rfl,ord,?_,?_⟩
 ·unfold laid;rw[e2,<- MI];rfl
 ·have OX:(live.map (·.1)).toArray.size=live.length:=by rw[VO,Vt]
  refine⟨rfl,?_,?_,?_,⟨j0,h3,hm.symm⟩,?_,?_⟩
  ·show (live.map (·.1)).toArray.size=_;rw[OX,Vt,Vt]
  ·intro i j aD hj;have hj:j<live.length:=by rw[<- OX];exact hj
   show g (live.map (·.1)).toArray i<g (live.map (·.1)).toArray j;rw[gp i (by lia),gp j hj]
   exact List.pairwise_iff_getElem.mp pw i j (by lia) hj aD
  ·intro i hi;have hi:i<live.length:=by rw[<- OX];exact hi
   show g (live.map (·.1)).toArray i<=m;rw[gp i hi];have:=(mem _ (WC hi)).1;lia
  ·show (live.map (·.1)).toArray.size<=m;lia
  ·intro i h hi;show ∃n,cY m h n=g (live.map (·.1)).toArray i/\_;rw[VJ,VJ]at hi;have J1:i<live.length:=by
    rcases WX i live.length with q|q
    ·exact q
    ·rw[WE q]at hi;cases hi
   rw[VC J1]at hi;have hi:hs.getD (live[i]).2 0=h:=V5 hi;obtain⟨_,n,g2,g3⟩:=L.way _ _ (mem _ (WC J1)).2;rw[hi]at g2 g3;refine⟨n,by rw[gp i J1];exact g2,λk hk=>?_⟩
   have hv:=lG m h k;have IG:cY m h k<o.size:=by rw[L.sz];lia
   have:=g3 k hk;cases eo:ow o (cY m h k)with
   |none =>
    rw[(mL IG).mpr eo]at this;cases this
   |some a =>
    have lC:(cY m h k,a)∈live:=by
     rw[<- MI];exact XX.mpr ⟨cY m h k,Wl.mpr (by lia),by show (ow o (cY m h k)).map _=_;rw[eo];rfl⟩
    obtain⟨i',nY,e'⟩:=Y7 lC;exact⟨i',by show i'<(live.map (·.1)).toArray.size;lia,by show g (live.map (·.1)).toArray i'=_;rw[gp i' nY,e']⟩
 ·show (live.map (·.1)).toArray.size=hs.size;rw[VO,Vt];exact len
open PyProof.Rows
section
variable {prog:Vz}{w:VG}
abbrev TK (prog:Vz)(w:VG):=YJ (Yk prog w)
abbrev kH (prog:Vz)(w:VG)(k:List Int):Int:=(TK prog w).hash k
abbrev ent (prog:Vz)(w:VG)(x:Addr×List Int):Int×Vv:=(kH prog w x.2,.ref x.1)
structure fJ {α β:Type}(w:VG)(en:α->Int×Vv)(hk:α->Int)(ky:α->β)(o:Obj)(ts:List α)(es:Array (Int×Vv))(ep:Nat)(t:SetTable):Prop where
 ex:o.ExactSet
 dat:o.data=.set es ep t
 yT:es.toList=ts.map en
 wf:WF t (ts.map hk)
 Nz:t.place.size*5<t.mask*3
 Eg:t.mask<=8191
 led:t.led=!w.params.followText "set-order"
 xy:t.plain=true
 yL:(ts.map ky).Nodup
abbrev QZ (prog:Vz)(w:VG):=fJ w (ent prog w) (λx=>kH prog w x.2) (λx=>x.2)
section
variable {α β:Type}{en:α->Int×Vv}{hk:α->Int}{ky:α->β}{ts:List α}{o:Obj}{es:Array (Int×Vv)}{ep:Nat}{t:SetTable}
theorem fJ.fits (S:fJ w en hk ky o ts es ep t):t.fits es.size=true:=by
 have h1:=S.wf.sz;have h2:es.size=ts.length:=by rw[<- VP,S.yT,Vt]
 rw[Vt]at h1;unfold SetTable.fits SetTable.fill;rw[S.wf.E7,h2,h1];have:=S.Nz;simp;lia
theorem fJ.size (S:fJ w en hk ky o ts es ep t):es.size=ts.length/\t.place.size=ts.length:=by
 have h1:=S.wf.sz;rw[Vt]at h1;exact⟨by rw[<- VP,S.yT,Vt],h1⟩
end
end
end ST
namespace L2
open PySem PySem.Spec PyProof.Rows
inductive D where
 |cU|bl (b:Bool)|int (i:Int)|str (x:Str)|obj (a:Addr)
 |tup (ds:List D)|lst (ds:List D)
 |dT (ks:List (List Key)) (ds:List D)|dK (ks:List Key) (ds:List D)
 |sT (ts:List (List Int))
 |ob (φ:Addr->HO)
def GR (P:Vz)(w:VG)(a:Addr)(ts:List (Addr×List Int))(h:Heap):Prop:=∃o es ep t,h.get? a=some o/\ST.QZ P w o ts es ep t
abbrev Nd (P:Vz)(w:VG)(a:Addr)(ts:List (Addr×List Int)):HO:=.ext (GR P w a ts)
def Fs (P:Vz)(w:VG)(H:Hp)(a:Addr)(ts:List (List Int)):Prop :=
 ∃cj:List (Addr×List Int),H a=some (Nd P w a cj)/\(∀x∈cj,H x.1=some (.tup (x.2.map V.int)))/\(cj.map (·.2)).Perm ts
section
variable (P:Vz)(w:VG)(W:Addr->Prop)(H:Hp)
mutual
def az:D->V->Prop
 |.cU,v=>v=.cU
 |.bl b,v=>v=.bl b
 |.int i,v=>v=.int i
 |.str x,v=>v=.str x
 |.obj a,v=>v=.ref a
 |.tup ds,v=>∃a vs,v=.ref a/\H a=some (.tup vs)/\ai ds vs
 |.lst ds,v=>∃a vs,v=.ref a/\H a=some (.lst vs)/\¬ W a/\ai ds vs
 |.dT ks ds,v=>∃a vs,v=.ref a/\H a=some (.dT (ks.zip vs))/\ks.length=vs.length/\¬ W a/\ai ds vs
 |.dK ks ds,v=>∃a vs,v=.ref a/\H a=some (.dK (ks.zip vs))/\ks.length=vs.length/\¬ W a/\ai ds vs
 |.sT ts,v=>∃a,v=.ref a/\Fs P w H a ts/\¬ W a
 |.ob φ,v=>∃a,v=.ref a/\(H a=some (φ a)/\∀xs,φ a≠.tup xs)/\¬ W a
def ai:List D->List V->Prop
 |[],vs=>vs=[]
 |d::ds,vs=>∃v r,vs=v::r/\az d v/\ai ds r
end
end
mutual
def D.flat:D->Bool
 |.tup ds=>D.dg ds
 |.lst _=>false
 |.dT _ _=>false
 |.dK _ _=>false
 |.sT _=>false
 |.ob _=>false
 |_=>true
def D.dg:List D->Bool
 |[]=>true
 |d::ds=>D.flat d&&D.dg ds
end
structure Kp (W:Addr->Prop)(H H':Hp):Prop where
 out:∀b o,H b=some o->¬ W b->H' b=some o
 tup:∀b xs,H b=some (.tup xs)->H' b=some (.tup xs)
theorem Kp.refl {W:Addr->Prop}{H:Hp}:Kp W H H:=⟨λ_ _ e _=>e,λ_ _ e=>e⟩
theorem Kp.trans {W:Addr->Prop}{H H1 H2:Hp}(a:Kp W H H1)(b:Kp W H1 H2):Kp W H H2:=⟨λc o e n=>b.out c o (a.out c o e n) n,λc xs e=>b.tup c xs (a.tup c xs e)⟩
theorem ay.kp {W:Addr->Prop}{H H':Hp}(h:ay H H'):Kp W H H':=⟨λb o e _=>h b o e,λb xs e=>h b _ e⟩
theorem Kp.mono {W W':Addr->Prop}{H H':Hp}(h:Kp W H H')(s:∀a,W a->W' a):Kp W' H H':=⟨λb o e n=>h.out b o e λz=>n (s b z),h.tup⟩
section
variable {P:Vz}{w:VG}{W W':Addr->Prop}{H H':Hp}
mutual
theorem az.keep (k:Kp W H H'):∀{d:D} {v:V},az P w W H d v->az P w W H' d v
 |.cU,_,h=>h
 |.bl _,_,h=>h
 |.int _,_,h=>h
 |.str _,_,h=>h
 |.obj _,_,h=>h
 |.tup ds,_,⟨a,vs,e,t,r⟩=>⟨a,vs,e,k.tup a vs t,ai.keep k r⟩
 |.lst ds,_,⟨a,vs,e,t,n,r⟩=>⟨a,vs,e,k.out a _ t n,n,ai.keep k r⟩
 |.dT ks ds,_,⟨a,vs,e,t,l,n,r⟩=>⟨a,vs,e,k.out a _ t n,l,n,ai.keep k r⟩
 |.dK ks ds,_,⟨a,vs,e,t,l,n,r⟩=>⟨a,vs,e,k.out a _ t n,l,n,ai.keep k r⟩
 |.sT ts,_,⟨a,e,⟨cj,t,r,z⟩,n⟩=>⟨a,e,⟨cj,k.out a _ t n,λx hx=>k.tup _ _ (r x hx),z⟩,n⟩
 |.ob φ,_,⟨a,e,⟨t,z⟩,n⟩=>⟨a,e,⟨k.out a _ t n,z⟩,n⟩
theorem ai.keep (k:Kp W H H'):∀{ds:List D} {vs:List V},ai P w W H ds vs->ai P w W H' ds vs
 |[],_,h=>h
 |d::ds,_,⟨v,r,e,h1,h2⟩=>⟨v,r,e,az.keep k h1,ai.keep k h2⟩
end
mutual
theorem az.aO (s:∀a,W' a->W a):∀{d:D} {v:V},az P w W H d v->az P w W' H d v
 |.cU,_,h=>h
 |.bl _,_,h=>h
 |.int _,_,h=>h
 |.str _,_,h=>h
 |.obj _,_,h=>h
 |.tup ds,_,⟨a,vs,e,t,r⟩=>⟨a,vs,e,t,ai.aO s r⟩
 |.lst ds,_,⟨a,vs,e,t,n,r⟩=>⟨a,vs,e,t,λz=>n (s a z),ai.aO s r⟩
 |.dT ks ds,_,⟨a,vs,e,t,l,n,r⟩=>⟨a,vs,e,t,l,λz=>n (s a z),ai.aO s r⟩
 |.dK ks ds,_,⟨a,vs,e,t,l,n,r⟩=>⟨a,vs,e,t,l,λz=>n (s a z),ai.aO s r⟩
 |.sT ts,_,⟨a,e,t,n⟩=>⟨a,e,t,λz=>n (s a z)⟩
 |.ob φ,_,⟨a,e,t,n⟩=>⟨a,e,t,λz=>n (s a z)⟩
theorem ai.aO (s:∀a,W' a->W a):∀{ds:List D} {vs:List V},ai P w W H ds vs->ai P w W' H ds vs
 |[],_,h=>h
 |d::ds,_,⟨v,r,e,h1,h2⟩=>⟨v,r,e,az.aO s h1,ai.aO s h2⟩
end
mutual
theorem az.flat:∀{d:D} {v:V},d.flat=true->az P w W H d v->az P w W' H d v
 |.cU,_,_,h=>h
 |.bl _,_,_,h=>h
 |.int _,_,_,h=>h
 |.str _,_,_,h=>h
 |.obj _,_,_,h=>h
 |.tup ds,_,f,⟨a,vs,e,t,r⟩=>⟨a,vs,e,t,ai.flat (by simpa[D.flat] using f) r⟩
 |.lst ds,_,f,_=>by simp[D.flat]at f
 |.dT ks ds,_,f,_=>by simp[D.flat]at f
 |.dK ks ds,_,f,_=>by simp[D.flat]at f
 |.sT ts,_,f,_=>by simp[D.flat]at f
 |.ob φ,_,f,_=>by simp[D.flat]at f
theorem ai.flat:∀{ds:List D} {vs:List V},D.dg ds=true->ai P w W H ds vs->ai P w W' H ds vs
 |[],_,_,h=>h
 |d::ds,_,f,⟨v,r,e,h1,h2⟩=>by
  have f':(d.flat&&D.dg ds)=true:=f;rw[Wf]at f';exact⟨v,r,e,az.flat f'.1 h1,ai.flat f'.2 h2⟩
end
theorem az.same (s:ay H H'){d:D}{v:V}(h:az P w W H d v):az P w W H' d v:=h.keep s.kp
theorem ai.same (s:ay H H'){ds:List D}{vs:List V}(h:ai P w W H ds vs):ai P w W H' ds vs:=h.keep s.kp
theorem ai.length:∀{ds:List D} {vs:List V},ai P w W H ds vs->vs.length=ds.length
 |[],_,h=>by rw[show _=[] from h];rfl
 |d::ds,_,⟨v,r,e,h1,h2⟩=>by rw[e,Wa,Wa,ai.length h2]
theorem ai.get:∀{ds:List D} {vs:List V} {i:Nat} {d:D},ai P w W H ds vs->ds[i]?=some d->∃v,vs[i]?=some v/\az P w W H d v
 |[],_,_,_,_,e=>by simp at e
 |d::ds,_,0,_,⟨v,r,e,h1,h2⟩,e'=>by simp at e';subst e' e;exact⟨v,by simp,h1⟩
 |d::ds,_,i+1,_,⟨v,r,e,h1,h2⟩,e'=>by
  subst e;obtain⟨u,e1,e2⟩:=ai.get (i:=i) h2 (by simpa using e')
  exact⟨u,by simpa using e1,e2⟩
theorem ai.append:∀{ds ds':List D} {vs vs':List V},ai P w W H ds vs->ai P w W H ds' vs'->ai P w W H (ds++ds') (vs++vs')
 |[],_,_,_,h,h'=>by rw[show _=[] from h];exact h'
 |d::ds,_,_,_,⟨v,r,e,h1,h2⟩,h'=>by subst e;exact⟨v,_,rfl,h1,ai.append h2 h'⟩
theorem ai.one {d:D}{v:V}(h:az P w W H d v):ai P w W H [d] [v]:=⟨v,[],rfl,h,rfl⟩
theorem ai.take:∀{ds:List D} {vs:List V} (n:Nat),ai P w W H ds vs->ai P w W H (ds.take n) (vs.take n)
 |[],_,n,h=>by rw[show _=[] from h];simp[ai]
 |d::ds,_,0,_=>by simp[ai]
 |d::ds,_,n+1,⟨v,r,e,h1,h2⟩=>by subst e;exact⟨v,_,rfl,h1,ai.take n h2⟩
theorem ai.drop:∀{ds:List D} {vs:List V} (n:Nat),ai P w W H ds vs->ai P w W H (ds.drop n) (vs.drop n)
 |[],_,n,h=>by rw[show _=[] from h];simp[ai]
 |d::ds,_,0,h=>h
 |d::ds,_,n+1,⟨v,r,e,h1,h2⟩=>by subst e;exact ai.drop n h2
end
open PySem.SeqAt
abbrev Dm (W:Addr->Prop)(H:Hp):Prop:=∀a,W a->H a≠none
abbrev Rp (X:Cx)(W:Addr->Prop)(H:Hp)(d:D)(v:V):Prop:=az X.prog X.w W H d v
abbrev tD (X:Cx)(W:Addr->Prop)(H:Hp)(ds:List D)(vs:List V):Prop:=ai X.prog X.w W H ds vs
def Rz (X:Cx)(f:D->Option D):V->Hp->VK->Prop:=λx H Q=>∃W d1 d,Dm W H/\Rp X W H d1 x/\f d1=some d/\∀v H',ay H H'->Rp X W H' d v->Q v H'
def Ry (X:Cx)(f:D->D->Option D):R2:=λx y H Q=>∃W d1 d2 d,Dm W H/\Rp X W H d1 x/\Rp X W H d2 y/\f d1 d2=some d/\∀v H',ay H H'->Rp X W H' d v->Q v H'
def S4 (X:Cx)(f:List D->Option D):List V->Hp->VK->Prop:=λxs H Q=>∃W ds d,Dm W H/\tD X W H ds xs/\f ds=some d/\∀v H',ay H H'->Rp X W H' d v->Q v H'
abbrev cy (X:Cx)(f:Vv->Vv->Sem Vv)(g:D->D->Option D):Prop:=j8 X f (Ry X g)
abbrev bO (X:Cx)(f:Vv)(g:List D->Option D):Prop:=eY X f (S4 X g)
section
variable {X:Cx}{W:Addr->Prop}{H:Hp}
theorem DY {p:Addr}(d:Dm W H)(n:H p=none):¬ W p:=λz=>d p z n
theorem Rp.ql {p:Addr}{vs:List V}{ds:List D}(d:Dm W H)(n:H p=none)(r:tD X W H ds vs):Rp X W (upd H p (.lst vs)) (.lst ds) (.ref p) :=
 ⟨p,vs,rfl,ao,DY d n,r.same (ay.new n)⟩
end
def D.Iz:D->Option Int
 |.int i=>some i
 |_=>none
def D.Iy:D->Option (List D)
 |.lst a=>some a
 |_=>none
def D.LG:D->Option (List D)
 |.tup a=>some a
 |_=>none
def D.CP:D->Bool
 |.cU=>true
 |_=>false
theorem D.jH {d:D}{i:Int}(h:d.Iz=some i):d=.int i:=by cases d <;> first|(cases h;rfl)|cases h
theorem D.mV {d:D}{i:List D}(h:d.Iy=some i):d=.lst i:=by cases d <;> first|(cases h;rfl)|cases h
theorem D.Bk {d:D}{i:List D}(h:d.LG=some i):d=.tup i:=by cases d <;> first|(cases h;rfl)|cases h
theorem D.sf {d:D}(h:d.CP=true):d=.cU:=by cases d <;> first|rfl|cases h
theorem D.Ex {d:D}:d=.cU↔d.CP=true:=⟨λe=>by rw[e];rfl,D.sf⟩
def sj (f:Int->Int->Option D)(a b:D):Option D:=match a.Iz,b.Iz with
 |some i,some j=>f i j
 |_,_=>none
theorem kL {f:Int->Int->Option D}{a b d:D}(h:sj f a b=some d):∃i j,a=.int i/\b=.int j/\f i j=some d:=by
 unfold sj at h;cases ha:a.Iz with
 |none=>rw[ha]at h;cases h
 |some i =>
  cases hb:b.Iz with
  |none=>rw[ha,hb]at h;cases h
  |some j=>rw[ha,hb]at h;exact⟨i,j,D.jH ha,D.jH hb,h⟩
def Ia (f:D->D->Option D)(g:List D->List D->Option D)(a b:D):Option D:=match a.Iy,b.Iy with
 |some i,some j=>g i j
 |_,_=>f a b
theorem xV {f:D->D->Option D}{g:List D->List D->Option D}{a b d:D}(h:Ia f g a b=some d):(∃i j,a=.lst i/\b=.lst j/\g i j=some d)\/f a b=some d:=by
 unfold Ia at h;cases ha:a.Iy with
 |none=>rw[ha]at h;exact .inr h
 |some i =>
  cases hb:b.Iy with
  |none=>rw[ha,hb]at h;exact .inr h
  |some j=>rw[ha,hb]at h;exact .inl ⟨i,j,D.mV ha,D.mV hb,h⟩
def Fe:D->D->Option D:=Ia (sj λi j=>some (.int (i+j))) λa b=>if a.length+b.length<=VH then some (.lst (a++b)) else none
def QM:D->D->Option D:=sj λi j=>some (.int (i-j))
instance (i j:Int):Decidable (CJ i j):=by unfold CJ;infer_instance
instance (i j:Int):Decidable (ve i j):=by unfold ve;infer_instance
def Jn:D->D->Option D:=sj λi j=>if ve i j then some (.int (i ^ j.toNat)) else none
def QO:D->Option D
 |.int i=>some (.int (-i))
 |_=>none
section
variable {X:Cx}
theorem g8 {c:Prop}[Decidable c]{α:Type}{a b:α}(h:(if c then some a else none)=some b):c/\b=a:=by
 by_cases hc:c
 ·rw[if_pos hc]at h;cases h;exact⟨hc,rfl⟩
 ·rw[if_neg hc]at h;cases h
theorem K_ {f:Vv->Vv->Sem Vv}{C:Int->Int->Prop}{g:Int->Int->V}{h:Int->Int->D}{F:Int->Int->Option D}(ho:j8 X f (rI C g))(hF:∀i j d,F i j=some d->C i j/\d=h i j)
  (hg:∀(W:Addr->Prop) (H:Hp) i j,Rp X W H (h i j) (g i j)):cy X f (sj F):=by
 intro pins s σ H x y v u Q I rx ry hh;obtain⟨W,d1,d2,d,hd,r1,r2,e,q⟩:=hh;obtain⟨i,j,rfl,rfl,e⟩:=kL e;obtain⟨c,rfl⟩:=hF _ _ _ e;cases r1;cases r2;exact ho pins s σ H _ _ v u Q I rx ry ⟨i,j,rfl,rfl,c,q _ _ (ay.refl _) (hg W H i j)⟩
theorem Ay {f:Vv->Vv->Sem Vv}{g:Int->Int->V}{h:Int->Int->D}(ho:j8 X f (Dj g))
  (hg:∀(W:Addr->Prop) (H:Hp) i j,Rp X W H (h i j) (g i j)):cy X f (sj λi j=>some (h i j)):=by
 intro pins s σ H x y v u Q I rx ry hh;obtain⟨W,d1,d2,d,hd,r1,r2,e,q⟩:=hh;obtain⟨i,j,rfl,rfl,e⟩:=kL e;cases e;cases r1;cases r2;exact ho pins s σ H _ _ v u Q I rx ry ⟨i,j,rfl,rfl,q _ _ (ay.refl _) (hg W H i j)⟩
theorem bx:cy X (Xv .Sub) QM:=Ay (h:=λi j=>.int (i-j)) Au λ_ _ _ _=>rfl
theorem jC:cy X (Xv .Pow) Jn:=K_ (h:=λi j=>.int (i ^ j.toNat)) Av (λ_ _ _ e=>g8 e) λ_ _ _ _=>rfl
theorem fZ:Nb X (unaryOp .USub) (Rz X QO):=by
 intro pins s σ H x v Q I rx h;obtain⟨W,d1,d,hd,r1,e,q⟩:=h;cases d1 with
 |int i=>cases e;cases r1;exact tZ pins s σ H _ v Q I rx ⟨i,rfl,q _ _ (ay.refl _) rfl⟩
 |_=>cases e
end
def Fd (p:Int->Int->Bool):D->D->Option D:=sj λi j=>some (.bl (p i j))
abbrev NZ:D->D->Option D:=Fd λi j=>decide (i<j)
abbrev UE:D->D->Option D:=Fd λi j=>decide (i<=j)
abbrev gK:D->D->Option D:=Fd λi j=>decide (j<i)
section
variable {X:Cx}
theorem qe {p:Int->Int->Bool}{f:Vv->Vv->Sem Vv}(ho:j8 X f (Dj λi j=>.bl (p i j))):cy X f (Fd p):=Ay (h:=λi j=>.bl (p i j)) ho λ_ _ _ _=>rfl
theorem cQ:cy X (Ww .Lt) NZ:=qe K8
theorem fG:cy X (Ww .LtE) UE:=qe K9
theorem qd:cy X (Ww .Gt) gK:=qe FQ
end
mutual
def D.pd:D->PyData
 |.cU=>.none
 |.bl b=>.bool b
 |.int i=>.int i
 |.str x=>.str x
 |.tup ds=>.tuple (D.jl ds)
 |.lst ds=>.list (D.jl ds)
 |_=>.dict []
def D.jl:List D->List PyData
 |[]=>[]
 |d::ds=>d.pd::D.jl ds
end
abbrev D.ua (d:D):Bool:=shaped d.pd
mutual
theorem bR {X:Cx}{pins:List (Addr×Obj)}{σ:St}{H:Hp}{s:Vw}(I:Inv X pins σ H s){W:Addr->Prop}:∀{d:D} {v:V} {u:Vv},Rp X W H d v->RelV v u->d.pd.canLay0=true->∃as,Reads s.heap u d.pd as
 |.cU,_,_,h,r,_=>by cases h;cases r;exact⟨_,.none⟩
 |.bl b,_,_,h,r,_=>by cases h;cases r;exact⟨_,.bool b⟩
 |.int i,_,_,h,r,_=>by cases h;obtain⟨t,rfl⟩:=r;exact⟨_,.int i t⟩
 |.str x,_,_,h,r,_=>by cases h;obtain⟨t,rfl⟩:=r;exact⟨_,.str x t⟩
 |.tup ds,_,_,h,r,c=>by
  obtain⟨a,vs,rfl,e,q⟩:=h;cases r;obtain⟨its,rv,⟨o,ho,hc,n,hd⟩,hz⟩:=I.tuple (lr.of e);obtain⟨as,ha⟩:=gR I q rv (by simpa[D.pd,WI] using c)
  exact⟨_,.tuple ho hc hd (by simpa using ha)⟩
 |.lst ds,_,_,h,r,c=>by
  obtain⟨a,vs,rfl,e,_,q⟩:=h;cases r;obtain⟨z,its,n,rv,e'⟩:=I.a6 a _ e;obtain⟨as,ha⟩:=gR I q rv (by simpa[D.pd,WI] using c)
  exact⟨_,.list e' rfl rfl (by simpa using ha)⟩
 |.obj _,_,_,_,_,c=>by simp[D.pd,WI]at c
 |.dT _ _,_,_,_,_,c=>by simp[D.pd,WI]at c
 |.dK _ _,_,_,_,_,c=>by simp[D.pd,WI]at c
 |.sT _,_,_,_,_,c=>by simp[D.pd,WI]at c
 |.ob _,_,_,_,_,c=>by simp[D.pd,WI]at c
theorem gR {X:Cx}{pins:List (Addr×Obj)}{σ:St}{H:Hp}{s:Vw}(I:Inv X pins σ H s){W:Addr->Prop}:∀{ds:List D} {vs:List V} {us:List Vv},tD X W H ds vs->Vals vs us->XB (D.jl ds)=true->∃as,ReadsAll s.heap us (D.jl ds) as
 |[],_,_,h,r,_=>by
  rw[show _=[] from h]at r
  cases r;exact⟨_,.nil⟩
 |d::ds,_,_,⟨v,vr,e,h1,h2⟩,r,c=>by
  subst e;have c':(d.pd.canLay0&&XB (D.jl ds))=true:=c;rw[Wf]at c';cases r with
  |cons r1 r2 =>
   obtain⟨as,ha⟩:=bR I h1 r1 c'.1;obtain⟨bs,hb⟩:=gR I h2 r2 c'.2;exact⟨_,.cons ha hb⟩
end
def N0 (a b:D):Option D:=if a.ua=true/\b.ua=true then some (.bl (Xd a.pd b.pd)) else none
def NY (a b:D):Option D:=if a.ua=true/\b.ua=true then some (.bl (!Xd a.pd b.pd)) else none
section
variable {X:Cx}
theorem gc (hu:X.A.units+64<XQ):cy X (Ww .Eq) N0:=by
 intro pins s σ H x y v u Q I rx ry h;obtain⟨W,d1,d2,d,hd,r1,r2,e,q⟩:=h;obtain⟨⟨s1,s2⟩,rfl⟩:=g8 e;obtain⟨as,ra⟩:=bR I r1 rx (Wh s1);obtain⟨bs,rb⟩:=bR I r2 ry (Wh s2);exact compareEq_shaped ra rb s1 s2 hu ⟨.bl _,H,I,rfl,q _ _ (ay.refl _) rfl⟩
theorem Ax (hu:X.A.units+64<XQ):cy X (Ww .NotEq) NY:=by
 intro pins s σ H x y v u Q I rx ry h;obtain⟨W,d1,d2,d,hd,r1,r2,e,q⟩:=h;obtain⟨⟨s1,s2⟩,rfl⟩:=g8 e;obtain⟨as,ra⟩:=bR I r1 rx (Wh s1);obtain⟨bs,rb⟩:=bR I r2 ry (Wh s2);exact compareNe_shaped ra rb s1 s2 hu ⟨.bl _,H,I,rfl,q _ _ (ay.refl _) rfl⟩
def QP (a b:D):Option D:=match b.CP with
 |true=>some (.bl a.CP)
 |false=>none
def M3 (a b:D):Option D:=match b.CP with
 |true=>some (.bl (!a.CP))
 |false=>none
theorem Rp.DX {W:Addr->Prop}{H:Hp}{d:D}{v:V}(h:Rp X W H d v):v=.cU↔d=.cU:=by
 cases d with
 |cU=>cases h;simp
 |bl b=>cases h;simp
 |int i=>cases h;simp
 |str x=>cases h;simp
 |obj a=>cases h;simp
 |tup ds=>obtain⟨a,vs,rfl,_⟩:=h;simp
 |lst ds=>obtain⟨a,vs,rfl,_⟩:=h;simp
 |dT ks ds=>obtain⟨a,vs,rfl,_⟩:=h;simp
 |dK ks ds=>obtain⟨a,vs,rfl,_⟩:=h;simp
 |sT ts=>obtain⟨a,rfl,_⟩:=h;simp
 |ob φ=>obtain⟨a,rfl,_⟩:=h;simp
theorem sg {b d e:D}(h:(match b.CP with|true=>some d|false=>none)=some e):b=.cU/\e=d:=by
 cases q:b.CP with
 |true=>rw[q]at h;cases h;exact⟨D.sf q,rfl⟩
 |false=>rw[q]at h;cases h
theorem Rp.vU {W:Addr->Prop}{H:Hp}{d:D}{v:V}(h:Rp X W H d v):decide (v=.cU)=d.CP:=by
 have q:=h.DX.trans D.Ex;cases e:d.CP with
 |true=>exact decide_eq_true (q.mpr e)
 |false=>exact decide_eq_false λz=>by rw[q.mp z]at e;cases e
theorem DO:cy X (Ww .Is) QP:=by
 intro pins s σ H x y v u Q I rx ry h;obtain⟨W,d1,d2,d,hd,r1,r2,e,q⟩:=h;obtain⟨rfl,rfl⟩:=sg e;cases r2;exact HB pins s σ H _ _ v u Q I rx ry ⟨rfl,q _ _ (ay.refl _) (congrArg V.bl r1.vU)⟩
theorem Aw:cy X (Ww .IsNot) M3:=by
 intro pins s σ H x y v u Q I rx ry h;obtain⟨W,d1,d2,d,hd,r1,r2,e,q⟩:=h;obtain⟨rfl,rfl⟩:=sg e;cases r2;exact DN pins s σ H _ _ v u Q I rx ry ⟨rfl,q _ _ (ay.refl _) (congrArg (λb=>V.bl (!b)) r1.vU)⟩
end
noncomputable def Js:D->D->Option Bool
 |a,.lst ds=>if a.ua=true/\(D.lst ds).ua=true then some ((D.jl ds).any λy=>Xd y a.pd) else none
 |a,.tup ds=>if a.ua=true/\(D.tup ds).ua=true then some ((D.jl ds).any λy=>Xd y a.pd) else none
 |_,_=>none
def QR (a b:D):Option D:=(Js a b).map .bl
def uX (a b:D):Option D:=(Js a b).map λc=>.bl (!c)
theorem lJ {ds:List D}{n:PyData}(hn:n=.list (D.jl ds)\/n=.tuple (D.jl ds))(h:shaped n=true):XB (D.jl ds)=true/\WK (D.jl ds)<=64:=by
 have h1:=Wh h;have h2:=depth_of_shaped h;rcases hn with rfl|rfl
 ·refine⟨by simpa[WI] using h1,?_⟩
  have:XI (.list (D.jl ds))=WK (D.jl ds)+1:=by simp[XI]
  lia
 ·refine⟨by simpa[WI] using h1,?_⟩
  have:XI (.tuple (D.jl ds))=WK (D.jl ds)+1:=by simp[XI]
  lia
section
variable {X:Cx}
theorem uu (hu:X.A.units+64+1<XQ):cy X (Ww .In) QR:=by
 intro pins s σ H x y v u Q I rx ry h;obtain⟨W,d1,d2,d,hd,r1,r2,e,q⟩:=h;cases d2 with
 |lst ds =>
  obtain⟨b,e1,rfl⟩:=VQ.mp e;obtain⟨⟨s1,s2⟩,rfl⟩:=g8 e1;obtain⟨as,ra⟩:=bR I r1 rx (Wh s1);obtain⟨bs,rb⟩:=bR I r2 ry (Wh s2);obtain⟨c1,c2⟩:=lJ (.inl rfl) s2;exact in_list_reads rb ra c1 (Wh s1) (by have:=Yh (WK (D.jl ds)) d1.pd.depth;lia) ⟨.bl _,H,I,rfl,q _ _ (ay.refl _) rfl⟩
 |tup ds =>
  obtain⟨b,e1,rfl⟩:=VQ.mp e;obtain⟨⟨s1,s2⟩,rfl⟩:=g8 e1;obtain⟨as,ra⟩:=bR I r1 rx (Wh s1);obtain⟨bs,rb⟩:=bR I r2 ry (Wh s2);obtain⟨c1,c2⟩:=lJ (.inr rfl) s2;exact in_tuple_reads rb ra c1 (Wh s1) (by have:=Yh (WK (D.jl ds)) d1.pd.depth;lia) ⟨.bl _,H,I,rfl,q _ _ (ay.refl _) rfl⟩
 |_=>cases e
theorem xH (hu:X.A.units+64+1<XQ):cy X (Ww .NotIn) uX:=by
 intro pins s σ H x y v u Q I rx ry h;obtain⟨W,d1,d2,d,hd,r1,r2,e,q⟩:=h;cases d2 with
 |lst ds =>
  obtain⟨b,e1,rfl⟩:=VQ.mp e;obtain⟨⟨s1,s2⟩,rfl⟩:=g8 e1;obtain⟨as,ra⟩:=bR I r1 rx (Wh s1);obtain⟨bs,rb⟩:=bR I r2 ry (Wh s2);obtain⟨c1,c2⟩:=lJ (.inl rfl) s2;exact notIn_list_reads rb ra c1 (Wh s1) (by have:=Yh (WK (D.jl ds)) d1.pd.depth;lia) ⟨.bl _,H,I,rfl,q _ _ (ay.refl _) rfl⟩
 |tup ds =>
  obtain⟨b,e1,rfl⟩:=VQ.mp e;obtain⟨⟨s1,s2⟩,rfl⟩:=g8 e1;obtain⟨as,ra⟩:=bR I r1 rx (Wh s1);obtain⟨bs,rb⟩:=bR I r2 ry (Wh s2);obtain⟨c1,c2⟩:=lJ (.inr rfl) s2;exact notIn_tuple_reads rb ra c1 (Wh s1) (by have:=Yh (WK (D.jl ds)) d1.pd.depth;lia) ⟨.bl _,H,I,rfl,q _ _ (ay.refl _) rfl⟩
 |_=>cases e
def yW (a b:D):Option D:=match b.Iz with
 |some i=>match a.Iy with
  |some ds=>qM ds i
  |none=>match a.LG with
   |some ds=>qM ds i
   |none=>none
 |none=>none
theorem Cb {a b d:D}(h:yW a b=some d):∃ds i,(a=.lst ds\/a=.tup ds)/\b=.int i/\qM ds i=some d:=by
 unfold yW at h;cases hb:b.Iz with
 |none=>rw[hb]at h;cases h
 |some i =>
  rw[hb]at h;cases ha:a.Iy with
  |some ds=>rw[ha]at h;exact⟨ds,i,.inl (D.mV ha),D.jH hb,h⟩
  |none =>
   rw[ha]at h;cases ht:a.LG with
   |some ds=>rw[ht]at h;exact⟨ds,i,.inr (D.Bk ht),D.jH hb,h⟩
   |none=>rw[ht]at h;cases h
theorem tD.qM {W:Addr->Prop}{H:Hp}{ds:List D}{vs:List V}{i:Int}{d:D}(h:tD X W H ds vs)(e:L2.qM ds i=some d):∃v,L2.qM vs i=some v/\Rp X W H d v:=by
 unfold L2.qM at *
 rw[h.length];cases q:yb ds.length i with
 |none=>rw[q]at e;cases e
 |some j =>
  rw[q]at e;exact ai.get h e
theorem Iu:Fw X (Ry X yW):=by
 intro value slice pins s σ H x y v u Q I rx ry h hs;obtain⟨W,d1,d2,d,hd,r1,r2,e,q⟩:=h;obtain⟨ds,i,h,rfl,e⟩:=Cb e;cases r2;rcases h with rfl|rfl
 ·obtain⟨p,vs,rfl,h1,n1,q1⟩:=r1;obtain⟨z,hz,rz⟩:=tD.qM (X:=X) q1 e;exact fA value slice pins s σ H _ _ v u Q I rx ry ⟨p,vs,i,z,rfl,rfl,eE.of h1,hz,q _ _ (ay.refl _) rz⟩ hs
 ·obtain⟨p,vs,rfl,h1,q1⟩:=r1;obtain⟨z,hz,rz⟩:=tD.qM (X:=X) q1 e;exact Bi value slice pins s σ H _ _ v u Q I rx ry ⟨p,vs,i,z,rfl,rfl,lr.of h1,hz,q _ _ (ay.refl _) rz⟩ hs
def cutD (xs:List D)(lo hi:Option Int):List D:=(xs.drop (HT.k6 xs.length 0 lo)).take (HT.k6 xs.length xs.length hi-HT.k6 xs.length 0 lo)
def M0:D->Option Int->Option Int->Option D
 |.lst ds,lo,hi=>some (.lst (cutD ds lo hi))
 |_,_,_=>none
def Jq:List D->Option D
 |[.lst ds]=>some (.int ds.length)
 |[.tup ds]=>some (.int ds.length)
 |_=>none
theorem bf:bO X (.builtin "len") Jq:=by
 intro pins s σ H xs us Q I r h;obtain⟨W,ds,d,hd,r1,e,q⟩:=h
 match ds,e with
 |[.lst es],e =>
  cases e;obtain⟨v,r',rfl,⟨p,vs,rfl,h1,n1,q1⟩,hr⟩:=r1;cases hr;refine j5 pins s σ H _ us Q I r ⟨p,vs,rfl,.inl (eE.of h1),?_⟩;rw[q1.length];exact q _ _ (ay.refl _) rfl
 |[.tup es],e =>
  cases e;obtain⟨v,r',rfl,⟨p,vs,rfl,h1,q1⟩,hr⟩:=r1;cases hr;refine j5 pins s σ H _ us Q I r ⟨p,vs,rfl,.inr (lr.of h1),?_⟩;rw[q1.length];exact q _ _ (ay.refl _) rfl
def dList:List D->Option D
 |[.lst ds]=>some (.lst ds)
 |[.tup ds]=>some (.lst ds)
 |_=>none
def B_:List D->Option D
 |[.int i,.int j]=>some (.int (if j>i then j else i))
 |_=>none
def wB:List D->Option D
 |[.int i,.int j]=>some (.int (if j<i then j else i))
 |_=>none
theorem Cu {W:Addr->Prop}{H:Hp}{a b:D}{xs:List V}(h:tD X W H [a,b] xs):∃x y,xs=[x,y]/\Rp X W H a x/\Rp X W H b y:=by
 obtain⟨x,r,rfl,hx,y,r',rfl,hy,hr⟩:=h;cases hr;exact⟨x,y,rfl,hx,hy⟩
theorem tw {W:Addr->Prop}{H:Hp}{a:D}{xs:List V}(h:tD X W H [a] xs):∃x,xs=[x]/\Rp X W H a x:=by
 obtain⟨x,r,rfl,hx,hr⟩:=h;cases hr;exact⟨x,rfl,hx⟩
theorem u7 (hc:X.calm=true):bO X (.builtin "max") B_:=by
 intro pins s σ H xs us Q I r h;obtain⟨W,ds,d,hd,r1,e,q⟩:=h
 match ds,e with
 |[.int i,.int j],e =>
  cases e;obtain⟨x,y,rfl,hx,hy⟩:=Cu r1;cases hx;cases hy;exact pj hc pins s σ H _ us Q I r ⟨i,j,rfl,q _ _ (ay.refl _) rfl⟩
theorem u6 (hc:X.calm=true):bO X (.builtin "min") wB:=by
 intro pins s σ H xs us Q I r h;obtain⟨W,ds,d,hd,r1,e,q⟩:=h
 match ds,e with
 |[.int i,.int j],e =>
  cases e;obtain⟨x,y,rfl,hx,hy⟩:=Cu r1;cases hx;cases hy;exact yx hc pins s σ H _ us Q I r ⟨i,j,rfl,q _ _ (ay.refl _) rfl⟩
def QQ:List D->Option D
 |[.int i]=>some (.int i)
 |[.bl k]=>some (.int (if k then 1 else 0))
 |_=>none
theorem yy:bO X (.type "int") QQ:=by
 intro pins s σ H xs us Q I r h;obtain⟨W,ds,d,hd,r1,e,q⟩:=h
 match ds,e with
 |[.int i],e =>
  cases e;obtain⟨x,rfl,hx⟩:=tw r1;cases hx;exact pq pins s σ H _ us Q I r (.inl ⟨i,rfl,q _ _ (ay.refl _) rfl⟩)
 |[.bl k],e =>
  cases e;obtain⟨x,rfl,hx⟩:=tw r1;cases hx;exact pq pins s σ H _ us Q I r (.inr ⟨k,rfl,q _ _ (ay.refl _) rfl⟩)
def QS:List D->Option D
 |[.int i]=>some (.int (if i<0 then -i else i))
 |_=>none
theorem yz:bO X (.builtin "abs") QS:=by
 intro pins s σ H xs us Q I r h;obtain⟨W,ds,d,hd,r1,e,q⟩:=h
 match ds,e with
 |[.int i],e =>
  cases e;obtain⟨x,rfl,hx⟩:=tw r1;cases hx;exact Cp pins s σ H _ us Q I r ⟨i,rfl,q _ _ (ay.refl _) rfl⟩
end
theorem PE.pre {X:Cx}{e:Expr}{t t':TE}(h:PE X e t)(k:∀σ H Q,t' σ H Q->t σ H Q):PE X e t':=λpins s σ H Q I q=>h pins s σ H Q I (k σ H Q q)
theorem PT.pre {X:Cx}{e:Expr}{t t':TT}(h:PT X e t)(k:∀σ H Q,t' σ H Q->t σ H Q):PT X e t':=λpins s σ H Q I q=>h pins s σ H Q I (k σ H Q q)
theorem PA.pre {X:Cx}{es:List Expr}{t t':TA}(h:PA X es t)(k:∀σ H Q,t' σ H Q->t σ H Q):PA X es t':=λpos pins s σ H Q I q=>h pos pins s σ H Q I (k σ H Q q)
section
variable {X:Cx}{e:Expr}{σ:St}{H:Hp}
theorem PW.pre {t t':TT}(h:PW X e t)(k:∀σ H Q,t' σ H Q->t σ H Q):PW X e t':=λw pins s σ H Q I q=>h w pins s σ H Q I (k σ H Q q)
end
abbrev FD:=List D->(D->Prop)->Prop
def cm (F:FD):Prop:=∀ds R R',(∀d,R d->R' d)->F ds R->F ds R'
section
end
section
variable {X:Cx}{e:Expr}{pos:Pos}{σ:St}{H:Hp}
theorem Gn.pre {ops:List Yd}{rs:List Expr}{t t':V->TE}(h:Gn X ops rs t)(k:∀x σ H Q,t' x σ H Q->t x σ H Q):Gn X ops rs t':=λpos pins s σ H x v Q I r q=>h pos pins s σ H x v Q I r (k x σ H Q q)
theorem tG.pre {ops:List Yd}{rs:List Expr}{t t':V->TT}(h:tG X ops rs t)(k:∀x σ H Q,t' x σ H Q->t x σ H Q):tG X ops rs t':=λpos pins s σ H x v Q I r q=>h pos pins s σ H x v Q I r (k x σ H Q q)
theorem PO.pre {e:Option Expr}{t t':TO}(h:PO X e t)(k:∀σ H Q,t' σ H Q->t σ H Q):PO X e t':=λpins s σ H Q I q=>h pins s σ H Q I (k σ H Q q)
end
abbrev NF:D->Prop:=λd=>d.flat=true
section
abbrev NL:D->Prop:=λd=>match d with | .lst ds=>D.dg ds=true|d=>d.flat=true
end
section
variable {P:Vz}{w:VG}{W W':Addr->Prop}{H:Hp}
mutual
theorem az.grow (s:∀a,W' a->W a\/H a=none):∀{d:D} {v:V},az P w W H d v->az P w W' H d v
 |.cU,_,h=>h
 |.bl _,_,h=>h
 |.int _,_,h=>h
 |.str _,_,h=>h
 |.obj _,_,h=>h
 |.tup ds,_,⟨a,vs,e,t,r⟩=>⟨a,vs,e,t,ai.grow s r⟩
 |.lst ds,_,⟨a,vs,e,t,n,r⟩=>⟨a,vs,e,t,λz=>(s a z).elim n λq=>(by rw[t]at q;cases q),ai.grow s r⟩
 |.dT ks ds,_,⟨a,vs,e,t,l,n,r⟩=>⟨a,vs,e,t,l,λz=>(s a z).elim n λq=>(by rw[t]at q;cases q),ai.grow s r⟩
 |.dK ks ds,_,⟨a,vs,e,t,l,n,r⟩=>⟨a,vs,e,t,l,λz=>(s a z).elim n λq=>(by rw[t]at q;cases q),ai.grow s r⟩
 |.sT ts,_,⟨a,e,⟨cj,t,r,z⟩,n⟩=>⟨a,e,⟨cj,t,r,z⟩,λz=>(s a z).elim n λq=>(by rw[t]at q;cases q)⟩
 |.ob φ,_,⟨a,e,⟨t,z⟩,n⟩=>⟨a,e,⟨t,z⟩,λz=>(s a z).elim n λq=>(by rw[t]at q;cases q)⟩
theorem ai.grow (s:∀a,W' a->W a\/H a=none):∀{ds:List D} {vs:List V},ai P w W H ds vs->ai P w W' H ds vs
 |[],_,h=>h
 |d::ds,_,⟨v,r,e,h1,h2⟩=>⟨v,r,e,az.grow s h1,ai.grow s h2⟩
end
end
def UJ (X:Cx)(W:Addr->Prop)(J:It)(ds:List D)(H0:Hp):Prop:=∀(i:Nat) (H:Hp),Kp W H0 H ->
 (∀d,ds[i]?=some d->J.go i H/\∀x H1,J.Kh i H x H1->ay H H1/\Rp X W H1 d x)/\(ds.length<=i->J.stop i H)
def vb (X:Cx)(W:Addr->Prop)(J:It)(ds:List D)(H0:Hp):Prop:=∀W':Addr->Prop,(∀b,W' b->W b\/H0 b=none)->UJ X W' J ds H0
section
variable {X:Cx}{tg e:Expr}
theorem PI.pre {iter:Expr}{t t':TI}(h:PI X tg iter t)(k:∀σ H R,t' σ H R->t σ H R):PI X tg iter t':=λpins s σ H R I q=>h pins s σ H R I (k σ H R q)
theorem se {W:Addr->Prop}{H:Hp}{p:Addr}{vs:List V}{ds:List D}(h1:H p=some (.lst vs))(n1:¬ W p)(q1:tD X W H ds vs):vb X W (N9 X.K p) ds H:=λW' hW i H' k=>by
 have h2:=k.out p _ h1 λz=>(hW p z).elim n1 λq=>by rw[h1]at q;cases q
 replace q1:=ai.grow hW q1;constructor
 ·intro d hd;obtain⟨v,hv,rv⟩:=ai.get q1 hd;refine⟨⟨vs,v,eE.of h2,hv⟩,λx H1 y=>?_⟩;obtain⟨rfl,y⟩:=y;have e:=y vs (eE.of h2);rw[hv]at e;cases e;exact⟨ay.refl _,rv.keep k⟩
 ·intro hl;exact⟨vs,eE.of h2,by rw[q1.length];exact hl⟩
def my (lo:Int)(n:Nat):List D:=(VF n).map λ(k:Nat)=>D.int (lo+(k:Int))
theorem oO {W:Addr->Prop}{H:Hp}{lo:Int}{n:Nat}:vb X W (Nk lo n) (my lo n) H:=λ_ _ i H' k=>by
 constructor
 ·intro d hd;unfold my at hd;rw[VJ]at hd;have hi:i<n:=by
   by_cases h:i<n
   ·exact h
   ·rw[WE (by simpa using h)]at hd;cases hd
  rw[Wz hi]at hd;cases hd;refine⟨hi,λx H1 y=>?_⟩;obtain⟨rfl,rfl⟩:=y;exact⟨ay.refl _,rfl⟩
 ·intro hl;unfold my at hl;rw[Vt,V9]at hl;exact hl
end
section
variable {X:Cx}{tg:Expr}{w9:List Expr}
theorem PG.pre {t t':TG}(h:PG X tg t)(k:∀v σ H Q,t' v σ H Q->t v σ H Q):PG X tg t':=λpins s σ H v u Q I r q=>h pins s σ H v u Q I r (k v σ H Q q)
theorem Gm.pre {t t':Gj}(h:Gm X w9 t)(k:∀v σ H Q,t' v σ H Q->t v σ H Q):Gm X w9 t':=λpins s σ H v u Q I r q=>h pins s σ H v u Q I r (k v σ H Q q)
end
theorem jg {H:Hp}{a:Addr}{o o':HO}(h:H a=some o)(ht:∀xs,o≠.tup xs):Kp (·=a) H (upd H a o') :=
 ⟨λb u e n=>by rw[ar n];exact e,λb xs e=>by rw[ar (rT e h (λz=>ht xs z.symm))];exact e⟩
section
end
section
end
section
end
section
variable {σ:St}{β:aJ}{own:Nat->List Addr}
def aI (own:Nat->List Addr)(i:Nat)(as:List Addr):Nat->List Addr:=λj=>if j=i then as else own j
theorem bu {own:Nat->List Addr}{i j:Nat}{a:Addr}(h:a∈aI own i [] j):a∈own j/\j≠i:=by
 unfold aI at h
 by_cases e:j=i
 ·rw[if_pos e]at h;cases h
 ·rw[if_neg e]at h;exact⟨h,e⟩
theorem aN {α:Type}{β:List α}{i j:Nat}{x:α}(h:i≠j):(β.set i x)[j]?=β[j]?:=by rw[XD,if_neg h]
theorem aR {α:Type}{β:List α}{i:Nat}{x y:α}(h:(β.set i x)[i]?=some y):y=x/\i<β.length:=by
 rw[XD,if_pos rfl]at h
 by_cases hi:i<β.length
 ·rw[if_pos hi]at h;cases h;exact⟨rfl,hi⟩
 ·rw[if_neg hi]at h;cases h
theorem get_set {α:Type}{σ:List α}{i:Nat}{x:α}(h:i<σ.length):(σ.set i x)[i]?=some x:=by rw[XD,if_pos rfl,if_pos h]
end
structure Sn (Z:Hp×(Addr->Prop))(H:Hp)(W:Addr->Prop):Prop where
 w:∀b,W b->Z.2 b\/Z.1 b=none
 k:Kp (λb=>Z.2 b\/Z.1 b=none) Z.1 H
 d:∀b,Z.1 b≠none->H b≠none
theorem Sn.refl {H:Hp}{W:Addr->Prop}:Sn (H,W) H W:=⟨λ_ z=>.inl z,Kp.refl,λ_ z=>z⟩
theorem Sn.same {Z:Hp×(Addr->Prop)}{H H':Hp}{W:Addr->Prop}(n:Sn Z H W)(s:ay H H'):Sn Z H' W:=⟨n.w,n.k.trans s.kp,λb z e=>n.d b z (s.free e)⟩
theorem Sn.free {Z:Hp×(Addr->Prop)}{H:Hp}{W:Addr->Prop}(n:Sn Z H W){a:Addr}(h:H a=none):Z.1 a=none:=by
 cases q:Z.1 a with
 |none=>rfl
 |some o=>exact absurd h (n.d a (by rw[q];intro z;cases z))
theorem Sn.upd {Z:Hp×(Addr->Prop)}{H:Hp}{W:Addr->Prop}(n:Sn Z H W){a:Addr}{o o':HO}(h:H a=some o)(ht:∀xs,o≠.tup xs)(wa:W a):Sn Z (L2.upd H a o') W :=
 ⟨n.w,n.k.trans ((jg h ht).mono λb z=>by rw[z];exact n.w a wa),λb z e=>by
  by_cases hb:b=a
  ·subst hb;rw[ao]at e;cases e
  ·rw[ar hb]at e;exact n.d b z e⟩
theorem Sn.trans {Z:Hp×(Addr->Prop)}{H1 H:Hp}{W1 W:Addr->Prop}(n1:Sn Z H1 W1)(n:Sn (H1,W1) H W):Sn Z H W:=by
 have big:∀b,W1 b\/H1 b=none->Z.2 b\/Z.1 b=none:=λb z=>z.elim (n1.w b) λq=>.inr (n1.free q);exact⟨λb z=>big b (n.w b z),n1.k.trans (n.k.mono big),λb z=>n.d b (n1.d b z)⟩
section
variable {X:Cx}{st:Stmt}{rest:List Stmt}{σ:St}{H:Hp}
theorem PS.pre {t t':TS}(h:PS X st t)(k:∀D σ H,t' D σ H->t D σ H):PS X st t':=λpins s σ H D I q=>h pins s σ H D I (k D σ H q)
theorem qE.pre {t t':TS}(h:qE X rest t)(k:∀D σ H,t' D σ H->t D σ H):qE X rest t':=λpins s σ H D I q=>h pins s σ H D I (k D σ H q)
end
section
variable {b:Expr}{H:Hp}
theorem held {P:Vz}{w:VG}{W W2:Addr->Prop}{H2:Hp}{d:D}{v:V}(r:az P w W H d v)(n:Sn (H,W) H2 W2):az P w W2 H2 d v :=
 az.aO n.w (az.keep n.k (az.grow (λb z=>z) r))
end
theorem Sn.kp {Z:Hp×(Addr->Prop)}{H H':Hp}{W:Addr->Prop}(n:Sn Z H W)(k:Kp W H H')(dn:∀c,H c≠none->H' c≠none):Sn Z H' W:=⟨n.w,n.k.trans (k.mono n.w),λb z=>dn b (n.d b z)⟩
section
end
section
end
end L2
namespace UK
open PySem PySem.Spec PyProof.Rows
section
open PySem.SeqAt
open PySem.AutoSeq1 (wpAny_loadPart')
open PySem.MeetsSeq PySem.MeetsSeq2 PySem.MeetsSeq3
end
section
end
section
open PySem.SeqAt
open PySem.AutoSeq1 (wpAny_loadPart')
open PySem.MeetsSeq PySem.MeetsSeq2 PySem.MeetsSeq3
end
section
end
end UK
namespace L2
open PySem PySem.Spec PySem.SeqAt PyProof.Rows
theorem cT {P:Vz}{w:VG}{W:Addr->Prop}{H:Hp}:∀{ns:List Int} {vs:List V},ai P w W H (ns.map D.int) vs->vs=ns.map V.int
 |[],_,h=>h
 |n::ns,_,⟨v,r,e,h1,h2⟩=>by rw[e,cT h2,show v=V.int n from h1];rfl
section
end
end L2
namespace ST
open PySem PyProof.Rows
theorem tx (n:Nat):∀(f j:Nat),n<2 ^ (j+f)->∃j',j<=j'/\SetTable.sizeAbove.go n f (2 ^ j)=2 ^ j'/\n<2 ^ j'/\(j'=j\/2 ^ (j' - 1)<=n)
 |0,j,h=>⟨j,VA _,rfl,h,.inl rfl⟩
 |f+1,j,h=>by
  unfold SetTable.sizeAbove.go
  by_cases hc:2 ^ j<=n
  ·rw[if_pos hc,<- Zq];obtain⟨j',h1,h2,h3,h4⟩:=tx n f (j+1) (by rw[show j+1+f=j+(f+1) by lia];exact h)
   refine⟨j',by lia,h2,h3,.inr ?_⟩
   rcases h4 with rfl|h4
   ·exact hc
   ·exact h4
  ·rw[if_neg hc];exact⟨j,VA _,rfl,by lia,.inl rfl⟩
theorem CB {n:Nat}(h:n<=4000):∃j,3<=j/\SetTable.sizeAbove n=2 ^ j/\n<2 ^ j/\2 ^ j<=8192:=by
 obtain⟨j,h1,h2,h3,h4⟩:=tx n 64 3 (Xr h (by decide))
 refine⟨j,h1,h2,h3,?_⟩;rcases h4 with rfl|h4
 ·decide
 ·have:j-1<12:=by
   rcases WX (j-1) 12 with z|z
   ·exact z
   ·have:2 ^ 12<=2 ^ (j-1):=XG (by decide) z
    lia
  have:2 ^ j<=2 ^ 12:=XG (by decide) (by lia)
  lia
section
variable {w:VG}{s:Vw}
variable {a:Addr}{o:Obj}{ts:List (Addr×List Int)}{es:Array (Int×Vv)}{ep:Nat}{t:SetTable}
theorem jM {h:Heap}(ho:h.get? a=some o)(hd:o.data=.set es ep t)(dY:Array (Int×Vv))(t':SetTable):(h.update a (Z6 dY t')).get? a=some {o with data:=.set dY (ep+1) t'}:=by
 have e:=Heap.get?_update_self (Z6 dY t') ho (by rw[putSet_of dY t' hd];rfl)
 rw[e,putSet_of dY t' hd]
theorem z9 {α:Type}(l:List α)(p:Nat)(x:α):(l.take p++x::l.drop p).Perm (x::l):=by
 refine ZG.trans (List.Perm.cons x ?_);rw[YT]
theorem Bb {α:Type}{en:α->Int×Vv}{hk:α->Int}(hh:∀x,(en x).1=hk x)(x0:α){ts:List α}(he:es.toList=ts.map en){j:Nat}(j3:3<=j)(hj:ts.length<=2 ^ j-1)(fi mo:Nat)(le pl:Bool):
  ∃(order:Array Nat) (t':SetTable) (cj:List α),SetTable.laid (2 ^ j-1) fi mo le pl (es.map (·.1))=some (t',order)/\order.toList.Perm (VF ts.length)/\(order.filterMap (es[·]?)).toList=cj.map en/\cj.Perm ts /\
   WF t' (cj.map hk)/\t'.mask=2 ^ j-1/\t'.led=le/\t'.plain=pl/\t'.place.size=ts.length:=by
 have hz:es.size=ts.length:=by rw[<- VP,he,Vt]
 have hs:(es.map (·.1)).size=ts.length:=by rw[Array.size_map,hz]
 obtain⟨t',order,e1,e2,e3,e4,e5,e6,e7,e8⟩:=Ep (hs:=es.map (·.1)) j3 (by lia) fi mo le pl
 rw[hs]at e6 e8;have gd:∀i,i<ts.length->es[i]?=some (en (ts.getD i x0)):=λi hi=>by
  rw[<- Wm,he,VJ,VC hi,Wj,VC hi];rfl
 have fb:(order.filterMap (es[·]?)).toList=(order.toList.map λi=>ts.getD i x0).map en:=by
  rw[Array.toList_filterMap,WO];have:∀l:List Nat,(∀i∈l,i<ts.length)->l.filterMap (es[·]?)=l.map (en ∘ λi=>ts.getD i x0):=λl=>by
   induction l with
   |nil=>intro _;rfl
   |cons i l ih =>
    intro h;rw[We,gd i (h i V8),VM,ih λy hy=>h y (V2 _ hy)];rfl
  exact this _ λi hi=>Wl.mp (e6.mem_iff.mp hi)
 have fB:(order.toList.map λi=>ts.getD i x0).Perm ts:=by
  refine(e6.map _).trans (List.Perm.of_eq ?_);apply Yx;intro i;rw[VJ]
  by_cases hi:i<ts.length
  ·rw[Wz hi,VC hi];show some (ts.getD i x0)=_;rw[Wj,VC hi];rfl
  ·rw[WE (by rw[V9];lia),WE (by lia)]
   rfl
 refine⟨order,t',_,e1,e6,fb,fB,?_,e2,e3,e4,e8⟩;rw[WO];have:(order.toList.map λi=>(es.map (·.1)).getD i 0)=order.toList.map (hk ∘ λi=>ts.getD i x0):=by
  refine W3 λi hi=>?_;rw[V0,Array.getElem?_map,gd i (Wl.mp (e6.mem_iff.mp hi))];exact hh _
 rw[<- this];exact e7
theorem oC {α:Type}{en:α->Int×Vv}{hk:α->Int}(hh:∀x,(en x).1=hk x)(x0:α){ts:List α}(he:es.toList=ts.map en){m:Nat}(Vh:ts.length*2<=m)(Qe:m<=4000):
  ∃(j:Nat) (order:Array Nat) (t':SetTable) (cj:List α),SetTable.sizeAbove m=2 ^ j/\2 ^ j<=8192/\t.relaid (es.map (·.1)) m=some (t',order)/\order.toList.Perm (VF ts.length)/\(order.filterMap (es[·]?)).toList=cj.map en/\cj.Perm ts /\
   WF t' (cj.map hk)/\(t'.place.size*5<t'.mask*3/\m<=t'.mask)/\t'.mask<=8191/\t'.led=t.led/\t'.plain=t.plain/\t'.place.size=ts.length:=by
 obtain⟨j,j3,ja,jb,jc⟩:=CB (n:=m) Qe;have:2 ^ 3<=2 ^ j:=XG (by decide) j3
 obtain⟨order,t',cj,e1,e6,fb,fB,e7,e2,e3,e4,e8⟩:=Bb hh x0 he j3 (by lia) t.finger (t.movedTo (2 ^ j-1)) t.led t.plain
 exact⟨j,order,t',cj,ja,jc,by unfold SetTable.relaid;rw[ja];exact e1,e6,fb,fB,e7,⟨by rw[e8,e2];lia,by rw[e2];lia⟩,by lia,e3,e4,e8⟩
abbrev JT {α β:Type}(w:VG)(en:α->Int×Vv)(hk:α->Int)(ky:α->β)(a:Addr)(s:Vw)(ts:List α)(x:α)(Q:Bool->Vw->Prop):Prop :=
 ∀(h':Heap) (o':Obj) (cj:List α) (dY:Array (Int×Vv)) (jn:Nat) (t':SetTable) (added:Bool) (tk:Nat),s.toks<=tk->WY a s.heap h'->h'.get? a=some o'->fJ w en hk ky o' cj dY jn t' ->
  ((∃y∈ts,ky y=ky x)->cj=ts)->((∀y∈ts,ky y≠ky x)->cj.Perm (x::ts))->Q added {s with heap:=h',toks:=tk}
end
theorem nE {α:Type}:∀{l:List α} {i:Nat} (h:i<l.length),(l[i]::l.eraseIdx i).Perm l
 |[],_,h=>absurd h (ZP _)
 |x::l,0,_=>.refl _
 |x::l,i+1,h=>by
  have h':i<l.length:=by rw[Wa]at h;lia
  show (l[i]::x::l.eraseIdx i).Perm (x::l);exact(List.Perm.swap _ _ _).trans ((nE h').cons x)
theorem vI {α:Type}(next:Nat->Nat):∀(f k:Nat) (left:List α) (out:Array α),f=left.length->(pickOrder.go next f k left out).toList.Perm (out.toList++left)
 |0,k,left,out,e=>by
  obtain rfl:left=[]:=X0.mp e.symm;unfold pickOrder.go;rw[WB]
 |f+1,k,left,out,e=>by
  unfold pickOrder.go;have hi:next k % left.length<left.length:=Yp _ (by lia)
  rw[VC hi];dsimp only;refine(vI next f (k+1) _ _ (by rw[List.length_eraseIdx_of_lt hi];lia)).trans ?_
  rw[Array.toList_push,WT];exact List.Perm.append_left _ (nE hi)
theorem xB {α:Type}(next:Nat->Nat)(xs:Array α):(pickOrder next xs).toList.Perm xs.toList:=by
 have:=vI next xs.size 0 xs.toList #[] (by rw[VP])
 exact this
theorem cf:Slot "set_iterator" "__next__" "set_iterator.__next__" :=
 .of (owner:="set_iterator") (n:="__next__") (by rw[typeLookup_type,builtinLookup_eq_fast];kernel_rfl) (by decide +kernel) (by decide +kernel) (by decide +kernel)
  (by first|exact .inl (by decide +kernel)|exact .inr (by decide +kernel)) (by rw[Yn];kernel_rfl)
theorem iO:Slot "set_iterator" "__iter__" "set_iterator.__iter__" :=
 .of (owner:="set_iterator") (n:="__iter__") (by rw[typeLookup_type,builtinLookup_eq_fast];kernel_rfl) (by decide +kernel) (by decide +kernel) (by decide +kernel)
  (by first|exact .inl (by decide +kernel)|exact .inr (by decide +kernel)) (by rw[Yn];kernel_rfl)
theorem g_:entryFor table "set_iterator.__next__" = some W4.«set_iterator.__next__»:=entryFor_of_tree (by kernel_rfl)
theorem nu:entryFor table "set_iterator.__iter__" = some W4.«dict_keyiterator.__iter__» :=
 ZZ (id':="dict_keyiterator.__iter__") (by kernel_rfl) rfl (by decide +kernel) (by kernel_rfl)
theorem nv:entryFor table "set.__iter__" = some W4.«frozenset.__iter__» :=
 ZZ (id':="frozenset.__iter__") (by kernel_rfl) rfl (by decide +kernel) (by kernel_rfl)
theorem iZ (a:Vv):argsOk "set_iterator.__next__" ⟨[a],[]⟩:=by unfold argsOk;kernel_rfl
theorem oi (a:Vv):argsOk "set_iterator.__iter__" ⟨[a],[]⟩:=by unfold argsOk;kernel_rfl
section
variable {prog:Vz}{w:VG}{A:Wv}{E:Vv->Vw->Prop}{s:Vw}
variable {a:Addr}{o:Obj}{es:Array (Int×Vv)}{ep:Nat}{t:SetTable}
variable {α β:Type}{en:α->Int×Vv}{hk:α->Int}{ky:α->β}{ts:List α}
abbrev s_ (w:VG):Bool:=w.params.followText "set-order"
theorem eF {Q:Bool->Vw->Prop}(q:Q (s_ w) s):VU (model prog w) A setsByText Q E s:=by
 unfold setsByText;exact Vu (X8 (Vy q))
def br (w:VG)(a:Addr)(ep:Nat)(es:Array (Int×Vv)):Array (Int×Vv):=if s_ w=true then pickOrder (w.params.setOrder a ep) es else es
theorem fM (w:VG)(a:Addr)(ep:Nat)(es:Array (Int×Vv)):(br w a ep es).toList.Perm es.toList:=by
 unfold br
 split
 ·exact xB _ _
 ·exact .refl _
theorem xM (S:fJ w en hk ky o ts es ep t){Q:Bool->Vw->Prop}(ho:s.heap.get? a=some o)(q:Q false s):VU (model prog w) A (setDrawn a) Q E s:=by
 unfold setDrawn;refine Vu (WG ho S.dat S.fits ?_);dsimp only;refine Vu (eF (Vy ?_));have:(!s_ w&&(!t.plain&&decide (es.size>1)))=false:=by rw[S.xy];simp
 show Q (!s_ w&&(!t.plain&&decide (es.size>1))) s;rw[this];exact q
theorem lZ (ho:s.heap.get? a=some o)(S:fJ w en hk ky o ts es ep t){sl i:Nat}{Q:Option (Vv×Nat)->Vw->Prop}(CQ:s_ w=false->SetTable.below t.place sl=i)
  (q1:∀e,(br w a ep es)[i]?=some e->∀vq:Nat,(s_ w=false->SetTable.below t.place vq=i+1)->Q (some (e.2,vq)) s) (q2:(br w a ep es)[i]?=none->Q none s) :
  VU (model prog w) A (setNext a sl i ep) Q E s:=by
 unfold setNext;refine Vu (WG ho S.dat S.fits ?_);dsimp only;refine Vu (eF ?_);cases hb:s_ w with
 |true =>
  rw[if_pos rfl,if_neg (by simp)]
  unfold setWalk;refine Vu (Vu (WG ho S.dat S.fits ?_));dsimp only;refine Vu (eF ?_);rw[hb,if_pos rfl];refine Vu (X8 (Vy (Vy ?_)));have e:br w a ep es=pickOrder (w.params.setOrder a ep) es:=by unfold br;rw[hb,if_pos rfl]
  rw[e]at q1 q2;show Q (((pickOrder (w.params.setOrder a ep) es)[i]?).map λe=>(e.2,sl)) s;cases hx:(pickOrder (w.params.setOrder a ep) es)[i]? with
  |none=>exact q2 hx
  |some x=>exact q1 x hx sl (λz=>by rw[hb]at z;cases z)
 |false =>
  rw[if_neg (by simp)]
  have e:br w a ep es=es:=by unfold br;rw[hb,if_neg (by simp)]
  rw[e]at q1 q2;have hd:(!t.plain&&decide (es.size>1))=false:=by rw[S.xy];rfl
  show VU _ _ (if (!t.plain&&decide (es.size>1))=true then _ else _) _ _ _
  rw[hd,if_neg (by simp)]
  have hl:t.led=true:=by
   rw[S.led];show (!s_ w)=true;rw[hb];rfl
  refine Vu ?_;show VU _ _ (if (!t.led&&!es.isEmpty)=true then _ else _) _ _ _
  rw[hl,if_neg (by simp)]
  refine Vy (Vy ?_);rw[CQ hb];have hz:=S.size
  by_cases hi:i<t.place.size
  ·have h1:es[i]?=some es[i]:=getElem?_pos es i (by omega)
   rw[h1,uN hi];refine q1 _ h1 _ λ_=>?_;obtain⟨b1,b2,b3⟩:=gx S.wf.zD (g t.place i+1);rcases Zs (SetTable.below t.place (g t.place i+1)) (i+1)with z|z|z
   ·have:=b3 i (by omega) hi
    omega
   ·exact z
   ·have:=b2 (i+1) z;have:=S.wf.zD i (i+1) (by omega) (by omega)
    omega
  ·have h1:es[i]?=none:=Xs (by omega)
   rw[h1];exact q2 h1
end
section
variable {prog:Vz}{w:VG}{A:Wv}{E:Vv->Vw->Prop}{s:Vw}
variable {a b it:Addr}{o:Obj}{es:Array (Int×Vv)}{ep:Nat}{t:SetTable}
variable {α β:Type}{en:α->Int×Vv}{hk:α->Int}{ky:α->β}{ts:List α}
def pR (sl i:Nat)(a:Addr)(n ep:Nat):Obj:={cls:=.type "set_iterator",dict:=none,data:=.fields #[.int sl 0,.int i 0,.ref a,.int n 0,.int ep 0],slots:=#[]}
theorem ml {sl i n:Nat} (h:s.heap.get? it=some (pR sl i a n ep)):s.TypeIs (.ref it) "set_iterator" := ⟨_,h,rfl⟩
def Ke (w:VG)(en:α->Int×Vv)(hk:α->Int)(ky:α->β)(it a:Addr)(ts:List α)(es:Array (Int×Vv))(ep:Nat)(i:Nat)(h:Heap):Prop :=
 ∃sl o t,h.get? it=some (pR sl i a es.size ep)/\h.get? a=some o/\fJ w en hk ky o ts es ep t/\(s_ w=false->SetTable.below t.place sl=i)
theorem zu (v7:a≠it){i:Nat}{e:Int×Vv}{Q:Option Vv->Vw->Prop}(st:Ke w en hk ky it a ts es ep i s.heap)(he:(br w a ep es)[i]?=some e)
  (q:∀h',Ke w en hk ky it a ts es ep (i+1) h'->WY it s.heap h'->Q (some e.2) {s with heap:=h'}):VU (model prog w) A (Zc (.ref it)) Q E s:=by
 obtain⟨sl,o,t,hi,ho,S,hb⟩:=st;have hT:=ml hi;unfold Zc;refine Vu (Y8 (YI (name:=Str.ofString "__next__") hT cf (W6 cf hT g_ ?_ (iZ _))));unfold W4.«set_iterator.__next__»
 refine Vu (Vy ?_);refine Vu (wpAny_fieldsOf hi rfl ?_);dsimp only;refine Vu (Y6 ho S.dat S.fits ?_);rw[if_neg (by simp)]
 refine Vu (lZ (i:=i) ho S (λz=>by simpa using hb z) (λe' MQ vq LS=>?_) λhn=>?_)
 ·rw[he]at MQ;obtain rfl:=V5 MQ;dsimp only;refine Vu (wpAny_setField_rec hi (by simp) λh1 g1 CM=>?_)
  refine Vu (wpAny_setField_rec (s:={s with heap:=h1}) g1 (by simp) λh2 g2 Rw=>?_)
  refine Vy ⟨_,rfl,Vy (q h2 ⟨vq,o,t,?_,?_,S,LS⟩ (CM.trans Rw))⟩
  ·rw[g2];rfl
  ·rw[(CM.trans Rw).2 a v7];exact ho
 ·rw[he]at hn;cases hn
theorem C9 (hh:A.handled=none)(v7:a≠it){i:Nat}{Q:Option Vv->Vw->Prop}(st:Ke w en hk ky it a ts es ep i s.heap)(he:(br w a ep es)[i]?=none)
  (q:∀h',Heap.ExtBut it s.heap h'->Q none {s with heap:=h'}):VU (model prog w) A (Zc (.ref it)) Q E s:=by
 obtain⟨sl,o,t,hi,ho,S,hb⟩:=st;have hT:=ml hi;unfold Zc;refine Vu (Y8 (YI (name:=Str.ofString "__next__") hT cf (W6 cf hT g_ ?_ (iZ _))));unfold W4.«set_iterator.__next__»
 refine Vu (Vy ?_);refine Vu (wpAny_fieldsOf hi rfl ?_);dsimp only;refine Vu (Y6 ho S.dat S.fits ?_);rw[if_neg (by simp)]
 refine Vu (lZ (i:=i) ho S (λz=>by simpa using hb z) (λe' MQ vq LS=>?_) λhn=>?_)
 ·rw[he]at MQ;cases MQ
 ·dsimp only;refine Vu (wpAny_setField hi rfl (by simp) ?_)
  refine Vu ?_;simp only[newExc,newTuple];refine Vu (WN ?_ (by size_fits))
  refine Vu (m:=firstArgMember _ _) (ZI (a:=Value.none) (by first|rfl|(simp only[firstArgMember];rfl)) ?_)
  refine WN ?_ (by size_fits)
  simp only[raiseNew];refine Vu (wpAny_handled ?_);rw[show A.in1.handled=none from hh]
  refine Vu (Vy (wpAny_throw ?_));refine Vu (YH (T:="StopIteration") (b:=true) ⟨_,VT _ rfl,rfl⟩ isSubtype_stop ?_);exact Vy (q _ (((Xj ..).extBut.push _).push _))
theorem zt {i:Nat}{Q:Vv->Vw->Prop}(st:Ke w en hk ky it a ts es ep i s.heap)(q:Q (.ref it) s):VU (model prog w) A (Zd (.ref it)) Q E s:=by
 obtain⟨sl,o,t,hi,ho,S,hb⟩:=st;have hT:=ml hi;refine wpAny_pyIter_slot hT iO (W6 iO hT nu ?_ (oi _));show VU _ _ (ret (.ref it)) _ _ s;exact Vy ⟨_,rfl,"set_iterator",_,hT,cf.lookup,q⟩
theorem xk (hh:A.handled=none)(v7:a≠it):Walks prog w A it [it,a] [it] es.size (λi v=>∃e,(br w a ep es)[i]?=some e/\v=e.2) (Ke w en hk ky it a ts es ep) where
 sub:=λb hb=>by rw[VD.mp hb];exact V8
 frame:=λi h h' ⟨sl,o,t,h1,h2,h3⟩ hk=>⟨sl,o,t,hk it V8 _ h1,hk a (V2 _ V8) _ h2,h3⟩
 item:=λi s Q E hi st hQ=>by
  have hz:(br w a ep es).size=es.size:=by
   have:=(fM w a ep es).length_eq;rw[VP,VP]at this;exact this
  have he:(br w a ep es)[i]?=some (br w a ep es)[i]:=getElem?_pos _ i (by lia)
  exact zu v7 st he λh' qK sb=>hQ _ h' s.toks ⟨_,he,rfl⟩ qK λb o hb e=>sb.extBut b o (λz=>hb (by rw[z];exact VD.mpr rfl)) e
 done:=λs Q E st hQ=>by
  have hz:(br w a ep es).size=es.size:=by
   have:=(fM w a ep es).length_eq;rw[VP,VP]at this;exact this
  exact C9 hh v7 st (Xs (by lia)) λh' eb=>hQ h' s.toks λb o hb e=>eb b o (λz=>hb (by rw[z];exact VD.mpr rfl)) e
 self:=λi s Q E st hQ=>zt st hQ
theorem fP (ho:s.heap.get? a=some o) (S:fJ w en hk ky o ts es ep t):s.TypeIs (.ref a) "set" := ⟨o,ho,S.ex.1⟩
theorem CY (ho:s.heap.get? a=some o)(S:fJ w en hk ky o ts es ep t){Q:Vv->Vw->Prop}(q:Q (.ref s.heap.objs.size) {s with heap:=s.heap.push (pR 0 0 a es.size ep)}):
  VU (model prog w) A (Zd (.ref a)) Q E s:=by
 have hT:=fP ho S;refine wpAny_pyIter_slot hT F.slot_set_iter (W6 F.slot_set_iter hT nv ?_ (F.args_set_iter_1 _));unfold W4.«frozenset.__iter__» Builtin.Frozenset.slot0 Builtin.Frozenset.sizeOf;refine Vu (Vu (Vy (Vy ?_)));refine Vu (Vu (Y6 ho S.dat S.fits (Vy ?_)));refine Vu (xM S ho ?_);rw[if_neg (by simp)]
 refine Vu (Vy ?_);refine Vu (Zk ho S.dat S.fits ?_);unfold newFields;refine Vu (WN (Vy ⟨_,rfl,"set_iterator",_,⟨_,VT _ rfl,rfl⟩,cf.lookup,?_⟩) (by size_fits))
 exact q
theorem CZ (ho:s.heap.get? a=some o)(S:fJ w en hk ky o ts es ep t){Q:Bool->Vw->Prop}(q:Q false s):VU (model prog w) A (ZU (.ref a)) Q E s:=by
 have hT:=fP ho S;unfold ZU;refine Vu (wpAny_specialOf hT PySem.F.slot_set_len.lookup ?_);generalize R1:("set.__len__" : String)=Tu
 wp_delta
 rw[show splitId Tu=some ("set","__len__") from by subst R1;decide +kernel]
 subst R1;refine Vu (YH (T:="set") (b:=true) hT (by rw[Yn];kernel_rfl) ?_)
 refine wpAny_ite_split (λuL=>absurd uL (by decide)) (λ_=>?_)
 refine wpAny_ite_split (λ_=>?_) (λuL=>absurd (by decide +kernel) uL)
 refine Vu (wpAny_typeOf hT ?_);exact Vy q
theorem Dc (prog:Vz)(S:fJ w en hk ky o ts es ep t):
  PySem.W.KdlSrc prog w "set" a a es.size (λi v=>∃e,(br w a ep es)[i]?=some e/\v=e.2) (λh=>h.get? a=some o) where
 type:=λs ho=>fP ho S
 there:=λh ho=>⟨VR ho,VR ho⟩
 keep:=λh h' ho hk=>hk a (.inl rfl) _ ho
 notList:=by decide
 notTuple:=by decide
 hint:=λA E s Q ho q=>CZ ho S q
 iter:=λA s hh ho=>⟨pR 0 0 a es.size ep,Ke w en hk ky s.heap.objs.size a ts es ep,λE Q q=>CY ho S q,xk hh (V_ (VR ho)),
  0,o,t,VT _ rfl,Vx _ ho,S,λ_=>by
   obtain⟨b1,b2,b3⟩:=gx S.wf.zD 0;rcases Nat.eq_zero_or_pos (SetTable.below t.place 0)with z|z
   ·exact z
   ·have:=b2 0 z;lia⟩
theorem mG {α β:Type}{f:α->β}:∀{ts:List α} {l:List β},l.Perm (ts.map f)->∃us:List α,us.Perm ts/\l=us.map f
 |[],l,h=>⟨[],.refl _,List.perm_nil.mp h⟩
 |x::ts,l,h=>by
  obtain⟨l1,l2,rfl⟩:=List.append_of_mem (h.mem_iff.mpr (show f x∈(x::ts).map f from V8))
  have h':(l1++l2).Perm (ts.map f):=(ZG.symm.trans h).cons_inv;obtain⟨us,h1,h2⟩:=mG h';obtain⟨u1,u2,rfl,e1,e2⟩:=List.map_eq_append_iff.mp h2.symm;refine⟨u1++x::u2,ZG.trans (h1.cons x),?_⟩;rw[VI,VM,e1,e2]
theorem qP (ho:s.heap.get? a=some o)(S:fJ w en hk ky o ts es ep t)(hn:ts.length<=1000):
  ∃us:List α,us.Perm ts/\∀(A:Wv) (E:Vv->Vw->Prop) (R:List Vv->Vw->Prop),A.handled=none->(∀(h':Heap) (tk:Nat),(∀b o,s.heap.get? b=some o->h'.get? b=some o)->R (us.map λx=>(en x).2) {s with heap:=h',toks:=tk}) ->
  VU (model prog w) A (collect (.ref a)) R E s:=by
 have hw:=fM w a ep es;rw[S.yT]at hw;obtain⟨us,h1,h2⟩:=mG hw;refine⟨us,h1,λA E R hh q=>?_⟩;refine PySem.W.kdu_collect (Dc prog S) hh ho (by rw[S.size.1,WD];lia) λh' tk acc hk MV=>?_
 have e:acc.toList=us.map λx=>(en x).2:=by
  have hz:(br w a ep es).size=es.size:=by
   have:=(fM w a ep es).length_eq;rw[VP,VP]at this;exact this
  have e2:us.map (λx=>(en x).2)=(br w a ep es).toList.map (·.2):=by
   rw[h2,WO];rfl
  rw[e2];apply Yx;intro i;rw[VJ,Wm,Wm]
  by_cases hi:i<acc.size
  ·obtain⟨x,g1,g2⟩:=MV.2 i acc[i] (getElem?_pos acc i hi);rw[getElem?_pos acc i hi,g1,g2];rfl
  ·have:=MV.1;rw[Xs (by lia),Xs (by lia)]
   rfl
 rw[e];exact q h' tk hk
end
section
variable {prog:Vz}{w:VG}{A:Wv}{E:Vv->Vw->Prop}{s:Vw}
variable {o:Obj}{ts:List (Addr×List Int)}{es:Array (Int×Vv)}{ep:Nat}{t:SetTable}
def iD (w:VG):Obj:={cls:=.type "set",dict:=none,data:=.set #[] 0 (.fresh 0 0 (!s_ w))}
theorem qi {α β:Type}{en:α->Int×Vv}{hk:α->Int}{ky:α->β}(w:VG):fJ w en hk ky (iD w) [] #[] 0 (.fresh 0 0 (!s_ w)) where
 ex:=⟨rfl,rfl,rfl⟩
 dat:=rfl
 yT:=rfl
 wf:=⟨rfl,rfl,λi j _ hj=>absurd hj (ZP _),λi hi=>absurd hi (ZP _),⟨3,VA _,rfl⟩,VX _,λi h hi=>by simp at hi⟩
 Nz:=by show 0*5<7*3;decide
 Eg:=by show 7<=8191;decide
 led:=rfl
 xy:=rfl
 yL:=Wg
theorem A5 {xs:List Vv} {R:Vv->Vw->Prop} (hc:YK "set.__new__" ⟨.type "set" :: xs,[]⟩=pure ()) (hx:xs=[]\/∃v,xs=[v]) (q:R (.ref s.heap.objs.size) {s with heap:=s.heap.push (iD w)}) :
  X9 (model prog w) A (.call (.builtin "set.__new__") ⟨.type "set" :: xs,[]⟩) (wants R E) s:=by
 refine ZO ?_;show VU _ A.in1 (YK "set.__new__" ⟨.type "set" :: xs,[]⟩ >>= λ_=>again (.builtin "set.__new__" ⟨.type "set" :: xs,[]⟩)) _ _ s;refine Vu (ZI hc (Vy ⟨plainId_quiet F.plain_set_new _,Yg F.entry_set_new ?_⟩));rw[Y4 F.plain_set_new _];unfold W4.«set.__new__» Builtin.Frozenset.newClass;have SJ:=sub_set_self;obtain⟨hp,gs,dr,tk,os⟩:=s;rcases hx with rfl|⟨v,rfl⟩
 all_goals
  dsimp only
  wp_walk
  refine X8 (Vy ?_);dsimp only;simp only[newObj];exact Vu (wpAny_alloc (Vy (Vy q)))
section
variable {α β:Type}{en:α->Int×Vv}{hk:α->Int}{ky:α->β}
theorem A7 {X:Nat->α->Prop}{J:Heap->Prop}{I:Addr}{fp wr:List Addr}{G:Array Z8->Array Z8->Prop}{St:Nat->Vw->Prop}{R:Result->Vw->Prop}
  {n:Nat} {P:Nat->Vv->Prop} (W:WalksS prog w A.in1 I fp wr G n P St) (hP:∀(i:Nat) (v:Vv),P i v->∃x,X i x/\v=(en x).2) (hX:∀i x y,X i x->X i y->ky x=ky y) (sa:Addr) (RS:sa∉fp)
  (hJ:∀h h':Heap,J h->(∀c oc,c∉sa::wr->h.get? c=some oc->h'.get? c=some oc)->J h')
  (add:∀(s:Vw) (E:Vv->Vw->Prop) (Q:Bool->Vw->Prop) (o:Obj) (ts:List α) (es:Array (Int×Vv)) (ep:Nat) (t:SetTable) (x:α),J s.heap->s.heap.get? sa=some o->fJ w en hk ky o ts es ep t->(∀y∈ts,∃m,X m y)->(∃m,X m x)->ts.length<n ->
   JT w en hk ky sa s ts x Q->VU (model prog w) A.in1 (setAdd sa (en x).2) Q E s) :
  ∀(d i:Nat) (s:Vw) (o:Obj) (ts:List α) (es:Array (Int×Vv)) (ep:Nat) (t:SetTable),n-i=d->i<=n->St i s->J s.heap->s.heap.get? sa=some o->fJ w en hk ky o ts es ep t ->
   (∀y∈ts,∃m,X m y)->(∀m x,m<i->X m x->∃y∈ts,ky y=ky x)->ts.length<=i ->
   (∀s' o' cj dY jn t',Moved (sa::wr) G s s'->s'.heap.get? sa=some o'->fJ w en hk ky o' cj dY jn t'->(∀y∈cj,∃m,X m y)->(∀m x,m<n->X m x->∃y∈cj,ky y=ky x)->cj.length<=n->R (.ok (.ret .none)) s') ->
   X9 (model prog w) A (.builtin "set.update.loop" ⟨[.ref sa,.ref I],[]⟩) R s:=by
 have oR:sa∉wr:=λz=>RS (W.sub _ z);have up:∀x∈wr,x∈sa::wr:=λx hx=>V2 _ hx;intro d
 induction d with
 |zero =>
  intro i s o ts es ep t hd hi st T ho S k1 k2 k3 hR;obtain rfl:i=n:=by lia
  refine Yg F.entry_set_update_loop ?_;rw[Y4 F.plain_set_update_loop _];show VU _ A.in1 (Zc (.ref I) >>= _) _ _ s;refine Vu (W.done s _ _ st λs' mv=>?_);exact Vy (hR s' o ts es ep t (mv.mono up) (mv.heap sa _ oR ho) S k1 k2 k3)
 |succ d ih =>
  intro i s o ts es ep t hd hi st T ho S k1 k2 k3 hR;refine Yg F.entry_set_update_loop ?_;rw[Y4 F.plain_set_update_loop _];show VU _ A.in1 (Zc (.ref I) >>= _) _ _ s;refine Vu (W.item i s _ _ (by lia) st λv s1 hv SN mv=>?_)
  obtain⟨x,hx,rfl⟩:=hP i v hv;refine Vu (Wo (add s1 _ _ o ts es ep t x (hJ _ _ T λc oc hc e=>mv.heap c oc (λz=>hc (up c z)) e) (mv.heap sa _ oR ho) S k1 ⟨i,hx⟩ (by lia) λh' o' cj dY jn t' added tk r0 r1 r2 r3 r4 r5=>?_))
  have keep:∀c oc,c≠sa->s1.heap.get? c=some oc->h'.get? c=some oc:=λc oc hc e=>by rw[r1.2 c hc];exact e
  have step:(∀y∈cj,∃m,X m y)/\(∀m z,m<i+1->X m z->∃y∈cj,ky y=ky z)/\cj.length<=i+1:=by
   by_cases lU:∃y∈ts,ky y=ky x
   ·rw[r4 lU];refine⟨k1,λm z hm hz=>?_,by lia⟩
    rcases WX m i with q|q
    ·exact k2 m z q hz
    ·obtain rfl:m=i:=by lia
     rw[hX m z x hz hx];exact lU
   ·have pm:=r5 λy hy e=>lU ⟨y,hy,e⟩;refine⟨λy hy=>?_,λm z hm hz=>?_,by rw[pm.length_eq,Wa];lia⟩
    ·rcases VB.mp (pm.mem_iff.mp hy)with rfl|q
     ·exact⟨i,hx⟩
     ·exact k1 y q
    ·rcases WX m i with q|q
     ·obtain⟨u,hu,e⟩:=k2 m z q hz;exact⟨u,pm.mem_iff.mpr (V2 _ hu),e⟩
     ·obtain rfl:m=i:=by lia
      exact⟨x,pm.mem_iff.mpr V8,hX m x z hx hz⟩
  have RL:Moved (sa::wr) G s {s1 with heap:=h',toks:=tk} :=
   (mv.mono up).then_heap r0 λc oc hc e=>keep c oc (λz=>hc (by rw[z];exact V8)) e
  exact Vy ⟨plainId_quiet F.plain_set_update_loop _,ih (i+1) _ o' cj dY jn t' (by lia) (by lia) (W.frame _ s1 _ _ SN r0 λc hc oc e=>keep c oc (λz=>RS (by rw[<- z];exact hc)) e) (hJ _ _ T λc oc hc e=>RL.heap c oc hc e) r2 r3 step.1 step.2.1 step.2.2 λs' o2 l_ o4 J4 t2 m1=>hR s' o2 l_ o4 J4 t2 (Moved.trans W.gtrans RL m1)⟩
end
end
section
variable {prog:Vz}{w:VG}{A:Wv}{E:Vv->Vw->Prop}{s:Vw}
theorem yw {α β:Type}{en:α->Int×Vv}{hk:α->Int}{ky:α->β}{X:Nat->α->Prop}{l:Addr}{its:Array Vv}{Q:Vv->Vw->Prop}(hh:A.handled=none)(hl:s.heap.IsList l its)
  (hP:∀(i:Nat) (v:Vv),its[i]?=some v->∃x,X i x/\v=(en x).2) (hX:∀i x y,X i x->X i y->ky x=ky y)
  (add:∀(B:Wv) (s1:Vw) (E:Vv->Vw->Prop) (Q:Bool->Vw->Prop) (a:Addr) (o:Obj) (ts:List α) (es:Array (Int×Vv)) (ep:Nat) (t:SetTable) (x:α),B.units<=A.units+3->(∀c oc,s.heap.get? c=some oc->s1.heap.get? c=some oc)->s1.heap.get? a=some o->fJ w en hk ky o ts es ep t->(∀y∈ts,∃m,X m y)->(∃m,X m x)->ts.length<its.size ->
   JT w en hk ky a s1 ts x Q->VU (model prog w) B (setAdd a (en x).2) Q E s1)
  (q:∀(h':Heap) (tk:Nat) (o':Obj) (ts:List α) (es:Array (Int×Vv)) (ep:Nat) (t:SetTable),(∀c oc,s.heap.get? c=some oc->h'.get? c=some oc)->h'.get? s.heap.objs.size=some o'->fJ w en hk ky o' ts es ep t ->
   (∀y∈ts,∃m,X m y)->(∀m x,m<its.size->X m x->∃y∈ts,ky y=ky x)->ts.length<=its.size->Q (.ref s.heap.objs.size) {s with heap:=h',toks:=tk}) :
  VU (model prog w) A (call (.type "set") [.ref l]) Q E s:=by
 obtain⟨cx,U_,Tn⟩:=F.called_set.mro;have RM:=F.called_set.made;have SH:=F.called_set.sub;refine Ym (ZO ?_);show VU _ _ (callAny (.type "set") _) _ _ _;refine Vy ⟨Code.quiet_builtin _ (by decide +kernel),Yg F.entry_type_call ?_⟩
 rw[Around.under_plain (weight_type_call_type "set" [.ref l] []) rfl];have t1:=F.called_set.notType;have t2:=F.called_set.canCreate;have t3:=F.typeCall_set_1 (.ref l)
 repeat (any_goals (first|assumption|wp_step))
 have ls:l<s.heap.objs.size:=by obtain⟨ol,P7,_⟩:=hl;exact VR P7
 refine Xa (A5 (w:=w) (E:=E) (xs:=[.ref l]) (R:=λob sx=>ob=.ref s.heap.objs.size/\sx={s with heap:=s.heap.push (iD w)}) (F.newCall_set_1 _) (.inr ⟨_,rfl⟩) ⟨rfl,rfl⟩) λr sx hr=>?_
 cases r with
 |error e=>exact hr
 |ok fl =>
  cases fl with
  |ret ob =>
   obtain⟨rfl,rfl⟩:=hr;have hS:(s.heap.push (iD w)).get? s.heap.objs.size=some (iD w):=VT _ rfl;have hT:Shared.TypeIs {s with heap:=s.heap.push (iD w)} (.ref s.heap.objs.size) "set" := ⟨_,hS,rfl⟩
   have i1:=F.called_set.init.lookup;have i2:=F.called_set.init.bind (.ref s.heap.objs.size)
   repeat (any_goals (first|assumption|wp_step))
   refine Xa (YY (R:=wants (λr s2=>r=.none/\Q (.ref s.heap.objs.size) s2) E) F.called_set.init.plain F.entry_set_init (check_set_init_1 hT ?_)) λr2 s2 Py=>?_
   ·obtain⟨ol,P7,F8,nl,R5⟩:=hl;obtain⟨c1,c2,c3,c4⟩:=ol;simp only at F8 R5;subst F8 R5;have P6:(s.heap.push (iD w)).get? l=some {cls:=.type "list",dict:=c2,data:=.seq its nl,slots:=c4}:=Vx _ P7;have u1:=F.sub_list_set;have u2:=F.sub_list_frozenset;have u3:(Value.type "list" == Value.type "dict")=false:=by decide
    have Qg:(s.heap.push (iD w)).IsList l its:=⟨_,P6,rfl,nl,rfl⟩;unfold W4.«set.__init__» noKeywords ZS;generalize Ul:Zd=PI
    wp_walk
    subst Ul;refine wpAny_pyIter_list Qg ?_;refine Vu (wpAny_runValue ?_);have Tx:A.in1.in1.in1.handled=none:=by simp[hh]
    have nI:l≠(s.heap.push (iD w)).objs.size:=by rw[Y3];exact V_ (Yv ls)
    have hf:s.heap.objs.size∉[(s.heap.push (iD w)).objs.size,l]:=by
     rw[Y3];simp only[VB,W7,or_false,not_or];exact⟨V_ (ZF _),Zr ls⟩
    have nw:∀c oc,s.heap.get? c=some oc->c∉s.heap.objs.size::[(s.heap.push (iD w)).objs.size]:=λc oc e z=>by
     have hc:=VR e;rcases VB.mp z with z|z
     ·exact absurd z (V_ hc)
     ·have z:=VD.mp z;rw[Y3]at z;exact absurd z (V_ (Yv hc))
    refine A7 (J:=λh=>∀c oc,s.heap.get? c=some oc->h.get? c=some oc) ((Walks.list Tx _ l nI _).toS) hP hX s.heap.objs.size hf (λh h' k kp c oc e=>kp c oc (nw c oc e) (k c oc e)) (λs1 E Q o ts es ep t x=>add _ s1 E Q s.heap.objs.size o ts es ep t x (VA _)) its.size 0 _ (iD w) [] #[] 0 _ rfl (VX _) ⟨⟨_,VT _ rfl,rfl,rfl⟩,Qg.push _⟩ (λc oc e=>Vx _ (Vx _ e)) (Vx _ hS) (qi w) (λx hx=>by cases hx) (λm x hm=>by lia) (VX _) λs' o' cj dY jn t' m1 m2 m3 m4 m5 m6=>?_
    obtain⟨h',g',d',Sz,O1⟩:=s';have eg:g'=s.gens:=m1.gens;have ed:d'=s.drawn:=m1.drawn;have eo:O1=s.os:=m1.os;subst eg ed eo;exact Vy (Vy ⟨rfl,q h' Sz o' cj dY jn t' (λc oc e=>m1.heap c oc (nw c oc e) (Vx _ (Vx _ e))) m2 m3 m4 m5 m6⟩)
   ·cases r2 with
    |error e=>exact Py
    |ok Uq =>
     cases Uq with
     |ret r =>
      obtain⟨rfl,hq⟩:=Py
      repeat (any_goals (first|assumption|wp_step))
     |_=>exact Py.elim
  |_=>exact hr.elim
end
end ST
namespace TS
open PySem PyProof.Rows
section
end
end TS
namespace L2
open PySem PySem.Spec PySem.SeqAt PyProof.Rows HT
abbrev kD (k:List Int):D:=.tup (k.map D.int)
section
end
section
end
def bU:FD:=λds R=>∃n:Int,ds=[.int n]/\0<n/\n<2 ^ 200/\∀r:Int,0<=r->r<n->R (.int r)
theorem bU.mono:cm bU:=λds R R' k ⟨n,e,h1,h2,q⟩=>⟨n,e,h1,h2,λr a b=>k _ (q r a b)⟩
section
end
section
variable {X:Cx}{W:Addr->Prop}{H:Hp}
theorem D_ {p:Addr}{vs:List V}{ds:List D}(n:H p=none)(f:NL (.lst ds))(r:tD X W H ds vs):Rp X (λa=>H a≠none) (upd H p (.lst vs)) (.lst ds) (.ref p) :=
 ⟨p,vs,rfl,ao,λz=>z n,ai.flat f (r.same (ay.new n))⟩
def ON (X:Cx)(f:D->D->Option D):R2:=λx y H Q=>∃W d1 d2 d,Dm W H/\Rp X W H d1 x/\Rp X W H d2 y/\f d1 d2=some d/\∀v H',ay H H'->Rp X W H' d v->(NL d->Rp X (λa=>H a≠none) H' d v)->Q v H'
def OM (X:Cx)(f:List D->Option D):List V->Hp->VK->Prop:=λxs H Q=>∃W ds d,Dm W H/\tD X W H ds xs/\f ds=some d/\∀v H',ay H H'->Rp X W H' d v->(NL d->Rp X (λa=>H a≠none) H' d v)->Q v H'
def KL (X:Cx)(f:D->Option Int->Option Int->Option D):V->Option Int->Option Int->Hp->VK->Prop:=λx lo hi H Q=>∃W d1 d,Dm W H/\Rp X W H d1 x/\f d1 lo hi=some d/\∀v H',ay H H'->Rp X W H' d v->(NL d->Rp X (λa=>H a≠none) H' d v)->Q v H'
abbrev Q4 (X:Cx)(f:Vv->Vv->Sem Vv)(g:D->D->Option D):Prop:=j8 X f (ON X g)
abbrev JS (X:Cx)(f:Vv)(g:List D->Option D):Prop:=eY X f (OM X g)
theorem aH:Q4 X (Xv .Add) Fe:=by
 intro pins s σ H x y v u Q I rx ry h;obtain⟨W,d1,d2,d,hd,r1,r2,e,q⟩:=h;rcases xV e with⟨a,b,rfl,rfl,e⟩|e
 ·obtain⟨hl,rfl⟩:=g8 e;obtain⟨p,vs,rfl,h1,n1,q1⟩:=r1;obtain⟨p',vs',rfl,h2,n2,q2⟩:=r2;exact Az pins s σ H _ _ v u Q I rx ry ⟨p,p',vs,vs',rfl,rfl,h1,h2,by rw[q1.length,q2.length];exact hl,λl yO=>q _ _ (ay.new yO) (Rp.ql hd yO (q1.append q2)) λf=>D_ yO f (q1.append q2)⟩
 ·obtain⟨i,j,rfl,rfl,e⟩:=kL e;cases e;cases r1;cases r2;exact qf pins s σ H _ _ v u Q I rx ry ⟨i,j,rfl,rfl,q _ _ (ay.refl _) rfl λ_=>rfl⟩
theorem C8:QY X (KL X M0):=by
 intro pins s σ H x v vl vu lo hi sl Q I rx hs pl pu h;obtain⟨W,d1,d,hd,r1,e,q⟩:=h;cases d1 with
 |lst ds =>
  cases e;obtain⟨p,vs,rfl,h1,n1,q1⟩:=r1;have rr:tD X W H (cutD ds lo hi) (sY vs lo hi):=by
   unfold sY cutD;rw[q1.length];exact(ai.drop _ q1).take _
  exact vp pins s σ H _ v vl vu lo hi sl Q I rx hs pl pu ⟨p,vs,rfl,eE.of h1,λl hl=>q _ _ (ay.new hl) (Rp.ql hd hl rr) λf=>D_ hl f rr⟩
 |_=>cases e
theorem lq:JS X (.type "list") dList:=by
 intro pins s σ H xs us Q I r h;obtain⟨W,ds,d,hd,r1,e,q⟩:=h
 match ds,e with
 |[.lst es],e =>
  cases e;obtain⟨v,r',rfl,⟨p,vs,rfl,h1,n1,q1⟩,hr⟩:=r1;cases hr;exact j4 pins s σ H _ us Q I r ⟨p,vs,rfl,.inl (eE.of h1),λl hl=>q _ _ (ay.new hl) (Rp.ql hd hl q1) λf=>D_ hl f q1⟩
 |[.tup es],e =>
  cases e;obtain⟨v,r',rfl,⟨p,vs,rfl,h1,q1⟩,hr⟩:=r1;cases hr;exact j4 pins s σ H _ us Q I r ⟨p,vs,rfl,.inr (lr.of h1),λl hl=>q _ _ (ay.new hl) (Rp.ql hd hl q1) λf=>D_ hl f q1⟩
end
section
end
end L2
namespace L2.Q
open PySem PySem.Spec PySem.SeqAt PyProof.Rows
section
variable (P:Vz)(w:VG)(H:Hp)
mutual
def Own:D->V->List Addr->Prop
 |.tup ds,v,A=>∃a vs,v=.ref a/\H a=some (.tup vs)/\aF ds vs A
 |.lst ds,v,A=>∃a vs A',v=.ref a/\H a=some (.lst vs)/\A=a::A'/\aF ds vs A'
 |.dT ks ds,v,A=>∃a vs A',v=.ref a/\H a=some (.dT (ks.zip vs))/\ks.length=vs.length/\A=a::A'/\aF ds vs A'
 |.dK ks ds,v,A=>∃a vs A',v=.ref a/\H a=some (.dK (ks.zip vs))/\ks.length=vs.length/\A=a::A'/\aF ds vs A'
 |.sT ts,v,A=>∃a,v=.ref a/\Fs P w H a ts/\A=[a]
 |.ob φ,v,A=>∃a,v=.ref a/\(H a=some (φ a)/\∀xs,φ a≠.tup xs)/\A=[a]
 |.cU,v,A=>v=.cU/\A=[]
 |.bl b,v,A=>v=.bl b/\A=[]
 |.int i,v,A=>v=.int i/\A=[]
 |.str x,v,A=>v=.str x/\A=[]
 |.obj a,v,A=>v=.ref a/\A=[]
def aF:List D->List V->List Addr->Prop
 |[],vs,A=>vs=[]/\A=[]
 |d::ds,vs,A=>∃v r A1 A2,vs=v::r/\A=A1++A2/\Own d v A1/\aF ds r A2
end
end
section
variable {P:Vz}{w:VG}{W:Addr->Prop}{H H':Hp}
theorem xl {a:Addr}{ts:List (List Int)}(k:∀b xs,H b=some (.tup xs)->H' b=some (.tup xs))(ha:∀o,H a=some o->H' a=some o)(h:Fs P w H a ts):Fs P w H' a ts :=
 let ⟨cj,e,r,z⟩:=h;⟨cj,ha _ e,λx hx=>k _ _ (r x hx),z⟩
mutual
theorem Own.keep (k:∀b xs,H b=some (.tup xs)->H' b=some (.tup xs)):∀{d:D} {v:V} {A:List Addr},(∀c∈A,∀o,H c=some o->H' c=some o)->Own P w H d v A->Own P w H' d v A
 |.tup ds,_,_,ha,⟨a,vs,e,t,r⟩=>⟨a,vs,e,k a vs t,aF.keep k ha r⟩
 |.lst ds,_,_,ha,⟨a,vs,A',e,t,eA,r⟩=>⟨a,vs,A',e,ha a (by rw[eA];simp) _ t,eA,aF.keep k (λc hc=>ha c (by rw[eA];simp[hc])) r⟩
 |.dT ks ds,_,_,ha,⟨a,vs,A',e,t,l,eA,r⟩=>⟨a,vs,A',e,ha a (by rw[eA];simp) _ t,l,eA,aF.keep k (λc hc=>ha c (by rw[eA];simp[hc])) r⟩
 |.dK ks ds,_,_,ha,⟨a,vs,A',e,t,l,eA,r⟩=>⟨a,vs,A',e,ha a (by rw[eA];simp) _ t,l,eA,aF.keep k (λc hc=>ha c (by rw[eA];simp[hc])) r⟩
 |.sT ts,_,_,ha,⟨a,e,r,eA⟩=>⟨a,e,xl k (λo ho=>ha a (by rw[eA];simp) o ho) r,eA⟩
 |.ob φ,_,_,ha,⟨a,e,r,eA⟩=>⟨a,e,⟨ha a (by rw[eA];simp) _ r.1,r.2⟩,eA⟩
 |.cU,_,_,_,h=>h
 |.bl _,_,_,_,h=>h
 |.int _,_,_,_,h=>h
 |.str _,_,_,_,h=>h
 |.obj _,_,_,_,h=>h
theorem aF.keep (k:∀b xs,H b=some (.tup xs)->H' b=some (.tup xs)):∀{ds:List D} {vs:List V} {A:List Addr},(∀c∈A,∀o,H c=some o->H' c=some o)->aF P w H ds vs A->aF P w H' ds vs A
 |[],_,_,_,h=>h
 |d::ds,_,_,ha,⟨v,r,A1,A2,e,eA,h1,h2⟩=>⟨v,r,A1,A2,e,eA,Own.keep k (λc hc=>ha c (by rw[eA];simp[hc])) h1,aF.keep k (λc hc=>ha c (by rw[eA];simp[hc])) h2⟩
end
mutual
theorem Own.rep:∀{d:D} {v:V} {A:List Addr},(∀c∈A,¬ W c)->Own P w H d v A->az P w W H d v
 |.tup ds,_,_,ha,⟨a,vs,e,t,r⟩=>⟨a,vs,e,t,aF.rep ha r⟩
 |.lst ds,_,_,ha,⟨a,vs,A',e,t,eA,r⟩=>⟨a,vs,e,t,ha a (by rw[eA];simp),aF.rep (λc hc=>ha c (by rw[eA];simp[hc])) r⟩
 |.dT ks ds,_,_,ha,⟨a,vs,A',e,t,l,eA,r⟩=>⟨a,vs,e,t,l,ha a (by rw[eA];simp),aF.rep (λc hc=>ha c (by rw[eA];simp[hc])) r⟩
 |.dK ks ds,_,_,ha,⟨a,vs,A',e,t,l,eA,r⟩=>⟨a,vs,e,t,l,ha a (by rw[eA];simp),aF.rep (λc hc=>ha c (by rw[eA];simp[hc])) r⟩
 |.sT ts,_,_,ha,⟨a,e,r,eA⟩=>⟨a,e,r,ha a (by rw[eA];simp)⟩
 |.ob φ,_,_,ha,⟨a,e,r,eA⟩=>⟨a,e,r,ha a (by rw[eA];simp)⟩
 |.cU,_,_,_,h=>h.1
 |.bl _,_,_,_,h=>h.1
 |.int _,_,_,_,h=>h.1
 |.str _,_,_,_,h=>h.1
 |.obj _,_,_,_,h=>h.1
theorem aF.rep:∀{ds:List D} {vs:List V} {A:List Addr},(∀c∈A,¬ W c)->aF P w H ds vs A->ai P w W H ds vs
 |[],_,_,_,h=>h.1
 |d::ds,_,_,ha,⟨v,r,A1,A2,e,eA,h1,h2⟩=>⟨v,r,e,Own.rep (λc hc=>ha c (by rw[eA];simp[hc])) h1,aF.rep (λc hc=>ha c (by rw[eA];simp[hc])) h2⟩
end
mutual
theorem Own.ny:∀{d:D} {v:V} {A:List Addr},Own P w H d v A->∀c∈A,H c≠none/\∀xs,H c≠some (.tup xs)
 |.tup ds,_,_,⟨a,vs,e,t,r⟩,c,hc=>aF.ny r c hc
 |.lst ds,_,_,⟨a,vs,A',e,t,eA,r⟩,c,hc=>by
  rw[eA]at hc;rcases VB.mp hc with rfl|hc
  ·rw[t];exact⟨λz=>(nomatch z),λxs z=>by cases z⟩
  ·exact aF.ny r c hc
 |.dT ks ds,_,_,⟨a,vs,A',e,t,l,eA,r⟩,c,hc=>by
  rw[eA]at hc;rcases VB.mp hc with rfl|hc
  ·rw[t];exact⟨λz=>(nomatch z),λxs z=>by cases z⟩
  ·exact aF.ny r c hc
 |.dK ks ds,_,_,⟨a,vs,A',e,t,l,eA,r⟩,c,hc=>by
  rw[eA]at hc;rcases VB.mp hc with rfl|hc
  ·rw[t];exact⟨λz=>(nomatch z),λxs z=>by cases z⟩
  ·exact aF.ny r c hc
 |.sT ts,_,_,⟨a,e,⟨cj,t,r,z⟩,eA⟩,c,hc=>by
  rw[eA]at hc;rw[VD.mp hc,t];exact⟨λz=>(nomatch z),λxs z=>by cases z⟩
 |.ob φ,_,_,⟨a,e,⟨t,z⟩,eA⟩,c,hc=>by
  rw[eA]at hc;rw[VD.mp hc,t];exact⟨λz=>(nomatch z),λxs q=>z xs (V5 q)⟩
 |.cU,_,_,h,c,hc=>by rw[h.2]at hc;cases hc
 |.bl _,_,_,h,c,hc=>by rw[h.2]at hc;cases hc
 |.int _,_,_,h,c,hc=>by rw[h.2]at hc;cases hc
 |.str _,_,_,h,c,hc=>by rw[h.2]at hc;cases hc
 |.obj _,_,_,h,c,hc=>by rw[h.2]at hc;cases hc
theorem aF.ny:∀{ds:List D} {vs:List V} {A:List Addr},aF P w H ds vs A->∀c∈A,H c≠none/\∀xs,H c≠some (.tup xs)
 |[],_,_,h,c,hc=>by rw[h.2]at hc;cases hc
 |d::ds,_,_,⟨v,r,A1,A2,e,eA,h1,h2⟩,c,hc=>by
  rw[eA]at hc;rcases VL.mp hc with hc|hc
  ·exact Own.ny h1 c hc
  ·exact aF.ny h2 c hc
end
mutual
theorem da:∀{d:D} {v:V},d.flat=true->az P w W H d v->Own P w H d v []
 |.tup ds,_,f,⟨a,vs,e,t,r⟩=>⟨a,vs,e,t,ie (by simpa[D.flat] using f) r⟩
 |.lst ds,_,f,_=>by simp[D.flat]at f
 |.dT ks ds,_,f,_=>by simp[D.flat]at f
 |.dK ks ds,_,f,_=>by simp[D.flat]at f
 |.sT ts,_,f,_=>by simp[D.flat]at f
 |.ob φ,_,f,_=>by simp[D.flat]at f
 |.cU,_,_,h=>⟨h,rfl⟩
 |.bl _,_,_,h=>⟨h,rfl⟩
 |.int _,_,_,h=>⟨h,rfl⟩
 |.str _,_,_,h=>⟨h,rfl⟩
 |.obj _,_,_,h=>⟨h,rfl⟩
theorem ie:∀{ds:List D} {vs:List V},D.dg ds=true->ai P w W H ds vs->aF P w H ds vs []
 |[],_,_,h=>⟨h,rfl⟩
 |d::ds,_,f,⟨v,r,e,h1,h2⟩=>by
  have f':(d.flat&&D.dg ds)=true:=f;rw[Wf]at f';exact⟨v,r,[],[],e,rfl,da f'.1 h1,ie f'.2 h2⟩
end
theorem aF.length:∀{ds:List D} {vs:List V} {A:List Addr},aF P w H ds vs A->vs.length=ds.length
 |[],_,_,h=>by rw[h.1];rfl
 |d::ds,_,_,⟨v,r,A1,A2,e,eA,h1,h2⟩=>by rw[e,Wa,Wa,aF.length h2]
theorem aF.append:∀{ds ds':List D} {vs vs':List V} {A A':List Addr},aF P w H ds vs A->aF P w H ds' vs' A'->aF P w H (ds++ds') (vs++vs') (A++A')
 |[],_,_,_,_,_,h,h'=>by rw[h.1,h.2];exact h'
 |d::ds,_,_,_,_,_,⟨v,r,A1,A2,e,eA,h1,h2⟩,h'=>by
  subst e eA;exact⟨v,_,A1,_,rfl,by rw[WT],h1,aF.append h2 h'⟩
theorem aF.one {d:D}{v:V}{A:List Addr}(h:Own P w H d v A):aF P w H [d] [v] A:=⟨v,[],A,[],rfl,by simp,h,rfl,rfl⟩
theorem aF.split:∀{ds:List D} {vs:List V} {A:List Addr} {i:Nat} {d:D},aF P w H ds vs A->ds[i]?=some d->∃v A1 A2 A3,vs[i]?=some v/\A=A1++(A2++A3)/\aF P w H (ds.take i) (vs.take i) A1/\Own P w H d v A2/\aF P w H (ds.drop (i+1)) (vs.drop (i+1)) A3
 |[],_,_,_,_,_,e=>by simp at e
 |d::ds,_,_,0,_,⟨v,r,A1,A2,e,eA,h1,h2⟩,e'=>by
  simp at e';subst e' e eA;exact⟨v,[],A1,A2,by simp,by simp,⟨rfl,rfl⟩,h1,by simpa using h2⟩
 |d::ds,_,_,i+1,_,⟨v,r,A1,A2,e,eA,h1,h2⟩,e'=>by
  subst e eA;obtain⟨u,B1,B2,B3,g1,g2,g3,g4,g5⟩:=aF.split (i:=i) h2 (by simpa using e')
  exact⟨u,A1++B1,B2,B3,by simpa using g1,by rw[g2];simp[WT],by simpa using ⟨v,_,A1,B1,rfl,rfl,h1,g3⟩,g4,by simpa using g5⟩
end
inductive Kd where
 |own|d9|old|bor
inductive Sk where
 |one|two|at (h:Addr)
inductive B where
 |val (y:Bool) (d:D)|own (d:D)|hand (ok:List Int->Prop)|shl (y:Sk) (d:D)
abbrev aJ:=List (Option B)
structure Cfg where
 H0:Hp
 IO:Addr->Prop
 ro:Bool
 U:Addr->Prop:=λ_=>False
abbrev Wn (own:Nat->List Addr):Addr->Prop:=λa=>∃i,a∈own i
def av (C:Cfg)(W:Addr->Prop):Kd->Addr->Prop
 |.own,a=>W a\/C.H0 a≠none
 |.d9,a=>W a\/C.H0 a≠none
 |.old,a=>W a
 |.bor,_=>False
def eD (C:Cfg)(W:Addr->Prop)(k:Kd)(a:Addr):Prop:=av C W k a\/C.U a
abbrev yk (y:Bool):Kd:=match y with|true=>.d9|false=>.old
def GO:D->HO->List V->Prop
 |.lst _,o,vs=>o=.lst vs
 |.dT ks _,o,vs=>o=.dT (ks.zip vs)/\ks.length=vs.length
 |.dK ks _,o,vs=>o=.dK (ks.zip vs)/\ks.length=vs.length
 |_,_,_=>False
def JW:D->List D
 |.lst ds=>ds
 |.dT _ ds=>ds
 |.dK _ ds=>ds
 |_=>[]
def Ft (P:Vz)(w:VG)(W:Addr->Prop)(H:Hp):List D->List V->List Addr->Prop
 |[],vs,A=>vs=[]/\A=[]
 |d::ds,vs,A=>∃b us r A',vs=.ref b::r/\A=b::A'/\H b=some (.lst us)/\(∃es,d=.lst es/\ai P w W H es us)/\Ft P w W H ds r A'
def kU (P:Vz)(w:VG)(W:Addr->Prop)(H:Hp)(d:D)(v:V)(A:List Addr):Prop:=∃a o vs,v=.ref a/\A=[a]/\H a=some o/\GO d o vs/\ai P w W H (JW d) vs
def yX (P:Vz)(w:VG)(W:Addr->Prop)(H:Hp)(y:Sk)(d:D)(v:V)(A:List Addr):Prop:=match y with
 |.one=>kU P w W H d v A
 |.at h=>kU P w W H d v A/\v=.ref h
 |.two=>∃a vs A' ds,v=.ref a/\A=a::A'/\H a=some (.lst vs)/\d=.lst ds/\Ft P w W H ds vs A'
theorem Ft.map {P:Vz}{w:VG}{W W':Addr->Prop}{H H':Hp}(hr:∀ds vs,ai P w W H ds vs->ai P w W' H' ds vs):∀{ds:List D} {vs:List V} {A:List Addr},(∀c∈A,∀o,H c=some o->H' c=some o)->Ft P w W H ds vs A->Ft P w W' H' ds vs A
 |[],_,_,_,h=>h
 |_::_,_,_,ha,⟨b,us,r,A',e1,e2,e3,⟨es,e4,e5⟩,h⟩=>⟨b,us,r,A',e1,e2,ha b (by rw[e2];simp) _ e3,⟨es,e4,hr _ _ e5⟩,Ft.map hr (λc hc=>ha c (by rw[e2];simp[hc])) h⟩
theorem Ft.rep {P:Vz}{w:VG}{W W':Addr->Prop}{H:Hp}(hs:∀ds vs,ai P w W H ds vs->ai P w W' H ds vs):∀{ds:List D} {vs:List V} {A:List Addr},(∀c∈A,¬ W' c)->Ft P w W H ds vs A->ai P w W' H ds vs
 |[],_,_,_,h=>h.1
 |_::_,_,_,ha,⟨b,us,r,A',e1,e2,e3,⟨es,e4,e5⟩,h⟩=>by
  subst e1 e2 e4;exact⟨.ref b,r,rfl,⟨b,us,rfl,e3,ha b (by simp),hs _ _ e5⟩,Ft.rep hs (λc hc=>ha c (by simp[hc])) h⟩
theorem kU.map {P:Vz}{w:VG}{W W':Addr->Prop}{H H':Hp}{d:D}{v:V}{A:List Addr}(h:kU P w W H d v A)(ha:∀c∈A,∀o,H c=some o->H' c=some o)(hr:∀ds vs,ai P w W H ds vs->ai P w W' H' ds vs):kU P w W' H' d v A :=
 let ⟨a,o,vs,e1,e2,e3,e4,r⟩:=h;⟨a,o,vs,e1,e2,ha a (by rw[e2];simp) o e3,e4,hr _ _ r⟩
theorem yX.map {P:Vz}{w:VG}{W W':Addr->Prop}{H H':Hp}{y:Sk}{d:D}{v:V}{A:List Addr}(h:yX P w W H y d v A)(ha:∀c∈A,∀o,H c=some o->H' c=some o)(hr:∀ds vs,ai P w W H ds vs->ai P w W' H' ds vs):yX P w W' H' y d v A:=by
 cases y with
 |one=>exact kU.map h ha hr
 | «at» b=>exact⟨kU.map h.1 ha hr,h.2⟩
 |two =>
  obtain⟨a,vs,A',ds,e1,e2,e3,e4,r⟩:=h;exact⟨a,vs,A',ds,e1,e2,ha a (by rw[e2];simp) _ e3,e4,r.map hr λc hc=>ha c (by rw[e2];simp[hc])⟩
theorem kU.rep {P:Vz}{w:VG}{W W':Addr->Prop}{H:Hp}{d:D}{v:V}{A:List Addr}(h:kU P w W H d v A)(ha:∀c∈A,¬ W' c)(hs:∀ds vs,ai P w W H ds vs->ai P w W' H ds vs):az P w W' H d v:=by
 obtain⟨a,o,vs,rfl,rfl,e,sh,r⟩:=h;have na:=ha a (by simp)
 replace r:=hs _ _ r;cases d with
 |lst ds=>cases sh;exact⟨a,vs,rfl,e,na,r⟩
 |dT ks ds=>obtain⟨rfl,l⟩:=sh;exact⟨a,vs,rfl,e,l,na,r⟩
 |dK ks ds=>obtain⟨rfl,l⟩:=sh;exact⟨a,vs,rfl,e,l,na,r⟩
 |_=>exact sh.elim
theorem yX.rep {P:Vz}{w:VG}{W W':Addr->Prop}{H:Hp}{y:Sk}{d:D}{v:V}{A:List Addr}(h:yX P w W H y d v A)(ha:∀c∈A,¬ W' c)(hs:∀ds vs,ai P w W H ds vs->ai P w W' H ds vs):az P w W' H d v:=by
 cases y with
 |one=>exact kU.rep h ha hs
 | «at» b=>exact kU.rep h.1 ha hs
 |two =>
  obtain⟨a,vs,A',ds,rfl,rfl,e3,rfl,r⟩:=h;exact⟨a,vs,rfl,e3,ha a (by simp),r.rep hs λc hc=>ha c (by simp[hc])⟩
structure bz (P:Vz)(w:VG)(C:Cfg)(σ:St)(H:Hp)(β:aJ)(own:Nat->List Addr):Prop where
 len:β.length=σ.length
 val:∀(i:Nat) (y:Bool) (d:D),β[i]?=some (some (.val y d))->∃v,σ[i]?=some (some v)/\az P w (eD C (Wn own) (yk y)) H d v
 ow:∀(i:Nat) (d:D),β[i]?=some (some (.own d))->∃v,σ[i]?=some (some v)/\Own P w H d v (own i)/\∀c∈own i,C.H0 c=none
 jL:∀(i:Nat) (ok:List Int->Prop),β[i]?=some (some (.hand ok))->∃a ns,σ[i]?=some (some (.ref a))/\H a=some (.lst (ns.map V.int))/\ok ns/\own i=[a]/\((∀b,¬ C.IO b)\/C.IO a)
 dm:∀(i:Nat) (a:Addr),a∈own i->H a≠none/\(∀xs,H a≠some (.tup xs))/\(C.H0 a=none\/C.IO a)/\¬ C.U a
 iI:∀(i j:Nat) (a:Addr),a∈own i->a∈own j->i=j
 jE:∀i,(own i).Nodup
 kp:Kp C.IO C.H0 H
 eZ:∀a,C.H0 a≠none->H a≠none
 shl:∀(i:Nat) (y:Sk) (d:D),β[i]?=some (some (.shl y d))->∃v,σ[i]?=some (some v)/\yX P w (eD C (Wn own) (yk true)) H y d v (own i)/\∀c∈own i,C.H0 c=none
abbrev SQ (X:Cx):=bz X.prog X.w
section
variable {P:Vz}{w:VG}{C:Cfg}{σ:St}{H H':Hp}{β:aJ}{own:Nat->List Addr}{W W':Addr->Prop}
theorem bz.qw (b:bz P w C σ H β own):Dm (Wn own) H:=λa ⟨i,h⟩=>(b.dm i a h).1
theorem bz.B6 (b:bz P w C σ H β own)(k:Kd):Dm (av C (Wn own) k) H:=λa h=>by
 cases k with
 |own=>exact h.elim (b.qw a) (b.eZ a)
 |d9=>exact h.elim (b.qw a) (b.eZ a)
 |old=>exact b.qw a h
 |bor=>exact h.elim
theorem gy (s:∀a,W' a->W a)(k:Kd):∀a,av C W' k a->av C W k a:=λa h=>by
 cases k with
 |own=>exact h.imp (s a) id
 |d9=>exact h.imp (s a) id
 |old=>exact s a h
 |bor=>exact h
theorem eX (s:∀a,W' a->W a)(k:Kd):∀a,eD C W' k a->eD C W k a:=λa h=>h.imp (gy s k a) id
theorem bz.keep (b:bz P w C σ H β own)(k:Kp (λa=>H a=none) H H')(kp:Kp C.IO H H')(dn:∀a,H a≠none->H' a≠none):bz P w C σ H' β own:=by
 have ko:∀c o,H c=some o->H' c=some o:=λc o e=>k.out c o e (by rw[e];exact λz=>(nomatch z))
 have same:ay H H':=ko;exact⟨b.len,λi y d e=>let ⟨v,h1,h2⟩:=b.val i y d e;⟨v,h1,h2.same same⟩,λi d e=>let ⟨v,h1,h2,h3⟩:=b.ow i d e;⟨v,h1,h2.keep (λ_ _ e=>same _ _ e) (λc _ o e=>same c o e),h3⟩,
  λi ok e=>let ⟨a,ns,h1,h2,h3⟩:=b.jL i ok e;⟨a,ns,h1,same _ _ h2,h3⟩,λi a h=>by
   obtain⟨h1,h2,h3⟩:=b.dm i a h;cases q:H a with
   |none=>exact absurd q h1
   |some o=>rw[same a o q];exact⟨λz=>(nomatch z),λxs z=>h2 xs (by rw[q];exact z),h3⟩,b.iI,b.jE,b.kp.trans kp,λa z=>dn a (b.eZ a z),λi y d e=>let ⟨v,h1,h2,h3⟩:=b.shl i y d e;⟨v,h1,h2.map (λc _ o e=>same c o e) (λ_ _ r=>r.same same),h3⟩⟩
theorem bz.same (b:bz P w C σ H β own)(s:ay H H'):bz P w C σ H' β own:=b.keep s.kp s.kp λa z e=>z (s.free e)
theorem gN {own:Nat->List Addr}{i:Nat}{a:Addr}(h:Wn (aI own i []) a):Wn own a:=let ⟨j,q⟩:=h;⟨j,(bu q).1⟩
theorem a_ {own:Nat->List Addr}{i j:Nat}{A:List Addr}(h:i≠j):aI own i A j=own j:=by unfold aI;rw[if_neg (Xg h)]
theorem os_eq {own:Nat->List Addr}{i:Nat}{A:List Addr}:aI own i A i=A:=by unfold aI;rw[if_pos rfl]
theorem bz.fE {i:Nat}{d:D}{v:V}{y:Bool}(b:bz P w C σ H β own)(r:az P w (eD C (Wn own) (yk y)) H d v):bz P w C (σ.set i (some v)) H (β.set i (some (.val y d))) (aI own i []):=by
 have sub:∀y a,eD C (Wn (aI own i [])) (yk y) a->eD C (Wn own) (yk y) a:=λy=>eX (λa h=>gN h) _;refine⟨by simp[b.len],λj y' d' e=>?_,λj d' e=>?_,λj ok e=>?_,λj a h=>b.dm j a (bu h).1,λj k a h1 h2=>b.iI j k a (bu h1).1 (bu h2).1,λj=>?_,b.kp,b.eZ,λj y' d' e=>?_⟩
 ·by_cases aD:i=j
  ·subst aD;obtain⟨e',hl⟩:=aR e;cases e';exact⟨v,get_set (by rw[<- b.len];exact hl),r.aO (sub _)⟩
  ·rw[aN aD]at e ⊢
   obtain⟨u,h1,h2⟩:=b.val j y' d' e;exact⟨u,h1,h2.aO (sub _)⟩
 ·by_cases aD:i=j
  ·subst aD;obtain⟨e',hl⟩:=aR e;cases e'
  ·rw[aN aD]at e ⊢
   rw[a_ aD];exact b.ow j d' e
 ·by_cases aD:i=j
  ·subst aD;obtain⟨e',hl⟩:=aR e;cases e'
  ·rw[aN aD]at e ⊢
   rw[a_ aD];exact b.jL j ok e
 ·by_cases aD:i=j
  ·rw[aD,os_eq];exact Wg
  ·rw[a_ aD];exact b.jE j
 ·by_cases aD:i=j
  ·subst aD;obtain⟨e',hl⟩:=aR e;cases e'
  ·rw[aN aD]at e ⊢
   rw[a_ aD];obtain⟨u,h1,h2,h3⟩:=b.shl j y' d' e;exact⟨u,h1,h2.map (λ_ _ _ z=>z) (λ_ _ r=>ai.aO (sub _) r),h3⟩
theorem bz.pS {i:Nat}{d:D}{v:V}{A:List Addr}(b:bz P w C σ H β own)(r:Own P w H d v A)(nd:A.Nodup)(nw:∀c∈A,C.H0 c=none/\¬ Wn own c/\C.U c):
  bz P w {C with U:=λ_=>False} (σ.set i (some v)) H (β.set i (some (.own d))) (aI own i A):=by
 have sub:∀y a,eD {C with U:=λ_=>False} (Wn (aI own i A)) (yk y) a->eD C (Wn own) (yk y) a:=λy a h=>by
  have q:∀a,Wn (aI own i A) a->Wn own a\/a∈A:=λa nX=>by
   obtain⟨j,q⟩:=nX
   by_cases aD:i=j
   ·rw[aD,os_eq]at q;exact .inr q
   ·rw[a_ aD]at q;exact .inl ⟨j,q⟩
  have q':∀a,Wn (aI own i A) a->Wn own a\/C.U a:=λa z=>(q a z).imp id λz=>(nw a z).2.2;rcases h with h|h
  ·cases y with
   |true=>exact h.elim (λz=>(q' a z).imp .inl id) λz=>.inl (.inr z)
   |false=>exact q' a h
  ·exact h.elim
 have mem:∀{j c},c∈aI own i A j->(i=j/\c∈A)\/(i≠j/\c∈own j):=λ{j c} h=>by
  by_cases aD:i=j
  ·subst aD;rw[os_eq]at h;exact .inl ⟨rfl,h⟩
  ·rw[a_ aD]at h;exact .inr ⟨aD,h⟩
 refine⟨by simp[b.len],λj y' d' e=>?_,λj d' e=>?_,λj ok e=>?_,λj a h=>?_,λj k a h1 h2=>?_,λj=>?_,b.kp,b.eZ,λj y' d' e=>?_⟩
 ·by_cases aD:i=j
  ·subst aD;obtain⟨e',hl⟩:=aR e;cases e'
  ·rw[aN aD]at e ⊢
   obtain⟨u,h1,h2⟩:=b.val j y' d' e;exact⟨u,h1,h2.aO (sub _)⟩
 ·by_cases aD:i=j
  ·subst aD;obtain⟨e',hl⟩:=aR e;cases e';rw[os_eq];exact⟨v,get_set (by rw[<- b.len];exact hl),r,λc hc=>(nw c hc).1⟩
  ·rw[aN aD]at e ⊢
   rw[a_ aD];exact b.ow j d' e
 ·by_cases aD:i=j
  ·subst aD;obtain⟨e',hl⟩:=aR e;cases e'
  ·rw[aN aD]at e ⊢
   rw[a_ aD];exact b.jL j ok e
 ·rcases mem h with⟨_,h⟩|⟨_,h⟩
  ·exact⟨(r.ny a h).1,(r.ny a h).2,.inl (nw a h).1,λz=>z⟩
  ·exact⟨(b.dm j a h).1,(b.dm j a h).2.1,(b.dm j a h).2.2.1,λz=>z⟩
 ·rcases mem h1 with⟨e1,h1⟩|⟨n1,h1⟩
  ·rcases mem h2 with⟨e2,h2⟩|⟨n2,h2⟩
   ·rw[<- e1,<- e2]
   ·exact absurd ⟨k,h2⟩ (nw a h1).2.1
  ·rcases mem h2 with⟨e2,h2⟩|⟨n2,h2⟩
   ·exact absurd ⟨j,h1⟩ (nw a h2).2.1
   ·exact b.iI j k a h1 h2
 ·by_cases aD:i=j
  ·rw[<- aD,os_eq];exact nd
  ·rw[a_ aD];exact b.jE j
 ·by_cases aD:i=j
  ·subst aD;obtain⟨e',hl⟩:=aR e;cases e'
  ·rw[aN aD]at e ⊢
   rw[a_ aD];obtain⟨u,h1,h2,h3⟩:=b.shl j y' d' e;exact⟨u,h1,h2.map (λ_ _ _ z=>z) (λ_ _ r=>ai.aO (sub _) r),h3⟩
theorem bz.freeze {i:Nat}{d:D}(b:bz P w C σ H β own)(h:β[i]?=some (some (.own d))):bz P w C σ H (β.set i (some (.val true d))) (aI own i []):=by
 obtain⟨v,h1,h2,h3⟩:=b.ow i d h;have e:σ.set i (some v)=σ:=by
  apply Yx;intro j;rw[XD]
  by_cases aD:i=j
  ·subst aD;rw[if_pos rfl,h1];have:i<σ.length:=(VN.mp h1).1;rw[if_pos this]
  ·rw[if_neg aD]
 have q:=bz.fE (i:=i) (d:=d) (v:=v) (y:=true) (own:=aI own i []) (C:=C) (P:=P) (w:=w) (σ:=σ) (H:=H) (β:=β.set i none);have b':bz P w C σ H (β.set i none) (aI own i []):=by
  have sub:∀y a,eD C (Wn (aI own i [])) (yk y) a->eD C (Wn own) (yk y) a:=λy=>eX (λa h=>gN h) _;refine⟨by simp[b.len],λj y' d' e=>?_,λj d' e=>?_,λj ok e=>?_,λj a h=>b.dm j a (bu h).1,λj k a h1 h2=>b.iI j k a (bu h1).1 (bu h2).1,λj=>?_,b.kp,b.eZ,λj y' d' e=>?_⟩
  ·by_cases aD:i=j
   ·subst aD;obtain⟨e',hl⟩:=aR e;cases e'
   ·rw[aN aD]at e;obtain⟨u,h1,h2⟩:=b.val j y' d' e;exact⟨u,h1,h2.aO (sub _)⟩
  ·by_cases aD:i=j
   ·subst aD;obtain⟨e',hl⟩:=aR e;cases e'
   ·rw[aN aD]at e;rw[a_ aD];exact b.ow j d' e
  ·by_cases aD:i=j
   ·subst aD;obtain⟨e',hl⟩:=aR e;cases e'
   ·rw[aN aD]at e;rw[a_ aD];exact b.jL j ok e
  ·by_cases aD:i=j
   ·rw[aD,os_eq];exact Wg
   ·rw[a_ aD];exact b.jE j
  ·by_cases aD:i=j
   ·subst aD;obtain⟨e',hl⟩:=aR e;cases e'
   ·rw[aN aD]at e;rw[a_ aD];obtain⟨u,h1,h2,h3⟩:=b.shl j y' d' e;exact⟨u,h1,h2.map (λ_ _ _ z=>z) (λ_ _ r=>ai.aO (sub _) r),h3⟩
 have q:=bz.fE (i:=i) (d:=d) (v:=v) (y:=true) b' (h2.rep λc hc z=>by
  rcases z with (z|z)|z
  ·obtain⟨j,hj⟩:=z;obtain⟨hj,ne⟩:=bu hj;exact ne (b.iI j i c hj hc)
  ·exact z (h3 c hc)
  ·exact(b.dm i c hc).2.2.2 z)
 rw[e,X3]at q;have eo:aI (aI own i []) i []=aI own i []:=by
  funext j
  by_cases aD:i=j
  ·rw[<- aD,os_eq,os_eq]
  ·rw[a_ aD,a_ aD]
 rwa [eo]at q
abbrev Cfg.u (C:Cfg)(U:Addr->Prop):Cfg:={C with U:=U}
theorem bz.kZ {U:Addr->Prop}(b:bz P w C σ H β own)(hU:∀a,U a->H a=none):bz P w (C.u U) σ H β own :=
 ⟨b.len,λi y d e=>let ⟨v,h1,h2⟩:=b.val i y d e;⟨v,h1,az.grow (λa z=>z.elim (λz=>.inl (.inl z)) λz=>.inr (hU a z)) h2⟩,b.ow,b.jL,λi a h=>let ⟨h1,h2,h3,_⟩:=b.dm i a h;⟨h1,h2,h3,λz=>h1 (hU a z)⟩,b.iI,b.jE,b.kp,b.eZ,λi y d e=>let ⟨v,h1,h2,h3⟩:=b.shl i y d e;⟨v,h1,h2.map (λ_ _ _ z=>z) (λ_ _ r=>ai.grow (λa z=>z.elim (λz=>.inl (.inl z)) λz=>.inr (hU a z)) r),h3⟩⟩
theorem bz.RH {U:Addr->Prop}(b:bz P w (C.u U) σ H β own):bz P w (C.u λ_=>False) σ H β own :=
 ⟨b.len,λi y d e=>let ⟨v,h1,h2⟩:=b.val i y d e;⟨v,h1,az.aO (λa z=>z.elim .inl λz=>z.elim) h2⟩,b.ow,b.jL,λi a h=>let ⟨h1,h2,h3,_⟩:=b.dm i a h;⟨h1,h2,h3,λz=>z⟩,b.iI,b.jE,b.kp,b.eZ,λi y d e=>let ⟨v,h1,h2,h3⟩:=b.shl i y d e;⟨v,h1,h2.map (λ_ _ _ z=>z) (λ_ _ r=>ai.aO (λa z=>z.elim .inl λz=>z.elim) r),h3⟩⟩
theorem bz.l8 {i:Nat}{y:Bool}{d:D}(b:bz P w C σ H β own)(e:β[i]?=some (some (.val y d))):∃v,σ[i]?=some (some v)/\az P w (av C (Wn own) (yk y)) H d v:=let ⟨v,h1,h2⟩:=b.val i y d e;⟨v,h1,az.aO (λa z=>.inl z) h2⟩
end
def KV (P:Vz)(w:VG)(C:Cfg)(Z:Hp×(Addr->Prop))(own:Nat->List Addr)(H:Hp):Kd->D->V->Prop
 |.own,d,v=>∃A,Own P w H d v A/\A.Nodup/\∀c∈A,Z.1 c=none/\¬ Wn own c/\C.H0 c=none
 |.d9,d,v=>az P w (av C (Wn own) .d9) H d v
 |.old,d,v=>az P w (av C (Wn own) .old) H d v
 |.bor,d,v=>az P w (av C (Wn own) .bor) H d v
structure Q3 (P:Vz)(w:VG)(C:Cfg)(σ:St)(H:Hp)(own:Nat->List Addr)(p:Bool)(β':aJ)(H':Hp)(aL:Nat->List Addr):Prop where
 sq:bz P w C σ H' β' aL
 sn:Sn (H,Wn own) H' (Wn aL)
 pu:p=true->ay H H'/\aL=own
 le:∀a,Wn aL a->Wn own a
abbrev Out (X:Cx):=Q3 X.prog X.w
section
variable {X:Cx}{C:Cfg}{σ:St}{H H1 H2 H':Hp}{own aw aZ:Nat->List Addr}{p p':Bool}{β β1 β2 β':aJ}{Z:Hp×(Addr->Prop)}{d:D}{v:V}{k:Kd}{P:Vz}{w:VG}
theorem Out.refl (s:SQ X C σ H β own)(p:Bool):Out X C σ H own p β H own:=⟨s,Sn.refl,λ_=>⟨ay.refl _,rfl⟩,λ_ z=>z⟩
theorem Out.trans (a:Out X C σ H own p β1 H1 aw)(b:Out X C σ H1 aw p' β2 H2 aZ):Out X C σ H own (p&&p') β2 H2 aZ:=⟨b.sq,a.sn.trans b.sn,λh=>by
 rw[Wf]at h;obtain⟨s1,e1⟩:=a.pu h.1;obtain⟨s2,e2⟩:=b.pu h.2;exact⟨s1.trans s2,e2.trans e1⟩,λc z=>a.le c (b.le c z)⟩
theorem Out.same (a:Out X C σ H own p β1 H1 aw)(s:ay H1 H2):Out X C σ H own p β1 H2 aw:=⟨a.sq.same s,a.sn.same s,λh=>let ⟨s1,e1⟩:=a.pu h;⟨s1.trans s,e1⟩,a.le⟩
theorem Out.wk (a:Out X C σ H own p β1 H1 aw)(h:p'=true->p=true):Out X C σ H own p' β1 H1 aw:=⟨a.sq,a.sn,λz=>a.pu (h z),a.le⟩
theorem Out.yG {q:Bool}(a:Out X C σ H own p β1 H1 aw)(b:Out X C σ H1 aw p' β2 H2 aZ)(h:q=true->p=true/\p'=true):Out X C σ H own q β2 H2 aZ:=(a.trans b).wk λz=>by rw[(h z).1,(h z).2];rfl
theorem KV.rep (h:KV P w C Z own H k d v):az P w (av C (Wn own) k) H d v:=by
 cases k with
 |own=>obtain⟨A,h1,h2,h3⟩:=h;exact h1.rep λc hc z=>z.elim (h3 c hc).2.1 λz=>z (h3 c hc).2.2
 |_=>exact h
theorem KV.d9 (h:KV P w C Z own H .own d v):KV P w C Z own H .d9 d v:=KV.rep (k:=.own) h
theorem KV.flat {W:Addr->Prop}(f:d.flat=true)(h:az P w W H d v):KV P w C Z own H .own d v:=⟨[],da f h,Wg,λc hc=>(nomatch hc)⟩
noncomputable abbrev Kd.wk:Kd->Kd
 |.own=>.d9
 |.d9=>.d9
 |.old=>.old
 |.bor=>.bor
abbrev Kd.max:Kd->Kd->Kd
 |.bor,_=>.bor
 |_,.bor=>.bor
 |.old,_=>.old
 |_,.old=>.old
 |_,_=>.d9
theorem dJ {W:Addr->Prop}{a b:Kd}:∀c,av C W (a.max b) c->av C W a c:=λc h=>by
 cases a <;> cases b <;> first|exact h|exact h.elim|exact .inl h
theorem gz {W:Addr->Prop}{a b:Kd}:∀c,av C W (a.max b) c->av C W b c:=λc h=>by
 cases a <;> cases b <;> first|exact h|exact h.elim|exact .inl h
theorem KV.of (h:az P w (av C (Wn own) k.wk) H d v):KV P w C Z own H k.wk d v:=by
 cases k <;> exact h
theorem KV.KA (h:KV P w C Z own H k d v)(s:ay H H'):KV P w C Z own H' k d v:=by
 cases k with
 |own=>obtain⟨A,h1,h2⟩:=h;exact⟨A,h1.keep (λb xs e=>s _ _ e) (λc _ o e=>s c o e),h2⟩
 |d9=>exact az.same s h
 |old=>exact az.same s h
 |bor=>exact az.same s h
theorem KV.held (hk:k≠.bor)(h:KV P w C Z own H k d v)(n:Sn (H,Wn own) H2 (Wn aZ)):KV P w C Z aZ H2 k d v:=by
 cases k with
 |own =>
  obtain⟨A,h1,h2,h3⟩:=h;refine⟨A,h1.keep n.k.tup (λc hc o e=>n.k.out c o e λz=>z.elim (h3 c hc).2.1 λz=>(h1.ny c hc).1 z),h2,λc hc=>⟨(h3 c hc).1,λz=>(n.w c z).elim (h3 c hc).2.1 λz=>(h1.ny c hc).1 z,(h3 c hc).2.2⟩⟩
 |d9 =>
  have g:az P w (λa=>av C (Wn own) .d9 a\/H a=none) H d v:=az.grow (λb z=>z) h;exact az.aO (λb z=>z.elim (λz=>(n.w b z).imp .inl id) λz=>.inl (.inr z)) (az.keep (n.k.mono λb z=>z.imp .inl id) g)
 |old=>exact held (W:=Wn own) h n
 |bor=>exact absurd rfl hk
theorem KV.MO (h:KV P w C Z own H k d v)(s:ay H H2)(e:aZ=own):KV P w C Z aZ H2 k d v:=by rw[e];exact h.KA s
abbrev hold (k:Kd)(p:Bool):Prop:=match k,p with
 |.bor,false=>False
 |_,_=>True
theorem KV.ho (h:KV P w C Z own H k d v)(o:Out X C σ H own p β' H2 aZ)(hh:hold k p):KV P w C Z aZ H2 k d v:=by
 cases p with
 |true=>obtain⟨s,e⟩:=o.pu rfl;exact h.MO s e
 |false=>exact h.held (by rintro rfl;exact hh) o.sn
theorem KV.later (h:KV P w C (H1,Wn aw) own H k d v)(n:Sn Z H1 (Wn aw)):KV P w C Z own H k d v:=by
 cases k with
 |own=>obtain⟨A,h1,h2,h3⟩:=h;exact⟨A,h1,h2,λc hc=>⟨n.free (h3 c hc).1,(h3 c hc).2⟩⟩
 |_=>exact h
end
abbrev aE:=aJ->(D->Kd->aJ->Prop)->Prop
abbrev aP:=aJ->(Bool->aJ->Prop)->Prop
abbrev cc:=aJ->(List D->List Kd->aJ->Prop)->Prop
def tQ (X:Cx)(C:Cfg)(p:Bool)(φ:aE):TE:=λσ H Q=>∃β own,SQ X C σ H β own/\φ β λd k β'=>∀v H' aL,Out X C σ H own p β' H' aL->KV X.prog X.w C (H,Wn own) aL H' k d v->Q v H'
def iN (X:Cx)(C:Cfg)(p:Bool)(φ:aP):TT:=λσ H Q=>∃β own,SQ X C σ H β own/\φ β λb β'=>∀H' aL,Out X C σ H own p β' H' aL->Q b H'
def KF (P:Vz)(w:VG)(C:Cfg)(own:Nat->List Addr)(H:Hp):List Kd->List D->List V->List Addr->Prop
 |[],ds,vs,A=>ds=[]/\vs=[]/\A=[]
 |k::ks,ds,vs,A=>∃d dr v vr A1 A2,ds=d::dr/\vs=v::vr/\A=A1++A2/\(match k with | .own=>Own P w H d v A1|k=>A1=[]/\az P w (av C (Wn own) k) H d v)/\KF P w C own H ks dr vr A2
def tH (P:Vz)(w:VG)(C:Cfg)(Z:Hp×(Addr->Prop))(own:Nat->List Addr)(H:Hp)(ks:List Kd)(ds:List D)(vs:List V):Prop :=
 ∃A,KF P w C own H ks ds vs A/\A.Nodup/\∀c∈A,Z.1 c=none/\¬ Wn own c/\C.H0 c=none
def qJ (X:Cx)(C:Cfg)(p:Bool)(φ:cc):TA:=λσ H Q=>∃β own,SQ X C σ H β own/\φ β λds ks β'=>∀vs H' aL,Out X C σ H own p β' H' aL->tH X.prog X.w C (H,Wn own) aL H' ks ds vs->Q vs H'
section
variable {C:Cfg}{H H1:Hp}{own aw:Nat->List Addr}{Z:Hp×(Addr->Prop)}{d:D}{v:V}{k:Kd}{P:Vz}{w:VG}{ks:List Kd}{ds:List D}{vs:List V}
theorem tH.nil:tH P w C Z own H [] [] []:=⟨[],⟨rfl,rfl,rfl⟩,Wg,λc hc=>(nomatch hc)⟩
theorem KF.ny:∀{ks:List Kd} {ds:List D} {vs:List V} {A:List Addr},KF P w C own H ks ds vs A->∀c∈A,H c≠none
 |[],_,_,_,⟨_,_,e⟩,c,hc=>by rw[e]at hc;cases hc
 |k::ks,_,_,_,⟨d,dr,v,vr,A1,A2,rfl,rfl,rfl,h1,h2⟩,c,hc=>by
  rcases VL.mp hc with hc|hc
  ·cases k with
   |own=>exact(Own.ny h1 c hc).1
   |_=>rw[h1.1]at hc;cases hc
  ·exact KF.ny h2 c hc
theorem tH.cons (h1:KV P w C Z aw H1 k d v)(n:Sn (H1,Wn aw) H (Wn own))(J3:KV P w C Z own H k d v)(h2:tH P w C (H1,Wn aw) own H ks ds vs)(n0:Sn Z H1 (Wn aw)):tH P w C Z own H (k::ks) (d::ds) (v::vs):=by
 obtain⟨A2,f2,Eb,q2⟩:=h2;have z2:∀c∈A2,Z.1 c=none/\¬ Wn own c/\C.H0 c=none:=λc hc=>⟨n0.free (q2 c hc).1,(q2 c hc).2⟩;cases k with
 |own =>
  obtain⟨A1,o1,AW,q1⟩:=h1;obtain⟨Vs,Vd,Tf,NB⟩:=(show KV P w C Z own H .own d v from KV.held (k:=.own) (λz=>(nomatch z)) (⟨A1,o1,AW,q1⟩:KV P w C Z aw H1 .own d v) n)
  have O4:Own P w H d v A1:=o1.keep n.k.tup (λc hc o e=>n.k.out c o e λz=>z.elim (q1 c hc).2.1 λz=>(o1.ny c hc).1 z);refine⟨A1++A2,⟨d,ds,v,vs,A1,A2,rfl,rfl,rfl,O4,f2⟩,Wk.mpr ⟨AW,Eb,λa ha b hb e=>?_⟩,λc hc=>?_⟩
  ·subst e;exact(o1.ny a ha).1 (q2 a hb).1
  ·rcases VL.mp hc with hc|hc
   ·exact⟨(q1 c hc).1,λz=>(n.w c z).elim (q1 c hc).2.1 λz=>(o1.ny c hc).1 z,(q1 c hc).2.2⟩
   ·exact z2 c hc
 |d9=>exact⟨A2,⟨d,ds,v,vs,[],A2,rfl,rfl,rfl,⟨rfl,J3⟩,f2⟩,Eb,z2⟩
 |old=>exact⟨A2,⟨d,ds,v,vs,[],A2,rfl,rfl,rfl,⟨rfl,J3⟩,f2⟩,Eb,z2⟩
 |bor=>exact⟨A2,⟨d,ds,v,vs,[],A2,rfl,rfl,rfl,⟨rfl,J3⟩,f2⟩,Eb,z2⟩
abbrev jh:List Kd->Kd
 |[]=>.d9
 |k::ks=>Kd.max k (jh ks)
theorem KF.kn:∀{ks:List Kd} {ds:List D} {vs:List V} {A:List Addr},KF P w C own H ks ds vs A->(∀c∈A,¬ Wn own c/\C.H0 c=none)->ai P w (av C (Wn own) (jh ks)) H ds vs
 |[],_,_,_,⟨e1,e2,e⟩,_=>by rw[e1,e2];rfl
 |k::ks,_,_,_,⟨d,dr,v,vr,A1,A2,rfl,rfl,rfl,h1,h2⟩,hA=>by
  refine⟨v,vr,rfl,?_,ai.aO gz (KF.kn h2 λc hc=>hA c (VY _ hc))⟩;cases k with
  |own=>exact az.aO dJ (Own.rep (W:=av C (Wn own) .own) (λc hc z=>z.elim (hA c (V3 _ hc)).1 λz=>z (hA c (V3 _ hc)).2) h1)
  |d9=>exact az.aO (dJ (a:=.d9)) h1.2
  |old=>exact az.aO (dJ (a:=.old)) h1.2
  |bor=>exact az.aO (dJ (a:=.bor)) h1.2
theorem tH.kn (h:tH P w C Z own H ks ds vs):ai P w (av C (Wn own) (jh ks)) H ds vs:=let ⟨A,h1,_,h3⟩:=h;h1.kn λc hc=>(h3 c hc).2
theorem tH.bor (h:tH P w C Z own H ks ds vs):ai P w (λ_=>False) H ds vs:=ai.aO (λ_ z=>z.elim) h.kn
def wN:List Kd->List D->Prop
 |k::ks,d::ds=>(match k with | .own=>True|_=>d.flat=true)/\wN ks ds
 |_,_=>True
theorem KF.Ht:∀{ks:List Kd} {ds:List D} {vs:List V} {A:List Addr},KF P w C own H ks ds vs A->wN ks ds->aF P w H ds vs A
 |[],_,_,_,⟨e1,e2,e⟩,_=>by rw[e1,e2,e];exact⟨rfl,rfl⟩
 |k::ks,_,_,_,⟨d,dr,v,vr,A1,A2,rfl,rfl,rfl,h1,h2⟩,⟨f1,f2⟩=>by
  refine⟨v,vr,A1,A2,rfl,rfl,?_,KF.Ht h2 f2⟩;cases k with
  |own=>exact h1
  |d9=>rw[h1.1];exact da f1 h1.2
  |old=>rw[h1.1];exact da f1 h1.2
  |bor=>rw[h1.1];exact da f1 h1.2
theorem jG:∀{ks:List Kd},(jh ks).wk=jh ks
 |[]=>rfl
 |k::ks=>by cases k <;> cases h:jh ks <;> simp[jh,Kd.max,h]
def Bh (ks:List Kd)(ds:List D)(K:Kd->Prop):Prop:=match ks.all (λk=>match k with | .own=>true|_=>false)with
 |true=>K .own
 |false=>(wN ks ds/\K .own)\/K (jh ks)
theorem Bh.mono {ks:List Kd}{ds:List D}{K K':Kd->Prop}(k:∀x,K x->K' x)(h:Bh ks ds K):Bh ks ds K':=by
 unfold Bh at *
 split
 ·next e=>rw[e]at h;exact k _ h
 ·next e=>rw[e]at h;exact h.imp (λz=>⟨z.1,k _ z.2⟩) (k _)
theorem Bh.of {ks:List Kd}{ds:List D}{K:Kd->Prop}(h:Bh ks ds K):(wN ks ds/\K .own)\/K (jh ks):=by
 unfold Bh at h
 split at h
 ·next e =>
  refine .inl ⟨?_,h⟩
  clear h
  induction ks generalizing ds with
  |nil=>cases ds <;> trivial
  |cons k ks ih =>
   cases ds with
   |nil=>trivial
   |cons d ds =>
    rw[List.all_cons,Wf]at e;refine⟨?_,ih e.2⟩;have e1:=e.1;cases k <;> first|trivial|cases e1
 ·exact h
end
structure PQ (X:Cx)(C:Cfg)(p:Bool)(e:Expr)(φ:aE):Prop where
 mono:∀β R R',(∀d k β,R d k β->R' d k β)->φ β R->φ β R'
 pe:PE X e (tQ X C p φ)
structure u_ (X:Cx)(C:Cfg)(p:Bool)(e:Expr)(φ:aP):Prop where
 mono:∀β R R',(∀d β,R d β->R' d β)->φ β R->φ β R'
 pt:PT X e (iN X C p φ)
structure Fu (X:Cx)(C:Cfg)(p:Bool)(e:Expr)(φ:aP):Prop where
 mono:∀β R R',(∀d β,R d β->R' d β)->φ β R->φ β R'
 pw:PW X e (iN X C p φ)
structure qF (X:Cx)(C:Cfg)(p:Bool)(es:List Expr)(φ:cc):Prop where
 mono:∀β R R',(∀d k β,R d k β->R' d k β)->φ β R->φ β R'
 pa:PA X es (qJ X C p φ)
section
variable {X:Cx}{C:Cfg}{a b c e:Expr}{es:List Expr}{φ φa φb:aE}{τ τa τb:aP}{φs:cc}{pos:Pos}{σ:St}{H H':Hp}{β:aJ}{own:Nat->List Addr}{p p':Bool}
theorem tQ.of (h:PQ X C p e φ)(s:SQ X C σ H β own){R:D->Kd->aJ->Prop}{Q:VK}(hr:φ β R)(k:∀d kd β' v H' aL,R d kd β'->Out X C σ H own p β' H' aL->KV X.prog X.w C (H,Wn own) aL H' kd d v->Q v H'):tQ X C p φ σ H Q :=
 ⟨β,own,s,h.mono β _ _ (λd kd β' hd v H' aL o r=>k d kd β' v H' aL hd o r) hr⟩
theorem iN.of (h:u_ X C p e τ)(s:SQ X C σ H β own){R:Bool->aJ->Prop}{Q:Bool->Hp->Prop}(hr:τ β R)(k:∀t β' H' aL,R t β'->Out X C σ H own p β' H' aL->Q t H'):iN X C p τ σ H Q :=
 ⟨β,own,s,h.mono β _ _ (λt β' hd H' aL o=>k t β' H' aL hd o) hr⟩
theorem qJ.of (h:qF X C p es φs)(s:SQ X C σ H β own){R:List D->List Kd->aJ->Prop}{Q:List V->Hp->Prop}(hr:φs β R)(k:∀ds ks β' vs H' aL,R ds ks β'->Out X C σ H own p β' H' aL->tH X.prog X.w C (H,Wn own) aL H' ks ds vs->Q vs H'):qJ X C p φs σ H Q :=
 ⟨β,own,s,h.mono β _ _ (λd kd β' hd v H' aL o r=>k d kd β' v H' aL hd o r) hr⟩
theorem Fu.t (h:Fu X C p e τ):u_ X C p e τ:=⟨h.mono,h.pw.pt⟩
noncomputable abbrev vk (y:Bool):D->Kd
 |.int _=>.own
 |.bl _=>.own
 |.cU=>.own
 |.str _=>.own
 |_=>yk y
def qB:B->(D->Kd->Prop)->Prop
 |.val y d,K=>K d (vk y d)
 |.own d,K=>K d .bor
 |.hand _,_=>False
 |.shl _ _,_=>False
def zG (i:Nat):aE:=λβ R=>∃b,β[i]?=some (some b)/\qB b λd k=>R d k β
theorem Ii {P:Vz}{w:VG}{Z:Hp×(Addr->Prop)}{y:Bool}{d:D}{v:V}(h:az P w (av C (Wn own) (yk y)) H d v):KV P w C Z own H (vk y d) d v:=by
 cases d with
 |int i=>exact KV.flat rfl h
 |bl i=>exact KV.flat rfl h
 |cU=>exact KV.flat rfl h
 |str i=>exact KV.flat rfl h
 |_=>cases y <;> exact h
theorem ae {i:Nat}{x:Str}(hn:Nm X i x:=by exact xN):
  PQ X C true (.Name x pos) (zG i):=⟨λβ R R' k nX=>by obtain⟨b,e,h⟩:=nX;exact⟨b,e,by cases b <;> first|exact k _ _ _ h|exact h⟩,(fT hn).pre λσ H Q sA=>by
 obtain⟨β,own,s,b,e,q⟩:=sA;cases b with
 |val y d=>obtain⟨v,h1,h2⟩:=s.l8 e;exact⟨v,h1,q v H own (Out.refl s _) (Ii h2)⟩
 |own d=>obtain⟨v,h1,h2,h3⟩:=s.ow i d e;exact⟨v,h1,q v H own (Out.refl s _) (h2.rep λ_ _ z=>z)⟩
 |hand ok=>exact q.elim
 |shl _ _=>exact q.elim⟩
def qC (d:D):aE:=λβ R=>R d .own β
theorem ah {i j}:PQ X C true (.Constant (.int i) j pos) (qC (.int i)):=⟨λρ R R' k h=>k _ _ _ h,a9.pre λσ H Q EG=>by obtain⟨β,own,s,q⟩:=EG;exact q _ H own (Out.refl s _) (KV.flat (W:=λ_=>False) rfl rfl)⟩
theorem FN {b j}:PQ X C true (.Constant (.bool b) j pos) (qC (.bl b)):=⟨λρ R R' k h=>k _ _ _ h,Ai.pre λσ H Q LY=>by obtain⟨β,own,s,q⟩:=LY;exact q _ H own (Out.refl s _) (KV.flat (W:=λ_=>False) rfl rfl)⟩
theorem uk {j}:PQ X C true (.Constant .none j pos) (qC .cU):=⟨λρ R R' k h=>k _ _ _ h,Hl.pre λσ H Q Bq=>by obtain⟨β,own,s,q⟩:=Bq;exact q _ H own (Out.refl s _) (KV.flat (W:=λ_=>False) rfl rfl)⟩
def zF (X:Cx)(f:D->D->Option D)(N:D->Prop):R2:=λx y H Q=>∃W d1 d2 d,Dm W H/\Rp X W H d1 x/\Rp X W H d2 y/\f d1 d2=some d/\∀v H',ay H H'->Rp X W H' d v->(N d->Rp X (λa=>H a≠none) H' d v)->Q v H'
abbrev N6 (X:Cx)(f:Vv->Vv->Sem Vv)(g:D->D->Option D)(N:D->Prop):Prop:=j8 X f (zF X g N)
theorem cy.m {f:Vv->Vv->Sem Vv}{g:D->D->Option D}(h:cy X f g):N6 X f g NF:=λpins s σ H x y v u Q I rx ry ⟨W,d1,d2,d,hd,r1,r2,e,q⟩ =>
 h pins s σ H x y v u Q I rx ry ⟨W,d1,d2,d,hd,r1,r2,e,λv H' s r=>q v H' s r λf=>az.flat f r⟩
noncomputable def kN (N:D->Prop)(d:D)(k:Kd)(K:Kd->Prop):Prop:=match d with
 |.int _=>K .own
 |.bl _=>K .own
 |.cU=>K .own
 |.str _=>K .own
 |.tup _=>K k
 |_=>(N d/\K .own)\/K k
theorem kN.mono {N:D->Prop}{d:D}{k:Kd}{K K':Kd->Prop}(h:∀x,K x->K' x)(q:kN N d k K):kN N d k K':=by
 cases d <;> first|exact h _ q|exact q.imp (λz=>⟨z.1,h _ z.2⟩) (h _)
theorem ij {P:Vz}{w:VG}{Z:Hp×(Addr->Prop)}{d:D}{v:V}(hd:Dm (Wn own) H)(h0:∀a,C.H0 a≠none->H a≠none)(hz:∀a,Z.1 a≠none->H a≠none)(f:NL d)(r:az P w (λa=>H a≠none) H' d v):KV P w C Z own H' .own d v:=by
 have nn:∀{a:Addr},¬ (H a≠none)->H a=none:=λ{a} h=>VS λz=>h z;have cl:∀{a:Addr},H a=none->Z.1 a=none/\¬ Wn own a/\C.H0 a=none:=λ{a} h=>⟨VS λz=>hz a z h,λz=>hd a z h,VS λz=>h0 a z h⟩;cases d with
 |lst ds =>
  obtain⟨a,vs,rfl,e,n,q⟩:=r;exact⟨[a],⟨a,vs,[],rfl,e,rfl,ie f q⟩,by simp,λc hc=>by rw[VD.mp hc];exact cl (nn n)⟩
 |_=>exact KV.flat f r
theorem KV.kN {N:D->Prop}{P:Vz}{w:VG}{Z:Hp×(Addr->Prop)}{d:D}{v:V}{k:Kd}{K:Kd->Prop}(hk:k.wk=k)(r:az P w (av C (Wn own) k) H' d v)(ro:N d->KV P w C Z own H' .own d v)(q:kN N d k K):∃k',K k'/\KV P w C Z own H' k' d v:=by
 have rk:KV P w C Z own H' k d v:=by rw[<- hk];exact KV.of (by rw[hk];exact r)
 cases d with
 |int i=>exact⟨_,q,KV.flat rfl r⟩
 |bl i=>exact⟨_,q,KV.flat rfl r⟩
 |cU=>exact⟨_,q,KV.flat rfl r⟩
 |str i=>exact⟨_,q,KV.flat rfl r⟩
 |tup ds=>exact⟨_,q,rk⟩
 |_=>exact q.elim (λz=>⟨_,z.2,ro z.1⟩) λz=>⟨_,z,rk⟩
structure CW (N:D->Prop):Prop where
 nl:∀d,N d->NL d
theorem aT:CW NL:=⟨λ_ h=>h⟩
theorem ag:CW NF:=⟨λd h=>by cases d <;> first|exact h|cases h⟩
theorem FX {a b:Kd}:(a.max b).wk=a.max b:=by cases a <;> cases b <;> rfl
def yI (g:D->D->Option D)(N:D->Prop)(pb:Bool)(φa φb:aE):aE:=λβ R=>φa β λx ka β1=>hold ka pb/\φb β1 λy kb β2=>∃d,g x y=some d/\kN N d (ka.max kb) λk=>R d k β2
variable {g:D->D->Option D}{N:D->Prop}
theorem yI.mono (ha:PQ X C p a φa)(hb:PQ X C p' b φb):∀β R R',(∀d k β,R d k β->R' d k β)->yI g N p' φa φb β R->yI g N p' φa φb β R':=λβ R R' k h =>
 ha.mono β _ _ (λx ka β1 hx=>⟨hx.1,hb.mono β1 _ _ (λy kb β2 Bx=>by obtain⟨d,e,q⟩:=Bx;exact⟨d,e,q.mono λ_ z=>k _ _ _ z⟩) hx.2⟩) h
theorem ug (hn:CW N)(ha:PQ X C p a φa)(hb:PQ X C p' b φb):∀σ H Q,tQ X C (p&&p') (yI g N p' φa φb) σ H Q->Kr (zF X g N) (tQ X C p φa) (tQ X C p' φb) σ H Q:=λσ H Q ⟨β,own,s,h⟩ =>
 tQ.of ha s h λd1 k1 β1 v1 H1 aw ⟨hh,h1⟩ o1 r1=>tQ.of hb o1.sq h1 λd2 k2 β2 v2 H2 aZ Bw o2 r2=>by
  obtain⟨d,e,q⟩:=Bw;have JX:=r1.ho o2 hh;refine⟨av C (Wn aZ) (k1.max k2),d1,d2,d,o2.sq.B6 _,az.aO dJ JX.rep,az.aO gz r2.rep,e,λv H' s3 r3 n3=>?_⟩;have o:=(o1.trans o2).same s3;obtain⟨k,q,r⟩:=KV.kN (Z:=(H,Wn own)) FX r3 (λn=>ij (H:=H2) o2.sq.qw o2.sq.eZ (λa z=>o2.sn.d a (o1.sn.d a z)) (hn.nl _ n) (n3 n)) q;exact q v H' aZ o r
theorem aK {op:Operator}(hn:CW N)(ho:N6 X (Xv op) g N)(ha:PQ X C p a φa)(hb:PQ X C p' b φb):PQ X C (p&&p') (.BinOp a op b pos) (yI g N p' φa φb):=⟨yI.mono ha hb,(c9 ho ha.pe hb.pe).pre (ug hn ha hb)⟩
theorem pZ {op:Yd}(hn:CW N)(ho:N6 X (Ww op) g N)(ha:PQ X C p a φa)(hb:PQ X C p' b φb)(hm:Xy op b=false:=by first|exact rS _ (by decide) (by decide)|rfl):PQ X C (p&&p') (.Compare a [op] [b] pos) (yI g N p' φa φb) :=
 ⟨yI.mono ha hb,(DC ho ha.pe hb.pe hm).pre (ug hn ha hb)⟩
theorem aM (hn:CW N)(ho:Fw X (zF X g N))(ha:PQ X C p a φa)(hb:PQ X C p' b φb)(hs:lX b:=by exact λ_ _=>rfl):PQ X C (p&&p') (.Subscript a b pos) (yI g N p' φa φb):=⟨yI.mono ha hb,(jB ho ha.pe hb.pe hs).pre (ug hn ha hb)⟩
def zH (φ:aE):aP:=λβ R=>φ β λd k β'=>∃b,d=.bl b/\R b β'
theorem aS {op:Yd}(hn:CW N)(ho:N6 X (Ww op) g N)(ha:PQ X C p a φa)(hb:PQ X C p' b φb)(hm:Xy op b=false:=by first|exact rS _ (by decide) (by decide)|rfl):u_ X C (p&&p') (.Compare a [op] [b] pos) (zH (yI g N p' φa φb)) :=
 ⟨λβ R R' k h=>yI.mono ha hb β _ _ (λd kd β uJ=>by obtain⟨t,e,q⟩:=uJ;exact⟨t,e,k _ _ q⟩) h,(vA ho ha.pe hb.pe hm).pre λσ H Q ⟨β,own,s,h⟩ =>
  tQ.of ha s h λd1 k1 β1 v1 H1 aw ⟨hh,h1⟩ o1 r1=>tQ.of hb o1.sq h1 λd2 k2 β2 v2 H2 aZ IM o2 r2=>by
   obtain⟨d,e,q⟩:=IM;have JX:=r1.ho o2 hh;refine⟨av C (Wn aZ) (k1.max k2),d1,d2,d,o2.sq.B6 _,az.aO dJ JX.rep,az.aO gz r2.rep,e,λv H' s3 r3 n3=>?_⟩;obtain⟨k,⟨t,et,q'⟩,r⟩:=KV.kN (Z:=(H,Wn own)) FX r3 (λn=>ij (H:=H2) o2.sq.qw o2.sq.eZ (λa z=>o2.sn.d a (o1.sn.d a z)) (hn.nl _ n) (n3 n)) q;subst et;cases r3;exact⟨t,rfl,q' H' aZ ((o1.trans o2).same s3)⟩⟩
theorem vD (ha:PQ X C p a φa)(he:∀whole,ZC a X.env whole=(do let v <- whole;Yt a.pos;holding [v] (truthy v)):=by intro _;rfl):u_ X C p a (zH φa) :=
 ⟨λβ R R' k h=>ha.mono β _ _ (λd kd β' IL=>by obtain⟨b,e,q⟩:=IL;exact⟨b,e,k _ _ q⟩) h,(G_ ha.pe he).pre λσ H Q ⟨β,own,s,h⟩=>tQ.of ha s h λd k β' v H1 aw P5 o1 r1=>by
  obtain⟨b,e,q⟩:=P5;subst e;cases r1.rep;exact⟨b,rfl,q H1 aw o1⟩⟩
def KR (τ:aP):aP:=λβ R=>τ β λb β'=>R (!b) β'
theorem fx (ha:u_ X C p a τ):u_ X C p (.UnaryOp .Not a pos) (KR τ) :=
 ⟨λβ R R' k h=>ha.mono β _ _ (λb β' q=>k _ _ q) h,(Ha ha.pt).pre λσ H Q IJ=>by obtain⟨β,own,s,h⟩:=IJ;exact iN.of ha s h λb β' H1 aw q o=>q H1 aw o⟩
variable {rest:List Expr}
def K0 (τa τb:aP):aP:=λβ R=>τa β λt β1=>if t=true then τb β1 R else R false β1
theorem jz (ha:u_ X C p a τ):Fu X C p (.BoolOp .And [a] pos) τ:=⟨ha.mono,pw_and1 ha.pt⟩
theorem Fp {p q:Bool}(z:(p&&q)=true):p=true:=by cases p <;> first|rfl|cases z
theorem Na {p q:Bool}(z:(p&&q)=true):q=true:=by cases p <;> first|exact z|cases z
theorem lM (ha:u_ X C p a τa)(hb:Fu X C p' (.BoolOp .And (b::rest) pos) τb):Fu X C (p&&p') (.BoolOp .And (a::b::rest) pos) (K0 τa τb) :=
 ⟨λβ R R' k h=>ha.mono β _ _ (λt β1 q=>by
   cases t
   ·exact k _ _ q
   ·exact hb.mono β1 _ _ k q) h,(pw_and ha.pt hb.pw).pre λσ H Q ⟨β,own,s,h⟩=>iN.of ha s h λt β1 H1 aw q o1=>by
  cases t
  ·exact q H1 aw (o1.wk Fp)
  ·exact iN.of hb.t o1.sq q λt' β2 H2 aZ q2 o2=>q2 H2 aZ (o1.trans o2)⟩
def S9 (φa φb:aE):aE:=λβ R=>φa β λx _ β1=>∃c,x=.bl c/\if c=true then R (.bl true) .own β1 else φb β1 R
theorem zW {op}(h:PQ X C p a φ):PQ X C p (.BoolOp op [a] pos) φ:=⟨h.mono,Hk h.pe⟩
theorem Bd {P:Vz}{w:VG}{Z:Hp×(Addr->Prop)}{b:Bool}:KV P w C Z own H .own (.bl b) (.bl b):=KV.flat (W:=λ_=>False) rfl rfl
theorem FL (ha:PQ X C p a φa)(hb:PQ X C p' (.BoolOp .Or (b::rest) pos) φb):PQ X C (p&&p') (.BoolOp .Or (a::b::rest) pos) (S9 φa φb) :=
 ⟨λβ R R' k h=>ha.mono β _ _ (λd kd β1 ⟨c,e,q⟩=>⟨c,e,by
   cases c
   ·exact hb.mono β1 _ _ k q
   ·exact k _ _ _ q⟩) h,(K6 ha.pe hb.pe).pre λσ H Q ⟨β,own,s,h⟩=>tQ.of ha s h λd kd β1 v H1 aw IH o1 r1=>by
  obtain⟨c,e,q⟩:=IH;subst e;cases r1.rep;refine⟨c,rfl,?_⟩;cases c
  ·exact tQ.of hb o1.sq q λd2 k2 β2 v2 H2 aZ q2 o2 r2=>q2 v2 H2 aZ (o1.trans o2) (r2.later o1.sn)
  ·exact q _ H1 aw (o1.wk Fp) Bd⟩
def S7 (g:D->Option D)(φa:aE):aE:=λβ R=>φa β λx _ β1=>∃d,g x=some d/\d.flat=true/\R d .own β1
theorem mD {op:UnaryOp}{g:D->Option D}(ho:Nb X (unaryOp op) (Rz X g))(ha:PQ X C p a φa):PQ X C p (.UnaryOp op a pos) (S7 g φa) :=
 ⟨λβ R R' k h=>ha.mono β _ _ (λx _ β1 PU=>by obtain⟨d,e,f,q⟩:=PU;exact⟨d,e,f,k _ _ _ q⟩) h,(Aa ho ha.pe).pre λσ H Q ⟨β,own,s,h⟩ =>
  tQ.of ha s h λd1 k1 β1 v1 H1 aw PR o1 r1=>by obtain⟨d,e,f,q⟩:=PR;exact⟨_,d1,d,o1.sq.B6 _,r1.rep,e,λv H' s2 r2=>q v H' aw (o1.same s2) (KV.flat f r2)⟩⟩
def OT:cc:=λβ R=>R [] [] β
def KY (pr:Bool)(φ:aE)(φs:cc):cc:=λβ R=>φ β λd k β1=>hold k pr/\φs β1 λds ks β2=>R (d::ds) (k::ks) β2
theorem af:qF X C true [] OT:=⟨λβ R R' k h=>k _ _ _ h,dz.pre λσ H Q PM=>by obtain⟨β,own,s,q⟩:=PM;exact q [] H own (Out.refl s _) tH.nil⟩
theorem aa (ha:PQ X C p a φ)(hr:qF X C p' es φs)(hs:VE (a::es) X.env=(false,eval a X.env)::VE es X.env:=by rfl):qF X C (p&&p') (a::es) (KY p' φ φs) :=
 ⟨λβ R R' k h=>ha.mono β _ _ (λd kd β1 q=>⟨q.1,hr.mono β1 _ _ (λds ks β2 q2=>k _ _ _ q2) q.2⟩) h,(bj ha.pe hr.pa hs).pre λσ H Q ⟨β,own,s,h⟩ =>
  tQ.of ha s h λd1 k1 β1 v1 H1 aw PL o1 r1=>by obtain⟨hh,h1⟩:=PL;exact qJ.of hr o1.sq h1 λds ks β2 vs H2 aZ q o2 r2=>q (v1::vs) H2 aZ (o1.trans o2) (tH.cons r1 o2.sn (r1.ho o2 hh) r2 o1.sn)⟩
def OQ (φs:cc):aE:=λβ R=>φs β λds ks β1=>ds.length<=VH/\Bh ks ds λk=>R (.tup ds) k β1
def OU (φs:cc):aE:=λβ R=>φs β λds ks β1=>ds.length<=VH/\Bh ks ds λk=>R (.lst ds) k β1
theorem aF.same {P:Vz}{w:VG}{ds:List D}{vs:List V}{A:List Addr}(s:ay H H')(h:aF P w H ds vs A):aF P w H' ds vs A:=h.keep (λb xs e=>s _ _ e) λc _ o e=>s c o e
theorem Ij {P:Vz}{w:VG}{Z:Hp×(Addr->Prop)}{ks:List Kd}{ds:List D}{vs:List V}{K:Kd->Prop}{q:Addr}(hq:H q=none)(h:tH P w C Z own H ks ds vs)(m:Bh ks ds K):∃k,K k/\KV P w C Z own (upd H q (.tup vs)) k (.tup ds) (.ref q):=by
 rcases m.of with⟨f,k⟩|k
 ·obtain⟨A,h1,h2,h3⟩:=h;exact⟨_,k,A,⟨q,vs,rfl,ao,(h1.Ht f).same (ay.new hq)⟩,h2,h3⟩
 ·refine⟨_,k,?_⟩;rw[<- jG];exact KV.of (by rw[jG];exact⟨q,vs,rfl,ao,h.kn.same (ay.new hq)⟩)
theorem Ik {P:Vz}{w:VG}{Z:Hp×(Addr->Prop)}{ks:List Kd}{ds:List D}{vs:List V}{K:Kd->Prop}{q:Addr}(hq:H q=none)(hd:Dm (Wn own) H)(h0:∀a,C.H0 a≠none->H a≠none)(hz:∀a,Z.1 a≠none->H a≠none)(h:tH P w C Z own H ks ds vs)(m:Bh ks ds K):∃k,K k/\KV P w C Z own (upd H q (.lst vs)) k (.lst ds) (.ref q):=by
 rcases m.of with⟨f,k⟩|k
 ·obtain⟨A,h1,h2,h3⟩:=h;refine⟨_,k,q::A,⟨q,vs,A,rfl,ao,rfl,(h1.Ht f).same (ay.new hq)⟩,VZ.mpr ⟨λz=>h1.ny q z hq,h2⟩,λc hc=>?_⟩;rcases VB.mp hc with rfl|hc
  ·exact⟨VS λz=>hz c z hq,λz=>hd c z hq,VS λz=>h0 c z hq⟩
  ·exact h3 c hc
 ·refine⟨_,k,?_⟩;have nq:¬ av C (Wn own) (jh ks) q:=λz=>by
   cases e:jh ks <;> rw[e]at z <;> first|exact z.elim (λz=>hd q z hq) λz=>h0 q z hq|exact hd q z hq|exact z
  rw[<- jG];exact KV.of (by rw[jG];exact⟨q,vs,rfl,ao,nq,h.kn.same (ay.new hq)⟩)
theorem tH.length {P:Vz}{w:VG}{Z:Hp×(Addr->Prop)}{ks:List Kd}{ds:List D}{vs:List V}(h:tH P w C Z own H ks ds vs):vs.length=ds.length:=h.kn.length
theorem bH {x1}(h:qF X C p es φs):PQ X C p (.Tuple es x1 pos) (OQ φs) :=
 ⟨λβ R R' k q=>h.mono β _ _ (λds ks β1 PK=>by obtain⟨l,q⟩:=PK;exact⟨l,q.mono λ_ z=>k _ _ _ z⟩) q,(Ab h.pa).pre λσ H Q ⟨β,own,s,q⟩=>qJ.of h s q λds ks β1 vs H1 aw ⟨l,q1⟩ o1 r1 =>
  ⟨by rw[r1.length];exact l,λq hq=>let ⟨k,q1,r⟩:=Ij hq r1 q1;q1 _ _ aw (o1.same (ay.new hq)) r⟩⟩
theorem a8 (h:qF X C p es φs):PQ X C p (.List es pos) (OU φs) :=
 ⟨λβ R R' k q=>h.mono β _ _ (λds ks β1 PJ=>by obtain⟨l,q⟩:=PJ;exact⟨l,q.mono λ_ z=>k _ _ _ z⟩) q,(uo h.pa).pre λσ H Q ⟨β,own,s,q⟩=>qJ.of h s q λds ks β1 vs H1 aw ⟨l,q1⟩ o1 r1 =>
  ⟨by rw[r1.length];exact l,λq hq=>let ⟨k,q1,r⟩:=Ik hq o1.sq.qw o1.sq.eZ (λa z=>o1.sn.d a z) r1 q1;q1 _ _ aw (o1.same (ay.new hq)) r⟩⟩
end
section
variable {X:Cx}{C:Cfg}{a b c e:Expr}{es:List Expr}{φ φa φb:aE}{φs:cc}{pos:Pos}{σ:St}{H H':Hp}{β:aJ}{own:Nat->List Addr}{p:Bool}{g:D->D->Option D}{N:D->Prop}
abbrev pE:=D->Kd->aE
structure Nh (X:Cx)(C:Cfg)(ops:List Yd)(es:List Expr)(φ:pE):Prop where
 mono:∀x k β R R',(∀d k β,R d k β->R' d k β)->φ x k β R->φ x k β R'
 ch:Gn X ops es λx σ H Q=>∃β own d k,SQ X C σ H β own/\Rp X (av C (Wn own) k) H d x/\φ d k β λd' k' β'=>∀v H',ay H H'->SQ X C σ H' β' own->KV X.prog X.w C (H,Wn own) own H' k' d' v->Q v H'
 Se:tG X ops es λx σ H Q=>∃β own d k,SQ X C σ H β own/\Rp X (av C (Wn own) k) H d x/\φ d k β λd' k' β'=>∃b,d'=.bl b/\∀H',ay H H'->SQ X C σ H' β' own->Q b H'
def KZ (g:D->D->Option D)(φb:aE):pE:=λx _ β R=>φb β λy _ β1=>∃b,g x y=some (.bl b)/\R (.bl b) .own β1
def G7 (g:D->D->Option D)(φb:aE)(φr:pE):pE:=λx _ β R=>φb β λy ky β1=>∃k,g x y=some (.bl k)/\if k=true then φr y ky β1 R else R (.bl false) .own β1
variable {op HD:Yd}{ops:List Yd}{rs:List Expr}{φr:pE}
theorem fy (ho:cy X (Ww op) g)(hb:PQ X C true b φb):Nh X C [op] [b] (KZ g φb) :=
 ⟨λx k β R R' h q=>hb.mono β _ _ (λy _ β1 qo=>by obtain⟨d,e,q⟩:=qo;exact⟨d,e,h _ _ _ q⟩) q,
  (Jx ho hb.pe).pre λx σ H Q ⟨β,own,d,k,s,r,h⟩=>tQ.of hb s h λd2 k2 β2 v2 H2 aZ sA o2 r2=>by
    obtain⟨d',e,q⟩:=sA;obtain⟨s2,rfl⟩:=o2.pu rfl;exact⟨av C (Wn aZ) (k.max k2),d,d2,.bl d',o2.sq.B6 _,az.aO dJ (r.same s2),az.aO gz r2.rep,e,λv H' s3 r3=>q v H' (s2.trans s3) (o2.sq.same s3) (KV.flat rfl r3)⟩,
  (Ff ho hb.pe).pre λx σ H Q ⟨β,own,d,k,s,r,h⟩=>tQ.of hb s h λd2 k2 β2 v2 H2 aZ Br o2 r2=>by
    obtain⟨d',e,b,eb,q⟩:=Br;obtain⟨s2,rfl⟩:=o2.pu rfl;cases eb;exact⟨av C (Wn aZ) (k.max k2),d,d2,.bl d',o2.sq.B6 _,az.aO dJ (r.same s2),az.aO gz r2.rep,e,λv H' s3 r3=>by
      cases r3;exact⟨_,rfl,q H' (s2.trans s3) (o2.sq.same s3)⟩⟩⟩
theorem cq (ho:cy X (Ww op) g)(hb:PQ X C true b φb)(hc:Nh X C (HD::ops) (c::rs) φr):Nh X C (op::HD::ops) (b::c::rs) (G7 g φb φr) :=
 ⟨λx k β R R' h q=>hb.mono β _ _ (λy ky β1 ⟨d,e,q⟩=>⟨d,e,by
   cases d
   ·exact h _ _ _ q
   ·exact hc.mono y ky β1 _ _ h q⟩) q,
  (Fg ho hb.pe hc.ch).pre λx σ H Q ⟨β,own,d,k,s,r,h⟩=>tQ.of hb s h λd2 k2 β2 v2 H2 aZ Bq o2 r2=>by
    obtain⟨t,e,q⟩:=Bq;obtain⟨s2,rfl⟩:=o2.pu rfl;refine⟨av C (Wn aZ) (k.max k2),d,d2,.bl t,o2.sq.B6 _,az.aO dJ (r.same s2),az.aO gz r2.rep,e,λv H' s3 r3=>?_⟩;cases r3;refine⟨t,rfl,?_⟩;cases t
    · exact q _ H' (s2.trans s3) (o2.sq.same s3) Bd
    · exact⟨β2,aZ,d2,k2,o2.sq.same s3,r2.rep.same s3,hc.mono d2 k2 β2 _ _ (λd' k' β' q' v yD s4 sq r4=>q' v yD ((s2.trans s3).trans s4) sq (r4.later ((o2.same s3).sn))) q⟩,
  (Cg ho hb.pe hc.Se).pre λx σ H Q ⟨β,own,d,k,s,r,h⟩=>tQ.of hb s h λd2 k2 β2 v2 H2 aZ uK o2 r2=>by
    obtain⟨t,e,q⟩:=uK;obtain⟨s2,rfl⟩:=o2.pu rfl;refine⟨av C (Wn aZ) (k.max k2),d,d2,.bl t,o2.sq.B6 _,az.aO dJ (r.same s2),az.aO gz r2.rep,e,λv H' s3 r3=>?_⟩;cases r3;refine⟨t,rfl,?_⟩;cases t
    · obtain⟨b,eb,q⟩:=q;cases eb;exact q H' (s2.trans s3) (o2.sq.same s3)
    · exact⟨β2,aZ,d2,k2,o2.sq.same s3,r2.rep.same s3,hc.mono d2 k2 β2 _ _ (λd' k' β' Bx=>by obtain⟨b,eb,q'⟩:=Bx;exact⟨b,eb,λyD s4 sq=>q' yD ((s2.trans s3).trans s4) sq⟩) q⟩⟩
def uh (φa:aE)(φr:pE):aE:=λβ R=>φa β λx k β1=>φr x k β1 R
theorem rJ {eR eQ:Yd}(ha:PQ X C true a φa)(hc:Nh X C (eR::eQ::ops) (b::c::rs) φr)(hm:lastMarks (eR::eQ::ops) (b::c::rs)=false:=by with_unfolding_all rfl):
  PQ X C true (.Compare a (eR::eQ::ops) (b::c::rs) pos) (uh φa φr) :=
 ⟨λβ R R' k h=>ha.mono β _ _ (λx kx β1 q=>hc.mono x kx β1 _ _ k q) h,(xF ha.pe hc.ch hm).pre λσ H Q ⟨β,own,s,h⟩=>tQ.of ha s h λd k β1 v H1 aw q o1 r1=>by
  obtain⟨s1,rfl⟩:=o1.pu rfl;exact⟨β1,aw,d,k,o1.sq,r1.rep,hc.mono d k β1 _ _ (λd' k' β' q' v yD s4 sq r4=>q' v yD aw ⟨sq,o1.sn.same s4,λ_=>⟨s1.trans s4,rfl⟩,o1.le⟩ (r4.later o1.sn)) q⟩⟩
theorem eG {eR eQ:Yd}(ha:PQ X C true a φa)(hc:Nh X C (eR::eQ::ops) (b::c::rs) φr)(hm:lastMarks (eR::eQ::ops) (b::c::rs)=false:=by with_unfolding_all rfl):
  u_ X C true (.Compare a (eR::eQ::ops) (b::c::rs) pos) (zH (uh φa φr)) :=
 ⟨λβ R R' k h=>ha.mono β _ _ (λx kx β1 q=>hc.mono x kx β1 _ _ (λd kd β' IP=>by obtain⟨b,e,q⟩:=IP;exact⟨b,e,k _ _ q⟩) q) h,(xu ha.pe hc.Se hm).pre λσ H Q ⟨β,own,s,h⟩=>tQ.of ha s h λd k β1 v H1 aw q o1 r1=>by
  obtain⟨s1,rfl⟩:=o1.pu rfl;exact⟨β1,aw,d,k,o1.sq,r1.rep,hc.mono d k β1 _ _ (λd' k' β' uJ=>by obtain⟨b,e,q'⟩:=uJ;exact⟨b,e,λyD s4 sq=>q' yD aw ⟨sq,o1.sn.same s4,λ_=>⟨s1.trans s4,rfl⟩,o1.le⟩⟩) q⟩⟩
abbrev CD:=aJ->(Option Int->aJ->Prop)->Prop
structure N4 (X:Cx)(C:Cfg)(e:Option Expr)(φ:CD):Prop where
 mono:∀β R R',(∀d β,R d β->R' d β)->φ β R->φ β R'
 po:PO X e λσ H Q=>∃β own,SQ X C σ H β own/\φ β λo β'=>∀H',ay H H'->SQ X C σ H' β' own->Q o H'
theorem mB:N4 X C none (λβ R=>R none β):=⟨λβ R R' k h=>k _ _ h,vG.pre λσ H Q Bv=>by obtain⟨β,own,s,q⟩:=Bv;exact q H (ay.refl _) s⟩
theorem mz (ha:PQ X C true a φ):N4 X C (some a) (λβ R=>φ β λd _ β1=>∃i,d=.int i/\R (some i) β1) :=
 ⟨λβ R R' k h=>ha.mono β _ _ (λd _ β1 Bu=>by obtain⟨i,e,q⟩:=Bu;exact⟨i,e,k _ _ q⟩) h,(vF ha.pe).pre λσ H Q ⟨β,own,s,h⟩=>tQ.of ha s h λd k β1 v H1 aw IL o1 r1=>by
  obtain⟨i,e,q⟩:=IL;subst e;cases r1.rep;obtain⟨s1,rfl⟩:=o1.pu rfl;exact⟨i,rfl,q H1 s1 o1.sq⟩⟩
def S8 (φ:aE)(φl φh:CD):aE:=λβ R=>φ β λx k β1=>φl β1 λl β2=>φh β2 λh β3=>∃d,M0 x l h=some d/\kN NL d k.wk λk'=>R d k' β3
theorem zd {k:Kd}:k.wk.wk=k.wk:=by cases k <;> rfl
theorem wK {W:Addr->Prop}{k:Kd}:∀c,av C W k.wk c->av C W k c:=λc h=>by cases k <;> exact h
theorem zU {lo hi:Option Expr}{φl φh:CD}{p2:Pos}(ha:PQ X C p a φ)(hl:N4 X C lo φl)(hh:N4 X C hi φh):PQ X C p (.Subscript a (.Slice lo hi none p2) pos) (S8 φ φl φh) :=
 ⟨λβ R R' k h=>ha.mono β _ _ (λx kx β1 q=>hl.mono β1 _ _ (λl β2 q=>hh.mono β2 _ _ (λu β3 IK=>by obtain⟨d,e,q⟩:=IK;exact⟨d,e,q.mono λ_ z=>k _ _ _ z⟩) q) q) h,
  (rK C8 ha.pe hl.po hh.po).pre λσ H Q ⟨β,own,s,h⟩=>tQ.of ha s h λd k β1 v H1 aw q o1 r1 =>
    ⟨β1,aw,o1.sq,hl.mono β1 _ _ (λl β2 q H2 s2 OD=>⟨β2,aw,OD,hh.mono β2 _ _ (λu β3 IJ H3 s3 Nu=>by
      obtain⟨d',e,q⟩:=IJ;refine⟨av C (Wn aw) k.wk,d,d',Nu.B6 _,((az.aO wK r1.rep).same s2).same s3,e,λv H' s4 r4 n4=>?_⟩;obtain⟨k',q,r⟩:=KV.kN (Z:=(H,Wn own)) zd r4 (λn=>ij (H:=H3) Nu.qw Nu.eZ (λa z e=>o1.sn.d a z (s2.free (s3.free e))) n (n4 n)) q;exact q v H' aw ⟨Nu.same s4,o1.sn.same ((s2.trans s3).trans s4),λz=>⟨(o1.pu z).1.trans ((s2.trans s3).trans s4),(o1.pu z).2⟩,o1.le⟩ r) q⟩) q⟩⟩
def KJ (X:Cx)(f:List D->Option D)(N:D->Prop):List V->Hp->VK->Prop:=λxs H Q=>∃W ds d,Dm W H/\tD X W H ds xs/\f ds=some d/\∀v H',ay H H'->Rp X W H' d v->(N d->Rp X (λa=>H a≠none) H' d v)->Q v H'
abbrev CI (X:Cx)(f:Vv)(g:List D->Option D)(N:D->Prop):Prop:=eY X f (KJ X g N)
theorem bO.m {f:Vv}{g:List D->Option D}(h:bO X f g):CI X f g NF:=λpins s σ H xs us Q I r ⟨W,ds,d,hd,r1,e,q⟩ =>
 h pins s σ H xs us Q I r ⟨W,ds,d,hd,r1,e,λv H' s r=>q v H' s r λf=>az.flat f r⟩
def k7 (g:List D->Option D)(N:D->Prop)(φs:cc):aE:=λβ R=>φs β λds ks β1=>∃d,g ds=some d/\kN N d (jh ks) λk=>R d k β1
variable {x:Str}{pp:Pos}{id T:String}{gs:List D->Option D}
theorem k7.mono (h:qF X C p es φs):∀β R R',(∀d k β,R d k β->R' d k β)->k7 gs N φs β R->k7 gs N φs β R':=λβ R R' k q=>h.mono β _ _ (λds ks β1 P4=>by obtain⟨d,e,q⟩:=P4;exact⟨d,e,q.mono λ_ z=>k _ _ _ z⟩) q
theorem rC (hn:CW N)(h:qF X C p es φs):∀σ H Q,tQ X C p (k7 gs N φs) σ H Q->Oy (KJ X gs N) (qJ X C p φs) σ H Q:=λσ H Q ⟨β,own,s,q⟩=>qJ.of h s q λds ks β1 vs H1 aw P1 o1 r1=>by
 obtain⟨d,e,q1⟩:=P1;refine⟨av C (Wn aw) (jh ks),ds,d,o1.sq.B6 _,r1.kn,e,λv H' s2 r2 n2=>?_⟩;obtain⟨k',q,r⟩:=KV.kN (Z:=(H,Wn own)) jG r2 (λn=>ij (H:=H1) o1.sq.qw o1.sq.eZ (λa z=>o1.sn.d a z) (hn.nl _ n) (n2 n)) q1;exact q v H' aw (o1.same s2) r
theorem aX (IW:CW N)(hc:CI X (.builtin id) gs N)(hm:X.mg x=none)(hv:Wq x=some (.builtin id))(ha:qF X C p (e::es) φs)(hg:Gl X x:=by rfl)(hn:x≠"__name__" := by decide)(hdb:(x==("__debug__" : Str))=false:=by decide)
  (iE:VE (e::es) X.env=(false,eval e X.env)::VE es X.env:=by rfl) (hpl:(WR pos (VE es X.env)).any (·.1)=false:=by rfl) :
  PQ X C p (.Call (.Name x pp) (e::es) [] pos) (k7 gs N φs):=⟨k7.mono ha,(gV hc hg hm hv ha.pa hn hdb (he:=iE) (hpl:=hpl)).pre (rC IW ha)⟩
theorem ku (IW:CW N)(hc:CI X (.type T) gs N)(hm:X.mg x=none)(hv:Wq x=some (.type T))(ha:qF X C p (e::es) φs)(hg:Gl X x:=by rfl)(hn:x≠"__name__" := by decide)(hdb:(x==("__debug__" : Str))=false:=by decide)
  (iE:VE (e::es) X.env=(false,eval e X.env)::VE es X.env:=by rfl) (hpl:(WR pos (VE es X.env)).any (·.1)=false:=by rfl) :
  PQ X C p (.Call (.Name x pp) (e::es) [] pos) (k7 gs N φs):=⟨k7.mono ha,(oE hc hg hm hv ha.pa hn hdb (he:=iE) (hpl:=hpl)).pre (rC IW ha)⟩
end
def oq (P:Vz)(w:VG)(ro:Bool)(H H':Hp)(d:D)(v:V):Prop:=match ro with
 |true=>∃A,Own P w H' d v A/\A.Nodup/\∀c∈A,H c=none
 |false=>az P w (λa=>H a≠none) H' d v
abbrev rk (ro:Bool):Kd:=match ro with|true=>.own|false=>.d9
def cB (P:Vz)(w:VG)(ro:Bool)(F:FD):Sp:=λvs H Q _=>∃ds,ai P w (λ_=>False) H ds vs/\F ds λd=>∀v H',ay H H'->oq P w ro H H' d v->Q v H'
def kc (P:Vz)(w:VG)(ok:List Int->Prop)(ro:Bool)(F:FD):Sp:=λvs H Q _=>∃h vs' ds ns,vs=.ref h::vs'/\H h=some (.lst (ns.map V.int))/\ok ns/\ai P w (λa=>a=h) H ds vs' /\
 F ds λd=>∀v H' ly,Kp (·=h) H H'->(∀c,H c≠none->H' c≠none)->H' h=some (.lst (ly.map V.int))->ok ly->oq P w ro H H' d v->Q v H'
section
variable {X:Cx}{C:Cfg}{k ih:Nat}{f:Addr}{fd:VW}{ps:List Str}{F:FD}{ro p:Bool}{x hx:Str}{pp pos px:Pos}{e:Expr}{es:List Expr}{φs:cc}{ok:List Int->Prop}{σ:St}{H H':Hp}{β:aJ}{own:Nat->List Addr}{P:Vz}{w:VG}
theorem oq.kv {Z:Hp×(Addr->Prop)}{d:D}{v:V}(hd:Dm (Wn own) H)(h0:∀a,C.H0 a≠none->H a≠none)(hz:∀a,Z.1 a≠none->H a≠none)(h:oq P w ro H H' d v):KV P w C Z own H' (rk ro) d v:=by
 cases ro with
 |true =>
  obtain⟨A,h1,h2,h3⟩:=h;exact⟨A,h1,h2,λc hc=>⟨VS λz=>hz c z (h3 c hc),λz=>hd c z (h3 c hc),VS λz=>h0 c z (h3 c hc)⟩⟩
 |false=>exact az.aO (λa z=>z.elim (hd a) (h0 a)) h
def KQ (ro:Bool)(F:FD)(φs:cc):aE:=λβ R=>φs β λds _ β1=>F ds λd=>R d (rk ro) β1
theorem aG (mF:cm F)(G:aB X.prog X.w X.K X.mg X.base bE k f fd ps (cB X.prog X.w ro F))(hr:cS k X.A)(hm:X.mg x=some (.ref f))(hk:PySem.W.keepIn X.K (.ref f)=true)(hb:Binds X.K fd ps [])(ha:qF X C p (e::es) φs)(hg:Gl X x:=by rfl)
  (hdb:(x==("__debug__" : Str))=false:=by decide)
  (iE:VE (e::es) X.env=(false,eval e X.env)::VE es X.env:=by rfl) (hpl:(WR pos (VE es X.env)).any (·.1)=false:=by rfl) :
  PQ X C p (.Call (.Name x pp) (e::es) [] pos) (KQ ro F φs) :=
 ⟨λβ R R' k h=>ha.mono β _ _ (λds ks β1 q=>mF ds _ _ (λd q=>k _ _ _ q) q) h,(p_ G hr hg hm hk hb .nil Am ha.pa (hdb:=hdb) (he:=iE) (hpl:=hpl)).pre λσ H Q ⟨β,own,s,h⟩=>qJ.of ha s h λds ks β1 vs H1 aw q o1 r1=>by
  rw[WB];exact⟨ds,r1.bor,mF ds _ _ (λd q2 v H' s2 r2=>q2 v H' aw (o1.same s2) (r2.kv o1.sq.qw o1.sq.eZ λa z=>o1.sn.d a z)) q⟩⟩
theorem bz.drawn {i:Nat}{h:Addr}{ly:List Int}(b:bz P w C σ H β own)(e:β[i]?=some (some (.hand ok)))(hσ:σ[i]?=some (some (.ref h)))(k:Kp (·=h) H H')(e':H' h=some (.lst (ly.map V.int)))(o':ok ly)(dn:∀c,H c≠none->H' c≠none):bz P w C σ H' β own:=by
 obtain⟨a,ns,h1,h2,h3,h4,h5⟩:=b.jL i ok e;rw[hσ]at h1;cases h1;have wh:Wn own h:=⟨i,by rw[h4];simp⟩
 have kW:∀y,Kp (eD C (Wn own) (yk y)) H H':=λy=>k.mono λc z=>by rw[z];cases y <;> first|exact .inl wh|exact .inl (.inl wh)
 have ne:∀j,j≠i->∀c∈own j,c≠h:=λj hj c hc z=>hj (b.iI j i c hc (by rw[h4,z];simp))
 refine⟨b.len,λj y d e=>let ⟨v,g1,g2⟩:=b.val j y d e;⟨v,g1,g2.keep (kW y)⟩,λj d ej=>?_,λj yK ej=>?_,λj c hc=>?_,b.iI,b.jE,⟨λc o z n=>?_,λc xs z=>k.tup c xs (b.kp.tup c xs z)⟩,λc z=>dn c (b.eZ c z),λj y d ej=>by
  obtain⟨v,g1,g2,g3⟩:=b.shl j y d ej;have hj:j≠i:=λz=>by rw[z,e]at ej;cases ej
  exact⟨v,g1,g2.map (λc hc o eo=>k.out c o eo (ne j hj c hc)) (λ_ _ r=>r.keep (kW true)),g3⟩⟩
 ·obtain⟨v,g1,g2,g3⟩:=b.ow j d ej;have hj:j≠i:=λz=>by rw[z,e]at ej;cases ej
  exact⟨v,g1,g2.keep k.tup (λc hc o eo=>k.out c o eo (ne j hj c hc)),g3⟩
 ·by_cases hj:j=i
  ·subst hj;rw[e]at ej;cases ej;exact⟨h,ly,hσ,e',o',h4,h5⟩
  ·obtain⟨a,ms,g1,g2,g3,g4,g5⟩:=b.jL j yK ej;exact⟨a,ms,g1,k.out a _ g2 (ne j hj a (by rw[g4];simp)),g3,g4,g5⟩
 ·obtain⟨g1,g2,g3⟩:=b.dm j c hc
  by_cases v9:c=h
  ·rw[v9,e'];rw[v9]at g3;exact⟨λz=>(nomatch z),λxs z=>(by cases z),g3⟩
  ·cases q:H c with
   |none=>exact absurd q g1
   |some o=>rw[k.out c o q v9];exact⟨λz=>(nomatch z),λxs z=>g2 xs (by rw[q];exact z),g3⟩
 ·refine k.out c o (b.kp.out c o z n) λq=>?_;subst q;rcases (b.dm i c (by rw[h4];simp)).2.2.1 with z0|z0
  ·rw[z0]at z;cases z
  ·exact n z0
def KW (ih:Nat)(ok:List Int->Prop)(ro:Bool)(F:FD)(φs:cc):aE:=λβ R=>β[ih]?=some (some (.hand ok))/\φs β λds ks β1=>β1[ih]?=some (some (.hand ok))/\hold (jh ks) false/\F ds λd=>R d (rk ro) β1
theorem aW (mF:cm F)(G:aB X.prog X.w X.K X.mg X.base bE k f fd ps (kc X.prog X.w ok ro F))(hr:cS k X.A)(hm:X.mg x=some (.ref f))(hk:PySem.W.keepIn X.K (.ref f)=true)(hb:Binds X.K fd ps [])(ha:qF X C p es φs)(hn:Nm X ih hx:=by exact xN)(hg:Gl X x:=by rfl)(hdb:(x==("__debug__" : Str))=false:=by decide)
  (iE:VE (.Name hx px::es) X.env=(false,eval (.Name hx px) X.env)::VE es X.env:=by rfl) (hpl:(WR pos (VE es X.env)).any (·.1)=false:=by rfl) :
  PQ X C false (.Call (.Name x pp) (.Name hx px::es) [] pos) (KW ih ok ro F φs) :=
 ⟨λβ R R' k PZ=>by obtain⟨e,h⟩:=PZ;exact⟨e,ha.mono β _ _ (λds ks β1 II=>by obtain⟨e,hh,q⟩:=II;exact⟨e,hh,mF ds _ _ (λd q=>k _ _ _ q) q⟩) h⟩,
  (p_ G hr hg hm hk hb .nil Am (bj (fT (pos:=px) hn) ha.pa iE) (hdb:=hdb) (he:=iE) (hpl:=hpl)).pre λσ H Q IH=>by
  obtain⟨β,own,s,e,h⟩:=IH;obtain⟨hh,ns,h1,h2,h3,h4⟩:=s.jL ih ok e;refine⟨.ref hh,h1,qJ.of ha s h λds ks β1 vs H1 aw gn o1 r1=>?_⟩;obtain⟨e1,ho,q⟩:=gn;obtain⟨Vm,Td,g1,g2,g3,g4,g5⟩:=o1.sq.jL ih ok e1;rw[h1]at g1;cases g1;have wh:Wn aw hh:=⟨ih,by rw[g4];simp⟩
  rw[WB];refine⟨hh,vs,ds,Td,rfl,g2,g3,ai.aO (λa z=>?_) r1.kn,mF ds _ _ (λd q v H' ly kp dn e' yK r=>?_) q⟩
  ·subst z;cases hk:jh ks with
   |own=>exact .inl wh
   |d9=>exact .inl wh
   |old=>exact wh
   |bor=>rw[hk]at ho;exact ho.elim
  ·exact q v H' aw ⟨o1.sq.drawn e1 h1 kp e' yK dn,o1.sn.kp (kp.mono λb z=>by rw[z];exact wh) dn,λz=>(nomatch z),o1.le⟩ (r.kv o1.sq.qw o1.sq.eZ λa z=>o1.sn.d a z)⟩
end
abbrev Cfg.z (C:Cfg):Cfg:=C.u λ_=>False
def SB (X:Cx)(C:Cfg)(Z:Hp×(Addr->Prop))(σ:St)(H:Hp)(β:aJ):Prop:=∃own,SQ X C.z σ H β own/\Sn Z H (Wn own)
structure cz where
 nx:aJ->Prop
 rt:D->aJ->Prop
 bk:aJ->Prop:=λ_=>False
 ct:aJ->Prop:=λ_=>False
def cz.up (E:cz)(n:aJ->Prop):cz:=⟨n,E.rt,E.bk,E.ct⟩
def cz.lp (E:cz)(n:aJ->Prop):cz:=⟨n,E.rt,E.nx,n⟩
structure Sj (X:Cx)(C:Cfg)(Z:Hp×(Addr->Prop))(E:cz)(D:Ends):Prop where
 nx:∀σ H β,SB X C Z σ H β->E.nx β->D.nx σ H
 rt:∀σ H β d v,SB X C Z σ H β->oq X.prog X.w C.ro C.H0 H d v->E.rt d β->D.rt v H
 bk:∀σ H β,SB X C Z σ H β->E.bk β->D.bk σ H
 ct:∀σ H β,SB X C Z σ H β->E.ct β->D.ct σ H
structure Le (E E':cz):Prop where
 nx:∀β,E.nx β->E'.nx β
 rt:∀d β,E.rt d β->E'.rt d β
 bk:∀β,E.bk β->E'.bk β
 ct:∀β,E.ct β->E'.ct β
abbrev wM:=cz->aJ->Prop
def ap (ψ:wM)(E:cz)(β:aJ):Prop:=ψ E β
def eN (R:D->Prop):cz:={nx:=λ_=>R .cU,rt:=λd _=>R d}
def eH (ok:List Int->Prop)(R:D->Prop):cz:={nx:=λ_=>False,rt:=λd β=>β[0]?=some (some (.hand ok))/\R d}
def Rq (X:Cx)(C:Cfg)(ψ:wM):TS:=λD σ H=>∃Z E β,SB X C Z σ H β/\ψ E β/\Sj X C Z E D
structure PB (X:Cx)(C:Cfg)(st:Stmt)(ψ:wM):Prop where
 mono:∀E E' β,Le E E'->ψ E β->ψ E' β
 ps:PS X st (Rq X C ψ)
structure qG (X:Cx)(C:Cfg)(st:List Stmt)(ψ:wM):Prop where
 mono:∀E E' β,Le E E'->ψ E β->ψ E' β
 ps:qE X st (Rq X C ψ)
section
variable {X:Cx}{C:Cfg}{st:Stmt}{rest a b:List Stmt}{ψ ψ1 ψ2:wM}{Z:Hp×(Addr->Prop)}{σ:St}{H H':Hp}{β β':aJ}{pos pos':Pos}{e c:Expr}{φ:aE}{τ:aP}{p:Bool}{own aL:Nat->List Addr}{i:Nat}{x:Str}
theorem Out.sb (n:Sn Z H (Wn own))(o:Out X C.z σ H own p β' H' aL):SB X C Z σ H' β':=⟨aL,o.sq,n.trans o.sn⟩
theorem bw:qG X C [] (λE β=>E.nx β):=⟨λE E' β l h=>l.nx β h,vB.pre λD σ H qo=>by obtain⟨Z,E,β,sb,h,ok⟩:=qo;exact ok.nx σ H β sb h⟩
theorem ak (h1:PB X C st ψ1)(h2:qG X C rest ψ2):qG X C (st::rest) (λE β=>ψ1 (E.up (ap ψ2 E)) β) :=
 ⟨λE E' β l h=>h1.mono {E with nx:=ψ2 E} {E' with nx:=ψ2 E'} β ⟨λβ' q=>h2.mono E E' β' l q,l.rt,l.bk,l.ct⟩ h,(cL h1.ps h2.ps).pre λD σ H ⟨Z,E,β,sb,h,ok⟩ =>
  ⟨Z,{E with nx:=ψ2 E},β,sb,h,⟨λσ' H' β' ue h'=>⟨Z,E,β',ue,h',ok⟩,ok.rt,ok.bk,ok.ct⟩⟩⟩
theorem au (h1:PB X C st ψ):qG X C [st] ψ:=⟨h1.mono,ia h1.ps⟩
theorem ib (h1:PB X C st ψ1)(h2:qG X C rest ψ2):qG X C (st::rest) (λE β=>∃J:aJ->Prop,ψ1 (E.up J) β/\∀β',J β'->ap ψ2 E β') :=
 ⟨λE E' β l sA=>by obtain⟨J,h,k⟩:=sA;exact⟨J,h1.mono {E with nx:=J} {E' with nx:=J} β ⟨λ_ q=>q,l.rt,l.bk,l.ct⟩ h,λβ' q=>h2.mono E E' β' l (k β' q)⟩,(cL h1.ps h2.ps).pre λD σ H ⟨Z,E,β,sb,⟨J,h,k⟩,ok⟩ =>
  ⟨Z,{E with nx:=J},β,sb,h,⟨λσ' H' β' ue h'=>⟨Z,E,β',ue,k β' h',ok⟩,ok.rt,ok.bk,ok.ct⟩⟩⟩
theorem dy:qG X C a (λ_ _=>False):=⟨λ_ _ _ _ h=>h.elim,xv.pre λD σ H Bq=>by obtain⟨Z,E,β,sb,h,ok⟩:=Bq;exact h.elim⟩
theorem dw (hc:u_ X C.z p c τ)(ha:qG X C a ψ1)(hb:qG X C b ψ2):PB X C (.If c a b pos) (λE β=>τ β λt β'=>if t=true then ap ψ1 E β' else ap ψ2 E β') :=
 ⟨λE E' β l h=>hc.mono _ _ _ (λt β' q=>by
   cases t
   ·exact hb.mono E E' β' l q
   ·exact ha.mono E E' β' l q) h,(FK hc.pt ha.ps hb.ps).pre λD σ H EF=>by
  obtain⟨Z,E,β,⟨own,s,n⟩,h,ok⟩:=EF;refine iN.of hc s h λt β' H1 aw q o1=>?_;cases t
  ·exact⟨Z,E,β',o1.sb n,q,ok⟩
  ·exact⟨Z,E,β',o1.sb n,q,ok⟩⟩
abbrev FZ (d:D)(k:Kd)(K:B->Prop):Prop:=match k with
 |.own=>K (.val true d)
 |.d9=>K (.val true d)
 |.old=>K (.val false d)
 |.bor=>d.flat=true/\K (.val true d)
theorem FZ.mono {d:D}{k:Kd}{K K':B->Prop}(h:∀b,K b->K' b)(q:FZ d k K):FZ d k K':=by
 cases k <;> first|exact h _ q|exact⟨q.1,h _ q.2⟩
theorem FZ.of {P:Vz}{w:VG}{d:D}{v:V}{k:Kd}{K:B->Prop}(r:KV P w C Z own H k d v)(q:FZ d k K):∃y,K (.val y d)/\az P w (av C (Wn own) (yk y)) H d v:=by
 cases k with
 |own=>exact⟨true,q,r.d9⟩
 |d9=>exact⟨true,q,r⟩
 |old=>exact⟨false,q,r⟩
 |bor=>exact⟨true,q.2,az.flat q.1 r⟩
theorem kg {own:Nat->List Addr}{i:Nat}(n:Sn Z H (Wn own)):Sn Z H (Wn (aI own i [])):=⟨λb z=>n.w b (gN z),n.k,n.d⟩
theorem bg (he:PQ X C.z p e φ)(hN:X.N.Nodup)(hi:X.N[i]?=some x:=by rfl)(hx:Loc X.env.scope x:=by first|exact .inl rfl|exact .inr rfl)
  (hs:WU e (some (.Name x pos')) pos.line X.env=pure false:=by rfl) (hf:X.fn x=true\/X.env.scope.names.lookup x=some .local:=by first|exact .inl rfl|exact .inr rfl|assumption) :
  PB X C (.Assign [.Name x pos'] e pos) (λE β=>φ β λd k β'=>FZ d k λb=>E.nx (β'.set i (some b))) :=
 ⟨λE E' β l q=>he.mono _ _ _ (λd k β' q=>q.mono λ_=>l.nx _) q,(i9 hN hi hx he.pe hs hf).pre λD σ H ⟨Z,E,β,⟨own,s,n⟩,q,ok⟩=>tQ.of he s q λd k β' v H' aL q o r=>by
  obtain⟨y,q,r⟩:=q.of r;exact ok.nx _ _ _ ⟨_,o.sq.fE (az.aO (λa z=>z.elim id λz=>z.elim) r),kg (n.trans o.sn)⟩ q⟩
abbrev Es (k:Kd)(d:D):Prop:=match k with
 |.own=>True
 |_=>d.flat=true
theorem KV.fl {P:Vz}{w:VG}{d:D}{v:V}{k:Kd}(f:Es k d)(r:KV P w C Z own H k d v):KV P w C Z own H .own d v:=by
 cases k with
 |own=>exact r
 |d9=>exact KV.flat f r.rep
 |old=>exact KV.flat f r.rep
 |bor=>exact KV.flat f r.rep
theorem dH (he:∀U,PQ X (C.u U) p e φ)(hN:X.N.Nodup)(hi:X.N[i]?=some x:=by rfl)(hx:Loc X.env.scope x:=by first|exact .inl rfl|exact .inr rfl)
  (hs:WU e (some (.Name x pos')) pos.line X.env=pure false:=by rfl) (hf:X.fn x=true\/X.env.scope.names.lookup x=some .local:=by first|exact .inl rfl|exact .inr rfl|assumption) :
  PB X C (.Assign [.Name x pos'] e pos) (λE β=>φ β λd k β'=>Es k d/\E.nx (β'.set i (some (.own d)))) :=
 ⟨λE E' β l q=>(he λ_=>False).mono _ _ _ (λd k β' q=>⟨q.1,l.nx _ q.2⟩) q,λpins s σ H D I ⟨Z,E,β,⟨own,sq,n⟩,q,ok⟩ =>
  i9 hN hi hx (he λa=>H a=none).pe hs hf pins s σ H D I (tQ.of (he λa=>H a=none) (sq.kZ (C:=C.z) (U:=λa=>H a=none) λa z=>z) q λd k β' v H' aL IQ o r=>by
   obtain⟨f,q⟩:=IQ;obtain⟨A,h1,h2,h3⟩:=r.fl f;refine ok.nx _ _ _ ⟨_,o.sq.pS h1 h2 λc hc=>⟨(h3 c hc).2.2,(h3 c hc).2.1,(h3 c hc).1⟩,?_⟩ q;have m:=n.trans o.sn;exact⟨λb IP=>by
    obtain⟨j,hj⟩:=IP
    by_cases aD:i=j
    ·rw[<- aD,os_eq]at hj;exact .inr (n.free (h3 b hj).1)
    ·rw[a_ aD]at hj;exact m.w b ⟨j,hj⟩,m.k,m.d⟩)⟩
theorem bz.G9 {P:Vz}{w:VG}{U U2:Addr->Prop}{d d':D}{v:V}{A':List Addr}{c:Addr}{o:HO}(b:bz P w (C.u U) σ H β own)(e:β[i]?=some (some (.own d)))(hσ:σ[i]?=some (some v))(hc:c∈own i)
  (r:Own P w (upd H c o) d' v A') (nd:A'.Nodup) (hA:∀a∈A',a∈own i\/(C.H0 a=none/\¬ Wn own a/\U a)) (hU:∀a,U2 a->U a) (Qx:∀a∈A',¬ U2 a):bz P w (C.u U2) σ (upd H c o) (β.set i (some (.own d'))) (aI own i A'):=by
 obtain⟨g1,g2,g3,g4⟩:=b.dm i c hc;obtain⟨oc,EJ⟩:∃oc,H c=some oc:=by
  cases q:H c with
  |none=>exact absurd q g1
  |some oc=>exact⟨oc,rfl⟩
 have ht:∀xs,oc≠.tup xs:=λxs z=>g2 xs (by rw[EJ,z])
 have k:Kp (·=c) H (upd H c o):=jg EJ ht;have h0:∀a∈own i,C.H0 a=none:=by obtain⟨_,_,_,h⟩:=b.ow i d e;exact h
 have wc:Wn own c:=⟨i,hc⟩;have sub:∀y a,eD (C.u U2) (Wn (aI own i A')) (yk y) a->eD (C.u U) (Wn own) (yk y) a:=λy a h=>by
  have q:∀a,Wn (aI own i A') a->Wn own a\/U a:=λa Bw=>by
   obtain⟨j,q⟩:=Bw
   by_cases aD:i=j
   ·rw[aD,os_eq]at q;rcases hA a q with z|z
    ·exact .inl ⟨i,z⟩
    ·exact .inr z.2.2
   ·rw[a_ aD]at q;exact .inl ⟨j,q⟩
  rcases h with h|h
  ·cases y with
   |true=>exact h.elim (λz=>(q a z).imp .inl id) λz=>.inl (.inr z)
   |false=>exact q a h
  ·exact .inr (hU a h)
 have mem:∀{j c},c∈aI own i A' j->(i=j/\c∈A')\/(i≠j/\c∈own j):=λ{j c} h=>by
  by_cases aD:i=j
  ·subst aD;rw[os_eq]at h;exact .inl ⟨rfl,h⟩
  ·rw[a_ aD]at h;exact .inr ⟨aD,h⟩
 have NG:∀j,i≠j->∀a∈own j,a≠c:=λj aD a ha z=>aD (b.iI i j c hc (by rw[<- z];exact ha))
 refine⟨by simp[b.len],λj y' d2 e2=>?_,λj d2 e2=>?_,λj ok e2=>?_,λj a h=>?_,λj k2 a h1 h2=>?_,λj=>?_,⟨λa oa z n=>?_,λa xs z=>k.tup a xs (b.kp.tup a xs z)⟩,λa z=>?_,λj y' d2 e2=>by
  by_cases aD:i=j
  ·subst aD;obtain⟨e',hl⟩:=aR e2;cases e'
  ·rw[aN aD]at e2;rw[a_ aD];obtain⟨u,h1,h2,h3⟩:=b.shl j y' d2 e2;exact⟨u,h1,h2.map (λa ha oa ea=>k.out a oa ea (NG j aD a ha)) (λ_ _ r=>ai.aO (sub _) (r.keep (k.mono λa z=>by rw[z];cases y' <;> first|exact .inl wc|exact .inl (.inl wc)))),h3⟩⟩
 ·by_cases aD:i=j
  ·subst aD;obtain⟨e',hl⟩:=aR e2;cases e'
  ·rw[aN aD]at e2;obtain⟨u,h1,h2⟩:=b.val j y' d2 e2;exact⟨u,h1,(h2.keep (k.mono λa z=>by rw[z];cases y' <;> first|exact .inl wc|exact .inl (.inl wc))).aO (sub _)⟩
 ·by_cases aD:i=j
  ·subst aD;obtain⟨e',hl⟩:=aR e2;cases e';rw[os_eq];exact⟨v,hσ,r,λa ha=>(hA a ha).elim (h0 a) λz=>z.1⟩
  ·rw[aN aD]at e2;rw[a_ aD];obtain⟨u,h1,h2,h3⟩:=b.ow j d2 e2;exact⟨u,h1,h2.keep k.tup (λa ha oa ea=>k.out a oa ea (NG j aD a ha)),h3⟩
 ·by_cases aD:i=j
  ·subst aD;obtain⟨e',hl⟩:=aR e2;cases e'
  ·rw[aN aD]at e2;rw[a_ aD];obtain⟨a,ns,h1,h2,h3,h4,h5⟩:=b.jL j ok e2;exact⟨a,ns,h1,k.out a _ h2 (NG j aD a (by rw[h4];simp)),h3,h4,h5⟩
 ·rcases mem h with⟨_,h⟩|⟨aD,h⟩
  ·exact⟨(r.ny a h).1,(r.ny a h).2,.inl ((hA a h).elim (h0 a) λz=>z.1),Qx a h⟩
  ·obtain⟨q1,q2,q3,q4⟩:=b.dm j a h;rw[ar (NG j aD a h)];exact⟨q1,q2,q3,λz=>q4 (hU a z)⟩
 ·rcases mem h1 with⟨e1,h1⟩|⟨n1,h1⟩
  ·rcases mem h2 with⟨e2,h2⟩|⟨n2,h2⟩
   ·rw[<- e1,<- e2]
   ·rcases hA a h1 with z|z
    ·exact absurd (b.iI i k2 a z h2) n2
    ·exact absurd ⟨k2,h2⟩ z.2.1
  ·rcases mem h2 with⟨e2,h2⟩|⟨n2,h2⟩
   ·rcases hA a h2 with z|z
    ·exact absurd (b.iI i j a z h1) n1
    ·exact absurd ⟨j,h1⟩ z.2.1
   ·exact b.iI j k2 a h1 h2
 ·by_cases aD:i=j
  ·rw[<- aD,os_eq];exact nd
  ·rw[a_ aD];exact b.jE j
 ·refine k.out a oa (b.kp.out a oa z n) λq=>?_;subst q;rw[h0 a hc]at z;cases z
 ·by_cases R7:a=c
  ·rw[R7,ao];exact λz=>(nomatch z)
  ·rw[ar R7];exact b.eZ a z
theorem bz.putIn {P:Vz}{w:VG}{U:Addr->Prop}{d d':D}{v:V}{A':List Addr}{c:Addr}{o:HO}(b:bz P w (C.u U) σ H β own)(e:β[i]?=some (some (.own d)))(hσ:σ[i]?=some (some v))(hc:c∈own i)
  (r:Own P w (upd H c o) d' v A') (nd:A'.Nodup) (hA:∀a∈A',a∈own i\/(C.H0 a=none/\¬ Wn own a/\U a)):bz P w C.z σ (upd H c o) (β.set i (some (.own d'))) (aI own i A') :=
 b.G9 (U2:=λ_=>False) e hσ hc r nd hA (λ_ z=>z.elim) λ_ _ z=>z
theorem kf {A':List Addr}{c:Addr}{o:HO}{U:Addr->Prop}(n:Sn Z H (Wn own))(m:∀a,U a->Z.1 a=none)(hc:Wn own c)(EJ:∃oc,H c=some oc/\∀xs,oc≠.tup xs)(hA:∀a∈A',a∈own i\/(C.H0 a=none/\¬ Wn own a/\U a)):Sn Z (upd H c o) (Wn (aI own i A')):=by
 obtain⟨oc,h1,h2⟩:=EJ;have u:=Sn.upd (o':=o) n h1 h2 hc;exact⟨λb uJ=>by
  obtain⟨j,hj⟩:=uJ
  by_cases aD:i=j
  ·rw[<- aD,os_eq]at hj;rcases hA b hj with z|z
   ·exact n.w b ⟨i,z⟩
   ·exact .inr (m b z.2.2)
  ·rw[a_ aD]at hj;exact n.w b ⟨j,hj⟩,u.k,u.d⟩
theorem bz.mP {P:Vz}{w:VG}{ds:List D}(b:bz P w C σ H β own)(e:β[i]?=some (some (.own (.lst ds)))):∃a vs A',σ[i]?=some (some (.ref a))/\H a=some (.lst vs)/\own i=a::A'/\aF P w H ds vs A':=by
 obtain⟨v,h1,⟨a,vs,A',rfl,h2,h3,h4⟩,_⟩:=b.ow i _ e;exact⟨a,vs,A',h1,h2,h3,h4⟩
variable {px ap cp:Pos}
theorem ic (he:∀U,PQ X (C.u U) p e φ)(hn:Nm X i x:=by exact xN)
  (eT:Xz (.Name x px) "append" X.env (eval (.Name x px) X.env)=eval (.Name x px) X.env:=by rfl)
  (qq:((WR cp (VE [e] X.env)).all (λx=>!x.1)&&(Z3 cp (YX [] X.env)).all (λx=>x.1.isSome)&&decide ([e].length+([]:List Yy).length+(if ([]:List Yy).isEmpty then 0 else 1)<30))=true:=by rfl)
  (eS:(ap.endLine==cp.line)=true:=by rfl) (hs:VE [e] X.env=(false,eval e X.env)::VE [] X.env:=by rfl) (gq:(WR cp (VE [] X.env)).any (·.1)=false:=by rfl)
  (oR:WU (.Call (.Attribute (.Name x px) "append" ap) [e] [] cp) none pos.line X.env=pure false:=by rfl) :
  PB X C (.Expr (.Call (.Attribute (.Name x px) "append" ap) [e] [] cp) pos) (λE β=>(∃ds,β[i]?=some (some (.own (.lst ds))))/\φ β λd k β'=>Es k d/\∃ds,β'[i]?=some (some (.own (.lst ds)))/\ds.length<VH/\E.nx (β'.set i (some (.own (.lst (ds++[d])))))):=by
 refine⟨λE E' β l Bv=>by obtain⟨h1,q⟩:=Bv;exact⟨h1,(he λ_=>False).mono _ _ _ (λd k β' Bu=>by obtain⟨f,ds,h1,h2,q⟩:=Bu;exact⟨f,ds,h1,h2,l.nx _ q⟩) q⟩,λpins s σ H D I gn=>?_⟩
 obtain⟨Z,E,β,⟨own,sq,n⟩,⟨⟨Sd,hb⟩,q⟩,ok⟩:=gn;refine jx (pos:=pos) (vK (apos:=ap) (cpos:=cp) PySem.F.plainAttrs_list PySem.F.slot_list_append PySem.F.type_list_append kJ (fT (pos:=px) hn) (bj (he λa=>H a=none).pe dz hs) eT qq eS hs gq) oR pins s σ H D I ?_;obtain⟨a,vs,A',h1,h2,h3,h4⟩:=sq.mP hb;refine⟨.ref a,h1,.inl ⟨rfl,vs,eE.of h2⟩,tQ.of (he λa=>H a=none) (sq.kZ (C:=C.z) (U:=λa=>H a=none) λa z=>z) q λd k β' v H1 aw jJ o r=>?_⟩;obtain⟨f,ds,tP,hl,q⟩:=jJ;obtain⟨a',vs',A1,g1,g2,g3,g4⟩:=o.sq.mP tP;rw[h1]at g1;cases g1;obtain⟨A,r1,r2,r3⟩:=r.fl f;have ha:a∈aw i:=by rw[g3];simp
 have nd:(a::(A1++A)).Nodup:=by
  have q:=o.sq.jE i;rw[g3]at q;refine VZ.mpr ⟨λz=>?_,Wk.mpr ⟨(VZ.mp q).2,r2,λx hx y hy e=>?_⟩⟩
  ·rcases VL.mp z with z|z
   ·exact(VZ.mp q).1 z
   ·exact(r3 a z).2.1 ⟨i,ha⟩
  ·subst e;exact(r3 x hy).2.1 ⟨i,by rw[g3];simp[hx]⟩
 have hA:∀b∈a::(A1++A),b∈aw i\/(C.H0 b=none/\¬ Wn aw b/\H b=none):=λb hb=>by
  rcases VB.mp hb with rfl|hb
  ·exact .inl ha
  ·rcases VL.mp hb with hb|hb
   ·exact .inl (by rw[g3];simp[hb])
   ·exact .inr ⟨(r3 b hb).2.2,(r3 b hb).2.1,(r3 b hb).1⟩
 have kt:∀b xs,H1 b=some (.tup xs)->upd H1 a (.lst (vs'++[v])) b=some (.tup xs):=λb xs z=>by
  rw[ar (λz'=>by rw[z',g2]at z;cases z)];exact z
 have ne1:∀c∈A1,c≠a:=λc hc z=>by
  have q:=o.sq.jE i;rw[g3]at q;exact(VZ.mp q).1 (by rw[<- z];exact hc)
 have ne2:∀c∈A,c≠a:=λc hc z=>(r3 c hc).2.1 ⟨i,by rw[z];exact ha⟩
 have r':Own X.prog X.w (upd H1 a (.lst (vs'++[v]))) (.lst (ds++[d])) (.ref a) (a::(A1++A)) :=
  ⟨a,vs'++[v],A1++A,rfl,ao,rfl,(g4.keep kt λc hc oc ec=>by rw[ar (ne1 c hc)];exact ec).append (aF.one (r1.keep kt λc hc oc ec=>by rw[ar (ne2 c hc)];exact ec))⟩
 exact⟨a,vs',v,rfl,rfl,g2,by rw[g4.length];exact hl,ok.nx _ _ _ ⟨_,o.sq.putIn tP h1 ha r' nd hA,kf (n.trans o.sn) (λb z=>n.free z) ⟨i,ha⟩ ⟨_,g2,λxs z=>by cases z⟩ hA⟩ q⟩
end
abbrev cF:=D->Kd->aJ->(aJ->Prop)->Prop
abbrev pG:=List D->Kd->aJ->(aJ->Prop)->Prop
structure qH (X:Cx)(C:Cfg)(tg:Expr)(T:List Nat)(γ:cF):Prop where
 mono:∀d k β R R',(∀r,R r->R' r)->γ d k β R->γ d k β R'
 pg:PG X tg λv σ H Q=>∃own β d k,SQ X C σ H β own/\Rp X (eD C (Wn own) k) H d v/\γ d k β λβ'=>∀σ' aL,SQ X C σ' H β' aL->(∀a,Wn aL a->Wn own a)->(∀j,j∉T->σ'[j]?=σ[j]?)->Q σ' H
structure Fv (X:Cx)(C:Cfg)(w9:List Expr)(T:List Nat)(γ:pG):Prop where
 mono:∀d k β R R',(∀r,R r->R' r)->γ d k β R->γ d k β R'
 RB:Gm X w9 λvs σ H Q=>∃own β ds k,SQ X C σ H β own/\tD X (eD C (Wn own) k) H ds vs/\γ ds k β λβ'=>∀σ' aL,SQ X C σ' H β' aL->(∀a,Wn aL a->Wn own a)->(∀j,j∉T->σ'[j]?=σ[j]?)->Q σ' H
section
variable {X:Cx}{C:Cfg}{tg:Expr}{w9:List Expr}{γ:cF}{γs:pG}{T T':List Nat}{pos:Pos}{e:Expr}{φ:aE}{p:Bool}
def Uo (i:Nat):cF:=λd k β R=>FZ d k λb=>R (β.set i (some b))
theorem aA {i:Nat}{x:Str}(hN:X.N.Nodup)(hi:X.N[i]?=some x:=by rfl)(hx:Loc X.env.scope x:=by first|exact .inl rfl|exact .inr rfl)
  (hf:X.fn x=true\/X.env.scope.names.lookup x=some .local:=by first|exact .inl rfl|exact .inr rfl|assumption):qH X C (.Name x pos) [i] (Uo i) :=
 ⟨λd k β R R' h q=>FZ.mono (d:=d) (k:=k) (K:=λb=>R (β.set i (some b))) (K':=λb=>R' (β.set i (some b))) (λ_=>h _) q,(Dz hN hi hx hf).pre λv σ H Q qo=>by
  obtain⟨own,β,d,k,s,r,q⟩:=qo;have Nv:∀(v:V) (j:Nat),j∉[i]->(σ.set i (some v))[j]?=σ[j]?:=λv j hj=>aN (Xg (by simpa using hj))
  cases k with
  |own=>exact q _ _ (s.fE (y:=true) r) (λa h=>gN h) (Nv v)
  |d9=>exact q _ _ (s.fE (y:=true) r) (λa h=>gN h) (Nv v)
  |old=>exact q _ _ (s.fE (y:=false) r) (λa h=>gN h) (Nv v)
  |bor=>exact q.2 _ _ (s.fE (y:=true) (az.flat q.1 r)) (λa h=>gN h) (Nv v)⟩
abbrev sk (k:Kd):D->Kd
 |.int _=>.own
 |.bl _=>.own
 |.cU=>.own
 |.str _=>.own
 |_=>k.wk
theorem mj {P:Vz}{w:VG}{W:Addr->Prop}{H:Hp}{k:Kd}{d:D}{v:V}(r:az P w (eD C W k) H d v):az P w (eD C W (sk k d)) H d v:=by
 cases d with
 |int i=>exact az.flat rfl r
 |bl i=>exact az.flat rfl r
 |cU=>exact az.flat rfl r
 |str i=>exact az.flat rfl r
 |_=>exact az.aO (λa z=>z.imp (wK a) id) r
def Jd:pG:=λds _ β R=>ds=[]/\R β
def BG (γ:cF)(γs:pG):pG:=λds k β R=>∃d r,ds=d::r/\γ d (sk k d) β λβ'=>γs r k β' R
theorem c_:Fv X C [] [] Jd:=⟨λd k β R R' h q=>⟨q.1,h _ q.2⟩,Dy.pre λvs σ H Q nX=>by
 obtain⟨own,β,ds,k,s,r,e,q⟩:=nX;subst e;exact⟨r,q σ own s (λ_ z=>z) λ_ _=>rfl⟩⟩
theorem aQ (h1:qH X C tg T γ)(h2:Fv X C w9 T' γs)(hs:(Xq (tg::w9) X.env).map (·.2)=assign tg X.env::(Xq w9 X.env).map (·.2):=by rfl):Fv X C (tg::w9) (T++T') (BG γ γs) :=
 ⟨λds k β R R' h sA=>by obtain⟨d,r,e,q⟩:=sA;exact⟨d,r,e,h1.mono _ _ β _ _ (λβ' q=>h2.mono r k β' _ _ h q) q⟩,
  (z7 h1.pg h2.RB hs).pre λvs σ H Q Bt=>by
    obtain⟨own,β,ds,k,s,rr,d,r,e,q⟩:=Bt;subst e;obtain⟨v,vr,rfl,rv,SY⟩:=rr;exact⟨v,vr,rfl,own,β,d,_,s,mj rv,h1.mono _ _ β _ _ (λβ' q σ' aL s' w' t'=>⟨aL,β',r,k,s',ai.aO (eX w' k) SY,h2.mono r k β' _ _ (λβ2 q2 σ2 aZ s2 w2 t2=>q2 σ2 aZ s2 (λa z=>w' a (w2 a z)) λj hj=>(t2 j λz=>hj (VY _ z)).trans (t' j λz=>hj (V3 _ z))) q⟩) q⟩⟩
def Um (n:Nat)(γs:pG):cF:=λd k β R=>∃ds,d=.tup ds/\ds.length=n/\γs ds k β R
theorem ez {k:Nat}{n:Nat}(hc:X.calm=true)(h:Fv X C w9 T γs)(hn:(Xq w9 X.env).length=n:=by rfl)(nW:(Xq w9 X.env).findIdx? (·.1)=none:=by rfl):qH X C (.Tuple w9 k pos) T (Um n γs) :=
 ⟨λd k β R R' hh Br=>by obtain⟨ds,e,l,q⟩:=Br;exact⟨ds,e,l,h.mono ds k β _ _ hh q⟩,(Hi hc h.RB hn nW).pre λv σ H Q EG=>by
  obtain⟨own,β,d,k,s,r,ds,e,l,q⟩:=EG;subst e;obtain⟨a,vs,rfl,ha,rs⟩:=r;exact⟨a,vs,rfl,lr.of ha,by rw[rs.length];exact l,own,β,ds,k,s,rs,q⟩⟩
theorem hG {Z:Hp×(Addr->Prop)}{H:Hp}{own aL:Nat->List Addr}(n:Sn Z H (Wn own))(h:∀a,Wn aL a->Wn own a):Sn Z H (Wn aL):=⟨λb z=>n.w b (h b z),n.k,n.d⟩
theorem kz (he:PQ X C.z p e φ)(hg:qH X C.z tg T γ)(hs:swapsWithSole [tg] e pos.line X.env=pure false:=by rfl)(hw:swappedStores [tg] e X.env=pure none:=by rfl)
  (h1:(Xq [tg] X.env).map (·.2)=[assign tg X.env]:=by rfl):PB X C (.Assign [tg] e pos) (λE β=>φ β λd k β'=>γ d k β' E.nx) :=
 ⟨λE E' β l q=>he.mono _ _ _ (λd k β' q=>hg.mono _ _ _ _ _ l.nx q) q,(ui he.pe hg.pg hs hw h1).pre λD σ H ⟨Z,E,β,⟨own,s,n⟩,q,ok⟩=>tQ.of he s q λd k β' v H' aL q o r =>
  ⟨aL,β',d,k,o.sq,az.aO (λa z=>z.elim id λz=>z.elim) r.rep,hg.mono _ _ _ _ _ (λβ2 q σ2 aZ s2 w2 _=>ok.nx _ _ _ ⟨aZ,s2,hG (n.trans o.sn) w2⟩ q) q⟩⟩
theorem lN (he:PQ X C.z p e φ)(oR:WU e none pos.line X.env=pure false:=by rfl):PB X C (.Expr e pos) (λE β=>φ β λ_ _ β'=>E.nx β') :=
 ⟨λE E' β l q=>he.mono _ _ _ (λd k β' q=>l.nx _ q) q,(jx he.pe oR).pre λD σ H Bq=>by obtain⟨Z,E,β,⟨own,s,n⟩,q,ok⟩:=Bq;exact tQ.of he s q λd k β' v H' aL q o r=>ok.nx _ _ _ (o.sb n) q⟩
abbrev Pf (ro:Bool)(k:Kd)(d:D):Prop:=match k,ro with
 |.own,_=>True
 |.d9,false=>True
 |_,_=>d.flat=true
theorem dB {P:Vz}{w:VG}{W:Addr->Prop}{ro:Bool}{H H':Hp}{d:D}{v:V}(f:d.flat=true)(r:az P w W H' d v):oq P w ro H H' d v:=by
 cases ro with
 |true=>exact⟨[],da f r,Wg,λc hc=>(nomatch hc)⟩
 |false=>exact az.flat f r
theorem DZ {P:Vz}{w:VG}{Z:Hp×(Addr->Prop)}{own:Nat->List Addr}{ro:Bool}{H':Hp}{k:Kd}{d:D}{v:V}(f:Pf ro k d)(r:KV P w C Z own H' k d v):oq P w ro C.H0 H' d v:=by
 cases k with
 |own =>
  cases ro with
  |true=>obtain⟨A,h1,h2,h3⟩:=r;exact⟨A,h1,h2,λc hc=>(h3 c hc).2.2⟩
  |false=>exact az.aO (λa z=>.inr z) r.rep
 |d9 =>
  cases ro with
  |true=>exact dB f r.rep
  |false=>exact az.aO (λa z=>.inr z) r.rep
 |old=>cases ro <;> exact dB f r.rep
 |bor=>cases ro <;> exact dB f r.rep
theorem DG (he:PQ X C.z p e φ):PB X C (.Return (some e) pos) (λE β=>φ β λd k β'=>Pf C.ro k d/\E.rt d β') :=
 ⟨λE E' β l q=>he.mono _ _ _ (λd k β' q=>⟨q.1,l.rt _ _ q.2⟩) q,(i_ he.pe).pre λD σ H EF=>by obtain⟨Z,E,β,⟨own,s,n⟩,q,ok⟩:=EF;exact tQ.of he s q λd k β' v H' aL q o r=>ok.rt _ _ _ _ _ (o.sb n) (DZ (C:=C.z) q.1 r) q.2⟩
theorem a5 {ro:Bool}(he:PQ X C.z p e φ)(LV:C.ro=ro:=by first|exact(rfl:_=true)|exact(rfl:_=false)):PB X C (.Return (some e) pos) (λE β=>φ β λd k β'=>Pf ro k d/\E.rt d β'):=by
 subst LV;exact DG he
theorem gb {i:Nat}{x:Str}{px:Pos}(hn:Nm X i x:=by exact xN):
  PB X C (.Return (some (.Name x px)) pos) (λE β=>∃d,β[i]?=some (some (.own d))/\E.rt d β) :=
 ⟨λE E' β l uK=>by obtain⟨d,h1,q⟩:=uK;exact⟨d,h1,l.rt _ _ q⟩,(i_ (fT (pos:=px) hn)).pre λD σ H Bx=>by
  obtain⟨Z,E,β,⟨own,s,n⟩,⟨d,h1,q⟩,ok⟩:=Bx;obtain⟨v,e1,r,h0⟩:=s.ow i d h1;refine⟨_,e1,ok.rt _ _ _ _ _ ⟨own,s,n⟩ ?_ q⟩;cases hr:C.ro with
  |true=>exact⟨_,r,s.jE i,h0⟩
  |false=>exact r.rep λc hc z=>z (h0 c hc)⟩
end
abbrev bW:=aJ->(List D->Kd->aJ->Prop)->Prop
structure tR (X:Cx)(C:Cfg)(p:Bool)(tg iter:Expr)(ι:bW):Prop where
 mono:∀β R R',(∀d k β,R d k β->R' d k β)->ι β R->ι β R'
 pi:PI X tg iter λσ H R=>∃β own,SQ X C σ H β own/\ι β λds k β'=>∀J H' aL,Out X C σ H own p β' H' aL->vb X (av C (Wn aL) k) J ds H'->R J H'
section
variable {X:Cx}{C:Cfg}{tg e a:Expr}{φ:aE}{φs:cc}{p:Bool}{pp pos:Pos}
def Pm (φ:aE):bW:=λβ R=>φ β λd k β'=>∃ds,d=.lst ds/\R ds k β'
theorem b_ (h:PQ X C p e φ):tR X C p tg e (Pm φ) :=
 ⟨λβ R R' k q=>h.mono β _ _ (λd kd β' IQ=>by obtain⟨ds,e,q⟩:=IQ;exact⟨ds,e,k _ _ _ q⟩) q,(vJ h.pe).pre λσ H R ⟨β,own,s,q⟩=>tQ.of h s q λd k β' v H1 aw Bw o1 r1=>by
  obtain⟨ds,e,q1⟩:=Bw;subst e;obtain⟨a,vs,rfl,h1,n1,q2⟩:=r1.rep;exact⟨a,rfl,⟨vs,eE.of h1⟩,q1 _ _ aw o1 (se h1 n1 q2)⟩⟩
theorem Eu {W:Addr->Prop}{H:Hp}{a:Addr}{vs:List V}{ds:List D}(h1:H a=some (.tup vs))(q2:tD X W H ds vs):vb X W (Q6 X.K a) ds H:=λW' hW i H' k=>by
 have h2:=k.tup a _ h1;replace q2:=ai.grow hW q2;constructor
 ·intro d hd;obtain⟨v,hv,rv⟩:=ai.get q2 hd;refine⟨⟨vs,v,lr.of h2,hv⟩,λx H1 y=>?_⟩;obtain⟨rfl,y⟩:=y;have e:=y vs (lr.of h2);rw[hv]at e;cases e;exact⟨ay.refl _,rv.keep k⟩
 ·intro hl;exact⟨vs,lr.of h2,by rw[q2.length];exact hl⟩
def ED (φs:cc):bW:=λβ R=>φs β λds _ β'=>∃j:Int,ds=[.int j]/\-(2 ^ 62)<=j/\j<2 ^ 62/\R (my 0 j.toNat) .d9 β'
def EC (φs:cc):bW:=λβ R=>φs β λds _ β'=>∃i j:Int,ds=[.int i,.int j]/\(-(2 ^ 62)<=i/\i<2 ^ 62/\-(2 ^ 62)<=j/\j<2 ^ 62)/\R (my i (j-i).toNat) .d9 β'
theorem b6 (hm:X.mg "range" = none) (ha:qF X C p [a] φs) (hg:Gl X "range" := by rfl) (hs:VE [a] X.env=[(false,eval a X.env)]:=by rfl):tR X C p tg (.Call (.Name "range" pp) [a] [] pos) (ED φs) :=
 ⟨λβ R R' k q=>ha.mono β _ _ (λd kd β' IM=>by obtain⟨j,e,h1,h2,q⟩:=IM;exact⟨j,e,h1,h2,k _ _ _ q⟩) q,(xE hg hm ha.pa hs).pre λσ H R ⟨β,own,s,q⟩=>qJ.of ha s q λds ks β' vs H1 aw IK o1 r1=>by
  obtain⟨j,e,h1,h2,q1⟩:=IK;subst e;obtain⟨x,rfl,hx⟩:=tw r1.kn;cases hx;exact⟨j,rfl,h1,h2,q1 _ _ aw o1 oO⟩⟩
end
def BL (γ:cF)(ψ:wM)(E:cz)(ds:List D)(k:Kd)(β:aJ):Prop:=∃I:Nat->aJ->Prop,I 0 β/\(∀i d β,ds[i]?=some d->I i β->γ d (sk k d) β λβ1=>ψ (E.lp (I (i+1))) β1)/\∀β,I ds.length β->E.nx β
section
variable {X:Cx}{C:Cfg}{tg iter c:Expr}{γ:cF}{T:List Nat}{ψ:wM}{ι:bW}{τ:aP}{body:List Stmt}{pos:Pos}{p:Bool}
theorem BL.mono {E E':cz}{ds:List D}{k:Kd}{β:aJ}(hγ:∀d k β R R',(∀r,R r->R' r)->γ d k β R->γ d k β R')(hψ:∀E E' β,Le E E'->ψ E β->ψ E' β)(l:Le E E'):BL γ ψ E ds k β->BL γ ψ E' ds k β:=λ⟨I,h0,h1,h2⟩ =>
 ⟨I,h0,λi d β e q=>hγ d _ β _ _ (λβ1 q=>hψ {nx:=I (i+1),rt:=E.rt,bk:=E.nx,ct:=I (i+1)} {nx:=I (i+1),rt:=E'.rt,bk:=E'.nx,ct:=I (i+1)} β1 ⟨λ_ q=>q,l.rt,l.nx,λ_ q=>q⟩ q) (h1 i d β e q),λβ q=>l.nx _ (h2 β q)⟩
theorem Fn {own aZ:Nat->List Addr}{H H2:Hp}{k:Kd}(n:Sn (H,Wn own) H2 (Wn aZ)):∀b,av C (Wn aZ) k b->av C (Wn own) k b\/H b=none:=λb z=>by
 cases k with
 |own=>exact z.elim (λz=>(n.w b z).imp .inl id) λz=>.inl (.inr z)
 |d9=>exact z.elim (λz=>(n.w b z).imp .inl id) λz=>.inl (.inr z)
 |old=>exact n.w b z
 |bor=>exact z.elim
theorem gW (hp:ZD (model X.prog X.w) X.A X.env X.xe)(hc:X.calm=true)(hi:tR X C.z p tg iter ι)(hg:qH X C.z tg T γ)(hb:qG X C body ψ)(hs:∀x,V4 iter X.env x=pure x:=by intro _;rfl):
  PB X C (.For tg iter body [] pos) (λE β=>ι β λds k β1=>hold k false/\BL γ ψ E ds k β1) :=
 ⟨λE E' β l q=>hi.mono _ _ _ (λds k β1 q=>⟨q.1,q.2.mono hg.mono hb.mono l⟩) q,(zQ hp hc hi.pi hg.pg hb.ps hs).pre λD σ H P2=>by
  obtain⟨Z,E,β,⟨own,s,n⟩,q,ok⟩:=P2;refine⟨β,own,s,hi.mono _ _ _ (λds k β1 gn J H1 aw o1 it=>?_) q⟩;obtain⟨hk,I,i0,i1,i2⟩:=gn;have n':=n.trans o1.sn;have ig:∀b,Wn aw b\/H1 b=none->av C.z (Wn aw) k b\/H1 b=none:=λb z=>by
   cases k with
   |own=>exact z.imp .inl id
   |d9=>exact z.imp .inl id
   |old=>exact z
   |bor=>exact hk.elim
  have F0:=it (λb=>av C.z (Wn aw) k b\/H1 b=none) λb z=>z;refine⟨λi m σ H=>i<=ds.length/\m=ds.length-i/\∃β,SB X C (H1,Wn aw) σ H β/\I i β,⟨_,VX _,rfl,β1,⟨aw,o1.sq,Sn.refl⟩,i0⟩,?_⟩;rintro i m σ2 H2 ⟨hi,rfl,β2,⟨aZ,s2,n2⟩,hl⟩;obtain⟨bJ,fK⟩:=F0 i H2 (n2.k.mono ig)
  by_cases jm:i<ds.length
  ·right
   have hd:ds[i]?=some ds[i]:=VC jm;obtain⟨go,yl⟩:=bJ _ hd;refine⟨go,λσ' H'=>∃β,SB X C (H1,Wn aw) σ' H' β/\I (i+1) β,λσ' H' P0=>by obtain⟨β',ue,yO⟩:=P0;exact⟨_,by lia,jm,rfl,β',ue,yO⟩,λx H3 y=>?_⟩
   obtain⟨s3,r3⟩:=yl x H3 y;refine⟨aZ,β2,_,_,s2.same s3,mj (C:=C.z) (az.aO (λb z=>Fn (C:=C) n2 b (z.elim id λz=>z.elim)) r3),hg.mono _ _ _ _ _ (λβ4 q σ4 mK s4 w4 _=>?_) (i1 i _ β2 hd hl)⟩;refine⟨(H1,Wn aw),_,β4,⟨mK,s4,hG (n2.same s3) w4⟩,q,⟨λσ5 H5 β5 xo q5=>⟨β5,xo,q5⟩,λσ5 H5 β5 d5 v5 xo r5 q5=>?_,λσ5 H5 β5 xo q5=>?_,λσ5 H5 β5 xo q5=>⟨β5,xo,q5⟩⟩⟩
   ·obtain⟨iC,s5,n5⟩:=xo;exact ok.rt _ _ _ _ _ ⟨iC,s5,n'.trans n5⟩ r5 q5
   ·obtain⟨iC,s5,n5⟩:=xo;exact ok.nx _ _ _ ⟨iC,s5,n'.trans n5⟩ q5
  ·left
   have e:i=ds.length:=by lia
   subst e;exact⟨fK (VA _),ok.nx _ _ _ ⟨aZ,s2,n'.trans n2⟩ (i2 β2 hl)⟩⟩
def ze (τ:aP)(ψ:wM):wM:=λE β=>∃V:Nat->aJ->Prop,(∃m,V m β)/\∀m β,V m β->τ β λt β1=>if t=true then ψ {nx:=λβ'=>∃m',m'<m/\V m' β',rt:=E.rt,bk:=E.nx,ct:=λβ'=>∃m',m'<m/\V m' β'} β1 else E.nx β1
theorem Aj (hp:ZD (model X.prog X.w) X.A X.env X.xe)(hc:u_ X C.z p c τ)(hb:qG X C body ψ):PB X C (.While c body [] pos) (ze τ ψ) :=
 ⟨λE E' β l ⟨V,h0,h⟩=>⟨V,h0,λm β v=>hc.mono _ _ _ (λt β1 q=>by
   cases t
   ·exact l.nx _ q
   ·exact hb.mono {nx:=λβ'=>∃m',m'<m/\V m' β',rt:=E.rt,bk:=E.nx,ct:=λβ'=>∃m',m'<m/\V m' β'} {nx:=λβ'=>∃m',m'<m/\V m' β',rt:=E'.rt,bk:=E'.nx,ct:=λβ'=>∃m',m'<m/\V m' β'} β1 ⟨λ_ q=>q,l.rt,l.nx,λ_ q=>q⟩ q) (h m β v)⟩,(zP hp hc.pt hb.ps).pre λD σ H II=>by
  obtain⟨Z,E,β,sb,⟨V,⟨m0,v0⟩,h⟩,ok⟩:=II;refine⟨λm σ H=>∃β,SB X C Z σ H β/\V m β,⟨m0,β,sb,v0⟩,λm σ H jJ=>?_⟩;obtain⟨β,⟨own,s,n⟩,v⟩:=jJ;refine iN.of hc s (h m β v) λt β1 H1 aw q o1=>?_;cases t
  ·exact ok.nx _ _ _ (o1.sb n) q
  ·exact⟨λσ' H'=>∃β',SB X C Z σ' H' β'/\∃m',m'<m/\V m' β',λσ' H' PY=>by obtain⟨β',ue,m',hm,v'⟩:=PY;exact⟨m',hm,β',ue,v'⟩,Z,_,β1,o1.sb n,q,λσ' H' β' ue q'=>⟨β',ue,q'⟩,ok.rt,ok.nx,λσ' H' β' ue q'=>⟨β',ue,q'⟩⟩⟩
end
def startB (N:List Str)(ds:List D):aJ:=ds.map (λd=>some (.val false d))++Ws (N.length-ds.length) none
def j_ (N:List Str)(ok:List Int->Prop)(ds:List D):aJ:=some (.hand ok)::(ds.map (λd=>some (.val false d))++Ws (N.length-(ds.length+1)) none)
section
variable {P:Vz}{w:VG}{K:PySem.W.Frag}{mg:Str->Option Vv}{base:Heap}
theorem gQ {i n:Nat}{b:B}(h:(Ws n (none:Option B))[i]?=some (some b)):False:=by
 rw[List.getElem?_replicate]at h
 split at h <;> cases h
theorem fN {ds:List D}{n i:Nat}{b:B}(h:(ds.map (λd=>some (B.val false d))++Ws n none)[i]?=some (some b)):∃d,ds[i]?=some d/\b=.val false d:=by
 by_cases hi:i<ds.length
 ·rw[W9 (by simpa using hi),VJ]at h
  cases q:ds[i]? with
  |none=>rw[q]at h;cases h
  |some d=>rw[q]at h;cases h;exact⟨d,rfl,rfl⟩
 ·rw[XH (by simpa using hi)]at h
  exact(gQ h).elim
theorem j9 {N:List Str}{vs:List V}{i:Nat}{v:V}(h:vs[i]?=some v):(start N vs)[i]?=some (some v):=by
 unfold start;rw[W9 (by simpa using (VN.mp h).1),VJ,h]
 rfl
theorem mf {N:List Str}{vs:List V}{ds:List D}{H:Hp}{ro:Bool}(r:ai P w (λ_=>False) H ds vs):bz P w ⟨H,λ_=>False,ro,λ_=>False⟩ (start N vs) H (startB N ds) (λ_=>[]):=by
 refine⟨?_,λi y d h=>?_,λi d h=>?_,λi ok h=>?_,λi a h=>(nomatch h),λi j a h=>(nomatch h),λi=>Wg,Kp.refl,λ_ z=>z,λi y d h=>by obtain⟨d',e,e'⟩:=fN h;cases e'⟩
 ·unfold startB start;simp[r.length]
 ·obtain⟨d',e,e'⟩:=fN h;cases e';obtain⟨v,e1,e2⟩:=ai.get r e;exact⟨v,j9 e1,az.aO (λa z=>z.elim (λPX=>by obtain⟨_,q⟩:=PX;exact(nomatch q)) λz=>z) e2⟩
 ·obtain⟨d',e,e'⟩:=fN h;cases e'
 ·obtain⟨d',e,e'⟩:=fN h;cases e'
theorem k_ {x qual:Str}{st:Stmt}{f:Addr}{fd:VW}{N ps:List Str}{k:Nat}{F:FD}{ro:Bool}(G:wO K x qual st f fd)(S:aC N ps (aj st))(len:∀ds R,F ds R->ds.length=ps.length)
  (fV:∀(bB:Vv) (A:Wv) (outer:List Env) (s:Vw) (H:Hp) (E:XK),cS k (A.deeper (Ye qual (aj st) s.heap.objs.size f bB)) ->
   ∃ψ,qG (kS bE P w K mg base N qual (aj st) f bB A outer s H E).rR ⟨H,λ_=>False,ro,λ_=>False⟩ (dh st) ψ/\∀ds R,F ds R->ψ (eN R) (startB N ds)) :
  aB P w K mg base bE (k+1) f fd ps (cB P w ro F):=by
 refine G.ok S (λvs H Q E h=>?_) (λbB A outer s H vs Q E hr h=>?_)
 ·obtain⟨ds,r,h⟩:=h;rw[r.length];exact len ds _ h
 ·obtain⟨ds,r,h⟩:=h;obtain⟨ψ,hb,hF⟩:=fV bB A outer s H E hr;refine⟨_,hb.ps,(H,Wn λ_=>[]),_,startB N ds,⟨λ_=>[],mf r,Sn.refl⟩,hF ds _ h,λσ H' β sb q=>?_,λσ H' β d v sb rr q=>?_,λ_ _ _ _ z=>z.elim,λ_ _ _ _ z=>z.elim⟩
  ·obtain⟨own,s',n'⟩:=sb;exact q _ H' (λb o e=>s'.kp.out b o e (λz=>z)) (dB (W:=λ_=>False) rfl rfl)
  ·obtain⟨own,s',n'⟩:=sb;exact q _ H' (λb o e=>s'.kp.out b o e (λz=>z)) rr
theorem xa {N:List Str}{ok:List Int->Prop}{h:Addr}{ns:List Int}{vs:List V}{ds:List D}{H:Hp}{ro:Bool}(hh:H h=some (.lst (ns.map V.int)))(ho:ok ns)(r:ai P w (λa=>a=h) H ds vs):
  bz P w ⟨H,(·=h),ro,λ_=>False⟩ (start N (.ref h::vs)) H (j_ N ok ds) (λi=>if i=0 then [h] else []):=by
 have DK:∀{i:Nat} {a:Addr},a∈(if i=0 then [h] else ([]:List Addr))->i=0/\a=h:=λ{i a} q=>by
  by_cases e:i=0
  ·rw[if_pos e]at q;exact⟨e,by simpa using q⟩
  ·rw[if_neg e]at q;cases q
 have ER:∀{i:Nat} {b:B},(j_ N ok ds)[i]?=some (some b)->(i=0/\b=.hand ok)\/∃j d,i=j+1/\ds[j]?=some d/\b=.val false d:=λ{i b} q=>by
  unfold j_ at q;cases i with
  |zero=>simp at q;exact .inl ⟨rfl,q.symm⟩
  |succ i =>
   rw[Xn]at q;obtain⟨d,e,e'⟩:=fN q;exact .inr ⟨i,d,rfl,e,e'⟩
 refine⟨?_,λi y d q=>?_,λi d q=>?_,λi yK q=>?_,λi a q=>?_,λi j a h1 h2=>?_,λi=>?_,Kp.refl,λ_ z=>z,λi y d q=>(ER q).elim (λBq=>by obtain⟨_,e⟩:=Bq;cases e) (λEF=>by obtain⟨j,d',_,_,e'⟩:=EF;cases e')⟩
 ·unfold j_ start;simp[r.length]
 ·rcases ER q with⟨_,e⟩|⟨j,d',rfl,e,e'⟩
  ·cases e
  ·cases e';obtain⟨v,e1,e2⟩:=ai.get r e;exact⟨v,j9 (by simpa using e1),az.aO (λa z=>z.elim (λPV=>by obtain⟨j,q⟩:=PV;exact(DK q).2) λz=>z.elim) e2⟩
 ·rcases ER q with⟨_,e⟩|⟨j,d',_,_,e'⟩
  ·cases e
  ·cases e'
 ·rcases ER q with⟨e0,e⟩|⟨j,d',_,_,e'⟩
  ·cases e;subst e0;exact⟨h,ns,j9 rfl,hh,ho,rfl,.inr rfl⟩
  ·cases e'
 ·obtain⟨_,rfl⟩:=DK q;exact⟨by rw[hh];exact λz=>(nomatch z),λxs z=>(by rw[hh]at z;cases z),.inr rfl,λz=>z⟩
 ·rw[(DK h1).1,(DK h2).1]
 ·by_cases e:i=0
  ·simp[e]
  ·simp[e]
theorem HN {x qual:Str}{st:Stmt}{f:Addr}{fd:VW}{N ps:List Str}{k:Nat}{F:FD}{ok:List Int->Prop}{ro:Bool}(G:wO K x qual st f fd)(S:aC N ps (aj st))(len:∀ds R,F ds R->ds.length+1=ps.length)
  (fV:∀(bB:Vv) (A:Wv) (outer:List Env) (s:Vw) (H:Hp) (E:XK) (IO:Addr->Prop),cS k (A.deeper (Ye qual (aj st) s.heap.objs.size f bB)) ->
   ∃ψ,qG (kS bE P w K mg base N qual (aj st) f bB A outer s H E).rR ⟨H,IO,ro,λ_=>False⟩ (dh st) ψ/\∀ds R,F ds R->ψ (eH ok R) (j_ N ok ds)) :
  aB P w K mg base bE (k+1) f fd ps (kc P w ok ro F):=by
 refine G.ok S (λvs H Q E h=>?_) (λbB A outer s H vs Q E hr h=>?_)
 ·obtain⟨h,vs',ds,ns,rfl,hh,ho,r,q⟩:=h;rw[Wa,r.length];exact len ds _ q
 ·obtain⟨h,vs',ds,ns,rfl,hh,ho,r,q⟩:=h;obtain⟨ψ,hb,hF⟩:=fV bB A outer s H E (·=h) hr;refine⟨_,hb.ps,(H,_),_,j_ N ok ds,⟨_,xa hh ho r,Sn.refl⟩,hF ds _ q,λσ H' β sb z=>z.elim,λσ H' β d v sb rr qm=>?_,λ_ _ _ _ z=>z.elim,λ_ _ _ _ z=>z.elim⟩;obtain⟨b0,q⟩:=qm;obtain⟨own,s',n'⟩:=sb;obtain⟨a,ly,g1,g2,g3,g4,g5⟩:=s'.jL 0 ok b0;have ea:a=h:=g5.elim (λz=>(z h rfl).elim) λz=>z;subst ea;exact q v H' ly s'.kp s'.eZ g2 g3 rr
end
end L2.Q
namespace L2
open PySem PySem.Spec PySem.SeqAt PyProof.Rows
theorem qN.pre {X:Cx}{ifs:List Expr}{t t':TT}(h:qN X ifs t)(k:∀σ H Q,t' σ H Q->t σ H Q):qN X ifs t':=λpins s σ H Q I q=>h pins s σ H Q I (k σ H Q q)
section
end
section
end
section
variable {X:Cx}{e:Expr}{g:XT}{gs:List XT}{scope:Xw}{N':List Str}{lk:List (Option Nat)}{tg:Addr->TG}{tt:Addr->TT}{wi:TI}
theorem ll {dC:Sem Vv}{o:Addr->HO}{after:Vv->Env->Sem Fin->Sem Fin}{ta:Addr->j7}(L:Links X scope N' lk)(hc:X.calm=true)(hA:∀(pins:List (Addr×Obj)) (s:Vw) (σ:St) (H:Hp) (Q:Vv->Vw->Prop) (E:Vv->Vw->Prop),Inv X pins σ H s->(∀a s',s.heap.objs.size<=a->H a=none->(∀b o,s.heap.get? b=some o->s'.heap.get? b=some o)->Inv X pins σ (upd H a (o a)) s'->Q (.ref a) s')->VU (model X.prog X.w) X.A dC Q E s)
  (F:∀acc env,fX e 0 g acc env (after acc env))
  (lU:∀a cl C s H ex,PG (aq X scope N' cl C s H ex) g.target (tg a)/\qN (aq X scope N' cl C s H ex) g.ifs (tt a)/\lE (aq X scope N' cl C s H ex) (after (.ref a) (aq X scope N' cl C s H ex).env) (ta a))
  {cl:List (Str×Addr)} (nZ:∀x,(x,Wi)∈scope.names->∃c,cl.lookup x=some c) (yQ:∀x c,cl.lookup x=some c->X.env.cells.lookup x=some c)
  {pins:List (Addr×Obj)} {σ:St} {s:Vw} {Q:V->Hp->Prop} {F1:Vv} {E:Vv->Vw->Prop} {RR:Vv->Addr->Result->Vw->Prop}
  (h:N5 X pins σ g.target (λJ H1=>∀a,H1 a=none->eM J (tg a) (tt a) (ta a) (λ_ H'=>Q (.ref a) H') (de lk σ) (upd H1 a (o a))) F1 s)
  (hR:∀a H' C s',Inv X pins σ H' s'->jk X pins H' C->(∃m,s'.heap.Ns C m)->Q (.ref a) H'->RR (.ref a) C (.ok .next) s') :
  VU (model X.prog X.w) X.A dC (λacc s₃=>VU (model X.prog X.w) X.A (newFunctionEnv scope X.env.globals cl [] X.env.qual none .none (some X.env)) (λM6 s₄ =>
   X9 (model X.prog X.w) X.A (.compStart e 0 F1 acc {M6 with scope:=relabel scope X.env}) (RR acc M6.locals) s₄) E s₃) E s:=by
 obtain⟨it,fp,tn,J,H2,e1,I2,T,GJ,f2,hl⟩:=h;subst e1;refine hA pins s σ H2 _ E I2 λa s3 ha hn hk I3=>?_;refine wpAny_newFunctionEnv L.uw (by intro y hy;simp at hy) (λh₁ IU IF=>?_) L.kind
 have MF:∀b∈fp,∃o,s3.heap.get? b=some o:=λb hb=>by
  obtain⟨ob,q,_⟩:=T.obj _ _ GJ b hb;exact⟨ob,hk b ob q⟩
 have Ue:∀b∈fp,b≠a:=λb hb=>by
  obtain⟨ob,q,_⟩:=T.obj _ _ GJ b hb;exact V_ (V1 (VR q) ha)
 have f3:∀b∈fp,jk X pins (upd H2 a (o a)) b:=λb hb=>⟨by rw[ar (Ue b hb)];exact(f2 b hb).1,(f2 b hb).2⟩
 have R0:∀b ob,s3.heap.get? b=some ob->h₁.get? b=some ob:=λb ob q=>IF.extBut b ob (V_ (VR q)) (Vx _ q);have NR:h₁.Ns s3.heap.objs.size (λ_=>none):=IU;have I4:=Bl (t':=s3.toks+([]:List (Str×Vv)).length) I3 L f3 MF nZ yQ NR R0;obtain⟨g1,g2,g3⟩:=lU a cl s3.heap.objs.size s3 (upd H2 a (o a)) fp;have f4:∀b∈fp,jk (aq X scope N' cl s3.heap.objs.size s3 (upd H2 a (o a)) fp) [] (upd H2 a (o a)) b:=λb hb =>
  ⟨(f3 b hb).1,(I4.ok.Ga b hb).1,I4.ok.qt b hb,.inl hb,(I4.ok.Ga b hb).2,λp hp=>absurd (show p∈([]:List (Addr×Obj)) from hp) (by simp)⟩
 have GI:tn 0 h₁:=T.keep 0 _ _ GJ λb hb ob q=>R0 b ob (hk b ob q);refine Xa (nF (X:=aq X scope N' cl s3.heap.objs.size s3 (upd H2 a (o a)) fp) rfl hc (F (.ref a) _) g1 g2 g3 T I4 GI f4 (hl a hn)) λr s' hr=>?_;obtain⟨rfl,σ',H',J',q⟩:=hr;have I5:Inv X pins σ H' s':=Bm (C:=s3.heap.objs.size) (h'':=s'.heap) I3 f3 J' (.refl ..);refine hR a H' s3.heap.objs.size s' I5 (I3.yf (VA _) J'.free) ?_ q;obtain⟨m,hm,_⟩:=J'.loc;exact⟨m,hm⟩
theorem rL {dC:Sem Vv}{o:Addr->HO}{after:Vv->Env->Sem Fin->Sem Fin}{ta:Addr->j7}{pos:Pos}(L:Links X scope N' lk)(hc:X.calm=true)(hA:∀(pins:List (Addr×Obj)) (s:Vw) (σ:St) (H:Hp) (Q:Vv->Vw->Prop) (E:Vv->Vw->Prop),Inv X pins σ H s->(∀a s',s.heap.objs.size<=a->H a=none->(∀b o,s.heap.get? b=some o->s'.heap.get? b=some o)->Inv X pins σ (upd H a (o a)) s'->Q (.ref a) s')->VU (model X.prog X.w) X.A dC Q E s)
  (BD:eval e X.env=comprehension e scope X.env pos dC false (eval g.iter X.env)) (F8:clausesOf e=g::gs)
  (F:∀acc env,fX e 0 g acc env (after acc env)) (hi:PI X g.target g.iter wi)
  (lU:∀a cl C s H ex,PG (aq X scope N' cl C s H ex) g.target (tg a)/\qN (aq X scope N' cl C s H ex) g.ifs (tt a)/\lE (aq X scope N' cl C s H ex) (after (.ref a) (aq X scope N' cl C s H ex).env) (ta a))
  (hs:∀x,V4 g.iter X.env x=pure x) :
  PE X e (λσ H Q=>wi σ H λJ H1=>∀a,H1 a=none->eM J (tg a) (tt a) (ta a) (λ_ H'=>Q (.ref a) H') (de lk σ) (upd H1 a (o a))):=by
 intro pins s σ H Q I h;rw[BD];obtain⟨cl,BE,nZ,yQ⟩:=iX (env:=X.env) (scope:=scope) λx hx=>I.ok.has x (L.free x hx);refine wpAny_comprehension_free (use:=none) F8 hs BE L.kind L.names (bt (hi pins s σ H _ I h) λv s1 h1=>bt h1 λF1 s2 h2=>?_);refine ll (RR:=λacc C=>compPost (model X.prog X.w) X.A X.xe none (EP X pins σ Q) acc C) L hc hA F lU nZ yQ h2 λa H' C s' I' f qm q=>?_;obtain⟨m,hm⟩:=qm;exact⟨m,hm,λh' Pw=>⟨.ref a,H',I'.sameBut f Pw,rfl,q⟩⟩
theorem gU {dC:Sem Vv}{o:HO}{after:Vv->Env->Sem Fin->Sem Fin}{ta:Addr->j7}{pos:Pos}(L:Links X scope N' lk)(hc:X.calm=true)(hA:nN X dC o)
  (BD:eval e X.env=comprehension e scope X.env pos dC false (eval g.iter X.env)) (F8:clausesOf e=g::gs)
  (F:∀acc env,fX e 0 g acc env (after acc env)) (hi:PI X g.target g.iter wi)
  (lU:∀a cl C s H ex,PG (aq X scope N' cl C s H ex) g.target (tg a)/\qN (aq X scope N' cl C s H ex) g.ifs (tt a)/\lE (aq X scope N' cl C s H ex) (after (.ref a) (aq X scope N' cl C s H ex).env) (ta a))
  (hs:∀x,V4 g.iter X.env x=pure x) :
  PE X e (λσ H Q=>wi σ H λJ H1=>∀a,H1 a=none->eM J (tg a) (tt a) (ta a) (λ_ H'=>Q (.ref a) H') (de lk σ) (upd H1 a o)):=rL (o:=λ_=>o) L hc hA.ok BD F8 F hi lU hs
theorem rF {dC:Sem Vv}{o:HO}{after:Vv->Env->Sem Fin->Sem Fin}{ta:Addr->j7}{pos pos' mh:Pos}{y:Str}{i:Nat}(L:Links X scope N' lk)(hc:X.calm=true)(hA:nN X dC o)
  (oR:WU e (some (.Name y pos')) mh.line X.env=pure true)
  (BD:ZJ e X.env (assign (.Name y pos') X.env)=(do let _ <- comprehension e scope X.env pos dC false (eval g.iter X.env) (some (assign (.Name y pos') X.env));pure ())) (F8:clausesOf e=g::gs)
  (hN:X.N.Nodup) (hy:X.N[i]?=some y) (hx:Loc X.env.scope y) (hf:X.fn y=true\/X.env.scope.names.lookup y=some .local)
  (F:∀acc env,fX e 0 g acc env (after acc env)) (hi:PI X g.target g.iter wi)
  (lU:∀a cl C s H ex,PG (aq X scope N' cl C s H ex) g.target (tg a)/\qN (aq X scope N' cl C s H ex) g.ifs (tt a)/\lE (aq X scope N' cl C s H ex) (after (.ref a) (aq X scope N' cl C s H ex).env) (ta a))
  (hs:∀x,V4 g.iter X.env x=pure x) :
  PS X (.Assign [.Name y pos'] e mh) (λD σ H=>wi σ H λJ H1=>∀a,H1 a=none->eM J (tg a) (tt a) (ta a) (λ_ H'=>D.nx (σ.set i (some (.ref a))) H') (de lk σ) (upd H1 a o)):=by
 intro pins s σ H D I h;rw[exec_Assign_Name_used _ _ _ _ oR,BD];refine Vu (W5 (Vu (Vu ?_)));obtain⟨cl,BE,nZ,yQ⟩:=iX (env:=X.env) (scope:=scope) λx hx=>I.ok.has x (L.free x hx);refine bt (wpAny_comprehension_free (use:=some (assign (.Name y pos') X.env)) (Q:=λ_ s'=>SP X pins D .next s') F8 hs BE L.kind L.names (bt (hi pins s σ H _ I h) λv s1 h1=>bt h1 λF1 s2 h2=>?_)) λ_ s' q=>Vy (Vy q)
 refine ll (o:=λ_=>o) (Q:=λv H'=>D.nx (σ.set i (some v)) H') (RR:=λacc C=>compPost (model X.prog X.w) X.A X.xe (some (assign (.Name y pos') X.env)) (λ_ s'=>SP X pins D .next s') acc C) L hc hA.ok F lU nZ yQ h2 λa H' C s' I' f jJ q=>?_
 obtain⟨m,hm⟩:=jJ;show VU _ _ (assign (.Name y pos') X.env (.ref a)) _ _ s';have Vn:∃o,s'.heap.get? C=some o:=by obtain⟨o,_,_,ho,_⟩:=hm;exact⟨o,ho⟩
 refine wpAny_assign_Name (oA I' hN hy hx (v:=.ref a) (u:=.ref a) rfl (λs4 I4 k4=>?_) hf);obtain⟨a4,SX,Ug⟩:=k4;have v7:C≠a4:=by
  rcases Ug with z|z
  ·rw[z];exact f.2.1
  ·exact(f.2.2.2.2.1 y a4 z).symm
 exact⟨m,hm.at' (λo e=>(SX.2 C v7).trans e),λh' Pw=>⟨_,H',I4.sameBut f Pw,q⟩⟩
end
end L2
namespace L2.Q
open PySem PySem.Spec PySem.SeqAt PyProof.Rows
noncomputable def RO:Option B->Option B
 |some (.own d)=>some (.val false d)
 |some (.shl _ d)=>some (.val false d)
 |b=>b
def cG (lk:List (Option Nat))(β:aJ):aJ:=lk.map λl=>match l with|some j=>(match β[j]? with|some b=>RO b|none=>none)|none=>none
def NM:Option (Option B)->Bool
 |some (some (.hand _))=>true
 |_=>false
def bG (lk:List (Option Nat))(β:aJ)(own:Nat->List Addr)(i:Nat):List Addr:=match lk[i]? with
 |some (some j)=>if NM β[j]?=true then own j else []
 |_=>[]
def fC:aJ->aJ->Prop
 |[],_=>True
 |some (.hand ok)::a,c=>c.head?=some (some (.hand ok))/\fC a c.tail
 |_::a,c=>fC a c.tail
theorem fC.get:∀{a c:aJ} {i:Nat} {ok:List Int->Prop},fC a c->a[i]?=some (some (.hand ok))->c[i]?=some (some (.hand ok))
 |[],_,_,_,_,e=>by simp at e
 |x::a,c,0,ok,h,e=>by
  simp at e;subst e;rw[<- YM];exact h.1
 |x::a,c,i+1,ok,h,e=>by
  have h':fC a c.tail:=by
   cases x with
   |none=>exact h
   |some x=>cases x <;> first|exact h|exact h.2
  have:=fC.get (i:=i) h' (by simpa using e)
  rwa [Zg]at this
section
variable {P:Vz}{w:VG}{C:Cfg}{σ σ':St}{H H' H1:Hp}{β βi:aJ}{own bS:Nat->List Addr}{lk:List (Option Nat)}{a:Addr}
theorem cE {i:Nat}{c:Addr}(h:c∈bG lk β own i):∃j,lk[i]?=some (some j)/\NM β[j]?=true/\c∈own j:=by
 unfold bG at h
 split at h
 ·next j e =>
  by_cases q:NM β[j]?=true
  ·rw[if_pos q]at h;exact⟨j,e,q,h⟩
  ·rw[if_neg q]at h;cases h
 ·cases h
theorem bF:∀c,Wn (bG lk β own) c->Wn own c:=λc ⟨i,h⟩=>let ⟨j,_,_,h⟩:=cE h;⟨j,h⟩
theorem cu {i j:Nat}{v:V}(h:lk[i]?=some (some j))(e:σ[j]?=some (some v)):(de lk σ)[i]?=some (some v):=by
 unfold de;rw[VJ,h];simp only[Xx];rw[e]
theorem ip {i:Nat}{b:B}(h:(cG lk β)[i]?=some (some b)):∃j b',lk[i]?=some (some j)/\β[j]?=some (some b')/\RO (some b')=some b:=by
 unfold cG at h;rw[VJ]at h;cases q:lk[i]? with
 |none=>rw[q]at h;cases h
 |some l =>
  rw[q]at h;cases l with
  |none=>cases h
  |some j =>
   simp only[Xx]at h;cases q2:β[j]? with
   |none=>rw[q2]at h;cases h
   |some b2 =>
    rw[q2]at h;simp only[Zo]at h;cases b2 with
    |none=>cases h
    |some b'=>exact⟨j,b',rfl,q2,h⟩
theorem bz.enter (s:bz P w C σ H β own)(ha:H a=none)(inj:∀(i i' j:Nat),lk[i]?=some (some j)->lk[i']?=some (some j)->i=i'):
  bz P w (C.u λc=>c=a) (de lk σ) (upd H a (.lst [])) (cG lk β) (bG lk β own):=by
 have sm:ay H (upd H a (.lst [])):=ay.new ha;have na:∀{i c},c∈own i->c≠a:=λ{i c} hc z=>(s.dm i c hc).1 (by rw[z];exact ha)
 have gr:∀k,∀c,eD (C.u λc=>c=a) (Wn (bG lk β own)) k c->eD C (Wn own) k c\/H c=none:=λk c z=>by
  rcases z with z|z
  ·exact .inl (.inl (gy bF k c z))
  ·exact .inr (by rw[z];exact ha)
 refine⟨by unfold cG de;simp,λi y d e=>?_,λi d e=>?_,λi ok e=>?_,λi c h=>?_,λi i' c h1 h2=>?_,λi=>?_,s.kp.trans sm.kp,λc z e=>s.eZ c z (sm.free e),λi y d e=>by
  obtain⟨j,b',e1,e2,e3⟩:=ip e;cases b' <;> cases e3⟩
 ·obtain⟨j,b',e1,e2,e3⟩:=ip e;cases b' with
  |val y' d' =>
   cases e3;obtain⟨v,h1,h2⟩:=s.val j y d e2;exact⟨v,cu e1 h1,(az.grow (gr _) h2).same sm⟩
  |own d' =>
   cases e3;obtain⟨v,h1,h2,h3⟩:=s.ow j d e2;refine⟨v,cu e1 h1,az.same sm (h2.rep λc hc z=>?_)⟩;rcases z with z|z
   ·obtain⟨i',nY⟩:=z;obtain⟨j',q1,q2,q3⟩:=cE nY;have:=s.iI j j' c hc q3;subst this;rw[e2]at q2;cases q2
   ·exact na hc z
  |hand ok=>cases e3
  |shl y' d' =>
   cases e3;obtain⟨v,h1,h2,h3⟩:=s.shl j y' d e2;refine⟨v,cu e1 h1,az.same sm (h2.rep (λc hc z=>?_) λds vs r=>ai.grow (λc z=>?_) r)⟩
   ·rcases z with z|z
    ·obtain⟨i',nY⟩:=z;obtain⟨j',q1,q2,q3⟩:=cE nY;have:=s.iI j j' c hc q3;subst this;rw[e2]at q2;cases q2
    ·exact na hc z
   ·rcases gr _ c z with z|z
    ·refine .inl ?_;rcases z with z|z
     ·exact .inl (.inl z)
     ·exact .inr z
    ·exact .inr z
 ·obtain⟨j,b',e1,e2,e3⟩:=ip e;cases b' <;> cases e3
 ·obtain⟨j,b',e1,e2,e3⟩:=ip e;cases b' with
  |val y' d'=>cases e3
  |own d'=>cases e3
  |shl y d=>cases e3
  |hand yK =>
   cases e3;obtain⟨h,ns,h1,h2,h3,h4,h5⟩:=s.jL j ok e2;refine⟨h,ns,cu e1 h1,sm _ _ h2,h3,?_,h5⟩;unfold bG;rw[e1];simp only;rw[e2];exact(if_pos rfl).trans h4
 ·obtain⟨j,q1,q2,q3⟩:=cE h;obtain⟨g1,g2,g3,g4⟩:=s.dm j c q3;rw[ar (na q3)];exact⟨g1,g2,g3,na q3⟩
 ·obtain⟨j,q1,q2,q3⟩:=cE h1;obtain⟨j',NB,S_,OV⟩:=cE h2;have:=s.iI j j' c q3 OV;subst this;exact inj _ _ _ q1 NB
 ·unfold bG
  split
  ·next j e =>
   split
   ·exact s.jE j
   ·exact Wg
  ·exact Wg
theorem bz.Dd {o:HO}(s:bz P w (C.u λc=>c=a) σ H β own){oa:HO}(ha:H a=some oa)(ht:∀xs,oa≠.tup xs)(h0:C.H0 a=none):bz P w (C.u λc=>c=a) σ (upd H a o) β own:=by
 have k:Kp (·=a) H (upd H a o):=jg ha ht;have na:∀{i c},c∈own i->c≠a:=λ{i c} hc=>(s.dm i c hc).2.2.2;refine⟨s.len,λi y d e=>let ⟨v,h1,h2⟩:=s.val i y d e;⟨v,h1,h2.keep (k.mono λc z=>.inr z)⟩,λi d e=>let ⟨v,h1,h2,h3⟩:=s.ow i d e;⟨v,h1,h2.keep k.tup (λc hc oc ec=>k.out c oc ec (na hc)),h3⟩,
  λi ok e=>?_,λi c h=>?_,s.iI,s.jE,⟨λc oc z n=>k.out c oc (s.kp.out c oc z n) λq=>?_,λc xs z=>k.tup c xs (s.kp.tup c xs z)⟩,λc z=>?_,λi y d e=>let ⟨v,h1,h2,h3⟩:=s.shl i y d e;⟨v,h1,h2.map (λc hc oc ec=>k.out c oc ec (na hc)) (λ_ _ r=>r.keep (k.mono λc z=>.inr z)),h3⟩⟩
 ·obtain⟨h,ns,h1,h2,h3,h4,h5⟩:=s.jL i ok e;exact⟨h,ns,h1,k.out h _ h2 (na (by rw[h4];simp)),h3,h4,h5⟩
 ·rw[ar (na h)];exact s.dm i c h
 ·rw[q,h0]at z;cases z
 ·by_cases q:c=a
  ·rw[q,ao];exact λz=>(nomatch z)
  ·rw[ar q];exact s.eZ c z
theorem bz.leave (s:bz P w C σ H1 β own)(i:bz P w (C.u λc=>c=a) σ' H' βi bS)(n:Sn (H1,Wn (bG lk β own)) H' (Wn bS))(le:∀c,Wn bS c->Wn (bG lk β own) c)
  (hh:fC (cG lk β) βi) (hσ:∀(j:Nat) (ok:List Int->Prop) (i:Nat),β[j]?=some (some (B.hand ok))->lk[i]?=some (some j)->σ'[i]?=(de lk σ)[i]?):bz P w C σ H' β own:=by
 have off:∀{j c},c∈own j->¬ Wn (bG lk β own) c->∀o,H1 c=some o->H' c=some o:=λ{j c} hc nw o e=>n.k.out c o e λz=>z.elim nw λz=>(s.dm j c hc).1 z;have LU:∀{j c},c∈own j->NM β[j]?=false->¬ Wn (bG lk β own) c:=λ{j c} hc q nX=>by
  obtain⟨i',nY⟩:=nX;obtain⟨j',q1,q2,q3⟩:=cE nY;have:=s.iI j j' c hc q3;subst this;rw[q]at q2;cases q2
 have hN:∀(j:Nat) (ok:List Int->Prop),β[j]?=some (some (B.hand ok))->∃a ns,σ[j]?=some (some (V.ref a))/\H' a=some (.lst (ns.map V.int))/\ok ns/\own j=[a]/\((∀b,¬ C.IO b)\/C.IO a):=λj ok e=>by
  obtain⟨h,ns,h1,h2,h3,h4,h5⟩:=s.jL j ok e
  by_cases q:Wn (bG lk β own) h
  ·obtain⟨i',nY⟩:=q;obtain⟨j',q1,q2,q3⟩:=cE nY;have:=s.iI j j' h (by rw[h4];simp) q3
   subst this;have eB:(cG lk β)[i']?=some (some (.hand ok)):=by
    unfold cG;rw[VJ,q1];simp only[Xx];rw[e];rfl
   obtain⟨h',ly,g1,g2,g3,g4,g5⟩:=i.jL i' ok (hh.get eB);rw[hσ j ok i' e q1,cu q1 h1]at g1;cases g1;exact⟨h,ly,h1,g2,g3,h4,h5⟩
  ·exact⟨h,ns,h1,off (by rw[h4];simp) q _ h2,h3,h4,h5⟩
 refine⟨s.len,λj y d e=>?_,λj d e=>?_,hN,λj c hc=>?_,s.iI,s.jE,i.kp,i.eZ,λj y d e=>by
  obtain⟨v,h1,h2,h3⟩:=s.shl j y d e;refine⟨v,h1,h2.map (λc hc o eo=>off hc (LU hc (by rw[e];rfl)) o eo) (λds vs r=>?_),h3⟩
  have g:ai P w (λc=>eD C (Wn own) (yk true) c\/H1 c=none) H1 ds vs:=ai.grow (λc z=>z) r;refine ai.aO (λc z=>.inl z) (g.keep (n.k.mono λc z=>z.imp (λz=>?_) id));exact .inl (.inl (bF c z))⟩
 ·obtain⟨v,h1,h2⟩:=s.val j y d e;have g:az P w (λc=>eD C (Wn own) (yk y) c\/H1 c=none) H1 d v:=az.grow (λc z=>z) h2;refine⟨v,h1,az.aO (λc z=>.inl z) (g.keep (n.k.mono λc z=>z.imp (λz=>?_) id))⟩;cases y with
  |true=>exact .inl (.inl (bF c z))
  |false=>exact .inl (bF c z)
 ·obtain⟨v,h1,h2,h3⟩:=s.ow j d e;exact⟨v,h1,h2.keep n.k.tup (λc hc o eo=>off hc (LU hc (by rw[e];rfl)) o eo),h3⟩
 ·obtain⟨g1,g2,g3,g4⟩:=s.dm j c hc
  by_cases q:Wn (bG lk β own) c
  ·obtain⟨i',nY⟩:=q;obtain⟨j',q1,q2,q3⟩:=cE nY;have:=s.iI j j' c hc q3;subst this;cases e:β[j]? with
   |none=>rw[e]at q2;cases q2
   |some b =>
    rw[e]at q2;cases b with
    |none=>cases q2
    |some b =>
     cases b with
     |val y d=>cases q2
     |own d=>cases q2
     |shl y d=>cases q2
     |hand ok =>
      obtain⟨h,ns,k1,k2,k3,k4,k5⟩:=hN j ok e;rw[k4]at hc;rw[VD.mp hc]at g3 g4 ⊢
      rw[k2];exact⟨λz=>(nomatch z),λxs z=>(by cases z),g3,g4⟩
  ·cases e:H1 c with
   |none=>exact absurd e g1
   |some o=>rw[off hc q o e];exact⟨λz=>(nomatch z),λxs z=>g2 xs (by rw[e];exact z),g3,g4⟩
end
def Km:aP:=λβ R=>R true β
theorem zS {X:Cx}{C:Cfg}:qN X [] (iN X C true Km):=Dr.pre λσ H Q ⟨β,own,s,q⟩=>q H own (Out.refl s _)
theorem zR {X:Cx}{C:Cfg}{p:Bool}{c:Expr}{τ:aP}(h:u_ X C p c τ):qN X [c] (iN X C p τ):=Dq h.pt
def oI (γ:cF)(τ:aP)(φ:aE)(ds:List D)(k:Kd)(β0:aJ)(K:List D->Prop):Prop:=∃I:Nat->aJ->List D->Prop,I 0 β0 [] /\
 (∀i d β o,ds[i]?=some d->I i β o->γ d (sk k d) β λβ1=>τ β1 λt β2=>if t=true then φ β2 λx kx β3=>Es kx x/\o.length<VH/\I (i+1) β3 (o++[x]) else I (i+1) β2 o)/\∀β o,I ds.length β o->fC β0 β/\K o
theorem oI.mono {γ:cF}{τ:aP}{φ:aE}{ds:List D}{k:Kd}{β0:aJ}{K K':List D->Prop}(h:∀o,K o->K' o)(q:oI γ τ φ ds k β0 K):oI γ τ φ ds k β0 K':=let ⟨I,h0,h1,h2⟩:=q;⟨I,h0,h1,λβ o z=>⟨(h2 β o z).1,h _ (h2 β o z).2⟩⟩
section
variable {X:Cx}{C:Cfg}{lk:List (Option Nat)}{γ:cF}{τ:aP}{φ:aE}{T:List Nat}{pc pe:Bool}
theorem o_ {σ:St}{H1:Hp}{β:aJ}{own:Nat->List Addr}{a:Addr}{J:It}{ds:List D}{k:Kd}{K:List D->Prop}{End:Hp->Prop}
  (γm:∀d k β R R',(∀r,R r->R' r)->γ d k β R->γ d k β R') (τm:∀β R R',(∀d β,R d β->R' d β)->τ β R->τ β R') (φm:∀β R R',(∀d k β,R d k β->R' d k β)->φ β R->φ β R')
  (inj:∀(i i' j:Nat),lk[i]?=some (some j)->lk[i']?=some (some j)->i=i') (hT:∀i∈T,∀j,lk[i]?≠some (some j))
  (s1:SQ X C σ H1 β own) (ha:H1 a=none) {hp:Bool} (TU:hp=true->(pc&&pe)=true) (hk:hold k hp) (it:vb X (av C (Wn own) k) J ds H1) (q:oI γ τ φ ds k (cG lk β) K)
  (fin:∀o H',K o->Out X C σ H1 own (pc&&pe) β H' own->KV X.prog X.w C (H1,Wn own) own H' .own (.lst o) (.ref a)->End H') :
  eM J (λv σ H Q=>∃own β d k,SQ X (C.u λc=>c=a) σ H β own/\Rp X (eD (C.u λc=>c=a) (Wn own) k) H d v/\γ d k β λβ'=>∀σ' aL,SQ X (C.u λc=>c=a) σ' H β' aL->(∀a,Wn aL a->Wn own a)->(∀j,j∉T->σ'[j]?=σ[j]?)->Q σ' H)
   (iN X (C.u λc=>c=a) pc τ) (λN σ H=>tQ X (C.u λc=>c=a) pe φ σ H λv H1=>∃xs,H1 a=some (.lst xs)/\xs.length<VH/\N σ (upd H1 a (.lst (xs++[v]))))
   (λ_ H'=>End H') (de lk σ) (upd H1 a (.lst [])):=by
 obtain⟨I,i0,i1,i2⟩:=q;have h0:C.H0 a=none:=VS λz=>s1.eZ a z ha;have sm:ay H1 (upd H1 a (.lst [])):=ay.new ha;have Lv:∀c,Wn (bG lk β own) c->c≠a:=λc z e=>by
  obtain⟨j,hj⟩:=bF c z;exact(s1.dm j c hj).1 (by rw[e];exact ha)
 let S:Nat->St->Hp->Prop:=λi σ' H'=>∃βi bS vs o A,SQ X (C.u λc=>c=a) σ' H' βi bS/\Sn (H1,Wn (bG lk β own)) H' (Wn bS)/\(∀c,Wn bS c->Wn (bG lk β own) c)/\H' a=some (.lst vs)/\aF X.prog X.w H' o vs A/\A.Nodup/\(∀c∈A,H1 c=none/\c≠a) /\
  ((pc&&pe)=true->ay H1 H')/\(∀j,j∉T->σ'[j]?=(de lk σ)[j]?)/\I i βi o
 have W':Addr->Prop:=λb=>av C (Wn own) k b\/H1 b=none;have F0:=it (λb=>av C (Wn own) k b\/H1 b=none) λb z=>z;have kI:∀{H':Hp} {bS:Nat->List Addr},Sn (H1,Wn (bG lk β own)) H' (Wn bS)->((pc&&pe)=true->ay H1 H')->Kp (λb=>av C (Wn own) k b\/H1 b=none) H1 H':=λn pu=>by
  cases k with
  |own=>exact n.k.mono λb z=>z.imp (λz=>.inl (bF b z)) id
  |d9=>exact n.k.mono λb z=>z.imp (λz=>.inl (bF b z)) id
  |old=>exact n.k.mono λb z=>z.imp (bF b) id
  |bor =>
   cases hp with
   |false=>exact hk.elim
   |true=>exact(pu (TU rfl)).kp.mono λb z=>.inr z
 refine⟨λi m σ' H'=>i<=ds.length/\m=ds.length-i/\S i σ' H',⟨_,VX _,rfl,cG lk β,bG lk β own,[],[],[],s1.enter ha inj,⟨λb z=>.inl z,sm.kp,λb z e=>z (sm.free e)⟩,λ_ z=>z,ao,⟨rfl,rfl⟩,Wg,λc hc=>(nomatch hc),λ_=>sm,λ_ _=>rfl,i0⟩,?_⟩;rintro i m σ2 H2 ⟨hi,rfl,βi,bS,vs,o,A,sq,sn,le,Jb,os,nd,nw,pu,st,hl⟩;obtain⟨bJ,fK⟩:=F0 i H2 (kI sn pu)
 by_cases jm:i<ds.length
 ·right
  have hd:ds[i]?=some ds[i]:=VC jm;obtain⟨go,yl⟩:=bJ _ hd;refine⟨go,λσ' H'=>S (i+1) σ' H',λσ' H' h=>⟨_,by omega,jm,rfl,h⟩,λx H3 y=>?_⟩
  obtain⟨s3,r3⟩:=yl x H3 y;have QT:∀{bS:Nat->List Addr},(∀c,Wn bS c->Wn (bG lk β own) c)->∀c,eD (C.u λc=>c=a) (Wn bS) k c->av C (Wn own) k c\/H1 c=none:=λle c z=>z.elim (λz=>.inl (gy (λc z=>bF c (le c z)) k c z)) λz=>.inr (by rw[z];exact ha)
  refine⟨bS,βi,_,_,sq.same s3,mj (az.aO (QT le) r3),γm _ _ _ _ _ (λβ4 q σ4 mK s4 w4 t4=>?_) (i1 i _ βi o hd hl)⟩;have Ih:∀c,Wn mK c->Wn (bG lk β own) c:=λc z=>le c (w4 c z);refine⟨β4,mK,s4,τm _ _ _ (λt β5 q H5 iC o5=>?_) q⟩;have Ed:∀c,Wn iC c->Wn (bG lk β own) c:=λc z=>Ih c (o5.le c z);have mU:∀c,c∈a::A->∀oc,H2 c=some oc->H5 c=some oc:=λc hc oc e=>by
   refine o5.sn.k.out c oc (s3 c oc e) λz=>?_;rcases z with z|z
   ·rcases VB.mp hc with rfl|hc
    ·exact Lv _ (Ih _ z) rfl
    ·obtain⟨j,hj⟩:=bF c (Ih c z);exact(s1.dm j c hj).1 (nw c hc).1
   ·exact absurd ((s3 c oc e).symm.trans z) (λz=>(nomatch z))
  have Pd:∀b xs,H2 b=some (.tup xs)->H5 b=some (.tup xs):=λb xs e=>o5.sn.k.tup b xs (s3 b _ e);have Hz:aF X.prog X.w H5 o vs A:=os.keep Pd λc hc oc e=>mU c (by simp[hc]) oc e
  have GL:Sn (H1,Wn (bG lk β own)) H5 (Wn iC):=(hG (sn.same s3) w4).trans o5.sn;have K2:(pc&&pe)=true->ay H1 H5:=λz=>((pu z).trans s3).trans (o5.pu (Fp z)).1;have GI:∀j,j∉T->σ4[j]?=(de lk σ)[j]?:=λj hj=>(t4 j hj).trans (st j hj);cases t with
  |false=>exact⟨β5,iC,vs,o,A,o5.sq,GL,Ed,mU a (by simp) _ Jb,Hz,nd,nw,K2,GI,q⟩
  |true =>
   refine⟨β5,iC,o5.sq,φm _ _ _ (λxd kx β6 gn v H6 rP o6 r6=>?_) q⟩;obtain⟨f,hz,q⟩:=gn;obtain⟨B',r1,r2,GZ⟩:=r6.fl f;have BF:H5 a=some (.lst vs):=mU a (by simp) _ Jb
   have r_:∀c,c∈a::A->∀oc,H5 c=some oc->H6 c=some oc:=λc hc oc e=>by
    refine o6.sn.k.out c oc e λz=>?_;rcases z with z|z
    ·rcases VB.mp hc with rfl|hc
     ·exact Lv _ (Ed _ z) rfl
     ·obtain⟨j,hj⟩:=bF c (Ed c z);exact(s1.dm j c hj).1 (nw c hc).1
    ·exact absurd (e.symm.trans z) (λz=>(nomatch z))
   have kP:H6 a=some (.lst vs):=r_ a (by simp) _ BF
   have K7:aF X.prog X.w H6 o vs A:=Hz.keep o6.sn.k.tup λc hc oc e=>r_ c (by simp[hc]) oc e
   have O8:∀c∈A,c≠a:=λc hc=>(nw c hc).2;have FU:∀c∈B',c≠a:=λc hc z=>by rw[z]at hc;exact absurd (BF.symm.trans (GZ a hc).1) (λz=>(nomatch z))
   have kt:∀b xs,H6 b=some (.tup xs)->upd H6 a (.lst (vs++[v])) b=some (.tup xs):=λb xs z=>by rw[ar (λz'=>by rw[z',kP]at z;cases z)];exact z
   refine⟨vs,kP,by rw[K7.length];exact hz,β6,rP,vs++[v],o++[xd],A++B',o6.sq.Dd kP (λxs z=>by cases z) h0,?_,λc z=>Ed c (o6.le c z),ao,?_,?_,λc hc=>?_,λz=>?_,GI,q⟩
   ·have m:=GL.trans o6.sn;refine⟨m.w,m.k.trans ((jg kP (λxs z=>by cases z)).mono λb z=>.inr (by rw[z];exact ha)),λb z e=>?_⟩
    by_cases hb:b=a
    ·rw[hb,ao]at e;cases e
    ·rw[ar hb]at e;exact m.d b z e
   ·exact(K7.keep kt λc hc oc e=>by rw[ar (O8 c hc)];exact e).append (aF.one (r1.keep kt λc hc oc e=>by rw[ar (FU c hc)];exact e))
   ·refine Wk.mpr ⟨nd,r2,λx hx y hy e=>?_⟩;subst e;have:=(GZ x hy).1;exact(Hz.ny x hx).1 this
   ·rcases VL.mp hc with hc|hc
    ·exact nw c hc
    ·exact⟨GL.free (GZ c hc).1,FU c hc⟩
   ·refine λb ob e=>?_;rw[ar (λz'=>by rw[z',ha]at e;cases e)]
    exact(o6.pu (Na z)).1 b ob (K2 z b ob e)
 ·left
  have e:i=ds.length:=by omega
  subst e;obtain⟨hh,q⟩:=i2 βi o hl;have lv:SQ X C σ H2 β own:=s1.leave sq sn le hh λj ok i' e1 e2=>st i' λz=>hT i' z j e2;refine⟨fK (VA _),fin o H2 q ⟨lv,⟨λb z=>.inl z,sn.k.mono λb z=>z.imp (bF b) id,sn.d⟩,λz=>⟨pu z,rfl⟩,λ_ z=>z⟩ ⟨a::A,⟨a,vs,A,rfl,Jb,rfl,os⟩,VZ.mpr ⟨λz=>(nw a z).2 rfl,nd⟩,λc hc=>?_⟩⟩;have nZ:H1 c=none:=by
   rcases VB.mp hc with rfl|hc
   ·exact ha
   ·exact(nw c hc).1
  exact⟨nZ,λBr=>by obtain⟨j,hj⟩:=Br;exact(s1.dm j c hj).1 nZ,VS λz=>s1.eZ c z nZ⟩
theorem bq {scope:Xw}{N':List Str}(L:Links X scope N' lk)(hN:N'.Nodup):∀(i i' j:Nat),lk[i]?=some (some j)->lk[i']?=some (some j)->i=i':=λi i' j h1 h2=>by
 obtain⟨x,a1,a2,_⟩:=L.link i j h1;obtain⟨y,b1,b2,_⟩:=L.link i' j h2;rw[a2]at b2;cases b2;exact(List.getElem?_inj (VN.mp a1).1 hN).mp (a1.trans b1.symm)
def vz (lk:List (Option Nat))(ι:bW)(γ:cF)(τ:aP)(φ:aE):aE:=λβ R=>ι β λds k β1=>hold k false/\oI γ τ φ ds k (cG lk β1) λo=>R (.lst o) .own β1
variable {scope:Xw}{N':List Str}{tg bJ elt:Expr}{ifs:List Expr}{ι:bW}{pi:Bool}{pos pos' mh:Pos}{y:Str}{i:Nat}
theorem K4 (L:Links X scope N' lk)(lb:N'.Nodup)(hT:T.all (λi=>match lk[i]? with|some (some _)=>false|_=>true)=true)(hc:X.calm=true)(hi:tR X C pi tg bJ ι)
  (jK:∀a cl c s H ex,qH (aq X scope N' cl c s H ex) (C.u λc=>c=a) tg T γ) (iR:∀a cl c s H ex,qN (aq X scope N' cl c s H ex) ifs (iN (aq X scope N' cl c s H ex) (C.u λc=>c=a) pc τ)) (τm:∀β R R',(∀d β,R d β->R' d β)->τ β R->τ β R')
  (fb:∀a cl c s H ex,PQ (aq X scope N' cl c s H ex) (C.u λc=>c=a) pe elt φ) (γm:∀d k β R R',(∀r,R r->R' r)->γ d k β R->γ d k β R') (φm:∀β R R',(∀d k β,R d k β->R' d k β)->φ β R->φ β R')
  (hs:∀x,V4 bJ X.env x=pure x:=by intro _;rfl):PQ X C (pi&&(pc&&pe)) (.ListComp elt [⟨tg,bJ,ifs,0⟩] scope pos) (vz lk ι γ τ φ):=by
 have uM:∀i∈T,∀j,lk[i]?≠some (some j):=λi hi j e=>by
  have:=WM.mp hT i hi;rw[e]at this;cases this
 refine⟨λβ R R' k h=>hi.mono β _ _ (λds kd β1 q=>⟨q.1,q.2.mono λo z=>k _ _ _ z⟩) h,?_⟩;refine(gU (g:=⟨tg,bJ,ifs,0⟩) (gs:=[]) (tg:=λa v σ H Q=>∃own β d k,SQ X (C.u λc=>c=a) σ H β own/\Rp X (eD (C.u λc=>c=a) (Wn own) k) H d v/\γ d k β λβ'=>∀σ' aL,SQ X (C.u λc=>c=a) σ' H β' aL->(∀a,Wn aL a->Wn own a)->(∀j,j∉T->σ'[j]?=σ[j]?)->Q σ' H)
  (tt:=λa=>iN X (C.u λc=>c=a) pc τ) (ta:=λa N σ H=>tQ X (C.u λc=>c=a) pe φ σ H λv H1=>∃xs,H1 a=some (.lst xs)/\xs.length<VH/\N σ (upd H1 a (.lst (xs++[v]))))
  L hc gY rfl rfl (λ_ _=>Cn) hi.pi (λa cl c s H ex=>⟨(jK a cl c s H ex).pg,iR a cl c s H ex,gX rfl (fb a cl c s H ex).pe⟩) hs).pre λσ H Q ⟨β,own,s,h⟩=>?_
 refine⟨β,own,s,hi.mono β _ _ (λds k β1 jJ J H1 aw o1 it a ha=>?_) h⟩;obtain⟨hk,q⟩:=jJ;exact o_ γm τm φm (bq L lb) uM o1.sq ha (hp:=false) (λz=>by cases z) hk it q λo H' q o2 r=>q _ _ aw (o1.trans o2) (r.later o1.sn)
theorem K3 {K:D->aJ->cz->Prop}(L:Links X scope N' lk)(lb:N'.Nodup)(hT:T.all (λi=>match lk[i]? with|some (some _)=>false|_=>true)=true)(hc:X.calm=true)(hi:∀U,tR X (C.u U) pi tg bJ ι)
  (jK:∀U cl c s H ex,qH (aq X scope N' cl c s H ex) (C.u U) tg T γ) (iR:∀U cl c s H ex,qN (aq X scope N' cl c s H ex) ifs (iN (aq X scope N' cl c s H ex) (C.u U) pc τ)) (τm:∀β R R',(∀d β,R d β->R' d β)->τ β R->τ β R')
  (fb:∀U cl c s H ex,PQ (aq X scope N' cl c s H ex) (C.u U) pe elt φ) (γm:∀d k β R R',(∀r,R r->R' r)->γ d k β R->γ d k β R') (φm:∀β R R',(∀d k β,R d k β->R' d k β)->φ β R->φ β R') (o:Bool)
  (hN:X.N.Nodup) (hy:X.N[i]?=some y:=by rfl) (hx:Loc X.env.scope y:=by first|exact .inl rfl|exact .inr rfl) (hf:X.fn y=true\/X.env.scope.names.lookup y=some .local:=by first|exact .inl rfl|exact .inr rfl|assumption)
  (oR:WU (.ListComp elt [⟨tg,bJ,ifs,0⟩] scope pos) (some (.Name y pos')) mh.line X.env=pure true:=by rfl)
  (BD:ZJ (.ListComp elt [⟨tg,bJ,ifs,0⟩] scope pos) X.env (assign (.Name y pos') X.env)=(do let _ <- comprehension (.ListComp elt [⟨tg,bJ,ifs,0⟩] scope pos) scope X.env (firstIterPos [⟨tg,bJ,ifs,0⟩] pos) (newList []) false (eval bJ X.env) (some (assign (.Name y pos') X.env));pure ()):=by first|rfl|exact YB ..)
  (hs:∀x,V4 bJ X.env x=pure x:=by intro _;rfl) :
  PB X C (.Assign [.Name y pos'] (.ListComp elt [⟨tg,bJ,ifs,0⟩] scope pos) mh) (λE β=>vz lk ι γ τ φ β λd _ β'=>E.nx (β'.set i (some (match o with|true=>.own d|false=>.val true d)))):=by
 have uM:∀i∈T,∀j,lk[i]?≠some (some j):=λi hi j e=>by
  have:=WM.mp hT i hi;rw[e]at this;cases this
 refine⟨λE E' β l h=>(hi λ_=>False).mono β _ _ (λds kd β1 q=>⟨q.1,q.2.mono λo z=>l.nx _ z⟩) h,λpins s σ H D I0 qm=>?_⟩;obtain⟨Z,E,β,⟨own,sq,n⟩,h,ok⟩:=qm;refine rF (g:=⟨tg,bJ,ifs,0⟩) (gs:=[]) (tg:=λa v σ H Q=>∃own β d k,SQ X (C.u λc=>c=a) σ H β own/\Rp X (eD (C.u λc=>c=a) (Wn own) k) H d v/\γ d k β λβ'=>∀σ' aL,SQ X (C.u λc=>c=a) σ' H β' aL->(∀a,Wn aL a->Wn own a)->(∀j,j∉T->σ'[j]?=σ[j]?)->Q σ' H)
  (tt:=λa=>iN X (C.u λc=>c=a) pc τ) (ta:=λa N σ H=>tQ X (C.u λc=>c=a) pe φ σ H λv H1=>∃xs,H1 a=some (.lst xs)/\xs.length<VH/\N σ (upd H1 a (.lst (xs++[v]))))
  L hc gY oR BD rfl hN hy hx hf (λ_ _=>Cn) (hi λa=>H a=none).pi (λa cl c s H ex=>⟨(jK _ cl c s H ex).pg,iR _ cl c s H ex,gX rfl (fb _ cl c s H ex).pe⟩) hs pins s σ H D I0 ?_
 refine⟨β,own,sq.kZ (C:=C.z) (U:=λa=>H a=none) λa z=>z,(hi λ_=>False).mono β _ _ (λds k β1 Pp J H1 aw o1 it a ha=>?_) h⟩;obtain⟨hk,q⟩:=Pp;refine o_ (C:=C.u λa=>H a=none) γm τm φm (bq L lb) uM o1.sq ha (hp:=false) (λz=>by cases z) hk it q λol H' q o2 r=>?_
 have r':=r.later o1.sn;have oo:=o1.trans o2;have m:=n.trans oo.sn;cases o with
 |false=>exact ok.nx _ _ _ ⟨_,(bz.RH oo.sq).fE (az.aO (λa z=>z.elim id λz=>z.elim) (KV.rep r')),kg m⟩ q
 |true =>
  obtain⟨A,h1,h2,h3⟩:=r';refine ok.nx _ _ _ ⟨_,oo.sq.pS h1 h2 λc hc=>⟨(h3 c hc).2.2,(h3 c hc).2.1,(h3 c hc).1⟩,?_⟩ q;exact⟨λb uK=>by
   obtain⟨j,hj⟩:=uK
   by_cases aD:i=j
   ·rw[<- aD,os_eq]at hj;exact .inr (n.free (h3 b hj).1)
   ·rw[a_ aD]at hj;exact m.w b ⟨j,hj⟩,m.k,m.d⟩
end
end L2.Q
namespace L2
open PySem PySem.Spec PySem.SeqAt PyProof.Rows
section
end
theorem eP {lo:Int}{n i:Nat}{d:D}(h:(my lo n)[i]?=some d):i<n/\d=.int (lo+i):=by
 unfold my at h;rw[VJ]at h;have hi:i<n:=by
  by_cases hi:i<n
  ·exact hi
  ·rw[WE (by simpa using hi)]at h;cases h
 rw[Wz hi]at h;cases h;exact⟨hi,rfl⟩
theorem fS {lo:Int}{n:Nat}:(my lo n).length=n:=by unfold my;simp
section
end
structure Df (K:PySem.W.Frag)(mg:Str->Option Vv)(x:Str)(st:Stmt)(ps:List Str)(f:Addr)(fd:VW):Prop where
 F:wO K x x st f fd
 b:Binds K fd ps []
 m:mg x=some (.ref f)
structure Bs (mg:Str->Option Vv):Prop where
 max:mg "max" = none
 min:mg "min" = none
 int:mg "int" = none
 range:mg "range" = none
 sorted:mg "sorted" = none
 set:mg "set" = none
 len:mg "len" = none
 list:mg "list" = none
theorem JC:Wq "set" = some (.type "set"):=by decide +kernel
theorem cS.lH {k:Nat}{A:Wv}(r:cS k A):A.units+64+1<XQ:=by have:=r.un;lia
theorem BO (ts:List (List Int)):D.dg (ts.map kD)=true:=by
 have fi:∀k:List Int,D.dg (k.map D.int)=true:=λk=>by
  induction k with
  |nil=>rfl
  |cons i k ih=>show (D.flat (.int i)&&D.dg (k.map D.int))=true;rw[ih];rfl
 induction ts with
 |nil=>rfl
 |cons t ts ih =>
  show (D.flat (kD t)&&D.dg (ts.map kD))=true;rw[ih];show (D.dg (t.map D.int)&&true)=true;rw[fi];rfl
theorem pP {fs:List (List Int)}{t:List Int}:(fs++[t]).map kD=fs.map kD++[kD t]:=by simp
theorem q_ {fs:List Int}{t:Int}:(fs++[t]).map D.int=fs.map D.int++[D.int t]:=by simp
theorem jt {a b:D}:[a,b].length<=VH:=by show 2<=VH;decide
theorem CK {a:D}:[a].length<=VH:=by show 1<=VH;decide
theorem lB {b:Bool}{p q:Prop}(hb:b=true)(h:p):(if b=true then p else q):=by rw[if_pos hb];exact h
theorem jI {b:Bool}{p q:Prop}(hb:b=false)(h:q):(if b=true then p else q):=by rw[hb,if_neg (by simp)];exact h
theorem tO {c:Prop}[Decidable c]{p q:Prop}(h1:c->p)(h2:¬ c->q):(if decide c=true then p else q):=by
 by_cases h:c
 ·exact lB (by simp[h]) (h1 h)
 ·exact jI (by simp[h]) (h2 h)
theorem qa {α:Type}(f:α->D):∀l:List α,D.jl (l.map f)=l.map λa=>(f a).pd
 |[]=>rfl
 |a::l=>by
  show (f a).pd::D.jl (l.map f)=_;rw[qa f l];rfl
theorem kT {n:Nat}:∀{xs:List PyData},(∀x∈xs,x.canLay0=true/\x.depth<=n)->XB xs=true/\WK xs<=n
 |[],_=>⟨by simp[XB],by simp[WK]⟩
 |x::xs,h=>by
  obtain⟨h1,h2⟩:=kT (n:=n) (xs:=xs) λy hy=>h y (by simp[hy])
  obtain⟨g1,g2⟩:=h x (by simp)
  refine⟨by simp[XB,h1,g1],?_⟩
  simp only[WK];lia
theorem xf {n:Nat}{ds:List D}(h:∀d∈ds,d.pd.canLay0=true/\d.pd.depth<=n):(D.tup ds).pd.canLay0=true/\(D.tup ds).pd.depth<=n+1:=by
 have e:D.jl ds=ds.map λd=>d.pd:=by
  have:=qa (λd:D=>d) ds;simpa using this
 obtain⟨h1,h2⟩:=kT (n:=n) (xs:=D.jl ds) λx hx=>by
  rw[e]at hx;obtain⟨d,hd,rfl⟩:=V6.mp hx;exact h d hd
 refine⟨by simpa[D.pd,WI] using h1,?_⟩
 have:(D.tup ds).pd.depth=WK (D.jl ds)+1:=by simp[D.pd,XI]
 lia
theorem hV {n:Nat}{ds:List D}(h:∀d∈ds,d.pd.canLay0=true/\d.pd.depth<=n):(D.lst ds).pd.canLay0=true/\(D.lst ds).pd.depth<=n+1:=by
 have e:D.jl ds=ds.map λd=>d.pd:=by
  have:=qa (λd:D=>d) ds;simpa using this
 obtain⟨h1,h2⟩:=kT (n:=n) (xs:=D.jl ds) λx hx=>by
  rw[e]at hx;obtain⟨d,hd,rfl⟩:=V6.mp hx;exact h d hd
 refine⟨by simpa[D.pd,WI] using h1,?_⟩
 have:(D.lst ds).pd.depth=WK (D.jl ds)+1:=by simp[D.pd,XI]
 lia
theorem fO (i:Int):(D.int i).pd.canLay0=true/\(D.int i).pd.depth<=1:=⟨by simp[D.pd,WI],by simp[D.pd,XI]⟩
theorem rf (b:Bool):(D.bl b).pd.canLay0=true/\(D.bl b).pd.depth<=1:=⟨by simp[D.pd,WI],by simp[D.pd,XI]⟩
theorem rd (t:List Int):(kD t).pd.canLay0=true/\(kD t).pd.depth<=2:=xf λd hd=>by
 obtain⟨i,_,rfl⟩:=V6.mp hd;exact fO i
theorem t_ (ts:List (List Int)):(D.lst (ts.map kD)).pd.canLay0=true/\(D.lst (ts.map kD)).pd.depth<=3:=hV λd hd=>by
 obtain⟨i,_,rfl⟩:=V6.mp hd;exact rd i
theorem mi (ts:List Int):(D.lst (ts.map D.int)).pd.canLay0=true/\(D.lst (ts.map D.int)).pd.depth<=2:=hV λd hd=>by
 obtain⟨i,_,rfl⟩:=V6.mp hd;exact fO i
theorem ki {d:D}{n:Nat}(h:d.pd.canLay0=true/\d.pd.depth<=n)(hn:n<=64:=by decide):d.ua=true:=by
 show (d.pd.canLay0&&decide (d.pd.depth<=64))=true;rw[h.1,decide_eq_true (by lia)]
 rfl
theorem wu (i j:Int):Xd (D.int i).pd (D.int j).pd=decide (i=j):=by
 simp only[D.pd,Xd]
 by_cases h:i=j <;> simp[h]
theorem Jt {a b:D}{c:Bool}(h1:a.ua=true)(h2:b.ua=true)(e:Xd a.pd b.pd=c):N0 a b=some (.bl c):=by
 unfold N0;rw[if_pos ⟨h1,h2⟩,e]
theorem Jp {a b:D}{c:Bool}(h1:a.ua=true)(h2:b.ua=true)(e:Xd a.pd b.pd=c):NY a b=some (.bl (!c)):=by
 unfold NY;rw[if_pos ⟨h1,h2⟩,e]
theorem b7 (i j:Int):N0 (.int i) (.int j)=some (.bl (decide (i=j))):=Jt (ki (fO i)) (ki (fO j)) (wu i j)
theorem any_map {α:Type}[DecidableEq α]{f:α->D}(hf:∀a b,Xd (f a).pd (f b).pd=decide (a=b))(t:α):∀xs:List α,((D.jl (xs.map f)).any λy=>Xd y (f t).pd)=decide (t∈xs)
 |[]=>rfl
 |x::xs=>by
  show (Xd (f x).pd (f t).pd || (D.jl (xs.map f)).any λy=>Xd y (f t).pd)=_
  rw[any_map hf t xs,hf]
  by_cases h:x=t
  ·simp[h]
  ·have h':¬ t=x:=λz=>h z.symm;simp[h,h']
theorem wC (i:Int)(t:List Int):Js (.int i) (kD t)=some (decide (i∈t)):=by
 show (if (D.int i).ua=true/\(D.tup (t.map D.int)).ua=true then some _ else none)=_
 rw[if_pos ⟨ki (fO i),ki (rd t)⟩,any_map wu]
theorem uY (i:Int)(t:List Int):QR (.int i) (kD t)=some (.bl (decide (i∈t))):=by unfold QR;rw[wC];rfl
theorem yp (i:Int)(t:List Int):uX (.int i) (kD t)=some (.bl (!decide (i∈t))):=by unfold uX;rw[wC];rfl
theorem Sg {α:Type}{ds:List α}{i:Nat}{d:α}(h:ds[i]?=some d):qM ds (i:Int)=some d:=by
 have hl:i<ds.length:=(VN.mp h).1;unfold qM yb;rw[if_pos (by lia),if_pos (by lia),X5]
 exact h
theorem JI {α:Type}{ds:List α}{i:Int}(h0:0<=i)(h1:i<ds.length):∃d∈ds,qM ds i=some d/\ds[i.toNat]?=some d:=by
 have hl:i.toNat<ds.length:=by lia
 refine⟨ds[i.toNat],WC hl,?_,VC hl⟩;have:=Sg (ds:=ds) (i:=i.toNat) (VC hl)
 rwa [show ((i.toNat:Nat):Int)=i by lia]at this
theorem Fb {ds:List D}{i:Nat}{d:D}(h:ds[i]?=some d):yW (.lst ds) (.int (i:Int))=some d:=Sg h
theorem pick {ds:List D}{r:Int}{p:D->Prop}(h0:0<=r)(h1:r<ds.length)(h:∀d∈ds,p d):∃d,yW (.lst ds) (.int r)=some d/\p d:=by
 obtain⟨d,hd,e,_⟩:=JI h0 h1;exact⟨d,e,h d hd⟩
theorem B9 {i j:Int}:wB [.int i,.int j]=some (.int (if j<i then j else i)):=by
 first|rfl|(simp[wB])
end L2
namespace HT
open PySem PySem.Spec PyProof.Rows
theorem jP {α β:Type}{f g:α->Option β}:∀{l:List α},(∀x∈l,f x=g x)->l.filterMap f=l.filterMap g
 |[],_=>rfl
 |x::l,h=>by
  rw[We,We,h x (by simp),jP λy hy=>h y (by simp[hy])]
theorem rq {α:Type}(xs:List α):((VF xs.length).filterMap λk=>xs[xs.length-1-k]?)=xs.reverse:=by
 have h:=pick_run xs.reverse.toArray 0 xs.length;rw[List.filterMap_map]at h;have e:((VF xs.length).filterMap λk=>xs[xs.length-1-k]?)=(VF xs.length).filterMap ((λx=>xs.reverse.toArray[x]?) ∘ λx=>0+x):=by
  refine jP λk hk=>?_;have EK:=Wl.mp hk;show _=xs.reverse.toArray[0+k]?;rw[List.getElem?_toArray,Yl,List.getElem?_reverse EK]
 rw[e,h];simp only[List.drop_zero];exact WS (by simp)
theorem iP (items:Array Vv):slicePick items none none (some (-1))=items.toList.reverse.toArray:=by
 have e:(sliceRange (Xp none none (some (-1)) items.size).1 (Xp none none (some (-1)) items.size).2.1 (Xp none none (some (-1)) items.size).2.2)=(VF items.size).map λk=>items.size-1-k:=by
  show sliceRange ((items.size:Int)-1) (-1) (-1)=_;unfold sliceRange;have c:(if (-1:Int)>0 then (if (items.size:Int)-1 < -1 then ((-1)-((items.size:Int)-1)+-1-1) / -1 else 0) else (if (items.size:Int)-1 > -1 then ((items.size:Int)-1-(-1)-(-1)-1) / (-(-1)) else 0)).toNat=items.size:=by
   rw[if_neg (by lia)]
   split
   ·rw[show (-(-1):Int)=1 by rfl,Int.ediv_one];lia
   ·lia
  simp only[c];refine W3 λk hk=>?_;have:=Wl.mp hk;lia
 unfold slicePick;rw[e,List.filterMap_map]
 congr 1
 have:=rq items.toList;rw[VP]at this;rw[<- this];refine jP λk hk=>?_;show items[items.size-1-k]?=_;rw[Wm]
section
variable {prog:Vz}{w:VG}{A:Wv}{E:Vv->Vw->Prop}{s:Vw}
theorem kh {sl:Addr}{n:Nat}{t:Tok}{Q:Int×Int×Nat->Vw->Prop}(hs:s.heap.IsSliceOf sl .none .none (.int (-1) t))
  (h:Q ((n:Int)-1,-1,n) s):VU (model prog w) A (Builtin.Slice.sliceApplied (.ref sl) (pure (n:Int))) Q E s:=by
 obtain⟨os,ME,I9,F7⟩:=id hs;unfold Builtin.Slice.sliceApplied Builtin.Slice.sliceFields;refine Vu (Vu (wpAny_field ME F7 (x:=.none) rfl (Vu (wpAny_field ME F7 (x:=.none) rfl (Vu (wpAny_field ME F7 (x:=.int (-1) t) rfl (Vy ?_)))))));refine Vu (slicePart_int ?_);show VU _ _ (if ((-1:Int)==0)=true then _ else _) _ _ s
 rw[if_neg (by decide)]
 refine Vu (slicePart_none (Vu (slicePart_none (Vu (Vy ?_)))));show VU _ _ (match Ys none none (-1) (n:Int)with|(lo,hi)=>pure (lo,(-1:Int),XO lo hi (-1))) _ _ s
 have e1:Ys none none (-1) (n:Int)=((n:Int)-1,-1):=by
  unfold Ys;simp
 rw[e1];show VU _ _ (pure ((n:Int)-1,(-1:Int),XO ((n:Int)-1) (-1) (-1))) _ _ s;have e2:XO ((n:Int)-1) (-1) (-1)=n:=by
  unfold XO;rw[if_neg (by lia)]
  split
  ·simp
  ·lia
 rw[e2];exact Vy h
theorem jN {t sl:Addr}{items:Array Vv}{tk:Tok}{Q:Vv->Vw->Prop}(ht:IsTup s.heap t items)(hs:s.heap.IsSliceOf sl .none .none (.int (-1) tk))
  (h:Q (.ref s.heap.objs.size) {s with heap:=s.heap.push {cls:=.type "tuple",data:=.seq items.toList.reverse.toArray}})
  (hsz:items.size<=VH):VU (model prog w) A (Y5 (.ref t) (.ref sl)) Q E s:=by
 have vZ:sizeOk (.seq items.toList.reverse.toArray):=by
  show items.toList.reverse.toArray.size<=VH;rw[VO,Yj,VP];exact hsz
 obtain⟨os,ME,I9,F7⟩:=id hs;have Uj:s.TypeIs (.ref sl) "slice" := ⟨os,ME,I9⟩;unfold Y5
 try with_reducible refine Wo ?_
 first|refine Vu (Vy ?_)|skip
 refine Vu (wpAny_sequenceKey ht.typeIs (by decide) ?_)
 refine Vu (YI (name:=Str.ofString "__getitem__") ht.typeIs X7
  (W6 X7 ht.typeIs entry_tuple_getitem ?_ (args_tuple_getitem _ _)))
 show VU _ _ (Builtin.Tuple.tupleItemsOf (.ref t) >>= _) _ _ s;refine Vu (tupleItemsOf_ ht ?_);refine Vu (wpAny_typeOf Uj ?_);rw[if_pos (by decide)]
 refine Vu (kh hs ?_);show VU _ _ (if (((items.size:Int)-1)==0&&(-1:Int)==1&&items.size==items.size)=true then _ else _) _ _ s
 rw[if_neg (by simp)]
 have ep:((VF items.size).filterMap λ(m:Nat)=>items[(((items.size:Int)-1)+(m:Int)*(-1)).toNat]?).toArray=items.toList.reverse.toArray:=by
  congr 1
  have:=rq items.toList;rw[VP]at this;rw[<- this];refine jP λk hk=>?_;have EK:=Wl.mp hk;rw[Wm,show (((items.size:Int)-1)+(k:Int)*(-1)).toNat=items.size-1-k by lia]
 rw[ep]
 first
  |exact Vu (m:=XU _) (WN (Vy ⟨_,rfl,Vy h⟩) vZ)
  |exact Vu (m:=XU _) (WN (Vu (Vy (Vy ⟨_,rfl,Vy h⟩))) vZ)
  |exact Vu (Vu (m:=XU _) (WN (Vy (Vy ⟨_,rfl,Vy h⟩)) vZ))
  |exact Vu (Vu (m:=XU _) (WN (Vy ⟨_,rfl,Vy h⟩) vZ))
end
end HT
namespace L2
open PySem PySem.Spec PySem.SeqAt PyProof.Rows
def QN:D->Option D
 |.lst ds=>some (.lst ds.reverse)
 |.tup ds=>some (.tup ds.reverse)
 |_=>none
theorem ai.rev {P:Vz}{w:VG}{W:Addr->Prop}{H:Hp}:∀{ds:List D} {vs:List V},ai P w W H ds vs->ai P w W H ds.reverse vs.reverse
 |[],_,h=>by rw[show _=[] from h];rfl
 |d::ds,_,⟨v,r,e,h1,h2⟩=>by
  subst e;rw[Yw,Yw];exact(ai.rev h2).append (.one h1)
theorem Vals.rev:∀{xs:List V} {us:List Vv},Vals xs us->Vals xs.reverse us.reverse
 |_,_,.nil=>.nil
 |_,_,.cons r t=>by
  rw[Yw,Yw];exact(Vals.rev t).append (.cons r .nil)
section
variable {X:Cx}{e:Expr}{pos p2 p3 p4:Pos}{j:Nat}
theorem Hj {te:TE}(he:PE X e te):PE X (.Subscript e (.Slice none none (some (.UnaryOp .USub (.Constant (.int 1) j p3) p4)) p2) pos) (λσ H Q=>te σ H λx H1=>(∃a xs,x=.ref a/\H1 a=some (.lst xs)/\∀p,H1 p=none->Q (.ref p) (upd H1 p (.lst xs.reverse)))\/(∃a xs,x=.ref a/\H1 a=some (.tup xs)/\∀p,H1 p=none->Q (.ref p) (upd H1 p (.tup xs.reverse)))):=by
 intro pins s σ H Q I h;refine Z5 (bt (he pins s σ H _ I h) λv s1 gn=>?_);obtain⟨x,H1,I1,r1,q1⟩:=gn;refine wpAny_Slice ?_;rw[Y_];refine Vy (Vy ?_);rw[evalPart_some];refine bt (Aa (X:=X) (pos:=p4) tZ (a9 (i:=1) (j:=j) (pos:=p3)) pins s1 σ H1 (λv H'=>v=.int (-1)/\H'=H1) I1 ⟨1,rfl,rfl,rfl⟩) λu s3 jJ=>?_;obtain⟨y,H3,I3,r3,ey,eH⟩:=jJ;subst ey eH;obtain⟨tk,rfl⟩:=(show ∃t,u=Value.int (-1) t from r3)
 have I4:Inv X pins σ H3 {s3 with heap:=s3.heap.push {cls:=.type "slice",data:=.fields #[.none,.none,.int (-1) tk]}}:=I3.kept (t':=s3.toks) λb ob q=>Vx _ q
 have CQ:(s3.heap.push {cls:=.type "slice",data:=.fields #[.none,.none,.int (-1) tk]}).IsSliceOf s3.heap.objs.size .none .none (.int (-1) tk):=Zh ..
 generalize Px:({s3 with heap:=s3.heap.push {cls:=.type "slice",data:=.fields #[.none,.none,.int (-1) tk]}}:Vw)=s4 at I4 ⊢
 have EE:s4.heap.IsSliceOf s3.heap.objs.size .none .none (.int (-1) tk):=by rw[<- Px];exact CQ
 have main:∃T id,typeLookup (.type T) "__getitem__" = pure (some (.builtin id))/\s4.TypeIs v T/\VU (model X.prog X.w) X.A (Y5 v (.ref s3.heap.objs.size)) (EP X pins σ Q) X.xe s4:=by
  rcases q1 with⟨a,xs,rfl,hx,q⟩|⟨a,xs,rfl,hx,q⟩
  ·cases (show v=Value.ref a from r1)
   obtain⟨its,r,ht,hz⟩:=I4.list (eE.of hx);have hlen:=r.length;refine⟨"list",_,Yu.lookup,ht.isList.typeIs,?_⟩;refine YA ht.isList EE .none .none (.int (-1) tk) (by simp) ?_ (by rw[VO] <;> lia)
   rw[HT.iP];refine⟨.ref s4.heap.objs.size,_,I4.laid (t':=s4.toks) (o:=.lst xs.reverse) (λb ob q=>Vx _ q) (VA _) ?_,rfl,q _ (I4.a6.fresh (VA _))⟩;exact⟨by rw[Yj];lia,_,0,by simpa using Vals.rev r,VT _ rfl⟩
  ·cases (show v=Value.ref a from r1)
   obtain⟨its,r,ht,hz⟩:=I4.tuple (lr.of hx);have hlen:=r.length;refine⟨"tuple",_,X7.lookup,ht.typeIs,?_⟩;refine HT.jN ht EE ?_ (by rw[VO] <;> lia)
   refine⟨.ref s4.heap.objs.size,_,I4.laid (t':=s4.toks) (o:=.tup xs.reverse) (λb ob q=>Vx _ q) (VA _) ?_,rfl,q _ (I4.a6.fresh (VA _))⟩;exact⟨by rw[Yj];lia,_,by simpa using Vals.rev r,IsTup.new _ _⟩
 obtain⟨T,id,hT,ht,hg⟩:=main;show VU (model X.prog X.w) X.A (Y9 e (.Slice none none (some (.UnaryOp .USub (.Constant (.int 1) j p3) p4)) p2) v (.ref s3.heap.objs.size)) (EP X pins σ Q) X.xe s4;exact ZX (ops:=[v,.ref s3.heap.objs.size]) ht hT hg (by with_unfolding_all rfl)
end
end L2
namespace L2.Q
open PySem PySem.Spec PySem.SeqAt PyProof.Rows
section
end
section
end
section
variable {P:Vz}{w:VG}{C:Cfg}{σ:St}{H:Hp}{β:aJ}{own:Nat->List Addr}{i:Nat}{ok:List Int->Prop}{ns:List Int}
theorem oF:∀{ns:List Int} {vs:List V} {A:List Addr},aF P w H (ns.map D.int) vs A->vs=ns.map V.int/\A=[]
 |[],_,_,h=>h
 |n::ns,_,_,⟨v,r,A1,A2,e,eA,h1,h2⟩=>by
  obtain⟨rfl,rfl⟩:=oF h2;obtain⟨rfl,rfl⟩:=h1;exact⟨e,by rw[eA];rfl⟩
theorem bz.toHand (s:bz P w C σ H β own)(e:β[i]?=some (some (.own (.lst (ns.map D.int)))))(ho:ok ns)(io:∀b,¬ C.IO b):bz P w C σ H (β.set i (some (.hand ok))) own:=by
 obtain⟨v,h1,⟨a,vs,A',rfl,h2,h3,h4⟩,h5⟩:=s.ow i _ e;obtain⟨rfl,rfl⟩:=oF h4;refine⟨by simp[s.len],λj y d q=>?_,λj d q=>?_,λj yK q=>?_,s.dm,s.iI,s.jE,s.kp,s.eZ,λj y d q=>by
  by_cases aD:i=j
  ·subst aD;obtain⟨e',_⟩:=aR q;cases e'
  ·rw[aN aD]at q;exact s.shl j y d q⟩
 ·by_cases aD:i=j
  ·subst aD;obtain⟨e',_⟩:=aR q;cases e'
  ·rw[aN aD]at q;exact s.val j y d q
 ·by_cases aD:i=j
  ·subst aD;obtain⟨e',_⟩:=aR q;cases e'
  ·rw[aN aD]at q;exact s.ow j d q
 ·by_cases aD:i=j
  ·subst aD;obtain⟨e',_⟩:=aR q;cases e';exact⟨a,ns,h1,h2,ho,h3,.inl io⟩
  ·rw[aN aD]at q;exact s.jL j yK q
end
section
variable {X:Cx}{C:Cfg}{e:Expr}{φ:aE}{p:Bool}{i:Nat}{x:Str}{pos pos' px ap cp:Pos}{ok:List Int->Prop}
theorem DE (ok:List Int->Prop)(Ql:∀b,¬ C.IO b)(he:∀U,PQ X (C.u U) p e φ)(hN:X.N.Nodup)(hi:X.N[i]?=some x:=by rfl)(hx:Loc X.env.scope x:=by first|exact .inl rfl|exact .inr rfl)
  (hs:WU e (some (.Name x pos')) pos.line X.env=pure false:=by rfl) (hf:X.fn x=true\/X.env.scope.names.lookup x=some .local:=by first|exact .inl rfl|exact .inr rfl|assumption) :
  PB X C (.Assign [.Name x pos'] e pos) (λE β=>φ β λd k β'=>Es k d/\i<β'.length/\∃ns:List Int,d=.lst (ns.map D.int)/\ok ns/\E.nx (β'.set i (some (.hand ok)))):=by
 have B:=dH (C:=C) (i:=i) (pos:=pos) (pos':=pos') he hN hi hx hs hf;refine⟨λE E' β l q=>(he λ_=>False).mono _ _ _ (λd k β' Bt=>by obtain⟨f,h,ns,e,o,q⟩:=Bt;exact⟨f,h,ns,e,o,l.nx _ q⟩) q,B.ps.pre λDe σ H gn=>?_⟩
 obtain⟨Z,E,β,sb,q,yK⟩:=gn;refine⟨Z,{E with nx:=λβ'=>∃(ns:List Int) (β2:aJ),i<β2.length/\β'=β2.set i (some (.own (.lst (ns.map D.int))))/\ok ns/\E.nx (β2.set i (some (.hand ok)))},β,sb,(he λ_=>False).mono _ _ _ (λd k β' EG=>by obtain⟨f,h,ns,e,o,q⟩:=EG;exact⟨f,ns,β',h,by rw[e],o,q⟩) q,⟨λσ' H' β' ue jJ=>?_,yK.rt,yK.bk,yK.ct⟩⟩
 obtain⟨ns,β2,hl,e,o,q⟩:=jJ;subst e;obtain⟨own,s,n⟩:=ue;have:=s.toHand (i:=i) (ok:=ok) (get_set hl) o Ql;rw[X3]at this;exact yK.nx _ _ _ ⟨own,this,n⟩ q
theorem bz.putL {P:Vz}{w:VG}{σ:St}{H:Hp}{β:aJ}{own:Nat->List Addr}{U U2:Addr->Prop}{ds ds':List D}{vs':List V}{a:Addr}{vs:List V}{A A':List Addr}(s:bz P w (C.u U) σ H β own)(e:β[i]?=some (some (.own (.lst ds))))(h1:σ[i]?=some (some (.ref a)))(h2:H a=some (.lst vs))(h3:own i=a::A)
  (r:aF P w H ds' vs' A') (nd:A'.Nodup) (hA:∀c∈A',c∈A\/(C.H0 c=none/\¬ Wn own c/\U c)) (hU:∀a,U2 a->U a) (Qx:∀c∈A',c∉A->¬ U2 c) :
  bz P w (C.u U2) σ (upd H a (.lst vs')) (β.set i (some (.own (.lst ds')))) (aI own i (a::A'))/\∀c∈a::A',c∈own i\/(C.H0 c=none/\¬ Wn own c/\U c):=by
 have ha:a∈own i:=by rw[h3];simp
 have nA:a∉A:=by have:=s.jE i;rw[h3]at this;exact(VZ.mp this).1
 have na:∀c∈A',c≠a:=λc hc z=>by
  subst z;rcases hA c hc with z|z
  ·exact nA z
  ·exact z.2.1 ⟨i,ha⟩
 have kt:∀b xs,H b=some (.tup xs)->upd H a (.lst vs') b=some (.tup xs):=λb xs z=>by rw[ar (λz'=>by rw[z',h2]at z;cases z)];exact z
 have Sa:∀c∈a::A',c∈own i\/(C.H0 c=none/\¬ Wn own c/\U c):=λc hc=>by
  rcases VB.mp hc with rfl|hc
  ·exact .inl ha
  ·exact(hA c hc).imp (λz=>by rw[h3];simp[z]) id
 refine⟨s.G9 e h1 ha ⟨a,vs',A',rfl,ao,rfl,r.keep kt λc hc oc ec=>by rw[ar (na c hc)];exact ec⟩ (VZ.mpr ⟨λz=>na a z rfl,nd⟩) Sa hU (λc hc z=>?_),Sa⟩
 rcases VB.mp hc with rfl|hc
 ·exact(s.dm i c ha).2.2.2 (hU c z)
 ·by_cases q:c∈A
  ·exact(s.dm i c (by rw[h3];simp[q])).2.2.2 (hU c z)
  ·exact Qx c hc q z
theorem rN {own:Nat->List Addr}{i:Nat}{A':List Addr}(h:∀c∈A',c∈own i):∀c,Wn (aI own i A') c->Wn own c:=λc Bq=>by
 obtain⟨j,hj⟩:=Bq
 by_cases aD:i=j
 ·rw[<- aD,os_eq]at hj;exact⟨i,h c hj⟩
 ·rw[a_ aD]at hj;exact⟨j,hj⟩
theorem zZ {P:Vz}{w:VG}{H:Hp}{own:Nat->List Addr}{Z:Hp×(Addr->Prop)}{d:D}{v:V}{A:List Addr}(r:Own P w H d v A)(h:∀c∈A,¬ Wn own c/\C.H0 c=none):KV P w C Z own H (sk .d9 d) d v:=by
 have q:az P w (av C (Wn own) .d9) H d v:=r.rep λc hc z=>z.elim (h c hc).1 λz=>z (h c hc).2;cases d with
 |int i=>exact KV.flat rfl q
 |bl i=>exact KV.flat rfl q
 |cU=>exact KV.flat rfl q
 |str i=>exact KV.flat rfl q
 |_=>exact q
theorem aF.concat {P:Vz}{w:VG}{H:Hp}{ds:List D}{d:D}{vs:List V}{A:List Addr}(h:aF P w H (ds++[d]) vs A):∃us v A1 A2,vs=us++[v]/\A=A1++A2/\aF P w H ds us A1/\Own P w H d v A2:=by
 obtain⟨v,A1,A2,A3,g1,g2,g3,g4,g5⟩:=h.split (i:=ds.length) (d:=d) (by simp)
 rw[List.take_left]at g3;have e3:aF P w H [] (vs.drop (ds.length+1)) A3:=by simpa using g5
 have hl:=h.length;rw[VV,YU]at hl;refine⟨vs.take ds.length,v,A1,A2,?_,by rw[g2,e3.2,WB],g3,g4⟩
 have jm:ds.length<vs.length:=by lia
 have e1:vs=vs.take ds.length++vs.drop ds.length:=(YT _ _).symm;rw[WW jm,e3.1]at e1;have:vs[ds.length]=v:=by
  have:=VC jm;rw[g1]at this;exact(V5 this).symm
 rw[this]at e1;exact e1
theorem He (hn:Nm X i x:=by exact xN)
  (eT:Xz (.Name x px) "pop" X.env (eval (.Name x px) X.env)=eval (.Name x px) X.env:=by rfl) (eS:(ap.endLine==cp.line)=true:=by rfl) :
  PQ X C false (.Call (.Attribute (.Name x px) "pop" ap) [] [] cp) (λβ R=>∃ds d,β[i]?=some (some (.own (.lst (ds++[d]))))/\R d (sk .d9 d) (β.set i (some (.own (.lst ds))))) :=
 ⟨λβ R R' k EF=>by obtain⟨ds,d,h1,q⟩:=EF;exact⟨ds,d,h1,k _ _ _ q⟩,(Ah (apos:=ap) (cpos:=cp) PySem.F.plainAttrs_list PySem.F.slot_list_pop PySem.F.type_list_pop HX (fT (pos:=px) hn) eT eS).pre λσ H Q uK=>by
  obtain⟨β,own,s,ds,d,hb,q⟩:=uK;obtain⟨a,vs,A,h1,h2,h3,h4⟩:=s.mP hb;obtain⟨us,v,A1,A2,rfl,rfl,g3,g4⟩:=h4.concat;have nd:=s.jE i;rw[h3]at nd;obtain⟨AW,Eb,FV⟩:=Wk.mp (VZ.mp nd).2;obtain⟨s2,hA⟩:=s.putL (C:=C) (U:=C.U) (U2:=C.U) (ds':=ds) (vs':=us) (A':=A1) hb h1 h2 h3 g3 AW (λc hc=>.inl (by simp[hc])) (λ_ z=>z) (λc hc n=>absurd (by simp[hc]) n)
  have h0:∀c∈own i,C.H0 c=none:=by obtain⟨_,_,_,h⟩:=s.ow i _ hb;exact h
  have kt:∀b xs,H b=some (.tup xs)->upd H a (.lst us) b=some (.tup xs):=λb xs z=>by rw[ar (λz'=>by rw[z',h2]at z;cases z)];exact z
  have na:∀c∈A2,c≠a:=λc hc z=>(VZ.mp nd).1 (by rw[<- z];simp[hc])
  have le:∀c,Wn (aI own i (a::A1)) c->Wn own c:=rN λc hc=>by rw[h3];rcases VB.mp hc with rfl|hc <;> simp[*]
  refine⟨.ref a,h1,.inl ⟨rfl,_,eE.of h2⟩,a,_,v,rfl,rfl,h2,by simp,?_⟩
  rw[List.dropLast_concat];refine q v _ _ ⟨s2,?_,λz=>(nomatch z),le⟩ (zZ (C:=C) (g4.keep kt λc hc oc ec=>by rw[ar (na c hc)];exact ec) λc hc=>⟨λ⟨j,hj⟩=>?_,h0 c (by rw[h3];simp[hc])⟩)
  ·have u:=Sn.upd (Z:=(H,Wn own)) (o':=.lst us) (Sn.refl (H:=H) (W:=Wn own)) h2 (λxs z=>by cases z) ⟨i,by rw[h3];simp⟩
   exact⟨λb z=>.inl (le b z),u.k,u.d⟩
  ·by_cases aD:i=j
   ·rw[<- aD,os_eq]at hj;rcases VB.mp hj with rfl|hj
    ·exact na _ hc rfl
    ·exact FV _ hj _ hc rfl
   ·rw[a_ aD]at hj;exact aD (s.iI i j c (by rw[h3];simp[hc]) hj)⟩
end
section
variable {X:Cx}{C:Cfg}{e k:Expr}{φ:aE}{p:Bool}{i:Nat}{x:Str}{pos px ap cp:Pos}
theorem xm {n:Nat}{j:Int}{k:Nat}(h:yb n j=some k):Zz j n=some k:=by
 unfold yb at h;unfold Zz
 by_cases h0:0<=j
 ·rw[if_pos h0]at h
  by_cases h1:j<n
  ·rw[if_pos h1]at h;cases h;have e:(if j<0 then j+n else j)=j:=if_neg (by lia)
   simp only[e];simp[h0,h1]
  ·rw[if_neg h1]at h;cases h
 ·rw[if_neg h0]at h
  by_cases h1:-(n:Int)<=j
  ·rw[if_pos h1]at h;cases h;have e:(if j<0 then j+n else j)=j+n:=if_pos (by lia)
   simp only[e];have:0<=j+n/\j+n<n:=by lia
   simp[this]
  ·rw[if_neg h1]at h;cases h
theorem lh {α:Type}:∀(l:List α) (j:Nat),l.eraseIdx j=l.take j++l.drop (j+1):=λl j=>List.eraseIdx_eq_take_drop_succ l j
theorem zV (he:PQ X C p e φ)(hn:Nm X i x:=by exact xN)
  (eT:Xz (.Name x px) "pop" X.env (eval (.Name x px) X.env)=eval (.Name x px) X.env:=by rfl)
  (qq:((WR cp (VE [e] X.env)).all (λx=>!x.1)&&(Z3 cp (YX [] X.env)).all (λx=>x.1.isSome)&&decide ([e].length+([]:List Yy).length+(if ([]:List Yy).isEmpty then 0 else 1)<30))=true:=by rfl)
  (eS:(ap.endLine==cp.line)=true:=by rfl) (hs:VE [e] X.env=(false,eval e X.env)::VE [] X.env:=by rfl) (gq:(WR cp (VE [] X.env)).any (·.1)=false:=by rfl) :
  PQ X C false (.Call (.Attribute (.Name x px) "pop" ap) [e] [] cp) (λβ R=>(∃ds,β[i]?=some (some (.own (.lst ds))))/\φ β λkd _ β'=>∃(ds:List D) (j:Int) (m:Nat) (d:D),kd=.int j/\β'[i]?=some (some (.own (.lst ds)))/\-(2 ^ 63)<=j/\j<2 ^ 63/\yb ds.length j=some m/\ds[m]?=some d/\R d (sk .d9 d) (β'.set i (some (.own (.lst (ds.eraseIdx m)))))) :=
 ⟨λβ R R' k qo=>by obtain⟨h0,q⟩:=qo;exact⟨h0,he.mono _ _ _ (λkd _ β' nX=>by obtain⟨ds,j,m,d,h1,h2,h3,h4,h5,h6,q⟩:=nX;exact⟨ds,j,m,d,h1,h2,h3,h4,h5,h6,k _ _ _ q⟩) q⟩,
  (vK (apos:=ap) (cpos:=cp) PySem.F.plainAttrs_list PySem.F.slot_list_pop PySem.F.type_list_pop AY (fT (pos:=px) hn) (bj he.pe dz hs) eT qq eS hs gq).pre λσ H Q sA=>by
  obtain⟨β,own,s0,⟨Sd,CT⟩,q⟩:=sA;obtain⟨a0,Sq,A0,z1,z2,z3,z4⟩:=s0.mP CT;refine⟨.ref a0,z1,.inl ⟨rfl,_,eE.of z2⟩,tQ.of he s0 q λkd kk β' kv H1 aw gn o r=>?_⟩;obtain⟨ds,j,m,d,e1,hb,j1,j2,hj,hm,q⟩:=gn;subst e1;cases r.rep;have s:=o.sq;obtain⟨a,vs,A,h1,h2,h3,h4⟩:=s.mP hb;rw[z1]at h1;cases h1;obtain⟨v,A1,A2,A3,g1,rfl,g3,g4,g5⟩:=h4.split hm;have nd:=s.jE i;rw[h3]at nd;obtain⟨AW,Eb,FV⟩:=Wk.mp (VZ.mp nd).2;obtain⟨O_,O9,NI⟩:=Wk.mp Eb;have ow:aF X.prog X.w H1 (ds.eraseIdx m) (vs.eraseIdx m) (A1++A3):=by rw[lh,lh];exact g3.append g5
  have Te:(A1++A3).Nodup:=Wk.mpr ⟨AW,O9,λx hx y hy=>FV x hx y (VY _ hy)⟩;obtain⟨s2,hA⟩:=s.putL (C:=C) (U:=C.U) (U2:=C.U) (ds':=ds.eraseIdx m) (vs':=vs.eraseIdx m) (A':=A1++A3) hb z1 h2 h3 ow Te (λc hc=>.inl (by rcases VL.mp hc with hc|hc <;> simp[hc])) (λ_ z=>z) (λc hc n=>absurd (by rcases VL.mp hc with hc|hc <;> simp[hc]) n)
  have h0:∀c∈aw i,C.H0 c=none:=by obtain⟨_,_,_,h⟩:=s.ow i _ hb;exact h
  have kt:∀b xs,H1 b=some (.tup xs)->upd H1 a0 (.lst (vs.eraseIdx m)) b=some (.tup xs):=λb xs z=>by rw[ar (λz'=>by rw[z',h2]at z;cases z)];exact z
  have na:∀c∈A2,c≠a0:=λc hc z=>(VZ.mp nd).1 (by rw[<- z];simp[hc])
  have le:∀c,Wn (aI aw i (a0::(A1++A3))) c->Wn aw c:=rN λc hc=>by
   rw[h3];rcases VB.mp hc with rfl|hc
   ·simp
   ·rcases VL.mp hc with hc|hc <;> simp[hc]
  refine⟨a0,vs,j,m,v,rfl,rfl,h2,j1,j2,by rw[h4.length];exact xm hj,g1,?_⟩
  have u:=Sn.upd (Z:=(H1,Wn aw)) (o':=.lst (vs.eraseIdx m)) (Sn.refl (H:=H1) (W:=Wn aw)) h2 (λxs z=>by cases z) ⟨i,by rw[h3];simp⟩
  refine q v _ _ ⟨s2,o.sn.trans ⟨λb z=>.inl (le b z),u.k,u.d⟩,λz=>(nomatch z),λc z=>o.le c (le c z)⟩ (zZ (C:=C) (g4.keep kt λc hc oc ec=>by rw[ar (na c hc)];exact ec) λc hc=>⟨λjJ=>?_,h0 c (by rw[h3];simp[hc])⟩)
  obtain⟨j',yP⟩:=jJ
  by_cases aD:i=j'
  ·rw[<- aD,os_eq]at yP;rcases VB.mp yP with rfl|yP
   ·exact na _ hc rfl
   ·rcases VL.mp yP with yP|yP
    ·exact FV _ yP _ (V3 _ hc) rfl
    ·exact NI _ hc _ yP rfl
  ·rw[a_ aD]at yP;exact aD (s.iI i j' c (by rw[h3];simp[hc]) yP)⟩
theorem C7 {Z:Hp×(Addr->Prop)}{H:Hp}{own:Nat->List Addr}{a:Addr}{o oa:HO}{A':List Addr}{U:Addr->Prop}(n:Sn Z H (Wn own))(m:∀a,U a->Z.1 a=none)(h2:H a=some oa)(ht:∀xs,oa≠.tup xs)(ha:Wn own a)(hA:∀c∈A',c∈own i\/(C.H0 c=none/\¬ Wn own c/\U c)):Sn Z (upd H a o) (Wn (aI own i A')) :=
 kf n m ha ⟨oa,h2,ht⟩ hA
theorem xG (he:PQ X C.z p e φ)(hn:Nm X i x:=by exact xN)
  (eT:Xz (.Name x px) "extend" X.env (eval (.Name x px) X.env)=eval (.Name x px) X.env:=by rfl)
  (qq:((WR cp (VE [e] X.env)).all (λx=>!x.1)&&(Z3 cp (YX [] X.env)).all (λx=>x.1.isSome)&&decide ([e].length+([]:List Yy).length+(if ([]:List Yy).isEmpty then 0 else 1)<30))=true:=by rfl)
  (eS:(ap.endLine==cp.line)=true:=by rfl) (hs:VE [e] X.env=(false,eval e X.env)::VE [] X.env:=by rfl) (gq:(WR cp (VE [] X.env)).any (·.1)=false:=by rfl)
  (oR:WU (.Call (.Attribute (.Name x px) "extend" ap) [e] [] cp) none pos.line X.env=pure false:=by rfl) :
  PB X C (.Expr (.Call (.Attribute (.Name x px) "extend" ap) [e] [] cp) pos) (λE β=>(∃ds,β[i]?=some (some (.own (.lst ds))))/\φ β λd _ β'=>∃ds es,d=.lst es/\D.dg es=true/\β'[i]?=some (some (.own (.lst ds)))/\ds.length+es.length<=VH/\E.nx (β'.set i (some (.own (.lst (ds++es)))))):=by
 refine⟨λE E' β l EG=>by obtain⟨h1,q⟩:=EG;exact⟨h1,he.mono _ _ _ (λd k β' LY=>by obtain⟨ds,es,h1,h2,h3,h4,q⟩:=LY;exact⟨ds,es,h1,h2,h3,h4,l.nx _ q⟩) q⟩,
  (jx (pos:=pos) (vK (apos:=ap) (cpos:=cp) PySem.F.plainAttrs_list PySem.F.slot_list_extend PySem.F.type_list_extend xR (fT (pos:=px) hn) (bj he.pe dz hs) eT qq eS hs gq) oR).pre λD σ H ⟨Z,E,β,⟨own,s0,n⟩,⟨⟨Sd,CT⟩,q⟩,ok⟩=>?_⟩
 obtain⟨a0,Sq,A0,z1,z2,z3,z4⟩:=s0.mP CT;refine⟨.ref a0,z1,.inl ⟨rfl,_,eE.of z2⟩,tQ.of he s0 q λd kk β' v H1 aw qm o r=>?_⟩;obtain⟨ds,es,e1,f,hb,hl,q⟩:=qm;subst e1;obtain⟨b,us,rfl,Qt,_,rb⟩:=r.rep;obtain⟨a,vs,A,h1,h2,h3,h4⟩:=o.sq.mP hb;rw[z1]at h1;cases h1;have nd:=o.sq.jE i;rw[h3]at nd;obtain⟨s2,hA⟩:=o.sq.putL (C:=C) (U:=λ_=>False) (U2:=λ_=>False) (ds':=ds++es) (vs':=vs++us) (A':=A) hb z1 h2 h3 (by simpa using h4.append (ie f rb)) (VZ.mp nd).2 (λc hc=>.inl hc) (λ_ z=>z) (λc hc n=>absurd hc n)
 exact⟨a0,b,vs,us,rfl,rfl,h2,Qt,by rw[h4.length,rb.length];exact hl,ok.nx _ _ _ ⟨_,s2,C7 (n.trans o.sn) (λ_ z=>z.elim) h2 (λxs z=>by cases z) ⟨i,by rw[h3];simp⟩ hA⟩ q⟩
end
end L2.Q
namespace L2
open PySem PySem.Spec PySem.SeqAt PyProof.Rows
section
end
namespace Q
section
variable {P:Vz}{w:VG}{C:Cfg}{σ:St}{H:Hp}{β:aJ}{own:Nat->List Addr}{lk:List (Option Nat)}{a:Addr}
theorem bz.uT {o:HO}(ho:∀xs,o≠.tup xs)(s:bz P w C σ H β own)(ha:H a=none)(inj:∀(i i' j:Nat),lk[i]?=some (some j)->lk[i']?=some (some j)->i=i'):
  bz P w (C.u λc=>c=a) (de lk σ) (upd H a o) (cG lk β) (bG lk β own):=by
 have h0:C.H0 a=none:=VS λz=>s.eZ a z ha;have q:=(s.enter ha inj).Dd (o:=o) ao (λxs z=>by cases z) h0
 have e:upd (upd H a (.lst [])) a o=upd H a o:=by
  funext b
  by_cases hb:b=a
  ·rw[hb,ao,ao]
  ·rw[ar hb,ar hb,ar hb]
 rwa [e]at q
end
section
end
end Q
end L2
namespace L2.Q
open PySem PySem.Spec PySem.SeqAt PyProof.Rows
abbrev Lw (l:Bool)(ds:List D):D:=match l with|true=>.lst ds|false=>.tup ds
section
variable {P:Vz}{w:VG}{H:Hp}{A:List Addr}{v:V}{ds:List D}{l:Bool}
theorem rO {m:Nat}{es:List D}(r:Own P w H (Lw l ds) v A)(nd:A.Nodup)(hm:ds[m]?=some (.lst es)):∃a vs c us B,v=.ref a/\H a=some (match l with|true=>.lst vs|false=>.tup vs)/\vs.length=ds.length/\vs[m]?=some (.ref c)/\H c=some (.lst us)/\c∈A/\aF P w H es us B/\(∀x∈B,x∈A/\x≠c)/\B.Nodup /\
  ∀dY vi B',aF P w H dY vi B'->B'.Nodup->(∀x∈B',x∈B\/x∉A)->(∀x∈B',x≠c)->∃A',Own P w (upd H c (.lst vi)) (Lw l (ds.set m (.lst dY))) v A'/\A'.Nodup/\∀x∈A',x∈A\/x∈B':=by
 have core:∀{vs:List V} {A:List Addr},A.Nodup->aF P w H ds vs A->∃c us B,vs[m]?=some (.ref c)/\H c=some (.lst us)/\c∈A/\aF P w H es us B/\(∀x∈B,x∈A/\x≠c)/\B.Nodup /\
   ∀dY vi B',aF P w H dY vi B'->B'.Nodup->(∀x∈B',x∈B\/x∉A)->(∀x∈B',x≠c)->∃A',aF P w (upd H c (.lst vi)) (ds.set m (.lst dY)) vs A'/\A'.Nodup/\(∀x∈A',x∈A\/x∈B'):=λ{vs A} nd os=>by
  have hl:=os.length;have TZ:m<ds.length:=(VN.mp hm).1;obtain⟨u,A1,A2,A3,g1,rfl,g3,⟨c,us,B,rfl,h2,rfl,h4⟩,g5⟩:=os.split hm;obtain⟨AW,Eb,FV⟩:=Wk.mp nd;obtain⟨O_,O9,NI⟩:=Wk.mp Eb;have Ti:=(VZ.mp O_).1;refine⟨c,us,B,g1,h2,by simp,h4,λx hx=>⟨by simp[hx],λz=>Ti (by rw[<- z];exact hx)⟩,(VZ.mp O_).2,λdY vi B' o' n' tP yR=>?_⟩
  have kt:∀b xs,H b=some (.tup xs)->upd H c (.lst vi) b=some (.tup xs):=λb xs z=>by rw[ar (λz'=>by rw[z',h2]at z;cases z)];exact z
  have n1:∀x∈A1,x≠c:=λx hx z=>FV x hx c (by simp) z
  have n3:∀x∈A3,x≠c:=λx hx z=>NI c (by simp) x hx z.symm
  have off:∀x∈B',x∉A1/\x∉A3:=λx hx=>by
   rcases tP x hx with z|z
   ·exact⟨λq=>FV x q x (by simp[z]) rfl,λq=>NI x (by simp[z]) x q rfl⟩
   ·exact⟨λq=>z (by simp[q]),λq=>z (by simp[q])⟩
  have RW:m<vs.length:=by lia
  have ev:vs=vs.take m++V.ref c::vs.drop (m+1):=by
   have e1:vs=vs.take m++vs.drop m:=(YT _ _).symm;rw[WW RW]at e1;have:vs[m]=V.ref c:=by
    have:=VC RW;rw[g1]at this;exact(V5 this).symm
   rwa [this]at e1
  refine⟨A1++((c::B')++A3),?_,Wk.mpr ⟨AW,Wk.mpr ⟨VZ.mpr ⟨λz=>yR c z rfl,n'⟩,O9,λx hx y hy=>?_⟩,λx hx y hy z=>?_⟩,λx hx=>?_⟩
  ·rw[List.set_eq_take_append_cons_drop,if_pos TZ];have q:aF P w (upd H c (.lst vi)) (ds.take m++.lst dY::ds.drop (m+1)) (vs.take m++.ref c::vs.drop (m+1)) (A1++((c::B')++A3)) :=
    (g3.keep kt λx hx oc ec=>by rw[ar (n1 x hx)];exact ec).append ⟨.ref c,_,c::B',A3,rfl,rfl,⟨c,vi,B',rfl,ao,rfl,o'.keep kt λx hx oc ec=>by rw[ar (yR x hx)];exact ec⟩,g5.keep kt λx hx oc ec=>by rw[ar (n3 x hx)];exact ec⟩
   rw[<- ev]at q;exact q
  ·intro z;subst z;rcases VB.mp hx with rfl|hx
   ·exact n3 _ hy rfl
   ·exact(off x hx).2 hy
  ·subst z;rcases VL.mp hy with hy|hy
   ·rcases VB.mp hy with rfl|hy
    ·exact n1 _ hx rfl
    ·exact(off x hy).1 hx
   ·exact FV x hx x (by simp[hy]) rfl
  ·rcases VL.mp hx with hx|hx
   ·exact .inl (by simp[hx])
   ·rcases VL.mp hx with hx|hx
    ·rcases VB.mp hx with rfl|hx
     ·exact .inl (by simp)
     ·exact .inr hx
    ·exact .inl (by simp[hx])
 cases l with
 |true =>
  obtain⟨a,vs,A',rfl,h2,rfl,h4⟩:=r;obtain⟨na,Th⟩:=VZ.mp nd;obtain⟨c,us,B,q1,q2,q3,q4,q5,q6,q7⟩:=core Th h4;have ca:c≠a:=λz=>na (by rw[<- z];exact q3)
  refine⟨a,vs,c,us,B,rfl,h2,h4.length,q1,q2,by simp[q3],q4,λx hx=>⟨by simp[(q5 x hx).1],(q5 x hx).2⟩,q6,λdY vi B' o' n' tP yR=>?_⟩
  obtain⟨A2,g1,g2,g3⟩:=q7 dY vi B' o' n' (λx hx=>(tP x hx).imp id λz q=>z (by simp[q])) yR
  refine⟨a::A2,⟨a,vs,A2,rfl,by rw[ar ca.symm];exact h2,rfl,g1⟩,VZ.mpr ⟨λz=>?_,g2⟩,λx hx=>?_⟩
  ·rcases g3 a z with z|z
   ·exact na z
   ·rcases tP a z with z|z
    ·exact na (q5 a z).1
    ·exact z (by simp)
  ·rcases VB.mp hx with rfl|hx
   ·exact .inl (by simp)
   ·exact(g3 x hx).imp (λz=>by simp[z]) id
 |false =>
  obtain⟨a,vs,rfl,h2,h4⟩:=r;obtain⟨c,us,B,q1,q2,q3,q4,q5,q6,q7⟩:=core nd h4;have ca:a≠c:=λz=>by rw[z,q2]at h2;cases h2
  refine⟨a,vs,c,us,B,rfl,h2,h4.length,q1,q2,q3,q4,q5,q6,λdY vi B' o' n' tP yR=>?_⟩;obtain⟨A2,g1,g2,g3⟩:=q7 dY vi B' o' n' tP yR;exact⟨A2,⟨a,vs,rfl,by rw[ar ca];exact h2,g1⟩,g2,g3⟩
end
section
variable {X:Cx}{C:Cfg}{e k:Expr}{φ φk:aE}{i:Nat}{x:Str}{pos px kp ap cp:Pos}
theorem k8 (l:Bool)(he:∀U,PQ X (C.u U) true e φ)(hk:∀U,PQ X (C.u U) true k φk)(hn:Nm X i x:=by exact xN)
  (T6:lX k:=by exact λ_ _=>rfl)
  (eT:Xz (.Subscript (.Name x px) k kp) "append" X.env (eval (.Subscript (.Name x px) k kp) X.env)=eval (.Subscript (.Name x px) k kp) X.env:=by rfl)
  (qq:((WR cp (VE [e] X.env)).all (λx=>!x.1)&&(Z3 cp (YX [] X.env)).all (λx=>x.1.isSome)&&decide ([e].length+([]:List Yy).length+(if ([]:List Yy).isEmpty then 0 else 1)<30))=true:=by rfl)
  (eS:(ap.endLine==cp.line)=true:=by rfl) (hs:VE [e] X.env=(false,eval e X.env)::VE [] X.env:=by rfl) (gq:(WR cp (VE [] X.env)).any (·.1)=false:=by rfl)
  (oR:WU (.Call (.Attribute (.Subscript (.Name x px) k kp) "append" ap) [e] [] cp) none pos.line X.env=pure false:=by rfl) :
  PB X C (.Expr (.Call (.Attribute (.Subscript (.Name x px) k kp) "append" ap) [e] [] cp) pos) (λE β=>(∃d0,β[i]?=some (some (.own d0)))/\φk β λjd _ β1=>∃ds j m es,jd=.int j/\β1[i]?=some (some (.own (Lw l ds)))/\yb ds.length j=some m/\ds[m]?=some (.lst es)/\φ β1 λd kd β2=>Es kd d/\β2[i]?=some (some (.own (Lw l ds)))/\es.length<VH/\E.nx (β2.set i (some (.own (Lw l (ds.set m (.lst (es++[d]))))))) ):=by
 refine⟨λE E' β l qo=>by obtain⟨q0,q⟩:=qo;exact⟨q0,(hk λ_=>False).mono _ _ _ (λjd _ β1 nX=>by obtain⟨ds,j,m,es,h1,h2,h3,h4,q⟩:=nX;exact⟨ds,j,m,es,h1,h2,h3,h4,(he λ_=>False).mono _ _ _ (λd kd β2 sA=>by obtain⟨g1,g2,g3,q⟩:=sA;exact⟨g1,g2,g3,l.nx _ q⟩) q⟩) q⟩,λpins s σ H De I gn=>?_⟩
 obtain⟨Z,E,β,⟨own,sq,n⟩,⟨⟨d0,Ub⟩,q⟩,ok⟩:=gn;have ix:Fw X (λx y H Q=>KI X.K x y H Q\/KH X.K x y H Q):=λvalue slice pins s σ H x y v u Q I rx ry h hs=>h.elim (λh=>fA value slice pins s σ H x y v u Q I rx ry h hs) λh=>Bi value slice pins s σ H x y v u Q I rx ry h hs;refine jx (pos:=pos) (vK (apos:=ap) (cpos:=cp) PySem.F.plainAttrs_list PySem.F.slot_list_append PySem.F.type_list_append kJ (jB (pos:=kp) ix (fT (pos:=px) hn) (hk λa=>H a=none).pe T6) (bj (he λa=>H a=none).pe dz hs) eT qq eS hs gq) oR pins s σ H De I ?_;have SO:=sq.kZ (C:=C.z) (U:=λa=>H a=none) λa z=>z;obtain⟨v0,yM,_,_⟩:=sq.ow i d0 Ub;refine⟨v0,yM,tQ.of (hk λa=>H a=none) SO q λjd kk β1 kv H1 aw jJ o r=>?_⟩;obtain⟨ds,j,m,es,e1,hb,hj,hm,q⟩:=jJ;subst e1;cases r.rep;obtain⟨v,LQ,ow,h0⟩:=o.sq.ow i _ hb;rw[yM]at LQ;cases LQ;obtain⟨a,vs,c,us,B,rfl,q1,q2,q3,q4,q5,q6,q7,q8,q9⟩:=rO ow (o.sq.jE i) hm;have Sh:qM vs j=some (.ref c):=by unfold qM;rw[q2,hj];exact q3
 have RG:Nt X.K "list" (.ref c) H1/\FF (tQ X (C.u λa=>H a=none) true φ) Ks σ H1 λxs H2=>vy (.ref c) xs H2 λ_ H1=>De.nx σ H1:=by
  refine⟨.inl ⟨rfl,us,eE.of q4⟩,tQ.of (he λa=>H a=none) o.sq q λd kd β2 v2 H2 aZ qm o2 r2=>?_⟩;obtain⟨f,MU,hl,q⟩:=qm;obtain⟨s2,e2⟩:=o2.pu rfl;obtain⟨v',RP,Tb,Vo⟩:=o2.sq.ow i _ MU;rw[yM]at RP;cases RP;obtain⟨a',vs',c',vi,B',ea,p1,p2,p3,p4,p5,p6,p7,p8,p9⟩:=rO Tb (o2.sq.jE i) hm;cases ea;have e3:=s2 _ _ q1;rw[p1]at e3;have ev:vs'=vs:=by cases l <;> (cases e3;rfl)
  subst ev;rw[q3]at p3;cases p3;have e4:=s2 _ _ q4;rw[p4]at e4;cases e4;obtain⟨A,r1,rn,r3⟩:=r2.fl f;have HP:∀x∈A,x∉aZ i:=λx hx z=>(r3 x hx).2.1 ⟨i,z⟩;obtain⟨A',g1,g2,g3⟩:=p9 (es++[d]) (us++[v2]) (B'++A) (p6.append (aF.one r1)) (Wk.mpr ⟨p8,rn,λx hx y hy z=>HP y hy (by rw[<- z];exact(p7 x hx).1)⟩)
   (λx hx=>(VL.mp hx).imp id (HP x)) (λx hx z=>by
    rcases VL.mp hx with hx|hx
    ·exact(p7 x hx).2 z
    ·exact HP x hx (by rw[z];exact p5))
  have hA:∀x∈A',x∈aZ i\/(C.H0 x=none/\¬ Wn aZ x/\H x=none):=λx hx=>by
   rcases g3 x hx with z|z
   ·exact .inl z
   ·rcases VL.mp z with z|z
    ·exact .inl (p7 x z).1
    ·exact .inr ⟨(r3 x z).2.2,(r3 x z).2.1,o.sn.free (r3 x z).1⟩
  exact⟨c,us,v2,rfl,rfl,p4,by rw[p6.length];exact hl,ok.nx _ _ _ ⟨_,o2.sq.putIn (C:=C) (U:=λa=>H a=none) MU yM p5 g1 g2 hA,kf ((n.trans o.sn).trans o2.sn) (λb z=>n.free z) ⟨i,p5⟩ ⟨_,p4,λxs z=>by cases z⟩ hA⟩ q⟩
 cases l with
 |true=>exact .inl ⟨a,vs,j,.ref c,rfl,rfl,eE.of q1,Sh,RG⟩
 |false=>exact .inr ⟨a,vs,j,.ref c,rfl,rfl,lr.of q1,Sh,RG⟩
end
end L2.Q
namespace L2
open PySem PySem.Spec PySem.SeqAt PyProof.Rows
theorem Pk {b:Bool}{p q:Prop}(h1:b=true->p)(h2:b=false->q):(if b=true then p else q):=by
 cases b
 ·exact jI rfl (h2 rfl)
 ·exact lB rfl (h1 rfl)
def Jw (a b c d:Int):Bool:=(decide (a<c)&&(decide (c<b)&&decide (b<d))) || (decide (c<a)&&(decide (a<d)&&decide (d<b)))
def nD:List Int->List Int->Bool
 |[a,b],[c,d]=>Jw a b c d
 |_,_=>false
def Pair (t:List Int):Prop:=∃a b,t=[a,b]
def nk:FD:=λds R=>∃t u,ds=[kD t,kD u]/\Pair t/\Pair u/\R (.bl (nD t u))
theorem nk.mono:cm nk:=λds R R' k ⟨t,u,e,h1,h2,q⟩=>⟨t,u,e,h1,h2,k _ q⟩
def mn (t u:List Int):Bool:=t.any λi=>decide (i∈u)
def m9:FD:=λds R=>∃t u,ds=[kD t,kD u]/\Pair t/\R (.bl (mn t u))
theorem m9.mono:cm m9:=λds R R' k ⟨t,u,e,h1,q⟩=>⟨t,u,e,h1,k _ q⟩
def Pairs (ts:List (List Int)):Prop:=∀t∈ts,Pair t
structure Bs2 (mg:Str->Option Vv):Prop extends Bs mg where
 yd:mg "isinstance" = none
 tuple:mg "tuple" = none
 str:mg "str" = none
 bool:mg "bool" = none
 zip:mg "zip" = none
 enumerate:mg "enumerate" = none
theorem sW {d:D}{n:Nat}(h:d.pd.canLay0=true/\d.pd.depth<=n)(hn:n<=64:=by decide):NY d d=some (.bl false):=Jp (ki h hn) (ki h hn) (eqv_refl _ h.1)
end L2
namespace L2.Q
open PySem PySem.Spec PySem.SeqAt PyProof.Rows
structure kY (X:Cx)(C:Cfg)(p:Bool)(ifs:List Expr)(τ:aP):Prop where
 mono:∀β R R',(∀d β,R d β->R' d β)->τ β R->τ β R'
 pt:qN X ifs (iN X C p τ)
theorem eK {X:Cx}{C:Cfg}:kY X C true [] Km:=⟨λ_ _ _ k h=>k _ _ h,zS⟩
theorem gO {X:Cx}{C:Cfg}{p:Bool}{c:Expr}{τ:aP}(h:u_ X C p c τ):kY X C p [c] τ:=⟨h.mono,zR h⟩
section
variable {X:Cx}{C:Cfg}{lk:List (Option Nat)}{γ:cF}{τ:aP}{φ:aE}{T:List Nat}{pc pe pi:Bool}{scope:Xw}{N':List Str}{tg bJ elt:Expr}{ifs:List Expr}{ι:bW}{pos pos' mh:Pos}{y:Str}{i:Nat}
theorem LA (N':List Str)(lk:List (Option Nat))(L:fH X.env.scope.names X.N scope N' lk=true)(lb:N'.Nodup)(hc:X.calm=true)(hi:tR X C pi tg bJ ι)
  (jK:∀U cl c s H ex,qH (aq X scope N' cl c s H ex) (C.u U) tg T γ) (iR:∀U cl c s H ex,kY (aq X scope N' cl c s H ex) (C.u U) pc ifs τ) (fb:∀U cl c s H ex,PQ (aq X scope N' cl c s H ex) (C.u U) pe elt φ)
  (hT:T.all (λi=>match lk[i]? with|some (some _)=>false|_=>true)=true:=by rfl) (hs:∀x,V4 bJ X.env x=pure x:=by intro _;rfl):PQ X C (pi&&(pc&&pe)) (.ListComp elt [⟨tg,bJ,ifs,0⟩] scope pos) (vz lk ι γ τ φ) :=
 K4 (Links.of L) lb hT hc hi (λa=>jK _) (λa cl c s H ex=>(iR _ cl c s H ex).pt) (iR (λ_=>False) [] 0 X.s₀ X.H₀ []).mono (λa=>fb _) (jK (λ_=>False) [] 0 X.s₀ X.H₀ []).mono (fb (λ_=>False) [] 0 X.s₀ X.H₀ []).mono hs
theorem zz (o:Bool)(N':List Str)(lk:List (Option Nat))(L:fH X.env.scope.names X.N scope N' lk=true)(lb:N'.Nodup)(hc:X.calm=true)(hi:∀U,tR X (C.u U) pi tg bJ ι)
  (jK:∀U cl c s H ex,qH (aq X scope N' cl c s H ex) (C.u U) tg T γ) (iR:∀U cl c s H ex,kY (aq X scope N' cl c s H ex) (C.u U) pc ifs τ) (fb:∀U cl c s H ex,PQ (aq X scope N' cl c s H ex) (C.u U) pe elt φ)
  (hN:X.N.Nodup) (hT:T.all (λi=>match lk[i]? with|some (some _)=>false|_=>true)=true:=by rfl) (hy:X.N[i]?=some y:=by rfl) (hx:Loc X.env.scope y:=by first|exact .inl rfl|exact .inr rfl) (hf:X.fn y=true\/X.env.scope.names.lookup y=some .local:=by first|exact .inl rfl|exact .inr rfl|assumption)
  (oR:WU (.ListComp elt [⟨tg,bJ,ifs,0⟩] scope pos) (some (.Name y pos')) mh.line X.env=pure true:=by rfl)
  (BD:ZJ (.ListComp elt [⟨tg,bJ,ifs,0⟩] scope pos) X.env (assign (.Name y pos') X.env)=(do let _ <- comprehension (.ListComp elt [⟨tg,bJ,ifs,0⟩] scope pos) scope X.env (firstIterPos [⟨tg,bJ,ifs,0⟩] pos) (newList []) false (eval bJ X.env) (some (assign (.Name y pos') X.env));pure ()):=by first|rfl|exact YB ..)
  (hs:∀x,V4 bJ X.env x=pure x:=by intro _;rfl) :
  PB X C (.Assign [.Name y pos'] (.ListComp elt [⟨tg,bJ,ifs,0⟩] scope pos) mh) (λE β=>vz lk ι γ τ φ β λd _ β'=>E.nx (β'.set i (some (match o with|true=>.own d|false=>.val true d)))) :=
 K3 (K:=λ_ _ _=>True) (Links.of L) lb hT hc hi jK (λU cl c s H ex=>(iR U cl c s H ex).pt) (iR (λ_=>False) [] 0 X.s₀ X.H₀ []).mono fb (jK (λ_=>False) [] 0 X.s₀ X.H₀ []).mono (fb (λ_=>False) [] 0 X.s₀ X.H₀ []).mono o hN hy hx hf oR BD hs
theorem bA:Fw X (zF X yW NF):=λvalue slice pins s σ H x y v u Q I rx ry ⟨W,d1,d2,d,hd,r1,r2,e,q⟩ hs =>
 Iu value slice pins s σ H x y v u Q I rx ry ⟨W,d1,d2,d,hd,r1,r2,e,λv H' s r=>q v H' s r λf=>az.flat f r⟩ hs
end
section
end
theorem yr (ns:List Int)(lo hi:Option Int):∃ms:List Int,sY (ns.map V.int) lo hi=ms.map V.int/\ms.length<=ns.length:=by
 refine⟨(ns.drop (HT.k6 (ns.map V.int).length 0 lo)).take (HT.k6 (ns.map V.int).length (ns.map V.int).length hi-HT.k6 (ns.map V.int).length 0 lo),?_,?_⟩
 ·unfold sY;rw[YC,YD]
 ·rw[V7,XJ];lia
section
variable {P:Vz}{w:VG}
theorem cT {W:Addr->Prop}{H:Hp}:∀ns:List Int,ai P w W H (ns.map D.int) (ns.map V.int)
 |[]=>rfl
 |n::ns=>⟨_,_,rfl,rfl,cT ns⟩
theorem C5 {N:List Str}{vs:List V}{H H':Hp}{n:Nat}{ro:Bool}{U:Addr->Prop}(hl:(L2.start N vs).length=n)(sm:ay H H'):bz P w ⟨H,λ_=>False,ro,U⟩ (L2.start N vs) H' (Ws n none) (λ_=>[]) :=
 ⟨by rw[hl,List.length_replicate],λi y d h=>(gQ h).elim,λi d h=>(gQ h).elim,λi ok h=>(gQ h).elim,λi a h=>(nomatch h),λi j a h=>(nomatch h),λi=>Wg,sm.kp,λa z e=>z (sm.free e),λi y d h=>(gQ h).elim⟩
theorem KD {ro:Bool}{H H':Hp}{b:Bool}{v:V}(h:oq P w ro H H' (.bl b) v):v=.bl b:=by
 cases ro with
 |true=>obtain⟨A,h1,_⟩:=h;exact h1.1
 |false=>exact h
end
theorem Cj {β:aJ}{i j k l:Nat}{y1 y2 y3 y4:Bool}{a b c d:Int}{R:D->Kd->aJ->Prop}(h1:β[i]?=some (some (.val y1 (.int a))))(h2:β[j]?=some (some (.val y2 (.int b))))(h3:β[k]?=some (some (.val y3 (.int c))))(h4:β[l]?=some (some (.val y4 (.int d))))
  (q:R (.bl (decide (a<b)&&(decide (b<c)&&decide (c<d)))) .own β):uh (zG i) (G7 NZ (zG j) (G7 NZ (zG k) (KZ NZ (zG l)))) β R:=by
 refine⟨_,h1,_,h2,_,rfl,tO (λz1=>⟨_,h3,_,rfl,tO (λz2=>⟨_,h4,_,rfl,?_⟩) (λz2=>?_)⟩) (λz1=>?_)⟩
 ·simpa[z1,z2] using q
 ·simpa[z1,z2] using q
 ·simpa[z1] using q
section
variable {X:Cx}{C:Cfg}{pos p2 p3 p4:Pos}{e a:Expr}{φ:aE}{p:Bool}
def OS (φ:aE):aE:=λβ R=>φ β λx k β1=>∃d,QN x=some d/\kN NL d k.wk λk'=>R d k' β1
theorem Hc {j:Nat}(ha:PQ X C p a φ):PQ X C p (.Subscript a (.Slice none none (some (.UnaryOp .USub (.Constant (.int 1) j p3) p4)) p2) pos) (OS φ) :=
 ⟨λβ R R' k h=>ha.mono β _ _ (λx kx β1 sA=>by obtain⟨d,e,q⟩:=sA;exact⟨d,e,q.mono λ_ z=>k _ _ _ z⟩) h,
  (Hj ha.pe).pre λσ H Q ⟨β,own,s,h⟩=>tQ.of ha s h λd k β1 v H1 aw Br o1 r1=>by
    obtain⟨d',e,q⟩:=Br;have rr:=az.aO wK r1.rep
    match d,e with
    |.lst ds,e =>
      cases e;obtain⟨c,vs,rfl,h1,n1,rs⟩:=rr;refine .inl ⟨c,vs,rfl,h1,λp hp=>?_⟩;have sm:ay H1 (upd H1 p (.lst vs.reverse)):=ay.new hp;have hw:¬ av C (Wn aw) k.wk p:=λz=>o1.sq.B6 _ p z hp;have r2:az X.prog X.w (av C (Wn aw) k.wk) (upd H1 p (.lst vs.reverse)) (.lst ds.reverse) (.ref p):=⟨p,_,rfl,ao,hw,(ai.rev rs).same sm⟩;obtain⟨k',q,r⟩:=KV.kN (Z:=(H,Wn own)) zd r2 (λn=>ij (H:=H1) o1.sq.qw o1.sq.eZ (λa z e=>o1.sn.d a z e) n ⟨p,_,rfl,ao,λz=>z hp,ai.flat n ((ai.rev rs).same sm)⟩) q;exact q _ _ aw (o1.same sm) r
    |.tup ds,e =>
      cases e;obtain⟨c,vs,rfl,h1,rs⟩:=rr;refine .inr ⟨c,vs,rfl,h1,λp hp=>?_⟩;have sm:ay H1 (upd H1 p (.tup vs.reverse)):=ay.new hp;exact q _ _ aw (o1.same sm) (by
        have r2:az X.prog X.w (av C (Wn aw) k.wk) (upd H1 p (.tup vs.reverse)) (.tup ds.reverse) (.ref p):=⟨p,_,rfl,ao,(ai.rev rs).same sm⟩;cases k <;> exact r2)⟩
end
def nU (ns:List Int):Prop:=∃x y z:Int,ns=[x,y,z]/\0<=x
def BS:FD:=λds R=>∃c:Int,ds=[.int c]/\∀ns,nU ns->R (.lst (ns.map D.int))
theorem BS.mono:cm BS:=λds R R' k ⟨c,e,q⟩=>⟨c,e,λns o=>k _ (q ns o)⟩
section
variable {P:Vz}{w:VG}{H:Hp}{h:Addr}
theorem mJ {H:Hp}:∀ns:List Int,aF P w H (ns.map D.int) (ns.map V.int) []
 |[]=>⟨rfl,rfl⟩
 |n::ns=>⟨_,_,[],[],rfl,rfl,⟨rfl,rfl⟩,mJ ns⟩
theorem zL {xs ys:List V}(e:H h=some (.lst xs)):Kp (·=h) H (upd H h (.lst ys)):=⟨λb u hb nb=>by rw[ar nb];exact hb,λb U8 hb=>by rw[ar λz=>by rw[z,e]at hb;cases hb];exact hb⟩
theorem zM {ys:List V}:∀c,H c≠none->upd H h (.lst ys) c≠none:=λc hc=>by
 by_cases z:c=h
 ·rw[z,ao];exact λz=>(nomatch z)
 ·rw[ar z];exact hc
theorem vV {H':Hp}{r:Int}:oq P w true H H' (.int r) (.int r):=dB (W:=λ_=>False) rfl rfl
end
end L2.Q
namespace lY
open PySem L2 L2.Q
section
variable (K:PySem.W.Frag)(mg:Str->Option Vv)(f:Addr)(fd:VW)
abbrev D0:Prop:=Df K mg "_law_kinds" fq ["pot"] f fd
abbrev D1:Prop:=Df K mg "_law_take" eO ["pot","many"] f fd
abbrev D2:Prop:=Df K mg "_law_pairs" fo ["pot","few"] f fd
abbrev D3:Prop:=Df K mg "_law_gap" h7 ["pot"] f fd
abbrev D4:Prop:=Df K mg "check_gap" dO ["gap"] f fd
abbrev D5:Prop:=Df K mg "pairs_either_way" b5 ["pairs"] f fd
abbrev D6:Prop:=Df K mg "row_of_kinds" cn ["kinds","pairs","gap"] f fd
abbrev D7:Prop:=Df K mg "stretches_rising" b4 ["many"] f fd
abbrev D8:Prop:=Df K mg "partners_of" dE ["row"] f fd
abbrev D9:Prop:=Df K mg "number_with" dF ["worth","table","i","k","j"] f fd
abbrev vd:Prop:=Df K mg "least_number" c6 ["partners","worth","table","i","j"] f fd
abbrev wW:Prop:=Df K mg "greatest_table" cC ["row","worth"] f fd
abbrev wV:Prop:=Df K mg "one_each" f9 ["row"] f fd
abbrev yF:Prop:=Df K mg "table_of" f7 ["row"] f fd
abbrev wU:Prop:=Df K mg "parts_left" ek ["i","k","j"] f fd
abbrev wR:Prop:=Df K mg "best_choices" c8 ["partners","worth","table","i","j"] f fd
abbrev yE:Prop:=Df K mg "first_greatest" cD ["row","worth","table","i","j"] f fd
abbrev yY:Prop:=Df K mg "most_of" hZ ["row","i","j"] f fd
abbrev CH:Prop:=Df K mg "most_ties" fm ["row"] f fd
abbrev JR:Prop:=Df K mg "arcs_cross" el ["one","other"] f fd
abbrev JQ:Prop:=Df K mg "share_a_point" cO ["one","other"] f fd
abbrev Kg:Prop:=Df K mg "row_beside" ei ["row","tie"] f fd
abbrev Nr:Prop:=Df K mg "most_without" c5 ["row","point"] f fd
abbrev Nq:Prop:=Df K mg "most_beside" dG ["row","point","other"] f fd
abbrev Oa:Prop:=Df K mg "best_kinds" c7 ["kinds","pairs","gap","place"] f fd
abbrev Kf:Prop:=Df K mg "most_of_kinds" b9 ["kinds","pairs","gap"] f fd
abbrev N_:Prop:=Df K mg "most_with" dN ["kinds","pairs","gap","place","kind"] f fd
abbrev Rh:Prop:=Df K mg "_law_flags" ft ["e"] f fd
abbrev Rg:Prop:=Df K mg "_law_due_flags" cP ["at"] f fd
abbrev Sm:Prop:=Df K mg "_law_due" h8 ["way","many","gap","place"] f fd
abbrev Sl:Prop:=Df K mg "_law_said" f_ ["way","given","gap","place"] f fd
abbrev U6:Prop:=Df K mg "_law_pot" fR ["cell"] f fd
abbrev U5:Prop:=Df K mg "_law_ties" i7 ["kinds","pairs","gap"] f fd
end
section
variable {P:Vz}{w:VG}{K:PySem.W.Frag}{mg:Str->Option Vv}{base:Heap}
theorem ub:aC ["cell"] ["cell"] (aj fR):=mkS
theorem HE {f:Addr} {fd:VW} (F:wO K "_law_pot" "_law_pot" fR f fd) (B:Bs mg):aB P w K mg base bE 1 f fd ["cell"] (cB P w true BS):=by
 refine F.ok ub (λvs H Q E h=>?_) (λbB A outer s H vs Q E hr h=>?_)
 ·obtain⟨ds,r,c,rfl,_⟩:=h;obtain⟨x,rr,rfl,_,hr⟩:=r;cases (show rr=[] from hr)
  rfl
 ·obtain⟨ds,r,c,rfl,q⟩:=h;obtain⟨x,rr,rfl,hx,LX⟩:=r;cases (show rr=[] from LX)
  cases (show x=V.int c from hx)
  refine⟨_,ia (i_ (uo (bj (gV (pj rfl) (by rfl) B.max nH (bj a9 (bj (c9 Au (pv 0) (c9 Av a9 a9)) dz)))
   (bj (c9 kB (pv 0) a9) (bj a9 dz))))),?_⟩
  refine⟨_,rfl,_,_,rfl,rfl,K5,_,_,rfl,rfl,_,_,rfl,?_⟩;refine⟨_,rfl,_,_,rfl,rfl,(by show (0:Int)<99999999977;decide),(by show 3<=VH;decide),λp hp=>?_⟩
  refine q [_,_,_] ⟨_,_,_,rfl,?_⟩ _ _ (ay.new hp) ⟨[p],⟨p,_,[],rfl,ao,rfl,mJ [_,_,_]⟩,by simp,λc hc=>by rw[VD.mp hc];exact hp⟩
  split <;> lia
theorem dM:aC ["pot","many","found","number"] ["pot","many"] (aj eO):=mkS
theorem lP {f:Addr} {fd:VW} (F:wO K "_law_take" "_law_take" eO f fd):aB P w K mg base bE 1 f fd ["pot","many"] (kc P w nU true bU):=by
 refine F.ok dM (λvs H Q E h=>?_) (λbB A outer s H vs Q E hr h=>?_)
 ·obtain⟨h,vs',ds,ns,rfl,_,_,r,n,rfl,_⟩:=h;obtain⟨x,rr,rfl,_,hr⟩:=r;cases (show rr=[] from hr)
  rfl
 ·obtain⟨h,vs',ds,ns,rfl,e,⟨x,y,z,rfl,x0⟩,r,n,rfl,n0,n1,q⟩:=h;obtain⟨x',rr,rfl,LN,LX⟩:=r;cases (show rr=[] from LX)
  cases (show x'=V.int n from LN)
  have hx:H h=some (.lst [.int x,.int y,.int z]):=e;refine⟨_,cL (FK (vA FQ (jB fA (pv 0) a9 (λ_ _=>rfl)) a9 (HQ _))
    (cL (i9 (i:=2) dM.nd rfl (Or.inl rfl) (c9 kB (jB fA (pv 0) a9 (λ_ _=>rfl)) (pv 1)))
    (cL (ui (c9 rQ (jB fA (pv 0) a9 (λ_ _=>rfl)) (pv 1)) (z8 (pv 0) a9 set_list))
    (ia (i_ (pv 2))))) vB)
   (cL (ui (c9 qf (jB fA (pv 0) a9 (λ_ _=>rfl)) a9) (z8 (pv 0) a9 set_list))
   (cL (i9 (i:=3) dM.nd rfl (Or.inl rfl) (c9 kB (c9 qf (jB fA (pv 0) a9 (λ_ _=>rfl)) (c9 ur a9 (jB fA (pv 0) a9 (λ_ _=>rfl)))) a9))
   (cL (i9 (i:=3) dM.nd rfl (Or.inl rfl) (c9 kB (c9 ur (pv 3) (pv 3)) a9))
   (cL (i9 (i:=3) dM.nd rfl (Or.inl rfl) (c9 kB (c9 ur (pv 3) (c9 qf (pv 3) a9)) a9))
   (ia (i_ (c9 kB (c9 rQ (pv 3) a9) (pv 1)))))))),?_⟩
  refine⟨_,rfl,h,_,_,_,rfl,rfl,eE.of hx,rfl,_,_,rfl,rfl,_,rfl,?_⟩;refine Ph (λhp=>?_) (λhp=>?_)
  ·refine⟨_,rfl,h,_,_,_,rfl,rfl,eE.of hx,rfl,_,rfl,_,_,rfl,rfl,n0,?_⟩;refine⟨_,rfl,h,_,_,_,rfl,rfl,eE.of hx,rfl,_,rfl,_,_,rfl,rfl,tL.of n0 n1,?_⟩;refine⟨_,rfl,h,_,_,0,rfl,rfl,hx,rfl,?_⟩;have m:=lS (a:=x) n0;exact⟨_,rfl,q _ m.1 m.2 _ _ [x / n,y,z] (zL hx) zM ao ⟨_,_,_,rfl,Int.ediv_nonneg x0 (Int.le_of_lt n0)⟩ vV⟩
  ·refine⟨_,rfl,h,_,_,_,rfl,rfl,eE.of hx,rfl,_,_,rfl,rfl,?_⟩;refine⟨_,rfl,h,_,_,2,rfl,rfl,hx,rfl,?_⟩;have hy:upd H h (.lst ([V.int x,V.int y,V.int z].set 2 (V.int (z+1)))) h=some (.lst [V.int x,V.int y,V.int (z+1)]):=ao;refine⟨_,rfl,h,_,_,_,rfl,rfl,eE.of hy,rfl,_,rfl,h,_,_,_,rfl,rfl,eE.of hy,rfl,_,_,rfl,rfl,.inl ⟨by decide,by decide⟩,_,_,rfl,rfl,_,_,rfl,rfl,(by show (0:Int)<99999999947;decide),?_⟩
   have m1:=lS (a:=y+700001*(z+1)) (b:=99999999947) (by decide)
   refine⟨_,rfl,_,rfl,_,_,rfl,rfl,.inl ⟨Int.lt_of_lt_of_le (by decide) m1.1,Int.lt_trans m1.2 (by decide)⟩,_,_,rfl,rfl,(by show (0:Int)<99999999821;decide),?_⟩
   have m2:=lS (a:=(y+700001*(z+1)) % 99999999947*((y+700001*(z+1)) % 99999999947)) (b:=99999999821) (by decide)
   refine⟨_,rfl,_,rfl,_,_,rfl,rfl,_,_,rfl,rfl,.inl ⟨Int.lt_of_lt_of_le (by decide) m2.1,Int.lt_trans m2.2 (by decide)⟩,_,_,rfl,rfl,(by show (0:Int)<9999999967;decide),?_⟩
   refine⟨_,rfl,_,_,rfl,rfl,tL.of (by decide) (by decide),_,rfl,_,_,rfl,rfl,n0,?_⟩
   have m:=λa:Int=>lS (a:=a) n0;exact q _ (m _).1 (m _).2 _ _ [x,y,z+1] (zL hx) zM ao ⟨_,_,_,rfl,x0⟩ vV
end
end lY
namespace L2
open PySem PySem.Spec PyProof.Rows
section
variable {κ:Type}[DecidableEq κ]
def ef (kvs:List (κ×V))(k:κ):Option V:=(kvs.find? λkv=>decide (kv.1=k)).map (·.2)
def putK (kvs:List (κ×V))(k:κ)(v:V):List (κ×V) :=
 if (kvs.any λkv=>decide (kv.1=k))=true then kvs.map (λkv=>if kv.1=k then (kv.1,v) else kv) else kvs++[(k,v)]
theorem l4 {p:κ×V}{r:List (κ×V)}{k:κ}(e:p.1=k):ef (p::r) k=some p.2:=by simp[ef,Wd,e]
theorem l5 {p:κ×V}{r:List (κ×V)}{k:κ}(e:¬ p.1=k):ef (p::r) k=ef r k:=by simp[ef,Wd,e]
theorem l6 (k:κ):∀kvs:List (κ×V),(kvs.any λkv=>decide (kv.1=k))=(ef kvs k).isSome
 |[]=>rfl
 |p::r=>by
  rw[X_]
  by_cases e:p.1=k
  ·simp only[l4 e,decide_eq_true e,Bool.true_or,Option.isSome_some]
  ·rw[l5 e,decide_eq_false e,Bool.false_or];exact l6 k r
theorem fz (kvs:List (κ×V))(k:κ)(v:V):(putK kvs k v).length<=kvs.length+1:=by
 unfold putK
 split
 ·rw[Vt];lia
 ·rw[VV,Wa,List.length_nil];lia
theorem rD {kvs:List (κ×V)}{k:κ}(v:V)(h:ef kvs k=none):putK kvs k v=kvs++[(k,v)]:=by
 unfold putK;rw[l6,h];exact if_neg (by decide)
theorem om.kK {o:Option V}{u:Option Vv}(r:om o u):o.isSome=u.isSome:=by
 cases o with
 |none=>cases u with
  |none=>rfl
  |some _=>exact(show False from r).elim
 |some _=>cases u with
  |none=>exact(show False from r).elim
  |some _=>rfl
theorem KV.val {kvs:List (κ×V)}{vs:List (κ×Vv)}(r:KV kvs vs)(k:κ):om (ef kvs k) (Zl vs k):=by
 unfold KV at r
 induction r with
 |nil=>exact Yo
 | @cons p q ps qs h t ih =>
  obtain⟨h1,h2⟩:=h
  by_cases e:p.1=k
  ·have e':q.1=k:=h1.symm.trans e;have b:Zl (q::qs) k=some q.2:=by simp[Zl,Wd,e']
   rw[l4 e,b];exact h2
  ·have e':¬ q.1=k:=λz=>e (h1.trans z);have b:Zl (q::qs) k=Zl qs k:=by simp[Zl,Wd,e']
   rw[l5 e,b];exact ih
theorem KV.any {kvs:List (κ×V)}{vs:List (κ×Vv)}(r:KV kvs vs)(k:κ):(kvs.any λkv=>decide (kv.1=k))=vs.any λkv=>decide (kv.1=k):=by
 unfold KV at r
 induction r with
 |nil=>rfl
 |cons h t ih=>rw[X_,X_,ih,h.1]
theorem KV.GW {kvs:List (κ×V)}{vs:List (κ×Vv)}(r:KV kvs vs)(k:κ){y:V}{u:Vv}(ry:RelV y u):
  KV (kvs.map λkv=>if kv.1=k then (kv.1,y) else kv) (vs.map λkv=>if kv.1=k then (kv.1,u) else kv):=by
 unfold KV at r ⊢
 induction r with
 |nil=>exact .nil
 | @cons p q ps qs h t ih =>
  rw[VM,VM];refine .cons ?_ ih;obtain⟨h1,h2⟩:=h
  by_cases e:p.1=k
  ·rw[if_pos e,if_pos (h1.symm.trans e)];exact⟨h1,ry⟩
  ·rw[if_neg e,if_neg (λz=>e (h1.trans z))];exact⟨h1,h2⟩
theorem KV.put {kvs:List (κ×V)}{vs:List (κ×Vv)}(r:KV kvs vs)(k:κ){y:V}{u:Vv}(ry:RelV y u):KV (putK kvs k y) (stored vs k u):=by
 unfold putK stored;rw[r.any k]
 by_cases e:(vs.any λkv=>decide (kv.1=k))=true
 ·rw[if_pos e,if_pos e];exact r.GW k ry
 ·rw[if_neg e,if_neg e];exact Paired.snoc r ⟨rfl,ry⟩
theorem KV.length {kvs:List (κ×V)}{vs:List (κ×Vv)}(r:KV kvs vs):kvs.length=vs.length:=Paired.length r
end
theorem sd {P:Vz}{w:VG}{k:Key}{u:Vv}(r:RelV (kV k) u):(aY P w).is k u=true:=by
 cases k with
 |inl i=>obtain⟨t,e⟩:=(show ∃t,u=Value.int i t from r);subst e;exact rX P w i t
 |inr x=>obtain⟨t,e⟩:=(show ∃t,u=Value.str x t from r);subst e;exact rW P w x t
theorem oN {P:Vz}{w:VG}:∀{ks:List Key} {us:List Vv},Vals (ks.map kV) us->ItemsAre (aY P w) ks us
 |[],_,r=>by rw[List.map_nil]at r;cases r;exact .nil
 |k::ks,_,r=>by
  rw[VM]at r;cases r with
  |cons h t=>exact .cons (sd h) (oN t)
abbrev KT (H:Hp):List (List Key×V)->List (List Key×Addr×Vv)->Prop:=Paired λp q=>p.1=q.1/\H q.2.1=some (.tup (p.1.map kV))/\RelV p.2 q.2.2
theorem KT.val {H:Hp}{kvs:List (List Key×V)}{xs:List (List Key×Addr×Vv)}(r:KT H kvs xs)(k:List Key):om (ef kvs k) ((Z4 xs k).map (·.2)):=by
 induction r with
 |nil=>exact Yo
 | @cons p q ps qs h t ih =>
  obtain⟨h1,_,h2⟩:=h
  by_cases e:p.1=k
  ·have e':q.1=k:=h1.symm.trans e;have b:Z4 (q::qs) k=some q.2:=by simp[Z4,Wd,e']
   rw[l4 e,b];exact h2
  ·have e':¬ q.1=k:=λz=>e (h1.trans z);have b:Z4 (q::qs) k=Z4 qs k:=by simp[Z4,Wd,e']
   rw[l5 e,b];exact ih
theorem KT.GW {H:Hp}{kvs:List (List Key×V)}{xs:List (List Key×Addr×Vv)}(r:KT H kvs xs)(k:List Key){y:V}{u:Vv}(ry:RelV y u):
  KT H (kvs.map λkv=>if kv.1=k then (kv.1,y) else kv) (xs.map (putAt k u)):=by
 induction r with
 |nil=>exact .nil
 | @cons p q ps qs h t ih =>
  rw[VM,VM];refine .cons ?_ ih;obtain⟨h1,h2,h3⟩:=h;unfold putAt
  by_cases e:p.1=k
  ·rw[if_pos e,if_pos (h1.symm.trans e)];exact⟨h1,h2,ry⟩
  ·rw[if_neg e,if_neg (λz=>e (h1.trans z))];exact⟨h1,h2,h3⟩
theorem KT.put {H:Hp}{kvs:List (List Key×V)}{xs:List (List Key×Addr×Vv)}(r:KT H kvs xs)(k:List Key){b:Addr}{y:V}{u:Vv}(hb:H b=some (.tup (k.map kV)))(ry:RelV y u):
  KT H (putK kvs k y) (storedH xs k b u):=by
 have e:(kvs.any λkv=>decide (kv.1=k))=(Z4 xs k).isSome:=by
  rw[l6,(r.val k).kK,Zp]
 unfold putK storedH;rw[e]
 by_cases q:(Z4 xs k).isSome=true
 ·rw[if_pos q,if_pos q];exact r.GW k ry
 ·rw[if_neg q,if_neg q];exact Paired.snoc r ⟨rfl,hb,ry⟩
theorem KT.keeps {H H':Hp}{kvs:List (List Key×V)}{xs:List (List Key×Addr×Vv)}(r:KT H kvs xs)(ht:∀b ys,H b=some (.tup ys)->H' b=some (.tup ys)):KT H' kvs xs :=
 Paired.H9 r λ_ _ z=>⟨z.1,ht _ _ z.2.1,z.2.2⟩
section
variable {P:Vz}{w:VG}{H:Hp}{h:Heap}{a:Addr}
theorem FJ {u:HO}(ok:gL P w H h)(e:Rd H a u):bp P w H h a u:=e.ok ok
theorem wz {kvs:List (Key×V)}(ok:gL P w H h)(e:Rd H a (.dK kvs)):kvs.length<=VH/\(a==Xb)=false/\∃vs,KV kvs vs/\h.DictOf (aY P w) a vs :=
 show bp P w H h a (.dK kvs) from FJ ok e
theorem sU {kvs:List (Key×V)}(ok:gL P w H h)(e:H a=some (.dK kvs)):kvs.length<=VH/\(a==Xb)=false/\∃vs,KV kvs vs/\h.DictOf (aY P w) a vs:=wz ok (.inl e)
theorem mS {ks:List Key}(ok:gL P w H h)(e:H a=some (.tup (ks.map kV))):(YJ (aY P w)).is h ks a:=by
 obtain⟨_,its,r,o,h1,h2,n,h3⟩:=(show bp P w H h a (.tup (ks.map kV)) from ok a _ e)
 exact⟨o,its.toArray,n,h1,h2,h3,by simpa using oN r⟩
theorem wy {kvs:List (List Key×V)}(ok:gL P w H h)(e:Rd H a (.dT kvs)):kvs.length<=VH/\(a==Xb)=false /\
  ∃xs,KT H kvs xs/\h.DictOfH (YJ (aY P w)) a xs:=by
 obtain⟨z,y,xs,r,o,es,ep,h1,h2,h3,h4,h5⟩:=(show bp P w H h a (.dT kvs) from FJ ok e)
 refine⟨z,y,xs,r,o,es,ep,h1,h2,h3,h4,λx hx=>?_,h5⟩;have all:∀{l:List (List Key×V)} {m:List (List Key×Addr×Vv)},KT H l m->∀x∈m,(YJ (aY P w)).is h x.1 x.2.1:=by
  intro l m q
  induction q with
  |nil=>intro x hx;exact nomatch hx
  | @cons p q ps qs hq t ih =>
   intro x hx;rcases VB.mp hx with e|hx
   ·subst e;exact mS ok (by rw[<- hq.1];exact hq.2.1)
   ·exact ih x hx
 exact all r x hx
theorem Gf {kvs:List (List Key×V)}(ok:gL P w H h)(e:H a=some (.dT kvs)):kvs.length<=VH/\(a==Xb)=false /\
  ∃xs,KT H kvs xs/\h.DictOfH (YJ (aY P w)) a xs:=wy ok (.inl e)
end
def tJ (H:Hp)(a:Addr)(y:V)(r:Option V):Prop :=
 (∃kvs k,Rd H a (.dK kvs)/\y=kV k/\r=ef kvs k)\/∃kvs k b,Rd H a (.dT kvs)/\y=.ref b/\H b=some (.tup (k.map kV))/\r=ef kvs k
def Np (H:Hp)(a:Addr)(y v:V)(H':Hp):Prop :=
 (∃kvs k,H a=some (.dK kvs)/\y=kV k/\kvs.length<VH/\H'=upd H a (.dK (putK kvs k v))) \/
 ∃kvs k b,H a=some (.dT kvs)/\y=.ref b/\H b=some (.tup (k.map kV))/\kvs.length<VH/\H'=upd H a (.dT (putK kvs k v))
theorem tJ.t {H:Hp}{a b:Addr}{kvs:List (List Key×V)}{k:List Key}(e:H a=some (.dT kvs))(eb:H b=some (.tup (k.map kV))):tJ H a (.ref b) (ef kvs k):=.inr ⟨kvs,k,b,.inl e,rfl,eb,rfl⟩
section
variable {X:Cx}{pins:List (Addr×Obj)}{σ:St}{H:Hp}{s:Vw}{a:Addr}{y v:V}{u r:Vv}{o:Option V}{A:Wv}{E:Vv->Vw->Prop}
theorem Inv.big (I:Inv X pins σ H s):Xb<s.heap.objs.size:=by
 have h:WZ<s.heap.objs.size:=(I.mod.glob.keeps I.bk).lt;exact Nat.lt_trans (by decide) h
theorem o8 {Q:Vv->Vw->Prop}(hu:A.units+1<XQ)(I:Inv X pins σ H s)(g:tJ H a y (some v))(ry:RelV y u)(h:∀w' s',Inv X pins σ H s'->RelV v w'->Q w' s'):
  VU (model X.prog X.w) A (Y5 (.ref a) u) Q E s:=by
 rcases g with⟨kvs,k,e,ey,l⟩|⟨kvs,k,b,e,ey,eb,l⟩
 ·subst ey;obtain⟨z,hd,vs,rel,dd⟩:=wz I.a6 e;obtain⟨w',hw,yH⟩:=om.some_of (v:=v) (o:=Zl vs k) (by rw[l];exact rel.val k)
  exact wpAny_getItem_of (sd ry) dd.mapOf hw (h w' _ (I.tok _) yH)
 ·subst ey;cases (show u=Value.ref b from ry)
  obtain⟨z,hd,xs,rel,dd⟩:=wy I.a6 e;obtain⟨w',hw,yH⟩:=om.some_of (v:=v) (o:=(Z4 xs k).map (·.2)) (by rw[l];exact rel.val k)
  obtain⟨p,hp,NQ⟩:=VQ.mp hw;refine wpAny_getItem_heap (Zb hu) (mS I.a6 eb) dd hp ?_;rw[NQ];exact h w' _ (I.tok _) yH
theorem QL {Q:Vv->Vw->Prop}(hu:A.units+1<XQ)(I:Inv X pins σ H s)(g:tJ H a y o)(ry:RelV y u)(h:∀s',Inv X pins σ H s'->Q (.bool o.isSome) s'):
  VU (model X.prog X.w) A (Ww .In u (.ref a)) Q E s:=by
 rcases g with⟨kvs,k,e,ey,l⟩|⟨kvs,k,b,e,ey,eb,l⟩
 ·subst ey;obtain⟨z,hd,vs,rel,dd⟩:=wz I.a6 e;refine wpAny_in_of (sd ry) hd dd.mapOf ?_;rw[<- (rel.val k).kK,<- l];exact h _ (I.tok _)
 ·subst ey;cases (show u=Value.ref b from ry)
  obtain⟨z,hd,xs,rel,dd⟩:=wy I.a6 e;refine wpAny_in_heap (Zb hu) (mS I.a6 eb) hd dd ?_;have q:=(rel.val k).kK;rw[Zp]at q;rw[<- q,<- l];exact h _ (I.tok _)
theorem lW {h':Heap}{t':Nat}{ob:HO}(I:Inv X pins σ H s)(mu:Ni (H a))(hs:WY a s.heap h')(he:∃q,h'.get? a=some q)(new:bp X.prog X.w (upd H a ob) h' a ob):
  Inv X pins σ (upd H a ob) {s with heap:=h',toks:=t'} :=
 I.write (x:=a) (e:=a) mu (.inl rfl) (λb q hb z=>(hs.2 b hb).trans z) he new
theorem B7 {P:Vz}{w:VG}{H':Hp}{h':Heap}{kvs:List (Key×V)}{vs:List (Key×Vv)}(z:kvs.length<=VH)(hd:(a==Xb)=false)(rel:KV kvs vs)(dd:h'.DictOf (aY P w) a vs):
  bp P w H' h' a (.dK kvs):=⟨z,hd,vs,rel,dd⟩
theorem yo {H':Hp}{Q:Unit->Vw->Prop}(hu:A.units+1<XQ)(I:Inv X pins σ H s)(g:Np H a y v H')(ry:RelV y u)(rv:RelV v r)(h:∀s',Inv X pins σ H' s'->Q () s'):
  VU (model X.prog X.w) A (setItem (.ref a) u r) Q E s:=by
 rcases g with⟨kvs,k,e,ey,l,eH⟩|⟨kvs,k,b,e,ey,eb,l,eH⟩
 ·subst ey eH;obtain⟨z,hd,vs,rel,dd⟩:=sU I.a6 e;have hz:vs.length<=VH:=by rw[<- rel.length];exact z
  have hl:(putK kvs k v).length<=VH:=by have:=fz kvs k v;lia
  refine wpAny_setItem_pairs (hsz:=hz) (sd ry) dd λh' E8 hs=>h _ ?_;have he:∃q,h'.get? a=some q:=let ⟨q,_,_,hq,_⟩:=E8;⟨q,hq⟩
  exact lW I (by rw[e];exact Yo) hs he (B7 hl hd (rel.put k rv) E8)
 ·subst ey eH;cases (show u=Value.ref b from ry)
  obtain⟨z,hd,xs,rel,dd⟩:=Gf I.a6 e;have hz:xs.length<=VH:=by rw[<- Paired.length rel];exact z
  have hl:(putK kvs k v).length<=VH:=by have:=fz kvs k v;lia
  refine wpAny_setItem_heap (hsz:=hz) (Zb hu) (mS I.a6 eb) dd λh' E8 hs=>h _ ?_;obtain⟨q,es,ep,hq,h2,h3,h4,_,h5⟩:=E8;refine lW I (by rw[e];exact Yo) hs ⟨q,hq⟩ ⟨hl,hd,_,(rel.put k eb rv).keeps λc ys ec=>?_,q,es,ep,hq,h2,h3,h4,h5⟩
  rw[ar (rT ec e (λz=>nomatch z))];exact ec
end
section
end
theorem lj {X:Cx} {pins:List (Addr×Obj)} {σ:St} {H:Hp} {s:Vw} {a:Addr} {y:V} {o:Option V} (I:Inv X pins σ H s) (g:tJ H a y o):s.TypeIs (.ref a) "dict" := by
 rcases g with⟨kvs,k,e,_,_⟩|⟨kvs,k,b,e,_,_,_⟩
 ·obtain⟨_,_,vs,_,dd⟩:=wz I.a6 e;exact dd.typeIs
 ·obtain⟨_,_,xs,_,dd⟩:=wy I.a6 e;exact dd.typeIs
def KC (td ty tv:TE):TS:=λD σ H=>tv σ H λv H1=>td σ H1 λx H2=>ty σ H2 λy H3=>∃a H4,x=.ref a/\Np H3 a y v H4/\D.nx σ H4
section
variable {X:Cx}{o i value:Expr}{pos pos':Pos}{td ty tv:TE}
theorem vC (hu:X.A.units+1<XQ)(ho:PE X o td)(hi:PE X i ty)(hv:PE X value tv)(hs:WU value (some (.Subscript o i pos')) pos.line X.env=pure false):
  PS X (.Assign [.Subscript o i pos'] value pos) (KC td ty tv):=by
 intro pins s σ H D I h;refine wpAny_Assign_Subscript (bt (hv pins s σ H _ I h) λr s1 ⟨v,H1,I1,rv,q1⟩=>bt (ho pins s1 σ H1 _ I1 q1) λu s2 ⟨x,H2,I2,rx,q2⟩=>bt (hi pins s2 σ H2 _ I2 q2) λiv s3 ⟨y,H3,I3,ry,a,H4,ex,g,q3⟩=>?_) hs;subst ex;obtain rfl:u=Value.ref a:=rx;exact yo hu I3 g ry rv λs4 I4=>⟨σ,H4,I4,q3⟩
end
theorem sV {P:Vz}{w:VG}{H:Hp}(h:Heap)(hb:Xb<h.objs.size):bp P w H (h.push {cls:=.type "dict",data:=.dict #[]}) h.objs.size (.dK []) :=
 ⟨VX _,beq_eq_false_iff_ne.mpr (Xg (V_ hb)),[],.nil,Heap.DictOf.new h⟩
theorem sR {P:Vz}{w:VG}{H:Hp}(h:Heap)(hb:Xb<h.objs.size):bp P w H (h.push {cls:=.type "dict",data:=.dict #[]}) h.objs.size (.dT []) :=
 ⟨VX _,beq_eq_false_iff_ne.mpr (Xg (V_ hb)),[],.nil,_,#[],0,VT _ rfl,⟨rfl,rfl,rfl⟩,rfl,rfl,Wg⟩
def GF:TE:=λ_ H Q=>∀p,H p=none->Q (.ref p) (upd H p (.dK []))
def GD:TE:=λ_ H Q=>∀p,H p=none->Q (.ref p) (upd H p (.dT []))
section
variable {X:Cx}{pos:Pos}
theorem Ae:PE X (.Dict [] [] pos) GF:=λpins s σ H Q I h =>
 wpAny_Dict_empty ⟨.ref s.heap.objs.size,_,I.laid (a:=s.heap.objs.size) (o:=.dK []) (t':=s.toks) (λ_ _ q=>Vx _ q) (VA _) (sV s.heap I.big),rfl,h _ (I.a6.fresh (VA _))⟩
theorem Ad:PE X (.Dict [] [] pos) GD:=λpins s σ H Q I h =>
 wpAny_Dict_empty ⟨.ref s.heap.objs.size,_,I.laid (a:=s.heap.objs.size) (o:=.dT []) (t':=s.toks) (λ_ _ q=>Vx _ q) (VA _) (sR s.heap I.big),rfl,h _ (I.a6.fresh (VA _))⟩
end
section
end
section
end
section
end
section
end
section
end
section
variable {κ:Type}[DecidableEq κ]
end
end L2
namespace L2.Q
open PySem PySem.Spec PySem.SeqAt PyProof.Rows
theorem _root_.L2.cS.fD {k:Nat}{A:Wv}(r:cS k A):A.units+1<XQ:=by have:=r.un;lia
def iK (t:List Int):List Key:=t.map Xf
theorem uI {t u:List Int}(h:iK t=iK u):t=u:=by
 unfold iK at h
 induction t generalizing u with
 |nil=>cases u with|nil=>rfl|cons _ _=>cases h
 |cons a t ih =>
  cases u with
  |nil=>cases h
  |cons b u =>
   rw[VM,VM]at h;injection h with h1 h2
   injection h1 with h1
   rw[h1,ih h2]
theorem Bo (t:List Int):(iK t).map kV=t.map V.int:=by
 unfold iK;rw[WO];rfl
def dP (ts:List (List Int))(b:Bool):D:=.dT (ts.map iK) (Ws ts.length (.bl b))
def j6 (ts:List (List Int))(t:List Int):List (List Int):=if t∈ts then ts else ts++[t]
theorem pX {v:V}:∀{ks:List (List Key)} {n:Nat},ks.length=n->ks.zip (Ws n v)=ks.map λk=>(k,v)
 |[],_,_=>by simp
 |k::ks,0,h=>by cases h
 |k::ks,n+1,h=>by
  rw[List.replicate_succ,Wu,pX (X2 h)];rfl
theorem Dn {v:V}{ts:List (List Int)}{t:List Int}:putK ((ts.map iK).map λk=>(k,v)) (iK t) v=((j6 ts t).map iK).map λk=>(k,v):=by
 unfold putK j6;have any:(((ts.map iK).map λk=>(k,v)).any λkv=>decide (kv.1=iK t))=decide (t∈ts):=by
  rw[ZT,List.any_eq_true,decide_eq_true_eq];constructor
  ·rintro⟨kv,h1,h2⟩;obtain⟨k,h3,rfl⟩:=V6.mp h1;obtain⟨u,h4,rfl⟩:=V6.mp h3;have:=uI (of_decide_eq_true h2);rw[<- this];exact h4
  ·intro h;exact⟨(iK t,v),V6.mpr ⟨iK t,V6.mpr ⟨t,h,rfl⟩,rfl⟩,by simp⟩
 rw[any]
 by_cases h:t∈ts
 ·rw[if_pos (by simpa using h),if_pos h,WO]
  refine W3 λk _=>?_;show (if k=iK t then (k,v) else (k,v))=(k,v)
  split <;> rfl
 ·rw[if_neg (by simpa using h),if_neg h,VI,VI]
  rfl
section
variable {P:Vz}{w:VG}{H:Hp}{a:Addr}
theorem vN {b:Bool}:∀{n:Nat},aF P w H (Ws n (.bl b)) (Ws n (V.bl b)) []
 |0=>⟨rfl,rfl⟩
 |n+1=>⟨_,_,[],[],rfl,rfl,⟨rfl,rfl⟩,vN⟩
theorem wI {b:Bool}:∀{n:Nat} {vs:List V} {A:List Addr},aF P w H (Ws n (.bl b)) vs A->vs=Ws n (V.bl b)/\A=[]
 |0,_,_,h=>h
 |n+1,_,_,⟨v,r,A1,A2,e,eA,h1,h2⟩=>by
  obtain⟨e1,e2⟩:=h1;obtain⟨e3,e4⟩:=wI h2;rw[e,eA,e1,e2,e3,e4];exact⟨rfl,rfl⟩
theorem Ar {ts:List (List Int)}{b:Bool}(h:H a=some (.dT ((ts.map iK).map λk=>(k,V.bl b)))):Own P w H (dP ts b) (.ref a) [a] :=
 ⟨a,Ws ts.length (V.bl b),[],rfl,by rw[pX (by simp)];exact h,by simp,rfl,vN⟩
theorem Jo {ts:List (List Int)}{b:Bool}{v:V}{A:List Addr}(h:Own P w H (dP ts b) v A):∃a,v=.ref a/\A=[a]/\H a=some (.dT ((ts.map iK).map λk=>(k,V.bl b))):=by
 obtain⟨a,vs,A',e,h1,l,eA,h2⟩:=h;obtain⟨e3,e4⟩:=wI h2;rw[e3,pX (by simp)]at h1
 exact⟨a,e,by rw[eA,e4],h1⟩
end
section
variable {X:Cx}{C:Cfg}{k:Expr}{φk:aE}{i:Nat}{x:Str}{pos pos' px pc:Pos}{b:Bool}
theorem Dv (b:Bool):PQ X C true (.Dict [] [] pos) (λβ R=>R (dP [] b) .own β) :=
 ⟨λβ R R' k h=>k _ _ _ h,Ad.pre λσ H Q h p hp=>by
  obtain⟨β,own,s,q⟩:=h;refine q _ _ own ((Out.refl s _).same (ay.new hp)) ⟨[p],Ar ao,by simp,λc hc=>?_⟩
  rw[VD.mp hc];exact⟨hp,λz=>s.qw p z hp,VS λz=>s.eZ p z hp⟩⟩
theorem vL {j}(hu:X.A.units+1<XQ)(hk:PQ X C.z true k φk)(hn:Nm X i x:=by exact xN)
  (hs:WU (.Constant (.bool b) j pc) (some (.Subscript (.Name x px) k pos')) pos.line X.env=pure false:=by rfl) :
  PB X C (.Assign [.Subscript (.Name x px) k pos'] (.Constant (.bool b) j pc) pos) (λE β=>(∃ts,β[i]?=some (some (.own (dP ts b))))/\φk β λjd _ β2=>∃ts t,jd=kD t/\β2[i]?=some (some (.own (dP ts b)))/\ts.length<VH/\E.nx (β2.set i (some (.own (dP (j6 ts t) b))))):=by
 refine⟨λE E' β l h=>⟨h.1,hk.mono _ _ _ (λjd _ β2 h=>by obtain⟨ts,t,h1,h2,h3,q⟩:=h;exact⟨ts,t,h1,h2,h3,l.nx _ q⟩) h.2⟩,(vC hu (fT (pos:=px) hn) hk.pe (Ai (j:=j) (pos:=pc)) hs).pre λDe σ H h=>?_⟩
 obtain⟨Z,E,β,⟨own,s0,n⟩,⟨⟨U9,CT⟩,q⟩,ok⟩:=h;obtain⟨v0,yM,Vc,_⟩:=s0.ow i _ CT;refine⟨v0,yM,tQ.of hk s0 q λjd kk β2 v H1 aw h o r=>?_⟩;obtain⟨ts,t,e1,hb,hl,q⟩:=h;subst e1;obtain⟨v1,LQ,ow,h0⟩:=o.sq.ow i _ hb;rw[yM]at LQ;cases LQ;obtain⟨a,rfl,eA,ha⟩:=Jo ow;obtain⟨p,vs,rfl,hp,rv⟩:=r.rep;have ev:vs=(iK t).map kV:=by
  rw[Bo];have key:∀(t:List Int) (vs:List V),ai X.prog X.w (av C.z (Wn aw) kk) H1 (t.map D.int) vs->vs=t.map V.int:=λt=>by
   induction t with
   |nil=>intro vs h;exact h
   |cons y t ih =>
    intro vs h;obtain⟨z,r',e1,e2,e3⟩:=h;rw[e1,ih r' e3,show z=V.int y from e2]
    rfl
  exact key t vs rv
 have Qd:a∈aw i:=by rw[eA];simp
 refine⟨a,_,rfl,.inr ⟨_,iK t,p,ha,rfl,by rw[<- ev];exact hp,by rw[Vt,Vt];exact hl,rfl⟩,?_⟩
 have hA:∀c∈[a],c∈aw i\/(C.H0 c=none/\¬ Wn aw c/\(λ_=>False) c):=λc hc=>.inl (by rw[VD.mp hc];exact Qd)
 have r':Own X.prog X.w (upd H1 a (.dT (putK ((ts.map iK).map λk=>(k,V.bl b)) (iK t) (V.bl b)))) (dP (j6 ts t) b) (.ref a) [a]:=Ar (by rw[Dn];exact ao)
 exact ok.nx _ _ _ ⟨_,o.sq.G9 (C:=C) (U:=λ_=>False) (U2:=λ_=>False) hb yM Qd r' (by simp) hA (λ_ z=>z) (λ_ _ z=>z),kf (C:=C) (n.trans o.sn) (λ_ z=>z.elim) ⟨i,Qd⟩ ⟨_,ha,λxs z=>by cases z⟩ hA⟩ q
end
end L2.Q
namespace L2
open PySem PySem.Spec PySem.SeqAt PyProof.Rows
def D.int?:D->Option Int
 |.int i=>some i
 |_=>none
def D.Lx:D->Option (List D)
 |.lst ds=>some ds
 |_=>none
theorem D.Ez {d:D}{i:Int}(h:d.int?=some i):d=.int i:=by
 cases d <;> first|(cases h;rfl)|cases h
theorem D.El {d:D}{ds:List D}(h:d.Lx=some ds):d=.lst ds:=by
 cases d <;> first|(cases h;rfl)|cases h
noncomputable def jZ:List D->Option (List Int)
 |[]=>some []
 |d::ds=>d.int?.bind λi=>(jZ ds).map (i::·)
theorem nC:∀{ds:List D} {ns:List Int},jZ ds=some ns->ds=ns.map D.int
 |[],_,h=>by cases h;rfl
 |d::ds,ns,h=>by
  obtain⟨i,h1,h2⟩:=WH.mp h;obtain⟨ms,h3,rfl⟩:=VQ.mp h2;rw[D.Ez h1,nC h3];rfl
theorem iw:∀ns:List Int,jZ (ns.map D.int)=some ns
 |[]=>rfl
 |n::ns=>by
  show (some n).bind (λi=>(jZ (ns.map D.int)).map (i::·))=_;rw[iw ns];rfl
noncomputable def iu (f:List Int->Option Int):List D->Option D
 |[d]=>d.Lx.bind λds=>(jZ ds).bind λns=>(f ns).map D.int
 |_=>none
theorem uW {f:List Int->Option Int}{ds:List D}{d:D}(h:iu f ds=some d):∃ns i,ds=[.lst (ns.map D.int)]/\f ns=some i/\d=.int i:=by
 cases ds with
 |nil=>cases h
 |cons x r =>
  cases r with
  |cons _ _=>cases h
  |nil =>
   obtain⟨es,h1,h2⟩:=WH.mp h;obtain⟨ns,h3,h4⟩:=WH.mp h2;obtain⟨i,h5,rfl⟩:=VQ.mp h4;exact⟨ns,i,by rw[D.El h1,nC h3],h5,rfl⟩
theorem nz {f:List Int->Option Int}{ns:List Int}{i:Int}(h:f ns=some i):iu f [.lst (ns.map D.int)]=some (.int i):=by
 show (some (ns.map D.int)).bind (λds=>(jZ ds).bind λns=>(f ns).map D.int)=_;rw[Xl,iw,Xl,h];rfl
def fU:List Int->Option Int
 |[]=>none
 |n::ns=>some (ns.foldl max n)
theorem cw:∀(ns:List Int) (n:Int),(ns.foldl max n∈n::ns)/\∀x∈n::ns,x<=ns.foldl max n
 |[],n=>⟨by simp,λx hx=>by simp at hx;rw[hx];exact Int.le_refl _⟩
 |m::ns,n=>by
  obtain⟨h1,h2⟩:=cw ns (max n m);have hm:max n m<=ns.foldl max (max n m):=h2 _ (by simp)
  refine⟨?_,λx hx=>?_⟩
  ·rw[Yi];rcases VB.mp h1 with h|h
   ·rw[h]
    by_cases q:n<=m
    ·rw[show max n m=m by lia];simp
    ·rw[show max n m=n by lia];simp
   ·simp[h]
  ·rw[Yi];rcases VB.mp hx with rfl|hx
   ·lia
   ·rcases VB.mp hx with rfl|hx
    ·lia
    ·exact h2 x (by simp[hx])
section
variable {X:Cx}
theorem l0:∀{ns:List Int} {us:List Vv},Vals (ns.map V.int) us->∃xs:Array (Int×Tok),us.toArray=intItems xs/\xs.toList.map (·.1)=ns
 |[],_,h=>by cases h;exact⟨#[],by simp[intItems],rfl⟩
 |n::ns,_,h=>by
  cases h with
  |cons h1 h2 =>
   obtain⟨t,rfl⟩:=h1;obtain⟨xs,e1,e2⟩:=l0 h2;refine⟨⟨(n,t)::xs.toList⟩,?_,by simp[e2]⟩
   have:=congrArg Array.toList e1;simp[intItems]at this ⊢
   exact this
theorem kG {xs:Array (Int×Tok)}{ns:List Int}(e:xs.toList.map (·.1)=ns)(i:Nat):numAt xs i=ns.getD i 0:=by
 subst e;unfold numAt;rw[Wj,VJ,Wm]
theorem Fo {xs:Array (Int×Tok)}{ns:List Int}(e:xs.toList.map (·.1)=ns){i:Nat}{v:Vv}(h:(intItems xs)[i]?=some v):RelV (.int (ns.getD i 0)) v:=by
 obtain⟨t,rfl⟩:=intItems_at h;exact⟨t,by rw[kG e]⟩
theorem ints_size {xs:Array (Int×Tok)}{ns:List Int}(e:xs.toList.map (·.1)=ns):xs.size=ns.length:=by rw[<- e];simp
theorem pz (hc:X.calm=true):bO X (.builtin "max") (iu fU):=by
 intro pins s σ H xs us Q I r h;obtain⟨W,ds,d,hd,r1,e,q⟩:=h;obtain⟨ns,i,rfl,e1,rfl⟩:=uW e;obtain⟨x,rfl,p,vs,rfl,h1,n1,q1⟩:=tw r1;obtain⟨u,rfl,ru⟩:=vals1 r;cases ru;rw[cT q1]at h1;obtain⟨its,r2,ht,hz⟩:=I.list (eE.of h1);obtain⟨ys,UB,e2⟩:=l0 r2;have hs:=ints_size e2;cases ns with
 |nil=>cases e1
 |cons n ns =>
  rw[Wa]at hs;refine max_intList (I.ok.hd hc) (xs:=ys) (by rw[<- UB];exact ht.isList) (by lia) λv h' tk hv k=>⟨.int i,H,I.kept k,?_,q _ _ (ay.refl _) rfl⟩
  have hr:=Fo e2 hv;obtain⟨g1,g2⟩:=argBest_gt (numAt ys) (ys.size-1);generalize argBest (λi j=>decide (numAt ys i>numAt ys j)) (ys.size-1)=b at *
  have hb:b<(n::ns).length:=by rw[Wa];lia
  have:(n::ns).getD b 0=i:=by
   cases e1;obtain⟨f1,f2⟩:=cw ns n;have hle:∀x∈n::ns,x<=(n::ns).getD b 0:=λx hx=>by
    obtain⟨j,hj,rfl⟩:=Y7 hx;have:=g2 j (by rw[Wa]at hj;lia)
    rw[kG e2,kG e2]at this;rw[Wj,VC hj]at this;exact this
   have lC:(n::ns).getD b 0∈n::ns:=by
    rw[Wj,VC hb];exact WC hb
   have:=hle _ f1;have:=f2 _ lC;lia
  rw[<- this];exact hr
end
end L2
namespace L2.Q
open PySem PySem.Spec PySem.SeqAt PyProof.Rows
def dA (kvs:List (List Int×D)):D:=.dT (kvs.map λp=>iK p.1) (kvs.map (·.2))
def l8 (kvs:List (List Int×D))(t:List Int):Option D:=(kvs.find? λp=>decide (p.1=t)).map (·.2)
def _root_.L2.D.LH:D->Option (List (List Key)×List D)
 |.dT ks ds=>some (ks,ds)
 |_=>none
theorem Ey {d:D}{ks:List (List Key)}{ds:List D}(h:d.LH=some (ks,ds)):d=.dT ks ds:=by
 cases d <;> first|(cases h;rfl)|cases h
def l7 (ks:List (List Key))(ds:List D)(k:List Key):Option D:=((ks.zip ds).find? λp=>decide (p.1=k)).map (·.2)
theorem Ew {d:D}{es:List D}(h:d.LG=some es):d=.tup es:=by
 cases d <;> first|(cases h;rfl)|cases h
def yq (a b:D):Option ((List (List Key)×List D)×List Int):=a.LH.bind λp=>b.LG.bind λes=>(jZ es).map λt=>(p,t)
theorem E_ {a b:D}{ks:List (List Key)}{ds:List D}{t:List Int}(h:yq a b=some ((ks,ds),t)):a=.dT ks ds/\b=.tup (t.map D.int):=by
 obtain⟨p,h1,h2⟩:=WH.mp h;obtain⟨es,h3,h4⟩:=WH.mp h2;obtain⟨t',h5,h6⟩:=VQ.mp h4;cases h6;exact⟨Ey h1,by rw[Ew h3,nC h5]⟩
theorem E9 {kvs:List (List Int×D)}{t:List Int}:yq (dA kvs) (.tup (t.map D.int))=some ((kvs.map λp=>iK p.1,kvs.map (·.2)),t):=by
 show (some _).bind (λp=>(some (t.map D.int)).bind λes=>(jZ es).map λt=>(p,t))=_;rw[Xl,Xl,iw];rfl
theorem tY {t:List Int}:∀{kvs:List (List Int×D)},l7 (kvs.map λp=>iK p.1) (kvs.map (·.2)) (iK t)=l8 kvs t
 |[]=>rfl
 |p::kvs=>by
  have ih:=tY (t:=t) (kvs:=kvs);unfold l7 l8 at *
  rw[VM,VM,Wu,Wd,Wd]
  by_cases h:p.1=t
  ·rw[decide_eq_true (congrArg iK h),decide_eq_true h];rfl
  ·rw[decide_eq_false (λz=>h (uI z)),decide_eq_false h];exact ih
def wF (a b:D):Option D:=(yq a b).bind λz=>l7 z.1.1 z.1.2 (iK z.2)
theorem Fc {kvs:List (List Int×D)}{t:List Int}:wF (dA kvs) (.tup (t.map D.int))=l8 kvs t:=by
 unfold wF;rw[E9,Xl];exact tY
noncomputable def Jr (b a:D):Option D:=(yq a b).map λz=>.bl (l7 z.1.1 z.1.2 (iK z.2)).isSome
section
variable {P:Vz}{w:VG}{W:Addr->Prop}{H:Hp}
theorem lL {k:List Key}:∀{ks:List (List Key)} {ds:List D} {vs:List V},ks.length=vs.length->ai P w W H ds vs->(ef (ks.zip vs) k).isSome=(l7 ks ds k).isSome/\∀d,l7 ks ds k=some d->∃v,ef (ks.zip vs) k=some v/\az P w W H d v
 |[],ds,vs,_,_=>by
  unfold ef l7;rw[List.zip_nil_left,List.zip_nil_left];exact⟨rfl,λd h=>by cases h⟩
 |k'::ks,[],_,l,h=>by rw[show _=([]:List V) from h]at l;cases l
 |k'::ks,d::ds,_,l,⟨v,r,e,h1,h2⟩=>by
  subst e;obtain⟨i1,i2⟩:=lL (k:=k) (ks:=ks) (X2 l) h2;unfold ef l7 at *
  rw[Wu,Wu,Wd,Wd]
  by_cases hk:k'=k
  ·rw[decide_eq_true hk];exact⟨rfl,λd' e=>by cases e;exact⟨v,rfl,h1⟩⟩
  ·rw[decide_eq_false hk];exact⟨i1,i2⟩
end
section
variable {X:Cx}
theorem Bg {W:Addr->Prop}{H:Hp}{a b:D}{x y:V}{ks:List (List Key)}{ds:List D}{t:List Int}(h:yq a b=some ((ks,ds),t))(r1:Rp X W H a x)(r2:Rp X W H b y):∃p vs,x=.ref p/\tJ H p y (ef (ks.zip vs) (iK t))/\ks.length=vs.length/\ai X.prog X.w W H ds vs:=by
 obtain⟨rfl,rfl⟩:=E_ h;obtain⟨p,vs,rfl,e1,l,n,rs⟩:=r1;obtain⟨q,us,rfl,e2,rt⟩:=r2;rw[L2.cT rt]at e2;exact⟨p,vs,rfl,tJ.t e1 (by rw[Bo];exact e2),l,rs⟩
theorem LB (hu:X.A.units+1<XQ):Fw X (zF X wF NF):=by
 intro value slice pins s σ H x y v u Q I rx ry h hs;obtain⟨W,d1,d2,d,hd,r1,r2,e,q⟩:=h;obtain⟨⟨⟨ks,ds⟩,t⟩,h1,h2⟩:=WH.mp e;obtain⟨p,vs,rfl,g,l,rs⟩:=Bg h1 r1 r2;obtain⟨w',hw,yH⟩:=(lL l rs).2 d h2;rw[hw]at g;cases (show v=Value.ref p from rx)
 exact ZX (lj I g) PySem.F.slot_dict_getitem.lookup (o8 hu I g ry λu' s' I' r'=>⟨w',H,I',r',q w' H (ay.refl _) yH λf=>az.flat f yH⟩) hs
theorem vO (hu:X.A.units+1<XQ):cy X (Ww .In) Jr:=by
 intro pins s σ H x y v u Q I rx ry h;obtain⟨W,d1,d2,d,hd,r1,r2,e,q⟩:=h;obtain⟨⟨⟨ks,ds⟩,t⟩,h1,rfl⟩:=VQ.mp e;obtain⟨p,vs,rfl,g,l,rs⟩:=Bg h1 r2 r1;cases (show u=Value.ref p from ry)
 refine QL hu I g rx λs' I'=>⟨.bl _,H,I',rfl,q _ _ (ay.refl _) ?_⟩;rw[(lL l rs).1];rfl
end
theorem Hw {P:Vz}{w:VG}{H:Hp}{kvs:List (List Int×D)}{a:Addr}{vs:List V}{A:List Addr}(h:H a=some (.dT ((kvs.map λp=>iK p.1).zip vs)))(o:aF P w H (kvs.map (·.2)) vs A):Own P w H (dA kvs) (.ref a) (a::A) :=
 ⟨a,vs,A,rfl,h,by rw[Vt,o.length,Vt],rfl,o⟩
theorem Gu {P:Vz}{w:VG}{H:Hp}{kvs:List (List Int×D)}{vs:List V}{A:List Addr}{t:List Int}(o:aF P w H (kvs.map (·.2)) vs A)(h:l8 kvs t=none):ef ((kvs.map λp=>iK p.1).zip vs) (iK t)=none:=by
 have:=(lL (k:=iK t) (ks:=kvs.map λp=>iK p.1) (W:=λ_=>False) (by rw[Vt,o.length,Vt]) (o.rep λc _ z=>z)).1
 rw[tY,h]at this;exact Yr.mp (by rw[<- Option.not_isSome,this];rfl)
section
end
end L2.Q
namespace L2
open PySem PySem.Spec PySem.SeqAt PyProof.Rows
def N8 (lo:Int)(n:Nat):It:=⟨λi _=>i<n,λi H x H'=>H'=H/\x=.int (lo-i),λi _=>n<=i⟩
theorem qU {P:Vz}{w:VG}{K:PySem.W.Frag}{tg:Expr}(it:Addr)(lo:Int)(n:Nat):Turn P w K tg (N8 lo n) [it] it (λi h=>ZM h it (lo+(i:Nat)*(-1)) ((n:Int)-(i:Nat)) (-1)) where
 mem:=by simp
 obj:=λi h st b hb=>by
  have e:b=it:=by simpa using hb
  subst e;exact⟨_,st,λv z=>by
   have z':Data.fields _=Data.cell v:=z;cases z'⟩
 keep:=λi h h' st k=>k it (by simp) _ st
 item:=by
  intro X hP hw hK hc i pins s σ H E I hf st hg;subst hP hw hK;obtain⟨f0,f1,f2,f3,f4,f5⟩:=hf it (by simp)
  have W:=Walks.range (prog:=X.prog) (w:=X.w) (I.ok.hd hc) it lo (-1) n;refine W.item i s _ _ hg st λv h' tk hv qK kk=>?_;obtain⟨t,rfl⟩:=hv;have I1:Inv X pins σ H {s with heap:=h',toks:=tk}:=I.turned (λb o hb e=>kk b o (by simpa using hb) e) f0 f1 f3 f4 f5
  refine⟨_,rfl,sF (s:={s with heap:=h',toks:=tk}) (n:="range_iterator") qK rfl rfl (by decide) ⟨.int (lo-i),H,I1,⟨t,?_⟩,⟨rfl,rfl⟩,qK,λb hb=>(hf b hb).1⟩⟩
  rw[Int.mul_neg,Int.mul_one];rfl
 done:=by
  intro X hP hw hK hc i pins s σ H E I hf st hg;subst hP hw hK;obtain⟨f0,f1,f2,f3,f4,f5⟩:=hf it (by simp)
  exact wpAny_pyNext_range_end (I.ok.hd hc) st (by have:n<=i:=hg;lia) λh' eb=>⟨rfl,I.turned (t':=s.toks) (λb o hb e=>eb b o hb e) f0 f1 f3 f4 f5⟩
 self:=λ_ _ _ _ _ st h=>wpAny_pyIter_rangeiter st h
theorem iQ (a b:Int):Xo a b (-1)=if b<a then a-b else 0:=by
 unfold Xo;rw[if_neg (by decide)]
 by_cases h:b<a
 ·rw[if_pos h,if_pos h,show -(-1:Int)=1 by decide,Int.ediv_one];lia
 ·rw[if_neg h,if_neg h]
theorem xg {a b:Int}(ha:-(2 ^ 62)<=a)(NV:a<2 ^ 62)(hb:-(2 ^ 62)<=b)(tP:b<2 ^ 62):Builtin.Range.small a b (-1)=true:=by
 unfold Builtin.Range.small;rw[iQ];simp only[Builtin.Range.rangeFitsLong,Wf,YS,decide_eq_true_eq,beq_iff_eq,show ¬ ((-1:Int)>0) by decide,if_false]
 split <;> lia
section
variable {X:Cx}{tg:Expr}
theorem xt {pins:List (Addr×Obj)}{σ:St}{H:Hp}{s:Vw}{R:It->Hp->Prop}{E:Vv->Vw->Prop}{lo hi:Int}{t u v:Tok}{tk:Nat}(I:Inv X pins σ H s)(h1:-(2 ^ 62)<=lo)(h2:lo<2 ^ 62)(h3:-(2 ^ 62)<=hi)(h4:hi<2 ^ 62)
  (q:R (N8 lo (lo-hi).toNat) H):VU (model X.prog X.w) X.A (Zd (.ref s.heap.objs.size)) (N5 X pins σ tg R) E {s with heap:=s.heap.push {cls:=.type "range",data:=.fields #[.int lo t,.int hi u,.int (-1) v]},toks:=tk}:=by
 refine wpAny_pyIter_range (IsRange.new ..) (xg h1 h2 h3 h4) ?_;have I1:Inv X pins σ H {s with heap:=s.heap.push {cls:=.type "range",data:=.fields #[.int lo t,.int hi u,.int (-1) v]},toks:=tk}:=I.kept λb o e=>Vx _ e
 refine⟨(s.heap.push {cls:=.type "range",data:=.fields #[.int lo t,.int hi u,.int (-1) v]}).objs.size,[(s.heap.push {cls:=.type "range",data:=.fields #[.int lo t,.int hi u,.int (-1) v]}).objs.size],_,_,H,rfl,
  I1.kept (t':=tk) λb o e=>Vx _ e,qU _ lo (lo-hi).toNat,?_,λb hb=>?_,q⟩
 ·have e1:lo+((0:Nat):Int)*(-1)=lo:=by simp
  have e2:(((lo-hi).toNat:Nat):Int)-((0:Nat):Int)=Xo lo hi (-1):=by rw[iQ];split <;> lia
  show ZM _ _ (lo+((0:Nat):Int)*(-1)) ((((lo-hi).toNat:Nat):Int)-((0:Nat):Int)) (-1);rw[e1,e2];exact VT _ rfl
 ·have e:b=(s.heap.push {cls:=.type "range",data:=.fields #[.int lo t,.int hi u,.int (-1) v]}).objs.size:=by simpa using hb
  subst e;exact I1.yf (VA _) (I1.a6.fresh (VA _))
def LI (ta:TA):TI:=λσ H R=>ta σ H λvs H1=>∃i j:Int,vs=[.int i,.int j,.int (-1)]/\(-(2 ^ 62)<=i/\i<2 ^ 62/\-(2 ^ 62)<=j/\j<2 ^ 62)/\R (N8 i (i-j).toNat) H1
theorem xC {a b c:Expr} {ta:TA} {p pos:Pos} (hg:Gl X "range") (hm:X.mg "range" = none) (ha:PA X [a,b,c] ta) (hs:VE [a,b,c] X.env=[(false,eval a X.env),(false,eval b X.env),(false,eval c X.env)]:=by rfl) (nP:VE [b,c] X.env=[(false,eval b X.env),(false,eval c X.env)]:=by rfl) :
  PI X tg (.Call (.Name "range" p) [a,b,c] [] pos) (LI ta):=by
 intro pins s σ H R I h;refine Call_ (g7 I hg hm Z1 (WQ (bt (ha pos pins s σ H _ I h) λus s1 gn=>?_) (by rw[hs,nP]) (by rw[nP];rfl)))
 obtain⟨vs,H1,I1,r1,q1⟩:=gn;obtain⟨i,j,e,⟨q1,q2,q3,q4⟩,q⟩:=q1;subst e;cases r1 with
 |cons r rr =>
  cases rr with
  |cons r' rr =>
   cases rr with
   |cons RA rr =>
    cases rr;obtain⟨t,rfl⟩:=r;obtain⟨t',rfl⟩:=r';obtain⟨Va,rfl⟩:=RA;exact call_range_3 (by decide) (xt I1 q1 q2 q3 q4 q) (.inl (PyProof.noPylong_of_log2 (by decide +kernel)))
def xr (hi:Int)(n:Nat):List D:=(VF n).map λ(k:Nat)=>D.int (hi-(k:Int))
theorem rp {hi:Int}{n i:Nat}{d:D}(h:(xr hi n)[i]?=some d):i<n/\d=.int (hi-i):=by
 unfold xr at h;rw[VJ]at h
 by_cases hi:i<n
 ·rw[Wz hi]at h;cases h;exact⟨hi,rfl⟩
 ·rw[WE (by simpa using hi)]at h;cases h
theorem rm {hi:Int}{n:Nat}:(xr hi n).length=n:=by unfold xr;simp
theorem uE {W:Addr->Prop}{H:Hp}{lo:Int}{n:Nat}:vb X W (N8 lo n) (xr lo n) H:=λ_ _ i H' k=>by
 constructor
 ·intro d hd;obtain⟨hi,rfl⟩:=rp hd;refine⟨hi,λx H1 y=>?_⟩;obtain⟨rfl,rfl⟩:=y;exact⟨ay.refl _,rfl⟩
 ·intro hl;rw[rm]at hl;exact hl
end
end L2
namespace L2.Q
open PySem PySem.Spec PySem.SeqAt PyProof.Rows
section
variable {X:Cx}{C:Cfg}{tg a b c:Expr}{φs:cc}{p:Bool}{pp pos:Pos}
def EB (φs:cc):bW:=λβ R=>φs β λds _ β'=>∃i j:Int,ds=[.int i,.int j,.int (-1)]/\(-(2 ^ 62)<=i/\i<2 ^ 62/\-(2 ^ 62)<=j/\j<2 ^ 62)/\R (xr i (i-j).toNat) .d9 β'
theorem M9 {W:Addr->Prop}{H:Hp}{a b c:D}{xs:List V}(h:tD X W H [a,b,c] xs):∃x y z,xs=[x,y,z]/\Rp X W H a x/\Rp X W H b y/\Rp X W H c z:=by
 obtain⟨x,r,rfl,hx,y,r',rfl,hy,z,RA,rfl,hz,hr⟩:=h;cases hr;exact⟨x,y,z,rfl,hx,hy,hz⟩
theorem uj (hm:X.mg "range" = none) (ha:qF X C p [a,b,c] φs) (hg:Gl X "range" := by rfl) (hs:VE [a,b,c] X.env=[(false,eval a X.env),(false,eval b X.env),(false,eval c X.env)]:=by rfl) (nP:VE [b,c] X.env=[(false,eval b X.env),(false,eval c X.env)]:=by rfl) :
  tR X C p tg (.Call (.Name "range" pp) [a,b,c] [] pos) (EB φs) :=
 ⟨λβ R R' k q=>ha.mono β _ _ (λd kd β' h=>by obtain⟨i,j,e,h1,q⟩:=h;exact⟨i,j,e,h1,k _ _ _ q⟩) q,(xC hg hm ha.pa hs nP).pre λσ H R h=>by
  obtain⟨β,own,s,q⟩:=h;refine qJ.of ha s q λds ks β' vs H1 aw h o1 r1=>?_;obtain⟨i,j,e,h1,q1⟩:=h;subst e;obtain⟨x,y,z,rfl,hx,hy,hz⟩:=M9 r1.kn;cases hx;cases hy;cases hz;exact⟨i,j,rfl,h1,q1 _ _ aw o1 uE⟩⟩
end
structure Ng (X:Cx)(C:Cfg)(tg iter:Expr)(ι:bW):Prop where
 mono:∀β R R',(∀d k β,R d k β->R' d k β)->ι β R->ι β R'
 pi:PI X tg iter λσ H R=>∃β own,SQ X C σ H β own/\ι β λds k β'=>∀J H',ay H H'->SQ X C σ H' β' own->vb X (eD C (Wn own) k) J ds H'->R J H'
section
variable {X:Cx}{C:Cfg}{tg a b:Expr}{φs:cc}{pp pos:Pos}{i:Nat}{x:Str}
theorem mC (hm:X.mg "range" = none) (ha:qF X C true [a,b] φs) (hg:Gl X "range" := by rfl) (hs:VE [a,b] X.env=[(false,eval a X.env),(false,eval b X.env)]:=by rfl) (nP:VE [b] X.env=[(false,eval b X.env)]:=by rfl) :
  Ng X C tg (.Call (.Name "range" pp) [a,b] [] pos) (EC φs) :=
 ⟨λβ R R' k q=>ha.mono β _ _ (λd kd β' h=>by obtain⟨i,j,e,h1,q⟩:=h;exact⟨i,j,e,h1,k _ _ _ q⟩) q,(xD hg hm ha.pa hs nP).pre λσ H R h=>by
  obtain⟨β,own,s,q⟩:=h;refine qJ.of ha s q λds ks β' vs H1 aw h o1 r1=>?_;obtain⟨i,j,e,h1,q1⟩:=h;subst e;obtain⟨s1,rfl⟩:=o1.pu rfl;obtain⟨x,y,rfl,hx,hy⟩:=Cu r1.kn;cases hx;cases hy;exact⟨i,j,rfl,h1,q1 _ _ s1 o1.sq oO⟩⟩
def IB (i:Nat):bW:=λβ R=>∃y ds,β[i]?=some (some (.val y (.tup ds)))/\R ds (yk y) β
theorem xw (hn:Nm X i x:=by exact xN):Ng X C tg (.Name x pos) (IB i) :=
 ⟨λβ R R' k h=>by obtain⟨y,ds,e,q⟩:=h;exact⟨y,ds,e,k _ _ _ q⟩,(Hh (fT (pos:=pos) hn)).pre λσ H R h=>by
  obtain⟨β,own,s,y,ds,e,q⟩:=h;obtain⟨v,hv,p,vs,rfl,h1,rs⟩:=s.val i y _ e;exact⟨_,hv,p,rfl,⟨vs,lr.of h1⟩,q _ _ (ay.refl _) s (Eu h1 rs)⟩⟩
end
structure SC (X:Cx)(C:Cfg)(W0:Addr->Prop)(T:List Nat)(σ0:St)(H1:Hp)(a:Addr)(Hb:Hp)(Wb:Addr->Prop)(Ac:Hp->Prop)(β:aJ)(σ':St)(H':Hp)(own:Nat->List Addr):Prop where
 sq:SQ X (C.u λc=>c=a) σ' H' β own
 sn:Sn (H1,W0) H' (Wn own)
 le:∀c,Wn own c->Wb c
 ac:Ac H'
 pu:ay H1 H'
 bs:∀b ob,b≠a->Hb b=some ob->H' b=some ob
 st:∀j,j∉T->σ'[j]?=σ0[j]?
abbrev oj {α:Type}(X:Cx)(C:Cfg)(W0:Addr->Prop)(T:List Nat)(σ0:St)(H1:Hp)(a:Addr)(Hb:Hp)(Wb:Addr->Prop)(Ac:α->Hp->Prop)(β:aJ)(o:α)(σ':St)(H':Hp):Prop:=∃own,SC X C W0 T σ0 H1 a Hb Wb (Ac o) β σ' H' own
structure tM {α:Type}(a:Addr)(Ac:α->Hp->Prop):Prop where
 same:∀o H H',ay H H'->Ac o H->Ac o H'
 Lg:∀o H xs,Ac o H->H a≠some (.tup xs)
abbrev zj (X:Cx)(C:Cfg)(a:Addr)(T:List Nat)(γ:cF):TG:=λv σ H Q=>∃own β d k,SQ X (C.u λc=>c=a) σ H β own/\Rp X (eD (C.u λc=>c=a) (Wn own) k) H d v/\γ d k β λβ'=>∀σ' aL,SQ X (C.u λc=>c=a) σ' H β' aL->(∀a,Wn aL a->Wn own a)->(∀j,j∉T->σ'[j]?=σ[j]?)->Q σ' H
abbrev Oj (X:Cx)(C:Cfg)(a:Addr)(φ:aE):j7:=λN σ H=>tQ X (C.u λc=>c=a) true φ σ H λv H1=>∃xs,H1 a=some (.lst xs)/\xs.length<VH/\N σ (upd H1 a (.lst (xs++[v])))
section
variable {α:Type}{X:Cx}{C:Cfg}{W0:Addr->Prop}{T Tg:List Nat}{σ0:St}{H1:Hp}{a:Addr}{Hb:Hp}{Wb:Addr->Prop}{γ:cF}{τ:aP}{φ:aE}{Ac:α->Hp->Prop}
theorem SC.next {o:α}(hA:tM a Ac){β β':aJ}{σ σ':St}{H H':Hp}{own aL:Nat->List Addr}(s:SC X C W0 T σ0 H1 a Hb Wb (Ac o) β σ H own)(sq:SQ X (C.u λc=>c=a) σ' H' β' aL)(w:∀c,Wn aL c->Wn own c)(sm:ay H H')(t:∀j,j∉T->σ'[j]?=σ[j]?):
  SC X C W0 T σ0 H1 a Hb Wb (Ac o) β' σ' H' aL :=
 ⟨sq,hG (s.sn.same sm) w,λc z=>s.le c (w c z),hA.same o _ _ sm s.ac,s.pu.trans sm,λb ob n e=>sm _ _ (s.bs b ob n e),λj hj=>(t j hj).trans (s.st j hj)⟩
theorem SC.put {A:Hp->Prop}{A':Hp->Prop}(h0:C.H0 a=none)(ha:H1 a=none){β:aJ}{σ:St}{H:Hp}{own:Nat->List Addr}{oa ob:HO}(s:SC X C W0 T σ0 H1 a Hb Wb A β σ H own)(e:H a=some oa)(nt:∀xs,oa≠.tup xs)(q:A' (upd H a ob)):
  SC X C W0 T σ0 H1 a Hb Wb A' β σ (upd H a ob) own:=by
 refine⟨s.sq.Dd e nt h0,⟨s.sn.w,s.sn.k.trans ((jg e nt).mono λb z=>.inr (by rw[z];exact ha)),λb z e=>?_⟩,s.le,q,λb o e=>?_,λb o n e=>?_,s.st⟩
 ·by_cases hb:b=a
  ·rw[hb,ao]at e;cases e
  ·rw[ar hb]at e;exact s.sn.d b z e
 ·rw[ar (λz'=>by rw[z',ha]at e;cases e)]
  exact s.pu b o e
 ·rw[ar n];exact s.bs b o n e
def Ob (P:Vz)(w:VG)(H1:Hp)(a:Addr)(o:List D)(H:Hp):Prop:=∃vs A,H a=some (.lst vs)/\aF P w H o vs A/\A.Nodup/\∀c∈A,H1 c=none/\c≠a
theorem nM {P:Vz}{w:VG}:tM a (Ob P w H1 a):=⟨λo H H' s h=>by
  obtain⟨vs,A,h1,h2,h3,h4⟩:=h;exact⟨vs,A,s _ _ h1,h2.keep (λb xs e=>s _ _ e) λc _ oc e=>s _ _ e,h3,h4⟩,λo H xs h z=>by
  obtain⟨vs,A,h1,_⟩:=h;rw[h1]at z;cases z⟩
def Gd (φ:aE)(o:List D)(β:aJ)(N:aJ->List D->Prop):Prop:=φ β λx kx β3=>Es kx x/\o.length<VH/\N β3 (o++[x])
theorem vx (h0:C.H0 a=none)(ha:H1 a=none)(φm:∀β R R',(∀d k β,R d k β->R' d k β)->φ β R->φ β R'){β:aJ}{o:List D}{σ:St}{H:Hp}{N:aJ->List D->Prop}(s:oj X C W0 T σ0 H1 a Hb Wb (Ob X.prog X.w H1 a) β o σ H)(q:Gd φ o β N):
  Oj X C a φ (λσ' H'=>∃β' o',oj X C W0 T σ0 H1 a Hb Wb (Ob X.prog X.w H1 a) β' o' σ' H'/\N β' o') σ H:=by
 obtain⟨own,s⟩:=s;refine⟨β,own,s.sq,φm _ _ _ (λxd kx β6 gn v H6 rP o6 r6=>?_) q⟩;obtain⟨f,hz,q⟩:=gn;obtain⟨sm,rfl⟩:=o6.pu rfl;have s6:=s.next nM (o6.sq) (λ_ z=>z) sm (λ_ _=>rfl)
 obtain⟨B',r1,r2,r3⟩:=r6.fl f;obtain⟨vs,A,at',os,nd,nw⟩:=s.ac;have kP:H6 a=some (.lst vs):=sm _ _ at';have FU:∀c∈B',c≠a:=λc hc z=>by rw[z]at hc;exact absurd (at'.symm.trans (r3 a hc).1) (λz=>(nomatch z))
 have kt:∀b xs,H6 b=some (.tup xs)->upd H6 a (.lst (vs++[v])) b=some (.tup xs):=λb xs z=>by rw[ar (λz'=>by rw[z',kP]at z;cases z)];exact z
 refine⟨vs,kP,by rw[os.length];exact hz,β6,o++[xd],⟨rP,s6.put h0 ha kP (λxs z=>by cases z) ⟨vs++[v],A++B',ao,?_,?_,λc hc=>?_⟩⟩,q⟩
 ·exact(os.keep (λb xs e=>kt b xs (sm _ _ e)) λc hc oc e=>by rw[ar (nw c hc).2];exact sm _ _ e).append (aF.one (r1.keep kt λc hc oc e=>by rw[ar (FU c hc)];exact e))
 ·refine Wk.mpr ⟨nd,r2,λx hx y hy e=>?_⟩;subst e;exact(os.ny x hx).1 (r3 x hy).1
 ·rcases VL.mp hc with hc|hc
  ·exact nw c hc
  ·exact⟨s.sn.free (r3 c hc).1,FU c hc⟩
def gZ {α:Type}(γ:cF)(τ:aP)(Af:α->aJ->(aJ->α->Prop)->Prop)(ds:List D)(k:Kd)(β0:aJ)(o0:α)(F:aJ->α->Prop):Prop:=∃I:Nat->aJ->α->Prop,I 0 β0 o0 /\
 (∀i d β o,ds[i]?=some d->I i β o->γ d (sk k d) β λβ1=>τ β1 λt β2=>if t=true then Af o β2 (I (i+1)) else I (i+1) β2 o)/\∀β o,I ds.length β o->F β o
theorem gZ.mono {Af:α->aJ->(aJ->α->Prop)->Prop}{ds:List D}{k:Kd}{β0:aJ}{o0:α}{F F':aJ->α->Prop}(h:∀β o,F β o->F' β o)(q:gZ γ τ Af ds k β0 o0 F):gZ γ τ Af ds k β0 o0 F':=by
 obtain⟨I,h0,h1,h2⟩:=q;exact⟨I,h0,h1,λβ o z=>h _ _ (h2 β o z)⟩
theorem vw (hA:tM a Ac)(hT:∀j∈Tg,j∈T)(γm:∀d k β R R',(∀r,R r->R' r)->γ d k β R->γ d k β R')(τm:∀β R R',(∀d β,R d β->R' d β)->τ β R->τ β R'){J:It}{ds:List D}{k:Kd}{Af:α->aJ->(aJ->α->Prop)->Prop}{ta:j7}{F:aJ->α->Prop}{End:St->Hp->Prop}{β0:aJ}{o0:α}{σ1:St}{Hs:Hp}
  (it:∀i β o σ' H',oj X C W0 T σ0 H1 a Hb Wb Ac β o σ' H'->(∀d,ds[i]?=some d->J.go i H'/\∀x H3,J.Kh i H' x H3->ay H' H3/\∀own,(∀c,Wn own c->Wb c)->az X.prog X.w (eD (C.u λc=>c=a) (Wn own) k) H3 d x)/\(ds.length<=i->J.stop i H'))
  (LR:∀β o σ' H' N,oj X C W0 T σ0 H1 a Hb Wb Ac β o σ' H'->Af o β N->ta (λza yD=>∃β' o',oj X C W0 T σ0 H1 a Hb Wb Ac β' o' za yD/\N β' o') σ' H')
  (s0:oj X C W0 T σ0 H1 a Hb Wb Ac β0 o0 σ1 Hs) (q:gZ γ τ Af ds k β0 o0 F) (fin:∀β o σ' H',oj X C W0 T σ0 H1 a Hb Wb Ac β o σ' H'->F β o->End σ' H') :
  eM J (zj X C a Tg γ) (iN X (C.u λc=>c=a) true τ) ta End σ1 Hs:=by
 obtain⟨I,i0,i1,i2⟩:=q;refine⟨λi m σ' H'=>i<=ds.length/\m=ds.length-i/\∃β o,oj X C W0 T σ0 H1 a Hb Wb Ac β o σ' H'/\I i β o,⟨_,VX _,rfl,β0,o0,s0,i0⟩,?_⟩;rintro i m σ2 H2 ⟨hi,rfl,β,o,sE,hl⟩;obtain⟨bJ,fK⟩:=it i β o σ2 H2 sE
 by_cases jm:i<ds.length
 ·right
  have hd:ds[i]?=some ds[i]:=VC jm;obtain⟨go,yl⟩:=bJ _ hd;refine⟨go,λσ' H'=>∃β' o',oj X C W0 T σ0 H1 a Hb Wb Ac β' o' σ' H'/\I (i+1) β' o',λσ' H' h=>⟨_,by omega,jm,rfl,h⟩,λx H3 y=>?_⟩
  obtain⟨s3,r3⟩:=yl x H3 y;obtain⟨own,s⟩:=sE;refine⟨own,β,_,_,s.sq.same s3,mj (r3 own s.le),γm _ _ _ _ _ (λβ4 q σ4 mK s4 w4 t4=>?_) (i1 i _ β o hd hl)⟩;have SW:=s.next hA s4 w4 s3 λj hj=>t4 j λz=>hj (hT j z)
  refine⟨β4,mK,s4,τm _ _ _ (λt β5 q H5 iC o5=>?_) q⟩;obtain⟨FI,rfl⟩:=o5.pu rfl;have Rv:=SW.next hA o5.sq (λ_ z=>z) FI λ_ _=>rfl
  cases t with
  |false=>exact⟨β5,o,⟨_,Rv⟩,q⟩
  |true=>exact LR β5 o σ4 H5 _ ⟨_,Rv⟩ q
 ·left
  have e:i=ds.length:=by omega
  subst e;exact⟨fK (VA _),fin β o σ2 H2 sE (i2 β o hl)⟩
def AU {α:Type}(ι:bW)(γ:cF)(τ:aP)(Af:α->aJ->(aJ->α->Prop)->Prop)(o:α)(β:aJ)(N:aJ->α->Prop):Prop:=ι β λds k β1=>gZ γ τ Af ds k β1 o N
theorem pU (hA:tM a Ac){ι:bW}(hT:∀j∈Tg,j∈T)(γm:∀d k β R R',(∀r,R r->R' r)->γ d k β R->γ d k β R')(τm:∀β R R',(∀d β,R d β->R' d β)->τ β R->τ β R'){Af:α->aJ->(aJ->α->Prop)->Prop}{ta:j7}
  (LR:∀Hb Wb β o σ' H' N,oj X C W0 T σ0 H1 a Hb Wb Ac β o σ' H'->Af o β N->ta (λza yD=>∃β' o',oj X C W0 T σ0 H1 a Hb Wb Ac β' o' za yD/\N β' o') σ' H')
  (ιm:∀β R R',(∀d k β,R d k β->R' d k β)->ι β R->ι β R') {β:aJ} {o:α} {σ:St} {H:Hp} {N:aJ->α->Prop} (s:oj X C W0 T σ0 H1 a Hb Wb Ac β o σ H) (q:AU ι γ τ Af o β N) :
  ∃β own,SQ X (C.u λc=>c=a) σ H β own/\ι β λds k β'=>∀J H',ay H H'->SQ X (C.u λc=>c=a) σ H' β' own->vb X (eD (C.u λc=>c=a) (Wn own) k) J ds H' ->
   eM J (zj X C a Tg γ) (iN X (C.u λc=>c=a) true τ) ta (λσ' H'=>∃β' o',oj X C W0 T σ0 H1 a Hb Wb Ac β' o' σ' H'/\N β' o') σ H':=by
 obtain⟨own,s⟩:=s;refine⟨β,own,s.sq,ιm _ _ _ (λds k β1 q J H' sm sq Tt=>?_) q⟩;have s1:=s.next hA sq (λ_ z=>z) sm λ_ _=>rfl
 have hu:eD (C.u λc=>c=a) (Wn own) k a:=.inr rfl;refine vw (Hb:=H') (Wb:=Wn own) hA hT γm τm (λi βx ox σx Hx sx=>?_) (λβx ox σx Hx Nx sx qx=>LR _ _ _ _ _ _ _ sx qx) ⟨own,⟨s1.sq,s1.sn,λ_ z=>z,s1.ac,s1.pu,λ_ _ _ e=>e,s1.st⟩⟩ q λβx ox σx Hx sx hx=>?_
 ·obtain⟨DJ,sx⟩:=sx;have kp:Kp (λb=>eD (C.u λc=>c=a) (Wn own) k b\/H' b=none) H' Hx:=⟨λb ob e n=>sx.bs b ob (λz=>n (.inl (by rw[z];exact hu))) e,λb xs e=>sx.bs b _ (λz=>hA.Lg _ _ _ s1.ac (by rw[<- z];exact e)) e⟩
  obtain⟨g1,g2⟩:=Tt (λb=>eD (C.u λc=>c=a) (Wn own) k b\/H' b=none) (λb z=>z) i Hx kp;refine⟨λd hd=>?_,g2⟩;obtain⟨go,yl⟩:=g1 d hd;refine⟨go,λx H3 y=>?_⟩;obtain⟨s3,r3⟩:=yl x H3 y;exact⟨s3,λaL Pc=>az.aO (λb z=>.inl (eX Pc k b z)) r3⟩
 ·obtain⟨DJ,sx⟩:=sx;exact⟨βx,ox,⟨DJ,⟨sx.sq,sx.sn,λc z=>s.le c (sx.le c z),sx.ac,sx.pu,λb ob n e=>sx.bs b ob n (s1.bs b ob n e),sx.st⟩⟩,hx⟩
theorem gP {lk:List (Option Nat)}{σ:St}{β:aJ}{own:Nat->List Addr}{oa:HO}(hA:tM a Ac){Af:α->aJ->(aJ->α->Prop)->Prop}{ta:j7}{J:It}{ds:List D}{k:Kd}{o0:α}{K:α->Prop}{End:Hp->Prop}
  (γm:∀d k β R R',(∀r,R r->R' r)->γ d k β R->γ d k β R') (τm:∀β R R',(∀d β,R d β->R' d β)->τ β R->τ β R') (Uk:∀j∈Tg,j∈T)
  (inj:∀(i i' j:Nat),lk[i]?=some (some j)->lk[i']?=some (some j)->i=i') (hT:∀i∈T,∀j,lk[i]?≠some (some j))
  (s1:SQ X C σ H1 β own) (ha:H1 a=none) (hk:hold k false) (it:vb X (av C (Wn own) k) J ds H1) (a0:Ac o0 (upd H1 a oa)) (ent:SQ X (C.u λc=>c=a) (de lk σ) (upd H1 a oa) (cG lk β) (bG lk β own))
  (LR:∀Hb Wb β' o σ' H' N,C.H0 a=none->oj X C (Wn (bG lk β own)) T (de lk σ) H1 a Hb Wb Ac β' o σ' H'->Af o β' N->ta (λza yD=>∃β' o',oj X C (Wn (bG lk β own)) T (de lk σ) H1 a Hb Wb Ac β' o' za yD/\N β' o') σ' H')
  (q:gZ γ τ Af ds k (cG lk β) o0 λβf o=>fC (cG lk β) βf/\K o)
  (fin:∀o H',K o->Out X C σ H1 own true β H' own->Ac o H'->End H') :
  eM J (zj X C a Tg γ) (iN X (C.u λc=>c=a) true τ) ta (λ_ H'=>End H') (de lk σ) (upd H1 a oa):=by
 have h0:C.H0 a=none:=VS λz=>s1.eZ a z ha;have sm:ay H1 (upd H1 a oa):=ay.new ha;refine vw (W0:=Wn (bG lk β own)) (T:=T) (σ0:=de lk σ) (H1:=H1) (Hb:=H1) (Wb:=Wn (bG lk β own)) hA Uk γm τm (λi βx ox σx Hx sx=>?_) (λβx ox σx Hx Nx sx qx=>LR _ _ _ _ _ _ _ h0 sx qx)
  ⟨bG lk β own,⟨ent,⟨λb z=>.inl z,sm.kp,λb z e=>z (sm.free e)⟩,λ_ z=>z,a0,sm,λb ob n e=>sm _ _ e,λ_ _=>rfl⟩⟩ q λβx ox σx Hx sx hx=>?_
 ·obtain⟨DJ,sx⟩:=sx;have kI:Kp (λb=>av C (Wn own) k b\/H1 b=none) H1 Hx:=sx.pu.kp;obtain⟨g1,g2⟩:=it (λb=>av C (Wn own) k b\/H1 b=none) (λb z=>z) i Hx kI;refine⟨λd hd=>?_,g2⟩;obtain⟨go,yl⟩:=g1 d hd;refine⟨go,λx H3 y=>?_⟩;obtain⟨s3,r3⟩:=yl x H3 y;exact⟨s3,λaL Pc=>az.aO (λc z=>z.elim (λz=>.inl (gy (λc z=>bF c (Pc c z)) k c z)) λz=>.inr (by rw[z];exact ha)) r3⟩
 ·obtain⟨DJ,sx⟩:=sx;obtain⟨hh,hK⟩:=hx;have lv:SQ X C σ Hx β own:=s1.leave sx.sq sx.sn sx.le hh λj ok i' e1 e2=>sx.st i' λz=>hT i' z j e2;exact fin ox Hx hK ⟨lv,⟨λb z=>.inl z,sx.sn.k.mono λb z=>z.imp (bF b) id,sx.sn.d⟩,λz=>⟨sx.pu,rfl⟩,λ_ z=>z⟩ sx.ac
end
theorem Cw {X:Cx}{C:Cfg}{σ:St}{H1 H':Hp}{β:aJ}{own:Nat->List Addr}{a:Addr}{o:List D}(s1:SQ X C σ H1 β own)(ha:H1 a=none)(h:Ob X.prog X.w H1 a o H'):KV X.prog X.w C (H1,Wn own) own H' .own (.lst o) (.ref a):=by
 obtain⟨vs,A,at',os,nd,nw⟩:=h;refine⟨a::A,⟨a,vs,A,rfl,at',rfl,os⟩,VZ.mpr ⟨λz=>(nw a z).2 rfl,nd⟩,λc hc=>?_⟩;have nZ:H1 c=none:=by
  rcases VB.mp hc with rfl|hc
  ·exact ha
  ·exact(nw c hc).1
 exact⟨nZ,λh=>by obtain⟨j,hj⟩:=h;exact(s1.dm j c hj).1 nZ,VS λz=>s1.eZ c z nZ⟩
def zK (lk:List (Option Nat))(ι:bW)(γ:cF)(τ:aP)(ι2:bW)(γ2:cF)(τ2:aP)(φ:aE):aE:=λβ R=>ι β λds k β1=>hold k false/\gZ γ τ (AU ι2 γ2 τ2 (Gd φ)) ds k (cG lk β1) [] λβf o=>fC (cG lk β1) βf/\R (.lst o) .own β1
section
variable {X:Cx}{C:Cfg}{lk:List (Option Nat)}{γ γ2:cF}{τ τ2:aP}{φ:aE}{T T2:List Nat}
variable {scope:Xw}{tg bJ iM fK elt:Expr}{ifs df:List Expr}{ι ι2:bW}{pi:Bool}{pos:Pos}{i:Nat}
theorem Tp (N':List Str)(lk:List (Option Nat))(L:fH X.env.scope.names X.N scope N' lk=true)(lb:N'.Nodup)(hc:X.calm=true)(hi:tR X C pi tg bJ ι)
  (jK:∀a cl c s H ex,qH (aq X scope N' cl c s H ex) (C.u λc=>c=a) tg T γ) (iR:∀a cl c s H ex,kY (aq X scope N' cl c s H ex) (C.u λc=>c=a) true ifs τ)
  (F5:∀a cl c s H ex,Ng (aq X scope N' cl c s H ex) (C.u λc=>c=a) iM fK ι2)
  (sv:∀a cl c s H ex,qH (aq X scope N' cl c s H ex) (C.u λc=>c=a) iM T2 γ2) (su:∀a cl c s H ex,kY (aq X scope N' cl c s H ex) (C.u λc=>c=a) true df τ2)
  (fb:∀a cl c s H ex,PQ (aq X scope N' cl c s H ex) (C.u λc=>c=a) true elt φ) (hT:(T++T2).all (λi=>match lk[i]? with|some (some _)=>false|_=>true)=true:=by rfl)
  (hs:∀x,V4 bJ X.env x=pure x:=by intro _;rfl) (nP:∀cl c s H ex x,V4 fK (aq X scope N' cl c s H ex).env x=pure x:=by intro _ _ _ _ _ _;rfl):PQ X C pi (.ListComp elt [⟨tg,bJ,ifs,0⟩,⟨iM,fK,df,0⟩] scope pos) (zK lk ι γ τ ι2 γ2 τ2 φ):=by
 have L:=Links.of L;have uM:∀i∈T++T2,∀j,lk[i]?≠some (some j):=λi hi j e=>by
  have:=WM.mp hT i hi;rw[e]at this;cases this
 have ax:Addr:=0;have Vq:List (Str×Addr):=[];have γm:=(jK 0 [] 0 X.s₀ X.H₀ []).mono;have τm:=(iR 0 [] 0 X.s₀ X.H₀ []).mono;have zb:=(sv 0 [] 0 X.s₀ X.H₀ []).mono;have y_:=(su 0 [] 0 X.s₀ X.H₀ []).mono;have φm:=(fb 0 [] 0 X.s₀ X.H₀ []).mono;have ιm:=(F5 0 [] 0 X.s₀ X.H₀ []).mono;refine⟨λβ R R' k h=>hi.mono β _ _ (λds kd β1 q=>⟨q.1,q.2.mono λ_ _ z=>⟨z.1,k _ _ _ z.2⟩⟩) h,?_⟩;refine(gU (g:=⟨tg,bJ,ifs,0⟩) (gs:=[⟨iM,fK,df,0⟩]) (tg:=λa=>zj X C a T γ) (tt:=λa=>iN X (C.u λc=>c=a) true τ)
  (ta:=λa N σ H=>∃β own,SQ X (C.u λc=>c=a) σ H β own/\ι2 β λds k β'=>∀J H',ay H H'->SQ X (C.u λc=>c=a) σ H' β' own->vb X (eD (C.u λc=>c=a) (Wn own) k) J ds H' ->
   eM J (zj X C a T2 γ2) (iN X (C.u λc=>c=a) true τ2) (Oj X C a φ) N σ H')
  L hc gY rfl rfl (λ_ _=>Cm) hi.pi (λa cl c s H ex=>⟨(jK a cl c s H ex).pg,(iR a cl c s H ex).pt,qb (X:=aq X scope N' cl c s H ex) (g':=⟨iM,fK,df,0⟩) rfl hc Ck (F5 a cl c s H ex).pi (sv a cl c s H ex).pg (su a cl c s H ex).pt (gX (X:=aq X scope N' cl c s H ex) rfl (fb a cl c s H ex).pe) (nP cl c s H ex)⟩) hs).pre λσ H Q h=>?_
 obtain⟨β,own,s,h⟩:=h;refine⟨β,own,s,hi.mono β _ _ (λds k β1 h J H1 aw o1 it a ha=>?_) h⟩;obtain⟨hk,q⟩:=h;refine gP (T:=T++T2) (nM (P:=X.prog) (w:=X.w) (H1:=H1)) γm τm (λj hj=>V3 _ hj) (bq L lb) uM o1.sq ha hk it ⟨[],[],ao,(show aF _ _ _ [] [] [] from ⟨rfl,rfl⟩),Wg,λc hc=>(nomatch hc)⟩ (o1.sq.enter ha (bq L lb))
  (λHb Wb βx ox σx Hx Nx h0 sx qx=>pU nM (λj hj=>VY _ hj) zb y_ (λHb Wb βy oy σy Hy Ny sy qy=>vx h0 ha φm sy qy) ιm sx qx) q λo H' q o2 r=>?_
 refine q _ _ aw ⟨o2.sq,o1.sn.trans o2.sn,λz=>⟨(o1.pu z).1.trans (o2.pu rfl).1,(o1.pu z).2⟩,o1.le⟩ ((Cw o1.sq ha r).later o1.sn)
end
end L2.Q
namespace L2
open PySem PySem.Spec PySem.SeqAt PyProof.Rows
section
variable {X:Cx}
theorem xO:nN X newDict (.dT []) :=
 ⟨λpins s σ H Q E I h=>WN (h _ _ (VA _) I.fresh (λb o e=>Vx _ e) (I.laid (t':=s.toks) (λ_ _ q=>Vx _ q) (VA _) (sR _ I.big)))⟩
theorem Ap {k v:Expr}{tk tv:TE}{a:Addr}(hx:X.xe=λ_ _=>False)(hu:X.A.units<XQ)(hk:PE X k tk)(hv:PE X v tv):
  lE X (gA (sQ k v (.ref a) X.env)) (λN σ H=>tk σ H λy H1=>tv σ H1 λv H2=>∃kvs key b,H2 a=some (.dT kvs)/\y=.ref b/\H2 b=some (.tup (key.map kV))/\kvs.length<VH/\N σ (upd H2 a (.dT (putK kvs key v)))):=by
 intro pins s σ H N kk Q E I h hN;unfold gA sQ;refine Vu (Vu (bt (dc hx (hk pins s σ H _ I h)) λu s1 gn=>?_));obtain⟨y,H1,I1,r1,q⟩:=gn;refine Vu (Wo (bt (dc hx (hv pins s1 σ H1 _ I1 q)) λw' s2 jJ=>?_));obtain⟨v,H2,I2,r2,kvs,key,b,e,ey,eb,l,q2⟩:=jJ;subst ey;cases (show u=Value.ref b from r1)
 refine Vu (W5 (Wo ?_));obtain⟨z,hd,xs,rel,dd⟩:=Gf I2.a6 e;have hz:xs.length<=VH:=by rw[<- Paired.length rel];exact z
 have hl:(putK kvs key v).length<=VH:=by have:=fz kvs key v;lia
 refine wpAny_dictSet_heap (hsz:=hz) (knd:=YJ (aY X.prog X.w)) hu (mS I2.a6 eb) dd λh' E8 hs=>hN σ _ _ ?_ q2;obtain⟨q,es,ep,hq,h2,h3,h4,_,h5⟩:=E8;refine lW I2 (by rw[e];exact Yo) hs ⟨q,hq⟩ ⟨hl,hd,_,(rel.put key eb r2).keeps λc ys ec=>?_,q,es,ep,hq,h2,h3,h4,h5⟩
 rw[ar (rT ec e (λz=>nomatch z))];exact ec
end
end L2
namespace L2.Q
open PySem PySem.Spec PySem.SeqAt PyProof.Rows
def Rk (P:Vz)(w:VG)(a:Addr)(o:List (List Int×D))(H:Hp):Prop:=∃vs,H a=some (.dT ((o.map λp=>iK p.1).zip vs))/\aF P w H (o.map (·.2)) vs []
theorem Cz {P:Vz}{w:VG}{a:Addr}:tM a (Rk P w a):=⟨λo H H' s h=>by
  obtain⟨vs,h1,h2⟩:=h;exact⟨vs,s _ _ h1,h2.keep (λb xs e=>s _ _ e) λc hc=>(nomatch hc)⟩,λo H xs h z=>by
  obtain⟨vs,h1,_⟩:=h;rw[h1]at z;cases z⟩
abbrev Ro (X:Cx)(C:Cfg)(a:Addr)(φk φ:aE):j7:=λN σ H=>tQ X (C.u λc=>c=a) true φk σ H λy H1=>tQ X (C.u λc=>c=a) true φ σ H1 λv H2=>∃kvs key b,H2 a=some (.dT kvs)/\y=.ref b/\H2 b=some (.tup (key.map kV))/\kvs.length<VH/\N σ (upd H2 a (.dT (putK kvs key v)))
def B0 (φk φ:aE)(o:List (List Int×D))(β:aJ)(N:aJ->List (List Int×D)->Prop):Prop:=φk β λkd _ β2=>φ β2 λx _ β3=>∃t,kd=.tup (t.map D.int)/\x.flat=true/\l8 o t=none/\o.length<VH/\N β3 (o++[(t,x)])
section
variable {X:Cx}{C:Cfg}{W0:Addr->Prop}{T:List Nat}{σ0:St}{H1:Hp}{a:Addr}{Hb:Hp}{Wb:Addr->Prop}{φ φk:aE}
theorem zy (h0:C.H0 a=none)(ha:H1 a=none)(tS:∀β R R',(∀d k β,R d k β->R' d k β)->φk β R->φk β R')(φm:∀β R R',(∀d k β,R d k β->R' d k β)->φ β R->φ β R'){β:aJ}{o:List (List Int×D)}{σ:St}{H:Hp}{N:aJ->List (List Int×D)->Prop}(s:oj X C W0 T σ0 H1 a Hb Wb (Rk X.prog X.w a) β o σ H)(q:B0 φk φ o β N):
  Ro X C a φk φ (λσ' H'=>∃β' o',oj X C W0 T σ0 H1 a Hb Wb (Rk X.prog X.w a) β' o' σ' H'/\N β' o') σ H:=by
 obtain⟨own,s⟩:=s;refine⟨β,own,s.sq,tS _ _ _ (λkd kk β5 q v5 H5 iC o5 r5=>?_) q⟩;obtain⟨FI,rfl⟩:=o5.pu rfl;refine⟨β5,_,o5.sq,φm _ _ _ (λxd kx β6 qm v H6 rP o6 r6=>?_) q⟩;obtain⟨t,e1,f,hn,hz,q2⟩:=qm;obtain⟨sm,rfl⟩:=o6.pu rfl;have s6:=s.next Cz o6.sq (λ_ z=>z) (FI.trans sm) (λ_ _=>rfl)
 subst e1;obtain⟨b,us,rfl,hb,rt⟩:=r5.rep;rw[L2.cT rt]at hb;obtain⟨vs,at',os⟩:=s6.ac;have OP:Own X.prog X.w H6 xd v []:=da f r6.rep;have l:(o.map λp=>iK p.1).length=vs.length:=by rw[Vt,os.length,Vt]
 have IV:putK ((o.map λp=>iK p.1).zip vs) (iK t) v=((o++[(t,xd)]).map λp=>iK p.1).zip (vs++[v]):=by
  rw[rD v (Gu os hn),VI,ZQ l];rfl
 have kt:∀c xs,H6 c=some (.tup xs)->upd H6 a (.dT (putK ((o.map λp=>iK p.1).zip vs) (iK t) v)) c=some (.tup xs):=λc xs z=>by rw[ar (λz'=>by rw[z',at']at z;cases z)];exact z
 refine⟨_,iK t,b,at',rfl,by rw[Bo];exact sm _ _ hb,by rw[ZR,<- l,Nat.min_self,Vt];exact hz,β6,o++[(t,xd)],⟨_,s6.put h0 ha at' (λxs z=>by cases z) ⟨vs++[v],by rw[ao,IV],?_⟩⟩,q2⟩
 rw[VI];exact(os.keep kt (A:=[]) λc hc=>by cases hc).append (aF.one (OP.keep kt (A:=[]) λc hc=>by cases hc))
end
def G6 (lk:List (Option Nat))(ι:bW)(γ:cF)(τ:aP)(φk φ:aE):aE:=λβ R=>ι β λds k β1=>hold k false/\gZ γ τ (B0 φk φ) ds k (cG lk β1) [] λβf o=>fC (cG lk β1) βf/\R (dA o) .own β1
section
variable {X:Cx}{C:Cfg}{lk:List (Option Nat)}{γ:cF}{τ:aP}{φ φk:aE}{T:List Nat}
variable {scope:Xw}{tg bJ ke elt:Expr}{ifs:List Expr}{ι:bW}{pi:Bool}{pos:Pos}{i:Nat}
theorem UD (hu:X.A.units<XQ)(N':List Str)(lk:List (Option Nat))(L:fH X.env.scope.names X.N scope N' lk=true)(lb:N'.Nodup)(hc:X.calm=true)(hi:tR X C pi tg bJ ι)
  (jK:∀a cl c s H ex,qH (aq X scope N' cl c s H ex) (C.u λc=>c=a) tg T γ) (iR:∀a cl c s H ex,kY (aq X scope N' cl c s H ex) (C.u λc=>c=a) true ifs τ)
  (MK:∀a cl c s H ex,PQ (aq X scope N' cl c s H ex) (C.u λc=>c=a) true ke φk) (fb:∀a cl c s H ex,PQ (aq X scope N' cl c s H ex) (C.u λc=>c=a) true elt φ) (hT:T.all (λi=>match lk[i]? with|some (some _)=>false|_=>true)=true:=by rfl)
  (hs:∀x,V4 bJ X.env x=pure x:=by intro _;rfl):PQ X C pi (.DictComp ke elt [⟨tg,bJ,ifs,0⟩] scope pos) (G6 lk ι γ τ φk φ):=by
 have L:=Links.of L;have uM:∀i∈T,∀j,lk[i]?≠some (some j):=λi hi j e=>by
  have:=WM.mp hT i hi;rw[e]at this;cases this
 have γm:=(jK 0 [] 0 X.s₀ X.H₀ []).mono;have τm:=(iR 0 [] 0 X.s₀ X.H₀ []).mono;have φm:=(fb 0 [] 0 X.s₀ X.H₀ []).mono;have tS:=(MK 0 [] 0 X.s₀ X.H₀ []).mono;refine⟨λβ R R' k h=>hi.mono β _ _ (λds kd β1 q=>⟨q.1,q.2.mono λ_ _ z=>⟨z.1,k _ _ _ z.2⟩⟩) h,?_⟩;refine(gU (g:=⟨tg,bJ,ifs,0⟩) (gs:=[]) (tg:=λa=>zj X C a T γ) (tt:=λa=>iN X (C.u λc=>c=a) true τ) (ta:=λa=>Ro X C a φk φ)
  L hc xO rfl rfl (λ_ _=>Gh) hi.pi (λa cl c s H ex=>⟨(jK a cl c s H ex).pg,(iR a cl c s H ex).pt,Ap (X:=aq X scope N' cl c s H ex) rfl hu (MK a cl c s H ex).pe (fb a cl c s H ex).pe⟩) hs).pre λσ H Q h=>?_
 obtain⟨β,own,s,h⟩:=h;refine⟨β,own,s,hi.mono β _ _ (λds k β1 h J H1 aw o1 it a ha=>?_) h⟩;obtain⟨hk,q⟩:=h;refine gP (T:=T) (Cz (P:=X.prog) (w:=X.w)) γm τm (λj hj=>hj) (bq L lb) uM o1.sq ha hk it ⟨[],ao,(show aF _ _ _ [] [] [] from ⟨rfl,rfl⟩)⟩ (o1.sq.uT (λxs z=>by cases z) ha (bq L lb))
  (λHb Wb βx ox σx Hx Nx h0 sx qx=>zy h0 ha tS φm sx qx) q λo H' q o2 r=>?_
 refine q _ _ aw ⟨o2.sq,o1.sn.trans o2.sn,λz=>⟨(o1.pu z).1.trans (o2.pu rfl).1,(o1.pu z).2⟩,o1.le⟩ ?_;obtain⟨vs,at',os⟩:=r;refine⟨[a],Hw at' os,by simp,λc hc=>?_⟩
 rw[VD.mp hc];exact⟨VS λz=>o1.sn.d a z ha,λh=>by obtain⟨j,hj⟩:=h;exact(o1.sq.dm j a hj).1 ha,VS λz=>o1.sq.eZ a z ha⟩
end
section
variable {X:Cx}{C:Cfg}{e a:Expr}{φ:aE}{p:Bool}{pos p2 p3 p4:Pos}{j:Nat}
theorem DA {te:TE}(he:PE X e te):PE X (.Subscript e (.Slice none none (some (.UnaryOp .USub (.Constant (.int 1) j p3) p4)) p2) pos) (λσ H Q=>te σ H λx H1=>∃a xs,x=.ref a/\H1 a=some (.lst xs)/\∀p,H1 p=none->Q (.ref p) (upd H1 p (.lst xs.reverse))):=by
 intro pins s σ H Q I h;refine Z5 (bt (he pins s σ H _ I h) λv s1 gn=>?_);obtain⟨x,H1,I1,r1,q1⟩:=gn;refine wpAny_Slice ?_;rw[Y_];refine Vy (Vy ?_);rw[evalPart_some];refine bt (Aa (X:=X) (pos:=p4) tZ (a9 (i:=1) (j:=j) (pos:=p3)) pins s1 σ H1 (λv H'=>v=.int (-1)/\H'=H1) I1 ⟨1,rfl,rfl,rfl⟩) λu s3 jJ=>?_;obtain⟨y,H3,I3,r3,ey,eH⟩:=jJ;subst ey eH;obtain⟨tk,rfl⟩:=(show ∃t,u=Value.int (-1) t from r3)
 have I4:Inv X pins σ H3 {s3 with heap:=s3.heap.push {cls:=.type "slice",data:=.fields #[.none,.none,.int (-1) tk]}}:=I3.kept (t':=s3.toks) λb ob q=>Vx _ q
 have CQ:(s3.heap.push {cls:=.type "slice",data:=.fields #[.none,.none,.int (-1) tk]}).IsSliceOf s3.heap.objs.size .none .none (.int (-1) tk):=Zh ..
 generalize Px:({s3 with heap:=s3.heap.push {cls:=.type "slice",data:=.fields #[.none,.none,.int (-1) tk]}}:Vw)=s4 at I4 ⊢
 have EE:s4.heap.IsSliceOf s3.heap.objs.size .none .none (.int (-1) tk):=by rw[<- Px];exact CQ
 have main:∃T id,typeLookup (.type T) "__getitem__" = pure (some (.builtin id))/\s4.TypeIs v T/\VU (model X.prog X.w) X.A (Y5 v (.ref s3.heap.objs.size)) (EP X pins σ Q) X.xe s4:=by
  obtain⟨a,xs,rfl,hx,q⟩:=q1;cases (show v=Value.ref a from r1)
  obtain⟨its,r,ht,hz⟩:=I4.list (eE.of hx);have hlen:=r.length;refine⟨"list",_,Yu.lookup,ht.isList.typeIs,?_⟩;refine YA ht.isList EE .none .none (.int (-1) tk) (by simp) ?_ (by rw[VO] <;> lia)
  rw[HT.iP];refine⟨.ref s4.heap.objs.size,_,I4.laid (t':=s4.toks) (o:=.lst xs.reverse) (λb ob q=>Vx _ q) (VA _) ?_,rfl,q _ (I4.a6.fresh (VA _))⟩;exact⟨by rw[Yj];lia,_,0,by simpa using Vals.rev r,VT _ rfl⟩
 obtain⟨T,id,hT,ht,hg⟩:=main;show VU (model X.prog X.w) X.A (Y9 e (.Slice none none (some (.UnaryOp .USub (.Constant (.int 1) j p3) p4)) p2) v (.ref s3.heap.objs.size)) (EP X pins σ Q) X.xe s4;exact ZX (ops:=[v,.ref s3.heap.objs.size]) ht hT hg (by with_unfolding_all rfl)
def M1:D->Option D
 |.lst ds=>some (.lst ds.reverse)
 |_=>none
def KO (φ:aE):aE:=λβ R=>φ β λx k β1=>∃d,M1 x=some d/\kN NL d k.wk λk'=>R d k' β1
theorem Du {j:Nat}(ha:PQ X C p a φ):PQ X C p (.Subscript a (.Slice none none (some (.UnaryOp .USub (.Constant (.int 1) j p3) p4)) p2) pos) (KO φ) :=
 ⟨λβ R R' k h=>ha.mono β _ _ (λx kx β1 h=>by obtain⟨d,e,q⟩:=h;exact⟨d,e,q.mono λ_ z=>k _ _ _ z⟩) h,
  (DA ha.pe).pre λσ H Q h=>by
    obtain⟨β,own,s,h⟩:=h;refine tQ.of ha s h λd k β1 v H1 aw h o1 r1=>?_;obtain⟨d',e,q⟩:=h;have rr:=az.aO wK r1.rep;cases d with
    |lst ds =>
      cases e;obtain⟨c,vs,rfl,h1,n1,rs⟩:=rr;refine⟨c,vs,rfl,h1,λp hp=>?_⟩;have sm:ay H1 (upd H1 p (.lst vs.reverse)):=ay.new hp;have hw:¬ av C (Wn aw) k.wk p:=λz=>o1.sq.B6 _ p z hp;have r2:az X.prog X.w (av C (Wn aw) k.wk) (upd H1 p (.lst vs.reverse)) (.lst ds.reverse) (.ref p):=⟨p,_,rfl,ao,hw,(ai.rev rs).same sm⟩;obtain⟨k',q,r⟩:=KV.kN (Z:=(H,Wn own)) zd r2 (λn=>ij (H:=H1) o1.sq.qw o1.sq.eZ (λa z e=>o1.sn.d a z e) n ⟨p,_,rfl,ao,λz=>z hp,ai.flat n ((ai.rev rs).same sm)⟩) q;exact q _ _ aw (o1.same sm) r
    |_=>cases e⟩
end
section
variable {X:Cx}{C:Cfg}{a:Expr}{φ:aE}{p:Bool}
def OR (φ:aE):aP:=λβ R=>φ β λd _ β'=>∃ds,d=.lst ds/\R (!ds.isEmpty) β'
theorem Ds (ha:PQ X C p a φ)(he:∀whole,ZC a X.env whole=(do let v <- whole;Yt a.pos;holding [v] (truthy v)):=by intro _;rfl):u_ X C p a (OR φ) :=
 ⟨λβ R R' k h=>ha.mono β _ _ (λd kd β' h=>by obtain⟨b,e,q⟩:=h;exact⟨b,e,k _ _ q⟩) h,(zO ha.pe he).pre λσ H Q h=>by
  obtain⟨β,own,s,h⟩:=h;refine tQ.of ha s h λd k β' v H1 aw h o1 r1=>?_;obtain⟨ds,e,q⟩:=h;subst e;obtain⟨c,vs,rfl,h1,n1,rs⟩:=r1.rep;refine⟨!ds.isEmpty,.inl ⟨vs,eE.of h1,?_⟩,q H1 aw o1⟩;have:=rs.length;cases ds <;> cases vs <;> first|rfl|cases this⟩
end
def O7:Option B->Option B
 |some (.shl _ _)=>none
 |b=>b
def fI (lk:List (Option Nat))(β:aJ):aJ:=lk.map λl=>match l with|some j=>(match β[j]? with|some b=>O7 b|none=>none)|none=>none
def F3:Option (Option B)->Bool
 |some (some (.hand _))=>true
 |some (some (.own _))=>true
 |_=>false
def bI (lk:List (Option Nat))(β:aJ)(own:Nat->List Addr)(i:Nat):List Addr:=match lk[i]? with
 |some (some j)=>if F3 β[j]?=true then own j else []
 |_=>[]
def vT:aJ->aJ->Prop
 |[],_=>True
 |some (.hand ok)::a,c=>c.head?=some (some (.hand ok))/\vT a c.tail
 |some (.own _)::a,c=>(∃d,c.head?=some (some (.own d)))/\vT a c.tail
 |_::a,c=>vT a c.tail
theorem vT.tl {x:Option B}{a c:aJ}(h:vT (x::a) c):vT a c.tail:=by
 cases x with
 |none=>exact h
 |some x=>cases x <;> first|exact h|exact h.2
theorem vT.jL:∀{a c:aJ} {i:Nat} {ok:List Int->Prop},vT a c->a[i]?=some (some (.hand ok))->c[i]?=some (some (.hand ok))
 |[],_,_,_,_,e=>by simp at e
 |x::a,c,0,ok,h,e=>by
  simp at e;subst e;rw[<- YM];exact h.1
 |x::a,c,i+1,ok,h,e=>by
  have:=vT.jL (i:=i) h.tl (by simpa using e)
  rwa [Zg]at this
theorem vT.own:∀{a c:aJ} {i:Nat} {d:D},vT a c->a[i]?=some (some (.own d))->∃d',c[i]?=some (some (.own d'))
 |[],_,_,_,_,e=>by simp at e
 |x::a,c,0,d,h,e=>by
  simp at e;subst e;rw[<- YM];exact h.1
 |x::a,c,i+1,d,h,e=>by
  obtain⟨d',e'⟩:=vT.own (i:=i) h.tl (by simpa using e)
  rw[Zg]at e';exact⟨d',e'⟩
def DL (lk:List (Option Nat))(βi:aJ)(j:Nat):Option B->Option B
 |some (.own d)=>(match lk.findIdx? (·==some j)with|some i=>(match βi[i]? with|some x=>x|none=>none)|none=>some (.own d))
 |b=>b
def k9 (lk:List (Option Nat))(βi:aJ):Nat->aJ->aJ
 |_,[]=>[]
 |j,b::r=>DL lk βi j b::k9 lk βi (j+1) r
def jf (lk:List (Option Nat))(β βi:aJ):aJ:=k9 lk βi 0 β
theorem oG {lk:List (Option Nat)}{βi:aJ}:∀{j:Nat} {β:aJ},(k9 lk βi j β).length=β.length
 |_,[]=>rfl
 |j,b::r=>by show (k9 lk βi (j+1) r).length+1=_;rw[oG];rfl
theorem oH {lk:List (Option Nat)}{βi:aJ}:∀{j i:Nat} {β:aJ},(k9 lk βi j β)[i]?=(β[i]?).map (DL lk βi (j+i))
 |_,_,[]=>by simp[k9]
 |j,0,b::r=>by simp[k9]
 |j,i+1,b::r=>by
  show (k9 lk βi (j+1) r)[i]?=_;rw[oH,Xn,show j+1+i=j+(i+1) by lia]
theorem uq {lk:List (Option Nat)}{β βi:aJ}{j:Nat}:(jf lk β βi)[j]?=(β[j]?).map (DL lk βi j):=by
 unfold jf;rw[oH,Yl]
def jj (lk:List (Option Nat))(j:Nat):Option Nat:=lk.findIdx? (·==some j)
theorem eJ {lk:List (Option Nat)}{j i:Nat}(h:jj lk j=some i):lk[i]?=some (some j):=by
 obtain⟨hi,h1,_⟩:=Zj.mp h;rw[VC hi,eq_of_beq h1]
theorem ph {lk:List (Option Nat)}{j i:Nat}(h:jj lk j=none):lk[i]?≠some (some j):=λe=>by
 have:=List.findIdx?_eq_none_iff.mp h (some j) (Wt e);simp at this
theorem As {lk:List (Option Nat)}{βi:aJ}{j:Nat}{d:D}:DL lk βi j (some (.own d))=(match jj lk j with|some i=>(match βi[i]? with|some x=>x|none=>none)|none=>some (.own d)):=rfl
section
variable {P:Vz}{w:VG}{C:Cfg}{σ σ':St}{H H' H1:Hp}{β βi:aJ}{own bS:Nat->List Addr}{lk:List (Option Nat)}{a:Addr}
theorem dD {i:Nat}{c:Addr}(h:c∈bI lk β own i):∃j,lk[i]?=some (some j)/\F3 β[j]?=true/\c∈own j:=by
 unfold bI at h
 split at h
 ·next j e =>
  by_cases q:F3 β[j]?=true
  ·rw[if_pos q]at h;exact⟨j,e,q,h⟩
  ·rw[if_neg q]at h;cases h
 ·cases h
theorem bc:∀c,Wn (bI lk β own) c->Wn own c:=λc ⟨i,h⟩=>let ⟨j,_,_,h⟩:=dD h;⟨j,h⟩
theorem oQ {i j:Nat}(e:lk[i]?=some (some j))(h:F3 β[j]?=true):bI lk β own i=own j:=by
 unfold bI;rw[e];exact if_pos h
theorem gm {i:Nat}{b:B}(h:(fI lk β)[i]?=some (some b)):∃j,lk[i]?=some (some j)/\β[j]?=some (some b)/\O7 (some b)=some b:=by
 unfold fI at h;rw[VJ]at h;cases q:lk[i]? with
 |none=>rw[q]at h;cases h
 |some l =>
  rw[q]at h;cases l with
  |none=>cases h
  |some j =>
   simp only[Xx]at h;cases q2:β[j]? with
   |none=>rw[q2]at h;cases h
   |some b2 =>
    rw[q2]at h;simp only[Zo]at h;cases b2 with
    |none=>cases h
    |some b2 =>
     cases b2 with
     |shl y d=>cases h
     |_=>cases h;exact⟨j,rfl,q2,rfl⟩
theorem kM {i j:Nat}{b:B}(e:lk[i]?=some (some j))(h:β[j]?=some (some b))(hb:O7 (some b)=some b:=by rfl):(fI lk β)[i]?=some (some b):=by
 unfold fI;rw[VJ,e];simp only[Xx];rw[h];exact congrArg some hb
theorem bz.Jl (s:bz P w C σ H β own)(ha:H a=none)(inj:∀(i i' j:Nat),lk[i]?=some (some j)->lk[i']?=some (some j)->i=i'):
  bz P w (C.u λc=>c=a) (de lk σ) (upd H a (.lst [])) (fI lk β) (bI lk β own):=by
 have sm:ay H (upd H a (.lst [])):=ay.new ha;have na:∀{i c},c∈own i->c≠a:=λ{i c} hc z=>(s.dm i c hc).1 (by rw[z];exact ha)
 have gr:∀k,∀c,eD (C.u λc=>c=a) (Wn (bI lk β own)) k c->eD C (Wn own) k c\/H c=none:=λk c z=>by
  rcases z with z|z
  ·exact .inl (.inl (gy bc k c z))
  ·exact .inr (by rw[z];exact ha)
 refine⟨by unfold fI de;simp,λi y d e=>?_,λi d e=>?_,λi ok e=>?_,λi c h=>?_,λi i' c h1 h2=>?_,λi=>?_,s.kp.trans sm.kp,λc z e=>s.eZ c z (sm.free e),λi y d e=>by
  obtain⟨j,e1,e2,e3⟩:=gm e;cases e3⟩
 ·obtain⟨j,e1,e2,e3⟩:=gm e;obtain⟨v,h1,h2⟩:=s.val j y d e2;exact⟨v,cu e1 h1,(az.grow (gr _) h2).same sm⟩
 ·obtain⟨j,e1,e2,e3⟩:=gm e;obtain⟨v,h1,h2,h3⟩:=s.ow j d e2;rw[oQ e1 (by rw[e2];rfl)]
  exact⟨v,cu e1 h1,h2.keep (λ_ _ e=>sm _ _ e) (λc _ o e=>sm c o e),h3⟩
 ·obtain⟨j,e1,e2,e3⟩:=gm e;obtain⟨h,ns,h1,h2,h3,h4,h5⟩:=s.jL j ok e2;exact⟨h,ns,cu e1 h1,sm _ _ h2,h3,by rw[oQ e1 (by rw[e2];rfl)];exact h4,h5⟩
 ·obtain⟨j,q1,q2,q3⟩:=dD h;obtain⟨g1,g2,g3,g4⟩:=s.dm j c q3;rw[ar (na q3)];exact⟨g1,g2,g3,na q3⟩
 ·obtain⟨j,q1,q2,q3⟩:=dD h1;obtain⟨j',NB,S_,OV⟩:=dD h2;have:=s.iI j j' c q3 OV;subst this;exact inj _ _ _ q1 NB
 ·unfold bI
  split
  ·next j e =>
   split
   ·exact s.jE j
   ·exact Wg
  ·exact Wg
def kA (lk:List (Option Nat))(β:aJ)(own bS:Nat->List Addr)(j:Nat):List Addr:=match β[j]? with
 |some (some (.own _))=>(match jj lk j with|some i=>bS i|none=>own j)
 |_=>own j
theorem bz.Ig (s:bz P w C σ H1 β own)(i:bz P w (C.u λc=>c=a) σ' H' βi bS)(n:Sn (H1,Wn (bI lk β own)) H' (Wn bS))(le:∀c,Wn bS c->Wn (bI lk β own) c)
  (inj:∀(i i' j:Nat),lk[i]?=some (some j)->lk[i']?=some (some j)->i=i')
  (hh:vT (fI lk β) βi) (hσ:∀(j i:Nat),lk[i]?=some (some j)->σ'[i]?=(de lk σ)[i]?):bz P w C σ H' (jf lk β βi) (kA lk β own bS)/\∀c,Wn (kA lk β own bS) c->Wn own c:=by
 have off:∀{j c},c∈own j->¬ Wn (bI lk β own) c->∀o,H1 c=some o->H' c=some o:=λ{j c} hc nw o e=>n.k.out c o e λz=>z.elim nw λz=>(s.dm j c hc).1 z;have sep:∀{j c},c∈own j->jj lk j=none\/F3 β[j]?=false->¬ Wn (bI lk β own) c:=λ{j c} hc q hq=>by
  obtain⟨i',nY⟩:=hq;obtain⟨j',q1,q2,q3⟩:=dD nY;have:=s.iI j j' c hc q3;subst this;rcases q with q|q
  ·exact ph q q1
  ·rw[q]at q2;cases q2
 have at_:∀{j c},c∈kA lk β own bS j->(∃d i',β[j]?=some (some (.own d))/\jj lk j=some i'/\c∈bS i')\/(c∈own j/\((∃d,β[j]?=some (some (.own d)))->jj lk j=none)):=λ{j c} h=>by
  unfold kA at h
  split at h
  ·next d e =>
   cases q:jj lk j with
   |none=>rw[q]at h;exact .inr ⟨h,λ_=>rfl⟩
   |some i'=>rw[q]at h;exact .inl ⟨d,i',e,rfl,h⟩
  ·next e =>
   refine .inr ⟨h,λnX=>by obtain⟨d,z⟩:=nX;exact(e d z).elim⟩
 have lo:∀c,Wn (kA lk β own bS) c->Wn own c:=λc sA=>by
  obtain⟨j,h⟩:=sA;rcases at_ h with⟨d,i',e,q,h⟩|⟨h,_⟩
  ·exact bc c (le c ⟨i',h⟩)
  ·exact⟨j,h⟩
 have hN:∀(j:Nat) (ok:List Int->Prop),β[j]?=some (some (B.hand ok))->∃a ns,σ[j]?=some (some (V.ref a))/\H' a=some (.lst (ns.map V.int))/\ok ns/\own j=[a]/\((∀b,¬ C.IO b)\/C.IO a):=λj ok e=>by
  obtain⟨h,ns,h1,h2,h3,h4,h5⟩:=s.jL j ok e;cases q:jj lk j with
  |none=>exact⟨h,ns,h1,off (j:=j) (by rw[h4];simp) (sep (by rw[h4];simp) (.inl q)) _ h2,h3,h4,h5⟩
  |some i' =>
   have q1:=eJ q;obtain⟨h',ly,g1,g2,g3,g4,g5⟩:=i.jL i' ok (hh.jL (kM q1 e));rw[hσ j i' q1,cu q1 h1]at g1;cases g1;exact⟨h,ly,h1,g2,g3,h4,h5⟩
 have ho:∀{j:Nat} {b:B},(jf lk β βi)[j]?=some (some b)->(∃d d' i',β[j]?=some (some (.own d))/\jj lk j=some i'/\βi[i']?=some (some (.own d'))/\b=.own d')\/(β[j]?=some (some b)/\((∃d,b=.own d)->jj lk j=none)):=λ{j b} e=>by
  rw[uq]at e;obtain⟨b0,e0,e1⟩:=VQ.mp e;cases b0 with
  |none=>cases e1
  |some b0 =>
   cases b0 with
   |own d =>
    rw[As]at e1;cases q:jj lk j with
    |none=>rw[q]at e1;cases e1;exact .inr ⟨e0,λ_=>rfl⟩
    |some i' =>
     obtain⟨d',e2⟩:=hh.own (kM (eJ q) e0);rw[q]at e1;dsimp only at e1;rw[e2]at e1;cases e1;exact .inl ⟨d,d',i',e0,rfl,e2,rfl⟩
   |val y d=>cases e1;exact .inr ⟨e0,λBt=>by obtain⟨_,z⟩:=Bt;cases z⟩
   |hand ok=>cases e1;exact .inr ⟨e0,λBr=>by obtain⟨_,z⟩:=Br;cases z⟩
   |shl y d=>cases e1;exact .inr ⟨e0,λEG=>by obtain⟨_,z⟩:=EG;cases z⟩
 refine⟨⟨by rw[show (jf lk β βi).length=β.length from oG];exact s.len,λj y d e=>?_,λj d e=>?_,λj ok e=>?_,λj c hc=>?_,λj j' c h1 h2=>?_,λj=>?_,i.kp,i.eZ,λj y d e=>by
  rcases ho e with⟨_,_,_,_,_,_,z⟩|⟨e,_⟩
  ·cases z
  obtain⟨v,h1,h2,h3⟩:=s.shl j y d e;have eo:kA lk β own bS j=own j:=by unfold kA;rw[e]
  rw[eo];refine⟨v,h1,h2.map (λc hc o eo=>off hc (sep hc (.inr (by rw[e];rfl))) o eo) (λds vs r=>?_),h3⟩
  have g:ai P w (λc=>eD C (Wn own) (yk true) c\/H1 c=none) H1 ds vs:=ai.grow (λc z=>z) r;refine ai.aO (λc z=>.inl (eX lo _ c z)) (g.keep (n.k.mono λc z=>z.imp (λz=>?_) id));exact .inl (.inl (bc c z))⟩,lo⟩
 ·rcases ho e with⟨_,_,_,_,_,_,z⟩|⟨e,_⟩
  ·cases z
  obtain⟨v,h1,h2⟩:=s.val j y d e;have g:az P w (λc=>eD C (Wn own) (yk y) c\/H1 c=none) H1 d v:=az.grow (λc z=>z) h2;refine⟨v,h1,az.aO (λc z=>.inl (eX lo _ c z)) (g.keep (n.k.mono λc z=>z.imp (λz=>?_) id))⟩;cases y with
  |true=>exact .inl (.inl (bc c z))
  |false=>exact .inl (bc c z)
 ·rcases ho e with⟨d0,d',i',e0,q,e1,z⟩|⟨e,q⟩
  ·cases z;have q1:=eJ q;obtain⟨v,h1,h2,h3⟩:=i.ow i' d e1;obtain⟨v0,g1,_,_⟩:=s.ow j d0 e0;rw[hσ j i' q1,cu q1 g1]at h1;cases h1;refine⟨v,g1,?_⟩;unfold kA;rw[e0];simp only[q];exact⟨h2,h3⟩
  ·have q:=q ⟨d,rfl⟩;obtain⟨v,h1,h2,h3⟩:=s.ow j d e;refine⟨v,h1,?_⟩;unfold kA;rw[e];simp only[q];exact⟨h2.keep n.k.tup (λc hc o eo=>off hc (sep hc (.inl q)) o eo),h3⟩
 ·rcases ho e with⟨_,_,_,_,_,_,z⟩|⟨e,_⟩
  ·cases z
  obtain⟨h,ns,h1,h2,h3,h4,h5⟩:=hN j ok e;refine⟨h,ns,h1,h2,h3,?_,h5⟩;unfold kA;rw[e];exact h4
 ·rcases at_ hc with⟨d,i',e,q,h⟩|⟨h,hq⟩
  ·obtain⟨g1,g2,g3,g4⟩:=i.dm i' c h;obtain⟨j',yP⟩:=bc c (le c ⟨i',h⟩);exact⟨g1,g2,g3,(s.dm j' c yP).2.2.2⟩
  ·obtain⟨g1,g2,g3,g4⟩:=s.dm j c h
   by_cases q:jj lk j=none\/F3 β[j]?=false
   ·cases e:H1 c with
    |none=>exact absurd e g1
    |some o=>rw[off h (sep h q) o e];exact⟨λz=>(nomatch z),λxs z=>g2 xs (by rw[e];exact z),g3,g4⟩
   ·have q1:F3 β[j]?=true:=by cases z:F3 β[j]? with|true=>rfl|false=>exact(q (.inr z)).elim
    cases e:β[j]? with
    |none=>rw[e]at q1;cases q1
    |some b =>
     rw[e]at q1;cases b with
     |none=>cases q1
     |some b =>
      cases b with
      |val y d=>cases q1
      |shl y d=>cases q1
      |own d=>exact(q (.inl (hq ⟨d,e⟩))).elim
      |hand ok =>
       obtain⟨h',ns,k1,k2,k3,k4,k5⟩:=hN j ok e;rw[k4]at h;rw[VD.mp h]at g3 g4 ⊢
       rw[k2];exact⟨λz=>(nomatch z),λxs z=>(by cases z),g3,g4⟩
 ·have key:∀{j j' c},c∈kA lk β own bS j->c∈kA lk β own bS j'->(∃d i',β[j]?=some (some (.own d))/\jj lk j=some i'/\c∈bS i')->j=j':=λ{j j' c} h1 h2 LY=>by
   obtain⟨d,i',e,q,h⟩:=LY;rcases at_ h2 with⟨d2,i2,e2,q2,h2⟩|⟨h2,nX⟩
   ·have:=i.iI i' i2 c h h2;subst this;have a1:=eJ q;rw[eJ q2]at a1;cases a1;rfl
   ·obtain⟨i3,T7⟩:=le c ⟨i',h⟩;obtain⟨j3,p1,p2,p3⟩:=dD T7;have:=s.iI j' j3 c h2 p3;subst this;cases e3:β[j']? with
    |none=>rw[e3]at p2;cases p2
    |some b =>
     rw[e3]at p2;cases b with
     |none=>cases p2
     |some b =>
      cases b with
      |val y d=>cases p2
      |shl y d=>cases p2
      |own d=>exact(ph (nX ⟨d,e3⟩) p1).elim
      |hand ok =>
       have e4:=hh.jL (kM p1 e3);obtain⟨h',ns,k1,k2,k3,k4,k5⟩:=s.jL j' ok e3;obtain⟨h'',ly,g1,g2,g3,g4,g5⟩:=i.jL i3 ok e4;rw[hσ j' i3 p1,cu p1 k1]at g1;cases g1;have:c∈bS i3:=by rw[g4,<- k4];exact h2
       have:=i.iI i' i3 c h this;subst this;have a1:=eJ q;rw[p1]at a1;cases a1;rfl
  rcases at_ h1 with z1|⟨z1,_⟩
  ·exact key h1 h2 z1
  ·rcases at_ h2 with z2|⟨z2,_⟩
   ·exact(key h2 h1 z2).symm
   ·exact s.iI j j' c z1 z2
 ·unfold kA
  split
  ·cases jj lk j with
   |none=>exact s.jE j
   |some i'=>exact i.jE i'
  ·exact s.jE j
end
def rZ (γ:cF)(τ:aP)(φ:aE)(ds:List D)(k:Kd)(β0:aJ)(K:List D->aJ->Prop):Prop:=∃I:Nat->aJ->List D->Prop,I 0 β0 [] /\
 (∀i d β o,ds[i]?=some d->I i β o->γ d (sk k d) β λβ1=>τ β1 λt β2=>if t=true then φ β2 λx kx β3=>Es kx x/\o.length<VH/\I (i+1) β3 (o++[x]) else I (i+1) β2 o)/\∀β o,I ds.length β o->vT β0 β/\K o β
theorem rZ.mono {γ:cF}{τ:aP}{φ:aE}{ds:List D}{k:Kd}{β0:aJ}{K K':List D->aJ->Prop}(h:∀o β,K o β->K' o β)(q:rZ γ τ φ ds k β0 K):rZ γ τ φ ds k β0 K':=let ⟨I,h0,h1,h2⟩:=q;⟨I,h0,h1,λβ o z=>⟨(h2 β o z).1,h _ _ (h2 β o z).2⟩⟩
def zJ (lk:List (Option Nat))(ι:bW)(γ:cF)(τ:aP)(φ:aE):aE:=λβ R=>ι β λds k β1=>hold k false/\rZ γ τ φ ds k (fI lk β1) λo βi=>R (.lst o) .own (jf lk β1 βi)
section
variable {X:Cx}{C:Cfg}{lk:List (Option Nat)}{γ:cF}{τ:aP}{φ:aE}{T:List Nat}{pc pe:Bool}
theorem uZ {σ:St}{H1:Hp}{β:aJ}{own:Nat->List Addr}{a:Addr}{J:It}{ds:List D}{k:Kd}{K:List D->aJ->Prop}{End:Hp->Prop}
  (γm:∀d k β R R',(∀r,R r->R' r)->γ d k β R->γ d k β R') (τm:∀β R R',(∀d β,R d β->R' d β)->τ β R->τ β R') (φm:∀β R R',(∀d k β,R d k β->R' d k β)->φ β R->φ β R')
  (inj:∀(i i' j:Nat),lk[i]?=some (some j)->lk[i']?=some (some j)->i=i') (hT:∀i∈T,∀j,lk[i]?≠some (some j))
  (s1:SQ X C σ H1 β own) (ha:H1 a=none) (hk:hold k false) (it:vb X (av C (Wn own) k) J ds H1) (q:rZ γ τ φ ds k (fI lk β) K)
  (fin:∀o H' βi aL,K o βi->Out X C σ H1 own false (jf lk β βi) H' aL->KV X.prog X.w C (H1,Wn own) aL H' .own (.lst o) (.ref a)->End H') :
  eM J (λv σ H Q=>∃own β d k,SQ X (C.u λc=>c=a) σ H β own/\Rp X (eD (C.u λc=>c=a) (Wn own) k) H d v/\γ d k β λβ'=>∀σ' aL,SQ X (C.u λc=>c=a) σ' H β' aL->(∀a,Wn aL a->Wn own a)->(∀j,j∉T->σ'[j]?=σ[j]?)->Q σ' H)
   (iN X (C.u λc=>c=a) pc τ) (λN σ H=>tQ X (C.u λc=>c=a) pe φ σ H λv H1=>∃xs,H1 a=some (.lst xs)/\xs.length<VH/\N σ (upd H1 a (.lst (xs++[v]))))
   (λ_ H'=>End H') (de lk σ) (upd H1 a (.lst [])):=by
 obtain⟨I,i0,i1,i2⟩:=q;have h0:C.H0 a=none:=VS λz=>s1.eZ a z ha;have sm:ay H1 (upd H1 a (.lst [])):=ay.new ha;have Lv:∀c,Wn (bI lk β own) c->c≠a:=λc z e=>by
  obtain⟨j,hj⟩:=bc c z;exact(s1.dm j c hj).1 (by rw[e];exact ha)
 let S:Nat->St->Hp->Prop:=λi σ' H'=>∃βi bS vs o A,SQ X (C.u λc=>c=a) σ' H' βi bS/\Sn (H1,Wn (bI lk β own)) H' (Wn bS)/\(∀c,Wn bS c->Wn (bI lk β own) c)/\H' a=some (.lst vs)/\aF X.prog X.w H' o vs A/\A.Nodup/\(∀c∈A,H1 c=none/\c≠a) /\
  ((pc&&pe)=true->ay H1 H')/\(∀j,j∉T->σ'[j]?=(de lk σ)[j]?)/\I i βi o
 have W':Addr->Prop:=λb=>av C (Wn own) k b\/H1 b=none;have F0:=it (λb=>av C (Wn own) k b\/H1 b=none) λb z=>z;have kI:∀{H':Hp} {bS:Nat->List Addr},Sn (H1,Wn (bI lk β own)) H' (Wn bS)->((pc&&pe)=true->ay H1 H')->Kp (λb=>av C (Wn own) k b\/H1 b=none) H1 H':=λn pu=>by
  cases k with
  |own=>exact n.k.mono λb z=>z.imp (λz=>.inl (bc b z)) id
  |d9=>exact n.k.mono λb z=>z.imp (λz=>.inl (bc b z)) id
  |old=>exact n.k.mono λb z=>z.imp (bc b) id
  |bor=>exact hk.elim
 refine⟨λi m σ' H'=>i<=ds.length/\m=ds.length-i/\S i σ' H',⟨_,VX _,rfl,fI lk β,bI lk β own,[],[],[],s1.Jl ha inj,⟨λb z=>.inl z,sm.kp,λb z e=>z (sm.free e)⟩,λ_ z=>z,ao,⟨rfl,rfl⟩,Wg,λc hc=>(nomatch hc),λ_=>sm,λ_ _=>rfl,i0⟩,?_⟩;rintro i m σ2 H2 ⟨hi,rfl,βi,bS,vs,o,A,sq,sn,le,Jb,os,nd,nw,pu,st,hl⟩;obtain⟨bJ,fK⟩:=F0 i H2 (kI sn pu)
 by_cases jm:i<ds.length
 ·right
  have hd:ds[i]?=some ds[i]:=VC jm;obtain⟨go,yl⟩:=bJ _ hd;refine⟨go,λσ' H'=>S (i+1) σ' H',λσ' H' h=>⟨_,by lia,jm,rfl,h⟩,λx H3 y=>?_⟩
  obtain⟨s3,r3⟩:=yl x H3 y;have QT:∀{bS:Nat->List Addr},(∀c,Wn bS c->Wn (bI lk β own) c)->∀c,eD (C.u λc=>c=a) (Wn bS) k c->av C (Wn own) k c\/H1 c=none:=λle c z=>z.elim (λz=>.inl (gy (λc z=>bc c (le c z)) k c z)) λz=>.inr (by rw[z];exact ha)
  refine⟨bS,βi,_,_,sq.same s3,mj (az.aO (QT le) r3),γm _ _ _ _ _ (λβ4 q σ4 mK s4 w4 t4=>?_) (i1 i _ βi o hd hl)⟩;have Ih:∀c,Wn mK c->Wn (bI lk β own) c:=λc z=>le c (w4 c z);refine⟨β4,mK,s4,τm _ _ _ (λt β5 q H5 iC o5=>?_) q⟩;have Ed:∀c,Wn iC c->Wn (bI lk β own) c:=λc z=>Ih c (o5.le c z);have mU:∀c,c∈a::A->∀oc,H2 c=some oc->H5 c=some oc:=λc hc oc e=>by
   refine o5.sn.k.out c oc (s3 c oc e) λz=>?_;rcases z with z|z
   ·rcases VB.mp hc with rfl|hc
    ·exact Lv _ (Ih _ z) rfl
    ·obtain⟨j,hj⟩:=bc c (Ih c z);exact(s1.dm j c hj).1 (nw c hc).1
   ·exact absurd ((s3 c oc e).symm.trans z) (λz=>(nomatch z))
  have Pd:∀b xs,H2 b=some (.tup xs)->H5 b=some (.tup xs):=λb xs e=>o5.sn.k.tup b xs (s3 b _ e);have Hz:aF X.prog X.w H5 o vs A:=os.keep Pd λc hc oc e=>mU c (by simp[hc]) oc e
  have GL:Sn (H1,Wn (bI lk β own)) H5 (Wn iC):=(hG (sn.same s3) w4).trans o5.sn;have K2:(pc&&pe)=true->ay H1 H5:=λz=>((pu z).trans s3).trans (o5.pu (Fp z)).1;have GI:∀j,j∉T->σ4[j]?=(de lk σ)[j]?:=λj hj=>(t4 j hj).trans (st j hj);cases t with
  |false=>exact⟨β5,iC,vs,o,A,o5.sq,GL,Ed,mU a (by simp) _ Jb,Hz,nd,nw,K2,GI,q⟩
  |true =>
   refine⟨β5,iC,o5.sq,φm _ _ _ (λxd kx β6 gn v H6 rP o6 r6=>?_) q⟩;obtain⟨f,hz,q⟩:=gn;obtain⟨B',r1,r2,GZ⟩:=r6.fl f;have BF:H5 a=some (.lst vs):=mU a (by simp) _ Jb
   have r_:∀c,c∈a::A->∀oc,H5 c=some oc->H6 c=some oc:=λc hc oc e=>by
    refine o6.sn.k.out c oc e λz=>?_;rcases z with z|z
    ·rcases VB.mp hc with rfl|hc
     ·exact Lv _ (Ed _ z) rfl
     ·obtain⟨j,hj⟩:=bc c (Ed c z);exact(s1.dm j c hj).1 (nw c hc).1
    ·exact absurd (e.symm.trans z) (λz=>(nomatch z))
   have kP:H6 a=some (.lst vs):=r_ a (by simp) _ BF
   have K7:aF X.prog X.w H6 o vs A:=Hz.keep o6.sn.k.tup λc hc oc e=>r_ c (by simp[hc]) oc e
   have O8:∀c∈A,c≠a:=λc hc=>(nw c hc).2;have FU:∀c∈B',c≠a:=λc hc z=>by rw[z]at hc;exact absurd (BF.symm.trans (GZ a hc).1) (λz=>(nomatch z))
   have kt:∀b xs,H6 b=some (.tup xs)->upd H6 a (.lst (vs++[v])) b=some (.tup xs):=λb xs z=>by rw[ar (λz'=>by rw[z',kP]at z;cases z)];exact z
   refine⟨vs,kP,by rw[K7.length];exact hz,β6,rP,vs++[v],o++[xd],A++B',o6.sq.Dd kP (λxs z=>by cases z) h0,?_,λc z=>Ed c (o6.le c z),ao,?_,?_,λc hc=>?_,λz=>?_,GI,q⟩
   ·have m:=GL.trans o6.sn;refine⟨m.w,m.k.trans ((jg kP (λxs z=>by cases z)).mono λb z=>.inr (by rw[z];exact ha)),λb z e=>?_⟩
    by_cases hb:b=a
    ·rw[hb,ao]at e;cases e
    ·rw[ar hb]at e;exact m.d b z e
   ·exact(K7.keep kt λc hc oc e=>by rw[ar (O8 c hc)];exact e).append (aF.one (r1.keep kt λc hc oc e=>by rw[ar (FU c hc)];exact e))
   ·refine Wk.mpr ⟨nd,r2,λx hx y hy e=>?_⟩;subst e;have:=(GZ x hy).1;exact(Hz.ny x hx).1 this
   ·rcases VL.mp hc with hc|hc
    ·exact nw c hc
    ·exact⟨GL.free (GZ c hc).1,FU c hc⟩
   ·refine λb ob e=>?_;rw[ar (λz'=>by rw[z',ha]at e;cases e)]
    exact(o6.pu (Na z)).1 b ob (K2 z b ob e)
 ·left
  have e:i=ds.length:=by lia
  subst e;obtain⟨hh,q⟩:=i2 βi o hl;obtain⟨lv,lo⟩:=s1.Ig sq sn le inj hh λj i' e2=>st i' λz=>hT i' z j e2;refine⟨fK (VA _),fin o H2 βi _ q ⟨lv,⟨λb z=>.inl (lo b z),sn.k.mono λb z=>z.imp (bc b) id,sn.d⟩,λz=>(nomatch z),lo⟩ ⟨a::A,⟨a,vs,A,rfl,Jb,rfl,os⟩,VZ.mpr ⟨λz=>(nw a z).2 rfl,nd⟩,λc hc=>?_⟩⟩;have nZ:H1 c=none:=by
   rcases VB.mp hc with rfl|hc
   ·exact ha
   ·exact(nw c hc).1
  exact⟨nZ,λBr=>by obtain⟨j,hj⟩:=lo c Br;exact(s1.dm j c hj).1 nZ,VS λz=>s1.eZ c z nZ⟩
variable {scope:Xw}{N':List Str}{tg bJ elt:Expr}{ifs:List Expr}{ι:bW}{pi:Bool}{pos:Pos}{i:Nat}
theorem Hf (L:Links X scope N' lk)(lb:N'.Nodup)(hT:T.all (λi=>match lk[i]? with|some (some _)=>false|_=>true)=true)(hc:X.calm=true)(hi:tR X C pi tg bJ ι)
  (jK:∀a cl c s H ex,qH (aq X scope N' cl c s H ex) (C.u λc=>c=a) tg T γ) (iR:∀a cl c s H ex,qN (aq X scope N' cl c s H ex) ifs (iN (aq X scope N' cl c s H ex) (C.u λc=>c=a) pc τ)) (τm:∀β R R',(∀d β,R d β->R' d β)->τ β R->τ β R')
  (fb:∀a cl c s H ex,PQ (aq X scope N' cl c s H ex) (C.u λc=>c=a) pe elt φ) (γm:∀d k β R R',(∀r,R r->R' r)->γ d k β R->γ d k β R') (φm:∀β R R',(∀d k β,R d k β->R' d k β)->φ β R->φ β R')
  (hs:∀x,V4 bJ X.env x=pure x:=by intro _;rfl):PQ X C false (.ListComp elt [⟨tg,bJ,ifs,0⟩] scope pos) (zJ lk ι γ τ φ):=by
 have uM:∀i∈T,∀j,lk[i]?≠some (some j):=λi hi j e=>by
  have:=WM.mp hT i hi;rw[e]at this;cases this
 refine⟨λβ R R' k h=>hi.mono β _ _ (λds kd β1 q=>⟨q.1,q.2.mono λo β z=>k _ _ _ z⟩) h,?_⟩;refine(gU (g:=⟨tg,bJ,ifs,0⟩) (gs:=[]) (tg:=λa v σ H Q=>∃own β d k,SQ X (C.u λc=>c=a) σ H β own/\Rp X (eD (C.u λc=>c=a) (Wn own) k) H d v/\γ d k β λβ'=>∀σ' aL,SQ X (C.u λc=>c=a) σ' H β' aL->(∀a,Wn aL a->Wn own a)->(∀j,j∉T->σ'[j]?=σ[j]?)->Q σ' H)
  (tt:=λa=>iN X (C.u λc=>c=a) pc τ) (ta:=λa N σ H=>tQ X (C.u λc=>c=a) pe φ σ H λv H1=>∃xs,H1 a=some (.lst xs)/\xs.length<VH/\N σ (upd H1 a (.lst (xs++[v]))))
  L hc gY rfl rfl (λ_ _=>Cn) hi.pi (λa cl c s H ex=>⟨(jK a cl c s H ex).pg,iR a cl c s H ex,gX rfl (fb a cl c s H ex).pe⟩) hs).pre λσ H Q ⟨β,own,s,h⟩=>?_
 refine⟨β,own,s,hi.mono β _ _ (λds k β1 jJ J H1 aw o1 it a ha=>?_) h⟩;obtain⟨hk,q⟩:=jJ;exact uZ γm τm φm (bq L lb) uM o1.sq ha hk it q λo H' βi aZ q o2 r=>q _ _ aZ (o1.yG o2 λz=>(nomatch z)) (r.later o1.sn)
theorem To (N':List Str)(lk:List (Option Nat))(L:fH X.env.scope.names X.N scope N' lk=true)(lb:N'.Nodup)(hc:X.calm=true)(hi:tR X C pi tg bJ ι)
  (jK:∀U cl c s H ex,qH (aq X scope N' cl c s H ex) (C.u U) tg T γ) (iR:∀U cl c s H ex,kY (aq X scope N' cl c s H ex) (C.u U) pc ifs τ) (fb:∀U cl c s H ex,PQ (aq X scope N' cl c s H ex) (C.u U) pe elt φ)
  (hT:T.all (λi=>match lk[i]? with|some (some _)=>false|_=>true)=true:=by rfl) (hs:∀x,V4 bJ X.env x=pure x:=by intro _;rfl):PQ X C false (.ListComp elt [⟨tg,bJ,ifs,0⟩] scope pos) (zJ lk ι γ τ φ) :=
 Hf (Links.of L) lb hT hc hi (λa=>jK _) (λa cl c s H ex=>(iR _ cl c s H ex).pt) (iR (λ_=>False) [] 0 X.s₀ X.H₀ []).mono (λa=>fb _) (jK (λ_=>False) [] 0 X.s₀ X.H₀ []).mono (fb (λ_=>False) [] 0 X.s₀ X.H₀ []).mono hs
end
section
variable {X:Cx}{C:Cfg}{lk:List (Option Nat)}{γ γ2:cF}{τ τ2:aP}{φ:aE}{T T2:List Nat}
variable {scope:Xw}{tg bJ iM fK elt:Expr}{ifs df:List Expr}{ι ι2:bW}{pi:Bool}{pos pos' mh:Pos}{y:Str}{i:Nat}
theorem OJ (o:Bool)(N':List Str)(lk:List (Option Nat))(L:fH X.env.scope.names X.N scope N' lk=true)(lb:N'.Nodup)(hc:X.calm=true)(hi:∀U,tR X (C.u U) pi tg bJ ι)
  (jK:∀U cl c s H ex,qH (aq X scope N' cl c s H ex) (C.u U) tg T γ) (iR:∀U cl c s H ex,kY (aq X scope N' cl c s H ex) (C.u U) true ifs τ)
  (F5:∀U cl c s H ex,Ng (aq X scope N' cl c s H ex) (C.u U) iM fK ι2)
  (sv:∀U cl c s H ex,qH (aq X scope N' cl c s H ex) (C.u U) iM T2 γ2) (su:∀U cl c s H ex,kY (aq X scope N' cl c s H ex) (C.u U) true df τ2)
  (fb:∀U cl c s H ex,PQ (aq X scope N' cl c s H ex) (C.u U) true elt φ)
  (hN:X.N.Nodup) (hT:(T++T2).all (λi=>match lk[i]? with|some (some _)=>false|_=>true)=true:=by rfl) (hy:X.N[i]?=some y:=by rfl) (hx:Loc X.env.scope y:=by first|exact .inl rfl|exact .inr rfl) (hf:X.fn y=true\/X.env.scope.names.lookup y=some .local:=by first|exact .inl rfl|exact .inr rfl|assumption)
  (oR:WU (.ListComp elt [⟨tg,bJ,ifs,0⟩,⟨iM,fK,df,0⟩] scope pos) (some (.Name y pos')) mh.line X.env=pure true:=by rfl)
  (BD:ZJ (.ListComp elt [⟨tg,bJ,ifs,0⟩,⟨iM,fK,df,0⟩] scope pos) X.env (assign (.Name y pos') X.env)=(do let _ <- comprehension (.ListComp elt [⟨tg,bJ,ifs,0⟩,⟨iM,fK,df,0⟩] scope pos) scope X.env (firstIterPos [⟨tg,bJ,ifs,0⟩,⟨iM,fK,df,0⟩] pos) (newList []) false (eval bJ X.env) (some (assign (.Name y pos') X.env));pure ()):=by first|rfl|exact YB ..)
  (hs:∀x,V4 bJ X.env x=pure x:=by intro _;rfl) (nP:∀cl c s H ex x,V4 fK (aq X scope N' cl c s H ex).env x=pure x:=by intro _ _ _ _ _ _;rfl) :
  PB X C (.Assign [.Name y pos'] (.ListComp elt [⟨tg,bJ,ifs,0⟩,⟨iM,fK,df,0⟩] scope pos) mh) (λE β=>zK lk ι γ τ ι2 γ2 τ2 φ β λd _ β'=>E.nx (β'.set i (some (match o with|true=>.own d|false=>.val true d)))):=by
 have L:=Links.of L;have uM:∀i∈T++T2,∀j,lk[i]?≠some (some j):=λi hi j e=>by
  have:=WM.mp hT i hi;rw[e]at this;cases this
 have γm:=(jK (λ_=>False) [] 0 X.s₀ X.H₀ []).mono;have τm:=(iR (λ_=>False) [] 0 X.s₀ X.H₀ []).mono;have φm:=(fb (λ_=>False) [] 0 X.s₀ X.H₀ []).mono;have zb:=(sv (λ_=>False) [] 0 X.s₀ X.H₀ []).mono;have y_:=(su (λ_=>False) [] 0 X.s₀ X.H₀ []).mono;have ιm:=(F5 (λ_=>False) [] 0 X.s₀ X.H₀ []).mono;refine⟨λE E' β l h=>(hi λ_=>False).mono β _ _ (λds kd β1 q=>⟨q.1,q.2.mono λ_ _ z=>⟨z.1,l.nx _ z.2⟩⟩) h,λpins s σ H D I0 hh=>?_⟩;obtain⟨Z,E,β,⟨own,sq,n⟩,h,ok⟩:=hh;refine rF (g:=⟨tg,bJ,ifs,0⟩) (gs:=[⟨iM,fK,df,0⟩]) (tg:=λa=>zj X C a T γ) (tt:=λa=>iN X (C.u λc=>c=a) true τ) (ta:=λa N σ H=>∃β own,SQ X (C.u λc=>c=a) σ H β own/\ι2 β λds k β'=>∀J H',ay H H'->SQ X (C.u λc=>c=a) σ H' β' own->vb X (eD (C.u λc=>c=a) (Wn own) k) J ds H' ->
   eM J (zj X C a T2 γ2) (iN X (C.u λc=>c=a) true τ2) (Oj X C a φ) N σ H')
  L hc gY oR BD rfl hN hy hx hf (λ_ _=>Cm) (hi λa=>H a=none).pi (λa cl c s H ex=>⟨(jK _ cl c s H ex).pg,(iR _ cl c s H ex).pt,qb (X:=aq X scope N' cl c s H ex) (g':=⟨iM,fK,df,0⟩) rfl hc Ck (F5 _ cl c s H ex).pi (sv _ cl c s H ex).pg (su _ cl c s H ex).pt (gX (X:=aq X scope N' cl c s H ex) rfl (fb _ cl c s H ex).pe) (nP cl c s H ex)⟩) hs pins s σ H D I0 ?_
 refine⟨β,own,sq.kZ (C:=C.z) (U:=λa=>H a=none) λa z=>z,(hi λ_=>False).mono β _ _ (λds k β1 h J H1 aw o1 it a ha=>?_) h⟩;obtain⟨hk,q⟩:=h;refine gP (C:=C.u λa=>H a=none) (T:=T++T2) (nM (P:=X.prog) (w:=X.w) (H1:=H1)) γm τm (λj hj=>V3 _ hj) (bq L lb) uM o1.sq ha hk it ⟨[],[],ao,(show aF _ _ _ [] [] [] from ⟨rfl,rfl⟩),Wg,λc hc=>(nomatch hc)⟩ (o1.sq.enter ha (bq L lb))
  (λHb Wb βx ox σx Hx Nx h0 sx qx=>pU nM (λj hj=>VY _ hj) zb y_ (λHb Wb βy oy σy Hy Ny sy qy=>vx h0 ha φm sy qy) ιm sx qx) q λol H' q o2 r=>?_
 have r':=(Cw o1.sq ha r).later o1.sn;have SS:=o1.sn.trans o2.sn;have m:=n.trans SS;cases o with
 |false=>exact ok.nx _ _ _ ⟨_,(bz.RH o2.sq).fE (az.aO (λa z=>z.elim id λz=>z.elim) (KV.rep r')),kg m⟩ q
 |true =>
  obtain⟨A,h1,h2,h3⟩:=r';refine ok.nx _ _ _ ⟨_,o2.sq.pS h1 h2 λc hc=>⟨(h3 c hc).2.2,(h3 c hc).2.1,(h3 c hc).1⟩,?_⟩ q;exact⟨λb hq=>by
   obtain⟨j,hj⟩:=hq
   by_cases aD:i=j
   ·rw[<- aD,os_eq]at hj;exact .inr (n.free (h3 b hj).1)
   ·rw[a_ aD]at hj;exact m.w b ⟨j,hj⟩,m.k,m.d⟩
end
section
variable {X:Cx}{C:Cfg}{a b:Expr}{p p' pos pos':Pos}
theorem Et {i:Int}{n:Nat}{acc:Array Vv}(h:ItemsOf (λk v=>∃t,v=Value.int (i+k*1) t) acc n):Vals ((VF n).map λk:Nat=>V.int (i+(k:Int))) acc.toList:=by
 have key:∀(l:List Vv) (i:Int),(∀j v,l[j]?=some v->∃t,v=Value.int (i+((j:Nat):Int)) t)->Vals ((VF l.length).map λk:Nat=>V.int (i+(k:Int))) l:=λl=>by
  induction l with
  |nil=>intro i _;exact .nil
  |cons x r ih =>
   intro i h;rw[Wa,List.range_succ_eq_map,VM,WO];obtain⟨t,rfl⟩:=h 0 x rfl;refine .cons ⟨t,rfl⟩ ?_;have:=ih (i+1) λj v e=>by
    obtain⟨t,e'⟩:=h (j+1) v (by simpa using e)
    exact⟨t,by rw[e'];congr 1;lia⟩
   refine(show (λk:Nat=>V.int (i+(k:Int))) ∘ Nat.succ=λk:Nat=>V.int (i+1+(k:Int)) from ?_)▸this
   funext k
   show V.int (i+((k+1:Nat):Int))=_
   congr 1
   lia
 have:=key acc.toList i λj v e=>by
  obtain⟨t,e'⟩:=h.2 j v (by simpa using e)
  exact⟨t,by rw[e',Int.mul_one]⟩
 rwa [VP,h.1]at this
theorem p0 {ta:TA} (hc:X.calm=true) (Qm:Gl X "list") (Qb:X.mg "list" = none) (hg:Gl X "range") (hm:X.mg "range" = none) (ha:PA X [a,b] ta) (hs:VE [a,b] X.env=[(false,eval a X.env),(false,eval b X.env)]:=by rfl) (nP:VE [b] X.env=[(false,eval b X.env)]:=by rfl)
  (hl:VE [.Call (.Name "range" p) [a,b] [] pos] X.env=[(false,eval (.Call (.Name "range" p) [a,b] [] pos) X.env)]:=by rfl) :
  PE X (.Call (.Name "list" p') [.Call (.Name "range" p) [a,b] [] pos] [] pos') (λσ H Q=>ta σ H λvs H1=>∃i j:Int,vs=[.int i,.int j]/\(-(2 ^ 62)<=i/\i<2 ^ 62/\-(2 ^ 62)<=j/\j<2 ^ 62)/\(j-i).toNat<=2 ^ 24/\∀p,H1 p=none->Q (.ref p) (upd H1 p (.lst ((VF (j-i).toNat).map λk:Nat=>V.int (i+(k:Int)))))):=by
 intro pins s σ H Q I h;refine W8 (g7 I Qm Qb qD ?_ (by decide) (by decide))
 refine WQ ?_ hl rfl;rw[hl];show VU _ _ (spliced ((false,eval (.Call (.Name "range" p) [a,b] [] pos) X.env)::[])) _ _ s;refine Zi ?_;refine W8 (g7 I hg hm Z1 ?_ (by decide) (by decide))
 refine WQ (bt (ha pos pins s σ H _ I h) λus s1 h1=>?_) (by rw[hs,nP]) (by rw[nP];rfl)
 obtain⟨vs,H1,I1,r1,i,j,rfl,⟨q1,q2,q3,q4⟩,hz,q⟩:=h1;obtain⟨u1,u2,rfl,⟨t1,rfl⟩,⟨t2,rfl⟩⟩:=vals2 r1;refine call_range_2 (Zu ?_);have up:∀b o,s1.heap.get? b=some o->(s1.heap.push {cls:=.type "range",data:=.fields #[.int i t1,.int j t2,.int 1 s1.toks]}).get? b=some o:=λb o e=>Vx _ e;have e2:Xo i j 1=(((j-i).toNat:Nat):Int):=by rw[rangeSize_one];split <;> lia
 refine call_list_range (n:=(j-i).toNat) (I.ok.hd hc) (IsRange.new ..) (small_one q1 q2 q3 q4) e2 hz λh' tk acc c kp hS ha=>?_;have I2:Inv X pins σ H1 {s1 with heap:=s1.heap.push {cls:=.type "range",data:=.fields #[.int i t1,.int j t2,.int 1 s1.toks]},toks:=s1.toks+1}:=I1.kept up
 have fr:H1 (s1.heap.push {cls:=.type "range",data:=.fields #[.int i t1,.int j t2,.int 1 s1.toks]}).objs.size=none:=I2.a6.fresh (VA _);refine⟨.ref (s1.heap.push {cls:=.type "range",data:=.fields #[.int i t1,.int j t2,.int 1 s1.toks]}).objs.size,_,I2.laid (o:=.lst _) kp (VA _) ⟨?_,acc.toList,c,Et ha,?_⟩,rfl,q _ fr⟩
 ·rw[Vt,V9];exact hz
 ·simpa using hS
def zI (φs:cc):aE:=λβ R=>φs β λds _ β1=>∃i j:Int,ds=[.int i,.int j]/\(-(2 ^ 62)<=i/\i<2 ^ 62/\-(2 ^ 62)<=j/\j<2 ^ 62)/\(j-i).toNat<=2 ^ 24/\R (.lst (my i (j-i).toNat)) .own β1
theorem rl {P:Vz}{w:VG}{H:Hp}{i:Int}:∀(l:List Nat),aF P w H (l.map λk:Nat=>D.int (i+(k:Int))) (l.map λk:Nat=>V.int (i+(k:Int))) []
 |[]=>⟨rfl,rfl⟩
 |k::l=>⟨_,_,[],[],rfl,rfl,⟨rfl,rfl⟩,rl l⟩
theorem pY {φs:cc} {q:Bool} (hc:X.calm=true) (Qb:X.mg "list" = none) (hm:X.mg "range" = none) (ha:qF X C q [a,b] φs) (Qm:Gl X "list" := by rfl) (hg:Gl X "range" := by rfl) (hs:VE [a,b] X.env=[(false,eval a X.env),(false,eval b X.env)]:=by rfl) (nP:VE [b] X.env=[(false,eval b X.env)]:=by rfl)
  (hl:VE [.Call (.Name "range" p) [a,b] [] pos] X.env=[(false,eval (.Call (.Name "range" p) [a,b] [] pos) X.env)]:=by rfl):PQ X C q (.Call (.Name "list" p') [.Call (.Name "range" p) [a,b] [] pos] [] pos') (zI φs) :=
 ⟨λβ R R' k h=>ha.mono β _ _ (λds ks β1 h=>by obtain⟨i,j,e,h1,h2,q⟩:=h;exact⟨i,j,e,h1,h2,k _ _ _ q⟩) h,(p0 hc Qm Qb hg hm ha.pa hs nP hl).pre λσ H Q h=>by
  obtain⟨β,own,s,h⟩:=h;refine qJ.of ha s h λds ks β1 vs H1 aw h o1 r1=>?_;obtain⟨i,j,rfl,h1,h2,q⟩:=h;obtain⟨x,r,rfl,rx,y,r',rfl,ry,rr⟩:=r1.kn;cases (show x=V.int i from rx)
  cases (show y=V.int j from ry)
  cases (show r'=[] from rr)
  refine⟨i,j,rfl,h1,h2,λp hp=>q _ _ aw (o1.same (ay.new hp)) ⟨[p],⟨p,_,[],rfl,ao,rfl,rl _⟩,by simp,λc hc=>?_⟩⟩
  rw[VD.mp hc];exact⟨VS λz=>o1.sn.d p z hp,λz=>o1.sq.qw p z hp,VS λz=>o1.sq.eZ p z hp⟩⟩
end
section
variable {X:Cx}{C:Cfg}{p:Bool}{e:Expr}{φ:aE}{i:Nat}{x:Str}{px tp pos:Pos}
theorem DF {j}(he:PQ X C.z p e φ)(hn:Nm X i x:=by exact xN)
  (TQ:VE [e,.Name x px] X.env=(false,eval e X.env)::VE [.Name x px] X.env:=by rfl) (nP:VE [.Name x px] X.env=(false,eval (.Name x px) X.env)::VE [] X.env:=by rfl) :
  PB X C (.Return (some (.Tuple [e,.Name x px] j tp)) pos) (λE β=>φ β λd0 _ β1=>d0.flat=true/\∃d,β1[i]?=some (some (.own d))/\E.rt (.tup [d0,d]) β1) :=
 ⟨λE E' β l q=>he.mono _ _ _ (λd0 k β1 h=>by obtain⟨f,d,h1,q⟩:=h;exact⟨f,d,h1,l.rt _ _ q⟩) q,(i_ (Ab (bj he.pe (bj (fT (pos:=px) hn) dz nP) TQ))).pre λD σ H hq=>by
  obtain⟨Z,E,β,⟨own,s,n⟩,q,ok⟩:=hq;refine tQ.of he s q λd0 k β1 v0 H1 aw h o1 r1=>?_;obtain⟨f,d,hb,q⟩:=h;obtain⟨v,e1,r,h0⟩:=o1.sq.ow i d hb;refine⟨v,e1,(by show 2<=VH;decide),λp hp=>ok.rt _ _ _ _ _ ((o1.same (ay.new hp)).sb n) ?_ q⟩
  have sm:ay H1 (upd H1 p (.tup [v0,v])):=ay.new hp;have r':Own X.prog X.w (upd H1 p (.tup [v0,v])) d v (aw i):=r.keep (λb xs e=>sm _ _ e) (λc _ o e=>sm c o e);have oo:Own X.prog X.w (upd H1 p (.tup [v0,v])) (.tup [d0,d]) (.ref p) (aw i):=⟨p,_,rfl,ao,v0,[v],[],aw i,rfl,rfl,da f (az.same sm r1.rep),v,[],aw i,[],rfl,by simp,r',rfl,rfl⟩
  cases hr:C.ro with
  |true=>exact⟨_,oo,o1.sq.jE i,h0⟩
  |false=>exact oo.rep λc hc z=>z (h0 c hc)⟩
end
def JV:Option Addr->Sk
 |none=>.one
 |some h=>.at h
def MY:V->D
 |.cU=>.cU
 |.bl b=>.bl b
 |.int i=>.int i
 |.str x=>.str x
 |.ref a=>.obj a
 |_=>.cU
def Oe:D->List V->D
 |.lst _,vs=>.lst (vs.map MY)
 |.dT ks _,vs=>.dT ks (vs.map MY)
 |.dK ks _,vs=>.dK ks (vs.map MY)
 |d,_=>d
section
variable {P:Vz}{w:VG}{C:Cfg}{σ:St}{H:Hp}{β:aJ}{own:Nat->List Addr}{i:Nat}
theorem Hu {W:Addr->Prop}{H':Hp}{d:D}{v:V}(r:az P w W H' d v):Own P w H (MY v) v []:=by
 cases d with
 |tup ds=>obtain⟨a,vs,rfl,_⟩:=r;exact⟨rfl,rfl⟩
 |lst ds=>obtain⟨a,vs,rfl,_⟩:=r;exact⟨rfl,rfl⟩
 |dT ks ds=>obtain⟨a,vs,rfl,_⟩:=r;exact⟨rfl,rfl⟩
 |dK ks ds=>obtain⟨a,vs,rfl,_⟩:=r;exact⟨rfl,rfl⟩
 |sT ts=>obtain⟨a,rfl,_⟩:=r;exact⟨rfl,rfl⟩
 |ob φ=>obtain⟨a,rfl,_⟩:=r;exact⟨rfl,rfl⟩
 |cU=>cases (show v=_ from r);exact⟨rfl,rfl⟩
 |bl b=>cases (show v=_ from r);exact⟨rfl,rfl⟩
 |int b=>cases (show v=_ from r);exact⟨rfl,rfl⟩
 |str b=>cases (show v=_ from r);exact⟨rfl,rfl⟩
 |obj b=>cases (show v=_ from r);exact⟨rfl,rfl⟩
theorem lO {W:Addr->Prop}{H':Hp}:∀{ds:List D} {vs:List V},ai P w W H' ds vs->aF P w H (vs.map MY) vs []
 |[],_,e=>by cases e;exact⟨rfl,rfl⟩
 |_::_,_,⟨v,vs,rfl,h1,h2⟩=>⟨v,vs,[],[],rfl,rfl,Hu h1,lO h2⟩
theorem qc {W:Addr->Prop}{H':Hp}{d:D}{o:HO}{vs:List V}{a:Addr}(r:ai P w W H' (JW d) vs)(sh:GO d o vs)(h:H a=some o):Own P w H (Oe d vs) (.ref a) [a]:=by
 cases d with
 |lst ds=>cases sh;exact⟨a,vs,[],rfl,h,rfl,lO r⟩
 |dT ks ds=>obtain⟨rfl,l⟩:=sh;exact⟨a,vs,[],rfl,h,l,rfl,lO r⟩
 |dK ks ds=>obtain⟨rfl,l⟩:=sh;exact⟨a,vs,[],rfl,h,l,rfl,lO r⟩
 |_=>exact sh.elim
theorem Kz {d:D}{o:HO}{vs:List V}(sh:GO d o vs):∀xs,o≠.tup xs:=λxs z=>by
 cases d with
 |lst ds=>cases sh;cases z
 |dT ks ds=>obtain⟨rfl,l⟩:=sh;cases z
 |dK ks ds=>obtain⟨rfl,l⟩:=sh;cases z
 |_=>exact sh.elim
theorem bz.toShl {d0 d:D}{v:V}{y:Sk}(s:bz P w C σ H β own)(e:β[i]?=some (some (.own d0)))(hσ:σ[i]?=some (some v))(r:yX P w (eD C (Wn own) (yk true)) H y d v (own i)):bz P w C σ H (β.set i (some (.shl y d))) own:=by
 refine⟨by simp[s.len],λj y' d' q=>?_,λj d' q=>?_,λj ok q=>?_,s.dm,s.iI,s.jE,s.kp,s.eZ,λj y' d' q=>?_⟩
 ·by_cases aD:i=j
  ·subst aD;obtain⟨e',_⟩:=aR q;cases e'
  ·rw[aN aD]at q;exact s.val j y' d' q
 ·by_cases aD:i=j
  ·subst aD;obtain⟨e',_⟩:=aR q;cases e'
  ·rw[aN aD]at q;exact s.ow j d' q
 ·by_cases aD:i=j
  ·subst aD;obtain⟨e',_⟩:=aR q;cases e'
  ·rw[aN aD]at q;exact s.jL j ok q
 ·by_cases aD:i=j
  ·subst aD;obtain⟨e',_⟩:=aR q;cases e';obtain⟨_,_,_,h0⟩:=s.ow i d0 e;exact⟨v,hσ,r,h0⟩
  ·rw[aN aD]at q;exact s.shl j y' d' q
theorem yX.at {W:Addr->Prop}{t:Option Addr}{d:D}{v:V}{A:List Addr}(h:yX P w W H (JV t) d v A):kU P w W H d v A/\∀b,t=some b->v=.ref b:=by
 cases t with
 |none=>exact⟨h,λ_ z=>(nomatch z)⟩
 |some b=>exact⟨h.1,λ_ z=>by cases z;exact h.2⟩
theorem yX.to {W:Addr->Prop}{t:Option Addr}{d:D}{v:V}{A:List Addr}(h:kU P w W H d v A)(e:∀b,t=some b->v=.ref b):yX P w W H (JV t) d v A:=by
 cases t with
 |none=>exact h
 |some b=>exact⟨h,e b rfl⟩
theorem bz.zh {d:D}(t:Option Addr)(s:bz P w C σ H β own)(e:β[i]?=some (some (.shl (JV t) d))):∃a o vs,(σ[i]?=some (some (.ref a))/\∀b,t=some b->a=b)/\own i=[a]/\H a=some o/\GO d o vs/\ai P w (eD C (Wn own) (yk true)) H (JW d) vs/\C.H0 a=none/\bz P w C σ H (β.set i (some (.own (Oe d vs)))) own:=by
 obtain⟨v,h1,hs,h6⟩:=s.shl i _ d e;obtain⟨⟨a,o,vs,rfl,h2,h3,h4,h5⟩,ht⟩:=hs.at
 refine⟨a,o,vs,⟨h1,λb z=>by cases ht b z;rfl⟩,h2,h3,h4,h5,h6 a (by rw[h2];simp),by simp[s.len],λj y' d' q=>?_,λj d' q=>?_,λj ok q=>?_,s.dm,s.iI,s.jE,s.kp,s.eZ,λj y' d' q=>?_⟩
 ·by_cases aD:i=j
  ·subst aD;obtain⟨e',_⟩:=aR q;cases e'
  ·rw[aN aD]at q;exact s.val j y' d' q
 ·by_cases aD:i=j
  ·subst aD;obtain⟨e',_⟩:=aR q;cases e';exact⟨.ref a,h1,by rw[h2];exact qc h5 h4 h3,h6⟩
  ·rw[aN aD]at q;exact s.ow j d' q
 ·by_cases aD:i=j
  ·subst aD;obtain⟨e',_⟩:=aR q;cases e'
  ·rw[aN aD]at q;exact s.jL j ok q
 ·by_cases aD:i=j
  ·subst aD;obtain⟨e',_⟩:=aR q;cases e'
  ·rw[aN aD]at q;exact s.shl j y' d' q
theorem bz.vm {d:D}(s:bz P w C σ H β own)(e:β[i]?=some (some (.shl .one d))):∃a o vs,σ[i]?=some (some (.ref a))/\own i=[a]/\H a=some o/\GO d o vs/\ai P w (eD C (Wn own) (yk true)) H (JW d) vs/\C.H0 a=none/\bz P w C σ H (β.set i (some (.own (Oe d vs)))) own :=
 let ⟨a,o,vs,h1,h⟩:=s.zh none e;⟨a,o,vs,h1.1,h⟩
end
abbrev RN (k:Kd)(d:D):Prop:=match k with
 |.own=>True
 |.d9=>True
 |_=>d.flat=true
theorem KV.yg {P:Vz}{w:VG}{C:Cfg}{Z:Hp×(Addr->Prop)}{own:Nat->List Addr}{H:Hp}{d:D}{v:V}{k:Kd}(f:RN k d)(r:KV P w C Z own H k d v):az P w (av C (Wn own) .d9) H d v:=by
 cases k with
 |own=>exact r.d9
 |d9=>exact r
 |old=>exact az.flat f r
 |bor=>exact az.flat f r
theorem ai.snoc {P:Vz}{w:VG}{W:Addr->Prop}{H:Hp}{d:D}{v:V}(h:az P w W H d v):∀{ds:List D} {vs:List V},ai P w W H ds vs->ai P w W H (ds++[d]) (vs++[v])
 |[],_,e=>by cases e;exact⟨v,[],rfl,h,rfl⟩
 |_::_,_,⟨u,r,rfl,h1,h2⟩=>⟨u,r++[v],rfl,h1,ai.snoc h h2⟩
section
variable {C:Cfg}{e:Expr}{i:Nat}
theorem GG {own:Nat->List Addr}{i:Nat}{a:Addr}(h:own i=[a]):∀c,Wn (aI own i [a]) c->Wn own c:=λc nX=>by
 obtain⟨j,hj⟩:=nX
 by_cases aD:i=j
 ·rw[<- aD,os_eq]at hj;exact⟨i,by rw[h];exact hj⟩
 ·rw[a_ aD]at hj;exact⟨j,hj⟩
theorem bz.K1 {P:Vz}{w:VG}{U:Addr->Prop}{σ:St}{H:Hp}{β:aJ}{own:Nat->List Addr}{d d':D}{a:Addr}{o:HO}{vs':List V}(t:Option Addr)(b:bz P w (C.u U) σ H β own)(e:β[i]?=some (some (.shl (JV t) d)))(hσ:σ[i]?=some (some (.ref a)))
  (sh:GO d' o vs') (r:ai P w (av (C.u U) (Wn own) .d9) (upd H a o) (JW d') vs'):bz P w C.z σ (upd H a o) (β.set i (some (.shl (JV t) d'))) (aI own i [a])/\(∀c∈[a],c∈own i\/(C.H0 c=none/\¬ Wn own c/\U c))/\Wn own a/\∃oc,H a=some oc/\∀xs,oc≠.tup xs:=by
 obtain⟨a',o1,vs,h1,h2,h3,h4,h5,h6,s'⟩:=b.zh t e;rw[hσ]at h1;have ea:a=a':=by cases h1.1;rfl
 subst ea;have hl:i<β.length:=(VN.mp e).1;have ha:a∈own i:=by rw[h2];simp
 have hA:∀c∈[a],c∈own i\/(C.H0 c=none/\¬ Wn own c/\U c):=λc hc=>.inl (by rw[h2];exact hc)
 have q:=s'.putIn (get_set hl) hσ ha (qc r sh ao) (by simp) hA
 rw[X3]at q;have q2:=q.toShl (d:=d') (y:=JV t) (get_set (by simpa using hl)) hσ (yX.to ⟨a,o,vs',rfl,by rw[os_eq],ao,sh,ai.aO (λc z=>?_) r⟩ λb z=>by rw[h1.2 b z])
 ·rw[X3]at q2;exact⟨q2,hA,⟨i,ha⟩,o1,h3,Kz h4⟩
 ·rcases z with z|z
  ·exact gy (C:=C) (GG h2) .d9 c z
  ·exact z.elim
theorem bz.OW {P:Vz}{w:VG}{U:Addr->Prop}{σ:St}{H:Hp}{β:aJ}{own:Nat->List Addr}{d d':D}{a:Addr}{o:HO}{vs':List V}(b:bz P w (C.u U) σ H β own)(e:β[i]?=some (some (.shl .one d)))(hσ:σ[i]?=some (some (.ref a)))
  (sh:GO d' o vs') (r:ai P w (av (C.u U) (Wn own) .d9) (upd H a o) (JW d') vs'):bz P w C.z σ (upd H a o) (β.set i (some (.shl .one d'))) (aI own i [a])/\(∀c∈[a],c∈own i\/(C.H0 c=none/\¬ Wn own c/\U c))/\Wn own a/\∃oc,H a=some oc/\∀xs,oc≠.tup xs:=b.K1 none e hσ sh r
theorem Im {H:Hp}{a:Addr}{o oc:HO}{W:Addr->Prop}(h:H a=some oc)(ht:∀xs,oc≠.tup xs)(hw:W a):Kp W H (upd H a o):=(jg h ht).mono λc z=>by rw[z];exact hw
end
end L2.Q
namespace SI
open PySem PyProof.Rows ST
section
variable {w:VG}
abbrev qv (x:Int×Tok):Int×Vv:=(Wy x.1,.int x.1 x.2)
abbrev iL (w:VG):=fJ w qv (λx=>Wy x.1) (λx=>x.1)
end
section
variable {prog:Vz}{w:VG}{A:Wv}{E:Vv->Vw->Prop}{s:Vw}
variable {a:Addr}{o:Obj}{ts:List (Int×Tok)}{es:Array (Int×Vv)}{ep:Nat}{t:SetTable}{k:Int}
theorem EU {hs:List Int}(W:WF t hs)(h:Int){N:Nat}(h1:N<10*SetTable.turns t.mask)(h2:¬ tF t (cY t.mask h N))(h3:∀x,x<N->tF t (cY t.mask h x)):t.freeSlot h=some (cY t.mask h N,false):=by
 have e:t.probe (λ_=>h+1) h (t.probeStart h)=some (.empty (cY t.mask h N) none):=by
  rcases rG W (λ_=>h+1) h h2 h3 N 0 (10*SetTable.turns t.mask) (Yl N) h1 with⟨q,_⟩|⟨m,i,_,_,_,_,q,_⟩
  ·exact q
  ·lia
 unfold SetTable.freeSlot;rw[e];rfl
theorem elems (S:iL w o ts es ep t):ElemsOf (Yk prog w) es.toList:=λe he=>by
 rw[S.yT]at he;obtain⟨x,_,rfl⟩:=V6.mp he;exact⟨⟨x.1,by show XF x.1 (.int x.1 x.2)=true;simp[XF],rfl⟩,rfl⟩
theorem zE {t1:SetTable}{ym:Array (Int×Vv)}{w6:List (Int×Tok)}(he:ym.toList=w6.map qv)(Vg:0<w6.length)(hn:w6.length<=1000):
  ∃(l_:List (Int×Tok)) (o4:Array (Int×Vv)) (t2:SetTable),relayAll t1 ym (SetTable.grown ym.size)=(o4,t2,false)/\l_.Perm w6/\o4.toList=l_.map qv/\WF t2 (l_.map λx=>Wy x.1)/\t2.place.size*5<t2.mask*3/\t2.mask<=8191/\t2.led=t1.led/\t2.plain=t1.plain:=by
 have hz:ym.size=w6.length:=by rw[<- VP,he,Vt]
 have hg:SetTable.grown ym.size=w6.length*4:=by rw[hz];unfold SetTable.grown;rw[if_neg (by lia)]
 obtain⟨j,order,t',cj,ja,jc,er,e6,fb,fB,hW,LV,Qa,e3,e4,e8⟩:=oC (t:=t1) (hk:=λx=>Wy x.1) (λ_=>rfl) (0,0) (m:=w6.length*4) he (by lia) (by lia)
 refine⟨cj,order.filterMap (ym[·]?),t',?_,fB,fb,hW,LV.1,Qa,e3,e4⟩;have hsz:(order.filterMap (ym[·]?)).size=ym.size:=by
  rw[<- VP,fb,Vt,fB.length_eq,hz]
 unfold relayAll;rw[hg,er];dsimp only;have c1:coversAll order ym.size=true:=by
  unfold coversAll;rw[hz];exact List.isPerm_iff.mpr e6
 have c2:t'.fits (order.filterMap (ym[·]?)).size=true:=by
  unfold SetTable.fits SetTable.fill;rw[hW.E7,hsz,e8,hz];simp;lia
 rw[c1,c2];rfl
theorem pI (ho:s.heap.get? a=some o)(S:iL w o ts es ep t)(hn:ts.length<60){tk:Tok}{Q:Bool->Vw->Prop}
  (q:JT w qv (λx=>Wy x.1) (λx=>x.1) a s ts (k,tk) Q):/-U7-/
  VU (model prog w) A (setAddHashed a (.int k tk) (Wy k)) Q E s:=by
 have hz:=S.size;have hb:es.size<scanBound:=by rw[hz.1];exact V1 hn (by decide)
 have fb:ElemsOf (Yk prog w) es.toList:=elems S;have IX:(Yk prog w).is k (.int k tk)=true:=by show XF k (.int k tk)=true;simp[XF]
 unfold setAddHashed setAddHashedIn;refine Wo (Vu (WG ho S.dat S.fits ?_));dsimp only;rw[byScan_of (x:=.int k tk) rfl hb fb];simp only[↓reduceIte];unfold setAddByScan;refine Vu ?_;refine Vu (wpAny_rule ?_);refine Vu (wpAny_setScan_of (knd:=Yk prog w) IX ho S.dat S.fits fb ?_);have lC:∀e∈es.toList,(Yk prog w).is k e.2=true->∃x∈ts,x.1=k:=λe he hp=>by
  rw[S.yT]at he;obtain⟨x,hx,rfl⟩:=V6.mp he;obtain⟨t',e'⟩:=Value.isInt_shape (show XF k (.int x.1 x.2)=true from hp)
  injection e' with e1
  exact⟨x,hx,e1⟩
 cases hr:List.findIdx? (λe=>(Yk prog w).is k e.2) es.toList with
 |some j =>
  dsimp only;obtain⟨hj,TV,_⟩:=Zj.mp hr;have lU:=lC _ (WC hj) TV;exact Vy (Vy (q s.heap o ts es ep t false _ (VA _) (Zt _ _) ho S (λ_=>rfl) λg=>absurd lU λqo=>by obtain⟨x,hx,e⟩:=qo;exact g x hx e))
 |none =>
  dsimp only;have g1:∀x∈ts,x.1≠k:=λx hx e=>by
   have:=List.findIdx?_eq_none_iff.mp hr (qv x) (by rw[S.yT];exact Xh hx)
   have h2:(Yk prog w).is k (qv x).2=true:=by show XF k (.int x.1 x.2)=true;rw[e];simp[XF]
   rw[h2]at this;cases this
  obtain⟨N,n1,n2,n3⟩:=S.wf.first (Wy k)
  have v8:=EU S.wf (Wy k) n1 n2 n3;have LX:t.place.size+1<=t.mask:=by
   have:=S.Nz;obtain⟨j,hj,e⟩:=S.wf.Eg;have:2 ^ 3<=2 ^ j:=XG (by decide) hj
   lia
  obtain⟨W,hp⟩:=S.wf.put (lG _ _ _) n2 n3 LX;have pe:(t.put (cY t.mask (Wy k) N)).1.plain=t.plain/\(t.put (cY t.mask (Wy k) N)).1.led=t.led/\(t.put (cY t.mask (Wy k) N)).1.mask=t.mask:=⟨rfl,rfl,rfl⟩;have pf:(t.put (cY t.mask (Wy k) N)).1.dummies=#[]:=W.E7;have hL:layNew t es (Wy k) (.int k tk)=(SetTable.insertAt es (t.put (cY t.mask (Wy k) N)).2 (Wy k,.int k tk),(t.put (cY t.mask (Wy k) N)).1.orStandIn (SetTable.insertAt es (t.put (cY t.mask (Wy k) N)).2 (Wy k,.int k tk)).size,false,!(t.put (cY t.mask (Wy k) N)).1.fits (SetTable.insertAt es (t.put (cY t.mask (Wy k) N)).2 (Wy k,.int k tk)).size):=by
   unfold layNew;rw[v8]
  rw[hL];generalize (t.put (cY t.mask (Wy k) N)).1=t1 at *
  generalize (t.put (cY t.mask (Wy k) N)).2=p at *
  obtain⟨O0,RD,RC⟩:=pe;have Jm:(SetTable.insertAt es p (Wy k,Value.int k tk)).toList=(ts.take p++(k,tk)::ts.drop p).map qv:=by
   rw[mZ,S.yT,VI,VM,YC,YD]
  have W1:WF t1 ((ts.take p++(k,tk)::ts.drop p).map λx=>Wy x.1):=by
   rw[VI,VM,YC,YD];exact W
  have pm:(ts.take p++(k,tk)::ts.drop p).Perm ((k,tk)::ts):=z9 ts p (k,tk);have g6:(ts.take p++(k,tk)::ts.drop p).length=ts.length+1:=pm.length_eq;have AW:((ts.take p++(k,tk)::ts.drop p).map (·.1)).Nodup:=by
   refine((pm.map (·.1)).nodup_iff).mpr ?_;rw[VM,VZ];exact⟨λhm=>by
    obtain⟨x,hx,e⟩:=V6.mp hm;exact g1 x hx e,S.yL⟩
  have CK:(SetTable.insertAt es p (Wy k,Value.int k tk)).size=ts.length+1:=by rw[<- VP,Jm,Vt,g6]
  have Ta:t1.place.size=ts.length+1:=by have:=W1.sz;rw[Vt,g6]at this;exact this
  have R4:t1.fits (SetTable.insertAt es p (Wy k,Value.int k tk)).size=true:=by
   unfold SetTable.fits SetTable.fill;rw[pf,CK,Ta,RC];simp;lia
  have nW:t1.orStandIn (SetTable.insertAt es p (Wy k,Value.int k tk)).size=t1:=by
   unfold SetTable.orStandIn;rw[R4];rfl
  rw[nW,R4];dsimp only;refine Vu (Vy ?_);rw[O0,S.xy,if_pos rfl];refine Vu ?_;rw[hashByValue_scannable 8 rfl];refine Vy ?_;rw[if_pos (by rfl)]
  refine Vu (X1 ho S.dat ?_ (by rw[CK,WD];lia))
  have CS:=jM ho S.dat (SetTable.insertAt es p (Wy k,Value.int k tk)) t1;have CM:WY a s.heap (s.heap.update a (Z6 (SetTable.insertAt es p (Wy k,Value.int k tk)) t1)):=Xj _ _ _;have fin:∀(h':Heap) (o':Obj) (cj:List (Int×Tok)) (dY:Array (Int×Vv)) (jn:Nat) (t':SetTable),WY a s.heap h'->h'.get? a=some o'->iL w o' cj dY jn t'->cj.Perm (ts.take p++(k,tk)::ts.drop p)->Q true {s with heap:=h'} :=
   λh' o' cj dY jn t' q1 q2 q3 q4=>q h' o' cj dY jn t' true _ (VA _) q1 q2 q3 (λnX=>by obtain⟨x,hx,e⟩:=nX;exact absurd e (g1 x hx)) λ_=>q4.trans pm
  by_cases sC:t1.tooFull=true
  ·rw[sC,if_pos (by rfl)]
   obtain⟨l_,o4,t2,r1,r2,r3,r4,r5,r6,r7,r8⟩:=zE Jm (by lia) (by lia)
   rw[r1];dsimp only;have jt:o4.size=ts.length+1:=by rw[<- VP,r3,Vt,r2.length_eq,g6]
   refine Vu (Vy ?_);refine Vu (X1 (s:={s with heap:=s.heap.update a (Z6 (SetTable.insertAt es p (Wy k,Value.int k tk)) t1)}) CS rfl (Vy (Vy ?_)) (by rw[jt,WD];lia))
   have Bz:=jM CS rfl o4 t2;exact fin _ _ l_ o4 _ t2 (CM.trans (Xj _ _ _)) Bz ⟨S.ex,rfl,r3,r4,r5,r6,r7.trans (RD.trans S.led),r8.trans (O0.trans S.xy),((r2.map (·.1)).nodup_iff).mpr AW⟩ r2
  ·rw[if_neg (by simpa using sC)]
   refine Vy (Vy (fin _ _ _ _ _ _ CM CS ⟨S.ex,rfl,Jm,W1,?_,by rw[RC];exact S.Eg,RD.trans S.led,O0.trans S.xy,AW⟩ (.refl _)))
   unfold SetTable.tooFull SetTable.fill at sC;rw[pf]at sC;simp at sC;lia
end
section
variable {prog:Vz}{w:VG}{A:Wv}{E:Vv->Vw->Prop}{s:Vw}
theorem AV {α:Type}:∀{l m:List α},l.Nodup->(∀x∈l,x∈m)->l.length<=m.length
 |[],_,_,_=>VX _
 |x::l,m,h,s=>by
  obtain⟨a,b,rfl⟩:=List.append_of_mem (s x V8);have h:=VZ.mp h;have:=AV (l:=l) (m:=a++b) h.2 λy hy=>by
   have:=s y (V2 _ hy);simp only[VL,VB]at this ⊢
   rcases this with z|rfl|z
   ·exact .inl z
   ·exact absurd hy h.1
   ·exact .inr z
  simp at this ⊢
  lia
def qr (ns:List Int):Prop:=∀l:List Int,l.Nodup->(∀x∈l,x∈ns)->l.length<60
theorem BQ {ns:List Int}(h:ns.length<60):qr ns:=λl h1 h2=>Xr (AV h1 h2) h
theorem yv {l:Addr}{its:Array Vv}{vs:List Int}{Q:Vv->Vw->Prop}(hh:A.handled=none)(hl:s.heap.IsList l its)(hI:X4 its.toList vs)(hn:qr vs)
  (q:∀(h':Heap) (tk:Nat) (o':Obj) (ts:List (Int×Tok)) (es:Array (Int×Vv)) (ep:Nat) (t:SetTable),(∀c oc,s.heap.get? c=some oc->h'.get? c=some oc)->h'.get? s.heap.objs.size=some o'->iL w o' ts es ep t ->
   (∀x∈ts,x.1∈vs)->(∀x∈vs,∃y∈ts,y.1=x)->ts.length<60->Q (.ref s.heap.objs.size) {s with heap:=h',toks:=tk}) :
  VU (model prog w) A (call (.type "set") [.ref l]) Q E s:=by
 have hlen:its.size=vs.length:=by
  have:=hI.length;rw[VP]at this;exact this
 have sm:∀ts:List (Int×Tok),(ts.map λx=>x.1).Nodup->(∀y∈ts,∃m:Nat,vs[m]?=some y.1)->ts.length<60:=λts h1 h2=>by
  have:=hn _ h1 λx hx=>by
   obtain⟨y,hy,rfl⟩:=V6.mp hx;obtain⟨m,hm⟩:=h2 y hy;exact Wt hm
  rwa [Vt]at this
 refine yw (en:=qv) (hk:=λx=>Wy x.1) (ky:=λx=>x.1) (X:=λi x=>vs[i]?=some x.1) hh hl (λi v hv=>?_) (λi x y h1 h2=>V5 (h1.symm.trans h2)) (λB s1 E Q a o ts es ep t x hB kp ho S h1 h2 h3 q=>?_) λh' tk o' ts es ep t k m2 m3 m4 m5 m6=>?_
 ·obtain⟨t,e⟩:=hI.int_at i v (by rw[Wm];exact hv)
  have hi:i<vs.length:=by rw[<- hlen];exact(Array.getElem?_eq_some_iff.mp hv).1
  refine⟨(vs.getD i 0,t),?_,e⟩;rw[Wj,VC hi];rfl
 ·unfold setAdd;refine Wo ?_;refine Vu ((Yk prog w).pyHash (k:=x.1) (intKind_is _ _ _ _) ?_);exact pI (s:={s1 with toks:=s1.toks+1}) ho S (sm ts S.yL h1) λh' o' cj dY jn t' added tk r0=>q h' o' cj dY jn t' added tk (Nat.le_of_succ_le r0)
 ·refine q h' tk o' ts es ep t k m2 m3 (λx hx=>?_) (λx hx=>?_) (sm ts m3.yL m4)
  ·obtain⟨m,hm⟩:=m4 x hx;exact Wt hm
  ·obtain⟨m,hm⟩:=List.getElem?_of_mem hx;exact m5 m (x,0) (by have:=(VN.mp hm).1;lia) hm
end
end SI
namespace L2.Q
open PySem PySem.Spec PySem.SeqAt PyProof.Rows
def cJ (w:VG)(a:Addr)(ns:List Int)(h:Heap):Prop:=∃o ts es ep t,h.get? a=some o/\SI.iL w o ts es ep t/\(∀x,x∈ts.map (·.1)↔x∈ns)/\ts.length<60
theorem ints_of:∀{ns:List Int} {its:List Vv},Vals (ns.map V.int) its->X4 its ns
 |[],_,.nil=>.nil
 |n::ns,_,.cons r t=>by
  obtain⟨tk,rfl⟩:=r;exact .cons _ _ (ints_of t)
theorem l3:∀{ns:List Int} {its:List Vv},X4 its ns->Vals (ns.map V.int) its
 |[],_,.nil=>.nil
 |n::ns,_,.cons _ _ t=>.cons ⟨_,rfl⟩ (l3 t)
section
variable {X:Cx}
theorem yu (hc:X.calm=true):eY X (.type "set") (λxs H Q=>∃p ns,xs=[V.ref p]/\eE X.K H p (ns.map V.int)/\SI.qr ns/\∀a,H a=none->Q (.ref a) (upd H a (.ext (cJ X.w a ns)))):=by
 intro pins s σ H xs us Q I r h;obtain⟨p,ns,rfl,hp,hl,q⟩:=h;obtain⟨u,rfl,rx⟩:=vals1 r;cases rx;obtain⟨its,r',pl,hz⟩:=I.list hp;refine SI.yv (w:=X.w) (I.ok.hd hc) pl.isList (by simpa using ints_of r') hl λh' tk o' cj es ep t kp ho S m1 m2 m3=>?_
 have IY:H s.heap.objs.size=none:=I.a6.fresh (VA _);refine⟨.ref s.heap.objs.size,_,I.laid (t':=tk) (o:=.ext (cJ X.w s.heap.objs.size ns)) kp (VA _) ?_,rfl,q _ IY⟩;refine⟨⟨o',cj,es,ep,t,ho,S,λx=>⟨λz=>?_,λz=>?_⟩,by lia⟩,⟨o',ho⟩,λh1 h2 z k=>?_⟩
 ·obtain⟨y,hy,rfl⟩:=V6.mp z;exact m1 y hy
 ·obtain⟨y,hy,rfl⟩:=m2 x z;exact Xh hy
 ·obtain⟨o1,t1,e1,J5,Of,g1,g2⟩:=z;exact⟨o1,t1,e1,J5,Of,k _ g1,g2⟩
theorem xb {x:Vv}{vs:List Vv}{ns:List Int}{s:Vw}{A:Wv}{E:Vv->Vw->Prop}{P:Vz}{w:VG}{Q:Vv->Vw->Prop}(hI:X4 vs ns)(hz:vs.length<64)
  (col:∀(R:List Vv->Vw->Prop),(∀(h':Heap) (tk:Nat),(∀b o,s.heap.get? b=some o->h'.get? b=some o)->R vs {s with heap:=h',toks:=tk})->VU (model P w) A.in1 (collect x) R E s)
  (h:∀(out:Array Vv) (ly:List Int) (h1 h':Heap) (tk:Nat) (n:Nat),X4 out.toList ly->ly.Perm ns->ly.Pairwise (·<=·)->(∀b o,s.heap.get? b=some o->h1.get? b=some o)->(∀b o,h1.get? b=some o->h'.get? b=some o)->h'.get? h1.objs.size=some (seqObj "list" out n)->Q (.ref h1.objs.size) {s with heap:=h',toks:=tk}) :
  VU (model P w) A (call (.builtin "sorted") [x]) Q E s:=by
 refine Calls.call_function_entry kind_sorted plain_sorted entry_sorted (args_sorted1 _) ?_;unfold W4.«sorted»
 refine Vu (m:=checkCount "sorted" 1 1 _) (Vy ?_);refine Vu (col _ λh' tk kp=>?_);have nl:vs.length<=VH:=by rw[WD];lia
 refine Vu (wpAny_newList ?_ nl);have hl:(h'.push (seqObj "list" vs.toArray 0)).get? h'.objs.size=some (seqObj "list" vs.toArray 0):=VT _ rfl;refine Vu (Wo (W6 slot_list_sort ⟨_,hl,rfl⟩ entry_list_sort (list_sort_tree (s:={s with heap:=h'.push (seqObj "list" vs.toArray 0),toks:=tk}) hl hI hz λout ly a1 a2 a3=>⟨_,rfl,?_⟩) (args_list_sort _)))
 obtain⟨n,hn⟩:=sortedHeap_at (out:=out) hl;refine Vy ⟨_,rfl,h out ly h' _ tk n a1 a2 a3 kp (λb o e=>?_) hn⟩;have hb:=VR e;rw[sortedHeap_old (V_ hb) (by rw[size_push'];exact Yv hb)]
 exact Vx _ e
theorem si:∀(us:List (Int×Tok)),X4 (us.map λx=>Value.int x.1 x.2) (us.map (·.1))
 |[]=>.nil
 |x::us=>.cons _ _ (si us)
theorem oh (hc:X.calm=true):eY X (.builtin "sorted") (λxs H Q=>∃p ns,xs=[V.ref p]/\H p=some (.ext (cJ X.w p ns))/\∀ms:List Int,ms.Pairwise (· < ·)->(∀x,x∈ms↔x∈ns)->ms.length<=60->∀a,H a=none->Q (.ref a) (upd H a (.lst (ms.map V.int)))):=by
 intro pins s σ H xs us Q I r h;obtain⟨p,ns,rfl,hp,q⟩:=h;obtain⟨u,rfl,rx⟩:=vals1 r;cases rx;obtain⟨⟨o,ts,es,ep,t,ho,S,hm,hl⟩,_,_⟩:=(show bp X.prog X.w H s.heap p (.ext (cJ X.w p ns)) from I.a6 p _ hp)
 obtain⟨us,ID,col⟩:=ST.qP (prog:=X.prog) (s:=s) ho S (by lia)
 refine xb (si us) (by rw[Vt,ID.length_eq];lia) (λR hR=>col _ _ R (by simp[I.ok.hd hc]) λh' tk kp=>hR h' tk kp) λout ly h1 h' tk n a1 a2 a3 k1 k2 hn=>?_
 have nd:ly.Nodup:=(a2.nodup_iff).mpr (((ID.map (·.1)).nodup_iff).mpr S.yL);have nW:ly.Pairwise (· < ·):=(List.Pairwise.and a3 nd).imp λ⟨x,y⟩=>by lia
 have I1:Inv X pins σ H {s with heap:=h1,toks:=s.toks}:=I.kept k1
 have IY:H h1.objs.size=none:=I1.a6.fresh (VA _);refine⟨.ref h1.objs.size,_,I1.laid (t':=tk) (o:=.lst (ly.map V.int)) k2 (VA _) ?_,rfl,q ly nW (λx=>?_) ?_ _ IY⟩
 ·refine⟨?_,out.toList,n,l3 a1,?_⟩
  ·rw[Vt,a2.length_eq,Vt,ID.length_eq,WD];lia
  ·simpa using hn
 ·rw[a2.mem_iff,<- hm x];exact(ID.map (·.1)).mem_iff
 ·rw[a2.length_eq,Vt,ID.length_eq];lia
end
section
end
structure Bs3 (mg:Str->Option Vv):Prop extends Bs2 mg where
 sum:mg "sum" = none
def tI (p:Nat×Nat):List Int:=[(p.1:Int),(p.2:Int)]
theorem zo {p q:Nat×Nat}(h:tI p=tI q):p=q:=by
 unfold tI at h;injection h with h1 h2
 injection h2 with h2 _
 exact Prod.ext (Int.ofNat.inj h1) (Int.ofNat.inj h2)
def C2 (ps:List (Nat×Nat)):D:=.lst (ps.map λp=>kD (tI p))
def pW (n:Nat)(ps:List (Nat×Nat)):D:=.tup [.int n,C2 ps]
structure va (n:Nat)(ps:List (Nat×Nat)):Prop where
 lt:∀p∈ps,p.1<p.2/\p.2<n
 nd:ps.Nodup
 le:n<=80
 sm:ps.length<=400
noncomputable def mY (l:List Nat):List D:=l.map λ(k:Nat)=>D.int (k:Int)
def nO (ps:List (Nat×Nat))(i:Nat):List Nat:=(ps.filter λp=>decide (p.1=i)).map (·.2)
theorem gf {ps:List (Nat×Nat)}{i k:Nat}:k∈nO ps i↔(i,k)∈ps:=by
 unfold nO;rw[V6];constructor
 ·rintro⟨p,hp,rfl⟩;obtain⟨h1,h2⟩:=WA.mp hp;rw[<- of_decide_eq_true h2];exact h1
 ·intro h;exact⟨(i,k),WA.mpr ⟨h,by simp⟩,rfl⟩
def CN (n:Nat)(ps:List (Nat×Nat)):D:=.lst ((VF n).map λi=>.lst (mY (nO ps i)))
def wD (ps:List (Nat×Nat))(w:Nat×Nat->Int):D:=dA (ps.map λp=>(tI p,.int (w p)))
theorem Gr {ps:List (Nat×Nat)}{w:Nat×Nat->Int}{p:Nat×Nat}(h:p∈ps):l8 (ps.map λp=>(tI p,.int (w p))) (tI p)=some (.int (w p)):=by
 unfold l8
 induction ps with
 |nil=>cases h
 |cons q ps ih =>
  rw[VM,Wd]
  by_cases e:q=p
  ·rw[e,decide_eq_true rfl];rfl
  ·rw[decide_eq_false λz=>e (zo z)];exact ih ((VB.mp h).resolve_left λz=>e z.symm)
theorem DW {ps:List (Nat×Nat)}{w:Nat×Nat->Int}{p:Nat×Nat}(h:p∉ps):l8 (ps.map λp=>(tI p,.int (w p))) (tI p)=none:=by
 unfold l8;rw[Option.map_eq_none_iff,List.find?_eq_none];intro x hx;obtain⟨q,hq,rfl⟩:=V6.mp hx;simp only[decide_eq_true_eq];intro e;exact h (zo e▸hq)
theorem Jc {ps:List (Nat×Nat)}{w:Nat×Nat->Int}{i k:Nat}(h:(i,k)∈ps):wF (wD ps w) (.tup [.int (i:Int),.int (k:Int)])=some (.int (w (i,k))):=by
 have:=Fc (kvs:=ps.map λp=>(tI p,D.int (w p))) (t:=tI (i,k));rw[Gr h]at this;exact this
theorem fu {α:Type}{n i:Nat}{f:Nat->α}(h:i<n):((VF n).map f)[i]?=some (f i):=by
 rw[VJ,Wz h];rfl
theorem la {ds:List D}{x:Int}{i:Nat}{d:D}(hx:x=(i:Int))(h:ds[i]?=some d):yW (.lst ds) (.int x)=some d:=by rw[hx];exact Fb h
theorem LC {n:Nat}{ps:List (Nat×Nat)}{x:Int}{i:Nat}(hx:x=(i:Int))(h:i<n):yW (CN n ps) (.int x)=some (.lst (mY (nO ps i))):=la hx (fu h)
def qW (L:Nat)(T:Nat->Int):List D:=(VF L).map λl=>.int (T l)
def md (n:Nat)(L:Nat->Nat)(T:Nat->Nat->Int):D:=.lst ((VF (n+1)).map λi=>.lst (qW (L i) λl=>T l i))
theorem oM {L:Nat}{T:Nat->Int}{x:Int}{l:Nat}(hx:x=(l:Int))(h:l<L):yW (.lst (qW L T)) (.int x)=some (.int (T l)):=la hx (fu h)
theorem oK {n:Nat}{L:Nat->Nat}{T:Nat->Nat->Int}{x:Int}{i:Nat}(hx:x=(i:Int))(h:i<=n):yW (md n L T) (.int x)=some (.lst (qW (L i) λl=>T l i)):=la hx (fu (by lia))
def lz (ps:List (Nat×Nat))(w:Nat×Nat->Int)(T:Nat->Nat->Int)(i j:Nat):Int:=(fU ((((nO ps i).filter λk=>decide (k<j)).map λk=>w (i,k)+T (k-i-1) (i+1)+T (j-k-1) (k+1))++[T (j-i-1) (i+1)])).getD 0
theorem xU {l:List Int}{x:Int}:fU (l++[x])=some ((fU (l++[x])).getD 0):=by
 cases l with
 |nil=>rfl
 |cons a l=>rfl
theorem mQ {ps:List (Nat×Nat)}{w:Nat×Nat->Int}{T T':Nat->Nat->Int}{i j:Nat}(hp:∀p∈ps,p.1<p.2)(hj:i<j)(h:∀l,l<j-i->∀a,T l a=T' l a):lz ps w T i j=lz ps w T' i j:=by
 unfold lz;have e:((nO ps i).filter λk=>decide (k<j)).map (λk=>w (i,k)+T (k-i-1) (i+1)+T (j-k-1) (k+1))=((nO ps i).filter λk=>decide (k<j)).map λk=>w (i,k)+T' (k-i-1) (i+1)+T' (j-k-1) (k+1):=by
  refine W3 λk hk=>?_;obtain⟨h1,h2⟩:=WA.mp hk;have h3:=hp _ (gf.mp h1);have h4:=of_decide_eq_true h2;dsimp only at h3;rw[h _ (by lia),h _ (by lia)]
 rw[e,h (j-i-1) (by lia)]
def GA (ps:List (Nat×Nat))(w:Nat×Nat->Int):Nat->Nat->Nat->Int
 |0,_,_=>0
 |_+1,0,_=>0
 |n+1,l+1,i=>lz ps w (GA ps w n) i (i+l+1)
theorem qV {ps:List (Nat×Nat)}{w:Nat×Nat->Int}(hp:∀p∈ps,p.1<p.2):∀{n m l i:Nat},l<=n->l<=m->GA ps w n l i=GA ps w m l i
 |0,0,_,_,_,_=>rfl
 |0,m+1,0,_,_,_=>rfl
 |0,m+1,l+1,_,h,_=>by lia
 |n+1,0,0,_,_,_=>rfl
 |n+1,0,l+1,_,_,h=>by lia
 |n+1,m+1,0,_,_,_=>rfl
 |n+1,m+1,l+1,i,h1,h2=>by
  unfold GA;exact mQ hp (by lia) λl' hl a=>qV hp (by lia) (by lia)
def tW (ps:List (Nat×Nat))(w:Nat×Nat->Int)(l i:Nat):Int:=GA ps w l l i
theorem vo {ps:List (Nat×Nat)}{w:Nat×Nat->Int}(hp:∀p∈ps,p.1<p.2){l i:Nat}:tW ps w (l+1) i=lz ps w (tW ps w) i (i+l+1):=by
 show GA ps w (l+1) (l+1) i=_;unfold GA;exact mQ hp (by lia) λl' hl a=>qV hp (by lia) (by lia)
def e_ (n a:Nat):List (Nat×Nat):=(VF (a+1)).map λb=>(n-1-a,n-a+b)
def pN (n:Nat):List (Nat×Nat):=(VF n).flatMap (e_ n)
def yJ (p:Nat×Nat):D:=.tup [.int (p.1:Int),.int (p.2:Int)]
def fv (n a b:Nat):List (Nat×Nat):=(e_ n a).drop b++((VF n).drop (a+1)).flatMap (e_ n)
theorem i8 {n a b:Nat}(h:b<=a):fv n a b=(n-1-a,n-a+b)::fv n a (b+1):=by
 unfold fv e_;rw[WW (by rw[Vt,V9];lia)]
 simp
theorem o7 {n a:Nat}(h:a<n):((VF n).drop a).flatMap (e_ n)=fv n a 0:=by
 unfold fv;rw[WW (by rw[V9];exact h)]
 simp
theorem oB {n a:Nat}(h:a+1<n):fv n a (a+1)=fv n (a+1) 0:=by
 rw[<- o7 h];unfold fv e_;simp
theorem uf {n a:Nat}(h:n<=a+1):fv n a (a+1)=[]:=by
 unfold fv e_;rw[List.drop_eq_nil_of_le (by simp),List.drop_eq_nil_of_le (by simpa using h)]
 rfl
theorem w_ {n:Nat}(h:0<n):pN n=fv n 0 0:=by rw[<- o7 h];rfl
theorem gh {α:Type}{γ:cF}{τ:aP}{φ:aE}{l:List α}{f:α->D}{k:Kd}{wG:aJ}{K:List D->Prop}(t:α->Bool)(g:α->D)(h0:fC wG wG)(hl:l.length<=VH)
  (h:∀x∈l,∀(x0:Option B) (o:List D) (J:aJ->List D->Prop),o.length<VH->(t x=true->∀x0,J (x0::wG) (o++[g x]))->(t x=false->∀x0,J (x0::wG) o)->γ (f x) (sk k (f x)) (x0::wG) λβ1=>τ β1 λt β2=>if t=true then φ β2 λx kx β3=>Es kx x/\o.length<VH/\J β3 (o++[x]) else J β2 o)
  (q:K ((l.filter t).map g)):oI γ τ φ (l.map f) k (none::wG) K:=by
 refine⟨λi β o=>i<=l.length/\(∃x0,β=x0::wG)/\o=((l.take i).filter t).map g,⟨VX _,⟨_,rfl⟩,rfl⟩,?_,?_⟩
 ·rintro i d β o hd ⟨hi,⟨x0,rfl⟩,rfl⟩;rw[VJ]at hd;obtain⟨x,hx,rfl⟩:=VQ.mp hd;have jm:i<l.length:=(VN.mp hx).1;have hle:(((l.take i).filter t).map g).length<VH:=by
   rw[Vt];have:=Wx t (l.take i);rw[V7]at this;lia
  have e:l.take (i+1)=l.take i++[x]:=by rw[Wr,hx];rfl
  refine h x (Wt hx) x0 _ (λβ o=>i+1<=l.length/\(∃x0,β=x0::wG)/\o=((l.take (i+1)).filter t).map g) hle (λht x0=>?_) λht x0=>?_
  ·exact⟨jm,⟨_,rfl⟩,by rw[e,XY,VI,XM,if_pos ht];rfl⟩
  ·exact⟨jm,⟨_,rfl⟩,by rw[e,XY,VI,XM,if_neg (by rw[ht];simp)];simp⟩
 ·rintro β o ⟨_,⟨x0,rfl⟩,rfl⟩;rw[Vt,Xm];exact⟨h0,q⟩
theorem lg {α:Type}{l:List α}:l.filter (λ_=>true)=l:=List.filter_eq_self.mpr λ_ _=>rfl
theorem eV {a b:List D}(h:a.length+b.length<=1000000):Fe (.lst a) (.lst b)=some (.lst (a++b)):=by
 show (if a.length+b.length<=VH then _ else _)=_
 rw[if_pos (Wc h (by decide))]
theorem iq {α:Type}{f:α->Int}:∀{l:List α},D.dg (l.map λx=>D.int (f x))=true
 |[]=>rfl
 |_::l=>iq (l:=l)
theorem oX:∀{a b:List D},D.dg a=true->D.dg b=true->D.dg (a++b)=true
 |[],_,_,h=>h
 |d::a,b,h,h'=>by
  have f':(d.flat&&D.dg a)=true:=h;rw[Wf]at f';show (d.flat&&D.dg (a++b))=true;rw[f'.1,oX f'.2 h'];rfl
theorem A4 {α:Type}{f:α->Int}{l:List α}{x:Int}:iu fU [.lst ((l.map λk=>D.int (f k))++[D.int x])]=some (.int ((fU (l.map f++[x])).getD 0)):=by
 have e:(l.map λk=>D.int (f k))++[D.int x]=(l.map f++[x]).map D.int:=by simp
 rw[e];exact nz xU
theorem Ea {α:Type}{l:List α}{m:Nat}{x:α}(h:l.Nodup)(hx:l[m]?=some x):x∉l.take m:=λz=>by
 obtain⟨i,hi⟩:=List.mem_iff_getElem?.mp z;rw[List.getElem?_take]at hi
 split at hi
 ·next jm =>
  have:=(List.getElem?_inj (VN.mp hi).1 h).mp (hi.trans hx.symm);lia
 ·cases hi
def BR:FD:=λds R=>∃n:Nat,ds=[.int n]/\n<=80/\R (.lst ((pN n).map yJ))
theorem BR.mono:cm BR:=λds R R' k h=>by obtain⟨n,e,h1,q⟩:=h;exact⟨n,e,h1,k _ q⟩
def ng:FD:=λds R=>∃n ps,ds=[pW n ps]/\va n ps/\R (CN n ps)
theorem ng.mono:cm ng:=λds R R' k h=>by obtain⟨n,ps,e,h1,q⟩:=h;exact⟨n,ps,e,h1,k _ q⟩
def nh:FD:=λds R=>∃(n:Nat) (ps:List (Nat×Nat)) (w:Nat×Nat->Int) (L:Nat->Nat) (T:Nat->Nat->Int) (i k j:Nat),ds=[wD ps w,md n L T,.int i,.int k,.int j]/\(i,k)∈ps/\i<k/\k<j/\j<=n/\k-i-1<L (i+1)/\j-k-1<L (k+1) /\
 R (.int (w (i,k)+T (k-i-1) (i+1)+T (j-k-1) (k+1)))
theorem nh.mono:cm nh:=λds R R' k h=>by obtain⟨n,ps,w,L,T,i,k',j,e,h1,h2,h3,h4,h5,h6,q⟩:=h;exact⟨n,ps,w,L,T,i,k',j,e,h1,h2,h3,h4,h5,h6,k _ q⟩
def ni:FD:=λds R=>∃(n:Nat) (ps:List (Nat×Nat)) (w:Nat×Nat->Int) (L:Nat->Nat) (T:Nat->Nat->Int) (i j:Nat),ds=[CN n ps,wD ps w,md n L T,.int i,.int j]/\va n ps/\i<j/\j<=n/\(∀a,i<a->a<=n->n+1-a<=L a)/\R (.int (lz ps w T i j))
theorem ni.mono:cm ni:=λds R R' k h=>by obtain⟨n,ps,w,L,T,i,j,e,h1,h2,h3,h4,q⟩:=h;exact⟨n,ps,w,L,T,i,j,e,h1,h2,h3,h4,k _ q⟩
abbrev jO (n:Nat)(T:Nat->Nat->Int):D:=md n (λi=>n+1-i) T
def nj:FD:=λds R=>∃(n:Nat) (ps:List (Nat×Nat)) (w:Nat×Nat->Int),ds=[pW n ps,wD ps w]/\va n ps/\R (jO n (tW ps w))
theorem nj.mono:cm nj:=λds R R' k h=>by obtain⟨n,ps,w,e,h1,q⟩:=h;exact⟨n,ps,w,e,h1,k _ q⟩
def w1:Nat×Nat->Int:=λ_=>1
def uR:FD:=λds R=>∃(n:Nat) (ps:List (Nat×Nat)),ds=[pW n ps]/\va n ps/\R (wD ps w1)
theorem uR.mono:cm uR:=λds R R' k h=>by obtain⟨n,ps,e,h1,q⟩:=h;exact⟨n,ps,e,h1,k _ q⟩
def m8:FD:=λds R=>∃(n:Nat) (ps:List (Nat×Nat)),ds=[pW n ps]/\va n ps/\R (jO n (tW ps w1))
theorem m8.mono:cm m8:=λds R R' k h=>by obtain⟨n,ps,e,h1,q⟩:=h;exact⟨n,ps,e,h1,k _ q⟩
theorem dv {n:Nat}(h:n<=1000):n<=VH:=Wc h (by decide)
theorem qY {n:Nat}(h:n<=1000):n<VH:=Xr h (by decide)
theorem Iv {n i:Nat}{x:Int}(hx:x=(i:Int))(h:i<n):yb n x=some i:=by
 subst hx;unfold yb;rw[if_pos (by lia),if_pos (by lia)]
 simp
theorem vt {α:Type}{n i:Nat}{f:Nat->α}{y:α}(h:i<n):((VF n).map f).set i y=(VF n).map λk=>if k=i then y else f k:=by
 refine Yx λk=>?_;rw[XD]
 by_cases hk:k<n
 ·rw[fu hk,fu hk,Vt,V9]
  by_cases e:i=k
  ·rw[if_pos e,if_pos (e▸hk),if_pos e.symm]
  ·rw[if_neg e,if_neg (Xg e)]
 ·rw[WE (l:=(VF n).map f) (by simpa using hk),WE (l:=(VF n).map λk=>if k=i then y else f k) (by simpa using hk),if_neg (by lia)]
theorem GQ {n i k:Nat}{ps:List (Nat×Nat)}(h:i<n):((VF n).map λj=>D.lst (mY (nO ps j))).set i (.lst (mY (nO ps i)++[D.int k]))=(VF n).map λj=>D.lst (mY (nO (ps++[(i,k)]) j)):=by
 rw[vt h];refine W3 λj _=>?_;unfold nO mY;rw[XY,VI,VI]
 by_cases e:j=i
 ·rw[if_pos e,e];simp
 ·rw[if_neg e,XM,if_neg (by simpa using Xg e)];simp
theorem jy {ps:List (Nat×Nat)}{i:Nat}:(nO ps i).length<=ps.length:=by
 unfold nO;rw[Vt];exact Wx _ _
def gj (n a b:Nat)(i:Nat):Nat:=if n-1-a<i then n+1-i else if i=n-1-a then b+1 else 1
theorem C_ {n a b:Nat}{T:Nat->Nat->Int}(ha:a<n)(hb:b<=a):
  ((VF (n+1)).map λi=>D.lst (qW (gj n a b i) λl=>T l i)).set (n-1-a) (.lst (qW (b+1) (λl=>T l (n-1-a))++[D.int (T (b+1) (n-1-a))]))=(VF (n+1)).map λi=>D.lst (qW (gj n a (b+1) i) λl=>T l i):=by
 rw[vt (by lia)]
 refine W3 λi _=>?_;unfold gj
 by_cases e:i=n-1-a
 ·rw[if_pos e,e,if_neg (by lia),if_pos rfl]
  unfold qW;rw[YO (n:=b+1),VI];rfl
 ·rw[if_neg e,if_neg e,if_neg e]
theorem xX {n a:Nat}(h:a+1<n)(i:Nat)(hi:i<=n):gj n a (a+1) i=gj n (a+1) 0 i:=by
 unfold gj
 by_cases h1:n-1-a<i
 ·rw[if_pos h1,if_pos (by omega)]
 ·rw[if_neg h1]
  by_cases h2:i=n-1-a
  ·rw[if_pos h2,if_pos (by omega)];omega
  ·rw[if_neg h2,if_neg (by omega)]
   split <;> rfl
theorem A9 {n a:Nat}(h:n=a+1)(i:Nat)(hi:i<=n):gj n a (a+1) i=n+1-i:=by
 unfold gj
 split
 ·rfl
 ·split <;> lia
theorem uA {n:Nat}(h:0<n)(i:Nat)(hi:i<=n):gj n 0 0 i=1:=by
 unfold gj
 split
 ·lia
 ·split <;> rfl
theorem oz {n:Nat}{L L':Nat->Nat}{T:Nat->Nat->Int}(h:∀i,i<=n->L i=L' i):md n L T=md n L' T:=by
 unfold md
 congr 1
 refine W3 λi hi=>?_;rw[h i (by have:=Wl.mp hi;lia)]
def wQ (n idx:Nat)(L:Nat->Nat):Prop:=(n=0/\L 0=1)\/∃a b,a<n/\b<=a+1/\(∀i,i<=n->L i=gj n a b i)/\(pN n).drop idx=fv n a b
theorem sS {n:Nat}:wQ n 0 λ_=>1:=by
 rcases Nat.eq_zero_or_pos n with h|h
 ·exact .inl ⟨h,rfl⟩
 ·exact .inr ⟨0,0,h,VX _,λi hi=>(uA h i hi).symm,w_ h⟩
theorem yn {n:Nat}{L:Nat->Nat}(h:wQ n (pN n).length L):∀i,i<=n->L i=n+1-i:=by
 rcases h with⟨rfl,h⟩|⟨a,b,h1,h2,h3,h4⟩
 ·intro i hi;rw[show i=0 by lia,h]
 ·intro i hi;rw[List.drop_length]at h4;have hb:b=a+1:=by
   rcases WX a b with q|q
   ·lia
   ·rw[i8 q]at h4;cases h4
  have ha:n=a+1:=by
   rcases WX (a+1) n with q|q
   ·rw[hb,oB q,i8 (VX _)]at h4;cases h4
   ·lia
  rw[h3 i hi,hb];exact A9 ha i hi
theorem uU {n idx:Nat}{L:Nat->Nat}{p:Nat×Nat}(h:wQ n idx L)(hp:(pN n)[idx]?=some p):∃a b,a<n/\b<=a/\p=(n-1-a,n-a+b)/\(∀i,i<=n->L i=gj n a b i)/\(pN n).drop (idx+1)=fv n a (b+1):=by
 have hd:(pN n).drop idx=p::(pN n).drop (idx+1):=by
  obtain⟨h1,h2⟩:=VN.mp hp;rw[WW h1,h2]
 rcases h with⟨rfl,h⟩|⟨a,b,h1,h2,h3,h4⟩
 ·cases hp
 ·have key:∃a b,a<n/\b<=a/\(∀i,i<=n->L i=gj n a b i)/\(pN n).drop idx=fv n a b:=by
   rcases WX a b with q|q
   ·have e:b=a+1:=by lia
    rcases WX (a+1) n with q2|q2
    ·exact⟨a+1,0,q2,VX _,λi hi=>by rw[h3 i hi,e,xX q2 i hi],by rw[h4,e,oB q2]⟩
    ·rw[h4,e,uf q2]at hd;cases hd
   ·exact⟨a,b,h1,q,h3,h4⟩
  obtain⟨a,b,h1,h2,h3,h4⟩:=key;rw[h4,i8 h2]at hd;injection hd with e1 e2
  exact⟨a,b,h1,h2,e1.symm,h3,e2.symm⟩
theorem rj {n a:Nat}:(e_ n a).length=a+1:=by unfold e_;simp
theorem xq {n a b:Nat}(h:b<a+1):(e_ n a).take (b+1)=(e_ n a).take b++[(n-1-a,n-a+b)]:=by
 rw[Wr];unfold e_;rw[fu h];rfl
theorem zB {n a:Nat}:(e_ n a).take (a+1)=e_ n a:=WS (by rw[rj];exact VA _)
theorem sG {n:Nat}:∀a:Nat,a<=n->(((VF n).take a).flatMap (e_ n)).length<=a*a
 |0,_=>by simp
 |a+1,h=>by
  have:=sG (n:=n) a (by lia)
  rw[Wr,Wz (show a<n by lia),Xi,VV]
  have e:((some a).toList.flatMap (e_ n)).length=a+1:=by simp[rj]
  rw[e,Y0,Nat.add_mul];lia
theorem zp {n a b:Nat}(hn:n<=80)(ha:a<n)(hb:b<a+1):(((VF n).take a).flatMap (e_ n)).length+((e_ n a).take b).length<VH:=by
 have h1:=sG (n:=n) a (by lia)
 have h2:((e_ n a).take b).length<=b:=by rw[V7];exact Yh _ _
 have h3:a*a<=80*80:=Nat.mul_le_mul (by lia) (by lia)
 have h4:80*80+80<VH:=by decide
 lia
theorem xT {l:List Int}{x:Int}:(fU (l++[x])).getD 0∈l++[x]/\∀y∈l++[x],y<=(fU (l++[x])).getD 0:=by
 cases l with
 |nil=>exact cw [] x
 |cons a l=>exact cw (l++[x]) a
theorem xW {ps:List (Nat×Nat)}{w:Nat×Nat->Int}{T:Nat->Nat->Int}{i j:Nat}:
  (lz ps w T i j=T (j-i-1) (i+1)\/∃k,(i,k)∈ps/\k<j/\lz ps w T i j=w (i,k)+T (k-i-1) (i+1)+T (j-k-1) (k+1)) /\
  T (j-i-1) (i+1)<=lz ps w T i j/\∀k,(i,k)∈ps->k<j->w (i,k)+T (k-i-1) (i+1)+T (j-k-1) (k+1)<=lz ps w T i j:=by
 obtain⟨h1,h2⟩:=xT (l:=((nO ps i).filter λk=>decide (k<j)).map λk=>w (i,k)+T (k-i-1) (i+1)+T (j-k-1) (k+1)) (x:=T (j-i-1) (i+1));refine⟨?_,h2 _ (by simp),λk hk hj=>h2 _ (V3 _ (V6.mpr ⟨k,WA.mpr ⟨gf.mpr hk,decide_eq_true hj⟩,rfl⟩))⟩
 rcases VL.mp h1 with h|h
 ·obtain⟨k,hk,e⟩:=V6.mp h;obtain⟨q1,q2⟩:=WA.mp hk;exact .inr ⟨k,gf.mp q1,of_decide_eq_true q2,e.symm⟩
 ·exact .inl (VD.mp h)
def oD:Option Nat->D
 |none=>.cU
 |some k=>.int (k:Int)
def parts (i:Nat)(k:Option Nat)(j:Nat):List (Nat×Nat):=match k with
 |none=>[(i+1,j)]
 |some k=>[(i+1,k),(k+1,j)]
def gF (ps:List (Nat×Nat))(w:Nat×Nat->Int)(T:Nat->Nat->Int)(i j:Nat):List (Option Nat) :=
 ((nO ps i).filter λk=>decide (k<j)&&decide (w (i,k)+T (k-i-1) (i+1)+T (j-k-1) (k+1)=T (j-i) i)).map some++(if T (j-i-1) (i+1)=T (j-i) i then [none] else [])
def O3 (ps:List (Nat×Nat))(w:Nat×Nat->Int)(T:Nat->Nat->Int)(i j:Nat):Option Nat->Prop
 |none=>T (j-i-1) (i+1)=T (j-i) i
 |some k=>(i,k)∈ps/\k<j/\w (i,k)+T (k-i-1) (i+1)+T (j-k-1) (k+1)=T (j-i) i
theorem ik {ps:List (Nat×Nat)}{w:Nat×Nat->Int}{T:Nat->Nat->Int}{i j:Nat}{c:Option Nat}(h:c∈gF ps w T i j):O3 ps w T i j c:=by
 unfold gF at h;rcases VL.mp h with h|h
 ·obtain⟨k,hk,rfl⟩:=V6.mp h;obtain⟨h1,h2⟩:=WA.mp hk;rw[Wf,decide_eq_true_eq,decide_eq_true_eq]at h2;exact⟨gf.mp h1,h2.1,h2.2⟩
 ·split at h
  ·next e=>rw[VD.mp h];exact e
  ·cases h
theorem tm {ps:List (Nat×Nat)}{w:Nat×Nat->Int}(hp:∀p∈ps,p.1<p.2){i j:Nat}(h:i<j):gF ps w (tW ps w) i j≠[]:=by
 have e:tW ps w (j-i) i=lz ps w (tW ps w) i j:=by rw[show j-i=(j-i-1)+1 by lia,vo hp,show i+(j-i-1)+1=j by lia]
 obtain⟨h1,_,_⟩:=xW (ps:=ps) (w:=w) (T:=tW ps w) (i:=i) (j:=j);rw[<- e]at h1;unfold gF;intro z;obtain⟨z1,z2⟩:=List.append_eq_nil_iff.mp z;rcases h1 with q|⟨k,hk,hj,q⟩
 ·rw[if_pos q.symm]at z2;cases z2
 ·have:k∈(nO ps i).filter λk=>decide (k<j)&&decide (w (i,k)+tW ps w (k-i-1) (i+1)+tW ps w (j-k-1) (k+1)=tW ps w (j-i) i):=WA.mpr ⟨gf.mpr hk,by rw[Wf,decide_eq_true_eq,decide_eq_true_eq];exact⟨hj,q.symm⟩⟩
  rw[List.map_eq_nil_iff.mp z1]at this;cases this
def d8 (ps:List (Nat×Nat))(w:Nat×Nat->Int)(i j:Nat):Option Nat:=(gF ps w (tW ps w) i j).headD none
theorem gu {ps:List (Nat×Nat)}{w:Nat×Nat->Int}(hp:∀p∈ps,p.1<p.2){i j:Nat}(h:i<j):d8 ps w i j∈gF ps w (tW ps w) i j:=by
 have:=tm (w:=w) hp h;unfold d8;cases q:gF ps w (tW ps w) i j with
 |nil=>exact absurd q this
 |cons a l=>simp
noncomputable def n6 (ps:List (Nat×Nat))(w:Nat×Nat->Int):Nat->Nat->Nat->List (Nat×Nat)
 |0,_,_=>[]
 |n+1,i,j=>if i<j then match d8 ps w i j with
   |none=>n6 ps w n (i+1) j
   |some k=>(i,k)::(n6 ps w n (i+1) k++n6 ps w n (k+1) j)
  else []
theorem eI {ps:List (Nat×Nat)}{w:Nat×Nat->Int}(hp:∀p∈ps,p.1<p.2):∀{n m i j:Nat},j-i<=n->j-i<=m->n6 ps w n i j=n6 ps w m i j
 |0,0,_,_,_,_=>rfl
 |0,m+1,i,j,h,_=>by unfold n6;rw[if_neg (by omega)]
 |n+1,0,i,j,_,h=>by unfold n6;rw[if_neg (by omega)]
 |n+1,m+1,i,j,h1,h2=>by
  unfold n6
  by_cases h:i<j
  ·rw[if_pos h,if_pos h];have hm:=ik (gu (w:=w) hp h);cases q:d8 ps w i j with
   |none=>exact eI hp (by omega) (by omega)
   |some k =>
    rw[q]at hm;have:=hp _ hm.1;dsimp only at this;have h3:=hm.2.1;dsimp only;rw[eI hp (n:=n) (m:=m) (i:=i+1) (j:=k) (by omega) (by omega),eI hp (n:=n) (m:=m) (i:=k+1) (j:=j) (by omega) (by omega)]
  ·rw[if_neg h,if_neg h]
def iG (ps:List (Nat×Nat))(w:Nat×Nat->Int)(i j:Nat):List (Nat×Nat):=n6 ps w (j-i) i j
theorem m7 {ps:List (Nat×Nat)}{w:Nat×Nat->Int}{i j:Nat}(h:¬ i<j):iG ps w i j=[]:=by
 unfold iG;rw[show j-i=0 by lia]
 rfl
theorem oU {ps:List (Nat×Nat)}{w:Nat×Nat->Int}(hp:∀p∈ps,p.1<p.2){i j:Nat}(h:i<j):iG ps w i j=match d8 ps w i j with
  |none=>iG ps w (i+1) j
  |some k=>(i,k)::(iG ps w (i+1) k++iG ps w (k+1) j):=by
 unfold iG;rw[show j-i=(j-i-1)+1 by lia]
 conv=>lhs;unfold n6
 rw[if_pos h];have hm:=ik (gu (w:=w) hp h);cases q:d8 ps w i j with
 |none=>exact eI hp (by lia) (by lia)
 |some k =>
  rw[q]at hm;have:=hp _ hm.1;dsimp only at this;have h3:=hm.2.1;dsimp only;rw[eI hp (n:=j-i-1) (m:=k-(i+1)) (i:=i+1) (j:=k) (by lia) (by lia),eI hp (n:=j-i-1) (m:=j-(k+1)) (i:=k+1) (j:=j) (by lia) (by lia)]
def sD (i:Nat):Option Nat->List (Nat×Nat)
 |none=>[]
 |some k=>[(i,k)]
theorem uO {ps:List (Nat×Nat)}{w:Nat×Nat->Int}(hp:∀p∈ps,p.1<p.2){i j:Nat}(h:i<j):iG ps w i j=sD i (d8 ps w i j)++(parts i (d8 ps w i j) j).flatMap λp=>iG ps w p.1 p.2:=by
 rw[oU hp h];cases d8 ps w i j with
 |none=>simp[parts,sD]
 |some k=>simp[parts,sD]
theorem BI {ps:List (Nat×Nat)}{w:Nat×Nat->Int}(hp:∀p∈ps,p.1<p.2):∀l i j,j-i<=l->2*(iG ps w i j).length<=j-i:=by
 intro l
 induction l with
 |zero=>intro i j h;rw[m7 (by lia)];exact VX _
 |succ l ih =>
  intro i j h
  by_cases aD:i<j
  ·rw[oU hp aD];have hm:=ik (gu (w:=w) hp aD);cases q:d8 ps w i j with
   |none=>have:=ih (i+1) j (by lia);dsimp only;lia
   |some k =>
    rw[q]at hm;have h1:=hp _ hm.1;dsimp only at h1;have h3:=hm.2.1;have a1:=ih (i+1) k (by lia)
    have a2:=ih (k+1) j (by lia)
    dsimp only;rw[Wa,VV];lia
  ·rw[m7 aD];exact VX _
def m_:FD:=λds R=>∃(i:Nat) (k:Option Nat) (j:Nat),ds=[.int i,oD k,.int j]/\R (.lst ((parts i k j).map yJ))
theorem m_.mono:cm m_:=λds R R' k h=>by obtain⟨i,c,j,e,q⟩:=h;exact⟨i,c,j,e,k _ q⟩
def sP:FD:=λds R=>∃(n:Nat) (ps:List (Nat×Nat)) (w:Nat×Nat->Int) (T:Nat->Nat->Int) (i j:Nat),ds=[CN n ps,wD ps w,jO n T,.int i,.int j]/\va n ps/\i<j/\j<=n/\R (.lst ((gF ps w T i j).map oD))
theorem sP.mono:cm sP:=λds R R' k h=>by obtain⟨n,ps,w,T,i,j,e,h1,h2,h3,q⟩:=h;exact⟨n,ps,w,T,i,j,e,h1,h2,h3,k _ q⟩
def sN:FD:=λds R=>∃(n:Nat) (ps:List (Nat×Nat)) (w:Nat×Nat->Int) (i j:Nat),ds=[pW n ps,wD ps w,jO n (tW ps w),.int i,.int j]/\va n ps/\i<=j/\j<=n/\R (C2 (iG ps w i j))
theorem sN.mono:cm sN:=λds R R' k h=>by obtain⟨n,ps,w,i,j,e,h1,h2,h3,q⟩:=h;exact⟨n,ps,w,i,j,e,h1,h2,h3,k _ q⟩
def AZ (ps:List (Nat×Nat))(i j:Nat):D:=.tup [.int (tW ps w1 (j-i) i),C2 (iG ps w1 i j)]
def jW:FD:=λds R=>∃(n:Nat) (ps:List (Nat×Nat)) (i j:Nat),ds=[pW n ps,.int i,.int j]/\va n ps/\i<=j/\j<=n/\R (AZ ps i j)
theorem jW.mono:cm jW:=λds R R' k h=>by obtain⟨n,ps,i,j,e,h1,h2,h3,q⟩:=h;exact⟨n,ps,i,j,e,h1,h2,h3,k _ q⟩
def g9:FD:=λds R=>∃(n:Nat) (ps:List (Nat×Nat)),ds=[pW n ps]/\va n ps/\R (AZ ps 0 n)
theorem g9.mono:cm g9:=λds R R' k h=>by obtain⟨n,ps,e,h1,q⟩:=h;exact⟨n,ps,e,h1,k _ q⟩
def vh (ws:List (Nat×Nat)):Nat:=(ws.map λp=>2*(p.2-p.1)+1).sum
theorem pJ {a b:List (Nat×Nat)}:vh (a++b)=vh a+vh b:=by unfold vh;rw[VI,List.sum_append]
theorem C0 {a:List (Nat×Nat)}:vh a.reverse=vh a:=by
 unfold vh;rw[List.map_reverse];exact(List.reverse_perm _).sum_nat
theorem jF {α β:Type}{f:α->β}:∀(l:List α) (m:Nat),(l.eraseIdx m).map f=(l.map f).eraseIdx m
 |[],_=>rfl
 |_::_,0=>rfl
 |x::l,m+1=>by
  show f x::(l.eraseIdx m).map f=f x::(l.map f).eraseIdx m;rw[jF l m]
end L2.Q
namespace L2
open PySem
structure wX (mg:Str->Option Vv):Prop extends Bs2 mg where
 dict:mg "dict" = none
theorem uV:Jn (.int 10) (.int 30)=some (.int (10 ^ 30)):=by
 show (if ve 10 30 then _ else none)=_
 rw[if_pos (by decide)]
 rfl
theorem B8:Jn (.int 10) (.int 29)=some (.int (10 ^ 29)):=by
 show (if ve 10 29 then _ else none)=_
 rw[if_pos (by decide)]
 rfl
end L2
namespace L2.Q
open PySem
def BW:FD:=λds R=>ds=[]/\∀g:Int,0<=g->R (.int g)
theorem BW.mono:cm BW:=λds R R' k h=>by obtain⟨e,q⟩:=h;exact⟨e,λg a=>k _ (q g a)⟩
theorem qQ {b:Bool}{t:List Int}:∀{ts:List (List Int)},(l7 (ts.map iK) (Ws ts.length (.bl b)) (iK t)).isSome=decide (t∈ts)
 |[]=>by simp[l7]
 |u::ts=>by
  have ih:=qQ (b:=b) (t:=t) (ts:=ts);unfold l7 at *
  rw[VM,Wa,List.replicate_succ,Wu,Wd]
  by_cases h:u=t
  ·rw[decide_eq_true (congrArg iK h)];simp[h]
  ·rw[decide_eq_false (λz=>h (uI z))];simp only[ih];have:(t∈u::ts)↔t∈ts:=by simp[Xg h]
   exact decide_eq_decide.mpr this.symm
theorem Cc {ts:List (List Int)}{b:Bool}{t:List Int}:Jr (kD t) (dP ts b)=some (.bl (decide (t∈ts))):=by
 unfold Jr;have e:yq (dP ts b) (kD t)=some ((ts.map iK,Ws ts.length (.bl b)),t):=by
  show (some _).bind (λp=>(some (t.map D.int)).bind λes=>(jZ es).map λt=>(p,t))=_;rw[Xl,Xl,iw];rfl
 rw[e,Xx,qQ]
theorem rY {ts:List (List Int)}{t u:List Int}:u∈j6 ts t↔u∈ts\/u=t:=by
 unfold j6
 split
 ·next h=>exact⟨.inl,λz=>z.elim id λz=>by rw[z];exact h⟩
 ·rw[VL,VD]
def Gb (acc:List (List Int))(t:List Int):List (List Int):=j6 (j6 acc t) t.reverse
def eW (ps:List (List Int)):List (List Int):=ps.foldl Gb []
theorem E6 {ps:List (List Int)}{t:List Int}:eW (ps++[t])=Gb (eW ps) t:=by unfold eW;rw[List.foldl_append];rfl
theorem nK {ts:List (List Int)}{t:List Int}:(j6 ts t).length<=ts.length+1:=by unfold j6;split <;> simp
theorem B4:∀{ps acc:List (List Int)},(ps.foldl Gb acc).length<=acc.length+2*ps.length
 |[],acc=>by simp
 |t::ps,acc=>by
  rw[Yi,Wa];have h1:=B4 (ps:=ps) (acc:=Gb acc t);have h2:(Gb acc t).length<=acc.length+2:=by
   unfold Gb;have h3:=nK (ts:=j6 acc t) (t:=t.reverse);have h4:=nK (ts:=acc) (t:=t);lia
  lia
theorem vW {u:List Int}:∀{ps acc:List (List Int)},u∈ps.foldl Gb acc↔u∈acc\/u∈ps\/u.reverse∈ps
 |[],acc=>by simp
 |t::ps,acc=>by
  rw[Yi,vW,VB,VB];unfold Gb;rw[rY,rY];have e:u=t.reverse↔u.reverse=t:=⟨λh=>by rw[h,Y1],λh=>by rw[<- h,Y1]⟩
  rw[e];constructor
  ·rintro (((h|h)|h)|h|h)
   ·exact .inl h
   ·exact .inr (.inl (.inl h))
   ·exact .inr (.inr (.inl h))
   ·exact .inr (.inl (.inr h))
   ·exact .inr (.inr (.inr h))
  ·rintro (h|(h|h)|(h|h))
   ·exact .inl (.inl (.inl h))
   ·exact .inl (.inl (.inr h))
   ·exact .inr (.inl h)
   ·exact .inl (.inr h)
   ·exact .inr (.inr h)
theorem HZ {ps:List (List Int)}{a b:Int}:[a,b]∈eW ps↔[a,b]∈ps\/[b,a]∈ps:=by
 unfold eW;rw[vW];simp
def Jg (ks:List Int)(ps:List (List Int))(a b:Nat):Bool:=decide ([ks.getD a 0,ks.getD b 0]∈ps) || decide ([ks.getD b 0,ks.getD a 0]∈ps)
theorem Jf {ks:List Int}{ps:List (List Int)}{a b:Nat}:decide ([ks.getD a 0,ks.getD b 0]∈eW ps)=Jg ks ps a b:=by
 unfold Jg;rw[<- Bool.decide_or];exact decide_eq_decide.mpr HZ
def FT (ks:List Int)(ps:List (List Int))(g:Int)(a b:Nat):Bool:=decide (g<(b:Int)-(a:Int))&&Jg ks ps a b
def iA (n:Nat)(ok:Nat->Nat->Bool)(a:Nat):List (Nat×Nat):=((VF (n-(a+1))).filter λk=>ok a (a+1+k)).map λk=>(a,a+1+k)
def tK (ks:List Int)(ps:List (List Int))(g:Int):List (Nat×Nat):=(VF ks.length).flatMap (iA ks.length (FT ks ps g))
theorem zC {n:Nat}{ok:Nat->Nat->Bool}{a:Nat}:(iA n ok a).length<=n:=by
 unfold iA;rw[Vt];exact Wc (Wx _ _) (by rw[V9];lia)
theorem qX {n m:Nat}{ok:Nat->Nat->Bool}:(((VF n).take m).flatMap (iA n ok)).length<=m*n:=by
 induction m with
 |zero=>simp
 |succ m ih =>
  rw[Wr,Xi,VV,Nat.succ_mul];refine Nat.add_le_add ih ?_;cases h:(VF n)[m]? with
  |none=>simp
  |some x=>simp[zC]
def pK (n:Nat)(ok:Nat->Nat->Bool)(a b:Nat):List (Nat×Nat):=((VF n).take a).flatMap (iA n ok)++(((VF (n-(a+1))).take b).filter λk=>ok a (a+1+k)).map λk=>(a,a+1+k)
theorem DH {n:Nat}{ok:Nat->Nat->Bool}{a:Nat}:pK n ok a 0=((VF n).take a).flatMap (iA n ok):=by unfold pK;simp
theorem vM {n:Nat}{ok:Nat->Nat->Bool}{a b:Nat}(hb:b<n-(a+1)):pK n ok a (b+1)=pK n ok a b++(if ok a (a+1+b)=true then [(a,a+1+b)] else []):=by
 unfold pK;have et:(VF (n-(a+1))).take (b+1)=(VF (n-(a+1))).take b++[b]:=by rw[Wr,Wz hb];rfl
 rw[et,XY,VI,WT,XM]
 by_cases h:ok a (a+1+b)=true
 ·rw[if_pos h,if_pos h];rfl
 ·rw[if_neg h,if_neg h];rfl
theorem Ho {n:Nat}{ok:Nat->Nat->Bool}{a b:Nat}(hb:b<n-(a+1))(h:ok a (a+1+b)=true):pK n ok a (b+1)=pK n ok a b++[(a,a+1+b)]:=by rw[vM hb,if_pos h]
theorem FO {n:Nat}{ok:Nat->Nat->Bool}{a b:Nat}(hb:b<n-(a+1))(h:ok a (a+1+b)=false):pK n ok a (b+1)=pK n ok a b:=by rw[vM hb,if_neg (by rw[h];exact Yq),WB]
theorem Hr {n:Nat}{ok:Nat->Nat->Bool}{a:Nat}(ha:a<n):pK n ok a (n-(a+1))=((VF n).take (a+1)).flatMap (iA n ok):=by
 unfold pK;rw[WS (l:=VF (n-(a+1))) (by simp),Wr,Wz ha,Xi]
 simp[iA]
theorem Hq {n:Nat}{ok:Nat->Nat->Bool}{a b:Nat}:(pK n ok a b).length<=a*n+b:=by
 unfold pK;rw[VV,Vt];have l1:=qX (n:=n) (m:=a) (ok:=ok);have l2:=Wx (λk=>ok a (a+1+k)) ((VF (n-(a+1))).take b);rw[V7,V9]at l2;lia
theorem DI {n:Nat}{ok:Nat->Nat->Bool}{a b:Nat}(hn:n<=30)(ha:a<n)(hb:b<n-(a+1)):(pK n ok a b).length<=1000:=by
 have h1:=Hq (n:=n) (ok:=ok) (a:=a) (b:=b);have h2:a*n<=30*30:=Nat.mul_le_mul (by lia) hn
 lia
theorem Aq {ks:List Int}{ps:List (List Int)}{g:Int}:((VF ks.length).take ks.length).flatMap (iA ks.length (FT ks ps g))=tK ks ps g:=by rw[WS (by simp)];rfl
theorem C6 {l:List (Nat×Nat)}{p:Nat×Nat}:(l++[p]).map (λp=>kD (tI p))=l.map (λp=>kD (tI p))++[kD (tI p)]:=by rw[VI];rfl
def Ji:FD:=λds R=>∃ps:List (List Int),ds=[.lst (ps.map kD)]/\ps.length<=300/\Pairs ps/\R (dP (eW ps) true)
theorem Ji.mono:cm Ji:=λds R R' k h=>by obtain⟨ps,e,h1,h2,q⟩:=h;exact⟨ps,e,h1,h2,k _ q⟩
def nr:FD:=λds R=>∃g:Int,ds=[.int g]/\0<=g/\R .cU
theorem nr.mono:cm nr:=λds R R' k h=>by obtain⟨g,e,h1,q⟩:=h;exact⟨g,e,h1,k _ q⟩
def jU:FD:=λds R=>∃(ks:List Int) (ps:List (List Int)) (g:Int),ds=[.lst (ks.map D.int),.lst (ps.map kD),.int g]/\ks.length<=30/\ps.length<=300/\Pairs ps/\0<=g/\R (pW ks.length (tK ks ps g))
theorem jU.mono:cm jU:=λds R R' k h=>by obtain⟨ks,ps,g,e,h1,h2,h3,h4,q⟩:=h;exact⟨ks,ps,g,e,h1,h2,h3,h4,k _ q⟩
theorem Iw {ks:List Int}{a:Nat}{x:Int}(hx:x=(a:Int))(h:a<ks.length):yW (.lst (ks.map D.int)) (.int x)=some (.int (ks.getD a 0)) :=
 la (i:=a) hx (by rw[VJ,VC h,Wj,VC h];rfl)
theorem zr (ks:List Int)(ps:List (List Int)):(D.lst [.lst (ks.map D.int),.lst (ps.map kD)]).pd.canLay0=true/\(D.lst [.lst (ks.map D.int),.lst (ps.map kD)]).pd.depth<=4:=hV λd hd=>by
 rcases VB.mp hd with rfl|hd
 ·exact⟨(mi ks).1,Wc (mi ks).2 (by decide)⟩
 ·rw[VD.mp hd];exact t_ ps
section
variable {ps:List (Nat×Nat)}
def mX (ps:List (Nat×Nat))(i j:Nat):Int:=tW ps w1 (j-i) i
theorem Ek {l:List Int}{m:Int}(h:fU l=some m):m∈l/\∀x∈l,x<=m:=by
 cases l with
 |nil=>cases h
 |cons a l=>cases h;exact cw l a
theorem Ej {l:List Int}{m:Int}(h1:m∈l)(h2:∀x∈l,x<=m):fU l=some m:=by
 cases h:fU l with
 |none=>cases l with|nil=>cases h1|cons a l=>cases h
 |some k =>
  obtain⟨g1,g2⟩:=Ek h;have:=h2 _ g1;have:=g2 _ h1;rw[show k=m by lia]
end
section
end
theorem xS {l:List Int}{m:Int}(h:fU l=some m):iu fU [.lst (l.map D.int)]=some (.int m):=nz h
theorem HY {ks:List Int}{ps:List (List Int)}{g:Int}{p:Nat×Nat}(h:p∈tK ks ps g):p.1<p.2/\p.2<ks.length:=by
 obtain⟨a,ha,hp⟩:=List.mem_flatMap.mp h;obtain⟨k,hk,rfl⟩:=V6.mp hp;have:=Wl.mp (WA.mp hk).1;exact⟨by show a<a+1+k;lia,by show a+1+k<_;lia⟩
theorem Ku {ks:List Int}{ps:List (List Int)}{g:Int}:(tK ks ps g).Pairwise λp q=>p.1<q.1\/(p.1=q.1/\p.2<q.2):=by
 unfold tK;rw[List.pairwise_flatMap];refine⟨λa _=>?_,YL.imp λ{a b} h x hx y hy=>?_⟩
 ·unfold iA;rw[List.pairwise_map];exact(YL.filter _).imp λ{x y} h=>.inr ⟨rfl,by show a+1+x<a+1+y;lia⟩
 ·obtain⟨k,_,rfl⟩:=V6.mp hx;obtain⟨k',_,rfl⟩:=V6.mp hy;exact .inl h
theorem Kv {ks:List Int}{ps:List (List Int)}{g:Int}:(tK ks ps g).Nodup:=by
 have key:=Ku (ks:=ks) (ps:=ps) (g:=g);exact key.imp λ{p q} h e=>by subst e;lia
theorem C4 {n m:Nat}{ok:Nat->Nat->Bool}(h:m<=n):2*(((VF n).take m).flatMap (iA n ok)).length+m*(m+1)<=2*(m*n):=by
 induction m with
 |zero=>simp
 |succ m ih =>
  have:=ih (by lia)
  rw[Wr,Xi,VV,Wz (by lia)]
  have hr:(iA n ok m).length<=n-(m+1):=by
   unfold iA;rw[Vt];exact Wc (Wx _ _) (by rw[V9];exact VA _)
  have e1:((some m).toList.flatMap (iA n ok)).length=(iA n ok m).length:=by simp
  rw[e1,Nat.succ_mul m n];have e2:(m+1)*(m+1+1)=m*(m+1)+2*(m+1):=by rw[Nat.add_mul,Y0 m (m+1) 1,Y0,Y0];lia
  rw[e2];lia
theorem FE {ks:List Int}{ps:List (List Int)}{g:Int}(h:ks.length<=28):va ks.length (tK ks ps g):=by
 refine⟨λp hp=>HY hp,Kv,by lia,?_⟩
 have h1:=C4 (n:=ks.length) (m:=ks.length) (ok:=FT ks ps g) (VA _);rw[Aq]at h1;have h2:ks.length*ks.length<=28*ks.length:=Nat.mul_le_mul_right _ h;rw[Y0,Nat.mul_one]at h1;lia
def sr (ks:List Int)(p:Nat)(x:Int):List Int:=ks.take p++[x]++ks.drop p
theorem EA {ks:List Int}{p:Nat}{x:Int}(h:p<=ks.length):(sr ks p x).length=ks.length+1:=by unfold sr;simp;lia
def sM:FD:=λds R=>∃(ks:List Int) (ps:List (List Int)) (g:Int),ds=[.lst (ks.map D.int),.lst (ps.map kD),.int g]/\ks.length<=28/\ps.length<=300/\Pairs ps/\0<=g/\R (AZ (tK ks ps g) 0 ks.length)
theorem sM.mono:cm sM:=λds R R' k h=>by obtain⟨ks,ps,g,e,h1,h2,h3,h4,q⟩:=h;exact⟨ks,ps,g,e,h1,h2,h3,h4,k _ q⟩
def kQ:FD:=λds R=>∃(ks:List Int) (ps:List (List Int)) (g:Int) (p:Nat) (x:Int),ds=[.lst (ks.map D.int),.lst (ps.map kD),.int g,.int p,.int x]/\ks.length<=27/\ps.length<=300/\Pairs ps/\0<=g/\p<=ks.length/\R (.int (tW (tK (sr ks p x) ps g) w1 (sr ks p x).length 0))
theorem kQ.mono:cm kQ:=λds R R' k h=>by obtain⟨ks,ps,g,p,x,e,h1,h2,h3,h4,h5,q⟩:=h;exact⟨ks,ps,g,p,x,e,h1,h2,h3,h4,h5,k _ q⟩
theorem lK {n d p:Nat}{x:Int}(hx:x=(p:Int))(h:p<=n):HT.k6 n d (some x)=p:=by
 subst hx;rw[HT.lK];lia
theorem Jv {ds:List D}{p:Nat}{x:Int}(hx:x=(p:Int))(h:p<=ds.length):cutD ds none (some x)=ds.take p:=by
 unfold cutD;rw[lK hx h];show (ds.drop 0).take (p-0)=_;simp
theorem Ju {ds:List D}{p:Nat}{x:Int}(hx:x=(p:Int))(h:p<=ds.length):cutD ds (some x) none=ds.drop p:=by
 unfold cutD;rw[lK hx h];show (ds.drop p).take (ds.length-p)=_;rw[WS (by simp)]
theorem OG {ks:List Int}{p:Nat}{x:Int}(hx:x=(p:Int))(h:p<=ks.length):M0 (.lst (ks.map D.int)) none (some x)=some (.lst ((ks.take p).map D.int)):=by
 show some (D.lst (cutD _ _ _))=_;rw[Jv hx (by rw[Vt];exact h),YC]
theorem OE {ks:List Int}{p:Nat}{x:Int}(hx:x=(p:Int))(h:p<=ks.length):M0 (.lst (ks.map D.int)) (some x) none=some (.lst ((ks.drop p).map D.int)):=by
 show some (D.lst (cutD _ _ _))=_;rw[Ju hx (by rw[Vt];exact h),YD]
theorem o9 {a b:List Int}(h:a.length+b.length<=1000000):Fe (.lst (a.map D.int)) (.lst (b.map D.int))=some (.lst ((a++b).map D.int)):=by
 rw[VI];exact eV (by rw[Vt,Vt];exact h)
open PySem.Spec PySem.SeqAt PyProof.Rows
structure Bs4 (mg:Str->Option Vv):Prop extends Bs3 mg where
 any:mg "any" = none
theorem Ca {ds:List D}{n:Nat}(h:ds.length=n):Jq [.lst ds]=some (.int (n:Int)):=by subst h;rfl
abbrev kI (kvs:List (Int×D)):List Key:=kvs.map λp=>.inl p.1
def dI (kvs:List (Int×D)):D:=.dK (kI kvs) (kvs.map (·.2))
def pM (kvs:List (Int×D))(k:Int):Option D:=(kvs.find? λp=>decide (p.1=k)).map (·.2)
section
variable {P:Vz}{w:VG}{W:Addr->Prop}{H:Hp}
theorem rA {k:Int}:∀{kvs:List (Int×D)} {vs:List V},ai P w W H (kvs.map (·.2)) vs->(ef ((kI kvs).zip vs) (.inl k)).isSome=(pM kvs k).isSome/\∀d,pM kvs k=some d->∃v,ef ((kI kvs).zip vs) (.inl k)=some v/\az P w W H d v
 |[],_,h=>by cases h;exact⟨rfl,λd z=>by cases z⟩
 |p::kvs,_,⟨v,r,rfl,h1,h2⟩=>by
  obtain⟨i1,i2⟩:=rA (k:=k) (kvs:=kvs) h2;unfold ef pM kI at *
  rw[VM,Wu,Wd,Wd]
  by_cases hk:p.1=k
  ·rw[decide_eq_true (show (Xf p.1:Key)=.inl k by rw[hk]),decide_eq_true hk]
   exact⟨rfl,λd' e=>by cases e;exact⟨v,rfl,h1⟩⟩
  ·rw[decide_eq_false (show ¬ (Xf p.1:Key)=.inl k from λz=>hk (by cases z;rfl)),decide_eq_false hk]
   exact⟨i1,i2⟩
theorem Ie {kvs:List (Int×D)}{vs:List V}(r:ai P w W H (kvs.map (·.2)) vs):(kI kvs).length=vs.length:=by rw[Vt,r.length,Vt]
end
section
end
section
end
section
end
section
end
section
theorem JG:Wq "abs" = some (.builtin "abs"):=by decide +kernel
end
def rE (kvs:List (Int×D))(t:Int)(d:D):List (Int×D):=if (kvs.any λp=>decide (p.1=t))=true then kvs.map (λp=>if p.1=t then (p.1,d) else p) else kvs++[(t,d)]
section
variable {kvs:List (Int×D)}{t:Int}
theorem zg:(kvs.any λp=>decide (p.1=t))=(pM kvs t).isSome:=by
 unfold pM;rw[Zp]
 induction kvs with
 |nil=>rfl
 |cons p kvs ih =>
  rw[X_,Wd]
  by_cases h:p.1=t
  ·rw[decide_eq_true h];rfl
  ·rw[decide_eq_false h];exact ih
end
section
variable {P:Vz}{w:VG}{W:Addr->Prop}{H:Hp}
theorem vg {t:Int}:∀{kvs:List (Int×D)} {vs:List V},(kI kvs).length=vs.length->(((kI kvs).zip vs).any λkv=>decide (kv.1=.inl t))=kvs.any λp=>decide (p.1=t)
 |[],_,_=>rfl
 |p::kvs,[],l=>by cases l
 |p::kvs,v::vs,l=>by
  unfold kI at l ⊢
  rw[VM,Wu,X_,X_];have:=vg (t:=t) (kvs:=kvs) (vs:=vs) (X2 l);unfold kI at this;rw[this]
  by_cases h:p.1=t
  ·rw[decide_eq_true h,decide_eq_true (show (Xf p.1:Key)=.inl t by rw[h])]
  ·rw[decide_eq_false h,decide_eq_false (show ¬ (Xf p.1:Key)=.inl t from λz=>h (by cases z;rfl))]
theorem vf {t:Int}{d:D}{v:V}(hv:az P w W H d v):∀{kvs:List (Int×D)} {vs:List V},ai P w W H (kvs.map (·.2)) vs->∃vs',((kI kvs).zip vs).map (λkv=>if kv.1=.inl t then (kv.1,v) else kv)=(kI (kvs.map λp=>if p.1=t then (p.1,d) else p)).zip vs'/\ai P w W H ((kvs.map λp=>if p.1=t then (p.1,d) else p).map (·.2)) vs'
 |[],_,h=>by cases h;exact⟨[],rfl,rfl⟩
 |p::kvs,_,⟨u,r,rfl,h1,h2⟩=>by
  obtain⟨vs',e,r'⟩:=vf hv h2;unfold kI at e ⊢
  by_cases h:p.1=t
  ·refine⟨v::vs',?_,?_⟩
   ·rw[VM,Wu,VM,if_pos (show (Xf p.1:Key)=.inl t by rw[h]),VM,if_pos h,VM,Wu,e]
   ·rw[VM,if_pos h,VM];exact⟨v,vs',rfl,hv,r'⟩
  ·refine⟨u::vs',?_,?_⟩
   ·rw[VM,Wu,VM,if_neg (show ¬ (Xf p.1:Key)=.inl t from λz=>h (by cases z;rfl)),VM,if_neg h,VM,Wu,e]
   ·rw[VM,if_neg h,VM];exact⟨u,vs',rfl,h1,r'⟩
theorem Dh {t:Int}{d:D}{v:V}{kvs:List (Int×D)}{vs:List V}(hv:az P w W H d v)(r:ai P w W H (kvs.map (·.2)) vs):∃vs',putK ((kI kvs).zip vs) (.inl t) v=(kI (rE kvs t d)).zip vs'/\ai P w W H ((rE kvs t d).map (·.2)) vs':=by
 unfold putK rE;rw[vg (Ie r)]
 by_cases h:(kvs.any λp=>decide (p.1=t))=true
 ·rw[if_pos h,if_pos h];exact vf hv r
 ·rw[if_neg h,if_neg h];refine⟨vs++[v],?_,by rw[VI];exact ai.snoc hv r⟩
  have l:=Ie r;unfold kI at l ⊢
  rw[VI,ZQ l];rfl
end
section
theorem mI {P:Vz}{w:VG}:∀{es:List ZH} {vs:List (Key×Vv)} {ts:List Int},PySem.Pairs (aY P w) es vs->vs.map (·.1)=ts.map Xf->X4 (es.map (·.key)) ts
 |_,_,[],.nil,_=>.nil
 |_,_,_::_,.nil,e=>by cases e
 |_,_,[],.cons _ _ _,e=>by cases e
 |_,_,t::ts,.cons h1 h2 h3,e=>by
  injection e with e1 e2
  rcases ba h1 with⟨i,tk,q1,q2⟩|⟨x,tk,q1,q2⟩
  ·rw[VM,q2];have e1:=q1.symm.trans e1;cases e1;exact .cons _ _ (mI h3 e2)
  ·have e1:=q1.symm.trans e1;cases e1
theorem Il {κ:Type}{kvs:List (κ×V)}{vs:List (κ×Vv)}(h:Paired (λ(p:κ×V) (q:κ×Vv)=>p.1=q.1/\RelV p.2 q.2) kvs vs):vs.map (·.1)=kvs.map (·.1):=by
 induction h with
 |nil=>rfl
 |cons h _ ih=>rw[VM,VM,ih,h.1]
end
section
variable {X:Cx}{C:Cfg}{k e:Expr}{φ φk:aE}{i:Nat}{x:Str}{pos pos' px pc:Pos}{p pk:Bool}
theorem Ak (hu:X.A.units+1<XQ)(he:∀U,PQ X (C.u U) p e φ)(hk:∀U,PQ X (C.u U) pk k φk)(hn:Nm X i x:=by exact xN)
  (hs:WU e (some (.Subscript (.Name x px) k pos')) pos.line X.env=pure false:=by rfl) :
  PB X C (.Assign [.Subscript (.Name x px) k pos'] e pos) (λE β=>φ β λd kd β1=>(RN kd d/\kd≠.bor)/\(∃kvs,β1[i]?=some (some (.shl .one (dI kvs))))/\φk β1 λjd _ β2=>∃kvs t,jd=.int t/\β2[i]?=some (some (.shl .one (dI kvs)))/\kvs.length<VH/\E.nx (β2.set i (some (.shl .one (dI (rE kvs t d)))))):=by
 refine⟨λE E' β l q=>(he λ_=>False).mono _ _ _ (λd kd β1 h=>by obtain⟨f,h0,q⟩:=h;exact⟨f,h0,(hk λ_=>False).mono _ _ _ (λjd _ β2 h=>by obtain⟨kvs,t,h1,h2,h4,q⟩:=h;exact⟨kvs,t,h1,h2,h4,l.nx _ q⟩) q⟩) q,λpins s σ H De I gn=>?_⟩
 obtain⟨Z,E,β,⟨own,sq,n⟩,q,ok⟩:=gn;refine vC hu (fT (pos:=px) hn) (hk λa=>H a=none).pe (he λa=>H a=none).pe hs pins s σ H De I ?_;refine tQ.of (he λa=>H a=none) (sq.kZ (C:=C.z) (U:=λa=>H a=none) λa z=>z) q λd kd β1 v H1 aw jJ o r=>?_;obtain⟨⟨f,nb⟩,⟨Tq,CT⟩,q⟩:=jJ;obtain⟨a0,_,_,yM,_⟩:=o.sq.vm CT;refine⟨_,yM,tQ.of (hk λa=>H a=none) o.sq q λjd kj β2 jv H2 aZ qm o2 r2=>?_⟩;obtain⟨kvs,t,e1,hb,hl,q⟩:=qm;subst e1;have rv:=(KV.held (Z:=(H,Wn own)) nb r o2.sn).yg f;obtain⟨a,o1,vs,g1,g2,g3,g4,g5,_,_⟩:=o2.sq.vm hb;rw[yM]at g1;cases g1;obtain⟨rfl,l⟩:=g4;cases (show jv=.int t from r2.rep)
 refine⟨a0,_,rfl,.inl ⟨_,.inl t,g3,rfl,by rw[ZR,<- l,Nat.min_self,Vt];exact hl,rfl⟩,?_⟩
 have wa:av (C.u λa=>H a=none) (Wn aZ) .d9 a0:=.inl ⟨i,by rw[g2];simp⟩
 have kp:Kp (av (C.u λa=>H a=none) (Wn aZ) .d9) H2 (upd H2 a0 (.dK (putK ((kI kvs).zip vs) (.inl t) v))):=Im g3 (λxs z=>by cases z) wa
 obtain⟨vs',ev,Rx⟩:=Dh (t:=t) (rv.keep kp) ((ai.aO (λc z=>.inl z) g5).keep kp);obtain⟨s2,hA,hw,EJ⟩:=o2.sq.OW (d':=dI (rE kvs t d)) (o:=.dK (putK ((kI kvs).zip vs) (.inl t) v)) (vs':=vs') hb yM ⟨by rw[ev],Ie Rx⟩ Rx
 exact ok.nx _ _ _ ⟨_,s2,kf (C:=C) ((n.trans o.sn).trans o2.sn) (λb z=>n.free z) hw EJ hA⟩ q
theorem Al (hN:X.N.Nodup)(hi:X.N[i]?=some x:=by rfl)(hx:Loc X.env.scope x:=by first|exact .inl rfl|exact .inr rfl)
  (hs:WU (.Dict [] [] pc) (some (.Name x pos')) pos.line X.env=pure false:=by rfl) (hf:X.fn x=true\/X.env.scope.names.lookup x=some .local:=by first|exact .inl rfl|exact .inr rfl|assumption) :
  PB X C (.Assign [.Name x pos'] (.Dict [] [] pc) pos) (λE β=>i<β.length/\E.nx (β.set i (some (.shl .one (dI []))))) :=
 ⟨λE E' β l h=>⟨h.1,l.nx _ h.2⟩,λpins s σ H D I sA=>by
  obtain⟨Z,E,β,⟨own,sq,n⟩,⟨J1,q⟩,ok⟩:=sA;refine i9 hN hi hx Ae hs hf pins s σ H D I λa ha=>?_;have h0:C.H0 a=none:=VS λz=>sq.eZ a z ha;have nw:¬ Wn own a:=λz=>sq.qw a z ha;have s1:=(sq.kZ (C:=C.z) (U:=λc=>c=a) λc z=>by rw[z];exact ha).same (ay.new (o:=.dK []) ha)
  have s2:=s1.pS (i:=i) (qc (d:=dI []) (vs:=[]) (W:=λ_=>False) (H':=H) (by rfl) ⟨rfl,rfl⟩ ao) (by simp) λc hc=>⟨by rw[VD.mp hc];exact h0,by rw[VD.mp hc];exact nw,VD.mp hc⟩
  have s3:=s2.toShl (d:=dI []) (y:=.one) (get_set J1) (get_set (by rw[<- sq.len];exact J1)) ⟨a,.dK [],[],rfl,by rw[os_eq],ao,⟨rfl,rfl⟩,rfl⟩
  rw[X3]at s3;refine ok.nx _ _ _ ⟨_,s3,?_⟩ q;have m:=n.same (ay.new (o:=.dK []) ha);exact⟨λb Bt=>by
   obtain⟨j,hj⟩:=Bt
   by_cases aD:i=j
   ·rw[<- aD,os_eq]at hj;rw[VD.mp hj];exact .inr (n.free ha)
   ·rw[a_ aD]at hj;exact m.w b ⟨j,hj⟩,m.k,m.d⟩⟩
end
end L2.Q
namespace L2
open PySem PySem.Spec PySem.SeqAt PyProof.Rows
section
variable {X:Cx}
theorem xP:nN X newDict (.dK []) :=
 ⟨λpins s σ H Q E I h=>WN (h _ _ (VA _) I.fresh (λb o e=>Vx _ e) (I.laid (t':=s.toks) (λ_ _ q=>Vx _ q) (VA _) (sV _ I.big)))⟩
theorem Ao {k v:Expr}{tk tv:TE}{a:Addr}(hx:X.xe=λ_ _=>False)(hu:X.A.units<XQ)(hk:PE X k tk)(hv:PE X v tv):
  lE X (gA (sQ k v (.ref a) X.env)) (λN σ H=>tk σ H λy H1=>tv σ H1 λv H2=>∃kvs t,H2 a=some (.dK kvs)/\y=.int t/\kvs.length<VH/\N σ (upd H2 a (.dK (putK kvs (.inl t) v)))):=by
 intro pins s σ H N kk Q E I h hN;unfold gA sQ;refine Vu (Vu (bt (dc hx (hk pins s σ H _ I h)) λu s1 gn=>?_));obtain⟨y,H1,I1,r1,q⟩:=gn;refine Vu (Wo (bt (dc hx (hv pins s1 σ H1 _ I1 q)) λw' s2 jJ=>?_));obtain⟨v,H2,I2,r2,kvs,t,e,ey,l,q2⟩:=jJ;subst ey;refine Vu (W5 (Wo ?_));obtain⟨z,hd,xs,rel,dd⟩:=sU I2.a6 e;have hz:xs.length<=VH:=by rw[<- rel.length];exact z
 have hl:(putK kvs (.inl t) v).length<=VH:=by have:=fz kvs (.inl t) v;lia
 refine wpAny_dictSet_pairs (hsz:=hz) (knd:=aY X.prog X.w) (sd (k:=.inl t) r1) dd λh' E8 hs=>hN σ _ _ ?_ q2;have he:∃q,h'.get? a=some q:=let ⟨q,_,_,hq,_⟩:=E8;⟨q,hq⟩
 exact lW I2 (by rw[e];exact Yo) hs he (B7 hl hd (rel.put (.inl t) r2) E8)
end
end L2
namespace L2.Q
open PySem PySem.Spec PySem.SeqAt PyProof.Rows
theorem Hv {P:Vz}{w:VG}{H:Hp}{kvs:List (Int×D)}{a:Addr}{vs:List V}{A:List Addr}(h:H a=some (.dK ((kI kvs).zip vs)))(o:aF P w H (kvs.map (·.2)) vs A):Own P w H (dI kvs) (.ref a) (a::A):=⟨a,vs,A,rfl,h,by unfold kI;rw[Vt,o.length,Vt],rfl,o⟩
theorem Gs {P:Vz}{w:VG}{H:Hp}{kvs:List (Int×D)}{t:Int}{vs:List V}{A:List Addr}(o:aF P w H (kvs.map (·.2)) vs A)(hn:pM kvs t=none):ef ((kI kvs).zip vs) (.inl t)=none:=by
 have:=(rA (k:=t) (kvs:=kvs) (o.rep (W:=λ_=>False) λ_ _ z=>z)).1;rw[hn]at this;exact Yr.mp (by rw[<- Option.not_isSome,this];rfl)
def Rj (P:Vz)(w:VG)(a:Addr)(o:List (Int×D))(H:Hp):Prop:=∃vs,H a=some (.dK ((kI o).zip vs))/\aF P w H (o.map (·.2)) vs []
theorem Cy {P:Vz}{w:VG}{a:Addr}:tM a (Rj P w a):=⟨λo H H' s h=>by
  obtain⟨vs,h1,h2⟩:=h;exact⟨vs,s _ _ h1,h2.keep (λb xs e=>s _ _ e) λc hc=>(nomatch hc)⟩,λo H xs h z=>by
  obtain⟨vs,h1,_⟩:=h;rw[h1]at z;cases z⟩
abbrev Rn (X:Cx)(C:Cfg)(a:Addr)(φk φ:aE):j7:=λN σ H=>tQ X (C.u λc=>c=a) true φk σ H λy H1=>tQ X (C.u λc=>c=a) true φ σ H1 λv H2=>∃kvs t,H2 a=some (.dK kvs)/\y=.int t/\kvs.length<VH/\N σ (upd H2 a (.dK (putK kvs (.inl t) v)))
def BZ (φk φ:aE)(o:List (Int×D))(β:aJ)(N:aJ->List (Int×D)->Prop):Prop:=φk β λkd _ β2=>φ β2 λx _ β3=>∃t,kd=.int t/\x.flat=true/\pM o t=none/\o.length<VH/\N β3 (o++[(t,x)])
section
variable {X:Cx}{C:Cfg}{W0:Addr->Prop}{T:List Nat}{σ0:St}{H1:Hp}{a:Addr}{Hb:Hp}{Wb:Addr->Prop}{φ φk:aE}
theorem zx (h0:C.H0 a=none)(ha:H1 a=none)(tS:∀β R R',(∀d k β,R d k β->R' d k β)->φk β R->φk β R')(φm:∀β R R',(∀d k β,R d k β->R' d k β)->φ β R->φ β R'){β:aJ}{o:List (Int×D)}{σ:St}{H:Hp}{N:aJ->List (Int×D)->Prop}(s:oj X C W0 T σ0 H1 a Hb Wb (Rj X.prog X.w a) β o σ H)(q:BZ φk φ o β N):
  Rn X C a φk φ (λσ' H'=>∃β' o',oj X C W0 T σ0 H1 a Hb Wb (Rj X.prog X.w a) β' o' σ' H'/\N β' o') σ H:=by
 obtain⟨own,s⟩:=s;refine⟨β,own,s.sq,tS _ _ _ (λkd kk β5 q v5 H5 iC o5 r5=>?_) q⟩;obtain⟨FI,rfl⟩:=o5.pu rfl;refine⟨β5,_,o5.sq,φm _ _ _ (λxd kx β6 qm v H6 rP o6 r6=>?_) q⟩;obtain⟨t,e1,f,hn,hz,q2⟩:=qm;obtain⟨sm,rfl⟩:=o6.pu rfl;have s6:=s.next Cy o6.sq (λ_ z=>z) (FI.trans sm) (λ_ _=>rfl)
 subst e1;cases (show v5=.int t from r5.rep)
 obtain⟨vs,at',os⟩:=s6.ac;have OP:Own X.prog X.w H6 xd v []:=da f r6.rep;have l:(kI o).length=vs.length:=by unfold kI;rw[Vt,os.length,Vt]
 have IV:putK ((kI o).zip vs) (.inl t) v=(kI (o++[(t,xd)])).zip (vs++[v]):=by
  have hv:=Gs os hn;unfold kI at l hv ⊢
  rw[rD v hv,VI,ZQ l];rfl
 have kt:∀c xs,H6 c=some (.tup xs)->upd H6 a (.dK (putK ((kI o).zip vs) (.inl t) v)) c=some (.tup xs):=λc xs z=>by rw[ar (λz'=>by rw[z',at']at z;cases z)];exact z
 refine⟨_,t,at',rfl,by rw[ZR,<- l,Nat.min_self];unfold kI;rw[Vt];exact hz,β6,o++[(t,xd)],⟨_,s6.put h0 ha at' (λxs z=>by cases z) ⟨vs++[v],by rw[ao,IV],?_⟩⟩,q2⟩
 rw[VI];exact(os.keep kt (A:=[]) λc hc=>by cases hc).append (aF.one (OP.keep kt (A:=[]) λc hc=>by cases hc))
end
def G5 (lk:List (Option Nat))(ι:bW)(γ:cF)(τ:aP)(φk φ:aE):aE:=λβ R=>ι β λds k β1=>hold k false/\gZ γ τ (BZ φk φ) ds k (cG lk β1) [] λβf o=>fC (cG lk β1) βf/\R (dI o) .own β1
section
variable {X:Cx}{C:Cfg}{lk:List (Option Nat)}{γ:cF}{τ:aP}{φ φk:aE}{T:List Nat}
variable {scope:Xw}{tg bJ ke elt:Expr}{ifs:List Expr}{ι:bW}{pi:Bool}{pos:Pos}{i:Nat}
theorem UC (hu:X.A.units<XQ)(N':List Str)(lk:List (Option Nat))(L:fH X.env.scope.names X.N scope N' lk=true)(lb:N'.Nodup)(hc:X.calm=true)(hi:tR X C pi tg bJ ι)
  (jK:∀a cl c s H ex,qH (aq X scope N' cl c s H ex) (C.u λc=>c=a) tg T γ) (iR:∀a cl c s H ex,kY (aq X scope N' cl c s H ex) (C.u λc=>c=a) true ifs τ)
  (MK:∀a cl c s H ex,PQ (aq X scope N' cl c s H ex) (C.u λc=>c=a) true ke φk) (fb:∀a cl c s H ex,PQ (aq X scope N' cl c s H ex) (C.u λc=>c=a) true elt φ) (hT:T.all (λi=>match lk[i]? with|some (some _)=>false|_=>true)=true:=by rfl)
  (hs:∀x,V4 bJ X.env x=pure x:=by intro _;rfl):PQ X C pi (.DictComp ke elt [⟨tg,bJ,ifs,0⟩] scope pos) (G5 lk ι γ τ φk φ):=by
 have L:=Links.of L;have uM:∀i∈T,∀j,lk[i]?≠some (some j):=λi hi j e=>by
  have:=WM.mp hT i hi;rw[e]at this;cases this
 have γm:=(jK 0 [] 0 X.s₀ X.H₀ []).mono;have τm:=(iR 0 [] 0 X.s₀ X.H₀ []).mono;have φm:=(fb 0 [] 0 X.s₀ X.H₀ []).mono;have tS:=(MK 0 [] 0 X.s₀ X.H₀ []).mono;refine⟨λβ R R' k h=>hi.mono β _ _ (λds kd β1 q=>⟨q.1,q.2.mono λ_ _ z=>⟨z.1,k _ _ _ z.2⟩⟩) h,?_⟩;refine(gU (g:=⟨tg,bJ,ifs,0⟩) (gs:=[]) (tg:=λa=>zj X C a T γ) (tt:=λa=>iN X (C.u λc=>c=a) true τ) (ta:=λa=>Rn X C a φk φ)
  L hc xP rfl rfl (λ_ _=>Gh) hi.pi (λa cl c s H ex=>⟨(jK a cl c s H ex).pg,(iR a cl c s H ex).pt,Ao (X:=aq X scope N' cl c s H ex) rfl hu (MK a cl c s H ex).pe (fb a cl c s H ex).pe⟩) hs).pre λσ H Q h=>?_
 obtain⟨β,own,s,h⟩:=h;refine⟨β,own,s,hi.mono β _ _ (λds k β1 h J H1 aw o1 it a ha=>?_) h⟩;obtain⟨hk,q⟩:=h;refine gP (T:=T) (Cy (P:=X.prog) (w:=X.w)) γm τm (λj hj=>hj) (bq L lb) uM o1.sq ha hk it ⟨[],ao,(show aF _ _ _ [] [] [] from ⟨rfl,rfl⟩)⟩ (o1.sq.uT (λxs z=>by cases z) ha (bq L lb))
  (λHb Wb βx ox σx Hx Nx h0 sx qx=>zx h0 ha tS φm sx qx) q λo H' q o2 r=>?_
 refine q _ _ aw ⟨o2.sq,o1.sn.trans o2.sn,λz=>⟨(o1.pu z).1.trans (o2.pu rfl).1,(o1.pu z).2⟩,o1.le⟩ ?_;obtain⟨vs,at',os⟩:=r;refine⟨[a],Hv at' os,by simp,λc hc=>?_⟩
 rw[VD.mp hc];exact⟨VS λz=>o1.sn.d a z ha,λh=>by obtain⟨j,hj⟩:=h;exact(o1.sq.dm j a hj).1 ha,VS λz=>o1.sq.eZ a z ha⟩
end
end L2.Q
namespace SI
open PySem PyProof.Rows ST
section
variable {prog:Vz}{w:VG}{A:Wv}{E:Vv->Vw->Prop}{s:Vw}
variable {a b:Addr}{o o2:Obj}{ts l_:List (Int×Tok)}{es o4:Array (Int×Vv)}{ep J4:Nat}{t t2:SetTable}
theorem wY (ho:s.heap.get? a=some o)(S:iL w o ts es ep t){l:List Addr}{f:Option Addr}{Q:Array (Int×Vv)->Vw->Prop}(q:Q (br w a ep es) s):VU (model prog w) A (setWalkUnseen a l f) Q E s:=by
 unfold setWalkUnseen;refine Vu (WG ho S.dat S.fits ?_);dsimp only;refine Vu (eF ?_);have hc:(s_ w || (t.led&&t.plain) || decide (es.size<=1))=true:=by
  rw[S.xy,S.led];show (s_ w || (!s_ w&&true) || decide (es.size<=1))=true
  cases s_ w <;> rfl
 rw[if_pos hc];unfold setWalk;refine Vu (WG ho S.dat S.fits ?_);dsimp only;refine Vu (eF ?_);cases hb:s_ w with
 |true =>
  rw[if_pos rfl];refine Vu (X8 (Vy ?_));have e:br w a ep es=pickOrder (w.params.setOrder a ep) es:=by unfold br;rw[hb,if_pos rfl]
  rw[e]at q;exact q
 |false =>
  rw[if_neg (by simp)]
  have e:br w a ep es=es:=by unfold br;rw[hb,if_neg (by simp)]
  have hd:(!t.plain&&decide (es.size>1))=false:=by rw[S.xy];rfl
  show VU _ _ (if (!t.plain&&decide (es.size>1))=true then _ else _) _ _ _
  rw[hd,if_neg (by simp)]
  have hl:t.led=true:=by
   rw[S.led];show (!s_ w)=true;rw[hb];rfl
  refine Vu ?_;show VU _ _ (if (!t.led&&decide (es.size>1))=true then _ else _) _ _ _
  rw[hl,if_neg (by simp)]
  refine Vy (Vy ?_);rw[<- e];exact q
theorem tV (ho:s.heap.get? a=some o)(S:iL w o ts es ep t){m:Nat}(hm:ts.length+m<=200){Q:Unit->Vw->Prop}
  (q:∀(h':Heap) (o':Obj) (cj:List (Int×Tok)) (dY:Array (Int×Vv)) (jn:Nat) (t':SetTable),WY a s.heap h'->h'.get? a=some o'->iL w o' cj dY jn t'->cj.Perm ts->(ts.length+m)*5<t'.mask*3->Q () {s with heap:=h'}) :
  VU (model prog w) A (setRoomFor a m) Q E s:=by
 have hz:=S.size;unfold setRoomFor;refine Vu (WG ho S.dat S.fits ?_);dsimp only;have hr:t.roomFor m=if (ts.length+m)*5 >= t.mask*3 then some ((ts.length+m)*2) else none:=by
  unfold SetTable.roomFor SetTable.fill;rw[S.wf.E7,hz.2];rfl
 rw[hr]
 by_cases hc:(ts.length+m)*5 >= t.mask*3
 ·rw[if_pos hc];dsimp only;unfold setRelay;refine Vu (WG ho S.dat S.fits ?_);dsimp only;obtain⟨j,order,t',cj,ja,jc,er,e6,fb,fB,hW,LV,Qa,e3,e4,e8⟩:=oC (t:=t) (hk:=λx:Int×Tok=>Wy x.1) (λ_=>rfl) (0,0) (m:=(ts.length+m)*2) S.yT (by lia) (by lia)
  rw[ja,if_neg (by rw[WD];lia)]
  rw[er];have hsz:(order.filterMap (es[·]?)).size=es.size:=by
   rw[<- VP,fb,Vt,fB.length_eq,hz.1]
  refine Vu ?_;show VU _ _ (if (order.filterMap (es[·]?)).size != es.size then _ else _) _ _ _
  rw[hsz,if_neg (by simp)]
  refine Vy ?_;dsimp only;exact X1 ho S.dat (q _ _ cj _ _ t' (Xj _ _ _) (jM ho S.dat _ _) ⟨S.ex,rfl,fb,hW,LV.1,Qa,e3.trans S.led,e4.trans S.xy,((fB.map (·.1)).nodup_iff).mpr S.yL⟩ fB (by lia)) (by rw[hsz,hz.1,WD];lia)
 ·rw[if_neg hc];exact Vy (q s.heap o ts es ep t (Zt _ _) ho S (.refl _) (by lia))
theorem qO (ho:s.heap.get? a=some o)(S:iL w o ts es ep t)(Bz:s.heap.get? b=some o2)(S2:iL w o2 l_ o4 J4 t2)(uL:a≠b)(hf:qr ((ts++l_).map (·.1))){each:Sem Unit}
  (Ua:∀(s':Vw) (Q:Unit->Vw->Prop),s'.heap.get? b=some o2->Q () s'->VU (model prog w) A each Q E s') {Q:Unit->Vw->Prop}
  (q:∀(h':Heap) (tk:Nat) (o':Obj) (cj:List (Int×Tok)) (dY:Array (Int×Vv)) (jn:Nat) (t':SetTable),s.toks<=tk->WY a s.heap h'->h'.get? a=some o'->iL w o' cj dY jn t'->(∀x,x∈cj.map (·.1)↔x∈ts.map (·.1)\/x∈l_.map (·.1))->Q () {s with heap:=h',toks:=tk}) :
  VU (model prog w) A (setMerge a b each) Q E s:=by
 have NO:=S2.size;have l1:ts.length<60:=by
  have:=hf (ts.map (·.1)) S.yL λx hx=>by rw[VI];exact V3 _ hx
  rwa [Vt]at this
 have l2:l_.length<60:=by
  have:=hf (l_.map (·.1)) S2.yL λx hx=>by rw[VI];exact VY _ hx
  rwa [Vt]at this
 unfold setMerge;rw[if_neg (by simpa using uL)]
 refine Vu (WG Bz S2.dat S2.fits ?_);dsimp only
 by_cases Qq:o4.isEmpty=true
 ·rw[if_pos Qq];have:l_=[]:=X0.mp (by rw[<- NO.1];simpa using Qq)
  exact Vy (q s.heap _ o ts es ep t (VA _) (Zt _ _) ho S λx=>by rw[this];simp)
 ·rw[if_neg Qq];refine Vu (tV ho S (m:=o4.size) (by lia) λh1 o1 w6 ym J5 t1 CM CS S1 p1 Vb=>?_)
  have Tv:=S1.size;have Qg:=p1.length_eq;have By:h1.get? b=some o2:=by rw[CM.2 b (Xg uL)];exact Bz
  refine Vu (WG (s:={s with heap:=h1}) CS S1.dat S1.fits ?_)
  dsimp only;have RT:t1.road t2=if w6.length != 0 then .oneByOne else if t1.mask==t2.mask then .slotForSlot else .clean:=by
   unfold SetTable.road SetTable.fill;rw[S1.wf.E7,S2.wf.E7,Tv.2];simp
  rw[RT]
  by_cases h0:w6.length=0
  ·rw[if_neg (by simpa using h0)]
   have TJ:w6=[]:=X0.mp h0;have iR:ts=[]:=X0.mp (by lia)
   by_cases RY:t1.mask=t2.mask
   ·rw[if_pos (by simpa using RY)]
    dsimp only;refine X1 (s:={s with heap:=h1}) CS S1.dat (q _ _ _ l_ o4 _ _ (VA _) (CM.trans (Xj _ _ _)) (jM CS S1.dat _ _) ⟨S1.ex,rfl,S2.yT,⟨S2.wf.1,S2.wf.2,S2.wf.3,S2.wf.4,S2.wf.5,S2.wf.6,S2.wf.7⟩,S2.Nz,S2.Eg,?_,?_,S2.yL⟩ λx=>by rw[iR];simp) (by rw[NO.1,WD];lia)
    ·show (t1.led&&t2.led)=_;rw[S1.led,S2.led,Bool.and_self]
    ·show (t1.plain&&t2.plain)=true;rw[S1.xy,S2.xy];rfl
   ·rw[if_neg (by simpa using RY)]
    dsimp only;obtain⟨j,j3,je⟩:=S1.wf.Eg;obtain⟨order,t',cj,e1,e6,fb,fB,e7,e2,e3,e4,e8⟩:=Bb (hk:=λx:Int×Tok=>Wy x.1) (λ_=>rfl) (0,0) S2.yT j3 (by lia) t1.finger t1.moves (t1.led&&t2.led) (t1.plain&&t2.plain)
    rw[<- je]at e1;rw[e1];have hsz:(order.filterMap (o4[·]?)).size=o4.size:=by
     rw[<- VP,fb,Vt,fB.length_eq,NO.1]
    refine Vu ?_;show VU _ _ (if (order.filterMap (o4[·]?)).size != o4.size then _ else _) _ _ _
    rw[hsz,if_neg (by simp)]
    refine Vy ?_;dsimp only;refine X1 (s:={s with heap:=h1}) CS S1.dat (q _ _ _ cj _ _ t' (VA _) (CM.trans (Xj _ _ _)) (jM CS S1.dat _ _) ⟨S1.ex,rfl,fb,e7,by lia,by have:=S1.Eg;lia,?_,?_,((fB.map (·.1)).nodup_iff).mpr S2.yL⟩ λx=>by rw[iR,(fB.map (·.1)).mem_iff];simp) (by rw[hsz,NO.1,WD];lia)
    ·rw[e3,S1.led,S2.led,Bool.and_self]
    ·rw[e4,S1.xy,S2.xy];rfl
  ·rw[if_pos (by simpa using h0)]
   dsimp only;refine Vu (wY (s:={s with heap:=h1}) By S2 ?_)
   have hw:=fM w b J4 o4;rw[S2.yT]at hw;obtain⟨us,u1,u2⟩:=mG hw;rw[<- Array.forIn_toList,u2];refine Vu (wpAny_forIn_list _ (λrest r s'=>∃(h':Heap) (tk:Nat) (o':Obj) (cj:List (Int×Tok)) (dY:Array (Int×Vv)) (jn:Nat) (t':SetTable) (vs:List (Int×Tok)),s'={s with heap:=h',toks:=tk}/\rest=vs.map qv/\(∀x∈vs,x∈us)/\s.toks<=tk/\WY a s.heap h'/\h'.get? a=some o'/\iL w o' cj dY jn t'/\(∀x∈cj,x.1∈(ts++l_).map (·.1))/\(∀x,x∈cj.map (·.1)\/x∈vs.map (·.1)↔x∈ts.map (·.1)\/x∈us.map (·.1))) _ ?_ ?_ _ _ ?_)
   ·rintro v rest r s' ⟨h',tk,o',cj,dY,jn,t',vs,rfl,hv,Pq,NP,sb,qL,S',k1,k2⟩;cases vs with
    |nil=>cases hv
    |cons x vs =>
     rw[VM]at hv;obtain⟨rfl,rfl⟩:=List.cons.inj hv;have lt:cj.length<60:=by
      have:=hf (cj.map (·.1)) S'.yL λy hy=>by
       obtain⟨z,hz,rfl⟩:=V6.mp hy;exact k1 z hz
      rwa [Vt]at this
     dsimp only;refine Vu (Wo (pI (s:={s with heap:=h',toks:=tk}) qL S' lt λh2 Tc Gw QF QG SF ad Rl r0 r1 r2 r3 r4 r5=>?_))
     have MU:h2.get? b=some o2:=by rw[r1.2 b (Xg uL),sb.2 b (Xg uL)];exact Bz
     refine Vu (Ua _ _ MU ?_);refine Vu (WG (s:={s with heap:=h2,toks:=Rl}) MU S2.dat S2.fits ?_)
     dsimp only;rw[if_neg (by simp)]
     have Pn:x.1∈(ts++l_).map (·.1):=by rw[VI];exact VY _ (Xh (u1.mem_iff.mp (Pq x V8)))
     have hm:(∀y∈Gw,y.1∈(ts++l_).map (·.1))/\∀y,y∈Gw.map (·.1)↔y∈cj.map (·.1)\/y=x.1:=by
      by_cases lU:∃y∈cj,y.1=x.1
      ·rw[r4 lU];refine⟨k1,λy=>⟨.inl,λz=>z.elim id λz=>?_⟩⟩;obtain⟨u,hu,e⟩:=lU;rw[z,<- e];exact Xh hu
      ·have pm:=r5 λy hy e=>lU ⟨y,hy,e⟩;refine⟨λy hy=>?_,λy=>?_⟩
       ·rcases VB.mp (pm.mem_iff.mp hy)with rfl|z
        ·exact Pn
        ·exact k1 y z
       ·rw[(pm.map (·.1)).mem_iff,VM,VB];exact Or.comm
     refine Vy ⟨h2,Rl,Tc,Gw,QF,QG,SF,vs,rfl,rfl,λy hy=>Pq y (V2 _ hy),Wc NP r0,sb.trans r1,r2,r3,hm.1,λy=>?_⟩;rw[hm.2,<- k2 y,VM,VB,or_assoc]
   ·rintro r s' ⟨h',tk,o',cj,dY,jn,t',vs,rfl,hv,Pq,NP,sb,qL,S',k1,k2⟩;obtain rfl:vs=[]:=List.map_eq_nil_iff.mp hv.symm;refine Vy (q h' tk o' cj dY jn t' NP sb qL S' λx=>?_);rw[<- (u1.map (·.1)).mem_iff,<- k2 x];simp
   ·exact⟨h1,s.toks,o1,w6,ym,J5,t1,us,rfl,rfl,λ_ z=>z,VA _,CM,CS,S1,λx hx=>by rw[VI];exact V3 _ (Xh (p1.mem_iff.mp hx)),λx=>by rw[(p1.map (·.1)).mem_iff]⟩
theorem qu:entryFor table "set.__or__" = some W4.«frozenset.__or__» :=
 ZZ (id':="frozenset.__or__") (by kernel_rfl) rfl (by decide +kernel) (by kernel_rfl)
theorem zc {Q:Vv->Vw->Prop}(q:Q (.ref s.heap.objs.size) {s with heap:=s.heap.push (iD w)}):VU (model prog w) A (newSet (.type "set")) Q E s:=by
 unfold newSet;refine Vu (eF ?_);simp only[newObj];exact Vu (wpAny_alloc (Vy q))
theorem tX {v:Vv} (hT:s.TypeIs v "set") {Q:Bool->Vw->Prop} (q:Q true s):VU (model prog w) A (Builtin.Frozenset.isAnySet v) Q E s:=by
 unfold Builtin.Frozenset.isAnySet;exact Vu (YH (T:="set") (b:=true) hT (by rw[Yn];kernel_rfl) (Vy q))
theorem Kj (ho:s.heap.get? a=some o)(S:iL w o ts es ep t)(Bz:s.heap.get? b=some o2)(S2:iL w o2 l_ o4 J4 t2)(uL:a≠b)(hf:qr ((ts++l_).map (·.1))){Q:Vv->Vw->Prop}
  (q:∀(h':Heap) (tk:Nat) (o':Obj) (cj:List (Int×Tok)) (dY:Array (Int×Vv)) (jn:Nat) (t':SetTable),s.toks<=tk->(∀c oc,s.heap.get? c=some oc->h'.get? c=some oc)->h'.get? s.heap.objs.size=some o'->iL w o' cj dY jn t'->(∀x,x∈cj.map (·.1)↔x∈ts.map (·.1)\/x∈l_.map (·.1))->Q (.ref s.heap.objs.size) {s with heap:=h',toks:=tk}) :
  VU (model prog w) A (Xv .BitOr (.ref a) (.ref b)) Q E s:=by
 have hT:=fP ho S;have R8:=fP Bz S2;refine wpAny_binaryOp_same hT R8 F.fills_set_or F.slot_set_or (W6 F.slot_set_or hT qu ?_ (F.args_set_or_2 _ _));unfold W4.«frozenset.__or__»
 wp_delta
 unfold Builtin.Frozenset.slot1;refine Vu (Vu (Vy (Vy ?_)));dsimp only;rw[if_neg (by simp)]
 refine Vu (Vu (tX hT ?_));refine tX R8 ?_;rw[if_neg (by simp)]
 refine Vu (Vy ?_);refine Vu ?_
 wp_delta
 have ha:=VR ho;have hb:=VR Bz;unfold Builtin.Frozenset.copyOf Builtin.Frozenset.baseOf;refine Vu (Vu (Vu (YH (T:="set") (b:=true) hT (by rw[Yn];kernel_rfl) (Vy ?_))))
 rw[if_pos rfl];refine Vu (zc ?_);refine Vu (Vy ?_);refine Vu (qO (s:={s with heap:=s.heap.push (iD w)}) (VT _ rfl) (qi w) (Vx _ ho) S (Zr ha) (λl h1 h2=>hf l h1 λx hx=>?_) (λs' Q _ q=>Vy q) λh1 Oh o1 w6 ym J5 t1 k0 k1 k2 S1 k4=>Vy ?_)
 ·rw[VI];exact V3 _ (h2 x hx)
 dsimp only;have By:h1.get? b=some o2:=by rw[k1.2 b (V_ hb)];exact Vx _ Bz
 have Qv:Shared.TypeIs {s with heap:=h1,toks:=Oh} (.ref b) "set" := ⟨o2,By,S2.ex.1⟩
 rw[if_pos (by simpa using Xg uL)]
 refine Vu (Vy ?_);refine Vu (Wo ?_);unfold ZS;refine Vu (tX Qv ?_);rw[if_pos rfl];refine Vu (Vy ?_);unfold Builtin.Frozenset.merge;refine Vu (Zk (s:={s with heap:=h1,toks:=Oh}) By S2.dat S2.fits ?_)
 refine qO (s:={s with heap:=h1,toks:=Oh}) k2 S1 By S2 (Zr hb) (λl h1 h2=>hf l h1 λx hx=>?_) (λs' Q e q=>?_) λh3 Sy o3 Sx Uy Uz t3 m0 m1 m2 S3 m4=>?_
 ·have:=h2 x hx;rw[VI]at this ⊢
  exact VL.mpr ((VL.mp this).imp (λz=>by simpa using (k4 x).mp z) id)
 ·unfold Builtin.Frozenset.unchanged;refine Vu (Zk e S2.dat S2.fits ?_);rw[if_neg (by simp)]
  exact Vy q
 ·refine Vy (Vy ⟨_,rfl,by simp,q h3 Sy o3 Sx Uy Uz t3 (Wc k0 m0) (λc oc e=>?_) m2 S3 λx=>by rw[m4,k4];simp⟩)
  have hc:=V_ (VR e);rw[m1.2 c hc,k1.2 c hc];exact Vx _ e
end
end SI
namespace L2.Q
open PySem PySem.Spec PySem.SeqAt PyProof.Rows
def iY (w:VG)(ns:List Int):D:=.ob λa=>.ext (cJ w a ns)
theorem zv {P:Vz}{w:VG}{H:Hp}{h:Heap}{a:Addr}{o:Obj}{ts:List (Int×Tok)}{es:Array (Int×Vv)}{ep:Nat}{t:SetTable}{ns:List Int}(ho:h.get? a=some o)(S:SI.iL w o ts es ep t)(hm:∀x,x∈ts.map (·.1)↔x∈ns)(hf:SI.qr ns):bp P w H h a (.ext (cJ w a ns)):=by
 refine⟨⟨o,ts,es,ep,t,ho,S,hm,?_⟩,⟨_,ho⟩,λh1 h2 qo k=>?_⟩
 ·have:=hf (ts.map (·.1)) S.yL λx hx=>(hm x).mp hx
  rwa [Vt]at this
 ·obtain⟨o1,t1,e1,J5,Of,g1,g2⟩:=qo;exact⟨o1,t1,e1,J5,Of,k _ g1,g2⟩
theorem wd {ns ms:List Int}(h:SI.qr ns)(s:∀x∈ms,x∈ns):SI.qr ms:=λl h1 h2=>h l h1 λx hx=>s x (h2 x hx)
section
variable {X:Cx}
theorem HA:j8 X (Xv .BitOr) (λx y H Q=>∃p q ns ms,x=V.ref p/\y=V.ref q/\p≠q/\H p=some (.ext (cJ X.w p ns))/\H q=some (.ext (cJ X.w q ms))/\SI.qr (ns++ms)/\∀a,H a=none->Q (.ref a) (upd H a (.ext (cJ X.w a (ns++ms))))):=by
 intro pins s σ H x y v u Q I rx ry h;obtain⟨p,q,ns,ms,rfl,rfl,v7,hp,hq,hf,k⟩:=h;cases rx;cases ry;obtain⟨⟨o,ts,es,ep,t,ho,S,hm,hl⟩,_,_⟩:=(show bp X.prog X.w H s.heap p (.ext (cJ X.w p ns)) from I.a6 p _ hp)
 obtain⟨⟨o2,l_,o4,J4,t2,Bz,S2,Qe,RZ⟩,_,_⟩:=(show bp X.prog X.w H s.heap q (.ext (cJ X.w q ms)) from I.a6 q _ hq)
 have mm:∀x,x∈ts.map (·.1)\/x∈l_.map (·.1)↔x∈ns++ms:=λx=>by rw[hm,Qe,VL]
 refine SI.Kj ho S Bz S2 v7 (wd hf λx hx=>by rw[VI]at hx;exact(mm x).mp (VL.mp hx)) λh' tk o' cj dY jn t' NP kp qL S' m=>?_
 have IY:H s.heap.objs.size=none:=I.a6.fresh (VA _);exact⟨.ref s.heap.objs.size,_,I.laid (t':=tk) (o:=.ext (cJ X.w s.heap.objs.size (ns++ms))) kp (VA _) (zv qL S' (λx=>(m x).trans (mm x)) hf),rfl,k _ IY⟩
theorem AS:∀(pins:List (Addr×Obj)) (s:Vw) (σ:St) (H:Hp) (Q:Vv->Vw->Prop) (E:Vv->Vw->Prop),Inv X pins σ H s ->
  (∀a s',s.heap.objs.size<=a->H a=none->(∀b o,s.heap.get? b=some o->s'.heap.get? b=some o)->Inv X pins σ (upd H a (.ext (cJ X.w a []))) s'->Q (.ref a) s')->VU (model X.prog X.w) X.A (newSet (.type "set")) Q E s:=λpins s σ H Q E I h=>by
 have hS:(s.heap.push (ST.iD X.w)).get? s.heap.objs.size=some (ST.iD X.w):=VT _ rfl;exact SI.zc (h _ _ (VA _) I.fresh (λb o e=>Vx _ e) (I.laid (t':=s.toks) (λ_ _ q=>Vx _ q) (VA _) (zv hS (ST.qi X.w) (λx=>Iff.rfl) (SI.BQ (by decide)))))
theorem An {elt:Expr}{te:TE}{a:Addr}(hx:X.xe=λ_ _=>False)(he:PE X elt te):
  lE X (gA (BY elt (.ref a) X.env)) (λN σ H=>te σ H λv H1=>∃o t,v=.int t/\H1 a=some (.ext (cJ X.w a o))/\SI.qr (o++[t])/\N σ (upd H1 a (.ext (cJ X.w a (o++[t]))))):=by
 intro pins s σ H N k Q E I h hk;unfold gA BY;refine Vu (Vu (bt (dc hx (he pins s σ H _ I h)) λu s1 gn=>?_));obtain⟨v,H1,I1,r1,ns,t,rfl,hH,hf,q⟩:=gn;obtain⟨tk,rfl⟩:=r1;obtain⟨⟨o,ts,es,ep,tb,ho,S,hm,hl⟩,_,_⟩:=(show bp X.prog X.w H1 s1.heap a (.ext (cJ X.w a ns)) from I1.a6 a _ hH)
 refine Vu (W5 (Vu (W6 PySem.F.slot_set_add (ST.fP ho S) PySem.F.entry_set_add ?_ (PySem.F.args_set_add_2 _ _))));unfold W4.«set.add» Builtin.Frozenset.oneOther;simp only[List.isEmpty_nil,bind_assoc];unfold Builtin.Frozenset.addrOf setAdd;refine Vu (Vy ?_)
 try dsimp only
 refine Vu (Vy ?_)
 try dsimp only
 refine Vu ?_;refine Wo ?_;refine Vu ((Yk X.prog X.w).pyHash (k:=t) (intKind_is _ _ _ _) ?_);refine SI.pI (s:={s1 with toks:=s1.toks+1}) ho S hl λh' o' cj dY jn t' added tk r0 sb qL S' m1 m2=>?_
 show VU _ _ (ret Value.none) _ _ _;refine Vy ⟨_,rfl,Vy (hk σ _ _ ?_ q)⟩;refine I1.write (x:=a) (e:=a) (by rw[hH];exact trivial) (.inl rfl) (λb u hb hu=>(sb.2 b hb).trans hu) ⟨_,qL⟩ (zv qL S' (λx=>?_) hf)
 rw[VL,VD,<- hm x]
 by_cases lU:∃y∈ts,y.1=t
 ·rw[m1 lU];refine⟨.inl,λz=>z.elim id λz=>?_⟩;obtain⟨y,hy,e⟩:=lU;rw[z,<- e];exact Xh hy
 ·rw[((m2 λy hy e=>lU ⟨y,hy,e⟩).map (·.1)).mem_iff,VM,VB];exact Or.comm
end
def Ri (w:VG)(a:Addr)(o:List Int)(H:Hp):Prop:=H a=some (.ext (cJ w a o))
theorem u9 {w:VG}{a:Addr}:tM a (Ri w a):=⟨λo H H' s h=>s _ _ h,λo H xs h z=>by
  rw[show H a=_ from h]at z;cases z⟩
abbrev Rm (X:Cx)(C:Cfg)(a:Addr)(φ:aE):j7:=λN σ H=>tQ X (C.u λc=>c=a) true φ σ H λv H1=>∃o t,v=.int t/\H1 a=some (.ext (cJ X.w a o))/\SI.qr (o++[t])/\N σ (upd H1 a (.ext (cJ X.w a (o++[t]))))
def BX (φ:aE)(o:List Int)(β:aJ)(N:aJ->List Int->Prop):Prop:=φ β λx _ β3=>∃t,x=.int t/\SI.qr (o++[t])/\N β3 (o++[t])
theorem FP {X:Cx}{C:Cfg}{σ:St}{H1 H':Hp}{β:aJ}{own:Nat->List Addr}{a:Addr}{ns:List Int}(s1:SQ X C σ H1 β own)(ha:H1 a=none)(h:H' a=some (.ext (cJ X.w a ns))):KV X.prog X.w C (H1,Wn own) own H' .own (iY X.w ns) (.ref a):=by
 refine⟨[a],⟨a,rfl,⟨h,λxs z=>by cases z⟩,rfl⟩,by simp,λc hc=>?_⟩
 rw[VD.mp hc];exact⟨ha,λh=>by obtain⟨j,hj⟩:=h;exact(s1.dm j a hj).1 ha,VS λz=>s1.eZ a z ha⟩
theorem zw {X:Cx}{C:Cfg}{W0:Addr->Prop}{T:List Nat}{σ0:St}{H1:Hp}{a:Addr}{Hb:Hp}{Wb:Addr->Prop}{φ:aE}(h0:C.H0 a=none)(ha:H1 a=none)(φm:∀β R R',(∀d k β,R d k β->R' d k β)->φ β R->φ β R'){β:aJ}{o:List Int}{σ:St}{H:Hp}{N:aJ->List Int->Prop}(s:oj X C W0 T σ0 H1 a Hb Wb (Ri X.w a) β o σ H)(q:BX φ o β N):
  Rm X C a φ (λσ' H'=>∃β' o',oj X C W0 T σ0 H1 a Hb Wb (Ri X.w a) β' o' σ' H'/\N β' o') σ H:=by
 obtain⟨own,s⟩:=s;refine⟨β,own,s.sq,φm _ _ _ (λxd kx β6 gn v H6 rP o6 r6=>?_) q⟩;obtain⟨t,e,hz,q⟩:=gn;subst e;obtain⟨sm,rfl⟩:=o6.pu rfl;have s6:=s.next u9 o6.sq (λ_ z=>z) sm (λ_ _=>rfl)
 cases (show v=.int t from r6.rep)
 exact⟨_,t,rfl,s6.ac,hz,β6,o++[t],⟨_,s6.put h0 ha s6.ac (λxs z=>by cases z) ao⟩,q⟩
def Dl (w:VG)(lk:List (Option Nat))(ι:bW)(γ:cF)(τ:aP)(ι2:bW)(γ2:cF)(τ2:aP)(φ:aE):aE:=λβ R=>ι β λds k β1=>hold k false/\gZ γ τ (AU ι2 γ2 τ2 (BX φ)) ds k (cG lk β1) [] λβf o=>fC (cG lk β1) βf/\R (iY w o) .own β1
section
variable {X:Cx}{C:Cfg}{lk:List (Option Nat)}{γ γ2:cF}{τ τ2:aP}{φ:aE}{T T2:List Nat}
variable {scope:Xw}{tg bJ iM fK elt:Expr}{ifs df:List Expr}{ι ι2:bW}{pi:Bool}{pos:Pos}
theorem OI (N':List Str)(lk:List (Option Nat))(L:fH X.env.scope.names X.N scope N' lk=true)(lb:N'.Nodup)(hc:X.calm=true)(hi:tR X C pi tg bJ ι)
  (jK:∀a cl c s H ex,qH (aq X scope N' cl c s H ex) (C.u λc=>c=a) tg T γ) (iR:∀a cl c s H ex,kY (aq X scope N' cl c s H ex) (C.u λc=>c=a) true ifs τ)
  (F5:∀a cl c s H ex,Ng (aq X scope N' cl c s H ex) (C.u λc=>c=a) iM fK ι2)
  (sv:∀a cl c s H ex,qH (aq X scope N' cl c s H ex) (C.u λc=>c=a) iM T2 γ2) (su:∀a cl c s H ex,kY (aq X scope N' cl c s H ex) (C.u λc=>c=a) true df τ2)
  (fb:∀a cl c s H ex,PQ (aq X scope N' cl c s H ex) (C.u λc=>c=a) true elt φ) (hT:(T++T2).all (λi=>match lk[i]? with|some (some _)=>false|_=>true)=true:=by rfl)
  (hs:∀x,V4 bJ X.env x=pure x:=by intro _;rfl) (nP:∀cl c s H ex x,V4 fK (aq X scope N' cl c s H ex).env x=pure x:=by intro _ _ _ _ _ _;rfl):PQ X C pi (.SetComp elt [⟨tg,bJ,ifs,0⟩,⟨iM,fK,df,0⟩] scope pos) (Dl X.w lk ι γ τ ι2 γ2 τ2 φ):=by
 have L:=Links.of L;have uM:∀i∈T++T2,∀j,lk[i]?≠some (some j):=λi hi j e=>by
  have:=WM.mp hT i hi;rw[e]at this;cases this
 have γm:=(jK 0 [] 0 X.s₀ X.H₀ []).mono;have τm:=(iR 0 [] 0 X.s₀ X.H₀ []).mono;have zb:=(sv 0 [] 0 X.s₀ X.H₀ []).mono;have y_:=(su 0 [] 0 X.s₀ X.H₀ []).mono;have φm:=(fb 0 [] 0 X.s₀ X.H₀ []).mono;have ιm:=(F5 0 [] 0 X.s₀ X.H₀ []).mono;refine⟨λβ R R' k h=>hi.mono β _ _ (λds kd β1 q=>⟨q.1,q.2.mono λ_ _ z=>⟨z.1,k _ _ _ z.2⟩⟩) h,?_⟩;refine(rL (g:=⟨tg,bJ,ifs,0⟩) (gs:=[⟨iM,fK,df,0⟩]) (tg:=λa=>zj X C a T γ) (tt:=λa=>iN X (C.u λc=>c=a) true τ)
  (ta:=λa N σ H=>∃β own,SQ X (C.u λc=>c=a) σ H β own/\ι2 β λds k β'=>∀J H',ay H H'->SQ X (C.u λc=>c=a) σ H' β' own->vb X (eD (C.u λc=>c=a) (Wn own) k) J ds H' ->
   eM J (zj X C a T2 γ2) (iN X (C.u λc=>c=a) true τ2) (Rm X C a φ) N σ H')
  L hc AS rfl rfl (λ_ _=>Jz) hi.pi (λa cl c s H ex=>⟨(jK a cl c s H ex).pg,(iR a cl c s H ex).pt,qb (X:=aq X scope N' cl c s H ex) (g':=⟨iM,fK,df,0⟩) rfl hc Jy (F5 a cl c s H ex).pi (sv a cl c s H ex).pg (su a cl c s H ex).pt (An (X:=aq X scope N' cl c s H ex) rfl (fb a cl c s H ex).pe) (nP cl c s H ex)⟩) hs).pre λσ H Q h=>?_
 obtain⟨β,own,s,h⟩:=h;refine⟨β,own,s,hi.mono β _ _ (λds k β1 h J H1 aw o1 it a ha=>?_) h⟩;obtain⟨hk,q⟩:=h;refine gP (T:=T++T2) u9 γm τm (λj hj=>V3 _ hj) (bq L lb) uM o1.sq ha hk it ao (o1.sq.uT (λxs z=>by cases z) ha (bq L lb))
  (λHb Wb βx ox σx Hx Nx h0 sx qx=>pU u9 (λj hj=>VY _ hj) zb y_ (λHb Wb βy oy σy Hy Ny sy qy=>zw h0 ha φm sy qy) ιm sx qx) q λo H' q o2 r=>?_
 exact q _ _ aw ⟨o2.sq,o1.sn.trans o2.sn,λz=>⟨(o1.pu z).1.trans (o2.pu rfl).1,(o1.pu z).2⟩,o1.le⟩ ((FP o1.sq ha r).later o1.sn)
end
section
variable {X:Cx}{C:Cfg}{e a b:Expr}{φ φa φb:aE}{p p':Bool}{pos pos' p1:Pos}
def KN (w:VG)(φ:aE):aE:=λβ R=>φ β λd _ β1=>∃ns:List Int,d=.lst (ns.map D.int)/\SI.qr ns/\R (iY w ns) .own β1
theorem Dt (hc:X.calm=true) (he:PQ X C p e φ) (hm:X.mg "set" = none) (hg:Gl X "set" := by rfl) (hs:VE [e] X.env=(false,eval e X.env)::VE [] X.env:=by rfl) (hpl:(WR pos (VE [] X.env)).any (·.1)=false:=by rfl) :
  PQ X C p (.Call (.Name "set" p1) [e] [] pos) (KN X.w φ) :=
 ⟨λβ R R' k h=>he.mono β _ _ (λd kd β1 nX=>by obtain⟨ns,h1,h2,q⟩:=nX;exact⟨ns,h1,h2,k _ _ _ q⟩) h,
  (oE (yu hc) hg hm JC (bj he.pe dz hs) (by decide) (by decide) (he:=hs) (hpl:=hpl)).pre λσ H Q ⟨β,own,s,h⟩=>tQ.of he s h λd k β1 v H1 aw Bt o1 r1=>by
  obtain⟨ns,e1,hl,q⟩:=Bt;subst e1;obtain⟨b,us,rfl,Qt,_,rb⟩:=r1.rep;cases _root_.L2.cT rb;exact⟨b,ns,rfl,eE.of Qt,hl,λl yO=>q _ _ aw (o1.same (ay.new yO)) ((FP o1.sq yO ao).later o1.sn)⟩⟩
def G0 (w:VG)(pb:Bool)(φa φb:aE):aE:=λβ R=>φa β λd1 k1 β1=>hold k1 pb/\φb β1 λd2 k2 β2=>∃ns ms:List Int,d1=iY w ns/\d2=iY w ms/\k2=.own/\SI.qr (ns++ms)/\∀l:List Int,l.Pairwise (· < ·)->(∀x,x∈l↔x∈ns++ms)->l.length<=60->R (.lst (l.map D.int)) .own β2
theorem zT (hc:X.calm=true) (ha:PQ X C p a φa) (hb:PQ X C p' b φb) (hm:X.mg "sorted" = none) (hg:Gl X "sorted" := by rfl)
  (hs:VE [.BinOp a .BitOr b pos'] X.env=(false,eval (.BinOp a .BitOr b pos') X.env)::VE [] X.env:=by rfl) (hpl:(WR pos (VE [] X.env)).any (·.1)=false:=by rfl) :
  PQ X C (p&&p') (.Call (.Name "sorted" p1) [.BinOp a .BitOr b pos'] [] pos) (G0 X.w p' φa φb) :=
 ⟨λβ R R' k h=>ha.mono β _ _ (λd1 k1 β1 h=>⟨h.1,hb.mono β1 _ _ (λd2 k2 β2 h=>by obtain⟨ns,ms,e1,e2,e3,hf,q⟩:=h;exact⟨ns,ms,e1,e2,e3,hf,λl a b c=>k _ _ _ (q l a b c)⟩) h.2⟩) h,
  (gV (oh hc) hg hm yA (bj (c9 HA ha.pe hb.pe) dz hs) (by decide) (by decide) (he:=hs) (hpl:=hpl)).pre λσ H Q ⟨β,own,s,h⟩ =>
  tQ.of ha s h λd1 k1 β1 v1 H1 aw ⟨hh,h1⟩ o1 r1=>tQ.of hb o1.sq h1 λd2 k2 β2 v2 H2 aZ hq o2 r2=>by
   obtain⟨ns,ms,rfl,rfl,rfl,hf,q⟩:=hq;have JX:=r1.ho o2 hh;obtain⟨a1,ea,⟨Ui,_⟩,_⟩:=r1.rep;obtain⟨Vr,Sb,⟨Qu,_⟩,_⟩:=JX.rep;rw[ea]at Sb;cases Sb;obtain⟨A,⟨a2,eb,⟨Uh,_⟩,eA⟩,_,hA⟩:=r2;have NT:H1 a2=none:=(hA a2 (by rw[eA];simp)).1
   subst ea eb;refine⟨a1,a2,ns,ms,rfl,rfl,(λz=>by rw[<- z,Ui]at NT;cases NT),Qu,Uh,hf,λl hl=>⟨l,_,rfl,ao,λus u1 u2 u3 m hm=>?_⟩⟩
   have o:=o1.trans o2;have o3:=o.same (ay.new (o:=.ext (cJ X.w l (ns++ms))) hl);refine q us u1 u2 u3 _ _ aZ (o3.same (ay.new hm)) ⟨[m],⟨m,_,[],rfl,ao,rfl,mJ us⟩,by simp,λc hc=>?_⟩
   rw[VD.mp hc];exact⟨VS λz=>o3.sn.d m z hm,λz=>o3.sq.qw m z hm,VS λz=>o3.sq.eZ m z hm⟩⟩
end
end L2.Q
namespace L2
open PySem PySem.Spec PySem.SeqAt PyProof.Rows
section
variable {X:Cx}{pins:List (Addr×Obj)}{σ:St}{H:Hp}{s:Vw}{d:Addr}{ob:Obj}{kvs:List (Key×V)}
theorem Inv.ET (I:Inv X pins σ H s)(hd:H d=some (.dK kvs))(ho:s.heap.get? d=some ob):Inv X pins σ (upd H d (.wb ob (.dK kvs))) s:=by
 have hx:bp X.prog X.w H s.heap d (.dK kvs):=I.a6 d _ hd;have:=I.write (x:=d) (e:=d) (o:=.wb ob (.dK kvs)) (h':=s.heap) (t':=s.toks) (by rw[hd];exact Yo) (.inl rfl) (λb u _ z=>z) ⟨ob,ho⟩ ⟨ho,hx.nQ (λb u _ z=>z) (λb z=>by rw[ar (rT z hd (λz=>nomatch z))];exact z) λb xs z=>by rw[ar (rT z hd (λz=>nomatch z))];exact z⟩
 exact this
end
def tN (kvs:List (Int×Int)):List (Key×V):=kvs.map λp=>(.inl p.1,.int p.2)
abbrev yS (ob:Obj)(kvs:List (Int×Int)):HO:=.wb ob (.dK (tN kvs))
def JM (d:Addr)(ob:Obj)(kvs:List (Int×Int)):It:=⟨λi H=>i<kvs.length/\H d=some (yS ob kvs),λi H x H'=>H'=H/\∃u,kvs[i]?=some u/\x=.int u.1,λi H=>kvs.length<=i/\H d=some (yS ob kvs)⟩
structure Nl (P:Vz)(w:VG)(h:Heap)(d:Addr)(ob:Obj)(kvs:List (Int×Int))(es:Array ZH)(ep:Nat)(vs:List (Key×Vv)):Prop where
 nl:(d==Xb)=false
 at':h.get? d=some ob
 ex:ob.ExactDict
 dt:ob.data=.dict es ep
 keys:X4 (es.toList.map (·.key)) (kvs.map (·.1))
 rel:KV (tN kvs) vs
 QI:h.DictAt (aY P w) d vs ep
theorem MW {P:Vz}{w:VG}{H:Hp}{h:Heap}{d:Addr}{ob:Obj}{kvs:List (Int×Int)}(hk:bp P w H h d (yS ob kvs)):∃es ep vs,Nl P w h d ob kvs es ep vs:=by
 obtain⟨g,z,y,vs,rel,o,es,ep,g1,g2,g3,g4,g5,nd⟩:=hk;rw[g]at g1;cases g1;have UA:vs.map (·.1)=(kvs.map (·.1)).map Xf:=(Q.Il rel).trans (by unfold tN;rw[WO,WO];rfl)
 exact⟨es,ep,vs,y,g,g2,g3,Q.mI g5 UA,rel,⟨ob,es,g,g2,g3,g4,g5,nd⟩⟩
theorem Be {kvs:List (Int×Int)}{vs:List (Key×Vv)}(rel:KV (tN kvs) vs){i:Nat}{u:Int×Int}(h:kvs[i]?=some u):∃v,vs[i]?=some (.inl u.1,v)/\RelV (.int u.2) v:=by
 have key:∀(l:List (Int×Int)) (vs:List (Key×Vv)) (i:Nat),KV (tN l) vs->l[i]?=some u->∃v,vs[i]?=some (.inl u.1,v)/\RelV (.int u.2) v:=λl=>by
  induction l with
  |nil=>intro vs i _ z;simp at z
  |cons p l ih =>
   intro vs i r z;unfold tN at r;rw[VM]at r;cases r with
   |cons h1 h2 =>
    cases i with
    |zero =>
     rw[List.getElem?_cons_zero]at z;cases z;obtain⟨e,rv⟩:=h1;refine⟨_,?_,rv⟩;rw[List.getElem?_cons_zero];exact congrArg some (Prod.ext e.symm rfl)
    |succ i =>
     rw[Xn]at z ⊢
     exact ih _ i h2 z
 exact key kvs vs i rel h
theorem Er {t:Int}{v:Vv}(h:mT (.inl t) v=true):RelV (.int t) v:=by
 rcases ba h with⟨i,tk,q1,q2⟩|⟨x,tk,q1,q2⟩
 ·cases q1;exact⟨tk,q2⟩
 ·cases q1
theorem t7 {P:Vz}{w:VG}{K:PySem.W.Frag}{tg:Expr}{ob:Obj}{kvs:List (Int×Int)}(d it:Addr)(v7:d≠it){vs:List (Key×Vv)}{es:Array ZH}{ep:Nat}{h0:Heap}(F:Nl P w h0 d ob kvs es ep vs):
  Turn P w K tg (JM d ob kvs) [it] it (λi h=>h.IsKeyIter it d i vs.length ep) where
 mem:=by simp
 obj:=λi h st b hb=>by
  have e:b=it:=by simpa using hb
  subst e;obtain⟨o,e,c,d⟩:=st;exact⟨o,e,λv z=>by rw[d]at z;cases z⟩
 keep:=λi h h' st k=>st.at λo e=>k it (by simp) o e
 item:=by
  intro X hP hw hK hc i pins s σ H E I hf st hg;subst hP hw hK;obtain⟨hi,MS⟩:=hg;obtain⟨f0,f1,f2,f3,f4,f5⟩:=hf it (by simp)
  have g:=(show bp X.prog X.w H s.heap d (yS ob kvs) from I.a6 d _ MS).1
  have D:s.heap.DictAt (aY X.prog X.w) d vs ep:=by
   obtain⟨o,dY,e1,e2⟩:=F.QI;rw[F.at']at e1;cases e1;exact⟨ob,dY,g,e2⟩
  obtain⟨v,ev,_⟩:=Be F.rel (VC hi);refine wpAny_pyNext_dict_item st D ev λkey h' IX qK sb=>?_;have I1:Inv X pins σ H {s with heap:=h'}:=I.turned (t':=s.toks) (λb o hb e=>(sb.2 b hb).trans e) f0 f1 f3 f4 f5
  obtain⟨o,e,c,dd⟩:=id qK;exact⟨_,rfl,sF (s:={s with heap:=h'}) e c dd (by decide) ⟨.int kvs[i].1,H,I1,Er IX,⟨rfl,kvs[i],VC hi,rfl⟩,qK,λb hb=>(hf b hb).1⟩⟩
 done:=by
  intro X hP hw hK hc i pins s σ H E I hf st hg;subst hP hw hK;obtain⟨hi,MS⟩:=hg;obtain⟨f0,f1,f2,f3,f4,f5⟩:=hf it (by simp)
  have g:=(show bp X.prog X.w H s.heap d (yS ob kvs) from I.a6 d _ MS).1
  have D:s.heap.DictAt (aY X.prog X.w) d vs ep:=by
   obtain⟨o,dY,e1,e2⟩:=F.QI;rw[F.at']at e1;cases e1;exact⟨ob,dY,g,e2⟩
  have hl:vs.length=kvs.length:=by have:=F.rel.length;unfold tN at this;rw[Vt]at this;exact this.symm
  exact wpAny_pyNext_dict_end (I.ok.hd hc) st D (WE (by lia)) λh' eb=>⟨rfl,I.turned (t':=s.toks) (λb o hb e=>eb b o hb e) f0 f1 f3 f4 f5⟩
 self:=λ_ _ _ _ _ st h=>wpAny_pyIter_keyiter st h
end L2
namespace L2.Q
open PySem PySem.Spec PySem.SeqAt PyProof.Rows
abbrev M4 (ob:Obj)(kvs:List (Int×Int)):D:=.ob λ_=>yS ob kvs
section
variable {X:Cx}{C:Cfg}{tg e k:Expr}{φ φk:aE}{p pk:Bool}{pos apos cpos p1:Pos}
def IC (tl:TE):TI:=λσ H R=>tl σ H λx H1=>∃a ob kvs,x=.ref a/\H1 a=some (yS ob kvs)/\R (JM a ob kvs) H1
theorem z6 {l:Expr}{tl:TE}(hl:PE X l tl):PI X tg l (IC tl):=by
 intro pins s σ H R I h;refine bt (hl pins s σ H _ I h) λv s1 gn=>?_;obtain⟨x,H1,I1,r1,a,ob,kvs,rfl,ha,q⟩:=gn;cases r1;obtain⟨es,ep,vs,F⟩:=MW (show bp X.prog X.w H1 s1.heap a (yS ob kvs) from I1.a6 a _ ha)
 have v7:a≠s1.heap.objs.size:=V_ (VR F.at');refine wpAny_pyIter_dict F.nl F.QI ?_;refine⟨s1.heap.objs.size,[s1.heap.objs.size],_,_,H1,rfl,I1.kept (t':=s1.toks) λb o e=>Vx _ e,t7 a _ v7 F,⟨_,VT _ rfl,rfl,rfl⟩,λb hb=>?_,q⟩;have e:b=s1.heap.objs.size:=by simpa using hb
 subst e;exact I1.yf (VA _) (I1.a6.fresh (VA _))
theorem yc {W:Addr->Prop}{H:Hp}{a:Addr}{ob:Obj}{kvs:List (Int×Int)}(h1:H a=some (yS ob kvs))(n1:¬ W a):vb X W (JM a ob kvs) (kvs.map λu=>D.int u.1) H:=λW' hW i H' k=>by
 have h2:=k.out a _ h1 λz=>(hW a z).elim n1 λq=>by rw[h1]at q;cases q
 constructor
 ·intro d hd;rw[VJ]at hd;obtain⟨u,hu,rfl⟩:=VQ.mp hd;refine⟨⟨(VN.mp hu).1,h2⟩,λx H1 y=>?_⟩;obtain⟨rfl,u',RQ,rfl⟩:=y;rw[hu]at RQ;cases RQ;exact⟨ay.refl _,rfl⟩
 ·intro hl;rw[Vt]at hl;exact⟨hl,h2⟩
def LM (φ:aE):bW:=λβ R=>φ β λd k β'=>∃ob kvs,d=M4 ob kvs/\R (kvs.map λu=>D.int u.1) k β'
theorem rH (h:PQ X C p e φ):tR X C p tg e (LM φ) :=
 ⟨λβ R R' k q=>h.mono β _ _ (λd kd β1 qo=>by obtain⟨ob,kvs,e,q⟩:=qo;exact⟨ob,kvs,e,k _ _ _ q⟩) q,(z6 h.pe).pre λσ H R ⟨β,own,s,q⟩=>tQ.of h s q λd k β1 v H1 aw z o1 r1=>by
  obtain⟨ob,kvs,rfl,q⟩:=z;obtain⟨a,rfl,⟨ha,_⟩,hn⟩:=r1.rep;exact⟨a,ob,kvs,rfl,ha,q _ _ aw o1 (yc ha hn)⟩⟩
def qT (kvs:List (Int×Int))(t:Int):Option Int:=(kvs.find? λp=>decide (p.1=t)).map (·.2)
theorem zf {t:Int}:∀{kvs:List (Int×Int)},ef (tN kvs) (.inl t)=(qT kvs t).map V.int
 |[]=>rfl
 |p::kvs=>by
  have ih:=zf (t:=t) (kvs:=kvs);unfold ef qT tN at *
  rw[VM,Wd,Wd]
  by_cases h:p.1=t
  ·rw[decide_eq_true h,decide_eq_true (show (Xf p.1:Key)=.inl t by rw[h])];rfl
  ·rw[decide_eq_false h,decide_eq_false (show ¬ (Xf p.1:Key)=.inl t from λz=>h (by cases z;rfl))]
   exact ih
theorem Pg (hu:X.A.units+1<XQ):Fw X (λx y H Q=>∃a ob kvs t m,x=.ref a/\y=.int t/\H a=some (yS ob kvs)/\qT kvs t=some m/\Q (.int m) H):=by
 intro value slice pins s σ H x y v u Q I rx ry h hs;obtain⟨a,ob,kvs,t,m,rfl,rfl,ha,hm,q⟩:=h;have g:tJ H a (.int t) (some (.int m)):=.inl ⟨tN kvs,.inl t,.inr ⟨ob,ha⟩,rfl,by rw[zf,hm];rfl⟩
 cases (show v=Value.ref a from rx)
 exact ZX (lj I g) PySem.F.slot_dict_getitem.lookup (o8 hu I g ry λu' s' I' r'=>⟨.int m,H,I',r',q⟩) hs
def KU (pk:Bool)(φ φk:aE):aE:=λβ R=>φ β λd kd β1=>hold kd pk/\φk β1 λjd _ β2=>∃ob kvs t m,d=M4 ob kvs/\jd=.int t/\qT kvs t=some m/\R (.int m) .own β2
theorem vE (hu:X.A.units+1<XQ)(he:PQ X C p e φ)(hk:PQ X C pk k φk)(hs:lX k:=by exact λ_ _=>rfl):PQ X C (p&&pk) (.Subscript e k pos) (KU pk φ φk) :=
 ⟨λβ R R' kk h=>he.mono β _ _ (λd kd β1 h=>⟨h.1,hk.mono β1 _ _ (λjd _ β2 h=>by obtain⟨ob,kvs,t,m,h1,h2,h3,q⟩:=h;exact⟨ob,kvs,t,m,h1,h2,h3,kk _ _ _ q⟩) h.2⟩) h,
  (jB (Pg hu) he.pe hk.pe hs).pre λσ H Q ⟨β,own,s,h⟩=>tQ.of he s h λd kd β1 v H1 aw ⟨hh,h1⟩ o1 r1=>tQ.of hk o1.sq h1 λjd kj β2 jv H2 aZ hq o2 r2=>by
  obtain⟨ob,kvs,t,m,rfl,rfl,hm,q⟩:=hq;obtain⟨a,rfl,⟨ha,_⟩,_⟩:=(r1.ho o2 hh).rep;cases (show jv=.int t from r2.rep)
  exact⟨a,ob,kvs,t,m,rfl,rfl,ha,hm,q _ _ aZ (o1.trans o2) ⟨[],⟨rfl,rfl⟩,Wg,λc hc=>(nomatch hc)⟩⟩⟩
theorem xQ:Q5 X "dict.values" (λx xs H Q=>∃d kvs,x=.ref d/\xs=[]/\H d=some (.dK kvs)/\∀v,H v=none->Q (.ref v) (upd H v (.ext λh=>h.IsValuesView v d))):=by
 intro pins s σ H x xs v us Q I rx rs h;obtain⟨d,kvs,rfl,rfl,hd,q⟩:=h;cases rx;cases rs;obtain⟨z,lo,vs,rel,dd⟩:=sU I.a6 hd;have IY:H s.heap.objs.size=none:=I.a6.fresh (VA _);refine call_meetsIn PySem.F.slot_dict_values dd.typeIs PySem.F.entry_dict_values (PySem.F.args_dict_values_1 _) (meets_dict_values (aY X.prog X.w) d lo) ⟨⟨vs,dd⟩,?_⟩;refine⟨.ref s.heap.objs.size,_,I.laid (t':=s.toks) (o:=.ext λh=>h.IsValuesView s.heap.objs.size d) (λ_ _ q=>Vx _ q) (VA _) ⟨⟨_,VT _ rfl,rfl,rfl⟩,⟨_,VT _ rfl⟩,λh1 h2 hq k=>?_⟩,rfl,q _ IY⟩;obtain⟨o,g1,g2⟩:=hq;exact⟨o,k _ g1,g2⟩
theorem qA (hc:X.calm=true):eY X (.builtin "max") (λxs H Q=>∃v d kvs m,xs=[V.ref v]/\H v=some (.ext λh=>h.IsValuesView v d)/\H d=some (.dK (tN kvs))/\fU (kvs.map (·.2))=some m/\Q (.int m) H):=by
 intro pins s σ H xs us Q I r h;obtain⟨v,d,kvs,m,rfl,hv,hd,hm,q⟩:=h;obtain⟨u,rfl,rx⟩:=vals1 r;cases rx;obtain⟨LO,_,_⟩:=(show bp X.prog X.w H s.heap v (.ext λh=>h.IsValuesView v d) from I.a6 v _ hv)
 obtain⟨z,lo,vs,rel,o,es,ep,g1,g2,g3,g4,g5,nd⟩:=sU I.a6 hd;have D:s.heap.DictAt (aY X.prog X.w) d vs ep:=⟨o,es,g1,g2,g3,g4,g5,nd⟩;have jm:d<s.heap.objs.size:=VR g1;have hl:vs.length=kvs.length:=by have:=rel.length;unfold tN at this;rw[Vt]at this;exact this.symm
 have h0:0<vs.length:=by
  rw[hl];cases kvs with
  |nil=>cases hm
  |cons _ _=>exact Nat.succ_pos _
 refine call_max_walk (wpAny_pyIter_values LO D ?_);have LP:∀i v,(∃k,vs[i]?=some (k,v))->∃t,v=Value.int ((kvs.map (·.2)).getD i 0) t:=λi v hk=>by
  obtain⟨k,hk⟩:=hk;have hi:i<kvs.length:=by rw[<- hl];exact(VN.mp hk).1
  obtain⟨w',e1,r1⟩:=Be rel (VC hi);rw[hk]at e1;cases e1;obtain⟨t,e⟩:=r1;exact⟨t,by rw[e,Wj,VJ,VC hi];rfl⟩
 refine⟨_,_,_,_,_,_,_,rfl,Walks.dictValues (A:=X.A.in1) (knd:=aY X.prog X.w) (I.ok.hd hc) s.heap.objs.size d (V_ jm) vs ep,⟨⟨_,VT _ rfl,rfl,rfl⟩,D.at' λo e=>Vx _ e⟩,λb hb=>?_,h0,CmpOf.ints_gt (λi=>(kvs.map (·.2)).getD i 0) LP,λv' h' tk hP hk=>?_⟩
 ·show b<(s.heap.push _).objs.size;rw[Y3];rcases VB.mp hb with rfl|hb
  ·exact ZF _
  ·rw[VD.mp hb];exact Yv jm
 ·obtain⟨t,rfl⟩:=LP _ _ hP;have hold:∀b o,s.heap.get? b=some o->h'.get? b=some o:=λb o e=>hk b o (λhb=>by rw[VD.mp hb]at e;exact absurd (VR e) (Xe _)) (Vx _ e)
  refine⟨.int m,H,I.kept hold,⟨t,?_⟩,q⟩;obtain⟨b1,b2⟩:=argBest_gt (λi=>(kvs.map (·.2)).getD i 0) (vs.length-1);generalize argBest (λi j=>decide ((kvs.map (·.2)).getD i 0>(kvs.map (·.2)).getD j 0)) (vs.length-1)=b at *
  congr 1
  have hb:b<(kvs.map (·.2)).length:=by rw[Vt];lia
  have lC:(kvs.map (·.2)).getD b 0∈kvs.map (·.2):=by
   rw[Wj,VC hb];exact WC hb
  have hle:∀x∈kvs.map (·.2),x<=(kvs.map (·.2)).getD b 0:=λx hx=>by
   obtain⟨j,hj,rfl⟩:=Y7 hx;have:=b2 j (by rw[Vt]at hj;lia)
   rw[show (kvs.map (·.2)).getD j 0=(kvs.map (·.2))[j] by rw[Wj,VC hj];rfl]at this
   exact this
  have:=Ej lC hle;rw[hm]at this;exact(V5 this).symm
def nV (kvs:List (Int×Int)):List (Int×D):=kvs.map λp=>(p.1,.int p.2)
theorem lT {P:Vz}{w:VG}{W:Addr->Prop}{H:Hp}:∀{kvs:List (Int×Int)} {vs:List V},ai P w W H ((nV kvs).map (·.2)) vs->(kI (nV kvs)).zip vs=tN kvs
 |[],_,h=>by cases h;rfl
 |p::kvs,_,⟨v,r,rfl,h1,h2⟩=>by
  have:=lT (kvs:=kvs) h2;unfold kI nV tN at *
  rw[VM,VM,Wu,VM,this];cases (show v=.int p.2 from h1)
  rfl
variable {i:Nat}{x:Str}{px p2:Pos}
def KS (i:Nat):aE:=λβ R=>∃kvs m,β[i]?=some (some (.shl .one (dI (nV kvs))))/\fU (kvs.map (·.2))=some m/\R (.int m) .own β
theorem um (hc:X.calm=true) (hm:X.mg "max" = none) (hn:Nm X i x:=by exact xN) (hg:Gl X "max" := by rfl)
  (eT:Xz (.Name x px) "values" X.env (eval (.Name x px) X.env)=eval (.Name x px) X.env:=by rfl) (eS:(apos.endLine==cpos.line)=true:=by rfl)
  (hs:VE [.Call (.Attribute (.Name x px) "values" apos) [] [] cpos] X.env=(false,eval (.Call (.Attribute (.Name x px) "values" apos) [] [] cpos) X.env)::VE [] X.env:=by rfl) (hpl:(WR pos (VE [] X.env)).any (·.1)=false:=by rfl) :
  PQ X C true (.Call (.Name "max" p1) [.Call (.Attribute (.Name x px) "values" apos) [] [] cpos] [] pos) (KS i) :=
 ⟨λβ R R' k h=>by obtain⟨kvs,m,h1,h2,q⟩:=h;exact⟨kvs,m,h1,h2,k _ _ _ q⟩,
  (gV (qA hc) hg hm nH (bj (Ah (apos:=apos) (cpos:=cpos) PySem.F.plainAttrs_dict PySem.F.slot_dict_values PySem.F.type_dict_values xQ (fT (pos:=px) hn) eT eS) dz hs) (by decide) (by decide) (he:=hs) (hpl:=hpl)).pre λσ H Q hq=>by
  obtain⟨β,own,s,kvs,m,hb,T1,q⟩:=hq;obtain⟨a,o,vs,g1,g2,g3,g4,g5,_,_⟩:=s.vm hb;obtain⟨rfl,l⟩:=g4;have ES:H a=some (.dK (tN kvs)):=by rw[g3];exact congrArg _ (congrArg _ (lT g5))
  refine⟨.ref a,g1,.inr (.inr (.inl ⟨rfl,.inl ⟨_,ES⟩⟩)),a,_,rfl,rfl,ES,λv hv=>⟨v,a,kvs,m,rfl,ao,?_,T1,?_⟩⟩
  ·rw[ar (λz=>by rw[z,hv]at ES;cases ES)]
   exact ES
  ·exact q _ _ own ((Out.refl s true).same (ay.new hv)) ⟨[],⟨rfl,rfl⟩,Wg,λc hc=>(nomatch hc)⟩⟩
theorem rM {a:List Stmt}{ψ:wM}(i:Nat)(h:qG X C a ψ):qG X C a (λE β=>∃kvs,(β[i]?=some (some (.shl .one (dI (nV kvs))))\/β[i]?=some (some (.own (dI (nV kvs)))))/\∀ob,ap ψ E (β.set i (some (.val true (M4 ob kvs))))) :=
 ⟨λE E' β l q=>by obtain⟨kvs,e,q⟩:=q;exact⟨kvs,e,λob=>h.mono E E' _ l (q ob)⟩,λpins s σ H De I hw=>by
  obtain⟨Z,E,β,⟨own,sq,n⟩,⟨kvs,hb,q⟩,ok⟩:=hw;obtain⟨d,d0,β0,g1,g2,ES,s',CT,eb⟩:∃d d0 β0,σ[i]?=some (some (.ref d))/\own i=[d]/\H d=some (.dK (tN kvs))/\SQ X C.z σ H β0 own/\β0[i]?=some (some (.own d0))/\∀b,β0.set i b=β.set i b:=by
   rcases hb with hb|hb
   ·obtain⟨d,o,vs,g1,g2,g3,g4,g5,_,s'⟩:=sq.vm hb;obtain⟨rfl,l⟩:=g4;exact⟨d,_,_,g1,g2,by rw[g3];exact congrArg _ (congrArg _ (lT g5)),s',get_set (VN.mp hb).1,λb=>X3 ..⟩
   ·obtain⟨v,h1,⟨d,vs,A',rfl,h2,l,h3,h4⟩,_⟩:=sq.ow i _ hb;have eA:A'=[]:=by
     have key:∀(ks:List (Int×Int)) (vs:List V) (A:List Addr),aF X.prog X.w H ((nV ks).map (·.2)) vs A->A=[]:=λks=>by
      induction ks with
      |nil=>intro vs A h;exact h.2
      |cons p ks ih =>
       intro vs A h;obtain⟨v,r,A1,A2,_,rfl,h1,h2⟩:=h;rw[h1.2,ih _ _ h2];rfl
     exact key kvs vs A' h4
    subst eA;exact⟨d,_,β,h1,h3,by rw[h2];exact congrArg _ (congrArg _ (lT (h4.rep (W:=λ_=>False) λ_ _ z=>z))),sq,hb,λ_=>rfl⟩
  obtain⟨ob,MF⟩:∃ob,s.heap.get? d=some ob:=by
   obtain⟨_,_,_,_,o,_,_,e,_⟩:=sU I.a6 ES;exact⟨o,e⟩
  have hl:i<β0.length:=(VN.mp CT).1;have hd:d∈own i:=by rw[g2];simp
  have p1:=(s'.kZ (C:=C.z) (U:=λa=>H a=none) λa z=>z).putIn (o:=yS ob kvs) CT g1 hd (A':=[d]) (d':=M4 ob kvs) ⟨d,rfl,⟨ao,λxs z=>by cases z⟩,rfl⟩ (by simp) (λc hc=>.inl (by rw[g2];exact hc))
  have p2:=p1.freeze (get_set hl);rw[X3,eb]at p2;refine h.ps pins s σ (upd H d (yS ob kvs)) De (I.ET ES MF) ⟨Z,E,_,⟨_,p2,kg ?_⟩,q ob,ok⟩;exact kf (C:=C) n (λb z=>n.free z) ⟨i,hd⟩ ⟨_,ES,λxs z=>by cases z⟩ (λc hc=>.inl (by rw[g2];exact hc))⟩
end
abbrev NN:=Nat×Nat
section
end
def OY (ps:List NN)(p:Nat):List NN:=ps.filter λt=>!(decide (t.1=p) || decide (t.2=p))
section
variable {ps:List NN}{p:Nat}
variable (hp:∀p∈ps,p.1<p.2)
include hp
end
abbrev PN:=Nat×Nat
section
end
def M_ (t o:PN):Bool:=!mn (tI t) (tI o)&&!nD (tI t) (tI o)
section
end
section
end
section
variable {ks:List Int}{rs:List (List Int)}{g:Int}{p:Nat}
def mm (p o:Nat):NN:=(min p o,max p o)
def N3 (ks:List Int)(rs:List (List Int))(g:Int)(p:Nat):Int:=mX (OY (tK ks rs g) p) 0 ks.length
def Oi (ks:List Int)(rs:List (List Int))(g:Int)(p o:Nat):Int:=1+mX ((tK ks rs g).filter (M_ (mm p o))) 0 ks.length
def NX (g:Int)(p o:Nat):Bool:=decide (g<(((o:Int)-(p:Int)).natAbs:Int))
end
theorem Ic {α Acc:Type}{γ:cF}{τ:aP}{Af:Acc->aJ->(aJ->Acc->Prop)->Prop}{l:List α}{f:α->D}{k:Kd}{wG:aJ}{o0:Acc}{F:aJ->Acc->Prop}{ds:List D}(S:Nat->Acc->Prop)(F7:ds=l.map f)(h0:S 0 o0)
  (h:∀i x,l[i]?=some x->∀(x0:Option B) (o:Acc) (J:aJ->Acc->Prop),S i o->(∀x0 o',S (i+1) o'->J (x0::wG) o')->γ (f x) (sk k (f x)) (x0::wG) λβ1=>τ β1 λt β2=>if t=true then Af o β2 J else J β2 o)
  (q:∀x0 o,S l.length o->F (x0::wG) o) {y0:Option B}:gZ γ τ Af ds k (y0::wG) o0 F:=by
 subst F7;refine⟨λi β o=>(∃x0,β=x0::wG)/\S i o,⟨⟨_,rfl⟩,h0⟩,?_,?_⟩
 ·rintro i d β o hd ⟨⟨x0,rfl⟩,hs⟩;rw[VJ]at hd;obtain⟨x,hx,rfl⟩:=VQ.mp hd;exact h i x hx x0 o _ hs λx0 o' z=>⟨⟨_,rfl⟩,z⟩
 ·rintro β o ⟨⟨x0,rfl⟩,hs⟩;rw[Vt]at hs;exact q x0 o hs
theorem zm {α:Type}{l:List α}{i:Nat}{x y:α}(h:l[i]?=some x):y∈l.take (i+1)↔y∈l.take i\/y=x:=by
 rw[Wr,h,VL];simp
theorem take_snoc {α:Type}{l:List α}{i:Nat}{x:α}(h:l[i]?=some x):l.take (i+1)=l.take i++[x]:=by
 rw[Wr,h];rfl
def jX:FD:=λds R=>ds=[]/\∀ks fs:List Int,ks.length<=24->fs≠[]->fs.length<=24->(∀x∈ks,x∈fs)->R (.tup [.lst (ks.map D.int),.lst (fs.map D.int)])
theorem jX.mono:cm jX:=λds R R' k h=>by obtain⟨e,q⟩:=h;exact⟨e,λks fs a b c d=>k _ (q ks fs a b c d)⟩
def Q0 (fs:List Int)(ps:List (List Int)):Prop:=∀t∈ps,∀x∈t,x∈fs++[5,6,7]
def jV:FD:=λds R=>∃fs:List Int,ds=[.lst (fs.map D.int)]/\fs≠[]/\fs.length<=24/\∀ps:List (List Int),ps.length<=300->Pairs ps->Q0 fs ps->R (.lst (ps.map kD))
theorem jV.mono:cm jV:=λds R R' k h=>by obtain⟨fs,e,h1,h2,q⟩:=h;exact⟨fs,e,h1,h2,λps a b c=>k _ (q ps a b c)⟩
structure Fz (ks:List Int)(rs:List (List Int))(l:List Int):Prop where
 up:l.Pairwise (· < ·)
 mem:∀x,x∈l↔x∈ks\/∃t∈rs,x∈t
theorem Fz.uniq {ks:List Int}{rs:List (List Int)}{l m:List Int}(a:Fz ks rs l)(h1:m.Pairwise (· < ·))(h2:∀x,x∈m↔x∈ks\/∃t∈rs,x∈t):m=l :=
 List.Perm.eq_of_pairwise (le:=(·<=·)) (λx y _ _ p q=>Int.le_antisymm p q) (h1.imp Int.le_of_lt) (a.up.imp Int.le_of_lt) ((List.perm_ext_iff_of_nodup (h1.imp λz e=>by lia) (a.up.imp λz e=>by lia)).mpr λx=>(h2 x).trans (a.mem x).symm)
def insI (x:Int):List Int->List Int
 |[]=>[x]
 |y::l=>if x<y then x::y::l else if x=y then y::l else y::insI x l
theorem mO {x z:Int}:∀{l:List Int},z∈insI x l↔z=x\/z∈l
 |[]=>by simp[insI]
 |y::l=>by
  unfold insI
  split
  ·exact VB
  ·split
   ·rename_i h
    rw[VB,h];exact⟨.inr,λq=>q.elim .inl id⟩
   ·rw[VB,VB,mO];exact⟨λq=>q.elim (λe=>.inr (.inl e)) λq=>q.elim .inl λq=>.inr (.inr q),λq=>q.elim (λe=>.inr (.inl e)) λq=>q.elim .inl λq=>.inr (.inr q)⟩
theorem vj {x:Int}:∀{l:List Int},l.Pairwise (· < ·)->(insI x l).Pairwise (· < ·)
 |[],_=>List.pairwise_singleton _ _
 |y::l,h=>by
  have h':=Zf.mp h;unfold insI
  split
  ·rename_i z
   refine Zf.mpr ⟨λu hu=>?_,h⟩;rcases VB.mp hu with rfl|hu
   ·exact z
   ·have:=h'.1 u hu;lia
  ·split
   ·exact h
   ·refine Zf.mpr ⟨λu hu=>?_,vj h'.2⟩;rcases mO.mp hu with rfl|hu
    ·lia
    ·exact h'.1 u hu
theorem Fq (ks:List Int)(rs:List (List Int)):∃l,Fz ks rs l:=by
 have key:∀m:List Int,∃l:List Int,l.Pairwise (· < ·)/\∀x,x∈l↔x∈m:=λm=>by
  induction m with
  |nil=>exact⟨[],List.Pairwise.nil,λ_=>Iff.rfl⟩
  |cons y m ih =>
   obtain⟨l,h1,h2⟩:=ih;exact⟨insI y l,vj h1,λx=>by rw[mO,h2,VB]⟩
 obtain⟨l,h1,h2⟩:=key (ks++rs.flatten);exact⟨l,h1,λx=>by rw[h2,VL,List.mem_flatten]⟩
structure CF (ks:List Int)(rs:List (List Int))(g:Int)(p:Nat)(l:List Int):Prop where
 k:ks.length<=28
 r:rs.length<=300
 pr:Pairs rs
 g:0<=g
 p:p<ks.length
 all:Fz ks rs l
 qr:∃fs:List Int,fs.length<=50/\(∀x∈ks,x∈fs)/\∀t∈rs,∀x∈t,x∈fs
theorem CF.fw {ks:List Int}{rs:List (List Int)}{g:Int}{p:Nat}{l:List Int}(h:CF ks rs g p l){ns:List Int}(s:∀x∈ns,x∈ks\/∃t∈rs,x∈t):SI.qr ns:=by
 obtain⟨fs,h1,h2,h3⟩:=h.qr;exact wd (SI.BQ (ns:=fs) (by lia)) λx hx=>(s x hx).elim (h2 x) λz=>by obtain⟨t,ht,z⟩:=z;exact h3 t ht x z
theorem CF.ne {ks:List Int}{rs:List (List Int)}{g:Int}{p:Nat}{l:List Int}(h:CF ks rs g p l):l≠[]:=λz=>by
 have hp:=h.p;have:=(h.all.mem ks[p]).mpr (.inl (WC hp));rw[z]at this;cases this
def qI (ks:List Int)(rs:List (List Int))(g:Int)(p m:Nat):List (Int×Int):=(((VF ks.length).take m).filter λo=>NX g p o).map λ(o:Nat)=>((o:Int),Oi ks rs g p o)
theorem Ei {ks:List Int}{rs:List (List Int)}{g:Int}{p m:Nat}{u:Int×Int}(h:u∈qI ks rs g p m):∃o:Nat,o<ks.length/\u=((o:Int),Oi ks rs g p o):=by
 obtain⟨o,ho,rfl⟩:=V6.mp h;exact⟨o,Wl.mp (Yc (WA.mp ho).1),rfl⟩
theorem qR {f:Nat->Int}{o:Nat}:∀{l:List Nat},o∈l->qT (l.map λ(o:Nat)=>((o:Int),f o)) (o:Int)=some (f o)
 |[],h=>by cases h
 |y::l,h=>by
  unfold qT;rw[VM,Wd]
  by_cases e:y=o
  ·rw[decide_eq_true (show (y:Int)=o by lia),e];rfl
  ·rw[decide_eq_false (show ¬ (y:Int)=o by lia)]
   exact qR ((VB.mp h).resolve_left λz=>e z.symm)
theorem qS {f:Int->Int}{x:Int}:∀{l:List Int},x∈l->qT (l.map λx=>(x,f x)) x=some (f x)
 |[],h=>by cases h
 |y::l,h=>by
  unfold qT;rw[VM,Wd]
  by_cases e:y=x
  ·rw[decide_eq_true e,e];rfl
  ·rw[decide_eq_false e];exact qS ((VB.mp h).resolve_left λz=>e z.symm)
theorem pL {t:Int}:∀{l:List (Int×Int)},(∀u∈l,u.1≠t)->pM (nV l) t=none
 |[],_=>rfl
 |y::l,h=>by
  have ih:=pL (t:=t) (l:=l) λu hu=>h u (V2 _ hu);unfold pM nV at *
  rw[VM,Wd,decide_eq_false (h y V8)];exact ih
theorem Dp {t m:Int}{l:List (Int×Int)}(h:∀u∈l,u.1≠t):rE (nV l) t (.int m)=nV (l++[(t,m)]):=by
 unfold rE;rw[zg,pL h,if_neg (by decide)]
 unfold nV;rw[VI];rfl
theorem Gy {ks:List Int}{rs:List (List Int)}{g:Int}{p m:Nat}(hm:m<ks.length):∀u∈qI ks rs g p m,u.1≠(m:Int):=λu hu=>by
 obtain⟨o,ho,rfl⟩:=V6.mp hu;have h:=(WA.mp ho).1;rw[List.take_range,Nat.min_eq_left (by lia)]at h
 have:=Wl.mp h;show (o:Int)≠m;lia
theorem zk {ks:List Int}{rs:List (List Int)}{g:Int}{p m:Nat}(hm:m<ks.length):qI ks rs g p (m+1)=if NX g p m=true then qI ks rs g p m++[((m:Int),Oi ks rs g p m)] else qI ks rs g p m:=by
 unfold qI;rw[take_snoc (x:=m) (by rw[Wz hm]),XY,VI]
 split
 ·rename_i h;rw[XM,if_pos h];rfl
 ·rename_i h;rw[XM,if_neg h];simp
theorem vn {ks:List Int}{rs:List (List Int)}{g:Int}{p m:Nat}:(qI ks rs g p m).length<=ks.length:=by
 unfold qI;rw[Vt];refine Wc (Wx _ _) ?_;rw[V7,V9];lia
end L2.Q
namespace lY
open PySem L2 L2.Q
section
variable {P:Vz}{w:VG}{K:PySem.W.Frag}{mg:Str->Option Vv}{base:Heap}
theorem bZ:aC ["pot","many","names","unlike","few","kinds"] ["pot"] (aj fq):=mkS
theorem AJ {EZ wj} (J9:D0 K mg EZ wj) {Jh uQ} (dT:D1 K mg Jh uQ) (B:wX mg):aB P w K mg base bE 2 EZ wj ["pot"] (kc P w nU false jX):=by
 have GT:aB P w K mg base bE 1 _ _ _ (kc P w nU true bU):=lP dT.F;refine HN J9.F bZ (λds R MB=> by obtain⟨e,_⟩ := MB;subst e;rfl) λbB A outer s H E IO hr=>⟨_,(ak (bg (i:=1) (aW (ih:=0) bU.mono GT (hr.mono (by decide)) dT.m dT.F.kp dT.b (aa (aM ag bA (a8 (aa ah (aa ah af))) (aW (ih:=0) bU.mono GT (hr.mono (by decide)) dT.m dT.F.kp dT.b (aa ah af))) af)) bZ.nd)
    (ak (dH (i:=2) (λ_=>(a8 (aa ah (aa ah (aa (mD fZ ah) (aa ah (aa (aK ag (cy.m bx) (aK ag (cy.m jC) ah ah) ah) (aa (aK ag (cy.m bx) ah (aK ag (cy.m jC) ah ah)) (aa (aW (ih:=0) bU.mono GT (hr.mono (by decide)) dT.m dT.F.kp dT.b (aa (aK ag (cy.m jC) ah ah) af)) af))))))))) bZ.nd)
    (ak (bg (i:=3) (aK aT aH ah (aW (ih:=0) bU.mono GT (hr.mono (by decide)) dT.m dT.F.kp dT.b (aa (aM ag bA (a8 (aa ah (aa ah af))) (ku ag (bO.m yy) B.int JF (aa (pZ ag (cy.m (gc hr.units)) (aW (ih:=0) bU.mono GT (hr.mono (by decide)) dT.m dT.F.kp dT.b (aa ah af)) ah) af))) af))) bZ.nd)
    (ib (dw (aS ag (cy.m qd) (ae (i:=3)) ah) (au (dH (i:=2) (λ_=>(aK aT aH (ae (i:=2)) (pY rfl B.list B.range (aa ah (aa ah af))))) bZ.nd)) bw)
    (ak (bg (i:=4) (To ["k","names","pot"] [none,some 2,some 0] (by rfl) (by decide:(["k","names","pot"]:List Str).Nodup) rfl (b6 B.range (aa (ae (i:=3)) af)) (λ_ _ _ _ _ _=>(aA (i:=0) (by decide:(["k","names","pot"]:List Str).Nodup))) (λ_ _ _ _ _ _=>eK) (λ_ _ _ _ _ _=>(zV (i:=1) (aW (ih:=2) bU.mono GT (hr.mono (by decide)) dT.m dT.F.kp dT.b (aa (aX ag (bO.m bf) B.len di (aa (ae (i:=1)) af)) af))))) bZ.nd)
    (ak (zz (i:=5) false ["point","few","pot"] [none,some 4,some 0] (by rfl) (by decide:(["point","few","pot"]:List Str).Nodup) rfl (λ_=>(b6 B.range (aa (ae (i:=1)) af))) (λ_ _ _ _ _ _=>(aA (i:=0) (by decide:(["point","few","pot"]:List Str).Nodup))) (λ_ _ _ _ _ _=>eK) (λ_ _ _ _ _ _=>(aM ag bA (ae (i:=1)) (aW (ih:=2) bU.mono GT (hr.mono (by decide)) dT.m dT.F.kp dT.b (aa (aX ag (bO.m bf) B.len di (aa (ae (i:=1)) af)) af)))) bZ.nd)
    (au (a5 (bH (aa (ae (i:=5)) (aa (ae (i:=4)) af))))))))))),λds R h=>?_⟩
 obtain⟨rfl,q⟩:=h;refine⟨rfl,trivial,trivial,jt,trivial,rfl,trivial,rfl,trivial,2,rfl,by lia,by lia,λr r0 r1=>pick r0 (by simpa using r1) λd hd=>?_⟩
 obtain⟨m,rfl,m0,m1⟩:∃m:Int,d=.int m/\0<m/\m<=25:=by
  simp only[VB,W7,or_false]at hd;rcases hd with rfl|rfl
  ·exact⟨9,rfl,by lia,by lia⟩
  ·exact⟨25,rfl,by lia,by lia⟩
 refine⟨trivial,rfl,trivial,m,rfl,m0,by lia,λn n0 n1=>?_⟩
 refine⟨trivial,trivial,_,rfl,rfl,trivial,trivial,trivial,_,uV,trivial,_,rfl,trivial,trivial,trivial,_,uV,_,rfl,trivial,?_⟩;refine⟨rfl,trivial,_,uV,trivial,rfl,trivial,10 ^ 30,rfl,by decide,by decide,λx x0 x1=>⟨trivial,dv (by show 7<=1000;decide),trivial,?_⟩⟩
 refine⟨trivial,rfl,trivial,trivial,jt,trivial,rfl,trivial,rfl,trivial,4,rfl,by lia,by lia,λr r0 r1=>⟨trivial,_,b7 _ _,trivial,_,rfl,?_⟩⟩
 obtain⟨u,eu,u0,u1⟩:∃u:Int,yW (.lst [.int 6,.int 24]) (.int (if decide (r=3)=true then 1 else 0))=some (.int u)/\0<u/\u<=24:=by
  by_cases h:r=3
  ·rw[if_pos (decide_eq_true h)];exact⟨24,rfl,by lia,by lia⟩
  ·rw[if_neg (by rw[decide_eq_false h];exact Yq)];exact⟨6,rfl,by lia,by lia⟩
 refine⟨_,eu,trivial,rfl,trivial,u,rfl,u0,by lia,λv v0 v1=>⟨_,rfl,?_⟩⟩
 refine⟨λβ=>∃ns:List Int,β=[some (.hand nU),some (.val true (.int n)),some (.own (.lst (ns.map D.int))),some (.val true (.int (1+v))),none,none]/\1+v<=ns.length/\ns.length<=24,?_,?_⟩
 ·refine⟨_,rfl,trivial,_,rfl,_,rfl,tO (λh=>?_) (λh=>⟨[0,1,-1,7,10 ^ 30-1,1-10 ^ 30,x],rfl,by show 1+v<=7;lia,by show 7<=24;decide⟩)⟩
  refine⟨_,rfl,trivial,trivial,trivial,50,67,rfl,⟨by decide,by decide,by decide,by decide⟩,by decide,?_⟩
  have ea:Fe (.lst ([0,1,-1,7,10 ^ 30-1,1-10 ^ 30,x].map D.int)) (.lst (my 50 (67-50:Int).toNat))=some (.lst (([0,1,-1,7,10 ^ 30-1,1-10 ^ 30,x]++(VF 17).map λk:Nat=>50+(k:Int)).map D.int)):=by
   rw[VI,WO];exact eV (by show 7+17<=1000000;decide)
  exact⟨_,ea,.inl ⟨iq (f:=id),trivial,_,rfl,by show 1+v<=24;lia,by show 24<=24;decide⟩⟩
 rintro β ⟨ns,rfl,hv,hl⟩;refine⟨_,rfl,trivial,1+v,rfl,by lia,by lia,trivial,?_⟩
 refine⟨λi β o=>i<=(1+v).toNat/\∃(ms fs:List Int) (y0:Option Q.B),β=[y0,some (.own (.lst (ms.map D.int))),some (.hand nU)]/\ms.length=ns.length-i/\o=fs.map D.int/\fs.length=i,⟨VX _,ns,[],_,rfl,rfl,rfl,rfl⟩,?_,?_⟩
 ·rintro i d β o hd ⟨_,ms,fs,y0,rfl,h1,rfl,h2⟩;obtain⟨hi,rfl⟩:=eP hd;refine⟨⟨_,rfl⟩,rfl,_,rfl,trivial,_,rfl,trivial,rfl,trivial,_,rfl,by rw[Vt];lia,by rw[Vt];lia,λr r0 r1=>?_⟩
  rw[Vt]at r1;obtain⟨k,rfl⟩:∃k:Nat,r=k:=⟨r.toNat,by lia⟩
  have hk:k<ms.length:=by lia
  refine⟨ms.map D.int,k,k,.int ms[k],rfl,rfl,by lia,by lia,by rw[Vt];exact Iv rfl hk,by rw[VJ,VC hk];rfl,?_⟩
  have ee:(ms.map D.int).eraseIdx k=(ms.eraseIdx k).map D.int:=(jF ms k).symm;refine⟨trivial,by rw[Vt,WD];lia,hi,ms.eraseIdx k,fs++[ms[k]],_,by rw[<- ee];rfl,by rw[List.length_eraseIdx,if_pos hk];lia,by rw[q_],by rw[VV,h2];rfl⟩
 ·rintro β o ⟨_,ms,fs,y0,rfl,h1,rfl,h2⟩;rw[fS]at h2;refine⟨⟨⟨_,rfl⟩,rfl,trivial⟩,?_⟩;refine⟨_,rfl,trivial,n,rfl,by lia,by lia,trivial,?_⟩
  refine⟨λi β o=>i<=n.toNat/\∃(ks:List Int) (y0:Option Q.B),β=[y0,some (.val true (.lst (fs.map D.int))),some (.hand nU)]/\o=ks.map D.int/\ks.length=i/\∀x∈ks,x∈fs,⟨VX _,[],_,rfl,rfl,rfl,λ_ z=>(nomatch z)⟩,?_,?_⟩
  ·rintro i d β o hd ⟨_,ks,y0,rfl,rfl,h3,hs⟩;obtain⟨hi,rfl⟩:=eP hd;refine⟨_,rfl,trivial,rfl,_,rfl,trivial,_,rfl,trivial,rfl,trivial,_,rfl,by rw[Vt];lia,by rw[Vt];lia,λr r0 r1=>?_⟩
   rw[Vt]at r1;obtain⟨k,rfl⟩:∃k:Nat,r=k:=⟨r.toNat,by lia⟩
   have hk:k<fs.length:=by lia
   refine⟨.int fs[k],la (i:=k) rfl (by rw[VJ,VC hk];rfl),trivial,by rw[Vt,WD];lia,hi,ks++[fs[k]],_,rfl,by rw[q_],by rw[VV,h3];rfl,λx hx=>(VL.mp hx).elim (hs x) λz=>by rw[VD.mp z];exact WC hk⟩
  ·rintro β o ⟨_,ks,y0,rfl,rfl,h3,hs⟩;rw[fS]at h3;have hf:fs≠[]:=λz=>by rw[z]at h2;simp at h2;lia
   exact⟨⟨rfl,trivial⟩,_,rfl,trivial,_,rfl,trivial,jt,.inr ⟨trivial,rfl,q ks fs (by lia) hf (by lia) hs⟩⟩
theorem cZ:aC ["pot","few","found","k","pair"] ["pot","few"] (aj fo):=mkS
theorem AE {EY wg} (J8:D2 K mg EY wg) {Jh uQ} (dT:D1 K mg Jh uQ) (B:wX mg):aB P w K mg base bE 2 EY wg ["pot","few"] (kc P w nU true jV):=by
 have GT:aB P w K mg base bE 1 _ _ _ (kc P w nU true bU):=lP dT.F;refine HN J8.F cZ (λds R MA=> by obtain⟨fs,e,_⟩ := MA;subst e;rfl) λbB A outer s H E IO hr=>⟨_,(ak (dH (i:=2) (λ_=>(a8 af)) cZ.nd)
    (ak (gW WV rfl (b6 B.range (aa (aW (ih:=0) bU.mono GT (hr.mono (by decide)) dT.m dT.F.kp dT.b (aa (aM ag bA (a8 (aa ah (aa ah (aa ah (aa ah af))))) (aW (ih:=0) bU.mono GT (hr.mono (by decide)) dT.m dT.F.kp dT.b (aa ah af))) af)) af)) (aA (i:=3) cZ.nd) (ak (bg (i:=4) (bH (aa (aM ag bA (ae (i:=1)) (aW (ih:=0) bU.mono GT (hr.mono (by decide)) dT.m dT.F.kp dT.b (aa (aX ag (bO.m bf) B.len di (aa (ae (i:=1)) af)) af))) (aa (aM ag bA (ae (i:=1)) (aW (ih:=0) bU.mono GT (hr.mono (by decide)) dT.m dT.F.kp dT.b (aa (aX ag (bO.m bf) B.len di (aa (ae (i:=1)) af)) af))) af))) cZ.nd)
    (ib (dw (aS ag (cy.m (gc hr.units)) (aW (ih:=0) bU.mono GT (hr.mono (by decide)) dT.m dT.F.kp dT.b (aa ah af)) ah) (au (bg (i:=4) (bH (aa (aM ag bA (ae (i:=4)) ah) (aa (aK aT aH ah (aW (ih:=0) bU.mono GT (hr.mono (by decide)) dT.m dT.F.kp dT.b (aa ah af))) af))) cZ.nd)) bw)
    (ak (ic (i:=2) (λ_=>(ae (i:=4))))
    (au (dw (aS ag (cy.m (gc hr.units)) (aW (ih:=0) bU.mono GT (hr.mono (by decide)) dT.m dT.F.kp dT.b (aa ah af)) ah) (au (ic (i:=2) (λ_=>(Hc (ae (i:=4)))))) bw))))))
    (au (gb (i:=2))))),λds R h=>?_⟩
 obtain⟨fs,rfl,hf,hl,q⟩:=h;have fl:0<fs.length:=List.length_pos_iff.mpr hf;refine⟨VX _,trivial,?_⟩;refine⟨rfl,trivial,trivial,trivial,trivial,dv (by show 4<=1000;decide),trivial,rfl,trivial,rfl,trivial,4,rfl,by lia,by lia,λr r0 r1=>pick r0 (by simpa using r1) λd hd=>?_⟩
 obtain⟨m,rfl,m0,m1⟩:∃m:Int,d=.int m/\0<m/\m<=150:=by
  simp only[VB,W7,or_false]at hd;rcases hd with rfl|rfl|rfl|rfl
  ·exact⟨3,rfl,by lia,by lia⟩
  ·exact⟨8,rfl,by lia,by lia⟩
  ·exact⟨41,rfl,by lia,by lia⟩
  ·exact⟨150,rfl,by lia,by lia⟩
 refine⟨trivial,rfl,trivial,m,rfl,m0,by lia,λc c0 c1=>⟨trivial,c,rfl,by lia,by lia,trivial,?_⟩⟩
 refine⟨λi β=>i<=c.toNat/\∃(ps:List (List Int)) (y3 y4:Option Q.B),β=[some (.hand nU),some (.val false (.lst (fs.map D.int))),some (.own (.lst (ps.map kD))),y3,y4]/\ps.length<=2*i/\Pairs ps/\Q0 fs ps,⟨VX _,[],_,_,rfl,VX _,λ_ z=>(nomatch z),λ_ z=>(nomatch z)⟩,?_,?_⟩
 ·rintro i d β hd ⟨_,ps,y3,y4,rfl,h1,h2,h9⟩;obtain⟨hi,rfl⟩:=eP hd;refine⟨_,rfl,trivial,rfl,_,rfl,trivial,_,rfl,trivial,rfl,trivial,_,rfl,by rw[Vt];lia,by rw[Vt];lia,λr r0 r1=>?_⟩
  rw[Vt]at r1;obtain⟨k,rfl⟩:∃k:Nat,r=k:=⟨r.toNat,by lia⟩
  have hk:k<fs.length:=by lia
  refine⟨.int fs[k],la (i:=k) rfl (by rw[VJ,VC hk];rfl),trivial,?_⟩
  refine⟨_,rfl,trivial,rfl,_,rfl,trivial,_,rfl,trivial,rfl,trivial,_,rfl,by rw[Vt];lia,by rw[Vt];lia,λr r0 r1=>?_⟩
  rw[Vt]at r1;obtain⟨k',rfl⟩:∃k:Nat,r=k:=⟨r.toNat,by lia⟩
  have EK:k'<fs.length:=by lia
  refine⟨.int fs[k'],la (i:=k') rfl (by rw[VJ,VC EK];rfl),trivial,jt,?_⟩
  refine⟨λβ=>∃(a b:Int) (y3:Option Q.B),β=[some (.hand nU),some (.val false (.lst (fs.map D.int))),some (.own (.lst (ps.map kD))),y3,some (.val true (kD [a,b]))]/\a∈fs++[5,6,7]/\b∈fs++[5,6,7],?_,?_⟩
  ·refine⟨rfl,trivial,rfl,trivial,8,rfl,by lia,by lia,λr r0 r1=>⟨trivial,_,b7 _ _,_,rfl,tO (λ_=>?_) (λ_=>⟨_,_,_,rfl,V3 _ (WC hk),V3 _ (WC EK)⟩)⟩⟩
   exact⟨_,rfl,trivial,_,rfl,trivial,trivial,rfl,trivial,rfl,trivial,3,rfl,by lia,by lia,λr r0 r1=>⟨_,rfl,trivial,jt,_,_,_,rfl,V3 _ (WC hk),VY _ (by simp only[VB,W7,or_false];lia)⟩⟩
  ·rintro β ⟨a,b,y3,rfl,ha,hb⟩;refine⟨⟨_,rfl⟩,_,rfl,rfl,ps.map kD,rfl,by rw[Vt,WD];lia,?_⟩
   have uL:∀x∈[a,b],x∈fs++[5,6,7]:=λx hx=>by
    rcases VB.mp hx with rfl|hx
    ·exact ha
    ·rw[VD.mp hx];exact hb
   have RU:Q0 fs (ps++[[a,b]]):=λu hu x hx=>by
    rcases VL.mp hu with z|z
    ·exact h9 u z x hx
    ·rw[VD.mp z]at hx;exact uL x hx
   have MC:Pairs (ps++[[a,b]]):=λu hu=>by
    rcases VL.mp hu with z|z
    ·exact h2 u z
    ·rw[VD.mp z];exact⟨_,_,rfl⟩
   refine⟨rfl,trivial,rfl,trivial,4,rfl,by lia,by lia,λr r0 r1=>⟨trivial,_,b7 _ _,_,rfl,tO (λ_=>?_) (λ_=>⟨hi,ps++[[a,b]],_,_,by rw[pP];rfl,by rw[VV];show ps.length+1<=_;lia,MC,RU⟩)⟩⟩
   refine⟨⟨_,rfl⟩,_,rfl,kD [b,a],rfl,rfl,ps.map kD++[kD [a,b]],rfl,by rw[VV,Vt,WD];show ps.length+1<_;lia,hi,ps++[[a,b]]++[[b,a]],_,_,by rw[pP,pP];rfl,by rw[VV,VV];show ps.length+1+1<=_;lia,λu hu=>?_,λu hu x hx=>?_⟩
   ·rcases VL.mp hu with z|z
    ·exact MC u z
    ·rw[VD.mp z];exact⟨_,_,rfl⟩
   ·rcases VL.mp hu with z|z
    ·exact RU u z x hx
    ·rw[VD.mp z]at hx;refine uL x ?_;rcases VB.mp hx with rfl|hx
     ·simp
     ·rw[VD.mp hx];simp
 ·rintro β ⟨_,ps,y3,y4,rfl,h1,h2,h9⟩;rw[fS]at h1;exact⟨_,rfl,rfl,q ps (by lia) h2 h9⟩
theorem uc:aC ["pot"] ["pot"] (aj h7):=mkS
theorem HL {E4 wm} (J_:D3 K mg E4 wm) {Jh uQ} (dT:D1 K mg Jh uQ) (B:wX mg):aB P w K mg base bE 2 E4 wm ["pot"] (kc P w nU true BW):=by
 have GT:aB P w K mg base bE 1 _ _ _ (kc P w nU true bU):=lP dT.F;refine HN J_.F uc (λds R Mz=> by obtain⟨e,_⟩ := Mz;subst e;rfl) λbB A outer s H E IO hr=>⟨_,(au (a5 (aM ag bA (a8 (aa ah (aa ah (aa ah (aa (aW (ih:=0) bU.mono GT (hr.mono (by decide)) dT.m dT.F.kp dT.b (aa ah af)) (aa (aW (ih:=0) bU.mono GT (hr.mono (by decide)) dT.m dT.F.kp dT.b (aa (aK ag (cy.m jC) ah ah) af)) (aa ah af))))))) (aW (ih:=0) bU.mono GT (hr.mono (by decide)) dT.m dT.F.kp dT.b (aa ah af))))),λds R h=>?_⟩
 obtain⟨rfl,q⟩:=h;refine⟨trivial,trivial,trivial,rfl,trivial,rfl,trivial,26,rfl,by lia,by lia,λx x0 x1=>⟨trivial,?_⟩⟩
 refine⟨rfl,trivial,_,B8,trivial,rfl,trivial,10 ^ 29,rfl,by decide,by decide,λy y0 y1=>⟨trivial,trivial,dv (by show 6<=1000;decide),trivial,?_⟩⟩
 refine⟨rfl,trivial,rfl,trivial,6,rfl,by lia,by lia,λr r0 r1=>pick r0 (by simpa using r1) λd hd=>?_⟩
 obtain⟨g,rfl,g0⟩:∃g:Int,d=.int g/\0<=g:=by
  simp only[VB,W7,or_false]at hd;rcases hd with rfl|rfl|rfl|rfl|rfl|rfl
  ·exact⟨0,rfl,by lia⟩
  ·exact⟨1,rfl,by lia⟩
  ·exact⟨2,rfl,by lia⟩
  ·exact⟨x,rfl,x0⟩
  ·exact⟨y,rfl,y0⟩
  ·exact⟨3,rfl,by lia⟩
 exact⟨trivial,rfl,q g g0⟩
end
section
variable {P:Vz}{w:VG}{K:PySem.W.Frag}{mg:Str->Option Vv}{base:Heap}
theorem jw:aC ["gap"] ["gap"] (aj dO):=mkS
theorem vR {dW cb} (fj:D4 K mg dW cb):aB P w K mg base bE 1 dW cb ["gap"] (cB P w true nr):=by
 refine k_ fj.F jw (λds R My=> by obtain⟨g,e,_⟩ := My;subst e;rfl) λbB A outer s H E hr=>⟨_,(au (dw (aS ag (cy.m cQ) (ae (i:=0)) ah) dy bw)),λds R h=>?_⟩
 obtain⟨g,rfl,g0,q⟩:=h;exact⟨_,rfl,trivial,_,rfl,_,rfl,jI (decide_eq_false (by lia)) q⟩
theorem bP:aC ["pairs","fits","one","other"] ["pairs"] (aj b5):=mkS
theorem FR {fh cI} (iJ:D5 K mg fh cI):aB P w K mg base bE 1 fh cI ["pairs"] (cB P w true Ji):=by
 refine k_ iJ.F bP (λds R Mw=> by obtain⟨ps,e,_⟩ := Mw;subst e;rfl) λbB A outer s H E hr=>⟨_,(ak (dH (i:=1) (λ_=>(Dv true)) bP.nd)
    (ak (gW WV rfl (b_ (ae (i:=0))) (ez (n:=2) rfl (aQ (aA (i:=2) bP.nd) (aQ (aA (i:=3) bP.nd) c_))) (ak (vL (i:=1) hr.fD (bH (aa (ae (i:=2)) (aa (ae (i:=3)) af))))
    (au (vL (i:=1) hr.fD (bH (aa (ae (i:=3)) (aa (ae (i:=2)) af)))))))
    (au (gb (i:=1))))),λds R h=>?_⟩
 obtain⟨ps,rfl,hl,hp,q⟩:=h;refine⟨trivial,_,rfl,_,rfl,trivial,?_⟩;refine⟨λi β=>i<=ps.length/\∃y2 y3:Option Q.B,β=[some (.val false (.lst (ps.map kD))),some (.own (dP (eW (ps.take i)) true)),y2,y3],⟨VX _,_,_,rfl⟩,?_,?_⟩
 ·rintro i d β hd ⟨_,y2,y3,rfl⟩;rw[VJ]at hd;obtain⟨t,et,rfl⟩:=VQ.mp hd;have hi:i<ps.length:=(VN.mp et).1;obtain⟨a,b,rfl⟩:=hp t (Wt et);have l1:=B4 (ps:=ps.take i) (acc:=[]);rw[V7]at l1;have l2:=nK (ts:=eW (ps.take i)) (t:=[a,b]);have e2:eW (ps.take (i+1))=j6 (j6 (eW (ps.take i)) [a,b]) [b,a]:=by
   rw[Wr,et];exact E6
  refine⟨_,rfl,rfl,_,_,rfl,_,_,rfl,rfl,?_⟩;refine⟨⟨_,rfl⟩,_,rfl,trivial,_,rfl,trivial,jt,_,[a,b],rfl,rfl,Xr (show (eW (ps.take i)).length<=1000 by unfold eW;simp at l1;lia) (by decide),?_⟩
  exact⟨⟨_,rfl⟩,_,rfl,trivial,_,rfl,trivial,jt,_,[b,a],rfl,rfl,Xr (show (j6 (eW (ps.take i)) [a,b]).length<=1000 by unfold eW at *;simp at l1;lia) (by decide),hi,_,_,by rw[e2];rfl⟩
 ·rintro β ⟨_,y2,y3,rfl⟩;rw[Vt,Xm];exact⟨_,rfl,q⟩
theorem b8:aC ["kinds","pairs","gap","fits","many","ties"] ["kinds","pairs","gap"] (aj cn):=mkS
theorem uv {fc cM} (fY:D6 K mg fc cM) {dW cb} (fj:D4 K mg dW cb) {fh cI} (iJ:D5 K mg fh cI) (B:wX mg):aB P w K mg base bE 2 fc cM ["kinds","pairs","gap"] (cB P w true jU):=by
 have Fy:aB P w K mg base bE 1 _ _ _ (cB P w true nr):=vR fj;have Rf:aB P w K mg base bE 1 _ _ _ (cB P w true Ji):=FR iJ;refine k_ fY.F b8 (λds R Mv=> by obtain⟨ks,ps,g,e,_⟩ := Mv;subst e;rfl) λbB A outer s H E hr=>⟨_,(ak (lN (aG nr.mono Fy (hr.mono (by decide)) fj.m fj.F.kp fj.b (aa (ae (i:=2)) af)))
    (ak (bg (i:=3) (aG Ji.mono Rf (hr.mono (by decide)) iJ.m iJ.F.kp iJ.b (aa (ae (i:=1)) af)) b8.nd)
    (ak (bg (i:=4) (aX ag (bO.m bf) B.len di (aa (ae (i:=0)) af)) b8.nd)
    (ak (OJ (i:=5) true ["a","b","gap","fits","kinds","many"] [none,none,some 2,some 3,some 0,some 4] (by rfl) (by decide:(["a","b","gap","fits","kinds","many"]:List Str).Nodup) rfl (λ_=>(b6 B.range (aa (ae (i:=4)) af))) (λ_ _ _ _ _ _=>(aA (i:=0) (by decide:(["a","b","gap","fits","kinds","many"]:List Str).Nodup))) (λ_ _ _ _ _ _=>eK) (λ_ _ _ _ _ _=>(mC B.range (aa (aK aT aH (ae (i:=0)) ah) (aa (ae (i:=5)) af)))) (λ_ _ _ _ _ _=>(aA (i:=1) (by decide:(["a","b","gap","fits","kinds","many"]:List Str).Nodup))) (λ_ _ _ _ _ _=>(gO (Fu.t (lM (aS ag (cy.m qd) (aK ag (cy.m bx) (ae (i:=1)) (ae (i:=0))) (ae (i:=2))) (jz (aS ag (cy.m (vO hr.fD)) (bH (aa (aM ag bA (ae (i:=4)) (ae (i:=0))) (aa (aM ag bA (ae (i:=4)) (ae (i:=1))) af))) (ae (i:=3)))))))) (λ_ _ _ _ _ _=>(bH (aa (ae (i:=0)) (aa (ae (i:=1)) af)))) b8.nd)
    (au (DF (i:=5) (ae (i:=4)))))))),λds R h=>?_⟩
 obtain⟨ks,ps,g,rfl,hk,hl,hp,g0,q⟩:=h;refine⟨_,rfl,trivial,g,rfl,g0,_,rfl,trivial,ps,rfl,hl,hp,_,rfl,trivial,_,rfl,?_⟩;refine⟨_,rfl,trivial,_,rfl,by rw[Vt];lia,by rw[Vt];lia,trivial,?_⟩
 rw[Vt,X5];refine⟨λa β o=>a<=ks.length/\(∃y0 y1:Option Q.B,β=[y0,y1,some (.val false (.int g)),some (.val true (dP (eW ps) true)),some (.val false (.lst (ks.map D.int))),some (.val true (.int ks.length))])/\o=(((VF ks.length).take a).flatMap (iA ks.length (FT ks ps g))).map λp=>kD (tI p),⟨VX _,⟨_,_,rfl⟩,rfl⟩,?_,?_⟩
 ·rintro a d β o hd ⟨_,⟨y0,y1,rfl⟩,rfl⟩;obtain⟨ha,rfl⟩:=eP hd;rw[Int.zero_add];refine⟨_,rfl,trivial,_,rfl,trivial,_,rfl,trivial,(a:Int)+1,(ks.length:Int),rfl,⟨by lia,by lia,by lia,by lia⟩,?_⟩
  rw[show ((ks.length:Int)-((a:Int)+1)).toNat=ks.length-(a+1) by lia]
  refine⟨λb β o=>b<=ks.length-(a+1)/\(∃y1:Option Q.B,β=[some (.val true (.int (a:Int))),y1,some (.val false (.int g)),some (.val true (dP (eW ps) true)),some (.val false (.lst (ks.map D.int))),some (.val true (.int ks.length))])/\o=(pK ks.length (FT ks ps g) a b).map λp=>kD (tI p),⟨VX _,⟨_,rfl⟩,by rw[DH]⟩,?_,?_⟩
  ·rintro b d β o hd ⟨_,⟨y1,rfl⟩,rfl⟩;obtain⟨hb,rfl⟩:=eP hd;have eb:(a:Int)+1+(b:Int)=((a+1+b:Nat):Int):=by lia
   rw[eb];refine⟨_,rfl,trivial,_,rfl,_,rfl,trivial,_,rfl,_,rfl,_,rfl,tO (λh1=>?_) (λh1=>jI rfl ⟨hb,⟨_,rfl⟩,by rw[FO hb (by unfold FT;rw[decide_eq_false (by lia)];rfl)]⟩)⟩
   refine⟨_,rfl,trivial,_,rfl,_,Iw rfl ha,trivial,_,rfl,trivial,_,rfl,_,Iw rfl (by lia),trivial,jt,trivial,_,rfl,_,Cc (t:=[ks.getD a 0,ks.getD (a+1+b) 0]),_,rfl,?_⟩
   rw[Jf];refine Pk (λh2=>?_) (λh2=>⟨hb,⟨_,rfl⟩,by rw[FO hb (by unfold FT;rw[h2,Bool.and_false])]⟩)
   refine⟨_,rfl,trivial,_,rfl,trivial,jt,trivial,by rw[Vt];exact Xr (DI hk ha hb) (by decide),hb,⟨_,rfl⟩,?_⟩
   rw[Ho hb (by unfold FT;rw[h2,decide_eq_true (by lia)];rfl),C6]
   rfl
  ·rintro β o ⟨_,⟨y1,rfl⟩,rfl⟩;exact⟨ha,⟨_,_,rfl⟩,by rw[fS,Hr ha]⟩
 ·rintro β o ⟨_,⟨y0,y1,rfl⟩,rfl⟩;rw[fS,Aq];exact⟨trivial,_,rfl,rfl,_,rfl,q⟩
end
end lY
namespace L2.Q
open PySem PySem.Spec PySem.SeqAt PyProof.Rows
section
variable {ps:List PN}
theorem BN {n:Nat}(ok:va n ps)(c:PN->Bool):va n (ps.filter c):=⟨λp h=>ok.lt p (WA.mp h).1,ok.nd.sublist List.filter_sublist,ok.le,Wc (Wx _ _) ok.sm⟩
end
structure Gp (mg:Str->Option Vv):Prop extends Bs4 mg where
 abs:mg "abs" = none
theorem BM {γ:cF}{ψ:wM}{E:cz}{ds:List D}{k:Kd}{β:aJ}(I:Nat->aJ->Prop)(h0:I 0 β)(h1:∀E':cz,(∀d β,E.rt d β->E'.rt d β)->∀i:Nat,(∀β,I (i+1) β->E'.nx β)->∀d β,ds[i]?=some d->I i β->γ d (sk k d) β λβ1=>ψ E' β1)
  (h2:∀β,I ds.length β->E.nx β):BL γ ψ E ds k β:=⟨I,h0,λi d β e q=>h1 (E.lp (I (i+1))) (λ_ _ q=>q) i (λ_ q=>q) d β e q,h2⟩
theorem Sv {E:cz}{ψ:wM}{E':cz}{β:aJ}(h:ψ E' β):(E.up (ap ψ E')).nx β:=h
theorem Gq {τ:aP}{ψ:wM}{E:cz}{β:aJ}(V:Nat->aJ->Prop)(h0:∃m,V m β)
  (h1:∀(E':cz) (Q:aJ->Prop),(∀β,E.nx β->Q β)->∀m,(∀m' β,m'<m->V m' β->E'.nx β)->∀β,V m β->τ β λt β1=>if t=true then ψ E' β1 else Q β1):ze τ ψ E β :=
 ⟨V,h0,λm β v=>h1 {nx:=λβ'=>∃m',m'<m/\V m' β',rt:=E.rt,bk:=E.nx,ct:=λβ'=>∃m',m'<m/\V m' β'} E.nx (λ_ q=>q) m (λm' _ l v=>⟨m',l,v⟩) β v⟩
end L2.Q
namespace lY
open PySem L2 L2.Q
section
variable {P:Vz}{w:VG}{K:PySem.W.Frag}{mg:Str->Option Vv}{base:Heap}
theorem iz:aC ["many"] ["many"] (aj b4):=mkS
theorem DP {cV bC} (gI:D7 K mg cV bC) (B:Bs3 mg):aB P w K mg base bE 1 cV bC ["many"] (cB P w true BR):=by
 refine k_ gI.F iz (λds R Mu=> by obtain⟨n,e,_⟩ := Mu;subst e;rfl) λbB A outer s H E hr=>⟨_,(au (a5 (Tp ["i","j","many"] [none,none,some 0] (by rfl) (by decide:(["i","j","many"]:List Str).Nodup) rfl (uj B.range (aa (aK ag (cy.m bx) (ae (i:=0)) ah) (aa (mD fZ ah) (aa (mD fZ ah) af)))) (λ_ _ _ _ _ _=>(aA (i:=0) (by decide:(["i","j","many"]:List Str).Nodup))) (λ_ _ _ _ _ _=>eK) (λ_ _ _ _ _ _=>(mC B.range (aa (aK aT aH (ae (i:=0)) ah) (aa (aK aT aH (ae (i:=2)) ah) af)))) (λ_ _ _ _ _ _=>(aA (i:=1) (by decide:(["i","j","many"]:List Str).Nodup))) (λ_ _ _ _ _ _=>eK) (λ_ _ _ _ _ _=>(bH (aa (ae (i:=0)) (aa (ae (i:=1)) af))))))),λds R h=>?_⟩
 obtain⟨n,rfl,hn,q⟩:=h;refine⟨_,rfl,trivial,_,rfl,trivial,_,rfl,rfl,trivial,_,rfl,rfl,trivial,(n:Int)-1,-1,rfl,⟨by lia,by lia,by lia,by lia⟩,trivial,?_⟩
 have en:((n:Int)-1 - -1).toNat=n:=by lia
 rw[en];refine⟨λa β o=>a<=n/\(∃x0 x1,β=[x0,x1,some (.val false (.int n))])/\o=(((VF n).take a).flatMap (e_ n)).map yJ,⟨VX _,⟨_,_,rfl⟩,rfl⟩,?_,?_⟩
 ·rintro a d β o hd ⟨ha,⟨x0,x1,rfl⟩,rfl⟩;obtain⟨NV,rfl⟩:=rp hd;have e1:(n:Int)-1-a=((n-1-a:Nat):Int):=by lia
  rw[e1];refine⟨_,rfl,trivial,_,rfl,trivial,_,rfl,trivial,_,rfl,trivial,((n-1-a:Nat):Int)+1,(n:Int)+1,rfl,⟨by lia,by lia,by lia,by lia⟩,?_⟩
  have e2:((n:Int)+1-(((n-1-a:Nat):Int)+1)).toNat=a+1:=by lia
  rw[e2];refine⟨λb β o=>b<=a+1/\(∃x1,β=[some (.val true (.int ((n-1-a:Nat):Int))),x1,some (.val false (.int n))])/\o=(((VF n).take a).flatMap (e_ n)++(e_ n a).take b).map yJ,⟨VX _,⟨_,rfl⟩,by simp⟩,?_,?_⟩
  ·rintro b d β o hd ⟨hb,⟨x1,rfl⟩,rfl⟩;obtain⟨tP,rfl⟩:=eP hd;refine⟨_,rfl,trivial,_,rfl,trivial,jt,trivial,?_,tP,⟨_,rfl⟩,?_⟩
   ·rw[Vt,VV];exact zp hn NV tP
   ·rw[show ((n-1-a:Nat):Int)+1+(b:Int)=((n-a+b:Nat):Int) by lia,xq tP,<- WT,VI,VI,VI]
    rfl
  ·rintro β o ⟨_,⟨x1,rfl⟩,rfl⟩;refine⟨NV,⟨_,_,rfl⟩,?_⟩;rw[fS,zB,Wr,Wz NV,Xi];simp
 ·rintro β o ⟨_,⟨x0,x1,rfl⟩,rfl⟩;rw[rm,WS (by simp)]
  exact⟨trivial,trivial,q⟩
theorem bQ:aC ["row","many","ties","partners","a","b"] ["row"] (aj dE):=mkS
theorem vP {cN bo} (fL:D8 K mg cN bo) (B:Bs3 mg):aB P w K mg base bE 1 cN bo ["row"] (cB P w true ng):=by
 refine k_ fL.F bQ (λds R Mt=> by obtain⟨n,ps,e,_⟩ := Mt;subst e;rfl) λbB A outer s H E hr=>⟨_,(ak (kz (ae (i:=0)) (ez (n:=2) rfl (aQ (aA (i:=1) bQ.nd) (aQ (aA (i:=2) bQ.nd) c_))))
    (ak (zz (i:=3) true ["point"] [none] (by rfl) (by decide:(["point"]:List Str).Nodup) rfl (λ_=>(b6 B.range (aa (ae (i:=1)) af))) (λ_ _ _ _ _ _=>(aA (i:=0) (by decide:(["point"]:List Str).Nodup))) (λ_ _ _ _ _ _=>eK) (λ_ _ _ _ _ _=>(a8 af)) bQ.nd)
    (ak (gW WV rfl (b_ (ae (i:=2))) (ez (n:=2) rfl (aQ (aA (i:=4) bQ.nd) (aQ (aA (i:=5) bQ.nd) c_))) (au (k8 (i:=3) true (λ_=>(ae (i:=5))) (λ_=>(ae (i:=4))))))
    (au (gb (i:=3)))))),λds R h=>?_⟩
 obtain⟨n,ps,rfl,ok,q⟩:=h;have hn:=ok.le;refine⟨_,rfl,_,rfl,rfl,_,_,rfl,_,_,rfl,rfl,_,rfl,trivial,n,rfl,by lia,by lia,trivial,?_⟩
 rw[X5];refine gh (λ_=>true) (λ_=>.lst []) trivial (by rw[V9];exact dv (by lia)) (λx hx x0 o J ho h1 _=>⟨VX _,trivial,ho,h1 rfl _⟩) ?_
 rw[lg];refine⟨_,rfl,_,rfl,trivial,?_⟩;refine⟨λm β=>∃x4 x5,β=[some (.val false (pW n ps)),some (.val true (.int n)),some (.val false (C2 ps)),some (.own (CN n (ps.take m))),x4,x5],⟨_,_,rfl⟩,?_,?_⟩
 ·rintro m d β hd ⟨x4,x5,rfl⟩;rw[VJ]at hd;obtain⟨p,hp,rfl⟩:=VQ.mp hd;obtain⟨h1,h2⟩:=ok.lt p (Wt hp);refine⟨_,rfl,rfl,_,_,rfl,_,_,rfl,rfl,⟨_,rfl⟩,_,rfl,_,_,_,_,rfl,rfl,by rw[Vt,V9];exact Iv rfl (show p.1<n by lia),fu (show p.1<n by lia),_,rfl,trivial,rfl,?_,?_⟩
  ·unfold Q.mY;rw[Vt];have:=jy (ps:=ps.take m) (i:=p.1);rw[V7]at this;have:=ok.sm;exact qY (by lia)
  ·refine⟨some (.val true (.int p.1)),some (.val true (.int p.2)),?_⟩;have e:ps.take (m+1)=ps.take m++[(p.1,p.2)]:=by rw[Wr,hp];rfl
   rw[GQ (show p.1<n by lia),e]
   rfl
 ·rintro β ⟨x4,x5,rfl⟩;rw[Vt,Xm];exact⟨_,rfl,q⟩
theorem mq:aC ["worth","table","i","k","j"] ["worth","table","i","k","j"] (aj dF):=mkS
theorem vQ {ck a7} (e9:D9 K mg ck a7):aB P w K mg base bE 1 ck a7 ["worth","table","i","k","j"] (cB P w true nh):=by
 refine k_ e9.F mq (λds R Ms=> by obtain⟨n,ps,w,L,T,i,k,j,e,_⟩ := Ms;subst e;rfl) λbB A outer s H E hr=>⟨_,(au (a5 (aK aT aH (aK aT aH (aM ag (LB hr.fD) (ae (i:=0)) (bH (aa (ae (i:=2)) (aa (ae (i:=3)) af)))) (aM ag bA (aM ag bA (ae (i:=1)) (aK aT aH (ae (i:=2)) ah)) (aK ag (cy.m bx) (aK ag (cy.m bx) (ae (i:=3)) (ae (i:=2))) ah))) (aM ag bA (aM ag bA (ae (i:=1)) (aK aT aH (ae (i:=3)) ah)) (aK ag (cy.m bx) (aK ag (cy.m bx) (ae (i:=4)) (ae (i:=3))) ah))))),λds R h=>?_⟩
 obtain⟨n,ps,w,L,T,i,k,j,rfl,hm,h1,h2,h3,h4,h5,q⟩:=h;exact⟨_,rfl,trivial,_,rfl,trivial,_,rfl,trivial,jt,_,Jc hm,trivial,_,rfl,trivial,_,rfl,trivial,_,rfl,_,oK (i:=i+1) (by lia) (by lia),.inr ⟨trivial,_,rfl,trivial,_,rfl,_,rfl,trivial,_,rfl,_,oM (l:=k-i-1) (by lia) h4,_,rfl,trivial,
  _,rfl,trivial,_,rfl,trivial,_,rfl,_,oK (i:=k+1) (by lia) (by lia),.inr ⟨trivial,_,rfl,trivial,_,rfl,_,rfl,trivial,_,rfl,_,oM (l:=j-k-1) (by lia) h5,_,rfl,trivial,q⟩⟩⟩
theorem gB:aC ["partners","worth","table","i","j","numbers"] ["partners","worth","table","i","j"] (aj c6):=mkS
theorem AI {cW bD} (gJ:vd K mg cW bD) {ck a7} (e9:D9 K mg ck a7) (B:Bs3 mg):aB P w K mg base bE 2 cW bD ["partners","worth","table","i","j"] (cB P w true ni):=by
 have Ra:aB P w K mg base bE 1 _ _ _ (cB P w true nh):= vQ e9;refine k_ gJ.F gB (λds R Mr=> by obtain⟨n,ps,w,L,T,i,j,e,_⟩ := Mr;subst e;rfl) λbB A outer s H E hr=>⟨_,(ak (zz (i:=5) false ["k","worth","table","i","j"] [none,some 1,some 2,some 3,some 4] (by rfl) (by decide:(["k","worth","table","i","j"]:List Str).Nodup) rfl (λ_=>(b_ (aM ag bA (ae (i:=0)) (ae (i:=3))))) (λ_ _ _ _ _ _=>(aA (i:=0) (by decide:(["k","worth","table","i","j"]:List Str).Nodup))) (λ_ _ _ _ _ _=>(gO (aS ag (cy.m cQ) (ae (i:=0)) (ae (i:=4))))) (λ_ _ _ _ _ _=>(aG nh.mono Ra (hr.mono (by decide)) e9.m e9.F.kp e9.b (aa (ae (i:=1)) (aa (ae (i:=2)) (aa (ae (i:=3)) (aa (ae (i:=0)) (aa (ae (i:=4)) af))))))) gB.nd)
    (au (a5 (aX ag (bO.m (pz rfl)) B.max nH (aa (aK aT aH (ae (i:=5)) (a8 (aa (aM ag bA (aM ag bA (ae (i:=2)) (aK aT aH (ae (i:=3)) ah)) (aK ag (cy.m bx) (aK ag (cy.m bx) (ae (i:=4)) (ae (i:=3))) ah)) af))) af))))),λds R h=>?_⟩
 obtain⟨n,ps,w,L,T,i,j,rfl,ok,h1,h2,h3,q⟩:=h;have J0:=ok.sm;have hle:=ok.le;have hl:((nO ps i).filter λk=>decide (k<j)).length<=400:=Wc (Wx _ _) (Wc jy J0);refine⟨_,rfl,trivial,_,rfl,_,LC rfl (by lia),.inr ⟨_,rfl,trivial,?_⟩⟩
 refine gh (λk=>decide (k<j)) (λk=>.int (w (i,k)+T (k-i-1) (i+1)+T (j-k-1) (k+1))) trivial (dv (Wc jy (by lia))) (λk hk x0 o J ho j1 j2=>?_) ?_
 ·have hm:=gf.mp hk;obtain⟨g1,g2⟩:=ok.lt _ hm;dsimp only at g1 g2;refine⟨_,rfl,trivial,_,rfl,_,rfl,_,rfl,tO (λQh=>?_) (λQh=>j2 (by simp;lia) _)⟩
  have BA:k<j:=by lia
  have a1:=h3 (i+1) (by lia) (by lia)
  have a2:=h3 (k+1) (by lia) (by lia)
  exact⟨_,rfl,trivial,_,rfl,trivial,_,rfl,trivial,_,rfl,trivial,_,rfl,trivial,n,ps,w,L,T,i,k,j,rfl,hm,g1,BA,h2,by lia,by lia,trivial,ho,j1 (by simpa using BA) _⟩
 ·have a1:=h3 (i+1) (by lia) (by lia)
  refine⟨_,rfl,trivial,_,rfl,trivial,_,rfl,trivial,_,rfl,_,oK (i:=i+1) (by lia) (by lia),.inr ⟨trivial,_,rfl,trivial,_,rfl,_,rfl,trivial,_,rfl,_,oM (l:=j-i-1) (by lia) (by lia),trivial,CK,_,eV (by rw[Vt];show _+1<=_;lia),.inl ⟨oX iq rfl,trivial,_,A4,trivial,q⟩⟩⟩
theorem bb:aC ["row","worth","many","partners","table","i","j"] ["row","worth"] (aj cC):=mkS
theorem AK {dq bM} (gK:wW K mg dq bM) {cN bo} (fL:D8 K mg cN bo) {cV bC} (gI:D7 K mg cV bC) {cW bD} (gJ:vd K mg cW bD) {ck a7} (e9:D9 K mg ck a7) (B:Bs3 mg):aB P w K mg base bE 3 dq bM ["row","worth"] (cB P w true nj):=by
 have Q9:aB P w K mg base bE 1 _ _ _ (cB P w true ng):= vP fL B;have UM:aB P w K mg base bE 1 _ _ _ (cB P w true BR):= DP gI B;have UU:aB P w K mg base bE 2 _ _ _ (cB P w true ni):= AI gJ e9 B;refine k_ gK.F bb (λds R Mq=> by obtain⟨n,ps,w,e,_⟩ := Mq;subst e;rfl) λbB A outer s H E hr=>⟨_,(ak (bg (i:=2) (aM ag bA (ae (i:=0)) ah) bb.nd)
    (ak (bg (i:=3) (aG ng.mono Q9 (hr.mono (by decide)) fL.m fL.F.kp fL.b (aa (ae (i:=0)) af)) bb.nd)
    (ak (zz (i:=4) true ["i"] [none] (by rfl) (by decide:(["i"]:List Str).Nodup) rfl (λ_=>(b6 B.range (aa (aK aT aH (ae (i:=2)) ah) af))) (λ_ _ _ _ _ _=>(aA (i:=0) (by decide:(["i"]:List Str).Nodup))) (λ_ _ _ _ _ _=>eK) (λ_ _ _ _ _ _=>(a8 (aa ah af))) bb.nd)
    (ak (gW WV rfl (b_ (aG BR.mono UM (hr.mono (by decide)) gI.m gI.F.kp gI.b (aa (ae (i:=2)) af))) (ez (n:=2) rfl (aQ (aA (i:=5) bb.nd) (aQ (aA (i:=6) bb.nd) c_))) (au (k8 (i:=4) true (λ_=>(aG ni.mono UU (hr.mono (by decide)) gJ.m gJ.F.kp gJ.b (aa (ae (i:=3)) (aa (ae (i:=1)) (aa (ae (i:=4)) (aa (ae (i:=5)) (aa (ae (i:=6)) af))))))) (λ_=>(ae (i:=5))))))
    (au (gb (i:=4))))))),λds R h=>?_⟩
 obtain⟨n,ps,w,rfl,ok,q⟩:=h;have hn:=ok.le;have hp:∀p∈ps,p.1<p.2:=λp hp=>(ok.lt p hp).1;refine⟨_,rfl,trivial,_,rfl,_,rfl,trivial,n,ps,rfl,ok,_,rfl,trivial,_,rfl,trivial,(n:Int)+1,rfl,by lia,by lia,trivial,?_⟩
 rw[show ((n:Int)+1).toNat=n+1 by lia]
 refine gh (λ_=>true) (λ_=>.lst [.int 0]) trivial (by rw[V9];exact dv (by lia)) (λx hx x0 o J ho h1 _=>⟨trivial,CK,trivial,ho,h1 rfl _⟩) ?_
 rw[lg];refine⟨_,rfl,trivial,n,rfl,hn,_,rfl,trivial,?_⟩;refine BM (λidx β=>∃L x5 x6,β=[some (.val false (pW n ps)),some (.val false (wD ps w)),some (.val true (.int n)),some (.val true (CN n ps)),some (.own (md n L (tW ps w))),x5,x6]/\wQ n idx L) ⟨λ_=>1,_,_,rfl,sS⟩ (λE1 r1 idx n1 d β hd h=>?_) ?_
 ·obtain⟨L,x5,x6,rfl,dn⟩:=h;rw[VJ]at hd;obtain⟨p,MD,rfl⟩:=VQ.mp hd;obtain⟨a,b,ha,hb,rfl,hL,LW⟩:=uU dn MD;have eL:md n L (tW ps w)=md n (gj n a b) (tW ps w):=oz hL;have e0:gj n a b (n-1-a)=b+1:=by unfold gj;rw[if_neg (by lia),if_pos rfl]
  rw[eL];refine⟨_,rfl,rfl,_,_,rfl,_,_,rfl,rfl,⟨_,rfl⟩,_,rfl,_,_,_,_,rfl,rfl,by rw[Vt,V9];exact Iv rfl (show n-1-a<n+1 by lia),fu (show n-1-a<n+1 by lia),
   _,rfl,trivial,_,rfl,trivial,_,rfl,trivial,_,rfl,trivial,_,rfl,trivial,n,ps,w,gj n a b,tW ps w,n-1-a,n-a+b,rfl,ok,by lia,by lia,λa' h1 h2=>by unfold gj;rw[if_pos h1];exact VA _,trivial,rfl,?_,?_⟩
  ·rw[e0];unfold qW;rw[Vt,V9];exact qY (by lia)
  ·refine n1 _ ⟨gj n a (b+1),some (.val true (.int ((n-1-a:Nat):Int))),some (.val true (.int ((n-a+b:Nat):Int))),?_,.inr ⟨a,b+1,ha,by lia,λ_ _=>rfl,LW⟩⟩
   have ev:lz ps w (tW ps w) (n-1-a) (n-a+b)=tW ps w (b+1) (n-1-a):=by rw[vo hp,show n-1-a+b+1=n-a+b by lia]
   rw[ev,e0,C_ ha hb];rfl
 ·rintro β ⟨L,x5,x6,rfl,dn⟩;rw[Vt]at dn;have e:md n L (tW ps w)=jO n (tW ps w):=oz (yn dn);rw[e];exact⟨_,rfl,q⟩
theorem rh:aC ["row"] ["row"] (aj f9):=mkS
theorem AF {dk bL} (gE:wV K mg dk bL):aB P w K mg base bE 1 dk bL ["row"] (cB P w true uR):=by
 refine k_ gE.F rh (λds R Mp=> by obtain⟨n,ps,e,_⟩ := Mp;subst e;rfl) λbB A outer s H E hr=>⟨_,(au (a5 (UD (Nat.lt_of_succ_lt hr.fD) ["tie"] [none] (by rfl) (by decide:(["tie"]:List Str).Nodup) rfl (b_ (aM ag bA (ae (i:=0)) ah)) (λ_ _ _ _ _ _=>(aA (i:=0) (by decide:(["tie"]:List Str).Nodup))) (λ_ _ _ _ _ _=>eK) (λ_ _ _ _ _ _=>(ae (i:=0))) (λ_ _ _ _ _ _=>ah)))),λds R h=>?_⟩
 obtain⟨n,ps,rfl,ok,q⟩:=h;have J0:=ok.sm;refine⟨_,rfl,trivial,_,rfl,.inr ⟨_,rfl,trivial,?_⟩⟩;refine⟨λm β o=>m<=ps.length/\(∃x0,β=[x0])/\o=(ps.take m).map λp=>(tI p,D.int (w1 p)),⟨VX _,⟨_,rfl⟩,rfl⟩,?_,?_⟩
 ·rintro m d β o hd ⟨hm,⟨x0,rfl⟩,rfl⟩;rw[VJ]at hd;obtain⟨p,hp,rfl⟩:=VQ.mp hd;have jm:=(VN.mp hp).1;refine⟨_,rfl,tI p,rfl,rfl,DW (Ea ok.nd hp),?_,jm,⟨_,rfl⟩,?_⟩
  ·rw[Vt,V7];exact qY (by lia)
  ·rw[Wr,hp,VI];rfl
 ·rintro β o ⟨_,⟨x0,rfl⟩,rfl⟩;rw[Vt,Xm];exact⟨trivial,trivial,q⟩
theorem rg:aC ["row"] ["row"] (aj f7):=mkS
theorem AA {dR bX} (iV:yF K mg dR bX) {dq bM} (gK:wW K mg dq bM) {cN bo} (fL:D8 K mg cN bo) {cV bC} (gI:D7 K mg cV bC) {cW bD} (gJ:vd K mg cW bD) {ck a7} (e9:D9 K mg ck a7) {dk bL} (gE:wV K mg dk bL) (B:Bs3 mg):aB P w K mg base bE 4 dR bX ["row"] (cB P w true m8):=by
 have UX:aB P w K mg base bE 3 _ _ _ (cB P w true nj):= AK gK fL gI gJ e9 B;have Q_:aB P w K mg base bE 1 _ _ _ (cB P w true uR):= AF gE;refine k_ iV.F rg (λds R Mo=> by obtain⟨n,ps,e,_⟩ := Mo;subst e;rfl) λbB A outer s H E hr=>⟨_,(au (a5 (aG nj.mono UX (hr.mono (by decide)) gK.m gK.F.kp gK.b (aa (ae (i:=0)) (aa (aG uR.mono Q_ (hr.mono (by decide)) gE.m gE.F.kp gE.b (aa (ae (i:=0)) af)) af))))),λds R h=>?_⟩
 obtain⟨n,ps,rfl,ok,q⟩:=h;exact⟨_,rfl,trivial,_,rfl,trivial,n,ps,rfl,ok,trivial,n,ps,w1,rfl,ok,trivial,q⟩
end
section
variable {P:Vz}{w:VG}{K:PySem.W.Frag}{mg:Str->Option Vv}{base:Heap}
theorem nS:aC ["i","k","j"] ["i","k","j"] (aj ek):=mkS
theorem AD {dj bK} (ir:wU K mg dj bK):aB P w K mg base bE 1 dj bK ["i","k","j"] (cB P w true m_):=by
 refine k_ ir.F nS (λds R Mn=> by obtain⟨i,k,j,e,_⟩ := Mn;subst e;rfl) λbB A outer s H E hr=>⟨_,(ib (dw (aS ag (cy.m DO) (ae (i:=1)) uk) (au (a5 (a8 (aa (bH (aa (aK aT aH (ae (i:=0)) ah) (aa (ae (i:=2)) af))) af)))) bw)
    (au (a5 (a8 (aa (bH (aa (aK aT aH (ae (i:=0)) ah) (aa (ae (i:=1)) af))) (aa (bH (aa (aK aT aH (ae (i:=1)) ah) (aa (ae (i:=2)) af))) af)))))),λds R h=>?_⟩
 obtain⟨i,k,j,rfl,q⟩:=h;cases k with
 |none=>exact⟨λ_=>False,⟨_,rfl,trivial,_,rfl,_,rfl,lB rfl ⟨_,rfl,trivial,_,rfl,trivial,_,rfl,trivial,jt,trivial,CK,trivial,q⟩⟩,λ_ z=>z.elim⟩
 |some k =>
  refine⟨λβ=>β=[some (.val false (.int i)),some (.val false (.int k)),some (.val false (.int j))],⟨_,rfl,trivial,_,rfl,_,rfl,jI rfl rfl⟩,?_⟩;rintro β rfl;exact⟨_,rfl,trivial,_,rfl,trivial,_,rfl,trivial,jt,trivial,_,rfl,trivial,_,rfl,trivial,_,rfl,trivial,jt,trivial,jt,trivial,q⟩
theorem d4:aC ["partners","worth","table","i","j","best","choices"] ["partners","worth","table","i","j"] (aj c8):=mkS
theorem DU {du bN} (iy:wR K mg du bN) {ck a7} (e9:D9 K mg ck a7) (B:Bs3 mg):aB P w K mg base bE 2 du bN ["partners","worth","table","i","j"] (cB P w true sP):=by
 have Ra:aB P w K mg base bE 1 _ _ _ (cB P w true nh):= vQ e9;refine k_ iy.F d4 (λds R Mm=> by obtain⟨n,ps,w,T,i,j,e,_⟩ := Mm;subst e;rfl) λbB A outer s H E hr=>⟨_,(ak (bg (i:=5) (aM ag bA (aM ag bA (ae (i:=2)) (ae (i:=3))) (aK ag (cy.m bx) (ae (i:=4)) (ae (i:=3)))) d4.nd)
    (ak (zz (i:=6) true ["k","j","best","worth","table","i"] [none,some 4,some 5,some 1,some 2,some 3] (by rfl) (by decide:(["k","j","best","worth","table","i"]:List Str).Nodup) rfl (λ_=>(b_ (aM ag bA (ae (i:=0)) (ae (i:=3))))) (λ_ _ _ _ _ _=>(aA (i:=0) (by decide:(["k","j","best","worth","table","i"]:List Str).Nodup))) (λ_ _ _ _ _ _=>(gO (Fu.t (lM (aS ag (cy.m cQ) (ae (i:=0)) (ae (i:=1))) (jz (aS ag (cy.m (gc hr.units)) (aG nh.mono Ra (hr.mono (by decide)) e9.m e9.F.kp e9.b (aa (ae (i:=3)) (aa (ae (i:=4)) (aa (ae (i:=5)) (aa (ae (i:=0)) (aa (ae (i:=1)) af)))))) (ae (i:=2)))))))) (λ_ _ _ _ _ _=>(ae (i:=0))) d4.nd)
    (ib (dw (aS ag (cy.m (gc hr.units)) (aM ag bA (aM ag bA (ae (i:=2)) (aK aT aH (ae (i:=3)) ah)) (aK ag (cy.m bx) (aK ag (cy.m bx) (ae (i:=4)) (ae (i:=3))) ah)) (ae (i:=5))) (au (ic (i:=6) (λ_=>uk))) bw)
    (au (gb (i:=6)))))),λds R h=>?_⟩
 obtain⟨n,ps,w,T,i,j,rfl,ok,h1,h2,q⟩:=h;have J0:=ok.sm;have hle:=ok.le;refine⟨_,rfl,trivial,_,rfl,_,oK rfl (by lia),.inr ⟨trivial,_,rfl,trivial,_,rfl,_,rfl,_,oM (l:=j-i) (by lia) (by lia),?_⟩⟩
 refine⟨_,rfl,trivial,_,rfl,_,LC rfl (by lia),.inr ⟨_,rfl,trivial,?_⟩⟩
 refine gh (λk=>decide (k<j)&&decide (w (i,k)+T (k-i-1) (i+1)+T (j-k-1) (k+1)=T (j-i) i)) (λk=>.int (k:Int)) trivial (dv (Wc jy (by lia))) (λk hk x0 o J ho j1 j2=>?_) ?_
 ·have hm:=gf.mp hk;obtain⟨g1,g2⟩:=ok.lt _ hm;dsimp only at g1 g2;refine⟨_,rfl,trivial,_,rfl,_,rfl,_,rfl,tO (λQh=>?_) (λQh=>jI rfl (j2 ?_ _))⟩
  ·have BA:k<j:=by lia
   refine⟨_,rfl,trivial,_,rfl,trivial,_,rfl,trivial,_,rfl,trivial,_,rfl,trivial,n,ps,w,(λi=>n+1-i),T,i,k,j,rfl,hm,g1,BA,h2,by show _<n+1-(i+1);lia,by show _<n+1-(k+1);lia,trivial,_,rfl,_,b7 _ _,_,rfl,tO (λe=>?_) (λe=>j2 ?_ _)⟩
   ·exact⟨_,rfl,trivial,ho,j1 (by rw[Wf,decide_eq_true_eq,decide_eq_true_eq];exact⟨BA,e⟩) _⟩
   ·rw[Bool.and_eq_false_iff];exact .inr (decide_eq_false e)
  ·rw[Bool.and_eq_false_iff];exact .inl (decide_eq_false (by lia))
 ·have eb:gF ps w T i j=((nO ps i).filter λk=>decide (k<j)&&decide (w (i,k)+T (k-i-1) (i+1)+T (j-k-1) (k+1)=T (j-i) i)).map some++(if T (j-i-1) (i+1)=T (j-i) i then [none] else []):=rfl
  have em:(((nO ps i).filter λk=>decide (k<j)&&decide (w (i,k)+T (k-i-1) (i+1)+T (j-k-1) (k+1)=T (j-i) i)).map λ(k:Nat)=>D.int (k:Int))=(((nO ps i).filter λk=>decide (k<j)&&decide (w (i,k)+T (k-i-1) (i+1)+T (j-k-1) (k+1)=T (j-i) i)).map some).map oD:=by rw[WO];rfl
  have hl:(((nO ps i).filter λk=>decide (k<j)&&decide (w (i,k)+T (k-i-1) (i+1)+T (j-k-1) (k+1)=T (j-i) i)).map some).length<=400:=by rw[Vt];exact Wc (Wx _ _) (Wc jy J0)
  rw[em];generalize ((nO ps i).filter λk=>decide (k<j)&&decide (w (i,k)+T (k-i-1) (i+1)+T (j-k-1) (k+1)=T (j-i) i)).map some=cs at eb hl ⊢
  refine⟨λβ=>β[6]?=some (some (.own (.lst ((gF ps w T i j).map oD)))),?_,λβ hβ=>⟨_,hβ,q⟩⟩;refine⟨_,rfl,trivial,_,rfl,trivial,_,rfl,_,oK (i:=i+1) (by lia) (by lia),.inr ⟨trivial,_,rfl,trivial,_,rfl,_,rfl,trivial,_,rfl,_,oM (l:=j-i-1) (by lia) (by lia),trivial,_,rfl,_,b7 _ _,_,rfl,tO (λe=>?_) (λe=>?_)⟩⟩
  ·rw[if_pos e]at eb;refine⟨⟨_,rfl⟩,trivial,_,rfl,by rw[Vt];exact qY (by lia),?_⟩
   rw[eb,VI];rfl
  ·rw[if_neg e,WB]at eb;rw[eb];rfl
theorem aV:aC ["row","worth","table","i","j","partners","found","waiting","low","high","k"] ["row","worth","table","i","j"] (aj cD):=mkS
theorem DS {dU bY} (iW:yE K mg dU bY) {cN bo} (fL:D8 K mg cN bo) {du bN} (iy:wR K mg du bN) {ck a7} (e9:D9 K mg ck a7) {dj bK} (ir:wU K mg dj bK) (B:Bs3 mg):aB P w K mg base bE 3 dU bY ["row","worth","table","i","j"] (cB P w true sN):=by
 have Q9:aB P w K mg base bE 1 _ _ _ (cB P w true ng):= vP fL B;have U4:aB P w K mg base bE 2 _ _ _ (cB P w true sP):= DU iy e9 B;have UQ:aB P w K mg base bE 1 _ _ _ (cB P w true m_):= AD ir;refine k_ iW.F aV (λds R Ml=> by obtain⟨n,ps,w,i,j,e,_⟩ := Ml;subst e;rfl) λbB A outer s H E hr=>⟨_,(ak (bg (i:=5) (aG ng.mono Q9 (hr.mono (by decide)) fL.m fL.F.kp fL.b (aa (ae (i:=0)) af)) aV.nd)
    (ak (dH (i:=6) (λ_=>(a8 af)) aV.nd)
    (ak (dH (i:=7) (λ_=>(a8 (aa (bH (aa (ae (i:=3)) (aa (ae (i:=4)) af))) af))) aV.nd)
    (ak (Aj WV (Ds (ae (i:=7))) (ak (kz (He (i:=7)) (ez (n:=2) rfl (aQ (aA (i:=8) aV.nd) (aQ (aA (i:=9) aV.nd) c_))))
    (au (dw (aS ag (cy.m cQ) (ae (i:=8)) (ae (i:=9))) (ak (bg (i:=10) (aM ag bA (aG sP.mono U4 (hr.mono (by decide)) iy.m iy.F.kp iy.b (aa (ae (i:=5)) (aa (ae (i:=1)) (aa (ae (i:=2)) (aa (ae (i:=8)) (aa (ae (i:=9)) af)))))) ah) aV.nd)
    (ib (dw (aS ag (cy.m Aw) (ae (i:=10)) uk) (au (ic (i:=6) (λ_=>(bH (aa (ae (i:=8)) (aa (ae (i:=10)) af)))))) bw)
    (au (xG (i:=7) (Du (aG m_.mono UQ (hr.mono (by decide)) ir.m ir.F.kp ir.b (aa (ae (i:=8)) (aa (ae (i:=10)) (aa (ae (i:=9)) af))))))))) bw))))
    (au (gb (i:=6))))))),λds R h=>?_⟩
 obtain⟨n,ps,w,i,j,rfl,ok,h1,h2,q⟩:=h;have hn:=ok.le;have hp:∀p∈ps,p.1<p.2:=λp hp=>(ok.lt p hp).1;have T9:(iG ps w i j).length<=40:=by have:=BI (w:=w) hp (j-i) i j (VA _);lia
 refine⟨_,rfl,trivial,n,ps,rfl,ok,VX _,trivial,_,rfl,trivial,_,rfl,trivial,jt,trivial,CK,trivial,?_⟩;refine Sv (Gq (λm β=>∃(ws:List (Nat×Nat)) (fs:List (Nat×Nat)) (x8 x9 FA:Option Q.B),β=[some (.val false (pW n ps)),some (.val false (wD ps w)),some (.val false (jO n (tW ps w))),some (.val false (.int i)),some (.val false (.int j)),some (.val true (CN n ps)),some (.own (C2 fs)),some (.own (.lst (ws.map yJ))),x8,x9,FA]/\(∀p∈ws,p.2<=n)/\vh ws=m/\m<=200/\fs++(ws.reverse.flatMap λp=>iG ps w p.1 p.2)=iG ps w i j) ⟨_,[(i,j)],[],_,_,_,rfl,λp hp=>by rw[VD.mp hp];exact h2,rfl,by show 2*(j-i)+1+0<=200;lia,by simp⟩ λE1 Q1 q1 m n1 β hv=>?_)
 obtain⟨ws,fs,x8,x9,FA,rfl,hw,hm,hl,hf⟩:=hv;rcases List.eq_nil_or_concat ws with rfl|⟨tU,⟨l,h⟩,rfl⟩
 ·refine⟨_,rfl,_,rfl,jI rfl ?_⟩;have hf:fs=iG ps w i j:=by simpa using hf
  rw[<- hf]at q;exact q1 _ ⟨_,rfl,q⟩
 ·rw[List.concat_eq_append]at hw hm hf ⊢
  rw[pJ]at hm;have Vi:tU.length<=vh tU:=by
   unfold vh
   clear hw hm hf
   induction tU with
   |nil=>exact VA _
   |cons a l ih=>rw[VM,List.sum_cons,Wa];lia
  have hm:vh tU+(2*(h-l)+1)=m:=hm;have hh:h<=n:=hw (l,h) (by simp)
  rw[List.reverse_append,List.reverse_singleton,List.singleton_append,List.flatMap_cons]at hf;refine⟨_,rfl,_,rfl,lB (by rw[VI];cases tU <;> rfl) ?_⟩
  rw[VI];refine⟨tU.map yJ,yJ (l,h),rfl,_,rfl,rfl,_,_,rfl,_,_,rfl,rfl,?_⟩;refine⟨_,rfl,trivial,_,rfl,_,rfl,_,rfl,tO (λF4=>?_) (λF4=>?_)⟩
  ·have F4:l<h:=by lia
   have v7:=tm (w:=w) hp F4;have R3:=uO (w:=w) hp F4;have lC:=ik (gu (w:=w) hp F4);have EL:d8 ps w l h=(gF ps w (tW ps w) l h).headD none:=rfl;cases hb:gF ps w (tW ps w) l h with
   |nil=>exact absurd hb v7
   |cons c cs =>
    rw[hb]at EL;have EL:d8 ps w l h=c:=EL;rw[EL]at R3 lC;rw[R3]at hf;have fin:∀(NW:List (Nat×Nat)) (FA:Option Q.B),NW=fs++sD l c->E1.nx [some (Q.B.val false (pW n ps)),some (.val false (wD ps w)),some (.val false (jO n (tW ps w))),some (.val false (.int i)),some (.val false (.int j)),some (.val true (CN n ps)),some (.own (C2 NW)),some (.own (.lst (tU.map yJ++(parts l c h).reverse.map yJ))),some (.val true (.int l)),some (.val true (.int h)),FA]:=λNW FA e=>by
     have Ve:vh (parts l c h).reverse<2*(h-l)+1:=by
      rw[C0];cases c with
      |none=>show 2*(h-(l+1))+1+0<_;lia
      |some k =>
       have:=hp _ lC.1;dsimp only at this;have h3:=lC.2.1;show 2*(k-(l+1))+1+(2*(h-(k+1))+1+0)<_;lia
     refine n1 (vh (tU++(parts l c h).reverse)) _ (by rw[pJ];lia) ⟨tU++(parts l c h).reverse,NW,_,_,_,by rw[VI],λp MD=>?_,rfl,by rw[pJ];lia,?_⟩
     ·rcases VL.mp MD with z|z
      ·exact hw p (by simp[z])
      ·have z:=List.mem_reverse.mp z;cases c with
       |none=>rw[VD.mp z];exact hh
       |some k =>
        have h3:=lC.2.1;rcases VB.mp z with rfl|z
        ·show k<=n;lia
        ·rw[VD.mp z];exact hh
     ·rw[<- hf,e,List.reverse_append,Y1,Xi];simp only[WT]
    refine⟨_,rfl,trivial,_,rfl,trivial,_,rfl,trivial,_,rfl,trivial,_,rfl,trivial,n,ps,w,tW ps w,l,h,rfl,ok,F4,hh,trivial,oD c,la (i:=0) rfl (by rw[hb];rfl),?_⟩
    cases c with
    |none =>
     refine⟨λβ=>β=[some (Q.B.val false (pW n ps)),some (.val false (wD ps w)),some (.val false (jO n (tW ps w))),some (.val false (.int i)),some (.val false (.int j)),some (.val true (CN n ps)),some (.own (C2 fs)),some (.own (.lst (tU.map yJ))),some (.val true (.int l)),some (.val true (.int h)),some (.val true .cU)],⟨_,rfl,trivial,_,rfl,_,rfl,jI rfl rfl⟩,?_⟩;rintro β rfl;exact⟨⟨_,rfl⟩,_,rfl,trivial,_,rfl,trivial,_,rfl,trivial,l,none,h,rfl,_,rfl,.inl ⟨rfl,_,_,rfl,rfl,rfl,by rw[Vt];exact dv (show tU.length+1<=1000 by lia),fin fs _ (by simp[sD])⟩⟩
    |some k =>
     refine⟨λβ=>β=[some (Q.B.val false (pW n ps)),some (.val false (wD ps w)),some (.val false (jO n (tW ps w))),some (.val false (.int i)),some (.val false (.int j)),some (.val true (CN n ps)),some (.own (C2 (fs++[(l,k)]))),some (.own (.lst (tU.map yJ))),some (.val true (.int l)),some (.val true (.int h)),some (.val true (.int k))],⟨_,rfl,trivial,_,rfl,_,rfl,lB rfl ⟨⟨_,rfl⟩,_,rfl,trivial,_,rfl,trivial,jt,trivial,_,rfl,?_,?_⟩⟩,?_⟩
     ·rw[Vt];have:=congrArg List.length hf;rw[VV]at this;exact qY (by lia)
     ·unfold C2;rw[VI];rfl
     ·rintro β rfl;exact⟨⟨_,rfl⟩,_,rfl,trivial,_,rfl,trivial,_,rfl,trivial,l,some k,h,rfl,_,rfl,.inl ⟨rfl,_,_,rfl,rfl,rfl,by rw[Vt];exact dv (show tU.length+2<=1000 by lia),fin (fs++[(l,k)]) _ rfl⟩⟩
  ·have F4:¬ l<h:=by lia
   rw[m7 F4]at hf;exact n1 (vh tU) _ (by lia) ⟨tU,fs,_,_,_,rfl,λp MD=>hw p (by simp[MD]),rfl,by lia,by simpa using hf⟩
theorem mr:aC ["row","i","j","table"] ["row","i","j"] (aj hZ):=mkS
theorem xI {eC cg} (jo:yY K mg eC cg) {dR bX} (iV:yF K mg dR bX) {dq bM} (gK:wW K mg dq bM) {cN bo} (fL:D8 K mg cN bo) {cV bC} (gI:D7 K mg cV bC) {cW bD} (gJ:vd K mg cW bD) {ck a7} (e9:D9 K mg ck a7) {dk bL} (gE:wV K mg dk bL) {dU bY} (iW:yE K mg dU bY) {du bN} (iy:wR K mg du bN) {dj bK} (ir:wU K mg dj bK) (B:Bs3 mg):aB P w K mg base bE 5 eC cg ["row","i","j"] (cB P w true jW):=by
 have UL:aB P w K mg base bE 4 _ _ _ (cB P w true m8):= AA iV gK fL gI gJ e9 gE B;have U0:aB P w K mg base bE 3 _ _ _ (cB P w true sN):= DS iW fL iy e9 ir B;have Q_:aB P w K mg base bE 1 _ _ _ (cB P w true uR):= AF gE;refine k_ jo.F mr (λds R Mk=> by obtain⟨n,ps,i,j,e,_⟩ := Mk;subst e;rfl) λbB A outer s H E hr=>⟨_,(ak (dw (fx (eG ah (cq fG (ae (i:=1)) (cq fG (ae (i:=2)) (fy fG (aM ag bA (ae (i:=0)) ah)))))) dy bw)
    (ak (bg (i:=3) (aG m8.mono UL (hr.mono (by decide)) iV.m iV.F.kp iV.b (aa (ae (i:=0)) af)) mr.nd)
    (au (a5 (bH (aa (aM ag bA (aM ag bA (ae (i:=3)) (ae (i:=1))) (aK ag (cy.m bx) (ae (i:=2)) (ae (i:=1)))) (aa (aG sN.mono U0 (hr.mono (by decide)) iW.m iW.F.kp iW.b (aa (ae (i:=0)) (aa (aG uR.mono Q_ (hr.mono (by decide)) gE.m gE.F.kp gE.b (aa (ae (i:=0)) af)) (aa (ae (i:=3)) (aa (ae (i:=1)) (aa (ae (i:=2)) af)))))) af))))))),λds R h=>?_⟩
 obtain⟨n,ps,i,j,rfl,ok,h1,h2,q⟩:=h;have ej:(j:Int)-(i:Int)=((j-i:Nat):Int):=by lia
 refine⟨_,rfl,_,rfl,lB (decide_eq_true (by lia)) ⟨_,rfl,_,rfl,lB (decide_eq_true (by lia)) ⟨_,rfl,trivial,_,rfl,_,rfl,_,rfl,jI (by show (!decide _)=false;rw[decide_eq_true (show (j:Int)<=(n:Int) by lia)];rfl) ?_⟩⟩⟩
 exact⟨_,rfl,trivial,n,ps,rfl,ok,_,rfl,trivial,_,rfl,_,oK rfl (by lia),.inr ⟨trivial,_,rfl,trivial,_,rfl,_,rfl,_,oM (l:=j-i) ej (by lia),trivial,_,rfl,trivial,_,rfl,trivial,n,ps,rfl,ok,trivial,_,rfl,trivial,_,rfl,trivial,_,rfl,trivial,n,ps,w1,i,j,rfl,ok,h1,h2,trivial,jt,trivial,q⟩⟩
theorem pV:aC ["row"] ["row"] (aj fm):=mkS
theorem lQ {fg cH} (gG:CH K mg fg cH) {eC cg} (jo:yY K mg eC cg) {dR bX} (iV:yF K mg dR bX) {dq bM} (gK:wW K mg dq bM) {cN bo} (fL:D8 K mg cN bo) {cV bC} (gI:D7 K mg cV bC) {cW bD} (gJ:vd K mg cW bD) {ck a7} (e9:D9 K mg ck a7) {dk bL} (gE:wV K mg dk bL) {dU bY} (iW:yE K mg dU bY) {du bN} (iy:wR K mg du bN) {dj bK} (ir:wU K mg dj bK) (B:Bs3 mg):aB P w K mg base bE 6 fg cH ["row"] (cB P w true g9):=by
 have US:aB P w K mg base bE 5 _ _ _ (cB P w true jW):= xI jo iV gK fL gI gJ e9 gE iW iy ir B;refine k_ gG.F pV (λds R Mj=> by obtain⟨n,ps,e,_⟩ := Mj;subst e;rfl) λbB A outer s H E hr=>⟨_,(au (a5 (aG jW.mono US (hr.mono (by decide)) jo.m jo.F.kp jo.b (aa (ae (i:=0)) (aa ah (aa (aM ag bA (ae (i:=0)) ah) af)))))),λds R h=>?_⟩
 obtain⟨n,ps,rfl,ok,q⟩:=h;exact⟨_,rfl,trivial,trivial,_,rfl,trivial,_,rfl,trivial,n,ps,0,n,rfl,ok,VX _,VA _,trivial,q⟩
end
section
variable {P:Vz}{w:VG}{K:PySem.W.Frag}{mg:Str->Option Vv}{base:Heap}
theorem cK:aC ["one","other","a","b","c","d"] ["one","other"] (aj el):=mkS
theorem nT {wq jQ} (dX:JR K mg wq jQ):aB P w K mg base bE 1 wq jQ ["one","other"] (cB P w true nk):=by
 refine k_ dX.F cK (λds R Mi=> by obtain⟨t,u,e,_⟩ := Mi;subst e;rfl) λbB A outer s H E hr=>⟨_,(ak (kz (ae (i:=0)) (ez (n:=2) rfl (aQ (aA (i:=2) cK.nd) (aQ (aA (i:=3) cK.nd) c_))))
    (ak (kz (ae (i:=1)) (ez (n:=2) rfl (aQ (aA (i:=4) cK.nd) (aQ (aA (i:=5) cK.nd) c_))))
    (au (a5 (FL (rJ (ae (i:=2)) (cq cQ (ae (i:=4)) (cq cQ (ae (i:=3)) (fy cQ (ae (i:=5)))))) (zW (rJ (ae (i:=4)) (cq cQ (ae (i:=2)) (cq cQ (ae (i:=5)) (fy cQ (ae (i:=3)))))))))))),λds R h=>?_⟩
 obtain⟨t,u,rfl,⟨a,b,rfl⟩,⟨c,d,rfl⟩,q⟩:=h;refine⟨_,rfl,_,rfl,rfl,_,_,rfl,_,_,rfl,rfl,?_⟩;refine⟨_,rfl,_,rfl,rfl,_,_,rfl,_,_,rfl,rfl,?_⟩;refine Cj (a:=a) (b:=c) (c:=b) (d:=d) rfl rfl rfl rfl ⟨_,rfl,Pk (λh=>⟨trivial,?_⟩) (λh=>Cj (a:=c) (b:=a) (c:=d) (d:=b) rfl rfl rfl rfl ⟨trivial,?_⟩)⟩
 ·have:nD [a,b] [c,d]=true:=by show (_ || _)=true;rw[h];rfl
  rw[<- this];exact q
 ·have:nD [a,b] [c,d]=(decide (c<a)&&(decide (a<d)&&decide (d<b))):=by show (_ || _)=_;rw[h];rfl
  rw[<- this];exact q
theorem kl:aC ["one","other"] ["one","other"] (aj cO):=mkS
theorem AB {wt jR} (dS:JQ K mg wt jR):aB P w K mg base bE 1 wt jR ["one","other"] (cB P w true m9):=by
 refine k_ dS.F kl (λds R Mh=> by obtain⟨t,u,e,_⟩ := Mh;subst e;rfl) λbB A outer s H E hr=>⟨_,(au (a5 (FL (pZ ag (cy.m (uu hr.lH)) (aM ag bA (ae (i:=0)) ah) (ae (i:=1))) (zW (pZ ag (cy.m (uu hr.lH)) (aM ag bA (ae (i:=0)) ah) (ae (i:=1))))))),λds R h=>?_⟩
 obtain⟨t,u,rfl,⟨a,b,rfl⟩,q⟩:=h;refine⟨_,rfl,trivial,_,rfl,trivial,_,rfl,_,uY a u,_,rfl,tO (λh=>⟨trivial,?_⟩) (λh=>⟨_,rfl,trivial,_,rfl,trivial,_,rfl,_,uY b u,trivial,?_⟩)⟩
 ·show R _;simpa[mn,h] using q
 ·show R _;simpa[mn,h] using q
theorem fF:aC ["row","tie","many","ties"] ["row","tie"] (aj ei):=mkS
def jY:FD:=λds R=>∃(n:Nat) (ps:List (Nat×Nat)) (t:Nat×Nat),ds=[pW n ps,yJ t]/\va n ps/\R (pW n (ps.filter (M_ t)))
theorem jY.mono:cm jY:=λds R R' k ⟨n,ps,t,e,h,q⟩=>⟨n,ps,t,e,h,k _ q⟩
theorem xJ {lD gD} (wA:Kg K mg lD gD) {wt jR} (dS:JQ K mg wt jR) {wq jQ} (dX:JR K mg wq jQ) (B:Bs3 mg):aB P w K mg base bE 2 lD gD ["row","tie"] (cB P w true jY):=by
 have GX:aB P w K mg base bE 1 _ _ _ (cB P w true nk):=nT dX;have GS:aB P w K mg base bE 1 _ _ _ (cB P w true m9):=AB dS;refine k_ wA.F fF (λds R Mg=> by obtain⟨n,ps,t,e,_⟩ := Mg;subst e;rfl) λbB A outer s H E hr=>⟨_,(ak (kz (ae (i:=0)) (ez (n:=2) rfl (aQ (aA (i:=2) fF.nd) (aQ (aA (i:=3) fF.nd) c_))))
    (au (a5 (bH (aa (ae (i:=2)) (aa (LA ["other","tie"] [none,some 1] (by rfl) (by decide:(["other","tie"]:List Str).Nodup) rfl (b_ (ae (i:=3))) (λ_ _ _ _ _ _=>(aA (i:=0) (by decide:(["other","tie"]:List Str).Nodup))) (λ_ _ _ _ _ _=>(gO (Fu.t (lM (fx (vD (aG m9.mono GS (hr.mono (by decide)) dS.m dS.F.kp dS.b (aa (ae (i:=1)) (aa (ae (i:=0)) af))))) (jz (fx (vD (aG nk.mono GX (hr.mono (by decide)) dX.m dX.F.kp dX.b (aa (ae (i:=1)) (aa (ae (i:=0)) af)))))))))) (λ_ _ _ _ _ _=>(ae (i:=0)))) af)))))),λds R h=>?_⟩
 obtain⟨n,ps,t,rfl,ok,q⟩:=h;refine⟨_,rfl,_,rfl,rfl,_,_,rfl,_,_,rfl,rfl,?_⟩;have J0:=ok.sm;refine⟨_,rfl,trivial,_,rfl,_,rfl,trivial,gh (M_ t) (λp=>kD (tI p)) trivial (dv (by lia)) (λo ho x0 ou J IS j1 j2=>?_) ?_⟩
 ·refine⟨_,rfl,trivial,_,rfl,trivial,tI t,tI o,rfl,⟨_,_,rfl⟩,_,rfl,?_⟩;unfold M_ at j1 j2;cases z1:mn (tI t) (tI o)with
  |true=>exact jI rfl (jI rfl (j2 (by rw[z1];rfl) _))
  |false =>
   refine lB rfl ⟨_,rfl,trivial,_,rfl,trivial,tI t,tI o,rfl,⟨_,_,rfl⟩,⟨_,_,rfl⟩,_,rfl,?_⟩;cases z2:nD (tI t) (tI o)with
   |true=>exact jI rfl (j2 (by rw[z1,z2];rfl) _)
   |false=>exact lB rfl ⟨_,rfl,rfl,IS,j1 (by rw[z1,z2];rfl) _⟩
 exact⟨trivial,jt,trivial,q⟩
theorem lx:aC ["row","point"] ["row","point"] (aj c5):=mkS
def BU:FD:=λds R=>∃(n:Nat) (ps:List NN) (p:Nat),ds=[pW n ps,.int p]/\va n ps/\R (.int (mX (OY ps p) 0 n))
theorem BU.mono:cm BU:=λds R R' k ⟨n,ps,p,e,h,q⟩=>⟨n,ps,p,e,h,k _ q⟩
theorem IA (p:Nat)(t:NN):decide ((p:Int)∈tI t)=(decide (t.1=p) || decide (t.2=p)):=by
 rw[ZT,YS,decide_eq_true_eq,decide_eq_true_eq,decide_eq_true_eq];unfold tI;rw[VB,VD];lia
theorem HG {n9 iS} (yU:Nr K mg n9 iS) {fg cH} (gG:CH K mg fg cH) {eC cg} (jo:yY K mg eC cg) {dR bX} (iV:yF K mg dR bX) {dq bM} (gK:wW K mg dq bM) {cN bo} (fL:D8 K mg cN bo) {cV bC} (gI:D7 K mg cV bC) {cW bD} (gJ:vd K mg cW bD) {ck a7} (e9:D9 K mg ck a7) {dk bL} (gE:wV K mg dk bL) {dU bY} (iW:yE K mg dU bY) {du bN} (iy:wR K mg du bN) {dj bK} (ir:wU K mg dj bK) (B:Bs3 mg):aB P w K mg base bE 7 n9 iS ["row","point"] (cB P w true BU):=by
 have JN:aB P w K mg base bE 6 _ _ _ (cB P w true g9):=lQ gG jo iV gK fL gI gJ e9 gE iW iy ir B;refine k_ yU.F lx (λds R Mf=> by obtain⟨n,ps,p,e,_⟩ := Mf;subst e;rfl) λbB A outer s H E hr=>⟨_,(au (a5 (aM ag bA (aG g9.mono JN (hr.mono (by decide)) gG.m gG.F.kp gG.b (aa (bH (aa (aM ag bA (ae (i:=0)) ah) (aa (LA ["tie","point"] [none,some 1] (by rfl) (by decide:(["tie","point"]:List Str).Nodup) rfl (b_ (aM ag bA (ae (i:=0)) ah)) (λ_ _ _ _ _ _=>(aA (i:=0) (by decide:(["tie","point"]:List Str).Nodup))) (λ_ _ _ _ _ _=>(gO (aS ag (cy.m (xH hr.lH)) (ae (i:=1)) (ae (i:=0))))) (λ_ _ _ _ _ _=>(ae (i:=0)))) af))) af)) ah))),λds R h=>?_⟩
 obtain⟨n,ps,p,rfl,ok,q⟩:=h;have J0:=ok.sm;refine⟨_,rfl,trivial,_,rfl,trivial,_,rfl,trivial,_,rfl,.inr ⟨_,rfl,trivial,gh (λt=>!(decide (t.1=p) || decide (t.2=p))) (λp=>kD (tI p)) trivial (dv (by lia)) (λo ho x0 ou J IS j1 j2=>?_) ?_⟩⟩
 ·refine⟨_,rfl,trivial,_,rfl,_,yp _ _,_,rfl,?_⟩;rw[IA];cases z:(!(decide (o.1=p) || decide (o.2=p)))with
  |true=>exact lB rfl ⟨_,rfl,rfl,IS,j1 z _⟩
  |false=>exact jI rfl (j2 z _)
 exact⟨trivial,jt,trivial,n,OY ps p,rfl,BN ok _,trivial,_,rfl,trivial,q⟩
theorem mw:aC ["row","point","other"] ["row","point","other"] (aj dG):=mkS
def BV:FD:=λds R=>∃(n:Nat) (ps:List NN) (p o:Nat),ds=[pW n ps,.int p,.int o]/\va n ps/\R (.int (1+mX (ps.filter (M_ (mm p o))) 0 n))
theorem BV.mono:cm BV:=λds R R' k ⟨n,ps,p,o,e,h,q⟩=>⟨n,ps,p,o,e,h,k _ q⟩
theorem HI {n_ iT} (yV:Nq K mg n_ iT) {lD gD} (wA:Kg K mg lD gD) {wt jR} (dS:JQ K mg wt jR) {wq jQ} (dX:JR K mg wq jQ) {fg cH} (gG:CH K mg fg cH) {eC cg} (jo:yY K mg eC cg) {dR bX} (iV:yF K mg dR bX) {dq bM} (gK:wW K mg dq bM) {cN bo} (fL:D8 K mg cN bo) {cV bC} (gI:D7 K mg cV bC) {cW bD} (gJ:vd K mg cW bD) {ck a7} (e9:D9 K mg ck a7) {dk bL} (gE:wV K mg dk bL) {dU bY} (iW:yE K mg dU bY) {du bN} (iy:wR K mg du bN) {dj bK} (ir:wU K mg dj bK) (B:Bs3 mg):aB P w K mg base bE 7 n_ iT ["row","point","other"] (cB P w true BV):=by
 have JN:aB P w K mg base bE 6 _ _ _ (cB P w true g9):=lQ gG jo iV gK fL gI gJ e9 gE iW iy ir B;have UO:aB P w K mg base bE 2 _ _ _ (cB P w true jY):=xJ wA dS dX B;refine k_ yV.F mw (λds R Me=> by obtain⟨n,ps,p,o,e,_⟩ := Me;subst e;rfl) λbB A outer s H E hr=>⟨_,(au (a5 (aK aT aH ah (aM ag bA (aG g9.mono JN (hr.mono (by decide)) gG.m gG.F.kp gG.b (aa (aG jY.mono UO (hr.mono (by decide)) wA.m wA.F.kp wA.b (aa (ae (i:=0)) (aa (bH (aa (aX ag (bO.m (u6 rfl)) B.min JD (aa (ae (i:=1)) (aa (ae (i:=2)) af))) (aa (aX ag (bO.m (u7 rfl)) B.max nH (aa (ae (i:=1)) (aa (ae (i:=2)) af))) af))) af))) af)) ah)))),λds R h=>?_⟩
 obtain⟨n,ps,p,o,rfl,ok,q⟩:=h;have e1:wB [.int (p:Int),.int (o:Int)]=some (.int ((min p o:Nat):Int)):=by
  rw[B9]
  congr 2
  split <;> lia
 have e2:B_ [.int (p:Int),.int (o:Int)]=some (.int ((max p o:Nat):Int)):=by
  rw[show B_ [.int (p:Int),.int (o:Int)]=some (.int (if (o:Int)>p then (o:Int) else p)) from rfl]
  congr 2
  split <;> lia
 refine⟨trivial,_,rfl,trivial,_,rfl,trivial,_,rfl,trivial,_,e1,trivial,_,rfl,trivial,_,rfl,trivial,_,e2,trivial,jt,trivial,n,ps,mm p o,rfl,ok,trivial,n,_,rfl,BN ok _,trivial,_,rfl,_,rfl,trivial,q⟩
end
end lY
namespace L2.EX
open PySem PySem.W PySem.Spec PySem.Calls PyProof.Rows Builtin Builtin.ObjectAttr Builtin.Getset_descriptor
def ExcAt (a C:Addr)(h:Heap):Prop:=∃o vs,h.get? a=some o/\o.cls=.ref C/\o.data=.fields vs
theorem ExcAt.ty {a C:Addr}{h:Heap}{M:Z7}(p:ExcAt a C h):Looks M h (typeOf (.ref a)) (.ref C):=by
 obtain⟨o,vs,h1,h2,_⟩:=p;exact h2▸(Looks.ld h1).andThen .now
section
variable {prog:Vz}{w:VG}{A:Wv}{E:Vv->Vw->Prop}{s:Vw}{K:Frag}{x C:Addr}{R:Result->Vw->Prop}
theorem class_get {tp:Vv} (X:K.In s.heap) (I:ExcAt x C s.heap) (hm:mroIn K C (.type "object")=some true)
  (h:R (.ok (.ret (.ref C))) s):X9 (model prog w) A (.call (.builtin "getset_descriptor.__get__") ⟨[.builtin "object.__class__",.ref x,tp],[]⟩) R s:=by
 obtain⟨hh,g,dr,t,os⟩:=s;have L0:=I.ty (M:=model prog w);have L1:=looks_mroIn (M:=model prog w) X hm;refine YY KF.slot_gs.plain KF.entry_gs (KF.slot_gs.check _ _ _ _ _ _ _ _ KF.type_class (KF.args_gs _ _ _) ?_);unfold W4.«getset_descriptor.__get__» descrGet;rw[dga_obj];refine Vu (Vy ?_);unfold descrGetter descrCheckInstance descrNameAndClass isInstance;simp only[KF.owner_class]
 repeat lk
 refine⟨Code.quiet_builtin _ (by decide +kernel),Yg KF.entry_class ?_⟩
 unfold W4.«object.__class__» shownTypeOf
 repeat lk
 exact h
structure XC (K:Frag)(C:Addr):Prop where
 obj:mroIn K C (.type "object")=some true
 base:mroIn K C (.type "BaseException")=some true
 ga:findIn K (.ref C) "__getattribute__" = some (some (.builtin "BaseException.__getattribute__"))
 hook:findIn K (.ref C) "__getattr__" = some none
 cls:findIn K (.ref C) "__class__" = some (some (.builtin "object.__class__"))
theorem Ci {M:Z7} {FW:Vv} {Q:Unit->Vw->Prop} (X:K.In s.heap) (I:ExcAt x C s.heap) (Z:XC K C) (hq:Q () s):VU M A (YK "BaseException.__getattribute__" ⟨[.ref x,FW],[]⟩) Q E s:=by
 obtain⟨hh,g,dr,t,os⟩:=s;have hk:builtinKind "BaseException.__getattribute__" = some .slot:=by decide +kernel
 have IE:splitId "BaseException.__getattribute__" = some ("BaseException","__getattribute__"):=by decide +kernel
 have ha:=F.args_bexc_ga (.ref x) FW;have L0:=I.ty (M:=M);have L1:=looks_mroIn (M:=M) X Z.base;simp only[YK,hk,IE];refine Vu ?_;unfold isInstance
 repeat lk
 exact hq
theorem sZ {tk:Tok}{Q:Fin->Vw->Prop}(X:K.In s.heap)(I:ExcAt x C s.heap)(Z:XC K C)(hq:Q (.done (.ret (.ref C))) s):
  VU (model prog w) A (W4.«object.__getattribute__» ⟨[.ref x,.str "__class__" tk],[]⟩) Q E s:=by
 obtain⟨hh,g,dr,t,os⟩:=s;have L0:=I.ty (M:=model prog w);have L1:=looks_findIn (M:=model prog w) X Z.cls;have L2:=looks_specialIn (M:=model prog w) (K:=K) X (v:=.builtin "object.__class__") (name:="__get__") (r:=some (.builtin "getset_descriptor.__get__")) (by kernel_rfl)
 have L3:=looks_takesIn (M:=model prog w) (K:=K) X (a:=.builtin "object.__class__") (r:=true) (by kernel_rfl)
 unfold W4.«object.__getattribute__»
 repeat (first|(with_reducible refine Vu (Ym (class_get (s:=⟨hh,g,dr,t,os⟩) X I Z.obj ?_)))|(with_reducible refine Ym (class_get (s:=⟨hh,g,dr,t,os⟩) X I Z.obj ?_))|lk)
 exact hq
theorem u5 {Q:Option Vv->Vw->Prop}(X:K.In s.heap)(I:ExcAt x C s.heap)(Z:XC K C)(h:Q (some (.ref C)) {s with toks:=s.toks+1}):VU (model prog w) A (getAttr? (.ref x) "__class__") Q E s:=by
 obtain⟨hh,g,dr,t,os⟩:=s;have L0:=I.ty (M:=model prog w);have L1:=looks_findIn (M:=model prog w) X Z.ga;have L2:=looks_findIn (M:=model prog w) X Z.hook;have f3:=F.attr_ValueError.ga.bind (.ref x);have Pn:(Za "BaseException.__getattribute__" == Za "object.__getattribute__")=false:=by decide +kernel
 have Tz:(onTheHeap (Value.ref C)&&Za "BaseException.__getattribute__" == Za "object.__getattribute__")=false:=by rw[Pn];rfl
 unfold getAttr? getAttrBy? getAttrBy;refine Vu (wpAny_mkText (Vu (Y8 (Wo (Vu (L0.at (Vu (L1.at ?_))))))));dsimp only;rw[if_neg (λq=>by rw[Tz]at q;cases q)]
 unfold getAttrByItsOwn hookBefore onTheHeap callGetattribute boundAndCalled;dsimp only;rw[if_pos rfl];refine Vu (L2.at (Vu (Y8 (Wo ?_))));simp only[Bool.false_and,Bool.false_eq_true,if_false];refine Vu (ZI f3 ?_);refine Ym (YY F.attr_ValueError.ga.plain F.entry_bexc_ga (Ci (s:=⟨hh,g,dr,t+1,os⟩) X I Z (sZ (s:=⟨hh,g,dr,t+1,os⟩) X I Z ?_)));exact handed_on rfl (Vy h)
theorem Bf (Z:XC K C):KitX K (.ref x) (.ref C) (ExcAt x C) where
 ty:=λ_ _ _ I=>I.ty
 it:=λ_ _ X _=>by
  obtain⟨cd,hc,_⟩:=WH.mp Z.obj;unfold clsIn at hc
  split at hc
  ·rename_i c' d' UI vq ho
   intro A' Q' E' s' k q;unfold isType loadHead;exact Vu (wpAny_loadPart (k _ _ (X _ _ ho)) (Vy q))
  ·cases hc
 ne:=λh tp dd its n sl X TM=>by
  obtain⟨cd,hc,_⟩:=WH.mp Z.obj;refine Bool.eq_false_iff.mpr λq=>?_;have e:C=tp:=Value.ref.inj (beq_iff_eq.mp q);subst e;unfold clsIn at hc
  split at hc
  ·rename_i c' d' UI vq ho
   have z:=(X _ _ ho).symm.trans TM;cases z
  ·cases hc
 ca:=λX I k=>u5 X I Z k
end
end L2.EX
namespace L2
open PySem PySem.W PySem.Spec PyProof.Rows
abbrev lF (C a:Addr):HO:=.ext (EX.ExcAt a C)
def D.exc (C:Addr):D:=.ob (lF C)
structure JO (P:Vz)(w:VG)(outer:List Env)(H:Hp)(s:Vw)(a C:Addr)(H':Hp)(s':Vw):Prop where
 os:s'.os=s.os
 bare:Yz s'.gens
 un:Un (gH outer) [] H H' s.heap s'.heap
 a6:gL P w H' s'.heap
 fl:∃(B:Heap) (a0:Vv),X6 B outer a (.ref C) a0 s'.heap/\(∀b,H' b≠none->∃o,B.get? b=some o) /\
  ∀b o,s.heap.get? b=some o->b∉gH outer->∃o',B.get? b=some o'/\(H b=none->o'=o)
 nt:H' a=none
 nw:s.heap.get? a=none
def pH (P:Vz)(w:VG):yZ:=λouter H s E e s'=>∃(a C:Addr) (H':Hp),e=.ref a/\JO P w outer H s a C H' s'/\E (.ref C) none H'
section
variable {P:Vz}{w:VG}{H:Hp}{h h' B:Heap}
theorem oS (x:gL P w H h){b:Addr}(e:H b≠none):∃o,h.get? b=some o:=by
 cases q:H b with
 |none=>exact absurd q e
 |some u =>
  have z:=x b u q;cases u with
  |lst xs=>obtain⟨_,_,_,_,e⟩:=z;exact⟨_,e⟩
  |tup xs=>obtain⟨_,_,_,o,e,_⟩:=z;exact⟨_,e⟩
  |dK kvs=>obtain⟨_,_,_,_,o,_,_,e,_⟩:=z;exact⟨_,e⟩
  |dT kvs=>obtain⟨_,_,_,_,o,_,_,e,_⟩:=z;exact⟨_,e⟩
  |set S n=>obtain⟨o,_,_,_,e,_⟩:=z;exact⟨_,e⟩
  |ins C dx fs=>obtain⟨_,_,_,e,_⟩:=z;exact⟨_,e⟩
  |own y=>obtain⟨_,e⟩:=z;exact⟨_,e⟩
  |xd fs=>obtain⟨_,⟨_,_,_,e,_⟩,_⟩:=z;exact⟨_,e⟩
  |NA lo hi=>obtain⟨_,_,_,e⟩:=z;exact⟨_,e⟩
  |wb ob u=>obtain⟨e,_⟩:=z;exact⟨_,e⟩
  |FC ps=>exact⟨_,(show h.get? b=some _ from z)⟩
  |met f y=>exact⟨_,(show h.get? b=some _ from z)⟩
  |ext φ=>obtain⟨_,e,_⟩:=z;exact e
theorem kO (x:gL P w H h)(st:B.StaysIn h)(qK:B.StaysIn h')(tr:∀b,H b≠none->∃o,B.get? b=some o):gL P w H h':=λb u e =>
 (x b u e).nQ (λc v hc q=>by
  have nc:H c≠none:=by
   rcases hc with rfl|z
   ·rw[e];exact λz=>(nomatch z)
   ·rw[z];exact λz=>(nomatch z)
  obtain⟨o,ho⟩:=tr c nc;rw[st c o ho]at q;cases q;exact qK c _ ho) (λ_ q=>q) λ_ _ q=>q
end
section
variable {X:Cx}{pins:List (Addr×Obj)}{σ:St}{H H':Hp}{s s':Vw}{e C:Addr}
theorem uP {B:Heap}{outer:List Env}{h0 h1 h2:Heap}{H0:Hp}(u:Un (gH outer) [] H0 H h0 h1)(ff:h1.FunFrames B outer)(st:B.StaysIn h2)(up:h1.UpToSlots h2)
  (tr:∀b o,h0.get? b=some o->b∉gH outer->∃o',B.get? b=some o'/\(H0 b=none->o'=o)):Un (gH outer) [] H0 H h0 h2 where
 keep:=λb o e n hb _=>by
  obtain⟨o',e1,e2⟩:=tr b o e hb;rw[<- e2 n];exact st b _ e1
 slot:=λb o e n hb hx=>by
  obtain⟨sl,e1⟩:=u.slot b o e n hb hx;obtain⟨_,o',e2,nf⟩:=ff.mem hb;rw[e1]at e2;cases e2;obtain⟨vq,e3⟩:=up b _ e1 nf;exact⟨vq,e3⟩
 free:=u.free
 there:=λb o e hx=>by
  by_cases hb:b∈gH outer
  ·obtain⟨_,o',e2,nf⟩:=ff.mem hb;obtain⟨vq,e3⟩:=up b _ e2 nf;exact⟨_,e3⟩
  ·obtain⟨o',e1,_⟩:=tr b o e hb;exact⟨o',st b _ e1⟩
 i4:=u.i4
 iH:=u.iH
 i5:=u.i5
theorem uC {vs:List Vv}{hs:Heap}{M:Z7}{E:Vv->Vw->Prop}{Q:Unit->Vw->Prop}(I:Inv X pins σ H s)(hx:X.ex=[])(nW:X.stack=X.env::X.outer)(hf:X.env.frame=some X.env.locals)(m:Heap.MadeExcOf s.heap hs e (.ref C) vs)
  (k:∀zA,JO X.prog X.w X.outer X.H₀ X.s₀ e C H zA->Q () zA):VU M X.A (leaving X.env (.ref e)) Q E {s with heap:=hs}:=by
 have fr:X.A.frames=some (X.env::X.outer):=by rw[<- nW];exact I.ok.frames
 have ff:s.heap.FunFrames X.base (X.env::X.outer):=by rw[<- nW];exact I.stack
 have lU:∀env∈(X.env::X.outer),∀b,env.frame=some b->b∈gH (X.env::X.outer):=λenv he b hb=>XX.mpr ⟨env,he,hb⟩;have nl:∀b o,X.s₀.heap.get? b=some o->b∉X.fs->b∉gH (X.env::X.outer):=λb o eb nb z=>by
  unfold gH at z;rw[We,hf]at z;rcases VB.mp z with z|z
  ·exact absurd (V1 (VR eb) I.ok.above) (by rw[z];exact Xe _)
  ·exact nb z
 have I0:∀b,b∉X.ex:=λb z=>by rw[hx]at z;cases z
 have Rt:(hideAll s.heap (gH (X.env::X.outer))).StaysIn s.heap:=λb o q=>of_hideAll _ q;refine wpAny_leaves_madeW (h:=s.heap) (base:=hideAll s.heap (gH (X.env::X.outer))) fr hf Rt (funFrames_hide ff lU) m λh' t f1 f2 f3 f4=>k _ ?_;have tr:∀b,H b≠none->∃o,(hideAll s.heap (gH (X.env::X.outer))).get? b=some o:=λb nb=>by
  obtain⟨o,ho⟩:=oS I.a6 nb;exact⟨o,hideAll_get _ ho λz=>nb (I.pO b (by rw[nW];exact z))⟩
 have yG:∀b o,X.s₀.heap.get? b=some o->b∉gH X.outer->∃o',(hideAll s.heap (gH (X.env::X.outer))).get? b=some o'/\(X.H₀ b=none->o'=o):=λb o eb nb=>by
  obtain⟨o1,e1⟩:=I.base.there b o eb (I0 b);refine⟨o1,hideAll_get _ e1 (nl b o eb nb),λn=>?_⟩;rw[I.base.keep b o eb n nb (I0 b)]at e1;exact(V5 e1).symm
 have u0:Un (gH X.outer) [] X.H₀ H X.s₀.heap s.heap:=by
  have z:=I.base;rw[hx]at z;exact z
 have Us:s.heap.FunFrames (hideAll s.heap (gH (X.env::X.outer))) X.outer:=(funFrames_hide ff lU).2.2;refine⟨I.os,I.bare,uP u0 Us f1.1 ((Heap.UpToSlots.of_keeps m.keeps).trans f4) yG,kO I.a6 Rt f1.1 tr,⟨_,_,f1,tr,yG⟩,?_,?_⟩
 ·cases q:H e with
  |none=>rfl
  |some u =>
   obtain⟨o,ho⟩:=oS I.a6 (b:=e) (by rw[q];exact λz=>(nomatch z))
   rw[m.new]at ho;cases ho
 ·cases q:X.s₀.heap.get? e with
  |none=>rfl
  |some o =>
   obtain⟨o',e1⟩:=I.base.there e o q (I0 e);rw[m.new]at e1;cases e1
theorem Ba {M:Z7}{E:Vv->Vw->Prop}{Q:Unit->Vw->Prop}(I:Inv X pins σ H s)(hx:X.ex=[])(nW:X.stack=X.env::X.outer)(hf:X.env.frame=some X.env.locals)(f:JO X.prog X.w X.stack H s e C H' s')
  (k:∀zA,JO X.prog X.w X.outer X.H₀ X.s₀ e C H' zA->Q () zA):VU M X.A (leaving X.env (.ref e)) Q E s':=by
 have fr:X.A.frames=some (X.env::X.outer):=by rw[<- nW];exact I.ok.frames
 have I0:∀b,b∉X.ex:=λb z=>by rw[hx]at z;cases z
 obtain⟨os,bare,un,a6,⟨B,a0,fl,tr,yG⟩,nt,nw⟩:=f;rw[nW]at fl un yG;have nl:∀b o,X.s₀.heap.get? b=some o->b∉X.fs->b∉gH (X.env::X.outer):=λb o eb nb z=>by
  unfold gH at z;rw[We,hf]at z;rcases VB.mp z with z|z
  ·exact absurd (V1 (VR eb) I.ok.above) (by rw[z];exact Xe _)
  ·exact nb z
 refine wpAny_leaves_onW fr hf fl λh' f1 f4=>k _ ?_;have u0:Un (gH X.outer) [] X.H₀ H X.s₀.heap s.heap:=by
  have z:=I.base;rw[hx]at z;exact z
 have Og:∀b o,X.s₀.heap.get? b=some o->b∉gH X.outer->∃o',B.get? b=some o'/\(X.H₀ b=none->o'=o):=λb o eb nb=>by
  obtain⟨o1,e1⟩:=I.base.there b o eb (I0 b);obtain⟨o',e2,e3⟩:=yG b o1 e1 (nl b o eb nb);refine⟨o',e2,λn=>?_⟩;rw[I.base.keep b o eb n nb (I0 b)]at e1;cases e1;exact e3 (I.base.free b o eb n (I0 b))
 have u1:Un (gH X.outer) [] X.H₀ H' X.s₀.heap s'.heap:=by
  refine⟨λb o eb n nb _=>?_,λb o eb n hb hx=>?_,λb o eb n hx=>?_,λb o eb hx=>?_,λb xs q=>un.i4 b xs (u0.i4 b xs q),λb o q z=>un.iH b o q (u0.iH b o q z),λb ps q=>?_⟩
  ·obtain⟨o',e1,e2⟩:=Og b o eb nb;rw[<- e2 n];exact fl.1 b _ e1
  ·obtain⟨sl,e1⟩:=u0.slot b o eb n hb hx;have tP:b∈gH (X.env::X.outer):=by unfold gH;rw[We,hf];exact V2 _ hb
   obtain⟨vq,e2⟩:=un.slot b _ e1 (u0.free b o eb n hx) tP (by simp)
   exact⟨vq,e2⟩
  ·obtain⟨o',e1⟩:=u0.there b o eb hx;exact un.free b o' e1 (u0.free b o eb n hx) (by simp)
  ·obtain⟨o',e1⟩:=u0.there b o eb hx;exact un.there b o' e1 (by simp)
  ·obtain⟨m1,e1⟩:=u0.i5 b ps q;obtain⟨m2,e2⟩:=un.i5 b _ e1;exact⟨m1++m2,by rw[e2,Array.append_assoc]⟩
 refine⟨os.trans I.os,bare,uP u1 fl.2.2.1.2.2 f1.1 f4 Og,kO a6 fl.1 f1.1 tr,⟨B,a0,f1,tr,Og⟩,nt,?_⟩;cases q:X.s₀.heap.get? e with
 |none=>rfl
 |some o =>
  obtain⟨o',e1⟩:=I.base.there e o q (I0 e);rw[nw]at e1;cases e1
end
abbrev Cx.yN (X:Cx)(e:Addr):Cx:={X with A:=X.A.mark (some (.ref e)),calm:=false,xe:=λ_ _=>False}
section
variable {X:Cx}{pins:List (Addr×Obj)}{σ:St}{H H':Hp}{s s':Vw}{e C:Addr}
theorem Inv.yN (I:Inv X pins σ H s):Inv (X.yN e) pins σ H s :=
 ⟨⟨I.ok.mod,I.ok.kind,I.ok.glob,I.ok.blt,I.ok.above,I.ok.inj,I.ok.has,I.ok.Fh,(λz=>by cases z),I.ok.frames,I.ok.FH,I.ok.Ga,I.ok.bs,I.ok.yB,I.ok.qh,I.ok.qt,I.ok.iF,I.ok.BJ⟩,I.os,I.bare,I.base,I.loc,I.cell,I.free,I.dQ,I.pin,I.a6,I.len⟩
theorem Inv.Kk (ok:X.Ok)(I:Inv (X.yN e) pins σ H s):Inv X pins σ H s:=⟨ok,I.os,I.bare,I.base,I.loc,I.cell,I.free,I.dQ,I.pin,I.a6,I.len⟩
theorem EO {M:Z7}{A:Wv}{E:Vv->Vw->Prop}{j:Nat}{n:Str}{pos:Pos}{Q:Unit->Vw->Prop}(I:Inv X pins σ H s)(hN:X.N.Nodup)(hj:X.N[j]?=some n)(hl:X.env.scope.names.lookup n=some .local)
  (h:∀s',Inv X pins (σ.set j none) H s'->Q () s'):VU M A (do bindName X.env n .none;unbindBehindTheSuite X.env n pos) Q E s:=by
 obtain⟨m,hn,yO⟩:=id I.loc;have I_:(X.env.scope.kind==.class || (X.env.scope.kind==.module&&X.env.locals != X.env.globals))=false:=by rw[I.ok.kind];rfl
 have Cf:=I.Cf;obtain⟨oL,_,_,RV,_⟩:=id hn;refine wpAny_nameGoes_keeps hl hn I_ λh' v IW hs=>h _ ?_;have JU:gL X.prog X.w H h':=λb ob eb=>by
  refine(I.a6 b ob eb).nQ (λc w' hc q=>(hs.2 c ?_).trans q) (λ_ q=>q) λ_ _ q=>q;rintro rfl;rcases hc with rfl|hc
  ·rw[I.free]at eb;cases eb
  ·rw[I.free]at hc;cases hc
 have nL:∀b o,X.s₀.heap.get? b=some o->b≠X.env.locals:=λb o eb=>V_ (V1 (VR eb) I.ok.above);refine⟨I.ok,I.os,I.bare,⟨λb o eb nb hb hx=>(hs.2 b (nL b o eb)).trans (I.base.keep b o eb nb hb hx),λb o eb nb hb hx=>?_,I.base.free,λb o eb hx=>?_,I.base.i4,I.base.iH,I.base.i5⟩,⟨_,IW,λi y v' e1 e2 e3=>?_⟩,λy c ec=>?_,I.free,I.dQ,λp hp=>?_,JU,by simpa using I.len⟩
 ·obtain⟨sl,e1⟩:=I.base.slot b o eb nb hb hx;exact⟨sl,(hs.2 b (nL b o eb)).trans e1⟩
 ·obtain⟨o',e1⟩:=I.base.there b o eb hx;exact⟨o',(hs.2 b (nL b o eb)).trans e1⟩
 ·by_cases aD:i=j
  ·subst aD;rw[XD]at e2;rw[if_pos rfl]at e2
   split at e2 <;> cases e2
  ·rw[Y2 (Xg aD)]at e2;obtain⟨u',r',q⟩:=yO i y v' e1 e2 e3;refine⟨u',r',?_⟩;rcases q with⟨k,z⟩|⟨k,c,z,z'⟩
   ·refine .inl ⟨k,?_⟩;have ne:y≠n:=λz=>aD (mM hN e1 (z▸hj));simp[ne,z]
   ·exact .inr ⟨k,c,z,z'.sameBut hs (Cf y c z)⟩
 ·obtain⟨w',z⟩:=I.cell y c ec;exact⟨w',z.sameBut hs (Cf y c ec)⟩
 ·obtain⟨e1,n1,ne,nf,d⟩:=I.pin p hp;exact⟨(hs.2 p.1 ne).trans e1,n1,ne,nf,d⟩
theorem JO.land {B:Heap}{a0:Vv}{h6:Heap}{t:Nat}(I:Inv X pins σ H s)(f:JO X.prog X.w X.stack H s e C H' s')(fl:X6 B X.stack e (.ref C) a0 s'.heap)(tr:∀b,H' b≠none->∃o,B.get? b=some o)
  (yG:∀b o,s.heap.get? b=some o->b∉gH X.stack->∃o',B.get? b=some o'/\(H b=none->o'=o)) (f6:X6 B X.stack e (.ref C) a0 h6) (up:s'.heap.UpToSlots h6) :
  Inv X pins σ (upd H' e (lF C e)) {s' with heap:=h6,toks:=t}:=by
 have u:=uP f.un fl.2.2.1 f6.1 up yG;obtain⟨oe,vs,g1,g2,g3,_⟩:=f6.first
 have ex:EX.ExcAt e C h6:=⟨oe,vs,g1,g2,g3⟩;have a6:gL X.prog X.w H' h6:=kO f.a6 fl.1 f6.1 tr;have ne:∀b u,H' b=some u->b≠e:=λb u q z=>by rw[z,f.nt]at q;cases q
 have P8:gL X.prog X.w (upd H' e (lF C e)) h6:=λb u q=>by
  by_cases hb:b=e
  ·subst hb;rw[ao]at q;cases q;exact⟨ex,⟨oe,g1⟩,λh1 h2 Md k=> by obtain⟨o,vs,z1,z2⟩ := Md;exact⟨o,vs,k o z1,z2⟩⟩
  ·rw[ar hb]at q;exact(a6 b u q).nQ (λc v _ q=>q) (λc q=>by rw[ar (ne c _ q)];exact q) λc xs q=>by rw[ar (ne c _ q)];exact q
 have u2:Un (gH X.stack) [] H (upd H' e (lF C e)) s.heap h6:=by
  refine⟨u.keep,u.slot,λb o eb nb hx=>?_,u.there,λb xs q=>?_,λb o q z=>?_,λb ps q=>?_⟩
  ·rw[ar (λz=>by rw[z,f.nw]at eb;cases eb)]
   exact u.free b o eb nb hx
  ·have z:=u.i4 b xs q;rw[ar (ne b _ z)];exact z
  ·have z':=u.iH b o q z;rw[ar (ne b _ z')];exact z'
  ·obtain⟨more,z⟩:=u.i5 b ps q;exact⟨more,by rw[ar (ne b _ z)];exact z⟩
 exact I.Gi (s':={s' with heap:=h6,toks:=t}) f.os u2 P8 f.bare (λb z=>nomatch z)
theorem ExcAt.stays {B h:Heap}{l:List Env}{a0:Vv}(f:X6 B l e (.ref C) a0 h):EX.ExcAt e C h:=by
 obtain⟨oe,vs,g1,g2,g3,_⟩:=f.first
 exact⟨oe,vs,g1,g2,g3⟩
theorem JA {xA n:Str}{CA:Addr}{j:Nat}{np EI:Pos}{b₀:Stmt}{qZ:List Stmt}{Q:Flow->Vw->Prop}{E:Vv->Vw->Prop}(I:Inv X pins σ H s)(nW:X.stack=X.env::X.outer)(hf:X.env.frame=some X.env.locals)
  (f:JO X.prog X.w X.stack H s e C H' s') (hm:X.mg xA=some (.ref CA)) (hg:Gl X xA) (hx:exmOne X.K (.ref C) (.ref CA)=some true) (hN:X.N.Nodup) (hj:X.N[j]?=some n) (hl:X.env.scope.names.lookup n=some .local)
  (k:∀s1,Inv (X.yN e) pins (σ.set j (some (.ref e))) (upd H' e (lF C e)) s1->VU (model X.prog X.w) (X.yN e).A (execs (b₀::qZ) X.env)
   (λf s4=>VU (model X.prog X.w) X.A (do bindName X.env n .none;unbindBehindTheSuite X.env n EI) (λ_ s5=>Q f s5) E s4) (λ_ _=>False) s1) (hd:(xA==("__debug__" : Str))=false:=by decide) :
  VU (model X.prog X.w) X.A (noteFrame (.ref e) X.env) (λ_ s₂=>VU (model X.prog X.w) X.A (setFlight (.ref e) none) (λ_ s₃ =>
   VU (model X.prog X.w) X.A (handleBy (.ref e) X.env [.ExceptHandler (some (.Name xA np)) (some n) (b₀::qZ) EI]) Q E s₃) E s₂) E s':=by
 have fr:X.A.frames=some (X.env::X.outer):=by rw[<- nW];exact I.ok.frames
 obtain⟨B,a0,fl,tr,yG⟩:=f.fl;have Ur:X6 B (X.env::X.outer) e (.ref C) a0 s'.heap:=by rw[<- nW];exact fl
 refine wpAny_looks_onW fr hf Ur λh4 MP Ru=>?_;refine wpAny_landsW MP λh5 MN FI=>?_;have F6:X6 B X.stack e (.ref C) a0 h5:=by rw[nW];exact MN
 have I5:Inv X pins σ (upd H' e (lF C e)) {s' with heap:=h5}:=f.land (t:=s'.toks) I fl tr yG F6 (Ru.trans FI)
 refine wpAny_handleBy_cons (codeAny_handlers_test ?_) (by intro q;cases q)
 refine il (X:=X.yN e) (Inv.yN I5) hg hm ?_ hd;refine(exm_one (M:=model X.prog X.w) I5.ya (ExcAt.stays F6).ty hx).here ?_;rw[if_pos rfl];refine codeAny_handlers_suite_as ?_;refine lands_againW MN λh6 Qp SV=>?_;have MM:X6 B X.stack e (.ref C) a0 h6:=by rw[nW];exact Qp
 have I6:Inv X pins σ (upd H' e (lF C e)) {s' with heap:=h6}:=f.land (t:=s'.toks) I fl tr yG MM ((Ru.trans FI).trans SV)
 refine me (X:=X.yN e) (Inv.yN I6) hN hj (.inl hl) (v:=.ref e) rfl (λs7 I7=>?_) (.inr hl);exact XE (k s7 I7) (λf s8 z=>z) λ_ _ z=>z.elim
end
end L2
namespace L2.Q
open PySem PySem.W PySem.Spec PySem.SeqAt PyProof.Rows
abbrev JP:=List D->(D->Prop)->(Addr->Prop)->Prop
def pF (F:JP):Prop:=∀ds R R' T T',(∀d,R d->R' d)->(∀c,T c->T' c)->F ds R T->F ds R' T'
def i6 (P:Vz)(w:VG)(ro:Bool)(F:JP):Sp:=λvs H Q E=>∃ds,ai P w (λ_=>False) H ds vs/\F ds (λd=>∀v H',ay H H'->oq P w ro H H' d v->Q v H') (λcl=>∀H',ay H H'->E (.ref cl) none H')
structure QW (X:Cx)(H0:Hp)(IO:Addr->Prop)(T:Addr->Prop):Prop where
 made:∀pins σ H s e cl hs vs,Inv X pins σ H s->Kp IO H0 H->Heap.MadeExcOf s.heap hs e (.ref cl) vs->T cl->X.xe (.ref e) {s with heap:=hs}
 pass:Passes (pH X.prog X.w) X (λcv _ H'=>∃cl,cv=.ref cl/\T cl/\Kp IO H0 H')
 own:ZD (model X.prog X.w) X.A X.env X.xe
abbrev XR (H:Hp)(E:XK)(cl:Addr):Prop:=∀H',ay H H'->E (.ref cl) none H'
theorem gM {P:Vz}{w:VG}{K:Frag}{mg:Str->Option Vv}{base:Heap}{N:List Str}{qual:Str}{scope:Xw}{f:Addr}{cd:Vv}{A:Wv}{outer:List Env}{s:Vw}{H:Hp}{E:XK}:
  QW (kS (pH P w) P w K mg base N qual scope f cd A outer s H E) H (λ_=>False) (XR H E) where
 made:=λpins σ H1 s1 e cl hs vs I k m t=>uC I rfl rfl rfl m λzA fl=>⟨e,cl,H1,rfl,fl,t H1 λb o z=>k.out b o z λz=>z⟩
 pass:=λpins σ H1 s1 e s' I Mc=> by
  obtain⟨a,cl,H',ea,fl,UH,QH,t,k⟩ := Mc;cases ea;cases QH;exact Ba I rfl rfl rfl fl λzA fl=>⟨a,cl,H',rfl,fl,t H' λb o z=>k.out b o z λz=>z⟩
 own:=PassesOwn.leaving
abbrev N2:List Vv:=[.type "ValueError",.type "Exception",.type "BaseException",.type "object"]
structure Xc (K:Frag)(mg:Str->Option Vv)(x:Str)(C:Addr):Prop where
 m:mg x=some (.ref C)
 exc:excIn K C N2 "ValueError.__new__" = true
theorem Xc.own {K:Frag} {mg:Str->Option Vv} {x:Str} {C:Addr} {h:Heap} (z:Xc K mg x C) (X:K.In h):OwnCls x C N2 "ValueError.__new__" mg h:=by
 refine⟨z.m,?_⟩;have q:=z.exc;unfold excIn at q
 split at q
 ·rename_i dd cd sl ho
  split at q
  ·rename_i C' bm k0 k1 k2 k3 n k5 hm hs
   simp only[Wf,beq_iff_eq,Bool.not_eq_true']at q;obtain⟨⟨⟨⟨⟨rfl,rfl⟩,MR⟩,ht⟩,a6⟩,NS⟩:=q;obtain⟨nm,bs,mro,ns,qn,hd,sn,sub,ab,col,del⟩:=cd;dsimp only at hm MR a6 NS;subst hm MR;have CQ:sl=#[k0,k1,k2,k3,some (.builtin "ValueError.__new__"),k5]:=by
    obtain⟨l⟩:=sl;simp only at hs;rw[hs]
   subst CQ;exact⟨bm,ns,nm,qn,bs,hd,sn,sub,ab,col,dd,k0,k1,k2,k3,k5,_,X _ _ ho,.of_isNs (isNs_of_in X a6),nsMap_none_of_in X a6 NS,tail_of_in X ht⟩
  ·cases q
 ·cases q
section
variable {X:Cx}{C:Cfg}{T:Addr->Prop}{x:Str}{cl:Addr}{np cpos pos M5:Pos}{m:Str}
theorem mH {j}(Z:QW X C.H0 C.IO T)(hc:X.calm=true)(hx:Xc X.K X.mg x cl)(hg:Gl X x:=by rfl)(hd:(x==("__debug__" : Str))=false:=by decide)
  (he:VE [.Constant (.str m) j M5] X.env=[(false,eval (.Constant (.str m) j M5) X.env)]:=by rfl) (hp:(WR cpos (VE [.Constant (.str m) j M5] X.env)).any (·.1)=false:=by rfl) :
  PB X C (.Raise (some (.Call (.Name x np) [.Constant (.str m) j M5] [] cpos)) none pos) (λ_ _=>T cl) :=
 ⟨λ_ _ _ _ h=>h,λpins s σ H D I Mb=> by
  obtain⟨_,E,β,⟨own,sq,n⟩,t,_⟩ := Mb;obtain⟨tl,N,nm,q,bs,hdct,sn,sub,ab,col,dd,k0,k1,k2,k3,k5,mN,hC,hN,NS,TL⟩:=(hx.own I.ya).obj;have FB:=PySem.F.excBase_ValueError;refine wpAny_Raise_call_subT (C:=cl) (nm:=nm) (q:=q) (N:=N) (bs:=bs) (bm:=tl) (hdct:=hdct) (sn:=sn) (sub:=sub) (ab:=ab) (col:=col) (dd:=dd) (k0:=k0) (k1:=k1) (k2:=k2) (k3:=k3) (k5:=k5)
   FB (mN:=mN) (TL.hasType FB.hasBase) (I.ok.hd hc) hp NS (il I hg hx.m ⟨rfl,?_⟩ hd)
  rw[he];refine Calls.evalArgs_plain ?_;show VU _ _ (spliced ((false,eval (.Constant (.str m) j M5) X.env)::WR cpos [])) _ _ _;refine Zi (Calls.Constant_str (Zu ⟨rfl,(by show 1<=VH;decide),hC,hN,TL,λh' e mk=>?_⟩))
  exact Z.made pins σ H {s with toks:=s.toks+1} e cl h' _ (I.tok _) sq.kp mk t⟩
end
section
variable {X:Cx}{C:Cfg}{k:Nat}{f:Addr}{fd:VW}{ps:List Str}{F:JP}{ro p:Bool}{x:Str}{pp pos:Pos}{e:Expr}{es:List Expr}{φs:cc}{T:Addr->Prop}
def KP (ro:Bool)(F:JP)(T:Addr->Prop)(φs:cc):aE:=λβ R=>φs β λds _ β1=>F ds (λd=>R d (rk ro) β1) T
theorem jA (Z:QW X C.H0 C.IO T)(mF:pF F)(G:aB X.prog X.w X.K X.mg X.base (pH X.prog X.w) k f fd ps (i6 X.prog X.w ro F))(hr:cS k X.A)(hm:X.mg x=some (.ref f))(hk:PySem.W.keepIn X.K (.ref f)=true)(hb:Binds X.K fd ps [])(ha:qF X C p (e::es) φs)(hg:Gl X x:=by rfl)
  (hdb:(x==("__debug__" : Str))=false:=by decide)
  (iE:VE (e::es) X.env=(false,eval e X.env)::VE es X.env:=by rfl) (hpl:(WR pos (VE es X.env)).any (·.1)=false:=by rfl) :
  PQ X C p (.Call (.Name x pp) (e::es) [] pos) (KP ro F T φs) :=
 ⟨λβ R R' k h=>ha.mono β _ _ (λds ks β1 q=>mF ds _ _ _ _ (λd q=>k _ _ _ q) (λ_ z=>z) q) h,(p_ G hr hg hm hk hb .nil Z.pass ha.pa (hdb:=hdb) (he:=iE) (hpl:=hpl)).pre λσ H Q ⟨β,own,s,h⟩=>qJ.of ha s h λds ks β1 vs H1 aw q o1 r1=>by
  rw[WB];exact⟨ds,r1.bor,mF ds _ _ _ _ (λd q2 v H' s2 r2=>q2 v H' aw (o1.same s2) (r2.kv o1.sq.qw o1.sq.eZ λa z=>o1.sn.d a z)) (λc t H' s2=>⟨c,rfl,t,o1.sq.kp.trans s2.kp⟩) q⟩⟩
end
section
variable {P:Vz}{w:VG}{K:Frag}{mg:Str->Option Vv}{base:Heap}
theorem AQ {x qual:Str}{st:Stmt}{f:Addr}{fd:VW}{N ps:List Str}{k:Nat}{F:JP}{ro:Bool}(G:wO K x qual st f fd)(S:aC N ps (aj st))(len:∀ds R T,F ds R T->ds.length=ps.length)
  (fV:∀(bB:Vv) (A:Wv) (outer:List Env) (s:Vw) (H:Hp) (E:XK),cS k (A.deeper (Ye qual (aj st) s.heap.objs.size f bB)) ->
   ∃ψ,qG (kS (pH P w) P w K mg base N qual (aj st) f bB A outer s H E) ⟨H,λ_=>False,ro,λ_=>False⟩ (dh st) ψ/\∀ds R,F ds R (XR H E)->ψ {nx:=λ_=>R .cU,rt:=λd _=>R d} (startB N ds)) :
  aB P w K mg base (pH P w) (k+1) f fd ps (i6 P w ro F):=by
 obtain⟨oc,od,kV,doc,pm,an,bB,ct,DM,rfl,lk,v_⟩:=G.ex;refine F_ lk v_ S (λvs H Q E h=>?_) (λA outer s H vs Q E hr h=>?_)
 ·obtain⟨ds,r,h⟩:=h;rw[r.length];exact len ds _ _ h
 ·obtain⟨ds,r,h⟩:=h;obtain⟨ψ,hb,hF⟩:=fV bB A outer s H E hr;refine⟨_,hb.ps,(H,Wn λ_=>[]),_,startB N ds,⟨λ_=>[],mf r,Sn.refl⟩,hF ds _ h,λσ H' β sb q=>?_,λσ H' β d v sb rr q=>?_,λ_ _ _ _ z=>z.elim,λ_ _ _ _ z=>z.elim⟩
  ·obtain⟨own,s',n'⟩:=sb;exact q _ H' (λb o e=>s'.kp.out b o e (λz=>z)) (dB (W:=λ_=>False) rfl rfl)
  ·obtain⟨own,s',n'⟩:=sb;exact q _ H' (λb o e=>s'.kp.out b o e (λz=>z)) rr
theorem aB.toX {k:Nat}{f:Addr}{fd:VW}{ps:List Str}{F:FD}{ro:Bool}(G:aB P w K mg base bE k f fd ps (cB P w ro F)):aB P w K mg base (pH P w) k f fd ps (i6 P w ro λds R _=>F ds R) :=
 ⟨λvs H Q E h=>G.len vs H Q E0 h,λA outer s H args us vs Q E hr e0 hb r hs=>Xa (G.run A outer s H args us vs Q E0 hr e0 hb r hs) λres s' q=>by
  cases res with
  |error e=>exact q.elim
  |ok fl=>cases fl <;> exact q⟩
end
abbrev _root_.L2.Cx.Dx (X:Cx)(pins:List (Addr×Obj))(Eh:Vv->Vw->Prop):Cx:={X with pn:=X.pn++pins,xe:=Eh}
section
variable {X:Cx}{pins gT:List (Addr×Obj)}{σ:St}{H:Hp}{s:Vw}{Eh:Vv->Vw->Prop}
theorem HF (ok:X.Ok):(X.Dx pins Eh).Ok:=⟨ok.mod,ok.kind,ok.glob,ok.blt,ok.above,ok.inj,ok.has,ok.Fh,ok.hd,ok.frames,ok.FH,ok.Ga,ok.bs,ok.yB,ok.qh,ok.qt,ok.iF,ok.BJ⟩
theorem vY (I:Inv X (pins++gT) σ H s):Inv (X.Dx pins Eh) gT σ H s:=⟨HF I.ok,I.os,I.bare,I.base,I.loc,I.cell,I.free,I.dQ,λp hp=>I.pin p (by rw[<- WT];exact hp),I.a6,I.len⟩
theorem z5 (ok:(X.Dx pins Eh).Ok):X.Ok:=⟨ok.mod,ok.kind,ok.glob,ok.blt,ok.above,ok.inj,ok.has,ok.Fh,ok.hd,ok.frames,ok.FH,ok.Ga,ok.bs,ok.yB,ok.qh,ok.qt,ok.iF,ok.BJ⟩
theorem Dw (I:Inv (X.Dx pins Eh) gT σ H s):Inv X (pins++gT) σ H s:=⟨z5 I.ok,I.os,I.bare,I.base,I.loc,I.cell,I.free,I.dQ,λp hp=>I.pin p (by rw[<- WT]at hp;exact hp),I.a6,I.len⟩
theorem gS (I:Inv (X.Dx pins Eh) gT σ H s):Inv X pins σ H s:=⟨z5 I.ok,I.os,I.bare,I.base,I.loc,I.cell,I.free,I.dQ,λp hp=>I.pin p (V3 _ hp),I.a6,I.len⟩
theorem Hn {es:List Expr}{t:TA}(h:PA X.rR es t):PA (X.Dx pins Eh) es t:=λpos gT s σ H Q I q =>
 XE (h pos (pins++gT) s σ H Q ((Dw I).jq _) q) (λ_ _ Ma=> by obtain⟨vs,H',I',r,q⟩ := Ma;exact⟨vs,H',vY I'.dZ,r,q⟩) λ_ _ z=>z.elim
theorem GK {D:Ends}{f:Flow}{s':Vw}(h:SP (X.Dx pins Eh) [] D f s'):SP X pins D f s':=by
 cases f with
 |next=>obtain⟨σ',H',I,q⟩:=h;exact⟨σ',H',gS I,q⟩
 |brk=>obtain⟨σ',H',I,q⟩:=h;exact⟨σ',H',gS I,q⟩
 |cont=>obtain⟨σ',H',I,q⟩:=h;exact⟨σ',H',gS I,q⟩
 |ret u=>obtain⟨v,σ',H',I,r,q⟩:=h;exact⟨v,σ',H',gS I,r,q⟩
end
theorem Ag {X:Cx}{CX:yZ}{k:Nat}{f:Addr}{fd:VW}{ps:List Str}{sp:Sp}{x:Str}{p pos:Pos}{e:Expr}{es:List Expr}{t:TA}(F:aB X.prog X.w X.K X.mg X.base CX k f fd ps sp)(hr:cS k X.A)(hg:Gl X x)(hm:X.mg x=some (.ref f))
  (hk:PySem.W.keepIn X.K (.ref f)=true) (hb:Binds X.K fd ps []) (ha:PA X (e::es) t) (hdb:(x==("__debug__" : Str))=false:=by decide) (he:VE (e::es) X.env=(false,eval e X.env)::VE es X.env:=by rfl)
  (hpl:(WR pos (VE es X.env)).any (·.1)=false:=by rfl) :
  PE X (.Call (.Name x p) (e::es) [] pos) (λσ H Q=>t σ H λvs H1=>∃E:XK,sp vs H1 Q E/\∀pins s e s',Inv X pins σ H1 s->CX X.stack H1 s E e s'->X.xe e s'):=by
 intro pins s σ H Q I h;refine W8 (il I hg hm ?_ hdb);refine PySem.W.callWith_K (h₀:=X.base) I.ok.mod.JZ hk (bt (ha pos pins s σ H _ I h) λus s1 ⟨vs,H1,I1,r,q⟩=>⟨I1.ya,?_⟩) he hpl;obtain⟨E,q,hx⟩:=q;have r2:Vals (vs++[]) (us++[]):=r.append .nil;have hl:(us++[]).length=ps.length:=by rw[<- r2.length,WB];exact F.len _ _ _ _ q
 refine Ym (Xa (F.run X.A X.stack s1 H1 ⟨us,[]⟩ (us++[]) (vs++[]) Q E hr I1.Jk (hb s1 us I1.ya hl) r2 (by rw[WB];exact q)) λr s' hq=>?_)
 cases r with
 |error e=>exact hx pins s1 e s' I1 hq
 |ok fl =>
  cases fl with
  |ret u=>exact I1.after hq
  |next=>exact WJ hq
  |brk=>exact WJ hq
  |cont=>exact WJ hq
abbrev CC:=cz->(Addr->Prop)->aJ->Prop
structure TB (X:Cx)(C:Cfg)(body:List Stmt)(θ:CC):Prop where
 mono:∀E E' T T' β,Le E E'->(∀c,T c->T' c)->θ E T β->θ E' T' β
 run:∀(pins:List (Addr×Obj)) (s:Vw) (σ:St) (H:Hp) (D:Ends) (Eh:Vv->Vw->Prop) (Z:Hp×(Addr->Prop)) (E:cz) (β:aJ) (own:Nat->List Addr) (T:Addr->Prop),Inv X pins σ H s->SQ X C.z σ H β own->Sn Z H (Wn own)->Sj X C Z E D->θ E T β ->
  (∀s1 H1 e s',Inv X pins σ H1 s1->ay H H1->pH X.prog X.w X.stack H1 s1 (λcv _ H'=>∃cl,cv=.ref cl/\ay H1 H'/\T cl) e s'->Eh e s')->VU (model X.prog X.w) X.A (execs body X.env) (SP X pins D) Eh s
section
variable {X:Cx}{C:Cfg}{k:Nat}{f:Addr}{fd:VW}{ps:List Str}{F:JP}{ro:Bool}{x:Str}{pp pos cp:Pos}{e c:Expr}{es:List Expr}{φs:cc}{a b:List Stmt}{θa θb:CC}{τ:aP}
theorem zl (hc:u_ X.rR C.z true c τ)(ha:TB X C a θa)(hb:TB X C b θb):TB X C [.If c a b pos] (λE T β=>τ β λt β'=>if t=true then θa E T β' else θb E T β') where
 mono:=λE E' T T' β l m h=>hc.mono _ _ _ (λt β' q=>by
  cases t
  ·exact hb.mono E E' T T' β' l m q
  ·exact ha.mono E E' T T' β' l m q) h
 run:=λpins s σ H D Eh Z E β own T I sq n ok h hE=>by
  refine Zx (bt (Q:=SP X pins D) (wpAny_If (bt (hc.pt.rR (X:=X.jq Eh) pins s σ H _ (I.jq Eh) (iN.of (X:=X.rR) hc sq h λt β' H1 aw q o1=>(⟨β',aw,q,o1⟩:∃β' aw,(if t=true then θa E T β' else θb E T β')/\Out X C.z σ H own true β' H1 aw))) λd s1 ⟨H1,I1,β',aw,q1,o1⟩=>?_)) λfl s1 q=>?_)
  ·obtain⟨sm,rfl⟩:=o1.pu rfl;have R_:∀s2 H2 e s',Inv X pins σ H2 s2->ay H1 H2->pH X.prog X.w X.stack H2 s2 (λcv _ H'=>∃cl,cv=.ref cl/\ay H2 H'/\T cl) e s'->Eh e s':=λs2 H2 e s' I2 Nw q=>hE s2 H2 e s' I2 (sm.trans Nw) q;cases d with
   |true=>exact ha.run pins s1 σ H1 D Eh Z E β' aw T I1.dZ o1.sq (n.same sm) ok q1 R_
   |false=>exact hb.run pins s1 σ H1 D Eh Z E β' aw T I1.dZ o1.sq (n.same sm) ok q1 R_
  ·cases fl with
   |next=>exact XW q
   |ret v=>exact q
   |brk=>exact q
   |cont=>exact q
theorem lI (mF:pF F)(G:aB X.prog X.w X.K X.mg X.base (pH X.prog X.w) k f fd ps (i6 X.prog X.w ro F))(hr:cS k X.A)(hm:X.mg x=some (.ref f))(hk:PySem.W.keepIn X.K (.ref f)=true)(hb:Binds X.K fd ps [])(ha:qF X.rR C.z true (e::es) φs)(hg:Gl X x:=by rfl)
  (hdb:(x==("__debug__" : Str))=false:=by decide) (iE:VE (e::es) X.env=(false,eval e X.env)::VE es X.env:=by rfl) (hpl:(WR cp (VE es X.env)).any (·.1)=false:=by rfl)
  (oR:WU (.Call (.Name x pp) (e::es) [] cp) none pos.line X.env=pure false:=by rfl) :
  TB X C [.Expr (.Call (.Name x pp) (e::es) [] cp) pos] (λE T β=>φs β λds _ β1=>F ds (λ_=>E.nx β1) T) where
 mono:=λE E' T T' β l m h=>ha.mono _ _ _ (λds ks β1 q=>mF ds _ _ _ _ (λ_ q=>l.nx _ q) m q) h
 run:=λpins s σ H D Eh Z E β own T I sq n ok h hE=>by
  have P:=ia (jx (X:=X.Dx pins Eh) (pos:=pos) (Ag (X:=X.Dx pins Eh) (p:=pp) (pos:=cp) G hr hg hm hk hb (Hn ha.pa) hdb iE hpl) oR);refine bt (P [] s σ H D (vY (by rw[WB];exact I)) ?_) λfl s' q=>GK q
  refine qJ.of (X:=X.rR) ha sq h λds ks β1 vs H1 aw q o1 r1=>?_;obtain⟨sm,rfl⟩:=o1.pu rfl;refine⟨λcv _ H'=>∃cl,cv=.ref cl/\ay H1 H'/\T cl,⟨ds,r1.bor,mF ds _ _ _ _ (λd q2 v H' s2 r2=>?_) (λcl t H' s2=>⟨cl,rfl,s2,t⟩) q⟩,λgT s1 e s' I1 q=>hE s1 H1 e s' (gS I1) sm q⟩;exact ok.nx _ _ _ ⟨aw,o1.sq.same s2,(n.same sm).same s2⟩ q2
end
section
variable {P:Vz}{w:VG}{C:Cfg}{σ:St}{H:Hp}{β:aJ}{own:Nat->List Addr}
theorem bz.Dg {i:Nat}(b:bz P w C σ H β own):bz P w C (σ.set i none) H (β.set i none) (aI own i []):=by
 have sub:∀y a,eD C (Wn (aI own i [])) (yk y) a->eD C (Wn own) (yk y) a:=λy=>eX (λa h=>gN h) _;refine⟨by simp[b.len],λj y' d' e=>?_,λj d' e=>?_,λj ok e=>?_,λj a h=>b.dm j a (bu h).1,λj k a h1 h2=>b.iI j k a (bu h1).1 (bu h2).1,λj=>?_,b.kp,b.eZ,λj y' d' e=>?_⟩
 ·by_cases aD:i=j
  ·subst aD;obtain⟨e',hl⟩:=aR e;cases e'
  ·rw[aN aD]at e ⊢
   obtain⟨u,h1,h2⟩:=b.val j y' d' e;exact⟨u,h1,h2.aO (sub _)⟩
 ·by_cases aD:i=j
  ·subst aD;obtain⟨e',hl⟩:=aR e;cases e'
  ·rw[aN aD]at e ⊢
   rw[a_ aD];exact b.ow j d' e
 ·by_cases aD:i=j
  ·subst aD;obtain⟨e',hl⟩:=aR e;cases e'
  ·rw[aN aD]at e ⊢
   rw[a_ aD];exact b.jL j ok e
 ·by_cases aD:i=j
  ·rw[aD,os_eq];exact Wg
  ·rw[a_ aD];exact b.jE j
 ·by_cases aD:i=j
  ·subst aD;obtain⟨e',hl⟩:=aR e;cases e'
  ·rw[aN aD]at e ⊢
   rw[a_ aD];obtain⟨u,h1,h2,h3⟩:=b.shl j y' d' e;exact⟨u,h1,h2.map (λ_ _ _ z=>z) (λ_ _ r=>ai.aO (sub _) r),h3⟩
end
section
variable {X:Cx}{C:Cfg}{body qZ:List Stmt}{b₀:Stmt}{θ:CC}{ψ:wM}{j:Nat}{xA n:Str}{CA:Addr}{np EI pos:Pos}
theorem Di {P:Vz}{w:VG}{σ:St}{H H':Hp}{β:aJ}{own:Nat->List Addr}{e cl:Addr}(b:bz P w C.z σ H β own)(sm:ay H H')(nt:H' e=none):az P w (eD C.z (Wn own) .d9) (upd H' e (lF cl e)) (.exc cl) (.ref e) :=
 ⟨e,rfl,⟨ao,λxs z=>(by cases z)⟩,λz=>by
  have b':=b.same sm;rcases z with (z|z)|z
  ·exact b'.qw e z nt
  ·exact b'.eZ e z nt
  ·exact z⟩
theorem Hm (nW:X.stack=X.env::X.outer)(hf:X.env.frame=some X.env.locals)(hb:TB X C body θ)(hs:∀e,qG (X.yN e) C (b₀::qZ) ψ)(hm:X.mg xA=some (.ref CA))(hN:X.N.Nodup)(hj:X.N[j]?=some n:=by rfl)(hl:X.env.scope.names.lookup n=some .local:=by rfl)(hg:Gl X xA:=by rfl)
  (hd:(xA==("__debug__" : Str))=false:=by decide) :
  PB X C (.Try body [.ExceptHandler (some (.Name xA np)) (some n) (b₀::qZ) EI] [] [] pos)
   (λE β=>∃T:Addr->Prop,θ E T β/\∀cl,T cl->exmOne X.K (.ref cl) (.ref CA)=some true/\ψ {nx:=λβ'=>E.nx (β'.set j none),rt:=λ_ _=>False} (β.set j (some (.val true (.exc cl))))) :=
 ⟨λE E' β l L_=> by obtain⟨T,h,k⟩ := L_;exact⟨T,hb.mono E E' T T β l (λ_ z=>z) h,λcl t=>⟨(k cl t).1,(hs 0).mono {nx:=λβ'=>E.nx (β'.set j none),rt:=λ_ _=>False} {nx:=λβ'=>E'.nx (β'.set j none),rt:=λ_ _=>False} _ ⟨λβ' q=>l.nx _ q,λ_ _ z=>z,λ_ z=>z,λ_ z=>z⟩ (k cl t).2⟩⟩,λpins s σ H D I L9=> by
  obtain⟨Z,E,β,⟨own,sq,sn⟩,⟨T,h,k⟩,ok⟩ := L9;refine wpAny_Try_except (bt (hb.run pins s σ H D _ Z E β own T I sq sn ok h λs1 H1 e s' I1 sm cx=>?_) λfl s1 q=>?_)
  ·obtain⟨a,cl,H',rfl,QB,UH,QH,Nw,t⟩:=cx;cases QH;obtain⟨hx,hk⟩:=k cl t;refine JA (X:=X) I1 nW hf QB hm hg hx hN hj hl (λs2 I2=>?_) hd;have s3:ay H (upd H' a (lF cl a)):=(sm.trans Nw).trans (ay.new QB.nt);have OD:SQ X C.z (σ.set j (some (.ref a))) (upd H' a (lF cl a)) (β.set j (some (.val true (.exc cl)))) (aI own j []):=(sq.same s3).fE (Di sq (sm.trans Nw) QB.nt);refine bt ((hs a).ps pins s2 _ _ {nx:=λσ' H'=>D.nx (σ'.set j none) H',rt:=λ_ _=>False} I2 ⟨Z,_,_,⟨_,OD,kg (sn.same s3)⟩,hk,⟨λσ' H' β' sb q=>?_,λ_ _ _ _ _ _ _ z=>z.elim,λ_ _ _ _ z=>z.elim,λ_ _ _ _ z=>z.elim⟩⟩) λfl s4 q=>?_
   ·obtain⟨aL,SR,SU⟩:=sb;exact ok.nx _ _ _ ⟨_,SR.Dg,kg SU⟩ q
   ·cases fl with
    |next =>
     obtain⟨σ4,H4,I4,q4⟩:=q;exact EO (X:=X) (I4.Kk I1.ok) hN hj hl λs5 I5=>⟨_,H4,I5,q4⟩
    |brk=>obtain⟨_,_,_,z⟩:=q;exact z.elim
    |cont=>obtain⟨_,_,_,z⟩:=q;exact z.elim
    |ret u=>obtain⟨_,_,_,_,_,z⟩:=q;exact z.elim
  ·cases fl with
   |next=>exact XW q
   |ret v=>exact q
   |brk=>exact q
   |cont=>exact q⟩
variable {e:Expr}{φ:aE}{p:Bool}{T:Str}{pp pT:Pos}{cA:Addr}
structure Xk (K:Frag)(cl:Addr)(c:Vv)(b:Bool):Prop where
 xc:EX.XC K cl
 is:kitOne K (.ref cl) c=some b
def G3 (K:Frag)(c:Vv)(φ:aE):aE:=λβ R=>φ β λd _ β1=>∃cl b,d=.exc cl/\Xk K cl c b/\R (.bl b) .own β1
inductive CV:V->Vv->Prop where
 |own (a:Addr):CV (.ref a) (.ref a)
 |ty (n:String):CV (.ty n) (.type n)
theorem CV.rel {v:V}{c u:Vv}(h:CV v c)(r:RelV v u):u=c:=by
 cases h with
 |own a=>exact r
 |ty n=>exact r
theorem Co {c:Vv} {vc:V} (hc:CV vc c):eY X (.builtin "isinstance") (λxs H Q=>∃a cl b,xs=[.ref a,vc]/\H a=some (lF cl a)/\Xk X.K cl c b/\Q (.bl b) H):=by
 intro pins s σ H xs us Q I r h;obtain⟨a,cl,b,rfl,ha,z,q⟩:=h;obtain⟨u1,u2,rfl,r1,r2⟩:∃u1 u2,us=[u1,u2]/\RelV (.ref a) u1/\RelV vc u2:=by
  cases r with
  |cons r1 r =>
   cases r with
   |cons r2 r=>cases r;exact⟨_,_,rfl,r1,r2⟩
 cases r1;obtain⟨ex,_,_⟩:=I.a6 a _ ha;have e2:=hc.rel r2;subst e2;exact kia_one (EX.Bf z.xc) I.ya ex z.is (λz=>by cases z) λtk=>⟨.bl b,H,I.tok _,rfl,q⟩
theorem Jj {P:Vz}{w:VG}{W:Addr->Prop}{H:Hp}{cl:Addr}{v:V}(h:az P w W H (.exc cl) v):∃a,v=.ref a/\H a=some (lF cl a):=by
 obtain⟨a,rfl,⟨h1,_⟩,_⟩:=h;exact⟨a,rfl,h1⟩
theorem zX {c:Vv} {vc:V} {ce:Expr} (hm:X.mg "isinstance" = none) (he:PQ X C p e φ) (hc:CV vc c) (Uc:PE X ce (tC vc)) (hg:Gl X "isinstance" := by rfl)
  (iE:VE [e,ce] X.env=(false,eval e X.env)::VE [ce] X.env:=by rfl) (Bp:VE [ce] X.env=(false,eval ce X.env)::VE [] X.env:=by rfl) (hpl:(WR pos (VE [ce] X.env)).any (·.1)=false:=by rfl) :
  PQ X C p (.Call (.Name "isinstance" pp) [e,ce] [] pos) (G3 X.K c φ) :=
 ⟨λβ R R' k h=>he.mono β _ _ (λd kd β1 L8=> by obtain⟨cl,b,ed,z,q⟩ := L8;exact⟨cl,b,ed,z,k _ _ _ q⟩) h,
  (gV (Co hc) hg hm JE (bj he.pe (bj Uc dz Bp) iE) (by decide) (by decide) (he:=iE) (hpl:=hpl)).pre λσ H Q ⟨β,own,s,h⟩=>tQ.of he s h λd kd β1 v H1 aw hq o1 r1=>by
  obtain⟨cl,b,ed,z,q⟩:=hq;subst ed;obtain⟨a,rfl,ha⟩:=Jj r1.rep;exact⟨a,cl,b,rfl,ha,z,q _ H1 aw o1 Bd⟩⟩
theorem d6 (hm:X.mg "isinstance" = none) (he:PQ X C p e φ) (hT:X.mg T=some (.ref cA)) (hg:Gl X "isinstance" := by rfl) (Qn:Gl X T:=by rfl) (Qs:(T==("__debug__" : Str))=false:=by decide)
  (iE:VE [e,.Name T pT] X.env=(false,eval e X.env)::VE [.Name T pT] X.env:=by rfl) (Bp:VE [.Name T pT] X.env=(false,eval (.Name T pT) X.env)::VE [] X.env:=by rfl) (hpl:(WR pos (VE [.Name T pT] X.env)).any (·.1)=false:=by rfl) :
  PQ X C p (.Call (.Name "isinstance" pp) [e,.Name T pT] [] pos) (G3 X.K (.ref cA) φ):=zX hm he (.own cA) (DB Qn hT rfl Qs) hg iE Bp hpl
theorem Hg {n:String} (hm:X.mg "isinstance" = none) (he:PQ X C p e φ) (hT:X.mg T=none) (bT:Wq T=some (.type n)) (hg:Gl X "isinstance" := by rfl) (Qn:Gl X T:=by rfl) (TY:T≠"__name__" := by decide) (Qs:(T==("__debug__" : Str))=false:=by decide)
  (iE:VE [e,.Name T pT] X.env=(false,eval e X.env)::VE [.Name T pT] X.env:=by rfl) (Bp:VE [.Name T pT] X.env=(false,eval (.Name T pT) X.env)::VE [] X.env:=by rfl) (hpl:(WR pos (VE [.Name T pT] X.env)).any (·.1)=false:=by rfl) :
  PQ X C p (.Call (.Name "isinstance" pp) [e,.Name T pT] [] pos) (G3 X.K (.type n) φ):=zX hm he (.ty n) (DD Qn hT bT rfl TY Qs) hg iE Bp hpl
end
def Oc:List Str:=["NoRow","NoTie","NoStretch","NoWeights","NoNumber","NoSet","NoGap","NoPlace","NoShape","NoText","NoForm","NoneYet"]
structure XA (K:Frag)(mg:Str->Option Vv)(cA:Addr)(c:Nat->Addr):Prop where
 QU:mg "ArchError" = some (.ref cA)
 nm:∀i x,Oc[i]?=some x->mg x=some (.ref (c i))
 exc:∀i,i<12->excIn K (c i) N2 "ValueError.__new__" = true
 xc:∀i,i<12->EX.XC K (c i)
 is:∀i,i<12->∀j,j<12->kitOne K (.ref (c i)) (.ref (c j))=some (decide (i=j))
 val:∀i,i<12->kitOne K (.ref (c i)) (.type "ValueError")=some true
 Uv:∀i,i<12->exmOne K (.ref (c i)) (.ref cA)=some true
def Od (K:Frag)(cA:Addr)(c:Nat->Addr):Bool:=(VF 12).all λi=>excIn K (c i) N2 "ValueError.__new__" && (mroIn K (c i) (.type "object")==some true&&(mroIn K (c i) (.type "BaseException")==some true &&
 (findIn K (.ref (c i)) "__getattribute__" == some (some (.builtin "BaseException.__getattribute__"))&&(findIn K (.ref (c i)) "__getattr__" == some none&&(findIn K (.ref (c i)) "__class__" == some (some (.builtin "object.__class__")) &&
 (kitOne K (.ref (c i)) (.type "ValueError")==some true&&(exmOne K (.ref (c i)) (.ref cA)==some true&&(VF 12).all λj=>kitOne K (.ref (c i)) (.ref (c j))==some (decide (i=j)))))))))
theorem Ki {K:Frag} {mg:Str->Option Vv} {cA:Addr} {c:Nat->Addr} (h:Od K cA c=true) (a:mg "ArchError" = some (.ref cA)) (n:∀i x,Oc[i]?=some x->mg x=some (.ref (c i))):XA K mg cA c:=by
 have q:∀i,i<12->_:=λi hi=>WM.mp h i (Wl.mpr hi);simp only[Wf,beq_iff_eq,WM,Wl]at q;exact⟨a,n,λi hi=>(q i hi).1,λi hi=>⟨(q i hi).2.1,(q i hi).2.2.1,(q i hi).2.2.2.1,(q i hi).2.2.2.2.1,(q i hi).2.2.2.2.2.1⟩,λi hi j hj=>(q i hi).2.2.2.2.2.2.2.2 j hj,λi hi=>(q i hi).2.2.2.2.2.2.1,λi hi=>(q i hi).2.2.2.2.2.2.2.1⟩
section
variable {K:Frag}{mg:Str->Option Vv}{cA:Addr}{c:Nat->Addr}
theorem XA.x (Z:XA K mg cA c)(i:Nat){x:Str}(h:Oc[i]?=some x:=by rfl)(hi:i<12:=by decide):Xc K mg x (c i):=⟨Z.nm i x h,Z.exc i hi⟩
theorem XA.k (Z:XA K mg cA c){i j:Nat}(hi:i<12)(hj:j<12):Xk K (c i) (.ref (c j)) (decide (i=j)):=⟨Z.xc i hi,Z.is i hi j hj⟩
theorem XA.kv (Z:XA K mg cA c) {i:Nat} (hi:i<12):Xk K (c i) (.type "ValueError") true:=⟨Z.xc i hi,Z.val i hi⟩
end
theorem JB:Wq "ValueError" = some (.type "ValueError"):=by decide +kernel
end L2.Q
namespace L2
open PySem PySem.Spec PyProof.Rows
structure tE (k:Nat)(A:Wv):Prop where
 dp:A.depth+3*k+5<ZY
 un:A.units+16*k+200<XQ
theorem cS.yN {j k:Nat}{A:Wv}{e:Option Vv}(r:cS k A)(h:j<=k):tE j (A.mark e):=⟨(r.mono h).dp,(r.mono h).un⟩
section
variable {P:Vz}{w:VG}{K:PySem.W.Frag}{mg:Str->Option Vv}{base:Heap}
abbrev N1 (P:Vz)(w:VG)(K:PySem.W.Frag)(mg:Str->Option Vv)(base:Heap)(N:List Str)(qual:Str)(scope:Xw)(f:Addr)(cd:Vv)(A:Wv)(outer:List Env)(s:Vw)(H:Hp)(E:XK):Cx:={(kS bE P w K mg base N qual scope f cd A outer s H E).rR with calm:=false}
structure Nn (P:Vz)(w:VG)(K:PySem.W.Frag)(mg:Str->Option Vv)(base:Heap)(k:Nat)(f:Addr)(fd:VW)(ps:List Str)(sp:Sp):Prop where
 len:∀vs H Q E,sp vs H Q E->vs.length=ps.length
 run:∀(A:Wv) (outer:List Env) (s:Vw) (H:Hp) (args:Args) (us:List Vv) (vs:List V) (Q:VK) (E:XK),tE k A->CG P w K mg base A outer s H->ZV s fd args (ps.zip us)->Vals vs us->sp vs H Q E ->
  X9 (model P w) A (.call (.ref f) args) (CR bE outer P w H s Q E) s
theorem wO.O3 {x qual:Str}{st:Stmt}{f:Addr}{fd:VW}{N ps:List Str}{k:Nat}{sp:Sp}(F:wO K x qual st f fd)(S:aC N ps (aj st))(len:∀vs H Q E,sp vs H Q E->vs.length=ps.length)
  (fV:∀(bB:Vv) (A:Wv) (outer:List Env) (s:Vw) (H:Hp) (vs:List V) (Q:VK) (E:XK),tE k (A.deeper (Ye qual (aj st) s.heap.objs.size f bB))->sp vs H Q E ->
   ∃t,qE (N1 P w K mg base N qual (aj st) f bB A outer s H E) (dh st) t/\t {nx:=λ_ H'=>Q .cU H',rt:=Q} (start N vs) H):Nn P w K mg base (k+1) f fd ps sp:=by
 obtain⟨oc,od,kV,doc,pm,an,bB,ct,DM,rfl,lk,v_⟩:=F.ex;refine⟨len,λA outer s H args us vs Q E hr e0 hb r iE=>?_⟩;have hl:=len _ _ _ _ iE;have KX:K.In s.heap:=e0.mod.JZ.keeps λb o e=>(e0.bs b o e).1;have lim:s.heap.NoLimit:=e0.mod.nolimit.keeps λb o e=>(e0.bs b o e).1;have BB:∀y∈ps.zip us,(aj st).names.lookup y.1=some .local\/((aj st).names.lookup y.1=some .cell/\((cellsFrom (s.heap.objs.size+1) (aj st).names []).lookup y.1).isSome=true):=λy hy =>
  (S.par y.1 (YQ hy).1).imp id λq=>⟨q,PySem.W.cellsFrom_some _ _ _ (.inl q)⟩
 refine codeAny_call_function (by have:=hr.dp;lia) (KX _ _ lk) rfl S.co S.gen rfl (PySem.W.codeRec_of KX v_) (hb _ _ _ _ ?_)
 refine ZW S.kind BB λenv he s1 x=>?_;subst he;refine⟨lim.keeps x.toInCall.keep,codeAny_func ?_⟩;obtain⟨t,ht,hq⟩:=fV bB A outer s H vs Q E ⟨by have:=hr.dp;show A.depth+1+3*k+5<_;lia,by have:=hr.un;show A.units+3+16*k+200<_;lia⟩ iE
 have J:=oP (CX:=bE) (N:=N) (scope:=aj st) (A:={A with handled:=none}) (E:=E) (f:=f) (cd:=bB) (qual:=qual) S rfl ⟨e0.frames,e0.mod,e0.bs,e0.yB,e0.iF,e0.BJ,e0.a6,e0.bare⟩ hl r x
 have I:Inv (N1 P w K mg base N qual (aj st) f bB A outer s H E) [] (start N vs) H s1 :=
  ⟨⟨J.ok.mod,J.ok.kind,J.ok.glob,J.ok.blt,J.ok.above,J.ok.inj,J.ok.has,J.ok.Fh,(λz=>by cases z),J.ok.frames,J.ok.FH,J.ok.Ga,J.ok.bs,J.ok.yB,J.ok.qh,J.ok.qt,J.ok.iF,J.ok.BJ⟩,J.os,J.bare,J.base,J.loc,J.cell,J.free,J.dQ,J.pin,J.a6,J.len⟩
 refine XE (ht [] s1 (start N vs) H _ I hq) (λfl s' hs=>?_) λe s' hs=>hs.elim;have fin:∀{σ':St} {H':Hp} {v:V} {u:Vv},Inv (N1 P w K mg base N qual (aj st) f bB A outer s H E) [] σ' H' s'->RelV v u->Q v H'->CE outer P w H s Q u s' :=
  λ{σ' H' v u} J rv q=>⟨v,H',J.os,J.bare,J.base,J.a6,rv,q⟩
 cases fl with
 |ret u =>
  obtain⟨v,σ',H',J,rv,q⟩:=hs;exact fin J rv q
 |next =>
  obtain⟨σ',H',J,q⟩:=hs;exact fin (v:=V.cU) (u:=Value.none) J rfl q
 |brk =>
  obtain⟨_,_,_,q⟩:=hs;exact WJ q
 |cont =>
  obtain⟨_,_,_,q⟩:=hs;exact WJ q
end
namespace Q
open PySem.W
section
variable {P:Vz}{w:VG}{K:PySem.W.Frag}{mg:Str->Option Vv}{base:Heap}
theorem O2 {x qual:Str}{st:Stmt}{f:Addr}{fd:VW}{N ps:List Str}{k:Nat}{F:FD}{ro:Bool}(G:wO K x qual st f fd)(S:aC N ps (aj st))(len:∀ds R,F ds R->ds.length=ps.length)
  (fV:∀(bB:Vv) (A:Wv) (outer:List Env) (s:Vw) (H:Hp) (E:XK),tE k (A.deeper (Ye qual (aj st) s.heap.objs.size f bB)) ->
   ∃ψ,qG (N1 P w K mg base N qual (aj st) f bB A outer s H E) ⟨H,λ_=>False,ro,λ_=>False⟩ (dh st) ψ/\∀ds R,F ds R->ψ (eN R) (startB N ds)) :
  Nn P w K mg base (k+1) f fd ps (cB P w ro F):=by
 refine G.O3 S (λvs H Q E h=>?_) (λbB A outer s H vs Q E hr h=>?_)
 ·obtain⟨ds,r,h⟩:=h;rw[r.length];exact len ds _ h
 ·obtain⟨ds,r,h⟩:=h;obtain⟨ψ,hb,hF⟩:=fV bB A outer s H E hr;refine⟨_,hb.ps,(H,Wn λ_=>[]),_,startB N ds,⟨λ_=>[],mf r,Sn.refl⟩,hF ds _ h,λσ H' β sb q=>?_,λσ H' β d v sb rr q=>?_,λ_ _ _ _ z=>z.elim,λ_ _ _ _ z=>z.elim⟩
  ·obtain⟨own,s',n'⟩:=sb;exact q _ H' (λb o e=>s'.kp.out b o e (λz=>z)) (dB (W:=λ_=>False) rfl rfl)
  ·obtain⟨own,s',n'⟩:=sb;exact q _ H' (λb o e=>s'.kp.out b o e (λz=>z)) rr
theorem aB.wH {k:Nat}{f:Addr}{fd:VW}{ps:List Str}{ro:Bool}{F:FD}{F2:List D->(Addr->Prop)->Prop}(G1:aB P w K mg base bE k f fd ps (cB P w ro F))(G2:aB P w K mg base (pH P w) k f fd ps (i6 P w ro λds _ T=>F2 ds T)):aB P w K mg base (pH P w) k f fd ps (i6 P w ro λds R T=>F ds R\/F2 ds T):=by
 have G1:=aB.toX G1;refine⟨λvs H Q E h=>?_,λA outer s H args us vs Q E hr e0 hb r h=>?_⟩
 ·obtain⟨ds,r,h|h⟩:=h
  ·exact G1.len vs H Q E ⟨ds,r,h⟩
  ·exact G2.len vs H Q E ⟨ds,r,h⟩
 ·obtain⟨ds,rr,h|h⟩:=h
  ·exact G1.run A outer s H args us vs Q E hr e0 hb r ⟨ds,rr,h⟩
  ·exact G2.run A outer s H args us vs Q E hr e0 hb r ⟨ds,rr,h⟩
end
variable {X:Cx}{C:Cfg}{k:Nat}{f:Addr}{fd:VW}{ps:List Str}{F:FD}{ro p:Bool}{x:Str}{pp pos:Pos}{e:Expr}{es:List Expr}{φs:cc}
theorem zY (mF:cm F)(G:Nn X.prog X.w X.K X.mg X.base k f fd ps (cB X.prog X.w ro F))(hr:tE k X.A)(hm:X.mg x=some (.ref f))(hk:PySem.W.keepIn X.K (.ref f)=true)(hb:Binds X.K fd ps [])(ha:qF X C p (e::es) φs)(hg:Gl X x:=by rfl)
  (hdb:(x==("__debug__" : Str))=false:=by decide)
  (iE:VE (e::es) X.env=(false,eval e X.env)::VE es X.env:=by rfl) (hpl:(WR pos (VE es X.env)).any (·.1)=false:=by rfl) :
  PQ X C p (.Call (.Name x pp) (e::es) [] pos) (KQ ro F φs):=by
 have call:PE X (.Call (.Name x pp) (e::es) [] pos) (FG (cB X.prog X.w ro F) [] E0 (qJ X C p φs)):=by
  intro pins s σ H Q I h;refine W8 (il I hg hm ?_ hdb);refine PySem.W.callWith_K (h₀:=X.base) I.ok.mod.JZ hk (bt (ha.pa pos pins s σ H _ I h) λus s1 hq=>?_) iE hpl;obtain⟨vs,H1,I1,r,q⟩:=hq;have r2:Vals (vs++[]) (us++[]):=r.append .nil;have hl:(us++[]).length=ps.length:=by rw[<- r2.length];exact G.len _ _ _ _ q
  refine⟨I1.ya,Ym (Xa (G.run X.A X.stack s1 H1 ⟨us,[]⟩ (us++[]) (vs++[]) Q E0 hr I1.Jk (hb s1 us I1.ya hl) r2 q) λr s' hq=>?_)⟩;cases r with
  |error e=>exact(Am (X:=X) pins σ H1 s1 e s' I1 hq)
  |ok fl =>
   cases fl with
   |ret u=>exact I1.after hq
   |next=>exact WJ hq
   |brk=>exact WJ hq
   |cont=>exact WJ hq
 exact⟨λβ R R' k h=>ha.mono β _ _ (λds ks β1 q=>mF ds _ _ (λd q=>k _ _ _ q) q) h,call.pre λσ H Q ⟨β,own,s,h⟩=>qJ.of ha s h λds ks β1 vs H1 aw q o1 r1=>by
  rw[WB];exact⟨ds,r1.bor,mF ds _ _ (λd q2 v H' s2 r2=>q2 v H' aw (o1.same s2) (r2.kv o1.sq.qw o1.sq.eZ λa z=>o1.sn.d a z)) q⟩⟩
end Q
end L2
namespace L2.Q
open PySem
def JY (ks:List Int)(rs:List (List Int))(g:Int)(p:Nat)(x:Int):Int:=(fU ([N3 ks rs g p]++((qI ks rs g p ks.length).filter λu=>decide ([x,ks.getD u.1.toNat 0]∈eW rs)).map λu=>u.2)).getD 0
theorem Ct {ks:List Int}{rs:List (List Int)}{g:Int}{p:Nat}{x:Int}(_:0<=g)(_:p<ks.length):fU ([N3 ks rs g p]++((qI ks rs g p ks.length).filter λu=>decide ([x,ks.getD u.1.toNat 0]∈eW rs)).map λu=>u.2)=some (JY ks rs g p x):=rfl
def tj (ks:List Int)(rs:List (List Int))(g:Int)(p:Nat)(l:List Int):Int:=(fU (l.map (JY ks rs g p))).getD 0
def ux (ks:List Int)(rs:List (List Int))(g:Int)(p:Nat)(l:List Int):List (Int×Int):=l.map λx=>(x,JY ks rs g p x)
theorem Ec {ks:List Int}{rs:List (List Int)}{g:Int}{p:Nat}{l:List Int}(h:l≠[]):fU ((ux ks rs g p l).map (·.2))=some (tj ks rs g p l):=by
 unfold ux tj;rw[WO];cases l with
 |nil=>exact absurd rfl h
 |cons _ _=>rfl
def kR:FD:=λds R=>∃ks rs g p l,ds=[.lst (List.map D.int ks),.lst (List.map kD rs),.int g,.int ((p:Nat):Int)]/\CF ks rs g p l/\∀d,R d
theorem kR.mono:cm kR:=λds R R' k h=>by obtain⟨ks,rs,g,p,l,e,h1,q⟩:=h;exact⟨ks,rs,g,p,l,e,h1,λd=>k _ (q d)⟩
variable {c:Nat->Addr}
def gw (c:Nat->Addr):JP:=λds R T=>∃g:Int,ds=[.int g]/\((0<=g/\R .cU)\/(g<0/\T (c 6)))
theorem gw.mono:pF (gw c):=λds R R' T T' k l h=>by obtain⟨g,e,h⟩:=h;exact⟨g,e,h.imp (λz=>⟨z.1,k _ z.2⟩) λz=>⟨z.1,l _ z.2⟩⟩
structure KrOk (ks:List Int)(rs:List (List Int)):Prop where
 k:ks.length<=27
 r:rs.length<=300
 pr:Pairs rs
def tq (c:Nat->Addr)(ds:List D)(T:Addr->Prop):Prop:=∃(a b:List D) (g:Int),ds=[.lst a,.lst b,.int g]/\g<0/\T (c 6)
def Fm (c:Nat->Addr)(ds:List D)(T:Addr->Prop):Prop:=∃(ks:List Int) (rs:List (List Int)) (g p:Int),ds=[.lst (ks.map D.int),.lst (rs.map kD),.int g,.int p]/\KrOk ks rs/\((g<0/\T (c 6))\/(0<=g/\¬ (0<=p/\p<ks.length)/\T (c 7)))
def Fl (c:Nat->Addr)(ds:List D)(T:Addr->Prop):Prop:=∃(ks:List Int) (b x:D) (g p:Int),ds=[.lst (ks.map D.int),b,.int g,.int p,x]/\((g<0/\T (c 6))\/(0<=g/\¬ (0<=p/\p<=ks.length)/\T (c 7)))
theorem tq.mono (F:FD)(hF:cm F):pF λds R T=>F ds R\/tq c ds T:=λds R R' T T' k l h=>h.imp (hF ds _ _ k) λh=>by obtain⟨a,b,g,e,h1,h⟩:=h;exact⟨a,b,g,e,h1,l _ h⟩
theorem Fm.mono:pF λds R T=>kR ds R\/Fm c ds T:=λds R R' T T' k l h=>h.imp (kR.mono ds _ _ k) λh=>by obtain⟨ks,rs,g,p,e,h1,h⟩:=h;exact⟨ks,rs,g,p,e,h1,h.imp (λz=>⟨z.1,l _ z.2⟩) λz=>⟨z.1,z.2.1,l _ z.2.2⟩⟩
theorem Fl.mono:pF λds R T=>kQ ds R\/Fl c ds T:=λds R R' T T' k l h=>h.imp (kQ.mono ds _ _ k) λh=>by obtain⟨ks,b,x,g,p,e,h⟩:=h;exact⟨ks,b,x,g,p,e,h.imp (λz=>⟨z.1,l _ z.2⟩) λz=>⟨z.1,z.2.1,l _ z.2.2⟩⟩
end L2.Q
namespace lY
open PySem L2 L2.Q
section
variable {P:Vz}{w:VG}{K:PySem.W.Frag}{mg:Str->Option Vv}{base:Heap}
theorem aU:aC ["kinds","pairs","gap","place","row","fits","alone","tied","numbers","kind","best"] ["kinds","pairs","gap","place"] (aj c7):=mkS
theorem AO {og jS} (Ce:Oa K mg og jS) {fc cM} (fY:D6 K mg fc cM) {dW cb} (fj:D4 K mg dW cb) {fh cI} (iJ:D5 K mg fh cI) {n9 iS} (yU:Nr K mg n9 iS) {n_ iT} (yV:Nq K mg n_ iT) {lD gD} (wA:Kg K mg lD gD) {wt jR} (dS:JQ K mg wt jR) {wq jQ} (dX:JR K mg wq jQ) {fg cH} (gG:CH K mg fg cH) {eC cg} (jo:yY K mg eC cg) {dR bX} (iV:yF K mg dR bX) {dq bM} (gK:wW K mg dq bM) {cN bo} (fL:D8 K mg cN bo) {cV bC} (gI:D7 K mg cV bC) {cW bD} (gJ:vd K mg cW bD) {ck a7} (e9:D9 K mg ck a7) {dk bL} (gE:wV K mg dk bL) {dU bY} (iW:yE K mg dU bY) {du bN} (iy:wR K mg du bN) {dj bK} (ir:wU K mg dj bK) (B:Gp mg) (BK:wX mg):aB P w K mg base bE 8 og jS ["kinds","pairs","gap","place"] (cB P w true kR):=by
 have Fx:aB P w K mg base bE 2 _ _ _ (cB P w true jU):=uv fY fj iJ BK;have Rf:aB P w K mg base bE 1 _ _ _ (cB P w true Ji):=FR iJ;have UR:aB P w K mg base bE 7 _ _ _ (cB P w true BU):=HG yU gG jo iV gK fL gI gJ e9 gE iW iy ir B.toBs3;have UT:aB P w K mg base bE 7 _ _ _ (cB P w true BV):=HI yV wA dS dX gG jo iV gK fL gI gJ e9 gE iW iy ir B.toBs3;refine k_ Ce.F aU (λds R L7=> by obtain⟨ks,rs,g,p,l,e,_⟩ := L7;subst e;rfl) λbB A outer s H E hr=>⟨_,(ak (bg (i:=4) (aG jU.mono Fx (hr.mono (by decide)) fY.m fY.F.kp fY.b (aa (ae (i:=0)) (aa (ae (i:=1)) (aa (ae (i:=2)) af)))) aU.nd)
    (ak (dw (fx (eG ah (cq fG (ae (i:=3)) (fy cQ (aX ag (bO.m bf) B.len di (aa (ae (i:=0)) af)))))) dy bw)
    (ak (bg (i:=5) (aG Ji.mono Rf (hr.mono (by decide)) iJ.m iJ.F.kp iJ.b (aa (ae (i:=1)) af)) aU.nd)
    (ak (bg (i:=6) (aG BU.mono UR (hr.mono (by decide)) yU.m yU.F.kp yU.b (aa (ae (i:=4)) (aa (ae (i:=3)) af))) aU.nd)
    (ak (dH (i:=7) (λ_=>UC (Nat.lt_of_succ_lt hr.fD) ["other","row","place","gap"] [none,some 4,some 3,some 2] (by rfl) (by decide:(["other","row","place","gap"]:List Str).Nodup) rfl (b6 B.range (aa (aX ag (bO.m bf) B.len di (aa (ae (i:=0)) af)) af)) (λ_ _ _ _ _ _=>(aA (i:=0) (by decide:(["other","row","place","gap"]:List Str).Nodup))) (λ_ _ _ _ _ _=>(gO (aS ag (cy.m qd) (aX ag (bO.m yz) B.abs JG (aa (aK ag (cy.m bx) (ae (i:=0)) (ae (i:=2))) af)) (ae (i:=3))))) (λ_ _ _ _ _ _=>(ae (i:=0))) (λ_ _ _ _ _ _=>(aG BV.mono UT (hr.mono (by decide)) yV.m yV.F.kp yV.b (aa (ae (i:=1)) (aa (ae (i:=2)) (aa (ae (i:=0)) af)))))) aU.nd)
    (ak (Al (i:=8) aU.nd)
    (rM 7 (ak (gW WV rfl (b_ (zT rfl (Dt rfl (ae (i:=0)) B.set) (OI ["pair","either"] [none,none] (by rfl) (by decide:(["pair","either"]:List Str).Nodup) rfl (b_ (ae (i:=1))) (λ_ _ _ _ _ _=>(aA (i:=0) (by decide:(["pair","either"]:List Str).Nodup))) (λ_ _ _ _ _ _=>eK) (λ_ _ _ _ _ _=>(xw (i:=0))) (λ_ _ _ _ _ _=>(aA (i:=1) (by decide:(["pair","either"]:List Str).Nodup))) (λ_ _ _ _ _ _=>eK) (λ_ _ _ _ _ _=>(ae (i:=1)))) B.sorted)) (aA (i:=9) aU.nd) (au (Ak (i:=8) hr.fD (λ_=>(aX ag (bO.m (pz rfl)) B.max nH (aa (aK aT aH (a8 (aa (ae (i:=6)) af)) (LA ["other","tied","fits","kind","kinds"] [none,some 7,some 5,some 9,some 0] (by rfl) (by decide:(["other","tied","fits","kind","kinds"]:List Str).Nodup) rfl (rH (ae (i:=7))) (λ_ _ _ _ _ _=>(aA (i:=0) (by decide:(["other","tied","fits","kind","kinds"]:List Str).Nodup))) (λ_ _ _ _ _ _=>(gO (aS ag (cy.m (vO hr.fD)) (bH (aa (ae (i:=3)) (aa (aM ag bA (ae (i:=4)) (ae (i:=0))) af))) (ae (i:=2))))) (λ_ _ _ _ _ _=>(vE hr.fD (ae (i:=1)) (ae (i:=0)))))) af))) (λ_=>(ae (i:=9))))))
    (ak (bg (i:=10) (um (i:=8) rfl B.max) aU.nd)
    (rM 8 (au (a5 (bH (aa (ae (i:=10)) (aa (LA ["kind","best","numbers"] [none,some 10,some 8] (by rfl) (by decide:(["kind","best","numbers"]:List Str).Nodup) rfl (rH (ae (i:=8))) (λ_ _ _ _ _ _=>(aA (i:=0) (by decide:(["kind","best","numbers"]:List Str).Nodup))) (λ_ _ _ _ _ _=>(gO (aS ag (cy.m (gc hr.units)) (vE hr.fD (ae (i:=2)) (ae (i:=0))) (ae (i:=1))))) (λ_ _ _ _ _ _=>(ae (i:=0)))) af))))))))))))))),λds R h=>?_⟩
 obtain⟨ks,rs,g,p,l,rfl,ok,q⟩:=h;have hk:=ok.k;have hp:=ok.p;have tok:=FE (ks:=ks) (ps:=rs) (g:=g) (by lia)
 refine⟨_,rfl,trivial,_,rfl,trivial,_,rfl,trivial,ks,rs,g,rfl,by lia,ok.r,ok.pr,ok.g,?_⟩
 refine⟨_,rfl,_,rfl,lB (decide_eq_true (by lia)) ⟨_,rfl,trivial,_,rfl,_,rfl,_,rfl,jI (by show (!decide _)=false;rw[decide_eq_true (by rw[Vt];lia)];rfl) ?_⟩⟩
 refine⟨_,rfl,trivial,rs,rfl,ok.r,ok.pr,?_⟩;refine⟨_,rfl,trivial,_,rfl,trivial,ks.length,tK ks rs g,p,rfl,tok,?_⟩;refine⟨_,rfl,trivial,_,rfl,trivial,(ks.length:Int),by rw[Vt],by lia,by lia,trivial,?_⟩
 rw[X5];refine Ic (l:=VF ks.length) (λi o=>o=nV (qI ks rs g p i)) rfl rfl (λi x hx x0 o J hs j=>?_) λx0 o hs=>?_
 ·obtain⟨hi,rfl⟩:i<ks.length/\x=i:=by
   obtain⟨h1,h2⟩:=VN.mp hx;rw[V9]at h1;rw[List.getElem_range]at h2;exact⟨h1,h2.symm⟩
  subst hs;rw[Int.zero_add];have hl:=vn (ks:=ks) (rs:=rs) (g:=g) (p:=p) (m:=x);have T3:(nV (qI ks rs g p x)).length<VH:=by
   unfold nV;rw[Vt,WD];lia
  have nx:=zk (ks:=ks) (rs:=rs) (g:=g) (p:=p) hi;have fe:g<(if (x:Int)-(p:Int)<0 then -((x:Int)-(p:Int)) else (x:Int)-(p:Int))↔NX g p x=true:=by
   unfold NX;rw[decide_eq_true_eq]
   split <;> lia
  refine⟨_,rfl,trivial,_,rfl,_,rfl,trivial,_,rfl,trivial,_,rfl,_,rfl,_,rfl,tO (λh=>?_) λh=>?_⟩
  ·refine⟨_,rfl,_,rfl,trivial,_,rfl,trivial,_,rfl,trivial,ks.length,tK ks rs g,p,x,rfl,tok,(x:Int),rfl,rfl,pL (Gy hi),T3,j _ _ ?_⟩;rw[nx,fe.mp h,if_pos rfl];unfold nV;rw[VI];rfl
  ·exact j _ _ (by rw[nx,if_neg (mt fe.mpr h)])
 ·subst hs;rw[V9];refine⟨trivial,trivial,(by show 8<11;decide),qI ks rs g p ks.length,.inr rfl,λob=>?_⟩
  refine⟨_,rfl,ks,rfl,ok.fw λx h=>.inl h,trivial,_,rfl,_,rfl,trivial,?_⟩;refine⟨λi β o=>(∃x0 x1:Option Q.B,β=[x0,x1])/\∀x,x∈o↔∃t∈rs.take i,x∈t,⟨⟨_,_,rfl⟩,λx=>by simp⟩,?_,?_⟩
  ·rintro i d β o hd ⟨⟨x0,x1,rfl⟩,hs⟩;rw[VJ]at hd;obtain⟨t,ht,rfl⟩:=VQ.mp hd;have RX:=Wt ht;have Pu:∀x,(∃t∈rs.take i,x∈t)->x∈ks\/∃t∈rs,x∈t:=λx h=>by
    obtain⟨t,h1,h2⟩:=h;exact .inr ⟨t,Yc h1,h2⟩
   refine⟨_,_,rfl,?_⟩;refine⟨λm β o=>(∃x1:Option Q.B,β=[some (.val false (kD t)),x1])/\∀x,x∈o↔(∃t∈rs.take i,x∈t)\/x∈t.take m,⟨⟨_,rfl⟩,λx=>by rw[hs];simp⟩,?_,?_⟩
   ·rintro m d β o hd ⟨⟨x1,rfl⟩,IG⟩;rw[VJ]at hd;obtain⟨x,hx,rfl⟩:=VQ.mp hd;refine⟨_,rfl,x,rfl,ok.fw λy hy=>?_,⟨_,rfl⟩,λy=>?_⟩
    ·rcases VL.mp hy with z|z
     ·rcases (IG y).mp z with z|z
      ·exact Pu y z
      ·exact .inr ⟨t,RX,Yc z⟩
     ·rw[VD.mp z];exact .inr ⟨t,RX,Wt hx⟩
    ·rw[VL,IG,zm hx,VD,or_assoc]
   ·rintro β o ⟨⟨x1,rfl⟩,IG⟩;rw[Vt,Xm]at IG;refine⟨⟨_,_,rfl⟩,λx=>?_⟩;rw[IG,take_snoc ht];simp only[VL,VD];constructor
    ·rintro (⟨u,hu,hx⟩|hx)
     ·exact⟨u,.inl hu,hx⟩
     ·exact⟨t,.inr rfl,hx⟩
    ·rintro⟨u,hu|rfl,hx⟩
     ·exact .inl ⟨u,hu,hx⟩
     ·exact .inr hx
  ·rintro β o ⟨⟨x0,x1,rfl⟩,hs⟩;rw[Vt,Xm]at hs;have EN:∀x,x∈ks++o↔x∈ks\/∃t∈rs,x∈t:=λx=>by rw[VL,hs]
   refine⟨trivial,ks,o,rfl,rfl,rfl,ok.fw λx h=>(EN x).mp h,λl' h1 h2 h3=>?_⟩;obtain rfl:=ok.all.uniq h1 λx=>(h2 x).trans (EN x);refine⟨_,rfl,trivial,?_⟩;refine BM (λi β=>i<=l'.length/\∃y9:Option Q.B,β=[some (.val false (.lst (ks.map D.int))),some (.val false (.lst (rs.map kD))),some (.val false (.int g)),some (.val false (.int (p:Int))),some (.val true (pW ks.length (tK ks rs g))),some (.val true (dP (eW rs) true)),some (.val true (.int (N3 ks rs g p))),some (.val true (M4 ob (qI ks rs g p ks.length))),some (.shl .one (dI (nV (ux ks rs g p (l'.take i))))),y9,none]) ⟨VX _,_,rfl⟩ (λE1 r1 i n1 d β hd hv=>?_) λβ hv=>?_
   ·obtain⟨_,y9,rfl⟩:=hv;rw[VJ]at hd;obtain⟨x,hx,rfl⟩:=VQ.mp hd;have hi:i<l'.length:=(VN.mp hx).1;have hl:=vn (ks:=ks) (rs:=rs) (g:=g) (p:=p) (m:=ks.length);have em:iu fU [.lst ([D.int (N3 ks rs g p)]++((qI ks rs g p ks.length).filter λu=>decide ([x,ks.getD u.1.toNat 0]∈eW rs)).map λu=>D.int u.2)]=some (.int (JY ks rs g p x)):=by
     have:=xS (Ct (rs:=rs) (x:=x) ok.g hp);rw[VI,WO]at this;exact this
    refine⟨_,rfl,trivial,CK,trivial,_,rfl,ob,qI ks rs g p ks.length,rfl,trivial,gh (λu=>decide ([x,ks.getD u.1.toNat 0]∈eW rs)) (λu=>D.int u.2) trivial (dv (by lia)) (λu hu x0 ou J IS j1 j2=>?_) ?_⟩
    ·obtain⟨o,ho,rfl⟩:=Ei hu;have hm:=hu;unfold qI at hm;obtain⟨o',qL,e⟩:=V6.mp hm;cases (show o'=o by have:=congrArg Prod.fst e;dsimp only at this;lia)
     refine⟨_,rfl,trivial,_,rfl,trivial,_,rfl,_,Iw rfl ho,trivial,jt,trivial,_,rfl,_,Cc (t:=[x,ks.getD o 0]),_,rfl,?_⟩;refine Pk (λh2=>⟨_,rfl,trivial,_,rfl,ob,_,_,_,rfl,rfl,qR qL,trivial,IS,j1 h2 _⟩) (λh2=>j2 h2 _)
    ·have T9:=Wx (λu:Int×Int=>decide ([x,ks.getD u.1.toNat 0]∈eW rs)) (qI ks rs g p ks.length);have MH:∀u∈ux ks rs g p (l'.take i),u.1≠x:=λu hu=>by
      obtain⟨z,hz,rfl⟩:=V6.mp hu;obtain⟨m,hm,rfl⟩:=List.mem_take_iff_getElem.mp hz;have:=(List.pairwise_iff_getElem.mp h1) m i (by lia) hi (by lia)
      rw[(VN.mp hx).2]at this;show l'[m]≠x;lia
     refine⟨_,eV (by rw[Vt];show 1+_<=_;lia),.inr ⟨trivial,_,em,⟨trivial,λz=>nomatch z⟩,⟨_,rfl⟩,_,rfl,nV (ux ks rs g p (l'.take i)),x,rfl,rfl,?_,?_⟩⟩
     ·unfold nV ux;rw[Vt,Vt,V7,WD];lia
     ·have ep:rE (nV (ux ks rs g p (l'.take i))) x (D.int (JY ks rs g p x))=nV (ux ks rs g p (l'.take (i+1))):=by
       rw[Dp MH,take_snoc hx];unfold ux;rw[VI];rfl
      exact n1 _ ⟨hi,_,by rw[ep];rfl⟩
   ·obtain⟨_,y9,rfl⟩:=hv;rw[Vt,Xm];have Vf:(ux ks rs g p l').length=l'.length:=by unfold ux;rw[Vt]
    refine⟨_,_,rfl,Ec ok.ne,ux ks rs g p l',.inl rfl,λRF=>?_⟩;refine⟨_,rfl,trivial,_,rfl,RF,ux ks rs g p l',rfl,trivial,gh (λu=>decide (u.2=tj ks rs g p l')) (λu=>D.int u.1) trivial (dv (by lia)) (λu hu x0 ou J IS j1 j2=>?_) ?_⟩
    ·obtain⟨x,hx,rfl⟩:=V6.mp hu;exact⟨_,rfl,trivial,_,rfl,RF,_,_,_,rfl,rfl,qS hx,trivial,_,rfl,_,b7 _ _,_,rfl,tO (λh=>⟨_,rfl,trivial,IS,j1 (decide_eq_true h) _⟩) λh=>j2 (decide_eq_false h) _⟩
    ·refine⟨trivial,jt,trivial,?_⟩;have:((ux ks rs g p l').filter λu=>decide (u.2=tj ks rs g p l')).map (λu=>D.int u.1)=(l'.filter λx=>decide (JY ks rs g p x=tj ks rs g p l')).map D.int:=by
      unfold ux;rw[List.filter_map,WO];rfl
     rw[this];exact q _
end
section
variable {P:Vz}{w:VG}{K:PySem.W.Frag}{mg:Str->Option Vv}{base:Heap}{cA:Addr}{c:Nat->Addr}
theorem fQ:aC ["kinds","pairs","gap"] ["kinds","pairs","gap"] (aj b9):=mkS
theorem AH {jT fW} (qz:Kf K mg jT fW) {fc cM} (fY:D6 K mg fc cM) {dW cb} (fj:D4 K mg dW cb) {fh cI} (iJ:D5 K mg fh cI) {fg cH} (gG:CH K mg fg cH) {eC cg} (jo:yY K mg eC cg) {dR bX} (iV:yF K mg dR bX) {dq bM} (gK:wW K mg dq bM) {cN bo} (fL:D8 K mg cN bo) {cV bC} (gI:D7 K mg cV bC) {cW bD} (gJ:vd K mg cW bD) {ck a7} (e9:D9 K mg ck a7) {dk bL} (gE:wV K mg dk bL) {dU bY} (iW:yE K mg dU bY) {du bN} (iy:wR K mg du bN) {dj bK} (ir:wU K mg dj bK) (B:Bs3 mg) (BK:wX mg):aB P w K mg base bE 7 jT fW ["kinds","pairs","gap"] (cB P w true sM):=by
 have Fx:aB P w K mg base bE 2 _ _ _ (cB P w true jU):=uv fY fj iJ BK;have JN:aB P w K mg base bE 6 _ _ _ (cB P w true g9):=lQ gG jo iV gK fL gI gJ e9 gE iW iy ir B;refine k_ qz.F fQ (λds R L6=> by obtain⟨ks,ps,g,e,_⟩ := L6;subst e;rfl) λbB A outer s H E hr=>⟨_,(au (a5 (aG g9.mono JN (hr.mono (by decide)) gG.m gG.F.kp gG.b (aa (aG jU.mono Fx (hr.mono (by decide)) fY.m fY.F.kp fY.b (aa (ae (i:=0)) (aa (ae (i:=1)) (aa (ae (i:=2)) af)))) af)))),λds R h=>?_⟩
 obtain⟨ks,ps,g,rfl,hk,hl,hp,g0,q⟩:=h;exact⟨_,rfl,trivial,_,rfl,trivial,_,rfl,trivial,ks,ps,g,rfl,by lia,hl,hp,g0,trivial,_,_,rfl,FE hk,trivial,q⟩
theorem ju:aC ["kinds","pairs","gap","place","kind"] ["kinds","pairs","gap","place","kind"] (aj dN):=mkS
theorem AG {iU gv} (nB:N_ K mg iU gv) {jT fW} (qz:Kf K mg jT fW) {fc cM} (fY:D6 K mg fc cM) {dW cb} (fj:D4 K mg dW cb) {fh cI} (iJ:D5 K mg fh cI) {fg cH} (gG:CH K mg fg cH) {eC cg} (jo:yY K mg eC cg) {dR bX} (iV:yF K mg dR bX) {dq bM} (gK:wW K mg dq bM) {cN bo} (fL:D8 K mg cN bo) {cV bC} (gI:D7 K mg cV bC) {cW bD} (gJ:vd K mg cW bD) {ck a7} (e9:D9 K mg ck a7) {dk bL} (gE:wV K mg dk bL) {dU bY} (iW:yE K mg dU bY) {du bN} (iy:wR K mg du bN) {dj bK} (ir:wU K mg dj bK) (B:Bs3 mg) (BK:wX mg):aB P w K mg base bE 8 iU gv ["kinds","pairs","gap","place","kind"] (cB P w true kQ):=by
 have Fy:aB P w K mg base bE 1 _ _ _ (cB P w true nr):=vR fj;have Rc:aB P w K mg base bE 7 _ _ _ (cB P w true sM):=AH qz fY fj iJ gG jo iV gK fL gI gJ e9 gE iW iy ir B BK;refine k_ nB.F ju (λds R L5=> by obtain⟨ks,ps,g,p,x,e,_⟩ := L5;subst e;rfl) λbB A outer s H E hr=>⟨_,(ak (lN (aG nr.mono Fy (hr.mono (by decide)) fj.m fj.F.kp fj.b (aa (ae (i:=2)) af)))
    (ak (dw (fx (eG ah (cq fG (ae (i:=3)) (fy fG (aX ag (bO.m bf) B.len di (aa (ae (i:=0)) af)))))) dy bw)
    (au (a5 (aM ag bA (aG sM.mono Rc (hr.mono (by decide)) qz.m qz.F.kp qz.b (aa (aK aT aH (aK aT aH (zU (ae (i:=0)) mB (mz (ae (i:=3)))) (a8 (aa (ae (i:=4)) af))) (zU (ae (i:=0)) (mz (ae (i:=3))) mB)) (aa (ae (i:=1)) (aa (ae (i:=2)) af)))) ah))))),λds R h=>?_⟩
 obtain⟨ks,ps,g,p,x,rfl,hk,hl,hp,g0,hpl,q⟩:=h;refine⟨_,rfl,trivial,g,rfl,g0,?_⟩;refine⟨_,rfl,_,rfl,lB (decide_eq_true (by lia)) ⟨_,rfl,trivial,_,rfl,_,rfl,_,rfl,jI (by show (!decide _)=false;rw[decide_eq_true (by rw[Vt];lia)];rfl) ?_⟩⟩
 have l1:(ks.take p).length<=30:=by rw[V7];lia
 have l2:(ks.drop p).length<=30:=by rw[XJ];lia
 have hi:=EA (x:=x) hpl;exact⟨_,rfl,_,rfl,_,rfl,_,OG rfl hpl,.inr ⟨trivial,_,rfl,trivial,CK,_,o9 (a:=ks.take p) (b:=[x]) (by show _+1<=_;lia),.inr ⟨trivial,_,rfl,_,rfl,_,rfl,_,OE rfl hpl,.inr ⟨_,o9 (a:=ks.take p++[x]) (b:=ks.drop p) (by rw[VV];show _+1+_<=_;lia),.inr ⟨trivial,_,rfl,trivial,_,rfl,trivial,sr ks p x,ps,g,rfl,by lia,hl,hp,g0,trivial,_,rfl,trivial,q⟩⟩⟩⟩⟩
theorem jD {dW cb} (fj:D4 K mg dW cb) (ZA:XA K mg cA c):aB P w K mg base (pH P w) 1 dW cb ["gap"] (i6 P w true (gw c)):=by
 refine AQ fj.F jw (λds R T h=>by obtain⟨g,e,_⟩:=h;subst e;rfl) λbB A outer s H E hr=>?_
 have Z:=gM (P:=P) (w:=w) (K:=K) (mg:=mg) (base:=base) (N:=["gap"]) (qual:="check_gap") (scope:=aj dO) (f:=dW) (cd:=bB) (A:=A) (outer:=outer) (s:=s) (H:=H) (E:=E);refine⟨_,(au (dw (aS ag (cy.m cQ) (ae (i:=0)) ah) (au (mH Z rfl (XA.x ZA 6))) bw)),λds R h=>?_⟩;obtain⟨g,rfl,h⟩:=h;rcases h with⟨h,q⟩|⟨h,q⟩
 ·exact⟨_,rfl,trivial,_,rfl,_,rfl,jI (decide_eq_false (by lia)) q⟩
 ·exact⟨_,rfl,trivial,_,rfl,_,rfl,lB (decide_eq_true (by lia)) q⟩
theorem qg {fc cM} (fY:D6 K mg fc cM) {dW cb} (fj:D4 K mg dW cb) {fh cI} (iJ:D5 K mg fh cI) (B:Bs3 mg) (B5:Gp mg) (BK:wX mg) (ZA:XA K mg cA c):aB P w K mg base (pH P w) 2 fc cM ["kinds","pairs","gap"] (i6 P w true λds R T=>jU ds R\/tq c ds T):=by
 have Fy:aB P w K mg base (pH P w) 1 _ _ _ (i6 P w true (gw c)):=jD fj ZA;refine aB.wH (uv fY fj iJ BK) ?_;refine AQ fY.F b8 (λds R T h=>by obtain⟨a,b,g,e,_⟩:=h;subst e;rfl) λbB A outer s H E hr=>?_
 have Z:=gM (P:=P) (w:=w) (K:=K) (mg:=mg) (base:=base) (N:=["kinds","pairs","gap","fits","many","ties"]) (qual:="row_of_kinds") (scope:=aj cn) (f:=fc) (cd:=bB) (A:=A) (outer:=outer) (s:=s) (H:=H) (E:=E);refine⟨_,(ak (lN (jA Z gw.mono Fy (hr.mono (by decide)) fj.m fj.F.kp fj.b (aa (ae (i:=2)) af))) dy),λds R h=>?_⟩
 obtain⟨a,b,g,rfl,h1,q⟩:=h;exact⟨_,rfl,trivial,g,rfl,.inr ⟨h1,q⟩⟩
theorem DR {jT fW} (qz:Kf K mg jT fW) {fc cM} (fY:D6 K mg fc cM) {dW cb} (fj:D4 K mg dW cb) {fh cI} (iJ:D5 K mg fh cI) {fg cH} (gG:CH K mg fg cH) {eC cg} (jo:yY K mg eC cg) {dR bX} (iV:yF K mg dR bX) {dq bM} (gK:wW K mg dq bM) {cN bo} (fL:D8 K mg cN bo) {cV bC} (gI:D7 K mg cV bC) {cW bD} (gJ:vd K mg cW bD) {ck a7} (e9:D9 K mg ck a7) {dk bL} (gE:wV K mg dk bL) {dU bY} (iW:yE K mg dU bY) {du bN} (iy:wR K mg du bN) {dj bK} (ir:wU K mg dj bK) (B:Bs3 mg) (B5:Gp mg) (BK:wX mg) (ZA:XA K mg cA c):aB P w K mg base (pH P w) 7 jT fW ["kinds","pairs","gap"] (i6 P w true λds R T=>sM ds R\/tq c ds T):=by
 have Fy:aB P w K mg base (pH P w) 1 _ _ _ (i6 P w true (gw c)):=jD fj ZA;have Fx:=qg (P:=P) (w:=w) (base:=base) fY fj iJ B B5 BK ZA;have JN:aB P w K mg base bE 6 _ _ _ (cB P w true g9):=lQ gG jo iV gK fL gI gJ e9 gE iW iy ir B;refine aB.wH (AH qz fY fj iJ gG jo iV gK fL gI gJ e9 gE iW iy ir B BK) ?_;refine AQ qz.F fQ (λds R T h=>by obtain⟨a,b,g,e,_⟩:=h;subst e;rfl) λbB A outer s H E hr=>?_
 have Z:=gM (P:=P) (w:=w) (K:=K) (mg:=mg) (base:=base) (N:=["kinds","pairs","gap"]) (qual:="most_of_kinds") (scope:=aj b9) (f:=jT) (cd:=bB) (A:=A) (outer:=outer) (s:=s) (H:=H) (E:=E);refine⟨_,(au (a5 (aG g9.mono JN (hr.mono (by decide)) gG.m gG.F.kp gG.b (aa (jA Z (tq.mono jU jU.mono) Fx (hr.mono (by decide)) fY.m fY.F.kp fY.b (aa (ae (i:=0)) (aa (ae (i:=1)) (aa (ae (i:=2)) af)))) af)))),λds R h=>?_⟩
 obtain⟨a,b,g,rfl,h1,q⟩:=h;exact⟨_,rfl,trivial,_,rfl,trivial,_,rfl,trivial,.inr ⟨a,b,g,rfl,h1,q⟩⟩
theorem AM {og jS} (Ce:Oa K mg og jS) {fc cM} (fY:D6 K mg fc cM) {dW cb} (fj:D4 K mg dW cb) {fh cI} (iJ:D5 K mg fh cI) {n9 iS} (yU:Nr K mg n9 iS) {n_ iT} (yV:Nq K mg n_ iT) {lD gD} (wA:Kg K mg lD gD) {wt jR} (dS:JQ K mg wt jR) {wq jQ} (dX:JR K mg wq jQ) {fg cH} (gG:CH K mg fg cH) {eC cg} (jo:yY K mg eC cg) {dR bX} (iV:yF K mg dR bX) {dq bM} (gK:wW K mg dq bM) {cN bo} (fL:D8 K mg cN bo) {cV bC} (gI:D7 K mg cV bC) {cW bD} (gJ:vd K mg cW bD) {ck a7} (e9:D9 K mg ck a7) {dk bL} (gE:wV K mg dk bL) {dU bY} (iW:yE K mg dU bY) {du bN} (iy:wR K mg du bN) {dj bK} (ir:wU K mg dj bK) (B:Bs3 mg) (B5:Gp mg) (BK:wX mg) (ZA:XA K mg cA c):aB P w K mg base (pH P w) 8 og jS ["kinds","pairs","gap","place"] (i6 P w true λds R T=>kR ds R\/Fm c ds T):=by
 have Fy:aB P w K mg base (pH P w) 1 _ _ _ (i6 P w true (gw c)):=jD fj ZA;have Fx:=qg (P:=P) (w:=w) (base:=base) fY fj iJ B B5 BK ZA;refine aB.wH (AO Ce fY fj iJ yU yV wA dS dX gG jo iV gK fL gI gJ e9 gE iW iy ir B5 BK) ?_;refine AQ Ce.F aU (λds R T h=>by obtain⟨ks,rs,g,p,e,_⟩:=h;subst e;rfl) λbB A outer s H E hr=>?_
 have Z:=gM (P:=P) (w:=w) (K:=K) (mg:=mg) (base:=base) (N:=["kinds","pairs","gap","place","row","fits","alone","tied","numbers","kind","best"]) (qual:="best_kinds") (scope:=aj c7) (f:=og) (cd:=bB) (A:=A) (outer:=outer) (s:=s) (H:=H) (E:=E);refine⟨_,(ak (bg (i:=4) (jA Z (tq.mono jU jU.mono) Fx (hr.mono (by decide)) fY.m fY.F.kp fY.b (aa (ae (i:=0)) (aa (ae (i:=1)) (aa (ae (i:=2)) af)))) aU.nd) (ak (dw (fx (eG ah (cq fG (ae (i:=3)) (fy cQ (aX ag (bO.m bf) B.len di (aa (ae (i:=0)) af)))))) (au (mH Z rfl (XA.x ZA 7))) bw) dy)),λds R h=>?_⟩
 obtain⟨ks,rs,g,p,rfl,kr,h⟩:=h;have hk:=kr.k;rcases h with⟨h1,q⟩|⟨h1,h2,q⟩
 ·exact⟨_,rfl,trivial,_,rfl,trivial,_,rfl,trivial,.inr ⟨_,_,g,rfl,h1,q⟩⟩
 ·refine⟨_,rfl,trivial,_,rfl,trivial,_,rfl,trivial,.inl ⟨ks,rs,g,rfl,by lia,kr.r,kr.pr,h1,?_⟩⟩
  by_cases h0:0<=p
  ·exact⟨_,rfl,_,rfl,lB (decide_eq_true h0) ⟨_,rfl,trivial,_,rfl,_,rfl,_,rfl,lB (by show (!decide _)=true;rw[decide_eq_false (by rw[Vt];lia)];rfl) q⟩⟩
  ·exact⟨_,rfl,_,rfl,jI (decide_eq_false h0) ⟨_,rfl,lB rfl q⟩⟩
theorem HH {iU gv} (nB:N_ K mg iU gv) {jT fW} (qz:Kf K mg jT fW) {fc cM} (fY:D6 K mg fc cM) {dW cb} (fj:D4 K mg dW cb) {fh cI} (iJ:D5 K mg fh cI) {fg cH} (gG:CH K mg fg cH) {eC cg} (jo:yY K mg eC cg) {dR bX} (iV:yF K mg dR bX) {dq bM} (gK:wW K mg dq bM) {cN bo} (fL:D8 K mg cN bo) {cV bC} (gI:D7 K mg cV bC) {cW bD} (gJ:vd K mg cW bD) {ck a7} (e9:D9 K mg ck a7) {dk bL} (gE:wV K mg dk bL) {dU bY} (iW:yE K mg dU bY) {du bN} (iy:wR K mg du bN) {dj bK} (ir:wU K mg dj bK) (B:Bs3 mg) (B5:Gp mg) (BK:wX mg) (ZA:XA K mg cA c):aB P w K mg base (pH P w) 8 iU gv ["kinds","pairs","gap","place","kind"] (i6 P w true λds R T=>kQ ds R\/Fl c ds T):=by
 have Fy:aB P w K mg base (pH P w) 1 _ _ _ (i6 P w true (gw c)):=jD fj ZA;refine aB.wH (AG nB qz fY fj iJ gG jo iV gK fL gI gJ e9 gE iW iy ir B BK) ?_;refine AQ nB.F ju (λds R T h=>by obtain⟨ks,b,x,g,p,e,_⟩:=h;subst e;rfl) λbB A outer s H E hr=>?_
 have Z:=gM (P:=P) (w:=w) (K:=K) (mg:=mg) (base:=base) (N:=["kinds","pairs","gap","place","kind"]) (qual:="most_with") (scope:=aj dN) (f:=iU) (cd:=bB) (A:=A) (outer:=outer) (s:=s) (H:=H) (E:=E);refine⟨_,(ak (lN (jA Z gw.mono Fy (hr.mono (by decide)) fj.m fj.F.kp fj.b (aa (ae (i:=2)) af))) (ak (dw (fx (eG ah (cq fG (ae (i:=3)) (fy fG (aX ag (bO.m bf) B.len di (aa (ae (i:=0)) af)))))) (au (mH Z rfl (XA.x ZA 7))) bw) dy)),λds R h=>?_⟩
 obtain⟨ks,b,x,g,p,rfl,h⟩:=h;rcases h with⟨h1,q⟩|⟨h1,h2,q⟩
 ·exact⟨_,rfl,trivial,g,rfl,.inr ⟨h1,q⟩⟩
 ·refine⟨_,rfl,trivial,g,rfl,.inl ⟨h1,?_⟩⟩
  by_cases h0:0<=p
  ·exact⟨_,rfl,_,rfl,lB (decide_eq_true h0) ⟨_,rfl,trivial,_,rfl,_,rfl,_,rfl,lB (by show (!decide _)=true;rw[decide_eq_false (by rw[Vt];lia)];rfl) q⟩⟩
  ·exact⟨_,rfl,_,rfl,jI (decide_eq_false h0) ⟨_,rfl,lB rfl q⟩⟩
end
end lY
namespace L2.Q
open PySem
def Up:List Nat:=[6,7,5,8,0,1,2,3,4,9,10,11]
def EV (i:Nat):List Bool:=(Up.map λj=>decide (i=j))++[true]
def fFlags (c:Nat->Addr):FD:=λds R=>∃i,i<12/\ds=[.exc (c i)]/\R (.lst ((EV i).map D.bl))
theorem fFlags.mono {c:Nat->Addr}:cm (fFlags c):=λds R R' k ⟨i,hi,e,q⟩=>⟨i,hi,e,k _ q⟩
def J6 (a:Nat):List Bool:=(VF 13).map λk=>decide (k=a) || decide (k=12)
def yj:FD:=λds R=>∃i:Nat,ds=[.int i]/\R (.lst ((J6 i).map D.bl))
theorem yj.mono:cm yj:=λds R R' k ⟨i,e,q⟩=>⟨i,e,k _ q⟩
def xp (w:Int)(n:Nat)(g p:Int):List Bool:=if g<0 then EV 6 else if 1<w/\¬ (0<=p/\p<n+w-2) then EV 7 else []
theorem QK:J6 0=EV 6:=by decide
theorem QJ:J6 1=EV 7:=by decide
def sO:FD:=λds R=>∃(w:Int) (n:Nat) (g p:Int),ds=[.int w,.int n,.int g,.int p]/\0<=w/\w<4/\R (.lst ((xp w n g p).map D.bl))
theorem sO.mono:cm sO:=λds R R' k ⟨w,n,g,p,e,h1,h2,q⟩=>⟨w,n,g,p,e,h1,h2,k _ q⟩
structure Nj (ks:List Int)(rs:List (List Int)):Prop extends KrOk ks rs where
 qr:∃fs:List Int,fs.length<=50/\(∀x∈ks,x∈fs)/\∀t∈rs,∀x∈t,x∈fs
def sL:FD:=λds R=>∃(w:Int) (ks:List Int) (rs:List (List Int)) (g p:Int),ds=[.int w,.lst [.lst (ks.map D.int),.lst (rs.map kD)],.int g,.int p]/\Nj ks rs/\0<=w/\w<4/\R (.lst ((xp w ks.length g p).map D.bl))
theorem sL.mono:cm sL:=λds R R' k ⟨w,ks,rs,g,p,e,h1,h2,h3,q⟩=>⟨w,ks,rs,g,p,e,h1,h2,h3,k _ q⟩
theorem GN (CO:List Int)(lo hi:Option Int):∃ks:List Int,M0 (.lst (CO.map D.int)) lo hi=some (.lst (ks.map D.int))/\ks.length<=CO.length/\∀x∈ks,x∈CO:=by
 refine⟨(CO.drop (HT.k6 (CO.map D.int).length 0 lo)).take (HT.k6 (CO.map D.int).length (CO.map D.int).length hi-HT.k6 (CO.map D.int).length 0 lo),?_,?_,λx hx=>List.mem_of_mem_drop (Yc hx)⟩
 ·show some (D.lst (cutD _ _ _))=_;unfold cutD;rw[YC,YD]
 ·rw[V7,XJ];lia
theorem xh (l:List Bool):(D.lst (l.map D.bl)).pd.canLay0=true/\(D.lst (l.map D.bl)).pd.depth<=4:=hV λd hd=>by
 obtain⟨b,_,rfl⟩:=V6.mp hd;exact⟨(rf b).1,Wc (rf b).2 (by decide)⟩
end L2.Q
namespace lY
open PySem L2 L2.Q
section
variable {P:Vz}{w:VG}{K:PySem.W.Frag}{mg:Str->Option Vv}{base:Heap}{cA:Addr}{c:Nat->Addr}
theorem eh:aC ["e","found"] ["e"] (aj ft):=mkS
theorem AL {yh oY} (Gg:Rh K mg yh oY) (B:Bs3 mg) (bV:mg "ValueError" = none) (ZA:XA K mg cA c):Nn P w K mg base 1 yh oY ["e"] (cB P w true (fFlags c)):=by
 refine O2 Gg.F eh (λds R h=>by obtain⟨i,_,e,_⟩:=h;subst e;rfl) λbB A outer s H E hr=>⟨_,(ak (bg (i:=1) (a8 (aa (d6 B.yd (ae (i:=0)) (XA.x ZA 6).m) (aa (d6 B.yd (ae (i:=0)) (XA.x ZA 7).m) (aa (d6 B.yd (ae (i:=0)) (XA.x ZA 5).m) (aa (d6 B.yd (ae (i:=0)) (XA.x ZA 8).m) af))))) eh.nd)
    (ak (bg (i:=1) (aK aT aH (ae (i:=1)) (a8 (aa (d6 B.yd (ae (i:=0)) (XA.x ZA 0).m) (aa (d6 B.yd (ae (i:=0)) (XA.x ZA 1).m) (aa (d6 B.yd (ae (i:=0)) (XA.x ZA 2).m) (aa (d6 B.yd (ae (i:=0)) (XA.x ZA 3).m) af)))))) eh.nd)
    (ak (bg (i:=1) (aK aT aH (ae (i:=1)) (a8 (aa (d6 B.yd (ae (i:=0)) (XA.x ZA 4).m) (aa (d6 B.yd (ae (i:=0)) (XA.x ZA 9).m) (aa (d6 B.yd (ae (i:=0)) (XA.x ZA 10).m) (aa (d6 B.yd (ae (i:=0)) (XA.x ZA 11).m) af)))))) eh.nd)
    (au (a5 (aK aT aH (ae (i:=1)) (a8 (aa (Hg B.yd (ae (i:=0)) bV JB) af)))))))),λds R h=>?_⟩
 obtain⟨i,hi,rfl,q⟩:=h;refine⟨_,rfl,c i,_,rfl,ZA.k hi (j:=6) (by decide),trivial,_,rfl,c i,_,rfl,ZA.k hi (j:=7) (by decide),trivial,_,rfl,c i,_,rfl,ZA.k hi (j:=5) (by decide),trivial,_,rfl,c i,_,rfl,ZA.k hi (j:=8) (by decide),trivial,dv (by show 4<=1000;decide),?_⟩
 refine⟨_,rfl,trivial,_,rfl,c i,_,rfl,ZA.k hi (j:=0) (by decide),trivial,_,rfl,c i,_,rfl,ZA.k hi (j:=1) (by decide),trivial,_,rfl,c i,_,rfl,ZA.k hi (j:=2) (by decide),trivial,_,rfl,c i,_,rfl,ZA.k hi (j:=3) (by decide),trivial,dv (by show 4<=1000;decide),_,eV (by show 4+4<=_;decide),.inl ⟨rfl,?_⟩⟩
 refine⟨_,rfl,trivial,_,rfl,c i,_,rfl,ZA.k hi (j:=4) (by decide),trivial,_,rfl,c i,_,rfl,ZA.k hi (j:=9) (by decide),trivial,_,rfl,c i,_,rfl,ZA.k hi (j:=10) (by decide),trivial,_,rfl,c i,_,rfl,ZA.k hi (j:=11) (by decide),trivial,dv (by show 4<=1000;decide),_,eV (by show 8+4<=_;decide),.inl ⟨rfl,?_⟩⟩
 exact⟨_,rfl,trivial,_,rfl,c i,_,rfl,ZA.kv hi,trivial,CK,_,eV (by show 12+1<=_;decide),.inl ⟨rfl,trivial,q⟩⟩
theorem km:aC ["at"] ["at"] (aj cP):=mkS
theorem HM {yi oZ} (Cd:Rg K mg yi oZ) (B:Bs3 mg):aB P w K mg base bE 1 yi oZ ["at"] (cB P w true yj):=by
 refine k_ Cd.F km (λds R h=>by obtain⟨i,e,_⟩:=h;subst e;rfl) λbB A outer s H E hr=>⟨_,(au (a5 (LA ["k","at"] [none,some 0] (by rfl) (by decide:(["k","at"]:List Str).Nodup) rfl (b6 B.range (aa ah af)) (λ_ _ _ _ _ _=>(aA (i:=0) (by decide:(["k","at"]:List Str).Nodup))) (λ_ _ _ _ _ _=>eK) (λ_ _ _ _ _ _=>(pZ ag (cy.m (uu hr.lH)) (ae (i:=0)) (bH (aa (ae (i:=1)) (aa ah af)))))))),λds R h=>?_⟩
 obtain⟨i,rfl,q⟩:=h;refine⟨trivial,13,rfl,by decide,by decide,trivial,gh (l:=VF 13) (f:=λk:Nat=>D.int (0+(k:Int))) (λ_=>true) (λk=>.bl (decide (k=i) || decide (k=12))) trivial (by decide) (λk hk x0 o J ho j1 j2=>?_) ?_⟩
 ·have e:decide (0+(k:Int)∈[(i:Int),12])=(decide (k=i) || decide (k=12)):=by
   rw[ZT,YS,decide_eq_true_eq,decide_eq_true_eq,decide_eq_true_eq,VB,VD];lia
  have h:=uY (0+(k:Int)) [(i:Int),12];rw[e]at h;exact⟨_,rfl,trivial,_,rfl,trivial,trivial,jt,_,h,trivial,ho,j1 rfl _⟩
 ·rw[List.filter_eq_self.mpr λ_ _=>rfl];have e:((VF 13).map λk=>D.bl (decide (k=i) || decide (k=12)))=(J6 i).map D.bl:=by unfold J6;rw[WO];rfl
  rw[e];exact⟨trivial,q⟩
theorem ud:aC ["way","many","gap","place"] ["way","many","gap","place"] (aj h8):=mkS
theorem DT {E5 wo} (Ka:Sm K mg E5 wo) {yi oZ} (Cd:Rg K mg yi oZ) (B:Bs3 mg):aB P w K mg base bE 2 E5 wo ["way","many","gap","place"] (cB P w true sO):=by
 have Si:aB P w K mg base bE 1 _ _ _ (cB P w true yj):=HM Cd B;refine k_ Ka.F ud (λds R h=>by obtain⟨w,n,g,p,e,_⟩:=h;subst e;rfl) λbB A outer s H E hr=>⟨_,(ak (dw (aS ag (cy.m cQ) (ae (i:=2)) ah) (au (a5 (aG yj.mono Si (hr.mono (by decide)) Cd.m Cd.F.kp Cd.b (aa ah af)))) bw)
    (ak (dw (Fu.t (lM (aS ag (cy.m qd) (ae (i:=0)) ah) (jz (fx (eG ah (cq fG (ae (i:=3)) (fy cQ (aK ag (cy.m bx) (aK aT aH (ae (i:=1)) (ae (i:=0))) ah)))))))) (au (a5 (aG yj.mono Si (hr.mono (by decide)) Cd.m Cd.F.kp Cd.b (aa ah af)))) bw)
    (au (a5 (a8 af))))),λds R h=>?_⟩
 obtain⟨w,n,g,p,rfl,w0,w4,q⟩:=h;unfold xp at q;refine⟨_,rfl,trivial,_,rfl,_,rfl,tO (λh=>?_) λh=>?_⟩
 ·rw[if_pos h]at q;exact⟨trivial,0,rfl,trivial,by rw[QK];exact q⟩
 ·rw[if_neg h]at q;have fin:(¬ (1<w/\¬ (0<=p/\p<n+w-2)))->(eN R).rt (.lst []) []:=λz=>by rw[if_neg z]at q;exact q
  have go:1<w/\¬ (0<=p/\p<n+w-2)->R (.lst ((J6 1).map D.bl)):=λz=>by rw[if_pos z]at q;rw[QJ];exact q
  refine⟨_,rfl,trivial,_,rfl,_,rfl,tO (λa1=>?_) λa1=>jI rfl ⟨VX _,trivial,fin λz=>a1 z.1⟩⟩
  by_cases a2:0<=p
  ·refine⟨_,rfl,_,rfl,lB (decide_eq_true a2) ⟨_,rfl,trivial,_,rfl,_,rfl,trivial,_,rfl,_,rfl,_,rfl,?_⟩⟩
   by_cases a3:p<n+w-2
   ·exact jI (by show (!decide _)=false;rw[decide_eq_true a3];rfl) ⟨VX _,trivial,fin λz=>z.2 ⟨a2,a3⟩⟩
   ·exact lB (by show (!decide _)=true;rw[decide_eq_false a3];rfl) ⟨trivial,1,rfl,trivial,go ⟨a1,λz=>a3 z.2⟩⟩
  ·exact⟨_,rfl,_,rfl,jI (decide_eq_false a2) ⟨_,rfl,lB rfl ⟨trivial,1,rfl,trivial,go ⟨a1,λz=>a2 z.1⟩⟩⟩⟩
theorem fk:aC ["way","given","gap","place","found","e"] ["way","given","gap","place"] (aj f_):=mkS
theorem DQ {EW we} (J7:Sl K mg EW we) {yh oY} (Gg:Rh K mg yh oY) {og jS} (Ce:Oa K mg og jS) {iU gv} (nB:N_ K mg iU gv) {jT fW} (qz:Kf K mg jT fW) {fc cM} (fY:D6 K mg fc cM) {dW cb} (fj:D4 K mg dW cb) {fh cI} (iJ:D5 K mg fh cI) {n9 iS} (yU:Nr K mg n9 iS) {n_ iT} (yV:Nq K mg n_ iT) {lD gD} (wA:Kg K mg lD gD) {wt jR} (dS:JQ K mg wt jR) {wq jQ} (dX:JR K mg wq jQ) {fg cH} (gG:CH K mg fg cH) {eC cg} (jo:yY K mg eC cg) {dR bX} (iV:yF K mg dR bX) {dq bM} (gK:wW K mg dq bM) {cN bo} (fL:D8 K mg cN bo) {cV bC} (gI:D7 K mg cV bC) {cW bD} (gJ:vd K mg cW bD) {ck a7} (e9:D9 K mg ck a7) {dk bL} (gE:wV K mg dk bL) {dU bY} (iW:yE K mg dU bY) {du bN} (iy:wR K mg du bN) {dj bK} (ir:wU K mg dj bK) (B5:Gp mg) (BK:wX mg) (bV:mg "ValueError" = none) (ZA:XA K mg cA c):aB P w K mg base bE 10 EW we ["way","given","gap","place"] (cB P w true sL):=by
 have B:=B5.toBs3;have UZ:Nn P w K mg base 1 _ _ _ (cB P w true (fFlags c)):=AL Gg B bV ZA;have Fx:=qg (P:=P) (w:=w) (base:=base) fY fj iJ B B5 BK ZA;have Rc:=DR (P:=P) (w:=w) (base:=base) qz fY fj iJ gG jo iV gK fL gI gJ e9 gE iW iy ir B B5 BK ZA;have U3:=AM (P:=P) (w:=w) (base:=base) Ce fY fj iJ yU yV wA dS dX gG jo iV gK fL gI gJ e9 gE iW iy ir B B5 BK ZA;have Rb:=HH (P:=P) (w:=w) (base:=base) nB qz fY fj iJ gG jo iV gK fL gI gJ e9 gE iW iy ir B B5 BK ZA;refine k_ J7.F fk (λds R h=>by obtain⟨w,ks,rs,g,p,e,_⟩:=h;subst e;rfl) λbB A outer s H E hr=>⟨_,(ak (dH (i:=4) (λ_=>(a8 af)) fk.nd)
    (ib (Hm (j:=5) rfl rfl (zl (aS ag (cy.m (gc hr.units)) (ae (i:=0)) ah) (lI (tq.mono jU jU.mono) Fx (hr.mono (by decide)) fY.m fY.F.kp fY.b (aa (aM ag bA (ae (i:=1)) ah) (aa (aM ag bA (ae (i:=1)) ah) (aa (ae (i:=2)) af)))) (zl (aS ag (cy.m (gc hr.units)) (ae (i:=0)) ah) (lI (tq.mono sM sM.mono) Rc (hr.mono (by decide)) qz.m qz.F.kp qz.b (aa (aM ag bA (ae (i:=1)) ah) (aa (aM ag bA (ae (i:=1)) ah) (aa (ae (i:=2)) af)))) (zl (aS ag (cy.m (gc hr.units)) (ae (i:=0)) ah) (lI Fm.mono U3 (hr.mono (by decide)) Ce.m Ce.F.kp Ce.b (aa (aM ag bA (ae (i:=1)) ah) (aa (aM ag bA (ae (i:=1)) ah) (aa (ae (i:=2)) (aa (ae (i:=3)) af))))) (lI Fl.mono Rb (hr.mono (by decide)) nB.m nB.F.kp nB.b (aa (aM ag bA (ae (i:=1)) ah) (aa (aM ag bA (ae (i:=1)) ah) (aa (ae (i:=2)) (aa (ae (i:=3)) (aa ah af))))))))) (λ_=>(au (dH (i:=4) (λ_=>(zY (fFlags.mono (c:=c)) UZ (hr.yN (by decide)) Gg.m Gg.F.kp Gg.b (aa (ae (i:=5)) af))) fk.nd))) ZA.QU fk.nd)
    (au (gb (i:=4))))),λds R h=>?_⟩
 obtain⟨w,ks,rs,g,p,rfl,ok,w0,w4,q⟩:=h;have hk:=ok.k;obtain⟨l,hl⟩:=Fq ks rs;refine⟨VX _,trivial,?_⟩;refine⟨λβ=>∃fl:List Bool,β=[some (.val false (.int w)),some (.val false (.lst [.lst (ks.map D.int),.lst (rs.map kD)])),some (.val false (.int g)),some (.val false (.int p)),some (.own (.lst (fl.map D.bl))),none]/\fl=xp w ks.length g p,
  ⟨λcl=>∃i,i<12/\cl=c i/\EV i=xp w ks.length g p,?_,λcl h=>by
   obtain⟨i,hi,rfl,q⟩:=h;exact⟨ZA.Uv i hi,_,rfl,trivial,i,hi,rfl,trivial,EV i,rfl,q⟩⟩,λβ h=>?_⟩
 ·have n0:∀x:Int,xp x ks.length g p=if g<0 then EV 6 else if 1<x/\¬ (0<=p/\p<ks.length+x-2) then EV 7 else []:=λ_=>rfl
  obtain rfl|rfl|rfl|rfl:w=0\/w=1\/w=2\/w=3:=by lia
  ·refine⟨_,rfl,trivial,_,b7 _ _,_,rfl,lB rfl ⟨_,rfl,trivial,_,rfl,.inr ⟨trivial,_,rfl,trivial,_,rfl,.inr ⟨trivial,_,rfl,trivial,?_⟩⟩⟩⟩
   by_cases h:g<0
   ·exact .inr ⟨_,_,g,rfl,h,6,by decide,rfl,by rw[n0,if_pos h]⟩
   ·exact .inl ⟨ks,rs,g,rfl,by lia,ok.r,ok.pr,by lia,[],rfl,by rw[n0,if_neg h,if_neg (by lia)]⟩
  ·refine⟨_,rfl,trivial,_,b7 _ _,_,rfl,jI rfl ⟨_,rfl,trivial,_,b7 _ _,_,rfl,lB rfl ⟨_,rfl,trivial,_,rfl,.inr ⟨trivial,_,rfl,trivial,_,rfl,.inr ⟨trivial,_,rfl,trivial,?_⟩⟩⟩⟩⟩
   by_cases h:g<0
   ·exact .inr ⟨_,_,g,rfl,h,6,by decide,rfl,by rw[n0,if_pos h]⟩
   ·exact .inl ⟨ks,rs,g,rfl,by lia,ok.r,ok.pr,by lia,[],rfl,by rw[n0,if_neg h,if_neg (by lia)]⟩
  ·refine⟨_,rfl,trivial,_,b7 _ _,_,rfl,jI rfl ⟨_,rfl,trivial,_,b7 _ _,_,rfl,jI rfl ⟨_,rfl,trivial,_,b7 _ _,_,rfl,lB rfl ⟨_,rfl,trivial,_,rfl,.inr ⟨trivial,_,rfl,trivial,_,rfl,.inr ⟨trivial,_,rfl,trivial,_,rfl,trivial,?_⟩⟩⟩⟩⟩⟩
   by_cases h:g<0
   ·exact .inr ⟨ks,rs,g,p,rfl,ok.toKrOk,.inl ⟨h,6,by decide,rfl,by rw[n0,if_pos h]⟩⟩
   ·by_cases h2:0<=p/\p<ks.length
    ·exact .inl ⟨ks,rs,g,p.toNat,l,by rw[show ((p.toNat:Nat):Int)=p by lia],⟨by lia,ok.r,ok.pr,by lia,by lia,hl,ok.qr⟩,λd=>⟨[],rfl,by rw[n0,if_neg h,if_neg (by lia)]⟩⟩
    ·exact .inr ⟨ks,rs,g,p,rfl,ok.toKrOk,.inr ⟨by lia,h2,7,by decide,rfl,by rw[n0,if_neg h,if_pos (by lia)]⟩⟩
  ·refine⟨_,rfl,trivial,_,b7 _ _,_,rfl,jI rfl ⟨_,rfl,trivial,_,b7 _ _,_,rfl,jI rfl ⟨_,rfl,trivial,_,b7 _ _,_,rfl,jI rfl ⟨_,rfl,trivial,_,rfl,.inr ⟨trivial,_,rfl,trivial,_,rfl,.inr ⟨trivial,_,rfl,trivial,_,rfl,trivial,trivial,?_⟩⟩⟩⟩⟩⟩
   by_cases h:g<0
   ·exact .inr ⟨ks,_,_,g,p,rfl,.inl ⟨h,6,by decide,rfl,by rw[n0,if_pos h]⟩⟩
   ·by_cases h2:0<=p/\p<=ks.length
    ·exact .inl ⟨ks,rs,g,p.toNat,0,by rw[show ((p.toNat:Nat):Int)=p by lia],by lia,ok.r,ok.pr,by lia,by lia,[],rfl,by rw[n0,if_neg h,if_neg (by lia)]⟩
    ·exact .inr ⟨ks,_,_,g,p,rfl,.inr ⟨by lia,h2,7,by decide,rfl,by rw[n0,if_neg h,if_pos (by lia)]⟩⟩
 ·obtain⟨fl,rfl,rfl⟩:=h;exact⟨_,rfl,q⟩
end
section
variable {P:Vz}{w:VG}{K:PySem.W.Frag}{mg:Str->Option Vv}{base:Heap}{cA:Addr}{c0:Nat->Addr}
theorem d3:aC ["script","cell","pot","kinds","few","pairs","far","handed","gap","place","way"] ["script"] (aj mx):=mkS
def zq (K:PySem.W.Frag):Sp:=λvs H Q _=>∃(a:Addr) (ns:List Int),vs=[.ref a]/\eE K H a (ns.map V.int)/\ns.length<=63/\∀H',Q (.bl true) H'
def JL (β:Q.aJ):Prop:=∃y0 y1 y2 y3 y4 y5 y6 y7 y8 y9 tT:Option Q.B,β=[y0,y1,y2,y3,y4,y5,y6,y7,y8,y9,tT]
theorem HJ {f:Addr} {fd:VW} (F:wO K "law" "law" mx f fd) (B5:Gp mg) (B:wX mg) (bV:mg "ValueError" = none) (ZA:XA K mg cA c0) {fc cM} (fY:D6 K mg fc cM) {dW cb} (fj:D4 K mg dW cb) {fh cI} (iJ:D5 K mg fh cI) {fg cH} (gG:CH K mg fg cH) {eC cg} (jo:yY K mg eC cg) {dR bX} (iV:yF K mg dR bX) {dq bM} (gK:wW K mg dq bM) {cN bo} (fL:D8 K mg cN bo) {cV bC} (gI:D7 K mg cV bC) {cW bD} (gJ:vd K mg cW bD) {ck a7} (e9:D9 K mg ck a7) {dk bL} (gE:wV K mg dk bL) {dU bY} (iW:yE K mg dU bY) {du bN} (iy:wR K mg du bN) {dj bK} (ir:wU K mg dj bK) {lD gD} (wA:Kg K mg lD gD) {wt jR} (dS:JQ K mg wt jR) {wq jQ} (dX:JR K mg wq jQ) {n9 iS} (yU:Nr K mg n9 iS) {n_ iT} (yV:Nq K mg n_ iT) {og jS} (Ce:Oa K mg og jS) {jT fW} (qz:Kf K mg jT fW) {iU gv} (nB:N_ K mg iU gv) {Ut QD} (dP:U6 K mg Ut QD) {Jh uQ} (dT:D1 K mg Jh uQ) {EZ wj} (J9:D0 K mg EZ wj) {EY wg} (J8:D2 K mg EY wg) {E4 wm} (J_:D3 K mg E4 wm) {QE MZ} (Vp:U5 K mg QE MZ) {yh oY} (Gg:Rh K mg yh oY) {yi oZ} (Cd:Rg K mg yi oZ) {E5 wo} (Ka:Sm K mg E5 wo) {EW we} (J7:Sl K mg EW we):aB P w K mg base bE 12 f fd ["script"] (zq K):=by
 have B3:=B5.toBs3;have GP:aB P w K mg base bE 1 _ _ _ (cB P w true BS):=HE dP.F B.toBs;have GT:aB P w K mg base bE 1 _ _ _ (kc P w nU true bU):=lP dT.F;have UW:aB P w K mg base bE 2 _ _ _ (kc P w nU false jX):=AJ J9 dT B;have UP:aB P w K mg base bE 2 _ _ _ (kc P w nU true jV):=AE J8 dT B;have UY:aB P w K mg base bE 2 _ _ _ (kc P w nU true BW):=HL J_ dT B;have U1:aB P w K mg base bE 2 _ _ _ (cB P w true sO):=DT Ka Cd B3;have UN:aB P w K mg base bE 10 _ _ _ (cB P w true sL):=DQ J7 Gg Ce nB qz fY fj iJ yU yV wA dS dX gG jo iV gK fL gI gJ e9 gE iW iy ir B5 B bV ZA;refine F.ok d3 (λvs H Q E h=>?_) (λbB A outer s H vs Qk E hr h=>?_)
 ·obtain⟨a,ns,rfl,_⟩:=h;rfl
 ·obtain⟨a,ns,rfl,hS,hlen,k⟩:=h;have Ql:∀b:Addr,¬ (λ_=>False) b:=λb z=>z;obtain⟨ψ,hb,hψ⟩:∃ψ,Q.qG (kS bE P w K mg base _ "law" (aj mx) f bB A outer s H E).rR ⟨H,λ_=>False,true,λ_=>False⟩ (match (dh mx)with | .For _ _ b _ _::_=>b|_=>[]) ψ /\
    ∀(c:Int) (x0 x2 x3 x4 x5 x6 x7 x8 x9 FA:Option Q.B),ψ {nx:=JL,rt:=λd _=>d=.bl true,bk:=JL,ct:=JL} [x0,some (.val true (.int c)),x2,x3,x4,x5,x6,x7,x8,x9,FA]:=by
   refine⟨_,(ak (DE (i:=2) nU Ql (λ_=>(aG BS.mono GP (hr.mono (by decide)) dP.m dP.F.kp dP.b (aa (ae (i:=1)) af))) d3.nd)
    (ak (kz (aW (ih:=2) jX.mono UW (hr.mono (by decide)) J9.m J9.F.kp J9.b af) (ez (n:=2) rfl (aQ (aA (i:=3) d3.nd) (aQ (aA (i:=4) d3.nd) c_))))
    (ak (bg (i:=3) (zU (ae (i:=3)) mB (mz ah)) d3.nd)
    (ak (bg (i:=5) (aW (ih:=2) jV.mono UP (hr.mono (by decide)) J8.m J8.F.kp J8.b (aa (ae (i:=4)) af)) d3.nd)
    (ak (bg (i:=6) (aW (ih:=2) bU.mono GT (hr.mono (by decide)) dT.m dT.F.kp dT.b (aa (aM ag bA (a8 (aa ah (aa (aK ag (cy.m jC) ah ah) af))) (aW (ih:=2) bU.mono GT (hr.mono (by decide)) dT.m dT.F.kp dT.b (aa ah af))) af)) d3.nd)
    (ak (bg (i:=7) (a8 (aa (ku aT lq B.list qD (aa (ae (i:=3)) af)) (aa (ku aT lq B.list qD (aa (ae (i:=5)) af)) af))) d3.nd)
    (au (gW WV rfl (b_ (a8 (aa ah (aa (aW (ih:=2) BW.mono UY (hr.mono (by decide)) J_.m J_.F.kp J_.b af) (aa (mD fZ ah) (aa (aK ag (cy.m bx) (mD fZ ah) (ae (i:=6))) af)))))) (aA (i:=8) d3.nd) (au (gW WV rfl (b_ (a8 (aa ah (aa (mD fZ ah) (aa (aX ag (bO.m bf) B.len di (aa (ae (i:=3)) af)) (aa (aK aT aH (aK aT aH (aX ag (bO.m bf) B.len di (aa (ae (i:=3)) af)) ah) (ae (i:=6))) (aa (aK ag (cy.m bx) (mD fZ ah) (ae (i:=6))) (aa (aW (ih:=2) bU.mono GT (hr.mono (by decide)) dT.m dT.F.kp dT.b (aa (aK aT aH (aX ag (bO.m bf) B.len di (aa (ae (i:=3)) af)) ah) af)) af)))))))) (aA (i:=9) d3.nd) (au (gW WV rfl (b6 B.range (aa ah af)) (aA (i:=10) d3.nd) (ak (dw (aS ag (cy.m (Ax hr.units)) (aG sL.mono UN (hr.mono (by decide)) J7.m J7.F.kp J7.b (aa (ae (i:=10)) (aa (ae (i:=7)) (aa (ae (i:=8)) (aa (ae (i:=9)) af))))) (aG sO.mono U1 (hr.mono (by decide)) Ka.m Ka.F.kp Ka.b (aa (ae (i:=10)) (aa (aX ag (bO.m bf) B.len di (aa (ae (i:=3)) af)) (aa (ae (i:=8)) (aa (ae (i:=9)) af)))))) (au (a5 FN)) bw)
    (au (dw (aS ag (cy.m (Ax hr.units)) (ae (i:=7)) (a8 (aa (ae (i:=3)) (aa (ae (i:=5)) af)))) (au (a5 FN)) bw))))))))))))))),λc x0 x2 x3 x4 x5 x6 x7 x8 x9 FA=>?_⟩
   refine⟨_,rfl,trivial,c,rfl,λns hk=>⟨trivial,(by show 2<11;decide),ns,rfl,hk,?_⟩⟩
   refine⟨rfl,rfl,trivial,rfl,λCO fs Vl hf T8 T5=>?_⟩;refine⟨_,rfl,rfl,_,_,rfl,_,_,rfl,rfl,?_⟩;obtain⟨ks,Ux,Vk,TR⟩:=GN CO none (some 9);refine⟨_,rfl,_,rfl,_,Ux,.inr ?_⟩;refine⟨rfl,_,rfl,trivial,rfl,trivial,fs,rfl,hf,T8,λps pl pp pf=>?_⟩;have ok:Nj ks ps:=⟨⟨by lia,pl,pp⟩,fs++[5,6,7],by rw[VV];show _+3<=_;lia,λx hx=>V3 _ (T5 x (TR x hx)),pf⟩
   refine⟨rfl,trivial,trivial,_,B8,trivial,jt,trivial,rfl,trivial,rfl,trivial,2,rfl,by lia,by lia,λr r0 r1=>pick r0 (by simpa using r1) λd hd=>?_⟩
   obtain⟨m,rfl,m0,m1⟩:∃m:Int,d=.int m/\0<m/\m<=10 ^ 29:=by
    simp only[VB,W7,or_false]at hd;rcases hd with rfl|rfl
    ·exact⟨3,rfl,by lia,by lia⟩
    ·exact⟨10 ^ 29,rfl,by lia,by lia⟩
   refine⟨trivial,rfl,trivial,m,rfl,m0,by lia,λfa f0 f1=>?_⟩
   refine⟨_,rfl,trivial,_,rfl,.inl ⟨iq (f:=id),trivial,_,rfl,trivial,_,rfl,.inl ⟨BO _,trivial,jt,?_⟩⟩⟩;refine⟨trivial,rfl,rfl,trivial,rfl,λg g0=>?_⟩;refine⟨trivial,_,rfl,rfl,trivial,_,rfl,rfl,trivial,_,rfl,_,rfl,trivial,dv (by show 4<=1000;decide),_,rfl,trivial,?_⟩
   refine BM (λ_ β=>∃y8 y9 tT:Option Q.B,β=[x0,some (.val true (.int c)),some (.hand nU),some (.val true (.lst (ks.map D.int))),some (.val true (.lst (fs.map D.int))),some (.val true (.lst (ps.map kD))),some (.val true (.int fa)),some (.val true (.lst [.lst (ks.map D.int),.lst (ps.map kD)])),y8,y9,tT]) ⟨_,_,_,rfl⟩ (λE1 r1 i n1 d β hd hv=>?_) λβ hv=>?_
   ·obtain⟨y8,y9,tT,rfl⟩:=hv;obtain⟨gi,rfl⟩:∃gi:Int,d=.int gi:=by
     have:=Wt hd;simp only[VB,W7,or_false]at this;rcases this with h|h|h|h <;> exact⟨_,h⟩
    refine⟨trivial,_,rfl,rfl,trivial,_,rfl,trivial,_,rfl,trivial,_,rfl,trivial,_,rfl,trivial,_,rfl,trivial,_,rfl,_,rfl,trivial,_,rfl,rfl,trivial,_,rfl,_,rfl,trivial,rfl,_,rfl,trivial,_,rfl,trivial,_,rfl,trivial,rfl,trivial,_,rfl,by rw[Vt];lia,by rw[Vt];lia,λr r0 JX=>?_⟩
    refine⟨trivial,dv (by show 6<=1000;decide),_,rfl,trivial,?_⟩
    refine BM (λ_ β=>∃y9 tT:Option Q.B,β=[x0,some (.val true (.int c)),some (.hand nU),some (.val true (.lst (ks.map D.int))),some (.val true (.lst (fs.map D.int))),some (.val true (.lst (ps.map kD))),some (.val true (.int fa)),some (.val true (.lst [.lst (ks.map D.int),.lst (ps.map kD)])),some (.val true (.int gi)),y9,tT]) ⟨_,_,rfl⟩ (λE2 r2 i n2 d β hd hv=>?_) λβ hv=>?_
    ·obtain⟨y9,tT,rfl⟩:=hv;obtain⟨pi,rfl⟩:∃pi:Int,d=.int pi:=by
      have:=Wt hd;simp only[VB,W7,or_false]at this;rcases this with h|h|h|h|h|h <;> exact⟨_,h⟩
     refine⟨trivial,4,rfl,by decide,by decide,trivial,?_⟩
     refine BM (λ_ β=>∃tT:Option Q.B,β=[x0,some (.val true (.int c)),some (.hand nU),some (.val true (.lst (ks.map D.int))),some (.val true (.lst (fs.map D.int))),some (.val true (.lst (ps.map kD))),some (.val true (.int fa)),some (.val true (.lst [.lst (ks.map D.int),.lst (ps.map kD)])),some (.val true (.int gi)),some (.val true (.int pi)),tT]) ⟨_,rfl⟩ (λE3 r3 w n3 d β hd hv=>?_) λβ hv=>?_
     ·obtain⟨tT,rfl⟩:=hv;obtain⟨hw,rfl⟩:=eP hd;have hw:w<4:=hw;refine⟨_,rfl,trivial,_,rfl,trivial,_,rfl,trivial,_,rfl,trivial,(0+(w:Int)),ks,ps,gi,pi,rfl,ok,by lia,by lia,?_⟩
      have hl:Jq [.lst (ks.map D.int)]=some (.int (ks.length:Int)):=Ca (by rw[Vt])
      refine⟨trivial,_,rfl,trivial,_,rfl,trivial,_,hl,trivial,_,rfl,trivial,_,rfl,trivial,(0+(w:Int)),ks.length,gi,pi,rfl,by lia,by lia,_,sW (xh _),_,rfl,jI rfl ?_⟩
      exact⟨_,rfl,trivial,_,rfl,trivial,_,rfl,trivial,jt,.inr ⟨_,sW (zr ks ps),_,rfl,jI rfl (n3 _ ⟨_,rfl⟩)⟩⟩
     ·obtain⟨tT,rfl⟩:=hv;exact n2 _ ⟨_,_,rfl⟩
    ·obtain⟨y9,tT,rfl⟩:=hv;exact n1 _ ⟨_,_,_,rfl⟩
   ·obtain⟨y8,y9,tT,rfl⟩:=hv;exact⟨_,_,_,_,_,_,_,_,_,_,_,rfl⟩
  refine⟨_,cL (zQ WV rfl (vJ (c9 Az (uo (bj a9 dz)) (rK vp (pv 0) vG (vF a9)))) (Q.aA (C:=⟨H,λ_=>False,true,λ_=>False⟩) (i:=1) d3.nd).pg hb.ps) (ia (i_ Ai)),?_⟩;obtain⟨ms,em,hm⟩:=yr ns none (some 8);refine⟨(by show 1<=VH;decide),λp1 MC=>⟨_,rfl,_,rfl,a,_,rfl,(ay.new MC).seq hS,λp2 NQ=>?_⟩⟩
  have Tj:p1≠p2:=cR ao NQ;refine⟨p1,p2,_,_,rfl,rfl,(by rw[ar Tj];exact ao),ao,(by rw[em,Vt,WD,YU];lia),λl hl=>⟨l,rfl,⟨_,eE.of ao⟩,?_⟩⟩
  rw[em];rw[em]at hl;have sm:ay H (upd (upd (upd H p1 (.lst [V.int 0])) p2 (.lst (ms.map V.int))) l (.lst ([V.int 0]++ms.map V.int))):=((ay.new MC).trans (ay.new (by rw[em]at *;exact NQ))).trans (ay.new hl)
  have oT:(upd (upd (upd H p1 (.lst [V.int 0])) p2 (.lst (ms.map V.int))) l (.lst ([V.int 0]++ms.map V.int))) l=some (.lst ((0::ms).map V.int)):=ao;generalize (upd (upd (upd H p1 (.lst [V.int 0])) p2 (.lst (ms.map V.int))) l (.lst ([V.int 0]++ms.map V.int)))=H1 at sm oT ⊢
  generalize (0::ms)=cs at oT;let X:Cx:=(kS bE P w K mg base ["script","cell","pot","kinds","few","pairs","far","handed","gap","place","way"] "law" (aj mx) f bB A outer s H E).rR
  let C:Q.Cfg:=⟨H,λ_=>False,true,λ_=>False⟩
  have it:vb X (λ_=>False) (N9 K l) (cs.map D.int) H1:=se oT (λz=>z) (cT cs);have F0:=it (λb=>(λ_=>False) b\/H1 b=none) λb z=>z;have s':Q.bz P w C.z (L2.start ["script","cell","pot","kinds","few","pairs","far","handed","gap","place","way"] [.ref a]) H1 (Ws 11 none) (λ_=>[]):=C5 (by rfl) sm
  generalize F7:cs.map D.int=ds at F0;have hint:∀d∈ds,∃c:Int,d=.int c:=λd hd=>by
   rw[<- F7]at hd;obtain⟨c,_,rfl⟩:=V6.mp hd;exact⟨c,rfl⟩
  refine⟨λi m σ H'=>i<=ds.length/\m=ds.length-i/\∃β,Q.SB X C (H1,Q.Wn λ_=>[]) σ H' β/\JL β,⟨_,VX _,rfl,_,⟨_,s',Sn.refl⟩,⟨_,_,_,_,_,_,_,_,_,_,_,rfl⟩⟩,?_⟩;rintro i m σ2 H2 ⟨hi,rfl,β2,⟨aZ,s2,n2⟩,⟨y0,y1,y2,y3,y4,y5,y6,y7,y8,y9,tT,rfl⟩⟩;obtain⟨bJ,fK⟩:=F0 i H2 (n2.k.mono λb z=>z.imp (λL4=> by obtain⟨_,q⟩ := L4;exact(nomatch q)) id)
  by_cases jm:i<ds.length
  ·right
   have hd:ds[i]?=some ds[i]:=VC jm;obtain⟨go,yl⟩:=bJ _ hd;obtain⟨c,hc⟩:=hint ds[i] (WC jm);refine⟨go,λσ' H'=>∃β,Q.SB X C (H1,Q.Wn λ_=>[]) σ' H' β/\JL β,λσ' H' LZ=> by obtain⟨β',ue,yO⟩ := LZ;exact⟨_,by lia,jm,rfl,β',ue,yO⟩,λx H3 y=>?_⟩
   obtain⟨s3,r3⟩:=yl x H3 y;rw[hc]at r3;refine⟨aZ,_,.int c,.own,s2.same s3,az.flat rfl r3,λσ4 mK s4 w4 _=>?_⟩;exact⟨(H1,Q.Wn λ_=>[]),{nx:=JL,rt:=λd _=>d=.bl true,bk:=JL,ct:=JL},_,⟨mK,s4,Q.hG (n2.same s3) w4⟩,hψ c y0 y2 y3 y4 y5 y6 y7 y8 y9 tT,⟨λσ5 H5 β5 xo q5=>⟨β5,xo,q5⟩,λσ5 H5 β5 d5 v5 xo r5 q5=>by
    subst q5;cases (show v5=V.bl true from KD r5)
    exact k _,λσ5 H5 β5 xo q5=>k _,λσ5 H5 β5 xo q5=>⟨β5,xo,q5⟩⟩⟩
  ·left
   have e:i=ds.length:=by lia
   subst e;exact⟨fK (VA _),k _⟩
end
theorem g6 {α:Type}{P:List α->Prop}(h:∀a,P [a]):∀us:List α,us.length=1->P us:=λus e=>by
 obtain⟨a,rfl⟩:=List.length_eq_one_iff.mp e;exact h a
theorem r9 {α:Type}{P:List α->Prop}(h:∀a b,P [a,b]):∀us:List α,us.length=2->P us:=λus e=>by
 cases us with
 |nil=>cases e
 |cons a us=>exact g6 (P:=λus=>P (a::us)) (h a) us (X2 e)
theorem uB {α:Type}{P:List α->Prop}(h:∀a b c,P [a,b,c]):∀us:List α,us.length=3->P us:=λus e=>by
 cases us with
 |nil=>cases e
 |cons a us=>exact r9 (P:=λus=>P (a::us)) (h a) us (X2 e)
theorem Eo {α:Type}{P:List α->Prop}(h:∀a b c d,P [a,b,c,d]):∀us:List α,us.length=4->P us:=λus e=>by
 cases us with
 |nil=>cases e
 |cons a us=>exact uB (P:=λus=>P (a::us)) (h a) us (X2 e)
theorem A_ {α:Type}{P:List α->Prop}(h:∀a b c d e,P [a,b,c,d,e]):∀us:List α,us.length=5->P us:=λus e=>by
 cases us with
 |nil=>cases e
 |cons a us=>exact Eo (P:=λus=>P (a::us)) (h a) us (X2 e)
theorem BH {K:PySem.W.Frag}{x m:Str}{st:Stmt}{t c f:Nat}(l:K.lookup f=some (kF st x m t c))(cd:PySem.W.codeIn K (.ref c) x=true)(k:PySem.W.keepIn K (.ref f)=true):wO K x x st f (NJ st x m t c):=Je l cd k
theorem bh {K:PySem.W.Frag}{h:Heap}{mg:Str->Option Vv}{x m:Str}{st:Stmt}{t c f:Nat}{ps:List Str}(X:K.In h)(G:h.Ns WZ mg)(l:K.lookup f=some (kF st x m t c))(cd:PySem.W.codeIn K (.ref c) x=true)(k:PySem.W.keepIn K (.ref f)=true)
  (a:PySem.W.nsIn K WZ x=some (some (.ref f))) (b:∀us:List Vv,us.length=ps.length->bindArgs (NJ st x m t c) ⟨us,[]⟩=pure (ps.zip us)):Df K mg x st ps f (NJ st x m t c):=⟨BH l cd k,.all b,PySem.W.mg_of X G a⟩
abbrev cX (i:Nat):Addr:=[37,49,61,73,85,97,109,121,133,145,157,169].getD i 0
theorem all_mk {l:PySem.W.OpenLaw} (w:VG) (mg:Str->Option Vv) (fa:Addr) (h:Heap) (X:(KK w.params).In h) (G:h.Ns WZ mg) (T_:mg "law" = some (.ref fa))   :∃fd:VW,(∀(s:Vw) (v:Vv),ZV s fd ⟨[v],[]⟩ [("script",v)])/\∀base:Heap,(KK w.params).In base->base.Ns WZ mg->aB l.prog w (KK w.params) mg base bE 12 fa fd ["script"] (zq (KK w.params)):=by
 have e:=T_.symm.trans (PySem.W.mg_of X G (v:=.ref 383) (by kernel_rfl))
 cases e;have Lp:=PySem.W.mg_none_of X G (n:="max") (by kernel_rfl)
 have Lo:=PySem.W.mg_none_of X G (n:="min") (by kernel_rfl)
 have Lr:=PySem.W.mg_none_of X G (n:="int") (by kernel_rfl)
 have Ef:=PySem.W.mg_none_of X G (n:="range") (by kernel_rfl)
 have AX:=PySem.W.mg_none_of X G (n:="sorted") (by kernel_rfl)
 have Ln:=PySem.W.mg_none_of X G (n:="set") (by kernel_rfl)
 have Lq:=PySem.W.mg_none_of X G (n:="len") (by kernel_rfl)
 have HU:=PySem.W.mg_none_of X G (n:="list") (by kernel_rfl)
 have qj:=PySem.W.mg_none_of X G (n:="isinstance") (by kernel_rfl)
 have Ee:=PySem.W.mg_none_of X G (n:="tuple") (by kernel_rfl)
 have Lm:=PySem.W.mg_none_of X G (n:="str") (by kernel_rfl)
 have HW:=PySem.W.mg_none_of X G (n:="bool") (by kernel_rfl)
 have Lk:=PySem.W.mg_none_of X G (n:="zip") (by kernel_rfl)
 have rV:=PySem.W.mg_none_of X G (n:="enumerate") (by kernel_rfl)
 have Ll:=PySem.W.mg_none_of X G (n:="sum") (by kernel_rfl)
 have Ls:=PySem.W.mg_none_of X G (n:="any") (by kernel_rfl)
 have Lu:=PySem.W.mg_none_of X G (n:="abs") (by kernel_rfl)
 have HV:=PySem.W.mg_none_of X G (n:="dict") (by kernel_rfl)
 have qk:=PySem.W.mg_none_of X G (n:="ValueError") (by kernel_rfl)
 have B:=(⟨⟨(⟨⟨⟨Lp,Lo,Lr,Ef,AX,Ln,Lq,HU⟩,qj,Ee,Lm,HW,Lk,rV⟩,Ll⟩:Bs3 mg),Ls⟩,Lu⟩:Gp mg);have BK:=(⟨B.toBs2,HV⟩:wX mg);have ZA:XA (KK w.params) mg 24 cX:=Ki (by kernel_rfl) (PySem.W.mg_of X G (v:=.ref 24) (by kernel_rfl)) λi x h=>by
  match i,h with
  |0,h=>cases h;exact PySem.W.mg_of X G (v:=.ref 37) (by kernel_rfl)
  |1,h=>cases h;exact PySem.W.mg_of X G (v:=.ref 49) (by kernel_rfl)
  |2,h=>cases h;exact PySem.W.mg_of X G (v:=.ref 61) (by kernel_rfl)
  |3,h=>cases h;exact PySem.W.mg_of X G (v:=.ref 73) (by kernel_rfl)
  |4,h=>cases h;exact PySem.W.mg_of X G (v:=.ref 85) (by kernel_rfl)
  |5,h=>cases h;exact PySem.W.mg_of X G (v:=.ref 97) (by kernel_rfl)
  |6,h=>cases h;exact PySem.W.mg_of X G (v:=.ref 109) (by kernel_rfl)
  |7,h=>cases h;exact PySem.W.mg_of X G (v:=.ref 121) (by kernel_rfl)
  |8,h=>cases h;exact PySem.W.mg_of X G (v:=.ref 133) (by kernel_rfl)
  |9,h=>cases h;exact PySem.W.mg_of X G (v:=.ref 145) (by kernel_rfl)
  |10,h=>cases h;exact PySem.W.mg_of X G (v:=.ref 157) (by kernel_rfl)
  |11,h=>cases h;exact PySem.W.mg_of X G (v:=.ref 169) (by kernel_rfl)
  |n+12,h=>cases h
 exact⟨_,λs v=>.of_eq rfl,λbase _ _=>HJ (BH (x:="law") (m:="law_archrow_k33_kinds_refused") (st:=mx) (t:=594) (c:=382) (f:=383) (by kernel_rfl) (by kernel_rfl) (by kernel_rfl)) B BK qk ZA (bh X G (x:="row_of_kinds") (m:="archrow.kinds") (st:=cn) (t:=528) (c:=266) (f:=267) (ps:=["kinds","pairs","gap"]) (by kernel_rfl) (by kernel_rfl) (by kernel_rfl) (by kernel_rfl) (uB λ_ _ _=>rfl))
  (bh X G (x:="check_gap") (m:="archrow.kinds") (st:=dO) (t:=528) (c:=292) (f:=293) (ps:=["gap"]) (by kernel_rfl) (by kernel_rfl) (by kernel_rfl) (by kernel_rfl) (g6 λ_=>rfl))
  (bh X G (x:="pairs_either_way") (m:="archrow.kinds") (st:=b5) (t:=528) (c:=299) (f:=300) (ps:=["pairs"]) (by kernel_rfl) (by kernel_rfl) (by kernel_rfl) (by kernel_rfl) (g6 λ_=>rfl))
  (bh X G (x:="most_ties") (m:="archrow.kept") (st:=fm) (t:=496) (c:=242) (f:=243) (ps:=["row"]) (by kernel_rfl) (by kernel_rfl) (by kernel_rfl) (by kernel_rfl) (g6 λ_=>rfl))
  (bh X G (x:="most_of") (m:="archrow.kept") (st:=hZ) (t:=496) (c:=249) (f:=250) (ps:=["row","i","j"]) (by kernel_rfl) (by kernel_rfl) (by kernel_rfl) (by kernel_rfl) (uB λ_ _ _=>rfl))
  (bh X G (x:="table_of") (m:="archrow.kept") (st:=f7) (t:=496) (c:=256) (f:=257) (ps:=["row"]) (by kernel_rfl) (by kernel_rfl) (by kernel_rfl) (by kernel_rfl) (g6 λ_=>rfl))
  (bh X G (x:="greatest_table") (m:="archrow.stretches") (st:=cC) (t:=427) (c:=211) (f:=212) (ps:=["row","worth"]) (by kernel_rfl) (by kernel_rfl) (by kernel_rfl) (by kernel_rfl) (r9 λ_ _=>rfl))
  (bh X G (x:="partners_of") (m:="archrow.stretches") (st:=dE) (t:=427) (c:=199) (f:=200) (ps:=["row"]) (by kernel_rfl) (by kernel_rfl) (by kernel_rfl) (by kernel_rfl) (g6 λ_=>rfl))
  (bh X G (x:="stretches_rising") (m:="archrow.stretches") (st:=b4) (t:=427) (c:=194) (f:=195) (ps:=["many"]) (by kernel_rfl) (by kernel_rfl) (by kernel_rfl) (by kernel_rfl) (g6 λ_=>rfl))
  (bh X G (x:="least_number") (m:="archrow.stretches") (st:=c6) (t:=427) (c:=223) (f:=224) (ps:=["partners","worth","table","i","j"]) (by kernel_rfl) (by kernel_rfl) (by kernel_rfl) (by kernel_rfl) (A_ λ_ _ _ _ _=>rfl))
  (bh X G (x:="number_with") (m:="archrow.stretches") (st:=dF) (t:=427) (c:=218) (f:=219) (ps:=["worth","table","i","k","j"]) (by kernel_rfl) (by kernel_rfl) (by kernel_rfl) (by kernel_rfl) (A_ λ_ _ _ _ _=>rfl))
  (bh X G (x:="one_each") (m:="archrow.kept") (st:=f9) (t:=496) (c:=261) (f:=262) (ps:=["row"]) (by kernel_rfl) (by kernel_rfl) (by kernel_rfl) (by kernel_rfl) (g6 λ_=>rfl))
  (bh X G (x:="first_greatest") (m:="archrow.stretches") (st:=cD) (t:=427) (c:=235) (f:=236) (ps:=["row","worth","table","i","j"]) (by kernel_rfl) (by kernel_rfl) (by kernel_rfl) (by kernel_rfl) (A_ λ_ _ _ _ _=>rfl))
  (bh X G (x:="best_choices") (m:="archrow.stretches") (st:=c8) (t:=427) (c:=228) (f:=229) (ps:=["partners","worth","table","i","j"]) (by kernel_rfl) (by kernel_rfl) (by kernel_rfl) (by kernel_rfl) (A_ λ_ _ _ _ _=>rfl))
  (bh X G (x:="parts_left") (m:="archrow.stretches") (st:=ek) (t:=427) (c:=206) (f:=207) (ps:=["i","k","j"]) (by kernel_rfl) (by kernel_rfl) (by kernel_rfl) (by kernel_rfl) (uB λ_ _ _=>rfl))
  (bh X G (x:="row_beside") (m:="archrow.arcs") (st:=ei) (t:=399) (c:=189) (f:=190) (ps:=["row","tie"]) (by kernel_rfl) (by kernel_rfl) (by kernel_rfl) (by kernel_rfl) (r9 λ_ _=>rfl))
  (bh X G (x:="share_a_point") (m:="archrow.arcs") (st:=cO) (t:=399) (c:=184) (f:=185) (ps:=["one","other"]) (by kernel_rfl) (by kernel_rfl) (by kernel_rfl) (by kernel_rfl) (r9 λ_ _=>rfl))
  (bh X G (x:="arcs_cross") (m:="archrow.arcs") (st:=el) (t:=399) (c:=177) (f:=178) (ps:=["one","other"]) (by kernel_rfl) (by kernel_rfl) (by kernel_rfl) (by kernel_rfl) (r9 λ_ _=>rfl))
  (bh X G (x:="most_without") (m:="archrow.kinds") (st:=c5) (t:=528) (c:=304) (f:=305) (ps:=["row","point"]) (by kernel_rfl) (by kernel_rfl) (by kernel_rfl) (by kernel_rfl) (r9 λ_ _=>rfl))
  (bh X G (x:="most_beside") (m:="archrow.kinds") (st:=dG) (t:=528) (c:=311) (f:=312) (ps:=["row","point","other"]) (by kernel_rfl) (by kernel_rfl) (by kernel_rfl) (by kernel_rfl) (uB λ_ _ _=>rfl))
  (bh X G (x:="best_kinds") (m:="archrow.kinds") (st:=c7) (t:=528) (c:=278) (f:=279) (ps:=["kinds","pairs","gap","place"]) (by kernel_rfl) (by kernel_rfl) (by kernel_rfl) (by kernel_rfl) (Eo λ_ _ _ _=>rfl))
  (bh X G (x:="most_of_kinds") (m:="archrow.kinds") (st:=b9) (t:=528) (c:=273) (f:=274) (ps:=["kinds","pairs","gap"]) (by kernel_rfl) (by kernel_rfl) (by kernel_rfl) (by kernel_rfl) (uB λ_ _ _=>rfl))
  (bh X G (x:="most_with") (m:="archrow.kinds") (st:=dN) (t:=528) (c:=285) (f:=286) (ps:=["kinds","pairs","gap","place","kind"]) (by kernel_rfl) (by kernel_rfl) (by kernel_rfl) (by kernel_rfl) (A_ λ_ _ _ _ _=>rfl))
  (bh X G (x:="_law_pot") (m:="law_archrow_k33_kinds_refused") (st:=fR) (t:=594) (c:=318) (f:=319) (ps:=["cell"]) (by kernel_rfl) (by kernel_rfl) (by kernel_rfl) (by kernel_rfl) (g6 λ_=>rfl))
  (bh X G (x:="_law_take") (m:="law_archrow_k33_kinds_refused") (st:=eO) (t:=594) (c:=325) (f:=326) (ps:=["pot","many"]) (by kernel_rfl) (by kernel_rfl) (by kernel_rfl) (by kernel_rfl) (r9 λ_ _=>rfl))
  (bh X G (x:="_law_kinds") (m:="law_archrow_k33_kinds_refused") (st:=fq) (t:=594) (c:=330) (f:=331) (ps:=["pot"]) (by kernel_rfl) (by kernel_rfl) (by kernel_rfl) (by kernel_rfl) (g6 λ_=>rfl))
  (bh X G (x:="_law_pairs") (m:="law_archrow_k33_kinds_refused") (st:=fo) (t:=594) (c:=337) (f:=338) (ps:=["pot","few"]) (by kernel_rfl) (by kernel_rfl) (by kernel_rfl) (by kernel_rfl) (r9 λ_ _=>rfl))
  (bh X G (x:="_law_gap") (m:="law_archrow_k33_kinds_refused") (st:=h7) (t:=594) (c:=344) (f:=345) (ps:=["pot"]) (by kernel_rfl) (by kernel_rfl) (by kernel_rfl) (by kernel_rfl) (g6 λ_=>rfl))
  (bh X G (x:="_law_ties") (m:="law_archrow_k33_kinds_refused") (st:=i7) (t:=594) (c:=349) (f:=350) (ps:=["kinds","pairs","gap"]) (by kernel_rfl) (by kernel_rfl) (by kernel_rfl) (by kernel_rfl) (uB λ_ _ _=>rfl))
  (bh X G (x:="_law_flags") (m:="law_archrow_k33_kinds_refused") (st:=ft) (t:=594) (c:=356) (f:=357) (ps:=["e"]) (by kernel_rfl) (by kernel_rfl) (by kernel_rfl) (by kernel_rfl) (g6 λ_=>rfl))
  (bh X G (x:="_law_due_flags") (m:="law_archrow_k33_kinds_refused") (st:=cP) (t:=594) (c:=361) (f:=362) (ps:=["at"]) (by kernel_rfl) (by kernel_rfl) (by kernel_rfl) (by kernel_rfl) (g6 λ_=>rfl))
  (bh X G (x:="_law_due") (m:="law_archrow_k33_kinds_refused") (st:=h8) (t:=594) (c:=375) (f:=376) (ps:=["way","many","gap","place"]) (by kernel_rfl) (by kernel_rfl) (by kernel_rfl) (by kernel_rfl) (Eo λ_ _ _ _=>rfl))
  (bh X G (x:="_law_said") (m:="law_archrow_k33_kinds_refused") (st:=f_) (t:=594) (c:=368) (f:=369) (ps:=["way","given","gap","place"]) (by kernel_rfl) (by kernel_rfl) (by kernel_rfl) (by kernel_rfl) (Eo λ_ _ _ _=>rfl))⟩
end lY
abbrev PySem.W.Fast.tw11881761006990204290:PySem.Program:=PySem.Challenge.pw_archrow_k33_kinds_refused
theorem PySem.W.Fast.te11881761006990204290:PySem.Challenge.pw_archrow_k33_kinds_refused=PySem.W.Fast.tw11881761006990204290:=rfl
open PySem PySem.W PyProof.Rows
set_option maxRecDepth 100000 in
set_option maxHeartbeats 0 in
theorem PySem.Challenge.cw_archrow_k33_kinds_refused_holds : PySem.Challenge.rw_archrow_k33_kinds_refused.Holds := by
 w_on;o_law
 refine holds_open (q:=lY.view) (loose:=[]) (Xt:=λs=>xlAt lY.view [] s&&recOk (RowW.records PySem.Challenge.rw_archrow_k33_kinds_refused.row.toRowW) s) (XP:=XL lY.view []) (Yf:=lY.HK.obs) (Ya:=lY.HK.val) (YP:=λw h=>(lY.KK w.params).In h) (N:=7736) lY.left lY.HK.of lY.HK.keeps (λs e=>xl_of s (Bool.and_eq_true_iff.mp e).1) XL.keeps (by rfl) (by rfl) (by rfl) (λs e=>recFacts_of (Bool.and_eq_true_iff.mp e).2) (by rfl) (by first|assumption|decide +kernel) (by decide +kernel) ⟨rfl,rfl,rfl,rfl,rfl,by decide +kernel⟩ ?hw ?hc
 (case hw=>w_witness2)
 case hc =>
  exact L2.C1 (l:=PySem.Challenge.rw_archrow_k33_kinds_refused) (K:=lY.KK) (n:=63) (k:=12) (x:="script") (CX:=λ_=>L2.bE) (sp:=λw=>lY.zq (lY.KK w.params)) rfl (by decide) rfl ⟨rfl,by decide,by decide⟩ (λw h Y=>Y) lY.all_mk (λ_ _ a ns hl _ hS=>⟨a,ns,rfl,hS,hl,λ_=>rfl⟩) λ_ _ _ _ _ z=>z
#print axioms PySem.Challenge.cw_archrow_k33_kinds_refused_holds
