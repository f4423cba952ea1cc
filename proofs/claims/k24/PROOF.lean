import PyProof.Rows.All
import Wide.All
import OpenK.AllK
import Wide.FinOn
import OpenK.KLine
import Lean
import PyProof.EqAt
import PyProof.EqKinds
import PyProof.TupleCall
import PyProof.Rows.SortShell
import PyProof.Rows.SortWalk
import PyProof.CompFree
import PyProof.Rows.SortRuns
import PyProof.EqLayable
import PyProof.NeData
import PyProof.P3In
import PyProof.ZipIter
import PyProof.EnumMake
import PyProof.EnumFor
import PyProof.Rows.Range3
import PyProof.AttrMissSeq
import KE.KDictOf
import KE.KTryMore
import PyProof.NsDelKeeps
import PyProof.ExcBaseAll.ValueError
import PyProof.Rows.SeqMore
import PyProof.ConsumeWalk
import PyProof.Rows.SeqMore2
import PyProof.Rows.CountFlat
import PySem.Challenge.RW_archrow_k24_sets_refused
set_option Elab.async false
set_option linter.all false
set_option maxRecDepth 100000
set_option maxHeartbeats 4000000
set_option compiler.extract_closed false
open PySem renaming Value->U5,wpAny_bind->U6,Shared->U7,Program->U_,starEach->Vd,wpAny_pure->Vg,sizeLine->Vh,World->Vl,wpAny->VA,FuncData->VE,compareOp->VN,Around->VZ,foldedSetIterable->V0,bootBuiltins->V3,sizeLine_eq->Wm,backTo->Wt,wpAny_newObj_type->Wu,wpAny_holding->WC,mainGlobals->WE,wpAny_loadPart'->WH,sysModules->WK,swapsWith->WO,wpAny_truthy_bool->WQ,binaryOp->WR,wpAny_typeNameOfWhole_keyiter->WY,sliceBounds->WZ,assignEach->W3,Builtin->W4,wpAny_passesOwn->W6,wpAny_standAt->W7,behindInMarks->W8,attributeBase->W9,wpAny_mono->Xi,wpAny_call_entry->Xm,wpAny_typeNameOf_keyiter->Xq,Comprehension->Xu,wpAny_execs_nil->Xw,wpAny_rule->Xx,Scope->Xz,codeAny_mono->XE,CmpOp->XS,DictEntry->XU,Keyword->XW,NameKind->XX,cLine->X0,wpAny_Call_Name_kw->X3,keywordEach->X_,wpAny_attempt->Yg,wpAny_callSpecial?_slot->Ym,richCompare_meets_room->Yo,codeAny->Yp,call_meets->Yq,letOwnedTupleGo->Ys,Params->YD,tupleKind->YH,standAt->YI,swapsWithSole->YM,swappedStores->YN,wpAny_call->YS,wpAny_dictEntries->YY,slot_list_getitem->YZ,callerA->Y0,bindName->Y1,backToKw->Y2,wpAny_forIn_list->Y6,wpAny_execs_cons->Y7,treeTable->Y8,isTrue->Y9,inplaceOp->Y_,PassesOwn->Za,Model->Zf,IsRangeIter->Zg,wpAny_dictEpoch->Zh,getItem->Zn,pyNext->Zo,pyIter->Zq,Operator->Zs
open Nat renaming le_refl->U8,zero_le->Vv,le_trans->Vy,lt_of_lt_of_le->VG,ne_of_lt->VJ,lt_or_ge->WS,lt_irrefl->W_,zero_add->XG,mul_le_mul->XH,min_le_left->XZ,one_mul->YE,lt_succ_self->Zb
open List renaming length_map->U9,mem_cons->Va,getElem?_eq_some_iff->Vc,getElem?_eq_getElem->Vf,length_append->Vk,mem_cons_of_mem->Vm,mem_singleton->Vn,length_cons->Vo,getElem?_map->Vq,size_toArray->Vs,replicate->Vt,mem_cons_self->Vw,mem_of_getElem?->VB,mem_append->VC,range->VD,map_cons->VI,nodup_cons->VL,mem_append_right->VM,mem_map->VV,length_take->VW,drop_eq_getElem_cons->VY,map_append->V1,mem_range->V4,append_assoc->V5,length_nil->V6,nodup_append->V8,pairwise_cons->Wa,nodup_nil->Wc,getElem?_append_right->Wd,take_of_length_le->Wg,lookup_cons->Wh,all_eq_true->Wi,map_congr_left->Wk,filterMap_cons->Wl,take_add_one->Wo,map_map->Wr,append_nil->Ws,length_range->Wv,drop_of_length_le->Ww,replicate_succ->Wy,mem_filter->WA,zip_cons_cons->WB,mem_append_left->WG,length_filter_le->WL,getElem?_eq_none->WM,getElem?_append_left->WN,pairwise_map->WT,getElem?_range->WU,not_mem_nil->WW,length_drop->WX,take_append_drop->Xa,take_sublist->Xd,flatten_cons->Xe,take_length->Xo,getElem?_set->XI,mem_of_mem_take->XY,length_reverse->X1,zip_nil_right->X4,getElem?_take->X5,findSome?_eq_none_iff->X6,pairwise_iff_getElem->X7,zip_nil_left->Yb,reverse_cons->Yc,ext_getElem?->Yd,getElem_mem->Yn,of_mem_zip->Yu,foldl_cons->Yv,find?_cons->Yw,mem_iff_getElem?->Yy,length_singleton->Yz,length_replicate->YA,reverse_reverse->YF,getElem?_set_ne->YG,reverse_append->YK,sum_cons->YQ,any_cons->YR,mem_filterMap->YU,find?_eq_none->YV,filter_append->YW,filter_cons->Zc,drop_length->Zd,range_succ->Zi,drop_zero->Zt,getElem?_eq_none_iff->Zz
open PyProof.Rows renaming Keyed->Vb,wpS_bind->Ve,wpS_pure->Vj,pendingOf->Vu,SortSt->VF,arrOf->VH,wpS_forRange->V2,setArr->V7,IntsAre->Wj,wpS_mono->WD,callWith_type1->WJ,seqObj->WV,wpS_modify->Xh,SortKind->Xr,failedOf->XD,slot_tuple_getitem->XO,setPending->XT,wpS_get->X9,AllBare->Ye,envOfC->Yh,wpS_lift->YB,assignInOrder_cons->YT,IsTup->Y5
open PySem.Heap renaming get?_push_of_some->Vi,lt_size->Vp,get?_push_size->VS,FlyingW->XJ,SameBut->X2
open Option renaming map_eq_some_iff->Vr,bind_eq_some_iff->VQ,map_some->Yt
open Array renaming getElem?_toList->Vx,length_toList->Vz,toList_append->Wz,toList_push->Xf,getD_eq_getD_getElem?->Xg,perm_iff_toList_perm->Xl,getElem?_eq_none->XN,toList_zip->Ze,size_zip->Zx,mk->Zy
open Bool renaming and_eq_true->VO,false_ne_true->We,eq_false_iff->Wx,false_eq_true->W5,not_eq_true'->XM,not_eq_false'->YX,or_eq_true->Zl
open PySem.PassesOwn renaming never->VP
open PySem.SeqAt renaming canLay_of_shaped->VR
open Decidable renaming by_contra->VT
open PySem.NameKind renaming free->VU,cell->Xs
open Option.some renaming inj->VX,injEq->Y4
open Int renaming toNat_natCast->V9,toNat_of_nonneg->YL
open PySem.PyData renaming eqv->V_,depthAll->Wf,canLay0->Wq,canLayAll0->Xb,depth->XF,eqvAll->Yi
open False renaming elim->WI
open PySem.Obj renaming mapSeq->Xj
open Ne renaming symm->Xn
open PySem.Builtin.Slice renaming slicePlaces->Xp,sliceAdjust->X8,sliceApplied->Zw
open PySem.Builtin.Tuple renaming tupleExact->Xv,tupleCompareSizes->XQ
open PySem.W renaming boot_heap->Xy,boot_drawn->Zr
open PySem.Builtin.Range renaming rangeSize->XB
open PySem.Code renaming compLoop->Yj,compStart->Zu
open PySem.Builtin.List renaming listTooLong->Yk
open PySem.AutoSeq1 renaming sub_tuple_tuple->Yl
open Nat.succ renaming inj->Yr
open ForInStep renaming yield->Yx
open PySem.Value renaming notImplemented->YC,builtin->YO
open Sum renaming inl->YJ,inr->Y3
open List.Perm renaming of_eq->Zj
open PySem.Builtin.Dict_items renaming ownsTuple->Zk
open Array.Perm renaming refl->Zm
open PySem.Calls renaming Name_function_global->Zv,call_function_entry->ZC
noncomputable section
namespace L2
open PySem PySem.Spec PyProof.Rows
def lh (s:Stmt):Arguments:=match s with
 |.FunctionDef _ a _ _ _ _ _ _ _ _=>a
 |_=>{posonlyargs:=[],args:=[],vararg:=none,kwonlyargs:=[],kw_defaults:=[],kwarg:=none,defaults:=[]}
def dW (s:Stmt):List Stmt:=match s with
 |.FunctionDef _ _ b _ _ _ _ _ _ _=>b
 |_=>[]
def ao (s:Stmt):Xz:=match s with
 |.FunctionDef _ _ _ _ _ _ sc _ _ _=>sc
 |_=>{kind:=.function,names:=[],isGenerator:=false,isCoroutine:=false}
end L2
namespace L2.Hd
open PySem PySem.W PySem.Spec PyProof.Rows
def iU (tb:String->Option W4)(p:U_)(w:Vl)(n₀:Nat)(ann:Option U5):Nat->SharedT->Thread->Option SharedT
 |0,_,_=>none
 |n+1,s,t=>match through t with
  |true=>some s
  |false=>match stepOk n₀ ann t with
   |false=>none
   |true=>match stepT (denote tb) p w s t with
    |some (s',t')=>iU tb p w n₀ ann n s' t'
    |none=>none
theorem lA {tb:String->Option W4}{p:U_}{w:Vl}{n₀:Nat}{ann:Option U5}:∀{n:Nat} {s s':SharedT} {t:Thread},iU tb p w n₀ ann n s t=some s'->topRun tb p w n₀ ann n s.abs t=some s'.abs
 |0,_,_,_,g=>by cases g
 |n+1,s,s',t,g=>by
  unfold iU at g;unfold topRun;cases ht:through t with
  |true=>rw[ht]at g;cases g;rfl
  |false =>
   rw[ht]at g;cases hk:stepOk n₀ ann t with
   |false=>rw[hk]at g;cases g
   |true =>
    rw[hk]at g;cases hq:stepT (denote tb) p w s t with
    |none=>rw[hq]at g;cases g
    |some r=>obtain⟨s₂,t₂⟩:=r;rw[hq]at g;dsimp only;rw[stepT_spec hq];exact lA g
noncomputable def Mi (P:YD):BT:=((Xy P).objs.toList.foldl (λ(x:BT×Nat) o=>(x.1.ins x.2 o,x.2+1)) (.nil,0)).1
noncomputable def BH (w:Vl)(os:OsState):SharedT:=⟨Mi w.params,11,(Xy w.params).life,Zy [],Zr,boot_toks,os⟩
theorem boot_abs (w:Vl)(os:OsState):(BH w os).abs=⟨Xy w.params,Zy [],Zr,boot_toks,os⟩:=by kernel_rfl
theorem DY (P:YD):((Xy P).isNs WE&&((Zy []:Array GenState).size==0))=true:=by kernel_rfl
theorem yq (P:YD):(Xy P).objs.size=11:=by kernel_rfl
theorem BG (P:YD):(Xy P).nsMap WE "__annotations__" = some (.ref 6):=by kernel_rfl
def ends (p:U_)(h0:Heap)(s₁:U7):Option U7:=match staticsOk (importedModules p.main.body) h0 s₁.heap&&namesBound p s₁.heap&&gensDone s₁&&laidKept h0 s₁.heap with
 |true=>some s₁
 |false=>none
theorem xJ {p q:U_}{loose:List Str}{Xt:U7->Bool}{α:Type}{Yf:U7->α}{Ya:Vl->α}{N:Nat}{g0:Bool}
  (g1:opening p=plainProg p.main.scope.names) (g2:Nat.ble 600 N=true) (g3:∀s,fenceModules? p s=some s)
  (g4:∀(w:Vl) (os:OsState),((iU Y8 p w 11 (some (.ref 6)) N (BH w os) (topStub p)).bind λs₁=>ends p (Xy w.params) s₁.abs).map (λs=>(openSeen q loose (importedModules p.main.body) Xt g0 s,Yf s))=some (openGood q loose,Ya w)) :
  LeftO p q loose Xt Yf Ya N g0:=λw=>by
 obtain⟨⟨hp,gs,dr,tk,os⟩,e,v⟩:=Vr.mp (boot_open (N:=N) g1 g2 g3 w);obtain⟨v1,v⟩:=Prod.mk.inj v;obtain⟨v2,v⟩:=Prod.mk.inj v;obtain⟨v3,v4⟩:=Prod.mk.inj v;dsimp only at v1 v2 v3 v4;subst v1 v2 v3 v4;have g:=g4 w os;unfold openEnds;rw[e];show (topFrom Y8 p w N _).map _=_;have t:topFrom Y8 p w N ⟨Xy w.params,Zy [],Zr,boot_toks,os⟩=(topRun Y8 p w 11 (some (.ref 6)) N ⟨Xy w.params,Zy [],Zr,boot_toks,os⟩ (topStub p)).bind (ends p (Xy w.params)):=by
  unfold topFrom;rw[DY];dsimp only;rw[yq,BG];rfl
 rw[t];cases hT:iU Y8 p w 11 (some (.ref 6)) N (BH w os) (topStub p)with
 |none=>rw[hT]at g;cases g
 |some s₁ =>
  have r:=lA hT;rw[boot_abs]at r;rw[hT]at g;rw[r];exact g
end L2.Hd
namespace ip
open PySem L2
def top (i:Nat):Stmt:=PySem.Challenge.pw_archrow_k24_sets_refused.main.body.getD i (.Pass ⟨0,0,0,0⟩)
abbrev dI:Stmt:=top 15
abbrev iY:Stmt:=top 16
abbrev c8:Stmt:=top 17
abbrev fK:Stmt:=top 18
abbrev ck:Stmt:=top 19
abbrev dc:Stmt:=top 20
abbrev bJ:Stmt:=top 22
abbrev c5:Stmt:=top 23
abbrev dA:Stmt:=top 24
abbrev gT:Stmt:=top 25
abbrev gU:Stmt:=top 26
abbrev dG:Stmt:=top 28
abbrev cK:Stmt:=top 29
abbrev gx:Stmt:=top 30
abbrev d9:Stmt:=top 31
abbrev bE:Stmt:=top 32
abbrev eR:Stmt:=top 33
abbrev bZ:Stmt:=top 34
abbrev cj:Stmt:=top 35
abbrev eP:Stmt:=top 36
abbrev c7:Stmt:=top 38
abbrev ee:Stmt:=top 39
abbrev d_:Stmt:=top 40
abbrev gV:Stmt:=top 41
abbrev dD:Stmt:=top 42
abbrev cL:Stmt:=top 43
abbrev fJ:Stmt:=top 44
abbrev iu:Stmt:=top 45
abbrev fI:Stmt:=top 46
abbrev c6:Stmt:=top 47
abbrev dC:Stmt:=top 48
abbrev dB:Stmt:=top 49
abbrev eQ:Stmt:=top 50
abbrev lI:Stmt:=top 51
abbrev vS (x:Str)(t:Nat):U5:=.str x t
abbrev kE (P:YD)(x:Str)(t:Nat)(v:U5):XU:=⟨PyData.keyHash P x,.str x t,v⟩
abbrev kC (n:Str)(t l p r8 SJ Sa:Nat)(RL RK RF:U5)(R_ SI RU:Nat):Obj:={cls:=.type "code",data:=.fields #[vS n t,vS n (t+1),vS "/claim/cut.py" (t+2),.int l 0,.int p 0,.int 0 0,.int 0 0,.int 3 0,.ref r8,.bool true,.int SJ 0,.ref Sa,RL,RK,RF,.ref R_,.int SI 0,.int l 0,vS "/claim/cut.py" RU]}
abbrev MT (st:Stmt)(x m:Str)(t c:Nat):VE:=PySem.W.fnOf x x (lh st) (dW st) (ao st) .none .none .none (vS m t) none (.ref c) .none
abbrev kF (st:Stmt)(x m:Str)(t c:Nat):Obj:={cls:=.type "function",data:=.func (MT st x m t c)}
abbrev kX (x:Str)(a A t:Nat):Obj:={cls:=.type "type",data:=.cls {name:=x,bases:=[.ref A],mro:=[.ref a,.ref A,.type "ValueError",.type "Exception",.type "BaseException",.type "object"],ns:=a-1,qualname:=x},slots:=#[some (.ref (a-9)),none,some (vS x t),some (vS x (t+8)),some (.builtin "ValueError.__new__"),some (.bool true)]}
abbrev kN (P:YD)(a t m l:Nat):Obj:={cls:=.type "dict",data:=.dict #[kE P "__module__" (t+7) (vS "archrow.errors" m),kE P "__firstlineno__" (t+11) (.int l (t+10)),kE P "__static_attributes__" (t+12) (.ref (a-2)),kE P "__doc__" (t+13) .none] 2}
def KK:YD->PySem.W.Frag:=λP=>[(3,{cls:=.type "dict",data:=.dict #[kE P "__name__" 165 (vS "law_archrow_k24_sets_refused" 576),kE P "__doc__" 166 .none,kE P "__package__" 167 .none,kE P "__loader__" 168 (.builtin "__main__.__loader__#opaque"),kE P "__spec__" 169 .none,kE P "__annotations__" 170 (.ref 6),kE P "__builtins__" 171 (.ref 4),kE P "__file__" 173 (vS "/claim/cut.py" 172),kE P "__cached__" 174 .none,kE P "ArchError" 206 (.ref 24),kE P "NoRow" 222 (.ref 37),kE P "NoTie" 238 (.ref 49),kE P "NoStretch" 254 (.ref 61),kE P "NoWeights" 270 (.ref 73),kE P "NoNumber" 286 (.ref 85),kE P "NoSet" 302 (.ref 97),kE P "NoGap" 318 (.ref 109),kE P "NoPlace" 334 (.ref 121),kE P "NoShape" 350 (.ref 133),kE P "NoText" 366 (.ref 145),kE P "NoForm" 382 (.ref 157),kE P "NoneYet" 398 (.ref 169),kE P "arcs_cross" 412 (.ref 178),kE P "is_set" 420 (.ref 185),kE P "first_fault" 430 (.ref 192),kE P "fault_at" 440 (.ref 199),kE P "share_a_point" 448 (.ref 206),kE P "check_set" 456 (.ref 213),kE P "stretches_rising" 464 (.ref 218),kE P "partners_of" 470 (.ref 223),kE P "parts_left" 479 (.ref 230),kE P "ways_in" 490 (.ref 237),kE P "ways_by" 496 (.ref 242),kE P "count_sets" 505 (.ref 249),kE P "set_number" 511 (.ref 254),kE P "set_at" 526 (.ref 261),kE P "next_set" 532 (.ref 266),kE P "how_many_begin" 540 (.ref 273),kE P "counts_of" 546 (.ref 278),kE P "waiting_behind" 559 (.ref 285),kE P "waiting_after" 569 (.ref 292),kE P "ties_next" 575 (.ref 297),kE P "_law_cell_at" 585 (.ref 304),kE P "_law_deck" 592 (.ref 311),kE P "_law_take" 602 (.ref 318),kE P "_law_row" 618 (.ref 325),kE P "_law_copied" 625 (.ref 332),kE P "_law_do_cross" 633 (.ref 339),kE P "_law_fits" 642 (.ref 346),kE P "_law_sets" 648 (.ref 351),kE P "_law_kind" 657 (.ref 358),kE P "_law_refusal" 668 (.ref 365),kE P "_law_is_set" 678 (.ref 372),kE P "_law_spoilt" 696 (.ref 379),kE P "_law_right" 702 (.ref 384),kE P "law" 716 (.ref 391)] 56}),
 (177,kC "arcs_cross" 401 29 2 172 181 173 .none (.ref 174) (.ref 175) 176 410 411),
 (178,kF dI "arcs_cross" "archrow.arcs" 399 177),
 (184,kC "is_set" 413 33 2 179 181 180 .none (.ref 181) (.ref 182) 183 418 419),
 (185,kF iY "is_set" "archrow.arcs" 399 184),
 (191,kC "first_fault" 421 35 2 186 181 187 .none (.ref 188) (.ref 189) 190 428 429),
 (192,kF c8 "first_fault" "archrow.arcs" 399 191),
 (198,kC "fault_at" 431 41 3 193 181 194 .none (.ref 195) (.ref 196) 197 438 439),
 (199,kF fK "fault_at" "archrow.arcs" 399 198),
 (205,kC "share_a_point" 441 53 2 200 181 201 .none (.ref 202) (.ref 203) 204 446 447),
 (206,kF ck "share_a_point" "archrow.arcs" 399 205),
 (212,kC "check_set" 449 55 2 207 181 208 .none (.ref 209) (.ref 210) 211 454 455),
 (213,kF dc "check_set" "archrow.arcs" 399 212),
 (217,kC "stretches_rising" 459 59 1 214 181 215 .none .none .none 216 462 463),
 (218,kF bJ "stretches_rising" "archrow.stretches" 457 217),
 (222,kC "partners_of" 465 61 1 219 181 220 .none .none .none 221 468 469),
 (223,kF c5 "partners_of" "archrow.stretches" 457 222),
 (229,kC "parts_left" 471 67 3 224 181 225 .none (.ref 226) (.ref 227) 228 477 478),
 (230,kF dA "parts_left" "archrow.stretches" 457 229),
 (236,kC "ways_in" 480 71 2 231 181 232 .none (.ref 233) (.ref 234) 235 488 489),
 (237,kF gT "ways_in" "archrow.stretches" 457 236),
 (241,kC "ways_by" 491 76 4 238 181 239 .none .none .none 240 494 495),
 (242,kF gU "ways_by" "archrow.stretches" 457 241),
 (248,kC "count_sets" 499 79 1 243 181 244 .none (.ref 245) (.ref 246) 247 503 504),
 (249,kF dG "count_sets" "archrow.counted" 497 248),
 (253,kC "set_number" 506 81 2 250 181 251 .none .none .none 252 509 510),
 (254,kF cK "set_number" "archrow.counted" 497 253),
 (260,kC "set_at" 512 91 2 255 181 256 .none (.ref 257) (.ref 258) 259 524 525),
 (261,kF gx "set_at" "archrow.counted" 497 260),
 (265,kC "next_set" 527 109 2 262 181 263 .none .none .none 264 530 531),
 (266,kF d9 "next_set" "archrow.counted" 497 265),
 (272,kC "how_many_begin" 533 119 2 267 181 268 .none (.ref 269) (.ref 270) 271 538 539),
 (273,kF bE "how_many_begin" "archrow.counted" 497 272),
 (277,kC "counts_of" 541 122 1 274 181 275 .none .none .none 276 544 545),
 (278,kF eR "counts_of" "archrow.counted" 497 277),
 (284,kC "waiting_behind" 547 130 2 279 181 280 .none (.ref 281) (.ref 282) 283 557 558),
 (285,kF bZ "waiting_behind" "archrow.counted" 497 284),
 (291,kC "waiting_after" 560 136 2 286 181 287 .none (.ref 288) (.ref 289) 290 567 568),
 (292,kF cj "waiting_after" "archrow.counted" 497 291),
 (296,kC "ties_next" 570 141 2 293 181 294 .none .none .none 295 573 574),
 (297,kF eP "ties_next" "archrow.counted" 497 296),
 (303,kC "_law_cell_at" 578 144 2 298 181 299 .none (.ref 300) (.ref 301) 302 583 584),
 (304,kF c7 "_law_cell_at" "law_archrow_k24_sets_refused" 576 303),
 (310,kC "_law_deck" 586 148 1 305 181 306 .none (.ref 307) (.ref 308) 309 590 591),
 (311,kF ee "_law_deck" "law_archrow_k24_sets_refused" 576 310),
 (317,kC "_law_take" 593 150 2 312 181 313 .none (.ref 314) (.ref 315) 316 600 601),
 (318,kF d_ "_law_take" "law_archrow_k24_sets_refused" 576 317),
 (324,kC "_law_row" 603 159 2 319 181 320 .none (.ref 321) (.ref 322) 323 616 617),
 (325,kF gV "_law_row" "law_archrow_k24_sets_refused" 576 324),
 (331,kC "_law_copied" 619 178 1 326 181 327 .none (.ref 328) (.ref 329) 330 623 624),
 (332,kF dD "_law_copied" "law_archrow_k24_sets_refused" 576 331),
 (338,kC "_law_do_cross" 626 180 2 333 181 334 .none (.ref 335) (.ref 336) 337 631 632),
 (339,kF cL "_law_do_cross" "law_archrow_k24_sets_refused" 576 338),
 (345,kC "_law_fits" 634 182 2 340 181 341 .none (.ref 342) (.ref 343) 344 640 641),
 (346,kF fJ "_law_fits" "law_archrow_k24_sets_refused" 576 345),
 (350,kC "_law_sets" 643 187 1 347 181 348 .none .none .none 349 646 647),
 (351,kF iu "_law_sets" "law_archrow_k24_sets_refused" 576 350),
 (357,kC "_law_kind" 649 196 1 352 181 353 .none (.ref 354) (.ref 355) 356 655 656),
 (358,kF fI "_law_kind" "law_archrow_k24_sets_refused" 576 357),
 (364,kC "_law_refusal" 658 203 3 359 181 360 .none (.ref 361) (.ref 362) 363 666 667),
 (365,kF c6 "_law_refusal" "law_archrow_k24_sets_refused" 576 364),
 (371,kC "_law_is_set" 669 219 2 366 181 367 .none (.ref 368) (.ref 369) 370 676 677),
 (372,kF dC "_law_is_set" "law_archrow_k24_sets_refused" 576 371),
 (378,kC "_law_spoilt" 679 224 3 373 181 374 .none (.ref 375) (.ref 376) 377 694 695),
 (379,kF dB "_law_spoilt" "law_archrow_k24_sets_refused" 576 378),
 (383,kC "_law_right" 697 238 3 380 181 381 .none .none .none 382 700 701),
 (384,kF eQ "_law_right" "law_archrow_k24_sets_refused" 576 383),
 (390,kC "law" 703 248 1 385 181 386 .none (.ref 387) (.ref 388) 389 714 715),
 (391,kF lI "law" "law_archrow_k24_sets_refused" 576 390),
 (24,{cls:=.type "type",data:=.cls {name:="ArchError",bases:=[(.type "ValueError")],mro:=[(.ref 24),(.type "ValueError"),(.type "Exception"),(.type "BaseException"),(.type "object")],ns:=23,qualname:="ArchError",subclasses:=[(.ref 37),(.ref 49),(.ref 61),(.ref 73),(.ref 85),(.ref 97),(.ref 109),(.ref 121),(.ref 133),(.ref 145),(.ref 157),(.ref 169)]},slots:=#[some ((.ref 15)),none,some ((vS "ArchError" 189)),some ((vS "ArchError" 197)),some ((.builtin "ValueError.__new__")),some (.bool true)]}),
 (23,{cls:=.type "dict",data:=.dict #[kE P "__module__" 196 (vS "archrow.errors" 187),kE P "__firstlineno__" 200 (.int 2 199),kE P "__static_attributes__" 201 (.ref 22),kE P "__weakref__" 203 (.ref 25),kE P "__doc__" 204 .none] 3}),
 (37,kX "NoRow" 37 24 207),
 (36,kN P 37 207 187 4),
 (49,kX "NoTie" 49 24 223),
 (48,kN P 49 223 187 6),
 (61,kX "NoStretch" 61 24 239),
 (60,kN P 61 239 187 8),
 (73,kX "NoWeights" 73 24 255),
 (72,kN P 73 255 187 10),
 (85,kX "NoNumber" 85 24 271),
 (84,kN P 85 271 187 12),
 (97,kX "NoSet" 97 24 287),
 (96,kN P 97 287 187 14),
 (109,kX "NoGap" 109 24 303),
 (108,kN P 109 303 187 16),
 (121,kX "NoPlace" 121 24 319),
 (120,kN P 121 319 187 18),
 (133,kX "NoShape" 133 24 335),
 (132,kN P 133 335 187 20),
 (145,kX "NoText" 145 24 351),
 (144,kN P 145 351 187 22),
 (157,kX "NoForm" 157 24 367),
 (156,kN P 157 367 187 24),
 (169,kX "NoneYet" 169 24 383),
 (168,kN P 169 383 187 26)]
abbrev HK:PySem.W.Hook:=PySem.W.kHook KK [3,177,178,184,185,191,192,198,199,205,206,212,213,217,218,222,223,229,230,236,237,241,242,248,249,253,254,260,261,265,266,272,273,277,278,284,285,291,292,296,297,303,304,310,311,317,318,324,325,331,332,338,339,345,346,350,351,357,358,364,365,371,372,378,379,383,384,390,391,24,23,37,36,49,48,61,60,73,72,85,84,97,96,109,108,121,120,133,132,145,144,157,156,169,168] (λ_=>by kernel_rfl)
def view:U_:={PySem.Challenge.pw_archrow_k24_sets_refused with main:={PySem.Challenge.pw_archrow_k24_sets_refused.main with body:=[top 1,top 2,top 3,top 4,top 5,top 6,top 7,top 8,top 9,top 10,top 11,top 12,top 13,top 15,top 16,top 17,top 18,top 19,top 20,top 22,top 23,top 24,top 25,top 26,top 28,top 29,top 30,top 31,top 32,top 33,top 34,top 35,top 36,top 38,top 39,top 40,top 41,top 42,top 43,top 44,top 45,top 46,top 47,top 48,top 49,top 50,top 51]}}
theorem left:PySem.W.LeftO PySem.Challenge.pw_archrow_k24_sets_refused view [] (λs=>PySem.W.xlAt view [] s&&PySem.W.recOk (PySem.W.RowW.records PySem.Challenge.rw_archrow_k24_sets_refused.row.toRowW) s) HK.obs HK.val 7780:=L2.Hd.xJ (by kernel_rfl) (by kernel_rfl) (λ_=>rfl) (λw os=>by kernel_rfl)
end ip
namespace L2
open PySem PySem.Spec PyProof.Rows
abbrev Key:=Sum Int Str
def oi:Key->U5->Bool
 |.inl k,v=>Value.isInt k v
 |.inr x,v=>Value.isStrOf x v
def Ox (w:Vl):Key->Int
 |.inl k=>hashInt k
 |.inr x=>hashStr w x
theorem br:∀{k:Key} {v:U5},oi k v=true->(∃i t,k=YJ i/\v=Value.int i t)\/(∃x t,k=Y3 x/\v=Value.str x t)
 |.inl i,v,h=>by
  obtain⟨t,e⟩:=Value.isInt_shape (k:=i) (v:=v) h;exact .inl ⟨i,t,rfl,e⟩
 |.inr x,v,h=>by
  obtain⟨t,e⟩:=Value.isStrOf_shape (x:=x) (v:=v) h;exact .inr ⟨x,t,rfl,e⟩
theorem xN (i:Int)(t:Tok):oi (.inl i) (.int i t)=true:=by simp[oi,Value.isInt]
theorem xM (x:Str)(t:Tok):oi (.inr x) (.str x t)=true:=by simp[oi,Value.isStrOf]
theorem GY (a b:Int):decide ((YJ a:Key)=YJ b)=(a==b):=by
 by_cases e:a=b
 ·subst e;simp
 ·have h:¬ (YJ a:Key)=YJ b:=λq=>e (Sum.inl.inj q);rw[decide_eq_false h];exact(beq_eq_false_iff_ne.mpr e).symm
theorem GU (a b:Str):decide ((Y3 a:Key)=Y3 b)=decide (a=b):=by
 by_cases e:a=b
 ·subst e;simp
 ·have h:¬ (Y3 a:Key)=Y3 b:=λq=>e (Sum.inr.inj q);rw[decide_eq_false h,decide_eq_false e]
theorem GW (a:Int)(b:Str):decide ((YJ a:Key)=Y3 b)=false:=decide_eq_false (λq=>nomatch q)
theorem GV (a:Str)(b:Int):decide ((Y3 a:Key)=YJ b)=false:=decide_eq_false (λq=>nomatch q)
def bR (prog:U_)(w:Vl):PySem.KeyKind prog w Key where
 is:=oi
 hash:=Ox w
 inj:=λv a b ha hb=>by
  rcases br ha with⟨i,t,rfl,rfl⟩|⟨x,t,rfl,rfl⟩
  ·rcases br hb with⟨j,u,rfl,e⟩|⟨y,u,rfl,e⟩
   ·injection e with e1 _;rw[e1]
   ·exact nomatch e
  ·rcases br hb with⟨j,u,rfl,e⟩|⟨y,u,rfl,e⟩
   ·exact nomatch e
   ·injection e with e1 _;rw[e1]
 byValue:=λk v h=>by
  rcases br h with⟨i,t,rfl,rfl⟩|⟨x,t,rfl,rfl⟩ <;> rfl
 pyHash:=λhv h=>by
  rcases br hv with⟨i,t,rfl,rfl⟩|⟨x,t,rfl,rfl⟩
  ·exact wpAny_pyHash_int h
  ·exact wpAny_pyHash_str h
 eqBool:=λhu hv h=>by
  rcases br hu with⟨i,t,rfl,rfl⟩|⟨x,t,rfl,rfl⟩
  ·rcases br hv with⟨j,u,rfl,rfl⟩|⟨y,u,rfl,rfl⟩
   ·rw[GY]at h;exact wpAny_eqBool_int h
   ·rw[GW]at h;exact SeqAt.EqAt.int_str i t y u _ _ _ _ h
  ·rcases br hv with⟨j,u,rfl,rfl⟩|⟨y,u,rfl,rfl⟩
   ·rw[GV]at h;exact SeqAt.EqAt.str_int x t j u _ _ _ _ h
   ·rw[GU]at h;exact wpAny_eqBool_str h
 «strs»:=λk x t v h=>by
  rcases br h with⟨i,u,rfl,e⟩|⟨y,u,rfl,e⟩
  ·exact nomatch e
  ·injection e with e1 _
   subst e1;cases v <;> rfl
theorem rR (prog:U_)(w:Vl)(i:Int)(t:Tok):(bR prog w).is (.inl i) (.int i t)=true:=xN i t
theorem rQ (prog:U_)(w:Vl)(x:Str)(t:Tok):(bR prog w).is (.inr x) (.str x t)=true:=xM x t
inductive V where
 |cO|bl (b:Bool)|int (i:Int)|str (x:Str)|Mf (b:Array UInt8)|PN (b:UInt64)|ref (a:Addr)|ty (n:String)
 deriving DecidableEq
def RelV:V->U5->Prop
 |.cO,u=>u=Value.none
 |.bl b,u=>u=Value.bool b
 |.int i,u=>∃t,u=Value.int i t
 |.str x,u=>∃t,u=Value.str x t
 |.Mf b,u=>∃t,u=Value.bytes b t
 |.PN b,u=>∃t,u=Value.float b t
 |.ref a,u=>u=Value.ref a
 |.ty n,u=>u=Value.type n
abbrev Vals:List V->List U5->Prop:=Paired RelV
theorem Vals.length {xs:List V}{us:List U5}(r:Vals xs us):xs.length=us.length:=Paired.length r
theorem Vals.get:∀{xs:List V} {us:List U5} {i:Nat} {x:V},Vals xs us->xs[i]?=some x->∃u,us[i]?=some u/\RelV x u
 |_,_,_,_,.nil,e=>by simp at e
 |_,_,0,_,.cons r _,e=>by simp at e;subst e;exact⟨_,rfl,r⟩
 |_,_,i+1,x,.cons _ t,e=>by
  obtain⟨u,h1,h2⟩:=Vals.get (i:=i) (x:=x) t (by simpa using e)
  exact⟨u,by simpa using h1,h2⟩
theorem Vals.set {x:V}{u:U5}(r:RelV x u):∀{xs:List V} {us:List U5} (i:Nat),Vals xs us->Vals (xs.set i x) (us.set i u)
 |_,_,_,.nil=>.nil
 |_,_,0,.cons _ t=>.cons r t
 |_,_,i+1,.cons q t=>.cons q (Vals.set r i t)
theorem Vals.append:∀{xs ys:List V} {us ws:List U5},Vals xs us->Vals ys ws->Vals (xs++ys) (us++ws)
 |_,_,_,_,.nil,s=>s
 |_,_,_,_,.cons r t,s=>.cons r (Vals.append t s)
theorem Vals.take:∀{xs:List V} {us:List U5} (n:Nat),Vals xs us->Vals (xs.take n) (us.take n)
 |_,_,0,_=>.nil
 |_,_,_+1,.nil=>.nil
 |_,_,n+1,.cons r t=>.cons r (Vals.take n t)
theorem Vals.drop:∀{xs:List V} {us:List U5} (n:Nat),Vals xs us->Vals (xs.drop n) (us.drop n)
 |_,_,0,r=>r
 |_,_,_+1,.nil=>.nil
 |_,_,n+1,.cons _ t=>Vals.drop n t
theorem Vals.none_of:∀{xs:List V} {us:List U5} {i:Nat},Vals xs us->xs[i]?=none->us[i]?=none:=λ{xs us i} r e=>by
 have h1:=r.length;have h2:xs.length<=i:=Zz.mp e;exact Zz.mpr (by lia)
def BQ:Option V->Option U5->Prop
 |some v,some u=>RelV v u
 |none,none=>True
 |_,_=>False
def KV {κ:Type}:List (κ×V)->List (κ×U5)->Prop:=Paired λ(p:κ×V) (q:κ×U5)=>p.1=q.1/\RelV p.2 q.2
def kV:Key->V
 |.inl i=>.int i
 |.inr x=>.str x
inductive HO where
 /-- a list -/
 |lst (xs:List V)
 /-- a tuple (never changes) -/
 |tup (xs:List V)
 /-- a dict whose keys are ints and texts;one whose keys are tuples of ints and texts (the empty one is both) -/
 |dK (bb:List (Key×V))|dT (bb:List (List Key×V))
 /-- a set of ints: its members,its size -/
 |set (S:Int->Bool) (n:Nat)
 /-- an instance of the class at C,its dict at dx,its attributes -/
 |ins (C dx:Addr) (fs:List (Str×V))
 /-- the dict of the instance at x -/
 |own (x:Addr)
 /-- the dict of an exception -/
 |xd (fs:List (Str×V))
 /-- a bound method,f of x -/
 |met (f x:Addr)
 /-- a range object lo,lo+1,.. below hi -/
 |ML (lo hi:Int)
 /-- a IT that is known to the object (the NZ;a dict while a loop walks it): read,never written while it is so -/
 |A4 (o:Obj) (u:HO)
 /-- a code JG table -/
 |Ef (ps:Array U5)
 /-- any other IT,by what is true of its one object (a def of JF own: Mo a S n:=HO.ext λh=>..) -/
 |ext (φ:Heap->Prop)
abbrev Hp:=Addr->Option HO
def upd (H:Hp)(a:Addr)(o:HO):Hp:=λb=>if b=a then some o else H b
theorem az {H:Hp}{a:Addr}{o:HO}:upd H a o a=some o:=by unfold upd;rw[if_pos rfl]
theorem ar {H:Hp}{a b:Addr}{o:HO}(h:b≠a):upd H a o b=H b:=by unfold upd;rw[if_neg h]
theorem Ew {H:Hp}{a b:Addr}{o u:HO}(h:H a=some o)(h':H b=some u)(d:o≠u):a≠b:=by
 intro e;subst e;rw[h]at h';exact d (VX h')
theorem cz {H:Hp}{a b:Addr}{o:HO}(h:H a=some o)(h':H b=none):a≠b:=by
 intro e;subst e;rw[h]at h';cases h'
section
variable (P:U_)(w:Vl)
def b5 (H:Hp)(h:Heap)(a:Addr):HO->Prop
 |.lst xs=>xs.length<=Vh/\∃(its:List U5) (n:Nat),Vals xs its/\h.get? a=some {cls:=.type "list",data:=.seq its.toArray n}
 |.tup xs=>xs.length<=Vh/\∃its:List U5,Vals xs its/\Y5 h a its.toArray
 |.dK bb=>bb.length<=Vh/\(a==WK)=false/\∃vs,KV bb vs/\h.DictOf (bR P w) a vs
 |.dT bb=>bb.length<=Vh/\(a==WK)=false/\∃xs:List (List Key×Addr×U5),
   Paired (λ(p:List Key×V) (q:List Key×Addr×U5)=>p.1=q.1/\H q.2.1=some (.tup (p.1.map kV))/\RelV p.2 q.2.2) bb xs /\
   ∃o es ep,h.get? a=some o/\o.ExactDict/\o.data=.dict es ep/\es.toList=xs.map (entryOfKey (YH (bR P w)))/\(xs.map (·.1)).Nodup
 |.set S n=>h.SetOf (intKind P w) a S n
 |.ins C dx fs=>H dx=some (.own a)/\fs.length<=1000/\dx≠a/\h.get? a=some (PySem.W.instObj C dx) /\
   ∃mA,h.Ns1 dx mA/\(∀f,BQ (fs.lookup f) (mA f))/\PySem.Within mA (fs.map (·.1))
 |.own _=>∃o,h.get? a=some o
 |.xd fs=>∃mA,h.Ns1 a mA/\∀f,BQ (fs.lookup f) (mA f)
 |.ML lo hi=>∃t u v,h.get? a=some {cls:=.type "range",data:=.fields #[.int lo t,.int hi u,.int 1 v]}
 |.A4 o u=>h.get? a=some o/\b5 H h a u
 |.Ef ps=>h.get? a=some {cls:=.none,data:=.fields ps}
 |.met f x=>h.get? a=some (PySem.W.methodObj (.ref f) (.ref x))
 |.ext φ=>φ h/\(∃o,h.get? a=some o)/\∀h1 h2:Heap,φ h1->(∀o,h1.get? a=some o->h2.get? a=some o)->φ h2
def gi (H:Hp)(h:Heap):Prop:=∀a o,H a=some o->b5 P w H h a o
end
section
variable {P:U_}{w:Vl}{H H':Hp}{h h':Heap}{a:Addr}{o:HO}
theorem b5.lt (x:b5 P w H h a o):a<h.objs.size:=by
 cases o with
 |lst xs=>obtain⟨_,_,_,_,e⟩:=x;exact Vp e
 |tup xs=>obtain⟨_,_,_,p⟩:=x;exact p.lt
 |dK bb=>obtain⟨_,_,_,_,o,_,_,e,_⟩:=x;exact Vp e
 |dT bb=>obtain⟨_,_,_,_,o,_,_,e,_⟩:=x;exact Vp e
 |set S n=>obtain⟨o,_,_,_,e,_⟩:=x;exact Vp e
 |ins C dx fs=>obtain⟨_,_,_,e,_⟩:=x;exact Vp e
 |own y=>obtain⟨_,e⟩:=x;exact Vp e
 |xd fs=>obtain⟨_,⟨_,_,_,e,_⟩,_⟩:=x;exact Vp e
 |ML lo hi=>obtain⟨_,_,_,e⟩:=x;exact Vp e
 |A4 ob u=>obtain⟨e,_⟩:=x;exact Vp e
 |Ef ps=>exact Vp (show h.get? a=some _ from x)
 |met f y=>exact Vp (show h.get? a=some _ from x)
 |ext φ=>obtain⟨_,⟨_,e⟩,_⟩:=x;exact Vp e
theorem Paired.GC {α β:Type}{F G:α->β->Prop}:∀{l₁:List α} {l₂:List β},Paired F l₁ l₂->(∀a b,F a b->G a b)->Paired G l₁ l₂
 |_,_,.nil,_=>.nil
 |_,_,.cons r t,f=>.cons (f _ _ r) (Paired.GC t f)
theorem b5.lC (x:b5 P w H h a o)(k:∀b u,(b=a\/H b=some (.own a))->h.get? b=some u->h'.get? b=some u)
  (ho:∀b,H b=some (.own a)->H' b=some (.own a)) (ht:∀b xs,H b=some (.tup xs)->H' b=some (.tup xs)):b5 P w H' h' a o:=by
 induction o with
 |lst xs=>obtain⟨z,its,n,r,e⟩:=x;exact⟨z,its,n,r,k _ _ (.inl rfl) e⟩
 |tup xs=>obtain⟨z,its,r,ob,e,c⟩:=x;exact⟨z,its,r,ob,k _ _ (.inl rfl) e,c⟩
 |dK bb=>obtain⟨z,y,vs,r,ob,es,ep,e,c⟩:=x;exact⟨z,y,vs,r,ob,es,ep,k _ _ (.inl rfl) e,c⟩
 |dT bb =>
  obtain⟨z,y,xs,r,ob,es,ep,e,c⟩:=x;exact⟨z,y,xs,Paired.GC r λp q z=>⟨z.1,ht _ _ z.2.1,z.2.2⟩,ob,es,ep,k _ _ (.inl rfl) e,c⟩
 |set S n=>obtain⟨ob,es,ep,t,e,c⟩:=x;exact⟨ob,es,ep,t,k _ _ (.inl rfl) e,c⟩
 |ins C dx fs =>
  obtain⟨d,z,ne,e,mA,⟨od,es,ep,e2,c⟩,r⟩:=x;exact⟨ho _ d,z,ne,k _ _ (.inl rfl) e,mA,⟨od,es,ep,k _ _ (.inr d) e2,c⟩,r⟩
 |own y=>obtain⟨ob,e⟩:=x;exact⟨ob,k _ _ (.inl rfl) e⟩
 |xd fs=>obtain⟨mA,⟨od,es,ep,e,c⟩,r⟩:=x;exact⟨mA,⟨od,es,ep,k _ _ (.inl rfl) e,c⟩,r⟩
 |ML lo hi=>obtain⟨t,u,v,e⟩:=x;exact⟨t,u,v,k _ _ (.inl rfl) e⟩
 |A4 ob u ih=>obtain⟨e,q⟩:=x;exact⟨k _ _ (.inl rfl) e,ih q⟩
 |Ef ps =>
  have e:h.get? a=some {cls:=.none,data:=.fields ps}:=x;show h'.get? a=some {cls:=.none,data:=.fields ps};exact k a _ (.inl rfl) e
 |met f y =>
  have e:h.get? a=some (PySem.W.methodObj (.ref f) (.ref y)):=x;show h'.get? a=some (PySem.W.methodObj (.ref f) (.ref y));exact k a _ (.inl rfl) e
 |ext φ=>obtain⟨p,⟨o,e⟩,st⟩:=x;exact⟨st _ _ p λo q=>k _ _ (.inl rfl) q,⟨o,k _ _ (.inl rfl) e⟩,st⟩
theorem gi.lt (x:gi P w H h)(e:H a=some o):a<h.objs.size:=(x a o e).lt
theorem gi.fresh (x:gi P w H h)(e:h.objs.size<=a):H a=none:=by
 cases q:H a with
 |none=>rfl
 |some u=>exact absurd (VG (x.lt q) e) (W_ _)
theorem gi.kept (x:gi P w H h)(k:∀b u,h.get? b=some u->h'.get? b=some u):gi P w H h':=λa o e =>
 (x a o e).lC (λb u _ q=>k b u q) (λ_ q=>q) λ_ _ q=>q
theorem gi.laid (x:gi P w H h)(k:∀b u,h.get? b=some u->h'.get? b=some u)(hp:h.objs.size<=a)(new:b5 P w (upd H a o) h' a o):gi P w (upd H a o) h':=λb u e=>by
 have hn:=x.fresh hp
 by_cases hb:b=a
 ·subst hb;rw[az]at e;cases e;exact new
 ·rw[ar hb]at e;exact(x b u e).lC (λc v _ q=>k c v q) (λc q=>by rw[ar (cz q hn)];exact q) λc xs q=>by rw[ar (cz q hn)];exact q
end
def Rd (H:Hp)(a:Addr)(u:HO):Prop:=H a=some u\/∃o,H a=some (.A4 o u)
theorem Rd.ok {P:U_}{w:Vl}{H:Hp}{h:Heap}{a:Addr}{u:HO}(r:Rd H a u)(x:gi P w H h):b5 P w H h a u:=by
 rcases r with r|⟨o,r⟩
 ·exact x a u r
 ·obtain⟨_,q⟩:=x a _ r;exact q
def Mw:Option HO->Prop
 |some (.lst _)=>True
 |some (.dK _)=>True
 |some (.dT _)=>True
 |some (.set _ _)=>True
 |some (.ins _ _ _)=>True
 |some (.ext _)=>True
 |_=>False
section
variable {P:U_}{w:Vl}{H:Hp}{h h':Heap}{x e:Addr}{o':HO}
theorem gi.write (ok:gi P w H h)(mu:Mw (H x))(he:e=x\/H e=some (.own x))(k:∀b u,b≠e->h.get? b=some u->h'.get? b=some u)(Iz:∃u,h'.get? e=some u)
  (new:b5 P w (upd H x o') h' x o'):gi P w (upd H x o') h':=λb u q=>by
 have JI:∀c y,H c=some (.own y)->c≠x:=λc y r z=>by subst z;rw[r]at mu;exact mu
 have Oh:∀c xs,H c=some (.tup xs)->c≠x:=λc xs r z=>by subst z;rw[r]at mu;exact mu
 by_cases hb:b=x
 ·subst hb;rw[az]at q;cases q;exact new
 ·rw[ar hb]at q
  by_cases HD:b=e
  ·have q':H b=some (.own x):=by
    rcases he with z|z
    ·exact absurd (HD.trans z) hb
    ·rw[HD];exact z
   rw[q]at q';cases q';obtain⟨v,hv⟩:=Iz;exact⟨v,by rw[HD];exact hv⟩
  ·refine(ok b u q).lC (λc v hc r=>k c v ?_ r) (λc r=>by rw[ar (JI c b r)];exact r) λc xs r=>by rw[ar (Oh c xs r)];exact r
   rcases hc with rfl|hc
   ·exact HD
   ·rintro rfl;rcases he with z|z
    ·exact JI c b hc z
    ·rw[hc]at z;cases z;exact hb rfl
end
structure Un (fs ex:List Addr)(H H':Hp)(h h':Heap):Prop where
 keep:∀b o,h.get? b=some o->H b=none->b∉fs->b∉ex->h'.get? b=some o
 slot:∀b o,h.get? b=some o->H b=none->b∈fs->b∉ex->∃sl,h'.get? b=some {o with slots:=sl}
 free:∀b o,h.get? b=some o->H b=none->b∉ex->H' b=none
 there:∀b o,h.get? b=some o->b∉ex->∃o',h'.get? b=some o'
 iq:∀b xs,H b=some (.tup xs)->H' b=some (.tup xs)
 hG:∀b o u,H b=some (.A4 o u)->H' b=some (.A4 o u)
 ir:∀b ps,H b=some (.Ef ps)->∃more,H' b=some (.Ef (ps++more))
section
variable {fs ex:List Addr}{H H1:Hp}{h h1 h':Heap}{a x e:Addr}{o:HO}
theorem Un.any (u:Un fs ex H H1 h h1){b:Addr}{ob:Obj}(q:h.get? b=some ob)(n:H b=none)(hx:b∉ex):∃sl,h1.get? b=some {ob with slots:=sl}:=by
 by_cases hb:b∈fs
 ·exact u.slot b ob q n hb hx
 ·exact⟨ob.slots,u.keep b ob q n hb hx⟩
theorem Un.kept (k:∀b u,h.get? b=some u->h'.get? b=some u):Un fs ex H H h h' :=
 ⟨λb ob q _ _ _=>k b ob q,λb ob q _ _ _=>⟨ob.slots,k b ob q⟩,λ_ _ _ n _=>n,λb ob q _=>⟨ob,k b ob q⟩,λ_ _ q=>q,λ_ _ _ q=>q,λ_ ps q=>⟨#[],by rw[q];simp⟩⟩
theorem Un.refl:Un fs ex H H h h:=Un.kept λ_ _ q=>q
theorem Un.laid (k:∀b u,h.get? b=some u->h'.get? b=some u)(hp:h.objs.size<=a)(hn:H a=none):Un fs ex H (upd H a o) h h' where
 keep:=λb u q _ _ _=>k b u q
 slot:=λb u q _ _ _=>⟨u.slots,k b u q⟩
 free:=λb u q n _=>by rw[ar (VJ (VG (Vp q) hp))];exact n
 there:=λb u q _=>⟨u,k b u q⟩
 iq:=λb xs q=>by rw[ar (cz q hn)];exact q
 hG:=λb u xs q=>by rw[ar (cz q hn)];exact q
 ir:=λb ps q=>⟨#[],by rw[ar (cz q hn),q];simp⟩
theorem Un.write (mu:Mw (H x))(he:e=x\/H e=some (.own x))(k:∀b u,b≠e->h.get? b=some u->h'.get? b=some u)(Iz:∃u,h'.get? e=some u):Un fs ex H (upd H x o) h h':=by
 have hx:∀b,H b=none->b≠x:=λb n z=>by subst z;rw[n]at mu;exact mu
 have hb:∀b,H b=none->b≠e:=λb n z=>by
  subst z;rcases he with r|r
  ·exact hx b n r
  ·rw[n]at r;cases r
 have hm:∀b u,H b=some u->¬ Mw (some u)->b≠x:=λb u q nm z=>by subst z;rw[q]at mu;exact nm mu
 refine⟨λb u q n _ _=>k b u (hb b n) q,λb u q n _ _=>⟨u.slots,k b u (hb b n) q⟩,λb u q n _=>by rw[ar (hx b n)];exact n,λb u q _=>?_,
  λb xs q=>by rw[ar (hm b _ q λz=>z)];exact q,λb u xs q=>by rw[ar (hm b _ q λz=>z)];exact q,λb ps q=>⟨#[],by rw[ar (hm b _ q λz=>z),q];simp⟩⟩
 by_cases HD:b=e
 ·subst HD;exact Iz
 ·exact⟨u,k b u HD q⟩
end
def Ik (h:Heap)(H:Hp):List Addr:=(VD h.objs.size).filter λa=>(H a).isSome
def p0 (h:Heap)(H:Hp):Heap:=PySem.W.hideAll h (Ik h H)
theorem xW (h:Heap)(H:Hp):(p0 h H).objs.size=h.objs.size:=PySem.W.hideAll_size _ _
theorem AV {h:Heap}{H:Hp}{b:Addr}{o:Obj}(e:h.get? b=some o)(n:H b=none):(p0 h H).get? b=some o :=
 PySem.W.hideAll_get _ e λhm=>by
  have q:(H b).isSome=true:=(WA.mp hm).2;rw[n]at q;simp at q
theorem C_ {h:Heap}{H:Hp}{b:Addr}{o:Obj}(e:(p0 h H).get? b=some o):h.get? b=some o/\H b=none:=by
 have e':h.get? b=some o:=PySem.W.of_hideAll (Ik h H) e;refine⟨e',?_⟩;cases q:H b with
 |none=>rfl
 |some x =>
  have hm:b∈Ik h H:=WA.mpr ⟨V4.mpr (Vp e'),by simp[q]⟩
  have z:(p0 h H).get? b=none:=PySem.W.hideAll_none (Ik h H) hm;rw[z]at e;cases e
structure Mod (K:PySem.W.Frag)(mg:Str->Option U5)(base:Heap):Prop where
 MS:K.In base
 glob:base.Ns WE mg
 blt:∃mb,base.Ns builtinsNs mb/\∀x:Str,x≠"__name__" -> mb x=V3 x
 nolimit:base.NoLimit
structure Cx where
 prog:U_
 w:Vl
 K:PySem.W.Frag
 mg:Str->Option U5
 base:Heap
 A:VZ
 N:List Str
 s₀:U7
 H₀:Hp
 env:Env
 outer:List Env
 stack:List Env
 ex:List Addr
 fn:Str->Bool
 calm:Bool
 pn:List (Addr×Obj)
 xe:U5->U7->Prop
def gm (l:List Env):List Addr:=l.filterMap (·.frame)
abbrev Cx.fs (X:Cx):List Addr:=gm X.outer
def wQ (sc:Xz)(x:Str):Prop:=sc.names.lookup x=some .local\/sc.names.lookup x=some .cell\/sc.names.lookup x=some .free
def Loc (sc:Xz)(x:Str):Prop:=sc.names.lookup x=some .local\/sc.names.lookup x=some .cell
def Look (env:Env)(h:Heap)(m:Str->Option U5)(x:Str)(u:U5):Prop :=
 (env.kindOf x=some .local/\m x=some u)\/((env.kindOf x=some .cell\/env.kindOf x=some .free)/\∃c,env.cells.lookup x=some c/\h.IsCell c (some u))
structure Cx.Ok (X:Cx):Prop where
 mod:Mod X.K X.mg X.base
 kind:X.env.scope.kind=.function
 glob:X.env.globals=WE
 blt:X.env.builtins=builtinsNs
 above:X.s₀.heap.objs.size<=X.env.locals
 inj:∀x y c,X.env.cells.lookup x=some c->X.env.cells.lookup y=some c->x=y
 has:∀x,(X.env.kindOf x=some .cell\/X.env.kindOf x=some .free)->∃c,X.env.cells.lookup x=some c
 E2:∀x c,X.fn x=true->X.env.cells.lookup x=some c->X.s₀.heap.objs.size<=c
 hd:X.calm=true->X.A.handled=none
 frames:X.A.frames=some X.stack
 Fq:X.stack=X.outer\/(X.stack=X.env::X.outer/\X.env.frame=some X.env.locals)
 HJ:∀b∈X.ex,b≠X.env.locals/\∀x c,X.env.cells.lookup x=some c->c≠b
 bs:∀b o,X.base.get? b=some o->X.s₀.heap.get? b=some o/\X.H₀ b=none
 BF:X.base.objs.size<=X.s₀.heap.objs.size
 rN:∀b o,X.base.get? b=some o->b∉X.ex
 sY:∀b∈X.ex,b∉X.fs
 jk:X.s₀.heap.FunFrames X.base X.outer
 DI:∀b∈X.fs,X.H₀ b=none
structure Inv (X:Cx)(pins:List (Addr×Obj))(σ:List (Option V))(H:Hp)(s:U7):Prop where
 ok:X.Ok
 os:s.os=X.s₀.os
 bare:Ye s.gens
 base:Un X.fs X.ex X.H₀ H X.s₀.heap s.heap
 loc:∃m,s.heap.Ns X.env.locals m/\∀(i:Nat) (x:Str) (v:V),X.N[i]?=some x->σ[i]?=some (some v)->wQ X.env.scope x->∃u,RelV v u/\Look X.env s.heap m x u
 cell:∀x c,X.env.cells.lookup x=some c->∃v,s.heap.IsCell c v
 free:H X.env.locals=none
 dy:∀x c,X.env.cells.lookup x=some c->H c=none
 pin:∀p∈X.pn++pins,s.heap.get? p.1=some p.2/\H p.1=none/\p.1≠X.env.locals/\p.1∉X.fs/\∀v,p.2.data≠.cell v
 bt:gi X.prog X.w H s.heap
 len:σ.length=X.N.length
section
variable {X:Cx}{pins:List (Addr×Obj)}{σ:List (Option V)}{H H':Hp}{s:U7}{h':Heap}
theorem Cx.Ok.Gx (ok:X.Ok){b:Addr}{o:Obj}(e:X.base.get? b=some o):b∉X.fs:=λhb=>by
 have:=(ok.jk.mem hb).1;rw[e]at this;cases this
theorem Inv.bs (I:Inv X pins σ H s):∀b o,X.base.get? b=some o->s.heap.get? b=some o/\H b=none:=λb o e =>
 ⟨I.base.keep b o (I.ok.bs b o e).1 (I.ok.bs b o e).2 (I.ok.Gx e) (I.ok.rN b o e),I.base.free b o (I.ok.bs b o e).1 (I.ok.bs b o e).2 (I.ok.rN b o e)⟩
theorem Inv.bk (I:Inv X pins σ H s):∀b o,X.base.get? b=some o->s.heap.get? b=some o:=λb o e=>(I.bs b o e).1
theorem Inv.mod (I:Inv X pins σ H s):Mod X.K X.mg X.base:=I.ok.mod
theorem Inv.yA (I:Inv X pins σ H s):X.K.In s.heap:=I.ok.mod.MS.keeps I.bk
theorem Inv.lt (I:Inv X pins σ H s):X.env.locals<s.heap.objs.size:=let ⟨_,hn,_⟩:=I.loc;hn.lt
theorem Inv.sz (I:Inv X pins σ H s):X.s₀.heap.objs.size<=s.heap.objs.size:=Vy I.ok.above (Nat.le_of_lt I.lt)
theorem Inv.Oj (I:Inv X pins σ H s){a:Addr}(h:s.heap.objs.size<=a):a∉X.fs:=λhb=>by
 obtain⟨_,o,ho,_⟩:=I.ok.jk.mem hb;exact absurd (VG (Vp ho) (Vy I.sz h)) (W_ _)
theorem Inv.Bu (I:Inv X pins σ H s):∀x c,X.env.cells.lookup x=some c->c≠X.env.locals:=λx c e z=>by
 obtain⟨v,o,ho,hd⟩:=I.cell x c e;obtain⟨m,⟨o',es,ep,Dy,Tp,_⟩,_⟩:=I.loc;rw[z,Dy]at ho;cases ho;rw[Tp]at hd;cases hd
theorem Inv.jk (I:Inv X pins σ H s):s.heap.FunFrames X.base X.outer:=by
 have all:∀(l:List Env),(∀b∈gm l,b∈X.fs)->X.s₀.heap.FunFrames X.base l->s.heap.FunFrames X.base l:=by
  intro l
  induction l with
  |nil=>intro _ _;trivial
  |cons env r ih =>
   intro hs hl;obtain⟨hk,⟨L,o,hf,hn,ho,hd⟩,hr⟩:=hl;have hL:L∈X.fs:=hs L (by unfold gm;rw[Wl,hf];exact Vw)
   obtain⟨sl,e⟩:=I.base.slot L o ho (I.ok.DI L hL) hL λz=>I.ok.sY L z hL;exact⟨hk,⟨L,_,hf,hn,e,hd⟩,ih (λb hb=>hs b (by unfold gm;rw[Wl,hf];exact Vm _ hb)) hr⟩
 exact all X.outer (λ_ hb=>hb) I.ok.jk
theorem Inv.stack (I:Inv X pins σ H s):s.heap.FunFrames X.base X.stack:=by
 rcases I.ok.Fq with e|⟨e,hf⟩
 ·rw[e];exact I.jk
 ·rw[e];obtain⟨m,hn,_⟩:=I.loc;refine .cons (by rw[I.ok.kind];decide) hf hn ?_ I.jk
  exact Heap.get?_none_of_le (Vy I.ok.BF I.ok.above)
theorem Inv.t5 (I:Inv X pins σ H s):∀b∈gm X.stack,b∈X.env.locals::X.fs:=λb hb=>by
 rcases I.ok.Fq with e|⟨e,hf⟩
 ·rw[e]at hb;exact Vm _ hb
 ·rw[e]at hb;unfold gm at hb;rw[Wl,hf]at hb;exact hb
theorem Inv.pq (I:Inv X pins σ H s):∀b∈gm X.stack,H b=none:=λb hb=>by
 rcases Va.mp (I.t5 b hb)with e|hb
 ·rw[e];exact I.free
 ·obtain⟨_,o,ho,_⟩:=I.ok.jk.mem hb;exact I.base.free b o ho (I.ok.DI b hb) λz=>I.ok.sY b z hb
theorem Inv.step {g':Array GenState}{t':Nat}{d':Drawn}{ch:List Addr}(I:Inv X pins σ H s)
  (wq:∀b∈ch,(b∈X.ex\/X.s₀.heap.objs.size<=b)/\b≠X.env.locals/\(∀x c,X.env.cells.lookup x=some c->c≠b)/\∀p∈X.pn++pins,p.1≠b)
  (keep:∀b o,b≠X.env.locals->b∉X.fs->b∉ch->s.heap.get? b=some o->H b=none->h'.get? b=some o)
  (slot:∀b o,b≠X.env.locals->b∈X.fs->b∉ch->s.heap.get? b=some o->H b=none->∃sl,h'.get? b=some {o with slots:=sl}) (free:∀b o,b∉ch->s.heap.get? b=some o->H b=none->H' b=none)
  (there:∀b o,b∉ch->s.heap.get? b=some o->∃o',h'.get? b=some o')
  (iq:∀b xs,H b=some (.tup xs)->H' b=some (.tup xs)) (hG:∀b o u,H b=some (.A4 o u)->H' b=some (.A4 o u)) (ir:∀b ps,H b=some (.Ef ps)->∃more,H' b=some (.Ef (ps++more)))
  (ns:∀m,s.heap.Ns X.env.locals m->h'.Ns X.env.locals m) (bt:gi X.prog X.w H' h') (hg:Ye g') :
  Inv X pins σ H' {s with heap:=h',gens:=g',drawn:=d',toks:=t'}:=by
 have QL:∀b o,X.s₀.heap.get? b=some o->b≠X.env.locals:=λb o e=>VJ (VG (Vp e) I.ok.above);have MQ:∀b o,X.s₀.heap.get? b=some o->b∉X.ex->b∉ch:=λb o e hx hb=>by
  rcases (wq b hb).1 with z|z
  ·exact hx z
  ·exact absurd (VG (Vp e) z) (W_ _)
 have cellK:∀x c,X.env.cells.lookup x=some c->∀v,s.heap.IsCell c v->h'.IsCell c v:=λx c e v Dw=> by
  obtain⟨o,ho,hd⟩ := Dw;have JP:c∉ch:=λz=>(wq c z).2.2.1 x c e rfl
  by_cases hc:c∈X.fs
  ·obtain⟨sl,q⟩:=slot c o (I.Bu x c e) hc JP ho (I.dy x c e);exact⟨_,q,hd⟩
  ·exact⟨o,keep c o (I.Bu x c e) hc JP ho (I.dy x c e),hd⟩
 refine⟨I.ok,I.os,hg,⟨λb o e n hb hx=>?_,λb o e n hb hx=>?_,λb o e n hx=>?_,λb o e hx=>?_,λb xs e=>iq b xs (I.base.iq b xs e),λb o xs e=>hG b o xs (I.base.hG b o xs e),λb ps e=>?_⟩,?_,λx c e=>?_,?_,λx c e=>?_,λp hp=>?_,bt,I.len⟩
 ·exact keep b o (QL b o e) hb (MQ b o e hx) (I.base.keep b o e n hb hx) (I.base.free b o e n hx)
 ·obtain⟨sl,e1⟩:=I.base.slot b o e n hb hx;obtain⟨Ej,e2⟩:=slot b _ (QL b o e) hb (MQ b o e hx) e1 (I.base.free b o e n hx);exact⟨Ej,e2⟩
 ·obtain⟨o',e1⟩:=I.base.there b o e hx;exact free b o' (MQ b o e hx) e1 (I.base.free b o e n hx)
 ·obtain⟨o',e1⟩:=I.base.there b o e hx;exact there b o' (MQ b o e hx) e1
 ·obtain⟨m1,e1⟩:=I.base.ir b ps e;obtain⟨m2,e2⟩:=ir b _ e1;exact⟨m1++m2,by rw[e2,Array.append_assoc]⟩
 ·obtain⟨m,hn,hl⟩:=I.loc;refine⟨m,ns m hn,λi x v e1 e2 e3=>?_⟩;obtain⟨u,r,l⟩:=hl i x v e1 e2 e3;refine⟨u,r,?_⟩;rcases l with l|⟨k,c,e,z⟩
  ·exact .inl l
  ·exact .inr ⟨k,c,e,cellK x c e _ z⟩
 ·obtain⟨v,z⟩:=I.cell x c e;exact⟨v,cellK x c e v z⟩
 ·obtain⟨m,⟨o,_,_,ho,_⟩,_⟩:=I.loc;exact free _ o (λz=>(wq _ z).2.1 rfl) ho I.free
 ·obtain⟨v,o,ho,hd⟩:=I.cell x c e;exact free c o (λz=>(wq c z).2.2.1 x c e rfl) ho (I.dy x c e)
 ·obtain⟨e,n,ne,nf,d⟩:=I.pin p hp;have JP:p.1∉ch:=λz=>(wq p.1 z).2.2.2 p hp rfl;exact⟨keep p.1 p.2 ne nf JP e n,free p.1 p.2 JP e n,ne,nf,d⟩
theorem Inv.un {t':Nat}(I:Inv X pins σ H s)(u:Un X.fs [] H H' s.heap h')(bt:gi X.prog X.w H' h'):Inv X pins σ H' {s with heap:=h',toks:=t'}:=by
 obtain⟨m,⟨o,es,ep,ho,r⟩,_⟩:=id I.loc;obtain⟨sl,hL⟩:=u.any ho I.free (by simp)
 exact I.step (g':=s.gens) (d':=s.drawn) (ch:=[]) (λ_ z=>nomatch z) (λb o _ hb _ e n=>u.keep b o e n hb (by simp)) (λb o _ hb _ e n=>u.slot b o e n hb (by simp)) (λb o _ e n=>u.free b o e n (by simp)) (λb o _ e=>u.there b o e (by simp)) u.iq u.hG u.ir (λm' hm=>by
  obtain⟨o',uQ,P0,Dy,r'⟩:=hm;rw[ho]at Dy;cases Dy;exact⟨_,uQ,P0,hL,r'⟩) bt I.bare
theorem Inv.call {g':Array GenState}{t':Nat}{d':Drawn}{ch:List Addr}(I:Inv X pins σ H s)(u:Un (gm X.stack) ch H H' s.heap h')(bt:gi X.prog X.w H' h')(hg:Ye g')
  (wq:∀b∈ch,(b∈X.ex\/X.s₀.heap.objs.size<=b)/\b≠X.env.locals/\(∀x c,X.env.cells.lookup x=some c->c≠b)/\∀p∈X.pn++pins,p.1≠b) :
  Inv X pins σ H' {s with heap:=h',gens:=g',drawn:=d',toks:=t'}:=by
 obtain⟨m,⟨o,es,ep,ho,r⟩,_⟩:=id I.loc;obtain⟨sl,hL⟩:=u.any ho I.free λz=>(wq _ z).2.1 rfl;exact I.step (ch:=ch) wq (λb o hL hb hc e n=>u.keep b o e n (λz=>(Va.mp (I.t5 b z)).elim hL hb) hc) (λb o _ _ hc e n=>u.any e n hc) (λb o hc e n=>u.free b o e n hc) (λb o hc e=>u.there b o e hc) u.iq u.hG u.ir (λm' hm=>by
  obtain⟨o',uQ,P0,Dy,r'⟩:=hm;rw[ho]at Dy;cases Dy;exact⟨_,uQ,P0,hL,r'⟩) bt hg
theorem Inv.turned {t':Nat}{it:Addr}(I:Inv X pins σ H s)(k:∀b o,b≠it->s.heap.get? b=some o->h'.get? b=some o)(hn:H it=none)(hL:it≠X.env.locals)
  (h1:it∈X.ex\/X.s₀.heap.objs.size<=it) (h2:∀x c,X.env.cells.lookup x=some c->c≠it) (h3:∀p∈X.pn++pins,p.1≠it):Inv X pins σ H {s with heap:=h',toks:=t'}:=by
 have QK:∀b u,H b=some u->b≠it:=λb u e z=>by rw[z,hn]at e;cases e
 refine I.step (g':=s.gens) (d':=s.drawn) (ch:=[it]) (λb hb=>?_) (λb o _ _ hc e _=>k b o (λz=>hc (by simp[z])) e) (λb o _ _ hc e _=>⟨o.slots,k b o (λz=>hc (by simp[z])) e⟩) (λ_ _ _ _ n=>n)
  (λb o hc e=>⟨o,k b o (λz=>hc (by simp[z])) e⟩) (λ_ _ e=>e) (λ_ _ _ e=>e) (λb ps e=>⟨#[],by rw[e];simp⟩) (λm hm=>?_) (λb u e=>?_) I.bare
 ·have e:b=it:=by simpa using hb
  subst e;exact⟨h1,hL,h2,h3⟩
 ·obtain⟨o,es,ep,ho,r⟩:=hm;exact⟨o,es,ep,k _ o (Xn hL) ho,r⟩
 ·refine(I.bt b u e).lC (λc v hc q=>k c v ?_ q) (λ_ q=>q) λ_ _ q=>q;rcases hc with z|z
  ·rw[z];exact QK b u e
  ·exact QK c _ z
theorem Inv.tok (I:Inv X pins σ H s)(t:Nat):Inv X pins σ H {s with toks:=t}:=I.un (h':=s.heap) (t':=t) Un.refl I.bt
theorem Inv.kept {t':Nat}(I:Inv X pins σ H s)(k:∀b u,s.heap.get? b=some u->h'.get? b=some u):Inv X pins σ H {s with heap:=h',toks:=t'}:=I.un (Un.kept k) (I.bt.kept k)
theorem Inv.laid {a:Addr}{o:HO}{t':Nat}(I:Inv X pins σ H s)(k:∀b u,s.heap.get? b=some u->h'.get? b=some u)(hp:s.heap.objs.size<=a)(new:b5 X.prog X.w (upd H a o) h' a o):
  Inv X pins σ (upd H a o) {s with heap:=h',toks:=t'}:=I.un (Un.laid k hp (I.bt.fresh hp)) (I.bt.laid k hp new)
theorem Inv.write {x e:Addr}{o:HO}{t':Nat}(I:Inv X pins σ H s)(mu:Mw (H x))(he:e=x\/H e=some (.own x))(k:∀b u,b≠e->s.heap.get? b=some u->h'.get? b=some u)(Iz:∃u,h'.get? e=some u)
  (new:b5 X.prog X.w (upd H x o) h' x o):Inv X pins σ (upd H x o) {s with heap:=h',toks:=t'}:=I.un (Un.write mu he k Iz) (I.bt.write mu he k Iz new)
theorem Inv.vK {gC:List (Addr×Obj)}(I:Inv X pins σ H s)(h:∀p∈gC,s.heap.get? p.1=some p.2/\H p.1=none/\p.1≠X.env.locals/\p.1∉X.fs/\∀v,p.2.data≠.cell v):Inv X gC σ H s :=
 ⟨I.ok,I.os,I.bare,I.base,I.loc,I.cell,I.free,I.dy,λp hp=>(VC.mp hp).elim (λz=>I.pin p (WG _ z)) (h p),I.bt,I.len⟩
theorem lV {N:List Str}(hN:N.Nodup){i j:Nat}{x:Str}(a:N[i]?=some x)(b:N[j]?=some x):i=j:=by
 obtain⟨h1,e1⟩:=Vc.mp a;obtain⟨h2,e2⟩:=Vc.mp b;exact(List.getElem_inj hN).mp (e1.trans e2.symm)
theorem nM {M:Zf}{A:VZ}{E:U5->U7->Prop}{i:Nat}{x:Str}{v:V}{u:U5}{Q:Unit->U7->Prop}(I:Inv X pins σ H s)(hN:X.N.Nodup)(hi:X.N[i]?=some x)(hx:Loc X.env.scope x)(r:RelV v u)
  (h:∀s',Inv X pins (σ.set i (some v)) H s'->(∃a,X2 a s.heap s'.heap/\(a=X.env.locals\/X.env.cells.lookup x=some a))->Q () s') (hf:X.fn x=true\/X.env.scope.names.lookup x=some .local:=by first|exact .inl rfl|exact .inr rfl|assumption):VA M A (storeName X.env x u) Q E s:=by
 obtain⟨m,hn,hl⟩:=id I.loc;have HC:(X.env.scope.kind==.class || (X.env.scope.kind==.module&&X.env.locals != X.env.globals))=false:=by rw[I.ok.kind];rfl
 have LB:i<σ.length:=by rw[I.len];exact(Vc.mp hi).1
 have Bu:=I.Bu;have tracked:∀{a:Addr} {h':Heap},(∃o,s.heap.get? a=some o/\H a=none)->X2 a s.heap h'->gi X.prog X.w H h':=λ{a h'} ha hs b ob e=>by
  obtain⟨_,_,EJ⟩:=ha;refine(I.bt b ob e).lC (λc w' hc q=>(hs.2 c ?_).trans q) (λ_ q=>q) λ_ _ q=>q;rintro rfl;rcases hc with rfl|hc
  ·rw[EJ]at e;cases e
  ·rw[EJ]at hc;cases hc
 rcases hx with hk|hk
 ·refine wpAny_storeName_local hk hn (λh' Dz hs=>?_) HC;obtain⟨oL,_,_,Q1,_⟩:=id hn;refine h _ ⟨I.ok,I.os,I.bare,⟨λb o e n hb hx=>?_,λb o e n hb hx=>?_,I.base.free,λb o e hx=>?_,I.base.iq,I.base.hG,I.base.ir⟩,⟨_,Dz,λj y v' e1 e2 e3=>?_⟩,λy c e=>?_,I.free,I.dy,λp hp=>?_,tracked ⟨oL,Q1,I.free⟩ hs,by simpa using I.len⟩ ⟨_,hs,.inl rfl⟩
  ·exact(hs.2 b (VJ (VG (Vp e) I.ok.above))).trans (I.base.keep b o e n hb hx)
  ·obtain⟨sl,e1⟩:=I.base.slot b o e n hb hx;exact⟨sl,(hs.2 b (VJ (VG (Vp e) I.ok.above))).trans e1⟩
  ·obtain⟨o',e1⟩:=I.base.there b o e hx;exact⟨o',(hs.2 b (VJ (VG (Vp e) I.ok.above))).trans e1⟩
  ·by_cases hj:j=i
   ·subst hj;rw[hi]at e1;cases e1;rw[List.getElem?_set_self LB]at e2;cases e2;exact⟨u,r,.inl ⟨hk,by simp⟩⟩
   ·rw[YG (Xn hj)]at e2;obtain⟨u',r',q⟩:=hl j y v' e1 e2 e3;refine⟨u',r',?_⟩;rcases q with⟨k,e⟩|⟨k,c,e,z⟩
    ·refine .inl ⟨k,?_⟩;have:y≠x:=λe=>hj (lV hN e1 (e▸hi));simp[this,e]
    ·exact .inr ⟨k,c,e,z.sameBut hs (Bu y c e)⟩
  ·obtain⟨w',z⟩:=I.cell y c e;exact⟨w',z.sameBut hs (Bu y c e)⟩
  ·obtain⟨e,n,ne,nf,d⟩:=I.pin p hp;exact⟨(hs.2 p.1 ne).trans e,n,ne,nf,d⟩
 ·have Pr:X.fn x=true:=by
   rcases hf with z|z
   ·exact z
   ·rw[z]at hk;cases hk
  obtain⟨c,hc⟩:=I.ok.has x (.inl hk);obtain⟨w',z⟩:=I.cell x c hc;refine wpAny_storeName_cell I.ok.kind hk hc z (λh' sH hs=>?_);obtain⟨oc,Hr,O3⟩:=id z;refine h {s with heap:=h'} ⟨I.ok,I.os,I.bare,⟨λb o e n hb hx=>?_,λb o e n hb hx=>?_,I.base.free,λb o e hx=>?_,I.base.iq,I.base.hG,I.base.ir⟩,⟨m,hn.sameBut hs (Xn (Bu x c hc)),λj y v' e1 e2 e3=>?_⟩,λy c' e=>?_,I.free,I.dy,λp hp=>?_,tracked ⟨oc,Hr,I.dy x c hc⟩ hs,by simpa using I.len⟩ ⟨c,hs,.inr hc⟩
  ·exact(hs.2 b (VJ (VG (Vp e) (I.ok.E2 x c Pr hc)))).trans (I.base.keep b o e n hb hx)
  ·obtain⟨sl,e1⟩:=I.base.slot b o e n hb hx;exact⟨sl,(hs.2 b (VJ (VG (Vp e) (I.ok.E2 x c Pr hc)))).trans e1⟩
  ·obtain⟨o',e1⟩:=I.base.there b o e hx;exact⟨o',(hs.2 b (VJ (VG (Vp e) (I.ok.E2 x c Pr hc)))).trans e1⟩
  ·by_cases hj:j=i
   ·subst hj;rw[hi]at e1;cases e1;rw[List.getElem?_set_self LB]at e2;cases e2;exact⟨u,r,.inr ⟨.inl hk,c,hc,sH⟩⟩
   ·rw[YG (Xn hj)]at e2;obtain⟨u',r',q⟩:=hl j y v' e1 e2 e3;refine⟨u',r',?_⟩;rcases q with q|⟨k,c',e,z'⟩
    ·exact .inl q
    ·refine .inr ⟨k,c',e,z'.sameBut hs ?_⟩;rintro rfl;exact hj (lV hN e1 (I.ok.inj _ _ _ e hc▸hi))
  ·by_cases DC:c'=c
   ·subst DC;exact⟨_,sH⟩
   ·obtain⟨w2,z2⟩:=I.cell y c' e;exact⟨w2,z2.sameBut hs DC⟩
  ·obtain⟨e,n,ne,nf,d⟩:=I.pin p hp;refine⟨(hs.2 p.1 ?_).trans e,n,ne,nf,d⟩;intro q;rw[q,Hr]at e;have q':oc=p.2:=VX e;exact d w' (by rw[<- q'];exact O3)
theorem fg {M:Zf}{A:VZ}{E:U5->U7->Prop}{i:Nat}{x:Str}{v:V}{u:U5}{Q:Unit->U7->Prop}(I:Inv X pins σ H s)(hN:X.N.Nodup)(hi:X.N[i]?=some x)(hx:Loc X.env.scope x)(r:RelV v u)
  (h:∀s',Inv X pins (σ.set i (some v)) H s'->Q () s') (hf:X.fn x=true\/X.env.scope.names.lookup x=some .local:=by first|exact .inl rfl|exact .inr rfl|assumption):VA M A (storeName X.env x u) Q E s :=
 nM I hN hi hx r (λs' I' _=>h s' I') hf
theorem Inv.E1 {s':U7}{ch:List Addr}(I:Inv X pins σ H s)(ho:s'.os=s.os)(u:Un (gm X.stack) ch H H' s.heap s'.heap)(bt:gi X.prog X.w H' s'.heap)(hg:Ye s'.gens)
  (wq:∀b∈ch,(b∈X.ex\/X.s₀.heap.objs.size<=b)/\b≠X.env.locals/\(∀x c,X.env.cells.lookup x=some c->c≠b)/\∀p∈X.pn++pins,p.1≠b):Inv X pins σ H' s':=by
 obtain⟨h',g',d',t',o'⟩:=s';have e:o'=s.os:=ho;subst e;exact I.call (g':=g') (t':=t') (d':=d') u bt hg wq
end
abbrev XK:=U5->Option Addr->Hp->Prop
abbrev St:=List (Option V)
abbrev VK:=V->Hp->Prop
abbrev TE:=St->Hp->VK->Prop
abbrev TT:=St->Hp->(Bool->Hp->Prop)->Prop
abbrev TA:=St->Hp->(List V->Hp->Prop)->Prop
structure Ends where
 nx:St->Hp->Prop
 rt:VK
 bk:St->Hp->Prop:=λ_ _=>False
 ct:St->Hp->Prop:=λ_ _=>False
abbrev TS:=Ends->St->Hp->Prop
def EP (X:Cx)(pins:List (Addr×Obj))(σ:St)(Q:VK)(u:U5)(s':U7):Prop:=∃v H',Inv X pins σ H' s'/\RelV v u/\Q v H'
def TP (X:Cx)(pins:List (Addr×Obj))(σ:St)(Q:Bool->Hp->Prop)(b:Bool)(s':U7):Prop:=∃H',Inv X pins σ H' s'/\Q b H'
def AP (X:Cx)(pins:List (Addr×Obj))(σ:St)(Q:List V->Hp->Prop)(us:List U5)(s':U7):Prop:=∃vs H',Inv X pins σ H' s'/\Vals vs us/\Q vs H'
def SP (X:Cx)(pins:List (Addr×Obj))(D:Ends)(f:Flow)(s':U7):Prop :=
 match f with
 |.next=>∃σ' H',Inv X pins σ' H' s'/\D.nx σ' H'
 |.brk=>∃σ' H',Inv X pins σ' H' s'/\D.bk σ' H'
 |.cont=>∃σ' H',Inv X pins σ' H' s'/\D.ct σ' H'
 |.ret u=>∃v σ' H',Inv X pins σ' H' s'/\RelV v u/\D.rt v H'
def PE (X:Cx)(e:Expr)(t:TE):Prop :=
 ∀(pins:List (Addr×Obj)) (s:U7) (σ:St) (H:Hp) (Q:VK),Inv X pins σ H s->t σ H Q->VA (model X.prog X.w) X.A (eval e X.env) (EP X pins σ Q) X.xe s
def PT (X:Cx)(e:Expr)(t:TT):Prop :=
 ∀(pins:List (Addr×Obj)) (s:U7) (σ:St) (H:Hp) (Q:Bool->Hp->Prop),Inv X pins σ H s->t σ H Q->VA (model X.prog X.w) X.A (Y9 e X.env (eval e X.env)) (TP X pins σ Q) X.xe s
def PW (X:Cx)(e:Expr)(t:TT):Prop :=
 ∀(whole:Sem U5) (pins:List (Addr×Obj)) (s:U7) (σ:St) (H:Hp) (Q:Bool->Hp->Prop),Inv X pins σ H s->t σ H Q->VA (model X.prog X.w) X.A (Y9 e X.env whole) (TP X pins σ Q) X.xe s
theorem PW.pt {X:Cx}{e:Expr}{t:TT}(h:PW X e t):PT X e t:=h _
def PA (X:Cx)(es:List Expr)(t:TA):Prop :=
 ∀(pos:Pos) (pins:List (Addr×Obj)) (s:U7) (σ:St) (H:Hp) (Q:List V->Hp->Prop),Inv X pins σ H s->t σ H Q->VA (model X.prog X.w) X.A (spliced (Wt pos (Vd es X.env))) (AP X pins σ Q) X.xe s
def PS (X:Cx)(st:Stmt)(t:TS):Prop :=
 ∀(pins:List (Addr×Obj)) (s:U7) (σ:St) (H:Hp) (D:Ends),Inv X pins σ H s->t D σ H->VA (model X.prog X.w) X.A (exec st X.env) (SP X pins D) X.xe s
def qI (X:Cx)(st:List Stmt)(t:TS):Prop :=
 ∀(pins:List (Addr×Obj)) (s:U7) (σ:St) (H:Hp) (D:Ends),Inv X pins σ H s->t D σ H->VA (model X.prog X.w) X.A (execs st X.env) (SP X pins D) X.xe s
theorem bq {α:Type}{t:Sem α}{Q Q':α->U7->Prop}{M:Zf}{A:VZ}{E:U5->U7->Prop}{s:U7}(h:VA M A t Q E s)(hQ:∀a s,Q a s->Q' a s):VA M A t Q' E s:=Xi h hQ λ_ _ x=>x
section
variable {X:Cx}
def IX (i:Nat):TE:=λσ H Q=>∃v,σ[i]?=some (some v)/\Q v H
def tC (v:V):TE:=λ_ H Q=>Q v H
theorem fb {i:Nat} {x:Str} {pos:Pos} (hN:X.N[i]?=some x) (hv:wQ X.env.scope x) (hd:(x==("__debug__" : Str))=false:=by decide) (ic:(x==("__classdict__" : Str))=false:=by decide):PE X (.Name x pos) (IX i):=by
 intro pins s σ H Q I h;obtain⟨v,e,h⟩:=h;obtain⟨m,hn,hl⟩:=I.loc;obtain⟨u,r,l⟩:=hl i x v hN e hv;have fin:EP X pins σ Q u s:=⟨v,H,I,r,h⟩;rcases l with⟨hk,hm⟩|⟨hk,c,hc,ke⟩
 ·exact wpAny_Name (wpAny_loadName_local I.ok.kind hk hn hm fin) hd
 ·rcases hk with hk|hk
  ·exact wpAny_Name (wpAny_loadName_cell I.ok.kind hk hc ke fin) hd
  ·exact wpAny_Name (wpAny_loadName_free I.ok.kind hk hc ke fin ic) hd
theorem a3 {i j pos}:PE X (.Constant (.int i) j pos) (tC (.int i)):=λ_ _ _ H _ I h=>wpAny_Constant_int ⟨.int i,H,I.tok _,⟨_,rfl⟩,h⟩
theorem zO {b j pos}:PE X (.Constant (.bool b) j pos) (tC (.bl b)):=λ_ _ _ H _ I h=>Constant_bool ⟨.bl b,H,I,rfl,h⟩
theorem F4 {j pos}:PE X (.Constant .none j pos) (tC .cO):=λ_ _ _ H _ I h=>Constant_none ⟨.cO,H,I,rfl,h⟩
theorem F1 {x j pos}:PE X (.Constant (.str x) j pos) (tC (.str x)):=λ_ _ _ H _ I h=>Calls.Constant_str ⟨.str x,H,I.tok _,⟨_,rfl⟩,h⟩
def Gl (X:Cx)(x:Str):Prop:=X.env.kindOf x=some .globalImplicit
theorem je {E:U5->U7->Prop}{pins:List (Addr×Obj)}{s:U7}{σ:St}{H:Hp}{x:Str}{u:U5}{pos:Pos}{Q:U5->U7->Prop}(I:Inv X pins σ H s)(hg:Gl X x)(hm:X.mg x=some u)(h:Q u s)
  (hd:(x==("__debug__" : Str))=false:=by decide):VA (model X.prog X.w) X.A (eval (.Name x pos) X.env) Q E s :=
 Zv I.ok.kind hg (Calls.loadGlobal_global (by rw[I.ok.glob];exact I.mod.glob.keeps I.bk) hm h) hd
theorem iC {E:U5->U7->Prop}{pins:List (Addr×Obj)}{s:U7}{σ:St}{H:Hp}{x:Str}{u:U5}{pos:Pos}{Q:U5->U7->Prop}(I:Inv X pins σ H s)(hg:Gl X x)(hm:X.mg x=none)(hv:V3 x=some u)(h:Q u s)
  (hn:x≠"__name__" := by decide) (hd:(x==("__debug__" : Str))=false:=by decide):VA (model X.prog X.w) X.A (eval (.Name x pos) X.env) Q E s:=by
 obtain⟨mb,h1,h2⟩:=I.mod.blt;exact Zv I.ok.kind hg (Calls.loadGlobal_builtin (by rw[I.ok.glob];exact I.mod.glob.keeps I.bk) hm (by rw[I.ok.blt];exact h1.keeps I.bk) ((h2 x hn).trans hv) h) hd
theorem vM {x:Str} {v:V} {u:U5} {pos:Pos} (hg:Gl X x) (hm:X.mg x=some u) (r:RelV v u) (hd:(x==("__debug__" : Str))=false:=by decide):PE X (.Name x pos) (tC v) :=
 λ_ _ _ H _ I h=>je I hg hm ⟨v,H,I,r,h⟩ hd
theorem CO {x:Str} {v:V} {u:U5} {pos:Pos} (hg:Gl X x) (hm:X.mg x=none) (hv:V3 x=some u) (r:RelV v u) (hn:x≠"__name__" := by decide) (hd:(x==("__debug__" : Str))=false:=by decide):PE X (.Name x pos) (tC v) :=
 λ_ _ _ H _ I h=>iC I hg hm hv ⟨v,H,I,r,h⟩ hn hd
variable {a b:Expr}{ta tb:TE}{pos:Pos}
theorem rO (b:Expr){op:XS}(h:op≠.In)(h2:op≠.NotIn):W8 op b=false:=by
 have e1:(op==CmpOp.In)=false:=by cases op <;> first|rfl|exact absurd rfl h
 have e2:(op==CmpOp.NotIn)=false:=by cases op <;> first|rfl|exact absurd rfl h2
 cases b <;> simp[W8,e1,e2]
def tB (t:TE):TT:=λσ H Q=>t σ H λx H1=>∃c,x=.bl c/\Q c H1
theorem FO {e:Expr}{t:TE}(h:PE X e t)(he:∀whole,Y9 e X.env whole=(do let v <- whole;YI e.pos;holding [v] (truthy v)):=by intro _;rfl):PT X e (tB t):=by
 intro pins s σ H Q I hw;refine isTrue_plain (bq (h pins s σ H _ I hw) λv s1 ⟨x,H1,I1,r1,q1⟩=>?_) (he _);obtain⟨d,rfl,q⟩:=q1;cases r1;exact WQ ⟨H1,I1,q⟩
variable {tA MG:TT}{rest:List Expr}
def NU (t u:TT):TT:=λσ H Q=>t σ H λc H1=>if c=true then u σ H1 Q else Q false H1
def RS (t u:TT):TT:=λσ H Q=>t σ H λc H1=>if c=true then Q true H1 else u σ H1 Q
def NN (t:TT):TT:=λσ H Q=>t σ H λc H1=>Q (!c) H1
theorem pw_and1 (ha:PT X a tA):PW X (.BoolOp .And [a] pos) tA:=by
 intro wh pins s σ H Q I h;refine isTrue_and (bq (ha pins s σ H Q I h) λc s1 e=>?_);cases c with
 |true=>exact isTrue_and_nil e
 |false=>exact e
theorem pw_or1 (ha:PT X a tA):PW X (.BoolOp .Or [a] pos) tA:=by
 intro wh pins s σ H Q I h;refine isTrue_or (bq (ha pins s σ H Q I h) λc s1 e=>?_);cases c with
 |false=>exact isTrue_or_nil e
 |true=>exact e
theorem pw_and (ha:PT X a tA)(hb:PW X (.BoolOp .And (b::rest) pos) MG):PW X (.BoolOp .And (a::b::rest) pos) (NU tA MG):=by
 intro wh pins s σ H Q I h;refine isTrue_and (bq (ha pins s σ H _ I h) λc s1 ⟨H1,I1,q1⟩=>?_);cases c with
 |true=>exact hb wh pins s1 σ H1 Q I1 q1
 |false=>exact⟨H1,I1,q1⟩
theorem pw_or (ha:PT X a tA)(hb:PW X (.BoolOp .Or (b::rest) pos) MG):PW X (.BoolOp .Or (a::b::rest) pos) (RS tA MG):=by
 intro wh pins s σ H Q I h;refine isTrue_or (bq (ha pins s σ H _ I h) λc s1 ⟨H1,I1,q1⟩=>?_);cases c with
 |true=>exact⟨H1,I1,q1⟩
 |false=>exact hb wh pins s1 σ H1 Q I1 q1
theorem FP (ha:PT X a tA):PT X (.UnaryOp .Not a pos) (NN tA):=by
 intro pins s σ H Q I h;exact isTrue_not (ha pins s σ H (λc H1=>Q (!c) H1) I h)
def NM (ta tb:TE):TE:=λσ H Q=>ta σ H λx H1=>∃c,x=.bl c/\if c=true then Q (.bl true) H1 else tb σ H1 Q
theorem F3 {op}{t:TE}(h:PE X a t):PE X (.BoolOp op [a] pos) t:=λpins s σ H Q I hw=>BoolOp_one (h pins s σ H Q I hw)
theorem JC (ha:PE X a ta)(hb:PE X (.BoolOp .Or (b::rest) pos) tb):PE X (.BoolOp .Or (a::b::rest) pos) (NM ta tb):=by
 intro pins s σ H Q I h;refine BoolOp_or (bq (ha pins s σ H _ I h) λv s1 ⟨x,H1,I1,r1,q1⟩=>?_);obtain⟨c,rfl,q1⟩:=q1;cases r1;refine WQ ?_;cases c with
 |false=>exact hb pins s1 σ H1 Q I1 q1
 |true=>exact⟨.bl true,H1,I1,rfl,q1⟩
end
def dh (K:PySem.W.Frag)(H:Hp)(a:Addr)(xs:List V):Prop :=
 Rd H a (.lst xs) \/
  ∃(o:Obj) (its:Array U5) (n:Nat),K.lookup a=some o/\o.cls=.type "list" /\ o.dict=none/\o.data=.seq its n/\its.size<=Vh/\Vals xs its.toList
def qH (K:PySem.W.Frag)(H:Hp)(a:Addr)(xs:List V):Prop :=
 Rd H a (.tup xs) \/
  ∃(o:Obj) (its:Array U5) (n:Nat),K.lookup a=some o/\o.cls=.type "tuple" /\ o.data=.seq its n/\its.size<=Vh/\Vals xs its.toList
def Qb:U5->Option V
 |.none=>some .cO
 |.bool b=>some (.bl b)
 |.int i _=>some (.int i)
 |.str x _=>some (.str x)
 |.bytes b _=>some (.Mf b)
 |.float b _=>some (.PN b)
 |.ref a=>some (.ref a)
 |.type n=>some (.ty n)
 |_=>none
theorem RelV.abs {x:V}{u:U5}(r:RelV x u):Qb u=some x:=by
 cases x with
 |cO=>cases r;rfl
 |bl _=>cases r;rfl
 |int _=>obtain⟨t,rfl⟩:=r;rfl
 |str _=>obtain⟨t,rfl⟩:=r;rfl
 |Mf _=>obtain⟨t,rfl⟩:=r;rfl
 |PN _=>obtain⟨t,rfl⟩:=r;rfl
 |ref _=>cases r;rfl
 |ty _=>cases r;rfl
theorem RelV.inj {x y:V}{u:U5}(r:RelV x u)(q:RelV y u):x=y:=VX (r.abs.symm.trans q.abs)
theorem Vals.inj:∀{xs ys:List V} {us:List U5},Vals xs us->Vals ys us->xs=ys
 |_,_,_,.nil,.nil=>rfl
 |_,_,_,.cons r t,.cons r' t'=>by rw[r.inj r',Vals.inj t t']
section
variable {X:Cx}{pins:List (Addr×Obj)}{σ:St}{H:Hp}{s:U7}{a:Addr}{xs ys:List V}
theorem dh.of {K:PySem.W.Frag}(h:H a=some (.lst xs)):dh K H a xs:=.inl (.inl h)
theorem qH.of {K:PySem.W.Frag}(h:H a=some (.tup xs)):qH K H a xs:=.inl (.inl h)
theorem Inv.list (I:Inv X pins σ H s)(h:dh X.K H a xs):∃its:List U5,Vals xs its/\PlainL s.heap a its.toArray/\xs.length<=Vh:=by
 rcases h with h|⟨o,its,n,hk,hc,hd,hs,hz,r⟩
 ·obtain⟨z,its,n,r,e⟩:=h.ok I.bt;exact⟨its,r,⟨_,n,e,rfl,rfl,rfl⟩,z⟩
 ·refine⟨its.toList,r,⟨o,n,I.yA a o hk,hc,hd,by simpa using hs⟩,?_⟩
  have e:=r.length;simp only[Vz]at e;lia
theorem Inv.tuple (I:Inv X pins σ H s)(h:qH X.K H a xs):∃its:List U5,Vals xs its/\Y5 s.heap a its.toArray/\xs.length<=Vh:=by
 rcases h with h|⟨o,its,n,hk,hc,hs,hz,r⟩
 ·obtain⟨z,its,r,p⟩:=h.ok I.bt;exact⟨its,r,p,z⟩
 ·refine⟨its.toList,r,⟨o,I.yA a o hk,hc,n,by simpa using hs⟩,?_⟩
  have e:=r.length;simp only[Vz]at e;lia
theorem Inv.Ak (I:Inv X pins σ H s)(h:dh X.K H a xs)(h':dh X.K H a ys):xs=ys:=by
 obtain⟨its,r,⟨o,n,e,_,_,d⟩,_⟩:=I.list h;obtain⟨its',r',⟨o',n',e',_,_,d'⟩,_⟩:=I.list h';rw[e]at e';cases e';rw[d]at d';injection d' with d1 _
 have:its=its':=by simpa using congrArg Array.toList d1
 subst this;exact r.inj r'
end
abbrev Cx.iR (X:Cx)(E:U5->U7->Prop):Cx:={X with xe:=E}
abbrev Cx.lU (X:Cx):Cx:=X.iR λ_ _=>False
theorem Cx.Ok.iR {X:Cx}(ok:X.Ok)(E:U5->U7->Prop):(X.iR E).Ok :=
 ⟨ok.mod,ok.kind,ok.glob,ok.blt,ok.above,ok.inj,ok.has,ok.E2,ok.hd,ok.frames,ok.Fq,ok.HJ,ok.bs,ok.BF,ok.rN,ok.sY,ok.jk,ok.DI⟩
theorem Cx.Ok.di {X:Cx}{E:U5->U7->Prop}(ok:(X.iR E).Ok):X.Ok :=
 ⟨ok.mod,ok.kind,ok.glob,ok.blt,ok.above,ok.inj,ok.has,ok.E2,ok.hd,ok.frames,ok.Fq,ok.HJ,ok.bs,ok.BF,ok.rN,ok.sY,ok.jk,ok.DI⟩
section
variable {X:Cx}{pins:List (Addr×Obj)}{σ:St}{H:Hp}{s:U7}{E:U5->U7->Prop}
theorem Inv.iR (I:Inv X pins σ H s)(E:U5->U7->Prop):Inv (X.iR E) pins σ H s:=⟨I.ok.iR E,I.os,I.bare,I.base,I.loc,I.cell,I.free,I.dy,I.pin,I.bt,I.len⟩
theorem Inv.di (I:Inv (X.iR E) pins σ H s):Inv X pins σ H s:=⟨I.ok.di,I.os,I.bare,I.base,I.loc,I.cell,I.free,I.dy,I.pin,I.bt,I.len⟩
theorem SP.di {D:Ends}{f:Flow}{s':U7}(h:SP (X.iR E) pins D f s'):SP X pins D f s':=by
 cases f with
 |next=>obtain⟨σ',H',I,q⟩:=h;exact⟨σ',H',I.di,q⟩
 |brk=>obtain⟨σ',H',I,q⟩:=h;exact⟨σ',H',I.di,q⟩
 |cont=>obtain⟨σ',H',I,q⟩:=h;exact⟨σ',H',I.di,q⟩
 |ret u=>obtain⟨v,σ',H',I,r,q⟩:=h;exact⟨v,σ',H',I.di,r,q⟩
theorem PT.lU {e:Expr}{t:TT}(h:PT X.lU e t):PT X e t:=λpins s σ H Q I hw =>
 Xi (h pins s σ H Q (I.iR _) hw) (λ_ _ G8=> by obtain⟨H',I',q⟩ := G8;exact⟨H',I'.di,q⟩) λ_ _ z=>WI z
theorem qI.lU {st:List Stmt}{t:TS}(h:qI X.lU st t):qI X st t:=λpins s σ H D I hw =>
 Xi (h pins s σ H D (I.iR _) hw) (λ_ _ q=>q.di) λ_ _ z=>WI z
end
section
variable {X:Cx}{st:Stmt}{rest:List Stmt}{t u:TS}{e:Expr}{te:TE}{pos:Pos}
def Jb:TS:=λD σ H=>D.nx σ H
def NG (t u:TS):TS:=λD σ H=>t {D with nx:=u D} σ H
theorem pG:qI X [] Jb:=λ_ _ σ H _ I h=>Xw ⟨σ,H,I,h⟩
theorem b8 (h1:PS X st t)(h2:qI X rest u):qI X (st::rest) (NG t u):=by
 intro pins s σ H D I h;refine Y7 (bq (h1 pins s σ H {D with nx:=u D} I h) λf s1 q=>?_)
 cases f with
 |next =>
  obtain⟨σ',H',I',q⟩:=q;exact h2 pins s1 σ' H' D I' q
 |ret v=>exact q
 |brk=>exact q
 |cont=>exact q
theorem eU (h1:PS X st t):qI X [st] t:=by
 intro pins s σ H D I h;refine Y7 (bq (h1 pins s σ H D I h) λf s1 q=>?_);cases f with
 |next=>exact Xw q
 |ret v=>exact q
 |brk=>exact q
 |cont=>exact q
theorem Inv.quiet {pins:List (Addr×Obj)}{σ:St}{H:Hp}{s:U7}(I:Inv X pins σ H s):interactive X.env=false:=by simp[interactive,I.ok.kind]
def Jd (te:TE):TS:=λD σ H=>te σ H λ_ H1=>D.nx σ H1
theorem kT (he:PE X e te)(hs:WO e none pos.line X.env=pure false:=by rfl):PS X (.Expr e pos) (Jd te):=by
 intro pins s σ H D I h;exact wpAny_Expr_any (bq (he pins s σ H _ I h) λv s1 OL=> by obtain⟨x,H1,I1,r1,q1⟩ := OL;exact⟨σ,H1,I1,q1⟩) I.quiet hs
def NH (te:TE):TS:=λD σ H=>te σ H D.rt
theorem gA (he:PE X e te):PS X (.Return (some e) pos) (NH te):=by
 intro pins s σ H D I h;exact wpAny_Return_some (bq (he pins s σ H _ I h) λv s1 Du=> by obtain⟨x,H1,I1,r1,q1⟩ := Du;exact⟨x,σ,H1,I1,r1,q1⟩)
def NP (c:TT)(t u:TS):TS:=λD σ H=>c σ H λb H1=>if b=true then t D σ H1 else u D σ H1
theorem zw {c:Expr}{a b:List Stmt}{tc:TT}(hc:PT X c tc)(ha:qI X a t)(hb:qI X b u):PS X (.If c a b pos) (NP tc t u):=by
 intro pins s σ H D I h;refine wpAny_If (bq (hc pins s σ H _ I h) λd s1 ⟨H1,I1,q1⟩=>?_);cases d with
 |true=>exact ha pins s1 σ H1 D I1 q1
 |false=>exact hb pins s1 σ H1 D I1 q1
end
abbrev TG:=V->St->Hp->(St->Hp->Prop)->Prop
abbrev E3:=List V->St->Hp->(St->Hp->Prop)->Prop
def PG (X:Cx)(target:Expr)(t:TG):Prop :=
 ∀(pins:List (Addr×Obj)) (s:U7) (σ:St) (H:Hp) (v:V) (u:U5) (Q:St->Hp->Prop),Inv X pins σ H s->RelV v u->t v σ H Q ->
  VA (model X.prog X.w) X.A (assign target X.env u) (λ_ s'=>∃σ' H',Inv X pins σ' H' s'/\Q σ' H') X.xe s
def E5 (X:Cx)(ts:List Expr)(t:E3):Prop :=
 ∀(pins:List (Addr×Obj)) (s:U7) (σ:St) (H:Hp) (vs:List V) (us:List U5) (Q:St->Hp->Prop),Inv X pins σ H s->Vals vs us->t vs σ H Q ->
  VA (model X.prog X.w) X.A (assignInOrder ((W3 ts X.env).map (·.2)) us) (λ_ s'=>∃σ' H',Inv X pins σ' H' s'/\Q σ' H') X.xe s
abbrev H_:=V->V->V->Hp->(Hp->Prop)->Prop
def Mt (X:Cx)(t:H_):Prop :=
 ∀(pins:List (Addr×Obj)) (s:U7) (σ:St) (H:Hp) (o i v:V) (ov iv u:U5) (Q:Hp->Prop),Inv X pins σ H s->RelV o ov->RelV i iv->RelV v u->t o i v H Q ->
  VA (model X.prog X.w) X.A (setItem ov iv u) (λ_ s'=>∃H',Inv X pins σ H' s'/\Q H') X.xe s
abbrev Qf:=V->V->Hp->VK->Prop
def T7 (X:Cx)(op:Zs)(t:Qf):Prop :=
 ∀(pins:List (Addr×Obj)) (s:U7) (σ:St) (H:Hp) (x y:V) (v u:U5) (Q:VK),Inv X pins σ H s->RelV x v->RelV y u->t x y H Q ->
  VA (model X.prog X.w) X.A (Y_ op v u) (EP X pins σ Q) X.xe s
section
variable {X:Cx}{pos:Pos}
def EM (i:Nat):TG:=λv σ H Q=>Q (σ.set i (some v)) H
theorem CM {i:Nat}{x:Str}(hN:X.N.Nodup)(hi:X.N[i]?=some x)(hx:Loc X.env.scope x)(hf:X.fn x=true\/X.env.scope.names.lookup x=some .local:=by first|exact .inl rfl|exact .inr rfl|assumption):PG X (.Name x pos) (EM i):=by
 intro pins s σ H v u Q I r h;exact wpAny_assign_Name (fg I hN hi hx r (λs' I'=>⟨_,H,I',h⟩) hf)
def HF:E3:=λvs σ H Q=>vs=[]/\Q σ H
def AZ (t:TG)(u:E3):E3:=λvs σ H Q=>∃v r,vs=v::r/\t v σ H λσ' H'=>u r σ' H' Q
theorem CL:E5 X [] HF:=by
 intro pins s σ H vs us Q I r h;obtain⟨e,h⟩:=h;subst e;cases r;exact assignInOrder_nil ⟨σ,H,I,h⟩
theorem zI {e:Expr}{es:List Expr}{t:TG}{u:E3}(h1:PG X e t)(h2:E5 X es u)
  (hs:(W3 (e::es) X.env).map (·.2)=assign e X.env::(W3 es X.env).map (·.2):=by rfl):E5 X (e::es) (AZ t u):=by
 intro pins s σ H vs us Q I r h;obtain⟨v,vr,e1,h⟩:=h;subst e1;cases r with
 |cons r rr =>
  rw[hs];refine YT (bq (h1 pins s σ H _ _ _ I r h) λ_ s1 ⟨σ1,H1,I1,q1⟩=>?_);exact h2 pins s1 σ1 H1 _ _ Q I1 rr q1
def PF (K:PySem.W.Frag)(n:Nat)(t:E3):TG:=λv σ H Q=>∃a xs,v=.ref a/\qH K H a xs/\xs.length=n/\t xs σ H Q
theorem F0 {es:List Expr}{k:Nat}{t:E3}{n:Nat}(hc:X.calm=true)(h:E5 X es t)
  (hn:(W3 es X.env).length=n:=by rfl) (ot:(W3 es X.env).findIdx? (·.1)=none:=by rfl):PG X (.Tuple es k pos) (PF X.K n t):=by
 intro pins s σ H v u Q I r hw;obtain⟨a,xs,e1,hq,hl,hw⟩:=hw;subst e1;cases r;obtain⟨its,rv,ht,hz⟩:=I.tuple hq;refine assign_Tuple_tuple (I.ok.hd hc) ht (by simp[hn,<- hl,rv.length]) ot λh' hx=>?_
 have I1:Inv X pins σ H {s with heap:=h'}:=I.kept (t':=s.toks) λb o e=>hx b o (VJ (Vp e)) e
 exact h pins _ σ H xs _ Q I1 (by simpa using rv) hw
def PH (to ti:TE)(t:H_):TG:=λv σ H Q=>to σ H λo H1=>ti σ H1 λi H2=>t o i v H2 λH3=>Q σ H3
theorem zJ {o i:Expr}{to ti:TE}{t:H_}(ho:PE X o to)(hi:PE X i ti)(hs:Mt X t)
  (ha:∀v,assign (.Subscript o i pos) X.env v=(do
   let ov <- holding [v] (eval o X.env)
   let iv <- holding [v,ov] (eval i X.env)
   YI pos
   holding [v,ov,iv] (setItem ov iv v)
   release [v,ov,iv] []):=by intro _;rfl):PG X (.Subscript o i pos) (PH to ti t):=by
 intro pins s σ H v u Q I r h;rw[ha];refine U6 (WC (bq (ho pins s σ H _ I h) λov s1 ⟨x,H1,I1,r1,q1⟩=>?_));refine U6 (WC (bq (hi pins s1 σ H1 _ I1 q1) λiv s2 ⟨y,H2,I2,r2,q2⟩=>?_));refine U6 (W7 (U6 (WC (bq (hs pins s2 σ H2 x y v ov iv u _ I2 r1 r2 r q2) λ_ s3 ⟨H3,I3,q3⟩=>?_))));exact wpAny_release ⟨σ,H3,I3,q3⟩
def Jf (te:TE)(g:TG):TS:=λD σ H=>te σ H λx H1=>g x σ H1 D.nx
theorem ug {tg e:Expr}{te:TE}{g:TG}(he:PE X e te)(hg:PG X tg g)(hs:YM [tg] e pos.line X.env=pure false:=by rfl)(hw:YN [tg] e X.env=pure none:=by rfl)
  (h1:(W3 [tg] X.env).map (·.2)=[assign tg X.env]:=by rfl):PS X (.Assign [tg] e pos) (Jf te g):=by
 intro pins s σ H D I h;refine wpAny_Assign_stores (bq (he pins s σ H _ I h) λv s1 ⟨x,H1,I1,r1,q1⟩=>?_) hs hw;rw[h1];exact bq (hg pins s1 σ H1 x v _ I1 r1 q1) λ_ s2 q=>q
theorem lK {i:Nat}{x:Str}{e:Expr}{te:TE}{pos':Pos}(hN:X.N.Nodup)(hi:X.N[i]?=some x)(hx:Loc X.env.scope x)(he:PE X e te)(hs:WO e (some (.Name x pos')) pos.line X.env=pure false:=by rfl)(hf:X.fn x=true\/X.env.scope.names.lookup x=some .local:=by first|exact .inl rfl|exact .inr rfl|assumption):
  PS X (.Assign [.Name x pos'] e pos) (Jf te (EM i)):=by
 intro pins s σ H D I h;refine wpAny_Assign_Name (bq (he pins s σ H _ I h) λv s1 ⟨y,H1,I1,r1,q1⟩=>?_) hs;exact fg I1 hN hi hx r1 (λs2 I2=>⟨_,H1,I2,q1⟩) hf
def NK (i j:Nat)(ta:TA):TS:=λD σ H=>ta σ H λvs H1=>∃v w,vs=[v,w]/\D.nx ((σ.set i (some v)).set j (some w)) H1
theorem FR {i j:Nat}{x y:Str}{a b:Expr}{ta:TA}{px py pt:Pos}{kt k2 FQ}(hc:X.calm=true)(hN:X.N.Nodup)(hi:X.N[i]?=some x)(hj:X.N[j]?=some y)(aV:i≠j)
  (hx:X.env.scope.names.lookup x=some .local) (hy:X.env.scope.names.lookup y=some .local) (ha:PA X [a,b] ta)
  (hw:YN [.Tuple [.Name x px,.Name y py] kt pt] (.Tuple [a,b] k2 FQ) X.env=pure (some [x,y]))
  (hs:YM [.Tuple [.Name x px,.Name y py] kt pt] (.Tuple [a,b] k2 FQ) pos.line X.env=pure false:=by rfl) :
  PS X (.Assign [.Tuple [.Name x px,.Name y py] kt pt] (.Tuple [a,b] k2 FQ) pos) (NK i j ta):=by
 intro pins s σ H D I h;rw[exec_Assign_arm];refine U6 (W7 ?_);rw[hs];refine U6 (Vg ?_);rw[if_neg (by decide)]
 refine U6 (Tuple_ (bq (ha _ pins s σ H _ I h) λus s1 ⟨vs,H1,I1,r1,q1⟩=>?_));obtain⟨v,w,e1,q1⟩:=q1;subst e1;obtain⟨u1,u2,rfl,rv,Jl⟩:∃u1 u2,us=[u1,u2]/\RelV v u1/\RelV w u2:=by
  cases r1 with
  |cons p q =>
   cases q with
   |cons p' q' =>
    cases q';exact⟨_,_,rfl,p,p'⟩
 refine Wu ?_ (by show 2<=Vh;decide)
 have I2:Inv X pins σ H1 {s1 with heap:=s1.heap.push {cls:=.type "tuple",data:=.seq [u1,u2].toArray}}:=I1.kept (t':=s1.toks) λb o e=>Vi _ e
 rw[hw];refine U6 (Vg ?_);show VA (model X.prog X.w) X.A (do rule "assign.swapped-stores";let items <- unpackItems (.ref s1.heap.objs.size) 2 none;assignInOrder [λv=>Y1 X.env y v,λv=>Y1 X.env x v] items.reverse;pure Flow.next) _ _ _
 refine U6 (Xx (U6 (unpackItems_tuple (items:=#[u1,u2]) (I.ok.hd hc) (IsTup.new s1.heap _) λh' AG=>?_)));have I3:=I2.kept (h':=h') (t':=s1.toks) λb o e=>AG b o (VJ (Vp e)) e;show VA _ _ (assignInOrder [λv=>Y1 X.env y v,λv=>Y1 X.env x v] [u2,u1] >>= λ_=>pure Flow.next) _ _ _
 refine U6 (YT (wpAny_bindName (fg I3 hN hj (.inl hy) Jl (λs2 I4=>?_) (.inr hy))));refine YT (wpAny_bindName (fg I4 hN hi (.inl hx) rv (λs3 I5=>assignInOrder_nil (Vg ?_)) (.inr hx)));rw[List.set_comm _ _ (Xn aV)]at I5;exact⟨_,H1,I5,q1⟩
def NT (i:Nat)(te:TE)(ti:Qf):TS:=λD σ H=>∃x,σ[i]?=some (some x)/\te σ H λy H1=>ti x y H1 λz H2=>D.nx (σ.set i (some z)) H2
theorem FT {i:Nat}{x:Str}{e:Expr}{te:TE}{op:Zs}{ti:Qf}{pos':Pos}(hN:X.N.Nodup)(hi:X.N[i]?=some x)(hx:Loc X.env.scope x)(he:PE X e te)(ho:T7 X op ti)(hf:X.fn x=true\/X.env.scope.names.lookup x=some .local:=by first|exact .inl rfl|exact .inr rfl|assumption):
  PS X (.AugAssign (.Name x pos') op e pos) (NT i te ti):=by
 intro pins s σ H D I h;obtain⟨v,e1,h⟩:=h;obtain⟨m,hn,hl⟩:=I.loc;have ME:wQ X.env.scope x:=by rcases hx with k|k;exact .inl k;exact .inr (.inl k)
 obtain⟨u,r,l⟩:=hl i x v hi e1 ME;refine wpAny_AugAssign_Name ?_;have go:VA (model X.prog X.w) X.A (eval e X.env) (λw s₂=>VA (model X.prog X.w) X.A (Y_ op u w) (λr s₃=>VA (model X.prog X.w) X.A (storeName X.env x r) (λ_=>SP X pins D .next) X.xe s₃) X.xe s₂) X.xe s:=by
  refine bq (he pins s σ H _ I h) λw s1 ⟨y,H1,I1,r1,q1⟩=>?_;refine bq (ho pins s1 σ H1 v y u w _ I1 r r1 q1) λz s2 ⟨zv,H2,I2,r2,q2⟩=>?_;exact fg I2 hN hi hx r2 (λs3 I3=>⟨_,H2,I3,q2⟩) hf
 rcases l with⟨hk,hm⟩|⟨hk,c,hc,ke⟩
 ·exact wpAny_loadName_local I.ok.kind hk hn hm go
 ·rcases hk with hk|hk
  ·exact wpAny_loadName_cell I.ok.kind hk hc ke go
  ·rcases hx with k|k
   ·have:X.env.scope.names.lookup x=some .free:=hk;rw[k]at this;cases this
   ·have:X.env.scope.names.lookup x=some .free:=hk;rw[k]at this;cases this
end
section
variable {X:Cx}{pos:Pos}
def Fo (c:TT)(tb:TS):TS:=λD σ H=>∃W:Nat->St->Hp->Prop,(∃m,W m σ H)/\∀m σ H,W m σ H ->
 c σ H λb H1=>if b=true then ∃N:St->Hp->Prop,(∀σ' H',N σ' H'->∃m',m'<m/\W m' σ' H')/\tb {D with nx:=N,ct:=N,bk:=D.nx} σ H1 else D.nx σ H1
theorem zu {c:Expr}{body:List Stmt}{tc:TT}{tb:TS}(hp:Za (model X.prog X.w) X.A X.env X.xe)(hc:PT X c tc)(hb:qI X body tb):PS X (.While c body [] pos) (Fo tc tb):=by
 intro pins s σ H D I h;obtain⟨W,⟨m0,w0⟩,turn⟩:=h;refine wpAny_While (codeAny_whileLoop (λn s'=>∃σ' H',Inv X pins σ' H' s'/\W n σ' H') ?_ m0 ⟨σ,H,I,w0⟩);rintro n s1 ⟨σ1,H1,I1,w1⟩;refine W6 hp (bq (hc pins s1 σ1 H1 _ I1 (turn n σ1 H1 w1)) λb s2 ⟨H2,I2,q2⟩=>?_);cases b with
 |true =>
  obtain⟨N,hN,q2⟩:=q2;rw[if_pos rfl];refine W6 hp (bq (hb pins s2 σ1 H2 _ I2 q2) λf s3 q3=>?_);cases f with
  |next =>
   obtain⟨σ3,H3,I3,n3⟩:=q3;obtain⟨m',hm,w3⟩:=hN σ3 H3 n3;exact⟨m',hm,σ3,H3,I3,w3⟩
  |cont =>
   obtain⟨σ3,H3,I3,n3⟩:=q3;obtain⟨m',hm,w3⟩:=hN σ3 H3 n3;exact⟨m',hm,σ3,H3,I3,w3⟩
  |brk=>exact q3
  |ret v=>exact q3
 |false =>
  rw[if_neg We];exact Xw ⟨σ1,H2,I2,q2⟩
end
structure It where
 go:Nat->Hp->Prop
 IK:Nat->Hp->V->Hp->Prop
 stop:Nat->Hp->Prop
def gP (X:Cx)(pins:List (Addr×Obj))(H:Hp)(b:Addr):Prop :=
 H b=none/\b≠X.env.locals/\b∉X.fs/\(b∈X.ex\/X.s₀.heap.objs.size<=b)/\(∀x c,X.env.cells.lookup x=some c->c≠b)/\∀p∈X.pn++pins,p.1≠b
theorem Inv.A5 {X:Cx}{pins:List (Addr×Obj)}{σ:St}{H H':Hp}{s:U7}{b:Addr}(I:Inv X pins σ H s)(hb:s.heap.objs.size<=b)(hn:H' b=none):gP X pins H' b:=by
 refine⟨hn,Nat.ne_of_gt (VG I.lt hb),I.Oj hb,.inr (Vy I.sz hb),λx c e z=>?_,λp hp z=>?_⟩
 ·obtain⟨v,q⟩:=I.cell x c e;exact absurd (VG q.lt (by rw[z];exact hb)) (W_ _)
 ·exact absurd (VG (Vp (I.pin p hp).1) (by rw[z];exact hb)) (W_ _)
structure Turn (P:U_)(w:Vl)(K:PySem.W.Frag)(tg:Expr)(J:It)(fp:List Addr)(it:Addr)(tn:Nat->Heap->Prop):Prop where
 mem:it∈fp
 obj:∀i h,tn i h->∀b∈fp,∃o,h.get? b=some o/\∀v,o.data≠.cell v
 keep:∀i h h',tn i h->(∀b∈fp,∀o,h.get? b=some o->h'.get? b=some o)->tn i h'
 item:∀(X:Cx),X.prog=P->X.w=w->X.K=K->X.calm=true->∀(i:Nat) (pins:List (Addr×Obj)) (s:U7) (σ:St) (H:Hp) (E:U5->U7->Prop),Inv X pins σ H s->(∀b∈fp,gP X pins H b)->tn i s.heap->J.go i H ->
  VA (model P w) X.A (Zo (.ref it)) (λr s1=>∃u,r=some u /\
   VA (model P w) X.A (Ys tg (.ref it) u) (λ_ s2=>∃x H',Inv X pins σ H' s2/\RelV x u/\J.IK i H x H'/\tn (i+1) s2.heap/\∀b∈fp,H' b=none) E s1) E s
 done:∀(X:Cx),X.prog=P->X.w=w->X.K=K->X.calm=true->∀(i:Nat) (pins:List (Addr×Obj)) (s:U7) (σ:St) (H:Hp) (E:U5->U7->Prop),Inv X pins σ H s->(∀b∈fp,gP X pins H b)->tn i s.heap->J.stop i H ->
  VA (model P w) X.A (Zo (.ref it)) (λr s1=>r=none/\Inv X pins σ H s1) E s
 self:∀(A:VZ) (i:Nat) (s:U7) (Q:U5->U7->Prop) (E:U5->U7->Prop),tn i s.heap->Q (.ref it) s->VA (model P w) A (Zq (.ref it)) Q E s
abbrev TI:=St->Hp->(It->Hp->Prop)->Prop
def Nd (X:Cx)(pins:List (Addr×Obj))(σ:St)(tg:Expr)(R:It->Hp->Prop)(ED:U5)(s2:U7):Prop :=
 ∃(it:Addr) (fp:List Addr) (tn:Nat->Heap->Prop) (J:It) (H':Hp),ED=.ref it/\Inv X pins σ H' s2/\Turn X.prog X.w X.K tg J fp it tn/\tn 0 s2.heap/\(∀b∈fp,gP X pins H' b)/\R J H'
def PI (X:Cx)(tg iter:Expr)(wi:TI):Prop :=
 ∀(pins:List (Addr×Obj)) (s:U7) (σ:St) (H:Hp) (R:It->Hp->Prop),Inv X pins σ H s->wi σ H R ->
  VA (model X.prog X.w) X.A (eval iter X.env) (λv s1=>VA (model X.prog X.w) X.A (Zq v) (Nd X pins σ tg R) X.xe s1) X.xe s
theorem AY {M:Zf}{A:VZ}{E:U5->U7->Prop}{s:U7}{tg:Expr}{it:Addr}{u:U5}{o:Obj}{n:String}{vs:Array U5}{Q:Unit->U7->Prop}(ho:s.heap.get? it=some o)(hc:o.cls=.type n)(hd:o.data=.fields vs)
  (hn:["enumerate","zip","dict_itemiterator","dict_reverseitemiterator","odict_iterator","itertools.zip_longest","itertools.pairwise"].contains n=false) (hQ:Q () s):VA M A (Ys tg (.ref it) u) Q E s:=by
 unfold Ys;cases tg <;> first
  |exact Vg hQ
  | (cases u <;> first
    |exact Vg hQ
    | (refine U6 (wpAny_load ho ?_)
       rw[hc,hd];show VA M A (if (["enumerate","zip","dict_itemiterator","dict_reverseitemiterator","odict_iterator","itertools.zip_longest","itertools.pairwise"].contains n&&vs[0]?==some (rawInt _))=true then _ else _) Q E s
       rw[if_neg (by intro h;rw[hn,Bool.false_and]at h;cases h)]
       exact Vg hQ))
def Ni (K:PySem.W.Frag)(a:Addr):It :=
 ⟨λi H=>∃xs x,dh K H a xs/\xs[i]?=some x,λi H x H'=>H'=H/\∀xs,dh K H a xs->xs[i]?=some x,λi H=>∃xs,dh K H a xs/\xs.length<=i⟩
def My (lo:Int)(n:Nat):It:=⟨λi _=>i<n,λi H x H'=>H'=H/\x=.int (lo+i),λi _=>n<=i⟩
theorem wW {P:U_}{w:Vl}{K:PySem.W.Frag}{tg:Expr}(a it:Addr):Turn P w K tg (Ni K a) [it] it (λi h=>h.IsListIter it a i) where
 mem:=by simp
 obj:=λi h st b hb=>by
  have e:b=it:=by simpa using hb
  subst e;obtain⟨o,e,c,d⟩:=st;exact⟨o,e,λv z=>by rw[d]at z;cases z⟩
 keep:=λi h h' st k=>st.at λo e=>k it (by simp) o e
 item:=by
  intro X hP hw hK hc i pins s σ H E I hf st hg;subst hP hw hK;obtain⟨xs,x,hq,hx⟩:=hg;obtain⟨its,rv,p,hz⟩:=I.list hq;obtain⟨u,hu,ru⟩:=rv.get hx;obtain⟨f0,f1,f2,f3,f4,f5⟩:=hf it (by simp)
  refine wpAny_pyNext_list_item st p.isList (x:=u) (by simpa using hu) λh' aC sb=>?_
  have I1:Inv X pins σ H {s with heap:=h'}:=I.turned (t':=s.toks) (λb o hb e=>(sb.2 b hb).trans e) f0 f1 f3 f4 f5
  obtain⟨o,e,c,d⟩:=id aC;exact⟨u,rfl,AY (s:={s with heap:=h'}) e c d (by decide) ⟨x,H,I1,ru,⟨rfl,λys hy=>by rw[I.Ak hy hq];exact hx⟩,aC,λb hb=>(hf b hb).1⟩⟩
 done:=by
  intro X hP hw hK hc i pins s σ H E I hf st hg;subst hP hw hK;obtain⟨xs,hq,hx⟩:=hg;obtain⟨its,rv,p,hz⟩:=I.list hq;obtain⟨f0,f1,f2,f3,f4,f5⟩:=hf it (by simp)
  have hl:=rv.length;exact wpAny_pyNext_list_end (I.ok.hd hc) st p.isList (by simp;lia) λh' eb=>⟨rfl,I.turned (t':=s.toks) (λb o hb e=>eb b o hb e) f0 f1 f3 f4 f5⟩
 self:=λ_ _ _ _ _ st h=>wpAny_pyIter_listiter st h
theorem tY {P:U_}{w:Vl}{K:PySem.W.Frag}{tg:Expr}(it:Addr)(lo:Int)(n:Nat):Turn P w K tg (My lo n) [it] it (λi h=>Zg h it (lo+(i:Nat)*1) ((n:Int)-(i:Nat)) 1) where
 mem:=by simp
 obj:=λi h st b hb=>by
  have e:b=it:=by simpa using hb
  subst e;exact⟨_,st,λv z=>by
   have z':Data.fields _=Data.cell v:=z;cases z'⟩
 keep:=λi h h' st k=>k it (by simp) _ st
 item:=by
  intro X hP hw hK hc i pins s σ H E I hf st hg;subst hP hw hK;obtain⟨f0,f1,f2,f3,f4,f5⟩:=hf it (by simp)
  have W:=Walks.range (prog:=X.prog) (w:=X.w) (I.ok.hd hc) it lo 1 n;refine W.item i s _ _ hg st λv h' tk hv aC kk=>?_;obtain⟨t,rfl⟩:=hv;have I1:Inv X pins σ H {s with heap:=h',toks:=tk}:=I.turned (λb o hb e=>kk b o (by simpa using hb) e) f0 f1 f3 f4 f5
  refine⟨_,rfl,AY (s:={s with heap:=h',toks:=tk}) (n:="range_iterator") aC rfl rfl (by decide) ⟨.int (lo+i),H,I1,⟨t,?_⟩,⟨rfl,rfl⟩,aC,λb hb=>(hf b hb).1⟩⟩
  rw[Int.mul_one]
 done:=by
  intro X hP hw hK hc i pins s σ H E I hf st hg;subst hP hw hK;obtain⟨f0,f1,f2,f3,f4,f5⟩:=hf it (by simp)
  exact wpAny_pyNext_range_end (I.ok.hd hc) st (by have:n<=i:=hg;lia) λh' eb=>⟨rfl,I.turned (t':=s.toks) (λb o hb e=>eb b o hb e) f0 f1 f3 f4 f5⟩
 self:=λ_ _ _ _ _ st h=>wpAny_pyIter_rangeiter st h
section
variable {X:Cx}{tg:Expr}
def J_ (K:PySem.W.Frag)(tl:TE):TI:=λσ H R=>tl σ H λx H1=>∃a,x=.ref a/\(∃xs,dh K H1 a xs)/\R (Ni K a) H1
theorem vL {l:Expr}{tl:TE}(hl:PE X l tl):PI X tg l (J_ X.K tl):=by
 intro pins s σ H R I h;refine bq (hl pins s σ H _ I h) λv s1 ⟨x,H1,I1,r1,q1⟩=>?_;obtain⟨a,e,⟨xs,hq⟩,q⟩:=q1;subst e;cases r1;obtain⟨its,rv,p,hz⟩:=I1.list hq;refine wpAny_pyIter_list p.isList ?_;refine⟨s1.heap.objs.size,[s1.heap.objs.size],_,_,H1,rfl,I1.kept (t':=s1.toks) λb o e=>Vi _ e,wW a _,⟨_,VS _ rfl,rfl,rfl⟩,λb hb=>?_,q⟩;have e:b=s1.heap.objs.size:=by simpa using hb
 subst e;exact I1.A5 (U8 _) (I1.bt.fresh (U8 _))
theorem rA {pins:List (Addr×Obj)}{σ:St}{H:Hp}{s:U7}{R:It->Hp->Prop}{E:U5->U7->Prop}{lo hi:Int}{t u v:Tok}{tk:Nat}(I:Inv X pins σ H s)(h1:-(2 ^ 62)<=lo)(h2:lo<2 ^ 62)(h3:-(2 ^ 62)<=hi)(h4:hi<2 ^ 62)
  (q:R (My lo (hi-lo).toNat) H):VA (model X.prog X.w) X.A (Zq (.ref s.heap.objs.size)) (Nd X pins σ tg R) E {s with heap:=s.heap.push {cls:=.type "range",data:=.fields #[.int lo t,.int hi u,.int 1 v]},toks:=tk}:=by
 refine wpAny_pyIter_range (IsRange.new ..) (small_one h1 h2 h3 h4) ?_;have I1:Inv X pins σ H {s with heap:=s.heap.push {cls:=.type "range",data:=.fields #[.int lo t,.int hi u,.int 1 v]},toks:=tk}:=I.kept λb o e=>Vi _ e
 refine⟨(s.heap.push {cls:=.type "range",data:=.fields #[.int lo t,.int hi u,.int 1 v]}).objs.size,[(s.heap.push {cls:=.type "range",data:=.fields #[.int lo t,.int hi u,.int 1 v]}).objs.size],_,_,H,rfl,
  I1.kept (t':=tk) λb o e=>Vi _ e,tY _ lo (hi-lo).toNat,?_,λb hb=>?_,q⟩
 ·have e1:lo+((0:Nat):Int)*1=lo:=by simp
  have e2:(((hi-lo).toNat:Nat):Int)-((0:Nat):Int)=XB lo hi 1:=by rw[rangeSize_one];split <;> lia
  show Zg _ _ (lo+((0:Nat):Int)*1) ((((hi-lo).toNat:Nat):Int)-((0:Nat):Int)) 1;rw[e1,e2];exact VS _ rfl
 ·have e:b=(s.heap.push {cls:=.type "range",data:=.fields #[.int lo t,.int hi u,.int 1 v]}).objs.size:=by simpa using hb
  subst e;exact I1.A5 (U8 _) (I1.bt.fresh (U8 _))
def J9 (ta:TA):TI:=λσ H R=>ta σ H λvs H1=>∃j:Int,vs=[.int j]/\-(2 ^ 62)<=j/\j<2 ^ 62/\R (My 0 j.toNat) H1
def J8 (ta:TA):TI:=λσ H R=>ta σ H λvs H1=>∃i j:Int,vs=[.int i,.int j]/\(-(2 ^ 62)<=i/\i<2 ^ 62/\-(2 ^ 62)<=j/\j<2 ^ 62)/\R (My i (j-i).toNat) H1
theorem xv {a:Expr} {ta:TA} {p pos:Pos} (hg:Gl X "range") (hm:X.mg "range" = none) (ha:PA X [a] ta) (hs:Vd [a] X.env=[(false,eval a X.env)]:=by rfl):PI X tg (.Call (.Name "range" p) [a] [] pos) (J9 ta):=by
 intro pins s σ H R I h;refine Call_ (iC I hg hm boot_range (WJ (bq (ha pos pins s σ H _ I h) λus s1 ⟨vs,H1,I1,r1,q1⟩=>?_) hs rfl));obtain⟨j,e,q1,q2,q⟩:=q1;subst e;cases r1 with
 |cons r rr =>
  cases rr;obtain⟨t,rfl⟩:=r;exact call_range_1 (rA I1 (by lia) (by lia) q1 q2 (by simpa using q))
theorem nR {a b:Expr} {ta:TA} {p pos:Pos} (hg:Gl X "range") (hm:X.mg "range" = none) (ha:PA X [a,b] ta) (hs:Vd [a,b] X.env=[(false,eval a X.env),(false,eval b X.env)]:=by rfl) (xU:Vd [b] X.env=[(false,eval b X.env)]:=by rfl) :
  PI X tg (.Call (.Name "range" p) [a,b] [] pos) (J8 ta):=by
 intro pins s σ H R I h;refine Call_ (iC I hg hm boot_range (WJ (bq (ha pos pins s σ H _ I h) λus s1 ⟨vs,H1,I1,r1,q1⟩=>?_) (by rw[hs,xU]) (by rw[xU];rfl)))
 obtain⟨i,j,e,⟨q1,q2,q3,q4⟩,q⟩:=q1;subst e;cases r1 with
 |cons r rr =>
  cases rr with
  |cons r' rr =>
   cases rr;obtain⟨t,rfl⟩:=r;obtain⟨t',rfl⟩:=r';exact call_range_2 (rA I1 q1 q2 q3 q4 q)
def NQ (wi:TI)(g:TG)(tb:TS):TS:=λD σ H=>wi σ H λJ H1=>∃W:Nat->Nat->St->Hp->Prop,(∃m,W 0 m σ H1)/\∀i m σ H,W i m σ H ->
 (J.stop i H/\D.nx σ H)\/(J.go i H/\∃N:St->Hp->Prop,(∀σ' H',N σ' H'->∃m',m'<m/\W (i+1) m' σ' H')/\∀x H',J.IK i H x H'->g x σ H' λσ2 H2=>tb {D with nx:=N,ct:=N,bk:=D.nx} σ2 H2)
def lM (fp:List Addr)(h:Heap):List (Addr×Obj):=fp.filterMap λb=>(h.get? b).map λo=>(b,o)
theorem fQ {fp:List Addr}{h:Heap}{b:Addr}{o:Obj}(hb:b∈fp)(e:h.get? b=some o):(b,o)∈lM fp h:=YU.mpr ⟨b,hb,by rw[e];rfl⟩
theorem xC {fp:List Addr}{h:Heap}{p:Addr×Obj}(hp:p∈lM fp h):p.1∈fp/\h.get? p.1=some p.2:=by
 obtain⟨b,hb,e⟩:=YU.mp hp;cases q:h.get? b with
 |none=>rw[q]at e;cases e
 |some o =>
  rw[q]at e;have e':(b,o)=p:=VX e;subst e';exact⟨hb,q⟩
theorem Inv.pinned {pins:List (Addr×Obj)}{σ:St}{H:Hp}{s:U7}{fp:List Addr}(I:Inv X pins σ H s)(hf:∀b∈fp,gP X pins H b)(ho:∀b∈fp,∃o,s.heap.get? b=some o/\∀v,o.data≠.cell v):Inv X (pins++lM fp s.heap) σ H s :=
 I.vK λp hp=>(VC.mp hp).elim (λz=>I.pin p (VM _ z)) λz=>by
  obtain⟨hb,e⟩:=xC z;obtain⟨f0,f1,f2,_⟩:=hf p.1 hb;obtain⟨o,e',d⟩:=ho p.1 hb;rw[e]at e';cases e';exact⟨e,f0,f1,f2,d⟩
theorem Inv.iS {pins pl:List (Addr×Obj)}{σ:St}{H:Hp}{s:U7}(I:Inv X (pins++pl) σ H s):Inv X pins σ H s:=I.vK λp hp=>I.pin p (VM _ (WG _ hp))
theorem zA {iter:Expr}{body:List Stmt}{wi:TI}{g:TG}{tb:TS}{pos:Pos}(hp:Za (model X.prog X.w) X.A X.env X.xe)(hc:X.calm=true)(hi:PI X tg iter wi)(hg:PG X tg g)(hb:qI X body tb)
  (hs:∀x,V0 iter X.env x=pure x:=by intro _;rfl):PS X (.For tg iter body [] pos) (NQ wi g tb):=by
 intro pins s σ H D I h;refine wpAny_For (bq (hi pins s σ H _ I h) λv s1 h1=>bq h1 λED s2 h2=>?_) hs;obtain⟨it,fp,tn,J,H2,e,I2,T,fY,f2,W,⟨m0,w0⟩,turn⟩:=h2;subst e;have t6:∀{H':Hp},(∀b∈fp,H' b=none)->∀b∈fp,gP X pins H' b:=λhn b hb=>⟨hn b hb,(f2 b hb).2⟩;refine codeAny_forLoop_any (λn s'=>∃i σ' H',Inv X pins σ' H' s'/\tn i s'.heap/\(∀b∈fp,H' b=none)/\W i n σ' H') ?_ m0 ⟨0,σ,H2,I2,fY,λb hb=>(f2 b hb).1,w0⟩;rintro n s3 ⟨i,σ3,H3,I3,lD,LP,w3⟩;rcases turn i n σ3 H3 w3 with⟨stop,qn⟩|⟨go,N,hN,step⟩
 ·refine W6 hp (bq (T.done X rfl rfl rfl hc i pins s3 σ3 H3 X.xe I3 (t6 LP) lD stop) λr s4 ⟨hr,I4⟩=>?_);subst hr;exact Xw ⟨σ3,H3,I4,qn⟩
 ·refine W6 hp (bq (T.item X rfl rfl rfl hc i pins s3 σ3 H3 X.xe I3 (t6 LP) lD go) λr s4 ⟨u,hr,h4⟩=>?_);subst hr;refine W6 hp (bq h4 λ_ s5 ⟨x,H5,I5,r5,y5,Fs,PL⟩=>?_);have Qm:=I5.pinned (t6 PL) (T.obj _ _ Fs);refine W6 hp (bq (hg _ s5 σ3 H5 x u _ Qm r5 (step x H5 y5)) λ_ s6 ⟨σ6,H6,I6,q6⟩=>?_);refine W6 hp (bq (hb _ s6 σ6 H6 _ I6 q6) λf s7 q7=>?_);have again:∀{σ7:St} {H7:Hp},Inv X (pins++lM fp s5.heap) σ7 H7 s7->N σ7 H7->∃m,m<n/\∃i σ' H',Inv X pins σ' H' s7/\tn i s7.heap/\(∀b∈fp,H' b=none)/\W i m σ' H':=λ{σ7 H7} I7 n7=>by
   obtain⟨m',hm,w7⟩:=hN σ7 H7 n7;refine⟨m',hm,i+1,σ7,H7,I7.iS,T.keep _ _ _ Fs λb hb o e=>(I7.pin (b,o) (VM _ (VM _ (fQ hb e)))).1,λb hb=>?_,w7⟩;obtain⟨o,e,d⟩:=T.obj _ _ Fs b hb;exact(I7.pin (b,o) (VM _ (VM _ (fQ hb e)))).2.1
  cases f with
  |next=>obtain⟨σ7,H7,I7,n7⟩:=q7;exact again I7 n7
  |cont=>obtain⟨σ7,H7,I7,n7⟩:=q7;exact again I7 n7
  |brk=>obtain⟨σ7,H7,I7,q7⟩:=q7;exact⟨σ7,H7,I7.iS,q7⟩
  |ret v=>obtain⟨x7,σ7,H7,I7,r7,q7⟩:=q7;exact⟨x7,σ7,H7,I7.iS,r7,q7⟩
end
abbrev R2:=V->V->Hp->VK->Prop
def h8 (X:Cx)(f:U5->U5->Sem U5)(r:R2):Prop :=
 ∀(pins:List (Addr×Obj)) (s:U7) (σ:St) (H:Hp) (x y:V) (v u:U5) (Q:VK),Inv X pins σ H s->RelV x v->RelV y u->r x y H Q ->
  VA (model X.prog X.w) X.A (f v u) (EP X pins σ Q) X.xe s
def Mm (X:Cx)(f:U5->Sem U5)(r:V->Hp->VK->Prop):Prop :=
 ∀(pins:List (Addr×Obj)) (s:U7) (σ:St) (H:Hp) (x:V) (v:U5) (Q:VK),Inv X pins σ H s->RelV x v->r x H Q ->
  VA (model X.prog X.w) X.A (f v) (EP X pins σ Q) X.xe s
def fF (X:Cx)(f:U5)(r:List V->Hp->VK->Prop):Prop :=
 ∀(pins:List (Addr×Obj)) (s:U7) (σ:St) (H:Hp) (xs:List V) (us:List U5) (Q:VK),Inv X pins σ H s->Vals xs us->r xs H Q ->
  VA (model X.prog X.w) X.A (call f us) (EP X pins σ Q) X.xe s
def Qe (X:Cx)(r:V->Hp->(Bool->Hp->Prop)->Prop):Prop :=
 ∀(pins:List (Addr×Obj)) (s:U7) (σ:St) (H:Hp) (x:V) (v:U5) (Q:Bool->Hp->Prop),Inv X pins σ H s->RelV x v->r x H Q ->
  VA (model X.prog X.w) X.A (truthy v) (TP X pins σ Q) X.xe s
def I_ (r:R2)(ta tb:TE):TE:=λσ H Q=>ta σ H λx H1=>tb σ H1 λy H2=>r x y H2 Q
def RN (r:V->Hp->VK->Prop)(ta:TE):TE:=λσ H Q=>ta σ H λx H1=>r x H1 Q
def rI (C:Int->Int->Prop)(g:Int->Int->V):R2:=λx y H Q=>∃i j,x=.int i/\y=.int j/\C i j/\Q (g i j) H
def xn (g:Int->Int->V):R2:=λx y H Q=>∃i j,x=.int i/\y=.int j/\Q (g i j) H
def rU (g:Int->V):V->Hp->VK->Prop:=λx H Q=>∃i,x=.int i/\Q (g i) H
section
variable {X:Cx}{a b:Expr}{ta tb:TE}{pos:Pos}
theorem HY (ha:PE X a ta)(hb:PE X b tb){pins:List (Addr×Obj)}{s:U7}{σ:St}{H:Hp}{R:V->V->Hp->Prop}(I:Inv X pins σ H s)
  (h:ta σ H λx H1=>tb σ H1 λy H2=>R x y H2) {Q:U5->U7->Prop} {f:U5->U5->Sem U5}
  (hf:∀v u s2 x y H2,Inv X pins σ H2 s2->RelV x v->RelV y u->R x y H2->VA (model X.prog X.w) X.A (f v u) Q X.xe s2) :
  VA (model X.prog X.w) X.A (eval a X.env) (λv s₁=>VA (model X.prog X.w) X.A (eval b X.env) (λu s₂=>VA (model X.prog X.w) X.A (f v u) Q X.xe s₂) X.xe s₁) X.xe s:=by
 refine bq (ha pins s σ H _ I h) λv s1 ⟨x,H1,I1,r1,q1⟩=>?_;refine bq (hb pins s1 σ H1 _ I1 q1) λu s2 ⟨y,H2,I2,r2,q2⟩=>?_;exact hf v u s2 x y H2 I2 r1 r2 q2
theorem b9 {op:Zs}{r:R2}(ho:h8 X (WR op) r)(ha:PE X a ta)(hb:PE X b tb):PE X (.BinOp a op b pos) (I_ r ta tb):=by
 intro pins s σ H Q I h;exact wpAny_BinOp (HY ha hb I h λv u s2 x y H2 I2 rx ry q=>ho pins s2 σ H2 x y v u Q I2 rx ry q)
theorem En {op:UnaryOp}{r:V->Hp->VK->Prop}(ho:Mm X (unaryOp op) r)(ha:PE X a ta):PE X (.UnaryOp op a pos) (RN r ta):=by
 intro pins s σ H Q I h;exact UnaryOp_ (bq (ha pins s σ H _ I h) λv s1 uK=> by obtain⟨x,H1,I1,r1,q1⟩ := uK;exact ho pins s1 σ H1 x v Q I1 r1 q1)
theorem MN {f:U5->U5->Sem U5}{C:Int->Int->Prop}{g:Int->Int->Int}
  (rule:∀(i j:Int) (t u:Tok) (s:U7) (Q:U5->U7->Prop) (E:U5->U7->Prop),C i j->Q (.int (g i j) s.toks) {s with toks:=s.toks+1}->VA (model X.prog X.w) X.A (f (.int i t) (.int j u)) Q E s) :
  h8 X f (rI C λi j=>.int (g i j)):=by
 intro pins s σ H x y v u Q I rx ry h;obtain⟨i,j,rfl,rfl,hc,q⟩:=h;obtain⟨t,rfl⟩:=rx;obtain⟨t',rfl⟩:=ry;exact rule i j t t' s _ _ hc ⟨.int (g i j),H,I.tok _,⟨_,rfl⟩,q⟩
theorem C2 {f:U5->U5->Sem U5}{g:Int->Int->Int}
  (rule:∀(i j:Int) (t u:Tok) (s:U7) (Q:U5->U7->Prop) (E:U5->U7->Prop),Q (.int (g i j) s.toks) {s with toks:=s.toks+1}->VA (model X.prog X.w) X.A (f (.int i t) (.int j u)) Q E s) :
  h8 X f (xn λi j=>.int (g i j)):=by
 intro pins s σ H x y v u Q I rx ry h;obtain⟨i,j,rfl,rfl,q⟩:=h;obtain⟨t,rfl⟩:=rx;obtain⟨t',rfl⟩:=ry;exact rule i j t t' s _ _ ⟨.int (g i j),H,I.tok _,⟨_,rfl⟩,q⟩
theorem Gb {f:U5->U5->Sem U5}{g:Int->Int->Bool}
  (rule:∀(i j:Int) (t u:Tok) (s:U7) (Q:U5->U7->Prop) (E:U5->U7->Prop),Q (.bool (g i j)) s->VA (model X.prog X.w) X.A (f (.int i t) (.int j u)) Q E s) :
  h8 X f (xn λi j=>.bl (g i j)):=by
 intro pins s σ H x y v u Q I rx ry h;obtain⟨i,j,rfl,rfl,q⟩:=h;obtain⟨t,rfl⟩:=rx;obtain⟨t',rfl⟩:=ry;exact rule i j t t' s _ _ ⟨.bl (g i j),H,I,rfl,q⟩
def yy (i j:Int):Prop:=0<=j/\j<=1000000/\i.natAbs<2 ^ 64
def mM (i j:Int):Prop:=(-(2 ^ 64)<i/\i<2 ^ 64)\/(-(2 ^ 64)<j/\j<2 ^ 64)
theorem mM.ok {i j:Int}(h:mM i j):IntMulOk i j:=by
 rcases h with⟨h1,h2⟩|⟨h1,h2⟩
 ·exact .of_left (intBits_le_64 h1 h2)
 ·exact .of_right (intBits_le_64 h1 h2)
theorem pQ:h8 X (WR .Add) (xn λi j=>.int (i+j)):=C2 λ_ _ _ _ _ _ _ q=>add_int q
theorem zT:h8 X (WR .Sub) (xn λi j=>.int (i-j)):=C2 λ_ _ _ _ _ _ _ q=>sub_int q
theorem jI:h8 X (WR .Mult) (rI mM λi j=>.int (i*j)):=MN λ_ _ _ _ _ _ _ hc q=>mul_int q hc.ok
theorem gE:h8 X (WR .Mod) (rI (λ_ j=>0<j) λi j=>.int (i % j)):=MN λi j _ _ _ _ _ hc q=>by
 have h1:(0:Int)<j:=hc;exact mod_int' (by lia) (by rw[Int.fmod_eq_emod_of_nonneg i (by lia)];exact q)
theorem zU:h8 X (WR .Pow) (rI yy λi j=>.int (i ^ j.toNat)):=MN λ_ _ _ _ _ _ _ hc q=>pow_int_small hc.1 hc.2.1 hc.2.2 q
theorem Dq:h8 X (Y_ .Add) (xn λi j=>.int (i+j)):=C2 λ_ _ _ _ _ _ _ q=>iadd_int q
theorem wd:h8 X (Y_ .Sub) (xn λi j=>.int (i-j)):=C2 λ_ _ _ _ _ _ _ q=>isub_int q
theorem RM {f:U5->Sem U5}{g:Int->Int}
  (rule:∀(i:Int) (t:Tok) (s:U7) (Q:U5->U7->Prop) (E:U5->U7->Prop),Q (.int (g i) s.toks) {s with toks:=s.toks+1}->VA (model X.prog X.w) X.A (f (.int i t)) Q E s) :
  Mm X f (rU λi=>.int (g i)):=by
 intro pins s σ H x v Q I rx h;obtain⟨i,rfl,q⟩:=h;obtain⟨t,rfl⟩:=rx;exact rule i t s _ _ ⟨.int (g i),H,I.tok _,⟨_,rfl⟩,q⟩
theorem yN:Mm X (unaryOp .USub) (rU λi=>.int (-i)):=RM λ_ _ _ _ _ q=>neg_int q
end
section
variable {X:Cx}{a b c:Expr}{ta tb:TE}{pos:Pos}
theorem A8 {pins:List (Addr×Obj)}{σ:St}{H:Hp}{s:U7}{Q:VK}{k k':Bool}(I:Inv X pins σ H s)(q:Q (.bl k) H)(e:k=k'):EP X pins σ Q (.bool k') s:=by
 subst e;exact⟨.bl k,H,I,rfl,q⟩
theorem zV:h8 X (VN .Lt) (xn λi j=>.bl (decide (i<j))):=Gb λ_ _ _ _ _ _ _ q=>lt_int q
theorem Er:h8 X (VN .LtE) (xn λi j=>.bl (decide (i<=j))):=Gb λ_ _ _ _ _ _ _ q=>le_int q
theorem zW:h8 X (VN .Gt) (xn λi j=>.bl (decide (j<i))):=Gb λ_ _ _ _ _ _ _ q=>gt_int q
theorem Ga:h8 X (VN .Is) (λx y H Q=>y=.cO/\Q (.bl (decide (x=.cO))) H):=by
 intro pins s σ H x y v u Q I rx ry h;obtain⟨rfl,q⟩:=h;cases ry;refine is_none_gen (A8 I q ?_);cases x <;> first
  | (cases rx;rfl)
  | (obtain⟨t,rfl⟩:=rx;rfl)
theorem CZ:h8 X (VN .IsNot) (λx y H Q=>y=.cO/\Q (.bl (!decide (x=.cO))) H):=by
 intro pins s σ H x y v u Q I rx ry h;obtain⟨rfl,q⟩:=h;cases ry;refine isnot_none_gen (A8 I q ?_);cases x <;> first
  | (cases rx;rfl)
  | (obtain⟨t,rfl⟩:=rx;rfl)
theorem Ab (b:Expr){op:XS}(h:op≠.In:=by decide)(h2:op≠.NotIn:=by decide):W8 op b=false:=by
 have e1:(op==CmpOp.In)=false:=by cases op <;> first|rfl|exact absurd rfl h
 have e2:(op==CmpOp.NotIn)=false:=by cases op <;> first|rfl|exact absurd rfl h2
 cases b <;> simp[W8,e1,e2]
theorem CN {op:XS}{r:R2}(ho:h8 X (VN op) r)(ha:PE X a ta)(hb:PE X b tb)(hm:W8 op b=false):PE X (.Compare a [op] [b] pos) (I_ r ta tb):=by
 intro pins s σ H Q I h;exact wpAny_Compare1 (HY ha hb I h λv u s2 x y H2 I2 rx ry q=>ho pins s2 σ H2 x y v u Q I2 rx ry q) hm
def IZ (t:TE):TT:=λσ H Q=>t σ H λx H'=>∃k,x=.bl k/\Q k H'
theorem pF {op:XS}{r:R2}(ho:h8 X (VN op) r)(ha:PE X a ta)(hb:PE X b tb)(hm:W8 op b=false):PT X (.Compare a [op] [b] pos) (IZ (I_ r ta tb)):=by
 intro pins s σ H Q I h;refine wpAny_isTrue_Compare1 (bq (ha pins s σ H _ I h) λv s1 ⟨x,H1,I1,r1,q1⟩=>bq (hb pins s1 σ H1 _ I1 q1) λu s2 ⟨y,H2,I2,r2,q2⟩ =>
  bq (ho pins s2 σ H2 x y v u _ I2 r1 r2 q2) λc s3 ⟨z,H3,I3,r3,k,e,q3⟩=>?_) hm
 subst e;cases r3;exact WQ ⟨H3,I3,q3⟩
def Mn (K:PySem.W.Frag)(x:V)(H:Hp)(k:Bool):Prop :=
 match x with
 |.cO=>k=false
 |.bl b=>k=b
 |.int i=>k=(i != 0)
 |.str y=>y.length<=Vh/\k=((y.length:Int) != 0)
 |.Mf y=>y.size<=Vh/\k=((y.size:Int) != 0)
 |.ref p=>(∃xs,dh K H p xs/\k=!xs.isEmpty)\/(∃xs,qH K H p xs/\k=!xs.isEmpty)\/∃bb,H p=some (.dK bb)/\k=!bb.isEmpty
 |_=>False
theorem uG {κ:Type}{bb:List (κ×V)}{vs:List (κ×U5)}(r:KV bb vs):(!vs.isEmpty)=!bb.isEmpty:=by
 cases r <;> rfl
theorem md {xs:List V}{its:List U5}(r:Vals xs its):(!its.toArray.isEmpty)=!xs.isEmpty:=by
 cases r <;> simp
theorem l3:(Vh:Nat)<2 ^ 63:=by rw[Wm];decide
theorem Fm:Qe X (λx H Q=>∃k,Mn X.K x H k/\Q k H):=by
 intro pins s σ H x v Q I rx h;obtain⟨k,e,q⟩:=h;have hl:=l3;have hs:Vh=16777216:=Wm;cases x with
 |cO =>
  cases rx;have e':k=false:=e;subst e';exact truthy_none ⟨H,I,q⟩
 |bl b =>
  cases rx;have e':k=b:=e;subst e';exact WQ ⟨H,I,q⟩
 |int i =>
  obtain⟨t,rfl⟩:=rx;have e':k=(i != 0):=e;subst e';exact PySem.P.truthy_int ⟨H,I,q⟩
 |str y =>
  obtain⟨t,rfl⟩:=rx;obtain⟨hy,e'⟩:y.length<=Vh/\k=((y.length:Int) != 0):=e;subst e';exact PySem.P.truthy_str (by lia) ⟨H,I.tok _,q⟩
 |Mf y =>
  obtain⟨t,rfl⟩:=rx;obtain⟨hy,e'⟩:y.size<=Vh/\k=((y.size:Int) != 0):=e;subst e';exact PySem.W.truthy_bytes (by lia) ⟨H,I.tok _,q⟩
 |ref p =>
  cases rx;have e':(∃xs,dh X.K H p xs/\k=!xs.isEmpty)\/(∃xs,qH X.K H p xs/\k=!xs.isEmpty)\/∃bb,H p=some (.dK bb)/\k=!bb.isEmpty:=e;rcases e' with⟨xs,hx,e'⟩|⟨xs,hx,e'⟩|⟨bb,hx,e'⟩
  ·subst e';obtain⟨its,r,pl,hz⟩:=I.list hx;have hlen:=r.length;exact wpAny_truthy_list pl.isList (by simp only[Vs];lia) ⟨H,I.tok _,by rw[md r];exact q⟩
  ·subst e';obtain⟨its,r,pl,hz⟩:=I.tuple hx;have hlen:=r.length;exact truthy_tuple pl (by simp only[Vs];lia) ⟨H,I.tok _,by rw[md r];exact q⟩
  ·subst e';obtain⟨hz,hS,vs,r,m⟩:bb.length<=Vh/\(p==WK)=false/\∃vs,KV bb vs/\s.heap.DictOf (bR X.prog X.w) p vs:=I.bt p _ hx;have hlen:bb.length=vs.length:=Paired.length r;exact wpAny_truthy_dict hS m (by lia) ⟨H,I.tok _,by rw[uG r];exact q⟩
 |_=>exact(show False from e).elim
theorem zt (ha:PE X a ta)(he:∀whole,Y9 a X.env whole=(do let v <- whole;YI a.pos;holding [v] (truthy v))):
  PT X a (λσ H Q=>ta σ H λx H'=>∃k,Mn X.K x H' k/\Q k H'):=by
 intro pins s σ H Q I h;exact isTrue_plain (bq (ha pins s σ H _ I h) λv s1 Hc=> by obtain⟨x,H1,I1,r1,q1⟩ := Hc;exact Fm pins s1 σ H1 x v Q I1 r1 q1) (he _)
theorem vals1 {x:V}{us:List U5}(r:Vals [x] us):∃u,us=[u]/\RelV x u:=by
 cases r with
 |cons r1 r2=>cases r2;exact⟨_,rfl,r1⟩
theorem vals2 {x y:V}{us:List U5}(r:Vals [x,y] us):∃u w',us=[u,w']/\RelV x u/\RelV y w':=by
 cases r with
 |cons r1 r2 =>
  cases r2 with
  |cons r3 r4=>cases r4;exact⟨_,_,rfl,r1,r3⟩
theorem oP (hc:X.calm=true):fF X (.builtin "max") (λxs H Q=>∃i j,xs=[.int i,.int j]/\Q (.int (if j>i then j else i)) H):=by
 intro pins s σ H xs us Q I r h;obtain⟨i,j,rfl,q⟩:=h;obtain⟨u,w',rfl,⟨t,rfl⟩,⟨t',rfl⟩⟩:=vals2 r;refine max_two_ints (I.ok.hd hc) λh' tk k=>⟨_,H,I.kept k,?_,q⟩
 by_cases hj:j>i
 ·rw[if_pos hj,if_pos hj];exact⟨_,rfl⟩
 ·rw[if_neg hj,if_neg hj];exact⟨_,rfl⟩
theorem ym (hc:X.calm=true):fF X (.builtin "min") (λxs H Q=>∃i j,xs=[.int i,.int j]/\Q (.int (if j<i then j else i)) H):=by
 intro pins s σ H xs us Q I r h;obtain⟨i,j,rfl,q⟩:=h;obtain⟨u,w',rfl,⟨t,rfl⟩,⟨t',rfl⟩⟩:=vals2 r;refine min_two_ints (I.ok.hd hc) λh' tk k=>⟨_,H,I.kept k,?_,q⟩
 by_cases hj:j<i
 ·rw[if_pos hj,if_pos hj];exact⟨_,rfl⟩
 ·rw[if_neg hj,if_neg hj];exact⟨_,rfl⟩
theorem oQ:fF X (.type "int") (λxs H Q=>(∃i,xs=[.int i]/\Q (.int i) H)\/∃k,xs=[.bl k]/\Q (.int (if k then 1 else 0)) H):=by
 intro pins s σ H xs us Q I r h;rcases h with⟨i,rfl,q⟩|⟨k,rfl,q⟩
 ·obtain⟨u,rfl,t,rfl⟩:=vals1 r;exact call_int_int ⟨.int i,H,I,⟨_,rfl⟩,q⟩
 ·obtain⟨u,rfl,r1⟩:=vals1 r;cases r1;exact call_int_bool ⟨.int (if k then 1 else 0),H,I.tok _,⟨_,rfl⟩,q⟩
end
section
end
section
end
section
end
section
end
section
end
structure cf (k:Nat)(A:VZ):Prop where
 hd:A.handled=none
 dp:A.depth+3*k+5<recursionLimit
 un:A.units+16*k+200<X0
theorem cf.mono {j k:Nat}{A:VZ}(r:cf k A)(h:j<=k):cf j A:=⟨r.hd,by have:=r.dp;lia,by have:=r.un;lia⟩
theorem cf.deeper {k:Nat}{A:VZ}(r:cf (k+1) A)(env:Env):cf k (A.deeper env) :=
 ⟨r.hd,by have:=r.dp;show A.depth+1+3*k+5<_;lia,by have:=r.un;show A.units+3+16*k+200<_;lia⟩
theorem cf.depth {k:Nat}{A:VZ}(r:cf k A):A.depth<recursionLimit:=by have:=r.dp;lia
theorem cf.units {k:Nat}{A:VZ}(r:cf k A):A.units+64<X0:=by have:=r.un;lia
theorem cf.o_ {k:Nat}{A:VZ}(r:cf k A):A.units<X0:=by have:=r.un;lia
def Ja:TA:=λ_ H Q=>Q [] H
def Eg (ta:TE)(tr:TA):TA:=λσ H Q=>ta σ H λx H1=>tr σ H1 λxs H2=>Q (x::xs) H2
section
variable {X:Cx}{e:Expr}{es:List Expr}{te:TE}{t:TA}{pos:Pos}
theorem cZ:PA X [] Ja:=λ_ _ _ _ H Q I h=>Calls.spliced_nil ⟨[],H,I,.nil,h⟩
theorem ba (ha:PE X e te)(hr:PA X es t)(hs:Vd (e::es) X.env=(false,eval e X.env)::Vd es X.env:=by rfl):PA X (e::es) (Eg te t):=by
 intro pos pins s σ H Q I h;rw[hs];show VA _ _ (spliced ((false,eval e X.env)::Wt pos (Vd es X.env))) _ _ s;refine Calls.spliced_cons (bq (ha pins s σ H _ I h) λu s1 ⟨x,H1,I1,r1,q1⟩=>?_);exact bq (hr pos pins s1 σ H1 _ I1 q1) λus s2 ⟨xs,H2,I2,r2,q2⟩=>⟨x::xs,H2,I2,.cons r1 r2,q2⟩
def ND (t:TA):TE:=λσ H Q=>t σ H λxs H1=>xs.length<=Vh/\∀p,H1 p=none->Q (.ref p) (upd H1 p (.tup xs))
def NO (t:TA):TE:=λσ H Q=>t σ H λxs H1=>xs.length<=Vh/\∀p,H1 p=none->Q (.ref p) (upd H1 p (.lst xs))
theorem zK {x1}(h:PA X es t):PE X (.Tuple es x1 pos) (ND t):=by
 intro pins s σ H Q I hq;refine wpAny_Tuple_spliced (bq (h pos pins s σ H _ I hq) λus s1 ⟨xs,H1,I1,r,z,q⟩=>⟨by rw[<- r.length];exact z,?_⟩)
 have hf:H1 s1.heap.objs.size=none:=I1.bt.fresh (U8 _);refine⟨.ref s1.heap.objs.size,upd H1 s1.heap.objs.size (.tup xs),I1.laid (t':=s1.toks) (λb u e=>Vi _ e) (U8 _) ?_,rfl,q _ hf⟩;exact⟨z,us,r,⟨_,VS _ rfl,rfl,_,rfl⟩⟩
theorem ur (h:PA X es t):PE X (.List es pos) (NO t):=by
 intro pins s σ H Q I hq;refine wpAny_List_spliced (bq (h pos pins s σ H _ I hq) λus s1 ⟨xs,H1,I1,r,z,q⟩=>⟨by rw[<- r.length];exact z,?_⟩)
 have hf:H1 s1.heap.objs.size=none:=I1.bt.fresh (U8 _);refine⟨.ref s1.heap.objs.size,upd H1 s1.heap.objs.size (.lst xs),I1.laid (t':=s1.toks) (λb u e=>Vi _ e) (U8 _) ?_,rfl,q _ hf⟩;exact⟨z,us,0,r,VS _ rfl⟩
end
abbrev Sp:=List V->Hp->VK->XK->Prop
abbrev yx:=List Env->Hp->U7->XK->U5->U7->Prop
structure Eb (P:U_)(w:Vl)(K:PySem.W.Frag)(mg:Str->Option U5)(base:Heap)(A:VZ)(outer:List Env)(s:U7)(H:Hp):Prop where
 frames:A.frames=some outer
 mod:Mod K mg base
 bs:∀b o,base.get? b=some o->s.heap.get? b=some o/\H b=none
 BF:base.objs.size<=s.heap.objs.size
 jk:s.heap.FunFrames base outer
 DI:∀b∈gm outer,H b=none
 bt:gi P w H s.heap
 bare:Ye s.gens
def CE (outer:List Env)(P:U_)(w:Vl)(H:Hp)(s:U7)(Q:VK)(u:U5)(s':U7):Prop :=
 ∃v H',s'.os=s.os/\Ye s'.gens/\Un (gm outer) [] H H' s.heap s'.heap/\gi P w H' s'.heap/\RelV v u/\Q v H'
def CR (CX:yx)(outer:List Env)(P:U_)(w:Vl)(H:Hp)(s:U7)(Q:VK)(E:XK)(r:Result)(s':U7):Prop :=
 match r with
 |.ok (.ret u)=>CE outer P w H s Q u s'
 |.ok _=>False
 |.error e=>CX outer H s E e s'
structure aD (P:U_)(w:Vl)(K:PySem.W.Frag)(mg:Str->Option U5)(base:Heap)(CX:yx)(k:Nat)(f:Addr)(fd:VE)(ps:List Str)(sp:Sp):Prop where
 len:∀vs H Q E,sp vs H Q E->vs.length=ps.length
 run:∀(A:VZ) (outer:List Env) (s:U7) (H:Hp) (args:Args) (us:List U5) (vs:List V) (Q:VK) (E:XK),cf k A->Eb P w K mg base A outer s H->BindsTo s fd args (ps.zip us)->Vals vs us->sp vs H Q E ->
  Yp (model P w) A (.call (.ref f) args) (CR CX outer P w H s Q E) s
theorem aD.imp {P:U_}{w:Vl}{K:PySem.W.Frag}{mg:Str->Option U5}{base:Heap}{CX:yx}{k:Nat}{f:Addr}{fd:VE}{ps:List Str}{sp Qy:Sp}(F:aD P w K mg base CX k f fd ps sp)
  (h:∀vs H Q E,Qy vs H Q E->sp vs H Q E):aD P w K mg base CX k f fd ps Qy :=
 ⟨λvs H Q E q=>F.len vs H Q E (h _ _ _ _ q),λA outer s H args us vs Q E hr he hb hv hs=>F.run A outer s H args us vs Q E hr he hb hv (h _ _ _ _ hs)⟩
section
variable {X:Cx}{pins:List (Addr×Obj)}{σ:St}{H:Hp}{s s':U7}
theorem Inv.LS (I:Inv X pins σ H s):Eb X.prog X.w X.K X.mg X.base X.A X.stack s H :=
 ⟨I.ok.frames,I.ok.mod,I.bs,Vy I.ok.BF I.sz,I.stack,I.pq,I.bt,I.bare⟩
theorem Inv.after {Q:VK}{u:U5}(I:Inv X pins σ H s)(h:CE X.stack X.prog X.w H s Q u s'):EP X pins σ Q u s':=by
 obtain⟨v,H',os,bare,un,bt,r,q⟩:=h;obtain⟨hh,g,d,t,Sj⟩:=s';obtain rfl:Sj=s.os:=os;exact⟨v,H',I.call (h':=hh) (g':=g) (d':=d) (t':=t) (ch:=[]) un bt bare (λb z=>absurd z (by simp)),r,q⟩
end
def Je (sp:Sp)(ET:List V)(E:XK)(t:TA):TE:=λσ H Q=>t σ H λvs H1=>sp (vs++ET) H1 Q E
def Binds (K:PySem.W.Frag)(fd:VE)(ps:List Str)(ds:List U5):Prop :=
 ∀(s:U7) (us:List U5),K.In s.heap->(us++ds).length=ps.length->BindsTo s fd ⟨us,[]⟩ (ps.zip (us++ds))
theorem Binds.all {K:PySem.W.Frag}{fd:VE}{ps:List Str}(h:∀us:List U5,us.length=ps.length->bindArgs fd ⟨us,[]⟩=pure (ps.zip us)):Binds K fd ps []:=λs us _ hl=>by
 rw[Ws]at hl ⊢
 exact .of_eq (h us hl)
def Passes (CX:yx)(X:Cx)(E:XK):Prop:=∀(pins:List (Addr×Obj)) (σ:St) (H:Hp) (s:U7) (e:U5) (s':U7),Inv X pins σ H s->CX X.stack H s E e s'->X.xe e s'
section
variable {X:Cx}{CX:yx}{k:Nat}{f:Addr}{fd:VE}{ps:List Str}{sp:Sp}{ET:List V}{ds:List U5}{E:XK}{x:Str}{p pos:Pos}{e:Expr}{es:List Expr}{t:TA}
theorem FF {pins:List (Addr×Obj)}{σ:St}{H:Hp}{s:U7}{Q:VK}{us:List U5}{vs:List V}(F:aD X.prog X.w X.K X.mg X.base CX k f fd ps sp)(hr:cf k X.A)(hb:Binds X.K fd ps ds)(hd:Vals ET ds)(hx:Passes CX X E)
  (I:Inv X pins σ H s) (r:Vals vs us) (h:sp (vs++ET) H Q E):VA (model X.prog X.w) X.A (call (.ref f) us) (EP X pins σ Q) X.xe s:=by
 have r2:Vals (vs++ET) (us++ds):=r.append hd;have hl:(us++ds).length=ps.length:=by rw[<- r2.length];exact F.len _ _ _ _ h
 refine YS (XE (F.run X.A X.stack s H ⟨us,[]⟩ (us++ds) (vs++ET) Q E hr I.LS (hb s us I.yA hl) r2 h) λr s' hq=>?_);cases r with
 |error e=>exact hx pins σ H s e s' I hq
 |ok fl =>
  cases fl with
  |ret u=>exact I.after hq
  |next=>exact WI hq
  |brk=>exact WI hq
  |cont=>exact WI hq
theorem i6 (F:aD X.prog X.w X.K X.mg X.base CX k f fd ps sp)(hr:cf k X.A)(hg:Gl X x)(hm:X.mg x=some (.ref f))(hk:PySem.W.keepIn X.K (.ref f)=true)(hb:Binds X.K fd ps ds)(hd:Vals ET ds)(hx:Passes CX X E)
  (ha:PA X (e::es) t) (hdb:(x==("__debug__" : Str))=false:=by decide) (he:Vd (e::es) X.env=(false,eval e X.env)::Vd es X.env:=by rfl) (hpl:(Wt pos (Vd es X.env)).any (·.1)=false:=by rfl) :
  PE X (.Call (.Name x p) (e::es) [] pos) (Je sp ET E t):=by
 intro pins s σ H Q I h;refine X3 (je I hg hm ?_ hdb);refine PySem.W.callWith_K (h₀:=X.base) I.ok.mod.MS hk (bq (ha pos pins s σ H _ I h) λus s1 ⟨vs,H1,I1,r,q⟩=>⟨I1.yA,?_⟩) he hpl;exact FF F hr hb hd hx I1 r q
end
section
end
structure aI (N P:List Str)(sc:Xz):Prop where
 kind:sc.kind=.function
 co:sc.isCoroutine=false
 gen:sc.isGenerator=false
 nd:N.Nodup
 pre:N.take P.length=P
 par:∀x∈P,sc.names.lookup x=some .local\/sc.names.lookup x=some .cell
 Gw:∀y∈sc.names,y.2≠.free
theorem oU {kindOf:Str->Option XX}{x:Str}:∀{binds:List (Str×U5)} {m:Str->Option U5},(∀v,(x,v)∉binds)->bindL kindOf binds m x=m x
 |[],_,_=>rfl
 | (n,v)::r,m,h=>by
  unfold bindL;rw[oU λw hw=>h w (Vm _ hw)]
  split
  ·have:x≠n:=by rintro rfl;exact h v Vw
   simp[this]
  ·rfl
theorem oW {kindOf:Str->Option XX}{x:Str}:∀{binds:List (Str×U5)} {m:Str->Option U5},(∀v,(x,v)∉binds)->bindC kindOf binds m x=m x
 |[],_,_=>rfl
 | (n,v)::r,m,h=>by
  unfold bindC;rw[oW λw hw=>h w (Vm _ hw)]
  split
  ·rfl
  ·have:x≠n:=by rintro rfl;exact h v Vw
   simp[this]
theorem oV {kindOf:Str->Option XX}{x:Str}{v:U5}:∀{P:List Str} {vs:List U5} {i:Nat} {m:Str->Option U5},P.Nodup->P[i]?=some x->vs[i]?=some v->kindOf x=some .local ->
  bindL kindOf (P.zip vs) m x=some v
 |[],_,_,_,_,h,_,_=>by simp at h
 |_::_,[],_,_,_,_,h,_=>by simp at h
 |p::P,w::vs,0,m,nd,h1,h2,hk=>by
  simp at h1 h2;subst h1;subst h2;show bindL kindOf ((p,w)::P.zip vs) m p=_;unfold bindL;rw[oU λv hv=>(VL.mp nd).1 (Yu hv).1,if_pos hk];simp
 |p::P,w::vs,i+1,m,nd,h1,h2,hk=>by
  show bindL kindOf ((p,w)::P.zip vs) m x=_;unfold bindL;exact oV (i:=i) (VL.mp nd).2 (by simpa using h1) (by simpa using h2) hk
theorem oX {kindOf:Str->Option XX}{x:Str}{v:U5}:∀{P:List Str} {vs:List U5} {i:Nat} {m:Str->Option U5},P.Nodup->P[i]?=some x->vs[i]?=some v->kindOf x≠some .local ->
  bindC kindOf (P.zip vs) m x=some v
 |[],_,_,_,_,h,_,_=>by simp at h
 |_::_,[],_,_,_,_,h,_=>by simp at h
 |p::P,w::vs,0,m,nd,h1,h2,hk=>by
  simp at h1 h2;subst h1;subst h2;show bindC kindOf ((p,w)::P.zip vs) m p=_;unfold bindC;rw[oW λv hv=>(VL.mp nd).1 (Yu hv).1,if_neg hk];simp
 |p::P,w::vs,i+1,m,nd,h1,h2,hk=>by
  show bindC kindOf ((p,w)::P.zip vs) m x=_;unfold bindC;exact oX (i:=i) (VL.mp nd).2 (by simpa using h1) (by simpa using h2) hk
def start (N:List Str)(vs:List V):St:=vs.map some++Vt (N.length-vs.length) none
def kM (CX:yx)(P:U_)(w:Vl)(K:PySem.W.Frag)(mg:Str->Option U5)(base:Heap)(N:List Str)(qual:Str)(scope:Xz)(f:Addr)(cd:U5)(A:VZ)(outer:List Env)(s:U7)(H:Hp)(E:XK):Cx where
 prog:=P
 w:=w
 K:=K
 mg:=mg
 base:=base
 A:=A.deeper (Yh qual scope s.heap.objs.size f cd)
 N:=N
 s₀:=s
 H₀:=H
 env:=Yh qual scope s.heap.objs.size f cd
 outer:=outer
 stack:=Yh qual scope s.heap.objs.size f cd::outer
 ex:=[]
 calm:=true
 fn:=λ_=>true
 pn:=[]
 xe:=λe s'=>VA (model P w) (A.deeper (Yh qual scope s.heap.objs.size f cd)) (leaving (Yh qual scope s.heap.objs.size f cd) e) (λ_ zd=>CX outer H s E e zd) (λe' zd=>CX outer H s E e' zd) s'
theorem tE {sc:Xz}{n:Nat}{x:Str}(h:sc.names.lookup x=some .cell):∃c,(cellsFrom n sc.names []).lookup x=some c:=by
 have q:=PySem.W.cellsFrom_some sc.names n [] (.inl h);exact Option.isSome_iff_exists.mp q
theorem xR {CX:yx}{P:U_}{w:Vl}{K:PySem.W.Frag}{mg:Str->Option U5}{base:Heap}{N ps:List Str}{qual:Str}{scope:Xz}{f:Addr}{cd:U5}{A:VZ}{outer:List Env}{s s1:U7}{H:Hp}{E:XK}{us:List U5}{vs:List V}
  (S:aI N ps scope) (hd:A.handled=none) (e0:Eb P w K mg base A outer s H) (hl:vs.length=ps.length) (r:Vals vs us)
  (x:InCallC s s.heap.objs.size (bindL (Yh qual scope s.heap.objs.size f cd).kindOf (ps.zip us) λ_=>none) (cellsFrom (s.heap.objs.size+1) scope.names []) (bindC (Yh qual scope s.heap.objs.size f cd).kindOf (ps.zip us) λ_=>none) s1) :
  Inv (kM CX P w K mg base N qual scope f cd A outer s H E) [] (start N vs) H s1:=by
 have hpl:ps.length<=N.length:=by have:=congrArg List.length S.pre;rw[VW]at this;lia
 obtain⟨h1,tk,rfl,hk⟩:=x.done;have JM:∀b:Addr,b∉(kM CX P w K mg base N qual scope f cd A outer s H E).ex:=λb z=>absurd (show b∈([]:List Addr) from z) (by simp)
 refine⟨⟨e0.mod,S.kind,rfl,rfl,U8 _,λy z c h1 h2=>?_,λy hy=>?_,λy c _ h=>?_,λ_=>hd,Around.frames_deeper e0.frames,.inr ⟨rfl,rfl⟩,λb z=>absurd z (JM b),e0.bs,e0.BF,λb _ _=>JM b,λb z=>absurd z (JM b),e0.jk,e0.DI⟩,
  rfl,e0.bare,Un.kept hk,⟨_,x.toInCall.ns,λi y v h1 h2 h3=>?_⟩,λy c h=>⟨_,x.cell y c h⟩,e0.bt.fresh (U8 _),λy c h=>?_,λp hp=>absurd (show p∈([]:List (Addr×Obj)) from hp) (by simp),e0.bt.kept hk,?_⟩
 ·exact name_of_addr x.apart (PySem.mem_of_lookup h1) (PySem.mem_of_lookup h2)
 ·have hy:scope.names.lookup y=some .cell\/scope.names.lookup y=some .free:=hy;rcases hy with hy|hy
  ·exact tE hy
  ·exact absurd rfl (S.Gw _ (PySem.mem_of_lookup hy))
 ·exact Nat.le_of_lt (x.above y c (PySem.mem_of_lookup h))
 ·have hi:i<vs.length:=by
   unfold start at h2
   by_cases hi:i<vs.length
   ·exact hi
   ·rw[Wd (by simpa using hi)]at h2
    rw[List.getElem?_replicate]at h2
    split at h2 <;> cases h2
  have ha:vs[i]?=some v:=by
   unfold start at h2;rw[WN (by simpa using hi),Vq]at h2
   cases e:vs[i]? with
   |none=>rw[e]at h2;cases h2
   |some a=>rw[e]at h2;cases h2;rfl
  obtain⟨u,hu,rv⟩:=r.get ha;have hp:ps[i]?=some y:=by
   rw[<- S.pre,List.getElem?_take_of_lt (by lia)];exact h1
  have QM:ps.Nodup:=by rw[<- S.pre];exact S.nd.sublist (Xd _ _)
  refine⟨u,rv,?_⟩;rcases S.par y (VB hp)with k|k
  ·exact .inl ⟨k,oV QM hp hu k⟩
  ·obtain⟨c,e⟩:=tE (n:=s.heap.objs.size+1) k;refine .inr ⟨.inl k,c,e,?_⟩;have q:=x.cell y c e;rw[oX QM hp hu (by show scope.names.lookup y≠_;rw[k];decide)]at q
   exact q
 ·exact e0.bt.fresh (Nat.le_of_lt (x.above y c (PySem.mem_of_lookup h)))
 ·unfold start;show _=N.length;rw[Vk,U9,YA];lia
theorem EN {CX:yx}{P:U_}{w:Vl}{K:PySem.W.Frag}{mg:Str->Option U5}{base:Heap}{k:Nat}{f:Addr}{name qual:Str}{params:Arguments}{body:List Stmt}{scope:Xz}{dV kV doc pm bQ ct oc:U5}{an od:Option Addr}
  {Ep:Array (Option U5)} {N ps:List Str} {sp:Sp} (lk:K.lookup f=some ⟨oc,od,.func (PySem.W.fnOf name qual params body scope dV kV doc pm an bQ ct),Ep⟩) (ic:PySem.W.codeIn K bQ qual=true) (S:aI N ps scope)
  (len:∀vs H Q E,sp vs H Q E->vs.length=ps.length)
  (jh:∀(A:VZ) (outer:List Env) (s:U7) (H:Hp) (vs:List V) (Q:VK) (E:XK),cf k (A.deeper (Yh qual scope s.heap.objs.size f bQ))->sp vs H Q E ->
   ∃t,qI (kM CX P w K mg base N qual scope f bQ A outer s H E) body t/\t {nx:=λ_ H'=>Q .cO H',rt:=Q} (start N vs) H) :
  aD P w K mg base CX (k+1) f (PySem.W.fnOf name qual params body scope dV kV doc pm an bQ ct) ps sp:=by
 refine⟨len,λA outer s H args us vs Q E hr e0 hb r gk=>?_⟩;have hl:=len _ _ _ _ gk;have KX:K.In s.heap:=e0.mod.MS.keeps λb o e=>(e0.bs b o e).1;have lim:s.heap.NoLimit:=e0.mod.nolimit.keeps λb o e=>(e0.bs b o e).1;have Ly:∀y∈ps.zip us,scope.names.lookup y.1=some .local\/(scope.names.lookup y.1=some .cell/\((cellsFrom (s.heap.objs.size+1) scope.names []).lookup y.1).isSome=true):=λOQ hy=> by
  obtain⟨n,v⟩ := OQ;rcases S.par n (Yu hy).1 with q|q
  ·exact .inl q
  ·exact .inr ⟨q,PySem.W.cellsFrom_some _ _ _ (.inl q)⟩
 refine codeAny_call_function hr.depth (KX _ _ lk) rfl S.co S.gen rfl (PySem.W.codeRec_of KX ic) (hb _ _ _ _ ?_);refine wpAny_newFunctionEnv_cells S.kind Ly λenv he s1 x=>?_;subst he;refine⟨lim.keeps x.toInCall.keep,codeAny_func ?_⟩;obtain⟨t,ht,hq⟩:=jh A outer s H vs Q E (hr.deeper _) gk;have I:Inv (kM CX P w K mg base N qual scope f bQ A outer s H E) [] (start N vs) H s1:=xR S hr.hd e0 hl r x;refine Xi (ht [] s1 (start N vs) H _ I hq) (λfl s' hs=>?_) λe s' hs=>hs;have fin:∀{σ':St} {H':Hp} {v:V} {u:U5},Inv (kM CX P w K mg base N qual scope f bQ A outer s H E) [] σ' H' s'->RelV v u->Q v H'->CE outer P w H s Q u s' :=
  λ{σ' H' v u} J rv q=>⟨v,H',J.os,J.bare,J.base,J.bt,rv,q⟩
 cases fl with
 |ret u =>
  obtain⟨v,σ',H',J,rv,q⟩:=hs;exact fin J rv q
 |next =>
  obtain⟨σ',H',J,q⟩:=hs;exact fin (v:=V.cO) (u:=Value.none) J rfl q
 |brk =>
  obtain⟨_,_,_,q⟩:=hs;exact WI q
 |cont =>
  obtain⟨_,_,_,q⟩:=hs;exact WI q
section
variable {X:Cx}{x:Str}{p pos:Pos}{e:Expr}{es:List Expr}{t:TA}{id T:String}{r:List V->Hp->VK->Prop}
def NR (r:List V->Hp->VK->Prop)(t:TA):TE:=λσ H Q=>t σ H λvs H1=>r vs H1 Q
theorem gD (hc:fF X (.builtin id) r) (hg:Gl X x) (hm:X.mg x=none) (hv:V3 x=some (.builtin id)) (ha:PA X (e::es) t) (hn:x≠"__name__" := by decide) (hdb:(x==("__debug__" : Str))=false:=by decide)
  (he:Vd (e::es) X.env=(false,eval e X.env)::Vd es X.env:=by rfl) (hpl:(Wt pos (Vd es X.env)).any (·.1)=false:=by rfl):PE X (.Call (.Name x p) (e::es) [] pos) (NR r t):=by
 intro pins s σ H Q I h;refine X3 (iC I hg hm hv ?_ hn hdb);exact PyProof.Rows.callWith_builtin1 (bq (ha pos pins s σ H _ I h) λus s1 Ha=> by obtain⟨vs,H1,I1,r1,q1⟩ := Ha;exact hc pins s1 σ H1 vs us Q I1 r1 q1) he hpl
theorem xx (hc:fF X (.type T) r) (hg:Gl X x) (hm:X.mg x=none) (hv:V3 x=some (.type T)) (ha:PA X (e::es) t) (hn:x≠"__name__" := by decide) (hdb:(x==("__debug__" : Str))=false:=by decide)
  (he:Vd (e::es) X.env=(false,eval e X.env)::Vd es X.env:=by rfl) (hpl:(Wt pos (Vd es X.env)).any (·.1)=false:=by rfl):PE X (.Call (.Name x p) (e::es) [] pos) (NR r t):=by
 intro pins s σ H Q I h;refine X3 (iC I hg hm hv ?_ hn hdb);exact WJ (bq (ha pos pins s σ H _ I h) λus s1 G_=> by obtain⟨vs,H1,I1,r1,q1⟩ := G_;exact hc pins s1 σ H1 vs us Q I1 r1 q1) he hpl
end
end L2
namespace HT
open PySem PyProof.Rows
def lexLt:List Int->List Int->Bool
 |[],[]=>false
 |[],_::_=>true
 |_::_,[]=>false
 |x::xs,y::ys=>if x=y then lexLt xs ys else decide (x<y)
theorem c3 (x y:Int)(xs ys:List Int):lexLt (x::xs) (y::ys)=if x=y then lexLt xs ys else decide (x<y):=rfl
theorem ni:lexLt [] []=false:=rfl
theorem l4 (y:Int)(ys:List Int):lexLt [] (y::ys)=true:=rfl
theorem l5 (x:Int)(xs:List Int):lexLt (x::xs) []=false:=rfl
theorem mE (A:VZ)(s:U7)(a:Int)(t:Tok)(c:Int)(u:Tok):∃e,SeqAt.EqAt A s (.int a t) (.int c u) e/\(e=true↔a=c) :=
 ⟨(a==c),SeqAt.EqAt.int_int a t c u,by simp⟩
theorem zf (A:VZ)(s:U7)(a:Int)(t:Tok)(c:Int)(u:Tok)(prog:U_)(w:Vl)(E:U5->U7->Prop)(Q:U5->U7->Prop)(h:Q (.bool (decide (a<c))) s):
  VA (model prog w) A (richCompare .Lt (.int a t) (.int c u)) Q E s :=
 (PyProof.Rows.lt_int h:VA (model prog w) A (VN .Lt (.int a t) (.int c u)) Q E s)
section
open PySem.SeqAt
open PySem.AutoSeq1 (wpAny_loadPart')
open PySem.MeetsSeq PySem.MeetsSeq2 PySem.MeetsSeq3
theorem mW (l b:Addr)(items aP:Array U5)(n n2:Nat)(dd Bh:Option Addr)(sl y8:Array (Option U5))(ns ms:List Int)(hi:Wj items.toList ns)(hj:Wj aP.toList ms):
  Meets (W4.«tuple.__lt__» ⟨[.ref l,.ref b],[]⟩)
   (λ_ R s=>s.heap.get? l=some {cls:=.type "tuple",dict:=dd,data:=.seq items n,slots:=sl}/\s.heap.get? b=some {cls:=.type "tuple",dict:=Bh,data:=.seq aP n2,slots:=y8} /\
    R (.ok (.ret (.bool (lexLt ns ms)))) s) :=
 .of_wp λprog w A R s h=>by
  obtain⟨hp,g,d,tk,os⟩:=s;obtain⟨hl,hb,h⟩:=h;have f2:=Yl;have z1:items.size=ns.length:=by rw[<- hi.length];simp
  have z2:aP.size=ms.length:=by rw[<- hj.length];simp
  wp_walk using WH hl,WH hb,Y6 _ (λrest b s'=>b.1=none/\s'=⟨hp,g,d,tk,os⟩/\∃(vs ws:List U5) (g_ nZ:List Int),rest=vs.zip ws /\
   Wj vs g_/\Wj ws nZ/\g_.length+aP.size=nZ.length+items.size/\R (.ok (.ret (.bool (lexLt g_ nZ)))) ⟨hp,g,d,tk,os⟩) _
  case turn =>
   rintro⟨y,x⟩ rest b s' ⟨gI,rfl,vs,ws,g_,nZ,hz,AJ,wm,hlen,hR⟩;cases AJ with
   |nil=>rw[Yb]at hz;cases hz
   |cons a t AI =>
    cases wm with
    |nil=>rw[X4]at hz;cases hz
    |cons c u AH =>
     rw[WB]at hz;injection hz with Kb mf
     injection Kb with hy hx
     subst hy hx;rw[c3]at hR;simp only[Vo]at hlen;obtain⟨e,he,sF⟩:=mE A.in1 ⟨hp,g,d,tk,os⟩ a t c u;refine U6 (he prog w _ _ ?_);cases e with
     |true =>
      rw[if_pos (sF.mp rfl)]at hR
      wp_walk
      exact⟨rfl,rfl,_,_,_,_,mf,AI,AH,by lia,hR⟩
     |false =>
      rw[if_neg (λq=>absurd (sF.mpr q) We)]at hR;have Kl:=zf A.in1 ⟨hp,g,d,tk,os⟩ a t c u prog w
      wp_walk using Kl
      exact⟨_,rfl,by simpa using hR⟩
  case fin =>
   rintro⟨b1,b2⟩ s' ⟨gI,rfl,vs,ws,g_,nZ,hz,AJ,wm,hlen,hR⟩;simp only at gI;subst gI;have hv:lexLt g_ nZ=decide (items.size<aP.size):=by
    cases AJ with
    |nil =>
     cases wm with
     |nil =>
      simp only[V6]at hlen;rw[ni];exact(decide_eq_false (by lia)).symm
     |cons c u hw =>
      simp only[V6,Vo]at hlen;rw[l4];exact(decide_eq_true (by lia)).symm
    |cons a t hv =>
     cases wm with
     |nil =>
      simp only[V6,Vo]at hlen;rw[l5];exact(decide_eq_false (by lia)).symm
     |cons c u hw =>
      rw[WB]at hz;cases hz
   rw[hv]at hR
   wp_walk
   exact⟨_,rfl,by simpa[XQ] using hR⟩
  case h =>
   exact⟨rfl,rfl,items.toList,aP.toList,ns,ms,rfl,hi,hj,by lia,h⟩
end
section
variable {prog:U_}{w:Vl}{A:VZ}{E:U5->U7->Prop}{s:U7}
theorem uz {l b:Addr}{items aP:Array U5}{ns ms:List Int}{Q:U5->U7->Prop}(hl:Y5 s.heap l items)(hb:Y5 s.heap b aP)(hi:Wj items.toList ns)(hj:Wj aP.toList ms)
  (hu:A.units<X0) (h:Q (.bool (lexLt ns ms)) s):VA (model prog w) A (VN .Lt (.ref l) (.ref b)) Q E s:=by
 obtain⟨⟨cls,dd,data,sl⟩,ho,hc,n,hd⟩:=id hl;obtain⟨⟨Md,Bh,data2,y8⟩,EG,k9,n2,hd2⟩:=id hb;simp only at hc hd k9 hd2;subst hc hd k9 hd2;exact Yo (op:=.Lt) ⟨_,ho,rfl⟩ ⟨_,EG,rfl⟩ PySem.F.slot_tuple_lt PySem.F.entry_tuple_lt (PySem.F.args_tuple_lt_2 _ _) (mW l b items aP n n2 dd Bh sl y8 ns ms hi hj)
  ⟨ho,EG,show Value.bool (lexLt ns ms)≠YC/\Q (.bool (lexLt ns ms)) s from ⟨(λx=>nomatch x),h⟩⟩ hu
def lJ (n d:Nat):Option Int->Nat
 |none=>d
 |some v=>if v<0 then (v+(n:Int)).toNat else min v.toNat n
theorem iZ (n d:Nat):lJ n d none=d:=rfl
theorem kR (n d k:Nat):lJ n d (some (k:Int))=min k n:=by
 show (if (k:Int)<0 then ((k:Int)+(n:Int)).toNat else min (k:Int).toNat n)=min k n
 rw[if_neg (by lia),V9]
end
end HT
namespace L2
open PySem PySem.Spec PyProof.Rows
abbrev TO:=St->Hp->(Option Int->Hp->Prop)->Prop
def PO (X:Cx)(e:Option Expr)(t:TO):Prop :=
 ∀(pins:List (Addr×Obj)) (s:U7) (σ:St) (H:Hp) (Q:Option Int->Hp->Prop),Inv X pins σ H s->t σ H Q ->
  VA (model X.prog X.w) X.A (evalPart e X.env) (λu s'=>∃o H',Inv X pins σ H' s'/\IsPart u o/\Q o H') X.xe s
def Ck:TO:=λ_ H Q=>Q none H
def I9 (t:TE):TO:=λσ H Q=>t σ H λx H1=>∃i,x=.int i/\Q (some i) H1
theorem intsAre_of {ns:List Int}:∀{us:List U5},Vals (ns.map V.int) us->Wj us ns:=by
 induction ns with
 |nil=>intro us r;rw[List.map_nil]at r;cases r;exact .nil
 |cons n ns ih =>
  intro us r;rw[VI]at r;cases r with
  |cons r1 r2 =>
   obtain⟨t,e⟩:=r1;subst e;exact .cons n t (ih r2)
section
variable {X:Cx}{e:Expr}{te:TE}{lo hi:Option Expr}{tl th:TO}{pos p2:Pos}
theorem vJ:PO X none Ck:=by
 intro pins s σ H Q I h;rw[evalPart_none];exact Vg ⟨none,H,I,.none,h⟩
theorem vI (h:PE X e te):PO X (some e) (I9 te):=by
 intro pins s σ H Q I hw;rw[evalPart_some];refine bq (h pins s σ H _ I hw) λu s1 ⟨x,H1,I1,r1,q1⟩=>?_;obtain⟨i,rfl,q⟩:=q1;obtain⟨t,rfl⟩:=r1;exact⟨some i,H1,I1,.int i t,q⟩
def Qg (X:Cx)(r:V->Option Int->Option Int->Hp->VK->Prop):Prop :=
 ∀(pins:List (Addr×Obj)) (s:U7) (σ:St) (H:Hp) (x:V) (v vl vu:U5) (lo hi:Option Int) (sl:Addr) (Q:VK),Inv X pins σ H s->RelV x v->s.heap.IsSliceOf sl vl vu .none->IsPart vl lo->IsPart vu hi->r x lo hi H Q ->
  ∃T id,typeLookup (.type T) "__getitem__" = pure (some (.builtin id))/\s.TypeIs v T/\VA (model X.prog X.w) X.A (Zn v (.ref sl)) (EP X pins σ Q) X.xe s
def RQ (r:V->Option Int->Option Int->Hp->VK->Prop)(te:TE)(tl th:TO):TE:=λσ H Q=>te σ H λx H1=>tl σ H1 λl H2=>th σ H2 λu H3=>r x l u H3 Q
theorem rG {r:V->Option Int->Option Int->Hp->VK->Prop}(hr:Qg X r)(he:PE X e te)(hl:PO X lo tl)(hu:PO X hi th):PE X (.Subscript e (.Slice lo hi none p2) pos) (RQ r te tl th):=by
 intro pins s σ H Q I h;refine Subscript_ (bq (he pins s σ H _ I h) λv s1 ⟨x,H1,I1,r1,q1⟩=>?_);refine wpAny_Slice (bq (hl pins s1 σ H1 _ I1 q1) λvl s2 ⟨l,H2,I2,pl,q2⟩=>bq (hu pins s2 σ H2 _ I2 q2) λvu s3 ⟨u,H3,I3,pu,q3⟩=>?_);rw[evalPart_none];refine Vg ?_;have I4:Inv X pins σ H3 {s3 with heap:=s3.heap.push {cls:=.type "slice",data:=.fields #[vl,vu,.none]}}:=I3.kept (t':=s3.toks) λb ob q=>Vi _ q
 obtain⟨T,id,hT,ht,hg⟩:=hr pins {s3 with heap:=s3.heap.push {cls:=.type "slice",data:=.fields #[vl,vu,.none]}} σ H3 x v vl vu l u s3.heap.objs.size Q I4 r1 (Heap.IsSliceOf.new ..) pl pu q3
 show VA (model X.prog X.w) X.A (subscriptTail e (.Slice lo hi none p2) v (.ref s3.heap.objs.size)) (EP X pins σ Q) X.xe {s3 with heap:=s3.heap.push {cls:=.type "slice",data:=.fields #[vl,vu,.none]}}
 exact tail_any (ops:=[.ref s3.heap.objs.size,v]) ht hT hg (by with_unfolding_all rfl)
def tu (xs:List V)(lo hi:Option Int):List V:=(xs.drop (HT.lJ xs.length 0 lo)).take (HT.lJ xs.length xs.length hi-HT.lJ xs.length 0 lo)
theorem tq (xs:List V)(lo hi:Option Int):(tu xs lo hi).length<=xs.length:=by
 unfold tu;rw[VW,WX];lia
end
def yB (n:Nat)(i:Int):Option Nat:=if 0<=i then (if i<n then some i.toNat else none) else if -(n:Int)<=i then some (i+n).toNat else none
def qt {α:Type}(xs:List α)(i:Int):Option α:=(yB xs.length i).bind λj=>xs[j]?
theorem v_ {n:Nat}{i:Int}{j:Nat}(h:yB n i=some j):seqIndex? i n=some j/\j<n/\-(n:Int)<=i/\i<n:=by
 unfold yB at h
 by_cases h0:0<=i
 ·rw[if_pos h0]at h
  by_cases h1:i<n
  ·rw[if_pos h1]at h;have e:i.toNat=j:=VX h;exact⟨by rw[seqIndex_of h0 h1,e],by lia,by lia,h1⟩
  ·rw[if_neg h1]at h;cases h
 ·rw[if_neg h0]at h
  by_cases h1:-(n:Int)<=i
  ·rw[if_pos h1]at h;have e:(i+n).toNat=j:=VX h;exact⟨by rw[seqIndex_neg (by lia) h1,e],by lia,h1,by lia⟩
  ·rw[if_neg h1]at h;cases h
theorem wL {α:Type}{xs:List α}{i:Int}{v:α}(h:qt xs i=some v):∃j,seqIndex? i xs.length=some j/\xs[j]?=some v/\j<xs.length/\-(xs.length:Int)<=i/\i<xs.length:=by
 unfold qt at h;cases e:yB xs.length i with
 |none=>rw[e]at h;cases h
 |some j =>
  rw[e]at h;obtain⟨h1,h2,h3,h4⟩:=v_ e;exact⟨j,h1,h,h2,h3,h4⟩
def qu (b:Expr):Prop:=∀o i,subscripted b false o i=operate [o,i] (Zn o i)
def Ie (X:Cx)(r:R2):Prop :=
 ∀(value slice:Expr) (pins:List (Addr×Obj)) (s:U7) (σ:St) (H:Hp) (x y:V) (v u:U5) (Q:VK),Inv X pins σ H s->RelV x v->RelV y u->r x y H Q ->
  subscripted slice false v u=operate [v,u] (Zn v u)->VA (model X.prog X.w) X.A (subscriptTail value slice v u) (EP X pins σ Q) X.xe s
def Ql (X:Cx)(id:String)(r:V->List V->Hp->VK->Prop):Prop :=
 ∀(pins:List (Addr×Obj)) (s:U7) (σ:St) (H:Hp) (x:V) (xs:List V) (v:U5) (us:List U5) (Q:VK),Inv X pins σ H s->RelV x v->Vals xs us->r x xs H Q ->
  VA (model X.prog X.w) X.A (call (.builtin id) (v::us)) (EP X pins σ Q) X.xe s
section
variable {X:Cx}{a b:Expr}{ta tb:TE}{pos:Pos}
theorem ia {r:R2}(hr:Ie X r)(ha:PE X a ta)(hb:PE X b tb)(hs:qu b):PE X (.Subscript a b pos) (I_ r ta tb):=by
 intro pins s σ H Q I h;exact Subscript_ (HY ha hb I h λv u s2 x y H2 I2 rx ry q=>hr a b pins s2 σ H2 x y v u Q I2 rx ry q (hs _ _))
def Jp (K:PySem.W.Frag):R2:=λx y H Q=>∃p xs i v,x=.ref p/\y=.int i/\dh K H p xs/\qt xs i=some v/\Q v H
def Jo (K:PySem.W.Frag):R2:=λx y H Q=>∃p xs i v,x=.ref p/\y=.int i/\qH K H p xs/\qt xs i=some v/\Q v H
theorem c_:Ie X (Jp X.K):=by
 intro value slice pins s σ H x y v u Q I rx ry h hs;obtain⟨p,xs,i,z,rfl,rfl,hq,he,q⟩:=h;cases rx;obtain⟨t,rfl⟩:=ry;obtain⟨its,r,pl,hz⟩:=I.list hq;obtain⟨j,h1,h2,h3,h4,h5⟩:=wL he;obtain⟨w,ew,Jl⟩:=r.get h2;have hl:=r.length;have hn:=l3;have fin:EP X pins σ Q w s:=⟨z,H,I,Jl,q⟩
 by_cases h0:0<=i
 ·have hj:i.toNat=j:=by
   rw[seqIndex_of h0 h5]at h1;exact VX h1
  exact item_listR pl.isList h0 (by lia) (by rw[hj];simpa using ew) fin hs
 ·have hj:(i+(its.toArray.size:Int)).toNat=j:=by
   rw[seqIndex_neg (by lia) h4]at h1
   rw[Vs,<- hl];exact VX h1
  exact subscriptTail_builtinR (x:=w) pl.isList.typeIs YZ.lookup
   (wpAny_getItem_list_neg (Q:=λr s'=>r=w/\EP X pins σ Q r s') pl.isList (by lia) (by rw[Vs] <;> lia) (by lia) (by rw[hj];simpa using ew) ⟨rfl,fin⟩) hs
theorem Az:Ie X (Jo X.K):=by
 intro value slice pins s σ H x y v u Q I rx ry h hs;obtain⟨p,xs,i,z,rfl,rfl,hq,he,q⟩:=h;cases rx;obtain⟨t,rfl⟩:=ry;obtain⟨its,r,pl,hz⟩:=I.tuple hq;obtain⟨j,h1,h2,h3,h4,h5⟩:=wL he;obtain⟨w,ew,Jl⟩:=r.get h2;have hl:=r.length;have hn:=l3;have fin:EP X pins σ Q w s:=⟨z,H,I,Jl,q⟩;exact subscriptTail_builtinR (x:=w) pl.typeIs slot_tuple_getitem.lookup
  (getItem_tuple (j:=j) (Q:=λr s'=>r=w/\EP X pins σ Q r s') pl (by lia) (by lia) (by rw[Vs,<- hl];exact h1) (by simpa using ew) ⟨rfl,fin⟩) hs
theorem uy (its:List U5)(n j:Nat)(u:U5):Xj (·.setIfInBounds j u) {cls:=.type "list",data:=.seq its.toArray n}={cls:=.type "list",data:=.seq (its.set j u).toArray n}:=by
 simp[Xj]
theorem Inv.lst {pins:List (Addr×Obj)}{σ:St}{H:Hp}{s:U7}{p:Addr}{xs:List V}(I:Inv X pins σ H s)(h:H p=some (.lst xs)):
  ∃(its:List U5) (n:Nat),Vals xs its/\s.heap.get? p=some {cls:=.type "list",data:=.seq its.toArray n}/\xs.length<=Vh:=by
 obtain⟨z,its,n,r,e⟩:=I.bt p _ h;exact⟨its,n,r,e,z⟩
theorem Inv.GD {pins:List (Addr×Obj)}{σ:St}{H:Hp}{s:U7}{p:Addr}{xs ys:List V}{its its':List U5}{n n':Nat}{f:Obj->Obj}(I:Inv X pins σ H s)(h:H p=some (.lst xs))
  (ho:s.heap.get? p=some {cls:=.type "list",data:=.seq its.toArray n}) (hf:f {cls:=.type "list",data:=.seq its.toArray n}={cls:=.type "list",data:=.seq its'.toArray n'}) (r:Vals ys its') (hz:ys.length<=Vh) (t:Nat) :
  Inv X pins σ (upd H p (.lst ys)) {s with heap:=s.heap.update p f,toks:=t}:=by
 have e:(s.heap.update p f).get? p=some {cls:=.type "list",data:=.seq its'.toArray n'}:=by
  rw[Heap.get?_update_self f ho (by rw[hf] <;> rfl),hf]
 refine I.write (x:=p) (e:=p) (by rw[h];trivial) (.inl rfl) (λb u hb q=>(Heap.get?_update_other _ _ (Xn hb)).trans q) ⟨_,e⟩ ?_
 exact⟨hz,its',n',r,e⟩
def Jn:V->V->V->Hp->(Hp->Prop)->Prop:=λo i v H Q=>∃p xs k j,o=.ref p/\i=.int k/\H p=some (.lst xs)/\yB xs.length k=some j/\Q (upd H p (.lst (xs.set j v)))
theorem set_list:Mt X Jn:=by
 intro pins s σ H o i v ov iv u Q I ro ri rv h;obtain⟨p,xs,k,j,rfl,rfl,hp,hj,q⟩:=h;cases ro;obtain⟨t,rfl⟩:=ri;obtain⟨its,n,r,ho,hz⟩:=I.lst hp;obtain⟨h1,h2,h3,h4⟩:=v_ hj;have hl:=r.length;have hn:=l3;have I':Inv X pins σ (upd H p (.lst (xs.set j v))) {s with heap:=s.heap.update p (Xj (·.setIfInBounds j u))} :=
  I.GD hp ho (uy its n j u) (r.set rv j) (by rw[List.length_set];exact hz) s.toks
 by_cases h0:0<=k
 ·have hk:k.toNat=j:=by
   rw[seqIndex_of h0 h4]at h1;exact VX h1
  exact PySem.W.ki_setAt ho h0 (by lia) (by rw[Vs,<- hl];exact h4) (by rw[hk];exact⟨_,I',q⟩)
 ·have hk:(k+(its.toArray.size:Int)).toNat=j:=by
   rw[seqIndex_neg (by lia) h3]at h1
   rw[Vs,<- hl];exact VX h1
  exact PySem.W.ki_setBack ho (by lia) (by rw[Vs,<- hl];exact h3) (by lia) (by rw[hk];exact⟨_,I',q⟩)
theorem pz (lo hi:Option Int)(n:Nat):(WZ lo hi none n).1=((HT.lJ n 0 lo:Nat):Int)/\(WZ lo hi none n).2.1=((HT.lJ n n hi:Nat):Int)/\(WZ lo hi none n).2.2=1:=by
 refine⟨?_,?_,rfl⟩
 ·cases lo with
  |none=>simp[WZ,HT.lJ]
  |some i =>
   simp only[WZ,HT.lJ,Option.getD_none,show (1:Int)>0 by decide,if_true]
   by_cases h:i<0
   ·simp only[h,if_true] <;> lia
   ·simp only[h,if_false] <;> lia
 ·cases hi with
  |none=>simp[WZ,HT.lJ]
  |some i =>
   simp only[WZ,HT.lJ,Option.getD_none,show (1:Int)>0 by decide,if_true]
   by_cases h:i<0
   ·simp only[h,if_true] <;> lia
   ·simp only[h,if_false] <;> lia
theorem m6 (its:List U5)(lo hi:Option Int):slicePick its.toArray lo hi none=((its.drop (HT.lJ its.length 0 lo)).take (HT.lJ its.length its.length hi-HT.lJ its.length 0 lo)).toArray:=by
 obtain⟨h1,h2,h3⟩:=pz lo hi its.toArray.size;unfold slicePick;rw[h1,h2,h3];simp only[sliceRange_one,pick_run,Vs] <;> rfl
def N1 (K:PySem.W.Frag):V->Option Int->Option Int->Hp->VK->Prop:=λx lo hi H Q=>∃a xs,x=.ref a/\dh K H a xs/\∀p,H p=none->Q (.ref p) (upd H p (.lst (tu xs lo hi)))
theorem vz:Qg X (N1 X.K):=by
 intro pins s σ H x v vl vu lo hi sl Q I rx hs pl pu h;obtain⟨a,xs,rfl,hx,q⟩:=h;cases rx;obtain⟨its,r,ht,hz⟩:=I.list hx;have hlen:=r.length;refine⟨"list",_,YZ.lookup,ht.isList.typeIs,?_⟩;refine wpAny_getItem_list_slice ht.isList hs pl pu .none (by simp) ?_ (by rw[Vs] <;> lia)
 rw[m6,<- hlen];refine⟨.ref s.heap.objs.size,_,I.laid (t':=s.toks) (o:=.lst (tu xs lo hi)) (λb ob q=>Vi _ q) (U8 _) ?_,rfl,q _ (I.bt.fresh (U8 _))⟩;exact⟨Vy (tq xs lo hi) hz,_,0,(r.drop (HT.lJ xs.length 0 lo)).take (HT.lJ xs.length xs.length hi-HT.lJ xs.length 0 lo),VS _ rfl⟩
theorem fU:fF X (.builtin "len") (λxs H Q=>∃p ys,xs=[.ref p]/\(dh X.K H p ys\/qH X.K H p ys)/\Q (.int ys.length) H):=by
 intro pins s σ H xs us Q I r h;obtain⟨p,ys,rfl,hq,q⟩:=h;obtain⟨u,rfl,rx⟩:=vals1 r;cases rx;have hn:=l3;rcases hq with hq|hq
 ·obtain⟨its,r',pl,hz⟩:=I.list hq;have hlen:=r'.length;exact Calls.call_len_list pl.isList (by simp only[Vs] <;> lia) ⟨.int ys.length,H,I.tok _,⟨s.toks+1,by rw[Vs,hlen]⟩,q⟩
 ·obtain⟨its,r',pl,hz⟩:=I.tuple hq;have hlen:=r'.length;exact len_tuple pl (by simp only[Vs] <;> lia) ⟨.int ys.length,H,I.tok _,⟨s.toks+1,by rw[Vs,hlen]⟩,q⟩
theorem jr:fF X (.type "list") (λxs H Q=>∃p ys,xs=[.ref p]/\(dh X.K H p ys\/qH X.K H p ys)/\∀l,H l=none->Q (.ref l) (upd H l (.lst ys))):=by
 intro pins s σ H xs us Q I r h;obtain⟨p,ys,rfl,hq,q⟩:=h;obtain⟨u,rfl,rx⟩:=vals1 r;cases rx;have fin:∀(its:List U5),Vals ys its->ys.length<=Vh->∀(h':Heap) (c':Nat),(∀b o',s.heap.get? b=some o'->h'.get? b=some o') ->
   h'.get? s.heap.objs.size=some {cls:=.type "list",dict:=none,data:=.seq its.toArray c',slots:=#[]}->EP X pins σ Q (.ref s.heap.objs.size) {s with heap:=h'}:=λits r' hz h' c' kp e =>
  ⟨.ref s.heap.objs.size,_,I.laid (t':=s.toks) kp (U8 _) (show b5 X.prog X.w _ h' _ (.lst ys) from ⟨hz,its,c',r',e⟩),rfl,q _ (I.bt.fresh (U8 _))⟩
 rcases hq with hq|hq
 ·obtain⟨its,r',pl,hz⟩:=I.list hq;have hlen:=r'.length;obtain⟨o,ho,hc,n,hd⟩:=pl.isList;exact call_list_seq p (.inl rfl) ho hc hd (λh' c' kp e=>fin its r' hz h' c' kp e) (by simp only[Vs] <;> lia)
 ·obtain⟨its,r',pl,hz⟩:=I.tuple hq;have hlen:=r'.length;obtain⟨o,ho,hc,n,hd⟩:=pl;exact call_list_seq p (.inr rfl) ho hc hd (λh' c' kp e=>fin its r' hz h' c' kp e) (by simp only[Vs] <;> lia)
def MF (K:PySem.W.Frag)(T:String)(x:V)(H:Hp):Prop:=match x with
 |.str _=>T="str"
 |.int _=>T="int"
 |.ref p=>(T="list" /\ ∃xs,dh K H p xs)\/(T="tuple" /\ ∃o,K.lookup p=some o/\o.cls=.type "tuple" /\ o.dict=none) \/
   (T="dict" /\ ((∃bb,H p=some (.dK bb))\/∃bb,H p=some (.dT bb)))\/(T="set" /\ ∃S n,H p=some (.set S n))
 |_=>False
theorem yQ {pins:List (Addr×Obj)}{σ:St}{H:Hp}{s:U7}{T:String}{x:V}{v:U5}(I:Inv X pins σ H s)(r:RelV x v)(ty:MF X.K T x H):
  s.TypeIs v T/\∀a,v=.ref a->∃ob,s.heap.get? a=some ob/\ob.dict=none:=by
 cases x with
 |str z =>
  obtain⟨t,rfl⟩:=r;cases (show T="str" from ty)
  exact⟨typeIs_str s z t,λ_ e=>nomatch e⟩
 |int i =>
  obtain⟨t,rfl⟩:=r;cases (show T="int" from ty)
  exact⟨typeIs_int s i t,λ_ e=>nomatch e⟩
 |ref p =>
  cases r;rcases ty with⟨rfl,xs,hq⟩|⟨rfl,o,hk,hc,hd⟩|⟨rfl,hk⟩|⟨rfl,S,n,hk⟩
  ·obtain⟨its,_,pl,_⟩:=I.list hq;refine⟨pl.isList.typeIs,λa e=>?_⟩;cases e;obtain⟨o,n,e,c,hd,_⟩:=pl;exact⟨o,e,hd⟩
  ·refine⟨⟨o,I.yA p o hk,hc⟩,λa e=>?_⟩;cases e;exact⟨o,I.yA _ o hk,hd⟩
  ·have z:∃o,s.heap.get? p=some o/\o.ExactDict:=by
    rcases hk with⟨bb,hk⟩|⟨bb,hk⟩
    ·obtain⟨_,_,_,_,o,_,_,e,ex,_⟩:=I.bt p _ hk;exact⟨o,e,ex⟩
    ·obtain⟨_,_,_,_,o,_,_,e,ex,_⟩:=I.bt p _ hk;exact⟨o,e,ex⟩
   obtain⟨o,e,ex⟩:=z;refine⟨⟨o,e,ex.1⟩,λa e2=>?_⟩;cases e2;exact⟨o,e,ex.2.1⟩
  ·obtain⟨o,_,_,_,e,ex,_⟩:=I.bt p _ hk;refine⟨⟨o,e,ex.1⟩,λa e2=>?_⟩;cases e2;exact⟨o,e,ex.2.1⟩
 |_=>exact WI ty
def NS (K:PySem.W.Frag)(T:String)(r:V->List V->Hp->VK->Prop)(to:TE):TE:=λσ H Q=>to σ H λx H1=>MF K T x H1/\r x [] H1 Q
def RT (K:PySem.W.Frag)(T:String)(r:V->List V->Hp->VK->Prop)(to:TE)(t:TA):TE:=λσ H Q=>to σ H λx H1=>MF K T x H1/\t σ H1 λxs H2=>r x xs H2 Q
variable {o e:Expr}{es:List Expr}{to:TE}{t:TA}{name:Str}{apos cpos:Pos}{T id:String}{r:V->List V->Hp->VK->Prop}
theorem F5 (pa:PlainAttrs T) (slot:Slot T name id) (Kf:typeOf (.builtin id)=pure (.type "method_descriptor")) (hm:Ql X id r) (ho:PE X o to)
  (eE:W9 o name X.env (eval o X.env)=eval o X.env:=by rfl) (eD:(apos.endLine==cpos.line)=true:=by rfl):PE X (.Call (.Attribute o name apos) [] [] cpos) (NS X.K T r to):=by
 intro pins s σ H Q I h;refine wpAny_Call_method0_late eE eD (bq (ho pins s σ H _ I h) λv s1 ⟨x,H1,I1,r1,ty,q1⟩=>?_);obtain⟨h1,h2⟩:=yQ I1 r1 ty;exact⟨T,id,pa,slot,Kf,h1,h2,Calls.callWith_builtin rfl (PySem.evalArgs_none (hm pins s1 σ H1 x [] v [] Q I1 r1 .nil q1))⟩
theorem zN (pa:PlainAttrs T) (slot:Slot T name id) (Kf:typeOf (.builtin id)=pure (.type "method_descriptor")) (hm:Ql X id r) (ho:PE X o to) (ha:PA X (e::es) t)
  (eE:W9 o name X.env (eval o X.env)=eval o X.env:=by rfl)
  (mh:((Wt cpos (Vd (e::es) X.env)).all (λx=>!x.1)&&(Y2 cpos (X_ [] X.env)).all (λx=>x.1.isSome)
   && decide ((e::es).length+([]:List XW).length+(if ([]:List XW).isEmpty then 0 else 1)<30))=true:=by rfl)
  (eD:(apos.endLine==cpos.line)=true:=by rfl) (hs:Vd (e::es) X.env=(false,eval e X.env)::Vd es X.env:=by rfl) (eC:(Wt cpos (Vd es X.env)).any (·.1)=false:=by rfl) :
  PE X (.Call (.Attribute o name apos) (e::es) [] cpos) (RT X.K T r to t):=by
 intro pins s σ H Q I h;refine wpAny_Call_method_late eE mh eD rfl (bq (ho pins s σ H _ I h) λv s1 ⟨x,H1,I1,r1,ty,q1⟩=>?_);obtain⟨h1,h2⟩:=yQ I1 r1 ty;refine⟨T,id,pa,slot,Kf,h1,h2,?_⟩;have hA:=ha cpos pins s1 σ H1 _ I1 q1;rw[hs]at hA ⊢
 refine Calls.callWith_builtin (by show (false || (Wt cpos (Vd es X.env)).any (·.1))=false;rw[eC] <;> rfl) (Calls.evalArgs_plain ?_)
 exact bq hA λus s2 ⟨vs,H2,I2,r2,q2⟩=>hm pins s2 σ H2 x vs v us Q I2 r1 r2 q2
end
def Rx (X:Cx)(id:String)(r:V->List V->Hp->VK->Prop):Prop :=
 ∀(pins:List (Addr×Obj)) (s:U7) (σ:St) (H:Hp) (x:V) (xs:List V) (v:U5) (us:List U5) (Q:VK),Inv X pins σ H s->RelV x v->Vals xs us->r x xs H Q ->
  VA (model X.prog X.w) X.A (call (.builtin id) (v::us)) (EP X pins σ Q) X.xe s
theorem Vals.one:∀{x:V} {us:List U5},Vals [x] us->∃u,us=[u]/\RelV x u
 |_,_,.cons r .nil=>⟨_,rfl,r⟩
theorem Vals.zero:∀{us:List U5},Vals [] us->us=[]
 |_,.nil=>rfl
theorem Vals.dropLast {xs:List V}{us:List U5}(h:Vals xs us):Vals xs.dropLast us.dropLast:=by
 induction h with
 |nil=>exact .nil
 |cons r t ih =>
  cases t with
  |nil=>exact .nil
  |cons q t'=>exact .cons r ih
theorem Vals.rep {xs:List V}{us:List U5}(h:Vals xs us):∀k:Nat,Vals (Vt k xs).flatten (Vt k us).flatten
 |0=>.nil
 |k+1=>by
  rw[Wy,Wy,Xe,Xe];exact Vals.append h (Vals.rep h k)
theorem uR {α:Type}(l:List α):l.eraseIdx (l.length-1)=l.dropLast:=by
 induction l with
 |nil=>rfl
 |cons a r ih =>
  cases r with
  |nil=>rfl
  |cons b r =>
   have e:(a::b::r).length-1=((b::r).length-1)+1:=by
    have h1:(a::b::r).length=r.length+2:=rfl;have h2:(b::r).length=r.length+1:=rfl;lia
   rw[e,List.eraseIdx_cons_succ,ih]
   all_goals rfl
theorem foldl_rep (its:List U5):∀(k:Nat) (acc:List U5),
  List.foldl (λx1 x2=>x1++x2) acc.toArray (Vt k its.toArray)=(acc++(Vt k its).flatten).toArray
 |0,acc=>by simp
 |k+1,acc=>by
  have e:acc.toArray++its.toArray=(acc++its).toArray:=by simp
  have e2:(acc++its)++(Vt k its).flatten=acc++(Vt (k+1) its).flatten:=by
   rw[Wy,Xe,V5]
  rw[<- e2,<- foldl_rep its k (acc++its),<- e,Wy,Yv]
section
variable {X:Cx}{pins:List (Addr×Obj)}{σ:St}{H:Hp}{s:U7}{l:Addr}{xs ys:List V}
theorem Inv.JZ {its its':List U5}{n:Nat}{f:Array U5->Array U5}{t':Nat}(I:Inv X pins σ H s)(hH:H l=some (.lst xs))
  (e:s.heap.get? l=some {cls:=.type "list",data:=.seq its.toArray n}) (hf:f its.toArray=its'.toArray) (hv:Vals ys its') (hz:ys.length<=Vh) :
  Inv X pins σ (upd H l (.lst ys)) {s with heap:=s.heap.update l (Xj f),toks:=t'}:=by
 have q:=PySem.IsL.update e f;rw[hf]at q;refine I.write (x:=l) (e:=l) (by rw[hH];exact trivial) (.inl rfl) (λb' u hb hu=>(Heap.get?_update_other s.heap (Xj f) (Xn hb)).trans hu) ⟨_,q⟩ ?_
 exact⟨hz,its',_,hv,q⟩
theorem Inv.GI {its:List U5}{t':Nat}(I:Inv X pins σ H s)(hv:Vals ys its)(hz:ys.length<=Vh):
  Inv X pins σ (upd H s.heap.objs.size (.lst ys)) {s with heap:=s.heap.push {cls:=.type "list",data:=.seq its.toArray},toks:=t'} :=
 I.laid (λ_ _ q=>Vi _ q) (U8 _) ⟨hz,its,0,hv,VS _ rfl⟩
theorem Inv.fresh (I:Inv X pins σ H s):H s.heap.objs.size=none:=I.bt.fresh (U8 _)
theorem Inv.Ah (I:Inv X pins σ H s)(hH:H l=some (.lst xs)):xs.length<=Vh/\∃(its:List U5) (n:Nat),Vals xs its/\xs.length=its.length/\s.heap.get? l=some {cls:=.type "list",data:=.seq its.toArray n}:=by
 obtain⟨z,its,n,r,e⟩:=I.bt l _ hH;exact⟨z,its,n,r,r.length,e⟩
theorem Aa {n:Nat}(h:n<=Vh):Yk n=false:=by
 unfold Yk;exact decide_eq_false (by lia)
end
section
variable {X:Cx}
def vE:V->List V->Hp->VK->Prop:=λx vs H Q=>∃l xs y,x=.ref l/\vs=[y]/\H l=some (.lst xs)/\xs.length<Vh/\Q .cO (upd H l (.lst (xs++[y])))
theorem jJ:Rx X "list.append" vE:=by
 intro pins s σ H x vs v us Q I rx rv h;obtain⟨l,xs,y,rfl,rfl,hH,hz,q⟩:=h;cases rx;obtain⟨u,rfl,ru⟩:=rv.one;obtain⟨z,its,n,r,hl,e⟩:=I.Ah hH;refine Yq F.slot_list_append ⟨_,e,rfl⟩ F.entry_list_append (F.args_list_append_2 _ _) (PySem.list_append l its.toArray n u (by rw[Vs];lia)) ⟨e,?_⟩
 refine⟨.cO,_,I.JZ (its':=its++[u]) hH e (by simp) (r.append (.cons ru .nil)) ?_,rfl,q⟩
 rw[Vk,Yz];lia
def N3:V->List V->Hp->VK->Prop:=λx vs H Q=>∃l xs y,x=.ref l/\vs=[]/\H l=some (.lst xs)/\xs[xs.length-1]?=some y/\Q y (upd H l (.lst xs.dropLast))
theorem GB:Rx X "list.pop" N3:=by
 intro pins s σ H x vs v us Q I rx rv h;obtain⟨l,xs,y,rfl,rfl,hH,hy,q⟩:=h;cases rx;have SV:=rv.zero;subst SV;obtain⟨z,its,n,r,hl,e⟩:=I.Ah hH;obtain⟨u,hu,ru⟩:=r.get hy;have SS:its.toArray[its.toArray.size-1]?=some u:=by
  show its.toArray[its.length-1]?=some u;rw[<- Vx,<- hl];exact hu
 refine Yq F.slot_list_pop ⟨_,e,rfl⟩ F.entry_list_pop (F.args_list_pop_1 _) (MeetsSeq.list_pop_last l its.toArray n u SS (by rw[Vs];lia)) ⟨e,?_⟩
 refine⟨y,_,I.JZ (its':=its.dropLast) hH e ?_ r.dropLast ?_,ru,q⟩
 ·show its.toArray.eraseIdxIfInBounds (its.toArray.size-1)=its.dropLast.toArray;rw[Vs,List.eraseIdxIfInBounds_toArray,uR]
 ·rw[List.length_dropLast];lia
def N6:R2:=λx y H Q=>∃l b xs zs,x=.ref l/\y=.ref b/\H l=some (.lst xs)/\H b=some (.lst zs)/\xs.length+zs.length<=Vh/\∀p,H p=none->Q (.ref p) (upd H p (.lst (xs++zs)))
theorem zZ:h8 X (WR .Add) N6:=by
 intro pins s σ H x y v u Q I rx ry h;obtain⟨l,b,xs,zs,rfl,rfl,hH,hB,hz,q⟩:=h;cases rx;cases ry;obtain⟨z,its,n,r,hl,e⟩:=I.Ah hH;obtain⟨z2,G0,n2,r2,UK,e2⟩:=I.Ah hB;refine PySem.P.add_list e e2 ?_ (by rw[Vs,Vs];lia)
 have ea:its.toArray++G0.toArray=(its++G0).toArray:=by simp
 rw[ea];exact⟨.ref _,_,I.GI (t':=s.toks) (r.append r2) (by rw[Vk];lia),rfl,q _ I.fresh⟩
def N2:R2:=λx y H Q=>∃l k xs,x=.ref l/\y=.int k/\H l=some (.lst xs)/\-(2 ^ 63)<=k/\k<2 ^ 63/\xs.length*k.toNat<=Vh /\
 ∀p,H p=none->Q (.ref p) (upd H p (.lst (Vt k.toNat xs).flatten))
theorem len_rep {α:Type}(xs:List α)(k:Nat):(Vt k xs).flatten.length=k*xs.length:=by
 induction k with
 |zero=>simp
 |succ k ih=>rw[Wy,Xe,Vk,ih,Nat.succ_mul,Nat.add_comm]
theorem F_:h8 X (WR .Mult) N2:=by
 intro pins s σ H x y v u Q I rx ry h;obtain⟨l,k,xs,rfl,rfl,hH,h1,h2,hz,q⟩:=h;cases rx;obtain⟨t,rfl⟩:=ry;obtain⟨z,its,n,r,hl,e⟩:=I.Ah hH;have hlen:its.toArray.size*k.toNat<=Vh:=by rw[Vs,<- hl];exact hz
 have Px:¬ its.toArray.size*k.toNat>(2 ^ 63-1) / 8:=by
  have:(Vh:Nat)<=(2 ^ 63-1) / 8:=by decide
  lia
 have Pu:¬ (!Builtin.List.listFitsIndex k)=true:=by
  rw[fitsIndex_both h1 h2];exact We
 have Lw:¬ Yk (its.toArray.size*k.toNat)=true:=by
  rw[Aa hlen];exact We
 have O6:List.foldl (λx1 x2=>x1++x2) #[] (Vt (if its.toArray.isEmpty=true then 0 else k.toNat) its.toArray)=(Vt k.toNat its).flatten.toArray:=by
  have f0:∀m:Nat,List.foldl (λx1 x2=>x1++x2) #[] (Vt m its.toArray)=(Vt m its).flatten.toArray:=λm=>by
   have:=foldl_rep its m [];rw[List.nil_append]at this;exact this
  rw[f0];cases its with
  |nil=>simp
  |cons a r'=>rw[if_neg (by simp)]
 refine wpAny_binaryOp_repeat_ref (T:="list") (U:="int") (by decide) ⟨_,e,rfl⟩ (λs'=>typeIs_int s' k t) noFill_list_mul F.fills_int_mul F.slot_int_rmul repeat_list F.slot_int_index.lookup
  (Yq F.slot_int_rmul (typeIs_int s k t) F.entry_int_rmul (F.args_int_rmul_2 _ _) (int___rmul___int_list k t l its.toArray n)
   ⟨e,rfl,⟨_,e,rfl⟩,Yq F.slot_list_mul ⟨_,e,rfl⟩ F.entry_list_mul (F.args_list_mul_2 _ _) (AutoListH.list___mul___list_int_3 l its.toArray n k t Pu Px Lw) ⟨e,?_⟩⟩)
 rw[O6];exact⟨.ref _,_,I.GI (t':=s.toks) (r.rep k.toNat) (by rw[len_rep,Nat.mul_comm];exact hz),rfl,q _ I.fresh⟩
end
section
end
section
end
end L2
namespace RD
open PySem PySem.W PySem.Calls PyProof.Rows
theorem kz {P:YD}{h:Heap}:∀(ns:List Int) (vs:List U5),WellAll P h vs (ns.map WData.int)->Wj vs ns:=by
 intro ns
 induction ns with
 |nil =>
  intro vs w;rw[List.map_nil]at w;cases w;exact .nil
 |cons n ns ih =>
  intro vs w;rw[VI]at w;cases w with
  |cons a b =>
   cases a;exact .cons _ _ (ih _ b)
theorem xg {l:OpenLaw}{n:Nat}(hn:l.most=some n){P:YD}{h:Heap}{args:List WData}{vals:List U5}
  (Dx:l.row.toRowW.claim.pre args=true) (OH:WellAll P h vals args) :
  ∃a vs ns,vals=[Value.ref a]/\args=[WData.list (ns.map WData.int)]/\h.get? a=some {cls:=.type "list",data:=.seq vs.toArray}/\Wj vs ns/\ns.length<=n:=by
 have S0:WShape.hasAll [] args [.list .int]=true:=(pre_splitW Dx).1;have hc:l.pre.holds [] {args:=args}=true:=(pre_splitW Dx).2;obtain⟨d,r,rfl,h1,h2⟩:=hasAllW_cons S0;obtain rfl:=hasAllW_nil h2;obtain⟨xs,rfl,h3⟩:=hasW_list h1;obtain⟨ns,rfl⟩:=items_int h3;have hlen:ns.length<=n:=by
  unfold OpenLaw.pre at hc;have h4:(WTm.not (.lt (.lit (.int (n:Int))) (.len (.arg 0)))).holds [] {args:=[.list (ns.map .int)]}=true:=by
   have h4:=(holds_andW hc).1;rw[hn]at h4;exact h4
  have h5:=condW_of h4 (w_not (w_lt w_lit (w_len_list (w_arg rfl))));rw[U9]at h5;refine Nat.le_of_not_lt λq=>?_;have q':(n:Int)<((ns.length:Nat):Int):=by lia
  first
   | (rw[decide_eq_true q']at h5;exact absurd h5 (by decide))
   | (simp at h5;lia)
 cases OH with
 |cons w1 w2 =>
  cases w2;cases w1 with
  |list ho DD=>exact⟨_,_,ns,rfl,rfl,ho,kz ns _ DD,hlen⟩
theorem xt (l:OpenLaw)(args:List WData):l.row.toRowW.claim.post args (.bool true) args=true :=
 postW_of (r:=l.row.toRowW) (X:=(true==true))
  (show WShape.has [] (.bool true) .bool=true by first|rfl|decide|simp[WShape.has,WShape.arms,WShape.armsAll])
  (show (WTm.eq .res (.lit (.bool true))).value [] {args:=args,res:=some (.bool true),after:=args}=some (.bool (true==true)) from w_eq_bool (w_res rfl) w_lit) rfl
theorem tF {l:OpenLaw}{n:Nat}{q:U_}{loose:List Str}{XP:(Str->Option U5)->Heap->Prop}{YP:Vl->Heap->Prop}{d:DefRec}
  (hn:l.most=some n) (Pw:d.params.defaults=[])
  (call:∀(w:Vl) (s₀ s₁:U7) (mg mb:Str->Option U5) (fa:Addr) (o:Obj) (pm cd doc:U5) (a:Addr) (vs:List U5) (ns:List Int),
   Ground q loose [] XP w s₀ mg mb s₁.heap->YP w s₁.heap ->
   s₁.heap.get? fa=some o->o.data=.func (docDef d.name d.params d.body d.scope pm cd doc)->s₁.heap.CodeRec cd d.name->mg d.name=some (.ref fa) ->
   s₁.heap.get? a=some {cls:=.type "list",data:=.seq vs.toArray}->Wj vs ns->ns.length<=n->s₁.gens=#[] ->
   Yp (model l.prog w) Y0 (.call (.ref fa) ⟨[.ref a],[]⟩) (λr s'=>r=.ok (.ret (.bool true))/\OldK s₁.heap s'.heap/\s'.os=s₁.os/\Ye s'.gens) s₁) :
  WalkO q loose XP YP l.row.toRowW d [] (λf vs=>PySem.call f vs):=by
 intro w s₀ s₁ mg mb G Y fa o pm cd doc dV kV ho hd ic hD O_ hg args vals as Dx Te UE OH Pe;obtain rfl:dV=.none:=Dflts.none hD Pw;obtain rfl:kV=.none:=Dflts.noKw hD;obtain⟨a,vs,ns,rfl,rfl,Ht,hints,hlen⟩:=xg hn Dx OH;refine enter_call (XE (call w s₀ s₁ mg mb fa o pm cd doc a vs ns G Y ho (fd_plain hd) ic O_ Ht hints hlen hg) λr s' hq=>?_);obtain⟨rfl,h2,h3,h4⟩:=hq;exact⟨.inl ⟨.bool true,.bool true,[],rfl,λ_=>rfl,.bool true,xt l _,λ_=>⟨List.Pairwise.nil,λ_ hm=>(nomatch hm)⟩⟩,h2,h3,h4⟩
section
end
end RD
namespace L2
open PySem PySem.Spec PyProof.Rows
theorem nH:∀{vs:List U5} {ns:List Int},Wj vs ns->Vals (ns.map V.int) vs
 |_,_,.nil=>.nil
 |_,_,.cons n t h=>.cons ⟨t,rfl⟩ (nH h)
def Ib (H:Hp):Prop:=∀b,H b=none\/∃o xs,H b=some (.A4 o (.lst xs))
theorem Av {P:U_}{w:Vl}{K:PySem.W.Frag}{mg mb:Str->Option U5}{CX:yx}{k:Nat}{fa a:Addr}{fd:VE}{x:Str}{sp:Sp}{s₁:U7}{vs:List U5}{ns:List Int}
  (KX:K.In s₁.heap) (MW:s₁.heap.Ns WE mg) (hb:s₁.heap.Ns builtinsNs mb) (Tr:∀x:Str,x≠"__name__" -> mb x=V3 x) (Pf:s₁.heap.NoLimit) (hg:s₁.gens=#[])
  (ha:s₁.heap.get? a=some {cls:=.type "list",data:=.seq vs.toArray}) (hi:Wj vs ns) (hl:ns.length<=Vh) (hr:cf k Y0)
  (F:∀base:Heap,K.In base->base.Ns WE mg->aD P w K mg base CX k fa fd [x] sp) (LN:∀(s:U7) (u:U5),BindsTo s fd ⟨[u],[]⟩ [(x,u)])
  (gk:∀H:Hp,Ib H->dh K H a (ns.map V.int)->sp [.ref a] H (λv _=>v=.bl true) λ_ _ _=>False)
  (PC:∀H e s',CX [] H s₁ (λ_ _ _=>False) e s'->False) :
  Yp (model P w) Y0 (.call (.ref fa) ⟨[.ref a],[]⟩) (λr s'=>r=.ok (.ret (.bool true))/\OldK s₁.heap s'.heap/\s'.os=s₁.os/\Ye s'.gens) s₁:=by
 have rv:=nH hi;have Ot:=hi.length;have core:∀H:Hp,Ib H->dh K H a (ns.map V.int)->gi P w H s₁.heap->(∀b,H b≠none->b=a)->(H a≠none->K.lookup a=none) ->
   Yp (model P w) Y0 (.call (.ref fa) ⟨[.ref a],[]⟩) (λr s'=>r=.ok (.ret (.bool true))/\OldK s₁.heap s'.heap/\s'.os=s₁.os/\Ye s'.gens) s₁:=by
  intro H hO hS bt hA hK;have wK:∀{b:Addr} {o:Obj},s₁.heap.get? b=some o->H b=none->(p0 s₁.heap H).get? b=some o:=λe n=>AV e n;have JM:∀{b:Addr} {o:Obj} {es:Array XU} {ep:Nat},s₁.heap.get? b=some o->o.data=.dict es ep->H b=none:=λ{b o es ep} e d=>by
   cases q:H b with
   |none=>rfl
   |some u =>
    have e':b=a:=hA b (by rw[q];simp)
    subst e';rw[ha]at e;cases e;have d':Data.seq vs.toArray _=Data.dict es ep:=d;cases d'
  have MO:∀{b:Addr} {m:Str->Option U5},s₁.heap.Ns b m->(p0 s₁.heap H).Ns b m:=λ{b m} ⟨o,es,ep,e,d,r⟩=>⟨o,es,ep,wK e (JM e d),d,r⟩;have Rh:K.In (p0 s₁.heap H):=λb o e=>wK (KX b o e) (by
   cases q:H b with
   |none=>rfl
   |some u =>
    have e':b=a:=hA b (by rw[q];simp)
    subst e';rw[hK (by rw[q];simp)]at e;cases e)
  have hM:Mod K mg (p0 s₁.heap H):=⟨Rh,MO MW,⟨mb,MO hb,Tr⟩,let ⟨mc,h1,h2⟩:=Pf;⟨mc,MO h1,h2⟩⟩
  have e0:Eb P w K mg (p0 s₁.heap H) Y0 [] s₁ H:=⟨rfl,hM,λb o e=>C_ e,Nat.le_of_eq (xW _ _),trivial,λb hb=>absurd (show b∈([]:List Addr) from hb) (by simp),bt,.of_eq hg⟩
  refine XE ((F _ Rh (MO MW)).run Y0 [] s₁ H ⟨[.ref a],[]⟩ [.ref a] [.ref a] _ _ hr e0 (LN s₁ (.ref a)) (.cons rfl .nil) (gk H hO hS)) λr s' h=>?_;cases r with
  |error e=>exact(PC H e s' h).elim
  |ok fl =>
   cases fl with
   |next=>exact WI h
   |brk=>exact WI h
   |cont=>exact WI h
   |ret u =>
    obtain⟨v,H',os,bare,un,O2,r',q⟩:=h;have q':v=.bl true:=q;subst q';obtain rfl:u=Value.bool true:=r';refine⟨rfl,OldK.of_keep λb o e=>?_,os,bare⟩;cases q:H b with
    |none=>exact un.keep b o e q (by intro z;exact absurd (show b∈([]:List Addr) from z) (by simp)) (by simp)
    |some u =>
     rcases hO b with z|⟨ob,xs,z⟩
     ·rw[q]at z;cases z
     ·have z2:=un.hG b ob _ z;obtain⟨e1,_⟩:=bt b _ z;obtain⟨e2,_⟩:=O2 b _ z2;rw[e]at e1;cases e1;exact e2
 cases hk:K.lookup a with
 |some o =>
  have e:=KX a o hk;rw[ha]at e;cases e;refine core (λ_=>none) (λ_=>.inl rfl) (.inr ⟨_,vs.toArray,_,hk,rfl,rfl,rfl,by rw[Vs,Ot];exact hl,by simpa using rv⟩) (λb u z=>by have z':(none:Option HO)=some u:=z;cases z') (λb z=>absurd rfl z) λz=>absurd rfl z
 |none =>
  refine core (λb=>if b=a then some (.A4 {cls:=.type "list",data:=.seq vs.toArray} (.lst (ns.map V.int))) else none) (λb=>?_) (.inl (.inr ⟨{cls:=.type "list",data:=.seq vs.toArray},if_pos rfl⟩)) (λb u z=>?_) (λb z=>?_) λ_=>hk
  ·by_cases hb:b=a
   ·exact .inr ⟨_,_,if_pos hb⟩
   ·exact .inl (if_neg hb)
  ·by_cases hb:b=a
   ·have z':=(if_pos hb).symm.trans z;cases z';subst hb;exact⟨ha,by rw[U9];exact hl,vs,_,rv,ha⟩
   ·have z':=(if_neg hb).symm.trans z;cases z'
  ·by_cases hb:b=a
   ·exact hb
   ·exact absurd (if_neg hb) z
theorem Cf {l:PySem.W.OpenLaw}{n k:Nat}{q:U_}{loose:List Str}{XP:(Str->Option U5)->Heap->Prop}{YP:Vl->Heap->Prop}{d:DefRec}{K:YD->PySem.W.Frag}{CX:Vl->yx}{sp:Vl->Sp}{x:Str}
  (hn:l.most=some n) (MY:n<=Vh) (Pw:d.params.defaults=[]) (hr:cf k Y0)
  (hY:∀(w:Vl) (h:Heap),YP w h->(K w.params).In h)
  (F:∀(w:Vl) (mg:Str->Option U5) (fa:Addr) (h:Heap),(K w.params).In h->h.Ns WE mg->mg d.name=some (.ref fa) ->
   ∃fd:VE,(∀(s:U7) (u:U5),BindsTo s fd ⟨[u],[]⟩ [(x,u)]) /\
    ∀base:Heap,(K w.params).In base->base.Ns WE mg->aD l.prog w (K w.params) mg base (CX w) k fa fd [x] (sp w))
  (gk:∀(w:Vl) (H:Hp) (a:Addr) (ns:List Int),ns.length<=n->Ib H->dh (K w.params) H a (ns.map V.int)->sp w [.ref a] H (λv _=>v=.bl true) λ_ _ _=>False)
  (PC:∀(w:Vl) (H:Hp) (s:U7) (e:U5) (s':U7),CX w [] H s (λ_ _ _=>False) e s'->False) :
  PySem.W.WalkO q loose XP YP l.row.toRowW d [] (λf vs=>PySem.call f vs):=by
 refine RD.tF hn Pw λw s₀ s₁ mg mb fa o pm cd doc a vs ns G Y ho hd ic O_ Ht hints hlen hg=>?_;have KX:=hY w _ Y;obtain⟨fd,hb,hF⟩:=F w mg fa _ KX G.T.g O_;exact Av KX G.T.g G.T.b G.T.builtins G.T.nolimit hg Ht hints (Vy hlen MY) hr hF hb (λH hO hS=>gk w H a ns hlen hO hS) λH e s'=>PC w H s₁ e s'
abbrev bz:yx:=λ_ _ _ _ _ _=>False
abbrev E0:XK:=λ_ _ _=>False
theorem vN {X:Cx}:Passes bz X E0:=λ_ _ _ _ _ _ _ h=>h.elim
structure BU (K:PySem.W.Frag)(x qual:Str)(st:Stmt)(f:Addr)(fd:VE):Prop where
 ex:∃(oc:U5) (od:Option Addr) (kV doc pm:U5) (an:Option Addr) (bQ ct:U5) (Ep:Array (Option U5)),
  fd=PySem.W.fnOf x qual (lh st) (dW st) (ao st) .none kV doc pm an bQ ct/\K.lookup f=some ⟨oc,od,.func fd,Ep⟩/\PySem.W.codeIn K bQ qual=true
 kp:PySem.W.keepIn K (.ref f)=true
section
variable {P:U_}{w:Vl}{K:PySem.W.Frag}{mg:Str->Option U5}{base:Heap}
theorem BU.ok {x qual:Str}{st:Stmt}{f:Addr}{fd:VE}{N ps:List Str}{k:Nat}{sp:Sp}(F:BU K x qual st f fd)(S:aI N ps (ao st))(len:∀vs H Q E,sp vs H Q E->vs.length=ps.length)
  (jh:∀(bQ:U5) (A:VZ) (outer:List Env) (s:U7) (H:Hp) (vs:List V) (Q:VK) (E:XK),cf k (A.deeper (Yh qual (ao st) s.heap.objs.size f bQ))->sp vs H Q E ->
   ∃t,qI (kM bz P w K mg base N qual (ao st) f bQ A outer s H E).lU (dW st) t/\t {nx:=λ_ H'=>Q .cO H',rt:=Q} (start N vs) H):aD P w K mg base bz (k+1) f fd ps sp:=by
 obtain⟨oc,od,kV,doc,pm,an,bQ,ct,Ep,rfl,lk,ic⟩:=F.ex;refine EN lk ic S len λA outer s H vs Q E hr gk=>?_;obtain⟨t,h,q⟩:=jh bQ A outer s H vs Q E hr gk;exact⟨t,h.lU,q⟩
theorem HG {x qual:Str}{st:Stmt}{f:Addr}{oc:U5}{od an:Option Addr}{Ep:Array (Option U5)}{kV doc pm bQ ct:U5}(l:K.lookup f=some ⟨oc,od,.func (PySem.W.fnOf x qual (lh st) (dW st) (ao st) .none kV doc pm an bQ ct),Ep⟩)
  (c:PySem.W.codeIn K bQ qual=true) (k:PySem.W.keepIn K (.ref f)=true):BU K x qual st f (PySem.W.fnOf x qual (lh st) (dW st) (ao st) .none kV doc pm an bQ ct):=⟨⟨oc,od,kV,doc,pm,an,bQ,ct,Ep,rfl,l,c⟩,k⟩
end
section
variable {X:Cx}
theorem pv (i:Nat){x:Str}{pos:Pos}(hN:X.N[i]?=some x:=by rfl)(hv:wQ X.env.scope x:=by first|exact Or.inl rfl|exact Or.inr (Or.inl rfl)|exact Or.inr (Or.inr rfl))(hd:(x==("__debug__" : Str))=false:=by decide)
  (ic:(x==("__classdict__" : Str))=false:=by decide):PE X (.Name x pos) (IX i):=fb hN hv hd ic
end
def au (H H':Hp):Prop:=∀b o,H b=some o->H' b=some o
theorem au.refl (H:Hp):au H H:=λ_ _ h=>h
theorem au.trans {H H1 H2:Hp}(a:au H H1)(b:au H1 H2):au H H2:=λc o h=>b c o (a c o h)
theorem au.free {H H':Hp}(e:au H H'){l:Addr}(h:H' l=Option.none):H l=Option.none:=by
 cases q:H l with
 |none=>rfl
 |some o =>
  rw[e l o q]at h;cases h
theorem au.seq {K:PySem.W.Frag}{H H':Hp}{a:Addr}{xs:List V}(e:au H H')(h:dh K H a xs):dh K H' a xs:=by
 rcases h with (h|⟨o,h⟩)|h
 ·exact .inl (.inl (e _ _ h))
 ·exact .inl (.inr ⟨o,e _ _ h⟩)
 ·exact .inr h
section
variable {X:Cx}{a b c:Expr}{ta tb:TE}{pos:Pos}
def tP (i j:Int):Prop:=0<j/\j.natAbs.log2<9000
theorem tP.of {i j:Int}(h0:0<j)(h:j<2 ^ 200):tP i j:=by
 refine⟨h0,?_⟩;have h2:j.natAbs<2 ^ 200:=by lia
 have:=(Nat.log2_lt (n:=j.natAbs) (k:=200) (by lia)).mpr h2
 lia
theorem rL:h8 X (WR .FloorDiv) (rI tP λi j=>.int (i / j)):=MN λi j _ _ _ _ _ hc q=>by
 have h1:(0:Int)<j:=hc.1;exact floordiv_int (by lia) (by rw[Int.fdiv_eq_ediv_of_nonneg i (by lia)];exact q) (.inl (PyProof.noPylong_of_log2 hc.2))
def E6 (X:Cx)(ops:List XS)(rs:List Expr)(t:V->TE):Prop :=
 ∀(pos:Pos) (pins:List (Addr×Obj)) (s:U7) (σ:St) (H:Hp) (x:V) (v:U5) (Q:VK),Inv X pins σ H s->RelV x v->t x σ H Q ->
  VA (model X.prog X.w) X.A (compareChain pos v ops (evalEach rs X.env)) (EP X pins σ Q) X.xe s
def tN (X:Cx)(ops:List XS)(rs:List Expr)(t:V->TT):Prop :=
 ∀(pos:Pos) (pins:List (Addr×Obj)) (s:U7) (σ:St) (H:Hp) (x:V) (v:U5) (Q:Bool->Hp->Prop),Inv X pins σ H s->RelV x v->t x σ H Q ->
  VA (model X.prog X.w) X.A (testChain pos v ops (evalEach rs X.env)) (TP X pins σ Q) X.xe s
variable {op Ge:XS}{ops:List XS}{rs:List Expr}{r:R2}{t:V->TE}{tt:V->TT}
theorem HS (ho:h8 X (VN op) r)(hb:PE X b tb):E6 X [op] [b] (λx σ H Q=>tb σ H λy H2=>r x y H2 Q):=by
 intro pos pins s σ H x v Q I rx h;exact chain_last (bq (hb pins s σ H _ I h) λu s1 Dw=>by obtain⟨y,H1,I1,r1,q1⟩:=Dw;exact ho pins s1 σ H1 x y v u Q I1 rx r1 q1)
theorem DV (ho:h8 X (VN op) r)(hb:PE X b tb)(hc:E6 X (Ge::ops) (c::rs) t):
  E6 X (op::Ge::ops) (b::c::rs) (λx σ H Q=>tb σ H λy H2=>r x y H2 λz H3=>∃k,z=.bl k/\(if k=true then t y σ H3 Q else Q (.bl false) H3)):=by
 intro pos pins s σ H x v Q I rx h;refine chain_link (bq (hb pins s σ H _ I h) λu s1 ⟨y,H1,I1,r1,q1⟩=>bq (ho pins s1 σ H1 x y v u _ I1 rx r1 q1) λd s3 ⟨z,H3,I3,r3,k,e,q3⟩=>?_);subst e;cases r3;refine WQ ?_;cases k with
 |false=>exact ite_ff ⟨.bl false,H3,I3,rfl,q3⟩
 |true=>exact ite_tt (hc pos pins s3 σ H3 y u Q I3 r1 q3)
theorem xw {eh eg:XS}(ha:PE X a ta)(hc:E6 X (eh::eg::ops) (b::c::rs) t)(hm:lastMarks (eh::eg::ops) (b::c::rs)=false:=by with_unfolding_all rfl):
  PE X (.Compare a (eh::eg::ops) (b::c::rs) pos) (λσ H Q=>ta σ H λx H1=>t x σ H1 Q):=by
 intro pins s σ H Q I h;exact Compare_chain (bq (ha pins s σ H _ I h) λv s1 Km=>by obtain⟨x,H1,I1,r1,q1⟩:=Km;exact hc pos pins s1 σ H1 x v Q I1 r1 q1) hm
theorem DU (ho:h8 X (VN op) r)(hb:PE X b tb):tN X [op] [b] (λx σ H Q=>tb σ H λy H2=>r x y H2 λz H3=>∃k,z=.bl k/\Q k H3):=by
 intro pos pins s σ H x v Q I rx h;refine test_last (bq (hb pins s σ H _ I h) λu s1 ⟨y,H1,I1,r1,q1⟩=>bq (ho pins s1 σ H1 x y v u _ I1 rx r1 q1) λd s3 ⟨z,H3,I3,r3,k,e,q3⟩=>?_);subst e;cases r3;exact WQ ⟨H3,I3,q3⟩
theorem Bv (ho:h8 X (VN op) r)(hb:PE X b tb)(hc:tN X (Ge::ops) (c::rs) tt):
  tN X (op::Ge::ops) (b::c::rs) (λx σ H Q=>tb σ H λy H2=>r x y H2 λz H3=>∃k,z=.bl k/\(if k=true then tt y σ H3 Q else Q false H3)):=by
 intro pos pins s σ H x v Q I rx h;refine test_link (bq (hb pins s σ H _ I h) λu s1 ⟨y,H1,I1,r1,q1⟩=>bq (ho pins s1 σ H1 x y v u _ I1 rx r1 q1) λd s3 ⟨z,H3,I3,r3,k,e,q3⟩=>?_);subst e;cases r3;refine WQ ?_;cases k with
 |false=>exact ite_ff ⟨H3,I3,q3⟩
 |true=>exact ite_tt (hc pos pins s3 σ H3 y u Q I3 r1 q3)
theorem xo {eh eg:XS}(ha:PE X a ta)(hc:tN X (eh::eg::ops) (b::c::rs) tt)(hm:lastMarks (eh::eg::ops) (b::c::rs)=false:=by with_unfolding_all rfl):
  PT X (.Compare a (eh::eg::ops) (b::c::rs) pos) (λσ H Q=>ta σ H λx H1=>tt x σ H1 Q):=by
 intro pins s σ H Q I h;exact isTrue_chain (bq (ha pins s σ H _ I h) λv s1 Dt=>by obtain⟨x,H1,I1,r1,q1⟩:=Dt;exact hc pos pins s1 σ H1 x v Q I1 r1 q1) hm
end
theorem BC:V3 "max" = some (.builtin "max"):=by decide +kernel
theorem u7:V3 "min" = some (.builtin "min"):=by decide +kernel
theorem BE:V3 "int" = some (.type "int"):=by decide +kernel
theorem qq:V3 "list" = some (.type "list"):=by decide +kernel
theorem oT:V3 "sorted" = some (.builtin "sorted"):=by decide +kernel
theorem BD:V3 "isinstance" = some (.builtin "isinstance"):=by decide +kernel
theorem qr:V3 "len" = some (.builtin "len"):=by decide +kernel
theorem J5 {c A B:Prop}[Decidable c](hc:c)(h:A):if decide c=true then A else B:=by
 rw[if_pos (decide_eq_true hc)];exact h
theorem J6 {c A B:Prop}[Decidable c](hc:¬ c)(h:B):if decide c=true then A else B:=by
 rw[if_neg (by simp[hc])]
 exact h
theorem Oz {c A B:Prop}[Decidable c](h1:c->A)(h2:¬ c->B):if decide c=true then A else B:=by
 by_cases h:c
 ·exact J5 h (h1 h)
 ·exact J6 h (h2 h)
theorem au.new {H:Hp}{p:Addr}{o:HO}(n:H p=none):au H (L2.upd H p o):=λb u e=>by rw[ar (cz e n)];exact e
section
end
theorem JB:yy 10 18:=⟨by decide,by decide,by decide⟩
section
theorem pX {a:Int}{b:Int}(h:0<b):0<=a % b/\a % b<b:=⟨Int.emod_nonneg a (by lia),Int.emod_lt_of_pos a h⟩
end
def aK (X:Cx)(scope:Xz)(N':List Str)(cl:List (Str×Addr))(C:Addr)(s:U7)(H:Hp)(ex:List Addr):Cx :=
 {X with N:=N',s₀:=s,H₀:=H,env:=compEnvC scope cl C X.env,outer:=X.stack,stack:=X.stack,ex:=ex,fn:=λ_=>false,pn:=[],xe:=λ_ _=>False}
theorem iM {env:Env}:∀(names:List (Str×XX)) (cs:List (Str×Addr)),(∀x,(x,VU)∈names->∃c,env.cells.lookup x=some c) ->
  (∀x c,cs.lookup x=some c->env.cells.lookup x=some c) ->
  ∃cl,(forIn names cs λ(p:Str×XX) (cs:List (Str×Addr))=>do
   if p.2==.free then do
    let a <- cellOf env p.1
    pure (Yx ((p.1,a)::cs))
   else pure (Yx cs):Sem (List (Str×Addr)))=pure cl /\
   (∀x,((x,VU)∈names\/(∃c,cs.lookup x=some c))->∃c,cl.lookup x=some c)/\∀x c,cl.lookup x=some c->env.cells.lookup x=some c
 |[],cs,_,HB=>⟨cs,rfl,λx h=>h.elim (λz=>nomatch z) id,HB⟩
 | (n,k)::names,cs,hf,HB=>by
  by_cases hk:k=.free
  ·subst hk;obtain⟨c,hc⟩:=hf n (Vw ..);obtain⟨cl,e,h1,h2⟩:=iM names ((n,c)::cs) (λx hx=>hf x (Vm _ hx)) (λx c' hx=>by
    rw[Wh]at hx;cases q:x==n with
    |true=>rw[q]at hx;cases hx;rw[eq_of_beq q];exact hc
    |false=>rw[q]at hx;exact HB x c' hx)
   refine⟨cl,?_,λx hx=>h1 x ?_,h2⟩
   ·rw[List.forIn_cons];have ec:cellOf env n=pure c:=by unfold cellOf;rw[hc]
    simp only[beq_self_eq_true,if_true,ec];exact e
   ·rcases hx with hx|⟨c',hx⟩
    ·rcases Va.mp hx with z|z
     ·cases z;exact .inr ⟨c,by simp⟩
     ·exact .inl z
    ·right
     rw[Wh];cases q:x==n with
     |true=>exact⟨c,rfl⟩
     |false=>exact⟨c',hx⟩
  ·obtain⟨cl,e,h1,h2⟩:=iM names cs (λx hx=>hf x (Vm _ hx)) HB;refine⟨cl,?_,λx hx=>h1 x ?_,h2⟩
   ·rw[List.forIn_cons];have hb:(k==VU)=false:=by simpa using hk
    simp only[hb,W5,if_false];exact e
   ·rcases hx with hx|hx
    ·rcases Va.mp hx with z|z
     ·cases z;exact absurd rfl hk
     ·exact .inl z
    ·exact .inr hx
theorem il {env:Env}{scope:Xz}(h:∀x,(x,VU)∈scope.names->∃c,env.cells.lookup x=some c):
  ∃cl,closureFor scope env=pure cl/\(∀x,(x,VU)∈scope.names->∃c,cl.lookup x=some c)/\∀x c,cl.lookup x=some c->env.cells.lookup x=some c:=by
 obtain⟨cl,e,h1,h2⟩:=iM scope.names [] h (λx c z=>by simp at z)
 refine⟨cl,?_,λx hx=>h1 x (.inl hx),h2⟩;unfold closureFor;refine Eq.trans ?_ (congrArg (· >>= pure) e);rfl
structure Links (X:Cx)(scope:Xz)(N':List Str)(lk:List (Option Nat)):Prop where
 kind:scope.kind=.function
 uw:∀x∈scope.names,x.2≠.cell
 names:∀x∈scope.names,x.2=.local->scope.names.lookup x.1=some .local
 free:∀x,(x,VU)∈scope.names->X.env.kindOf x=some .cell\/X.env.kindOf x=some .free
 len:lk.length=N'.length
 link:∀(i j:Nat),lk[i]?=some (some j)->∃x,N'[i]?=some x/\X.N[j]?=some x/\(x,VU)∈scope.names/\scope.names.lookup x=some .free
def jL (outer:List (Str×XX))(N:List Str)(scope:Xz)(N':List Str)(lk:List (Option Nat)):Bool :=
 (scope.kind==.function)&&scope.names.all (λx=>x.2 != .cell&&(x.2 != .local || scope.names.lookup x.1==some .local)&&(x.2 != .free || outer.lookup x.1==some .cell || outer.lookup x.1==some .free)) &&
 lk.length==N'.length&&(VD lk.length).all λi=>match lk[i]? with
  |some (some j)=>match N'[i]? with
   |some x=>N[j]?==some x&&scope.names.contains (x,.free)&&scope.names.lookup x==some .free
   |none=>false
  |_=>true
theorem Links.of {X:Cx}{scope:Xz}{N':List Str}{lk:List (Option Nat)}(h:jL X.env.scope.names X.N scope N' lk=true):Links X scope N' lk:=by
 simp only[jL,VO]at h;obtain⟨⟨⟨h1,h2⟩,h3⟩,h4⟩:=h;rw[Wi]at h2 h4;refine⟨by simpa using h1,λx hx=>?_,λx hx hl=>?_,λx hx=>?_,by simpa using h3,λi j aV=>?_⟩
 ·have:=h2 x hx;simp only[VO]at this;simpa using this.1.1
 ·have:=h2 x hx;simp only[VO]at this;have q:=this.1.2;rw[hl]at q;simpa using q
 ·have:=h2 _ hx;simp only[VO]at this;have q:=this.2;simp only[Zl]at q;rcases q with (q|q)|q
  ·simp at q
  ·exact .inl (show X.env.scope.names.lookup x=some .cell by simpa using q)
  ·exact .inr (show X.env.scope.names.lookup x=some .free by simpa using q)
 ·have hi:i<lk.length:=(Vc.mp aV).1;have q:=h4 i (V4.mpr hi);rw[aV]at q;simp only at q;cases e:N'[i]? with
  |none=>rw[e]at q;simp at q
  |some x =>
   rw[e]at q;simp only[VO]at q;obtain⟨⟨q1,q2⟩,q3⟩:=q;exact⟨x,rfl,by simpa using q1,by simpa using q2,by simpa using q3⟩
def dQ (lk:List (Option Nat))(σ:St):St:=lk.map λl=>match l with|some j=>(match σ[j]? with|some v=>v|none=>none)|none=>none
theorem dv {env:Env}:∀{names:List (Str×XX)} {x:Str},names.lookup x=some .free ->
  (names.map λ(n,k)=>if (k==VU&&env.scope.kind==.function&&env.kindOf n==some .cell) then (n,Xs) else (n,k)).lookup x=some .cell \/
  (names.map λ(n,k)=>if (k==VU&&env.scope.kind==.function&&env.kindOf n==some .cell) then (n,Xs) else (n,k)).lookup x=some .free
 |[],_,h=>by simp at h
 | (n,k)::r,x,h=>by
  have ih:=@dv env r x;show List.lookup x ((if (k==VU&&env.scope.kind==.function&&env.kindOf n==some .cell)=true then (n,Xs) else (n,k))::_)=_ \/
   List.lookup x ((if (k==VU&&env.scope.kind==.function&&env.kindOf n==some .cell)=true then (n,Xs) else (n,k))::_)=_
  cases hx:x==n with
  |true =>
   simp only[Wh,hx]at h;cases h
   by_cases hc:(VU==VU&&env.scope.kind==.function&&env.kindOf n==some .cell)=true
   ·rw[if_pos hc];left;simp[Wh,hx]
   ·rw[if_neg hc];right;simp[Wh,hx]
  |false =>
   simp only[Wh,hx]at h
   by_cases hc:(k==VU&&env.scope.kind==.function&&env.kindOf n==some .cell)=true
   ·rw[if_pos hc];simp only[Wh,hx];exact ih h
   ·rw[if_neg hc];simp only[Wh,hx];exact ih h
theorem dt {env:Env}:∀{names:List (Str×XX)} {x:Str} {k:XX},(k=.cell\/k=.free)->(∀y∈names,y.2≠.cell) ->
  (names.map λ(n,k)=>if (k==VU&&env.scope.kind==.function&&env.kindOf n==some .cell) then (n,Xs) else (n,k)).lookup x=some k->(x,VU)∈names
 |[],_,_,_,_,h=>by simp at h
 | (n,k')::r,x,k,hk,hc,h=>by
  have ih:=@dt env r x k hk (λy hy=>hc y (Vm _ hy));have h':List.lookup x ((if (k'==VU&&env.scope.kind==.function&&env.kindOf n==some .cell)=true then (n,Xs) else (n,k'))::(r.map λ(n,k)=>if (k==VU&&env.scope.kind==.function&&env.kindOf n==some .cell) then (n,Xs) else (n,k)))=some k:=h
  have M0:=hc (n,k') (Vw ..)
  by_cases DB:(k'==VU&&env.scope.kind==.function&&env.kindOf n==some .cell)=true
  ·rw[if_pos DB]at h';simp only[VO,beq_iff_eq]at DB;cases hx:x==n with
   |true=>rw[eq_of_beq hx,DB.1.1];exact Vw ..
   |false=>rw[Wh,hx]at h';exact Vm _ (ih h')
  ·rw[if_neg DB]at h';cases hx:x==n with
   |true =>
    rw[Wh,hx]at h';have e:k'=k:=by simpa using h'
    subst e;rcases hk with hk|hk
    ·exact absurd hk M0
    ·rw[eq_of_beq hx,hk];exact Vw ..
   |false=>rw[Wh,hx]at h';exact Vm _ (ih h')
section
variable {X:Cx}{pins:List (Addr×Obj)}{σ:St}{H:Hp}{s:U7}{scope:Xz}{N':List Str}{lk:List (Option Nat)}{cl:List (Str×Addr)}{ex:List Addr}
theorem AE {h':Heap}{t':Nat}(I:Inv X pins σ H s)(L:Links X scope N' lk)(hex:∀b∈ex,gP X pins H b)(O4:∀b∈ex,∃o,s.heap.get? b=some o)
  (nv:∀x,(x,VU)∈scope.names->∃c,cl.lookup x=some c) (k9:∀x c,cl.lookup x=some c->X.env.cells.lookup x=some c)
  (hn:h'.Ns s.heap.objs.size (λ_=>none)) (hk:∀b o,s.heap.get? b=some o->h'.get? b=some o) :
  Inv (aK X scope N' cl s.heap.objs.size s H ex) [] (dQ lk σ) H {s with heap:=h',toks:=t'}:=by
 obtain⟨m,hm,hl⟩:=I.loc;have TU:∀b∈ex,b≠s.heap.objs.size:=λb hb=>by
  obtain⟨o,e⟩:=O4 b hb;exact VJ (Vp e)
 refine⟨⟨I.ok.mod,L.kind,I.ok.glob,I.ok.blt,U8 _,λx y c h1 h2=>I.ok.inj x y c (k9 _ _ h1) (k9 _ _ h2),λx hx=>?_,λx c z=>(nomatch z),I.ok.hd,I.ok.frames,.inl rfl,
  λb hb=>⟨TU b hb,λx c e=>(hex b hb).2.2.2.2.1 x c (k9 _ _ e)⟩,I.bs,Vy I.ok.BF I.sz,λb o e z=>?_,λb hb z=>?_,I.stack,I.pq⟩,
  rfl,I.bare,Un.kept hk,⟨_,hn,λi x v h1 h2 h3=>?_⟩,λx c e=>?_,I.bt.fresh (U8 _),λx c e=>I.dy x c (k9 _ _ e),λp hp=>absurd (show p∈([]:List (Addr×Obj)) from hp) (by simp),I.bt.kept hk,?_⟩
 ·have AG:(relabel scope X.env).names.lookup x=some .cell\/(relabel scope X.env).names.lookup x=some .free:=hx;rcases AG with q|q
  ·exact nv x (dt (.inl rfl) L.uw q)
  ·exact nv x (dt (.inr rfl) L.uw q)
 ·obtain⟨f0,f1,f2,f3,_⟩:=hex b z;rcases f3 with q|q
  ·exact I.ok.rN b o e q
  ·have h1:=Vp e;have h2:=I.ok.BF;exact absurd (VG h1 (Vy h2 q)) (W_ _)
 ·obtain⟨f0,f1,f2,f3,_⟩:=hex b hb;rcases Va.mp (I.t5 b z)with q|q
  ·exact f1 q
  ·exact f2 q
 ·have hi:∃j,lk[i]?=some (some j)/\σ[j]?=some (some v):=by
   have AX:(dQ lk σ)[i]?=some (some v):=h2;unfold dQ at AX;rw[Vq]at AX;cases e:lk[i]? with
   |none=>rw[e]at AX;cases AX
   |some l =>
    cases l with
    |none=>rw[e]at AX;cases AX
    |some j =>
     rw[e]at AX;cases e2:σ[j]? with
     |none=>simp[e2]at AX
     |some w' =>
      simp only[Yt,e2,Y4]at AX;subst AX;exact⟨j,rfl,e2⟩
  obtain⟨j,hj,hσ⟩:=hi;obtain⟨y,e1,e2,e3,e4⟩:=L.link i j hj;have TQ:x=y:=by
   have xY:N'[i]?=some x:=h1;rw[e1]at xY;exact(VX xY).symm
  subst TQ;have OI:wQ X.env.scope x:=by
   rcases L.free x e3 with q|q
   ·exact .inr (.inl q)
   ·exact .inr (.inr q)
  obtain⟨u,ru,lu⟩:=hl j x v e2 hσ OI;refine⟨u,ru,.inr ⟨?_,?_⟩⟩
  ·exact dv e4
  ·rcases lu with⟨k,_⟩|⟨_,c,hc,z⟩
   ·rcases L.free x e3 with q|q <;> (rw[k]at q;cases q)
   ·obtain⟨c',sH⟩:=nv x e3;have:=k9 x c' sH;rw[hc]at this;cases this;obtain⟨o,ho,hd⟩:=z;exact⟨c,sH,o,hk _ _ ho,hd⟩
 ·obtain⟨v,o,ho,hd⟩:=I.cell x c (k9 _ _ e);exact⟨v,o,hk _ _ ho,hd⟩
 ·show (dQ lk σ).length=N'.length;unfold dQ;rw[U9,L.len]
theorem AF {s':U7}{σ':St}{H':Hp}{pl:List (Addr×Obj)}{C:Addr}{h'':Heap}(I:Inv X pins σ H s)(hex:∀b∈ex,gP X pins H b)
  (J:Inv (aK X scope N' cl s.heap.objs.size s H ex) pl σ' H' s') (hs:X2 s.heap.objs.size s'.heap h''):Inv X pins σ H' {s' with heap:=h''}:=by
 have hC:H' s.heap.objs.size=none:=J.free;have u:=J.base;refine I.E1 (ch:=ex) (s':={s' with heap:=h''}) J.os ?_ ?_ J.bare (λb hb=>?_)
 ·have kk:∀b o,b≠s.heap.objs.size->s'.heap.get? b=some o->h''.get? b=some o:=λb o hb e=>(hs.2 b hb).trans e;have ne:∀b o,s.heap.get? b=some o->b≠s.heap.objs.size:=λb o e=>VJ (Vp e);refine⟨λb o e n hb hx=>kk b _ (ne b o e) (u.keep b o e n hb hx),λb o e n hb hx=>?_,u.free,λb o e hx=>?_,u.iq,u.hG,u.ir⟩
  ·obtain⟨sl,q⟩:=u.slot b o e n hb hx;exact⟨sl,kk b _ (ne b o e) q⟩
  ·obtain⟨o',q⟩:=u.there b o e hx;exact⟨o',kk b _ (ne b o e) q⟩
 ·intro b o e;have hb:b≠s.heap.objs.size:=λz=>by rw[z]at e;rw[hC]at e;cases e
  refine(J.bt b o e).lC (λc v hc q=>(hs.2 c ?_).trans q) (λ_ q=>q) λ_ _ q=>q;rcases hc with z|z
  ·rw[z];exact hb
  ·intro z';rw[z']at z;rw[hC]at z;cases z
 ·obtain⟨f0,f1,f2,f3,f4,f5⟩:=hex b hb;exact⟨f3,f1,f4,f5⟩
end
def ly (g:Xu)(after:Sem Fin->Sem Fin)(e:Expr)(d:Nat)(it acc:U5)(env:Env):Sem Fin:=do
 YI g.iter.pos
 match <- Zo it with
 |none=>pure (.done .next)
 |some v =>
  Ys g.target it v
  assign g.target env v
  let mut ok:=true
  for c in g.ifs do
   if ok then ok <- Y9 c env (eval c env)
  if ok then after (again (.compLoop e d it acc env)) else again (.compLoop e d it acc env)
def pU (e:Expr)(d:Nat)(g':Xu)(acc:U5)(env:Env)(k:Sem Fin):Sem Fin:=do
 let x <- eval g'.iter env
 YI g'.iter.pos
 let x <- V0 g'.iter env x
 let _ <- runOwn (.compStart e (d+1) (<- holding [x] (Zq x)) acc env) env
 k
def vw (t:Sem Unit)(k:Sem Fin):Sem Fin:=do
 t
 k
def wB (elt:Expr)(acc:U5)(env:Env):Sem Unit:=do let _ <- call (.builtin "list.append") [acc,<- eval elt env]
structure jv (e:Expr)(d:Nat)(g:Xu)(acc:U5)(env:Env)(after:Sem Fin->Sem Fin):Prop where
 turn:∀it,compTurn e d it acc env=ly g after e d it acc env
 cl:(clausesOf e)[d]?=some g
 sync:g.is_async=0
 quiet:∀it,(Yj e d it acc env).quiet=true
 under:∀(A:VZ) it,A.under (Yj e d it acc env)=A
 Fj:∀(A:VZ) it,A.under (Zu e d it acc env)=A
 Gx:∀it,(Yj e d it acc env).isFrame=false
 JK:∀it,(Zu e d it acc env).isFrame=false
section
variable {elt tg yS c4 nj:Expr}{ifs nr:List Expr}{sc:Xz}{pos:Pos}{acc:U5}{env:Env}
theorem Bz:jv (.ListComp elt [⟨tg,c4,ifs,0⟩] sc pos) 0 ⟨tg,c4,ifs,0⟩ acc env (vw (wB elt acc env)) :=
 ⟨λ_=>rfl,rfl,rfl,λ_=>rfl,λ_ _=>rfl,λ_ _=>rfl,λ_=>rfl,λ_=>rfl⟩
theorem HV:jv (.ListComp elt [⟨tg,c4,ifs,0⟩,⟨yS,nj,nr,0⟩] sc pos) 0 ⟨tg,c4,ifs,0⟩ acc env (pU (.ListComp elt [⟨tg,c4,ifs,0⟩,⟨yS,nj,nr,0⟩] sc pos) 0 ⟨yS,nj,nr,0⟩ acc env) :=
 ⟨λ_=>rfl,rfl,rfl,λ_=>rfl,λ_ _=>rfl,λ_ _=>rfl,λ_=>rfl,λ_=>rfl⟩
theorem HU:jv (.ListComp elt [⟨tg,c4,ifs,0⟩,⟨yS,nj,nr,0⟩] sc pos) 1 ⟨yS,nj,nr,0⟩ acc env (vw (wB elt acc env)) :=
 ⟨λ_=>rfl,rfl,rfl,λ_=>rfl,λ_ _=>rfl,λ_ _=>rfl,λ_=>rfl,λ_=>rfl⟩
end
def IY:TT:=λ_ H Q=>Q true H
def tK (X:Cx)(ifs:List Expr)(t:TT):Prop :=
 ∀(pins:List (Addr×Obj)) (s:U7) (σ:St) (H:Hp) (Q:Bool->Hp->Prop),Inv X pins σ H s->t σ H Q ->
  VA (model X.prog X.w) X.A (forIn ifs true λc r=>if r=true then do let ok <- Y9 c X.env (eval c X.env);pure (Yx ok) else pure (Yx r)) (TP X pins σ Q) X.xe s
theorem CC {X:Cx}:tK X [] IY:=λ_ _ _ H _ I h=>wpAny_tests_nil ⟨H,I,h⟩
theorem CB {X:Cx}{c:Expr}{t:TT}(h:PT X c t):tK X [c] t:=λpins s σ H Q I q=>wpAny_tests_one (h pins s σ H Q I q)
abbrev nC:=(St->Hp->Prop)->St->Hp->Prop
def tM (X:Cx)(after:Sem Fin->Sem Fin)(t:nC):Prop :=
 ∀(pins:List (Addr×Obj)) (s:U7) (σ:St) (H:Hp) (N:St->Hp->Prop) (k:Sem Fin) (Q:Fin->U7->Prop) (E:U5->U7->Prop),Inv X pins σ H s->t N σ H ->
  (∀σ' H' s',Inv X pins σ' H' s'->N σ' H'->VA (model X.prog X.w) X.A k Q E s')->VA (model X.prog X.w) X.A (after k) Q E s
theorem g6 {X:Cx}(hx:X.xe=λ_ _=>False){α:Type}{t:Sem α}{Q:α->U7->Prop}{E:U5->U7->Prop}{s:U7}(h:VA (model X.prog X.w) X.A t Q X.xe s):VA (model X.prog X.w) X.A t Q E s :=
 Xi h (λ_ _ q=>q) λe s q=>by rw[hx]at q;exact q.elim
def fX (J:It)(g:TG)(tt:TT)(ta:nC)(End:St->Hp->Prop):St->Hp->Prop:=λσ H =>
 ∃W:Nat->Nat->St->Hp->Prop,(∃m,W 0 m σ H)/\∀i m σ H,W i m σ H->(J.stop i H/\End σ H) \/
  (J.go i H/\∃N:St->Hp->Prop,(∀σ' H',N σ' H'->∃m',m'<m/\W (i+1) m' σ' H')/\∀x H',J.IK i H x H'->g x σ H' λσ2 H2=>tt σ2 H2 λb H3=>if b=true then ta N σ2 H3 else N σ2 H3)
section
variable {X:Cx}{e:Expr}{d:Nat}{g:Xu}{acc:U5}{after:Sem Fin->Sem Fin}{tg:TG}{tt:TT}{ta:nC}
theorem yj (hx:X.xe=λ_ _=>False)(hc:X.calm=true)(F:jv e d g acc X.env after)(hg:PG X g.target tg)(ht:tK X g.ifs tt)(ha:tM X after ta)
  {it:Addr} {fp:List Addr} {tn:Nat->Heap->Prop} {J:It} (T:Turn X.prog X.w X.K g.target J fp it tn) {pins:List (Addr×Obj)} {σ:St} {H:Hp} {s:U7} {End:St->Hp->Prop}
  (I:Inv X pins σ H s) (st:tn 0 s.heap) (hf:∀b∈fp,gP X pins H b) (h:fX J tg tt ta End σ H) :
  Yp (model X.prog X.w) X.A (.compLoop e d (.ref it) acc X.env) (λr s'=>r=.ok .next/\∃σ' H',Inv X pins σ' H' s'/\End σ' H') s:=by
 obtain⟨W,⟨m0,w0⟩,turn⟩:=h;have t6:∀{H':Hp},(∀b∈fp,H' b=none)->∀b∈fp,gP X pins H' b:=λhn b hb=>⟨hn b hb,(hf b hb).2⟩;refine codeAny_loop (F.quiet _) (λn s'=>∃i σ' H',Inv X pins σ' H' s'/\tn i s'.heap/\(∀b∈fp,H' b=none)/\W i n σ' H') (λn s3 hI=>?_) m0 ⟨0,σ,H,I,st,λb hb=>(hf b hb).1,w0⟩;obtain⟨i,σ3,H3,I3,lD,LP,w3⟩:=hI;rw[F.under];have HA:(model X.prog X.w).den (.compLoop e d (.ref it) acc X.env)=(ly g after e d (.ref it) acc X.env).onRaise (λx=>do noteFrame x X.env;theTreesLotGoes x):=by
  rw[<- F.turn];show (if (Yj e d (.ref it) acc X.env).isFrame then _ else _)=_
  rw[F.Gx];rfl
 rw[HA];refine wpAny_noted ?_;unfold ly;rcases turn i n σ3 H3 w3 with⟨stop,qn⟩|⟨go,N,hN,step⟩
 ·refine U6 (W7 (U6 (bq (T.done X rfl rfl rfl hc i pins s3 σ3 H3 _ I3 (t6 LP) lD stop) λr s4 ⟨hr,I4⟩=>?_)));subst hr;exact Vg ⟨rfl,σ3,H3,I4,qn⟩
 ·refine U6 (W7 (U6 (bq (T.item X rfl rfl rfl hc i pins s3 σ3 H3 _ I3 (t6 LP) lD go) λr s4 ⟨u,hr,h4⟩=>?_)));subst hr;refine U6 (bq h4 λ_ s5 ⟨x,H5,I5,r5,y5,Fs,PL⟩=>?_);have Qm:=I5.pinned (t6 PL) (T.obj _ _ Fs);refine U6 (bq (g6 hx (hg _ s5 σ3 H5 x u _ Qm r5 (step x H5 y5))) λ_ s6 ⟨σ6,H6,I6,q6⟩=>?_);refine U6 (bq (g6 hx (ht _ s6 σ6 H6 _ I6 q6)) λok s7 ⟨H7,I7,q7⟩=>?_);have BM:∀{σ8:St} {H8:Hp} {s8:U7},Inv X (pins++lM fp s5.heap) σ8 H8 s8->N σ8 H8->∃m,m<n/\∃i σ' H',Inv X pins σ' H' s8/\tn i s8.heap/\(∀b∈fp,H' b=none)/\W i m σ' H':=λ{σ8 H8 s8} I8 n8=>by
   obtain⟨m',hm,w8⟩:=hN σ8 H8 n8;refine⟨m',hm,i+1,σ8,H8,I8.iS,T.keep _ _ _ Fs λb hb o e=>(I8.pin (b,o) (VM _ (VM _ (fQ hb e)))).1,λb hb=>?_,w8⟩;obtain⟨o,e,d⟩:=T.obj _ _ Fs b hb;exact(I8.pin (b,o) (VM _ (VM _ (fQ hb e)))).2.1
  cases ok with
  |false=>exact Vg ⟨rfl,BM I7 (by simpa using q7)⟩
  |true =>
   exact ha _ s7 σ6 H7 N _ _ _ I7 (by simpa using q7) λσ8 H8 s8 I8 n8=>Vg ⟨rfl,BM I8 n8⟩
theorem mJ (hx:X.xe=λ_ _=>False)(hc:X.calm=true)(F:jv e d g acc X.env after)(hg:PG X g.target tg)(ht:tK X g.ifs tt)(ha:tM X after ta)
  {it:Addr} {fp:List Addr} {tn:Nat->Heap->Prop} {J:It} (T:Turn X.prog X.w X.K g.target J fp it tn) {pins:List (Addr×Obj)} {σ:St} {H:Hp} {s:U7} {End:St->Hp->Prop}
  (I:Inv X pins σ H s) (st:tn 0 s.heap) (hf:∀b∈fp,gP X pins H b) (h:fX J tg tt ta End σ H) :
  Yp (model X.prog X.w) X.A (.compStart e d (.ref it) acc X.env) (λr s'=>r=.ok .next/\∃σ' H',Inv X pins σ' H' s'/\End σ' H') s:=by
 have lp:=yj hx hc F hg ht ha T I st hf h;refine codeAny_of_tree ?_;rw[F.Fj];have HA:(model X.prog X.w).den (.compStart e d (.ref it) acc X.env)=(compStart e d (.ref it) acc X.env).onRaise (λx=>do noteFrame x X.env;YI theWindowsPlace):=by
  show (if (Zu e d (.ref it) acc X.env).isFrame then _ else _)=_
  rw[F.JK];rfl
 rw[HA];refine wpAny_notedAt ?_;unfold compStart;rw[F.cl];simp only[Option.elim_some,F.sync];show VA _ _ (ask >>= _) _ _ s;refine U6 (wpAny_askSetting (wpAny_ite ?_))
 split
 ·first
   |exact U6 (Vg (Vg (And.intro (F.quiet _) lp)))
   |exact Vg (And.intro (F.quiet _) lp)
 ·have h2:∀(E:U5->U7->Prop),VA (model X.prog X.w) X.A (Zq (.ref it)) (λMU s'=>(Yj e d MU acc X.env).quiet=true/\Yp (model X.prog X.w) X.A (.compLoop e d MU acc X.env) (λr s'=>r=.ok .next/\∃σ' H',Inv X pins σ' H' s'/\End σ' H') s') E s :=
   λE=>T.self X.A 0 s _ E st ⟨F.quiet _,lp⟩
  first
   |exact U6 (Xx (U6 (W7 (U6 (Xi (h2 _) (λMU s' h'=>Vg h') λ_ _ x=>x)))))
   | (refine U6 (Xx ?_);exact U6 (W7 (U6 (Xi (h2 _) (λMU s' h'=>Vg h') λ_ _ x=>x))))
theorem CT {g':Xu}{wi:TI}(hx:X.xe=λ_ _=>False)(hc:X.calm=true)(F:jv e (d+1) g' acc X.env after)(hi:PI X g'.target g'.iter wi)(hg:PG X g'.target tg)(ht:tK X g'.ifs tt)(ha:tM X after ta)
  (hs:∀x,V0 g'.iter X.env x=pure x:=by intro _;rfl) :
  tM X (pU e d g' acc X.env) (λN σ H=>wi σ H λJ H1=>fX J tg tt ta N σ H1):=by
 intro pins s σ H N k Q E I h hk;unfold pU;refine U6 (bq (g6 hx (hi pins s σ H _ I h)) λx s1 h1=>?_);refine U6 (W7 (U6 (wpAny_of_eq (hs x) ?_)));refine U6 (WC (bq (g6 hx h1) λED s2 h2=>?_));obtain⟨it,fp,tn,J,H2,e1,I2,T,fY,f2,hl⟩:=h2;subst e1;refine U6 (wpAny_runOwn (XE (mJ hx hc F hg ht ha T I2 fY f2 hl) λr s' hr=>?_));obtain⟨rfl,σ',H',I',q⟩:=hr;exact hk σ' H' s' I' q
theorem i7 {elt:Expr}{te:TE}{a:Addr}(hx:X.xe=λ_ _=>False)(he:PE X elt te):
  tM X (vw (wB elt (.ref a) X.env)) (λN σ H=>te σ H λv H1=>∃xs,H1 a=some (.lst xs)/\xs.length<Vh/\N σ (upd H1 a (.lst (xs++[v])))):=by
 intro pins s σ H N k Q E I h hk;unfold vw wB;refine U6 (U6 (bq (g6 hx (he pins s σ H _ I h)) λu s1 ⟨v,H1,I1,r1,xs,hH,hz,q⟩=>?_));refine U6 (bq (g6 hx <| jJ (X:=X) pins s1 σ H1 (.ref a) [v] (.ref a) [u] (λw' H'=>N σ H') I1 rfl (.cons r1 .nil) ⟨a,xs,v,rfl,rfl,hH,hz,q⟩) λ_ s2 ⟨_,H2,I2,_,q2⟩=>?_)
 exact Vg (hk σ H2 s2 I2 q2)
end
section
variable {X:Cx}{e:Expr}
structure qw (X:Cx)(fc:Sem U5)(o:HO):Prop where
 ok:∀(pins:List (Addr×Obj)) (s:U7) (σ:St) (H:Hp) (Q:U5->U7->Prop) (E:U5->U7->Prop),Inv X pins σ H s ->
  (∀a s',s.heap.objs.size<=a->H a=none->(∀b o,s.heap.get? b=some o->s'.heap.get? b=some o)->Inv X pins σ (upd H a o) s'->Q (.ref a) s')->VA (model X.prog X.w) X.A fc Q E s
theorem i_:qw X (newList []) (.lst []) :=
 ⟨λpins s σ H Q E I h=>Wu (h _ _ (U8 _) I.fresh (λb o e=>Vi _ e) (I.GI (its:=[]) (t':=s.toks) .nil (Vv _)))⟩
theorem Inv.sameBut {pins:List (Addr×Obj)}{σ:St}{H:Hp}{s:U7}{C:Addr}{h':Heap}(I:Inv X pins σ H s)(f:gP X pins H C)(hs:X2 C s.heap h'):Inv X pins σ H {s with heap:=h'}:=by
 obtain⟨f0,f1,f2,f3,f4,f5⟩:=f;exact I.turned (t':=s.toks) (λb o hb e=>(hs.2 b hb).trans e) f0 f1 f3 f4 f5
end
end L2
namespace ST
open PySem PySem.SetTable
def e9 (m:Nat)(p:Probe):Probe:=advance {mask:=m,place:=#[],dummies:=#[],finger:=0,led:=true,moves:=0,plain:=true} p
def RV (m:Nat)(h:Int):Probe:=probeStart {mask:=m,place:=#[],dummies:=#[],finger:=0,led:=true,moves:=0,plain:=true} h
def QF (m:Nat)(h:Int):Nat->Probe
 |0=>RV m h
 |n+1=>e9 m (QF m h n)
def ME (m:Nat)(h:Int)(n:Nat):Nat:=(QF m h n).j
abbrev g (xs:Array Nat)(i:Nat):Nat:=xs.getD i 0
def T6 (xs:Array Nat):Prop:=∀i j,i<j->j<xs.size->g xs i<g xs j
def Rw (t:SetTable)(x:Nat):Prop:=∃i,i<t.place.size/\g t.place i=x
structure WF (t:SetTable)(hs:List Int):Prop where
 UW:t.dummies=#[]
 sz:t.place.size=hs.length
 Uu:T6 t.place
 U3:∀i,i<t.place.size->g t.place i<=t.mask
 Sw:∃j,3<=j/\t.mask=2 ^ j-1
 room:t.place.size<=t.mask
 Uv:∀i h,hs[i]?=some h->∃n,ME t.mask h n=g t.place i/\∀k,k<n->Rw t (ME t.mask h k)
instance (t:SetTable):DecidablePred (Rw t):=λx=>decidable_of_iff (∃i,i<t.place.size/\g t.place i=x) Iff.rfl
end ST
namespace TS
open PySem PyProof.Rows
def cn:Bool->Vb->Array Vb->Nat->Nat->Nat->StateT VF Sem (Option Nat):=sortPriv% PySem.Builtin.gallop
def ja:Array Vb->Array Vb->StateT VF Sem (Array Vb):=sortPriv% PySem.Builtin.mergeLo
def jb:Array Vb->Array Vb->StateT VF Sem (Array Vb):=sortPriv% PySem.Builtin.mergeHi
abbrev cu (st:VF)(g:Nat):VF:=SortSt.mk' (kindOf st) (VH st) (Vu st) g (XD st)
theorem uN (left:Bool)(key:Vb)(arr:Array Vb)(base n hint:Nat):cn left key arr base n hint=(do
  let ask:=λ(at_:Nat)=>(do
   let z <- elem' arr (base+at_)
   if left then lt' z key else return (<- lt' key z).map (!·):StateT VF Sem (Option Bool))
  let mut before:=0
  let mut step:=1
  let mut u:=0
  let mut v:=0
  let some up <- ask hint|return none
  if up then
   let room:=n-hint
   for _ in [0:n] do
    if step >= room then break
    let some on <- ask (hint+step)|return none
    if !on then break
    before:=step
    step:=2*step+1
   u:=hint+before+1
   v:=hint+min step room
  else
   let room:=hint+1
   for _ in [0:n] do
    if step >= room then break
    let some hit <- ask (hint-step)|return none
    if hit then break
    before:=step
    step:=2*step+1
   u:=hint+1-min step room
   v:=hint-before
  for _ in [0:n] do
   if u >= v then break
   let mid:=u+(v-u) / 2
   let some on <- ask mid|return none
   if on then u:=mid+1 else v:=mid
  return some v):=rfl
theorem rS (p q:Array Vb):ja p q=(do
  rule "list.sort.merge-lo"
  let all:=p.size+q.size
  let rest:=λ(to:Array Vb) (i j:Nat)=>to++p.extract i p.size++q.extract j q.size
  let tail:=λ(to:Array Vb) (i j:Nat)=>to++q.extract j q.size++p.extract i p.size
  let mut to:Array Vb:=#[<- elem' q 0]
  let mut i:=0
  let mut j:=1
  if j==q.size then return rest to i j
  if i+1==p.size then return tail to i j
  let mut mg:=gallopOf (<- get)
  for _ in [0:all] do
   let mut m:=0
   let mut n:=0
   for _ in [0:all] do
    let some Fg <- lt' (<- elem' q j) (<- elem' p i)|return rest to i j
    if Fg then
     to:=to.push (<- elem' q j);j:=j+1;n:=n+1;m:=0
     if j==q.size then return rest to i j
     if n >= mg then break
    else
     to:=to.push (<- elem' p i);i:=i+1;m:=m+1;n:=0
     if i+1==p.size then return tail to i j
     if m >= mg then break
   rule "list.sort.gallop"
   mg:=mg+1
   for _ in [0:all] do
    if mg>1 then mg:=mg-1
    modify λst=>cu st mg
    let some k <- cn false (<- elem' q j) p i (p.size-i) 0|return rest to i j
    m:=k
    if k>0 then
     to:=to++p.extract i (i+k);i:=i+k
     if i+1==p.size then return tail to i j
     if i==p.size then return rest to i j
    to:=to.push (<- elem' q j);j:=j+1
    if j==q.size then return rest to i j
    let some k <- cn true (<- elem' p i) q j (q.size-j) 0|return rest to i j
    n:=k
    if k>0 then
     to:=to++q.extract j (j+k);j:=j+k
     if j==q.size then return rest to i j
    to:=to.push (<- elem' p i);i:=i+1
    if i+1==p.size then return tail to i j
    if m<7&&n<7 then break
   mg:=mg+1
   modify λst=>cu st mg
  unsupported "internal:list.sort.merge-bound"):=rfl
theorem rV (p q:Array Vb):jb p q=(do
  rule "list.sort.merge-hi"
  let all:=p.size+q.size
  let rest:=λ(to:Array Vb) (i j:Nat)=>p.extract 0 i++q.extract 0 j++to.reverse
  let tail:=λ(to:Array Vb) (i j:Nat)=>q.extract 0 j++p.extract 0 i++to.reverse
  let mut i:=p.size-1
  let mut j:=q.size
  let mut to:Array Vb:=#[<- elem' p i]
  if i==0 then return rest to i j
  if j==1 then return tail to i j
  let mut mg:=gallopOf (<- get)
  for _ in [0:all] do
   let mut m:=0
   let mut n:=0
   for _ in [0:all] do
    let some Fg <- lt' (<- elem' q (j-1)) (<- elem' p (i-1))|return rest to i j
    if Fg then
     i:=i-1;to:=to.push (<- elem' p i);m:=m+1;n:=0
     if i==0 then return rest to i j
     if m >= mg then break
    else
     j:=j-1;to:=to.push (<- elem' q j);n:=n+1;m:=0
     if j==1 then return tail to i j
     if n >= mg then break
   rule "list.sort.gallop"
   mg:=mg+1
   for _ in [0:all] do
    if mg>1 then mg:=mg-1
    modify λst=>cu st mg
    let some h <- cn false (<- elem' q (j-1)) p 0 i (i-1)|return rest to i j
    let k:=i-h
    m:=k
    if k>0 then
     to:=to++(p.extract h i).reverse;i:=h
     if i==0 then return rest to i j
    j:=j-1;to:=to.push (<- elem' q j)
    if j==1 then return tail to i j
    let some h <- cn true (<- elem' p (i-1)) q 0 j (j-1)|return rest to i j
    let k:=j-h
    n:=k
    if k>0 then
     to:=to++(q.extract h j).reverse;j:=h
     if j==1 then return tail to i j
     if j==0 then return rest to i j
    i:=i-1;to:=to.push (<- elem' p i)
    if i==0 then return rest to i j
    if m<7&&n<7 then break
   mg:=mg+1
   modify λst=>cu st mg
  unsupported "internal:list.sort.merge-bound"):=rfl
theorem rX (i:Nat):mergeAt' i=(do
  let st <- get
  let (some (sa,na,pw),some (sb,nb,_)):=((Vu st)[i]?,(Vu st)[i+1]?)|unsupported "internal:list.sort.pending"
  set (XT st (((Vu st).setIfInBounds i (sa,na+nb,pw)).eraseIdxIfInBounds (i+1)))
  let some k <- cn false (<- elem' (VH st) sb) (VH st) sa na 0|return false
  let (sa,na):=(sa+k,na-k)
  if na==0 then return true
  let some nb <- cn true (<- elem' (VH st) (sa+na-1)) (VH st) sb nb (nb-1)|return false
  if nb==0 then return true
  let x:=(VH st).extract sa sb
  let y:=(VH st).extract sb (sb+nb)
  let got <- if na<=nb then ja x y else jb x y
  modify λs2=>V7 s2 (got.toList.zipIdx.foldl (λa (p,j)=>a.setIfInBounds (sa+j) p) (VH s2))
  return (XD (<- get)).isNone):=rfl
structure cg (c:Vb->Vb->Bool):Prop where
 Mj:∀x y,c x y=true->c y x=false
 QJ:∀x y z,c x z=true->c x y=true\/c y z=true
def le (c:Vb->Vb->Bool)(x y:Vb):Prop:=c y x=false
section
variable {c:Vb->Vb->Bool}
theorem cg.refl (O:cg c)(x:Vb):le c x x:=by
 cases h:c x x
 ·exact h
 ·exact O.Mj _ _ h
theorem cg.trans (O:cg c){x y z:Vb}(h1:le c x y)(h2:le c y z):le c x z:=by
 cases h:c z x
 ·exact h
 ·rcases O.QJ _ y _ h with q|q
  ·exact absurd (q.symm.trans h2) (by simp)
  ·exact absurd (q.symm.trans h1) (by simp)
theorem cg.of_lt (O:cg c){x y:Vb}(h:c x y=true):le c x y:=O.Mj _ _ h
def el (a:Array Vb)(i:Nat):Vb:=a.getD i (Value.none,Value.none)
theorem jq {a:Array Vb}{i:Nat}(h:i<a.size):a[i]?=some (el a i):=by
 rw[getElem?_pos a i h,el,Xg,getElem?_pos a i h];rfl
theorem wC {a:Array Vb}{i:Nat}{x:Vb}(h:a[i]?=some x):el a i=x:=by
 rw[el,Xg,h];rfl
theorem eG {a b:Array Vb}{i j:Nat}(h:a[i]?=b[j]?):el a i=el b j:=by
 rw[el,el,Xg,Xg,h]
def SR (c:Vb->Vb->Bool)(a:Array Vb)(lo hi:Nat):Prop:=∀i j,lo<=i->i<=j->j<hi->le c (el a i) (el a j)
def fV (prog:U_)(w:Vl)(A:VZ)(E:U5->U7->Prop)(s:U7)(κ:Xr)(c:Vb->Vb->Bool)(S:Vb->Prop):Prop :=
 ∀(x y:Vb) (st:VF) (Q:Option Bool->VF->Prop),S x->S y->kindOf st=κ->Q (some (c x y)) st->wpS (model prog w) A E s (lt' x y) Q st
end
section
variable {prog:U_}{w:Vl}{A:VZ}{E:U5->U7->Prop}{s:U7}{κ:Xr}{c:Vb->Vb->Bool}{S:Vb->Prop}
theorem aT {a:Array Vb}{i:Nat}{Q:Vb->VF->Prop}{st:VF}(h:i<a.size)(q:Q (el a i) st):wpS (model prog w) A E s (elem' a i) Q st:=by
 rw[elem'_eq,jq h];exact Vj q
def eI (c:Vb->Vb->Bool)(left:Bool)(key:Vb)(a:Array Vb)(base i:Nat):Bool:=if left=true then c (el a (base+i)) key else !c key (el a (base+i))
theorem DW (O:cg c){left:Bool}{key:Vb}{a:Array Vb}{base n i j:Nat}(hs:SR c a base (base+n))(aV:i<=j)(hj:j<n)(h:eI c left key a base j=true):eI c left key a base i=true:=by
 have hl:=hs (base+i) (base+j) (by lia) (by lia) (by lia)
 unfold eI at *
 cases left with
 |true =>
  rw[if_pos rfl]at *
  rcases O.QJ _ (el a (base+i)) _ h with q|q
  ·exact absurd (q.symm.trans hl) (by simp)
  ·exact q
 |false =>
  rw[if_neg (by simp)]at *
  rw[XM]at *
  exact O.trans hl h
theorem iQ (L:fV prog w A E s κ c S){left:Bool}{key:Vb}{a:Array Vb}{base n i:Nat}{Q:Option Bool->VF->Prop}{st:VF}(hk:kindOf st=κ)(hK:S key)(hA:∀i,i<n->S (el a (base+i)))(hn:base+n<=a.size)(hi:i<n)
  (h:Q (some (eI c left key a base i)) st):wpS (model prog w) A E s (do
   let z <- elem' a (base+i)
   if left then lt' z key else return (<- lt' key z).map (!·):StateT VF Sem (Option Bool)) Q st:=by
 refine Ve (aT (by lia) ?_)
 unfold eI at h;cases left with
 |true =>
  rw[if_pos rfl]at *
  exact L _ _ st Q (hA i hi) hK hk h
 |false =>
  rw[if_neg (by simp)]at *
  exact Ve (L _ _ st _ hK (hA i hi) hk (Vj h))
theorem dZ (O:cg c)(L:fV prog w A E s κ c S){left:Bool}{key:Vb}{a:Array Vb}{base n hint:Nat}{Q:Option Nat->VF->Prop}{st:VF}(hk:kindOf st=κ)(hK:S key)(hA:∀i,i<n->S (el a (base+i)))(hn:base+n<=a.size)
  (hs:SR c a base (base+n)) (hh:hint<n) (h:∀k,k<=n->(∀i,i<k->eI c left key a base i=true)->(∀i,k<=i->i<n->eI c left key a base i=false)->Q (some k) st) :
  wpS (model prog w) A E s (cn left key a base n hint) Q st:=by
 rw[uN];dsimp only;have up:∀{i j},i<=j->j<n->eI c left key a base j=true->eI c left key a base i=true:=λh1 h2 h3=>DW O hs h1 h2 h3;refine Ve (iQ L hk hK hA hn hh ?_);dsimp only;have dn:∀{i j},i<=j->j<n->eI c left key a base i=false->eI c left key a base j=false:=λ{i j} h1 h2 h3=>by
  cases q:eI c left key a base j
  ·rfl
  ·rw[up h1 h2 q]at h3;exact absurd h3 (by simp)
 cases M1:eI c left key a base hint with
 |true =>
  rw[if_pos rfl];refine Ve (WD (V2 (I:=λx r aC=>aC=st/\∃be e9,r=(none,be,e9)/\hint+be<n/\be<e9/\x+1<=e9/\eI c left key a base (hint+be)=true)
   (Q:=λr aC=>aC=st/\∃be e9,r=(none,be,e9)/\hint+be<n/\be<e9/\eI c left key a base (hint+be)=true/\(n-hint<=e9\/(hint+e9<n/\eI c left key a base (hint+e9)=false))) ?_ ?_ ?_) ?_)
  ·rintro x r aC _ hx ⟨rfl,be,e9,rfl,h1,h2,h3,h4⟩;dsimp only
   by_cases hr:e9 >= n-hint
   ·rw[if_pos hr];exact Vj ⟨rfl,be,e9,rfl,h1,h2,h4,.inl hr⟩
   ·rw[if_neg hr];refine Ve (iQ L hk hK hA hn (by omega) ?_)
    dsimp only;cases hb:eI c left key a base (hint+e9)with
    |true =>
     rw[if_neg (by simp)]
     exact Vj ⟨rfl,e9,_,rfl,by omega,by omega,by omega,hb⟩
    |false =>
     rw[if_pos (by simp)]
     exact Vj ⟨rfl,be,e9,rfl,h1,h2,h4,.inr ⟨by omega,hb⟩⟩
  ·rintro r aC ⟨rfl,be,e9,rfl,h1,h2,h3,h4⟩;exact⟨rfl,be,e9,rfl,h1,h2,h4,.inl (by omega)⟩
  ·exact⟨rfl,0,1,rfl,by omega,by omega,by omega,M1⟩
  rintro r aC ⟨e0,be,e9,rfl,h1,h2,h4,h5⟩;rw[e0];dsimp only;have g1:∀i,i<hint+be+1->eI c left key a base i=true:=λi hi=>up (j:=hint+be) (by omega) h1 h4
  have g2:∀i,hint+min e9 (n-hint)<=i->i<n->eI c left key a base i=false:=λi hi gc=>by
   rcases h5 with q|⟨q1,q2⟩
   ·omega
   ·exact dn (i:=hint+e9) (by omega) gc q2
  refine Ve (WD (V2 (I:=λx r aC=>aC=st/\∃u v,r=(none,u,v)/\u<=v/\v<=n/\v-u<=n-x/\(∀i,i<u->eI c left key a base i=true)/\(∀i,v<=i->i<n->eI c left key a base i=false))
   (Q:=λr aC=>aC=st/\∃v,r=(none,v,v)/\v<=n/\(∀i,i<v->eI c left key a base i=true)/\(∀i,v<=i->i<n->eI c left key a base i=false)) ?_ ?_ ?_) ?_)
  ·rintro x r aC _ hx ⟨rfl,u,v,rfl,h1,h2,h3,h4,h5⟩;dsimp only
   by_cases Ke:u >= v
   ·rw[if_pos Ke];obtain rfl:u=v:=by omega
    exact Vj ⟨rfl,u,rfl,h2,h4,h5⟩
   ·rw[if_neg Ke];refine Ve (iQ L hk hK hA hn (by omega) ?_)
    dsimp only;cases hb:eI c left key a base (u+(v-u) / 2)with
    |true =>
     rw[if_pos rfl];exact Vj ⟨rfl,_,v,rfl,by omega,h2,by omega,λi hi=>up (j:=u+(v-u) / 2) (by omega) (by omega) hb,h5⟩
    |false =>
     rw[if_neg (by simp)]
     exact Vj ⟨rfl,u,_,rfl,by omega,by omega,by omega,h4,λi hi gc=>dn (i:=u+(v-u) / 2) (by omega) (by omega) hb⟩
  ·rintro r aC ⟨rfl,u,v,rfl,h1,h2,h3,h4,h5⟩;obtain rfl:u=v:=by omega
   exact⟨rfl,u,rfl,h2,h4,h5⟩
  ·exact⟨rfl,_,_,rfl,by omega,by omega,by omega,by assumption,by assumption⟩
  ·rintro r aC ⟨rfl,v,rfl,h2,h4,h5⟩;exact Vj (h v h2 h4 h5)
 |false =>
  rw[if_neg (by simp)]
  refine Ve (WD (V2 (I:=λx r aC=>aC=st/\∃be e9,r=(none,be,e9)/\be<=hint/\be<e9/\x+1<=e9/\eI c left key a base (hint-be)=false)
   (Q:=λr aC=>aC=st/\∃be e9,r=(none,be,e9)/\be<=hint/\be<e9/\eI c left key a base (hint-be)=false/\(hint+1<=e9\/(e9<=hint/\eI c left key a base (hint-e9)=true))) ?_ ?_ ?_) ?_)
  ·rintro x r aC _ hx ⟨rfl,be,e9,rfl,h1,h2,h3,h4⟩;dsimp only
   by_cases hr:e9 >= hint+1
   ·rw[if_pos hr];exact Vj ⟨rfl,be,e9,rfl,h1,h2,h4,.inl hr⟩
   ·rw[if_neg hr];refine Ve (iQ L hk hK hA hn (by omega) ?_)
    dsimp only;cases hb:eI c left key a base (hint-e9)with
    |true =>
     rw[if_pos rfl];exact Vj ⟨rfl,be,e9,rfl,h1,h2,h4,.inr ⟨by omega,hb⟩⟩
    |false =>
     rw[if_neg (by simp)]
     exact Vj ⟨rfl,e9,_,rfl,by omega,by omega,by omega,hb⟩
  ·rintro r aC ⟨rfl,be,e9,rfl,h1,h2,h3,h4⟩;exact⟨rfl,be,e9,rfl,h1,h2,h4,.inl (by omega)⟩
  ·exact⟨rfl,0,1,rfl,by omega,by omega,by omega,M1⟩
  rintro r aC ⟨e0,be,e9,rfl,h1,h2,h4,h5⟩;rw[e0];dsimp only;have g1:∀i,i<hint+1-min e9 (hint+1)->eI c left key a base i=true:=λi hi=>by
   rcases h5 with q|⟨q1,q2⟩
   ·omega
   ·exact up (j:=hint-e9) (by omega) (by omega) q2
  have g2:∀i,hint-be<=i->i<n->eI c left key a base i=false:=λi hi gc=>dn (i:=hint-be) hi gc h4;refine Ve (WD (V2 (I:=λx r aC=>aC=st/\∃u v,r=(none,u,v)/\u<=v/\v<=n/\v-u<=n-x/\(∀i,i<u->eI c left key a base i=true)/\(∀i,v<=i->i<n->eI c left key a base i=false))
   (Q:=λr aC=>aC=st/\∃v,r=(none,v,v)/\v<=n/\(∀i,i<v->eI c left key a base i=true)/\(∀i,v<=i->i<n->eI c left key a base i=false)) ?_ ?_ ?_) ?_)
  ·rintro x r aC _ hx ⟨rfl,u,v,rfl,h1,h2,h3,h4,h5⟩;dsimp only
   by_cases Ke:u >= v
   ·rw[if_pos Ke];obtain rfl:u=v:=by omega
    exact Vj ⟨rfl,u,rfl,h2,h4,h5⟩
   ·rw[if_neg Ke];refine Ve (iQ L hk hK hA hn (by omega) ?_)
    dsimp only;cases hb:eI c left key a base (u+(v-u) / 2)with
    |true =>
     rw[if_pos rfl];exact Vj ⟨rfl,_,v,rfl,by omega,h2,by omega,λi hi=>up (j:=u+(v-u) / 2) (by omega) (by omega) hb,h5⟩
    |false =>
     rw[if_neg (by simp)]
     exact Vj ⟨rfl,u,_,rfl,by omega,by omega,by omega,h4,λi hi gc=>dn (i:=u+(v-u) / 2) (by omega) (by omega) hb⟩
  ·rintro r aC ⟨rfl,u,v,rfl,h1,h2,h3,h4,h5⟩;obtain rfl:u=v:=by omega
   exact⟨rfl,u,rfl,h2,h4,h5⟩
  ·exact⟨rfl,_,_,rfl,by omega,by omega,by omega,by assumption,by assumption⟩
  ·rintro r aC ⟨rfl,v,rfl,h2,h4,h5⟩;exact Vj (h v h2 h4 h5)
end
section
variable {c:Vb->Vb->Bool}{p q:Array Vb}{t:List Vb}{i j:Nat}
theorem vx {a:Array Vb}{i:Nat}(h:i<a.size):a.toList.take (i+1)=a.toList.take i++[el a i]:=by
 have e:a.toList[i]?=some (el a i):=by rw[Vx];exact jq h
 rw[List.take_succ,e];rfl
theorem wD {a:Array Vb}{i:Nat}(h:i<a.size):a.toList.drop i=el a i::a.toList.drop (i+1):=by
 have hl:i<a.toList.length:=by rw[Vz];exact h
 have e:a.toList[i]=el a i:=by
  have h1:=Vf hl;rw[Vx,jq h]at h1;exact(VX h1).symm
 rw[VY hl,e]
structure Mg (c:Vb->Vb->Bool)(p q:Array Vb)(t:List Vb)(i j:Nat):Prop where
 hi:i<=p.size
 hj:j<=q.size
 perm:t.Perm (p.toList.take i++q.toList.take j)
 gR:t.Pairwise (le c)
 ap:∀x∈t,∀k,i<=k->k<p.size->le c x (el p k)
 aq:∀x∈t,∀k,j<=k->k<q.size->le c x (el q k)
def Gd (c:Vb->Vb->Bool)(p q:Array Vb)(t:List Vb):Prop:=t.Perm (p.toList++q.toList)/\t.Pairwise (le c)
theorem qZ {x:Vb}(h:t.Pairwise (le c))(hx:∀y∈t,le c y x):(t++[x]).Pairwise (le c):=by
 rw[List.pairwise_append];exact⟨h,List.pairwise_singleton _ _,λy hy z hz=>by rw[Vn.mp hz];exact hx y hy⟩
theorem Mg.j7 (m:Mg c p q t i j)(hj:j<q.size)(sq:SR c q 0 q.size)(hle:∀k,i<=k->k<p.size->le c (el q j) (el p k)):Mg c p q (t++[el q j]) i (j+1) where
 hi:=m.hi
 hj:=hj
 perm:=by
  rw[vx hj,<- V5];exact m.perm.append_right _
 gR:=qZ m.gR λy hy=>m.aq y hy j (U8 _) hj
 ap:=λx hx k h1 h2=>by
  rcases VC.mp hx with h|h
  ·exact m.ap x h k h1 h2
  ·rw[Vn.mp h];exact hle k h1 h2
 aq:=λx hx k h1 h2=>by
  rcases VC.mp hx with h|h
  ·exact m.aq x h k (by lia) h2
  ·rw[Vn.mp h];exact sq j k (by lia) (by lia) h2
theorem Mg.j8 (m:Mg c p q t i j)(hi:i<p.size)(sp:SR c p 0 p.size)(hle:∀k,j<=k->k<q.size->le c (el p i) (el q k)):Mg c p q (t++[el p i]) (i+1) j where
 hi:=hi
 hj:=m.hj
 perm:=by
  rw[vx hi];refine(m.perm.append_right _).trans ?_;rw[V5,V5];exact List.Perm.append_left _ List.perm_append_comm
 gR:=qZ m.gR λy hy=>m.ap y hy i (U8 _) hi
 ap:=λx hx k h1 h2=>by
  rcases VC.mp hx with h|h
  ·exact m.ap x h k (by lia) h2
  ·rw[Vn.mp h];exact sp i k (by lia) (by lia) h2
 aq:=λx hx k h1 h2=>by
  rcases VC.mp hx with h|h
  ·exact m.aq x h k h1 h2
  ·rw[Vn.mp h];exact hle k h1 h2
theorem gL {a:Array Vb}{i k:Nat}(h:i+k<a.size):(a.toList.drop i).take (k+1)=(a.toList.drop i).take k++[el a (i+k)]:=by
 have e:(a.toList.drop i)[k]?=some (el a (i+k)):=by rw[List.getElem?_drop,Vx];exact jq h
 rw[List.take_succ,e];rfl
theorem Mg.iW (m:Mg c p q t i j)(sp:SR c p 0 p.size):∀(k:Nat),i+k<=p.size->(∀x,x<k->∀y,j<=y->y<q.size->le c (el p (i+x)) (el q y))->Mg c p q (t++(p.toList.drop i).take k) (i+k) j
 |0,_,_=>by simpa using m
 |k+1,h,hle=>by
  have m':=Mg.iW m sp k (by lia) λx hx=>hle x (by lia)
  rw[gL (by lia),<- V5,<- Nat.add_assoc]
  exact m'.j8 (by lia) sp (hle k (by lia))
theorem Mg.iV (m:Mg c p q t i j)(sq:SR c q 0 q.size):∀(k:Nat),j+k<=q.size->(∀x,x<k->∀y,i<=y->y<p.size->le c (el q (j+x)) (el p y))->Mg c p q (t++(q.toList.drop j).take k) i (j+k)
 |0,_,_=>by simpa using m
 |k+1,h,hle=>by
  have m':=Mg.iV m sq k (by lia) λx hx=>hle x (by lia)
  rw[gL (by lia),<- V5,<- Nat.add_assoc]
  exact m'.j7 (by lia) sq (hle k (by lia))
theorem Mg.full (m:Mg c p q t p.size q.size):Gd c p q t:=by
 refine⟨?_,m.gR⟩;have h:=m.perm;rw[Wg (by rw[Vz];lia),Wg (by rw[Vz];lia)]at h
 exact h
theorem cb (a:Array Vb)(i j:Nat):(a.extract i j).toList=(a.toList.drop i).take (j-i):=by
 rw[Array.toList_extract,List.extract_eq_take_drop]
theorem sX {a:Array Vb}{i j:Nat}(h:a.size<=i):(a.toList.drop i).take (j-i)=[]:=by
 rw[Ww (by rw[Vz];exact h)]
 simp
theorem Mg.done {to:Array Vb}(m:Mg c p q to.toList i j)(sp:SR c p 0 p.size)(sq:SR c q 0 q.size)(h:i=p.size\/j=q.size):Gd c p q (to++p.extract i p.size++q.extract j q.size).toList:=by
 rw[Wz,Wz,cb,cb];rcases h with rfl|rfl
 ·rw[sX (U8 _),Ws];have m':=m.iV sq (q.size-j) (by have:=m.hj;lia) λx hx y h1 h2=>by lia
  rw[show j+(q.size-j)=q.size by have:=m.hj;lia]at m'
  exact m'.full
 ·rw[sX (a:=q) (U8 _),Ws];have m':=m.iW sp (p.size-i) (by have:=m.hi;lia) λx hx y h1 h2=>by lia
  rw[show i+(p.size-i)=p.size by have:=m.hi;lia]at m'
  exact m'.full
theorem Mg.tail {to:Array Vb}(O:cg c)(m:Mg c p q to.toList i j)(sp:SR c p 0 p.size)(sq:SR c q 0 q.size)(h:i+1=p.size)(hl:∀y,y<q.size->c (el q y) (el p (p.size-1))=true):Gd c p q (to++q.extract j q.size++p.extract i p.size).toList:=by
 rw[Wz,Wz,cb,cb];have m':=m.iV sq (q.size-j) (by have:=m.hj;lia) λx hx y h1 h2=>by
  rw[show y=p.size-1 by lia]
  exact O.of_lt (hl _ (by lia))
 rw[show j+(q.size-j)=q.size by have:=m.hj;lia]at m'
 have m2:=m'.iW sp (p.size-i) (by have:=m.hi;lia) λx hx y h1 h2=>by lia
 rw[show i+(p.size-i)=p.size by have:=m.hi;lia]at m2
 exact m2.full
theorem wO (to a:Array Vb)(i k:Nat):(to++a.extract i (i+k)).toList=to.toList++(a.toList.drop i).take k:=by
 rw[Wz,cb,show i+k-i=k by lia]
theorem Mg.start (O:cg c)(sp:SR c p 0 p.size)(sq:SR c q 0 q.size)(hq:0<q.size)(hp:0<p.size)(h:c (el q 0) (el p 0)=true):Mg c p q [el q 0] 0 1:=by
 have m:Mg c p q [] 0 0:=⟨Vv _,Vv _,(by simp),.nil,(λx hx=>by cases hx),(λx hx=>by cases hx)⟩
 exact m.j7 hq sq λk _ hk=>O.trans (O.of_lt h) (sp 0 k (by lia) (by lia) hk)
end
structure j3 (st aC:VF):Prop where
 kind:kindOf aC=kindOf st
 arr:VH aC=VH st
 pend:Vu aC=Vu st
 fail:XD aC=XD st
theorem j3.refl (st:VF):j3 st st:=⟨rfl,rfl,rfl,rfl⟩
theorem j3.EL {st aC:VF}(e:j3 st aC)(g:Nat):j3 st (cu aC g):=⟨e.kind,e.arr,e.pend,e.fail⟩
abbrev RI:=Array Vb×Nat×Nat×Nat×Nat
abbrev RG:=Array Vb×Nat×Nat×Nat×Nat×Nat
abbrev RO:=Array Vb×Nat×Nat×Nat
def Oo (p q t:Array Vb)(i j mg m n:Nat):StateT VF Sem (ForInStep (Option (Array Vb)×RG)):=do
 let z <- elem' p i
 if (i+1+1==p.size)=true then pure (.done (some (t.push z++q.extract j++p.extract (i+1)),t.push z,i+1,j,mg,m,n))
 else if (decide (m<7)&&decide (n<7))=true then pure (.done (none,t.push z,i+1,j,mg,m,n)) else pure (.yield (none,t.push z,i+1,j,mg,m,n))
def Oq (p q t:Array Vb)(i j mg m n:Nat):StateT VF Sem (ForInStep (Option (Array Vb)×RG)):=do
 let y <- elem' q j
 if (j+1==q.size)=true then pure (.done (some (t.push y++p.extract i++q.extract (j+1)),t.push y,i,j+1,mg,m,n))
 else do
  let x <- elem' p i
  let r <- cn true x q (j+1) (q.size-(j+1)) 0
  match r with
  |some k=>if k>0 then (if (j+1+k==q.size)=true then pure (.done (some (t.push y++q.extract (j+1) (j+1+k)++p.extract i++q.extract (j+1+k)),t.push y++q.extract (j+1) (j+1+k),i,j+1+k,mg,m,k))
    else Oo p q (t.push y++q.extract (j+1) (j+1+k)) i (j+1+k) mg m k) else Oo p q (t.push y) i (j+1) mg m k
  |_=>pure (.done (some (t.push y++p.extract i++q.extract (j+1)),t.push y,i,j+1,mg,m,n))
def J2 (p q t:Array Vb)(i j mg m n:Nat):StateT VF Sem (ForInStep (Option (Array Vb)×RG)):=do
 modify λst=>cu st mg
 let y <- elem' q j
 let r <- cn false y p i (p.size-i) 0
 match r with
 |some k=>if k>0 then (if (i+k+1==p.size)=true then pure (.done (some (t++p.extract i (i+k)++q.extract j++p.extract (i+k)),t++p.extract i (i+k),i+k,j,mg,k,n))
   else if (i+k==p.size)=true then pure (.done (some (t++p.extract i (i+k)++p.extract (i+k)++q.extract j),t++p.extract i (i+k),i+k,j,mg,k,n))
   else Oq p q (t++p.extract i (i+k)) (i+k) j mg k n) else Oq p q t i j mg k n
 |_=>pure (.done (some (t++p.extract i++q.extract j),t,i,j,mg,m,n))
def SA (p q:Array Vb)(s:Option (Array Vb)×RG):StateT VF Sem (ForInStep (Option (Array Vb)×RG)):=if s.2.2.2.2.1>1 then J2 p q s.2.1 s.2.2.1 s.2.2.2.1 (s.2.2.2.2.1-1) s.2.2.2.2.2.1 s.2.2.2.2.2.2 else J2 p q s.2.1 s.2.2.1 s.2.2.2.1 s.2.2.2.2.1 s.2.2.2.2.2.1 s.2.2.2.2.2.2
def J1 (p q:Array Vb)(mg:Nat)(s:Option (Array Vb)×RI):StateT VF Sem (ForInStep (Option (Array Vb)×RI)):=do
 let y <- elem' q s.2.2.2.1
 if (s.2.2.2.1+1==q.size)=true then pure (.done (some (s.2.1.push y++p.extract s.2.2.1++q.extract (s.2.2.2.1+1)),s.2.1.push y,s.2.2.1,s.2.2.2.1+1,0,s.2.2.2.2.2+1))
 else if s.2.2.2.2.2+1 >= mg then pure (.done (none,s.2.1.push y,s.2.2.1,s.2.2.2.1+1,0,s.2.2.2.2.2+1)) else pure (.yield (none,s.2.1.push y,s.2.2.1,s.2.2.2.1+1,0,s.2.2.2.2.2+1))
def J0 (p q:Array Vb)(mg:Nat)(s:Option (Array Vb)×RI):StateT VF Sem (ForInStep (Option (Array Vb)×RI)):=do
 let x <- elem' p s.2.2.1
 if (s.2.2.1+1+1==p.size)=true then pure (.done (some (s.2.1.push x++q.extract s.2.2.2.1++p.extract (s.2.2.1+1)),s.2.1.push x,s.2.2.1+1,s.2.2.2.1,s.2.2.2.2.1+1,0))
 else if s.2.2.2.2.1+1 >= mg then pure (.done (none,s.2.1.push x,s.2.2.1+1,s.2.2.2.1,s.2.2.2.2.1+1,0)) else pure (.yield (none,s.2.1.push x,s.2.2.1+1,s.2.2.2.1,s.2.2.2.2.1+1,0))
def Om (p q:Array Vb)(mg:Nat)(s:Option (Array Vb)×RI):StateT VF Sem (ForInStep (Option (Array Vb)×RI)):=do
 let y <- elem' q s.2.2.2.1
 let x <- elem' p s.2.2.1
 let r <- lt' y x
 match r with
 |some Fg=>if Fg=true then J1 p q mg s else J0 p q mg s
 |_=>pure (.done (some (s.2.1++p.extract s.2.2.1++q.extract s.2.2.2.1),s.2.1,s.2.2.1,s.2.2.2.1,s.2.2.2.2.1,s.2.2.2.2.2))
def QP (p q:Array Vb)(s:Option (Array Vb)×RO):StateT VF Sem (ForInStep (Option (Array Vb)×RO)):=do
 let s1 <- forIn [:p.size+q.size] ((none,s.2.1,s.2.2.1,s.2.2.2.1,0,0):Option (Array Vb)×RI) λ_ r=>Om p q s.2.2.2.2 r
 match s1.1 with
 |some r=>pure (.done (some r,s1.2.1,s1.2.2.1,s1.2.2.2.1,s.2.2.2.2))
 |none=>do
  liftM (rule "list.sort.gallop")
  let s2 <- forIn [:p.size+q.size] ((none,s1.2.1,s1.2.2.1,s1.2.2.2.1,s.2.2.2.2+1,s1.2.2.2.2.1,s1.2.2.2.2.2):Option (Array Vb)×RG) λ_ r=>SA p q r
  match s2.1 with
  |some r=>pure (.done (some r,s2.2.1,s2.2.2.1,s2.2.2.2.1,s2.2.2.2.2.1))
  |none=>do
   modify λst=>cu st (s2.2.2.2.2.1+1)
   pure (.yield (none,s2.2.1,s2.2.2.1,s2.2.2.2.1,s2.2.2.2.2.1+1))
theorem rT (p q:Array Vb):ja p q=(do
  liftM (rule "list.sort.merge-lo")
  let y <- elem' q 0
  if (1==q.size)=true then pure (#[y]++p.extract 0++q.extract 1)
  else if (0+1==p.size)=true then pure (#[y]++q.extract 1++p.extract 0)
  else do
   let st <- get
   let s <- forIn [:p.size+q.size] ((none,#[y],0,1,gallopOf st):Option (Array Vb)×RO) λ_ s=>QP p q s
   match s.1 with
   |some r=>pure r
   |none=>liftM (unsupported "internal:list.sort.merge-bound" : Sem (Array Vb))):=by
 rw[rS];dsimp only;refine congrArg (bind _) (funext λ_=>?_);refine congrArg (bind _) (funext λy=>?_);refine congrArg (ite _ _) (congrArg (ite _ _) ?_);refine congrArg (bind _) (funext λy=>?_);refine congr (congrArg bind (congrArg _ (funext λ_=>funext λs=>?_))) (funext λs=>?_)
 ·refine congr (congrArg bind (congrArg _ (funext λ_=>funext λs=>?_))) (funext λs=>?_)
  ·rfl
  ·cases s.1
   ·refine congrArg (bind _) (funext λ_=>?_);refine congr (congrArg bind (congrArg _ (funext λ_=>funext λs=>?_))) (funext λs=>?_)
    ·rfl
    ·cases s.1 <;> rfl
   ·rfl
 ·cases s.1 <;> rfl
section
variable {prog:U_}{w:Vl}{A:VZ}{E:U5->U7->Prop}{s:U7}{κ:Xr}{c:Vb->Vb->Bool}{S:Vb->Prop}{p q:Array Vb}
theorem yI {st:VF}{Q:ForInStep (Option (Array Vb)×RG)->VF->Prop}{t:Array Vb}{i j mg m n:Nat}(O:cg c)(sp:SR c p 0 p.size)(sq:SR c q 0 q.size)(hl:∀y,y<q.size->c (el q y) (el p (p.size-1))=true)(m3:Mg c p q t.toList i j)(hi:i+1<p.size)(g3:∀y,j<=y->y<q.size->le c (el p i) (el q y))
  (hd:∀out r,Gd c p q out.toList->Q (.done (some out,r)) st) (hn:∀t' m n,Mg c p q t'.toList (i+1) j->i+1+1<p.size->Q (.done (none,t',i+1,j,mg,m,n)) st/\Q (.yield (none,t',i+1,j,mg,m,n)) st):wpS (model prog w) A E s (Oo p q t i j mg m n) Q st:=by
 refine Ve (aT (by lia) ?_)
 have m4:Mg c p q (t.push (el p i)).toList (i+1) j:=by
  rw[Xf];exact m3.j8 (by lia) sp g3
 by_cases e5:(i+1+1==p.size)=true
 ·rw[if_pos e5];exact Vj (hd _ _ (m4.tail O sp sq (by simpa using e5) hl))
 rw[if_neg e5];have h5:i+1+1≠p.size:=by simpa using e5
 obtain⟨h6,h7⟩:=hn (t.push (el p i)) m n m4 (by lia)
 split
 ·exact Vj h6
 ·exact Vj h7
theorem yJ {st:VF}{Q:ForInStep (Option (Array Vb)×RG)->VF->Prop}{t:Array Vb}{i j mg m n:Nat}(O:cg c)(L:fV prog w A E s κ c S)(hk:kindOf st=κ)(Sp:∀i,i<p.size->S (el p i))(Sq:∀i,i<q.size->S (el q i))(sp:SR c p 0 p.size)(sq:SR c q 0 q.size)(hl:∀y,y<q.size->c (el q y) (el p (p.size-1))=true)(m1:Mg c p q t.toList i j)(hi:i+1<p.size)(hj:j<q.size)(g1:∀y,i<=y->y<p.size->le c (el q j) (el p y))
  (hd:∀out r,Gd c p q out.toList->Q (.done (some out,r)) st) (hn:∀t' j' m n,Mg c p q t'.toList (i+1) j'->i+1+1<p.size->j<j'->j'<q.size->Q (.done (none,t',i+1,j',mg,m,n)) st/\Q (.yield (none,t',i+1,j',mg,m,n)) st):wpS (model prog w) A E s (Oq p q t i j mg m n) Q st:=by
 refine Ve (aT hj ?_);have m2:Mg c p q (t.push (el q j)).toList i (j+1):=by
  rw[Xf];exact m1.j7 hj sq g1
 by_cases e3:(j+1==q.size)=true
 ·rw[if_pos e3];exact Vj (hd _ _ (m2.done sp sq (.inr (by simpa using e3))))
 rw[if_neg e3];have h3:j+1≠q.size:=by simpa using e3
 refine Ve (aT (by lia) (Ve (dZ O L hk (Sp _ (by lia)) (λx hx=>Sq _ (by lia)) (by lia) (λa b h1 h2 h3=>sq a b (by lia) h2 (by lia)) (by lia) λk k1 k2 k3=>?_)))
 have g3:∀y,j+1+k<=y->y<q.size->le c (el p i) (el q y):=λy h1 h2=>by
  have:=k3 (y-(j+1)) (by lia) (by lia)
  unfold eI at this;rw[if_pos rfl,show j+1+(y-(j+1))=y by lia]at this
  exact this
 dsimp only
 by_cases xV:k>0
 ·rw[if_pos xV];have m3:Mg c p q (t.push (el q j)++q.extract (j+1) (j+1+k)).toList i (j+1+k):=by
   rw[wO];exact m2.iV sq k (by lia) λx hx y h1 h2=>O.trans (O.of_lt (show c (el q (j+1+x)) (el p i)=true from k2 x hx)) (sp _ y (by lia) h1 h2)
  by_cases e4:(j+1+k==q.size)=true
  ·rw[if_pos e4];exact Vj (hd _ _ (m3.done sp sq (.inr (by simpa using e4))))
  rw[if_neg e4];have h4:j+1+k≠q.size:=by simpa using e4
  exact yI O sp sq hl m3 hi g3 hd λt' m n h1 h2=>hn t' _ m n h1 h2 (by lia) (by lia)
 ·rw[if_neg xV];exact yI O sp sq hl m2 hi (λy h1 h2=>g3 y (by lia) h2) hd λt' m n h1 h2=>hn t' _ m n h1 h2 (by lia) (by lia)
theorem Fc {st:VF}{Q:ForInStep (Option (Array Vb)×RG)->VF->Prop}{t:Array Vb}{i j mg m n:Nat}(O:cg c)(L:fV prog w A E s κ c S)(hk:kindOf st=κ)(Sp:∀i,i<p.size->S (el p i))(Sq:∀i,i<q.size->S (el q i))(sp:SR c p 0 p.size)(sq:SR c q 0 q.size)(hl:∀y,y<q.size->c (el q y) (el p (p.size-1))=true)(m0:Mg c p q t.toList i j)(hi:i+1<p.size)(hj:j<q.size)
  (hd:∀out r,Gd c p q out.toList->Q (.done (some out,r)) (cu st mg)) (hn:∀t' i' j' m n,Mg c p q t'.toList i' j'->i'+1<p.size->j'<q.size->i+j<i'+j'->Q (.done (none,t',i',j',mg,m,n)) (cu st mg)/\Q (.yield (none,t',i',j',mg,m,n)) (cu st mg)):wpS (model prog w) A E s (J2 p q t i j mg m n) Q st:=by
 refine Ve (Xh (Ve (aT hj (Ve (dZ O L hk (Sq _ hj) (λx hx=>Sp _ (by lia)) (by lia) (λa b h1 h2 h3=>sp a b (by lia) h2 (by lia)) (by lia) λk k1 k2 k3=>?_)))))
 have g0:∀x,x<k->le c (el p (i+x)) (el q j):=λx hx=>by
  have:=k2 x hx;unfold eI at this;rw[if_neg (by simp),XM]at this
  exact this
 have g1:∀y,i+k<=y->y<p.size->le c (el q j) (el p y):=λy h1 h2=>by
  have:=k3 (y-i) (by lia) (by lia)
  unfold eI at this;rw[if_neg (by simp),YX,show i+(y-i)=y by lia]at this
  exact O.of_lt this
 have UL:i+k<p.size:=by
  rcases WS (i+k) p.size with dU|Rb
  ·exact dU
  ·have h1:=g0 (p.size-1-i) (by lia)
   rw[show i+(p.size-1-i)=p.size-1 by lia]at h1
   exact absurd ((hl j hj).symm.trans h1) (by simp)
 dsimp only
 by_cases xV:k>0
 ·rw[if_pos xV];have m1:Mg c p q (t++p.extract i (i+k)).toList (i+k) j:=by
   rw[wO];exact m0.iW sp k (by lia) λx hx y h1 h2=>O.trans (g0 x hx) (sq j y (by lia) h1 h2)
  by_cases e1:(i+k+1==p.size)=true
  ·rw[if_pos e1];exact Vj (hd _ _ (m1.tail O sp sq (by simpa using e1) hl))
  rw[if_neg e1];have xY:i+k+1≠p.size:=by simpa using e1
  rw[if_neg (by simp;lia)]
  exact yJ O L hk Sp Sq sp sq hl m1 (by lia) hj g1 hd λt' j' m n h1 h2 h3 h4=>hn t' _ j' m n h1 h2 h4 (by lia)
 ·rw[if_neg xV];exact yJ O L hk Sp Sq sp sq hl m0 hi hj (λy h1 h2=>g1 y (by lia) h2) hd λt' j' m n h1 h2 h3 h4=>hn t' _ j' m n h1 h2 h4 (by lia)
theorem Fb {st:VF}{Q:ForInStep (Option (Array Vb)×RI)->VF->Prop}{t:Array Vb}{i j mg ma na:Nat}(O:cg c)(L:fV prog w A E s κ c S)(hk:kindOf st=κ)(Sp:∀i,i<p.size->S (el p i))(Sq:∀i,i<q.size->S (el q i))(sp:SR c p 0 p.size)(sq:SR c q 0 q.size)(hl:∀y,y<q.size->c (el q y) (el p (p.size-1))=true)(m:Mg c p q t.toList i j)(hi:i+1<p.size)(hj:j<q.size)
  (hd:∀out r,Gd c p q out.toList->Q (.done (some out,r)) st) (hn:∀t' i' j' m n,Mg c p q t'.toList i' j'->i'+1<p.size->j'<q.size->i+j<i'+j'->Q (.done (none,t',i',j',m,n)) st/\Q (.yield (none,t',i',j',m,n)) st):wpS (model prog w) A E s (Om p q mg (none,t,i,j,ma,na)) Q st:=by
 unfold Om J1 J0;dsimp only;refine Ve (aT hj (Ve (aT (by lia) (Ve (L _ _ st _ (Sq _ hj) (Sp _ (by lia)) hk ?_)))))
 dsimp only;cases hc:c (el q j) (el p i)with
 |true =>
  rw[if_pos rfl];refine Ve (aT hj ?_);have m1:Mg c p q (t.push (el q j)).toList i (j+1):=by
   rw[Xf];exact m.j7 hj sq λk h1 h2=>O.trans (O.of_lt hc) (sp i k (by lia) h1 h2)
  by_cases e3:(j+1==q.size)=true
  ·rw[if_pos e3];exact Vj (hd _ _ (m1.done sp sq (.inr (by simpa using e3))))
  rw[if_neg e3];have h3:j+1≠q.size:=by simpa using e3
  obtain⟨h6,h7⟩:=hn _ _ _ 0 (na+1) m1 hi (by lia) (by lia)
  split
  ·exact Vj h6
  ·exact Vj h7
 |false =>
  rw[if_neg (by simp)]
  refine Ve (aT (by lia) ?_)
  have m1:Mg c p q (t.push (el p i)).toList (i+1) j:=by
   rw[Xf];exact m.j8 (by lia) sp λk h1 h2=>O.trans (show le c (el p i) (el q j) from hc) (sq j k (by lia) h1 h2)
  by_cases e3:(i+1+1==p.size)=true
  ·rw[if_pos e3];exact Vj (hd _ _ (m1.tail O sp sq (by simpa using e3) hl))
  rw[if_neg e3];have h3:i+1+1≠p.size:=by simpa using e3
  obtain⟨h6,h7⟩:=hn _ _ _ (ma+1) 0 m1 (by lia) hj (by lia)
  split
  ·exact Vj h6
  ·exact Vj h7
theorem tT (O:cg c)(L:fV prog w A E s κ c S){Q:Array Vb->VF->Prop}{st:VF}(hk:kindOf st=κ)(Sp:∀i,i<p.size->S (el p i))(Sq:∀i,i<q.size->S (el q i))(sp:SR c p 0 p.size)(sq:SR c q 0 q.size)
  (hp:0<p.size) (hq:0<q.size) (hf:c (el q 0) (el p 0)=true) (hl:∀y,y<q.size->c (el q y) (el p (p.size-1))=true) (h:∀to aC,j3 st aC->Gd c p q to.toList->Q to aC) :
  wpS (model prog w) A E s (ja p q) Q st:=by
 rw[rT];refine Ve (YB (Xx ⟨rfl,?_⟩));refine Ve (aT hq ?_);have m0:Mg c p q (#[el q 0]:Array Vb).toList 0 1:=Mg.start O sp sq hq hp hf
 by_cases h1:(1==q.size)=true
 ·rw[if_pos h1];exact Vj (h _ st (j3.refl st) (m0.done sp sq (.inr (by simpa using h1))))
 rw[if_neg h1]
 by_cases h2:(0+1==p.size)=true
 ·rw[if_pos h2];exact Vj (h _ st (j3.refl st) (m0.tail O sp sq (by simpa using h2) hl))
 rw[if_neg h2];refine Ve (X9 ?_);refine Ve (WD (V2
  (I:=λx r aC=>j3 st aC/\∃to i j mg,r=(none,to,i,j,mg)/\Mg c p q to.toList i j/\i+1<p.size/\j<q.size/\x<i+j)
  (Q:=λr aC=>j3 st aC/\∃out r',r=(some out,r')/\Gd c p q out.toList) ?_ ?_ ?_) ?_)
 ·rintro x r aC _ hx ⟨e,to,i,j,mg,rfl,m,hi,hj,hb⟩;unfold QP;dsimp only;refine Ve (WD (V2
   (I:=λy r aC=>j3 st aC/\∃to i j m n,r=(none,to,i,j,m,n)/\Mg c p q to.toList i j/\i+1<p.size/\j<q.size/\x+min y 1<i+j)
   (Q:=λr aC=>j3 st aC/\((∃out r',r=(some out,r')/\Gd c p q out.toList)\/∃to i j m n,r=(none,to,i,j,m,n)/\Mg c p q to.toList i j/\i+1<p.size/\j<q.size/\x+1<i+j)) ?_ ?_ ?_) ?_)
  ·rintro y r fY _ hy ⟨e2,to,i,j,ma,na,rfl,m,hi,hj,hb⟩;exact Fb O L (e2.kind.trans hk) Sp Sq sp sq hl m hi hj (λout r h=>⟨e2,.inl ⟨_,_,rfl,h⟩⟩) λt' i' j' m n h1 h2 h3 h4=>⟨⟨e2,.inr ⟨_,_,_,_,_,rfl,h1,h2,h3,by lia⟩⟩,⟨e2,_,_,_,_,_,rfl,h1,h2,h3,by lia⟩⟩
  ·rintro r fY ⟨e2,to,i,j,ma,na,rfl,m,hi,hj,hb⟩;exact⟨e2,.inr ⟨_,_,_,_,_,rfl,m,hi,hj,by lia⟩⟩
  ·exact⟨e,_,_,_,_,_,rfl,m,hi,hj,by lia⟩
  rintro r fY ⟨e2,⟨out,r',rfl,g⟩|⟨to,i,j,ma,na,rfl,m,hi,hj,hb⟩⟩
  ·exact Vj ⟨e2,_,_,rfl,g⟩
  dsimp only;refine Ve (YB (Xx ⟨rfl,?_⟩));refine Ve (WD (V2
   (I:=λy r aC=>j3 st aC/\∃to i j mg m n,r=(none,to,i,j,mg,m,n)/\Mg c p q to.toList i j/\i+1<p.size/\j<q.size/\x+1<i+j)
   (Q:=λr aC=>j3 st aC/\((∃out r',r=(some out,r')/\Gd c p q out.toList)\/∃to i j mg m n,r=(none,to,i,j,mg,m,n)/\Mg c p q to.toList i j/\i+1<p.size/\j<q.size/\x+1<i+j)) ?_ ?_ ?_) ?_)
  ·rintro y r fY _ hy ⟨e2,to,i,j,mg,ma,na,rfl,m,hi,hj,hb⟩;show wpS (model prog w) A E s (if mg>1 then J2 p q to i j (mg-1) ma na else J2 p q to i j mg ma na) _ fY
   split <;> exact Fc O L (e2.kind.trans hk) Sp Sq sp sq hl m hi hj (λout r h=>⟨e2.EL _,.inl ⟨_,_,rfl,h⟩⟩) λt' i' j' m n h1 h2 h3 h4=>⟨⟨e2.EL _,.inr ⟨_,_,_,_,_,_,rfl,h1,h2,h3,by lia⟩⟩,⟨e2.EL _,_,_,_,_,_,_,rfl,h1,h2,h3,by lia⟩⟩
  ·rintro r fY ⟨e2,to,i,j,mg,ma,na,rfl,m,hi,hj,hb⟩;exact⟨e2,.inr ⟨_,_,_,_,_,_,rfl,m,hi,hj,hb⟩⟩
  ·exact⟨e2,_,_,_,_,_,_,rfl,m,hi,hj,hb⟩
  rintro r fY ⟨e2,⟨out,r',rfl,g⟩|⟨to,i,j,mg,ma,na,rfl,m,hi,hj,hb⟩⟩
  ·exact Vj ⟨e2,_,_,rfl,g⟩
  dsimp only;refine Ve (Xh (Vj ⟨e2.EL _,_,_,_,_,rfl,m,hi,hj,by lia⟩))
 ·rintro r aC ⟨e,to,i,j,mg,rfl,m,hi,hj,hb⟩
  exfalso
  rw[show max 0 (p.size+q.size)=p.size+q.size by lia]at hb
  lia
 ·exact⟨j3.refl st,_,_,_,_,rfl,m0,by simp at h2;lia,by simp at h1;lia,by lia⟩
 ·rintro r aC ⟨e,out,r',rfl,g⟩;exact Vj (h _ aC e g)
end
section
variable {c:Vb->Vb->Bool}{p q:Array Vb}{t:List Vb}{i j:Nat}
structure Mh (c:Vb->Vb->Bool)(p q:Array Vb)(t:List Vb)(i j:Nat):Prop where
 hi:i<=p.size
 hj:j<=q.size
 perm:t.Perm (p.toList.drop i++q.toList.drop j)
 gR:t.Pairwise (le c)
 ap:∀x∈t,∀k,k<i->le c (el p k) x
 aq:∀x∈t,∀k,k<j->le c (el q k) x
theorem oH {a:Array Vb}{i:Nat}(h0:0<i)(h:i<=a.size):a.toList.drop (i-1)=el a (i-1)::a.toList.drop i:=by
 rw[wD (by lia),show i-1+1=i by lia]
theorem Mh.j8 (m:Mh c p q t i j)(h0:0<i)(sp:SR c p 0 p.size)(hle:∀k,k<j->le c (el q k) (el p (i-1))):Mh c p q (el p (i-1)::t) (i-1) j where
 hi:=by have:=m.hi;lia
 hj:=m.hj
 perm:=by
  rw[oH h0 m.hi];exact m.perm.cons _
 gR:=Wa.mpr ⟨λx hx=>m.ap x hx _ (by lia),m.gR⟩
 ap:=λx hx k hk=>by
  rcases Va.mp hx with rfl|h
  ·exact sp k (i-1) (by lia) (by lia) (by have:=m.hi;lia)
  ·exact m.ap x h k (by lia)
 aq:=λx hx k hk=>by
  rcases Va.mp hx with rfl|h
  ·exact hle k hk
  ·exact m.aq x h k hk
theorem Mh.j7 (m:Mh c p q t i j)(h0:0<j)(sq:SR c q 0 q.size)(hle:∀k,k<i->le c (el p k) (el q (j-1))):Mh c p q (el q (j-1)::t) i (j-1) where
 hi:=m.hi
 hj:=by have:=m.hj;lia
 perm:=by
  rw[oH h0 m.hj];exact(m.perm.cons _).trans List.perm_middle.symm
 gR:=Wa.mpr ⟨λx hx=>m.aq x hx _ (by lia),m.gR⟩
 ap:=λx hx k hk=>by
  rcases Va.mp hx with rfl|h
  ·exact hle k hk
  ·exact m.ap x h k hk
 aq:=λx hx k hk=>by
  rcases Va.mp hx with rfl|h
  ·exact sq k (j-1) (by lia) (by lia) (by have:=m.hj;lia)
  ·exact m.aq x h k (by lia)
theorem nJ {a:Array Vb}{i k:Nat}(h0:k<i)(h:i<=a.size):(a.toList.drop (i-(k+1))).take (k+1)=el a (i-(k+1))::(a.toList.drop (i-k)).take k:=by
 rw[wD (by lia),show i-(k+1)+1=i-k by lia,List.take_succ_cons]
theorem Mh.yV (m:Mh c p q t i j)(sp:SR c p 0 p.size):∀(k:Nat),k<=i->(∀x,i-k<=x->x<i->∀y,y<j->le c (el q y) (el p x))->Mh c p q ((p.toList.drop (i-k)).take k++t) (i-k) j
 |0,_,_=>by simpa using m
 |k+1,h,hle=>by
  have m':=Mh.yV m sp k (by lia) λx h1 h2=>hle x (by lia) h2
  rw[nJ (by lia) m.hi,List.cons_append]
  exact m'.j8 (by lia) sp λy hy=>hle _ (by lia) (by lia) y hy
theorem Mh.yU (m:Mh c p q t i j)(sq:SR c q 0 q.size):∀(k:Nat),k<=j->(∀x,j-k<=x->x<j->∀y,y<i->le c (el p y) (el q x))->Mh c p q ((q.toList.drop (j-k)).take k++t) i (j-k)
 |0,_,_=>by simpa using m
 |k+1,h,hle=>by
  have m':=Mh.yU m sq k (by lia) λx h1 h2=>hle x (by lia) h2
  rw[nJ (by lia) m.hj,List.cons_append]
  exact m'.j7 (by lia) sq λy hy=>hle _ (by lia) (by lia) y hy
theorem Mh.iW (m:Mh c p q t i j)(sp:SR c p 0 p.size){h:Nat}(hh:h<=i)(hle:∀x,h<=x->x<i->∀y,y<j->le c (el q y) (el p x)):Mh c p q ((p.toList.drop h).take (i-h)++t) h j:=by
 have m':=m.yV sp (i-h) (by lia) λx h1 h2=>hle x (by lia) h2
 rw[show i-(i-h)=h by lia]at m'
 exact m'
theorem Mh.iV (m:Mh c p q t i j)(sq:SR c q 0 q.size){h:Nat}(hh:h<=j)(hle:∀x,h<=x->x<j->∀y,y<i->le c (el p y) (el q x)):Mh c p q ((q.toList.drop h).take (j-h)++t) i h:=by
 have m':=m.yU sq (j-h) (by lia) λx h1 h2=>hle x (by lia) h2
 rw[show j-(j-h)=h by lia]at m'
 exact m'
theorem Mh.full (m:Mh c p q t 0 0):Gd c p q t:=⟨m.perm,m.gR⟩
theorem JD (a b to:Array Vb)(i j:Nat):(a.extract 0 i++b.extract 0 j++to.reverse).toList=(a.toList.drop 0).take (i-0)++((b.toList.drop 0).take (j-0)++to.toList.reverse):=by
 rw[Wz,Wz,cb,cb,Array.toList_reverse,V5]
theorem Mh.done {to:Array Vb}(m:Mh c p q to.toList.reverse i j)(sp:SR c p 0 p.size)(sq:SR c q 0 q.size)(h:i=0\/j=0):Gd c p q (p.extract 0 i++q.extract 0 j++to.reverse).toList:=by
 rw[JD];rcases h with rfl|rfl
 ·have m':=m.iV sq (h:=0) (Vv _) λx _ _ y hy=>by lia
  exact(m'.iW sp (h:=0) (Vv _) λx _ hx=>by lia).full
 ·have m':=m.iV sq (h:=0) (Vv _) λx _ hx=>by lia
  exact(m'.iW sp (h:=0) (Vv _) λx _ hx y hy=>by lia).full
theorem Mh.tail {to:Array Vb}(O:cg c)(m:Mh c p q to.toList.reverse i j)(sp:SR c p 0 p.size)(sq:SR c q 0 q.size)(h:j=1)(hf:c (el q 0) (el p 0)=true):Gd c p q (q.extract 0 j++p.extract 0 i++to.reverse).toList:=by
 rw[JD];subst h;have m':=m.iW sp (h:=0) (Vv _) λx _ hx y hy=>by
  obtain rfl:y=0:=by lia
  exact O.trans (O.of_lt hf) (sp 0 x (by lia) (by lia) (by have:=m.hi;lia))
 exact(m'.iV sq (h:=0) (Vv _) λx _ _ y hy=>by lia).full
theorem i3 (to:Array Vb)(x:Vb):(to.push x).toList.reverse=x::to.toList.reverse:=by
 rw[Xf,YK];rfl
theorem wN (to a:Array Vb)(h i:Nat):(to++(a.extract h i).reverse).toList.reverse=(a.toList.drop h).take (i-h)++to.toList.reverse:=by
 rw[Wz,YK,Array.toList_reverse,YF,cb]
theorem Mh.start (sp:SR c p 0 p.size)(O:cg c)(hp:0<p.size)(hl:∀y,y<q.size->c (el q y) (el p (p.size-1))=true):Mh c p q [el p (p.size-1)] (p.size-1) q.size:=by
 have m:Mh c p q [] p.size q.size:=⟨U8 _,U8 _,by rw[Ww (by simp),Ww (by simp)];exact .refl _,.nil,(λx hx=>by cases hx),(λx hx=>by cases hx)⟩
 exact m.j8 hp sp λk hk=>O.of_lt (hl k hk)
end
abbrev RJ:=Nat×Nat×Array Vb×Nat×Nat
abbrev RH:=Nat×Nat×Array Vb×Nat×Nat×Nat
abbrev RP:=Nat×Nat×Array Vb×Nat
def Pn (p q t:Array Vb)(i j mg m n:Nat):StateT VF Sem (ForInStep (Option (Array Vb)×RH)):=do
 let z <- elem' p (i-1)
 if (i-1==0)=true then pure (.done (some (p.extract 0 (i-1)++q.extract 0 j++(t.push z).reverse),i-1,j,t.push z,mg,m,n))
 else if (decide (m<7)&&decide (n<7))=true then pure (.done (none,i-1,j,t.push z,mg,m,n)) else pure (.yield (none,i-1,j,t.push z,mg,m,n))
def Po (p q t:Array Vb)(i j mg m n:Nat):StateT VF Sem (ForInStep (Option (Array Vb)×RH)):=do
 let y <- elem' q (j-1)
 if (j-1==1)=true then pure (.done (some (q.extract 0 (j-1)++p.extract 0 i++(t.push y).reverse),i,j-1,t.push y,mg,m,n))
 else do
  let x <- elem' p (i-1)
  let r <- cn true x q 0 (j-1) (j-1-1)
  match r with
  |some h=>if j-1-h>0 then (if (h==1)=true then pure (.done (some (q.extract 0 h++p.extract 0 i++(t.push y++(q.extract h (j-1)).reverse).reverse),i,h,t.push y++(q.extract h (j-1)).reverse,mg,m,j-1-h))
    else if (h==0)=true then pure (.done (some (p.extract 0 i++q.extract 0 h++(t.push y++(q.extract h (j-1)).reverse).reverse),i,h,t.push y++(q.extract h (j-1)).reverse,mg,m,j-1-h))
    else Pn p q (t.push y++(q.extract h (j-1)).reverse) i h mg m (j-1-h)) else Pn p q (t.push y) i (j-1) mg m (j-1-h)
  |_=>pure (.done (some (p.extract 0 i++q.extract 0 (j-1)++(t.push y).reverse),i,j-1,t.push y,mg,m,n))
def LC (p q t:Array Vb)(i j mg m n:Nat):StateT VF Sem (ForInStep (Option (Array Vb)×RH)):=do
 modify λst=>cu st mg
 let y <- elem' q (j-1)
 let r <- cn false y p 0 i (i-1)
 match r with
 |some h=>if i-h>0 then (if (h==0)=true then pure (.done (some (p.extract 0 h++q.extract 0 j++(t++(p.extract h i).reverse).reverse),h,j,t++(p.extract h i).reverse,mg,i-h,n))
   else Po p q (t++(p.extract h i).reverse) h j mg (i-h) n) else Po p q t i j mg (i-h) n
 |_=>pure (.done (some (p.extract 0 i++q.extract 0 j++t.reverse),i,j,t,mg,m,n))
def Th (p q:Array Vb)(s:Option (Array Vb)×RH):StateT VF Sem (ForInStep (Option (Array Vb)×RH)):=if s.2.2.2.2.1>1 then LC p q s.2.2.2.1 s.2.1 s.2.2.1 (s.2.2.2.2.1-1) s.2.2.2.2.2.1 s.2.2.2.2.2.2 else LC p q s.2.2.2.1 s.2.1 s.2.2.1 s.2.2.2.2.1 s.2.2.2.2.2.1 s.2.2.2.2.2.2
def Pm (p q t:Array Vb)(mg i j m:Nat):StateT VF Sem (ForInStep (Option (Array Vb)×RJ)):=do
 let x <- elem' p (i-1)
 if (i-1==0)=true then pure (.done (some (p.extract 0 (i-1)++q.extract 0 j++(t.push x).reverse),i-1,j,t.push x,m+1,0))
 else if m+1 >= mg then pure (.done (none,i-1,j,t.push x,m+1,0)) else pure (.yield (none,i-1,j,t.push x,m+1,0))
def Pl (p q t:Array Vb)(mg i j n:Nat):StateT VF Sem (ForInStep (Option (Array Vb)×RJ)):=do
 let y <- elem' q (j-1)
 if (j-1==1)=true then pure (.done (some (q.extract 0 (j-1)++p.extract 0 i++(t.push y).reverse),i,j-1,t.push y,0,n+1))
 else if n+1 >= mg then pure (.done (none,i,j-1,t.push y,0,n+1)) else pure (.yield (none,i,j-1,t.push y,0,n+1))
def Q_ (p q t:Array Vb)(mg i j m n:Nat):StateT VF Sem (ForInStep (Option (Array Vb)×RJ)):=do
 let y <- elem' q (j-1)
 let x <- elem' p (i-1)
 let r <- lt' y x
 match r with
 |some Fg=>if Fg=true then Pm p q t mg i j m else Pl p q t mg i j n
 |_=>pure (.done (some (p.extract 0 i++q.extract 0 j++t.reverse),i,j,t,m,n))
def Q9 (p q:Array Vb)(s:Option (Array Vb)×RP):StateT VF Sem (ForInStep (Option (Array Vb)×RP)):=do
 let s1 <- forIn [:p.size+q.size] ((none,s.2.1,s.2.2.1,s.2.2.2.1,0,0):Option (Array Vb)×RJ) λ_ r=>Q_ p q r.2.2.2.1 s.2.2.2.2 r.2.1 r.2.2.1 r.2.2.2.2.1 r.2.2.2.2.2
 match s1.1 with
 |some r=>pure (.done (some r,s1.2.1,s1.2.2.1,s1.2.2.2.1,s.2.2.2.2))
 |none=>do
  liftM (rule "list.sort.gallop")
  let s2 <- forIn [:p.size+q.size] ((none,s1.2.1,s1.2.2.1,s1.2.2.2.1,s.2.2.2.2+1,s1.2.2.2.2.1,s1.2.2.2.2.2):Option (Array Vb)×RH) λ_ r=>Th p q r
  match s2.1 with
  |some r=>pure (.done (some r,s2.2.1,s2.2.2.1,s2.2.2.2.1,s2.2.2.2.2.1))
  |none=>do
   modify λst=>cu st (s2.2.2.2.2.1+1)
   pure (.yield (none,s2.2.1,s2.2.2.1,s2.2.2.2.1,s2.2.2.2.2.1+1))
theorem rW (p q:Array Vb):jb p q=(do
  liftM (rule "list.sort.merge-hi")
  let y <- elem' p (p.size-1)
  if (p.size-1==0)=true then pure (p.extract 0 (p.size-1)++q.extract 0++#[y].reverse)
  else if (q.size==1)=true then pure (q.extract 0++p.extract 0 (p.size-1)++#[y].reverse)
  else do
   let st <- get
   let s <- forIn [:p.size+q.size] ((none,p.size-1,q.size,#[y],gallopOf st):Option (Array Vb)×RP) λ_ s=>Q9 p q s
   match s.1 with
   |some r=>pure r
   |none=>liftM (unsupported "internal:list.sort.merge-bound" : Sem (Array Vb))):=by
 rw[rV];dsimp only;refine congrArg (bind _) (funext λ_=>?_);refine congrArg (bind _) (funext λy=>?_);refine congrArg (ite _ _) (congrArg (ite _ _) ?_);refine congrArg (bind _) (funext λy=>?_);refine congr (congrArg bind (congrArg _ (funext λ_=>funext λs=>?_))) (funext λs=>?_)
 ·refine congr (congrArg bind (congrArg _ (funext λ_=>funext λs=>?_))) (funext λs=>?_)
  ·rfl
  ·cases s.1
   ·refine congrArg (bind _) (funext λ_=>?_);refine congr (congrArg bind (congrArg _ (funext λ_=>funext λs=>?_))) (funext λs=>?_)
    ·rfl
    ·cases s.1 <;> rfl
   ·rfl
 ·cases s.1 <;> rfl
section
variable {prog:U_}{w:Vl}{A:VZ}{E:U5->U7->Prop}{s:U7}{κ:Xr}{c:Vb->Vb->Bool}{S:Vb->Prop}{p q:Array Vb}
theorem yK {st:VF}{Q:ForInStep (Option (Array Vb)×RH)->VF->Prop}{t:Array Vb}{i j mg m n:Nat}(sp:SR c p 0 p.size)(sq:SR c q 0 q.size)(m3:Mh c p q t.toList.reverse i j)(hi:0<i)(g3:∀k,k<j->le c (el q k) (el p (i-1)))
  (hd:∀out r,Gd c p q out.toList->Q (.done (some out,r)) st) (hn:∀t' m n,Mh c p q t'.toList.reverse (i-1) j->0<i-1->Q (.done (none,i-1,j,t',mg,m,n)) st/\Q (.yield (none,i-1,j,t',mg,m,n)) st):wpS (model prog w) A E s (Pn p q t i j mg m n) Q st:=by
 have gc:=m3.hi;refine Ve (aT (by lia) ?_)
 have m4:Mh c p q (t.push (el p (i-1))).toList.reverse (i-1) j:=by
  rw[i3];exact m3.j8 hi sp g3
 by_cases e5:(i-1==0)=true
 ·rw[if_pos e5];exact Vj (hd _ _ (m4.done sp sq (.inl (by simpa using e5))))
 rw[if_neg e5];have h5:i-1≠0:=by simpa using e5
 obtain⟨h6,h7⟩:=hn (t.push (el p (i-1))) m n m4 (by lia)
 split
 ·exact Vj h6
 ·exact Vj h7
theorem yL {st:VF}{Q:ForInStep (Option (Array Vb)×RH)->VF->Prop}{t:Array Vb}{i j mg m n:Nat}(O:cg c)(L:fV prog w A E s κ c S)(hk:kindOf st=κ)(Sp:∀i,i<p.size->S (el p i))(Sq:∀i,i<q.size->S (el q i))(sp:SR c p 0 p.size)(sq:SR c q 0 q.size)(hf:c (el q 0) (el p 0)=true)(m1:Mh c p q t.toList.reverse i j)(hi:0<i)(hj:1<j)(g1:∀x,x<i->le c (el p x) (el q (j-1)))
  (hd:∀out r,Gd c p q out.toList->Q (.done (some out,r)) st) (hn:∀t' j' m n,Mh c p q t'.toList.reverse (i-1) j'->0<i-1->1<j'->j'<j->Q (.done (none,i-1,j',t',mg,m,n)) st/\Q (.yield (none,i-1,j',t',mg,m,n)) st):wpS (model prog w) A E s (Po p q t i j mg m n) Q st:=by
 have mi:=m1.hi;have mj:=m1.hj;refine Ve (aT (by lia) ?_)
 have m2:Mh c p q (t.push (el q (j-1))).toList.reverse i (j-1):=by
  rw[i3];exact m1.j7 (by lia) sq g1
 by_cases e3:(j-1==1)=true
 ·rw[if_pos e3];exact Vj (hd _ _ (m2.tail O sp sq (by simpa using e3) hf))
 rw[if_neg e3];have h3:j-1≠1:=by simpa using e3
 refine Ve (aT (by lia) (Ve (dZ O L hk (Sp _ (by lia)) (λx hx=>Sq _ (by lia)) (by lia) (λa b h1 h2 h3=>sq a b (by lia) h2 (by lia)) (by lia) λh k1 k2 k3=>?_)))
 have g2:∀x,x<h->c (el q x) (el p (i-1))=true:=λx hx=>by
  have:=k2 x hx;unfold eI at this;rw[if_pos rfl,XG]at this;exact this
 have g4:∀x,h<=x->x<j-1->le c (el p (i-1)) (el q x):=λx h1 h2=>by
  have:=k3 x h1 h2;unfold eI at this;rw[if_pos rfl,XG]at this;exact this
 have hh:0<h:=by
  rcases Nat.eq_zero_or_pos h with z|z
  ·subst z;have h2:=O.trans (sp 0 (i-1) (by lia) (by lia) (by lia)) (g4 0 (U8 _) (by lia))
   exact absurd (hf.symm.trans h2) (by simp)
  ·exact z
 dsimp only
 by_cases xV:j-1-h>0
 ·rw[if_pos xV];have m3:Mh c p q (t.push (el q (j-1))++(q.extract h (j-1)).reverse).toList.reverse i h:=by
   rw[wN];exact m2.iV sq k1 λx h1 h2 y hy=>O.trans (sp y (i-1) (by lia) (by lia) (by lia)) (g4 x h1 h2)
  by_cases e4:(h==1)=true
  ·rw[if_pos e4];exact Vj (hd _ _ (m3.tail O sp sq (by simpa using e4) hf))
  rw[if_neg e4];have h4:h≠1:=by simpa using e4
  rw[if_neg (by simp;lia)]
  exact yK sp sq m3 hi (λk hk=>O.of_lt (g2 k hk)) hd λt' m n h1 h2=>hn t' _ m n h1 h2 (by lia) (by lia)
 ·rw[if_neg xV];exact yK sp sq m2 hi (λk hk=>O.of_lt (g2 k (by lia))) hd λt' m n h1 h2=>hn t' _ m n h1 h2 (by lia) (by lia)
theorem Fe {st:VF}{Q:ForInStep (Option (Array Vb)×RH)->VF->Prop}{t:Array Vb}{i j mg m n:Nat}(O:cg c)(L:fV prog w A E s κ c S)(hk:kindOf st=κ)(Sp:∀i,i<p.size->S (el p i))(Sq:∀i,i<q.size->S (el q i))(sp:SR c p 0 p.size)(sq:SR c q 0 q.size)(hf:c (el q 0) (el p 0)=true)(m0:Mh c p q t.toList.reverse i j)(hi:0<i)(hj:1<j)
  (hd:∀out r,Gd c p q out.toList->Q (.done (some out,r)) (cu st mg)) (hn:∀t' i' j' m n,Mh c p q t'.toList.reverse i' j'->0<i'->1<j'->i'+j'<i+j->Q (.done (none,i',j',t',mg,m,n)) (cu st mg)/\Q (.yield (none,i',j',t',mg,m,n)) (cu st mg)):wpS (model prog w) A E s (LC p q t i j mg m n) Q st:=by
 have mi:=m0.hi;have mj:=m0.hj;refine Ve (Xh (Ve (aT (by lia) (Ve (dZ O L hk (Sq _ (by lia)) (λx hx=>Sp _ (by lia)) (by lia) (λa b h1 h2 h3=>sp a b (by lia) h2 (by lia)) (by lia) λh k1 k2 k3=>?_)))))
 have g0:∀x,x<h->le c (el p x) (el q (j-1)):=λx hx=>by
  have:=k2 x hx;unfold eI at this;rw[if_neg (by simp),XM,XG]at this
  exact this
 have g5:∀x,h<=x->x<i->le c (el q (j-1)) (el p x):=λx h1 h2=>by
  have:=k3 x h1 h2;unfold eI at this;rw[if_neg (by simp),YX,XG]at this
  exact O.of_lt this
 dsimp only
 by_cases xV:i-h>0
 ·rw[if_pos xV];have m1:Mh c p q (t++(p.extract h i).reverse).toList.reverse h j:=by
   rw[wN];exact m0.iW sp k1 λx h1 h2 y hy=>O.trans (sq y (j-1) (by lia) (by lia) (by lia)) (g5 x h1 h2)
  by_cases e1:(h==0)=true
  ·rw[if_pos e1];exact Vj (hd _ _ (m1.done sp sq (.inl (by simpa using e1))))
  rw[if_neg e1];have xY:h≠0:=by simpa using e1
  exact yL O L hk Sp Sq sp sq hf m1 (by lia) hj g0 hd λt' j' m n h1 h2 h3 h4=>hn t' _ j' m n h1 h2 h3 (by lia)
 ·rw[if_neg xV];exact yL O L hk Sp Sq sp sq hf m0 hi hj (λx hx=>g0 x (by lia)) hd λt' j' m n h1 h2 h3 h4=>hn t' _ j' m n h1 h2 h3 (by lia)
theorem Fd {st:VF}{Q:ForInStep (Option (Array Vb)×RJ)->VF->Prop}{t:Array Vb}{i j mg ma na:Nat}(O:cg c)(L:fV prog w A E s κ c S)(hk:kindOf st=κ)(Sp:∀i,i<p.size->S (el p i))(Sq:∀i,i<q.size->S (el q i))(sp:SR c p 0 p.size)(sq:SR c q 0 q.size)(hf:c (el q 0) (el p 0)=true)(m:Mh c p q t.toList.reverse i j)(hi:0<i)(hj:1<j)
  (hd:∀out r,Gd c p q out.toList->Q (.done (some out,r)) st) (hn:∀t' i' j' m n,Mh c p q t'.toList.reverse i' j'->0<i'->1<j'->i'+j'<i+j->Q (.done (none,i',j',t',m,n)) st/\Q (.yield (none,i',j',t',m,n)) st):wpS (model prog w) A E s (Q_ p q t mg i j ma na) Q st:=by
 have gc:=m.hi;have EH:=m.hj;refine Ve (aT (by lia) (Ve (aT (by lia) (Ve (L _ _ st _ (Sq _ (by lia)) (Sp _ (by lia)) hk ?_)))))
 dsimp only;cases hc:c (el q (j-1)) (el p (i-1))with
 |true =>
  rw[if_pos rfl];refine Ve (aT (by lia) ?_)
  have m1:Mh c p q (t.push (el p (i-1))).toList.reverse (i-1) j:=by
   rw[i3];exact m.j8 hi sp λk hk=>O.trans (sq k (j-1) (by lia) (by lia) (by lia)) (O.of_lt hc)
  by_cases e3:(i-1==0)=true
  ·rw[if_pos e3];exact Vj (hd _ _ (m1.done sp sq (.inl (by simpa using e3))))
  rw[if_neg e3];have h3:i-1≠0:=by simpa using e3
  obtain⟨h6,h7⟩:=hn _ _ _ (ma+1) 0 m1 (by lia) hj (by lia)
  split
  ·exact Vj h6
  ·exact Vj h7
 |false =>
  rw[if_neg (by simp)]
  refine Ve (aT (by lia) ?_)
  have m1:Mh c p q (t.push (el q (j-1))).toList.reverse i (j-1):=by
   rw[i3];exact m.j7 (by lia) sq λk hk=>O.trans (sp k (i-1) (by lia) (by lia) (by lia)) (show le c (el p (i-1)) (el q (j-1)) from hc)
  by_cases e3:(j-1==1)=true
  ·rw[if_pos e3];exact Vj (hd _ _ (m1.tail O sp sq (by simpa using e3) hf))
  rw[if_neg e3];have h3:j-1≠1:=by simpa using e3
  obtain⟨h6,h7⟩:=hn _ _ _ 0 (na+1) m1 hi (by lia) (by lia)
  split
  ·exact Vj h6
  ·exact Vj h7
theorem tU (O:cg c)(L:fV prog w A E s κ c S){Q:Array Vb->VF->Prop}{st:VF}(hk:kindOf st=κ)(Sp:∀i,i<p.size->S (el p i))(Sq:∀i,i<q.size->S (el q i))(sp:SR c p 0 p.size)(sq:SR c q 0 q.size)
  (hp:0<p.size) (hq:0<q.size) (hf:c (el q 0) (el p 0)=true) (hl:∀y,y<q.size->c (el q y) (el p (p.size-1))=true) (h:∀to aC,j3 st aC->Gd c p q to.toList->Q to aC) :
  wpS (model prog w) A E s (jb p q) Q st:=by
 rw[rW];refine Ve (YB (Xx ⟨rfl,?_⟩));refine Ve (aT (by lia) ?_)
 have m0:Mh c p q (#[el p (p.size-1)]:Array Vb).toList.reverse (p.size-1) q.size:=Mh.start sp O hp hl
 by_cases h1:(p.size-1==0)=true
 ·rw[if_pos h1];exact Vj (h _ st (j3.refl st) (m0.done sp sq (.inl (by simpa using h1))))
 rw[if_neg h1];have xY:p.size-1≠0:=by simpa using h1
 by_cases h2:(q.size==1)=true
 ·rw[if_pos h2];exact Vj (h _ st (j3.refl st) (m0.tail O sp sq (by simpa using h2) hf))
 rw[if_neg h2];have AX:q.size≠1:=by simpa using h2
 refine Ve (X9 ?_);refine Ve (WD (V2
  (I:=λx r aC=>j3 st aC/\∃i j to mg,r=(none,i,j,to,mg)/\Mh c p q to.toList.reverse i j/\0<i/\1<j/\i+j+x<p.size+q.size)
  (Q:=λr aC=>j3 st aC/\∃out r',r=(some out,r')/\Gd c p q out.toList) ?_ ?_ ?_) ?_)
 ·rintro x r aC _ hx ⟨e,i,j,to,mg,rfl,m,hi,hj,hb⟩;unfold Q9;dsimp only;refine Ve (WD (V2
   (I:=λy r aC=>j3 st aC/\∃i j to m n,r=(none,i,j,to,m,n)/\Mh c p q to.toList.reverse i j/\0<i/\1<j/\i+j+x+min y 1<p.size+q.size)
   (Q:=λr aC=>j3 st aC/\((∃out r',r=(some out,r')/\Gd c p q out.toList)\/∃i j to m n,r=(none,i,j,to,m,n)/\Mh c p q to.toList.reverse i j/\0<i/\1<j/\i+j+x+1<p.size+q.size)) ?_ ?_ ?_) ?_)
  ·rintro y r fY _ hy ⟨e2,i,j,to,ma,na,rfl,m,hi,hj,hb⟩;exact Fd O L (e2.kind.trans hk) Sp Sq sp sq hf m hi hj (λout r h=>⟨e2,.inl ⟨_,_,rfl,h⟩⟩) λt' i' j' m n h1 h2 h3 h4=>⟨⟨e2,.inr ⟨_,_,_,_,_,rfl,h1,h2,h3,by lia⟩⟩,⟨e2,_,_,_,_,_,rfl,h1,h2,h3,by lia⟩⟩
  ·rintro r fY ⟨e2,i,j,to,ma,na,rfl,m,hi,hj,hb⟩;exact⟨e2,.inr ⟨_,_,_,_,_,rfl,m,hi,hj,by lia⟩⟩
  ·exact⟨e,_,_,_,_,_,rfl,m,hi,hj,by lia⟩
  rintro r fY ⟨e2,⟨out,r',rfl,g⟩|⟨i,j,to,ma,na,rfl,m,hi,hj,hb⟩⟩
  ·exact Vj ⟨e2,_,_,rfl,g⟩
  dsimp only;refine Ve (YB (Xx ⟨rfl,?_⟩));refine Ve (WD (V2
   (I:=λy r aC=>j3 st aC/\∃i j to mg m n,r=(none,i,j,to,mg,m,n)/\Mh c p q to.toList.reverse i j/\0<i/\1<j/\i+j+x+1<p.size+q.size)
   (Q:=λr aC=>j3 st aC/\((∃out r',r=(some out,r')/\Gd c p q out.toList)\/∃i j to mg m n,r=(none,i,j,to,mg,m,n)/\Mh c p q to.toList.reverse i j/\0<i/\1<j/\i+j+x+1<p.size+q.size)) ?_ ?_ ?_) ?_)
  ·rintro y r fY _ hy ⟨e2,i,j,to,mg,ma,na,rfl,m,hi,hj,hb⟩;show wpS (model prog w) A E s (if mg>1 then LC p q to i j (mg-1) ma na else LC p q to i j mg ma na) _ fY
   split <;> exact Fe O L (e2.kind.trans hk) Sp Sq sp sq hf m hi hj (λout r h=>⟨e2.EL _,.inl ⟨_,_,rfl,h⟩⟩) λt' i' j' m n h1 h2 h3 h4=>⟨⟨e2.EL _,.inr ⟨_,_,_,_,_,_,rfl,h1,h2,h3,by lia⟩⟩,⟨e2.EL _,_,_,_,_,_,_,rfl,h1,h2,h3,by lia⟩⟩
  ·rintro r fY ⟨e2,i,j,to,mg,ma,na,rfl,m,hi,hj,hb⟩;exact⟨e2,.inr ⟨_,_,_,_,_,_,rfl,m,hi,hj,hb⟩⟩
  ·exact⟨e2,_,_,_,_,_,_,rfl,m,hi,hj,hb⟩
  rintro r fY ⟨e2,⟨out,r',rfl,g⟩|⟨i,j,to,mg,ma,na,rfl,m,hi,hj,hb⟩⟩
  ·exact Vj ⟨e2,_,_,rfl,g⟩
  dsimp only;refine Ve (Xh (Vj ⟨e2.EL _,_,_,_,_,rfl,m,hi,hj,by lia⟩))
 ·rintro r aC ⟨e,i,j,to,mg,rfl,m,hi,hj,hb⟩
  exfalso
  rw[show max 0 (p.size+q.size)=p.size+q.size by lia]at hb
  lia
 ·exact⟨j3.refl st,_,_,_,_,rfl,m0,by lia,by lia,by lia⟩
 ·rintro r aC ⟨e,out,r',rfl,g⟩;exact Vj (h _ aC e g)
end
section
variable {c:Vb->Vb->Bool}{a b:Array Vb}
structure Rg (a b:Array Vb)(lo hi:Nat):Prop where
 perm:b.Perm a
 out:∀k,(k<lo\/hi<=k)->el b k=el a k
theorem Rg.refl {lo hi:Nat}:Rg a a lo hi:=⟨Zm _,λ_ _=>rfl⟩
theorem Rg.trans {d:Array Vb}{lo hi:Nat}(x:Rg a b lo hi)(y:Rg b d lo hi):Rg a d lo hi:=⟨y.perm.trans x.perm,λk h=>(y.out k h).trans (x.out k h)⟩
theorem Rg.mono {lo hi Ey gc:Nat}(x:Rg a b lo hi)(h1:Ey<=lo)(h2:hi<=gc):Rg a b Ey gc:=⟨x.perm,λk h=>x.out k (by lia)⟩
theorem Rg.size {lo hi:Nat}(x:Rg a b lo hi):b.size=a.size:=x.perm.size_eq
theorem SR.congr {lo hi:Nat}(h:SR c a lo hi)(e:∀k,lo<=k->k<hi->el b k=el a k):SR c b lo hi:=λi j h1 h2 h3=>by
 rw[e i h1 (by lia),e j (by lia) h3]
 exact h i j h1 h2 h3
def NI (c:Vb->Vb->Bool)(a:Array Vb)(lo hi:Nat):Prop:=∀i j,lo<=i->i<=j->j<hi->le c (el a j) (el a i)
theorem b4 {i j:Nat}(hj:j<=a.size)(k:Nat):el (mirror a i j ((j-i) / 2)) k=if i<=k/\k<j then el a (i+j-1-k) else el a k:=by
 have e:=getElem?_mirror_all (i:=i) hj k
 by_cases h:i<=k/\k<j
 ·rw[if_pos h]at e ⊢
  exact eG e
 ·rw[if_neg h]at e ⊢
  exact eG e
theorem fw {i j:Nat}(hj:j<=a.size):Rg a (mirror a i j ((j-i) / 2)) i j:=⟨mirror_perm _ _ _ _,λk h=>by rw[b4 hj,if_neg (by lia)]⟩
theorem n6 {i j:Nat}(hj:j<=a.size)(h:NI c a i j):SR c (mirror a i j ((j-i) / 2)) i j:=λx y h1 h2 h3=>by
 rw[b4 hj,b4 hj,if_pos (by lia),if_pos (by lia)]
 exact h _ _ (by lia) (by lia) (by lia)
theorem jK {lo i j:Nat}(Pe:lo<=i)(hj:j<=a.size)(h:NI c a lo j)(he:∀x y,i<=x->x<j->i<=y->y<j->le c (el a x) (el a y)):NI c (mirror a i j ((j-i) / 2)) lo j:=λx y h1 h2 h3=>by
 rw[b4 hj,b4 hj]
 by_cases hx:i<=x/\x<j
 ·rw[if_pos hx,if_pos (by lia)]
  exact he _ _ (by lia) (by lia) (by lia) (by lia)
 ·rw[if_neg hx]
  by_cases hy:i<=y/\y<j
  ·rw[if_pos hy];exact h _ _ (by lia) (by lia) (by lia)
  ·rw[if_neg hy];exact h _ _ h1 h2 h3
theorem SR.snoc {lo n:Nat}(O:cg c)(h:SR c a lo (lo+n))(h1:0<n)(hn:le c (el a (lo+n-1)) (el a (lo+n))):SR c a lo (lo+(n+1)):=λi j h2 h3 h4=>by
 by_cases hj:j<lo+n
 ·exact h i j h2 h3 hj
 ·obtain rfl:j=lo+n:=by lia
  by_cases hi:i<lo+n
  ·exact O.trans (h i (lo+n-1) h2 (by lia) (by lia)) hn
  ·obtain rfl:i=lo+n:=by lia
   exact O.refl _
theorem NI.snoc {lo n:Nat}(O:cg c)(h:NI c a lo (lo+n))(h1:0<n)(hn:le c (el a (lo+n)) (el a (lo+n-1))):NI c a lo (lo+(n+1)):=λi j h2 h3 h4=>by
 by_cases hj:j<lo+n
 ·exact h i j h2 h3 hj
 ·obtain rfl:j=lo+n:=by lia
  by_cases hi:i<lo+n
  ·exact O.trans hn (h i (lo+n-1) h2 (by lia) (by lia))
  ·obtain rfl:i=lo+n:=by lia
   exact O.refl _
theorem SR.one {lo:Nat}(O:cg c):SR c a lo (lo+1):=λi j h1 h2 h3=>by
 obtain rfl:i=j:=by lia
 exact O.refl _
end
structure jY (κ:Xr)(a₀:Array Vb)(st:VF):Prop where
 kind:kindOf st=κ
 fail:XD st=none
 perm:(VH st).Perm a₀
section
variable {prog:U_}{w:Vl}{A:VZ}{E:U5->U7->Prop}{s:U7}{κ:Xr}{c:Vb->Vb->Bool}{a₀:Array Vb}
theorem jY.size {st:VF}(h:jY κ a₀ st):(VH st).size=a₀.size:=h.perm.size_eq
theorem jY.mem {st:VF}(h:jY κ a₀ st){i:Nat}(hi:i<a₀.size):el (VH st) i∈a₀.toList:=by
 have h1:i<(VH st).size:=by rw[h.size];exact hi
 refine(Xl.mp h.perm).mem_iff.mp ?_;have:=jq h1;rw[<- Vx]at this;exact VB this
theorem jY.set {st:VF}{b:Array Vb}{lo hi:Nat}(h:jY κ a₀ st)(r:Rg (VH st) b lo hi):jY κ a₀ (V7 st b):=⟨h.kind,h.fail,r.perm.trans h.perm⟩
theorem o8 (L:fV prog w A E s κ c (·∈a₀.toList)){st:VF}{i j:Nat}{Q:Option Bool->VF->Prop}(h:jY κ a₀ st)(hi:i<a₀.size)(hj:j<a₀.size)(q:Q (some (c (el (VH st) i) (el (VH st) j))) st):
  wpS (model prog w) A E s (ltAt' i j) Q st:=by
 rw[ltAt'_eq];refine Ve (X9 ?_);exact Ve (aT (by rw[h.size];exact hi) (Ve (aT (by rw[h.size];exact hj) (L _ _ st Q (h.mem hi) (h.mem hj) h.kind q))))
theorem iP (L:fV prog w A E s κ c (·∈a₀.toList)){st:VF}{b:Array Vb}{i j lo hi:Nat}{Q:Option Bool->VF->Prop}(h:jY κ a₀ st)(R:Rg (VH st) b lo hi)(hi:i<a₀.size)(hj:j<a₀.size)(q:Q (some (c (el b i) (el b j))) (V7 st b)):
  wpS (model prog w) A E s (ltAt' i j) Q (V7 st b):=o8 L (h.set R) hi hj q
theorem iO {st:VF}{i j:Nat}{Q:Unit->VF->Prop}(q:Q () (V7 st (mirror (VH st) i j ((j-i) / 2)))):wpS (model prog w) A E s (reverseSlice' i j) Q st:=by
 rw[reverseSlice'_eq];exact Xh q
theorem yM (O:cg c)(L:fV prog w A E s κ c (·∈a₀.toList)){st:VF}{lo fv:Nat}{Q:Option Nat->VF->Prop}(h0:jY κ a₀ st)(h1:1<=fv)(hn:lo+fv<=a₀.size)
  (h:∀n b,1<=n->n<=fv->Rg (VH st) b lo (lo+fv)->SR c b lo (lo+n)->Q (some n) (V7 st b)):wpS (model prog w) A E s (countRun' lo fv) Q st:=by
 rw[countRun'_eq];dsimp only;refine Ve (WD (V2 (I:=λx r aC=>aC=st/\∃n,r=(none,n)/\n=x/\SR c (VH st) lo (lo+n))
  (Q:=λr aC=>aC=st/\∃n,r=(none,n)/\1<=n/\n<=fv/\SR c (VH st) lo (lo+n)/\(n=fv\/(n<fv/\c (el (VH st) (lo+n)) (el (VH st) (lo+n-1))=true))) ?_ ?_ ?_) ?_)
 ·rintro x r aC G5 hx ⟨rfl,n,rfl,rfl,hs⟩;dsimp only;refine Ve (o8 L h0 (by lia) (by lia) ?_)
  dsimp only;cases hc:c (el (VH aC) (lo+n)) (el (VH aC) (lo+n-1))with
  |true =>
   rw[if_pos rfl];exact Vj ⟨rfl,n,rfl,G5,by lia,hs,.inr ⟨by lia,hc⟩⟩
  |false =>
   rw[if_neg (by simp)]
   exact Vj ⟨rfl,n+1,rfl,rfl,hs.snoc O G5 hc⟩
 ·rintro r aC ⟨rfl,n,rfl,hx,hs⟩;exact⟨rfl,n,rfl,by lia,by lia,hs,.inl (by lia)⟩
 ·exact⟨rfl,1,rfl,rfl,SR.one O⟩
 rintro r aC ⟨e0,n,rfl,O7,MY,hs,hc⟩;rw[e0];dsimp only
 by_cases O5:(n==fv)=true
 ·rw[if_pos O5];exact Vj (h n (VH st) O7 MY Rg.refl hs)
 rw[if_neg O5];have S5:n≠fv:=by simpa using O5
 have hc:c (el (VH st) (lo+n)) (el (VH st) (lo+n-1))=true:=by
  rcases hc with q|q
  ·lia
  ·exact q.2
 refine(λ(key:∀b,Rg (VH st) b lo (lo+fv)->NI c b lo (lo+(n+1))->wpS (model prog w) A E s ?cont Q (V7 st b))=>?main) ?key
 case main =>
  by_cases h2:n>1
  ·rw[if_pos h2];refine Ve (o8 L h0 (by lia) (by lia) ?_)
   dsimp only;cases hr:c (el (VH st) lo) (el (VH st) (lo+n-1))with
   |true =>
    rw[if_pos rfl];exact Vj (h n (VH st) O7 MY Rg.refl hs)
   |false =>
    rw[if_neg (by simp)]
    refine Ve (iO ?_);have hz:lo+n<=(VH st).size:=by have:=h0.size;lia
    have R0:Rg (VH st) (mirror (VH st) lo (lo+n) ((lo+n-lo) / 2)) lo (lo+fv):=(fw hz).mono (U8 _) (by lia)
    have all:∀u v,lo<=u->u<lo+n->lo<=v->v<lo+n->le c (el (VH st) u) (el (VH st) v):=λu v h1 h2 h3 h4 =>
     O.trans (hs u (lo+n-1) h1 (by lia) (by lia)) (O.trans hr (hs lo v (U8 _) h3 h4))
    have N0:NI c (mirror (VH st) lo (lo+n) ((lo+n-lo) / 2)) lo (lo+(n+1)):=by
     refine NI.snoc O (jK (U8 _) hz (λu v h1 h2 h3=>all v u (by lia) (by lia) h1 (by lia)) λu v h1 h2 h3 h4=>all u v h1 h2 h3 h4) (by lia) ?_
     rw[b4 hz,b4 hz,if_neg (by lia),if_pos (by lia)]
     exact O.trans (O.of_lt hc) (all _ _ (by lia) (by lia) (by lia) (by lia))
    exact key _ R0 N0
  ·rw[if_neg h2];have N0:NI c (VH st) lo (lo+(n+1)):=NI.snoc O (λu v h1 h2 h3=>by
    obtain rfl:u=v:=by lia
    exact O.refl _) (by lia) (O.of_lt hc)
   show wpS _ _ _ _ _ Q (V7 st (VH st));exact key _ Rg.refl N0
 case key =>
  intro b0 R0 N0;refine Ve (YB (Xx ⟨rfl,?_⟩));refine Ve (WD (V2 (I:=λx r aC=>∃b n j_,aC=V7 st b/\r=(none,n,j_)/\n=x/\Rg (VH st) b lo (lo+fv)/\NI c b lo (lo+n)/\j_<n/\(∀u v,lo+n-1-j_<=u->u<lo+n->lo+n-1-j_<=v->v<lo+n->le c (el b u) (el b v)))
   (Q:=λr aC=>∃b n j_,aC=V7 st b/\r=(none,n,j_)/\1<=n/\n<=fv/\Rg (VH st) b lo (lo+fv)/\NI c b lo (lo+n)/\j_<n/\(∀u v,lo+n-1-j_<=u->u<lo+n->lo+n-1-j_<=v->v<lo+n->le c (el b u) (el b v))) ?_ ?_ ?_) ?_)
  ·rintro x r aC G5 hx ⟨b,n',j_,rfl,rfl,rfl,R,N,hq,he⟩;dsimp only;refine Ve (iP L h0 R (by lia) (by lia) ?_)
   dsimp only;cases nv:c (el b (lo+n')) (el b (lo+n' - 1))with
   |true =>
    rw[if_pos rfl]
    by_cases AS:j_>0
    ·rw[if_pos AS];refine Ve (iO (Vj ?_));have hz:lo+n'<=b.size:=by have:=R.size;have:=h0.size;lia
     refine⟨mirror b (lo+n' - (j_+1)) (lo+n') ((lo+n' - (lo+n' - (j_+1))) / 2),n'+1,0,rfl,rfl,rfl,R.trans ((fw hz).mono (by lia) (by lia)),?_,by lia,?_⟩
     ·refine NI.snoc O (jK (by lia) hz N λu v h1 h2 h3 h4=>he u v (by lia) h2 (by lia) h4) (by lia) ?_
      rw[b4 hz,b4 hz,if_neg (by lia),if_pos (by lia)]
      exact O.trans (O.of_lt nv) (he _ _ (by lia) (by lia) (by lia) (by lia))
     ·intro u v h1 h2 h3 h4;obtain rfl:u=v:=by lia
      exact O.refl _
    ·rw[if_neg AS];refine Vj ⟨b,n'+1,0,rfl,rfl,rfl,R,N.snoc O (by lia) (O.of_lt nv),by lia,?_⟩
     intro u v h1 h2 h3 h4;obtain rfl:u=v:=by lia
     exact O.refl _
   |false =>
    rw[if_neg (by simp)]
    refine Ve (iP L h0 R (by lia) (by lia) ?_)
    dsimp only;cases k9:c (el b (lo+n' - 1)) (el b (lo+n'))with
    |true =>
     rw[if_pos rfl];exact Vj ⟨b,n',j_,rfl,rfl,by lia,by lia,R,N,hq,he⟩
    |false =>
     rw[if_neg (by simp)]
     refine Vj ⟨b,n'+1,j_+1,rfl,rfl,rfl,R,N.snoc O (by lia) k9,by lia,?_⟩
     have hl:∀u,lo+n' - 1-j_<=u->u<lo+(n'+1)->le c (el b u) (el b (lo+n'))/\le c (el b (lo+n')) (el b u):=λu h1 h2=>by
      by_cases hu:u<lo+n'
      ·exact⟨O.trans (he u (lo+n' - 1) h1 hu (by lia) (by lia)) nv,O.trans k9 (he (lo+n' - 1) u (by lia) (by lia) h1 hu)⟩
      ·obtain rfl:u=lo+n':=by lia
       exact⟨O.refl _,O.refl _⟩
     intro u v h1 h2 h3 h4;exact O.trans (hl u (by lia) h2).1 (hl v (by lia) h4).2
  ·rintro r aC ⟨b,n',j_,rfl,rfl,hx,R,N,hq,he⟩;exact⟨b,n',j_,rfl,rfl,by lia,by lia,R,N,hq,he⟩
  ·refine⟨_,n+1,0,rfl,rfl,rfl,R0,N0,by lia,?_⟩
   intro u v h1 h2 h3 h4;obtain rfl:u=v:=by lia
   exact O.refl _
  rintro r aC ⟨b,n',j_,rfl,rfl,S8,S7,RB,NB,hq,he⟩;dsimp only
  by_cases AS:j_>0
  ·rw[if_pos AS];refine Ve (iO ?_);have hz:lo+n'<=b.size:=by have:=RB.size;have:=h0.size;lia
   have NB:=jK (c:=c) (i:=lo+n' - (j_+1)) (by lia) hz NB λu v h1 h2 h3 h4=>he u v (by lia) h2 (by lia) h4
   have RB:=RB.trans ((fw (i:=lo+n' - (j_+1)) hz).mono (by lia) (by lia:lo+n'<=lo+fv))
   show wpS _ _ _ _ _ Q (V7 st (mirror b (lo+n' - (j_+1)) (lo+n') ((lo+n' - (lo+n' - (j_+1))) / 2)));generalize mirror b (lo+n' - (j_+1)) (lo+n') ((lo+n' - (lo+n' - (j_+1))) / 2)=b1 at NB RB;refine Ve (iO ?_);have R2:Rg (VH st) (mirror b1 lo (lo+n') ((lo+n' - lo) / 2)) lo (lo+fv):=RB.trans ((fw (by have:=RB.size;have:=h0.size;lia)).mono (U8 _) (by lia))
   have S2:SR c (mirror b1 lo (lo+n') ((lo+n' - lo) / 2)) lo (lo+n'):=n6 (by have:=RB.size;have:=h0.size;lia) NB
   show wpS _ _ _ _ _ Q (V7 st (mirror b1 lo (lo+n') ((lo+n' - lo) / 2)));generalize mirror b1 lo (lo+n') ((lo+n' - lo) / 2)=b2 at R2 S2;refine Ve (WD (V2 (I:=λx r aC=>aC=V7 st b2/\∃m,r=(none,m)/\m=x/\SR c b2 lo (lo+m))
    (Q:=λr aC=>aC=V7 st b2/\∃m,r=(none,m)/\1<=m/\m<=fv/\SR c b2 lo (lo+m)) ?_ ?_ ?_) ?_)
   ·rintro x r aC G5 hx ⟨rfl,m,rfl,rfl,hs⟩;dsimp only;refine Ve (iP L h0 R2 (by lia) (by lia) ?_)
    dsimp only;cases hc:c (el b2 (lo+m)) (el b2 (lo+m-1))with
    |true =>
     rw[if_pos rfl];exact Vj ⟨rfl,m,rfl,by lia,by lia,hs⟩
    |false =>
     rw[if_neg (by simp)]
     exact Vj ⟨rfl,m+1,rfl,rfl,hs.snoc O (by lia) hc⟩
   ·rintro r aC ⟨rfl,m,rfl,hx,hs⟩;exact⟨rfl,m,rfl,by lia,by lia,hs⟩
   ·exact⟨rfl,n',rfl,rfl,S2⟩
   rintro r aC ⟨rfl,m,rfl,MZ,Pc,hs⟩;exact Vj (h m b2 MZ Pc R2 hs)
  ·rw[if_neg AS];refine Ve (iO ?_);have R2:Rg (VH st) (mirror b lo (lo+n') ((lo+n' - lo) / 2)) lo (lo+fv):=RB.trans ((fw (by have:=RB.size;have:=h0.size;lia)).mono (U8 _) (by lia))
   have S2:SR c (mirror b lo (lo+n') ((lo+n' - lo) / 2)) lo (lo+n'):=n6 (by have:=RB.size;have:=h0.size;lia) NB
   show wpS _ _ _ _ _ Q (V7 st (mirror b lo (lo+n') ((lo+n' - lo) / 2)));generalize mirror b lo (lo+n') ((lo+n' - lo) / 2)=b2 at R2 S2;refine Ve (WD (V2 (I:=λx r aC=>aC=V7 st b2/\∃m,r=(none,m)/\m=x/\SR c b2 lo (lo+m))
    (Q:=λr aC=>aC=V7 st b2/\∃m,r=(none,m)/\1<=m/\m<=fv/\SR c b2 lo (lo+m)) ?_ ?_ ?_) ?_)
   ·rintro x r aC G5 hx ⟨rfl,m,rfl,rfl,hs⟩;dsimp only;refine Ve (iP L h0 R2 (by lia) (by lia) ?_)
    dsimp only;cases hc:c (el b2 (lo+m)) (el b2 (lo+m-1))with
    |true =>
     rw[if_pos rfl];exact Vj ⟨rfl,m,rfl,by lia,by lia,hs⟩
    |false =>
     rw[if_neg (by simp)]
     exact Vj ⟨rfl,m+1,rfl,rfl,hs.snoc O (by lia) hc⟩
   ·rintro r aC ⟨rfl,m,rfl,hx,hs⟩;exact⟨rfl,m,rfl,by lia,by lia,hs⟩
   ·exact⟨rfl,n',rfl,rfl,S2⟩
   rintro r aC ⟨rfl,m,rfl,MZ,Pc,hs⟩;exact Vj (h m b2 MZ Pc R2 hs)
end
section
variable {c:Vb->Vb->Bool}{a:Array Vb}
theorem jU {src d:Nat}(hs:src<a.size)(hd:d<=src)(k:Nat):el (bubble a src d) k=if k=src-d then el a src else if src-d<k/\k<=src then el a (k-1) else el a k:=by
 have e:=getElem?_bubble hs d hd k
 by_cases h1:k=src-d
 ·rw[if_pos h1]at e ⊢
  exact eG e
 ·rw[if_neg h1]at e ⊢
  by_cases h2:src-d<k/\k<=src
  ·rw[if_pos h2]at e ⊢
   exact eG e
  ·rw[if_neg h2]at e ⊢
   exact eG e
theorem yo {lo k l:Nat}(O:cg c)(hk:lo+k<a.size)(hl:l<=k)(h:SR c a lo (lo+k))(h1:∀i,i<l->le c (el a (lo+i)) (el a (lo+k)))(h2:∀i,l<=i->i<k->le c (el a (lo+k)) (el a (lo+i))):
  SR c (bubble a (lo+k) (lo+k-(lo+l))) lo (lo+(k+1)):=λi j g1 g2 g3=>by
 rw[jU hk (by lia),jU hk (by lia),show lo+k-(lo+k-(lo+l))=lo+l by lia]
 have q1:∀i,lo<=i->i<lo+l->le c (el a i) (el a (lo+k)):=λi x y=>by
  have:=h1 (i-lo) (by lia)
  rwa [show lo+(i-lo)=i by lia]at this
 have q2:∀i,lo+l<=i->i<lo+k->le c (el a (lo+k)) (el a i):=λi x y=>by
  have:=h2 (i-lo) (by lia) (by lia)
  rwa [show lo+(i-lo)=i by lia]at this
 by_cases ei:i=lo+l
 ·rw[if_pos ei]
  by_cases ej:j=lo+l
  ·rw[if_pos ej];exact O.refl _
  ·rw[if_neg ej,if_pos (by lia)]
   exact q2 _ (by lia) (by lia)
 ·rw[if_neg ei]
  by_cases ej:j=lo+l
  ·rw[if_pos ej,if_neg (by lia)]
   exact q1 _ (by lia) (by lia)
  ·rw[if_neg ej]
   by_cases fi:lo+l<i/\i<=lo+k
   ·rw[if_pos fi,if_pos (by lia)]
    exact h _ _ (by lia) (by lia) (by lia)
   ·rw[if_neg fi]
    by_cases fj:lo+l<j/\j<=lo+k
    ·rw[if_pos fj];exact h _ _ (by lia) (by lia) (by lia)
    ·rw[if_neg fj];exact h _ _ (by lia) (by lia) (by lia)
theorem yp {src d:Nat}(hs:src<a.size)(hd:d<=src):Rg a (bubble a src d) (src-d) (src+1):=⟨bubble_perm _ _ _,λk h=>by
 rw[jU hs hd,if_neg (by lia),if_neg (by lia)]⟩
end
section
variable {prog:U_}{w:Vl}{A:VZ}{E:U5->U7->Prop}{s:U7}{κ:Xr}{c:Vb->Vb->Bool}{a₀:Array Vb}
theorem Ff (O:cg c)(L:fV prog w A E s κ c (·∈a₀.toList)){st:VF}{lo n ok:Nat}{Q:Bool->VF->Prop}(h0:jY κ a₀ st)(bt:ok<=n)(h1:1<=n)(hn:lo+n<=a₀.size)(hs:SR c (VH st) lo (lo+ok))
  (h:∀b,Rg (VH st) b lo (lo+n)->SR c b lo (lo+n)->Q true (V7 st b)):wpS (model prog w) A E s (binarySort' lo n ok) Q st:=by
 rw[binarySort'_eq];refine Ve (WD (V2 (I:=λk r aC=>r=(none,())/\k<=n/\∃b,aC=V7 st b/\Rg (VH st) b lo (lo+n)/\SR c b lo (lo+k))
  (Q:=λr aC=>r=(none,())/\∃b,aC=V7 st b/\Rg (VH st) b lo (lo+n)/\SR c b lo (lo+n)) ?_ ?_ ?_) ?_)
 ·rintro k r aC Lz hk ⟨rfl,_,b,rfl,R,xT⟩;dsimp only;have hz:b.size=a₀.size:=R.size.trans h0.size;refine Ve (WD (V2 (I:=λx r aC=>aC=V7 st b/\∃l u,r=(none,l,u)/\l<=u/\u<=k/\u-l<=k-x/\(∀i,i<l->le c (el b (lo+i)) (el b (lo+k)))/\(∀i,u<=i->i<k->le c (el b (lo+k)) (el b (lo+i))))
   (Q:=λr aC=>aC=V7 st b/\∃l,r=(none,l,l)/\l<=k/\(∀i,i<l->le c (el b (lo+i)) (el b (lo+k)))/\(∀i,l<=i->i<k->le c (el b (lo+k)) (el b (lo+i)))) ?_ ?_ ?_) ?_)
  ·rintro x r aC _ hx ⟨rfl,l,u,rfl,g1,g2,g3,g4,g5⟩;dsimp only
   by_cases Q5:l >= u
   ·rw[if_pos Q5];obtain rfl:l=u:=by lia
    exact Vj ⟨rfl,l,rfl,g2,g4,g5⟩
   ·rw[if_neg Q5];refine Ve (iP L h0 R (by lia) (by lia) ?_)
    dsimp only;cases hc:c (el b (lo+k)) (el b (lo+(l+u) / 2))with
    |true =>
     rw[if_pos rfl];exact Vj ⟨rfl,l,_,rfl,by lia,by lia,by lia,g4,λi h1 h2=>O.trans (O.of_lt hc) (xT _ _ (by lia) (by lia) (by lia))⟩
    |false =>
     rw[if_neg (by simp)]
     exact Vj ⟨rfl,_,u,rfl,by lia,by lia,by lia,λi h1=>O.trans (xT _ _ (by lia) (by lia) (by lia)) (show le c (el b (lo+(l+u) / 2)) (el b (lo+k)) from hc),g5⟩
  ·rintro r aC ⟨rfl,l,u,rfl,g1,g2,g3,g4,g5⟩;obtain rfl:l=u:=by lia
   exact⟨rfl,l,rfl,g2,g4,g5⟩
  ·exact⟨rfl,0,k,rfl,Vv _,U8 _,by lia,λi hi=>by lia,λi h1 h2=>by lia⟩
  rintro r aC ⟨rfl,l,rfl,g2,g4,g5⟩;dsimp only;rw[moveDown'_eq];refine Ve (Xh (Vj ⟨rfl,by lia,_,rfl,R.trans ((yp (a:=b) (by lia) (by lia)).mono (by lia) (by lia)),yo (a:=b) O (by lia) g2 xT g4 g5⟩))
 ·rintro r aC ⟨rfl,hx,b,rfl,R,xT⟩;rw[show max (max ok 1) n=n by lia]at xT
  exact⟨rfl,b,rfl,R,xT⟩
 ·refine⟨rfl,by lia,VH st,rfl,Rg.refl,?_⟩
  by_cases h2:ok=0
  ·subst h2;exact SR.one O
  ·rw[show max ok 1=ok by lia]
   exact hs
 ·rintro r aC ⟨rfl,b,rfl,R,xT⟩;exact Vj (h b R xT)
theorem sL (base:Nat):∀(l:List Vb) (off:Nat) (a:Array Vb),base+off+l.length<=a.size->∀k:Nat,
  ((l.zipIdx off).foldl (λx (z:Vb×Nat)=>x.setIfInBounds (base+z.2) z.1) a)[k]?=if base+off<=k/\k<base+off+l.length then l[k-(base+off)]? else a[k]?
 |[],off,a,_,k=>by
  rw[if_neg (by rw[V6];lia)]
  rfl
 |x::l,off,a,h,k=>by
  rw[Vo]at h;rw[List.zipIdx_cons,Yv,sL base l (off+1) _ (by rw[Array.size_setIfInBounds];lia)]
  by_cases h1:base+(off+1)<=k/\k<base+(off+1)+l.length
  ·rw[if_pos h1,if_pos (by rw[Vo];lia),show k-(base+off)=k-(base+(off+1))+1 by lia,List.getElem?_cons_succ]
  ·rw[if_neg h1,Array.getElem?_setIfInBounds]
   by_cases h2:base+off=k
   ·subst h2;rw[if_pos rfl,if_pos (by lia),if_pos (by rw[Vo];lia),Nat.sub_self]
    rfl
   ·rw[if_neg h2,if_neg (by rw[Vo];lia)]
def Cb (a:Array Vb)(base:Nat)(l:List Vb):Array Vb:=l.zipIdx.foldl (λx (z:Vb×Nat)=>x.setIfInBounds (base+z.2) z.1) a
theorem o7 {a:Array Vb}{base:Nat}{l:List Vb}(h:base+l.length<=a.size)(k:Nat):(Cb a base l)[k]?=if base<=k/\k<base+l.length then l[k-base]? else a[k]?:=sL base l 0 a h k
theorem yH {a:Array Vb}{base:Nat}{l:List Vb}(h:base+l.length<=a.size):(Cb a base l).toList=a.toList.take base++(l++a.toList.drop (base+l.length)):=by
 apply Yd;intro k;rw[Vx,o7 h];have hz:a.toList.length=a.size:=Vz
 by_cases h1:base<=k/\k<base+l.length
 ·rw[if_pos h1,Wd (by rw[VW];lia),VW,WN (by lia)]
  congr 1
  lia
 ·rw[if_neg h1]
  by_cases h2:k<base
  ·rw[WN (by rw[VW];lia),List.getElem?_take_of_lt h2,Vx]
  ·rw[Wd (by rw[VW];lia),VW,Wd (by lia),List.getElem?_drop,Vx]
   congr 1
   lia
theorem Fv (a:Array Vb)(base m:Nat):a.toList=a.toList.take base++((a.toList.drop base).take m++a.toList.drop (base+m)):=by
 have h1:=(Xa base a.toList).symm;have h2:=(Xa m (a.toList.drop base)).symm;rw[List.drop_drop]at h2;rw[<- h2];exact h1
theorem E_ {a:Array Vb}{base:Nat}{l:List Vb}(h:base+l.length<=a.size)(hp:l.Perm ((a.toList.drop base).take l.length)):Rg a (Cb a base l) base (base+l.length) where
 perm:=by
  rw[Xl,yH h];refine List.Perm.trans ?_ (Zj (Fv a base l.length).symm);exact List.Perm.append_left _ (hp.append_right _)
 out:=λk hk=>eG (by rw[o7 h,if_neg (by lia)])
end
section
variable {prog:U_}{w:Vl}{A:VZ}{E:U5->U7->Prop}{s:U7}{κ:Xr}{c:Vb->Vb->Bool}{a₀:Array Vb}
theorem Cc {σ:Type}{M:Zf}{Q:PUnit->σ->Prop}{st aC:σ}(h:Q ⟨⟩ aC):wpS M A E s (set aC:StateT σ Sem PUnit) Q st:=by
 unfold wpS;rw[StateT.run_set];exact Vg ⟨rfl,h⟩
theorem uS {a:Array Vb}{lo hi i:Nat}(h:i<hi-lo)(hh:hi<=a.size):el (a.extract lo hi) i=el a (lo+i) :=
 eG (by rw[Array.getElem?_extract,if_pos (by lia)])
theorem mD {a:Array Vb}{lo hi:Nat}(hh:hi<=a.size):(a.extract lo hi).size=hi-lo:=by
 rw[Array.size_extract];lia
theorem vY {a:Array Vb}{lo hi:Nat}(hh:hi<=a.size){z:Vb}(h:z∈(a.extract lo hi).toList):∃u,lo<=u/\u<hi/\z=el a u:=by
 obtain⟨i,gc⟩:=List.getElem?_of_mem h;rw[Vx]at gc;have dU:i<(a.extract lo hi).size:=by
  rcases WS i (a.extract lo hi).size with q|q
  ·exact q
  ·rw[XN q]at gc;cases gc
 rw[mD hh]at dU;exact⟨lo+i,by lia,by lia,by rw[<- uS dU hh,wC gc]⟩
theorem tV (O:cg c)(L:fV prog w A E s κ c (·∈a₀.toList)){st:VF}{i sa na pw sb nb Of:Nat}{Q:Bool->VF->Prop}(h0:jY κ a₀ st)(p1:(Vu st)[i]?=some (sa,na,pw))(p2:(Vu st)[i+1]?=some (sb,nb,Of))
  (xT:sb=sa+na) (UH:1<=na) (UG:1<=nb) (hz:sb+nb<=a₀.size) (s1:SR c (VH st) sa sb) (s2:SR c (VH st) sb (sb+nb))
  (h:∀aC,kindOf aC=κ->XD aC=none->Vu aC=((Vu st).setIfInBounds i (sa,na+nb,pw)).eraseIdxIfInBounds (i+1)->Rg (VH st) (VH aC) sa (sb+nb)->SR c (VH aC) sa (sb+nb)->Q true aC) :
  wpS (model prog w) A E s (mergeAt' i) Q st:=by
 rw[rX];refine Ve (X9 ?_);rw[p1,p2];dsimp only;refine Ve (Cc ?_);have hsz:=h0.size;have hm:∀{j},j<a₀.size->el (VH st) j∈a₀.toList:=λhj=>h0.mem hj;generalize ha:VH st=a at *
 have w6:kindOf (XT st (((Vu st).setIfInBounds i (sa,na+nb,pw)).eraseIdxIfInBounds (i+1)))=κ:=h0.kind;have Ft:XD (XT st (((Vu st).setIfInBounds i (sa,na+nb,pw)).eraseIdxIfInBounds (i+1)))=none:=h0.fail;have Fu:VH (XT st (((Vu st).setIfInBounds i (sa,na+nb,pw)).eraseIdxIfInBounds (i+1)))=a:=ha;have Jh:Vu (XT st (((Vu st).setIfInBounds i (sa,na+nb,pw)).eraseIdxIfInBounds (i+1)))=((Vu st).setIfInBounds i (sa,na+nb,pw)).eraseIdxIfInBounds (i+1):=rfl;generalize hP:((Vu st).setIfInBounds i (sa,na+nb,pw)).eraseIdxIfInBounds (i+1)=P at *
 generalize XT st P=NW at *
 refine Ve (aT (by lia) ?_)
 refine Ve (dZ O L w6 (hm (by lia)) (λx hx=>hm (by lia)) (by lia) (λx y h1 h2 h3=>s1 x y h1 h2 (by lia)) (by lia) λk k1 k2 k3=>?_)
 dsimp only;have g0:∀x,sa<=x->x<sa+k->le c (el a x) (el a sb):=λx h1 h2=>by
  have:=k2 (x-sa) (by lia)
  unfold eI at this;rw[if_neg (by simp),XM,show sa+(x-sa)=x by lia]at this
  exact this
 by_cases e1:(na-k==0)=true
 ·rw[if_pos e1];have e1:na-k=0:=by simpa using e1
  refine Vj (h NW w6 Ft Jh (by rw[Fu];exact Rg.refl) ?_)
  rw[Fu];intro x y h1 h2 h3
  by_cases hx:x<sb
  ·by_cases hy:y<sb
   ·exact s1 x y h1 h2 hy
   ·exact O.trans (g0 x h1 (by lia)) (s2 sb y (U8 _) (by lia) h3)
  ·exact s2 x y (by lia) h2 h3
 rw[if_neg e1];have e1:na-k≠0:=by simpa using e1
 have g1:c (el a sb) (el a (sa+k))=true:=by
  have:=k3 k (U8 _) (by lia)
  unfold eI at this;rw[if_neg (by simp),YX]at this
  exact this
 refine Ve (aT (by lia) ?_)
 refine Ve (dZ O L w6 (hm (by lia)) (λx hx=>hm (by lia)) (by lia) (λx y h1 h2 h3=>s2 x y h1 h2 (by lia)) (by lia) λm m1 m2 m3=>?_)
 dsimp only;rw[show sa+k+(na-k)-1=sb-1 by lia]at m2 m3
 have g2:∀x,sb<=x->x<sb+m->c (el a x) (el a (sb-1))=true:=λx h1 h2=>by
  have:=m2 (x-sb) (by lia)
  unfold eI at this;rw[if_pos rfl,show sb+(x-sb)=x by lia]at this
  exact this
 have g3:∀x,sb+m<=x->x<sb+nb->le c (el a (sb-1)) (el a x):=λx h1 h2=>by
  have:=m3 (x-sb) (by lia) (by lia)
  unfold eI at this;rw[if_pos rfl,show sb+(x-sb)=x by lia]at this
  exact this
 by_cases e2:(m==0)=true
 ·exfalso
  have e2:m=0:=by simpa using e2
  have:=O.trans (s1 (sa+k) (sb-1) (by lia) (by lia) (by lia)) (g3 sb (by lia) (by lia))
  exact absurd (g1.symm.trans this) (by simp)
 rw[if_neg e2];have e2:m≠0:=by simpa using e2
 have zx:(a.extract (sa+k) sb).size=sb-(sa+k):=mD (by lia)
 have zy:(a.extract sb (sb+m)).size=m:=by rw[mD (by lia)];lia
 have ex:∀{t},t<sb-(sa+k)->el (a.extract (sa+k) sb) t=el a (sa+k+t):=λht=>uS ht (by lia)
 have ey:∀{t},t<m->el (a.extract sb (sb+m)) t=el a (sb+t):=λht=>uS (by lia) (by lia)
 have fin:∀(out:Array Vb) (fY:VF),j3 NW fY->Gd c (a.extract (sa+k) sb) (a.extract sb (sb+m)) out.toList ->
   wpS (model prog w) A E s (do
    modify λs2=>V7 s2 (out.toList.zipIdx.foldl (λx z=>match z with|(p,j)=>x.setIfInBounds (sa+k+j) p) (VH s2))
    let y <- get
    pure (XD y).isNone:StateT VF Sem Bool) Q fY:=by
  rintro out fY e ⟨gp,gs⟩;refine Ve (Xh (Ve (X9 (Vj ?_))));show Q (XD fY).isNone (V7 fY (Cb (VH fY) (sa+k) out.toList));rw[e.fail,Ft,e.arr,Fu];have zo:out.toList.length=sb-(sa+k)+m:=by
   rw[gp.length_eq,Vk,Vz,Vz,zx,zy]
  have hb:sa+k+out.toList.length<=a.size:=by lia
  have xy:(a.toList.drop (sa+k)).take out.toList.length=(a.extract (sa+k) sb).toList++(a.extract sb (sb+m)).toList:=by
   rw[cb,cb,zo,show sb+m-sb=m by lia,List.take_add,List.drop_drop,show sa+k+(sb-(sa+k))=sb by lia]
  have R:Rg a (Cb a (sa+k) out.toList) (sa+k) (sa+k+out.toList.length):=E_ hb (by rw[xy];exact gp)
  refine h _ (e.kind.trans w6) (e.fail.trans Ft) (e.pend.trans Jh) (R.mono (by lia) (by lia)) ?_
  show SR c (Cb a (sa+k) out.toList) sa (sb+nb);have Hw:∀t,sa+k<=t->t<sb+m->∃z,out.toList[t-(sa+k)]?=some z/\el (Cb a (sa+k) out.toList) t=z/\((∃u,sa+k<=u/\u<sb/\z=el a u)\/∃u,sb<=u/\u<sb+m/\z=el a u):=by
   intro t h1 h2;have hl:t-(sa+k)<out.toList.length:=by lia
   refine⟨out.toList[t-(sa+k)],Vf hl,wC (by rw[o7 hb,if_pos (by lia)];exact Vf hl),?_⟩
   have Pa:=gp.mem_iff.mp (Yn hl);rcases VC.mp Pa with q|q
   ·exact .inl (vY (by lia) q)
   ·exact .inr (vY (by lia) q)
  have Ro:∀t,t<sa+k->el (Cb a (sa+k) out.toList) t=el a t:=λt ht=>R.out t (.inl ht);have M7:∀t,sb+m<=t->el (Cb a (sa+k) out.toList) t=el a t:=λt ht=>R.out t (.inr (by lia))
  intro x y h1 h2 h3
  by_cases hx:x<sa+k
  ·rw[Ro x hx]
   by_cases hy:y<sa+k
   ·rw[Ro y hy];exact s1 x y h1 h2 (by lia)
   ·by_cases OC:y<sb+m
    ·obtain⟨z,_,ez,OB⟩:=Hw y (by lia) OC
     rw[ez];rcases OB with⟨u,u1,u2,rfl⟩|⟨u,u1,u2,rfl⟩
     ·exact s1 x u h1 (by lia) u2
     ·exact O.trans (g0 x h1 hx) (s2 sb u (U8 _) u1 (by lia))
    ·rw[M7 y (by lia)]
     exact O.trans (g0 x h1 hx) (s2 sb y (U8 _) (by lia) h3)
  ·by_cases OE:x<sb+m
   ·obtain⟨z,iz,ez,OB⟩:=Hw x (by lia) OE
    rw[ez]
    by_cases OC:y<sb+m
    ·obtain⟨z',SK,PZ,_⟩:=Hw y (by lia) OC
     rw[PZ]
     by_cases OD:x=y
     ·subst OD;rw[ez]at PZ;rw[PZ];exact O.refl _
     ·obtain⟨q1,q2⟩:=Vc.mp iz;obtain⟨q3,q4⟩:=Vc.mp SK;have:=X7.mp gs _ _ q1 q3 (by lia)
      rw[q2,q4]at this;exact this
    ·rw[M7 y (by lia)]
     rcases OB with⟨u,u1,u2,rfl⟩|⟨u,u1,u2,rfl⟩
     ·exact O.trans (s1 u (sb-1) (by lia) (by lia) (by lia)) (g3 y (by lia) h3)
     ·exact s2 u y (by lia) (by lia) h3
   ·rw[M7 x (by lia),M7 y (by lia)]
    exact s2 x y (by lia) h2 h3
 have go:∀(out:Array Vb) (fY:VF),j3 NW fY->Gd c (a.extract (sa+k) sb) (a.extract sb (sb+m)) out.toList->wpS (model prog w) A E s (do
    modify λs2=>V7 s2 (out.toList.zipIdx.foldl (λx z=>match z with|(p,j)=>x.setIfInBounds (sa+k+j) p) (VH s2))
    let y <- get
    pure (XD y).isNone:StateT VF Sem Bool) Q fY:=fin
 have OG:0<(a.extract (sa+k) sb).size:=by lia
 have QW:0<(a.extract sb (sb+m)).size:=by lia
 have Sx:∀t,t<(a.extract (sa+k) sb).size->el (a.extract (sa+k) sb) t∈a₀.toList:=λt ht=>by rw[ex (by lia)];exact hm (by lia)
 have Sy:∀t,t<(a.extract sb (sb+m)).size->el (a.extract sb (sb+m)) t∈a₀.toList:=λt ht=>by rw[ey (by lia)];exact hm (by lia)
 have Qx:SR c (a.extract (sa+k) sb) 0 (a.extract (sa+k) sb).size:=λx y h1 h2 h3=>by
  rw[ex (by lia),ex (by lia)]
  exact s1 _ _ (by lia) (by lia) (by lia)
 have Qw:SR c (a.extract sb (sb+m)) 0 (a.extract sb (sb+m)).size:=λx y h1 h2 h3=>by
  rw[ey (by lia),ey (by lia)]
  exact s2 _ _ (by lia) (by lia) (by lia)
 have hf:c (el (a.extract sb (sb+m)) 0) (el (a.extract (sa+k) sb) 0)=true:=by
  rw[ex (by lia),ey (by lia)]
  exact g1
 have hl:∀y,y<(a.extract sb (sb+m)).size->c (el (a.extract sb (sb+m)) y) (el (a.extract (sa+k) sb) ((a.extract (sa+k) sb).size-1))=true:=λy hy=>by
  rw[ey (by lia),ex (by lia),show sa+k+((a.extract (sa+k) sb).size-1)=sb-1 by lia]
  exact g2 _ (by lia) (by lia)
 by_cases e3:na-k<=m
 ·rw[if_pos e3];exact Ve (tT O L w6 Sx Sy Qx Qw OG QW hf hl go)
 ·rw[if_neg e3];exact Ve (tU O L w6 Sx Sy Qx Qw OG QW hf hl go)
end
section
variable {c:Vb->Vb->Bool}{a b:Array Vb}
def Runs (c:Vb->Vb->Bool)(a:Array Vb):List (Nat×Nat×Nat)->Nat->Nat->Prop
 |[],lo,hi=>lo=hi
 |z::r,lo,hi=>z.1=lo/\1<=z.2.1/\SR c a lo (lo+z.2.1)/\Runs c a r (lo+z.2.1) hi
theorem Runs.app:∀{l r:List (Nat×Nat×Nat)} {lo hi:Nat},Runs c a (l++r) lo hi->∃m,Runs c a l lo m/\Runs c a r m hi
 |[],r,lo,hi,h=>⟨lo,rfl,h⟩
 |z::l,r,lo,hi,⟨h1,h2,h3,h4⟩=>by
  obtain⟨m,g1,g2⟩:=Runs.app h4;exact⟨m,⟨h1,h2,h3,g1⟩,g2⟩
theorem Runs.join:∀{l r:List (Nat×Nat×Nat)} {lo m hi:Nat},Runs c a l lo m->Runs c a r m hi->Runs c a (l++r) lo hi
 |[],r,lo,m,hi,h,g=>by
  obtain rfl:lo=m:=h;exact g
 |z::l,r,lo,m,hi,⟨h1,h2,h3,h4⟩,g=>⟨h1,h2,h3,Runs.join h4 g⟩
theorem Runs.len:∀{l:List (Nat×Nat×Nat)} {lo hi:Nat},Runs c a l lo hi->lo+l.length<=hi
 |[],lo,hi,h=>Nat.le_of_eq h
 |z::l,lo,hi,⟨h1,h2,h3,h4⟩=>by
  have:=Runs.len h4;rw[Vo];lia
theorem Runs.congr:∀{l:List (Nat×Nat×Nat)} {lo hi:Nat},Runs c a l lo hi->(∀k,lo<=k->k<hi->el b k=el a k)->Runs c b l lo hi
 |[],lo,hi,h,_=>h
 |z::l,lo,hi,⟨h1,h2,h3,h4⟩,e=>by
  have hl:=Runs.len h4;exact⟨h1,h2,h3.congr λk g1 g2=>e k g1 (by lia),Runs.congr h4 λk g1 g2=>e k (by lia) g2⟩
theorem Runs.pow:∀{l l':List (Nat×Nat×Nat)} {lo hi:Nat},Runs c a l lo hi->l'.map (λz=>(z.1,z.2.1))=l.map (λz=>(z.1,z.2.1))->Runs c a l' lo hi
 |[],[],_,_,h,_=>h
 |[],z::l',_,_,_,e=>by cases e
 |z::l,[],_,_,_,e=>by cases e
 |z::l,z'::l',lo,hi,⟨h1,h2,h3,h4⟩,e=>by
  rw[VI,VI]at e;injection e with e1 e2
  injection e1 with e3 e4
  exact⟨e3.trans h1,by rw[e4];exact h2,by rw[e4];exact h3,by rw[e4];exact Runs.pow h4 e2⟩
end
section
variable {prog:U_}{w:Vl}{A:VZ}{E:U5->U7->Prop}{s:U7}{κ:Xr}{c:Vb->Vb->Bool}{a₀:Array Vb}
theorem Fw {α:Type}{l:List α}{i:Nat}(h:i+1<l.length):∃l1 x y l2,l=l1++x::y::l2/\l1.length=i:=by
 refine⟨l.take i,l[i],l[i+1],l.drop (i+2),?_,by rw[VW];lia⟩
 rw[<- VY h,<- VY (by lia),Xa]
theorem nF (O:cg c)(L:fV prog w A E s κ c (·∈a₀.toList)){st:VF}{i hi:Nat}{Q:Bool->VF->Prop}(h0:jY κ a₀ st)(hr:Runs c (VH st) (Vu st).toList 0 hi)(hh:hi<=a₀.size)(Pp:i+1<(Vu st).size)
  (h:∀aC,jY κ a₀ aC->Rg (VH st) (VH aC) 0 hi->Runs c (VH aC) (Vu aC).toList 0 hi->(Vu aC).size+1=(Vu st).size->Q true aC) :
  wpS (model prog w) A E s (mergeAt' i) Q st:=by
 obtain⟨l1,⟨sa,na,pw⟩,⟨sb,nb,Of⟩,l2,el,hl⟩:=Fw (l:=(Vu st).toList) (i:=i) (by rw[Vz];exact Pp)
 rw[el]at hr;obtain⟨m,r1,r2⟩:=hr.app;obtain⟨x1,x2,x3,y1,y2,y3,r3⟩:=r2;dsimp only at x1 x2 x3 y1 y2 y3 r3;have hlen:=r3.len;have Q6:=r1.len;have p1:(Vu st)[i]?=some (sa,na,pw):=by
  rw[<- Vx,el,Wd (by lia),hl,Nat.sub_self]
  rfl
 have p2:(Vu st)[i+1]?=some (sb,nb,Of):=by
  rw[<- Vx,el,Wd (by lia),hl,show i+1-i=1 by lia]
  rfl
 subst x1;refine tV O L h0 p1 p2 y1 x2 y2 (by lia) (by rw[y1];exact x3) (by rw[y1];exact y3) λaC k1 k2 k3 R S=>?_
 have ep:(Vu aC).toList=l1++(sa,na+nb,pw)::l2:=by
  rw[k3];have hz:i+1<((Vu st).setIfInBounds i (sa,na+nb,pw)).size:=by rw[Array.size_setIfInBounds];exact Pp
  have e1:(((Vu st).setIfInBounds i (sa,na+nb,pw)).eraseIdxIfInBounds (i+1)).toList=((Vu st).toList.set i (sa,na+nb,pw)).eraseIdx (i+1):=by
   unfold Array.eraseIdxIfInBounds;rw[dif_pos hz,Array.toList_eraseIdx,Array.toList_setIfInBounds]
  rw[e1,el,<- hl,List.set_append_right _ _ (U8 _),Nat.sub_self,List.set_cons_zero,List.eraseIdx_append_of_length_le (by lia),show l1.length+1-l1.length=1 by lia]
  rfl
 have out:∀k,(k<sa\/sb+nb<=k)->TS.el (VH aC) k=TS.el (VH st) k:=R.out;refine h aC ⟨k1,k2,R.perm.trans h0.perm⟩ (R.mono (Vv _) (by lia)) ?_ ?_
 ·rw[ep];refine Runs.join (r1.congr λk g1 g2=>out k (.inl (by lia))) ⟨rfl,by show 1<=na+nb;lia,?_,?_⟩
  ·show SR c (VH aC) sa (sa+(na+nb));rw[show sa+(na+nb)=sb+nb by lia]
   exact S
  ·show Runs c (VH aC) l2 (sa+(na+nb)) hi;rw[show sa+(na+nb)=sa+na+nb by lia]
   exact r3.congr λk g1 g2=>out k (.inr (by lia))
 ·have e2:(Vu aC).size=l1.length+(l2.length+1):=by rw[<- Vz,ep,Vk,Vo]
  have e3:(Vu st).size=l1.length+(l2.length+1+1):=by rw[<- Vz,el,Vk,Vo,Vo]
  lia
theorem lW:∀(f n r:Nat),1<=n->1<=minRun' f n r
 |0,n,r,h=>by show 1<=n+r;lia
 |f+1,n,r,h=>by
  rw[minRun'_succ]
  split
  ·lia
  ·exact lW f _ _ (by lia)
theorem CI (p:Array (Nat×Nat×Nat))(i w:Nat):(p.modify i λx=>(x.1,x.2.1,w)).toList.map (λz=>(z.1,z.2.1))=p.toList.map (λz=>(z.1,z.2.1)):=by
 apply Yd;intro k;rw[Vq,Vq,Vx,Vx,Array.getElem?_modify]
 split
 ·rw[Option.map_map];rfl
 ·rfl
theorem qL (O:cg c)(L:fV prog w A E s κ c (·∈a₀.toList)){st:VF}{Q:Unit->VF->Prop}(h0:jY κ a₀ st)(hp:Vu st=#[])(h2:2<=a₀.size)
  (h:∀aC,jY κ a₀ aC->SR c (VH aC) 0 a₀.size->Q () aC):wpS (model prog w) A E s sortRuns' Q st:=by
 rw[sortRuns'_eq];refine Ve (X9 ?_);dsimp only;rw[h0.size];have S9:=lW a₀.size a₀.size 0 (by lia)
 generalize minRun' a₀.size a₀.size 0=mr at S9;refine Ve (WD (V2 (I:=λx r aC=>jY κ a₀ aC/\∃lo,r=(none,lo)/\lo<=a₀.size/\(a₀.size<=lo\/x<=lo)/\Runs c (VH aC) (Vu aC).toList 0 lo)
  (Q:=λr aC=>jY κ a₀ aC/\r=(none,a₀.size)/\Runs c (VH aC) (Vu aC).toList 0 a₀.size) ?_ ?_ ?_) ?_)
 ·rintro x r aC _ hx ⟨hS,lo,rfl,Pe,Ta,hr⟩;dsimp only
  by_cases hl:lo >= a₀.size
  ·rw[if_pos hl];obtain rfl:lo=a₀.size:=by lia
   exact Vj ⟨hS,rfl,hr⟩
  rw[if_neg hl];refine Ve (yM O L hS (by lia) (by lia) λn b n1 n2 R Sb=>?_)
  dsimp only;have tR:jY κ a₀ (V7 aC b):=hS.set R;have uJ:Runs c (VH (V7 aC b)) (Vu (V7 aC b)).toList 0 lo:=Runs.congr (b:=b) hr λk q1 q2=>R.out k (.inl q2);refine(λ(key:∀(N:Nat) (stx:VF),1<=N->lo+N<=a₀.size->Runs c (VH stx) (Vu stx).toList 0 lo->jY κ a₀ stx->SR c (VH stx) lo (lo+N)->(?G:Nat->VF->Prop) N stx)=>?main) ?key
  case main =>
   by_cases Q3:n<mr
   ·rw[if_pos Q3];refine Ve (YB (Xx ⟨rfl,?_⟩));refine Ve (Ff O L tR (by lia) (by lia) (by lia) Sb λb' R' T5=>?_)
    rw[if_neg (by simp)]
    have M4:1<=min (a₀.size-lo) mr:=by lia
    have Pz:lo+min (a₀.size-lo) mr<=a₀.size:=by lia
    have uJ:Runs c (VH (V7 (V7 aC b) b')) (Vu (V7 (V7 aC b) b')).toList 0 lo:=Runs.congr (b:=b') uJ λk q1 q2=>R'.out k (.inl q2);have tR:jY κ a₀ (V7 (V7 aC b) b'):=tR.set R';have E4:SR c (VH (V7 (V7 aC b) b')) lo (lo+(min (a₀.size-lo) mr)):=T5;generalize V7 (V7 aC b) b'=stx at uJ tR E4 ⊢
    generalize min (a₀.size-lo) mr=N at M4 Pz E4 ⊢
    exact key N stx M4 Pz uJ tR E4
   ·rw[if_neg Q3];have E4:SR c (VH (V7 aC b)) lo (lo+n):=Sb;exact key n _ n1 (by lia) uJ tR E4
  case key =>
   intro N stx M4 Pz uJ tR E4;refine Ve (X9 ?_);have Ms:∀(lD:VF),jY κ a₀ lD->SR c (VH lD) lo (lo+N)->Runs c (VH lD) (Vu lD).toList 0 lo->jY κ a₀ (XT lD ((Vu lD).push (lo,N,0)))/\∃Ey,((none,lo+N):Option Unit×Nat)=(none,Ey)/\Ey<=a₀.size/\(a₀.size<=Ey\/x+1<=Ey)/\Runs c (VH lD) ((Vu lD).push (lo,N,0)).toList 0 Ey:=λlD g1 g2 g3 =>
    ⟨⟨g1.kind,g1.fail,g1.perm⟩,_,rfl,by lia,by lia,by rw[Xf];exact g3.join ⟨rfl,M4,g2,rfl⟩⟩
   cases hb:(Vu stx).back? with
   |none =>
    dsimp only;exact Ve (Xh (Vj (Ms stx tR E4 uJ)))
   |some z =>
    obtain⟨s1,n1,p1⟩:=z;dsimp only;refine Ve (WD (V2 (I:=λx r aC=>r=(none,())/\jY κ a₀ aC/\SR c (VH aC) lo (lo+N)/\Runs c (VH aC) (Vu aC).toList 0 lo)
     (Q:=λr aC=>r=(none,())/\jY κ a₀ aC/\SR c (VH aC) lo (lo+N)/\Runs c (VH aC) (Vu aC).toList 0 lo) ?_ ?_ ?_) ?_)
    ·rintro y r lD _ _ ⟨rfl,g1,g2,g3⟩;refine Ve (X9 ?_)
     by_cases Iw:(Vu lD).size>1
     ·rw[if_pos Iw];cases hq:(Vu lD)[(Vu lD).size-2]? with
      |none =>
       dsimp only;exact Vj ⟨rfl,g1,g2,g3⟩
      |some z =>
       obtain⟨u,v,QH⟩:=z;dsimp only
       split
       ·exact Vj ⟨rfl,g1,g2,g3⟩
       ·refine Ve (nF O L g1 g3 (by lia) (by lia) λEi f1 f2 f3 f4=>?_)
        exact Vj ⟨rfl,f1,g2.congr λk q1 q2=>f2.out k (.inr q1),f3⟩
     ·rw[if_neg Iw];dsimp only;exact Vj ⟨rfl,g1,g2,g3⟩
    ·rintro r lD ⟨rfl,g1,g2,g3⟩;exact⟨rfl,g1,g2,g3⟩
    ·exact⟨rfl,tR,E4,uJ⟩
    rintro r lD ⟨rfl,g1,g2,g3⟩;dsimp only;refine Ve (Xh (Ve (Xh (Vj ?_))));exact Ms (XT lD _) ⟨g1.kind,g1.fail,g1.perm⟩ g2 (g3.pow (CI _ _ _))
 ·rintro r aC ⟨hS,lo,rfl,Pe,Ta,hr⟩;obtain rfl:lo=a₀.size:=by lia
  exact⟨hS,rfl,hr⟩
 ·exact⟨h0,0,rfl,Vv _,.inr (U8 _),by rw[hp];rfl⟩
 rintro r aC ⟨hS,rfl,hr⟩;dsimp only;refine Ve (WD (V2 (I:=λx r aC=>r=(none,())/\jY κ a₀ aC/\Runs c (VH aC) (Vu aC).toList 0 a₀.size/\((Vu aC).size<=1\/(Vu aC).size+x<=a₀.size))
  (Q:=λr aC=>r=(none,())/\jY κ a₀ aC/\Runs c (VH aC) (Vu aC).toList 0 a₀.size/\(Vu aC).size<=1) ?_ ?_ ?_) ?_)
 ·rintro x r fY _ hx ⟨rfl,tR,uJ,hz⟩;refine Ve (X9 ?_)
  by_cases h1:(Vu fY).size<=1
  ·rw[if_pos h1];exact Vj ⟨rfl,tR,uJ,h1⟩
  rw[if_neg h1];refine Ve (nF O L tR uJ (U8 _) ?_ λlD Tz R3 S3 UD=>?_)
  ·split
   ·split <;> lia
   ·rw[if_neg (by simp)]
    lia
  ·exact Vj ⟨rfl,Tz,S3,.inr (by lia)⟩
 ·rintro r fY ⟨rfl,tR,uJ,hz⟩;exact⟨rfl,tR,uJ,by lia⟩
 ·refine⟨rfl,hS,hr,.inr ?_⟩;have:=hr.len;rw[Vz]at this;lia
 ·rintro r fY ⟨rfl,tR,uJ,hz⟩;refine Vj (h fY tR ?_)
  match hq:(Vu fY).toList,uJ with
  |[],e=>
   have:(0:Nat)=a₀.size:=e;lia
  |[z],e =>
   obtain⟨e1,e2,e3,e4⟩:=e;have e4:0+z.2.1=a₀.size:=e4;rw[e4]at e3;exact e3
  |z::y::l,e =>
   have:(Vu fY).toList.length<=1:=by rw[Vz];exact hz
   rw[hq]at this;simp at this
end
theorem lex_nil {y:List Int}:HT.lexLt [] y=decide (0<y.length):=by cases y <;> rfl
theorem jc {a b:Int}{x y:List Int}:HT.lexLt (a::x) (b::y)=if a=b then HT.lexLt x y else decide (a<b):=rfl
theorem r9:∀{x y:List Int},HT.lexLt x y=true->HT.lexLt y x=false
 |[],[],_=>rfl
 |[],_::_,_=>rfl
 |_::_,[],h=>by cases h
 |a::x,b::y,h=>by
  rw[jc]at h ⊢
  by_cases e:a=b
  ·rw[if_pos e]at h;rw[if_pos e.symm];exact r9 h
  ·rw[if_neg e]at h;rw[if_neg λz=>e z.symm];have:=of_decide_eq_true h;exact decide_eq_false (by lia)
theorem vZ:∀{x z:List Int} (y:List Int),HT.lexLt x z=true->HT.lexLt x y=true\/HT.lexLt y z=true
 |[],[],_,h=>by cases h
 |[],_::_,[],h=>.inr rfl
 |[],_::_,_::_,h=>.inl rfl
 |_::_,[],_,h=>by cases h
 |a::x,b::z,[],h=>.inr rfl
 |a::x,b::z,d::y,h=>by
  rw[jc]at h ⊢
  rw[jc]
  by_cases e:a=b
  ·subst e;rw[if_pos rfl]at h
   by_cases e2:a=d
   ·subst e2;rw[if_pos rfl,if_pos rfl];exact vZ y h
   ·rw[if_neg e2,if_neg λq=>e2 q.symm]
    by_cases e3:a<d
    ·exact .inl (decide_eq_true e3)
    ·exact .inr (decide_eq_true (by lia))
  ·rw[if_neg e]at h;have h:=of_decide_eq_true h
   by_cases e2:a=d
   ·subst e2;rw[if_neg e];exact .inr (decide_eq_true h)
   ·rw[if_neg e2]
    by_cases e3:a<d
    ·exact .inl (decide_eq_true e3)
    ·rw[if_neg (by lia)]
     exact .inr (decide_eq_true (by lia))
def byKey (kf:U5->List Int)(x y:Vb):Bool:=HT.lexLt (kf x.1) (kf y.1)
theorem CY (kf:U5->List Int):cg (byKey kf):=⟨λ_ _ h=>r9 h,λ_ y _ h=>vZ (kf y.1) h⟩
section
variable {prog:U_}{w:Vl}{A:VZ}{E:U5->U7->Prop}{s:U7}
theorem rZ {b:Bool}{Q:Bool->U7->Prop}:∀{ns ms:List Int} {us vs:List U5} (i:Nat),Wj us ns->Wj vs ms->Q (HT.lexLt ns ms) s->PySem.W.KatLex prog w A b (decide (ns.length<ms.length)) Q (us.zip vs) i s
 |[],ms,us,vs,i,hu,hv,q=>by
  cases hu;rw[Yb];rw[lex_nil]at q;exact PySem.W.kat_nil q
 |n::ns,[],us,vs,i,hu,hv,q=>by
  cases hv;rw[X4];exact PySem.W.kat_nil q
 |n::ns,m::ms,us,vs,i,hu,hv,q=>by
  cases hu with
  |cons _ t hu =>
   cases hv with
   |cons _ t' hv =>
    rw[WB];refine PySem.W.kat_cons (wpAny_eqBool_int ?_);rw[jc]at q
    by_cases e:n=m
    ·subst e;rw[if_pos rfl]at q;rw[beq_self_eq_true];have:=rZ (b:=b) (Q:=Q) (i+1) hu hv q;rw[show decide ((n::ns).length<(n::ms).length)=decide (ns.length<ms.length) by rw[Vo,Vo];congr 1;simp]
     exact PySem.W.kat_yes this
    ·rw[if_neg e]at q;rw[show (n==m)=false from beq_eq_false_iff_ne.mpr e]
     refine PySem.W.kat_no ?_;cases b&&i==0 with
     |true=>exact oneLt_int q
     |false=>exact PySem.W.kat_one _ _ (lt_int q)
def nB (h:Heap)(kf:U5->List Int)(a:Addr)(vs:List U5):Prop :=
 ∀v∈vs,∃t o xs k,v=.ref t/\t≠a/\h.get? t=some o/\o.cls=.type "tuple" /\ o.data=.seq xs k/\Wj xs.toList (kf v)/\kf v≠[]
theorem xF {kf:U5->List Int}{a:Addr}{vs:List U5}{b:Bool}{a₀:Array Vb}(T:nB s.heap kf a vs)(hm:∀z∈a₀.toList,z.1∈vs):fV prog w A E s (tuples' b) (byKey kf) (·∈a₀.toList):=by
 intro x y st Q hx hy hk q;obtain⟨t,o,xs,n,e1,_,e2,_,e3,e4,_⟩:=T _ (hm _ hx);obtain⟨t',o',IL,n',f1,_,f2,_,f3,f4,_⟩:=T _ (hm _ hy);rw[lt'_eq];refine Ve (X9 ?_);rw[hk,e1,f1];have z1:xs.size=(kf x.1).length:=by rw[<- Vz];exact e4.length
 have z2:IL.size=(kf y.1).length:=by rw[<- Vz];exact f4.length
 refine Ve (YB (Yg (PySem.W.kat_lt e2 e3 f2 f3 ?_)));rw[z1,z2];exact rZ 0 e4 f4 ⟨rfl,Vj q⟩
theorem lz {kf:U5->List Int}{a:Addr}{h:Heap}:∀{vs:List U5},nB h kf a vs->∃fs:List U5,PySem.W.KatTups h vs fs/\fs.length=vs.length/\∀f∈fs,∃n t,f=Value.int n t
 |[],_=>⟨[],trivial,rfl,λf hf=>by cases hf⟩
 |v::vs,T=>by
  obtain⟨fs,h1,h2,h3⟩:=lz (vs:=vs) λu hu=>T u (Vm _ hu);obtain⟨t,o,xs,k,rfl,_,e2,e3,e4,e5,e6⟩:=T v Vw;obtain⟨f,r,ef,n,tk,hn⟩:∃f r,xs.toList=f::r/\∃n tk,f=Value.int n tk:=by
   generalize kf (.ref t)=ks at e5 e6;generalize xs.toList=us at e5;cases e5 with
   |nil=>exact absurd rfl e6
   |cons n tk r=>exact⟨_,_,rfl,_,_,rfl⟩
  have e:xs[0]?=some f:=by rw[<- Vx,ef];rfl
  exact⟨f::fs,PySem.W.KatTups.cons e2 e3 e4 e h1,by rw[Vo,Vo,h2],λg hg=>by
   rcases Va.mp hg with rfl|hg
   ·exact⟨_,_,hn⟩
   ·exact h3 g hg⟩
theorem xK {kf:U5->List Int}{a:Addr}{vs:List U5}{Q:Xr->U7->Prop}(T:nB s.heap kf a vs)(h0:0<vs.length)(q:Q (tuples' true) s):VA (model prog w) A (keyKind' vs.toArray) Q E s:=by
 obtain⟨fs,h1,h2,h3⟩:=lz T;refine PySem.W.kat_kind (T:=.type "int") h1 (by lia) (λv hv=>?_) (by decide) q
 obtain⟨n,t,rfl⟩:=h3 v hv;exact .now
theorem y9 {α:Type}{R:α->α->Prop}:∀{l:List α},l.length<2->l.Pairwise R
 |[],_=>.nil
 |[x],_=>List.pairwise_singleton _ _
 |_::_::_,h=>by
  rw[Vo,Vo]at h;lia
theorem uA {a:Addr} {vs:List U5} {n:Nat} {κ:Xr} {c:U5->U5->Bool} {P:PySem.Fin->U7->Prop} (ho:s.heap.get? a=some (WV "list" vs.toArray n)) (hz:vs.length<=1000000) (O:cg λx y=>c x.1 y.1)
  (T:∀s':U7,(∀t o,t≠a->s.heap.get? t=some o->s'.heap.get? t=some o)->(2<=vs.length->∀(Q:Xr->U7->Prop),Q κ s'->VA (model prog w) A (keyKind' vs.toArray) Q E s')/\fV prog w A E s' κ (λx y=>c x.1 y.1) (·∈(vs.toArray.zip vs.toArray).toList))
  (h:∀out:List U5,out.Perm vs->out.Pairwise (λx y=>c y x=false)->P (.done (.ret .none)) {s with heap:=sortedHeap s.heap a vs out.toArray}) :
  VA (model prog w) A (W4.«list.sort» ⟨[.ref a],[]⟩) P E s:=by
 have la:a<s.heap.objs.size:=Vp ho;obtain⟨ep,hc⟩:∃ep,(s.heap.update a (Xj λ_=>#[])).get? a=some (WV "list" #[] ep):=⟨_,get?_update_seq ho (λ_=>#[])⟩;have old:∀t o,t≠a->s.heap.get? t=some o->(((s.heap.update a (Xj λ_=>#[])).push (WV "tuple" vs.toArray 0)).push (WV "list" #[] 0)).get? t=some o:=λt o ht e =>
  Vi _ (Vi _ (by rw[Heap.get?_update_ne _ _ _ _ ht];exact e))
 have sH:(((s.heap.update a (Xj λ_=>#[])).push (WV "tuple" vs.toArray 0)).push (WV "list" #[] 0)).get? a=some (WV "list" #[] ep):=Vi _ (Vi _ hc);have big:∀m:Nat,m<=vs.length->m<=Vh:=λm hm=>by rw[Wm];lia
 have zz:vs.toArray.size=vs.length:=by simp
 rw[list_sort_plain];refine U6 (listItems_at ho rfl ?_);refine U6 (listUpdate_at ho rfl ?_ (big _ (Nat.le_of_eq zz)) (Vv _));refine U6 (seqEpoch_at hc rfl ?_);refine U6 (wpAny_newTuple ?_ (big _ (U8 _)));refine U6 (wpAny_newList ?_ (Vv _));refine WC ?_;show VA (model prog w) A _ P E {s with heap:=((s.heap.update a (Xj λ_=>#[])).push (WV "tuple" vs.toArray 0)).push (WV "list" #[] 0)}
 dsimp only;have done:∀aC:VF,(VH aC).Perm (vs.toArray.zip vs.toArray)->(VH aC).toList.Pairwise (le λx y=>c x.1 y.1)->P (.done (.ret .none)) {s with heap:=sortedHeap s.heap a vs ((VH aC).map (·.2))}:=λaC hp hs=>by
  have h1:∀z∈(VH aC).toList,z.1=z.2:=λz hz=>by
   have:=(Xl.mp hp).mem_iff.mp hz;rw[Ze]at this;obtain⟨i,hi⟩:=List.getElem?_of_mem this;rw[List.getElem?_zip_eq_some]at hi;exact VX (hi.1.symm.trans hi.2)
  have e2:(VH aC).map (·.2)=((VH aC).toList.map (·.2)).toArray:=by
   apply Array.toList_inj.mp;rw[Array.toList_map]
  rw[e2];refine h _ ?_ ?_
  ·have:=(Xl.mp hp).map (λz:Vb=>z.2);rw[Ze]at this;refine this.trans (Zj ?_);exact List.map_snd_zip (by simp)
  ·rw[WT];refine hs.imp_of_mem λ{x y} hx hy hl=>?_;rw[<- h1 x hx,<- h1 y hy];exact hl
 by_cases h2:vs.toArray.size<2
 ·rw[if_pos h2,if_pos h2];refine U6 (Vg ?_);rw[StateT.run_pure];refine U6 (Vg ?_);dsimp only;refine U6 (seqEpoch_at sH rfl ?_);refine U6 (listUpdate_at sH rfl ?_ (Vv _) (by rw[Array.size_map,Zx];exact Vy (big _ (by lia)) (Nat.le_succ _)))
  simp only[bne_self_eq_false,W5,if_false];refine Vg (done (SortSt.mk' general' (vs.toArray.zip vs.toArray) #[] 7 none) (Zm _) ?_);refine y9 ?_;show (vs.toArray.zip vs.toArray).toList.length<2;rw[Vz,Zx];lia
 ·rw[if_neg h2,if_neg h2];obtain⟨hK,L⟩:=T {s with heap:=((s.heap.update a (Xj λ_=>#[])).push (WV "tuple" vs.toArray 0)).push (WV "list" #[] 0)} old
  refine U6 (hK (by lia) _ ?_)
  have zp:(vs.toArray.zip vs.toArray).size=vs.length:=by rw[Zx];lia
  refine U6 (Xi (qL (Q:=λ_ aC=>(VH aC).Perm (vs.toArray.zip vs.toArray)/\XD aC=none/\SR (λx y=>c x.1 y.1) (VH aC) 0 vs.length) O L
   (st:=SortSt.mk' κ (vs.toArray.zip vs.toArray) #[] 7 none) ⟨rfl,rfl,Zm _⟩ rfl (by lia) λaC g1 g2=>⟨g1.perm,g1.fail,by rw[zp]at g2;exact g2⟩) ?_ λ_ _ e=>e)
  rintro⟨⟨⟩,aC⟩ s' ⟨rfl,hp,hf,hs⟩;dsimp only;have zs:(VH aC).size=vs.length:=hp.size_eq.trans zp;refine U6 (seqEpoch_at sH rfl ?_);refine U6 (listUpdate_at sH rfl ?_ (Vv _) (by rw[Array.size_map,zs];exact Vy (big _ (U8 _)) (Nat.le_succ _)))
  rw[hf];simp only[bne_self_eq_false,W5,if_false];refine Vg (done aC hp ?_);rw[X7];intro i j hi hj aV;rw[Vz]at hi hj;have:=hs i j (Vv _) (by lia) (by lia)
  have ei:el (VH aC) i=(VH aC).toList[i]:=wC (by rw[<- Vx];exact Vf _)
  have ej:el (VH aC) j=(VH aC).toList[j]:=wC (by rw[<- Vx];exact Vf _)
  rw[ei,ej]at this;exact this
theorem lZ {a:Addr} {vs:List U5} {n:Nat} {kf:U5->List Int} {P:PySem.Fin->U7->Prop} (ho:s.heap.get? a=some (WV "list" vs.toArray n)) (hz:vs.length<=1000000) (T:nB s.heap kf a vs)
  (h:∀out:List U5,out.Perm vs->out.Pairwise (λx y=>HT.lexLt (kf y) (kf x)=false)->P (.done (.ret .none)) {s with heap:=sortedHeap s.heap a vs out.toArray}) :
  VA (model prog w) A (W4.«list.sort» ⟨[.ref a],[]⟩) P E s:=by
 refine uA (κ:=tuples' true) (c:=λx y=>HT.lexLt (kf x) (kf y)) ho hz (CY kf) (λs' kp=>?_) h;have T':nB s'.heap kf a vs:=λv hv=>by
  obtain⟨t,o,xs,k,e1,e2,e3,r⟩:=T v hv;exact⟨t,o,xs,k,e1,e2,kp t o e2 e3,r⟩
 exact⟨λh2 Q q=>xK T' (by lia) q,xF T' λz hz=>by
  rw[Ze]at hz;exact(Yu hz).1⟩
end
end TS
namespace ST
open PySem PyProof.Rows
section
variable {prog:U_}{w:Vl}
abbrev TK (prog:U_)(w:Vl):=YH (intKind prog w)
abbrev kH (prog:U_)(w:Vl)(k:List Int):Int:=(TK prog w).hash k
abbrev ent (prog:U_)(w:Vl)(x:Addr×List Int):Int×U5:=(kH prog w x.2,.ref x.1)
structure Qh (prog:U_)(w:Vl)(o:Obj)(ts:List (Addr×List Int))(es:Array (Int×U5))(ep:Nat)(t:SetTable):Prop where
 ex:o.ExactSet
 dat:o.data=.set es ep t
 UU:es.toList=ts.map (ent prog w)
 wf:WF t (ts.map λx=>kH prog w x.2)
 Ut:t.place.size*5<t.mask*3
 Sw:t.mask<=8191
 led:t.led=!w.params.followText "set-order"
 Uy:t.plain=true
 UB:(ts.map (·.2)).Nodup
end
end ST
namespace L2
open PySem PySem.Spec PyProof.Rows
inductive D where
 |cO|bl (b:Bool)|int (i:Int)|str (x:Str)|obj (a:Addr)
 |tup (ds:List D)|lst (ds:List D)
 |dT (ks:List (List Key)) (ds:List D)|dK (ks:List Key) (ds:List D)
 |sT (ts:List (List Int))
 /-- one object,by what NV there -/
 |ob (φ:Addr->HO)
def FC (P:U_)(w:Vl)(a:Addr)(ts:List (Addr×List Int))(h:Heap):Prop:=∃o es ep t,h.get? a=some o/\ST.Qh P w o ts es ep t
abbrev Mo (P:U_)(w:Vl)(a:Addr)(ts:List (Addr×List Int)):HO:=.ext (FC P w a ts)
def D_ (P:U_)(w:Vl)(H:Hp)(a:Addr)(ts:List (List Int)):Prop :=
 ∃qT:List (Addr×List Int),H a=some (Mo P w a qT)/\(∀x∈qT,H x.1=some (.tup (x.2.map V.int)))/\(qT.map (·.2)).Perm ts
section
variable (P:U_)(w:Vl)(W:Addr->Prop)(H:Hp)
mutual
def aA:D->V->Prop
 |.cO,v=>v=.cO
 |.bl b,v=>v=.bl b
 |.int i,v=>v=.int i
 |.str x,v=>v=.str x
 |.obj a,v=>v=.ref a
 |.tup ds,v=>∃a vs,v=.ref a/\H a=some (.tup vs)/\ak ds vs
 |.lst ds,v=>∃a vs,v=.ref a/\H a=some (.lst vs)/\¬ W a/\ak ds vs
 |.dT ks ds,v=>∃a vs,v=.ref a/\H a=some (.dT (ks.zip vs))/\ks.length=vs.length/\¬ W a/\ak ds vs
 |.dK ks ds,v=>∃a vs,v=.ref a/\H a=some (.dK (ks.zip vs))/\ks.length=vs.length/\¬ W a/\ak ds vs
 |.sT ts,v=>∃a,v=.ref a/\D_ P w H a ts/\¬ W a
 |.ob φ,v=>∃a,v=.ref a/\(H a=some (φ a)/\∀xs,φ a≠.tup xs)/\¬ W a
def ak:List D->List V->Prop
 |[],vs=>vs=[]
 |d::ds,vs=>∃v r,vs=v::r/\aA d v/\ak ds r
end
end
mutual
def D.flat:D->Bool
 |.tup ds=>D.cQ ds
 |.lst _=>false
 |.dT _ _=>false
 |.dK _ _=>false
 |.sT _=>false
 |.ob _=>false
 |_=>true
def D.cQ:List D->Bool
 |[]=>true
 |d::ds=>D.flat d&&D.cQ ds
end
structure Kp (W:Addr->Prop)(H H':Hp):Prop where
 out:∀b o,H b=some o->¬ W b->H' b=some o
 tup:∀b xs,H b=some (.tup xs)->H' b=some (.tup xs)
theorem Kp.refl {W:Addr->Prop}{H:Hp}:Kp W H H:=⟨λ_ _ e _=>e,λ_ _ e=>e⟩
theorem Kp.trans {W:Addr->Prop}{H H1 H2:Hp}(a:Kp W H H1)(b:Kp W H1 H2):Kp W H H2:=⟨λc o e n=>b.out c o (a.out c o e n) n,λc xs e=>b.tup c xs (a.tup c xs e)⟩
theorem au.kp {W:Addr->Prop}{H H':Hp}(h:au H H'):Kp W H H':=⟨λb o e _=>h b o e,λb xs e=>h b _ e⟩
theorem Kp.mono {W W':Addr->Prop}{H H':Hp}(h:Kp W H H')(s:∀a,W a->W' a):Kp W' H H':=⟨λb o e n=>h.out b o e λz=>n (s b z),h.tup⟩
section
variable {P:U_}{w:Vl}{W W':Addr->Prop}{H H':Hp}
mutual
theorem aA.keep (k:Kp W H H'):∀{d:D} {v:V},aA P w W H d v->aA P w W H' d v
 |.cO,_,h=>h
 |.bl _,_,h=>h
 |.int _,_,h=>h
 |.str _,_,h=>h
 |.obj _,_,h=>h
 |.tup ds,_,⟨a,vs,e,t,r⟩=>⟨a,vs,e,k.tup a vs t,ak.keep k r⟩
 |.lst ds,_,⟨a,vs,e,t,n,r⟩=>⟨a,vs,e,k.out a _ t n,n,ak.keep k r⟩
 |.dT ks ds,_,⟨a,vs,e,t,l,n,r⟩=>⟨a,vs,e,k.out a _ t n,l,n,ak.keep k r⟩
 |.dK ks ds,_,⟨a,vs,e,t,l,n,r⟩=>⟨a,vs,e,k.out a _ t n,l,n,ak.keep k r⟩
 |.sT ts,_,⟨a,e,⟨qT,t,r,z⟩,n⟩=>⟨a,e,⟨qT,k.out a _ t n,λx hx=>k.tup _ _ (r x hx),z⟩,n⟩
 |.ob φ,_,⟨a,e,⟨t,z⟩,n⟩=>⟨a,e,⟨k.out a _ t n,z⟩,n⟩
theorem ak.keep (k:Kp W H H'):∀{ds:List D} {vs:List V},ak P w W H ds vs->ak P w W H' ds vs
 |[],_,h=>h
 |d::ds,_,⟨v,r,e,h1,h2⟩=>⟨v,r,e,aA.keep k h1,ak.keep k h2⟩
end
mutual
theorem aA.aS (s:∀a,W' a->W a):∀{d:D} {v:V},aA P w W H d v->aA P w W' H d v
 |.cO,_,h=>h
 |.bl _,_,h=>h
 |.int _,_,h=>h
 |.str _,_,h=>h
 |.obj _,_,h=>h
 |.tup ds,_,⟨a,vs,e,t,r⟩=>⟨a,vs,e,t,ak.aS s r⟩
 |.lst ds,_,⟨a,vs,e,t,n,r⟩=>⟨a,vs,e,t,λz=>n (s a z),ak.aS s r⟩
 |.dT ks ds,_,⟨a,vs,e,t,l,n,r⟩=>⟨a,vs,e,t,l,λz=>n (s a z),ak.aS s r⟩
 |.dK ks ds,_,⟨a,vs,e,t,l,n,r⟩=>⟨a,vs,e,t,l,λz=>n (s a z),ak.aS s r⟩
 |.sT ts,_,⟨a,e,t,n⟩=>⟨a,e,t,λz=>n (s a z)⟩
 |.ob φ,_,⟨a,e,t,n⟩=>⟨a,e,t,λz=>n (s a z)⟩
theorem ak.aS (s:∀a,W' a->W a):∀{ds:List D} {vs:List V},ak P w W H ds vs->ak P w W' H ds vs
 |[],_,h=>h
 |d::ds,_,⟨v,r,e,h1,h2⟩=>⟨v,r,e,aA.aS s h1,ak.aS s h2⟩
end
mutual
theorem aA.flat:∀{d:D} {v:V},d.flat=true->aA P w W H d v->aA P w W' H d v
 |.cO,_,_,h=>h
 |.bl _,_,_,h=>h
 |.int _,_,_,h=>h
 |.str _,_,_,h=>h
 |.obj _,_,_,h=>h
 |.tup ds,_,f,⟨a,vs,e,t,r⟩=>⟨a,vs,e,t,ak.flat (by simpa[D.flat] using f) r⟩
 |.lst ds,_,f,_=>by simp[D.flat]at f
 |.dT ks ds,_,f,_=>by simp[D.flat]at f
 |.dK ks ds,_,f,_=>by simp[D.flat]at f
 |.sT ts,_,f,_=>by simp[D.flat]at f
 |.ob φ,_,f,_=>by simp[D.flat]at f
theorem ak.flat:∀{ds:List D} {vs:List V},D.cQ ds=true->ak P w W H ds vs->ak P w W' H ds vs
 |[],_,_,h=>h
 |d::ds,_,f,⟨v,r,e,h1,h2⟩=>by
  have f':(d.flat&&D.cQ ds)=true:=f;rw[VO]at f';exact⟨v,r,e,aA.flat f'.1 h1,ak.flat f'.2 h2⟩
end
theorem aA.same (s:au H H'){d:D}{v:V}(h:aA P w W H d v):aA P w W H' d v:=h.keep s.kp
theorem ak.same (s:au H H'){ds:List D}{vs:List V}(h:ak P w W H ds vs):ak P w W H' ds vs:=h.keep s.kp
theorem ak.length:∀{ds:List D} {vs:List V},ak P w W H ds vs->vs.length=ds.length
 |[],_,h=>by rw[show _=[] from h];rfl
 |d::ds,_,⟨v,r,e,h1,h2⟩=>by rw[e,Vo,Vo,ak.length h2]
theorem ak.get:∀{ds:List D} {vs:List V} {i:Nat} {d:D},ak P w W H ds vs->ds[i]?=some d->∃v,vs[i]?=some v/\aA P w W H d v
 |[],_,_,_,_,e=>by simp at e
 |d::ds,_,0,_,⟨v,r,e,h1,h2⟩,e'=>by simp at e';subst e' e;exact⟨v,by simp,h1⟩
 |d::ds,_,i+1,_,⟨v,r,e,h1,h2⟩,e'=>by
  subst e;obtain⟨u,e1,e2⟩:=ak.get (i:=i) h2 (by simpa using e')
  exact⟨u,by simpa using e1,e2⟩
theorem ak.append:∀{ds ds':List D} {vs vs':List V},ak P w W H ds vs->ak P w W H ds' vs'->ak P w W H (ds++ds') (vs++vs')
 |[],_,_,_,h,h'=>by rw[show _=[] from h];exact h'
 |d::ds,_,_,_,⟨v,r,e,h1,h2⟩,h'=>by subst e;exact⟨v,_,rfl,h1,ak.append h2 h'⟩
theorem ak.one {d:D}{v:V}(h:aA P w W H d v):ak P w W H [d] [v]:=⟨v,[],rfl,h,rfl⟩
theorem ak.take:∀{ds:List D} {vs:List V} (n:Nat),ak P w W H ds vs->ak P w W H (ds.take n) (vs.take n)
 |[],_,n,h=>by rw[show _=[] from h];simp[ak]
 |d::ds,_,0,_=>by simp[ak]
 |d::ds,_,n+1,⟨v,r,e,h1,h2⟩=>by subst e;exact⟨v,_,rfl,h1,ak.take n h2⟩
theorem ak.drop:∀{ds:List D} {vs:List V} (n:Nat),ak P w W H ds vs->ak P w W H (ds.drop n) (vs.drop n)
 |[],_,n,h=>by rw[show _=[] from h];simp[ak]
 |d::ds,_,0,h=>h
 |d::ds,_,n+1,⟨v,r,e,h1,h2⟩=>by subst e;exact ak.drop n h2
end
open PySem.SeqAt
abbrev Dm (W:Addr->Prop)(H:Hp):Prop:=∀a,W a->H a≠none
theorem Dm.same {W:Addr->Prop}{H H':Hp}(d:Dm W H)(s:au H H'):Dm W H':=λa h e=>d a h (s.free e)
abbrev Rp (X:Cx)(W:Addr->Prop)(H:Hp)(d:D)(v:V):Prop:=aA X.prog X.w W H d v
abbrev kq (X:Cx)(W:Addr->Prop)(H:Hp)(ds:List D)(vs:List V):Prop:=ak X.prog X.w W H ds vs
def QC (X:Cx)(f:D->Option D):V->Hp->VK->Prop:=λx H Q=>∃W d1 d,Dm W H/\Rp X W H d1 x/\f d1=some d/\∀v H',au H H'->Rp X W H' d v->Q v H'
def QB (X:Cx)(f:D->D->Option D):R2:=λx y H Q=>∃W d1 d2 d,Dm W H/\Rp X W H d1 x/\Rp X W H d2 y/\f d1 d2=some d/\∀v H',au H H'->Rp X W H' d v->Q v H'
def R8 (X:Cx)(f:List D->Option D):List V->Hp->VK->Prop:=λxs H Q=>∃W ds d,Dm W H/\kq X W H ds xs/\f ds=some d/\∀v H',au H H'->Rp X W H' d v->Q v H'
abbrev bw (X:Cx)(f:U5->U5->Sem U5)(g:D->D->Option D):Prop:=h8 X f (QB X g)
abbrev cY (X:Cx)(f:U5)(g:List D->Option D):Prop:=fF X f (R8 X g)
section
variable {X:Cx}{W:Addr->Prop}{H:Hp}
theorem Dh {p:Addr}(d:Dm W H)(n:H p=none):¬ W p:=λz=>d p z n
theorem Rp.iA {p:Addr}{vs:List V}{ds:List D}(d:Dm W H)(n:H p=none)(r:kq X W H ds vs):Rp X W (upd H p (.lst vs)) (.lst ds) (.ref p) :=
 ⟨p,vs,rfl,az,Dh d n,r.same (au.new n)⟩
theorem Rp.Fl {p:Addr}{vs:List V}{ds:List D}(n:H p=none)(r:kq X W H ds vs):Rp X W (upd H p (.tup vs)) (.tup ds) (.ref p) :=
 ⟨p,vs,rfl,az,r.same (au.new n)⟩
theorem kq.nil:kq X W H [] []:=rfl
theorem kq.cons {d:D}{ds:List D}{v:V}{vs:List V}(h:Rp X W H d v)(r:kq X W H ds vs):kq X W H (d::ds) (v::vs):=⟨v,vs,rfl,h,r⟩
end
def D.G3:D->Option Int
 |.int i=>some i
 |_=>none
def D.G2:D->Option (List D)
 |.lst a=>some a
 |_=>none
def D.G1:D->Option (List D)
 |.tup a=>some a
 |_=>none
def D.BZ:D->Bool
 |.cO=>true
 |_=>false
theorem D.jf {d:D}{i:Int}(h:d.G3=some i):d=.int i:=by cases d <;> first|(cases h;rfl)|cases h
theorem D.l_ {d:D}{i:List D}(h:d.G2=some i):d=.lst i:=by cases d <;> first|(cases h;rfl)|cases h
theorem D.l9 {d:D}{i:List D}(h:d.G1=some i):d=.tup i:=by cases d <;> first|(cases h;rfl)|cases h
theorem D.su {d:D}(h:d.BZ=true):d=.cO:=by cases d <;> first|rfl|cases h
theorem D.Dp {d:D}:d=.cO↔d.BZ=true:=⟨λe=>by rw[e];rfl,D.su⟩
def nk (f:Int->Int->Option D)(a b:D):Option D:=match a.G3,b.G3 with
 |some i,some j=>f i j
 |_,_=>none
theorem jN {f:Int->Int->Option D}{a b d:D}(h:nk f a b=some d):∃i j,a=.int i/\b=.int j/\f i j=some d:=by
 unfold nk at h;cases ha:a.G3 with
 |none=>rw[ha]at h;cases h
 |some i =>
  cases hb:b.G3 with
  |none=>rw[ha,hb]at h;cases h
  |some j=>rw[ha,hb]at h;exact⟨i,j,D.jf ha,D.jf hb,h⟩
def GG (f:D->D->Option D)(g:List D->List D->Option D)(a b:D):Option D:=match a.G2,b.G2 with
 |some i,some j=>g i j
 |_,_=>f a b
theorem xG {f:D->D->Option D}{g:List D->List D->Option D}{a b d:D}(h:GG f g a b=some d):(∃i j,a=.lst i/\b=.lst j/\g i j=some d)\/f a b=some d:=by
 unfold GG at h;cases ha:a.G2 with
 |none=>rw[ha]at h;exact .inr h
 |some i =>
  cases hb:b.G2 with
  |none=>rw[ha,hb]at h;exact .inr h
  |some j=>rw[ha,hb]at h;exact .inl ⟨i,j,D.l_ ha,D.l_ hb,h⟩
def tj:D->D->Option D:=GG (nk λi j=>some (.int (i+j))) λa b=>if a.length+b.length<=Vh then some (.lst (a++b)) else none
def P2:D->D->Option D:=nk λi j=>some (.int (i-j))
instance (i j:Int):Decidable (mM i j):=by unfold mM;infer_instance
instance (i j:Int):Decidable (yy i j):=by unfold yy;infer_instance
def HN:D->D->Option D:=nk λi j=>if mM i j then some (.int (i*j)) else none
def HP:D->D->Option D:=nk λi j=>if 0<j then some (.int (i % j)) else none
def L7:D->D->Option D:=nk λi j=>if yy i j then some (.int (i ^ j.toNat)) else none
def P4:D->Option D
 |.int i=>some (.int (-i))
 |_=>none
section
variable {X:Cx}
theorem cP {c:Prop}[Decidable c]{α:Type}{a b:α}(h:(if c then some a else none)=some b):c/\b=a:=by
 by_cases hc:c
 ·rw[if_pos hc]at h;cases h;exact⟨hc,rfl⟩
 ·rw[if_neg hc]at h;cases h
theorem zY {f:U5->U5->Sem U5}{C:Int->Int->Prop}{g:Int->Int->V}{h:Int->Int->D}{F:Int->Int->Option D}(ho:h8 X f (rI C g))(hF:∀i j d,F i j=some d->C i j/\d=h i j)
  (hg:∀(W:Addr->Prop) (H:Hp) i j,Rp X W H (h i j) (g i j)):bw X f (nk F):=by
 intro pins s σ H x y v u Q I rx ry hh;obtain⟨W,d1,d2,d,hd,r1,r2,e,q⟩:=hh;obtain⟨i,j,rfl,rfl,e⟩:=jN e;obtain⟨c,rfl⟩:=hF _ _ _ e;cases r1;cases r2;exact ho pins s σ H _ _ v u Q I rx ry ⟨i,j,rfl,rfl,c,q _ _ (au.refl _) (hg W H i j)⟩
theorem zX {f:U5->U5->Sem U5}{g:Int->Int->V}{h:Int->Int->D}(ho:h8 X f (xn g))
  (hg:∀(W:Addr->Prop) (H:Hp) i j,Rp X W H (h i j) (g i j)):bw X f (nk λi j=>some (h i j)):=by
 intro pins s σ H x y v u Q I rx ry hh;obtain⟨W,d1,d2,d,hd,r1,r2,e,q⟩:=hh;obtain⟨i,j,rfl,rfl,e⟩:=jN e;cases e;cases r1;cases r2;exact ho pins s σ H _ _ v u Q I rx ry ⟨i,j,rfl,rfl,q _ _ (au.refl _) (hg W H i j)⟩
theorem cm:bw X (WR .Sub) P2:=zX (h:=λi j=>.int (i-j)) zT λ_ _ _ _=>rfl
theorem i9:bw X (WR .Mult) HN:=zY (h:=λi j=>.int (i*j)) jI (λ_ _ _ e=>cP e) λ_ _ _ _=>rfl
theorem vQ:bw X (WR .Mod) HP:=zY (h:=λi j=>.int (i % j)) gE (λ_ _ _ e=>cP e) λ_ _ _ _=>rfl
theorem vP:bw X (WR .Pow) L7:=zY (h:=λi j=>.int (i ^ j.toNat)) zU (λ_ _ _ e=>cP e) λ_ _ _ _=>rfl
theorem iT:Mm X (unaryOp .USub) (QC X P4):=by
 intro pins s σ H x v Q I rx h;obtain⟨W,d1,d,hd,r1,e,q⟩:=h;cases d1 with
 |int i=>cases e;cases r1;exact yN pins s σ H _ v Q I rx ⟨i,rfl,q _ _ (au.refl _) rfl⟩
 |_=>cases e
end
def yg (p:Int->Int->Bool):D->D->Option D:=nk λi j=>some (.bl (p i j))
abbrev HQ:D->D->Option D:=yg λi j=>decide (i<j)
abbrev TY:D->D->Option D:=yg λi j=>decide (i<=j)
abbrev TZ:D->D->Option D:=yg λi j=>decide (j<i)
section
variable {X:Cx}
theorem k6 {p:Int->Int->Bool}{f:U5->U5->Sem U5}(ho:h8 X f (xn λi j=>.bl (p i j))):bw X f (yg p):=zX (h:=λi j=>.bl (p i j)) ho λ_ _ _ _=>rfl
theorem bW:bw X (VN .Lt) HQ:=k6 zV
theorem uv:bw X (VN .LtE) TY:=k6 Er
theorem pP:bw X (VN .Gt) TZ:=k6 zW
end
mutual
def D.pd:D->PyData
 |.cO=>.none
 |.bl b=>.bool b
 |.int i=>.int i
 |.str x=>.str x
 |.tup ds=>.tuple (D.gX ds)
 |.lst ds=>.list (D.gX ds)
 |_=>.dict []
def D.gX:List D->List PyData
 |[]=>[]
 |d::ds=>d.pd::D.gX ds
end
abbrev D.pA (d:D):Bool:=shaped d.pd
mutual
theorem bF {X:Cx}{pins:List (Addr×Obj)}{σ:St}{H:Hp}{s:U7}(I:Inv X pins σ H s){W:Addr->Prop}:∀{d:D} {v:V} {u:U5},Rp X W H d v->RelV v u->d.pd.canLay0=true->∃as,Reads s.heap u d.pd as
 |.cO,_,_,h,r,_=>by cases h;cases r;exact⟨_,.none⟩
 |.bl b,_,_,h,r,_=>by cases h;cases r;exact⟨_,.bool b⟩
 |.int i,_,_,h,r,_=>by cases h;obtain⟨t,rfl⟩:=r;exact⟨_,.int i t⟩
 |.str x,_,_,h,r,_=>by cases h;obtain⟨t,rfl⟩:=r;exact⟨_,.str x t⟩
 |.tup ds,_,_,h,r,c=>by
  obtain⟨a,vs,rfl,e,q⟩:=h;cases r;obtain⟨its,rv,⟨o,ho,hc,n,hd⟩,hz⟩:=I.tuple (qH.of e);obtain⟨as,ha⟩:=gz I q rv (by simpa[D.pd,Wq] using c)
  exact⟨_,.tuple ho hc hd (by simpa using ha)⟩
 |.lst ds,_,_,h,r,c=>by
  obtain⟨a,vs,rfl,e,_,q⟩:=h;cases r;obtain⟨z,its,n,rv,e'⟩:=I.bt a _ e;obtain⟨as,ha⟩:=gz I q rv (by simpa[D.pd,Wq] using c)
  exact⟨_,.list e' rfl rfl (by simpa using ha)⟩
 |.obj _,_,_,_,_,c=>by simp[D.pd,Wq]at c
 |.dT _ _,_,_,_,_,c=>by simp[D.pd,Wq]at c
 |.dK _ _,_,_,_,_,c=>by simp[D.pd,Wq]at c
 |.sT _,_,_,_,_,c=>by simp[D.pd,Wq]at c
 |.ob _,_,_,_,_,c=>by simp[D.pd,Wq]at c
theorem gz {X:Cx}{pins:List (Addr×Obj)}{σ:St}{H:Hp}{s:U7}(I:Inv X pins σ H s){W:Addr->Prop}:∀{ds:List D} {vs:List V} {us:List U5},kq X W H ds vs->Vals vs us->Xb (D.gX ds)=true->∃as,ReadsAll s.heap us (D.gX ds) as
 |[],_,_,h,r,_=>by
  rw[show _=[] from h]at r
  cases r;exact⟨_,.nil⟩
 |d::ds,_,_,⟨v,vr,e,h1,h2⟩,r,c=>by
  subst e;have c':(d.pd.canLay0&&Xb (D.gX ds))=true:=c;rw[VO]at c';cases r with
  |cons r1 r2 =>
   obtain⟨as,ha⟩:=bF I h1 r1 c'.1;obtain⟨bs,hb⟩:=gz I h2 r2 c'.2;exact⟨_,.cons ha hb⟩
end
def M9 (a b:D):Option D:=if a.pA=true/\b.pA=true then some (.bl (V_ a.pd b.pd)) else none
def B6 (a b:D):Option D:=if a.pA=true/\b.pA=true then some (.bl (!V_ a.pd b.pd)) else none
section
variable {X:Cx}
theorem fP (hu:X.A.units+64<X0):bw X (VN .Eq) M9:=by
 intro pins s σ H x y v u Q I rx ry h;obtain⟨W,d1,d2,d,hd,r1,r2,e,q⟩:=h;obtain⟨⟨s1,s2⟩,rfl⟩:=cP e;obtain⟨as,ra⟩:=bF I r1 rx (VR s1);obtain⟨bs,rb⟩:=bF I r2 ry (VR s2);exact compareEq_shaped ra rb s1 s2 hu ⟨.bl _,H,I,rfl,q _ _ (au.refl _) rfl⟩
theorem fO (hu:X.A.units+64<X0):bw X (VN .NotEq) B6:=by
 intro pins s σ H x y v u Q I rx ry h;obtain⟨W,d1,d2,d,hd,r1,r2,e,q⟩:=h;obtain⟨⟨s1,s2⟩,rfl⟩:=cP e;obtain⟨as,ra⟩:=bF I r1 rx (VR s1);obtain⟨bs,rb⟩:=bF I r2 ry (VR s2);exact compareNe_shaped ra rb s1 s2 hu ⟨.bl _,H,I,rfl,q _ _ (au.refl _) rfl⟩
def P6 (a b:D):Option D:=match b.BZ with
 |true=>some (.bl a.BZ)
 |false=>none
def L8 (a b:D):Option D:=match b.BZ with
 |true=>some (.bl (!a.BZ))
 |false=>none
theorem Rp.Dg {W:Addr->Prop}{H:Hp}{d:D}{v:V}(h:Rp X W H d v):v=.cO↔d=.cO:=by
 cases d with
 |cO=>cases h;simp
 |bl b=>cases h;simp
 |int i=>cases h;simp
 |str x=>cases h;simp
 |obj a=>cases h;simp
 |tup ds=>obtain⟨a,vs,rfl,_⟩:=h;simp
 |lst ds=>obtain⟨a,vs,rfl,_⟩:=h;simp
 |dT ks ds=>obtain⟨a,vs,rfl,_⟩:=h;simp
 |dK ks ds=>obtain⟨a,vs,rfl,_⟩:=h;simp
 |sT ts=>obtain⟨a,rfl,_⟩:=h;simp
 |ob φ=>obtain⟨a,rfl,_⟩:=h;simp
theorem sv {b d e:D}(h:(match b.BZ with|true=>some d|false=>none)=some e):b=.cO/\e=d:=by
 cases q:b.BZ with
 |true=>rw[q]at h;cases h;exact⟨D.su q,rfl⟩
 |false=>rw[q]at h;cases h
theorem Rp.vV {W:Addr->Prop}{H:Hp}{d:D}{v:V}(h:Rp X W H d v):decide (v=.cO)=d.BZ:=by
 have q:=h.Dg.trans D.Dp;cases e:d.BZ with
 |true=>exact decide_eq_true (q.mpr e)
 |false=>exact decide_eq_false λz=>by rw[q.mp z]at e;cases e
theorem pN:bw X (VN .Is) P6:=by
 intro pins s σ H x y v u Q I rx ry h;obtain⟨W,d1,d2,d,hd,r1,r2,e,q⟩:=h;obtain⟨rfl,rfl⟩:=sv e;cases r2;exact Ga pins s σ H _ _ v u Q I rx ry ⟨rfl,q _ _ (au.refl _) (congrArg V.bl r1.vV)⟩
theorem lR:bw X (VN .IsNot) L8:=by
 intro pins s σ H x y v u Q I rx ry h;obtain⟨W,d1,d2,d,hd,r1,r2,e,q⟩:=h;obtain⟨rfl,rfl⟩:=sv e;cases r2;exact CZ pins s σ H _ _ v u Q I rx ry ⟨rfl,q _ _ (au.refl _) (congrArg (λb=>V.bl (!b)) r1.vV)⟩
end
def DS:D->D->Option Bool
 |a,.lst ds=>if a.pA=true/\(D.lst ds).pA=true then some ((D.gX ds).any λy=>V_ y a.pd) else none
 |a,.tup ds=>if a.pA=true/\(D.tup ds).pA=true then some ((D.gX ds).any λy=>V_ y a.pd) else none
 |_,_=>none
def P8 (a b:D):Option D:=(DS a b).map .bl
def uY (a b:D):Option D:=(DS a b).map λc=>.bl (!c)
theorem kQ {ds:List D}{n:PyData}(hn:n=.list (D.gX ds)\/n=.tuple (D.gX ds))(h:shaped n=true):Xb (D.gX ds)=true/\Wf (D.gX ds)<=64:=by
 have h1:=VR h;have h2:=depth_of_shaped h;rcases hn with rfl|rfl
 ·refine⟨by simpa[Wq] using h1,?_⟩
  have:XF (.list (D.gX ds))=Wf (D.gX ds)+1:=by simp[XF]
  lia
 ·refine⟨by simpa[Wq] using h1,?_⟩
  have:XF (.tuple (D.gX ds))=Wf (D.gX ds)+1:=by simp[XF]
  lia
section
variable {X:Cx}
theorem pO (hu:X.A.units+64+1<X0):bw X (VN .In) P8:=by
 intro pins s σ H x y v u Q I rx ry h;obtain⟨W,d1,d2,d,hd,r1,r2,e,q⟩:=h;cases d2 with
 |lst ds =>
  obtain⟨b,e1,rfl⟩:=Vr.mp e;obtain⟨⟨s1,s2⟩,rfl⟩:=cP e1;obtain⟨as,ra⟩:=bF I r1 rx (VR s1);obtain⟨bs,rb⟩:=bF I r2 ry (VR s2);obtain⟨c1,c2⟩:=kQ (.inl rfl) s2;exact in_list_reads rb ra c1 (VR s1) (by have:=XZ (Wf (D.gX ds)) d1.pd.depth;lia) ⟨.bl _,H,I,rfl,q _ _ (au.refl _) rfl⟩
 |tup ds =>
  obtain⟨b,e1,rfl⟩:=Vr.mp e;obtain⟨⟨s1,s2⟩,rfl⟩:=cP e1;obtain⟨as,ra⟩:=bF I r1 rx (VR s1);obtain⟨bs,rb⟩:=bF I r2 ry (VR s2);obtain⟨c1,c2⟩:=kQ (.inr rfl) s2;exact in_tuple_reads rb ra c1 (VR s1) (by have:=XZ (Wf (D.gX ds)) d1.pd.depth;lia) ⟨.bl _,H,I,rfl,q _ _ (au.refl _) rfl⟩
 |_=>cases e
theorem nV (hu:X.A.units+64+1<X0):bw X (VN .NotIn) uY:=by
 intro pins s σ H x y v u Q I rx ry h;obtain⟨W,d1,d2,d,hd,r1,r2,e,q⟩:=h;cases d2 with
 |lst ds =>
  obtain⟨b,e1,rfl⟩:=Vr.mp e;obtain⟨⟨s1,s2⟩,rfl⟩:=cP e1;obtain⟨as,ra⟩:=bF I r1 rx (VR s1);obtain⟨bs,rb⟩:=bF I r2 ry (VR s2);obtain⟨c1,c2⟩:=kQ (.inl rfl) s2;exact notIn_list_reads rb ra c1 (VR s1) (by have:=XZ (Wf (D.gX ds)) d1.pd.depth;lia) ⟨.bl _,H,I,rfl,q _ _ (au.refl _) rfl⟩
 |tup ds =>
  obtain⟨b,e1,rfl⟩:=Vr.mp e;obtain⟨⟨s1,s2⟩,rfl⟩:=cP e1;obtain⟨as,ra⟩:=bF I r1 rx (VR s1);obtain⟨bs,rb⟩:=bF I r2 ry (VR s2);obtain⟨c1,c2⟩:=kQ (.inr rfl) s2;exact notIn_tuple_reads rb ra c1 (VR s1) (by have:=XZ (Wf (D.gX ds)) d1.pd.depth;lia) ⟨.bl _,H,I,rfl,q _ _ (au.refl _) rfl⟩
 |_=>cases e
def qi (a b:D):Option D:=match b.G3 with
 |some i=>match a.G2 with
  |some ds=>qt ds i
  |none=>match a.G1 with
   |some ds=>qt ds i
   |none=>none
 |none=>none
theorem Bp {a b d:D}(h:qi a b=some d):∃ds i,(a=.lst ds\/a=.tup ds)/\b=.int i/\qt ds i=some d:=by
 unfold qi at h;cases hb:b.G3 with
 |none=>rw[hb]at h;cases h
 |some i =>
  rw[hb]at h;cases ha:a.G2 with
  |some ds=>rw[ha]at h;exact⟨ds,i,.inl (D.l_ ha),D.jf hb,h⟩
  |none =>
   rw[ha]at h;cases ht:a.G1 with
   |some ds=>rw[ht]at h;exact⟨ds,i,.inr (D.l9 ht),D.jf hb,h⟩
   |none=>rw[ht]at h;cases h
theorem kq.qt {W:Addr->Prop}{H:Hp}{ds:List D}{vs:List V}{i:Int}{d:D}(h:kq X W H ds vs)(e:L2.qt ds i=some d):∃v,L2.qt vs i=some v/\Rp X W H d v:=by
 unfold L2.qt at *
 rw[h.length];cases q:yB ds.length i with
 |none=>rw[q]at e;cases e
 |some j =>
  rw[q]at e;exact ak.get h e
theorem GZ:Ie X (QB X qi):=by
 intro value slice pins s σ H x y v u Q I rx ry h hs;obtain⟨W,d1,d2,d,hd,r1,r2,e,q⟩:=h;obtain⟨ds,i,h,rfl,e⟩:=Bp e;cases r2;rcases h with rfl|rfl
 ·obtain⟨p,vs,rfl,h1,n1,q1⟩:=r1;obtain⟨z,hz,rz⟩:=kq.qt (X:=X) q1 e;exact c_ value slice pins s σ H _ _ v u Q I rx ry ⟨p,vs,i,z,rfl,rfl,dh.of h1,hz,q _ _ (au.refl _) rz⟩ hs
 ·obtain⟨p,vs,rfl,h1,q1⟩:=r1;obtain⟨z,hz,rz⟩:=kq.qt (X:=X) q1 e;exact Az value slice pins s σ H _ _ v u Q I rx ry ⟨p,vs,i,z,rfl,rfl,qH.of h1,hz,q _ _ (au.refl _) rz⟩ hs
def cutD (xs:List D)(lo hi:Option Int):List D:=(xs.drop (HT.lJ xs.length 0 lo)).take (HT.lJ xs.length xs.length hi-HT.lJ xs.length 0 lo)
def LZ:D->Option Int->Option Int->Option D
 |.lst ds,lo,hi=>some (.lst (cutD ds lo hi))
 |_,_,_=>none
def P5:List D->Option D
 |[.lst ds]=>some (.int ds.length)
 |[.tup ds]=>some (.int ds.length)
 |_=>none
theorem jW:cY X (.builtin "len") P5:=by
 intro pins s σ H xs us Q I r h;obtain⟨W,ds,d,hd,r1,e,q⟩:=h
 match ds,e with
 |[.lst es],e =>
  cases e;obtain⟨v,r',rfl,⟨p,vs,rfl,h1,n1,q1⟩,hr⟩:=r1;cases hr;refine fU pins s σ H _ us Q I r ⟨p,vs,rfl,.inl (dh.of h1),?_⟩;rw[q1.length];exact q _ _ (au.refl _) rfl
 |[.tup es],e =>
  cases e;obtain⟨v,r',rfl,⟨p,vs,rfl,h1,q1⟩,hr⟩:=r1;cases hr;refine fU pins s σ H _ us Q I r ⟨p,vs,rfl,.inr (qH.of h1),?_⟩;rw[q1.length];exact q _ _ (au.refl _) rfl
def dList:List D->Option D
 |[.lst ds]=>some (.lst ds)
 |[.tup ds]=>some (.lst ds)
 |_=>none
def L9:List D->Option D
 |[.int i,.int j]=>some (.int (if j>i then j else i))
 |_=>none
def s_:List D->Option D
 |[.int i,.int j]=>some (.int (if j<i then j else i))
 |_=>none
theorem wM {W:Addr->Prop}{H:Hp}{a b:D}{xs:List V}(h:kq X W H [a,b] xs):∃x y,xs=[x,y]/\Rp X W H a x/\Rp X W H b y:=by
 obtain⟨x,r,rfl,hx,y,r',rfl,hy,hr⟩:=h;cases hr;exact⟨x,y,rfl,hx,hy⟩
theorem mK {W:Addr->Prop}{H:Hp}{a:D}{xs:List V}(h:kq X W H [a] xs):∃x,xs=[x]/\Rp X W H a x:=by
 obtain⟨x,r,rfl,hx,hr⟩:=h;cases hr;exact⟨x,rfl,hx⟩
theorem u6 (hc:X.calm=true):cY X (.builtin "max") L9:=by
 intro pins s σ H xs us Q I r h;obtain⟨W,ds,d,hd,r1,e,q⟩:=h
 match ds,e with
 |[.int i,.int j],e =>
  cases e;obtain⟨x,y,rfl,hx,hy⟩:=wM r1;cases hx;cases hy;exact oP hc pins s σ H _ us Q I r ⟨i,j,rfl,q _ _ (au.refl _) rfl⟩
theorem iN (hc:X.calm=true):cY X (.builtin "min") s_:=by
 intro pins s σ H xs us Q I r h;obtain⟨W,ds,d,hd,r1,e,q⟩:=h
 match ds,e with
 |[.int i,.int j],e =>
  cases e;obtain⟨x,y,rfl,hx,hy⟩:=wM r1;cases hx;cases hy;exact ym hc pins s σ H _ us Q I r ⟨i,j,rfl,q _ _ (au.refl _) rfl⟩
def P7:List D->Option D
 |[.int i]=>some (.int i)
 |[.bl k]=>some (.int (if k then 1 else 0))
 |_=>none
theorem oS:cY X (.type "int") P7:=by
 intro pins s σ H xs us Q I r h;obtain⟨W,ds,d,hd,r1,e,q⟩:=h
 match ds,e with
 |[.int i],e =>
  cases e;obtain⟨x,rfl,hx⟩:=mK r1;cases hx;exact oQ pins s σ H _ us Q I r (.inl ⟨i,rfl,q _ _ (au.refl _) rfl⟩)
 |[.bl k],e =>
  cases e;obtain⟨x,rfl,hx⟩:=mK r1;cases hx;exact oQ pins s σ H _ us Q I r (.inr ⟨k,rfl,q _ _ (au.refl _) rfl⟩)
end
abbrev BP:=List (Option D)
abbrev Mq:=BP->(D->Prop)->Prop
abbrev tJ:=BP->(List D->Prop)->Prop
def ve (P:U_)(w:Vl)(W:Addr->Prop)(H:Hp)(σ:St)(ρ:BP):Prop:=∀(i:Nat) (d:D),ρ[i]?=some (some d)->∃v,σ[i]?=some (some v)/\aA P w W H d v
theorem ve.keep {P:U_}{w:Vl}{W:Addr->Prop}{H H':Hp}{σ:St}{ρ:BP}(e:ve P w W H σ ρ)(k:Kp W H H'):ve P w W H' σ ρ:=λi d h=>by
 obtain⟨v,h1,h2⟩:=e i d h;exact⟨v,h1,h2.keep k⟩
theorem ve.same {P:U_}{w:Vl}{W:Addr->Prop}{H H':Hp}{σ:St}{ρ:BP}(e:ve P w W H σ ρ)(s:au H H'):ve P w W H' σ ρ:=e.keep s.kp
theorem PE.pre {X:Cx}{e:Expr}{t t':TE}(h:PE X e t)(k:∀σ H Q,t' σ H Q->t σ H Q):PE X e t':=λpins s σ H Q I q=>h pins s σ H Q I (k σ H Q q)
theorem PT.pre {X:Cx}{e:Expr}{t t':TT}(h:PT X e t)(k:∀σ H Q,t' σ H Q->t σ H Q):PT X e t':=λpins s σ H Q I q=>h pins s σ H Q I (k σ H Q q)
theorem PA.pre {X:Cx}{es:List Expr}{t t':TA}(h:PA X es t)(k:∀σ H Q,t' σ H Q->t σ H Q):PA X es t':=λpos pins s σ H Q I q=>h pos pins s σ H Q I (k σ H Q q)
structure Mp (P:U_)(w:Vl)(W:Addr->Prop)(σ:St)(H:Hp)(ρ:BP):Prop where
 dm:Dm W H
 env:ve P w W H σ ρ
abbrev SE (X:Cx):(Addr->Prop)->St->Hp->BP->Prop:=Mp X.prog X.w
theorem Mp.same {P:U_}{w:Vl}{W:Addr->Prop}{σ:St}{H H':Hp}{ρ:BP}(e:Mp P w W σ H ρ)(s:au H H'):Mp P w W σ H' ρ:=⟨e.dm.same s,e.env.same s⟩
def tD (X:Cx)(φ:Mq):TE:=λσ H Q=>∃W ρ,SE X W σ H ρ/\φ ρ λd=>∀v H',au H H'->Rp X W H' d v->Q v H'
def Jc (X:Cx)(φ:tJ):TA:=λσ H Q=>∃W ρ,SE X W σ H ρ/\φ ρ λds=>∀vs H',au H H'->kq X W H' ds vs->Q vs H'
structure PV (X:Cx)(e:Expr)(φ:Mq):Prop where
 mono:∀ρ R R',(∀d,R d->R' d)->φ ρ R->φ ρ R'
 pe:PE X e (tD X φ)
structure Mr (X:Cx)(es:List Expr)(φ:tJ):Prop where
 mono:∀ρ R R',(∀d,R d->R' d)->φ ρ R->φ ρ R'
 pa:PA X es (Jc X φ)
section
variable {X:Cx}{a e:Expr}{es:List Expr}{φ:Mq}{φs:tJ}{pos:Pos}{W:Addr->Prop}{σ:St}{H:Hp}{ρ:BP}
theorem tD.of (h:PV X e φ)(se:SE X W σ H ρ){R:D->Prop}{Q:VK}(hr:φ ρ R)(k:∀d v H',R d->au H H'->Rp X W H' d v->Q v H'):tD X φ σ H Q :=
 ⟨W,ρ,se,h.mono ρ _ _ (λd hd v H' s r=>k d v H' hd s r) hr⟩
theorem Jc.of (h:Mr X es φs)(se:SE X W σ H ρ){R:List D->Prop}{Q:List V->Hp->Prop}(hr:φs ρ R)(k:∀ds vs H',R ds->au H H'->kq X W H' ds vs->Q vs H'):Jc X φs σ H Q :=
 ⟨W,ρ,se,h.mono ρ _ _ (λd hd v H' s r=>k d v H' hd s r) hr⟩
def PX (i:Nat):Mq:=λρ R=>∃d,ρ[i]?=some (some d)/\R d
theorem zr {i:Nat}{x:Str}(hN:X.N[i]?=some x:=by rfl)(hv:wQ X.env.scope x:=by first|exact .inl rfl|exact .inr (.inl rfl)|exact .inr (.inr rfl))(hd:(x==("__debug__" : Str))=false:=by decide)(ic:(x==("__classdict__" : Str))=false:=by decide):
  PV X (.Name x pos) (PX i):=⟨λρ R R' k OO=> by obtain⟨d,e,h⟩ := OO;exact⟨d,e,k d h⟩,(fb hN hv hd ic).pre λσ H Q ON=> by
 obtain⟨W,ρ,se,d,e,q⟩ := ON;obtain⟨v,h1,h2⟩:=se.env i d e;exact⟨v,h1,q v H (au.refl _) h2⟩⟩
theorem PW.pre {t t':TT}(h:PW X e t)(k:∀σ H Q,t' σ H Q->t σ H Q):PW X e t':=λw pins s σ H Q I q=>h w pins s σ H Q I (k σ H Q q)
def PY:tJ:=λ_ R=>R []
def LR (φ:Mq)(φs:tJ):tJ:=λρ R=>φ ρ λd=>φs ρ λds=>R (d::ds)
theorem vG:Mr X [] PY:=⟨λρ R R' k h=>k _ h,cZ.pre λσ H Q OM=> by obtain⟨W,ρ,se,q⟩ := OM;exact q [] H (au.refl _) rfl⟩
theorem rD (ha:PV X a φ)(hr:Mr X es φs)(hs:Vd (a::es) X.env=(false,eval a X.env)::Vd es X.env:=by rfl):Mr X (a::es) (LR φ φs) :=
 ⟨λρ R R' k h=>ha.mono ρ _ _ (λd q=>hr.mono ρ _ _ (λds q2=>k _ q2) q) h,(ba ha.pe hr.pa hs).pre λσ H Q ⟨W,ρ,se,h⟩ =>
  tD.of ha se h λd1 v1 H1 h1 s1 r1=>Jc.of hr (se.same s1) h1 λds vs H2 q s2 r2=>q (v1::vs) H2 (s1.trans s2) (.cons (r1.same s2) r2)⟩
end
abbrev FD:=List D->(D->Prop)->Prop
def cH (F:FD):Prop:=∀ds R R',(∀d,R d->R' d)->F ds R->F ds R'
section
end
section
variable {X:Cx}{e:Expr}{pos:Pos}{σ:St}{H:Hp}
theorem E6.pre {ops:List XS}{rs:List Expr}{t t':V->TE}(h:E6 X ops rs t)(k:∀x σ H Q,t' x σ H Q->t x σ H Q):E6 X ops rs t':=λpos pins s σ H x v Q I r q=>h pos pins s σ H x v Q I r (k x σ H Q q)
theorem tN.pre {ops:List XS}{rs:List Expr}{t t':V->TT}(h:tN X ops rs t)(k:∀x σ H Q,t' x σ H Q->t x σ H Q):tN X ops rs t':=λpos pins s σ H x v Q I r q=>h pos pins s σ H x v Q I r (k x σ H Q q)
theorem PO.pre {e:Option Expr}{t t':TO}(h:PO X e t)(k:∀σ H Q,t' σ H Q->t σ H Q):PO X e t':=λpins s σ H Q I q=>h pins s σ H Q I (k σ H Q q)
end
abbrev NF:D->Prop:=λd=>d.flat=true
section
abbrev NL:D->Prop:=λd=>match d with | .lst ds=>D.cQ ds=true|d=>d.flat=true
end
section
variable {P:U_}{w:Vl}{W W':Addr->Prop}{H:Hp}
mutual
theorem aA.grow (s:∀a,W' a->W a\/H a=none):∀{d:D} {v:V},aA P w W H d v->aA P w W' H d v
 |.cO,_,h=>h
 |.bl _,_,h=>h
 |.int _,_,h=>h
 |.str _,_,h=>h
 |.obj _,_,h=>h
 |.tup ds,_,⟨a,vs,e,t,r⟩=>⟨a,vs,e,t,ak.grow s r⟩
 |.lst ds,_,⟨a,vs,e,t,n,r⟩=>⟨a,vs,e,t,λz=>(s a z).elim n λq=>(by rw[t]at q;cases q),ak.grow s r⟩
 |.dT ks ds,_,⟨a,vs,e,t,l,n,r⟩=>⟨a,vs,e,t,l,λz=>(s a z).elim n λq=>(by rw[t]at q;cases q),ak.grow s r⟩
 |.dK ks ds,_,⟨a,vs,e,t,l,n,r⟩=>⟨a,vs,e,t,l,λz=>(s a z).elim n λq=>(by rw[t]at q;cases q),ak.grow s r⟩
 |.sT ts,_,⟨a,e,⟨qT,t,r,z⟩,n⟩=>⟨a,e,⟨qT,t,r,z⟩,λz=>(s a z).elim n λq=>(by rw[t]at q;cases q)⟩
 |.ob φ,_,⟨a,e,⟨t,z⟩,n⟩=>⟨a,e,⟨t,z⟩,λz=>(s a z).elim n λq=>(by rw[t]at q;cases q)⟩
theorem ak.grow (s:∀a,W' a->W a\/H a=none):∀{ds:List D} {vs:List V},ak P w W H ds vs->ak P w W' H ds vs
 |[],_,h=>h
 |d::ds,_,⟨v,r,e,h1,h2⟩=>⟨v,r,e,aA.grow s h1,ak.grow s h2⟩
end
end
def T8 (X:Cx)(W:Addr->Prop)(J:It)(ds:List D)(H0:Hp):Prop:=∀(i:Nat) (H:Hp),Kp W H0 H ->
 (∀d,ds[i]?=some d->J.go i H/\∀x H1,J.IK i H x H1->au H H1/\Rp X W H1 d x)/\(ds.length<=i->J.stop i H)
def wU (X:Cx)(W:Addr->Prop)(J:It)(ds:List D)(H0:Hp):Prop:=∀W':Addr->Prop,(∀b,W' b->W b\/H0 b=none)->T8 X W' J ds H0
abbrev Ia:=BP->(List D->Prop)->Prop
structure Ru (X:Cx)(tg iter:Expr)(ι:Ia):Prop where
 mono:∀ρ R R',(∀d,R d->R' d)->ι ρ R->ι ρ R'
 pi:PI X tg iter λσ H R=>∃W ρ,SE X W σ H ρ/\ι ρ λds=>∀J H',au H H'->wU X W J ds H'->R J H'
section
variable {X:Cx}{tg e:Expr}
theorem PI.pre {iter:Expr}{t t':TI}(h:PI X tg iter t)(k:∀σ H R,t' σ H R->t σ H R):PI X tg iter t':=λpins s σ H R I q=>h pins s σ H R I (k σ H R q)
theorem sj {W:Addr->Prop}{H:Hp}{p:Addr}{vs:List V}{ds:List D}(h1:H p=some (.lst vs))(n1:¬ W p)(q1:kq X W H ds vs):wU X W (Ni X.K p) ds H:=λW' hW i H' k=>by
 have h2:=k.out p _ h1 λz=>(hW p z).elim n1 λq=>by rw[h1]at q;cases q
 replace q1:=ak.grow hW q1;constructor
 ·intro d hd;obtain⟨v,hv,rv⟩:=ak.get q1 hd;refine⟨⟨vs,v,dh.of h2,hv⟩,λx H1 y=>?_⟩;obtain⟨rfl,y⟩:=y;have e:=y vs (dh.of h2);rw[hv]at e;cases e;exact⟨au.refl _,rv.keep k⟩
 ·intro hl;exact⟨vs,dh.of h2,by rw[q1.length];exact hl⟩
def m_ (lo:Int)(n:Nat):List D:=(VD n).map λ(k:Nat)=>D.int (lo+(k:Int))
theorem jM {W:Addr->Prop}{H:Hp}{lo:Int}{n:Nat}:wU X W (My lo n) (m_ lo n) H:=λ_ _ i H' k=>by
 constructor
 ·intro d hd;unfold m_ at hd;rw[Vq]at hd;have hi:i<n:=by
   by_cases h:i<n
   ·exact h
   ·rw[WM (by simpa using h)]at hd;cases hd
  rw[WU hi]at hd;cases hd;refine⟨hi,λx H1 y=>?_⟩;obtain⟨rfl,rfl⟩:=y;exact⟨au.refl _,rfl⟩
 ·intro hl;unfold m_ at hl;rw[U9,Wv]at hl;exact hl
end
section
variable {X:Cx}{tg:Expr}{wZ:List Expr}
theorem PG.pre {t t':TG}(h:PG X tg t)(k:∀v σ H Q,t' v σ H Q->t v σ H Q):PG X tg t':=λpins s σ H v u Q I r q=>h pins s σ H v u Q I r (k v σ H Q q)
theorem E5.pre {t t':E3}(h:E5 X wZ t)(k:∀v σ H Q,t' v σ H Q->t v σ H Q):E5 X wZ t':=λpins s σ H v u Q I r q=>h pins s σ H v u Q I r (k v σ H Q q)
end
theorem iD {H:Hp}{a:Addr}{o o':HO}(h:H a=some o)(ht:∀xs,o≠.tup xs):Kp (·=a) H (upd H a o') :=
 ⟨λb u e n=>by rw[ar n];exact e,λb xs e=>by rw[ar (Ew e h (λz=>ht xs z.symm))];exact e⟩
section
end
section
end
section
end
section
variable {σ:St}{β:a8}{own:Nat->List Addr}
def a9 (own:Nat->List Addr)(i:Nat)(as:List Addr):Nat->List Addr:=λj=>if j=i then as else own j
theorem cy {own:Nat->List Addr}{i j:Nat}{a:Addr}(h:a∈a9 own i [] j):a∈own j/\j≠i:=by
 unfold a9 at h
 by_cases e:j=i
 ·rw[if_pos e]at h;cases h
 ·rw[if_neg e]at h;exact⟨h,e⟩
theorem bx {α:Type}{β:List α}{i j:Nat}{x:α}(h:i≠j):(β.set i x)[j]?=β[j]?:=by rw[XI,if_neg h]
theorem bB {α:Type}{β:List α}{i:Nat}{x y:α}(h:(β.set i x)[i]?=some y):y=x/\i<β.length:=by
 rw[XI,if_pos rfl]at h
 by_cases hi:i<β.length
 ·rw[if_pos hi]at h;cases h;exact⟨rfl,hi⟩
 ·rw[if_neg hi]at h;cases h
theorem get_set {α:Type}{σ:List α}{i:Nat}{x:α}(h:i<σ.length):(σ.set i x)[i]?=some x:=by rw[XI,if_pos rfl,if_pos h]
end
structure Sn (Z:Hp×(Addr->Prop))(H:Hp)(W:Addr->Prop):Prop where
 w:∀b,W b->Z.2 b\/Z.1 b=none
 k:Kp (λb=>Z.2 b\/Z.1 b=none) Z.1 H
 d:∀b,Z.1 b≠none->H b≠none
theorem Sn.refl {H:Hp}{W:Addr->Prop}:Sn (H,W) H W:=⟨λ_ z=>.inl z,Kp.refl,λ_ z=>z⟩
theorem Sn.same {Z:Hp×(Addr->Prop)}{H H':Hp}{W:Addr->Prop}(n:Sn Z H W)(s:au H H'):Sn Z H' W:=⟨n.w,n.k.trans s.kp,λb z e=>n.d b z (s.free e)⟩
theorem Sn.free {Z:Hp×(Addr->Prop)}{H:Hp}{W:Addr->Prop}(n:Sn Z H W){a:Addr}(h:H a=none):Z.1 a=none:=by
 cases q:Z.1 a with
 |none=>rfl
 |some o=>exact absurd h (n.d a (by rw[q];intro z;cases z))
theorem Sn.upd {Z:Hp×(Addr->Prop)}{H:Hp}{W:Addr->Prop}(n:Sn Z H W){a:Addr}{o o':HO}(h:H a=some o)(ht:∀xs,o≠.tup xs)(wa:W a):Sn Z (L2.upd H a o') W :=
 ⟨n.w,n.k.trans ((iD h ht).mono λb z=>by rw[z];exact n.w a wa),λb z e=>by
  by_cases hb:b=a
  ·subst hb;rw[az]at e;cases e
  ·rw[ar hb]at e;exact n.d b z e⟩
theorem Sn.trans {Z:Hp×(Addr->Prop)}{H1 H:Hp}{W1 W:Addr->Prop}(n1:Sn Z H1 W1)(n:Sn (H1,W1) H W):Sn Z H W:=by
 have big:∀b,W1 b\/H1 b=none->Z.2 b\/Z.1 b=none:=λb z=>z.elim (n1.w b) λq=>.inr (n1.free q);exact⟨λb z=>big b (n.w b z),n1.k.trans (n.k.mono big),λb z=>n.d b (n1.d b z)⟩
section
variable {X:Cx}{st:Stmt}{rest:List Stmt}{σ:St}{H:Hp}
theorem PS.pre {t t':TS}(h:PS X st t)(k:∀D σ H,t' D σ H->t D σ H):PS X st t':=λpins s σ H D I q=>h pins s σ H D I (k D σ H q)
theorem qI.pre {t t':TS}(h:qI X rest t)(k:∀D σ H,t' D σ H->t D σ H):qI X rest t':=λpins s σ H D I q=>h pins s σ H D I (k D σ H q)
end
section
variable {b:Expr}{H:Hp}
theorem held {P:U_}{w:Vl}{W W2:Addr->Prop}{H2:Hp}{d:D}{v:V}(r:aA P w W H d v)(n:Sn (H,W) H2 W2):aA P w W2 H2 d v :=
 aA.aS n.w (aA.keep n.k (aA.grow (λb z=>z) r))
end
theorem Sn.kp {Z:Hp×(Addr->Prop)}{H H':Hp}{W:Addr->Prop}(n:Sn Z H W)(k:Kp W H H')(dn:∀c,H c≠none->H' c≠none):Sn Z H' W:=⟨n.w,n.k.trans (k.mono n.w),λb z=>dn b (n.d b z)⟩
section
end
section
end
end L2
namespace yv
open PySem PySem.Spec PyProof.Rows
def lexLe:List Int->List Int->Bool
 |[],_=>true
 |_::_,[]=>false
 |x::xs,y::ys=>if x=y then lexLe xs ys else decide (x<=y)
theorem Ao (x y:Int)(xs ys:List Int):lexLe (x::xs) (y::ys)=if x=y then lexLe xs ys else decide (x<=y):=rfl
theorem Al:lexLe [] []=true:=rfl
theorem Am (y:Int)(ys:List Int):lexLe [] (y::ys)=true:=rfl
theorem An (x:Int)(xs:List Int):lexLe (x::xs) []=false:=rfl
def dw:List Int->List Int->Bool
 |[],_=>false
 |_::_,[]=>true
 |x::xs,y::ys=>if x=y then dw xs ys else decide (y<x)
theorem sd (x y:Int)(xs ys:List Int):dw (x::xs) (y::ys)=if x=y then dw xs ys else decide (y<x):=rfl
theorem Ap:dw [] []=false:=rfl
theorem Aq (y:Int)(ys:List Int):dw [] (y::ys)=false:=rfl
theorem Ar (x:Int)(xs:List Int):dw (x::xs) []=true:=rfl
theorem zg (A:VZ)(s:U7)(a:Int)(t:Tok)(c:Int)(u:Tok)(prog:U_)(w:Vl)(E:U5->U7->Prop)(Q:U5->U7->Prop)(h:Q (.bool (decide (a<=c))) s):
  VA (model prog w) A (richCompare .LtE (.int a t) (.int c u)) Q E s :=
 (PyProof.Rows.le_int h:VA (model prog w) A (VN .LtE (.int a t) (.int c u)) Q E s)
section
open PySem.SeqAt
open PySem.AutoSeq1 (wpAny_loadPart')
open PySem.MeetsSeq PySem.MeetsSeq2 PySem.MeetsSeq3
theorem mX (l b:Addr)(items aP:Array U5)(n n2:Nat)(dd Bh:Option Addr)(sl y8:Array (Option U5))(ns ms:List Int)(hi:Wj items.toList ns)(hj:Wj aP.toList ms):
  Meets (W4.«tuple.__le__» ⟨[.ref l,.ref b],[]⟩)
   (λ_ R s=>s.heap.get? l=some {cls:=.type "tuple",dict:=dd,data:=.seq items n,slots:=sl}/\s.heap.get? b=some {cls:=.type "tuple",dict:=Bh,data:=.seq aP n2,slots:=y8} /\
    R (.ok (.ret (.bool (lexLe ns ms)))) s) :=
 .of_wp λprog w A R s h=>by
  obtain⟨hp,g,d,tk,os⟩:=s;obtain⟨hl,hb,h⟩:=h;have f2:=Yl;have z1:items.size=ns.length:=by rw[<- hi.length];simp
  have z2:aP.size=ms.length:=by rw[<- hj.length];simp
  wp_walk using WH hl,WH hb,Y6 _ (λrest b s'=>b.1=none/\s'=⟨hp,g,d,tk,os⟩/\∃(vs ws:List U5) (g_ nZ:List Int),rest=vs.zip ws /\
   Wj vs g_/\Wj ws nZ/\g_.length+aP.size=nZ.length+items.size/\R (.ok (.ret (.bool (lexLe g_ nZ)))) ⟨hp,g,d,tk,os⟩) _
  case turn =>
   rintro⟨y,x⟩ rest b s' ⟨gI,rfl,vs,ws,g_,nZ,hz,AJ,wm,hlen,hR⟩;cases AJ with
   |nil=>rw[Yb]at hz;cases hz
   |cons a t AI =>
    cases wm with
    |nil=>rw[X4]at hz;cases hz
    |cons c u AH =>
     rw[WB]at hz;injection hz with Kb mf
     injection Kb with hy hx
     subst hy hx;rw[Ao]at hR;simp only[Vo]at hlen;obtain⟨e,he,sF⟩:=HT.mE A.in1 ⟨hp,g,d,tk,os⟩ a t c u;refine U6 (he prog w _ _ ?_);cases e with
     |true =>
      rw[if_pos (sF.mp rfl)]at hR
      wp_walk
      exact⟨rfl,rfl,_,_,_,_,mf,AI,AH,by lia,hR⟩
     |false =>
      rw[if_neg (λq=>absurd (sF.mpr q) We)]at hR;have Kl:=zg A.in1 ⟨hp,g,d,tk,os⟩ a t c u prog w
      wp_walk using Kl
      exact⟨_,rfl,by simpa using hR⟩
  case fin =>
   rintro⟨b1,b2⟩ s' ⟨gI,rfl,vs,ws,g_,nZ,hz,AJ,wm,hlen,hR⟩;simp only at gI;subst gI;have hv:lexLe g_ nZ=decide (items.size<=aP.size):=by
    cases AJ with
    |nil =>
     cases wm with
     |nil =>
      simp only[V6]at hlen;rw[Al];exact(decide_eq_true (by lia)).symm
     |cons c u hw =>
      simp only[V6,Vo]at hlen;rw[Am];exact(decide_eq_true (by lia)).symm
    |cons a t hv =>
     cases wm with
     |nil =>
      simp only[V6,Vo]at hlen;rw[An];exact(decide_eq_false (by lia)).symm
     |cons c u hw =>
      rw[WB]at hz;cases hz
   rw[hv]at hR
   wp_walk
   exact⟨_,rfl,by simpa[XQ] using hR⟩
  case h =>
   exact⟨rfl,rfl,items.toList,aP.toList,ns,ms,rfl,hi,hj,by lia,h⟩
end
section
variable {prog:U_}{w:Vl}{A:VZ}{E:U5->U7->Prop}{s:U7}
theorem uD {l b:Addr}{items aP:Array U5}{ns ms:List Int}{Q:U5->U7->Prop}(hl:Y5 s.heap l items)(hb:Y5 s.heap b aP)(hi:Wj items.toList ns)(hj:Wj aP.toList ms)
  (hu:A.units<X0) (h:Q (.bool (lexLe ns ms)) s):VA (model prog w) A (VN .LtE (.ref l) (.ref b)) Q E s:=by
 obtain⟨⟨cls,dd,data,sl⟩,ho,hc,n,hd⟩:=id hl;obtain⟨⟨Md,Bh,data2,y8⟩,EG,k9,n2,hd2⟩:=id hb;simp only at hc hd k9 hd2;subst hc hd k9 hd2;exact Yo (op:=.LtE) ⟨_,ho,rfl⟩ ⟨_,EG,rfl⟩ PySem.F.slot_tuple_le PySem.F.entry_tuple_le (PySem.F.args_tuple_le_2 _ _) (mX l b items aP n n2 dd Bh sl y8 ns ms hi hj)
  ⟨ho,EG,show Value.bool (lexLe ns ms)≠YC/\Q (.bool (lexLe ns ms)) s from ⟨(λx=>nomatch x),h⟩⟩ hu
end
theorem zh (A:VZ)(s:U7)(a:Int)(t:Tok)(c:Int)(u:Tok)(prog:U_)(w:Vl)(E:U5->U7->Prop)(Q:U5->U7->Prop)(h:Q (.bool (decide (c<a))) s):
  VA (model prog w) A (richCompare .Gt (.int a t) (.int c u)) Q E s :=
 (PyProof.Rows.gt_int h:VA (model prog w) A (VN .Gt (.int a t) (.int c u)) Q E s)
section
open PySem.SeqAt
open PySem.AutoSeq1 (wpAny_loadPart')
open PySem.MeetsSeq PySem.MeetsSeq2 PySem.MeetsSeq3
theorem mY (l b:Addr)(items aP:Array U5)(n n2:Nat)(dd Bh:Option Addr)(sl y8:Array (Option U5))(ns ms:List Int)(hi:Wj items.toList ns)(hj:Wj aP.toList ms):
  Meets (W4.«tuple.__gt__» ⟨[.ref l,.ref b],[]⟩)
   (λ_ R s=>s.heap.get? l=some {cls:=.type "tuple",dict:=dd,data:=.seq items n,slots:=sl}/\s.heap.get? b=some {cls:=.type "tuple",dict:=Bh,data:=.seq aP n2,slots:=y8} /\
    R (.ok (.ret (.bool (dw ns ms)))) s) :=
 .of_wp λprog w A R s h=>by
  obtain⟨hp,g,d,tk,os⟩:=s;obtain⟨hl,hb,h⟩:=h;have f2:=Yl;have z1:items.size=ns.length:=by rw[<- hi.length];simp
  have z2:aP.size=ms.length:=by rw[<- hj.length];simp
  wp_walk using WH hl,WH hb,Y6 _ (λrest b s'=>b.1=none/\s'=⟨hp,g,d,tk,os⟩/\∃(vs ws:List U5) (g_ nZ:List Int),rest=vs.zip ws /\
   Wj vs g_/\Wj ws nZ/\g_.length+aP.size=nZ.length+items.size/\R (.ok (.ret (.bool (dw g_ nZ)))) ⟨hp,g,d,tk,os⟩) _
  case turn =>
   rintro⟨y,x⟩ rest b s' ⟨gI,rfl,vs,ws,g_,nZ,hz,AJ,wm,hlen,hR⟩;cases AJ with
   |nil=>rw[Yb]at hz;cases hz
   |cons a t AI =>
    cases wm with
    |nil=>rw[X4]at hz;cases hz
    |cons c u AH =>
     rw[WB]at hz;injection hz with Kb mf
     injection Kb with hy hx
     subst hy hx;rw[sd]at hR;simp only[Vo]at hlen;obtain⟨e,he,sF⟩:=HT.mE A.in1 ⟨hp,g,d,tk,os⟩ a t c u;refine U6 (he prog w _ _ ?_);cases e with
     |true =>
      rw[if_pos (sF.mp rfl)]at hR
      wp_walk
      exact⟨rfl,rfl,_,_,_,_,mf,AI,AH,by lia,hR⟩
     |false =>
      rw[if_neg (λq=>absurd (sF.mpr q) We)]at hR;have Kl:=zh A.in1 ⟨hp,g,d,tk,os⟩ a t c u prog w
      wp_walk using Kl
      exact⟨_,rfl,by simpa using hR⟩
  case fin =>
   rintro⟨b1,b2⟩ s' ⟨gI,rfl,vs,ws,g_,nZ,hz,AJ,wm,hlen,hR⟩;simp only at gI;subst gI;have hv:dw g_ nZ=decide (aP.size<items.size):=by
    cases AJ with
    |nil =>
     cases wm with
     |nil =>
      simp only[V6]at hlen;rw[Ap];exact(decide_eq_false (by lia)).symm
     |cons c u hw =>
      simp only[V6,Vo]at hlen;rw[Aq];exact(decide_eq_false (by lia)).symm
    |cons a t hv =>
     cases wm with
     |nil =>
      simp only[V6,Vo]at hlen;rw[Ar];exact(decide_eq_true (by lia)).symm
     |cons c u hw =>
      rw[WB]at hz;cases hz
   rw[hv]at hR
   wp_walk
   exact⟨_,rfl,by simpa[XQ] using hR⟩
  case h =>
   exact⟨rfl,rfl,items.toList,aP.toList,ns,ms,rfl,hi,hj,by lia,h⟩
end
section
variable {prog:U_}{w:Vl}{A:VZ}{E:U5->U7->Prop}{s:U7}
theorem uM {l b:Addr}{items aP:Array U5}{ns ms:List Int}{Q:U5->U7->Prop}(hl:Y5 s.heap l items)(hb:Y5 s.heap b aP)(hi:Wj items.toList ns)(hj:Wj aP.toList ms)
  (hu:A.units<X0) (h:Q (.bool (dw ns ms)) s):VA (model prog w) A (VN .Gt (.ref l) (.ref b)) Q E s:=by
 obtain⟨⟨cls,dd,data,sl⟩,ho,hc,n,hd⟩:=id hl;obtain⟨⟨Md,Bh,data2,y8⟩,EG,k9,n2,hd2⟩:=id hb;simp only at hc hd k9 hd2;subst hc hd k9 hd2;exact Yo (op:=.Gt) ⟨_,ho,rfl⟩ ⟨_,EG,rfl⟩ PySem.F.slot_tuple_gt PySem.F.entry_tuple_gt (PySem.F.args_tuple_gt_2 _ _) (mY l b items aP n n2 dd Bh sl y8 ns ms hi hj)
  ⟨ho,EG,show Value.bool (dw ns ms)≠YC/\Q (.bool (dw ns ms)) s from ⟨(λx=>nomatch x),h⟩⟩ hu
end
end yv
namespace L2
open PySem PySem.Spec PySem.SeqAt PyProof.Rows
def bA:List D->Option (List Int)
 |[]=>some []
 |.int i::ds=>(bA ds).map (i::·)
 |_::_=>none
theorem jg:∀{ds:List D} {ns:List Int},bA ds=some ns->ds=ns.map D.int
 |[],_,h=>by cases h;rfl
 |.int i::ds,_,h=>by
  obtain⟨ns,h1,rfl⟩:=Vr.mp h;rw[VI,<- jg h1]
 |.cO::_,_,h=>by cases h
 |.bl _::_,_,h=>by cases h
 |.str _::_,_,h=>by cases h
 |.obj _::_,_,h=>by cases h
 |.tup _::_,_,h=>by cases h
 |.lst _::_,_,h=>by cases h
 |.dT _ _::_,_,h=>by cases h
 |.dK _ _::_,_,h=>by cases h
 |.sT _::_,_,h=>by cases h
 |.ob _::_,_,h=>by cases h
theorem cE:∀(ns:List Int),bA (ns.map D.int)=some ns
 |[]=>rfl
 |n::ns=>by rw[VI];show (bA (ns.map D.int)).map _=_;rw[cE ns];rfl
theorem cD {P:U_}{w:Vl}{W:Addr->Prop}{H:Hp}:∀{ns:List Int} {vs:List V},ak P w W H (ns.map D.int) vs->vs=ns.map V.int
 |[],_,h=>h
 |n::ns,_,⟨v,r,e,h1,h2⟩=>by rw[e,cD h2,show v=V.int n from h1];rfl
theorem om {P:U_}{w:Vl}{W:Addr->Prop}{H:Hp}:∀(ns:List Int),ak P w W H (ns.map D.int) (ns.map V.int)
 |[]=>rfl
 |n::ns=>⟨_,_,rfl,rfl,om ns⟩
def oM (p:Int->Int->Bool)(lex:List Int->List Int->Bool)(a b:D):Option D:=match a.G1,b.G1 with
 |some a,some b=>match bA a,bA b with
  |some ns,some ms=>some (.bl (lex ns ms))
  |_,_=>none
 |_,_=>yg p a b
theorem wY {p:Int->Int->Bool}{lex:List Int->List Int->Bool}{a b d:D}(h:oM p lex a b=some d):(∃i j ns ms,a=.tup i/\b=.tup j/\bA i=some ns/\bA j=some ms/\d=.bl (lex ns ms))\/yg p a b=some d:=by
 unfold oM at h;cases ha:a.G1 with
 |none=>rw[ha]at h;exact .inr h
 |some i =>
  cases hb:b.G1 with
  |none=>rw[ha,hb]at h;exact .inr h
  |some j =>
   rw[ha,hb]at h;cases ea:bA i with
   |none=>simp only[ea]at h;cases h
   |some ns =>
    cases eb:bA j with
    |none=>simp only[ea,eb]at h;cases h
    |some ms=>simp only[ea,eb]at h;cases h;exact .inl ⟨i,j,ns,ms,D.l9 ha,D.l9 hb,ea,eb,rfl⟩
abbrev L_:D->D->Option D:=oM (λi j=>decide (i<j)) HT.lexLt
abbrev Ma:D->D->Option D:=oM (λi j=>decide (i<=j)) yv.lexLe
abbrev Mb:D->D->Option D:=oM (λi j=>decide (j<i)) yv.dw
section
variable {X:Cx}
theorem lS {p:Int->Int->Bool}{lex:List Int->List Int->Bool}{op:XS}(ho:h8 X (VN op) (xn λi j=>.bl (p i j)))
  (ht:∀(s:U7) (E:U5->U7->Prop) (l b:Addr) (items aP:Array U5) (ns ms:List Int) (Q:U5->U7->Prop),Y5 s.heap l items->Y5 s.heap b aP->Wj items.toList ns->Wj aP.toList ms->Q (.bool (lex ns ms)) s->VA (model X.prog X.w) X.A (VN op (.ref l) (.ref b)) Q E s) :
  bw X (VN op) (oM p lex):=by
 intro pins s σ H x y v u Q I rx ry h;obtain⟨W,d1,d2,d,hd,r1,r2,e,q⟩:=h;rcases wY e with⟨a,b,ns,ms,rfl,rfl,ea,eb,rfl⟩|e
 ·rw[jg ea]at r1;rw[jg eb]at r2;obtain⟨pa,vs,rfl,ha,ra⟩:=r1;obtain⟨pb,us,rfl,hb,rb⟩:=r2;rw[cD ra]at ha;rw[cD rb]at hb;cases rx;cases ry;obtain⟨its,q1,p1,_⟩:=I.tuple (qH.of ha);obtain⟨G0,q2,p2,_⟩:=I.tuple (qH.of hb);exact ht s _ pa pb _ _ ns ms _ p1 p2 (by simpa using intsAre_of q1) (by simpa using intsAre_of q2) ⟨.bl _,H,I,rfl,q _ _ (au.refl _) rfl⟩
 ·exact k6 ho pins s σ H x y v u Q I rx ry ⟨W,_,_,d,hd,r1,r2,e,q⟩
theorem C0 (hu:X.A.units<X0):bw X (VN .Lt) L_:=lS zV λs E l b items aP ns ms Q h1 h2 h3 h4 h5=>HT.uz h1 h2 h3 h4 hu h5
theorem vR (hu:X.A.units<X0):bw X (VN .LtE) Ma:=lS Er λs E l b items aP ns ms Q h1 h2 h3 h4 h5=>yv.uD h1 h2 h3 h4 hu h5
theorem C1 (hu:X.A.units<X0):bw X (VN .Gt) Mb:=lS zW λs E l b items aP ns ms Q h1 h2 h3 h4 h5=>yv.uM h1 h2 h3 h4 hu h5
end
end L2
namespace TS
open PySem PyProof.Rows
section
variable {prog:U_}{w:Vl}{A:VZ}{E:U5->U7->Prop}{s:U7}
theorem t8 {x:U5}{vs:List U5}{kf:U5->List Int}{Q:U5->U7->Prop}(hz:vs.length<=1000000)
  (col:∀(B:VZ) (R:List U5->U7->Prop),B.units<=A.units+1->(∀(h':Heap) (tk:Nat),(∀b o,s.heap.get? b=some o->h'.get? b=some o)->s.heap.objs.size<=h'.objs.size->R vs {s with heap:=h',toks:=tk})->VA (model prog w) B (collect x) R E s)
  (T:nB s.heap kf s.heap.objs.size vs)
  (h:∀(out:List U5) (l:Addr) (h':Heap) (tk:Nat) (n:Nat),out.Perm vs->out.Pairwise (λx y=>HT.lexLt (kf y) (kf x)=false)->s.heap.objs.size<=l->(∀b o,s.heap.get? b=some o->h'.get? b=some o)->h'.get? l=some (WV "list" out.toArray n)->Q (.ref l) {s with heap:=h',toks:=tk}) :
  VA (model prog w) A (call (.builtin "sorted") [x]) Q E s:=by
 refine ZC kind_sorted plain_sorted entry_sorted (args_sorted1 _) ?_;unfold W4.«sorted»
 refine U6 (m:=checkCount "sorted" 1 1 _) (Vg ?_);refine U6 (col A.in1 _ (U8 _) λh' tk kp SD=>?_);have nl:vs.length<=Vh:=by rw[Wm];lia
 refine U6 (wpAny_newList ?_ nl);have hl:(h'.push (WV "list" vs.toArray 0)).get? h'.objs.size=some (WV "list" vs.toArray 0):=VS _ rfl;have T':nB (h'.push (WV "list" vs.toArray 0)) kf h'.objs.size vs:=λv hv=>by
  obtain⟨t,o,xs,k,e1,_,e3,r⟩:=T v hv;exact⟨t,o,xs,k,e1,VJ (Vp (kp _ _ e3)),Vi _ (kp _ _ e3),r⟩
 refine U6 (WC (Xm slot_list_sort ⟨_,hl,rfl⟩ entry_list_sort (lZ (s:={s with heap:=h'.push (WV "list" vs.toArray 0),toks:=tk}) hl hz T' λout hp hs=>⟨_,rfl,?_⟩) (args_list_sort _)))
 obtain⟨n,hn⟩:=sortedHeap_at (out:=out.toArray) hl;refine Vg ⟨_,rfl,h out h'.objs.size _ tk n hp hs SD (λb o e=>?_) hn⟩;have hb:=Vp (kp _ _ e);rw[sortedHeap_old (VJ hb) (by rw[size_push'];exact Nat.lt_succ_of_lt hb)]
 exact Vi _ (kp _ _ e)
end
end TS
namespace L2
open PySem PySem.Spec PyProof.Rows
def uE (H:Hp):U5->List Int
 |.ref t=>match H t with
  |some (.tup xs)=>xs.filterMap fun
   |.int i=>some i
   |_=>none
  |_=>[]
 |_=>[]
theorem sO:∀ns:List Int,((ns.map V.int).filterMap fun
   |.int i=>some i
   |_=>none)=ns
 |[]=>rfl
 |n::ns=>by
  rw[VI,Wl];dsimp only;rw[sO ns]
theorem l7 {H:Hp}{t:Addr}{ns:List Int}(h:H t=some (.tup (ns.map V.int))):uE H (.ref t)=ns:=by
 unfold uE;dsimp only;rw[h];exact sO ns
def DG (H:Hp):U5->Addr×List Int
 |.ref t=>(t,uE H (.ref t))
 |_=>(0,[])
abbrev BN (H:Hp)(ts:List (Addr×List Int)):Prop:=∀t∈ts,H t.1=some (.tup (t.2.map V.int))/\t.2≠[]
abbrev pj (t:Addr×List Int):V:=.ref t.1
theorem nG:∀{ts:List (Addr×List Int)} {us:List U5},Vals (ts.map pj) us->us=ts.map λt=>Value.ref t.1
 |[],_,.nil=>rfl
 |t::ts,_,.cons r q=>by
  rw[VI,<- nG q];cases r;rfl
theorem jG:∀(ts:List (Addr×List Int)),Vals (ts.map pj) (ts.map λt=>Value.ref t.1)
 |[]=>.nil
 |t::ts=>.cons rfl (jG ts)
theorem nS {H:Hp}{ts:List (Addr×List Int)}(T:BN H ts){out:List U5}(hp:out.Perm (ts.map λt=>Value.ref t.1)):out=(out.map (DG H)).map (λt=>Value.ref t.1)/\(out.map (DG H)).Perm ts:=by
 constructor
 ·rw[Wr];refine(Wk (g:=id) λv hv=>?_).trans (List.map_id _) |>.symm
  obtain⟨t,ht,rfl⟩:=VV.mp (hp.mem_iff.mp hv);rfl
 ·refine(hp.map (DG H)).trans (Zj ?_);rw[Wr];refine(Wk (g:=id) λt ht=>?_).trans (List.map_id _);show (t.1,uE H (.ref t.1))=t;rw[l7 (T t ht).1]
theorem vq {P:U_}{w:Vl}{H:Hp}{h:Heap}{ts:List (Addr×List Int)}(ok:gi P w H h)(T:BN H ts){a:Addr}(ha:h.objs.size<=a):TS.nB h (uE H) a (ts.map λt=>Value.ref t.1):=λv hv=>by
 obtain⟨t,ht,rfl⟩:=VV.mp hv;obtain⟨h1,h2⟩:=T t ht;obtain⟨_,its,r,o,ho,hc,n,hd⟩:=(show b5 P w H h t.1 (.tup (t.2.map V.int)) from ok _ _ h1)
 exact⟨t.1,o,_,n,rfl,VJ (VG (Vp ho) ha),ho,hc,hd,by rw[l7 h1];exact intsAre_of (by simpa using r),by rw[l7 h1];exact h2⟩
section
variable {X:Cx}
theorem qm:fF X (.builtin "sorted") (λxs H Q=>∃(p:Addr) (ts:List (Addr×List Int)),xs=[.ref p]/\dh X.K H p (ts.map pj)/\BN H ts/\ts.length<=1000000 /\
  ∀(l:Addr) (qT:List (Addr×List Int)),H l=none->qT.Perm ts->qT.Pairwise (λx y=>HT.lexLt y.2 x.2=false)->Q (.ref l) (upd H l (.lst (qT.map pj)))):=by
 intro pins s σ H xs us Q I r h;obtain⟨p,ts,rfl,hq,T,hz,q⟩:=h;obtain⟨u,rfl,rx⟩:=vals1 r;cases rx;obtain⟨its,r',pl,hl⟩:=I.list hq;obtain rfl:=nG r';have nl:(ts.map λt=>Value.ref t.1).length<=Vh:=by rw[U9,Wm];lia
 refine TS.t8 (kf:=uE H) (by rw[U9];exact hz) (λB R _ hR=>?_) (vq I.bt T (U8 _)) λout l h' tk n hp hs hle kp ho=>?_
 ·refine collect_list pl.isList (hR _ s.toks (λb o e=>?_) ?_) nl
  ·have hb:=Vp e;rw[Heap.get?_update_ne _ _ _ _ (VJ hb)];exact Vi _ e
  ·rw[Heap.size_update,size_push'];exact Nat.le_succ _
 ·obtain⟨e1,e2⟩:=nS T hp;have zl:out.length=ts.length:=by rw[hp.length_eq,U9]
  refine⟨.ref l,_,I.laid (t':=tk) (o:=.lst ((out.map (DG H)).map pj)) kp hle ?_,rfl,q l _ (I.bt.fresh hle) e2 ?_⟩
  ·refine⟨by rw[U9,U9,zl,Wm];lia,out,n,?_,ho⟩
   have:=jG (out.map (DG H));rw[<- e1]at this;exact this
  ·rw[WT];refine hs.imp_of_mem λ{x y} hx hy hh=>?_;obtain⟨t,ht,rfl⟩:=VV.mp (hp.mem_iff.mp hx);obtain⟨t',SX,rfl⟩:=VV.mp (hp.mem_iff.mp hy);exact hh
end
end L2
namespace TS
open PySem PyProof.Rows
section
variable {prog:U_}{w:Vl}{A:VZ}{E:U5->U7->Prop}{s:U7}
theorem t7 {x:U5}{vs:List U5}{kf:U5->List Int}{Q:U5->U7->Prop}(hz:vs.length<=1000000)
  (col:∀(R:List U5->U7->Prop),(∀(h':Heap) (tk:Nat),(∀b o,s.heap.get? b=some o->h'.get? b=some o)->R vs {s with heap:=h',toks:=tk})->VA (model prog w) A.in1 (collect x) R E s)
  (T:nB s.heap kf s.heap.objs.size vs)
  (h:∀(out:List U5) (h1 h':Heap) (tk:Nat) (n:Nat),out.Perm vs->out.Pairwise (λx y=>HT.lexLt (kf y) (kf x)=false)->(∀b o,s.heap.get? b=some o->h1.get? b=some o)->(∀b o,h1.get? b=some o->h'.get? b=some o)->h'.get? h1.objs.size=some (WV "list" out.toArray n)->Q (.ref h1.objs.size) {s with heap:=h',toks:=tk}) :
  VA (model prog w) A (call (.builtin "sorted") [x]) Q E s:=by
 refine ZC kind_sorted plain_sorted entry_sorted (args_sorted1 _) ?_;unfold W4.«sorted»
 refine U6 (m:=checkCount "sorted" 1 1 _) (Vg ?_);refine U6 (col _ λh' tk kp=>?_);have nl:vs.length<=Vh:=by rw[Wm];lia
 refine U6 (wpAny_newList ?_ nl);have hl:(h'.push (WV "list" vs.toArray 0)).get? h'.objs.size=some (WV "list" vs.toArray 0):=VS _ rfl;have T':nB (h'.push (WV "list" vs.toArray 0)) kf h'.objs.size vs:=λv hv=>by
  obtain⟨t,o,xs,k,e1,_,e3,r⟩:=T v hv;exact⟨t,o,xs,k,e1,VJ (Vp (kp _ _ e3)),Vi _ (kp _ _ e3),r⟩
 refine U6 (WC (Xm slot_list_sort ⟨_,hl,rfl⟩ entry_list_sort (lZ (s:={s with heap:=h'.push (WV "list" vs.toArray 0),toks:=tk}) hl hz T' λout hp hs=>⟨_,rfl,?_⟩) (args_list_sort _)))
 obtain⟨n,hn⟩:=sortedHeap_at (out:=out.toArray) hl;refine Vg ⟨_,rfl,h out h' _ tk n hp hs kp (λb o e=>?_) hn⟩;have hb:=Vp e;rw[sortedHeap_old (VJ hb) (by rw[size_push'];exact Nat.lt_succ_of_lt hb)]
 exact Vi _ e
end
end TS
namespace ST
open PySem PyProof.Rows
section
end
end ST
namespace L2
open PySem PySem.Spec PySem.SeqAt PyProof.Rows HT
theorem iB:∀{a b:List Int},lexLt a b=false->lexLt b a=false->a=b
 |[],[],_,_=>rfl
 |[],_::_,h,_=>by cases h
 |_::_,[],_,h=>by cases h
 |x::xs,y::ys,h1,h2=>by
  rw[c3]at h1 h2
  by_cases e:x=y
  ·subst e;rw[if_pos rfl]at h1 h2;rw[iB h1 h2]
  ·rw[if_neg e]at h1;rw[if_neg (λz=>e z.symm)]at h2;have:=of_decide_eq_false h1;have:=of_decide_eq_false h2;omega
theorem l6:∀{a b:List Int},lexLt a b=true->lexLt b a=false
 |[],[],h=>by cases h
 |[],_::_,_=>rfl
 |_::_,[],h=>by cases h
 |x::xs,y::ys,h=>by
  rw[c3]at h ⊢
  by_cases e:x=y
  ·subst e;rw[if_pos rfl]at h ⊢
   exact l6 h
  ·rw[if_neg e]at h;rw[if_neg (λz=>e z.symm)];have:=of_decide_eq_true h;exact decide_eq_false (by lia)
theorem gG:∀{a b c:List Int},lexLt a b=true->lexLt b c=true->lexLt a c=true
 |[],[],_,h,_=>by cases h
 |[],_::_,[],_,h=>by cases h
 |[],_::_,_::_,_,_=>rfl
 |_::_,[],_,h,_=>by cases h
 |x::xs,y::ys,[],_,h=>by cases h
 |x::xs,y::ys,z::zs,h1,h2=>by
  rw[c3]at h1 h2 ⊢
  by_cases e:x=y
  ·subst e;rw[if_pos rfl]at h1
   by_cases e2:x=z
   ·subst e2;rw[if_pos rfl]at h2 ⊢
    exact gG h1 h2
   ·rw[if_neg e2]at h2 ⊢
    exact h2
  ·rw[if_neg e]at h1;have q1:=of_decide_eq_true h1
   by_cases e2:y=z
   ·subst e2;rw[if_neg e];exact h1
   ·rw[if_neg e2]at h2;have q2:=of_decide_eq_true h2;rw[if_neg (by omega)]
    exact decide_eq_true (by omega)
def uH (k:List Int):List (List Int)->List (List Int)
 |[]=>[k]
 |x::xs=>if lexLt x k=true then x::uH k xs else k::x::xs
def gR:List (List Int)->List (List Int)
 |[]=>[]
 |k::ks=>uH k (gR ks)
theorem jO (k:List Int):∀xs,(uH k xs).Perm (k::xs)
 |[]=>.refl _
 |x::xs=>by
  unfold uH
  split
  ·exact((jO k xs).cons x).trans (List.Perm.swap _ _ _)
  ·exact .refl _
theorem fk:∀ks,(gR ks).Perm ks
 |[]=>.refl _
 |k::ks=>(jO k (gR ks)).trans ((fk ks).cons k)
abbrev u_ (ks:List (List Int)):Prop:=ks.Pairwise λx y=>HT.lexLt y x=false
theorem le_trans' {a b c:List Int}(h1:lexLt b a=false)(h2:lexLt c b=false):lexLt c a=false:=by
 cases h:lexLt c a with
 |false=>rfl
 |true =>
  cases hb:lexLt a b with
  |true=>rw[gG h hb]at h2;cases h2
  |false =>
   have:=iB hb h1;subst this;rw[h]at h2;cases h2
theorem oq (k:List Int):∀xs,u_ xs->u_ (uH k xs)
 |[],_=>by simp[uH]
 |x::xs,h=>by
  obtain⟨h1,h2⟩:=Wa.mp h;unfold uH
  split
  ·rename_i hx
   refine Wa.mpr ⟨λy hy=>?_,oq k xs h2⟩;rcases Va.mp ((jO k xs).mem_iff.mp hy)with rfl|hy
   ·exact l6 hx
   ·exact h1 y hy
  ·rename_i hx
   have AG:lexLt x k=false:=by cases q:lexLt x k <;> simp_all
   refine Wa.mpr ⟨λy hy=>?_,h⟩;rcases Va.mp hy with rfl|hy
   ·exact AG
   ·exact le_trans' AG (h1 y hy)
theorem lE:∀ks,u_ (gR ks)
 |[]=>.nil
 |k::ks=>oq k _ (lE ks)
theorem j4:∀{a b:List (List Int)},a.Perm b->u_ a->u_ b->a=b
 |[],b,p,_,_=>by rw[List.nil_perm.mp p]
 |x::a,[],p,_,_=>by have:=p.length_eq;simp at this
 |x::a,y::b,p,ha,hb=>by
  obtain⟨a1,a2⟩:=Wa.mp ha;obtain⟨b1,b2⟩:=Wa.mp hb;have OD:x=y:=by
   rcases Va.mp (p.mem_iff.mp (Vw (a:=x) (l:=a)))with h|h
   ·exact h
   ·rcases Va.mp (p.mem_iff.mpr (Vw (a:=y) (l:=b)))with h' | h'
    ·exact h'.symm
    ·exact iB (b1 x h) (a1 y h')
  subst OD;rw[j4 (List.perm_cons x |>.mp p) a2 b2]
theorem yX {a b:List (List Int)}(p:a.Perm b)(h:u_ a):a=gR b:=j4 (p.trans (fk b).symm) h (lE b)
abbrev kD (k:List Int):D:=.tup (k.map D.int)
def ib:List D->Option (List (List Int))
 |[]=>some []
 |.tup a::ds=>match bA a,ib ds with
  |some k,some ks=>if k=[] then none else some (k::ks)
  |_,_=>none
 |_::_=>none
theorem si:∀{ds:List D} {ks:List (List Int)},ib ds=some ks->ds=ks.map kD/\∀k∈ks,k≠[]
 |[],_,h=>by cases h;exact⟨rfl,λ_ z=>nomatch z⟩
 |.tup a::ds,ks,h=>by
  have h':(match bA a,ib ds with|some k,some ks=>if k=[] then none else some (k::ks)|_,_=>none)=some ks:=h
  cases ea:bA a with
  |none=>rw[ea]at h';cases h'
  |some k =>
   cases eb:ib ds with
   |none=>rw[ea,eb]at h';cases h'
   |some kr =>
    rw[ea,eb]at h'
    by_cases hk:k=[]
    ·simp[hk]at h'
    ·simp only[hk,if_false,Y4]at h';subst h';obtain⟨h1,h2⟩:=si eb;rw[VI,<- h1,jg ea];refine⟨rfl,λx hx=>?_⟩;rcases Va.mp hx with rfl|hx
     ·exact hk
     ·exact h2 x hx
 |.cO::_,_,h=>by cases h
 |.bl _::_,_,h=>by cases h
 |.str _::_,_,h=>by cases h
 |.obj _::_,_,h=>by cases h
 |.int _::_,_,h=>by cases h
 |.lst _::_,_,h=>by cases h
 |.dT _ _::_,_,h=>by cases h
 |.dK _ _::_,_,h=>by cases h
 |.sT _::_,_,h=>by cases h
 |.ob _::_,_,h=>by cases h
theorem oh:∀{ks:List (List Int)},(∀k∈ks,k≠[])->ib (ks.map kD)=some ks
 |[],_=>rfl
 |k::ks,h=>by
  show (match bA (k.map D.int),ib (ks.map kD)with|some k,some ks=>if k=[] then none else some (k::ks)|_,_=>none)=_
  rw[cE,oh λx hx=>h x (Vm _ hx)];simp[h k (Vw ..)]
section
variable {P:U_}{w:Vl}{W:Addr->Prop}{H:Hp}
theorem og:∀{ks:List (List Int)} {vs:List V},(∀k∈ks,k≠[])->ak P w W H (ks.map kD) vs->∃ts:List (Addr×List Int),vs=ts.map pj/\BN H ts/\ts.map (·.2)=ks
 |[],_,_,h=>⟨[],h,(λ_ z=>nomatch z),rfl⟩
 |k::ks,_,hk,⟨v,r,e,⟨a,us,e1,e2,e3⟩,h2⟩=>by
  obtain⟨ts,q1,q2,q3⟩:=og (λx hx=>hk x (Vm _ hx)) h2;refine⟨(a,k)::ts,by rw[e,e1,q1];rfl,λt ht=>?_,by rw[VI,q3]⟩
  rcases Va.mp ht with rfl|ht
  ·rw[cD e3]at e2;exact⟨e2,hk k (Vw ..)⟩
  ·exact q2 t ht
theorem jF:∀{ts:List (Addr×List Int)},(∀t∈ts,H t.1=some (.tup (t.2.map V.int)))->ak P w W H ((ts.map (·.2)).map kD) (ts.map pj)
 |[],_=>rfl
 |t::ts,h=>⟨_,_,rfl,⟨t.1,_,rfl,h t (Vw ..),om t.2⟩,jF λx hx=>h x (Vm _ hx)⟩
def Bi:List D->Option D
 |[.lst ds]=>match ib ds with
  |some ks=>if ks.length<=1000000 then some (.lst ((gR ks).map kD)) else none
  |none=>none
 |[.sT ts]=>if ts.length<=1000/\(∀k∈ts,k≠[]) then some (.lst ((gR ts).map kD)) else none
 |_=>none
end
section
end
def bu:FD:=λds R=>∃n:Int,ds=[.int n]/\0<n/\n<2 ^ 200/\∀r:Int,0<=r->r<n->R (.int r)
theorem bu.mono:cH bu:=λds R R' k ⟨n,e,h1,h2,q⟩=>⟨n,e,h1,h2,λr a b=>k _ (q r a b)⟩
section
end
section
variable {X:Cx}{W:Addr->Prop}{H:Hp}
theorem ux {p:Addr}{vs:List V}{ds:List D}(n:H p=none)(f:NL (.lst ds))(r:kq X W H ds vs):Rp X (λa=>H a≠none) (upd H p (.lst vs)) (.lst ds) (.ref p) :=
 ⟨p,vs,rfl,az,λz=>z n,ak.flat f (r.same (au.new n))⟩
def N5 (X:Cx)(f:D->D->Option D):R2:=λx y H Q=>∃W d1 d2 d,Dm W H/\Rp X W H d1 x/\Rp X W H d2 y/\f d1 d2=some d/\∀v H',au H H'->Rp X W H' d v->(NL d->Rp X (λa=>H a≠none) H' d v)->Q v H'
def N4 (X:Cx)(f:List D->Option D):List V->Hp->VK->Prop:=λxs H Q=>∃W ds d,Dm W H/\kq X W H ds xs/\f ds=some d/\∀v H',au H H'->Rp X W H' d v->(NL d->Rp X (λa=>H a≠none) H' d v)->Q v H'
def Jr (X:Cx)(f:D->Option Int->Option Int->Option D):V->Option Int->Option Int->Hp->VK->Prop:=λx lo hi H Q=>∃W d1 d,Dm W H/\Rp X W H d1 x/\f d1 lo hi=some d/\∀v H',au H H'->Rp X W H' d v->(NL d->Rp X (λa=>H a≠none) H' d v)->Q v H'
abbrev Mv (X:Cx)(f:U5->U5->Sem U5)(g:D->D->Option D):Prop:=h8 X f (N5 X g)
abbrev vf (X:Cx)(f:U5)(g:List D->Option D):Prop:=fF X f (N4 X g)
theorem ay:Mv X (WR .Add) tj:=by
 intro pins s σ H x y v u Q I rx ry h;obtain⟨W,d1,d2,d,hd,r1,r2,e,q⟩:=h;rcases xG e with⟨a,b,rfl,rfl,e⟩|e
 ·obtain⟨hl,rfl⟩:=cP e;obtain⟨p,vs,rfl,h1,n1,q1⟩:=r1;obtain⟨p',vs',rfl,h2,n2,q2⟩:=r2;exact zZ pins s σ H _ _ v u Q I rx ry ⟨p,p',vs,vs',rfl,rfl,h1,h2,by rw[q1.length,q2.length];exact hl,λl nu=>q _ _ (au.new nu) (Rp.iA hd nu (q1.append q2)) λf=>ux nu f (q1.append q2)⟩
 ·obtain⟨i,j,rfl,rfl,e⟩:=jN e;cases e;cases r1;cases r2;exact pQ pins s σ H _ _ v u Q I rx ry ⟨i,j,rfl,rfl,q _ _ (au.refl _) rfl λ_=>rfl⟩
theorem Cp:Qg X (Jr X LZ):=by
 intro pins s σ H x v vl vu lo hi sl Q I rx hs pl pu h;obtain⟨W,d1,d,hd,r1,e,q⟩:=h;cases d1 with
 |lst ds =>
  cases e;obtain⟨p,vs,rfl,h1,n1,q1⟩:=r1;have rr:kq X W H (cutD ds lo hi) (tu vs lo hi):=by
   unfold tu cutD;rw[q1.length];exact(ak.drop _ q1).take _
  exact vz pins s σ H _ v vl vu lo hi sl Q I rx hs pl pu ⟨p,vs,rfl,dh.of h1,λl hl=>q _ _ (au.new hl) (Rp.iA hd hl rr) λf=>ux hl f rr⟩
 |_=>cases e
theorem gN:vf X (.type "list") dList:=by
 intro pins s σ H xs us Q I r h;obtain⟨W,ds,d,hd,r1,e,q⟩:=h
 match ds,e with
 |[.lst es],e =>
  cases e;obtain⟨v,r',rfl,⟨p,vs,rfl,h1,n1,q1⟩,hr⟩:=r1;cases hr;exact jr pins s σ H _ us Q I r ⟨p,vs,rfl,.inl (dh.of h1),λl hl=>q _ _ (au.new hl) (Rp.iA hd hl q1) λf=>ux hl f q1⟩
 |[.tup es],e =>
  cases e;obtain⟨v,r',rfl,⟨p,vs,rfl,h1,q1⟩,hr⟩:=r1;cases hr;exact jr pins s σ H _ us Q I r ⟨p,vs,rfl,.inr (qH.of h1),λl hl=>q _ _ (au.new hl) (Rp.iA hd hl q1) λf=>ux hl f q1⟩
theorem qp:vf X (.builtin "sorted") (λds=>match ds with | [.lst ds]=>Bi [.lst ds]|_=>none):=by
 intro pins s σ H xs us Q I r h;obtain⟨W,ds,d,hd,r1,e,q⟩:=h
 match ds,e with
 |[.lst es],e =>
  have e':(match ib es with|some ks=>if ks.length<=1000000 then some (D.lst ((gR ks).map kD)) else none|none=>none)=some d:=e
  cases ek:ib es with
  |none=>rw[ek]at e';cases e'
  |some ks =>
   rw[ek]at e';obtain⟨hl,rfl⟩:=cP e';obtain⟨rfl,hk⟩:=si ek;obtain⟨x,rfl,p,vs,rfl,hp,n1,q1⟩:=mK r1;obtain⟨ts,rfl,T,rfl⟩:=og hk q1;refine qm pins s σ H _ us Q I r ⟨p,ts,rfl,dh.of hp,T,by simpa using hl,λl qT nu QZ S4=>?_⟩
   have eq:qT.map (·.2)=gR (ts.map (·.2)):=yX (QZ.map _) (WT.mpr S4);rw[<- eq]at q;have rk:=jF (P:=X.prog) (w:=X.w) (W:=W) (H:=H) (ts:=qT) λt ht=>(T t (QZ.mem_iff.mp ht)).1;exact q _ _ (au.new nu) (Rp.iA hd nu rk) λf=>ux nu f rk
end
section
end
end L2
namespace L2.Q
open PySem PySem.Spec PySem.SeqAt PyProof.Rows
section
variable (P:U_)(w:Vl)(H:Hp)
mutual
def Own:D->V->List Addr->Prop
 |.tup ds,v,A=>∃a vs,v=.ref a/\H a=some (.tup vs)/\aQ ds vs A
 |.lst ds,v,A=>∃a vs A',v=.ref a/\H a=some (.lst vs)/\A=a::A'/\aQ ds vs A'
 |.dT ks ds,v,A=>∃a vs A',v=.ref a/\H a=some (.dT (ks.zip vs))/\ks.length=vs.length/\A=a::A'/\aQ ds vs A'
 |.dK ks ds,v,A=>∃a vs A',v=.ref a/\H a=some (.dK (ks.zip vs))/\ks.length=vs.length/\A=a::A'/\aQ ds vs A'
 |.sT ts,v,A=>∃a,v=.ref a/\D_ P w H a ts/\A=[a]
 |.ob φ,v,A=>∃a,v=.ref a/\(H a=some (φ a)/\∀xs,φ a≠.tup xs)/\A=[a]
 |.cO,v,A=>v=.cO/\A=[]
 |.bl b,v,A=>v=.bl b/\A=[]
 |.int i,v,A=>v=.int i/\A=[]
 |.str x,v,A=>v=.str x/\A=[]
 |.obj a,v,A=>v=.ref a/\A=[]
def aQ:List D->List V->List Addr->Prop
 |[],vs,A=>vs=[]/\A=[]
 |d::ds,vs,A=>∃v r A1 A2,vs=v::r/\A=A1++A2/\Own d v A1/\aQ ds r A2
end
end
section
variable {P:U_}{w:Vl}{W:Addr->Prop}{H H':Hp}
theorem xf {a:Addr}{ts:List (List Int)}(k:∀b xs,H b=some (.tup xs)->H' b=some (.tup xs))(ha:∀o,H a=some o->H' a=some o)(h:D_ P w H a ts):D_ P w H' a ts :=
 let ⟨qT,e,r,z⟩:=h;⟨qT,ha _ e,λx hx=>k _ _ (r x hx),z⟩
mutual
theorem Own.keep (k:∀b xs,H b=some (.tup xs)->H' b=some (.tup xs)):∀{d:D} {v:V} {A:List Addr},(∀c∈A,∀o,H c=some o->H' c=some o)->Own P w H d v A->Own P w H' d v A
 |.tup ds,_,_,ha,⟨a,vs,e,t,r⟩=>⟨a,vs,e,k a vs t,aQ.keep k ha r⟩
 |.lst ds,_,_,ha,⟨a,vs,A',e,t,eA,r⟩=>⟨a,vs,A',e,ha a (by rw[eA];simp) _ t,eA,aQ.keep k (λc hc=>ha c (by rw[eA];simp[hc])) r⟩
 |.dT ks ds,_,_,ha,⟨a,vs,A',e,t,l,eA,r⟩=>⟨a,vs,A',e,ha a (by rw[eA];simp) _ t,l,eA,aQ.keep k (λc hc=>ha c (by rw[eA];simp[hc])) r⟩
 |.dK ks ds,_,_,ha,⟨a,vs,A',e,t,l,eA,r⟩=>⟨a,vs,A',e,ha a (by rw[eA];simp) _ t,l,eA,aQ.keep k (λc hc=>ha c (by rw[eA];simp[hc])) r⟩
 |.sT ts,_,_,ha,⟨a,e,r,eA⟩=>⟨a,e,xf k (λo ho=>ha a (by rw[eA];simp) o ho) r,eA⟩
 |.ob φ,_,_,ha,⟨a,e,r,eA⟩=>⟨a,e,⟨ha a (by rw[eA];simp) _ r.1,r.2⟩,eA⟩
 |.cO,_,_,_,h=>h
 |.bl _,_,_,_,h=>h
 |.int _,_,_,_,h=>h
 |.str _,_,_,_,h=>h
 |.obj _,_,_,_,h=>h
theorem aQ.keep (k:∀b xs,H b=some (.tup xs)->H' b=some (.tup xs)):∀{ds:List D} {vs:List V} {A:List Addr},(∀c∈A,∀o,H c=some o->H' c=some o)->aQ P w H ds vs A->aQ P w H' ds vs A
 |[],_,_,_,h=>h
 |d::ds,_,_,ha,⟨v,r,A1,A2,e,eA,h1,h2⟩=>⟨v,r,A1,A2,e,eA,Own.keep k (λc hc=>ha c (by rw[eA];simp[hc])) h1,aQ.keep k (λc hc=>ha c (by rw[eA];simp[hc])) h2⟩
end
mutual
theorem Own.rep:∀{d:D} {v:V} {A:List Addr},(∀c∈A,¬ W c)->Own P w H d v A->aA P w W H d v
 |.tup ds,_,_,ha,⟨a,vs,e,t,r⟩=>⟨a,vs,e,t,aQ.rep ha r⟩
 |.lst ds,_,_,ha,⟨a,vs,A',e,t,eA,r⟩=>⟨a,vs,e,t,ha a (by rw[eA];simp),aQ.rep (λc hc=>ha c (by rw[eA];simp[hc])) r⟩
 |.dT ks ds,_,_,ha,⟨a,vs,A',e,t,l,eA,r⟩=>⟨a,vs,e,t,l,ha a (by rw[eA];simp),aQ.rep (λc hc=>ha c (by rw[eA];simp[hc])) r⟩
 |.dK ks ds,_,_,ha,⟨a,vs,A',e,t,l,eA,r⟩=>⟨a,vs,e,t,l,ha a (by rw[eA];simp),aQ.rep (λc hc=>ha c (by rw[eA];simp[hc])) r⟩
 |.sT ts,_,_,ha,⟨a,e,r,eA⟩=>⟨a,e,r,ha a (by rw[eA];simp)⟩
 |.ob φ,_,_,ha,⟨a,e,r,eA⟩=>⟨a,e,r,ha a (by rw[eA];simp)⟩
 |.cO,_,_,_,h=>h.1
 |.bl _,_,_,_,h=>h.1
 |.int _,_,_,_,h=>h.1
 |.str _,_,_,_,h=>h.1
 |.obj _,_,_,_,h=>h.1
theorem aQ.rep:∀{ds:List D} {vs:List V} {A:List Addr},(∀c∈A,¬ W c)->aQ P w H ds vs A->ak P w W H ds vs
 |[],_,_,_,h=>h.1
 |d::ds,_,_,ha,⟨v,r,A1,A2,e,eA,h1,h2⟩=>⟨v,r,e,Own.rep (λc hc=>ha c (by rw[eA];simp[hc])) h1,aQ.rep (λc hc=>ha c (by rw[eA];simp[hc])) h2⟩
end
mutual
theorem Own.mR:∀{d:D} {v:V} {A:List Addr},Own P w H d v A->∀c∈A,H c≠none/\∀xs,H c≠some (.tup xs)
 |.tup ds,_,_,⟨a,vs,e,t,r⟩,c,hc=>aQ.mR r c hc
 |.lst ds,_,_,⟨a,vs,A',e,t,eA,r⟩,c,hc=>by
  rw[eA]at hc;rcases Va.mp hc with rfl|hc
  ·rw[t];exact⟨λz=>(nomatch z),λxs z=>by cases z⟩
  ·exact aQ.mR r c hc
 |.dT ks ds,_,_,⟨a,vs,A',e,t,l,eA,r⟩,c,hc=>by
  rw[eA]at hc;rcases Va.mp hc with rfl|hc
  ·rw[t];exact⟨λz=>(nomatch z),λxs z=>by cases z⟩
  ·exact aQ.mR r c hc
 |.dK ks ds,_,_,⟨a,vs,A',e,t,l,eA,r⟩,c,hc=>by
  rw[eA]at hc;rcases Va.mp hc with rfl|hc
  ·rw[t];exact⟨λz=>(nomatch z),λxs z=>by cases z⟩
  ·exact aQ.mR r c hc
 |.sT ts,_,_,⟨a,e,⟨qT,t,r,z⟩,eA⟩,c,hc=>by
  rw[eA]at hc;rw[Vn.mp hc,t];exact⟨λz=>(nomatch z),λxs z=>by cases z⟩
 |.ob φ,_,_,⟨a,e,⟨t,z⟩,eA⟩,c,hc=>by
  rw[eA]at hc;rw[Vn.mp hc,t];exact⟨λz=>(nomatch z),λxs q=>z xs (VX q)⟩
 |.cO,_,_,h,c,hc=>by rw[h.2]at hc;cases hc
 |.bl _,_,_,h,c,hc=>by rw[h.2]at hc;cases hc
 |.int _,_,_,h,c,hc=>by rw[h.2]at hc;cases hc
 |.str _,_,_,h,c,hc=>by rw[h.2]at hc;cases hc
 |.obj _,_,_,h,c,hc=>by rw[h.2]at hc;cases hc
theorem aQ.mR:∀{ds:List D} {vs:List V} {A:List Addr},aQ P w H ds vs A->∀c∈A,H c≠none/\∀xs,H c≠some (.tup xs)
 |[],_,_,h,c,hc=>by rw[h.2]at hc;cases hc
 |d::ds,_,_,⟨v,r,A1,A2,e,eA,h1,h2⟩,c,hc=>by
  rw[eA]at hc;rcases VC.mp hc with hc|hc
  ·exact Own.mR h1 c hc
  ·exact aQ.mR h2 c hc
end
mutual
theorem fu:∀{d:D} {v:V},d.flat=true->aA P w W H d v->Own P w H d v []
 |.tup ds,_,f,⟨a,vs,e,t,r⟩=>⟨a,vs,e,t,jH (by simpa[D.flat] using f) r⟩
 |.lst ds,_,f,_=>by simp[D.flat]at f
 |.dT ks ds,_,f,_=>by simp[D.flat]at f
 |.dK ks ds,_,f,_=>by simp[D.flat]at f
 |.sT ts,_,f,_=>by simp[D.flat]at f
 |.ob φ,_,f,_=>by simp[D.flat]at f
 |.cO,_,_,h=>⟨h,rfl⟩
 |.bl _,_,_,h=>⟨h,rfl⟩
 |.int _,_,_,h=>⟨h,rfl⟩
 |.str _,_,_,h=>⟨h,rfl⟩
 |.obj _,_,_,h=>⟨h,rfl⟩
theorem jH:∀{ds:List D} {vs:List V},D.cQ ds=true->ak P w W H ds vs->aQ P w H ds vs []
 |[],_,_,h=>⟨h,rfl⟩
 |d::ds,_,f,⟨v,r,e,h1,h2⟩=>by
  have f':(d.flat&&D.cQ ds)=true:=f;rw[VO]at f';exact⟨v,r,[],[],e,rfl,fu f'.1 h1,jH f'.2 h2⟩
end
theorem aQ.length:∀{ds:List D} {vs:List V} {A:List Addr},aQ P w H ds vs A->vs.length=ds.length
 |[],_,_,h=>by rw[h.1];rfl
 |d::ds,_,_,⟨v,r,A1,A2,e,eA,h1,h2⟩=>by rw[e,Vo,Vo,aQ.length h2]
theorem aQ.append:∀{ds ds':List D} {vs vs':List V} {A A':List Addr},aQ P w H ds vs A->aQ P w H ds' vs' A'->aQ P w H (ds++ds') (vs++vs') (A++A')
 |[],_,_,_,_,_,h,h'=>by rw[h.1,h.2];exact h'
 |d::ds,_,_,_,_,_,⟨v,r,A1,A2,e,eA,h1,h2⟩,h'=>by
  subst e eA;exact⟨v,_,A1,_,rfl,by rw[V5],h1,aQ.append h2 h'⟩
theorem aQ.one {d:D}{v:V}{A:List Addr}(h:Own P w H d v A):aQ P w H [d] [v] A:=⟨v,[],A,[],rfl,by simp,h,rfl,rfl⟩
theorem aQ.split:∀{ds:List D} {vs:List V} {A:List Addr} {i:Nat} {d:D},aQ P w H ds vs A->ds[i]?=some d->∃v A1 A2 A3,vs[i]?=some v/\A=A1++(A2++A3)/\aQ P w H (ds.take i) (vs.take i) A1/\Own P w H d v A2/\aQ P w H (ds.drop (i+1)) (vs.drop (i+1)) A3
 |[],_,_,_,_,_,e=>by simp at e
 |d::ds,_,_,0,_,⟨v,r,A1,A2,e,eA,h1,h2⟩,e'=>by
  simp at e';subst e' e eA;exact⟨v,[],A1,A2,by simp,by simp,⟨rfl,rfl⟩,h1,by simpa using h2⟩
 |d::ds,_,_,i+1,_,⟨v,r,A1,A2,e,eA,h1,h2⟩,e'=>by
  subst e eA;obtain⟨u,B1,B2,B3,g1,g2,g3,g4,g5⟩:=aQ.split (i:=i) h2 (by simpa using e')
  exact⟨u,A1++B1,B2,B3,by simpa using g1,by rw[g2];simp[V5],by simpa using ⟨v,_,A1,B1,rfl,rfl,h1,g3⟩,g4,by simpa using g5⟩
end
inductive Kd where
 |own|e8|old|bor
inductive B where
 |val (y:Bool) (d:D)|own (d:D)|hand (ok:List Int->Prop)|shl (y:Bool) (d:D)
abbrev a8:=List (Option B)
structure Cfg where
 H0:Hp
 IO:Addr->Prop
 /-- is the result to be JF own -/
 ro:Bool
 /-- what else Ol data keeps off -/
 U:Addr->Prop:=λ_=>False
abbrev Wn (own:Nat->List Addr):Addr->Prop:=λa=>∃i,a∈own i
def av (C:Cfg)(W:Addr->Prop):Kd->Addr->Prop
 |.own,a=>W a\/C.H0 a≠none
 |.e8,a=>W a\/C.H0 a≠none
 |.old,a=>W a
 |.bor,_=>False
def gb (C:Cfg)(W:Addr->Prop)(k:Kd)(a:Addr):Prop:=av C W k a\/C.U a
abbrev yk (y:Bool):Kd:=match y with|true=>.e8|false=>.old
def R1:D->HO->List V->Prop
 |.lst _,o,vs=>o=.lst vs
 |.dT ks _,o,vs=>o=.dT (ks.zip vs)/\ks.length=vs.length
 |.dK ks _,o,vs=>o=.dK (ks.zip vs)/\ks.length=vs.length
 |_,_,_=>False
def R4:D->List D
 |.lst ds=>ds
 |.dT _ ds=>ds
 |.dK _ ds=>ds
 |_=>[]
def IG (P:U_)(w:Vl)(W:Addr->Prop)(H:Hp)(d:D)(v:V)(A:List Addr):Prop:=∃a o vs,v=.ref a/\A=[a]/\H a=some o/\R1 d o vs/\ak P w W H (R4 d) vs
theorem IG.map {P:U_}{w:Vl}{W W':Addr->Prop}{H H':Hp}{d:D}{v:V}{A:List Addr}(h:IG P w W H d v A)(ha:∀c∈A,∀o,H c=some o->H' c=some o)(hr:∀ds vs,ak P w W H ds vs->ak P w W' H' ds vs):IG P w W' H' d v A :=
 let ⟨a,o,vs,e1,e2,e3,e4,r⟩:=h;⟨a,o,vs,e1,e2,ha a (by rw[e2];simp) o e3,e4,hr _ _ r⟩
theorem IG.rep {P:U_}{w:Vl}{W W':Addr->Prop}{H:Hp}{d:D}{v:V}{A:List Addr}(h:IG P w W H d v A)(ha:∀c∈A,¬ W' c)(hs:∀ds vs,ak P w W H ds vs->ak P w W' H ds vs):aA P w W' H d v:=by
 obtain⟨a,o,vs,rfl,rfl,e,sh,r⟩:=h;have na:=ha a (by simp)
 replace r:=hs _ _ r;cases d with
 |lst ds=>cases sh;exact⟨a,vs,rfl,e,na,r⟩
 |dT ks ds=>obtain⟨rfl,l⟩:=sh;exact⟨a,vs,rfl,e,l,na,r⟩
 |dK ks ds=>obtain⟨rfl,l⟩:=sh;exact⟨a,vs,rfl,e,l,na,r⟩
 |_=>exact sh.elim
structure cq (P:U_)(w:Vl)(C:Cfg)(σ:St)(H:Hp)(β:a8)(own:Nat->List Addr):Prop where
 len:β.length=σ.length
 val:∀(i:Nat) (y:Bool) (d:D),β[i]?=some (some (.val y d))->∃v,σ[i]?=some (some v)/\aA P w (gb C (Wn own) (yk y)) H d v
 ow:∀(i:Nat) (d:D),β[i]?=some (some (.own d))->∃v,σ[i]?=some (some v)/\Own P w H d v (own i)/\∀c∈own i,C.H0 c=none
 pZ:∀(i:Nat) (ok:List Int->Prop),β[i]?=some (some (.hand ok))->∃a ns,σ[i]?=some (some (.ref a))/\H a=some (.lst (ns.map V.int))/\ok ns/\own i=[a]/\((∀b,¬ C.IO b)\/C.IO a)
 dm:∀(i:Nat) (a:Addr),a∈own i->H a≠none/\(∀xs,H a≠some (.tup xs))/\(C.H0 a=none\/C.IO a)/\¬ C.U a
 mS:∀(i j:Nat) (a:Addr),a∈own i->a∈own j->i=j
 pS:∀i,(own i).Nodup
 kp:Kp C.IO C.H0 H
 hX:∀a,C.H0 a≠none->H a≠none
 shl:∀(i:Nat) (y:Bool) (d:D),β[i]?=some (some (.shl y d))->∃v,σ[i]?=some (some v)/\IG P w (gb C (Wn own) (yk y)) H d v (own i)/\∀c∈own i,C.H0 c=none
abbrev SQ (X:Cx):=cq X.prog X.w
section
variable {P:U_}{w:Vl}{C:Cfg}{σ:St}{H H':Hp}{β:a8}{own:Nat->List Addr}{W W':Addr->Prop}
theorem cq.uU (b:cq P w C σ H β own):Dm (Wn own) H:=λa ⟨i,h⟩=>(b.dm i a h).1
theorem cq.yD (b:cq P w C σ H β own)(k:Kd):Dm (av C (Wn own) k) H:=λa h=>by
 cases k with
 |own=>exact h.elim (b.uU a) (b.hX a)
 |e8=>exact h.elim (b.uU a) (b.hX a)
 |old=>exact b.uU a h
 |bor=>exact h.elim
theorem ju (s:∀a,W' a->W a)(k:Kd):∀a,av C W' k a->av C W k a:=λa h=>by
 cases k with
 |own=>exact h.imp (s a) id
 |e8=>exact h.imp (s a) id
 |old=>exact s a h
 |bor=>exact h
theorem jt (s:∀a,W' a->W a)(k:Kd):∀a,gb C W' k a->gb C W k a:=λa h=>h.imp (ju s k a) id
theorem cq.keep (b:cq P w C σ H β own)(k:Kp (λa=>H a=none) H H')(kp:Kp C.IO H H')(dn:∀a,H a≠none->H' a≠none):cq P w C σ H' β own:=by
 have ko:∀c o,H c=some o->H' c=some o:=λc o e=>k.out c o e (by rw[e];exact λz=>(nomatch z))
 have same:au H H':=ko;exact⟨b.len,λi y d e=>let ⟨v,h1,h2⟩:=b.val i y d e;⟨v,h1,h2.same same⟩,λi d e=>let ⟨v,h1,h2,h3⟩:=b.ow i d e;⟨v,h1,h2.keep (λ_ _ e=>same _ _ e) (λc _ o e=>same c o e),h3⟩,
  λi ok e=>let ⟨a,ns,h1,h2,h3⟩:=b.pZ i ok e;⟨a,ns,h1,same _ _ h2,h3⟩,λi a h=>by
   obtain⟨h1,h2,h3⟩:=b.dm i a h;cases q:H a with
   |none=>exact absurd q h1
   |some o=>rw[same a o q];exact⟨λz=>(nomatch z),λxs z=>h2 xs (by rw[q];exact z),h3⟩,b.mS,b.pS,b.kp.trans kp,λa z=>dn a (b.hX a z),λi y d e=>let ⟨v,h1,h2,h3⟩:=b.shl i y d e;⟨v,h1,h2.map (λc _ o e=>same c o e) (λ_ _ r=>r.same same),h3⟩⟩
theorem cq.same (b:cq P w C σ H β own)(s:au H H'):cq P w C σ H' β own:=b.keep s.kp s.kp λa z e=>z (s.free e)
theorem fG {own:Nat->List Addr}{i:Nat}{a:Addr}(h:Wn (a9 own i []) a):Wn own a:=let ⟨j,q⟩:=h;⟨j,(cy q).1⟩
theorem bN {own:Nat->List Addr}{i j:Nat}{A:List Addr}(h:i≠j):a9 own i A j=own j:=by unfold a9;rw[if_neg (Xn h)]
theorem os_eq {own:Nat->List Addr}{i:Nat}{A:List Addr}:a9 own i A i=A:=by unfold a9;rw[if_pos rfl]
theorem cq.d6 {i:Nat}{d:D}{v:V}{y:Bool}(b:cq P w C σ H β own)(r:aA P w (gb C (Wn own) (yk y)) H d v):cq P w C (σ.set i (some v)) H (β.set i (some (.val y d))) (a9 own i []):=by
 have sub:∀y a,gb C (Wn (a9 own i [])) (yk y) a->gb C (Wn own) (yk y) a:=λy=>jt (λa h=>fG h) _;refine⟨by simp[b.len],λj y' d' e=>?_,λj d' e=>?_,λj ok e=>?_,λj a h=>b.dm j a (cy h).1,λj k a h1 h2=>b.mS j k a (cy h1).1 (cy h2).1,λj=>?_,b.kp,b.hX,λj y' d' e=>?_⟩
 ·by_cases aV:i=j
  ·subst aV;obtain⟨e',hl⟩:=bB e;cases e';exact⟨v,get_set (by rw[<- b.len];exact hl),r.aS (sub _)⟩
  ·rw[bx aV]at e ⊢
   obtain⟨u,h1,h2⟩:=b.val j y' d' e;exact⟨u,h1,h2.aS (sub _)⟩
 ·by_cases aV:i=j
  ·subst aV;obtain⟨e',hl⟩:=bB e;cases e'
  ·rw[bx aV]at e ⊢
   rw[bN aV];exact b.ow j d' e
 ·by_cases aV:i=j
  ·subst aV;obtain⟨e',hl⟩:=bB e;cases e'
  ·rw[bx aV]at e ⊢
   rw[bN aV];exact b.pZ j ok e
 ·by_cases aV:i=j
  ·rw[aV,os_eq];exact Wc
  ·rw[bN aV];exact b.pS j
 ·by_cases aV:i=j
  ·subst aV;obtain⟨e',hl⟩:=bB e;cases e'
  ·rw[bx aV]at e ⊢
   rw[bN aV];obtain⟨u,h1,h2,h3⟩:=b.shl j y' d' e;exact⟨u,h1,h2.map (λ_ _ _ z=>z) (λ_ _ r=>ak.aS (sub _) r),h3⟩
theorem cq.y_ {i:Nat}{d:D}{v:V}{A:List Addr}(b:cq P w C σ H β own)(r:Own P w H d v A)(nd:A.Nodup)(nw:∀c∈A,C.H0 c=none/\¬ Wn own c/\C.U c):
  cq P w {C with U:=λ_=>False} (σ.set i (some v)) H (β.set i (some (.own d))) (a9 own i A):=by
 have sub:∀y a,gb {C with U:=λ_=>False} (Wn (a9 own i A)) (yk y) a->gb C (Wn own) (yk y) a:=λy a h=>by
  have q:∀a,Wn (a9 own i A) a->Wn own a\/a∈A:=λa Dv=>by
   obtain⟨j,q⟩:=Dv
   by_cases aV:i=j
   ·rw[aV,os_eq]at q;exact .inr q
   ·rw[bN aV]at q;exact .inl ⟨j,q⟩
  have q':∀a,Wn (a9 own i A) a->Wn own a\/C.U a:=λa z=>(q a z).imp id λz=>(nw a z).2.2;rcases h with h|h
  ·cases y with
   |true=>exact h.elim (λz=>(q' a z).imp .inl id) λz=>.inl (.inr z)
   |false=>exact q' a h
  ·exact h.elim
 have mem:∀{j c},c∈a9 own i A j->(i=j/\c∈A)\/(i≠j/\c∈own j):=λ{j c} h=>by
  by_cases aV:i=j
  ·subst aV;rw[os_eq]at h;exact .inl ⟨rfl,h⟩
  ·rw[bN aV]at h;exact .inr ⟨aV,h⟩
 refine⟨by simp[b.len],λj y' d' e=>?_,λj d' e=>?_,λj ok e=>?_,λj a h=>?_,λj k a h1 h2=>?_,λj=>?_,b.kp,b.hX,λj y' d' e=>?_⟩
 ·by_cases aV:i=j
  ·subst aV;obtain⟨e',hl⟩:=bB e;cases e'
  ·rw[bx aV]at e ⊢
   obtain⟨u,h1,h2⟩:=b.val j y' d' e;exact⟨u,h1,h2.aS (sub _)⟩
 ·by_cases aV:i=j
  ·subst aV;obtain⟨e',hl⟩:=bB e;cases e';rw[os_eq];exact⟨v,get_set (by rw[<- b.len];exact hl),r,λc hc=>(nw c hc).1⟩
  ·rw[bx aV]at e ⊢
   rw[bN aV];exact b.ow j d' e
 ·by_cases aV:i=j
  ·subst aV;obtain⟨e',hl⟩:=bB e;cases e'
  ·rw[bx aV]at e ⊢
   rw[bN aV];exact b.pZ j ok e
 ·rcases mem h with⟨_,h⟩|⟨_,h⟩
  ·exact⟨(r.mR a h).1,(r.mR a h).2,.inl (nw a h).1,λz=>z⟩
  ·exact⟨(b.dm j a h).1,(b.dm j a h).2.1,(b.dm j a h).2.2.1,λz=>z⟩
 ·rcases mem h1 with⟨e1,h1⟩|⟨n1,h1⟩
  ·rcases mem h2 with⟨e2,h2⟩|⟨n2,h2⟩
   ·rw[<- e1,<- e2]
   ·exact absurd ⟨k,h2⟩ (nw a h1).2.1
  ·rcases mem h2 with⟨e2,h2⟩|⟨n2,h2⟩
   ·exact absurd ⟨j,h1⟩ (nw a h2).2.1
   ·exact b.mS j k a h1 h2
 ·by_cases aV:i=j
  ·rw[<- aV,os_eq];exact nd
  ·rw[bN aV];exact b.pS j
 ·by_cases aV:i=j
  ·subst aV;obtain⟨e',hl⟩:=bB e;cases e'
  ·rw[bx aV]at e ⊢
   rw[bN aV];obtain⟨u,h1,h2,h3⟩:=b.shl j y' d' e;exact⟨u,h1,h2.map (λ_ _ _ z=>z) (λ_ _ r=>ak.aS (sub _) r),h3⟩
abbrev Cfg.u (C:Cfg)(U:Addr->Prop):Cfg:={C with U:=U}
theorem cq.vg {U:Addr->Prop}(b:cq P w C σ H β own)(hU:∀a,U a->H a=none):cq P w (C.u U) σ H β own :=
 ⟨b.len,λi y d e=>let ⟨v,h1,h2⟩:=b.val i y d e;⟨v,h1,aA.grow (λa z=>z.elim (λz=>.inl (.inl z)) λz=>.inr (hU a z)) h2⟩,b.ow,b.pZ,λi a h=>let ⟨h1,h2,h3,_⟩:=b.dm i a h;⟨h1,h2,h3,λz=>h1 (hU a z)⟩,b.mS,b.pS,b.kp,b.hX,λi y d e=>let ⟨v,h1,h2,h3⟩:=b.shl i y d e;⟨v,h1,h2.map (λ_ _ _ z=>z) (λ_ _ r=>ak.grow (λa z=>z.elim (λz=>.inl (.inl z)) λz=>.inr (hU a z)) r),h3⟩⟩
theorem cq.Sl {U:Addr->Prop}(b:cq P w (C.u U) σ H β own):cq P w (C.u λ_=>False) σ H β own :=
 ⟨b.len,λi y d e=>let ⟨v,h1,h2⟩:=b.val i y d e;⟨v,h1,aA.aS (λa z=>z.elim .inl λz=>z.elim) h2⟩,b.ow,b.pZ,λi a h=>let ⟨h1,h2,h3,_⟩:=b.dm i a h;⟨h1,h2,h3,λz=>z⟩,b.mS,b.pS,b.kp,b.hX,λi y d e=>let ⟨v,h1,h2,h3⟩:=b.shl i y d e;⟨v,h1,h2.map (λ_ _ _ z=>z) (λ_ _ r=>ak.aS (λa z=>z.elim .inl λz=>z.elim) r),h3⟩⟩
theorem cq.IQ {i:Nat}{y:Bool}{d:D}(b:cq P w C σ H β own)(e:β[i]?=some (some (.val y d))):∃v,σ[i]?=some (some v)/\aA P w (av C (Wn own) (yk y)) H d v:=let ⟨v,h1,h2⟩:=b.val i y d e;⟨v,h1,aA.aS (λa z=>.inl z) h2⟩
end
def KV (P:U_)(w:Vl)(C:Cfg)(Z:Hp×(Addr->Prop))(own:Nat->List Addr)(H:Hp):Kd->D->V->Prop
 |.own,d,v=>∃A,Own P w H d v A/\A.Nodup/\∀c∈A,Z.1 c=none/\¬ Wn own c/\C.H0 c=none
 |.e8,d,v=>aA P w (av C (Wn own) .e8) H d v
 |.old,d,v=>aA P w (av C (Wn own) .old) H d v
 |.bor,d,v=>aA P w (av C (Wn own) .bor) H d v
structure Qj (P:U_)(w:Vl)(C:Cfg)(σ:St)(H:Hp)(own:Nat->List Addr)(p:Bool)(β':a8)(H':Hp)(aN:Nat->List Addr):Prop where
 sq:cq P w C σ H' β' aN
 sn:Sn (H,Wn own) H' (Wn aN)
 pu:p=true->au H H'/\aN=own
 le:∀a,Wn aN a->Wn own a
abbrev Out (X:Cx):=Qj X.prog X.w
section
variable {X:Cx}{C:Cfg}{σ:St}{H H1 H2 H':Hp}{own aB bf:Nat->List Addr}{p p':Bool}{β β1 β2 β':a8}{Z:Hp×(Addr->Prop)}{d:D}{v:V}{k:Kd}{P:U_}{w:Vl}
theorem Out.refl (s:SQ X C σ H β own)(p:Bool):Out X C σ H own p β H own:=⟨s,Sn.refl,λ_=>⟨au.refl _,rfl⟩,λ_ z=>z⟩
theorem Out.trans (a:Out X C σ H own p β1 H1 aB)(b:Out X C σ H1 aB p' β2 H2 bf):Out X C σ H own (p&&p') β2 H2 bf:=⟨b.sq,a.sn.trans b.sn,λh=>by
 rw[VO]at h;obtain⟨s1,e1⟩:=a.pu h.1;obtain⟨s2,e2⟩:=b.pu h.2;exact⟨s1.trans s2,e2.trans e1⟩,λc z=>a.le c (b.le c z)⟩
theorem Out.same (a:Out X C σ H own p β1 H1 aB)(s:au H1 H2):Out X C σ H own p β1 H2 aB:=⟨a.sq.same s,a.sn.same s,λh=>let ⟨s1,e1⟩:=a.pu h;⟨s1.trans s,e1⟩,a.le⟩
theorem Out.wk (a:Out X C σ H own p β1 H1 aB)(h:p'=true->p=true):Out X C σ H own p' β1 H1 aB:=⟨a.sq,a.sn,λz=>a.pu (h z),a.le⟩
theorem KV.rep (h:KV P w C Z own H k d v):aA P w (av C (Wn own) k) H d v:=by
 cases k with
 |own=>obtain⟨A,h1,h2,h3⟩:=h;exact h1.rep λc hc z=>z.elim (h3 c hc).2.1 λz=>z (h3 c hc).2.2
 |_=>exact h
theorem KV.e8 (h:KV P w C Z own H .own d v):KV P w C Z own H .e8 d v:=KV.rep (k:=.own) h
theorem KV.flat {W:Addr->Prop}(f:d.flat=true)(h:aA P w W H d v):KV P w C Z own H .own d v:=⟨[],fu f h,Wc,λc hc=>(nomatch hc)⟩
abbrev Kd.wk:Kd->Kd
 |.own=>.e8
 |.e8=>.e8
 |.old=>.old
 |.bor=>.bor
abbrev Kd.max:Kd->Kd->Kd
 |.bor,_=>.bor
 |_,.bor=>.bor
 |.old,_=>.old
 |_,.old=>.old
 |_,_=>.e8
theorem cS {W:Addr->Prop}{a b:Kd}:∀c,av C W (a.max b) c->av C W a c:=λc h=>by
 cases a <;> cases b <;> first|exact h|exact h.elim|exact .inl h
theorem eZ {W:Addr->Prop}{a b:Kd}:∀c,av C W (a.max b) c->av C W b c:=λc h=>by
 cases a <;> cases b <;> first|exact h|exact h.elim|exact .inl h
theorem KV.of (h:aA P w (av C (Wn own) k.wk) H d v):KV P w C Z own H k.wk d v:=by
 cases k <;> exact h
theorem KV.Jj (h:KV P w C Z own H k d v)(s:au H H'):KV P w C Z own H' k d v:=by
 cases k with
 |own=>obtain⟨A,h1,h2⟩:=h;exact⟨A,h1.keep (λb xs e=>s _ _ e) (λc _ o e=>s c o e),h2⟩
 |e8=>exact aA.same s h
 |old=>exact aA.same s h
 |bor=>exact aA.same s h
theorem KV.held (hk:k≠.bor)(h:KV P w C Z own H k d v)(n:Sn (H,Wn own) H2 (Wn bf)):KV P w C Z bf H2 k d v:=by
 cases k with
 |own =>
  obtain⟨A,h1,h2,h3⟩:=h;refine⟨A,h1.keep n.k.tup (λc hc o e=>n.k.out c o e λz=>z.elim (h3 c hc).2.1 λz=>(h1.mR c hc).1 z),h2,λc hc=>⟨(h3 c hc).1,λz=>(n.w c z).elim (h3 c hc).2.1 λz=>(h1.mR c hc).1 z,(h3 c hc).2.2⟩⟩
 |e8 =>
  have g:aA P w (λa=>av C (Wn own) .e8 a\/H a=none) H d v:=aA.grow (λb z=>z) h;exact aA.aS (λb z=>z.elim (λz=>(n.w b z).imp .inl id) λz=>.inl (.inr z)) (aA.keep (n.k.mono λb z=>z.imp .inl id) g)
 |old=>exact held (W:=Wn own) h n
 |bor=>exact absurd rfl hk
theorem KV.LH (h:KV P w C Z own H k d v)(s:au H H2)(e:bf=own):KV P w C Z bf H2 k d v:=by rw[e];exact h.Jj s
abbrev hold (k:Kd)(p:Bool):Prop:=match k,p with
 |.bor,false=>False
 |_,_=>True
theorem KV.ho (h:KV P w C Z own H k d v)(o:Out X C σ H own p β' H2 bf)(hh:hold k p):KV P w C Z bf H2 k d v:=by
 cases p with
 |true=>obtain⟨s,e⟩:=o.pu rfl;exact h.LH s e
 |false=>exact h.held (by rintro rfl;exact hh) o.sn
theorem KV.later (h:KV P w C (H1,Wn aB) own H k d v)(n:Sn Z H1 (Wn aB)):KV P w C Z own H k d v:=by
 cases k with
 |own=>obtain⟨A,h1,h2,h3⟩:=h;exact⟨A,h1,h2,λc hc=>⟨n.free (h3 c hc).1,(h3 c hc).2⟩⟩
 |_=>exact h
end
abbrev aZ:=a8->(D->Kd->a8->Prop)->Prop
abbrev a_:=a8->(Bool->a8->Prop)->Prop
abbrev bO:=a8->(List D->List Kd->a8->Prop)->Prop
def tQ (X:Cx)(C:Cfg)(p:Bool)(φ:aZ):TE:=λσ H Q=>∃β own,SQ X C σ H β own/\φ β λd k β'=>∀v H' aN,Out X C σ H own p β' H' aN->KV X.prog X.w C (H,Wn own) aN H' k d v->Q v H'
def jw (X:Cx)(C:Cfg)(p:Bool)(φ:a_):TT:=λσ H Q=>∃β own,SQ X C σ H β own/\φ β λb β'=>∀H' aN,Out X C σ H own p β' H' aN->Q b H'
def KF (P:U_)(w:Vl)(C:Cfg)(own:Nat->List Addr)(H:Hp):List Kd->List D->List V->List Addr->Prop
 |[],ds,vs,A=>ds=[]/\vs=[]/\A=[]
 |k::ks,ds,vs,A=>∃d dr v vr A1 A2,ds=d::dr/\vs=v::vr/\A=A1++A2/\(match k with | .own=>Own P w H d v A1|k=>A1=[]/\aA P w (av C (Wn own) k) H d v)/\KF P w C own H ks dr vr A2
def tO (P:U_)(w:Vl)(C:Cfg)(Z:Hp×(Addr->Prop))(own:Nat->List Addr)(H:Hp)(ks:List Kd)(ds:List D)(vs:List V):Prop :=
 ∃A,KF P w C own H ks ds vs A/\A.Nodup/\∀c∈A,Z.1 c=none/\¬ Wn own c/\C.H0 c=none
def qA (X:Cx)(C:Cfg)(p:Bool)(φ:bO):TA:=λσ H Q=>∃β own,SQ X C σ H β own/\φ β λds ks β'=>∀vs H' aN,Out X C σ H own p β' H' aN->tO X.prog X.w C (H,Wn own) aN H' ks ds vs->Q vs H'
section
variable {C:Cfg}{H H1:Hp}{own aB:Nat->List Addr}{Z:Hp×(Addr->Prop)}{d:D}{v:V}{k:Kd}{P:U_}{w:Vl}{ks:List Kd}{ds:List D}{vs:List V}
theorem tO.nil:tO P w C Z own H [] [] []:=⟨[],⟨rfl,rfl,rfl⟩,Wc,λc hc=>(nomatch hc)⟩
theorem KF.mR:∀{ks:List Kd} {ds:List D} {vs:List V} {A:List Addr},KF P w C own H ks ds vs A->∀c∈A,H c≠none
 |[],_,_,_,⟨_,_,e⟩,c,hc=>by rw[e]at hc;cases hc
 |k::ks,_,_,_,⟨d,dr,v,vr,A1,A2,rfl,rfl,rfl,h1,h2⟩,c,hc=>by
  rcases VC.mp hc with hc|hc
  ·cases k with
   |own=>exact(Own.mR h1 c hc).1
   |_=>rw[h1.1]at hc;cases hc
  ·exact KF.mR h2 c hc
theorem tO.cons (h1:KV P w C Z aB H1 k d v)(n:Sn (H1,Wn aB) H (Wn own))(xY:KV P w C Z own H k d v)(h2:tO P w C (H1,Wn aB) own H ks ds vs)(n0:Sn Z H1 (Wn aB)):tO P w C Z own H (k::ks) (d::ds) (v::vs):=by
 obtain⟨A2,f2,Gy,q2⟩:=h2;have z2:∀c∈A2,Z.1 c=none/\¬ Wn own c/\C.H0 c=none:=λc hc=>⟨n0.free (q2 c hc).1,(q2 c hc).2⟩;cases k with
 |own =>
  obtain⟨A1,o1,Iq,q1⟩:=h1;obtain⟨U4,UA,Sr,QE⟩:=(show KV P w C Z own H .own d v from KV.held (k:=.own) (λz=>(nomatch z)) (⟨A1,o1,Iq,q1⟩:KV P w C Z aB H1 .own d v) n)
  have Og:Own P w H d v A1:=o1.keep n.k.tup (λc hc o e=>n.k.out c o e λz=>z.elim (q1 c hc).2.1 λz=>(o1.mR c hc).1 z);refine⟨A1++A2,⟨d,ds,v,vs,A1,A2,rfl,rfl,rfl,Og,f2⟩,V8.mpr ⟨Iq,Gy,λa ha b hb e=>?_⟩,λc hc=>?_⟩
  ·subst e;exact(o1.mR a ha).1 (q2 a hb).1
  ·rcases VC.mp hc with hc|hc
   ·exact⟨(q1 c hc).1,λz=>(n.w c z).elim (q1 c hc).2.1 λz=>(o1.mR c hc).1 z,(q1 c hc).2.2⟩
   ·exact z2 c hc
 |e8=>exact⟨A2,⟨d,ds,v,vs,[],A2,rfl,rfl,rfl,⟨rfl,xY⟩,f2⟩,Gy,z2⟩
 |old=>exact⟨A2,⟨d,ds,v,vs,[],A2,rfl,rfl,rfl,⟨rfl,xY⟩,f2⟩,Gy,z2⟩
 |bor=>exact⟨A2,⟨d,ds,v,vs,[],A2,rfl,rfl,rfl,⟨rfl,xY⟩,f2⟩,Gy,z2⟩
abbrev fe:List Kd->Kd
 |[]=>.e8
 |k::ks=>Kd.max k (fe ks)
theorem KF.iy:∀{ks:List Kd} {ds:List D} {vs:List V} {A:List Addr},KF P w C own H ks ds vs A->(∀c∈A,¬ Wn own c/\C.H0 c=none)->ak P w (av C (Wn own) (fe ks)) H ds vs
 |[],_,_,_,⟨e1,e2,e⟩,_=>by rw[e1,e2];rfl
 |k::ks,_,_,_,⟨d,dr,v,vr,A1,A2,rfl,rfl,rfl,h1,h2⟩,hA=>by
  refine⟨v,vr,rfl,?_,ak.aS eZ (KF.iy h2 λc hc=>hA c (VM _ hc))⟩;cases k with
  |own=>exact aA.aS cS (Own.rep (W:=av C (Wn own) .own) (λc hc z=>z.elim (hA c (WG _ hc)).1 λz=>z (hA c (WG _ hc)).2) h1)
  |e8=>exact aA.aS (cS (a:=.e8)) h1.2
  |old=>exact aA.aS (cS (a:=.old)) h1.2
  |bor=>exact aA.aS (cS (a:=.bor)) h1.2
theorem tO.iy (h:tO P w C Z own H ks ds vs):ak P w (av C (Wn own) (fe ks)) H ds vs:=let ⟨A,h1,_,h3⟩:=h;h1.iy λc hc=>(h3 c hc).2
theorem tO.bor (h:tO P w C Z own H ks ds vs):ak P w (λ_=>False) H ds vs:=ak.aS (λ_ z=>z.elim) h.iy
def wR:List Kd->List D->Prop
 |k::ks,d::ds=>(match k with | .own=>True|_=>d.flat=true)/\wR ks ds
 |_,_=>True
theorem KF.F9:∀{ks:List Kd} {ds:List D} {vs:List V} {A:List Addr},KF P w C own H ks ds vs A->wR ks ds->aQ P w H ds vs A
 |[],_,_,_,⟨e1,e2,e⟩,_=>by rw[e1,e2,e];exact⟨rfl,rfl⟩
 |k::ks,_,_,_,⟨d,dr,v,vr,A1,A2,rfl,rfl,rfl,h1,h2⟩,⟨f1,f2⟩=>by
  refine⟨v,vr,A1,A2,rfl,rfl,?_,KF.F9 h2 f2⟩;cases k with
  |own=>exact h1
  |e8=>rw[h1.1];exact fu f1 h1.2
  |old=>rw[h1.1];exact fu f1 h1.2
  |bor=>rw[h1.1];exact fu f1 h1.2
theorem dN:∀{ks:List Kd},(fe ks).wk=fe ks
 |[]=>rfl
 |k::ks=>by cases k <;> cases h:fe ks <;> simp[fe,Kd.max,h]
def Ay (ks:List Kd)(ds:List D)(K:Kd->Prop):Prop:=match ks.all (λk=>match k with | .own=>true|_=>false)with
 |true=>K .own
 |false=>(wR ks ds/\K .own)\/K (fe ks)
theorem Ay.mono {ks:List Kd}{ds:List D}{K K':Kd->Prop}(k:∀x,K x->K' x)(h:Ay ks ds K):Ay ks ds K':=by
 unfold Ay at *
 split
 ·next e=>rw[e]at h;exact k _ h
 ·next e=>rw[e]at h;exact h.imp (λz=>⟨z.1,k _ z.2⟩) (k _)
theorem Ay.of {ks:List Kd}{ds:List D}{K:Kd->Prop}(h:Ay ks ds K):(wR ks ds/\K .own)\/K (fe ks):=by
 unfold Ay at h
 split at h
 ·next e =>
  refine .inl ⟨?_,h⟩
  clear h
  induction ks generalizing ds with
  |nil=>cases ds <;> trivial
  |cons k ks ih =>
   cases ds with
   |nil=>trivial
   |cons d ds =>
    rw[List.all_cons,VO]at e;refine⟨?_,ih e.2⟩;have e1:=e.1;cases k <;> first|trivial|cases e1
 ·exact h
end
structure PQ (X:Cx)(C:Cfg)(p:Bool)(e:Expr)(φ:aZ):Prop where
 mono:∀β R R',(∀d k β,R d k β->R' d k β)->φ β R->φ β R'
 pe:PE X e (tQ X C p φ)
structure tL (X:Cx)(C:Cfg)(p:Bool)(e:Expr)(φ:a_):Prop where
 mono:∀β R R',(∀d β,R d β->R' d β)->φ β R->φ β R'
 pt:PT X e (jw X C p φ)
structure mL (X:Cx)(C:Cfg)(p:Bool)(e:Expr)(φ:a_):Prop where
 mono:∀β R R',(∀d β,R d β->R' d β)->φ β R->φ β R'
 pw:PW X e (jw X C p φ)
structure oZ (X:Cx)(C:Cfg)(p:Bool)(es:List Expr)(φ:bO):Prop where
 mono:∀β R R',(∀d k β,R d k β->R' d k β)->φ β R->φ β R'
 pa:PA X es (qA X C p φ)
section
variable {X:Cx}{C:Cfg}{a b c e:Expr}{es:List Expr}{φ φa φb:aZ}{τ τa τb:a_}{φs:bO}{pos:Pos}{σ:St}{H H':Hp}{β:a8}{own:Nat->List Addr}{p p':Bool}
theorem tQ.of (h:PQ X C p e φ)(s:SQ X C σ H β own){R:D->Kd->a8->Prop}{Q:VK}(hr:φ β R)(k:∀d kd β' v H' aN,R d kd β'->Out X C σ H own p β' H' aN->KV X.prog X.w C (H,Wn own) aN H' kd d v->Q v H'):tQ X C p φ σ H Q :=
 ⟨β,own,s,h.mono β _ _ (λd kd β' hd v H' aN o r=>k d kd β' v H' aN hd o r) hr⟩
theorem jw.of (h:tL X C p e τ)(s:SQ X C σ H β own){R:Bool->a8->Prop}{Q:Bool->Hp->Prop}(hr:τ β R)(k:∀t β' H' aN,R t β'->Out X C σ H own p β' H' aN->Q t H'):jw X C p τ σ H Q :=
 ⟨β,own,s,h.mono β _ _ (λt β' hd H' aN o=>k t β' H' aN hd o) hr⟩
theorem qA.of (h:oZ X C p es φs)(s:SQ X C σ H β own){R:List D->List Kd->a8->Prop}{Q:List V->Hp->Prop}(hr:φs β R)(k:∀ds ks β' vs H' aN,R ds ks β'->Out X C σ H own p β' H' aN->tO X.prog X.w C (H,Wn own) aN H' ks ds vs->Q vs H'):qA X C p φs σ H Q :=
 ⟨β,own,s,h.mono β _ _ (λd kd β' hd v H' aN o r=>k d kd β' v H' aN hd o r) hr⟩
theorem mL.t (h:mL X C p e τ):tL X C p e τ:=⟨h.mono,h.pw.pt⟩
abbrev vk (y:Bool):D->Kd
 |.int _=>.own
 |.bl _=>.own
 |.cO=>.own
 |.str _=>.own
 |_=>yk y
def qB:B->(D->Kd->Prop)->Prop
 |.val y d,K=>K d (vk y d)
 |.own d,K=>K d .bor
 |.hand _,_=>False
 |.shl _ _,_=>False
def zj (i:Nat):aZ:=λβ R=>∃b,β[i]?=some (some b)/\qB b λd k=>R d k β
theorem GK {P:U_}{w:Vl}{Z:Hp×(Addr->Prop)}{y:Bool}{d:D}{v:V}(h:aA P w (av C (Wn own) (yk y)) H d v):KV P w C Z own H (vk y d) d v:=by
 cases d with
 |int i=>exact KV.flat rfl h
 |bl i=>exact KV.flat rfl h
 |cO=>exact KV.flat rfl h
 |str i=>exact KV.flat rfl h
 |_=>cases y <;> exact h
theorem ae {i:Nat}{x:Str}(hN:X.N[i]?=some x:=by rfl)(hv:wQ X.env.scope x:=by first|exact .inl rfl|exact .inr (.inl rfl)|exact .inr (.inr rfl))(hd:(x==("__debug__" : Str))=false:=by decide)(ic:(x==("__classdict__" : Str))=false:=by decide):
  PQ X C true (.Name x pos) (zj i):=⟨λβ R R' k Dv=>by obtain⟨b,e,h⟩:=Dv;exact⟨b,e,by cases b <;> first|exact k _ _ _ h|exact h⟩,(fb hN hv hd ic).pre λσ H Q AL=>by
 obtain⟨β,own,s,b,e,q⟩:=AL;cases b with
 |val y d=>obtain⟨v,h1,h2⟩:=s.IQ e;exact⟨v,h1,q v H own (Out.refl s _) (GK h2)⟩
 |own d=>obtain⟨v,h1,h2,h3⟩:=s.ow i d e;exact⟨v,h1,q v H own (Out.refl s _) (h2.rep λ_ _ z=>z)⟩
 |hand ok=>exact q.elim
 |shl _ _=>exact q.elim⟩
def qC (d:D):aZ:=λβ R=>R d .own β
theorem ah {i j}:PQ X C true (.Constant (.int i) j pos) (qC (.int i)):=⟨λρ R R' k h=>k _ _ _ h,a3.pre λσ H Q G8=>by obtain⟨β,own,s,q⟩:=G8;exact q _ H own (Out.refl s _) (KV.flat (W:=λ_=>False) rfl rfl)⟩
theorem ft {b j}:PQ X C true (.Constant (.bool b) j pos) (qC (.bl b)):=⟨λρ R R' k h=>k _ _ _ h,zO.pre λσ H Q OL=>by obtain⟨β,own,s,q⟩:=OL;exact q _ H own (Out.refl s _) (KV.flat (W:=λ_=>False) rfl rfl)⟩
theorem dk {j}:PQ X C true (.Constant .none j pos) (qC .cO):=⟨λρ R R' k h=>k _ _ _ h,F4.pre λσ H Q Du=>by obtain⟨β,own,s,q⟩:=Du;exact q _ H own (Out.refl s _) (KV.flat (W:=λ_=>False) rfl rfl)⟩
theorem cw {x j}:PQ X C true (.Constant (.str x) j pos) (qC (.str x)):=⟨λρ R R' k h=>k _ _ _ h,F1.pre λσ H Q Dt=>by obtain⟨β,own,s,q⟩:=Dt;exact q _ H own (Out.refl s _) (KV.flat (W:=λ_=>False) rfl rfl)⟩
def zi (X:Cx)(f:D->D->Option D)(N:D->Prop):R2:=λx y H Q=>∃W d1 d2 d,Dm W H/\Rp X W H d1 x/\Rp X W H d2 y/\f d1 d2=some d/\∀v H',au H H'->Rp X W H' d v->(N d->Rp X (λa=>H a≠none) H' d v)->Q v H'
abbrev Ng (X:Cx)(f:U5->U5->Sem U5)(g:D->D->Option D)(N:D->Prop):Prop:=h8 X f (zi X g N)
theorem bw.m {f:U5->U5->Sem U5}{g:D->D->Option D}(h:bw X f g):Ng X f g NF:=λpins s σ H x y v u Q I rx ry ⟨W,d1,d2,d,hd,r1,r2,e,q⟩ =>
 h pins s σ H x y v u Q I rx ry ⟨W,d1,d2,d,hd,r1,r2,e,λv H' s r=>q v H' s r λf=>aA.flat f r⟩
def kN (N:D->Prop)(d:D)(k:Kd)(K:Kd->Prop):Prop:=match d with
 |.int _=>K .own
 |.bl _=>K .own
 |.cO=>K .own
 |.str _=>K .own
 |.tup _=>K k
 |_=>(N d/\K .own)\/K k
theorem kN.mono {N:D->Prop}{d:D}{k:Kd}{K K':Kd->Prop}(h:∀x,K x->K' x)(q:kN N d k K):kN N d k K':=by
 cases d <;> first|exact h _ q|exact q.imp (λz=>⟨z.1,h _ z.2⟩) (h _)
theorem gY {P:U_}{w:Vl}{Z:Hp×(Addr->Prop)}{d:D}{v:V}(hd:Dm (Wn own) H)(h0:∀a,C.H0 a≠none->H a≠none)(hz:∀a,Z.1 a≠none->H a≠none)(f:NL d)(r:aA P w (λa=>H a≠none) H' d v):KV P w C Z own H' .own d v:=by
 have nn:∀{a:Addr},¬ (H a≠none)->H a=none:=λ{a} h=>VT λz=>h z;have cl:∀{a:Addr},H a=none->Z.1 a=none/\¬ Wn own a/\C.H0 a=none:=λ{a} h=>⟨VT λz=>hz a z h,λz=>hd a z h,VT λz=>h0 a z h⟩;cases d with
 |lst ds =>
  obtain⟨a,vs,rfl,e,n,q⟩:=r;exact⟨[a],⟨a,vs,[],rfl,e,rfl,jH f q⟩,by simp,λc hc=>by rw[Vn.mp hc];exact cl (nn n)⟩
 |_=>exact KV.flat f r
theorem KV.kN {N:D->Prop}{P:U_}{w:Vl}{Z:Hp×(Addr->Prop)}{d:D}{v:V}{k:Kd}{K:Kd->Prop}(hk:k.wk=k)(r:aA P w (av C (Wn own) k) H' d v)(ro:N d->KV P w C Z own H' .own d v)(q:kN N d k K):∃k',K k'/\KV P w C Z own H' k' d v:=by
 have rk:KV P w C Z own H' k d v:=by rw[<- hk];exact KV.of (by rw[hk];exact r)
 cases d with
 |int i=>exact⟨_,q,KV.flat rfl r⟩
 |bl i=>exact⟨_,q,KV.flat rfl r⟩
 |cO=>exact⟨_,q,KV.flat rfl r⟩
 |str i=>exact⟨_,q,KV.flat rfl r⟩
 |tup ds=>exact⟨_,q,rk⟩
 |_=>exact q.elim (λz=>⟨_,z.2,ro z.1⟩) λz=>⟨_,z,rk⟩
structure B8 (N:D->Prop):Prop where
 nl:∀d,N d->NL d
theorem aE:B8 NL:=⟨λ_ h=>h⟩
theorem ag:B8 NF:=⟨λd h=>by cases d <;> first|exact h|cases h⟩
theorem Ag {a b:Kd}:(a.max b).wk=a.max b:=by cases a <;> cases b <;> rfl
def yz (g:D->D->Option D)(N:D->Prop)(pb:Bool)(φa φb:aZ):aZ:=λβ R=>φa β λx ka β1=>hold ka pb/\φb β1 λy kb β2=>∃d,g x y=some d/\kN N d (ka.max kb) λk=>R d k β2
variable {g:D->D->Option D}{N:D->Prop}
theorem yz.mono (ha:PQ X C p a φa)(hb:PQ X C p' b φb):∀β R R',(∀d k β,R d k β->R' d k β)->yz g N p' φa φb β R->yz g N p' φa φb β R':=λβ R R' k h =>
 ha.mono β _ _ (λx ka β1 hx=>⟨hx.1,hb.mono β1 _ _ (λy kb β2 AQ=>by obtain⟨d,e,q⟩:=AQ;exact⟨d,e,q.mono λ_ z=>k _ _ _ z⟩) hx.2⟩) h
theorem ud (hn:B8 N)(ha:PQ X C p a φa)(hb:PQ X C p' b φb):∀σ H Q,tQ X C (p&&p') (yz g N p' φa φb) σ H Q->I_ (zi X g N) (tQ X C p φa) (tQ X C p' φb) σ H Q:=λσ H Q ⟨β,own,s,h⟩ =>
 tQ.of ha s h λd1 k1 β1 v1 H1 aB ⟨hh,h1⟩ o1 r1=>tQ.of hb o1.sq h1 λd2 k2 β2 v2 H2 bf AO o2 r2=>by
  obtain⟨d,e,q⟩:=AO;have Io:=r1.ho o2 hh;refine⟨av C (Wn bf) (k1.max k2),d1,d2,d,o2.sq.yD _,aA.aS cS Io.rep,aA.aS eZ r2.rep,e,λv H' s3 r3 n3=>?_⟩;have o:=(o1.trans o2).same s3;obtain⟨k,q,r⟩:=KV.kN (Z:=(H,Wn own)) Ag r3 (λn=>gY (H:=H2) o2.sq.uU o2.sq.hX (λa z=>o2.sn.d a (o1.sn.d a z)) (hn.nl _ n) (n3 n)) q;exact q v H' bf o r
theorem aG {op:Zs}(hn:B8 N)(ho:Ng X (WR op) g N)(ha:PQ X C p a φa)(hb:PQ X C p' b φb):PQ X C (p&&p') (.BinOp a op b pos) (yz g N p' φa φb):=⟨yz.mono ha hb,(b9 ho ha.pe hb.pe).pre (ud hn ha hb)⟩
theorem pJ {op:XS}(hn:B8 N)(ho:Ng X (VN op) g N)(ha:PQ X C p a φa)(hb:PQ X C p' b φb)(hm:W8 op b=false:=by first|exact rO _ (by decide) (by decide)|rfl):PQ X C (p&&p') (.Compare a [op] [b] pos) (yz g N p' φa φb) :=
 ⟨yz.mono ha hb,(CN ho ha.pe hb.pe hm).pre (ud hn ha hb)⟩
theorem aL (hn:B8 N)(ho:Ie X (zi X g N))(ha:PQ X C p a φa)(hb:PQ X C p' b φb)(hs:qu b:=by exact λ_ _=>rfl):PQ X C (p&&p') (.Subscript a b pos) (yz g N p' φa φb):=⟨yz.mono ha hb,(ia ho ha.pe hb.pe hs).pre (ud hn ha hb)⟩
def zk (φ:aZ):a_:=λβ R=>φ β λd k β'=>∃b,d=.bl b/\R b β'
theorem aH {op:XS}(hn:B8 N)(ho:Ng X (VN op) g N)(ha:PQ X C p a φa)(hb:PQ X C p' b φb)(hm:W8 op b=false:=by first|exact rO _ (by decide) (by decide)|rfl):tL X C (p&&p') (.Compare a [op] [b] pos) (zk (yz g N p' φa φb)) :=
 ⟨λβ R R' k h=>yz.mono ha hb β _ _ (λd kd β AM=>by obtain⟨t,e,q⟩:=AM;exact⟨t,e,k _ _ q⟩) h,(pF ho ha.pe hb.pe hm).pre λσ H Q ⟨β,own,s,h⟩ =>
  tQ.of ha s h λd1 k1 β1 v1 H1 aB ⟨hh,h1⟩ o1 r1=>tQ.of hb o1.sq h1 λd2 k2 β2 v2 H2 bf Hj o2 r2=>by
   obtain⟨d,e,q⟩:=Hj;have Io:=r1.ho o2 hh;refine⟨av C (Wn bf) (k1.max k2),d1,d2,d,o2.sq.yD _,aA.aS cS Io.rep,aA.aS eZ r2.rep,e,λv H' s3 r3 n3=>?_⟩;obtain⟨k,⟨t,et,q'⟩,r⟩:=KV.kN (Z:=(H,Wn own)) Ag r3 (λn=>gY (H:=H2) o2.sq.uU o2.sq.hX (λa z=>o2.sn.d a (o1.sn.d a z)) (hn.nl _ n) (n3 n)) q;subst et;cases r3;exact⟨t,rfl,q' H' bf ((o1.trans o2).same s3)⟩⟩
theorem eV (ha:PQ X C p a φa)(he:∀whole,Y9 a X.env whole=(do let v <- whole;YI a.pos;holding [v] (truthy v)):=by intro _;rfl):tL X C p a (zk φa) :=
 ⟨λβ R R' k h=>ha.mono β _ _ (λd kd β' Hi=>by obtain⟨b,e,q⟩:=Hi;exact⟨b,e,k _ _ q⟩) h,(FO ha.pe he).pre λσ H Q ⟨β,own,s,h⟩=>tQ.of ha s h λd k β' v H1 aB Hg o1 r1=>by
  obtain⟨b,e,q⟩:=Hg;subst e;cases r1.rep;exact⟨b,rfl,q H1 aB o1⟩⟩
def Jt (τ:a_):a_:=λβ R=>τ β λb β'=>R (!b) β'
theorem fM (ha:tL X C p a τ):tL X C p (.UnaryOp .Not a pos) (Jt τ) :=
 ⟨λβ R R' k h=>ha.mono β _ _ (λb β' q=>k _ _ q) h,(FP ha.pt).pre λσ H Q Hf=>by obtain⟨β,own,s,h⟩:=Hf;exact jw.of ha s h λb β' H1 aB q o=>q H1 aB o⟩
variable {rest:List Expr}
def Jx (τa τb:a_):a_:=λβ R=>τa β λt β1=>if t=true then τb β1 R else R false β1
def Ob (τa τb:a_):a_:=λβ R=>τa β λt β1=>if t=true then R true β1 else τb β1 R
theorem cM (ha:tL X C p a τ):mL X C p (.BoolOp .And [a] pos) τ:=⟨ha.mono,pw_and1 ha.pt⟩
theorem gW (ha:tL X C p a τ):mL X C p (.BoolOp .Or [a] pos) τ:=⟨ha.mono,pw_or1 ha.pt⟩
theorem BL {p q:Bool}(z:(p&&q)=true):p=true:=by cases p <;> first|rfl|cases z
theorem Ml {p q:Bool}(z:(p&&q)=true):q=true:=by cases p <;> first|exact z|cases z
theorem dJ (ha:tL X C p a τa)(hb:mL X C p' (.BoolOp .And (b::rest) pos) τb):mL X C (p&&p') (.BoolOp .And (a::b::rest) pos) (Jx τa τb) :=
 ⟨λβ R R' k h=>ha.mono β _ _ (λt β1 q=>by
   cases t
   ·exact k _ _ q
   ·exact hb.mono β1 _ _ k q) h,(pw_and ha.pt hb.pw).pre λσ H Q ⟨β,own,s,h⟩=>jw.of ha s h λt β1 H1 aB q o1=>by
  cases t
  ·exact q H1 aB (o1.wk BL)
  ·exact jw.of hb.t o1.sq q λt' β2 H2 bf q2 o2=>q2 H2 bf (o1.trans o2)⟩
theorem fL (ha:tL X C p a τa)(hb:mL X C p' (.BoolOp .Or (b::rest) pos) τb):mL X C (p&&p') (.BoolOp .Or (a::b::rest) pos) (Ob τa τb) :=
 ⟨λβ R R' k h=>ha.mono β _ _ (λt β1 q=>by
   cases t
   ·exact hb.mono β1 _ _ k q
   ·exact k _ _ q) h,(pw_or ha.pt hb.pw).pre λσ H Q ⟨β,own,s,h⟩=>jw.of ha s h λt β1 H1 aB q o1=>by
  cases t
  ·exact jw.of hb.t o1.sq q λt' β2 H2 bf q2 o2=>q2 H2 bf (o1.trans o2)
  ·exact q H1 aB (o1.wk BL)⟩
def Sf (φa φb:aZ):aZ:=λβ R=>φa β λx _ β1=>∃c,x=.bl c/\if c=true then R (.bl true) .own β1 else φb β1 R
theorem uq {op}(h:PQ X C p a φ):PQ X C p (.BoolOp op [a] pos) φ:=⟨h.mono,F3 h.pe⟩
theorem v7 {P:U_}{w:Vl}{Z:Hp×(Addr->Prop)}{b:Bool}:KV P w C Z own H .own (.bl b) (.bl b):=KV.flat (W:=λ_=>False) rfl rfl
theorem zF (ha:PQ X C p a φa)(hb:PQ X C p' (.BoolOp .Or (b::rest) pos) φb):PQ X C (p&&p') (.BoolOp .Or (a::b::rest) pos) (Sf φa φb) :=
 ⟨λβ R R' k h=>ha.mono β _ _ (λd kd β1 ⟨c,e,q⟩=>⟨c,e,by
   cases c
   ·exact hb.mono β1 _ _ k q
   ·exact k _ _ _ q⟩) h,(JC ha.pe hb.pe).pre λσ H Q ⟨β,own,s,h⟩=>tQ.of ha s h λd kd β1 v H1 aB AK o1 r1=>by
  obtain⟨c,e,q⟩:=AK;subst e;cases r1.rep;refine⟨c,rfl,?_⟩;cases c
  ·exact tQ.of hb o1.sq q λd2 k2 β2 v2 H2 bf q2 o2 r2=>q2 v2 H2 bf (o1.trans o2) (r2.later o1.sn)
  ·exact q _ H1 aB (o1.wk BL) v7⟩
def Sd (g:D->Option D)(φa:aZ):aZ:=λβ R=>φa β λx _ β1=>∃d,g x=some d/\d.flat=true/\R d .own β1
theorem rF {op:UnaryOp}{g:D->Option D}(ho:Mm X (unaryOp op) (QC X g))(ha:PQ X C p a φa):PQ X C p (.UnaryOp op a pos) (Sd g φa) :=
 ⟨λβ R R' k h=>ha.mono β _ _ (λx _ β1 OT=>by obtain⟨d,e,f,q⟩:=OT;exact⟨d,e,f,k _ _ _ q⟩) h,(En ho ha.pe).pre λσ H Q ⟨β,own,s,h⟩ =>
  tQ.of ha s h λd1 k1 β1 v1 H1 aB OS o1 r1=>by obtain⟨d,e,f,q⟩:=OS;exact⟨_,d1,d,o1.sq.yD _,r1.rep,e,λv H' s2 r2=>q v H' aB (o1.same s2) (KV.flat f r2)⟩⟩
def Oc:bO:=λβ R=>R [] [] β
def Jw (pr:Bool)(φ:aZ)(φs:bO):bO:=λβ R=>φ β λd k β1=>hold k pr/\φs β1 λds ks β2=>R (d::ds) (k::ks) β2
theorem af:oZ X C true [] Oc:=⟨λβ R R' k h=>k _ _ _ h,cZ.pre λσ H Q OR=>by obtain⟨β,own,s,q⟩:=OR;exact q [] H own (Out.refl s _) tO.nil⟩
theorem aa (ha:PQ X C p a φ)(hr:oZ X C p' es φs)(hs:Vd (a::es) X.env=(false,eval a X.env)::Vd es X.env:=by rfl):oZ X C (p&&p') (a::es) (Jw p' φ φs) :=
 ⟨λβ R R' k h=>ha.mono β _ _ (λd kd β1 q=>⟨q.1,hr.mono β1 _ _ (λds ks β2 q2=>k _ _ _ q2) q.2⟩) h,(ba ha.pe hr.pa hs).pre λσ H Q ⟨β,own,s,h⟩ =>
  tQ.of ha s h λd1 k1 β1 v1 H1 aB Ha o1 r1=>by obtain⟨hh,h1⟩:=Ha;exact qA.of hr o1.sq h1 λds ks β2 vs H2 bf q o2 r2=>q (v1::vs) H2 bf (o1.trans o2) (tO.cons r1 o2.sn (r1.ho o2 hh) r2 o1.sn)⟩
def N8 (φs:bO):aZ:=λβ R=>φs β λds ks β1=>ds.length<=Vh/\Ay ks ds λk=>R (.tup ds) k β1
def Oe (φs:bO):aZ:=λβ R=>φs β λds ks β1=>ds.length<=Vh/\Ay ks ds λk=>R (.lst ds) k β1
theorem aQ.same {P:U_}{w:Vl}{ds:List D}{vs:List V}{A:List Addr}(s:au H H')(h:aQ P w H ds vs A):aQ P w H' ds vs A:=h.keep (λb xs e=>s _ _ e) λc _ o e=>s c o e
theorem GL {P:U_}{w:Vl}{Z:Hp×(Addr->Prop)}{ks:List Kd}{ds:List D}{vs:List V}{K:Kd->Prop}{q:Addr}(hq:H q=none)(h:tO P w C Z own H ks ds vs)(m:Ay ks ds K):∃k,K k/\KV P w C Z own (upd H q (.tup vs)) k (.tup ds) (.ref q):=by
 rcases m.of with⟨f,k⟩|k
 ·obtain⟨A,h1,h2,h3⟩:=h;exact⟨_,k,A,⟨q,vs,rfl,az,(h1.F9 f).same (au.new hq)⟩,h2,h3⟩
 ·refine⟨_,k,?_⟩;rw[<- dN];exact KV.of (by rw[dN];exact⟨q,vs,rfl,az,h.iy.same (au.new hq)⟩)
theorem GN {P:U_}{w:Vl}{Z:Hp×(Addr->Prop)}{ks:List Kd}{ds:List D}{vs:List V}{K:Kd->Prop}{q:Addr}(hq:H q=none)(hd:Dm (Wn own) H)(h0:∀a,C.H0 a≠none->H a≠none)(hz:∀a,Z.1 a≠none->H a≠none)(h:tO P w C Z own H ks ds vs)(m:Ay ks ds K):∃k,K k/\KV P w C Z own (upd H q (.lst vs)) k (.lst ds) (.ref q):=by
 rcases m.of with⟨f,k⟩|k
 ·obtain⟨A,h1,h2,h3⟩:=h;refine⟨_,k,q::A,⟨q,vs,A,rfl,az,rfl,(h1.F9 f).same (au.new hq)⟩,VL.mpr ⟨λz=>h1.mR q z hq,h2⟩,λc hc=>?_⟩;rcases Va.mp hc with rfl|hc
  ·exact⟨VT λz=>hz c z hq,λz=>hd c z hq,VT λz=>h0 c z hq⟩
  ·exact h3 c hc
 ·refine⟨_,k,?_⟩;have nq:¬ av C (Wn own) (fe ks) q:=λz=>by
   cases e:fe ks <;> rw[e]at z <;> first|exact z.elim (λz=>hd q z hq) λz=>h0 q z hq|exact hd q z hq|exact z
  rw[<- dN];exact KV.of (by rw[dN];exact⟨q,vs,rfl,az,nq,h.iy.same (au.new hq)⟩)
theorem tO.length {P:U_}{w:Vl}{Z:Hp×(Addr->Prop)}{ks:List Kd}{ds:List D}{vs:List V}(h:tO P w C Z own H ks ds vs):vs.length=ds.length:=h.iy.length
theorem bh {x1}(h:oZ X C p es φs):PQ X C p (.Tuple es x1 pos) (N8 φs) :=
 ⟨λβ R R' k q=>h.mono β _ _ (λds ks β1 G_=>by obtain⟨l,q⟩:=G_;exact⟨l,q.mono λ_ z=>k _ _ _ z⟩) q,(zK h.pa).pre λσ H Q ⟨β,own,s,q⟩=>qA.of h s q λds ks β1 vs H1 aB ⟨l,q1⟩ o1 r1 =>
  ⟨by rw[r1.length];exact l,λq hq=>let ⟨k,q1,r⟩:=GL hq r1 q1;q1 _ _ aB (o1.same (au.new hq)) r⟩⟩
theorem aO (h:oZ X C p es φs):PQ X C p (.List es pos) (Oe φs) :=
 ⟨λβ R R' k q=>h.mono β _ _ (λds ks β1 OP=>by obtain⟨l,q⟩:=OP;exact⟨l,q.mono λ_ z=>k _ _ _ z⟩) q,(ur h.pa).pre λσ H Q ⟨β,own,s,q⟩=>qA.of h s q λds ks β1 vs H1 aB ⟨l,q1⟩ o1 r1 =>
  ⟨by rw[r1.length];exact l,λq hq=>let ⟨k,q1,r⟩:=GN hq o1.sq.uU o1.sq.hX (λa z=>o1.sn.d a z) r1 q1;q1 _ _ aB (o1.same (au.new hq)) r⟩⟩
end
section
variable {X:Cx}{C:Cfg}{a b c e:Expr}{es:List Expr}{φ φa φb:aZ}{φs:bO}{pos:Pos}{σ:St}{H H':Hp}{β:a8}{own:Nat->List Addr}{p:Bool}{g:D->D->Option D}{N:D->Prop}
abbrev oY:=D->Kd->aZ
structure Mu (X:Cx)(C:Cfg)(ops:List XS)(es:List Expr)(φ:oY):Prop where
 mono:∀x k β R R',(∀d k β,R d k β->R' d k β)->φ x k β R->φ x k β R'
 ch:E6 X ops es λx σ H Q=>∃β own d k,SQ X C σ H β own/\Rp X (av C (Wn own) k) H d x/\φ d k β λd' k' β'=>∀v H',au H H'->SQ X C σ H' β' own->KV X.prog X.w C (H,Wn own) own H' k' d' v->Q v H'
 Rq:tN X ops es λx σ H Q=>∃β own d k,SQ X C σ H β own/\Rp X (av C (Wn own) k) H d x/\φ d k β λd' k' β'=>∃b,d'=.bl b/\∀H',au H H'->SQ X C σ H' β' own->Q b H'
def FL (g:D->D->Option D)(φb:aZ):oY:=λx _ β R=>φb β λy _ β1=>∃b,g x y=some (.bl b)/\R (.bl b) .own β1
def zq (g:D->D->Option D)(φb:aZ)(φr:oY):oY:=λx _ β R=>φb β λy ky β1=>∃k,g x y=some (.bl k)/\if k=true then φr y ky β1 R else R (.bl false) .own β1
variable {op Ge:XS}{ops:List XS}{rs:List Expr}{φr:oY}
theorem i4 (ho:bw X (VN op) g)(hb:PQ X C true b φb):Mu X C [op] [b] (FL g φb) :=
 ⟨λx k β R R' h q=>hb.mono β _ _ (λy _ β1 Dw=>by obtain⟨d,e,q⟩:=Dw;exact⟨d,e,h _ _ _ q⟩) q,
  (HS ho hb.pe).pre λx σ H Q ⟨β,own,d,k,s,r,h⟩=>tQ.of hb s h λd2 k2 β2 v2 H2 bf AL o2 r2=>by
    obtain⟨d',e,q⟩:=AL;obtain⟨s2,rfl⟩:=o2.pu rfl;exact⟨av C (Wn bf) (k.max k2),d,d2,.bl d',o2.sq.yD _,aA.aS cS (r.same s2),aA.aS eZ r2.rep,e,λv H' s3 r3=>q v H' (s2.trans s3) (o2.sq.same s3) (KV.flat rfl r3)⟩,
  (DU ho hb.pe).pre λx σ H Q ⟨β,own,d,k,s,r,h⟩=>tQ.of hb s h λd2 k2 β2 v2 H2 bf G9 o2 r2=>by
    obtain⟨d',e,b,eb,q⟩:=G9;obtain⟨s2,rfl⟩:=o2.pu rfl;cases eb;exact⟨av C (Wn bf) (k.max k2),d,d2,.bl d',o2.sq.yD _,aA.aS cS (r.same s2),aA.aS eZ r2.rep,e,λv H' s3 r3=>by
      cases r3;exact⟨_,rfl,q H' (s2.trans s3) (o2.sq.same s3)⟩⟩⟩
theorem cN (ho:bw X (VN op) g)(hb:PQ X C true b φb)(hc:Mu X C (Ge::ops) (c::rs) φr):Mu X C (op::Ge::ops) (b::c::rs) (zq g φb φr) :=
 ⟨λx k β R R' h q=>hb.mono β _ _ (λy ky β1 ⟨d,e,q⟩=>⟨d,e,by
   cases d
   ·exact h _ _ _ q
   ·exact hc.mono y ky β1 _ _ h q⟩) q,
  (DV ho hb.pe hc.ch).pre λx σ H Q ⟨β,own,d,k,s,r,h⟩=>tQ.of hb s h λd2 k2 β2 v2 H2 bf Du o2 r2=>by
    obtain⟨t,e,q⟩:=Du;obtain⟨s2,rfl⟩:=o2.pu rfl;refine⟨av C (Wn bf) (k.max k2),d,d2,.bl t,o2.sq.yD _,aA.aS cS (r.same s2),aA.aS eZ r2.rep,e,λv H' s3 r3=>?_⟩;cases r3;refine⟨t,rfl,?_⟩;cases t
    · exact q _ H' (s2.trans s3) (o2.sq.same s3) v7
    · exact⟨β2,bf,d2,k2,o2.sq.same s3,r2.rep.same s3,hc.mono d2 k2 β2 _ _ (λd' k' β' q' v yw s4 sq r4=>q' v yw ((s2.trans s3).trans s4) sq (r4.later ((o2.same s3).sn))) q⟩,
  (Bv ho hb.pe hc.Rq).pre λx σ H Q ⟨β,own,d,k,s,r,h⟩=>tQ.of hb s h λd2 k2 β2 v2 H2 bf uL o2 r2=>by
    obtain⟨t,e,q⟩:=uL;obtain⟨s2,rfl⟩:=o2.pu rfl;refine⟨av C (Wn bf) (k.max k2),d,d2,.bl t,o2.sq.yD _,aA.aS cS (r.same s2),aA.aS eZ r2.rep,e,λv H' s3 r3=>?_⟩;cases r3;refine⟨t,rfl,?_⟩;cases t
    · obtain⟨b,eb,q⟩:=q;cases eb;exact q H' (s2.trans s3) (o2.sq.same s3)
    · exact⟨β2,bf,d2,k2,o2.sq.same s3,r2.rep.same s3,hc.mono d2 k2 β2 _ _ (λd' k' β' AQ=>by obtain⟨b,eb,q'⟩:=AQ;exact⟨b,eb,λyw s4 sq=>q' yw ((s2.trans s3).trans s4) sq⟩) q⟩⟩
def pE (φa:aZ)(φr:oY):aZ:=λβ R=>φa β λx k β1=>φr x k β1 R
theorem i5 {eh eg:XS}(ha:PQ X C true a φa)(hc:Mu X C (eh::eg::ops) (b::c::rs) φr)(hm:lastMarks (eh::eg::ops) (b::c::rs)=false:=by with_unfolding_all rfl):
  PQ X C true (.Compare a (eh::eg::ops) (b::c::rs) pos) (pE φa φr) :=
 ⟨λβ R R' k h=>ha.mono β _ _ (λx kx β1 q=>hc.mono x kx β1 _ _ k q) h,(xw ha.pe hc.ch hm).pre λσ H Q ⟨β,own,s,h⟩=>tQ.of ha s h λd k β1 v H1 aB q o1 r1=>by
  obtain⟨s1,rfl⟩:=o1.pu rfl;exact⟨β1,aB,d,k,o1.sq,r1.rep,hc.mono d k β1 _ _ (λd' k' β' q' v yw s4 sq r4=>q' v yw aB ⟨sq,o1.sn.same s4,λ_=>⟨s1.trans s4,rfl⟩,o1.le⟩ (r4.later o1.sn)) q⟩⟩
theorem xp {eh eg:XS}(ha:PQ X C true a φa)(hc:Mu X C (eh::eg::ops) (b::c::rs) φr)(hm:lastMarks (eh::eg::ops) (b::c::rs)=false:=by with_unfolding_all rfl):
  tL X C true (.Compare a (eh::eg::ops) (b::c::rs) pos) (zk (pE φa φr)) :=
 ⟨λβ R R' k h=>ha.mono β _ _ (λx kx β1 q=>hc.mono x kx β1 _ _ (λd kd β' Hm=>by obtain⟨b,e,q⟩:=Hm;exact⟨b,e,k _ _ q⟩) q) h,(xo ha.pe hc.Rq hm).pre λσ H Q ⟨β,own,s,h⟩=>tQ.of ha s h λd k β1 v H1 aB q o1 r1=>by
  obtain⟨s1,rfl⟩:=o1.pu rfl;exact⟨β1,aB,d,k,o1.sq,r1.rep,hc.mono d k β1 _ _ (λd' k' β' AM=>by obtain⟨b,e,q'⟩:=AM;exact⟨b,e,λyw s4 sq=>q' yw aB ⟨sq,o1.sn.same s4,λ_=>⟨s1.trans s4,rfl⟩,o1.le⟩⟩) q⟩⟩
abbrev BS:=a8->(Option Int->a8->Prop)->Prop
structure Nc (X:Cx)(C:Cfg)(e:Option Expr)(φ:BS):Prop where
 mono:∀β R R',(∀d β,R d β->R' d β)->φ β R->φ β R'
 po:PO X e λσ H Q=>∃β own,SQ X C σ H β own/\φ β λo β'=>∀H',au H H'->SQ X C σ H' β' own->Q o H'
theorem fo:Nc X C none (λβ R=>R none β):=⟨λβ R R' k h=>k _ _ h,vJ.pre λσ H Q Hl=>by obtain⟨β,own,s,q⟩:=Hl;exact q H (au.refl _) s⟩
theorem fm (ha:PQ X C true a φ):Nc X C (some a) (λβ R=>φ β λd _ β1=>∃i,d=.int i/\R (some i) β1) :=
 ⟨λβ R R' k h=>ha.mono β _ _ (λd _ β1 Hk=>by obtain⟨i,e,q⟩:=Hk;exact⟨i,e,k _ _ q⟩) h,(vI ha.pe).pre λσ H Q ⟨β,own,s,h⟩=>tQ.of ha s h λd k β1 v H1 aB Hi o1 r1=>by
  obtain⟨i,e,q⟩:=Hi;subst e;cases r1.rep;obtain⟨s1,rfl⟩:=o1.pu rfl;exact⟨i,rfl,q H1 s1 o1.sq⟩⟩
def Se (φ:aZ)(φl φh:BS):aZ:=λβ R=>φ β λx k β1=>φl β1 λl β2=>φh β2 λh β3=>∃d,LZ x l h=some d/\kN NL d k.wk λk'=>R d k' β3
theorem Ed {k:Kd}:k.wk.wk=k.wk:=by cases k <;> rfl
theorem BK {W:Addr->Prop}{k:Kd}:∀c,av C W k.wk c->av C W k c:=λc h=>by cases k <;> exact h
theorem nQ {lo hi:Option Expr}{φl φh:BS}{p2:Pos}(ha:PQ X C p a φ)(hl:Nc X C lo φl)(hh:Nc X C hi φh):PQ X C p (.Subscript a (.Slice lo hi none p2) pos) (Se φ φl φh) :=
 ⟨λβ R R' k h=>ha.mono β _ _ (λx kx β1 q=>hl.mono β1 _ _ (λl β2 q=>hh.mono β2 _ _ (λu β3 Hh=>by obtain⟨d,e,q⟩:=Hh;exact⟨d,e,q.mono λ_ z=>k _ _ _ z⟩) q) q) h,
  (rG Cp ha.pe hl.po hh.po).pre λσ H Q ⟨β,own,s,h⟩=>tQ.of ha s h λd k β1 v H1 aB q o1 r1 =>
    ⟨β1,aB,o1.sq,hl.mono β1 _ _ (λl β2 q H2 s2 NX=>⟨β2,aB,NX,hh.mono β2 _ _ (λu β3 Hf H3 s3 MH=>by
      obtain⟨d',e,q⟩:=Hf;refine⟨av C (Wn aB) k.wk,d,d',MH.yD _,((aA.aS BK r1.rep).same s2).same s3,e,λv H' s4 r4 n4=>?_⟩;obtain⟨k',q,r⟩:=KV.kN (Z:=(H,Wn own)) Ed r4 (λn=>gY (H:=H3) MH.uU MH.hX (λa z e=>o1.sn.d a z (s2.free (s3.free e))) n (n4 n)) q;exact q v H' aB ⟨MH.same s4,o1.sn.same ((s2.trans s3).trans s4),λz=>⟨(o1.pu z).1.trans ((s2.trans s3).trans s4),(o1.pu z).2⟩,o1.le⟩ r) q⟩) q⟩⟩
def Jq (X:Cx)(f:List D->Option D)(N:D->Prop):List V->Hp->VK->Prop:=λxs H Q=>∃W ds d,Dm W H/\kq X W H ds xs/\f ds=some d/\∀v H',au H H'->Rp X W H' d v->(N d->Rp X (λa=>H a≠none) H' d v)->Q v H'
abbrev BW (X:Cx)(f:U5)(g:List D->Option D)(N:D->Prop):Prop:=fF X f (Jq X g N)
theorem cY.m {f:U5}{g:List D->Option D}(h:cY X f g):BW X f g NF:=λpins s σ H xs us Q I r ⟨W,ds,d,hd,r1,e,q⟩ =>
 h pins s σ H xs us Q I r ⟨W,ds,d,hd,r1,e,λv H' s r=>q v H' s r λf=>aA.flat f r⟩
def j6 (g:List D->Option D)(N:D->Prop)(φs:bO):aZ:=λβ R=>φs β λds ks β1=>∃d,g ds=some d/\kN N d (fe ks) λk=>R d k β1
variable {x:Str}{pp:Pos}{id T:String}{gs:List D->Option D}
theorem j6.mono (h:oZ X C p es φs):∀β R R',(∀d k β,R d k β->R' d k β)->j6 gs N φs β R->j6 gs N φs β R':=λβ R R' k q=>h.mono β _ _ (λds ks β1 OZ=>by obtain⟨d,e,q⟩:=OZ;exact⟨d,e,q.mono λ_ z=>k _ _ _ z⟩) q
theorem rB (hn:B8 N)(h:oZ X C p es φs):∀σ H Q,tQ X C p (j6 gs N φs) σ H Q->NR (Jq X gs N) (qA X C p φs) σ H Q:=λσ H Q ⟨β,own,s,q⟩=>qA.of h s q λds ks β1 vs H1 aB OX o1 r1=>by
 obtain⟨d,e,q1⟩:=OX;refine⟨av C (Wn aB) (fe ks),ds,d,o1.sq.yD _,r1.iy,e,λv H' s2 r2 n2=>?_⟩;obtain⟨k',q,r⟩:=KV.kN (Z:=(H,Wn own)) dN r2 (λn=>gY (H:=H1) o1.sq.uU o1.sq.hX (λa z=>o1.sn.d a z) (hn.nl _ n) (n2 n)) q1;exact q v H' aB (o1.same s2) r
theorem bS (Dz:B8 N)(hc:BW X (.builtin id) gs N)(hm:X.mg x=none)(hv:V3 x=some (.builtin id))(ha:oZ X C p (e::es) φs)(hg:Gl X x:=by rfl)(hn:x≠"__name__" := by decide)(hdb:(x==("__debug__" : Str))=false:=by decide)
  (gk:Vd (e::es) X.env=(false,eval e X.env)::Vd es X.env:=by rfl) (hpl:(Wt pos (Vd es X.env)).any (·.1)=false:=by rfl) :
  PQ X C p (.Call (.Name x pp) (e::es) [] pos) (j6 gs N φs):=⟨j6.mono ha,(gD hc hg hm hv ha.pa hn hdb (he:=gk) (hpl:=hpl)).pre (rB Dz ha)⟩
theorem fq (Dz:B8 N)(hc:BW X (.type T) gs N)(hm:X.mg x=none)(hv:V3 x=some (.type T))(ha:oZ X C p (e::es) φs)(hg:Gl X x:=by rfl)(hn:x≠"__name__" := by decide)(hdb:(x==("__debug__" : Str))=false:=by decide)
  (gk:Vd (e::es) X.env=(false,eval e X.env)::Vd es X.env:=by rfl) (hpl:(Wt pos (Vd es X.env)).any (·.1)=false:=by rfl) :
  PQ X C p (.Call (.Name x pp) (e::es) [] pos) (j6 gs N φs):=⟨j6.mono ha,(xx hc hg hm hv ha.pa hn hdb (he:=gk) (hpl:=hpl)).pre (rB Dz ha)⟩
end
def nD (P:U_)(w:Vl)(ro:Bool)(H H':Hp)(d:D)(v:V):Prop:=match ro with
 |true=>∃A,Own P w H' d v A/\A.Nodup/\∀c∈A,H c=none
 |false=>aA P w (λa=>H a≠none) H' d v
abbrev rk (ro:Bool):Kd:=match ro with|true=>.own|false=>.e8
def cB (P:U_)(w:Vl)(ro:Bool)(F:FD):Sp:=λvs H Q _=>∃ds,ak P w (λ_=>False) H ds vs/\F ds λd=>∀v H',au H H'->nD P w ro H H' d v->Q v H'
def jB (P:U_)(w:Vl)(ok:List Int->Prop)(ro:Bool)(F:FD):Sp:=λvs H Q _=>∃h vs' ds ns,vs=.ref h::vs'/\H h=some (.lst (ns.map V.int))/\ok ns/\ak P w (λa=>a=h) H ds vs' /\
 F ds λd=>∀v H' g_,Kp (·=h) H H'->(∀c,H c≠none->H' c≠none)->H' h=some (.lst (g_.map V.int))->ok g_->nD P w ro H H' d v->Q v H'
section
variable {X:Cx}{C:Cfg}{k ih:Nat}{f:Addr}{fd:VE}{ps:List Str}{F:FD}{ro p:Bool}{x hx:Str}{pp pos px:Pos}{e:Expr}{es:List Expr}{φs:bO}{ok:List Int->Prop}{σ:St}{H H':Hp}{β:a8}{own:Nat->List Addr}{P:U_}{w:Vl}
theorem nD.kv {Z:Hp×(Addr->Prop)}{d:D}{v:V}(hd:Dm (Wn own) H)(h0:∀a,C.H0 a≠none->H a≠none)(hz:∀a,Z.1 a≠none->H a≠none)(h:nD P w ro H H' d v):KV P w C Z own H' (rk ro) d v:=by
 cases ro with
 |true =>
  obtain⟨A,h1,h2,h3⟩:=h;exact⟨A,h1,h2,λc hc=>⟨VT λz=>hz c z (h3 c hc),λz=>hd c z (h3 c hc),VT λz=>h0 c z (h3 c hc)⟩⟩
 |false=>exact aA.aS (λa z=>z.elim (hd a) (h0 a)) h
def Oa (ro:Bool)(F:FD)(φs:bO):aZ:=λβ R=>φs β λds _ β1=>F ds λd=>R d (rk ro) β1
theorem aF (mF:cH F)(G:aD X.prog X.w X.K X.mg X.base bz k f fd ps (cB X.prog X.w ro F))(hr:cf k X.A)(hm:X.mg x=some (.ref f))(hk:PySem.W.keepIn X.K (.ref f)=true)(hb:Binds X.K fd ps [])(ha:oZ X C p (e::es) φs)(hg:Gl X x:=by rfl)
  (hdb:(x==("__debug__" : Str))=false:=by decide)
  (gk:Vd (e::es) X.env=(false,eval e X.env)::Vd es X.env:=by rfl) (hpl:(Wt pos (Vd es X.env)).any (·.1)=false:=by rfl) :
  PQ X C p (.Call (.Name x pp) (e::es) [] pos) (Oa ro F φs) :=
 ⟨λβ R R' k h=>ha.mono β _ _ (λds ks β1 q=>mF ds _ _ (λd q=>k _ _ _ q) q) h,(i6 G hr hg hm hk hb .nil vN ha.pa (hdb:=hdb) (he:=gk) (hpl:=hpl)).pre λσ H Q ⟨β,own,s,h⟩=>qA.of ha s h λds ks β1 vs H1 aB q o1 r1=>by
  rw[Ws];exact⟨ds,r1.bor,mF ds _ _ (λd q2 v H' s2 r2=>q2 v H' aB (o1.same s2) (r2.kv o1.sq.uU o1.sq.hX λa z=>o1.sn.d a z)) q⟩⟩
theorem cq.drawn {i:Nat}{h:Addr}{g_:List Int}(b:cq P w C σ H β own)(e:β[i]?=some (some (.hand ok)))(hσ:σ[i]?=some (some (.ref h)))(k:Kp (·=h) H H')(e':H' h=some (.lst (g_.map V.int)))(o':ok g_)(dn:∀c,H c≠none->H' c≠none):cq P w C σ H' β own:=by
 obtain⟨a,ns,h1,h2,h3,h4,h5⟩:=b.pZ i ok e;rw[hσ]at h1;cases h1;have wh:Wn own h:=⟨i,by rw[h4];simp⟩
 have kW:∀y,Kp (gb C (Wn own) (yk y)) H H':=λy=>k.mono λc z=>by rw[z];cases y <;> first|exact .inl wh|exact .inl (.inl wh)
 have ne:∀j,j≠i->∀c∈own j,c≠h:=λj hj c hc z=>hj (b.mS j i c hc (by rw[h4,z];simp))
 refine⟨b.len,λj y d e=>let ⟨v,g1,g2⟩:=b.val j y d e;⟨v,g1,g2.keep (kW y)⟩,λj d ej=>?_,λj vU ej=>?_,λj c hc=>?_,b.mS,b.pS,⟨λc o z n=>?_,λc xs z=>k.tup c xs (b.kp.tup c xs z)⟩,λc z=>dn c (b.hX c z),λj y d ej=>by
  obtain⟨v,g1,g2,g3⟩:=b.shl j y d ej;have hj:j≠i:=λz=>by rw[z,e]at ej;cases ej
  exact⟨v,g1,g2.map (λc hc o eo=>k.out c o eo (ne j hj c hc)) (λ_ _ r=>r.keep (kW y)),g3⟩⟩
 ·obtain⟨v,g1,g2,g3⟩:=b.ow j d ej;have hj:j≠i:=λz=>by rw[z,e]at ej;cases ej
  exact⟨v,g1,g2.keep k.tup (λc hc o eo=>k.out c o eo (ne j hj c hc)),g3⟩
 ·by_cases hj:j=i
  ·subst hj;rw[e]at ej;cases ej;exact⟨h,g_,hσ,e',o',h4,h5⟩
  ·obtain⟨a,ms,g1,g2,g3,g4,g5⟩:=b.pZ j vU ej;exact⟨a,ms,g1,k.out a _ g2 (ne j hj a (by rw[g4];simp)),g3,g4,g5⟩
 ·obtain⟨g1,g2,g3⟩:=b.dm j c hc
  by_cases wq:c=h
  ·rw[wq,e'];rw[wq]at g3;exact⟨λz=>(nomatch z),λxs z=>(by cases z),g3⟩
  ·cases q:H c with
   |none=>exact absurd q g1
   |some o=>rw[k.out c o q wq];exact⟨λz=>(nomatch z),λxs z=>g2 xs (by rw[q];exact z),g3⟩
 ·refine k.out c o (b.kp.out c o z n) λq=>?_;subst q;rcases (b.dm i c (by rw[h4];simp)).2.2.1 with z0|z0
  ·rw[z0]at z;cases z
  ·exact n z0
def Jv (ih:Nat)(ok:List Int->Prop)(ro:Bool)(F:FD)(φs:bO):aZ:=λβ R=>β[ih]?=some (some (.hand ok))/\φs β λds ks β1=>β1[ih]?=some (some (.hand ok))/\hold (fe ks) false/\F ds λd=>R d (rk ro) β1
theorem aX (mF:cH F)(G:aD X.prog X.w X.K X.mg X.base bz k f fd ps (jB X.prog X.w ok ro F))(hr:cf k X.A)(hm:X.mg x=some (.ref f))(hk:PySem.W.keepIn X.K (.ref f)=true)(hb:Binds X.K fd ps [])(ha:oZ X C p es φs)(hN:X.N[ih]?=some hx:=by rfl)
  (hv:wQ X.env.scope hx:=by first|exact .inl rfl|exact .inr (.inl rfl)|exact .inr (.inr rfl)) (hd:(hx==("__debug__" : Str))=false:=by decide) (ic:(hx==("__classdict__" : Str))=false:=by decide) (hg:Gl X x:=by rfl) (hdb:(x==("__debug__" : Str))=false:=by decide)
  (gk:Vd (.Name hx px::es) X.env=(false,eval (.Name hx px) X.env)::Vd es X.env:=by rfl) (hpl:(Wt pos (Vd es X.env)).any (·.1)=false:=by rfl) :
  PQ X C false (.Call (.Name x pp) (.Name hx px::es) [] pos) (Jv ih ok ro F φs) :=
 ⟨λβ R R' k He=>by obtain⟨e,h⟩:=He;exact⟨e,ha.mono β _ _ (λds ks β1 uK=>by obtain⟨e,hh,q⟩:=uK;exact⟨e,hh,mF ds _ _ (λd q=>k _ _ _ q) q⟩) h⟩,
  (i6 G hr hg hm hk hb .nil vN (ba (fb (pos:=px) hN hv hd ic) ha.pa gk) (hdb:=hdb) (he:=gk) (hpl:=hpl)).pre λσ H Q AK=>by
  obtain⟨β,own,s,e,h⟩:=AK;obtain⟨hh,ns,h1,h2,h3,h4⟩:=s.pZ ih ok e;refine⟨.ref hh,h1,qA.of ha s h λds ks β1 vs H1 aB ⟨e1,ho,q⟩ o1 r1=>?_⟩;obtain⟨Ti,Oi,g1,g2,g3,g4,g5⟩:=o1.sq.pZ ih ok e1;rw[h1]at g1;cases g1;have wh:Wn aB hh:=⟨ih,by rw[g4];simp⟩
  rw[Ws];refine⟨hh,vs,ds,Oi,rfl,g2,g3,ak.aS (λa z=>?_) r1.iy,mF ds _ _ (λd q v H' g_ kp dn e' vU r=>?_) q⟩
  ·subst z;cases hk:fe ks with
   |own=>exact .inl wh
   |e8=>exact .inl wh
   |old=>exact wh
   |bor=>rw[hk]at ho;exact ho.elim
  ·exact q v H' aB ⟨o1.sq.drawn e1 h1 kp e' vU dn,o1.sn.kp (kp.mono λb z=>by rw[z];exact wh) dn,λz=>(nomatch z),o1.le⟩ (r.kv o1.sq.uU o1.sq.hX λa z=>o1.sn.d a z)⟩
end
abbrev Cfg.z (C:Cfg):Cfg:=C.u λ_=>False
def SB (X:Cx)(C:Cfg)(Z:Hp×(Addr->Prop))(σ:St)(H:Hp)(β:a8):Prop:=∃own,SQ X C.z σ H β own/\Sn Z H (Wn own)
structure e7 where
 nx:a8->Prop
 rt:D->a8->Prop
 bk:a8->Prop:=λ_=>False
 ct:a8->Prop:=λ_=>False
def e7.up (E:e7)(n:a8->Prop):e7:=⟨n,E.rt,E.bk,E.ct⟩
def e7.lp (E:e7)(n:a8->Prop):e7:=⟨n,E.rt,E.nx,n⟩
structure Rz (X:Cx)(C:Cfg)(Z:Hp×(Addr->Prop))(E:e7)(D:Ends):Prop where
 nx:∀σ H β,SB X C Z σ H β->E.nx β->D.nx σ H
 rt:∀σ H β d v,SB X C Z σ H β->nD X.prog X.w C.ro C.H0 H d v->E.rt d β->D.rt v H
 bk:∀σ H β,SB X C Z σ H β->E.bk β->D.bk σ H
 ct:∀σ H β,SB X C Z σ H β->E.ct β->D.ct σ H
structure Le (E E':e7):Prop where
 nx:∀β,E.nx β->E'.nx β
 rt:∀d β,E.rt d β->E'.rt d β
 bk:∀β,E.bk β->E'.bk β
 ct:∀β,E.ct β->E'.ct β
abbrev BR:=e7->a8->Prop
def Qu (X:Cx)(C:Cfg)(ψ:BR):TS:=λD σ H=>∃Z E β,SB X C Z σ H β/\ψ E β/\Rz X C Z E D
structure PB (X:Cx)(C:Cfg)(st:Stmt)(ψ:BR):Prop where
 mono:∀E E' β,Le E E'->ψ E β->ψ E' β
 ps:PS X st (Qu X C ψ)
structure lq (X:Cx)(C:Cfg)(st:List Stmt)(ψ:BR):Prop where
 mono:∀E E' β,Le E E'->ψ E β->ψ E' β
 ps:qI X st (Qu X C ψ)
section
variable {X:Cx}{C:Cfg}{st:Stmt}{rest a b:List Stmt}{ψ ψ1 ψ2:BR}{Z:Hp×(Addr->Prop)}{σ:St}{H H':Hp}{β β':a8}{pos pos':Pos}{e c:Expr}{φ:aZ}{τ:a_}{p:Bool}{own aN:Nat->List Addr}{i:Nat}{x:Str}
theorem Out.sb (n:Sn Z H (Wn own))(o:Out X C.z σ H own p β' H' aN):SB X C Z σ H' β':=⟨aN,o.sq,n.trans o.sn⟩
theorem aY:lq X C [] (λE β=>E.nx β):=⟨λE E' β l h=>l.nx β h,pG.pre λD σ H Dw=>by obtain⟨Z,E,β,sb,h,ok⟩:=Dw;exact ok.nx σ H β sb h⟩
theorem ai (h1:PB X C st ψ1)(h2:lq X C rest ψ2):lq X C (st::rest) (λE β=>ψ1 (E.up (ψ2 E)) β) :=
 ⟨λE E' β l h=>h1.mono {E with nx:=ψ2 E} {E' with nx:=ψ2 E'} β ⟨λβ' q=>h2.mono E E' β' l q,l.rt,l.bk,l.ct⟩ h,(b8 h1.ps h2.ps).pre λD σ H ⟨Z,E,β,sb,h,ok⟩ =>
  ⟨Z,{E with nx:=ψ2 E},β,sb,h,⟨λσ' H' β' ub h'=>⟨Z,E,β',ub,h',ok⟩,ok.rt,ok.bk,ok.ct⟩⟩⟩
theorem aj (h1:PB X C st ψ):lq X C [st] ψ:=⟨h1.mono,eU h1.ps⟩
theorem dM (h1:PB X C st ψ1)(h2:lq X C rest ψ2):lq X C (st::rest) (λE β=>∃J:a8->Prop,ψ1 (E.up J) β/\∀β',J β'->ψ2 E β') :=
 ⟨λE E' β l AL=>by obtain⟨J,h,k⟩:=AL;exact⟨J,h1.mono {E with nx:=J} {E' with nx:=J} β ⟨λ_ q=>q,l.rt,l.bk,l.ct⟩ h,λβ' q=>h2.mono E E' β' l (k β' q)⟩,(b8 h1.ps h2.ps).pre λD σ H ⟨Z,E,β,sb,⟨J,h,k⟩,ok⟩ =>
  ⟨Z,{E with nx:=J},β,sb,h,⟨λσ' H' β' ub h'=>⟨Z,E,β',ub,k β' h',ok⟩,ok.rt,ok.bk,ok.ct⟩⟩⟩
theorem bG (hc:tL X C.z p c τ)(ha:lq X C a ψ1)(hb:lq X C b ψ2):PB X C (.If c a b pos) (λE β=>τ β λt β'=>if t=true then ψ1 E β' else ψ2 E β') :=
 ⟨λE E' β l h=>hc.mono _ _ _ (λt β' q=>by
   cases t
   ·exact hb.mono E E' β' l q
   ·exact ha.mono E E' β' l q) h,(zw hc.pt ha.ps hb.ps).pre λD σ H Dt=>by
  obtain⟨Z,E,β,⟨own,s,n⟩,h,ok⟩:=Dt;refine jw.of hc s h λt β' H1 aB q o1=>?_;cases t
  ·exact⟨Z,E,β',o1.sb n,q,ok⟩
  ·exact⟨Z,E,β',o1.sb n,q,ok⟩⟩
abbrev v9 (d:D)(k:Kd)(K:B->Prop):Prop:=match k with
 |.own=>K (.val true d)
 |.e8=>K (.val true d)
 |.old=>K (.val false d)
 |.bor=>d.flat=true/\K (.val true d)
theorem v9.mono {d:D}{k:Kd}{K K':B->Prop}(h:∀b,K b->K' b)(q:v9 d k K):v9 d k K':=by
 cases k <;> first|exact h _ q|exact⟨q.1,h _ q.2⟩
theorem v9.of {P:U_}{w:Vl}{d:D}{v:V}{k:Kd}{K:B->Prop}(r:KV P w C Z own H k d v)(q:v9 d k K):∃y,K (.val y d)/\aA P w (av C (Wn own) (yk y)) H d v:=by
 cases k with
 |own=>exact⟨true,q,r.e8⟩
 |e8=>exact⟨true,q,r⟩
 |old=>exact⟨false,q,r⟩
 |bor=>exact⟨true,q.2,aA.flat q.1 r⟩
theorem gu {own:Nat->List Addr}{i:Nat}(n:Sn Z H (Wn own)):Sn Z H (Wn (a9 own i [])):=⟨λb z=>n.w b (fG z),n.k,n.d⟩
theorem aJ (he:PQ X C.z p e φ)(hN:X.N.Nodup)(hi:X.N[i]?=some x:=by rfl)(hx:Loc X.env.scope x:=by first|exact .inl rfl|exact .inr rfl)
  (hs:WO e (some (.Name x pos')) pos.line X.env=pure false:=by rfl) (hf:X.fn x=true\/X.env.scope.names.lookup x=some .local:=by first|exact .inl rfl|exact .inr rfl|assumption) :
  PB X C (.Assign [.Name x pos'] e pos) (λE β=>φ β λd k β'=>v9 d k λb=>E.nx (β'.set i (some b))) :=
 ⟨λE E' β l q=>he.mono _ _ _ (λd k β' q=>q.mono λ_=>l.nx _) q,(lK hN hi hx he.pe hs hf).pre λD σ H ⟨Z,E,β,⟨own,s,n⟩,q,ok⟩=>tQ.of he s q λd k β' v H' aN q o r=>by
  obtain⟨y,q,r⟩:=q.of r;exact ok.nx _ _ _ ⟨_,o.sq.d6 (aA.aS (λa z=>z.elim id λz=>z.elim) r),gu (n.trans o.sn)⟩ q⟩
abbrev EB (k:Kd)(d:D):Prop:=match k with
 |.own=>True
 |_=>d.flat=true
theorem KV.fl {P:U_}{w:Vl}{d:D}{v:V}{k:Kd}(f:EB k d)(r:KV P w C Z own H k d v):KV P w C Z own H .own d v:=by
 cases k with
 |own=>exact r
 |e8=>exact KV.flat f r.rep
 |old=>exact KV.flat f r.rep
 |bor=>exact KV.flat f r.rep
theorem kY (he:∀U,PQ X (C.u U) p e φ)(hN:X.N.Nodup)(hi:X.N[i]?=some x:=by rfl)(hx:Loc X.env.scope x:=by first|exact .inl rfl|exact .inr rfl)
  (hs:WO e (some (.Name x pos')) pos.line X.env=pure false:=by rfl) (hf:X.fn x=true\/X.env.scope.names.lookup x=some .local:=by first|exact .inl rfl|exact .inr rfl|assumption) :
  PB X C (.Assign [.Name x pos'] e pos) (λE β=>φ β λd k β'=>EB k d/\E.nx (β'.set i (some (.own d)))) :=
 ⟨λE E' β l q=>(he λ_=>False).mono _ _ _ (λd k β' q=>⟨q.1,l.nx _ q.2⟩) q,λpins s σ H D I ⟨Z,E,β,⟨own,sq,n⟩,q,ok⟩ =>
  lK hN hi hx (he λa=>H a=none).pe hs hf pins s σ H D I (tQ.of (he λa=>H a=none) (sq.vg (C:=C.z) (U:=λa=>H a=none) λa z=>z) q λd k β' v H' aN Hn o r=>by
   obtain⟨f,q⟩:=Hn;obtain⟨A,h1,h2,h3⟩:=r.fl f;refine ok.nx _ _ _ ⟨_,o.sq.y_ h1 h2 λc hc=>⟨(h3 c hc).2.2,(h3 c hc).2.1,(h3 c hc).1⟩,?_⟩ q;have m:=n.trans o.sn;exact⟨λb Hm=>by
    obtain⟨j,hj⟩:=Hm
    by_cases aV:i=j
    ·rw[<- aV,os_eq]at hj;exact .inr (n.free (h3 b hj).1)
    ·rw[bN aV]at hj;exact m.w b ⟨j,hj⟩,m.k,m.d⟩)⟩
theorem cq.FN {P:U_}{w:Vl}{U U2:Addr->Prop}{d d':D}{v:V}{A':List Addr}{c:Addr}{o:HO}(b:cq P w (C.u U) σ H β own)(e:β[i]?=some (some (.own d)))(hσ:σ[i]?=some (some v))(hc:c∈own i)
  (r:Own P w (upd H c o) d' v A') (nd:A'.Nodup) (hA:∀a∈A',a∈own i\/(C.H0 a=none/\¬ Wn own a/\U a)) (hU:∀a,U2 a->U a) (PD:∀a∈A',¬ U2 a):cq P w (C.u U2) σ (upd H c o) (β.set i (some (.own d'))) (a9 own i A'):=by
 obtain⟨g1,g2,g3,g4⟩:=b.dm i c hc;obtain⟨oc,Hr⟩:∃oc,H c=some oc:=by
  cases q:H c with
  |none=>exact absurd q g1
  |some oc=>exact⟨oc,rfl⟩
 have ht:∀xs,oc≠.tup xs:=λxs z=>g2 xs (by rw[Hr,z])
 have k:Kp (·=c) H (upd H c o):=iD Hr ht;have h0:∀a∈own i,C.H0 a=none:=by obtain⟨_,_,_,h⟩:=b.ow i d e;exact h
 have wc:Wn own c:=⟨i,hc⟩;have sub:∀y a,gb (C.u U2) (Wn (a9 own i A')) (yk y) a->gb (C.u U) (Wn own) (yk y) a:=λy a h=>by
  have q:∀a,Wn (a9 own i A') a->Wn own a\/U a:=λa AO=>by
   obtain⟨j,q⟩:=AO
   by_cases aV:i=j
   ·rw[aV,os_eq]at q;rcases hA a q with z|z
    ·exact .inl ⟨i,z⟩
    ·exact .inr z.2.2
   ·rw[bN aV]at q;exact .inl ⟨j,q⟩
  rcases h with h|h
  ·cases y with
   |true=>exact h.elim (λz=>(q a z).imp .inl id) λz=>.inl (.inr z)
   |false=>exact q a h
  ·exact .inr (hU a h)
 have mem:∀{j c},c∈a9 own i A' j->(i=j/\c∈A')\/(i≠j/\c∈own j):=λ{j c} h=>by
  by_cases aV:i=j
  ·subst aV;rw[os_eq]at h;exact .inl ⟨rfl,h⟩
  ·rw[bN aV]at h;exact .inr ⟨aV,h⟩
 have MP:∀j,i≠j->∀a∈own j,a≠c:=λj aV a ha z=>aV (b.mS i j c hc (by rw[<- z];exact ha))
 refine⟨by simp[b.len],λj y' d2 e2=>?_,λj d2 e2=>?_,λj ok e2=>?_,λj a h=>?_,λj k2 a h1 h2=>?_,λj=>?_,⟨λa oa z n=>?_,λa xs z=>k.tup a xs (b.kp.tup a xs z)⟩,λa z=>?_,λj y' d2 e2=>by
  by_cases aV:i=j
  ·subst aV;obtain⟨e',hl⟩:=bB e2;cases e'
  ·rw[bx aV]at e2;rw[bN aV];obtain⟨u,h1,h2,h3⟩:=b.shl j y' d2 e2;exact⟨u,h1,h2.map (λa ha oa ea=>k.out a oa ea (MP j aV a ha)) (λ_ _ r=>ak.aS (sub _) (r.keep (k.mono λa z=>by rw[z];cases y' <;> first|exact .inl wc|exact .inl (.inl wc)))),h3⟩⟩
 ·by_cases aV:i=j
  ·subst aV;obtain⟨e',hl⟩:=bB e2;cases e'
  ·rw[bx aV]at e2;obtain⟨u,h1,h2⟩:=b.val j y' d2 e2;exact⟨u,h1,(h2.keep (k.mono λa z=>by rw[z];cases y' <;> first|exact .inl wc|exact .inl (.inl wc))).aS (sub _)⟩
 ·by_cases aV:i=j
  ·subst aV;obtain⟨e',hl⟩:=bB e2;cases e';rw[os_eq];exact⟨v,hσ,r,λa ha=>(hA a ha).elim (h0 a) λz=>z.1⟩
  ·rw[bx aV]at e2;rw[bN aV];obtain⟨u,h1,h2,h3⟩:=b.ow j d2 e2;exact⟨u,h1,h2.keep k.tup (λa ha oa ea=>k.out a oa ea (MP j aV a ha)),h3⟩
 ·by_cases aV:i=j
  ·subst aV;obtain⟨e',hl⟩:=bB e2;cases e'
  ·rw[bx aV]at e2;rw[bN aV];obtain⟨a,ns,h1,h2,h3,h4,h5⟩:=b.pZ j ok e2;exact⟨a,ns,h1,k.out a _ h2 (MP j aV a (by rw[h4];simp)),h3,h4,h5⟩
 ·rcases mem h with⟨_,h⟩|⟨aV,h⟩
  ·exact⟨(r.mR a h).1,(r.mR a h).2,.inl ((hA a h).elim (h0 a) λz=>z.1),PD a h⟩
  ·obtain⟨q1,q2,q3,q4⟩:=b.dm j a h;rw[ar (MP j aV a h)];exact⟨q1,q2,q3,λz=>q4 (hU a z)⟩
 ·rcases mem h1 with⟨e1,h1⟩|⟨n1,h1⟩
  ·rcases mem h2 with⟨e2,h2⟩|⟨n2,h2⟩
   ·rw[<- e1,<- e2]
   ·rcases hA a h1 with z|z
    ·exact absurd (b.mS i k2 a z h2) n2
    ·exact absurd ⟨k2,h2⟩ z.2.1
  ·rcases mem h2 with⟨e2,h2⟩|⟨n2,h2⟩
   ·rcases hA a h2 with z|z
    ·exact absurd (b.mS i j a z h1) n1
    ·exact absurd ⟨j,h1⟩ z.2.1
   ·exact b.mS j k2 a h1 h2
 ·by_cases aV:i=j
  ·rw[<- aV,os_eq];exact nd
  ·rw[bN aV];exact b.pS j
 ·refine k.out a oa (b.kp.out a oa z n) λq=>?_;subst q;rw[h0 a hc]at z;cases z
 ·by_cases Rf:a=c
  ·rw[Rf,az];exact λz=>(nomatch z)
  ·rw[ar Rf];exact b.hX a z
theorem cq.putIn {P:U_}{w:Vl}{U:Addr->Prop}{d d':D}{v:V}{A':List Addr}{c:Addr}{o:HO}(b:cq P w (C.u U) σ H β own)(e:β[i]?=some (some (.own d)))(hσ:σ[i]?=some (some v))(hc:c∈own i)
  (r:Own P w (upd H c o) d' v A') (nd:A'.Nodup) (hA:∀a∈A',a∈own i\/(C.H0 a=none/\¬ Wn own a/\U a)):cq P w C.z σ (upd H c o) (β.set i (some (.own d'))) (a9 own i A') :=
 b.FN (U2:=λ_=>False) e hσ hc r nd hA (λ_ z=>z.elim) λ_ _ z=>z
theorem t_ {A':List Addr}{c:Addr}{o:HO}{U:Addr->Prop}(n:Sn Z H (Wn own))(m:∀a,U a->Z.1 a=none)(hc:Wn own c)(Hr:∃oc,H c=some oc/\∀xs,oc≠.tup xs)(hA:∀a∈A',a∈own i\/(C.H0 a=none/\¬ Wn own a/\U a)):Sn Z (upd H c o) (Wn (a9 own i A')):=by
 obtain⟨oc,h1,h2⟩:=Hr;have u:=Sn.upd (o':=o) n h1 h2 hc;exact⟨λb AM=>by
  obtain⟨j,hj⟩:=AM
  by_cases aV:i=j
  ·rw[<- aV,os_eq]at hj;rcases hA b hj with z|z
   ·exact n.w b ⟨i,z⟩
   ·exact .inr (m b z.2.2)
  ·rw[bN aV]at hj;exact n.w b ⟨j,hj⟩,u.k,u.d⟩
theorem cq.Ai {P:U_}{w:Vl}{ds:List D}(b:cq P w C σ H β own)(e:β[i]?=some (some (.own (.lst ds)))):∃a vs A',σ[i]?=some (some (.ref a))/\H a=some (.lst vs)/\own i=a::A'/\aQ P w H ds vs A':=by
 obtain⟨v,h1,⟨a,vs,A',rfl,h2,h3,h4⟩,_⟩:=b.ow i _ e;exact⟨a,vs,A',h1,h2,h3,h4⟩
variable {px ap cp:Pos}
theorem xB (he:∀U,PQ X (C.u U) p e φ)(hN:X.N[i]?=some x:=by rfl)(hv:wQ X.env.scope x:=by first|exact .inl rfl|exact .inr (.inl rfl)|exact .inr (.inr rfl))(hd:(x==("__debug__" : Str))=false:=by decide)(ic:(x==("__classdict__" : Str))=false:=by decide)
  (eE:W9 (.Name x px) "append" X.env (eval (.Name x px) X.env)=eval (.Name x px) X.env:=by rfl)
  (mh:((Wt cp (Vd [e] X.env)).all (λx=>!x.1)&&(Y2 cp (X_ [] X.env)).all (λx=>x.1.isSome)&&decide ([e].length+([]:List XW).length+(if ([]:List XW).isEmpty then 0 else 1)<30))=true:=by rfl)
  (eD:(ap.endLine==cp.line)=true:=by rfl) (hs:Vd [e] X.env=(false,eval e X.env)::Vd [] X.env:=by rfl) (eC:(Wt cp (Vd [] X.env)).any (·.1)=false:=by rfl)
  (xS:WO (.Call (.Attribute (.Name x px) "append" ap) [e] [] cp) none pos.line X.env=pure false:=by rfl) :
  PB X C (.Expr (.Call (.Attribute (.Name x px) "append" ap) [e] [] cp) pos) (λE β=>(∃ds,β[i]?=some (some (.own (.lst ds))))/\φ β λd k β'=>EB k d/\∃ds,β'[i]?=some (some (.own (.lst ds)))/\ds.length<Vh/\E.nx (β'.set i (some (.own (.lst (ds++[d])))))):=by
 refine⟨λE E' β l Hl=>by obtain⟨h1,q⟩:=Hl;exact⟨h1,(he λ_=>False).mono _ _ _ (λd k β' Hk=>by obtain⟨f,ds,h1,h2,q⟩:=Hk;exact⟨f,ds,h1,h2,l.nx _ q⟩) q⟩,λpins s σ H D I ⟨Z,E,β,⟨own,sq,n⟩,⟨⟨UX,hb⟩,q⟩,ok⟩=>?_⟩
 refine kT (pos:=pos) (zN (apos:=ap) (cpos:=cp) PySem.F.plainAttrs_list PySem.F.slot_list_append PySem.F.type_list_append jJ (fb (pos:=px) hN hv hd ic) (ba (he λa=>H a=none).pe cZ hs) eE mh eD hs eC) xS pins s σ H D I ?_;obtain⟨a,vs,A',h1,h2,h3,h4⟩:=sq.Ai hb;refine⟨.ref a,h1,.inl ⟨rfl,vs,dh.of h2⟩,tQ.of (he λa=>H a=none) (sq.vg (C:=C.z) (U:=λa=>H a=none) λa z=>z) q λd k β' v H1 aB ⟨f,ds,gI,hl,q⟩ o r=>?_⟩;obtain⟨a',vs',A1,g1,g2,g3,g4⟩:=o.sq.Ai gI;rw[h1]at g1;cases g1;obtain⟨A,r1,r2,r3⟩:=r.fl f;have ha:a∈aB i:=by rw[g3];simp
 have nd:(a::(A1++A)).Nodup:=by
  have q:=o.sq.pS i;rw[g3]at q;refine VL.mpr ⟨λz=>?_,V8.mpr ⟨(VL.mp q).2,r2,λx hx y hy e=>?_⟩⟩
  ·rcases VC.mp z with z|z
   ·exact(VL.mp q).1 z
   ·exact(r3 a z).2.1 ⟨i,ha⟩
  ·subst e;exact(r3 x hy).2.1 ⟨i,by rw[g3];simp[hx]⟩
 have hA:∀b∈a::(A1++A),b∈aB i\/(C.H0 b=none/\¬ Wn aB b/\H b=none):=λb hb=>by
  rcases Va.mp hb with rfl|hb
  ·exact .inl ha
  ·rcases VC.mp hb with hb|hb
   ·exact .inl (by rw[g3];simp[hb])
   ·exact .inr ⟨(r3 b hb).2.2,(r3 b hb).2.1,(r3 b hb).1⟩
 have kt:∀b xs,H1 b=some (.tup xs)->upd H1 a (.lst (vs'++[v])) b=some (.tup xs):=λb xs z=>by
  rw[ar (λz'=>by rw[z',g2]at z;cases z)];exact z
 have ne1:∀c∈A1,c≠a:=λc hc z=>by
  have q:=o.sq.pS i;rw[g3]at q;exact(VL.mp q).1 (by rw[<- z];exact hc)
 have ne2:∀c∈A,c≠a:=λc hc z=>(r3 c hc).2.1 ⟨i,by rw[z];exact ha⟩
 have r':Own X.prog X.w (upd H1 a (.lst (vs'++[v]))) (.lst (ds++[d])) (.ref a) (a::(A1++A)) :=
  ⟨a,vs'++[v],A1++A,rfl,az,rfl,(g4.keep kt λc hc oc ec=>by rw[ar (ne1 c hc)];exact ec).append (aQ.one (r1.keep kt λc hc oc ec=>by rw[ar (ne2 c hc)];exact ec))⟩
 exact⟨a,vs',v,rfl,rfl,g2,by rw[g4.length];exact hl,ok.nx _ _ _ ⟨_,o.sq.putIn gI h1 ha r' nd hA,t_ (n.trans o.sn) (λb z=>n.free z) ⟨i,ha⟩ ⟨_,g2,λxs z=>by cases z⟩ hA⟩ q⟩
end
abbrev dY:=D->Kd->a8->(a8->Prop)->Prop
abbrev o4:=List D->Kd->a8->(a8->Prop)->Prop
structure yu (X:Cx)(C:Cfg)(tg:Expr)(T:List Nat)(γ:dY):Prop where
 mono:∀d k β R R',(∀r,R r->R' r)->γ d k β R->γ d k β R'
 pg:PG X tg λv σ H Q=>∃own β d k,SQ X C σ H β own/\Rp X (gb C (Wn own) k) H d v/\γ d k β λβ'=>∀σ' aN,SQ X C σ' H β' aN->(∀a,Wn aN a->Wn own a)->(∀j,j∉T->σ'[j]?=σ[j]?)->Q σ' H
structure Ea (X:Cx)(C:Cfg)(wZ:List Expr)(T:List Nat)(γ:o4):Prop where
 mono:∀d k β R R',(∀r,R r->R' r)->γ d k β R->γ d k β R'
 QG:E5 X wZ λvs σ H Q=>∃own β ds k,SQ X C σ H β own/\kq X (gb C (Wn own) k) H ds vs/\γ ds k β λβ'=>∀σ' aN,SQ X C σ' H β' aN->(∀a,Wn aN a->Wn own a)->(∀j,j∉T->σ'[j]?=σ[j]?)->Q σ' H
section
variable {X:Cx}{C:Cfg}{tg:Expr}{wZ:List Expr}{γ:dY}{γs:o4}{T T':List Nat}{pos:Pos}{e:Expr}{φ:aZ}{p:Bool}
def TH (i:Nat):dY:=λd k β R=>v9 d k λb=>R (β.set i (some b))
theorem aw {i:Nat}{x:Str}(hN:X.N.Nodup)(hi:X.N[i]?=some x:=by rfl)(hx:Loc X.env.scope x:=by first|exact .inl rfl|exact .inr rfl)
  (hf:X.fn x=true\/X.env.scope.names.lookup x=some .local:=by first|exact .inl rfl|exact .inr rfl|assumption):yu X C (.Name x pos) [i] (TH i) :=
 ⟨λd k β R R' h q=>v9.mono (d:=d) (k:=k) (K:=λb=>R (β.set i (some b))) (K':=λb=>R' (β.set i (some b))) (λ_=>h _) q,(CM hN hi hx hf).pre λv σ H Q Dw=>by
  obtain⟨own,β,d,k,s,r,q⟩:=Dw;have MI:∀(v:V) (j:Nat),j∉[i]->(σ.set i (some v))[j]?=σ[j]?:=λv j hj=>bx (Xn (by simpa using hj))
  cases k with
  |own=>exact q _ _ (s.d6 (y:=true) r) (λa h=>fG h) (MI v)
  |e8=>exact q _ _ (s.d6 (y:=true) r) (λa h=>fG h) (MI v)
  |old=>exact q _ _ (s.d6 (y:=false) r) (λa h=>fG h) (MI v)
  |bor=>exact q.2 _ _ (s.d6 (y:=true) (aA.flat q.1 r)) (λa h=>fG h) (MI v)⟩
abbrev sk (k:Kd):D->Kd
 |.int _=>.own
 |.bl _=>.own
 |.cO=>.own
 |.str _=>.own
 |_=>k.wk
theorem lG {P:U_}{w:Vl}{W:Addr->Prop}{H:Hp}{k:Kd}{d:D}{v:V}(r:aA P w (gb C W k) H d v):aA P w (gb C W (sk k d)) H d v:=by
 cases d with
 |int i=>exact aA.flat rfl r
 |bl i=>exact aA.flat rfl r
 |cO=>exact aA.flat rfl r
 |str i=>exact aA.flat rfl r
 |_=>exact aA.aS (λa z=>z.imp (BK a) id) r
def HF:o4:=λds _ β R=>ds=[]/\R β
def AZ (γ:dY)(γs:o4):o4:=λds k β R=>∃d r,ds=d::r/\γ d (sk k d) β λβ'=>γs r k β' R
theorem b_:Ea X C [] [] HF:=⟨λd k β R R' h q=>⟨q.1,h _ q.2⟩,CL.pre λvs σ H Q Dv=>by
 obtain⟨own,β,ds,k,s,r,e,q⟩:=Dv;subst e;exact⟨r,q σ own s (λ_ z=>z) λ_ _=>rfl⟩⟩
theorem aR (h1:yu X C tg T γ)(h2:Ea X C wZ T' γs)(hs:(W3 (tg::wZ) X.env).map (·.2)=assign tg X.env::(W3 wZ X.env).map (·.2):=by rfl):Ea X C (tg::wZ) (T++T') (AZ γ γs) :=
 ⟨λds k β R R' h AL=>by obtain⟨d,r,e,q⟩:=AL;exact⟨d,r,e,h1.mono _ _ β _ _ (λβ' q=>h2.mono r k β' _ _ h q) q⟩,
  (zI h1.pg h2.QG hs).pre λvs σ H Q Km=>by
    obtain⟨own,β,ds,k,s,rr,d,r,e,q⟩:=Km;subst e;obtain⟨v,vr,rfl,rv,R7⟩:=rr;exact⟨v,vr,rfl,own,β,d,_,s,lG rv,h1.mono _ _ β _ _ (λβ' q σ' aN s' w' t'=>⟨aN,β',r,k,s',ak.aS (jt w' k) R7,h2.mono r k β' _ _ (λβ2 q2 σ2 bf s2 w2 t2=>q2 σ2 bf s2 (λa z=>w' a (w2 a z)) λj hj=>(t2 j λz=>hj (VM _ z)).trans (t' j λz=>hj (WG _ z))) q⟩) q⟩⟩
def TF (n:Nat)(γs:o4):dY:=λd k β R=>∃ds,d=.tup ds/\ds.length=n/\γs ds k β R
theorem c9 {k:Nat}{n:Nat}(hc:X.calm=true)(h:Ea X C wZ T γs)(hn:(W3 wZ X.env).length=n:=by rfl)(ot:(W3 wZ X.env).findIdx? (·.1)=none:=by rfl):yu X C (.Tuple wZ k pos) T (TF n γs) :=
 ⟨λd k β R R' hh G9=>by obtain⟨ds,e,l,q⟩:=G9;exact⟨ds,e,l,h.mono ds k β _ _ hh q⟩,(F0 hc h.QG hn ot).pre λv σ H Q G8=>by
  obtain⟨own,β,d,k,s,r,ds,e,l,q⟩:=G8;subst e;obtain⟨a,vs,rfl,ha,rs⟩:=r;exact⟨a,vs,rfl,qH.of ha,by rw[rs.length];exact l,own,β,ds,k,s,rs,q⟩⟩
theorem gS {Z:Hp×(Addr->Prop)}{H:Hp}{own aN:Nat->List Addr}(n:Sn Z H (Wn own))(h:∀a,Wn aN a->Wn own a):Sn Z H (Wn aN):=⟨λb z=>n.w b (h b z),n.k,n.d⟩
theorem pM (he:PQ X C.z p e φ)(hg:yu X C.z tg T γ)(hs:YM [tg] e pos.line X.env=pure false:=by rfl)(hw:YN [tg] e X.env=pure none:=by rfl)
  (h1:(W3 [tg] X.env).map (·.2)=[assign tg X.env]:=by rfl):PB X C (.Assign [tg] e pos) (λE β=>φ β λd k β'=>γ d k β' E.nx) :=
 ⟨λE E' β l q=>he.mono _ _ _ (λd k β' q=>hg.mono _ _ _ _ _ l.nx q) q,(ug he.pe hg.pg hs hw h1).pre λD σ H ⟨Z,E,β,⟨own,s,n⟩,q,ok⟩=>tQ.of he s q λd k β' v H' aN q o r =>
  ⟨aN,β',d,k,o.sq,aA.aS (λa z=>z.elim id λz=>z.elim) r.rep,hg.mono _ _ _ _ _ (λβ2 q σ2 bf s2 w2 _=>ok.nx _ _ _ ⟨bf,s2,gS (n.trans o.sn) w2⟩ q) q⟩⟩
theorem pL (he:PQ X C.z p e φ)(xS:WO e none pos.line X.env=pure false:=by rfl):PB X C (.Expr e pos) (λE β=>φ β λ_ _ β'=>E.nx β') :=
 ⟨λE E' β l q=>he.mono _ _ _ (λd k β' q=>l.nx _ q) q,(kT he.pe xS).pre λD σ H Du=>by obtain⟨Z,E,β,⟨own,s,n⟩,q,ok⟩:=Du;exact tQ.of he s q λd k β' v H' aN q o r=>ok.nx _ _ _ (o.sb n) q⟩
abbrev QT (ro:Bool)(k:Kd)(d:D):Prop:=match k,ro with
 |.own,_=>True
 |.e8,false=>True
 |_,_=>d.flat=true
theorem d3 {P:U_}{w:Vl}{W:Addr->Prop}{ro:Bool}{H H':Hp}{d:D}{v:V}(f:d.flat=true)(r:aA P w W H' d v):nD P w ro H H' d v:=by
 cases ro with
 |true=>exact⟨[],fu f r,Wc,λc hc=>(nomatch hc)⟩
 |false=>exact aA.flat f r
theorem Di {P:U_}{w:Vl}{Z:Hp×(Addr->Prop)}{own:Nat->List Addr}{ro:Bool}{H':Hp}{k:Kd}{d:D}{v:V}(f:QT ro k d)(r:KV P w C Z own H' k d v):nD P w ro C.H0 H' d v:=by
 cases k with
 |own =>
  cases ro with
  |true=>obtain⟨A,h1,h2,h3⟩:=r;exact⟨A,h1,h2,λc hc=>(h3 c hc).2.2⟩
  |false=>exact aA.aS (λa z=>.inr z) r.rep
 |e8 =>
  cases ro with
  |true=>exact d3 f r.rep
  |false=>exact aA.aS (λa z=>.inr z) r.rep
 |old=>cases ro <;> exact d3 f r.rep
 |bor=>cases ro <;> exact d3 f r.rep
theorem aM (he:PQ X C.z p e φ):PB X C (.Return (some e) pos) (λE β=>φ β λd k β'=>QT C.ro k d/\E.rt d β') :=
 ⟨λE E' β l q=>he.mono _ _ _ (λd k β' q=>⟨q.1,l.rt _ _ q.2⟩) q,(gA he.pe).pre λD σ H Dt=>by obtain⟨Z,E,β,⟨own,s,n⟩,q,ok⟩:=Dt;exact tQ.of he s q λd k β' v H' aN q o r=>ok.rt _ _ _ _ _ (o.sb n) (Di (C:=C.z) q.1 r) q.2⟩
theorem pK {i:Nat}{x:Str}{px:Pos}(hN:X.N[i]?=some x:=by rfl)(hv:wQ X.env.scope x:=by first|exact .inl rfl|exact .inr (.inl rfl)|exact .inr (.inr rfl))(hd:(x==("__debug__" : Str))=false:=by decide)(ic:(x==("__classdict__" : Str))=false:=by decide):
  PB X C (.Return (some (.Name x px)) pos) (λE β=>∃d,β[i]?=some (some (.own d))/\E.rt d β) :=
 ⟨λE E' β l uL=>by obtain⟨d,h1,q⟩:=uL;exact⟨d,h1,l.rt _ _ q⟩,(gA (fb (pos:=px) hN hv hd ic)).pre λD σ H AQ=>by
  obtain⟨Z,E,β,⟨own,s,n⟩,⟨d,h1,q⟩,ok⟩:=AQ;obtain⟨v,e1,r,h0⟩:=s.ow i d h1;refine⟨_,e1,ok.rt _ _ _ _ _ ⟨own,s,n⟩ ?_ q⟩;cases hr:C.ro with
  |true=>exact⟨_,r,s.pS i,h0⟩
  |false=>exact r.rep λc hc z=>z (h0 c hc)⟩
end
abbrev dg:=a8->(List D->Kd->a8->Prop)->Prop
structure yr (X:Cx)(C:Cfg)(p:Bool)(tg iter:Expr)(ι:dg):Prop where
 mono:∀β R R',(∀d k β,R d k β->R' d k β)->ι β R->ι β R'
 pi:PI X tg iter λσ H R=>∃β own,SQ X C σ H β own/\ι β λds k β'=>∀J H' aN,Out X C σ H own p β' H' aN->wU X (av C (Wn aN) k) J ds H'->R J H'
section
variable {X:Cx}{C:Cfg}{tg e a b:Expr}{φ:aZ}{φs:bO}{p:Bool}{pp pos:Pos}
def OA (φ:aZ):dg:=λβ R=>φ β λd k β'=>∃ds,d=.lst ds/\R ds k β'
theorem bp (h:PQ X C p e φ):yr X C p tg e (OA φ) :=
 ⟨λβ R R' k q=>h.mono β _ _ (λd kd β' Hn=>by obtain⟨ds,e,q⟩:=Hn;exact⟨ds,e,k _ _ _ q⟩) q,(vL h.pe).pre λσ H R ⟨β,own,s,q⟩=>tQ.of h s q λd k β' v H1 aB AO o1 r1=>by
  obtain⟨ds,e,q1⟩:=AO;subst e;obtain⟨a,vs,rfl,h1,n1,q2⟩:=r1.rep;exact⟨a,rfl,⟨vs,dh.of h1⟩,q1 _ _ aB o1 (sj h1 n1 q2)⟩⟩
def Ds (φs:bO):dg:=λβ R=>φs β λds _ β'=>∃j:Int,ds=[.int j]/\-(2 ^ 62)<=j/\j<2 ^ 62/\R (m_ 0 j.toNat) .e8 β'
def wj (φs:bO):dg:=λβ R=>φs β λds _ β'=>∃i j:Int,ds=[.int i,.int j]/\(-(2 ^ 62)<=i/\i<2 ^ 62/\-(2 ^ 62)<=j/\j<2 ^ 62)/\R (m_ i (j-i).toNat) .e8 β'
theorem bK (hm:X.mg "range" = none) (ha:oZ X C p [a] φs) (hg:Gl X "range" := by rfl) (hs:Vd [a] X.env=[(false,eval a X.env)]:=by rfl):yr X C p tg (.Call (.Name "range" pp) [a] [] pos) (Ds φs) :=
 ⟨λβ R R' k q=>ha.mono β _ _ (λd kd β' Hj=>by obtain⟨j,e,h1,h2,q⟩:=Hj;exact⟨j,e,h1,h2,k _ _ _ q⟩) q,(xv hg hm ha.pa hs).pre λσ H R ⟨β,own,s,q⟩=>qA.of ha s q λds ks β' vs H1 aB Hh o1 r1=>by
  obtain⟨j,e,h1,h2,q1⟩:=Hh;subst e;obtain⟨x,rfl,hx⟩:=mK r1.iy;cases hx;exact⟨j,rfl,h1,h2,q1 _ _ aB o1 jM⟩⟩
theorem uo (hm:X.mg "range" = none) (ha:oZ X C p [a,b] φs) (hg:Gl X "range" := by rfl) (hs:Vd [a,b] X.env=[(false,eval a X.env),(false,eval b X.env)]:=by rfl) (xU:Vd [b] X.env=[(false,eval b X.env)]:=by rfl) :
  yr X C p tg (.Call (.Name "range" pp) [a,b] [] pos) (wj φs) :=
 ⟨λβ R R' k q=>ha.mono β _ _ (λd kd β' Hg=>by obtain⟨i,j,e,h1,q⟩:=Hg;exact⟨i,j,e,h1,k _ _ _ q⟩) q,(nR hg hm ha.pa hs xU).pre λσ H R ⟨β,own,s,q⟩=>qA.of ha s q λds ks β' vs H1 aB O0 o1 r1=>by
  obtain⟨i,j,e,h1,q1⟩:=O0;subst e;obtain⟨x,y,rfl,hx,hy⟩:=wM r1.iy;cases hx;cases hy;exact⟨i,j,rfl,h1,q1 _ _ aB o1 jM⟩⟩
end
def DJ (γ:dY)(ψ:BR)(E:e7)(ds:List D)(k:Kd)(β:a8):Prop:=∃I:Nat->a8->Prop,I 0 β/\(∀i d β,ds[i]?=some d->I i β->γ d (sk k d) β λβ1=>ψ (E.lp (I (i+1))) β1)/\∀β,I ds.length β->E.nx β
section
variable {X:Cx}{C:Cfg}{tg iter c:Expr}{γ:dY}{T:List Nat}{ψ:BR}{ι:dg}{τ:a_}{body:List Stmt}{pos:Pos}{p:Bool}
theorem DJ.mono {E E':e7}{ds:List D}{k:Kd}{β:a8}(hγ:∀d k β R R',(∀r,R r->R' r)->γ d k β R->γ d k β R')(hψ:∀E E' β,Le E E'->ψ E β->ψ E' β)(l:Le E E'):DJ γ ψ E ds k β->DJ γ ψ E' ds k β:=λ⟨I,h0,h1,h2⟩ =>
 ⟨I,h0,λi d β e q=>hγ d _ β _ _ (λβ1 q=>hψ {nx:=I (i+1),rt:=E.rt,bk:=E.nx,ct:=I (i+1)} {nx:=I (i+1),rt:=E'.rt,bk:=E'.nx,ct:=I (i+1)} β1 ⟨λ_ q=>q,l.rt,l.nx,λ_ q=>q⟩ q) (h1 i d β e q),λβ q=>l.nx _ (h2 β q)⟩
theorem DZ {own bf:Nat->List Addr}{H H2:Hp}{k:Kd}(n:Sn (H,Wn own) H2 (Wn bf)):∀b,av C (Wn bf) k b->av C (Wn own) k b\/H b=none:=λb z=>by
 cases k with
 |own=>exact z.elim (λz=>(n.w b z).imp .inl id) λz=>.inl (.inr z)
 |e8=>exact z.elim (λz=>(n.w b z).imp .inl id) λz=>.inl (.inr z)
 |old=>exact n.w b z
 |bor=>exact z.elim
theorem bU (hp:Za (model X.prog X.w) X.A X.env X.xe)(hc:X.calm=true)(hi:yr X C.z p tg iter ι)(hg:yu X C.z tg T γ)(hb:lq X C body ψ)(hs:∀x,V0 iter X.env x=pure x:=by intro _;rfl):
  PB X C (.For tg iter body [] pos) (λE β=>ι β λds k β1=>hold k false/\DJ γ ψ E ds k β1) :=
 ⟨λE E' β l q=>hi.mono _ _ _ (λds k β1 q=>⟨q.1,q.2.mono hg.mono hb.mono l⟩) q,(zA hp hc hi.pi hg.pg hb.ps hs).pre λD σ H OY=>by
  obtain⟨Z,E,β,⟨own,s,n⟩,q,ok⟩:=OY;refine⟨β,own,s,hi.mono _ _ _ (λds k β1 ⟨hk,I,i0,i1,i2⟩ J H1 aB o1 it=>?_) q⟩;have n':=n.trans o1.sn;have ig:∀b,Wn aB b\/H1 b=none->av C.z (Wn aB) k b\/H1 b=none:=λb z=>by
   cases k with
   |own=>exact z.imp .inl id
   |e8=>exact z.imp .inl id
   |old=>exact z
   |bor=>exact hk.elim
  have EC:=it (λb=>av C.z (Wn aB) k b\/H1 b=none) λb z=>z;refine⟨λi m σ H=>i<=ds.length/\m=ds.length-i/\∃β,SB X C (H1,Wn aB) σ H β/\I i β,⟨_,Vv _,rfl,β1,⟨aB,o1.sq,Sn.refl⟩,i0⟩,?_⟩;rintro i m σ2 H2 ⟨hi,rfl,β2,⟨bf,s2,n2⟩,hl⟩;obtain⟨c4,nj⟩:=EC i H2 (n2.k.mono ig)
  by_cases dU:i<ds.length
  ·right
   have hd:ds[i]?=some ds[i]:=Vf dU;obtain⟨go,yl⟩:=c4 _ hd;refine⟨go,λσ' H'=>∃β,SB X C (H1,Wn aB) σ' H' β/\I (i+1) β,λσ' H' OW=>by obtain⟨β',ub,nu⟩:=OW;exact⟨_,by lia,dU,rfl,β',ub,nu⟩,λx H3 y=>?_⟩
   obtain⟨s3,r3⟩:=yl x H3 y;refine⟨bf,β2,_,_,s2.same s3,lG (C:=C.z) (aA.aS (λb z=>DZ (C:=C) n2 b (z.elim id λz=>z.elim)) r3),hg.mono _ _ _ _ _ (λβ4 q σ4 lP s4 w4 _=>?_) (i1 i _ β2 hd hl)⟩;refine⟨(H1,Wn aB),_,β4,⟨lP,s4,gS (n2.same s3) w4⟩,q,⟨λσ5 H5 β5 xi q5=>⟨β5,xi,q5⟩,λσ5 H5 β5 d5 v5 xi r5 q5=>?_,λσ5 H5 β5 xi q5=>?_,λσ5 H5 β5 xi q5=>⟨β5,xi,q5⟩⟩⟩
   ·obtain⟨i8,s5,n5⟩:=xi;exact ok.rt _ _ _ _ _ ⟨i8,s5,n'.trans n5⟩ r5 q5
   ·obtain⟨i8,s5,n5⟩:=xi;exact ok.nx _ _ _ ⟨i8,s5,n'.trans n5⟩ q5
  ·left
   have e:i=ds.length:=by lia
   subst e;exact⟨nj (U8 _),ok.nx _ _ _ ⟨bf,s2,n'.trans n2⟩ (i2 β2 hl)⟩⟩
def Fh (τ:a_)(ψ:BR):BR:=λE β=>∃V:Nat->a8->Prop,(∃m,V m β)/\∀m β,V m β->τ β λt β1=>if t=true then ψ {nx:=λβ'=>∃m',m'<m/\V m' β',rt:=E.rt,bk:=E.nx,ct:=λβ'=>∃m',m'<m/\V m' β'} β1 else E.nx β1
theorem zP (hp:Za (model X.prog X.w) X.A X.env X.xe)(hc:tL X C.z p c τ)(hb:lq X C body ψ):PB X C (.While c body [] pos) (Fh τ ψ) :=
 ⟨λE E' β l ⟨V,h0,h⟩=>⟨V,h0,λm β v=>hc.mono _ _ _ (λt β1 q=>by
   cases t
   ·exact l.nx _ q
   ·exact hb.mono {nx:=λβ'=>∃m',m'<m/\V m' β',rt:=E.rt,bk:=E.nx,ct:=λβ'=>∃m',m'<m/\V m' β'} {nx:=λβ'=>∃m',m'<m/\V m' β',rt:=E'.rt,bk:=E'.nx,ct:=λβ'=>∃m',m'<m/\V m' β'} β1 ⟨λ_ q=>q,l.rt,l.nx,λ_ q=>q⟩ q) (h m β v)⟩,(zu hp hc.pt hb.ps).pre λD σ H uK=>by
  obtain⟨Z,E,β,sb,⟨V,⟨m0,v0⟩,h⟩,ok⟩:=uK;refine⟨λm σ H=>∃β,SB X C Z σ H β/\V m β,⟨m0,β,sb,v0⟩,λm σ H ⟨β,⟨own,s,n⟩,v⟩=>?_⟩;refine jw.of hc s (h m β v) λt β1 H1 aB q o1=>?_;cases t
  ·exact ok.nx _ _ _ (o1.sb n) q
  ·exact⟨λσ' H'=>∃β',SB X C Z σ' H' β'/\∃m',m'<m/\V m' β',λσ' H' OV=>by obtain⟨β',ub,m',hm,v'⟩:=OV;exact⟨m',hm,β',ub,v'⟩,Z,_,β1,o1.sb n,q,λσ' H' β' ub q'=>⟨β',ub,q'⟩,ok.rt,ok.nx,λσ' H' β' ub q'=>⟨β',ub,q'⟩⟩⟩
end
def startB (N:List Str)(ds:List D):a8:=ds.map (λd=>some (.val false d))++Vt (N.length-ds.length) none
def jA (N:List Str)(ok:List Int->Prop)(ds:List D):a8:=some (.hand ok)::(ds.map (λd=>some (.val false d))++Vt (N.length-(ds.length+1)) none)
section
variable {P:U_}{w:Vl}{K:PySem.W.Frag}{mg:Str->Option U5}{base:Heap}
theorem gy {i n:Nat}{b:B}(h:(Vt n (none:Option B))[i]?=some (some b)):False:=by
 rw[List.getElem?_replicate]at h
 split at h <;> cases h
theorem fh {ds:List D}{n i:Nat}{b:B}(h:(ds.map (λd=>some (B.val false d))++Vt n none)[i]?=some (some b)):∃d,ds[i]?=some d/\b=.val false d:=by
 by_cases hi:i<ds.length
 ·rw[WN (by simpa using hi),Vq]at h
  cases q:ds[i]? with
  |none=>rw[q]at h;cases h
  |some d=>rw[q]at h;cases h;exact⟨d,rfl,rfl⟩
 ·rw[Wd (by simpa using hi)]at h
  exact(gy h).elim
theorem jz {N:List Str}{vs:List V}{i:Nat}{v:V}(h:vs[i]?=some v):(start N vs)[i]?=some (some v):=by
 unfold start;rw[WN (by simpa using (Vc.mp h).1),Vq,h]
 rfl
theorem qX {N:List Str}{vs:List V}{ds:List D}{H:Hp}{ro:Bool}(r:ak P w (λ_=>False) H ds vs):cq P w ⟨H,λ_=>False,ro,λ_=>False⟩ (start N vs) H (startB N ds) (λ_=>[]):=by
 refine⟨?_,λi y d h=>?_,λi d h=>?_,λi ok h=>?_,λi a h=>(nomatch h),λi j a h=>(nomatch h),λi=>Wc,Kp.refl,λ_ z=>z,λi y d h=>by obtain⟨d',e,e'⟩:=fh h;cases e'⟩
 ·unfold startB start;simp[r.length]
 ·obtain⟨d',e,e'⟩:=fh h;cases e';obtain⟨v,e1,e2⟩:=ak.get r e;exact⟨v,jz e1,aA.aS (λa z=>z.elim (λOU=>by obtain⟨_,q⟩:=OU;exact(nomatch q)) λz=>z) e2⟩
 ·obtain⟨d',e,e'⟩:=fh h;cases e'
 ·obtain⟨d',e,e'⟩:=fh h;cases e'
theorem nh {x qual:Str}{st:Stmt}{f:Addr}{fd:VE}{N ps:List Str}{k:Nat}{F:FD}{ro:Bool}(G:BU K x qual st f fd)(S:aI N ps (ao st))(len:∀ds R,F ds R->ds.length=ps.length)
  (jh:∀(bQ:U5) (A:VZ) (outer:List Env) (s:U7) (H:Hp) (E:XK),cf k (A.deeper (Yh qual (ao st) s.heap.objs.size f bQ)) ->
   ∃ψ,lq (kM bz P w K mg base N qual (ao st) f bQ A outer s H E).lU ⟨H,λ_=>False,ro,λ_=>False⟩ (dW st) ψ/\∀ds R,F ds R->ψ {nx:=λ_=>R .cO,rt:=λd _=>R d} (startB N ds)) :
  aD P w K mg base bz (k+1) f fd ps (cB P w ro F):=by
 refine G.ok S (λvs H Q E h=>?_) (λbQ A outer s H vs Q E hr h=>?_)
 ·obtain⟨ds,r,h⟩:=h;rw[r.length];exact len ds _ h
 ·obtain⟨ds,r,h⟩:=h;obtain⟨ψ,hb,hF⟩:=jh bQ A outer s H E hr;refine⟨_,hb.ps,(H,Wn λ_=>[]),_,startB N ds,⟨λ_=>[],qX r,Sn.refl⟩,hF ds _ h,λσ H' β sb q=>?_,λσ H' β d v sb rr q=>?_,λ_ _ _ _ z=>z.elim,λ_ _ _ _ z=>z.elim⟩
  ·obtain⟨own,s',n'⟩:=sb;exact q _ H' (λb o e=>s'.kp.out b o e (λz=>z)) (d3 (W:=λ_=>False) rfl rfl)
  ·obtain⟨own,s',n'⟩:=sb;exact q _ H' (λb o e=>s'.kp.out b o e (λz=>z)) rr
theorem w9 {N:List Str}{ok:List Int->Prop}{h:Addr}{ns:List Int}{vs:List V}{ds:List D}{H:Hp}{ro:Bool}(hh:H h=some (.lst (ns.map V.int)))(ho:ok ns)(r:ak P w (λa=>a=h) H ds vs):
  cq P w ⟨H,(·=h),ro,λ_=>False⟩ (start N (.ref h::vs)) H (jA N ok ds) (λi=>if i=0 then [h] else []):=by
 have CW:∀{i:Nat} {a:Addr},a∈(if i=0 then [h] else ([]:List Addr))->i=0/\a=h:=λ{i a} q=>by
  by_cases e:i=0
  ·rw[if_pos e]at q;exact⟨e,by simpa using q⟩
  ·rw[if_neg e]at q;cases q
 have DF:∀{i:Nat} {b:B},(jA N ok ds)[i]?=some (some b)->(i=0/\b=.hand ok)\/∃j d,i=j+1/\ds[j]?=some d/\b=.val false d:=λ{i b} q=>by
  unfold jA at q;cases i with
  |zero=>simp at q;exact .inl ⟨rfl,q.symm⟩
  |succ i =>
   rw[List.getElem?_cons_succ]at q;obtain⟨d,e,e'⟩:=fh q;exact .inr ⟨i,d,rfl,e,e'⟩
 refine⟨?_,λi y d q=>?_,λi d q=>?_,λi vU q=>?_,λi a q=>?_,λi j a h1 h2=>?_,λi=>?_,Kp.refl,λ_ z=>z,λi y d q=>(DF q).elim (λLq=> by obtain⟨_,e⟩ := Lq;cases e) (λLp=> by obtain⟨j,d',_,_,e'⟩ := Lp;cases e')⟩
 ·unfold jA start;simp[r.length]
 ·rcases DF q with⟨_,e⟩|⟨j,d',rfl,e,e'⟩
  ·cases e
  ·cases e';obtain⟨v,e1,e2⟩:=ak.get r e;exact⟨v,jz (by simpa using e1),aA.aS (λa z=>z.elim (λHc=>by obtain⟨j,q⟩:=Hc;exact(CW q).2) λz=>z.elim) e2⟩
 ·rcases DF q with⟨_,e⟩|⟨j,d',_,_,e'⟩
  ·cases e
  ·cases e'
 ·rcases DF q with⟨e0,e⟩|⟨j,d',_,_,e'⟩
  ·cases e;subst e0;exact⟨h,ns,jz rfl,hh,ho,rfl,.inr rfl⟩
  ·cases e'
 ·obtain⟨_,rfl⟩:=CW q;exact⟨by rw[hh];exact λz=>(nomatch z),λxs z=>(by rw[hh]at z;cases z),.inr rfl,λz=>z⟩
 ·rw[(CW h1).1,(CW h2).1]
 ·by_cases e:i=0
  ·simp[e]
  ·simp[e]
theorem Gu {x qual:Str}{st:Stmt}{f:Addr}{fd:VE}{N ps:List Str}{k:Nat}{F:FD}{ok:List Int->Prop}{ro:Bool}(G:BU K x qual st f fd)(S:aI N ps (ao st))(len:∀ds R,F ds R->ds.length+1=ps.length)
  (jh:∀(bQ:U5) (A:VZ) (outer:List Env) (s:U7) (H:Hp) (E:XK) (IO:Addr->Prop),cf k (A.deeper (Yh qual (ao st) s.heap.objs.size f bQ)) ->
   ∃ψ,lq (kM bz P w K mg base N qual (ao st) f bQ A outer s H E).lU ⟨H,IO,ro,λ_=>False⟩ (dW st) ψ/\∀ds R,F ds R->ψ {nx:=λ_=>False,rt:=λd β=>β[0]?=some (some (.hand ok))/\R d} (jA N ok ds)) :
  aD P w K mg base bz (k+1) f fd ps (jB P w ok ro F):=by
 refine G.ok S (λvs H Q E h=>?_) (λbQ A outer s H vs Q E hr h=>?_)
 ·obtain⟨h,vs',ds,ns,rfl,hh,ho,r,q⟩:=h;rw[Vo,r.length];exact len ds _ q
 ·obtain⟨h,vs',ds,ns,rfl,hh,ho,r,q⟩:=h;obtain⟨ψ,hb,hF⟩:=jh bQ A outer s H E (·=h) hr;refine⟨_,hb.ps,(H,_),_,jA N ok ds,⟨_,w9 hh ho r,Sn.refl⟩,hF ds _ q,λσ H' β sb z=>z.elim,λσ H' β d v sb rr ⟨b0,q⟩=>?_,λ_ _ _ _ z=>z.elim,λ_ _ _ _ z=>z.elim⟩;obtain⟨own,s',n'⟩:=sb;obtain⟨a,g_,g1,g2,g3,g4,g5⟩:=s'.pZ 0 ok b0;have ea:a=h:=g5.elim (λz=>(z h rfl).elim) λz=>z;subst ea;exact q v H' g_ s'.kp s'.hX g2 g3 rr
end
end L2.Q
namespace L2
open PySem PySem.Spec PySem.SeqAt PyProof.Rows
theorem tK.pre {X:Cx}{ifs:List Expr}{t t':TT}(h:tK X ifs t)(k:∀σ H Q,t' σ H Q->t σ H Q):tK X ifs t':=λpins s σ H Q I q=>h pins s σ H Q I (k σ H Q q)
theorem sM {T:D->Prop}:∀{outs:List D},(∀d∈outs,T d/\d.flat=true)->D.cQ outs=true
 |[],_=>rfl
 |d::ds,h=>by
  rw[D.cQ,(h d (by simp)).2,sM λd' hd=>h d' (by simp[hd])]
  rfl
section
end
section
end
section
variable {X:Cx}{e:Expr}{g:Xu}{gs:List Xu}{scope:Xz}{N':List Str}{lk:List (Option Nat)}{tg:Addr->TG}{tt:Addr->TT}{wi:TI}
theorem kn {fc:Sem U5}{o:HO}{after:U5->Env->Sem Fin->Sem Fin}{ta:Addr->nC}(L:Links X scope N' lk)(hc:X.calm=true)(hA:qw X fc o)
  (F:∀acc env,jv e 0 g acc env (after acc env))
  (EI:∀a cl C s H ex,PG (aK X scope N' cl C s H ex) g.target (tg a)/\tK (aK X scope N' cl C s H ex) g.ifs (tt a)/\tM (aK X scope N' cl C s H ex) (after (.ref a) (aK X scope N' cl C s H ex).env) (ta a))
  {cl:List (Str×Addr)} (nv:∀x,(x,VU)∈scope.names->∃c,cl.lookup x=some c) (k9:∀x c,cl.lookup x=some c->X.env.cells.lookup x=some c)
  {pins:List (Addr×Obj)} {σ:St} {s:U7} {Q:V->Hp->Prop} {ED:U5} {E:U5->U7->Prop} {RR:U5->Addr->Result->U7->Prop}
  (h:Nd X pins σ g.target (λJ H1=>∀a,H1 a=none->fX J (tg a) (tt a) (ta a) (λ_ H'=>Q (.ref a) H') (dQ lk σ) (upd H1 a o)) ED s)
  (hR:∀a H' C s',Inv X pins σ H' s'->gP X pins H' C->(∃m,s'.heap.Ns C m)->Q (.ref a) H'->RR (.ref a) C (.ok .next) s') :
  VA (model X.prog X.w) X.A fc (λacc s₃=>VA (model X.prog X.w) X.A (newFunctionEnv scope X.env.globals cl [] X.env.qual none .none (some X.env)) (λMe s₄ =>
   Yp (model X.prog X.w) X.A (.compStart e 0 ED acc {Me with scope:=relabel scope X.env}) (RR acc Me.locals) s₄) E s₃) E s:=by
 obtain⟨it,fp,tn,J,H2,e1,I2,T,fY,f2,hl⟩:=h;subst e1;refine hA.ok pins s σ H2 _ E I2 λa s3 ha hn hk I3=>?_;refine wpAny_newFunctionEnv L.uw (by intro y hy;simp at hy) (λh₁ Hu G7=>?_) L.kind
 have O4:∀b∈fp,∃o,s3.heap.get? b=some o:=λb hb=>by
  obtain⟨ob,q,_⟩:=T.obj _ _ fY b hb;exact⟨ob,hk b ob q⟩
 have Ts:∀b∈fp,b≠a:=λb hb=>by
  obtain⟨ob,q,_⟩:=T.obj _ _ fY b hb;exact VJ (VG (Vp q) ha)
 have f3:∀b∈fp,gP X pins (upd H2 a o) b:=λb hb=>⟨by rw[ar (Ts b hb)];exact(f2 b hb).1,(f2 b hb).2⟩
 have Lz:∀b ob,s3.heap.get? b=some ob->h₁.get? b=some ob:=λb ob q=>G7.extBut b ob (VJ (Vp q)) (Vi _ q);have MW:h₁.Ns s3.heap.objs.size (λ_=>none):=Hu;have I4:=AE (t':=s3.toks+([]:List (Str×U5)).length) I3 L f3 O4 nv k9 MW Lz;obtain⟨g1,g2,g3⟩:=EI a cl s3.heap.objs.size s3 (upd H2 a o) fp;have f4:∀b∈fp,gP (aK X scope N' cl s3.heap.objs.size s3 (upd H2 a o) fp) [] (upd H2 a o) b:=λb hb =>
  ⟨(f3 b hb).1,(I4.ok.HJ b hb).1,I4.ok.sY b hb,.inl hb,(I4.ok.HJ b hb).2,λp hp=>absurd (show p∈([]:List (Addr×Obj)) from hp) (by simp)⟩
 have Ei:tn 0 h₁:=T.keep 0 _ _ fY λb hb ob q=>Lz b ob (hk b ob q);refine XE (mJ (X:=aK X scope N' cl s3.heap.objs.size s3 (upd H2 a o) fp) rfl hc (F (.ref a) _) g1 g2 g3 T I4 Ei f4 (hl a hn)) λr s' hr=>?_;obtain⟨rfl,σ',H',J',q⟩:=hr;have I5:Inv X pins σ H' s':=AF (C:=s3.heap.objs.size) (h'':=s'.heap) I3 f3 J' (.refl ..);refine hR a H' s3.heap.objs.size s' I5 (I3.A5 (U8 _) J'.free) ?_ q;obtain⟨m,hm,_⟩:=J'.loc;exact⟨m,hm⟩
theorem lN {fc:Sem U5}{o:HO}{after:U5->Env->Sem Fin->Sem Fin}{ta:Addr->nC}{pos:Pos}(L:Links X scope N' lk)(hc:X.calm=true)(hA:qw X fc o)
  (Hz:eval e X.env=comprehension e scope X.env pos fc false (eval g.iter X.env)) (IB:clausesOf e=g::gs)
  (F:∀acc env,jv e 0 g acc env (after acc env)) (hi:PI X g.target g.iter wi)
  (EI:∀a cl C s H ex,PG (aK X scope N' cl C s H ex) g.target (tg a)/\tK (aK X scope N' cl C s H ex) g.ifs (tt a)/\tM (aK X scope N' cl C s H ex) (after (.ref a) (aK X scope N' cl C s H ex).env) (ta a))
  (hs:∀x,V0 g.iter X.env x=pure x) :
  PE X e (λσ H Q=>wi σ H λJ H1=>∀a,H1 a=none->fX J (tg a) (tt a) (ta a) (λ_ H'=>Q (.ref a) H') (dQ lk σ) (upd H1 a o)):=by
 intro pins s σ H Q I h;rw[Hz];obtain⟨cl,AW,nv,k9⟩:=il (env:=X.env) (scope:=scope) λx hx=>I.ok.has x (L.free x hx);refine wpAny_comprehension_free (use:=none) IB hs AW L.kind L.names (bq (hi pins s σ H _ I h) λv s1 h1=>bq h1 λED s2 h2=>?_);refine kn (RR:=λacc C=>compPost (model X.prog X.w) X.A X.xe none (EP X pins σ Q) acc C) L hc hA F EI nv k9 h2 λa H' C s' I' f ⟨m,hm⟩ q=>?_;exact⟨m,hm,λh' xT=>⟨.ref a,H',I'.sameBut f xT,rfl,q⟩⟩
theorem zB {fc:Sem U5}{o:HO}{after:U5->Env->Sem Fin->Sem Fin}{ta:Addr->nC}{pos pos' qY:Pos}{y:Str}{i:Nat}(L:Links X scope N' lk)(hc:X.calm=true)(hA:qw X fc o)
  (xS:WO e (some (.Name y pos')) qY.line X.env=pure true)
  (Hz:evalThenUse e X.env (assign (.Name y pos') X.env)=(do let _ <- comprehension e scope X.env pos fc false (eval g.iter X.env) (some (assign (.Name y pos') X.env));pure ())) (IB:clausesOf e=g::gs)
  (hN:X.N.Nodup) (hy:X.N[i]?=some y) (hx:Loc X.env.scope y) (hf:X.fn y=true\/X.env.scope.names.lookup y=some .local)
  (F:∀acc env,jv e 0 g acc env (after acc env)) (hi:PI X g.target g.iter wi)
  (EI:∀a cl C s H ex,PG (aK X scope N' cl C s H ex) g.target (tg a)/\tK (aK X scope N' cl C s H ex) g.ifs (tt a)/\tM (aK X scope N' cl C s H ex) (after (.ref a) (aK X scope N' cl C s H ex).env) (ta a))
  (hs:∀x,V0 g.iter X.env x=pure x) :
  PS X (.Assign [.Name y pos'] e qY) (λD σ H=>wi σ H λJ H1=>∀a,H1 a=none->fX J (tg a) (tt a) (ta a) (λ_ H'=>D.nx (σ.set i (some (.ref a))) H') (dQ lk σ) (upd H1 a o)):=by
 intro pins s σ H D I h;rw[exec_Assign_Name_used _ _ _ _ xS,Hz];refine U6 (W7 (U6 (U6 ?_)));obtain⟨cl,AW,nv,k9⟩:=il (env:=X.env) (scope:=scope) λx hx=>I.ok.has x (L.free x hx);refine bq (wpAny_comprehension_free (use:=some (assign (.Name y pos') X.env)) (Q:=λ_ s'=>SP X pins D .next s') IB hs AW L.kind L.names (bq (hi pins s σ H _ I h) λv s1 h1=>bq h1 λED s2 h2=>?_)) λ_ s' q=>Vg (Vg q)
 refine kn (Q:=λv H'=>D.nx (σ.set i (some v)) H') (RR:=λacc C=>compPost (model X.prog X.w) X.A X.xe (some (assign (.Name y pos') X.env)) (λ_ s'=>SP X pins D .next s') acc C) L hc hA F EI nv k9 h2 λa H' C s' I' f ⟨m,hm⟩ q=>?_
 show VA _ _ (assign (.Name y pos') X.env (.ref a)) _ _ s';have UN:∃o,s'.heap.get? C=some o:=by obtain⟨o,_,_,ho,_⟩:=hm;exact⟨o,ho⟩
 refine wpAny_assign_Name (nM I' hN hy hx (v:=.ref a) (u:=.ref a) rfl (λs4 I4 k4=>?_) hf);obtain⟨a4,R6,Tv⟩:=k4;have AU:C≠a4:=by
  rcases Tv with z|z
  ·rw[z];exact f.2.1
  ·exact(f.2.2.2.2.1 y a4 z).symm
 exact⟨m,hm.at' (λo e=>(R6.2 C AU).trans e),λh' xT=>⟨_,H',I4.sameBut f xT,q⟩⟩
end
end L2
namespace L2.Q
open PySem PySem.Spec PySem.SeqAt PyProof.Rows
def QV:Option B->Option B
 |some (.own d)=>some (.val false d)
 |some (.shl _ d)=>some (.val false d)
 |b=>b
def cT (lk:List (Option Nat))(β:a8):a8:=lk.map λl=>match l with|some j=>(match β[j]? with|some b=>QV b|none=>none)|none=>none
def MV:Option (Option B)->Bool
 |some (some (.hand _))=>true
 |_=>false
def a7 (lk:List (Option Nat))(β:a8)(own:Nat->List Addr)(i:Nat):List Addr:=match lk[i]? with
 |some (some j)=>if MV β[j]?=true then own j else []
 |_=>[]
def f7:a8->a8->Prop
 |[],_=>True
 |some (.hand ok)::a,c=>c.head?=some (some (.hand ok))/\f7 a c.tail
 |_::a,c=>f7 a c.tail
theorem f7.get:∀{a c:a8} {i:Nat} {ok:List Int->Prop},f7 a c->a[i]?=some (some (.hand ok))->c[i]?=some (some (.hand ok))
 |[],_,_,_,_,e=>by simp at e
 |x::a,c,0,ok,h,e=>by
  simp at e;subst e;rw[<- List.head?_eq_getElem?];exact h.1
 |x::a,c,i+1,ok,h,e=>by
  have h':f7 a c.tail:=by
   cases x with
   |none=>exact h
   |some x=>cases x <;> first|exact h|exact h.2
  have:=f7.get (i:=i) h' (by simpa using e)
  rwa [List.getElem?_tail]at this
section
variable {P:U_}{w:Vl}{C:Cfg}{σ σ':St}{H H' H1:Hp}{β βi:a8}{own dq:Nat->List Addr}{lk:List (Option Nat)}{a:Addr}
theorem b3 {i:Nat}{c:Addr}(h:c∈a7 lk β own i):∃j,lk[i]?=some (some j)/\MV β[j]?=true/\c∈own j:=by
 unfold a7 at h
 split at h
 ·next j e =>
  by_cases q:MV β[j]?=true
  ·rw[if_pos q]at h;exact⟨j,e,q,h⟩
  ·rw[if_neg q]at h;cases h
 ·cases h
theorem aW:∀c,Wn (a7 lk β own) c->Wn own c:=λc ⟨i,h⟩=>let ⟨j,_,_,h⟩:=b3 h;⟨j,h⟩
theorem gH {i j:Nat}{v:V}(h:lk[i]?=some (some j))(e:σ[j]?=some (some v)):(dQ lk σ)[i]?=some (some v):=by
 unfold dQ;rw[Vq,h];simp only[Yt];rw[e]
theorem g7 {i:Nat}{b:B}(h:(cT lk β)[i]?=some (some b)):∃j b',lk[i]?=some (some j)/\β[j]?=some (some b')/\QV (some b')=some b:=by
 unfold cT at h;rw[Vq]at h;cases q:lk[i]? with
 |none=>rw[q]at h;cases h
 |some l =>
  rw[q]at h;cases l with
  |none=>cases h
  |some j =>
   simp only[Yt]at h;cases q2:β[j]? with
   |none=>rw[q2]at h;cases h
   |some b2 =>
    rw[q2]at h;simp only[Y4]at h;cases b2 with
    |none=>cases h
    |some b'=>exact⟨j,b',rfl,q2,h⟩
theorem cq.enter (s:cq P w C σ H β own)(ha:H a=none)(inj:∀(i i' j:Nat),lk[i]?=some (some j)->lk[i']?=some (some j)->i=i'):
  cq P w (C.u λc=>c=a) (dQ lk σ) (upd H a (.lst [])) (cT lk β) (a7 lk β own):=by
 have sm:au H (upd H a (.lst [])):=au.new ha;have na:∀{i c},c∈own i->c≠a:=λ{i c} hc z=>(s.dm i c hc).1 (by rw[z];exact ha)
 have gr:∀k,∀c,gb (C.u λc=>c=a) (Wn (a7 lk β own)) k c->gb C (Wn own) k c\/H c=none:=λk c z=>by
  rcases z with z|z
  ·exact .inl (.inl (ju aW k c z))
  ·exact .inr (by rw[z];exact ha)
 refine⟨by unfold cT dQ;simp,λi y d e=>?_,λi d e=>?_,λi ok e=>?_,λi c h=>?_,λi i' c h1 h2=>?_,λi=>?_,s.kp.trans sm.kp,λc z e=>s.hX c z (sm.free e),λi y d e=>by
  obtain⟨j,b',e1,e2,e3⟩:=g7 e;cases b' <;> cases e3⟩
 ·obtain⟨j,b',e1,e2,e3⟩:=g7 e;cases b' with
  |val y' d' =>
   cases e3;obtain⟨v,h1,h2⟩:=s.val j y d e2;exact⟨v,gH e1 h1,(aA.grow (gr _) h2).same sm⟩
  |own d' =>
   cases e3;obtain⟨v,h1,h2,h3⟩:=s.ow j d e2;refine⟨v,gH e1 h1,aA.same sm (h2.rep λc hc z=>?_)⟩;rcases z with z|z
   ·obtain⟨i',gc⟩:=z;obtain⟨j',q1,q2,q3⟩:=b3 gc;have:=s.mS j j' c hc q3;subst this;rw[e2]at q2;cases q2
   ·exact na hc z
  |hand ok=>cases e3
  |shl y' d' =>
   cases e3;obtain⟨v,h1,h2,h3⟩:=s.shl j y' d e2;refine⟨v,gH e1 h1,aA.same sm (h2.rep (λc hc z=>?_) λds vs r=>ak.grow (λc z=>?_) r)⟩
   ·rcases z with z|z
    ·obtain⟨i',gc⟩:=z;obtain⟨j',q1,q2,q3⟩:=b3 gc;have:=s.mS j j' c hc q3;subst this;rw[e2]at q2;cases q2
    ·exact na hc z
   ·rcases gr _ c z with z|z
    ·refine .inl ?_;rcases z with z|z
     ·cases y' with
      |true=>exact .inl (.inl z)
      |false=>exact .inl z
     ·exact .inr z
    ·exact .inr z
 ·obtain⟨j,b',e1,e2,e3⟩:=g7 e;cases b' <;> cases e3
 ·obtain⟨j,b',e1,e2,e3⟩:=g7 e;cases b' with
  |val y' d'=>cases e3
  |own d'=>cases e3
  |shl y d=>cases e3
  |hand vU =>
   cases e3;obtain⟨h,ns,h1,h2,h3,h4,h5⟩:=s.pZ j ok e2;refine⟨h,ns,gH e1 h1,sm _ _ h2,h3,?_,h5⟩;unfold a7;rw[e1];simp only;rw[e2];exact(if_pos rfl).trans h4
 ·obtain⟨j,q1,q2,q3⟩:=b3 h;obtain⟨g1,g2,g3,g4⟩:=s.dm j c q3;rw[ar (na q3)];exact⟨g1,g2,g3,na q3⟩
 ·obtain⟨j,q1,q2,q3⟩:=b3 h1;obtain⟨j',QE,Ux,Sg⟩:=b3 h2;have:=s.mS j j' c q3 Sg;subst this;exact inj _ _ _ q1 QE
 ·unfold a7
  split
  ·next j e =>
   split
   ·exact s.pS j
   ·exact Wc
  ·exact Wc
theorem cq.FA {o:HO}(s:cq P w (C.u λc=>c=a) σ H β own){oa:HO}(ha:H a=some oa)(ht:∀xs,oa≠.tup xs)(h0:C.H0 a=none):cq P w (C.u λc=>c=a) σ (upd H a o) β own:=by
 have k:Kp (·=a) H (upd H a o):=iD ha ht;have na:∀{i c},c∈own i->c≠a:=λ{i c} hc=>(s.dm i c hc).2.2.2;refine⟨s.len,λi y d e=>let ⟨v,h1,h2⟩:=s.val i y d e;⟨v,h1,h2.keep (k.mono λc z=>.inr z)⟩,λi d e=>let ⟨v,h1,h2,h3⟩:=s.ow i d e;⟨v,h1,h2.keep k.tup (λc hc oc ec=>k.out c oc ec (na hc)),h3⟩,
  λi ok e=>?_,λi c h=>?_,s.mS,s.pS,⟨λc oc z n=>k.out c oc (s.kp.out c oc z n) λq=>?_,λc xs z=>k.tup c xs (s.kp.tup c xs z)⟩,λc z=>?_,λi y d e=>let ⟨v,h1,h2,h3⟩:=s.shl i y d e;⟨v,h1,h2.map (λc hc oc ec=>k.out c oc ec (na hc)) (λ_ _ r=>r.keep (k.mono λc z=>.inr z)),h3⟩⟩
 ·obtain⟨h,ns,h1,h2,h3,h4,h5⟩:=s.pZ i ok e;exact⟨h,ns,h1,k.out h _ h2 (na (by rw[h4];simp)),h3,h4,h5⟩
 ·rw[ar (na h)];exact s.dm i c h
 ·rw[q,h0]at z;cases z
 ·by_cases q:c=a
  ·rw[q,az];exact λz=>(nomatch z)
  ·rw[ar q];exact s.hX c z
theorem cq.leave (s:cq P w C σ H1 β own)(i:cq P w (C.u λc=>c=a) σ' H' βi dq)(n:Sn (H1,Wn (a7 lk β own)) H' (Wn dq))(le:∀c,Wn dq c->Wn (a7 lk β own) c)
  (hh:f7 (cT lk β) βi) (hσ:∀(j:Nat) (ok:List Int->Prop) (i:Nat),β[j]?=some (some (B.hand ok))->lk[i]?=some (some j)->σ'[i]?=(dQ lk σ)[i]?):cq P w C σ H' β own:=by
 have off:∀{j c},c∈own j->¬ Wn (a7 lk β own) c->∀o,H1 c=some o->H' c=some o:=λ{j c} hc nw o e=>n.k.out c o e λz=>z.elim nw λz=>(s.dm j c hc).1 z;have Kk:∀{j c},c∈own j->MV β[j]?=false->¬ Wn (a7 lk β own) c:=λ{j c} hc q Dv=>by
  obtain⟨i',gc⟩:=Dv;obtain⟨j',q1,q2,q3⟩:=b3 gc;have:=s.mS j j' c hc q3;subst this;rw[q]at q2;cases q2
 have hN:∀(j:Nat) (ok:List Int->Prop),β[j]?=some (some (B.hand ok))->∃a ns,σ[j]?=some (some (V.ref a))/\H' a=some (.lst (ns.map V.int))/\ok ns/\own j=[a]/\((∀b,¬ C.IO b)\/C.IO a):=λj ok e=>by
  obtain⟨h,ns,h1,h2,h3,h4,h5⟩:=s.pZ j ok e
  by_cases q:Wn (a7 lk β own) h
  ·obtain⟨i',gc⟩:=q;obtain⟨j',q1,q2,q3⟩:=b3 gc;have:=s.mS j j' h (by rw[h4];simp) q3
   subst this;have eB:(cT lk β)[i']?=some (some (.hand ok)):=by
    unfold cT;rw[Vq,q1];simp only[Yt];rw[e];rfl
   obtain⟨h',g_,g1,g2,g3,g4,g5⟩:=i.pZ i' ok (hh.get eB);rw[hσ j ok i' e q1,gH q1 h1]at g1;cases g1;exact⟨h,g_,h1,g2,g3,h4,h5⟩
  ·exact⟨h,ns,h1,off (by rw[h4];simp) q _ h2,h3,h4,h5⟩
 refine⟨s.len,λj y d e=>?_,λj d e=>?_,hN,λj c hc=>?_,s.mS,s.pS,i.kp,i.hX,λj y d e=>by
  obtain⟨v,h1,h2,h3⟩:=s.shl j y d e;refine⟨v,h1,h2.map (λc hc o eo=>off hc (Kk hc (by rw[e];rfl)) o eo) (λds vs r=>?_),h3⟩
  have g:ak P w (λc=>gb C (Wn own) (yk y) c\/H1 c=none) H1 ds vs:=ak.grow (λc z=>z) r;refine ak.aS (λc z=>.inl z) (g.keep (n.k.mono λc z=>z.imp (λz=>?_) id));cases y with
  |true=>exact .inl (.inl (aW c z))
  |false=>exact .inl (aW c z)⟩
 ·obtain⟨v,h1,h2⟩:=s.val j y d e;have g:aA P w (λc=>gb C (Wn own) (yk y) c\/H1 c=none) H1 d v:=aA.grow (λc z=>z) h2;refine⟨v,h1,aA.aS (λc z=>.inl z) (g.keep (n.k.mono λc z=>z.imp (λz=>?_) id))⟩;cases y with
  |true=>exact .inl (.inl (aW c z))
  |false=>exact .inl (aW c z)
 ·obtain⟨v,h1,h2,h3⟩:=s.ow j d e;exact⟨v,h1,h2.keep n.k.tup (λc hc o eo=>off hc (Kk hc (by rw[e];rfl)) o eo),h3⟩
 ·obtain⟨g1,g2,g3,g4⟩:=s.dm j c hc
  by_cases q:Wn (a7 lk β own) c
  ·obtain⟨i',gc⟩:=q;obtain⟨j',q1,q2,q3⟩:=b3 gc;have:=s.mS j j' c hc q3;subst this;cases e:β[j]? with
   |none=>rw[e]at q2;cases q2
   |some b =>
    rw[e]at q2;cases b with
    |none=>cases q2
    |some b =>
     cases b with
     |val y d=>cases q2
     |own d=>cases q2
     |shl y d=>cases q2
     |hand ok =>
      obtain⟨h,ns,k1,k2,k3,k4,k5⟩:=hN j ok e;rw[k4]at hc;rw[Vn.mp hc]at g3 g4 ⊢
      rw[k2];exact⟨λz=>(nomatch z),λxs z=>(by cases z),g3,g4⟩
  ·cases e:H1 c with
   |none=>exact absurd e g1
   |some o=>rw[off hc q o e];exact⟨λz=>(nomatch z),λxs z=>g2 xs (by rw[e];exact z),g3,g4⟩
end
def IV:a_:=λβ R=>R true β
theorem zE {X:Cx}{C:Cfg}:tK X [] (jw X C true IV):=CC.pre λσ H Q ⟨β,own,s,q⟩=>q H own (Out.refl s _)
theorem zD {X:Cx}{C:Cfg}{p:Bool}{c:Expr}{τ:a_}(h:tL X C p c τ):tK X [c] (jw X C p τ):=CB h.pt
def n9 (γ:dY)(τ:a_)(φ:aZ)(ds:List D)(k:Kd)(β0:a8)(K:List D->Prop):Prop:=∃I:Nat->a8->List D->Prop,I 0 β0 [] /\
 (∀i d β o,ds[i]?=some d->I i β o->γ d (sk k d) β λβ1=>τ β1 λt β2=>if t=true then φ β2 λx kx β3=>EB kx x/\o.length<Vh/\I (i+1) β3 (o++[x]) else I (i+1) β2 o)/\∀β o,I ds.length β o->f7 β0 β/\K o
theorem n9.mono {γ:dY}{τ:a_}{φ:aZ}{ds:List D}{k:Kd}{β0:a8}{K K':List D->Prop}(h:∀o,K o->K' o)(q:n9 γ τ φ ds k β0 K):n9 γ τ φ ds k β0 K':=let ⟨I,h0,h1,h2⟩:=q;⟨I,h0,h1,λβ o z=>⟨(h2 β o z).1,h _ (h2 β o z).2⟩⟩
section
variable {X:Cx}{C:Cfg}{lk:List (Option Nat)}{γ:dY}{τ:a_}{φ:aZ}{T:List Nat}{pc pe:Bool}
theorem oO {σ:St}{H1:Hp}{β:a8}{own:Nat->List Addr}{a:Addr}{J:It}{ds:List D}{k:Kd}{K:List D->Prop}{End:Hp->Prop}
  (γm:∀d k β R R',(∀r,R r->R' r)->γ d k β R->γ d k β R') (τm:∀β R R',(∀d β,R d β->R' d β)->τ β R->τ β R') (φm:∀β R R',(∀d k β,R d k β->R' d k β)->φ β R->φ β R')
  (inj:∀(i i' j:Nat),lk[i]?=some (some j)->lk[i']?=some (some j)->i=i') (hT:∀i∈T,∀j,lk[i]?≠some (some j))
  (s1:SQ X C σ H1 β own) (ha:H1 a=none) {hp:Bool} (B0:hp=true->(pc&&pe)=true) (hk:hold k hp) (it:wU X (av C (Wn own) k) J ds H1) (q:n9 γ τ φ ds k (cT lk β) K)
  (fin:∀o H',K o->Out X C σ H1 own (pc&&pe) β H' own->KV X.prog X.w C (H1,Wn own) own H' .own (.lst o) (.ref a)->End H') :
  fX J (λv σ H Q=>∃own β d k,SQ X (C.u λc=>c=a) σ H β own/\Rp X (gb (C.u λc=>c=a) (Wn own) k) H d v/\γ d k β λβ'=>∀σ' aN,SQ X (C.u λc=>c=a) σ' H β' aN->(∀a,Wn aN a->Wn own a)->(∀j,j∉T->σ'[j]?=σ[j]?)->Q σ' H)
   (jw X (C.u λc=>c=a) pc τ) (λN σ H=>tQ X (C.u λc=>c=a) pe φ σ H λv H1=>∃xs,H1 a=some (.lst xs)/\xs.length<Vh/\N σ (upd H1 a (.lst (xs++[v]))))
   (λ_ H'=>End H') (dQ lk σ) (upd H1 a (.lst [])):=by
 obtain⟨I,i0,i1,i2⟩:=q;have h0:C.H0 a=none:=VT λz=>s1.hX a z ha;have sm:au H1 (upd H1 a (.lst [])):=au.new ha;have MR:∀c,Wn (a7 lk β own) c->c≠a:=λc z e=>by
  obtain⟨j,hj⟩:=aW c z;exact(s1.dm j c hj).1 (by rw[e];exact ha)
 let S:Nat->St->Hp->Prop:=λi σ' H'=>∃βi dq vs o A,SQ X (C.u λc=>c=a) σ' H' βi dq/\Sn (H1,Wn (a7 lk β own)) H' (Wn dq)/\(∀c,Wn dq c->Wn (a7 lk β own) c)/\H' a=some (.lst vs)/\aQ X.prog X.w H' o vs A/\A.Nodup/\(∀c∈A,H1 c=none/\c≠a) /\
  ((pc&&pe)=true->au H1 H')/\(∀j,j∉T->σ'[j]?=(dQ lk σ)[j]?)/\I i βi o
 have W':Addr->Prop:=λb=>av C (Wn own) k b\/H1 b=none;have EC:=it (λb=>av C (Wn own) k b\/H1 b=none) λb z=>z;have kI:∀{H':Hp} {dq:Nat->List Addr},Sn (H1,Wn (a7 lk β own)) H' (Wn dq)->((pc&&pe)=true->au H1 H')->Kp (λb=>av C (Wn own) k b\/H1 b=none) H1 H':=λn pu=>by
  cases k with
  |own=>exact n.k.mono λb z=>z.imp (λz=>.inl (aW b z)) id
  |e8=>exact n.k.mono λb z=>z.imp (λz=>.inl (aW b z)) id
  |old=>exact n.k.mono λb z=>z.imp (aW b) id
  |bor =>
   cases hp with
   |false=>exact hk.elim
   |true=>exact(pu (B0 rfl)).kp.mono λb z=>.inr z
 refine⟨λi m σ' H'=>i<=ds.length/\m=ds.length-i/\S i σ' H',⟨_,Vv _,rfl,cT lk β,a7 lk β own,[],[],[],s1.enter ha inj,⟨λb z=>.inl z,sm.kp,λb z e=>z (sm.free e)⟩,λ_ z=>z,az,⟨rfl,rfl⟩,Wc,λc hc=>(nomatch hc),λ_=>sm,λ_ _=>rfl,i0⟩,?_⟩;rintro i m σ2 H2 ⟨hi,rfl,βi,dq,vs,o,A,sq,sn,le,IC,os,nd,nw,pu,st,hl⟩;obtain⟨c4,nj⟩:=EC i H2 (kI sn pu)
 by_cases dU:i<ds.length
 ·right
  have hd:ds[i]?=some ds[i]:=Vf dU;obtain⟨go,yl⟩:=c4 _ hd;refine⟨go,λσ' H'=>S (i+1) σ' H',λσ' H' h=>⟨_,by omega,dU,rfl,h⟩,λx H3 y=>?_⟩
  obtain⟨s3,r3⟩:=yl x H3 y;have P_:∀{dq:Nat->List Addr},(∀c,Wn dq c->Wn (a7 lk β own) c)->∀c,gb (C.u λc=>c=a) (Wn dq) k c->av C (Wn own) k c\/H1 c=none:=λle c z=>z.elim (λz=>.inl (ju (λc z=>aW c (le c z)) k c z)) λz=>.inr (by rw[z];exact ha)
  refine⟨dq,βi,_,_,sq.same s3,lG (aA.aS (P_ le) r3),γm _ _ _ _ _ (λβ4 q σ4 lP s4 w4 t4=>?_) (i1 i _ βi o hd hl)⟩;have GJ:∀c,Wn lP c->Wn (a7 lk β own) c:=λc z=>le c (w4 c z);refine⟨β4,lP,s4,τm _ _ _ (λt β5 q H5 i8 o5=>?_) q⟩;have Dj:∀c,Wn i8 c->Wn (a7 lk β own) c:=λc z=>GJ c (o5.le c z);have Ax:∀c,c∈a::A->∀oc,H2 c=some oc->H5 c=some oc:=λc hc oc e=>by
   refine o5.sn.k.out c oc (s3 c oc e) λz=>?_;rcases z with z|z
   ·rcases Va.mp hc with rfl|hc
    ·exact MR _ (GJ _ z) rfl
    ·obtain⟨j,hj⟩:=aW c (GJ c z);exact(s1.dm j c hj).1 (nw c hc).1
   ·exact absurd ((s3 c oc e).symm.trans z) (λz=>(nomatch z))
  have SH:∀b xs,H2 b=some (.tup xs)->H5 b=some (.tup xs):=λb xs e=>o5.sn.k.tup b xs (s3 b _ e);have Ip:aQ X.prog X.w H5 o vs A:=os.keep SH λc hc oc e=>Ax c (by simp[hc]) oc e
  have Fy:Sn (H1,Wn (a7 lk β own)) H5 (Wn i8):=(gS (sn.same s3) w4).trans o5.sn;have Jy:(pc&&pe)=true->au H1 H5:=λz=>((pu z).trans s3).trans (o5.pu (BL z)).1;have Ei:∀j,j∉T->σ4[j]?=(dQ lk σ)[j]?:=λj hj=>(t4 j hj).trans (st j hj);cases t with
  |false=>exact⟨β5,i8,vs,o,A,o5.sq,Fy,Dj,Ax a (by simp) _ IC,Ip,nd,nw,Jy,Ei,q⟩
  |true =>
   refine⟨β5,i8,o5.sq,φm _ _ _ (λxd kx β6 ⟨f,hz,q⟩ v H6 zS o6 r6=>?_) q⟩;obtain⟨B',r1,r2,N7⟩:=r6.fl f;have xX:H5 a=some (.lst vs):=Ax a (by simp) _ IC
   have Ez:∀c,c∈a::A->∀oc,H5 c=some oc->H6 c=some oc:=λc hc oc e=>by
    refine o6.sn.k.out c oc e λz=>?_;rcases z with z|z
    ·rcases Va.mp hc with rfl|hc
     ·exact MR _ (Dj _ z) rfl
     ·obtain⟨j,hj⟩:=aW c (Dj c z);exact(s1.dm j c hj).1 (nw c hc).1
    ·exact absurd (e.symm.trans z) (λz=>(nomatch z))
   have jQ:H6 a=some (.lst vs):=Ez a (by simp) _ xX
   have JE:aQ X.prog X.w H6 o vs A:=Ip.keep o6.sn.k.tup λc hc oc e=>Ez c (by simp[hc]) oc e
   have Sm:∀c∈A,c≠a:=λc hc=>(nw c hc).2;have JN:∀c∈B',c≠a:=λc hc z=>by rw[z]at hc;exact absurd (xX.symm.trans (N7 a hc).1) (λz=>(nomatch z))
   have kt:∀b xs,H6 b=some (.tup xs)->upd H6 a (.lst (vs++[v])) b=some (.tup xs):=λb xs z=>by rw[ar (λz'=>by rw[z',jQ]at z;cases z)];exact z
   refine⟨vs,jQ,by rw[JE.length];exact hz,β6,zS,vs++[v],o++[xd],A++B',o6.sq.FA jQ (λxs z=>by cases z) h0,?_,λc z=>Dj c (o6.le c z),az,?_,?_,λc hc=>?_,λz=>?_,Ei,q⟩
   ·have m:=Fy.trans o6.sn;refine⟨m.w,m.k.trans ((iD jQ (λxs z=>by cases z)).mono λb z=>.inr (by rw[z];exact ha)),λb z e=>?_⟩
    by_cases hb:b=a
    ·rw[hb,az]at e;cases e
    ·rw[ar hb]at e;exact m.d b z e
   ·exact(JE.keep kt λc hc oc e=>by rw[ar (Sm c hc)];exact e).append (aQ.one (r1.keep kt λc hc oc e=>by rw[ar (JN c hc)];exact e))
   ·refine V8.mpr ⟨nd,r2,λx hx y hy e=>?_⟩;subst e;have:=(N7 x hy).1;exact(Ip.mR x hx).1 this
   ·rcases VC.mp hc with hc|hc
    ·exact nw c hc
    ·exact⟨Fy.free (N7 c hc).1,JN c hc⟩
   ·refine λb ob e=>?_;rw[ar (λz'=>by rw[z',ha]at e;cases e)]
    exact(o6.pu (Ml z)).1 b ob (Jy z b ob e)
 ·left
  have e:i=ds.length:=by omega
  subst e;obtain⟨hh,q⟩:=i2 βi o hl;have lv:SQ X C σ H2 β own:=s1.leave sq sn le hh λj ok i' e1 e2=>st i' λz=>hT i' z j e2;refine⟨nj (U8 _),fin o H2 q ⟨lv,⟨λb z=>.inl z,sn.k.mono λb z=>z.imp (aW b) id,sn.d⟩,λz=>⟨pu z,rfl⟩,λ_ z=>z⟩ ⟨a::A,⟨a,vs,A,rfl,IC,rfl,os⟩,VL.mpr ⟨λz=>(nw a z).2 rfl,nd⟩,λc hc=>?_⟩⟩;have nv:H1 c=none:=by
   rcases Va.mp hc with rfl|hc
   ·exact ha
   ·exact(nw c hc).1
  exact⟨nv,λG9=>by obtain⟨j,hj⟩:=G9;exact(s1.dm j c hj).1 nv,VT λz=>s1.hX c z nv⟩
theorem fx {scope:Xz}{N':List Str}(L:Links X scope N' lk)(hN:N'.Nodup):∀(i i' j:Nat),lk[i]?=some (some j)->lk[i']?=some (some j)->i=i':=λi i' j h1 h2=>by
 obtain⟨x,a1,a2,_⟩:=L.link i j h1;obtain⟨y,b1,b2,_⟩:=L.link i' j h2;rw[a2]at b2;cases b2;exact(List.getElem?_inj (Vc.mp a1).1 hN).mp (a1.trans b1.symm)
def vF (lk:List (Option Nat))(ι:dg)(γ:dY)(τ:a_)(φ:aZ):aZ:=λβ R=>ι β λds k β1=>hold k false/\n9 γ τ φ ds k (cT lk β1) λo=>R (.lst o) .own β1
variable {scope:Xz}{N':List Str}{tg c4 elt:Expr}{ifs:List Expr}{ι:dg}{pi:Bool}{pos pos' qY:Pos}{y:Str}{i:Nat}
theorem JA (L:Links X scope N' lk)(wt:N'.Nodup)(hT:T.all (λi=>match lk[i]? with|some (some _)=>false|_=>true)=true)(hc:X.calm=true)(hi:yr X C pi tg c4 ι)
  (sC:∀a cl c s H ex,yu (aK X scope N' cl c s H ex) (C.u λc=>c=a) tg T γ) (sA:∀a cl c s H ex,tK (aK X scope N' cl c s H ex) ifs (jw (aK X scope N' cl c s H ex) (C.u λc=>c=a) pc τ)) (τm:∀β R R',(∀d β,R d β->R' d β)->τ β R->τ β R')
  (sG:∀a cl c s H ex,PQ (aK X scope N' cl c s H ex) (C.u λc=>c=a) pe elt φ) (γm:∀d k β R R',(∀r,R r->R' r)->γ d k β R->γ d k β R') (φm:∀β R R',(∀d k β,R d k β->R' d k β)->φ β R->φ β R')
  (hs:∀x,V0 c4 X.env x=pure x:=by intro _;rfl):PQ X C (pi&&(pc&&pe)) (.ListComp elt [⟨tg,c4,ifs,0⟩] scope pos) (vF lk ι γ τ φ):=by
 have HE:∀i∈T,∀j,lk[i]?≠some (some j):=λi hi j e=>by
  have:=Wi.mp hT i hi;rw[e]at this;cases this
 refine⟨λβ R R' k h=>hi.mono β _ _ (λds kd β1 q=>⟨q.1,q.2.mono λo z=>k _ _ _ z⟩) h,?_⟩;refine(lN (g:=⟨tg,c4,ifs,0⟩) (gs:=[]) (tg:=λa v σ H Q=>∃own β d k,SQ X (C.u λc=>c=a) σ H β own/\Rp X (gb (C.u λc=>c=a) (Wn own) k) H d v/\γ d k β λβ'=>∀σ' aN,SQ X (C.u λc=>c=a) σ' H β' aN->(∀a,Wn aN a->Wn own a)->(∀j,j∉T->σ'[j]?=σ[j]?)->Q σ' H)
  (tt:=λa=>jw X (C.u λc=>c=a) pc τ) (ta:=λa N σ H=>tQ X (C.u λc=>c=a) pe φ σ H λv H1=>∃xs,H1 a=some (.lst xs)/\xs.length<Vh/\N σ (upd H1 a (.lst (xs++[v]))))
  L hc i_ rfl rfl (λ_ _=>Bz) hi.pi (λa cl c s H ex=>⟨(sC a cl c s H ex).pg,sA a cl c s H ex,i7 rfl (sG a cl c s H ex).pe⟩) hs).pre λσ H Q ⟨β,own,s,h⟩=>?_
 refine⟨β,own,s,hi.mono β _ _ (λds k β1 ⟨hk,q⟩ J H1 aB o1 it a ha=>?_) h⟩;exact oO γm τm φm (fx L wt) HE o1.sq ha (hp:=false) (λz=>by cases z) hk it q λo H' q o2 r=>q _ _ aB (o1.trans o2) (r.later o1.sn)
theorem Jz {K:D->a8->e7->Prop}(L:Links X scope N' lk)(wt:N'.Nodup)(hT:T.all (λi=>match lk[i]? with|some (some _)=>false|_=>true)=true)(hc:X.calm=true)(hi:∀U,yr X (C.u U) pi tg c4 ι)
  (sC:∀U cl c s H ex,yu (aK X scope N' cl c s H ex) (C.u U) tg T γ) (sA:∀U cl c s H ex,tK (aK X scope N' cl c s H ex) ifs (jw (aK X scope N' cl c s H ex) (C.u U) pc τ)) (τm:∀β R R',(∀d β,R d β->R' d β)->τ β R->τ β R')
  (sG:∀U cl c s H ex,PQ (aK X scope N' cl c s H ex) (C.u U) pe elt φ) (γm:∀d k β R R',(∀r,R r->R' r)->γ d k β R->γ d k β R') (φm:∀β R R',(∀d k β,R d k β->R' d k β)->φ β R->φ β R') (o:Bool)
  (hN:X.N.Nodup) (hy:X.N[i]?=some y:=by rfl) (hx:Loc X.env.scope y:=by first|exact .inl rfl|exact .inr rfl) (hf:X.fn y=true\/X.env.scope.names.lookup y=some .local:=by first|exact .inl rfl|exact .inr rfl|assumption)
  (xS:WO (.ListComp elt [⟨tg,c4,ifs,0⟩] scope pos) (some (.Name y pos')) qY.line X.env=pure true:=by rfl)
  (Hz:evalThenUse (.ListComp elt [⟨tg,c4,ifs,0⟩] scope pos) X.env (assign (.Name y pos') X.env)=(do let _ <- comprehension (.ListComp elt [⟨tg,c4,ifs,0⟩] scope pos) scope X.env (firstIterPos [⟨tg,c4,ifs,0⟩] pos) (newList []) false (eval c4 X.env) (some (assign (.Name y pos') X.env));pure ()):=by first|rfl|exact arm_evalThenUse_ListComp ..)
  (hs:∀x,V0 c4 X.env x=pure x:=by intro _;rfl) :
  PB X C (.Assign [.Name y pos'] (.ListComp elt [⟨tg,c4,ifs,0⟩] scope pos) qY) (λE β=>vF lk ι γ τ φ β λd _ β'=>E.nx (β'.set i (some (match o with|true=>.own d|false=>.val true d)))):=by
 have HE:∀i∈T,∀j,lk[i]?≠some (some j):=λi hi j e=>by
  have:=Wi.mp hT i hi;rw[e]at this;cases this
 refine⟨λE E' β l h=>(hi λ_=>False).mono β _ _ (λds kd β1 q=>⟨q.1,q.2.mono λo z=>l.nx _ z⟩) h,λpins s σ H D I0 ⟨Z,E,β,⟨own,sq,n⟩,h,ok⟩=>?_⟩;refine zB (g:=⟨tg,c4,ifs,0⟩) (gs:=[]) (tg:=λa v σ H Q=>∃own β d k,SQ X (C.u λc=>c=a) σ H β own/\Rp X (gb (C.u λc=>c=a) (Wn own) k) H d v/\γ d k β λβ'=>∀σ' aN,SQ X (C.u λc=>c=a) σ' H β' aN->(∀a,Wn aN a->Wn own a)->(∀j,j∉T->σ'[j]?=σ[j]?)->Q σ' H)
  (tt:=λa=>jw X (C.u λc=>c=a) pc τ) (ta:=λa N σ H=>tQ X (C.u λc=>c=a) pe φ σ H λv H1=>∃xs,H1 a=some (.lst xs)/\xs.length<Vh/\N σ (upd H1 a (.lst (xs++[v]))))
  L hc i_ xS Hz rfl hN hy hx hf (λ_ _=>Bz) (hi λa=>H a=none).pi (λa cl c s H ex=>⟨(sC _ cl c s H ex).pg,sA _ cl c s H ex,i7 rfl (sG _ cl c s H ex).pe⟩) hs pins s σ H D I0 ?_
 refine⟨β,own,sq.vg (C:=C.z) (U:=λa=>H a=none) λa z=>z,(hi λ_=>False).mono β _ _ (λds k β1 ⟨hk,q⟩ J H1 aB o1 it a ha=>?_) h⟩;refine oO (C:=C.u λa=>H a=none) γm τm φm (fx L wt) HE o1.sq ha (hp:=false) (λz=>by cases z) hk it q λol H' q o2 r=>?_
 have r':=r.later o1.sn;have oo:=o1.trans o2;have m:=n.trans oo.sn;cases o with
 |false=>exact ok.nx _ _ _ ⟨_,(cq.Sl oo.sq).d6 (aA.aS (λa z=>z.elim id λz=>z.elim) (KV.rep r')),gu m⟩ q
 |true =>
  obtain⟨A,h1,h2,h3⟩:=r';refine ok.nx _ _ _ ⟨_,oo.sq.y_ h1 h2 λc hc=>⟨(h3 c hc).2.2,(h3 c hc).2.1,(h3 c hc).1⟩,?_⟩ q;exact⟨λb uL=>by
   obtain⟨j,hj⟩:=uL
   by_cases aV:i=j
   ·rw[<- aV,os_eq]at hj;exact .inr (n.free (h3 b hj).1)
   ·rw[bN aV]at hj;exact m.w b ⟨j,hj⟩,m.k,m.d⟩
end
end L2.Q
namespace Zp
open PySem PySem.Spec PyProof.Rows
section
end
end Zp
namespace L2
open PySem PySem.Spec PySem.SeqAt PyProof.Rows Zp
theorem Inv.Cj {X:Cx}{pins:List (Addr×Obj)}{σ:St}{H:Hp}{s:U7}{fp:List Addr}{h':Heap}{x y:V}{u v:U5}(I:Inv X pins σ H s)(hf:∀b∈fp,gP X pins H b)(k:∀c o,c∉fp->s.heap.get? c=some o->h'.get? c=some o)
  (rx:RelV x u) (ry:RelV y v) (hT:IsPair h' s.heap.objs.size u v):Inv X pins σ (upd H s.heap.objs.size (.tup [x,y])) {s with heap:=h'}:=by
 have hn:H s.heap.objs.size=none:=I.bt.fresh (U8 _);have ne:∀{b:Addr} {o:Obj},s.heap.get? b=some o->b≠s.heap.objs.size:=λe=>VJ (Vp e);have nt:∀{b:Addr} {o:HO},H b=some o->b≠s.heap.objs.size:=λe z=>by rw[z,hn]at e;cases e
 have nf:∀{b:Addr} {o:HO},H b=some o->b∉fp:=λe z=>by rw[(hf _ z).1]at e;cases e
 refine I.call (g':=s.gens) (t':=s.toks) (d':=s.drawn) (ch:=fp) ⟨λb o e n _ hc=>k b o hc e,λb o e n _ hc=>⟨o.slots,k b o hc e⟩,λb o e n _=>by rw[ar (ne e)];exact n,λb o e hc=>⟨o,k b o hc e⟩,
  λb xs e=>by rw[ar (nt e)];exact e,λb o u e=>by rw[ar (nt e)];exact e,λb ps e=>⟨#[],by rw[ar (nt e),e];simp⟩⟩ (λb u e=>?_) I.bare λb hb=>?_
 ·by_cases hb:b=s.heap.objs.size
  ·subst hb;rw[az]at e;cases e;exact⟨by show 2<=Vh;decide,[_,_],.cons rx (.cons ry .nil),⟨_,hT,rfl,_,rfl⟩⟩
  ·rw[ar hb]at e;refine(I.bt b u e).lC (λc v hc q=>k c v ?_ q) (λc q=>by rw[ar (nt q)];exact q) λc xs q=>by rw[ar (nt q)];exact q
   rcases hc with z|z
   ·rw[z];exact nf e
   ·exact nf z
 ·obtain⟨f0,f1,f2,f3,f4,f5⟩:=hf b hb;exact⟨f3,f1,f4,f5⟩
theorem Inv.vp {X:Cx}{pins:List (Addr×Obj)}{σ:St}{H:Hp}{s:U7}{fp:List Addr}{h':Heap}(I:Inv X pins σ H s)(hf:∀b∈fp,gP X pins H b)(k:∀c o,c∉fp->s.heap.get? c=some o->h'.get? c=some o):Inv X pins σ H {s with heap:=h'}:=by
 have nf:∀{b:Addr} {o:HO},H b=some o->b∉fp:=λe z=>by rw[(hf _ z).1]at e;cases e
 refine I.call (g':=s.gens) (t':=s.toks) (d':=s.drawn) (ch:=fp) ⟨λb o e n _ hc=>k b o hc e,λb o e n _ hc=>⟨o.slots,k b o hc e⟩,λb o e n _=>n,λb o e hc=>⟨o,k b o hc e⟩,λb xs e=>e,λb o u e=>e,λb ps e=>⟨#[],by rw[e];simp⟩⟩ (λb u e=>?_) I.bare λb hb=>?_
 ·refine(I.bt b u e).lC (λc v hc q=>k c v ?_ q) (λc q=>q) λc xs q=>q;rcases hc with z|z
  ·rw[z];exact nf e
  ·exact nf z
 ·obtain⟨f0,f1,f2,f3,f4,f5⟩:=hf b hb;exact⟨f3,f1,f4,f5⟩
def lr:List D->List D->List D
 |a::as,b::bs=>.tup [a,b]::lr as bs
 |_,_=>[]
theorem qK:∀{as bs:List D} {i:Nat} {d:D},(lr as bs)[i]?=some d->∃a b,as[i]?=some a/\bs[i]?=some b/\d=.tup [a,b]
 |[],_,_,_,h=>by simp[lr]at h
 |_::_,[],_,_,h=>by simp[lr]at h
 |a::as,b::bs,0,_,h=>by simp[lr]at h;exact⟨a,b,rfl,rfl,h.symm⟩
 |a::as,b::bs,i+1,_,h=>by
  obtain⟨x,y,h1,h2,h3⟩:=qK (as:=as) (bs:=bs) (i:=i) (by simpa[lr] using h)
  exact⟨x,y,by simpa using h1,by simpa using h2,h3⟩
theorem qJ:∀(as bs:List D),(lr as bs).length=min as.length bs.length
 |[],_=>by simp[lr]
 |_::_,[]=>by simp[lr]
 |a::as,b::bs=>by simp[lr,qJ as bs]
section
end
section
end
theorem b7 {lo:Int}{n i:Nat}{d:D}(h:(m_ lo n)[i]?=some d):i<n/\d=.int (lo+i):=by
 unfold m_ at h;rw[Vq]at h;have hi:i<n:=by
  by_cases hi:i<n
  ·exact hi
  ·rw[WM (by simpa using hi)]at h;cases h
 rw[WU hi]at h;cases h;exact⟨hi,rfl⟩
theorem bM {lo:Int}{n:Nat}:(m_ lo n).length=n:=by unfold m_;simp
section
end
structure Df (K:PySem.W.Frag)(mg:Str->Option U5)(x:Str)(st:Stmt)(ps:List Str)(f:Addr)(fd:VE):Prop where
 F:BU K x x st f fd
 b:Binds K fd ps []
 m:mg x=some (.ref f)
structure Bs (mg:Str->Option U5):Prop where
 max:mg "max" = none
 min:mg "min" = none
 int:mg "int" = none
 range:mg "range" = none
 sorted:mg "sorted" = none
 set:mg "set" = none
 len:mg "len" = none
 list:mg "list" = none
theorem cf.gQ {k:Nat}{A:VZ}(r:cf k A):A.units+64+1<X0:=by have:=r.un;lia
def Nb (n:Int)(t:List Int):Prop:=∃a b,t=[a,b]/\0<=a/\a<b/\b<n
theorem Nb.ne {n:Int}{t:List Int}(h:Nb n t):t≠[]:=by
 obtain⟨a,b,rfl,_⟩:=h;intro z;cases z
def hZ (n:Int)(ts:List (List Int)):Prop:=∀t∈ts,Nb n t
theorem hZ.ne {n:Int}{ts:List (List Int)}(h:hZ n ts):∀k∈ts,k≠[]:=λk hk=>(h k hk).ne
theorem hZ.nil {n:Int}:hZ n []:=λ_ z=>(nomatch z)
theorem a5 (ts:List (List Int)):D.cQ (ts.map kD)=true:=by
 have fi:∀k:List Int,D.cQ (k.map D.int)=true:=λk=>by
  induction k with
  |nil=>rfl
  |cons i k ih=>show (D.flat (.int i)&&D.cQ (k.map D.int))=true;rw[ih];rfl
 induction ts with
 |nil=>rfl
 |cons t ts ih =>
  show (D.flat (kD t)&&D.cQ (ts.map kD))=true;rw[ih];show (D.cQ (t.map D.int)&&true)=true;rw[fi];rfl
theorem t9 {ts:List (List Int)}(h:∀k∈ts,k≠[])(l:ts.length<=1000000):(match [D.lst (ts.map kD)]with | [.lst ds]=>Bi [.lst ds]|_=>none)=some (.lst ((gR ts).map kD)):=by
 show (match ib (ts.map kD)with|some ks=>if ks.length<=1000000 then some (D.lst ((gR ks).map kD)) else none|none=>none)=_
 rw[oh h];show (if ts.length<=1000000 then some (D.lst ((gR ts).map kD)) else none)=_
 rw[if_pos l]
def Drawn (n:Int)(ts:List (List Int)):Prop:=ts.length<=300/\hZ n ts/\u_ ts/\ts.Nodup
theorem h9 {a b:D}:[a,b].length<=Vh:=by show 2<=Vh;decide
theorem Jg {a b c:D}:[a,b,c].length<=Vh:=by show 3<=Vh;decide
theorem mZ {a:D}:[a].length<=Vh:=by show 1<=Vh;decide
theorem jx {b:Bool}{p q:Prop}(hb:b=true)(h:p):(if b=true then p else q):=by rw[if_pos hb];exact h
theorem de {b:Bool}{p q:Prop}(hb:b=false)(h:q):(if b=true then p else q):=by rw[hb,if_neg (by simp)];exact h
theorem me {c:Prop}[Decidable c]{p q:Prop}(h1:c->p)(h2:¬ c->q):(if decide c=true then p else q):=by
 by_cases h:c
 ·exact jx (by simp[h]) (h1 h)
 ·exact de (by simp[h]) (h2 h)
theorem SO {c:Prop}[Decidable c]{p q:Prop}(h1:¬ c->p)(h2:c->q):(if (!decide c)=true then p else q):=by
 by_cases h:c
 ·exact de (by simp[h]) (h2 h)
 ·exact jx (by simp[h]) (h1 h)
theorem fN {α:Type}(f:α->D):∀l:List α,D.gX (l.map f)=l.map λa=>(f a).pd
 |[]=>rfl
 |a::l=>by
  show (f a).pd::D.gX (l.map f)=_;rw[fN f l];rfl
theorem jX {n:Nat}:∀{xs:List PyData},(∀x∈xs,x.canLay0=true/\x.depth<=n)->Xb xs=true/\Wf xs<=n
 |[],_=>⟨by simp[Xb],by simp[Wf]⟩
 |x::xs,h=>by
  obtain⟨h1,h2⟩:=jX (n:=n) (xs:=xs) λy hy=>h y (by simp[hy])
  obtain⟨g1,g2⟩:=h x (by simp)
  refine⟨by simp[Xb,h1,g1],?_⟩
  simp only[Wf];lia
theorem nN {n:Nat}{ds:List D}(h:∀d∈ds,d.pd.canLay0=true/\d.pd.depth<=n):(D.tup ds).pd.canLay0=true/\(D.tup ds).pd.depth<=n+1:=by
 have e:D.gX ds=ds.map λd=>d.pd:=by
  have:=fN (λd:D=>d) ds;simpa using this
 obtain⟨h1,h2⟩:=jX (n:=n) (xs:=D.gX ds) λx hx=>by
  rw[e]at hx;obtain⟨d,hd,rfl⟩:=VV.mp hx;exact h d hd
 refine⟨by simpa[D.pd,Wq] using h1,?_⟩
 have:(D.tup ds).pd.depth=Wf (D.gX ds)+1:=by simp[D.pd,XF]
 lia
theorem xb {n:Nat}{ds:List D}(h:∀d∈ds,d.pd.canLay0=true/\d.pd.depth<=n):(D.lst ds).pd.canLay0=true/\(D.lst ds).pd.depth<=n+1:=by
 have e:D.gX ds=ds.map λd=>d.pd:=by
  have:=fN (λd:D=>d) ds;simpa using this
 obtain⟨h1,h2⟩:=jX (n:=n) (xs:=D.gX ds) λx hx=>by
  rw[e]at hx;obtain⟨d,hd,rfl⟩:=VV.mp hx;exact h d hd
 refine⟨by simpa[D.pd,Wq] using h1,?_⟩
 have:(D.lst ds).pd.depth=Wf (D.gX ds)+1:=by simp[D.pd,XF]
 lia
theorem cC (i:Int):(D.int i).pd.canLay0=true/\(D.int i).pd.depth<=1:=⟨by simp[D.pd,Wq],by simp[D.pd,XF]⟩
theorem lF (t:List Int):(kD t).pd.canLay0=true/\(kD t).pd.depth<=2:=nN λd hd=>by
 obtain⟨i,_,rfl⟩:=VV.mp hd;exact cC i
theorem d4 (ts:List (List Int)):(D.lst (ts.map kD)).pd.canLay0=true/\(D.lst (ts.map kD)).pd.depth<=3:=xb λd hd=>by
 obtain⟨i,_,rfl⟩:=VV.mp hd;exact lF i
theorem dj {d:D}{n:Nat}(h:d.pd.canLay0=true/\d.pd.depth<=n)(hn:n<=64:=by decide):d.pA=true:=by
 show (d.pd.canLay0&&decide (d.pd.depth<=64))=true;rw[h.1,decide_eq_true (by lia)]
 rfl
theorem iJ {α:Type}[DecidableEq α]{f:α->PyData}(hf:∀a b,V_ (f a) (f b)=decide (a=b)):∀xs ys:List α,Yi (xs.map f) (ys.map f)=decide (xs=ys)
 |[],[]=>by simp[Yi]
 |[],_::_=>by simp[Yi]
 |_::_,[]=>by simp[Yi]
 |x::xs,y::ys=>by
  simp only[VI,Yi];rw[hf,iJ hf xs ys]
  by_cases h1:x=y
  ·by_cases h2:xs=ys <;> simp[h1,h2]
  ·simp[h1]
theorem lg (i j:Int):V_ (D.int i).pd (D.int j).pd=decide (i=j):=by
 simp only[D.pd,V_]
 by_cases h:i=j <;> simp[h]
theorem Bf (t u:List Int):V_ (kD t).pd (kD u).pd=decide (t=u):=by
 show V_ (.tuple (D.gX (t.map D.int))) (.tuple (D.gX (u.map D.int)))=_;rw[fN,fN];simp only[V_];exact iJ lg t u
theorem Be (ts us:List (List Int)):V_ (D.lst (ts.map kD)).pd (D.lst (us.map kD)).pd=decide (ts=us):=by
 show V_ (.list (D.gX (ts.map kD))) (.list (D.gX (us.map kD)))=_;rw[fN,fN];simp only[V_];exact iJ Bf ts us
theorem HR {a b:D}{c:Bool}(h1:a.pA=true)(h2:b.pA=true)(e:V_ a.pd b.pd=c):M9 a b=some (.bl c):=by
 unfold M9;rw[if_pos ⟨h1,h2⟩,e]
theorem uZ {a b:D}{c:Bool}(h1:a.pA=true)(h2:b.pA=true)(e:V_ a.pd b.pd=c):B6 a b=some (.bl (!c)):=by
 unfold B6;rw[if_pos ⟨h1,h2⟩,e]
theorem bL (i j:Int):M9 (.int i) (.int j)=some (.bl (decide (i=j))):=HR (dj (cC i)) (dj (cC j)) (lg i j)
theorem ll (i j:Int):B6 (.int i) (.int j)=some (.bl (!decide (i=j))):=uZ (dj (cC i)) (dj (cC j)) (lg i j)
theorem Bn (ts us:List (List Int)):B6 (.lst (ts.map kD)) (.lst (us.map kD))=some (.bl (!decide (ts=us))):=uZ (dj (d4 ts)) (dj (d4 us)) (Be ts us)
theorem any_map {α:Type}[DecidableEq α]{f:α->D}(hf:∀a b,V_ (f a).pd (f b).pd=decide (a=b))(t:α):∀xs:List α,((D.gX (xs.map f)).any λy=>V_ y (f t).pd)=decide (t∈xs)
 |[]=>rfl
 |x::xs=>by
  show (V_ (f x).pd (f t).pd || (D.gX (xs.map f)).any λy=>V_ y (f t).pd)=_
  rw[any_map hf t xs,hf]
  by_cases h:x=t
  ·simp[h]
  ·have h':¬ t=x:=λz=>h z.symm;simp[h,h']
theorem Bq (t:List Int)(ts:List (List Int)):DS (kD t) (.lst (ts.map kD))=some (decide (t∈ts)):=by
 show (if (kD t).pA=true/\(D.lst (ts.map kD)).pA=true then some _ else none)=_
 rw[if_pos ⟨dj (lF t),dj (d4 ts)⟩,any_map Bf];exact congrArg some (decide_eq_decide.mpr Iff.rfl)
theorem DR (i:Int)(t:List Int):DS (.int i) (kD t)=some (decide (i∈t)):=by
 show (if (D.int i).pA=true/\(D.tup (t.map D.int)).pA=true then some _ else none)=_
 rw[if_pos ⟨dj (cC i),dj (lF t)⟩,any_map lg]
theorem mG (t:List Int)(ts:List (List Int)):uY (kD t) (.lst (ts.map kD))=some (.bl (!decide (t∈ts))):=by unfold uY;rw[Bq];rfl
theorem qj (i:Int)(t:List Int):P8 (.int i) (kD t)=some (.bl (decide (i∈t))):=by unfold P8;rw[DR];rfl
theorem Rr {α:Type}{ds:List α}{i:Nat}{d:α}(h:ds[i]?=some d):qt ds (i:Int)=some d:=by
 have hl:i<ds.length:=(Vc.mp h).1;unfold qt yB;rw[if_pos (by lia),if_pos (by lia),V9]
 exact h
theorem HZ {α:Type}{ds:List α}{i:Int}(h0:0<=i)(h1:i<ds.length):∃d∈ds,qt ds i=some d/\ds[i.toNat]?=some d:=by
 have hl:i.toNat<ds.length:=by lia
 refine⟨ds[i.toNat],Yn hl,?_,Vf hl⟩;have:=Rr (ds:=ds) (i:=i.toNat) (Vf hl)
 rwa [show ((i.toNat:Nat):Int)=i by lia]at this
theorem wH {ds:List D}{i:Nat}{d:D}(h:ds[i]?=some d):qi (.lst ds) (.int (i:Int))=some d:=Rr h
theorem pick {ds:List D}{r:Int}{p:D->Prop}(h0:0<=r)(h1:r<ds.length)(h:∀d∈ds,p d):∃d,qi (.lst ds) (.int r)=some d/\p d:=by
 obtain⟨d,hd,e,_⟩:=HZ h0 h1;exact⟨d,e,h d hd⟩
theorem s9 {i j:Int}:s_ [.int i,.int j]=some (.int (if j<i then j else i)):=by
 first|rfl|(simp[s_])
theorem DX:V3 "enumerate" = some (.type "enumerate"):=by decide +kernel
def Ry (l:Addr):It :=
 ⟨λi H=>∃xs x,H l=some (.lst xs)/\xs[i]?=some x,
  λi H x H'=>∃T,H T=none/\x=.ref T/\∀xs,H l=some (.lst xs)->∃a,xs[i]?=some a/\H'=upd H T (.tup [.int i,a]),
  λi H=>∃xs,H l=some (.lst xs)/\xs[i]?=none⟩
theorem wX {P:U_}{w:Vl}{K:PySem.W.Frag}{elts:List Expr}{kk:Nat}{pos:Pos}{e it l:Addr}(ne:e≠it):
  Turn P w K (.Tuple elts kk pos) (Ry l) [e,it] e (λk h=>(∃old,IsEnum h e it (k:Int) old)/\h.IsListIter it l k) where
 mem:=by simp
 obj:=λk h Lo c hc=> by
  obtain⟨⟨old,h1⟩,h2⟩ := Lo;simp only[Va,WW,or_false]at hc;rcases hc with rfl|rfl
  ·exact⟨_,h1,λv z=>by cases (show Data.fields _=Data.cell v from z)⟩
  ·obtain⟨o,a,_,d⟩:=h2;exact⟨o,a,λv z=>by rw[d]at z;cases z⟩
 keep:=λk h h' ⟨⟨old,h1⟩,h2⟩ kp=>⟨⟨old,kp e (by simp) _ h1⟩,h2.at λo q=>kp it (by simp) o q⟩
 item:=by
  intro X hP hw hK hc i pins s σ H E I hf st hg;obtain⟨⟨old,g1⟩,g2⟩:=st;obtain⟨xs,x,hx,ex⟩:=hg;obtain⟨its,r',pl,_⟩:=I.list (dh.of hx);obtain⟨u,eu,ru⟩:=r'.get ex;refine wpAny_pyNext_enum_item g1 g2 pl.isList (by simpa using eu) ne λh' y1 y2 y3 y4 y5=>?_
  have I1:=(I.Cj (fp:=[e,it]) (x:=.int i) (u:=.int i s.toks) hf (λc o DC q=>y5 c o (λz=>DC (by simp[z])) (λz=>DC (by simp[z])) q) ⟨_,rfl⟩ ru y3).tok (s.toks+1)
  have nT:∀b∈[e,it],upd H s.heap.objs.size (.tup [.int i,x]) b=none:=λb hb=>by
   have:b≠s.heap.objs.size:=by
    simp only[Va,WW,or_false]at hb;rcases hb with rfl|rfl
    ·exact VJ (Vp g1)
    ·obtain⟨o,a,_⟩:=g2;exact VJ (Vp a)
   rw[ar this];exact(hf b hb).1
  refine⟨_,rfl,wpAny_letOwnedTupleGo_enum y1 λh'' z' sb=>?_⟩;have I2:Inv X pins σ (upd H s.heap.objs.size (.tup [.int i,x])) {s with heap:=h'',toks:=s.toks+1}:=by
   refine I1.vp (fp:=[e]) (λb hb=>?_) λc o DC q=>sb.extBut _ _ (by simpa using DC) q
   have q:b=e:=by simpa using hb
   subst q;exact⟨nT b (by simp),(hf b (by simp)).2⟩
  refine⟨.ref s.heap.objs.size,_,I2,rfl,⟨s.heap.objs.size,I.bt.fresh (U8 _),rfl,λIL AG=>?_⟩,⟨⟨_,z'⟩,y2.at λo q=>sb.extBut _ _ (Xn ne) q⟩,nT⟩;rw[hx]at AG;cases AG;exact⟨x,ex,rfl⟩
 done:=by
  intro X hP hw hK hc i pins s σ H E I hf st hg;obtain⟨⟨old,g1⟩,g2⟩:=st;obtain⟨xs,hx,ex⟩:=hg;obtain⟨its,r',pl,_⟩:=I.list (dh.of hx);refine wpAny_pyNext_enum_end (I.ok.hd hc) g1 g2 pl.isList (by simpa using r'.none_of ex) λh' y=>?_
  exact⟨rfl,I.vp (fp:=[e,it]) hf λc o DC q=>y c o (λz=>DC (by simp[z])) q⟩
 self:=λA i s Q E ⟨⟨old,h1⟩,_⟩ q=>wpAny_pyIter_enum h1 q
def oG (ds:List D):List D:=lr (m_ 0 ds.length) ds
section
variable {X:Cx}{W:Addr->Prop}{H:Hp}{l:Addr}{xs:List V}{ds:List D}
theorem jT {i:Nat}{d:D}(h:(oG ds)[i]?=some d):∃b,ds[i]?=some b/\d=.tup [.int i,b]:=by
 obtain⟨a,b,h1,h2,rfl⟩:=qK h;obtain⟨_,rfl⟩:=b7 h1;exact⟨b,h2,by simp⟩
theorem jS:(oG ds).length=ds.length:=by unfold oG;rw[qJ,bM];simp
theorem AD (h1:H l=some (.lst xs))(n1:¬ W l)(r1:kq X W H ds xs):wU X W (Ry l) (oG ds) H:=λW' hW i H' k=>by
 have st:H' l=some (.lst xs):=k.out l _ h1 λz=>(hW l z).elim n1 λq=>by rw[h1]at q;cases q
 have q1:=(ak.grow hW r1).keep k;constructor
 ·intro d hd;obtain⟨b,hb,rfl⟩:=jT hd;obtain⟨x,ex,rx⟩:=ak.get q1 hb;refine⟨⟨xs,x,st,ex⟩,λv H1 ⟨T,hT,e,yl⟩=>?_⟩;obtain⟨x',Rk,eH⟩:=yl xs st;rw[ex]at Rk;cases Rk;subst e eH;exact⟨au.new hT,Rp.Fl hT (.cons rfl (.cons rx .nil))⟩
 ·intro hl;rw[jS]at hl;exact⟨xs,st,WM (by rw[q1.length];exact hl)⟩
variable {φs:tJ}{elts:List Expr}{kk:Nat}{NC:Pos}
def Ka (φs:tJ):Ia:=λρ R=>φs ρ λl=>∃as,l=[.lst as]/\R (oG as)
theorem rC {a:Expr} {p pos:Pos} (hm:X.mg "enumerate" = none) (ha:Mr X [a] φs) (hg:Gl X "enumerate" := by rfl) (hs:Vd [a] X.env=[(false,eval a X.env)]:=by rfl) :
  Ru X (.Tuple elts kk NC) (.Call (.Name "enumerate" p) [a] [] pos) (Ka φs):=by
 refine⟨λρ R R' k q=>ha.mono ρ _ _ (λl Ln=> by obtain⟨as,e,q⟩ := Ln;exact⟨as,e,k _ q⟩) q,λpins s σ H R I ⟨W,ρ,se,q⟩=>?_⟩
 refine Call_ (iC I hg hm DX (WJ (bq (ha.pa pos pins s σ H _ I (Jc.of ha se q λds vs H1 h s1 r1=>(⟨ds,h,s1,r1⟩:∃ds,(∃as,ds=[.lst as]/\∀J H',au H H'->wU X W J (oG as) H'->R J H')/\au H H1/\kq X W H1 ds vs)))
  λus s1 ⟨vs,H1,I1,rv,h⟩=>?_) hs rfl))
 obtain⟨ds,⟨as,e,q⟩,sm,r1⟩:=h;subst e;obtain⟨x,rfl,⟨l1,xs,rfl,g1,n1,w1⟩⟩:=mK r1;obtain⟨v1,rfl,e1⟩:=vals1 rv;cases (show v1=Value.ref l1 from e1)
 obtain⟨its,_,p1,_⟩:=I1.list (dh.of g1);refine call_enumerate_list p1.isList λh' y1 y2 y3 y4=>wpAny_pyIter_enum y1 ?_;have I2:Inv X pins σ H1 {s1 with heap:=h'}:=I1.kept (t':=s1.toks) y4
 refine⟨_,_,_,_,H1,rfl,I2,wX (Nat.succ_ne_self _),⟨⟨_,y1⟩,y2⟩,λb hb=>?_,q _ _ sm (AD g1 n1 w1)⟩;have gI:s1.heap.objs.size<=b:=by
  simp only[Va,WW,or_false]at hb;rcases hb with rfl|rfl <;> first|exact Nat.le_add_right _ _|exact U8 _
 exact I1.A5 gI (I1.bt.fresh gI)
end
end L2
namespace HT
open PySem PySem.Spec PyProof.Rows
theorem jl {α β:Type}{f g:α->Option β}:∀{l:List α},(∀x∈l,f x=g x)->l.filterMap f=l.filterMap g
 |[],_=>rfl
 |x::l,h=>by
  rw[Wl,Wl,h x (by simp),jl λy hy=>h y (by simp[hy])]
theorem rp {α:Type}(xs:List α):((VD xs.length).filterMap λk=>xs[xs.length-1-k]?)=xs.reverse:=by
 have h:=pick_run xs.reverse.toArray 0 xs.length;rw[List.filterMap_map]at h;have e:((VD xs.length).filterMap λk=>xs[xs.length-1-k]?)=(VD xs.length).filterMap ((λx=>xs.reverse.toArray[x]?) ∘ λx=>0+x):=by
  refine jl λk hk=>?_;have M0:=V4.mp hk;show _=xs.reverse.toArray[0+k]?;rw[List.getElem?_toArray,XG,List.getElem?_reverse M0]
 rw[e,h];simp only[Zt];exact Wg (by simp)
theorem m5 (items:Array U5):slicePick items none none (some (-1))=items.toList.reverse.toArray:=by
 have e:(sliceRange (WZ none none (some (-1)) items.size).1 (WZ none none (some (-1)) items.size).2.1 (WZ none none (some (-1)) items.size).2.2)=(VD items.size).map λk=>items.size-1-k:=by
  show sliceRange ((items.size:Int)-1) (-1) (-1)=_;unfold sliceRange;have c:(if (-1:Int)>0 then (if (items.size:Int)-1 < -1 then ((-1)-((items.size:Int)-1)+-1-1) / -1 else 0) else (if (items.size:Int)-1 > -1 then ((items.size:Int)-1-(-1)-(-1)-1) / (-(-1)) else 0)).toNat=items.size:=by
   rw[if_neg (by lia)]
   split
   ·rw[show (-(-1):Int)=1 by rfl,Int.ediv_one];lia
   ·lia
  simp only[c];refine Wk λk hk=>?_;have:=V4.mp hk;lia
 unfold slicePick;rw[e,List.filterMap_map]
 congr 1
 have:=rp items.toList;rw[Vz]at this;rw[<- this];refine jl λk hk=>?_;show items[items.size-1-k]?=_;rw[Vx]
section
variable {prog:U_}{w:Vl}{A:VZ}{E:U5->U7->Prop}{s:U7}
theorem jC {sl:Addr}{n:Nat}{t:Tok}{Q:Int×Int×Nat->U7->Prop}(hs:s.heap.IsSliceOf sl .none .none (.int (-1) t))
  (h:Q ((n:Int)-1,-1,n) s):VA (model prog w) A (Zw (.ref sl) (pure (n:Int))) Q E s:=by
 obtain⟨os,Ls,HB,IA⟩:=id hs;unfold Zw Builtin.Slice.sliceFields;refine U6 (U6 (wpAny_field Ls IA (x:=.none) rfl (U6 (wpAny_field Ls IA (x:=.none) rfl (U6 (wpAny_field Ls IA (x:=.int (-1) t) rfl (Vg ?_)))))));refine U6 (slicePart_int ?_);show VA _ _ (if ((-1:Int)==0)=true then _ else _) _ _ s
 rw[if_neg (by decide)]
 refine U6 (slicePart_none (U6 (slicePart_none (U6 (Vg ?_)))));show VA _ _ (match X8 none none (-1) (n:Int)with|(lo,hi)=>pure (lo,(-1:Int),Xp lo hi (-1))) _ _ s
 have e1:X8 none none (-1) (n:Int)=((n:Int)-1,-1):=by
  unfold X8;simp
 rw[e1];show VA _ _ (pure ((n:Int)-1,(-1:Int),Xp ((n:Int)-1) (-1) (-1))) _ _ s;have e2:Xp ((n:Int)-1) (-1) (-1)=n:=by
  unfold Xp;rw[if_neg (by lia)]
  split
  ·simp
  ·lia
 rw[e2];exact Vg h
theorem jj {t sl:Addr}{items:Array U5}{tk:Tok}{Q:U5->U7->Prop}(ht:Y5 s.heap t items)(hs:s.heap.IsSliceOf sl .none .none (.int (-1) tk))
  (h:Q (.ref s.heap.objs.size) {s with heap:=s.heap.push {cls:=.type "tuple",data:=.seq items.toList.reverse.toArray}})
  (hsz:items.size<=Vh):VA (model prog w) A (Zn (.ref t) (.ref sl)) Q E s:=by
 have wo:sizeOk (.seq items.toList.reverse.toArray):=by
  show items.toList.reverse.toArray.size<=Vh;rw[Vs,X1,Vz];exact hsz
 obtain⟨os,Ls,HB,IA⟩:=id hs;have Tw:s.TypeIs (.ref sl) "slice" := ⟨os,Ls,HB⟩;unfold Zn
 try with_reducible refine WC ?_
 first|refine U6 (Vg ?_)|skip
 refine U6 (wpAny_sequenceKey ht.typeIs (by decide) ?_)
 refine U6 (Ym (name:=Str.ofString "__getitem__") ht.typeIs XO
  (Xm XO ht.typeIs entry_tuple_getitem ?_ (args_tuple_getitem _ _)))
 show VA _ _ (Builtin.Tuple.tupleItemsOf (.ref t) >>= _) _ _ s;refine U6 (tupleItemsOf_ ht ?_);refine U6 (wpAny_typeOf Tw ?_);rw[if_pos (by decide)]
 refine U6 (jC hs ?_);show VA _ _ (if (((items.size:Int)-1)==0&&(-1:Int)==1&&items.size==items.size)=true then _ else _) _ _ s
 rw[if_neg (by simp)]
 have ep:((VD items.size).filterMap λ(m:Nat)=>items[(((items.size:Int)-1)+(m:Int)*(-1)).toNat]?).toArray=items.toList.reverse.toArray:=by
  congr 1
  have:=rp items.toList;rw[Vz]at this;rw[<- this];refine jl λk hk=>?_;have M0:=V4.mp hk;rw[Vx,show (((items.size:Int)-1)+(k:Int)*(-1)).toNat=items.size-1-k by lia]
 rw[ep]
 first
  |exact U6 (m:=Xv _) (Wu (Vg ⟨_,rfl,Vg h⟩) wo)
  |exact U6 (m:=Xv _) (Wu (U6 (Vg (Vg ⟨_,rfl,Vg h⟩))) wo)
  |exact U6 (U6 (m:=Xv _) (Wu (Vg (Vg ⟨_,rfl,Vg h⟩)) wo))
  |exact U6 (U6 (m:=Xv _) (Wu (Vg ⟨_,rfl,Vg h⟩) wo))
end
end HT
namespace L2
open PySem PySem.Spec PySem.SeqAt PyProof.Rows
def L4:D->Option D
 |.lst ds=>some (.lst ds.reverse)
 |.tup ds=>some (.tup ds.reverse)
 |_=>none
theorem ak.rev {P:U_}{w:Vl}{W:Addr->Prop}{H:Hp}:∀{ds:List D} {vs:List V},ak P w W H ds vs->ak P w W H ds.reverse vs.reverse
 |[],_,h=>by rw[show _=[] from h];rfl
 |d::ds,_,⟨v,r,e,h1,h2⟩=>by
  subst e;rw[Yc,Yc];exact(ak.rev h2).append (.one h1)
theorem Vals.rev:∀{xs:List V} {us:List U5},Vals xs us->Vals xs.reverse us.reverse
 |_,_,.nil=>.nil
 |_,_,.cons r t=>by
  rw[Yc,Yc];exact(Vals.rev t).append (.cons r .nil)
section
variable {X:Cx}{e:Expr}{pos p2 p3 p4:Pos}{j:Nat}
theorem F2 {te:TE}(he:PE X e te):PE X (.Subscript e (.Slice none none (some (.UnaryOp .USub (.Constant (.int 1) j p3) p4)) p2) pos) (λσ H Q=>te σ H λx H1=>(∃a xs,x=.ref a/\H1 a=some (.lst xs)/\∀p,H1 p=none->Q (.ref p) (upd H1 p (.lst xs.reverse)))\/(∃a xs,x=.ref a/\H1 a=some (.tup xs)/\∀p,H1 p=none->Q (.ref p) (upd H1 p (.tup xs.reverse)))):=by
 intro pins s σ H Q I h;refine Subscript_ (bq (he pins s σ H _ I h) λv s1 ⟨x,H1,I1,r1,q1⟩=>?_);refine wpAny_Slice ?_;rw[evalPart_none];refine Vg (Vg ?_);rw[evalPart_some];refine bq (En (X:=X) (pos:=p4) yN (a3 (i:=1) (j:=j) (pos:=p3)) pins s1 σ H1 (λv H'=>v=.int (-1)/\H'=H1) I1 ⟨1,rfl,rfl,rfl⟩) λu s3 ⟨y,H3,I3,r3,ey,eH⟩=>?_;subst ey eH;obtain⟨tk,rfl⟩:=(show ∃t,u=Value.int (-1) t from r3)
 have I4:Inv X pins σ H3 {s3 with heap:=s3.heap.push {cls:=.type "slice",data:=.fields #[.none,.none,.int (-1) tk]}}:=I3.kept (t':=s3.toks) λb ob q=>Vi _ q
 have OJ:(s3.heap.push {cls:=.type "slice",data:=.fields #[.none,.none,.int (-1) tk]}).IsSliceOf s3.heap.objs.size .none .none (.int (-1) tk):=Heap.IsSliceOf.new ..
 generalize S1:({s3 with heap:=s3.heap.push {cls:=.type "slice",data:=.fields #[.none,.none,.int (-1) tk]}}:U7)=s4 at I4 ⊢
 have Kj:s4.heap.IsSliceOf s3.heap.objs.size .none .none (.int (-1) tk):=by rw[<- S1];exact OJ
 have main:∃T id,typeLookup (.type T) "__getitem__" = pure (some (.builtin id))/\s4.TypeIs v T/\VA (model X.prog X.w) X.A (Zn v (.ref s3.heap.objs.size)) (EP X pins σ Q) X.xe s4:=by
  rcases q1 with⟨a,xs,rfl,hx,q⟩|⟨a,xs,rfl,hx,q⟩
  ·cases (show v=Value.ref a from r1)
   obtain⟨its,r,ht,hz⟩:=I4.list (dh.of hx);have hlen:=r.length;refine⟨"list",_,YZ.lookup,ht.isList.typeIs,?_⟩;refine wpAny_getItem_list_slice ht.isList Kj .none .none (.int (-1) tk) (by simp) ?_ (by rw[Vs] <;> lia)
   rw[HT.m5];refine⟨.ref s4.heap.objs.size,_,I4.laid (t':=s4.toks) (o:=.lst xs.reverse) (λb ob q=>Vi _ q) (U8 _) ?_,rfl,q _ (I4.bt.fresh (U8 _))⟩;exact⟨by rw[X1];lia,_,0,by simpa using Vals.rev r,VS _ rfl⟩
  ·cases (show v=Value.ref a from r1)
   obtain⟨its,r,ht,hz⟩:=I4.tuple (qH.of hx);have hlen:=r.length;refine⟨"tuple",_,XO.lookup,ht.typeIs,?_⟩;refine HT.jj ht Kj ?_ (by rw[Vs] <;> lia)
   refine⟨.ref s4.heap.objs.size,_,I4.laid (t':=s4.toks) (o:=.tup xs.reverse) (λb ob q=>Vi _ q) (U8 _) ?_,rfl,q _ (I4.bt.fresh (U8 _))⟩;exact⟨by rw[X1];lia,_,by simpa using Vals.rev r,IsTup.new _ _⟩
 obtain⟨T,id,hT,ht,hg⟩:=main;show VA (model X.prog X.w) X.A (subscriptTail e (.Slice none none (some (.UnaryOp .USub (.Constant (.int 1) j p3) p4)) p2) v (.ref s3.heap.objs.size)) (EP X pins σ Q) X.xe s4;exact tail_any (ops:=[v,.ref s3.heap.objs.size]) ht hT hg (by with_unfolding_all rfl)
end
end L2
namespace L2.Q
open PySem PySem.Spec PySem.SeqAt PyProof.Rows
def Fi (β:a8):BP:=β.map λb=>match b with|some (.val _ d)=>some d|_=>none
section
variable {P:U_}{w:Vl}{C:Cfg}{σ:St}{H:Hp}{β:a8}{own:Nat->List Addr}{i:Nat}
theorem cq.NY (s:cq P w C σ H β own):Mp P w (av C (Wn own) .old) σ H (Fi β):=⟨s.yD .old,λi d e=>by
 unfold Fi at e;rw[Vq]at e;cases q:β[i]? with
 |none=>rw[q]at e;cases e
 |some x =>
  rw[q]at e;cases x with
  |none=>cases e
  |some x =>
   cases x with
   |val y d'=>cases e;obtain⟨v,h1,h2⟩:=s.val i y d q;exact⟨v,h1,h2.aS λa z=>by cases y <;> first|exact .inl z|exact .inl (.inl z)⟩
   |own d'=>cases e
   |hand ok=>cases e
   |shl y d=>cases e⟩
end
section
variable {X:Cx}{C:Cfg}{tg it:Expr}{ι:Ia}
theorem vH (h:Ru X tg it ι):yr X C true tg it (λβ R=>ι (Fi β) λds=>R ds .old β) :=
 ⟨λβ R R' k q=>h.mono _ _ _ (λd q=>k _ _ _ q) q,h.pi.pre λσ H R AL=>by obtain⟨β,own,s,q⟩:=AL;exact⟨_,_,s.NY,h.mono _ _ _ (λds q J H' s1 it=>q J H' own ((Out.refl s true).same s1) it) q⟩⟩
end
section
variable {P:U_}{w:Vl}{C:Cfg}{σ:St}{H:Hp}{β:a8}{own:Nat->List Addr}{i:Nat}{ok:List Int->Prop}{ns:List Int}
theorem nU:∀{ns:List Int} {vs:List V} {A:List Addr},aQ P w H (ns.map D.int) vs A->vs=ns.map V.int/\A=[]
 |[],_,_,h=>h
 |n::ns,_,_,⟨v,r,A1,A2,e,eA,h1,h2⟩=>by
  obtain⟨rfl,rfl⟩:=nU h2;obtain⟨rfl,rfl⟩:=h1;exact⟨e,by rw[eA];rfl⟩
theorem cq.toHand (s:cq P w C σ H β own)(e:β[i]?=some (some (.own (.lst (ns.map D.int)))))(ho:ok ns)(io:∀b,¬ C.IO b):cq P w C σ H (β.set i (some (.hand ok))) own:=by
 obtain⟨v,h1,⟨a,vs,A',rfl,h2,h3,h4⟩,h5⟩:=s.ow i _ e;obtain⟨rfl,rfl⟩:=nU h4;refine⟨by simp[s.len],λj y d q=>?_,λj d q=>?_,λj vU q=>?_,s.dm,s.mS,s.pS,s.kp,s.hX,λj y d q=>by
  by_cases aV:i=j
  ·subst aV;obtain⟨e',_⟩:=bB q;cases e'
  ·rw[bx aV]at q;exact s.shl j y d q⟩
 ·by_cases aV:i=j
  ·subst aV;obtain⟨e',_⟩:=bB q;cases e'
  ·rw[bx aV]at q;exact s.val j y d q
 ·by_cases aV:i=j
  ·subst aV;obtain⟨e',_⟩:=bB q;cases e'
  ·rw[bx aV]at q;exact s.ow j d q
 ·by_cases aV:i=j
  ·subst aV;obtain⟨e',_⟩:=bB q;cases e';exact⟨a,ns,h1,h2,ho,h3,.inl io⟩
  ·rw[bx aV]at q;exact s.pZ j vU q
end
section
variable {X:Cx}{C:Cfg}{e:Expr}{φ:aZ}{p:Bool}{i:Nat}{x:Str}{pos pos' px ap cp:Pos}{ok:List Int->Prop}
theorem CQ (ok:List Int->Prop)(Pj:∀b,¬ C.IO b)(he:∀U,PQ X (C.u U) p e φ)(hN:X.N.Nodup)(hi:X.N[i]?=some x:=by rfl)(hx:Loc X.env.scope x:=by first|exact .inl rfl|exact .inr rfl)
  (hs:WO e (some (.Name x pos')) pos.line X.env=pure false:=by rfl) (hf:X.fn x=true\/X.env.scope.names.lookup x=some .local:=by first|exact .inl rfl|exact .inr rfl|assumption) :
  PB X C (.Assign [.Name x pos'] e pos) (λE β=>φ β λd k β'=>EB k d/\i<β'.length/\∃ns:List Int,d=.lst (ns.map D.int)/\ok ns/\E.nx (β'.set i (some (.hand ok)))):=by
 have B:=kY (C:=C) (i:=i) (pos:=pos) (pos':=pos') he hN hi hx hs hf;refine⟨λE E' β l q=>(he λ_=>False).mono _ _ _ (λd k β' Km=>by obtain⟨f,h,ns,e,o,q⟩:=Km;exact⟨f,h,ns,e,o,l.nx _ q⟩) q,B.ps.pre λDe σ H ⟨Z,E,β,sb,q,vU⟩=>?_⟩
 refine⟨Z,{E with nx:=λβ'=>∃(ns:List Int) (β2:a8),i<β2.length/\β'=β2.set i (some (.own (.lst (ns.map D.int))))/\ok ns/\E.nx (β2.set i (some (.hand ok)))},β,sb,(he λ_=>False).mono _ _ _ (λd k β' G8=>by obtain⟨f,h,ns,e,o,q⟩:=G8;exact⟨f,ns,β',h,by rw[e],o,q⟩) q,⟨λσ' H' β' ub ⟨ns,β2,hl,e,o,q⟩=>?_,vU.rt,vU.bk,vU.ct⟩⟩
 subst e;obtain⟨own,s,n⟩:=ub;have:=s.toHand (i:=i) (ok:=ok) (get_set hl) o Pj;rw[List.set_set]at this;exact vU.nx _ _ _ ⟨own,this,n⟩ q
theorem cq.putL {P:U_}{w:Vl}{σ:St}{H:Hp}{β:a8}{own:Nat->List Addr}{U U2:Addr->Prop}{ds ds':List D}{vs':List V}{a:Addr}{vs:List V}{A A':List Addr}(s:cq P w (C.u U) σ H β own)(e:β[i]?=some (some (.own (.lst ds))))(h1:σ[i]?=some (some (.ref a)))(h2:H a=some (.lst vs))(h3:own i=a::A)
  (r:aQ P w H ds' vs' A') (nd:A'.Nodup) (hA:∀c∈A',c∈A\/(C.H0 c=none/\¬ Wn own c/\U c)) (hU:∀a,U2 a->U a) (PD:∀c∈A',c∉A->¬ U2 c) :
  cq P w (C.u U2) σ (upd H a (.lst vs')) (β.set i (some (.own (.lst ds')))) (a9 own i (a::A'))/\∀c∈a::A',c∈own i\/(C.H0 c=none/\¬ Wn own c/\U c):=by
 have ha:a∈own i:=by rw[h3];simp
 have nA:a∉A:=by have:=s.pS i;rw[h3]at this;exact(VL.mp this).1
 have na:∀c∈A',c≠a:=λc hc z=>by
  subst z;rcases hA c hc with z|z
  ·exact nA z
  ·exact z.2.1 ⟨i,ha⟩
 have kt:∀b xs,H b=some (.tup xs)->upd H a (.lst vs') b=some (.tup xs):=λb xs z=>by rw[ar (λz'=>by rw[z',h2]at z;cases z)];exact z
 have Rj:∀c∈a::A',c∈own i\/(C.H0 c=none/\¬ Wn own c/\U c):=λc hc=>by
  rcases Va.mp hc with rfl|hc
  ·exact .inl ha
  ·exact(hA c hc).imp (λz=>by rw[h3];simp[z]) id
 refine⟨s.FN e h1 ha ⟨a,vs',A',rfl,az,rfl,r.keep kt λc hc oc ec=>by rw[ar (na c hc)];exact ec⟩ (VL.mpr ⟨λz=>na a z rfl,nd⟩) Rj hU (λc hc z=>?_),Rj⟩
 rcases Va.mp hc with rfl|hc
 ·exact(s.dm i c ha).2.2.2 (hU c z)
 ·by_cases q:c∈A
  ·exact(s.dm i c (by rw[h3];simp[q])).2.2.2 (hU c z)
  ·exact PD c hc q z
theorem zQ {own:Nat->List Addr}{i:Nat}{A':List Addr}(h:∀c∈A',c∈own i):∀c,Wn (a9 own i A') c->Wn own c:=λc Du=>by
 obtain⟨j,hj⟩:=Du
 by_cases aV:i=j
 ·rw[<- aV,os_eq]at hj;exact⟨i,h c hj⟩
 ·rw[bN aV]at hj;exact⟨j,hj⟩
theorem FZ {P:U_}{w:Vl}{H:Hp}{own:Nat->List Addr}{Z:Hp×(Addr->Prop)}{d:D}{v:V}{A:List Addr}(r:Own P w H d v A)(h:∀c∈A,¬ Wn own c/\C.H0 c=none):KV P w C Z own H (sk .e8 d) d v:=by
 have q:aA P w (av C (Wn own) .e8) H d v:=r.rep λc hc z=>z.elim (h c hc).1 λz=>z (h c hc).2;cases d with
 |int i=>exact KV.flat rfl q
 |bl i=>exact KV.flat rfl q
 |cO=>exact KV.flat rfl q
 |str i=>exact KV.flat rfl q
 |_=>exact q
theorem aQ.concat {P:U_}{w:Vl}{H:Hp}{ds:List D}{d:D}{vs:List V}{A:List Addr}(h:aQ P w H (ds++[d]) vs A):∃us v A1 A2,vs=us++[v]/\A=A1++A2/\aQ P w H ds us A1/\Own P w H d v A2:=by
 obtain⟨v,A1,A2,A3,g1,g2,g3,g4,g5⟩:=h.split (i:=ds.length) (d:=d) (by simp)
 rw[List.take_left]at g3;have e3:aQ P w H [] (vs.drop (ds.length+1)) A3:=by simpa using g5
 have hl:=h.length;rw[Vk,Yz]at hl;refine⟨vs.take ds.length,v,A1,A2,?_,by rw[g2,e3.2,Ws],g3,g4⟩
 have dU:ds.length<vs.length:=by lia
 have e1:vs=vs.take ds.length++vs.drop ds.length:=(Xa _ _).symm;rw[VY dU,e3.1]at e1;have:vs[ds.length]=v:=by
  have:=Vf dU;rw[g1]at this;exact(VX this).symm
 rw[this]at e1;exact e1
theorem FW (hN:X.N[i]?=some x:=by rfl)(hv:wQ X.env.scope x:=by first|exact .inl rfl|exact .inr (.inl rfl)|exact .inr (.inr rfl))(hd:(x==("__debug__" : Str))=false:=by decide)(ic:(x==("__classdict__" : Str))=false:=by decide)
  (eE:W9 (.Name x px) "pop" X.env (eval (.Name x px) X.env)=eval (.Name x px) X.env:=by rfl) (eD:(ap.endLine==cp.line)=true:=by rfl) :
  PQ X C false (.Call (.Attribute (.Name x px) "pop" ap) [] [] cp) (λβ R=>∃ds d,β[i]?=some (some (.own (.lst (ds++[d]))))/\R d (sk .e8 d) (β.set i (some (.own (.lst ds))))) :=
 ⟨λβ R R' k Dt=>by obtain⟨ds,d,h1,q⟩:=Dt;exact⟨ds,d,h1,k _ _ _ q⟩,(F5 (apos:=ap) (cpos:=cp) PySem.F.plainAttrs_list PySem.F.slot_list_pop PySem.F.type_list_pop GB (fb (pos:=px) hN hv hd ic) eE eD).pre λσ H Q uL=>by
  obtain⟨β,own,s,ds,d,hb,q⟩:=uL;obtain⟨a,vs,A,h1,h2,h3,h4⟩:=s.Ai hb;obtain⟨us,v,A1,A2,rfl,rfl,g3,g4⟩:=h4.concat;have nd:=s.pS i;rw[h3]at nd;obtain⟨Iq,Gy,JO⟩:=V8.mp (VL.mp nd).2;obtain⟨s2,hA⟩:=s.putL (C:=C) (U:=C.U) (U2:=C.U) (ds':=ds) (vs':=us) (A':=A1) hb h1 h2 h3 g3 Iq (λc hc=>.inl (by simp[hc])) (λ_ z=>z) (λc hc n=>absurd (by simp[hc]) n)
  have h0:∀c∈own i,C.H0 c=none:=by obtain⟨_,_,_,h⟩:=s.ow i _ hb;exact h
  have kt:∀b xs,H b=some (.tup xs)->upd H a (.lst us) b=some (.tup xs):=λb xs z=>by rw[ar (λz'=>by rw[z',h2]at z;cases z)];exact z
  have na:∀c∈A2,c≠a:=λc hc z=>(VL.mp nd).1 (by rw[<- z];simp[hc])
  have le:∀c,Wn (a9 own i (a::A1)) c->Wn own c:=zQ λc hc=>by rw[h3];rcases Va.mp hc with rfl|hc <;> simp[*]
  refine⟨.ref a,h1,.inl ⟨rfl,_,dh.of h2⟩,a,_,v,rfl,rfl,h2,by simp,?_⟩
  rw[List.dropLast_concat];refine q v _ _ ⟨s2,?_,λz=>(nomatch z),le⟩ (FZ (C:=C) (g4.keep kt λc hc oc ec=>by rw[ar (na c hc)];exact ec) λc hc=>⟨λ⟨j,hj⟩=>?_,h0 c (by rw[h3];simp[hc])⟩)
  ·have u:=Sn.upd (Z:=(H,Wn own)) (o':=.lst us) (Sn.refl (H:=H) (W:=Wn own)) h2 (λxs z=>by cases z) ⟨i,by rw[h3];simp⟩
   exact⟨λb z=>.inl (le b z),u.k,u.d⟩
  ·by_cases aV:i=j
   ·rw[<- aV,os_eq]at hj;rcases Va.mp hj with rfl|hj
    ·exact na _ hc rfl
    ·exact JO _ hj _ hc rfl
   ·rw[bN aV]at hj;exact aV (s.mS i j c (by rw[h3];simp[hc]) hj)⟩
end
abbrev JY (l:Bool)(ds:List D):D:=match l with|true=>.lst ds|false=>.tup ds
section
variable {P:U_}{w:Vl}{H:Hp}{A:List Addr}{v:V}{ds:List D}{l:Bool}
theorem rJ {m:Nat}{es:List D}(r:Own P w H (JY l ds) v A)(nd:A.Nodup)(hm:ds[m]?=some (.lst es)):∃a vs c us B,v=.ref a/\H a=some (match l with|true=>.lst vs|false=>.tup vs)/\vs.length=ds.length/\vs[m]?=some (.ref c)/\H c=some (.lst us)/\c∈A/\aQ P w H es us B/\(∀x∈B,x∈A/\x≠c)/\B.Nodup /\
  ∀uQ vn B',aQ P w H uQ vn B'->B'.Nodup->(∀x∈B',x∈B\/x∉A)->(∀x∈B',x≠c)->∃A',Own P w (upd H c (.lst vn)) (JY l (ds.set m (.lst uQ))) v A'/\A'.Nodup/\∀x∈A',x∈A\/x∈B':=by
 have core:∀{vs:List V} {A:List Addr},A.Nodup->aQ P w H ds vs A->∃c us B,vs[m]?=some (.ref c)/\H c=some (.lst us)/\c∈A/\aQ P w H es us B/\(∀x∈B,x∈A/\x≠c)/\B.Nodup /\
   ∀uQ vn B',aQ P w H uQ vn B'->B'.Nodup->(∀x∈B',x∈B\/x∉A)->(∀x∈B',x≠c)->∃A',aQ P w (upd H c (.lst vn)) (ds.set m (.lst uQ)) vs A'/\A'.Nodup/\(∀x∈A',x∈A\/x∈B'):=λ{vs A} nd os=>by
  have hl:=os.length;have S_:m<ds.length:=(Vc.mp hm).1;obtain⟨u,A1,A2,A3,g1,rfl,g3,⟨c,us,B,rfl,h2,rfl,h4⟩,g5⟩:=os.split hm;obtain⟨Iq,Gy,JO⟩:=V8.mp nd;obtain⟨QO,So,QN⟩:=V8.mp Gy;have Su:=(VL.mp QO).1;refine⟨c,us,B,g1,h2,by simp,h4,λx hx=>⟨by simp[hx],λz=>Su (by rw[<- z];exact hx)⟩,(VL.mp QO).2,λuQ vn B' o' n' gI sH=>?_⟩
  have kt:∀b xs,H b=some (.tup xs)->upd H c (.lst vn) b=some (.tup xs):=λb xs z=>by rw[ar (λz'=>by rw[z',h2]at z;cases z)];exact z
  have n1:∀x∈A1,x≠c:=λx hx z=>JO x hx c (by simp) z
  have n3:∀x∈A3,x≠c:=λx hx z=>QN c (by simp) x hx z.symm
  have off:∀x∈B',x∉A1/\x∉A3:=λx hx=>by
   rcases gI x hx with z|z
   ·exact⟨λq=>JO x q x (by simp[z]) rfl,λq=>QN x (by simp[z]) x q rfl⟩
   ·exact⟨λq=>z (by simp[q]),λq=>z (by simp[q])⟩
  have Q4:m<vs.length:=by lia
  have ev:vs=vs.take m++V.ref c::vs.drop (m+1):=by
   have e1:vs=vs.take m++vs.drop m:=(Xa _ _).symm;rw[VY Q4]at e1;have:vs[m]=V.ref c:=by
    have:=Vf Q4;rw[g1]at this;exact(VX this).symm
   rwa [this]at e1
  refine⟨A1++((c::B')++A3),?_,V8.mpr ⟨Iq,V8.mpr ⟨VL.mpr ⟨λz=>sH c z rfl,n'⟩,So,λx hx y hy=>?_⟩,λx hx y hy z=>?_⟩,λx hx=>?_⟩
  ·rw[List.set_eq_take_append_cons_drop,if_pos S_];have q:aQ P w (upd H c (.lst vn)) (ds.take m++.lst uQ::ds.drop (m+1)) (vs.take m++.ref c::vs.drop (m+1)) (A1++((c::B')++A3)) :=
    (g3.keep kt λx hx oc ec=>by rw[ar (n1 x hx)];exact ec).append ⟨.ref c,_,c::B',A3,rfl,rfl,⟨c,vn,B',rfl,az,rfl,o'.keep kt λx hx oc ec=>by rw[ar (sH x hx)];exact ec⟩,g5.keep kt λx hx oc ec=>by rw[ar (n3 x hx)];exact ec⟩
   rw[<- ev]at q;exact q
  ·intro z;subst z;rcases Va.mp hx with rfl|hx
   ·exact n3 _ hy rfl
   ·exact(off x hx).2 hy
  ·subst z;rcases VC.mp hy with hy|hy
   ·rcases Va.mp hy with rfl|hy
    ·exact n1 _ hx rfl
    ·exact(off x hy).1 hx
   ·exact JO x hx x (by simp[hy]) rfl
  ·rcases VC.mp hx with hx|hx
   ·exact .inl (by simp[hx])
   ·rcases VC.mp hx with hx|hx
    ·rcases Va.mp hx with rfl|hx
     ·exact .inl (by simp)
     ·exact .inr hx
    ·exact .inl (by simp[hx])
 cases l with
 |true =>
  obtain⟨a,vs,A',rfl,h2,rfl,h4⟩:=r;obtain⟨na,Ss⟩:=VL.mp nd;obtain⟨c,us,B,q1,q2,q3,q4,q5,q6,q7⟩:=core Ss h4;have ca:c≠a:=λz=>na (by rw[<- z];exact q3)
  refine⟨a,vs,c,us,B,rfl,h2,h4.length,q1,q2,by simp[q3],q4,λx hx=>⟨by simp[(q5 x hx).1],(q5 x hx).2⟩,q6,λuQ vn B' o' n' gI sH=>?_⟩
  obtain⟨A2,g1,g2,g3⟩:=q7 uQ vn B' o' n' (λx hx=>(gI x hx).imp id λz q=>z (by simp[q])) sH
  refine⟨a::A2,⟨a,vs,A2,rfl,by rw[ar ca.symm];exact h2,rfl,g1⟩,VL.mpr ⟨λz=>?_,g2⟩,λx hx=>?_⟩
  ·rcases g3 a z with z|z
   ·exact na z
   ·rcases gI a z with z|z
    ·exact na (q5 a z).1
    ·exact z (by simp)
  ·rcases Va.mp hx with rfl|hx
   ·exact .inl (by simp)
   ·exact(g3 x hx).imp (λz=>by simp[z]) id
 |false =>
  obtain⟨a,vs,rfl,h2,h4⟩:=r;obtain⟨c,us,B,q1,q2,q3,q4,q5,q6,q7⟩:=core nd h4;have ca:a≠c:=λz=>by rw[z,q2]at h2;cases h2
  refine⟨a,vs,c,us,B,rfl,h2,h4.length,q1,q2,q3,q4,q5,q6,λuQ vn B' o' n' gI sH=>?_⟩;obtain⟨A2,g1,g2,g3⟩:=q7 uQ vn B' o' n' gI sH;exact⟨A2,⟨a,vs,rfl,by rw[ar ca];exact h2,g1⟩,g2,g3⟩
end
section
variable {X:Cx}{C:Cfg}{e k:Expr}{φ φk:aZ}{i:Nat}{x:Str}{pos px kp ap cp:Pos}
theorem j9 (l:Bool)(he:∀U,PQ X (C.u U) true e φ)(hk:∀U,PQ X (C.u U) true k φk)(hN:X.N[i]?=some x:=by rfl)(hv:wQ X.env.scope x:=by first|exact .inl rfl|exact .inr (.inl rfl)|exact .inr (.inr rfl))(hd:(x==("__debug__" : Str))=false:=by decide)(ic:(x==("__classdict__" : Str))=false:=by decide)
  (Tf:qu k:=by exact λ_ _=>rfl)
  (eE:W9 (.Subscript (.Name x px) k kp) "append" X.env (eval (.Subscript (.Name x px) k kp) X.env)=eval (.Subscript (.Name x px) k kp) X.env:=by rfl)
  (mh:((Wt cp (Vd [e] X.env)).all (λx=>!x.1)&&(Y2 cp (X_ [] X.env)).all (λx=>x.1.isSome)&&decide ([e].length+([]:List XW).length+(if ([]:List XW).isEmpty then 0 else 1)<30))=true:=by rfl)
  (eD:(ap.endLine==cp.line)=true:=by rfl) (hs:Vd [e] X.env=(false,eval e X.env)::Vd [] X.env:=by rfl) (eC:(Wt cp (Vd [] X.env)).any (·.1)=false:=by rfl)
  (xS:WO (.Call (.Attribute (.Subscript (.Name x px) k kp) "append" ap) [e] [] cp) none pos.line X.env=pure false:=by rfl) :
  PB X C (.Expr (.Call (.Attribute (.Subscript (.Name x px) k kp) "append" ap) [e] [] cp) pos) (λE β=>(∃d0,β[i]?=some (some (.own d0)))/\φk β λjd _ β1=>∃ds j m es,jd=.int j/\β1[i]?=some (some (.own (JY l ds)))/\yB ds.length j=some m/\ds[m]?=some (.lst es)/\φ β1 λd kd β2=>EB kd d/\β2[i]?=some (some (.own (JY l ds)))/\es.length<Vh/\E.nx (β2.set i (some (.own (JY l (ds.set m (.lst (es++[d]))))))) ):=by
 refine⟨λE E' β l Lm=> by obtain⟨q0,q⟩ := Lm;exact⟨q0,(hk λ_=>False).mono _ _ _ (λjd _ β1 Ll=> by obtain⟨ds,j,m,es,h1,h2,h3,h4,q⟩ := Ll;exact⟨ds,j,m,es,h1,h2,h3,h4,(he λ_=>False).mono _ _ _ (λd kd β2 Lk=> by obtain⟨g1,g2,g3,q⟩ := Lk;exact⟨g1,g2,g3,l.nx _ q⟩) q⟩) q⟩,λpins s σ H De I ⟨Z,E,β,⟨own,sq,n⟩,⟨⟨d0,To⟩,q⟩,ok⟩=>?_⟩
 have ix:Ie X (λx y H Q=>Jp X.K x y H Q\/Jo X.K x y H Q):=λvalue slice pins s σ H x y v u Q I rx ry h hs=>h.elim (λh=>c_ value slice pins s σ H x y v u Q I rx ry h hs) λh=>Az value slice pins s σ H x y v u Q I rx ry h hs;refine kT (pos:=pos) (zN (apos:=ap) (cpos:=cp) PySem.F.plainAttrs_list PySem.F.slot_list_append PySem.F.type_list_append jJ (ia (pos:=kp) ix (fb (pos:=px) hN hv hd ic) (hk λa=>H a=none).pe Tf) (ba (he λa=>H a=none).pe cZ hs) eE mh eD hs eC) xS pins s σ H De I ?_;have RW:=sq.vg (C:=C.z) (U:=λa=>H a=none) λa z=>z;obtain⟨v0,EF,_,_⟩:=sq.ow i d0 To;refine⟨v0,EF,tQ.of (hk λa=>H a=none) RW q λjd kk β1 kv H1 aB ⟨ds,j,m,es,e1,hb,hj,hm,q⟩ o r=>?_⟩;subst e1;cases r.rep;obtain⟨v,Kc,ow,h0⟩:=o.sq.ow i _ hb;rw[EF]at Kc;cases Kc;obtain⟨a,vs,c,us,B,rfl,q1,q2,q3,q4,q5,q6,q7,q8,q9⟩:=rJ ow (o.sq.pS i) hm;have Rt:qt vs j=some (.ref c):=by unfold qt;rw[q2,hj];exact q3
 have JH:MF X.K "list" (.ref c) H1/\Eg (tQ X (C.u λa=>H a=none) true φ) Ja σ H1 λxs H2=>vE (.ref c) xs H2 λ_ H1=>De.nx σ H1:=by
  refine⟨.inl ⟨rfl,us,dh.of q4⟩,tQ.of (he λa=>H a=none) o.sq q λd kd β2 v2 H2 bf ⟨f,Rc,hl,q⟩ o2 r2=>?_⟩;obtain⟨s2,e2⟩:=o2.pu rfl;obtain⟨v',QX,Si,UO⟩:=o2.sq.ow i _ Rc;rw[EF]at QX;cases QX;obtain⟨a',vs',c',vn,B',ea,p1,p2,p3,p4,p5,p6,p7,p8,p9⟩:=rJ Si (o2.sq.pS i) hm;cases ea;have e3:=s2 _ _ q1;rw[p1]at e3;have ev:vs'=vs:=by cases l <;> (cases e3;rfl)
  subst ev;rw[q3]at p3;cases p3;have e4:=s2 _ _ q4;rw[p4]at e4;cases e4;obtain⟨A,r1,rn,r3⟩:=r2.fl f;have Gv:∀x∈A,x∉bf i:=λx hx z=>(r3 x hx).2.1 ⟨i,z⟩;obtain⟨A',g1,g2,g3⟩:=p9 (es++[d]) (us++[v2]) (B'++A) (p6.append (aQ.one r1)) (V8.mpr ⟨p8,rn,λx hx y hy z=>Gv y hy (by rw[<- z];exact(p7 x hx).1)⟩)
   (λx hx=>(VC.mp hx).imp id (Gv x)) (λx hx z=>by
    rcases VC.mp hx with hx|hx
    ·exact(p7 x hx).2 z
    ·exact Gv x hx (by rw[z];exact p5))
  have hA:∀x∈A',x∈bf i\/(C.H0 x=none/\¬ Wn bf x/\H x=none):=λx hx=>by
   rcases g3 x hx with z|z
   ·exact .inl z
   ·rcases VC.mp z with z|z
    ·exact .inl (p7 x z).1
    ·exact .inr ⟨(r3 x z).2.2,(r3 x z).2.1,o.sn.free (r3 x z).1⟩
  exact⟨c,us,v2,rfl,rfl,p4,by rw[p6.length];exact hl,ok.nx _ _ _ ⟨_,o2.sq.putIn (C:=C) (U:=λa=>H a=none) Rc EF p5 g1 g2 hA,t_ ((n.trans o.sn).trans o2.sn) (λb z=>n.free z) ⟨i,p5⟩ ⟨_,p4,λxs z=>by cases z⟩ hA⟩ q⟩
 cases l with
 |true=>exact .inl ⟨a,vs,j,.ref c,rfl,rfl,dh.of q1,Rt,JH⟩
 |false=>exact .inr ⟨a,vs,j,.ref c,rfl,rfl,qH.of q1,Rt,JH⟩
end
end L2.Q
namespace L2
open PySem PySem.Spec PySem.SeqAt PyProof.Rows
theorem Iu {b:Bool}{p q:Prop}(h1:b=true->p)(h2:b=false->q):(if b=true then p else q):=by
 cases b
 ·exact de rfl (h2 rfl)
 ·exact jx rfl (h1 rfl)
def mI (a b c d:Int):Bool:=(decide (a<c)&&(decide (c<b)&&decide (b<d))) || (decide (c<a)&&(decide (a<d)&&decide (d<b)))
def bP:List Int->List Int->Bool
 |[a,b],[c,d]=>mI a b c d
 |_,_=>false
def Pair (t:List Int):Prop:=∃a b,t=[a,b]
def gK:FD:=λds R=>∃t u,ds=[kD t,kD u]/\Pair t/\Pair u/\R (.bl (bP t u))
theorem gK.mono:cH gK:=λds R R' k ⟨t,u,e,h1,h2,q⟩=>⟨t,u,e,h1,h2,k _ q⟩
def bH (t u:List Int):Bool:=t.any λi=>decide (i∈u)
def mv:FD:=λds R=>∃t u,ds=[kD t,kD u]/\Pair t/\R (.bl (bH t u))
theorem mv.mono:cH mv:=λds R R' k ⟨t,u,e,h1,q⟩=>⟨t,u,e,h1,k _ q⟩
abbrev Flt:=Option (Str×List Nat)
def HH:Flt->D
 |none=>.cO
 |some (s,ks)=>.tup (.str s::ks.map λ(k:Nat)=>D.int (k:Int))
def qG (ts:List (List Int))(p:List Int->Bool)(j:Nat):Bool:=match ts[j]? with|some u=>p u|none=>false
def jn (rows ts:List (List Int))(k:Nat)(t:List Int):Flt:=if t∈rows then
   (if decide (0<k)&&qG ts (λu=>!HT.lexLt u t) (k-1) then some ("order",[k]) else
    match (VD k).find? (qG ts λu=>bH u t)with
    |some j=>some ("twice",[j,k])
    |none=>match (VD k).find? (qG ts λu=>bP u t)with
      |some j=>some ("cross",[j,k])
      |none=>none)
  else some ("none",[k])
def iI (rows ts:List (List Int))(k:Nat):Flt:=match ts[k]? with
 |none=>none
 |some t=>jn rows ts k t
theorem fC {rows ts:List (List Int)}{k:Nat}{t:List Int}(h:ts[k]?=some t):iI rows ts k=jn rows ts k t:=by unfold iI;rw[h]
def iF (rows ts:List (List Int)):Flt:=(VD ts.length).findSome? (iI rows ts)
theorem iG {p:Nat->Bool}{j:Nat}:∀{k:Nat},j<k->p j=true->(∀i<j,p i=false)->(VD k).find? p=some j
 |0,h,_,_=>by lia
 |k+1,h,hp,hb=>by
  rw[Zi,List.find?_append]
  by_cases hj:j<k
  ·rw[iG hj hp hb];rfl
  ·have e:j=k:=by lia
   subst e;have:(VD j).find? p=none:=YV.mpr λi hi=>by simp[hb i (V4.mp hi)]
   rw[this];simp[hp]
theorem find_none {p:Nat->Bool}{k:Nat}(h:∀i<k,p i=false):(VD k).find? p=none:=YV.mpr λi hi=>by simp[h i (V4.mp hi)]
theorem sJ {f:Nat->Flt}{j:Nat}{x:Str×List Nat}:∀{k:Nat},j<k->f j=some x->(∀i<j,f i=none)->(VD k).findSome? f=some x
 |0,h,_,_=>by lia
 |k+1,h,hp,hb=>by
  rw[Zi,List.findSome?_append]
  by_cases hj:j<k
  ·rw[sJ hj hp hb];rfl
  ·have e:j=k:=by lia
   subst e;have:(VD j).findSome? f=none:=X6.mpr λi hi=>hb i (V4.mp hi);rw[this];simp[hp]
theorem DH {f:Nat->Flt}{k:Nat}(h:∀i<k,f i=none):(VD k).findSome? f=none:=X6.mpr λi hi=>h i (V4.mp hi)
def Pairs (ts:List (List Int)):Prop:=∀t∈ts,Pair t
def mB:FD:=λds R=>∃(n:Int) (rows ts:List (List Int)) (k:Nat),ds=[.tup [.int n,.lst (rows.map kD)],.lst (ts.map kD),.int k]/\k<ts.length/\Pairs ts/\k<2 ^ 60/\R (HH (iI rows ts k))
theorem mB.mono:cH mB:=λds R R' k ⟨n,rows,ts,j,e,h1,h2,h3,q⟩=>⟨n,rows,ts,j,e,h1,h2,h3,k _ q⟩
def mz:FD:=λds R=>∃(n:Int) (rows ts:List (List Int)),ds=[.tup [.int n,.lst (rows.map kD)],.lst (ts.map kD)]/\ts.length<=100000/\Pairs ts/\R (HH (iF rows ts))
theorem mz.mono:cH mz:=λds R R' k ⟨n,rows,ts,e,h1,h2,q⟩=>⟨n,rows,ts,e,h1,h2,k _ q⟩
def my:FD:=λds R=>∃(n:Int) (rows ts:List (List Int)),ds=[.tup [.int n,.lst (rows.map kD)],.lst (ts.map kD)]/\ts.length<=100000/\Pairs ts/\R (.bl (decide (iF rows ts=none)))
theorem my.mono:cH my:=λds R R' k ⟨n,rows,ts,e,h1,h2,q⟩=>⟨n,rows,ts,e,h1,h2,k _ q⟩
theorem n_:∀t u:List Int,yv.lexLe t u=!HT.lexLt u t
 |[],[]=>rfl
 |[],_::_=>rfl
 |_::_,[]=>rfl
 |x::xs,y::ys=>by
  show (if x=y then yv.lexLe xs ys else decide (x<=y))=!(if y=x then HT.lexLt ys xs else decide (y<x))
  by_cases h:x=y
  ·rw[if_pos h,if_pos h.symm,n_ xs ys]
  ·rw[if_neg h,if_neg (Xn h)]
   by_cases h2:x<=y
   ·have:¬ y<x:=by lia
    simp[h2,this]
   ·have:y<x:=by lia
    simp[h2,this]
theorem wG (t u:List Int):Ma (kD t) (kD u)=some (.bl (!HT.lexLt u t)):=by
 show (match bA (t.map D.int),bA (u.map D.int)with|some ns,some ms=>some (D.bl (yv.lexLe ns ms))|_,_=>none)=_
 rw[cE,cE];show some (D.bl (yv.lexLe t u))=_;rw[n_]
theorem DQ (t u:List Int):L_ (kD t) (kD u)=some (.bl (HT.lexLt t u)):=by
 show (match bA (t.map D.int),bA (u.map D.int)with|some ns,some ms=>some (D.bl (HT.lexLt ns ms))|_,_=>none)=_
 rw[cE,cE]
theorem A7:∀f:Flt,(HH f).flat=true
 |none=>rfl
 |some (s,ks)=>by
  show (D.flat (.str s)&&D.cQ (ks.map λ(k:Nat)=>D.int (k:Int)))=true;have:D.cQ (ks.map λ(k:Nat)=>D.int (k:Int))=true:=sM (T:=λ_=>True) λd hd=>by
   obtain⟨k,_,rfl⟩:=VV.mp hd;exact⟨trivial,rfl⟩
  rw[this];rfl
theorem iL {ts:List (List Int)}{k:Nat}{t:List Int}(h:ts[k]?=some t):qi (.lst (ts.map kD)) (.int (k:Int))=some (kD t):=wH (by rw[Vq,h];rfl)
structure Bs2 (mg:Str->Option U5):Prop extends Bs mg where
 Ir:mg "isinstance" = none
 tuple:mg "tuple" = none
 str:mg "str" = none
 bool:mg "bool" = none
 zip:mg "zip" = none
 enumerate:mg "enumerate" = none
theorem gM {d:D}{n:Nat}(h:d.pd.canLay0=true/\d.pd.depth<=n)(hn:n<=64:=by decide):B6 d d=some (.bl false):=uZ (dj h hn) (dj h hn) (eqv_refl _ h.1)
end L2
namespace L2.Q
open PySem PySem.Spec PySem.SeqAt PyProof.Rows
structure vd (X:Cx)(C:Cfg)(p:Bool)(ifs:List Expr)(τ:a_):Prop where
 mono:∀β R R',(∀d β,R d β->R' d β)->τ β R->τ β R'
 pt:tK X ifs (jw X C p τ)
theorem gq {X:Cx}{C:Cfg}:vd X C true [] IV:=⟨λ_ _ _ k h=>k _ _ h,zE⟩
theorem pf {X:Cx}{C:Cfg}{p:Bool}{c:Expr}{τ:a_}(h:tL X C p c τ):vd X C p [c] τ:=⟨h.mono,zD h⟩
section
variable {X:Cx}{C:Cfg}{lk:List (Option Nat)}{γ:dY}{τ:a_}{φ:aZ}{T:List Nat}{pc pe pi:Bool}{scope:Xz}{N':List Str}{tg c4 elt:Expr}{ifs:List Expr}{ι:dg}{pos pos' qY:Pos}{y:Str}{i:Nat}
theorem J3 (N':List Str)(lk:List (Option Nat))(L:jL X.env.scope.names X.N scope N' lk=true)(wt:N'.Nodup)(hc:X.calm=true)(hi:yr X C pi tg c4 ι)
  (sC:∀U cl c s H ex,yu (aK X scope N' cl c s H ex) (C.u U) tg T γ) (sA:∀U cl c s H ex,vd (aK X scope N' cl c s H ex) (C.u U) pc ifs τ) (sG:∀U cl c s H ex,PQ (aK X scope N' cl c s H ex) (C.u U) pe elt φ)
  (hT:T.all (λi=>match lk[i]? with|some (some _)=>false|_=>true)=true:=by rfl) (hs:∀x,V0 c4 X.env x=pure x:=by intro _;rfl):PQ X C (pi&&(pc&&pe)) (.ListComp elt [⟨tg,c4,ifs,0⟩] scope pos) (vF lk ι γ τ φ) :=
 JA (Links.of L) wt hT hc hi (λa=>sC _) (λa cl c s H ex=>(sA _ cl c s H ex).pt) (sA (λ_=>False) [] 0 X.s₀ X.H₀ []).mono (λa=>sG _) (sC (λ_=>False) [] 0 X.s₀ X.H₀ []).mono (sG (λ_=>False) [] 0 X.s₀ X.H₀ []).mono hs
theorem Cv (o:Bool)(N':List Str)(lk:List (Option Nat))(L:jL X.env.scope.names X.N scope N' lk=true)(wt:N'.Nodup)(hc:X.calm=true)(hi:∀U,yr X (C.u U) pi tg c4 ι)
  (sC:∀U cl c s H ex,yu (aK X scope N' cl c s H ex) (C.u U) tg T γ) (sA:∀U cl c s H ex,vd (aK X scope N' cl c s H ex) (C.u U) pc ifs τ) (sG:∀U cl c s H ex,PQ (aK X scope N' cl c s H ex) (C.u U) pe elt φ)
  (hN:X.N.Nodup) (hT:T.all (λi=>match lk[i]? with|some (some _)=>false|_=>true)=true:=by rfl) (hy:X.N[i]?=some y:=by rfl) (hx:Loc X.env.scope y:=by first|exact .inl rfl|exact .inr rfl) (hf:X.fn y=true\/X.env.scope.names.lookup y=some .local:=by first|exact .inl rfl|exact .inr rfl|assumption)
  (xS:WO (.ListComp elt [⟨tg,c4,ifs,0⟩] scope pos) (some (.Name y pos')) qY.line X.env=pure true:=by rfl)
  (Hz:evalThenUse (.ListComp elt [⟨tg,c4,ifs,0⟩] scope pos) X.env (assign (.Name y pos') X.env)=(do let _ <- comprehension (.ListComp elt [⟨tg,c4,ifs,0⟩] scope pos) scope X.env (firstIterPos [⟨tg,c4,ifs,0⟩] pos) (newList []) false (eval c4 X.env) (some (assign (.Name y pos') X.env));pure ()):=by first|rfl|exact arm_evalThenUse_ListComp ..)
  (hs:∀x,V0 c4 X.env x=pure x:=by intro _;rfl) :
  PB X C (.Assign [.Name y pos'] (.ListComp elt [⟨tg,c4,ifs,0⟩] scope pos) qY) (λE β=>vF lk ι γ τ φ β λd _ β'=>E.nx (β'.set i (some (match o with|true=>.own d|false=>.val true d)))) :=
 Jz (K:=λ_ _ _=>True) (Links.of L) wt hT hc hi sC (λU cl c s H ex=>(sA U cl c s H ex).pt) (sA (λ_=>False) [] 0 X.s₀ X.H₀ []).mono sG (sC (λ_=>False) [] 0 X.s₀ X.H₀ []).mono (sG (λ_=>False) [] 0 X.s₀ X.H₀ []).mono o hN hy hx hf xS Hz hs
theorem a6:Ie X (zi X qi NF):=λvalue slice pins s σ H x y v u Q I rx ry ⟨W,d1,d2,d,hd,r1,r2,e,q⟩ hs =>
 GZ value slice pins s σ H x y v u Q I rx ry ⟨W,d1,d2,d,hd,r1,r2,e,λv H' s r=>q v H' s r λf=>aA.flat f r⟩ hs
end
section
end
theorem yi (ns:List Int)(lo hi:Option Int):∃ms:List Int,tu (ns.map V.int) lo hi=ms.map V.int/\ms.length<=ns.length:=by
 refine⟨(ns.drop (HT.lJ (ns.map V.int).length 0 lo)).take (HT.lJ (ns.map V.int).length (ns.map V.int).length hi-HT.lJ (ns.map V.int).length 0 lo),?_,?_⟩
 ·unfold tu;rw[List.map_take,List.map_drop]
 ·rw[VW,WX];lia
section
variable {P:U_}{w:Vl}
theorem cD {W:Addr->Prop}{H:Hp}:∀ns:List Int,ak P w W H (ns.map D.int) (ns.map V.int)
 |[]=>rfl
 |n::ns=>⟨_,_,rfl,rfl,cD ns⟩
theorem Cn {N:List Str}{vs:List V}{H H':Hp}{n:Nat}{ro:Bool}{U:Addr->Prop}(hl:(L2.start N vs).length=n)(sm:au H H'):cq P w ⟨H,λ_=>False,ro,U⟩ (L2.start N vs) H' (Vt n none) (λ_=>[]) :=
 ⟨by rw[hl,YA],λi y d h=>(gy h).elim,λi d h=>(gy h).elim,λi ok h=>(gy h).elim,λi a h=>(nomatch h),λi j a h=>(nomatch h),λi=>Wc,sm.kp,λa z e=>z (sm.free e),λi y d h=>(gy h).elim⟩
theorem Jm {ro:Bool}{H H':Hp}{b:Bool}{v:V}(h:nD P w ro H H' (.bl b) v):v=.bl b:=by
 cases ro with
 |true=>obtain⟨A,h1,_⟩:=h;exact h1.1
 |false=>exact h
end
end L2.Q
namespace L2
open PySem PySem.Spec PySem.SeqAt PyProof.Rows
abbrev FG (n:Int)(rows:List (List Int)):D:=.tup [.int n,.lst (rows.map kD)]
theorem w_ (n:Int)(rows:List (List Int)):(FG n rows).pd.canLay0=true/\(FG n rows).pd.depth<=4:=nN λd hd=>by
 rcases Va.mp hd with rfl|hd
 ·exact⟨(cC n).1,Vy (cC n).2 (by decide)⟩
 ·rw[Vn.mp hd];exact d4 rows
theorem oN {us vs:List (List Int)}(h:us.length+vs.length<=1000000):tj (.lst (us.map kD)) (.lst (vs.map kD))=some (.lst ((us++vs).map kD)):=by
 show (if (us.map kD).length+(vs.map kD).length<=Vh then some (D.lst (us.map kD++vs.map kD)) else none)=_
 rw[if_pos (by rw[U9,U9,Wm];lia),V1]
end L2
namespace L2.Q
open PySem PySem.Spec PySem.SeqAt PyProof.Rows
theorem Bx {β:a8}{i j k l:Nat}{y1 y2 y3 y4:Bool}{a b c d:Int}{R:D->Kd->a8->Prop}(h1:β[i]?=some (some (.val y1 (.int a))))(h2:β[j]?=some (some (.val y2 (.int b))))(h3:β[k]?=some (some (.val y3 (.int c))))(h4:β[l]?=some (some (.val y4 (.int d))))
  (q:R (.bl (decide (a<b)&&(decide (b<c)&&decide (c<d)))) .own β):pE (zj i) (zq HQ (zj j) (zq HQ (zj k) (FL HQ (zj l)))) β R:=by
 refine⟨_,h1,_,h2,_,rfl,me (λz1=>⟨_,h3,_,rfl,me (λz2=>⟨_,h4,_,rfl,?_⟩) (λz2=>?_)⟩) (λz1=>?_)⟩
 ·simpa[z1,z2] using q
 ·simpa[z1,z2] using q
 ·simpa[z1] using q
section
variable {X:Cx}{C:Cfg}{pos p2 p3 p4:Pos}{e a:Expr}{φ:aZ}{p:Bool}
def N_ (φ:aZ):aZ:=λβ R=>φ β λx k β1=>∃d,L4 x=some d/\kN NL d k.wk λk'=>R d k' β1
theorem FV {j:Nat}(ha:PQ X C p a φ):PQ X C p (.Subscript a (.Slice none none (some (.UnaryOp .USub (.Constant (.int 1) j p3) p4)) p2) pos) (N_ φ) :=
 ⟨λβ R R' k h=>ha.mono β _ _ (λx kx β1 AL=>by obtain⟨d,e,q⟩:=AL;exact⟨d,e,q.mono λ_ z=>k _ _ _ z⟩) h,
  (F2 ha.pe).pre λσ H Q ⟨β,own,s,h⟩=>tQ.of ha s h λd k β1 v H1 aB G9 o1 r1=>by
    obtain⟨d',e,q⟩:=G9;have rr:=aA.aS BK r1.rep
    match d,e with
    |.lst ds,e =>
      cases e;obtain⟨c,vs,rfl,h1,n1,rs⟩:=rr;refine .inl ⟨c,vs,rfl,h1,λp hp=>?_⟩;have sm:au H1 (upd H1 p (.lst vs.reverse)):=au.new hp;have hw:¬ av C (Wn aB) k.wk p:=λz=>o1.sq.yD _ p z hp;have r2:aA X.prog X.w (av C (Wn aB) k.wk) (upd H1 p (.lst vs.reverse)) (.lst ds.reverse) (.ref p):=⟨p,_,rfl,az,hw,(ak.rev rs).same sm⟩;obtain⟨k',q,r⟩:=KV.kN (Z:=(H,Wn own)) Ed r2 (λn=>gY (H:=H1) o1.sq.uU o1.sq.hX (λa z e=>o1.sn.d a z e) n ⟨p,_,rfl,az,λz=>z hp,ak.flat n ((ak.rev rs).same sm)⟩) q;exact q _ _ aB (o1.same sm) r
    |.tup ds,e =>
      cases e;obtain⟨c,vs,rfl,h1,rs⟩:=rr;refine .inr ⟨c,vs,rfl,h1,λp hp=>?_⟩;have sm:au H1 (upd H1 p (.tup vs.reverse)):=au.new hp;exact q _ _ aB (o1.same sm) (by
        have r2:aA X.prog X.w (av C (Wn aB) k.wk) (upd H1 p (.tup vs.reverse)) (.tup ds.reverse) (.ref p):=⟨p,_,rfl,az,(ak.rev rs).same sm⟩;cases k <;> exact r2)⟩
end
def mO (ns:List Int):Prop:=∃x y z:Int,ns=[x,y,z]/\0<=x
def Bb:FD:=λds R=>∃c:Int,ds=[.int c]/\∀ns,mO ns->R (.lst (ns.map D.int))
theorem Bb.mono:cH Bb:=λds R R' k ⟨c,e,q⟩=>⟨c,e,λns o=>k _ (q ns o)⟩
section
variable {P:U_}{w:Vl}{H:Hp}{h:Addr}
theorem rK {H:Hp}:∀ns:List Int,aQ P w H (ns.map D.int) (ns.map V.int) []
 |[]=>⟨rfl,rfl⟩
 |n::ns=>⟨_,_,[],[],rfl,rfl,⟨rfl,rfl⟩,rK ns⟩
theorem ue {xs ys:List V}(e:H h=some (.lst xs)):Kp (·=h) H (upd H h (.lst ys)):=⟨λb u hb nb=>by rw[ar nb];exact hb,λb IL hb=>by rw[ar λz=>by rw[z,e]at hb;cases hb];exact hb⟩
theorem uf {ys:List V}:∀c,H c≠none->upd H h (.lst ys) c≠none:=λc hc=>by
 by_cases z:c=h
 ·rw[z,az];exact λz=>(nomatch z)
 ·rw[ar z];exact hc
theorem vW {H':Hp}{r:Int}:nD P w true H H' (.int r) (.int r):=d3 (W:=λ_=>False) rfl rfl
end
end L2.Q
namespace ip
open PySem L2 L2.Q
abbrev D0 (K:PySem.W.Frag)(mg:Str->Option U5)(f:Addr)(fd:VE):Prop:=Df K mg "_law_row" gV ["deck","most"] f fd
abbrev D1 (K:PySem.W.Frag)(mg:Str->Option U5)(f:Addr)(fd:VE):Prop:=Df K mg "_law_take" d_ ["deck","many"] f fd
abbrev D2 (K:PySem.W.Frag)(mg:Str->Option U5)(f:Addr)(fd:VE):Prop:=Df K mg "stretches_rising" bJ ["many"] f fd
abbrev D3 (K:PySem.W.Frag)(mg:Str->Option U5)(f:Addr)(fd:VE):Prop:=Df K mg "partners_of" c5 ["row"] f fd
abbrev D4 (K:PySem.W.Frag)(mg:Str->Option U5)(f:Addr)(fd:VE):Prop:=Df K mg "parts_left" dA ["i","k","j"] f fd
abbrev D5 (K:PySem.W.Frag)(mg:Str->Option U5)(f:Addr)(fd:VE):Prop:=Df K mg "ways_in" gT ["counts","parts"] f fd
abbrev D6 (K:PySem.W.Frag)(mg:Str->Option U5)(f:Addr)(fd:VE):Prop:=Df K mg "ways_by" gU ["counts","choices","i","j"] f fd
abbrev D7 (K:PySem.W.Frag)(mg:Str->Option U5)(f:Addr)(fd:VE):Prop:=Df K mg "counts_of" eR ["row"] f fd
abbrev D8 (K:PySem.W.Frag)(mg:Str->Option U5)(f:Addr)(fd:VE):Prop:=Df K mg "count_sets" dG ["row"] f fd
abbrev D9 (K:PySem.W.Frag)(mg:Str->Option U5)(f:Addr)(fd:VE):Prop:=Df K mg "arcs_cross" dI ["one","other"] f fd
abbrev BV (K:PySem.W.Frag)(mg:Str->Option U5)(f:Addr)(fd:VE):Prop:=Df K mg "share_a_point" ck ["one","other"] f fd
abbrev Ca (K:PySem.W.Frag)(mg:Str->Option U5)(f:Addr)(fd:VE):Prop:=Df K mg "fault_at" fK ["row","ties","k"] f fd
abbrev Ec (K:PySem.W.Frag)(mg:Str->Option U5)(f:Addr)(fd:VE):Prop:=Df K mg "first_fault" c8 ["row","ties"] f fd
abbrev E9 (K:PySem.W.Frag)(mg:Str->Option U5)(f:Addr)(fd:VE):Prop:=Df K mg "is_set" iY ["row","ties"] f fd
abbrev Ij (K:PySem.W.Frag)(mg:Str->Option U5)(f:Addr)(fd:VE):Prop:=Df K mg "check_set" dc ["row","ties"] f fd
abbrev B_ (K:PySem.W.Frag)(mg:Str->Option U5)(f:Addr)(fd:VE):Prop:=Df K mg "waiting_behind" bZ ["waiting","tie"] f fd
abbrev IJ (K:PySem.W.Frag)(mg:Str->Option U5)(f:Addr)(fd:VE):Prop:=Df K mg "waiting_after" cj ["row","ties"] f fd
abbrev II (K:PySem.W.Frag)(mg:Str->Option U5)(f:Addr)(fd:VE):Prop:=Df K mg "ties_next" eP ["row","waiting"] f fd
abbrev Nr (K:PySem.W.Frag)(mg:Str->Option U5)(f:Addr)(fd:VE):Prop:=Df K mg "how_many_begin" bE ["row","ties"] f fd
abbrev Nq (K:PySem.W.Frag)(mg:Str->Option U5)(f:Addr)(fd:VE):Prop:=Df K mg "set_number" cK ["row","ties"] f fd
abbrev Np (K:PySem.W.Frag)(mg:Str->Option U5)(f:Addr)(fd:VE):Prop:=Df K mg "set_at" gx ["row","number"] f fd
abbrev Nn (K:PySem.W.Frag)(mg:Str->Option U5)(f:Addr)(fd:VE):Prop:=Df K mg "next_set" d9 ["row","ties"] f fd
abbrev Qr (K:PySem.W.Frag)(mg:Str->Option U5)(f:Addr)(fd:VE):Prop:=Df K mg "_law_copied" dD ["row"] f fd
abbrev MD (K:PySem.W.Frag)(mg:Str->Option U5)(f:Addr)(fd:VE):Prop:=Df K mg "_law_do_cross" cL ["one","other"] f fd
abbrev Nm (K:PySem.W.Frag)(mg:Str->Option U5)(f:Addr)(fd:VE):Prop:=Df K mg "_law_fits" fJ ["some","tie"] f fd
abbrev Qq (K:PySem.W.Frag)(mg:Str->Option U5)(f:Addr)(fd:VE):Prop:=Df K mg "_law_is_set" dC ["row","some"] f fd
abbrev Nl (K:PySem.W.Frag)(mg:Str->Option U5)(f:Addr)(fd:VE):Prop:=Df K mg "_law_kind" fI ["caught"] f fd
abbrev Qp (K:PySem.W.Frag)(mg:Str->Option U5)(f:Addr)(fd:VE):Prop:=Df K mg "_law_refusal" c6 ["asked","row","some"] f fd
abbrev Qo (K:PySem.W.Frag)(mg:Str->Option U5)(f:Addr)(fd:VE):Prop:=Df K mg "_law_spoilt" dB ["deck","row","some"] f fd
abbrev RC (K:PySem.W.Frag)(mg:Str->Option U5)(f:Addr)(fd:VE):Prop:=Df K mg "_law_right" eQ ["deck","row","some"] f fd
abbrev RA (K:PySem.W.Frag)(mg:Str->Option U5)(f:Addr)(fd:VE):Prop:=Df K mg "_law_cell_at" c7 ["script","k"] f fd
abbrev Up (K:PySem.W.Frag)(mg:Str->Option U5)(f:Addr)(fd:VE):Prop:=Df K mg "_law_deck" ee ["cell"] f fd
abbrev Uo (K:PySem.W.Frag)(mg:Str->Option U5)(f:Addr)(fd:VE):Prop:=Df K mg "_law_sets" iu ["row"] f fd
section
variable {P:U_}{w:Vl}{K:PySem.W.Frag}{mg:Str->Option U5}{base:Heap}
theorem rd:aI ["cell"] ["cell"] (ao ee):=⟨rfl,rfl,rfl,by decide +kernel,rfl,by decide +kernel,by decide +kernel⟩
theorem C7 {f:Addr} {fd:VE} (F:BU K "_law_deck" "_law_deck" ee f fd) (B:Bs mg):aD P w K mg base bz 1 f fd ["cell"] (cB P w true Bb):=by
 refine F.ok rd (λvs H Q E h=>?_) (λbQ A outer s H vs Q E hr h=>?_)
 ·obtain⟨ds,r,c,rfl,_⟩:=h;obtain⟨x,rr,rfl,_,hr⟩:=r;cases (show rr=[] from hr)
  rfl
 ·obtain⟨ds,r,c,rfl,q⟩:=h;obtain⟨x,rr,rfl,hx,OK⟩:=r;cases (show rr=[] from OK)
  cases (show x=V.int c from hx)
  refine⟨_,eU (gA (ur (ba (gD (oP rfl) (by rfl) B.max BC (ba a3 (ba (b9 zT (pv 0) (b9 zU a3 a3)) cZ)))
   (ba (b9 gE (pv 0) a3) (ba a3 cZ))))),?_⟩
  refine⟨_,rfl,_,_,rfl,rfl,JB,_,_,rfl,rfl,_,_,rfl,?_⟩;refine⟨_,rfl,_,_,rfl,rfl,(by show (0:Int)<2147483629;decide),(by show 3<=Vh;decide),λp hp=>?_⟩
  refine q [_,_,_] ⟨_,_,_,rfl,?_⟩ _ _ (au.new hp) ⟨[p],⟨p,_,[],rfl,az,rfl,rK [_,_,_]⟩,by simp,λc hc=>by rw[Vn.mp hc];exact hp⟩
  split <;> lia
theorem eN:aI ["deck","many","digit","stir"] ["deck","many"] (ao d_):=⟨rfl,rfl,rfl,by decide +kernel,rfl,by decide +kernel,by decide +kernel⟩
theorem pR {f:Addr} {fd:VE} (F:BU K "_law_take" "_law_take" d_ f fd):aD P w K mg base bz 1 f fd ["deck","many"] (jB P w mO true bu):=by
 refine F.ok eN (λvs H Q E h=>?_) (λbQ A outer s H vs Q E hr h=>?_)
 ·obtain⟨h,vs',ds,ns,rfl,_,_,r,n,rfl,_⟩:=h;obtain⟨x,rr,rfl,_,hr⟩:=r;cases (show rr=[] from hr)
  rfl
 ·obtain⟨h,vs',ds,ns,rfl,e,⟨x,y,z,rfl,x0⟩,r,n,rfl,n0,n1,q⟩:=h;obtain⟨x',rr,rfl,AG,OK⟩:=r;cases (show rr=[] from OK)
  cases (show x'=V.int n from AG)
  have hx:H h=some (.lst [.int x,.int y,.int z]):=e;refine⟨_,b8 (ug (b9 pQ (ia c_ (pv 0) a3 (λ_ _=>rfl)) a3) (zJ (pv 0) a3 set_list))
   (b8 (zw (pF zW (ia c_ (pv 0) a3 (λ_ _=>rfl)) a3 (Ab _))
    (b8 (lK (i:=2) eN.nd rfl (Or.inl rfl) (b9 gE (ia c_ (pv 0) a3 (λ_ _=>rfl)) a3))
    (b8 (ug (b9 rL (ia c_ (pv 0) a3 (λ_ _=>rfl)) a3) (zJ (pv 0) a3 set_list))
    (eU (gA (b9 gE (pv 2) (pv 1)))))) pG)
   (b8 (lK (i:=3) eN.nd rfl (Or.inl rfl) (b9 gE (b9 jI (b9 pQ (ia c_ (pv 0) a3 (λ_ _=>rfl)) (b9 jI a3 (ia c_ (pv 0) a3 (λ_ _=>rfl)))) a3) a3))
   (b8 (lK (i:=3) eN.nd rfl (Or.inl rfl) (b9 gE (b9 jI (pv 3) (pv 3)) a3))
   (eU (gA (b9 gE (b9 rL (b9 gE (b9 jI (b9 pQ (pv 3) (b9 jI a3 (ia c_ (pv 0) a3 (λ_ _=>rfl)))) a3) a3) a3) (pv 1))))))),?_⟩
  refine⟨_,rfl,h,_,_,_,rfl,rfl,dh.of hx,rfl,_,_,rfl,rfl,?_⟩;refine⟨_,rfl,h,_,_,2,rfl,rfl,hx,rfl,?_⟩;have hy:upd H h (.lst ([V.int x,V.int y,V.int z].set 2 (V.int (z+1)))) h=some (.lst [V.int x,V.int y,V.int (z+1)]):=az;refine⟨_,rfl,h,_,_,_,rfl,rfl,dh.of hy,rfl,_,_,rfl,rfl,_,rfl,?_⟩;refine Oz (λhp=>?_) (λhp=>?_)
  ·refine⟨_,rfl,h,_,_,_,rfl,rfl,dh.of hy,rfl,_,_,rfl,rfl,(by show (0:Int)<65536;decide),?_⟩
   refine⟨_,rfl,h,_,_,_,rfl,rfl,dh.of hy,rfl,_,_,rfl,rfl,tP.of (by decide) (by decide),?_⟩
   refine⟨_,rfl,h,_,_,0,rfl,rfl,hy,rfl,?_⟩;have m:=pX (a:=x % 65536) n0;exact⟨_,rfl,_,rfl,_,_,rfl,rfl,n0,q _ m.1 m.2 _ _ [x / 65536,y,z+1] ((ue hx).trans (ue hy)) (λc hc=>uf c (uf c hc)) az ⟨_,_,_,rfl,Int.ediv_nonneg x0 (by decide)⟩ vW⟩
  ·refine⟨_,rfl,h,_,_,_,rfl,rfl,dh.of hy,rfl,_,rfl,h,_,_,_,rfl,rfl,dh.of hy,rfl,_,_,rfl,rfl,.inl ⟨by decide,by decide⟩,_,_,rfl,rfl,_,_,rfl,rfl,.inr ⟨by decide,by decide⟩,_,_,rfl,rfl,(by show (0:Int)<2147483647;decide),?_⟩
   have m1:=pX (a:=(y+7919*(z+1))*48271) (b:=2147483647) (by decide)
   refine⟨_,rfl,_,rfl,_,_,rfl,rfl,.inl ⟨Int.lt_of_lt_of_le (by decide) m1.1,Int.lt_trans m1.2 (by decide)⟩,_,_,rfl,rfl,(by show (0:Int)<2147483629;decide),?_⟩
   refine⟨_,rfl,_,rfl,h,_,_,_,rfl,rfl,dh.of hy,rfl,_,_,rfl,rfl,.inl ⟨by decide,by decide⟩,_,_,rfl,rfl,_,_,rfl,rfl,.inr ⟨by decide,by decide⟩,_,_,rfl,rfl,(by show (0:Int)<2147483563;decide),_,_,rfl,rfl,tP.of (by decide) (by decide),_,rfl,_,_,rfl,rfl,n0,?_⟩
   have m:=λa:Int=>pX (a:=a) n0;exact q _ (m _).1 (m _).2 _ _ [x,y,z+1] (ue hx) uf az ⟨_,_,_,rfl,x0⟩ vW
end
end ip
namespace L2
open PySem PySem.Spec PyProof.Rows
section
variable {κ:Type}[DecidableEq κ]
def tX (bb:List (κ×V))(k:κ):Option V:=(bb.find? λkv=>decide (kv.1=k)).map (·.2)
def putK (bb:List (κ×V))(k:κ)(v:V):List (κ×V) :=
 if (bb.any λkv=>decide (kv.1=k))=true then bb.map (λkv=>if kv.1=k then (kv.1,v) else kv) else bb++[(k,v)]
theorem qN {p:κ×V}{r:List (κ×V)}{k:κ}(e:p.1=k):tX (p::r) k=some p.2:=by simp[tX,Yw,e]
theorem qO {p:κ×V}{r:List (κ×V)}{k:κ}(e:¬ p.1=k):tX (p::r) k=tX r k:=by simp[tX,Yw,e]
theorem qP (k:κ):∀bb:List (κ×V),(bb.any λkv=>decide (kv.1=k))=(tX bb k).isSome
 |[]=>rfl
 |p::r=>by
  rw[YR]
  by_cases e:p.1=k
  ·simp only[qN e,decide_eq_true e,Bool.true_or,Option.isSome_some]
  ·rw[qO e,decide_eq_false e,Bool.false_or];exact qP k r
theorem kc (bb:List (κ×V))(k:κ)(v:V):(putK bb k v).length<=bb.length+1:=by
 unfold putK
 split
 ·rw[U9];lia
 ·rw[Vk,Vo,V6];lia
theorem BQ.xP {o:Option V}{u:Option U5}(r:BQ o u):o.isSome=u.isSome:=by
 cases o with
 |none=>cases u with
  |none=>rfl
  |some _=>exact(show False from r).elim
 |some _=>cases u with
  |none=>exact(show False from r).elim
  |some _=>rfl
theorem KV.any {bb:List (κ×V)}{vs:List (κ×U5)}(r:KV bb vs)(k:κ):(bb.any λkv=>decide (kv.1=k))=vs.any λkv=>decide (kv.1=k):=by
 unfold KV at r
 induction r with
 |nil=>rfl
 |cons h t ih=>rw[YR,YR,ih,h.1]
theorem KV.FH {bb:List (κ×V)}{vs:List (κ×U5)}(r:KV bb vs)(k:κ){y:V}{u:U5}(ry:RelV y u):
  KV (bb.map λkv=>if kv.1=k then (kv.1,y) else kv) (vs.map λkv=>if kv.1=k then (kv.1,u) else kv):=by
 unfold KV at r ⊢
 induction r with
 |nil=>exact .nil
 | @cons p q ps qs h t ih =>
  rw[VI,VI];refine .cons ?_ ih;obtain⟨h1,h2⟩:=h
  by_cases e:p.1=k
  ·rw[if_pos e,if_pos (h1.symm.trans e)];exact⟨h1,ry⟩
  ·rw[if_neg e,if_neg (λz=>e (h1.trans z))];exact⟨h1,h2⟩
theorem KV.put {bb:List (κ×V)}{vs:List (κ×U5)}(r:KV bb vs)(k:κ){y:V}{u:U5}(ry:RelV y u):KV (putK bb k y) (stored vs k u):=by
 unfold putK stored;rw[r.any k]
 by_cases e:(vs.any λkv=>decide (kv.1=k))=true
 ·rw[if_pos e,if_pos e];exact r.FH k ry
 ·rw[if_neg e,if_neg e];exact Paired.snoc r ⟨rfl,ry⟩
theorem KV.length {bb:List (κ×V)}{vs:List (κ×U5)}(r:KV bb vs):bb.length=vs.length:=Paired.length r
end
theorem EA {P:U_}{w:Vl}{k:Key}{u:U5}(r:RelV (kV k) u):(bR P w).is k u=true:=by
 cases k with
 |inl i=>obtain⟨t,e⟩:=(show ∃t,u=Value.int i t from r);subst e;exact rR P w i t
 |inr x=>obtain⟨t,e⟩:=(show ∃t,u=Value.str x t from r);subst e;exact rQ P w x t
theorem oj {P:U_}{w:Vl}:∀{ks:List Key} {us:List U5},Vals (ks.map kV) us->ItemsAre (bR P w) ks us
 |[],_,r=>by rw[List.map_nil]at r;cases r;exact .nil
 |k::ks,_,r=>by
  rw[VI]at r;cases r with
  |cons h t=>exact .cons (EA h) (oj t)
abbrev KT (H:Hp):List (List Key×V)->List (List Key×Addr×U5)->Prop:=Paired λp q=>p.1=q.1/\H q.2.1=some (.tup (p.1.map kV))/\RelV p.2 q.2.2
theorem KT.val {H:Hp}{bb:List (List Key×V)}{xs:List (List Key×Addr×U5)}(r:KT H bb xs)(k:List Key):BQ (tX bb k) ((atKey xs k).map (·.2)):=by
 induction r with
 |nil=>exact True.intro
 | @cons p q ps qs h t ih =>
  obtain⟨h1,_,h2⟩:=h
  by_cases e:p.1=k
  ·have e':q.1=k:=h1.symm.trans e;have b:atKey (q::qs) k=some q.2:=by simp[atKey,Yw,e']
   rw[qN e,b];exact h2
  ·have e':¬ q.1=k:=λz=>e (h1.trans z);have b:atKey (q::qs) k=atKey qs k:=by simp[atKey,Yw,e']
   rw[qO e,b];exact ih
theorem KT.FH {H:Hp}{bb:List (List Key×V)}{xs:List (List Key×Addr×U5)}(r:KT H bb xs)(k:List Key){y:V}{u:U5}(ry:RelV y u):
  KT H (bb.map λkv=>if kv.1=k then (kv.1,y) else kv) (xs.map (putAt k u)):=by
 induction r with
 |nil=>exact .nil
 | @cons p q ps qs h t ih =>
  rw[VI,VI];refine .cons ?_ ih;obtain⟨h1,h2,h3⟩:=h;unfold putAt
  by_cases e:p.1=k
  ·rw[if_pos e,if_pos (h1.symm.trans e)];exact⟨h1,h2,ry⟩
  ·rw[if_neg e,if_neg (λz=>e (h1.trans z))];exact⟨h1,h2,h3⟩
theorem KT.put {H:Hp}{bb:List (List Key×V)}{xs:List (List Key×Addr×U5)}(r:KT H bb xs)(k:List Key){b:Addr}{y:V}{u:U5}(hb:H b=some (.tup (k.map kV)))(ry:RelV y u):
  KT H (putK bb k y) (storedH xs k b u):=by
 have e:(bb.any λkv=>decide (kv.1=k))=(atKey xs k).isSome:=by
  rw[qP,(r.val k).xP,Option.isSome_map]
 unfold putK storedH;rw[e]
 by_cases q:(atKey xs k).isSome=true
 ·rw[if_pos q,if_pos q];exact r.FH k ry
 ·rw[if_neg q,if_neg q];exact Paired.snoc r ⟨rfl,hb,ry⟩
theorem KT.keeps {H H':Hp}{bb:List (List Key×V)}{xs:List (List Key×Addr×U5)}(r:KT H bb xs)(ht:∀b ys,H b=some (.tup ys)->H' b=some (.tup ys)):KT H' bb xs :=
 Paired.GC r λ_ _ z=>⟨z.1,ht _ _ z.2.1,z.2.2⟩
section
variable {P:U_}{w:Vl}{H:Hp}{h:Heap}{a:Addr}
theorem El {u:HO}(ok:gi P w H h)(e:Rd H a u):b5 P w H h a u:=e.ok ok
theorem LX {bb:List (Key×V)}(ok:gi P w H h)(e:Rd H a (.dK bb)):bb.length<=Vh/\(a==WK)=false/\∃vs,KV bb vs/\h.DictOf (bR P w) a vs :=
 show b5 P w H h a (.dK bb) from El ok e
theorem LY {bb:List (Key×V)}(ok:gi P w H h)(e:H a=some (.dK bb)):bb.length<=Vh/\(a==WK)=false/\∃vs,KV bb vs/\h.DictOf (bR P w) a vs:=LX ok (.inl e)
theorem Aw {ks:List Key}(ok:gi P w H h)(e:H a=some (.tup (ks.map kV))):(YH (bR P w)).is h ks a:=by
 obtain⟨_,its,r,o,h1,h2,n,h3⟩:=(show b5 P w H h a (.tup (ks.map kV)) from ok a _ e)
 exact⟨o,its.toArray,n,h1,h2,h3,by simpa using oj r⟩
theorem LV {bb:List (List Key×V)}(ok:gi P w H h)(e:Rd H a (.dT bb)):bb.length<=Vh/\(a==WK)=false /\
  ∃xs,KT H bb xs/\h.DictOfH (YH (bR P w)) a xs:=by
 obtain⟨z,y,xs,r,o,es,ep,h1,h2,h3,h4,h5⟩:=(show b5 P w H h a (.dT bb) from El ok e)
 refine⟨z,y,xs,r,o,es,ep,h1,h2,h3,h4,λx hx=>?_,h5⟩;have all:∀{l:List (List Key×V)} {m:List (List Key×Addr×U5)},KT H l m->∀x∈m,(YH (bR P w)).is h x.1 x.2.1:=by
  intro l m q
  induction q with
  |nil=>intro x hx;exact nomatch hx
  | @cons p q ps qs hq t ih =>
   intro x hx;rcases Va.mp hx with e|hx
   ·subst e;exact Aw ok (by rw[<- hq.1];exact hq.2.1)
   ·exact ih x hx
 exact all r x hx
theorem LW {bb:List (List Key×V)}(ok:gi P w H h)(e:H a=some (.dT bb)):bb.length<=Vh/\(a==WK)=false /\
  ∃xs,KT H bb xs/\h.DictOfH (YH (bR P w)) a xs:=LV ok (.inl e)
end
def MC (H:Hp)(a:Addr)(y v:V)(H':Hp):Prop :=
 (∃bb k,H a=some (.dK bb)/\y=kV k/\bb.length<Vh/\H'=upd H a (.dK (putK bb k v))) \/
 ∃bb k b,H a=some (.dT bb)/\y=.ref b/\H b=some (.tup (k.map kV))/\bb.length<Vh/\H'=upd H a (.dT (putK bb k v))
section
variable {X:Cx}{pins:List (Addr×Obj)}{σ:St}{H:Hp}{s:U7}{a:Addr}{y v:V}{u r:U5}{A:VZ}{E:U5->U7->Prop}
theorem Inv.big (I:Inv X pins σ H s):WK<s.heap.objs.size:=by
 have h:WE<s.heap.objs.size:=(I.mod.glob.keeps I.bk).lt;exact Nat.lt_trans (by decide) h
theorem wF {h':Heap}{t':Nat}{ob:HO}(I:Inv X pins σ H s)(mu:Mw (H a))(hs:X2 a s.heap h')(he:∃q,h'.get? a=some q)(new:b5 X.prog X.w (upd H a ob) h' a ob):
  Inv X pins σ (upd H a ob) {s with heap:=h',toks:=t'} :=
 I.write (x:=a) (e:=a) mu (.inl rfl) (λb q hb z=>(hs.2 b hb).trans z) he new
theorem HL {P:U_}{w:Vl}{H':Hp}{h':Heap}{bb:List (Key×V)}{vs:List (Key×U5)}(z:bb.length<=Vh)(hd:(a==WK)=false)(rel:KV bb vs)(dd:h'.DictOf (bR P w) a vs):
  b5 P w H' h' a (.dK bb):=⟨z,hd,vs,rel,dd⟩
theorem ye {H':Hp}{Q:Unit->U7->Prop}(hu:A.units+1<X0)(I:Inv X pins σ H s)(g:MC H a y v H')(ry:RelV y u)(rv:RelV v r)(h:∀s',Inv X pins σ H' s'->Q () s'):
  VA (model X.prog X.w) A (setItem (.ref a) u r) Q E s:=by
 rcases g with⟨bb,k,e,ey,l,eH⟩|⟨bb,k,b,e,ey,eb,l,eH⟩
 ·subst ey eH;obtain⟨z,hd,vs,rel,dd⟩:=LY I.bt e;have hz:vs.length<=Vh:=by rw[<- rel.length];exact z
  have hl:(putK bb k v).length<=Vh:=by have:=kc bb k v;lia
  refine wpAny_setItem_pairs (hsz:=hz) (EA ry) dd λh' M8 hs=>h _ ?_;have he:∃q,h'.get? a=some q:=let ⟨q,_,_,hq,_⟩:=M8;⟨q,hq⟩
  exact wF I (by rw[e];exact True.intro) hs he (HL hl hd (rel.put k rv) M8)
 ·subst ey eH;cases (show u=Value.ref b from ry)
  obtain⟨z,hd,xs,rel,dd⟩:=LW I.bt e;have hz:xs.length<=Vh:=by rw[<- Paired.length rel];exact z
  have hl:(putK bb k v).length<=Vh:=by have:=kc bb k v;lia
  refine wpAny_setItem_heap (hsz:=hz) (tupleKind_room_in1 hu) (Aw I.bt eb) dd λh' M8 hs=>h _ ?_;obtain⟨q,es,ep,hq,h2,h3,h4,_,h5⟩:=M8;refine wF I (by rw[e];exact True.intro) hs ⟨q,hq⟩ ⟨hl,hd,_,(rel.put k eb rv).keeps λc ys ec=>?_,q,es,ep,hq,h2,h3,h4,h5⟩
  rw[ar (Ew ec e (λz=>nomatch z))];exact ec
end
section
end
def Jk (td ty tv:TE):TS:=λD σ H=>tv σ H λv H1=>td σ H1 λx H2=>ty σ H2 λy H3=>∃a H4,x=.ref a/\MC H3 a y v H4/\D.nx σ H4
section
variable {X:Cx}{o i value:Expr}{pos pos':Pos}{td ty tv:TE}
theorem CD (hu:X.A.units+1<X0)(ho:PE X o td)(hi:PE X i ty)(hv:PE X value tv)(hs:WO value (some (.Subscript o i pos')) pos.line X.env=pure false):
  PS X (.Assign [.Subscript o i pos'] value pos) (Jk td ty tv):=by
 intro pins s σ H D I h;refine wpAny_Assign_Subscript (bq (hv pins s σ H _ I h) λr s1 ⟨v,H1,I1,rv,q1⟩=>bq (ho pins s1 σ H1 _ I1 q1) λu s2 ⟨x,H2,I2,rx,q2⟩=>bq (hi pins s2 σ H2 _ I2 q2) λiv s3 ⟨y,H3,I3,ry,a,H4,ex,g,q3⟩=>?_) hs;subst ex;obtain rfl:u=Value.ref a:=rx;exact ye hu I3 g ry rv λs4 I4=>⟨σ,H4,I4,q3⟩
end
theorem Bg {P:U_}{w:Vl}{H:Hp}(h:Heap)(hb:WK<h.objs.size):b5 P w H (h.push {cls:=.type "dict",data:=.dict #[]}) h.objs.size (.dT []) :=
 ⟨Vv _,beq_eq_false_iff_ne.mpr (Xn (VJ hb)),[],.nil,_,#[],0,VS _ rfl,⟨rfl,rfl,rfl⟩,rfl,rfl,Wc⟩
def Fp:TE:=λ_ H Q=>∀p,H p=none->Q (.ref p) (upd H p (.dT []))
section
variable {X:Cx}{pos:Pos}
theorem zL:PE X (.Dict [] [] pos) Fp:=λpins s σ H Q I h =>
 wpAny_Dict_empty ⟨.ref s.heap.objs.size,_,I.laid (a:=s.heap.objs.size) (o:=.dT []) (t':=s.toks) (λ_ _ q=>Vi _ q) (U8 _) (Bg s.heap I.big),rfl,h _ (I.bt.fresh (U8 _))⟩
end
section
end
section
end
section
end
section
end
section
end
section
variable {κ:Type}[DecidableEq κ]
end
end L2
namespace L2.Q
open PySem PySem.Spec PySem.SeqAt PyProof.Rows
theorem _root_.L2.cf.o9 {k:Nat}{A:VZ}(r:cf k A):A.units+1<X0:=by have:=r.un;lia
def iK (t:List Int):List Key:=t.map YJ
theorem G4 {t u:List Int}(h:iK t=iK u):t=u:=by
 unfold iK at h
 induction t generalizing u with
 |nil=>cases u with|nil=>rfl|cons _ _=>cases h
 |cons a t ih =>
  cases u with
  |nil=>cases h
  |cons b u =>
   rw[VI,VI]at h;injection h with h1 h2
   injection h1 with h1
   rw[h1,ih h2]
theorem EE (t:List Int):(iK t).map kV=t.map V.int:=by
 unfold iK;rw[Wr];rfl
def dP (ts:List (List Int))(b:Bool):D:=.dT (ts.map iK) (Vt ts.length (.bl b))
def tH (ts:List (List Int))(t:List Int):List (List Int):=if t∈ts then ts else ts++[t]
theorem pD {v:V}:∀{ks:List (List Key)} {n:Nat},ks.length=n->ks.zip (Vt n v)=ks.map λk=>(k,v)
 |[],_,_=>by simp
 |k::ks,0,h=>by cases h
 |k::ks,n+1,h=>by
  rw[Wy,WB,pD (Yr h)];rfl
theorem Cz {v:V}{ts:List (List Int)}{t:List Int}:putK ((ts.map iK).map λk=>(k,v)) (iK t) v=((tH ts t).map iK).map λk=>(k,v):=by
 unfold putK tH;have any:(((ts.map iK).map λk=>(k,v)).any λkv=>decide (kv.1=iK t))=decide (t∈ts):=by
  rw[Bool.eq_iff_iff,List.any_eq_true,decide_eq_true_eq];constructor
  ·rintro⟨kv,h1,h2⟩;obtain⟨k,h3,rfl⟩:=VV.mp h1;obtain⟨u,h4,rfl⟩:=VV.mp h3;have:=G4 (of_decide_eq_true h2);rw[<- this];exact h4
  ·intro h;exact⟨(iK t,v),VV.mpr ⟨iK t,VV.mpr ⟨t,h,rfl⟩,rfl⟩,by simp⟩
 rw[any]
 by_cases h:t∈ts
 ·rw[if_pos (by simpa using h),if_pos h,Wr]
  refine Wk λk _=>?_;show (if k=iK t then (k,v) else (k,v))=(k,v)
  split <;> rfl
 ·rw[if_neg (by simpa using h),if_neg h,V1,V1]
  rfl
section
variable {P:U_}{w:Vl}{H:Hp}{a:Addr}
theorem vO {b:Bool}:∀{n:Nat},aQ P w H (Vt n (.bl b)) (Vt n (V.bl b)) []
 |0=>⟨rfl,rfl⟩
 |n+1=>⟨_,_,[],[],rfl,rfl,⟨rfl,rfl⟩,vO⟩
theorem wJ {b:Bool}:∀{n:Nat} {vs:List V} {A:List Addr},aQ P w H (Vt n (.bl b)) vs A->vs=Vt n (V.bl b)/\A=[]
 |0,_,_,h=>h
 |n+1,_,_,⟨v,r,A1,A2,e,eA,h1,h2⟩=>by
  obtain⟨e1,e2⟩:=h1;obtain⟨e3,e4⟩:=wJ h2;rw[e,eA,e1,e2,e3,e4];exact⟨rfl,rfl⟩
theorem zR {ts:List (List Int)}{b:Bool}(h:H a=some (.dT ((ts.map iK).map λk=>(k,V.bl b)))):Own P w H (dP ts b) (.ref a) [a] :=
 ⟨a,Vt ts.length (V.bl b),[],rfl,by rw[pD (by simp)];exact h,by simp,rfl,vO⟩
theorem HM {ts:List (List Int)}{b:Bool}{v:V}{A:List Addr}(h:Own P w H (dP ts b) v A):∃a,v=.ref a/\A=[a]/\H a=some (.dT ((ts.map iK).map λk=>(k,V.bl b))):=by
 obtain⟨a,vs,A',e,h1,l,eA,h2⟩:=h;obtain⟨e3,e4⟩:=wJ h2;rw[e3,pD (by simp)]at h1
 exact⟨a,e,by rw[eA,e4],h1⟩
end
section
variable {X:Cx}{C:Cfg}{k:Expr}{φk:aZ}{i:Nat}{x:Str}{pos pos' px pc:Pos}{b:Bool}
theorem CH (b:Bool):PQ X C true (.Dict [] [] pos) (λβ R=>R (dP [] b) .own β) :=
 ⟨λβ R R' k h=>k _ _ _ h,zL.pre λσ H Q h p hp=>by
  obtain⟨β,own,s,q⟩:=h;refine q _ _ own ((Out.refl s _).same (au.new hp)) ⟨[p],zR az,by simp,λc hc=>?_⟩
  rw[Vn.mp hc];exact⟨hp,λz=>s.uU p z hp,VT λz=>s.hX p z hp⟩⟩
theorem kZ {j}(hu:X.A.units+1<X0)(hk:PQ X C.z true k φk)(hN:X.N[i]?=some x:=by rfl)(hv:wQ X.env.scope x:=by first|exact .inl rfl|exact .inr (.inl rfl)|exact .inr (.inr rfl))(hd:(x==("__debug__" : Str))=false:=by decide)(ic:(x==("__classdict__" : Str))=false:=by decide)
  (hs:WO (.Constant (.bool b) j pc) (some (.Subscript (.Name x px) k pos')) pos.line X.env=pure false:=by rfl) :
  PB X C (.Assign [.Subscript (.Name x px) k pos'] (.Constant (.bool b) j pc) pos) (λE β=>(∃ts,β[i]?=some (some (.own (dP ts b))))/\φk β λjd _ β2=>∃ts t,jd=kD t/\β2[i]?=some (some (.own (dP ts b)))/\ts.length<Vh/\E.nx (β2.set i (some (.own (dP (tH ts t) b))))):=by
 refine⟨λE E' β l h=>⟨h.1,hk.mono _ _ _ (λjd _ β2 h=>by obtain⟨ts,t,h1,h2,h3,q⟩:=h;exact⟨ts,t,h1,h2,h3,l.nx _ q⟩) h.2⟩,(CD hu (fb (pos:=px) hN hv hd ic) hk.pe (zO (j:=j) (pos:=pc)) hs).pre λDe σ H h=>?_⟩
 obtain⟨Z,E,β,⟨own,s0,n⟩,⟨⟨Ur,M1⟩,q⟩,ok⟩:=h;obtain⟨v0,EF,Uz,_⟩:=s0.ow i _ M1;refine⟨v0,EF,tQ.of hk s0 q λjd kk β2 v H1 aB h o r=>?_⟩;obtain⟨ts,t,e1,hb,hl,q⟩:=h;subst e1;obtain⟨v1,Kc,ow,h0⟩:=o.sq.ow i _ hb;rw[EF]at Kc;cases Kc;obtain⟨a,rfl,eA,ha⟩:=HM ow;obtain⟨p,vs,rfl,hp,rv⟩:=r.rep;have ev:vs=(iK t).map kV:=by
  rw[EE];have key:∀(t:List Int) (vs:List V),ak X.prog X.w (av C.z (Wn aB) kk) H1 (t.map D.int) vs->vs=t.map V.int:=λt=>by
   induction t with
   |nil=>intro vs h;exact h
   |cons y t ih =>
    intro vs h;obtain⟨z,r',e1,e2,e3⟩:=h;rw[e1,ih r' e3,show z=V.int y from e2]
    rfl
  exact key t vs rv
 have Pb:a∈aB i:=by rw[eA];simp
 refine⟨a,_,rfl,.inr ⟨_,iK t,p,ha,rfl,by rw[<- ev];exact hp,by rw[U9,U9];exact hl,rfl⟩,?_⟩
 have hA:∀c∈[a],c∈aB i\/(C.H0 c=none/\¬ Wn aB c/\(λ_=>False) c):=λc hc=>.inl (by rw[Vn.mp hc];exact Pb)
 have r':Own X.prog X.w (upd H1 a (.dT (putK ((ts.map iK).map λk=>(k,V.bl b)) (iK t) (V.bl b)))) (dP (tH ts t) b) (.ref a) [a]:=zR (by rw[Cz];exact az)
 exact ok.nx _ _ _ ⟨_,o.sq.FN (C:=C) (U:=λ_=>False) (U2:=λ_=>False) hb EF Pb r' (by simp) hA (λ_ z=>z) (λ_ _ z=>z),t_ (C:=C) (n.trans o.sn) (λ_ z=>z.elim) ⟨i,Pb⟩ ⟨_,ha,λxs z=>by cases z⟩ hA⟩ q
end
end L2.Q
namespace Dk
open PySem PySem.Spec PyProof.Rows
def At (h:Heap)(d:Addr)(es:Array XU)(ep:Nat):Prop:=∃o,h.get? d=some o/\o.ExactDict/\o.data=.dict es ep
theorem At.at' {h h':Heap}{d:Addr}{es:Array XU}{ep:Nat}(x:At h d es ep)(e:∀o,h.get? d=some o->h'.get? d=some o):At h' d es ep:=by
 obtain⟨o,h1,r⟩:=x;exact⟨o,e _ h1,r⟩
theorem At.lt {h:Heap}{d:Addr}{es:Array XU}{ep:Nat}(x:At h d es ep):d<h.objs.size:=by
 obtain⟨o,h1,_⟩:=x;exact Vp h1
theorem At.typeIs {s:U7} {d:Addr} {es:Array XU} {ep:Nat} (x:At s.heap d es ep):s.TypeIs (.ref d) "dict" := by
 obtain⟨o,h1,h2,_⟩:=x;exact⟨o,h1,h2.1⟩
section
variable {prog:U_}{w:Vl}{A:VZ}{E:U5->U7->Prop}{s:U7}{d it:Addr}{es:Array XU}{i ep:Nat}
theorem xO {Q:U5->U7->Prop}(hd:(d==WK)=false)(hm:At s.heap d es ep)
  (hQ:Q (.ref s.heap.objs.size) {s with heap:=s.heap.push {cls:=.type "dict_keyiterator",data:=.fields #[.ref d,.int 0 0,.int es.size 0,.int ep 0]}}):VA (model prog w) A (Zq (.ref d)) Q E s:=by
 have hT:=hm.typeIs;obtain⟨o,ho,hc,LL⟩:=id hm;refine wpAny_pyIter_slot hT F.slot_dict_iter (Xm F.slot_dict_iter hT F.entry_dict_iter ?_ (F.args_dict_iter_1 _));unfold W4.«dict.__iter__»
 refine U6 ?_;unfold Builtin.Dict.dictSlotNone;refine U6 (wpAny_notOrdered_dict hT ?_);show VA _ _ (pure (Value.ref d)) _ _ s;refine Vg ?_;show VA _ _ (Builtin.Dict.showsAll d >>= _) _ _ s;unfold Builtin.Dict.showsAll;rw[if_neg (by rw[hd];exact We)]
 refine U6 (Vg ?_);refine U6 (YY ho LL ?_);refine U6 (Zh ho LL ?_);refine U6 (Wu (Vg ⟨_,rfl,"dict_keyiterator",_,⟨_,VS _ rfl,rfl⟩,F.slot_dict_keyiterator_next.lookup,?_⟩));simpa[rawInt] using hQ
theorem next_item {Q:Option U5->U7->Prop}(hit:s.heap.IsKeyIter it d i es.size ep)(hm:At s.heap d es ep)(Pd:i<es.size)
  (hQ:∀h',h'.IsKeyIter it d (i+1) es.size ep->X2 it s.heap h'->Q (some es[i].key) {s with heap:=h'}):VA (model prog w) A (Zo (.ref it)) Q E s:=by
 obtain⟨o,ho,hc,hd⟩:=id hit;obtain⟨od,Lv,ic,LK⟩:=id hm;unfold Zo;refine U6 (Yg (Ym (name:=Str.ofString "__next__") hit.typeIs F.slot_dict_keyiterator_next
  (Xm F.slot_dict_keyiterator_next hit.typeIs F.entry_dict_keyiterator_next ?_ (F.args_dict_keyiterator_next_1 _))))
 refine U6 (Vg ?_);refine U6 ?_;refine U6 ?_
 first|refine U6 (WY hit.typeIs (Vg ?_))|refine U6 (Xq hit.typeIs (Vg ?_))
 refine U6 (wpAny_fieldsOf ho hd ?_);have Ho:Zk "dict_keyiterator" = false:=by decide
 simp only[Ho,W5,if_false];show VA _ _ (if (Value.ref d==Value.none)=true then _ else _) _ _ s
 rw[if_neg (show ¬ ((Value.ref d==Value.none)=true) from We)]
 refine U6 (Vg ?_);refine U6 (YY Lv LK ?_);rw[if_neg (by simp)]
 refine U6 (Vg ?_);refine U6 (Zh Lv LK ?_);rw[if_neg (by simp)]
 refine Vg ?_;simp only[show ¬ ((i:Int)<0) from by lia,if_false,V9,Array.getElem?_eq_getElem Pd]
 refine U6 ?_
 first|refine U6 (WY hit.typeIs (Vg ?_))|refine U6 (Xq hit.typeIs (Vg ?_))
 refine U6 (wpAny_isOneOf_keyiter hit.typeIs ?_);show VA _ _ (setField (.ref it) 1 (rawInt ((i:Int)+1)) >>= _) _ _ s;refine U6 (wpAny_setField ho hd (by simp) ?_)
 have DA:(s.heap.update it (Obj.mapFields (·.setIfInBounds 1 (rawInt ((i:Int)+1))))).IsKeyIter it d (i+1) es.size ep :=
  ⟨_,Heap.get?_update_self _ ho (Obj.isFreed_of_fields (Obj.data_mapFields hd _)),(Obj.cls_mapFields ..).trans hc,by rw[Obj.data_mapFields hd];simp[rawInt]⟩
 refine U6 (WC ?_);refine U6 (wpAny_isOneOf_keyiter (s:={s with heap:=s.heap.update it (Obj.mapFields (·.setIfInBounds 1 (rawInt ((i:Int)+1))))}) DA.typeIs ?_)
 show VA _ _ (pure es[i].key) _ _ _;exact Vg (Vg ⟨_,rfl,Vg (hQ _ DA (Heap.SameBut.update ..))⟩)
end
section
variable {prog:U_}{w:Vl}{A:VZ}{E:U5->U7->Prop}{s:U7}{d it:Addr}{es:Array XU}{i ep:Nat}
theorem next_end {Q:Option U5->U7->Prop}(hh:A.handled=none)(hit:s.heap.IsKeyIter it d i es.size ep)(hm:At s.heap d es ep)(Rb:es.size<=i)
  (hQ:∀h',Heap.ExtBut it s.heap h'->Q none {s with heap:=h'}):VA (model prog w) A (Zo (.ref it)) Q E s:=by
 obtain⟨o,ho,hc,hd⟩:=id hit;obtain⟨od,Lv,ic,LK⟩:=id hm;unfold Zo;refine U6 (Yg (Ym (name:=Str.ofString "__next__") hit.typeIs F.slot_dict_keyiterator_next
  (Xm F.slot_dict_keyiterator_next hit.typeIs F.entry_dict_keyiterator_next ?_ (F.args_dict_keyiterator_next_1 _))))
 refine U6 (Vg ?_);refine U6 ?_;refine U6 ?_
 first|refine U6 (WY hit.typeIs (Vg ?_))|refine U6 (Xq hit.typeIs (Vg ?_))
 refine U6 (wpAny_fieldsOf ho hd ?_);have Ho:Zk "dict_keyiterator" = false:=by decide
 simp only[Ho,W5,if_false];show VA _ _ (if (Value.ref d==Value.none)=true then _ else _) _ _ s
 rw[if_neg (show ¬ ((Value.ref d==Value.none)=true) from We)]
 refine U6 (Vg ?_);refine U6 (YY Lv LK ?_);rw[if_neg (by simp)]
 refine U6 (Vg ?_);refine U6 (Zh Lv LK ?_);rw[if_neg (by simp)]
 refine Vg ?_;simp only[show ¬ ((i:Int)<0) from by lia,if_false,V9,XN Rb]
 refine U6 ?_
 first|refine U6 (WY hit.typeIs (Vg ?_))|refine U6 (Xq hit.typeIs (Vg ?_))
 show VA _ _ (setField (.ref it) 0 .none >>= _) _ _ s;refine U6 (wpAny_setField ho hd (by simp) ?_)
 show VA _ _ (newExc (.type "StopIteration") [] >>= _) _ _ _;refine U6 ?_;simp only[newExc,newTuple];refine U6 (Wu ?_ (by size_fits))
 refine U6 (m:=firstArgMember _ _) (wpAny_of_eq (a:=Value.none) (by first|rfl|(simp only[firstArgMember];rfl)) ?_)
 refine Wu ?_ (by size_fits)
 simp only[raiseNew];refine U6 (wpAny_handled ?_);rw[show A.in1.handled=none from hh]
 refine U6 (Vg (wpAny_throw ?_));refine U6 (wpAny_isInstance (T:="StopIteration") (b:=true) ⟨_,VS _ rfl,rfl⟩ isSubtype_stop ?_);exact Vg (hQ _ (((Heap.SameBut.update ..).extBut.push _).push _))
theorem walks (hh:A.handled=none)(I d:Addr)(AU:d≠I)(es:Array XU)(ep:Nat):
  Walks prog w A I [I,d] [I] es.size (λi v=>∃h:i<es.size,v=es[i].key) (λi h=>h.IsKeyIter I d i es.size ep/\At h d es ep) where
 sub:=λb hb=>by simp at hb;simp[hb]
 frame:=λ_ _ _ st hk=>⟨st.1.at λo e=>hk I (by simp) o e,st.2.at' λo e=>hk d (by simp) o e⟩
 item:=λi s Q E hi st hQ=>by
  refine next_item st.1 st.2 hi λh' DA QY=>?_;exact hQ _ h' s.toks ⟨hi,rfl⟩ ⟨DA,st.2.at' λo e=>QY.extBut d o AU e⟩ λb o hb e=>QY.extBut b o (λh=>hb (by simp[h])) e
 done:=λs Q E st hQ=>next_end hh st.1 st.2 (U8 _) λh' Tn=>hQ h' s.toks λb o hb e=>Tn b o (λh=>hb (by simp[h])) e
 self:=λ_ _ _ _ st hQ=>wpAny_pyIter_keyiter st.1 hQ
theorem src (lo:(d==WK)=false):PySem.W.KdlSrc prog w "dict" d d es.size (λi v=>∃h:i<es.size,v=es[i].key) (λh=>At h d es ep) where
 type:=λ_ hm=>hm.typeIs
 there:=λ_ hm=>⟨hm.lt,hm.lt⟩
 keep:=λ_ _ hm hk=>hm.at' λo e=>hk d (.inl rfl) o e
 notList:=by decide
 notTuple:=by decide
 hint:=λ_ _ _ _ hm hq=>PySem.W.kdl_hint_dict hm.typeIs hq
 iter:=λ_ _ hh hm=>⟨_,_,(λ_ _ hq=>xO lo hm hq),walks hh _ d (VJ hm.lt) es ep,⟨⟨_,VS _ rfl,rfl,rfl⟩,hm.at' λo e=>Vi _ e⟩⟩
theorem ql {R:List U5->U7->Prop}(lo:(d==WK)=false)(hm:At s.heap d es ep)(hn:es.size<=Vh)(hh:A.handled=none)
  (h:∀(h':Heap) (tk:Nat),(∀b o,s.heap.get? b=some o->h'.get? b=some o)->R (es.toList.map (·.key)) {s with heap:=h',toks:=tk}):VA (model prog w) A (collect (.ref d)) R E s:=by
 refine PySem.W.kdu_collect (src (es:=es) (ep:=ep) lo) hh hm hn λh' tk acc hk LO=>?_;have e:acc.toList=es.toList.map (·.key):=by
  apply Yd;intro i;rw[Vq,Vx,Vx]
  by_cases hi:i<acc.size
  ·obtain⟨g1,g2⟩:=LO.2 i acc[i] (getElem?_pos acc i hi);rw[getElem?_pos acc i hi,getElem?_pos es i g1,g2];rfl
  ·have:=LO.1;rw[XN (by lia),XN (by lia)]
   rfl
 rw[e];exact h h' tk hk
end
end Dk
namespace L2.Q
open PySem PySem.Spec PySem.SeqAt PyProof.Rows HT
def Ci:List Key->Option (List Int)
 |[]=>some []
 |.inl i::r=>(Ci r).map (i::·)
 |.inr _::_=>none
def mV:List (List Key)->Option (List (List Int))
 |[]=>some []
 |k::r=>match Ci k,mV r with
  |some t,some ts=>some (t::ts)
  |_,_=>none
theorem yO:∀t:List Int,Ci (iK t)=some t
 |[]=>rfl
 |i::t=>by
  show (Ci (iK t)).map (i::·)=_;rw[yO t];rfl
theorem qQ:∀ts:List (List Int),mV (ts.map iK)=some ts
 |[]=>rfl
 |t::ts=>by
  show (match Ci (iK t),mV (ts.map iK)with|some t,some ts=>some (t::ts)|_,_=>none)=_
  rw[yO,qQ ts]
theorem yP:∀{k:List Key} {t:List Int},Ci k=some t->k=iK t
 |[],t,h=>by cases h;rfl
 |.inl i::r,t,h=>by
  obtain⟨u,h1,h2⟩:=Vr.mp (show (Ci r).map (i::·)=some t from h)
  rw[<- h2,yP h1];rfl
 |.inr _::_,t,h=>by cases h
theorem vo:∀{ks:List (List Key)} {ts:List (List Int)},mV ks=some ts->ks=ts.map iK
 |[],ts,h=>by cases h;rfl
 |k::r,ts,h=>by
  have h:(match Ci k,mV r with|some t,some ts=>some (t::ts)|_,_=>none)=some ts:=h
  cases h1:Ci k with
  |none=>rw[h1]at h;cases h
  |some t =>
   cases h2:mV r with
   |none=>rw[h1,h2]at h;cases h
   |some us =>
    rw[h1,h2]at h;cases h;rw[yP h1,vo h2];rfl
def Bj:List D->Option D
 |[.dT ks _]=>match mV ks with
  |some ts=>if ts.length<=1000/\(∀k∈ts,k≠[]) then some (.lst ((gR ts).map kD)) else none
  |none=>none
 |_=>none
theorem Co {ts:List (List Int)}{b:Bool}(h:∀k∈ts,k≠[])(l:ts.length<=1000):Bj [dP ts b]=some (.lst ((gR ts).map kD)):=by
 show (match mV (ts.map iK)with|some ts=>if ts.length<=1000/\(∀k∈ts,k≠[]) then some (D.lst ((gR ts).map kD)) else none|none=>none)=_
 rw[qQ];exact if_pos ⟨l,h⟩
theorem v8 {H:Hp}:∀{ts:List (List Int)} {vs:List V} {xs:List (List Key×Addr×U5)},(ts.map iK).length=vs.length ->
  Paired (λ(p:List Key×V) (q:List Key×Addr×U5)=>p.1=q.1/\H q.2.1=some (.tup (p.1.map kV))/\RelV p.2 q.2.2) ((ts.map iK).zip vs) xs->∃us:List (Addr×List Int),xs.map (λq=>Value.ref q.2.1)=us.map (λx=>Value.ref x.1)/\us.map (·.2)=ts/\∀u∈us,H u.1=some (.tup (u.2.map V.int))
 |[],vs,xs,_,p=>by cases p;exact⟨[],rfl,rfl,λ_ z=>(nomatch z)⟩
 |t::ts,[],xs,l,p=>by cases l
 |t::ts,v::vs,xs,l,p=>by
  cases p with
  |cons h r =>
   obtain⟨us,h1,h2,h3⟩:=v8 (Yr l) r
   rename_i q IL
   refine⟨(q.2.1,t)::us,by rw[VI,VI,h1],by rw[VI,h2],λu hu=>?_⟩
   rcases Va.mp hu with rfl|hu
   ·have:=h.2.1;rw[EE]at this;exact this
   ·exact h3 u hu
theorem qo {X:Cx} (hc:X.calm=true):vf X (.builtin "sorted") Bj:=by
 intro pins s σ H xs Uq Q I r h;obtain⟨W,ds,d,hd,r1,e,q⟩:=h
 match ds,e with
 |[.dT ks fs],e =>
  have e:(match mV ks with|some ts=>if ts.length<=1000/\(∀k∈ts,k≠[]) then some (D.lst ((gR ts).map kD)) else none|none=>none)=some d:=e
  cases hk:mV ks with
  |none=>rw[hk]at e;cases e
  |some ts =>
   rw[hk]at e;obtain⟨⟨hl,AU⟩,rfl⟩:=cP e;have:=vo hk;subst this;obtain⟨x,rfl,p,vs,rfl,hp,Td,nW,rs⟩:=mK r1;obtain⟨u,rfl,rx⟩:=vals1 r;cases rx;obtain⟨z,y,IL,pr,o,es,ep,h1,h2,h3,h4,h5⟩:=(show b5 X.prog X.w H s.heap p (.dT ((ts.map iK).zip vs)) from I.bt p _ hp)
   obtain⟨us,eu,ek,T⟩:=v8 Td pr;have T2:BN H us:=λt ht=>⟨T t ht,AU _ (by rw[<- ek];exact VV.mpr ⟨t,ht,rfl⟩)⟩
   have ul:us.length=ts.length:=by rw[<- ek,U9]
   have ev:es.toList.map (·.key)=us.map λx=>Value.ref x.1:=by
    rw[h4,Wr,<- eu];rfl
   have TX:es.size=us.length:=by
    have:=congrArg List.length ev;rw[U9,U9,Vz]at this;exact this
   refine TS.t7 (vs:=us.map λx=>Value.ref x.1) (kf:=uE H) (by rw[U9];lia) (λR hR=>Dk.ql (es:=es) (ep:=ep) y ⟨o,h1,h2,h3⟩ (by rw[TX,ul,Wm];lia) (by simp[I.ok.hd hc]) λh' tk kp=>by rw[ev];exact hR h' tk kp) (vq I.bt T2 (U8 _)) λout xY h' tk n Iy hs k1 kp Dy=>?_
   ·obtain⟨e1,e2⟩:=nS T2 Iy;have zl:out.length=us.length:=by rw[Iy.length_eq,U9]
    have eq:(out.map (DG H)).map (·.2)=gR ts:=by
     refine yX (by rw[<- ek];exact e2.map _) ?_
     refine WT.mpr (WT.mpr ?_);refine hs.imp_of_mem λ{x y} hx hy hh=>?_;obtain⟨t,ht,rfl⟩:=VV.mp (Iy.mem_iff.mp hx);obtain⟨t',SX,rfl⟩:=VV.mp (Iy.mem_iff.mp hy);exact hh
    have I1:Inv X pins σ H {s with heap:=xY,toks:=s.toks}:=I.kept k1
    have Pq:H xY.objs.size=none:=I1.bt.fresh (U8 _);have rk:ak X.prog X.w W H ((gR ts).map kD) ((out.map (DG H)).map pj):=by rw[<- eq];exact jF λt ht=>(T2 t (e2.mem_iff.mp ht)).1
    refine⟨.ref xY.objs.size,_,I1.laid (t':=tk) (o:=.lst ((out.map (DG H)).map pj)) kp (U8 _) ?_,rfl,q _ _ (au.new Pq) (Rp.iA hd Pq rk) λf=>ux Pq f rk⟩;refine⟨by rw[U9,U9,zl,ul,Wm];lia,out,n,?_,Dy⟩
    have:=jG (out.map (DG H));rw[<- e1]at this;exact this
end L2.Q
namespace L2
open PySem PySem.Spec PySem.SeqAt PyProof.Rows
theorem BB:V3 "sum" = some (.builtin "sum"):=by decide +kernel
def D.int?:D->Option Int
 |.int i=>some i
 |_=>none
def D.Aj:D->Option (List D)
 |.lst ds=>some ds
 |_=>none
theorem D.wg {d:D}{i:Int}(h:d.int?=some i):d=.int i:=by
 cases d <;> first|(cases h;rfl)|cases h
theorem D.k8 {d:D}{ds:List D}(h:d.Aj=some ds):d=.lst ds:=by
 cases d <;> first|(cases h;rfl)|cases h
def oK:List D->Option (List Int)
 |[]=>some []
 |d::ds=>d.int?.bind λi=>(oK ds).map (i::·)
theorem tf:∀{ds:List D} {ns:List Int},oK ds=some ns->ds=ns.map D.int
 |[],_,h=>by cases h;rfl
 |d::ds,ns,h=>by
  obtain⟨i,h1,h2⟩:=VQ.mp h;obtain⟨ms,h3,rfl⟩:=Vr.mp h2;rw[D.wg h1,tf h3];rfl
theorem oJ:∀ns:List Int,oK (ns.map D.int)=some ns
 |[]=>rfl
 |n::ns=>by
  show (some n).bind (λi=>(oK (ns.map D.int)).map (i::·))=_;rw[oJ ns];rfl
def lj (f:List Int->Option Int):List D->Option D
 |[d]=>d.Aj.bind λds=>(oK ds).bind λns=>(f ns).map D.int
 |_=>none
theorem uX {f:List Int->Option Int}{ds:List D}{d:D}(h:lj f ds=some d):∃ns i,ds=[.lst (ns.map D.int)]/\f ns=some i/\d=.int i:=by
 cases ds with
 |nil=>cases h
 |cons x r =>
  cases r with
  |cons _ _=>cases h
  |nil =>
   obtain⟨es,h1,h2⟩:=VQ.mp h;obtain⟨ns,h3,h4⟩:=VQ.mp h2;obtain⟨i,h5,rfl⟩:=Vr.mp h4;exact⟨ns,i,by rw[D.k8 h1,tf h3],h5,rfl⟩
theorem uW {f:List Int->Option Int}{ns:List Int}{i:Int}(h:f ns=some i):lj f [.lst (ns.map D.int)]=some (.int i):=by
 show (some (ns.map D.int)).bind (λds=>(oK ds).bind λns=>(f ns).map D.int)=_;rw[Option.bind_some,oJ,Option.bind_some,h];rfl
section
variable {X:Cx}
theorem lx:∀{ns:List Int} {us:List U5},Vals (ns.map V.int) us->∃xs:Array (Int×Tok),us.toArray=intItems xs/\xs.toList.map (·.1)=ns
 |[],_,h=>by cases h;exact⟨#[],by simp[intItems],rfl⟩
 |n::ns,_,h=>by
  cases h with
  |cons h1 h2 =>
   obtain⟨t,rfl⟩:=h1;obtain⟨xs,e1,e2⟩:=lx h2;refine⟨⟨(n,t)::xs.toList⟩,?_,by simp[e2]⟩
   have:=congrArg Array.toList e1;simp[intItems]at this ⊢
   exact this
theorem oR (hc:X.calm=true):cY X (.builtin "sum") (lj λns=>some ns.sum):=by
 intro pins s σ H xs us Q I r h;obtain⟨W,ds,d,hd,r1,e,q⟩:=h;obtain⟨ns,i,rfl,e1,rfl⟩:=uX e;cases e1;obtain⟨x,rfl,p,vs,rfl,h1,n1,q1⟩:=mK r1;obtain⟨u,rfl,ru⟩:=vals1 r;cases ru;rw[cD q1]at h1;obtain⟨its,r2,ht,hz⟩:=I.list (dh.of h1);obtain⟨ys,e1,e2⟩:=lx r2;refine sum_intListG (I.ok.hd hc) (xs:=ys) (by rw[<- e1];exact ht.isList) λh' tk t' k=>⟨.int ns.sum,H,I.kept k,⟨t',?_⟩,q _ _ (au.refl _) rfl⟩
 rw[preSum_eq,Wg (by simp),e2]
end
def Nh (lo:Int)(n:Nat):It:=⟨λi _=>i<n,λi H x H'=>H'=H/\x=.int (lo-i),λi _=>n<=i⟩
theorem qR {P:U_}{w:Vl}{K:PySem.W.Frag}{tg:Expr}(it:Addr)(lo:Int)(n:Nat):Turn P w K tg (Nh lo n) [it] it (λi h=>Zg h it (lo+(i:Nat)*(-1)) ((n:Int)-(i:Nat)) (-1)) where
 mem:=by simp
 obj:=λi h st b hb=>by
  have e:b=it:=by simpa using hb
  subst e;exact⟨_,st,λv z=>by
   have z':Data.fields _=Data.cell v:=z;cases z'⟩
 keep:=λi h h' st k=>k it (by simp) _ st
 item:=by
  intro X hP hw hK hc i pins s σ H E I hf st hg;subst hP hw hK;obtain⟨f0,f1,f2,f3,f4,f5⟩:=hf it (by simp)
  have W:=Walks.range (prog:=X.prog) (w:=X.w) (I.ok.hd hc) it lo (-1) n;refine W.item i s _ _ hg st λv h' tk hv aC kk=>?_;obtain⟨t,rfl⟩:=hv;have I1:Inv X pins σ H {s with heap:=h',toks:=tk}:=I.turned (λb o hb e=>kk b o (by simpa using hb) e) f0 f1 f3 f4 f5
  refine⟨_,rfl,AY (s:={s with heap:=h',toks:=tk}) (n:="range_iterator") aC rfl rfl (by decide) ⟨.int (lo-i),H,I1,⟨t,?_⟩,⟨rfl,rfl⟩,aC,λb hb=>(hf b hb).1⟩⟩
  rw[Int.mul_neg,Int.mul_one];rfl
 done:=by
  intro X hP hw hK hc i pins s σ H E I hf st hg;subst hP hw hK;obtain⟨f0,f1,f2,f3,f4,f5⟩:=hf it (by simp)
  exact wpAny_pyNext_range_end (I.ok.hd hc) st (by have:n<=i:=hg;lia) λh' eb=>⟨rfl,I.turned (t':=s.toks) (λb o hb e=>eb b o hb e) f0 f1 f3 f4 f5⟩
 self:=λ_ _ _ _ _ st h=>wpAny_pyIter_rangeiter st h
theorem h_ (a b:Int):XB a b (-1)=if b<a then a-b else 0:=by
 unfold XB;rw[if_neg (by decide)]
 by_cases h:b<a
 ·rw[if_pos h,if_pos h,show -(-1:Int)=1 by decide,Int.ediv_one];lia
 ·rw[if_neg h,if_neg h]
theorem xa {a b:Int}(ha:-(2 ^ 62)<=a)(M3:a<2 ^ 62)(hb:-(2 ^ 62)<=b)(gI:b<2 ^ 62):Builtin.Range.small a b (-1)=true:=by
 unfold Builtin.Range.small;rw[h_];simp only[Builtin.Range.rangeFitsLong,VO,Zl,decide_eq_true_eq,beq_iff_eq,show ¬ ((-1:Int)>0) by decide,if_false]
 split <;> lia
section
variable {X:Cx}{tg:Expr}
theorem xm {pins:List (Addr×Obj)}{σ:St}{H:Hp}{s:U7}{R:It->Hp->Prop}{E:U5->U7->Prop}{lo hi:Int}{t u v:Tok}{tk:Nat}(I:Inv X pins σ H s)(h1:-(2 ^ 62)<=lo)(h2:lo<2 ^ 62)(h3:-(2 ^ 62)<=hi)(h4:hi<2 ^ 62)
  (q:R (Nh lo (lo-hi).toNat) H):VA (model X.prog X.w) X.A (Zq (.ref s.heap.objs.size)) (Nd X pins σ tg R) E {s with heap:=s.heap.push {cls:=.type "range",data:=.fields #[.int lo t,.int hi u,.int (-1) v]},toks:=tk}:=by
 refine wpAny_pyIter_range (IsRange.new ..) (xa h1 h2 h3 h4) ?_;have I1:Inv X pins σ H {s with heap:=s.heap.push {cls:=.type "range",data:=.fields #[.int lo t,.int hi u,.int (-1) v]},toks:=tk}:=I.kept λb o e=>Vi _ e
 refine⟨(s.heap.push {cls:=.type "range",data:=.fields #[.int lo t,.int hi u,.int (-1) v]}).objs.size,[(s.heap.push {cls:=.type "range",data:=.fields #[.int lo t,.int hi u,.int (-1) v]}).objs.size],_,_,H,rfl,
  I1.kept (t':=tk) λb o e=>Vi _ e,qR _ lo (lo-hi).toNat,?_,λb hb=>?_,q⟩
 ·have e1:lo+((0:Nat):Int)*(-1)=lo:=by simp
  have e2:(((lo-hi).toNat:Nat):Int)-((0:Nat):Int)=XB lo hi (-1):=by rw[h_];split <;> lia
  show Zg _ _ (lo+((0:Nat):Int)*(-1)) ((((lo-hi).toNat:Nat):Int)-((0:Nat):Int)) (-1);rw[e1,e2];exact VS _ rfl
 ·have e:b=(s.heap.push {cls:=.type "range",data:=.fields #[.int lo t,.int hi u,.int (-1) v]}).objs.size:=by simpa using hb
  subst e;exact I1.A5 (U8 _) (I1.bt.fresh (U8 _))
def J7 (ta:TA):TI:=λσ H R=>ta σ H λvs H1=>∃i j:Int,vs=[.int i,.int j,.int (-1)]/\(-(2 ^ 62)<=i/\i<2 ^ 62/\-(2 ^ 62)<=j/\j<2 ^ 62)/\R (Nh i (i-j).toNat) H1
theorem xu {a b c:Expr} {ta:TA} {p pos:Pos} (hg:Gl X "range") (hm:X.mg "range" = none) (ha:PA X [a,b,c] ta) (hs:Vd [a,b,c] X.env=[(false,eval a X.env),(false,eval b X.env),(false,eval c X.env)]:=by rfl) (xU:Vd [b,c] X.env=[(false,eval b X.env),(false,eval c X.env)]:=by rfl) :
  PI X tg (.Call (.Name "range" p) [a,b,c] [] pos) (J7 ta):=by
 intro pins s σ H R I h;refine Call_ (iC I hg hm boot_range (WJ (bq (ha pos pins s σ H _ I h) λus s1 ⟨vs,H1,I1,r1,q1⟩=>?_) (by rw[hs,xU]) (by rw[xU];rfl)))
 obtain⟨i,j,e,⟨q1,q2,q3,q4⟩,q⟩:=q1;subst e;cases r1 with
 |cons r rr =>
  cases rr with
  |cons r' rr =>
   cases rr with
   |cons QD rr =>
    cases rr;obtain⟨t,rfl⟩:=r;obtain⟨t',rfl⟩:=r';obtain⟨Us,rfl⟩:=QD;exact call_range_3 (by decide) (xm I1 q1 q2 q3 q4 q) (.inl (PyProof.noPylong_of_log2 (by decide +kernel)))
def xl (hi:Int)(n:Nat):List D:=(VD n).map λ(k:Nat)=>D.int (hi-(k:Int))
theorem rm {hi:Int}{n i:Nat}{d:D}(h:(xl hi n)[i]?=some d):i<n/\d=.int (hi-i):=by
 unfold xl at h;rw[Vq]at h
 by_cases hi:i<n
 ·rw[WU hi]at h;cases h;exact⟨hi,rfl⟩
 ·rw[WM (by simpa using hi)]at h;cases h
theorem rl {hi:Int}{n:Nat}:(xl hi n).length=n:=by unfold xl;simp
theorem uF {W:Addr->Prop}{H:Hp}{lo:Int}{n:Nat}:wU X W (Nh lo n) (xl lo n) H:=λ_ _ i H' k=>by
 constructor
 ·intro d hd;obtain⟨hi,rfl⟩:=rm hd;refine⟨hi,λx H1 y=>?_⟩;obtain⟨rfl,rfl⟩:=y;exact⟨au.refl _,rfl⟩
 ·intro hl;rw[rl]at hl;exact hl
end
end L2
namespace L2.Q
open PySem PySem.Spec PySem.SeqAt PyProof.Rows
section
variable {X:Cx}{C:Cfg}{tg a b c:Expr}{φs:bO}{p:Bool}{pp pos:Pos}
def Dr (φs:bO):dg:=λβ R=>φs β λds _ β'=>∃i j:Int,ds=[.int i,.int j,.int (-1)]/\(-(2 ^ 62)<=i/\i<2 ^ 62/\-(2 ^ 62)<=j/\j<2 ^ 62)/\R (xl i (i-j).toNat) .e8 β'
theorem Mk {W:Addr->Prop}{H:Hp}{a b c:D}{xs:List V}(h:kq X W H [a,b,c] xs):∃x y z,xs=[x,y,z]/\Rp X W H a x/\Rp X W H b y/\Rp X W H c z:=by
 obtain⟨x,r,rfl,hx,y,r',rfl,hy,z,QD,rfl,hz,hr⟩:=h;cases hr;exact⟨x,y,z,rfl,hx,hy,hz⟩
theorem uk (hm:X.mg "range" = none) (ha:oZ X C p [a,b,c] φs) (hg:Gl X "range" := by rfl) (hs:Vd [a,b,c] X.env=[(false,eval a X.env),(false,eval b X.env),(false,eval c X.env)]:=by rfl) (xU:Vd [b,c] X.env=[(false,eval b X.env),(false,eval c X.env)]:=by rfl) :
  yr X C p tg (.Call (.Name "range" pp) [a,b,c] [] pos) (Dr φs) :=
 ⟨λβ R R' k q=>ha.mono β _ _ (λd kd β' h=>by obtain⟨i,j,e,h1,q⟩:=h;exact⟨i,j,e,h1,k _ _ _ q⟩) q,(xu hg hm ha.pa hs xU).pre λσ H R h=>by
  obtain⟨β,own,s,q⟩:=h;refine qA.of ha s q λds ks β' vs H1 aB h o1 r1=>?_;obtain⟨i,j,e,h1,q1⟩:=h;subst e;obtain⟨x,y,z,rfl,hx,hy,hz⟩:=Mk r1.iy;cases hx;cases hy;cases hz;exact⟨i,j,rfl,h1,q1 _ _ aB o1 uF⟩⟩
end
structure Rv (X:Cx)(C:Cfg)(tg iter:Expr)(ι:dg):Prop where
 mono:∀β R R',(∀d k β,R d k β->R' d k β)->ι β R->ι β R'
 pi:PI X tg iter λσ H R=>∃β own,SQ X C σ H β own/\ι β λds k β'=>∀J H',au H H'->SQ X C σ H' β' own->wU X (gb C (Wn own) k) J ds H'->R J H'
section
variable {X:Cx}{C:Cfg}{tg a b:Expr}{φs:bO}{pp pos:Pos}{i:Nat}{x:Str}
theorem uj (hm:X.mg "range" = none) (ha:oZ X C true [a,b] φs) (hg:Gl X "range" := by rfl) (hs:Vd [a,b] X.env=[(false,eval a X.env),(false,eval b X.env)]:=by rfl) (xU:Vd [b] X.env=[(false,eval b X.env)]:=by rfl) :
  Rv X C tg (.Call (.Name "range" pp) [a,b] [] pos) (wj φs) :=
 ⟨λβ R R' k q=>ha.mono β _ _ (λd kd β' h=>by obtain⟨i,j,e,h1,q⟩:=h;exact⟨i,j,e,h1,k _ _ _ q⟩) q,(nR hg hm ha.pa hs xU).pre λσ H R h=>by
  obtain⟨β,own,s,q⟩:=h;refine qA.of ha s q λds ks β' vs H1 aB h o1 r1=>?_;obtain⟨i,j,e,h1,q1⟩:=h;subst e;obtain⟨s1,rfl⟩:=o1.pu rfl;obtain⟨x,y,rfl,hx,hy⟩:=wM r1.iy;cases hx;cases hy;exact⟨i,j,rfl,h1,q1 _ _ s1 o1.sq jM⟩⟩
end
structure SC (X:Cx)(C:Cfg)(W0:Addr->Prop)(T:List Nat)(σ0:St)(H1:Hp)(a:Addr)(Hb:Hp)(Wb:Addr->Prop)(Ac:Hp->Prop)(β:a8)(σ':St)(H':Hp)(own:Nat->List Addr):Prop where
 sq:SQ X (C.u λc=>c=a) σ' H' β own
 sn:Sn (H1,W0) H' (Wn own)
 le:∀c,Wn own c->Wb c
 ac:Ac H'
 pu:au H1 H'
 bs:∀b ob,b≠a->Hb b=some ob->H' b=some ob
 st:∀j,j∉T->σ'[j]?=σ0[j]?
abbrev va {α:Type}(X:Cx)(C:Cfg)(W0:Addr->Prop)(T:List Nat)(σ0:St)(H1:Hp)(a:Addr)(Hb:Hp)(Wb:Addr->Prop)(Ac:α->Hp->Prop)(β:a8)(o:α)(σ':St)(H':Hp):Prop:=∃own,SC X C W0 T σ0 H1 a Hb Wb (Ac o) β σ' H' own
structure BX {α:Type}(a:Addr)(Ac:α->Hp->Prop):Prop where
 same:∀o H H',au H H'->Ac o H->Ac o H'
 JJ:∀o H xs,Ac o H->H a≠some (.tup xs)
abbrev IU (X:Cx)(C:Cfg)(a:Addr)(T:List Nat)(γ:dY):TG:=λv σ H Q=>∃own β d k,SQ X (C.u λc=>c=a) σ H β own/\Rp X (gb (C.u λc=>c=a) (Wn own) k) H d v/\γ d k β λβ'=>∀σ' aN,SQ X (C.u λc=>c=a) σ' H β' aN->(∀a,Wn aN a->Wn own a)->(∀j,j∉T->σ'[j]?=σ[j]?)->Q σ' H
abbrev Qt (X:Cx)(C:Cfg)(a:Addr)(φ:aZ):nC:=λN σ H=>tQ X (C.u λc=>c=a) true φ σ H λv H1=>∃xs,H1 a=some (.lst xs)/\xs.length<Vh/\N σ (upd H1 a (.lst (xs++[v])))
section
variable {α:Type}{X:Cx}{C:Cfg}{W0:Addr->Prop}{T Tg:List Nat}{σ0:St}{H1:Hp}{a:Addr}{Hb:Hp}{Wb:Addr->Prop}{γ:dY}{τ:a_}{φ:aZ}{Ac:α->Hp->Prop}
theorem SC.next {o:α}(hA:BX a Ac){β β':a8}{σ σ':St}{H H':Hp}{own aN:Nat->List Addr}(s:SC X C W0 T σ0 H1 a Hb Wb (Ac o) β σ H own)(sq:SQ X (C.u λc=>c=a) σ' H' β' aN)(w:∀c,Wn aN c->Wn own c)(sm:au H H')(t:∀j,j∉T->σ'[j]?=σ[j]?):
  SC X C W0 T σ0 H1 a Hb Wb (Ac o) β' σ' H' aN :=
 ⟨sq,gS (s.sn.same sm) w,λc z=>s.le c (w c z),hA.same o _ _ sm s.ac,s.pu.trans sm,λb ob n e=>sm _ _ (s.bs b ob n e),λj hj=>(t j hj).trans (s.st j hj)⟩
theorem SC.put {A:Hp->Prop}{A':Hp->Prop}(h0:C.H0 a=none)(ha:H1 a=none){β:a8}{σ:St}{H:Hp}{own:Nat->List Addr}{oa ob:HO}(s:SC X C W0 T σ0 H1 a Hb Wb A β σ H own)(e:H a=some oa)(nt:∀xs,oa≠.tup xs)(q:A' (upd H a ob)):
  SC X C W0 T σ0 H1 a Hb Wb A' β σ (upd H a ob) own:=by
 refine⟨s.sq.FA e nt h0,⟨s.sn.w,s.sn.k.trans ((iD e nt).mono λb z=>.inr (by rw[z];exact ha)),λb z e=>?_⟩,s.le,q,λb o e=>?_,λb o n e=>?_,s.st⟩
 ·by_cases hb:b=a
  ·rw[hb,az]at e;cases e
  ·rw[ar hb]at e;exact s.sn.d b z e
 ·rw[ar (λz'=>by rw[z',ha]at e;cases e)]
  exact s.pu b o e
 ·rw[ar n];exact s.bs b o n e
def Nt (P:U_)(w:Vl)(H1:Hp)(a:Addr)(o:List D)(H:Hp):Prop:=∃vs A,H a=some (.lst vs)/\aQ P w H o vs A/\A.Nodup/\∀c∈A,H1 c=none/\c≠a
theorem u9 {P:U_}{w:Vl}:BX a (Nt P w H1 a):=⟨λo H H' s h=>by
  obtain⟨vs,A,h1,h2,h3,h4⟩:=h;exact⟨vs,A,s _ _ h1,h2.keep (λb xs e=>s _ _ e) λc _ oc e=>s _ _ e,h3,h4⟩,λo H xs h z=>by
  obtain⟨vs,A,h1,_⟩:=h;rw[h1]at z;cases z⟩
def ES (φ:aZ)(o:List D)(β:a8)(N:a8->List D->Prop):Prop:=φ β λx kx β3=>EB kx x/\o.length<Vh/\N β3 (o++[x])
theorem Ct (h0:C.H0 a=none)(ha:H1 a=none)(φm:∀β R R',(∀d k β,R d k β->R' d k β)->φ β R->φ β R'){β:a8}{o:List D}{σ:St}{H:Hp}{N:a8->List D->Prop}(s:va X C W0 T σ0 H1 a Hb Wb (Nt X.prog X.w H1 a) β o σ H)(q:ES φ o β N):
  Qt X C a φ (λσ' H'=>∃β' o',va X C W0 T σ0 H1 a Hb Wb (Nt X.prog X.w H1 a) β' o' σ' H'/\N β' o') σ H:=by
 obtain⟨own,s⟩:=s;refine⟨β,own,s.sq,φm _ _ _ (λxd kx β6 ⟨f,hz,q⟩ v H6 zS o6 r6=>?_) q⟩;obtain⟨sm,rfl⟩:=o6.pu rfl;have s6:=s.next u9 (o6.sq) (λ_ z=>z) sm (λ_ _=>rfl)
 obtain⟨B',r1,r2,r3⟩:=r6.fl f;obtain⟨vs,A,at',os,nd,nw⟩:=s.ac;have jQ:H6 a=some (.lst vs):=sm _ _ at';have JN:∀c∈B',c≠a:=λc hc z=>by rw[z]at hc;exact absurd (at'.symm.trans (r3 a hc).1) (λz=>(nomatch z))
 have kt:∀b xs,H6 b=some (.tup xs)->upd H6 a (.lst (vs++[v])) b=some (.tup xs):=λb xs z=>by rw[ar (λz'=>by rw[z',jQ]at z;cases z)];exact z
 refine⟨vs,jQ,by rw[os.length];exact hz,β6,o++[xd],⟨zS,s6.put h0 ha jQ (λxs z=>by cases z) ⟨vs++[v],A++B',az,?_,?_,λc hc=>?_⟩⟩,q⟩
 ·exact(os.keep (λb xs e=>kt b xs (sm _ _ e)) λc hc oc e=>by rw[ar (nw c hc).2];exact sm _ _ e).append (aQ.one (r1.keep kt λc hc oc e=>by rw[ar (JN c hc)];exact e))
 ·refine V8.mpr ⟨nd,r2,λx hx y hy e=>?_⟩;subst e;exact(os.mR x hx).1 (r3 x hy).1
 ·rcases VC.mp hc with hc|hc
  ·exact nw c hc
  ·exact⟨s.sn.free (r3 c hc).1,JN c hc⟩
def lY {α:Type}(γ:dY)(τ:a_)(Af:α->a8->(a8->α->Prop)->Prop)(ds:List D)(k:Kd)(β0:a8)(o0:α)(F:a8->α->Prop):Prop:=∃I:Nat->a8->α->Prop,I 0 β0 o0 /\
 (∀i d β o,ds[i]?=some d->I i β o->γ d (sk k d) β λβ1=>τ β1 λt β2=>if t=true then Af o β2 (I (i+1)) else I (i+1) β2 o)/\∀β o,I ds.length β o->F β o
theorem lY.mono {Af:α->a8->(a8->α->Prop)->Prop}{ds:List D}{k:Kd}{β0:a8}{o0:α}{F F':a8->α->Prop}(h:∀β o,F β o->F' β o)(q:lY γ τ Af ds k β0 o0 F):lY γ τ Af ds k β0 o0 F':=by
 obtain⟨I,h0,h1,h2⟩:=q;exact⟨I,h0,h1,λβ o z=>h _ _ (h2 β o z)⟩
theorem vB (hA:BX a Ac)(hT:∀j∈Tg,j∈T)(γm:∀d k β R R',(∀r,R r->R' r)->γ d k β R->γ d k β R')(τm:∀β R R',(∀d β,R d β->R' d β)->τ β R->τ β R'){J:It}{ds:List D}{k:Kd}{Af:α->a8->(a8->α->Prop)->Prop}{ta:nC}{F:a8->α->Prop}{End:St->Hp->Prop}{β0:a8}{o0:α}{σ1:St}{Hs:Hp}
  (it:∀i β o σ' H',va X C W0 T σ0 H1 a Hb Wb Ac β o σ' H'->(∀d,ds[i]?=some d->J.go i H'/\∀x H3,J.IK i H' x H3->au H' H3/\∀own,(∀c,Wn own c->Wb c)->aA X.prog X.w (gb (C.u λc=>c=a) (Wn own) k) H3 d x)/\(ds.length<=i->J.stop i H'))
  (Ki:∀β o σ' H' N,va X C W0 T σ0 H1 a Hb Wb Ac β o σ' H'->Af o β N->ta (λyG yw=>∃β' o',va X C W0 T σ0 H1 a Hb Wb Ac β' o' yG yw/\N β' o') σ' H')
  (s0:va X C W0 T σ0 H1 a Hb Wb Ac β0 o0 σ1 Hs) (q:lY γ τ Af ds k β0 o0 F) (fin:∀β o σ' H',va X C W0 T σ0 H1 a Hb Wb Ac β o σ' H'->F β o->End σ' H') :
  fX J (IU X C a Tg γ) (jw X (C.u λc=>c=a) true τ) ta End σ1 Hs:=by
 obtain⟨I,i0,i1,i2⟩:=q;refine⟨λi m σ' H'=>i<=ds.length/\m=ds.length-i/\∃β o,va X C W0 T σ0 H1 a Hb Wb Ac β o σ' H'/\I i β o,⟨_,Vv _,rfl,β0,o0,s0,i0⟩,?_⟩;rintro i m σ2 H2 ⟨hi,rfl,β,o,sE,hl⟩;obtain⟨c4,nj⟩:=it i β o σ2 H2 sE
 by_cases dU:i<ds.length
 ·right
  have hd:ds[i]?=some ds[i]:=Vf dU;obtain⟨go,yl⟩:=c4 _ hd;refine⟨go,λσ' H'=>∃β' o',va X C W0 T σ0 H1 a Hb Wb Ac β' o' σ' H'/\I (i+1) β' o',λσ' H' h=>⟨_,by omega,dU,rfl,h⟩,λx H3 y=>?_⟩
  obtain⟨s3,r3⟩:=yl x H3 y;obtain⟨own,s⟩:=sE;refine⟨own,β,_,_,s.sq.same s3,lG (r3 own s.le),γm _ _ _ _ _ (λβ4 q σ4 lP s4 w4 t4=>?_) (i1 i _ β o hd hl)⟩;have R5:=s.next hA s4 w4 s3 λj hj=>t4 j λz=>hj (hT j z)
  refine⟨β4,lP,s4,τm _ _ _ (λt β5 q H5 i8 o5=>?_) q⟩;obtain⟨MJ,rfl⟩:=o5.pu rfl;have QA:=R5.next hA o5.sq (λ_ z=>z) MJ λ_ _=>rfl
  cases t with
  |false=>exact⟨β5,o,⟨_,QA⟩,q⟩
  |true=>exact Ki β5 o σ4 H5 _ ⟨_,QA⟩ q
 ·left
  have e:i=ds.length:=by omega
  subst e;exact⟨nj (U8 _),fin β o σ2 H2 sE (i2 β o hl)⟩
def Eu {α:Type}(ι:dg)(γ:dY)(τ:a_)(Af:α->a8->(a8->α->Prop)->Prop)(o:α)(β:a8)(N:a8->α->Prop):Prop:=ι β λds k β1=>lY γ τ Af ds k β1 o N
theorem Cs (hA:BX a Ac){ι:dg}(hT:∀j∈Tg,j∈T)(γm:∀d k β R R',(∀r,R r->R' r)->γ d k β R->γ d k β R')(τm:∀β R R',(∀d β,R d β->R' d β)->τ β R->τ β R'){Af:α->a8->(a8->α->Prop)->Prop}{ta:nC}
  (Ki:∀Hb Wb β o σ' H' N,va X C W0 T σ0 H1 a Hb Wb Ac β o σ' H'->Af o β N->ta (λyG yw=>∃β' o',va X C W0 T σ0 H1 a Hb Wb Ac β' o' yG yw/\N β' o') σ' H')
  (ιm:∀β R R',(∀d k β,R d k β->R' d k β)->ι β R->ι β R') {β:a8} {o:α} {σ:St} {H:Hp} {N:a8->α->Prop} (s:va X C W0 T σ0 H1 a Hb Wb Ac β o σ H) (q:Eu ι γ τ Af o β N) :
  ∃β own,SQ X (C.u λc=>c=a) σ H β own/\ι β λds k β'=>∀J H',au H H'->SQ X (C.u λc=>c=a) σ H' β' own->wU X (gb (C.u λc=>c=a) (Wn own) k) J ds H' ->
   fX J (IU X C a Tg γ) (jw X (C.u λc=>c=a) true τ) ta (λσ' H'=>∃β' o',va X C W0 T σ0 H1 a Hb Wb Ac β' o' σ' H'/\N β' o') σ H':=by
 obtain⟨own,s⟩:=s;refine⟨β,own,s.sq,ιm _ _ _ (λds k β1 q J H' sm sq SM=>?_) q⟩;have s1:=s.next hA sq (λ_ z=>z) sm λ_ _=>rfl
 have hu:gb (C.u λc=>c=a) (Wn own) k a:=.inr rfl;refine vB (Hb:=H') (Wb:=Wn own) hA hT γm τm (λi βx ox σx Hx sx=>?_) (λβx ox σx Hx Nx sx qx=>Ki _ _ _ _ _ _ _ sx qx) ⟨own,⟨s1.sq,s1.sn,λ_ z=>z,s1.ac,s1.pu,λ_ _ _ e=>e,s1.st⟩⟩ q λβx ox σx Hx sx hx=>?_
 ·obtain⟨CU,sx⟩:=sx;have kp:Kp (λb=>gb (C.u λc=>c=a) (Wn own) k b\/H' b=none) H' Hx:=⟨λb ob e n=>sx.bs b ob (λz=>n (.inl (by rw[z];exact hu))) e,λb xs e=>sx.bs b _ (λz=>hA.JJ _ _ _ s1.ac (by rw[<- z];exact e)) e⟩
  obtain⟨g1,g2⟩:=SM (λb=>gb (C.u λc=>c=a) (Wn own) k b\/H' b=none) (λb z=>z) i Hx kp;refine⟨λd hd=>?_,g2⟩;obtain⟨go,yl⟩:=g1 d hd;refine⟨go,λx H3 y=>?_⟩;obtain⟨s3,r3⟩:=yl x H3 y;exact⟨s3,λaN Ov=>aA.aS (λb z=>.inl (jt Ov k b z)) r3⟩
 ·obtain⟨CU,sx⟩:=sx;exact⟨βx,ox,⟨CU,⟨sx.sq,sx.sn,λc z=>s.le c (sx.le c z),sx.ac,sx.pu,λb ob n e=>sx.bs b ob n (s1.bs b ob n e),sx.st⟩⟩,hx⟩
theorem za {lk:List (Option Nat)}{σ:St}{β:a8}{own:Nat->List Addr}{oa:HO}(hA:BX a Ac){Af:α->a8->(a8->α->Prop)->Prop}{ta:nC}{J:It}{ds:List D}{k:Kd}{o0:α}{K:α->Prop}{End:Hp->Prop}
  (γm:∀d k β R R',(∀r,R r->R' r)->γ d k β R->γ d k β R') (τm:∀β R R',(∀d β,R d β->R' d β)->τ β R->τ β R') (Tx:∀j∈Tg,j∈T)
  (inj:∀(i i' j:Nat),lk[i]?=some (some j)->lk[i']?=some (some j)->i=i') (hT:∀i∈T,∀j,lk[i]?≠some (some j))
  (s1:SQ X C σ H1 β own) (ha:H1 a=none) (hk:hold k false) (it:wU X (av C (Wn own) k) J ds H1) (a0:Ac o0 (upd H1 a oa)) (ent:SQ X (C.u λc=>c=a) (dQ lk σ) (upd H1 a oa) (cT lk β) (a7 lk β own))
  (Ki:∀Hb Wb β' o σ' H' N,C.H0 a=none->va X C (Wn (a7 lk β own)) T (dQ lk σ) H1 a Hb Wb Ac β' o σ' H'->Af o β' N->ta (λyG yw=>∃β' o',va X C (Wn (a7 lk β own)) T (dQ lk σ) H1 a Hb Wb Ac β' o' yG yw/\N β' o') σ' H')
  (q:lY γ τ Af ds k (cT lk β) o0 λβf o=>f7 (cT lk β) βf/\K o)
  (fin:∀o H',K o->Out X C σ H1 own true β H' own->Ac o H'->End H') :
  fX J (IU X C a Tg γ) (jw X (C.u λc=>c=a) true τ) ta (λ_ H'=>End H') (dQ lk σ) (upd H1 a oa):=by
 have h0:C.H0 a=none:=VT λz=>s1.hX a z ha;have sm:au H1 (upd H1 a oa):=au.new ha;refine vB (W0:=Wn (a7 lk β own)) (T:=T) (σ0:=dQ lk σ) (H1:=H1) (Hb:=H1) (Wb:=Wn (a7 lk β own)) hA Tx γm τm (λi βx ox σx Hx sx=>?_) (λβx ox σx Hx Nx sx qx=>Ki _ _ _ _ _ _ _ h0 sx qx)
  ⟨a7 lk β own,⟨ent,⟨λb z=>.inl z,sm.kp,λb z e=>z (sm.free e)⟩,λ_ z=>z,a0,sm,λb ob n e=>sm _ _ e,λ_ _=>rfl⟩⟩ q λβx ox σx Hx sx hx=>?_
 ·obtain⟨CU,sx⟩:=sx;have kI:Kp (λb=>av C (Wn own) k b\/H1 b=none) H1 Hx:=sx.pu.kp;obtain⟨g1,g2⟩:=it (λb=>av C (Wn own) k b\/H1 b=none) (λb z=>z) i Hx kI;refine⟨λd hd=>?_,g2⟩;obtain⟨go,yl⟩:=g1 d hd;refine⟨go,λx H3 y=>?_⟩;obtain⟨s3,r3⟩:=yl x H3 y;exact⟨s3,λaN Ov=>aA.aS (λc z=>z.elim (λz=>.inl (ju (λc z=>aW c (Ov c z)) k c z)) λz=>.inr (by rw[z];exact ha)) r3⟩
 ·obtain⟨CU,sx⟩:=sx;obtain⟨hh,hK⟩:=hx;have lv:SQ X C σ Hx β own:=s1.leave sx.sq sx.sn sx.le hh λj ok i' e1 e2=>sx.st i' λz=>hT i' z j e2;exact fin ox Hx hK ⟨lv,⟨λb z=>.inl z,sx.sn.k.mono λb z=>z.imp (aW b) id,sx.sn.d⟩,λz=>⟨sx.pu,rfl⟩,λ_ z=>z⟩ sx.ac
end
theorem H9 {X:Cx}{C:Cfg}{σ:St}{H1 H':Hp}{β:a8}{own:Nat->List Addr}{a:Addr}{o:List D}(s1:SQ X C σ H1 β own)(ha:H1 a=none)(h:Nt X.prog X.w H1 a o H'):KV X.prog X.w C (H1,Wn own) own H' .own (.lst o) (.ref a):=by
 obtain⟨vs,A,at',os,nd,nw⟩:=h;refine⟨a::A,⟨a,vs,A,rfl,at',rfl,os⟩,VL.mpr ⟨λz=>(nw a z).2 rfl,nd⟩,λc hc=>?_⟩;have nv:H1 c=none:=by
  rcases Va.mp hc with rfl|hc
  ·exact ha
  ·exact(nw c hc).1
 exact⟨nv,λh=>by obtain⟨j,hj⟩:=h;exact(s1.dm j c hj).1 nv,VT λz=>s1.hX c z nv⟩
def FK (lk:List (Option Nat))(ι:dg)(γ:dY)(τ:a_)(ι2:dg)(γ2:dY)(τ2:a_)(φ:aZ):aZ:=λβ R=>ι β λds k β1=>hold k false/\lY γ τ (Eu ι2 γ2 τ2 (ES φ)) ds k (cT lk β1) [] λβf o=>f7 (cT lk β1) βf/\R (.lst o) .own β1
section
variable {X:Cx}{C:Cfg}{lk:List (Option Nat)}{γ γ2:dY}{τ τ2:a_}{φ:aZ}{T T2:List Nat}
variable {scope:Xz}{tg c4 yS nj elt:Expr}{ifs nr:List Expr}{ι ι2:dg}{pi:Bool}{pos:Pos}{i:Nat}
theorem SG (N':List Str)(lk:List (Option Nat))(L:jL X.env.scope.names X.N scope N' lk=true)(wt:N'.Nodup)(hc:X.calm=true)(hi:yr X C pi tg c4 ι)
  (sC:∀a cl c s H ex,yu (aK X scope N' cl c s H ex) (C.u λc=>c=a) tg T γ) (sA:∀a cl c s H ex,vd (aK X scope N' cl c s H ex) (C.u λc=>c=a) true ifs τ)
  (Ra:∀a cl c s H ex,Rv (aK X scope N' cl c s H ex) (C.u λc=>c=a) yS nj ι2)
  (Kh:∀a cl c s H ex,yu (aK X scope N' cl c s H ex) (C.u λc=>c=a) yS T2 γ2) (Kg:∀a cl c s H ex,vd (aK X scope N' cl c s H ex) (C.u λc=>c=a) true nr τ2)
  (sG:∀a cl c s H ex,PQ (aK X scope N' cl c s H ex) (C.u λc=>c=a) true elt φ) (hT:(T++T2).all (λi=>match lk[i]? with|some (some _)=>false|_=>true)=true:=by rfl)
  (hs:∀x,V0 c4 X.env x=pure x:=by intro _;rfl) (xU:∀cl c s H ex x,V0 nj (aK X scope N' cl c s H ex).env x=pure x:=by intro _ _ _ _ _ _;rfl):PQ X C pi (.ListComp elt [⟨tg,c4,ifs,0⟩,⟨yS,nj,nr,0⟩] scope pos) (FK lk ι γ τ ι2 γ2 τ2 φ):=by
 have L:=Links.of L;have HE:∀i∈T++T2,∀j,lk[i]?≠some (some j):=λi hi j e=>by
  have:=Wi.mp hT i hi;rw[e]at this;cases this
 have ax:Addr:=0;have U1:List (Str×Addr):=[];have γm:=(sC 0 [] 0 X.s₀ X.H₀ []).mono;have τm:=(sA 0 [] 0 X.s₀ X.H₀ []).mono;have Nv:=(Kh 0 [] 0 X.s₀ X.H₀ []).mono;have Nu:=(Kg 0 [] 0 X.s₀ X.H₀ []).mono;have φm:=(sG 0 [] 0 X.s₀ X.H₀ []).mono;have ιm:=(Ra 0 [] 0 X.s₀ X.H₀ []).mono;refine⟨λβ R R' k h=>hi.mono β _ _ (λds kd β1 q=>⟨q.1,q.2.mono λ_ _ z=>⟨z.1,k _ _ _ z.2⟩⟩) h,?_⟩;refine(lN (g:=⟨tg,c4,ifs,0⟩) (gs:=[⟨yS,nj,nr,0⟩]) (tg:=λa=>IU X C a T γ) (tt:=λa=>jw X (C.u λc=>c=a) true τ)
  (ta:=λa N σ H=>∃β own,SQ X (C.u λc=>c=a) σ H β own/\ι2 β λds k β'=>∀J H',au H H'->SQ X (C.u λc=>c=a) σ H' β' own->wU X (gb (C.u λc=>c=a) (Wn own) k) J ds H' ->
   fX J (IU X C a T2 γ2) (jw X (C.u λc=>c=a) true τ2) (Qt X C a φ) N σ H')
  L hc i_ rfl rfl (λ_ _=>HV) hi.pi (λa cl c s H ex=>⟨(sC a cl c s H ex).pg,(sA a cl c s H ex).pt,CT (X:=aK X scope N' cl c s H ex) (g':=⟨yS,nj,nr,0⟩) rfl hc HU (Ra a cl c s H ex).pi (Kh a cl c s H ex).pg (Kg a cl c s H ex).pt (i7 (X:=aK X scope N' cl c s H ex) rfl (sG a cl c s H ex).pe) (xU cl c s H ex)⟩) hs).pre λσ H Q h=>?_
 obtain⟨β,own,s,h⟩:=h;refine⟨β,own,s,hi.mono β _ _ (λds k β1 h J H1 aB o1 it a ha=>?_) h⟩;obtain⟨hk,q⟩:=h;refine za (T:=T++T2) (u9 (P:=X.prog) (w:=X.w) (H1:=H1)) γm τm (λj hj=>WG _ hj) (fx L wt) HE o1.sq ha hk it ⟨[],[],az,(show aQ _ _ _ [] [] [] from ⟨rfl,rfl⟩),Wc,λc hc=>(nomatch hc)⟩ (o1.sq.enter ha (fx L wt))
  (λHb Wb βx ox σx Hx Nx h0 sx qx=>Cs u9 (λj hj=>VM _ hj) Nv Nu (λHb Wb βy oy σy Hy Ny sy qy=>Ct h0 ha φm sy qy) ιm sx qx) q λo H' q o2 r=>?_
 refine q _ _ aB ⟨o2.sq,o1.sn.trans o2.sn,λz=>⟨(o1.pu z).1.trans (o2.pu rfl).1,(o1.pu z).2⟩,o1.le⟩ ((H9 o1.sq ha r).later o1.sn)
end
section
variable {X:Cx}{C:Cfg}{a:Expr}{φ:aZ}{p:Bool}
def N9 (φ:aZ):a_:=λβ R=>φ β λd _ β'=>∃ds,d=.lst ds/\R (!ds.isEmpty) β'
theorem pH (ha:PQ X C p a φ)(he:∀whole,Y9 a X.env whole=(do let v <- whole;YI a.pos;holding [v] (truthy v)):=by intro _;rfl):tL X C p a (N9 φ) :=
 ⟨λβ R R' k h=>ha.mono β _ _ (λd kd β' h=>by obtain⟨b,e,q⟩:=h;exact⟨b,e,k _ _ q⟩) h,(zt ha.pe he).pre λσ H Q h=>by
  obtain⟨β,own,s,h⟩:=h;refine tQ.of ha s h λd k β' v H1 aB h o1 r1=>?_;obtain⟨ds,e,q⟩:=h;subst e;obtain⟨c,vs,rfl,h1,n1,rs⟩:=r1.rep;refine⟨!ds.isEmpty,.inl ⟨vs,dh.of h1,?_⟩,q H1 aB o1⟩;have:=rs.length;cases ds <;> cases vs <;> first|rfl|cases this⟩
end
end L2.Q
namespace L2
open PySem PySem.Spec PySem.SeqAt PyProof.Rows
def Apart (t u:List Int):Prop:=bH t u=false/\bP t u=false
def Good (rows ts:List (List Int)):Prop:=(∀t∈ts,t∈rows)/\ts.Pairwise (λa b=>HT.lexLt a b=true)/\ts.Pairwise Apart
theorem fH {t u:List Int}:bH t u=true↔∃i∈t,i∈u:=by
 unfold bH;rw[List.any_eq_true];simp
theorem u3 {a b c d:Int}:mI a b c d=true↔(a<c/\c<b/\b<d)\/(c<a/\a<d/\d<b):=by
 unfold mI;simp[Zl,VO]
theorem jm {rows ts:List (List Int)}{k:Nat}{t:List Int}(hk:k<ts.length):jn rows ts k t=none↔t∈rows/\(∀u,0<k->ts[k-1]?=some u->HT.lexLt u t=true)/\∀j u,j<k->ts[j]?=some u->Apart u t:=by
 have Na:∀(p:List Int->Bool) (j:Nat) (u:List Int),ts[j]?=some u->qG ts p j=p u:=λp j u e=>by unfold qG;rw[e]
 unfold jn
 by_cases h1:t∈rows
 ·rw[if_pos h1]
  by_cases h2:(decide (0<k)&&qG ts (λu=>!HT.lexLt u t) (k-1))=true
  ·rw[if_pos h2];refine⟨λz=>(nomatch z),λ⟨_,z,_⟩=>?_⟩;rw[VO]at h2;have h0:0<k:=by simpa using h2.1
   have e:ts[k-1]?=some ts[k-1]:=Vf (by lia)
   have:=h2.2;rw[Na _ _ _ e,z _ h0 e]at this;exact absurd this (by simp)
  ·rw[if_neg h2];have o:∀u,0<k->ts[k-1]?=some u->HT.lexLt u t=true:=λu h0 e=>by
    rw[Na _ _ _ e]at h2;cases q:HT.lexLt u t with
    |true=>rfl
    |false=>exact absurd (by rw[q];simp[h0]) h2
   have sh:∀p:List Int->Bool,(VD k).find? (qG ts p)=none↔∀j u,j<k->ts[j]?=some u->p u=false:=λp=>by
    rw[YV];refine⟨λz j u hj e=>?_,λz j hj=>?_⟩
    ·have:=z j (V4.mpr hj);rw[Na p j u e]at this;simpa using this
    ·have EH:=V4.mp hj;have e:ts[j]?=some ts[j]:=Vf (by lia)
     rw[Na p j _ e,z j _ EH e];simp
   cases q1:(VD k).find? (qG ts λu=>bH u t)with
   |some j =>
    refine⟨λz=>(nomatch z),λ⟨_,_,z⟩=>?_⟩;rw[(sh _).mpr λj u hj e=>(z j u hj e).1]at q1;cases q1
   |none =>
    cases q2:(VD k).find? (qG ts λu=>bP u t)with
    |some j =>
     refine⟨λz=>(nomatch z),λ⟨_,_,z⟩=>?_⟩;rw[(sh _).mpr λj u hj e=>(z j u hj e).2]at q2;cases q2
    |none=>exact⟨λ_=>⟨h1,o,λj u hj e=>⟨(sh _).mp q1 j u hj e,(sh _).mp q2 j u hj e⟩⟩,λ_=>rfl⟩
 ·rw[if_neg h1];exact⟨λz=>(nomatch z),λz=>absurd z.1 h1⟩
theorem pw_iff {R:List Int->List Int->Prop}{ts:List (List Int)}:ts.Pairwise R↔∀(i j:Nat) (u t:List Int),i<j->ts[i]?=some u->ts[j]?=some t->R u t:=by
 rw[X7];refine⟨λh i j u t aV e1 e2=>?_,λh i j hi hj aV=>h i j _ _ aV (Vf hi) (Vf hj)⟩;obtain⟨hi,rfl⟩:=Vc.mp e1;obtain⟨hj,rfl⟩:=Vc.mp e2;exact h i j hi hj aV
theorem ml {rows ts:List (List Int)}:iF rows ts=none↔∀k<ts.length,iI rows ts k=none:=by
 unfold iF;rw[X6];exact⟨λh k hk=>h k (V4.mpr hk),λh k hk=>h k (V4.mp hk)⟩
theorem iE {rows ts:List (List Int)}:iF rows ts=none↔Good rows ts:=by
 rw[ml];constructor
 ·intro h;have h':∀k t,ts[k]?=some t->_:=λk t e=>(jm (Vc.mp e).1).mp ((fC e).symm.trans (h k (Vc.mp e).1));refine⟨λt ht=>?_,pw_iff.mpr ?_,pw_iff.mpr λi j u t aV e1 e2=>(h' j t e2).2.2 i u aV e1⟩
  ·obtain⟨k,e⟩:=Yy.mp ht;exact(h' k t e).1
  ·intro i j
   induction j with
   |zero=>intro u t aV;lia
   |succ j ih =>
    intro u t aV e1 e2;have hj:j<ts.length:=by have:=(Vc.mp e2).1;lia
    have e3:ts[j]?=some ts[j]:=Vf hj;have l:=(h' (j+1) t e2).2.1 ts[j] (by lia) e3
    by_cases Pk:i<j
    ·exact gG (ih u ts[j] Pk e1 e3) l
    ·have:i=j:=by lia
     subst this;rw[e1]at e3;cases e3;exact l
 ·rintro⟨h1,h2,h3⟩ k hk;have e:ts[k]?=some ts[k]:=Vf hk;rw[fC e];exact(jm hk).mpr ⟨h1 _ (Yn hk),λu h0 eu=>pw_iff.mp h2 (k-1) k u _ (by lia) eu e,λj u hj eu=>pw_iff.mp h3 j k u _ hj eu e⟩
end L2
namespace L2.Q
open PySem PySem.Spec PySem.SeqAt PyProof.Rows
structure qz (mg:Str->Option U5):Prop extends Bs2 mg where
 sum:mg "sum" = none
def tI (p:Nat×Nat):List Int:=[(p.1:Int),(p.2:Int)]
def nI (ps:List (Nat×Nat)):D:=.lst (ps.map λp=>kD (tI p))
def gj (n:Nat)(ps:List (Nat×Nat)):D:=.tup [.int n,nI ps]
structure qv (n:Nat)(ps:List (Nat×Nat)):Prop where
 lt:∀p∈ps,p.1<p.2/\p.2<n
 nd:ps.Nodup
 le:n<=80
 sm:ps.length<=400
theorem yR {n:Int}{ts:List (List Int)}(n0:0<=n)(h:hZ n ts):∃ps:List (Nat×Nat),ts=ps.map tI/\∀p∈ps,p.1<p.2/\p.2<n.toNat:=by
 induction ts with
 |nil=>exact⟨[],rfl,λ_ z=>(nomatch z)⟩
 |cons t ts ih =>
  obtain⟨ps,e,q⟩:=ih λu hu=>h u (by simp[hu])
  obtain⟨a,b,rfl,h1,h2,h3⟩:=h t (by simp)
  refine⟨(a.toNat,b.toNat)::ps,?_,λp hp=>?_⟩
  ·rw[VI,<- e]
   congr 1
   show [a,b]=[((a.toNat:Nat):Int),((b.toNat:Nat):Int)];rw[YL h1,YL (by lia)]
  ·rcases Va.mp hp with rfl|hp
   ·exact⟨by show a.toNat<b.toNat;lia,by show b.toNat<n.toNat;lia⟩
   ·exact q p hp
theorem Cw {n:Int}{ts:List (List Int)}(n0:0<=n)(n1:n<=80)(l:ts.length<=400)(h:hZ n ts)(nd:ts.Nodup):∃(m:Nat) (ps:List (Nat×Nat)),qv m ps/\n=m/\ts=ps.map tI/\D.tup [.int n,.lst (ts.map kD)]=gj m ps:=by
 obtain⟨ps,e,q⟩:=yR n0 h;refine⟨n.toNat,ps,⟨q,?_,by lia,by rw[e,U9]at l;exact l⟩,by lia,e,?_⟩
 ·rw[e]at nd;exact(WT.mp nd).imp λz e=>z (congrArg tI e)
 ·unfold gj nI;rw[e,Wr,YL n0];rfl
def bA (l:List Nat):List D:=l.map λ(k:Nat)=>D.int (k:Int)
def qD (ps:List (Nat×Nat))(i:Nat):List Nat:=(ps.filter λp=>decide (p.1=i)).map (·.2)
theorem vX {ps:List (Nat×Nat)}{i k:Nat}:k∈qD ps i↔(i,k)∈ps:=by
 unfold qD;rw[VV];constructor
 ·rintro⟨p,hp,rfl⟩;obtain⟨h1,h2⟩:=WA.mp hp;rw[<- of_decide_eq_true h2];exact h1
 ·intro h;exact⟨(i,k),WA.mpr ⟨h,by simp⟩,rfl⟩
def MM (n:Nat)(ps:List (Nat×Nat)):D:=.lst ((VD n).map λi=>.lst (bA (qD ps i)))
theorem eS {α:Type}{n i:Nat}{f:Nat->α}(h:i<n):((VD n).map f)[i]?=some (f i):=by
 rw[Vq,WU h];rfl
theorem l8 {ds:List D}{x:Int}{i:Nat}{d:D}(hx:x=(i:Int))(h:ds[i]?=some d):qi (.lst ds) (.int x)=some d:=by rw[hx];exact wH h
theorem Oy {n:Nat}{ps:List (Nat×Nat)}{x:Int}{i:Nat}(hx:x=(i:Int))(h:i<n):qi (MM n ps) (.int x)=some (.lst (bA (qD ps i))):=l8 hx (eS h)
def qU (L:Nat)(T:Nat->Int):List D:=(VD L).map λl=>.int (T l)
def jy (n:Nat)(L:Nat->Nat)(T:Nat->Nat->Int):D:=.lst ((VD (n+1)).map λi=>.lst (qU (L i) λl=>T l i))
theorem AB {L:Nat}{T:Nat->Int}{x:Int}{l:Nat}(hx:x=(l:Int))(h:l<L):qi (.lst (qU L T)) (.int x)=some (.int (T l)):=l8 hx (eS h)
theorem AA {n:Nat}{L:Nat->Nat}{T:Nat->Nat->Int}{x:Int}{i:Nat}(hx:x=(i:Int))(h:i<=n):qi (jy n L T) (.int x)=some (.lst (qU (L i) λl=>T l i)):=l8 hx (eS (by lia))
def eJ (n a:Nat):List (Nat×Nat):=(VD (a+1)).map λb=>(n-1-a,n-a+b)
def pk (n:Nat):List (Nat×Nat):=(VD n).flatMap (eJ n)
def kU (p:Nat×Nat):D:=.tup [.int (p.1:Int),.int (p.2:Int)]
def eT (n a b:Nat):List (Nat×Nat):=(eJ n a).drop b++((VD n).drop (a+1)).flatMap (eJ n)
theorem iw {n a b:Nat}(h:b<=a):eT n a b=(n-1-a,n-a+b)::eT n a (b+1):=by
 unfold eT eJ;rw[VY (by rw[U9,Wv];lia)]
 simp
theorem oI {n a:Nat}(h:a<n):((VD n).drop a).flatMap (eJ n)=eT n a 0:=by
 unfold eT;rw[VY (by rw[Wv];exact h)]
 simp
theorem nO {n a:Nat}(h:a+1<n):eT n a (a+1)=eT n (a+1) 0:=by
 rw[<- oI h];unfold eT eJ;simp
theorem uc {n a:Nat}(h:n<=a+1):eT n a (a+1)=[]:=by
 unfold eT eJ;rw[List.drop_eq_nil_of_le (by simp),List.drop_eq_nil_of_le (by simpa using h)]
 rfl
theorem w5 {n:Nat}(h:0<n):pk n=eT n 0 0:=by rw[<- oI h];rfl
theorem gF {α:Type}{γ:dY}{τ:a_}{φ:aZ}{l:List α}{f:α->D}{k:Kd}{EZ:a8}{K:List D->Prop}(t:α->Bool)(g:α->D)(h0:f7 EZ EZ)(hl:l.length<=Vh)
  (h:∀x∈l,∀(x0:Option B) (o:List D) (J:a8->List D->Prop),o.length<Vh->(t x=true->∀x0,J (x0::EZ) (o++[g x]))->(t x=false->∀x0,J (x0::EZ) o)->γ (f x) (sk k (f x)) (x0::EZ) λβ1=>τ β1 λt β2=>if t=true then φ β2 λx kx β3=>EB kx x/\o.length<Vh/\J β3 (o++[x]) else J β2 o)
  (q:K ((l.filter t).map g)):n9 γ τ φ (l.map f) k (none::EZ) K:=by
 refine⟨λi β o=>i<=l.length/\(∃x0,β=x0::EZ)/\o=((l.take i).filter t).map g,⟨Vv _,⟨_,rfl⟩,rfl⟩,?_,?_⟩
 ·rintro i d β o hd ⟨hi,⟨x0,rfl⟩,rfl⟩;rw[Vq]at hd;obtain⟨x,hx,rfl⟩:=Vr.mp hd;have dU:i<l.length:=(Vc.mp hx).1;have hle:(((l.take i).filter t).map g).length<Vh:=by
   rw[U9];have:=WL t (l.take i);rw[VW]at this;lia
  have e:l.take (i+1)=l.take i++[x]:=by rw[Wo,hx];rfl
  refine h x (VB hx) x0 _ (λβ o=>i+1<=l.length/\(∃x0,β=x0::EZ)/\o=((l.take (i+1)).filter t).map g) hle (λht x0=>?_) λht x0=>?_
  ·exact⟨dU,⟨_,rfl⟩,by rw[e,YW,V1,Zc,if_pos ht];rfl⟩
  ·exact⟨dU,⟨_,rfl⟩,by rw[e,YW,V1,Zc,if_neg (by rw[ht];simp)];simp⟩
 ·rintro β o ⟨_,⟨x0,rfl⟩,rfl⟩;rw[U9,Xo];exact⟨h0,q⟩
theorem eX {α:Type}{l:List α}:l.filter (λ_=>true)=l:=List.filter_eq_self.mpr λ_ _=>rfl
theorem df {a b:List D}(h:a.length+b.length<=1000000):tj (.lst a) (.lst b)=some (.lst (a++b)):=by
 show (if a.length+b.length<=Vh then _ else _)=_
 rw[if_pos (Vy h (by decide))]
def A9:FD:=λds R=>∃n:Nat,ds=[.int n]/\n<=80/\R (.lst ((pk n).map kU))
theorem A9.mono:cH A9:=λds R R' k h=>by obtain⟨n,e,h1,q⟩:=h;exact⟨n,e,h1,k _ q⟩
def sU:FD:=λds R=>∃n ps,ds=[gj n ps]/\qv n ps/\R (MM n ps)
theorem sU.mono:cH sU:=λds R R' k h=>by obtain⟨n,ps,e,h1,q⟩:=h;exact⟨n,ps,e,h1,k _ q⟩
abbrev wu (n:Nat)(T:Nat->Nat->Int):D:=jy n (λi=>n+1-i) T
theorem du {n:Nat}(h:n<=1000):n<=Vh:=Vy h (by decide)
theorem qV {n:Nat}(h:n<=1000):n<Vh:=Nat.lt_of_le_of_lt h (by decide)
theorem J4 {n i:Nat}{x:Int}(hx:x=(i:Int))(h:i<n):yB n x=some i:=by
 subst hx;unfold yB;rw[if_pos (by lia),if_pos (by lia)]
 simp
theorem vA {α:Type}{n i:Nat}{f:Nat->α}{y:α}(h:i<n):((VD n).map f).set i y=(VD n).map λk=>if k=i then y else f k:=by
 refine Yd λk=>?_;rw[XI]
 by_cases hk:k<n
 ·rw[eS hk,eS hk,U9,Wv]
  by_cases e:i=k
  ·rw[if_pos e,if_pos (e▸hk),if_pos e.symm]
  ·rw[if_neg e,if_neg (Xn e)]
 ·rw[WM (l:=(VD n).map f) (by simpa using hk),WM (l:=(VD n).map λk=>if k=i then y else f k) (by simpa using hk),if_neg (by lia)]
theorem Fz {n i k:Nat}{ps:List (Nat×Nat)}(h:i<n):((VD n).map λj=>D.lst (bA (qD ps j))).set i (.lst (bA (qD ps i)++[D.int k]))=(VD n).map λj=>D.lst (bA (qD (ps++[(i,k)]) j)):=by
 rw[vA h];refine Wk λj _=>?_;unfold qD bA;rw[YW,V1,V1]
 by_cases e:j=i
 ·rw[if_pos e,e];simp
 ·rw[if_neg e,Zc,if_neg (by simpa using Xn e)];simp
theorem CF {ps:List (Nat×Nat)}{i:Nat}:(qD ps i).length<=ps.length:=by
 unfold qD;rw[U9];exact WL _ _
def fR (n a b:Nat)(i:Nat):Nat:=if n-1-a<i then n+1-i else if i=n-1-a then b+1 else 1
theorem Cq {n a b:Nat}{T:Nat->Nat->Int}(ha:a<n)(hb:b<=a):
  ((VD (n+1)).map λi=>D.lst (qU (fR n a b i) λl=>T l i)).set (n-1-a) (.lst (qU (b+1) (λl=>T l (n-1-a))++[D.int (T (b+1) (n-1-a))]))=(VD (n+1)).map λi=>D.lst (qU (fR n a (b+1) i) λl=>T l i):=by
 rw[vA (by lia)]
 refine Wk λi _=>?_;unfold fR
 by_cases e:i=n-1-a
 ·rw[if_pos e,e,if_neg (by lia),if_pos rfl]
  unfold qU;rw[Zi (n:=b+1),V1];rfl
 ·rw[if_neg e,if_neg e,if_neg e]
theorem xH {n a:Nat}(h:a+1<n)(i:Nat)(hi:i<=n):fR n a (a+1) i=fR n (a+1) 0 i:=by
 unfold fR
 by_cases h1:n-1-a<i
 ·rw[if_pos h1,if_pos (by omega)]
 ·rw[if_neg h1]
  by_cases h2:i=n-1-a
  ·rw[if_pos h2,if_pos (by omega)];omega
  ·rw[if_neg h2,if_neg (by omega)]
   split <;> rfl
theorem As {n a:Nat}(h:n=a+1)(i:Nat)(hi:i<=n):fR n a (a+1) i=n+1-i:=by
 unfold fR
 split
 ·rfl
 ·split <;> lia
theorem uB {n:Nat}(h:0<n)(i:Nat)(hi:i<=n):fR n 0 0 i=1:=by
 unfold fR
 split
 ·lia
 ·split <;> rfl
theorem nK {n:Nat}{L L':Nat->Nat}{T:Nat->Nat->Int}(h:∀i,i<=n->L i=L' i):jy n L T=jy n L' T:=by
 unfold jy
 congr 1
 refine Wk λi hi=>?_;rw[h i (by have:=V4.mp hi;lia)]
def wV (n idx:Nat)(L:Nat->Nat):Prop:=(n=0/\L 0=1)\/∃a b,a<n/\b<=a+1/\(∀i,i<=n->L i=fR n a b i)/\(pk n).drop idx=eT n a b
theorem sZ {n:Nat}:wV n 0 λ_=>1:=by
 rcases Nat.eq_zero_or_pos n with h|h
 ·exact .inl ⟨h,rfl⟩
 ·exact .inr ⟨0,0,h,Vv _,λi hi=>(uB h i hi).symm,w5 h⟩
theorem yd {n:Nat}{L:Nat->Nat}(h:wV n (pk n).length L):∀i,i<=n->L i=n+1-i:=by
 rcases h with⟨rfl,h⟩|⟨a,b,h1,h2,h3,h4⟩
 ·intro i hi;rw[show i=0 by lia,h]
 ·intro i hi;rw[Zd]at h4;have hb:b=a+1:=by
   rcases WS a b with q|q
   ·lia
   ·rw[iw q]at h4;cases h4
  have ha:n=a+1:=by
   rcases WS (a+1) n with q|q
   ·rw[hb,nO q,iw (Vv _)]at h4;cases h4
   ·lia
  rw[h3 i hi,hb];exact As ha i hi
theorem uT {n idx:Nat}{L:Nat->Nat}{p:Nat×Nat}(h:wV n idx L)(hp:(pk n)[idx]?=some p):∃a b,a<n/\b<=a/\p=(n-1-a,n-a+b)/\(∀i,i<=n->L i=fR n a b i)/\(pk n).drop (idx+1)=eT n a (b+1):=by
 have hd:(pk n).drop idx=p::(pk n).drop (idx+1):=by
  obtain⟨h1,h2⟩:=Vc.mp hp;rw[VY h1,h2]
 rcases h with⟨rfl,h⟩|⟨a,b,h1,h2,h3,h4⟩
 ·cases hp
 ·have key:∃a b,a<n/\b<=a/\(∀i,i<=n->L i=fR n a b i)/\(pk n).drop idx=eT n a b:=by
   rcases WS a b with q|q
   ·have e:b=a+1:=by lia
    rcases WS (a+1) n with q2|q2
    ·exact⟨a+1,0,q2,Vv _,λi hi=>by rw[h3 i hi,e,xH q2 i hi],by rw[h4,e,nO q2]⟩
    ·rw[h4,e,uc q2]at hd;cases hd
   ·exact⟨a,b,h1,q,h3,h4⟩
  obtain⟨a,b,h1,h2,h3,h4⟩:=key;rw[h4,iw h2]at hd;injection hd with e1 e2
  exact⟨a,b,h1,h2,e1.symm,h3,e2.symm⟩
theorem rj {n a:Nat}:(eJ n a).length=a+1:=by unfold eJ;simp
theorem xk {n a b:Nat}(h:b<a+1):(eJ n a).take (b+1)=(eJ n a).take b++[(n-1-a,n-a+b)]:=by
 rw[Wo];unfold eJ;rw[eS h];rfl
theorem ze {n a:Nat}:(eJ n a).take (a+1)=eJ n a:=Wg (by rw[rj];exact U8 _)
theorem sN {n:Nat}:∀a:Nat,a<=n->(((VD n).take a).flatMap (eJ n)).length<=a*a
 |0,_=>by simp
 |a+1,h=>by
  have:=sN (n:=n) a (by lia)
  rw[Wo,WU (show a<n by lia),List.flatMap_append,Vk]
  have e:((some a).toList.flatMap (eJ n)).length=a+1:=by simp[rj]
  rw[e,Nat.mul_add,Nat.add_mul];lia
theorem yW {n a b:Nat}(hn:n<=80)(ha:a<n)(hb:b<a+1):(((VD n).take a).flatMap (eJ n)).length+((eJ n a).take b).length<Vh:=by
 have h1:=sN (n:=n) a (by lia)
 have h2:((eJ n a).take b).length<=b:=by rw[VW];exact XZ _ _
 have h3:a*a<=80*80:=XH (by lia) (by lia)
 have h4:80*80+80<Vh:=by decide
 lia
end L2.Q
namespace L2
open PySem PySem.Spec PySem.SeqAt PyProof.Rows
theorem mH {ts:List (List Int)}{k:Nat}:cutD (ts.map kD) none (some (k:Int))=(ts.take k).map kD:=by
 unfold cutD;rw[HT.iZ,HT.kR,Zt,List.map_take];simp
theorem tm {ts:List (List Int)}{k:Nat}:cutD (ts.map kD) (some (k:Int)) none=(ts.drop k).map kD:=by
 unfold cutD;rw[HT.iZ,HT.kR,List.map_drop]
 by_cases h:k<=(ts.map kD).length
 ·rw[Nat.min_eq_left h,Wg (by rw[WX];lia)]
 ·rw[Nat.min_eq_right (by lia),Ww (U8 _),Ww (by lia)]
  exact List.take_nil
end L2
namespace L2.Q
open PySem PySem.Spec PySem.SeqAt PyProof.Rows
def oD:Option Nat->D
 |none=>.cO
 |some k=>.int (k:Int)
def parts (i:Nat)(k:Option Nat)(j:Nat):List (Nat×Nat):=match k with
 |none=>[(i+1,j)]
 |some k=>[(i+1,k),(k+1,j)]
def mx:FD:=λds R=>∃(i:Nat) (k:Option Nat) (j:Nat),ds=[.int i,oD k,.int j]/\R (.lst ((parts i k j).map kU))
theorem mx.mono:cH mx:=λds R R' k h=>by obtain⟨i,c,j,e,q⟩:=h;exact⟨i,c,j,e,k _ q⟩
theorem A6 {ps:List (Nat×Nat)}:D.cQ (ps.map λp=>kD (tI p))=true:=by
 have:=a5 (ps.map tI);rw[Wr]at this;exact this
def mC:FD:=λds R=>∃n ps,ds=[gj n ps]/\R (gj n ps)
theorem mC.mono:cH mC:=λds R R' k h=>by obtain⟨n,ps,e,q⟩:=h;exact⟨n,ps,e,k _ q⟩
theorem lB {α:Type}{f:α->Nat}:∀{l:List α},(l.map λa=>((f a:Nat):Int)).sum=((l.map f).sum:Nat)
 |[]=>rfl
 |a::l=>by rw[VI,YQ,VI,YQ,lB];lia
def qe:Nat->Nat
 |0=>1
 |n+1=>(n+1)*qe n
theorem qd (a:Nat):∀b,qe a*qe b<=qe (a+b)
 |0=>by show qe a*1<=qe a;lia
 |b+1=>by
  show qe a*((b+1)*qe b)<=(a+b+1)*qe (a+b);rw[Nat.mul_left_comm];exact XH (by lia) (qd a b)
theorem mn {a b:Nat}(h:a<=b):qe a<=qe b:=by
 induction b with
 |zero=>rw[show a=0 by lia];exact U8 _
 |succ b ih =>
  rcases WS b a with q|q
  ·rw[show a=b+1 by lia];exact U8 _
  ·exact Vy (ih q) (Nat.le_mul_of_pos_left _ (by lia))
theorem qh {a b:Int}(h:mM a b):HN (.int a) (.int b)=some (.int (a*b)):=by
 show (if mM a b then _ else _)=_
 rw[if_pos h]
theorem sum_ints {α:Type}{f:α->Int}{l:List α}:lj (λns=>some ns.sum) [.lst (l.map λk=>D.int (f k))]=some (.int (l.map f).sum):=by
 have e:(l.map λk=>D.int (f k))=(l.map f).map D.int:=by simp
 rw[e];exact uW rfl
theorem q_ (n:Nat)(ps:List (Nat×Nat)):(gj n ps).pd.canLay0=true/\(gj n ps).pd.depth<=4:=by
 have:=w_ (n:Int) (ps.map tI);unfold FG at this;rw[Wr]at this;exact this
end L2.Q
namespace L2
open PySem PySem.Spec PySem.SeqAt PyProof.Rows
def L6 (a b:D):Option D:=a.Aj.bind λds=>b.int?.bind λk=>if 0<=k/\k<2 ^ 62/\ds.length*k.toNat<=Vh then some (.lst (Vt k.toNat ds).flatten) else none
theorem jE {P:U_}{w:Vl}{W:Addr->Prop}{H:Hp}{ds:List D}{vs:List V}(h:ak P w W H ds vs):∀k:Nat,ak P w W H (Vt k ds).flatten (Vt k vs).flatten
 |0=>rfl
 |k+1=>by
  rw[Wy,Xe,Wy,Xe];exact h.append (jE h k)
theorem lQ {X:Cx}:Mv X (WR .Mult) L6:=by
 intro pins s σ H x y v u Q I rx ry h;obtain⟨W,d1,d2,d,hd,r1,r2,e,q⟩:=h;obtain⟨ds,h1,e⟩:=VQ.mp e;obtain⟨k,h2,e⟩:=VQ.mp e;obtain⟨⟨k0,k1,hl⟩,rfl⟩:=cP e;rw[D.k8 h1]at r1;rw[D.wg h2]at r2;obtain⟨p,vs,rfl,g1,n1,q1⟩:=r1;exact F_ pins s σ H _ _ v u Q I rx ry ⟨p,k,vs,rfl,r2,g1,by lia,by lia,by rw[q1.length];exact hl,λl nu=>q _ _ (au.new nu) (Rp.iA hd nu (jE q1 _)) λf=>ux nu f (jE q1 _)⟩
namespace Q
section
end
end Q
end L2
namespace ip
open PySem L2 L2.Q
def sS:FD:=λds R=>∃m:Int,ds=[.int m]/\0<=m/\m<=40/\∀(n:Int) ts,0<=n->n<=m->Drawn n ts->R (.tup [.int n,.lst (ts.map kD)])
theorem sS.mono:cH sS:=λds R R' k h=>by obtain⟨m,e,h1,h2,q⟩:=h;exact⟨m,e,h1,h2,λn ts a b c=>k _ (q n ts a b c)⟩
theorem yc {n:Int}{ks:List (List Int)}(h:hZ n ks)(nd:ks.Nodup):∃ts,cutD ((gR ks).map kD) none (some 300)=ts.map kD/\Drawn n ts:=by
 refine⟨(gR ks).take (min 300 (gR ks).length),?_,?_,?_,?_,?_⟩
 ·unfold cutD;rw[HT.iZ,show (some (300:Int))=some ((300:Nat):Int) from rfl,HT.kR,Zt,<- List.map_take]
  simp
 ·rw[VW];lia
 ·exact λt ht=>h t ((fk _).mem_iff.mp (XY ht))
 ·exact List.Pairwise.take (lE _)
 ·exact List.Nodup.sublist (Xd _ _) ((fk _).nodup_iff.mpr nd)
section
variable {P:U_}{w:Vl}{K:PySem.W.Frag}{mg:Str->Option U5}{base:Heap}
theorem bo:aI ["deck","most","size","great","many","ties","way","a","b","k"] ["deck","most"] (ao gV):=⟨rfl,rfl,rfl,by decide +kernel,rfl,by decide +kernel,by decide +kernel⟩
theorem Gj {M6 DK} (dR:D0 K mg M6 DK) {HI uP} (dT:D1 K mg HI uP) (B:Bs mg):aD P w K mg base bz 3 M6 DK ["deck","most"] (jB P w mO true sS):=by
 have GT:aD P w K mg base bz 1 _ _ _ (jB P w mO true bu):=pR dT.F;refine Gu dR.F bo (λds R Lj=> by obtain⟨m,e,_⟩ := Lj;subst e;rfl) λbQ A outer s H E IO hr=>⟨_,(ai (aJ (i:=2) (aL ag a6 (aG aE ay (aG aE ay (aG aE lQ (aO (aa ah af)) ah) (aG aE lQ (aO (aa ah af)) ah)) (aO (aa ah af))) (aX (ih:=0) bu.mono GT (hr.mono (by decide)) dT.m dT.F.kp dT.b (aa ah af))) bo.nd)
    (ai (aJ (i:=3) (aL ag a6 (aO (aa (aX (ih:=0) bu.mono GT (hr.mono (by decide)) dT.m dT.F.kp dT.b (aa (aG aE ay (ae (i:=1)) ah) af)) (aa (ae (i:=1)) af))) (aX (ih:=0) bu.mono GT (hr.mono (by decide)) dT.m dT.F.kp dT.b (aa ah af))) bo.nd)
    (ai (aJ (i:=4) (bS ag (cY.m (iN rfl)) B.min u7 (aa (ae (i:=1)) (aa (aL ag a6 (aO (aa (aX (ih:=0) bu.mono GT (hr.mono (by decide)) dT.m dT.F.kp dT.b (aa ah af)) (aa (aX (ih:=0) bu.mono GT (hr.mono (by decide)) dT.m dT.F.kp dT.b (aa ah af)) (aa (ae (i:=3)) af)))) (ae (i:=2))) af))) bo.nd)
    (ai (kY (i:=5) (λ_=>(CH true)) bo.nd)
    (ai (aJ (i:=6) (aX (ih:=0) bu.mono GT (hr.mono (by decide)) dT.m dT.F.kp dT.b (aa ah af)) bo.nd)
    (ai (bU VP rfl (bK B.range (aa (ae (i:=4)) af)) (aw (i:=7) bo.nd) (dM (bG (mL.t (dJ (aH ag (bw.m (fP hr.units)) (ae (i:=6)) ah) (cM (aH ag (bw.m bW) (aG aE ay (ae (i:=7)) ah) (ae (i:=4)))))) (aj (kZ (i:=5) hr.o9 (bh (aa (ae (i:=7)) (aa (aG aE ay (ae (i:=7)) ah) af))))) aY)
    (dM (bG (mL.t (dJ (aH ag (bw.m (fP hr.units)) (ae (i:=6)) ah) (cM (aH ag (bw.m bW) (ae (i:=7)) (aG ag (bw.m cm) (aG ag (bw.m cm) (ae (i:=4)) ah) (ae (i:=7))))))) (aj (kZ (i:=5) hr.o9 (bh (aa (ae (i:=7)) (aa (aG ag (bw.m cm) (aG ag (bw.m cm) (ae (i:=4)) ah) (ae (i:=7))) af))))) aY)
    (aj (bU VP rfl (uo B.range (aa (aG aE ay (ae (i:=7)) ah) (aa (bS ag (cY.m (iN rfl)) B.min u7 (aa (ae (i:=4)) (aa ah af))) af))) (aw (i:=8) bo.nd) (aj (bG (mL.t (fL (aH ag (bw.m (fP hr.units)) (ae (i:=6)) ah) (gW (mL.t (dJ (aH ag (bw.m (fP hr.units)) (ae (i:=6)) ah) (cM (aH ag (bw.m (fP hr.units)) (aX (ih:=0) bu.mono GT (hr.mono (by decide)) dT.m dT.F.kp dT.b (aa ah af)) ah))))))) (aj (kZ (i:=5) hr.o9 (bh (aa (ae (i:=7)) (aa (ae (i:=8)) af))))) aY)))))))
    (ai (bU VP rfl (bK B.range (aa (aG ag (bw.m i9) (aX (ih:=0) bu.mono GT (hr.mono (by decide)) dT.m dT.F.kp dT.b (aa (aL ag a6 (aO (aa ah (aa ah (aa ah af)))) (aX (ih:=0) bu.mono GT (hr.mono (by decide)) dT.m dT.F.kp dT.b (aa ah af))) af)) (fq ag (cY.m oS) B.int BE (aa (pJ ag (bw.m pP) (ae (i:=4)) ah) af))) af)) (aw (i:=9) bo.nd) (ai (aJ (i:=7) (aX (ih:=0) bu.mono GT (hr.mono (by decide)) dT.m dT.F.kp dT.b (aa (ae (i:=4)) af)) bo.nd)
    (ai (aJ (i:=8) (aG ag (bw.m vQ) (aG aE ay (aG aE ay (ae (i:=7)) ah) (aX (ih:=0) bu.mono GT (hr.mono (by decide)) dT.m dT.F.kp dT.b (aa (aG ag (bw.m cm) (ae (i:=4)) ah) af))) (ae (i:=4))) bo.nd)
    (aj (kZ (i:=5) hr.o9 (bh (aa (bS ag (cY.m (iN rfl)) B.min u7 (aa (ae (i:=7)) (aa (ae (i:=8)) af))) (aa (bS ag (cY.m (u6 rfl)) B.max BC (aa (ae (i:=7)) (aa (ae (i:=8)) af))) af))))))))
    (aj (aM (bh (aa (ae (i:=4)) (aa (nQ (bS aE (qo rfl) B.sorted oT (aa (ae (i:=5)) af)) fo (fm ah)) af)))))))))))),λds R h=>?_⟩
 obtain⟨m,rfl,UI,MZ,q⟩:=h;have mZ:(1:Nat)<=Vh:=du (by lia)
 refine⟨trivial,mZ,trivial,_,rfl,.inl ⟨rfl,trivial,trivial,mZ,trivial,_,rfl,.inl ⟨rfl,_,rfl,.inl ⟨rfl,trivial,trivial,mZ,_,rfl,.inl ⟨rfl,trivial,rfl,trivial,rfl,trivial,16,rfl,by lia,by lia,λr r0 r1=>pick r0 (by simpa using r1) λd hd=>?_⟩⟩⟩⟩⟩
 obtain⟨sz,rfl,s0,s1⟩:∃s:Nat,d=.int (s:Int)/\0<=s/\s<=2:=by
  simp at hd;rcases hd with rfl|rfl|rfl
  ·exact⟨0,rfl,by lia,by lia⟩
  ·exact⟨1,rfl,by lia,by lia⟩
  ·exact⟨2,rfl,by lia,by lia⟩
 refine⟨rfl,_,rfl,trivial,_,rfl,trivial,rfl,trivial,m+1,rfl,by lia,by lia,λg0 UR UQ=>⟨trivial,_,rfl,trivial,h9,trivial,rfl,trivial,rfl,trivial,2,rfl,by lia,by lia,λr r0 r1=>pick r0 (by simpa using r1) λd hd=>?_⟩⟩
 obtain⟨gr,rfl,TC,UP⟩:∃s:Int,d=.int s/\0<=s/\s<=m:=by
  simp only[Va,WW,or_false]at hd;rcases hd with rfl|rfl
  ·exact⟨g0,rfl,by lia,by lia⟩
  ·exact⟨m,rfl,by lia,by lia⟩
 refine⟨_,rfl,trivial,rfl,trivial,rfl,trivial,7,rfl,by lia,by lia,λu u0 u1=>⟨trivial,rfl,trivial,rfl,trivial,11,rfl,by lia,by lia,λv v0 v1=>⟨trivial,_,rfl,trivial,Jg,trivial,_,rfl,pick (by lia) (by show (sz:Int)<3;lia) λd hd=>?_⟩⟩⟩
 obtain⟨x,rfl,OG⟩:∃s:Int,d=.int s/\0<=s:=by
  simp only[Va,WW,or_false]at hd;rcases hd with rfl|rfl|rfl
  ·exact⟨u,rfl,u0⟩
  ·exact⟨v,rfl,v0⟩
  ·exact⟨gr,rfl,TC⟩
 obtain⟨n,hn,n0,n1⟩:∃n:Int,s_ [.int m,.int x]=some (.int n)/\0<=n/\n<=m:=⟨_,s9,by split <;> lia,by split <;> lia⟩
 refine⟨trivial,_,hn,trivial,?_⟩;refine⟨rfl,trivial,rfl,trivial,6,rfl,by lia,by lia,λway w0 w1=>?_⟩
 have add:∀{ts:List (List Int)} {t:List Int},ts.Nodup->hZ n ts->Nb n t->(tH ts t).Nodup/\hZ n (tH ts t)/\(tH ts t).length<=ts.length+1:=λ{ts t} h1 h2 h3=>by
  unfold tH
  split
  ·exact⟨h1,h2,by lia⟩
  ·next hn =>
   refine⟨V8.mpr ⟨h1,by simp,λx hx y hy z=>?_⟩,λu hu=>?_,by simp⟩
   ·rw[Vn.mp hy]at z;exact hn (by rw[<- z];exact hx)
   ·rcases VC.mp hu with z|z
    ·exact h2 u z
    ·rw[Vn.mp z];exact h3
 refine⟨_,rfl,trivial,n,rfl,by lia,by lia,trivial,?_⟩
 refine⟨λi β=>∃(ts:List (List Int)) (x7 x8 x9:Option Q.B),β=[some (.hand mO),some (.val false (.int m)),some (.val true (.int sz)),some (.val true (.int gr)),some (.val true (.int n)),some (.own (dP ts true)),some (.val true (.int way)),x7,x8,x9]/\ts.Nodup/\hZ n ts/\ts.length<=2*i+23*min i 23,⟨[],_,_,_,rfl,Wc,hZ.nil,by simp⟩,?_,?_⟩
 ·rintro i d β hd ⟨ts,x7,x8,x9,rfl,h1,h2,h3⟩;obtain⟨hi,rfl⟩:=b7 hd;refine⟨λβ=>∃(ts:List (List Int)) (x8 x9:Option Q.B),β=[some (.hand mO),some (.val false (.int m)),some (.val true (.int sz)),some (.val true (.int gr)),some (.val true (.int n)),some (.own (dP ts true)),some (.val true (.int way)),some (.val true (.int (0+(i:Int)))),x8,x9]/\ts.Nodup/\hZ n ts/\ts.length<=2*i+23*min i 23+1,?_,?_⟩
  ·refine⟨_,rfl,trivial,_,bL _ _,_,rfl,me (λ_=>⟨_,rfl,trivial,_,rfl,trivial,_,rfl,_,rfl,_,rfl,me (λdU=>?_) (λ_=>⟨ts,_,_,rfl,h1,h2,by lia⟩)⟩) (λ_=>de rfl ⟨ts,_,_,rfl,h1,h2,by lia⟩)⟩
   obtain⟨g1,g2,g3⟩:=add h1 h2 (t:=[0+(i:Int),0+(i:Int)+1]) ⟨_,_,rfl,by lia,by lia,by lia⟩
   exact⟨⟨_,rfl⟩,_,rfl,trivial,_,rfl,trivial,_,rfl,trivial,h9,ts,[0+(i:Int),0+(i:Int)+1],rfl,rfl,by rw[Wm];lia,_,_,_,rfl,g1,g2,by lia⟩
  rintro β ⟨ts,x8,x9,rfl,h1,h2,h3⟩;refine⟨λβ=>∃(ts:List (List Int)) (x8 x9:Option Q.B),β=[some (.hand mO),some (.val false (.int m)),some (.val true (.int sz)),some (.val true (.int gr)),some (.val true (.int n)),some (.own (dP ts true)),some (.val true (.int way)),some (.val true (.int (0+(i:Int)))),x8,x9]/\ts.Nodup/\hZ n ts/\ts.length<=2*i+23*min i 23+2,?_,?_⟩
  ·refine⟨_,rfl,trivial,_,bL _ _,_,rfl,me (λ_=>⟨_,rfl,trivial,_,rfl,trivial,_,rfl,trivial,_,rfl,_,rfl,_,rfl,_,rfl,me (λdU=>?_) (λ_=>⟨ts,_,_,rfl,h1,h2,by lia⟩)⟩) (λ_=>de rfl ⟨ts,_,_,rfl,h1,h2,by lia⟩)⟩
   obtain⟨g1,g2,g3⟩:=add h1 h2 (t:=[0+(i:Int),n-1-(0+(i:Int))]) ⟨_,_,rfl,by lia,by lia,by lia⟩
   exact⟨⟨_,rfl⟩,_,rfl,trivial,_,rfl,trivial,_,rfl,trivial,_,rfl,_,rfl,trivial,h9,ts,[0+(i:Int),n-1-(0+(i:Int))],rfl,rfl,by rw[Wm];lia,_,_,_,rfl,g1,g2,by lia⟩
  rintro β ⟨ts,x8,x9,rfl,h1,h2,h3⟩;obtain⟨gc,O9,UM,Pp⟩:∃h:Int,s_ [.int n,.int 24]=some (.int h)/\h<=n/\h<=24/\0<=h:=⟨_,s9,by split <;> lia,by split <;> lia,by split <;> lia⟩
  refine⟨_,rfl,trivial,_,rfl,trivial,_,rfl,trivial,trivial,_,O9,trivial,0+(i:Int)+1,gc,rfl,⟨by lia,by lia,by lia,by lia⟩,trivial,?_⟩
  refine⟨λj β=>∃(ts:List (List Int)) (x8 x9:Option Q.B),β=[some (.hand mO),some (.val false (.int m)),some (.val true (.int sz)),some (.val true (.int gr)),some (.val true (.int n)),some (.own (dP ts true)),some (.val true (.int way)),some (.val true (.int (0+(i:Int)))),x8,x9]/\ts.Nodup/\hZ n ts/\ts.length<=2*i+23*min i 23+2+j,⟨ts,_,_,rfl,h1,h2,by lia⟩,?_,?_⟩
  ·rintro j d β hd ⟨ts,x8,x9,rfl,h1,h2,h3⟩;obtain⟨hj,rfl⟩:=b7 hd;obtain⟨g1,g2,g3⟩:=add h1 h2 (t:=[0+(i:Int),0+(i:Int)+1+(j:Int)]) ⟨_,_,rfl,by lia,by lia,by lia⟩
   refine⟨_,rfl,trivial,_,bL _ _,_,rfl,me (λ_=>jx rfl ?_) (λ_=>⟨_,rfl,trivial,_,bL _ _,_,rfl,me (λ_=>⟨rfl,trivial,rfl,trivial,3,rfl,by lia,by lia,λr r0 r1=>⟨trivial,_,bL _ _,_,rfl,me (λ_=>?_) (λ_=>⟨ts,_,_,rfl,h1,h2,by lia⟩)⟩⟩) (λ_=>de rfl ⟨ts,_,_,rfl,h1,h2,by lia⟩)⟩)⟩
   ·exact⟨⟨_,rfl⟩,_,rfl,trivial,_,rfl,trivial,h9,ts,[0+(i:Int),0+(i:Int)+1+(j:Int)],rfl,rfl,by rw[Wm];lia,_,_,_,rfl,g1,g2,by lia⟩
   ·exact⟨⟨_,rfl⟩,_,rfl,trivial,_,rfl,trivial,h9,ts,[0+(i:Int),0+(i:Int)+1+(j:Int)],rfl,rfl,by rw[Wm];lia,_,_,_,rfl,g1,g2,by lia⟩
  ·rintro β ⟨ts,x8,x9,rfl,h1,h2,h3⟩;rw[bM]at h3;exact⟨ts,_,_,_,rfl,h1,h2,by lia⟩
 ·rintro β ⟨ts,x7,x8,x9,rfl,h1,h2,h3⟩;rw[bM]at h3;refine⟨rfl,trivial,trivial,trivial,Jg,trivial,rfl,trivial,rfl,trivial,3,rfl,by lia,by lia,λr r0 r1=>pick r0 (by simpa using r1) λd hd=>?_⟩
  obtain⟨mm,rfl,Sz,UC⟩:∃m:Int,d=.int m/\0<m/\m<=301:=by
   simp only[Va,WW,or_false]at hd;rcases hd with rfl|rfl|rfl
   ·exact⟨5,rfl,by lia,by lia⟩
   ·exact⟨21,rfl,by lia,by lia⟩
   ·exact⟨301,rfl,by lia,by lia⟩
  refine⟨trivial,rfl,trivial,mm,rfl,Sz,by lia,λc c0 c1=>?_⟩
  have LU:HN (.int c) (.int (if decide (n>1)=true then 1 else 0))=some (.int (c*(if decide (n>1)=true then 1 else 0))):=by
   show (if mM c _ then some _ else none)=_
   rw[if_pos (show mM c (if decide (n>1)=true then 1 else 0) from .inl ⟨by lia,by lia⟩)]
  have hj:0<=c*(if decide (n>1)=true then 1 else 0)/\c*(if decide (n>1)=true then 1 else 0)<=300/\(¬ n>1->c*(if decide (n>1)=true then 1 else 0)=0):=by
   by_cases hn:n>1
   ·simp[hn];lia
   ·simp[hn]
  generalize c*(if decide (n>1)=true then 1 else 0)=j at LU hj
  refine⟨trivial,_,rfl,trivial,_,rfl,trivial,_,rfl,_,LU,trivial,j,rfl,by lia,by lia,trivial,?_⟩
  refine⟨λi β=>∃(ts:List (List Int)) (x7 x8 x9:Option Q.B),β=[some (.hand mO),some (.val false (.int m)),some (.val true (.int sz)),some (.val true (.int gr)),some (.val true (.int n)),some (.own (dP ts true)),some (.val true (.int way)),x7,x8,x9]/\ts.Nodup/\hZ n ts/\ts.length<=609+i,⟨ts,_,_,_,rfl,h1,h2,by lia⟩,?_,?_⟩
  ·rintro i d β hd ⟨ts,x7,x8,x9,rfl,h1,h2,h3⟩;obtain⟨hi,rfl⟩:=b7 hd;have O7:n>1:=VT λz=>by have:=hj.2.2 z;lia
   refine⟨rfl,_,rfl,trivial,rfl,trivial,n,rfl,by lia,by lia,λone o0 o1=>?_⟩
   refine⟨_,rfl,trivial,_,rfl,trivial,rfl,_,rfl,trivial,_,rfl,trivial,rfl,trivial,n-1,rfl,by lia,by lia,λr' Uw Io=>?_⟩
   have O8:HP (.int (one+1+r')) (.int n)=some (.int ((one+1+r') % n)):=if_pos (by lia)
   refine⟨_,rfl,trivial,_,rfl,_,O8,?_⟩;have Dz:(one+1+r') % n≠one/\0<=(one+1+r') % n/\(one+1+r') % n<n:=by
    by_cases dU:one+1+r'<n
    ·rw[Int.emod_eq_of_lt (by lia) dU];lia
    ·rw[show one+1+r'=(one+1+r' - n)+n by lia,Int.add_emod_right,Int.emod_eq_of_lt (by lia) (by lia)];lia
   generalize (one+1+r') % n=Eo at Dz;obtain⟨g1,g2,g3⟩:=add h1 h2 (t:=[if Eo<one then Eo else one,if Eo>one then Eo else one]) ⟨_,_,rfl,by split <;> lia,by split <;> (try split) <;> lia,by split <;> lia⟩
   exact⟨⟨_,rfl⟩,_,rfl,trivial,_,rfl,trivial,_,rfl,trivial,_,rfl,trivial,_,rfl,trivial,_,rfl,trivial,h9,ts,[if Eo<one then Eo else one,if Eo>one then Eo else one],rfl,rfl,by rw[Wm];lia,_,_,_,_,rfl,g1,g2,by lia⟩
  ·rintro β ⟨ts,x7,x8,x9,rfl,h1,h2,h3⟩;rw[bM]at h3;refine⟨_,rfl,trivial,_,rfl,trivial,_,Co h2.ne (by lia),.inl ⟨a5 _,300,rfl,_,rfl,?_⟩⟩
   obtain⟨us,e,dr⟩:=yc h2 h1;rw[e];exact .inl ⟨a5 _,trivial,h9,trivial,rfl,q n us n0 n1 dr⟩
end
section
variable {P:U_}{w:Vl}{K:PySem.W.Frag}{mg:Str->Option U5}{base:Heap}
theorem g9:aI ["many"] ["many"] (ao bJ):=⟨rfl,rfl,rfl,by decide +kernel,rfl,by decide +kernel,by decide +kernel⟩
theorem C3 {gg cV} (kJ:D2 K mg gg cV) (B:qz mg):aD P w K mg base bz 1 gg cV ["many"] (cB P w true A9):=by
 refine nh kJ.F g9 (λds R Li=> by obtain⟨n,e,_⟩ := Li;subst e;rfl) λbQ A outer s H E hr=>⟨_,(aj (aM (SG ["i","j","many"] [none,none,some 0] (by rfl) (by decide:(["i","j","many"]:List Str).Nodup) rfl (uk B.range (aa (aG ag (bw.m cm) (ae (i:=0)) ah) (aa (rF iT ah) (aa (rF iT ah) af)))) (λ_ _ _ _ _ _=>(aw (i:=0) (by decide:(["i","j","many"]:List Str).Nodup))) (λ_ _ _ _ _ _=>gq) (λ_ _ _ _ _ _=>(uj B.range (aa (aG aE ay (ae (i:=0)) ah) (aa (aG aE ay (ae (i:=2)) ah) af)))) (λ_ _ _ _ _ _=>(aw (i:=1) (by decide:(["i","j","many"]:List Str).Nodup))) (λ_ _ _ _ _ _=>gq) (λ_ _ _ _ _ _=>(bh (aa (ae (i:=0)) (aa (ae (i:=1)) af))))))),λds R h=>?_⟩
 obtain⟨n,rfl,hn,q⟩:=h;refine⟨_,rfl,trivial,_,rfl,trivial,_,rfl,rfl,trivial,_,rfl,rfl,trivial,(n:Int)-1,-1,rfl,⟨by lia,by lia,by lia,by lia⟩,trivial,?_⟩
 have en:((n:Int)-1 - -1).toNat=n:=by lia
 rw[en];refine⟨λa β o=>a<=n/\(∃x0 x1,β=[x0,x1,some (.val false (.int n))])/\o=(((VD n).take a).flatMap (eJ n)).map kU,⟨Vv _,⟨_,_,rfl⟩,rfl⟩,?_,?_⟩
 ·rintro a d β o hd ⟨ha,⟨x0,x1,rfl⟩,rfl⟩;obtain⟨M3,rfl⟩:=rm hd;have e1:(n:Int)-1-a=((n-1-a:Nat):Int):=by lia
  rw[e1];refine⟨_,rfl,trivial,_,rfl,trivial,_,rfl,trivial,_,rfl,trivial,((n-1-a:Nat):Int)+1,(n:Int)+1,rfl,⟨by lia,by lia,by lia,by lia⟩,?_⟩
  have e2:((n:Int)+1-(((n-1-a:Nat):Int)+1)).toNat=a+1:=by lia
  rw[e2];refine⟨λb β o=>b<=a+1/\(∃x1,β=[some (.val true (.int ((n-1-a:Nat):Int))),x1,some (.val false (.int n))])/\o=(((VD n).take a).flatMap (eJ n)++(eJ n a).take b).map kU,⟨Vv _,⟨_,rfl⟩,by simp⟩,?_,?_⟩
  ·rintro b d β o hd ⟨hb,⟨x1,rfl⟩,rfl⟩;obtain⟨gI,rfl⟩:=b7 hd;refine⟨_,rfl,trivial,_,rfl,trivial,h9,trivial,?_,gI,⟨_,rfl⟩,?_⟩
   ·rw[U9,Vk];exact yW hn M3 gI
   ·rw[show ((n-1-a:Nat):Int)+1+(b:Int)=((n-a+b:Nat):Int) by lia,xk gI,<- V5,V1,V1,V1]
    rfl
  ·rintro β o ⟨_,⟨x1,rfl⟩,rfl⟩;refine⟨M3,⟨_,_,rfl⟩,?_⟩;rw[bM,ze,Wo,WU M3,List.flatMap_append];simp
 ·rintro β o ⟨_,⟨x0,x1,rfl⟩,rfl⟩;rw[rl,Wg (by simp)]
  exact⟨trivial,trivial,q⟩
theorem bD:aI ["row","many","ties","partners","a","b"] ["row"] (ao c5):=⟨rfl,rfl,rfl,by decide +kernel,rfl,by decide +kernel,by decide +kernel⟩
theorem C4 {gh cW} (kK:D3 K mg gh cW) (B:qz mg):aD P w K mg base bz 1 gh cW ["row"] (cB P w true sU):=by
 refine nh kK.F bD (λds R Lh=> by obtain⟨n,ps,e,_⟩ := Lh;subst e;rfl) λbQ A outer s H E hr=>⟨_,(ai (pM (ae (i:=0)) (c9 (n:=2) rfl (aR (aw (i:=1) bD.nd) (aR (aw (i:=2) bD.nd) b_))))
    (ai (Cv (i:=3) true ["point"] [none] (by rfl) (by decide:(["point"]:List Str).Nodup) rfl (λ_=>(bK B.range (aa (ae (i:=1)) af))) (λ_ _ _ _ _ _=>(aw (i:=0) (by decide:(["point"]:List Str).Nodup))) (λ_ _ _ _ _ _=>gq) (λ_ _ _ _ _ _=>(aO af)) bD.nd)
    (ai (bU VP rfl (bp (ae (i:=2))) (c9 (n:=2) rfl (aR (aw (i:=4) bD.nd) (aR (aw (i:=5) bD.nd) b_))) (aj (j9 (i:=3) true (λ_=>(ae (i:=5))) (λ_=>(ae (i:=4))))))
    (aj (pK (i:=3)))))),λds R h=>?_⟩
 obtain⟨n,ps,rfl,ok,q⟩:=h;have hn:=ok.le;refine⟨_,rfl,_,rfl,rfl,_,_,rfl,_,_,rfl,rfl,_,rfl,trivial,n,rfl,by lia,by lia,trivial,?_⟩
 rw[V9];refine gF (λ_=>true) (λ_=>.lst []) trivial (by rw[Wv];exact du (by lia)) (λx hx x0 o J ho h1 _=>⟨Vv _,trivial,ho,h1 rfl _⟩) ?_
 rw[eX];refine⟨_,rfl,_,rfl,trivial,?_⟩;refine⟨λm β=>∃x4 x5,β=[some (.val false (gj n ps)),some (.val true (.int n)),some (.val false (nI ps)),some (.own (MM n (ps.take m))),x4,x5],⟨_,_,rfl⟩,?_,?_⟩
 ·rintro m d β hd ⟨x4,x5,rfl⟩;rw[Vq]at hd;obtain⟨p,hp,rfl⟩:=Vr.mp hd;obtain⟨h1,h2⟩:=ok.lt p (VB hp);refine⟨_,rfl,rfl,_,_,rfl,_,_,rfl,rfl,⟨_,rfl⟩,_,rfl,_,_,_,_,rfl,rfl,by rw[U9,Wv];exact J4 rfl (show p.1<n by lia),eS (show p.1<n by lia),_,rfl,trivial,rfl,?_,?_⟩
  ·unfold Q.bA;rw[U9];have:=CF (ps:=ps.take m) (i:=p.1);rw[VW]at this;have:=ok.sm;exact qV (by lia)
  ·refine⟨some (.val true (.int p.1)),some (.val true (.int p.2)),?_⟩;have e:ps.take (m+1)=ps.take m++[(p.1,p.2)]:=by rw[Wo,hp];rfl
   rw[Fz (show p.1<n by lia),e]
   rfl
 ·rintro β ⟨x4,x5,rfl⟩;rw[U9,Xo];exact⟨_,rfl,q⟩
end
section
variable {P:U_}{w:Vl}{K:PySem.W.Frag}{mg:Str->Option U5}{base:Heap}
theorem m7:aI ["i","k","j"] ["i","k","j"] (ao dA):=⟨rfl,rfl,rfl,by decide +kernel,rfl,by decide +kernel,by decide +kernel⟩
theorem z6 {fB cG} (jV:D4 K mg fB cG):aD P w K mg base bz 1 fB cG ["i","k","j"] (cB P w true mx):=by
 refine nh jV.F m7 (λds R Lg=> by obtain⟨i,k,j,e,_⟩ := Lg;subst e;rfl) λbQ A outer s H E hr=>⟨_,(dM (bG (aH ag (bw.m pN) (ae (i:=1)) dk) (aj (aM (aO (aa (bh (aa (aG aE ay (ae (i:=0)) ah) (aa (ae (i:=2)) af))) af)))) aY)
    (aj (aM (aO (aa (bh (aa (aG aE ay (ae (i:=0)) ah) (aa (ae (i:=1)) af))) (aa (bh (aa (aG aE ay (ae (i:=1)) ah) (aa (ae (i:=2)) af))) af)))))),λds R h=>?_⟩
 obtain⟨i,k,j,rfl,q⟩:=h;cases k with
 |none=>exact⟨λ_=>False,⟨_,rfl,trivial,_,rfl,_,rfl,jx rfl ⟨_,rfl,trivial,_,rfl,trivial,_,rfl,trivial,h9,trivial,mZ,trivial,q⟩⟩,λ_ z=>z.elim⟩
 |some k =>
  refine⟨λβ=>β=[some (.val false (.int i)),some (.val false (.int k)),some (.val false (.int j))],⟨_,rfl,trivial,_,rfl,_,rfl,de rfl rfl⟩,?_⟩;rintro β rfl;exact⟨_,rfl,trivial,_,rfl,trivial,_,rfl,trivial,h9,trivial,_,rfl,trivial,_,rfl,trivial,_,rfl,trivial,h9,trivial,h9,trivial,q⟩
end
end ip
namespace L2.Q
open PySem PySem.Spec PySem.SeqAt PyProof.Rows
theorem fS {α:Type}{f g:α->Nat}:∀{l:List α} {b:Nat},(∀p∈l,f p=g p)->l.foldl (λa p=>a*f p) b=l.foldl (λa p=>a*g p) b
 |[],_,_=>rfl
 |x::l,b,h=>by
  rw[Yv,Yv,h x (by simp)]
  exact fS λp hp=>h p (by simp[hp])
theorem FU {ps:List (Nat×Nat)}{i:Nat}(h:ps.Nodup):(qD ps i).Nodup:=by
 unfold qD;refine WT.mpr (List.Pairwise.imp_of_mem ?_ (List.Pairwise.filter _ h));intro a b ha hb Tu e;have h1:=(WA.mp ha).2;have h2:=(WA.mp hb).2;simp only[decide_eq_true_eq]at h1 h2;exact Tu (Prod.ext (by rw[h1,h2]) e)
theorem Ad:∀{n i:Nat} {l:List Nat},l.Nodup->(∀x∈l,i<=x/\x<i+n)->l.length<=n
 |0,i,l,_,h=>by
  cases l with
  |nil=>exact U8 _
  |cons x l=>have:=h x (by simp);lia
 |n+1,i,l,nd,h=>by
  have q:=Ad (n:=n) (i:=i) (nd.erase (i+n)) λx hx=>by
   have:=nd.mem_erase_iff.mp hx;have:=h x this.2;lia
  have:=List.length_erase (a:=i+n) (l:=l)
  split at this <;> lia
theorem vy {α:Type}{f:α->Nat}{c:Nat}:∀{l:List α},(∀x∈l,f x<=c)->(l.map f).sum<=l.length*c
 |[],_=>Vv _
 |x::l,h=>by
  have h1:=h x (by simp)
  have h2:=vy (l:=l) λy hy=>h y (by simp[hy])
  rw[VI,YQ,Vo,Nat.add_mul,YE];lia
def gO (ps:List (Nat×Nat))(i j:Nat):List (Option Nat):=((qD ps i).filter λk=>decide (k<j)).map some++[none]
theorem lX {ps:List (Nat×Nat)}{i j:Nat}{c:Option Nat}(h:c∈gO ps i j):match c with|none=>True|some k=>(i,k)∈ps/\k<j/\True:=by
 cases c with
 |none=>trivial
 |some k =>
  rcases VC.mp h with h|h
  ·obtain⟨k',h',e⟩:=VV.mp h;cases e;obtain⟨h1,h2⟩:=WA.mp h';exact⟨vX.mp h1,of_decide_eq_true h2,trivial⟩
  ·cases Vn.mp h
def Im (ps:List (Nat×Nat)):Nat->Nat->Nat->Nat
 |0,_,_=>1
 |_+1,0,_=>1
 |n+1,l+1,i=>((gO ps i (i+l+1)).map λc=>(parts i c (i+l+1)).foldl (λa p=>a*Im ps n (p.2-p.1) p.1) 1).sum
def sa (ps:List (Nat×Nat))(l i:Nat):Nat:=Im ps l l i
theorem lO {ps:List (Nat×Nat)}(hp:∀p∈ps,p.1<p.2){i l:Nat}{c:Option Nat}(hc:c∈gO ps i (i+l+1)){p:Nat×Nat}(h:p∈parts i c (i+l+1)):i<p.1/\p.1<=p.2/\p.2<=i+l+1:=by
 have o:=lX hc;cases c with
 |none =>
  rw[Vn.mp h];exact⟨Zb _,by show i+1<=i+l+1;lia,U8 _⟩
 |some k =>
  obtain⟨o1,o2,_⟩:=o;have:=hp _ o1;dsimp only at this;rcases Va.mp h with rfl|h
  ·exact⟨Zb _,by show i+1<=k;lia,by show k<=_;lia⟩
  ·rw[Vn.mp h];exact⟨by show i<k+1;lia,by show k+1<=_;lia,U8 _⟩
theorem rh {ps:List (Nat×Nat)}(hp:∀p∈ps,p.1<p.2):∀{n m l i:Nat},l<=n->l<=m->Im ps n l i=Im ps m l i
 |0,m,l,i,h1,h2=>by
  rw[show l=0 by lia]
  cases m <;> rfl
 |n+1,m,0,i,h1,h2=>by cases m <;> rfl
 |n+1,0,l+1,i,h1,h2=>by lia
 |n+1,m+1,l+1,i,h1,h2=>by
  show ((gO ps i (i+l+1)).map _).sum=((gO ps i (i+l+1)).map _).sum
  congr 1
  refine Wk λc hc=>fS λp h=>?_;obtain⟨a,b,d⟩:=lO hp hc h;exact rh hp (by lia) (by lia)
theorem vC {ps:List (Nat×Nat)}(hp:∀p∈ps,p.1<p.2){l i:Nat}:sa ps (l+1) i=((gO ps i (i+l+1)).map λc=>(parts i c (i+l+1)).foldl (λa p=>a*sa ps (p.2-p.1) p.1) 1).sum:=by
 show ((gO ps i (i+l+1)).map _).sum=_
 congr 1
 refine Wk λc hc=>fS λp h=>?_;obtain⟨a,b,d⟩:=lO hp hc h;exact rh hp (by lia) (U8 _)
theorem tG {ps:List (Nat×Nat)}(hp:∀p∈ps,p.1<p.2)(nd:ps.Nodup){l i:Nat}:(gO ps i (i+l+1)).length<=l+1:=by
 unfold gO;rw[Vk,U9];have h:=Ad (n:=l) (i:=i+1) ((FU nd).sublist (List.filter_sublist (p:=λk=>decide (k<i+l+1)))) λx hx=>by
  obtain⟨h1,h2⟩:=WA.mp hx;have:=hp (i,x) (vX.mp h1);have:=of_decide_eq_true h2;dsimp only at *
  lia
 show _+1<=_;lia
def nP (ps:List (Nat×Nat))(i j:Nat)(c:Option Nat):Nat:=(parts i c j).foldl (λa p=>a*sa ps (p.2-p.1) p.1) 1
theorem ui {ps:List (Nat×Nat)}{i j:Nat}:nP ps i j none=sa ps (j-(i+1)) (i+1):=by
 show 1*_=_;rw[YE]
theorem uh {ps:List (Nat×Nat)}{i j k:Nat}:nP ps i j (some k)=sa ps (k-(i+1)) (i+1)*sa ps (j-(k+1)) (k+1):=by
 show 1*_*_=_;rw[YE]
theorem Ek {ps:List (Nat×Nat)}(hp:∀p∈ps,p.1<p.2)(nd:ps.Nodup):∀l i,sa ps l i<=qe (l+1):=by
 intro l
 induction l using Nat.strongRecOn with
 |_ l ih =>
 intro i;cases l with
 |zero=>exact U8 _
 |succ l =>
  rw[vC hp];refine Vy (vy (c:=qe (l+1)) λc hc=>?_) ?_
  ·show nP ps i (i+l+1) c<=_;have o:=lX hc;cases c with
   |none =>
    rw[ui,show i+l+1-(i+1)=l by lia]
    exact ih l (by lia) _
   |some k =>
    obtain⟨o1,o2,_⟩:=o;have:=hp _ o1;dsimp only at this;rw[uh];have h1:=ih (k-(i+1)) (by lia) (i+1)
    have h2:=ih (i+l+1-(k+1)) (by lia) (k+1)
    have h3:=qd (k-(i+1)+1) (i+l+1-(k+1)+1);rw[show k-(i+1)+1+(i+l+1-(k+1)+1)=l+1 by lia]at h3
    exact Vy (XH h1 h2) h3
  ·show _<=(l+2)*qe (l+1);exact XH (Vy (tG hp nd) (by lia)) (U8 _)
theorem zc {ps:List (Nat×Nat)}(hp:∀p∈ps,p.1<p.2)(nd:ps.Nodup){l i:Nat}(h:l<=19):((sa ps l i:Nat):Int)<2 ^ 64:=by
 have h1:=Ek hp nd l i;have h2:=mn (show l+1<=20 by lia)
 have h3:qe 20<2 ^ 64:=by decide
 lia
abbrev sT (ps:List (Nat×Nat)):Nat->Nat->Int:=λl i=>((sa ps l i:Nat):Int)
def mq:FD:=λds R=>∃(n:Nat) (ps:List (Nat×Nat)) (L:Nat->Nat) (i j:Nat) (c:Option Nat),ds=[jy n L (sT ps),.lst ((parts i c j).map kU)]/\c∈gO ps i j/\qv n ps/\n<=40/\i<j/\j<=n/\(∀a,i<a->a<=n->n+1-a<=L a)/\R (.int (nP ps i j c:Nat))
theorem mq.mono:cH mq:=λds R R' k h=>by obtain⟨n,ps,L,i,j,c,e,h1,h2,h3,h4,h5,h6,q⟩:=h;exact⟨n,ps,L,i,j,c,e,h1,h2,h3,h4,h5,h6,k _ q⟩
def sR:FD:=λds R=>∃(n:Nat) (ps:List (Nat×Nat)) (L:Nat->Nat) (i j:Nat),ds=[jy n L (sT ps),.lst ((gO ps i j).map oD),.int i,.int j]/\qv n ps/\n<=40/\i<j/\j<=n/\(∀a,i<a->a<=n->n+1-a<=L a)/\R (.int (sT ps (j-i) i))
theorem sR.mono:cH sR:=λds R R' k h=>by obtain⟨n,ps,L,i,j,e,h2,h3,h4,h5,h6,q⟩:=h;exact⟨n,ps,L,i,j,e,h2,h3,h4,h5,h6,k _ q⟩
theorem tZ {ps:List (Nat×Nat)}{l:List (Nat×Nat)}{m:Nat}{p:Nat×Nat}(h:l[m]?=some p):(l.take (m+1)).foldl (λa p=>a*sa ps (p.2-p.1) p.1) 1=(l.take m).foldl (λa p=>a*sa ps (p.2-p.1) p.1) 1*sa ps (p.2-p.1) p.1:=by
 rw[Wo,h,List.foldl_append];rfl
def cR:FD:=λds R=>∃(n:Nat) (ps:List (Nat×Nat)),ds=[gj n ps]/\qv n ps/\n<=40/\R (wu n (sT ps))
theorem cR.mono:cH cR:=λds R R' k h=>by obtain⟨n,ps,e,h2,h3,q⟩:=h;exact⟨n,ps,e,h2,h3,k _ q⟩
def jo:FD:=λds R=>∃(n:Nat) (ps:List (Nat×Nat)),ds=[gj n ps]/\qv n ps/\n<=40/\R (.int (sT ps n 0))
theorem jo.mono:cH jo:=λds R R' k h=>by obtain⟨n,ps,e,h2,h3,q⟩:=h;exact⟨n,ps,e,h2,h3,k _ q⟩
theorem all_map {ps:List (Nat×Nat)}{i j:Nat}:((qD ps i).filter λk=>decide (k<j)).map (λk:Nat=>D.int (k:Int))++[D.cO]=(gO ps i j).map oD:=by
 unfold gO;rw[V1,Wr];rfl
def kO (n:Nat):Nat->List (Nat×Nat)->Prop
 |_,[]=>True
 |lo,p::ws=>lo<=p.1/\p.1<=p.2/\p.2<=n/\kO n (p.2+1) ws
theorem kO.lo {n:Nat}:∀{ws:List (Nat×Nat)} {a b:Nat},kO n a ws->b<=a->kO n b ws
 |[],_,_,_,_=>trivial
 |_::_,_,_,h,hb=>⟨Vy hb h.1,h.2⟩
theorem kO.mem {n:Nat}:∀{ws:List (Nat×Nat)} {a:Nat},kO n a ws->∀p∈ws,a<=p.1/\p.1<=p.2/\p.2<=n
 |[],_,_,_,h=>nomatch h
 |q::ws,a,h,p,hp=>by
  rcases Va.mp hp with rfl|hp
  ·exact⟨h.1,h.2.1,h.2.2.1⟩
  ·have:=kO.mem h.2.2.2 p hp;have:=h.1;have:=h.2.1;lia
abbrev fW (ps:List (Nat×Nat)):Nat->Nat×Nat->Nat:=λa p=>a*sa ps (p.2-p.1) p.1
abbrev fZ (ps ws:List (Nat×Nat)):Nat:=ws.foldl (fW ps) 1
theorem DP (n:Nat):1<=qe n:=by
 induction n with
 |zero=>exact U8 _
 |succ n ih=>exact Vy ih (Nat.le_mul_of_pos_left _ (by lia))
theorem rE {ps:List (Nat×Nat)}(hp:∀p∈ps,p.1<p.2)(nd:ps.Nodup){n:Nat}{p:Nat×Nat}:∀{ws:List (Nat×Nat)} {lo m acc:Nat},kO n lo ws->ws[m]?=some p->(ws.take m).foldl (fW ps) acc<=acc*qe (p.1-lo)
 |[],_,_,_,_,e=>nomatch e
 |q::ws,lo,0,acc,h,e=>by
  show acc<=_;exact Nat.le_mul_of_pos_right _ (DP _)
 |q::ws,lo,m+1,acc,h,e=>by
  have k:=rE hp nd (m:=m) (acc:=fW ps acc q) h.2.2.2 e;have k1:=(kO.mem h.2.2.2 p (VB (i:=m) e)).1;have k2:=h.2.1;have k3:=h.1;refine Vy k ?_;have s1:=Ek hp nd (q.2-q.1) q.1;have s2:=qd (q.2-q.1+1) (p.1-(q.2+1));have s3:=mn (show q.2-q.1+1+(p.1-(q.2+1))<=p.1-lo by lia)
  show acc*sa ps (q.2-q.1) q.1*_<=_;rw[Nat.mul_assoc];exact XH (U8 _) (Vy (Vy (XH s1 (U8 _)) s2) s3)
theorem Cd {ps:List (Nat×Nat)}(hp:∀p∈ps,p.1<p.2)(nd:ps.Nodup){n m:Nat}{p:Nat×Nat}{ws:List (Nat×Nat)}(hn:n<=40)(h:kO n 0 ws)(e:ws[m]?=some p):
  mM ((fZ ps (ws.take m):Nat):Int) ((sa ps (p.2-p.1) p.1:Nat):Int):=by
 have a:fZ ps (ws.take m)<=1*qe (p.1-0):=rE hp nd (acc:=1) h e;have b:=h.mem p (VB e);rcases WS 20 p.1 with q|q
 ·exact .inr ⟨by lia,zc hp nd (by lia)⟩
 ·refine .inl ⟨by lia,?_⟩
  have h2:=mn (show p.1-0<=20 by lia)
  have h3:qe 20<2 ^ 64:=by decide
  rw[YE]at a;lia
theorem IW {ps ws:List (Nat×Nat)}{m:Nat}{p:Nat×Nat}(h:ws[m]?=some p):fZ ps (ws.take (m+1))=fZ ps (ws.take m)*sa ps (p.2-p.1) p.1:=tZ h
def ij:FD:=λds R=>∃(n:Nat) (ps:List (Nat×Nat)) (L:Nat->Nat) (ws:List (Nat×Nat)),ds=[jy n L (sT ps),.lst (ws.map kU)]/\qv n ps/\n<=40/\kO n 0 ws/\(∀p∈ws,n+1-p.1<=L p.1)/\R (.int (fZ ps ws:Nat))
theorem ij.mono:cH ij:=λds R R' k h=>by obtain⟨n,ps,L,ws,e,h1,h2,h3,h4,q⟩:=h;exact⟨n,ps,L,ws,e,h1,h2,h3,h4,k _ q⟩
theorem mq.toW {ds:List D}{R:D->Prop}(h:mq ds R):ij ds R:=by
 obtain⟨n,ps,L,i,j,c,rfl,hc,ok,hn,h1,h2,h3,q⟩:=h;have hp:∀p∈ps,p.1<p.2:=λp hp=>(ok.lt p hp).1;have o:=lX hc;refine⟨n,ps,L,parts i c j,rfl,ok,hn,?_,λp h=>?_,q⟩
 ·cases c with
  |none=>exact⟨Vv _,h1,h2,trivial⟩
  |some k =>
   have:=hp _ o.1;dsimp only at this;exact⟨Vv _,this,by show k<=n;lia,U8 _,o.2.1,h2,trivial⟩
 ·obtain⟨l,rfl⟩:∃l,j=i+l+1:=⟨j-i-1,by lia⟩
  have:=lO hp hc h;exact h3 p.1 this.1 (by lia)
def wb:List (Nat×Nat)->Nat×Nat->Option (List (Nat×Nat))
 |[],_=>none
 |v::ws,p=>if v.1<=p.1/\p.2<v.2 then some ((p.1+1,p.2)::(p.2+1,v.2)::ws) else wb ws p
def IH (ws:List (Nat×Nat))(p:Nat×Nat):Prop:=∃v∈ws,v.1<=p.1/\p.2<v.2
theorem vh {p:Nat×Nat}:∀{ws:List (Nat×Nat)},IH ws p->∃l,wb ws p=some l
 |[],⟨_,h,_⟩=>nomatch h
 |v::ws,⟨u,h,k⟩=>by
  show ∃l,(if v.1<=p.1/\p.2<v.2 then some _ else wb ws p)=some l
  by_cases c:v.1<=p.1/\p.2<v.2
  ·exact⟨_,if_pos c⟩
  ·rw[if_neg c];rcases Va.mp h with rfl|h
   ·exact absurd k c
   ·exact vh ⟨u,h,k⟩
theorem vi {n:Nat}{p:Nat×Nat}(hp:p.1<p.2):∀{ws l:List (Nat×Nat)} {lo:Nat},kO n lo ws->wb ws p=some l->kO n lo l
 |[],_,_,_,e=>nomatch e
 |v::ws,l,lo,h,e=>by
  change (if v.1<=p.1/\p.2<v.2 then some _ else wb ws p)=some l at e
  by_cases c:v.1<=p.1/\p.2<v.2
  ·rw[if_pos c]at e;cases e;have:=h.1;have:=h.2.2.1;exact⟨by show lo<=p.1+1;lia,hp,by show p.2<=n;lia,U8 _,c.2,h.2.2.1,h.2.2.2⟩
  ·rw[if_neg c]at e;have:=h.1;have:=h.2.1;exact(vi hp h.2.2.2 e).lo (by lia)
def Qs (s t:Nat×Nat):Prop:=t.2<s.2\/s.2<t.1
theorem vj {n:Nat}{s t:Nat×Nat}(hs:s.1<s.2)(ht:t.1<t.2)(hl:s.1<t.1)(ha:Qs s t):∀{ws l:List (Nat×Nat)} {lo:Nat},kO n lo ws->IH ws t->wb ws s=some l->IH l t
 |[],_,_,_,_,e=>nomatch e
 |v::ws,l,lo,h,⟨u,hu,k⟩,e=>by
  change (if v.1<=s.1/\s.2<v.2 then some _ else wb ws s)=some l at e
  by_cases c:v.1<=s.1/\s.2<v.2
  ·rw[if_pos c]at e;cases e;rcases Va.mp hu with rfl|hu
   ·rcases ha with a|a
    ·exact⟨_,Vw,hl,a⟩
    ·exact⟨_,Vm _ Vw,a,k.2⟩
   ·exact⟨u,Vm _ (Vm _ hu),k⟩
  ·rw[if_neg c]at e;rcases Va.mp hu with rfl|hu
   ·-- t lies in the first,s beyond it
    exfalso
    have:IH ws s:=by
     revert e
     clear h k hu
     induction ws with
     |nil=>exact λe=>nomatch e
     |cons v ws ih =>
      intro e
      change (if v.1<=s.1/\s.2<v.2 then some _ else wb ws s)=some l at e
      by_cases c:v.1<=s.1/\s.2<v.2
      ·exact⟨v,Vw,c⟩
      ·rw[if_neg c]at e;obtain⟨x,hx,kx⟩:=ih e;exact⟨x,Vm _ hx,kx⟩
    obtain⟨x,hx,kx⟩:=this;have:=h.2.2.2.mem x hx;lia
   ·exact vj hs ht hl ha h.2.2.2 ⟨u,hu,k⟩ e
def wa:List (Nat×Nat)->List (Nat×Nat)->Option (List (Nat×Nat))
 |ws,[]=>some ws
 |ws,p::ts=>(wb ws p).bind λl=>wa l ts
def E7 (ts:List (Nat×Nat)):Prop:=ts.Pairwise λs t=>s.1<t.1/\Qs s t
theorem vm {n:Nat}:∀{ts ws:List (Nat×Nat)},kO n 0 ws->(∀t∈ts,t.1<t.2/\IH ws t)->E7 ts->∃l,wa ws ts=some l/\kO n 0 l
 |[],ws,h,_,_=>⟨ws,rfl,h⟩
 |t::ts,ws,h,hi,g=>by
  obtain⟨l,e⟩:=vh (hi t Vw).2;have g':=Wa.mp g;obtain⟨l',e',k⟩:=vm (vi (hi t Vw).1 h e) (λu hu=>⟨(hi u (Vm _ hu)).1,vj (hi t Vw).1 (hi u (Vm _ hu)).1 (g'.1 u hu).1 (g'.1 u hu).2 h (hi u (Vm _ hu)).2 e⟩) g'.2;exact⟨l',by show (wb ws t).bind _=_;rw[e];exact e',k⟩
theorem kO.len {n:Nat}:∀{ws:List (Nat×Nat)} {a:Nat},kO n a ws->ws.length+min a (n+1)<=n+1
 |[],a,_=>by rw[V6];lia
 |q::ws,a,h=>by
  have:=kO.len h.2.2.2;have:=h.1;have:=h.2.1;have:=h.2.2.1;rw[Vo];lia
theorem kO.sf {n:Nat}{ws:List (Nat×Nat)}(h:kO n 0 ws)(hn:n<=40):ws.length<=41:=by
 have:=h.len;lia
def QI:Option (List (Nat×Nat))->D
 |none=>.cO
 |some l=>.lst (l.map kU)
theorem yh {ws:List (Nat×Nat)}{k:Nat}:cutD (ws.map kU) (some (k:Int)) none=(ws.drop k).map kU:=by
 unfold cutD;rw[HT.iZ,HT.kR,List.map_drop]
 by_cases h:k<=(ws.map kU).length
 ·rw[Nat.min_eq_left h,Wg (by rw[WX];lia)]
 ·rw[Nat.min_eq_right (by lia),Ww (U8 _),List.take_nil,Ww (by lia)]
theorem gJ:∀l:List (Nat×Nat),D.cQ (l.map kU)=true
 |[]=>rfl
 |p::l=>by show (_&&D.cQ (l.map kU))=true;rw[gJ l];rfl
def yC:FD:=λds R=>∃(ws:List (Nat×Nat)) (p:Nat×Nat),ds=[.lst (ws.map kU),kU p]/\ws.length<=1000/\R (QI (wb ws p))
theorem yC.mono:cH yC:=λds R R' k ⟨ws,p,e,h,q⟩=>⟨ws,p,e,h,k _ q⟩
theorem Ce {p:Nat×Nat}:∀{ws:List (Nat×Nat)} {m:Nat} {v:Nat×Nat},ws[m]?=some v->wb (ws.drop m) p=if v.1<=p.1/\p.2<v.2 then some ((p.1+1,p.2)::(p.2+1,v.2)::ws.drop (m+1)) else wb (ws.drop (m+1)) p:=by
 intro ws m v e;obtain⟨h,rfl⟩:=Vc.mp e;rw[VY h];rfl
def jZ (ps ns:List (Nat×Nat)):Prop:=(∀p∈ns,p∈ps)/\E7 ns
theorem T4 {s t:Nat×Nat}(hs:s.1<s.2)(ht:t.1<t.2)(l:HT.lexLt (tI s) (tI t)=true)(a:Apart (tI s) (tI t)):s.1<t.1/\Qs s t:=by
 obtain⟨s1,s2⟩:=s;obtain⟨t1,t2⟩:=t;dsimp only at hs ht;have sh:∀x:Int,x∈tI (s1,s2)->x∈tI (t1,t2)->False:=λx h1 h2=>by
  have:=fH.mpr ⟨x,h1,h2⟩;rw[a.1]at this;cases this
 have e1:s1≠t1:=λe=>sh s1 (by simp[tI]) (by simp[tI,e])
 have e2:s2≠t1:=λe=>sh s2 (by simp[tI]) (by simp[tI,e])
 have e3:s2≠t2:=λe=>sh s2 (by simp[tI]) (by simp[tI,e])
 have l1:s1<t1:=by
  change HT.lexLt ((s1:Int)::[(s2:Int)]) ((t1:Int)::[(t2:Int)])=true at l
  rw[HT.c3,if_neg (by lia)]at l
  have:=of_decide_eq_true l;lia
 refine⟨l1,?_⟩;have c:=a.2;have c':¬ (((s1:Nat):Int)<t1/\((t1:Nat):Int)<s2/\((s2:Nat):Int)<t2):=λz=>by
  have:mI (s1:Int) s2 t1 t2=true:=u3.mpr (.inl z);have c:mI (s1:Int) s2 t1 t2=false:=c;rw[this]at c;cases c
 show t2<s2\/s2<t1;lia
theorem ji {n:Nat}{ps:List (Nat×Nat)}(ok:qv n ps):∀{ts:List (List Int)},Good (ps.map tI) ts->∃ns,ts=ns.map tI/\jZ ps ns
 |[],_=>⟨[],rfl,λ_ z=>(nomatch z),List.Pairwise.nil⟩
 |t::ts,⟨h1,h2,h3⟩=>by
  obtain⟨p,hp,rfl⟩:=VV.mp (h1 t Vw);rw[Wa]at h2 h3;obtain⟨ns,rfl,k1,k2⟩:=ji ok (ts:=ts) ⟨λu hu=>h1 u (Vm _ hu),h2.2,h3.2⟩;refine⟨p::ns,rfl,λq hq=>?_,Wa.mpr ⟨λq hq=>?_,k2⟩⟩
  ·rcases Va.mp hq with rfl|hq
   ·exact hp
   ·exact k1 q hq
  ·exact T4 (ok.lt p hp).1 (ok.lt q (k1 q hq)).1 (h2.1 _ (List.mem_map_of_mem hq)) (h3.1 _ (List.mem_map_of_mem hq))
theorem jZ.SN {n:Nat}{ps ns:List (Nat×Nat)}(ok:qv n ps)(h:jZ ps ns):∀t∈ns,t.1<t.2/\IH [(0,n)] t:=λt ht=>⟨(ok.lt t (h.1 t ht)).1,(0,n),Vw,Vv _,(ok.lt t (h.1 t ht)).2⟩
theorem IP {n:Nat}:kO n 0 [(0,n)]:=⟨U8 _,Vv _,U8 _,trivial⟩
theorem jZ.wa {n:Nat}{ps ns:List (Nat×Nat)}(ok:qv n ps)(h:jZ ps ns):∃l,wa [(0,n)] ns=some l/\kO n 0 l:=vm IP (h.SN ok) h.2
theorem jZ.sub {ps ns ms:List (Nat×Nat)}(h:jZ ps ns)(s:ms.Sublist ns):jZ ps ms:=⟨λp hp=>h.1 p (s.subset hp),h.2.sublist s⟩
theorem tW:∀{a b ws:List (Nat×Nat)},wa ws (a++b)=(wa ws a).bind λl=>wa l b
 |[],b,ws=>rfl
 |p::a,b,ws=>by
  show (wb ws p).bind (λl=>wa l (a++b))=((wb ws p).bind λl=>wa l a).bind _;cases wb ws p with
  |none=>rfl
  |some l=>exact tW
def Ee (ps ws:List (Nat×Nat)):List (Nat×Nat):=ps.filter λp=>(wb ws p).isSome
def Ji (ps ws:List (Nat×Nat))(t:Nat×Nat):Nat:=1+(((Ee ps ws).filter λo=>HT.lexLt (tI o) (tI t)).map λo=>fZ ps ((wb ws o).getD [])).sum
def Il (ps:List (Nat×Nat)):List (Nat×Nat)->List (Nat×Nat)->Nat
 |_,[]=>0
 |ws,t::ts=>Ji ps ws t+Il ps ((wb ws t).getD []) ts
def rg (ps:List (Nat×Nat))(u:List (Nat×Nat)×List (Nat×Nat)×Int)(p:Nat×Nat):List (Nat×Nat)×List (Nat×Nat)×Int:=match wb u.1 p with
 |none=>u
 |some l=>if 0<u.2.2 then (if u.2.2<=((fZ ps l:Nat):Int) then (l,u.2.1++[p],u.2.2-1) else (u.1,u.2.1,u.2.2-((fZ ps l:Nat):Int))) else u
def sat (ps:List (Nat×Nat))(n:Nat)(k:Int):List (Nat×Nat):=(ps.foldl (rg ps) ([(0,n)],[],k)).2.1
def Dd (ps:List (Nat×Nat))(n:Nat):List (Nat×Nat)->List (Nat×Nat)->Option (List (Nat×Nat))
 |r,p::_=>some (r.reverse++[p])
 |[],[]=>none
 |z::r,[]=>Dd ps n r ((Ee ps ((wa [(0,n)] r.reverse).getD [])).filter λo=>HT.lexLt (tI z) (tI o))
def JH (ps:List (Nat×Nat))(n:Nat)(ns:List (Nat×Nat)):Option (List (Nat×Nat)):=Dd ps n ns.reverse (Ee ps ((wa [(0,n)] ns).getD []))
def EO:FD:=λds R=>∃(n:Nat) (ps ns:List (Nat×Nat)),ds=[gj n ps,nI ns]/\qv n ps/\n<=40/\jZ ps ns/\R (.lst (((wa [(0,n)] ns).getD []).map kU))
theorem EO.mono:cH EO:=λds R R' k ⟨n,ps,ns,e,h1,h2,h3,q⟩=>⟨n,ps,ns,e,h1,h2,h3,k _ q⟩
def ER:FD:=λds R=>∃(n:Nat) (ps ws:List (Nat×Nat)),ds=[gj n ps,.lst (ws.map kU)]/\qv n ps/\ws.length<=1000/\R (nI (Ee ps ws))
theorem ER.mono:cH ER:=λds R R' k ⟨n,ps,ws,e,h1,h2,q⟩=>⟨n,ps,ws,e,h1,h2,k _ q⟩
end L2.Q
namespace ip
open PySem L2 L2.Q
section
variable {P:U_}{w:Vl}{K:PySem.W.Frag}{mg:Str->Option U5}{base:Heap}
theorem d7:aI ["counts","parts","ways","low","high"] ["counts","parts"] (ao gT):=⟨rfl,rfl,rfl,by decide +kernel,rfl,by decide +kernel,by decide +kernel⟩
theorem k7 {eF bX} (fD:D5 K mg eF bX):aD P w K mg base bz 1 eF bX ["counts","parts"] (cB P w true ij):=by
 refine nh fD.F d7 (λds R Lf=> by obtain⟨n,ps,L,ws,e,_⟩ := Lf;subst e;rfl) λbQ A outer s H E hr=>⟨_,(ai (aJ (i:=2) ah d7.nd)
    (ai (bU VP rfl (bp (ae (i:=1))) (c9 (n:=2) rfl (aR (aw (i:=3) d7.nd) (aR (aw (i:=4) d7.nd) b_))) (aj (aJ (i:=2) (aG ag (bw.m i9) (ae (i:=2)) (aL ag a6 (aL ag a6 (ae (i:=0)) (ae (i:=3))) (aG ag (bw.m cm) (ae (i:=4)) (ae (i:=3))))) d7.nd)))
    (aj (aM (ae (i:=2)))))),λds R h=>?_⟩
 obtain⟨n,ps,L,ws,rfl,ok,hn,hw,h3,q⟩:=h;have hp:∀p∈ps,p.1<p.2:=λp hp=>(ok.lt p hp).1;refine⟨_,rfl,_,rfl,trivial,?_⟩;refine⟨λm β=>∃x3 x4,β=[some (.val false (jy n L (sT ps))),some (.val false (.lst (ws.map kU))),some (.val true (.int ((fZ ps (ws.take m):Nat):Int))),x3,x4],⟨_,_,rfl⟩,?_,?_⟩
 ·rintro m d β hd ⟨x3,x4,rfl⟩;rw[Vq]at hd;obtain⟨p,B0,rfl⟩:=Vr.mp hd;have b:=hw.mem p (VB B0);have hl:=h3 p (VB B0);refine⟨_,rfl,rfl,_,_,rfl,_,_,rfl,rfl,?_⟩;refine⟨_,rfl,trivial,_,rfl,trivial,_,rfl,_,AA rfl (by lia),.inr ⟨trivial,_,rfl,trivial,_,rfl,_,rfl,_,AB (l:=p.2-p.1) (by lia) (by lia),_,qh (Cd hp ok.nd (by lia) hw B0),_,_,by rw[IW B0,Int.natCast_mul];rfl⟩⟩
 ·rintro β ⟨x3,x4,rfl⟩;rw[U9,Xo];exact⟨_,rfl,trivial,q⟩
theorem Gf {eF bX} (fD:D5 K mg eF bX):aD P w K mg base bz 1 eF bX ["counts","parts"] (cB P w true mq):=(k7 fD).imp λvs H Q E ⟨ds,r,h⟩=>⟨ds,r,h.toW⟩
theorem ua:aI ["counts","choices","i","j"] ["counts","choices","i","j"] (ao gU):=⟨rfl,rfl,rfl,by decide +kernel,rfl,by decide +kernel,by decide +kernel⟩
theorem Gg {gf cU} (kG:D6 K mg gf cU) {eF bX} (fD:D5 K mg eF bX) {fB cG} (jV:D4 K mg fB cG) (B:qz mg):aD P w K mg base bz 2 gf cU ["counts","choices","i","j"] (cB P w true sR):=by
 have Ig:aD P w K mg base bz 1 _ _ _ (cB P w true mq):= Gf fD;have Ud:aD P w K mg base bz 1 _ _ _ (cB P w true mx):= z6 jV;refine nh kG.F ua (λds R Ld=> by obtain⟨n,ps,L,i,j,e,_⟩ := Ld;subst e;rfl) λbQ A outer s H E hr=>⟨_,(aj (aM (bS ag (cY.m (oR rfl)) B.sum BB (aa (J3 ["k","counts","i","j"] [none,some 0,some 2,some 3] (by rfl) (by decide:(["k","counts","i","j"]:List Str).Nodup) rfl (bp (ae (i:=1))) (λ_ _ _ _ _ _=>(aw (i:=0) (by decide:(["k","counts","i","j"]:List Str).Nodup))) (λ_ _ _ _ _ _=>gq) (λ_ _ _ _ _ _=>(aF mq.mono Ig (hr.mono (by decide)) fD.m fD.F.kp fD.b (aa (ae (i:=1)) (aa (aF mx.mono Ud (hr.mono (by decide)) jV.m jV.F.kp jV.b (aa (ae (i:=2)) (aa (ae (i:=0)) (aa (ae (i:=3)) af)))) af))))) af)))),λds R h=>?_⟩
 obtain⟨n,ps,L,i,j,rfl,ok,hn,h1,h2,h3,q⟩:=h;have hp:∀p∈ps,p.1<p.2:=λp hp=>(ok.lt p hp).1;have bl:(gO ps i j).length<=41:=by
  obtain⟨l,rfl⟩:∃l,j=i+l+1:=⟨j-i-1,by lia⟩
  exact Vy (tG hp ok.nd) (by lia)
 refine⟨_,rfl,_,rfl,trivial,?_⟩;refine gF (λ_=>true) (λc=>.int ((nP ps i j c:Nat):Int)) trivial (du (by lia)) (λc hc x0 o J ho j1 _=>?_) ?_
 ·cases c with
  |none=>exact⟨_,rfl,trivial,_,rfl,trivial,_,rfl,trivial,_,rfl,trivial,i,none,j,rfl,trivial,n,ps,L,i,j,none,rfl,hc,ok,hn,h1,h2,h3,trivial,ho,j1 rfl _⟩
  |some k=>exact⟨_,rfl,trivial,_,rfl,trivial,_,rfl,trivial,_,rfl,trivial,i,some k,j,rfl,trivial,n,ps,L,i,j,some k,rfl,hc,ok,hn,h1,h2,h3,trivial,ho,j1 rfl _⟩
 ·rw[eX];refine⟨trivial,_,sum_ints,trivial,?_⟩;obtain⟨l,rfl⟩:∃l,j=i+l+1:=⟨j-i-1,by lia⟩
  have e:((gO ps i (i+l+1)).map λc=>((nP ps i (i+l+1) c:Nat):Int)).sum=sT ps (i+l+1-i) i:=by
   rw[lB,show i+l+1-i=l+1 by lia]
   show _=((sa ps (l+1) i:Nat):Int);rw[vC hp];rfl
  rw[e];exact q
theorem bI:aI ["row","many","partners","counts","i","j","choices"] ["row"] (ao eR):=⟨rfl,rfl,rfl,by decide +kernel,rfl,by decide +kernel,by decide +kernel⟩
theorem gZ {hV dz} (ik:D7 K mg hV dz) {gh cW} (kK:D3 K mg gh cW) {gg cV} (kJ:D2 K mg gg cV) {gf cU} (kG:D6 K mg gf cU) {eF bX} (fD:D5 K mg eF bX) {fB cG} (jV:D4 K mg fB cG) (B:qz mg):aD P w K mg base bz 3 hV dz ["row"] (cB P w true cR):=by
 have Uc:aD P w K mg base bz 1 _ _ _ (cB P w true sU):= C4 kK B;have Mz:aD P w K mg base bz 1 _ _ _ (cB P w true A9):= C3 kJ B;have T9:aD P w K mg base bz 2 _ _ _ (cB P w true sR):= Gg kG fD jV B;refine nh ik.F bI (λds R Lc=> by obtain⟨n,ps,e,_⟩ := Lc;subst e;rfl) λbQ A outer s H E hr=>⟨_,(ai (aJ (i:=1) (aL ag a6 (ae (i:=0)) ah) bI.nd)
    (ai (aJ (i:=2) (aF sU.mono Uc (hr.mono (by decide)) kK.m kK.F.kp kK.b (aa (ae (i:=0)) af)) bI.nd)
    (ai (Cv (i:=3) true ["i"] [none] (by rfl) (by decide:(["i"]:List Str).Nodup) rfl (λ_=>(bK B.range (aa (aG aE ay (ae (i:=1)) ah) af))) (λ_ _ _ _ _ _=>(aw (i:=0) (by decide:(["i"]:List Str).Nodup))) (λ_ _ _ _ _ _=>gq) (λ_ _ _ _ _ _=>(aO (aa ah af))) bI.nd)
    (ai (bU VP rfl (bp (aF A9.mono Mz (hr.mono (by decide)) kJ.m kJ.F.kp kJ.b (aa (ae (i:=1)) af))) (c9 (n:=2) rfl (aR (aw (i:=4) bI.nd) (aR (aw (i:=5) bI.nd) b_))) (ai (aJ (i:=6) (aG aE ay (J3 ["k","j"] [none,some 5] (by rfl) (by decide:(["k","j"]:List Str).Nodup) rfl (bp (aL ag a6 (ae (i:=2)) (ae (i:=4)))) (λ_ _ _ _ _ _=>(aw (i:=0) (by decide:(["k","j"]:List Str).Nodup))) (λ_ _ _ _ _ _=>(pf (aH ag (bw.m bW) (ae (i:=0)) (ae (i:=1))))) (λ_ _ _ _ _ _=>(ae (i:=0)))) (aO (aa dk af))) bI.nd)
    (aj (j9 (i:=3) true (λ_=>(aF sR.mono T9 (hr.mono (by decide)) kG.m kG.F.kp kG.b (aa (ae (i:=3)) (aa (ae (i:=6)) (aa (ae (i:=4)) (aa (ae (i:=5)) af)))))) (λ_=>(ae (i:=4)))))))
    (aj (pK (i:=3))))))),λds R h=>?_⟩
 obtain⟨n,ps,rfl,ok,Hv,q⟩:=h;have hn:=ok.le;have hp:∀p∈ps,p.1<p.2:=λp hp=>(ok.lt p hp).1;refine⟨_,rfl,trivial,_,rfl,_,rfl,trivial,n,ps,rfl,ok,_,rfl,trivial,_,rfl,trivial,(n:Int)+1,rfl,by lia,by lia,trivial,?_⟩
 rw[show ((n:Int)+1).toNat=n+1 by lia]
 refine gF (λ_=>true) (λ_=>.lst [.int 1]) trivial (by rw[Wv];exact du (by lia)) (λx hx x0 o J ho h1 _=>⟨trivial,mZ,trivial,ho,h1 rfl _⟩) ?_
 rw[eX];refine⟨_,rfl,trivial,n,rfl,hn,_,rfl,trivial,?_⟩;refine⟨λidx β=>∃L x4 x5 x6,β=[some (.val false (gj n ps)),some (.val true (.int n)),some (.val true (MM n ps)),some (.own (jy n L (sT ps))),x4,x5,x6]/\wV n idx L,⟨λ_=>1,_,_,_,rfl,sZ⟩,?_,?_⟩
 ·rintro idx d β hd ⟨L,x4,x5,x6,rfl,dn⟩;rw[Vq]at hd;obtain⟨p,Iy,rfl⟩:=Vr.mp hd;obtain⟨a,b,ha,hb,rfl,hL,mf⟩:=uT dn Iy;have eL:jy n L (sT ps)=jy n (fR n a b) (sT ps):=nK hL;have e0:fR n a b (n-1-a)=b+1:=by unfold fR;rw[if_neg (by lia),if_pos rfl]
  rw[eL];refine⟨_,rfl,rfl,_,_,rfl,_,_,rfl,rfl,?_⟩;have hpl:(qD ps (n-1-a)).length<=400:=by unfold qD;rw[U9];exact Vy (WL _ _) ok.sm
  refine⟨_,rfl,trivial,_,rfl,_,Oy rfl (by lia),.inr ⟨_,rfl,trivial,?_⟩⟩
  refine gF (λk:Nat=>decide (k<n-a+b)) (λk=>.int (k:Int)) trivial (du (Vy hpl (by decide))) (λk hk y0 o J ho j1 j2=>?_) ?_
  ·refine⟨_,rfl,trivial,_,rfl,_,rfl,_,rfl,?_⟩
   by_cases Q8:(k:Int)<((n-a+b:Nat):Int)
   ·exact jx (decide_eq_true Q8) ⟨_,rfl,trivial,ho,j1 (decide_eq_true (by lia)) _⟩
   ·exact de (decide_eq_false Q8) (j2 (decide_eq_false (by lia)) _)
  have ea:tj (.lst (((qD ps (n-1-a)).filter λk=>decide (k<n-a+b)).map λk:Nat=>D.int (k:Int))) (.lst [.cO])=some (.lst ((gO ps (n-1-a) (n-a+b)).map oD)):=by
   rw[<- all_map];exact df (by rw[U9];have:=WL (λk=>decide (k<n-a+b)) (qD ps (n-1-a));show _+1<=_;lia)
  refine⟨trivial,trivial,mZ,_,ea,.inr ?_⟩;refine⟨⟨_,rfl⟩,_,rfl,_,_,_,_,rfl,rfl,by rw[U9,Wv];exact J4 rfl (show n-1-a<n+1 by lia),eS (show n-1-a<n+1 by lia),?_⟩
  refine⟨_,rfl,trivial,_,rfl,trivial,_,rfl,trivial,_,rfl,trivial,n,ps,fR n a b,n-1-a,n-a+b,rfl,ok,Hv,by lia,by lia,λa' h1 h2=>by unfold fR;rw[if_pos h1];exact U8 _,trivial,rfl,?_,?_⟩
  ·rw[e0];unfold qU;rw[U9,Wv];exact qV (by lia)
  ·refine⟨fR n a (b+1),some (.val true (.int ((n-1-a:Nat):Int))),some (.val true (.int ((n-a+b:Nat):Int))),some (.val true (.lst ((gO ps (n-1-a) (n-a+b)).map oD))),?_,.inr ⟨a,b+1,ha,by lia,λ_ _=>rfl,mf⟩⟩
   rw[show n-a+b-(n-1-a)=b+1 by lia,e0,Cq ha hb]
   rfl
 ·rintro β ⟨L,x4,x5,x6,rfl,dn⟩;rw[U9]at dn;have e:jy n L (sT ps)=wu n (sT ps):=nK (yd dn);rw[e];exact⟨_,rfl,q⟩
theorem m9:aI ["row"] ["row"] (ao dG):=⟨rfl,rfl,rfl,by decide +kernel,rfl,by decide +kernel,by decide +kernel⟩
theorem C8 {DM wy} (IE:D8 K mg DM wy) {hV dz} (ik:D7 K mg hV dz) {gh cW} (kK:D3 K mg gh cW) {gg cV} (kJ:D2 K mg gg cV) {gf cU} (kG:D6 K mg gf cU) {eF bX} (fD:D5 K mg eF bX) {fB cG} (jV:D4 K mg fB cG) (B:qz mg):aD P w K mg base bz 4 DM wy ["row"] (cB P w true jo):=by
 have Ih:aD P w K mg base bz 3 _ _ _ (cB P w true cR):= gZ ik kK kJ kG fD jV B;refine nh IE.F m9 (λds R Lb=> by obtain⟨n,ps,e,_⟩ := Lb;subst e;rfl) λbQ A outer s H E hr=>⟨_,(aj (aM (aL ag a6 (aL ag a6 (aF cR.mono Ih (hr.mono (by decide)) ik.m ik.F.kp ik.b (aa (ae (i:=0)) af)) ah) (aL ag a6 (ae (i:=0)) ah)))),λds R h=>?_⟩
 obtain⟨n,ps,rfl,ok,Hv,q⟩:=h;exact⟨_,rfl,trivial,n,ps,rfl,ok,Hv,trivial,_,AA (i:=0) rfl (Vv _),.inr ⟨trivial,_,rfl,trivial,_,rfl,_,AB (l:=n) rfl (by lia),trivial,q⟩⟩
end
end ip
namespace L2.EX
open PySem PySem.W PySem.Spec PySem.Calls PyProof.Rows Builtin Builtin.ObjectAttr Builtin.Getset_descriptor
def ExcAt (a C:Addr)(h:Heap):Prop:=∃o vs,h.get? a=some o/\o.cls=.ref C/\o.data=.fields vs
theorem ExcAt.ty {a C:Addr}{h:Heap}{M:Zf}(p:ExcAt a C h):Looks M h (typeOf (.ref a)) (.ref C):=by
 obtain⟨o,vs,h1,h2,_⟩:=p;exact h2▸(Looks.ld h1).andThen .now
section
variable {prog:U_}{w:Vl}{A:VZ}{E:U5->U7->Prop}{s:U7}{K:Frag}{x C:Addr}{R:Result->U7->Prop}
theorem class_get {tp:U5} (X:K.In s.heap) (I:ExcAt x C s.heap) (hm:mroIn K C (.type "object")=some true)
  (h:R (.ok (.ret (.ref C))) s):Yp (model prog w) A (.call (.builtin "getset_descriptor.__get__") ⟨[.builtin "object.__class__",.ref x,tp],[]⟩) R s:=by
 obtain⟨hh,g,dr,t,os⟩:=s;have L0:=I.ty (M:=model prog w);have L1:=looks_mroIn (M:=model prog w) X hm;refine codeAny_call_builtin KF.slot_gs.plain KF.entry_gs (KF.slot_gs.check _ _ _ _ _ _ _ _ KF.type_class (KF.args_gs _ _ _) ?_);unfold W4.«getset_descriptor.__get__» descrGet;rw[dga_obj];refine U6 (Vg ?_);unfold descrGetter descrCheckInstance descrNameAndClass isInstance;simp only[KF.owner_class]
 repeat lk
 refine⟨Code.quiet_builtin _ (by decide +kernel),codeAny_builtin KF.entry_class ?_⟩
 unfold W4.«object.__class__» shownTypeOf
 repeat lk
 exact h
structure XC (K:Frag)(C:Addr):Prop where
 obj:mroIn K C (.type "object")=some true
 base:mroIn K C (.type "BaseException")=some true
 ga:findIn K (.ref C) "__getattribute__" = some (some (.builtin "BaseException.__getattribute__"))
 hook:findIn K (.ref C) "__getattr__" = some none
 cls:findIn K (.ref C) "__class__" = some (some (.builtin "object.__class__"))
theorem Bw {M:Zf} {Ex:U5} {Q:Unit->U7->Prop} (X:K.In s.heap) (I:ExcAt x C s.heap) (Z:XC K C) (hq:Q () s):VA M A (checkBuiltinCall "BaseException.__getattribute__" ⟨[.ref x,Ex],[]⟩) Q E s:=by
 obtain⟨hh,g,dr,t,os⟩:=s;have hk:builtinKind "BaseException.__getattribute__" = some .slot:=by decide +kernel
 have G6:splitId "BaseException.__getattribute__" = some ("BaseException","__getattribute__"):=by decide +kernel
 have ha:=F.args_bexc_ga (.ref x) Ex;have L0:=I.ty (M:=M);have L1:=looks_mroIn (M:=M) X Z.base;simp only[checkBuiltinCall,hk,G6];refine U6 ?_;unfold isInstance
 repeat lk
 exact hq
theorem tw {tk:Tok}{Q:Fin->U7->Prop}(X:K.In s.heap)(I:ExcAt x C s.heap)(Z:XC K C)(hq:Q (.done (.ret (.ref C))) s):
  VA (model prog w) A (W4.«object.__getattribute__» ⟨[.ref x,.str "__class__" tk],[]⟩) Q E s:=by
 obtain⟨hh,g,dr,t,os⟩:=s;have L0:=I.ty (M:=model prog w);have L1:=looks_findIn (M:=model prog w) X Z.cls;have L2:=looks_specialIn (M:=model prog w) (K:=K) X (v:=.builtin "object.__class__") (name:="__get__") (r:=some (.builtin "getset_descriptor.__get__")) (by kernel_rfl)
 have L3:=looks_takesIn (M:=model prog w) (K:=K) X (a:=.builtin "object.__class__") (r:=true) (by kernel_rfl)
 unfold W4.«object.__getattribute__»
 repeat (first|(with_reducible refine U6 (YS (class_get (s:=⟨hh,g,dr,t,os⟩) X I Z.obj ?_)))|(with_reducible refine YS (class_get (s:=⟨hh,g,dr,t,os⟩) X I Z.obj ?_))|lk)
 exact hq
theorem u5 {Q:Option U5->U7->Prop}(X:K.In s.heap)(I:ExcAt x C s.heap)(Z:XC K C)(h:Q (some (.ref C)) {s with toks:=s.toks+1}):VA (model prog w) A (getAttr? (.ref x) "__class__") Q E s:=by
 obtain⟨hh,g,dr,t,os⟩:=s;have L0:=I.ty (M:=model prog w);have L1:=looks_findIn (M:=model prog w) X Z.ga;have L2:=looks_findIn (M:=model prog w) X Z.hook;have f3:=F.attr_ValueError.ga.bind (.ref x);have OE:(YO "BaseException.__getattribute__" == YO "object.__getattribute__")=false:=by decide +kernel
 have G5:(onTheHeap (Value.ref C)&&YO "BaseException.__getattribute__" == YO "object.__getattribute__")=false:=by rw[OE];rfl
 unfold getAttr? getAttrBy? getAttrBy;refine U6 (wpAny_mkText (U6 (Yg (WC (U6 (L0.at (U6 (L1.at ?_))))))));dsimp only;rw[if_neg (λq=>by rw[G5]at q;cases q)]
 unfold getAttrByItsOwn hookBefore onTheHeap callGetattribute boundAndCalled;dsimp only;rw[if_pos rfl];refine U6 (L2.at (U6 (Yg (WC ?_))));simp only[Bool.false_and,W5,if_false];refine U6 (wpAny_of_eq f3 ?_);refine YS (codeAny_call_builtin F.attr_ValueError.ga.plain F.entry_bexc_ga (Bw (s:=⟨hh,g,dr,t+1,os⟩) X I Z (tw (s:=⟨hh,g,dr,t+1,os⟩) X I Z ?_)));exact handed_on rfl (Vg h)
theorem sg (Z:XC K C):KitX K (.ref x) (.ref C) (ExcAt x C) where
 ty:=λ_ _ _ I=>I.ty
 it:=λ_ _ X _=>by
  obtain⟨cd,hc,_⟩:=VQ.mp Z.obj;unfold clsIn at hc
  split at hc
  ·rename_i c' d' T3 Ej ho
   intro A' Q' E' s' k q;unfold isType loadHead;exact U6 (wpAny_loadPart (k _ _ (X _ _ ho)) (Vg q))
  ·cases hc
 ne:=λh tp dd its n sl X SW=>by
  obtain⟨cd,hc,_⟩:=VQ.mp Z.obj;refine Wx.mpr λq=>?_;have e:C=tp:=Value.ref.inj (beq_iff_eq.mp q);subst e;unfold clsIn at hc
  split at hc
  ·rename_i c' d' T3 Ej ho
   have z:=(X _ _ ho).symm.trans SW;cases z
  ·cases hc
 ca:=λX I k=>u5 X I Z k
end
end L2.EX
namespace L2
open PySem PySem.W PySem.Spec PyProof.Rows
abbrev j0 (C a:Addr):HO:=.ext (EX.ExcAt a C)
def D.exc (C:Addr):D:=.ob (j0 C)
structure Ii (P:U_)(w:Vl)(outer:List Env)(H:Hp)(s:U7)(a C:Addr)(H':Hp)(s':U7):Prop where
 os:s'.os=s.os
 bare:Ye s'.gens
 un:Un (gm outer) [] H H' s.heap s'.heap
 bt:gi P w H' s'.heap
 fl:∃(B:Heap) (a0:U5),XJ B outer a (.ref C) a0 s'.heap/\(∀b,H' b≠none->∃o,B.get? b=some o) /\
  ∀b o,s.heap.get? b=some o->b∉gm outer->∃o',B.get? b=some o'/\(H b=none->o'=o)
 nt:H' a=none
 nw:s.heap.get? a=none
def nE (P:U_)(w:Vl):yx:=λouter H s E e s'=>∃(a C:Addr) (H':Hp),e=.ref a/\Ii P w outer H s a C H' s'/\E (.ref C) none H'
section
variable {P:U_}{w:Vl}{H:Hp}{h h' B:Heap}
theorem oz (x:gi P w H h){b:Addr}(e:H b≠none):∃o,h.get? b=some o:=by
 cases q:H b with
 |none=>exact absurd q e
 |some u =>
  have z:=x b u q;cases u with
  |lst xs=>obtain⟨_,_,_,_,e⟩:=z;exact⟨_,e⟩
  |tup xs=>obtain⟨_,_,_,o,e,_⟩:=z;exact⟨_,e⟩
  |dK bb=>obtain⟨_,_,_,_,o,_,_,e,_⟩:=z;exact⟨_,e⟩
  |dT bb=>obtain⟨_,_,_,_,o,_,_,e,_⟩:=z;exact⟨_,e⟩
  |set S n=>obtain⟨o,_,_,_,e,_⟩:=z;exact⟨_,e⟩
  |ins C dx fs=>obtain⟨_,_,_,e,_⟩:=z;exact⟨_,e⟩
  |own y=>obtain⟨_,e⟩:=z;exact⟨_,e⟩
  |xd fs=>obtain⟨_,⟨_,_,_,e,_⟩,_⟩:=z;exact⟨_,e⟩
  |ML lo hi=>obtain⟨_,_,_,e⟩:=z;exact⟨_,e⟩
  |A4 ob u=>obtain⟨e,_⟩:=z;exact⟨_,e⟩
  |Ef ps=>exact⟨_,(show h.get? b=some _ from z)⟩
  |met f y=>exact⟨_,(show h.get? b=some _ from z)⟩
  |ext φ=>obtain⟨_,e,_⟩:=z;exact e
theorem jP (x:gi P w H h)(st:B.StaysIn h)(aC:B.StaysIn h')(tr:∀b,H b≠none->∃o,B.get? b=some o):gi P w H h':=λb u e =>
 (x b u e).lC (λc v hc q=>by
  have nc:H c≠none:=by
   rcases hc with rfl|z
   ·rw[e];exact λz=>(nomatch z)
   ·rw[z];exact λz=>(nomatch z)
  obtain⟨o,ho⟩:=tr c nc;rw[st c o ho]at q;cases q;exact aC c _ ho) (λ_ q=>q) λ_ _ q=>q
end
section
variable {X:Cx}{pins:List (Addr×Obj)}{σ:St}{H H':Hp}{s s':U7}{e C:Addr}
theorem uO {B:Heap}{outer:List Env}{h0 h1 h2:Heap}{H0:Hp}(u:Un (gm outer) [] H0 H h0 h1)(ff:h1.FunFrames B outer)(st:B.StaysIn h2)(up:h1.UpToSlots h2)
  (tr:∀b o,h0.get? b=some o->b∉gm outer->∃o',B.get? b=some o'/\(H0 b=none->o'=o)):Un (gm outer) [] H0 H h0 h2 where
 keep:=λb o e n hb _=>by
  obtain⟨o',e1,e2⟩:=tr b o e hb;rw[<- e2 n];exact st b _ e1
 slot:=λb o e n hb hx=>by
  obtain⟨sl,e1⟩:=u.slot b o e n hb hx;obtain⟨_,o',e2,nf⟩:=ff.mem hb;rw[e1]at e2;cases e2;obtain⟨Ej,e3⟩:=up b _ e1 nf;exact⟨Ej,e3⟩
 free:=u.free
 there:=λb o e hx=>by
  by_cases hb:b∈gm outer
  ·obtain⟨_,o',e2,nf⟩:=ff.mem hb;obtain⟨Ej,e3⟩:=up b _ e2 nf;exact⟨_,e3⟩
  ·obtain⟨o',e1,_⟩:=tr b o e hb;exact⟨o',st b _ e1⟩
 iq:=u.iq
 hG:=u.hG
 ir:=u.ir
theorem uC {vs:List U5}{hs:Heap}{M:Zf}{E:U5->U7->Prop}{Q:Unit->U7->Prop}(I:Inv X pins σ H s)(hx:X.ex=[])(ot:X.stack=X.env::X.outer)(hf:X.env.frame=some X.env.locals)(m:Heap.MadeExcOf s.heap hs e (.ref C) vs)
  (k:∀zd,Ii X.prog X.w X.outer X.H₀ X.s₀ e C H zd->Q () zd):VA M X.A (leaving X.env (.ref e)) Q E {s with heap:=hs}:=by
 have fr:X.A.frames=some (X.env::X.outer):=by rw[<- ot];exact I.ok.frames
 have ff:s.heap.FunFrames X.base (X.env::X.outer):=by rw[<- ot];exact I.stack
 have EI:∀env∈(X.env::X.outer),∀b,env.frame=some b->b∈gm (X.env::X.outer):=λenv he b hb=>YU.mpr ⟨env,he,hb⟩;have nl:∀b o,X.s₀.heap.get? b=some o->b∉X.fs->b∉gm (X.env::X.outer):=λb o eb nb z=>by
  unfold gm at z;rw[Wl,hf]at z;rcases Va.mp z with z|z
  ·exact absurd (VG (Vp eb) I.ok.above) (by rw[z];exact W_ _)
  ·exact nb z
 have I0:∀b,b∉X.ex:=λb z=>by rw[hx]at z;cases z
 have Qv:(hideAll s.heap (gm (X.env::X.outer))).StaysIn s.heap:=λb o q=>of_hideAll _ q;refine wpAny_leaves_madeW (h:=s.heap) (base:=hideAll s.heap (gm (X.env::X.outer))) fr hf Qv (funFrames_hide ff EI) m λh' t f1 f2 f3 f4=>k _ ?_;have tr:∀b,H b≠none->∃o,(hideAll s.heap (gm (X.env::X.outer))).get? b=some o:=λb nb=>by
  obtain⟨o,ho⟩:=oz I.bt nb;exact⟨o,hideAll_get _ ho λz=>nb (I.pq b (by rw[ot];exact z))⟩
 have BY:∀b o,X.s₀.heap.get? b=some o->b∉gm X.outer->∃o',(hideAll s.heap (gm (X.env::X.outer))).get? b=some o'/\(X.H₀ b=none->o'=o):=λb o eb nb=>by
  obtain⟨o1,e1⟩:=I.base.there b o eb (I0 b);refine⟨o1,hideAll_get _ e1 (nl b o eb nb),λn=>?_⟩;rw[I.base.keep b o eb n nb (I0 b)]at e1;exact(VX e1).symm
 have u0:Un (gm X.outer) [] X.H₀ H X.s₀.heap s.heap:=by
  have z:=I.base;rw[hx]at z;exact z
 have TM:s.heap.FunFrames (hideAll s.heap (gm (X.env::X.outer))) X.outer:=(funFrames_hide ff EI).2.2;refine⟨I.os,I.bare,uO u0 TM f1.1 ((Heap.UpToSlots.of_keeps m.keeps).trans f4) BY,jP I.bt Qv f1.1 tr,⟨_,_,f1,tr,BY⟩,?_,?_⟩
 ·cases q:H e with
  |none=>rfl
  |some u =>
   obtain⟨o,ho⟩:=oz I.bt (b:=e) (by rw[q];exact λz=>(nomatch z))
   rw[m.new]at ho;cases ho
 ·cases q:X.s₀.heap.get? e with
  |none=>rfl
  |some o =>
   obtain⟨o',e1⟩:=I.base.there e o q (I0 e);rw[m.new]at e1;cases e1
theorem Au {M:Zf}{E:U5->U7->Prop}{Q:Unit->U7->Prop}(I:Inv X pins σ H s)(hx:X.ex=[])(ot:X.stack=X.env::X.outer)(hf:X.env.frame=some X.env.locals)(f:Ii X.prog X.w X.stack H s e C H' s')
  (k:∀zd,Ii X.prog X.w X.outer X.H₀ X.s₀ e C H' zd->Q () zd):VA M X.A (leaving X.env (.ref e)) Q E s':=by
 have fr:X.A.frames=some (X.env::X.outer):=by rw[<- ot];exact I.ok.frames
 have I0:∀b,b∉X.ex:=λb z=>by rw[hx]at z;cases z
 obtain⟨os,bare,un,bt,⟨B,a0,fl,tr,BY⟩,nt,nw⟩:=f;rw[ot]at fl un BY;have nl:∀b o,X.s₀.heap.get? b=some o->b∉X.fs->b∉gm (X.env::X.outer):=λb o eb nb z=>by
  unfold gm at z;rw[Wl,hf]at z;rcases Va.mp z with z|z
  ·exact absurd (VG (Vp eb) I.ok.above) (by rw[z];exact W_ _)
  ·exact nb z
 refine wpAny_leaves_onW fr hf fl λh' f1 f4=>k _ ?_;have u0:Un (gm X.outer) [] X.H₀ H X.s₀.heap s.heap:=by
  have z:=I.base;rw[hx]at z;exact z
 have NA:∀b o,X.s₀.heap.get? b=some o->b∉gm X.outer->∃o',B.get? b=some o'/\(X.H₀ b=none->o'=o):=λb o eb nb=>by
  obtain⟨o1,e1⟩:=I.base.there b o eb (I0 b);obtain⟨o',e2,e3⟩:=BY b o1 e1 (nl b o eb nb);refine⟨o',e2,λn=>?_⟩;rw[I.base.keep b o eb n nb (I0 b)]at e1;cases e1;exact e3 (I.base.free b o eb n (I0 b))
 have u1:Un (gm X.outer) [] X.H₀ H' X.s₀.heap s'.heap:=by
  refine⟨λb o eb n nb _=>?_,λb o eb n hb hx=>?_,λb o eb n hx=>?_,λb o eb hx=>?_,λb xs q=>un.iq b xs (u0.iq b xs q),λb o q z=>un.hG b o q (u0.hG b o q z),λb ps q=>?_⟩
  ·obtain⟨o',e1,e2⟩:=NA b o eb nb;rw[<- e2 n];exact fl.1 b _ e1
  ·obtain⟨sl,e1⟩:=u0.slot b o eb n hb hx;have gI:b∈gm (X.env::X.outer):=by unfold gm;rw[Wl,hf];exact Vm _ hb
   obtain⟨Ej,e2⟩:=un.slot b _ e1 (u0.free b o eb n hx) gI (by simp)
   exact⟨Ej,e2⟩
  ·obtain⟨o',e1⟩:=u0.there b o eb hx;exact un.free b o' e1 (u0.free b o eb n hx) (by simp)
  ·obtain⟨o',e1⟩:=u0.there b o eb hx;exact un.there b o' e1 (by simp)
  ·obtain⟨m1,e1⟩:=u0.ir b ps q;obtain⟨m2,e2⟩:=un.ir b _ e1;exact⟨m1++m2,by rw[e2,Array.append_assoc]⟩
 refine⟨os.trans I.os,bare,uO u1 fl.2.2.1.2.2 f1.1 f4 NA,jP bt fl.1 f1.1 tr,⟨B,a0,f1,tr,NA⟩,nt,?_⟩;cases q:X.s₀.heap.get? e with
 |none=>rfl
 |some o =>
  obtain⟨o',e1⟩:=I.base.there e o q (I0 e);rw[nw]at e1;cases e1
end
abbrev Cx.B4 (X:Cx)(e:Addr):Cx:={X with A:=X.A.mark (some (.ref e)),calm:=false,xe:=λ_ _=>False}
section
variable {X:Cx}{pins:List (Addr×Obj)}{σ:St}{H H':Hp}{s s':U7}{e C:Addr}
theorem Inv.B4 (I:Inv X pins σ H s):Inv (X.B4 e) pins σ H s :=
 ⟨⟨I.ok.mod,I.ok.kind,I.ok.glob,I.ok.blt,I.ok.above,I.ok.inj,I.ok.has,I.ok.E2,(λz=>by cases z),I.ok.frames,I.ok.Fq,I.ok.HJ,I.ok.bs,I.ok.BF,I.ok.rN,I.ok.sY,I.ok.jk,I.ok.DI⟩,I.os,I.bare,I.base,I.loc,I.cell,I.free,I.dy,I.pin,I.bt,I.len⟩
theorem Inv.IS (ok:X.Ok)(I:Inv (X.B4 e) pins σ H s):Inv X pins σ H s:=⟨ok,I.os,I.bare,I.base,I.loc,I.cell,I.free,I.dy,I.pin,I.bt,I.len⟩
theorem DE {M:Zf}{A:VZ}{E:U5->U7->Prop}{j:Nat}{n:Str}{pos:Pos}{Q:Unit->U7->Prop}(I:Inv X pins σ H s)(hN:X.N.Nodup)(hj:X.N[j]?=some n)(hl:X.env.scope.names.lookup n=some .local)
  (h:∀s',Inv X pins (σ.set j none) H s'->Q () s'):VA M A (do Y1 X.env n .none;unbindBehindTheSuite X.env n pos) Q E s:=by
 obtain⟨m,hn,nu⟩:=id I.loc;have HC:(X.env.scope.kind==.class || (X.env.scope.kind==.module&&X.env.locals != X.env.globals))=false:=by rw[I.ok.kind];rfl
 have Bu:=I.Bu;obtain⟨oL,_,_,Q1,_⟩:=id hn;refine wpAny_nameGoes_keeps hl hn HC λh' v Dz hs=>h _ ?_;have Ik:gi X.prog X.w H h':=λb ob eb=>by
  refine(I.bt b ob eb).lC (λc w' hc q=>(hs.2 c ?_).trans q) (λ_ q=>q) λ_ _ q=>q;rintro rfl;rcases hc with rfl|hc
  ·rw[I.free]at eb;cases eb
  ·rw[I.free]at hc;cases hc
 have nL:∀b o,X.s₀.heap.get? b=some o->b≠X.env.locals:=λb o eb=>VJ (VG (Vp eb) I.ok.above);refine⟨I.ok,I.os,I.bare,⟨λb o eb nb hb hx=>(hs.2 b (nL b o eb)).trans (I.base.keep b o eb nb hb hx),λb o eb nb hb hx=>?_,I.base.free,λb o eb hx=>?_,I.base.iq,I.base.hG,I.base.ir⟩,⟨_,Dz,λi y v' e1 e2 e3=>?_⟩,λy c ec=>?_,I.free,I.dy,λp hp=>?_,Ik,by simpa using I.len⟩
 ·obtain⟨sl,e1⟩:=I.base.slot b o eb nb hb hx;exact⟨sl,(hs.2 b (nL b o eb)).trans e1⟩
 ·obtain⟨o',e1⟩:=I.base.there b o eb hx;exact⟨o',(hs.2 b (nL b o eb)).trans e1⟩
 ·by_cases aV:i=j
  ·subst aV;rw[XI]at e2;rw[if_pos rfl]at e2
   split at e2 <;> cases e2
  ·rw[YG (Xn aV)]at e2;obtain⟨u',r',q⟩:=nu i y v' e1 e2 e3;refine⟨u',r',?_⟩;rcases q with⟨k,z⟩|⟨k,c,z,z'⟩
   ·refine .inl ⟨k,?_⟩;have ne:y≠n:=λz=>aV (lV hN e1 (z▸hj));simp[ne,z]
   ·exact .inr ⟨k,c,z,z'.sameBut hs (Bu y c z)⟩
 ·obtain⟨w',z⟩:=I.cell y c ec;exact⟨w',z.sameBut hs (Bu y c ec)⟩
 ·obtain⟨e1,n1,ne,nf,d⟩:=I.pin p hp;exact⟨(hs.2 p.1 ne).trans e1,n1,ne,nf,d⟩
theorem Ii.land {B:Heap}{a0:U5}{h6:Heap}{t:Nat}(I:Inv X pins σ H s)(f:Ii X.prog X.w X.stack H s e C H' s')(fl:XJ B X.stack e (.ref C) a0 s'.heap)(tr:∀b,H' b≠none->∃o,B.get? b=some o)
  (BY:∀b o,s.heap.get? b=some o->b∉gm X.stack->∃o',B.get? b=some o'/\(H b=none->o'=o)) (f6:XJ B X.stack e (.ref C) a0 h6) (up:s'.heap.UpToSlots h6) :
  Inv X pins σ (upd H' e (j0 C e)) {s' with heap:=h6,toks:=t}:=by
 have u:=uO f.un fl.2.2.1 f6.1 up BY;obtain⟨oe,vs,g1,g2,g3,_⟩:=f6.first
 have ex:EX.ExcAt e C h6:=⟨oe,vs,g1,g2,g3⟩;have bt:gi X.prog X.w H' h6:=jP f.bt fl.1 f6.1 tr;have ne:∀b u,H' b=some u->b≠e:=λb u q z=>by rw[z,f.nt]at q;cases q
 have O1:gi X.prog X.w (upd H' e (j0 C e)) h6:=λb u q=>by
  by_cases hb:b=e
  ·subst hb;rw[az]at q;cases q;exact⟨ex,⟨oe,g1⟩,λh1 h2 La k=> by obtain⟨o,vs,z1,z2⟩ := La;exact⟨o,vs,k o z1,z2⟩⟩
  ·rw[ar hb]at q;exact(bt b u q).lC (λc v _ q=>q) (λc q=>by rw[ar (ne c _ q)];exact q) λc xs q=>by rw[ar (ne c _ q)];exact q
 have u2:Un (gm X.stack) [] H (upd H' e (j0 C e)) s.heap h6:=by
  refine⟨u.keep,u.slot,λb o eb nb hx=>?_,u.there,λb xs q=>?_,λb o q z=>?_,λb ps q=>?_⟩
  ·rw[ar (λz=>by rw[z,f.nw]at eb;cases eb)]
   exact u.free b o eb nb hx
  ·have z:=u.iq b xs q;rw[ar (ne b _ z)];exact z
  ·have z':=u.hG b o q z;rw[ar (ne b _ z')];exact z'
  ·obtain⟨more,z⟩:=u.ir b ps q;exact⟨more,by rw[ar (ne b _ z)];exact z⟩
 exact I.E1 (s':={s' with heap:=h6,toks:=t}) f.os u2 O1 f.bare (λb z=>nomatch z)
theorem ExcAt.stays {B h:Heap}{l:List Env}{a0:U5}(f:XJ B l e (.ref C) a0 h):EX.ExcAt e C h:=by
 obtain⟨oe,vs,g1,g2,g3,_⟩:=f.first
 exact⟨oe,vs,g1,g2,g3⟩
theorem HW {xA n:Str}{CA:Addr}{j:Nat}{np AR:Pos}{b₀:Stmt}{qW:List Stmt}{Q:Flow->U7->Prop}{E:U5->U7->Prop}(I:Inv X pins σ H s)(ot:X.stack=X.env::X.outer)(hf:X.env.frame=some X.env.locals)
  (f:Ii X.prog X.w X.stack H s e C H' s') (hm:X.mg xA=some (.ref CA)) (hg:Gl X xA) (hx:exmOne X.K (.ref C) (.ref CA)=some true) (hN:X.N.Nodup) (hj:X.N[j]?=some n) (hl:X.env.scope.names.lookup n=some .local)
  (k:∀s1,Inv (X.B4 e) pins (σ.set j (some (.ref e))) (upd H' e (j0 C e)) s1->VA (model X.prog X.w) (X.B4 e).A (execs (b₀::qW) X.env)
   (λf s4=>VA (model X.prog X.w) X.A (do Y1 X.env n .none;unbindBehindTheSuite X.env n AR) (λ_ s5=>Q f s5) E s4) (λ_ _=>False) s1) (hd:(xA==("__debug__" : Str))=false:=by decide) :
  VA (model X.prog X.w) X.A (noteFrame (.ref e) X.env) (λ_ s₂=>VA (model X.prog X.w) X.A (setFlight (.ref e) none) (λ_ s₃ =>
   VA (model X.prog X.w) X.A (handleBy (.ref e) X.env [.ExceptHandler (some (.Name xA np)) (some n) (b₀::qW) AR]) Q E s₃) E s₂) E s':=by
 have fr:X.A.frames=some (X.env::X.outer):=by rw[<- ot];exact I.ok.frames
 obtain⟨B,a0,fl,tr,BY⟩:=f.fl;have TJ:XJ B (X.env::X.outer) e (.ref C) a0 s'.heap:=by rw[<- ot];exact fl
 refine wpAny_looks_onW fr hf TJ λh4 LI Qz=>?_;refine wpAny_landsW LI λh5 LG MJ=>?_;have EK:XJ B X.stack e (.ref C) a0 h5:=by rw[ot];exact LG
 have I5:Inv X pins σ (upd H' e (j0 C e)) {s' with heap:=h5}:=f.land (t:=s'.toks) I fl tr BY EK (Qz.trans MJ)
 refine wpAny_handleBy_cons (codeAny_handlers_test ?_) (by intro q;cases q)
 refine je (X:=X.B4 e) (Inv.B4 I5) hg hm ?_ hd;refine(exm_one (M:=model X.prog X.w) I5.yA (ExcAt.stays EK).ty hx).here ?_;rw[if_pos rfl];refine codeAny_handlers_suite_as ?_;refine lands_againW LG λh6 Pt RZ=>?_;have LF:XJ B X.stack e (.ref C) a0 h6:=by rw[ot];exact Pt
 have I6:Inv X pins σ (upd H' e (j0 C e)) {s' with heap:=h6}:=f.land (t:=s'.toks) I fl tr BY LF ((Qz.trans MJ).trans RZ)
 refine fg (X:=X.B4 e) (Inv.B4 I6) hN hj (.inl hl) (v:=.ref e) rfl (λs7 I7=>?_) (.inr hl);exact Xi (k s7 I7) (λf s8 z=>z) λ_ _ z=>z.elim
end
end L2
namespace L2.Q
open PySem PySem.W PySem.Spec PySem.SeqAt PyProof.Rows
abbrev B9:=List D->(D->Prop)->(Addr->Prop)->Prop
def o3 (F:B9):Prop:=∀ds R R' T T',(∀d,R d->R' d)->(∀c,T c->T' c)->F ds R T->F ds R' T'
def g8 (P:U_)(w:Vl)(ro:Bool)(F:B9):Sp:=λvs H Q E=>∃ds,ak P w (λ_=>False) H ds vs/\F ds (λd=>∀v H',au H H'->nD P w ro H H' d v->Q v H') (λcl=>∀H',au H H'->E (.ref cl) none H')
structure Qd (X:Cx)(H0:Hp)(IO:Addr->Prop)(T:Addr->Prop):Prop where
 made:∀pins σ H s e cl hs vs,Inv X pins σ H s->Kp IO H0 H->Heap.MadeExcOf s.heap hs e (.ref cl) vs->T cl->X.xe (.ref e) {s with heap:=hs}
 pass:Passes (nE X.prog X.w) X (λcv _ H'=>∃cl,cv=.ref cl/\T cl/\Kp IO H0 H')
 own:Za (model X.prog X.w) X.A X.env X.xe
abbrev XR (H:Hp)(E:XK)(cl:Addr):Prop:=∀H',au H H'->E (.ref cl) none H'
theorem gn {P:U_}{w:Vl}{K:Frag}{mg:Str->Option U5}{base:Heap}{N:List Str}{qual:Str}{scope:Xz}{f:Addr}{cd:U5}{A:VZ}{outer:List Env}{s:U7}{H:Hp}{E:XK}:
  Qd (kM (nE P w) P w K mg base N qual scope f cd A outer s H E) H (λ_=>False) (XR H E) where
 made:=λpins σ H1 s1 e cl hs vs I k m t=>uC I rfl rfl rfl m λzd fl=>⟨e,cl,H1,rfl,fl,t H1 λb o z=>k.out b o z λz=>z⟩
 pass:=λpins σ H1 s1 e s' I K_=> by
  obtain⟨a,cl,H',ea,fl,T1,P1,t,k⟩ := K_;cases ea;cases P1;exact Au I rfl rfl rfl fl λzd fl=>⟨a,cl,H',rfl,fl,t H' λb o z=>k.out b o z λz=>z⟩
 own:=PassesOwn.leaving
abbrev M_:List U5:=[.type "ValueError",.type "Exception",.type "BaseException",.type "object"]
structure Xc (K:Frag)(mg:Str->Option U5)(x:Str)(C:Addr):Prop where
 m:mg x=some (.ref C)
 exc:excIn K C M_ "ValueError.__new__" = true
theorem Xc.own {K:Frag} {mg:Str->Option U5} {x:Str} {C:Addr} {h:Heap} (z:Xc K mg x C) (X:K.In h):OwnCls x C M_ "ValueError.__new__" mg h:=by
 refine⟨z.m,?_⟩;have q:=z.exc;unfold excIn at q
 split at q
 ·rename_i dd cd sl ho
  split at q
  ·rename_i C' bm k0 k1 k2 k3 n k5 hm hs
   simp only[VO,beq_iff_eq,XM]at q;obtain⟨⟨⟨⟨⟨rfl,rfl⟩,LJ⟩,ht⟩,bt⟩,MX⟩:=q;obtain⟨nm,bs,mro,ns,qn,hd,sn,sub,ab,col,del⟩:=cd;dsimp only at hm LJ bt MX;subst hm LJ;have OJ:sl=#[k0,k1,k2,k3,some (.builtin "ValueError.__new__"),k5]:=by
    obtain⟨l⟩:=sl;simp only at hs;rw[hs]
   subst OJ;exact⟨bm,ns,nm,qn,bs,hd,sn,sub,ab,col,dd,k0,k1,k2,k3,k5,_,X _ _ ho,.of_isNs (isNs_of_in X bt),nsMap_none_of_in X bt MX,tail_of_in X ht⟩
  ·cases q
 ·cases q
section
variable {X:Cx}{C:Cfg}{T:Addr->Prop}{x:Str}{cl:Addr}{np cpos pos Mc:Pos}{m:Str}
theorem rH {j}(Z:Qd X C.H0 C.IO T)(hc:X.calm=true)(hx:Xc X.K X.mg x cl)(hg:Gl X x:=by rfl)(hd:(x==("__debug__" : Str))=false:=by decide)
  (he:Vd [.Constant (.str m) j Mc] X.env=[(false,eval (.Constant (.str m) j Mc) X.env)]:=by rfl) (hp:(Wt cpos (Vd [.Constant (.str m) j Mc] X.env)).any (·.1)=false:=by rfl) :
  PB X C (.Raise (some (.Call (.Name x np) [.Constant (.str m) j Mc] [] cpos)) none pos) (λ_ _=>T cl) :=
 ⟨λ_ _ _ _ h=>h,λpins s σ H D I K9=> by
  obtain⟨_,E,β,⟨own,sq,n⟩,t,_⟩ := K9;obtain⟨tl,N,nm,q,bs,hdct,sn,sub,ab,col,dd,k0,k1,k2,k3,k5,mN,hC,hN,MX,TL⟩:=(hx.own I.yA).obj;have FB:=PySem.F.excBase_ValueError;refine wpAny_Raise_call_subT (C:=cl) (nm:=nm) (q:=q) (N:=N) (bs:=bs) (bm:=tl) (hdct:=hdct) (sn:=sn) (sub:=sub) (ab:=ab) (col:=col) (dd:=dd) (k0:=k0) (k1:=k1) (k2:=k2) (k3:=k3) (k5:=k5)
   FB (mN:=mN) (TL.hasType FB.hasBase) (I.ok.hd hc) hp MX (je I hg hx.m ⟨rfl,?_⟩ hd)
  rw[he];refine Calls.evalArgs_plain ?_;show VA _ _ (spliced ((false,eval (.Constant (.str m) j Mc) X.env)::Wt cpos [])) _ _ _;refine Calls.spliced_cons (Calls.Constant_str (Calls.spliced_nil ⟨rfl,(by show 1<=Vh;decide),hC,hN,TL,λh' e mk=>?_⟩))
  exact Z.made pins σ H {s with toks:=s.toks+1} e cl h' _ (I.tok _) sq.kp mk t⟩
end
section
variable {X:Cx}{C:Cfg}{k:Nat}{f:Addr}{fd:VE}{ps:List Str}{F:B9}{ro p:Bool}{x:Str}{pp pos:Pos}{e:Expr}{es:List Expr}{φs:bO}{T:Addr->Prop}
def Js (ro:Bool)(F:B9)(T:Addr->Prop)(φs:bO):aZ:=λβ R=>φs β λds _ β1=>F ds (λd=>R d (rk ro) β1) T
theorem lL (Z:Qd X C.H0 C.IO T)(mF:o3 F)(G:aD X.prog X.w X.K X.mg X.base (nE X.prog X.w) k f fd ps (g8 X.prog X.w ro F))(hr:cf k X.A)(hm:X.mg x=some (.ref f))(hk:PySem.W.keepIn X.K (.ref f)=true)(hb:Binds X.K fd ps [])(ha:oZ X C p (e::es) φs)(hg:Gl X x:=by rfl)
  (hdb:(x==("__debug__" : Str))=false:=by decide)
  (gk:Vd (e::es) X.env=(false,eval e X.env)::Vd es X.env:=by rfl) (hpl:(Wt pos (Vd es X.env)).any (·.1)=false:=by rfl) :
  PQ X C p (.Call (.Name x pp) (e::es) [] pos) (Js ro F T φs) :=
 ⟨λβ R R' k h=>ha.mono β _ _ (λds ks β1 q=>mF ds _ _ _ _ (λd q=>k _ _ _ q) (λ_ z=>z) q) h,(i6 G hr hg hm hk hb .nil Z.pass ha.pa (hdb:=hdb) (he:=gk) (hpl:=hpl)).pre λσ H Q ⟨β,own,s,h⟩=>qA.of ha s h λds ks β1 vs H1 aB q o1 r1=>by
  rw[Ws];exact⟨ds,r1.bor,mF ds _ _ _ _ (λd q2 v H' s2 r2=>q2 v H' aB (o1.same s2) (r2.kv o1.sq.uU o1.sq.hX λa z=>o1.sn.d a z)) (λc t H' s2=>⟨c,rfl,t,o1.sq.kp.trans s2.kp⟩) q⟩⟩
end
theorem lq.lU {X:Cx}{C:Cfg}{st:List Stmt}{ψ:BR}(h:lq X.lU C st ψ):lq X C st ψ:=⟨h.mono,qI.lU (h.ps.pre λD σ H hq=>by obtain⟨Z,E,β,sb,q,ok⟩:=hq;exact⟨Z,E,β,sb,q,⟨ok.nx,ok.rt,ok.bk,ok.ct⟩⟩)⟩
section
variable {P:U_}{w:Vl}{K:Frag}{mg:Str->Option U5}{base:Heap}
theorem z_ {x qual:Str}{st:Stmt}{f:Addr}{fd:VE}{N ps:List Str}{k:Nat}{F:B9}{ro:Bool}(G:BU K x qual st f fd)(S:aI N ps (ao st))(len:∀ds R T,F ds R T->ds.length=ps.length)
  (jh:∀(bQ:U5) (A:VZ) (outer:List Env) (s:U7) (H:Hp) (E:XK),cf k (A.deeper (Yh qual (ao st) s.heap.objs.size f bQ)) ->
   ∃ψ,lq (kM (nE P w) P w K mg base N qual (ao st) f bQ A outer s H E) ⟨H,λ_=>False,ro,λ_=>False⟩ (dW st) ψ/\∀ds R,F ds R (XR H E)->ψ {nx:=λ_=>R .cO,rt:=λd _=>R d} (startB N ds)) :
  aD P w K mg base (nE P w) (k+1) f fd ps (g8 P w ro F):=by
 obtain⟨oc,od,kV,doc,pm,an,bQ,ct,Ep,rfl,lk,ic⟩:=G.ex;refine EN lk ic S (λvs H Q E h=>?_) (λA outer s H vs Q E hr h=>?_)
 ·obtain⟨ds,r,h⟩:=h;rw[r.length];exact len ds _ _ h
 ·obtain⟨ds,r,h⟩:=h;obtain⟨ψ,hb,hF⟩:=jh bQ A outer s H E hr;refine⟨_,hb.ps,(H,Wn λ_=>[]),_,startB N ds,⟨λ_=>[],qX r,Sn.refl⟩,hF ds _ h,λσ H' β sb q=>?_,λσ H' β d v sb rr q=>?_,λ_ _ _ _ z=>z.elim,λ_ _ _ _ z=>z.elim⟩
  ·obtain⟨own,s',n'⟩:=sb;exact q _ H' (λb o e=>s'.kp.out b o e (λz=>z)) (d3 (W:=λ_=>False) rfl rfl)
  ·obtain⟨own,s',n'⟩:=sb;exact q _ H' (λb o e=>s'.kp.out b o e (λz=>z)) rr
theorem aD.Sk {k:Nat}{f:Addr}{fd:VE}{ps:List Str}{F:B9}{F':FD}{ro:Bool}(G:aD P w K mg base (nE P w) k f fd ps (g8 P w ro F))(h:∀ds R,F' ds R->F ds R λ_=>False)(mF:o3 F):aD P w K mg base bz k f fd ps (cB P w ro F') :=
 ⟨λvs H Q E K8=> by obtain⟨ds,r,q⟩ := K8;exact G.len vs H Q E0 ⟨ds,r,mF ds _ _ _ _ (λ_ z=>z) (λ_ z=>z.elim) (h ds _ q)⟩,λA outer s H args us vs Q E hr e0 hb r ⟨ds,r',q⟩ =>
  XE (G.run A outer s H args us vs Q E0 hr e0 hb r ⟨ds,r',mF ds _ _ _ _ (λ_ z=>z) (λ_ z=>z.elim) (h ds _ q)⟩) λres s' q=>by
   cases res with
   |error e=>obtain⟨_,_,_,_,_,z⟩:=q;exact z.elim
   |ok fl=>cases fl <;> exact q⟩
end
abbrev _root_.L2.Cx.CK (X:Cx)(pins:List (Addr×Obj))(Eh:U5->U7->Prop):Cx:={X with pn:=X.pn++pins,xe:=Eh}
section
variable {X:Cx}{pins gC:List (Addr×Obj)}{σ:St}{H:Hp}{s:U7}{Eh:U5->U7->Prop}
theorem Gm (ok:X.Ok):(X.CK pins Eh).Ok:=⟨ok.mod,ok.kind,ok.glob,ok.blt,ok.above,ok.inj,ok.has,ok.E2,ok.hd,ok.frames,ok.Fq,ok.HJ,ok.bs,ok.BF,ok.rN,ok.sY,ok.jk,ok.DI⟩
theorem we (I:Inv X (pins++gC) σ H s):Inv (X.CK pins Eh) gC σ H s:=⟨Gm I.ok,I.os,I.bare,I.base,I.loc,I.cell,I.free,I.dy,λp hp=>I.pin p (by rw[<- V5];exact hp),I.bt,I.len⟩
theorem zH (ok:(X.CK pins Eh).Ok):X.Ok:=⟨ok.mod,ok.kind,ok.glob,ok.blt,ok.above,ok.inj,ok.has,ok.E2,ok.hd,ok.frames,ok.Fq,ok.HJ,ok.bs,ok.BF,ok.rN,ok.sY,ok.jk,ok.DI⟩
theorem CJ (I:Inv (X.CK pins Eh) gC σ H s):Inv X (pins++gC) σ H s:=⟨zH I.ok,I.os,I.bare,I.base,I.loc,I.cell,I.free,I.dy,λp hp=>I.pin p (by rw[<- V5]at hp;exact hp),I.bt,I.len⟩
theorem gB (I:Inv (X.CK pins Eh) gC σ H s):Inv X pins σ H s:=⟨zH I.ok,I.os,I.bare,I.base,I.loc,I.cell,I.free,I.dy,λp hp=>I.pin p (WG _ hp),I.bt,I.len⟩
theorem F8 {es:List Expr}{t:TA}(h:PA X.lU es t):PA (X.CK pins Eh) es t:=λpos gC s σ H Q I q =>
 Xi (h pos (pins++gC) s σ H Q ((CJ I).iR _) q) (λ_ _ K7=> by obtain⟨vs,H',I',r,q⟩ := K7;exact⟨vs,H',we I'.di,r,q⟩) λ_ _ z=>z.elim
theorem Fx {D:Ends}{f:Flow}{s':U7}(h:SP (X.CK pins Eh) [] D f s'):SP X pins D f s':=by
 cases f with
 |next=>obtain⟨σ',H',I,q⟩:=h;exact⟨σ',H',gB I,q⟩
 |brk=>obtain⟨σ',H',I,q⟩:=h;exact⟨σ',H',gB I,q⟩
 |cont=>obtain⟨σ',H',I,q⟩:=h;exact⟨σ',H',gB I,q⟩
 |ret u=>obtain⟨v,σ',H',I,r,q⟩:=h;exact⟨v,σ',H',gB I,r,q⟩
end
theorem zM {X:Cx}{CX:yx}{k:Nat}{f:Addr}{fd:VE}{ps:List Str}{sp:Sp}{x:Str}{p pos:Pos}{e:Expr}{es:List Expr}{t:TA}(F:aD X.prog X.w X.K X.mg X.base CX k f fd ps sp)(hr:cf k X.A)(hg:Gl X x)(hm:X.mg x=some (.ref f))
  (hk:PySem.W.keepIn X.K (.ref f)=true) (hb:Binds X.K fd ps []) (ha:PA X (e::es) t) (hdb:(x==("__debug__" : Str))=false:=by decide) (he:Vd (e::es) X.env=(false,eval e X.env)::Vd es X.env:=by rfl)
  (hpl:(Wt pos (Vd es X.env)).any (·.1)=false:=by rfl) :
  PE X (.Call (.Name x p) (e::es) [] pos) (λσ H Q=>t σ H λvs H1=>∃E:XK,sp vs H1 Q E/\∀pins s e s',Inv X pins σ H1 s->CX X.stack H1 s E e s'->X.xe e s'):=by
 intro pins s σ H Q I h;refine X3 (je I hg hm ?_ hdb);refine PySem.W.callWith_K (h₀:=X.base) I.ok.mod.MS hk (bq (ha pos pins s σ H _ I h) λus s1 ⟨vs,H1,I1,r,q⟩=>⟨I1.yA,?_⟩) he hpl;obtain⟨E,q,hx⟩:=q;have r2:Vals (vs++[]) (us++[]):=r.append .nil;have hl:(us++[]).length=ps.length:=by rw[<- r2.length,Ws];exact F.len _ _ _ _ q
 refine YS (XE (F.run X.A X.stack s1 H1 ⟨us,[]⟩ (us++[]) (vs++[]) Q E hr I1.LS (hb s1 us I1.yA hl) r2 (by rw[Ws];exact q)) λr s' hq=>?_)
 cases r with
 |error e=>exact hx pins s1 e s' I1 hq
 |ok fl =>
  cases fl with
  |ret u=>exact I1.after hq
  |next=>exact WI hq
  |brk=>exact WI hq
  |cont=>exact WI hq
abbrev BO:=e7->(Addr->Prop)->a8->Prop
structure TB (X:Cx)(C:Cfg)(body:List Stmt)(θ:BO):Prop where
 mono:∀E E' T T' β,Le E E'->(∀c,T c->T' c)->θ E T β->θ E' T' β
 run:∀(pins:List (Addr×Obj)) (s:U7) (σ:St) (H:Hp) (D:Ends) (Eh:U5->U7->Prop) (Z:Hp×(Addr->Prop)) (E:e7) (β:a8) (own:Nat->List Addr) (T:Addr->Prop),Inv X pins σ H s->SQ X C.z σ H β own->Sn Z H (Wn own)->Rz X C Z E D->θ E T β ->
  (∀s1 H1 e s',Inv X pins σ H1 s1->au H H1->nE X.prog X.w X.stack H1 s1 (λcv _ H'=>∃cl,cv=.ref cl/\au H1 H'/\T cl) e s'->Eh e s')->VA (model X.prog X.w) X.A (execs body X.env) (SP X pins D) Eh s
section
variable {X:Cx}{C:Cfg}{k:Nat}{f:Addr}{fd:VE}{ps:List Str}{F:B9}{ro:Bool}{x:Str}{pp pos cp:Pos}{e c:Expr}{es:List Expr}{φs:bO}{a b:List Stmt}{θa θb:BO}{τ:a_}
theorem yT (hc:tL X.lU C.z true c τ)(ha:TB X C a θa)(hb:TB X C b θb):TB X C [.If c a b pos] (λE T β=>τ β λt β'=>if t=true then θa E T β' else θb E T β') where
 mono:=λE E' T T' β l m h=>hc.mono _ _ _ (λt β' q=>by
  cases t
  ·exact hb.mono E E' T T' β' l m q
  ·exact ha.mono E E' T T' β' l m q) h
 run:=λpins s σ H D Eh Z E β own T I sq n ok h hE=>by
  refine Y7 (bq (Q:=SP X pins D) (wpAny_If (bq (hc.pt.lU (X:=X.iR Eh) pins s σ H _ (I.iR Eh) (jw.of (X:=X.lU) hc sq h λt β' H1 aB q o1=>(⟨β',aB,q,o1⟩:∃β' aB,(if t=true then θa E T β' else θb E T β')/\Out X C.z σ H own true β' H1 aB))) λd s1 ⟨H1,I1,β',aB,q1,o1⟩=>?_)) λfl s1 q=>?_)
  ·obtain⟨sm,rfl⟩:=o1.pu rfl;have Ri:∀s2 H2 e s',Inv X pins σ H2 s2->au H1 H2->nE X.prog X.w X.stack H2 s2 (λcv _ H'=>∃cl,cv=.ref cl/\au H2 H'/\T cl) e s'->Eh e s':=λs2 H2 e s' I2 MK q=>hE s2 H2 e s' I2 (sm.trans MK) q;cases d with
   |true=>exact ha.run pins s1 σ H1 D Eh Z E β' aB T I1.di o1.sq (n.same sm) ok q1 Ri
   |false=>exact hb.run pins s1 σ H1 D Eh Z E β' aB T I1.di o1.sq (n.same sm) ok q1 Ri
  ·cases fl with
   |next=>exact Xw q
   |ret v=>exact q
   |brk=>exact q
   |cont=>exact q
theorem kP (mF:o3 F)(G:aD X.prog X.w X.K X.mg X.base (nE X.prog X.w) k f fd ps (g8 X.prog X.w ro F))(hr:cf k X.A)(hm:X.mg x=some (.ref f))(hk:PySem.W.keepIn X.K (.ref f)=true)(hb:Binds X.K fd ps [])(ha:oZ X.lU C.z true (e::es) φs)(hg:Gl X x:=by rfl)
  (hdb:(x==("__debug__" : Str))=false:=by decide) (gk:Vd (e::es) X.env=(false,eval e X.env)::Vd es X.env:=by rfl) (hpl:(Wt cp (Vd es X.env)).any (·.1)=false:=by rfl)
  (xS:WO (.Call (.Name x pp) (e::es) [] cp) none pos.line X.env=pure false:=by rfl) :
  TB X C [.Expr (.Call (.Name x pp) (e::es) [] cp) pos] (λE T β=>φs β λds _ β1=>F ds (λ_=>E.nx β1) T) where
 mono:=λE E' T T' β l m h=>ha.mono _ _ _ (λds ks β1 q=>mF ds _ _ _ _ (λ_ q=>l.nx _ q) m q) h
 run:=λpins s σ H D Eh Z E β own T I sq n ok h hE=>by
  have P:=eU (kT (X:=X.CK pins Eh) (pos:=pos) (zM (X:=X.CK pins Eh) (p:=pp) (pos:=cp) G hr hg hm hk hb (F8 ha.pa) hdb gk hpl) xS);refine bq (P [] s σ H D (we (by rw[Ws];exact I)) ?_) λfl s' q=>Fx q
  refine qA.of (X:=X.lU) ha sq h λds ks β1 vs H1 aB q o1 r1=>?_;obtain⟨sm,rfl⟩:=o1.pu rfl;refine⟨λcv _ H'=>∃cl,cv=.ref cl/\au H1 H'/\T cl,⟨ds,r1.bor,mF ds _ _ _ _ (λd q2 v H' s2 r2=>?_) (λcl t H' s2=>⟨cl,rfl,s2,t⟩) q⟩,λgC s1 e s' I1 q=>hE s1 H1 e s' (gB I1) sm q⟩;exact ok.nx _ _ _ ⟨aB,o1.sq.same s2,(n.same sm).same s2⟩ q2
end
section
variable {P:U_}{w:Vl}{C:Cfg}{σ:St}{H:Hp}{β:a8}{own:Nat->List Addr}
theorem cq.Cr {i:Nat}(b:cq P w C σ H β own):cq P w C (σ.set i none) H (β.set i none) (a9 own i []):=by
 have sub:∀y a,gb C (Wn (a9 own i [])) (yk y) a->gb C (Wn own) (yk y) a:=λy=>jt (λa h=>fG h) _;refine⟨by simp[b.len],λj y' d' e=>?_,λj d' e=>?_,λj ok e=>?_,λj a h=>b.dm j a (cy h).1,λj k a h1 h2=>b.mS j k a (cy h1).1 (cy h2).1,λj=>?_,b.kp,b.hX,λj y' d' e=>?_⟩
 ·by_cases aV:i=j
  ·subst aV;obtain⟨e',hl⟩:=bB e;cases e'
  ·rw[bx aV]at e ⊢
   obtain⟨u,h1,h2⟩:=b.val j y' d' e;exact⟨u,h1,h2.aS (sub _)⟩
 ·by_cases aV:i=j
  ·subst aV;obtain⟨e',hl⟩:=bB e;cases e'
  ·rw[bx aV]at e ⊢
   rw[bN aV];exact b.ow j d' e
 ·by_cases aV:i=j
  ·subst aV;obtain⟨e',hl⟩:=bB e;cases e'
  ·rw[bx aV]at e ⊢
   rw[bN aV];exact b.pZ j ok e
 ·by_cases aV:i=j
  ·rw[aV,os_eq];exact Wc
  ·rw[bN aV];exact b.pS j
 ·by_cases aV:i=j
  ·subst aV;obtain⟨e',hl⟩:=bB e;cases e'
  ·rw[bx aV]at e ⊢
   rw[bN aV];obtain⟨u,h1,h2,h3⟩:=b.shl j y' d' e;exact⟨u,h1,h2.map (λ_ _ _ z=>z) (λ_ _ r=>ak.aS (sub _) r),h3⟩
end
section
variable {X:Cx}{C:Cfg}{body qW:List Stmt}{b₀:Stmt}{θ:BO}{ψ:BR}{j:Nat}{xA n:Str}{CA:Addr}{np AR pos:Pos}
theorem Cy {P:U_}{w:Vl}{σ:St}{H H':Hp}{β:a8}{own:Nat->List Addr}{e cl:Addr}(b:cq P w C.z σ H β own)(sm:au H H')(nt:H' e=none):aA P w (gb C.z (Wn own) .e8) (upd H' e (j0 cl e)) (.exc cl) (.ref e) :=
 ⟨e,rfl,⟨az,λxs z=>(by cases z)⟩,λz=>by
  have b':=b.same sm;rcases z with (z|z)|z
  ·exact b'.uU e z nt
  ·exact b'.hX e z nt
  ·exact z⟩
theorem F6 (ot:X.stack=X.env::X.outer)(hf:X.env.frame=some X.env.locals)(hb:TB X C body θ)(hs:∀e,lq (X.B4 e) C (b₀::qW) ψ)(hm:X.mg xA=some (.ref CA))(hN:X.N.Nodup)(hj:X.N[j]?=some n:=by rfl)(hl:X.env.scope.names.lookup n=some .local:=by rfl)(hg:Gl X xA:=by rfl)
  (hd:(xA==("__debug__" : Str))=false:=by decide) :
  PB X C (.Try body [.ExceptHandler (some (.Name xA np)) (some n) (b₀::qW) AR] [] [] pos)
   (λE β=>∃T:Addr->Prop,θ E T β/\∀cl,T cl->exmOne X.K (.ref cl) (.ref CA)=some true/\ψ {nx:=λβ'=>E.nx (β'.set j none),rt:=λ_ _=>False} (β.set j (some (.val true (.exc cl))))) :=
 ⟨λE E' β l K6=> by obtain⟨T,h,k⟩ := K6;exact⟨T,hb.mono E E' T T β l (λ_ z=>z) h,λcl t=>⟨(k cl t).1,(hs 0).mono {nx:=λβ'=>E.nx (β'.set j none),rt:=λ_ _=>False} {nx:=λβ'=>E'.nx (β'.set j none),rt:=λ_ _=>False} _ ⟨λβ' q=>l.nx _ q,λ_ _ z=>z,λ_ z=>z,λ_ z=>z⟩ (k cl t).2⟩⟩,λpins s σ H D I K5=> by
  obtain⟨Z,E,β,⟨own,sq,sn⟩,⟨T,h,k⟩,ok⟩ := K5;refine wpAny_Try_except (bq (hb.run pins s σ H D _ Z E β own T I sq sn ok h λs1 H1 e s' I1 sm cx=>?_) λfl s1 q=>?_)
  ·obtain⟨a,cl,H',rfl,PM,T1,P1,MK,t⟩:=cx;cases P1;obtain⟨hx,hk⟩:=k cl t;refine HW (X:=X) I1 ot hf PM hm hg hx hN hj hl (λs2 I2=>?_) hd;have s3:au H (upd H' a (j0 cl a)):=(sm.trans MK).trans (au.new PM.nt);have NX:SQ X C.z (σ.set j (some (.ref a))) (upd H' a (j0 cl a)) (β.set j (some (.val true (.exc cl)))) (a9 own j []):=(sq.same s3).d6 (Cy sq (sm.trans MK) PM.nt);refine bq ((hs a).ps pins s2 _ _ {nx:=λσ' H'=>D.nx (σ'.set j none) H',rt:=λ_ _=>False} I2 ⟨Z,_,_,⟨_,NX,gu (sn.same s3)⟩,hk,⟨λσ' H' β' sb q=>?_,λ_ _ _ _ _ _ _ z=>z.elim,λ_ _ _ _ z=>z.elim,λ_ _ _ _ z=>z.elim⟩⟩) λfl s4 q=>?_
   ·obtain⟨aN,RX,RY⟩:=sb;exact ok.nx _ _ _ ⟨_,RX.Cr,gu RY⟩ q
   ·cases fl with
    |next =>
     obtain⟨σ4,H4,I4,q4⟩:=q;exact DE (X:=X) (I4.IS I1.ok) hN hj hl λs5 I5=>⟨_,H4,I5,q4⟩
    |brk=>obtain⟨_,_,_,z⟩:=q;exact z.elim
    |cont=>obtain⟨_,_,_,z⟩:=q;exact z.elim
    |ret u=>obtain⟨_,_,_,_,_,z⟩:=q;exact z.elim
  ·cases fl with
   |next=>exact Xw q
   |ret v=>exact q
   |brk=>exact q
   |cont=>exact q⟩
variable {e:Expr}{φ:aZ}{p:Bool}{T:Str}{pp pT:Pos}{cA:Addr}
structure Xk (K:Frag)(cl:Addr)(c:U5)(b:Bool):Prop where
 xc:EX.XC K cl
 is:kitOne K (.ref cl) c=some b
def FI (K:Frag)(c:U5)(φ:aZ):aZ:=λβ R=>φ β λd _ β1=>∃cl b,d=.exc cl/\Xk K cl c b/\R (.bl b) .own β1
inductive CV:V->U5->Prop where
 |own (a:Addr):CV (.ref a) (.ref a)
 |ty (n:String):CV (.ty n) (.type n)
theorem CV.rel {v:V}{c u:U5}(h:CV v c)(r:RelV v u):u=c:=by
 cases h with
 |own a=>exact r
 |ty n=>exact r
theorem BA {c:U5} {vc:V} (hc:CV vc c):fF X (.builtin "isinstance") (λxs H Q=>∃a cl b,xs=[.ref a,vc]/\H a=some (j0 cl a)/\Xk X.K cl c b/\Q (.bl b) H):=by
 intro pins s σ H xs us Q I r h;obtain⟨a,cl,b,rfl,ha,z,q⟩:=h;obtain⟨u1,u2,rfl,r1,r2⟩:∃u1 u2,us=[u1,u2]/\RelV (.ref a) u1/\RelV vc u2:=by
  cases r with
  |cons r1 r =>
   cases r with
   |cons r2 r=>cases r;exact⟨_,_,rfl,r1,r2⟩
 cases r1;obtain⟨ex,_,_⟩:=I.bt a _ ha;have e2:=hc.rel r2;subst e2;exact kia_one (EX.sg z.xc) I.yA ex z.is (λz=>by cases z) λtk=>⟨.bl b,H,I.tok _,rfl,q⟩
theorem Bd {P:U_}{w:Vl}{W:Addr->Prop}{H:Hp}{cl:Addr}{v:V}(h:aA P w W H (.exc cl) v):∃a,v=.ref a/\H a=some (j0 cl a):=by
 obtain⟨a,rfl,⟨h1,_⟩,_⟩:=h;exact⟨a,rfl,h1⟩
theorem zG {c:U5} {vc:V} {ce:Expr} (hm:X.mg "isinstance" = none) (he:PQ X C p e φ) (hc:CV vc c) (Tq:PE X ce (tC vc)) (hg:Gl X "isinstance" := by rfl)
  (gk:Vd [e,ce] X.env=(false,eval e X.env)::Vd [ce] X.env:=by rfl) (uI:Vd [ce] X.env=(false,eval ce X.env)::Vd [] X.env:=by rfl) (hpl:(Wt pos (Vd [ce] X.env)).any (·.1)=false:=by rfl) :
  PQ X C p (.Call (.Name "isinstance" pp) [e,ce] [] pos) (FI X.K c φ) :=
 ⟨λβ R R' k h=>he.mono β _ _ (λd kd β1 K4=> by obtain⟨cl,b,ed,z,q⟩ := K4;exact⟨cl,b,ed,z,k _ _ _ q⟩) h,
  (gD (BA hc) hg hm BD (ba he.pe (ba Tq cZ uI) gk) (by decide) (by decide) (he:=gk) (hpl:=hpl)).pre λσ H Q ⟨β,own,s,h⟩=>tQ.of he s h λd kd β1 v H1 aB hq o1 r1=>by
  obtain⟨cl,b,ed,z,q⟩:=hq;subst ed;obtain⟨a,rfl,ha⟩:=Bd r1.rep;exact⟨a,cl,b,rfl,ha,z,q _ H1 aB o1 v7⟩⟩
theorem pI (hm:X.mg "isinstance" = none) (he:PQ X C p e φ) (hT:X.mg T=some (.ref cA)) (hg:Gl X "isinstance" := by rfl) (LD:Gl X T:=by rfl) (LM:(T==("__debug__" : Str))=false:=by decide)
  (gk:Vd [e,.Name T pT] X.env=(false,eval e X.env)::Vd [.Name T pT] X.env:=by rfl) (uI:Vd [.Name T pT] X.env=(false,eval (.Name T pT) X.env)::Vd [] X.env:=by rfl) (hpl:(Wt pos (Vd [.Name T pT] X.env)).any (·.1)=false:=by rfl) :
  PQ X C p (.Call (.Name "isinstance" pp) [e,.Name T pT] [] pos) (FI X.K (.ref cA) φ):=zG hm he (.own cA) (vM LD hT rfl LM) hg gk uI hpl
theorem FY {n:String} (hm:X.mg "isinstance" = none) (he:PQ X C p e φ) (hT:X.mg T=none) (bT:V3 T=some (.type n)) (hg:Gl X "isinstance" := by rfl) (LD:Gl X T:=by rfl) (S6:T≠"__name__" := by decide) (LM:(T==("__debug__" : Str))=false:=by decide)
  (gk:Vd [e,.Name T pT] X.env=(false,eval e X.env)::Vd [.Name T pT] X.env:=by rfl) (uI:Vd [.Name T pT] X.env=(false,eval (.Name T pT) X.env)::Vd [] X.env:=by rfl) (hpl:(Wt pos (Vd [.Name T pT] X.env)).any (·.1)=false:=by rfl) :
  PQ X C p (.Call (.Name "isinstance" pp) [e,.Name T pT] [] pos) (FI X.K (.type n) φ):=zG hm he (.ty n) (CO LD hT bT rfl S6 LM) hg gk uI hpl
structure Nf (X:Cx)(es:List Expr)(vs:List V)(cs:List U5):Prop where
 pa:PA X es λ_ H Q=>Q vs H
 rel:Paired CV vs cs
theorem CS:Nf X [] [] []:=⟨cZ.pre λσ H Q h=>h,.nil⟩
theorem eW {es:List Expr}{vs:List V}{cs:List U5}(h:Nf X es vs cs)(hT:X.mg T=some (.ref cA))(LD:Gl X T:=by rfl)(LM:(T==("__debug__" : Str))=false:=by decide)(gk:Vd (.Name T pT::es) X.env=(false,eval (.Name T pT) X.env)::Vd es X.env:=by rfl):
  Nf X (.Name T pT::es) (.ref cA::vs) (.ref cA::cs):=⟨(ba (vM (v:=.ref cA) (pos:=pT) LD hT rfl LM) h.pa gk).pre λσ H Q h=>h,.cons (.own cA) h.rel⟩
theorem wI:∀{vs:List V} {cs us:List U5},Paired CV vs cs->Vals vs us->us=cs
 |_,_,_,.nil,.nil=>rfl
 |_,_,_,.cons h t,.cons r t'=>by rw[h.rel r,wI t t']
structure Qc (K:Frag)(cl:Addr)(cs:List U5)(b:Bool):Prop where
 xc:EX.XC K cl
 is:kitAny K (.ref cl) cs=some b
theorem yn {cs:List U5} {vs:List V} (hc:Paired CV vs cs):fF X (.builtin "isinstance") (λxs H Q=>∃a t cl b,xs=[.ref a,.ref t]/\H a=some (j0 cl a)/\H t=some (.tup vs)/\Qc X.K cl cs b/\Q (.bl b) H):=by
 intro pins s σ H xs us Q I r h;obtain⟨a,t,cl,b,rfl,ha,ht,z,q⟩:=h;obtain⟨u1,u2,rfl,r1,r2⟩:∃u1 u2,us=[u1,u2]/\RelV (.ref a) u1/\RelV (.ref t) u2:=by
  cases r with
  |cons r1 r =>
   cases r with
   |cons r2 r=>cases r;exact⟨_,_,rfl,r1,r2⟩
 cases r1;cases r2;obtain⟨ex,_,_⟩:=I.bt a _ ha;obtain⟨_,its,rv,⟨⟨oc,dd,od,sl⟩,ho,IB,n,hd⟩⟩:=I.bt t _ ht;have e2:=wI hc rv;subst e2;dsimp only at IB hd;subst IB hd;exact kia_tup (EX.sg z.xc) I.yA ex ho z.is (λz=>by cases z) λtk=>⟨.bl b,H,I.tok _,rfl,q⟩
def Ju (K:Frag)(cs:List U5)(φ:aZ):aZ:=λβ R=>φ β λd _ β1=>∃cl b,d=.exc cl/\Qc K cl cs b/\R (.bl b) .own β1
theorem CG {es:List Expr} {vs:List V} {cs:List U5} {tk} (hm:X.mg "isinstance" = none) (he:PQ X C p e φ) (hc:Nf X es vs cs) (hz:vs.length<=Vh) (hg:Gl X "isinstance" := by rfl)
  (gk:Vd [e,.Tuple es tk pT] X.env=(false,eval e X.env)::Vd [.Tuple es tk pT] X.env:=by rfl) (uI:Vd [.Tuple es tk pT] X.env=(false,eval (.Tuple es tk pT) X.env)::Vd [] X.env:=by rfl) (hpl:(Wt pos (Vd [.Tuple es tk pT] X.env)).any (·.1)=false:=by rfl) :
  PQ X C p (.Call (.Name "isinstance" pp) [e,.Tuple es tk pT] [] pos) (Ju X.K cs φ) :=
 ⟨λβ R R' k h=>he.mono β _ _ (λd kd β1 K3=> by obtain⟨cl,b,ed,z,q⟩ := K3;exact⟨cl,b,ed,z,k _ _ _ q⟩) h,
  (gD (yn hc.rel) hg hm BD (ba he.pe (ba (zK hc.pa) cZ uI) gk) (by decide) (by decide) (he:=gk) (hpl:=hpl)).pre λσ H Q ⟨β,own,s,h⟩=>tQ.of he s h λd kd β1 v H1 aB hq o1 r1=>by
  obtain⟨cl,b,ed,z,q⟩:=hq;subst ed;obtain⟨a,rfl,ha⟩:=Bd r1.rep;refine⟨hz,λt ht=>⟨a,t,cl,b,rfl,?_,az,z,q _ _ aB (o1.same (au.new ht)) v7⟩⟩;rw[ar (λz=>by rw[z,ht]at ha;cases ha)]
  exact ha⟩
end
def Nw:List Str:=["NoRow","NoTie","NoStretch","NoWeights","NoNumber","NoSet","NoGap","NoPlace","NoShape","NoText","NoForm","NoneYet"]
structure XA (K:Frag)(mg:Str->Option U5)(cA:Addr)(c:Nat->Addr):Prop where
 Qa:mg "ArchError" = some (.ref cA)
 nm:∀i x,Nw[i]?=some x->mg x=some (.ref (c i))
 exc:∀i,i<12->excIn K (c i) M_ "ValueError.__new__" = true
 xc:∀i,i<12->EX.XC K (c i)
 is:∀i,i<12->∀j,j<12->kitOne K (.ref (c i)) (.ref (c j))=some (decide (i=j))
 val:∀i,i<12->kitOne K (.ref (c i)) (.type "ValueError")=some true
 TR:∀i,i<12->exmOne K (.ref (c i)) (.ref cA)=some true
def Nz (K:Frag)(cA:Addr)(c:Nat->Addr):Bool:=(VD 12).all λi=>excIn K (c i) M_ "ValueError.__new__" && (mroIn K (c i) (.type "object")==some true&&(mroIn K (c i) (.type "BaseException")==some true &&
 (findIn K (.ref (c i)) "__getattribute__" == some (some (.builtin "BaseException.__getattribute__"))&&(findIn K (.ref (c i)) "__getattr__" == some none&&(findIn K (.ref (c i)) "__class__" == some (some (.builtin "object.__class__")) &&
 (kitOne K (.ref (c i)) (.type "ValueError")==some true&&(exmOne K (.ref (c i)) (.ref cA)==some true&&(VD 12).all λj=>kitOne K (.ref (c i)) (.ref (c j))==some (decide (i=j)))))))))
theorem IM {K:Frag} {mg:Str->Option U5} {cA:Addr} {c:Nat->Addr} (h:Nz K cA c=true) (a:mg "ArchError" = some (.ref cA)) (n:∀i x,Nw[i]?=some x->mg x=some (.ref (c i))):XA K mg cA c:=by
 have q:∀i,i<12->_:=λi hi=>Wi.mp h i (V4.mpr hi);simp only[VO,beq_iff_eq,Wi,V4]at q;exact⟨a,n,λi hi=>(q i hi).1,λi hi=>⟨(q i hi).2.1,(q i hi).2.2.1,(q i hi).2.2.2.1,(q i hi).2.2.2.2.1,(q i hi).2.2.2.2.2.1⟩,λi hi j hj=>(q i hi).2.2.2.2.2.2.2.2 j hj,λi hi=>(q i hi).2.2.2.2.2.2.1,λi hi=>(q i hi).2.2.2.2.2.2.2.1⟩
section
variable {K:Frag}{mg:Str->Option U5}{cA:Addr}{c:Nat->Addr}
theorem XA.x (Z:XA K mg cA c)(i:Nat){x:Str}(h:Nw[i]?=some x:=by rfl)(hi:i<12:=by decide):Xc K mg x (c i):=⟨Z.nm i x h,Z.exc i hi⟩
theorem XA.k (Z:XA K mg cA c){i j:Nat}(hi:i<12)(hj:j<12):Xk K (c i) (.ref (c j)) (decide (i=j)):=⟨Z.xc i hi,Z.is i hi j hj⟩
theorem XA.kv (Z:XA K mg cA c) {i:Nat} (hi:i<12):Xk K (c i) (.type "ValueError") true:=⟨Z.xc i hi,Z.val i hi⟩
theorem XA.any (Z:XA K mg cA c){i:Nat}(hi:i<12):∀(js:List Nat),(∀j∈js,j<12)->kitAny K (.ref (c i)) (js.map λj=>.ref (c j))=some (js.any λj=>decide (i=j))
 |[],_=>rfl
 |j::js,h=>by
  show (match kitOne K (.ref (c i)) (.ref (c j))with|some true=>some true|some false=>kitAny K (.ref (c i)) (js.map λj=>.ref (c j))|none=>none)=_
  rw[Z.is i hi j (h j Vw),YR]
  by_cases e:i=j
  ·rw[decide_eq_true e];rfl
  ·rw[decide_eq_false e];exact XA.any Z hi js λj hj=>h j (Vm _ hj)
theorem XA.ks (Z:XA K mg cA c){i:Nat}(hi:i<12)(js:List Nat)(h:∀j∈js,j<12:=by decide):Qc K (c i) (js.map λj=>.ref (c j)) (js.any λj=>decide (i=j)):=⟨Z.xc i hi,Z.any hi js h⟩
end
theorem HX:V3 "ValueError" = some (.type "ValueError"):=by decide +kernel
end L2.Q
namespace ip
open PySem L2 L2.Q
def fT (c:Nat->Addr):B9:=λds R T=>∃(n:Int) (rows ts:List (List Int)),ds=[.tup [.int n,.lst (rows.map kD)],.lst (ts.map kD)]/\ts.length<=1000/\Pairs ts/\(¬ Good rows ts->T (c 5))/\(Good rows ts->R .cO)
theorem fT.mono {c:Nat->Addr}:o3 (fT c):=λds R R' T T' k l ⟨n,rows,ts,e,h1,h2,h,q⟩=>⟨n,rows,ts,e,h1,h2,λz=>l _ (h z),λz=>k _ (q z)⟩
section
variable {P:U_}{w:Vl}{K:PySem.W.Frag}{mg:Str->Option U5}{base:Heap}{cA:Addr}{c:Nat->Addr}
theorem b6:aI ["one","other","a","b","c","d"] ["one","other"] (ao dI):=⟨rfl,rfl,rfl,by decide +kernel,rfl,by decide +kernel,by decide +kernel⟩
theorem ng {mP eK} (dX:D9 K mg mP eK):aD P w K mg base bz 1 mP eK ["one","other"] (cB P w true gK):=by
 refine nh dX.F b6 (λds R K2=> by obtain⟨t,u,e,_⟩ := K2;subst e;rfl) λbQ A outer s H E hr=>⟨_,(ai (pM (ae (i:=0)) (c9 (n:=2) rfl (aR (aw (i:=2) b6.nd) (aR (aw (i:=3) b6.nd) b_))))
    (ai (pM (ae (i:=1)) (c9 (n:=2) rfl (aR (aw (i:=4) b6.nd) (aR (aw (i:=5) b6.nd) b_))))
    (aj (aM (zF (i5 (ae (i:=2)) (cN bW (ae (i:=4)) (cN bW (ae (i:=3)) (i4 bW (ae (i:=5)))))) (uq (i5 (ae (i:=4)) (cN bW (ae (i:=2)) (cN bW (ae (i:=5)) (i4 bW (ae (i:=3)))))))))))),λds R h=>?_⟩
 obtain⟨t,u,rfl,⟨a,b,rfl⟩,⟨c,d,rfl⟩,q⟩:=h;refine⟨_,rfl,_,rfl,rfl,_,_,rfl,_,_,rfl,rfl,?_⟩;refine⟨_,rfl,_,rfl,rfl,_,_,rfl,_,_,rfl,rfl,?_⟩;refine Bx (a:=a) (b:=c) (c:=b) (d:=d) rfl rfl rfl rfl ⟨_,rfl,Iu (λh=>⟨trivial,?_⟩) (λh=>Bx (a:=c) (b:=a) (c:=d) (d:=b) rfl rfl rfl rfl ⟨trivial,?_⟩)⟩
 ·have:bP [a,b] [c,d]=true:=by show (_ || _)=true;rw[h];rfl
  rw[<- this];exact q
 ·have:bP [a,b] [c,d]=(decide (c<a)&&(decide (a<d)&&decide (d<b))):=by show (_ || _)=_;rw[h];rfl
  rw[<- this];exact q
theorem jD:aI ["one","other"] ["one","other"] (ao ck):=⟨rfl,rfl,rfl,by decide +kernel,rfl,by decide +kernel,by decide +kernel⟩
theorem z4 {mQ eM} (dS:BV K mg mQ eM):aD P w K mg base bz 1 mQ eM ["one","other"] (cB P w true mv):=by
 refine nh dS.F jD (λds R K1=> by obtain⟨t,u,e,_⟩ := K1;subst e;rfl) λbQ A outer s H E hr=>⟨_,(aj (aM (zF (pJ ag (bw.m (pO hr.gQ)) (aL ag a6 (ae (i:=0)) ah) (ae (i:=1))) (uq (pJ ag (bw.m (pO hr.gQ)) (aL ag a6 (ae (i:=0)) ah) (ae (i:=1))))))),λds R h=>?_⟩
 obtain⟨t,u,rfl,⟨a,b,rfl⟩,q⟩:=h;refine⟨_,rfl,trivial,_,rfl,trivial,_,rfl,_,qj a u,_,rfl,me (λh=>⟨trivial,?_⟩) (λh=>⟨_,rfl,trivial,_,rfl,trivial,_,rfl,_,qj b u,trivial,?_⟩)⟩
 ·simpa[bH,h] using q
 ·simpa[bH,h] using q
theorem gw:aI ["row","ties","k","j"] ["row","ties","k"] (ao fK):=⟨rfl,rfl,rfl,by decide +kernel,rfl,by decide +kernel,by decide +kernel⟩
theorem z9 {oF fz} (dF:Ca K mg oF fz) {mQ eM} (dS:BV K mg mQ eM) {mP eK} (dX:D9 K mg mP eK) (B:Bs mg):aD P w K mg base bz 2 oF fz ["row","ties","k"] (cB P w true mB):=by
 have GS:aD P w K mg base bz 1 _ _ _ (cB P w true mv):=z4 dS;have GX:aD P w K mg base bz 1 _ _ _ (cB P w true gK):=ng dX;refine nh dF.F gw (λds R K0=> by obtain⟨n,rows,ts,k,e,_⟩ := K0;subst e;rfl) λbQ A outer s H E hr=>⟨_,(dM (bG (aH ag (bw.m (nV hr.gQ)) (aL ag a6 (ae (i:=1)) (ae (i:=2))) (aL ag a6 (ae (i:=0)) ah)) (aj (aM (bh (aa cw (aa (ae (i:=2)) af))))) aY)
    (dM (bG (mL.t (dJ (aH ag (bw.m pP) (ae (i:=2)) ah) (cM (aH ag (bw.m (vR hr.o_)) (aL ag a6 (ae (i:=1)) (ae (i:=2))) (aL ag a6 (ae (i:=1)) (aG ag (bw.m cm) (ae (i:=2)) ah)))))) (aj (aM (bh (aa cw (aa (ae (i:=2)) af))))) aY)
    (ai (bU VP rfl (bK B.range (aa (ae (i:=2)) af)) (aw (i:=3) gw.nd) (aj (bG (eV (aF mv.mono GS (hr.mono (by decide)) dS.m dS.F.kp dS.b (aa (aL ag a6 (ae (i:=1)) (ae (i:=3))) (aa (aL ag a6 (ae (i:=1)) (ae (i:=2))) af)))) (aj (aM (bh (aa cw (aa (ae (i:=3)) (aa (ae (i:=2)) af)))))) aY)))
    (ai (bU VP rfl (bK B.range (aa (ae (i:=2)) af)) (aw (i:=3) gw.nd) (aj (bG (eV (aF gK.mono GX (hr.mono (by decide)) dX.m dX.F.kp dX.b (aa (aL ag a6 (ae (i:=1)) (ae (i:=3))) (aa (aL ag a6 (ae (i:=1)) (ae (i:=2))) af)))) (aj (aM (bh (aa cw (aa (ae (i:=3)) (aa (ae (i:=2)) af)))))) aY)))
    (aj (aM dk)))))),λds R h=>?_⟩
 obtain⟨n,rows,ts,k,rfl,hk,hp,hb,q⟩:=h;obtain⟨t,et⟩:∃t,ts[k]?=some t:=⟨ts[k],Vf hk⟩;have pt:Pair t:=hp t (VB et);rw[fC et]at q;unfold jn at q;refine⟨λβ=>β=[some (.val false (.tup [.int n,.lst (rows.map kD)])),some (.val false (.lst (ts.map kD))),some (.val false (.int (k:Int))),none]/\t∈rows,?_,?_⟩
 ·refine⟨_,rfl,trivial,_,rfl,_,iL et,trivial,_,rfl,trivial,_,rfl,.inr ⟨_,mG t rows,_,rfl,SO (λh=>?_) (λh=>⟨rfl,h⟩)⟩⟩;exact⟨trivial,_,rfl,trivial,h9,trivial,by rw[if_neg h]at q;exact q⟩
 ·rintro β ⟨rfl,ht⟩;rw[if_pos ht]at q;refine⟨λβ=>β=[some (.val false (.tup [.int n,.lst (rows.map kD)])),some (.val false (.lst (ts.map kD))),some (.val false (.int (k:Int))),none]/\(decide (0<k)&&qG ts (λu=>!HT.lexLt u t) (k-1))=false,?_,?_⟩
  ·refine⟨_,rfl,trivial,_,rfl,_,rfl,me (λxV=>?_) (λxV=>de rfl ⟨rfl,?_⟩)⟩
   ·have Lz:0<k:=by lia
    obtain⟨u,eu⟩:∃u,ts[k-1]?=some u:=⟨ts[k-1],Vf (by lia)⟩
    have ei:qi (.lst (ts.map kD)) (.int ((k:Int)-1))=some (kD u):=by
     rw[show (k:Int)-1=((k-1:Nat):Int) by lia];exact iL eu
    have ea:qG ts (λu=>!HT.lexLt u t) (k-1)=!HT.lexLt u t:=by unfold qG;rw[eu]
    refine⟨_,rfl,trivial,_,rfl,_,iL et,trivial,_,rfl,trivial,_,rfl,trivial,_,rfl,_,ei,_,wG t u,_,rfl,Iu (λh=>?_) (λh=>⟨rfl,?_⟩)⟩
    ·exact⟨trivial,_,rfl,trivial,h9,trivial,by rw[if_pos (by rw[ea,h];simp[Lz])]at q;exact q⟩
    ·rw[ea,h];simp
   ·have:¬ 0<k:=by lia
    simp[this]
  ·rintro β ⟨rfl,ho⟩;rw[if_neg (by rw[ho];simp)]at q
   refine⟨_,rfl,trivial,k,rfl,by lia,by lia,trivial,?_⟩
   refine⟨λi β=>(∃x3,β=[some (.val false (.tup [.int n,.lst (rows.map kD)])),some (.val false (.lst (ts.map kD))),some (.val false (.int (k:Int))),x3])/\∀j<i,qG ts (λu=>bH u t) j=false,⟨⟨_,rfl⟩,λj hj=>by lia⟩,?_,?_⟩
   ·rintro i d β hd ⟨⟨x3,rfl⟩,sD⟩;obtain⟨hi,rfl⟩:=b7 hd;rw[V9]at hi;obtain⟨u,eu⟩:∃u,ts[i]?=some u:=⟨ts[i],Vf (by lia)⟩
    have ei:qi (.lst (ts.map kD)) (.int (0+(i:Int)))=some (kD u):=by
     rw[show 0+(i:Int)=(i:Int) by lia];exact iL eu
    have ea:qG ts (λu=>bH u t) i=bH u t:=by unfold qG;rw[eu]
    refine⟨_,rfl,trivial,_,rfl,_,ei,trivial,_,rfl,trivial,_,rfl,_,iL et,trivial,u,t,rfl,hp u (VB eu),_,rfl,Iu (λh=>?_) (λh=>⟨⟨_,rfl⟩,λj hj=>?_⟩)⟩
    ·rw[iG hi (by rw[ea];exact h) sD]at q
     exact⟨trivial,_,rfl,trivial,_,rfl,trivial,Jg,trivial,by rw[show (0+(i:Int))=(i:Int) by lia];exact q⟩
    ·by_cases EH:j<i
     ·exact sD j EH
     ·rw[show j=i by lia,ea];exact h
   ·rintro β ⟨⟨x3,rfl⟩,sD⟩;rw[bM,V9]at sD;rw[find_none sD]at q;refine⟨_,rfl,trivial,k,rfl,by lia,by lia,trivial,?_⟩
    refine⟨λi β=>(∃x3,β=[some (.val false (.tup [.int n,.lst (rows.map kD)])),some (.val false (.lst (ts.map kD))),some (.val false (.int (k:Int))),x3])/\∀j<i,qG ts (λu=>bP u t) j=false,⟨⟨_,rfl⟩,λj hj=>by lia⟩,?_,?_⟩
    ·rintro i d β hd ⟨⟨x3,rfl⟩,sD⟩;obtain⟨hi,rfl⟩:=b7 hd;rw[V9]at hi;obtain⟨u,eu⟩:∃u,ts[i]?=some u:=⟨ts[i],Vf (by lia)⟩
     have ei:qi (.lst (ts.map kD)) (.int (0+(i:Int)))=some (kD u):=by
      rw[show 0+(i:Int)=(i:Int) by lia];exact iL eu
     have ea:qG ts (λu=>bP u t) i=bP u t:=by unfold qG;rw[eu]
     refine⟨_,rfl,trivial,_,rfl,_,ei,trivial,_,rfl,trivial,_,rfl,_,iL et,trivial,u,t,rfl,hp u (VB eu),pt,_,rfl,Iu (λh=>?_) (λh=>⟨⟨_,rfl⟩,λj hj=>?_⟩)⟩
     ·rw[iG hi (by rw[ea];exact h) sD]at q
      exact⟨trivial,_,rfl,trivial,_,rfl,trivial,Jg,trivial,by rw[show (0+(i:Int))=(i:Int) by lia];exact q⟩
     ·by_cases EH:j<i
      ·exact sD j EH
      ·rw[show j=i by lia,ea];exact h
    ·rintro β ⟨⟨x3,rfl⟩,sD⟩;rw[bM,V9]at sD;rw[find_none sD]at q;exact⟨trivial,q⟩
theorem d8:aI ["row","ties","k","fault"] ["row","ties"] (ao c8):=⟨rfl,rfl,rfl,by decide +kernel,rfl,by decide +kernel,by decide +kernel⟩
theorem z8 {qE gd} (dO:Ec K mg qE gd) {oF fz} (dF:Ca K mg oF fz) {mQ eM} (dS:BV K mg mQ eM) {mP eK} (dX:D9 K mg mP eK) (B:Bs mg):aD P w K mg base bz 3 qE gd ["row","ties"] (cB P w true mz):=by
 have GF:aD P w K mg base bz 2 _ _ _ (cB P w true mB):=z9 dF dS dX B;refine nh dO.F d8 (λds R KZ=> by obtain⟨n,rows,ts,e,_⟩ := KZ;subst e;rfl) λbQ A outer s H E hr=>⟨_,(ai (bU VP rfl (bK B.range (aa (bS ag (cY.m jW) B.len qr (aa (ae (i:=1)) af)) af)) (aw (i:=2) d8.nd) (ai (aJ (i:=3) (aF mB.mono GF (hr.mono (by decide)) dF.m dF.F.kp dF.b (aa (ae (i:=0)) (aa (ae (i:=1)) (aa (ae (i:=2)) af)))) d8.nd)
    (aj (bG (aH ag (bw.m lR) (ae (i:=3)) dk) (aj (aM (ae (i:=3)))) aY))))
    (aj (aM dk))),λds R h=>?_⟩
 obtain⟨n,rows,ts,rfl,hl,hp,q⟩:=h;refine⟨_,rfl,trivial,_,rfl,trivial,_,rfl,by rw[U9];lia,by rw[U9];lia,trivial,?_⟩
 rw[U9];refine⟨λi β=>(∃x2 x3,β=[some (.val false (.tup [.int n,.lst (rows.map kD)])),some (.val false (.lst (ts.map kD))),x2,x3])/\∀j<i,iI rows ts j=none,⟨⟨_,_,rfl⟩,λj hj=>by lia⟩,?_,?_⟩
 ·rintro i d β hd ⟨⟨x2,x3,rfl⟩,sD⟩;obtain⟨hi,rfl⟩:=b7 hd;rw[V9]at hi;refine⟨_,rfl,trivial,_,rfl,trivial,_,rfl,trivial,n,rows,ts,i,by rw[Int.zero_add],hi,hp,by lia,?_⟩
  cases hf:iI rows ts i with
  |none =>
   refine⟨_,rfl,trivial,_,rfl,_,rfl,de rfl ⟨⟨_,_,rfl⟩,λj hj=>?_⟩⟩
   by_cases EH:j<i
   ·exact sD j EH
   ·rw[show j=i by lia];exact hf
  |some x =>
   refine⟨_,rfl,trivial,_,rfl,_,rfl,jx rfl ⟨_,rfl,A7 (some x),?_⟩⟩;rw[<- sJ hi hf sD];exact q
 ·rintro β ⟨⟨x2,x3,rfl⟩,sD⟩;rw[bM,V9]at sD;refine⟨trivial,?_⟩;have:iF rows ts=none:=DH sD;rw[this]at q;exact q
theorem xh:aI ["row","ties"] ["row","ties"] (ao iY):=⟨rfl,rfl,rfl,by decide +kernel,rfl,by decide +kernel,by decide +kernel⟩
theorem z7 {tS hJ} (dE:E9 K mg tS hJ) {qE gd} (dO:Ec K mg qE gd) {oF fz} (dF:Ca K mg oF fz) {mQ eM} (dS:BV K mg mQ eM) {mP eK} (dX:D9 K mg mP eK) (B:Bs mg):aD P w K mg base bz 4 tS hJ ["row","ties"] (cB P w true my):=by
 have GO:aD P w K mg base bz 3 _ _ _ (cB P w true mz):=z8 dO dF dS dX B;refine nh dE.F xh (λds R KY=> by obtain⟨n,rows,ts,e,_⟩ := KY;subst e;rfl) λbQ A outer s H E hr=>⟨_,(aj (aM (pJ ag (bw.m pN) (aF mz.mono GO (hr.mono (by decide)) dO.m dO.F.kp dO.b (aa (ae (i:=0)) (aa (ae (i:=1)) af))) dk))),λds R h=>?_⟩
 obtain⟨n,rows,ts,rfl,hl,hp,q⟩:=h;refine⟨_,rfl,trivial,_,rfl,trivial,n,rows,ts,rfl,hl,hp,trivial,?_⟩;cases hf:iF rows ts with
 |none=>rw[hf]at q;exact⟨_,rfl,trivial,q⟩
 |some x=>rw[hf]at q;exact⟨_,rfl,trivial,q⟩
theorem pC:aI ["row","ties"] ["row","ties"] (ao dc):=⟨rfl,rfl,rfl,by decide +kernel,rfl,by decide +kernel,by decide +kernel⟩
theorem lT {iH eY} (kL:Ij K mg iH eY) {tS hJ} (dE:E9 K mg tS hJ) {qE gd} (dO:Ec K mg qE gd) {oF fz} (dF:Ca K mg oF fz) {mQ eM} (dS:BV K mg mQ eM) {mP eK} (dX:D9 K mg mP eK) (B:Bs mg) (ZA:XA K mg cA c):aD P w K mg base (nE P w) 5 iH eY ["row","ties"] (g8 P w true (fT c)):=by
 have GE:aD P w K mg base bz 4 _ _ _ (cB P w true my):=z7 dE dO dF dS dX B;refine z_ kL.F pC (λds R T KW=> by obtain⟨n,rows,ts,e,_⟩ := KW;subst e;rfl) λbQ A outer s H E hr=>?_
 have Z:=gn (P:=P) (w:=w) (K:=K) (mg:=mg) (base:=base) (N:=["row","ties"]) (qual:="check_set") (scope:=ao dc) (f:=iH) (cd:=bQ) (A:=A) (outer:=outer) (s:=s) (H:=H) (E:=E);refine⟨_,(aj (bG (fM (eV (aF my.mono GE (hr.mono (by decide)) dE.m dE.F.kp dE.b (aa (ae (i:=0)) (aa (ae (i:=1)) af))))) (aj (rH Z rfl (XA.x ZA 5))) aY)),λds R h=>?_⟩
 obtain⟨n,rows,ts,rfl,hl,ht,hx,q⟩:=h;refine⟨_,rfl,trivial,_,rfl,trivial,n,rows,ts,rfl,by lia,ht,_,rfl,?_⟩
 by_cases hg:Good rows ts
 ·exact de (by rw[iE.mpr hg];rfl) (q hg)
 ·exact jx (by rw[decide_eq_false λz=>hg (iE.mp z)];rfl) (hx hg)
end
end ip
namespace L2.Q
open PySem PySem.Spec PyProof.Rows
section
variable {X:Cx}{C:Cfg}{p:Bool}{i:Nat}{x:Str}{e:Expr}{φ:aZ}{pos pos':Pos}{op:Zs}{f:Int->Int->Int}
theorem uu (ho:h8 X (Y_ op) (xn λi j=>.int (f i j)))(he:PQ X C.z p e φ)(hN:X.N.Nodup)(hi:X.N[i]?=some x:=by rfl)(hx:Loc X.env.scope x:=by first|exact .inl rfl|exact .inr rfl)
  (hf:X.fn x=true\/X.env.scope.names.lookup x=some .local:=by first|exact .inl rfl|exact .inr rfl|assumption) :
  PB X C (.AugAssign (.Name x pos') op e pos) (λE β=>∃y m,β[i]?=some (some (.val y (.int m)))/\φ β λd k β'=>∃n,d=.int n/\E.nx (β'.set i (some (.val true (.int (f m n)))))) :=
 ⟨λE E' β l KU=> by obtain⟨y,m,h,q⟩ := KU;exact⟨y,m,h,he.mono _ _ _ (λd k β' KS=> by obtain⟨n,h,q⟩ := KS;exact⟨n,h,l.nx _ q⟩) q⟩,(FT hN hi hx he.pe ho hf).pre λD σ H KR=> by
  obtain⟨Z,E,β,⟨own,s,n⟩,⟨y,m,hb,q⟩,ok⟩ := KR;obtain⟨v,h1,h2⟩:=s.IQ hb;cases (show v=V.int m from h2)
  exact⟨_,h1,tQ.of he s q λd k β' v H' aN KQ o r=> by
   obtain⟨z,e1,q⟩ := KQ;subst e1;cases (show v=V.int z from r.rep)
   exact⟨m,z,rfl,rfl,ok.nx _ _ _ ⟨_,o.sq.d6 (y:=true) (aA.aS (λa z=>z.elim id λz=>z.elim) (show aA X.prog X.w _ H' (.int (f m z)) (.int (f m z)) from rfl)),gu (n.trans o.sn)⟩ q⟩⟩⟩
end
end L2.Q
namespace ip
open PySem L2 L2.Q
section
variable {P:U_}{w:Vl}{K:PySem.W.Frag}{mg:Str->Option U5}{base:Heap}{cA:Addr}{c:Nat->Addr}
theorem bc:aI ["waiting","tie","a","b","at","low","high"] ["waiting","tie"] (ao bZ):=⟨rfl,rfl,rfl,by decide +kernel,rfl,by decide +kernel,by decide +kernel⟩
theorem vT {fA cF} (fE:B_ K mg fA cF) (B:qz mg):aD P w K mg base bz 1 fA cF ["waiting","tie"] (cB P w true yC):=by
 refine nh fE.F bc (λds R KP=> by obtain⟨ws,p,e,_⟩ := KP;subst e;rfl) λbQ A outer s H E hr=>⟨_,(ai (pM (ae (i:=1)) (c9 (n:=2) rfl (aR (aw (i:=2) bc.nd) (aR (aw (i:=3) bc.nd) b_))))
    (ai (bU VP rfl (vH (rC B.enumerate (rD (zr (i:=0)) vG))) (c9 (n:=2) rfl (aR (aw (i:=4) bc.nd) (aR (c9 (n:=2) rfl (aR (aw (i:=5) bc.nd) (aR (aw (i:=6) bc.nd) b_))) b_))) (aj (bG (mL.t (dJ (aH ag (bw.m uv) (ae (i:=5)) (ae (i:=2))) (cM (aH ag (bw.m bW) (ae (i:=3)) (ae (i:=6)))))) (aj (aM (aG aE ay (aO (aa (bh (aa (aG aE ay (ae (i:=2)) ah) (aa (ae (i:=3)) af))) (aa (bh (aa (aG aE ay (ae (i:=3)) ah) (aa (ae (i:=6)) af))) af))) (nQ (ae (i:=0)) (fm (aG aE ay (ae (i:=4)) ah)) fo)))) aY)))
    (aj (aM dk)))),λds R h=>?_⟩
 obtain⟨ws,p,rfl,hl,q⟩:=h;refine⟨_,rfl,_,rfl,rfl,_,_,rfl,_,_,rfl,rfl,?_⟩;refine⟨_,rfl,_,rfl,trivial,?_⟩;refine⟨λm β=>∃x4 x5 x6,β=[some (.val false (.lst (ws.map kU))),some (.val false (kU p)),some (.val true (.int (p.1:Int))),some (.val true (.int (p.2:Int))),x4,x5,x6]/\wb (ws.drop m) p=wb ws p,⟨_,_,_,rfl,rfl⟩,?_,?_⟩
 ·rintro m d β hd ⟨x4,x5,x6,rfl,hw⟩;obtain⟨b,hb,rfl⟩:=jT hd;rw[Vq]at hb;obtain⟨v,hv,rfl⟩:=Vr.mp hb;rw[Ce hv]at hw;refine⟨_,rfl,rfl,_,_,rfl,_,_,rfl,_,rfl,rfl,_,_,rfl,_,_,rfl,rfl,rfl,?_⟩;refine⟨_,rfl,trivial,_,rfl,_,rfl,_,rfl,me (λh1=>?_) λh1=>?_⟩
  ·refine⟨_,rfl,trivial,_,rfl,_,rfl,_,rfl,me (λh2=>?_) λh2=>?_⟩
   ·rw[if_pos ⟨by lia,by lia⟩]at hw
    rw[<- hw]at q;have hm:m<ws.length:=(Vc.mp hv).1;have ea:tj (.lst [.tup [.int ((p.1:Int)+1),.int (p.2:Int)],.tup [.int ((p.2:Int)+1),.int (v.2:Int)]]) (.lst (cutD (ws.map kU) (some ((m:Int)+1)) none))=some (QI (some ((p.1+1,p.2)::(p.2+1,v.2)::ws.drop (m+1)))):=by
     rw[show (m:Int)+1=((m+1:Nat):Int) by lia,yh]
     exact df (by rw[U9,WX];show 2+_<=_;lia)
    refine⟨_,rfl,trivial,_,rfl,trivial,_,rfl,trivial,h9,trivial,?_⟩;exact⟨_,rfl,trivial,_,rfl,trivial,_,rfl,trivial,h9,trivial,h9,trivial,_,rfl,_,rfl,trivial,_,rfl,_,rfl,_,rfl,.inr ⟨_,ea,.inl ⟨gJ _,trivial,q⟩⟩⟩
   ·rw[if_neg (by lia)]at hw
    exact⟨_,_,_,rfl,hw⟩
  ·rw[if_neg (by lia)]at hw
   exact⟨_,_,_,rfl,hw⟩
 ·rintro β ⟨x4,x5,x6,rfl,hw⟩;rw[jS,U9,Zd]at hw;rw[<- hw]at q;exact⟨trivial,q⟩
theorem bY:aI ["row","ties","waiting","tie"] ["row","ties"] (ao cj):=⟨rfl,rfl,rfl,by decide +kernel,rfl,by decide +kernel,by decide +kernel⟩
theorem Es {kA f9} (mT:IJ K mg kA f9) {fA cF} (fE:B_ K mg fA cF) (B:qz mg):aD P w K mg base bz 2 kA f9 ["row","ties"] (cB P w false EO):=by
 have E8:aD P w K mg base bz 1 _ _ _ (cB P w true yC):=vT fE B;refine nh mT.F bY (λds R KO=> by obtain⟨n,ps,ns,e,_⟩ := KO;subst e;rfl) λbQ A outer s H E hr=>⟨_,(ai (aJ (i:=2) (aO (aa (bh (aa ah (aa (aL ag a6 (ae (i:=0)) ah) af))) af)) bY.nd)
    (ai (bU VP rfl (bp (ae (i:=1))) (aw (i:=3) bY.nd) (aj (aJ (i:=2) (aF yC.mono E8 (hr.mono (by decide)) fE.m fE.F.kp fE.b (aa (ae (i:=2)) (aa (ae (i:=3)) af))) bY.nd)))
    (aj (aM (ae (i:=2)))))),λds R h=>?_⟩
 obtain⟨n,ps,ns,rfl,ok,hn,hs,q⟩:=h;refine⟨trivial,_,rfl,trivial,_,rfl,trivial,h9,trivial,mZ,?_⟩;refine⟨_,rfl,_,rfl,trivial,?_⟩;refine⟨λm β=>∃ws x3,β=[some (.val false (gj n ps)),some (.val false (nI ns)),some (.val true (.lst (ws.map kU))),x3]/\wa [(0,n)] (ns.take m)=some ws,⟨[(0,n)],_,rfl,rfl⟩,?_,?_⟩
 ·rintro m d β hd ⟨ws,x3,rfl,hw⟩;rw[Vq]at hd;obtain⟨p,hp,rfl⟩:=Vr.mp hd;obtain⟨l,hl,_⟩:=(hs.sub (Xd (m+1) ns)).wa ok;obtain⟨l0,Ph,Iv⟩:=(hs.sub (Xd m ns)).wa ok;cases hw.symm.trans Ph;have nu:=hl;rw[Wo,hp,tW,hw]at hl
  change (wb ws p).bind _=_ at hl
  cases eb:wb ws p with
  |none=>rw[eb]at hl;cases hl
  |some u =>
   rw[eb]at hl;cases hl;refine⟨_,rfl,trivial,_,rfl,trivial,ws,p,rfl,by have:=Iv.sf hn;lia,?_⟩
   rw[eb];exact⟨_,_,rfl,nu⟩
 ·rintro β ⟨ws,x3,rfl,hw⟩;rw[U9,Xo]at hw;rw[hw]at q;exact⟨_,rfl,trivial,q⟩
theorem pB:aI ["row","waiting"] ["row","waiting"] (ao eP):=⟨rfl,rfl,rfl,by decide +kernel,rfl,by decide +kernel,by decide +kernel⟩
theorem Et {kB f_} (mU:II K mg kB f_) {fA cF} (fE:B_ K mg fA cF) (B:qz mg):aD P w K mg base bz 2 kB f_ ["row","waiting"] (cB P w true ER):=by
 have E8:aD P w K mg base bz 1 _ _ _ (cB P w true yC):=vT fE B;refine nh mU.F pB (λds R KN=> by obtain⟨n,ps,ws,e,_⟩ := KN;subst e;rfl) λbQ A outer s H E hr=>⟨_,(aj (aM (J3 ["tie","waiting"] [none,some 1] (by rfl) (by decide:(["tie","waiting"]:List Str).Nodup) rfl (bp (aL ag a6 (ae (i:=0)) ah)) (λ_ _ _ _ _ _=>(aw (i:=0) (by decide:(["tie","waiting"]:List Str).Nodup))) (λ_ _ _ _ _ _=>(pf (aH ag (bw.m lR) (aF yC.mono E8 (hr.mono (by decide)) fE.m fE.F.kp fE.b (aa (ae (i:=1)) (aa (ae (i:=0)) af))) dk))) (λ_ _ _ _ _ _=>(ae (i:=0)))))),λds R h=>?_⟩
 obtain⟨n,ps,ws,rfl,ok,hl,q⟩:=h;refine⟨_,rfl,trivial,_,rfl,.inr ⟨_,rfl,trivial,?_⟩⟩;refine gF (λp:Nat×Nat=>(wb ws p).isSome) (λp=>kD (tI p)) trivial (du (Vy ok.sm (by decide))) (λp hp x0 o J ho j1 j2=>?_) ?_
 ·refine⟨_,rfl,trivial,_,rfl,trivial,ws,p,rfl,hl,?_⟩;cases eb:wb ws p with
  |none=>exact⟨trivial,_,rfl,_,rfl,de rfl (j2 (by rw[eb];rfl) _)⟩
  |some l=>exact⟨trivial,_,rfl,_,rfl,jx rfl ⟨_,rfl,rfl,ho,j1 (by rw[eb];rfl) _⟩⟩
 ·exact⟨trivial,q⟩
theorem kS {n:Nat}{ps:List (Nat×Nat)}:gj n ps=.tup [.int (n:Int),.lst ((ps.map tI).map kD)]:=by
 unfold gj nI;rw[Wr];rfl
theorem vt {ns:List (Nat×Nat)}:nI ns=.lst ((ns.map tI).map kD):=by
 unfold nI;rw[Wr];rfl
def mw (c:Nat->Addr)(g:List (Nat×Nat)->Nat->List (Nat×Nat)->D):B9:=λds R T=>∃(n:Nat) (ps:List (Nat×Nat)) (ts:List (List Int)),ds=[gj n ps,.lst (ts.map kD)]/\qv n ps/\n<=40/\ts.length<=1000/\Pairs ts/\(¬ Good (ps.map tI) ts->T (c 5))/\(Good (ps.map tI) ts->∀ns,ts=ns.map tI->jZ ps ns->R (g ps n ns))
theorem mw.mono {g:List (Nat×Nat)->Nat->List (Nat×Nat)->D}:o3 (mw c g):=λds R R' T T' k l ⟨n,ps,ts,e,h1,h2,h3,h4,h5,q⟩=>⟨n,ps,ts,e,h1,h2,h3,h4,λz=>l _ (h5 z),λz ns a b=>k _ (q z ns a b)⟩
def PK (ps:List (Nat×Nat))(n:Nat)(ns:List (Nat×Nat)):D:=.int (fZ ps ((wa [(0,n)] ns).getD []):Nat)
theorem iX:aI ["row","ties"] ["row","ties"] (ao bE):=⟨rfl,rfl,rfl,by decide +kernel,rfl,by decide +kernel,by decide +kernel⟩
theorem Gr {qc kl} (Br:Nr K mg qc kl) {iH eY} (kL:Ij K mg iH eY) {tS hJ} (dE:E9 K mg tS hJ) {qE gd} (dO:Ec K mg qE gd) {oF fz} (dF:Ca K mg oF fz) {mQ eM} (dS:BV K mg mQ eM) {mP eK} (dX:D9 K mg mP eK) {hV dz} (ik:D7 K mg hV dz) {gh cW} (kK:D3 K mg gh cW) {gg cV} (kJ:D2 K mg gg cV) {gf cU} (kG:D6 K mg gf cU) {eF bX} (fD:D5 K mg eF bX) {fB cG} (jV:D4 K mg fB cG) {kA f9} (mT:IJ K mg kA f9) {fA cF} (fE:B_ K mg fA cF) (B:qz mg) (ZA:XA K mg cA c):aD P w K mg base (nE P w) 6 qc kl ["row","ties"] (g8 P w true (mw c PK)):=by
 have MB:aD P w K mg base (nE P w) 5 _ _ _ (g8 P w true (fT c)):=lT kL dE dO dF dS dX B.toBs ZA;have Ih:aD P w K mg base bz 3 _ _ _ (cB P w true cR):=gZ ik kK kJ kG fD jV B;have Ig:aD P w K mg base bz 1 _ _ _ (cB P w true ij):=k7 fD;have Nj:aD P w K mg base bz 2 _ _ _ (cB P w false EO):=Es mT fE B;refine z_ Br.F iX (λds R T KL=> by obtain⟨n,ps,ts,e,_⟩ := KL;subst e;rfl) λbQ A outer s H E hr=>?_
 have Z:=gn (P:=P) (w:=w) (K:=K) (mg:=mg) (base:=base) (N:=["row","ties"]) (qual:="how_many_begin") (scope:=ao bE) (f:=qc) (cd:=bQ) (A:=A) (outer:=outer) (s:=s) (H:=H) (E:=E);refine⟨_,(ai (pL (lL Z fT.mono MB (hr.mono (by decide)) kL.m kL.F.kp kL.b (aa (ae (i:=0)) (aa (ae (i:=1)) af))))
    (lq.lU (aj (aM (aF ij.mono Ig (hr.mono (by decide)) fD.m fD.F.kp fD.b (aa (aF cR.mono Ih (hr.mono (by decide)) ik.m ik.F.kp ik.b (aa (ae (i:=0)) af)) (aa (aF EO.mono Nj (hr.mono (by decide)) mT.m mT.F.kp mT.b (aa (ae (i:=0)) (aa (ae (i:=1)) af))) af))))))),λds R h=>?_⟩
 obtain⟨n,ps,ts,rfl,ok,hn,hl,hp,hx,q⟩:=h;refine⟨_,rfl,trivial,_,rfl,trivial,n,ps.map tI,ts,by rw[kS],hl,hp,hx,λhg=>?_⟩
 obtain⟨ns,rfl,hs⟩:=ji ok hg;have q:=q hg ns rfl hs;obtain⟨l,ew,hw⟩:=hs.wa ok;unfold PK at q;rw[ew]at q;exact⟨_,rfl,trivial,n,ps,rfl,ok,hn,trivial,_,rfl,trivial,_,rfl,trivial,n,ps,ns,by rw[vt],ok,hn,hs,trivial,n,ps,_,_,by rw[ew];rfl,ok,hn,hw,λp _=>U8 _,trivial,q⟩
def M5 (ps:List (Nat×Nat))(n:Nat)(ns:List (Nat×Nat)):D:=.int (Il ps [(0,n)] ns:Nat)
theorem Cg {n:Nat}{ps ns ws:List (Nat×Nat)}{m:Nat}{p:Nat×Nat}(ok:qv n ps)(hs:jZ ps ns)(hp:ns[m]?=some p)(hw:wa [(0,n)] (ns.take m)=some ws):∃u,wb ws p=some u/\wa [(0,n)] (ns.take (m+1))=some u/\kO n 0 ws:=by
 obtain⟨l,hl,_⟩:=(hs.sub (Xd (m+1) ns)).wa ok;obtain⟨l0,Ph,Iv⟩:=(hs.sub (Xd m ns)).wa ok;cases hw.symm.trans Ph;have nu:=hl;rw[Wo,hp,tW,hw]at hl
 change (wb ws p).bind _=_ at hl
 cases eb:wb ws p with
 |none=>rw[eb]at hl;cases hl
 |some u=>rw[eb]at hl;cases hl;exact⟨_,rfl,nu,Iv⟩
theorem Fn {ps ws:List (Nat×Nat)}{p:Nat×Nat}(h:p∈Ee ps ws):p∈ps/\∃u,wb ws p=some u:=by
 obtain⟨h1,h2⟩:=WA.mp h;exact⟨h1,Option.isSome_iff_exists.mp h2⟩
theorem ph {ps ws:List (Nat×Nat)}:(Ee ps ws).length<=ps.length:=WL _ _
theorem bj:aI ["row","ties","counts","waiting","number","tie","passed"] ["row","ties"] (ao cK):=⟨rfl,rfl,rfl,by decide +kernel,rfl,by decide +kernel,by decide +kernel⟩
theorem Gi {p_ kg} (Bk:Nq K mg p_ kg) {iH eY} (kL:Ij K mg iH eY) {tS hJ} (dE:E9 K mg tS hJ) {qE gd} (dO:Ec K mg qE gd) {oF fz} (dF:Ca K mg oF fz) {mQ eM} (dS:BV K mg mQ eM) {mP eK} (dX:D9 K mg mP eK) {hV dz} (ik:D7 K mg hV dz) {gh cW} (kK:D3 K mg gh cW) {gg cV} (kJ:D2 K mg gg cV) {gf cU} (kG:D6 K mg gf cU) {eF bX} (fD:D5 K mg eF bX) {fB cG} (jV:D4 K mg fB cG) {kB f_} (mU:II K mg kB f_) {fA cF} (fE:B_ K mg fA cF) (B:qz mg) (ZA:XA K mg cA c):aD P w K mg base (nE P w) 6 p_ kg ["row","ties"] (g8 P w true (mw c M5)):=by
 have MB:aD P w K mg base (nE P w) 5 _ _ _ (g8 P w true (fT c)):=lT kL dE dO dF dS dX B.toBs ZA;have Ih:aD P w K mg base bz 3 _ _ _ (cB P w true cR):=gZ ik kK kJ kG fD jV B;have Ig:aD P w K mg base bz 1 _ _ _ (cB P w true ij):=k7 fD;have Nk:aD P w K mg base bz 2 _ _ _ (cB P w true ER):=Et mU fE B;have E8:aD P w K mg base bz 1 _ _ _ (cB P w true yC):=vT fE B;refine z_ Bk.F bj (λds R T KJ=> by obtain⟨n,ps,ts,e,_⟩ := KJ;subst e;rfl) λbQ A outer s H E hr=>?_
 have Z:=gn (P:=P) (w:=w) (K:=K) (mg:=mg) (base:=base) (N:=["row","ties","counts","waiting","number","tie","passed"]) (qual:="set_number") (scope:=ao cK) (f:=p_) (cd:=bQ) (A:=A) (outer:=outer) (s:=s) (H:=H) (E:=E);refine⟨_,(ai (pL (lL Z fT.mono MB (hr.mono (by decide)) kL.m kL.F.kp kL.b (aa (ae (i:=0)) (aa (ae (i:=1)) af))))
    (lq.lU (ai (aJ (i:=2) (aF cR.mono Ih (hr.mono (by decide)) ik.m ik.F.kp ik.b (aa (ae (i:=0)) af)) bj.nd)
    (ai (aJ (i:=3) (aO (aa (bh (aa ah (aa (aL ag a6 (ae (i:=0)) ah) af))) af)) bj.nd)
    (ai (aJ (i:=4) ah bj.nd)
    (ai (bU VP rfl (bp (ae (i:=1))) (aw (i:=5) bj.nd) (ai (Cv (i:=6) false ["other","tie"] [none,some 5] (by rfl) (by decide:(["other","tie"]:List Str).Nodup) rfl (λ_=>(bp (aF ER.mono Nk (hr.mono (by decide)) mU.m mU.F.kp mU.b (aa (ae (i:=0)) (aa (ae (i:=3)) af))))) (λ_ _ _ _ _ _=>(aw (i:=0) (by decide:(["other","tie"]:List Str).Nodup))) (λ_ _ _ _ _ _=>(pf (aH ag (bw.m (C0 hr.o_)) (ae (i:=0)) (ae (i:=1))))) (λ_ _ _ _ _ _=>(ae (i:=0))) bj.nd)
    (ai (uu (i:=4) Dq (aG aE ay ah (bS ag (cY.m (oR rfl)) B.sum BB (aa (J3 ["other","counts","waiting"] [none,some 2,some 3] (by rfl) (by decide:(["other","counts","waiting"]:List Str).Nodup) rfl (bp (ae (i:=6))) (λ_ _ _ _ _ _=>(aw (i:=0) (by decide:(["other","counts","waiting"]:List Str).Nodup))) (λ_ _ _ _ _ _=>gq) (λ_ _ _ _ _ _=>(aF ij.mono Ig (hr.mono (by decide)) fD.m fD.F.kp fD.b (aa (ae (i:=1)) (aa (aF yC.mono E8 (hr.mono (by decide)) fE.m fE.F.kp fE.b (aa (ae (i:=2)) (aa (ae (i:=0)) af))) af))))) af))) bj.nd)
    (aj (aJ (i:=3) (aF yC.mono E8 (hr.mono (by decide)) fE.m fE.F.kp fE.b (aa (ae (i:=3)) (aa (ae (i:=5)) af))) bj.nd)))))
    (aj (aM (ae (i:=4)))))))))),λds R h=>?_⟩
 obtain⟨n,ps,ts,rfl,ok,hn,hl,hp,hx,q⟩:=h;refine⟨_,rfl,trivial,_,rfl,trivial,n,ps.map tI,ts,by rw[kS],hl,hp,hx,λhg=>?_⟩
 obtain⟨ns,rfl,hs⟩:=ji ok hg;have q:=q hg ns rfl hs;refine⟨_,rfl,trivial,n,ps,rfl,ok,hn,trivial,_,rfl,trivial,_,rfl,trivial,h9,trivial,mZ,_,rfl,_,rfl,trivial,?_⟩;refine⟨λm β=>∃ws k x5 x6,β=[some (.val false (gj n ps)),some (.val false (.lst ((ns.map tI).map kD))),some (.val true (wu n (sT ps))),some (.val true (.lst (ws.map kU))),some (.val true (.int ((k:Nat):Int))),x5,x6]/\wa [(0,n)] (ns.take m)=some ws/\k+Il ps ws (ns.drop m)=Il ps [(0,n)] ns,⟨[(0,n)],0,_,_,rfl,rfl,XG _⟩,?_,?_⟩
 ·rintro m d β hd ⟨ws,k,x5,x6,rfl,hw,hk⟩;rw[Wr,Vq]at hd;obtain⟨p,hp,rfl⟩:=Vr.mp hd;obtain⟨u,eb,hu,Iv⟩:=Cg ok hs hp hw;have Tc:=Iv.sf hn;refine⟨_,rfl,trivial,_,rfl,trivial,n,ps,ws,rfl,ok,by lia,_,rfl,trivial,?_⟩
  refine gF (λo:Nat×Nat=>HT.lexLt (tI o) (tI p)) (λo=>kD (tI o)) trivial (du (Vy ph (Vy ok.sm (by decide)))) (λo ho x0 ou J Lr j1 j2=>?_) ?_
  ·refine⟨_,rfl,trivial,_,rfl,_,DQ _ _,_,rfl,?_⟩
   by_cases dU:HT.lexLt (tI o) (tI p)=true
   ·exact jx dU ⟨_,rfl,rfl,Lr,j1 dU _⟩
   ·exact de (Wx.mpr dU) (j2 (Wx.mpr dU) _)
  ·refine⟨_,_,rfl,trivial,_,rfl,_,rfl,trivial,?_⟩;refine gF (λ_=>true) (λo=>.int ((fZ ps ((wb ws o).getD []):Nat):Int)) trivial (du (Vy (WL _ _) (Vy ph (Vy ok.sm (by decide))))) (λo ho x0 ou J Lr j1 j2=>?_) ?_
   ·obtain⟨h1,h2⟩:=WA.mp ho;obtain⟨h3,v,ev⟩:=Fn h1;have j1:=j1 rfl;rw[ev]at j1;refine⟨_,rfl,trivial,_,rfl,trivial,_,rfl,trivial,ws,o,rfl,by lia,?_⟩
    rw[ev];exact⟨trivial,n,ps,_,v,rfl,ok,hn,vi (ok.lt o h3).1 Iv ev,λp _=>U8 _,trivial,Lr,j1 _⟩
   ·rw[eX];refine⟨trivial,_,sum_ints,_,rfl,_,rfl,?_⟩;have e:(k:Int)+(1+(((Ee ps ws).filter λo=>HT.lexLt (tI o) (tI p)).map λo=>((fZ ps ((wb ws o).getD []):Nat):Int)).sum)=((k+Ji ps ws p:Nat):Int):=by
     rw[lB];unfold Ji;lia
    refine⟨_,rfl,trivial,_,rfl,trivial,ws,p,rfl,by lia,?_⟩
    rw[eb];refine⟨u,_,_,_,by rw[e];rfl,hu,?_⟩
    obtain⟨hm,rfl⟩:=Vc.mp hp;rw[VY hm]at hk
    change k+(Ji ps ws ns[m]+Il ps ((wb ws ns[m]).getD []) _)=_ at hk
    rw[eb]at hk
    change k+(Ji ps ws ns[m]+Il ps u _)=_ at hk
    lia
 ·rintro β ⟨ws,k,x5,x6,rfl,hw,hk⟩;rw[U9,U9,Zd]at hk;rw[show M5 ps n ns=.int ((k:Nat):Int) by unfold M5;rw[<- hk];rfl]at q
  exact⟨_,rfl,trivial,q⟩
end
section
variable {P:U_}{w:Vl}{K:PySem.W.Frag}{mg:Str->Option U5}{base:Heap}{cA:Addr}{c:Nat->Addr}
def jR (c:Nat->Addr):B9:=λds R T=>∃(n:Nat) (ps:List (Nat×Nat)) (k:Int),ds=[gj n ps,.int k]/\qv n ps/\n<=40/\(¬ (0<=k/\k<sT ps n 0)->T (c 4))/\(0<=k->k<sT ps n 0->R (nI (sat ps n k)))
theorem jR.mono:o3 (jR c):=λds R R' T T' k l ⟨n,ps,j,e,h1,h2,h3,q⟩=>⟨n,ps,j,e,h1,h2,λz=>l _ (h3 z),λa b=>k _ (q a b)⟩
def zb (ps:List (Nat×Nat))(n:Nat)(k:Int)(m:Nat):List (Nat×Nat)×List (Nat×Nat)×Int:=(ps.take m).foldl (rg ps) ([(0,n)],[],k)
theorem qS {fs:List (Nat×Nat)}{p:Nat×Nat}:nI (fs++[p])=.lst (fs.map (λp=>kD (tI p))++[kD (tI p)]):=by
 unfold nI;rw[V1];rfl
theorem QU {p:Nat×Nat}{lt:List (Nat×Nat)}:qi (nI (p::lt)) (.int 0)=some (kD (tI p)):=l8 (i:=0) rfl rfl
theorem vv {bs:List (Nat×Nat)}{p:Nat×Nat}(h:bs.length<=1000):tj (nI bs) (.lst [kD (tI p)])=some (.lst ((bs++[p]).map kU)):=by
 rw[V1];exact df (by rw[U9];show _+1<=_;lia)
theorem rM {ps bs lt:List (Nat×Nat)}{n:Nat}{p:Nat×Nat}:Dd ps n bs.reverse (p::lt)=some (bs++[p]):=by
 unfold Dd;rw[YF]
theorem Dc {ps b:List (Nat×Nat)}{n:Nat}{z:Nat×Nat}:Dd ps n (b++[z]).reverse []=Dd ps n b.reverse ((Ee ps ((wa [(0,n)] b).getD [])).filter λo=>HT.lexLt (tI z) (tI o)):=by
 rw[YK];show Dd ps n (z::b.reverse) []=_
 conv=>lhs;unfold Dd
 rw[YF]
theorem r_:∀t u:List Int,yv.dw t u=HT.lexLt u t
 |[],[]=>rfl
 |[],_::_=>rfl
 |_::_,[]=>rfl
 |x::xs,y::ys=>by
  rw[yv.sd,HT.c3,r_ xs ys]
  by_cases h:x=y
  ·rw[if_pos h,if_pos h.symm]
  ·rw[if_neg h,if_neg λe=>h e.symm]
theorem DT (t u:List Int):Mb (kD t) (kD u)=some (.bl (HT.lexLt u t)):=by
 show (match bA (t.map D.int),bA (u.map D.int)with|some ns,some ms=>some (D.bl (yv.dw ns ms))|_,_=>none)=_
 rw[cE,cE];show some (D.bl (yv.dw t u))=_;rw[r_]
theorem xj {ps:List (Nat×Nat)}{n m:Nat}{k:Int}{p:Nat×Nat}(h:ps[m]?=some p):zb ps n k (m+1)=rg ps (zb ps n k m) p:=by
 unfold zb;rw[Wo,h,List.foldl_append];rfl
theorem bC:aI ["row","number","counts","waiting","found","left","tie","later","ways"] ["row","number"] (ao gx):=⟨rfl,rfl,rfl,by decide +kernel,rfl,by decide +kernel,by decide +kernel⟩
theorem nX {qa kh} (uV:Np K mg qa kh) {hV dz} (ik:D7 K mg hV dz) {gh cW} (kK:D3 K mg gh cW) {gg cV} (kJ:D2 K mg gg cV) {gf cU} (kG:D6 K mg gf cU) {eF bX} (fD:D5 K mg eF bX) {fB cG} (jV:D4 K mg fB cG) {fA cF} (fE:B_ K mg fA cF) (B:qz mg) (ZA:XA K mg cA c):aD P w K mg base (nE P w) 4 qa kh ["row","number"] (g8 P w true (jR c)):=by
 have Ih:aD P w K mg base bz 3 _ _ _ (cB P w true cR):=gZ ik kK kJ kG fD jV B;have Ig:aD P w K mg base bz 1 _ _ _ (cB P w true ij):=k7 fD;have E8:aD P w K mg base bz 1 _ _ _ (cB P w true yC):=vT fE B;refine z_ uV.F bC (λds R T KI=> by obtain⟨n,ps,k,e,_⟩ := KI;subst e;rfl) λbQ A outer s H E hr=>?_
 have Z:=gn (P:=P) (w:=w) (K:=K) (mg:=mg) (base:=base) (N:=["row","number","counts","waiting","found","left","tie","later","ways"]) (qual:="set_at") (scope:=ao gx) (f:=qa) (cd:=bQ) (A:=A) (outer:=outer) (s:=s) (H:=H) (E:=E);refine⟨_,(ai (aJ (i:=2) (aF cR.mono Ih (hr.mono (by decide)) ik.m ik.F.kp ik.b (aa (ae (i:=0)) af)) bC.nd)
    (ai (bG (fM (xp ah (cN uv (ae (i:=1)) (i4 bW (aL ag a6 (aL ag a6 (ae (i:=2)) ah) (aL ag a6 (ae (i:=0)) ah)))))) (aj (rH Z rfl (XA.x ZA 4))) aY)
    (lq.lU (ai (aJ (i:=3) (aO (aa (bh (aa ah (aa (aL ag a6 (ae (i:=0)) ah) af))) af)) bC.nd)
    (ai (kY (i:=4) (λ_=>(aO af)) bC.nd)
    (ai (aJ (i:=5) (ae (i:=1)) bC.nd)
    (ai (bU VP rfl (bp (aL ag a6 (ae (i:=0)) ah)) (aw (i:=6) bC.nd) (ai (aJ (i:=7) (aF yC.mono E8 (hr.mono (by decide)) fE.m fE.F.kp fE.b (aa (ae (i:=3)) (aa (ae (i:=6)) af))) bC.nd)
    (aj (bG (mL.t (dJ (aH ag (bw.m pP) (ae (i:=5)) ah) (cM (aH ag (bw.m lR) (ae (i:=7)) dk)))) (ai (aJ (i:=8) (aF ij.mono Ig (hr.mono (by decide)) fD.m fD.F.kp fD.b (aa (ae (i:=2)) (aa (ae (i:=7)) af))) bC.nd)
    (aj (bG (aH ag (bw.m uv) (ae (i:=5)) (ae (i:=8))) (ai (xB (i:=4) (λ_=>(ae (i:=6))))
    (ai (aJ (i:=3) (ae (i:=7)) bC.nd)
    (aj (uu (i:=5) wd ah bC.nd)))) (aj (uu (i:=5) wd (ae (i:=8)) bC.nd))))) aY))))
    (aj (pK (i:=4)))))))))),λds R h=>?_⟩
 obtain⟨n,ps,k,rfl,ok,hn,hx,q⟩:=h;refine⟨_,rfl,trivial,n,ps,rfl,ok,hn,?_⟩;refine⟨_,rfl,_,rfl,me (λh1=>?_) λh1=>⟨_,rfl,jx rfl (hx λz=>h1 z.1)⟩⟩;refine⟨_,rfl,trivial,_,AA (i:=0) rfl (Vv _),.inr ⟨trivial,_,rfl,trivial,_,rfl,_,AB (l:=n) rfl (by lia),_,rfl,_,rfl,?_⟩⟩
 by_cases h2:k<sT ps n 0
 ·refine de (by show (!decide _)=false;rw[decide_eq_true h2];rfl) ?_
  have q:=q h1 h2;refine⟨trivial,_,rfl,trivial,_,rfl,trivial,h9,trivial,mZ,Vv _,trivial,_,rfl,_,rfl,trivial,_,rfl,.inr ⟨_,rfl,trivial,?_⟩⟩;refine⟨λm β=>∃ws fs l x6 x7 x8,β=[some (.val false (gj n ps)),some (.val false (.int k)),some (.val true (wu n (sT ps))),some (.val true (.lst (ws.map kU))),some (.own (nI fs)),some (.val true (.int l)),x6,x7,x8]/\zb ps n k m=(ws,fs,l)/\kO n 0 ws/\fs.length<=m,⟨[(0,n)],[],k,_,_,_,rfl,rfl,IP,Vv _⟩,?_,?_⟩
  ·rintro m d β hd ⟨ws,fs,l,x6,x7,x8,rfl,hu,hw,hf⟩;rw[Vq]at hd;obtain⟨p,hp,rfl⟩:=Vr.mp hd;have Tc:=hw.sf hn;have hm:=ok.lt p (VB hp);have dU:m<ps.length:=(Vc.mp hp).1;have SY:=ok.sm;have eu:=xj (n:=n) (k:=k) hp;rw[hu]at eu;unfold rg at eu;refine⟨_,rfl,trivial,_,rfl,trivial,ws,p,rfl,by lia,?_⟩
   cases eb:wb ws p with
   |none =>
    simp only[eb]at eu;refine⟨_,rfl,trivial,_,rfl,_,rfl,me (λc1=>⟨_,rfl,trivial,_,rfl,_,rfl,de rfl ⟨ws,fs,l,_,_,_,rfl,eu,hw,by lia⟩⟩) λc1=>⟨ws,fs,l,_,_,_,rfl,eu,hw,by lia⟩⟩
   |some v =>
    simp only[eb]at eu;have hv:=vi hm.1 hw eb;refine⟨_,rfl,trivial,_,rfl,_,rfl,me (λc1=>?_) λc1=>?_⟩
    ·rw[if_pos (show 0<l from c1)]at eu
     refine⟨_,rfl,trivial,_,rfl,_,rfl,jx rfl ?_⟩;refine⟨_,rfl,trivial,_,rfl,trivial,n,ps,_,v,rfl,ok,hn,hv,λp _=>U8 _,?_⟩;refine⟨_,rfl,trivial,_,rfl,_,rfl,_,rfl,me (λc2=>?_) λc2=>?_⟩
     ·rw[if_pos (show l<=_ from c2)]at eu
      exact⟨⟨_,rfl⟩,_,rfl,rfl,_,rfl,by rw[U9];exact qV (by lia),_,rfl,_,_,rfl,_,rfl,v,fs++[p],l-1,_,_,_,by rw[qS];rfl,eu,hv,by rw[Vk];exact Nat.succ_le_succ hf⟩
     ·rw[if_neg (show ¬ l<=_ from c2)]at eu
      exact⟨_,_,rfl,_,rfl,_,rfl,ws,fs,_,_,_,_,rfl,eu,hw,by lia⟩
    ·rw[if_neg (show ¬ 0<l from c1)]at eu
     exact⟨ws,fs,l,_,_,_,rfl,eu,hw,by lia⟩
  ·rintro β ⟨ws,fs,l,x6,x7,x8,rfl,hu,hw,hf⟩;rw[U9]at hu;unfold zb at hu;rw[Xo]at hu;unfold sat at q;rw[hu]at q;exact⟨_,rfl,q⟩
 ·exact jx (by show (!decide _)=true;rw[decide_eq_false h2];rfl) (hx λz=>h2 z.2)
def PJ (ps:List (Nat×Nat))(n:Nat)(ns:List (Nat×Nat)):D:=match JH ps n ns with
 |none=>.cO
 |some l=>nI l
theorem da:aI ["row","ties","begun","later","last"] ["row","ties"] (ao d9):=⟨rfl,rfl,rfl,by decide +kernel,rfl,by decide +kernel,by decide +kernel⟩
theorem Gn {qb ki} (Bm:Nn K mg qb ki) {iH eY} (kL:Ij K mg iH eY) {tS hJ} (dE:E9 K mg tS hJ) {qE gd} (dO:Ec K mg qE gd) {oF fz} (dF:Ca K mg oF fz) {mQ eM} (dS:BV K mg mQ eM) {mP eK} (dX:D9 K mg mP eK) {kB f_} (mU:II K mg kB f_) {kA f9} (mT:IJ K mg kA f9) {fA cF} (fE:B_ K mg fA cF) (B:qz mg) (ZA:XA K mg cA c):aD P w K mg base (nE P w) 6 qb ki ["row","ties"] (g8 P w true (mw c PJ)):=by
 have MB:aD P w K mg base (nE P w) 5 _ _ _ (g8 P w true (fT c)):=lT kL dE dO dF dS dX B.toBs ZA;have Nk:aD P w K mg base bz 2 _ _ _ (cB P w true ER):=Et mU fE B;have Nj:aD P w K mg base bz 2 _ _ _ (cB P w false EO):=Es mT fE B;refine z_ Bm.F da (λds R T KH=> by obtain⟨n,ps,ts,e,_⟩ := KH;subst e;rfl) λbQ A outer s H E hr=>?_
 have Z:=gn (P:=P) (w:=w) (K:=K) (mg:=mg) (base:=base) (N:=["row","ties","begun","later","last"]) (qual:="next_set") (scope:=ao d9) (f:=qb) (cd:=bQ) (A:=A) (outer:=outer) (s:=s) (H:=H) (E:=E);refine⟨_,(ai (pL (lL Z fT.mono MB (hr.mono (by decide)) kL.m kL.F.kp kL.b (aa (ae (i:=0)) (aa (ae (i:=1)) af))))
    (lq.lU (ai (kY (i:=2) (λ_=>(fq aE gN B.list qq (aa (ae (i:=1)) af))) da.nd)
    (ai (aJ (i:=3) (aF ER.mono Nk (hr.mono (by decide)) mU.m mU.F.kp mU.b (aa (ae (i:=0)) (aa (aF EO.mono Nj (hr.mono (by decide)) mT.m mT.F.kp mT.b (aa (ae (i:=0)) (aa (ae (i:=2)) af))) af))) da.nd)
    (ai (zP VP (mL.t (dJ (pH (ae (i:=2))) (cM (fM (pH (ae (i:=3))))))) (ai (aJ (i:=4) (FW (i:=2)) da.nd)
    (aj (Cv (i:=3) false ["tie","last"] [none,some 4] (by rfl) (by decide:(["tie","last"]:List Str).Nodup) rfl (λ_=>(bp (aF ER.mono Nk (hr.mono (by decide)) mU.m mU.F.kp mU.b (aa (ae (i:=0)) (aa (aF EO.mono Nj (hr.mono (by decide)) mT.m mT.F.kp mT.b (aa (ae (i:=0)) (aa (ae (i:=2)) af))) af))))) (λ_ _ _ _ _ _=>(aw (i:=0) (by decide:(["tie","last"]:List Str).Nodup))) (λ_ _ _ _ _ _=>(pf (aH ag (bw.m (C1 hr.o_)) (ae (i:=0)) (ae (i:=1))))) (λ_ _ _ _ _ _=>(ae (i:=0))) da.nd))))
    (ai (bG (fM (pH (ae (i:=3)))) (aj (aM dk)) aY)
    (aj (aM (aG aE ay (ae (i:=2)) (aO (aa (aL ag a6 (ae (i:=3)) ah) af))))))))))),λds R h=>?_⟩
 obtain⟨n,ps,ts,rfl,ok,hn,hl,hp,hx,q⟩:=h;refine⟨_,rfl,trivial,_,rfl,trivial,n,ps.map tI,ts,by rw[kS],hl,hp,hx,λhg=>?_⟩
 obtain⟨ns,rfl,hs⟩:=ji ok hg;have q:=q hg ns rfl hs;obtain⟨l,ew,hw⟩:=hs.wa ok;rw[<- vt];refine⟨_,rfl,trivial,_,rfl,.inl ⟨gJ _,?_⟩⟩;refine⟨trivial,_,rfl,trivial,_,rfl,trivial,_,rfl,trivial,n,ps,ns,rfl,ok,hn,hs,trivial,n,ps,_,rfl,ok,by rw[ew];have:=hw.sf hn;show l.length<=_;lia,?_⟩
 refine⟨λm β=>∃bs lt x4,β=[some (.val false (gj n ps)),some (.val false (nI ns)),some (.own (nI bs)),some (.val true (nI lt)),x4]/\jZ ps bs/\m=bs.length/\Dd ps n bs.reverse lt=JH ps n ns/\bs.length<=1000,⟨_,ns,_,_,rfl,hs,rfl,rfl,by rw[U9]at hl;exact hl⟩,?_⟩
 rintro m β ⟨bs,lt,x4,rfl,hb,rfl,e,Pg⟩;unfold PJ at q;rw[<- e]at q;rcases List.eq_nil_or_concat bs with rfl|⟨b,z,rfl⟩
 ·refine⟨_,rfl,_,rfl,de rfl ?_⟩;cases lt with
  |nil=>exact⟨_,rfl,_,rfl,jx rfl ⟨trivial,q⟩⟩
  |cons p lt =>
   rw[rM]at q;exact⟨_,rfl,_,rfl,de rfl ⟨_,rfl,trivial,_,rfl,trivial,_,QU,trivial,mZ,.inr ⟨_,vv Pg,.inl ⟨gJ _,trivial,q⟩⟩⟩⟩
 ·rw[List.concat_eq_append]at *
  refine⟨_,rfl,_,rfl,?_⟩;have ne:(!((b++[z]).map λp=>kD (tI p)).isEmpty)=true:=by rw[V1];simp
  refine jx ne ?_;cases lt with
  |cons p lt =>
   rw[rM]at q;exact⟨_,rfl,_,rfl,de rfl ⟨_,rfl,_,rfl,de rfl ⟨_,rfl,trivial,_,rfl,trivial,_,QU,trivial,mZ,.inr ⟨_,vv Pg,.inl ⟨gJ _,trivial,q⟩⟩⟩⟩⟩
  |nil =>
   have gI:jZ ps b:=hb.sub (List.sublist_append_left _ _);obtain⟨l',TV,SU⟩:=gI.wa ok;have Tb:=SU.sf hn;refine⟨_,rfl,_,rfl,jx rfl ?_⟩;refine⟨b.map λp=>kD (tI p),kD (tI z),by rw[qS];rfl,?_⟩
   refine⟨_,rfl,trivial,_,rfl,trivial,_,rfl,trivial,n,ps,b,rfl,ok,hn,gI,trivial,n,ps,_,rfl,ok,by rw[TV];show l'.length<=_;lia,_,rfl,trivial,?_⟩
   refine gF (λo:Nat×Nat=>HT.lexLt (tI z) (tI o)) (λo=>kD (tI o)) trivial (du (Vy ph (Vy ok.sm (by decide)))) (λo ho x0 ou J Lr j1 j2=>?_) ?_
   ·refine⟨_,rfl,trivial,_,rfl,_,DT _ _,_,rfl,?_⟩
    by_cases dU:HT.lexLt (tI z) (tI o)=true
    ·exact jx dU ⟨_,rfl,rfl,Lr,j1 dU _⟩
    ·exact de (Wx.mpr dU) (j2 (Wx.mpr dU) _)
   ·rw[Dc]at e;rw[Vk]at Pg;exact⟨b.length,by rw[Vk];exact Zb _,b,_,_,rfl,gI,rfl,e,by lia⟩
end
end ip
namespace L2.Q
open PySem PySem.Spec PySem.SeqAt PyProof.Rows
section
variable {X:Cx}{C:Cfg}{p p':Bool}{a b:Expr}{φa φb:aZ}{g:D->D->Option D}{name:Str}{id:String}{apos cpos:Pos}
def Od (g:D->D->Option D)(pb:Bool)(φa φb:aZ):aZ:=λβ R=>φa β λx ka β1=>(∃ds,x=.lst ds)/\hold ka pb/\φb β1 λy kb β2=>∃d,g x y=some d/\kN NF d (ka.max kb) λk=>R d k β2
abbrev Ic (X:Cx)(id:String)(g:D->D->Option D):Prop:=Ql X id λx xs H Q=>∃y,xs=[y]/\zi X g NF x y H Q
theorem Em (slot:Slot "list" name id) (Kf:typeOf (.builtin id)=pure (.type "method_descriptor")) (hm:Ic X id g) (ha:PQ X C p a φa) (hb:PQ X C p' b φb)
  (eE:W9 a name X.env (eval a X.env)=eval a X.env:=by rfl)
  (mh:((Wt cpos (Vd [b] X.env)).all (λx=>!x.1)&&(Y2 cpos (X_ [] X.env)).all (λx=>x.1.isSome)
   && decide ([b].length+([]:List XW).length+(if ([]:List XW).isEmpty then 0 else 1)<30))=true:=by rfl)
  (eD:(apos.endLine==cpos.line)=true:=by rfl) (hs:Vd [b] X.env=(false,eval b X.env)::Vd [] X.env:=by rfl) (eC:(Wt cpos (Vd [] X.env)).any (·.1)=false:=by rfl) :
  PQ X C (p&&p') (.Call (.Attribute a name apos) [b] [] cpos) (Od g p' φa φb) :=
 ⟨λβ R R' k h=>ha.mono β _ _ (λx ka β1 hx=>⟨hx.1,hx.2.1,hb.mono β1 _ _ (λy kb β2 hq=>by obtain⟨d,e,q⟩:=hq;exact⟨d,e,q.mono λ_ z=>k _ _ _ z⟩) hx.2.2⟩) h,
  (zN PySem.F.plainAttrs_list slot Kf hm ha.pe (ba hb.pe cZ (hs:=hs)) eE mh eD hs eC).pre λσ H Q hq=>by
    obtain⟨β,own,s,h⟩:=hq;refine tQ.of ha s h λd1 k1 β1 v1 H1 aB hx o1 r1=>?_;obtain⟨⟨ds,rfl⟩,hh,h1⟩:=hx;refine⟨?_,tQ.of hb o1.sq h1 λd2 k2 β2 v2 H2 bf Dv o2 r2=>?_⟩
    · obtain⟨l,vs,rfl,hl,_⟩:=r1.rep;exact .inl ⟨rfl,vs,dh.of hl⟩
    · obtain⟨d,e,q⟩:=Dv;have Io:=r1.ho o2 hh;refine⟨v2,rfl,av C (Wn bf) (k1.max k2),.lst ds,d2,d,o2.sq.yD _,aA.aS cS Io.rep,aA.aS eZ r2.rep,e,λv H' s3 r3 n3=>?_⟩;have o:=(o1.trans o2).same s3;obtain⟨k,q,r⟩:=KV.kN (Z:=(H,Wn own)) Ag r3 (λn=>gY (H:=H2) o2.sq.uU o2.sq.hX (λa z=>o2.sn.d a (o1.sn.d a z)) (ag.nl _ n) (n3 n)) q;exact q v H' bf o r⟩
end
end L2.Q
namespace L2
open PySem PySem.Spec PySem.SeqAt PyProof.Rows
def Bt:List D->Option (List Bool)
 |[]=>some []
 |.bl b::ds=>(Bt ds).map (b::·)
 |_::_=>none
theorem qk:∀{ds:List D} {bs:List Bool},Bt ds=some bs->ds=bs.map D.bl
 |[],_,h=>by cases h;rfl
 |d::ds,bs,h=>by
  cases d with
  |bl b =>
   obtain⟨r,h1,rfl⟩:=Vr.mp (show (Bt ds).map (b::·)=some bs from h)
   rw[qk h1];rfl
  |_=>cases h
section
variable {P:U_}{w:Vl}{W:Addr->Prop}{H:Hp}
theorem rq:∀{bs:List Bool} {vs:List V},ak P w W H (bs.map D.bl) vs->vs=bs.map V.bl
 |[],_,h=>h
 |b::bs,_,⟨v,r,e,h1,h2⟩=>by rw[e,show v=.bl b from h1,rq h2];rfl
end
theorem qM:∀{bs:List Bool} {us:List U5},Vals (bs.map V.bl) us->us=bs.map Value.bool
 |[],_,.nil=>rfl
 |b::bs,_,.cons r q=>by rw[VI,<- qM q,show _=Value.bool b from r]
namespace Q
section
end
end Q
end L2
namespace L2.Q
open PySem PySem.Spec PySem.SeqAt PyProof.Rows
def _root_.L2.D.P9:D->Option Bool
 |.bl b=>some b
 |_=>none
theorem D.BJ {d:D}{b:Bool}(h:d.P9=some b):d=.bl b:=by cases d <;> first|(cases h;rfl)|cases h
section
variable {X:Cx}{C:Cfg}{p p':Bool}{a b:Expr}{φa φb:aZ}{apos cpos:Pos}
def xQ (k:Bool):U5->Bool
 |.bool b=>b==k
 |_=>false
theorem wA (k:Bool){A:VZ}{s:U7}{bs:List Bool}{y:U5}(hy:y∈bs.map Value.bool):EqAt A s y (.bool k) (xQ k y):=by
 obtain⟨b,_,rfl⟩:=VV.mp hy;exact EqAt.bool_bool b k
def EY (a b:D):Option D:=a.Aj.bind λds=>(Bt ds).bind λbs=>b.P9.map λk=>.int (bs.count k:Nat)
def EW (a b:D):Option D:=a.Aj.bind λds=>(Bt ds).bind λbs=>b.P9.bind λk=>if k∈bs/\bs.length<=Vh then some (.int (bs.idxOf k:Nat)) else none
theorem BI {pins:List (Addr×Obj)}{s:U7}{σ:St}{H:Hp}{W:Addr->Prop}{bs:List Bool}{x:V}{v:U5}(I:Inv X pins σ H s)(rx:RelV x v)(r1:Rp X W H (.lst (bs.map D.bl)) x):
  ∃l dd n sl,v=.ref l/\s.heap.get? l=some ⟨.type "list",dd,.seq (bs.map Value.bool).toArray n,sl⟩:=by
 obtain⟨l,vs,rfl,hl,_,rv⟩:=r1;rw[rq rv]at hl;cases (show v=.ref l from rx)
 obtain⟨_,its,n,r',ho⟩:=I.bt l _ hl;rw[qM r']at ho;exact⟨l,_,n,_,rfl,ho⟩
theorem xE:Ic X "list.count" EY:=by
 intro pins s σ H x xs v us Q I rx rs h;obtain⟨y,rfl,W,d1,d2,d,hd,r1,r2,e,q⟩:=h;obtain⟨ds,e1,e2⟩:=VQ.mp e;obtain⟨bs,e3,e4⟩:=VQ.mp e2;obtain⟨k,e5,rfl⟩:=Vr.mp e4;rw[D.k8 e1,qk e3]at r1;rw[D.BJ e5]at r2;obtain⟨l,dd,n,sl,rfl,ho⟩:=BI I rx r1;obtain⟨u,rfl,ru⟩:=vals1 rs;cases (show y=.bl k from r2)
 cases ru;refine Yq PySem.F.slot_list_count ⟨_,ho,rfl⟩ PySem.F.entry_list_count (PySem.F.args_list_count_2 _ _) (list_countAt l (bs.map Value.bool).toArray n dd sl (.bool k) (xQ k)) ⟨ho,λy hy=>wA k (by simpa using hy),?_⟩
 have ec:(bs.map Value.bool).countP (xQ k)=bs.count k:=by
  rw[List.countP_map];rfl
 rw[show (bs.map Value.bool).toArray.toList=bs.map Value.bool from rfl,ec]
 exact⟨.int (bs.count k:Nat),H,I.tok _,⟨_,rfl⟩,q _ _ (au.refl _) rfl λ_=>rfl⟩
theorem xD:Ic X "list.index" EW:=by
 intro pins s σ H x xs v us Q I rx rs h;obtain⟨y,rfl,W,d1,d2,d,hd,r1,r2,e,q⟩:=h;obtain⟨ds,e1,e2⟩:=VQ.mp e;obtain⟨bs,e3,e4⟩:=VQ.mp e2;obtain⟨k,e5,e6⟩:=VQ.mp e4;obtain⟨⟨hk,hz⟩,rfl⟩:=cP e6;rw[D.k8 e1,qk e3]at r1;rw[D.BJ e5]at r2;obtain⟨l,dd,n,sl,rfl,ho⟩:=BI I rx r1;obtain⟨u,rfl,ru⟩:=vals1 rs;cases (show y=.bl k from r2)
 cases ru;have hj:bs.idxOf k<bs.length:=List.idxOf_lt_length_iff.mpr hk;have hsz:Vh<2 ^ 63-1:=by decide
 refine Yq PySem.F.slot_list_index ⟨_,ho,rfl⟩ PySem.F.entry_list_index (PySem.F.args_list_index_2 _ _) (list_indexAt l (bs.map Value.bool).toArray n dd sl (.bool k) (xQ k) (bs.idxOf k) (by simpa using hj) (by lia) ?_ ?_)
  ⟨ho,λy hy=>wA k (by simpa using hy),⟨.int (bs.idxOf k:Nat),H,I.tok _,⟨_,rfl⟩,q _ _ (au.refl _) rfl λ_=>rfl⟩⟩
 ·simp[xQ]
 ·intro m hm dU;have UJ:m<bs.length:=by simpa using hm
  have:=List.not_of_lt_findIdx (p:=(·==k)) (xs:=bs) dU;simpa[xQ] using this
theorem xr (ha:PQ X C p a φa) (hb:PQ X C p' b φb) (eE:W9 a "count" X.env (eval a X.env)=eval a X.env:=by rfl)
  (mh:((Wt cpos (Vd [b] X.env)).all (λx=>!x.1)&&(Y2 cpos (X_ [] X.env)).all (λx=>x.1.isSome)
   && decide ([b].length+([]:List XW).length+(if ([]:List XW).isEmpty then 0 else 1)<30))=true:=by rfl)
  (eD:(apos.endLine==cpos.line)=true:=by rfl) (hs:Vd [b] X.env=(false,eval b X.env)::Vd [] X.env:=by rfl) (eC:(Wt cpos (Vd [] X.env)).any (·.1)=false:=by rfl) :
  PQ X C (p&&p') (.Call (.Attribute a "count" apos) [b] [] cpos) (Od EY p' φa φb):=Em PySem.F.slot_list_count PySem.F.type_list_count xE ha hb eE mh eD hs eC
theorem xq (ha:PQ X C p a φa) (hb:PQ X C p' b φb) (eE:W9 a "index" X.env (eval a X.env)=eval a X.env:=by rfl)
  (mh:((Wt cpos (Vd [b] X.env)).all (λx=>!x.1)&&(Y2 cpos (X_ [] X.env)).all (λx=>x.1.isSome)
   && decide ([b].length+([]:List XW).length+(if ([]:List XW).isEmpty then 0 else 1)<30))=true:=by rfl)
  (eD:(apos.endLine==cpos.line)=true:=by rfl) (hs:Vd [b] X.env=(false,eval b X.env)::Vd [] X.env:=by rfl) (eC:(Wt cpos (Vd [] X.env)).any (·.1)=false:=by rfl) :
  PQ X C (p&&p') (.Call (.Attribute a "index" apos) [b] [] cpos) (Od EW p' φa φb):=Em PySem.F.slot_list_index PySem.F.type_list_index xD ha hb eE mh eD hs eC
end
theorem qg (a b:Str)(ha:(D.str a).pA=true:=by decide +kernel)(hb:(D.str b).pA=true:=by decide +kernel):B6 (.str a) (.str b)=some (.bl (!decide (a=b))):=by
 unfold B6;rw[if_pos ⟨ha,hb⟩];show some (D.bl (!(a==b)))=_;rw[show (a==b)=decide (a=b) from Bool.eq_iff_iff.mpr (by rw[beq_iff_eq,decide_eq_true_iff])]
end L2.Q
namespace ip
open PySem L2 L2.Q
section
variable {P:U_}{w:Vl}{K:PySem.W.Frag}{mg:Str->Option U5}{base:Heap}{c:Nat->Addr}
theorem By {β:Q.a8}{φ1 φ2 φ3 φ4:aZ}{a b c d:Int}{R:D->Kd->Q.a8->Prop}(h1:∀R:D->Kd->Q.a8->Prop,R (.int a) .own β->φ1 β R)(h2:∀R:D->Kd->Q.a8->Prop,R (.int b) .own β->φ2 β R)(h3:∀R:D->Kd->Q.a8->Prop,R (.int c) .own β->φ3 β R)(h4:∀R:D->Kd->Q.a8->Prop,R (.int d) .own β->φ4 β R)
  (q:R (.bl (decide (a<b)&&(decide (b<c)&&decide (c<d)))) .own β):pE φ1 (zq HQ φ2 (zq HQ φ3 (FL HQ φ4))) β R:=by
 refine h1 _ (h2 _ ⟨_,rfl,me (λz1=>h3 _ ⟨_,rfl,me (λz2=>h4 _ ⟨_,rfl,?_⟩) (λz2=>?_)⟩) (λz1=>?_)⟩)
 ·simpa[z1,z2] using q
 ·simpa[z1,z2] using q
 ·simpa[z1] using q
theorem sI {rows ts:List (List Int)}:Good rows ts↔∀k t,ts[k]?=some t->t∈rows/\(∀u,0<k->ts[k-1]?=some u->HT.lexLt u t=true)/\∀j u,j<k->ts[j]?=some u->Apart u t:=by
 rw[<- iE,ml];refine⟨λh k t e=>?_,λh k hk=>?_⟩
 ·have hk:=(Vc.mp e).1;exact(jm hk).mp ((fC e).symm.trans (h k hk))
 ·have e:ts[k]?=some ts[k]:=Vf hk;exact(fC e).trans ((jm hk).mpr (h k _ e))
theorem m8:aI ["row"] ["row"] (ao dD):=⟨rfl,rfl,rfl,by decide +kernel,rfl,by decide +kernel,by decide +kernel⟩
theorem nY {yb oE} (yF:Qr K mg yb oE) (B:Bs mg):aD P w K mg base bz 1 yb oE ["row"] (cB P w true mC):=by
 refine nh yF.F m8 (λds R KG=> by obtain⟨n,ps,e,_⟩ := KG;subst e;rfl) λbQ A outer s H E hr=>⟨_,(aj (aM (bh (aa (aL ag a6 (ae (i:=0)) ah) (aa (fq aE gN B.list qq (aa (aL ag a6 (ae (i:=0)) ah) af)) af))))),λds R h=>?_⟩
 obtain⟨n,ps,rfl,q⟩:=h;exact⟨_,rfl,trivial,_,rfl,trivial,_,rfl,trivial,_,rfl,.inr ⟨trivial,_,rfl,.inl ⟨A6,trivial,h9,trivial,q⟩⟩⟩
theorem ku:aI ["one","other"] ["one","other"] (ao cL):=⟨rfl,rfl,rfl,by decide +kernel,rfl,by decide +kernel,by decide +kernel⟩
theorem Gs {ny ie} (yE:MD K mg ny ie):aD P w K mg base bz 1 ny ie ["one","other"] (cB P w true gK):=by
 refine nh yE.F ku (λds R KD=> by obtain⟨t,u,e,_⟩ := KD;subst e;rfl) λbQ A outer s H E hr=>⟨_,(aj (aM (zF (i5 (aL ag a6 (ae (i:=0)) ah) (cN bW (aL ag a6 (ae (i:=1)) ah) (cN bW (aL ag a6 (ae (i:=0)) ah) (i4 bW (aL ag a6 (ae (i:=1)) ah))))) (uq (i5 (aL ag a6 (ae (i:=1)) ah) (cN bW (aL ag a6 (ae (i:=0)) ah) (cN bW (aL ag a6 (ae (i:=1)) ah) (i4 bW (aL ag a6 (ae (i:=0)) ah))))))))),λds R h=>?_⟩
 obtain⟨t,u,rfl,⟨a,b,rfl⟩,⟨c,d,rfl⟩,q⟩:=h;refine By (a:=a) (b:=c) (c:=b) (d:=d) (λR h=>⟨_,rfl,trivial,_,rfl,h⟩) (λR h=>⟨_,rfl,trivial,_,rfl,h⟩) (λR h=>⟨_,rfl,trivial,_,rfl,h⟩) (λR h=>⟨_,rfl,trivial,_,rfl,h⟩) ⟨_,rfl,Iu (λh=>⟨trivial,?_⟩) (λh=>By (a:=c) (b:=a) (c:=d) (d:=b) (λR h=>⟨_,rfl,trivial,_,rfl,h⟩) (λR h=>⟨_,rfl,trivial,_,rfl,h⟩) (λR h=>⟨_,rfl,trivial,_,rfl,h⟩) (λR h=>⟨_,rfl,trivial,_,rfl,h⟩) ⟨trivial,?_⟩)⟩
 ·have:bP [a,b] [c,d]=true:=by show (_ || _)=true;rw[h];rfl
  rw[<- this];exact q
 ·have:bP [a,b] [c,d]=(decide (c<a)&&(decide (a<d)&&decide (d<b))):=by show (_ || _)=_;rw[h];rfl
  rw[<- this];exact q
def sW:FD:=λds R=>∃(ts:List (List Int)) (t:List Int),ds=[.lst (ts.map kD),kD t]/\Pairs ts/\Pair t/\R (.bl (ts.all λu=>!bH u t&&!bP u t))
theorem sW.mono:cH sW:=λds R R' k h=>by obtain⟨ts,t,e,h1,h2,q⟩:=h;exact⟨ts,t,e,h1,h2,k _ q⟩
theorem j5:aI ["some","tie","one"] ["some","tie"] (ao fJ):=⟨rfl,rfl,rfl,by decide +kernel,rfl,by decide +kernel,by decide +kernel⟩
theorem C6 {sQ km} (B7:Nm K mg sQ km) {ny ie} (yE:MD K mg ny ie):aD P w K mg base bz 2 sQ km ["some","tie"] (cB P w true sW):=by
 have Ul:aD P w K mg base bz 1 _ _ _ (cB P w true gK):=Gs yE;refine nh B7.F j5 (λds R KC=> by obtain⟨ss,p,e,_⟩ := KC;subst e;rfl) λbQ A outer s H E hr=>⟨_,(ai (bU VP rfl (bp (ae (i:=0))) (aw (i:=2) j5.nd) (aj (bG (mL.t (fL (aH ag (bw.m (pO hr.gQ)) (aL ag a6 (ae (i:=2)) ah) (ae (i:=1))) (fL (aH ag (bw.m (pO hr.gQ)) (aL ag a6 (ae (i:=2)) ah) (ae (i:=1))) (gW (eV (aF gK.mono Ul (hr.mono (by decide)) yE.m yE.F.kp yE.b (aa (ae (i:=2)) (aa (ae (i:=1)) af)))))))) (aj (aM ft)) aY)))
    (aj (aM ft))),λds R h=>?_⟩
 obtain⟨ts,t,rfl,hp,ht,q⟩:=h;refine⟨_,rfl,_,rfl,trivial,?_⟩;refine⟨λm β=>(∃x2,β=[some (.val false (.lst (ts.map kD))),some (.val false (kD t)),x2])/\(ts.take m).all (λu=>!bH u t&&!bP u t)=true,⟨⟨_,rfl⟩,by rfl⟩,?_,?_⟩
 ·rintro m d β hd ⟨⟨x2,rfl⟩,hm⟩;rw[Vq]at hd;obtain⟨u,hu,rfl⟩:=Vr.mp hd;have um:=VB hu;obtain⟨a,b,rfl⟩:=hp u um;have bad:(!bH [a,b] t&&!bP [a,b] t)=false->R (.bl false):=λz=>by
   have e:ts.all (λu=>!bH u t&&!bP u t)=false:=List.all_eq_false.mpr ⟨_,um,by rw[z];exact We⟩
   rw[e]at q;exact q
  refine⟨_,rfl,trivial,_,rfl,trivial,_,rfl,_,qj a t,_,rfl,me (λz=>jx rfl ⟨trivial,bad ?_⟩) (λz=>⟨_,rfl,trivial,_,rfl,trivial,_,rfl,_,qj b t,_,rfl,me (λz2=>jx rfl ⟨trivial,bad ?_⟩) (λz2=>⟨_,rfl,trivial,_,rfl,trivial,[a,b],t,rfl,⟨_,_,rfl⟩,ht,_,rfl,Iu (λz3=>⟨trivial,bad ?_⟩) (λz3=>⟨⟨_,rfl⟩,?_⟩)⟩)⟩)⟩
  ·rw[fH.mpr ⟨a,by simp,z⟩];rfl
  ·rw[fH.mpr ⟨b,by simp,z2⟩];rfl
  ·rw[z3,Bool.not_true,Bool.and_false]
  ·have hs:bH [a,b] t=false:=Wx.mpr λh=>by
    obtain⟨i,h1,h2⟩:=fH.mp h;rcases Va.mp h1 with rfl|h1
    ·exact z h2
    ·rw[Vn.mp h1]at h2;exact z2 h2
   rw[Wo,hu,List.all_append,hm,Bool.true_and];show ((!bH [a,b] t&&!bP [a,b] t)&&true)=true;rw[hs,z3];rfl
 ·rintro β ⟨⟨x2,rfl⟩,hm⟩;rw[U9,Xo]at hm;rw[hm]at q;exact⟨trivial,q⟩
def Bc:FD:=λds R=>∃(n:Nat) (ps:List (Nat×Nat)) (ts:List (List Int)),ds=[gj n ps,.lst (ts.map kD)]/\ts.length<=1000/\Pairs ts/\(Good (ps.map tI) ts->R (.bl true))/\(¬ Good (ps.map tI) ts->R (.bl false))
theorem Bc.mono:cH Bc:=λds R R' k h=>by obtain⟨n,ps,ts,e,h1,h2,q1,q2⟩:=h;exact⟨n,ps,ts,e,h1,h2,λz=>k _ (q1 z),λz=>k _ (q2 z)⟩
theorem e_:aI ["row","some","k","tie"] ["row","some"] (ao dC):=⟨rfl,rfl,rfl,by decide +kernel,rfl,by decide +kernel,by decide +kernel⟩
theorem Gq {ya oC} (EV:Qq K mg ya oC) {sQ km} (B7:Nm K mg sQ km) {ny ie} (yE:MD K mg ny ie) (B:qz mg):aD P w K mg base bz 3 ya oC ["row","some"] (cB P w true Bc):=by
 have Uj:aD P w K mg base bz 2 _ _ _ (cB P w true sW):=C6 B7 yE;refine nh EV.F e_ (λds R KA=> by obtain⟨n,ps,ts,e,_⟩ := KA;subst e;rfl) λbQ A outer s H E hr=>⟨_,(ai (bU VP rfl (vH (rC B.enumerate (rD (zr (i:=1)) vG))) (c9 (n:=2) rfl (aR (aw (i:=2) e_.nd) (aR (aw (i:=3) e_.nd) b_))) (aj (bG (mL.t (fL (aH ag (bw.m (nV hr.gQ)) (ae (i:=3)) (aL ag a6 (ae (i:=0)) ah)) (fL (mL.t (dJ (aH ag (bw.m pP) (ae (i:=2)) ah) (cM (aH ag (bw.m (vR hr.o_)) (ae (i:=3)) (aL ag a6 (ae (i:=1)) (aG ag (bw.m cm) (ae (i:=2)) ah)))))) (gW (fM (eV (aF sW.mono Uj (hr.mono (by decide)) B7.m B7.F.kp B7.b (aa (nQ (ae (i:=1)) fo (fm (ae (i:=2)))) (aa (ae (i:=3)) af))))))))) (aj (aM ft)) aY)))
    (aj (aM ft))),λds R h=>?_⟩
 obtain⟨n,ps,ts,rfl,hl,hp,q1,q2⟩:=h;rw[kS];refine⟨_,rfl,_,rfl,trivial,?_⟩;refine⟨λm β=>(∃x2 x3,β=[some (.val false (.tup [.int (n:Int),.lst ((ps.map tI).map kD)])),some (.val false (.lst (ts.map kD))),x2,x3])/\∀k t,k<m->ts[k]?=some t->t∈ps.map tI/\(∀u,0<k->ts[k-1]?=some u->HT.lexLt u t=true)/\∀j u,j<k->ts[j]?=some u->Apart u t,⟨⟨_,_,rfl⟩,λk t h=>absurd h (Nat.not_lt_zero _)⟩,?_,?_⟩
 ·rintro m d β hd ⟨⟨x2,x3,rfl⟩,hm⟩;obtain⟨b,hb,rfl⟩:=jT hd;rw[Vq]at hb;obtain⟨t,ht,rfl⟩:=Vr.mp hb;have dU:m<ts.length:=(Vc.mp ht).1;have bad:¬ (t∈ps.map tI/\(∀u,0<m->ts[m-1]?=some u->HT.lexLt u t=true)/\∀j u,j<m->ts[j]?=some u->Apart u t)->R (.bl false):=λz=>q2 λg=>z (sI.mp g m t ht);refine⟨_,rfl,rfl,_,_,rfl,_,_,rfl,rfl,?_⟩;refine⟨_,rfl,trivial,_,rfl,trivial,_,rfl,.inr ⟨_,mG t _,_,rfl,?_⟩⟩
  by_cases h1:t∈ps.map tI
  ·refine de (by rw[decide_eq_true h1];rfl) ?_
   refine⟨_,rfl,trivial,_,rfl,_,rfl,me (λh0=>?_) λh0=>?_⟩
   ·have em:((m:Nat):Int)-1=((m-1:Nat):Int):=by lia
    obtain⟨u,hu⟩:∃u,ts[m-1]?=some u:=⟨_,Vf (by lia)⟩
    refine⟨_,rfl,trivial,_,rfl,trivial,_,rfl,trivial,_,rfl,_,l8 (d:=kD u) (i:=m-1) em (by rw[Vq,hu];rfl),_,wG _ _,_,rfl,?_⟩
    by_cases h2:HT.lexLt u t=true
    ·refine de (by rw[h2];rfl) ?_
     have Hq:∀u,0<m->ts[m-1]?=some u->HT.lexLt u t=true:=λv _ hv=>by cases hu.symm.trans hv;exact h2
     refine⟨_,rfl,_,rfl,_,rfl,_,rfl,.inr ⟨trivial,_,rfl,trivial,ts.take m,t,by rw[mH],λu hu=>hp u (XY hu),hp t (VB ht),_,rfl,?_⟩⟩
     by_cases h3:((ts.take m).all λu=>!bH u t&&!bP u t)=true
     ·refine de (by rw[h3];rfl) ⟨⟨_,_,rfl⟩,λk v hk hv=>?_⟩
      rcases WS k m with Lx|Lx
      ·exact hm k v Lx hv
      ·have ek:k=m:=by lia
       subst ek;cases ht.symm.trans hv;refine⟨h1,Hq,λj u hj hu=>?_⟩;have:=Wi.mp h3 u (VB (i:=j) (by rw[X5,if_pos hj];exact hu))
       rw[VO]at this;exact⟨by simpa using this.1,by simpa using this.2⟩
     ·refine jx (by rw[Wx.mpr h3];rfl) ⟨trivial,bad λz=>h3 (Wi.mpr λu hu=>?_)⟩
      obtain⟨j,hj⟩:=Yy.mp hu;have LA:j<m:=by
       have:=(Vc.mp hj).1;rw[VW]at this;lia
      rw[X5,if_pos LA]at hj;have:=z.2.2 j u LA hj;rw[this.1,this.2];rfl
    ·exact jx (by rw[Wx.mpr h2];rfl) ⟨trivial,bad λz=>h2 (z.2.1 u (by lia) hu)⟩
   ·have Hq:∀u,0<m->ts[m-1]?=some u->HT.lexLt u t=true:=λv hv _=>absurd hv (by lia)
    refine de rfl ?_;refine⟨_,rfl,_,rfl,_,rfl,_,rfl,.inr ⟨trivial,_,rfl,trivial,ts.take m,t,by rw[mH],λu hu=>hp u (XY hu),hp t (VB ht),_,rfl,?_⟩⟩
    by_cases h3:((ts.take m).all λu=>!bH u t&&!bP u t)=true
    ·refine de (by rw[h3];rfl) ⟨⟨_,_,rfl⟩,λk v hk hv=>?_⟩
     rcases WS k m with Lx|Lx
     ·exact hm k v Lx hv
     ·have ek:k=m:=by lia
      subst ek;cases ht.symm.trans hv;refine⟨h1,Hq,λj u hj hu=>?_⟩;have:=Wi.mp h3 u (VB (i:=j) (by rw[X5,if_pos hj];exact hu))
      rw[VO]at this;exact⟨by simpa using this.1,by simpa using this.2⟩
    ·refine jx (by rw[Wx.mpr h3];rfl) ⟨trivial,bad λz=>h3 (Wi.mpr λu hu=>?_)⟩
     obtain⟨j,hj⟩:=Yy.mp hu;have LA:j<m:=by
      have:=(Vc.mp hj).1;rw[VW]at this;lia
     rw[X5,if_pos LA]at hj;have:=z.2.2 j u LA hj;rw[this.1,this.2];rfl
  ·exact jx (by rw[decide_eq_false h1];rfl) ⟨trivial,bad λz=>h1 z.1⟩
 ·rintro β ⟨⟨x2,x3,rfl⟩,hm⟩;rw[jS,U9]at hm;exact⟨trivial,q1 (sI.mpr λk t e=>hm k t (Vc.mp e).1 e)⟩
end
section
variable {P:U_}{w:Vl}{K:PySem.W.Frag}{mg:Str->Option U5}{base:Heap}{cA:Addr}{c:Nat->Addr}
theorem eO:aI ["caught","kinds","odd"] ["caught"] (ao fI):=⟨rfl,rfl,rfl,by decide +kernel,rfl,by decide +kernel,by decide +kernel⟩
def knd:List (Nat×Str):=[(3,"weights"),(4,"number"),(5,"set"),(1,"tie")]
def sV (c:Nat->Addr):FD:=λds R=>∃i s,(i,s)∈knd/\ds=[.exc (c i)]/\R (.str s)
theorem sV.mono:cH (sV c):=λds R R' k ⟨i,s,hi,e,q⟩=>⟨i,s,hi,e,k _ q⟩
theorem C5 {sP kj} (Bo:Nl K mg sP kj) (B:qz mg) (bV:mg "ValueError" = none) (ZA:XA K mg cA c):aD P w K mg base bz 1 sP kj ["caught"] (cB P w true (sV c)):=by
 refine nh Bo.F eO (λds R h=>by obtain⟨_,_,_,e,_⟩:=h;subst e;rfl) λbQ A outer s H E hr=>⟨_,(ai (aJ (i:=1) (aO (aa (pI B.Ir (ae (i:=0)) (XA.x ZA 3).m) (aa (pI B.Ir (ae (i:=0)) (XA.x ZA 4).m) (aa (pI B.Ir (ae (i:=0)) (XA.x ZA 5).m) af)))) eO.nd)
    (ai (aJ (i:=1) (aG aE ay (ae (i:=1)) (aO (aa (pI B.Ir (ae (i:=0)) (XA.x ZA 1).m) af))) eO.nd)
    (ai (aJ (i:=2) (CG B.Ir (ae (i:=0)) (eW (eW (eW (eW (eW (eW (eW (eW CS (XA.x ZA 11).m) (XA.x ZA 9).m) (XA.x ZA 2).m) (XA.x ZA 8).m) (XA.x ZA 0).m) (XA.x ZA 7).m) (XA.x ZA 6).m) (XA.x ZA 10).m) (by show 8<=Vh;decide)) eO.nd)
    (dM (bG (mL.t (fL (eV (ae (i:=2))) (fL (fM (eV (FY B.Ir (ae (i:=0)) bV HX))) (gW (aH ag (bw.m (fO hr.units)) (xr (ae (i:=1)) ft) ah))))) (aj (aM cw)) aY)
    (aj (aM (aL ag a6 (aO (aa cw (aa cw (aa cw (aa cw af))))) (xq (ae (i:=1)) ft)))))))),λds R h=>?_⟩
 obtain⟨i,st,hi,rfl,q⟩:=h;have gc:i<12:=by
  rcases Va.mp hi with z|hi
  ·cases z;decide
  rcases Va.mp hi with z|hi
  ·cases z;decide
  rcases Va.mp hi with z|hi
  ·cases z;decide
  cases Vn.mp hi;decide
 refine⟨_,rfl,c i,_,rfl,ZA.k gc (j:=3) (by decide),trivial,_,rfl,c i,_,rfl,ZA.k gc (j:=4) (by decide),trivial,_,rfl,c i,_,rfl,ZA.k gc (j:=5) (by decide),trivial,du (by show 3<=1000;decide),?_⟩
 refine⟨_,rfl,trivial,_,rfl,c i,_,rfl,ZA.k gc (j:=1) (by decide),trivial,mZ,_,df (by show 3+1<=_;decide),.inl ⟨rfl,?_⟩⟩
 refine⟨_,rfl,c i,_,rfl,ZA.ks gc [10,6,7,0,8,2,9,11],?_⟩;rcases Va.mp hi with z|hi
 ·cases z;refine⟨λβ=>β=[some (.val false (.exc (c 3))),some (.val true (.lst [.bl true,.bl false,.bl false,.bl false])),some (.val true (.bl false))],⟨_,rfl,_,rfl,de rfl ⟨_,rfl,c 3,true,rfl,ZA.kv gc,_,rfl,de rfl ⟨_,rfl,⟨_,rfl⟩,trivial,_,rfl,trivial,_,ll _ _,_,rfl,de rfl rfl⟩⟩⟩,?_⟩;rintro β rfl;exact⟨trivial,trivial,trivial,trivial,du (by show 4<=1000;decide),trivial,_,rfl,⟨_,rfl⟩,trivial,_,rfl,_,rfl,trivial,q⟩
 rcases Va.mp hi with z|hi
 ·cases z;refine⟨λβ=>β=[some (.val false (.exc (c 4))),some (.val true (.lst [.bl false,.bl true,.bl false,.bl false])),some (.val true (.bl false))],⟨_,rfl,_,rfl,de rfl ⟨_,rfl,c 4,true,rfl,ZA.kv gc,_,rfl,de rfl ⟨_,rfl,⟨_,rfl⟩,trivial,_,rfl,trivial,_,ll _ _,_,rfl,de rfl rfl⟩⟩⟩,?_⟩;rintro β rfl;exact⟨trivial,trivial,trivial,trivial,du (by show 4<=1000;decide),trivial,_,rfl,⟨_,rfl⟩,trivial,_,rfl,_,rfl,trivial,q⟩
 rcases Va.mp hi with z|hi
 ·cases z;refine⟨λβ=>β=[some (.val false (.exc (c 5))),some (.val true (.lst [.bl false,.bl false,.bl true,.bl false])),some (.val true (.bl false))],⟨_,rfl,_,rfl,de rfl ⟨_,rfl,c 5,true,rfl,ZA.kv gc,_,rfl,de rfl ⟨_,rfl,⟨_,rfl⟩,trivial,_,rfl,trivial,_,ll _ _,_,rfl,de rfl rfl⟩⟩⟩,?_⟩;rintro β rfl;exact⟨trivial,trivial,trivial,trivial,du (by show 4<=1000;decide),trivial,_,rfl,⟨_,rfl⟩,trivial,_,rfl,_,rfl,trivial,q⟩
 cases Vn.mp hi;refine⟨λβ=>β=[some (.val false (.exc (c 1))),some (.val true (.lst [.bl false,.bl false,.bl false,.bl true])),some (.val true (.bl false))],⟨_,rfl,_,rfl,de rfl ⟨_,rfl,c 1,true,rfl,ZA.kv gc,_,rfl,de rfl ⟨_,rfl,⟨_,rfl⟩,trivial,_,rfl,trivial,_,ll _ _,_,rfl,de rfl rfl⟩⟩⟩,?_⟩;rintro β rfl;exact⟨trivial,trivial,trivial,trivial,du (by show 4<=1000;decide),trivial,_,rfl,⟨_,rfl⟩,trivial,_,rfl,_,rfl,trivial,q⟩
def qf:FD:=λds R=>∃(a:Int) (n:Nat) (ps:List (Nat×Nat)) (x:D),ds=[.int a,gj n ps,x]/\qv n ps/\n<=40 /\
 ((∃ts:List (List Int),(a=0\/a=1\/a=2)/\x=.lst (ts.map kD)/\ts.length<=1000/\Pairs ts/\(¬ Good (ps.map tI) ts->R (.str "set"))/\(Good (ps.map tI) ts->R (.str ""))) \/
 ∃k:Int,a=3/\x=.int k/\(¬ (0<=k/\k<sT ps n 0)->R (.str "number"))/\(0<=k->k<sT ps n 0->R (.str "")))
theorem GP {i:Nat}{s:Str}(hi:(i,s)∈knd):i<12:=by
 rcases Va.mp hi with z|hi
 ·cases z;decide
 rcases Va.mp hi with z|hi
 ·cases z;decide
 rcases Va.mp hi with z|hi
 ·cases z;decide
 cases Vn.mp hi;decide
theorem Ow:((4,"number"):Nat×Str)∈knd:=Vm _ Vw
theorem GQ:((5,"set"):Nat×Str)∈knd:=Vm _ (Vm _ Vw)
theorem qf.mono:cH qf:=λds R R' l ⟨a,n,ps,x,e,h1,h2,h⟩=>⟨a,n,ps,x,e,h1,h2,h.imp (λKz=> by obtain⟨ts,h1,h2,h3,h4,q1,q2⟩ := Kz;exact⟨ts,h1,h2,h3,h4,λz=>l _ (q1 z),λz=>l _ (q2 z)⟩) λKy=> by obtain⟨k,h1,h2,q1,q2⟩ := Ky;exact⟨k,h1,h2,λz=>l _ (q1 z),λy z=>l _ (q2 y z)⟩⟩
theorem cJ:aI ["asked","row","some","caught","e"] ["asked","row","some"] (ao c6):=⟨rfl,rfl,rfl,by decide +kernel,rfl,by decide +kernel,by decide +kernel⟩
theorem z5 {x_ oB} (qF:Qp K mg x_ oB) {p_ kg} (Bk:Nq K mg p_ kg) {qb ki} (Bm:Nn K mg qb ki) {qc kl} (Br:Nr K mg qc kl) {qa kh} (uV:Np K mg qa kh) {sP kj} (Bo:Nl K mg sP kj) {iH eY} (kL:Ij K mg iH eY) {tS hJ} (dE:E9 K mg tS hJ) {qE gd} (dO:Ec K mg qE gd) {oF fz} (dF:Ca K mg oF fz) {mQ eM} (dS:BV K mg mQ eM) {mP eK} (dX:D9 K mg mP eK) {hV dz} (ik:D7 K mg hV dz) {gh cW} (kK:D3 K mg gh cW) {gg cV} (kJ:D2 K mg gg cV) {gf cU} (kG:D6 K mg gf cU) {eF bX} (fD:D5 K mg eF bX) {fB cG} (jV:D4 K mg fB cG) {kB f_} (mU:II K mg kB f_) {kA f9} (mT:IJ K mg kA f9) {fA cF} (fE:B_ K mg fA cF) (B:qz mg) (bV:mg "ValueError" = none) (ZA:XA K mg cA c):aD P w K mg base bz 7 x_ oB ["asked","row","some"] (cB P w true qf):=by
 have Ua:aD P w K mg base (nE P w) 6 _ _ _ (g8 P w true (mw c M5)):=Gi Bk kL dE dO dF dS dX ik kK kJ kG fD jV mU fE B ZA;have Ue:aD P w K mg base (nE P w) 6 _ _ _ (g8 P w true (mw c PJ)):=Gn Bm kL dE dO dF dS dX mU mT fE B ZA;have Ui:aD P w K mg base (nE P w) 6 _ _ _ (g8 P w true (mw c PK)):=Gr Br kL dE dO dF dS dX ik kK kJ kG fD jV mT fE B ZA;have Mz:aD P w K mg base (nE P w) 4 _ _ _ (g8 P w true (jR c)):=nX uV ik kK kJ kG fD jV fE B ZA;have Ug:aD P w K mg base bz 1 _ _ _ (cB P w true (sV c)):=C5 Bo B bV ZA;refine nh qF.F cJ (λds R Kx=> by obtain⟨a,n,ps,x,e,_⟩ := Kx;subst e;rfl) λbQ A outer s H E hr=>⟨_,(ai (aJ (i:=3) dk cJ.nd)
    (dM (F6 (j:=4) rfl rfl (yT (aH ag (bw.m (fP hr.units)) (ae (i:=0)) ah) (kP mw.mono Ua (hr.mono (by decide)) Bk.m Bk.F.kp Bk.b (aa (ae (i:=1)) (aa (ae (i:=2)) af))) (yT (aH ag (bw.m (fP hr.units)) (ae (i:=0)) ah) (kP mw.mono Ue (hr.mono (by decide)) Bm.m Bm.F.kp Bm.b (aa (ae (i:=1)) (aa (ae (i:=2)) af))) (yT (aH ag (bw.m (fP hr.units)) (ae (i:=0)) ah) (kP mw.mono Ui (hr.mono (by decide)) Br.m Br.F.kp Br.b (aa (ae (i:=1)) (aa (ae (i:=2)) af))) (kP jR.mono Mz (hr.mono (by decide)) uV.m uV.F.kp uV.b (aa (ae (i:=1)) (aa (ae (i:=2)) af)))))) (λ_=>(aj (aJ (i:=3) (ae (i:=4)) cJ.nd))) ZA.Qa cJ.nd)
    (ai (bG (aH ag (bw.m pN) (ae (i:=3)) dk) (aj (aM cw)) aY)
    (aj (aM (aF sV.mono Ug (hr.mono (by decide)) Bo.m Bo.F.kp Bo.b (aa (ae (i:=3)) af))))))),λds R h=>?_⟩
 obtain⟨a,n,ps,x,rfl,ok,hn,h⟩:=h;refine⟨λβ=>∃d,β=[some (.val false (.int a)),some (.val false (gj n ps)),some (.val false x),some (.val true d),none]/\((d=.cO/\R (.str ""))\/∃i s,(i,s)∈knd/\d=.exc (c i)/\R (.str s)),
  ⟨λcl=>∃i s,(i,s)∈knd/\cl=c i/\R (.str s),?_,λcl h=>by
   obtain⟨i,s,hi,rfl,q⟩:=h;exact⟨ZA.TR i (GP hi),_,rfl,_,rfl,.inr ⟨i,s,hi,rfl,q⟩⟩⟩,?_⟩
 ·rcases h with⟨ts,ha,rfl,hl,hp,q1,q2⟩|⟨k,rfl,rfl,q1,q2⟩
  ·rcases ha with rfl|rfl|rfl
   ·exact⟨_,rfl,trivial,_,bL _ _,_,rfl,jx rfl ⟨_,rfl,trivial,_,rfl,trivial,n,ps,ts,rfl,ok,hn,hl,hp,λz=>⟨5,_,GQ,rfl,q1 z⟩,λz ns _ _=>⟨_,rfl,.inl ⟨rfl,q2 z⟩⟩⟩⟩
   ·exact⟨_,rfl,trivial,_,bL _ _,_,rfl,de rfl ⟨_,rfl,trivial,_,bL _ _,_,rfl,jx rfl ⟨_,rfl,trivial,_,rfl,trivial,n,ps,ts,rfl,ok,hn,hl,hp,λz=>⟨5,_,GQ,rfl,q1 z⟩,λz ns _ _=>⟨_,rfl,.inl ⟨rfl,q2 z⟩⟩⟩⟩⟩
   ·exact⟨_,rfl,trivial,_,bL _ _,_,rfl,de rfl ⟨_,rfl,trivial,_,bL _ _,_,rfl,de rfl ⟨_,rfl,trivial,_,bL _ _,_,rfl,jx rfl ⟨_,rfl,trivial,_,rfl,trivial,n,ps,ts,rfl,ok,hn,hl,hp,λz=>⟨5,_,GQ,rfl,q1 z⟩,λz ns _ _=>⟨_,rfl,.inl ⟨rfl,q2 z⟩⟩⟩⟩⟩⟩
  ·exact⟨_,rfl,trivial,_,bL _ _,_,rfl,de rfl ⟨_,rfl,trivial,_,bL _ _,_,rfl,de rfl ⟨_,rfl,trivial,_,bL _ _,_,rfl,de rfl ⟨_,rfl,trivial,_,rfl,trivial,n,ps,k,rfl,ok,hn,λz=>⟨4,_,Ow,rfl,q1 z⟩,λy z=>⟨_,rfl,.inl ⟨rfl,q2 y z⟩⟩⟩⟩⟩⟩
 ·rintro β ⟨d,rfl,⟨rfl,q⟩|⟨i,s,hi,rfl,q⟩⟩
  ·exact⟨_,rfl,trivial,_,rfl,_,rfl,jx rfl ⟨trivial,q⟩⟩
  ·exact⟨_,rfl,trivial,_,rfl,_,rfl,de rfl ⟨_,rfl,trivial,i,s,hi,rfl,trivial,q⟩⟩
end
end ip
namespace L2.Q
open PySem PySem.Spec PyProof.Rows
section
variable {X:Cx}{C:Cfg}{p:Bool}{i j:Nat}{x y:Str}{a b:Expr}{φs:bO}{pos px py pt FQ:Pos}{kt k2}
theorem F7 (hc:X.calm=true)(ha:oZ X C.z p [a,b] φs)(hN:X.N.Nodup)(hi:X.N[i]?=some x:=by rfl)(hj:X.N[j]?=some y:=by rfl)(aV:i≠j:=by decide)
  (hx:X.env.scope.names.lookup x=some .local:=by rfl) (hy:X.env.scope.names.lookup y=some .local:=by rfl)
  (hw:YN [.Tuple [.Name x px,.Name y py] kt pt] (.Tuple [a,b] k2 FQ) X.env=pure (some [x,y]):=by rfl)
  (hs:YM [.Tuple [.Name x px,.Name y py] kt pt] (.Tuple [a,b] k2 FQ) pos.line X.env=pure false:=by rfl) :
  PB X C (.Assign [.Tuple [.Name x px,.Name y py] kt pt] (.Tuple [a,b] k2 FQ) pos) (λE β=>φs β λds ks β'=>∃d1 d2,ds=[d1,d2]/\v9 d1 (fe ks) λb1=>v9 d2 (fe ks) λb2=>E.nx ((β'.set i (some b1)).set j (some b2))) :=
 ⟨λE E' β l q=>ha.mono _ _ _ (λds ks β' Kw=> by obtain⟨d1,d2,e,q⟩ := Kw;exact⟨d1,d2,e,v9.mono (λ_ q=>v9.mono (λ_=>l.nx _) q) q⟩) q,(FR hc hN hi hj aV hx hy ha.pa hw hs).pre λD σ H ⟨Z,E,β,⟨own,s,n⟩,q,ok⟩=>qA.of ha s q λds ks β' vs H' aN Kv o r=> by
  obtain⟨d1,d2,e,q⟩ := Kv;subst e;obtain⟨v1,vr,rfl,h1,h2⟩:=r.iy;obtain⟨v2,RE,rfl,h3,h4⟩:=h2;cases (show RE=[] from h4)
  have k1:KV X.prog X.w C.z (H,Wn own) aN H' (fe ks) d1 v1:=dN▸KV.of (by rw[dN];exact h1)
  have k2:KV X.prog X.w C.z (H,Wn own) aN H' (fe ks) d2 v2:=dN▸KV.of (by rw[dN];exact h3)
  obtain⟨y1,q,r1⟩:=v9.of k1 q;obtain⟨y2,q,r2⟩:=v9.of k2 q;exact⟨v1,v2,rfl,ok.nx _ _ _ ⟨_,(o.sq.d6 (aA.aS (λa z=>z.elim id λz=>z.elim) r1)).d6 (aA.aS (λa z=>z.elim id λz=>z.elim) (aA.aS (λa z=>by cases y2 with|true=>exact z.imp fG id|false=>exact fG z) r2)),gu (gu (n.trans o.sn))⟩ q⟩⟩
theorem CP {ss:List Stmt}{ψ:BR}(i:Nat)(h:lq X C ss ψ):lq X C ss (λE β=>∃y d,β[i]?=some (some (.val y d))/\ψ E (β.set i (some (.val false d)))) :=
 ⟨λE E' β l q=>by obtain⟨y,d,e,q⟩:=q;exact⟨y,d,e,h.mono E E' _ l q⟩,h.ps.pre λD σ H z=>by
  obtain⟨Z,E,β,⟨own,s,n⟩,⟨y,d,e,q⟩,ok⟩:=z;obtain⟨v,h1,h2⟩:=s.val i y d e;have s':=s.d6 (i:=i) (y:=false) (aA.aS (λa z=>by cases y with|true=>exact z.imp .inl id|false=>exact z) h2)
  rw[show σ.set i (some v)=σ from by
   obtain⟨hi,e⟩:=Vc.mp h1;rw[<- e];exact List.set_getElem_self hi]at s'
  exact⟨Z,E,_,⟨_,s',gu n⟩,q,ok⟩⟩
end
end L2.Q
namespace ip
open PySem L2 L2.Q
section
variable {P:U_}{w:Vl}{K:PySem.W.Frag}{mg:Str->Option U5}{base:Heap}
theorem Bl:L7 (.int 10) (.int 15)=some (.int (10 ^ 15)):=by
 show (if yy 10 15 then _ else none)=_
 rw[if_pos (by decide)]
 rfl
theorem yf (ps:List (Nat×Nat)):B6 (.lst (ps.map λp=>kD (tI p))) (.lst [])=some (.bl (!decide (ps=[]))):=by
 have:=Bn (ps.map tI) [];rw[Wr]at this;refine this.trans ?_;cases ps <;> rfl
def A_:FD:=λds R=>∃(n:Nat) (ps:List (Nat×Nat)) (ts:List (List Int)),ds=[gj n ps,.lst (ts.map kD)]/\qv n ps/\n<=40/\ts.length<=500/\Pairs ts/\∀us,Pairs us->us.length<=502->R (.lst (us.map kD))
theorem A_.mono:cH A_:=λds R R' k ⟨n,ps,ts,e,h1,h2,h3,h4,q⟩=>⟨n,ps,ts,e,h1,h2,h3,h4,λus a b=>k _ (q us a b)⟩
theorem aU:aI ["deck","row","some","at","far","a","some_ties","tie","own","ahead","behind","found"] ["deck","row","some"] (ao dB):=⟨rfl,rfl,rfl,by decide +kernel,rfl,by decide +kernel,by decide +kernel⟩
theorem Gh {xZ oA} (EU:Qo K mg xZ oA) {HI uP} (dT:D1 K mg HI uP) (B:qz mg):aD P w K mg base bz 2 xZ oA ["deck","row","some"] (jB P w mO false A_):=by
 have GT:aD P w K mg base bz 1 _ _ _ (jB P w mO true bu):=pR dT.F;refine Gu EU.F aU (λds R Ku=> by obtain⟨n,ps,ts,e,_⟩ := Ku;subst e;rfl) λbQ A outer s H E IO hr=>⟨_,(ai (aJ (i:=3) (aX (ih:=0) bu.mono GT (hr.mono (by decide)) dT.m dT.F.kp dT.b (aa (aG aE ay (bS ag (cY.m jW) B.len qr (aa (ae (i:=2)) af)) ah) af)) aU.nd)
    (ai (aJ (i:=4) (aG ag (bw.m i9) (aX (ih:=0) bu.mono GT (hr.mono (by decide)) dT.m dT.F.kp dT.b (aa ah af)) (aL ag a6 (aO (aa ah (aa (aG ag (bw.m vP) ah ah) af))) (aX (ih:=0) bu.mono GT (hr.mono (by decide)) dT.m dT.F.kp dT.b (aa ah af)))) aU.nd)
    (ai (aJ (i:=5) (aX (ih:=0) bu.mono GT (hr.mono (by decide)) dT.m dT.F.kp dT.b (aa (aG aE ay (aL ag a6 (ae (i:=1)) ah) ah) af)) aU.nd)
    (ai (aJ (i:=6) (aO (aa (bh (aa (ae (i:=5)) (aa (aG aE ay (aG aE ay (ae (i:=5)) ah) (aX (ih:=0) bu.mono GT (hr.mono (by decide)) dT.m dT.F.kp dT.b (aa ah af))) af))) (aa (bh (aa (ae (i:=5)) (aa (ae (i:=5)) af))) (aa (bh (aa (aG ag (bw.m cm) (rF iT ah) (ae (i:=4))) (aa (ae (i:=5)) af))) (aa (bh (aa (ae (i:=5)) (aa (aG aE ay (aL ag a6 (ae (i:=1)) ah) (ae (i:=4))) af))) af))))) aU.nd)
    (ai (aJ (i:=7) (aL ag a6 (ae (i:=6)) (aX (ih:=0) bu.mono GT (hr.mono (by decide)) dT.m dT.F.kp dT.b (aa ah af))) aU.nd)
    (dM (bG (mL.t (dJ (aH ag (bw.m (fO hr.units)) (aL ag a6 (ae (i:=1)) ah) (aO af)) (cM (aH ag (bw.m (fP hr.units)) (aX (ih:=0) bu.mono GT (hr.mono (by decide)) dT.m dT.F.kp dT.b (aa ah af)) ah)))) (aj (aJ (i:=7) (aL ag a6 (aL ag a6 (ae (i:=1)) ah) (aX (ih:=0) bu.mono GT (hr.mono (by decide)) dT.m dT.F.kp dT.b (aa (bS ag (cY.m jW) B.len qr (aa (aL ag a6 (ae (i:=1)) ah) af)) af))) aU.nd)) aY)
    (CP 7 (ai (aJ (i:=8) (aL ag a6 (aG aE ay (ae (i:=2)) (aO (aa (ae (i:=7)) af))) (ae (i:=3))) aU.nd)
    (ai (F7 (i:=9) (j:=10) rfl (aa (nQ (ae (i:=2)) fo (fm (ae (i:=3)))) (aa (nQ (ae (i:=2)) (fm (aG aE ay (ae (i:=3)) ah)) fo) af)) aU.nd)
    (ai (aJ (i:=11) (aO (aa (aG aE ay (aG aE ay (ae (i:=9)) (aO (aa (ae (i:=7)) af))) (nQ (ae (i:=2)) (fm (ae (i:=3))) fo)) (aa (aG aE ay (aG aE ay (ae (i:=9)) (aO (aa (ae (i:=8)) (aa (ae (i:=8)) af)))) (ae (i:=10))) (aa (aG aE ay (ae (i:=9)) (ae (i:=10))) af)))) aU.nd)
    (ai (aJ (i:=11) (aG aE ay (ae (i:=11)) (aO (aa (aG aE ay (aG aE ay (ae (i:=9)) (aO (aa (ae (i:=7)) af))) (ae (i:=10))) (aa (aG aE ay (aG aE ay (ae (i:=9)) (aO (aa (bh (aa (aL ag a6 (ae (i:=8)) ah) (aa (aL ag a6 (ae (i:=8)) ah) af))) af))) (ae (i:=10))) af)))) aU.nd)
    (ai (aJ (i:=11) (aG aE ay (ae (i:=11)) (aO (aa (FV (ae (i:=2))) (aa (bS aE qp B.sorted oT (aa (aG aE ay (ae (i:=2)) (aO (aa (ae (i:=7)) af))) af)) af)))) aU.nd)
    (aj (aM (aL ag a6 (ae (i:=11)) (aX (ih:=0) bu.mono GT (hr.mono (by decide)) dT.m dT.F.kp dT.b (aa ah af))))))))))))))))),λds R h=>?_⟩
 obtain⟨n,ps,ts,rfl,ok,hn,hl,hp,q⟩:=h;refine⟨rfl,_,rfl,trivial,_,rfl,trivial,_,rfl,trivial,rfl,trivial,(ts.length:Int)+1,by rw[U9],by lia,by lia,λnz t0 t1=>?_⟩
 obtain⟨nz,rfl⟩:=Int.eq_ofNat_of_zero_le t0;refine⟨rfl,trivial,rfl,trivial,65536,rfl,by decide,by decide,λf f0 f1=>?_⟩
 refine⟨trivial,trivial,trivial,_,Bl,trivial,h9,trivial,rfl,trivial,rfl,trivial,2,rfl,by decide,by decide,λg g0 g1=>?_⟩
 obtain⟨v,ev⟩:∃v,qi (.lst [.int 1,.int (10 ^ 15)]) (.int g)=some (.int v):=by
  rcases (show g=0\/g=1 by lia)with rfl|rfl
  ·exact⟨1,rfl⟩
  ·exact⟨_,rfl⟩
 refine⟨_,ev,_,qh (.inl ⟨by lia,by lia⟩),?_⟩
 generalize f*v=B5;refine⟨rfl,_,rfl,trivial,_,rfl,trivial,_,rfl,trivial,rfl,trivial,(n:Int)+1,rfl,by lia,by lia,λa a0 a1=>?_⟩
 refine⟨_,rfl,trivial,_,rfl,trivial,_,rfl,trivial,rfl,trivial,rfl,trivial,6,rfl,by decide,by decide,λe e0 e1=>?_⟩
 refine⟨_,rfl,trivial,h9,trivial,?_⟩;refine⟨_,rfl,trivial,_,rfl,trivial,h9,trivial,?_⟩;refine⟨_,rfl,rfl,trivial,_,rfl,_,rfl,trivial,_,rfl,trivial,h9,trivial,?_⟩;refine⟨_,rfl,trivial,_,rfl,trivial,_,rfl,trivial,_,rfl,_,rfl,trivial,h9,trivial,?_⟩;refine⟨du (by show 4<=1000;decide),?_⟩
 refine⟨_,rfl,trivial,rfl,trivial,rfl,trivial,4,rfl,by decide,by decide,λi i0 i1=>?_⟩
 obtain⟨tx,ty,et⟩:∃x y,qi (.lst [.tup [.int a,.int (a+1+e)],.tup [.int a,.int a],.tup [.int (-1-B5),.int a],.tup [.int a,.int (n+B5)]]) (.int i)=some (kD [x,y]):=by
  rcases (show i=0\/i=1\/i=2\/i=3 by lia)with rfl|rfl|rfl|rfl
  ·exact⟨_,_,rfl⟩
  ·exact⟨_,_,rfl⟩
  ·exact⟨_,_,rfl⟩
  ·exact⟨_,_,rfl⟩
 refine⟨_,et,?_⟩;refine⟨λβ=>∃y tx ty x6,β=[some (.hand mO),some (.val false (gj n ps)),some (.val false (.lst (ts.map kD))),some (.val true (.int (nz:Int))),some (.val true (.int B5)),some (.val true (.int a)),x6,some (.val y (kD [tx,ty])),none,none,none,none],?_,?_⟩
 ·refine⟨_,rfl,trivial,_,rfl,.inr ⟨trivial,Vv _,_,yf _,_,rfl,?_⟩⟩
  by_cases AU:ps=[]
  ·refine de (by rw[AU];rfl) ⟨_,_,_,_,rfl⟩
  ·refine jx (by rw[decide_eq_false AU];rfl) ?_
   refine⟨rfl,trivial,rfl,trivial,2,rfl,by decide,by decide,λd2 U0 UZ=>⟨trivial,_,bL _ _,_,rfl,me (λ_=>?_) λ_=>⟨_,_,_,_,rfl⟩⟩⟩
   have AR:0<ps.length:=List.length_pos_iff.mpr AU;have SY:=ok.sm;refine⟨_,rfl,trivial,_,rfl,.inr ⟨trivial,rfl,_,rfl,trivial,_,rfl,.inr ⟨trivial,_,rfl,trivial,rfl,trivial,(ps.length:Int),by rw[U9],by lia,by lia,λk k0 k1=>?_⟩⟩⟩
   obtain⟨k,rfl⟩:=Int.eq_ofNat_of_zero_le k0;obtain⟨pp,B0⟩:∃p,ps[k]?=some p:=⟨_,Vf (by lia)⟩
   exact⟨_,l8 (d:=kD (tI pp)) (i:=k) rfl (by rw[Vq,B0];rfl),_,_,_,_,rfl⟩
 ·rintro β ⟨yt,tx,ty,x6,rfl⟩;have Tt:nz<=ts.length:=by lia
  have p2:Pairs (ts++[[tx,ty]]):=λu hu=>(VC.mp hu).elim (hp u) λh=>⟨tx,ty,Vn.mp h⟩;obtain⟨ox,oy,eo⟩:∃x y,(ts++[[tx,ty]])[nz]?=some [x,y]:=by
   have e:(ts++[[tx,ty]])[nz]?=some ((ts++[[tx,ty]])[nz]'(by rw[Vk];exact Nat.lt_succ_of_le Tt)):=Vf _
   obtain⟨x,y,h⟩:=p2 _ (VB e);exact⟨x,y,by rw[e,h]⟩
  have e1:tj (.lst (ts.map kD)) (.lst [kD [tx,ty]])=some (.lst ((ts++[[tx,ty]]).map kD)):=oN (vs:=[[tx,ty]]) (by show _+1<=_;lia)
  refine⟨_,_,rfl,?_⟩;refine⟨_,rfl,trivial,_,rfl,trivial,mZ,.inl ⟨⟨rfl,trivial⟩,_,e1,.inl ⟨a5 _,trivial,_,rfl,_,l8 (d:=kD [ox,oy]) (i:=nz) rfl (by rw[Vq,eo];rfl),?_⟩⟩⟩
  have Rn:LZ (.lst (ts.map kD)) none (some (nz:Int))=some (.lst ((ts.take nz).map kD)):=by show some (D.lst (cutD _ _ _))=_;rw[mH]
  have Rm:LZ (.lst (ts.map kD)) (some ((nz:Int)+1)) none=some (.lst ((ts.drop (nz+1)).map kD)):=by show some (D.lst (cutD _ _ _))=_;rw[show (nz:Int)+1=((nz+1:Nat):Int) by lia,tm]
  have Rl:LZ (.lst (ts.map kD)) (some (nz:Int)) none=some (.lst ((ts.drop nz).map kD)):=by show some (D.lst (cutD _ _ _))=_;rw[tm]
  generalize hA:ts.take nz=av at Rn;generalize hB:ts.drop (nz+1)=bv at Rm;generalize hC:ts.drop nz=cv at Rl;have la:av.length=nz:=by rw[<- hA,VW];lia
  have lb:bv.length=ts.length-(nz+1):=by rw[<- hB,WX]
  have lc:cv.length=ts.length-nz:=by rw[<- hC,WX]
  have pa:Pairs av:=λu hu=>hp u (by rw[<- hA]at hu;exact XY hu)
  have pb:Pairs bv:=λu hu=>hp u (by rw[<- hB]at hu;exact List.mem_of_mem_drop hu)
  have pc:Pairs cv:=λu hu=>hp u (by rw[<- hC]at hu;exact List.mem_of_mem_drop hu)
  have p1:∀x y,Pairs [[x,y]]:=λx y u hu=>⟨x,y,Vn.mp hu⟩;have Sh:∀x y,Pairs [[x,y],[x,y]]:=λx y u hu=>by
   rcases Va.mp hu with h|h
   ·exact⟨x,y,h⟩
   ·exact⟨x,y,Vn.mp h⟩
  have ap:∀{u v:List (List Int)},Pairs u->Pairs v->Pairs (u++v):=λa b w hw=>(VC.mp hw).elim (a w) (b w);have ad:∀(u v:List (List Int)),u.length<=1000->v.length<=1000->tj (.lst (u.map kD)) (.lst (v.map kD))=some (.lst ((u++v).map kD)):=λu v a b=>oN (by lia)
  have l1:∀u:List (List Int),u.length<=500->∀x,(u++[x]).length<=1000:=λu h x=>by rw[Vk];show _+1<=_;lia
  have l2:∀u:List (List Int),u.length<=500->∀x y,(u++[x,y]).length<=1000:=λu h x y=>by rw[Vk];show _+2<=_;lia
  refine⟨_,rfl,_,rfl,_,rfl,_,Rn,.inl ⟨a5 _,trivial,_,rfl,_,rfl,trivial,_,rfl,_,rfl,_,Rm,.inl ⟨a5 _,trivial,_,_,rfl,?_⟩⟩⟩;refine⟨_,rfl,trivial,_,rfl,trivial,mZ,.inl ⟨⟨rfl,trivial⟩,_,ad av [[tx,ty]] (by lia) (by show 1<=_;decide),.inl ⟨a5 _,trivial,_,rfl,_,rfl,_,rfl,_,Rl,.inl ⟨a5 _,_,ad _ cv (l1 av (by lia) _) (by lia),.inl ⟨a5 _,trivial,?_⟩⟩⟩⟩⟩
  refine⟨_,rfl,trivial,_,rfl,trivial,_,rfl,trivial,h9,.inl ⟨⟨rfl,rfl,trivial⟩,_,ad av [[ox,oy],[ox,oy]] (by lia) (by show 2<=_;decide),.inl ⟨a5 _,trivial,_,rfl,_,ad _ bv (l2 av (by lia) _ _) (by lia),.inl ⟨a5 _,trivial,?_⟩⟩⟩⟩
  refine⟨_,rfl,trivial,_,rfl,_,ad av bv (by lia) (by lia),.inl ⟨a5 _,trivial,Jg,?_⟩⟩
  refine⟨_,rfl,trivial,?_⟩;refine⟨_,rfl,trivial,_,rfl,trivial,mZ,.inl ⟨⟨rfl,trivial⟩,_,ad av [[tx,ty]] (by lia) (by show 1<=_;decide),.inl ⟨a5 _,trivial,_,rfl,_,ad _ bv (l1 av (by lia) _) (by lia),.inl ⟨a5 _,trivial,?_⟩⟩⟩⟩
  refine⟨_,rfl,trivial,_,rfl,trivial,_,rfl,trivial,_,rfl,trivial,_,rfl,trivial,h9,trivial,mZ,_,ad av [[oy,ox]] (by lia) (by show 1<=_;decide),.inl ⟨a5 _,trivial,_,rfl,_,ad _ bv (l1 av (by lia) _) (by lia),.inl ⟨a5 _,trivial,h9,?_⟩⟩⟩
  refine⟨_,df (by show 3+2<=_;decide),.inr ?_⟩
  refine⟨_,rfl,trivial,?_⟩;have er:L4 (.lst (ts.map kD))=some (.lst (ts.reverse.map kD)):=by show some (D.lst _)=_;rw[List.map_reverse]
  refine⟨_,rfl,_,er,.inl ⟨a5 _,trivial,?_⟩⟩;refine⟨_,rfl,trivial,_,rfl,trivial,mZ,.inl ⟨⟨rfl,trivial⟩,_,e1,.inl ⟨a5 _,trivial,_,t9 (λk hk=>by obtain⟨x,y,rfl⟩:=p2 k hk;exact λz=>(by cases z)) (by rw[Vk];show _+1<=_;lia),.inl ⟨a5 _,trivial,h9,?_⟩⟩⟩⟩
  refine⟨_,df (by show 5+2<=_;decide),.inr ?_⟩
  refine⟨_,rfl,trivial,rfl,trivial,rfl,trivial,7,rfl,by decide,by decide,λr r0 r1=>?_⟩
  have fin:∃us,Pairs us/\us.length<=502/\qi (.lst ([.lst ((av++[[tx,ty]]++cv).map kD),.lst ((av++[[ox,oy],[ox,oy]]++bv).map kD),.lst ((av++bv).map kD)]++[.lst ((av++[[tx,ty]]++bv).map kD),.lst ((av++[[oy,ox]]++bv).map kD)]++[.lst (ts.reverse.map kD),.lst ((gR (ts++[[tx,ty]])).map kD)])) (.int r)=some (.lst (us.map kD)):=by
   rcases (show r=0\/r=1\/r=2\/r=3\/r=4\/r=5\/r=6 by lia)with rfl|rfl|rfl|rfl|rfl|rfl|rfl
   ·exact⟨_,ap (ap pa (p1 _ _)) pc,by rw[Vk,Vk];show _+1+_<=_;lia,rfl⟩
   ·exact⟨_,ap (ap pa (Sh _ _)) pb,by rw[Vk,Vk];show _+2+_<=_;lia,rfl⟩
   ·exact⟨_,ap pa pb,by rw[Vk];lia,rfl⟩
   ·exact⟨_,ap (ap pa (p1 _ _)) pb,by rw[Vk,Vk];show _+1+_<=_;lia,rfl⟩
   ·exact⟨_,ap (ap pa (p1 _ _)) pb,by rw[Vk,Vk];show _+1+_<=_;lia,rfl⟩
   ·exact⟨_,λu hu=>hp u (List.mem_reverse.mp hu),by rw[X1];lia,rfl⟩
   ·exact⟨_,λu hu=>p2 u ((fk _).mem_iff.mp hu),by rw[(fk _).length_eq,Vk];show _+1<=_;lia,rfl⟩
  obtain⟨us,pu,lu,eu⟩:=fin;exact⟨_,eu,.inr ⟨trivial,rfl,q us pu lu⟩⟩
end
end ip
namespace L2.Q
open PySem PySem.Spec PySem.SeqAt PyProof.Rows
abbrev vb:=a8->(D->a8->Prop)->Prop
def NJ (X:Cx)(C:Cfg)(p:Bool)(φ:vb):TE:=λσ H Q=>∃β own,SQ X C σ H β own/\φ β λd β'=>∀v H' aN,Out X C σ H own p β' H' aN->aA X.prog X.w (λb=>H b≠none) H' d v->Q v H'
structure Qi (X:Cx)(C:Cfg)(p:Bool)(e:Expr)(φ:vb):Prop where
 mono:∀β R R',(∀d β,R d β->R' d β)->φ β R->φ β R'
 pe:PE X e (NJ X C p φ)
section
variable {X:Cx}{C:Cfg}{k ih:Nat}{f:Addr}{fd:VE}{ps:List Str}{F:FD}{p:Bool}{x hx:Str}{pp pos px:Pos}{e:Expr}{es:List Expr}{φs:bO}{ok:List Int->Prop}
def FJ (ih:Nat)(ok:List Int->Prop)(F:FD)(φs:bO):vb:=λβ R=>β[ih]?=some (some (.hand ok))/\φs β λds ks β1=>β1[ih]?=some (some (.hand ok))/\hold (fe ks) false/\F ds λd=>R d β1
theorem zC (mF:cH F)(G:aD X.prog X.w X.K X.mg X.base bz k f fd ps (jB X.prog X.w ok false F))(hr:cf k X.A)(hm:X.mg x=some (.ref f))(hk:PySem.W.keepIn X.K (.ref f)=true)(hb:Binds X.K fd ps [])(ha:oZ X C p es φs)(hN:X.N[ih]?=some hx:=by rfl)
  (hv:wQ X.env.scope hx:=by first|exact .inl rfl|exact .inr (.inl rfl)|exact .inr (.inr rfl)) (hd:(hx==("__debug__" : Str))=false:=by decide) (ic:(hx==("__classdict__" : Str))=false:=by decide) (hg:Gl X x:=by rfl) (hdb:(x==("__debug__" : Str))=false:=by decide)
  (gk:Vd (.Name hx px::es) X.env=(false,eval (.Name hx px) X.env)::Vd es X.env:=by rfl) (hpl:(Wt pos (Vd es X.env)).any (·.1)=false:=by rfl) :
  Qi X C false (.Call (.Name x pp) (.Name hx px::es) [] pos) (FJ ih ok F φs) :=
 ⟨λβ R R' k He=>by obtain⟨e,h⟩:=He;exact⟨e,ha.mono β _ _ (λds ks β1 uK=>by obtain⟨e,hh,q⟩:=uK;exact⟨e,hh,mF ds _ _ (λd q=>k _ _ q) q⟩) h⟩,
  (i6 G hr hg hm hk hb .nil vN (ba (fb (pos:=px) hN hv hd ic) ha.pa gk) (hdb:=hdb) (he:=gk) (hpl:=hpl)).pre λσ H Q AK=>by
  obtain⟨β,own,s,e,h⟩:=AK;obtain⟨hh,ns,h1,h2,h3,h4⟩:=s.pZ ih ok e;refine⟨.ref hh,h1,qA.of ha s h λds ks β1 vs H1 aB ⟨e1,ho,q⟩ o1 r1=>?_⟩;obtain⟨Ti,Oi,g1,g2,g3,g4,g5⟩:=o1.sq.pZ ih ok e1;rw[h1]at g1;cases g1;have wh:Wn aB hh:=⟨ih,by rw[g4];simp⟩
  rw[Ws];refine⟨hh,vs,ds,Oi,rfl,g2,g3,ak.aS (λa z=>?_) r1.iy,mF ds _ _ (λd q v H' g_ kp dn e' vU r=>?_) q⟩
  ·subst z;cases hk:fe ks with
   |own=>exact .inl wh
   |e8=>exact .inl wh
   |old=>exact wh
   |bor=>rw[hk]at ho;exact ho.elim
  ·exact q v H' aB ⟨o1.sq.drawn e1 h1 kp e' vU dn,o1.sn.kp (kp.mono λb z=>by rw[z];exact wh) dn,λz=>(nomatch z),o1.le⟩ (aA.aS (λa z e=>z (o1.sn.free e)) r)⟩
end
def rY (γ:dY)(τ:a_)(φ:vb)(ds:List D)(k:Kd)(β0:a8)(K:List D->Prop):Prop:=∃I:Nat->a8->List D->Prop,I 0 β0 [] /\
 (∀i d β o,ds[i]?=some d->I i β o->γ d (sk k d) β λβ1=>τ β1 λt β2=>if t=true then φ β2 λx β3=>o.length<Vh/\I (i+1) β3 (o++[x]) else I (i+1) β2 o)/\∀β o,I ds.length β o->f7 β0 β/\K o
theorem rY.mono {γ:dY}{τ:a_}{φ:vb}{ds:List D}{k:Kd}{β0:a8}{K K':List D->Prop}(h:∀o,K o->K' o)(q:rY γ τ φ ds k β0 K):rY γ τ φ ds k β0 K':=let ⟨I,h0,h1,h2⟩:=q;⟨I,h0,h1,λβ o z=>⟨(h2 β o z).1,h _ (h2 β o z).2⟩⟩
section
variable {X:Cx}{C:Cfg}{lk:List (Option Nat)}{γ:dY}{τ:a_}{φ:vb}{T:List Nat}{pc pe:Bool}
theorem u4 {σ:St}{H1:Hp}{β:a8}{own:Nat->List Addr}{a:Addr}{J:It}{ds:List D}{k:Kd}{K:List D->Prop}{End:Hp->Prop}
  (γm:∀d k β R R',(∀r,R r->R' r)->γ d k β R->γ d k β R') (τm:∀β R R',(∀d β,R d β->R' d β)->τ β R->τ β R') (φm:∀β R R',(∀d β,R d β->R' d β)->φ β R->φ β R')
  (inj:∀(i i' j:Nat),lk[i]?=some (some j)->lk[i']?=some (some j)->i=i') (hT:∀i∈T,∀j,lk[i]?≠some (some j))
  (s1:SQ X C σ H1 β own) (ha:H1 a=none) {hp:Bool} (B0:hp=true->(pc&&pe)=true) (hk:hold k hp) (it:wU X (av C (Wn own) k) J ds H1) (q:rY γ τ φ ds k (cT lk β) K)
  (fin:∀o H',K o->Out X C σ H1 own (pc&&pe) β H' own->KV X.prog X.w C (H1,Wn own) own H' .e8 (.lst o) (.ref a)->End H') :
  fX J (λv σ H Q=>∃own β d k,SQ X (C.u λc=>c=a) σ H β own/\Rp X (gb (C.u λc=>c=a) (Wn own) k) H d v/\γ d k β λβ'=>∀σ' aN,SQ X (C.u λc=>c=a) σ' H β' aN->(∀a,Wn aN a->Wn own a)->(∀j,j∉T->σ'[j]?=σ[j]?)->Q σ' H)
   (jw X (C.u λc=>c=a) pc τ) (λN σ H=>NJ X (C.u λc=>c=a) pe φ σ H λv H1=>∃xs,H1 a=some (.lst xs)/\xs.length<Vh/\N σ (upd H1 a (.lst (xs++[v]))))
   (λ_ H'=>End H') (dQ lk σ) (upd H1 a (.lst [])):=by
 obtain⟨I,i0,i1,i2⟩:=q;have h0:C.H0 a=none:=VT λz=>s1.hX a z ha;have sm:au H1 (upd H1 a (.lst [])):=au.new ha;have MR:∀c,Wn (a7 lk β own) c->c≠a:=λc z e=>by
  obtain⟨j,hj⟩:=aW c z;exact(s1.dm j c hj).1 (by rw[e];exact ha)
 let S:Nat->St->Hp->Prop:=λi σ' H'=>∃βi dq vs o,SQ X (C.u λc=>c=a) σ' H' βi dq/\Sn (H1,Wn (a7 lk β own)) H' (Wn dq)/\(∀c,Wn dq c->Wn (a7 lk β own) c)/\H' a=some (.lst vs)/\ak X.prog X.w (λb=>H1 b≠none\/b=a) H' o vs /\
  ((pc&&pe)=true->au H1 H')/\(∀j,j∉T->σ'[j]?=(dQ lk σ)[j]?)/\I i βi o
 have W':Addr->Prop:=λb=>av C (Wn own) k b\/H1 b=none;have EC:=it (λb=>av C (Wn own) k b\/H1 b=none) λb z=>z;have kI:∀{H':Hp} {dq:Nat->List Addr},Sn (H1,Wn (a7 lk β own)) H' (Wn dq)->((pc&&pe)=true->au H1 H')->Kp (λb=>av C (Wn own) k b\/H1 b=none) H1 H':=λn pu=>by
  cases k with
  |own=>exact n.k.mono λb z=>z.imp (λz=>.inl (aW b z)) id
  |e8=>exact n.k.mono λb z=>z.imp (λz=>.inl (aW b z)) id
  |old=>exact n.k.mono λb z=>z.imp (aW b) id
  |bor =>
   cases hp with
   |false=>exact hk.elim
   |true=>exact(pu (B0 rfl)).kp.mono λb z=>.inr z
 refine⟨λi m σ' H'=>i<=ds.length/\m=ds.length-i/\S i σ' H',⟨_,Vv _,rfl,cT lk β,a7 lk β own,[],[],s1.enter ha inj,⟨λb z=>.inl z,sm.kp,λb z e=>z (sm.free e)⟩,λ_ z=>z,az,rfl,λ_=>sm,λ_ _=>rfl,i0⟩,?_⟩;rintro i m σ2 H2 ⟨hi,rfl,βi,dq,vs,o,sq,sn,le,IC,os,pu,st,hl⟩;obtain⟨c4,nj⟩:=EC i H2 (kI sn pu)
 by_cases dU:i<ds.length
 ·right
  have hd:ds[i]?=some ds[i]:=Vf dU;obtain⟨go,yl⟩:=c4 _ hd;refine⟨go,λσ' H'=>S (i+1) σ' H',λσ' H' h=>⟨_,by lia,dU,rfl,h⟩,λx H3 y=>?_⟩
  obtain⟨s3,r3⟩:=yl x H3 y;have P_:∀{dq:Nat->List Addr},(∀c,Wn dq c->Wn (a7 lk β own) c)->∀c,gb (C.u λc=>c=a) (Wn dq) k c->av C (Wn own) k c\/H1 c=none:=λle c z=>z.elim (λz=>.inl (ju (λc z=>aW c (le c z)) k c z)) λz=>.inr (by rw[z];exact ha)
  refine⟨dq,βi,_,_,sq.same s3,lG (aA.aS (P_ le) r3),γm _ _ _ _ _ (λβ4 q σ4 lP s4 w4 t4=>?_) (i1 i _ βi o hd hl)⟩;have GJ:∀c,Wn lP c->Wn (a7 lk β own) c:=λc z=>le c (w4 c z);refine⟨β4,lP,s4,τm _ _ _ (λt β5 q H5 i8 o5=>?_) q⟩;have Dj:∀c,Wn i8 c->Wn (a7 lk β own) c:=λc z=>GJ c (o5.le c z);have QR:∀{H H':Hp} {ow:Nat->List Addr},(∀c,Wn ow c->Wn (a7 lk β own) c)->Kp (λb=>Wn ow b\/H b=none) H H'->∀{o vs},ak X.prog X.w (λb=>H1 b≠none\/b=a) H o vs->ak X.prog X.w (λb=>H1 b≠none\/b=a) H' o vs:=λl kp=>λr=>ak.aS (λb z=>.inl z) ((ak.grow (λb z=>z) r).keep (kp.mono λb z=>z.imp (λz=>.inl (by obtain⟨j,hj⟩:=aW b (l b z);exact(s1.dm j b hj).1)) id))
  have QS:∀{H H':Hp} {ow:Nat->List Addr},(∀c,Wn ow c->Wn (a7 lk β own) c)->Kp (λb=>Wn ow b\/H b=none) H H'->∀{vs},H a=some (.lst vs)->H' a=some (.lst vs):=λl kp=>λe=>kp.out a _ e λz=>z.elim (λz=>MR _ (l _ z) rfl) λz=>absurd (e.symm.trans z) (λz=>(nomatch z));have Ip:ak X.prog X.w (λb=>H1 b≠none\/b=a) H5 o vs:=QR GJ o5.sn.k (os.same s3);have xX:H5 a=some (.lst vs):=QS GJ o5.sn.k (s3 a _ IC);have Fy:Sn (H1,Wn (a7 lk β own)) H5 (Wn i8):=(gS (sn.same s3) w4).trans o5.sn;have Jy:(pc&&pe)=true->au H1 H5:=λz=>((pu z).trans s3).trans (o5.pu (BL z)).1;have Ei:∀j,j∉T->σ4[j]?=(dQ lk σ)[j]?:=λj hj=>(t4 j hj).trans (st j hj);cases t with
  |false=>exact⟨β5,i8,vs,o,o5.sq,Fy,Dj,xX,Ip,Jy,Ei,q⟩
  |true =>
   refine⟨β5,i8,o5.sq,φm _ _ _ (λxd β6 ⟨hz,q⟩ v H6 zS o6 r6=>?_) q⟩;have jQ:H6 a=some (.lst vs):=QS Dj o6.sn.k xX;have JE:=QR Dj o6.sn.k Ip;have R9:aA X.prog X.w (λb=>H1 b≠none\/b=a) H6 xd v:=aA.aS (λb z=>z.elim (λz e=>z (Fy.free e)) λz=>by rw[z,xX];exact λz=>(nomatch z)) r6
   have QQ:Kp (λb=>H1 b≠none\/b=a) H6 (upd H6 a (.lst (vs++[v]))):=(iD jQ (λxs z=>by cases z)).mono λb z=>.inr z
   refine⟨vs,jQ,by rw[JE.length];exact hz,β6,zS,vs++[v],o++[xd],o6.sq.FA jQ (λxs z=>by cases z) h0,?_,λc z=>Dj c (o6.le c z),az,(JE.keep QQ).append (.one (R9.keep QQ)),λz=>?_,Ei,q⟩
   ·have m:=Fy.trans o6.sn;refine⟨m.w,m.k.trans ((iD jQ (λxs z=>by cases z)).mono λb z=>.inr (by rw[z];exact ha)),λb z e=>?_⟩
    by_cases hb:b=a
    ·rw[hb,az]at e;cases e
    ·rw[ar hb]at e;exact m.d b z e
   ·refine λb ob e=>?_;rw[ar (λz'=>by rw[z',ha]at e;cases e)]
    exact(o6.pu (Ml z)).1 b ob (Jy z b ob e)
 ·left
  have e:i=ds.length:=by lia
  subst e;obtain⟨hh,q⟩:=i2 βi o hl;have lv:SQ X C σ H2 β own:=s1.leave sq sn le hh λj ok i' e1 e2=>st i' λz=>hT i' z j e2;exact⟨nj (U8 _),fin o H2 q ⟨lv,⟨λb z=>.inl z,sn.k.mono λb z=>z.imp (aW b) id,sn.d⟩,λz=>⟨pu z,rfl⟩,λ_ z=>z⟩ ⟨a,vs,rfl,IC,λz=>z.elim (λKt=> by obtain⟨j,hj⟩ := Kt;exact(s1.dm j a hj).1 ha) λz=>z h0,ak.aS (λc z=>.inl (z.elim (λKs=> by obtain⟨j,hj⟩ := Ks;exact(s1.dm j c hj).1) λz=>s1.hX c z)) os⟩⟩
def zm (lk:List (Option Nat))(ι:dg)(γ:dY)(τ:a_)(φ:vb):aZ:=λβ R=>ι β λds k β1=>hold k false/\rY γ τ φ ds k (cT lk β1) λo=>R (.lst o) .e8 β1
variable {scope:Xz}{N':List Str}{tg c4 elt:Expr}{ifs:List Expr}{ι:dg}{pi:Bool}{pos:Pos}{i:Nat}
theorem FX (L:Links X scope N' lk)(wt:N'.Nodup)(hT:T.all (λi=>match lk[i]? with|some (some _)=>false|_=>true)=true)(hc:X.calm=true)(hi:yr X C pi tg c4 ι)
  (sC:∀a cl c s H ex,yu (aK X scope N' cl c s H ex) (C.u λc=>c=a) tg T γ) (sA:∀a cl c s H ex,tK (aK X scope N' cl c s H ex) ifs (jw (aK X scope N' cl c s H ex) (C.u λc=>c=a) pc τ)) (τm:∀β R R',(∀d β,R d β->R' d β)->τ β R->τ β R')
  (sG:∀a cl c s H ex,Qi (aK X scope N' cl c s H ex) (C.u λc=>c=a) pe elt φ) (γm:∀d k β R R',(∀r,R r->R' r)->γ d k β R->γ d k β R') (φm:∀β R R',(∀d β,R d β->R' d β)->φ β R->φ β R')
  (hs:∀x,V0 c4 X.env x=pure x:=by intro _;rfl):PQ X C (pi&&(pc&&pe)) (.ListComp elt [⟨tg,c4,ifs,0⟩] scope pos) (zm lk ι γ τ φ):=by
 have HE:∀i∈T,∀j,lk[i]?≠some (some j):=λi hi j e=>by
  have:=Wi.mp hT i hi;rw[e]at this;cases this
 refine⟨λβ R R' k h=>hi.mono β _ _ (λds kd β1 q=>⟨q.1,q.2.mono λo z=>k _ _ _ z⟩) h,?_⟩;refine(lN (g:=⟨tg,c4,ifs,0⟩) (gs:=[]) (tg:=λa v σ H Q=>∃own β d k,SQ X (C.u λc=>c=a) σ H β own/\Rp X (gb (C.u λc=>c=a) (Wn own) k) H d v/\γ d k β λβ'=>∀σ' aN,SQ X (C.u λc=>c=a) σ' H β' aN->(∀a,Wn aN a->Wn own a)->(∀j,j∉T->σ'[j]?=σ[j]?)->Q σ' H)
  (tt:=λa=>jw X (C.u λc=>c=a) pc τ) (ta:=λa N σ H=>NJ X (C.u λc=>c=a) pe φ σ H λv H1=>∃xs,H1 a=some (.lst xs)/\xs.length<Vh/\N σ (upd H1 a (.lst (xs++[v]))))
  L hc i_ rfl rfl (λ_ _=>Bz) hi.pi (λa cl c s H ex=>⟨(sC a cl c s H ex).pg,sA a cl c s H ex,i7 rfl (sG a cl c s H ex).pe⟩) hs).pre λσ H Q ⟨β,own,s,h⟩=>?_
 refine⟨β,own,s,hi.mono β _ _ (λds k β1 ⟨hk,q⟩ J H1 aB o1 it a ha=>?_) h⟩;exact u4 γm τm φm (fx L wt) HE o1.sq ha (hp:=false) (λz=>by cases z) hk it q λo H' q o2 r=>q _ _ aB (o1.trans o2) (r.later o1.sn)
theorem SF (N':List Str)(lk:List (Option Nat))(L:jL X.env.scope.names X.N scope N' lk=true)(wt:N'.Nodup)(hc:X.calm=true)(hi:yr X C pi tg c4 ι)
  (sC:∀U cl c s H ex,yu (aK X scope N' cl c s H ex) (C.u U) tg T γ) (sA:∀U cl c s H ex,vd (aK X scope N' cl c s H ex) (C.u U) pc ifs τ) (sG:∀U cl c s H ex,Qi (aK X scope N' cl c s H ex) (C.u U) pe elt φ)
  (hT:T.all (λi=>match lk[i]? with|some (some _)=>false|_=>true)=true:=by rfl) (hs:∀x,V0 c4 X.env x=pure x:=by intro _;rfl):PQ X C (pi&&(pc&&pe)) (.ListComp elt [⟨tg,c4,ifs,0⟩] scope pos) (zm lk ι γ τ φ) :=
 FX (Links.of L) wt hT hc hi (λa=>sC _) (λa cl c s H ex=>(sA _ cl c s H ex).pt) (sA (λ_=>False) [] 0 X.s₀ X.H₀ []).mono (λa=>sG _) (sC (λ_=>False) [] 0 X.s₀ X.H₀ []).mono (sG (λ_=>False) [] 0 X.s₀ X.H₀ []).mono hs
end
end L2.Q
namespace ip
open PySem L2 L2.Q
section
variable {P:U_}{w:Vl}{K:PySem.W.Frag}{mg:Str->Option U5}{base:Heap}{cA:Addr}{c:Nat->Addr}
theorem L5 (st:Str):L6 (.lst [.str st]) (.int 3)=some (.lst [.str st,.str st,.str st]):=by
 show (if 0<=(3:Int)/\(3:Int)<2 ^ 62/\[D.str st].length*(3:Int).toNat<=Vh then some (D.lst (Vt (3:Int).toNat [D.str st]).flatten) else none)=_
 rw[if_pos (by refine⟨by decide,by decide,?_⟩;show 1*3<=_;decide)]
 rfl
def Ba:FD:=λds R=>∃(n:Nat) (ps:List (Nat×Nat)) (ts:List (List Int)),ds=[gj n ps,.lst (ts.map kD)]/\qv n ps/\n<=40/\ts.length<=500/\Pairs ts/\R (.bl true)
theorem Ba.mono:cH Ba:=λds R R' k ⟨n,ps,ts,e,h1,h2,h3,h4,q⟩=>⟨n,ps,ts,e,h1,h2,h3,h4,k _ q⟩
theorem cI:aI ["deck","row","some","handed","one","given","due"] ["deck","row","some"] (ao eQ):=⟨rfl,rfl,rfl,by decide +kernel,rfl,by decide +kernel,by decide +kernel⟩
theorem Gk {DL wx} (ID:RC K mg DL wx) {xZ oA} (EU:Qo K mg xZ oA) {HI uP} (dT:D1 K mg HI uP) {yb oE} (yF:Qr K mg yb oE) {ya oC} (EV:Qq K mg ya oC) {sQ km} (B7:Nm K mg sQ km) {ny ie} (yE:MD K mg ny ie) {x_ oB} (qF:Qp K mg x_ oB) {p_ kg} (Bk:Nq K mg p_ kg) {qb ki} (Bm:Nn K mg qb ki) {qc kl} (Br:Nr K mg qc kl) {qa kh} (uV:Np K mg qa kh) {sP kj} (Bo:Nl K mg sP kj) {iH eY} (kL:Ij K mg iH eY) {tS hJ} (dE:E9 K mg tS hJ) {qE gd} (dO:Ec K mg qE gd) {oF fz} (dF:Ca K mg oF fz) {mQ eM} (dS:BV K mg mQ eM) {mP eK} (dX:D9 K mg mP eK) {hV dz} (ik:D7 K mg hV dz) {gh cW} (kK:D3 K mg gh cW) {gg cV} (kJ:D2 K mg gg cV) {gf cU} (kG:D6 K mg gf cU) {eF bX} (fD:D5 K mg eF bX) {fB cG} (jV:D4 K mg fB cG) {kB f_} (mU:II K mg kB f_) {kA f9} (mT:IJ K mg kA f9) {fA cF} (fE:B_ K mg fA cF) (B:qz mg) (bV:mg "ValueError" = none) (ZA:XA K mg cA c):aD P w K mg base bz 8 DL wx ["deck","row","some"] (jB P w mO true Ba):=by
 have T_:aD P w K mg base bz 2 _ _ _ (jB P w mO false A_):=Gh EU dT B;have Qn:aD P w K mg base bz 1 _ _ _ (cB P w true mC):=nY yF B.toBs;have Uh:aD P w K mg base bz 3 _ _ _ (cB P w true Bc):=Gq EV B7 yE B;have MA:aD P w K mg base bz 7 _ _ _ (cB P w true qf):=z5 qF Bk Bm Br uV Bo kL dE dO dF dS dX ik kK kJ kG fD jV mU mT fE B bV ZA;refine Gu ID.F cI (λds R Kr=> by obtain⟨n,ps,ts,e,_⟩ := Kr;subst e;rfl) λbQ A outer s H E IO hr=>⟨_,(ai (aJ (i:=3) (aF mC.mono Qn (hr.mono (by decide)) yF.m yF.F.kp yF.b (aa (ae (i:=1)) af)) cI.nd)
    (ai (bU VP rfl (bp (aG aE ay (aG aE ay (aO (aa (ae (i:=2)) af)) (SF ["k","deck","row","some"] [none,some 0,some 1,some 2] (by rfl) (by decide:(["k","deck","row","some"]:List Str).Nodup) rfl (bK B.range (aa ah af)) (λ_ _ _ _ _ _=>(aw (i:=0) (by decide:(["k","deck","row","some"]:List Str).Nodup))) (λ_ _ _ _ _ _=>gq) (λ_ _ _ _ _ _=>(zC (ih:=1) A_.mono T_ (hr.mono (by decide)) EU.m EU.F.kp EU.b (aa (ae (i:=2)) (aa (ae (i:=3)) af)))))) (aO (aa (ae (i:=2)) af)))) (aw (i:=4) cI.nd) (ai (aJ (i:=5) (fq aE gN B.list qq (aa (ae (i:=4)) af)) cI.nd)
    (dM (aJ (i:=6) (aL ag a6 (aO (aa cw (aa cw af))) (fq ag (cY.m oS) B.int BE (aa (aF Bc.mono Uh (hr.mono (by decide)) EV.m EV.F.kp EV.b (aa (ae (i:=1)) (aa (ae (i:=4)) af))) af))) cI.nd)
    (ai (bG (aH ag (bw.m (fO hr.units)) (J3 ["asked","handed","given"] [none,some 3,some 5] (by rfl) (by decide:(["asked","handed","given"]:List Str).Nodup) rfl (bK B.range (aa ah af)) (λ_ _ _ _ _ _=>(aw (i:=0) (by decide:(["asked","handed","given"]:List Str).Nodup))) (λ_ _ _ _ _ _=>gq) (λ_ _ _ _ _ _=>(aF qf.mono MA (hr.mono (by decide)) qF.m qF.F.kp qF.b (aa (ae (i:=0)) (aa (ae (i:=1)) (aa (ae (i:=2)) af)))))) (aG aE lQ (aO (aa (ae (i:=6)) af)) ah)) (aj (aM ft)) aY)
    (aj (bG (mL.t (fL (aH ag (bw.m (fO hr.units)) (ae (i:=5)) (ae (i:=4))) (gW (aH ag (bw.m (fO hr.units)) (ae (i:=3)) (ae (i:=1)))))) (aj (aM ft)) aY))))))
    (aj (aM ft)))),λds R h=>?_⟩
 obtain⟨n,ps,ts,rfl,ok,hn,hl,hp,q⟩:=h;refine⟨_,rfl,trivial,n,ps,rfl,?_⟩;refine⟨_,rfl,trivial,mZ,.inr ⟨trivial,trivial,5,rfl,by decide,by decide,trivial,?_⟩⟩
 refine⟨λi β o=>(∃x0,β=[x0,some (.hand mO),some (.val false (gj n ps)),some (.val false (.lst (ts.map kD)))])/\o.length=i/\i<=5/\∀d∈o,∃us,d=.lst (us.map kD)/\Pairs us/\us.length<=502,⟨⟨_,rfl⟩,rfl,Vv _,λd h=>nomatch h⟩,?_,?_⟩
 ·rintro i d β o hd ⟨⟨x0,rfl⟩,Lu,hi,ho⟩;have dU:i<5:=by
   have:=(Vc.mp hd).1
   rwa [bM]at this
  obtain⟨_,rfl⟩:=b7 hd;refine⟨rfl,_,rfl,trivial,_,rfl,trivial,rfl,trivial,n,ps,ts,rfl,ok,hn,hl,hp,λus pu lu=>⟨qV (by lia),⟨_,rfl⟩,by rw[Vk,Lu];rfl,dU,λd hd=>?_⟩⟩
  rcases VC.mp hd with hd|hd
  ·exact ho d hd
  ·exact⟨us,Vn.mp hd,pu,lu⟩
 ·rintro β o ⟨⟨x0,rfl⟩,Lu,_,ho⟩;rw[bM]at Lu;refine⟨⟨rfl,trivial⟩,_,df (by rw[Lu];show 1+5<=_;decide),.inr ⟨trivial,_,rfl,trivial,mZ,.inr ⟨_,df (by rw[Vk,Lu];show 1+5+1<=_;decide),.inr ⟨_,rfl,trivial,?_⟩⟩⟩⟩
  have DD:∀d∈[D.lst (ts.map kD)]++o++[D.lst (ts.map kD)],∃us,d=.lst (us.map kD)/\Pairs us/\us.length<=502:=λd hd=>by
   rcases VC.mp hd with hd|hd
   ·rcases VC.mp hd with hd|hd
    ·exact⟨ts,Vn.mp hd,hp,by lia⟩
    ·exact ho d hd
   ·exact⟨ts,Vn.mp hd,hp,by lia⟩
  generalize [D.lst (ts.map kD)]++o++[D.lst (ts.map kD)]=its at DD;refine⟨λi β=>∃x4 x5 x6,β=[some (.hand mO),some (.val false (gj n ps)),some (.val false (.lst (ts.map kD))),some (.val true (gj n ps)),x4,x5,x6],⟨_,_,_,rfl⟩,?_,?_⟩
  ·rintro i d β hd ⟨x4,x5,x6,rfl⟩;obtain⟨us,rfl,pu,lu⟩:=DD d (VB hd);refine⟨_,rfl,trivial,_,rfl,.inl ⟨a5 _,?_⟩⟩;refine⟨λβ=>∃st,β=[some (.hand mO),some (.val false (gj n ps)),some (.val false (.lst (ts.map kD))),some (.val true (gj n ps)),some (.val false (.lst (us.map kD))),some (.val true (.lst (us.map kD))),some (.val true (.str st))]/\B6 (.lst [.str st,.str st,.str st]) (.lst [.str st,.str st,.str st])=some (.bl false)/\((Good (ps.map tI) us/\st="")\/(¬ Good (ps.map tI) us/\st="set")),?_,?_⟩
   ·exact⟨trivial,trivial,h9,trivial,_,rfl,trivial,_,rfl,trivial,n,ps,us,rfl,by lia,pu,λz=>⟨trivial,_,rfl,_,rfl,_,rfl,gM (n:=3) (by decide +kernel),.inl ⟨z,rfl⟩⟩,λz=>⟨trivial,_,rfl,_,rfl,_,rfl,gM (n:=3) (by decide +kernel),.inr ⟨z,rfl⟩⟩⟩
   ·rintro β ⟨st,rfl,AU,ot⟩;refine⟨trivial,3,rfl,by decide,by decide,trivial,?_⟩
    refine⟨λi β o=>(∃x0,β=[x0,some (.val true (gj n ps)),some (.val true (.lst (us.map kD)))])/\o=Vt i (.str st)/\i<=3,⟨⟨_,rfl⟩,rfl,Vv _⟩,?_,?_⟩
    ·rintro i d β o hd ⟨⟨x0,rfl⟩,rfl,hi⟩;have dU:i<3:=by
      have:=(Vc.mp hd).1
      rwa [bM]at this
     obtain⟨_,rfl⟩:=b7 hd;have ha:(0+(i:Int))=0\/(0+(i:Int))=1\/(0+(i:Int))=2:=by lia
     have hle:(Vt i (D.str st)).length<Vh:=by rw[YA];exact qV (by lia)
     refine⟨_,rfl,trivial,_,rfl,trivial,_,rfl,trivial,0+(i:Int),n,ps,_,rfl,ok,hn,.inl ⟨us,ha,rfl,by lia,pu,λz=>?_,λz=>?_⟩⟩
     ·have e:st="set" := ot.elim (λh=>absurd h.1 z) λh=>h.2;subst e;exact⟨trivial,hle,⟨_,rfl⟩,List.replicate_succ'.symm,dU⟩
     ·have e:st="" := ot.elim (λh=>h.2) λh=>absurd z h.1;subst e;exact⟨trivial,hle,⟨_,rfl⟩,List.replicate_succ'.symm,dU⟩
    ·rintro β o ⟨⟨x0,rfl⟩,rfl,_⟩;rw[bM];refine⟨trivial,trivial,_,rfl,trivial,mZ,trivial,_,L5 st,.inl ⟨rfl,_,AU,_,rfl,de rfl ?_⟩⟩;exact⟨_,rfl,trivial,_,rfl,_,gM (d4 _),_,rfl,de rfl ⟨_,rfl,trivial,_,rfl,_,gM (q_ _ _),_,rfl,de rfl ⟨_,_,_,rfl⟩⟩⟩
  ·rintro β ⟨x4,x5,x6,rfl⟩;exact⟨trivial,rfl,q⟩
end
end ip
namespace L2.Q
open PySem PySem.Spec PyProof.Rows L2
theorem Cm {l:List Nat}{x:Nat}(hx:x∈l)(h:1<=x):1<=l.sum:=by
 induction l with
 |nil=>cases hx
 |cons a l ih =>
  rw[YQ];rcases Va.mp hx with rfl|h'
  ·lia
  ·have:=ih h';lia
theorem vD (ps:List (Nat×Nat)):∀n l i,1<=Im ps n l i
 |0,_,_=>U8 _
 |_+1,0,_=>U8 _
 |n+1,l+1,i=>by
  refine Cm (VV.mpr ⟨none,VM _ (Vn.mpr rfl),rfl⟩) ?_;show 1<=1*Im ps n _ _;rw[YE];exact vD ps n _ _
theorem FE (ps:List (Nat×Nat))(l i:Nat):1<=sa ps l i:=vD ps l l i
theorem rf (ps:List (Nat×Nat)):∀(qs:List (Nat×Nat)) (u:List (Nat×Nat)×List (Nat×Nat)×Int),(qs.foldl (rg ps) u).2.1.length<=u.2.1.length+qs.length
 |[],u=>U8 _
 |q::qs,u=>by
  refine Vy (rf ps qs (rg ps u q)) ?_;have:(rg ps u q).2.1.length<=u.2.1.length+1:=by
   unfold rg
   split
   ·lia
   ·split
    ·split
     ·rw[Vk];exact U8 _
     ·dsimp only;lia
    ·lia
  rw[Vo];lia
theorem Cu (ps:List (Nat×Nat))(n:Nat)(k:Int):(sat ps n k).length<=ps.length:=by
 have:=rf ps ps ([(0,n)],[],k)
 rwa [V6,XG]at this
end L2.Q
namespace ip
open PySem L2 L2.Q
section
variable {P:U_}{w:Vl}{K:PySem.W.Frag}{mg:Str->Option U5}{base:Heap}{cA:Addr}{c:Nat->Addr}
theorem lH:aI ["script","k"] ["script","k"] (ao c7):=⟨rfl,rfl,rfl,by decide +kernel,rfl,by decide +kernel,by decide +kernel⟩
def yZ (K:PySem.W.Frag):Sp:=λvs H Q _=>∃(a:Addr) (ns:List Int),vs=[.ref a,.int 0]/\dh K H a (ns.map V.int)/\∀c:Int,Q (.int c) H
theorem C9 {DO wz} (IF:RA K mg DO wz) (B:Bs mg):aD P w K mg base bz 1 DO wz ["script","k"] (yZ K):=by
 refine IF.F.ok lH (λvs H Q E h=>?_) (λbQ A outer s H vs Qk E hr h=>?_)
 ·obtain⟨a,ns,rfl,_⟩:=h;rfl
 ·obtain⟨a,ns,rfl,hS,k⟩:=h;refine⟨_,b8 (zw (pF zV (pv 1) (gD fU (by rfl) B.len qr (ba (pv 0) cZ)) (Ab _)) (eU (gA (ia c_ (pv 0) (pv 1) (λ_ _=>rfl)))) pG) (eU (gA a3)),?_⟩
  refine⟨_,rfl,_,rfl,a,_,rfl,.inl hS,0,_,rfl,rfl,_,rfl,?_⟩;dsimp only
  split
  ·rename_i hl
   cases ns with
   |nil=>exact absurd hl (by decide)
   |cons n ns=>exact⟨_,rfl,_,rfl,a,_,0,.int n,rfl,rfl,hS,(by unfold qt;rw[show yB (List.map V.int (n::ns)).length 0=some 0 by unfold yB;rw[if_pos (by decide),if_pos (by rw[U9,Vo];lia)];rfl];rfl),k n⟩
  ·exact k 0
theorem gv:aI ["script","cell","deck","row","kept","whole","far","number"] ["script"] (ao lI):=⟨rfl,rfl,rfl,by decide +kernel,rfl,by decide +kernel,by decide +kernel⟩
def yY (K:PySem.W.Frag):Sp:=λvs H Q _=>∃(a:Addr) (ns:List Int),vs=[.ref a]/\dh K H a (ns.map V.int)/\ns.length<=63/\∀H',Q (.bl true) H'
def JL (β:Q.a8):Prop:=∃y0 y1 y2 y3 y4 y5 y6 y7:Option Q.B,β=[y0,y1,y2,y3,y4,y5,y6,y7]
def k_:FD:=λds R=>∃(n:Nat) (ps:List (Nat×Nat)) (k:Int),ds=[gj n ps,.int k]/\qv n ps/\n<=40/\0<=k/\k<sT ps n 0/\R (nI (sat ps n k))
theorem k_.mono:cH k_:=λds R R' l ⟨n,ps,k,e,h1,h2,h3,h4,q⟩=>⟨n,ps,k,e,h1,h2,h3,h4,l _ q⟩
theorem Gp {f:Addr} {fd:VE} (F:BU K "law" "law" lI f fd) (B:qz mg) (bV:mg "ValueError" = none) (ZA:XA K mg cA c) {DM wy} (IE:D8 K mg DM wy) {hV dz} (ik:D7 K mg hV dz) {gh cW} (kK:D3 K mg gh cW) {gg cV} (kJ:D2 K mg gg cV) {gf cU} (kG:D6 K mg gf cU) {eF bX} (fD:D5 K mg eF bX) {fB cG} (jV:D4 K mg fB cG) {qa kh} (uV:Np K mg qa kh) {fA cF} (fE:B_ K mg fA cF) {p_ kg} (Bk:Nq K mg p_ kg) {kB f_} (mU:II K mg kB f_) {qb ki} (Bm:Nn K mg qb ki) {kA f9} (mT:IJ K mg kA f9) {qc kl} (Br:Nr K mg qc kl) {iH eY} (kL:Ij K mg iH eY) {tS hJ} (dE:E9 K mg tS hJ) {qE gd} (dO:Ec K mg qE gd) {oF fz} (dF:Ca K mg oF fz) {mQ eM} (dS:BV K mg mQ eM) {mP eK} (dX:D9 K mg mP eK) {DO wz} (IF:RA K mg DO wz) {TN PR} (dH:Up K mg TN PR) {HI uP} (dT:D1 K mg HI uP) {M6 DK} (dR:D0 K mg M6 DK) {yb oE} (yF:Qr K mg yb oE) {ny ie} (yE:MD K mg ny ie) {sQ km} (B7:Nm K mg sQ km) {PU LQ} (UY:Uo K mg PU LQ) {sP kj} (Bo:Nl K mg sP kj) {x_ oB} (qF:Qp K mg x_ oB) {ya oC} (EV:Qq K mg ya oC) {xZ oA} (EU:Qo K mg xZ oA) {DL wx} (ID:RC K mg DL wx):aD P w K mg base bz 45 f fd ["script"] (yY K):=by
 have Um:aD P w K mg base bz 1 _ _ _ (yZ K):=C9 IF B.toBs;have GH:aD P w K mg base bz 1 _ _ _ (cB P w true Bb):=C7 dH.F B.toBs;have GT:aD P w K mg base bz 1 _ _ _ (jB P w mO true bu):=pR dT.F;have GR:aD P w K mg base bz 3 _ _ _ (jB P w mO true sS):=Gj dR dT B.toBs;have Qn:aD P w K mg base bz 1 _ _ _ (cB P w true mC):=nY yF B.toBs;have Uk:aD P w K mg base bz 4 _ _ _ (cB P w true jo):=C8 IE ik kK kJ kG fD jV B;have Mz:aD P w K mg base bz 4 _ _ _ (cB P w true k_):=aD.Sk (nX uV ik kK kJ kG fD jV fE B ZA) (λds R Kq=> by obtain⟨n,ps,k,e,h1,h2,h3,h4,q⟩ := Kq;exact⟨n,ps,k,e,h1,h2,λz=>absurd ⟨h3,h4⟩ z,λ_ _=>q⟩) jR.mono
 have MA:aD P w K mg base bz 7 _ _ _ (cB P w true qf):=z5 qF Bk Bm Br uV Bo kL dE dO dF dS dX ik kK kJ kG fD jV mU mT fE B bV ZA;have Ub:aD P w K mg base bz 8 _ _ _ (jB P w mO true Ba):=Gk ID EU dT yF EV B7 yE qF Bk Bm Br uV Bo kL dE dO dF dS dX ik kK kJ kG fD jV mU mT fE B bV ZA;refine F.ok gv (λvs H Q E h=>?_) (λbQ A outer s H vs Qk E hr h=>?_)
 ·obtain⟨a,ns,rfl,_⟩:=h;rfl
 ·obtain⟨a,ns,rfl,hS,hlen,k⟩:=h;have Pj:∀b:Addr,¬ (λ_=>False) b:=λb z=>z;obtain⟨ψ,hb,hψ⟩:∃ψ,Q.lq (kM bz P w K mg base _ "law" (ao lI) f bQ A outer s H E).lU ⟨H,λ_=>False,true,λ_=>False⟩ (match (dW lI)with | .For _ _ b _ _::_=>b|_=>[]) ψ /\
    ∀(c:Int) (x0 x2 x3 x4 x5 x6 x7:Option Q.B),ψ {nx:=JL,rt:=λd _=>d=.bl true,bk:=JL,ct:=JL} [x0,some (.val true (.int c)),x2,x3,x4,x5,x6,x7]:=by
   refine⟨_,(ai (CQ (i:=2) mO Pj (λ_=>(aF Bb.mono GH (hr.mono (by decide)) dH.m dH.F.kp dH.b (aa (ae (i:=1)) af))) gv.nd)
    (ai (aJ (i:=3) (aX (ih:=2) sS.mono GR (hr.mono (by decide)) dR.m dR.F.kp dR.b (aa ah af)) gv.nd)
    (ai (aJ (i:=4) (aF mC.mono Qn (hr.mono (by decide)) yF.m yF.F.kp yF.b (aa (ae (i:=3)) af)) gv.nd)
    (ai (aJ (i:=5) (aF jo.mono Uk (hr.mono (by decide)) IE.m IE.F.kp IE.b (aa (ae (i:=3)) af)) gv.nd)
    (ai (aJ (i:=6) (aG ag (bw.m i9) (aX (ih:=2) bu.mono GT (hr.mono (by decide)) dT.m dT.F.kp dT.b (aa ah af)) (aL ag a6 (aO (aa ah (aa (aG ag (bw.m vP) ah ah) af))) (aX (ih:=2) bu.mono GT (hr.mono (by decide)) dT.m dT.F.kp dT.b (aa ah af)))) gv.nd)
    (ai (bU VP rfl (bp (aO (aa (rF iT ah) (aa (aG ag (bw.m cm) (rF iT ah) (ae (i:=6))) (aa (ae (i:=5)) (aa (aG aE ay (ae (i:=5)) (ae (i:=6))) af)))))) (aw (i:=7) gv.nd) (aj (bG (aH ag (bw.m (fO hr.units)) (aF qf.mono MA (hr.mono (by decide)) qF.m qF.F.kp qF.b (aa ah (aa (ae (i:=3)) (aa (ae (i:=7)) af)))) cw) (aj (aM ft)) aY)))
    (ai (bG (mL.t (fL (aH ag (bw.m (fO hr.units)) (aF qf.mono MA (hr.mono (by decide)) qF.m qF.F.kp qF.b (aa ah (aa (ae (i:=3)) (aa ah af)))) cw) (gW (aH ag (bw.m (fO hr.units)) (aF qf.mono MA (hr.mono (by decide)) qF.m qF.F.kp qF.b (aa ah (aa (ae (i:=3)) (aa (aG ag (bw.m cm) (ae (i:=5)) ah) af)))) cw)))) (aj (aM ft)) aY)
    (ai (bG (aH ag (bw.m (fO hr.units)) (ae (i:=3)) (ae (i:=4))) (aj (aM ft)) aY)
    (aj (bG (fM (eV (aX (ih:=2) Ba.mono Ub (hr.mono (by decide)) ID.m ID.F.kp ID.b (aa (ae (i:=3)) (aa (aF k_.mono Mz (hr.mono (by decide)) uV.m uV.F.kp uV.b (aa (ae (i:=3)) (aa (aG ag (bw.m vQ) (aG ag (bw.m i9) (aX (ih:=2) bu.mono GT (hr.mono (by decide)) dT.m dT.F.kp dT.b (aa ah af)) ah) (ae (i:=5))) af))) af))))) (aj (aM ft)) aY)))))))))),λcc x0 x2 x3 x4 x5 x6 x7=>?_⟩
   refine⟨_,rfl,trivial,cc,rfl,λns hk=>⟨trivial,(by show 2<8;decide),ns,rfl,hk,?_⟩⟩
   refine⟨rfl,trivial,rfl,trivial,40,rfl,by decide,by decide,λn ts n0 n1 dr=>?_⟩
   obtain⟨hl,tr,sr,nd⟩:=dr;obtain⟨m,ps,ok,en,UT,er⟩:=Cw n0 (by lia) (by lia) tr nd
   rw[er];have hm:m<=40:=by lia
   refine⟨_,rfl,trivial,m,ps,rfl,?_⟩;refine⟨_,rfl,trivial,m,ps,rfl,ok,hm,?_⟩;have hw:1<=sT ps m 0:=by
    have:=FE ps m 0;show (1:Int)<=((sa ps m 0:Nat):Int);lia
   refine⟨rfl,trivial,rfl,trivial,65536,rfl,by decide,by decide,λf f0 f1=>?_⟩
   refine⟨trivial,trivial,trivial,_,Bl,trivial,h9,trivial,rfl,trivial,rfl,trivial,2,rfl,by decide,by decide,λg g0 g1=>?_⟩
   obtain⟨v,ev,v0⟩:∃v,qi (.lst [.int 1,.int (10 ^ 15)]) (.int g)=some (.int v)/\0<=v:=by
    rcases (show g=0\/g=1 by lia)with rfl|rfl
    ·exact⟨1,rfl,by decide⟩
    ·exact⟨_,rfl,by decide⟩
   refine⟨_,ev,_,qh (.inl ⟨by lia,by lia⟩),?_⟩
   obtain⟨B5,ef,US⟩:∃B5,f*v=B5/\0<=B5:=⟨_,rfl,Int.mul_nonneg f0 v0⟩;rw[ef];obtain⟨wh,ew⟩:∃wh,sT ps m 0=wh:=⟨_,rfl⟩;rw[ew]at hw ⊢
   refine⟨_,rfl,rfl,trivial,_,rfl,rfl,trivial,_,rfl,_,rfl,trivial,_,rfl,trivial,_,rfl,trivial,_,rfl,_,rfl,trivial,du (by show 4<=1000;decide),?_⟩
   refine⟨_,rfl,trivial,?_⟩;have Py:∀d∈[D.int (-1),D.int (-1-B5),D.int wh,D.int (wh+B5)],∃o,d=.int o/\¬ (0<=o/\o<sT ps m 0):=λd hd=>by
    rw[ew];simp only[Va,WW,or_false]at hd;rcases hd with rfl|rfl|rfl|rfl
    ·exact⟨_,rfl,by lia⟩
    ·exact⟨_,rfl,by lia⟩
    ·exact⟨_,rfl,by lia⟩
    ·exact⟨_,rfl,by lia⟩
   refine⟨λ_ β=>∃x7:Option Q.B,β=[x0,some (.val true (.int cc)),some (.hand mO),some (.val true (gj m ps)),some (.val true (gj m ps)),some (.val true (.int wh)),some (.val true (.int B5)),x7],⟨_,rfl⟩,?_,?_⟩
   ·rintro i d β hd ⟨x7,rfl⟩;obtain⟨o,rfl,ho⟩:=Py d (VB hd);exact⟨trivial,_,rfl,trivial,_,rfl,trivial,3,m,ps,_,rfl,ok,hm,.inr ⟨o,rfl,rfl,λ_=>⟨trivial,_,qg _ _,_,rfl,de (by decide) ⟨_,rfl⟩⟩,λa b=>absurd ⟨a,b⟩ ho⟩⟩
   ·rintro β ⟨x7,rfl⟩;refine⟨trivial,_,rfl,trivial,trivial,3,m,ps,_,rfl,ok,hm,.inr ⟨0,rfl,rfl,λz=>absurd ⟨by decide,by rw[ew];lia⟩ z,λ_ _=>⟨trivial,_,qg _ _,_,rfl,de (by decide) ?_⟩⟩⟩
    refine⟨trivial,_,rfl,trivial,_,rfl,trivial,_,rfl,trivial,3,m,ps,_,rfl,ok,hm,.inr ⟨wh-1,rfl,rfl,λz=>absurd ⟨by lia,by rw[ew];lia⟩ z,λ_ _=>⟨trivial,_,qg _ _,_,rfl,de (by decide) ?_⟩⟩⟩
    refine⟨_,rfl,trivial,_,rfl,_,gM (q_ _ _),_,rfl,de rfl ?_⟩;refine⟨rfl,_,rfl,trivial,_,rfl,trivial,rfl,trivial,rfl,trivial,65536,rfl,by decide,by decide,λr r0 r1=>?_⟩
    have em:HP (.int (r*65537)) (.int wh)=some (.int (r*65537 % wh)):=by
     show (if 0<wh then _ else none)=_
     rw[if_pos (by lia)]
    refine⟨trivial,_,qh (.inl ⟨by lia,by lia⟩),trivial,_,rfl,_,em,trivial,m,ps,_,rfl,ok,hm,Int.emod_nonneg _ (by lia),by rw[ew];exact Int.emod_lt_of_pos _ (by lia),trivial,rfl,trivial,m,ps,(sat ps m (r*65537 % wh)).map tI,by rw[Wr];rfl,ok,hm,?_,λu hu=>?_,_,rfl,de rfl ?_⟩
    ·rw[U9];exact Vy (Cu _ _ _) (Vy ok.sm (by decide))
    ·obtain⟨p,_,rfl⟩:=VV.mp hu;exact⟨_,_,rfl⟩
    ·exact⟨_,_,_,_,_,_,_,_,rfl⟩
  refine⟨_,b8 (zA VP rfl (vL (b9 zZ (rG vz (pv 0) vJ (vI a3)) (ur (ba (i6 Um (hr.mono (by decide)) (by rfl) IF.m IF.F.kp IF.b .nil vN (ba (pv 0) (ba a3 cZ))) cZ)))) (Q.aw (C:=⟨H,λ_=>False,true,λ_=>False⟩) (i:=1) gv.nd).pg hb.ps) (eU (gA zO)),?_⟩
  obtain⟨ms,em,hm⟩:=yi ns none (some 8);refine⟨_,rfl,_,rfl,a,_,rfl,hS,λp2 Q0=>⟨_,rfl,a,ns,rfl,(au.new Q0).seq hS,λc0=>⟨(by show 1<=Vh;decide),λp1 Iw=>?_⟩⟩⟩
  have Sv:p2≠p1:=cz az Iw;refine⟨p2,p1,_,_,rfl,rfl,(by rw[ar Sv];exact az),az,(by rw[em,U9,Wm,Yz];lia),λl hl=>⟨l,rfl,⟨_,dh.of az⟩,?_⟩⟩
  rw[em];rw[em]at hl;rw[em]at Iw;have sm:au H (upd (upd (upd H p2 (.lst (ms.map V.int))) p1 (.lst [V.int c0])) l (.lst (ms.map V.int++[V.int c0]))):=((au.new Q0).trans (au.new Iw)).trans (au.new hl);have ke:(upd (upd (upd H p2 (.lst (ms.map V.int))) p1 (.lst [V.int c0])) l (.lst (ms.map V.int++[V.int c0]))) l=some (.lst ((ms++[c0]).map V.int)):=by rw[V1];exact az
  generalize (upd (upd (upd H p2 (.lst (ms.map V.int))) p1 (.lst [V.int c0])) l (.lst (ms.map V.int++[V.int c0])))=H1 at sm ke ⊢
  generalize (ms++[c0])=cs at ke;let X:Cx:=(kM bz P w K mg base ["script","cell","deck","row","kept","whole","far","number"] "law" (ao lI) f bQ A outer s H E).lU
  let C:Q.Cfg:=⟨H,λ_=>False,true,λ_=>False⟩
  have it:wU X (λ_=>False) (Ni K l) (cs.map D.int) H1:=sj ke (λz=>z) (cD cs);have EC:=it (λb=>(λ_=>False) b\/H1 b=none) λb z=>z;have s':Q.cq P w C.z (L2.start ["script","cell","deck","row","kept","whole","far","number"] [.ref a]) H1 (Vt 8 none) (λ_=>[]):=Cn (by rfl) sm
  generalize IA:cs.map D.int=ds at EC;have hint:∀d∈ds,∃c:Int,d=.int c:=λd hd=>by
   rw[<- IA]at hd;obtain⟨c,_,rfl⟩:=VV.mp hd;exact⟨c,rfl⟩
  refine⟨λi m σ H'=>i<=ds.length/\m=ds.length-i/\∃β,Q.SB X C (H1,Q.Wn λ_=>[]) σ H' β/\JL β,⟨_,Vv _,rfl,_,⟨_,s',Sn.refl⟩,⟨_,_,_,_,_,_,_,_,rfl⟩⟩,?_⟩;rintro i m σ2 H2 ⟨hi,rfl,β2,⟨bf,s2,n2⟩,⟨y0,y1,y2,y3,y4,y5,y6,y7,rfl⟩⟩;obtain⟨c4,nj⟩:=EC i H2 (n2.k.mono λb z=>z.imp (λKo=> by obtain⟨_,q⟩ := Ko;exact(nomatch q)) id)
  by_cases dU:i<ds.length
  ·right
   have hd:ds[i]?=some ds[i]:=Vf dU;obtain⟨go,yl⟩:=c4 _ hd;obtain⟨c,hc⟩:=hint ds[i] (Yn dU);refine⟨go,λσ' H'=>∃β,Q.SB X C (H1,Q.Wn λ_=>[]) σ' H' β/\JL β,λσ' H' Kn=> by obtain⟨β',ub,nu⟩ := Kn;exact⟨_,by lia,dU,rfl,β',ub,nu⟩,λx H3 y=>?_⟩
   obtain⟨s3,r3⟩:=yl x H3 y;rw[hc]at r3;refine⟨bf,_,.int c,.own,s2.same s3,aA.flat rfl r3,λσ4 lP s4 w4 _=>?_⟩;exact⟨(H1,Q.Wn λ_=>[]),{nx:=JL,rt:=λd _=>d=.bl true,bk:=JL,ct:=JL},_,⟨lP,s4,Q.gS (n2.same s3) w4⟩,hψ c y0 y2 y3 y4 y5 y6 y7,⟨λσ5 H5 β5 xi q5=>⟨β5,xi,q5⟩,λσ5 H5 β5 d5 v5 xi r5 q5=>by
    subst q5;cases (show v5=V.bl true from Jm r5)
    exact k _,λσ5 H5 β5 xi q5=>k _,λσ5 H5 β5 xi q5=>⟨β5,xi,q5⟩⟩⟩
  ·left
   have e:i=ds.length:=by lia
   subst e;exact⟨nj (U8 _),k _⟩
end
theorem pY {α:Type}{P:List α->Prop}(h:∀a,P [a]):∀us:List α,us.length=1->P us:=λus e=>by
 obtain⟨a,rfl⟩:=List.length_eq_one_iff.mp e;exact h a
theorem fy {α:Type}{P:List α->Prop}(h:∀a b,P [a,b]):∀us:List α,us.length=2->P us:=λus e=>by
 cases us with
 |nil=>cases e
 |cons a us=>exact pY (P:=λus=>P (a::us)) (h a) us (Yr e)
theorem xI {α:Type}{P:List α->Prop}(h:∀a b c,P [a,b,c]):∀us:List α,us.length=3->P us:=λus e=>by
 cases us with
 |nil=>cases e
 |cons a us=>exact fy (P:=λus=>P (a::us)) (h a) us (Yr e)
theorem Ou {α:Type}{P:List α->Prop}(h:∀a b c d,P [a,b,c,d]):∀us:List α,us.length=4->P us:=λus e=>by
 cases us with
 |nil=>cases e
 |cons a us=>exact xI (P:=λus=>P (a::us)) (h a) us (Yr e)
theorem A0 {K:PySem.W.Frag}{x m:Str}{st:Stmt}{t c f:Nat}(l:K.lookup f=some (kF st x m t c))(cd:PySem.W.codeIn K (.ref c) x=true)(k:PySem.W.keepIn K (.ref f)=true):BU K x x st f (MT st x m t c):=HG l cd k
theorem bg {K:PySem.W.Frag}{h:Heap}{mg:Str->Option U5}{x m:Str}{st:Stmt}{t c f:Nat}{ps:List Str}(X:K.In h)(G:h.Ns WE mg)(l:K.lookup f=some (kF st x m t c))(cd:PySem.W.codeIn K (.ref c) x=true)(k:PySem.W.keepIn K (.ref f)=true)
  (a:PySem.W.nsIn K WE x=some (some (.ref f))) (b:∀us:List U5,us.length=ps.length->bindArgs (MT st x m t c) ⟨us,[]⟩=pure (ps.zip us)):Df K mg x st ps f (MT st x m t c):=⟨A0 l cd k,.all b,PySem.W.mg_of X G a⟩
abbrev cX (i:Nat):Addr:=[37,49,61,73,85,97,109,121,133,145,157,169].getD i 0
theorem all_mk {l:PySem.W.OpenLaw} (w:Vl) (mg:Str->Option U5) (fa:Addr) (h:Heap) (X:(KK w.params).In h) (G:h.Ns WE mg) (Tj:mg "law" = some (.ref fa))   :∃fd:VE,(∀(s:U7) (v:U5),BindsTo s fd ⟨[v],[]⟩ [("script",v)])/\∀base:Heap,(KK w.params).In base->base.Ns WE mg->aD l.prog w (KK w.params) mg base bz 45 fa fd ["script"] (yY (KK w.params)):=by
 have e:=Tj.symm.trans (PySem.W.mg_of X G (v:=.ref 391) (by kernel_rfl))
 cases e;have JV:=PySem.W.mg_none_of X G (n:="max") (by kernel_rfl)
 have JU:=PySem.W.mg_none_of X G (n:="min") (by kernel_rfl)
 have JX:=PySem.W.mg_none_of X G (n:="int") (by kernel_rfl)
 have Dn:=PySem.W.mg_none_of X G (n:="range") (by kernel_rfl)
 have Ae:=PySem.W.mg_none_of X G (n:="sorted") (by kernel_rfl)
 have JT:=PySem.W.mg_none_of X G (n:="set") (by kernel_rfl)
 have JW:=PySem.W.mg_none_of X G (n:="len") (by kernel_rfl)
 have Gz:=PySem.W.mg_none_of X G (n:="list") (by kernel_rfl)
 have pV:=PySem.W.mg_none_of X G (n:="isinstance") (by kernel_rfl)
 have Dl:=PySem.W.mg_none_of X G (n:="tuple") (by kernel_rfl)
 have JS:=PySem.W.mg_none_of X G (n:="str") (by kernel_rfl)
 have GA:=PySem.W.mg_none_of X G (n:="bool") (by kernel_rfl)
 have JQ:=PySem.W.mg_none_of X G (n:="zip") (by kernel_rfl)
 have rP:=PySem.W.mg_none_of X G (n:="enumerate") (by kernel_rfl)
 have JR:=PySem.W.mg_none_of X G (n:="sum") (by kernel_rfl)
 have pW:=PySem.W.mg_none_of X G (n:="ValueError") (by kernel_rfl)
 have B:=(⟨⟨⟨JV,JU,JX,Dn,Ae,JT,JW,Gz⟩,pV,Dl,JS,GA,JQ,rP⟩,JR⟩:qz mg);have ZA:XA (KK w.params) mg 24 cX:=IM (by kernel_rfl) (PySem.W.mg_of X G (v:=.ref 24) (by kernel_rfl)) λi x h=>by
  match i,h with
  |0,h=>cases h;exact PySem.W.mg_of X G (v:=.ref 37) (by kernel_rfl)
  |1,h=>cases h;exact PySem.W.mg_of X G (v:=.ref 49) (by kernel_rfl)
  |2,h=>cases h;exact PySem.W.mg_of X G (v:=.ref 61) (by kernel_rfl)
  |3,h=>cases h;exact PySem.W.mg_of X G (v:=.ref 73) (by kernel_rfl)
  |4,h=>cases h;exact PySem.W.mg_of X G (v:=.ref 85) (by kernel_rfl)
  |5,h=>cases h;exact PySem.W.mg_of X G (v:=.ref 97) (by kernel_rfl)
  |6,h=>cases h;exact PySem.W.mg_of X G (v:=.ref 109) (by kernel_rfl)
  |7,h=>cases h;exact PySem.W.mg_of X G (v:=.ref 121) (by kernel_rfl)
  |8,h=>cases h;exact PySem.W.mg_of X G (v:=.ref 133) (by kernel_rfl)
  |9,h=>cases h;exact PySem.W.mg_of X G (v:=.ref 145) (by kernel_rfl)
  |10,h=>cases h;exact PySem.W.mg_of X G (v:=.ref 157) (by kernel_rfl)
  |11,h=>cases h;exact PySem.W.mg_of X G (v:=.ref 169) (by kernel_rfl)
  |n+12,h=>cases h
 exact⟨_,λs v=>.of_eq rfl,λbase _ _=>Gp (A0 (x:="law") (m:="law_archrow_k24_sets_refused") (st:=lI) (t:=576) (c:=390) (f:=391) (by kernel_rfl) (by kernel_rfl) (by kernel_rfl)) B pW ZA (bg X G (x:="count_sets") (m:="archrow.counted") (st:=dG) (t:=497) (c:=248) (f:=249) (ps:=["row"]) (by kernel_rfl) (by kernel_rfl) (by kernel_rfl) (by kernel_rfl) (pY λ_=>rfl))
  (bg X G (x:="counts_of") (m:="archrow.counted") (st:=eR) (t:=497) (c:=277) (f:=278) (ps:=["row"]) (by kernel_rfl) (by kernel_rfl) (by kernel_rfl) (by kernel_rfl) (pY λ_=>rfl))
  (bg X G (x:="partners_of") (m:="archrow.stretches") (st:=c5) (t:=457) (c:=222) (f:=223) (ps:=["row"]) (by kernel_rfl) (by kernel_rfl) (by kernel_rfl) (by kernel_rfl) (pY λ_=>rfl))
  (bg X G (x:="stretches_rising") (m:="archrow.stretches") (st:=bJ) (t:=457) (c:=217) (f:=218) (ps:=["many"]) (by kernel_rfl) (by kernel_rfl) (by kernel_rfl) (by kernel_rfl) (pY λ_=>rfl))
  (bg X G (x:="ways_by") (m:="archrow.stretches") (st:=gU) (t:=457) (c:=241) (f:=242) (ps:=["counts","choices","i","j"]) (by kernel_rfl) (by kernel_rfl) (by kernel_rfl) (by kernel_rfl) (Ou λ_ _ _ _=>rfl))
  (bg X G (x:="ways_in") (m:="archrow.stretches") (st:=gT) (t:=457) (c:=236) (f:=237) (ps:=["counts","parts"]) (by kernel_rfl) (by kernel_rfl) (by kernel_rfl) (by kernel_rfl) (fy λ_ _=>rfl))
  (bg X G (x:="parts_left") (m:="archrow.stretches") (st:=dA) (t:=457) (c:=229) (f:=230) (ps:=["i","k","j"]) (by kernel_rfl) (by kernel_rfl) (by kernel_rfl) (by kernel_rfl) (xI λ_ _ _=>rfl))
  (bg X G (x:="set_at") (m:="archrow.counted") (st:=gx) (t:=497) (c:=260) (f:=261) (ps:=["row","number"]) (by kernel_rfl) (by kernel_rfl) (by kernel_rfl) (by kernel_rfl) (fy λ_ _=>rfl))
  (bg X G (x:="waiting_behind") (m:="archrow.counted") (st:=bZ) (t:=497) (c:=284) (f:=285) (ps:=["waiting","tie"]) (by kernel_rfl) (by kernel_rfl) (by kernel_rfl) (by kernel_rfl) (fy λ_ _=>rfl))
  (bg X G (x:="set_number") (m:="archrow.counted") (st:=cK) (t:=497) (c:=253) (f:=254) (ps:=["row","ties"]) (by kernel_rfl) (by kernel_rfl) (by kernel_rfl) (by kernel_rfl) (fy λ_ _=>rfl))
  (bg X G (x:="ties_next") (m:="archrow.counted") (st:=eP) (t:=497) (c:=296) (f:=297) (ps:=["row","waiting"]) (by kernel_rfl) (by kernel_rfl) (by kernel_rfl) (by kernel_rfl) (fy λ_ _=>rfl))
  (bg X G (x:="next_set") (m:="archrow.counted") (st:=d9) (t:=497) (c:=265) (f:=266) (ps:=["row","ties"]) (by kernel_rfl) (by kernel_rfl) (by kernel_rfl) (by kernel_rfl) (fy λ_ _=>rfl))
  (bg X G (x:="waiting_after") (m:="archrow.counted") (st:=cj) (t:=497) (c:=291) (f:=292) (ps:=["row","ties"]) (by kernel_rfl) (by kernel_rfl) (by kernel_rfl) (by kernel_rfl) (fy λ_ _=>rfl))
  (bg X G (x:="how_many_begin") (m:="archrow.counted") (st:=bE) (t:=497) (c:=272) (f:=273) (ps:=["row","ties"]) (by kernel_rfl) (by kernel_rfl) (by kernel_rfl) (by kernel_rfl) (fy λ_ _=>rfl))
  (bg X G (x:="check_set") (m:="archrow.arcs") (st:=dc) (t:=399) (c:=212) (f:=213) (ps:=["row","ties"]) (by kernel_rfl) (by kernel_rfl) (by kernel_rfl) (by kernel_rfl) (fy λ_ _=>rfl))
  (bg X G (x:="is_set") (m:="archrow.arcs") (st:=iY) (t:=399) (c:=184) (f:=185) (ps:=["row","ties"]) (by kernel_rfl) (by kernel_rfl) (by kernel_rfl) (by kernel_rfl) (fy λ_ _=>rfl))
  (bg X G (x:="first_fault") (m:="archrow.arcs") (st:=c8) (t:=399) (c:=191) (f:=192) (ps:=["row","ties"]) (by kernel_rfl) (by kernel_rfl) (by kernel_rfl) (by kernel_rfl) (fy λ_ _=>rfl))
  (bg X G (x:="fault_at") (m:="archrow.arcs") (st:=fK) (t:=399) (c:=198) (f:=199) (ps:=["row","ties","k"]) (by kernel_rfl) (by kernel_rfl) (by kernel_rfl) (by kernel_rfl) (xI λ_ _ _=>rfl))
  (bg X G (x:="share_a_point") (m:="archrow.arcs") (st:=ck) (t:=399) (c:=205) (f:=206) (ps:=["one","other"]) (by kernel_rfl) (by kernel_rfl) (by kernel_rfl) (by kernel_rfl) (fy λ_ _=>rfl))
  (bg X G (x:="arcs_cross") (m:="archrow.arcs") (st:=dI) (t:=399) (c:=177) (f:=178) (ps:=["one","other"]) (by kernel_rfl) (by kernel_rfl) (by kernel_rfl) (by kernel_rfl) (fy λ_ _=>rfl))
  (bg X G (x:="_law_cell_at") (m:="law_archrow_k24_sets_refused") (st:=c7) (t:=576) (c:=303) (f:=304) (ps:=["script","k"]) (by kernel_rfl) (by kernel_rfl) (by kernel_rfl) (by kernel_rfl) (fy λ_ _=>rfl))
  (bg X G (x:="_law_deck") (m:="law_archrow_k24_sets_refused") (st:=ee) (t:=576) (c:=310) (f:=311) (ps:=["cell"]) (by kernel_rfl) (by kernel_rfl) (by kernel_rfl) (by kernel_rfl) (pY λ_=>rfl))
  (bg X G (x:="_law_take") (m:="law_archrow_k24_sets_refused") (st:=d_) (t:=576) (c:=317) (f:=318) (ps:=["deck","many"]) (by kernel_rfl) (by kernel_rfl) (by kernel_rfl) (by kernel_rfl) (fy λ_ _=>rfl))
  (bg X G (x:="_law_row") (m:="law_archrow_k24_sets_refused") (st:=gV) (t:=576) (c:=324) (f:=325) (ps:=["deck","most"]) (by kernel_rfl) (by kernel_rfl) (by kernel_rfl) (by kernel_rfl) (fy λ_ _=>rfl))
  (bg X G (x:="_law_copied") (m:="law_archrow_k24_sets_refused") (st:=dD) (t:=576) (c:=331) (f:=332) (ps:=["row"]) (by kernel_rfl) (by kernel_rfl) (by kernel_rfl) (by kernel_rfl) (pY λ_=>rfl))
  (bg X G (x:="_law_do_cross") (m:="law_archrow_k24_sets_refused") (st:=cL) (t:=576) (c:=338) (f:=339) (ps:=["one","other"]) (by kernel_rfl) (by kernel_rfl) (by kernel_rfl) (by kernel_rfl) (fy λ_ _=>rfl))
  (bg X G (x:="_law_fits") (m:="law_archrow_k24_sets_refused") (st:=fJ) (t:=576) (c:=345) (f:=346) (ps:=["some","tie"]) (by kernel_rfl) (by kernel_rfl) (by kernel_rfl) (by kernel_rfl) (fy λ_ _=>rfl))
  (bg X G (x:="_law_sets") (m:="law_archrow_k24_sets_refused") (st:=iu) (t:=576) (c:=350) (f:=351) (ps:=["row"]) (by kernel_rfl) (by kernel_rfl) (by kernel_rfl) (by kernel_rfl) (pY λ_=>rfl))
  (bg X G (x:="_law_kind") (m:="law_archrow_k24_sets_refused") (st:=fI) (t:=576) (c:=357) (f:=358) (ps:=["caught"]) (by kernel_rfl) (by kernel_rfl) (by kernel_rfl) (by kernel_rfl) (pY λ_=>rfl))
  (bg X G (x:="_law_refusal") (m:="law_archrow_k24_sets_refused") (st:=c6) (t:=576) (c:=364) (f:=365) (ps:=["asked","row","some"]) (by kernel_rfl) (by kernel_rfl) (by kernel_rfl) (by kernel_rfl) (xI λ_ _ _=>rfl))
  (bg X G (x:="_law_is_set") (m:="law_archrow_k24_sets_refused") (st:=dC) (t:=576) (c:=371) (f:=372) (ps:=["row","some"]) (by kernel_rfl) (by kernel_rfl) (by kernel_rfl) (by kernel_rfl) (fy λ_ _=>rfl))
  (bg X G (x:="_law_spoilt") (m:="law_archrow_k24_sets_refused") (st:=dB) (t:=576) (c:=378) (f:=379) (ps:=["deck","row","some"]) (by kernel_rfl) (by kernel_rfl) (by kernel_rfl) (by kernel_rfl) (xI λ_ _ _=>rfl))
  (bg X G (x:="_law_right") (m:="law_archrow_k24_sets_refused") (st:=eQ) (t:=576) (c:=383) (f:=384) (ps:=["deck","row","some"]) (by kernel_rfl) (by kernel_rfl) (by kernel_rfl) (by kernel_rfl) (xI λ_ _ _=>rfl))⟩
end ip
abbrev PySem.W.Fast.tw3739630699280874825:PySem.Program:=PySem.Challenge.pw_archrow_k24_sets_refused
theorem PySem.W.Fast.te3739630699280874825:PySem.Challenge.pw_archrow_k24_sets_refused=PySem.W.Fast.tw3739630699280874825:=rfl
open PySem PySem.W PyProof.Rows
set_option maxRecDepth 100000 in
set_option maxHeartbeats 0 in
theorem PySem.Challenge.cw_archrow_k24_sets_refused_holds : PySem.Challenge.rw_archrow_k24_sets_refused.Holds := by
 w_on;o_law
 refine holds_open (q:=ip.view) (loose:=[]) (Xt:=λs=>xlAt ip.view [] s&&recOk (RowW.records PySem.Challenge.rw_archrow_k24_sets_refused.row.toRowW) s) (XP:=XL ip.view []) (Yf:=ip.HK.obs) (Ya:=ip.HK.val) (YP:=λw h=>(ip.KK w.params).In h) (N:=7780) ip.left ip.HK.of ip.HK.keeps (λs e=>xl_of s (Bool.and_eq_true_iff.mp e).1) XL.keeps (by rfl) (by rfl) (by rfl) (λs e=>recFacts_of (Bool.and_eq_true_iff.mp e).2) (by rfl) (by first|assumption|decide +kernel) (by decide +kernel) ⟨rfl,rfl,rfl,rfl,rfl,by decide +kernel⟩ ?hw ?hc
 (case hw=>w_witness2)
 case hc =>
  exact L2.Cf (l:=PySem.Challenge.rw_archrow_k24_sets_refused) (K:=ip.KK) (n:=63) (k:=45) (x:="script") (CX:=λ_=>L2.bz) (sp:=λw=>ip.yY (ip.KK w.params)) rfl (by decide) rfl ⟨rfl,by decide,by decide⟩ (λw h Y=>Y) ip.all_mk (λ_ _ a ns hl _ hS=>⟨a,ns,rfl,hS,hl,λ_=>rfl⟩) λ_ _ _ _ _ z=>z
#print axioms PySem.Challenge.cw_archrow_k24_sets_refused_holds
