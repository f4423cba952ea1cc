import PyProof.Rows.All
import Wide.All
import OpenK.AllK
import Wide.FinOn
import OpenK.KLine
import Lean
import PyProof.EqAt
import PyProof.EqKinds
import PyProof.TupleCall
import PyProof.Rows.SortShell
import PyProof.Rows.SortWalk
import PyProof.CompFree
import PyProof.Rows.SortRuns
import PyProof.EqLayable
import PyProof.NeData
import PyProof.P3In
import PyProof.ZipIter
import PyProof.EnumMake
import PyProof.EnumFor
import PyProof.Rows.Range3
import PyProof.AttrMissSeq
import KE.KDictOf
import KE.KTryMore
import PyProof.NsDelKeeps
import PyProof.ExcBaseAll.ValueError
import PyProof.Rows.SeqMore
import PyProof.ConsumeWalk
import PyProof.Rows.SeqMore2
import PyProof.Rows.CountFlat
import PySem.Challenge.RW_archrow_k22_sets_by_their_numbers
set_option Elab.async false
set_option linter.all false
set_option maxRecDepth 100000
set_option maxHeartbeats 4000000
set_option compiler.extract_closed false
open PySem renaming Value->UR,Shared->UT,wpAny_bind->UW,Program->UX,sizeLine->U4,starEach->U5,World->Vb,wpAny_pure->Vg,wpAny->Vu,FuncData->Vz,compareOp->VD,bootBuiltins->VI,foldedSetIterable->VV,Around->VZ,sizeLine_eq->Wf,wpAny_truthy_bool->Wj,wpAny_loadPart'->Wq,mainGlobals->Wv,swapsWith->Ww,sysModules->Wz,backTo->WG,binaryOp->WI,wpAny_typeNameOfWhole_keyiter->WL,sliceBounds->WM,assignEach->WN,wpAny_passesOwn->WR,behindInMarks->WS,wpAny_typeNameOf_keyiter->Xd,wpAny_standAt->Xe,wpAny_holding->Xf,attributeBase->Xg,Comprehension->Xj,wpAny_Call_Name_kw->Xl,Scope->Xr,CmpOp->Xy,wpAny_rule->Xz,DictEntry->XC,NameKind->XF,cLine->XJ,wpAny_mono->XR,wpAny_newObj_type->XX,Keyword->XZ,wpAny_call_entry->X6,richCompare_meets_room->Yc,codeAny_mono->Ye,Builtin->Yh,wpAny_execs_nil->Yj,letOwnedTupleGo->Yk,keywordEach->Yq,tupleKind->Yu,standAt->Yv,codeAny->Yw,call_meets->YA,Params->YB,wpAny_dictEntries->YF,slot_list_getitem->YG,callerA->YH,wpAny_forIn_list->YO,treeTable->YQ,isTrue->YR,inplaceOp->YS,IsRangeIter->YZ,wpAny_dictEpoch->Y0,pyNext->Y5,pyIter->Y6,backToKw->Y9,Operator->Y_
open List renaming length_map->US,getElem?_eq_some_iff->UY,mem_cons->U0,getElem?_eq_getElem->U3,mem_cons_of_mem->U6,mem_singleton->U8,mem_cons_self->U9,length_cons->U_,getElem?_map->Vd,size_toArray->Vf,range->Vk,replicate->Vo,mem_append->Vp,length_append->Vr,map_cons->Vs,mem_of_getElem?->Vv,nodup_cons->Vw,map_append->Vx,mem_append_right->Vy,mem_map->VA,mem_filter->VF,pairwise_cons->VH,drop_eq_getElem_cons->VN,getElem?_append_right->VR,length_take->VS,append_assoc->VW,nodup_append->V0,length_range->V1,map_map->V2,mem_range->V3,map_congr_left->V4,take_add_one->V7,reverse_reverse->V9,nodup_nil->V_,length_nil->Wc,lookup_cons->Wd,length_filter_le->Wg,take_of_length_le->Wk,pairwise_map->Wl,replicate_succ->Wm,append_nil->Wr,getElem?_append_left->Ws,zip_cons_cons->Wt,getElem?_range->Wx,not_mem_nil->Wy,take_append_drop->WB,getElem?_eq_none->WC,mem_append_left->WD,filterMap_cons->WH,take_length->WJ,filter_append->WO,drop_of_length_le->WQ,length_singleton->WT,take_sublist->WV,reverse_cons->WW,getElem?_set->WX,flatten_cons->WY,ext_getElem?->WZ,pairwise_append->W7,all_eq_true->Xc,set_set->Xu,sum_cons->XE,range_succ->XH,foldl_cons->XI,reverse_append->XM,mem_map_of_mem->XN,length_reverse->XO,zip_nil_right->XS,findSome?_eq_none_iff->XT,pairwise_iff_getElem->XU,zip_nil_left->XY,pairwise_singleton->X7,length_drop->X8,getElem_mem->X9,filter_cons_of_neg->X_,cons_append->Yb,of_mem_zip->Ym,find?_cons->Yn,getElem?_of_mem->Ys,filter_eq_self->Yy,find?_eq_none->YC,filter_filter->YD,map_nil->YK,filter_congr->YL,filter_cons->YU,drop_length->YV,drop_zero->Za,getElem?_eq_none_iff->Zf
open Nat renaming le_refl->UU,zero_le->Ve,le_trans->Vm,lt_of_lt_of_le->VC,ne_of_lt->VP,zero_add->Wh,lt_or_ge->Xb,one_mul->Xp,mul_le_mul->Xs,lt_irrefl->XD,min_le_left->XG,add_assoc->X3,sub_self->YJ,lt_succ_self->YT,add_mul->YX
open PyProof.Rows renaming Keyed->UZ,wpS_bind->U1,wpS_pure->U7,pendingOf->Vh,SortSt->Vq,arrOf->Vt,wpS_forRange->VU,setArr->V5,callWith_type1->V6,IntsAre->We,wpS_mono->Wu,wpS_modify->W5,SortKind->Xh,seqObj->Xm,failedOf->Xq,setPending->XA,wpS_get->XW,envOfC->Yd,AllBare->Yi,wpS_lift->Yp,IsTup->YY,boot_range->Y7
open PySem.Heap renaming get?_push_of_some->Vc,lt_size->Vi,get?_push_size->VO,SameBut->XQ
open Option renaming map_eq_some_iff->Vj,bind_eq_some_iff->Wi,bind_some->XB,isSome_iff_exists->X2,map_some->Yl
open Array renaming getElem?_toList->Vl,length_toList->Vn,toList_append->Wo,toList_push->W3,getD_eq_getD_getElem?->W4,perm_iff_toList_perm->W9,getElem?_eq_none->Xw,toList_zip->YW,size_zip->Zd,mk->Ze
open Decidable renaming by_contra->VB
open PySem.PassesOwn renaming never->VE
open PySem.SeqAt renaming canLay_of_shaped->VG
open PySem.NameKind renaming free->VJ,cell->Xi
open Bool renaming and_eq_true_iff->VL,and_eq_true->VT,false_ne_true->VY,eq_false_iff->WE,false_eq_true->Xn,and_false->Xv,not_eq_true'->X0,not_eq_false'->YE,or_eq_true->Y3
open Int renaming toNat_natCast->VM,toNat_of_nonneg->Yz,zero_add->YN
open Option.some renaming inj->VQ
open PySem.PyData renaming eqv->VX,canLay0->V8,depthAll->Wa,canLayAll0->WU,depth->W_,eqvAll->X1
open True renaming intro->WA
open PySem.Builtin.Range renaming rangeSize->WK
open PySem.Obj renaming mapSeq->W6
open False renaming elim->W8
open Ne renaming symm->Xa
open PySem.Builtin.List renaming listTooLong->Xk
open PySem.W renaming boot_heap->Xo,boot_drawn->Y8
open PySem.Builtin.Tuple renaming tupleCompareSizes->Xx
open PySem.Code renaming compLoop->X4,compStart->Zb
open PySem.AutoSeq1 renaming sub_tuple_tuple->X5
open Nat.succ renaming inj->Yg
open ForInStep renaming yield->Yo
open PySem.Value renaming notImplemented->Yr
open List.Pairwise renaming filter->Yt,nil->YM
open Sum renaming inl->Yx,inr->YI
open List.Perm renaming of_eq->Y1
open PySem.Builtin.Dict_items renaming ownsTuple->Y2
open Array.Perm renaming refl->Y4
open PySem.Calls renaming Name_function_global->Zc
noncomputable section
namespace L2
open PySem PySem.Spec PyProof.Rows
def kT (s:Stmt):Arguments:=match s with
 |.FunctionDef _ a _ _ _ _ _ _ _ _=>a
 |_=>{posonlyargs:=[],args:=[],vararg:=none,kwonlyargs:=[],kw_defaults:=[],kwarg:=none,defaults:=[]}
def eM (s:Stmt):List Stmt:=match s with
 |.FunctionDef _ _ b _ _ _ _ _ _ _=>b
 |_=>[]
def ak (s:Stmt):Xr:=match s with
 |.FunctionDef _ _ _ _ _ _ sc _ _ _=>sc
 |_=>{kind:=.function,names:=[],isGenerator:=false,isCoroutine:=false}
end L2
namespace L2.Hd
open PySem PySem.W PySem.Spec PyProof.Rows
def iP (tb:String->Option Yh)(p:UX)(w:Vb)(n₀:Nat)(ann:Option UR):Nat->SharedT->Thread->Option SharedT
 |0,_,_=>none
 |n+1,s,t=>match through t with
  |true=>some s
  |false=>match stepOk n₀ ann t with
   |false=>none
   |true=>match stepT (denote tb) p w s t with
    |some (s',t')=>iP tb p w n₀ ann n s' t'
    |none=>none
theorem k9 {tb:String->Option Yh}{p:UX}{w:Vb}{n₀:Nat}{ann:Option UR}:∀{n:Nat} {s s':SharedT} {t:Thread},iP tb p w n₀ ann n s t=some s'->topRun tb p w n₀ ann n s.abs t=some s'.abs
 |0,_,_,_,g=>by cases g
 |n+1,s,s',t,g=>by
  unfold iP at g;unfold topRun;cases ht:through t with
  |true=>rw[ht]at g;cases g;rfl
  |false =>
   rw[ht]at g;cases hk:stepOk n₀ ann t with
   |false=>rw[hk]at g;cases g
   |true =>
    rw[hk]at g;cases hq:stepT (denote tb) p w s t with
    |none=>rw[hq]at g;cases g
    |some r=>obtain⟨s₂,t₂⟩:=r;rw[hq]at g;dsimp only;rw[stepT_spec hq];exact k9 g
noncomputable def L1 (P:YB):BT:=((Xo P).objs.toList.foldl (λ(x:BT×Nat) o=>(x.1.ins x.2 o,x.2+1)) (.nil,0)).1
noncomputable def Bv (w:Vb)(os:OsState):SharedT:=⟨L1 w.params,11,(Xo w.params).life,Ze [],Y8,boot_toks,os⟩
theorem boot_abs (w:Vb)(os:OsState):(Bv w os).abs=⟨Xo w.params,Ze [],Y8,boot_toks,os⟩:=by kernel_rfl
theorem DS (P:YB):((Xo P).isNs Wv&&((Ze []:Array GenState).size==0))=true:=by kernel_rfl
theorem yt (P:YB):(Xo P).objs.size=11:=by kernel_rfl
theorem Bu (P:YB):(Xo P).nsMap Wv "__annotations__" = some (.ref 6):=by kernel_rfl
def ends (p:UX)(h0:Heap)(s₁:UT):Option UT:=match staticsOk (importedModules p.main.body) h0 s₁.heap&&namesBound p s₁.heap&&gensDone s₁&&laidKept h0 s₁.heap with
 |true=>some s₁
 |false=>none
theorem xF {p q:UX}{loose:List Str}{Xt:UT->Bool}{α:Type}{Yf:UT->α}{Ya:Vb->α}{N:Nat}{g0:Bool}
  (g1:opening p=plainProg p.main.scope.names) (g2:Nat.ble 600 N=true) (g3:∀s,fenceModules? p s=some s)
  (g4:∀(w:Vb) (os:OsState),((iP YQ p w 11 (some (.ref 6)) N (Bv w os) (topStub p)).bind λs₁=>ends p (Xo w.params) s₁.abs).map (λs=>(openSeen q loose (importedModules p.main.body) Xt g0 s,Yf s))=some (openGood q loose,Ya w)) :
  LeftO p q loose Xt Yf Ya N g0:=λw=>by
 obtain⟨⟨hp,gs,dr,tk,os⟩,e,v⟩:=Vj.mp (boot_open (N:=N) g1 g2 g3 w);obtain⟨v1,v⟩:=Prod.mk.inj v;obtain⟨v2,v⟩:=Prod.mk.inj v;obtain⟨v3,v4⟩:=Prod.mk.inj v;dsimp only at v1 v2 v3 v4;subst v1 v2 v3 v4;have g:=g4 w os;unfold openEnds;rw[e];show (topFrom YQ p w N _).map _=_;have t:topFrom YQ p w N ⟨Xo w.params,Ze [],Y8,boot_toks,os⟩=(topRun YQ p w 11 (some (.ref 6)) N ⟨Xo w.params,Ze [],Y8,boot_toks,os⟩ (topStub p)).bind (ends p (Xo w.params)):=by
  unfold topFrom;rw[DS];dsimp only;rw[yt,Bu];rfl
 rw[t];cases hT:iP YQ p w 11 (some (.ref 6)) N (Bv w os) (topStub p)with
 |none=>rw[hT]at g;cases g
 |some s₁ =>
  have r:=k9 hT;rw[boot_abs]at r;rw[hT]at g;rw[r];exact g
end L2.Hd
namespace iH
open PySem L2
def top (i:Nat):Stmt:=PySem.Challenge.pw_archrow_k22_sets_by_their_numbers.main.body.getD i (.Pass ⟨0,0,0,0⟩)
abbrev dj:Stmt:=top 5
abbrev iZ:Stmt:=top 6
abbrev cW:Stmt:=top 7
abbrev fC:Stmt:=top 8
abbrev cq:Stmt:=top 9
abbrev eC:Stmt:=top 10
abbrev bJ:Stmt:=top 12
abbrev cU:Stmt:=top 13
abbrev dh:Stmt:=top 14
abbrev gQ:Stmt:=top 15
abbrev gR:Stmt:=top 16
abbrev dg:Stmt:=top 18
abbrev iY:Stmt:=top 19
abbrev fy:Stmt:=top 20
abbrev b6:Stmt:=top 21
abbrev eh:Stmt:=top 22
abbrev b5:Stmt:=top 23
abbrev cn:Stmt:=top 24
abbrev eg:Stmt:=top 25
abbrev cV:Stmt:=top 27
abbrev dN:Stmt:=top 28
abbrev dJ:Stmt:=top 29
abbrev gS:Stmt:=top 30
abbrev di:Stmt:=top 31
abbrev cF:Stmt:=top 32
abbrev fB:Stmt:=top 33
abbrev fz:Stmt:=top 34
abbrev fA:Stmt:=top 35
abbrev cv:Stmt:=top 36
abbrev cu:Stmt:=top 37
abbrev ly:Stmt:=top 38
abbrev vS (x:Str)(t:Nat):UR:=.str x t
abbrev kE (P:YB)(x:Str)(t:Nat)(v:UR):XC:=⟨PyData.keyHash P x,.str x t,v⟩
abbrev kC (n:Str)(t l p r8 Sm RW:Nat)(Rv Ru Rt:UR)(RV Sl RD:Nat):Obj:={cls:=.type "code",data:=.fields #[vS n t,vS n (t+1),vS "/claim/cut.py" (t+2),.int l 0,.int p 0,.int 0 0,.int 0 0,.int 3 0,.ref r8,.bool true,.int Sm 0,.ref RW,Rv,Ru,Rt,.ref RV,.int Sl 0,.int l 0,vS "/claim/cut.py" RD]}
abbrev MC (st:Stmt)(x m:Str)(t c:Nat):Vz:=PySem.W.fnOf x x (kT st) (eM st) (ak st) .none .none .none (vS m t) none (.ref c) .none
abbrev kF (st:Stmt)(x m:Str)(t c:Nat):Obj:={cls:=.type "function",data:=.func (MC st x m t c)}
def KK:YB->PySem.W.Frag:=λP=>[(3,{cls:=.type "dict",data:=.dict #[kE P "__name__" 165 (vS "law_archrow_k22_sets_by_their_numbers" 409),kE P "__doc__" 166 .none,kE P "__package__" 167 .none,kE P "__loader__" 168 (.builtin "__main__.__loader__#opaque"),kE P "__spec__" 169 .none,kE P "__annotations__" 170 (.ref 6),kE P "__builtins__" 171 (.ref 4),kE P "__file__" 173 (vS "/claim/cut.py" 172),kE P "__cached__" 174 .none,kE P "ArchError" 206 (.ref 24),kE P "NoNumber" 222 (.ref 37),kE P "NoSet" 238 (.ref 49),kE P "arcs_cross" 252 (.ref 58),kE P "is_set" 260 (.ref 65),kE P "first_fault" 270 (.ref 72),kE P "fault_at" 280 (.ref 79),kE P "share_a_point" 288 (.ref 86),kE P "check_set" 296 (.ref 93),kE P "stretches_rising" 304 (.ref 98),kE P "partners_of" 310 (.ref 103),kE P "parts_left" 319 (.ref 110),kE P "ways_in" 330 (.ref 117),kE P "ways_by" 336 (.ref 122),kE P "set_number" 344 (.ref 127),kE P "set_at" 359 (.ref 134),kE P "next_set" 365 (.ref 139),kE P "how_many_begin" 373 (.ref 146),kE P "counts_of" 379 (.ref 151),kE P "waiting_behind" 392 (.ref 158),kE P "waiting_after" 402 (.ref 165),kE P "ties_next" 408 (.ref 170),kE P "_law_cell_at" 418 (.ref 177),kE P "_law_deck" 425 (.ref 184),kE P "_law_take" 435 (.ref 191),kE P "_law_row" 451 (.ref 198),kE P "_law_copied" 458 (.ref 205),kE P "_law_do_cross" 466 (.ref 212),kE P "_law_fits" 475 (.ref 219),kE P "_law_sets" 481 (.ref 224),kE P "_law_same" 487 (.ref 229),kE P "_law_is_tuples" 493 (.ref 234),kE P "_law_one_right" 499 (.ref 239),kE P "law" 505 (.ref 244)] 43}),
 (57,kC "arcs_cross" 241 9 2 52 181 53 .none (.ref 54) (.ref 55) 56 250 251),
 (58,kF dj "arcs_cross" "archrow.arcs" 239 57),
 (64,kC "is_set" 253 13 2 59 181 60 .none (.ref 61) (.ref 62) 63 258 259),
 (65,kF iZ "is_set" "archrow.arcs" 239 64),
 (71,kC "first_fault" 261 15 2 66 181 67 .none (.ref 68) (.ref 69) 70 268 269),
 (72,kF cW "first_fault" "archrow.arcs" 239 71),
 (78,kC "fault_at" 271 21 3 73 181 74 .none (.ref 75) (.ref 76) 77 278 279),
 (79,kF fC "fault_at" "archrow.arcs" 239 78),
 (85,kC "share_a_point" 281 33 2 80 181 81 .none (.ref 82) (.ref 83) 84 286 287),
 (86,kF cq "share_a_point" "archrow.arcs" 239 85),
 (92,kC "check_set" 289 35 2 87 181 88 .none (.ref 89) (.ref 90) 91 294 295),
 (93,kF eC "check_set" "archrow.arcs" 239 92),
 (97,kC "stretches_rising" 299 39 1 94 181 95 .none .none .none 96 302 303),
 (98,kF bJ "stretches_rising" "archrow.stretches" 297 97),
 (102,kC "partners_of" 305 41 1 99 181 100 .none .none .none 101 308 309),
 (103,kF cU "partners_of" "archrow.stretches" 297 102),
 (109,kC "parts_left" 311 47 3 104 181 105 .none (.ref 106) (.ref 107) 108 317 318),
 (110,kF dh "parts_left" "archrow.stretches" 297 109),
 (116,kC "ways_in" 320 51 2 111 181 112 .none (.ref 113) (.ref 114) 115 328 329),
 (117,kF gQ "ways_in" "archrow.stretches" 297 116),
 (121,kC "ways_by" 331 56 4 118 181 119 .none .none .none 120 334 335),
 (122,kF gR "ways_by" "archrow.stretches" 297 121),
 (126,kC "set_number" 339 59 2 123 181 124 .none .none .none 125 342 343),
 (127,kF dg "set_number" "archrow.counted" 337 126),
 (133,kC "set_at" 345 69 2 128 181 129 .none (.ref 130) (.ref 131) 132 357 358),
 (134,kF iY "set_at" "archrow.counted" 337 133),
 (138,kC "next_set" 360 87 2 135 181 136 .none .none .none 137 363 364),
 (139,kF fy "next_set" "archrow.counted" 337 138),
 (145,kC "how_many_begin" 366 97 2 140 181 141 .none (.ref 142) (.ref 143) 144 371 372),
 (146,kF b6 "how_many_begin" "archrow.counted" 337 145),
 (150,kC "counts_of" 374 100 1 147 181 148 .none .none .none 149 377 378),
 (151,kF eh "counts_of" "archrow.counted" 337 150),
 (157,kC "waiting_behind" 380 108 2 152 181 153 .none (.ref 154) (.ref 155) 156 390 391),
 (158,kF b5 "waiting_behind" "archrow.counted" 337 157),
 (164,kC "waiting_after" 393 114 2 159 181 160 .none (.ref 161) (.ref 162) 163 400 401),
 (165,kF cn "waiting_after" "archrow.counted" 337 164),
 (169,kC "ties_next" 403 119 2 166 181 167 .none .none .none 168 406 407),
 (170,kF eg "ties_next" "archrow.counted" 337 169),
 (176,kC "_law_cell_at" 411 122 2 171 181 172 .none (.ref 173) (.ref 174) 175 416 417),
 (177,kF cV "_law_cell_at" "law_archrow_k22_sets_by_their_numbers" 409 176),
 (183,kC "_law_deck" 419 126 1 178 181 179 .none (.ref 180) (.ref 181) 182 423 424),
 (184,kF dN "_law_deck" "law_archrow_k22_sets_by_their_numbers" 409 183),
 (190,kC "_law_take" 426 128 2 185 181 186 .none (.ref 187) (.ref 188) 189 433 434),
 (191,kF dJ "_law_take" "law_archrow_k22_sets_by_their_numbers" 409 190),
 (197,kC "_law_row" 436 137 2 192 181 193 .none (.ref 194) (.ref 195) 196 449 450),
 (198,kF gS "_law_row" "law_archrow_k22_sets_by_their_numbers" 409 197),
 (204,kC "_law_copied" 452 156 1 199 181 200 .none (.ref 201) (.ref 202) 203 456 457),
 (205,kF di "_law_copied" "law_archrow_k22_sets_by_their_numbers" 409 204),
 (211,kC "_law_do_cross" 459 158 2 206 181 207 .none (.ref 208) (.ref 209) 210 464 465),
 (212,kF cF "_law_do_cross" "law_archrow_k22_sets_by_their_numbers" 409 211),
 (218,kC "_law_fits" 467 160 2 213 181 214 .none (.ref 215) (.ref 216) 217 473 474),
 (219,kF fB "_law_fits" "law_archrow_k22_sets_by_their_numbers" 409 218),
 (223,kC "_law_sets" 476 165 1 220 181 221 .none .none .none 222 479 480),
 (224,kF fz "_law_sets" "law_archrow_k22_sets_by_their_numbers" 409 223),
 (228,kC "_law_same" 482 174 2 225 181 226 .none .none .none 227 485 486),
 (229,kF fA "_law_same" "law_archrow_k22_sets_by_their_numbers" 409 228),
 (233,kC "_law_is_tuples" 488 184 1 230 181 231 .none .none .none 232 491 492),
 (234,kF cv "_law_is_tuples" "law_archrow_k22_sets_by_their_numbers" 409 233),
 (238,kC "_law_one_right" 494 186 3 235 181 236 .none .none .none 237 497 498),
 (239,kF cu "_law_one_right" "law_archrow_k22_sets_by_their_numbers" 409 238),
 (243,kC "law" 500 202 1 240 181 241 .none .none .none 242 503 504),
 (244,kF ly "law" "law_archrow_k22_sets_by_their_numbers" 409 243)]
abbrev HK:PySem.W.Hook:=PySem.W.kHook KK [3,57,58,64,65,71,72,78,79,85,86,92,93,97,98,102,103,109,110,116,117,121,122,126,127,133,134,138,139,145,146,150,151,157,158,164,165,169,170,176,177,183,184,190,191,197,198,204,205,211,212,218,219,223,224,228,229,233,234,238,239,243,244] (λ_=>by kernel_rfl)
def view:UX:={PySem.Challenge.pw_archrow_k22_sets_by_their_numbers with main:={PySem.Challenge.pw_archrow_k22_sets_by_their_numbers.main with body:=[top 1,top 2,top 3,top 5,top 6,top 7,top 8,top 9,top 10,top 12,top 13,top 14,top 15,top 16,top 18,top 19,top 20,top 21,top 22,top 23,top 24,top 25,top 27,top 28,top 29,top 30,top 31,top 32,top 33,top 34,top 35,top 36,top 37,top 38]}}
theorem left:PySem.W.LeftO PySem.Challenge.pw_archrow_k22_sets_by_their_numbers view [] (λs=>PySem.W.xlAt view [] s&&PySem.W.recOk (PySem.W.RowW.records PySem.Challenge.rw_archrow_k22_sets_by_their_numbers.row.toRowW) s) HK.obs HK.val 3274:=L2.Hd.xF (by kernel_rfl) (by kernel_rfl) (λ_=>rfl) (λw os=>by kernel_rfl)
end iH
namespace L2
open PySem PySem.Spec PyProof.Rows
abbrev Key:=Sum Int Str
def nL:Key->UR->Bool
 |.inl k,v=>Value.isInt k v
 |.inr x,v=>Value.isStrOf x v
def N6 (w:Vb):Key->Int
 |.inl k=>hashInt k
 |.inr x=>hashStr w x
theorem bu:∀{k:Key} {v:UR},nL k v=true->(∃i t,k=Yx i/\v=Value.int i t)\/(∃x t,k=YI x/\v=Value.str x t)
 |.inl i,v,h=>by
  obtain⟨t,e⟩:=Value.isInt_shape (k:=i) (v:=v) h;exact .inl ⟨i,t,rfl,e⟩
 |.inr x,v,h=>by
  obtain⟨t,e⟩:=Value.isStrOf_shape (x:=x) (v:=v) h;exact .inr ⟨x,t,rfl,e⟩
theorem xJ (i:Int)(t:Tok):nL (.inl i) (.int i t)=true:=by simp[nL,Value.isInt]
theorem xI (x:Str)(t:Tok):nL (.inr x) (.str x t)=true:=by simp[nL,Value.isStrOf]
theorem G0 (a b:Int):decide ((Yx a:Key)=Yx b)=(a==b):=by
 by_cases e:a=b
 ·subst e;simp
 ·have h:¬ (Yx a:Key)=Yx b:=λq=>e (Sum.inl.inj q);rw[decide_eq_false h];exact(beq_eq_false_iff_ne.mpr e).symm
theorem GW (a b:Str):decide ((YI a:Key)=YI b)=decide (a=b):=by
 by_cases e:a=b
 ·subst e;simp
 ·have h:¬ (YI a:Key)=YI b:=λq=>e (Sum.inr.inj q);rw[decide_eq_false h,decide_eq_false e]
theorem GZ (a:Int)(b:Str):decide ((Yx a:Key)=YI b)=false:=decide_eq_false (λq=>nomatch q)
theorem GY (a:Str)(b:Int):decide ((YI a:Key)=Yx b)=false:=decide_eq_false (λq=>nomatch q)
def bU (prog:UX)(w:Vb):PySem.KeyKind prog w Key where
 is:=nL
 hash:=N6 w
 inj:=λv a b ha hb=>by
  rcases bu ha with⟨i,t,rfl,rfl⟩|⟨x,t,rfl,rfl⟩
  ·rcases bu hb with⟨j,u,rfl,e⟩|⟨y,u,rfl,e⟩
   ·injection e with e1 _;rw[e1]
   ·exact nomatch e
  ·rcases bu hb with⟨j,u,rfl,e⟩|⟨y,u,rfl,e⟩
   ·exact nomatch e
   ·injection e with e1 _;rw[e1]
 byValue:=λk v h=>by
  rcases bu h with⟨i,t,rfl,rfl⟩|⟨x,t,rfl,rfl⟩ <;> rfl
 pyHash:=λhv h=>by
  rcases bu hv with⟨i,t,rfl,rfl⟩|⟨x,t,rfl,rfl⟩
  ·exact wpAny_pyHash_int h
  ·exact wpAny_pyHash_str h
 eqBool:=λhu hv h=>by
  rcases bu hu with⟨i,t,rfl,rfl⟩|⟨x,t,rfl,rfl⟩
  ·rcases bu hv with⟨j,u,rfl,rfl⟩|⟨y,u,rfl,rfl⟩
   ·rw[G0]at h;exact wpAny_eqBool_int h
   ·rw[GZ]at h;exact SeqAt.EqAt.int_str i t y u _ _ _ _ h
  ·rcases bu hv with⟨j,u,rfl,rfl⟩|⟨y,u,rfl,rfl⟩
   ·rw[GY]at h;exact SeqAt.EqAt.str_int x t j u _ _ _ _ h
   ·rw[GW]at h;exact wpAny_eqBool_str h
 «strs»:=λk x t v h=>by
  rcases bu h with⟨i,u,rfl,e⟩|⟨y,u,rfl,e⟩
  ·exact nomatch e
  ·injection e with e1 _
   subst e1;cases v <;> rfl
theorem rB (prog:UX)(w:Vb)(i:Int)(t:Tok):(bU prog w).is (.inl i) (.int i t)=true:=xJ i t
theorem rA (prog:UX)(w:Vb)(x:Str)(t:Tok):(bU prog w).is (.inr x) (.str x t)=true:=xI x t
inductive V where
 |bH|bl (b:Bool)|int (i:Int)|str (x:Str)|L0 (b:Array UInt8)|HH (b:UInt64)|ref (a:Addr)|ty (n:String)
 deriving DecidableEq
def RelV:V->UR->Prop
 |.bH,u=>u=Value.none
 |.bl b,u=>u=Value.bool b
 |.int i,u=>∃t,u=Value.int i t
 |.str x,u=>∃t,u=Value.str x t
 |.L0 b,u=>∃t,u=Value.bytes b t
 |.HH b,u=>∃t,u=Value.float b t
 |.ref a,u=>u=Value.ref a
 |.ty n,u=>u=Value.type n
abbrev Vals:List V->List UR->Prop:=Paired RelV
theorem Vals.length {xs:List V}{us:List UR}(r:Vals xs us):xs.length=us.length:=Paired.length r
theorem Vals.get:∀{xs:List V} {us:List UR} {i:Nat} {x:V},Vals xs us->xs[i]?=some x->∃u,us[i]?=some u/\RelV x u
 |_,_,_,_,.nil,e=>by simp at e
 |_,_,0,_,.cons r _,e=>by simp at e;subst e;exact⟨_,rfl,r⟩
 |_,_,i+1,x,.cons _ t,e=>by
  obtain⟨u,h1,h2⟩:=Vals.get (i:=i) (x:=x) t (by simpa using e)
  exact⟨u,by simpa using h1,h2⟩
theorem Vals.set {x:V}{u:UR}(r:RelV x u):∀{xs:List V} {us:List UR} (i:Nat),Vals xs us->Vals (xs.set i x) (us.set i u)
 |_,_,_,.nil=>.nil
 |_,_,0,.cons _ t=>.cons r t
 |_,_,i+1,.cons q t=>.cons q (Vals.set r i t)
theorem Vals.append:∀{xs ys:List V} {us ws:List UR},Vals xs us->Vals ys ws->Vals (xs++ys) (us++ws)
 |_,_,_,_,.nil,s=>s
 |_,_,_,_,.cons r t,s=>.cons r (Vals.append t s)
theorem Vals.take:∀{xs:List V} {us:List UR} (n:Nat),Vals xs us->Vals (xs.take n) (us.take n)
 |_,_,0,_=>.nil
 |_,_,_+1,.nil=>.nil
 |_,_,n+1,.cons r t=>.cons r (Vals.take n t)
theorem Vals.drop:∀{xs:List V} {us:List UR} (n:Nat),Vals xs us->Vals (xs.drop n) (us.drop n)
 |_,_,0,r=>r
 |_,_,_+1,.nil=>.nil
 |_,_,n+1,.cons _ t=>Vals.drop n t
theorem Vals.none_of:∀{xs:List V} {us:List UR} {i:Nat},Vals xs us->xs[i]?=none->us[i]?=none:=λ{xs us i} r e=>by
 have h1:=r.length;have h2:xs.length<=i:=Zf.mp e;exact Zf.mpr (by lia)
def yu:Option V->Option UR->Prop
 |some v,some u=>RelV v u
 |none,none=>True
 |_,_=>False
def KV {κ:Type}:List (κ×V)->List (κ×UR)->Prop:=Paired λ(p:κ×V) (q:κ×UR)=>p.1=q.1/\RelV p.2 q.2
def kV:Key->V
 |.inl i=>.int i
 |.inr x=>.str x
inductive HO where
 /-- a list -/
 |lst (xs:List V)
 /-- a tuple (never changes) -/
 |tup (xs:List V)
 /-- a dict whose keys are ints and texts;one whose keys are tuples of ints and texts (the empty one is both) -/
 |dK (a7:List (Key×V))|dT (a7:List (List Key×V))
 /-- a set of ints: its members,its size -/
 |set (S:Int->Bool) (n:Nat)
 /-- an instance of the class at C,its dict at dx,its attributes -/
 |ins (C dx:Addr) (fs:List (Str×V))
 /-- the dict of the instance at x -/
 |own (x:Addr)
 /-- the dict of an exception -/
 |xd (fs:List (Str×V))
 /-- a bound method,f of x -/
 |met (f x:Addr)
 /-- a range object lo,lo+1,.. below hi -/
 |Nv (lo hi:Int)
 /-- a IL that is known to the object (the Nr;a dict while a loop walks it): read,never written while it is so -/
 |tu (o:Obj) (u:HO)
 /-- a code JE table -/
 |Fs (ps:Array UR)
 /-- any other IL,by what is true of its one object (a def of JC own: L7 a S n:=HO.ext λh=>..) -/
 |ext (φ:Heap->Prop)
abbrev Hp:=Addr->Option HO
def upd (H:Hp)(a:Addr)(o:HO):Hp:=λb=>if b=a then some o else H b
theorem ar {H:Hp}{a:Addr}{o:HO}:upd H a o a=some o:=by unfold upd;rw[if_pos rfl]
theorem aw {H:Hp}{a b:Addr}{o:HO}(h:b≠a):upd H a o b=H b:=by unfold upd;rw[if_neg h]
theorem Ep {H:Hp}{a b:Addr}{o u:HO}(h:H a=some o)(h':H b=some u)(d:o≠u):a≠b:=by
 intro e;subst e;rw[h]at h';exact d (VQ h')
theorem cz {H:Hp}{a b:Addr}{o:HO}(h:H a=some o)(h':H b=none):a≠b:=by
 intro e;subst e;rw[h]at h';cases h'
section
variable (P:UX)(w:Vb)
def bh (H:Hp)(h:Heap)(a:Addr):HO->Prop
 |.lst xs=>xs.length<=U4/\∃(its:List UR) (n:Nat),Vals xs its/\h.get? a=some {cls:=.type "list",data:=.seq its.toArray n}
 |.tup xs=>xs.length<=U4/\∃its:List UR,Vals xs its/\YY h a its.toArray
 |.dK a7=>a7.length<=U4/\(a==Wz)=false/\∃vs,KV a7 vs/\h.DictOf (bU P w) a vs
 |.dT a7=>a7.length<=U4/\(a==Wz)=false/\∃xs:List (List Key×Addr×UR),
   Paired (λ(p:List Key×V) (q:List Key×Addr×UR)=>p.1=q.1/\H q.2.1=some (.tup (p.1.map kV))/\RelV p.2 q.2.2) a7 xs /\
   ∃o es ep,h.get? a=some o/\o.ExactDict/\o.data=.dict es ep/\es.toList=xs.map (entryOfKey (Yu (bU P w)))/\(xs.map (·.1)).Nodup
 |.set S n=>h.SetOf (intKind P w) a S n
 |.ins C dx fs=>H dx=some (.own a)/\fs.length<=1000/\dx≠a/\h.get? a=some (PySem.W.instObj C dx) /\
   ∃mA,h.Ns1 dx mA/\(∀f,yu (fs.lookup f) (mA f))/\PySem.Within mA (fs.map (·.1))
 |.own _=>∃o,h.get? a=some o
 |.xd fs=>∃mA,h.Ns1 a mA/\∀f,yu (fs.lookup f) (mA f)
 |.Nv lo hi=>∃t u v,h.get? a=some {cls:=.type "range",data:=.fields #[.int lo t,.int hi u,.int 1 v]}
 |.tu o u=>h.get? a=some o/\bh H h a u
 |.Fs ps=>h.get? a=some {cls:=.none,data:=.fields ps}
 |.met f x=>h.get? a=some (PySem.W.methodObj (.ref f) (.ref x))
 |.ext φ=>φ h/\(∃o,h.get? a=some o)/\∀h1 h2:Heap,φ h1->(∀o,h1.get? a=some o->h2.get? a=some o)->φ h2
def iF (H:Hp)(h:Heap):Prop:=∀a o,H a=some o->bh P w H h a o
end
section
variable {P:UX}{w:Vb}{H H':Hp}{h h':Heap}{a:Addr}{o:HO}
theorem bh.lt (x:bh P w H h a o):a<h.objs.size:=by
 cases o with
 |lst xs=>obtain⟨_,_,_,_,e⟩:=x;exact Vi e
 |tup xs=>obtain⟨_,_,_,p⟩:=x;exact p.lt
 |dK a7=>obtain⟨_,_,_,_,o,_,_,e,_⟩:=x;exact Vi e
 |dT a7=>obtain⟨_,_,_,_,o,_,_,e,_⟩:=x;exact Vi e
 |set S n=>obtain⟨o,_,_,_,e,_⟩:=x;exact Vi e
 |ins C dx fs=>obtain⟨_,_,_,e,_⟩:=x;exact Vi e
 |own y=>obtain⟨_,e⟩:=x;exact Vi e
 |xd fs=>obtain⟨_,⟨_,_,_,e,_⟩,_⟩:=x;exact Vi e
 |Nv lo hi=>obtain⟨_,_,_,e⟩:=x;exact Vi e
 |tu ob u=>obtain⟨e,_⟩:=x;exact Vi e
 |Fs ps=>exact Vi (show h.get? a=some _ from x)
 |met f y=>exact Vi (show h.get? a=some _ from x)
 |ext φ=>obtain⟨_,⟨_,e⟩,_⟩:=x;exact Vi e
theorem Paired.GB {α β:Type}{F G:α->β->Prop}:∀{l₁:List α} {l₂:List β},Paired F l₁ l₂->(∀a b,F a b->G a b)->Paired G l₁ l₂
 |_,_,.nil,_=>.nil
 |_,_,.cons r t,f=>.cons (f _ _ r) (Paired.GB t f)
theorem bh.qH (x:bh P w H h a o)(k:∀b u,(b=a\/H b=some (.own a))->h.get? b=some u->h'.get? b=some u)
  (ho:∀b,H b=some (.own a)->H' b=some (.own a)) (ht:∀b xs,H b=some (.tup xs)->H' b=some (.tup xs)):bh P w H' h' a o:=by
 induction o with
 |lst xs=>obtain⟨z,its,n,r,e⟩:=x;exact⟨z,its,n,r,k _ _ (.inl rfl) e⟩
 |tup xs=>obtain⟨z,its,r,ob,e,c⟩:=x;exact⟨z,its,r,ob,k _ _ (.inl rfl) e,c⟩
 |dK a7=>obtain⟨z,y,vs,r,ob,es,ep,e,c⟩:=x;exact⟨z,y,vs,r,ob,es,ep,k _ _ (.inl rfl) e,c⟩
 |dT a7 =>
  obtain⟨z,y,xs,r,ob,es,ep,e,c⟩:=x;exact⟨z,y,xs,Paired.GB r λp q z=>⟨z.1,ht _ _ z.2.1,z.2.2⟩,ob,es,ep,k _ _ (.inl rfl) e,c⟩
 |set S n=>obtain⟨ob,es,ep,t,e,c⟩:=x;exact⟨ob,es,ep,t,k _ _ (.inl rfl) e,c⟩
 |ins C dx fs =>
  obtain⟨d,z,ne,e,mA,⟨od,es,ep,e2,c⟩,r⟩:=x;exact⟨ho _ d,z,ne,k _ _ (.inl rfl) e,mA,⟨od,es,ep,k _ _ (.inr d) e2,c⟩,r⟩
 |own y=>obtain⟨ob,e⟩:=x;exact⟨ob,k _ _ (.inl rfl) e⟩
 |xd fs=>obtain⟨mA,⟨od,es,ep,e,c⟩,r⟩:=x;exact⟨mA,⟨od,es,ep,k _ _ (.inl rfl) e,c⟩,r⟩
 |Nv lo hi=>obtain⟨t,u,v,e⟩:=x;exact⟨t,u,v,k _ _ (.inl rfl) e⟩
 |tu ob u ih=>obtain⟨e,q⟩:=x;exact⟨k _ _ (.inl rfl) e,ih q⟩
 |Fs ps =>
  have e:h.get? a=some {cls:=.none,data:=.fields ps}:=x;show h'.get? a=some {cls:=.none,data:=.fields ps};exact k a _ (.inl rfl) e
 |met f y =>
  have e:h.get? a=some (PySem.W.methodObj (.ref f) (.ref y)):=x;show h'.get? a=some (PySem.W.methodObj (.ref f) (.ref y));exact k a _ (.inl rfl) e
 |ext φ=>obtain⟨p,⟨o,e⟩,st⟩:=x;exact⟨st _ _ p λo q=>k _ _ (.inl rfl) q,⟨o,k _ _ (.inl rfl) e⟩,st⟩
theorem iF.lt (x:iF P w H h)(e:H a=some o):a<h.objs.size:=(x a o e).lt
theorem iF.fresh (x:iF P w H h)(e:h.objs.size<=a):H a=none:=by
 cases q:H a with
 |none=>rfl
 |some u=>exact absurd (VC (x.lt q) e) (XD _)
theorem iF.kept (x:iF P w H h)(k:∀b u,h.get? b=some u->h'.get? b=some u):iF P w H h':=λa o e =>
 (x a o e).qH (λb u _ q=>k b u q) (λ_ q=>q) λ_ _ q=>q
theorem iF.laid (x:iF P w H h)(k:∀b u,h.get? b=some u->h'.get? b=some u)(hp:h.objs.size<=a)(new:bh P w (upd H a o) h' a o):iF P w (upd H a o) h':=λb u e=>by
 have hn:=x.fresh hp
 by_cases hb:b=a
 ·subst hb;rw[ar]at e;cases e;exact new
 ·rw[aw hb]at e;exact(x b u e).qH (λc v _ q=>k c v q) (λc q=>by rw[aw (cz q hn)];exact q) λc xs q=>by rw[aw (cz q hn)];exact q
end
def Rd (H:Hp)(a:Addr)(u:HO):Prop:=H a=some u\/∃o,H a=some (.tu o u)
theorem Rd.ok {P:UX}{w:Vb}{H:Hp}{h:Heap}{a:Addr}{u:HO}(r:Rd H a u)(x:iF P w H h):bh P w H h a u:=by
 rcases r with r|⟨o,r⟩
 ·exact x a u r
 ·obtain⟨_,q⟩:=x a _ r;exact q
def Mc:Option HO->Prop
 |some (.lst _)=>True
 |some (.dK _)=>True
 |some (.dT _)=>True
 |some (.set _ _)=>True
 |some (.ins _ _ _)=>True
 |some (.ext _)=>True
 |_=>False
section
variable {P:UX}{w:Vb}{H:Hp}{h h':Heap}{x e:Addr}{o':HO}
theorem iF.write (ok:iF P w H h)(mu:Mc (H x))(he:e=x\/H e=some (.own x))(k:∀b u,b≠e->h.get? b=some u->h'.get? b=some u)(Iz:∃u,h'.get? e=some u)
  (new:bh P w (upd H x o') h' x o'):iF P w (upd H x o') h':=λb u q=>by
 have JF:∀c y,H c=some (.own y)->c≠x:=λc y r z=>by subst z;rw[r]at mu;exact mu
 have NV:∀c xs,H c=some (.tup xs)->c≠x:=λc xs r z=>by subst z;rw[r]at mu;exact mu
 by_cases hb:b=x
 ·subst hb;rw[ar]at q;cases q;exact new
 ·rw[aw hb]at q
  by_cases HB:b=e
  ·have q':H b=some (.own x):=by
    rcases he with z|z
    ·exact absurd (HB.trans z) hb
    ·rw[HB];exact z
   rw[q]at q';cases q';obtain⟨v,hv⟩:=Iz;exact⟨v,by rw[HB];exact hv⟩
  ·refine(ok b u q).qH (λc v hc r=>k c v ?_ r) (λc r=>by rw[aw (JF c b r)];exact r) λc xs r=>by rw[aw (NV c xs r)];exact r
   rcases hc with rfl|hc
   ·exact HB
   ·rintro rfl;rcases he with z|z
    ·exact JF c b hc z
    ·rw[hc]at z;cases z;exact hb rfl
end
structure Un (fs ex:List Addr)(H H':Hp)(h h':Heap):Prop where
 keep:∀b o,h.get? b=some o->H b=none->b∉fs->b∉ex->h'.get? b=some o
 slot:∀b o,h.get? b=some o->H b=none->b∈fs->b∉ex->∃sl,h'.get? b=some {o with slots:=sl}
 free:∀b o,h.get? b=some o->H b=none->b∉ex->H' b=none
 there:∀b o,h.get? b=some o->b∉ex->∃o',h'.get? b=some o'
 oS:∀b xs,H b=some (.tup xs)->H' b=some (.tup xs)
 mY:∀b o u,H b=some (.tu o u)->H' b=some (.tu o u)
 oV:∀b ps,H b=some (.Fs ps)->∃more,H' b=some (.Fs (ps++more))
section
variable {fs ex:List Addr}{H H1:Hp}{h h1 h':Heap}{a x e:Addr}{o:HO}
theorem Un.any (u:Un fs ex H H1 h h1){b:Addr}{ob:Obj}(q:h.get? b=some ob)(n:H b=none)(hx:b∉ex):∃sl,h1.get? b=some {ob with slots:=sl}:=by
 by_cases hb:b∈fs
 ·exact u.slot b ob q n hb hx
 ·exact⟨ob.slots,u.keep b ob q n hb hx⟩
theorem Un.kept (k:∀b u,h.get? b=some u->h'.get? b=some u):Un fs ex H H h h' :=
 ⟨λb ob q _ _ _=>k b ob q,λb ob q _ _ _=>⟨ob.slots,k b ob q⟩,λ_ _ _ n _=>n,λb ob q _=>⟨ob,k b ob q⟩,λ_ _ q=>q,λ_ _ _ q=>q,λ_ ps q=>⟨#[],by rw[q];simp⟩⟩
theorem Un.refl:Un fs ex H H h h:=Un.kept λ_ _ q=>q
theorem Un.laid (k:∀b u,h.get? b=some u->h'.get? b=some u)(hp:h.objs.size<=a)(hn:H a=none):Un fs ex H (upd H a o) h h' where
 keep:=λb u q _ _ _=>k b u q
 slot:=λb u q _ _ _=>⟨u.slots,k b u q⟩
 free:=λb u q n _=>by rw[aw (VP (VC (Vi q) hp))];exact n
 there:=λb u q _=>⟨u,k b u q⟩
 oS:=λb xs q=>by rw[aw (cz q hn)];exact q
 mY:=λb u xs q=>by rw[aw (cz q hn)];exact q
 oV:=λb ps q=>⟨#[],by rw[aw (cz q hn),q];simp⟩
theorem Un.write (mu:Mc (H x))(he:e=x\/H e=some (.own x))(k:∀b u,b≠e->h.get? b=some u->h'.get? b=some u)(Iz:∃u,h'.get? e=some u):Un fs ex H (upd H x o) h h':=by
 have hx:∀b,H b=none->b≠x:=λb n z=>by subst z;rw[n]at mu;exact mu
 have hb:∀b,H b=none->b≠e:=λb n z=>by
  subst z;rcases he with r|r
  ·exact hx b n r
  ·rw[n]at r;cases r
 have hm:∀b u,H b=some u->¬ Mc (some u)->b≠x:=λb u q nm z=>by subst z;rw[q]at mu;exact nm mu
 refine⟨λb u q n _ _=>k b u (hb b n) q,λb u q n _ _=>⟨u.slots,k b u (hb b n) q⟩,λb u q n _=>by rw[aw (hx b n)];exact n,λb u q _=>?_,
  λb xs q=>by rw[aw (hm b _ q λz=>z)];exact q,λb u xs q=>by rw[aw (hm b _ q λz=>z)];exact q,λb ps q=>⟨#[],by rw[aw (hm b _ q λz=>z),q];simp⟩⟩
 by_cases HB:b=e
 ·subst HB;exact Iz
 ·exact⟨u,k b u HB q⟩
end
def Mo (h:Heap)(H:Hp):List Addr:=(Vk h.objs.size).filter λa=>(H a).isSome
def pS (h:Heap)(H:Hp):Heap:=PySem.W.hideAll h (Mo h H)
theorem xT (h:Heap)(H:Hp):(pS h H).objs.size=h.objs.size:=PySem.W.hideAll_size _ _
theorem AO {h:Heap}{H:Hp}{b:Addr}{o:Obj}(e:h.get? b=some o)(n:H b=none):(pS h H).get? b=some o :=
 PySem.W.hideAll_get _ e λhm=>by
  have q:(H b).isSome=true:=(VF.mp hm).2;rw[n]at q;simp at q
theorem CQ {h:Heap}{H:Hp}{b:Addr}{o:Obj}(e:(pS h H).get? b=some o):h.get? b=some o/\H b=none:=by
 have e':h.get? b=some o:=PySem.W.of_hideAll (Mo h H) e;refine⟨e',?_⟩;cases q:H b with
 |none=>rfl
 |some x =>
  have hm:b∈Mo h H:=VF.mpr ⟨V3.mpr (Vi e'),by simp[q]⟩
  have z:(pS h H).get? b=none:=PySem.W.hideAll_none (Mo h H) hm;rw[z]at e;cases e
structure Mod (K:PySem.W.Frag)(mg:Str->Option UR)(base:Heap):Prop where
 N5:K.In base
 glob:base.Ns Wv mg
 blt:∃mb,base.Ns builtinsNs mb/\∀x:Str,x≠"__name__" -> mb x=VI x
 nolimit:base.NoLimit
structure Cx where
 prog:UX
 w:Vb
 K:PySem.W.Frag
 mg:Str->Option UR
 base:Heap
 A:VZ
 N:List Str
 s₀:UT
 H₀:Hp
 env:Env
 outer:List Env
 stack:List Env
 ex:List Addr
 fn:Str->Bool
 calm:Bool
 pn:List (Addr×Obj)
 xe:UR->UT->Prop
def AX (l:List Env):List Addr:=l.filterMap (·.frame)
abbrev Cx.fs (X:Cx):List Addr:=AX X.outer
def sR (sc:Xr)(x:Str):Prop:=sc.names.lookup x=some .local\/sc.names.lookup x=some .cell\/sc.names.lookup x=some .free
def Loc (sc:Xr)(x:Str):Prop:=sc.names.lookup x=some .local\/sc.names.lookup x=some .cell
def Look (env:Env)(h:Heap)(m:Str->Option UR)(x:Str)(u:UR):Prop :=
 (env.kindOf x=some .local/\m x=some u)\/((env.kindOf x=some .cell\/env.kindOf x=some .free)/\∃c,env.cells.lookup x=some c/\h.IsCell c (some u))
structure Cx.Ok (X:Cx):Prop where
 mod:Mod X.K X.mg X.base
 kind:X.env.scope.kind=.function
 glob:X.env.globals=Wv
 blt:X.env.builtins=builtinsNs
 above:X.s₀.heap.objs.size<=X.env.locals
 inj:∀x y c,X.env.cells.lookup x=some c->X.env.cells.lookup y=some c->x=y
 has:∀x,(X.env.kindOf x=some .cell\/X.env.kindOf x=some .free)->∃c,X.env.cells.lookup x=some c
 LZ:∀x c,X.fn x=true->X.env.cells.lookup x=some c->X.s₀.heap.objs.size<=c
 hd:X.calm=true->X.A.handled=none
 frames:X.A.frames=some X.stack
 Mr:X.stack=X.outer\/(X.stack=X.env::X.outer/\X.env.frame=some X.env.locals)
 MQ:∀b∈X.ex,b≠X.env.locals/\∀x c,X.env.cells.lookup x=some c->c≠b
 bs:∀b o,X.base.get? b=some o->X.s₀.heap.get? b=some o/\X.H₀ b=none
 E3:X.base.objs.size<=X.s₀.heap.objs.size
 z9:∀b o,X.base.get? b=some o->b∉X.ex
 A9:∀b∈X.ex,b∉X.fs
 l4:X.s₀.heap.FunFrames X.base X.outer
 IC:∀b∈X.fs,X.H₀ b=none
structure Inv (X:Cx)(pins:List (Addr×Obj))(σ:List (Option V))(H:Hp)(s:UT):Prop where
 ok:X.Ok
 os:s.os=X.s₀.os
 bare:Yi s.gens
 base:Un X.fs X.ex X.H₀ H X.s₀.heap s.heap
 loc:∃m,s.heap.Ns X.env.locals m/\∀(i:Nat) (x:Str) (v:V),X.N[i]?=some x->σ[i]?=some (some v)->sR X.env.scope x->∃u,RelV v u/\Look X.env s.heap m x u
 cell:∀x c,X.env.cells.lookup x=some c->∃v,s.heap.IsCell c v
 free:H X.env.locals=none
 h_:∀x c,X.env.cells.lookup x=some c->H c=none
 pin:∀p∈X.pn++pins,s.heap.get? p.1=some p.2/\H p.1=none/\p.1≠X.env.locals/\p.1∉X.fs/\∀v,p.2.data≠.cell v
 bM:iF X.prog X.w H s.heap
 len:σ.length=X.N.length
section
variable {X:Cx}{pins:List (Addr×Obj)}{σ:List (Option V)}{H H':Hp}{s:UT}{h':Heap}
theorem Cx.Ok.Gx (ok:X.Ok){b:Addr}{o:Obj}(e:X.base.get? b=some o):b∉X.fs:=λhb=>by
 have:=(ok.l4.mem hb).1;rw[e]at this;cases this
theorem Inv.bs (I:Inv X pins σ H s):∀b o,X.base.get? b=some o->s.heap.get? b=some o/\H b=none:=λb o e =>
 ⟨I.base.keep b o (I.ok.bs b o e).1 (I.ok.bs b o e).2 (I.ok.Gx e) (I.ok.z9 b o e),I.base.free b o (I.ok.bs b o e).1 (I.ok.bs b o e).2 (I.ok.z9 b o e)⟩
theorem Inv.bk (I:Inv X pins σ H s):∀b o,X.base.get? b=some o->s.heap.get? b=some o:=λb o e=>(I.bs b o e).1
theorem Inv.mod (I:Inv X pins σ H s):Mod X.K X.mg X.base:=I.ok.mod
theorem Inv.jP (I:Inv X pins σ H s):X.K.In s.heap:=I.ok.mod.N5.keeps I.bk
theorem Inv.lt (I:Inv X pins σ H s):X.env.locals<s.heap.objs.size:=let ⟨_,hn,_⟩:=I.loc;hn.lt
theorem Inv.sz (I:Inv X pins σ H s):X.s₀.heap.objs.size<=s.heap.objs.size:=Vm I.ok.above (Nat.le_of_lt I.lt)
theorem Inv.NW (I:Inv X pins σ H s){a:Addr}(h:s.heap.objs.size<=a):a∉X.fs:=λhb=>by
 obtain⟨_,o,ho,_⟩:=I.ok.l4.mem hb;exact absurd (VC (Vi ho) (Vm I.sz h)) (XD _)
theorem Inv.HR (I:Inv X pins σ H s):∀x c,X.env.cells.lookup x=some c->c≠X.env.locals:=λx c e z=>by
 obtain⟨v,o,ho,hd⟩:=I.cell x c e;obtain⟨m,⟨o',es,ep,Dl,Tf,_⟩,_⟩:=I.loc;rw[z,Dl]at ho;cases ho;rw[Tf]at hd;cases hd
theorem Inv.l4 (I:Inv X pins σ H s):s.heap.FunFrames X.base X.outer:=by
 have all:∀(l:List Env),(∀b∈AX l,b∈X.fs)->X.s₀.heap.FunFrames X.base l->s.heap.FunFrames X.base l:=by
  intro l
  induction l with
  |nil=>intro _ _;trivial
  |cons env r ih =>
   intro hs hl;obtain⟨hk,⟨L,o,hf,hn,ho,hd⟩,hr⟩:=hl;have hL:L∈X.fs:=hs L (by unfold AX;rw[WH,hf];exact U9)
   obtain⟨sl,e⟩:=I.base.slot L o ho (I.ok.IC L hL) hL λz=>I.ok.A9 L z hL;exact⟨hk,⟨L,_,hf,hn,e,hd⟩,ih (λb hb=>hs b (by unfold AX;rw[WH,hf];exact U6 _ hb)) hr⟩
 exact all X.outer (λ_ hb=>hb) I.ok.l4
theorem Inv.stack (I:Inv X pins σ H s):s.heap.FunFrames X.base X.stack:=by
 rcases I.ok.Mr with e|⟨e,hf⟩
 ·rw[e];exact I.l4
 ·rw[e];obtain⟨m,hn,_⟩:=I.loc;refine .cons (by rw[I.ok.kind];decide) hf hn ?_ I.l4
  exact Heap.get?_none_of_le (Vm I.ok.E3 I.ok.above)
theorem Inv.tO (I:Inv X pins σ H s):∀b∈AX X.stack,b∈X.env.locals::X.fs:=λb hb=>by
 rcases I.ok.Mr with e|⟨e,hf⟩
 ·rw[e]at hb;exact U6 _ hb
 ·rw[e]at hb;unfold AX at hb;rw[WH,hf]at hb;exact hb
theorem Inv.vg (I:Inv X pins σ H s):∀b∈AX X.stack,H b=none:=λb hb=>by
 rcases U0.mp (I.tO b hb)with e|hb
 ·rw[e];exact I.free
 ·obtain⟨_,o,ho,_⟩:=I.ok.l4.mem hb;exact I.base.free b o ho (I.ok.IC b hb) λz=>I.ok.A9 b z hb
theorem Inv.step {g':Array GenState}{t':Nat}{d':Drawn}{ch:List Addr}(I:Inv X pins σ H s)
  (v7:∀b∈ch,(b∈X.ex\/X.s₀.heap.objs.size<=b)/\b≠X.env.locals/\(∀x c,X.env.cells.lookup x=some c->c≠b)/\∀p∈X.pn++pins,p.1≠b)
  (keep:∀b o,b≠X.env.locals->b∉X.fs->b∉ch->s.heap.get? b=some o->H b=none->h'.get? b=some o)
  (slot:∀b o,b≠X.env.locals->b∈X.fs->b∉ch->s.heap.get? b=some o->H b=none->∃sl,h'.get? b=some {o with slots:=sl}) (free:∀b o,b∉ch->s.heap.get? b=some o->H b=none->H' b=none)
  (there:∀b o,b∉ch->s.heap.get? b=some o->∃o',h'.get? b=some o')
  (oS:∀b xs,H b=some (.tup xs)->H' b=some (.tup xs)) (mY:∀b o u,H b=some (.tu o u)->H' b=some (.tu o u)) (oV:∀b ps,H b=some (.Fs ps)->∃more,H' b=some (.Fs (ps++more)))
  (ns:∀m,s.heap.Ns X.env.locals m->h'.Ns X.env.locals m) (bM:iF X.prog X.w H' h') (hg:Yi g') :
  Inv X pins σ H' {s with heap:=h',gens:=g',drawn:=d',toks:=t'}:=by
 have Qz:∀b o,X.s₀.heap.get? b=some o->b≠X.env.locals:=λb o e=>VP (VC (Vi e) I.ok.above);have MA:∀b o,X.s₀.heap.get? b=some o->b∉X.ex->b∉ch:=λb o e hx hb=>by
  rcases (v7 b hb).1 with z|z
  ·exact hx z
  ·exact absurd (VC (Vi e) z) (XD _)
 have cellK:∀x c,X.env.cells.lookup x=some c->∀v,s.heap.IsCell c v->h'.IsCell c v:=λx c e v xR=> by
  obtain⟨o,ho,hd⟩ := xR;have JN:c∉ch:=λz=>(v7 c z).2.2.1 x c e rfl
  by_cases hc:c∈X.fs
  ·obtain⟨sl,q⟩:=slot c o (I.HR x c e) hc JN ho (I.h_ x c e);exact⟨_,q,hd⟩
  ·exact⟨o,keep c o (I.HR x c e) hc JN ho (I.h_ x c e),hd⟩
 refine⟨I.ok,I.os,hg,⟨λb o e n hb hx=>?_,λb o e n hb hx=>?_,λb o e n hx=>?_,λb o e hx=>?_,λb xs e=>oS b xs (I.base.oS b xs e),λb o xs e=>mY b o xs (I.base.mY b o xs e),λb ps e=>?_⟩,?_,λx c e=>?_,?_,λx c e=>?_,λp hp=>?_,bM,I.len⟩
 ·exact keep b o (Qz b o e) hb (MA b o e hx) (I.base.keep b o e n hb hx) (I.base.free b o e n hx)
 ·obtain⟨sl,e1⟩:=I.base.slot b o e n hb hx;obtain⟨RN,e2⟩:=slot b _ (Qz b o e) hb (MA b o e hx) e1 (I.base.free b o e n hx);exact⟨RN,e2⟩
 ·obtain⟨o',e1⟩:=I.base.there b o e hx;exact free b o' (MA b o e hx) e1 (I.base.free b o e n hx)
 ·obtain⟨o',e1⟩:=I.base.there b o e hx;exact there b o' (MA b o e hx) e1
 ·obtain⟨m1,e1⟩:=I.base.oV b ps e;obtain⟨m2,e2⟩:=oV b _ e1;exact⟨m1++m2,by rw[e2,Array.append_assoc]⟩
 ·obtain⟨m,hn,hl⟩:=I.loc;refine⟨m,ns m hn,λi x v e1 e2 e3=>?_⟩;obtain⟨u,r,l⟩:=hl i x v e1 e2 e3;refine⟨u,r,?_⟩;rcases l with l|⟨k,c,e,z⟩
  ·exact .inl l
  ·exact .inr ⟨k,c,e,cellK x c e _ z⟩
 ·obtain⟨v,z⟩:=I.cell x c e;exact⟨v,cellK x c e v z⟩
 ·obtain⟨m,⟨o,_,_,ho,_⟩,_⟩:=I.loc;exact free _ o (λz=>(v7 _ z).2.1 rfl) ho I.free
 ·obtain⟨v,o,ho,hd⟩:=I.cell x c e;exact free c o (λz=>(v7 c z).2.2.1 x c e rfl) ho (I.h_ x c e)
 ·obtain⟨e,n,ne,nf,d⟩:=I.pin p hp;have JN:p.1∉ch:=λz=>(v7 p.1 z).2.2.2 p hp rfl;exact⟨keep p.1 p.2 ne nf JN e n,free p.1 p.2 JN e n,ne,nf,d⟩
theorem Inv.un {t':Nat}(I:Inv X pins σ H s)(u:Un X.fs [] H H' s.heap h')(bM:iF X.prog X.w H' h'):Inv X pins σ H' {s with heap:=h',toks:=t'}:=by
 obtain⟨m,⟨o,es,ep,ho,r⟩,_⟩:=id I.loc;obtain⟨sl,hL⟩:=u.any ho I.free (by simp)
 exact I.step (g':=s.gens) (d':=s.drawn) (ch:=[]) (λ_ z=>nomatch z) (λb o _ hb _ e n=>u.keep b o e n hb (by simp)) (λb o _ hb _ e n=>u.slot b o e n hb (by simp)) (λb o _ e n=>u.free b o e n (by simp)) (λb o _ e=>u.there b o e (by simp)) u.oS u.mY u.oV (λm' hm=>by
  obtain⟨o',uI,ER,Dl,r'⟩:=hm;rw[ho]at Dl;cases Dl;exact⟨_,uI,ER,hL,r'⟩) bM I.bare
theorem Inv.call {g':Array GenState}{t':Nat}{d':Drawn}{ch:List Addr}(I:Inv X pins σ H s)(u:Un (AX X.stack) ch H H' s.heap h')(bM:iF X.prog X.w H' h')(hg:Yi g')
  (v7:∀b∈ch,(b∈X.ex\/X.s₀.heap.objs.size<=b)/\b≠X.env.locals/\(∀x c,X.env.cells.lookup x=some c->c≠b)/\∀p∈X.pn++pins,p.1≠b) :
  Inv X pins σ H' {s with heap:=h',gens:=g',drawn:=d',toks:=t'}:=by
 obtain⟨m,⟨o,es,ep,ho,r⟩,_⟩:=id I.loc;obtain⟨sl,hL⟩:=u.any ho I.free λz=>(v7 _ z).2.1 rfl;exact I.step (ch:=ch) v7 (λb o hL hb hc e n=>u.keep b o e n (λz=>(U0.mp (I.tO b z)).elim hL hb) hc) (λb o _ _ hc e n=>u.any e n hc) (λb o hc e n=>u.free b o e n hc) (λb o hc e=>u.there b o e hc) u.oS u.mY u.oV (λm' hm=>by
  obtain⟨o',uI,ER,Dl,r'⟩:=hm;rw[ho]at Dl;cases Dl;exact⟨_,uI,ER,hL,r'⟩) bM hg
theorem Inv.turned {t':Nat}{it:Addr}(I:Inv X pins σ H s)(k:∀b o,b≠it->s.heap.get? b=some o->h'.get? b=some o)(hn:H it=none)(hL:it≠X.env.locals)
  (h1:it∈X.ex\/X.s₀.heap.objs.size<=it) (h2:∀x c,X.env.cells.lookup x=some c->c≠it) (h3:∀p∈X.pn++pins,p.1≠it):Inv X pins σ H {s with heap:=h',toks:=t'}:=by
 have Qy:∀b u,H b=some u->b≠it:=λb u e z=>by rw[z,hn]at e;cases e
 refine I.step (g':=s.gens) (d':=s.drawn) (ch:=[it]) (λb hb=>?_) (λb o _ _ hc e _=>k b o (λz=>hc (by simp[z])) e) (λb o _ _ hc e _=>⟨o.slots,k b o (λz=>hc (by simp[z])) e⟩) (λ_ _ _ _ n=>n)
  (λb o hc e=>⟨o,k b o (λz=>hc (by simp[z])) e⟩) (λ_ _ e=>e) (λ_ _ _ e=>e) (λb ps e=>⟨#[],by rw[e];simp⟩) (λm hm=>?_) (λb u e=>?_) I.bare
 ·have e:b=it:=by simpa using hb
  subst e;exact⟨h1,hL,h2,h3⟩
 ·obtain⟨o,es,ep,ho,r⟩:=hm;exact⟨o,es,ep,k _ o (Xa hL) ho,r⟩
 ·refine(I.bM b u e).qH (λc v hc q=>k c v ?_ q) (λ_ q=>q) λ_ _ q=>q;rcases hc with z|z
  ·rw[z];exact Qy b u e
  ·exact Qy c _ z
theorem Inv.tok (I:Inv X pins σ H s)(t:Nat):Inv X pins σ H {s with toks:=t}:=I.un (h':=s.heap) (t':=t) Un.refl I.bM
theorem Inv.kept {t':Nat}(I:Inv X pins σ H s)(k:∀b u,s.heap.get? b=some u->h'.get? b=some u):Inv X pins σ H {s with heap:=h',toks:=t'}:=I.un (Un.kept k) (I.bM.kept k)
theorem Inv.laid {a:Addr}{o:HO}{t':Nat}(I:Inv X pins σ H s)(k:∀b u,s.heap.get? b=some u->h'.get? b=some u)(hp:s.heap.objs.size<=a)(new:bh X.prog X.w (upd H a o) h' a o):
  Inv X pins σ (upd H a o) {s with heap:=h',toks:=t'}:=I.un (Un.laid k hp (I.bM.fresh hp)) (I.bM.laid k hp new)
theorem Inv.write {x e:Addr}{o:HO}{t':Nat}(I:Inv X pins σ H s)(mu:Mc (H x))(he:e=x\/H e=some (.own x))(k:∀b u,b≠e->s.heap.get? b=some u->h'.get? b=some u)(Iz:∃u,h'.get? e=some u)
  (new:bh X.prog X.w (upd H x o) h' x o):Inv X pins σ (upd H x o) {s with heap:=h',toks:=t'}:=I.un (Un.write mu he k Iz) (I.bM.write mu he k Iz new)
theorem Inv.vx {Eg:List (Addr×Obj)}(I:Inv X pins σ H s)(h:∀p∈Eg,s.heap.get? p.1=some p.2/\H p.1=none/\p.1≠X.env.locals/\p.1∉X.fs/\∀v,p.2.data≠.cell v):Inv X Eg σ H s :=
 ⟨I.ok,I.os,I.bare,I.base,I.loc,I.cell,I.free,I.h_,λp hp=>(Vp.mp hp).elim (λz=>I.pin p (WD _ z)) (h p),I.bM,I.len⟩
theorem rm {N:List Str}(hN:N.Nodup){i j:Nat}{x:Str}(a:N[i]?=some x)(b:N[j]?=some x):i=j:=by
 obtain⟨h1,e1⟩:=UY.mp a;obtain⟨h2,e2⟩:=UY.mp b;exact(List.getElem_inj hN).mp (e1.trans e2.symm)
theorem ni {M:Model}{A:VZ}{E:UR->UT->Prop}{i:Nat}{x:Str}{v:V}{u:UR}{Q:Unit->UT->Prop}(I:Inv X pins σ H s)(hN:X.N.Nodup)(hi:X.N[i]?=some x)(hx:Loc X.env.scope x)(r:RelV v u)
  (h:∀s',Inv X pins (σ.set i (some v)) H s'->(∃a,XQ a s.heap s'.heap/\(a=X.env.locals\/X.env.cells.lookup x=some a))->Q () s') (hf:X.fn x=true\/X.env.scope.names.lookup x=some .local:=by first|exact .inl rfl|exact .inr rfl|assumption):Vu M A (storeName X.env x u) Q E s:=by
 obtain⟨m,hn,hl⟩:=id I.loc;have Ph:(X.env.scope.kind==.class || (X.env.scope.kind==.module&&X.env.locals != X.env.globals))=false:=by rw[I.ok.kind];rfl
 have Lp:i<σ.length:=by rw[I.len];exact(UY.mp hi).1
 have HR:=I.HR;have tracked:∀{a:Addr} {h':Heap},(∃o,s.heap.get? a=some o/\H a=none)->XQ a s.heap h'->iF X.prog X.w H h':=λ{a h'} ha hs b ob e=>by
  obtain⟨_,_,EJ⟩:=ha;refine(I.bM b ob e).qH (λc w' hc q=>(hs.2 c ?_).trans q) (λ_ q=>q) λ_ _ q=>q;rintro rfl;rcases hc with rfl|hc
  ·rw[EJ]at e;cases e
  ·rw[EJ]at hc;cases hc
 rcases hx with hk|hk
 ·refine wpAny_storeName_local hk hn (λh' Hu hs=>?_) Ph;obtain⟨oL,_,_,SN,_⟩:=id hn;refine h _ ⟨I.ok,I.os,I.bare,⟨λb o e n hb hx=>?_,λb o e n hb hx=>?_,I.base.free,λb o e hx=>?_,I.base.oS,I.base.mY,I.base.oV⟩,⟨_,Hu,λj y v' e1 e2 e3=>?_⟩,λy c e=>?_,I.free,I.h_,λp hp=>?_,tracked ⟨oL,SN,I.free⟩ hs,by simpa using I.len⟩ ⟨_,hs,.inl rfl⟩
  ·exact(hs.2 b (VP (VC (Vi e) I.ok.above))).trans (I.base.keep b o e n hb hx)
  ·obtain⟨sl,e1⟩:=I.base.slot b o e n hb hx;exact⟨sl,(hs.2 b (VP (VC (Vi e) I.ok.above))).trans e1⟩
  ·obtain⟨o',e1⟩:=I.base.there b o e hx;exact⟨o',(hs.2 b (VP (VC (Vi e) I.ok.above))).trans e1⟩
  ·by_cases hj:j=i
   ·subst hj;rw[hi]at e1;cases e1;rw[List.getElem?_set_self Lp]at e2;cases e2;exact⟨u,r,.inl ⟨hk,by simp⟩⟩
   ·rw[List.getElem?_set_ne (Xa hj)]at e2;obtain⟨u',r',q⟩:=hl j y v' e1 e2 e3;refine⟨u',r',?_⟩;rcases q with⟨k,e⟩|⟨k,c,e,z⟩
    ·refine .inl ⟨k,?_⟩;have:y≠x:=λe=>hj (rm hN e1 (e▸hi));simp[this,e]
    ·exact .inr ⟨k,c,e,z.sameBut hs (HR y c e)⟩
  ·obtain⟨w',z⟩:=I.cell y c e;exact⟨w',z.sameBut hs (HR y c e)⟩
  ·obtain⟨e,n,ne,nf,d⟩:=I.pin p hp;exact⟨(hs.2 p.1 ne).trans e,n,ne,nf,d⟩
 ·have Pd:X.fn x=true:=by
   rcases hf with z|z
   ·exact z
   ·rw[z]at hk;cases hk
  obtain⟨c,hc⟩:=I.ok.has x (.inl hk);obtain⟨w',z⟩:=I.cell x c hc;refine wpAny_storeName_cell I.ok.kind hk hc z (λh' pU hs=>?_);obtain⟨oc,Dj,OE⟩:=id z;refine h {s with heap:=h'} ⟨I.ok,I.os,I.bare,⟨λb o e n hb hx=>?_,λb o e n hb hx=>?_,I.base.free,λb o e hx=>?_,I.base.oS,I.base.mY,I.base.oV⟩,⟨m,hn.sameBut hs (Xa (HR x c hc)),λj y v' e1 e2 e3=>?_⟩,λy c' e=>?_,I.free,I.h_,λp hp=>?_,tracked ⟨oc,Dj,I.h_ x c hc⟩ hs,by simpa using I.len⟩ ⟨c,hs,.inr hc⟩
  ·exact(hs.2 b (VP (VC (Vi e) (I.ok.LZ x c Pd hc)))).trans (I.base.keep b o e n hb hx)
  ·obtain⟨sl,e1⟩:=I.base.slot b o e n hb hx;exact⟨sl,(hs.2 b (VP (VC (Vi e) (I.ok.LZ x c Pd hc)))).trans e1⟩
  ·obtain⟨o',e1⟩:=I.base.there b o e hx;exact⟨o',(hs.2 b (VP (VC (Vi e) (I.ok.LZ x c Pd hc)))).trans e1⟩
  ·by_cases hj:j=i
   ·subst hj;rw[hi]at e1;cases e1;rw[List.getElem?_set_self Lp]at e2;cases e2;exact⟨u,r,.inr ⟨.inl hk,c,hc,pU⟩⟩
   ·rw[List.getElem?_set_ne (Xa hj)]at e2;obtain⟨u',r',q⟩:=hl j y v' e1 e2 e3;refine⟨u',r',?_⟩;rcases q with q|⟨k,c',e,z'⟩
    ·exact .inl q
    ·refine .inr ⟨k,c',e,z'.sameBut hs ?_⟩;rintro rfl;exact hj (rm hN e1 (I.ok.inj _ _ _ e hc▸hi))
  ·by_cases Dq:c'=c
   ·subst Dq;exact⟨_,pU⟩
   ·obtain⟨w2,z2⟩:=I.cell y c' e;exact⟨w2,z2.sameBut hs Dq⟩
  ·obtain⟨e,n,ne,nf,d⟩:=I.pin p hp;refine⟨(hs.2 p.1 ?_).trans e,n,ne,nf,d⟩;intro q;rw[q,Dj]at e;have q':oc=p.2:=VQ e;exact d w' (by rw[<- q'];exact OE)
theorem lg {M:Model}{A:VZ}{E:UR->UT->Prop}{i:Nat}{x:Str}{v:V}{u:UR}{Q:Unit->UT->Prop}(I:Inv X pins σ H s)(hN:X.N.Nodup)(hi:X.N[i]?=some x)(hx:Loc X.env.scope x)(r:RelV v u)
  (h:∀s',Inv X pins (σ.set i (some v)) H s'->Q () s') (hf:X.fn x=true\/X.env.scope.names.lookup x=some .local:=by first|exact .inl rfl|exact .inr rfl|assumption):Vu M A (storeName X.env x u) Q E s :=
 ni I hN hi hx r (λs' I' _=>h s' I') hf
theorem Inv.LY {s':UT}{ch:List Addr}(I:Inv X pins σ H s)(ho:s'.os=s.os)(u:Un (AX X.stack) ch H H' s.heap s'.heap)(bM:iF X.prog X.w H' s'.heap)(hg:Yi s'.gens)
  (v7:∀b∈ch,(b∈X.ex\/X.s₀.heap.objs.size<=b)/\b≠X.env.locals/\(∀x c,X.env.cells.lookup x=some c->c≠b)/\∀p∈X.pn++pins,p.1≠b):Inv X pins σ H' s':=by
 obtain⟨h',g',d',t',o'⟩:=s';have e:o'=s.os:=ho;subst e;exact I.call (g':=g') (t':=t') (d':=d') u bM hg v7
end
abbrev XK:=UR->Option Addr->Hp->Prop
abbrev St:=List (Option V)
abbrev VK:=V->Hp->Prop
abbrev TE:=St->Hp->VK->Prop
abbrev TT:=St->Hp->(Bool->Hp->Prop)->Prop
abbrev TA:=St->Hp->(List V->Hp->Prop)->Prop
structure Ends where
 nx:St->Hp->Prop
 rt:VK
 bk:St->Hp->Prop:=λ_ _=>False
 ct:St->Hp->Prop:=λ_ _=>False
abbrev TS:=Ends->St->Hp->Prop
def EP (X:Cx)(pins:List (Addr×Obj))(σ:St)(Q:VK)(u:UR)(s':UT):Prop:=∃v H',Inv X pins σ H' s'/\RelV v u/\Q v H'
def TP (X:Cx)(pins:List (Addr×Obj))(σ:St)(Q:Bool->Hp->Prop)(b:Bool)(s':UT):Prop:=∃H',Inv X pins σ H' s'/\Q b H'
def AP (X:Cx)(pins:List (Addr×Obj))(σ:St)(Q:List V->Hp->Prop)(us:List UR)(s':UT):Prop:=∃vs H',Inv X pins σ H' s'/\Vals vs us/\Q vs H'
def SP (X:Cx)(pins:List (Addr×Obj))(D:Ends)(f:Flow)(s':UT):Prop :=
 match f with
 |.next=>∃σ' H',Inv X pins σ' H' s'/\D.nx σ' H'
 |.brk=>∃σ' H',Inv X pins σ' H' s'/\D.bk σ' H'
 |.cont=>∃σ' H',Inv X pins σ' H' s'/\D.ct σ' H'
 |.ret u=>∃v σ' H',Inv X pins σ' H' s'/\RelV v u/\D.rt v H'
def PE (X:Cx)(e:Expr)(t:TE):Prop :=
 ∀(pins:List (Addr×Obj)) (s:UT) (σ:St) (H:Hp) (Q:VK),Inv X pins σ H s->t σ H Q->Vu (model X.prog X.w) X.A (eval e X.env) (EP X pins σ Q) X.xe s
def PT (X:Cx)(e:Expr)(t:TT):Prop :=
 ∀(pins:List (Addr×Obj)) (s:UT) (σ:St) (H:Hp) (Q:Bool->Hp->Prop),Inv X pins σ H s->t σ H Q->Vu (model X.prog X.w) X.A (YR e X.env (eval e X.env)) (TP X pins σ Q) X.xe s
def PW (X:Cx)(e:Expr)(t:TT):Prop :=
 ∀(whole:Sem UR) (pins:List (Addr×Obj)) (s:UT) (σ:St) (H:Hp) (Q:Bool->Hp->Prop),Inv X pins σ H s->t σ H Q->Vu (model X.prog X.w) X.A (YR e X.env whole) (TP X pins σ Q) X.xe s
theorem PW.pt {X:Cx}{e:Expr}{t:TT}(h:PW X e t):PT X e t:=h _
def PA (X:Cx)(es:List Expr)(t:TA):Prop :=
 ∀(pos:Pos) (pins:List (Addr×Obj)) (s:UT) (σ:St) (H:Hp) (Q:List V->Hp->Prop),Inv X pins σ H s->t σ H Q->Vu (model X.prog X.w) X.A (spliced (WG pos (U5 es X.env))) (AP X pins σ Q) X.xe s
def PS (X:Cx)(st:Stmt)(t:TS):Prop :=
 ∀(pins:List (Addr×Obj)) (s:UT) (σ:St) (H:Hp) (D:Ends),Inv X pins σ H s->t D σ H->Vu (model X.prog X.w) X.A (exec st X.env) (SP X pins D) X.xe s
def qm (X:Cx)(st:List Stmt)(t:TS):Prop :=
 ∀(pins:List (Addr×Obj)) (s:UT) (σ:St) (H:Hp) (D:Ends),Inv X pins σ H s->t D σ H->Vu (model X.prog X.w) X.A (execs st X.env) (SP X pins D) X.xe s
theorem bA {α:Type}{t:Sem α}{Q Q':α->UT->Prop}{M:Model}{A:VZ}{E:UR->UT->Prop}{s:UT}(h:Vu M A t Q E s)(hQ:∀a s,Q a s->Q' a s):Vu M A t Q' E s:=XR h hQ λ_ _ x=>x
section
variable {X:Cx}
def IS (i:Nat):TE:=λσ H Q=>∃v,σ[i]?=some (some v)/\Q v H
def tC (v:V):TE:=λ_ H Q=>Q v H
theorem cR {i:Nat} {x:Str} {pos:Pos} (hN:X.N[i]?=some x) (hv:sR X.env.scope x) (hd:(x==("__debug__" : Str))=false:=by decide) (gm:(x==("__classdict__" : Str))=false:=by decide):PE X (.Name x pos) (IS i):=by
 intro pins s σ H Q I h;obtain⟨v,e,h⟩:=h;obtain⟨m,hn,hl⟩:=I.loc;obtain⟨u,r,l⟩:=hl i x v hN e hv;have fin:EP X pins σ Q u s:=⟨v,H,I,r,h⟩;rcases l with⟨hk,hm⟩|⟨hk,c,hc,kg⟩
 ·exact wpAny_Name (wpAny_loadName_local I.ok.kind hk hn hm fin) hd
 ·rcases hk with hk|hk
  ·exact wpAny_Name (wpAny_loadName_cell I.ok.kind hk hc kg fin) hd
  ·exact wpAny_Name (wpAny_loadName_free I.ok.kind hk hc kg fin gm) hd
theorem aT {i j pos}:PE X (.Constant (.int i) j pos) (tC (.int i)):=λ_ _ _ H _ I h=>wpAny_Constant_int ⟨.int i,H,I.tok _,⟨_,rfl⟩,h⟩
theorem zN {b j pos}:PE X (.Constant (.bool b) j pos) (tC (.bl b)):=λ_ _ _ H _ I h=>Constant_bool ⟨.bl b,H,I,rfl,h⟩
theorem F4 {j pos}:PE X (.Constant .none j pos) (tC .bH):=λ_ _ _ H _ I h=>Constant_none ⟨.bH,H,I,rfl,h⟩
theorem F1 {x j pos}:PE X (.Constant (.str x) j pos) (tC (.str x)):=λ_ _ _ H _ I h=>Calls.Constant_str ⟨.str x,H,I.tok _,⟨_,rfl⟩,h⟩
def Gl (X:Cx)(x:Str):Prop:=X.env.kindOf x=some .globalImplicit
theorem C4 {E:UR->UT->Prop}{pins:List (Addr×Obj)}{s:UT}{σ:St}{H:Hp}{x:Str}{u:UR}{pos:Pos}{Q:UR->UT->Prop}(I:Inv X pins σ H s)(hg:Gl X x)(hm:X.mg x=some u)(h:Q u s)
  (hd:(x==("__debug__" : Str))=false:=by decide):Vu (model X.prog X.w) X.A (eval (.Name x pos) X.env) Q E s :=
 Zc I.ok.kind hg (Calls.loadGlobal_global (by rw[I.ok.glob];exact I.mod.glob.keeps I.bk) hm h) hd
theorem fN {E:UR->UT->Prop}{pins:List (Addr×Obj)}{s:UT}{σ:St}{H:Hp}{x:Str}{u:UR}{pos:Pos}{Q:UR->UT->Prop}(I:Inv X pins σ H s)(hg:Gl X x)(hm:X.mg x=none)(hv:VI x=some u)(h:Q u s)
  (hn:x≠"__name__" := by decide) (hd:(x==("__debug__" : Str))=false:=by decide):Vu (model X.prog X.w) X.A (eval (.Name x pos) X.env) Q E s:=by
 obtain⟨mb,h1,h2⟩:=I.mod.blt;exact Zc I.ok.kind hg (Calls.loadGlobal_builtin (by rw[I.ok.glob];exact I.mod.glob.keeps I.bk) hm (by rw[I.ok.blt];exact h1.keeps I.bk) ((h2 x hn).trans hv) h) hd
theorem pF {x:Str} {v:V} {u:UR} {pos:Pos} (hg:Gl X x) (hm:X.mg x=none) (hv:VI x=some u) (r:RelV v u) (hn:x≠"__name__" := by decide) (hd:(x==("__debug__" : Str))=false:=by decide):PE X (.Name x pos) (tC v) :=
 λ_ _ _ H _ I h=>fN I hg hm hv ⟨v,H,I,r,h⟩ hn hd
variable {a b:Expr}{ta tb:TE}{pos:Pos}
theorem rp (b:Expr){op:Xy}(h:op≠.In)(h2:op≠.NotIn):WS op b=false:=by
 have e1:(op==CmpOp.In)=false:=by cases op <;> first|rfl|exact absurd rfl h
 have e2:(op==CmpOp.NotIn)=false:=by cases op <;> first|rfl|exact absurd rfl h2
 cases b <;> simp[WS,e1,e2]
def tB (t:TE):TT:=λσ H Q=>t σ H λx H1=>∃c,x=.bl c/\Q c H1
theorem FU {e:Expr}{t:TE}(h:PE X e t)(he:∀whole,YR e X.env whole=(do let v <- whole;Yv e.pos;holding [v] (truthy v)):=by intro _;rfl):PT X e (tB t):=by
 intro pins s σ H Q I hw;refine isTrue_plain (bA (h pins s σ H _ I hw) λv s1 ⟨x,H1,I1,r1,q1⟩=>?_) (he _);obtain⟨d,rfl,q⟩:=q1;cases r1;exact Wj ⟨H1,I1,q⟩
variable {tA Mp:TT}{rest:List Expr}
def Nk (t u:TT):TT:=λσ H Q=>t σ H λc H1=>if c=true then u σ H1 Q else Q false H1
def RA (t u:TT):TT:=λσ H Q=>t σ H λc H1=>if c=true then Q true H1 else u σ H1 Q
def Nc (t:TT):TT:=λσ H Q=>t σ H λc H1=>Q (!c) H1
theorem pw_and1 (ha:PT X a tA):PW X (.BoolOp .And [a] pos) tA:=by
 intro wh pins s σ H Q I h;refine isTrue_and (bA (ha pins s σ H Q I h) λc s1 e=>?_);cases c with
 |true=>exact isTrue_and_nil e
 |false=>exact e
theorem pw_or1 (ha:PT X a tA):PW X (.BoolOp .Or [a] pos) tA:=by
 intro wh pins s σ H Q I h;refine isTrue_or (bA (ha pins s σ H Q I h) λc s1 e=>?_);cases c with
 |false=>exact isTrue_or_nil e
 |true=>exact e
theorem pw_and (ha:PT X a tA)(hb:PW X (.BoolOp .And (b::rest) pos) Mp):PW X (.BoolOp .And (a::b::rest) pos) (Nk tA Mp):=by
 intro wh pins s σ H Q I h;refine isTrue_and (bA (ha pins s σ H _ I h) λc s1 ⟨H1,I1,q1⟩=>?_);cases c with
 |true=>exact hb wh pins s1 σ H1 Q I1 q1
 |false=>exact⟨H1,I1,q1⟩
theorem pw_or (ha:PT X a tA)(hb:PW X (.BoolOp .Or (b::rest) pos) Mp):PW X (.BoolOp .Or (a::b::rest) pos) (RA tA Mp):=by
 intro wh pins s σ H Q I h;refine isTrue_or (bA (ha pins s σ H _ I h) λc s1 ⟨H1,I1,q1⟩=>?_);cases c with
 |true=>exact⟨H1,I1,q1⟩
 |false=>exact hb wh pins s1 σ H1 Q I1 q1
theorem FV (ha:PT X a tA):PT X (.UnaryOp .Not a pos) (Nc tA):=by
 intro pins s σ H Q I h;exact isTrue_not (ha pins s σ H (λc H1=>Q (!c) H1) I h)
def Jc (ta tb:TE):TE:=λσ H Q=>ta σ H λx H1=>∃c,x=.bl c/\if c=true then tb σ H1 Q else Q (.bl false) H1
def Nb (ta tb:TE):TE:=λσ H Q=>ta σ H λx H1=>∃c,x=.bl c/\if c=true then Q (.bl true) H1 else tb σ H1 Q
def IX (ta:TE):TE:=λσ H Q=>ta σ H λx H1=>∃c,x=.bl c/\Q (.bl (!c)) H1
theorem F2 {op}{t:TE}(h:PE X a t):PE X (.BoolOp op [a] pos) t:=λpins s σ H Q I hw=>BoolOp_one (h pins s σ H Q I hw)
theorem F6 (ha:PE X a ta)(hb:PE X (.BoolOp .And (b::rest) pos) tb):PE X (.BoolOp .And (a::b::rest) pos) (Jc ta tb):=by
 intro pins s σ H Q I h;refine BoolOp_and (bA (ha pins s σ H _ I h) λv s1 ⟨x,H1,I1,r1,q1⟩=>?_);obtain⟨c,rfl,q1⟩:=q1;cases r1;refine Wj ?_;cases c with
 |true=>exact hb pins s1 σ H1 Q I1 q1
 |false=>exact⟨.bl false,H1,I1,rfl,q1⟩
theorem JA (ha:PE X a ta)(hb:PE X (.BoolOp .Or (b::rest) pos) tb):PE X (.BoolOp .Or (a::b::rest) pos) (Nb ta tb):=by
 intro pins s σ H Q I h;refine BoolOp_or (bA (ha pins s σ H _ I h) λv s1 ⟨x,H1,I1,r1,q1⟩=>?_);obtain⟨c,rfl,q1⟩:=q1;cases r1;refine Wj ?_;cases c with
 |false=>exact hb pins s1 σ H1 Q I1 q1
 |true=>exact⟨.bl true,H1,I1,rfl,q1⟩
theorem F3 (ha:PE X a ta):PE X (.UnaryOp .Not a pos) (IX ta):=by
 intro pins s σ H Q I h;refine UnaryOp_ (bA (ha pins s σ H _ I h) λv s1 ⟨x,H1,I1,r1,q1⟩=>?_);obtain⟨c,rfl,q1⟩:=q1;cases r1;exact not_of (Wj ⟨.bl (!c),H1,I1,rfl,q1⟩)
end
def da (K:PySem.W.Frag)(H:Hp)(a:Addr)(xs:List V):Prop :=
 Rd H a (.lst xs) \/
  ∃(o:Obj) (its:Array UR) (n:Nat),K.lookup a=some o/\o.cls=.type "list" /\ o.dict=none/\o.data=.seq its n/\its.size<=U4/\Vals xs its.toList
def sW (K:PySem.W.Frag)(H:Hp)(a:Addr)(xs:List V):Prop :=
 Rd H a (.tup xs) \/
  ∃(o:Obj) (its:Array UR) (n:Nat),K.lookup a=some o/\o.cls=.type "tuple" /\ o.data=.seq its n/\its.size<=U4/\Vals xs its.toList
def PX:UR->Option V
 |.none=>some .bH
 |.bool b=>some (.bl b)
 |.int i _=>some (.int i)
 |.str x _=>some (.str x)
 |.bytes b _=>some (.L0 b)
 |.float b _=>some (.HH b)
 |.ref a=>some (.ref a)
 |.type n=>some (.ty n)
 |_=>none
theorem RelV.abs {x:V}{u:UR}(r:RelV x u):PX u=some x:=by
 cases x with
 |bH=>cases r;rfl
 |bl _=>cases r;rfl
 |int _=>obtain⟨t,rfl⟩:=r;rfl
 |str _=>obtain⟨t,rfl⟩:=r;rfl
 |L0 _=>obtain⟨t,rfl⟩:=r;rfl
 |HH _=>obtain⟨t,rfl⟩:=r;rfl
 |ref _=>cases r;rfl
 |ty _=>cases r;rfl
theorem RelV.inj {x y:V}{u:UR}(r:RelV x u)(q:RelV y u):x=y:=VQ (r.abs.symm.trans q.abs)
theorem Vals.inj:∀{xs ys:List V} {us:List UR},Vals xs us->Vals ys us->xs=ys
 |_,_,_,.nil,.nil=>rfl
 |_,_,_,.cons r t,.cons r' t'=>by rw[r.inj r',Vals.inj t t']
section
variable {X:Cx}{pins:List (Addr×Obj)}{σ:St}{H:Hp}{s:UT}{a:Addr}{xs ys:List V}
theorem da.of {K:PySem.W.Frag}(h:H a=some (.lst xs)):da K H a xs:=.inl (.inl h)
theorem sW.of {K:PySem.W.Frag}(h:H a=some (.tup xs)):sW K H a xs:=.inl (.inl h)
theorem Inv.list (I:Inv X pins σ H s)(h:da X.K H a xs):∃its:List UR,Vals xs its/\PlainL s.heap a its.toArray/\xs.length<=U4:=by
 rcases h with h|⟨o,its,n,hk,hc,hd,hs,hz,r⟩
 ·obtain⟨z,its,n,r,e⟩:=h.ok I.bM;exact⟨its,r,⟨_,n,e,rfl,rfl,rfl⟩,z⟩
 ·refine⟨its.toList,r,⟨o,n,I.jP a o hk,hc,hd,by simpa using hs⟩,?_⟩
  have e:=r.length;simp only[Vn]at e;lia
theorem Inv.tuple (I:Inv X pins σ H s)(h:sW X.K H a xs):∃its:List UR,Vals xs its/\YY s.heap a its.toArray/\xs.length<=U4:=by
 rcases h with h|⟨o,its,n,hk,hc,hs,hz,r⟩
 ·obtain⟨z,its,r,p⟩:=h.ok I.bM;exact⟨its,r,p,z⟩
 ·refine⟨its.toList,r,⟨o,I.jP a o hk,hc,n,by simpa using hs⟩,?_⟩
  have e:=r.length;simp only[Vn]at e;lia
theorem Inv.Ab (I:Inv X pins σ H s)(h:da X.K H a xs)(h':da X.K H a ys):xs=ys:=by
 obtain⟨its,r,⟨o,n,e,_,_,d⟩,_⟩:=I.list h;obtain⟨its',r',⟨o',n',e',_,_,d'⟩,_⟩:=I.list h';rw[e]at e';cases e';rw[d]at d';injection d' with d1 _
 have:its=its':=by simpa using congrArg Array.toList d1
 subst this;exact r.inj r'
end
abbrev Cx.mI (X:Cx)(E:UR->UT->Prop):Cx:={X with xe:=E}
abbrev Cx.En (X:Cx):Cx:=X.mI λ_ _=>False
theorem Cx.Ok.mI {X:Cx}(ok:X.Ok)(E:UR->UT->Prop):(X.mI E).Ok :=
 ⟨ok.mod,ok.kind,ok.glob,ok.blt,ok.above,ok.inj,ok.has,ok.LZ,ok.hd,ok.frames,ok.Mr,ok.MQ,ok.bs,ok.E3,ok.z9,ok.A9,ok.l4,ok.IC⟩
theorem Cx.Ok.gn {X:Cx}{E:UR->UT->Prop}(ok:(X.mI E).Ok):X.Ok :=
 ⟨ok.mod,ok.kind,ok.glob,ok.blt,ok.above,ok.inj,ok.has,ok.LZ,ok.hd,ok.frames,ok.Mr,ok.MQ,ok.bs,ok.E3,ok.z9,ok.A9,ok.l4,ok.IC⟩
section
variable {X:Cx}{pins:List (Addr×Obj)}{σ:St}{H:Hp}{s:UT}{E:UR->UT->Prop}
theorem Inv.mI (I:Inv X pins σ H s)(E:UR->UT->Prop):Inv (X.mI E) pins σ H s:=⟨I.ok.mI E,I.os,I.bare,I.base,I.loc,I.cell,I.free,I.h_,I.pin,I.bM,I.len⟩
theorem Inv.gn (I:Inv (X.mI E) pins σ H s):Inv X pins σ H s:=⟨I.ok.gn,I.os,I.bare,I.base,I.loc,I.cell,I.free,I.h_,I.pin,I.bM,I.len⟩
theorem SP.gn {D:Ends}{f:Flow}{s':UT}(h:SP (X.mI E) pins D f s'):SP X pins D f s':=by
 cases f with
 |next=>obtain⟨σ',H',I,q⟩:=h;exact⟨σ',H',I.gn,q⟩
 |brk=>obtain⟨σ',H',I,q⟩:=h;exact⟨σ',H',I.gn,q⟩
 |cont=>obtain⟨σ',H',I,q⟩:=h;exact⟨σ',H',I.gn,q⟩
 |ret u=>obtain⟨v,σ',H',I,r,q⟩:=h;exact⟨v,σ',H',I.gn,r,q⟩
theorem qm.En {st:List Stmt}{t:TS}(h:qm X.En st t):qm X st t:=λpins s σ H D I hw =>
 XR (h pins s σ H D (I.mI _) hw) (λ_ _ q=>q.gn) λ_ _ z=>W8 z
end
section
variable {X:Cx}{st:Stmt}{rest:List Stmt}{t u:TS}{e:Expr}{te:TE}{pos:Pos}
def IZ:TS:=λD σ H=>D.nx σ H
def M_ (t u:TS):TS:=λD σ H=>t {D with nx:=u D} σ H
theorem pz:qm X [] IZ:=λ_ _ σ H _ I h=>Yj ⟨σ,H,I,h⟩
theorem cg (h1:PS X st t)(h2:qm X rest u):qm X (st::rest) (M_ t u):=by
 intro pins s σ H D I h;refine wpAny_execs_cons (bA (h1 pins s σ H {D with nx:=u D} I h) λf s1 q=>?_)
 cases f with
 |next =>
  obtain⟨σ',H',I',q⟩:=q;exact h2 pins s1 σ' H' D I' q
 |ret v=>exact q
 |brk=>exact q
 |cont=>exact q
theorem fE (h1:PS X st t):qm X [st] t:=by
 intro pins s σ H D I h;refine wpAny_execs_cons (bA (h1 pins s σ H D I h) λf s1 q=>?_);cases f with
 |next=>exact Yj q
 |ret v=>exact q
 |brk=>exact q
 |cont=>exact q
theorem Inv.quiet {pins:List (Addr×Obj)}{σ:St}{H:Hp}{s:UT}(I:Inv X pins σ H s):interactive X.env=false:=by simp[interactive,I.ok.kind]
def I_ (te:TE):TS:=λD σ H=>te σ H λ_ H1=>D.nx σ H1
theorem i4 (he:PE X e te)(hs:Ww e none pos.line X.env=pure false:=by rfl):PS X (.Expr e pos) (I_ te):=by
 intro pins s σ H D I h;exact wpAny_Expr_any (bA (he pins s σ H _ I h) λv s1 AD=> by obtain⟨x,H1,I1,r1,q1⟩ := AD;exact⟨σ,H1,I1,q1⟩) I.quiet hs
def Na (te:TE):TS:=λD σ H=>te σ H D.rt
theorem gz (he:PE X e te):PS X (.Return (some e) pos) (Na te):=by
 intro pins s σ H D I h;exact wpAny_Return_some (bA (he pins s σ H _ I h) λv s1 AB=> by obtain⟨x,H1,I1,r1,q1⟩ := AB;exact⟨x,σ,H1,I1,r1,q1⟩)
def Nf (c:TT)(t u:TS):TS:=λD σ H=>c σ H λb H1=>if b=true then t D σ H1 else u D σ H1
theorem zw {c:Expr}{a b:List Stmt}{tc:TT}(hc:PT X c tc)(ha:qm X a t)(hb:qm X b u):PS X (.If c a b pos) (Nf tc t u):=by
 intro pins s σ H D I h;refine wpAny_If (bA (hc pins s σ H _ I h) λd s1 ⟨H1,I1,q1⟩=>?_);cases d with
 |true=>exact ha pins s1 σ H1 D I1 q1
 |false=>exact hb pins s1 σ H1 D I1 q1
def Fu:TS:=λ_ _ _=>False
theorem xi {RE:List Stmt}:qm X RE Fu:=λ_ _ _ _ _ _ h=>h.elim
end
abbrev TG:=V->St->Hp->(St->Hp->Prop)->Prop
abbrev E4:=List V->St->Hp->(St->Hp->Prop)->Prop
def PG (X:Cx)(target:Expr)(t:TG):Prop :=
 ∀(pins:List (Addr×Obj)) (s:UT) (σ:St) (H:Hp) (v:V) (u:UR) (Q:St->Hp->Prop),Inv X pins σ H s->RelV v u->t v σ H Q ->
  Vu (model X.prog X.w) X.A (assign target X.env u) (λ_ s'=>∃σ' H',Inv X pins σ' H' s'/\Q σ' H') X.xe s
def E8 (X:Cx)(ts:List Expr)(t:E4):Prop :=
 ∀(pins:List (Addr×Obj)) (s:UT) (σ:St) (H:Hp) (vs:List V) (us:List UR) (Q:St->Hp->Prop),Inv X pins σ H s->Vals vs us->t vs σ H Q ->
  Vu (model X.prog X.w) X.A (assignInOrder ((WN ts X.env).map (·.2)) us) (λ_ s'=>∃σ' H',Inv X pins σ' H' s'/\Q σ' H') X.xe s
abbrev H9:=V->V->V->Hp->(Hp->Prop)->Prop
def L_ (X:Cx)(t:H9):Prop :=
 ∀(pins:List (Addr×Obj)) (s:UT) (σ:St) (H:Hp) (o i v:V) (ov iv u:UR) (Q:Hp->Prop),Inv X pins σ H s->RelV o ov->RelV i iv->RelV v u->t o i v H Q ->
  Vu (model X.prog X.w) X.A (setItem ov iv u) (λ_ s'=>∃H',Inv X pins σ H' s'/\Q H') X.xe s
abbrev P0:=V->V->Hp->VK->Prop
def TY (X:Cx)(op:Y_)(t:P0):Prop :=
 ∀(pins:List (Addr×Obj)) (s:UT) (σ:St) (H:Hp) (x y:V) (v u:UR) (Q:VK),Inv X pins σ H s->RelV x v->RelV y u->t x y H Q ->
  Vu (model X.prog X.w) X.A (YS op v u) (EP X pins σ Q) X.xe s
section
variable {X:Cx}{pos:Pos}
def v9 (i:Nat):TG:=λv σ H Q=>Q (σ.set i (some v)) H
theorem vA {i:Nat}{x:Str}(hN:X.N.Nodup)(hi:X.N[i]?=some x)(hx:Loc X.env.scope x)(hf:X.fn x=true\/X.env.scope.names.lookup x=some .local:=by first|exact .inl rfl|exact .inr rfl|assumption):PG X (.Name x pos) (v9 i):=by
 intro pins s σ H v u Q I r h;exact wpAny_assign_Name (lg I hN hi hx r (λs' I'=>⟨_,H,I',h⟩) hf)
def HD:E4:=λvs σ H Q=>vs=[]/\Q σ H
def AV (t:TG)(u:E4):E4:=λvs σ H Q=>∃v r,vs=v::r/\t v σ H λσ' H'=>u r σ' H' Q
theorem Cs:E8 X [] HD:=by
 intro pins s σ H vs us Q I r h;obtain⟨e,h⟩:=h;subst e;cases r;exact assignInOrder_nil ⟨σ,H,I,h⟩
theorem zJ {e:Expr}{es:List Expr}{t:TG}{u:E4}(h1:PG X e t)(h2:E8 X es u)
  (hs:(WN (e::es) X.env).map (·.2)=assign e X.env::(WN es X.env).map (·.2):=by rfl):E8 X (e::es) (AV t u):=by
 intro pins s σ H vs us Q I r h;obtain⟨v,vr,e1,h⟩:=h;subst e1;cases r with
 |cons r rr =>
  rw[hs];refine assignInOrder_cons (bA (h1 pins s σ H _ _ _ I r h) λ_ s1 ⟨σ1,H1,I1,q1⟩=>?_);exact h2 pins s1 σ1 H1 _ _ Q I1 rr q1
def Pq (K:PySem.W.Frag)(n:Nat)(t:E4):TG:=λv σ H Q=>∃a xs,v=.ref a/\sW K H a xs/\xs.length=n/\t xs σ H Q
theorem F0 {es:List Expr}{k:Nat}{t:E4}{n:Nat}(hc:X.calm=true)(h:E8 X es t)
  (hn:(WN es X.env).length=n:=by rfl) (Ir:(WN es X.env).findIdx? (·.1)=none:=by rfl):PG X (.Tuple es k pos) (Pq X.K n t):=by
 intro pins s σ H v u Q I r hw;obtain⟨a,xs,e1,hq,hl,hw⟩:=hw;subst e1;cases r;obtain⟨its,rv,ht,hz⟩:=I.tuple hq;refine assign_Tuple_tuple (I.ok.hd hc) ht (by simp[hn,<- hl,rv.length]) Ir λh' hx=>?_
 have I1:Inv X pins σ H {s with heap:=h'}:=I.kept (t':=s.toks) λb o e=>hx b o (VP (Vi e)) e
 exact h pins _ σ H xs _ Q I1 (by simpa using rv) hw
def Pr (to ti:TE)(t:H9):TG:=λv σ H Q=>to σ H λo H1=>ti σ H1 λi H2=>t o i v H2 λH3=>Q σ H3
theorem zK {o i:Expr}{to ti:TE}{t:H9}(ho:PE X o to)(hi:PE X i ti)(hs:L_ X t)
  (ha:∀v,assign (.Subscript o i pos) X.env v=(do
   let ov <- holding [v] (eval o X.env)
   let iv <- holding [v,ov] (eval i X.env)
   Yv pos
   holding [v,ov,iv] (setItem ov iv v)
   release [v,ov,iv] []):=by intro _;rfl):PG X (.Subscript o i pos) (Pr to ti t):=by
 intro pins s σ H v u Q I r h;rw[ha];refine UW (Xf (bA (ho pins s σ H _ I h) λov s1 ⟨x,H1,I1,r1,q1⟩=>?_));refine UW (Xf (bA (hi pins s1 σ H1 _ I1 q1) λiv s2 ⟨y,H2,I2,r2,q2⟩=>?_));refine UW (Xe (UW (Xf (bA (hs pins s2 σ H2 x y v ov iv u _ I2 r1 r2 r q2) λ_ s3 ⟨H3,I3,q3⟩=>?_))));exact wpAny_release ⟨σ,H3,I3,q3⟩
def Jb (te:TE)(g:TG):TS:=λD σ H=>te σ H λx H1=>g x σ H1 D.nx
theorem t6 {tg e:Expr}{te:TE}{g:TG}(he:PE X e te)(hg:PG X tg g)(hs:swapsWithSole [tg] e pos.line X.env=pure false:=by rfl)(hw:swappedStores [tg] e X.env=pure none:=by rfl)
  (h1:(WN [tg] X.env).map (·.2)=[assign tg X.env]:=by rfl):PS X (.Assign [tg] e pos) (Jb te g):=by
 intro pins s σ H D I h;refine wpAny_Assign_stores (bA (he pins s σ H _ I h) λv s1 ⟨x,H1,I1,r1,q1⟩=>?_) hs hw;rw[h1];exact bA (hg pins s1 σ H1 x v _ I1 r1 q1) λ_ s2 q=>q
theorem jE {i:Nat}{x:Str}{e:Expr}{te:TE}{pos':Pos}(hN:X.N.Nodup)(hi:X.N[i]?=some x)(hx:Loc X.env.scope x)(he:PE X e te)(hs:Ww e (some (.Name x pos')) pos.line X.env=pure false:=by rfl)(hf:X.fn x=true\/X.env.scope.names.lookup x=some .local:=by first|exact .inl rfl|exact .inr rfl|assumption):
  PS X (.Assign [.Name x pos'] e pos) (Jb te (v9 i)):=by
 intro pins s σ H D I h;refine wpAny_Assign_Name (bA (he pins s σ H _ I h) λv s1 ⟨y,H1,I1,r1,q1⟩=>?_) hs;exact lg I1 hN hi hx r1 (λs2 I2=>⟨_,H1,I2,q1⟩) hf
def Nj (i:Nat)(te:TE)(ti:P0):TS:=λD σ H=>∃x,σ[i]?=some (some x)/\te σ H λy H1=>ti x y H1 λz H2=>D.nx (σ.set i (some z)) H2
theorem FW {i:Nat}{x:Str}{e:Expr}{te:TE}{op:Y_}{ti:P0}{pos':Pos}(hN:X.N.Nodup)(hi:X.N[i]?=some x)(hx:Loc X.env.scope x)(he:PE X e te)(ho:TY X op ti)(hf:X.fn x=true\/X.env.scope.names.lookup x=some .local:=by first|exact .inl rfl|exact .inr rfl|assumption):
  PS X (.AugAssign (.Name x pos') op e pos) (Nj i te ti):=by
 intro pins s σ H D I h;obtain⟨v,e1,h⟩:=h;obtain⟨m,hn,hl⟩:=I.loc;have Ml:sR X.env.scope x:=by rcases hx with k|k;exact .inl k;exact .inr (.inl k)
 obtain⟨u,r,l⟩:=hl i x v hi e1 Ml;refine wpAny_AugAssign_Name ?_;have go:Vu (model X.prog X.w) X.A (eval e X.env) (λw s₂=>Vu (model X.prog X.w) X.A (YS op u w) (λr s₃=>Vu (model X.prog X.w) X.A (storeName X.env x r) (λ_=>SP X pins D .next) X.xe s₃) X.xe s₂) X.xe s:=by
  refine bA (he pins s σ H _ I h) λw s1 ⟨y,H1,I1,r1,q1⟩=>?_;refine bA (ho pins s1 σ H1 v y u w _ I1 r r1 q1) λz s2 ⟨zv,H2,I2,r2,q2⟩=>?_;exact lg I2 hN hi hx r2 (λs3 I3=>⟨_,H2,I3,q2⟩) hf
 rcases l with⟨hk,hm⟩|⟨hk,c,hc,kg⟩
 ·exact wpAny_loadName_local I.ok.kind hk hn hm go
 ·rcases hk with hk|hk
  ·exact wpAny_loadName_cell I.ok.kind hk hc kg go
  ·rcases hx with k|k
   ·have:X.env.scope.names.lookup x=some .free:=hk;rw[k]at this;cases this
   ·have:X.env.scope.names.lookup x=some .free:=hk;rw[k]at this;cases this
end
section
variable {X:Cx}{pos:Pos}
def Ft (c:TT)(tb:TS):TS:=λD σ H=>∃W:Nat->St->Hp->Prop,(∃m,W m σ H)/\∀m σ H,W m σ H ->
 c σ H λb H1=>if b=true then ∃N:St->Hp->Prop,(∀σ' H',N σ' H'->∃m',m'<m/\W m' σ' H')/\tb {D with nx:=N,ct:=N,bk:=D.nx} σ H1 else D.nx σ H1
theorem zu {c:Expr}{body:List Stmt}{tc:TT}{tb:TS}(hp:PassesOwn (model X.prog X.w) X.A X.env X.xe)(hc:PT X c tc)(hb:qm X body tb):PS X (.While c body [] pos) (Ft tc tb):=by
 intro pins s σ H D I h;obtain⟨W,⟨m0,w0⟩,turn⟩:=h;refine wpAny_While (codeAny_whileLoop (λn s'=>∃σ' H',Inv X pins σ' H' s'/\W n σ' H') ?_ m0 ⟨σ,H,I,w0⟩);rintro n s1 ⟨σ1,H1,I1,w1⟩;refine WR hp (bA (hc pins s1 σ1 H1 _ I1 (turn n σ1 H1 w1)) λb s2 ⟨H2,I2,q2⟩=>?_);cases b with
 |true =>
  obtain⟨N,hN,q2⟩:=q2;rw[if_pos rfl];refine WR hp (bA (hb pins s2 σ1 H2 _ I2 q2) λf s3 q3=>?_);cases f with
  |next =>
   obtain⟨σ3,H3,I3,n3⟩:=q3;obtain⟨m',hm,w3⟩:=hN σ3 H3 n3;exact⟨m',hm,σ3,H3,I3,w3⟩
  |cont =>
   obtain⟨σ3,H3,I3,n3⟩:=q3;obtain⟨m',hm,w3⟩:=hN σ3 H3 n3;exact⟨m',hm,σ3,H3,I3,w3⟩
  |brk=>exact q3
  |ret v=>exact q3
 |false =>
  rw[if_neg VY];exact Yj ⟨σ1,H2,I2,q2⟩
end
structure It where
 go:Nat->Hp->Prop
 IJ:Nat->Hp->V->Hp->Prop
 stop:Nat->Hp->Prop
def gM (X:Cx)(pins:List (Addr×Obj))(H:Hp)(b:Addr):Prop :=
 H b=none/\b≠X.env.locals/\b∉X.fs/\(b∈X.ex\/X.s₀.heap.objs.size<=b)/\(∀x c,X.env.cells.lookup x=some c->c≠b)/\∀p∈X.pn++pins,p.1≠b
theorem Inv.AY {X:Cx}{pins:List (Addr×Obj)}{σ:St}{H H':Hp}{s:UT}{b:Addr}(I:Inv X pins σ H s)(hb:s.heap.objs.size<=b)(hn:H' b=none):gM X pins H' b:=by
 refine⟨hn,Nat.ne_of_gt (VC I.lt hb),I.NW hb,.inr (Vm I.sz hb),λx c e z=>?_,λp hp z=>?_⟩
 ·obtain⟨v,q⟩:=I.cell x c e;exact absurd (VC q.lt (by rw[z];exact hb)) (XD _)
 ·exact absurd (VC (Vi (I.pin p hp).1) (by rw[z];exact hb)) (XD _)
structure Turn (P:UX)(w:Vb)(K:PySem.W.Frag)(tg:Expr)(J:It)(fp:List Addr)(it:Addr)(tn:Nat->Heap->Prop):Prop where
 mem:it∈fp
 obj:∀i h,tn i h->∀b∈fp,∃o,h.get? b=some o/\∀v,o.data≠.cell v
 keep:∀i h h',tn i h->(∀b∈fp,∀o,h.get? b=some o->h'.get? b=some o)->tn i h'
 item:∀(X:Cx),X.prog=P->X.w=w->X.K=K->X.calm=true->∀(i:Nat) (pins:List (Addr×Obj)) (s:UT) (σ:St) (H:Hp) (E:UR->UT->Prop),Inv X pins σ H s->(∀b∈fp,gM X pins H b)->tn i s.heap->J.go i H ->
  Vu (model P w) X.A (Y5 (.ref it)) (λr s1=>∃u,r=some u /\
   Vu (model P w) X.A (Yk tg (.ref it) u) (λ_ s2=>∃x H',Inv X pins σ H' s2/\RelV x u/\J.IJ i H x H'/\tn (i+1) s2.heap/\∀b∈fp,H' b=none) E s1) E s
 done:∀(X:Cx),X.prog=P->X.w=w->X.K=K->X.calm=true->∀(i:Nat) (pins:List (Addr×Obj)) (s:UT) (σ:St) (H:Hp) (E:UR->UT->Prop),Inv X pins σ H s->(∀b∈fp,gM X pins H b)->tn i s.heap->J.stop i H ->
  Vu (model P w) X.A (Y5 (.ref it)) (λr s1=>r=none/\Inv X pins σ H s1) E s
 self:∀(A:VZ) (i:Nat) (s:UT) (Q:UR->UT->Prop) (E:UR->UT->Prop),tn i s.heap->Q (.ref it) s->Vu (model P w) A (Y6 (.ref it)) Q E s
abbrev TI:=St->Hp->(It->Hp->Prop)->Prop
def MW (X:Cx)(pins:List (Addr×Obj))(σ:St)(tg:Expr)(R:It->Hp->Prop)(ED:UR)(s2:UT):Prop :=
 ∃(it:Addr) (fp:List Addr) (tn:Nat->Heap->Prop) (J:It) (H':Hp),ED=.ref it/\Inv X pins σ H' s2/\Turn X.prog X.w X.K tg J fp it tn/\tn 0 s2.heap/\(∀b∈fp,gM X pins H' b)/\R J H'
def PI (X:Cx)(tg iter:Expr)(wi:TI):Prop :=
 ∀(pins:List (Addr×Obj)) (s:UT) (σ:St) (H:Hp) (R:It->Hp->Prop),Inv X pins σ H s->wi σ H R ->
  Vu (model X.prog X.w) X.A (eval iter X.env) (λv s1=>Vu (model X.prog X.w) X.A (Y6 v) (MW X pins σ tg R) X.xe s1) X.xe s
theorem AU {M:Model}{A:VZ}{E:UR->UT->Prop}{s:UT}{tg:Expr}{it:Addr}{u:UR}{o:Obj}{n:String}{vs:Array UR}{Q:Unit->UT->Prop}(ho:s.heap.get? it=some o)(hc:o.cls=.type n)(hd:o.data=.fields vs)
  (hn:["enumerate","zip","dict_itemiterator","dict_reverseitemiterator","odict_iterator","itertools.zip_longest","itertools.pairwise"].contains n=false) (hQ:Q () s):Vu M A (Yk tg (.ref it) u) Q E s:=by
 unfold Yk;cases tg <;> first
  |exact Vg hQ
  | (cases u <;> first
    |exact Vg hQ
    | (refine UW (wpAny_load ho ?_)
       rw[hc,hd];show Vu M A (if (["enumerate","zip","dict_itemiterator","dict_reverseitemiterator","odict_iterator","itertools.zip_longest","itertools.pairwise"].contains n&&vs[0]?==some (rawInt _))=true then _ else _) Q E s
       rw[if_neg (by intro h;rw[hn,Bool.false_and]at h;cases h)]
       exact Vg hQ))
def MZ (K:PySem.W.Frag)(a:Addr):It :=
 ⟨λi H=>∃xs x,da K H a xs/\xs[i]?=some x,λi H x H'=>H'=H/\∀xs,da K H a xs->xs[i]?=some x,λi H=>∃xs,da K H a xs/\xs.length<=i⟩
def Md (lo:Int)(n:Nat):It:=⟨λi _=>i<n,λi H x H'=>H'=H/\x=.int (lo+i),λi _=>n<=i⟩
theorem wN {P:UX}{w:Vb}{K:PySem.W.Frag}{tg:Expr}(a it:Addr):Turn P w K tg (MZ K a) [it] it (λi h=>h.IsListIter it a i) where
 mem:=by simp
 obj:=λi h st b hb=>by
  have e:b=it:=by simpa using hb
  subst e;obtain⟨o,e,c,d⟩:=st;exact⟨o,e,λv z=>by rw[d]at z;cases z⟩
 keep:=λi h h' st k=>st.at λo e=>k it (by simp) o e
 item:=by
  intro X hP hw hK hc i pins s σ H E I hf st hg;subst hP hw hK;obtain⟨xs,x,hq,hx⟩:=hg;obtain⟨its,rv,p,hz⟩:=I.list hq;obtain⟨u,hu,ru⟩:=rv.get hx;obtain⟨f0,f1,f2,f3,f4,f5⟩:=hf it (by simp)
  refine wpAny_pyNext_list_item st p.isList (x:=u) (by simpa using hu) λh' aB sb=>?_
  have I1:Inv X pins σ H {s with heap:=h'}:=I.turned (t':=s.toks) (λb o hb e=>(sb.2 b hb).trans e) f0 f1 f3 f4 f5
  obtain⟨o,e,c,d⟩:=id aB;exact⟨u,rfl,AU (s:={s with heap:=h'}) e c d (by decide) ⟨x,H,I1,ru,⟨rfl,λys hy=>by rw[I.Ab hy hq];exact hx⟩,aB,λb hb=>(hf b hb).1⟩⟩
 done:=by
  intro X hP hw hK hc i pins s σ H E I hf st hg;subst hP hw hK;obtain⟨xs,hq,hx⟩:=hg;obtain⟨its,rv,p,hz⟩:=I.list hq;obtain⟨f0,f1,f2,f3,f4,f5⟩:=hf it (by simp)
  have hl:=rv.length;exact wpAny_pyNext_list_end (I.ok.hd hc) st p.isList (by simp;lia) λh' eb=>⟨rfl,I.turned (t':=s.toks) (λb o hb e=>eb b o hb e) f0 f1 f3 f4 f5⟩
 self:=λ_ _ _ _ _ st h=>wpAny_pyIter_listiter st h
theorem tL {P:UX}{w:Vb}{K:PySem.W.Frag}{tg:Expr}(it:Addr)(lo:Int)(n:Nat):Turn P w K tg (Md lo n) [it] it (λi h=>YZ h it (lo+(i:Nat)*1) ((n:Int)-(i:Nat)) 1) where
 mem:=by simp
 obj:=λi h st b hb=>by
  have e:b=it:=by simpa using hb
  subst e;exact⟨_,st,λv z=>by
   have z':Data.fields _=Data.cell v:=z;cases z'⟩
 keep:=λi h h' st k=>k it (by simp) _ st
 item:=by
  intro X hP hw hK hc i pins s σ H E I hf st hg;subst hP hw hK;obtain⟨f0,f1,f2,f3,f4,f5⟩:=hf it (by simp)
  have W:=Walks.range (prog:=X.prog) (w:=X.w) (I.ok.hd hc) it lo 1 n;refine W.item i s _ _ hg st λv h' tk hv aB kk=>?_;obtain⟨t,rfl⟩:=hv;have I1:Inv X pins σ H {s with heap:=h',toks:=tk}:=I.turned (λb o hb e=>kk b o (by simpa using hb) e) f0 f1 f3 f4 f5
  refine⟨_,rfl,AU (s:={s with heap:=h',toks:=tk}) (n:="range_iterator") aB rfl rfl (by decide) ⟨.int (lo+i),H,I1,⟨t,?_⟩,⟨rfl,rfl⟩,aB,λb hb=>(hf b hb).1⟩⟩
  rw[Int.mul_one]
 done:=by
  intro X hP hw hK hc i pins s σ H E I hf st hg;subst hP hw hK;obtain⟨f0,f1,f2,f3,f4,f5⟩:=hf it (by simp)
  exact wpAny_pyNext_range_end (I.ok.hd hc) st (by have:n<=i:=hg;lia) λh' eb=>⟨rfl,I.turned (t':=s.toks) (λb o hb e=>eb b o hb e) f0 f1 f3 f4 f5⟩
 self:=λ_ _ _ _ _ st h=>wpAny_pyIter_rangeiter st h
section
variable {X:Cx}{tg:Expr}
def J7 (K:PySem.W.Frag)(tl:TE):TI:=λσ H R=>tl σ H λx H1=>∃a,x=.ref a/\(∃xs,da K H1 a xs)/\R (MZ K a) H1
theorem vz {l:Expr}{tl:TE}(hl:PE X l tl):PI X tg l (J7 X.K tl):=by
 intro pins s σ H R I h;refine bA (hl pins s σ H _ I h) λv s1 ⟨x,H1,I1,r1,q1⟩=>?_;obtain⟨a,e,⟨xs,hq⟩,q⟩:=q1;subst e;cases r1;obtain⟨its,rv,p,hz⟩:=I1.list hq;refine wpAny_pyIter_list p.isList ?_;refine⟨s1.heap.objs.size,[s1.heap.objs.size],_,_,H1,rfl,I1.kept (t':=s1.toks) λb o e=>Vc _ e,wN a _,⟨_,VO _ rfl,rfl,rfl⟩,λb hb=>?_,q⟩;have e:b=s1.heap.objs.size:=by simpa using hb
 subst e;exact I1.AY (UU _) (I1.bM.fresh (UU _))
theorem qV {pins:List (Addr×Obj)}{σ:St}{H:Hp}{s:UT}{R:It->Hp->Prop}{E:UR->UT->Prop}{lo hi:Int}{t u v:Tok}{tk:Nat}(I:Inv X pins σ H s)(h1:-(2 ^ 62)<=lo)(h2:lo<2 ^ 62)(h3:-(2 ^ 62)<=hi)(h4:hi<2 ^ 62)
  (q:R (Md lo (hi-lo).toNat) H):Vu (model X.prog X.w) X.A (Y6 (.ref s.heap.objs.size)) (MW X pins σ tg R) E {s with heap:=s.heap.push {cls:=.type "range",data:=.fields #[.int lo t,.int hi u,.int 1 v]},toks:=tk}:=by
 refine wpAny_pyIter_range (IsRange.new ..) (small_one h1 h2 h3 h4) ?_;have I1:Inv X pins σ H {s with heap:=s.heap.push {cls:=.type "range",data:=.fields #[.int lo t,.int hi u,.int 1 v]},toks:=tk}:=I.kept λb o e=>Vc _ e
 refine⟨(s.heap.push {cls:=.type "range",data:=.fields #[.int lo t,.int hi u,.int 1 v]}).objs.size,[(s.heap.push {cls:=.type "range",data:=.fields #[.int lo t,.int hi u,.int 1 v]}).objs.size],_,_,H,rfl,
  I1.kept (t':=tk) λb o e=>Vc _ e,tL _ lo (hi-lo).toNat,?_,λb hb=>?_,q⟩
 ·have e1:lo+((0:Nat):Int)*1=lo:=by simp
  have e2:(((hi-lo).toNat:Nat):Int)-((0:Nat):Int)=WK lo hi 1:=by rw[rangeSize_one];split <;> lia
  show YZ _ _ (lo+((0:Nat):Int)*1) ((((hi-lo).toNat:Nat):Int)-((0:Nat):Int)) 1;rw[e1,e2];exact VO _ rfl
 ·have e:b=(s.heap.push {cls:=.type "range",data:=.fields #[.int lo t,.int hi u,.int 1 v]}).objs.size:=by simpa using hb
  subst e;exact I1.AY (UU _) (I1.bM.fresh (UU _))
def J6 (ta:TA):TI:=λσ H R=>ta σ H λvs H1=>∃j:Int,vs=[.int j]/\-(2 ^ 62)<=j/\j<2 ^ 62/\R (Md 0 j.toNat) H1
def J5 (ta:TA):TI:=λσ H R=>ta σ H λvs H1=>∃i j:Int,vs=[.int i,.int j]/\(-(2 ^ 62)<=i/\i<2 ^ 62/\-(2 ^ 62)<=j/\j<2 ^ 62)/\R (Md i (j-i).toNat) H1
theorem xo {a:Expr} {ta:TA} {p pos:Pos} (hg:Gl X "range") (hm:X.mg "range" = none) (ha:PA X [a] ta) (hs:U5 [a] X.env=[(false,eval a X.env)]:=by rfl):PI X tg (.Call (.Name "range" p) [a] [] pos) (J6 ta):=by
 intro pins s σ H R I h;refine Call_ (fN I hg hm Y7 (V6 (bA (ha pos pins s σ H _ I h) λus s1 ⟨vs,H1,I1,r1,q1⟩=>?_) hs rfl));obtain⟨j,e,q1,q2,q⟩:=q1;subst e;cases r1 with
 |cons r rr =>
  cases rr;obtain⟨t,rfl⟩:=r;exact call_range_1 (qV I1 (by lia) (by lia) q1 q2 (by simpa using q))
theorem nz {a b:Expr} {ta:TA} {p pos:Pos} (hg:Gl X "range") (hm:X.mg "range" = none) (ha:PA X [a,b] ta) (hs:U5 [a,b] X.env=[(false,eval a X.env),(false,eval b X.env)]:=by rfl) (uz:U5 [b] X.env=[(false,eval b X.env)]:=by rfl) :
  PI X tg (.Call (.Name "range" p) [a,b] [] pos) (J5 ta):=by
 intro pins s σ H R I h;refine Call_ (fN I hg hm Y7 (V6 (bA (ha pos pins s σ H _ I h) λus s1 ⟨vs,H1,I1,r1,q1⟩=>?_) (by rw[hs,uz]) (by rw[uz];rfl)))
 obtain⟨i,j,e,⟨q1,q2,q3,q4⟩,q⟩:=q1;subst e;cases r1 with
 |cons r rr =>
  cases rr with
  |cons r' rr =>
   cases rr;obtain⟨t,rfl⟩:=r;obtain⟨t',rfl⟩:=r';exact call_range_2 (qV I1 q1 q2 q3 q4 q)
def Ng (wi:TI)(g:TG)(tb:TS):TS:=λD σ H=>wi σ H λJ H1=>∃W:Nat->Nat->St->Hp->Prop,(∃m,W 0 m σ H1)/\∀i m σ H,W i m σ H ->
 (J.stop i H/\D.nx σ H)\/(J.go i H/\∃N:St->Hp->Prop,(∀σ' H',N σ' H'->∃m',m'<m/\W (i+1) m' σ' H')/\∀x H',J.IJ i H x H'->g x σ H' λσ2 H2=>tb {D with nx:=N,ct:=N,bk:=D.nx} σ2 H2)
def lG (fp:List Addr)(h:Heap):List (Addr×Obj):=fp.filterMap λb=>(h.get? b).map λo=>(b,o)
theorem fK {fp:List Addr}{h:Heap}{b:Addr}{o:Obj}(hb:b∈fp)(e:h.get? b=some o):(b,o)∈lG fp h:=List.mem_filterMap.mpr ⟨b,hb,by rw[e];rfl⟩
theorem xw {fp:List Addr}{h:Heap}{p:Addr×Obj}(hp:p∈lG fp h):p.1∈fp/\h.get? p.1=some p.2:=by
 obtain⟨b,hb,e⟩:=List.mem_filterMap.mp hp;cases q:h.get? b with
 |none=>rw[q]at e;cases e
 |some o =>
  rw[q]at e;have e':(b,o)=p:=VQ e;subst e';exact⟨hb,q⟩
theorem Inv.pinned {pins:List (Addr×Obj)}{σ:St}{H:Hp}{s:UT}{fp:List Addr}(I:Inv X pins σ H s)(hf:∀b∈fp,gM X pins H b)(ho:∀b∈fp,∃o,s.heap.get? b=some o/\∀v,o.data≠.cell v):Inv X (pins++lG fp s.heap) σ H s :=
 I.vx λp hp=>(Vp.mp hp).elim (λz=>I.pin p (Vy _ z)) λz=>by
  obtain⟨hb,e⟩:=xw z;obtain⟨f0,f1,f2,_⟩:=hf p.1 hb;obtain⟨o,e',d⟩:=ho p.1 hb;rw[e]at e';cases e';exact⟨e,f0,f1,f2,d⟩
theorem Inv.iN {pins pl:List (Addr×Obj)}{σ:St}{H:Hp}{s:UT}(I:Inv X (pins++pl) σ H s):Inv X pins σ H s:=I.vx λp hp=>I.pin p (Vy _ (WD _ hp))
theorem zA {iter:Expr}{body:List Stmt}{wi:TI}{g:TG}{tb:TS}{pos:Pos}(hp:PassesOwn (model X.prog X.w) X.A X.env X.xe)(hc:X.calm=true)(hi:PI X tg iter wi)(hg:PG X tg g)(hb:qm X body tb)
  (hs:∀x,VV iter X.env x=pure x:=by intro _;rfl):PS X (.For tg iter body [] pos) (Ng wi g tb):=by
 intro pins s σ H D I h;refine wpAny_For (bA (hi pins s σ H _ I h) λv s1 h1=>bA h1 λED s2 h2=>?_) hs;obtain⟨it,fp,tn,J,H2,e,I2,T,f_,f2,W,⟨m0,w0⟩,turn⟩:=h2;subst e;have tP:∀{H':Hp},(∀b∈fp,H' b=none)->∀b∈fp,gM X pins H' b:=λhn b hb=>⟨hn b hb,(f2 b hb).2⟩;refine codeAny_forLoop_any (λn s'=>∃i σ' H',Inv X pins σ' H' s'/\tn i s'.heap/\(∀b∈fp,H' b=none)/\W i n σ' H') ?_ m0 ⟨0,σ,H2,I2,f_,λb hb=>(f2 b hb).1,w0⟩;rintro n s3 ⟨i,σ3,H3,I3,lh,LF,w3⟩;rcases turn i n σ3 H3 w3 with⟨stop,qn⟩|⟨go,N,hN,step⟩
 ·refine WR hp (bA (T.done X rfl rfl rfl hc i pins s3 σ3 H3 X.xe I3 (tP LF) lh stop) λr s4 ⟨hr,I4⟩=>?_);subst hr;exact Yj ⟨σ3,H3,I4,qn⟩
 ·refine WR hp (bA (T.item X rfl rfl rfl hc i pins s3 σ3 H3 X.xe I3 (tP LF) lh go) λr s4 ⟨u,hr,h4⟩=>?_);subst hr;refine WR hp (bA h4 λ_ s5 ⟨x,H5,I5,r5,y5,BG,Pt⟩=>?_);have P6:=I5.pinned (tP Pt) (T.obj _ _ BG);refine WR hp (bA (hg _ s5 σ3 H5 x u _ P6 r5 (step x H5 y5)) λ_ s6 ⟨σ6,H6,I6,q6⟩=>?_);refine WR hp (bA (hb _ s6 σ6 H6 _ I6 q6) λf s7 q7=>?_);have again:∀{σ7:St} {H7:Hp},Inv X (pins++lG fp s5.heap) σ7 H7 s7->N σ7 H7->∃m,m<n/\∃i σ' H',Inv X pins σ' H' s7/\tn i s7.heap/\(∀b∈fp,H' b=none)/\W i m σ' H':=λ{σ7 H7} I7 n7=>by
   obtain⟨m',hm,w7⟩:=hN σ7 H7 n7;refine⟨m',hm,i+1,σ7,H7,I7.iN,T.keep _ _ _ BG λb hb o e=>(I7.pin (b,o) (Vy _ (Vy _ (fK hb e)))).1,λb hb=>?_,w7⟩;obtain⟨o,e,d⟩:=T.obj _ _ BG b hb;exact(I7.pin (b,o) (Vy _ (Vy _ (fK hb e)))).2.1
  cases f with
  |next=>obtain⟨σ7,H7,I7,n7⟩:=q7;exact again I7 n7
  |cont=>obtain⟨σ7,H7,I7,n7⟩:=q7;exact again I7 n7
  |brk=>obtain⟨σ7,H7,I7,q7⟩:=q7;exact⟨σ7,H7,I7.iN,q7⟩
  |ret v=>obtain⟨x7,σ7,H7,I7,r7,q7⟩:=q7;exact⟨x7,σ7,H7,I7.iN,r7,q7⟩
end
abbrev R2:=V->V->Hp->VK->Prop
def hX (X:Cx)(f:UR->UR->Sem UR)(r:R2):Prop :=
 ∀(pins:List (Addr×Obj)) (s:UT) (σ:St) (H:Hp) (x y:V) (v u:UR) (Q:VK),Inv X pins σ H s->RelV x v->RelV y u->r x y H Q ->
  Vu (model X.prog X.w) X.A (f v u) (EP X pins σ Q) X.xe s
def L5 (X:Cx)(f:UR->Sem UR)(r:V->Hp->VK->Prop):Prop :=
 ∀(pins:List (Addr×Obj)) (s:UT) (σ:St) (H:Hp) (x:V) (v:UR) (Q:VK),Inv X pins σ H s->RelV x v->r x H Q ->
  Vu (model X.prog X.w) X.A (f v) (EP X pins σ Q) X.xe s
def gg (X:Cx)(f:UR)(r:List V->Hp->VK->Prop):Prop :=
 ∀(pins:List (Addr×Obj)) (s:UT) (σ:St) (H:Hp) (xs:List V) (us:List UR) (Q:VK),Inv X pins σ H s->Vals xs us->r xs H Q ->
  Vu (model X.prog X.w) X.A (call f us) (EP X pins σ Q) X.xe s
def PY (X:Cx)(r:V->Hp->(Bool->Hp->Prop)->Prop):Prop :=
 ∀(pins:List (Addr×Obj)) (s:UT) (σ:St) (H:Hp) (x:V) (v:UR) (Q:Bool->Hp->Prop),Inv X pins σ H s->RelV x v->r x H Q ->
  Vu (model X.prog X.w) X.A (truthy v) (TP X pins σ Q) X.xe s
def IW (r:R2)(ta tb:TE):TE:=λσ H Q=>ta σ H λx H1=>tb σ H1 λy H2=>r x y H2 Q
def Ry (r:V->Hp->VK->Prop)(ta:TE):TE:=λσ H Q=>ta σ H λx H1=>r x H1 Q
def rI (C:Int->Int->Prop)(g:Int->Int->V):R2:=λx y H Q=>∃i j,x=.int i/\y=.int j/\C i j/\Q (g i j) H
def xf (g:Int->Int->V):R2:=λx y H Q=>∃i j,x=.int i/\y=.int j/\Q (g i j) H
def rU (g:Int->V):V->Hp->VK->Prop:=λx H Q=>∃i,x=.int i/\Q (g i) H
section
variable {X:Cx}{a b:Expr}{ta tb:TE}{pos:Pos}
theorem HW (ha:PE X a ta)(hb:PE X b tb){pins:List (Addr×Obj)}{s:UT}{σ:St}{H:Hp}{R:V->V->Hp->Prop}(I:Inv X pins σ H s)
  (h:ta σ H λx H1=>tb σ H1 λy H2=>R x y H2) {Q:UR->UT->Prop} {f:UR->UR->Sem UR}
  (hf:∀v u s2 x y H2,Inv X pins σ H2 s2->RelV x v->RelV y u->R x y H2->Vu (model X.prog X.w) X.A (f v u) Q X.xe s2) :
  Vu (model X.prog X.w) X.A (eval a X.env) (λv s₁=>Vu (model X.prog X.w) X.A (eval b X.env) (λu s₂=>Vu (model X.prog X.w) X.A (f v u) Q X.xe s₂) X.xe s₁) X.xe s:=by
 refine bA (ha pins s σ H _ I h) λv s1 ⟨x,H1,I1,r1,q1⟩=>?_;refine bA (hb pins s1 σ H1 _ I1 q1) λu s2 ⟨y,H2,I2,r2,q2⟩=>?_;exact hf v u s2 x y H2 I2 r1 r2 q2
theorem cj {op:Y_}{r:R2}(ho:hX X (WI op) r)(ha:PE X a ta)(hb:PE X b tb):PE X (.BinOp a op b pos) (IW r ta tb):=by
 intro pins s σ H Q I h;exact wpAny_BinOp (HW ha hb I h λv u s2 x y H2 I2 rx ry q=>ho pins s2 σ H2 x y v u Q I2 rx ry q)
theorem Eh {op:UnaryOp}{r:V->Hp->VK->Prop}(ho:L5 X (unaryOp op) r)(ha:PE X a ta):PE X (.UnaryOp op a pos) (Ry r ta):=by
 intro pins s σ H Q I h;exact UnaryOp_ (bA (ha pins s σ H _ I h) λv s1 AF=> by obtain⟨x,H1,I1,r1,q1⟩ := AF;exact ho pins s1 σ H1 x v Q I1 r1 q1)
theorem Mw {f:UR->UR->Sem UR}{C:Int->Int->Prop}{g:Int->Int->Int}
  (rule:∀(i j:Int) (t u:Tok) (s:UT) (Q:UR->UT->Prop) (E:UR->UT->Prop),C i j->Q (.int (g i j) s.toks) {s with toks:=s.toks+1}->Vu (model X.prog X.w) X.A (f (.int i t) (.int j u)) Q E s) :
  hX X f (rI C λi j=>.int (g i j)):=by
 intro pins s σ H x y v u Q I rx ry h;obtain⟨i,j,rfl,rfl,hc,q⟩:=h;obtain⟨t,rfl⟩:=rx;obtain⟨t',rfl⟩:=ry;exact rule i j t t' s _ _ hc ⟨.int (g i j),H,I.tok _,⟨_,rfl⟩,q⟩
theorem CI {f:UR->UR->Sem UR}{g:Int->Int->Int}
  (rule:∀(i j:Int) (t u:Tok) (s:UT) (Q:UR->UT->Prop) (E:UR->UT->Prop),Q (.int (g i j) s.toks) {s with toks:=s.toks+1}->Vu (model X.prog X.w) X.A (f (.int i t) (.int j u)) Q E s) :
  hX X f (xf λi j=>.int (g i j)):=by
 intro pins s σ H x y v u Q I rx ry h;obtain⟨i,j,rfl,rfl,q⟩:=h;obtain⟨t,rfl⟩:=rx;obtain⟨t',rfl⟩:=ry;exact rule i j t t' s _ _ ⟨.int (g i j),H,I.tok _,⟨_,rfl⟩,q⟩
theorem Gg {f:UR->UR->Sem UR}{g:Int->Int->Bool}
  (rule:∀(i j:Int) (t u:Tok) (s:UT) (Q:UR->UT->Prop) (E:UR->UT->Prop),Q (.bool (g i j)) s->Vu (model X.prog X.w) X.A (f (.int i t) (.int j u)) Q E s) :
  hX X f (xf λi j=>.bl (g i j)):=by
 intro pins s σ H x y v u Q I rx ry h;obtain⟨i,j,rfl,rfl,q⟩:=h;obtain⟨t,rfl⟩:=rx;obtain⟨t',rfl⟩:=ry;exact rule i j t t' s _ _ ⟨.bl (g i j),H,I,rfl,q⟩
def D_ (i j:Int):Prop:=0<=j/\j<=1000000/\i.natAbs<2 ^ 64
def mz (i j:Int):Prop:=(-(2 ^ 64)<i/\i<2 ^ 64)\/(-(2 ^ 64)<j/\j<2 ^ 64)
theorem mz.ok {i j:Int}(h:mz i j):IntMulOk i j:=by
 rcases h with⟨h1,h2⟩|⟨h1,h2⟩
 ·exact .of_left (intBits_le_64 h1 h2)
 ·exact .of_right (intBits_le_64 h1 h2)
theorem pM:hX X (WI .Add) (xf λi j=>.int (i+j)):=CI λ_ _ _ _ _ _ _ q=>add_int q
theorem zR:hX X (WI .Sub) (xf λi j=>.int (i-j)):=CI λ_ _ _ _ _ _ _ q=>sub_int q
theorem jJ:hX X (WI .Mult) (rI mz λi j=>.int (i*j)):=Mw λ_ _ _ _ _ _ _ hc q=>mul_int q hc.ok
theorem gC:hX X (WI .Mod) (rI (λ_ j=>0<j) λi j=>.int (i % j)):=Mw λi j _ _ _ _ _ hc q=>by
 have h1:(0:Int)<j:=hc;exact mod_int' (by lia) (by rw[Int.fmod_eq_emod_of_nonneg i (by lia)];exact q)
theorem Ge:hX X (WI .Pow) (rI D_ λi j=>.int (i ^ j.toNat)):=Mw λ_ _ _ _ _ _ _ hc q=>pow_int_small hc.1 hc.2.1 hc.2.2 q
theorem C9:hX X (YS .Add) (xf λi j=>.int (i+j)):=CI λ_ _ _ _ _ _ _ q=>iadd_int q
theorem vW:hX X (YS .Sub) (xf λi j=>.int (i-j)):=CI λ_ _ _ _ _ _ _ q=>isub_int q
theorem Rw {f:UR->Sem UR}{g:Int->Int}
  (rule:∀(i:Int) (t:Tok) (s:UT) (Q:UR->UT->Prop) (E:UR->UT->Prop),Q (.int (g i) s.toks) {s with toks:=s.toks+1}->Vu (model X.prog X.w) X.A (f (.int i t)) Q E s) :
  L5 X f (rU λi=>.int (g i)):=by
 intro pins s σ H x v Q I rx h;obtain⟨i,rfl,q⟩:=h;obtain⟨t,rfl⟩:=rx;exact rule i t s _ _ ⟨.int (g i),H,I.tok _,⟨_,rfl⟩,q⟩
theorem yN:L5 X (unaryOp .USub) (rU λi=>.int (-i)):=Rw λ_ _ _ _ _ q=>neg_int q
end
section
variable {X:Cx}{a b c:Expr}{ta tb:TE}{pos:Pos}
theorem A5 {pins:List (Addr×Obj)}{σ:St}{H:Hp}{s:UT}{Q:VK}{k k':Bool}(I:Inv X pins σ H s)(q:Q (.bl k) H)(e:k=k'):EP X pins σ Q (.bool k') s:=by
 subst e;exact⟨.bl k,H,I,rfl,q⟩
theorem zS:hX X (VD .Lt) (xf λi j=>.bl (decide (i<j))):=Gg λ_ _ _ _ _ _ _ q=>lt_int q
theorem Ej:hX X (VD .LtE) (xf λi j=>.bl (decide (i<=j))):=Gg λ_ _ _ _ _ _ _ q=>le_int q
theorem zT:hX X (VD .Gt) (xf λi j=>.bl (decide (j<i))):=Gg λ_ _ _ _ _ _ _ q=>gt_int q
theorem Gf:hX X (VD .Is) (λx y H Q=>y=.bH/\Q (.bl (decide (x=.bH))) H):=by
 intro pins s σ H x y v u Q I rx ry h;obtain⟨rfl,q⟩:=h;cases ry;refine is_none_gen (A5 I q ?_);cases x <;> first
  | (cases rx;rfl)
  | (obtain⟨t,rfl⟩:=rx;rfl)
theorem CD:hX X (VD .IsNot) (λx y H Q=>y=.bH/\Q (.bl (!decide (x=.bH))) H):=by
 intro pins s σ H x y v u Q I rx ry h;obtain⟨rfl,q⟩:=h;cases ry;refine isnot_none_gen (A5 I q ?_);cases x <;> first
  | (cases rx;rfl)
  | (obtain⟨t,rfl⟩:=rx;rfl)
theorem z8 (b:Expr){op:Xy}(h:op≠.In:=by decide)(h2:op≠.NotIn:=by decide):WS op b=false:=by
 have e1:(op==CmpOp.In)=false:=by cases op <;> first|rfl|exact absurd rfl h
 have e2:(op==CmpOp.NotIn)=false:=by cases op <;> first|rfl|exact absurd rfl h2
 cases b <;> simp[WS,e1,e2]
theorem Cu {op:Xy}{r:R2}(ho:hX X (VD op) r)(ha:PE X a ta)(hb:PE X b tb)(hm:WS op b=false):PE X (.Compare a [op] [b] pos) (IW r ta tb):=by
 intro pins s σ H Q I h;exact wpAny_Compare1 (HW ha hb I h λv u s2 x y H2 I2 rx ry q=>ho pins s2 σ H2 x y v u Q I2 rx ry q) hm
def IU (t:TE):TT:=λσ H Q=>t σ H λx H'=>∃k,x=.bl k/\Q k H'
theorem pq {op:Xy}{r:R2}(ho:hX X (VD op) r)(ha:PE X a ta)(hb:PE X b tb)(hm:WS op b=false):PT X (.Compare a [op] [b] pos) (IU (IW r ta tb)):=by
 intro pins s σ H Q I h;refine wpAny_isTrue_Compare1 (bA (ha pins s σ H _ I h) λv s1 ⟨x,H1,I1,r1,q1⟩=>bA (hb pins s1 σ H1 _ I1 q1) λu s2 ⟨y,H2,I2,r2,q2⟩ =>
  bA (ho pins s2 σ H2 x y v u _ I2 r1 r2 q2) λc s3 ⟨z,H3,I3,r3,k,e,q3⟩=>?_) hm
 subst e;cases r3;exact Wj ⟨H3,I3,q3⟩
def L6 (K:PySem.W.Frag)(x:V)(H:Hp)(k:Bool):Prop :=
 match x with
 |.bH=>k=false
 |.bl b=>k=b
 |.int i=>k=(i != 0)
 |.str y=>y.length<=U4/\k=((y.length:Int) != 0)
 |.L0 y=>y.size<=U4/\k=((y.size:Int) != 0)
 |.ref p=>(∃xs,da K H p xs/\k=!xs.isEmpty)\/(∃xs,sW K H p xs/\k=!xs.isEmpty)\/∃a7,H p=some (.dK a7)/\k=!a7.isEmpty
 |_=>False
theorem uv {κ:Type}{a7:List (κ×V)}{vs:List (κ×UR)}(r:KV a7 vs):(!vs.isEmpty)=!a7.isEmpty:=by
 cases r <;> rfl
theorem lW {xs:List V}{its:List UR}(r:Vals xs its):(!its.toArray.isEmpty)=!xs.isEmpty:=by
 cases r <;> simp
theorem lP:(U4:Nat)<2 ^ 63:=by rw[Wf];decide
theorem Fp:PY X (λx H Q=>∃k,L6 X.K x H k/\Q k H):=by
 intro pins s σ H x v Q I rx h;obtain⟨k,e,q⟩:=h;have hl:=lP;have hs:U4=16777216:=Wf;cases x with
 |bH =>
  cases rx;have e':k=false:=e;subst e';exact truthy_none ⟨H,I,q⟩
 |bl b =>
  cases rx;have e':k=b:=e;subst e';exact Wj ⟨H,I,q⟩
 |int i =>
  obtain⟨t,rfl⟩:=rx;have e':k=(i != 0):=e;subst e';exact PySem.P.truthy_int ⟨H,I,q⟩
 |str y =>
  obtain⟨t,rfl⟩:=rx;obtain⟨hy,e'⟩:y.length<=U4/\k=((y.length:Int) != 0):=e;subst e';exact PySem.P.truthy_str (by lia) ⟨H,I.tok _,q⟩
 |L0 y =>
  obtain⟨t,rfl⟩:=rx;obtain⟨hy,e'⟩:y.size<=U4/\k=((y.size:Int) != 0):=e;subst e';exact PySem.W.truthy_bytes (by lia) ⟨H,I.tok _,q⟩
 |ref p =>
  cases rx;have e':(∃xs,da X.K H p xs/\k=!xs.isEmpty)\/(∃xs,sW X.K H p xs/\k=!xs.isEmpty)\/∃a7,H p=some (.dK a7)/\k=!a7.isEmpty:=e;rcases e' with⟨xs,hx,e'⟩|⟨xs,hx,e'⟩|⟨a7,hx,e'⟩
  ·subst e';obtain⟨its,r,pl,hz⟩:=I.list hx;have hlen:=r.length;exact wpAny_truthy_list pl.isList (by simp only[Vf];lia) ⟨H,I.tok _,by rw[lW r];exact q⟩
  ·subst e';obtain⟨its,r,pl,hz⟩:=I.tuple hx;have hlen:=r.length;exact truthy_tuple pl (by simp only[Vf];lia) ⟨H,I.tok _,by rw[lW r];exact q⟩
  ·subst e';obtain⟨hz,hS,vs,r,m⟩:a7.length<=U4/\(p==Wz)=false/\∃vs,KV a7 vs/\s.heap.DictOf (bU X.prog X.w) p vs:=I.bM p _ hx;have hlen:a7.length=vs.length:=Paired.length r;exact wpAny_truthy_dict hS m (by lia) ⟨H,I.tok _,by rw[uv r];exact q⟩
 |_=>exact(show False from e).elim
theorem zt (ha:PE X a ta)(he:∀whole,YR a X.env whole=(do let v <- whole;Yv a.pos;holding [v] (truthy v))):
  PT X a (λσ H Q=>ta σ H λx H'=>∃k,L6 X.K x H' k/\Q k H'):=by
 intro pins s σ H Q I h;exact isTrue_plain (bA (ha pins s σ H _ I h) λv s1 AE=> by obtain⟨x,H1,I1,r1,q1⟩ := AE;exact Fp pins s1 σ H1 x v Q I1 r1 q1) (he _)
theorem vals1 {x:V}{us:List UR}(r:Vals [x] us):∃u,us=[u]/\RelV x u:=by
 cases r with
 |cons r1 r2=>cases r2;exact⟨_,rfl,r1⟩
theorem vals2 {x y:V}{us:List UR}(r:Vals [x,y] us):∃u w',us=[u,w']/\RelV x u/\RelV y w':=by
 cases r with
 |cons r1 r2 =>
  cases r2 with
  |cons r3 r4=>cases r4;exact⟨_,_,rfl,r1,r3⟩
theorem oA (hc:X.calm=true):gg X (.builtin "max") (λxs H Q=>∃i j,xs=[.int i,.int j]/\Q (.int (if j>i then j else i)) H):=by
 intro pins s σ H xs us Q I r h;obtain⟨i,j,rfl,q⟩:=h;obtain⟨u,w',rfl,⟨t,rfl⟩,⟨t',rfl⟩⟩:=vals2 r;refine max_two_ints (I.ok.hd hc) λh' tk k=>⟨_,H,I.kept k,?_,q⟩
 by_cases hj:j>i
 ·rw[if_pos hj,if_pos hj];exact⟨_,rfl⟩
 ·rw[if_neg hj,if_neg hj];exact⟨_,rfl⟩
theorem ym (hc:X.calm=true):gg X (.builtin "min") (λxs H Q=>∃i j,xs=[.int i,.int j]/\Q (.int (if j<i then j else i)) H):=by
 intro pins s σ H xs us Q I r h;obtain⟨i,j,rfl,q⟩:=h;obtain⟨u,w',rfl,⟨t,rfl⟩,⟨t',rfl⟩⟩:=vals2 r;refine min_two_ints (I.ok.hd hc) λh' tk k=>⟨_,H,I.kept k,?_,q⟩
 by_cases hj:j<i
 ·rw[if_pos hj,if_pos hj];exact⟨_,rfl⟩
 ·rw[if_neg hj,if_neg hj];exact⟨_,rfl⟩
theorem oB:gg X (.type "int") (λxs H Q=>(∃i,xs=[.int i]/\Q (.int i) H)\/∃k,xs=[.bl k]/\Q (.int (if k then 1 else 0)) H):=by
 intro pins s σ H xs us Q I r h;rcases h with⟨i,rfl,q⟩|⟨k,rfl,q⟩
 ·obtain⟨u,rfl,t,rfl⟩:=vals1 r;exact call_int_int ⟨.int i,H,I,⟨_,rfl⟩,q⟩
 ·obtain⟨u,rfl,r1⟩:=vals1 r;cases r1;exact call_int_bool ⟨.int (if k then 1 else 0),H,I.tok _,⟨_,rfl⟩,q⟩
end
structure Ic (h:Heap)(x dx C:Addr)(mA:Str->Option UR):Prop where
 obj:h.get? x=some (PySem.W.instObj C dx)
 ns:h.Ns1 dx mA
 ne:dx≠x
theorem xD {h:Heap}{dx:Addr}{mA:Str->Option UR}(n:h.Ns1 dx mA):∃od,h.get? dx=some od/\∀name,PySem.W.lookIn name od=some (mA name):=by
 obtain⟨o,es,ep,ho,hd,hk,_,hm⟩:=n;refine⟨o,ho,λname=>?_⟩;have e:=hm name;unfold nsFind findBy at e;rw[<- Array.find?_toList]at e;unfold PySem.W.lookIn;rw[hd];dsimp only
 split
 ·rename_i y q
  rw[q]at e;exact congrArg some e
 ·rename_i q
  rw[q]at e;have a:es.toList.any (·.refKey)=false:=by
   rw[List.any_eq_false];intro y hy;obtain⟨z,t,O1⟩:=hk y (Array.mem_toList_iff.mp hy);simp[DictEntry.refKey,O1]
  have a':¬ es.toList.any (·.refKey)=true:=by rw[a];exact VY
  rw[if_neg a'];exact congrArg some e
theorem Ic.look {h:Heap}{x dx C:Addr}{mA:Str->Option UR}(I:Ic h x dx C mA):∃od,PySem.W.InstAt h x (PySem.W.instObj C dx) C (some od)/\∀name,PySem.W.lookIn name od=some (mA name) :=
 let ⟨od,ho,hl⟩:=xD I.ns
 ⟨od,⟨I.obj,rfl,rfl,ho⟩,hl⟩
section
end
section
variable {P:UX}{w:Vb}{H:Hp}{h:Heap}{a C dx:Addr}{fs:List (Str×V)}
theorem C_ (bM:iF P w H h)(e:H a=some (.ins C dx fs)):∃mA,Ic h a dx C mA/\(∀f,yu (fs.lookup f) (mA f))/\PySem.Within mA (fs.map (·.1))/\fs.length<=1000/\H dx=some (.own a):=by
 obtain⟨d,z,ne,ob,mA,n,r,q⟩:=(show bh P w H h a (.ins C dx fs) from bM a _ e)
 exact⟨mA,⟨ob,n,ne⟩,r,q,z,d⟩
end
structure Qe (K:PySem.W.Frag)(C:Addr):Prop where
 pg:PySem.W.plainGet K C Str.empty=true
 hd:PySem.W.hasDictIn K C=true
 po:PySem.W.plainOver K C=true
 sa:PySem.W.findIn K (.ref C) "__setattr__" = some (some (.builtin "object.__setattr__"))
theorem Qe.get {K:PySem.W.Frag}{C:Addr}(c:Qe K C)(f:Str):PySem.W.plainGet K C f=true:=c.pg
section
end
section
end
section
variable {X:Cx}{pins:List (Addr×Obj)}{σ:St}{H:Hp}{s:UT}{A:VZ}{E:UR->UT->Prop}{Q:UR->UT->Prop}{c:UR}{b:Bool}
inductive iE (K:PySem.W.Frag) (H:Hp):V->UR->Prop where
 |bH:iE K H .bH (.type "NoneType")
 |bl (x:Bool):iE K H (.bl x) (.type "bool")
 |int (i:Int):iE K H (.int i) (.type "int")
 |str (x:Str):iE K H (.str x) (.type "str")
 |HH (x:UInt64):iE K H (.HH x) (.type "float")
 |lst {a:Addr} {xs:List V} (e:H a=some (.lst xs)):iE K H (.ref a) (.type "list")
 |tu {a:Addr} {o:Obj} {xs:List V} (e:H a=some (.tu o (.lst xs))):iE K H (.ref a) (.type "list")
 |tup {a:Addr} {xs:List V} (e:H a=some (.tup xs)):iE K H (.ref a) (.type "tuple")
 |dK {a:Addr} {a7:List (Key×V)} (e:H a=some (.dK a7)):iE K H (.ref a) (.type "dict")
 |dT {a:Addr} {a7:List (List Key×V)} (e:H a=some (.dT a7)):iE K H (.ref a) (.type "dict")
 |ins {a C dx:Addr} {fs:List (Str×V)} (e:H a=some (.ins C dx fs)) (cl:Qe K C) (ha:PySem.W.findIn K (.ref C) "__class__" = some (some (.builtin "object.__class__")))
   (hn:PySem.W.specialIn K (.builtin "object.__class__") "__get__" = some (some (.builtin "getset_descriptor.__get__"))) (QL:PySem.W.takesIn K (.builtin "object.__class__")=some true)
   (hm:PySem.W.mroIn K C (.type "object")=some true):iE K H (.ref a) (.ref C)
theorem xN {x:V}{u t:UR}(I:Inv X pins σ H s)(rx:RelV x u)(ty:iE X.K H x t)(e:PySem.W.kitOne X.K t c=some b)(h:∀tk,Q (.bool b) {s with toks:=tk}):
  Vu (model X.prog X.w) A (call (.builtin "isinstance") [u,c]) Q E s:=by
 cases ty with
 |bH=>cases (show u=Value.none from rx);exact PySem.W.kia_one PySem.W.kitx_none I.jP WA e (λz=>nomatch z) h
 |bl y=>cases (show u=Value.bool y from rx);exact PySem.W.kia_one PySem.W.kitx_bool I.jP WA e (λz=>nomatch z) h
 |int i=>obtain⟨t,q⟩:=(show ∃t,u=Value.int i t from rx);cases q;exact PySem.W.kia_one PySem.W.kitx_int I.jP WA e (λz=>nomatch z) h
 |str y=>obtain⟨t,q⟩:=(show ∃t,u=Value.str y t from rx);cases q;exact PySem.W.kia_one PySem.W.kitx_str I.jP WA e (λz=>nomatch z) h
 |HH y=>obtain⟨t,q⟩:=(show ∃t,u=Value.float y t from rx);cases q;exact PySem.W.kia_one PySem.W.kitx_float I.jP WA e (λz=>nomatch z) h
 | @lst a xs ea =>
  cases (show u=Value.ref a from rx)
  obtain⟨_,_,n,_,h1⟩:=(show bh X.prog X.w H s.heap a (.lst xs) from I.bM a _ ea)
  exact PySem.W.kia_one PySem.W.kitx_list I.jP ⟨_,h1,rfl⟩ e (λz=>nomatch z) h
 | @tu a ob xs ea =>
  cases (show u=Value.ref a from rx)
  obtain⟨_,_,_,n,_,h1⟩:=(show bh X.prog X.w H s.heap a (.tu ob (.lst xs)) from I.bM a _ ea)
  exact PySem.W.kia_one PySem.W.kitx_list I.jP ⟨_,h1,rfl⟩ e (λz=>nomatch z) h
 | @tup a xs ea =>
  cases (show u=Value.ref a from rx)
  obtain⟨_,_,_,p⟩:=(show bh X.prog X.w H s.heap a (.tup xs) from I.bM a _ ea)
  obtain⟨o,h1,h2,_⟩:=p;exact PySem.W.kia_one PySem.W.kitx_tuple I.jP ⟨o,h1,h2⟩ e (λz=>nomatch z) h
 | @dK a a7 ea =>
  cases (show u=Value.ref a from rx)
  obtain⟨_,_,vs,_,p⟩:=(show bh X.prog X.w H s.heap a (.dK a7) from I.bM a _ ea)
  obtain⟨o,es,ep,h1,h2,_⟩:=p;exact PySem.W.kia_one PySem.W.kitx_dict I.jP ⟨o,h1,h2.1⟩ e (λz=>nomatch z) h
 | @dT a a7 ea =>
  cases (show u=Value.ref a from rx)
  obtain⟨_,_,xs,_,o,es,ep,h1,h2,_⟩:=(show bh X.prog X.w H s.heap a (.dT a7) from I.bM a _ ea)
  exact PySem.W.kia_one PySem.W.kitx_dict I.jP ⟨o,h1,h2.1⟩ e (λz=>nomatch z) h
 | @ins a C dx fs ea cl ha hn QL hm =>
  cases (show u=Value.ref a from rx)
  obtain⟨mA,O,_⟩:=C_ I.bM ea;obtain⟨od,J,_⟩:=O.look;exact PySem.W.kia_one (PySem.W.kitx_own (cl.get _) cl.hd ha hn QL hm) I.jP J e (λz=>nomatch z) h
end
structure cT (k:Nat)(A:VZ):Prop where
 hd:A.handled=none
 dp:A.depth+3*k+5<recursionLimit
 un:A.units+16*k+200<XJ
theorem cT.mono {j k:Nat}{A:VZ}(r:cT k A)(h:j<=k):cT j A:=⟨r.hd,by have:=r.dp;lia,by have:=r.un;lia⟩
theorem cT.deeper {k:Nat}{A:VZ}(r:cT (k+1) A)(env:Env):cT k (A.deeper env) :=
 ⟨r.hd,by have:=r.dp;show A.depth+1+3*k+5<_;lia,by have:=r.un;show A.units+3+16*k+200<_;lia⟩
theorem cT.depth {k:Nat}{A:VZ}(r:cT k A):A.depth<recursionLimit:=by have:=r.dp;lia
theorem cT.units {k:Nat}{A:VZ}(r:cT k A):A.units+64<XJ:=by have:=r.un;lia
theorem cT.oQ {k:Nat}{A:VZ}(r:cT k A):A.units<XJ:=by have:=r.un;lia
def IY:TA:=λ_ H Q=>Q [] H
def Ee (ta:TE)(tr:TA):TA:=λσ H Q=>ta σ H λx H1=>tr σ H1 λxs H2=>Q (x::xs) H2
section
variable {X:Cx}{e:Expr}{es:List Expr}{te:TE}{t:TA}{pos:Pos}
theorem cJ:PA X [] IY:=λ_ _ _ _ H Q I h=>Calls.spliced_nil ⟨[],H,I,.nil,h⟩
theorem a8 (ha:PE X e te)(hr:PA X es t)(hs:U5 (e::es) X.env=(false,eval e X.env)::U5 es X.env:=by rfl):PA X (e::es) (Ee te t):=by
 intro pos pins s σ H Q I h;rw[hs];show Vu _ _ (spliced ((false,eval e X.env)::WG pos (U5 es X.env))) _ _ s;refine Calls.spliced_cons (bA (ha pins s σ H _ I h) λu s1 ⟨x,H1,I1,r1,q1⟩=>?_);exact bA (hr pos pins s1 σ H1 _ I1 q1) λus s2 ⟨xs,H2,I2,r2,q2⟩=>⟨x::xs,H2,I2,.cons r1 r2,q2⟩
def M9 (t:TA):TE:=λσ H Q=>t σ H λxs H1=>xs.length<=U4/\∀p,H1 p=none->Q (.ref p) (upd H1 p (.tup xs))
def Nd (t:TA):TE:=λσ H Q=>t σ H λxs H1=>xs.length<=U4/\∀p,H1 p=none->Q (.ref p) (upd H1 p (.lst xs))
theorem zL {x1}(h:PA X es t):PE X (.Tuple es x1 pos) (M9 t):=by
 intro pins s σ H Q I hq;refine wpAny_Tuple_spliced (bA (h pos pins s σ H _ I hq) λus s1 ⟨xs,H1,I1,r,z,q⟩=>⟨by rw[<- r.length];exact z,?_⟩)
 have hf:H1 s1.heap.objs.size=none:=I1.bM.fresh (UU _);refine⟨.ref s1.heap.objs.size,upd H1 s1.heap.objs.size (.tup xs),I1.laid (t':=s1.toks) (λb u e=>Vc _ e) (UU _) ?_,rfl,q _ hf⟩;exact⟨z,us,r,⟨_,VO _ rfl,rfl,_,rfl⟩⟩
theorem pD (h:PA X es t):PE X (.List es pos) (Nd t):=by
 intro pins s σ H Q I hq;refine wpAny_List_spliced (bA (h pos pins s σ H _ I hq) λus s1 ⟨xs,H1,I1,r,z,q⟩=>⟨by rw[<- r.length];exact z,?_⟩)
 have hf:H1 s1.heap.objs.size=none:=I1.bM.fresh (UU _);refine⟨.ref s1.heap.objs.size,upd H1 s1.heap.objs.size (.lst xs),I1.laid (t':=s1.toks) (λb u e=>Vc _ e) (UU _) ?_,rfl,q _ hf⟩;exact⟨z,us,0,r,VO _ rfl⟩
end
abbrev Sp:=List V->Hp->VK->XK->Prop
abbrev BD:=List Env->Hp->UT->XK->UR->UT->Prop
structure DW (P:UX)(w:Vb)(K:PySem.W.Frag)(mg:Str->Option UR)(base:Heap)(A:VZ)(outer:List Env)(s:UT)(H:Hp):Prop where
 frames:A.frames=some outer
 mod:Mod K mg base
 bs:∀b o,base.get? b=some o->s.heap.get? b=some o/\H b=none
 E3:base.objs.size<=s.heap.objs.size
 l4:s.heap.FunFrames base outer
 IC:∀b∈AX outer,H b=none
 bM:iF P w H s.heap
 bare:Yi s.gens
def CE (outer:List Env)(P:UX)(w:Vb)(H:Hp)(s:UT)(Q:VK)(u:UR)(s':UT):Prop :=
 ∃v H',s'.os=s.os/\Yi s'.gens/\Un (AX outer) [] H H' s.heap s'.heap/\iF P w H' s'.heap/\RelV v u/\Q v H'
def CR (CX:BD)(outer:List Env)(P:UX)(w:Vb)(H:Hp)(s:UT)(Q:VK)(E:XK)(r:Result)(s':UT):Prop :=
 match r with
 |.ok (.ret u)=>CE outer P w H s Q u s'
 |.ok _=>False
 |.error e=>CX outer H s E e s'
structure aD (P:UX)(w:Vb)(K:PySem.W.Frag)(mg:Str->Option UR)(base:Heap)(CX:BD)(k:Nat)(f:Addr)(fd:Vz)(ps:List Str)(sp:Sp):Prop where
 len:∀vs H Q E,sp vs H Q E->vs.length=ps.length
 run:∀(A:VZ) (outer:List Env) (s:UT) (H:Hp) (args:Args) (us:List UR) (vs:List V) (Q:VK) (E:XK),cT k A->DW P w K mg base A outer s H->BindsTo s fd args (ps.zip us)->Vals vs us->sp vs H Q E ->
  Yw (model P w) A (.call (.ref f) args) (CR CX outer P w H s Q E) s
theorem aD.imp {P:UX}{w:Vb}{K:PySem.W.Frag}{mg:Str->Option UR}{base:Heap}{CX:BD}{k:Nat}{f:Addr}{fd:Vz}{ps:List Str}{sp Ql:Sp}(F:aD P w K mg base CX k f fd ps sp)
  (h:∀vs H Q E,Ql vs H Q E->sp vs H Q E):aD P w K mg base CX k f fd ps Ql :=
 ⟨λvs H Q E q=>F.len vs H Q E (h _ _ _ _ q),λA outer s H args us vs Q E hr he hb hv hs=>F.run A outer s H args us vs Q E hr he hb hv (h _ _ _ _ hs)⟩
section
variable {X:Cx}{pins:List (Addr×Obj)}{σ:St}{H:Hp}{s s':UT}
theorem Inv.PC (I:Inv X pins σ H s):DW X.prog X.w X.K X.mg X.base X.A X.stack s H :=
 ⟨I.ok.frames,I.ok.mod,I.bs,Vm I.ok.E3 I.sz,I.stack,I.vg,I.bM,I.bare⟩
theorem Inv.after {Q:VK}{u:UR}(I:Inv X pins σ H s)(h:CE X.stack X.prog X.w H s Q u s'):EP X pins σ Q u s':=by
 obtain⟨v,H',os,bare,un,bM,r,q⟩:=h;obtain⟨hh,g,d,t,R5⟩:=s';obtain rfl:R5=s.os:=os;exact⟨v,H',I.call (h':=hh) (g':=g) (d':=d) (t':=t) (ch:=[]) un bM bare (λb z=>absurd z (by simp)),r,q⟩
end
def Ja (sp:Sp)(ET:List V)(E:XK)(t:TA):TE:=λσ H Q=>t σ H λvs H1=>sp (vs++ET) H1 Q E
def Binds (K:PySem.W.Frag)(fd:Vz)(ps:List Str)(ds:List UR):Prop :=
 ∀(s:UT) (us:List UR),K.In s.heap->(us++ds).length=ps.length->BindsTo s fd ⟨us,[]⟩ (ps.zip (us++ds))
theorem Binds.all {K:PySem.W.Frag}{fd:Vz}{ps:List Str}(h:∀us:List UR,us.length=ps.length->bindArgs fd ⟨us,[]⟩=pure (ps.zip us)):Binds K fd ps []:=λs us _ hl=>by
 rw[Wr]at hl ⊢
 exact .of_eq (h us hl)
def Passes (CX:BD)(X:Cx)(E:XK):Prop:=∀(pins:List (Addr×Obj)) (σ:St) (H:Hp) (s:UT) (e:UR) (s':UT),Inv X pins σ H s->CX X.stack H s E e s'->X.xe e s'
section
variable {X:Cx}{CX:BD}{k:Nat}{f:Addr}{fd:Vz}{ps:List Str}{sp:Sp}{ET:List V}{ds:List UR}{E:XK}{x:Str}{p pos:Pos}{e:Expr}{es:List Expr}{t:TA}
theorem FL {pins:List (Addr×Obj)}{σ:St}{H:Hp}{s:UT}{Q:VK}{us:List UR}{vs:List V}(F:aD X.prog X.w X.K X.mg X.base CX k f fd ps sp)(hr:cT k X.A)(hb:Binds X.K fd ps ds)(hd:Vals ET ds)(hx:Passes CX X E)
  (I:Inv X pins σ H s) (r:Vals vs us) (h:sp (vs++ET) H Q E):Vu (model X.prog X.w) X.A (call (.ref f) us) (EP X pins σ Q) X.xe s:=by
 have r2:Vals (vs++ET) (us++ds):=r.append hd;have hl:(us++ds).length=ps.length:=by rw[<- r2.length];exact F.len _ _ _ _ h
 refine wpAny_call (Ye (F.run X.A X.stack s H ⟨us,[]⟩ (us++ds) (vs++ET) Q E hr I.PC (hb s us I.jP hl) r2 h) λr s' hq=>?_);cases r with
 |error e=>exact hx pins σ H s e s' I hq
 |ok fl =>
  cases fl with
  |ret u=>exact I.after hq
  |next=>exact W8 hq
  |brk=>exact W8 hq
  |cont=>exact W8 hq
theorem pE (F:aD X.prog X.w X.K X.mg X.base CX k f fd ps sp)(hr:cT k X.A)(hg:Gl X x)(hm:X.mg x=some (.ref f))(hk:PySem.W.keepIn X.K (.ref f)=true)(hb:Binds X.K fd ps ds)(hd:Vals ET ds)(hx:Passes CX X E)
  (ha:PA X (e::es) t) (hdb:(x==("__debug__" : Str))=false:=by decide) (he:U5 (e::es) X.env=(false,eval e X.env)::U5 es X.env:=by rfl) (hpl:(WG pos (U5 es X.env)).any (·.1)=false:=by rfl) :
  PE X (.Call (.Name x p) (e::es) [] pos) (Ja sp ET E t):=by
 intro pins s σ H Q I h;refine Xl (C4 I hg hm ?_ hdb);refine PySem.W.callWith_K (h₀:=X.base) I.ok.mod.N5 hk (bA (ha pos pins s σ H _ I h) λus s1 ⟨vs,H1,I1,r,q⟩=>⟨I1.jP,?_⟩) he hpl;exact FL F hr hb hd hx I1 r q
end
section
end
structure aC (N P:List Str)(sc:Xr):Prop where
 kind:sc.kind=.function
 co:sc.isCoroutine=false
 gen:sc.isGenerator=false
 nd:N.Nodup
 pre:N.take P.length=P
 par:∀x∈P,sc.names.lookup x=some .local\/sc.names.lookup x=some .cell
 Gw:∀y∈sc.names,y.2≠.free
theorem oE {kindOf:Str->Option XF}{x:Str}:∀{binds:List (Str×UR)} {m:Str->Option UR},(∀v,(x,v)∉binds)->bindL kindOf binds m x=m x
 |[],_,_=>rfl
 | (n,v)::r,m,h=>by
  unfold bindL;rw[oE λw hw=>h w (U6 _ hw)]
  split
  ·have:x≠n:=by rintro rfl;exact h v U9
   simp[this]
  ·rfl
theorem oG {kindOf:Str->Option XF}{x:Str}:∀{binds:List (Str×UR)} {m:Str->Option UR},(∀v,(x,v)∉binds)->bindC kindOf binds m x=m x
 |[],_,_=>rfl
 | (n,v)::r,m,h=>by
  unfold bindC;rw[oG λw hw=>h w (U6 _ hw)]
  split
  ·rfl
  ·have:x≠n:=by rintro rfl;exact h v U9
   simp[this]
theorem oF {kindOf:Str->Option XF}{x:Str}{v:UR}:∀{P:List Str} {vs:List UR} {i:Nat} {m:Str->Option UR},P.Nodup->P[i]?=some x->vs[i]?=some v->kindOf x=some .local ->
  bindL kindOf (P.zip vs) m x=some v
 |[],_,_,_,_,h,_,_=>by simp at h
 |_::_,[],_,_,_,_,h,_=>by simp at h
 |p::P,w::vs,0,m,nd,h1,h2,hk=>by
  simp at h1 h2;subst h1;subst h2;show bindL kindOf ((p,w)::P.zip vs) m p=_;unfold bindL;rw[oE λv hv=>(Vw.mp nd).1 (Ym hv).1,if_pos hk];simp
 |p::P,w::vs,i+1,m,nd,h1,h2,hk=>by
  show bindL kindOf ((p,w)::P.zip vs) m x=_;unfold bindL;exact oF (i:=i) (Vw.mp nd).2 (by simpa using h1) (by simpa using h2) hk
theorem oH {kindOf:Str->Option XF}{x:Str}{v:UR}:∀{P:List Str} {vs:List UR} {i:Nat} {m:Str->Option UR},P.Nodup->P[i]?=some x->vs[i]?=some v->kindOf x≠some .local ->
  bindC kindOf (P.zip vs) m x=some v
 |[],_,_,_,_,h,_,_=>by simp at h
 |_::_,[],_,_,_,_,h,_=>by simp at h
 |p::P,w::vs,0,m,nd,h1,h2,hk=>by
  simp at h1 h2;subst h1;subst h2;show bindC kindOf ((p,w)::P.zip vs) m p=_;unfold bindC;rw[oG λv hv=>(Vw.mp nd).1 (Ym hv).1,if_neg hk];simp
 |p::P,w::vs,i+1,m,nd,h1,h2,hk=>by
  show bindC kindOf ((p,w)::P.zip vs) m x=_;unfold bindC;exact oH (i:=i) (Vw.mp nd).2 (by simpa using h1) (by simpa using h2) hk
def start (N:List Str)(vs:List V):St:=vs.map some++Vo (N.length-vs.length) none
def m6 (CX:BD)(P:UX)(w:Vb)(K:PySem.W.Frag)(mg:Str->Option UR)(base:Heap)(N:List Str)(qual:Str)(scope:Xr)(f:Addr)(cd:UR)(A:VZ)(outer:List Env)(s:UT)(H:Hp)(E:XK):Cx where
 prog:=P
 w:=w
 K:=K
 mg:=mg
 base:=base
 A:=A.deeper (Yd qual scope s.heap.objs.size f cd)
 N:=N
 s₀:=s
 H₀:=H
 env:=Yd qual scope s.heap.objs.size f cd
 outer:=outer
 stack:=Yd qual scope s.heap.objs.size f cd::outer
 ex:=[]
 calm:=true
 fn:=λ_=>true
 pn:=[]
 xe:=λe s'=>Vu (model P w) (A.deeper (Yd qual scope s.heap.objs.size f cd)) (leaving (Yd qual scope s.heap.objs.size f cd) e) (λ_ Nt=>CX outer H s E e Nt) (λe' Nt=>CX outer H s E e' Nt) s'
theorem sM {sc:Xr}{n:Nat}{x:Str}(h:sc.names.lookup x=some .cell):∃c,(cellsFrom n sc.names []).lookup x=some c:=by
 have q:=PySem.W.cellsFrom_some sc.names n [] (.inl h);exact X2.mp q
theorem xP {CX:BD}{P:UX}{w:Vb}{K:PySem.W.Frag}{mg:Str->Option UR}{base:Heap}{N ps:List Str}{qual:Str}{scope:Xr}{f:Addr}{cd:UR}{A:VZ}{outer:List Env}{s s1:UT}{H:Hp}{E:XK}{us:List UR}{vs:List V}
  (S:aC N ps scope) (hd:A.handled=none) (e0:DW P w K mg base A outer s H) (hl:vs.length=ps.length) (r:Vals vs us)
  (x:InCallC s s.heap.objs.size (bindL (Yd qual scope s.heap.objs.size f cd).kindOf (ps.zip us) λ_=>none) (cellsFrom (s.heap.objs.size+1) scope.names []) (bindC (Yd qual scope s.heap.objs.size f cd).kindOf (ps.zip us) λ_=>none) s1) :
  Inv (m6 CX P w K mg base N qual scope f cd A outer s H E) [] (start N vs) H s1:=by
 have hpl:ps.length<=N.length:=by have:=congrArg List.length S.pre;rw[VS]at this;lia
 obtain⟨h1,tk,rfl,hk⟩:=x.done;have JI:∀b:Addr,b∉(m6 CX P w K mg base N qual scope f cd A outer s H E).ex:=λb z=>absurd (show b∈([]:List Addr) from z) (by simp)
 refine⟨⟨e0.mod,S.kind,rfl,rfl,UU _,λy z c h1 h2=>?_,λy hy=>?_,λy c _ h=>?_,λ_=>hd,Around.frames_deeper e0.frames,.inr ⟨rfl,rfl⟩,λb z=>absurd z (JI b),e0.bs,e0.E3,λb _ _=>JI b,λb z=>absurd z (JI b),e0.l4,e0.IC⟩,
  rfl,e0.bare,Un.kept hk,⟨_,x.toInCall.ns,λi y v h1 h2 h3=>?_⟩,λy c h=>⟨_,x.cell y c h⟩,e0.bM.fresh (UU _),λy c h=>?_,λp hp=>absurd (show p∈([]:List (Addr×Obj)) from hp) (by simp),e0.bM.kept hk,?_⟩
 ·exact name_of_addr x.apart (PySem.mem_of_lookup h1) (PySem.mem_of_lookup h2)
 ·have hy:scope.names.lookup y=some .cell\/scope.names.lookup y=some .free:=hy;rcases hy with hy|hy
  ·exact sM hy
  ·exact absurd rfl (S.Gw _ (PySem.mem_of_lookup hy))
 ·exact Nat.le_of_lt (x.above y c (PySem.mem_of_lookup h))
 ·have hi:i<vs.length:=by
   unfold start at h2
   by_cases hi:i<vs.length
   ·exact hi
   ·rw[VR (by simpa using hi)]at h2
    rw[List.getElem?_replicate]at h2
    split at h2 <;> cases h2
  have ha:vs[i]?=some v:=by
   unfold start at h2;rw[Ws (by simpa using hi),Vd]at h2
   cases e:vs[i]? with
   |none=>rw[e]at h2;cases h2
   |some a=>rw[e]at h2;cases h2;rfl
  obtain⟨u,hu,rv⟩:=r.get ha;have hp:ps[i]?=some y:=by
   rw[<- S.pre,List.getElem?_take_of_lt (by lia)];exact h1
  have QA:ps.Nodup:=by rw[<- S.pre];exact S.nd.sublist (WV _ _)
  refine⟨u,rv,?_⟩;rcases S.par y (Vv hp)with k|k
  ·exact .inl ⟨k,oF QA hp hu k⟩
  ·obtain⟨c,e⟩:=sM (n:=s.heap.objs.size+1) k;refine .inr ⟨.inl k,c,e,?_⟩;have q:=x.cell y c e;rw[oH QA hp hu (by show scope.names.lookup y≠_;rw[k];decide)]at q
   exact q
 ·exact e0.bM.fresh (Nat.le_of_lt (x.above y c (PySem.mem_of_lookup h)))
 ·unfold start;show _=N.length;rw[Vr,US,List.length_replicate];lia
theorem LG {CX:BD}{P:UX}{w:Vb}{K:PySem.W.Frag}{mg:Str->Option UR}{base:Heap}{k:Nat}{f:Addr}{name qual:Str}{params:Arguments}{body:List Stmt}{scope:Xr}{dV kV doc pm cC ct oc:UR}{an od:Option Addr}
  {F_:Array (Option UR)} {N ps:List Str} {sp:Sp} (lk:K.lookup f=some ⟨oc,od,.func (PySem.W.fnOf name qual params body scope dV kV doc pm an cC ct),F_⟩) (gm:PySem.W.codeIn K cC qual=true) (S:aC N ps scope)
  (len:∀vs H Q E,sp vs H Q E->vs.length=ps.length)
  (l3:∀(A:VZ) (outer:List Env) (s:UT) (H:Hp) (vs:List V) (Q:VK) (E:XK),cT k (A.deeper (Yd qual scope s.heap.objs.size f cC))->sp vs H Q E ->
   ∃t,qm (m6 CX P w K mg base N qual scope f cC A outer s H E) body t/\t {nx:=λ_ H'=>Q .bH H',rt:=Q} (start N vs) H) :
  aD P w K mg base CX (k+1) f (PySem.W.fnOf name qual params body scope dV kV doc pm an cC ct) ps sp:=by
 refine⟨len,λA outer s H args us vs Q E hr e0 hb r ku=>?_⟩;have hl:=len _ _ _ _ ku;have KX:K.In s.heap:=e0.mod.N5.keeps λb o e=>(e0.bs b o e).1;have lim:s.heap.NoLimit:=e0.mod.nolimit.keeps λb o e=>(e0.bs b o e).1;have Ln:∀y∈ps.zip us,scope.names.lookup y.1=some .local\/(scope.names.lookup y.1=some .cell/\((cellsFrom (s.heap.objs.size+1) scope.names []).lookup y.1).isSome=true):=λOt hy=> by
  obtain⟨n,v⟩ := Ot;rcases S.par n (Ym hy).1 with q|q
  ·exact .inl q
  ·exact .inr ⟨q,PySem.W.cellsFrom_some _ _ _ (.inl q)⟩
 refine codeAny_call_function hr.depth (KX _ _ lk) rfl S.co S.gen rfl (PySem.W.codeRec_of KX gm) (hb _ _ _ _ ?_);refine wpAny_newFunctionEnv_cells S.kind Ln λenv he s1 x=>?_;subst he;refine⟨lim.keeps x.toInCall.keep,codeAny_func ?_⟩;obtain⟨t,ht,hq⟩:=l3 A outer s H vs Q E (hr.deeper _) ku;have I:Inv (m6 CX P w K mg base N qual scope f cC A outer s H E) [] (start N vs) H s1:=xP S hr.hd e0 hl r x;refine XR (ht [] s1 (start N vs) H _ I hq) (λfl s' hs=>?_) λe s' hs=>hs;have fin:∀{σ':St} {H':Hp} {v:V} {u:UR},Inv (m6 CX P w K mg base N qual scope f cC A outer s H E) [] σ' H' s'->RelV v u->Q v H'->CE outer P w H s Q u s' :=
  λ{σ' H' v u} J rv q=>⟨v,H',J.os,J.bare,J.base,J.bM,rv,q⟩
 cases fl with
 |ret u =>
  obtain⟨v,σ',H',J,rv,q⟩:=hs;exact fin J rv q
 |next =>
  obtain⟨σ',H',J,q⟩:=hs;exact fin (v:=V.bH) (u:=Value.none) J rfl q
 |brk =>
  obtain⟨_,_,_,q⟩:=hs;exact W8 q
 |cont =>
  obtain⟨_,_,_,q⟩:=hs;exact W8 q
section
variable {X:Cx}{x:Str}{p pos:Pos}{e:Expr}{es:List Expr}{t:TA}{id T:String}{r:List V->Hp->VK->Prop}
def Nh (r:List V->Hp->VK->Prop)(t:TA):TE:=λσ H Q=>t σ H λvs H1=>r vs H1 Q
theorem gB (hc:gg X (.builtin id) r) (hg:Gl X x) (hm:X.mg x=none) (hv:VI x=some (.builtin id)) (ha:PA X (e::es) t) (hn:x≠"__name__" := by decide) (hdb:(x==("__debug__" : Str))=false:=by decide)
  (he:U5 (e::es) X.env=(false,eval e X.env)::U5 es X.env:=by rfl) (hpl:(WG pos (U5 es X.env)).any (·.1)=false:=by rfl):PE X (.Call (.Name x p) (e::es) [] pos) (Nh r t):=by
 intro pins s σ H Q I h;refine Xl (fN I hg hm hv ?_ hn hdb);exact PyProof.Rows.callWith_builtin1 (bA (ha pos pins s σ H _ I h) λus s1 G9=> by obtain⟨vs,H1,I1,r1,q1⟩ := G9;exact hc pins s1 σ H1 vs us Q I1 r1 q1) he hpl
theorem xr (hc:gg X (.type T) r) (hg:Gl X x) (hm:X.mg x=none) (hv:VI x=some (.type T)) (ha:PA X (e::es) t) (hn:x≠"__name__" := by decide) (hdb:(x==("__debug__" : Str))=false:=by decide)
  (he:U5 (e::es) X.env=(false,eval e X.env)::U5 es X.env:=by rfl) (hpl:(WG pos (U5 es X.env)).any (·.1)=false:=by rfl):PE X (.Call (.Name x p) (e::es) [] pos) (Nh r t):=by
 intro pins s σ H Q I h;refine Xl (fN I hg hm hv ?_ hn hdb);exact V6 (bA (ha pos pins s σ H _ I h) λus s1 G8=> by obtain⟨vs,H1,I1,r1,q1⟩ := G8;exact hc pins s1 σ H1 vs us Q I1 r1 q1) he hpl
end
end L2
namespace HT
open PySem PyProof.Rows
def lexLt:List Int->List Int->Bool
 |[],[]=>false
 |[],_::_=>true
 |_::_,[]=>false
 |x::xs,y::ys=>if x=y then lexLt xs ys else decide (x<y)
theorem bY (x y:Int)(xs ys:List Int):lexLt (x::xs) (y::ys)=if x=y then lexLt xs ys else decide (x<y):=rfl
theorem mU:lexLt [] []=false:=rfl
theorem lQ (y:Int)(ys:List Int):lexLt [] (y::ys)=true:=rfl
theorem lR (x:Int)(xs:List Int):lexLt (x::xs) []=false:=rfl
theorem mv (A:VZ)(s:UT)(a:Int)(t:Tok)(c:Int)(u:Tok):∃e,SeqAt.EqAt A s (.int a t) (.int c u) e/\(e=true↔a=c) :=
 ⟨(a==c),SeqAt.EqAt.int_int a t c u,by simp⟩
theorem zg (A:VZ)(s:UT)(a:Int)(t:Tok)(c:Int)(u:Tok)(prog:UX)(w:Vb)(E:UR->UT->Prop)(Q:UR->UT->Prop)(h:Q (.bool (decide (a<c))) s):
  Vu (model prog w) A (richCompare .Lt (.int a t) (.int c u)) Q E s :=
 (PyProof.Rows.lt_int h:Vu (model prog w) A (VD .Lt (.int a t) (.int c u)) Q E s)
section
open PySem.SeqAt
open PySem.AutoSeq1 (wpAny_loadPart')
open PySem.MeetsSeq PySem.MeetsSeq2 PySem.MeetsSeq3
theorem mK (l b:Addr)(items aM:Array UR)(n n2:Nat)(dd Be:Option Addr)(sl y8:Array (Option UR))(ns ms:List Int)(hi:We items.toList ns)(hj:We aM.toList ms):
  Meets (Yh.«tuple.__lt__» ⟨[.ref l,.ref b],[]⟩)
   (λ_ R s=>s.heap.get? l=some {cls:=.type "tuple",dict:=dd,data:=.seq items n,slots:=sl}/\s.heap.get? b=some {cls:=.type "tuple",dict:=Be,data:=.seq aM n2,slots:=y8} /\
    R (.ok (.ret (.bool (lexLt ns ms)))) s) :=
 .of_wp λprog w A R s h=>by
  obtain⟨hp,g,d,tk,os⟩:=s;obtain⟨hl,hb,h⟩:=h;have f2:=X5;have z1:items.size=ns.length:=by rw[<- hi.length];simp
  have z2:aM.size=ms.length:=by rw[<- hj.length];simp
  wp_walk using Wq hl,Wq hb,YO _ (λrest b s'=>b.1=none/\s'=⟨hp,g,d,tk,os⟩/\∃(vs ws:List UR) (h9 nD:List Int),rest=vs.zip ws /\
   We vs h9/\We ws nD/\h9.length+aM.size=nD.length+items.size/\R (.ok (.ret (.bool (lexLt h9 nD)))) ⟨hp,g,d,tk,os⟩) _
  case turn =>
   rintro⟨y,x⟩ rest b s' ⟨fP,rfl,vs,ws,h9,nD,hz,Az,vZ,hlen,hR⟩;cases Az with
   |nil=>rw[XY]at hz;cases hz
   |cons a t Ay =>
    cases vZ with
    |nil=>rw[XS]at hz;cases hz
    |cons c u Ax =>
     rw[Wt]at hz;injection hz with J9 lZ
     injection J9 with hy hx
     subst hy hx;rw[bY]at hR;simp only[U_]at hlen;obtain⟨e,he,rW⟩:=mv A.in1 ⟨hp,g,d,tk,os⟩ a t c u;refine UW (he prog w _ _ ?_);cases e with
     |true =>
      rw[if_pos (rW.mp rfl)]at hR
      wp_walk
      exact⟨rfl,rfl,_,_,_,_,lZ,Ay,Ax,by lia,hR⟩
     |false =>
      rw[if_neg (λq=>absurd (rW.mpr q) VY)]at hR;have Ki:=zg A.in1 ⟨hp,g,d,tk,os⟩ a t c u prog w
      wp_walk using Ki
      exact⟨_,rfl,by simpa using hR⟩
  case fin =>
   rintro⟨b1,b2⟩ s' ⟨fP,rfl,vs,ws,h9,nD,hz,Az,vZ,hlen,hR⟩;simp only at fP;subst fP;have hv:lexLt h9 nD=decide (items.size<aM.size):=by
    cases Az with
    |nil =>
     cases vZ with
     |nil =>
      simp only[Wc]at hlen;rw[mU];exact(decide_eq_false (by lia)).symm
     |cons c u hw =>
      simp only[Wc,U_]at hlen;rw[lQ];exact(decide_eq_true (by lia)).symm
    |cons a t hv =>
     cases vZ with
     |nil =>
      simp only[Wc,U_]at hlen;rw[lR];exact(decide_eq_false (by lia)).symm
     |cons c u hw =>
      rw[Wt]at hz;cases hz
   rw[hv]at hR
   wp_walk
   exact⟨_,rfl,by simpa[Xx] using hR⟩
  case h =>
   exact⟨rfl,rfl,items.toList,aM.toList,ns,ms,rfl,hi,hj,by lia,h⟩
end
section
variable {prog:UX}{w:Vb}{A:VZ}{E:UR->UT->Prop}{s:UT}
theorem uh {l b:Addr}{items aM:Array UR}{ns ms:List Int}{Q:UR->UT->Prop}(hl:YY s.heap l items)(hb:YY s.heap b aM)(hi:We items.toList ns)(hj:We aM.toList ms)
  (hu:A.units<XJ) (h:Q (.bool (lexLt ns ms)) s):Vu (model prog w) A (VD .Lt (.ref l) (.ref b)) Q E s:=by
 obtain⟨⟨cls,dd,data,sl⟩,ho,hc,n,hd⟩:=id hl;obtain⟨⟨LW,Be,data2,y8⟩,EH,kS,n2,hd2⟩:=id hb;simp only at hc hd kS hd2;subst hc hd kS hd2;exact Yc (op:=.Lt) ⟨_,ho,rfl⟩ ⟨_,EH,rfl⟩ PySem.F.slot_tuple_lt PySem.F.entry_tuple_lt (PySem.F.args_tuple_lt_2 _ _) (mK l b items aM n n2 dd Be sl y8 ns ms hi hj)
  ⟨ho,EH,show Value.bool (lexLt ns ms)≠Yr/\Q (.bool (lexLt ns ms)) s from ⟨(λx=>nomatch x),h⟩⟩ hu
def lA (n d:Nat):Option Int->Nat
 |none=>d
 |some v=>if v<0 then (v+(n:Int)).toNat else min v.toNat n
theorem lz (n d:Nat):lA n d none=d:=rfl
theorem pf (n d k:Nat):lA n d (some (k:Int))=min k n:=by
 show (if (k:Int)<0 then ((k:Int)+(n:Int)).toNat else min (k:Int).toNat n)=min k n
 rw[if_neg (by lia),VM]
end
end HT
namespace L2
open PySem PySem.Spec PyProof.Rows
abbrev TO:=St->Hp->(Option Int->Hp->Prop)->Prop
def PO (X:Cx)(e:Option Expr)(t:TO):Prop :=
 ∀(pins:List (Addr×Obj)) (s:UT) (σ:St) (H:Hp) (Q:Option Int->Hp->Prop),Inv X pins σ H s->t σ H Q ->
  Vu (model X.prog X.w) X.A (evalPart e X.env) (λu s'=>∃o H',Inv X pins σ H' s'/\IsPart u o/\Q o H') X.xe s
def BX:TO:=λ_ H Q=>Q none H
def IV (t:TE):TO:=λσ H Q=>t σ H λx H1=>∃i,x=.int i/\Q (some i) H1
theorem intsAre_of {ns:List Int}:∀{us:List UR},Vals (ns.map V.int) us->We us ns:=by
 induction ns with
 |nil=>intro us r;rw[YK]at r;cases r;exact .nil
 |cons n ns ih =>
  intro us r;rw[Vs]at r;cases r with
  |cons r1 r2 =>
   obtain⟨t,e⟩:=r1;subst e;exact .cons n t (ih r2)
section
variable {X:Cx}{e:Expr}{te:TE}{lo hi:Option Expr}{tl th:TO}{pos p2:Pos}
theorem vw:PO X none BX:=by
 intro pins s σ H Q I h;rw[evalPart_none];exact Vg ⟨none,H,I,.none,h⟩
theorem vv (h:PE X e te):PO X (some e) (IV te):=by
 intro pins s σ H Q I hw;rw[evalPart_some];refine bA (h pins s σ H _ I hw) λu s1 ⟨x,H1,I1,r1,q1⟩=>?_;obtain⟨i,rfl,q⟩:=q1;obtain⟨t,rfl⟩:=r1;exact⟨some i,H1,I1,.int i t,q⟩
def P1 (X:Cx)(r:V->Option Int->Option Int->Hp->VK->Prop):Prop :=
 ∀(pins:List (Addr×Obj)) (s:UT) (σ:St) (H:Hp) (x:V) (v vl vu:UR) (lo hi:Option Int) (sl:Addr) (Q:VK),Inv X pins σ H s->RelV x v->s.heap.IsSliceOf sl vl vu .none->IsPart vl lo->IsPart vu hi->r x lo hi H Q ->
  ∃T id,typeLookup (.type T) "__getitem__" = pure (some (.builtin id))/\s.TypeIs v T/\Vu (model X.prog X.w) X.A (getItem v (.ref sl)) (EP X pins σ Q) X.xe s
def Rz (r:V->Option Int->Option Int->Hp->VK->Prop)(te:TE)(tl th:TO):TE:=λσ H Q=>te σ H λx H1=>tl σ H1 λl H2=>th σ H2 λu H3=>r x l u H3 Q
theorem qY {r:V->Option Int->Option Int->Hp->VK->Prop}(hr:P1 X r)(he:PE X e te)(hl:PO X lo tl)(hu:PO X hi th):PE X (.Subscript e (.Slice lo hi none p2) pos) (Rz r te tl th):=by
 intro pins s σ H Q I h;refine Subscript_ (bA (he pins s σ H _ I h) λv s1 ⟨x,H1,I1,r1,q1⟩=>?_);refine wpAny_Slice (bA (hl pins s1 σ H1 _ I1 q1) λvl s2 ⟨l,H2,I2,pl,q2⟩=>bA (hu pins s2 σ H2 _ I2 q2) λvu s3 ⟨u,H3,I3,pu,q3⟩=>?_);rw[evalPart_none];refine Vg ?_;have I4:Inv X pins σ H3 {s3 with heap:=s3.heap.push {cls:=.type "slice",data:=.fields #[vl,vu,.none]}}:=I3.kept (t':=s3.toks) λb ob q=>Vc _ q
 obtain⟨T,id,hT,ht,hg⟩:=hr pins {s3 with heap:=s3.heap.push {cls:=.type "slice",data:=.fields #[vl,vu,.none]}} σ H3 x v vl vu l u s3.heap.objs.size Q I4 r1 (Heap.IsSliceOf.new ..) pl pu q3
 show Vu (model X.prog X.w) X.A (subscriptTail e (.Slice lo hi none p2) v (.ref s3.heap.objs.size)) (EP X pins σ Q) X.xe {s3 with heap:=s3.heap.push {cls:=.type "slice",data:=.fields #[vl,vu,.none]}}
 exact tail_any (ops:=[.ref s3.heap.objs.size,v]) ht hT hg (by with_unfolding_all rfl)
def sL (xs:List V)(lo hi:Option Int):List V:=(xs.drop (HT.lA xs.length 0 lo)).take (HT.lA xs.length xs.length hi-HT.lA xs.length 0 lo)
theorem sJ (xs:List V)(lo hi:Option Int):(sL xs lo hi).length<=xs.length:=by
 unfold sL;rw[VS,X8];lia
end
def xK (n:Nat)(i:Int):Option Nat:=if 0<=i then (if i<n then some i.toNat else none) else if -(n:Int)<=i then some (i+n).toNat else none
def m7 {α:Type}(xs:List α)(i:Int):Option α:=(xK xs.length i).bind λj=>xs[j]?
theorem vV {n:Nat}{i:Int}{j:Nat}(h:xK n i=some j):seqIndex? i n=some j/\j<n/\-(n:Int)<=i/\i<n:=by
 unfold xK at h
 by_cases h0:0<=i
 ·rw[if_pos h0]at h
  by_cases h1:i<n
  ·rw[if_pos h1]at h;have e:i.toNat=j:=VQ h;exact⟨by rw[seqIndex_of h0 h1,e],by lia,by lia,h1⟩
  ·rw[if_neg h1]at h;cases h
 ·rw[if_neg h0]at h
  by_cases h1:-(n:Int)<=i
  ·rw[if_pos h1]at h;have e:(i+n).toNat=j:=VQ h;exact⟨by rw[seqIndex_neg (by lia) h1,e],by lia,h1,by lia⟩
  ·rw[if_neg h1]at h;cases h
theorem wD {α:Type}{xs:List α}{i:Int}{v:α}(h:m7 xs i=some v):∃j,seqIndex? i xs.length=some j/\xs[j]?=some v/\j<xs.length/\-(xs.length:Int)<=i/\i<xs.length:=by
 unfold m7 at h;cases e:xK xs.length i with
 |none=>rw[e]at h;cases h
 |some j =>
  rw[e]at h;obtain⟨h1,h2,h3,h4⟩:=vV e;exact⟨j,h1,h,h2,h3,h4⟩
def qe (b:Expr):Prop:=∀o i,subscripted b false o i=operate [o,i] (getItem o i)
def Ie (X:Cx)(r:R2):Prop :=
 ∀(value slice:Expr) (pins:List (Addr×Obj)) (s:UT) (σ:St) (H:Hp) (x y:V) (v u:UR) (Q:VK),Inv X pins σ H s->RelV x v->RelV y u->r x y H Q ->
  subscripted slice false v u=operate [v,u] (getItem v u)->Vu (model X.prog X.w) X.A (subscriptTail value slice v u) (EP X pins σ Q) X.xe s
def Rl (X:Cx)(id:String)(r:V->List V->Hp->VK->Prop):Prop :=
 ∀(pins:List (Addr×Obj)) (s:UT) (σ:St) (H:Hp) (x:V) (xs:List V) (v:UR) (us:List UR) (Q:VK),Inv X pins σ H s->RelV x v->Vals xs us->r x xs H Q ->
  Vu (model X.prog X.w) X.A (call (.builtin id) (v::us)) (EP X pins σ Q) X.xe s
section
variable {X:Cx}{a b:Expr}{ta tb:TE}{pos:Pos}
theorem h8 {r:R2}(hr:Ie X r)(ha:PE X a ta)(hb:PE X b tb)(hs:qe b):PE X (.Subscript a b pos) (IW r ta tb):=by
 intro pins s σ H Q I h;exact Subscript_ (HW ha hb I h λv u s2 x y H2 I2 rx ry q=>hr a b pins s2 σ H2 x y v u Q I2 rx ry q (hs _ _))
def Jn (K:PySem.W.Frag):R2:=λx y H Q=>∃p xs i v,x=.ref p/\y=.int i/\da K H p xs/\m7 xs i=some v/\Q v H
def Jm (K:PySem.W.Frag):R2:=λx y H Q=>∃p xs i v,x=.ref p/\y=.int i/\sW K H p xs/\m7 xs i=some v/\Q v H
theorem cX:Ie X (Jn X.K):=by
 intro value slice pins s σ H x y v u Q I rx ry h hs;obtain⟨p,xs,i,z,rfl,rfl,hq,he,q⟩:=h;cases rx;obtain⟨t,rfl⟩:=ry;obtain⟨its,r,pl,hz⟩:=I.list hq;obtain⟨j,h1,h2,h3,h4,h5⟩:=wD he;obtain⟨w,ew,Nu⟩:=r.get h2;have hl:=r.length;have hn:=lP;have fin:EP X pins σ Q w s:=⟨z,H,I,Nu,q⟩
 by_cases h0:0<=i
 ·have hj:i.toNat=j:=by
   rw[seqIndex_of h0 h5]at h1;exact VQ h1
  exact item_listR pl.isList h0 (by lia) (by rw[hj];simpa using ew) fin hs
 ·have hj:(i+(its.toArray.size:Int)).toNat=j:=by
   rw[seqIndex_neg (by lia) h4]at h1
   rw[Vf,<- hl];exact VQ h1
  exact subscriptTail_builtinR (x:=w) pl.isList.typeIs YG.lookup
   (wpAny_getItem_list_neg (Q:=λr s'=>r=w/\EP X pins σ Q r s') pl.isList (by lia) (by rw[Vf] <;> lia) (by lia) (by rw[hj];simpa using ew) ⟨rfl,fin⟩) hs
theorem As:Ie X (Jm X.K):=by
 intro value slice pins s σ H x y v u Q I rx ry h hs;obtain⟨p,xs,i,z,rfl,rfl,hq,he,q⟩:=h;cases rx;obtain⟨t,rfl⟩:=ry;obtain⟨its,r,pl,hz⟩:=I.tuple hq;obtain⟨j,h1,h2,h3,h4,h5⟩:=wD he;obtain⟨w,ew,Nu⟩:=r.get h2;have hl:=r.length;have hn:=lP;have fin:EP X pins σ Q w s:=⟨z,H,I,Nu,q⟩;exact subscriptTail_builtinR (x:=w) pl.typeIs slot_tuple_getitem.lookup
  (getItem_tuple (j:=j) (Q:=λr s'=>r=w/\EP X pins σ Q r s') pl (by lia) (by lia) (by rw[Vf,<- hl];exact h1) (by simpa using ew) ⟨rfl,fin⟩) hs
theorem ug (its:List UR)(n j:Nat)(u:UR):W6 (·.setIfInBounds j u) {cls:=.type "list",data:=.seq its.toArray n}={cls:=.type "list",data:=.seq (its.set j u).toArray n}:=by
 simp[W6]
theorem Inv.lst {pins:List (Addr×Obj)}{σ:St}{H:Hp}{s:UT}{p:Addr}{xs:List V}(I:Inv X pins σ H s)(h:H p=some (.lst xs)):
  ∃(its:List UR) (n:Nat),Vals xs its/\s.heap.get? p=some {cls:=.type "list",data:=.seq its.toArray n}/\xs.length<=U4:=by
 obtain⟨z,its,n,r,e⟩:=I.bM p _ h;exact⟨its,n,r,e,z⟩
theorem Inv.GC {pins:List (Addr×Obj)}{σ:St}{H:Hp}{s:UT}{p:Addr}{xs ys:List V}{its its':List UR}{n n':Nat}{f:Obj->Obj}(I:Inv X pins σ H s)(h:H p=some (.lst xs))
  (ho:s.heap.get? p=some {cls:=.type "list",data:=.seq its.toArray n}) (hf:f {cls:=.type "list",data:=.seq its.toArray n}={cls:=.type "list",data:=.seq its'.toArray n'}) (r:Vals ys its') (hz:ys.length<=U4) (t:Nat) :
  Inv X pins σ (upd H p (.lst ys)) {s with heap:=s.heap.update p f,toks:=t}:=by
 have e:(s.heap.update p f).get? p=some {cls:=.type "list",data:=.seq its'.toArray n'}:=by
  rw[Heap.get?_update_self f ho (by rw[hf] <;> rfl),hf]
 refine I.write (x:=p) (e:=p) (by rw[h];trivial) (.inl rfl) (λb u hb q=>(Heap.get?_update_other _ _ (Xa hb)).trans q) ⟨_,e⟩ ?_
 exact⟨hz,its',n',r,e⟩
def Jl:V->V->V->Hp->(Hp->Prop)->Prop:=λo i v H Q=>∃p xs k j,o=.ref p/\i=.int k/\H p=some (.lst xs)/\xK xs.length k=some j/\Q (upd H p (.lst (xs.set j v)))
theorem set_list:L_ X Jl:=by
 intro pins s σ H o i v ov iv u Q I ro ri rv h;obtain⟨p,xs,k,j,rfl,rfl,hp,hj,q⟩:=h;cases ro;obtain⟨t,rfl⟩:=ri;obtain⟨its,n,r,ho,hz⟩:=I.lst hp;obtain⟨h1,h2,h3,h4⟩:=vV hj;have hl:=r.length;have hn:=lP;have I':Inv X pins σ (upd H p (.lst (xs.set j v))) {s with heap:=s.heap.update p (W6 (·.setIfInBounds j u))} :=
  I.GC hp ho (ug its n j u) (r.set rv j) (by rw[List.length_set];exact hz) s.toks
 by_cases h0:0<=k
 ·have hk:k.toNat=j:=by
   rw[seqIndex_of h0 h4]at h1;exact VQ h1
  exact PySem.W.ki_setAt ho h0 (by lia) (by rw[Vf,<- hl];exact h4) (by rw[hk];exact⟨_,I',q⟩)
 ·have hk:(k+(its.toArray.size:Int)).toNat=j:=by
   rw[seqIndex_neg (by lia) h3]at h1
   rw[Vf,<- hl];exact VQ h1
  exact PySem.W.ki_setBack ho (by lia) (by rw[Vf,<- hl];exact h3) (by lia) (by rw[hk];exact⟨_,I',q⟩)
theorem o4 (lo hi:Option Int)(n:Nat):(WM lo hi none n).1=((HT.lA n 0 lo:Nat):Int)/\(WM lo hi none n).2.1=((HT.lA n n hi:Nat):Int)/\(WM lo hi none n).2.2=1:=by
 refine⟨?_,?_,rfl⟩
 ·cases lo with
  |none=>simp[WM,HT.lA]
  |some i =>
   simp only[WM,HT.lA,Option.getD_none,show (1:Int)>0 by decide,if_true]
   by_cases h:i<0
   ·simp only[h,if_true] <;> lia
   ·simp only[h,if_false] <;> lia
 ·cases hi with
  |none=>simp[WM,HT.lA]
  |some i =>
   simp only[WM,HT.lA,Option.getD_none,show (1:Int)>0 by decide,if_true]
   by_cases h:i<0
   ·simp only[h,if_true] <;> lia
   ·simp only[h,if_false] <;> lia
theorem mO (its:List UR)(lo hi:Option Int):slicePick its.toArray lo hi none=((its.drop (HT.lA its.length 0 lo)).take (HT.lA its.length its.length hi-HT.lA its.length 0 lo)).toArray:=by
 obtain⟨h1,h2,h3⟩:=o4 lo hi its.toArray.size;unfold slicePick;rw[h1,h2,h3];simp only[sliceRange_one,pick_run,Vf] <;> rfl
def Nw (K:PySem.W.Frag):V->Option Int->Option Int->Hp->VK->Prop:=λx lo hi H Q=>∃a xs,x=.ref a/\da K H a xs/\∀p,H p=none->Q (.ref p) (upd H p (.lst (sL xs lo hi)))
theorem vj:P1 X (Nw X.K):=by
 intro pins s σ H x v vl vu lo hi sl Q I rx hs pl pu h;obtain⟨a,xs,rfl,hx,q⟩:=h;cases rx;obtain⟨its,r,ht,hz⟩:=I.list hx;have hlen:=r.length;refine⟨"list",_,YG.lookup,ht.isList.typeIs,?_⟩;refine wpAny_getItem_list_slice ht.isList hs pl pu .none (by simp) ?_ (by rw[Vf] <;> lia)
 rw[mO,<- hlen];refine⟨.ref s.heap.objs.size,_,I.laid (t':=s.toks) (o:=.lst (sL xs lo hi)) (λb ob q=>Vc _ q) (UU _) ?_,rfl,q _ (I.bM.fresh (UU _))⟩;exact⟨Vm (sJ xs lo hi) hz,_,0,(r.drop (HT.lA xs.length 0 lo)).take (HT.lA xs.length xs.length hi-HT.lA xs.length 0 lo),VO _ rfl⟩
theorem fV:gg X (.builtin "len") (λxs H Q=>∃p ys,xs=[.ref p]/\(da X.K H p ys\/sW X.K H p ys)/\Q (.int ys.length) H):=by
 intro pins s σ H xs us Q I r h;obtain⟨p,ys,rfl,hq,q⟩:=h;obtain⟨u,rfl,rx⟩:=vals1 r;cases rx;have hn:=lP;rcases hq with hq|hq
 ·obtain⟨its,r',pl,hz⟩:=I.list hq;have hlen:=r'.length;exact Calls.call_len_list pl.isList (by simp only[Vf] <;> lia) ⟨.int ys.length,H,I.tok _,⟨s.toks+1,by rw[Vf,hlen]⟩,q⟩
 ·obtain⟨its,r',pl,hz⟩:=I.tuple hq;have hlen:=r'.length;exact len_tuple pl (by simp only[Vf] <;> lia) ⟨.int ys.length,H,I.tok _,⟨s.toks+1,by rw[Vf,hlen]⟩,q⟩
theorem js:gg X (.type "list") (λxs H Q=>∃p ys,xs=[.ref p]/\(da X.K H p ys\/sW X.K H p ys)/\∀l,H l=none->Q (.ref l) (upd H l (.lst ys))):=by
 intro pins s σ H xs us Q I r h;obtain⟨p,ys,rfl,hq,q⟩:=h;obtain⟨u,rfl,rx⟩:=vals1 r;cases rx;have fin:∀(its:List UR),Vals ys its->ys.length<=U4->∀(h':Heap) (c':Nat),(∀b o',s.heap.get? b=some o'->h'.get? b=some o') ->
   h'.get? s.heap.objs.size=some {cls:=.type "list",dict:=none,data:=.seq its.toArray c',slots:=#[]}->EP X pins σ Q (.ref s.heap.objs.size) {s with heap:=h'}:=λits r' hz h' c' kp e =>
  ⟨.ref s.heap.objs.size,_,I.laid (t':=s.toks) kp (UU _) (show bh X.prog X.w _ h' _ (.lst ys) from ⟨hz,its,c',r',e⟩),rfl,q _ (I.bM.fresh (UU _))⟩
 rcases hq with hq|hq
 ·obtain⟨its,r',pl,hz⟩:=I.list hq;have hlen:=r'.length;obtain⟨o,ho,hc,n,hd⟩:=pl.isList;exact call_list_seq p (.inl rfl) ho hc hd (λh' c' kp e=>fin its r' hz h' c' kp e) (by simp only[Vf] <;> lia)
 ·obtain⟨its,r',pl,hz⟩:=I.tuple hq;have hlen:=r'.length;obtain⟨o,ho,hc,n,hd⟩:=pl;exact call_list_seq p (.inr rfl) ho hc hd (λh' c' kp e=>fin its r' hz h' c' kp e) (by simp only[Vf] <;> lia)
def Mm (K:PySem.W.Frag)(T:String)(x:V)(H:Hp):Prop:=match x with
 |.str _=>T="str"
 |.int _=>T="int"
 |.ref p=>(T="list" /\ ∃xs,da K H p xs)\/(T="tuple" /\ ∃o,K.lookup p=some o/\o.cls=.type "tuple" /\ o.dict=none) \/
   (T="dict" /\ ((∃a7,H p=some (.dK a7))\/∃a7,H p=some (.dT a7)))\/(T="set" /\ ∃S n,H p=some (.set S n))
 |_=>False
theorem yQ {pins:List (Addr×Obj)}{σ:St}{H:Hp}{s:UT}{T:String}{x:V}{v:UR}(I:Inv X pins σ H s)(r:RelV x v)(ty:Mm X.K T x H):
  s.TypeIs v T/\∀a,v=.ref a->∃ob,s.heap.get? a=some ob/\ob.dict=none:=by
 cases x with
 |str z =>
  obtain⟨t,rfl⟩:=r;cases (show T="str" from ty)
  exact⟨typeIs_str s z t,λ_ e=>nomatch e⟩
 |int i =>
  obtain⟨t,rfl⟩:=r;cases (show T="int" from ty)
  exact⟨typeIs_int s i t,λ_ e=>nomatch e⟩
 |ref p =>
  cases r;rcases ty with⟨rfl,xs,hq⟩|⟨rfl,o,hk,hc,hd⟩|⟨rfl,hk⟩|⟨rfl,S,n,hk⟩
  ·obtain⟨its,_,pl,_⟩:=I.list hq;refine⟨pl.isList.typeIs,λa e=>?_⟩;cases e;obtain⟨o,n,e,c,hd,_⟩:=pl;exact⟨o,e,hd⟩
  ·refine⟨⟨o,I.jP p o hk,hc⟩,λa e=>?_⟩;cases e;exact⟨o,I.jP _ o hk,hd⟩
  ·have z:∃o,s.heap.get? p=some o/\o.ExactDict:=by
    rcases hk with⟨a7,hk⟩|⟨a7,hk⟩
    ·obtain⟨_,_,_,_,o,_,_,e,ex,_⟩:=I.bM p _ hk;exact⟨o,e,ex⟩
    ·obtain⟨_,_,_,_,o,_,_,e,ex,_⟩:=I.bM p _ hk;exact⟨o,e,ex⟩
   obtain⟨o,e,ex⟩:=z;refine⟨⟨o,e,ex.1⟩,λa e2=>?_⟩;cases e2;exact⟨o,e,ex.2.1⟩
  ·obtain⟨o,_,_,_,e,ex,_⟩:=I.bM p _ hk;refine⟨⟨o,e,ex.1⟩,λa e2=>?_⟩;cases e2;exact⟨o,e,ex.2.1⟩
 |_=>exact W8 ty
def Ni (K:PySem.W.Frag)(T:String)(r:V->List V->Hp->VK->Prop)(to:TE):TE:=λσ H Q=>to σ H λx H1=>Mm K T x H1/\r x [] H1 Q
def RC (K:PySem.W.Frag)(T:String)(r:V->List V->Hp->VK->Prop)(to:TE)(t:TA):TE:=λσ H Q=>to σ H λx H1=>Mm K T x H1/\t σ H1 λxs H2=>r x xs H2 Q
variable {o e:Expr}{es:List Expr}{to:TE}{t:TA}{name:Str}{apos cpos:Pos}{T id:String}{r:V->List V->Hp->VK->Prop}
theorem F5 (pa:PlainAttrs T) (slot:Slot T name id) (Og:typeOf (.builtin id)=pure (.type "method_descriptor")) (hm:Rl X id r) (ho:PE X o to)
  (fg:Xg o name X.env (eval o X.env)=eval o X.env:=by rfl) (ff:(apos.endLine==cpos.line)=true:=by rfl):PE X (.Call (.Attribute o name apos) [] [] cpos) (Ni X.K T r to):=by
 intro pins s σ H Q I h;refine wpAny_Call_method0_late fg ff (bA (ho pins s σ H _ I h) λv s1 ⟨x,H1,I1,r1,ty,q1⟩=>?_);obtain⟨h1,h2⟩:=yQ I1 r1 ty;exact⟨T,id,pa,slot,Og,h1,h2,Calls.callWith_builtin rfl (PySem.evalArgs_none (hm pins s1 σ H1 x [] v [] Q I1 r1 .nil q1))⟩
theorem vB (pa:PlainAttrs T) (slot:Slot T name id) (Og:typeOf (.builtin id)=pure (.type "method_descriptor")) (hm:Rl X id r) (ho:PE X o to) (ha:PA X (e::es) t)
  (fg:Xg o name X.env (eval o X.env)=eval o X.env:=by rfl)
  (pT:((WG cpos (U5 (e::es) X.env)).all (λx=>!x.1)&&(Y9 cpos (Yq [] X.env)).all (λx=>x.1.isSome)
   && decide ((e::es).length+([]:List XZ).length+(if ([]:List XZ).isEmpty then 0 else 1)<30))=true:=by rfl)
  (ff:(apos.endLine==cpos.line)=true:=by rfl) (hs:U5 (e::es) X.env=(false,eval e X.env)::U5 es X.env:=by rfl) (fO:(WG cpos (U5 es X.env)).any (·.1)=false:=by rfl) :
  PE X (.Call (.Attribute o name apos) (e::es) [] cpos) (RC X.K T r to t):=by
 intro pins s σ H Q I h;refine wpAny_Call_method_late fg pT ff rfl (bA (ho pins s σ H _ I h) λv s1 ⟨x,H1,I1,r1,ty,q1⟩=>?_);obtain⟨h1,h2⟩:=yQ I1 r1 ty;refine⟨T,id,pa,slot,Og,h1,h2,?_⟩;have hA:=ha cpos pins s1 σ H1 _ I1 q1;rw[hs]at hA ⊢
 refine Calls.callWith_builtin (by show (false || (WG cpos (U5 es X.env)).any (·.1))=false;rw[fO] <;> rfl) (Calls.evalArgs_plain ?_)
 exact bA hA λus s2 ⟨vs,H2,I2,r2,q2⟩=>hm pins s2 σ H2 x vs v us Q I2 r1 r2 q2
end
def P5 (X:Cx)(id:String)(r:V->List V->Hp->VK->Prop):Prop :=
 ∀(pins:List (Addr×Obj)) (s:UT) (σ:St) (H:Hp) (x:V) (xs:List V) (v:UR) (us:List UR) (Q:VK),Inv X pins σ H s->RelV x v->Vals xs us->r x xs H Q ->
  Vu (model X.prog X.w) X.A (call (.builtin id) (v::us)) (EP X pins σ Q) X.xe s
theorem Vals.one:∀{x:V} {us:List UR},Vals [x] us->∃u,us=[u]/\RelV x u
 |_,_,.cons r .nil=>⟨_,rfl,r⟩
theorem Vals.zero:∀{us:List UR},Vals [] us->us=[]
 |_,.nil=>rfl
theorem Vals.dropLast {xs:List V}{us:List UR}(h:Vals xs us):Vals xs.dropLast us.dropLast:=by
 induction h with
 |nil=>exact .nil
 |cons r t ih =>
  cases t with
  |nil=>exact .nil
  |cons q t'=>exact .cons r ih
theorem Vals.rep {xs:List V}{us:List UR}(h:Vals xs us):∀k:Nat,Vals (Vo k xs).flatten (Vo k us).flatten
 |0=>.nil
 |k+1=>by
  rw[Wm,Wm,WY,WY];exact Vals.append h (Vals.rep h k)
theorem uJ {α:Type}(l:List α):l.eraseIdx (l.length-1)=l.dropLast:=by
 induction l with
 |nil=>rfl
 |cons a r ih =>
  cases r with
  |nil=>rfl
  |cons b r =>
   have e:(a::b::r).length-1=((b::r).length-1)+1:=by
    have h1:(a::b::r).length=r.length+2:=rfl;have h2:(b::r).length=r.length+1:=rfl;lia
   rw[e,List.eraseIdx_cons_succ,ih]
   all_goals rfl
theorem foldl_rep (its:List UR):∀(k:Nat) (acc:List UR),
  List.foldl (λx1 x2=>x1++x2) acc.toArray (Vo k its.toArray)=(acc++(Vo k its).flatten).toArray
 |0,acc=>by simp
 |k+1,acc=>by
  have e:acc.toArray++its.toArray=(acc++its).toArray:=by simp
  have e2:(acc++its)++(Vo k its).flatten=acc++(Vo (k+1) its).flatten:=by
   rw[Wm,WY,VW]
  rw[<- e2,<- foldl_rep its k (acc++its),<- e,Wm,XI]
section
variable {X:Cx}{pins:List (Addr×Obj)}{σ:St}{H:Hp}{s:UT}{l:Addr}{xs ys:List V}
theorem Inv.GI {its its':List UR}{n:Nat}{f:Array UR->Array UR}{t':Nat}(I:Inv X pins σ H s)(hH:H l=some (.lst xs))
  (e:s.heap.get? l=some {cls:=.type "list",data:=.seq its.toArray n}) (hf:f its.toArray=its'.toArray) (hv:Vals ys its') (hz:ys.length<=U4) :
  Inv X pins σ (upd H l (.lst ys)) {s with heap:=s.heap.update l (W6 f),toks:=t'}:=by
 have q:=PySem.IsL.update e f;rw[hf]at q;refine I.write (x:=l) (e:=l) (by rw[hH];exact trivial) (.inl rfl) (λb' u hb hu=>(Heap.get?_update_other s.heap (W6 f) (Xa hb)).trans hu) ⟨_,q⟩ ?_
 exact⟨hz,its',_,hv,q⟩
theorem Inv.GK {its:List UR}{t':Nat}(I:Inv X pins σ H s)(hv:Vals ys its)(hz:ys.length<=U4):
  Inv X pins σ (upd H s.heap.objs.size (.lst ys)) {s with heap:=s.heap.push {cls:=.type "list",data:=.seq its.toArray},toks:=t'} :=
 I.laid (λ_ _ q=>Vc _ q) (UU _) ⟨hz,its,0,hv,VO _ rfl⟩
theorem Inv.fresh (I:Inv X pins σ H s):H s.heap.objs.size=none:=I.bM.fresh (UU _)
theorem Inv.ui (I:Inv X pins σ H s)(hH:H l=some (.lst xs)):xs.length<=U4/\∃(its:List UR) (n:Nat),Vals xs its/\xs.length=its.length/\s.heap.get? l=some {cls:=.type "list",data:=.seq its.toArray n}:=by
 obtain⟨z,its,n,r,e⟩:=I.bM l _ hH;exact⟨z,its,n,r,r.length,e⟩
theorem rl {n:Nat}(h:n<=U4):Xk n=false:=by
 unfold Xk;exact decide_eq_false (by lia)
end
section
variable {X:Cx}
def vp:V->List V->Hp->VK->Prop:=λx vs H Q=>∃l xs y,x=.ref l/\vs=[y]/\H l=some (.lst xs)/\xs.length<U4/\Q .bH (upd H l (.lst (xs++[y])))
theorem gX:P5 X "list.append" vp:=by
 intro pins s σ H x vs v us Q I rx rv h;obtain⟨l,xs,y,rfl,rfl,hH,hz,q⟩:=h;cases rx;obtain⟨u,rfl,ru⟩:=rv.one;obtain⟨z,its,n,r,hl,e⟩:=I.ui hH;refine YA F.slot_list_append ⟨_,e,rfl⟩ F.entry_list_append (F.args_list_append_2 _ _) (PySem.list_append l its.toArray n u (by rw[Vf];lia)) ⟨e,?_⟩
 refine⟨.bH,_,I.GI (its':=its++[u]) hH e (by simp) (r.append (.cons ru .nil)) ?_,rfl,q⟩
 rw[Vr,WT];lia
def Cb:V->List V->Hp->VK->Prop:=λx vs H Q=>∃l b xs zs,x=.ref l/\vs=[.ref b]/\H l=some (.lst xs)/\H b=some (.lst zs)/\xs.length+zs.length<=U4/\Q .bH (upd H l (.lst (xs++zs)))
theorem xA:P5 X "list.extend" Cb:=by
 intro pins s σ H x vs v us Q I rx rv h;obtain⟨l,b,xs,zs,rfl,rfl,hH,hB,hz,q⟩:=h;cases rx;obtain⟨u,rfl,ru⟩:=rv.one;cases ru;obtain⟨z,its,n,r,hl,e⟩:=I.ui hH;obtain⟨z2,rQ,n2,r2,QU,e2⟩:=I.ui hB;have hsz:its.toArray.size+rQ.toArray.size<=U4:=by rw[Vf,Vf];lia
 have AM:¬ (!its.toArray.isEmpty&&Xk (its.toArray.size+rQ.toArray.size))=true:=by
  rw[rl hsz,Xv];exact VY
 refine YA F.slot_list_extend ⟨_,e,rfl⟩ F.entry_list_extend (F.args_list_extend_2 _ _)
  (AutoSeq1.list_extend_list_list_0 l its.toArray n b rQ.toArray n2 AM (by rw[Vf];lia) (by lia)) ⟨e,e2,?_⟩
 refine⟨.bH,_,I.GI (its':=its++rQ) hH e (by simp) (r.append r2) ?_,rfl,q⟩
 rw[Vr];lia
def NA:V->List V->Hp->VK->Prop:=λx vs H Q=>∃l xs y,x=.ref l/\vs=[]/\H l=some (.lst xs)/\xs[xs.length-1]?=some y/\Q y (upd H l (.lst xs.dropLast))
theorem GA:P5 X "list.pop" NA:=by
 intro pins s σ H x vs v us Q I rx rv h;obtain⟨l,xs,y,rfl,rfl,hH,hy,q⟩:=h;cases rx;have SA:=rv.zero;subst SA;obtain⟨z,its,n,r,hl,e⟩:=I.ui hH;obtain⟨u,hu,ru⟩:=r.get hy;have Sv:its.toArray[its.toArray.size-1]?=some u:=by
  show its.toArray[its.length-1]?=some u;rw[<- Vl,<- hl];exact hu
 refine YA F.slot_list_pop ⟨_,e,rfl⟩ F.entry_list_pop (F.args_list_pop_1 _) (MeetsSeq.list_pop_last l its.toArray n u Sv (by rw[Vf];lia)) ⟨e,?_⟩
 refine⟨y,_,I.GI (its':=its.dropLast) hH e ?_ r.dropLast ?_,ru,q⟩
 ·show its.toArray.eraseIdxIfInBounds (its.toArray.size-1)=its.dropLast.toArray;rw[Vf,List.eraseIdxIfInBounds_toArray,uJ]
 ·rw[List.length_dropLast];lia
def NG:R2:=λx y H Q=>∃l b xs zs,x=.ref l/\y=.ref b/\H l=some (.lst xs)/\H b=some (.lst zs)/\xs.length+zs.length<=U4/\∀p,H p=none->Q (.ref p) (upd H p (.lst (xs++zs)))
theorem zV:hX X (WI .Add) NG:=by
 intro pins s σ H x y v u Q I rx ry h;obtain⟨l,b,xs,zs,rfl,rfl,hH,hB,hz,q⟩:=h;cases rx;cases ry;obtain⟨z,its,n,r,hl,e⟩:=I.ui hH;obtain⟨z2,rQ,n2,r2,QU,e2⟩:=I.ui hB;refine PySem.P.add_list e e2 ?_ (by rw[Vf,Vf];lia)
 have ea:its.toArray++rQ.toArray=(its++rQ).toArray:=by simp
 rw[ea];exact⟨.ref _,_,I.GK (t':=s.toks) (r.append r2) (by rw[Vr];lia),rfl,q _ I.fresh⟩
def Nz:R2:=λx y H Q=>∃l k xs,x=.ref l/\y=.int k/\H l=some (.lst xs)/\-(2 ^ 63)<=k/\k<2 ^ 63/\xs.length*k.toNat<=U4 /\
 ∀p,H p=none->Q (.ref p) (upd H p (.lst (Vo k.toNat xs).flatten))
theorem len_rep {α:Type}(xs:List α)(k:Nat):(Vo k xs).flatten.length=k*xs.length:=by
 induction k with
 |zero=>simp
 |succ k ih=>rw[Wm,WY,Vr,ih,Nat.succ_mul,Nat.add_comm]
theorem Gb:hX X (WI .Mult) Nz:=by
 intro pins s σ H x y v u Q I rx ry h;obtain⟨l,k,xs,rfl,rfl,hH,h1,h2,hz,q⟩:=h;cases rx;obtain⟨t,rfl⟩:=ry;obtain⟨z,its,n,r,hl,e⟩:=I.ui hH;have hlen:its.toArray.size*k.toNat<=U4:=by rw[Vf,<- hl];exact hz
 have Pk:¬ its.toArray.size*k.toNat>(2 ^ 63-1) / 8:=by
  have:(U4:Nat)<=(2 ^ 63-1) / 8:=by decide
  lia
 have Pe:¬ (!Builtin.List.listFitsIndex k)=true:=by
  rw[fitsIndex_both h1 h2];exact VY
 have AM:¬ Xk (its.toArray.size*k.toNat)=true:=by
  rw[rl hlen];exact VY
 have OJ:List.foldl (λx1 x2=>x1++x2) #[] (Vo (if its.toArray.isEmpty=true then 0 else k.toNat) its.toArray)=(Vo k.toNat its).flatten.toArray:=by
  have f0:∀m:Nat,List.foldl (λx1 x2=>x1++x2) #[] (Vo m its.toArray)=(Vo m its).flatten.toArray:=λm=>by
   have:=foldl_rep its m [];rw[List.nil_append]at this;exact this
  rw[f0];cases its with
  |nil=>simp
  |cons a r'=>rw[if_neg (by simp)]
 refine wpAny_binaryOp_repeat_ref (T:="list") (U:="int") (by decide) ⟨_,e,rfl⟩ (λs'=>typeIs_int s' k t) noFill_list_mul F.fills_int_mul F.slot_int_rmul repeat_list F.slot_int_index.lookup
  (YA F.slot_int_rmul (typeIs_int s k t) F.entry_int_rmul (F.args_int_rmul_2 _ _) (int___rmul___int_list k t l its.toArray n)
   ⟨e,rfl,⟨_,e,rfl⟩,YA F.slot_list_mul ⟨_,e,rfl⟩ F.entry_list_mul (F.args_list_mul_2 _ _) (AutoListH.list___mul___list_int_3 l its.toArray n k t Pe Pk AM) ⟨e,?_⟩⟩)
 rw[OJ];exact⟨.ref _,_,I.GK (t':=s.toks) (r.rep k.toNat) (by rw[len_rep,Nat.mul_comm];exact hz),rfl,q _ I.fresh⟩
end
section
end
section
end
end L2
namespace Rr
open PySem PySem.W PySem.Calls PyProof.Rows
theorem kr {P:YB}{h:Heap}:∀(ns:List Int) (vs:List UR),WellAll P h vs (ns.map WData.int)->We vs ns:=by
 intro ns
 induction ns with
 |nil =>
  intro vs w;rw[YK]at w;cases w;exact .nil
 |cons n ns ih =>
  intro vs w;rw[Vs]at w;cases w with
  |cons a b =>
   cases a;exact .cons _ _ (ih _ b)
theorem w5 {l:OpenLaw}{n:Nat}(hn:l.most=some n){P:YB}{h:Heap}{args:List WData}{vals:List UR}
  (Di:l.row.toRowW.claim.pre args=true) (Oe:WellAll P h vals args) :
  ∃a vs ns,vals=[Value.ref a]/\args=[WData.list (ns.map WData.int)]/\h.get? a=some {cls:=.type "list",data:=.seq vs.toArray}/\We vs ns/\ns.length<=n:=by
 have SG:WShape.hasAll [] args [.list .int]=true:=(pre_splitW Di).1;have hc:l.pre.holds [] {args:=args}=true:=(pre_splitW Di).2;obtain⟨d,r,rfl,h1,h2⟩:=hasAllW_cons SG;obtain rfl:=hasAllW_nil h2;obtain⟨xs,rfl,h3⟩:=hasW_list h1;obtain⟨ns,rfl⟩:=items_int h3;have hlen:ns.length<=n:=by
  unfold OpenLaw.pre at hc;have h4:(WTm.not (.lt (.lit (.int (n:Int))) (.len (.arg 0)))).holds [] {args:=[.list (ns.map .int)]}=true:=by
   have h4:=(holds_andW hc).1;rw[hn]at h4;exact h4
  have h5:=condW_of h4 (w_not (w_lt w_lit (w_len_list (w_arg rfl))));rw[US]at h5;refine Nat.le_of_not_lt λq=>?_;have q':(n:Int)<((ns.length:Nat):Int):=by lia
  first
   | (rw[decide_eq_true q']at h5;exact absurd h5 (by decide))
   | (simp at h5;lia)
 cases Oe with
 |cons w1 w2 =>
  cases w2;cases w1 with
  |list ho Pl=>exact⟨_,_,ns,rfl,rfl,ho,kr ns _ Pl,hlen⟩
theorem xl (l:OpenLaw)(args:List WData):l.row.toRowW.claim.post args (.bool true) args=true :=
 postW_of (r:=l.row.toRowW) (X:=(true==true))
  (show WShape.has [] (.bool true) .bool=true by first|rfl|decide|simp[WShape.has,WShape.arms,WShape.armsAll])
  (show (WTm.eq .res (.lit (.bool true))).value [] {args:=args,res:=some (.bool true),after:=args}=some (.bool (true==true)) from w_eq_bool (w_res rfl) w_lit) rfl
theorem sN {l:OpenLaw}{n:Nat}{q:UX}{loose:List Str}{XP:(Str->Option UR)->Heap->Prop}{YP:Vb->Heap->Prop}{d:DefRec}
  (hn:l.most=some n) (Pf:d.params.defaults=[])
  (call:∀(w:Vb) (s₀ s₁:UT) (mg mb:Str->Option UR) (fa:Addr) (o:Obj) (pm cd doc:UR) (a:Addr) (vs:List UR) (ns:List Int),
   Ground q loose [] XP w s₀ mg mb s₁.heap->YP w s₁.heap ->
   s₁.heap.get? fa=some o->o.data=.func (docDef d.name d.params d.body d.scope pm cd doc)->s₁.heap.CodeRec cd d.name->mg d.name=some (.ref fa) ->
   s₁.heap.get? a=some {cls:=.type "list",data:=.seq vs.toArray}->We vs ns->ns.length<=n->s₁.gens=#[] ->
   Yw (model l.prog w) YH (.call (.ref fa) ⟨[.ref a],[]⟩) (λr s'=>r=.ok (.ret (.bool true))/\OldK s₁.heap s'.heap/\s'.os=s₁.os/\Yi s'.gens) s₁) :
  WalkO q loose XP YP l.row.toRowW d [] (λf vs=>PySem.call f vs):=by
 intro w s₀ s₁ mg mb G Y fa o pm cd doc dV kV ho hd gm hD OQ hg args vals as Di S5 Uy Oe OW;obtain rfl:dV=.none:=Dflts.none hD Pf;obtain rfl:kV=.none:=Dflts.noKw hD;obtain⟨a,vs,ns,rfl,rfl,Hq,hints,hlen⟩:=w5 hn Di Oe;refine enter_call (Ye (call w s₀ s₁ mg mb fa o pm cd doc a vs ns G Y ho (fd_plain hd) gm OQ Hq hints hlen hg) λr s' hq=>?_);obtain⟨rfl,h2,h3,h4⟩:=hq;exact⟨.inl ⟨.bool true,.bool true,[],rfl,λ_=>rfl,.bool true,xl l _,λ_=>⟨YM,λ_ hm=>(nomatch hm)⟩⟩,h2,h3,h4⟩
section
end
end Rr
namespace L2
open PySem PySem.Spec PyProof.Rows
theorem nc:∀{vs:List UR} {ns:List Int},We vs ns->Vals (ns.map V.int) vs
 |_,_,.nil=>.nil
 |_,_,.cons n t h=>.cons ⟨t,rfl⟩ (nc h)
def Ib (H:Hp):Prop:=∀b,H b=none\/∃o xs,H b=some (.tu o (.lst xs))
theorem Am {P:UX}{w:Vb}{K:PySem.W.Frag}{mg mb:Str->Option UR}{CX:BD}{k:Nat}{fa a:Addr}{fd:Vz}{x:Str}{sp:Sp}{s₁:UT}{vs:List UR}{ns:List Int}
  (KX:K.In s₁.heap) (MK:s₁.heap.Ns Wv mg) (hb:s₁.heap.Ns builtinsNs mb) (Ti:∀x:Str,x≠"__name__" -> mb x=VI x) (OX:s₁.heap.NoLimit) (hg:s₁.gens=#[])
  (ha:s₁.heap.get? a=some {cls:=.type "list",data:=.seq vs.toArray}) (hi:We vs ns) (hl:ns.length<=U4) (hr:cT k YH)
  (F:∀base:Heap,K.In base->base.Ns Wv mg->aD P w K mg base CX k fa fd [x] sp) (LA:∀(s:UT) (u:UR),BindsTo s fd ⟨[u],[]⟩ [(x,u)])
  (ku:∀H:Hp,Ib H->da K H a (ns.map V.int)->sp [.ref a] H (λv _=>v=.bl true) λ_ _ _=>False)
  (Pn:∀H e s',CX [] H s₁ (λ_ _ _=>False) e s'->False) :
  Yw (model P w) YH (.call (.ref fa) ⟨[.ref a],[]⟩) (λr s'=>r=.ok (.ret (.bool true))/\OldK s₁.heap s'.heap/\s'.os=s₁.os/\Yi s'.gens) s₁:=by
 have rv:=nc hi;have N2:=hi.length;have core:∀H:Hp,Ib H->da K H a (ns.map V.int)->iF P w H s₁.heap->(∀b,H b≠none->b=a)->(H a≠none->K.lookup a=none) ->
   Yw (model P w) YH (.call (.ref fa) ⟨[.ref a],[]⟩) (λr s'=>r=.ok (.ret (.bool true))/\OldK s₁.heap s'.heap/\s'.os=s₁.os/\Yi s'.gens) s₁:=by
  intro H hO hS bM hA hK;have wC:∀{b:Addr} {o:Obj},s₁.heap.get? b=some o->H b=none->(pS s₁.heap H).get? b=some o:=λe n=>AO e n;have JI:∀{b:Addr} {o:Obj} {es:Array XC} {ep:Nat},s₁.heap.get? b=some o->o.data=.dict es ep->H b=none:=λ{b o es ep} e d=>by
   cases q:H b with
   |none=>rfl
   |some u =>
    have e':b=a:=hA b (by rw[q];simp)
    subst e';rw[ha]at e;cases e;have d':Data.seq vs.toArray _=Data.dict es ep:=d;cases d'
  have My:∀{b:Addr} {m:Str->Option UR},s₁.heap.Ns b m->(pS s₁.heap H).Ns b m:=λ{b m} ⟨o,es,ep,e,d,r⟩=>⟨o,es,ep,wC e (JI e d),d,r⟩;have Q6:K.In (pS s₁.heap H):=λb o e=>wC (KX b o e) (by
   cases q:H b with
   |none=>rfl
   |some u =>
    have e':b=a:=hA b (by rw[q];simp)
    subst e';rw[hK (by rw[q];simp)]at e;cases e)
  have hM:Mod K mg (pS s₁.heap H):=⟨Q6,My MK,⟨mb,My hb,Ti⟩,let ⟨mc,h1,h2⟩:=OX;⟨mc,My h1,h2⟩⟩
  have e0:DW P w K mg (pS s₁.heap H) YH [] s₁ H:=⟨rfl,hM,λb o e=>CQ e,Nat.le_of_eq (xT _ _),trivial,λb hb=>absurd (show b∈([]:List Addr) from hb) (by simp),bM,.of_eq hg⟩
  refine Ye ((F _ Q6 (My MK)).run YH [] s₁ H ⟨[.ref a],[]⟩ [.ref a] [.ref a] _ _ hr e0 (LA s₁ (.ref a)) (.cons rfl .nil) (ku H hO hS)) λr s' h=>?_;cases r with
  |error e=>exact(Pn H e s' h).elim
  |ok fl =>
   cases fl with
   |next=>exact W8 h
   |brk=>exact W8 h
   |cont=>exact W8 h
   |ret u =>
    obtain⟨v,H',os,bare,un,OD,r',q⟩:=h;have q':v=.bl true:=q;subst q';obtain rfl:u=Value.bool true:=r';refine⟨rfl,OldK.of_keep λb o e=>?_,os,bare⟩;cases q:H b with
    |none=>exact un.keep b o e q (by intro z;exact absurd (show b∈([]:List Addr) from z) (by simp)) (by simp)
    |some u =>
     rcases hO b with z|⟨ob,xs,z⟩
     ·rw[q]at z;cases z
     ·have z2:=un.mY b ob _ z;obtain⟨e1,_⟩:=bM b _ z;obtain⟨e2,_⟩:=OD b _ z2;rw[e]at e1;cases e1;exact e2
 cases hk:K.lookup a with
 |some o =>
  have e:=KX a o hk;rw[ha]at e;cases e;refine core (λ_=>none) (λ_=>.inl rfl) (.inr ⟨_,vs.toArray,_,hk,rfl,rfl,rfl,by rw[Vf,N2];exact hl,by simpa using rv⟩) (λb u z=>by have z':(none:Option HO)=some u:=z;cases z') (λb z=>absurd rfl z) λz=>absurd rfl z
 |none =>
  refine core (λb=>if b=a then some (.tu {cls:=.type "list",data:=.seq vs.toArray} (.lst (ns.map V.int))) else none) (λb=>?_) (.inl (.inr ⟨{cls:=.type "list",data:=.seq vs.toArray},if_pos rfl⟩)) (λb u z=>?_) (λb z=>?_) λ_=>hk
  ·by_cases hb:b=a
   ·exact .inr ⟨_,_,if_pos hb⟩
   ·exact .inl (if_neg hb)
  ·by_cases hb:b=a
   ·have z':=(if_pos hb).symm.trans z;cases z';subst hb;exact⟨ha,by rw[US];exact hl,vs,_,rv,ha⟩
   ·have z':=(if_neg hb).symm.trans z;cases z'
  ·by_cases hb:b=a
   ·exact hb
   ·exact absurd (if_neg hb) z
theorem BP {l:PySem.W.OpenLaw}{n k:Nat}{q:UX}{loose:List Str}{XP:(Str->Option UR)->Heap->Prop}{YP:Vb->Heap->Prop}{d:DefRec}{K:YB->PySem.W.Frag}{CX:Vb->BD}{sp:Vb->Sp}{x:Str}
  (hn:l.most=some n) (ML:n<=U4) (Pf:d.params.defaults=[]) (hr:cT k YH)
  (hY:∀(w:Vb) (h:Heap),YP w h->(K w.params).In h)
  (F:∀(w:Vb) (mg:Str->Option UR) (fa:Addr) (h:Heap),(K w.params).In h->h.Ns Wv mg->mg d.name=some (.ref fa) ->
   ∃fd:Vz,(∀(s:UT) (u:UR),BindsTo s fd ⟨[u],[]⟩ [(x,u)]) /\
    ∀base:Heap,(K w.params).In base->base.Ns Wv mg->aD l.prog w (K w.params) mg base (CX w) k fa fd [x] (sp w))
  (ku:∀(w:Vb) (H:Hp) (a:Addr) (ns:List Int),ns.length<=n->Ib H->da (K w.params) H a (ns.map V.int)->sp w [.ref a] H (λv _=>v=.bl true) λ_ _ _=>False)
  (Pn:∀(w:Vb) (H:Hp) (s:UT) (e:UR) (s':UT),CX w [] H s (λ_ _ _=>False) e s'->False) :
  PySem.W.WalkO q loose XP YP l.row.toRowW d [] (λf vs=>PySem.call f vs):=by
 refine Rr.sN hn Pf λw s₀ s₁ mg mb fa o pm cd doc a vs ns G Y ho hd gm OQ Hq hints hlen hg=>?_;have KX:=hY w _ Y;obtain⟨fd,hb,hF⟩:=F w mg fa _ KX G.T.g OQ;exact Am KX G.T.g G.T.b G.T.builtins G.T.nolimit hg Hq hints (Vm hlen ML) hr hF hb (λH hO hS=>ku w H a ns hlen hO hS) λH e s'=>Pn w H s₁ e s'
abbrev bw:BD:=λ_ _ _ _ _ _=>False
abbrev E0:XK:=λ_ _ _=>False
theorem zO {X:Cx}:Passes bw X E0:=λ_ _ _ _ _ _ _ h=>h.elim
structure BK (K:PySem.W.Frag)(x qual:Str)(st:Stmt)(f:Addr)(fd:Vz):Prop where
 ex:∃(oc:UR) (od:Option Addr) (kV doc pm:UR) (an:Option Addr) (cC ct:UR) (F_:Array (Option UR)),
  fd=PySem.W.fnOf x qual (kT st) (eM st) (ak st) .none kV doc pm an cC ct/\K.lookup f=some ⟨oc,od,.func fd,F_⟩/\PySem.W.codeIn K cC qual=true
 kp:PySem.W.keepIn K (.ref f)=true
section
variable {P:UX}{w:Vb}{K:PySem.W.Frag}{mg:Str->Option UR}{base:Heap}
theorem BK.ok {x qual:Str}{st:Stmt}{f:Addr}{fd:Vz}{N ps:List Str}{k:Nat}{sp:Sp}(F:BK K x qual st f fd)(S:aC N ps (ak st))(len:∀vs H Q E,sp vs H Q E->vs.length=ps.length)
  (l3:∀(cC:UR) (A:VZ) (outer:List Env) (s:UT) (H:Hp) (vs:List V) (Q:VK) (E:XK),cT k (A.deeper (Yd qual (ak st) s.heap.objs.size f cC))->sp vs H Q E ->
   ∃t,qm (m6 bw P w K mg base N qual (ak st) f cC A outer s H E).En (eM st) t/\t {nx:=λ_ H'=>Q .bH H',rt:=Q} (start N vs) H):aD P w K mg base bw (k+1) f fd ps sp:=by
 obtain⟨oc,od,kV,doc,pm,an,cC,ct,F_,rfl,lk,gm⟩:=F.ex;refine LG lk gm S len λA outer s H vs Q E hr ku=>?_;obtain⟨t,h,q⟩:=l3 cC A outer s H vs Q E hr ku;exact⟨t,h.En,q⟩
theorem HE {x qual:Str}{st:Stmt}{f:Addr}{oc:UR}{od an:Option Addr}{F_:Array (Option UR)}{kV doc pm cC ct:UR}(l:K.lookup f=some ⟨oc,od,.func (PySem.W.fnOf x qual (kT st) (eM st) (ak st) .none kV doc pm an cC ct),F_⟩)
  (c:PySem.W.codeIn K cC qual=true) (k:PySem.W.keepIn K (.ref f)=true):BK K x qual st f (PySem.W.fnOf x qual (kT st) (eM st) (ak st) .none kV doc pm an cC ct):=⟨⟨oc,od,kV,doc,pm,an,cC,ct,F_,rfl,l,c⟩,k⟩
end
section
variable {X:Cx}
theorem pv (i:Nat){x:Str}{pos:Pos}(hN:X.N[i]?=some x:=by rfl)(hv:sR X.env.scope x:=by first|exact Or.inl rfl|exact Or.inr (Or.inl rfl)|exact Or.inr (Or.inr rfl))(hd:(x==("__debug__" : Str))=false:=by decide)
  (gm:(x==("__classdict__" : Str))=false:=by decide):PE X (.Name x pos) (IS i):=cR hN hv hd gm
end
def au (H H':Hp):Prop:=∀b o,H b=some o->H' b=some o
theorem au.refl (H:Hp):au H H:=λ_ _ h=>h
theorem au.trans {H H1 H2:Hp}(a:au H H1)(b:au H1 H2):au H H2:=λc o h=>b c o (a c o h)
theorem au.free {H H':Hp}(e:au H H'){l:Addr}(h:H' l=Option.none):H l=Option.none:=by
 cases q:H l with
 |none=>rfl
 |some o =>
  rw[e l o q]at h;cases h
theorem au.seq {K:PySem.W.Frag}{H H':Hp}{a:Addr}{xs:List V}(e:au H H')(h:da K H a xs):da K H' a xs:=by
 rcases h with (h|⟨o,h⟩)|h
 ·exact .inl (.inl (e _ _ h))
 ·exact .inl (.inr ⟨o,e _ _ h⟩)
 ·exact .inr h
section
variable {X:Cx}{a b c:Expr}{ta tb:TE}{pos:Pos}
def s_ (i j:Int):Prop:=0<j/\j.natAbs.log2<9000
theorem s_.of {i j:Int}(h0:0<j)(h:j<2 ^ 200):s_ i j:=by
 refine⟨h0,?_⟩;have h2:j.natAbs<2 ^ 200:=by lia
 have:=(Nat.log2_lt (n:=j.natAbs) (k:=200) (by lia)).mpr h2
 lia
theorem rg:hX X (WI .FloorDiv) (rI s_ λi j=>.int (i / j)):=Mw λi j _ _ _ _ _ hc q=>by
 have h1:(0:Int)<j:=hc.1;exact floordiv_int (by lia) (by rw[Int.fdiv_eq_ediv_of_nonneg i (by lia)];exact q) (.inl (PyProof.noPylong_of_log2 hc.2))
def E9 (X:Cx)(ops:List Xy)(rs:List Expr)(t:V->TE):Prop :=
 ∀(pos:Pos) (pins:List (Addr×Obj)) (s:UT) (σ:St) (H:Hp) (x:V) (v:UR) (Q:VK),Inv X pins σ H s->RelV x v->t x σ H Q ->
  Vu (model X.prog X.w) X.A (compareChain pos v ops (evalEach rs X.env)) (EP X pins σ Q) X.xe s
def sZ (X:Cx)(ops:List Xy)(rs:List Expr)(t:V->TT):Prop :=
 ∀(pos:Pos) (pins:List (Addr×Obj)) (s:UT) (σ:St) (H:Hp) (x:V) (v:UR) (Q:Bool->Hp->Prop),Inv X pins σ H s->RelV x v->t x σ H Q ->
  Vu (model X.prog X.w) X.A (testChain pos v ops (evalEach rs X.env)) (TP X pins σ Q) X.xe s
variable {op Gh:Xy}{ops:List Xy}{rs:List Expr}{r:R2}{t:V->TE}{tt:V->TT}
theorem HS (ho:hX X (VD op) r)(hb:PE X b tb):E9 X [op] [b] (λx σ H Q=>tb σ H λy H2=>r x y H2 Q):=by
 intro pos pins s σ H x v Q I rx h;exact chain_last (bA (hb pins s σ H _ I h) λu s1 xR=>by obtain⟨y,H1,I1,r1,q1⟩:=xR;exact ho pins s1 σ H1 x y v u Q I1 rx r1 q1)
theorem DO (ho:hX X (VD op) r)(hb:PE X b tb)(hc:E9 X (Gh::ops) (c::rs) t):
  E9 X (op::Gh::ops) (b::c::rs) (λx σ H Q=>tb σ H λy H2=>r x y H2 λz H3=>∃k,z=.bl k/\(if k=true then t y σ H3 Q else Q (.bl false) H3)):=by
 intro pos pins s σ H x v Q I rx h;refine chain_link (bA (hb pins s σ H _ I h) λu s1 ⟨y,H1,I1,r1,q1⟩=>bA (ho pins s1 σ H1 x y v u _ I1 rx r1 q1) λd s3 ⟨z,H3,I3,r3,k,e,q3⟩=>?_);subst e;cases r3;refine Wj ?_;cases k with
 |false=>exact ite_ff ⟨.bl false,H3,I3,rfl,q3⟩
 |true=>exact ite_tt (hc pos pins s3 σ H3 y u Q I3 r1 q3)
theorem xq {dW dU:Xy}(ha:PE X a ta)(hc:E9 X (dW::dU::ops) (b::c::rs) t)(hm:lastMarks (dW::dU::ops) (b::c::rs)=false:=by with_unfolding_all rfl):
  PE X (.Compare a (dW::dU::ops) (b::c::rs) pos) (λσ H Q=>ta σ H λx H1=>t x σ H1 Q):=by
 intro pins s σ H Q I h;exact Compare_chain (bA (ha pins s σ H _ I h) λv s1 Kl=>by obtain⟨x,H1,I1,r1,q1⟩:=Kl;exact hc pos pins s1 σ H1 x v Q I1 r1 q1) hm
theorem DM (ho:hX X (VD op) r)(hb:PE X b tb):sZ X [op] [b] (λx σ H Q=>tb σ H λy H2=>r x y H2 λz H3=>∃k,z=.bl k/\Q k H3):=by
 intro pos pins s σ H x v Q I rx h;refine test_last (bA (hb pins s σ H _ I h) λu s1 ⟨y,H1,I1,r1,q1⟩=>bA (ho pins s1 σ H1 x y v u _ I1 rx r1 q1) λd s3 ⟨z,H3,I3,r3,k,e,q3⟩=>?_);subst e;cases r3;exact Wj ⟨H3,I3,q3⟩
theorem Bk (ho:hX X (VD op) r)(hb:PE X b tb)(hc:sZ X (Gh::ops) (c::rs) tt):
  sZ X (op::Gh::ops) (b::c::rs) (λx σ H Q=>tb σ H λy H2=>r x y H2 λz H3=>∃k,z=.bl k/\(if k=true then tt y σ H3 Q else Q false H3)):=by
 intro pos pins s σ H x v Q I rx h;refine test_link (bA (hb pins s σ H _ I h) λu s1 ⟨y,H1,I1,r1,q1⟩=>bA (ho pins s1 σ H1 x y v u _ I1 rx r1 q1) λd s3 ⟨z,H3,I3,r3,k,e,q3⟩=>?_);subst e;cases r3;refine Wj ?_;cases k with
 |false=>exact ite_ff ⟨H3,I3,q3⟩
 |true=>exact ite_tt (hc pos pins s3 σ H3 y u Q I3 r1 q3)
theorem xh {dW dU:Xy}(ha:PE X a ta)(hc:sZ X (dW::dU::ops) (b::c::rs) tt)(hm:lastMarks (dW::dU::ops) (b::c::rs)=false:=by with_unfolding_all rfl):
  PT X (.Compare a (dW::dU::ops) (b::c::rs) pos) (λσ H Q=>ta σ H λx H1=>tt x σ H1 Q):=by
 intro pins s σ H Q I h;exact isTrue_chain (bA (ha pins s σ H _ I h) λv s1 AB=>by obtain⟨x,H1,I1,r1,q1⟩:=AB;exact hc pos pins s1 σ H1 x v Q I1 r1 q1) hm
theorem Bo:gg X (.builtin "isinstance") (λxs H Q=>∃x n t k,xs=[x,.ty n]/\iE X.K H x t/\PySem.W.kitOne X.K t (.type n)=some k/\Q (.bl k) H):=by
 intro pins s σ H xs us Q I r h;obtain⟨x,n,t,k,rfl,ty,e,q⟩:=h;obtain⟨u,w',rfl,r1,r2⟩:=vals2 r;cases r2;exact xN I r1 ty e λtk=>⟨.bl k,H,I.tok _,rfl,q⟩
end
theorem Bq:VI "max" = some (.builtin "max"):=by decide +kernel
theorem uV:VI "min" = some (.builtin "min"):=by decide +kernel
theorem Bt:VI "int" = some (.type "int"):=by decide +kernel
theorem DR:VI "bool" = some (.type "bool"):=by decide +kernel
theorem my:VI "tuple" = some (.type "tuple"):=by decide +kernel
theorem dw:VI "list" = some (.type "list"):=by decide +kernel
theorem yr:VI "sorted" = some (.builtin "sorted"):=by decide +kernel
theorem Br:VI "isinstance" = some (.builtin "isinstance"):=by decide +kernel
theorem d7:VI "len" = some (.builtin "len"):=by decide +kernel
theorem J2 {c A B:Prop}[Decidable c](hc:c)(h:A):if decide c=true then A else B:=by
 rw[if_pos (decide_eq_true hc)];exact h
theorem J3 {c A B:Prop}[Decidable c](hc:¬ c)(h:B):if decide c=true then A else B:=by
 rw[if_neg (by simp[hc])]
 exact h
theorem N8 {c A B:Prop}[Decidable c](h1:c->A)(h2:¬ c->B):if decide c=true then A else B:=by
 by_cases h:c
 ·exact J2 h (h1 h)
 ·exact J3 h (h2 h)
theorem au.new {H:Hp}{p:Addr}{o:HO}(n:H p=none):au H (L2.upd H p o):=λb u e=>by rw[aw (cz e n)];exact e
section
end
theorem Jy:D_ 10 18:=⟨by decide,by decide,by decide⟩
section
theorem pP {a:Int}{b:Int}(h:0<b):0<=a % b/\a % b<b:=⟨Int.emod_nonneg a (by lia),Int.emod_lt_of_pos a h⟩
end
def aF (X:Cx)(scope:Xr)(N':List Str)(cl:List (Str×Addr))(C:Addr)(s:UT)(H:Hp)(ex:List Addr):Cx :=
 {X with N:=N',s₀:=s,H₀:=H,env:=compEnvC scope cl C X.env,outer:=X.stack,stack:=X.stack,ex:=ex,fn:=λ_=>false,pn:=[],xe:=λ_ _=>False}
theorem iC {env:Env}:∀(names:List (Str×XF)) (cs:List (Str×Addr)),(∀x,(x,VJ)∈names->∃c,env.cells.lookup x=some c) ->
  (∀x c,cs.lookup x=some c->env.cells.lookup x=some c) ->
  ∃cl,(forIn names cs λ(p:Str×XF) (cs:List (Str×Addr))=>do
   if p.2==.free then do
    let a <- cellOf env p.1
    pure (Yo ((p.1,a)::cs))
   else pure (Yo cs):Sem (List (Str×Addr)))=pure cl /\
   (∀x,((x,VJ)∈names\/(∃c,cs.lookup x=some c))->∃c,cl.lookup x=some c)/\∀x c,cl.lookup x=some c->env.cells.lookup x=some c
 |[],cs,_,HA=>⟨cs,rfl,λx h=>h.elim (λz=>nomatch z) id,HA⟩
 | (n,k)::names,cs,hf,HA=>by
  by_cases hk:k=.free
  ·subst hk;obtain⟨c,hc⟩:=hf n (U9 ..);obtain⟨cl,e,h1,h2⟩:=iC names ((n,c)::cs) (λx hx=>hf x (U6 _ hx)) (λx c' hx=>by
    rw[Wd]at hx;cases q:x==n with
    |true=>rw[q]at hx;cases hx;rw[eq_of_beq q];exact hc
    |false=>rw[q]at hx;exact HA x c' hx)
   refine⟨cl,?_,λx hx=>h1 x ?_,h2⟩
   ·rw[List.forIn_cons];have ec:cellOf env n=pure c:=by unfold cellOf;rw[hc]
    simp only[beq_self_eq_true,if_true,ec];exact e
   ·rcases hx with hx|⟨c',hx⟩
    ·rcases U0.mp hx with z|z
     ·cases z;exact .inr ⟨c,by simp⟩
     ·exact .inl z
    ·right
     rw[Wd];cases q:x==n with
     |true=>exact⟨c,rfl⟩
     |false=>exact⟨c',hx⟩
  ·obtain⟨cl,e,h1,h2⟩:=iC names cs (λx hx=>hf x (U6 _ hx)) HA;refine⟨cl,?_,λx hx=>h1 x ?_,h2⟩
   ·rw[List.forIn_cons];have hb:(k==VJ)=false:=by simpa using hk
    simp only[hb,Xn,if_false];exact e
   ·rcases hx with hx|hx
    ·rcases U0.mp hx with z|z
     ·cases z;exact absurd rfl hk
     ·exact .inl z
    ·exact .inr hx
theorem ie {env:Env}{scope:Xr}(h:∀x,(x,VJ)∈scope.names->∃c,env.cells.lookup x=some c):
  ∃cl,closureFor scope env=pure cl/\(∀x,(x,VJ)∈scope.names->∃c,cl.lookup x=some c)/\∀x c,cl.lookup x=some c->env.cells.lookup x=some c:=by
 obtain⟨cl,e,h1,h2⟩:=iC scope.names [] h (λx c z=>by simp at z)
 refine⟨cl,?_,λx hx=>h1 x (.inl hx),h2⟩;unfold closureFor;refine Eq.trans ?_ (congrArg (· >>= pure) e);rfl
structure Links (X:Cx)(scope:Xr)(N':List Str)(lk:List (Option Nat)):Prop where
 kind:scope.kind=.function
 uf:∀x∈scope.names,x.2≠.cell
 names:∀x∈scope.names,x.2=.local->scope.names.lookup x.1=some .local
 free:∀x,(x,VJ)∈scope.names->X.env.kindOf x=some .cell\/X.env.kindOf x=some .free
 len:lk.length=N'.length
 link:∀(i j:Nat),lk[i]?=some (some j)->∃x,N'[i]?=some x/\X.N[j]?=some x/\(x,VJ)∈scope.names/\scope.names.lookup x=some .free
def jN (outer:List (Str×XF))(N:List Str)(scope:Xr)(N':List Str)(lk:List (Option Nat)):Bool :=
 (scope.kind==.function)&&scope.names.all (λx=>x.2 != .cell&&(x.2 != .local || scope.names.lookup x.1==some .local)&&(x.2 != .free || outer.lookup x.1==some .cell || outer.lookup x.1==some .free)) &&
 lk.length==N'.length&&(Vk lk.length).all λi=>match lk[i]? with
  |some (some j)=>match N'[i]? with
   |some x=>N[j]?==some x&&scope.names.contains (x,.free)&&scope.names.lookup x==some .free
   |none=>false
  |_=>true
theorem Links.of {X:Cx}{scope:Xr}{N':List Str}{lk:List (Option Nat)}(h:jN X.env.scope.names X.N scope N' lk=true):Links X scope N' lk:=by
 simp only[jN,VT]at h;obtain⟨⟨⟨h1,h2⟩,h3⟩,h4⟩:=h;rw[Xc]at h2 h4;refine⟨by simpa using h1,λx hx=>?_,λx hx hl=>?_,λx hx=>?_,by simpa using h3,λi j aE=>?_⟩
 ·have:=h2 x hx;simp only[VT]at this;simpa using this.1.1
 ·have:=h2 x hx;simp only[VT]at this;have q:=this.1.2;rw[hl]at q;simpa using q
 ·have:=h2 _ hx;simp only[VT]at this;have q:=this.2;simp only[Y3]at q;rcases q with (q|q)|q
  ·simp at q
  ·exact .inl (show X.env.scope.names.lookup x=some .cell by simpa using q)
  ·exact .inr (show X.env.scope.names.lookup x=some .free by simpa using q)
 ·have hi:i<lk.length:=(UY.mp aE).1;have q:=h4 i (V3.mpr hi);rw[aE]at q;simp only at q;cases e:N'[i]? with
  |none=>rw[e]at q;simp at q
  |some x =>
   rw[e]at q;simp only[VT]at q;obtain⟨⟨q1,q2⟩,q3⟩:=q;exact⟨x,rfl,by simpa using q1,by simpa using q2,by simpa using q3⟩
def c_ (lk:List (Option Nat))(σ:St):St:=lk.map λl=>match l with|some j=>(match σ[j]? with|some v=>v|none=>none)|none=>none
theorem dc {env:Env}:∀{names:List (Str×XF)} {x:Str},names.lookup x=some .free ->
  (names.map λ(n,k)=>if (k==VJ&&env.scope.kind==.function&&env.kindOf n==some .cell) then (n,Xi) else (n,k)).lookup x=some .cell \/
  (names.map λ(n,k)=>if (k==VJ&&env.scope.kind==.function&&env.kindOf n==some .cell) then (n,Xi) else (n,k)).lookup x=some .free
 |[],_,h=>by simp at h
 | (n,k)::r,x,h=>by
  have ih:=@dc env r x;show List.lookup x ((if (k==VJ&&env.scope.kind==.function&&env.kindOf n==some .cell)=true then (n,Xi) else (n,k))::_)=_ \/
   List.lookup x ((if (k==VJ&&env.scope.kind==.function&&env.kindOf n==some .cell)=true then (n,Xi) else (n,k))::_)=_
  cases hx:x==n with
  |true =>
   simp only[Wd,hx]at h;cases h
   by_cases hc:(VJ==VJ&&env.scope.kind==.function&&env.kindOf n==some .cell)=true
   ·rw[if_pos hc];left;simp[Wd,hx]
   ·rw[if_neg hc];right;simp[Wd,hx]
  |false =>
   simp only[Wd,hx]at h
   by_cases hc:(k==VJ&&env.scope.kind==.function&&env.kindOf n==some .cell)=true
   ·rw[if_pos hc];simp only[Wd,hx];exact ih h
   ·rw[if_neg hc];simp only[Wd,hx];exact ih h
theorem c9 {env:Env}:∀{names:List (Str×XF)} {x:Str} {k:XF},(k=.cell\/k=.free)->(∀y∈names,y.2≠.cell) ->
  (names.map λ(n,k)=>if (k==VJ&&env.scope.kind==.function&&env.kindOf n==some .cell) then (n,Xi) else (n,k)).lookup x=some k->(x,VJ)∈names
 |[],_,_,_,_,h=>by simp at h
 | (n,k')::r,x,k,hk,hc,h=>by
  have ih:=@c9 env r x k hk (λy hy=>hc y (U6 _ hy));have h':List.lookup x ((if (k'==VJ&&env.scope.kind==.function&&env.kindOf n==some .cell)=true then (n,Xi) else (n,k'))::(r.map λ(n,k)=>if (k==VJ&&env.scope.kind==.function&&env.kindOf n==some .cell) then (n,Xi) else (n,k)))=some k:=h
  have O2:=hc (n,k') (U9 ..)
  by_cases Dp:(k'==VJ&&env.scope.kind==.function&&env.kindOf n==some .cell)=true
  ·rw[if_pos Dp]at h';simp only[VT,beq_iff_eq]at Dp;cases hx:x==n with
   |true=>rw[eq_of_beq hx,Dp.1.1];exact U9 ..
   |false=>rw[Wd,hx]at h';exact U6 _ (ih h')
  ·rw[if_neg Dp]at h';cases hx:x==n with
   |true =>
    rw[Wd,hx]at h';have e:k'=k:=by simpa using h'
    subst e;rcases hk with hk|hk
    ·exact absurd hk O2
    ·rw[eq_of_beq hx,hk];exact U9 ..
   |false=>rw[Wd,hx]at h';exact U6 _ (ih h')
section
variable {X:Cx}{pins:List (Addr×Obj)}{σ:St}{H:Hp}{s:UT}{scope:Xr}{N':List Str}{lk:List (Option Nat)}{cl:List (Str×Addr)}{ex:List Addr}
theorem Av {h':Heap}{t':Nat}(I:Inv X pins σ H s)(L:Links X scope N' lk)(hex:∀b∈ex,gM X pins H b)(OG:∀b∈ex,∃o,s.heap.get? b=some o)
  (mX:∀x,(x,VJ)∈scope.names->∃c,cl.lookup x=some c) (kS:∀x c,cl.lookup x=some c->X.env.cells.lookup x=some c)
  (hn:h'.Ns s.heap.objs.size (λ_=>none)) (hk:∀b o,s.heap.get? b=some o->h'.get? b=some o) :
  Inv (aF X scope N' cl s.heap.objs.size s H ex) [] (c_ lk σ) H {s with heap:=h',toks:=t'}:=by
 obtain⟨m,hm,hl⟩:=I.loc;have TB:∀b∈ex,b≠s.heap.objs.size:=λb hb=>by
  obtain⟨o,e⟩:=OG b hb;exact VP (Vi e)
 refine⟨⟨I.ok.mod,L.kind,I.ok.glob,I.ok.blt,UU _,λx y c h1 h2=>I.ok.inj x y c (kS _ _ h1) (kS _ _ h2),λx hx=>?_,λx c z=>(nomatch z),I.ok.hd,I.ok.frames,.inl rfl,
  λb hb=>⟨TB b hb,λx c e=>(hex b hb).2.2.2.2.1 x c (kS _ _ e)⟩,I.bs,Vm I.ok.E3 I.sz,λb o e z=>?_,λb hb z=>?_,I.stack,I.vg⟩,
  rfl,I.bare,Un.kept hk,⟨_,hn,λi x v h1 h2 h3=>?_⟩,λx c e=>?_,I.bM.fresh (UU _),λx c e=>I.h_ x c (kS _ _ e),λp hp=>absurd (show p∈([]:List (Addr×Obj)) from hp) (by simp),I.bM.kept hk,?_⟩
 ·have Dg:(relabel scope X.env).names.lookup x=some .cell\/(relabel scope X.env).names.lookup x=some .free:=hx;rcases Dg with q|q
  ·exact mX x (c9 (.inl rfl) L.uf q)
  ·exact mX x (c9 (.inr rfl) L.uf q)
 ·obtain⟨f0,f1,f2,f3,_⟩:=hex b z;rcases f3 with q|q
  ·exact I.ok.z9 b o e q
  ·have h1:=Vi e;have h2:=I.ok.E3;exact absurd (VC h1 (Vm h2 q)) (XD _)
 ·obtain⟨f0,f1,f2,f3,_⟩:=hex b hb;rcases U0.mp (I.tO b z)with q|q
  ·exact f1 q
  ·exact f2 q
 ·have hi:∃j,lk[i]?=some (some j)/\σ[j]?=some (some v):=by
   have AS:(c_ lk σ)[i]?=some (some v):=h2;unfold c_ at AS;rw[Vd]at AS;cases e:lk[i]? with
   |none=>rw[e]at AS;cases AS
   |some l =>
    cases l with
    |none=>rw[e]at AS;cases AS
    |some j =>
     rw[e]at AS;cases e2:σ[j]? with
     |none=>simp[e2]at AS
     |some w' =>
      simp only[Yl,e2,Option.some.injEq]at AS;subst AS;exact⟨j,rfl,e2⟩
  obtain⟨j,hj,hσ⟩:=hi;obtain⟨y,e1,e2,e3,e4⟩:=L.link i j hj;have Tz:x=y:=by
   have xV:N'[i]?=some x:=h1;rw[e1]at xV;exact(VQ xV).symm
  subst Tz;have Of:sR X.env.scope x:=by
   rcases L.free x e3 with q|q
   ·exact .inr (.inl q)
   ·exact .inr (.inr q)
  obtain⟨u,ru,lu⟩:=hl j x v e2 hσ Of;refine⟨u,ru,.inr ⟨?_,?_⟩⟩
  ·exact dc e4
  ·rcases lu with⟨k,_⟩|⟨_,c,hc,z⟩
   ·rcases L.free x e3 with q|q <;> (rw[k]at q;cases q)
   ·obtain⟨c',pU⟩:=mX x e3;have:=kS x c' pU;rw[hc]at this;cases this;obtain⟨o,ho,hd⟩:=z;exact⟨c,pU,o,hk _ _ ho,hd⟩
 ·obtain⟨v,o,ho,hd⟩:=I.cell x c (kS _ _ e);exact⟨v,o,hk _ _ ho,hd⟩
 ·show (c_ lk σ).length=N'.length;unfold c_;rw[US,L.len]
theorem Aw {s':UT}{σ':St}{H':Hp}{pl:List (Addr×Obj)}{C:Addr}{h'':Heap}(I:Inv X pins σ H s)(hex:∀b∈ex,gM X pins H b)
  (J:Inv (aF X scope N' cl s.heap.objs.size s H ex) pl σ' H' s') (hs:XQ s.heap.objs.size s'.heap h''):Inv X pins σ H' {s' with heap:=h''}:=by
 have hC:H' s.heap.objs.size=none:=J.free;have u:=J.base;refine I.LY (ch:=ex) (s':={s' with heap:=h''}) J.os ?_ ?_ J.bare (λb hb=>?_)
 ·have kk:∀b o,b≠s.heap.objs.size->s'.heap.get? b=some o->h''.get? b=some o:=λb o hb e=>(hs.2 b hb).trans e;have ne:∀b o,s.heap.get? b=some o->b≠s.heap.objs.size:=λb o e=>VP (Vi e);refine⟨λb o e n hb hx=>kk b _ (ne b o e) (u.keep b o e n hb hx),λb o e n hb hx=>?_,u.free,λb o e hx=>?_,u.oS,u.mY,u.oV⟩
  ·obtain⟨sl,q⟩:=u.slot b o e n hb hx;exact⟨sl,kk b _ (ne b o e) q⟩
  ·obtain⟨o',q⟩:=u.there b o e hx;exact⟨o',kk b _ (ne b o e) q⟩
 ·intro b o e;have hb:b≠s.heap.objs.size:=λz=>by rw[z]at e;rw[hC]at e;cases e
  refine(J.bM b o e).qH (λc v hc q=>(hs.2 c ?_).trans q) (λ_ q=>q) λ_ _ q=>q;rcases hc with z|z
  ·rw[z];exact hb
  ·intro z';rw[z']at z;rw[hC]at z;cases z
 ·obtain⟨f0,f1,f2,f3,f4,f5⟩:=hex b hb;exact⟨f3,f1,f4,f5⟩
end
def k7 (g:Xj)(after:Sem Fin->Sem Fin)(e:Expr)(d:Nat)(it acc:UR)(env:Env):Sem Fin:=do
 Yv g.iter.pos
 match <- Y5 it with
 |none=>pure (.done .next)
 |some v =>
  Yk g.target it v
  assign g.target env v
  let mut ok:=true
  for c in g.ifs do
   if ok then ok <- YR c env (eval c env)
  if ok then after (again (.compLoop e d it acc env)) else again (.compLoop e d it acc env)
def pN (e:Expr)(d:Nat)(g':Xj)(acc:UR)(env:Env)(k:Sem Fin):Sem Fin:=do
 let x <- eval g'.iter env
 Yv g'.iter.pos
 let x <- VV g'.iter env x
 let _ <- runOwn (.compStart e (d+1) (<- holding [x] (Y6 x)) acc env) env
 k
def vc (t:Sem Unit)(k:Sem Fin):Sem Fin:=do
 t
 k
def wt (elt:Expr)(acc:UR)(env:Env):Sem Unit:=do let _ <- call (.builtin "list.append") [acc,<- eval elt env]
structure ju (e:Expr)(d:Nat)(g:Xj)(acc:UR)(env:Env)(after:Sem Fin->Sem Fin):Prop where
 turn:∀it,compTurn e d it acc env=k7 g after e d it acc env
 cl:(clausesOf e)[d]?=some g
 sync:g.is_async=0
 quiet:∀it,(X4 e d it acc env).quiet=true
 under:∀(A:VZ) it,A.under (X4 e d it acc env)=A
 Fn:∀(A:VZ) it,A.under (Zb e d it acc env)=A
 Gx:∀it,(X4 e d it acc env).isFrame=false
 JH:∀it,(Zb e d it acc env).isFrame=false
section
variable {elt tg yS c8 mV:Expr}{ifs mW:List Expr}{sc:Xr}{pos:Pos}{acc:UR}{env:Env}
theorem Bn:ju (.ListComp elt [⟨tg,c8,ifs,0⟩] sc pos) 0 ⟨tg,c8,ifs,0⟩ acc env (vc (wt elt acc env)) :=
 ⟨λ_=>rfl,rfl,rfl,λ_=>rfl,λ_ _=>rfl,λ_ _=>rfl,λ_=>rfl,λ_=>rfl⟩
theorem HV:ju (.ListComp elt [⟨tg,c8,ifs,0⟩,⟨yS,mV,mW,0⟩] sc pos) 0 ⟨tg,c8,ifs,0⟩ acc env (pN (.ListComp elt [⟨tg,c8,ifs,0⟩,⟨yS,mV,mW,0⟩] sc pos) 0 ⟨yS,mV,mW,0⟩ acc env) :=
 ⟨λ_=>rfl,rfl,rfl,λ_=>rfl,λ_ _=>rfl,λ_ _=>rfl,λ_=>rfl,λ_=>rfl⟩
theorem HU:ju (.ListComp elt [⟨tg,c8,ifs,0⟩,⟨yS,mV,mW,0⟩] sc pos) 1 ⟨yS,mV,mW,0⟩ acc env (vc (wt elt acc env)) :=
 ⟨λ_=>rfl,rfl,rfl,λ_=>rfl,λ_ _=>rfl,λ_ _=>rfl,λ_=>rfl,λ_=>rfl⟩
end
def IT:TT:=λ_ H Q=>Q true H
def tx (X:Cx)(ifs:List Expr)(t:TT):Prop :=
 ∀(pins:List (Addr×Obj)) (s:UT) (σ:St) (H:Hp) (Q:Bool->Hp->Prop),Inv X pins σ H s->t σ H Q ->
  Vu (model X.prog X.w) X.A (forIn ifs true λc r=>if r=true then do let ok <- YR c X.env (eval c X.env);pure (Yo ok) else pure (Yo r)) (TP X pins σ Q) X.xe s
theorem Cg {X:Cx}:tx X [] IT:=λ_ _ _ H _ I h=>wpAny_tests_nil ⟨H,I,h⟩
theorem Cf {X:Cx}{c:Expr}{t:TT}(h:PT X c t):tx X [c] t:=λpins s σ H Q I q=>wpAny_tests_one (h pins s σ H Q I q)
abbrev m8:=(St->Hp->Prop)->St->Hp->Prop
def sY (X:Cx)(after:Sem Fin->Sem Fin)(t:m8):Prop :=
 ∀(pins:List (Addr×Obj)) (s:UT) (σ:St) (H:Hp) (N:St->Hp->Prop) (k:Sem Fin) (Q:Fin->UT->Prop) (E:UR->UT->Prop),Inv X pins σ H s->t N σ H ->
  (∀σ' H' s',Inv X pins σ' H' s'->N σ' H'->Vu (model X.prog X.w) X.A k Q E s')->Vu (model X.prog X.w) X.A (after k) Q E s
theorem gW {X:Cx}(hx:X.xe=λ_ _=>False){α:Type}{t:Sem α}{Q:α->UT->Prop}{E:UR->UT->Prop}{s:UT}(h:Vu (model X.prog X.w) X.A t Q X.xe s):Vu (model X.prog X.w) X.A t Q E s :=
 XR h (λ_ _ q=>q) λe s q=>by rw[hx]at q;exact q.elim
def f9 (J:It)(g:TG)(tt:TT)(ta:m8)(End:St->Hp->Prop):St->Hp->Prop:=λσ H =>
 ∃W:Nat->Nat->St->Hp->Prop,(∃m,W 0 m σ H)/\∀i m σ H,W i m σ H->(J.stop i H/\End σ H) \/
  (J.go i H/\∃N:St->Hp->Prop,(∀σ' H',N σ' H'->∃m',m'<m/\W (i+1) m' σ' H')/\∀x H',J.IJ i H x H'->g x σ H' λσ2 H2=>tt σ2 H2 λb H3=>if b=true then ta N σ2 H3 else N σ2 H3)
section
variable {X:Cx}{e:Expr}{d:Nat}{g:Xj}{acc:UR}{after:Sem Fin->Sem Fin}{tg:TG}{tt:TT}{ta:m8}
theorem yj (hx:X.xe=λ_ _=>False)(hc:X.calm=true)(F:ju e d g acc X.env after)(hg:PG X g.target tg)(ht:tx X g.ifs tt)(ha:sY X after ta)
  {it:Addr} {fp:List Addr} {tn:Nat->Heap->Prop} {J:It} (T:Turn X.prog X.w X.K g.target J fp it tn) {pins:List (Addr×Obj)} {σ:St} {H:Hp} {s:UT} {End:St->Hp->Prop}
  (I:Inv X pins σ H s) (st:tn 0 s.heap) (hf:∀b∈fp,gM X pins H b) (h:f9 J tg tt ta End σ H) :
  Yw (model X.prog X.w) X.A (.compLoop e d (.ref it) acc X.env) (λr s'=>r=.ok .next/\∃σ' H',Inv X pins σ' H' s'/\End σ' H') s:=by
 obtain⟨W,⟨m0,w0⟩,turn⟩:=h;have tP:∀{H':Hp},(∀b∈fp,H' b=none)->∀b∈fp,gM X pins H' b:=λhn b hb=>⟨hn b hb,(hf b hb).2⟩;refine codeAny_loop (F.quiet _) (λn s'=>∃i σ' H',Inv X pins σ' H' s'/\tn i s'.heap/\(∀b∈fp,H' b=none)/\W i n σ' H') (λn s3 hI=>?_) m0 ⟨0,σ,H,I,st,λb hb=>(hf b hb).1,w0⟩;obtain⟨i,σ3,H3,I3,lh,LF,w3⟩:=hI;rw[F.under];have Hz:(model X.prog X.w).den (.compLoop e d (.ref it) acc X.env)=(k7 g after e d (.ref it) acc X.env).onRaise (λx=>do noteFrame x X.env;theTreesLotGoes x):=by
  rw[<- F.turn];show (if (X4 e d (.ref it) acc X.env).isFrame then _ else _)=_
  rw[F.Gx];rfl
 rw[Hz];refine wpAny_noted ?_;unfold k7;rcases turn i n σ3 H3 w3 with⟨stop,qn⟩|⟨go,N,hN,step⟩
 ·refine UW (Xe (UW (bA (T.done X rfl rfl rfl hc i pins s3 σ3 H3 _ I3 (tP LF) lh stop) λr s4 ⟨hr,I4⟩=>?_)));subst hr;exact Vg ⟨rfl,σ3,H3,I4,qn⟩
 ·refine UW (Xe (UW (bA (T.item X rfl rfl rfl hc i pins s3 σ3 H3 _ I3 (tP LF) lh go) λr s4 ⟨u,hr,h4⟩=>?_)));subst hr;refine UW (bA h4 λ_ s5 ⟨x,H5,I5,r5,y5,BG,Pt⟩=>?_);have P6:=I5.pinned (tP Pt) (T.obj _ _ BG);refine UW (bA (gW hx (hg _ s5 σ3 H5 x u _ P6 r5 (step x H5 y5))) λ_ s6 ⟨σ6,H6,I6,q6⟩=>?_);refine UW (bA (gW hx (ht _ s6 σ6 H6 _ I6 q6)) λok s7 ⟨H7,I7,q7⟩=>?_);have By:∀{σ8:St} {H8:Hp} {s8:UT},Inv X (pins++lG fp s5.heap) σ8 H8 s8->N σ8 H8->∃m,m<n/\∃i σ' H',Inv X pins σ' H' s8/\tn i s8.heap/\(∀b∈fp,H' b=none)/\W i m σ' H':=λ{σ8 H8 s8} I8 n8=>by
   obtain⟨m',hm,w8⟩:=hN σ8 H8 n8;refine⟨m',hm,i+1,σ8,H8,I8.iN,T.keep _ _ _ BG λb hb o e=>(I8.pin (b,o) (Vy _ (Vy _ (fK hb e)))).1,λb hb=>?_,w8⟩;obtain⟨o,e,d⟩:=T.obj _ _ BG b hb;exact(I8.pin (b,o) (Vy _ (Vy _ (fK hb e)))).2.1
  cases ok with
  |false=>exact Vg ⟨rfl,By I7 (by simpa using q7)⟩
  |true =>
   exact ha _ s7 σ6 H7 N _ _ _ I7 (by simpa using q7) λσ8 H8 s8 I8 n8=>Vg ⟨rfl,By I8 n8⟩
theorem mx (hx:X.xe=λ_ _=>False)(hc:X.calm=true)(F:ju e d g acc X.env after)(hg:PG X g.target tg)(ht:tx X g.ifs tt)(ha:sY X after ta)
  {it:Addr} {fp:List Addr} {tn:Nat->Heap->Prop} {J:It} (T:Turn X.prog X.w X.K g.target J fp it tn) {pins:List (Addr×Obj)} {σ:St} {H:Hp} {s:UT} {End:St->Hp->Prop}
  (I:Inv X pins σ H s) (st:tn 0 s.heap) (hf:∀b∈fp,gM X pins H b) (h:f9 J tg tt ta End σ H) :
  Yw (model X.prog X.w) X.A (.compStart e d (.ref it) acc X.env) (λr s'=>r=.ok .next/\∃σ' H',Inv X pins σ' H' s'/\End σ' H') s:=by
 have lp:=yj hx hc F hg ht ha T I st hf h;refine codeAny_of_tree ?_;rw[F.Fn];have Hz:(model X.prog X.w).den (.compStart e d (.ref it) acc X.env)=(compStart e d (.ref it) acc X.env).onRaise (λx=>do noteFrame x X.env;Yv theWindowsPlace):=by
  show (if (Zb e d (.ref it) acc X.env).isFrame then _ else _)=_
  rw[F.JH];rfl
 rw[Hz];refine wpAny_notedAt ?_;unfold compStart;rw[F.cl];simp only[Option.elim_some,F.sync];show Vu _ _ (ask >>= _) _ _ s;refine UW (wpAny_askSetting (wpAny_ite ?_))
 split
 ·first
   |exact UW (Vg (Vg (And.intro (F.quiet _) lp)))
   |exact Vg (And.intro (F.quiet _) lp)
 ·have h2:∀(E:UR->UT->Prop),Vu (model X.prog X.w) X.A (Y6 (.ref it)) (λMD s'=>(X4 e d MD acc X.env).quiet=true/\Yw (model X.prog X.w) X.A (.compLoop e d MD acc X.env) (λr s'=>r=.ok .next/\∃σ' H',Inv X pins σ' H' s'/\End σ' H') s') E s :=
   λE=>T.self X.A 0 s _ E st ⟨F.quiet _,lp⟩
  first
   |exact UW (Xz (UW (Xe (UW (XR (h2 _) (λMD s' h'=>Vg h') λ_ _ x=>x)))))
   | (refine UW (Xz ?_);exact UW (Xe (UW (XR (h2 _) (λMD s' h'=>Vg h') λ_ _ x=>x))))
theorem Cz {g':Xj}{wi:TI}(hx:X.xe=λ_ _=>False)(hc:X.calm=true)(F:ju e (d+1) g' acc X.env after)(hi:PI X g'.target g'.iter wi)(hg:PG X g'.target tg)(ht:tx X g'.ifs tt)(ha:sY X after ta)
  (hs:∀x,VV g'.iter X.env x=pure x:=by intro _;rfl) :
  sY X (pN e d g' acc X.env) (λN σ H=>wi σ H λJ H1=>f9 J tg tt ta N σ H1):=by
 intro pins s σ H N k Q E I h hk;unfold pN;refine UW (bA (gW hx (hi pins s σ H _ I h)) λx s1 h1=>?_);refine UW (Xe (UW (wpAny_of_eq (hs x) ?_)));refine UW (Xf (bA (gW hx h1) λED s2 h2=>?_));obtain⟨it,fp,tn,J,H2,e1,I2,T,f_,f2,hl⟩:=h2;subst e1;refine UW (wpAny_runOwn (Ye (mx hx hc F hg ht ha T I2 f_ f2 hl) λr s' hr=>?_));obtain⟨rfl,σ',H',I',q⟩:=hr;exact hk σ' H' s' I' q
theorem i8 {elt:Expr}{te:TE}{a:Addr}(hx:X.xe=λ_ _=>False)(he:PE X elt te):
  sY X (vc (wt elt (.ref a) X.env)) (λN σ H=>te σ H λv H1=>∃xs,H1 a=some (.lst xs)/\xs.length<U4/\N σ (upd H1 a (.lst (xs++[v])))):=by
 intro pins s σ H N k Q E I h hk;unfold vc wt;refine UW (UW (bA (gW hx (he pins s σ H _ I h)) λu s1 ⟨v,H1,I1,r1,xs,hH,hz,q⟩=>?_));refine UW (bA (gW hx <| gX (X:=X) pins s1 σ H1 (.ref a) [v] (.ref a) [u] (λw' H'=>N σ H') I1 rfl (.cons r1 .nil) ⟨a,xs,v,rfl,rfl,hH,hz,q⟩) λ_ s2 ⟨_,H2,I2,_,q2⟩=>?_)
 exact Vg (hk σ H2 s2 I2 q2)
end
section
variable {X:Cx}{e:Expr}
structure qg (X:Cx)(eP:Sem UR)(o:HO):Prop where
 ok:∀(pins:List (Addr×Obj)) (s:UT) (σ:St) (H:Hp) (Q:UR->UT->Prop) (E:UR->UT->Prop),Inv X pins σ H s ->
  (∀a s',s.heap.objs.size<=a->H a=none->(∀b o,s.heap.get? b=some o->s'.heap.get? b=some o)->Inv X pins σ (upd H a o) s'->Q (.ref a) s')->Vu (model X.prog X.w) X.A eP Q E s
theorem ja:qg X (newList []) (.lst []) :=
 ⟨λpins s σ H Q E I h=>XX (h _ _ (UU _) I.fresh (λb o e=>Vc _ e) (I.GK (its:=[]) (t':=s.toks) .nil (Ve _)))⟩
theorem Inv.sameBut {pins:List (Addr×Obj)}{σ:St}{H:Hp}{s:UT}{C:Addr}{h':Heap}(I:Inv X pins σ H s)(f:gM X pins H C)(hs:XQ C s.heap h'):Inv X pins σ H {s with heap:=h'}:=by
 obtain⟨f0,f1,f2,f3,f4,f5⟩:=f;exact I.turned (t':=s.toks) (λb o hb e=>(hs.2 b hb).trans e) f0 f1 f3 f4 f5
end
end L2
namespace ST
open PySem PySem.SetTable
def eN (m:Nat)(p:Probe):Probe:=advance {mask:=m,place:=#[],dummies:=#[],finger:=0,led:=true,moves:=0,plain:=true} p
def RF (m:Nat)(h:Int):Probe:=probeStart {mask:=m,place:=#[],dummies:=#[],finger:=0,led:=true,moves:=0,plain:=true} h
def Qs (m:Nat)(h:Int):Nat->Probe
 |0=>RF m h
 |n+1=>eN m (Qs m h n)
def Ml (m:Nat)(h:Int)(n:Nat):Nat:=(Qs m h n).j
abbrev g (xs:Array Nat)(i:Nat):Nat:=xs.getD i 0
def TX (xs:Array Nat):Prop:=∀i j,i<j->j<xs.size->g xs i<g xs j
def Rk (t:SetTable)(x:Nat):Prop:=∃i,i<t.place.size/\g t.place i=x
structure WF (t:SetTable)(hs:List Int):Prop where
 UN:t.dummies=#[]
 sz:t.place.size=hs.length
 Um:TX t.place
 UP:∀i,i<t.place.size->g t.place i<=t.mask
 Sf:∃j,3<=j/\t.mask=2 ^ j-1
 room:t.place.size<=t.mask
 Uo:∀i h,hs[i]?=some h->∃n,Ml t.mask h n=g t.place i/\∀k,k<n->Rk t (Ml t.mask h k)
instance (t:SetTable):DecidablePred (Rk t):=λx=>decidable_of_iff (∃i,i<t.place.size/\g t.place i=x) Iff.rfl
end ST
namespace TS
open PySem PyProof.Rows
def cx:Bool->UZ->Array UZ->Nat->Nat->Nat->StateT Vq Sem (Option Nat):=sortPriv% PySem.Builtin.gallop
def jb:Array UZ->Array UZ->StateT Vq Sem (Array UZ):=sortPriv% PySem.Builtin.mergeLo
def jc:Array UZ->Array UZ->StateT Vq Sem (Array UZ):=sortPriv% PySem.Builtin.mergeHi
abbrev cy (st:Vq)(g:Nat):Vq:=SortSt.mk' (kindOf st) (Vt st) (Vh st) g (Xq st)
theorem uF (left:Bool)(key:UZ)(arr:Array UZ)(base n hint:Nat):cx left key arr base n hint=(do
  let ask:=λ(at_:Nat)=>(do
   let z <- elem' arr (base+at_)
   if left then lt' z key else return (<- lt' key z).map (!·):StateT Vq Sem (Option Bool))
  let mut before:=0
  let mut step:=1
  let mut u:=0
  let mut v:=0
  let some up <- ask hint|return none
  if up then
   let room:=n-hint
   for _ in [0:n] do
    if step >= room then break
    let some on <- ask (hint+step)|return none
    if !on then break
    before:=step
    step:=2*step+1
   u:=hint+before+1
   v:=hint+min step room
  else
   let room:=hint+1
   for _ in [0:n] do
    if step >= room then break
    let some hit <- ask (hint-step)|return none
    if hit then break
    before:=step
    step:=2*step+1
   u:=hint+1-min step room
   v:=hint-before
  for _ in [0:n] do
   if u >= v then break
   let mid:=u+(v-u) / 2
   let some on <- ask mid|return none
   if on then u:=mid+1 else v:=mid
  return some v):=rfl
theorem rC (p q:Array UZ):jb p q=(do
  rule "list.sort.merge-lo"
  let all:=p.size+q.size
  let rest:=λ(to:Array UZ) (i j:Nat)=>to++p.extract i p.size++q.extract j q.size
  let tail:=λ(to:Array UZ) (i j:Nat)=>to++q.extract j q.size++p.extract i p.size
  let mut to:Array UZ:=#[<- elem' q 0]
  let mut i:=0
  let mut j:=1
  if j==q.size then return rest to i j
  if i+1==p.size then return tail to i j
  let mut mg:=gallopOf (<- get)
  for _ in [0:all] do
   let mut m:=0
   let mut n:=0
   for _ in [0:all] do
    let some Fi <- lt' (<- elem' q j) (<- elem' p i)|return rest to i j
    if Fi then
     to:=to.push (<- elem' q j);j:=j+1;n:=n+1;m:=0
     if j==q.size then return rest to i j
     if n >= mg then break
    else
     to:=to.push (<- elem' p i);i:=i+1;m:=m+1;n:=0
     if i+1==p.size then return tail to i j
     if m >= mg then break
   rule "list.sort.gallop"
   mg:=mg+1
   for _ in [0:all] do
    if mg>1 then mg:=mg-1
    modify λst=>cy st mg
    let some k <- cx false (<- elem' q j) p i (p.size-i) 0|return rest to i j
    m:=k
    if k>0 then
     to:=to++p.extract i (i+k);i:=i+k
     if i+1==p.size then return tail to i j
     if i==p.size then return rest to i j
    to:=to.push (<- elem' q j);j:=j+1
    if j==q.size then return rest to i j
    let some k <- cx true (<- elem' p i) q j (q.size-j) 0|return rest to i j
    n:=k
    if k>0 then
     to:=to++q.extract j (j+k);j:=j+k
     if j==q.size then return rest to i j
    to:=to.push (<- elem' p i);i:=i+1
    if i+1==p.size then return tail to i j
    if m<7&&n<7 then break
   mg:=mg+1
   modify λst=>cy st mg
  unsupported "internal:list.sort.merge-bound"):=rfl
theorem rE (p q:Array UZ):jc p q=(do
  rule "list.sort.merge-hi"
  let all:=p.size+q.size
  let rest:=λ(to:Array UZ) (i j:Nat)=>p.extract 0 i++q.extract 0 j++to.reverse
  let tail:=λ(to:Array UZ) (i j:Nat)=>q.extract 0 j++p.extract 0 i++to.reverse
  let mut i:=p.size-1
  let mut j:=q.size
  let mut to:Array UZ:=#[<- elem' p i]
  if i==0 then return rest to i j
  if j==1 then return tail to i j
  let mut mg:=gallopOf (<- get)
  for _ in [0:all] do
   let mut m:=0
   let mut n:=0
   for _ in [0:all] do
    let some Fi <- lt' (<- elem' q (j-1)) (<- elem' p (i-1))|return rest to i j
    if Fi then
     i:=i-1;to:=to.push (<- elem' p i);m:=m+1;n:=0
     if i==0 then return rest to i j
     if m >= mg then break
    else
     j:=j-1;to:=to.push (<- elem' q j);n:=n+1;m:=0
     if j==1 then return tail to i j
     if n >= mg then break
   rule "list.sort.gallop"
   mg:=mg+1
   for _ in [0:all] do
    if mg>1 then mg:=mg-1
    modify λst=>cy st mg
    let some h <- cx false (<- elem' q (j-1)) p 0 i (i-1)|return rest to i j
    let k:=i-h
    m:=k
    if k>0 then
     to:=to++(p.extract h i).reverse;i:=h
     if i==0 then return rest to i j
    j:=j-1;to:=to.push (<- elem' q j)
    if j==1 then return tail to i j
    let some h <- cx true (<- elem' p (i-1)) q 0 j (j-1)|return rest to i j
    let k:=j-h
    n:=k
    if k>0 then
     to:=to++(q.extract h j).reverse;j:=h
     if j==1 then return tail to i j
     if j==0 then return rest to i j
    i:=i-1;to:=to.push (<- elem' p i)
    if i==0 then return rest to i j
    if m<7&&n<7 then break
   mg:=mg+1
   modify λst=>cy st mg
  unsupported "internal:list.sort.merge-bound"):=rfl
theorem rG (i:Nat):mergeAt' i=(do
  let st <- get
  let (some (sa,na,pw),some (sb,nb,_)):=((Vh st)[i]?,(Vh st)[i+1]?)|unsupported "internal:list.sort.pending"
  set (XA st (((Vh st).setIfInBounds i (sa,na+nb,pw)).eraseIdxIfInBounds (i+1)))
  let some k <- cx false (<- elem' (Vt st) sb) (Vt st) sa na 0|return false
  let (sa,na):=(sa+k,na-k)
  if na==0 then return true
  let some nb <- cx true (<- elem' (Vt st) (sa+na-1)) (Vt st) sb nb (nb-1)|return false
  if nb==0 then return true
  let x:=(Vt st).extract sa sb
  let y:=(Vt st).extract sb (sb+nb)
  let got <- if na<=nb then jb x y else jc x y
  modify λs2=>V5 s2 (got.toList.zipIdx.foldl (λa (p,j)=>a.setIfInBounds (sa+j) p) (Vt s2))
  return (Xq (<- get)).isNone):=rfl
structure cm (c:UZ->UZ->Bool):Prop where
 L3:∀x y,c x y=true->c y x=false
 Qx:∀x y z,c x z=true->c x y=true\/c y z=true
def le (c:UZ->UZ->Bool)(x y:UZ):Prop:=c y x=false
section
variable {c:UZ->UZ->Bool}
theorem cm.refl (O:cm c)(x:UZ):le c x x:=by
 cases h:c x x
 ·exact h
 ·exact O.L3 _ _ h
theorem cm.trans (O:cm c){x y z:UZ}(h1:le c x y)(h2:le c y z):le c x z:=by
 cases h:c z x
 ·exact h
 ·rcases O.Qx _ y _ h with q|q
  ·exact absurd (q.symm.trans h2) (by simp)
  ·exact absurd (q.symm.trans h1) (by simp)
theorem cm.of_lt (O:cm c){x y:UZ}(h:c x y=true):le c x y:=O.L3 _ _ h
def el (a:Array UZ)(i:Nat):UZ:=a.getD i (Value.none,Value.none)
theorem jn {a:Array UZ}{i:Nat}(h:i<a.size):a[i]?=some (el a i):=by
 rw[getElem?_pos a i h,el,W4,getElem?_pos a i h];rfl
theorem wu {a:Array UZ}{i:Nat}{x:UZ}(h:a[i]?=some x):el a i=x:=by
 rw[el,W4,h];rfl
theorem d6 {a b:Array UZ}{i j:Nat}(h:a[i]?=b[j]?):el a i=el b j:=by
 rw[el,el,W4,W4,h]
def SR (c:UZ->UZ->Bool)(a:Array UZ)(lo hi:Nat):Prop:=∀i j,lo<=i->i<=j->j<hi->le c (el a i) (el a j)
def f6 (prog:UX)(w:Vb)(A:VZ)(E:UR->UT->Prop)(s:UT)(κ:Xh)(c:UZ->UZ->Bool)(S:UZ->Prop):Prop :=
 ∀(x y:UZ) (st:Vq) (Q:Option Bool->Vq->Prop),S x->S y->kindOf st=κ->Q (some (c x y)) st->wpS (model prog w) A E s (lt' x y) Q st
end
section
variable {prog:UX}{w:Vb}{A:VZ}{E:UR->UT->Prop}{s:UT}{κ:Xh}{c:UZ->UZ->Bool}{S:UZ->Prop}
theorem aO {a:Array UZ}{i:Nat}{Q:UZ->Vq->Prop}{st:Vq}(h:i<a.size)(q:Q (el a i) st):wpS (model prog w) A E s (elem' a i) Q st:=by
 rw[elem'_eq,jn h];exact U7 q
def d8 (c:UZ->UZ->Bool)(left:Bool)(key:UZ)(a:Array UZ)(base i:Nat):Bool:=if left=true then c (el a (base+i)) key else !c key (el a (base+i))
theorem DP (O:cm c){left:Bool}{key:UZ}{a:Array UZ}{base n i j:Nat}(hs:SR c a base (base+n))(aE:i<=j)(hj:j<n)(h:d8 c left key a base j=true):d8 c left key a base i=true:=by
 have hl:=hs (base+i) (base+j) (by lia) (by lia) (by lia)
 unfold d8 at *
 cases left with
 |true =>
  rw[if_pos rfl]at *
  rcases O.Qx _ (el a (base+i)) _ h with q|q
  ·exact absurd (q.symm.trans hl) (by simp)
  ·exact q
 |false =>
  rw[if_neg (by simp)]at *
  rw[X0]at *
  exact O.trans hl h
theorem iL (L:f6 prog w A E s κ c S){left:Bool}{key:UZ}{a:Array UZ}{base n i:Nat}{Q:Option Bool->Vq->Prop}{st:Vq}(hk:kindOf st=κ)(hK:S key)(hA:∀i,i<n->S (el a (base+i)))(hn:base+n<=a.size)(hi:i<n)
  (h:Q (some (d8 c left key a base i)) st):wpS (model prog w) A E s (do
   let z <- elem' a (base+i)
   if left then lt' z key else return (<- lt' key z).map (!·):StateT Vq Sem (Option Bool)) Q st:=by
 refine U1 (aO (by lia) ?_)
 unfold d8 at h;cases left with
 |true =>
  rw[if_pos rfl]at *
  exact L _ _ st Q (hA i hi) hK hk h
 |false =>
  rw[if_neg (by simp)]at *
  exact U1 (L _ _ st _ hK (hA i hi) hk (U7 h))
theorem dz (O:cm c)(L:f6 prog w A E s κ c S){left:Bool}{key:UZ}{a:Array UZ}{base n hint:Nat}{Q:Option Nat->Vq->Prop}{st:Vq}(hk:kindOf st=κ)(hK:S key)(hA:∀i,i<n->S (el a (base+i)))(hn:base+n<=a.size)
  (hs:SR c a base (base+n)) (hh:hint<n) (h:∀k,k<=n->(∀i,i<k->d8 c left key a base i=true)->(∀i,k<=i->i<n->d8 c left key a base i=false)->Q (some k) st) :
  wpS (model prog w) A E s (cx left key a base n hint) Q st:=by
 rw[uF];dsimp only;have up:∀{i j},i<=j->j<n->d8 c left key a base j=true->d8 c left key a base i=true:=λh1 h2 h3=>DP O hs h1 h2 h3;refine U1 (iL L hk hK hA hn hh ?_);dsimp only;have dn:∀{i j},i<=j->j<n->d8 c left key a base i=false->d8 c left key a base j=false:=λ{i j} h1 h2 h3=>by
  cases q:d8 c left key a base j
  ·rfl
  ·rw[up h1 h2 q]at h3;exact absurd h3 (by simp)
 cases MN:d8 c left key a base hint with
 |true =>
  rw[if_pos rfl];refine U1 (Wu (VU (I:=λx r aB=>aB=st/\∃be eN,r=(none,be,eN)/\hint+be<n/\be<eN/\x+1<=eN/\d8 c left key a base (hint+be)=true)
   (Q:=λr aB=>aB=st/\∃be eN,r=(none,be,eN)/\hint+be<n/\be<eN/\d8 c left key a base (hint+be)=true/\(n-hint<=eN\/(hint+eN<n/\d8 c left key a base (hint+eN)=false))) ?_ ?_ ?_) ?_)
  ·rintro x r aB _ hx ⟨rfl,be,eN,rfl,h1,h2,h3,h4⟩;dsimp only
   by_cases hr:eN >= n-hint
   ·rw[if_pos hr];exact U7 ⟨rfl,be,eN,rfl,h1,h2,h4,.inl hr⟩
   ·rw[if_neg hr];refine U1 (iL L hk hK hA hn (by omega) ?_)
    dsimp only;cases hb:d8 c left key a base (hint+eN)with
    |true =>
     rw[if_neg (by simp)]
     exact U7 ⟨rfl,eN,_,rfl,by omega,by omega,by omega,hb⟩
    |false =>
     rw[if_pos (by simp)]
     exact U7 ⟨rfl,be,eN,rfl,h1,h2,h4,.inr ⟨by omega,hb⟩⟩
  ·rintro r aB ⟨rfl,be,eN,rfl,h1,h2,h3,h4⟩;exact⟨rfl,be,eN,rfl,h1,h2,h4,.inl (by omega)⟩
  ·exact⟨rfl,0,1,rfl,by omega,by omega,by omega,MN⟩
  rintro r aB ⟨e0,be,eN,rfl,h1,h2,h4,h5⟩;rw[e0];dsimp only;have g1:∀i,i<hint+be+1->d8 c left key a base i=true:=λi hi=>up (j:=hint+be) (by omega) h1 h4
  have g2:∀i,hint+min eN (n-hint)<=i->i<n->d8 c left key a base i=false:=λi hi jT=>by
   rcases h5 with q|⟨q1,q2⟩
   ·omega
   ·exact dn (i:=hint+eN) (by omega) jT q2
  refine U1 (Wu (VU (I:=λx r aB=>aB=st/\∃u v,r=(none,u,v)/\u<=v/\v<=n/\v-u<=n-x/\(∀i,i<u->d8 c left key a base i=true)/\(∀i,v<=i->i<n->d8 c left key a base i=false))
   (Q:=λr aB=>aB=st/\∃v,r=(none,v,v)/\v<=n/\(∀i,i<v->d8 c left key a base i=true)/\(∀i,v<=i->i<n->d8 c left key a base i=false)) ?_ ?_ ?_) ?_)
  ·rintro x r aB _ hx ⟨rfl,u,v,rfl,h1,h2,h3,h4,h5⟩;dsimp only
   by_cases Kb:u >= v
   ·rw[if_pos Kb];obtain rfl:u=v:=by omega
    exact U7 ⟨rfl,u,rfl,h2,h4,h5⟩
   ·rw[if_neg Kb];refine U1 (iL L hk hK hA hn (by omega) ?_)
    dsimp only;cases hb:d8 c left key a base (u+(v-u) / 2)with
    |true =>
     rw[if_pos rfl];exact U7 ⟨rfl,_,v,rfl,by omega,h2,by omega,λi hi=>up (j:=u+(v-u) / 2) (by omega) (by omega) hb,h5⟩
    |false =>
     rw[if_neg (by simp)]
     exact U7 ⟨rfl,u,_,rfl,by omega,by omega,by omega,h4,λi hi jT=>dn (i:=u+(v-u) / 2) (by omega) (by omega) hb⟩
  ·rintro r aB ⟨rfl,u,v,rfl,h1,h2,h3,h4,h5⟩;obtain rfl:u=v:=by omega
   exact⟨rfl,u,rfl,h2,h4,h5⟩
  ·exact⟨rfl,_,_,rfl,by omega,by omega,by omega,by assumption,by assumption⟩
  ·rintro r aB ⟨rfl,v,rfl,h2,h4,h5⟩;exact U7 (h v h2 h4 h5)
 |false =>
  rw[if_neg (by simp)]
  refine U1 (Wu (VU (I:=λx r aB=>aB=st/\∃be eN,r=(none,be,eN)/\be<=hint/\be<eN/\x+1<=eN/\d8 c left key a base (hint-be)=false)
   (Q:=λr aB=>aB=st/\∃be eN,r=(none,be,eN)/\be<=hint/\be<eN/\d8 c left key a base (hint-be)=false/\(hint+1<=eN\/(eN<=hint/\d8 c left key a base (hint-eN)=true))) ?_ ?_ ?_) ?_)
  ·rintro x r aB _ hx ⟨rfl,be,eN,rfl,h1,h2,h3,h4⟩;dsimp only
   by_cases hr:eN >= hint+1
   ·rw[if_pos hr];exact U7 ⟨rfl,be,eN,rfl,h1,h2,h4,.inl hr⟩
   ·rw[if_neg hr];refine U1 (iL L hk hK hA hn (by omega) ?_)
    dsimp only;cases hb:d8 c left key a base (hint-eN)with
    |true =>
     rw[if_pos rfl];exact U7 ⟨rfl,be,eN,rfl,h1,h2,h4,.inr ⟨by omega,hb⟩⟩
    |false =>
     rw[if_neg (by simp)]
     exact U7 ⟨rfl,eN,_,rfl,by omega,by omega,by omega,hb⟩
  ·rintro r aB ⟨rfl,be,eN,rfl,h1,h2,h3,h4⟩;exact⟨rfl,be,eN,rfl,h1,h2,h4,.inl (by omega)⟩
  ·exact⟨rfl,0,1,rfl,by omega,by omega,by omega,MN⟩
  rintro r aB ⟨e0,be,eN,rfl,h1,h2,h4,h5⟩;rw[e0];dsimp only;have g1:∀i,i<hint+1-min eN (hint+1)->d8 c left key a base i=true:=λi hi=>by
   rcases h5 with q|⟨q1,q2⟩
   ·omega
   ·exact up (j:=hint-eN) (by omega) (by omega) q2
  have g2:∀i,hint-be<=i->i<n->d8 c left key a base i=false:=λi hi jT=>dn (i:=hint-be) hi jT h4;refine U1 (Wu (VU (I:=λx r aB=>aB=st/\∃u v,r=(none,u,v)/\u<=v/\v<=n/\v-u<=n-x/\(∀i,i<u->d8 c left key a base i=true)/\(∀i,v<=i->i<n->d8 c left key a base i=false))
   (Q:=λr aB=>aB=st/\∃v,r=(none,v,v)/\v<=n/\(∀i,i<v->d8 c left key a base i=true)/\(∀i,v<=i->i<n->d8 c left key a base i=false)) ?_ ?_ ?_) ?_)
  ·rintro x r aB _ hx ⟨rfl,u,v,rfl,h1,h2,h3,h4,h5⟩;dsimp only
   by_cases Kb:u >= v
   ·rw[if_pos Kb];obtain rfl:u=v:=by omega
    exact U7 ⟨rfl,u,rfl,h2,h4,h5⟩
   ·rw[if_neg Kb];refine U1 (iL L hk hK hA hn (by omega) ?_)
    dsimp only;cases hb:d8 c left key a base (u+(v-u) / 2)with
    |true =>
     rw[if_pos rfl];exact U7 ⟨rfl,_,v,rfl,by omega,h2,by omega,λi hi=>up (j:=u+(v-u) / 2) (by omega) (by omega) hb,h5⟩
    |false =>
     rw[if_neg (by simp)]
     exact U7 ⟨rfl,u,_,rfl,by omega,by omega,by omega,h4,λi hi jT=>dn (i:=u+(v-u) / 2) (by omega) (by omega) hb⟩
  ·rintro r aB ⟨rfl,u,v,rfl,h1,h2,h3,h4,h5⟩;obtain rfl:u=v:=by omega
   exact⟨rfl,u,rfl,h2,h4,h5⟩
  ·exact⟨rfl,_,_,rfl,by omega,by omega,by omega,by assumption,by assumption⟩
  ·rintro r aB ⟨rfl,v,rfl,h2,h4,h5⟩;exact U7 (h v h2 h4 h5)
end
section
variable {c:UZ->UZ->Bool}{p q:Array UZ}{t:List UZ}{i j:Nat}
theorem vd {a:Array UZ}{i:Nat}(h:i<a.size):a.toList.take (i+1)=a.toList.take i++[el a i]:=by
 have e:a.toList[i]?=some (el a i):=by rw[Vl];exact jn h
 rw[List.take_succ,e];rfl
theorem wx {a:Array UZ}{i:Nat}(h:i<a.size):a.toList.drop i=el a i::a.toList.drop (i+1):=by
 have hl:i<a.toList.length:=by rw[Vn];exact h
 have e:a.toList[i]=el a i:=by
  have h1:=U3 hl;rw[Vl,jn h]at h1;exact(VQ h1).symm
 rw[VN hl,e]
structure Mg (c:UZ->UZ->Bool)(p q:Array UZ)(t:List UZ)(i j:Nat):Prop where
 hi:i<=p.size
 hj:j<=q.size
 perm:t.Perm (p.toList.take i++q.toList.take j)
 j4:t.Pairwise (le c)
 ap:∀x∈t,∀k,i<=k->k<p.size->le c x (el p k)
 aq:∀x∈t,∀k,j<=k->k<q.size->le c x (el q k)
def Gd (c:UZ->UZ->Bool)(p q:Array UZ)(t:List UZ):Prop:=t.Perm (p.toList++q.toList)/\t.Pairwise (le c)
theorem qJ {x:UZ}(h:t.Pairwise (le c))(hx:∀y∈t,le c y x):(t++[x]).Pairwise (le c):=by
 rw[W7];exact⟨h,X7 _ _,λy hy z hz=>by rw[U8.mp hz];exact hx y hy⟩
theorem Mg.j7 (m:Mg c p q t i j)(hj:j<q.size)(sq:SR c q 0 q.size)(hle:∀k,i<=k->k<p.size->le c (el q j) (el p k)):Mg c p q (t++[el q j]) i (j+1) where
 hi:=m.hi
 hj:=hj
 perm:=by
  rw[vd hj,<- VW];exact m.perm.append_right _
 j4:=qJ m.j4 λy hy=>m.aq y hy j (UU _) hj
 ap:=λx hx k h1 h2=>by
  rcases Vp.mp hx with h|h
  ·exact m.ap x h k h1 h2
  ·rw[U8.mp h];exact hle k h1 h2
 aq:=λx hx k h1 h2=>by
  rcases Vp.mp hx with h|h
  ·exact m.aq x h k (by lia) h2
  ·rw[U8.mp h];exact sq j k (by lia) (by lia) h2
theorem Mg.j8 (m:Mg c p q t i j)(hi:i<p.size)(sp:SR c p 0 p.size)(hle:∀k,j<=k->k<q.size->le c (el p i) (el q k)):Mg c p q (t++[el p i]) (i+1) j where
 hi:=hi
 hj:=m.hj
 perm:=by
  rw[vd hi];refine(m.perm.append_right _).trans ?_;rw[VW,VW];exact List.Perm.append_left _ List.perm_append_comm
 j4:=qJ m.j4 λy hy=>m.ap y hy i (UU _) hi
 ap:=λx hx k h1 h2=>by
  rcases Vp.mp hx with h|h
  ·exact m.ap x h k (by lia) h2
  ·rw[U8.mp h];exact sp i k (by lia) (by lia) h2
 aq:=λx hx k h1 h2=>by
  rcases Vp.mp hx with h|h
  ·exact m.aq x h k h1 h2
  ·rw[U8.mp h];exact hle k h1 h2
theorem gH {a:Array UZ}{i k:Nat}(h:i+k<a.size):(a.toList.drop i).take (k+1)=(a.toList.drop i).take k++[el a (i+k)]:=by
 have e:(a.toList.drop i)[k]?=some (el a (i+k)):=by rw[List.getElem?_drop,Vl];exact jn h
 rw[List.take_succ,e];rfl
theorem Mg.iR (m:Mg c p q t i j)(sp:SR c p 0 p.size):∀(k:Nat),i+k<=p.size->(∀x,x<k->∀y,j<=y->y<q.size->le c (el p (i+x)) (el q y))->Mg c p q (t++(p.toList.drop i).take k) (i+k) j
 |0,_,_=>by simpa using m
 |k+1,h,hle=>by
  have m':=Mg.iR m sp k (by lia) λx hx=>hle x (by lia)
  rw[gH (by lia),<- VW,<- X3]
  exact m'.j8 (by lia) sp (hle k (by lia))
theorem Mg.iQ (m:Mg c p q t i j)(sq:SR c q 0 q.size):∀(k:Nat),j+k<=q.size->(∀x,x<k->∀y,i<=y->y<p.size->le c (el q (j+x)) (el p y))->Mg c p q (t++(q.toList.drop j).take k) i (j+k)
 |0,_,_=>by simpa using m
 |k+1,h,hle=>by
  have m':=Mg.iQ m sq k (by lia) λx hx=>hle x (by lia)
  rw[gH (by lia),<- VW,<- X3]
  exact m'.j7 (by lia) sq (hle k (by lia))
theorem Mg.full (m:Mg c p q t p.size q.size):Gd c p q t:=by
 refine⟨?_,m.j4⟩;have h:=m.perm;rw[Wk (by rw[Vn];lia),Wk (by rw[Vn];lia)]at h
 exact h
theorem ck (a:Array UZ)(i j:Nat):(a.extract i j).toList=(a.toList.drop i).take (j-i):=by
 rw[Array.toList_extract,List.extract_eq_take_drop]
theorem sD {a:Array UZ}{i j:Nat}(h:a.size<=i):(a.toList.drop i).take (j-i)=[]:=by
 rw[WQ (by rw[Vn];exact h)]
 simp
theorem Mg.done {to:Array UZ}(m:Mg c p q to.toList i j)(sp:SR c p 0 p.size)(sq:SR c q 0 q.size)(h:i=p.size\/j=q.size):Gd c p q (to++p.extract i p.size++q.extract j q.size).toList:=by
 rw[Wo,Wo,ck,ck];rcases h with rfl|rfl
 ·rw[sD (UU _),Wr];have m':=m.iQ sq (q.size-j) (by have:=m.hj;lia) λx hx y h1 h2=>by lia
  rw[show j+(q.size-j)=q.size by have:=m.hj;lia]at m'
  exact m'.full
 ·rw[sD (a:=q) (UU _),Wr];have m':=m.iR sp (p.size-i) (by have:=m.hi;lia) λx hx y h1 h2=>by lia
  rw[show i+(p.size-i)=p.size by have:=m.hi;lia]at m'
  exact m'.full
theorem Mg.tail {to:Array UZ}(O:cm c)(m:Mg c p q to.toList i j)(sp:SR c p 0 p.size)(sq:SR c q 0 q.size)(h:i+1=p.size)(hl:∀y,y<q.size->c (el q y) (el p (p.size-1))=true):Gd c p q (to++q.extract j q.size++p.extract i p.size).toList:=by
 rw[Wo,Wo,ck,ck];have m':=m.iQ sq (q.size-j) (by have:=m.hj;lia) λx hx y h1 h2=>by
  rw[show y=p.size-1 by lia]
  exact O.of_lt (hl _ (by lia))
 rw[show j+(q.size-j)=q.size by have:=m.hj;lia]at m'
 have m2:=m'.iR sp (p.size-i) (by have:=m.hi;lia) λx hx y h1 h2=>by lia
 rw[show i+(p.size-i)=p.size by have:=m.hi;lia]at m2
 exact m2.full
theorem wH (to a:Array UZ)(i k:Nat):(to++a.extract i (i+k)).toList=to.toList++(a.toList.drop i).take k:=by
 rw[Wo,ck,show i+k-i=k by lia]
theorem Mg.start (O:cm c)(sp:SR c p 0 p.size)(sq:SR c q 0 q.size)(hq:0<q.size)(hp:0<p.size)(h:c (el q 0) (el p 0)=true):Mg c p q [el q 0] 0 1:=by
 have m:Mg c p q [] 0 0:=⟨Ve _,Ve _,(by simp),.nil,(λx hx=>by cases hx),(λx hx=>by cases hx)⟩
 exact m.j7 hq sq λk _ hk=>O.trans (O.of_lt h) (sp 0 k (by lia) (by lia) hk)
end
structure jZ (st aB:Vq):Prop where
 kind:kindOf aB=kindOf st
 arr:Vt aB=Vt st
 pend:Vh aB=Vh st
 fail:Xq aB=Xq st
theorem jZ.refl (st:Vq):jZ st st:=⟨rfl,rfl,rfl,rfl⟩
theorem jZ.EK {st aB:Vq}(e:jZ st aB)(g:Nat):jZ st (cy aB g):=⟨e.kind,e.arr,e.pend,e.fail⟩
abbrev RI:=Array UZ×Nat×Nat×Nat×Nat
abbrev RG:=Array UZ×Nat×Nat×Nat×Nat×Nat
abbrev RO:=Array UZ×Nat×Nat×Nat
def NZ (p q t:Array UZ)(i j mg m n:Nat):StateT Vq Sem (ForInStep (Option (Array UZ)×RG)):=do
 let z <- elem' p i
 if (i+1+1==p.size)=true then pure (.done (some (t.push z++q.extract j++p.extract (i+1)),t.push z,i+1,j,mg,m,n))
 else if (decide (m<7)&&decide (n<7))=true then pure (.done (none,t.push z,i+1,j,mg,m,n)) else pure (.yield (none,t.push z,i+1,j,mg,m,n))
def N1 (p q t:Array UZ)(i j mg m n:Nat):StateT Vq Sem (ForInStep (Option (Array UZ)×RG)):=do
 let y <- elem' q j
 if (j+1==q.size)=true then pure (.done (some (t.push y++p.extract i++q.extract (j+1)),t.push y,i,j+1,mg,m,n))
 else do
  let x <- elem' p i
  let r <- cx true x q (j+1) (q.size-(j+1)) 0
  match r with
  |some k=>if k>0 then (if (j+1+k==q.size)=true then pure (.done (some (t.push y++q.extract (j+1) (j+1+k)++p.extract i++q.extract (j+1+k)),t.push y++q.extract (j+1) (j+1+k),i,j+1+k,mg,m,k))
    else NZ p q (t.push y++q.extract (j+1) (j+1+k)) i (j+1+k) mg m k) else NZ p q (t.push y) i (j+1) mg m k
  |_=>pure (.done (some (t.push y++p.extract i++q.extract (j+1)),t.push y,i,j+1,mg,m,n))
def JZ (p q t:Array UZ)(i j mg m n:Nat):StateT Vq Sem (ForInStep (Option (Array UZ)×RG)):=do
 modify λst=>cy st mg
 let y <- elem' q j
 let r <- cx false y p i (p.size-i) 0
 match r with
 |some k=>if k>0 then (if (i+k+1==p.size)=true then pure (.done (some (t++p.extract i (i+k)++q.extract j++p.extract (i+k)),t++p.extract i (i+k),i+k,j,mg,k,n))
   else if (i+k==p.size)=true then pure (.done (some (t++p.extract i (i+k)++p.extract (i+k)++q.extract j),t++p.extract i (i+k),i+k,j,mg,k,n))
   else N1 p q (t++p.extract i (i+k)) (i+k) j mg k n) else N1 p q t i j mg k n
 |_=>pure (.done (some (t++p.extract i++q.extract j),t,i,j,mg,m,n))
def Sh (p q:Array UZ)(s:Option (Array UZ)×RG):StateT Vq Sem (ForInStep (Option (Array UZ)×RG)):=if s.2.2.2.2.1>1 then JZ p q s.2.1 s.2.2.1 s.2.2.2.1 (s.2.2.2.2.1-1) s.2.2.2.2.2.1 s.2.2.2.2.2.2 else JZ p q s.2.1 s.2.2.1 s.2.2.2.1 s.2.2.2.2.1 s.2.2.2.2.2.1 s.2.2.2.2.2.2
def JY (p q:Array UZ)(mg:Nat)(s:Option (Array UZ)×RI):StateT Vq Sem (ForInStep (Option (Array UZ)×RI)):=do
 let y <- elem' q s.2.2.2.1
 if (s.2.2.2.1+1==q.size)=true then pure (.done (some (s.2.1.push y++p.extract s.2.2.1++q.extract (s.2.2.2.1+1)),s.2.1.push y,s.2.2.1,s.2.2.2.1+1,0,s.2.2.2.2.2+1))
 else if s.2.2.2.2.2+1 >= mg then pure (.done (none,s.2.1.push y,s.2.2.1,s.2.2.2.1+1,0,s.2.2.2.2.2+1)) else pure (.yield (none,s.2.1.push y,s.2.2.1,s.2.2.2.1+1,0,s.2.2.2.2.2+1))
def JX (p q:Array UZ)(mg:Nat)(s:Option (Array UZ)×RI):StateT Vq Sem (ForInStep (Option (Array UZ)×RI)):=do
 let x <- elem' p s.2.2.1
 if (s.2.2.1+1+1==p.size)=true then pure (.done (some (s.2.1.push x++q.extract s.2.2.2.1++p.extract (s.2.2.1+1)),s.2.1.push x,s.2.2.1+1,s.2.2.2.1,s.2.2.2.2.1+1,0))
 else if s.2.2.2.2.1+1 >= mg then pure (.done (none,s.2.1.push x,s.2.2.1+1,s.2.2.2.1,s.2.2.2.2.1+1,0)) else pure (.yield (none,s.2.1.push x,s.2.2.1+1,s.2.2.2.1,s.2.2.2.2.1+1,0))
def NY (p q:Array UZ)(mg:Nat)(s:Option (Array UZ)×RI):StateT Vq Sem (ForInStep (Option (Array UZ)×RI)):=do
 let y <- elem' q s.2.2.2.1
 let x <- elem' p s.2.2.1
 let r <- lt' y x
 match r with
 |some Fi=>if Fi=true then JY p q mg s else JX p q mg s
 |_=>pure (.done (some (s.2.1++p.extract s.2.2.1++q.extract s.2.2.2.1),s.2.1,s.2.2.1,s.2.2.2.1,s.2.2.2.2.1,s.2.2.2.2.2))
def QE (p q:Array UZ)(s:Option (Array UZ)×RO):StateT Vq Sem (ForInStep (Option (Array UZ)×RO)):=do
 let s1 <- forIn [:p.size+q.size] ((none,s.2.1,s.2.2.1,s.2.2.2.1,0,0):Option (Array UZ)×RI) λ_ r=>NY p q s.2.2.2.2 r
 match s1.1 with
 |some r=>pure (.done (some r,s1.2.1,s1.2.2.1,s1.2.2.2.1,s.2.2.2.2))
 |none=>do
  liftM (rule "list.sort.gallop")
  let s2 <- forIn [:p.size+q.size] ((none,s1.2.1,s1.2.2.1,s1.2.2.2.1,s.2.2.2.2+1,s1.2.2.2.2.1,s1.2.2.2.2.2):Option (Array UZ)×RG) λ_ r=>Sh p q r
  match s2.1 with
  |some r=>pure (.done (some r,s2.2.1,s2.2.2.1,s2.2.2.2.1,s2.2.2.2.2.1))
  |none=>do
   modify λst=>cy st (s2.2.2.2.2.1+1)
   pure (.yield (none,s2.2.1,s2.2.2.1,s2.2.2.2.1,s2.2.2.2.2.1+1))
theorem rD (p q:Array UZ):jb p q=(do
  liftM (rule "list.sort.merge-lo")
  let y <- elem' q 0
  if (1==q.size)=true then pure (#[y]++p.extract 0++q.extract 1)
  else if (0+1==p.size)=true then pure (#[y]++q.extract 1++p.extract 0)
  else do
   let st <- get
   let s <- forIn [:p.size+q.size] ((none,#[y],0,1,gallopOf st):Option (Array UZ)×RO) λ_ s=>QE p q s
   match s.1 with
   |some r=>pure r
   |none=>liftM (unsupported "internal:list.sort.merge-bound" : Sem (Array UZ))):=by
 rw[rC];dsimp only;refine congrArg (bind _) (funext λ_=>?_);refine congrArg (bind _) (funext λy=>?_);refine congrArg (ite _ _) (congrArg (ite _ _) ?_);refine congrArg (bind _) (funext λy=>?_);refine congr (congrArg bind (congrArg _ (funext λ_=>funext λs=>?_))) (funext λs=>?_)
 ·refine congr (congrArg bind (congrArg _ (funext λ_=>funext λs=>?_))) (funext λs=>?_)
  ·rfl
  ·cases s.1
   ·refine congrArg (bind _) (funext λ_=>?_);refine congr (congrArg bind (congrArg _ (funext λ_=>funext λs=>?_))) (funext λs=>?_)
    ·rfl
    ·cases s.1 <;> rfl
   ·rfl
 ·cases s.1 <;> rfl
section
variable {prog:UX}{w:Vb}{A:VZ}{E:UR->UT->Prop}{s:UT}{κ:Xh}{c:UZ->UZ->Bool}{S:UZ->Prop}{p q:Array UZ}
theorem yH {st:Vq}{Q:ForInStep (Option (Array UZ)×RG)->Vq->Prop}{t:Array UZ}{i j mg m n:Nat}(O:cm c)(sp:SR c p 0 p.size)(sq:SR c q 0 q.size)(hl:∀y,y<q.size->c (el q y) (el p (p.size-1))=true)(m3:Mg c p q t.toList i j)(hi:i+1<p.size)(g3:∀y,j<=y->y<q.size->le c (el p i) (el q y))
  (hd:∀out r,Gd c p q out.toList->Q (.done (some out,r)) st) (hn:∀t' m n,Mg c p q t'.toList (i+1) j->i+1+1<p.size->Q (.done (none,t',i+1,j,mg,m,n)) st/\Q (.yield (none,t',i+1,j,mg,m,n)) st):wpS (model prog w) A E s (NZ p q t i j mg m n) Q st:=by
 refine U1 (aO (by lia) ?_)
 have m4:Mg c p q (t.push (el p i)).toList (i+1) j:=by
  rw[W3];exact m3.j8 (by lia) sp g3
 by_cases e5:(i+1+1==p.size)=true
 ·rw[if_pos e5];exact U7 (hd _ _ (m4.tail O sp sq (by simpa using e5) hl))
 rw[if_neg e5];have h5:i+1+1≠p.size:=by simpa using e5
 obtain⟨h6,h7⟩:=hn (t.push (el p i)) m n m4 (by lia)
 split
 ·exact U7 h6
 ·exact U7 h7
theorem yI {st:Vq}{Q:ForInStep (Option (Array UZ)×RG)->Vq->Prop}{t:Array UZ}{i j mg m n:Nat}(O:cm c)(L:f6 prog w A E s κ c S)(hk:kindOf st=κ)(Sp:∀i,i<p.size->S (el p i))(Sq:∀i,i<q.size->S (el q i))(sp:SR c p 0 p.size)(sq:SR c q 0 q.size)(hl:∀y,y<q.size->c (el q y) (el p (p.size-1))=true)(m1:Mg c p q t.toList i j)(hi:i+1<p.size)(hj:j<q.size)(g1:∀y,i<=y->y<p.size->le c (el q j) (el p y))
  (hd:∀out r,Gd c p q out.toList->Q (.done (some out,r)) st) (hn:∀t' j' m n,Mg c p q t'.toList (i+1) j'->i+1+1<p.size->j<j'->j'<q.size->Q (.done (none,t',i+1,j',mg,m,n)) st/\Q (.yield (none,t',i+1,j',mg,m,n)) st):wpS (model prog w) A E s (N1 p q t i j mg m n) Q st:=by
 refine U1 (aO hj ?_);have m2:Mg c p q (t.push (el q j)).toList i (j+1):=by
  rw[W3];exact m1.j7 hj sq g1
 by_cases e3:(j+1==q.size)=true
 ·rw[if_pos e3];exact U7 (hd _ _ (m2.done sp sq (.inr (by simpa using e3))))
 rw[if_neg e3];have h3:j+1≠q.size:=by simpa using e3
 refine U1 (aO (by lia) (U1 (dz O L hk (Sp _ (by lia)) (λx hx=>Sq _ (by lia)) (by lia) (λa b h1 h2 h3=>sq a b (by lia) h2 (by lia)) (by lia) λk k1 k2 k3=>?_)))
 have g3:∀y,j+1+k<=y->y<q.size->le c (el p i) (el q y):=λy h1 h2=>by
  have:=k3 (y-(j+1)) (by lia) (by lia)
  unfold d8 at this;rw[if_pos rfl,show j+1+(y-(j+1))=y by lia]at this
  exact this
 dsimp only
 by_cases xS:k>0
 ·rw[if_pos xS];have m3:Mg c p q (t.push (el q j)++q.extract (j+1) (j+1+k)).toList i (j+1+k):=by
   rw[wH];exact m2.iQ sq k (by lia) λx hx y h1 h2=>O.trans (O.of_lt (show c (el q (j+1+x)) (el p i)=true from k2 x hx)) (sp _ y (by lia) h1 h2)
  by_cases e4:(j+1+k==q.size)=true
  ·rw[if_pos e4];exact U7 (hd _ _ (m3.done sp sq (.inr (by simpa using e4))))
  rw[if_neg e4];have h4:j+1+k≠q.size:=by simpa using e4
  exact yH O sp sq hl m3 hi g3 hd λt' m n h1 h2=>hn t' _ m n h1 h2 (by lia) (by lia)
 ·rw[if_neg xS];exact yH O sp sq hl m2 hi (λy h1 h2=>g3 y (by lia) h2) hd λt' m n h1 h2=>hn t' _ m n h1 h2 (by lia) (by lia)
theorem Fe {st:Vq}{Q:ForInStep (Option (Array UZ)×RG)->Vq->Prop}{t:Array UZ}{i j mg m n:Nat}(O:cm c)(L:f6 prog w A E s κ c S)(hk:kindOf st=κ)(Sp:∀i,i<p.size->S (el p i))(Sq:∀i,i<q.size->S (el q i))(sp:SR c p 0 p.size)(sq:SR c q 0 q.size)(hl:∀y,y<q.size->c (el q y) (el p (p.size-1))=true)(m0:Mg c p q t.toList i j)(hi:i+1<p.size)(hj:j<q.size)
  (hd:∀out r,Gd c p q out.toList->Q (.done (some out,r)) (cy st mg)) (hn:∀t' i' j' m n,Mg c p q t'.toList i' j'->i'+1<p.size->j'<q.size->i+j<i'+j'->Q (.done (none,t',i',j',mg,m,n)) (cy st mg)/\Q (.yield (none,t',i',j',mg,m,n)) (cy st mg)):wpS (model prog w) A E s (JZ p q t i j mg m n) Q st:=by
 refine U1 (W5 (U1 (aO hj (U1 (dz O L hk (Sq _ hj) (λx hx=>Sp _ (by lia)) (by lia) (λa b h1 h2 h3=>sp a b (by lia) h2 (by lia)) (by lia) λk k1 k2 k3=>?_)))))
 have g0:∀x,x<k->le c (el p (i+x)) (el q j):=λx hx=>by
  have:=k2 x hx;unfold d8 at this;rw[if_neg (by simp),X0]at this
  exact this
 have g1:∀y,i+k<=y->y<p.size->le c (el q j) (el p y):=λy h1 h2=>by
  have:=k3 (y-i) (by lia) (by lia)
  unfold d8 at this;rw[if_neg (by simp),YE,show i+(y-i)=y by lia]at this
  exact O.of_lt this
 have UD:i+k<p.size:=by
  rcases Xb (i+k) p.size with c5|Q0
  ·exact c5
  ·have h1:=g0 (p.size-1-i) (by lia)
   rw[show i+(p.size-1-i)=p.size-1 by lia]at h1
   exact absurd ((hl j hj).symm.trans h1) (by simp)
 dsimp only
 by_cases xS:k>0
 ·rw[if_pos xS];have m1:Mg c p q (t++p.extract i (i+k)).toList (i+k) j:=by
   rw[wH];exact m0.iR sp k (by lia) λx hx y h1 h2=>O.trans (g0 x hx) (sq j y (by lia) h1 h2)
  by_cases e1:(i+k+1==p.size)=true
  ·rw[if_pos e1];exact U7 (hd _ _ (m1.tail O sp sq (by simpa using e1) hl))
  rw[if_neg e1];have xV:i+k+1≠p.size:=by simpa using e1
  rw[if_neg (by simp;lia)]
  exact yI O L hk Sp Sq sp sq hl m1 (by lia) hj g1 hd λt' j' m n h1 h2 h3 h4=>hn t' _ j' m n h1 h2 h4 (by lia)
 ·rw[if_neg xS];exact yI O L hk Sp Sq sp sq hl m0 hi hj (λy h1 h2=>g1 y (by lia) h2) hd λt' j' m n h1 h2 h3 h4=>hn t' _ j' m n h1 h2 h4 (by lia)
theorem Fd {st:Vq}{Q:ForInStep (Option (Array UZ)×RI)->Vq->Prop}{t:Array UZ}{i j mg ma na:Nat}(O:cm c)(L:f6 prog w A E s κ c S)(hk:kindOf st=κ)(Sp:∀i,i<p.size->S (el p i))(Sq:∀i,i<q.size->S (el q i))(sp:SR c p 0 p.size)(sq:SR c q 0 q.size)(hl:∀y,y<q.size->c (el q y) (el p (p.size-1))=true)(m:Mg c p q t.toList i j)(hi:i+1<p.size)(hj:j<q.size)
  (hd:∀out r,Gd c p q out.toList->Q (.done (some out,r)) st) (hn:∀t' i' j' m n,Mg c p q t'.toList i' j'->i'+1<p.size->j'<q.size->i+j<i'+j'->Q (.done (none,t',i',j',m,n)) st/\Q (.yield (none,t',i',j',m,n)) st):wpS (model prog w) A E s (NY p q mg (none,t,i,j,ma,na)) Q st:=by
 unfold NY JY JX;dsimp only;refine U1 (aO hj (U1 (aO (by lia) (U1 (L _ _ st _ (Sq _ hj) (Sp _ (by lia)) hk ?_)))))
 dsimp only;cases hc:c (el q j) (el p i)with
 |true =>
  rw[if_pos rfl];refine U1 (aO hj ?_);have m1:Mg c p q (t.push (el q j)).toList i (j+1):=by
   rw[W3];exact m.j7 hj sq λk h1 h2=>O.trans (O.of_lt hc) (sp i k (by lia) h1 h2)
  by_cases e3:(j+1==q.size)=true
  ·rw[if_pos e3];exact U7 (hd _ _ (m1.done sp sq (.inr (by simpa using e3))))
  rw[if_neg e3];have h3:j+1≠q.size:=by simpa using e3
  obtain⟨h6,h7⟩:=hn _ _ _ 0 (na+1) m1 hi (by lia) (by lia)
  split
  ·exact U7 h6
  ·exact U7 h7
 |false =>
  rw[if_neg (by simp)]
  refine U1 (aO (by lia) ?_)
  have m1:Mg c p q (t.push (el p i)).toList (i+1) j:=by
   rw[W3];exact m.j8 (by lia) sp λk h1 h2=>O.trans (show le c (el p i) (el q j) from hc) (sq j k (by lia) h1 h2)
  by_cases e3:(i+1+1==p.size)=true
  ·rw[if_pos e3];exact U7 (hd _ _ (m1.tail O sp sq (by simpa using e3) hl))
  rw[if_neg e3];have h3:i+1+1≠p.size:=by simpa using e3
  obtain⟨h6,h7⟩:=hn _ _ _ (ma+1) 0 m1 (by lia) hj (by lia)
  split
  ·exact U7 h6
  ·exact U7 h7
theorem tF (O:cm c)(L:f6 prog w A E s κ c S){Q:Array UZ->Vq->Prop}{st:Vq}(hk:kindOf st=κ)(Sp:∀i,i<p.size->S (el p i))(Sq:∀i,i<q.size->S (el q i))(sp:SR c p 0 p.size)(sq:SR c q 0 q.size)
  (hp:0<p.size) (hq:0<q.size) (hf:c (el q 0) (el p 0)=true) (hl:∀y,y<q.size->c (el q y) (el p (p.size-1))=true) (h:∀to aB,jZ st aB->Gd c p q to.toList->Q to aB) :
  wpS (model prog w) A E s (jb p q) Q st:=by
 rw[rD];refine U1 (Yp (Xz ⟨rfl,?_⟩));refine U1 (aO hq ?_);have m0:Mg c p q (#[el q 0]:Array UZ).toList 0 1:=Mg.start O sp sq hq hp hf
 by_cases h1:(1==q.size)=true
 ·rw[if_pos h1];exact U7 (h _ st (jZ.refl st) (m0.done sp sq (.inr (by simpa using h1))))
 rw[if_neg h1]
 by_cases h2:(0+1==p.size)=true
 ·rw[if_pos h2];exact U7 (h _ st (jZ.refl st) (m0.tail O sp sq (by simpa using h2) hl))
 rw[if_neg h2];refine U1 (XW ?_);refine U1 (Wu (VU
  (I:=λx r aB=>jZ st aB/\∃to i j mg,r=(none,to,i,j,mg)/\Mg c p q to.toList i j/\i+1<p.size/\j<q.size/\x<i+j)
  (Q:=λr aB=>jZ st aB/\∃out r',r=(some out,r')/\Gd c p q out.toList) ?_ ?_ ?_) ?_)
 ·rintro x r aB _ hx ⟨e,to,i,j,mg,rfl,m,hi,hj,hb⟩;unfold QE;dsimp only;refine U1 (Wu (VU
   (I:=λy r aB=>jZ st aB/\∃to i j m n,r=(none,to,i,j,m,n)/\Mg c p q to.toList i j/\i+1<p.size/\j<q.size/\x+min y 1<i+j)
   (Q:=λr aB=>jZ st aB/\((∃out r',r=(some out,r')/\Gd c p q out.toList)\/∃to i j m n,r=(none,to,i,j,m,n)/\Mg c p q to.toList i j/\i+1<p.size/\j<q.size/\x+1<i+j)) ?_ ?_ ?_) ?_)
  ·rintro y r f_ _ hy ⟨e2,to,i,j,ma,na,rfl,m,hi,hj,hb⟩;exact Fd O L (e2.kind.trans hk) Sp Sq sp sq hl m hi hj (λout r h=>⟨e2,.inl ⟨_,_,rfl,h⟩⟩) λt' i' j' m n h1 h2 h3 h4=>⟨⟨e2,.inr ⟨_,_,_,_,_,rfl,h1,h2,h3,by lia⟩⟩,⟨e2,_,_,_,_,_,rfl,h1,h2,h3,by lia⟩⟩
  ·rintro r f_ ⟨e2,to,i,j,ma,na,rfl,m,hi,hj,hb⟩;exact⟨e2,.inr ⟨_,_,_,_,_,rfl,m,hi,hj,by lia⟩⟩
  ·exact⟨e,_,_,_,_,_,rfl,m,hi,hj,by lia⟩
  rintro r f_ ⟨e2,⟨out,r',rfl,g⟩|⟨to,i,j,ma,na,rfl,m,hi,hj,hb⟩⟩
  ·exact U7 ⟨e2,_,_,rfl,g⟩
  dsimp only;refine U1 (Yp (Xz ⟨rfl,?_⟩));refine U1 (Wu (VU
   (I:=λy r aB=>jZ st aB/\∃to i j mg m n,r=(none,to,i,j,mg,m,n)/\Mg c p q to.toList i j/\i+1<p.size/\j<q.size/\x+1<i+j)
   (Q:=λr aB=>jZ st aB/\((∃out r',r=(some out,r')/\Gd c p q out.toList)\/∃to i j mg m n,r=(none,to,i,j,mg,m,n)/\Mg c p q to.toList i j/\i+1<p.size/\j<q.size/\x+1<i+j)) ?_ ?_ ?_) ?_)
  ·rintro y r f_ _ hy ⟨e2,to,i,j,mg,ma,na,rfl,m,hi,hj,hb⟩;show wpS (model prog w) A E s (if mg>1 then JZ p q to i j (mg-1) ma na else JZ p q to i j mg ma na) _ f_
   split <;> exact Fe O L (e2.kind.trans hk) Sp Sq sp sq hl m hi hj (λout r h=>⟨e2.EK _,.inl ⟨_,_,rfl,h⟩⟩) λt' i' j' m n h1 h2 h3 h4=>⟨⟨e2.EK _,.inr ⟨_,_,_,_,_,_,rfl,h1,h2,h3,by lia⟩⟩,⟨e2.EK _,_,_,_,_,_,_,rfl,h1,h2,h3,by lia⟩⟩
  ·rintro r f_ ⟨e2,to,i,j,mg,ma,na,rfl,m,hi,hj,hb⟩;exact⟨e2,.inr ⟨_,_,_,_,_,_,rfl,m,hi,hj,hb⟩⟩
  ·exact⟨e2,_,_,_,_,_,_,rfl,m,hi,hj,hb⟩
  rintro r f_ ⟨e2,⟨out,r',rfl,g⟩|⟨to,i,j,mg,ma,na,rfl,m,hi,hj,hb⟩⟩
  ·exact U7 ⟨e2,_,_,rfl,g⟩
  dsimp only;refine U1 (W5 (U7 ⟨e2.EK _,_,_,_,_,rfl,m,hi,hj,by lia⟩))
 ·rintro r aB ⟨e,to,i,j,mg,rfl,m,hi,hj,hb⟩
  exfalso
  rw[show max 0 (p.size+q.size)=p.size+q.size by lia]at hb
  lia
 ·exact⟨jZ.refl st,_,_,_,_,rfl,m0,by simp at h2;lia,by simp at h1;lia,by lia⟩
 ·rintro r aB ⟨e,out,r',rfl,g⟩;exact U7 (h _ aB e g)
end
section
variable {c:UZ->UZ->Bool}{p q:Array UZ}{t:List UZ}{i j:Nat}
structure Mh (c:UZ->UZ->Bool)(p q:Array UZ)(t:List UZ)(i j:Nat):Prop where
 hi:i<=p.size
 hj:j<=q.size
 perm:t.Perm (p.toList.drop i++q.toList.drop j)
 j4:t.Pairwise (le c)
 ap:∀x∈t,∀k,k<i->le c (el p k) x
 aq:∀x∈t,∀k,k<j->le c (el q k) x
theorem oe {a:Array UZ}{i:Nat}(h0:0<i)(h:i<=a.size):a.toList.drop (i-1)=el a (i-1)::a.toList.drop i:=by
 rw[wx (by lia),show i-1+1=i by lia]
theorem Mh.j8 (m:Mh c p q t i j)(h0:0<i)(sp:SR c p 0 p.size)(hle:∀k,k<j->le c (el q k) (el p (i-1))):Mh c p q (el p (i-1)::t) (i-1) j where
 hi:=by have:=m.hi;lia
 hj:=m.hj
 perm:=by
  rw[oe h0 m.hi];exact m.perm.cons _
 j4:=VH.mpr ⟨λx hx=>m.ap x hx _ (by lia),m.j4⟩
 ap:=λx hx k hk=>by
  rcases U0.mp hx with rfl|h
  ·exact sp k (i-1) (by lia) (by lia) (by have:=m.hi;lia)
  ·exact m.ap x h k (by lia)
 aq:=λx hx k hk=>by
  rcases U0.mp hx with rfl|h
  ·exact hle k hk
  ·exact m.aq x h k hk
theorem Mh.j7 (m:Mh c p q t i j)(h0:0<j)(sq:SR c q 0 q.size)(hle:∀k,k<i->le c (el p k) (el q (j-1))):Mh c p q (el q (j-1)::t) i (j-1) where
 hi:=m.hi
 hj:=by have:=m.hj;lia
 perm:=by
  rw[oe h0 m.hj];exact(m.perm.cons _).trans List.perm_middle.symm
 j4:=VH.mpr ⟨λx hx=>m.aq x hx _ (by lia),m.j4⟩
 ap:=λx hx k hk=>by
  rcases U0.mp hx with rfl|h
  ·exact hle k hk
  ·exact m.ap x h k hk
 aq:=λx hx k hk=>by
  rcases U0.mp hx with rfl|h
  ·exact sq k (j-1) (by lia) (by lia) (by have:=m.hj;lia)
  ·exact m.aq x h k (by lia)
theorem ng {a:Array UZ}{i k:Nat}(h0:k<i)(h:i<=a.size):(a.toList.drop (i-(k+1))).take (k+1)=el a (i-(k+1))::(a.toList.drop (i-k)).take k:=by
 rw[wx (by lia),show i-(k+1)+1=i-k by lia,List.take_succ_cons]
theorem Mh.yU (m:Mh c p q t i j)(sp:SR c p 0 p.size):∀(k:Nat),k<=i->(∀x,i-k<=x->x<i->∀y,y<j->le c (el q y) (el p x))->Mh c p q ((p.toList.drop (i-k)).take k++t) (i-k) j
 |0,_,_=>by simpa using m
 |k+1,h,hle=>by
  have m':=Mh.yU m sp k (by lia) λx h1 h2=>hle x (by lia) h2
  rw[ng (by lia) m.hi,Yb]
  exact m'.j8 (by lia) sp λy hy=>hle _ (by lia) (by lia) y hy
theorem Mh.yT (m:Mh c p q t i j)(sq:SR c q 0 q.size):∀(k:Nat),k<=j->(∀x,j-k<=x->x<j->∀y,y<i->le c (el p y) (el q x))->Mh c p q ((q.toList.drop (j-k)).take k++t) i (j-k)
 |0,_,_=>by simpa using m
 |k+1,h,hle=>by
  have m':=Mh.yT m sq k (by lia) λx h1 h2=>hle x (by lia) h2
  rw[ng (by lia) m.hj,Yb]
  exact m'.j7 (by lia) sq λy hy=>hle _ (by lia) (by lia) y hy
theorem Mh.iR (m:Mh c p q t i j)(sp:SR c p 0 p.size){h:Nat}(hh:h<=i)(hle:∀x,h<=x->x<i->∀y,y<j->le c (el q y) (el p x)):Mh c p q ((p.toList.drop h).take (i-h)++t) h j:=by
 have m':=m.yU sp (i-h) (by lia) λx h1 h2=>hle x (by lia) h2
 rw[show i-(i-h)=h by lia]at m'
 exact m'
theorem Mh.iQ (m:Mh c p q t i j)(sq:SR c q 0 q.size){h:Nat}(hh:h<=j)(hle:∀x,h<=x->x<j->∀y,y<i->le c (el p y) (el q x)):Mh c p q ((q.toList.drop h).take (j-h)++t) i h:=by
 have m':=m.yT sq (j-h) (by lia) λx h1 h2=>hle x (by lia) h2
 rw[show j-(j-h)=h by lia]at m'
 exact m'
theorem Mh.full (m:Mh c p q t 0 0):Gd c p q t:=⟨m.perm,m.j4⟩
theorem JB (a b to:Array UZ)(i j:Nat):(a.extract 0 i++b.extract 0 j++to.reverse).toList=(a.toList.drop 0).take (i-0)++((b.toList.drop 0).take (j-0)++to.toList.reverse):=by
 rw[Wo,Wo,ck,ck,Array.toList_reverse,VW]
theorem Mh.done {to:Array UZ}(m:Mh c p q to.toList.reverse i j)(sp:SR c p 0 p.size)(sq:SR c q 0 q.size)(h:i=0\/j=0):Gd c p q (p.extract 0 i++q.extract 0 j++to.reverse).toList:=by
 rw[JB];rcases h with rfl|rfl
 ·have m':=m.iQ sq (h:=0) (Ve _) λx _ _ y hy=>by lia
  exact(m'.iR sp (h:=0) (Ve _) λx _ hx=>by lia).full
 ·have m':=m.iQ sq (h:=0) (Ve _) λx _ hx=>by lia
  exact(m'.iR sp (h:=0) (Ve _) λx _ hx y hy=>by lia).full
theorem Mh.tail {to:Array UZ}(O:cm c)(m:Mh c p q to.toList.reverse i j)(sp:SR c p 0 p.size)(sq:SR c q 0 q.size)(h:j=1)(hf:c (el q 0) (el p 0)=true):Gd c p q (q.extract 0 j++p.extract 0 i++to.reverse).toList:=by
 rw[JB];subst h;have m':=m.iR sp (h:=0) (Ve _) λx _ hx y hy=>by
  obtain rfl:y=0:=by lia
  exact O.trans (O.of_lt hf) (sp 0 x (by lia) (by lia) (by have:=m.hi;lia))
 exact(m'.iQ sq (h:=0) (Ve _) λx _ _ y hy=>by lia).full
theorem i3 (to:Array UZ)(x:UZ):(to.push x).toList.reverse=x::to.toList.reverse:=by
 rw[W3,XM];rfl
theorem wG (to a:Array UZ)(h i:Nat):(to++(a.extract h i).reverse).toList.reverse=(a.toList.drop h).take (i-h)++to.toList.reverse:=by
 rw[Wo,XM,Array.toList_reverse,V9,ck]
theorem Mh.start (sp:SR c p 0 p.size)(O:cm c)(hp:0<p.size)(hl:∀y,y<q.size->c (el q y) (el p (p.size-1))=true):Mh c p q [el p (p.size-1)] (p.size-1) q.size:=by
 have m:Mh c p q [] p.size q.size:=⟨UU _,UU _,by rw[WQ (by simp),WQ (by simp)];exact .refl _,.nil,(λx hx=>by cases hx),(λx hx=>by cases hx)⟩
 exact m.j8 hp sp λk hk=>O.of_lt (hl k hk)
end
abbrev RJ:=Nat×Nat×Array UZ×Nat×Nat
abbrev RH:=Nat×Nat×Array UZ×Nat×Nat×Nat
abbrev RP:=Nat×Nat×Array UZ×Nat
def O8 (p q t:Array UZ)(i j mg m n:Nat):StateT Vq Sem (ForInStep (Option (Array UZ)×RH)):=do
 let z <- elem' p (i-1)
 if (i-1==0)=true then pure (.done (some (p.extract 0 (i-1)++q.extract 0 j++(t.push z).reverse),i-1,j,t.push z,mg,m,n))
 else if (decide (m<7)&&decide (n<7))=true then pure (.done (none,i-1,j,t.push z,mg,m,n)) else pure (.yield (none,i-1,j,t.push z,mg,m,n))
def O9 (p q t:Array UZ)(i j mg m n:Nat):StateT Vq Sem (ForInStep (Option (Array UZ)×RH)):=do
 let y <- elem' q (j-1)
 if (j-1==1)=true then pure (.done (some (q.extract 0 (j-1)++p.extract 0 i++(t.push y).reverse),i,j-1,t.push y,mg,m,n))
 else do
  let x <- elem' p (i-1)
  let r <- cx true x q 0 (j-1) (j-1-1)
  match r with
  |some h=>if j-1-h>0 then (if (h==1)=true then pure (.done (some (q.extract 0 h++p.extract 0 i++(t.push y++(q.extract h (j-1)).reverse).reverse),i,h,t.push y++(q.extract h (j-1)).reverse,mg,m,j-1-h))
    else if (h==0)=true then pure (.done (some (p.extract 0 i++q.extract 0 h++(t.push y++(q.extract h (j-1)).reverse).reverse),i,h,t.push y++(q.extract h (j-1)).reverse,mg,m,j-1-h))
    else O8 p q (t.push y++(q.extract h (j-1)).reverse) i h mg m (j-1-h)) else O8 p q (t.push y) i (j-1) mg m (j-1-h)
  |_=>pure (.done (some (p.extract 0 i++q.extract 0 (j-1)++(t.push y).reverse),i,j-1,t.push y,mg,m,n))
def Lr (p q t:Array UZ)(i j mg m n:Nat):StateT Vq Sem (ForInStep (Option (Array UZ)×RH)):=do
 modify λst=>cy st mg
 let y <- elem' q (j-1)
 let r <- cx false y p 0 i (i-1)
 match r with
 |some h=>if i-h>0 then (if (h==0)=true then pure (.done (some (p.extract 0 h++q.extract 0 j++(t++(p.extract h i).reverse).reverse),h,j,t++(p.extract h i).reverse,mg,i-h,n))
   else O9 p q (t++(p.extract h i).reverse) h j mg (i-h) n) else O9 p q t i j mg (i-h) n
 |_=>pure (.done (some (p.extract 0 i++q.extract 0 j++t.reverse),i,j,t,mg,m,n))
def S7 (p q:Array UZ)(s:Option (Array UZ)×RH):StateT Vq Sem (ForInStep (Option (Array UZ)×RH)):=if s.2.2.2.2.1>1 then Lr p q s.2.2.2.1 s.2.1 s.2.2.1 (s.2.2.2.2.1-1) s.2.2.2.2.2.1 s.2.2.2.2.2.2 else Lr p q s.2.2.2.1 s.2.1 s.2.2.1 s.2.2.2.2.1 s.2.2.2.2.2.1 s.2.2.2.2.2.2
def O7 (p q t:Array UZ)(mg i j m:Nat):StateT Vq Sem (ForInStep (Option (Array UZ)×RJ)):=do
 let x <- elem' p (i-1)
 if (i-1==0)=true then pure (.done (some (p.extract 0 (i-1)++q.extract 0 j++(t.push x).reverse),i-1,j,t.push x,m+1,0))
 else if m+1 >= mg then pure (.done (none,i-1,j,t.push x,m+1,0)) else pure (.yield (none,i-1,j,t.push x,m+1,0))
def O6 (p q t:Array UZ)(mg i j n:Nat):StateT Vq Sem (ForInStep (Option (Array UZ)×RJ)):=do
 let y <- elem' q (j-1)
 if (j-1==1)=true then pure (.done (some (q.extract 0 (j-1)++p.extract 0 i++(t.push y).reverse),i,j-1,t.push y,0,n+1))
 else if n+1 >= mg then pure (.done (none,i,j-1,t.push y,0,n+1)) else pure (.yield (none,i,j-1,t.push y,0,n+1))
def QX (p q t:Array UZ)(mg i j m n:Nat):StateT Vq Sem (ForInStep (Option (Array UZ)×RJ)):=do
 let y <- elem' q (j-1)
 let x <- elem' p (i-1)
 let r <- lt' y x
 match r with
 |some Fi=>if Fi=true then O7 p q t mg i j m else O6 p q t mg i j n
 |_=>pure (.done (some (p.extract 0 i++q.extract 0 j++t.reverse),i,j,t,m,n))
def QW (p q:Array UZ)(s:Option (Array UZ)×RP):StateT Vq Sem (ForInStep (Option (Array UZ)×RP)):=do
 let s1 <- forIn [:p.size+q.size] ((none,s.2.1,s.2.2.1,s.2.2.2.1,0,0):Option (Array UZ)×RJ) λ_ r=>QX p q r.2.2.2.1 s.2.2.2.2 r.2.1 r.2.2.1 r.2.2.2.2.1 r.2.2.2.2.2
 match s1.1 with
 |some r=>pure (.done (some r,s1.2.1,s1.2.2.1,s1.2.2.2.1,s.2.2.2.2))
 |none=>do
  liftM (rule "list.sort.gallop")
  let s2 <- forIn [:p.size+q.size] ((none,s1.2.1,s1.2.2.1,s1.2.2.2.1,s.2.2.2.2+1,s1.2.2.2.2.1,s1.2.2.2.2.2):Option (Array UZ)×RH) λ_ r=>S7 p q r
  match s2.1 with
  |some r=>pure (.done (some r,s2.2.1,s2.2.2.1,s2.2.2.2.1,s2.2.2.2.2.1))
  |none=>do
   modify λst=>cy st (s2.2.2.2.2.1+1)
   pure (.yield (none,s2.2.1,s2.2.2.1,s2.2.2.2.1,s2.2.2.2.2.1+1))
theorem rF (p q:Array UZ):jc p q=(do
  liftM (rule "list.sort.merge-hi")
  let y <- elem' p (p.size-1)
  if (p.size-1==0)=true then pure (p.extract 0 (p.size-1)++q.extract 0++#[y].reverse)
  else if (q.size==1)=true then pure (q.extract 0++p.extract 0 (p.size-1)++#[y].reverse)
  else do
   let st <- get
   let s <- forIn [:p.size+q.size] ((none,p.size-1,q.size,#[y],gallopOf st):Option (Array UZ)×RP) λ_ s=>QW p q s
   match s.1 with
   |some r=>pure r
   |none=>liftM (unsupported "internal:list.sort.merge-bound" : Sem (Array UZ))):=by
 rw[rE];dsimp only;refine congrArg (bind _) (funext λ_=>?_);refine congrArg (bind _) (funext λy=>?_);refine congrArg (ite _ _) (congrArg (ite _ _) ?_);refine congrArg (bind _) (funext λy=>?_);refine congr (congrArg bind (congrArg _ (funext λ_=>funext λs=>?_))) (funext λs=>?_)
 ·refine congr (congrArg bind (congrArg _ (funext λ_=>funext λs=>?_))) (funext λs=>?_)
  ·rfl
  ·cases s.1
   ·refine congrArg (bind _) (funext λ_=>?_);refine congr (congrArg bind (congrArg _ (funext λ_=>funext λs=>?_))) (funext λs=>?_)
    ·rfl
    ·cases s.1 <;> rfl
   ·rfl
 ·cases s.1 <;> rfl
section
variable {prog:UX}{w:Vb}{A:VZ}{E:UR->UT->Prop}{s:UT}{κ:Xh}{c:UZ->UZ->Bool}{S:UZ->Prop}{p q:Array UZ}
theorem yJ {st:Vq}{Q:ForInStep (Option (Array UZ)×RH)->Vq->Prop}{t:Array UZ}{i j mg m n:Nat}(sp:SR c p 0 p.size)(sq:SR c q 0 q.size)(m3:Mh c p q t.toList.reverse i j)(hi:0<i)(g3:∀k,k<j->le c (el q k) (el p (i-1)))
  (hd:∀out r,Gd c p q out.toList->Q (.done (some out,r)) st) (hn:∀t' m n,Mh c p q t'.toList.reverse (i-1) j->0<i-1->Q (.done (none,i-1,j,t',mg,m,n)) st/\Q (.yield (none,i-1,j,t',mg,m,n)) st):wpS (model prog w) A E s (O8 p q t i j mg m n) Q st:=by
 have jT:=m3.hi;refine U1 (aO (by lia) ?_)
 have m4:Mh c p q (t.push (el p (i-1))).toList.reverse (i-1) j:=by
  rw[i3];exact m3.j8 hi sp g3
 by_cases e5:(i-1==0)=true
 ·rw[if_pos e5];exact U7 (hd _ _ (m4.done sp sq (.inl (by simpa using e5))))
 rw[if_neg e5];have h5:i-1≠0:=by simpa using e5
 obtain⟨h6,h7⟩:=hn (t.push (el p (i-1))) m n m4 (by lia)
 split
 ·exact U7 h6
 ·exact U7 h7
theorem yK {st:Vq}{Q:ForInStep (Option (Array UZ)×RH)->Vq->Prop}{t:Array UZ}{i j mg m n:Nat}(O:cm c)(L:f6 prog w A E s κ c S)(hk:kindOf st=κ)(Sp:∀i,i<p.size->S (el p i))(Sq:∀i,i<q.size->S (el q i))(sp:SR c p 0 p.size)(sq:SR c q 0 q.size)(hf:c (el q 0) (el p 0)=true)(m1:Mh c p q t.toList.reverse i j)(hi:0<i)(hj:1<j)(g1:∀x,x<i->le c (el p x) (el q (j-1)))
  (hd:∀out r,Gd c p q out.toList->Q (.done (some out,r)) st) (hn:∀t' j' m n,Mh c p q t'.toList.reverse (i-1) j'->0<i-1->1<j'->j'<j->Q (.done (none,i-1,j',t',mg,m,n)) st/\Q (.yield (none,i-1,j',t',mg,m,n)) st):wpS (model prog w) A E s (O9 p q t i j mg m n) Q st:=by
 have mi:=m1.hi;have mj:=m1.hj;refine U1 (aO (by lia) ?_)
 have m2:Mh c p q (t.push (el q (j-1))).toList.reverse i (j-1):=by
  rw[i3];exact m1.j7 (by lia) sq g1
 by_cases e3:(j-1==1)=true
 ·rw[if_pos e3];exact U7 (hd _ _ (m2.tail O sp sq (by simpa using e3) hf))
 rw[if_neg e3];have h3:j-1≠1:=by simpa using e3
 refine U1 (aO (by lia) (U1 (dz O L hk (Sp _ (by lia)) (λx hx=>Sq _ (by lia)) (by lia) (λa b h1 h2 h3=>sq a b (by lia) h2 (by lia)) (by lia) λh k1 k2 k3=>?_)))
 have g2:∀x,x<h->c (el q x) (el p (i-1))=true:=λx hx=>by
  have:=k2 x hx;unfold d8 at this;rw[if_pos rfl,Wh]at this;exact this
 have g4:∀x,h<=x->x<j-1->le c (el p (i-1)) (el q x):=λx h1 h2=>by
  have:=k3 x h1 h2;unfold d8 at this;rw[if_pos rfl,Wh]at this;exact this
 have hh:0<h:=by
  rcases Nat.eq_zero_or_pos h with z|z
  ·subst z;have h2:=O.trans (sp 0 (i-1) (by lia) (by lia) (by lia)) (g4 0 (UU _) (by lia))
   exact absurd (hf.symm.trans h2) (by simp)
  ·exact z
 dsimp only
 by_cases xS:j-1-h>0
 ·rw[if_pos xS];have m3:Mh c p q (t.push (el q (j-1))++(q.extract h (j-1)).reverse).toList.reverse i h:=by
   rw[wG];exact m2.iQ sq k1 λx h1 h2 y hy=>O.trans (sp y (i-1) (by lia) (by lia) (by lia)) (g4 x h1 h2)
  by_cases e4:(h==1)=true
  ·rw[if_pos e4];exact U7 (hd _ _ (m3.tail O sp sq (by simpa using e4) hf))
  rw[if_neg e4];have h4:h≠1:=by simpa using e4
  rw[if_neg (by simp;lia)]
  exact yJ sp sq m3 hi (λk hk=>O.of_lt (g2 k hk)) hd λt' m n h1 h2=>hn t' _ m n h1 h2 (by lia) (by lia)
 ·rw[if_neg xS];exact yJ sp sq m2 hi (λk hk=>O.of_lt (g2 k (by lia))) hd λt' m n h1 h2=>hn t' _ m n h1 h2 (by lia) (by lia)
theorem Fg {st:Vq}{Q:ForInStep (Option (Array UZ)×RH)->Vq->Prop}{t:Array UZ}{i j mg m n:Nat}(O:cm c)(L:f6 prog w A E s κ c S)(hk:kindOf st=κ)(Sp:∀i,i<p.size->S (el p i))(Sq:∀i,i<q.size->S (el q i))(sp:SR c p 0 p.size)(sq:SR c q 0 q.size)(hf:c (el q 0) (el p 0)=true)(m0:Mh c p q t.toList.reverse i j)(hi:0<i)(hj:1<j)
  (hd:∀out r,Gd c p q out.toList->Q (.done (some out,r)) (cy st mg)) (hn:∀t' i' j' m n,Mh c p q t'.toList.reverse i' j'->0<i'->1<j'->i'+j'<i+j->Q (.done (none,i',j',t',mg,m,n)) (cy st mg)/\Q (.yield (none,i',j',t',mg,m,n)) (cy st mg)):wpS (model prog w) A E s (Lr p q t i j mg m n) Q st:=by
 have mi:=m0.hi;have mj:=m0.hj;refine U1 (W5 (U1 (aO (by lia) (U1 (dz O L hk (Sq _ (by lia)) (λx hx=>Sp _ (by lia)) (by lia) (λa b h1 h2 h3=>sp a b (by lia) h2 (by lia)) (by lia) λh k1 k2 k3=>?_)))))
 have g0:∀x,x<h->le c (el p x) (el q (j-1)):=λx hx=>by
  have:=k2 x hx;unfold d8 at this;rw[if_neg (by simp),X0,Wh]at this
  exact this
 have g5:∀x,h<=x->x<i->le c (el q (j-1)) (el p x):=λx h1 h2=>by
  have:=k3 x h1 h2;unfold d8 at this;rw[if_neg (by simp),YE,Wh]at this
  exact O.of_lt this
 dsimp only
 by_cases xS:i-h>0
 ·rw[if_pos xS];have m1:Mh c p q (t++(p.extract h i).reverse).toList.reverse h j:=by
   rw[wG];exact m0.iR sp k1 λx h1 h2 y hy=>O.trans (sq y (j-1) (by lia) (by lia) (by lia)) (g5 x h1 h2)
  by_cases e1:(h==0)=true
  ·rw[if_pos e1];exact U7 (hd _ _ (m1.done sp sq (.inl (by simpa using e1))))
  rw[if_neg e1];have xV:h≠0:=by simpa using e1
  exact yK O L hk Sp Sq sp sq hf m1 (by lia) hj g0 hd λt' j' m n h1 h2 h3 h4=>hn t' _ j' m n h1 h2 h3 (by lia)
 ·rw[if_neg xS];exact yK O L hk Sp Sq sp sq hf m0 hi hj (λx hx=>g0 x (by lia)) hd λt' j' m n h1 h2 h3 h4=>hn t' _ j' m n h1 h2 h3 (by lia)
theorem Ff {st:Vq}{Q:ForInStep (Option (Array UZ)×RJ)->Vq->Prop}{t:Array UZ}{i j mg ma na:Nat}(O:cm c)(L:f6 prog w A E s κ c S)(hk:kindOf st=κ)(Sp:∀i,i<p.size->S (el p i))(Sq:∀i,i<q.size->S (el q i))(sp:SR c p 0 p.size)(sq:SR c q 0 q.size)(hf:c (el q 0) (el p 0)=true)(m:Mh c p q t.toList.reverse i j)(hi:0<i)(hj:1<j)
  (hd:∀out r,Gd c p q out.toList->Q (.done (some out,r)) st) (hn:∀t' i' j' m n,Mh c p q t'.toList.reverse i' j'->0<i'->1<j'->i'+j'<i+j->Q (.done (none,i',j',t',m,n)) st/\Q (.yield (none,i',j',t',m,n)) st):wpS (model prog w) A E s (QX p q t mg i j ma na) Q st:=by
 have jT:=m.hi;have EI:=m.hj;refine U1 (aO (by lia) (U1 (aO (by lia) (U1 (L _ _ st _ (Sq _ (by lia)) (Sp _ (by lia)) hk ?_)))))
 dsimp only;cases hc:c (el q (j-1)) (el p (i-1))with
 |true =>
  rw[if_pos rfl];refine U1 (aO (by lia) ?_)
  have m1:Mh c p q (t.push (el p (i-1))).toList.reverse (i-1) j:=by
   rw[i3];exact m.j8 hi sp λk hk=>O.trans (sq k (j-1) (by lia) (by lia) (by lia)) (O.of_lt hc)
  by_cases e3:(i-1==0)=true
  ·rw[if_pos e3];exact U7 (hd _ _ (m1.done sp sq (.inl (by simpa using e3))))
  rw[if_neg e3];have h3:i-1≠0:=by simpa using e3
  obtain⟨h6,h7⟩:=hn _ _ _ (ma+1) 0 m1 (by lia) hj (by lia)
  split
  ·exact U7 h6
  ·exact U7 h7
 |false =>
  rw[if_neg (by simp)]
  refine U1 (aO (by lia) ?_)
  have m1:Mh c p q (t.push (el q (j-1))).toList.reverse i (j-1):=by
   rw[i3];exact m.j7 (by lia) sq λk hk=>O.trans (sp k (i-1) (by lia) (by lia) (by lia)) (show le c (el p (i-1)) (el q (j-1)) from hc)
  by_cases e3:(j-1==1)=true
  ·rw[if_pos e3];exact U7 (hd _ _ (m1.tail O sp sq (by simpa using e3) hf))
  rw[if_neg e3];have h3:j-1≠1:=by simpa using e3
  obtain⟨h6,h7⟩:=hn _ _ _ 0 (na+1) m1 hi (by lia) (by lia)
  split
  ·exact U7 h6
  ·exact U7 h7
theorem tG (O:cm c)(L:f6 prog w A E s κ c S){Q:Array UZ->Vq->Prop}{st:Vq}(hk:kindOf st=κ)(Sp:∀i,i<p.size->S (el p i))(Sq:∀i,i<q.size->S (el q i))(sp:SR c p 0 p.size)(sq:SR c q 0 q.size)
  (hp:0<p.size) (hq:0<q.size) (hf:c (el q 0) (el p 0)=true) (hl:∀y,y<q.size->c (el q y) (el p (p.size-1))=true) (h:∀to aB,jZ st aB->Gd c p q to.toList->Q to aB) :
  wpS (model prog w) A E s (jc p q) Q st:=by
 rw[rF];refine U1 (Yp (Xz ⟨rfl,?_⟩));refine U1 (aO (by lia) ?_)
 have m0:Mh c p q (#[el p (p.size-1)]:Array UZ).toList.reverse (p.size-1) q.size:=Mh.start sp O hp hl
 by_cases h1:(p.size-1==0)=true
 ·rw[if_pos h1];exact U7 (h _ st (jZ.refl st) (m0.done sp sq (.inl (by simpa using h1))))
 rw[if_neg h1];have xV:p.size-1≠0:=by simpa using h1
 by_cases h2:(q.size==1)=true
 ·rw[if_pos h2];exact U7 (h _ st (jZ.refl st) (m0.tail O sp sq (by simpa using h2) hf))
 rw[if_neg h2];have AS:q.size≠1:=by simpa using h2
 refine U1 (XW ?_);refine U1 (Wu (VU
  (I:=λx r aB=>jZ st aB/\∃i j to mg,r=(none,i,j,to,mg)/\Mh c p q to.toList.reverse i j/\0<i/\1<j/\i+j+x<p.size+q.size)
  (Q:=λr aB=>jZ st aB/\∃out r',r=(some out,r')/\Gd c p q out.toList) ?_ ?_ ?_) ?_)
 ·rintro x r aB _ hx ⟨e,i,j,to,mg,rfl,m,hi,hj,hb⟩;unfold QW;dsimp only;refine U1 (Wu (VU
   (I:=λy r aB=>jZ st aB/\∃i j to m n,r=(none,i,j,to,m,n)/\Mh c p q to.toList.reverse i j/\0<i/\1<j/\i+j+x+min y 1<p.size+q.size)
   (Q:=λr aB=>jZ st aB/\((∃out r',r=(some out,r')/\Gd c p q out.toList)\/∃i j to m n,r=(none,i,j,to,m,n)/\Mh c p q to.toList.reverse i j/\0<i/\1<j/\i+j+x+1<p.size+q.size)) ?_ ?_ ?_) ?_)
  ·rintro y r f_ _ hy ⟨e2,i,j,to,ma,na,rfl,m,hi,hj,hb⟩;exact Ff O L (e2.kind.trans hk) Sp Sq sp sq hf m hi hj (λout r h=>⟨e2,.inl ⟨_,_,rfl,h⟩⟩) λt' i' j' m n h1 h2 h3 h4=>⟨⟨e2,.inr ⟨_,_,_,_,_,rfl,h1,h2,h3,by lia⟩⟩,⟨e2,_,_,_,_,_,rfl,h1,h2,h3,by lia⟩⟩
  ·rintro r f_ ⟨e2,i,j,to,ma,na,rfl,m,hi,hj,hb⟩;exact⟨e2,.inr ⟨_,_,_,_,_,rfl,m,hi,hj,by lia⟩⟩
  ·exact⟨e,_,_,_,_,_,rfl,m,hi,hj,by lia⟩
  rintro r f_ ⟨e2,⟨out,r',rfl,g⟩|⟨i,j,to,ma,na,rfl,m,hi,hj,hb⟩⟩
  ·exact U7 ⟨e2,_,_,rfl,g⟩
  dsimp only;refine U1 (Yp (Xz ⟨rfl,?_⟩));refine U1 (Wu (VU
   (I:=λy r aB=>jZ st aB/\∃i j to mg m n,r=(none,i,j,to,mg,m,n)/\Mh c p q to.toList.reverse i j/\0<i/\1<j/\i+j+x+1<p.size+q.size)
   (Q:=λr aB=>jZ st aB/\((∃out r',r=(some out,r')/\Gd c p q out.toList)\/∃i j to mg m n,r=(none,i,j,to,mg,m,n)/\Mh c p q to.toList.reverse i j/\0<i/\1<j/\i+j+x+1<p.size+q.size)) ?_ ?_ ?_) ?_)
  ·rintro y r f_ _ hy ⟨e2,i,j,to,mg,ma,na,rfl,m,hi,hj,hb⟩;show wpS (model prog w) A E s (if mg>1 then Lr p q to i j (mg-1) ma na else Lr p q to i j mg ma na) _ f_
   split <;> exact Fg O L (e2.kind.trans hk) Sp Sq sp sq hf m hi hj (λout r h=>⟨e2.EK _,.inl ⟨_,_,rfl,h⟩⟩) λt' i' j' m n h1 h2 h3 h4=>⟨⟨e2.EK _,.inr ⟨_,_,_,_,_,_,rfl,h1,h2,h3,by lia⟩⟩,⟨e2.EK _,_,_,_,_,_,_,rfl,h1,h2,h3,by lia⟩⟩
  ·rintro r f_ ⟨e2,i,j,to,mg,ma,na,rfl,m,hi,hj,hb⟩;exact⟨e2,.inr ⟨_,_,_,_,_,_,rfl,m,hi,hj,hb⟩⟩
  ·exact⟨e2,_,_,_,_,_,_,rfl,m,hi,hj,hb⟩
  rintro r f_ ⟨e2,⟨out,r',rfl,g⟩|⟨i,j,to,mg,ma,na,rfl,m,hi,hj,hb⟩⟩
  ·exact U7 ⟨e2,_,_,rfl,g⟩
  dsimp only;refine U1 (W5 (U7 ⟨e2.EK _,_,_,_,_,rfl,m,hi,hj,by lia⟩))
 ·rintro r aB ⟨e,i,j,to,mg,rfl,m,hi,hj,hb⟩
  exfalso
  rw[show max 0 (p.size+q.size)=p.size+q.size by lia]at hb
  lia
 ·exact⟨jZ.refl st,_,_,_,_,rfl,m0,by lia,by lia,by lia⟩
 ·rintro r aB ⟨e,out,r',rfl,g⟩;exact U7 (h _ aB e g)
end
section
variable {c:UZ->UZ->Bool}{a b:Array UZ}
structure Rg (a b:Array UZ)(lo hi:Nat):Prop where
 perm:b.Perm a
 out:∀k,(k<lo\/hi<=k)->el b k=el a k
theorem Rg.refl {lo hi:Nat}:Rg a a lo hi:=⟨Y4 _,λ_ _=>rfl⟩
theorem Rg.trans {d:Array UZ}{lo hi:Nat}(x:Rg a b lo hi)(y:Rg b d lo hi):Rg a d lo hi:=⟨y.perm.trans x.perm,λk h=>(y.out k h).trans (x.out k h)⟩
theorem Rg.mono {lo hi Et jT:Nat}(x:Rg a b lo hi)(h1:Et<=lo)(h2:hi<=jT):Rg a b Et jT:=⟨x.perm,λk h=>x.out k (by lia)⟩
theorem Rg.size {lo hi:Nat}(x:Rg a b lo hi):b.size=a.size:=x.perm.size_eq
theorem SR.congr {lo hi:Nat}(h:SR c a lo hi)(e:∀k,lo<=k->k<hi->el b k=el a k):SR c b lo hi:=λi j h1 h2 h3=>by
 rw[e i h1 (by lia),e j (by lia) h3]
 exact h i j h1 h2 h3
def NI (c:UZ->UZ->Bool)(a:Array UZ)(lo hi:Nat):Prop:=∀i j,lo<=i->i<=j->j<hi->le c (el a j) (el a i)
theorem b9 {i j:Nat}(hj:j<=a.size)(k:Nat):el (mirror a i j ((j-i) / 2)) k=if i<=k/\k<j then el a (i+j-1-k) else el a k:=by
 have e:=getElem?_mirror_all (i:=i) hj k
 by_cases h:i<=k/\k<j
 ·rw[if_pos h]at e ⊢
  exact d6 e
 ·rw[if_neg h]at e ⊢
  exact d6 e
theorem e_ {i j:Nat}(hj:j<=a.size):Rg a (mirror a i j ((j-i) / 2)) i j:=⟨mirror_perm _ _ _ _,λk h=>by rw[b9 hj,if_neg (by lia)]⟩
theorem nE {i j:Nat}(hj:j<=a.size)(h:NI c a i j):SR c (mirror a i j ((j-i) / 2)) i j:=λx y h1 h2 h3=>by
 rw[b9 hj,b9 hj,if_pos (by lia),if_pos (by lia)]
 exact h _ _ (by lia) (by lia) (by lia)
theorem jL {lo i j:Nat}(OW:lo<=i)(hj:j<=a.size)(h:NI c a lo j)(he:∀x y,i<=x->x<j->i<=y->y<j->le c (el a x) (el a y)):NI c (mirror a i j ((j-i) / 2)) lo j:=λx y h1 h2 h3=>by
 rw[b9 hj,b9 hj]
 by_cases hx:i<=x/\x<j
 ·rw[if_pos hx,if_pos (by lia)]
  exact he _ _ (by lia) (by lia) (by lia) (by lia)
 ·rw[if_neg hx]
  by_cases hy:i<=y/\y<j
  ·rw[if_pos hy];exact h _ _ (by lia) (by lia) (by lia)
  ·rw[if_neg hy];exact h _ _ h1 h2 h3
theorem SR.snoc {lo n:Nat}(O:cm c)(h:SR c a lo (lo+n))(h1:0<n)(hn:le c (el a (lo+n-1)) (el a (lo+n))):SR c a lo (lo+(n+1)):=λi j h2 h3 h4=>by
 by_cases hj:j<lo+n
 ·exact h i j h2 h3 hj
 ·obtain rfl:j=lo+n:=by lia
  by_cases hi:i<lo+n
  ·exact O.trans (h i (lo+n-1) h2 (by lia) (by lia)) hn
  ·obtain rfl:i=lo+n:=by lia
   exact O.refl _
theorem NI.snoc {lo n:Nat}(O:cm c)(h:NI c a lo (lo+n))(h1:0<n)(hn:le c (el a (lo+n)) (el a (lo+n-1))):NI c a lo (lo+(n+1)):=λi j h2 h3 h4=>by
 by_cases hj:j<lo+n
 ·exact h i j h2 h3 hj
 ·obtain rfl:j=lo+n:=by lia
  by_cases hi:i<lo+n
  ·exact O.trans hn (h i (lo+n-1) h2 (by lia) (by lia))
  ·obtain rfl:i=lo+n:=by lia
   exact O.refl _
theorem SR.one {lo:Nat}(O:cm c):SR c a lo (lo+1):=λi j h1 h2 h3=>by
 obtain rfl:i=j:=by lia
 exact O.refl _
end
structure jY (κ:Xh)(a₀:Array UZ)(st:Vq):Prop where
 kind:kindOf st=κ
 fail:Xq st=none
 perm:(Vt st).Perm a₀
section
variable {prog:UX}{w:Vb}{A:VZ}{E:UR->UT->Prop}{s:UT}{κ:Xh}{c:UZ->UZ->Bool}{a₀:Array UZ}
theorem jY.size {st:Vq}(h:jY κ a₀ st):(Vt st).size=a₀.size:=h.perm.size_eq
theorem jY.mem {st:Vq}(h:jY κ a₀ st){i:Nat}(hi:i<a₀.size):el (Vt st) i∈a₀.toList:=by
 have h1:i<(Vt st).size:=by rw[h.size];exact hi
 refine(W9.mp h.perm).mem_iff.mp ?_;have:=jn h1;rw[<- Vl]at this;exact Vv this
theorem jY.set {st:Vq}{b:Array UZ}{lo hi:Nat}(h:jY κ a₀ st)(r:Rg (Vt st) b lo hi):jY κ a₀ (V5 st b):=⟨h.kind,h.fail,r.perm.trans h.perm⟩
theorem oN (L:f6 prog w A E s κ c (·∈a₀.toList)){st:Vq}{i j:Nat}{Q:Option Bool->Vq->Prop}(h:jY κ a₀ st)(hi:i<a₀.size)(hj:j<a₀.size)(q:Q (some (c (el (Vt st) i) (el (Vt st) j))) st):
  wpS (model prog w) A E s (ltAt' i j) Q st:=by
 rw[ltAt'_eq];refine U1 (XW ?_);exact U1 (aO (by rw[h.size];exact hi) (U1 (aO (by rw[h.size];exact hj) (L _ _ st Q (h.mem hi) (h.mem hj) h.kind q))))
theorem iJ (L:f6 prog w A E s κ c (·∈a₀.toList)){st:Vq}{b:Array UZ}{i j lo hi:Nat}{Q:Option Bool->Vq->Prop}(h:jY κ a₀ st)(R:Rg (Vt st) b lo hi)(hi:i<a₀.size)(hj:j<a₀.size)(q:Q (some (c (el b i) (el b j))) (V5 st b)):
  wpS (model prog w) A E s (ltAt' i j) Q (V5 st b):=oN L (h.set R) hi hj q
theorem iI {st:Vq}{i j:Nat}{Q:Unit->Vq->Prop}(q:Q () (V5 st (mirror (Vt st) i j ((j-i) / 2)))):wpS (model prog w) A E s (reverseSlice' i j) Q st:=by
 rw[reverseSlice'_eq];exact W5 q
theorem yL (O:cm c)(L:f6 prog w A E s κ c (·∈a₀.toList)){st:Vq}{lo e8:Nat}{Q:Option Nat->Vq->Prop}(h0:jY κ a₀ st)(h1:1<=e8)(hn:lo+e8<=a₀.size)
  (h:∀n b,1<=n->n<=e8->Rg (Vt st) b lo (lo+e8)->SR c b lo (lo+n)->Q (some n) (V5 st b)):wpS (model prog w) A E s (countRun' lo e8) Q st:=by
 rw[countRun'_eq];dsimp only;refine U1 (Wu (VU (I:=λx r aB=>aB=st/\∃n,r=(none,n)/\n=x/\SR c (Vt st) lo (lo+n))
  (Q:=λr aB=>aB=st/\∃n,r=(none,n)/\1<=n/\n<=e8/\SR c (Vt st) lo (lo+n)/\(n=e8\/(n<e8/\c (el (Vt st) (lo+n)) (el (Vt st) (lo+n-1))=true))) ?_ ?_ ?_) ?_)
 ·rintro x r aB J_ hx ⟨rfl,n,rfl,rfl,hs⟩;dsimp only;refine U1 (oN L h0 (by lia) (by lia) ?_)
  dsimp only;cases hc:c (el (Vt aB) (lo+n)) (el (Vt aB) (lo+n-1))with
  |true =>
   rw[if_pos rfl];exact U7 ⟨rfl,n,rfl,J_,by lia,hs,.inr ⟨by lia,hc⟩⟩
  |false =>
   rw[if_neg (by simp)]
   exact U7 ⟨rfl,n+1,rfl,rfl,hs.snoc O J_ hc⟩
 ·rintro r aB ⟨rfl,n,rfl,hx,hs⟩;exact⟨rfl,n,rfl,by lia,by lia,hs,.inl (by lia)⟩
 ·exact⟨rfl,1,rfl,rfl,SR.one O⟩
 rintro r aB ⟨e0,n,rfl,OM,ML,hs,hc⟩;rw[e0];dsimp only
 by_cases OI:(n==e8)=true
 ·rw[if_pos OI];exact U7 (h n (Vt st) OM ML Rg.refl hs)
 rw[if_neg OI];have SS:n≠e8:=by simpa using OI
 have hc:c (el (Vt st) (lo+n)) (el (Vt st) (lo+n-1))=true:=by
  rcases hc with q|q
  ·lia
  ·exact q.2
 refine(λ(key:∀b,Rg (Vt st) b lo (lo+e8)->NI c b lo (lo+(n+1))->wpS (model prog w) A E s ?cont Q (V5 st b))=>?main) ?key
 case main =>
  by_cases h2:n>1
  ·rw[if_pos h2];refine U1 (oN L h0 (by lia) (by lia) ?_)
   dsimp only;cases hr:c (el (Vt st) lo) (el (Vt st) (lo+n-1))with
   |true =>
    rw[if_pos rfl];exact U7 (h n (Vt st) OM ML Rg.refl hs)
   |false =>
    rw[if_neg (by simp)]
    refine U1 (iI ?_);have hz:lo+n<=(Vt st).size:=by have:=h0.size;lia
    have R0:Rg (Vt st) (mirror (Vt st) lo (lo+n) ((lo+n-lo) / 2)) lo (lo+e8):=(e_ hz).mono (UU _) (by lia)
    have all:∀u v,lo<=u->u<lo+n->lo<=v->v<lo+n->le c (el (Vt st) u) (el (Vt st) v):=λu v h1 h2 h3 h4 =>
     O.trans (hs u (lo+n-1) h1 (by lia) (by lia)) (O.trans hr (hs lo v (UU _) h3 h4))
    have N0:NI c (mirror (Vt st) lo (lo+n) ((lo+n-lo) / 2)) lo (lo+(n+1)):=by
     refine NI.snoc O (jL (UU _) hz (λu v h1 h2 h3=>all v u (by lia) (by lia) h1 (by lia)) λu v h1 h2 h3 h4=>all u v h1 h2 h3 h4) (by lia) ?_
     rw[b9 hz,b9 hz,if_neg (by lia),if_pos (by lia)]
     exact O.trans (O.of_lt hc) (all _ _ (by lia) (by lia) (by lia) (by lia))
    exact key _ R0 N0
  ·rw[if_neg h2];have N0:NI c (Vt st) lo (lo+(n+1)):=NI.snoc O (λu v h1 h2 h3=>by
    obtain rfl:u=v:=by lia
    exact O.refl _) (by lia) (O.of_lt hc)
   show wpS _ _ _ _ _ Q (V5 st (Vt st));exact key _ Rg.refl N0
 case key =>
  intro b0 R0 N0;refine U1 (Yp (Xz ⟨rfl,?_⟩));refine U1 (Wu (VU (I:=λx r aB=>∃b n kc,aB=V5 st b/\r=(none,n,kc)/\n=x/\Rg (Vt st) b lo (lo+e8)/\NI c b lo (lo+n)/\kc<n/\(∀u v,lo+n-1-kc<=u->u<lo+n->lo+n-1-kc<=v->v<lo+n->le c (el b u) (el b v)))
   (Q:=λr aB=>∃b n kc,aB=V5 st b/\r=(none,n,kc)/\1<=n/\n<=e8/\Rg (Vt st) b lo (lo+e8)/\NI c b lo (lo+n)/\kc<n/\(∀u v,lo+n-1-kc<=u->u<lo+n->lo+n-1-kc<=v->v<lo+n->le c (el b u) (el b v))) ?_ ?_ ?_) ?_)
  ·rintro x r aB J_ hx ⟨b,n',kc,rfl,rfl,rfl,R,N,hq,he⟩;dsimp only;refine U1 (iJ L h0 R (by lia) (by lia) ?_)
   dsimp only;cases mX:c (el b (lo+n')) (el b (lo+n' - 1))with
   |true =>
    rw[if_pos rfl]
    by_cases AL:kc>0
    ·rw[if_pos AL];refine U1 (iI (U7 ?_));have hz:lo+n'<=b.size:=by have:=R.size;have:=h0.size;lia
     refine⟨mirror b (lo+n' - (kc+1)) (lo+n') ((lo+n' - (lo+n' - (kc+1))) / 2),n'+1,0,rfl,rfl,rfl,R.trans ((e_ hz).mono (by lia) (by lia)),?_,by lia,?_⟩
     ·refine NI.snoc O (jL (by lia) hz N λu v h1 h2 h3 h4=>he u v (by lia) h2 (by lia) h4) (by lia) ?_
      rw[b9 hz,b9 hz,if_neg (by lia),if_pos (by lia)]
      exact O.trans (O.of_lt mX) (he _ _ (by lia) (by lia) (by lia) (by lia))
     ·intro u v h1 h2 h3 h4;obtain rfl:u=v:=by lia
      exact O.refl _
    ·rw[if_neg AL];refine U7 ⟨b,n'+1,0,rfl,rfl,rfl,R,N.snoc O (by lia) (O.of_lt mX),by lia,?_⟩
     intro u v h1 h2 h3 h4;obtain rfl:u=v:=by lia
     exact O.refl _
   |false =>
    rw[if_neg (by simp)]
    refine U1 (iJ L h0 R (by lia) (by lia) ?_)
    dsimp only;cases kS:c (el b (lo+n' - 1)) (el b (lo+n'))with
    |true =>
     rw[if_pos rfl];exact U7 ⟨b,n',kc,rfl,rfl,by lia,by lia,R,N,hq,he⟩
    |false =>
     rw[if_neg (by simp)]
     refine U7 ⟨b,n'+1,kc+1,rfl,rfl,rfl,R,N.snoc O (by lia) kS,by lia,?_⟩
     have hl:∀u,lo+n' - 1-kc<=u->u<lo+(n'+1)->le c (el b u) (el b (lo+n'))/\le c (el b (lo+n')) (el b u):=λu h1 h2=>by
      by_cases hu:u<lo+n'
      ·exact⟨O.trans (he u (lo+n' - 1) h1 hu (by lia) (by lia)) mX,O.trans kS (he (lo+n' - 1) u (by lia) (by lia) h1 hu)⟩
      ·obtain rfl:u=lo+n':=by lia
       exact⟨O.refl _,O.refl _⟩
     intro u v h1 h2 h3 h4;exact O.trans (hl u (by lia) h2).1 (hl v (by lia) h4).2
  ·rintro r aB ⟨b,n',kc,rfl,rfl,hx,R,N,hq,he⟩;exact⟨b,n',kc,rfl,rfl,by lia,by lia,R,N,hq,he⟩
  ·refine⟨_,n+1,0,rfl,rfl,rfl,R0,N0,by lia,?_⟩
   intro u v h1 h2 h3 h4;obtain rfl:u=v:=by lia
   exact O.refl _
  rintro r aB ⟨b,n',kc,rfl,rfl,SV,SU,RB,NB,hq,he⟩;dsimp only
  by_cases AL:kc>0
  ·rw[if_pos AL];refine U1 (iI ?_);have hz:lo+n'<=b.size:=by have:=RB.size;have:=h0.size;lia
   have NB:=jL (c:=c) (i:=lo+n' - (kc+1)) (by lia) hz NB λu v h1 h2 h3 h4=>he u v (by lia) h2 (by lia) h4
   have RB:=RB.trans ((e_ (i:=lo+n' - (kc+1)) hz).mono (by lia) (by lia:lo+n'<=lo+e8))
   show wpS _ _ _ _ _ Q (V5 st (mirror b (lo+n' - (kc+1)) (lo+n') ((lo+n' - (lo+n' - (kc+1))) / 2)));generalize mirror b (lo+n' - (kc+1)) (lo+n') ((lo+n' - (lo+n' - (kc+1))) / 2)=b1 at NB RB;refine U1 (iI ?_);have R2:Rg (Vt st) (mirror b1 lo (lo+n') ((lo+n' - lo) / 2)) lo (lo+e8):=RB.trans ((e_ (by have:=RB.size;have:=h0.size;lia)).mono (UU _) (by lia))
   have S2:SR c (mirror b1 lo (lo+n') ((lo+n' - lo) / 2)) lo (lo+n'):=nE (by have:=RB.size;have:=h0.size;lia) NB
   show wpS _ _ _ _ _ Q (V5 st (mirror b1 lo (lo+n') ((lo+n' - lo) / 2)));generalize mirror b1 lo (lo+n') ((lo+n' - lo) / 2)=b2 at R2 S2;refine U1 (Wu (VU (I:=λx r aB=>aB=V5 st b2/\∃m,r=(none,m)/\m=x/\SR c b2 lo (lo+m))
    (Q:=λr aB=>aB=V5 st b2/\∃m,r=(none,m)/\1<=m/\m<=e8/\SR c b2 lo (lo+m)) ?_ ?_ ?_) ?_)
   ·rintro x r aB J_ hx ⟨rfl,m,rfl,rfl,hs⟩;dsimp only;refine U1 (iJ L h0 R2 (by lia) (by lia) ?_)
    dsimp only;cases hc:c (el b2 (lo+m)) (el b2 (lo+m-1))with
    |true =>
     rw[if_pos rfl];exact U7 ⟨rfl,m,rfl,by lia,by lia,hs⟩
    |false =>
     rw[if_neg (by simp)]
     exact U7 ⟨rfl,m+1,rfl,rfl,hs.snoc O (by lia) hc⟩
   ·rintro r aB ⟨rfl,m,rfl,hx,hs⟩;exact⟨rfl,m,rfl,by lia,by lia,hs⟩
   ·exact⟨rfl,n',rfl,rfl,S2⟩
   rintro r aB ⟨rfl,m,rfl,MM,OT,hs⟩;exact U7 (h m b2 MM OT R2 hs)
  ·rw[if_neg AL];refine U1 (iI ?_);have R2:Rg (Vt st) (mirror b lo (lo+n') ((lo+n' - lo) / 2)) lo (lo+e8):=RB.trans ((e_ (by have:=RB.size;have:=h0.size;lia)).mono (UU _) (by lia))
   have S2:SR c (mirror b lo (lo+n') ((lo+n' - lo) / 2)) lo (lo+n'):=nE (by have:=RB.size;have:=h0.size;lia) NB
   show wpS _ _ _ _ _ Q (V5 st (mirror b lo (lo+n') ((lo+n' - lo) / 2)));generalize mirror b lo (lo+n') ((lo+n' - lo) / 2)=b2 at R2 S2;refine U1 (Wu (VU (I:=λx r aB=>aB=V5 st b2/\∃m,r=(none,m)/\m=x/\SR c b2 lo (lo+m))
    (Q:=λr aB=>aB=V5 st b2/\∃m,r=(none,m)/\1<=m/\m<=e8/\SR c b2 lo (lo+m)) ?_ ?_ ?_) ?_)
   ·rintro x r aB J_ hx ⟨rfl,m,rfl,rfl,hs⟩;dsimp only;refine U1 (iJ L h0 R2 (by lia) (by lia) ?_)
    dsimp only;cases hc:c (el b2 (lo+m)) (el b2 (lo+m-1))with
    |true =>
     rw[if_pos rfl];exact U7 ⟨rfl,m,rfl,by lia,by lia,hs⟩
    |false =>
     rw[if_neg (by simp)]
     exact U7 ⟨rfl,m+1,rfl,rfl,hs.snoc O (by lia) hc⟩
   ·rintro r aB ⟨rfl,m,rfl,hx,hs⟩;exact⟨rfl,m,rfl,by lia,by lia,hs⟩
   ·exact⟨rfl,n',rfl,rfl,S2⟩
   rintro r aB ⟨rfl,m,rfl,MM,OT,hs⟩;exact U7 (h m b2 MM OT R2 hs)
end
section
variable {c:UZ->UZ->Bool}{a:Array UZ}
theorem jV {src d:Nat}(hs:src<a.size)(hd:d<=src)(k:Nat):el (bubble a src d) k=if k=src-d then el a src else if src-d<k/\k<=src then el a (k-1) else el a k:=by
 have e:=getElem?_bubble hs d hd k
 by_cases h1:k=src-d
 ·rw[if_pos h1]at e ⊢
  exact d6 e
 ·rw[if_neg h1]at e ⊢
  by_cases h2:src-d<k/\k<=src
  ·rw[if_pos h2]at e ⊢
   exact d6 e
  ·rw[if_neg h2]at e ⊢
   exact d6 e
theorem yp {lo k l:Nat}(O:cm c)(hk:lo+k<a.size)(hl:l<=k)(h:SR c a lo (lo+k))(h1:∀i,i<l->le c (el a (lo+i)) (el a (lo+k)))(h2:∀i,l<=i->i<k->le c (el a (lo+k)) (el a (lo+i))):
  SR c (bubble a (lo+k) (lo+k-(lo+l))) lo (lo+(k+1)):=λi j g1 g2 g3=>by
 rw[jV hk (by lia),jV hk (by lia),show lo+k-(lo+k-(lo+l))=lo+l by lia]
 have q1:∀i,lo<=i->i<lo+l->le c (el a i) (el a (lo+k)):=λi x y=>by
  have:=h1 (i-lo) (by lia)
  rwa [show lo+(i-lo)=i by lia]at this
 have q2:∀i,lo+l<=i->i<lo+k->le c (el a (lo+k)) (el a i):=λi x y=>by
  have:=h2 (i-lo) (by lia) (by lia)
  rwa [show lo+(i-lo)=i by lia]at this
 by_cases ei:i=lo+l
 ·rw[if_pos ei]
  by_cases ej:j=lo+l
  ·rw[if_pos ej];exact O.refl _
  ·rw[if_neg ej,if_pos (by lia)]
   exact q2 _ (by lia) (by lia)
 ·rw[if_neg ei]
  by_cases ej:j=lo+l
  ·rw[if_pos ej,if_neg (by lia)]
   exact q1 _ (by lia) (by lia)
  ·rw[if_neg ej]
   by_cases fi:lo+l<i/\i<=lo+k
   ·rw[if_pos fi,if_pos (by lia)]
    exact h _ _ (by lia) (by lia) (by lia)
   ·rw[if_neg fi]
    by_cases fj:lo+l<j/\j<=lo+k
    ·rw[if_pos fj];exact h _ _ (by lia) (by lia) (by lia)
    ·rw[if_neg fj];exact h _ _ (by lia) (by lia) (by lia)
theorem yq {src d:Nat}(hs:src<a.size)(hd:d<=src):Rg a (bubble a src d) (src-d) (src+1):=⟨bubble_perm _ _ _,λk h=>by
 rw[jV hs hd,if_neg (by lia),if_neg (by lia)]⟩
end
section
variable {prog:UX}{w:Vb}{A:VZ}{E:UR->UT->Prop}{s:UT}{κ:Xh}{c:UZ->UZ->Bool}{a₀:Array UZ}
theorem Fh (O:cm c)(L:f6 prog w A E s κ c (·∈a₀.toList)){st:Vq}{lo n ok:Nat}{Q:Bool->Vq->Prop}(h0:jY κ a₀ st)(bM:ok<=n)(h1:1<=n)(hn:lo+n<=a₀.size)(hs:SR c (Vt st) lo (lo+ok))
  (h:∀b,Rg (Vt st) b lo (lo+n)->SR c b lo (lo+n)->Q true (V5 st b)):wpS (model prog w) A E s (binarySort' lo n ok) Q st:=by
 rw[binarySort'_eq];refine U1 (Wu (VU (I:=λk r aB=>r=(none,())/\k<=n/\∃b,aB=V5 st b/\Rg (Vt st) b lo (lo+n)/\SR c b lo (lo+k))
  (Q:=λr aB=>r=(none,())/\∃b,aB=V5 st b/\Rg (Vt st) b lo (lo+n)/\SR c b lo (lo+n)) ?_ ?_ ?_) ?_)
 ·rintro k r aB Lo hk ⟨rfl,_,b,rfl,R,xQ⟩;dsimp only;have hz:b.size=a₀.size:=R.size.trans h0.size;refine U1 (Wu (VU (I:=λx r aB=>aB=V5 st b/\∃l u,r=(none,l,u)/\l<=u/\u<=k/\u-l<=k-x/\(∀i,i<l->le c (el b (lo+i)) (el b (lo+k)))/\(∀i,u<=i->i<k->le c (el b (lo+k)) (el b (lo+i))))
   (Q:=λr aB=>aB=V5 st b/\∃l,r=(none,l,l)/\l<=k/\(∀i,i<l->le c (el b (lo+i)) (el b (lo+k)))/\(∀i,l<=i->i<k->le c (el b (lo+k)) (el b (lo+i)))) ?_ ?_ ?_) ?_)
  ·rintro x r aB _ hx ⟨rfl,l,u,rfl,g1,g2,g3,g4,g5⟩;dsimp only
   by_cases QS:l >= u
   ·rw[if_pos QS];obtain rfl:l=u:=by lia
    exact U7 ⟨rfl,l,rfl,g2,g4,g5⟩
   ·rw[if_neg QS];refine U1 (iJ L h0 R (by lia) (by lia) ?_)
    dsimp only;cases hc:c (el b (lo+k)) (el b (lo+(l+u) / 2))with
    |true =>
     rw[if_pos rfl];exact U7 ⟨rfl,l,_,rfl,by lia,by lia,by lia,g4,λi h1 h2=>O.trans (O.of_lt hc) (xQ _ _ (by lia) (by lia) (by lia))⟩
    |false =>
     rw[if_neg (by simp)]
     exact U7 ⟨rfl,_,u,rfl,by lia,by lia,by lia,λi h1=>O.trans (xQ _ _ (by lia) (by lia) (by lia)) (show le c (el b (lo+(l+u) / 2)) (el b (lo+k)) from hc),g5⟩
  ·rintro r aB ⟨rfl,l,u,rfl,g1,g2,g3,g4,g5⟩;obtain rfl:l=u:=by lia
   exact⟨rfl,l,rfl,g2,g4,g5⟩
  ·exact⟨rfl,0,k,rfl,Ve _,UU _,by lia,λi hi=>by lia,λi h1 h2=>by lia⟩
  rintro r aB ⟨rfl,l,rfl,g2,g4,g5⟩;dsimp only;rw[moveDown'_eq];refine U1 (W5 (U7 ⟨rfl,by lia,_,rfl,R.trans ((yq (a:=b) (by lia) (by lia)).mono (by lia) (by lia)),yp (a:=b) O (by lia) g2 xQ g4 g5⟩))
 ·rintro r aB ⟨rfl,hx,b,rfl,R,xQ⟩;rw[show max (max ok 1) n=n by lia]at xQ
  exact⟨rfl,b,rfl,R,xQ⟩
 ·refine⟨rfl,by lia,Vt st,rfl,Rg.refl,?_⟩
  by_cases h2:ok=0
  ·subst h2;exact SR.one O
  ·rw[show max ok 1=ok by lia]
   exact hs
 ·rintro r aB ⟨rfl,b,rfl,R,xQ⟩;exact U7 (h b R xQ)
theorem rZ (base:Nat):∀(l:List UZ) (off:Nat) (a:Array UZ),base+off+l.length<=a.size->∀k:Nat,
  ((l.zipIdx off).foldl (λx (z:UZ×Nat)=>x.setIfInBounds (base+z.2) z.1) a)[k]?=if base+off<=k/\k<base+off+l.length then l[k-(base+off)]? else a[k]?
 |[],off,a,_,k=>by
  rw[if_neg (by rw[Wc];lia)]
  rfl
 |x::l,off,a,h,k=>by
  rw[U_]at h;rw[List.zipIdx_cons,XI,rZ base l (off+1) _ (by rw[Array.size_setIfInBounds];lia)]
  by_cases h1:base+(off+1)<=k/\k<base+(off+1)+l.length
  ·rw[if_pos h1,if_pos (by rw[U_];lia),show k-(base+off)=k-(base+(off+1))+1 by lia,List.getElem?_cons_succ]
  ·rw[if_neg h1,Array.getElem?_setIfInBounds]
   by_cases h2:base+off=k
   ·subst h2;rw[if_pos rfl,if_pos (by lia),if_pos (by rw[U_];lia),YJ]
    rfl
   ·rw[if_neg h2,if_neg (by rw[U_];lia)]
def BL (a:Array UZ)(base:Nat)(l:List UZ):Array UZ:=l.zipIdx.foldl (λx (z:UZ×Nat)=>x.setIfInBounds (base+z.2) z.1) a
theorem oM {a:Array UZ}{base:Nat}{l:List UZ}(h:base+l.length<=a.size)(k:Nat):(BL a base l)[k]?=if base<=k/\k<base+l.length then l[k-base]? else a[k]?:=rZ base l 0 a h k
theorem yG {a:Array UZ}{base:Nat}{l:List UZ}(h:base+l.length<=a.size):(BL a base l).toList=a.toList.take base++(l++a.toList.drop (base+l.length)):=by
 apply WZ;intro k;rw[Vl,oM h];have hz:a.toList.length=a.size:=Vn
 by_cases h1:base<=k/\k<base+l.length
 ·rw[if_pos h1,VR (by rw[VS];lia),VS,Ws (by lia)]
  congr 1
  lia
 ·rw[if_neg h1]
  by_cases h2:k<base
  ·rw[Ws (by rw[VS];lia),List.getElem?_take_of_lt h2,Vl]
  ·rw[VR (by rw[VS];lia),VS,VR (by lia),List.getElem?_drop,Vl]
   congr 1
   lia
theorem FC (a:Array UZ)(base m:Nat):a.toList=a.toList.take base++((a.toList.drop base).take m++a.toList.drop (base+m)):=by
 have h1:=(WB base a.toList).symm;have h2:=(WB m (a.toList.drop base)).symm;rw[List.drop_drop]at h2;rw[<- h2];exact h1
theorem Fc {a:Array UZ}{base:Nat}{l:List UZ}(h:base+l.length<=a.size)(hp:l.Perm ((a.toList.drop base).take l.length)):Rg a (BL a base l) base (base+l.length) where
 perm:=by
  rw[W9,yG h];refine List.Perm.trans ?_ (Y1 (FC a base l.length).symm);exact List.Perm.append_left _ (hp.append_right _)
 out:=λk hk=>d6 (by rw[oM h,if_neg (by lia)])
end
section
variable {prog:UX}{w:Vb}{A:VZ}{E:UR->UT->Prop}{s:UT}{κ:Xh}{c:UZ->UZ->Bool}{a₀:Array UZ}
theorem BM {σ:Type}{M:Model}{Q:PUnit->σ->Prop}{st aB:σ}(h:Q ⟨⟩ aB):wpS M A E s (set aB:StateT σ Sem PUnit) Q st:=by
 unfold wpS;rw[StateT.run_set];exact Vg ⟨rfl,h⟩
theorem uK {a:Array UZ}{lo hi i:Nat}(h:i<hi-lo)(hh:hi<=a.size):el (a.extract lo hi) i=el a (lo+i) :=
 d6 (by rw[Array.getElem?_extract,if_pos (by lia)])
theorem mq {a:Array UZ}{lo hi:Nat}(hh:hi<=a.size):(a.extract lo hi).size=hi-lo:=by
 rw[Array.size_extract];lia
theorem vM {a:Array UZ}{lo hi:Nat}(hh:hi<=a.size){z:UZ}(h:z∈(a.extract lo hi).toList):∃u,lo<=u/\u<hi/\z=el a u:=by
 obtain⟨i,jT⟩:=Ys h;rw[Vl]at jT;have c5:i<(a.extract lo hi).size:=by
  rcases Xb i (a.extract lo hi).size with q|q
  ·exact q
  ·rw[Xw q]at jT;cases jT
 rw[mq hh]at c5;exact⟨lo+i,by lia,by lia,by rw[<- uK c5 hh,wu jT]⟩
theorem tH (O:cm c)(L:f6 prog w A E s κ c (·∈a₀.toList)){st:Vq}{i sa na pw sb nb NR:Nat}{Q:Bool->Vq->Prop}(h0:jY κ a₀ st)(p1:(Vh st)[i]?=some (sa,na,pw))(p2:(Vh st)[i+1]?=some (sb,nb,NR))
  (xQ:sb=sa+na) (UA:1<=na) (QQ:1<=nb) (hz:sb+nb<=a₀.size) (s1:SR c (Vt st) sa sb) (s2:SR c (Vt st) sb (sb+nb))
  (h:∀aB,kindOf aB=κ->Xq aB=none->Vh aB=((Vh st).setIfInBounds i (sa,na+nb,pw)).eraseIdxIfInBounds (i+1)->Rg (Vt st) (Vt aB) sa (sb+nb)->SR c (Vt aB) sa (sb+nb)->Q true aB) :
  wpS (model prog w) A E s (mergeAt' i) Q st:=by
 rw[rG];refine U1 (XW ?_);rw[p1,p2];dsimp only;refine U1 (BM ?_);have hsz:=h0.size;have hm:∀{j},j<a₀.size->el (Vt st) j∈a₀.toList:=λhj=>h0.mem hj;generalize ha:Vt st=a at *
 have wV:kindOf (XA st (((Vh st).setIfInBounds i (sa,na+nb,pw)).eraseIdxIfInBounds (i+1)))=κ:=h0.kind;have Fx:Xq (XA st (((Vh st).setIfInBounds i (sa,na+nb,pw)).eraseIdxIfInBounds (i+1)))=none:=h0.fail;have Fy:Vt (XA st (((Vh st).setIfInBounds i (sa,na+nb,pw)).eraseIdxIfInBounds (i+1)))=a:=ha;have Je:Vh (XA st (((Vh st).setIfInBounds i (sa,na+nb,pw)).eraseIdxIfInBounds (i+1)))=((Vh st).setIfInBounds i (sa,na+nb,pw)).eraseIdxIfInBounds (i+1):=rfl;generalize hP:((Vh st).setIfInBounds i (sa,na+nb,pw)).eraseIdxIfInBounds (i+1)=P at *
 generalize XA st P=Nm at *
 refine U1 (aO (by lia) ?_)
 refine U1 (dz O L wV (hm (by lia)) (λx hx=>hm (by lia)) (by lia) (λx y h1 h2 h3=>s1 x y h1 h2 (by lia)) (by lia) λk k1 k2 k3=>?_)
 dsimp only;have g0:∀x,sa<=x->x<sa+k->le c (el a x) (el a sb):=λx h1 h2=>by
  have:=k2 (x-sa) (by lia)
  unfold d8 at this;rw[if_neg (by simp),X0,show sa+(x-sa)=x by lia]at this
  exact this
 by_cases e1:(na-k==0)=true
 ·rw[if_pos e1];have e1:na-k=0:=by simpa using e1
  refine U7 (h Nm wV Fx Je (by rw[Fy];exact Rg.refl) ?_)
  rw[Fy];intro x y h1 h2 h3
  by_cases hx:x<sb
  ·by_cases hy:y<sb
   ·exact s1 x y h1 h2 hy
   ·exact O.trans (g0 x h1 (by lia)) (s2 sb y (UU _) (by lia) h3)
  ·exact s2 x y (by lia) h2 h3
 rw[if_neg e1];have e1:na-k≠0:=by simpa using e1
 have g1:c (el a sb) (el a (sa+k))=true:=by
  have:=k3 k (UU _) (by lia)
  unfold d8 at this;rw[if_neg (by simp),YE]at this
  exact this
 refine U1 (aO (by lia) ?_)
 refine U1 (dz O L wV (hm (by lia)) (λx hx=>hm (by lia)) (by lia) (λx y h1 h2 h3=>s2 x y h1 h2 (by lia)) (by lia) λm m1 m2 m3=>?_)
 dsimp only;rw[show sa+k+(na-k)-1=sb-1 by lia]at m2 m3
 have g2:∀x,sb<=x->x<sb+m->c (el a x) (el a (sb-1))=true:=λx h1 h2=>by
  have:=m2 (x-sb) (by lia)
  unfold d8 at this;rw[if_pos rfl,show sb+(x-sb)=x by lia]at this
  exact this
 have g3:∀x,sb+m<=x->x<sb+nb->le c (el a (sb-1)) (el a x):=λx h1 h2=>by
  have:=m3 (x-sb) (by lia) (by lia)
  unfold d8 at this;rw[if_pos rfl,show sb+(x-sb)=x by lia]at this
  exact this
 by_cases e2:(m==0)=true
 ·exfalso
  have e2:m=0:=by simpa using e2
  have:=O.trans (s1 (sa+k) (sb-1) (by lia) (by lia) (by lia)) (g3 sb (by lia) (by lia))
  exact absurd (g1.symm.trans this) (by simp)
 rw[if_neg e2];have e2:m≠0:=by simpa using e2
 have zx:(a.extract (sa+k) sb).size=sb-(sa+k):=mq (by lia)
 have zy:(a.extract sb (sb+m)).size=m:=by rw[mq (by lia)];lia
 have ex:∀{t},t<sb-(sa+k)->el (a.extract (sa+k) sb) t=el a (sa+k+t):=λht=>uK ht (by lia)
 have ey:∀{t},t<m->el (a.extract sb (sb+m)) t=el a (sb+t):=λht=>uK (by lia) (by lia)
 have fin:∀(out:Array UZ) (f_:Vq),jZ Nm f_->Gd c (a.extract (sa+k) sb) (a.extract sb (sb+m)) out.toList ->
   wpS (model prog w) A E s (do
    modify λs2=>V5 s2 (out.toList.zipIdx.foldl (λx z=>match z with|(p,j)=>x.setIfInBounds (sa+k+j) p) (Vt s2))
    let y <- get
    pure (Xq y).isNone:StateT Vq Sem Bool) Q f_:=by
  rintro out f_ e ⟨gp,gs⟩;refine U1 (W5 (U1 (XW (U7 ?_))));show Q (Xq f_).isNone (V5 f_ (BL (Vt f_) (sa+k) out.toList));rw[e.fail,Fx,e.arr,Fy];have zo:out.toList.length=sb-(sa+k)+m:=by
   rw[gp.length_eq,Vr,Vn,Vn,zx,zy]
  have hb:sa+k+out.toList.length<=a.size:=by lia
  have xy:(a.toList.drop (sa+k)).take out.toList.length=(a.extract (sa+k) sb).toList++(a.extract sb (sb+m)).toList:=by
   rw[ck,ck,zo,show sb+m-sb=m by lia,List.take_add,List.drop_drop,show sa+k+(sb-(sa+k))=sb by lia]
  have R:Rg a (BL a (sa+k) out.toList) (sa+k) (sa+k+out.toList.length):=Fc hb (by rw[xy];exact gp)
  refine h _ (e.kind.trans wV) (e.fail.trans Fx) (e.pend.trans Je) (R.mono (by lia) (by lia)) ?_
  show SR c (BL a (sa+k) out.toList) sa (sb+nb);have Hv:∀t,sa+k<=t->t<sb+m->∃z,out.toList[t-(sa+k)]?=some z/\el (BL a (sa+k) out.toList) t=z/\((∃u,sa+k<=u/\u<sb/\z=el a u)\/∃u,sb<=u/\u<sb+m/\z=el a u):=by
   intro t h1 h2;have hl:t-(sa+k)<out.toList.length:=by lia
   refine⟨out.toList[t-(sa+k)],U3 hl,wu (by rw[oM hb,if_pos (by lia)];exact U3 hl),?_⟩
   have OR:=gp.mem_iff.mp (X9 hl);rcases Vp.mp OR with q|q
   ·exact .inl (vM (by lia) q)
   ·exact .inr (vM (by lia) q)
  have Ra:∀t,t<sa+k->el (BL a (sa+k) out.toList) t=el a t:=λt ht=>R.out t (.inl ht);have MR:∀t,sb+m<=t->el (BL a (sa+k) out.toList) t=el a t:=λt ht=>R.out t (.inr (by lia))
  intro x y h1 h2 h3
  by_cases hx:x<sa+k
  ·rw[Ra x hx]
   by_cases hy:y<sa+k
   ·rw[Ra y hy];exact s1 x y h1 h2 (by lia)
   ·by_cases Ob:y<sb+m
    ·obtain⟨z,_,ez,N_⟩:=Hv y (by lia) Ob
     rw[ez];rcases N_ with⟨u,u1,u2,rfl⟩|⟨u,u1,u2,rfl⟩
     ·exact s1 x u h1 (by lia) u2
     ·exact O.trans (g0 x h1 hx) (s2 sb u (UU _) u1 (by lia))
    ·rw[MR y (by lia)]
     exact O.trans (g0 x h1 hx) (s2 sb y (UU _) (by lia) h3)
  ·by_cases Sw:x<sb+m
   ·obtain⟨z,iz,ez,N_⟩:=Hv x (by lia) Sw
    rw[ez]
    by_cases Ob:y<sb+m
    ·obtain⟨z',So,Pz,_⟩:=Hv y (by lia) Ob
     rw[Pz]
     by_cases Oc:x=y
     ·subst Oc;rw[ez]at Pz;rw[Pz];exact O.refl _
     ·obtain⟨q1,q2⟩:=UY.mp iz;obtain⟨q3,q4⟩:=UY.mp So;have:=XU.mp gs _ _ q1 q3 (by lia)
      rw[q2,q4]at this;exact this
    ·rw[MR y (by lia)]
     rcases N_ with⟨u,u1,u2,rfl⟩|⟨u,u1,u2,rfl⟩
     ·exact O.trans (s1 u (sb-1) (by lia) (by lia) (by lia)) (g3 y (by lia) h3)
     ·exact s2 u y (by lia) (by lia) h3
   ·rw[MR x (by lia),MR y (by lia)]
    exact s2 x y (by lia) h2 h3
 have go:∀(out:Array UZ) (f_:Vq),jZ Nm f_->Gd c (a.extract (sa+k) sb) (a.extract sb (sb+m)) out.toList->wpS (model prog w) A E s (do
    modify λs2=>V5 s2 (out.toList.zipIdx.foldl (λx z=>match z with|(p,j)=>x.setIfInBounds (sa+k+j) p) (Vt s2))
    let y <- get
    pure (Xq y).isNone:StateT Vq Sem Bool) Q f_:=fin
 have Od:0<(a.extract (sa+k) sb).size:=by lia
 have QK:0<(a.extract sb (sb+m)).size:=by lia
 have Sx:∀t,t<(a.extract (sa+k) sb).size->el (a.extract (sa+k) sb) t∈a₀.toList:=λt ht=>by rw[ex (by lia)];exact hm (by lia)
 have Sy:∀t,t<(a.extract sb (sb+m)).size->el (a.extract sb (sb+m)) t∈a₀.toList:=λt ht=>by rw[ey (by lia)];exact hm (by lia)
 have Qj:SR c (a.extract (sa+k) sb) 0 (a.extract (sa+k) sb).size:=λx y h1 h2 h3=>by
  rw[ex (by lia),ex (by lia)]
  exact s1 _ _ (by lia) (by lia) (by lia)
 have Qi:SR c (a.extract sb (sb+m)) 0 (a.extract sb (sb+m)).size:=λx y h1 h2 h3=>by
  rw[ey (by lia),ey (by lia)]
  exact s2 _ _ (by lia) (by lia) (by lia)
 have hf:c (el (a.extract sb (sb+m)) 0) (el (a.extract (sa+k) sb) 0)=true:=by
  rw[ex (by lia),ey (by lia)]
  exact g1
 have hl:∀y,y<(a.extract sb (sb+m)).size->c (el (a.extract sb (sb+m)) y) (el (a.extract (sa+k) sb) ((a.extract (sa+k) sb).size-1))=true:=λy hy=>by
  rw[ey (by lia),ex (by lia),show sa+k+((a.extract (sa+k) sb).size-1)=sb-1 by lia]
  exact g2 _ (by lia) (by lia)
 by_cases e3:na-k<=m
 ·rw[if_pos e3];exact U1 (tF O L wV Sx Sy Qj Qi Od QK hf hl go)
 ·rw[if_neg e3];exact U1 (tG O L wV Sx Sy Qj Qi Od QK hf hl go)
end
section
variable {c:UZ->UZ->Bool}{a b:Array UZ}
def Runs (c:UZ->UZ->Bool)(a:Array UZ):List (Nat×Nat×Nat)->Nat->Nat->Prop
 |[],lo,hi=>lo=hi
 |z::r,lo,hi=>z.1=lo/\1<=z.2.1/\SR c a lo (lo+z.2.1)/\Runs c a r (lo+z.2.1) hi
theorem Runs.app:∀{l r:List (Nat×Nat×Nat)} {lo hi:Nat},Runs c a (l++r) lo hi->∃m,Runs c a l lo m/\Runs c a r m hi
 |[],r,lo,hi,h=>⟨lo,rfl,h⟩
 |z::l,r,lo,hi,⟨h1,h2,h3,h4⟩=>by
  obtain⟨m,g1,g2⟩:=Runs.app h4;exact⟨m,⟨h1,h2,h3,g1⟩,g2⟩
theorem Runs.join:∀{l r:List (Nat×Nat×Nat)} {lo m hi:Nat},Runs c a l lo m->Runs c a r m hi->Runs c a (l++r) lo hi
 |[],r,lo,m,hi,h,g=>by
  obtain rfl:lo=m:=h;exact g
 |z::l,r,lo,m,hi,⟨h1,h2,h3,h4⟩,g=>⟨h1,h2,h3,Runs.join h4 g⟩
theorem Runs.len:∀{l:List (Nat×Nat×Nat)} {lo hi:Nat},Runs c a l lo hi->lo+l.length<=hi
 |[],lo,hi,h=>Nat.le_of_eq h
 |z::l,lo,hi,⟨h1,h2,h3,h4⟩=>by
  have:=Runs.len h4;rw[U_];lia
theorem Runs.congr:∀{l:List (Nat×Nat×Nat)} {lo hi:Nat},Runs c a l lo hi->(∀k,lo<=k->k<hi->el b k=el a k)->Runs c b l lo hi
 |[],lo,hi,h,_=>h
 |z::l,lo,hi,⟨h1,h2,h3,h4⟩,e=>by
  have hl:=Runs.len h4;exact⟨h1,h2,h3.congr λk g1 g2=>e k g1 (by lia),Runs.congr h4 λk g1 g2=>e k (by lia) g2⟩
theorem Runs.pow:∀{l l':List (Nat×Nat×Nat)} {lo hi:Nat},Runs c a l lo hi->l'.map (λz=>(z.1,z.2.1))=l.map (λz=>(z.1,z.2.1))->Runs c a l' lo hi
 |[],[],_,_,h,_=>h
 |[],z::l',_,_,_,e=>by cases e
 |z::l,[],_,_,_,e=>by cases e
 |z::l,z'::l',lo,hi,⟨h1,h2,h3,h4⟩,e=>by
  rw[Vs,Vs]at e;injection e with e1 e2
  injection e1 with e3 e4
  exact⟨e3.trans h1,by rw[e4];exact h2,by rw[e4];exact h3,by rw[e4];exact Runs.pow h4 e2⟩
end
section
variable {prog:UX}{w:Vb}{A:VZ}{E:UR->UT->Prop}{s:UT}{κ:Xh}{c:UZ->UZ->Bool}{a₀:Array UZ}
theorem FE {α:Type}{l:List α}{i:Nat}(h:i+1<l.length):∃l1 x y l2,l=l1++x::y::l2/\l1.length=i:=by
 refine⟨l.take i,l[i],l[i+1],l.drop (i+2),?_,by rw[VS];lia⟩
 rw[<- VN h,<- VN (by lia),WB]
theorem m_ (O:cm c)(L:f6 prog w A E s κ c (·∈a₀.toList)){st:Vq}{i hi:Nat}{Q:Bool->Vq->Prop}(h0:jY κ a₀ st)(hr:Runs c (Vt st) (Vh st).toList 0 hi)(hh:hi<=a₀.size)(O_:i+1<(Vh st).size)
  (h:∀aB,jY κ a₀ aB->Rg (Vt st) (Vt aB) 0 hi->Runs c (Vt aB) (Vh aB).toList 0 hi->(Vh aB).size+1=(Vh st).size->Q true aB) :
  wpS (model prog w) A E s (mergeAt' i) Q st:=by
 obtain⟨l1,⟨sa,na,pw⟩,⟨sb,nb,NR⟩,l2,el,hl⟩:=FE (l:=(Vh st).toList) (i:=i) (by rw[Vn];exact O_)
 rw[el]at hr;obtain⟨m,r1,r2⟩:=hr.app;obtain⟨x1,x2,x3,y1,y2,y3,r3⟩:=r2;dsimp only at x1 x2 x3 y1 y2 y3 r3;have hlen:=r3.len;have QT:=r1.len;have p1:(Vh st)[i]?=some (sa,na,pw):=by
  rw[<- Vl,el,VR (by lia),hl,YJ]
  rfl
 have p2:(Vh st)[i+1]?=some (sb,nb,NR):=by
  rw[<- Vl,el,VR (by lia),hl,show i+1-i=1 by lia]
  rfl
 subst x1;refine tH O L h0 p1 p2 y1 x2 y2 (by lia) (by rw[y1];exact x3) (by rw[y1];exact y3) λaB k1 k2 k3 R S=>?_
 have ep:(Vh aB).toList=l1++(sa,na+nb,pw)::l2:=by
  rw[k3];have hz:i+1<((Vh st).setIfInBounds i (sa,na+nb,pw)).size:=by rw[Array.size_setIfInBounds];exact O_
  have e1:(((Vh st).setIfInBounds i (sa,na+nb,pw)).eraseIdxIfInBounds (i+1)).toList=((Vh st).toList.set i (sa,na+nb,pw)).eraseIdx (i+1):=by
   unfold Array.eraseIdxIfInBounds;rw[dif_pos hz,Array.toList_eraseIdx,Array.toList_setIfInBounds]
  rw[e1,el,<- hl,List.set_append_right _ _ (UU _),YJ,List.set_cons_zero,List.eraseIdx_append_of_length_le (by lia),show l1.length+1-l1.length=1 by lia]
  rfl
 have out:∀k,(k<sa\/sb+nb<=k)->TS.el (Vt aB) k=TS.el (Vt st) k:=R.out;refine h aB ⟨k1,k2,R.perm.trans h0.perm⟩ (R.mono (Ve _) (by lia)) ?_ ?_
 ·rw[ep];refine Runs.join (r1.congr λk g1 g2=>out k (.inl (by lia))) ⟨rfl,by show 1<=na+nb;lia,?_,?_⟩
  ·show SR c (Vt aB) sa (sa+(na+nb));rw[show sa+(na+nb)=sb+nb by lia]
   exact S
  ·show Runs c (Vt aB) l2 (sa+(na+nb)) hi;rw[show sa+(na+nb)=sa+na+nb by lia]
   exact r3.congr λk g1 g2=>out k (.inr (by lia))
 ·have e2:(Vh aB).size=l1.length+(l2.length+1):=by rw[<- Vn,ep,Vr,U_]
  have e3:(Vh st).size=l1.length+(l2.length+1+1):=by rw[<- Vn,el,Vr,U_,U_]
  lia
theorem lM:∀(f n r:Nat),1<=n->1<=minRun' f n r
 |0,n,r,h=>by show 1<=n+r;lia
 |f+1,n,r,h=>by
  rw[minRun'_succ]
  split
  ·lia
  ·exact lM f _ _ (by lia)
theorem Cr (p:Array (Nat×Nat×Nat))(i w:Nat):(p.modify i λx=>(x.1,x.2.1,w)).toList.map (λz=>(z.1,z.2.1))=p.toList.map (λz=>(z.1,z.2.1)):=by
 apply WZ;intro k;rw[Vd,Vd,Vl,Vl,Array.getElem?_modify]
 split
 ·rw[Option.map_map];rfl
 ·rfl
theorem qr (O:cm c)(L:f6 prog w A E s κ c (·∈a₀.toList)){st:Vq}{Q:Unit->Vq->Prop}(h0:jY κ a₀ st)(hp:Vh st=#[])(h2:2<=a₀.size)
  (h:∀aB,jY κ a₀ aB->SR c (Vt aB) 0 a₀.size->Q () aB):wpS (model prog w) A E s sortRuns' Q st:=by
 rw[sortRuns'_eq];refine U1 (XW ?_);dsimp only;rw[h0.size];have SW:=lM a₀.size a₀.size 0 (by lia)
 generalize minRun' a₀.size a₀.size 0=mr at SW;refine U1 (Wu (VU (I:=λx r aB=>jY κ a₀ aB/\∃lo,r=(none,lo)/\lo<=a₀.size/\(a₀.size<=lo\/x<=lo)/\Runs c (Vt aB) (Vh aB).toList 0 lo)
  (Q:=λr aB=>jY κ a₀ aB/\r=(none,a₀.size)/\Runs c (Vt aB) (Vh aB).toList 0 a₀.size) ?_ ?_ ?_) ?_)
 ·rintro x r aB _ hx ⟨hS,lo,rfl,OW,SY,hr⟩;dsimp only
  by_cases hl:lo >= a₀.size
  ·rw[if_pos hl];obtain rfl:lo=a₀.size:=by lia
   exact U7 ⟨hS,rfl,hr⟩
  rw[if_neg hl];refine U1 (yL O L hS (by lia) (by lia) λn b n1 n2 R Sb=>?_)
  dsimp only;have tq:jY κ a₀ (V5 aB b):=hS.set R;have uA:Runs c (Vt (V5 aB b)) (Vh (V5 aB b)).toList 0 lo:=Runs.congr (b:=b) hr λk q1 q2=>R.out k (.inl q2);refine(λ(key:∀(N:Nat) (stx:Vq),1<=N->lo+N<=a₀.size->Runs c (Vt stx) (Vh stx).toList 0 lo->jY κ a₀ stx->SR c (Vt stx) lo (lo+N)->(?G:Nat->Vq->Prop) N stx)=>?main) ?key
  case main =>
   by_cases QP:n<mr
   ·rw[if_pos QP];refine U1 (Yp (Xz ⟨rfl,?_⟩));refine U1 (Fh O L tq (by lia) (by lia) (by lia) Sb λb' R' TV=>?_)
    rw[if_neg (by simp)]
    have MO:1<=min (a₀.size-lo) mr:=by lia
    have Pm:lo+min (a₀.size-lo) mr<=a₀.size:=by lia
    have uA:Runs c (Vt (V5 (V5 aB b) b')) (Vh (V5 (V5 aB b) b')).toList 0 lo:=Runs.congr (b:=b') uA λk q1 q2=>R'.out k (.inl q2);have tq:jY κ a₀ (V5 (V5 aB b) b'):=tq.set R';have E5:SR c (Vt (V5 (V5 aB b) b')) lo (lo+(min (a₀.size-lo) mr)):=TV;generalize V5 (V5 aB b) b'=stx at uA tq E5 ⊢
    generalize min (a₀.size-lo) mr=N at MO Pm E5 ⊢
    exact key N stx MO Pm uA tq E5
   ·rw[if_neg QP];have E5:SR c (Vt (V5 aB b)) lo (lo+n):=Sb;exact key n _ n1 (by lia) uA tq E5
  case key =>
   intro N stx MO Pm uA tq E5;refine U1 (XW ?_);have L9:∀(lh:Vq),jY κ a₀ lh->SR c (Vt lh) lo (lo+N)->Runs c (Vt lh) (Vh lh).toList 0 lo->jY κ a₀ (XA lh ((Vh lh).push (lo,N,0)))/\∃Et,((none,lo+N):Option Unit×Nat)=(none,Et)/\Et<=a₀.size/\(a₀.size<=Et\/x+1<=Et)/\Runs c (Vt lh) ((Vh lh).push (lo,N,0)).toList 0 Et:=λlh g1 g2 g3 =>
    ⟨⟨g1.kind,g1.fail,g1.perm⟩,_,rfl,by lia,by lia,by rw[W3];exact g3.join ⟨rfl,MO,g2,rfl⟩⟩
   cases hb:(Vh stx).back? with
   |none =>
    dsimp only;exact U1 (W5 (U7 (L9 stx tq E5 uA)))
   |some z =>
    obtain⟨s1,n1,p1⟩:=z;dsimp only;refine U1 (Wu (VU (I:=λx r aB=>r=(none,())/\jY κ a₀ aB/\SR c (Vt aB) lo (lo+N)/\Runs c (Vt aB) (Vh aB).toList 0 lo)
     (Q:=λr aB=>r=(none,())/\jY κ a₀ aB/\SR c (Vt aB) lo (lo+N)/\Runs c (Vt aB) (Vh aB).toList 0 lo) ?_ ?_ ?_) ?_)
    ·rintro y r lh _ _ ⟨rfl,g1,g2,g3⟩;refine U1 (XW ?_)
     by_cases Iv:(Vh lh).size>1
     ·rw[if_pos Iv];cases hq:(Vh lh)[(Vh lh).size-2]? with
      |none =>
       dsimp only;exact U7 ⟨rfl,g1,g2,g3⟩
      |some z =>
       obtain⟨u,v,Qv⟩:=z;dsimp only
       split
       ·exact U7 ⟨rfl,g1,g2,g3⟩
       ·refine U1 (m_ O L g1 g3 (by lia) (by lia) λJd f1 f2 f3 f4=>?_)
        exact U7 ⟨rfl,f1,g2.congr λk q1 q2=>f2.out k (.inr q1),f3⟩
     ·rw[if_neg Iv];dsimp only;exact U7 ⟨rfl,g1,g2,g3⟩
    ·rintro r lh ⟨rfl,g1,g2,g3⟩;exact⟨rfl,g1,g2,g3⟩
    ·exact⟨rfl,tq,E5,uA⟩
    rintro r lh ⟨rfl,g1,g2,g3⟩;dsimp only;refine U1 (W5 (U1 (W5 (U7 ?_))));exact L9 (XA lh _) ⟨g1.kind,g1.fail,g1.perm⟩ g2 (g3.pow (Cr _ _ _))
 ·rintro r aB ⟨hS,lo,rfl,OW,SY,hr⟩;obtain rfl:lo=a₀.size:=by lia
  exact⟨hS,rfl,hr⟩
 ·exact⟨h0,0,rfl,Ve _,.inr (UU _),by rw[hp];rfl⟩
 rintro r aB ⟨hS,rfl,hr⟩;dsimp only;refine U1 (Wu (VU (I:=λx r aB=>r=(none,())/\jY κ a₀ aB/\Runs c (Vt aB) (Vh aB).toList 0 a₀.size/\((Vh aB).size<=1\/(Vh aB).size+x<=a₀.size))
  (Q:=λr aB=>r=(none,())/\jY κ a₀ aB/\Runs c (Vt aB) (Vh aB).toList 0 a₀.size/\(Vh aB).size<=1) ?_ ?_ ?_) ?_)
 ·rintro x r f_ _ hx ⟨rfl,tq,uA,hz⟩;refine U1 (XW ?_)
  by_cases h1:(Vh f_).size<=1
  ·rw[if_pos h1];exact U7 ⟨rfl,tq,uA,h1⟩
  rw[if_neg h1];refine U1 (m_ O L tq uA (UU _) ?_ λlh Tt R3 SJ Uw=>?_)
  ·split
   ·split <;> lia
   ·rw[if_neg (by simp)]
    lia
  ·exact U7 ⟨rfl,Tt,SJ,.inr (by lia)⟩
 ·rintro r f_ ⟨rfl,tq,uA,hz⟩;exact⟨rfl,tq,uA,by lia⟩
 ·refine⟨rfl,hS,hr,.inr ?_⟩;have:=hr.len;rw[Vn]at this;lia
 ·rintro r f_ ⟨rfl,tq,uA,hz⟩;refine U7 (h f_ tq ?_)
  match hq:(Vh f_).toList,uA with
  |[],e=>
   have:(0:Nat)=a₀.size:=e;lia
  |[z],e =>
   obtain⟨e1,e2,e3,e4⟩:=e;have e4:0+z.2.1=a₀.size:=e4;rw[e4]at e3;exact e3
  |z::y::l,e =>
   have:(Vh f_).toList.length<=1:=by rw[Vn];exact hz
   rw[hq]at this;simp at this
end
theorem lex_nil {y:List Int}:HT.lexLt [] y=decide (0<y.length):=by cases y <;> rfl
theorem gD {a b:Int}{x y:List Int}:HT.lexLt (a::x) (b::y)=if a=b then HT.lexLt x y else decide (a<b):=rfl
theorem rL:∀{x y:List Int},HT.lexLt x y=true->HT.lexLt y x=false
 |[],[],_=>rfl
 |[],_::_,_=>rfl
 |_::_,[],h=>by cases h
 |a::x,b::y,h=>by
  rw[gD]at h ⊢
  by_cases e:a=b
  ·rw[if_pos e]at h;rw[if_pos e.symm];exact rL h
  ·rw[if_neg e]at h;rw[if_neg λz=>e z.symm];have:=of_decide_eq_true h;exact decide_eq_false (by lia)
theorem vP:∀{x z:List Int} (y:List Int),HT.lexLt x z=true->HT.lexLt x y=true\/HT.lexLt y z=true
 |[],[],_,h=>by cases h
 |[],_::_,[],h=>.inr rfl
 |[],_::_,_::_,h=>.inl rfl
 |_::_,[],_,h=>by cases h
 |a::x,b::z,[],h=>.inr rfl
 |a::x,b::z,d::y,h=>by
  rw[gD]at h ⊢
  rw[gD]
  by_cases e:a=b
  ·subst e;rw[if_pos rfl]at h
   by_cases e2:a=d
   ·subst e2;rw[if_pos rfl,if_pos rfl];exact vP y h
   ·rw[if_neg e2,if_neg λq=>e2 q.symm]
    by_cases e3:a<d
    ·exact .inl (decide_eq_true e3)
    ·exact .inr (decide_eq_true (by lia))
  ·rw[if_neg e]at h;have h:=of_decide_eq_true h
   by_cases e2:a=d
   ·subst e2;rw[if_neg e];exact .inr (decide_eq_true h)
   ·rw[if_neg e2]
    by_cases e3:a<d
    ·exact .inl (decide_eq_true e3)
    ·rw[if_neg (by lia)]
     exact .inr (decide_eq_true (by lia))
theorem nI:∀{x y:List Int},HT.lexLt x y=false->HT.lexLt y x=false->x=y
 |[],[],_,_=>rfl
 |[],_::_,h,_=>by cases h
 |_::_,[],_,h=>by cases h
 |a::x,b::y,h1,h2=>by
  rw[gD]at h1 h2
  by_cases e:a=b
  ·subst e;rw[if_pos rfl]at h1 h2;rw[nI h1 h2]
  ·rw[if_neg e]at h1;rw[if_neg λq=>e q.symm]at h2;have h1:=of_decide_eq_false h1;have h2:=of_decide_eq_false h2;lia
def byKey (kf:UR->List Int)(x y:UZ):Bool:=HT.lexLt (kf x.1) (kf y.1)
theorem CC (kf:UR->List Int):cm (byKey kf):=⟨λ_ _ h=>rL h,λ_ y _ h=>vP (kf y.1) h⟩
section
variable {prog:UX}{w:Vb}{A:VZ}{E:UR->UT->Prop}{s:UT}
theorem rK {b:Bool}{Q:Bool->UT->Prop}:∀{ns ms:List Int} {us vs:List UR} (i:Nat),We us ns->We vs ms->Q (HT.lexLt ns ms) s->PySem.W.KatLex prog w A b (decide (ns.length<ms.length)) Q (us.zip vs) i s
 |[],ms,us,vs,i,hu,hv,q=>by
  cases hu;rw[XY];rw[lex_nil]at q;exact PySem.W.kat_nil q
 |n::ns,[],us,vs,i,hu,hv,q=>by
  cases hv;rw[XS];exact PySem.W.kat_nil q
 |n::ns,m::ms,us,vs,i,hu,hv,q=>by
  cases hu with
  |cons _ t hu =>
   cases hv with
   |cons _ t' hv =>
    rw[Wt];refine PySem.W.kat_cons (wpAny_eqBool_int ?_);rw[gD]at q
    by_cases e:n=m
    ·subst e;rw[if_pos rfl]at q;rw[beq_self_eq_true];have:=rK (b:=b) (Q:=Q) (i+1) hu hv q;rw[show decide ((n::ns).length<(n::ms).length)=decide (ns.length<ms.length) by rw[U_,U_];congr 1;simp]
     exact PySem.W.kat_yes this
    ·rw[if_neg e]at q;rw[show (n==m)=false from beq_eq_false_iff_ne.mpr e]
     refine PySem.W.kat_no ?_;cases b&&i==0 with
     |true=>exact oneLt_int q
     |false=>exact PySem.W.kat_one _ _ (lt_int q)
def sS (h:Heap)(kf:UR->List Int)(a:Addr)(vs:List UR):Prop :=
 ∀v∈vs,∃t o xs k,v=.ref t/\t≠a/\h.get? t=some o/\o.cls=.type "tuple" /\ o.data=.seq xs k/\We xs.toList (kf v)/\kf v≠[]
theorem xB {kf:UR->List Int}{a:Addr}{vs:List UR}{b:Bool}{a₀:Array UZ}(T:sS s.heap kf a vs)(hm:∀z∈a₀.toList,z.1∈vs):f6 prog w A E s (tuples' b) (byKey kf) (·∈a₀.toList):=by
 intro x y st Q hx hy hk q;obtain⟨t,o,xs,n,e1,_,e2,_,e3,e4,_⟩:=T _ (hm _ hx);obtain⟨t',o',IK,n',f1,_,f2,_,f3,f4,_⟩:=T _ (hm _ hy);rw[lt'_eq];refine U1 (XW ?_);rw[hk,e1,f1];have z1:xs.size=(kf x.1).length:=by rw[<- Vn];exact e4.length
 have z2:IK.size=(kf y.1).length:=by rw[<- Vn];exact f4.length
 refine U1 (Yp (wpAny_attempt (PySem.W.kat_lt e2 e3 f2 f3 ?_)));rw[z1,z2];exact rK 0 e4 f4 ⟨rfl,U7 q⟩
theorem k8 {kf:UR->List Int}{a:Addr}{h:Heap}:∀{vs:List UR},sS h kf a vs->∃fs:List UR,PySem.W.KatTups h vs fs/\fs.length=vs.length/\∀f∈fs,∃n t,f=Value.int n t
 |[],_=>⟨[],trivial,rfl,λf hf=>by cases hf⟩
 |v::vs,T=>by
  obtain⟨fs,h1,h2,h3⟩:=k8 (vs:=vs) λu hu=>T u (U6 _ hu);obtain⟨t,o,xs,k,rfl,_,e2,e3,e4,e5,e6⟩:=T v U9;obtain⟨f,r,ef,n,tk,hn⟩:∃f r,xs.toList=f::r/\∃n tk,f=Value.int n tk:=by
   generalize kf (.ref t)=ks at e5 e6;generalize xs.toList=us at e5;cases e5 with
   |nil=>exact absurd rfl e6
   |cons n tk r=>exact⟨_,_,rfl,_,_,rfl⟩
  have e:xs[0]?=some f:=by rw[<- Vl,ef];rfl
  exact⟨f::fs,PySem.W.KatTups.cons e2 e3 e4 e h1,by rw[U_,U_,h2],λg hg=>by
   rcases U0.mp hg with rfl|hg
   ·exact⟨_,_,hn⟩
   ·exact h3 g hg⟩
theorem xG {kf:UR->List Int}{a:Addr}{vs:List UR}{Q:Xh->UT->Prop}(T:sS s.heap kf a vs)(h0:0<vs.length)(q:Q (tuples' true) s):Vu (model prog w) A (keyKind' vs.toArray) Q E s:=by
 obtain⟨fs,h1,h2,h3⟩:=k8 T;refine PySem.W.kat_kind (T:=.type "int") h1 (by lia) (λv hv=>?_) (by decide) q
 obtain⟨n,t,rfl⟩:=h3 v hv;exact .now
theorem y9 {α:Type}{R:α->α->Prop}:∀{l:List α},l.length<2->l.Pairwise R
 |[],_=>.nil
 |[x],_=>X7 _ _
 |_::_::_,h=>by
  rw[U_,U_]at h;lia
theorem uk {a:Addr} {vs:List UR} {n:Nat} {κ:Xh} {c:UR->UR->Bool} {P:PySem.Fin->UT->Prop} (ho:s.heap.get? a=some (Xm "list" vs.toArray n)) (hz:vs.length<=1000000) (O:cm λx y=>c x.1 y.1)
  (T:∀s':UT,(∀t o,t≠a->s.heap.get? t=some o->s'.heap.get? t=some o)->(2<=vs.length->∀(Q:Xh->UT->Prop),Q κ s'->Vu (model prog w) A (keyKind' vs.toArray) Q E s')/\f6 prog w A E s' κ (λx y=>c x.1 y.1) (·∈(vs.toArray.zip vs.toArray).toList))
  (h:∀out:List UR,out.Perm vs->out.Pairwise (λx y=>c y x=false)->P (.done (.ret .none)) {s with heap:=sortedHeap s.heap a vs out.toArray}) :
  Vu (model prog w) A (Yh.«list.sort» ⟨[.ref a],[]⟩) P E s:=by
 have la:a<s.heap.objs.size:=Vi ho;obtain⟨ep,hc⟩:∃ep,(s.heap.update a (W6 λ_=>#[])).get? a=some (Xm "list" #[] ep):=⟨_,get?_update_seq ho (λ_=>#[])⟩;have old:∀t o,t≠a->s.heap.get? t=some o->(((s.heap.update a (W6 λ_=>#[])).push (Xm "tuple" vs.toArray 0)).push (Xm "list" #[] 0)).get? t=some o:=λt o ht e =>
  Vc _ (Vc _ (by rw[Heap.get?_update_ne _ _ _ _ ht];exact e))
 have pU:(((s.heap.update a (W6 λ_=>#[])).push (Xm "tuple" vs.toArray 0)).push (Xm "list" #[] 0)).get? a=some (Xm "list" #[] ep):=Vc _ (Vc _ hc);have big:∀m:Nat,m<=vs.length->m<=U4:=λm hm=>by rw[Wf];lia
 have zz:vs.toArray.size=vs.length:=by simp
 rw[list_sort_plain];refine UW (listItems_at ho rfl ?_);refine UW (listUpdate_at ho rfl ?_ (big _ (Nat.le_of_eq zz)) (Ve _));refine UW (seqEpoch_at hc rfl ?_);refine UW (wpAny_newTuple ?_ (big _ (UU _)));refine UW (wpAny_newList ?_ (Ve _));refine Xf ?_;show Vu (model prog w) A _ P E {s with heap:=((s.heap.update a (W6 λ_=>#[])).push (Xm "tuple" vs.toArray 0)).push (Xm "list" #[] 0)}
 dsimp only;have done:∀aB:Vq,(Vt aB).Perm (vs.toArray.zip vs.toArray)->(Vt aB).toList.Pairwise (le λx y=>c x.1 y.1)->P (.done (.ret .none)) {s with heap:=sortedHeap s.heap a vs ((Vt aB).map (·.2))}:=λaB hp hs=>by
  have h1:∀z∈(Vt aB).toList,z.1=z.2:=λz hz=>by
   have:=(W9.mp hp).mem_iff.mp hz;rw[YW]at this;obtain⟨i,hi⟩:=Ys this;rw[List.getElem?_zip_eq_some]at hi;exact VQ (hi.1.symm.trans hi.2)
  have e2:(Vt aB).map (·.2)=((Vt aB).toList.map (·.2)).toArray:=by
   apply Array.toList_inj.mp;rw[Array.toList_map]
  rw[e2];refine h _ ?_ ?_
  ·have:=(W9.mp hp).map (λz:UZ=>z.2);rw[YW]at this;refine this.trans (Y1 ?_);exact List.map_snd_zip (by simp)
  ·rw[Wl];refine hs.imp_of_mem λ{x y} hx hy hl=>?_;rw[<- h1 x hx,<- h1 y hy];exact hl
 by_cases h2:vs.toArray.size<2
 ·rw[if_pos h2,if_pos h2];refine UW (Vg ?_);rw[StateT.run_pure];refine UW (Vg ?_);dsimp only;refine UW (seqEpoch_at pU rfl ?_);refine UW (listUpdate_at pU rfl ?_ (Ve _) (by rw[Array.size_map,Zd];exact Vm (big _ (by lia)) (Nat.le_succ _)))
  simp only[bne_self_eq_false,Xn,if_false];refine Vg (done (SortSt.mk' general' (vs.toArray.zip vs.toArray) #[] 7 none) (Y4 _) ?_);refine y9 ?_;show (vs.toArray.zip vs.toArray).toList.length<2;rw[Vn,Zd];lia
 ·rw[if_neg h2,if_neg h2];obtain⟨hK,L⟩:=T {s with heap:=((s.heap.update a (W6 λ_=>#[])).push (Xm "tuple" vs.toArray 0)).push (Xm "list" #[] 0)} old
  refine UW (hK (by lia) _ ?_)
  have zp:(vs.toArray.zip vs.toArray).size=vs.length:=by rw[Zd];lia
  refine UW (XR (qr (Q:=λ_ aB=>(Vt aB).Perm (vs.toArray.zip vs.toArray)/\Xq aB=none/\SR (λx y=>c x.1 y.1) (Vt aB) 0 vs.length) O L
   (st:=SortSt.mk' κ (vs.toArray.zip vs.toArray) #[] 7 none) ⟨rfl,rfl,Y4 _⟩ rfl (by lia) λaB g1 g2=>⟨g1.perm,g1.fail,by rw[zp]at g2;exact g2⟩) ?_ λ_ _ e=>e)
  rintro⟨⟨⟩,aB⟩ s' ⟨rfl,hp,hf,hs⟩;dsimp only;have zs:(Vt aB).size=vs.length:=hp.size_eq.trans zp;refine UW (seqEpoch_at pU rfl ?_);refine UW (listUpdate_at pU rfl ?_ (Ve _) (by rw[Array.size_map,zs];exact Vm (big _ (UU _)) (Nat.le_succ _)))
  rw[hf];simp only[bne_self_eq_false,Xn,if_false];refine Vg (done aB hp ?_);rw[XU];intro i j hi hj aE;rw[Vn]at hi hj;have:=hs i j (Ve _) (by lia) (by lia)
  have ei:el (Vt aB) i=(Vt aB).toList[i]:=wu (by rw[<- Vl];exact U3 _)
  have ej:el (Vt aB) j=(Vt aB).toList[j]:=wu (by rw[<- Vl];exact U3 _)
  rw[ei,ej]at this;exact this
theorem uj {a:Addr} {vs:List UR} {n:Nat} {kf:UR->List Int} {P:PySem.Fin->UT->Prop} (ho:s.heap.get? a=some (Xm "list" vs.toArray n)) (hz:vs.length<=1000000) (T:sS s.heap kf a vs)
  (h:∀out:List UR,out.Perm vs->out.Pairwise (λx y=>HT.lexLt (kf y) (kf x)=false)->P (.done (.ret .none)) {s with heap:=sortedHeap s.heap a vs out.toArray}) :
  Vu (model prog w) A (Yh.«list.sort» ⟨[.ref a],[]⟩) P E s:=by
 refine uk (κ:=tuples' true) (c:=λx y=>HT.lexLt (kf x) (kf y)) ho hz (CC kf) (λs' kp=>?_) h;have T':sS s'.heap kf a vs:=λv hv=>by
  obtain⟨t,o,xs,k,e1,e2,e3,r⟩:=T v hv;exact⟨t,o,xs,k,e1,e2,kp t o e2 e3,r⟩
 exact⟨λh2 Q q=>xG T' (by lia) q,xB T' λz hz=>by
  rw[YW]at hz;exact(Ym hz).1⟩
end
end TS
namespace ST
open PySem PyProof.Rows
section
variable {prog:UX}{w:Vb}
abbrev TK (prog:UX)(w:Vb):=Yu (intKind prog w)
abbrev kH (prog:UX)(w:Vb)(k:List Int):Int:=(TK prog w).hash k
abbrev ent (prog:UX)(w:Vb)(x:Addr×List Int):Int×UR:=(kH prog w x.2,.ref x.1)
structure P2 (prog:UX)(w:Vb)(o:Obj)(ts:List (Addr×List Int))(es:Array (Int×UR))(ep:Nat)(t:SetTable):Prop where
 ex:o.ExactSet
 dat:o.data=.set es ep t
 UM:es.toList=ts.map (ent prog w)
 wf:WF t (ts.map λx=>kH prog w x.2)
 Ul:t.place.size*5<t.mask*3
 Sf:t.mask<=8191
 led:t.led=!w.params.followText "set-order"
 Ur:t.plain=true
 Uu:(ts.map (·.2)).Nodup
end
end ST
namespace L2
open PySem PySem.Spec PyProof.Rows
inductive D where
 |bH|bl (b:Bool)|int (i:Int)|str (x:Str)|obj (a:Addr)
 |tup (ds:List D)|lst (ds:List D)
 |dT (ks:List (List Key)) (ds:List D)|dK (ks:List Key) (ds:List D)
 |sT (ts:List (List Int))
 /-- one object,by what Nl there -/
 |ob (φ:Addr->HO)
def FJ (P:UX)(w:Vb)(a:Addr)(ts:List (Addr×List Int))(h:Heap):Prop:=∃o es ep t,h.get? a=some o/\ST.P2 P w o ts es ep t
abbrev L7 (P:UX)(w:Vb)(a:Addr)(ts:List (Addr×List Int)):HO:=.ext (FJ P w a ts)
def DU (P:UX)(w:Vb)(H:Hp)(a:Addr)(ts:List (List Int)):Prop :=
 ∃BF:List (Addr×List Int),H a=some (L7 P w a BF)/\(∀x∈BF,H x.1=some (.tup (x.2.map V.int)))/\(BF.map (·.2)).Perm ts
section
variable (P:UX)(w:Vb)(W:Addr->Prop)(H:Hp)
mutual
def ay:D->V->Prop
 |.bH,v=>v=.bH
 |.bl b,v=>v=.bl b
 |.int i,v=>v=.int i
 |.str x,v=>v=.str x
 |.obj a,v=>v=.ref a
 |.tup ds,v=>∃a vs,v=.ref a/\H a=some (.tup vs)/\ai ds vs
 |.lst ds,v=>∃a vs,v=.ref a/\H a=some (.lst vs)/\¬ W a/\ai ds vs
 |.dT ks ds,v=>∃a vs,v=.ref a/\H a=some (.dT (ks.zip vs))/\ks.length=vs.length/\¬ W a/\ai ds vs
 |.dK ks ds,v=>∃a vs,v=.ref a/\H a=some (.dK (ks.zip vs))/\ks.length=vs.length/\¬ W a/\ai ds vs
 |.sT ts,v=>∃a,v=.ref a/\DU P w H a ts/\¬ W a
 |.ob φ,v=>∃a,v=.ref a/\(H a=some (φ a)/\∀xs,φ a≠.tup xs)/\¬ W a
def ai:List D->List V->Prop
 |[],vs=>vs=[]
 |d::ds,vs=>∃v r,vs=v::r/\ay d v/\ai ds r
end
end
mutual
def D.flat:D->Bool
 |.tup ds=>D.cK ds
 |.lst _=>false
 |.dT _ _=>false
 |.dK _ _=>false
 |.sT _=>false
 |.ob _=>false
 |_=>true
def D.cK:List D->Bool
 |[]=>true
 |d::ds=>D.flat d&&D.cK ds
end
structure Kp (W:Addr->Prop)(H H':Hp):Prop where
 out:∀b o,H b=some o->¬ W b->H' b=some o
 tup:∀b xs,H b=some (.tup xs)->H' b=some (.tup xs)
theorem Kp.refl {W:Addr->Prop}{H:Hp}:Kp W H H:=⟨λ_ _ e _=>e,λ_ _ e=>e⟩
theorem Kp.trans {W:Addr->Prop}{H H1 H2:Hp}(a:Kp W H H1)(b:Kp W H1 H2):Kp W H H2:=⟨λc o e n=>b.out c o (a.out c o e n) n,λc xs e=>b.tup c xs (a.tup c xs e)⟩
theorem au.kp {W:Addr->Prop}{H H':Hp}(h:au H H'):Kp W H H':=⟨λb o e _=>h b o e,λb xs e=>h b _ e⟩
theorem Kp.mono {W W':Addr->Prop}{H H':Hp}(h:Kp W H H')(s:∀a,W a->W' a):Kp W' H H':=⟨λb o e n=>h.out b o e λz=>n (s b z),h.tup⟩
section
variable {P:UX}{w:Vb}{W W':Addr->Prop}{H H':Hp}
mutual
theorem ay.keep (k:Kp W H H'):∀{d:D} {v:V},ay P w W H d v->ay P w W H' d v
 |.bH,_,h=>h
 |.bl _,_,h=>h
 |.int _,_,h=>h
 |.str _,_,h=>h
 |.obj _,_,h=>h
 |.tup ds,_,⟨a,vs,e,t,r⟩=>⟨a,vs,e,k.tup a vs t,ai.keep k r⟩
 |.lst ds,_,⟨a,vs,e,t,n,r⟩=>⟨a,vs,e,k.out a _ t n,n,ai.keep k r⟩
 |.dT ks ds,_,⟨a,vs,e,t,l,n,r⟩=>⟨a,vs,e,k.out a _ t n,l,n,ai.keep k r⟩
 |.dK ks ds,_,⟨a,vs,e,t,l,n,r⟩=>⟨a,vs,e,k.out a _ t n,l,n,ai.keep k r⟩
 |.sT ts,_,⟨a,e,⟨BF,t,r,z⟩,n⟩=>⟨a,e,⟨BF,k.out a _ t n,λx hx=>k.tup _ _ (r x hx),z⟩,n⟩
 |.ob φ,_,⟨a,e,⟨t,z⟩,n⟩=>⟨a,e,⟨k.out a _ t n,z⟩,n⟩
theorem ai.keep (k:Kp W H H'):∀{ds:List D} {vs:List V},ai P w W H ds vs->ai P w W H' ds vs
 |[],_,h=>h
 |d::ds,_,⟨v,r,e,h1,h2⟩=>⟨v,r,e,ay.keep k h1,ai.keep k h2⟩
end
mutual
theorem ay.aR (s:∀a,W' a->W a):∀{d:D} {v:V},ay P w W H d v->ay P w W' H d v
 |.bH,_,h=>h
 |.bl _,_,h=>h
 |.int _,_,h=>h
 |.str _,_,h=>h
 |.obj _,_,h=>h
 |.tup ds,_,⟨a,vs,e,t,r⟩=>⟨a,vs,e,t,ai.aR s r⟩
 |.lst ds,_,⟨a,vs,e,t,n,r⟩=>⟨a,vs,e,t,λz=>n (s a z),ai.aR s r⟩
 |.dT ks ds,_,⟨a,vs,e,t,l,n,r⟩=>⟨a,vs,e,t,l,λz=>n (s a z),ai.aR s r⟩
 |.dK ks ds,_,⟨a,vs,e,t,l,n,r⟩=>⟨a,vs,e,t,l,λz=>n (s a z),ai.aR s r⟩
 |.sT ts,_,⟨a,e,t,n⟩=>⟨a,e,t,λz=>n (s a z)⟩
 |.ob φ,_,⟨a,e,t,n⟩=>⟨a,e,t,λz=>n (s a z)⟩
theorem ai.aR (s:∀a,W' a->W a):∀{ds:List D} {vs:List V},ai P w W H ds vs->ai P w W' H ds vs
 |[],_,h=>h
 |d::ds,_,⟨v,r,e,h1,h2⟩=>⟨v,r,e,ay.aR s h1,ai.aR s h2⟩
end
mutual
theorem ay.flat:∀{d:D} {v:V},d.flat=true->ay P w W H d v->ay P w W' H d v
 |.bH,_,_,h=>h
 |.bl _,_,_,h=>h
 |.int _,_,_,h=>h
 |.str _,_,_,h=>h
 |.obj _,_,_,h=>h
 |.tup ds,_,f,⟨a,vs,e,t,r⟩=>⟨a,vs,e,t,ai.flat (by simpa[D.flat] using f) r⟩
 |.lst ds,_,f,_=>by simp[D.flat]at f
 |.dT ks ds,_,f,_=>by simp[D.flat]at f
 |.dK ks ds,_,f,_=>by simp[D.flat]at f
 |.sT ts,_,f,_=>by simp[D.flat]at f
 |.ob φ,_,f,_=>by simp[D.flat]at f
theorem ai.flat:∀{ds:List D} {vs:List V},D.cK ds=true->ai P w W H ds vs->ai P w W' H ds vs
 |[],_,_,h=>h
 |d::ds,_,f,⟨v,r,e,h1,h2⟩=>by
  have f':(d.flat&&D.cK ds)=true:=f;rw[VT]at f';exact⟨v,r,e,ay.flat f'.1 h1,ai.flat f'.2 h2⟩
end
theorem ay.same (s:au H H'){d:D}{v:V}(h:ay P w W H d v):ay P w W H' d v:=h.keep s.kp
theorem ai.same (s:au H H'){ds:List D}{vs:List V}(h:ai P w W H ds vs):ai P w W H' ds vs:=h.keep s.kp
theorem ai.length:∀{ds:List D} {vs:List V},ai P w W H ds vs->vs.length=ds.length
 |[],_,h=>by rw[show _=[] from h];rfl
 |d::ds,_,⟨v,r,e,h1,h2⟩=>by rw[e,U_,U_,ai.length h2]
theorem ai.get:∀{ds:List D} {vs:List V} {i:Nat} {d:D},ai P w W H ds vs->ds[i]?=some d->∃v,vs[i]?=some v/\ay P w W H d v
 |[],_,_,_,_,e=>by simp at e
 |d::ds,_,0,_,⟨v,r,e,h1,h2⟩,e'=>by simp at e';subst e' e;exact⟨v,by simp,h1⟩
 |d::ds,_,i+1,_,⟨v,r,e,h1,h2⟩,e'=>by
  subst e;obtain⟨u,e1,e2⟩:=ai.get (i:=i) h2 (by simpa using e')
  exact⟨u,by simpa using e1,e2⟩
theorem ai.append:∀{ds ds':List D} {vs vs':List V},ai P w W H ds vs->ai P w W H ds' vs'->ai P w W H (ds++ds') (vs++vs')
 |[],_,_,_,h,h'=>by rw[show _=[] from h];exact h'
 |d::ds,_,_,_,⟨v,r,e,h1,h2⟩,h'=>by subst e;exact⟨v,_,rfl,h1,ai.append h2 h'⟩
theorem ai.one {d:D}{v:V}(h:ay P w W H d v):ai P w W H [d] [v]:=⟨v,[],rfl,h,rfl⟩
theorem ai.take:∀{ds:List D} {vs:List V} (n:Nat),ai P w W H ds vs->ai P w W H (ds.take n) (vs.take n)
 |[],_,n,h=>by rw[show _=[] from h];simp[ai]
 |d::ds,_,0,_=>by simp[ai]
 |d::ds,_,n+1,⟨v,r,e,h1,h2⟩=>by subst e;exact⟨v,_,rfl,h1,ai.take n h2⟩
theorem ai.drop:∀{ds:List D} {vs:List V} (n:Nat),ai P w W H ds vs->ai P w W H (ds.drop n) (vs.drop n)
 |[],_,n,h=>by rw[show _=[] from h];simp[ai]
 |d::ds,_,0,h=>h
 |d::ds,_,n+1,⟨v,r,e,h1,h2⟩=>by subst e;exact ai.drop n h2
end
open PySem.SeqAt
abbrev Dm (W:Addr->Prop)(H:Hp):Prop:=∀a,W a->H a≠none
theorem Dm.same {W:Addr->Prop}{H H':Hp}(d:Dm W H)(s:au H H'):Dm W H':=λa h e=>d a h (s.free e)
abbrev Rp (X:Cx)(W:Addr->Prop)(H:Hp)(d:D)(v:V):Prop:=ay X.prog X.w W H d v
abbrev kj (X:Cx)(W:Addr->Prop)(H:Hp)(ds:List D)(vs:List V):Prop:=ai X.prog X.w W H ds vs
def Qo (X:Cx)(f:D->Option D):V->Hp->VK->Prop:=λx H Q=>∃W d1 d,Dm W H/\Rp X W H d1 x/\f d1=some d/\∀v H',au H H'->Rp X W H' d v->Q v H'
def Qn (X:Cx)(f:D->D->Option D):R2:=λx y H Q=>∃W d1 d2 d,Dm W H/\Rp X W H d1 x/\Rp X W H d2 y/\f d1 d2=some d/\∀v H',au H H'->Rp X W H' d v->Q v H'
def RU (X:Cx)(f:List D->Option D):List V->Hp->VK->Prop:=λxs H Q=>∃W ds d,Dm W H/\kj X W H ds xs/\f ds=some d/\∀v H',au H H'->Rp X W H' d v->Q v H'
abbrev bR (X:Cx)(f:UR->UR->Sem UR)(g:D->D->Option D):Prop:=hX X f (Qn X g)
abbrev bW (X:Cx)(f:UR)(g:List D->Option D):Prop:=gg X f (RU X g)
section
variable {X:Cx}{W:Addr->Prop}{H:Hp}
theorem CW {p:Addr}(d:Dm W H)(n:H p=none):¬ W p:=λz=>d p z n
theorem Rp.jM {p:Addr}{vs:List V}{ds:List D}(d:Dm W H)(n:H p=none)(r:kj X W H ds vs):Rp X W (upd H p (.lst vs)) (.lst ds) (.ref p) :=
 ⟨p,vs,rfl,ar,CW d n,r.same (au.new n)⟩
theorem Rp.Fo {p:Addr}{vs:List V}{ds:List D}(n:H p=none)(r:kj X W H ds vs):Rp X W (upd H p (.tup vs)) (.tup ds) (.ref p) :=
 ⟨p,vs,rfl,ar,r.same (au.new n)⟩
theorem kj.nil:kj X W H [] []:=rfl
theorem kj.cons {d:D}{ds:List D}{v:V}{vs:List V}(h:Rp X W H d v)(r:kj X W H ds vs):kj X W H (d::ds) (v::vs):=⟨v,vs,rfl,h,r⟩
end
def D.G4:D->Option Int
 |.int i=>some i
 |_=>none
def D.G3:D->Option (List D)
 |.lst a=>some a
 |_=>none
def D.G2:D->Option (List D)
 |.tup a=>some a
 |_=>none
def D.BH:D->Bool
 |.bH=>true
 |_=>false
theorem D.jf {d:D}{i:Int}(h:d.G4=some i):d=.int i:=by cases d <;> first|(cases h;rfl)|cases h
theorem D.lV {d:D}{i:List D}(h:d.G3=some i):d=.lst i:=by cases d <;> first|(cases h;rfl)|cases h
theorem D.lU {d:D}{i:List D}(h:d.G2=some i):d=.tup i:=by cases d <;> first|(cases h;rfl)|cases h
theorem D.rS {d:D}(h:d.BH=true):d=.bH:=by cases d <;> first|rfl|cases h
theorem D.C8 {d:D}:d=.bH↔d.BH=true:=⟨λe=>by rw[e];rfl,D.rS⟩
def pQ (f:Int->Int->Option D)(a b:D):Option D:=match a.G4,b.G4 with
 |some i,some j=>f i j
 |_,_=>none
theorem jR {f:Int->Int->Option D}{a b d:D}(h:pQ f a b=some d):∃i j,a=.int i/\b=.int j/\f i j=some d:=by
 unfold pQ at h;cases ha:a.G4 with
 |none=>rw[ha]at h;cases h
 |some i =>
  cases hb:b.G4 with
  |none=>rw[ha,hb]at h;cases h
  |some j=>rw[ha,hb]at h;exact⟨i,j,D.jf ha,D.jf hb,h⟩
def GG (f:D->D->Option D)(g:List D->List D->Option D)(a b:D):Option D:=match a.G3,b.G3 with
 |some i,some j=>g i j
 |_,_=>f a b
theorem xC {f:D->D->Option D}{g:List D->List D->Option D}{a b d:D}(h:GG f g a b=some d):(∃i j,a=.lst i/\b=.lst j/\g i j=some d)\/f a b=some d:=by
 unfold GG at h;cases ha:a.G3 with
 |none=>rw[ha]at h;exact .inr h
 |some i =>
  cases hb:b.G3 with
  |none=>rw[ha,hb]at h;exact .inr h
  |some j=>rw[ha,hb]at h;exact .inl ⟨i,j,D.lV ha,D.lV hb,h⟩
def uS:D->D->Option D:=GG (pQ λi j=>some (.int (i+j))) λa b=>if a.length+b.length<=U4 then some (.lst (a++b)) else none
def PD:D->D->Option D:=pQ λi j=>some (.int (i-j))
instance (i j:Int):Decidable (mz i j):=by unfold mz;infer_instance
instance (i j:Int):Decidable (D_ i j):=by unfold D_;infer_instance
def HN:D->D->Option D:=pQ λi j=>if mz i j then some (.int (i*j)) else none
def LQ:D->D->Option D:=pQ λi j=>if 0<j then some (.int (i % j)) else none
def PJ:D->Option D
 |.int i=>some (.int (-i))
 |_=>none
section
variable {X:Cx}
theorem d3 {c:Prop}[Decidable c]{α:Type}{a b:α}(h:(if c then some a else none)=some b):c/\b=a:=by
 by_cases hc:c
 ·rw[if_pos hc]at h;cases h;exact⟨hc,rfl⟩
 ·rw[if_neg hc]at h;cases h
theorem Ek {f:UR->UR->Sem UR}{C:Int->Int->Prop}{g:Int->Int->V}{h:Int->Int->D}{F:Int->Int->Option D}(ho:hX X f (rI C g))(hF:∀i j d,F i j=some d->C i j/\d=h i j)
  (hg:∀(W:Addr->Prop) (H:Hp) i j,Rp X W H (h i j) (g i j)):bR X f (pQ F):=by
 intro pins s σ H x y v u Q I rx ry hh;obtain⟨W,d1,d2,d,hd,r1,r2,e,q⟩:=hh;obtain⟨i,j,rfl,rfl,e⟩:=jR e;obtain⟨c,rfl⟩:=hF _ _ _ e;cases r1;cases r2;exact ho pins s σ H _ _ v u Q I rx ry ⟨i,j,rfl,rfl,c,q _ _ (au.refl _) (hg W H i j)⟩
theorem zU {f:UR->UR->Sem UR}{g:Int->Int->V}{h:Int->Int->D}(ho:hX X f (xf g))
  (hg:∀(W:Addr->Prop) (H:Hp) i j,Rp X W H (h i j) (g i j)):bR X f (pQ λi j=>some (h i j)):=by
 intro pins s σ H x y v u Q I rx ry hh;obtain⟨W,d1,d2,d,hd,r1,r2,e,q⟩:=hh;obtain⟨i,j,rfl,rfl,e⟩:=jR e;cases e;cases r1;cases r2;exact ho pins s σ H _ _ v u Q I rx ry ⟨i,j,rfl,rfl,q _ _ (au.refl _) (hg W H i j)⟩
theorem du:bR X (WI .Sub) PD:=zU (h:=λi j=>.int (i-j)) zR λ_ _ _ _=>rfl
theorem vD:bR X (WI .Mult) HN:=Ek (h:=λi j=>.int (i*j)) jJ (λ_ _ _ e=>d3 e) λ_ _ _ _=>rfl
theorem CF:bR X (WI .Mod) LQ:=Ek (h:=λi j=>.int (i % j)) gC (λ_ _ _ e=>d3 e) λ_ _ _ _=>rfl
theorem oR:L5 X (unaryOp .USub) (Qo X PJ):=by
 intro pins s σ H x v Q I rx h;obtain⟨W,d1,d,hd,r1,e,q⟩:=h;cases d1 with
 |int i=>cases e;cases r1;exact yN pins s σ H _ v Q I rx ⟨i,rfl,q _ _ (au.refl _) rfl⟩
 |_=>cases e
end
def yf (p:Int->Int->Bool):D->D->Option D:=pQ λi j=>some (.bl (p i j))
abbrev HP:D->D->Option D:=yf λi j=>decide (i<j)
abbrev TN:D->D->Option D:=yf λi j=>decide (i<=j)
abbrev TQ:D->D->Option D:=yf λi j=>decide (j<i)
section
variable {X:Cx}
theorem kQ {p:Int->Int->Bool}{f:UR->UR->Sem UR}(ho:hX X f (xf λi j=>.bl (p i j))):bR X f (yf p):=zU (h:=λi j=>.bl (p i j)) ho λ_ _ _ _=>rfl
theorem bX:bR X (VD .Lt) HP:=kQ zS
theorem uc:bR X (VD .LtE) TN:=kQ Ej
theorem pL:bR X (VD .Gt) TQ:=kQ zT
end
mutual
def D.pd:D->PyData
 |.bH=>.none
 |.bl b=>.bool b
 |.int i=>.int i
 |.str x=>.str x
 |.tup ds=>.tuple (D.gk ds)
 |.lst ds=>.list (D.gk ds)
 |_=>.dict []
def D.gk:List D->List PyData
 |[]=>[]
 |d::ds=>d.pd::D.gk ds
end
abbrev D.qM (d:D):Bool:=shaped d.pd
mutual
theorem bF {X:Cx}{pins:List (Addr×Obj)}{σ:St}{H:Hp}{s:UT}(I:Inv X pins σ H s){W:Addr->Prop}:∀{d:D} {v:V} {u:UR},Rp X W H d v->RelV v u->d.pd.canLay0=true->∃as,Reads s.heap u d.pd as
 |.bH,_,_,h,r,_=>by cases h;cases r;exact⟨_,.none⟩
 |.bl b,_,_,h,r,_=>by cases h;cases r;exact⟨_,.bool b⟩
 |.int i,_,_,h,r,_=>by cases h;obtain⟨t,rfl⟩:=r;exact⟨_,.int i t⟩
 |.str x,_,_,h,r,_=>by cases h;obtain⟨t,rfl⟩:=r;exact⟨_,.str x t⟩
 |.tup ds,_,_,h,r,c=>by
  obtain⟨a,vs,rfl,e,q⟩:=h;cases r;obtain⟨its,rv,⟨o,ho,hc,n,hd⟩,hz⟩:=I.tuple (sW.of e);obtain⟨as,ha⟩:=gy I q rv (by simpa[D.pd,V8] using c)
  exact⟨_,.tuple ho hc hd (by simpa using ha)⟩
 |.lst ds,_,_,h,r,c=>by
  obtain⟨a,vs,rfl,e,_,q⟩:=h;cases r;obtain⟨z,its,n,rv,e'⟩:=I.bM a _ e;obtain⟨as,ha⟩:=gy I q rv (by simpa[D.pd,V8] using c)
  exact⟨_,.list e' rfl rfl (by simpa using ha)⟩
 |.obj _,_,_,_,_,c=>by simp[D.pd,V8]at c
 |.dT _ _,_,_,_,_,c=>by simp[D.pd,V8]at c
 |.dK _ _,_,_,_,_,c=>by simp[D.pd,V8]at c
 |.sT _,_,_,_,_,c=>by simp[D.pd,V8]at c
 |.ob _,_,_,_,_,c=>by simp[D.pd,V8]at c
theorem gy {X:Cx}{pins:List (Addr×Obj)}{σ:St}{H:Hp}{s:UT}(I:Inv X pins σ H s){W:Addr->Prop}:∀{ds:List D} {vs:List V} {us:List UR},kj X W H ds vs->Vals vs us->WU (D.gk ds)=true->∃as,ReadsAll s.heap us (D.gk ds) as
 |[],_,_,h,r,_=>by
  rw[show _=[] from h]at r
  cases r;exact⟨_,.nil⟩
 |d::ds,_,_,⟨v,vr,e,h1,h2⟩,r,c=>by
  subst e;have c':(d.pd.canLay0&&WU (D.gk ds))=true:=c;rw[VT]at c';cases r with
  |cons r1 r2 =>
   obtain⟨as,ha⟩:=bF I h1 r1 c'.1;obtain⟨bs,hb⟩:=gy I h2 r2 c'.2;exact⟨_,.cons ha hb⟩
end
def IF (a b:D):Option D:=if a.qM=true/\b.qM=true then some (.bl (VX a.pd b.pd)) else none
def LP (a b:D):Option D:=if a.qM=true/\b.qM=true then some (.bl (!VX a.pd b.pd)) else none
section
variable {X:Cx}
theorem dY (hu:X.A.units+64<XJ):bR X (VD .Eq) IF:=by
 intro pins s σ H x y v u Q I rx ry h;obtain⟨W,d1,d2,d,hd,r1,r2,e,q⟩:=h;obtain⟨⟨s1,s2⟩,rfl⟩:=d3 e;obtain⟨as,ra⟩:=bF I r1 rx (VG s1);obtain⟨bs,rb⟩:=bF I r2 ry (VG s2);exact compareEq_shaped ra rb s1 s2 hu ⟨.bl _,H,I,rfl,q _ _ (au.refl _) rfl⟩
theorem ub (hu:X.A.units+64<XJ):bR X (VD .NotEq) LP:=by
 intro pins s σ H x y v u Q I rx ry h;obtain⟨W,d1,d2,d,hd,r1,r2,e,q⟩:=h;obtain⟨⟨s1,s2⟩,rfl⟩:=d3 e;obtain⟨as,ra⟩:=bF I r1 rx (VG s1);obtain⟨bs,rb⟩:=bF I r2 ry (VG s2);exact compareNe_shaped ra rb s1 s2 hu ⟨.bl _,H,I,rfl,q _ _ (au.refl _) rfl⟩
def PK (a b:D):Option D:=match b.BH with
 |true=>some (.bl a.BH)
 |false=>none
def LO (a b:D):Option D:=match b.BH with
 |true=>some (.bl (!a.BH))
 |false=>none
theorem Rp.CV {W:Addr->Prop}{H:Hp}{d:D}{v:V}(h:Rp X W H d v):v=.bH↔d=.bH:=by
 cases d with
 |bH=>cases h;simp
 |bl b=>cases h;simp
 |int i=>cases h;simp
 |str x=>cases h;simp
 |obj a=>cases h;simp
 |tup ds=>obtain⟨a,vs,rfl,_⟩:=h;simp
 |lst ds=>obtain⟨a,vs,rfl,_⟩:=h;simp
 |dT ks ds=>obtain⟨a,vs,rfl,_⟩:=h;simp
 |dK ks ds=>obtain⟨a,vs,rfl,_⟩:=h;simp
 |sT ts=>obtain⟨a,rfl,_⟩:=h;simp
 |ob φ=>obtain⟨a,rfl,_⟩:=h;simp
theorem rT {b d e:D}(h:(match b.BH with|true=>some d|false=>none)=some e):b=.bH/\e=d:=by
 cases q:b.BH with
 |true=>rw[q]at h;cases h;exact⟨D.rS q,rfl⟩
 |false=>rw[q]at h;cases h
theorem Rp.vJ {W:Addr->Prop}{H:Hp}{d:D}{v:V}(h:Rp X W H d v):decide (v=.bH)=d.BH:=by
 have q:=h.CV.trans D.C8;cases e:d.BH with
 |true=>exact decide_eq_true (q.mpr e)
 |false=>exact decide_eq_false λz=>by rw[q.mp z]at e;cases e
theorem kP:bR X (VD .Is) PK:=by
 intro pins s σ H x y v u Q I rx ry h;obtain⟨W,d1,d2,d,hd,r1,r2,e,q⟩:=h;obtain⟨rfl,rfl⟩:=rT e;cases r2;exact Gf pins s σ H _ _ v u Q I rx ry ⟨rfl,q _ _ (au.refl _) (congrArg V.bl r1.vJ)⟩
theorem i_:bR X (VD .IsNot) LO:=by
 intro pins s σ H x y v u Q I rx ry h;obtain⟨W,d1,d2,d,hd,r1,r2,e,q⟩:=h;obtain⟨rfl,rfl⟩:=rT e;cases r2;exact CD pins s σ H _ _ v u Q I rx ry ⟨rfl,q _ _ (au.refl _) (congrArg (λb=>V.bl (!b)) r1.vJ)⟩
end
def DK:D->D->Option Bool
 |a,.lst ds=>if a.qM=true/\(D.lst ds).qM=true then some ((D.gk ds).any λy=>VX y a.pd) else none
 |a,.tup ds=>if a.qM=true/\(D.tup ds).qM=true then some ((D.gk ds).any λy=>VX y a.pd) else none
 |_,_=>none
def PM (a b:D):Option D:=(DK a b).map .bl
def uQ (a b:D):Option D:=(DK a b).map λc=>.bl (!c)
theorem kK {ds:List D}{n:PyData}(hn:n=.list (D.gk ds)\/n=.tuple (D.gk ds))(h:shaped n=true):WU (D.gk ds)=true/\Wa (D.gk ds)<=64:=by
 have h1:=VG h;have h2:=depth_of_shaped h;rcases hn with rfl|rfl
 ·refine⟨by simpa[V8] using h1,?_⟩
  have:W_ (.list (D.gk ds))=Wa (D.gk ds)+1:=by simp[W_]
  lia
 ·refine⟨by simpa[V8] using h1,?_⟩
  have:W_ (.tuple (D.gk ds))=Wa (D.gk ds)+1:=by simp[W_]
  lia
section
variable {X:Cx}
theorem pK (hu:X.A.units+64+1<XJ):bR X (VD .In) PM:=by
 intro pins s σ H x y v u Q I rx ry h;obtain⟨W,d1,d2,d,hd,r1,r2,e,q⟩:=h;cases d2 with
 |lst ds =>
  obtain⟨b,e1,rfl⟩:=Vj.mp e;obtain⟨⟨s1,s2⟩,rfl⟩:=d3 e1;obtain⟨as,ra⟩:=bF I r1 rx (VG s1);obtain⟨bs,rb⟩:=bF I r2 ry (VG s2);obtain⟨c1,c2⟩:=kK (.inl rfl) s2;exact in_list_reads rb ra c1 (VG s1) (by have:=XG (Wa (D.gk ds)) d1.pd.depth;lia) ⟨.bl _,H,I,rfl,q _ _ (au.refl _) rfl⟩
 |tup ds =>
  obtain⟨b,e1,rfl⟩:=Vj.mp e;obtain⟨⟨s1,s2⟩,rfl⟩:=d3 e1;obtain⟨as,ra⟩:=bF I r1 rx (VG s1);obtain⟨bs,rb⟩:=bF I r2 ry (VG s2);obtain⟨c1,c2⟩:=kK (.inr rfl) s2;exact in_tuple_reads rb ra c1 (VG s1) (by have:=XG (Wa (D.gk ds)) d1.pd.depth;lia) ⟨.bl _,H,I,rfl,q _ _ (au.refl _) rfl⟩
 |_=>cases e
theorem xt (hu:X.A.units+64+1<XJ):bR X (VD .NotIn) uQ:=by
 intro pins s σ H x y v u Q I rx ry h;obtain⟨W,d1,d2,d,hd,r1,r2,e,q⟩:=h;cases d2 with
 |lst ds =>
  obtain⟨b,e1,rfl⟩:=Vj.mp e;obtain⟨⟨s1,s2⟩,rfl⟩:=d3 e1;obtain⟨as,ra⟩:=bF I r1 rx (VG s1);obtain⟨bs,rb⟩:=bF I r2 ry (VG s2);obtain⟨c1,c2⟩:=kK (.inl rfl) s2;exact notIn_list_reads rb ra c1 (VG s1) (by have:=XG (Wa (D.gk ds)) d1.pd.depth;lia) ⟨.bl _,H,I,rfl,q _ _ (au.refl _) rfl⟩
 |tup ds =>
  obtain⟨b,e1,rfl⟩:=Vj.mp e;obtain⟨⟨s1,s2⟩,rfl⟩:=d3 e1;obtain⟨as,ra⟩:=bF I r1 rx (VG s1);obtain⟨bs,rb⟩:=bF I r2 ry (VG s2);obtain⟨c1,c2⟩:=kK (.inr rfl) s2;exact notIn_tuple_reads rb ra c1 (VG s1) (by have:=XG (Wa (D.gk ds)) d1.pd.depth;lia) ⟨.bl _,H,I,rfl,q _ _ (au.refl _) rfl⟩
 |_=>cases e
def oi (a b:D):Option D:=match b.G4 with
 |some i=>match a.G3 with
  |some ds=>m7 ds i
  |none=>match a.G2 with
   |some ds=>m7 ds i
   |none=>none
 |none=>none
theorem Bh {a b d:D}(h:oi a b=some d):∃ds i,(a=.lst ds\/a=.tup ds)/\b=.int i/\m7 ds i=some d:=by
 unfold oi at h;cases hb:b.G4 with
 |none=>rw[hb]at h;cases h
 |some i =>
  rw[hb]at h;cases ha:a.G3 with
  |some ds=>rw[ha]at h;exact⟨ds,i,.inl (D.lV ha),D.jf hb,h⟩
  |none =>
   rw[ha]at h;cases ht:a.G2 with
   |some ds=>rw[ht]at h;exact⟨ds,i,.inr (D.lU ht),D.jf hb,h⟩
   |none=>rw[ht]at h;cases h
theorem kj.m7 {W:Addr->Prop}{H:Hp}{ds:List D}{vs:List V}{i:Int}{d:D}(h:kj X W H ds vs)(e:L2.m7 ds i=some d):∃v,L2.m7 vs i=some v/\Rp X W H d v:=by
 unfold L2.m7 at *
 rw[h.length];cases q:xK ds.length i with
 |none=>rw[q]at e;cases e
 |some j =>
  rw[q]at e;exact ai.get h e
theorem G1:Ie X (Qn X oi):=by
 intro value slice pins s σ H x y v u Q I rx ry h hs;obtain⟨W,d1,d2,d,hd,r1,r2,e,q⟩:=h;obtain⟨ds,i,h,rfl,e⟩:=Bh e;cases r2;rcases h with rfl|rfl
 ·obtain⟨p,vs,rfl,h1,n1,q1⟩:=r1;obtain⟨z,hz,rz⟩:=kj.m7 (X:=X) q1 e;exact cX value slice pins s σ H _ _ v u Q I rx ry ⟨p,vs,i,z,rfl,rfl,da.of h1,hz,q _ _ (au.refl _) rz⟩ hs
 ·obtain⟨p,vs,rfl,h1,q1⟩:=r1;obtain⟨z,hz,rz⟩:=kj.m7 (X:=X) q1 e;exact As value slice pins s σ H _ _ v u Q I rx ry ⟨p,vs,i,z,rfl,rfl,sW.of h1,hz,q _ _ (au.refl _) rz⟩ hs
def cutD (xs:List D)(lo hi:Option Int):List D:=(xs.drop (HT.lA xs.length 0 lo)).take (HT.lA xs.length xs.length hi-HT.lA xs.length 0 lo)
def PF:D->Option Int->Option Int->Option D
 |.lst ds,lo,hi=>some (.lst (cutD ds lo hi))
 |_,_,_=>none
def HQ:List D->Option D
 |[.lst ds]=>some (.int ds.length)
 |[.tup ds]=>some (.int ds.length)
 |_=>none
theorem bQ:bW X (.builtin "len") HQ:=by
 intro pins s σ H xs us Q I r h;obtain⟨W,ds,d,hd,r1,e,q⟩:=h
 match ds,e with
 |[.lst es],e =>
  cases e;obtain⟨v,r',rfl,⟨p,vs,rfl,h1,n1,q1⟩,hr⟩:=r1;cases hr;refine fV pins s σ H _ us Q I r ⟨p,vs,rfl,.inl (da.of h1),?_⟩;rw[q1.length];exact q _ _ (au.refl _) rfl
 |[.tup es],e =>
  cases e;obtain⟨v,r',rfl,⟨p,vs,rfl,h1,q1⟩,hr⟩:=r1;cases hr;refine fV pins s σ H _ us Q I r ⟨p,vs,rfl,.inr (sW.of h1),?_⟩;rw[q1.length];exact q _ _ (au.refl _) rfl
def dList:List D->Option D
 |[.lst ds]=>some (.lst ds)
 |[.tup ds]=>some (.lst ds)
 |_=>none
def LR:List D->Option D
 |[.int i,.int j]=>some (.int (if j>i then j else i))
 |_=>none
def sH:List D->Option D
 |[.int i,.int j]=>some (.int (if j<i then j else i))
 |_=>none
theorem wF {W:Addr->Prop}{H:Hp}{a b:D}{xs:List V}(h:kj X W H [a,b] xs):∃x y,xs=[x,y]/\Rp X W H a x/\Rp X W H b y:=by
 obtain⟨x,r,rfl,hx,y,r',rfl,hy,hr⟩:=h;cases hr;exact⟨x,y,rfl,hx,hy⟩
theorem oI {W:Addr->Prop}{H:Hp}{a:D}{xs:List V}(h:kj X W H [a] xs):∃x,xs=[x]/\Rp X W H a x:=by
 obtain⟨x,r,rfl,hx,hr⟩:=h;cases hr;exact⟨x,rfl,hx⟩
theorem uU (hc:X.calm=true):bW X (.builtin "max") LR:=by
 intro pins s σ H xs us Q I r h;obtain⟨W,ds,d,hd,r1,e,q⟩:=h
 match ds,e with
 |[.int i,.int j],e =>
  cases e;obtain⟨x,y,rfl,hx,hy⟩:=wF r1;cases hx;cases hy;exact oA hc pins s σ H _ us Q I r ⟨i,j,rfl,q _ _ (au.refl _) rfl⟩
theorem iD (hc:X.calm=true):bW X (.builtin "min") sH:=by
 intro pins s σ H xs us Q I r h;obtain⟨W,ds,d,hd,r1,e,q⟩:=h
 match ds,e with
 |[.int i,.int j],e =>
  cases e;obtain⟨x,y,rfl,hx,hy⟩:=wF r1;cases hx;cases hy;exact ym hc pins s σ H _ us Q I r ⟨i,j,rfl,q _ _ (au.refl _) rfl⟩
def PL:List D->Option D
 |[.int i]=>some (.int i)
 |[.bl k]=>some (.int (if k then 1 else 0))
 |_=>none
theorem yo:bW X (.type "int") PL:=by
 intro pins s σ H xs us Q I r h;obtain⟨W,ds,d,hd,r1,e,q⟩:=h
 match ds,e with
 |[.int i],e =>
  cases e;obtain⟨x,rfl,hx⟩:=oI r1;cases hx;exact oB pins s σ H _ us Q I r (.inl ⟨i,rfl,q _ _ (au.refl _) rfl⟩)
 |[.bl k],e =>
  cases e;obtain⟨x,rfl,hx⟩:=oI r1;cases hx;exact oB pins s σ H _ us Q I r (.inr ⟨k,rfl,q _ _ (au.refl _) rfl⟩)
end
abbrev yD:=List (Option D)
abbrev E7:=yD->(D->Prop)->Prop
abbrev sX:=yD->(List D->Prop)->Prop
def uZ (P:UX)(w:Vb)(W:Addr->Prop)(H:Hp)(σ:St)(ρ:yD):Prop:=∀(i:Nat) (d:D),ρ[i]?=some (some d)->∃v,σ[i]?=some (some v)/\ay P w W H d v
theorem uZ.keep {P:UX}{w:Vb}{W:Addr->Prop}{H H':Hp}{σ:St}{ρ:yD}(e:uZ P w W H σ ρ)(k:Kp W H H'):uZ P w W H' σ ρ:=λi d h=>by
 obtain⟨v,h1,h2⟩:=e i d h;exact⟨v,h1,h2.keep k⟩
theorem uZ.same {P:UX}{w:Vb}{W:Addr->Prop}{H H':Hp}{σ:St}{ρ:yD}(e:uZ P w W H σ ρ)(s:au H H'):uZ P w W H' σ ρ:=e.keep s.kp
theorem PE.pre {X:Cx}{e:Expr}{t t':TE}(h:PE X e t)(k:∀σ H Q,t' σ H Q->t σ H Q):PE X e t':=λpins s σ H Q I q=>h pins s σ H Q I (k σ H Q q)
theorem PT.pre {X:Cx}{e:Expr}{t t':TT}(h:PT X e t)(k:∀σ H Q,t' σ H Q->t σ H Q):PT X e t':=λpins s σ H Q I q=>h pins s σ H Q I (k σ H Q q)
theorem PA.pre {X:Cx}{es:List Expr}{t t':TA}(h:PA X es t)(k:∀σ H Q,t' σ H Q->t σ H Q):PA X es t':=λpos pins s σ H Q I q=>h pos pins s σ H Q I (k σ H Q q)
structure IH (P:UX)(w:Vb)(W:Addr->Prop)(σ:St)(H:Hp)(ρ:yD):Prop where
 dm:Dm W H
 env:uZ P w W H σ ρ
abbrev SE (X:Cx):(Addr->Prop)->St->Hp->yD->Prop:=IH X.prog X.w
theorem IH.same {P:UX}{w:Vb}{W:Addr->Prop}{σ:St}{H H':Hp}{ρ:yD}(e:IH P w W σ H ρ)(s:au H H'):IH P w W σ H' ρ:=⟨e.dm.same s,e.env.same s⟩
def tD (X:Cx)(φ:E7):TE:=λσ H Q=>∃W ρ,SE X W σ H ρ/\φ ρ λd=>∀v H',au H H'->Rp X W H' d v->Q v H'
def I9 (X:Cx)(φ:sX):TA:=λσ H Q=>∃W ρ,SE X W σ H ρ/\φ ρ λds=>∀vs H',au H H'->kj X W H' ds vs->Q vs H'
structure PV (X:Cx)(e:Expr)(φ:E7):Prop where
 mono:∀ρ R R',(∀d,R d->R' d)->φ ρ R->φ ρ R'
 pe:PE X e (tD X φ)
structure L8 (X:Cx)(es:List Expr)(φ:sX):Prop where
 mono:∀ρ R R',(∀d,R d->R' d)->φ ρ R->φ ρ R'
 pa:PA X es (I9 X φ)
section
variable {X:Cx}{a e:Expr}{es:List Expr}{φ:E7}{φs:sX}{pos:Pos}{W:Addr->Prop}{σ:St}{H:Hp}{ρ:yD}
theorem tD.of (h:PV X e φ)(se:SE X W σ H ρ){R:D->Prop}{Q:VK}(hr:φ ρ R)(k:∀d v H',R d->au H H'->Rp X W H' d v->Q v H'):tD X φ σ H Q :=
 ⟨W,ρ,se,h.mono ρ _ _ (λd hd v H' s r=>k d v H' hd s r) hr⟩
theorem I9.of (h:L8 X es φs)(se:SE X W σ H ρ){R:List D->Prop}{Q:List V->Hp->Prop}(hr:φs ρ R)(k:∀ds vs H',R ds->au H H'->kj X W H' ds vs->Q vs H'):I9 X φs σ H Q :=
 ⟨W,ρ,se,h.mono ρ _ _ (λd hd v H' s r=>k d v H' hd s r) hr⟩
def Px (i:Nat):E7:=λρ R=>∃d,ρ[i]?=some (some d)/\R d
theorem fD {i:Nat}{x:Str}(hN:X.N[i]?=some x:=by rfl)(hv:sR X.env.scope x:=by first|exact .inl rfl|exact .inr (.inl rfl)|exact .inr (.inr rfl))(hd:(x==("__debug__" : Str))=false:=by decide)(gm:(x==("__classdict__" : Str))=false:=by decide):
  PV X (.Name x pos) (Px i):=⟨λρ R R' k Oo=> by obtain⟨d,e,h⟩ := Oo;exact⟨d,e,k d h⟩,(cR hN hv hd gm).pre λσ H Q Om=> by
 obtain⟨W,ρ,se,d,e,q⟩ := Om;obtain⟨v,h1,h2⟩:=se.env i d e;exact⟨v,h1,q v H (au.refl _) h2⟩⟩
theorem PW.pre {t t':TT}(h:PW X e t)(k:∀σ H Q,t' σ H Q->t σ H Q):PW X e t':=λw pins s σ H Q I q=>h w pins s σ H Q I (k σ H Q q)
def Py:sX:=λ_ R=>R []
def LI (φ:E7)(φs:sX):sX:=λρ R=>φ ρ λd=>φs ρ λds=>R (d::ds)
theorem Cd:L8 X [] Py:=⟨λρ R R' k h=>k _ h,cJ.pre λσ H Q Ol=> by obtain⟨W,ρ,se,q⟩ := Ol;exact q [] H (au.refl _) rfl⟩
theorem zr (ha:PV X a φ)(hr:L8 X es φs)(hs:U5 (a::es) X.env=(false,eval a X.env)::U5 es X.env:=by rfl):L8 X (a::es) (LI φ φs) :=
 ⟨λρ R R' k h=>ha.mono ρ _ _ (λd q=>hr.mono ρ _ _ (λds q2=>k _ q2) q) h,(a8 ha.pe hr.pa hs).pre λσ H Q ⟨W,ρ,se,h⟩ =>
  tD.of ha se h λd1 v1 H1 h1 s1 r1=>I9.of hr (se.same s1) h1 λds vs H2 q s2 r2=>q (v1::vs) H2 (s1.trans s2) (.cons (r1.same s2) r2)⟩
end
abbrev FD:=List D->(D->Prop)->Prop
def cD (F:FD):Prop:=∀ds R R',(∀d,R d->R' d)->F ds R->F ds R'
section
end
section
variable {X:Cx}{e:Expr}{pos:Pos}{σ:St}{H:Hp}
theorem E9.pre {ops:List Xy}{rs:List Expr}{t t':V->TE}(h:E9 X ops rs t)(k:∀x σ H Q,t' x σ H Q->t x σ H Q):E9 X ops rs t':=λpos pins s σ H x v Q I r q=>h pos pins s σ H x v Q I r (k x σ H Q q)
theorem sZ.pre {ops:List Xy}{rs:List Expr}{t t':V->TT}(h:sZ X ops rs t)(k:∀x σ H Q,t' x σ H Q->t x σ H Q):sZ X ops rs t':=λpos pins s σ H x v Q I r q=>h pos pins s σ H x v Q I r (k x σ H Q q)
theorem PO.pre {e:Option Expr}{t t':TO}(h:PO X e t)(k:∀σ H Q,t' σ H Q->t σ H Q):PO X e t':=λpins s σ H Q I q=>h pins s σ H Q I (k σ H Q q)
end
abbrev NF:D->Prop:=λd=>d.flat=true
section
abbrev NL:D->Prop:=λd=>match d with | .lst ds=>D.cK ds=true|d=>d.flat=true
end
section
variable {P:UX}{w:Vb}{W W':Addr->Prop}{H:Hp}
mutual
theorem ay.grow (s:∀a,W' a->W a\/H a=none):∀{d:D} {v:V},ay P w W H d v->ay P w W' H d v
 |.bH,_,h=>h
 |.bl _,_,h=>h
 |.int _,_,h=>h
 |.str _,_,h=>h
 |.obj _,_,h=>h
 |.tup ds,_,⟨a,vs,e,t,r⟩=>⟨a,vs,e,t,ai.grow s r⟩
 |.lst ds,_,⟨a,vs,e,t,n,r⟩=>⟨a,vs,e,t,λz=>(s a z).elim n λq=>(by rw[t]at q;cases q),ai.grow s r⟩
 |.dT ks ds,_,⟨a,vs,e,t,l,n,r⟩=>⟨a,vs,e,t,l,λz=>(s a z).elim n λq=>(by rw[t]at q;cases q),ai.grow s r⟩
 |.dK ks ds,_,⟨a,vs,e,t,l,n,r⟩=>⟨a,vs,e,t,l,λz=>(s a z).elim n λq=>(by rw[t]at q;cases q),ai.grow s r⟩
 |.sT ts,_,⟨a,e,⟨BF,t,r,z⟩,n⟩=>⟨a,e,⟨BF,t,r,z⟩,λz=>(s a z).elim n λq=>(by rw[t]at q;cases q)⟩
 |.ob φ,_,⟨a,e,⟨t,z⟩,n⟩=>⟨a,e,⟨t,z⟩,λz=>(s a z).elim n λq=>(by rw[t]at q;cases q)⟩
theorem ai.grow (s:∀a,W' a->W a\/H a=none):∀{ds:List D} {vs:List V},ai P w W H ds vs->ai P w W' H ds vs
 |[],_,h=>h
 |d::ds,_,⟨v,r,e,h1,h2⟩=>⟨v,r,e,ay.grow s h1,ai.grow s h2⟩
end
end
def TZ (X:Cx)(W:Addr->Prop)(J:It)(ds:List D)(H0:Hp):Prop:=∀(i:Nat) (H:Hp),Kp W H0 H ->
 (∀d,ds[i]?=some d->J.go i H/\∀x H1,J.IJ i H x H1->au H H1/\Rp X W H1 d x)/\(ds.length<=i->J.stop i H)
def wK (X:Cx)(W:Addr->Prop)(J:It)(ds:List D)(H0:Hp):Prop:=∀W':Addr->Prop,(∀b,W' b->W b\/H0 b=none)->TZ X W' J ds H0
abbrev Ia:=yD->(List D->Prop)->Prop
structure Ri (X:Cx)(tg iter:Expr)(ι:Ia):Prop where
 mono:∀ρ R R',(∀d,R d->R' d)->ι ρ R->ι ρ R'
 pi:PI X tg iter λσ H R=>∃W ρ,SE X W σ H ρ/\ι ρ λds=>∀J H',au H H'->wK X W J ds H'->R J H'
section
variable {X:Cx}{tg e:Expr}
theorem PI.pre {iter:Expr}{t t':TI}(h:PI X tg iter t)(k:∀σ H R,t' σ H R->t σ H R):PI X tg iter t':=λpins s σ H R I q=>h pins s σ H R I (k σ H R q)
theorem rR {W:Addr->Prop}{H:Hp}{p:Addr}{vs:List V}{ds:List D}(h1:H p=some (.lst vs))(n1:¬ W p)(q1:kj X W H ds vs):wK X W (MZ X.K p) ds H:=λW' hW i H' k=>by
 have h2:=k.out p _ h1 λz=>(hW p z).elim n1 λq=>by rw[h1]at q;cases q
 replace q1:=ai.grow hW q1;constructor
 ·intro d hd;obtain⟨v,hv,rv⟩:=ai.get q1 hd;refine⟨⟨vs,v,da.of h2,hv⟩,λx H1 y=>?_⟩;obtain⟨rfl,y⟩:=y;have e:=y vs (da.of h2);rw[hv]at e;cases e;exact⟨au.refl _,rv.keep k⟩
 ·intro hl;exact⟨vs,da.of h2,by rw[q1.length];exact hl⟩
def kq (lo:Int)(n:Nat):List D:=(Vk n).map λ(k:Nat)=>D.int (lo+(k:Int))
theorem jQ {W:Addr->Prop}{H:Hp}{lo:Int}{n:Nat}:wK X W (Md lo n) (kq lo n) H:=λ_ _ i H' k=>by
 constructor
 ·intro d hd;unfold kq at hd;rw[Vd]at hd;have hi:i<n:=by
   by_cases h:i<n
   ·exact h
   ·rw[WC (by simpa using h)]at hd;cases hd
  rw[Wx hi]at hd;cases hd;refine⟨hi,λx H1 y=>?_⟩;obtain⟨rfl,rfl⟩:=y;exact⟨au.refl _,rfl⟩
 ·intro hl;unfold kq at hl;rw[US,V1]at hl;exact hl
end
section
variable {X:Cx}{tg:Expr}{wR:List Expr}
theorem PG.pre {t t':TG}(h:PG X tg t)(k:∀v σ H Q,t' v σ H Q->t v σ H Q):PG X tg t':=λpins s σ H v u Q I r q=>h pins s σ H v u Q I r (k v σ H Q q)
theorem E8.pre {t t':E4}(h:E8 X wR t)(k:∀v σ H Q,t' v σ H Q->t v σ H Q):E8 X wR t':=λpins s σ H v u Q I r q=>h pins s σ H v u Q I r (k v σ H Q q)
end
theorem jO {H:Hp}{a:Addr}{o o':HO}(h:H a=some o)(ht:∀xs,o≠.tup xs):Kp (·=a) H (upd H a o') :=
 ⟨λb u e n=>by rw[aw n];exact e,λb xs e=>by rw[aw (Ep e h (λz=>ht xs z.symm))];exact e⟩
section
end
section
end
section
end
section
variable {σ:St}{β:a_}{own:Nat->List Addr}
def aH (own:Nat->List Addr)(i:Nat)(as:List Addr):Nat->List Addr:=λj=>if j=i then as else own j
theorem bK {own:Nat->List Addr}{i j:Nat}{a:Addr}(h:a∈aH own i [] j):a∈own j/\j≠i:=by
 unfold aH at h
 by_cases e:j=i
 ·rw[if_pos e]at h;cases h
 ·rw[if_neg e]at h;exact⟨h,e⟩
theorem aZ {α:Type}{β:List α}{i j:Nat}{x:α}(h:i≠j):(β.set i x)[j]?=β[j]?:=by rw[WX,if_neg h]
theorem a5 {α:Type}{β:List α}{i:Nat}{x y:α}(h:(β.set i x)[i]?=some y):y=x/\i<β.length:=by
 rw[WX,if_pos rfl]at h
 by_cases hi:i<β.length
 ·rw[if_pos hi]at h;cases h;exact⟨rfl,hi⟩
 ·rw[if_neg hi]at h;cases h
theorem get_set {α:Type}{σ:List α}{i:Nat}{x:α}(h:i<σ.length):(σ.set i x)[i]?=some x:=by rw[WX,if_pos rfl,if_pos h]
end
structure Sn (Z:Hp×(Addr->Prop))(H:Hp)(W:Addr->Prop):Prop where
 w:∀b,W b->Z.2 b\/Z.1 b=none
 k:Kp (λb=>Z.2 b\/Z.1 b=none) Z.1 H
 d:∀b,Z.1 b≠none->H b≠none
theorem Sn.refl {H:Hp}{W:Addr->Prop}:Sn (H,W) H W:=⟨λ_ z=>.inl z,Kp.refl,λ_ z=>z⟩
theorem Sn.same {Z:Hp×(Addr->Prop)}{H H':Hp}{W:Addr->Prop}(n:Sn Z H W)(s:au H H'):Sn Z H' W:=⟨n.w,n.k.trans s.kp,λb z e=>n.d b z (s.free e)⟩
theorem Sn.free {Z:Hp×(Addr->Prop)}{H:Hp}{W:Addr->Prop}(n:Sn Z H W){a:Addr}(h:H a=none):Z.1 a=none:=by
 cases q:Z.1 a with
 |none=>rfl
 |some o=>exact absurd h (n.d a (by rw[q];intro z;cases z))
theorem Sn.upd {Z:Hp×(Addr->Prop)}{H:Hp}{W:Addr->Prop}(n:Sn Z H W){a:Addr}{o o':HO}(h:H a=some o)(ht:∀xs,o≠.tup xs)(wa:W a):Sn Z (L2.upd H a o') W :=
 ⟨n.w,n.k.trans ((jO h ht).mono λb z=>by rw[z];exact n.w a wa),λb z e=>by
  by_cases hb:b=a
  ·subst hb;rw[ar]at e;cases e
  ·rw[aw hb]at e;exact n.d b z e⟩
theorem Sn.trans {Z:Hp×(Addr->Prop)}{H1 H:Hp}{W1 W:Addr->Prop}(n1:Sn Z H1 W1)(n:Sn (H1,W1) H W):Sn Z H W:=by
 have big:∀b,W1 b\/H1 b=none->Z.2 b\/Z.1 b=none:=λb z=>z.elim (n1.w b) λq=>.inr (n1.free q);exact⟨λb z=>big b (n.w b z),n1.k.trans (n.k.mono big),λb z=>n.d b (n1.d b z)⟩
section
variable {X:Cx}{st:Stmt}{rest:List Stmt}{σ:St}{H:Hp}
theorem PS.pre {t t':TS}(h:PS X st t)(k:∀D σ H,t' D σ H->t D σ H):PS X st t':=λpins s σ H D I q=>h pins s σ H D I (k D σ H q)
theorem qm.pre {t t':TS}(h:qm X rest t)(k:∀D σ H,t' D σ H->t D σ H):qm X rest t':=λpins s σ H D I q=>h pins s σ H D I (k D σ H q)
end
section
variable {b:Expr}{H:Hp}
theorem held {P:UX}{w:Vb}{W W2:Addr->Prop}{H2:Hp}{d:D}{v:V}(r:ay P w W H d v)(n:Sn (H,W) H2 W2):ay P w W2 H2 d v :=
 ay.aR n.w (ay.keep n.k (ay.grow (λb z=>z) r))
end
theorem Sn.kp {Z:Hp×(Addr->Prop)}{H H':Hp}{W:Addr->Prop}(n:Sn Z H W)(k:Kp W H H')(dn:∀c,H c≠none->H' c≠none):Sn Z H' W:=⟨n.w,n.k.trans (k.mono n.w),λb z=>dn b (n.d b z)⟩
section
end
section
end
end L2
namespace yv
open PySem PySem.Spec PyProof.Rows
def lexLe:List Int->List Int->Bool
 |[],_=>true
 |_::_,[]=>false
 |x::xs,y::ys=>if x=y then lexLe xs ys else decide (x<=y)
theorem Ah (x y:Int)(xs ys:List Int):lexLe (x::xs) (y::ys)=if x=y then lexLe xs ys else decide (x<=y):=rfl
theorem Ad:lexLe [] []=true:=rfl
theorem Ae (y:Int)(ys:List Int):lexLe [] (y::ys)=true:=rfl
theorem Ag (x:Int)(xs:List Int):lexLe (x::xs) []=false:=rfl
def de:List Int->List Int->Bool
 |[],_=>false
 |_::_,[]=>true
 |x::xs,y::ys=>if x=y then de xs ys else decide (y<x)
theorem rN (x y:Int)(xs ys:List Int):de (x::xs) (y::ys)=if x=y then de xs ys else decide (y<x):=rfl
theorem Ai:de [] []=false:=rfl
theorem Aj (y:Int)(ys:List Int):de [] (y::ys)=false:=rfl
theorem Ak (x:Int)(xs:List Int):de (x::xs) []=true:=rfl
theorem zh (A:VZ)(s:UT)(a:Int)(t:Tok)(c:Int)(u:Tok)(prog:UX)(w:Vb)(E:UR->UT->Prop)(Q:UR->UT->Prop)(h:Q (.bool (decide (a<=c))) s):
  Vu (model prog w) A (richCompare .LtE (.int a t) (.int c u)) Q E s :=
 (PyProof.Rows.le_int h:Vu (model prog w) A (VD .LtE (.int a t) (.int c u)) Q E s)
section
open PySem.SeqAt
open PySem.AutoSeq1 (wpAny_loadPart')
open PySem.MeetsSeq PySem.MeetsSeq2 PySem.MeetsSeq3
theorem mL (l b:Addr)(items aM:Array UR)(n n2:Nat)(dd Be:Option Addr)(sl y8:Array (Option UR))(ns ms:List Int)(hi:We items.toList ns)(hj:We aM.toList ms):
  Meets (Yh.«tuple.__le__» ⟨[.ref l,.ref b],[]⟩)
   (λ_ R s=>s.heap.get? l=some {cls:=.type "tuple",dict:=dd,data:=.seq items n,slots:=sl}/\s.heap.get? b=some {cls:=.type "tuple",dict:=Be,data:=.seq aM n2,slots:=y8} /\
    R (.ok (.ret (.bool (lexLe ns ms)))) s) :=
 .of_wp λprog w A R s h=>by
  obtain⟨hp,g,d,tk,os⟩:=s;obtain⟨hl,hb,h⟩:=h;have f2:=X5;have z1:items.size=ns.length:=by rw[<- hi.length];simp
  have z2:aM.size=ms.length:=by rw[<- hj.length];simp
  wp_walk using Wq hl,Wq hb,YO _ (λrest b s'=>b.1=none/\s'=⟨hp,g,d,tk,os⟩/\∃(vs ws:List UR) (h9 nD:List Int),rest=vs.zip ws /\
   We vs h9/\We ws nD/\h9.length+aM.size=nD.length+items.size/\R (.ok (.ret (.bool (lexLe h9 nD)))) ⟨hp,g,d,tk,os⟩) _
  case turn =>
   rintro⟨y,x⟩ rest b s' ⟨fP,rfl,vs,ws,h9,nD,hz,Az,vZ,hlen,hR⟩;cases Az with
   |nil=>rw[XY]at hz;cases hz
   |cons a t Ay =>
    cases vZ with
    |nil=>rw[XS]at hz;cases hz
    |cons c u Ax =>
     rw[Wt]at hz;injection hz with J9 lZ
     injection J9 with hy hx
     subst hy hx;rw[Ah]at hR;simp only[U_]at hlen;obtain⟨e,he,rW⟩:=HT.mv A.in1 ⟨hp,g,d,tk,os⟩ a t c u;refine UW (he prog w _ _ ?_);cases e with
     |true =>
      rw[if_pos (rW.mp rfl)]at hR
      wp_walk
      exact⟨rfl,rfl,_,_,_,_,lZ,Ay,Ax,by lia,hR⟩
     |false =>
      rw[if_neg (λq=>absurd (rW.mpr q) VY)]at hR;have Ki:=zh A.in1 ⟨hp,g,d,tk,os⟩ a t c u prog w
      wp_walk using Ki
      exact⟨_,rfl,by simpa using hR⟩
  case fin =>
   rintro⟨b1,b2⟩ s' ⟨fP,rfl,vs,ws,h9,nD,hz,Az,vZ,hlen,hR⟩;simp only at fP;subst fP;have hv:lexLe h9 nD=decide (items.size<=aM.size):=by
    cases Az with
    |nil =>
     cases vZ with
     |nil =>
      simp only[Wc]at hlen;rw[Ad];exact(decide_eq_true (by lia)).symm
     |cons c u hw =>
      simp only[Wc,U_]at hlen;rw[Ae];exact(decide_eq_true (by lia)).symm
    |cons a t hv =>
     cases vZ with
     |nil =>
      simp only[Wc,U_]at hlen;rw[Ag];exact(decide_eq_false (by lia)).symm
     |cons c u hw =>
      rw[Wt]at hz;cases hz
   rw[hv]at hR
   wp_walk
   exact⟨_,rfl,by simpa[Xx] using hR⟩
  case h =>
   exact⟨rfl,rfl,items.toList,aM.toList,ns,ms,rfl,hi,hj,by lia,h⟩
end
section
variable {prog:UX}{w:Vb}{A:VZ}{E:UR->UT->Prop}{s:UT}
theorem uq {l b:Addr}{items aM:Array UR}{ns ms:List Int}{Q:UR->UT->Prop}(hl:YY s.heap l items)(hb:YY s.heap b aM)(hi:We items.toList ns)(hj:We aM.toList ms)
  (hu:A.units<XJ) (h:Q (.bool (lexLe ns ms)) s):Vu (model prog w) A (VD .LtE (.ref l) (.ref b)) Q E s:=by
 obtain⟨⟨cls,dd,data,sl⟩,ho,hc,n,hd⟩:=id hl;obtain⟨⟨LW,Be,data2,y8⟩,EH,kS,n2,hd2⟩:=id hb;simp only at hc hd kS hd2;subst hc hd kS hd2;exact Yc (op:=.LtE) ⟨_,ho,rfl⟩ ⟨_,EH,rfl⟩ PySem.F.slot_tuple_le PySem.F.entry_tuple_le (PySem.F.args_tuple_le_2 _ _) (mL l b items aM n n2 dd Be sl y8 ns ms hi hj)
  ⟨ho,EH,show Value.bool (lexLe ns ms)≠Yr/\Q (.bool (lexLe ns ms)) s from ⟨(λx=>nomatch x),h⟩⟩ hu
end
theorem zi (A:VZ)(s:UT)(a:Int)(t:Tok)(c:Int)(u:Tok)(prog:UX)(w:Vb)(E:UR->UT->Prop)(Q:UR->UT->Prop)(h:Q (.bool (decide (c<a))) s):
  Vu (model prog w) A (richCompare .Gt (.int a t) (.int c u)) Q E s :=
 (PyProof.Rows.gt_int h:Vu (model prog w) A (VD .Gt (.int a t) (.int c u)) Q E s)
section
open PySem.SeqAt
open PySem.AutoSeq1 (wpAny_loadPart')
open PySem.MeetsSeq PySem.MeetsSeq2 PySem.MeetsSeq3
theorem mM (l b:Addr)(items aM:Array UR)(n n2:Nat)(dd Be:Option Addr)(sl y8:Array (Option UR))(ns ms:List Int)(hi:We items.toList ns)(hj:We aM.toList ms):
  Meets (Yh.«tuple.__gt__» ⟨[.ref l,.ref b],[]⟩)
   (λ_ R s=>s.heap.get? l=some {cls:=.type "tuple",dict:=dd,data:=.seq items n,slots:=sl}/\s.heap.get? b=some {cls:=.type "tuple",dict:=Be,data:=.seq aM n2,slots:=y8} /\
    R (.ok (.ret (.bool (de ns ms)))) s) :=
 .of_wp λprog w A R s h=>by
  obtain⟨hp,g,d,tk,os⟩:=s;obtain⟨hl,hb,h⟩:=h;have f2:=X5;have z1:items.size=ns.length:=by rw[<- hi.length];simp
  have z2:aM.size=ms.length:=by rw[<- hj.length];simp
  wp_walk using Wq hl,Wq hb,YO _ (λrest b s'=>b.1=none/\s'=⟨hp,g,d,tk,os⟩/\∃(vs ws:List UR) (h9 nD:List Int),rest=vs.zip ws /\
   We vs h9/\We ws nD/\h9.length+aM.size=nD.length+items.size/\R (.ok (.ret (.bool (de h9 nD)))) ⟨hp,g,d,tk,os⟩) _
  case turn =>
   rintro⟨y,x⟩ rest b s' ⟨fP,rfl,vs,ws,h9,nD,hz,Az,vZ,hlen,hR⟩;cases Az with
   |nil=>rw[XY]at hz;cases hz
   |cons a t Ay =>
    cases vZ with
    |nil=>rw[XS]at hz;cases hz
    |cons c u Ax =>
     rw[Wt]at hz;injection hz with J9 lZ
     injection J9 with hy hx
     subst hy hx;rw[rN]at hR;simp only[U_]at hlen;obtain⟨e,he,rW⟩:=HT.mv A.in1 ⟨hp,g,d,tk,os⟩ a t c u;refine UW (he prog w _ _ ?_);cases e with
     |true =>
      rw[if_pos (rW.mp rfl)]at hR
      wp_walk
      exact⟨rfl,rfl,_,_,_,_,lZ,Ay,Ax,by lia,hR⟩
     |false =>
      rw[if_neg (λq=>absurd (rW.mpr q) VY)]at hR;have Ki:=zi A.in1 ⟨hp,g,d,tk,os⟩ a t c u prog w
      wp_walk using Ki
      exact⟨_,rfl,by simpa using hR⟩
  case fin =>
   rintro⟨b1,b2⟩ s' ⟨fP,rfl,vs,ws,h9,nD,hz,Az,vZ,hlen,hR⟩;simp only at fP;subst fP;have hv:de h9 nD=decide (aM.size<items.size):=by
    cases Az with
    |nil =>
     cases vZ with
     |nil =>
      simp only[Wc]at hlen;rw[Ai];exact(decide_eq_false (by lia)).symm
     |cons c u hw =>
      simp only[Wc,U_]at hlen;rw[Aj];exact(decide_eq_false (by lia)).symm
    |cons a t hv =>
     cases vZ with
     |nil =>
      simp only[Wc,U_]at hlen;rw[Ak];exact(decide_eq_true (by lia)).symm
     |cons c u hw =>
      rw[Wt]at hz;cases hz
   rw[hv]at hR
   wp_walk
   exact⟨_,rfl,by simpa[Xx] using hR⟩
  case h =>
   exact⟨rfl,rfl,items.toList,aM.toList,ns,ms,rfl,hi,hj,by lia,h⟩
end
section
variable {prog:UX}{w:Vb}{A:VZ}{E:UR->UT->Prop}{s:UT}
theorem uE {l b:Addr}{items aM:Array UR}{ns ms:List Int}{Q:UR->UT->Prop}(hl:YY s.heap l items)(hb:YY s.heap b aM)(hi:We items.toList ns)(hj:We aM.toList ms)
  (hu:A.units<XJ) (h:Q (.bool (de ns ms)) s):Vu (model prog w) A (VD .Gt (.ref l) (.ref b)) Q E s:=by
 obtain⟨⟨cls,dd,data,sl⟩,ho,hc,n,hd⟩:=id hl;obtain⟨⟨LW,Be,data2,y8⟩,EH,kS,n2,hd2⟩:=id hb;simp only at hc hd kS hd2;subst hc hd kS hd2;exact Yc (op:=.Gt) ⟨_,ho,rfl⟩ ⟨_,EH,rfl⟩ PySem.F.slot_tuple_gt PySem.F.entry_tuple_gt (PySem.F.args_tuple_gt_2 _ _) (mM l b items aM n n2 dd Be sl y8 ns ms hi hj)
  ⟨ho,EH,show Value.bool (de ns ms)≠Yr/\Q (.bool (de ns ms)) s from ⟨(λx=>nomatch x),h⟩⟩ hu
end
end yv
namespace L2
open PySem PySem.Spec PySem.SeqAt PyProof.Rows
def bV:List D->Option (List Int)
 |[]=>some []
 |.int i::ds=>(bV ds).map (i::·)
 |_::_=>none
theorem lX:∀{ds:List D} {ns:List Int},bV ds=some ns->ds=ns.map D.int
 |[],_,h=>by cases h;rfl
 |.int i::ds,_,h=>by
  obtain⟨ns,h1,rfl⟩:=Vj.mp h;rw[Vs,<- lX h1]
 |.bH::_,_,h=>by cases h
 |.bl _::_,_,h=>by cases h
 |.str _::_,_,h=>by cases h
 |.obj _::_,_,h=>by cases h
 |.tup _::_,_,h=>by cases h
 |.lst _::_,_,h=>by cases h
 |.dT _ _::_,_,h=>by cases h
 |.dK _ _::_,_,h=>by cases h
 |.sT _::_,_,h=>by cases h
 |.ob _::_,_,h=>by cases h
theorem cS:∀(ns:List Int),bV (ns.map D.int)=some ns
 |[]=>rfl
 |n::ns=>by rw[Vs];show (bV (ns.map D.int)).map _=_;rw[cS ns];rfl
theorem cQ {P:UX}{w:Vb}{W:Addr->Prop}{H:Hp}:∀{ns:List Int} {vs:List V},ai P w W H (ns.map D.int) vs->vs=ns.map V.int
 |[],_,h=>h
 |n::ns,_,⟨v,r,e,h1,h2⟩=>by rw[e,cQ h2,show v=V.int n from h1];rfl
theorem nN {P:UX}{w:Vb}{W:Addr->Prop}{H:Hp}:∀(ns:List Int),ai P w W H (ns.map D.int) (ns.map V.int)
 |[]=>rfl
 |n::ns=>⟨_,_,rfl,rfl,nN ns⟩
def oq (p:Int->Int->Bool)(lex:List Int->List Int->Bool)(a b:D):Option D:=match a.G2,b.G2 with
 |some a,some b=>match bV a,bV b with
  |some ns,some ms=>some (.bl (lex ns ms))
  |_,_=>none
 |_,_=>yf p a b
theorem wQ {p:Int->Int->Bool}{lex:List Int->List Int->Bool}{a b d:D}(h:oq p lex a b=some d):(∃i j ns ms,a=.tup i/\b=.tup j/\bV i=some ns/\bV j=some ms/\d=.bl (lex ns ms))\/yf p a b=some d:=by
 unfold oq at h;cases ha:a.G2 with
 |none=>rw[ha]at h;exact .inr h
 |some i =>
  cases hb:b.G2 with
  |none=>rw[ha,hb]at h;exact .inr h
  |some j =>
   rw[ha,hb]at h;cases ea:bV i with
   |none=>simp only[ea]at h;cases h
   |some ns =>
    cases eb:bV j with
    |none=>simp only[ea,eb]at h;cases h
    |some ms=>simp only[ea,eb]at h;cases h;exact .inl ⟨i,j,ns,ms,D.lU ha,D.lU hb,ea,eb,rfl⟩
abbrev LS:D->D->Option D:=oq (λi j=>decide (i<j)) HT.lexLt
abbrev LU:D->D->Option D:=oq (λi j=>decide (i<=j)) yv.lexLe
abbrev LV:D->D->Option D:=oq (λi j=>decide (j<i)) yv.de
section
variable {X:Cx}
theorem lK {p:Int->Int->Bool}{lex:List Int->List Int->Bool}{op:Xy}(ho:hX X (VD op) (xf λi j=>.bl (p i j)))
  (ht:∀(s:UT) (E:UR->UT->Prop) (l b:Addr) (items aM:Array UR) (ns ms:List Int) (Q:UR->UT->Prop),YY s.heap l items->YY s.heap b aM->We items.toList ns->We aM.toList ms->Q (.bool (lex ns ms)) s->Vu (model X.prog X.w) X.A (VD op (.ref l) (.ref b)) Q E s) :
  bR X (VD op) (oq p lex):=by
 intro pins s σ H x y v u Q I rx ry h;obtain⟨W,d1,d2,d,hd,r1,r2,e,q⟩:=h;rcases wQ e with⟨a,b,ns,ms,rfl,rfl,ea,eb,rfl⟩|e
 ·rw[lX ea]at r1;rw[lX eb]at r2;obtain⟨pa,vs,rfl,ha,ra⟩:=r1;obtain⟨pb,us,rfl,hb,rb⟩:=r2;rw[cQ ra]at ha;rw[cQ rb]at hb;cases rx;cases ry;obtain⟨its,q1,p1,_⟩:=I.tuple (sW.of ha);obtain⟨rQ,q2,p2,_⟩:=I.tuple (sW.of hb);exact ht s _ pa pb _ _ ns ms _ p1 p2 (by simpa using intsAre_of q1) (by simpa using intsAre_of q2) ⟨.bl _,H,I,rfl,q _ _ (au.refl _) rfl⟩
 ·exact kQ ho pins s σ H x y v u Q I rx ry ⟨W,_,_,d,hd,r1,r2,e,q⟩
theorem CG (hu:X.A.units<XJ):bR X (VD .Lt) LS:=lK zS λs E l b items aM ns ms Q h1 h2 h3 h4 h5=>HT.uh h1 h2 h3 h4 hu h5
theorem CH (hu:X.A.units<XJ):bR X (VD .LtE) LU:=lK Ej λs E l b items aM ns ms Q h1 h2 h3 h4 h5=>yv.uq h1 h2 h3 h4 hu h5
theorem vE (hu:X.A.units<XJ):bR X (VD .Gt) LV:=lK zT λs E l b items aM ns ms Q h1 h2 h3 h4 h5=>yv.uE h1 h2 h3 h4 hu h5
end
end L2
namespace TS
open PySem PyProof.Rows
section
end
end TS
namespace L2
open PySem PySem.Spec PyProof.Rows
def xH (H:Hp):UR->List Int
 |.ref t=>match H t with
  |some (.tup xs)=>xs.filterMap fun
   |.int i=>some i
   |_=>none
  |_=>[]
 |_=>[]
theorem sf:∀ns:List Int,((ns.map V.int).filterMap fun
   |.int i=>some i
   |_=>none)=ns
 |[]=>rfl
 |n::ns=>by
  rw[Vs,WH];dsimp only;rw[sf ns]
theorem lS {H:Hp}{t:Addr}{ns:List Int}(h:H t=some (.tup (ns.map V.int))):xH H (.ref t)=ns:=by
 unfold xH;dsimp only;rw[h];exact sf ns
def HC (H:Hp):UR->Addr×List Int
 |.ref t=>(t,xH H (.ref t))
 |_=>(0,[])
abbrev HZ (H:Hp)(ts:List (Addr×List Int)):Prop:=∀t∈ts,H t.1=some (.tup (t.2.map V.int))/\t.2≠[]
abbrev BW (t:Addr×List Int):V:=.ref t.1
theorem nv:∀(ts:List (Addr×List Int)),Vals (ts.map BW) (ts.map λt=>Value.ref t.1)
 |[]=>.nil
 |t::ts=>.cons rfl (nv ts)
theorem xp {H:Hp}{ts:List (Addr×List Int)}(T:HZ H ts){out:List UR}(hp:out.Perm (ts.map λt=>Value.ref t.1)):out=(out.map (HC H)).map (λt=>Value.ref t.1)/\(out.map (HC H)).Perm ts:=by
 constructor
 ·rw[V2];refine(V4 (g:=id) λv hv=>?_).trans (List.map_id _) |>.symm
  obtain⟨t,ht,rfl⟩:=VA.mp (hp.mem_iff.mp hv);rfl
 ·refine(hp.map (HC H)).trans (Y1 ?_);rw[V2];refine(V4 (g:=id) λt ht=>?_).trans (List.map_id _);show (t.1,xH H (.ref t.1))=t;rw[lS (T t ht).1]
theorem BU {P:UX}{w:Vb}{H:Hp}{h:Heap}{ts:List (Addr×List Int)}(ok:iF P w H h)(T:HZ H ts){a:Addr}(ha:h.objs.size<=a):TS.sS h (xH H) a (ts.map λt=>Value.ref t.1):=λv hv=>by
 obtain⟨t,ht,rfl⟩:=VA.mp hv;obtain⟨h1,h2⟩:=T t ht;obtain⟨_,its,r,o,ho,hc,n,hd⟩:=(show bh P w H h t.1 (.tup (t.2.map V.int)) from ok _ _ h1)
 exact⟨t.1,o,_,n,rfl,VP (VC (Vi ho) ha),ho,hc,hd,by rw[lS h1];exact intsAre_of (by simpa using r),by rw[lS h1];exact h2⟩
section
end
end L2
namespace TS
open PySem PyProof.Rows
section
variable {prog:UX}{w:Vb}{A:VZ}{E:UR->UT->Prop}{s:UT}
theorem tS {x:UR}{vs:List UR}{kf:UR->List Int}{Q:UR->UT->Prop}(hz:vs.length<=1000000)
  (col:∀(R:List UR->UT->Prop),(∀(h':Heap) (tk:Nat),(∀b o,s.heap.get? b=some o->h'.get? b=some o)->R vs {s with heap:=h',toks:=tk})->Vu (model prog w) A.in1 (collect x) R E s)
  (T:sS s.heap kf s.heap.objs.size vs)
  (h:∀(out:List UR) (h1 h':Heap) (tk:Nat) (n:Nat),out.Perm vs->out.Pairwise (λx y=>HT.lexLt (kf y) (kf x)=false)->(∀b o,s.heap.get? b=some o->h1.get? b=some o)->(∀b o,h1.get? b=some o->h'.get? b=some o)->h'.get? h1.objs.size=some (Xm "list" out.toArray n)->Q (.ref h1.objs.size) {s with heap:=h',toks:=tk}) :
  Vu (model prog w) A (call (.builtin "sorted") [x]) Q E s:=by
 refine Calls.call_function_entry kind_sorted plain_sorted entry_sorted (args_sorted1 _) ?_;unfold Yh.«sorted»
 refine UW (m:=checkCount "sorted" 1 1 _) (Vg ?_);refine UW (col _ λh' tk kp=>?_);have nl:vs.length<=U4:=by rw[Wf];lia
 refine UW (wpAny_newList ?_ nl);have hl:(h'.push (Xm "list" vs.toArray 0)).get? h'.objs.size=some (Xm "list" vs.toArray 0):=VO _ rfl;have T':sS (h'.push (Xm "list" vs.toArray 0)) kf h'.objs.size vs:=λv hv=>by
  obtain⟨t,o,xs,k,e1,_,e3,r⟩:=T v hv;exact⟨t,o,xs,k,e1,VP (Vi (kp _ _ e3)),Vc _ (kp _ _ e3),r⟩
 refine UW (Xf (X6 slot_list_sort ⟨_,hl,rfl⟩ entry_list_sort (uj (s:={s with heap:=h'.push (Xm "list" vs.toArray 0),toks:=tk}) hl hz T' λout hp hs=>⟨_,rfl,?_⟩) (args_list_sort _)))
 obtain⟨n,hn⟩:=sortedHeap_at (out:=out.toArray) hl;refine Vg ⟨_,rfl,h out h' _ tk n hp hs kp (λb o e=>?_) hn⟩;have hb:=Vi e;rw[sortedHeap_old (VP hb) (by rw[size_push'];exact Nat.lt_succ_of_lt hb)]
 exact Vc _ e
end
end TS
namespace ST
open PySem PyProof.Rows
section
end
end ST
namespace L2
open PySem PySem.Spec PySem.SeqAt PyProof.Rows HT
theorem nJ:∀a:List Int,lexLt a a=false
 |[]=>rfl
 |x::xs=>by rw[bY,if_pos rfl];exact nJ xs
theorem fL:∀{a b:List Int},lexLt a b=false->lexLt b a=false->a=b
 |[],[],_,_=>rfl
 |[],_::_,h,_=>by cases h
 |_::_,[],_,h=>by cases h
 |x::xs,y::ys,h1,h2=>by
  rw[bY]at h1 h2
  by_cases e:x=y
  ·subst e;rw[if_pos rfl]at h1 h2;rw[fL h1 h2]
  ·rw[if_neg e]at h1;rw[if_neg (λz=>e z.symm)]at h2;have:=of_decide_eq_false h1;have:=of_decide_eq_false h2;omega
theorem ir:∀{a b:List Int},lexLt a b=true->lexLt b a=false
 |[],[],h=>by cases h
 |[],_::_,_=>rfl
 |_::_,[],h=>by cases h
 |x::xs,y::ys,h=>by
  rw[bY]at h ⊢
  by_cases e:x=y
  ·subst e;rw[if_pos rfl]at h ⊢
   exact ir h
  ·rw[if_neg e]at h;rw[if_neg (λz=>e z.symm)];have:=of_decide_eq_true h;exact decide_eq_false (by lia)
theorem eF:∀{a b c:List Int},lexLt a b=true->lexLt b c=true->lexLt a c=true
 |[],[],_,h,_=>by cases h
 |[],_::_,[],_,h=>by cases h
 |[],_::_,_::_,_,_=>rfl
 |_::_,[],_,h,_=>by cases h
 |x::xs,y::ys,[],_,h=>by cases h
 |x::xs,y::ys,z::zs,h1,h2=>by
  rw[bY]at h1 h2 ⊢
  by_cases e:x=y
  ·subst e;rw[if_pos rfl]at h1
   by_cases e2:x=z
   ·subst e2;rw[if_pos rfl]at h2 ⊢
    exact eF h1 h2
   ·rw[if_neg e2]at h2 ⊢
    exact h2
  ·rw[if_neg e]at h1;have q1:=of_decide_eq_true h1
   by_cases e2:y=z
   ·subst e2;rw[if_neg e];exact h1
   ·rw[if_neg e2]at h2;have q2:=of_decide_eq_true h2;rw[if_neg (by omega)]
    exact decide_eq_true (by omega)
def uw (k:List Int):List (List Int)->List (List Int)
 |[]=>[k]
 |x::xs=>if lexLt x k=true then x::uw k xs else k::x::xs
def j4:List (List Int)->List (List Int)
 |[]=>[]
 |k::ks=>uw k (j4 ks)
theorem jS (k:List Int):∀xs,(uw k xs).Perm (k::xs)
 |[]=>.refl _
 |x::xs=>by
  unfold uw
  split
  ·exact((jS k xs).cons x).trans (List.Perm.swap _ _ _)
  ·exact .refl _
theorem iU:∀ks,(j4 ks).Perm ks
 |[]=>.refl _
 |k::ks=>(jS k (j4 ks)).trans ((iU ks).cons k)
abbrev sU (ks:List (List Int)):Prop:=ks.Pairwise λx y=>HT.lexLt y x=false
theorem le_trans' {a b c:List Int}(h1:lexLt b a=false)(h2:lexLt c b=false):lexLt c a=false:=by
 cases h:lexLt c a with
 |false=>rfl
 |true =>
  cases hb:lexLt a b with
  |true=>rw[eF h hb]at h2;cases h2
  |false =>
   have:=fL hb h1;subst this;rw[h]at h2;cases h2
theorem nO (k:List Int):∀xs,sU xs->sU (uw k xs)
 |[],_=>by simp[uw]
 |x::xs,h=>by
  obtain⟨h1,h2⟩:=VH.mp h;unfold uw
  split
  ·rename_i hx
   refine VH.mpr ⟨λy hy=>?_,nO k xs h2⟩;rcases U0.mp ((jS k xs).mem_iff.mp hy)with rfl|hy
   ·exact ir hx
   ·exact h1 y hy
  ·rename_i hx
   have Dg:lexLt x k=false:=by cases q:lexLt x k <;> simp_all
   refine VH.mpr ⟨λy hy=>?_,h⟩;rcases U0.mp hy with rfl|hy
   ·exact Dg
   ·exact le_trans' Dg (h1 y hy)
theorem lj:∀ks,sU (j4 ks)
 |[]=>.nil
 |k::ks=>nO k _ (lj ks)
theorem j3:∀{a b:List (List Int)},a.Perm b->sU a->sU b->a=b
 |[],b,p,_,_=>by rw[List.nil_perm.mp p]
 |x::a,[],p,_,_=>by have:=p.length_eq;simp at this
 |x::a,y::b,p,ha,hb=>by
  obtain⟨a1,a2⟩:=VH.mp ha;obtain⟨b1,b2⟩:=VH.mp hb;have Oc:x=y:=by
   rcases U0.mp (p.mem_iff.mp (U9 (a:=x) (l:=a)))with h|h
   ·exact h
   ·rcases U0.mp (p.mem_iff.mpr (U9 (a:=y) (l:=b)))with h' | h'
    ·exact h'.symm
    ·exact fL (b1 x h) (a1 y h')
  subst Oc;rw[j3 (List.perm_cons x |>.mp p) a2 b2]
theorem FA {a b:List (List Int)}(p:a.Perm b)(h:sU a):a=j4 b:=j3 (p.trans (iU b).symm) h (lj b)
abbrev kD (k:List Int):D:=.tup (k.map D.int)
section
variable {P:UX}{w:Vb}{W:Addr->Prop}{H:Hp}
theorem nu:∀{ts:List (Addr×List Int)},(∀t∈ts,H t.1=some (.tup (t.2.map V.int)))->ai P w W H ((ts.map (·.2)).map kD) (ts.map BW)
 |[],_=>rfl
 |t::ts,h=>⟨_,_,rfl,⟨t.1,_,rfl,h t (U9 ..),nN t.2⟩,nu λx hx=>h x (U6 _ hx)⟩
end
section
end
def c6:FD:=λds R=>∃n:Int,ds=[.int n]/\0<n/\n<2 ^ 200/\∀r:Int,0<=r->r<n->R (.int r)
theorem c6.mono:cD c6:=λds R R' k ⟨n,e,h1,h2,q⟩=>⟨n,e,h1,h2,λr a b=>k _ (q r a b)⟩
section
end
section
variable {X:Cx}{W:Addr->Prop}{H:Hp}
theorem xx {p:Addr}{vs:List V}{ds:List D}(n:H p=none)(f:NL (.lst ds))(r:kj X W H ds vs):Rp X (λa=>H a≠none) (upd H p (.lst vs)) (.lst ds) (.ref p) :=
 ⟨p,vs,rfl,ar,λz=>z n,ai.flat f (r.same (au.new n))⟩
def ND (X:Cx)(f:D->D->Option D):R2:=λx y H Q=>∃W d1 d2 d,Dm W H/\Rp X W H d1 x/\Rp X W H d2 y/\f d1 d2=some d/\∀v H',au H H'->Rp X W H' d v->(NL d->Rp X (λa=>H a≠none) H' d v)->Q v H'
def NC (X:Cx)(f:List D->Option D):List V->Hp->VK->Prop:=λxs H Q=>∃W ds d,Dm W H/\kj X W H ds xs/\f ds=some d/\∀v H',au H H'->Rp X W H' d v->(NL d->Rp X (λa=>H a≠none) H' d v)->Q v H'
def Jp (X:Cx)(f:D->Option Int->Option Int->Option D):V->Option Int->Option Int->Hp->VK->Prop:=λx lo hi H Q=>∃W d1 d,Dm W H/\Rp X W H d1 x/\f d1 lo hi=some d/\∀v H',au H H'->Rp X W H' d v->(NL d->Rp X (λa=>H a≠none) H' d v)->Q v H'
abbrev Mb (X:Cx)(f:UR->UR->Sem UR)(g:D->D->Option D):Prop:=hX X f (ND X g)
abbrev BC (X:Cx)(f:UR)(g:List D->Option D):Prop:=gg X f (NC X g)
theorem aL:Mb X (WI .Add) uS:=by
 intro pins s σ H x y v u Q I rx ry h;obtain⟨W,d1,d2,d,hd,r1,r2,e,q⟩:=h;rcases xC e with⟨a,b,rfl,rfl,e⟩|e
 ·obtain⟨hl,rfl⟩:=d3 e;obtain⟨p,vs,rfl,h1,n1,q1⟩:=r1;obtain⟨p',vs',rfl,h2,n2,q2⟩:=r2;exact zV pins s σ H _ _ v u Q I rx ry ⟨p,p',vs,vs',rfl,rfl,h1,h2,by rw[q1.length,q2.length];exact hl,λl uC=>q _ _ (au.new uC) (Rp.jM hd uC (q1.append q2)) λf=>xx uC f (q1.append q2)⟩
 ·obtain⟨i,j,rfl,rfl,e⟩:=jR e;cases e;cases r1;cases r2;exact pM pins s σ H _ _ v u Q I rx ry ⟨i,j,rfl,rfl,q _ _ (au.refl _) rfl λ_=>rfl⟩
theorem B7:P1 X (Jp X PF):=by
 intro pins s σ H x v vl vu lo hi sl Q I rx hs pl pu h;obtain⟨W,d1,d,hd,r1,e,q⟩:=h;cases d1 with
 |lst ds =>
  cases e;obtain⟨p,vs,rfl,h1,n1,q1⟩:=r1;have rr:kj X W H (cutD ds lo hi) (sL vs lo hi):=by
   unfold sL cutD;rw[q1.length];exact(ai.drop _ q1).take _
  exact vj pins s σ H _ v vl vu lo hi sl Q I rx hs pl pu ⟨p,vs,rfl,da.of h1,λl hl=>q _ _ (au.new hl) (Rp.jM hd hl rr) λf=>xx hl f rr⟩
 |_=>cases e
theorem gK:BC X (.type "list") dList:=by
 intro pins s σ H xs us Q I r h;obtain⟨W,ds,d,hd,r1,e,q⟩:=h
 match ds,e with
 |[.lst es],e =>
  cases e;obtain⟨v,r',rfl,⟨p,vs,rfl,h1,n1,q1⟩,hr⟩:=r1;cases hr;exact js pins s σ H _ us Q I r ⟨p,vs,rfl,.inl (da.of h1),λl hl=>q _ _ (au.new hl) (Rp.jM hd hl q1) λf=>xx hl f q1⟩
 |[.tup es],e =>
  cases e;obtain⟨v,r',rfl,⟨p,vs,rfl,h1,q1⟩,hr⟩:=r1;cases hr;exact js pins s σ H _ us Q I r ⟨p,vs,rfl,.inr (sW.of h1),λl hl=>q _ _ (au.new hl) (Rp.jM hd hl q1) λf=>xx hl f q1⟩
end
section
end
end L2
namespace L2.Q
open PySem PySem.Spec PySem.SeqAt PyProof.Rows
section
variable (P:UX)(w:Vb)(H:Hp)
mutual
def Own:D->V->List Addr->Prop
 |.tup ds,v,A=>∃a vs,v=.ref a/\H a=some (.tup vs)/\aN ds vs A
 |.lst ds,v,A=>∃a vs A',v=.ref a/\H a=some (.lst vs)/\A=a::A'/\aN ds vs A'
 |.dT ks ds,v,A=>∃a vs A',v=.ref a/\H a=some (.dT (ks.zip vs))/\ks.length=vs.length/\A=a::A'/\aN ds vs A'
 |.dK ks ds,v,A=>∃a vs A',v=.ref a/\H a=some (.dK (ks.zip vs))/\ks.length=vs.length/\A=a::A'/\aN ds vs A'
 |.sT ts,v,A=>∃a,v=.ref a/\DU P w H a ts/\A=[a]
 |.ob φ,v,A=>∃a,v=.ref a/\(H a=some (φ a)/\∀xs,φ a≠.tup xs)/\A=[a]
 |.bH,v,A=>v=.bH/\A=[]
 |.bl b,v,A=>v=.bl b/\A=[]
 |.int i,v,A=>v=.int i/\A=[]
 |.str x,v,A=>v=.str x/\A=[]
 |.obj a,v,A=>v=.ref a/\A=[]
def aN:List D->List V->List Addr->Prop
 |[],vs,A=>vs=[]/\A=[]
 |d::ds,vs,A=>∃v r A1 A2,vs=v::r/\A=A1++A2/\Own d v A1/\aN ds r A2
end
end
section
variable {P:UX}{w:Vb}{W:Addr->Prop}{H H':Hp}
theorem wZ {a:Addr}{ts:List (List Int)}(k:∀b xs,H b=some (.tup xs)->H' b=some (.tup xs))(ha:∀o,H a=some o->H' a=some o)(h:DU P w H a ts):DU P w H' a ts :=
 let ⟨BF,e,r,z⟩:=h;⟨BF,ha _ e,λx hx=>k _ _ (r x hx),z⟩
mutual
theorem Own.keep (k:∀b xs,H b=some (.tup xs)->H' b=some (.tup xs)):∀{d:D} {v:V} {A:List Addr},(∀c∈A,∀o,H c=some o->H' c=some o)->Own P w H d v A->Own P w H' d v A
 |.tup ds,_,_,ha,⟨a,vs,e,t,r⟩=>⟨a,vs,e,k a vs t,aN.keep k ha r⟩
 |.lst ds,_,_,ha,⟨a,vs,A',e,t,eA,r⟩=>⟨a,vs,A',e,ha a (by rw[eA];simp) _ t,eA,aN.keep k (λc hc=>ha c (by rw[eA];simp[hc])) r⟩
 |.dT ks ds,_,_,ha,⟨a,vs,A',e,t,l,eA,r⟩=>⟨a,vs,A',e,ha a (by rw[eA];simp) _ t,l,eA,aN.keep k (λc hc=>ha c (by rw[eA];simp[hc])) r⟩
 |.dK ks ds,_,_,ha,⟨a,vs,A',e,t,l,eA,r⟩=>⟨a,vs,A',e,ha a (by rw[eA];simp) _ t,l,eA,aN.keep k (λc hc=>ha c (by rw[eA];simp[hc])) r⟩
 |.sT ts,_,_,ha,⟨a,e,r,eA⟩=>⟨a,e,wZ k (λo ho=>ha a (by rw[eA];simp) o ho) r,eA⟩
 |.ob φ,_,_,ha,⟨a,e,r,eA⟩=>⟨a,e,⟨ha a (by rw[eA];simp) _ r.1,r.2⟩,eA⟩
 |.bH,_,_,_,h=>h
 |.bl _,_,_,_,h=>h
 |.int _,_,_,_,h=>h
 |.str _,_,_,_,h=>h
 |.obj _,_,_,_,h=>h
theorem aN.keep (k:∀b xs,H b=some (.tup xs)->H' b=some (.tup xs)):∀{ds:List D} {vs:List V} {A:List Addr},(∀c∈A,∀o,H c=some o->H' c=some o)->aN P w H ds vs A->aN P w H' ds vs A
 |[],_,_,_,h=>h
 |d::ds,_,_,ha,⟨v,r,A1,A2,e,eA,h1,h2⟩=>⟨v,r,A1,A2,e,eA,Own.keep k (λc hc=>ha c (by rw[eA];simp[hc])) h1,aN.keep k (λc hc=>ha c (by rw[eA];simp[hc])) h2⟩
end
mutual
theorem Own.rep:∀{d:D} {v:V} {A:List Addr},(∀c∈A,¬ W c)->Own P w H d v A->ay P w W H d v
 |.tup ds,_,_,ha,⟨a,vs,e,t,r⟩=>⟨a,vs,e,t,aN.rep ha r⟩
 |.lst ds,_,_,ha,⟨a,vs,A',e,t,eA,r⟩=>⟨a,vs,e,t,ha a (by rw[eA];simp),aN.rep (λc hc=>ha c (by rw[eA];simp[hc])) r⟩
 |.dT ks ds,_,_,ha,⟨a,vs,A',e,t,l,eA,r⟩=>⟨a,vs,e,t,l,ha a (by rw[eA];simp),aN.rep (λc hc=>ha c (by rw[eA];simp[hc])) r⟩
 |.dK ks ds,_,_,ha,⟨a,vs,A',e,t,l,eA,r⟩=>⟨a,vs,e,t,l,ha a (by rw[eA];simp),aN.rep (λc hc=>ha c (by rw[eA];simp[hc])) r⟩
 |.sT ts,_,_,ha,⟨a,e,r,eA⟩=>⟨a,e,r,ha a (by rw[eA];simp)⟩
 |.ob φ,_,_,ha,⟨a,e,r,eA⟩=>⟨a,e,r,ha a (by rw[eA];simp)⟩
 |.bH,_,_,_,h=>h.1
 |.bl _,_,_,_,h=>h.1
 |.int _,_,_,_,h=>h.1
 |.str _,_,_,_,h=>h.1
 |.obj _,_,_,_,h=>h.1
theorem aN.rep:∀{ds:List D} {vs:List V} {A:List Addr},(∀c∈A,¬ W c)->aN P w H ds vs A->ai P w W H ds vs
 |[],_,_,_,h=>h.1
 |d::ds,_,_,ha,⟨v,r,A1,A2,e,eA,h1,h2⟩=>⟨v,r,e,Own.rep (λc hc=>ha c (by rw[eA];simp[hc])) h1,aN.rep (λc hc=>ha c (by rw[eA];simp[hc])) h2⟩
end
mutual
theorem Own.mE:∀{d:D} {v:V} {A:List Addr},Own P w H d v A->∀c∈A,H c≠none/\∀xs,H c≠some (.tup xs)
 |.tup ds,_,_,⟨a,vs,e,t,r⟩,c,hc=>aN.mE r c hc
 |.lst ds,_,_,⟨a,vs,A',e,t,eA,r⟩,c,hc=>by
  rw[eA]at hc;rcases U0.mp hc with rfl|hc
  ·rw[t];exact⟨λz=>(nomatch z),λxs z=>by cases z⟩
  ·exact aN.mE r c hc
 |.dT ks ds,_,_,⟨a,vs,A',e,t,l,eA,r⟩,c,hc=>by
  rw[eA]at hc;rcases U0.mp hc with rfl|hc
  ·rw[t];exact⟨λz=>(nomatch z),λxs z=>by cases z⟩
  ·exact aN.mE r c hc
 |.dK ks ds,_,_,⟨a,vs,A',e,t,l,eA,r⟩,c,hc=>by
  rw[eA]at hc;rcases U0.mp hc with rfl|hc
  ·rw[t];exact⟨λz=>(nomatch z),λxs z=>by cases z⟩
  ·exact aN.mE r c hc
 |.sT ts,_,_,⟨a,e,⟨BF,t,r,z⟩,eA⟩,c,hc=>by
  rw[eA]at hc;rw[U8.mp hc,t];exact⟨λz=>(nomatch z),λxs z=>by cases z⟩
 |.ob φ,_,_,⟨a,e,⟨t,z⟩,eA⟩,c,hc=>by
  rw[eA]at hc;rw[U8.mp hc,t];exact⟨λz=>(nomatch z),λxs q=>z xs (VQ q)⟩
 |.bH,_,_,h,c,hc=>by rw[h.2]at hc;cases hc
 |.bl _,_,_,h,c,hc=>by rw[h.2]at hc;cases hc
 |.int _,_,_,h,c,hc=>by rw[h.2]at hc;cases hc
 |.str _,_,_,h,c,hc=>by rw[h.2]at hc;cases hc
 |.obj _,_,_,h,c,hc=>by rw[h.2]at hc;cases hc
theorem aN.mE:∀{ds:List D} {vs:List V} {A:List Addr},aN P w H ds vs A->∀c∈A,H c≠none/\∀xs,H c≠some (.tup xs)
 |[],_,_,h,c,hc=>by rw[h.2]at hc;cases hc
 |d::ds,_,_,⟨v,r,A1,A2,e,eA,h1,h2⟩,c,hc=>by
  rw[eA]at hc;rcases Vp.mp hc with hc|hc
  ·exact Own.mE h1 c hc
  ·exact aN.mE h2 c hc
end
mutual
theorem e7:∀{d:D} {v:V},d.flat=true->ay P w W H d v->Own P w H d v []
 |.tup ds,_,f,⟨a,vs,e,t,r⟩=>⟨a,vs,e,t,jH (by simpa[D.flat] using f) r⟩
 |.lst ds,_,f,_=>by simp[D.flat]at f
 |.dT ks ds,_,f,_=>by simp[D.flat]at f
 |.dK ks ds,_,f,_=>by simp[D.flat]at f
 |.sT ts,_,f,_=>by simp[D.flat]at f
 |.ob φ,_,f,_=>by simp[D.flat]at f
 |.bH,_,_,h=>⟨h,rfl⟩
 |.bl _,_,_,h=>⟨h,rfl⟩
 |.int _,_,_,h=>⟨h,rfl⟩
 |.str _,_,_,h=>⟨h,rfl⟩
 |.obj _,_,_,h=>⟨h,rfl⟩
theorem jH:∀{ds:List D} {vs:List V},D.cK ds=true->ai P w W H ds vs->aN P w H ds vs []
 |[],_,_,h=>⟨h,rfl⟩
 |d::ds,_,f,⟨v,r,e,h1,h2⟩=>by
  have f':(d.flat&&D.cK ds)=true:=f;rw[VT]at f';exact⟨v,r,[],[],e,rfl,e7 f'.1 h1,jH f'.2 h2⟩
end
theorem aN.length:∀{ds:List D} {vs:List V} {A:List Addr},aN P w H ds vs A->vs.length=ds.length
 |[],_,_,h=>by rw[h.1];rfl
 |d::ds,_,_,⟨v,r,A1,A2,e,eA,h1,h2⟩=>by rw[e,U_,U_,aN.length h2]
theorem aN.append:∀{ds ds':List D} {vs vs':List V} {A A':List Addr},aN P w H ds vs A->aN P w H ds' vs' A'->aN P w H (ds++ds') (vs++vs') (A++A')
 |[],_,_,_,_,_,h,h'=>by rw[h.1,h.2];exact h'
 |d::ds,_,_,_,_,_,⟨v,r,A1,A2,e,eA,h1,h2⟩,h'=>by
  subst e eA;exact⟨v,_,A1,_,rfl,by rw[VW],h1,aN.append h2 h'⟩
theorem aN.one {d:D}{v:V}{A:List Addr}(h:Own P w H d v A):aN P w H [d] [v] A:=⟨v,[],A,[],rfl,by simp,h,rfl,rfl⟩
theorem aN.split:∀{ds:List D} {vs:List V} {A:List Addr} {i:Nat} {d:D},aN P w H ds vs A->ds[i]?=some d->∃v A1 A2 A3,vs[i]?=some v/\A=A1++(A2++A3)/\aN P w H (ds.take i) (vs.take i) A1/\Own P w H d v A2/\aN P w H (ds.drop (i+1)) (vs.drop (i+1)) A3
 |[],_,_,_,_,_,e=>by simp at e
 |d::ds,_,_,0,_,⟨v,r,A1,A2,e,eA,h1,h2⟩,e'=>by
  simp at e';subst e' e eA;exact⟨v,[],A1,A2,by simp,by simp,⟨rfl,rfl⟩,h1,by simpa using h2⟩
 |d::ds,_,_,i+1,_,⟨v,r,A1,A2,e,eA,h1,h2⟩,e'=>by
  subst e eA;obtain⟨u,B1,B2,B3,g1,g2,g3,g4,g5⟩:=aN.split (i:=i) h2 (by simpa using e')
  exact⟨u,A1++B1,B2,B3,by simpa using g1,by rw[g2];simp[VW],by simpa using ⟨v,_,A1,B1,rfl,rfl,h1,g3⟩,g4,by simpa using g5⟩
end
inductive Kd where
 |own|dy|old|bor
inductive B where
 |val (y:Bool) (d:D)|own (d:D)|hand (ok:List Int->Prop)|shl (y:Bool) (d:D)
abbrev a_:=List (Option B)
structure Cfg where
 H0:Hp
 IO:Addr->Prop
 /-- is the result to be JC own -/
 ro:Bool
 /-- what else NX data keeps off -/
 U:Addr->Prop:=λ_=>False
abbrev Wn (own:Nat->List Addr):Addr->Prop:=λa=>∃i,a∈own i
def av (C:Cfg)(W:Addr->Prop):Kd->Addr->Prop
 |.own,a=>W a\/C.H0 a≠none
 |.dy,a=>W a\/C.H0 a≠none
 |.old,a=>W a
 |.bor,_=>False
def fY (C:Cfg)(W:Addr->Prop)(k:Kd)(a:Addr):Prop:=av C W k a\/C.U a
abbrev yk (y:Bool):Kd:=match y with|true=>.dy|false=>.old
def Ik:D->HO->List V->Prop
 |.lst _,o,vs=>o=.lst vs
 |.dT ks _,o,vs=>o=.dT (ks.zip vs)/\ks.length=vs.length
 |.dK ks _,o,vs=>o=.dK (ks.zip vs)/\ks.length=vs.length
 |_,_,_=>False
def Jh:D->List D
 |.lst ds=>ds
 |.dT _ ds=>ds
 |.dK _ ds=>ds
 |_=>[]
def H_ (P:UX)(w:Vb)(W:Addr->Prop)(H:Hp)(d:D)(v:V)(A:List Addr):Prop:=∃a o vs,v=.ref a/\A=[a]/\H a=some o/\Ik d o vs/\ai P w W H (Jh d) vs
theorem H_.map {P:UX}{w:Vb}{W W':Addr->Prop}{H H':Hp}{d:D}{v:V}{A:List Addr}(h:H_ P w W H d v A)(ha:∀c∈A,∀o,H c=some o->H' c=some o)(hr:∀ds vs,ai P w W H ds vs->ai P w W' H' ds vs):H_ P w W' H' d v A :=
 let ⟨a,o,vs,e1,e2,e3,e4,r⟩:=h;⟨a,o,vs,e1,e2,ha a (by rw[e2];simp) o e3,e4,hr _ _ r⟩
theorem H_.rep {P:UX}{w:Vb}{W W':Addr->Prop}{H:Hp}{d:D}{v:V}{A:List Addr}(h:H_ P w W H d v A)(ha:∀c∈A,¬ W' c)(hs:∀ds vs,ai P w W H ds vs->ai P w W' H ds vs):ay P w W' H d v:=by
 obtain⟨a,o,vs,rfl,rfl,e,sh,r⟩:=h;have na:=ha a (by simp)
 replace r:=hs _ _ r;cases d with
 |lst ds=>cases sh;exact⟨a,vs,rfl,e,na,r⟩
 |dT ks ds=>obtain⟨rfl,l⟩:=sh;exact⟨a,vs,rfl,e,l,na,r⟩
 |dK ks ds=>obtain⟨rfl,l⟩:=sh;exact⟨a,vs,rfl,e,l,na,r⟩
 |_=>exact sh.elim
structure bG (P:UX)(w:Vb)(C:Cfg)(σ:St)(H:Hp)(β:a_)(own:Nat->List Addr):Prop where
 len:β.length=σ.length
 val:∀(i:Nat) (y:Bool) (d:D),β[i]?=some (some (.val y d))->∃v,σ[i]?=some (some v)/\ay P w (fY C (Wn own) (yk y)) H d v
 ow:∀(i:Nat) (d:D),β[i]?=some (some (.own d))->∃v,σ[i]?=some (some v)/\Own P w H d v (own i)/\∀c∈own i,C.H0 c=none
 pR:∀(i:Nat) (ok:List Int->Prop),β[i]?=some (some (.hand ok))->∃a ns,σ[i]?=some (some (.ref a))/\H a=some (.lst (ns.map V.int))/\ok ns/\own i=[a]/\((∀b,¬ C.IO b)\/C.IO a)
 dm:∀(i:Nat) (a:Addr),a∈own i->H a≠none/\(∀xs,H a≠some (.tup xs))/\(C.H0 a=none\/C.IO a)/\¬ C.U a
 jo:∀(i j:Nat) (a:Addr),a∈own i->a∈own j->i=j
 mB:∀i,(own i).Nodup
 kp:Kp C.IO C.H0 H
 hJ:∀a,C.H0 a≠none->H a≠none
 shl:∀(i:Nat) (y:Bool) (d:D),β[i]?=some (some (.shl y d))->∃v,σ[i]?=some (some v)/\H_ P w (fY C (Wn own) (yk y)) H d v (own i)/\∀c∈own i,C.H0 c=none
abbrev SQ (X:Cx):=bG X.prog X.w
section
variable {P:UX}{w:Vb}{C:Cfg}{σ:St}{H H':Hp}{β:a_}{own:Nat->List Addr}{W W':Addr->Prop}
theorem bG.uM (b:bG P w C σ H β own):Dm (Wn own) H:=λa ⟨i,h⟩=>(b.dm i a h).1
theorem bG.Bd (b:bG P w C σ H β own)(k:Kd):Dm (av C (Wn own) k) H:=λa h=>by
 cases k with
 |own=>exact h.elim (b.uM a) (b.hJ a)
 |dy=>exact h.elim (b.uM a) (b.hJ a)
 |old=>exact b.uM a h
 |bor=>exact h.elim
theorem jt (s:∀a,W' a->W a)(k:Kd):∀a,av C W' k a->av C W k a:=λa h=>by
 cases k with
 |own=>exact h.imp (s a) id
 |dy=>exact h.imp (s a) id
 |old=>exact s a h
 |bor=>exact h
theorem gL (s:∀a,W' a->W a)(k:Kd):∀a,fY C W' k a->fY C W k a:=λa h=>h.imp (jt s k a) id
theorem bG.keep (b:bG P w C σ H β own)(k:Kp (λa=>H a=none) H H')(kp:Kp C.IO H H')(dn:∀a,H a≠none->H' a≠none):bG P w C σ H' β own:=by
 have ko:∀c o,H c=some o->H' c=some o:=λc o e=>k.out c o e (by rw[e];exact λz=>(nomatch z))
 have same:au H H':=ko;exact⟨b.len,λi y d e=>let ⟨v,h1,h2⟩:=b.val i y d e;⟨v,h1,h2.same same⟩,λi d e=>let ⟨v,h1,h2,h3⟩:=b.ow i d e;⟨v,h1,h2.keep (λ_ _ e=>same _ _ e) (λc _ o e=>same c o e),h3⟩,
  λi ok e=>let ⟨a,ns,h1,h2,h3⟩:=b.pR i ok e;⟨a,ns,h1,same _ _ h2,h3⟩,λi a h=>by
   obtain⟨h1,h2,h3⟩:=b.dm i a h;cases q:H a with
   |none=>exact absurd q h1
   |some o=>rw[same a o q];exact⟨λz=>(nomatch z),λxs z=>h2 xs (by rw[q];exact z),h3⟩,b.jo,b.mB,b.kp.trans kp,λa z=>dn a (b.hJ a z),λi y d e=>let ⟨v,h1,h2,h3⟩:=b.shl i y d e;⟨v,h1,h2.map (λc _ o e=>same c o e) (λ_ _ r=>r.same same),h3⟩⟩
theorem bG.same (b:bG P w C σ H β own)(s:au H H'):bG P w C σ H' β own:=b.keep s.kp s.kp λa z e=>z (s.free e)
theorem dB {own:Nat->List Addr}{i:Nat}{a:Addr}(h:Wn (aH own i []) a):Wn own a:=let ⟨j,q⟩:=h;⟨j,(bK q).1⟩
theorem bq {own:Nat->List Addr}{i j:Nat}{A:List Addr}(h:i≠j):aH own i A j=own j:=by unfold aH;rw[if_neg (Xa h)]
theorem os_eq {own:Nat->List Addr}{i:Nat}{A:List Addr}:aH own i A i=A:=by unfold aH;rw[if_pos rfl]
theorem bG.dD {i:Nat}{d:D}{v:V}{y:Bool}(b:bG P w C σ H β own)(r:ay P w (fY C (Wn own) (yk y)) H d v):bG P w C (σ.set i (some v)) H (β.set i (some (.val y d))) (aH own i []):=by
 have sub:∀y a,fY C (Wn (aH own i [])) (yk y) a->fY C (Wn own) (yk y) a:=λy=>gL (λa h=>dB h) _;refine⟨by simp[b.len],λj y' d' e=>?_,λj d' e=>?_,λj ok e=>?_,λj a h=>b.dm j a (bK h).1,λj k a h1 h2=>b.jo j k a (bK h1).1 (bK h2).1,λj=>?_,b.kp,b.hJ,λj y' d' e=>?_⟩
 ·by_cases aE:i=j
  ·subst aE;obtain⟨e',hl⟩:=a5 e;cases e';exact⟨v,get_set (by rw[<- b.len];exact hl),r.aR (sub _)⟩
  ·rw[aZ aE]at e ⊢
   obtain⟨u,h1,h2⟩:=b.val j y' d' e;exact⟨u,h1,h2.aR (sub _)⟩
 ·by_cases aE:i=j
  ·subst aE;obtain⟨e',hl⟩:=a5 e;cases e'
  ·rw[aZ aE]at e ⊢
   rw[bq aE];exact b.ow j d' e
 ·by_cases aE:i=j
  ·subst aE;obtain⟨e',hl⟩:=a5 e;cases e'
  ·rw[aZ aE]at e ⊢
   rw[bq aE];exact b.pR j ok e
 ·by_cases aE:i=j
  ·rw[aE,os_eq];exact V_
  ·rw[bq aE];exact b.mB j
 ·by_cases aE:i=j
  ·subst aE;obtain⟨e',hl⟩:=a5 e;cases e'
  ·rw[aZ aE]at e ⊢
   rw[bq aE];obtain⟨u,h1,h2,h3⟩:=b.shl j y' d' e;exact⟨u,h1,h2.map (λ_ _ _ z=>z) (λ_ _ r=>ai.aR (sub _) r),h3⟩
theorem bG.tU {i:Nat}{d:D}{v:V}{A:List Addr}(b:bG P w C σ H β own)(r:Own P w H d v A)(nd:A.Nodup)(nw:∀c∈A,C.H0 c=none/\¬ Wn own c/\C.U c):
  bG P w {C with U:=λ_=>False} (σ.set i (some v)) H (β.set i (some (.own d))) (aH own i A):=by
 have sub:∀y a,fY {C with U:=λ_=>False} (Wn (aH own i A)) (yk y) a->fY C (Wn own) (yk y) a:=λy a h=>by
  have q:∀a,Wn (aH own i A) a->Wn own a\/a∈A:=λa AG=>by
   obtain⟨j,q⟩:=AG
   by_cases aE:i=j
   ·rw[aE,os_eq]at q;exact .inr q
   ·rw[bq aE]at q;exact .inl ⟨j,q⟩
  have q':∀a,Wn (aH own i A) a->Wn own a\/C.U a:=λa z=>(q a z).imp id λz=>(nw a z).2.2;rcases h with h|h
  ·cases y with
   |true=>exact h.elim (λz=>(q' a z).imp .inl id) λz=>.inl (.inr z)
   |false=>exact q' a h
  ·exact h.elim
 have mem:∀{j c},c∈aH own i A j->(i=j/\c∈A)\/(i≠j/\c∈own j):=λ{j c} h=>by
  by_cases aE:i=j
  ·subst aE;rw[os_eq]at h;exact .inl ⟨rfl,h⟩
  ·rw[bq aE]at h;exact .inr ⟨aE,h⟩
 refine⟨by simp[b.len],λj y' d' e=>?_,λj d' e=>?_,λj ok e=>?_,λj a h=>?_,λj k a h1 h2=>?_,λj=>?_,b.kp,b.hJ,λj y' d' e=>?_⟩
 ·by_cases aE:i=j
  ·subst aE;obtain⟨e',hl⟩:=a5 e;cases e'
  ·rw[aZ aE]at e ⊢
   obtain⟨u,h1,h2⟩:=b.val j y' d' e;exact⟨u,h1,h2.aR (sub _)⟩
 ·by_cases aE:i=j
  ·subst aE;obtain⟨e',hl⟩:=a5 e;cases e';rw[os_eq];exact⟨v,get_set (by rw[<- b.len];exact hl),r,λc hc=>(nw c hc).1⟩
  ·rw[aZ aE]at e ⊢
   rw[bq aE];exact b.ow j d' e
 ·by_cases aE:i=j
  ·subst aE;obtain⟨e',hl⟩:=a5 e;cases e'
  ·rw[aZ aE]at e ⊢
   rw[bq aE];exact b.pR j ok e
 ·rcases mem h with⟨_,h⟩|⟨_,h⟩
  ·exact⟨(r.mE a h).1,(r.mE a h).2,.inl (nw a h).1,λz=>z⟩
  ·exact⟨(b.dm j a h).1,(b.dm j a h).2.1,(b.dm j a h).2.2.1,λz=>z⟩
 ·rcases mem h1 with⟨e1,h1⟩|⟨n1,h1⟩
  ·rcases mem h2 with⟨e2,h2⟩|⟨n2,h2⟩
   ·rw[<- e1,<- e2]
   ·exact absurd ⟨k,h2⟩ (nw a h1).2.1
  ·rcases mem h2 with⟨e2,h2⟩|⟨n2,h2⟩
   ·exact absurd ⟨j,h1⟩ (nw a h2).2.1
   ·exact b.jo j k a h1 h2
 ·by_cases aE:i=j
  ·rw[<- aE,os_eq];exact nd
  ·rw[bq aE];exact b.mB j
 ·by_cases aE:i=j
  ·subst aE;obtain⟨e',hl⟩:=a5 e;cases e'
  ·rw[aZ aE]at e ⊢
   rw[bq aE];obtain⟨u,h1,h2,h3⟩:=b.shl j y' d' e;exact⟨u,h1,h2.map (λ_ _ _ z=>z) (λ_ _ r=>ai.aR (sub _) r),h3⟩
theorem bG.freeze {i:Nat}{d:D}(b:bG P w C σ H β own)(h:β[i]?=some (some (.own d))):bG P w C σ H (β.set i (some (.val true d))) (aH own i []):=by
 obtain⟨v,h1,h2,h3⟩:=b.ow i d h;have e:σ.set i (some v)=σ:=by
  apply WZ;intro j;rw[WX]
  by_cases aE:i=j
  ·subst aE;rw[if_pos rfl,h1];have:i<σ.length:=(UY.mp h1).1;rw[if_pos this]
  ·rw[if_neg aE]
 have q:=bG.dD (i:=i) (d:=d) (v:=v) (y:=true) (own:=aH own i []) (C:=C) (P:=P) (w:=w) (σ:=σ) (H:=H) (β:=β.set i none);have b':bG P w C σ H (β.set i none) (aH own i []):=by
  have sub:∀y a,fY C (Wn (aH own i [])) (yk y) a->fY C (Wn own) (yk y) a:=λy=>gL (λa h=>dB h) _;refine⟨by simp[b.len],λj y' d' e=>?_,λj d' e=>?_,λj ok e=>?_,λj a h=>b.dm j a (bK h).1,λj k a h1 h2=>b.jo j k a (bK h1).1 (bK h2).1,λj=>?_,b.kp,b.hJ,λj y' d' e=>?_⟩
  ·by_cases aE:i=j
   ·subst aE;obtain⟨e',hl⟩:=a5 e;cases e'
   ·rw[aZ aE]at e;obtain⟨u,h1,h2⟩:=b.val j y' d' e;exact⟨u,h1,h2.aR (sub _)⟩
  ·by_cases aE:i=j
   ·subst aE;obtain⟨e',hl⟩:=a5 e;cases e'
   ·rw[aZ aE]at e;rw[bq aE];exact b.ow j d' e
  ·by_cases aE:i=j
   ·subst aE;obtain⟨e',hl⟩:=a5 e;cases e'
   ·rw[aZ aE]at e;rw[bq aE];exact b.pR j ok e
  ·by_cases aE:i=j
   ·rw[aE,os_eq];exact V_
   ·rw[bq aE];exact b.mB j
  ·by_cases aE:i=j
   ·subst aE;obtain⟨e',hl⟩:=a5 e;cases e'
   ·rw[aZ aE]at e;rw[bq aE];obtain⟨u,h1,h2,h3⟩:=b.shl j y' d' e;exact⟨u,h1,h2.map (λ_ _ _ z=>z) (λ_ _ r=>ai.aR (sub _) r),h3⟩
 have q:=bG.dD (i:=i) (d:=d) (v:=v) (y:=true) b' (h2.rep λc hc z=>by
  rcases z with (z|z)|z
  ·obtain⟨j,hj⟩:=z;obtain⟨hj,ne⟩:=bK hj;exact ne (b.jo j i c hj hc)
  ·exact z (h3 c hc)
  ·exact(b.dm i c hc).2.2.2 z)
 rw[e,Xu]at q;have eo:aH (aH own i []) i []=aH own i []:=by
  funext j
  by_cases aE:i=j
  ·rw[<- aE,os_eq,os_eq]
  ·rw[bq aE,bq aE]
 rwa [eo]at q
abbrev Cfg.u (C:Cfg)(U:Addr->Prop):Cfg:={C with U:=U}
theorem bG.kY {U:Addr->Prop}(b:bG P w C σ H β own)(hU:∀a,U a->H a=none):bG P w (C.u U) σ H β own :=
 ⟨b.len,λi y d e=>let ⟨v,h1,h2⟩:=b.val i y d e;⟨v,h1,ay.grow (λa z=>z.elim (λz=>.inl (.inl z)) λz=>.inr (hU a z)) h2⟩,b.ow,b.pR,λi a h=>let ⟨h1,h2,h3,_⟩:=b.dm i a h;⟨h1,h2,h3,λz=>h1 (hU a z)⟩,b.jo,b.mB,b.kp,b.hJ,λi y d e=>let ⟨v,h1,h2,h3⟩:=b.shl i y d e;⟨v,h1,h2.map (λ_ _ _ z=>z) (λ_ _ r=>ai.grow (λa z=>z.elim (λz=>.inl (.inl z)) λz=>.inr (hU a z)) r),h3⟩⟩
theorem bG.R7 {U:Addr->Prop}(b:bG P w (C.u U) σ H β own):bG P w (C.u λ_=>False) σ H β own :=
 ⟨b.len,λi y d e=>let ⟨v,h1,h2⟩:=b.val i y d e;⟨v,h1,ay.aR (λa z=>z.elim .inl λz=>z.elim) h2⟩,b.ow,b.pR,λi a h=>let ⟨h1,h2,h3,_⟩:=b.dm i a h;⟨h1,h2,h3,λz=>z⟩,b.jo,b.mB,b.kp,b.hJ,λi y d e=>let ⟨v,h1,h2,h3⟩:=b.shl i y d e;⟨v,h1,h2.map (λ_ _ _ z=>z) (λ_ _ r=>ai.aR (λa z=>z.elim .inl λz=>z.elim) r),h3⟩⟩
theorem bG.Fm {i:Nat}{y:Bool}{d:D}(b:bG P w C σ H β own)(e:β[i]?=some (some (.val y d))):∃v,σ[i]?=some (some v)/\ay P w (av C (Wn own) (yk y)) H d v:=let ⟨v,h1,h2⟩:=b.val i y d e;⟨v,h1,ay.aR (λa z=>.inl z) h2⟩
end
def KV (P:UX)(w:Vb)(C:Cfg)(Z:Hp×(Addr->Prop))(own:Nat->List Addr)(H:Hp):Kd->D->V->Prop
 |.own,d,v=>∃A,Own P w H d v A/\A.Nodup/\∀c∈A,Z.1 c=none/\¬ Wn own c/\C.H0 c=none
 |.dy,d,v=>ay P w (av C (Wn own) .dy) H d v
 |.old,d,v=>ay P w (av C (Wn own) .old) H d v
 |.bor,d,v=>ay P w (av C (Wn own) .bor) H d v
structure P4 (P:UX)(w:Vb)(C:Cfg)(σ:St)(H:Hp)(own:Nat->List Addr)(p:Bool)(β':a_)(H':Hp)(aQ:Nat->List Addr):Prop where
 sq:bG P w C σ H' β' aQ
 sn:Sn (H,Wn own) H' (Wn aQ)
 pu:p=true->au H H'/\aQ=own
 le:∀a,Wn aQ a->Wn own a
abbrev Out (X:Cx):=P4 X.prog X.w
section
variable {X:Cx}{C:Cfg}{σ:St}{H H1 H2 H':Hp}{own aA bc:Nat->List Addr}{p p':Bool}{β β1 β2 β':a_}{Z:Hp×(Addr->Prop)}{d:D}{v:V}{k:Kd}{P:UX}{w:Vb}
theorem Out.refl (s:SQ X C σ H β own)(p:Bool):Out X C σ H own p β H own:=⟨s,Sn.refl,λ_=>⟨au.refl _,rfl⟩,λ_ z=>z⟩
theorem Out.trans (a:Out X C σ H own p β1 H1 aA)(b:Out X C σ H1 aA p' β2 H2 bc):Out X C σ H own (p&&p') β2 H2 bc:=⟨b.sq,a.sn.trans b.sn,λh=>by
 rw[VT]at h;obtain⟨s1,e1⟩:=a.pu h.1;obtain⟨s2,e2⟩:=b.pu h.2;exact⟨s1.trans s2,e2.trans e1⟩,λc z=>a.le c (b.le c z)⟩
theorem Out.same (a:Out X C σ H own p β1 H1 aA)(s:au H1 H2):Out X C σ H own p β1 H2 aA:=⟨a.sq.same s,a.sn.same s,λh=>let ⟨s1,e1⟩:=a.pu h;⟨s1.trans s,e1⟩,a.le⟩
theorem Out.wk (a:Out X C σ H own p β1 H1 aA)(h:p'=true->p=true):Out X C σ H own p' β1 H1 aA:=⟨a.sq,a.sn,λz=>a.pu (h z),a.le⟩
theorem Out.Rx {q:Bool}(a:Out X C σ H own p β1 H1 aA)(b:Out X C σ H1 aA p' β2 H2 bc)(h:q=true->p=true/\p'=true):Out X C σ H own q β2 H2 bc:=(a.trans b).wk λz=>by rw[(h z).1,(h z).2];rfl
theorem KV.rep (h:KV P w C Z own H k d v):ay P w (av C (Wn own) k) H d v:=by
 cases k with
 |own=>obtain⟨A,h1,h2,h3⟩:=h;exact h1.rep λc hc z=>z.elim (h3 c hc).2.1 λz=>z (h3 c hc).2.2
 |_=>exact h
theorem KV.dy (h:KV P w C Z own H .own d v):KV P w C Z own H .dy d v:=KV.rep (k:=.own) h
theorem KV.flat {W:Addr->Prop}(f:d.flat=true)(h:ay P w W H d v):KV P w C Z own H .own d v:=⟨[],e7 f h,V_,λc hc=>(nomatch hc)⟩
abbrev Kd.wk:Kd->Kd
 |.own=>.dy
 |.dy=>.dy
 |.old=>.old
 |.bor=>.bor
abbrev Kd.max:Kd->Kd->Kd
 |.bor,_=>.bor
 |_,.bor=>.bor
 |.old,_=>.old
 |_,.old=>.old
 |_,_=>.dy
theorem cY {W:Addr->Prop}{a b:Kd}:∀c,av C W (a.max b) c->av C W a c:=λc h=>by
 cases a <;> cases b <;> first|exact h|exact h.elim|exact .inl h
theorem fX {W:Addr->Prop}{a b:Kd}:∀c,av C W (a.max b) c->av C W b c:=λc h=>by
 cases a <;> cases b <;> first|exact h|exact h.elim|exact .inl h
theorem KV.of (h:ay P w (av C (Wn own) k.wk) H d v):KV P w C Z own H k.wk d v:=by
 cases k <;> exact h
theorem KV.Ji (h:KV P w C Z own H k d v)(s:au H H'):KV P w C Z own H' k d v:=by
 cases k with
 |own=>obtain⟨A,h1,h2⟩:=h;exact⟨A,h1.keep (λb xs e=>s _ _ e) (λc _ o e=>s c o e),h2⟩
 |dy=>exact ay.same s h
 |old=>exact ay.same s h
 |bor=>exact ay.same s h
theorem KV.held (hk:k≠.bor)(h:KV P w C Z own H k d v)(n:Sn (H,Wn own) H2 (Wn bc)):KV P w C Z bc H2 k d v:=by
 cases k with
 |own =>
  obtain⟨A,h1,h2,h3⟩:=h;refine⟨A,h1.keep n.k.tup (λc hc o e=>n.k.out c o e λz=>z.elim (h3 c hc).2.1 λz=>(h1.mE c hc).1 z),h2,λc hc=>⟨(h3 c hc).1,λz=>(n.w c z).elim (h3 c hc).2.1 λz=>(h1.mE c hc).1 z,(h3 c hc).2.2⟩⟩
 |dy =>
  have g:ay P w (λa=>av C (Wn own) .dy a\/H a=none) H d v:=ay.grow (λb z=>z) h;exact ay.aR (λb z=>z.elim (λz=>(n.w b z).imp .inl id) λz=>.inl (.inr z)) (ay.keep (n.k.mono λb z=>z.imp .inl id) g)
 |old=>exact held (W:=Wn own) h n
 |bor=>exact absurd rfl hk
theorem KV.Lv (h:KV P w C Z own H k d v)(s:au H H2)(e:bc=own):KV P w C Z bc H2 k d v:=by rw[e];exact h.Ji s
abbrev hold (k:Kd)(p:Bool):Prop:=match k,p with
 |.bor,false=>False
 |_,_=>True
theorem KV.ho (h:KV P w C Z own H k d v)(o:Out X C σ H own p β' H2 bc)(hh:hold k p):KV P w C Z bc H2 k d v:=by
 cases p with
 |true=>obtain⟨s,e⟩:=o.pu rfl;exact h.Lv s e
 |false=>exact h.held (by rintro rfl;exact hh) o.sn
theorem KV.later (h:KV P w C (H1,Wn aA) own H k d v)(n:Sn Z H1 (Wn aA)):KV P w C Z own H k d v:=by
 cases k with
 |own=>obtain⟨A,h1,h2,h3⟩:=h;exact⟨A,h1,h2,λc hc=>⟨n.free (h3 c hc).1,(h3 c hc).2⟩⟩
 |_=>exact h
end
abbrev aX:=a_->(D->Kd->a_->Prop)->Prop
abbrev ba:=a_->(Bool->a_->Prop)->Prop
abbrev b_:=a_->(List D->List Kd->a_->Prop)->Prop
def tQ (X:Cx)(C:Cfg)(p:Bool)(φ:aX):TE:=λσ H Q=>∃β own,SQ X C σ H β own/\φ β λd k β'=>∀v H' aQ,Out X C σ H own p β' H' aQ->KV X.prog X.w C (H,Wn own) aQ H' k d v->Q v H'
def j0 (X:Cx)(C:Cfg)(p:Bool)(φ:ba):TT:=λσ H Q=>∃β own,SQ X C σ H β own/\φ β λb β'=>∀H' aQ,Out X C σ H own p β' H' aQ->Q b H'
def KF (P:UX)(w:Vb)(C:Cfg)(own:Nat->List Addr)(H:Hp):List Kd->List D->List V->List Addr->Prop
 |[],ds,vs,A=>ds=[]/\vs=[]/\A=[]
 |k::ks,ds,vs,A=>∃d dr v vr A1 A2,ds=d::dr/\vs=v::vr/\A=A1++A2/\(match k with | .own=>Own P w H d v A1|k=>A1=[]/\ay P w (av C (Wn own) k) H d v)/\KF P w C own H ks dr vr A2
def s9 (P:UX)(w:Vb)(C:Cfg)(Z:Hp×(Addr->Prop))(own:Nat->List Addr)(H:Hp)(ks:List Kd)(ds:List D)(vs:List V):Prop :=
 ∃A,KF P w C own H ks ds vs A/\A.Nodup/\∀c∈A,Z.1 c=none/\¬ Wn own c/\C.H0 c=none
def tf (X:Cx)(C:Cfg)(p:Bool)(φ:b_):TA:=λσ H Q=>∃β own,SQ X C σ H β own/\φ β λds ks β'=>∀vs H' aQ,Out X C σ H own p β' H' aQ->s9 X.prog X.w C (H,Wn own) aQ H' ks ds vs->Q vs H'
section
variable {C:Cfg}{H H1:Hp}{own aA:Nat->List Addr}{Z:Hp×(Addr->Prop)}{d:D}{v:V}{k:Kd}{P:UX}{w:Vb}{ks:List Kd}{ds:List D}{vs:List V}
theorem s9.nil:s9 P w C Z own H [] [] []:=⟨[],⟨rfl,rfl,rfl⟩,V_,λc hc=>(nomatch hc)⟩
theorem KF.mE:∀{ks:List Kd} {ds:List D} {vs:List V} {A:List Addr},KF P w C own H ks ds vs A->∀c∈A,H c≠none
 |[],_,_,_,⟨_,_,e⟩,c,hc=>by rw[e]at hc;cases hc
 |k::ks,_,_,_,⟨d,dr,v,vr,A1,A2,rfl,rfl,rfl,h1,h2⟩,c,hc=>by
  rcases Vp.mp hc with hc|hc
  ·cases k with
   |own=>exact(Own.mE h1 c hc).1
   |_=>rw[h1.1]at hc;cases hc
  ·exact KF.mE h2 c hc
theorem s9.cons (h1:KV P w C Z aA H1 k d v)(n:Sn (H1,Wn aA) H (Wn own))(xV:KV P w C Z own H k d v)(h2:s9 P w C (H1,Wn aA) own H ks ds vs)(n0:Sn Z H1 (Wn aA)):s9 P w C Z own H (k::ks) (d::ds) (v::vs):=by
 obtain⟨A2,f2,CZ,q2⟩:=h2;have z2:∀c∈A2,Z.1 c=none/\¬ Wn own c/\C.H0 c=none:=λc hc=>⟨n0.free (q2 c hc).1,(q2 c hc).2⟩;cases k with
 |own =>
  obtain⟨A1,o1,Io,q1⟩:=h1;obtain⟨UQ,Ut,R_,Qq⟩:=(show KV P w C Z own H .own d v from KV.held (k:=.own) (λz=>(nomatch z)) (⟨A1,o1,Io,q1⟩:KV P w C Z aA H1 .own d v) n)
  have NU:Own P w H d v A1:=o1.keep n.k.tup (λc hc o e=>n.k.out c o e λz=>z.elim (q1 c hc).2.1 λz=>(o1.mE c hc).1 z);refine⟨A1++A2,⟨d,ds,v,vs,A1,A2,rfl,rfl,rfl,NU,f2⟩,V0.mpr ⟨Io,CZ,λa ha b hb e=>?_⟩,λc hc=>?_⟩
  ·subst e;exact(o1.mE a ha).1 (q2 a hb).1
  ·rcases Vp.mp hc with hc|hc
   ·exact⟨(q1 c hc).1,λz=>(n.w c z).elim (q1 c hc).2.1 λz=>(o1.mE c hc).1 z,(q1 c hc).2.2⟩
   ·exact z2 c hc
 |dy=>exact⟨A2,⟨d,ds,v,vs,[],A2,rfl,rfl,rfl,⟨rfl,xV⟩,f2⟩,CZ,z2⟩
 |old=>exact⟨A2,⟨d,ds,v,vs,[],A2,rfl,rfl,rfl,⟨rfl,xV⟩,f2⟩,CZ,z2⟩
 |bor=>exact⟨A2,⟨d,ds,v,vs,[],A2,rfl,rfl,rfl,⟨rfl,xV⟩,f2⟩,CZ,z2⟩
abbrev g9:List Kd->Kd
 |[]=>.dy
 |k::ks=>Kd.max k (g9 ks)
theorem KF.ip:∀{ks:List Kd} {ds:List D} {vs:List V} {A:List Addr},KF P w C own H ks ds vs A->(∀c∈A,¬ Wn own c/\C.H0 c=none)->ai P w (av C (Wn own) (g9 ks)) H ds vs
 |[],_,_,_,⟨e1,e2,e⟩,_=>by rw[e1,e2];rfl
 |k::ks,_,_,_,⟨d,dr,v,vr,A1,A2,rfl,rfl,rfl,h1,h2⟩,hA=>by
  refine⟨v,vr,rfl,?_,ai.aR fX (KF.ip h2 λc hc=>hA c (Vy _ hc))⟩;cases k with
  |own=>exact ay.aR cY (Own.rep (W:=av C (Wn own) .own) (λc hc z=>z.elim (hA c (WD _ hc)).1 λz=>z (hA c (WD _ hc)).2) h1)
  |dy=>exact ay.aR (cY (a:=.dy)) h1.2
  |old=>exact ay.aR (cY (a:=.old)) h1.2
  |bor=>exact ay.aR (cY (a:=.bor)) h1.2
theorem s9.ip (h:s9 P w C Z own H ks ds vs):ai P w (av C (Wn own) (g9 ks)) H ds vs:=let ⟨A,h1,_,h3⟩:=h;h1.ip λc hc=>(h3 c hc).2
theorem s9.bor (h:s9 P w C Z own H ks ds vs):ai P w (λ_=>False) H ds vs:=ai.aR (λ_ z=>z.elim) h.ip
def wJ:List Kd->List D->Prop
 |k::ks,d::ds=>(match k with | .own=>True|_=>d.flat=true)/\wJ ks ds
 |_,_=>True
theorem KF.F7:∀{ks:List Kd} {ds:List D} {vs:List V} {A:List Addr},KF P w C own H ks ds vs A->wJ ks ds->aN P w H ds vs A
 |[],_,_,_,⟨e1,e2,e⟩,_=>by rw[e1,e2,e];exact⟨rfl,rfl⟩
 |k::ks,_,_,_,⟨d,dr,v,vr,A1,A2,rfl,rfl,rfl,h1,h2⟩,⟨f1,f2⟩=>by
  refine⟨v,vr,A1,A2,rfl,rfl,?_,KF.F7 h2 f2⟩;cases k with
  |own=>exact h1
  |dy=>rw[h1.1];exact e7 f1 h1.2
  |old=>rw[h1.1];exact e7 f1 h1.2
  |bor=>rw[h1.1];exact e7 f1 h1.2
theorem je:∀{ks:List Kd},(g9 ks).wk=g9 ks
 |[]=>rfl
 |k::ks=>by cases k <;> cases h:g9 ks <;> simp[g9,Kd.max,h]
def Ar (ks:List Kd)(ds:List D)(K:Kd->Prop):Prop:=match ks.all (λk=>match k with | .own=>true|_=>false)with
 |true=>K .own
 |false=>(wJ ks ds/\K .own)\/K (g9 ks)
theorem Ar.mono {ks:List Kd}{ds:List D}{K K':Kd->Prop}(k:∀x,K x->K' x)(h:Ar ks ds K):Ar ks ds K':=by
 unfold Ar at *
 split
 ·next e=>rw[e]at h;exact k _ h
 ·next e=>rw[e]at h;exact h.imp (λz=>⟨z.1,k _ z.2⟩) (k _)
theorem Ar.of {ks:List Kd}{ds:List D}{K:Kd->Prop}(h:Ar ks ds K):(wJ ks ds/\K .own)\/K (g9 ks):=by
 unfold Ar at h
 split at h
 ·next e =>
  refine .inl ⟨?_,h⟩
  clear h
  induction ks generalizing ds with
  |nil=>cases ds <;> trivial
  |cons k ks ih =>
   cases ds with
   |nil=>trivial
   |cons d ds =>
    rw[List.all_cons,VT]at e;refine⟨?_,ih e.2⟩;have e1:=e.1;cases k <;> first|trivial|cases e1
 ·exact h
end
structure PQ (X:Cx)(C:Cfg)(p:Bool)(e:Expr)(φ:aX):Prop where
 mono:∀β R R',(∀d k β,R d k β->R' d k β)->φ β R->φ β R'
 pe:PE X e (tQ X C p φ)
structure tE (X:Cx)(C:Cfg)(p:Bool)(e:Expr)(φ:ba):Prop where
 mono:∀β R R',(∀d β,R d β->R' d β)->φ β R->φ β R'
 pt:PT X e (j0 X C p φ)
structure m9 (X:Cx)(C:Cfg)(p:Bool)(e:Expr)(φ:ba):Prop where
 mono:∀β R R',(∀d β,R d β->R' d β)->φ β R->φ β R'
 pw:PW X e (j0 X C p φ)
structure qo (X:Cx)(C:Cfg)(p:Bool)(es:List Expr)(φ:b_):Prop where
 mono:∀β R R',(∀d k β,R d k β->R' d k β)->φ β R->φ β R'
 pa:PA X es (tf X C p φ)
section
variable {X:Cx}{C:Cfg}{a b c e:Expr}{es:List Expr}{φ φa φb:aX}{τ τa τb:ba}{φs:b_}{pos:Pos}{σ:St}{H H':Hp}{β:a_}{own:Nat->List Addr}{p p':Bool}
theorem tQ.of (h:PQ X C p e φ)(s:SQ X C σ H β own){R:D->Kd->a_->Prop}{Q:VK}(hr:φ β R)(k:∀d kd β' v H' aQ,R d kd β'->Out X C σ H own p β' H' aQ->KV X.prog X.w C (H,Wn own) aQ H' kd d v->Q v H'):tQ X C p φ σ H Q :=
 ⟨β,own,s,h.mono β _ _ (λd kd β' hd v H' aQ o r=>k d kd β' v H' aQ hd o r) hr⟩
theorem j0.of (h:tE X C p e τ)(s:SQ X C σ H β own){R:Bool->a_->Prop}{Q:Bool->Hp->Prop}(hr:τ β R)(k:∀t β' H' aQ,R t β'->Out X C σ H own p β' H' aQ->Q t H'):j0 X C p τ σ H Q :=
 ⟨β,own,s,h.mono β _ _ (λt β' hd H' aQ o=>k t β' H' aQ hd o) hr⟩
theorem tf.of (h:qo X C p es φs)(s:SQ X C σ H β own){R:List D->List Kd->a_->Prop}{Q:List V->Hp->Prop}(hr:φs β R)(k:∀ds ks β' vs H' aQ,R ds ks β'->Out X C σ H own p β' H' aQ->s9 X.prog X.w C (H,Wn own) aQ H' ks ds vs->Q vs H'):tf X C p φs σ H Q :=
 ⟨β,own,s,h.mono β _ _ (λd kd β' hd v H' aQ o r=>k d kd β' v H' aQ hd o r) hr⟩
theorem m9.t (h:m9 X C p e τ):tE X C p e τ:=⟨h.mono,h.pw.pt⟩
abbrev vk (y:Bool):D->Kd
 |.int _=>.own
 |.bl _=>.own
 |.bH=>.own
 |.str _=>.own
 |_=>yk y
def qB:B->(D->Kd->Prop)->Prop
 |.val y d,K=>K d (vk y d)
 |.own d,K=>K d .bor
 |.hand _,_=>False
 |.shl _ _,_=>False
def zj (i:Nat):aX:=λβ R=>∃b,β[i]?=some (some b)/\qB b λd k=>R d k β
theorem GL {P:UX}{w:Vb}{Z:Hp×(Addr->Prop)}{y:Bool}{d:D}{v:V}(h:ay P w (av C (Wn own) (yk y)) H d v):KV P w C Z own H (vk y d) d v:=by
 cases d with
 |int i=>exact KV.flat rfl h
 |bl i=>exact KV.flat rfl h
 |bH=>exact KV.flat rfl h
 |str i=>exact KV.flat rfl h
 |_=>cases y <;> exact h
theorem ab {i:Nat}{x:Str}(hN:X.N[i]?=some x:=by rfl)(hv:sR X.env.scope x:=by first|exact .inl rfl|exact .inr (.inl rfl)|exact .inr (.inr rfl))(hd:(x==("__debug__" : Str))=false:=by decide)(gm:(x==("__classdict__" : Str))=false:=by decide):
  PQ X C true (.Name x pos) (zj i):=⟨λβ R R' k AG=>by obtain⟨b,e,h⟩:=AG;exact⟨b,e,by cases b <;> first|exact k _ _ _ h|exact h⟩,(cR hN hv hd gm).pre λσ H Q Dh=>by
 obtain⟨β,own,s,b,e,q⟩:=Dh;cases b with
 |val y d=>obtain⟨v,h1,h2⟩:=s.Fm e;exact⟨v,h1,q v H own (Out.refl s _) (GL h2)⟩
 |own d=>obtain⟨v,h1,h2,h3⟩:=s.ow i d e;exact⟨v,h1,q v H own (Out.refl s _) (h2.rep λ_ _ z=>z)⟩
 |hand ok=>exact q.elim
 |shl _ _=>exact q.elim⟩
def qC (d:D):aX:=λβ R=>R d .own β
theorem ah {i j}:PQ X C true (.Constant (.int i) j pos) (qC (.int i)):=⟨λρ R R' k h=>k _ _ _ h,aT.pre λσ H Q Kj=>by obtain⟨β,own,s,q⟩:=Kj;exact q _ H own (Out.refl s _) (KV.flat (W:=λ_=>False) rfl rfl)⟩
theorem lF {b j}:PQ X C true (.Constant (.bool b) j pos) (qC (.bl b)):=⟨λρ R R' k h=>k _ _ _ h,zN.pre λσ H Q SK=>by obtain⟨β,own,s,q⟩:=SK;exact q _ H own (Out.refl s _) (KV.flat (W:=λ_=>False) rfl rfl)⟩
theorem cH {j}:PQ X C true (.Constant .none j pos) (qC .bH):=⟨λρ R R' k h=>k _ _ _ h,F4.pre λσ H Q AD=>by obtain⟨β,own,s,q⟩:=AD;exact q _ H own (Out.refl s _) (KV.flat (W:=λ_=>False) rfl rfl)⟩
theorem pB {x j}:PQ X C true (.Constant (.str x) j pos) (qC (.str x)):=⟨λρ R R' k h=>k _ _ _ h,F1.pre λσ H Q AB=>by obtain⟨β,own,s,q⟩:=AB;exact q _ H own (Out.refl s _) (KV.flat (W:=λ_=>False) rfl rfl)⟩
def Cc (X:Cx)(f:D->D->Option D)(N:D->Prop):R2:=λx y H Q=>∃W d1 d2 d,Dm W H/\Rp X W H d1 x/\Rp X W H d2 y/\f d1 d2=some d/\∀v H',au H H'->Rp X W H' d v->(N d->Rp X (λa=>H a≠none) H' d v)->Q v H'
abbrev MX (X:Cx)(f:UR->UR->Sem UR)(g:D->D->Option D)(N:D->Prop):Prop:=hX X f (Cc X g N)
theorem bR.m {f:UR->UR->Sem UR}{g:D->D->Option D}(h:bR X f g):MX X f g NF:=λpins s σ H x y v u Q I rx ry ⟨W,d1,d2,d,hd,r1,r2,e,q⟩ =>
 h pins s σ H x y v u Q I rx ry ⟨W,d1,d2,d,hd,r1,r2,e,λv H' s r=>q v H' s r λf=>ay.flat f r⟩
def kN (N:D->Prop)(d:D)(k:Kd)(K:Kd->Prop):Prop:=match d with
 |.int _=>K .own
 |.bl _=>K .own
 |.bH=>K .own
 |.str _=>K .own
 |.tup _=>K k
 |_=>(N d/\K .own)\/K k
theorem kN.mono {N:D->Prop}{d:D}{k:Kd}{K K':Kd->Prop}(h:∀x,K x->K' x)(q:kN N d k K):kN N d k K':=by
 cases d <;> first|exact h _ q|exact q.imp (λz=>⟨z.1,h _ z.2⟩) (h _)
theorem i9 {P:UX}{w:Vb}{Z:Hp×(Addr->Prop)}{d:D}{v:V}(hd:Dm (Wn own) H)(h0:∀a,C.H0 a≠none->H a≠none)(hz:∀a,Z.1 a≠none->H a≠none)(f:NL d)(r:ay P w (λa=>H a≠none) H' d v):KV P w C Z own H' .own d v:=by
 have nn:∀{a:Addr},¬ (H a≠none)->H a=none:=λ{a} h=>VB λz=>h z;have cl:∀{a:Addr},H a=none->Z.1 a=none/\¬ Wn own a/\C.H0 a=none:=λ{a} h=>⟨VB λz=>hz a z h,λz=>hd a z h,VB λz=>h0 a z h⟩;cases d with
 |lst ds =>
  obtain⟨a,vs,rfl,e,n,q⟩:=r;exact⟨[a],⟨a,vs,[],rfl,e,rfl,jH f q⟩,by simp,λc hc=>by rw[U8.mp hc];exact cl (nn n)⟩
 |_=>exact KV.flat f r
theorem KV.kN {N:D->Prop}{P:UX}{w:Vb}{Z:Hp×(Addr->Prop)}{d:D}{v:V}{k:Kd}{K:Kd->Prop}(hk:k.wk=k)(r:ay P w (av C (Wn own) k) H' d v)(ro:N d->KV P w C Z own H' .own d v)(q:kN N d k K):∃k',K k'/\KV P w C Z own H' k' d v:=by
 have rk:KV P w C Z own H' k d v:=by rw[<- hk];exact KV.of (by rw[hk];exact r)
 cases d with
 |int i=>exact⟨_,q,KV.flat rfl r⟩
 |bl i=>exact⟨_,q,KV.flat rfl r⟩
 |bH=>exact⟨_,q,KV.flat rfl r⟩
 |str i=>exact⟨_,q,KV.flat rfl r⟩
 |tup ds=>exact⟨_,q,rk⟩
 |_=>exact q.elim (λz=>⟨_,z.2,ro z.1⟩) λz=>⟨_,z,rk⟩
structure BJ (N:D->Prop):Prop where
 nl:∀d,N d->NL d
theorem aU:BJ NL:=⟨λ_ h=>h⟩
theorem af:BJ NF:=⟨λd h=>by cases d <;> first|exact h|cases h⟩
theorem Es {a b:Kd}:(a.max b).wk=a.max b:=by cases a <;> cases b <;> rfl
def yx (g:D->D->Option D)(N:D->Prop)(pb:Bool)(φa φb:aX):aX:=λβ R=>φa β λx ka β1=>hold ka pb/\φb β1 λy kb β2=>∃d,g x y=some d/\kN N d (ka.max kb) λk=>R d k β2
variable {g:D->D->Option D}{N:D->Prop}
theorem yx.mono (ha:PQ X C p a φa)(hb:PQ X C p' b φb):∀β R R',(∀d k β,R d k β->R' d k β)->yx g N p' φa φb β R->yx g N p' φa φb β R':=λβ R R' k h =>
 ha.mono β _ _ (λx ka β1 hx=>⟨hx.1,hb.mono β1 _ _ (λy kb β2 AJ=>by obtain⟨d,e,q⟩:=AJ;exact⟨d,e,q.mono λ_ z=>k _ _ _ z⟩) hx.2⟩) h
theorem tY (hn:BJ N)(ha:PQ X C p a φa)(hb:PQ X C p' b φb):∀σ H Q,tQ X C (p&&p') (yx g N p' φa φb) σ H Q->IW (Cc X g N) (tQ X C p φa) (tQ X C p' φb) σ H Q:=λσ H Q ⟨β,own,s,h⟩ =>
 tQ.of ha s h λd1 k1 β1 v1 H1 aA ⟨hh,h1⟩ o1 r1=>tQ.of hb o1.sq h1 λd2 k2 β2 v2 H2 bc AI o2 r2=>by
  obtain⟨d,e,q⟩:=AI;have Mu:=r1.ho o2 hh;refine⟨av C (Wn bc) (k1.max k2),d1,d2,d,o2.sq.Bd _,ay.aR cY Mu.rep,ay.aR fX r2.rep,e,λv H' s3 r3 n3=>?_⟩;have o:=(o1.trans o2).same s3;obtain⟨k,q,r⟩:=KV.kN (Z:=(H,Wn own)) Es r3 (λn=>i9 (H:=H2) o2.sq.uM o2.sq.hJ (λa z=>o2.sn.d a (o1.sn.d a z)) (hn.nl _ n) (n3 n)) q;exact q v H' bc o r
theorem a3 {op:Y_}(hn:BJ N)(ho:MX X (WI op) g N)(ha:PQ X C p a φa)(hb:PQ X C p' b φb):PQ X C (p&&p') (.BinOp a op b pos) (yx g N p' φa φb):=⟨yx.mono ha hb,(cj ho ha.pe hb.pe).pre (tY hn ha hb)⟩
theorem fH {op:Xy}(hn:BJ N)(ho:MX X (VD op) g N)(ha:PQ X C p a φa)(hb:PQ X C p' b φb)(hm:WS op b=false:=by first|exact rp _ (by decide) (by decide)|rfl):PQ X C (p&&p') (.Compare a [op] [b] pos) (yx g N p' φa φb) :=
 ⟨yx.mono ha hb,(Cu ho ha.pe hb.pe hm).pre (tY hn ha hb)⟩
theorem aK (hn:BJ N)(ho:Ie X (Cc X g N))(ha:PQ X C p a φa)(hb:PQ X C p' b φb)(hs:qe b:=by exact λ_ _=>rfl):PQ X C (p&&p') (.Subscript a b pos) (yx g N p' φa φb):=⟨yx.mono ha hb,(h8 ho ha.pe hb.pe hs).pre (tY hn ha hb)⟩
def zk (φ:aX):ba:=λβ R=>φ β λd k β'=>∃b,d=.bl b/\R b β'
theorem aI {op:Xy}(hn:BJ N)(ho:MX X (VD op) g N)(ha:PQ X C p a φa)(hb:PQ X C p' b φb)(hm:WS op b=false:=by first|exact rp _ (by decide) (by decide)|rfl):tE X C (p&&p') (.Compare a [op] [b] pos) (zk (yx g N p' φa φb)) :=
 ⟨λβ R R' k h=>yx.mono ha hb β _ _ (λd kd β AH=>by obtain⟨t,e,q⟩:=AH;exact⟨t,e,k _ _ q⟩) h,(pq ho ha.pe hb.pe hm).pre λσ H Q ⟨β,own,s,h⟩ =>
  tQ.of ha s h λd1 k1 β1 v1 H1 aA ⟨hh,h1⟩ o1 r1=>tQ.of hb o1.sq h1 λd2 k2 β2 v2 H2 bc Hi o2 r2=>by
   obtain⟨d,e,q⟩:=Hi;have Mu:=r1.ho o2 hh;refine⟨av C (Wn bc) (k1.max k2),d1,d2,d,o2.sq.Bd _,ay.aR cY Mu.rep,ay.aR fX r2.rep,e,λv H' s3 r3 n3=>?_⟩;obtain⟨k,⟨t,et,q'⟩,r⟩:=KV.kN (Z:=(H,Wn own)) Es r3 (λn=>i9 (H:=H2) o2.sq.uM o2.sq.hJ (λa z=>o2.sn.d a (o1.sn.d a z)) (hn.nl _ n) (n3 n)) q;subst et;cases r3;exact⟨t,rfl,q' H' bc ((o1.trans o2).same s3)⟩⟩
theorem bS (ha:PQ X C p a φa)(he:∀whole,YR a X.env whole=(do let v <- whole;Yv a.pos;holding [v] (truthy v)):=by intro _;rfl):tE X C p a (zk φa) :=
 ⟨λβ R R' k h=>ha.mono β _ _ (λd kd β' Hh=>by obtain⟨b,e,q⟩:=Hh;exact⟨b,e,k _ _ q⟩) h,(FU ha.pe he).pre λσ H Q ⟨β,own,s,h⟩=>tQ.of ha s h λd k β' v H1 aA Hf o1 r1=>by
  obtain⟨b,e,q⟩:=Hf;subst e;cases r1.rep;exact⟨b,rfl,q H1 aA o1⟩⟩
def Jr (τ:ba):ba:=λβ R=>τ β λb β'=>R (!b) β'
theorem cw (ha:tE X C p a τ):tE X C p (.UnaryOp .Not a pos) (Jr τ) :=
 ⟨λβ R R' k h=>ha.mono β _ _ (λb β' q=>k _ _ q) h,(FV ha.pt).pre λσ H Q He=>by obtain⟨β,own,s,h⟩:=He;exact j0.of ha s h λb β' H1 aA q o=>q H1 aA o⟩
variable {rest:List Expr}
def Jv (τa τb:ba):ba:=λβ R=>τa β λt β1=>if t=true then τb β1 R else R false β1
def NM (τa τb:ba):ba:=λβ R=>τa β λt β1=>if t=true then R true β1 else τb β1 R
theorem dQ (ha:tE X C p a τ):m9 X C p (.BoolOp .And [a] pos) τ:=⟨ha.mono,pw_and1 ha.pt⟩
theorem gU (ha:tE X C p a τ):m9 X C p (.BoolOp .Or [a] pos) τ:=⟨ha.mono,pw_or1 ha.pt⟩
theorem Bx {p q:Bool}(z:(p&&q)=true):p=true:=by cases p <;> first|rfl|cases z
theorem PU {p q:Bool}(z:(p&&q)=true):q=true:=by cases p <;> first|exact z|cases z
theorem fG (ha:tE X C p a τa)(hb:m9 X C p' (.BoolOp .And (b::rest) pos) τb):m9 X C (p&&p') (.BoolOp .And (a::b::rest) pos) (Jv τa τb) :=
 ⟨λβ R R' k h=>ha.mono β _ _ (λt β1 q=>by
   cases t
   ·exact k _ _ q
   ·exact hb.mono β1 _ _ k q) h,(pw_and ha.pt hb.pw).pre λσ H Q ⟨β,own,s,h⟩=>j0.of ha s h λt β1 H1 aA q o1=>by
  cases t
  ·exact q H1 aA (o1.wk Bx)
  ·exact j0.of hb.t o1.sq q λt' β2 H2 bc q2 o2=>q2 H2 bc (o1.trans o2)⟩
theorem iq (ha:tE X C p a τa)(hb:m9 X C p' (.BoolOp .Or (b::rest) pos) τb):m9 X C (p&&p') (.BoolOp .Or (a::b::rest) pos) (NM τa τb) :=
 ⟨λβ R R' k h=>ha.mono β _ _ (λt β1 q=>by
   cases t
   ·exact hb.mono β1 _ _ k q
   ·exact k _ _ q) h,(pw_or ha.pt hb.pw).pre λσ H Q ⟨β,own,s,h⟩=>j0.of ha s h λt β1 H1 aA q o1=>by
  cases t
  ·exact j0.of hb.t o1.sq q λt' β2 H2 bc q2 o2=>q2 H2 bc (o1.trans o2)
  ·exact q H1 aA (o1.wk Bx)⟩
def NQ (φa φb:aX):aX:=λβ R=>φa β λx _ β1=>∃c,x=.bl c/\if c=true then φb β1 R else R (.bl false) .own β1
def RZ (φa φb:aX):aX:=λβ R=>φa β λx _ β1=>∃c,x=.bl c/\if c=true then R (.bl true) .own β1 else φb β1 R
def NN (φa:aX):aX:=λβ R=>φa β λx _ β1=>∃c,x=.bl c/\R (.bl (!c)) .own β1
theorem jF {op}(h:PQ X C p a φ):PQ X C p (.BoolOp op [a] pos) φ:=⟨h.mono,F2 h.pe⟩
theorem vQ {P:UX}{w:Vb}{Z:Hp×(Addr->Prop)}{b:Bool}:KV P w C Z own H .own (.bl b) (.bl b):=KV.flat (W:=λ_=>False) rfl rfl
theorem pC (ha:PQ X C p a φa)(hb:PQ X C p' (.BoolOp .And (b::rest) pos) φb):PQ X C (p&&p') (.BoolOp .And (a::b::rest) pos) (NQ φa φb) :=
 ⟨λβ R R' k h=>ha.mono β _ _ (λd kd β1 ⟨c,e,q⟩=>⟨c,e,by
   cases c
   ·exact k _ _ _ q
   ·exact hb.mono β1 _ _ k q⟩) h,(F6 ha.pe hb.pe).pre λσ H Q ⟨β,own,s,h⟩=>tQ.of ha s h λd kd β1 v H1 aA Hc o1 r1=>by
  obtain⟨c,e,q⟩:=Hc;subst e;cases r1.rep;refine⟨c,rfl,?_⟩;cases c
  ·exact q _ H1 aA (o1.wk Bx) vQ
  ·exact tQ.of hb o1.sq q λd2 k2 β2 v2 H2 bc q2 o2 r2=>q2 v2 H2 bc (o1.trans o2) (r2.later o1.sn)⟩
theorem zH (ha:PQ X C p a φa)(hb:PQ X C p' (.BoolOp .Or (b::rest) pos) φb):PQ X C (p&&p') (.BoolOp .Or (a::b::rest) pos) (RZ φa φb) :=
 ⟨λβ R R' k h=>ha.mono β _ _ (λd kd β1 ⟨c,e,q⟩=>⟨c,e,by
   cases c
   ·exact hb.mono β1 _ _ k q
   ·exact k _ _ _ q⟩) h,(JA ha.pe hb.pe).pre λσ H Q ⟨β,own,s,h⟩=>tQ.of ha s h λd kd β1 v H1 aA Ha o1 r1=>by
  obtain⟨c,e,q⟩:=Ha;subst e;cases r1.rep;refine⟨c,rfl,?_⟩;cases c
  ·exact tQ.of hb o1.sq q λd2 k2 β2 v2 H2 bc q2 o2 r2=>q2 v2 H2 bc (o1.trans o2) (r2.later o1.sn)
  ·exact q _ H1 aA (o1.wk Bx) vQ⟩
theorem FY (ha:PQ X C p a φa):PQ X C p (.UnaryOp .Not a pos) (NN φa) :=
 ⟨λβ R R' k h=>ha.mono β _ _ (λd kd β1 G_=>by obtain⟨c,e,q⟩:=G_;exact⟨c,e,k _ _ _ q⟩) h,(F3 ha.pe).pre λσ H Q ⟨β,own,s,h⟩=>tQ.of ha s h λd kd β1 v H1 aA AE o1 r1=>by
  obtain⟨c,e,q⟩:=AE;subst e;cases r1.rep;exact⟨c,rfl,q _ H1 aA o1 vQ⟩⟩
def RX (g:D->Option D)(φa:aX):aX:=λβ R=>φa β λx _ β1=>∃d,g x=some d/\d.flat=true/\R d .own β1
theorem zE {op:UnaryOp}{g:D->Option D}(ho:L5 X (unaryOp op) (Qo X g))(ha:PQ X C p a φa):PQ X C p (.UnaryOp op a pos) (RX g φa) :=
 ⟨λβ R R' k h=>ha.mono β _ _ (λx _ β1 Ow=>by obtain⟨d,e,f,q⟩:=Ow;exact⟨d,e,f,k _ _ _ q⟩) h,(Eh ho ha.pe).pre λσ H Q ⟨β,own,s,h⟩ =>
  tQ.of ha s h λd1 k1 β1 v1 H1 aA Ov o1 r1=>by obtain⟨d,e,f,q⟩:=Ov;exact⟨_,d1,d,o1.sq.Bd _,r1.rep,e,λv H' s2 r2=>q v H' aA (o1.same s2) (KV.flat f r2)⟩⟩
def NO:b_:=λβ R=>R [] [] β
def Ju (pr:Bool)(φ:aX)(φs:b_):b_:=λβ R=>φ β λd k β1=>hold k pr/\φs β1 λds ks β2=>R (d::ds) (k::ks) β2
theorem ae:qo X C true [] NO:=⟨λβ R R' k h=>k _ _ _ h,cJ.pre λσ H Q Ou=>by obtain⟨β,own,s,q⟩:=Ou;exact q [] H own (Out.refl s _) s9.nil⟩
theorem aa (ha:PQ X C p a φ)(hr:qo X C p' es φs)(hs:U5 (a::es) X.env=(false,eval a X.env)::U5 es X.env:=by rfl):qo X C (p&&p') (a::es) (Ju p' φ φs) :=
 ⟨λβ R R' k h=>ha.mono β _ _ (λd kd β1 q=>⟨q.1,hr.mono β1 _ _ (λds ks β2 q2=>k _ _ _ q2) q.2⟩) h,(a8 ha.pe hr.pa hs).pre λσ H Q ⟨β,own,s,h⟩ =>
  tQ.of ha s h λd1 k1 β1 v1 H1 aA G9 o1 r1=>by obtain⟨hh,h1⟩:=G9;exact tf.of hr o1.sq h1 λds ks β2 vs H2 bc q o2 r2=>q (v1::vs) H2 bc (o1.trans o2) (s9.cons r1 o2.sn (r1.ho o2 hh) r2 o1.sn)⟩
def NH (φs:b_):aX:=λβ R=>φs β λds ks β1=>ds.length<=U4/\Ar ks ds λk=>R (.tup ds) k β1
def NP (φs:b_):aX:=λβ R=>φs β λds ks β1=>ds.length<=U4/\Ar ks ds λk=>R (.lst ds) k β1
theorem aN.same {P:UX}{w:Vb}{ds:List D}{vs:List V}{A:List Addr}(s:au H H')(h:aN P w H ds vs A):aN P w H' ds vs A:=h.keep (λb xs e=>s _ _ e) λc _ o e=>s c o e
theorem GN {P:UX}{w:Vb}{Z:Hp×(Addr->Prop)}{ks:List Kd}{ds:List D}{vs:List V}{K:Kd->Prop}{q:Addr}(hq:H q=none)(h:s9 P w C Z own H ks ds vs)(m:Ar ks ds K):∃k,K k/\KV P w C Z own (upd H q (.tup vs)) k (.tup ds) (.ref q):=by
 rcases m.of with⟨f,k⟩|k
 ·obtain⟨A,h1,h2,h3⟩:=h;exact⟨_,k,A,⟨q,vs,rfl,ar,(h1.F7 f).same (au.new hq)⟩,h2,h3⟩
 ·refine⟨_,k,?_⟩;rw[<- je];exact KV.of (by rw[je];exact⟨q,vs,rfl,ar,h.ip.same (au.new hq)⟩)
theorem GP {P:UX}{w:Vb}{Z:Hp×(Addr->Prop)}{ks:List Kd}{ds:List D}{vs:List V}{K:Kd->Prop}{q:Addr}(hq:H q=none)(hd:Dm (Wn own) H)(h0:∀a,C.H0 a≠none->H a≠none)(hz:∀a,Z.1 a≠none->H a≠none)(h:s9 P w C Z own H ks ds vs)(m:Ar ks ds K):∃k,K k/\KV P w C Z own (upd H q (.lst vs)) k (.lst ds) (.ref q):=by
 rcases m.of with⟨f,k⟩|k
 ·obtain⟨A,h1,h2,h3⟩:=h;refine⟨_,k,q::A,⟨q,vs,A,rfl,ar,rfl,(h1.F7 f).same (au.new hq)⟩,Vw.mpr ⟨λz=>h1.mE q z hq,h2⟩,λc hc=>?_⟩;rcases U0.mp hc with rfl|hc
  ·exact⟨VB λz=>hz c z hq,λz=>hd c z hq,VB λz=>h0 c z hq⟩
  ·exact h3 c hc
 ·refine⟨_,k,?_⟩;have nq:¬ av C (Wn own) (g9 ks) q:=λz=>by
   cases e:g9 ks <;> rw[e]at z <;> first|exact z.elim (λz=>hd q z hq) λz=>h0 q z hq|exact hd q z hq|exact z
  rw[<- je];exact KV.of (by rw[je];exact⟨q,vs,rfl,ar,nq,h.ip.same (au.new hq)⟩)
theorem s9.length {P:UX}{w:Vb}{Z:Hp×(Addr->Prop)}{ks:List Kd}{ds:List D}{vs:List V}(h:s9 P w C Z own H ks ds vs):vs.length=ds.length:=h.ip.length
theorem bz {x1}(h:qo X C p es φs):PQ X C p (.Tuple es x1 pos) (NH φs) :=
 ⟨λβ R R' k q=>h.mono β _ _ (λds ks β1 G8=>by obtain⟨l,q⟩:=G8;exact⟨l,q.mono λ_ z=>k _ _ _ z⟩) q,(zL h.pa).pre λσ H Q ⟨β,own,s,q⟩=>tf.of h s q λds ks β1 vs H1 aA ⟨l,q1⟩ o1 r1 =>
  ⟨by rw[r1.length];exact l,λq hq=>let ⟨k,q1,r⟩:=GN hq r1 q1;q1 _ _ aA (o1.same (au.new hq)) r⟩⟩
theorem a6 (h:qo X C p es φs):PQ X C p (.List es pos) (NP φs) :=
 ⟨λβ R R' k q=>h.mono β _ _ (λds ks β1 Oq=>by obtain⟨l,q⟩:=Oq;exact⟨l,q.mono λ_ z=>k _ _ _ z⟩) q,(pD h.pa).pre λσ H Q ⟨β,own,s,q⟩=>tf.of h s q λds ks β1 vs H1 aA ⟨l,q1⟩ o1 r1 =>
  ⟨by rw[r1.length];exact l,λq hq=>let ⟨k,q1,r⟩:=GP hq o1.sq.uM o1.sq.hJ (λa z=>o1.sn.d a z) r1 q1;q1 _ _ aA (o1.same (au.new hq)) r⟩⟩
end
section
variable {X:Cx}{C:Cfg}{a b c e:Expr}{es:List Expr}{φ φa φb:aX}{φs:b_}{pos:Pos}{σ:St}{H H':Hp}{β:a_}{own:Nat->List Addr}{p:Bool}{g:D->D->Option D}{N:D->Prop}
abbrev oJ:=D->Kd->aX
structure Ma (X:Cx)(C:Cfg)(ops:List Xy)(es:List Expr)(φ:oJ):Prop where
 mono:∀x k β R R',(∀d k β,R d k β->R' d k β)->φ x k β R->φ x k β R'
 ch:E9 X ops es λx σ H Q=>∃β own d k,SQ X C σ H β own/\Rp X (av C (Wn own) k) H d x/\φ d k β λd' k' β'=>∀v H',au H H'->SQ X C σ H' β' own->KV X.prog X.w C (H,Wn own) own H' k' d' v->Q v H'
 Rc:sZ X ops es λx σ H Q=>∃β own d k,SQ X C σ H β own/\Rp X (av C (Wn own) k) H d x/\φ d k β λd' k' β'=>∃b,d'=.bl b/\∀H',au H H'->SQ X C σ H' β' own->Q b H'
def FR (g:D->D->Option D)(φb:aX):oJ:=λx _ β R=>φb β λy _ β1=>∃b,g x y=some (.bl b)/\R (.bl b) .own β1
def zm (g:D->D->Option D)(φb:aX)(φr:oJ):oJ:=λx _ β R=>φb β λy ky β1=>∃k,g x y=some (.bl k)/\if k=true then φr y ky β1 R else R (.bl false) .own β1
variable {op Gh:Xy}{ops:List Xy}{rs:List Expr}{φr:oJ}
theorem i6 (ho:bR X (VD op) g)(hb:PQ X C true b φb):Ma X C [op] [b] (FR g φb) :=
 ⟨λx k β R R' h q=>hb.mono β _ _ (λy _ β1 xR=>by obtain⟨d,e,q⟩:=xR;exact⟨d,e,h _ _ _ q⟩) q,
  (HS ho hb.pe).pre λx σ H Q ⟨β,own,d,k,s,r,h⟩=>tQ.of hb s h λd2 k2 β2 v2 H2 bc Dh o2 r2=>by
    obtain⟨d',e,q⟩:=Dh;obtain⟨s2,rfl⟩:=o2.pu rfl;exact⟨av C (Wn bc) (k.max k2),d,d2,.bl d',o2.sq.Bd _,ay.aR cY (r.same s2),ay.aR fX r2.rep,e,λv H' s3 r3=>q v H' (s2.trans s3) (o2.sq.same s3) (KV.flat rfl r3)⟩,
  (DM ho hb.pe).pre λx σ H Q ⟨β,own,d,k,s,r,h⟩=>tQ.of hb s h λd2 k2 β2 v2 H2 bc Kk o2 r2=>by
    obtain⟨d',e,b,eb,q⟩:=Kk;obtain⟨s2,rfl⟩:=o2.pu rfl;cases eb;exact⟨av C (Wn bc) (k.max k2),d,d2,.bl d',o2.sq.Bd _,ay.aR cY (r.same s2),ay.aR fX r2.rep,e,λv H' s3 r3=>by
      cases r3;exact⟨_,rfl,q H' (s2.trans s3) (o2.sq.same s3)⟩⟩⟩
theorem cG (ho:bR X (VD op) g)(hb:PQ X C true b φb)(hc:Ma X C (Gh::ops) (c::rs) φr):Ma X C (op::Gh::ops) (b::c::rs) (zm g φb φr) :=
 ⟨λx k β R R' h q=>hb.mono β _ _ (λy ky β1 ⟨d,e,q⟩=>⟨d,e,by
   cases d
   ·exact h _ _ _ q
   ·exact hc.mono y ky β1 _ _ h q⟩) q,
  (DO ho hb.pe hc.ch).pre λx σ H Q ⟨β,own,d,k,s,r,h⟩=>tQ.of hb s h λd2 k2 β2 v2 H2 bc AD o2 r2=>by
    obtain⟨t,e,q⟩:=AD;obtain⟨s2,rfl⟩:=o2.pu rfl;refine⟨av C (Wn bc) (k.max k2),d,d2,.bl t,o2.sq.Bd _,ay.aR cY (r.same s2),ay.aR fX r2.rep,e,λv H' s3 r3=>?_⟩;cases r3;refine⟨t,rfl,?_⟩;cases t
    · exact q _ H' (s2.trans s3) (o2.sq.same s3) vQ
    · exact⟨β2,bc,d2,k2,o2.sq.same s3,r2.rep.same s3,hc.mono d2 k2 β2 _ _ (λd' k' β' q' v yw s4 sq r4=>q' v yw ((s2.trans s3).trans s4) sq (r4.later ((o2.same s3).sn))) q⟩,
  (Bk ho hb.pe hc.Rc).pre λx σ H Q ⟨β,own,d,k,s,r,h⟩=>tQ.of hb s h λd2 k2 β2 v2 H2 bc uB o2 r2=>by
    obtain⟨t,e,q⟩:=uB;obtain⟨s2,rfl⟩:=o2.pu rfl;refine⟨av C (Wn bc) (k.max k2),d,d2,.bl t,o2.sq.Bd _,ay.aR cY (r.same s2),ay.aR fX r2.rep,e,λv H' s3 r3=>?_⟩;cases r3;refine⟨t,rfl,?_⟩;cases t
    · obtain⟨b,eb,q⟩:=q;cases eb;exact q H' (s2.trans s3) (o2.sq.same s3)
    · exact⟨β2,bc,d2,k2,o2.sq.same s3,r2.rep.same s3,hc.mono d2 k2 β2 _ _ (λd' k' β' AJ=>by obtain⟨b,eb,q'⟩:=AJ;exact⟨b,eb,λyw s4 sq=>q' yw ((s2.trans s3).trans s4) sq⟩) q⟩⟩
def pk (φa:aX)(φr:oJ):aX:=λβ R=>φa β λx k β1=>φr x k β1 R
theorem i7 {dW dU:Xy}(ha:PQ X C true a φa)(hc:Ma X C (dW::dU::ops) (b::c::rs) φr)(hm:lastMarks (dW::dU::ops) (b::c::rs)=false:=by with_unfolding_all rfl):
  PQ X C true (.Compare a (dW::dU::ops) (b::c::rs) pos) (pk φa φr) :=
 ⟨λβ R R' k h=>ha.mono β _ _ (λx kx β1 q=>hc.mono x kx β1 _ _ k q) h,(xq ha.pe hc.ch hm).pre λσ H Q ⟨β,own,s,h⟩=>tQ.of ha s h λd k β1 v H1 aA q o1 r1=>by
  obtain⟨s1,rfl⟩:=o1.pu rfl;exact⟨β1,aA,d,k,o1.sq,r1.rep,hc.mono d k β1 _ _ (λd' k' β' q' v yw s4 sq r4=>q' v yw aA ⟨sq,o1.sn.same s4,λ_=>⟨s1.trans s4,rfl⟩,o1.le⟩ (r4.later o1.sn)) q⟩⟩
theorem xk {dW dU:Xy}(ha:PQ X C true a φa)(hc:Ma X C (dW::dU::ops) (b::c::rs) φr)(hm:lastMarks (dW::dU::ops) (b::c::rs)=false:=by with_unfolding_all rfl):
  tE X C true (.Compare a (dW::dU::ops) (b::c::rs) pos) (zk (pk φa φr)) :=
 ⟨λβ R R' k h=>ha.mono β _ _ (λx kx β1 q=>hc.mono x kx β1 _ _ (λd kd β' Hl=>by obtain⟨b,e,q⟩:=Hl;exact⟨b,e,k _ _ q⟩) q) h,(xh ha.pe hc.Rc hm).pre λσ H Q ⟨β,own,s,h⟩=>tQ.of ha s h λd k β1 v H1 aA q o1 r1=>by
  obtain⟨s1,rfl⟩:=o1.pu rfl;exact⟨β1,aA,d,k,o1.sq,r1.rep,hc.mono d k β1 _ _ (λd' k' β' AH=>by obtain⟨b,e,q'⟩:=AH;exact⟨b,e,λyw s4 sq=>q' yw aA ⟨sq,o1.sn.same s4,λ_=>⟨s1.trans s4,rfl⟩,o1.le⟩⟩) q⟩⟩
abbrev Bz:=a_->(Option Int->a_->Prop)->Prop
structure MV (X:Cx)(C:Cfg)(e:Option Expr)(φ:Bz):Prop where
 mono:∀β R R',(∀d β,R d β->R' d β)->φ β R->φ β R'
 po:PO X e λσ H Q=>∃β own,SQ X C σ H β own/\φ β λo β'=>∀H',au H H'->SQ X C σ H' β' own->Q o H'
theorem lE:MV X C none (λβ R=>R none β):=⟨λβ R R' k h=>k _ _ h,vw.pre λσ H Q Hk=>by obtain⟨β,own,s,q⟩:=Hk;exact q H (au.refl _) s⟩
theorem lD (ha:PQ X C true a φ):MV X C (some a) (λβ R=>φ β λd _ β1=>∃i,d=.int i/\R (some i) β1) :=
 ⟨λβ R R' k h=>ha.mono β _ _ (λd _ β1 Hj=>by obtain⟨i,e,q⟩:=Hj;exact⟨i,e,k _ _ q⟩) h,(vv ha.pe).pre λσ H Q ⟨β,own,s,h⟩=>tQ.of ha s h λd k β1 v H1 aA Hh o1 r1=>by
  obtain⟨i,e,q⟩:=Hh;subst e;cases r1.rep;obtain⟨s1,rfl⟩:=o1.pu rfl;exact⟨i,rfl,q H1 s1 o1.sq⟩⟩
def RY (φ:aX)(φl φh:Bz):aX:=λβ R=>φ β λx k β1=>φl β1 λl β2=>φh β2 λh β3=>∃d,PF x l h=some d/\kN NL d k.wk λk'=>R d k' β3
theorem Ea {k:Kd}:k.wk.wk=k.wk:=by cases k <;> rfl
theorem Bw {W:Addr->Prop}{k:Kd}:∀c,av C W k.wk c->av C W k c:=λc h=>by cases k <;> exact h
theorem zF {lo hi:Option Expr}{φl φh:Bz}{p2:Pos}(ha:PQ X C p a φ)(hl:MV X C lo φl)(hh:MV X C hi φh):PQ X C p (.Subscript a (.Slice lo hi none p2) pos) (RY φ φl φh) :=
 ⟨λβ R R' k h=>ha.mono β _ _ (λx kx β1 q=>hl.mono β1 _ _ (λl β2 q=>hh.mono β2 _ _ (λu β3 Hg=>by obtain⟨d,e,q⟩:=Hg;exact⟨d,e,q.mono λ_ z=>k _ _ _ z⟩) q) q) h,
  (qY B7 ha.pe hl.po hh.po).pre λσ H Q ⟨β,own,s,h⟩=>tQ.of ha s h λd k β1 v H1 aA q o1 r1 =>
    ⟨β1,aA,o1.sq,hl.mono β1 _ _ (λl β2 q H2 s2 RL=>⟨β2,aA,RL,hh.mono β2 _ _ (λu β3 He H3 s3 Ms=>by
      obtain⟨d',e,q⟩:=He;refine⟨av C (Wn aA) k.wk,d,d',Ms.Bd _,((ay.aR Bw r1.rep).same s2).same s3,e,λv H' s4 r4 n4=>?_⟩;obtain⟨k',q,r⟩:=KV.kN (Z:=(H,Wn own)) Ea r4 (λn=>i9 (H:=H3) Ms.uM Ms.hJ (λa z e=>o1.sn.d a z (s2.free (s3.free e))) n (n4 n)) q;exact q v H' aA ⟨Ms.same s4,o1.sn.same ((s2.trans s3).trans s4),λz=>⟨(o1.pu z).1.trans ((s2.trans s3).trans s4),(o1.pu z).2⟩,o1.le⟩ r) q⟩) q⟩⟩
def Jo (X:Cx)(f:List D->Option D)(N:D->Prop):List V->Hp->VK->Prop:=λxs H Q=>∃W ds d,Dm W H/\kj X W H ds xs/\f ds=some d/\∀v H',au H H'->Rp X W H' d v->(N d->Rp X (λa=>H a≠none) H' d v)->Q v H'
abbrev BB (X:Cx)(f:UR)(g:List D->Option D)(N:D->Prop):Prop:=gg X f (Jo X g N)
theorem bW.m {f:UR}{g:List D->Option D}(h:bW X f g):BB X f g NF:=λpins s σ H xs us Q I r ⟨W,ds,d,hd,r1,e,q⟩ =>
 h pins s σ H xs us Q I r ⟨W,ds,d,hd,r1,e,λv H' s r=>q v H' s r λf=>ay.flat f r⟩
def j6 (g:List D->Option D)(N:D->Prop)(φs:b_):aX:=λβ R=>φs β λds ks β1=>∃d,g ds=some d/\kN N d (g9 ks) λk=>R d k β1
variable {x:Str}{pp:Pos}{id T:String}{gs:List D->Option D}
theorem j6.mono (h:qo X C p es φs):∀β R R',(∀d k β,R d k β->R' d k β)->j6 gs N φs β R->j6 gs N φs β R':=λβ R R' k q=>h.mono β _ _ (λds ks β1 OB=>by obtain⟨d,e,q⟩:=OB;exact⟨d,e,q.mono λ_ z=>k _ _ _ z⟩) q
theorem qW (hn:BJ N)(h:qo X C p es φs):∀σ H Q,tQ X C p (j6 gs N φs) σ H Q->Nh (Jo X gs N) (tf X C p φs) σ H Q:=λσ H Q ⟨β,own,s,q⟩=>tf.of h s q λds ks β1 vs H1 aA Oz o1 r1=>by
 obtain⟨d,e,q1⟩:=Oz;refine⟨av C (Wn aA) (g9 ks),ds,d,o1.sq.Bd _,r1.ip,e,λv H' s2 r2 n2=>?_⟩;obtain⟨k',q,r⟩:=KV.kN (Z:=(H,Wn own)) je r2 (λn=>i9 (H:=H1) o1.sq.uM o1.sq.hJ (λa z=>o1.sn.d a z) (hn.nl _ n) (n2 n)) q1;exact q v H' aA (o1.same s2) r
theorem bb (Hu:BJ N)(hc:BB X (.builtin id) gs N)(hm:X.mg x=none)(hv:VI x=some (.builtin id))(ha:qo X C p (e::es) φs)(hg:Gl X x:=by rfl)(hn:x≠"__name__" := by decide)(hdb:(x==("__debug__" : Str))=false:=by decide)
  (ku:U5 (e::es) X.env=(false,eval e X.env)::U5 es X.env:=by rfl) (hpl:(WG pos (U5 es X.env)).any (·.1)=false:=by rfl) :
  PQ X C p (.Call (.Name x pp) (e::es) [] pos) (j6 gs N φs):=⟨j6.mono ha,(gB hc hg hm hv ha.pa hn hdb (he:=ku) (hpl:=hpl)).pre (qW Hu ha)⟩
theorem gV (Hu:BJ N)(hc:BB X (.type T) gs N)(hm:X.mg x=none)(hv:VI x=some (.type T))(ha:qo X C p (e::es) φs)(hg:Gl X x:=by rfl)(hn:x≠"__name__" := by decide)(hdb:(x==("__debug__" : Str))=false:=by decide)
  (ku:U5 (e::es) X.env=(false,eval e X.env)::U5 es X.env:=by rfl) (hpl:(WG pos (U5 es X.env)).any (·.1)=false:=by rfl) :
  PQ X C p (.Call (.Name x pp) (e::es) [] pos) (j6 gs N φs):=⟨j6.mono ha,(xr hc hg hm hv ha.pa hn hdb (he:=ku) (hpl:=hpl)).pre (qW Hu ha)⟩
end
def qf (P:UX)(w:Vb)(ro:Bool)(H H':Hp)(d:D)(v:V):Prop:=match ro with
 |true=>∃A,Own P w H' d v A/\A.Nodup/\∀c∈A,H c=none
 |false=>ay P w (λa=>H a≠none) H' d v
abbrev rk (ro:Bool):Kd:=match ro with|true=>.own|false=>.dy
def bZ (P:UX)(w:Vb)(ro:Bool)(F:FD):Sp:=λvs H Q _=>∃ds,ai P w (λ_=>False) H ds vs/\F ds λd=>∀v H',au H H'->qf P w ro H H' d v->Q v H'
def tR (P:UX)(w:Vb)(ok:List Int->Prop)(ro:Bool)(F:FD):Sp:=λvs H Q _=>∃h vs' ds ns,vs=.ref h::vs'/\H h=some (.lst (ns.map V.int))/\ok ns/\ai P w (λa=>a=h) H ds vs' /\
 F ds λd=>∀v H' h9,Kp (·=h) H H'->(∀c,H c≠none->H' c≠none)->H' h=some (.lst (h9.map V.int))->ok h9->qf P w ro H H' d v->Q v H'
section
variable {X:Cx}{C:Cfg}{k ih:Nat}{f:Addr}{fd:Vz}{ps:List Str}{F:FD}{ro p:Bool}{x hx:Str}{pp pos px:Pos}{e:Expr}{es:List Expr}{φs:b_}{ok:List Int->Prop}{σ:St}{H H':Hp}{β:a_}{own:Nat->List Addr}{P:UX}{w:Vb}
theorem qf.kv {Z:Hp×(Addr->Prop)}{d:D}{v:V}(hd:Dm (Wn own) H)(h0:∀a,C.H0 a≠none->H a≠none)(hz:∀a,Z.1 a≠none->H a≠none)(h:qf P w ro H H' d v):KV P w C Z own H' (rk ro) d v:=by
 cases ro with
 |true =>
  obtain⟨A,h1,h2,h3⟩:=h;exact⟨A,h1,h2,λc hc=>⟨VB λz=>hz c z (h3 c hc),λz=>hd c z (h3 c hc),VB λz=>h0 c z (h3 c hc)⟩⟩
 |false=>exact ay.aR (λa z=>z.elim (hd a) (h0 a)) h
def NK (ro:Bool)(F:FD)(φs:b_):aX:=λβ R=>φs β λds _ β1=>F ds λd=>R d (rk ro) β1
theorem az (mF:cD F)(G:aD X.prog X.w X.K X.mg X.base bw k f fd ps (bZ X.prog X.w ro F))(hr:cT k X.A)(hm:X.mg x=some (.ref f))(hk:PySem.W.keepIn X.K (.ref f)=true)(hb:Binds X.K fd ps [])(ha:qo X C p (e::es) φs)(hg:Gl X x:=by rfl)
  (hdb:(x==("__debug__" : Str))=false:=by decide)
  (ku:U5 (e::es) X.env=(false,eval e X.env)::U5 es X.env:=by rfl) (hpl:(WG pos (U5 es X.env)).any (·.1)=false:=by rfl) :
  PQ X C p (.Call (.Name x pp) (e::es) [] pos) (NK ro F φs) :=
 ⟨λβ R R' k h=>ha.mono β _ _ (λds ks β1 q=>mF ds _ _ (λd q=>k _ _ _ q) q) h,(pE G hr hg hm hk hb .nil zO ha.pa (hdb:=hdb) (he:=ku) (hpl:=hpl)).pre λσ H Q ⟨β,own,s,h⟩=>tf.of ha s h λds ks β1 vs H1 aA q o1 r1=>by
  rw[Wr];exact⟨ds,r1.bor,mF ds _ _ (λd q2 v H' s2 r2=>q2 v H' aA (o1.same s2) (r2.kv o1.sq.uM o1.sq.hJ λa z=>o1.sn.d a z)) q⟩⟩
theorem bG.drawn {i:Nat}{h:Addr}{h9:List Int}(b:bG P w C σ H β own)(e:β[i]?=some (some (.hand ok)))(hσ:σ[i]?=some (some (.ref h)))(k:Kp (·=h) H H')(e':H' h=some (.lst (h9.map V.int)))(o':ok h9)(dn:∀c,H c≠none->H' c≠none):bG P w C σ H' β own:=by
 obtain⟨a,ns,h1,h2,h3,h4,h5⟩:=b.pR i ok e;rw[hσ]at h1;cases h1;have wh:Wn own h:=⟨i,by rw[h4];simp⟩
 have kW:∀y,Kp (fY C (Wn own) (yk y)) H H':=λy=>k.mono λc z=>by rw[z];cases y <;> first|exact .inl wh|exact .inl (.inl wh)
 have ne:∀j,j≠i->∀c∈own j,c≠h:=λj hj c hc z=>hj (b.jo j i c hc (by rw[h4,z];simp))
 refine⟨b.len,λj y d e=>let ⟨v,g1,g2⟩:=b.val j y d e;⟨v,g1,g2.keep (kW y)⟩,λj d ej=>?_,λj yy ej=>?_,λj c hc=>?_,b.jo,b.mB,⟨λc o z n=>?_,λc xs z=>k.tup c xs (b.kp.tup c xs z)⟩,λc z=>dn c (b.hJ c z),λj y d ej=>by
  obtain⟨v,g1,g2,g3⟩:=b.shl j y d ej;have hj:j≠i:=λz=>by rw[z,e]at ej;cases ej
  exact⟨v,g1,g2.map (λc hc o eo=>k.out c o eo (ne j hj c hc)) (λ_ _ r=>r.keep (kW y)),g3⟩⟩
 ·obtain⟨v,g1,g2,g3⟩:=b.ow j d ej;have hj:j≠i:=λz=>by rw[z,e]at ej;cases ej
  exact⟨v,g1,g2.keep k.tup (λc hc o eo=>k.out c o eo (ne j hj c hc)),g3⟩
 ·by_cases hj:j=i
  ·subst hj;rw[e]at ej;cases ej;exact⟨h,h9,hσ,e',o',h4,h5⟩
  ·obtain⟨a,ms,g1,g2,g3,g4,g5⟩:=b.pR j yy ej;exact⟨a,ms,g1,k.out a _ g2 (ne j hj a (by rw[g4];simp)),g3,g4,g5⟩
 ·obtain⟨g1,g2,g3⟩:=b.dm j c hc
  by_cases v7:c=h
  ·rw[v7,e'];rw[v7]at g3;exact⟨λz=>(nomatch z),λxs z=>(by cases z),g3⟩
  ·cases q:H c with
   |none=>exact absurd q g1
   |some o=>rw[k.out c o q v7];exact⟨λz=>(nomatch z),λxs z=>g2 xs (by rw[q];exact z),g3⟩
 ·refine k.out c o (b.kp.out c o z n) λq=>?_;subst q;rcases (b.dm i c (by rw[h4];simp)).2.2.1 with z0|z0
  ·rw[z0]at z;cases z
  ·exact n z0
def Jt (ih:Nat)(ok:List Int->Prop)(ro:Bool)(F:FD)(φs:b_):aX:=λβ R=>β[ih]?=some (some (.hand ok))/\φs β λds ks β1=>β1[ih]?=some (some (.hand ok))/\hold (g9 ks) false/\F ds λd=>R d (rk ro) β1
theorem b7 (mF:cD F)(G:aD X.prog X.w X.K X.mg X.base bw k f fd ps (tR X.prog X.w ok ro F))(hr:cT k X.A)(hm:X.mg x=some (.ref f))(hk:PySem.W.keepIn X.K (.ref f)=true)(hb:Binds X.K fd ps [])(ha:qo X C p es φs)(hN:X.N[ih]?=some hx:=by rfl)
  (hv:sR X.env.scope hx:=by first|exact .inl rfl|exact .inr (.inl rfl)|exact .inr (.inr rfl)) (hd:(hx==("__debug__" : Str))=false:=by decide) (gm:(hx==("__classdict__" : Str))=false:=by decide) (hg:Gl X x:=by rfl) (hdb:(x==("__debug__" : Str))=false:=by decide)
  (ku:U5 (.Name hx px::es) X.env=(false,eval (.Name hx px) X.env)::U5 es X.env:=by rfl) (hpl:(WG pos (U5 es X.env)).any (·.1)=false:=by rfl) :
  PQ X C false (.Call (.Name x pp) (.Name hx px::es) [] pos) (Jt ih ok ro F φs) :=
 ⟨λβ R R' k Oy=>by obtain⟨e,h⟩:=Oy;exact⟨e,ha.mono β _ _ (λds ks β1 AF=>by obtain⟨e,hh,q⟩:=AF;exact⟨e,hh,mF ds _ _ (λd q=>k _ _ _ q) q⟩) h⟩,
  (pE G hr hg hm hk hb .nil zO (a8 (cR (pos:=px) hN hv hd gm) ha.pa ku) (hdb:=hdb) (he:=ku) (hpl:=hpl)).pre λσ H Q Ha=>by
  obtain⟨β,own,s,e,h⟩:=Ha;obtain⟨hh,ns,h1,h2,h3,h4⟩:=s.pR ih ok e;refine⟨.ref hh,h1,tf.of ha s h λds ks β1 vs H1 aA ⟨e1,ho,q⟩ o1 r1=>?_⟩;obtain⟨UG,R6,g1,g2,g3,g4,g5⟩:=o1.sq.pR ih ok e1;rw[h1]at g1;cases g1;have wh:Wn aA hh:=⟨ih,by rw[g4];simp⟩
  rw[Wr];refine⟨hh,vs,ds,R6,rfl,g2,g3,ai.aR (λa z=>?_) r1.ip,mF ds _ _ (λd q v H' h9 kp dn e' yy r=>?_) q⟩
  ·subst z;cases hk:g9 ks with
   |own=>exact .inl wh
   |dy=>exact .inl wh
   |old=>exact wh
   |bor=>rw[hk]at ho;exact ho.elim
  ·exact q v H' aA ⟨o1.sq.drawn e1 h1 kp e' yy dn,o1.sn.kp (kp.mono λb z=>by rw[z];exact wh) dn,λz=>(nomatch z),o1.le⟩ (r.kv o1.sq.uM o1.sq.hJ λa z=>o1.sn.d a z)⟩
end
abbrev Cfg.z (C:Cfg):Cfg:=C.u λ_=>False
def SB (X:Cx)(C:Cfg)(Z:Hp×(Addr->Prop))(σ:St)(H:Hp)(β:a_):Prop:=∃own,SQ X C.z σ H β own/\Sn Z H (Wn own)
structure gf where
 nx:a_->Prop
 rt:D->a_->Prop
 bk:a_->Prop:=λ_=>False
 ct:a_->Prop:=λ_=>False
def gf.up (E:gf)(n:a_->Prop):gf:=⟨n,E.rt,E.bk,E.ct⟩
def gf.lp (E:gf)(n:a_->Prop):gf:=⟨n,E.rt,E.nx,n⟩
structure Ue (X:Cx)(C:Cfg)(Z:Hp×(Addr->Prop))(E:gf)(D:Ends):Prop where
 nx:∀σ H β,SB X C Z σ H β->E.nx β->D.nx σ H
 rt:∀σ H β d v,SB X C Z σ H β->qf X.prog X.w C.ro C.H0 H d v->E.rt d β->D.rt v H
 bk:∀σ H β,SB X C Z σ H β->E.bk β->D.bk σ H
 ct:∀σ H β,SB X C Z σ H β->E.ct β->D.ct σ H
structure Le (E E':gf):Prop where
 nx:∀β,E.nx β->E'.nx β
 rt:∀d β,E.rt d β->E'.rt d β
 bk:∀β,E.bk β->E'.bk β
 ct:∀β,E.ct β->E'.ct β
abbrev E6:=gf->a_->Prop
def Qh (X:Cx)(C:Cfg)(ψ:E6):TS:=λD σ H=>∃Z E β,SB X C Z σ H β/\ψ E β/\Ue X C Z E D
structure PB (X:Cx)(C:Cfg)(st:Stmt)(ψ:E6):Prop where
 mono:∀E E' β,Le E E'->ψ E β->ψ E' β
 ps:PS X st (Qh X C ψ)
structure wI (X:Cx)(C:Cfg)(st:List Stmt)(ψ:E6):Prop where
 mono:∀E E' β,Le E E'->ψ E β->ψ E' β
 ps:qm X st (Qh X C ψ)
section
variable {X:Cx}{C:Cfg}{st:Stmt}{rest a b:List Stmt}{ψ ψ1 ψ2:E6}{Z:Hp×(Addr->Prop)}{σ:St}{H H':Hp}{β β':a_}{pos pos':Pos}{e c:Expr}{φ:aX}{τ:ba}{p:Bool}{own aQ:Nat->List Addr}{i:Nat}{x:Str}
theorem Out.sb (n:Sn Z H (Wn own))(o:Out X C.z σ H own p β' H' aQ):SB X C Z σ H' β':=⟨aQ,o.sq,n.trans o.sn⟩
theorem aY:wI X C [] (λE β=>E.nx β):=⟨λE E' β l h=>l.nx β h,pz.pre λD σ H xR=>by obtain⟨Z,E,β,sb,h,ok⟩:=xR;exact ok.nx σ H β sb h⟩
theorem ag (h1:PB X C st ψ1)(h2:wI X C rest ψ2):wI X C (st::rest) (λE β=>ψ1 (E.up (ψ2 E)) β) :=
 ⟨λE E' β l h=>h1.mono {E with nx:=ψ2 E} {E' with nx:=ψ2 E'} β ⟨λβ' q=>h2.mono E E' β' l q,l.rt,l.bk,l.ct⟩ h,(cg h1.ps h2.ps).pre λD σ H ⟨Z,E,β,sb,h,ok⟩ =>
  ⟨Z,{E with nx:=ψ2 E},β,sb,h,⟨λσ' H' β' tW h'=>⟨Z,E,β',tW,h',ok⟩,ok.rt,ok.bk,ok.ct⟩⟩⟩
theorem aj (h1:PB X C st ψ):wI X C [st] ψ:=⟨h1.mono,fE h1.ps⟩
theorem fI (h1:PB X C st ψ1)(h2:wI X C rest ψ2):wI X C (st::rest) (λE β=>∃J:a_->Prop,ψ1 (E.up J) β/\∀β',J β'->ψ2 E β') :=
 ⟨λE E' β l Dh=>by obtain⟨J,h,k⟩:=Dh;exact⟨J,h1.mono {E with nx:=J} {E' with nx:=J} β ⟨λ_ q=>q,l.rt,l.bk,l.ct⟩ h,λβ' q=>h2.mono E E' β' l (k β' q)⟩,(cg h1.ps h2.ps).pre λD σ H ⟨Z,E,β,sb,⟨J,h,k⟩,ok⟩ =>
  ⟨Z,{E with nx:=J},β,sb,h,⟨λσ' H' β' tW h'=>⟨Z,E,β',tW,k β' h',ok⟩,ok.rt,ok.bk,ok.ct⟩⟩⟩
theorem nB:wI X C a (λ_ _=>False):=⟨λ_ _ _ _ h=>h.elim,xi.pre λD σ H AD=>by obtain⟨Z,E,β,sb,h,ok⟩:=AD;exact h.elim⟩
theorem bO (hc:tE X C.z p c τ)(ha:wI X C a ψ1)(hb:wI X C b ψ2):PB X C (.If c a b pos) (λE β=>τ β λt β'=>if t=true then ψ1 E β' else ψ2 E β') :=
 ⟨λE E' β l h=>hc.mono _ _ _ (λt β' q=>by
   cases t
   ·exact hb.mono E E' β' l q
   ·exact ha.mono E E' β' l q) h,(zw hc.pt ha.ps hb.ps).pre λD σ H AB=>by
  obtain⟨Z,E,β,⟨own,s,n⟩,h,ok⟩:=AB;refine j0.of hc s h λt β' H1 aA q o1=>?_;cases t
  ·exact⟨Z,E,β',o1.sb n,q,ok⟩
  ·exact⟨Z,E,β',o1.sb n,q,ok⟩⟩
abbrev Ey (d:D)(k:Kd)(K:B->Prop):Prop:=match k with
 |.own=>K (.val true d)
 |.dy=>K (.val true d)
 |.old=>K (.val false d)
 |.bor=>d.flat=true/\K (.val true d)
theorem Ey.mono {d:D}{k:Kd}{K K':B->Prop}(h:∀b,K b->K' b)(q:Ey d k K):Ey d k K':=by
 cases k <;> first|exact h _ q|exact⟨q.1,h _ q.2⟩
theorem Ey.of {P:UX}{w:Vb}{d:D}{v:V}{k:Kd}{K:B->Prop}(r:KV P w C Z own H k d v)(q:Ey d k K):∃y,K (.val y d)/\ay P w (av C (Wn own) (yk y)) H d v:=by
 cases k with
 |own=>exact⟨true,q,r.dy⟩
 |dy=>exact⟨true,q,r⟩
 |old=>exact⟨false,q,r⟩
 |bor=>exact⟨true,q.2,ay.flat q.1 r⟩
theorem tT {own:Nat->List Addr}{i:Nat}(n:Sn Z H (Wn own)):Sn Z H (Wn (aH own i [])):=⟨λb z=>n.w b (dB z),n.k,n.d⟩
theorem aP (he:PQ X C.z p e φ)(hN:X.N.Nodup)(hi:X.N[i]?=some x:=by rfl)(hx:Loc X.env.scope x:=by first|exact .inl rfl|exact .inr rfl)
  (hs:Ww e (some (.Name x pos')) pos.line X.env=pure false:=by rfl) (hf:X.fn x=true\/X.env.scope.names.lookup x=some .local:=by first|exact .inl rfl|exact .inr rfl|assumption) :
  PB X C (.Assign [.Name x pos'] e pos) (λE β=>φ β λd k β'=>Ey d k λb=>E.nx (β'.set i (some b))) :=
 ⟨λE E' β l q=>he.mono _ _ _ (λd k β' q=>q.mono λ_=>l.nx _) q,(jE hN hi hx he.pe hs hf).pre λD σ H ⟨Z,E,β,⟨own,s,n⟩,q,ok⟩=>tQ.of he s q λd k β' v H' aQ q o r=>by
  obtain⟨y,q,r⟩:=q.of r;exact ok.nx _ _ _ ⟨_,o.sq.dD (ay.aR (λa z=>z.elim id λz=>z.elim) r),tT (n.trans o.sn)⟩ q⟩
abbrev Ez (k:Kd)(d:D):Prop:=match k with
 |.own=>True
 |_=>d.flat=true
theorem KV.fl {P:UX}{w:Vb}{d:D}{v:V}{k:Kd}(f:Ez k d)(r:KV P w C Z own H k d v):KV P w C Z own H .own d v:=by
 cases k with
 |own=>exact r
 |dy=>exact KV.flat f r.rep
 |old=>exact KV.flat f r.rep
 |bor=>exact KV.flat f r.rep
theorem fJ (he:∀U,PQ X (C.u U) p e φ)(hN:X.N.Nodup)(hi:X.N[i]?=some x:=by rfl)(hx:Loc X.env.scope x:=by first|exact .inl rfl|exact .inr rfl)
  (hs:Ww e (some (.Name x pos')) pos.line X.env=pure false:=by rfl) (hf:X.fn x=true\/X.env.scope.names.lookup x=some .local:=by first|exact .inl rfl|exact .inr rfl|assumption) :
  PB X C (.Assign [.Name x pos'] e pos) (λE β=>φ β λd k β'=>Ez k d/\E.nx (β'.set i (some (.own d)))) :=
 ⟨λE E' β l q=>(he λ_=>False).mono _ _ _ (λd k β' q=>⟨q.1,l.nx _ q.2⟩) q,λpins s σ H D I ⟨Z,E,β,⟨own,sq,n⟩,q,ok⟩ =>
  jE hN hi hx (he λa=>H a=none).pe hs hf pins s σ H D I (tQ.of (he λa=>H a=none) (sq.kY (C:=C.z) (U:=λa=>H a=none) λa z=>z) q λd k β' v H' aQ Hm o r=>by
   obtain⟨f,q⟩:=Hm;obtain⟨A,h1,h2,h3⟩:=r.fl f;refine ok.nx _ _ _ ⟨_,o.sq.tU h1 h2 λc hc=>⟨(h3 c hc).2.2,(h3 c hc).2.1,(h3 c hc).1⟩,?_⟩ q;have m:=n.trans o.sn;exact⟨λb Hl=>by
    obtain⟨j,hj⟩:=Hl
    by_cases aE:i=j
    ·rw[<- aE,os_eq]at hj;exact .inr (n.free (h3 b hj).1)
    ·rw[bq aE]at hj;exact m.w b ⟨j,hj⟩,m.k,m.d⟩)⟩
theorem bG.FT {P:UX}{w:Vb}{U U2:Addr->Prop}{d d':D}{v:V}{A':List Addr}{c:Addr}{o:HO}(b:bG P w (C.u U) σ H β own)(e:β[i]?=some (some (.own d)))(hσ:σ[i]?=some (some v))(hc:c∈own i)
  (r:Own P w (upd H c o) d' v A') (nd:A'.Nodup) (hA:∀a∈A',a∈own i\/(C.H0 a=none/\¬ Wn own a/\U a)) (hU:∀a,U2 a->U a) (Po:∀a∈A',¬ U2 a):bG P w (C.u U2) σ (upd H c o) (β.set i (some (.own d'))) (aH own i A'):=by
 obtain⟨g1,g2,g3,g4⟩:=b.dm i c hc;obtain⟨oc,Dj⟩:∃oc,H c=some oc:=by
  cases q:H c with
  |none=>exact absurd q g1
  |some oc=>exact⟨oc,rfl⟩
 have ht:∀xs,oc≠.tup xs:=λxs z=>g2 xs (by rw[Dj,z])
 have k:Kp (·=c) H (upd H c o):=jO Dj ht;have h0:∀a∈own i,C.H0 a=none:=by obtain⟨_,_,_,h⟩:=b.ow i d e;exact h
 have wc:Wn own c:=⟨i,hc⟩;have sub:∀y a,fY (C.u U2) (Wn (aH own i A')) (yk y) a->fY (C.u U) (Wn own) (yk y) a:=λy a h=>by
  have q:∀a,Wn (aH own i A') a->Wn own a\/U a:=λa AI=>by
   obtain⟨j,q⟩:=AI
   by_cases aE:i=j
   ·rw[aE,os_eq]at q;rcases hA a q with z|z
    ·exact .inl ⟨i,z⟩
    ·exact .inr z.2.2
   ·rw[bq aE]at q;exact .inl ⟨j,q⟩
  rcases h with h|h
  ·cases y with
   |true=>exact h.elim (λz=>(q a z).imp .inl id) λz=>.inl (.inr z)
   |false=>exact q a h
  ·exact .inr (hU a h)
 have mem:∀{j c},c∈aH own i A' j->(i=j/\c∈A')\/(i≠j/\c∈own j):=λ{j c} h=>by
  by_cases aE:i=j
  ·subst aE;rw[os_eq]at h;exact .inl ⟨rfl,h⟩
  ·rw[bq aE]at h;exact .inr ⟨aE,h⟩
 have Mz:∀j,i≠j->∀a∈own j,a≠c:=λj aE a ha z=>aE (b.jo i j c hc (by rw[<- z];exact ha))
 refine⟨by simp[b.len],λj y' d2 e2=>?_,λj d2 e2=>?_,λj ok e2=>?_,λj a h=>?_,λj k2 a h1 h2=>?_,λj=>?_,⟨λa oa z n=>?_,λa xs z=>k.tup a xs (b.kp.tup a xs z)⟩,λa z=>?_,λj y' d2 e2=>by
  by_cases aE:i=j
  ·subst aE;obtain⟨e',hl⟩:=a5 e2;cases e'
  ·rw[aZ aE]at e2;rw[bq aE];obtain⟨u,h1,h2,h3⟩:=b.shl j y' d2 e2;exact⟨u,h1,h2.map (λa ha oa ea=>k.out a oa ea (Mz j aE a ha)) (λ_ _ r=>ai.aR (sub _) (r.keep (k.mono λa z=>by rw[z];cases y' <;> first|exact .inl wc|exact .inl (.inl wc)))),h3⟩⟩
 ·by_cases aE:i=j
  ·subst aE;obtain⟨e',hl⟩:=a5 e2;cases e'
  ·rw[aZ aE]at e2;obtain⟨u,h1,h2⟩:=b.val j y' d2 e2;exact⟨u,h1,(h2.keep (k.mono λa z=>by rw[z];cases y' <;> first|exact .inl wc|exact .inl (.inl wc))).aR (sub _)⟩
 ·by_cases aE:i=j
  ·subst aE;obtain⟨e',hl⟩:=a5 e2;cases e';rw[os_eq];exact⟨v,hσ,r,λa ha=>(hA a ha).elim (h0 a) λz=>z.1⟩
  ·rw[aZ aE]at e2;rw[bq aE];obtain⟨u,h1,h2,h3⟩:=b.ow j d2 e2;exact⟨u,h1,h2.keep k.tup (λa ha oa ea=>k.out a oa ea (Mz j aE a ha)),h3⟩
 ·by_cases aE:i=j
  ·subst aE;obtain⟨e',hl⟩:=a5 e2;cases e'
  ·rw[aZ aE]at e2;rw[bq aE];obtain⟨a,ns,h1,h2,h3,h4,h5⟩:=b.pR j ok e2;exact⟨a,ns,h1,k.out a _ h2 (Mz j aE a (by rw[h4];simp)),h3,h4,h5⟩
 ·rcases mem h with⟨_,h⟩|⟨aE,h⟩
  ·exact⟨(r.mE a h).1,(r.mE a h).2,.inl ((hA a h).elim (h0 a) λz=>z.1),Po a h⟩
  ·obtain⟨q1,q2,q3,q4⟩:=b.dm j a h;rw[aw (Mz j aE a h)];exact⟨q1,q2,q3,λz=>q4 (hU a z)⟩
 ·rcases mem h1 with⟨e1,h1⟩|⟨n1,h1⟩
  ·rcases mem h2 with⟨e2,h2⟩|⟨n2,h2⟩
   ·rw[<- e1,<- e2]
   ·rcases hA a h1 with z|z
    ·exact absurd (b.jo i k2 a z h2) n2
    ·exact absurd ⟨k2,h2⟩ z.2.1
  ·rcases mem h2 with⟨e2,h2⟩|⟨n2,h2⟩
   ·rcases hA a h2 with z|z
    ·exact absurd (b.jo i j a z h1) n1
    ·exact absurd ⟨j,h1⟩ z.2.1
   ·exact b.jo j k2 a h1 h2
 ·by_cases aE:i=j
  ·rw[<- aE,os_eq];exact nd
  ·rw[bq aE];exact b.mB j
 ·refine k.out a oa (b.kp.out a oa z n) λq=>?_;subst q;rw[h0 a hc]at z;cases z
 ·by_cases Q5:a=c
  ·rw[Q5,ar];exact λz=>(nomatch z)
  ·rw[aw Q5];exact b.hJ a z
theorem bG.putIn {P:UX}{w:Vb}{U:Addr->Prop}{d d':D}{v:V}{A':List Addr}{c:Addr}{o:HO}(b:bG P w (C.u U) σ H β own)(e:β[i]?=some (some (.own d)))(hσ:σ[i]?=some (some v))(hc:c∈own i)
  (r:Own P w (upd H c o) d' v A') (nd:A'.Nodup) (hA:∀a∈A',a∈own i\/(C.H0 a=none/\¬ Wn own a/\U a)):bG P w C.z σ (upd H c o) (β.set i (some (.own d'))) (aH own i A') :=
 b.FT (U2:=λ_=>False) e hσ hc r nd hA (λ_ z=>z.elim) λ_ _ z=>z
theorem lq {A':List Addr}{c:Addr}{o:HO}{U:Addr->Prop}(n:Sn Z H (Wn own))(m:∀a,U a->Z.1 a=none)(hc:Wn own c)(Dj:∃oc,H c=some oc/\∀xs,oc≠.tup xs)(hA:∀a∈A',a∈own i\/(C.H0 a=none/\¬ Wn own a/\U a)):Sn Z (upd H c o) (Wn (aH own i A')):=by
 obtain⟨oc,h1,h2⟩:=Dj;have u:=Sn.upd (o':=o) n h1 h2 hc;exact⟨λb AH=>by
  obtain⟨j,hj⟩:=AH
  by_cases aE:i=j
  ·rw[<- aE,os_eq]at hj;rcases hA b hj with z|z
   ·exact n.w b ⟨i,z⟩
   ·exact .inr (m b z.2.2)
  ·rw[bq aE]at hj;exact n.w b ⟨j,hj⟩,u.k,u.d⟩
theorem bG.rH {P:UX}{w:Vb}{ds:List D}(b:bG P w C σ H β own)(e:β[i]?=some (some (.own (.lst ds)))):∃a vs A',σ[i]?=some (some (.ref a))/\H a=some (.lst vs)/\own i=a::A'/\aN P w H ds vs A':=by
 obtain⟨v,h1,⟨a,vs,A',rfl,h2,h3,h4⟩,_⟩:=b.ow i _ e;exact⟨a,vs,A',h1,h2,h3,h4⟩
variable {px ap cp:Pos}
theorem jG (he:∀U,PQ X (C.u U) p e φ)(hN:X.N[i]?=some x:=by rfl)(hv:sR X.env.scope x:=by first|exact .inl rfl|exact .inr (.inl rfl)|exact .inr (.inr rfl))(hd:(x==("__debug__" : Str))=false:=by decide)(gm:(x==("__classdict__" : Str))=false:=by decide)
  (fg:Xg (.Name x px) "append" X.env (eval (.Name x px) X.env)=eval (.Name x px) X.env:=by rfl)
  (pT:((WG cp (U5 [e] X.env)).all (λx=>!x.1)&&(Y9 cp (Yq [] X.env)).all (λx=>x.1.isSome)&&decide ([e].length+([]:List XZ).length+(if ([]:List XZ).isEmpty then 0 else 1)<30))=true:=by rfl)
  (ff:(ap.endLine==cp.line)=true:=by rfl) (hs:U5 [e] X.env=(false,eval e X.env)::U5 [] X.env:=by rfl) (fO:(WG cp (U5 [] X.env)).any (·.1)=false:=by rfl)
  (uy:Ww (.Call (.Attribute (.Name x px) "append" ap) [e] [] cp) none pos.line X.env=pure false:=by rfl) :
  PB X C (.Expr (.Call (.Attribute (.Name x px) "append" ap) [e] [] cp) pos) (λE β=>(∃ds,β[i]?=some (some (.own (.lst ds))))/\φ β λd k β'=>Ez k d/\∃ds,β'[i]?=some (some (.own (.lst ds)))/\ds.length<U4/\E.nx (β'.set i (some (.own (.lst (ds++[d])))))):=by
 refine⟨λE E' β l Hk=>by obtain⟨h1,q⟩:=Hk;exact⟨h1,(he λ_=>False).mono _ _ _ (λd k β' Hj=>by obtain⟨f,ds,h1,h2,q⟩:=Hj;exact⟨f,ds,h1,h2,l.nx _ q⟩) q⟩,λpins s σ H D I ⟨Z,E,β,⟨own,sq,n⟩,⟨⟨Rb,hb⟩,q⟩,ok⟩=>?_⟩
 refine i4 (pos:=pos) (vB (apos:=ap) (cpos:=cp) PySem.F.plainAttrs_list PySem.F.slot_list_append PySem.F.type_list_append gX (cR (pos:=px) hN hv hd gm) (a8 (he λa=>H a=none).pe cJ hs) fg pT ff hs fO) uy pins s σ H D I ?_;obtain⟨a,vs,A',h1,h2,h3,h4⟩:=sq.rH hb;refine⟨.ref a,h1,.inl ⟨rfl,vs,da.of h2⟩,tQ.of (he λa=>H a=none) (sq.kY (C:=C.z) (U:=λa=>H a=none) λa z=>z) q λd k β' v H1 aA ⟨f,ds,fP,hl,q⟩ o r=>?_⟩;obtain⟨a',vs',A1,g1,g2,g3,g4⟩:=o.sq.rH fP;rw[h1]at g1;cases g1;obtain⟨A,r1,r2,r3⟩:=r.fl f;have ha:a∈aA i:=by rw[g3];simp
 have nd:(a::(A1++A)).Nodup:=by
  have q:=o.sq.mB i;rw[g3]at q;refine Vw.mpr ⟨λz=>?_,V0.mpr ⟨(Vw.mp q).2,r2,λx hx y hy e=>?_⟩⟩
  ·rcases Vp.mp z with z|z
   ·exact(Vw.mp q).1 z
   ·exact(r3 a z).2.1 ⟨i,ha⟩
  ·subst e;exact(r3 x hy).2.1 ⟨i,by rw[g3];simp[hx]⟩
 have hA:∀b∈a::(A1++A),b∈aA i\/(C.H0 b=none/\¬ Wn aA b/\H b=none):=λb hb=>by
  rcases U0.mp hb with rfl|hb
  ·exact .inl ha
  ·rcases Vp.mp hb with hb|hb
   ·exact .inl (by rw[g3];simp[hb])
   ·exact .inr ⟨(r3 b hb).2.2,(r3 b hb).2.1,(r3 b hb).1⟩
 have kt:∀b xs,H1 b=some (.tup xs)->upd H1 a (.lst (vs'++[v])) b=some (.tup xs):=λb xs z=>by
  rw[aw (λz'=>by rw[z',g2]at z;cases z)];exact z
 have ne1:∀c∈A1,c≠a:=λc hc z=>by
  have q:=o.sq.mB i;rw[g3]at q;exact(Vw.mp q).1 (by rw[<- z];exact hc)
 have ne2:∀c∈A,c≠a:=λc hc z=>(r3 c hc).2.1 ⟨i,by rw[z];exact ha⟩
 have r':Own X.prog X.w (upd H1 a (.lst (vs'++[v]))) (.lst (ds++[d])) (.ref a) (a::(A1++A)) :=
  ⟨a,vs'++[v],A1++A,rfl,ar,rfl,(g4.keep kt λc hc oc ec=>by rw[aw (ne1 c hc)];exact ec).append (aN.one (r1.keep kt λc hc oc ec=>by rw[aw (ne2 c hc)];exact ec))⟩
 exact⟨a,vs',v,rfl,rfl,g2,by rw[g4.length];exact hl,ok.nx _ _ _ ⟨_,o.sq.putIn fP h1 ha r' nd hA,lq (n.trans o.sn) (λb z=>n.free z) ⟨i,ha⟩ ⟨_,g2,λxs z=>by cases z⟩ hA⟩ q⟩
end
abbrev fq:=D->Kd->a_->(a_->Prop)->Prop
abbrev oK:=List D->Kd->a_->(a_->Prop)->Prop
structure BA (X:Cx)(C:Cfg)(tg:Expr)(T:List Nat)(γ:fq):Prop where
 mono:∀d k β R R',(∀r,R r->R' r)->γ d k β R->γ d k β R'
 pg:PG X tg λv σ H Q=>∃own β d k,SQ X C σ H β own/\Rp X (fY C (Wn own) k) H d v/\γ d k β λβ'=>∀σ' aQ,SQ X C σ' H β' aQ->(∀a,Wn aQ a->Wn own a)->(∀j,j∉T->σ'[j]?=σ[j]?)->Q σ' H
structure DV (X:Cx)(C:Cfg)(wR:List Expr)(T:List Nat)(γ:oK):Prop where
 mono:∀d k β R R',(∀r,R r->R' r)->γ d k β R->γ d k β R'
 Qt:E8 X wR λvs σ H Q=>∃own β ds k,SQ X C σ H β own/\kj X (fY C (Wn own) k) H ds vs/\γ ds k β λβ'=>∀σ' aQ,SQ X C σ' H β' aQ->(∀a,Wn aQ a->Wn own a)->(∀j,j∉T->σ'[j]?=σ[j]?)->Q σ' H
section
variable {X:Cx}{C:Cfg}{tg:Expr}{wR:List Expr}{γ:fq}{γs:oK}{T T':List Nat}{pos:Pos}{e:Expr}{φ:aX}{p:Bool}
def Tw (i:Nat):fq:=λd k β R=>Ey d k λb=>R (β.set i (some b))
theorem ao {i:Nat}{x:Str}(hN:X.N.Nodup)(hi:X.N[i]?=some x:=by rfl)(hx:Loc X.env.scope x:=by first|exact .inl rfl|exact .inr rfl)
  (hf:X.fn x=true\/X.env.scope.names.lookup x=some .local:=by first|exact .inl rfl|exact .inr rfl|assumption):BA X C (.Name x pos) [i] (Tw i) :=
 ⟨λd k β R R' h q=>Ey.mono (d:=d) (k:=k) (K:=λb=>R (β.set i (some b))) (K':=λb=>R' (β.set i (some b))) (λ_=>h _) q,(vA hN hi hx hf).pre λv σ H Q xR=>by
  obtain⟨own,β,d,k,s,r,q⟩:=xR;have Mt:∀(v:V) (j:Nat),j∉[i]->(σ.set i (some v))[j]?=σ[j]?:=λv j hj=>aZ (Xa (by simpa using hj))
  cases k with
  |own=>exact q _ _ (s.dD (y:=true) r) (λa h=>dB h) (Mt v)
  |dy=>exact q _ _ (s.dD (y:=true) r) (λa h=>dB h) (Mt v)
  |old=>exact q _ _ (s.dD (y:=false) r) (λa h=>dB h) (Mt v)
  |bor=>exact q.2 _ _ (s.dD (y:=true) (ay.flat q.1 r)) (λa h=>dB h) (Mt v)⟩
abbrev sk (k:Kd):D->Kd
 |.int _=>.own
 |.bl _=>.own
 |.bH=>.own
 |.str _=>.own
 |_=>k.wk
theorem o7 {P:UX}{w:Vb}{W:Addr->Prop}{H:Hp}{k:Kd}{d:D}{v:V}(r:ay P w (fY C W k) H d v):ay P w (fY C W (sk k d)) H d v:=by
 cases d with
 |int i=>exact ay.flat rfl r
 |bl i=>exact ay.flat rfl r
 |bH=>exact ay.flat rfl r
 |str i=>exact ay.flat rfl r
 |_=>exact ay.aR (λa z=>z.imp (Bw a) id) r
def HD:oK:=λds _ β R=>ds=[]/\R β
def AV (γ:fq)(γs:oK):oK:=λds k β R=>∃d r,ds=d::r/\γ d (sk k d) β λβ'=>γs r k β' R
theorem cI:DV X C [] [] HD:=⟨λd k β R R' h q=>⟨q.1,h _ q.2⟩,Cs.pre λvs σ H Q AG=>by
 obtain⟨own,β,ds,k,s,r,e,q⟩:=AG;subst e;exact⟨r,q σ own s (λ_ z=>z) λ_ _=>rfl⟩⟩
theorem aS (h1:BA X C tg T γ)(h2:DV X C wR T' γs)(hs:(WN (tg::wR) X.env).map (·.2)=assign tg X.env::(WN wR X.env).map (·.2):=by rfl):DV X C (tg::wR) (T++T') (AV γ γs) :=
 ⟨λds k β R R' h Dh=>by obtain⟨d,r,e,q⟩:=Dh;exact⟨d,r,e,h1.mono _ _ β _ _ (λβ' q=>h2.mono r k β' _ _ h q) q⟩,
  (zJ h1.pg h2.Qt hs).pre λvs σ H Q Kl=>by
    obtain⟨own,β,ds,k,s,rr,d,r,e,q⟩:=Kl;subst e;obtain⟨v,vr,rfl,rv,RT⟩:=rr;exact⟨v,vr,rfl,own,β,d,_,s,o7 rv,h1.mono _ _ β _ _ (λβ' q σ' aQ s' w' t'=>⟨aQ,β',r,k,s',ai.aR (gL w' k) RT,h2.mono r k β' _ _ (λβ2 q2 σ2 bc s2 w2 t2=>q2 σ2 bc s2 (λa z=>w' a (w2 a z)) λj hj=>(t2 j λz=>hj (Vy _ z)).trans (t' j λz=>hj (WD _ z))) q⟩) q⟩⟩
def Tv (n:Nat)(γs:oK):fq:=λd k β R=>∃ds,d=.tup ds/\ds.length=n/\γs ds k β R
theorem dq {k:Nat}{n:Nat}(hc:X.calm=true)(h:DV X C wR T γs)(hn:(WN wR X.env).length=n:=by rfl)(Ir:(WN wR X.env).findIdx? (·.1)=none:=by rfl):BA X C (.Tuple wR k pos) T (Tv n γs) :=
 ⟨λd k β R R' hh Kk=>by obtain⟨ds,e,l,q⟩:=Kk;exact⟨ds,e,l,h.mono ds k β _ _ hh q⟩,(F0 hc h.Qt hn Ir).pre λv σ H Q Kj=>by
  obtain⟨own,β,d,k,s,r,ds,e,l,q⟩:=Kj;subst e;obtain⟨a,vs,rfl,ha,rs⟩:=r;exact⟨a,vs,rfl,sW.of ha,by rw[rs.length];exact l,own,β,ds,k,s,rs,q⟩⟩
theorem iV {Z:Hp×(Addr->Prop)}{H:Hp}{own aQ:Nat->List Addr}(n:Sn Z H (Wn own))(h:∀a,Wn aQ a->Wn own a):Sn Z H (Wn aQ):=⟨λb z=>n.w b (h b z),n.k,n.d⟩
theorem pI (he:PQ X C.z p e φ)(hg:BA X C.z tg T γ)(hs:swapsWithSole [tg] e pos.line X.env=pure false:=by rfl)(hw:swappedStores [tg] e X.env=pure none:=by rfl)
  (h1:(WN [tg] X.env).map (·.2)=[assign tg X.env]:=by rfl):PB X C (.Assign [tg] e pos) (λE β=>φ β λd k β'=>γ d k β' E.nx) :=
 ⟨λE E' β l q=>he.mono _ _ _ (λd k β' q=>hg.mono _ _ _ _ _ l.nx q) q,(t6 he.pe hg.pg hs hw h1).pre λD σ H ⟨Z,E,β,⟨own,s,n⟩,q,ok⟩=>tQ.of he s q λd k β' v H' aQ q o r =>
  ⟨aQ,β',d,k,o.sq,ay.aR (λa z=>z.elim id λz=>z.elim) r.rep,hg.mono _ _ _ _ _ (λβ2 q σ2 bc s2 w2 _=>ok.nx _ _ _ ⟨bc,s2,iV (n.trans o.sn) w2⟩ q) q⟩⟩
theorem pH (he:PQ X C.z p e φ)(uy:Ww e none pos.line X.env=pure false:=by rfl):PB X C (.Expr e pos) (λE β=>φ β λ_ _ β'=>E.nx β') :=
 ⟨λE E' β l q=>he.mono _ _ _ (λd k β' q=>l.nx _ q) q,(i4 he.pe uy).pre λD σ H AD=>by obtain⟨Z,E,β,⟨own,s,n⟩,q,ok⟩:=AD;exact tQ.of he s q λd k β' v H' aQ q o r=>ok.nx _ _ _ (o.sb n) q⟩
abbrev QH (ro:Bool)(k:Kd)(d:D):Prop:=match k,ro with
 |.own,_=>True
 |.dy,false=>True
 |_,_=>d.flat=true
theorem e9 {P:UX}{w:Vb}{W:Addr->Prop}{ro:Bool}{H H':Hp}{d:D}{v:V}(f:d.flat=true)(r:ay P w W H' d v):qf P w ro H H' d v:=by
 cases ro with
 |true=>exact⟨[],e7 f r,V_,λc hc=>(nomatch hc)⟩
 |false=>exact ay.flat f r
theorem CY {P:UX}{w:Vb}{Z:Hp×(Addr->Prop)}{own:Nat->List Addr}{ro:Bool}{H':Hp}{k:Kd}{d:D}{v:V}(f:QH ro k d)(r:KV P w C Z own H' k d v):qf P w ro C.H0 H' d v:=by
 cases k with
 |own =>
  cases ro with
  |true=>obtain⟨A,h1,h2,h3⟩:=r;exact⟨A,h1,h2,λc hc=>(h3 c hc).2.2⟩
  |false=>exact ay.aR (λa z=>.inr z) r.rep
 |dy =>
  cases ro with
  |true=>exact e9 f r.rep
  |false=>exact ay.aR (λa z=>.inr z) r.rep
 |old=>cases ro <;> exact e9 f r.rep
 |bor=>cases ro <;> exact e9 f r.rep
theorem aJ (he:PQ X C.z p e φ):PB X C (.Return (some e) pos) (λE β=>φ β λd k β'=>QH C.ro k d/\E.rt d β') :=
 ⟨λE E' β l q=>he.mono _ _ _ (λd k β' q=>⟨q.1,l.rt _ _ q.2⟩) q,(gz he.pe).pre λD σ H AB=>by obtain⟨Z,E,β,⟨own,s,n⟩,q,ok⟩:=AB;exact tQ.of he s q λd k β' v H' aQ q o r=>ok.rt _ _ _ _ _ (o.sb n) (CY (C:=C.z) q.1 r) q.2⟩
theorem pG {i:Nat}{x:Str}{px:Pos}(hN:X.N[i]?=some x:=by rfl)(hv:sR X.env.scope x:=by first|exact .inl rfl|exact .inr (.inl rfl)|exact .inr (.inr rfl))(hd:(x==("__debug__" : Str))=false:=by decide)(gm:(x==("__classdict__" : Str))=false:=by decide):
  PB X C (.Return (some (.Name x px)) pos) (λE β=>∃d,β[i]?=some (some (.own d))/\E.rt d β) :=
 ⟨λE E' β l uB=>by obtain⟨d,h1,q⟩:=uB;exact⟨d,h1,l.rt _ _ q⟩,(gz (cR (pos:=px) hN hv hd gm)).pre λD σ H AJ=>by
  obtain⟨Z,E,β,⟨own,s,n⟩,⟨d,h1,q⟩,ok⟩:=AJ;obtain⟨v,e1,r,h0⟩:=s.ow i d h1;refine⟨_,e1,ok.rt _ _ _ _ _ ⟨own,s,n⟩ ?_ q⟩;cases hr:C.ro with
  |true=>exact⟨_,r,s.mB i,h0⟩
  |false=>exact r.rep λc hc z=>z (h0 c hc)⟩
end
abbrev c7:=a_->(List D->Kd->a_->Prop)->Prop
structure yE (X:Cx)(C:Cfg)(p:Bool)(tg iter:Expr)(ι:c7):Prop where
 mono:∀β R R',(∀d k β,R d k β->R' d k β)->ι β R->ι β R'
 pi:PI X tg iter λσ H R=>∃β own,SQ X C σ H β own/\ι β λds k β'=>∀J H' aQ,Out X C σ H own p β' H' aQ->wK X (av C (Wn aQ) k) J ds H'->R J H'
section
variable {X:Cx}{C:Cfg}{tg e a b:Expr}{φ:aX}{φs:b_}{p:Bool}{pp pos:Pos}
def N9 (φ:aX):c7:=λβ R=>φ β λd k β'=>∃ds,d=.lst ds/\R ds k β'
theorem a9 (h:PQ X C p e φ):yE X C p tg e (N9 φ) :=
 ⟨λβ R R' k q=>h.mono β _ _ (λd kd β' Hm=>by obtain⟨ds,e,q⟩:=Hm;exact⟨ds,e,k _ _ _ q⟩) q,(vz h.pe).pre λσ H R ⟨β,own,s,q⟩=>tQ.of h s q λd k β' v H1 aA AI o1 r1=>by
  obtain⟨ds,e,q1⟩:=AI;subst e;obtain⟨a,vs,rfl,h1,n1,q2⟩:=r1.rep;exact⟨a,rfl,⟨vs,da.of h1⟩,q1 _ _ aA o1 (rR h1 n1 q2)⟩⟩
def Dd (φs:b_):c7:=λβ R=>φs β λds _ β'=>∃j:Int,ds=[.int j]/\-(2 ^ 62)<=j/\j<2 ^ 62/\R (kq 0 j.toNat) .dy β'
def vY (φs:b_):c7:=λβ R=>φs β λds _ β'=>∃i j:Int,ds=[.int i,.int j]/\(-(2 ^ 62)<=i/\i<2 ^ 62/\-(2 ^ 62)<=j/\j<2 ^ 62)/\R (kq i (j-i).toNat) .dy β'
theorem bx (hm:X.mg "range" = none) (ha:qo X C p [a] φs) (hg:Gl X "range" := by rfl) (hs:U5 [a] X.env=[(false,eval a X.env)]:=by rfl):yE X C p tg (.Call (.Name "range" pp) [a] [] pos) (Dd φs) :=
 ⟨λβ R R' k q=>ha.mono β _ _ (λd kd β' Hi=>by obtain⟨j,e,h1,h2,q⟩:=Hi;exact⟨j,e,h1,h2,k _ _ _ q⟩) q,(xo hg hm ha.pa hs).pre λσ H R ⟨β,own,s,q⟩=>tf.of ha s q λds ks β' vs H1 aA Hg o1 r1=>by
  obtain⟨j,e,h1,h2,q1⟩:=Hg;subst e;obtain⟨x,rfl,hx⟩:=oI r1.ip;cases hx;exact⟨j,rfl,h1,h2,q1 _ _ aA o1 jQ⟩⟩
theorem t9 (hm:X.mg "range" = none) (ha:qo X C p [a,b] φs) (hg:Gl X "range" := by rfl) (hs:U5 [a,b] X.env=[(false,eval a X.env),(false,eval b X.env)]:=by rfl) (uz:U5 [b] X.env=[(false,eval b X.env)]:=by rfl) :
  yE X C p tg (.Call (.Name "range" pp) [a,b] [] pos) (vY φs) :=
 ⟨λβ R R' k q=>ha.mono β _ _ (λd kd β' Hf=>by obtain⟨i,j,e,h1,q⟩:=Hf;exact⟨i,j,e,h1,k _ _ _ q⟩) q,(nz hg hm ha.pa hs uz).pre λσ H R ⟨β,own,s,q⟩=>tf.of ha s q λds ks β' vs H1 aA OC o1 r1=>by
  obtain⟨i,j,e,h1,q1⟩:=OC;subst e;obtain⟨x,y,rfl,hx,hy⟩:=wF r1.ip;cases hx;cases hy;exact⟨i,j,rfl,h1,q1 _ _ aA o1 jQ⟩⟩
end
def Du (γ:fq)(ψ:E6)(E:gf)(ds:List D)(k:Kd)(β:a_):Prop:=∃I:Nat->a_->Prop,I 0 β/\(∀i d β,ds[i]?=some d->I i β->γ d (sk k d) β λβ1=>ψ (E.lp (I (i+1))) β1)/\∀β,I ds.length β->E.nx β
section
variable {X:Cx}{C:Cfg}{tg iter c:Expr}{γ:fq}{T:List Nat}{ψ:E6}{ι:c7}{τ:ba}{body:List Stmt}{pos:Pos}{p:Bool}
theorem Du.mono {E E':gf}{ds:List D}{k:Kd}{β:a_}(hγ:∀d k β R R',(∀r,R r->R' r)->γ d k β R->γ d k β R')(hψ:∀E E' β,Le E E'->ψ E β->ψ E' β)(l:Le E E'):Du γ ψ E ds k β->Du γ ψ E' ds k β:=λ⟨I,h0,h1,h2⟩ =>
 ⟨I,h0,λi d β e q=>hγ d _ β _ _ (λβ1 q=>hψ {nx:=I (i+1),rt:=E.rt,bk:=E.nx,ct:=I (i+1)} {nx:=I (i+1),rt:=E'.rt,bk:=E'.nx,ct:=I (i+1)} β1 ⟨λ_ q=>q,l.rt,l.nx,λ_ q=>q⟩ q) (h1 i d β e q),λβ q=>l.nx _ (h2 β q)⟩
theorem DT {own bc:Nat->List Addr}{H H2:Hp}{k:Kd}(n:Sn (H,Wn own) H2 (Wn bc)):∀b,av C (Wn bc) k b->av C (Wn own) k b\/H b=none:=λb z=>by
 cases k with
 |own=>exact z.elim (λz=>(n.w b z).imp .inl id) λz=>.inl (.inr z)
 |dy=>exact z.elim (λz=>(n.w b z).imp .inl id) λz=>.inl (.inr z)
 |old=>exact n.w b z
 |bor=>exact z.elim
theorem cb (hp:PassesOwn (model X.prog X.w) X.A X.env X.xe)(hc:X.calm=true)(hi:yE X C.z p tg iter ι)(hg:BA X C.z tg T γ)(hb:wI X C body ψ)(hs:∀x,VV iter X.env x=pure x:=by intro _;rfl):
  PB X C (.For tg iter body [] pos) (λE β=>ι β λds k β1=>hold k false/\Du γ ψ E ds k β1) :=
 ⟨λE E' β l q=>hi.mono _ _ _ (λds k β1 q=>⟨q.1,q.2.mono hg.mono hb.mono l⟩) q,(zA hp hc hi.pi hg.pg hb.ps hs).pre λD σ H OA=>by
  obtain⟨Z,E,β,⟨own,s,n⟩,q,ok⟩:=OA;refine⟨β,own,s,hi.mono _ _ _ (λds k β1 ⟨hk,I,i0,i1,i2⟩ J H1 aA o1 it=>?_) q⟩;have n':=n.trans o1.sn;have ig:∀b,Wn aA b\/H1 b=none->av C.z (Wn aA) k b\/H1 b=none:=λb z=>by
   cases k with
   |own=>exact z.imp .inl id
   |dy=>exact z.imp .inl id
   |old=>exact z
   |bor=>exact hk.elim
  have EC:=it (λb=>av C.z (Wn aA) k b\/H1 b=none) λb z=>z;refine⟨λi m σ H=>i<=ds.length/\m=ds.length-i/\∃β,SB X C (H1,Wn aA) σ H β/\I i β,⟨_,Ve _,rfl,β1,⟨aA,o1.sq,Sn.refl⟩,i0⟩,?_⟩;rintro i m σ2 H2 ⟨hi,rfl,β2,⟨bc,s2,n2⟩,hl⟩;obtain⟨c8,mV⟩:=EC i H2 (n2.k.mono ig)
  by_cases c5:i<ds.length
  ·right
   have hd:ds[i]?=some ds[i]:=U3 c5;obtain⟨go,yl⟩:=c8 _ hd;refine⟨go,λσ' H'=>∃β,SB X C (H1,Wn aA) σ' H' β/\I (i+1) β,λσ' H' Hc=>by obtain⟨β',tW,uC⟩:=Hc;exact⟨_,by lia,c5,rfl,β',tW,uC⟩,λx H3 y=>?_⟩
   obtain⟨s3,r3⟩:=yl x H3 y;refine⟨bc,β2,_,_,s2.same s3,o7 (C:=C.z) (ay.aR (λb z=>DT (C:=C) n2 b (z.elim id λz=>z.elim)) r3),hg.mono _ _ _ _ _ (λβ4 q σ4 rf s4 w4 _=>?_) (i1 i _ β2 hd hl)⟩;refine⟨(H1,Wn aA),_,β4,⟨rf,s4,iV (n2.same s3) w4⟩,q,⟨λσ5 H5 β5 w9 q5=>⟨β5,w9,q5⟩,λσ5 H5 β5 d5 v5 w9 r5 q5=>?_,λσ5 H5 β5 w9 q5=>?_,λσ5 H5 β5 w9 q5=>⟨β5,w9,q5⟩⟩⟩
   ·obtain⟨jI,s5,n5⟩:=w9;exact ok.rt _ _ _ _ _ ⟨jI,s5,n'.trans n5⟩ r5 q5
   ·obtain⟨jI,s5,n5⟩:=w9;exact ok.nx _ _ _ ⟨jI,s5,n'.trans n5⟩ q5
  ·left
   have e:i=ds.length:=by lia
   subst e;exact⟨mV (UU _),ok.nx _ _ _ ⟨bc,s2,n'.trans n2⟩ (i2 β2 hl)⟩⟩
def Fj (τ:ba)(ψ:E6):E6:=λE β=>∃V:Nat->a_->Prop,(∃m,V m β)/\∀m β,V m β->τ β λt β1=>if t=true then ψ {nx:=λβ'=>∃m',m'<m/\V m' β',rt:=E.rt,bk:=E.nx,ct:=λβ'=>∃m',m'<m/\V m' β'} β1 else E.nx β1
theorem qZ (hp:PassesOwn (model X.prog X.w) X.A X.env X.xe)(hc:tE X C.z p c τ)(hb:wI X C body ψ):PB X C (.While c body [] pos) (Fj τ ψ) :=
 ⟨λE E' β l ⟨V,h0,h⟩=>⟨V,h0,λm β v=>hc.mono _ _ _ (λt β1 q=>by
   cases t
   ·exact l.nx _ q
   ·exact hb.mono {nx:=λβ'=>∃m',m'<m/\V m' β',rt:=E.rt,bk:=E.nx,ct:=λβ'=>∃m',m'<m/\V m' β'} {nx:=λβ'=>∃m',m'<m/\V m' β',rt:=E'.rt,bk:=E'.nx,ct:=λβ'=>∃m',m'<m/\V m' β'} β1 ⟨λ_ q=>q,l.rt,l.nx,λ_ q=>q⟩ q) (h m β v)⟩,(zu hp hc.pt hb.ps).pre λD σ H AF=>by
  obtain⟨Z,E,β,sb,⟨V,⟨m0,v0⟩,h⟩,ok⟩:=AF;refine⟨λm σ H=>∃β,SB X C Z σ H β/\V m β,⟨m0,β,sb,v0⟩,λm σ H ⟨β,⟨own,s,n⟩,v⟩=>?_⟩;refine j0.of hc s (h m β v) λt β1 H1 aA q o1=>?_;cases t
  ·exact ok.nx _ _ _ (o1.sb n) q
  ·exact⟨λσ' H'=>∃β',SB X C Z σ' H' β'/\∃m',m'<m/\V m' β',λσ' H' G_=>by obtain⟨β',tW,m',hm,v'⟩:=G_;exact⟨m',hm,β',tW,v'⟩,Z,_,β1,o1.sb n,q,λσ' H' β' tW q'=>⟨β',tW,q'⟩,ok.rt,ok.nx,λσ' H' β' tW q'=>⟨β',tW,q'⟩⟩⟩
end
def startB (N:List Str)(ds:List D):a_:=ds.map (λd=>some (.val false d))++Vo (N.length-ds.length) none
def jz (N:List Str)(ok:List Int->Prop)(ds:List D):a_:=some (.hand ok)::(ds.map (λd=>some (.val false d))++Vo (N.length-(ds.length+1)) none)
section
variable {P:UX}{w:Vb}{K:PySem.W.Frag}{mg:Str->Option UR}{base:Heap}
theorem gx {i n:Nat}{b:B}(h:(Vo n (none:Option B))[i]?=some (some b)):False:=by
 rw[List.getElem?_replicate]at h
 split at h <;> cases h
theorem eU {ds:List D}{n i:Nat}{b:B}(h:(ds.map (λd=>some (B.val false d))++Vo n none)[i]?=some (some b)):∃d,ds[i]?=some d/\b=.val false d:=by
 by_cases hi:i<ds.length
 ·rw[Ws (by simpa using hi),Vd]at h
  cases q:ds[i]? with
  |none=>rw[q]at h;cases h
  |some d=>rw[q]at h;cases h;exact⟨d,rfl,rfl⟩
 ·rw[VR (by simpa using hi)]at h
  exact(gx h).elim
theorem jy {N:List Str}{vs:List V}{i:Nat}{v:V}(h:vs[i]?=some v):(start N vs)[i]?=some (some v):=by
 unfold start;rw[Ws (by simpa using (UY.mp h).1),Vd,h]
 rfl
theorem yW {N:List Str}{vs:List V}{ds:List D}{H:Hp}{ro:Bool}(r:ai P w (λ_=>False) H ds vs):bG P w ⟨H,λ_=>False,ro,λ_=>False⟩ (start N vs) H (startB N ds) (λ_=>[]):=by
 refine⟨?_,λi y d h=>?_,λi d h=>?_,λi ok h=>?_,λi a h=>(nomatch h),λi j a h=>(nomatch h),λi=>V_,Kp.refl,λ_ z=>z,λi y d h=>by obtain⟨d',e,e'⟩:=eU h;cases e'⟩
 ·unfold startB start;simp[r.length]
 ·obtain⟨d',e,e'⟩:=eU h;cases e';obtain⟨v,e1,e2⟩:=ai.get r e;exact⟨v,jy e1,ay.aR (λa z=>z.elim (λOx=>by obtain⟨_,q⟩:=Ox;exact(nomatch q)) λz=>z) e2⟩
 ·obtain⟨d',e,e'⟩:=eU h;cases e'
 ·obtain⟨d',e,e'⟩:=eU h;cases e'
theorem j_ {x qual:Str}{st:Stmt}{f:Addr}{fd:Vz}{N ps:List Str}{k:Nat}{F:FD}{ro:Bool}(G:BK K x qual st f fd)(S:aC N ps (ak st))(len:∀ds R,F ds R->ds.length=ps.length)
  (l3:∀(cC:UR) (A:VZ) (outer:List Env) (s:UT) (H:Hp) (E:XK),cT k (A.deeper (Yd qual (ak st) s.heap.objs.size f cC)) ->
   ∃ψ,wI (m6 bw P w K mg base N qual (ak st) f cC A outer s H E).En ⟨H,λ_=>False,ro,λ_=>False⟩ (eM st) ψ/\∀ds R,F ds R->ψ {nx:=λ_=>R .bH,rt:=λd _=>R d} (startB N ds)) :
  aD P w K mg base bw (k+1) f fd ps (bZ P w ro F):=by
 refine G.ok S (λvs H Q E h=>?_) (λcC A outer s H vs Q E hr h=>?_)
 ·obtain⟨ds,r,h⟩:=h;rw[r.length];exact len ds _ h
 ·obtain⟨ds,r,h⟩:=h;obtain⟨ψ,hb,hF⟩:=l3 cC A outer s H E hr;refine⟨_,hb.ps,(H,Wn λ_=>[]),_,startB N ds,⟨λ_=>[],yW r,Sn.refl⟩,hF ds _ h,λσ H' β sb q=>?_,λσ H' β d v sb rr q=>?_,λ_ _ _ _ z=>z.elim,λ_ _ _ _ z=>z.elim⟩
  ·obtain⟨own,s',n'⟩:=sb;exact q _ H' (λb o e=>s'.kp.out b o e (λz=>z)) (e9 (W:=λ_=>False) rfl rfl)
  ·obtain⟨own,s',n'⟩:=sb;exact q _ H' (λb o e=>s'.kp.out b o e (λz=>z)) rr
theorem wW {N:List Str}{ok:List Int->Prop}{h:Addr}{ns:List Int}{vs:List V}{ds:List D}{H:Hp}{ro:Bool}(hh:H h=some (.lst (ns.map V.int)))(ho:ok ns)(r:ai P w (λa=>a=h) H ds vs):
  bG P w ⟨H,(·=h),ro,λ_=>False⟩ (start N (.ref h::vs)) H (jz N ok ds) (λi=>if i=0 then [h] else []):=by
 have CB:∀{i:Nat} {a:Addr},a∈(if i=0 then [h] else ([]:List Addr))->i=0/\a=h:=λ{i a} q=>by
  by_cases e:i=0
  ·rw[if_pos e]at q;exact⟨e,by simpa using q⟩
  ·rw[if_neg e]at q;cases q
 have Dr:∀{i:Nat} {b:B},(jz N ok ds)[i]?=some (some b)->(i=0/\b=.hand ok)\/∃j d,i=j+1/\ds[j]?=some d/\b=.val false d:=λ{i b} q=>by
  unfold jz at q;cases i with
  |zero=>simp at q;exact .inl ⟨rfl,q.symm⟩
  |succ i =>
   rw[List.getElem?_cons_succ]at q;obtain⟨d,e,e'⟩:=eU q;exact .inr ⟨i,d,rfl,e,e'⟩
 refine⟨?_,λi y d q=>?_,λi d q=>?_,λi yy q=>?_,λi a q=>?_,λi j a h1 h2=>?_,λi=>?_,Kp.refl,λ_ z=>z,λi y d q=>(Dr q).elim (λLh=> by obtain⟨_,e⟩ := Lh;cases e) (λLg=> by obtain⟨j,d',_,_,e'⟩ := Lg;cases e')⟩
 ·unfold jz start;simp[r.length]
 ·rcases Dr q with⟨_,e⟩|⟨j,d',rfl,e,e'⟩
  ·cases e
  ·cases e';obtain⟨v,e1,e2⟩:=ai.get r e;exact⟨v,jy (by simpa using e1),ay.aR (λa z=>z.elim (λAE=>by obtain⟨j,q⟩:=AE;exact(CB q).2) λz=>z.elim) e2⟩
 ·rcases Dr q with⟨_,e⟩|⟨j,d',_,_,e'⟩
  ·cases e
  ·cases e'
 ·rcases Dr q with⟨e0,e⟩|⟨j,d',_,_,e'⟩
  ·cases e;subst e0;exact⟨h,ns,jy rfl,hh,ho,rfl,.inr rfl⟩
  ·cases e'
 ·obtain⟨_,rfl⟩:=CB q;exact⟨by rw[hh];exact λz=>(nomatch z),λxs z=>(by rw[hh]at z;cases z),.inr rfl,λz=>z⟩
 ·rw[(CB h1).1,(CB h2).1]
 ·by_cases e:i=0
  ·simp[e]
  ·simp[e]
theorem NT {x qual:Str}{st:Stmt}{f:Addr}{fd:Vz}{N ps:List Str}{k:Nat}{F:FD}{ok:List Int->Prop}{ro:Bool}(G:BK K x qual st f fd)(S:aC N ps (ak st))(len:∀ds R,F ds R->ds.length+1=ps.length)
  (l3:∀(cC:UR) (A:VZ) (outer:List Env) (s:UT) (H:Hp) (E:XK) (IO:Addr->Prop),cT k (A.deeper (Yd qual (ak st) s.heap.objs.size f cC)) ->
   ∃ψ,wI (m6 bw P w K mg base N qual (ak st) f cC A outer s H E).En ⟨H,IO,ro,λ_=>False⟩ (eM st) ψ/\∀ds R,F ds R->ψ {nx:=λ_=>False,rt:=λd β=>β[0]?=some (some (.hand ok))/\R d} (jz N ok ds)) :
  aD P w K mg base bw (k+1) f fd ps (tR P w ok ro F):=by
 refine G.ok S (λvs H Q E h=>?_) (λcC A outer s H vs Q E hr h=>?_)
 ·obtain⟨h,vs',ds,ns,rfl,hh,ho,r,q⟩:=h;rw[U_,r.length];exact len ds _ q
 ·obtain⟨h,vs',ds,ns,rfl,hh,ho,r,q⟩:=h;obtain⟨ψ,hb,hF⟩:=l3 cC A outer s H E (·=h) hr;refine⟨_,hb.ps,(H,_),_,jz N ok ds,⟨_,wW hh ho r,Sn.refl⟩,hF ds _ q,λσ H' β sb z=>z.elim,λσ H' β d v sb rr ⟨b0,q⟩=>?_,λ_ _ _ _ z=>z.elim,λ_ _ _ _ z=>z.elim⟩;obtain⟨own,s',n'⟩:=sb;obtain⟨a,h9,g1,g2,g3,g4,g5⟩:=s'.pR 0 ok b0;have ea:a=h:=g5.elim (λz=>(z h rfl).elim) λz=>z;subst ea;exact q v H' h9 s'.kp s'.hJ g2 g3 rr
end
end L2.Q
namespace L2
open PySem PySem.Spec PySem.SeqAt PyProof.Rows
theorem tx.pre {X:Cx}{ifs:List Expr}{t t':TT}(h:tx X ifs t)(k:∀σ H Q,t' σ H Q->t σ H Q):tx X ifs t':=λpins s σ H Q I q=>h pins s σ H Q I (k σ H Q q)
theorem r_ {T:D->Prop}:∀{outs:List D},(∀d∈outs,T d/\d.flat=true)->D.cK outs=true
 |[],_=>rfl
 |d::ds,h=>by
  rw[D.cK,(h d (by simp)).2,r_ λd' hd=>h d' (by simp[hd])]
  rfl
section
end
section
end
section
variable {X:Cx}{e:Expr}{g:Xj}{gs:List Xj}{scope:Xr}{N':List Str}{lk:List (Option Nat)}{tg:Addr->TG}{tt:Addr->TT}{wi:TI}
theorem ki {eP:Sem UR}{o:HO}{after:UR->Env->Sem Fin->Sem Fin}{ta:Addr->m8}(L:Links X scope N' lk)(hc:X.calm=true)(hA:qg X eP o)
  (F:∀acc env,ju e 0 g acc env (after acc env))
  (Lq:∀a cl C s H ex,PG (aF X scope N' cl C s H ex) g.target (tg a)/\tx (aF X scope N' cl C s H ex) g.ifs (tt a)/\sY (aF X scope N' cl C s H ex) (after (.ref a) (aF X scope N' cl C s H ex).env) (ta a))
  {cl:List (Str×Addr)} (mX:∀x,(x,VJ)∈scope.names->∃c,cl.lookup x=some c) (kS:∀x c,cl.lookup x=some c->X.env.cells.lookup x=some c)
  {pins:List (Addr×Obj)} {σ:St} {s:UT} {Q:V->Hp->Prop} {ED:UR} {E:UR->UT->Prop} {RR:UR->Addr->Result->UT->Prop}
  (h:MW X pins σ g.target (λJ H1=>∀a,H1 a=none->f9 J (tg a) (tt a) (ta a) (λ_ H'=>Q (.ref a) H') (c_ lk σ) (upd H1 a o)) ED s)
  (hR:∀a H' C s',Inv X pins σ H' s'->gM X pins H' C->(∃m,s'.heap.Ns C m)->Q (.ref a) H'->RR (.ref a) C (.ok .next) s') :
  Vu (model X.prog X.w) X.A eP (λacc s₃=>Vu (model X.prog X.w) X.A (newFunctionEnv scope X.env.globals cl [] X.env.qual none .none (some X.env)) (λLX s₄ =>
   Yw (model X.prog X.w) X.A (.compStart e 0 ED acc {LX with scope:=relabel scope X.env}) (RR acc LX.locals) s₄) E s₃) E s:=by
 obtain⟨it,fp,tn,J,H2,e1,I2,T,f_,f2,hl⟩:=h;subst e1;refine hA.ok pins s σ H2 _ E I2 λa s3 ha hn hk I3=>?_;refine wpAny_newFunctionEnv L.uf (by intro y hy;simp at hy) (λh₁ Hr G7=>?_) L.kind
 have OG:∀b∈fp,∃o,s3.heap.get? b=some o:=λb hb=>by
  obtain⟨ob,q,_⟩:=T.obj _ _ f_ b hb;exact⟨ob,hk b ob q⟩
 have Tj:∀b∈fp,b≠a:=λb hb=>by
  obtain⟨ob,q,_⟩:=T.obj _ _ f_ b hb;exact VP (VC (Vi q) ha)
 have f3:∀b∈fp,gM X pins (upd H2 a o) b:=λb hb=>⟨by rw[aw (Tj b hb)];exact(f2 b hb).1,(f2 b hb).2⟩
 have Lo:∀b ob,s3.heap.get? b=some ob->h₁.get? b=some ob:=λb ob q=>G7.extBut b ob (VP (Vi q)) (Vc _ q);have MK:h₁.Ns s3.heap.objs.size (λ_=>none):=Hr;have I4:=Av (t':=s3.toks+([]:List (Str×UR)).length) I3 L f3 OG mX kS MK Lo;obtain⟨g1,g2,g3⟩:=Lq a cl s3.heap.objs.size s3 (upd H2 a o) fp;have f4:∀b∈fp,gM (aF X scope N' cl s3.heap.objs.size s3 (upd H2 a o) fp) [] (upd H2 a o) b:=λb hb =>
  ⟨(f3 b hb).1,(I4.ok.MQ b hb).1,I4.ok.A9 b hb,.inl hb,(I4.ok.MQ b hb).2,λp hp=>absurd (show p∈([]:List (Addr×Obj)) from hp) (by simp)⟩
 have Jd:tn 0 h₁:=T.keep 0 _ _ f_ λb hb ob q=>Lo b ob (hk b ob q);refine Ye (mx (X:=aF X scope N' cl s3.heap.objs.size s3 (upd H2 a o) fp) rfl hc (F (.ref a) _) g1 g2 g3 T I4 Jd f4 (hl a hn)) λr s' hr=>?_;obtain⟨rfl,σ',H',J',q⟩:=hr;have I5:Inv X pins σ H' s':=Aw (C:=s3.heap.objs.size) (h'':=s'.heap) I3 f3 J' (.refl ..);refine hR a H' s3.heap.objs.size s' I5 (I3.AY (UU _) J'.free) ?_ q;obtain⟨m,hm,_⟩:=J'.loc;exact⟨m,hm⟩
theorem lI {eP:Sem UR}{o:HO}{after:UR->Env->Sem Fin->Sem Fin}{ta:Addr->m8}{pos:Pos}(L:Links X scope N' lk)(hc:X.calm=true)(hA:qg X eP o)
  (Hw:eval e X.env=comprehension e scope X.env pos eP false (eval g.iter X.env)) (Pj:clausesOf e=g::gs)
  (F:∀acc env,ju e 0 g acc env (after acc env)) (hi:PI X g.target g.iter wi)
  (Lq:∀a cl C s H ex,PG (aF X scope N' cl C s H ex) g.target (tg a)/\tx (aF X scope N' cl C s H ex) g.ifs (tt a)/\sY (aF X scope N' cl C s H ex) (after (.ref a) (aF X scope N' cl C s H ex).env) (ta a))
  (hs:∀x,VV g.iter X.env x=pure x) :
  PE X e (λσ H Q=>wi σ H λJ H1=>∀a,H1 a=none->f9 J (tg a) (tt a) (ta a) (λ_ H'=>Q (.ref a) H') (c_ lk σ) (upd H1 a o)):=by
 intro pins s σ H Q I h;rw[Hw];obtain⟨cl,AR,mX,kS⟩:=ie (env:=X.env) (scope:=scope) λx hx=>I.ok.has x (L.free x hx);refine wpAny_comprehension_free (use:=none) Pj hs AR L.kind L.names (bA (hi pins s σ H _ I h) λv s1 h1=>bA h1 λED s2 h2=>?_);refine ki (RR:=λacc C=>compPost (model X.prog X.w) X.A X.xe none (EP X pins σ Q) acc C) L hc hA F Lq mX kS h2 λa H' C s' I' f ⟨m,hm⟩ q=>?_;exact⟨m,hm,λh' xQ=>⟨.ref a,H',I'.sameBut f xQ,rfl,q⟩⟩
theorem zB {eP:Sem UR}{o:HO}{after:UR->Env->Sem Fin->Sem Fin}{ta:Addr->m8}{pos pos' qI:Pos}{y:Str}{i:Nat}(L:Links X scope N' lk)(hc:X.calm=true)(hA:qg X eP o)
  (uy:Ww e (some (.Name y pos')) qI.line X.env=pure true)
  (Hw:evalThenUse e X.env (assign (.Name y pos') X.env)=(do let _ <- comprehension e scope X.env pos eP false (eval g.iter X.env) (some (assign (.Name y pos') X.env));pure ())) (Pj:clausesOf e=g::gs)
  (hN:X.N.Nodup) (hy:X.N[i]?=some y) (hx:Loc X.env.scope y) (hf:X.fn y=true\/X.env.scope.names.lookup y=some .local)
  (F:∀acc env,ju e 0 g acc env (after acc env)) (hi:PI X g.target g.iter wi)
  (Lq:∀a cl C s H ex,PG (aF X scope N' cl C s H ex) g.target (tg a)/\tx (aF X scope N' cl C s H ex) g.ifs (tt a)/\sY (aF X scope N' cl C s H ex) (after (.ref a) (aF X scope N' cl C s H ex).env) (ta a))
  (hs:∀x,VV g.iter X.env x=pure x) :
  PS X (.Assign [.Name y pos'] e qI) (λD σ H=>wi σ H λJ H1=>∀a,H1 a=none->f9 J (tg a) (tt a) (ta a) (λ_ H'=>D.nx (σ.set i (some (.ref a))) H') (c_ lk σ) (upd H1 a o)):=by
 intro pins s σ H D I h;rw[exec_Assign_Name_used _ _ _ _ uy,Hw];refine UW (Xe (UW (UW ?_)));obtain⟨cl,AR,mX,kS⟩:=ie (env:=X.env) (scope:=scope) λx hx=>I.ok.has x (L.free x hx);refine bA (wpAny_comprehension_free (use:=some (assign (.Name y pos') X.env)) (Q:=λ_ s'=>SP X pins D .next s') Pj hs AR L.kind L.names (bA (hi pins s σ H _ I h) λv s1 h1=>bA h1 λED s2 h2=>?_)) λ_ s' q=>Vg (Vg q)
 refine ki (Q:=λv H'=>D.nx (σ.set i (some v)) H') (RR:=λacc C=>compPost (model X.prog X.w) X.A X.xe (some (assign (.Name y pos') X.env)) (λ_ s'=>SP X pins D .next s') acc C) L hc hA F Lq mX kS h2 λa H' C s' I' f ⟨m,hm⟩ q=>?_
 show Vu _ _ (assign (.Name y pos') X.env (.ref a)) _ _ s';have UH:∃o,s'.heap.get? C=some o:=by obtain⟨o,_,_,ho,_⟩:=hm;exact⟨o,ho⟩
 refine wpAny_assign_Name (ni I' hN hy hx (v:=.ref a) (u:=.ref a) rfl (λs4 I4 k4=>?_) hf);obtain⟨a4,RS,Tp⟩:=k4;have Lk:C≠a4:=by
  rcases Tp with z|z
  ·rw[z];exact f.2.1
  ·exact(f.2.2.2.2.1 y a4 z).symm
 exact⟨m,hm.at' (λo e=>(RS.2 C Lk).trans e),λh' xQ=>⟨_,H',I4.sameBut f xQ,q⟩⟩
end
end L2
namespace L2.Q
open PySem PySem.Spec PySem.SeqAt PyProof.Rows
def QJ:Option B->Option B
 |some (.own d)=>some (.val false d)
 |some (.shl _ d)=>some (.val false d)
 |b=>b
def cM (lk:List (Option Nat))(β:a_):a_:=lk.map λl=>match l with|some j=>(match β[j]? with|some b=>QJ b|none=>none)|none=>none
def ME:Option (Option B)->Bool
 |some (some (.hand _))=>true
 |_=>false
def bo (lk:List (Option Nat))(β:a_)(own:Nat->List Addr)(i:Nat):List Addr:=match lk[i]? with
 |some (some j)=>if ME β[j]?=true then own j else []
 |_=>[]
def fe:a_->a_->Prop
 |[],_=>True
 |some (.hand ok)::a,c=>c.head?=some (some (.hand ok))/\fe a c.tail
 |_::a,c=>fe a c.tail
theorem fe.get:∀{a c:a_} {i:Nat} {ok:List Int->Prop},fe a c->a[i]?=some (some (.hand ok))->c[i]?=some (some (.hand ok))
 |[],_,_,_,_,e=>by simp at e
 |x::a,c,0,ok,h,e=>by
  simp at e;subst e;rw[<- List.head?_eq_getElem?];exact h.1
 |x::a,c,i+1,ok,h,e=>by
  have h':fe a c.tail:=by
   cases x with
   |none=>exact h
   |some x=>cases x <;> first|exact h|exact h.2
  have:=fe.get (i:=i) h' (by simpa using e)
  rwa [List.getElem?_tail]at this
section
variable {P:UX}{w:Vb}{C:Cfg}{σ σ':St}{H H' H1:Hp}{β βi:a_}{own eO:Nat->List Addr}{lk:List (Option Nat)}{a:Addr}
theorem b8 {i:Nat}{c:Addr}(h:c∈bo lk β own i):∃j,lk[i]?=some (some j)/\ME β[j]?=true/\c∈own j:=by
 unfold bo at h
 split at h
 ·next j e =>
  by_cases q:ME β[j]?=true
  ·rw[if_pos q]at h;exact⟨j,e,q,h⟩
  ·rw[if_neg q]at h;cases h
 ·cases h
theorem bj:∀c,Wn (bo lk β own) c->Wn own c:=λc ⟨i,h⟩=>let ⟨j,_,_,h⟩:=b8 h;⟨j,h⟩
theorem gE {i j:Nat}{v:V}(h:lk[i]?=some (some j))(e:σ[j]?=some (some v)):(c_ lk σ)[i]?=some (some v):=by
 unfold c_;rw[Vd,h];simp only[Yl];rw[e]
theorem gY {i:Nat}{b:B}(h:(cM lk β)[i]?=some (some b)):∃j b',lk[i]?=some (some j)/\β[j]?=some (some b')/\QJ (some b')=some b:=by
 unfold cM at h;rw[Vd]at h;cases q:lk[i]? with
 |none=>rw[q]at h;cases h
 |some l =>
  rw[q]at h;cases l with
  |none=>cases h
  |some j =>
   simp only[Yl]at h;cases q2:β[j]? with
   |none=>rw[q2]at h;cases h
   |some b2 =>
    rw[q2]at h;simp only[Option.some.injEq]at h;cases b2 with
    |none=>cases h
    |some b'=>exact⟨j,b',rfl,q2,h⟩
theorem bG.enter (s:bG P w C σ H β own)(ha:H a=none)(inj:∀(i i' j:Nat),lk[i]?=some (some j)->lk[i']?=some (some j)->i=i'):
  bG P w (C.u λc=>c=a) (c_ lk σ) (upd H a (.lst [])) (cM lk β) (bo lk β own):=by
 have sm:au H (upd H a (.lst [])):=au.new ha;have na:∀{i c},c∈own i->c≠a:=λ{i c} hc z=>(s.dm i c hc).1 (by rw[z];exact ha)
 have gr:∀k,∀c,fY (C.u λc=>c=a) (Wn (bo lk β own)) k c->fY C (Wn own) k c\/H c=none:=λk c z=>by
  rcases z with z|z
  ·exact .inl (.inl (jt bj k c z))
  ·exact .inr (by rw[z];exact ha)
 refine⟨by unfold cM c_;simp,λi y d e=>?_,λi d e=>?_,λi ok e=>?_,λi c h=>?_,λi i' c h1 h2=>?_,λi=>?_,s.kp.trans sm.kp,λc z e=>s.hJ c z (sm.free e),λi y d e=>by
  obtain⟨j,b',e1,e2,e3⟩:=gY e;cases b' <;> cases e3⟩
 ·obtain⟨j,b',e1,e2,e3⟩:=gY e;cases b' with
  |val y' d' =>
   cases e3;obtain⟨v,h1,h2⟩:=s.val j y d e2;exact⟨v,gE e1 h1,(ay.grow (gr _) h2).same sm⟩
  |own d' =>
   cases e3;obtain⟨v,h1,h2,h3⟩:=s.ow j d e2;refine⟨v,gE e1 h1,ay.same sm (h2.rep λc hc z=>?_)⟩;rcases z with z|z
   ·obtain⟨i',jT⟩:=z;obtain⟨j',q1,q2,q3⟩:=b8 jT;have:=s.jo j j' c hc q3;subst this;rw[e2]at q2;cases q2
   ·exact na hc z
  |hand ok=>cases e3
  |shl y' d' =>
   cases e3;obtain⟨v,h1,h2,h3⟩:=s.shl j y' d e2;refine⟨v,gE e1 h1,ay.same sm (h2.rep (λc hc z=>?_) λds vs r=>ai.grow (λc z=>?_) r)⟩
   ·rcases z with z|z
    ·obtain⟨i',jT⟩:=z;obtain⟨j',q1,q2,q3⟩:=b8 jT;have:=s.jo j j' c hc q3;subst this;rw[e2]at q2;cases q2
    ·exact na hc z
   ·rcases gr _ c z with z|z
    ·refine .inl ?_;rcases z with z|z
     ·cases y' with
      |true=>exact .inl (.inl z)
      |false=>exact .inl z
     ·exact .inr z
    ·exact .inr z
 ·obtain⟨j,b',e1,e2,e3⟩:=gY e;cases b' <;> cases e3
 ·obtain⟨j,b',e1,e2,e3⟩:=gY e;cases b' with
  |val y' d'=>cases e3
  |own d'=>cases e3
  |shl y d=>cases e3
  |hand yy =>
   cases e3;obtain⟨h,ns,h1,h2,h3,h4,h5⟩:=s.pR j ok e2;refine⟨h,ns,gE e1 h1,sm _ _ h2,h3,?_,h5⟩;unfold bo;rw[e1];simp only;rw[e2];exact(if_pos rfl).trans h4
 ·obtain⟨j,q1,q2,q3⟩:=b8 h;obtain⟨g1,g2,g3,g4⟩:=s.dm j c q3;rw[aw (na q3)];exact⟨g1,g2,g3,na q3⟩
 ·obtain⟨j,q1,q2,q3⟩:=b8 h1;obtain⟨j',Qq,Uq,R1⟩:=b8 h2;have:=s.jo j j' c q3 R1;subst this;exact inj _ _ _ q1 Qq
 ·unfold bo
  split
  ·next j e =>
   split
   ·exact s.mB j
   ·exact V_
  ·exact V_
theorem bG.FI {o:HO}(s:bG P w (C.u λc=>c=a) σ H β own){oa:HO}(ha:H a=some oa)(ht:∀xs,oa≠.tup xs)(h0:C.H0 a=none):bG P w (C.u λc=>c=a) σ (upd H a o) β own:=by
 have k:Kp (·=a) H (upd H a o):=jO ha ht;have na:∀{i c},c∈own i->c≠a:=λ{i c} hc=>(s.dm i c hc).2.2.2;refine⟨s.len,λi y d e=>let ⟨v,h1,h2⟩:=s.val i y d e;⟨v,h1,h2.keep (k.mono λc z=>.inr z)⟩,λi d e=>let ⟨v,h1,h2,h3⟩:=s.ow i d e;⟨v,h1,h2.keep k.tup (λc hc oc ec=>k.out c oc ec (na hc)),h3⟩,
  λi ok e=>?_,λi c h=>?_,s.jo,s.mB,⟨λc oc z n=>k.out c oc (s.kp.out c oc z n) λq=>?_,λc xs z=>k.tup c xs (s.kp.tup c xs z)⟩,λc z=>?_,λi y d e=>let ⟨v,h1,h2,h3⟩:=s.shl i y d e;⟨v,h1,h2.map (λc hc oc ec=>k.out c oc ec (na hc)) (λ_ _ r=>r.keep (k.mono λc z=>.inr z)),h3⟩⟩
 ·obtain⟨h,ns,h1,h2,h3,h4,h5⟩:=s.pR i ok e;exact⟨h,ns,h1,k.out h _ h2 (na (by rw[h4];simp)),h3,h4,h5⟩
 ·rw[aw (na h)];exact s.dm i c h
 ·rw[q,h0]at z;cases z
 ·by_cases q:c=a
  ·rw[q,ar];exact λz=>(nomatch z)
  ·rw[aw q];exact s.hJ c z
theorem bG.leave (s:bG P w C σ H1 β own)(i:bG P w (C.u λc=>c=a) σ' H' βi eO)(n:Sn (H1,Wn (bo lk β own)) H' (Wn eO))(le:∀c,Wn eO c->Wn (bo lk β own) c)
  (hh:fe (cM lk β) βi) (hσ:∀(j:Nat) (ok:List Int->Prop) (i:Nat),β[j]?=some (some (B.hand ok))->lk[i]?=some (some j)->σ'[i]?=(c_ lk σ)[i]?):bG P w C σ H' β own:=by
 have off:∀{j c},c∈own j->¬ Wn (bo lk β own) c->∀o,H1 c=some o->H' c=some o:=λ{j c} hc nw o e=>n.k.out c o e λz=>z.elim nw λz=>(s.dm j c hc).1 z;have Kh:∀{j c},c∈own j->ME β[j]?=false->¬ Wn (bo lk β own) c:=λ{j c} hc q AG=>by
  obtain⟨i',jT⟩:=AG;obtain⟨j',q1,q2,q3⟩:=b8 jT;have:=s.jo j j' c hc q3;subst this;rw[q]at q2;cases q2
 have hN:∀(j:Nat) (ok:List Int->Prop),β[j]?=some (some (B.hand ok))->∃a ns,σ[j]?=some (some (V.ref a))/\H' a=some (.lst (ns.map V.int))/\ok ns/\own j=[a]/\((∀b,¬ C.IO b)\/C.IO a):=λj ok e=>by
  obtain⟨h,ns,h1,h2,h3,h4,h5⟩:=s.pR j ok e
  by_cases q:Wn (bo lk β own) h
  ·obtain⟨i',jT⟩:=q;obtain⟨j',q1,q2,q3⟩:=b8 jT;have:=s.jo j j' h (by rw[h4];simp) q3
   subst this;have eB:(cM lk β)[i']?=some (some (.hand ok)):=by
    unfold cM;rw[Vd,q1];simp only[Yl];rw[e];rfl
   obtain⟨h',h9,g1,g2,g3,g4,g5⟩:=i.pR i' ok (hh.get eB);rw[hσ j ok i' e q1,gE q1 h1]at g1;cases g1;exact⟨h,h9,h1,g2,g3,h4,h5⟩
  ·exact⟨h,ns,h1,off (by rw[h4];simp) q _ h2,h3,h4,h5⟩
 refine⟨s.len,λj y d e=>?_,λj d e=>?_,hN,λj c hc=>?_,s.jo,s.mB,i.kp,i.hJ,λj y d e=>by
  obtain⟨v,h1,h2,h3⟩:=s.shl j y d e;refine⟨v,h1,h2.map (λc hc o eo=>off hc (Kh hc (by rw[e];rfl)) o eo) (λds vs r=>?_),h3⟩
  have g:ai P w (λc=>fY C (Wn own) (yk y) c\/H1 c=none) H1 ds vs:=ai.grow (λc z=>z) r;refine ai.aR (λc z=>.inl z) (g.keep (n.k.mono λc z=>z.imp (λz=>?_) id));cases y with
  |true=>exact .inl (.inl (bj c z))
  |false=>exact .inl (bj c z)⟩
 ·obtain⟨v,h1,h2⟩:=s.val j y d e;have g:ay P w (λc=>fY C (Wn own) (yk y) c\/H1 c=none) H1 d v:=ay.grow (λc z=>z) h2;refine⟨v,h1,ay.aR (λc z=>.inl z) (g.keep (n.k.mono λc z=>z.imp (λz=>?_) id))⟩;cases y with
  |true=>exact .inl (.inl (bj c z))
  |false=>exact .inl (bj c z)
 ·obtain⟨v,h1,h2,h3⟩:=s.ow j d e;exact⟨v,h1,h2.keep n.k.tup (λc hc o eo=>off hc (Kh hc (by rw[e];rfl)) o eo),h3⟩
 ·obtain⟨g1,g2,g3,g4⟩:=s.dm j c hc
  by_cases q:Wn (bo lk β own) c
  ·obtain⟨i',jT⟩:=q;obtain⟨j',q1,q2,q3⟩:=b8 jT;have:=s.jo j j' c hc q3;subst this;cases e:β[j]? with
   |none=>rw[e]at q2;cases q2
   |some b =>
    rw[e]at q2;cases b with
    |none=>cases q2
    |some b =>
     cases b with
     |val y d=>cases q2
     |own d=>cases q2
     |shl y d=>cases q2
     |hand ok =>
      obtain⟨h,ns,k1,k2,k3,k4,k5⟩:=hN j ok e;rw[k4]at hc;rw[U8.mp hc]at g3 g4 ⊢
      rw[k2];exact⟨λz=>(nomatch z),λxs z=>(by cases z),g3,g4⟩
  ·cases e:H1 c with
   |none=>exact absurd e g1
   |some o=>rw[off hc q o e];exact⟨λz=>(nomatch z),λxs z=>g2 xs (by rw[e];exact z),g3,g4⟩
end
def IP:ba:=λβ R=>R true β
theorem zD {X:Cx}{C:Cfg}:tx X [] (j0 X C true IP):=Cg.pre λσ H Q ⟨β,own,s,q⟩=>q H own (Out.refl s _)
theorem zC {X:Cx}{C:Cfg}{p:Bool}{c:Expr}{τ:ba}(h:tE X C p c τ):tx X [c] (j0 X C p τ):=Cf h.pt
def nF (γ:fq)(τ:ba)(φ:aX)(ds:List D)(k:Kd)(β0:a_)(K:List D->Prop):Prop:=∃I:Nat->a_->List D->Prop,I 0 β0 [] /\
 (∀i d β o,ds[i]?=some d->I i β o->γ d (sk k d) β λβ1=>τ β1 λt β2=>if t=true then φ β2 λx kx β3=>Ez kx x/\o.length<U4/\I (i+1) β3 (o++[x]) else I (i+1) β2 o)/\∀β o,I ds.length β o->fe β0 β/\K o
theorem nF.mono {γ:fq}{τ:ba}{φ:aX}{ds:List D}{k:Kd}{β0:a_}{K K':List D->Prop}(h:∀o,K o->K' o)(q:nF γ τ φ ds k β0 K):nF γ τ φ ds k β0 K':=let ⟨I,h0,h1,h2⟩:=q;⟨I,h0,h1,λβ o z=>⟨(h2 β o z).1,h _ (h2 β o z).2⟩⟩
section
variable {X:Cx}{C:Cfg}{lk:List (Option Nat)}{γ:fq}{τ:ba}{φ:aX}{T:List Nat}{pc pe:Bool}
theorem ot {σ:St}{H1:Hp}{β:a_}{own:Nat->List Addr}{a:Addr}{J:It}{ds:List D}{k:Kd}{K:List D->Prop}{End:Hp->Prop}
  (γm:∀d k β R R',(∀r,R r->R' r)->γ d k β R->γ d k β R') (τm:∀β R R',(∀d β,R d β->R' d β)->τ β R->τ β R') (φm:∀β R R',(∀d k β,R d k β->R' d k β)->φ β R->φ β R')
  (inj:∀(i i' j:Nat),lk[i]?=some (some j)->lk[i']?=some (some j)->i=i') (hT:∀i∈T,∀j,lk[i]?≠some (some j))
  (s1:SQ X C σ H1 β own) (ha:H1 a=none) {hp:Bool} (Iu:hp=true->(pc&&pe)=true) (hk:hold k hp) (it:wK X (av C (Wn own) k) J ds H1) (q:nF γ τ φ ds k (cM lk β) K)
  (fin:∀o H',K o->Out X C σ H1 own (pc&&pe) β H' own->KV X.prog X.w C (H1,Wn own) own H' .own (.lst o) (.ref a)->End H') :
  f9 J (λv σ H Q=>∃own β d k,SQ X (C.u λc=>c=a) σ H β own/\Rp X (fY (C.u λc=>c=a) (Wn own) k) H d v/\γ d k β λβ'=>∀σ' aQ,SQ X (C.u λc=>c=a) σ' H β' aQ->(∀a,Wn aQ a->Wn own a)->(∀j,j∉T->σ'[j]?=σ[j]?)->Q σ' H)
   (j0 X (C.u λc=>c=a) pc τ) (λN σ H=>tQ X (C.u λc=>c=a) pe φ σ H λv H1=>∃xs,H1 a=some (.lst xs)/\xs.length<U4/\N σ (upd H1 a (.lst (xs++[v]))))
   (λ_ H'=>End H') (c_ lk σ) (upd H1 a (.lst [])):=by
 obtain⟨I,i0,i1,i2⟩:=q;have h0:C.H0 a=none:=VB λz=>s1.hJ a z ha;have sm:au H1 (upd H1 a (.lst [])):=au.new ha;have QD:∀c,Wn (bo lk β own) c->c≠a:=λc z e=>by
  obtain⟨j,hj⟩:=bj c z;exact(s1.dm j c hj).1 (by rw[e];exact ha)
 let S:Nat->St->Hp->Prop:=λi σ' H'=>∃βi eO vs o A,SQ X (C.u λc=>c=a) σ' H' βi eO/\Sn (H1,Wn (bo lk β own)) H' (Wn eO)/\(∀c,Wn eO c->Wn (bo lk β own) c)/\H' a=some (.lst vs)/\aN X.prog X.w H' o vs A/\A.Nodup/\(∀c∈A,H1 c=none/\c≠a) /\
  ((pc&&pe)=true->au H1 H')/\(∀j,j∉T->σ'[j]?=(c_ lk σ)[j]?)/\I i βi o
 have W':Addr->Prop:=λb=>av C (Wn own) k b\/H1 b=none;have EC:=it (λb=>av C (Wn own) k b\/H1 b=none) λb z=>z;have kI:∀{H':Hp} {eO:Nat->List Addr},Sn (H1,Wn (bo lk β own)) H' (Wn eO)->((pc&&pe)=true->au H1 H')->Kp (λb=>av C (Wn own) k b\/H1 b=none) H1 H':=λn pu=>by
  cases k with
  |own=>exact n.k.mono λb z=>z.imp (λz=>.inl (bj b z)) id
  |dy=>exact n.k.mono λb z=>z.imp (λz=>.inl (bj b z)) id
  |old=>exact n.k.mono λb z=>z.imp (bj b) id
  |bor =>
   cases hp with
   |false=>exact hk.elim
   |true=>exact(pu (Iu rfl)).kp.mono λb z=>.inr z
 refine⟨λi m σ' H'=>i<=ds.length/\m=ds.length-i/\S i σ' H',⟨_,Ve _,rfl,cM lk β,bo lk β own,[],[],[],s1.enter ha inj,⟨λb z=>.inl z,sm.kp,λb z e=>z (sm.free e)⟩,λ_ z=>z,ar,⟨rfl,rfl⟩,V_,λc hc=>(nomatch hc),λ_=>sm,λ_ _=>rfl,i0⟩,?_⟩;rintro i m σ2 H2 ⟨hi,rfl,βi,eO,vs,o,A,sq,sn,le,IA,os,nd,nw,pu,st,hl⟩;obtain⟨c8,mV⟩:=EC i H2 (kI sn pu)
 by_cases c5:i<ds.length
 ·right
  have hd:ds[i]?=some ds[i]:=U3 c5;obtain⟨go,yl⟩:=c8 _ hd;refine⟨go,λσ' H'=>S (i+1) σ' H',λσ' H' h=>⟨_,by omega,c5,rfl,h⟩,λx H3 y=>?_⟩
  obtain⟨s3,r3⟩:=yl x H3 y;have TU:∀{eO:Nat->List Addr},(∀c,Wn eO c->Wn (bo lk β own) c)->∀c,fY (C.u λc=>c=a) (Wn eO) k c->av C (Wn own) k c\/H1 c=none:=λle c z=>z.elim (λz=>.inl (jt (λc z=>bj c (le c z)) k c z)) λz=>.inr (by rw[z];exact ha)
  refine⟨eO,βi,_,_,sq.same s3,o7 (ay.aR (TU le) r3),γm _ _ _ _ _ (λβ4 q σ4 rf s4 w4 t4=>?_) (i1 i _ βi o hd hl)⟩;have J0:∀c,Wn rf c->Wn (bo lk β own) c:=λc z=>le c (w4 c z);refine⟨β4,rf,s4,τm _ _ _ (λt β5 q H5 jI o5=>?_) q⟩;have MB:∀c,Wn jI c->Wn (bo lk β own) c:=λc z=>J0 c (o5.le c z);have Aq:∀c,c∈a::A->∀oc,H2 c=some oc->H5 c=some oc:=λc hc oc e=>by
   refine o5.sn.k.out c oc (s3 c oc e) λz=>?_;rcases z with z|z
   ·rcases U0.mp hc with rfl|hc
    ·exact QD _ (J0 _ z) rfl
    ·obtain⟨j,hj⟩:=bj c (J0 c z);exact(s1.dm j c hj).1 (nw c hc).1
   ·exact absurd ((s3 c oc e).symm.trans z) (λz=>(nomatch z))
  have Sk:∀b xs,H2 b=some (.tup xs)->H5 b=some (.tup xs):=λb xs e=>o5.sn.k.tup b xs (s3 b _ e);have Ga:aN X.prog X.w H5 o vs A:=os.keep Sk λc hc oc e=>Aq c (by simp[hc]) oc e
  have Nn:Sn (H1,Wn (bo lk β own)) H5 (Wn jI):=(iV (sn.same s3) w4).trans o5.sn;have Qr:(pc&&pe)=true->au H1 H5:=λz=>((pu z).trans s3).trans (o5.pu (Bx z)).1;have Jd:∀j,j∉T->σ4[j]?=(c_ lk σ)[j]?:=λj hj=>(t4 j hj).trans (st j hj);cases t with
  |false=>exact⟨β5,jI,vs,o,A,o5.sq,Nn,MB,Aq a (by simp) _ IA,Ga,nd,nw,Qr,Jd,q⟩
  |true =>
   refine⟨β5,jI,o5.sq,φm _ _ _ (λxd kx β6 ⟨f,hz,q⟩ v H6 F9 o6 r6=>?_) q⟩;obtain⟨B',r1,r2,Im⟩:=r6.fl f;have uD:H5 a=some (.lst vs):=Aq a (by simp) _ IA
   have Ew:∀c,c∈a::A->∀oc,H5 c=some oc->H6 c=some oc:=λc hc oc e=>by
    refine o6.sn.k.out c oc e λz=>?_;rcases z with z|z
    ·rcases U0.mp hc with rfl|hc
     ·exact QD _ (MB _ z) rfl
     ·obtain⟨j,hj⟩:=bj c (MB c z);exact(s1.dm j c hj).1 (nw c hc).1
    ·exact absurd (e.symm.trans z) (λz=>(nomatch z))
   have rX:H6 a=some (.lst vs):=Ew a (by simp) _ uD
   have Qu:aN X.prog X.w H6 o vs A:=Ga.keep o6.sn.k.tup λc hc oc e=>Ew c (by simp[hc]) oc e
   have R8:∀c∈A,c≠a:=λc hc=>(nw c hc).2;have JJ:∀c∈B',c≠a:=λc hc z=>by rw[z]at hc;exact absurd (uD.symm.trans (Im a hc).1) (λz=>(nomatch z))
   have kt:∀b xs,H6 b=some (.tup xs)->upd H6 a (.lst (vs++[v])) b=some (.tup xs):=λb xs z=>by rw[aw (λz'=>by rw[z',rX]at z;cases z)];exact z
   refine⟨vs,rX,by rw[Qu.length];exact hz,β6,F9,vs++[v],o++[xd],A++B',o6.sq.FI rX (λxs z=>by cases z) h0,?_,λc z=>MB c (o6.le c z),ar,?_,?_,λc hc=>?_,λz=>?_,Jd,q⟩
   ·have m:=Nn.trans o6.sn;refine⟨m.w,m.k.trans ((jO rX (λxs z=>by cases z)).mono λb z=>.inr (by rw[z];exact ha)),λb z e=>?_⟩
    by_cases hb:b=a
    ·rw[hb,ar]at e;cases e
    ·rw[aw hb]at e;exact m.d b z e
   ·exact(Qu.keep kt λc hc oc e=>by rw[aw (R8 c hc)];exact e).append (aN.one (r1.keep kt λc hc oc e=>by rw[aw (JJ c hc)];exact e))
   ·refine V0.mpr ⟨nd,r2,λx hx y hy e=>?_⟩;subst e;have:=(Im x hy).1;exact(Ga.mE x hx).1 this
   ·rcases Vp.mp hc with hc|hc
    ·exact nw c hc
    ·exact⟨Nn.free (Im c hc).1,JJ c hc⟩
   ·refine λb ob e=>?_;rw[aw (λz'=>by rw[z',ha]at e;cases e)]
    exact(o6.pu (PU z)).1 b ob (Qr z b ob e)
 ·left
  have e:i=ds.length:=by omega
  subst e;obtain⟨hh,q⟩:=i2 βi o hl;have lv:SQ X C σ H2 β own:=s1.leave sq sn le hh λj ok i' e1 e2=>st i' λz=>hT i' z j e2;refine⟨mV (UU _),fin o H2 q ⟨lv,⟨λb z=>.inl z,sn.k.mono λb z=>z.imp (bj b) id,sn.d⟩,λz=>⟨pu z,rfl⟩,λ_ z=>z⟩ ⟨a::A,⟨a,vs,A,rfl,IA,rfl,os⟩,Vw.mpr ⟨λz=>(nw a z).2 rfl,nd⟩,λc hc=>?_⟩⟩;have mX:H1 c=none:=by
   rcases U0.mp hc with rfl|hc
   ·exact ha
   ·exact(nw c hc).1
  exact⟨mX,λKk=>by obtain⟨j,hj⟩:=Kk;exact(s1.dm j c hj).1 mX,VB λz=>s1.hJ c z mX⟩
theorem fb {scope:Xr}{N':List Str}(L:Links X scope N' lk)(hN:N'.Nodup):∀(i i' j:Nat),lk[i]?=some (some j)->lk[i']?=some (some j)->i=i':=λi i' j h1 h2=>by
 obtain⟨x,a1,a2,_⟩:=L.link i j h1;obtain⟨y,b1,b2,_⟩:=L.link i' j h2;rw[a2]at b2;cases b2;exact(List.getElem?_inj (UY.mp a1).1 hN).mp (a1.trans b1.symm)
def vq (lk:List (Option Nat))(ι:c7)(γ:fq)(τ:ba)(φ:aX):aX:=λβ R=>ι β λds k β1=>hold k false/\nF γ τ φ ds k (cM lk β1) λo=>R (.lst o) .own β1
variable {scope:Xr}{N':List Str}{tg c8 elt:Expr}{ifs:List Expr}{ι:c7}{pi:Bool}{pos pos' qI:Pos}{y:Str}{i:Nat}
theorem Jx (L:Links X scope N' lk)(xU:N'.Nodup)(hT:T.all (λi=>match lk[i]? with|some (some _)=>false|_=>true)=true)(hc:X.calm=true)(hi:yE X C pi tg c8 ι)
  (yA:∀a cl c s H ex,BA (aF X scope N' cl c s H ex) (C.u λc=>c=a) tg T γ) (ux:∀a cl c s H ex,tx (aF X scope N' cl c s H ex) ifs (j0 (aF X scope N' cl c s H ex) (C.u λc=>c=a) pc τ)) (τm:∀β R R',(∀d β,R d β->R' d β)->τ β R->τ β R')
  (yB:∀a cl c s H ex,PQ (aF X scope N' cl c s H ex) (C.u λc=>c=a) pe elt φ) (γm:∀d k β R R',(∀r,R r->R' r)->γ d k β R->γ d k β R') (φm:∀β R R',(∀d k β,R d k β->R' d k β)->φ β R->φ β R')
  (hs:∀x,VV c8 X.env x=pure x:=by intro _;rfl):PQ X C (pi&&(pc&&pe)) (.ListComp elt [⟨tg,c8,ifs,0⟩] scope pos) (vq lk ι γ τ φ):=by
 have LC:∀i∈T,∀j,lk[i]?≠some (some j):=λi hi j e=>by
  have:=Xc.mp hT i hi;rw[e]at this;cases this
 refine⟨λβ R R' k h=>hi.mono β _ _ (λds kd β1 q=>⟨q.1,q.2.mono λo z=>k _ _ _ z⟩) h,?_⟩;refine(lI (g:=⟨tg,c8,ifs,0⟩) (gs:=[]) (tg:=λa v σ H Q=>∃own β d k,SQ X (C.u λc=>c=a) σ H β own/\Rp X (fY (C.u λc=>c=a) (Wn own) k) H d v/\γ d k β λβ'=>∀σ' aQ,SQ X (C.u λc=>c=a) σ' H β' aQ->(∀a,Wn aQ a->Wn own a)->(∀j,j∉T->σ'[j]?=σ[j]?)->Q σ' H)
  (tt:=λa=>j0 X (C.u λc=>c=a) pc τ) (ta:=λa N σ H=>tQ X (C.u λc=>c=a) pe φ σ H λv H1=>∃xs,H1 a=some (.lst xs)/\xs.length<U4/\N σ (upd H1 a (.lst (xs++[v]))))
  L hc ja rfl rfl (λ_ _=>Bn) hi.pi (λa cl c s H ex=>⟨(yA a cl c s H ex).pg,ux a cl c s H ex,i8 rfl (yB a cl c s H ex).pe⟩) hs).pre λσ H Q ⟨β,own,s,h⟩=>?_
 refine⟨β,own,s,hi.mono β _ _ (λds k β1 ⟨hk,q⟩ J H1 aA o1 it a ha=>?_) h⟩;exact ot γm τm φm (fb L xU) LC o1.sq ha (hp:=false) (λz=>by cases z) hk it q λo H' q o2 r=>q _ _ aA (o1.trans o2) (r.later o1.sn)
theorem Jw {K:D->a_->gf->Prop}(L:Links X scope N' lk)(xU:N'.Nodup)(hT:T.all (λi=>match lk[i]? with|some (some _)=>false|_=>true)=true)(hc:X.calm=true)(hi:∀U,yE X (C.u U) pi tg c8 ι)
  (yA:∀U cl c s H ex,BA (aF X scope N' cl c s H ex) (C.u U) tg T γ) (ux:∀U cl c s H ex,tx (aF X scope N' cl c s H ex) ifs (j0 (aF X scope N' cl c s H ex) (C.u U) pc τ)) (τm:∀β R R',(∀d β,R d β->R' d β)->τ β R->τ β R')
  (yB:∀U cl c s H ex,PQ (aF X scope N' cl c s H ex) (C.u U) pe elt φ) (γm:∀d k β R R',(∀r,R r->R' r)->γ d k β R->γ d k β R') (φm:∀β R R',(∀d k β,R d k β->R' d k β)->φ β R->φ β R') (o:Bool)
  (hN:X.N.Nodup) (hy:X.N[i]?=some y:=by rfl) (hx:Loc X.env.scope y:=by first|exact .inl rfl|exact .inr rfl) (hf:X.fn y=true\/X.env.scope.names.lookup y=some .local:=by first|exact .inl rfl|exact .inr rfl|assumption)
  (uy:Ww (.ListComp elt [⟨tg,c8,ifs,0⟩] scope pos) (some (.Name y pos')) qI.line X.env=pure true:=by rfl)
  (Hw:evalThenUse (.ListComp elt [⟨tg,c8,ifs,0⟩] scope pos) X.env (assign (.Name y pos') X.env)=(do let _ <- comprehension (.ListComp elt [⟨tg,c8,ifs,0⟩] scope pos) scope X.env (firstIterPos [⟨tg,c8,ifs,0⟩] pos) (newList []) false (eval c8 X.env) (some (assign (.Name y pos') X.env));pure ()):=by first|rfl|exact arm_evalThenUse_ListComp ..)
  (hs:∀x,VV c8 X.env x=pure x:=by intro _;rfl) :
  PB X C (.Assign [.Name y pos'] (.ListComp elt [⟨tg,c8,ifs,0⟩] scope pos) qI) (λE β=>vq lk ι γ τ φ β λd _ β'=>E.nx (β'.set i (some (match o with|true=>.own d|false=>.val true d)))):=by
 have LC:∀i∈T,∀j,lk[i]?≠some (some j):=λi hi j e=>by
  have:=Xc.mp hT i hi;rw[e]at this;cases this
 refine⟨λE E' β l h=>(hi λ_=>False).mono β _ _ (λds kd β1 q=>⟨q.1,q.2.mono λo z=>l.nx _ z⟩) h,λpins s σ H D I0 ⟨Z,E,β,⟨own,sq,n⟩,h,ok⟩=>?_⟩;refine zB (g:=⟨tg,c8,ifs,0⟩) (gs:=[]) (tg:=λa v σ H Q=>∃own β d k,SQ X (C.u λc=>c=a) σ H β own/\Rp X (fY (C.u λc=>c=a) (Wn own) k) H d v/\γ d k β λβ'=>∀σ' aQ,SQ X (C.u λc=>c=a) σ' H β' aQ->(∀a,Wn aQ a->Wn own a)->(∀j,j∉T->σ'[j]?=σ[j]?)->Q σ' H)
  (tt:=λa=>j0 X (C.u λc=>c=a) pc τ) (ta:=λa N σ H=>tQ X (C.u λc=>c=a) pe φ σ H λv H1=>∃xs,H1 a=some (.lst xs)/\xs.length<U4/\N σ (upd H1 a (.lst (xs++[v]))))
  L hc ja uy Hw rfl hN hy hx hf (λ_ _=>Bn) (hi λa=>H a=none).pi (λa cl c s H ex=>⟨(yA _ cl c s H ex).pg,ux _ cl c s H ex,i8 rfl (yB _ cl c s H ex).pe⟩) hs pins s σ H D I0 ?_
 refine⟨β,own,sq.kY (C:=C.z) (U:=λa=>H a=none) λa z=>z,(hi λ_=>False).mono β _ _ (λds k β1 ⟨hk,q⟩ J H1 aA o1 it a ha=>?_) h⟩;refine ot (C:=C.u λa=>H a=none) γm τm φm (fb L xU) LC o1.sq ha (hp:=false) (λz=>by cases z) hk it q λol H' q o2 r=>?_
 have r':=r.later o1.sn;have oo:=o1.trans o2;have m:=n.trans oo.sn;cases o with
 |false=>exact ok.nx _ _ _ ⟨_,(bG.R7 oo.sq).dD (ay.aR (λa z=>z.elim id λz=>z.elim) (KV.rep r')),tT m⟩ q
 |true =>
  obtain⟨A,h1,h2,h3⟩:=r';refine ok.nx _ _ _ ⟨_,oo.sq.tU h1 h2 λc hc=>⟨(h3 c hc).2.2,(h3 c hc).2.1,(h3 c hc).1⟩,?_⟩ q;exact⟨λb uB=>by
   obtain⟨j,hj⟩:=uB
   by_cases aE:i=j
   ·rw[<- aE,os_eq]at hj;exact .inr (n.free (h3 b hj).1)
   ·rw[bq aE]at hj;exact m.w b ⟨j,hj⟩,m.k,m.d⟩
end
end L2.Q
namespace Zp
open PySem PySem.Spec PyProof.Rows
section
end
end Zp
namespace L2
open PySem PySem.Spec PySem.SeqAt PyProof.Rows Zp
theorem Inv.BS {X:Cx}{pins:List (Addr×Obj)}{σ:St}{H:Hp}{s:UT}{fp:List Addr}{h':Heap}{x y:V}{u v:UR}(I:Inv X pins σ H s)(hf:∀b∈fp,gM X pins H b)(k:∀c o,c∉fp->s.heap.get? c=some o->h'.get? c=some o)
  (rx:RelV x u) (ry:RelV y v) (hT:IsPair h' s.heap.objs.size u v):Inv X pins σ (upd H s.heap.objs.size (.tup [x,y])) {s with heap:=h'}:=by
 have hn:H s.heap.objs.size=none:=I.bM.fresh (UU _);have ne:∀{b:Addr} {o:Obj},s.heap.get? b=some o->b≠s.heap.objs.size:=λe=>VP (Vi e);have nt:∀{b:Addr} {o:HO},H b=some o->b≠s.heap.objs.size:=λe z=>by rw[z,hn]at e;cases e
 have nf:∀{b:Addr} {o:HO},H b=some o->b∉fp:=λe z=>by rw[(hf _ z).1]at e;cases e
 refine I.call (g':=s.gens) (t':=s.toks) (d':=s.drawn) (ch:=fp) ⟨λb o e n _ hc=>k b o hc e,λb o e n _ hc=>⟨o.slots,k b o hc e⟩,λb o e n _=>by rw[aw (ne e)];exact n,λb o e hc=>⟨o,k b o hc e⟩,
  λb xs e=>by rw[aw (nt e)];exact e,λb o u e=>by rw[aw (nt e)];exact e,λb ps e=>⟨#[],by rw[aw (nt e),e];simp⟩⟩ (λb u e=>?_) I.bare λb hb=>?_
 ·by_cases hb:b=s.heap.objs.size
  ·subst hb;rw[ar]at e;cases e;exact⟨by show 2<=U4;decide,[_,_],.cons rx (.cons ry .nil),⟨_,hT,rfl,_,rfl⟩⟩
  ·rw[aw hb]at e;refine(I.bM b u e).qH (λc v hc q=>k c v ?_ q) (λc q=>by rw[aw (nt q)];exact q) λc xs q=>by rw[aw (nt q)];exact q
   rcases hc with z|z
   ·rw[z];exact nf e
   ·exact nf z
 ·obtain⟨f0,f1,f2,f3,f4,f5⟩:=hf b hb;exact⟨f3,f1,f4,f5⟩
theorem Inv.vb {X:Cx}{pins:List (Addr×Obj)}{σ:St}{H:Hp}{s:UT}{fp:List Addr}{h':Heap}(I:Inv X pins σ H s)(hf:∀b∈fp,gM X pins H b)(k:∀c o,c∉fp->s.heap.get? c=some o->h'.get? c=some o):Inv X pins σ H {s with heap:=h'}:=by
 have nf:∀{b:Addr} {o:HO},H b=some o->b∉fp:=λe z=>by rw[(hf _ z).1]at e;cases e
 refine I.call (g':=s.gens) (t':=s.toks) (d':=s.drawn) (ch:=fp) ⟨λb o e n _ hc=>k b o hc e,λb o e n _ hc=>⟨o.slots,k b o hc e⟩,λb o e n _=>n,λb o e hc=>⟨o,k b o hc e⟩,λb xs e=>e,λb o u e=>e,λb ps e=>⟨#[],by rw[e];simp⟩⟩ (λb u e=>?_) I.bare λb hb=>?_
 ·refine(I.bM b u e).qH (λc v hc q=>k c v ?_ q) (λc q=>q) λc xs q=>q;rcases hc with z|z
  ·rw[z];exact nf e
  ·exact nf z
 ·obtain⟨f0,f1,f2,f3,f4,f5⟩:=hf b hb;exact⟨f3,f1,f4,f5⟩
def kX:List D->List D->List D
 |a::as,b::bs=>.tup [a,b]::kX as bs
 |_,_=>[]
theorem qq:∀{as bs:List D} {i:Nat} {d:D},(kX as bs)[i]?=some d->∃a b,as[i]?=some a/\bs[i]?=some b/\d=.tup [a,b]
 |[],_,_,_,h=>by simp[kX]at h
 |_::_,[],_,_,h=>by simp[kX]at h
 |a::as,b::bs,0,_,h=>by simp[kX]at h;exact⟨a,b,rfl,rfl,h.symm⟩
 |a::as,b::bs,i+1,_,h=>by
  obtain⟨x,y,h1,h2,h3⟩:=qq (as:=as) (bs:=bs) (i:=i) (by simpa[kX] using h)
  exact⟨x,y,by simpa using h1,by simpa using h2,h3⟩
theorem qp:∀(as bs:List D),(kX as bs).length=min as.length bs.length
 |[],_=>by simp[kX]
 |_::_,[]=>by simp[kX]
 |a::as,b::bs=>by simp[kX,qp as bs]
section
end
section
end
theorem bE {lo:Int}{n i:Nat}{d:D}(h:(kq lo n)[i]?=some d):i<n/\d=.int (lo+i):=by
 unfold kq at h;rw[Vd]at h;have hi:i<n:=by
  by_cases hi:i<n
  ·exact hi
  ·rw[WC (by simpa using hi)]at h;cases h
 rw[Wx hi]at h;cases h;exact⟨hi,rfl⟩
theorem bN {lo:Int}{n:Nat}:(kq lo n).length=n:=by unfold kq;simp
section
end
structure Df (K:PySem.W.Frag)(mg:Str->Option UR)(x:Str)(st:Stmt)(ps:List Str)(f:Addr)(fd:Vz):Prop where
 F:BK K x x st f fd
 b:Binds K fd ps []
 m:mg x=some (.ref f)
structure Bs (mg:Str->Option UR):Prop where
 max:mg "max" = none
 min:mg "min" = none
 int:mg "int" = none
 range:mg "range" = none
 sorted:mg "sorted" = none
 set:mg "set" = none
 len:mg "len" = none
 list:mg "list" = none
theorem cT.iO {k:Nat}{A:VZ}(r:cT k A):A.units+64+1<XJ:=by have:=r.un;lia
def MU (n:Int)(t:List Int):Prop:=∃a b,t=[a,b]/\0<=a/\a<b/\b<n
theorem MU.ne {n:Int}{t:List Int}(h:MU n t):t≠[]:=by
 obtain⟨a,b,rfl,_⟩:=h;intro z;cases z
def hV (n:Int)(ts:List (List Int)):Prop:=∀t∈ts,MU n t
theorem hV.ne {n:Int}{ts:List (List Int)}(h:hV n ts):∀k∈ts,k≠[]:=λk hk=>(h k hk).ne
theorem hV.nil {n:Int}:hV n []:=λ_ z=>(nomatch z)
theorem l6 (ts:List (List Int)):D.cK (ts.map kD)=true:=by
 have fi:∀k:List Int,D.cK (k.map D.int)=true:=λk=>by
  induction k with
  |nil=>rfl
  |cons i k ih=>show (D.flat (.int i)&&D.cK (k.map D.int))=true;rw[ih];rfl
 induction ts with
 |nil=>rfl
 |cons t ts ih =>
  show (D.flat (kD t)&&D.cK (ts.map kD))=true;rw[ih];show (D.cK (t.map D.int)&&true)=true;rw[fi];rfl
def Drawn (n:Int)(ts:List (List Int)):Prop:=ts.length<=300/\hV n ts/\sU ts/\ts.Nodup
theorem km {a b:D}:[a,b].length<=U4:=by show 2<=U4;decide
theorem Mq {a b c:D}:[a,b,c].length<=U4:=by show 3<=U4;decide
theorem tj {a:D}:[a].length<=U4:=by show 1<=U4;decide
theorem iu {b:Bool}{p q:Prop}(hb:b=true)(h:p):(if b=true then p else q):=by rw[if_pos hb];exact h
theorem d4 {b:Bool}{p q:Prop}(hb:b=false)(h:q):(if b=true then p else q):=by rw[hb,if_neg (by simp)];exact h
theorem lY {c:Prop}[Decidable c]{p q:Prop}(h1:c->p)(h2:¬ c->q):(if decide c=true then p else q):=by
 by_cases h:c
 ·exact iu (by simp[h]) (h1 h)
 ·exact d4 (by simp[h]) (h2 h)
theorem Su {c:Prop}[Decidable c]{p q:Prop}(h1:¬ c->p)(h2:c->q):(if (!decide c)=true then p else q):=by
 by_cases h:c
 ·exact d4 (by simp[h]) (h2 h)
 ·exact iu (by simp[h]) (h1 h)
theorem dk {α:Type}(f:α->D):∀l:List α,D.gk (l.map f)=l.map λa=>(f a).pd
 |[]=>rfl
 |a::l=>by
  show (f a).pd::D.gk (l.map f)=_;rw[dk f l];rfl
theorem jX {n:Nat}:∀{xs:List PyData},(∀x∈xs,x.canLay0=true/\x.depth<=n)->WU xs=true/\Wa xs<=n
 |[],_=>⟨by simp[WU],by simp[Wa]⟩
 |x::xs,h=>by
  obtain⟨h1,h2⟩:=jX (n:=n) (xs:=xs) λy hy=>h y (by simp[hy])
  obtain⟨g1,g2⟩:=h x (by simp)
  refine⟨by simp[WU,h1,g1],?_⟩
  simp only[Wa];lia
theorem nj {n:Nat}{ds:List D}(h:∀d∈ds,d.pd.canLay0=true/\d.pd.depth<=n):(D.tup ds).pd.canLay0=true/\(D.tup ds).pd.depth<=n+1:=by
 have e:D.gk ds=ds.map λd=>d.pd:=by
  have:=dk (λd:D=>d) ds;simpa using this
 obtain⟨h1,h2⟩:=jX (n:=n) (xs:=D.gk ds) λx hx=>by
  rw[e]at hx;obtain⟨d,hd,rfl⟩:=VA.mp hx;exact h d hd
 refine⟨by simpa[D.pd,V8] using h1,?_⟩
 have:(D.tup ds).pd.depth=Wa (D.gk ds)+1:=by simp[D.pd,W_]
 lia
theorem eX {n:Nat}{ds:List D}(h:∀d∈ds,d.pd.canLay0=true/\d.pd.depth<=n):(D.lst ds).pd.canLay0=true/\(D.lst ds).pd.depth<=n+1:=by
 have e:D.gk ds=ds.map λd=>d.pd:=by
  have:=dk (λd:D=>d) ds;simpa using this
 obtain⟨h1,h2⟩:=jX (n:=n) (xs:=D.gk ds) λx hx=>by
  rw[e]at hx;obtain⟨d,hd,rfl⟩:=VA.mp hx;exact h d hd
 refine⟨by simpa[D.pd,V8] using h1,?_⟩
 have:(D.lst ds).pd.depth=Wa (D.gk ds)+1:=by simp[D.pd,W_]
 lia
theorem bP (i:Int):(D.int i).pd.canLay0=true/\(D.int i).pd.depth<=1:=⟨by simp[D.pd,V8],by simp[D.pd,W_]⟩
theorem qL (b:Bool):(D.bl b).pd.canLay0=true/\(D.bl b).pd.depth<=1:=⟨by simp[D.pd,V8],by simp[D.pd,W_]⟩
theorem iW (t:List Int):(kD t).pd.canLay0=true/\(kD t).pd.depth<=2:=nj λd hd=>by
 obtain⟨i,_,rfl⟩:=VA.mp hd;exact bP i
theorem lr (ts:List (List Int)):(D.lst (ts.map kD)).pd.canLay0=true/\(D.lst (ts.map kD)).pd.depth<=3:=eX λd hd=>by
 obtain⟨i,_,rfl⟩:=VA.mp hd;exact iW i
theorem ik (ts:List Int):(D.lst (ts.map D.int)).pd.canLay0=true/\(D.lst (ts.map D.int)).pd.depth<=2:=eX λd hd=>by
 obtain⟨i,_,rfl⟩:=VA.mp hd;exact bP i
theorem cE {d:D}{n:Nat}(h:d.pd.canLay0=true/\d.pd.depth<=n)(hn:n<=64:=by decide):d.qM=true:=by
 show (d.pd.canLay0&&decide (d.pd.depth<=64))=true;rw[h.1,decide_eq_true (by lia)]
 rfl
theorem fU {α:Type}[DecidableEq α]{f:α->PyData}(hf:∀a b,VX (f a) (f b)=decide (a=b)):∀xs ys:List α,X1 (xs.map f) (ys.map f)=decide (xs=ys)
 |[],[]=>by simp[X1]
 |[],_::_=>by simp[X1]
 |_::_,[]=>by simp[X1]
 |x::xs,y::ys=>by
  simp only[Vs,X1];rw[hf,fU hf xs ys]
  by_cases h1:x=y
  ·by_cases h2:xs=ys <;> simp[h1,h2]
  ·simp[h1]
theorem pX (i j:Int):VX (D.int i).pd (D.int j).pd=decide (i=j):=by
 simp only[D.pd,VX]
 by_cases h:i=j <;> simp[h]
theorem Ba (t u:List Int):VX (kD t).pd (kD u).pd=decide (t=u):=by
 show VX (.tuple (D.gk (t.map D.int))) (.tuple (D.gk (u.map D.int)))=_;rw[dk,dk];simp only[VX];exact fU pX t u
theorem uR {a b:D}{c:Bool}(h1:a.qM=true)(h2:b.qM=true)(e:VX a.pd b.pd=c):IF a b=some (.bl c):=by
 unfold IF;rw[if_pos ⟨h1,h2⟩,e]
theorem Bg {a b:D}{c:Bool}(h1:a.qM=true)(h2:b.qM=true)(e:VX a.pd b.pd=c):LP a b=some (.bl (!c)):=by
 unfold LP;rw[if_pos ⟨h1,h2⟩,e]
theorem jr (i j:Int):IF (.int i) (.int j)=some (.bl (decide (i=j))):=uR (cE (bP i)) (cE (bP j)) (pX i j)
theorem any_map {α:Type}[DecidableEq α]{f:α->D}(hf:∀a b,VX (f a).pd (f b).pd=decide (a=b))(t:α):∀xs:List α,((D.gk (xs.map f)).any λy=>VX y (f t).pd)=decide (t∈xs)
 |[]=>rfl
 |x::xs=>by
  show (VX (f x).pd (f t).pd || (D.gk (xs.map f)).any λy=>VX y (f t).pd)=_
  rw[any_map hf t xs,hf]
  by_cases h:x=t
  ·simp[h]
  ·have h':¬ t=x:=λz=>h z.symm;simp[h,h']
theorem Bj (t:List Int)(ts:List (List Int)):DK (kD t) (.lst (ts.map kD))=some (decide (t∈ts)):=by
 show (if (kD t).qM=true/\(D.lst (ts.map kD)).qM=true then some _ else none)=_
 rw[if_pos ⟨cE (iW t),cE (lr ts)⟩,any_map Ba];exact congrArg some (decide_eq_decide.mpr Iff.rfl)
theorem DJ (i:Int)(t:List Int):DK (.int i) (kD t)=some (decide (i∈t)):=by
 show (if (D.int i).qM=true/\(D.tup (t.map D.int)).qM=true then some _ else none)=_
 rw[if_pos ⟨cE (bP i),cE (iW t)⟩,any_map pX]
theorem uP (t:List Int)(ts:List (List Int)):uQ (kD t) (.lst (ts.map kD))=some (.bl (!decide (t∈ts))):=by unfold uQ;rw[Bj];rfl
theorem qa (i:Int)(t:List Int):PM (.int i) (kD t)=some (.bl (decide (i∈t))):=by unfold PM;rw[DJ];rfl
theorem PR {α:Type}{ds:List α}{i:Nat}{d:α}(h:ds[i]?=some d):m7 ds (i:Int)=some d:=by
 have hl:i<ds.length:=(UY.mp h).1;unfold m7 xK;rw[if_pos (by lia),if_pos (by lia),VM]
 exact h
theorem HX {α:Type}{ds:List α}{i:Int}(h0:0<=i)(h1:i<ds.length):∃d∈ds,m7 ds i=some d/\ds[i.toNat]?=some d:=by
 have hl:i.toNat<ds.length:=by lia
 refine⟨ds[i.toNat],X9 hl,?_,U3 hl⟩;have:=PR (ds:=ds) (i:=i.toNat) (U3 hl)
 rwa [show ((i.toNat:Nat):Int)=i by lia]at this
theorem p_ {ds:List D}{i:Nat}{d:D}(h:ds[i]?=some d):oi (.lst ds) (.int (i:Int))=some d:=PR h
theorem DI {ds:List D}{i:Nat}{d:D}(h:ds[i]?=some d):oi (.tup ds) (.int (i:Int))=some d:=PR h
theorem pick {ds:List D}{r:Int}{p:D->Prop}(h0:0<=r)(h1:r<ds.length)(h:∀d∈ds,p d):∃d,oi (.lst ds) (.int r)=some d/\p d:=by
 obtain⟨d,hd,e,_⟩:=HX h0 h1;exact⟨d,e,h d hd⟩
theorem sG {i j:Int}:sH [.int i,.int j]=some (.int (if j<i then j else i)):=by
 first|rfl|(simp[sH])
def Mn:D->Option String
 |.bH=>some "NoneType"
 |.bl _=>some "bool"
 |.int _=>some "int"
 |.str _=>some "str"
 |.tup _=>some "tuple"
 |.lst _=>some "list"
 |_=>none
section
variable {X:Cx}{W:Addr->Prop}{H:Hp}{pins:List (Addr×Obj)}{σ:St}{s:UT}
theorem Rp.ty {d:D}{v:V}{T:String}(h:Rp X W H d v)(e:Mn d=some T):iE X.K H v (.type T):=by
 cases d with
 |bH=>cases h;cases e;exact .bH
 |bl b=>cases h;cases e;exact .bl _
 |int b=>cases h;cases e;exact .int _
 |str b=>cases h;cases e;exact .str _
 |tup ds=>obtain⟨a,vs,rfl,h1,_⟩:=h;cases e;exact .tup h1
 |lst ds=>obtain⟨a,vs,rfl,h1,_⟩:=h;cases e;exact .lst h1
 |_=>cases e
theorem yn:gg X (.builtin "isinstance") (λxs H Q=>∃x p n1 n2 T k,xs=[x,.ref p]/\H p=some (.tup [.ty n1,.ty n2])/\iE X.K H x (.type T)/\PySem.W.kitAny X.K (.type T) [.type n1,.type n2]=some k/\Q (.bl k) H):=by
 intro pins s σ H xs us Q I r h;obtain⟨x,p,n1,n2,T,k,rfl,hp,ty,e,q⟩:=h;obtain⟨u,w',rfl,r1,r2⟩:=vals2 r;cases (show w'=Value.ref p from r2)
 obtain⟨_,its,rv,o,ho,hc,n,hd⟩:=(show bh X.prog X.w H s.heap p (.tup [.ty n1,.ty n2]) from I.bM p _ hp)
 obtain⟨u1,u2,rfl,e1,e2⟩:∃u1 u2,its=[u1,u2]/\RelV (.ty n1) u1/\RelV (.ty n2) u2:=by
  cases rv with
  |cons a rr=>cases rr with
   |cons b rr=>cases rr;exact⟨_,_,rfl,a,b⟩
 cases (show u1=Value.type n1 from e1)
 cases (show u2=Value.type n2 from e2)
 obtain⟨c,dd,dt,sl⟩:=o;simp only at hc hd;subst hc hd;have fin:∀tk,EP X pins σ Q (.bool k) {s with toks:=tk}:=λtk=>⟨.bl k,H,I.tok _,rfl,q⟩
 cases ty with
 |bH=>cases (show u=Value.none from r1);exact PySem.W.kia_tup PySem.W.kitx_none I.jP WA ho e (λz=>nomatch z) fin
 |bl y=>cases (show u=Value.bool y from r1);exact PySem.W.kia_tup PySem.W.kitx_bool I.jP WA ho e (λz=>nomatch z) fin
 |int i=>obtain⟨t,q⟩:=(show ∃t,u=Value.int i t from r1);cases q;exact PySem.W.kia_tup PySem.W.kitx_int I.jP WA ho e (λz=>nomatch z) fin
 |str y=>obtain⟨t,q⟩:=(show ∃t,u=Value.str y t from r1);cases q;exact PySem.W.kia_tup PySem.W.kitx_str I.jP WA ho e (λz=>nomatch z) fin
 |HH y=>obtain⟨t,q⟩:=(show ∃t,u=Value.float y t from r1);cases q;exact PySem.W.kia_tup PySem.W.kitx_float I.jP WA ho e (λz=>nomatch z) fin
 | @lst a xs ea =>
  cases (show u=Value.ref a from r1)
  obtain⟨_,_,n,_,h1⟩:=(show bh X.prog X.w H s.heap a (.lst xs) from I.bM a _ ea)
  exact PySem.W.kia_tup PySem.W.kitx_list I.jP ⟨_,h1,rfl⟩ ho e (λz=>nomatch z) fin
 | @tu a ob xs ea =>
  cases (show u=Value.ref a from r1)
  obtain⟨_,_,_,n,_,h1⟩:=(show bh X.prog X.w H s.heap a (.tu ob (.lst xs)) from I.bM a _ ea)
  exact PySem.W.kia_tup PySem.W.kitx_list I.jP ⟨_,h1,rfl⟩ ho e (λz=>nomatch z) fin
 | @tup a xs ea =>
  cases (show u=Value.ref a from r1)
  obtain⟨_,_,_,p⟩:=(show bh X.prog X.w H s.heap a (.tup xs) from I.bM a _ ea)
  obtain⟨o,h1,h2,_⟩:=p;exact PySem.W.kia_tup PySem.W.kitx_tuple I.jP ⟨o,h1,h2⟩ ho e (λz=>nomatch z) fin
 | @dK a a7 ea =>
  cases (show u=Value.ref a from r1)
  obtain⟨_,_,vs,_,p⟩:=(show bh X.prog X.w H s.heap a (.dK a7) from I.bM a _ ea)
  obtain⟨o,es,ep,h1,h2,_⟩:=p;exact PySem.W.kia_tup PySem.W.kitx_dict I.jP ⟨o,h1,h2.1⟩ ho e (λz=>nomatch z) fin
 | @dT a a7 ea =>
  cases (show u=Value.ref a from r1)
  obtain⟨_,_,xs,_,o,es,ep,h1,h2,_⟩:=(show bh X.prog X.w H s.heap a (.dT a7) from I.bM a _ ea)
  exact PySem.W.kia_tup PySem.W.kitx_dict I.jP ⟨o,h1,h2.1⟩ ho e (λz=>nomatch z) fin
end
section
variable {X:Cx}{a:Expr}{φ:E7}{T T2:Str}{n n2:String}{p p2 p3 tp pos:Pos}{x1:Nat}
theorem gT (hm:X.mg "isinstance" = none) (ha:PV X a φ) (hT:X.mg T=none) (bT:VI T=some (.type n)) (hg:Gl X "isinstance" := by rfl) (Lu:Gl X T:=by rfl) (Ll:T≠"__name__" := by decide) (Ly:(T==("__debug__" : Str))=false:=by decide)
  (ku:U5 [a,.Name T p2] X.env=(false,eval a X.env)::U5 [.Name T p2] X.env:=by rfl) (AA:U5 [.Name T p2] X.env=(false,eval (.Name T p2) X.env)::U5 [] X.env:=by rfl) (hpl:(WG pos (U5 [.Name T p2] X.env)).any (·.1)=false:=by rfl) :
  PV X (.Call (.Name "isinstance" p) [a,.Name T p2] [] pos) (λρ R=>φ ρ λd=>∃t k,Mn d=some t/\PySem.W.kitOne X.K (.type t) (.type n)=some k/\R (.bl k)) :=
 ⟨λρ R R' k h=>ha.mono ρ _ _ (λd Lf=> by obtain⟨t,b,h1,h2,q⟩ := Lf;exact⟨t,b,h1,h2,k _ q⟩) h,
  (gB Bo hg hm Br (a8 ha.pe (a8 (pF (v:=.ty n) Lu hT bT rfl Ll Ly) cJ AA) ku) (he:=ku) (hpl:=hpl)).pre λσ H Q ⟨W,ρ,se,h⟩=>tD.of ha se h λd v H1 ⟨t,k,h1,h2,q⟩ s1 r1 =>
    ⟨v,n,_,k,rfl,r1.ty h1,h2,q _ H1 s1 rfl⟩⟩
theorem vt (hm:X.mg "isinstance" = none) (ha:PV X a φ) (hT:X.mg T=none) (bT:VI T=some (.type n)) (Ts:X.mg T2=none) (TR:VI T2=some (.type n2)) (hg:Gl X "isinstance" := by rfl) (Lu:Gl X T:=by rfl) (Ll:T≠"__name__" := by decide) (Ly:(T==("__debug__" : Str))=false:=by decide) (Pb:Gl X T2:=by rfl) (OK:T2≠"__name__" := by decide) (Pg:(T2==("__debug__" : Str))=false:=by decide)
  (ku:U5 [a,.Tuple [.Name T p2,.Name T2 p3] x1 tp] X.env=(false,eval a X.env)::U5 [.Tuple [.Name T p2,.Name T2 p3] x1 tp] X.env:=by rfl) (AA:U5 [.Tuple [.Name T p2,.Name T2 p3] x1 tp] X.env=(false,eval (.Tuple [.Name T p2,.Name T2 p3] x1 tp) X.env)::U5 [] X.env:=by rfl) (hpl:(WG pos (U5 [.Tuple [.Name T p2,.Name T2 p3] x1 tp] X.env)).any (·.1)=false:=by rfl)
  (xR:U5 [.Name T p2,.Name T2 p3] X.env=(false,eval (.Name T p2) X.env)::U5 [.Name T2 p3] X.env:=by rfl) (AG:U5 [.Name T2 p3] X.env=(false,eval (.Name T2 p3) X.env)::U5 [] X.env:=by rfl) :
  PV X (.Call (.Name "isinstance" p) [a,.Tuple [.Name T p2,.Name T2 p3] x1 tp] [] pos) (λρ R=>φ ρ λd=>∃t k,Mn d=some t/\PySem.W.kitAny X.K (.type t) [.type n,.type n2]=some k/\R (.bl k)) :=
 ⟨λρ R R' k h=>ha.mono ρ _ _ (λd Ld=> by obtain⟨t,b,h1,h2,q⟩ := Ld;exact⟨t,b,h1,h2,k _ q⟩) h,
  (gB yn hg hm Br (a8 ha.pe (a8 (zL (a8 (pF (v:=.ty n) Lu hT bT rfl Ll Ly) (a8 (pF (v:=.ty n2) Pb Ts TR rfl OK Pg) cJ AG) xR)) cJ AA) ku) (he:=ku) (hpl:=hpl)).pre λσ H Q ⟨W,ρ,se,h⟩=>tD.of ha se h λd v H1 ⟨t,k,h1,h2,q⟩ s1 r1 =>
    ⟨by show 2<=U4;decide,λp hp=>⟨v,p,n,n2,t,k,rfl,ar,Rp.ty (X:=X) (r1.same (au.new hp)) h1,h2,q _ _ (s1.trans (au.new hp)) rfl⟩⟩⟩
end
theorem ur {K:PySem.W.Frag}:PySem.W.kitOne K (.type "list") (.type "list")=some true:=rfl
theorem Ao {K:PySem.W.Frag}:PySem.W.kitOne K (.type "tuple") (.type "list")=some false:=rfl
theorem GU {K:PySem.W.Frag}:PySem.W.kitOne K (.type "int") (.type "int")=some true:=rfl
theorem GV {K:PySem.W.Frag}:PySem.W.kitOne K (.type "int") (.type "bool")=some false:=rfl
theorem C6 {K:PySem.W.Frag}:PySem.W.kitAny K (.type "int") [.type "list",.type "tuple"]=some false:=rfl
theorem C5 {K:PySem.W.Frag}:PySem.W.kitAny K (.type "NoneType") [.type "list",.type "tuple"]=some false:=rfl
theorem vR {K:PySem.W.Frag}:PySem.W.kitAny K (.type "tuple") [.type "list",.type "tuple"]=some true:=rfl
theorem vT {K:PySem.W.Frag}:PySem.W.kitAny K (.type "list") [.type "list",.type "tuple"]=some true:=rfl
theorem DQ:VI "enumerate" = some (.type "enumerate"):=by decide +kernel
def Rm (l:Addr):It :=
 ⟨λi H=>∃xs x,H l=some (.lst xs)/\xs[i]?=some x,
  λi H x H'=>∃T,H T=none/\x=.ref T/\∀xs,H l=some (.lst xs)->∃a,xs[i]?=some a/\H'=upd H T (.tup [.int i,a]),
  λi H=>∃xs,H l=some (.lst xs)/\xs[i]?=none⟩
theorem wO {P:UX}{w:Vb}{K:PySem.W.Frag}{elts:List Expr}{kk:Nat}{pos:Pos}{e it l:Addr}(ne:e≠it):
  Turn P w K (.Tuple elts kk pos) (Rm l) [e,it] e (λk h=>(∃old,IsEnum h e it (k:Int) old)/\h.IsListIter it l k) where
 mem:=by simp
 obj:=λk h Lc c hc=> by
  obtain⟨⟨old,h1⟩,h2⟩ := Lc;simp only[U0,Wy,or_false]at hc;rcases hc with rfl|rfl
  ·exact⟨_,h1,λv z=>by cases (show Data.fields _=Data.cell v from z)⟩
  ·obtain⟨o,a,_,d⟩:=h2;exact⟨o,a,λv z=>by rw[d]at z;cases z⟩
 keep:=λk h h' ⟨⟨old,h1⟩,h2⟩ kp=>⟨⟨old,kp e (by simp) _ h1⟩,h2.at λo q=>kp it (by simp) o q⟩
 item:=by
  intro X hP hw hK hc i pins s σ H E I hf st hg;obtain⟨⟨old,g1⟩,g2⟩:=st;obtain⟨xs,x,hx,ex⟩:=hg;obtain⟨its,r',pl,_⟩:=I.list (da.of hx);obtain⟨u,eu,ru⟩:=r'.get ex;refine wpAny_pyNext_enum_item g1 g2 pl.isList (by simpa using eu) ne λh' y1 y2 y3 y4 y5=>?_
  have I1:=(I.BS (fp:=[e,it]) (x:=.int i) (u:=.int i s.toks) hf (λc o Dq q=>y5 c o (λz=>Dq (by simp[z])) (λz=>Dq (by simp[z])) q) ⟨_,rfl⟩ ru y3).tok (s.toks+1)
  have nT:∀b∈[e,it],upd H s.heap.objs.size (.tup [.int i,x]) b=none:=λb hb=>by
   have:b≠s.heap.objs.size:=by
    simp only[U0,Wy,or_false]at hb;rcases hb with rfl|rfl
    ·exact VP (Vi g1)
    ·obtain⟨o,a,_⟩:=g2;exact VP (Vi a)
   rw[aw this];exact(hf b hb).1
  refine⟨_,rfl,wpAny_letOwnedTupleGo_enum y1 λh'' z' sb=>?_⟩;have I2:Inv X pins σ (upd H s.heap.objs.size (.tup [.int i,x])) {s with heap:=h'',toks:=s.toks+1}:=by
   refine I1.vb (fp:=[e]) (λb hb=>?_) λc o Dq q=>sb.extBut _ _ (by simpa using Dq) q
   have q:b=e:=by simpa using hb
   subst q;exact⟨nT b (by simp),(hf b (by simp)).2⟩
  refine⟨.ref s.heap.objs.size,_,I2,rfl,⟨s.heap.objs.size,I.bM.fresh (UU _),rfl,λIK Dg=>?_⟩,⟨⟨_,z'⟩,y2.at λo q=>sb.extBut _ _ (Xa ne) q⟩,nT⟩;rw[hx]at Dg;cases Dg;exact⟨x,ex,rfl⟩
 done:=by
  intro X hP hw hK hc i pins s σ H E I hf st hg;obtain⟨⟨old,g1⟩,g2⟩:=st;obtain⟨xs,hx,ex⟩:=hg;obtain⟨its,r',pl,_⟩:=I.list (da.of hx);refine wpAny_pyNext_enum_end (I.ok.hd hc) g1 g2 pl.isList (by simpa using r'.none_of ex) λh' y=>?_
  exact⟨rfl,I.vb (fp:=[e,it]) hf λc o Dq q=>y c o (λz=>Dq (by simp[z])) q⟩
 self:=λA i s Q E ⟨⟨old,h1⟩,_⟩ q=>wpAny_pyIter_enum h1 q
def n_ (ds:List D):List D:=kX (kq 0 ds.length) ds
section
variable {X:Cx}{W:Addr->Prop}{H:Hp}{l:Addr}{xs:List V}{ds:List D}
theorem n9 {i:Nat}{d:D}(h:(n_ ds)[i]?=some d):∃b,ds[i]?=some b/\d=.tup [.int i,b]:=by
 obtain⟨a,b,h1,h2,rfl⟩:=qq h;obtain⟨_,rfl⟩:=bE h1;exact⟨b,h2,by simp⟩
theorem n6:(n_ ds).length=ds.length:=by unfold n_;rw[qp,bN];simp
theorem Au (h1:H l=some (.lst xs))(n1:¬ W l)(r1:kj X W H ds xs):wK X W (Rm l) (n_ ds) H:=λW' hW i H' k=>by
 have st:H' l=some (.lst xs):=k.out l _ h1 λz=>(hW l z).elim n1 λq=>by rw[h1]at q;cases q
 have q1:=(ai.grow hW r1).keep k;constructor
 ·intro d hd;obtain⟨b,hb,rfl⟩:=n9 hd;obtain⟨x,ex,rx⟩:=ai.get q1 hb;refine⟨⟨xs,x,st,ex⟩,λv H1 ⟨T,hT,e,yl⟩=>?_⟩;obtain⟨x',Q_,eH⟩:=yl xs st;rw[ex]at Q_;cases Q_;subst e eH;exact⟨au.new hT,Rp.Fo hT (.cons rfl (.cons rx .nil))⟩
 ·intro hl;rw[n6]at hl;exact⟨xs,st,WC (by rw[q1.length];exact hl)⟩
variable {φs:sX}{elts:List Expr}{kk:Nat}{M8:Pos}
def J8 (φs:sX):Ia:=λρ R=>φs ρ λl=>∃as,l=[.lst as]/\R (n_ as)
theorem zq {a:Expr} {p pos:Pos} (hm:X.mg "enumerate" = none) (ha:L8 X [a] φs) (hg:Gl X "enumerate" := by rfl) (hs:U5 [a] X.env=[(false,eval a X.env)]:=by rfl) :
  Ri X (.Tuple elts kk M8) (.Call (.Name "enumerate" p) [a] [] pos) (J8 φs):=by
 refine⟨λρ R R' k q=>ha.mono ρ _ _ (λl Lb=> by obtain⟨as,e,q⟩ := Lb;exact⟨as,e,k _ q⟩) q,λpins s σ H R I ⟨W,ρ,se,q⟩=>?_⟩
 refine Call_ (fN I hg hm DQ (V6 (bA (ha.pa pos pins s σ H _ I (I9.of ha se q λds vs H1 h s1 r1=>(⟨ds,h,s1,r1⟩:∃ds,(∃as,ds=[.lst as]/\∀J H',au H H'->wK X W J (n_ as) H'->R J H')/\au H H1/\kj X W H1 ds vs)))
  λus s1 ⟨vs,H1,I1,rv,h⟩=>?_) hs rfl))
 obtain⟨ds,⟨as,e,q⟩,sm,r1⟩:=h;subst e;obtain⟨x,rfl,⟨l1,xs,rfl,g1,n1,w1⟩⟩:=oI r1;obtain⟨v1,rfl,e1⟩:=vals1 rv;cases (show v1=Value.ref l1 from e1)
 obtain⟨its,_,p1,_⟩:=I1.list (da.of g1);refine call_enumerate_list p1.isList λh' y1 y2 y3 y4=>wpAny_pyIter_enum y1 ?_;have I2:Inv X pins σ H1 {s1 with heap:=h'}:=I1.kept (t':=s1.toks) y4
 refine⟨_,_,_,_,H1,rfl,I2,wO (Nat.succ_ne_self _),⟨⟨_,y1⟩,y2⟩,λb hb=>?_,q _ _ sm (Au g1 n1 w1)⟩;have fP:s1.heap.objs.size<=b:=by
  simp only[U0,Wy,or_false]at hb;rcases hb with rfl|rfl <;> first|exact Nat.le_add_right _ _|exact UU _
 exact I1.AY fP (I1.bM.fresh fP)
end
end L2
namespace HT
open PySem PySem.Spec PyProof.Rows
theorem l5 {α β:Type}{f g:α->Option β}:∀{l:List α},(∀x∈l,f x=g x)->l.filterMap f=l.filterMap g
 |[],_=>rfl
 |x::l,h=>by
  rw[WH,WH,h x (by simp),l5 λy hy=>h y (by simp[hy])]
theorem zf {α:Type}(xs:List α):((Vk xs.length).filterMap λk=>xs[xs.length-1-k]?)=xs.reverse:=by
 have h:=pick_run xs.reverse.toArray 0 xs.length;rw[List.filterMap_map]at h;have e:((Vk xs.length).filterMap λk=>xs[xs.length-1-k]?)=(Vk xs.length).filterMap ((λx=>xs.reverse.toArray[x]?) ∘ λx=>0+x):=by
  refine l5 λk hk=>?_;have O2:=V3.mp hk;show _=xs.reverse.toArray[0+k]?;rw[List.getElem?_toArray,Wh,List.getElem?_reverse O2]
 rw[e,h];simp only[Za];exact Wk (by simp)
theorem mN (items:Array UR):slicePick items none none (some (-1))=items.toList.reverse.toArray:=by
 have e:(sliceRange (WM none none (some (-1)) items.size).1 (WM none none (some (-1)) items.size).2.1 (WM none none (some (-1)) items.size).2.2)=(Vk items.size).map λk=>items.size-1-k:=by
  show sliceRange ((items.size:Int)-1) (-1) (-1)=_;unfold sliceRange;have c:(if (-1:Int)>0 then (if (items.size:Int)-1 < -1 then ((-1)-((items.size:Int)-1)+-1-1) / -1 else 0) else (if (items.size:Int)-1 > -1 then ((items.size:Int)-1-(-1)-(-1)-1) / (-(-1)) else 0)).toNat=items.size:=by
   rw[if_neg (by lia)]
   split
   ·rw[show (-(-1):Int)=1 by rfl,Int.ediv_one];lia
   ·lia
  simp only[c];refine V4 λk hk=>?_;have:=V3.mp hk;lia
 unfold slicePick;rw[e,List.filterMap_map]
 congr 1
 have:=zf items.toList;rw[Vn]at this;rw[<- this];refine l5 λk hk=>?_;show items[items.size-1-k]?=_;rw[Vl]
section
end
end HT
namespace L2
open PySem PySem.Spec PySem.SeqAt PyProof.Rows
theorem ai.rev {P:UX}{w:Vb}{W:Addr->Prop}{H:Hp}:∀{ds:List D} {vs:List V},ai P w W H ds vs->ai P w W H ds.reverse vs.reverse
 |[],_,h=>by rw[show _=[] from h];rfl
 |d::ds,_,⟨v,r,e,h1,h2⟩=>by
  subst e;rw[WW,WW];exact(ai.rev h2).append (.one h1)
theorem Vals.rev:∀{xs:List V} {us:List UR},Vals xs us->Vals xs.reverse us.reverse
 |_,_,.nil=>.nil
 |_,_,.cons r t=>by
  rw[WW,WW];exact(Vals.rev t).append (.cons r .nil)
section
end
end L2
namespace L2.Q
open PySem PySem.Spec PySem.SeqAt PyProof.Rows
def allB (β:a_):yD:=β.map λb=>match b with|some (.val _ d)=>some d|some (.own d)=>some d|_=>none
def Fl (β:a_):yD:=β.map λb=>match b with|some (.val _ d)=>some d|_=>none
section
variable {P:UX}{w:Vb}{C:Cfg}{σ:St}{H:Hp}{β:a_}{own:Nat->List Addr}{i:Nat}
theorem bG.Nq (s:bG P w C σ H β own):IH P w (λ_=>False) σ H (allB β):=⟨λa z=>z.elim,λi d e=>by
 unfold allB at e;rw[Vd]at e;cases q:β[i]? with
 |none=>rw[q]at e;cases e
 |some x =>
  rw[q]at e;cases x with
  |none=>cases e
  |some x =>
   cases x with
   |val y d'=>cases e;obtain⟨v,h1,h2⟩:=s.val i y d q;exact⟨v,h1,h2.aR λ_ z=>z.elim⟩
   |own d'=>cases e;obtain⟨v,h1,h2,_⟩:=s.ow i d q;exact⟨v,h1,h2.rep λ_ _ z=>z⟩
   |hand ok=>cases e
   |shl y d=>cases e⟩
theorem bG.Np (s:bG P w C σ H β own):IH P w (av C (Wn own) .old) σ H (Fl β):=⟨s.Bd .old,λi d e=>by
 unfold Fl at e;rw[Vd]at e;cases q:β[i]? with
 |none=>rw[q]at e;cases e
 |some x =>
  rw[q]at e;cases x with
  |none=>cases e
  |some x =>
   cases x with
   |val y d'=>cases e;obtain⟨v,h1,h2⟩:=s.val i y d q;exact⟨v,h1,h2.aR λa z=>by cases y <;> first|exact .inl z|exact .inl (.inl z)⟩
   |own d'=>cases e
   |hand ok=>cases e
   |shl y d=>cases e⟩
end
section
variable {X:Cx}{C:Cfg}{e tg it:Expr}{φ:E7}{ι:Ia}
theorem gA (h:PV X e φ):PQ X C true e (λβ R=>φ (allB β) λd=>d.flat=true/\R d .own β) :=
 ⟨λβ R R' k q=>h.mono _ _ _ (λd q=>⟨q.1,k _ _ _ q.2⟩) q,h.pe.pre λσ H Q xR=>by obtain⟨β,own,s,q⟩:=xR;exact tD.of h s.Nq q λd v H1 AG s1 r1=>by obtain⟨f,q⟩:=AG;exact q v H1 own ((Out.refl s true).same s1) (KV.flat f r1)⟩
theorem Cm (h:Ri X tg it ι):yE X C true tg it (λβ R=>ι (Fl β) λds=>R ds .old β) :=
 ⟨λβ R R' k q=>h.mono _ _ _ (λd q=>k _ _ _ q) q,h.pi.pre λσ H R Dh=>by obtain⟨β,own,s,q⟩:=Dh;exact⟨_,_,s.Np,h.mono _ _ _ (λds q J H' s1 it=>q J H' own ((Out.refl s true).same s1) it) q⟩⟩
end
section
variable {P:UX}{w:Vb}{C:Cfg}{σ:St}{H:Hp}{β:a_}{own:Nat->List Addr}{i:Nat}{ok:List Int->Prop}{ns:List Int}
theorem nC:∀{ns:List Int} {vs:List V} {A:List Addr},aN P w H (ns.map D.int) vs A->vs=ns.map V.int/\A=[]
 |[],_,_,h=>h
 |n::ns,_,_,⟨v,r,A1,A2,e,eA,h1,h2⟩=>by
  obtain⟨rfl,rfl⟩:=nC h2;obtain⟨rfl,rfl⟩:=h1;exact⟨e,by rw[eA];rfl⟩
theorem bG.toHand (s:bG P w C σ H β own)(e:β[i]?=some (some (.own (.lst (ns.map D.int)))))(ho:ok ns)(io:∀b,¬ C.IO b):bG P w C σ H (β.set i (some (.hand ok))) own:=by
 obtain⟨v,h1,⟨a,vs,A',rfl,h2,h3,h4⟩,h5⟩:=s.ow i _ e;obtain⟨rfl,rfl⟩:=nC h4;refine⟨by simp[s.len],λj y d q=>?_,λj d q=>?_,λj yy q=>?_,s.dm,s.jo,s.mB,s.kp,s.hJ,λj y d q=>by
  by_cases aE:i=j
  ·subst aE;obtain⟨e',_⟩:=a5 q;cases e'
  ·rw[aZ aE]at q;exact s.shl j y d q⟩
 ·by_cases aE:i=j
  ·subst aE;obtain⟨e',_⟩:=a5 q;cases e'
  ·rw[aZ aE]at q;exact s.val j y d q
 ·by_cases aE:i=j
  ·subst aE;obtain⟨e',_⟩:=a5 q;cases e'
  ·rw[aZ aE]at q;exact s.ow j d q
 ·by_cases aE:i=j
  ·subst aE;obtain⟨e',_⟩:=a5 q;cases e';exact⟨a,ns,h1,h2,ho,h3,.inl io⟩
  ·rw[aZ aE]at q;exact s.pR j yy q
end
section
variable {X:Cx}{C:Cfg}{e:Expr}{φ:aX}{p:Bool}{i:Nat}{x:Str}{pos pos' px ap cp:Pos}{ok:List Int->Prop}
theorem Cv (ok:List Int->Prop)(O3:∀b,¬ C.IO b)(he:∀U,PQ X (C.u U) p e φ)(hN:X.N.Nodup)(hi:X.N[i]?=some x:=by rfl)(hx:Loc X.env.scope x:=by first|exact .inl rfl|exact .inr rfl)
  (hs:Ww e (some (.Name x pos')) pos.line X.env=pure false:=by rfl) (hf:X.fn x=true\/X.env.scope.names.lookup x=some .local:=by first|exact .inl rfl|exact .inr rfl|assumption) :
  PB X C (.Assign [.Name x pos'] e pos) (λE β=>φ β λd k β'=>Ez k d/\i<β'.length/\∃ns:List Int,d=.lst (ns.map D.int)/\ok ns/\E.nx (β'.set i (some (.hand ok)))):=by
 have B:=fJ (C:=C) (i:=i) (pos:=pos) (pos':=pos') he hN hi hx hs hf;refine⟨λE E' β l q=>(he λ_=>False).mono _ _ _ (λd k β' Kl=>by obtain⟨f,h,ns,e,o,q⟩:=Kl;exact⟨f,h,ns,e,o,l.nx _ q⟩) q,B.ps.pre λDe σ H ⟨Z,E,β,sb,q,yy⟩=>?_⟩
 refine⟨Z,{E with nx:=λβ'=>∃(ns:List Int) (β2:a_),i<β2.length/\β'=β2.set i (some (.own (.lst (ns.map D.int))))/\ok ns/\E.nx (β2.set i (some (.hand ok)))},β,sb,(he λ_=>False).mono _ _ _ (λd k β' Kj=>by obtain⟨f,h,ns,e,o,q⟩:=Kj;exact⟨f,ns,β',h,by rw[e],o,q⟩) q,⟨λσ' H' β' tW ⟨ns,β2,hl,e,o,q⟩=>?_,yy.rt,yy.bk,yy.ct⟩⟩
 subst e;obtain⟨own,s,n⟩:=tW;have:=s.toHand (i:=i) (ok:=ok) (get_set hl) o O3;rw[Xu]at this;exact yy.nx _ _ _ ⟨own,this,n⟩ q
theorem bG.putL {P:UX}{w:Vb}{σ:St}{H:Hp}{β:a_}{own:Nat->List Addr}{U U2:Addr->Prop}{ds ds':List D}{vs':List V}{a:Addr}{vs:List V}{A A':List Addr}(s:bG P w (C.u U) σ H β own)(e:β[i]?=some (some (.own (.lst ds))))(h1:σ[i]?=some (some (.ref a)))(h2:H a=some (.lst vs))(h3:own i=a::A)
  (r:aN P w H ds' vs' A') (nd:A'.Nodup) (hA:∀c∈A',c∈A\/(C.H0 c=none/\¬ Wn own c/\U c)) (hU:∀a,U2 a->U a) (Po:∀c∈A',c∉A->¬ U2 c) :
  bG P w (C.u U2) σ (upd H a (.lst vs')) (β.set i (some (.own (.lst ds')))) (aH own i (a::A'))/\∀c∈a::A',c∈own i\/(C.H0 c=none/\¬ Wn own c/\U c):=by
 have ha:a∈own i:=by rw[h3];simp
 have nA:a∉A:=by have:=s.mB i;rw[h3]at this;exact(Vw.mp this).1
 have na:∀c∈A',c≠a:=λc hc z=>by
  subst z;rcases hA c hc with z|z
  ·exact nA z
  ·exact z.2.1 ⟨i,ha⟩
 have kt:∀b xs,H b=some (.tup xs)->upd H a (.lst vs') b=some (.tup xs):=λb xs z=>by rw[aw (λz'=>by rw[z',h2]at z;cases z)];exact z
 have Q9:∀c∈a::A',c∈own i\/(C.H0 c=none/\¬ Wn own c/\U c):=λc hc=>by
  rcases U0.mp hc with rfl|hc
  ·exact .inl ha
  ·exact(hA c hc).imp (λz=>by rw[h3];simp[z]) id
 refine⟨s.FT e h1 ha ⟨a,vs',A',rfl,ar,rfl,r.keep kt λc hc oc ec=>by rw[aw (na c hc)];exact ec⟩ (Vw.mpr ⟨λz=>na a z rfl,nd⟩) Q9 hU (λc hc z=>?_),Q9⟩
 rcases U0.mp hc with rfl|hc
 ·exact(s.dm i c ha).2.2.2 (hU c z)
 ·by_cases q:c∈A
  ·exact(s.dm i c (by rw[h3];simp[q])).2.2.2 (hU c z)
  ·exact Po c hc q z
theorem zP {own:Nat->List Addr}{i:Nat}{A':List Addr}(h:∀c∈A',c∈own i):∀c,Wn (aH own i A') c->Wn own c:=λc AD=>by
 obtain⟨j,hj⟩:=AD
 by_cases aE:i=j
 ·rw[<- aE,os_eq]at hj;exact⟨i,h c hj⟩
 ·rw[bq aE]at hj;exact⟨j,hj⟩
theorem FZ {P:UX}{w:Vb}{H:Hp}{own:Nat->List Addr}{Z:Hp×(Addr->Prop)}{d:D}{v:V}{A:List Addr}(r:Own P w H d v A)(h:∀c∈A,¬ Wn own c/\C.H0 c=none):KV P w C Z own H (sk .dy d) d v:=by
 have q:ay P w (av C (Wn own) .dy) H d v:=r.rep λc hc z=>z.elim (h c hc).1 λz=>z (h c hc).2;cases d with
 |int i=>exact KV.flat rfl q
 |bl i=>exact KV.flat rfl q
 |bH=>exact KV.flat rfl q
 |str i=>exact KV.flat rfl q
 |_=>exact q
theorem aN.concat {P:UX}{w:Vb}{H:Hp}{ds:List D}{d:D}{vs:List V}{A:List Addr}(h:aN P w H (ds++[d]) vs A):∃us v A1 A2,vs=us++[v]/\A=A1++A2/\aN P w H ds us A1/\Own P w H d v A2:=by
 obtain⟨v,A1,A2,A3,g1,g2,g3,g4,g5⟩:=h.split (i:=ds.length) (d:=d) (by simp)
 rw[List.take_left]at g3;have e3:aN P w H [] (vs.drop (ds.length+1)) A3:=by simpa using g5
 have hl:=h.length;rw[Vr,WT]at hl;refine⟨vs.take ds.length,v,A1,A2,?_,by rw[g2,e3.2,Wr],g3,g4⟩
 have c5:ds.length<vs.length:=by lia
 have e1:vs=vs.take ds.length++vs.drop ds.length:=(WB _ _).symm;rw[VN c5,e3.1]at e1;have:vs[ds.length]=v:=by
  have:=U3 c5;rw[g1]at this;exact(VQ this).symm
 rw[this]at e1;exact e1
theorem zG (hN:X.N[i]?=some x:=by rfl)(hv:sR X.env.scope x:=by first|exact .inl rfl|exact .inr (.inl rfl)|exact .inr (.inr rfl))(hd:(x==("__debug__" : Str))=false:=by decide)(gm:(x==("__classdict__" : Str))=false:=by decide)
  (fg:Xg (.Name x px) "pop" X.env (eval (.Name x px) X.env)=eval (.Name x px) X.env:=by rfl) (ff:(ap.endLine==cp.line)=true:=by rfl) :
  PQ X C false (.Call (.Attribute (.Name x px) "pop" ap) [] [] cp) (λβ R=>∃ds d,β[i]?=some (some (.own (.lst (ds++[d]))))/\R d (sk .dy d) (β.set i (some (.own (.lst ds))))) :=
 ⟨λβ R R' k AB=>by obtain⟨ds,d,h1,q⟩:=AB;exact⟨ds,d,h1,k _ _ _ q⟩,(F5 (apos:=ap) (cpos:=cp) PySem.F.plainAttrs_list PySem.F.slot_list_pop PySem.F.type_list_pop GA (cR (pos:=px) hN hv hd gm) fg ff).pre λσ H Q uB=>by
  obtain⟨β,own,s,ds,d,hb,q⟩:=uB;obtain⟨a,vs,A,h1,h2,h3,h4⟩:=s.rH hb;obtain⟨us,v,A1,A2,rfl,rfl,g3,g4⟩:=h4.concat;have nd:=s.mB i;rw[h3]at nd;obtain⟨Io,CZ,JK⟩:=V0.mp (Vw.mp nd).2;obtain⟨s2,hA⟩:=s.putL (C:=C) (U:=C.U) (U2:=C.U) (ds':=ds) (vs':=us) (A':=A1) hb h1 h2 h3 g3 Io (λc hc=>.inl (by simp[hc])) (λ_ z=>z) (λc hc n=>absurd (by simp[hc]) n)
  have h0:∀c∈own i,C.H0 c=none:=by obtain⟨_,_,_,h⟩:=s.ow i _ hb;exact h
  have kt:∀b xs,H b=some (.tup xs)->upd H a (.lst us) b=some (.tup xs):=λb xs z=>by rw[aw (λz'=>by rw[z',h2]at z;cases z)];exact z
  have na:∀c∈A2,c≠a:=λc hc z=>(Vw.mp nd).1 (by rw[<- z];simp[hc])
  have le:∀c,Wn (aH own i (a::A1)) c->Wn own c:=zP λc hc=>by rw[h3];rcases U0.mp hc with rfl|hc <;> simp[*]
  refine⟨.ref a,h1,.inl ⟨rfl,_,da.of h2⟩,a,_,v,rfl,rfl,h2,by simp,?_⟩
  rw[List.dropLast_concat];refine q v _ _ ⟨s2,?_,λz=>(nomatch z),le⟩ (FZ (C:=C) (g4.keep kt λc hc oc ec=>by rw[aw (na c hc)];exact ec) λc hc=>⟨λ⟨j,hj⟩=>?_,h0 c (by rw[h3];simp[hc])⟩)
  ·have u:=Sn.upd (Z:=(H,Wn own)) (o':=.lst us) (Sn.refl (H:=H) (W:=Wn own)) h2 (λxs z=>by cases z) ⟨i,by rw[h3];simp⟩
   exact⟨λb z=>.inl (le b z),u.k,u.d⟩
  ·by_cases aE:i=j
   ·rw[<- aE,os_eq]at hj;rcases U0.mp hj with rfl|hj
    ·exact na _ hc rfl
    ·exact JK _ hj _ hc rfl
   ·rw[bq aE]at hj;exact aE (s.jo i j c (by rw[h3];simp[hc]) hj)⟩
end
section
variable {C:Cfg}{i:Nat}
theorem B6 {Z:Hp×(Addr->Prop)}{H:Hp}{own:Nat->List Addr}{a:Addr}{o oa:HO}{A':List Addr}{U:Addr->Prop}(n:Sn Z H (Wn own))(m:∀a,U a->Z.1 a=none)(h2:H a=some oa)(ht:∀xs,oa≠.tup xs)(ha:Wn own a)(hA:∀c∈A',c∈own i\/(C.H0 c=none/\¬ Wn own c/\U c)):Sn Z (upd H a o) (Wn (aH own i A')) :=
 lq n m ha ⟨oa,h2,ht⟩ hA
end
abbrev JW (l:Bool)(ds:List D):D:=match l with|true=>.lst ds|false=>.tup ds
section
variable {P:UX}{w:Vb}{H:Hp}{A:List Addr}{v:V}{ds:List D}{l:Bool}
theorem q_ {m:Nat}{es:List D}(r:Own P w H (JW l ds) v A)(nd:A.Nodup)(hm:ds[m]?=some (.lst es)):∃a vs c us B,v=.ref a/\H a=some (match l with|true=>.lst vs|false=>.tup vs)/\vs.length=ds.length/\vs[m]?=some (.ref c)/\H c=some (.lst us)/\c∈A/\aN P w H es us B/\(∀x∈B,x∈A/\x≠c)/\B.Nodup /\
  ∀uI u7 B',aN P w H uI u7 B'->B'.Nodup->(∀x∈B',x∈B\/x∉A)->(∀x∈B',x≠c)->∃A',Own P w (upd H c (.lst u7)) (JW l (ds.set m (.lst uI))) v A'/\A'.Nodup/\∀x∈A',x∈A\/x∈B':=by
 have core:∀{vs:List V} {A:List Addr},A.Nodup->aN P w H ds vs A->∃c us B,vs[m]?=some (.ref c)/\H c=some (.lst us)/\c∈A/\aN P w H es us B/\(∀x∈B,x∈A/\x≠c)/\B.Nodup /\
   ∀uI u7 B',aN P w H uI u7 B'->B'.Nodup->(∀x∈B',x∈B\/x∉A)->(∀x∈B',x≠c)->∃A',aN P w (upd H c (.lst u7)) (ds.set m (.lst uI)) vs A'/\A'.Nodup/\(∀x∈A',x∈A\/x∈B'):=λ{vs A} nd os=>by
  have hl:=os.length;have SX:m<ds.length:=(UY.mp hm).1;obtain⟨u,A1,A2,A3,g1,rfl,g3,⟨c,us,B,rfl,h2,rfl,h4⟩,g5⟩:=os.split hm;obtain⟨Io,CZ,JK⟩:=V0.mp nd;obtain⟨QC,R9,QB⟩:=V0.mp CZ;have Sa:=(Vw.mp QC).1;refine⟨c,us,B,g1,h2,by simp,h4,λx hx=>⟨by simp[hx],λz=>Sa (by rw[<- z];exact hx)⟩,(Vw.mp QC).2,λuI u7 B' o' n' fP pU=>?_⟩
  have kt:∀b xs,H b=some (.tup xs)->upd H c (.lst u7) b=some (.tup xs):=λb xs z=>by rw[aw (λz'=>by rw[z',h2]at z;cases z)];exact z
  have n1:∀x∈A1,x≠c:=λx hx z=>JK x hx c (by simp) z
  have n3:∀x∈A3,x≠c:=λx hx z=>QB c (by simp) x hx z.symm
  have off:∀x∈B',x∉A1/\x∉A3:=λx hx=>by
   rcases fP x hx with z|z
   ·exact⟨λq=>JK x q x (by simp[z]) rfl,λq=>QB x (by simp[z]) x q rfl⟩
   ·exact⟨λq=>z (by simp[q]),λq=>z (by simp[q])⟩
  have QR:m<vs.length:=by lia
  have ev:vs=vs.take m++V.ref c::vs.drop (m+1):=by
   have e1:vs=vs.take m++vs.drop m:=(WB _ _).symm;rw[VN QR]at e1;have:vs[m]=V.ref c:=by
    have:=U3 QR;rw[g1]at this;exact(VQ this).symm
   rwa [this]at e1
  refine⟨A1++((c::B')++A3),?_,V0.mpr ⟨Io,V0.mpr ⟨Vw.mpr ⟨λz=>pU c z rfl,n'⟩,R9,λx hx y hy=>?_⟩,λx hx y hy z=>?_⟩,λx hx=>?_⟩
  ·rw[List.set_eq_take_append_cons_drop,if_pos SX];have q:aN P w (upd H c (.lst u7)) (ds.take m++.lst uI::ds.drop (m+1)) (vs.take m++.ref c::vs.drop (m+1)) (A1++((c::B')++A3)) :=
    (g3.keep kt λx hx oc ec=>by rw[aw (n1 x hx)];exact ec).append ⟨.ref c,_,c::B',A3,rfl,rfl,⟨c,u7,B',rfl,ar,rfl,o'.keep kt λx hx oc ec=>by rw[aw (pU x hx)];exact ec⟩,g5.keep kt λx hx oc ec=>by rw[aw (n3 x hx)];exact ec⟩
   rw[<- ev]at q;exact q
  ·intro z;subst z;rcases U0.mp hx with rfl|hx
   ·exact n3 _ hy rfl
   ·exact(off x hx).2 hy
  ·subst z;rcases Vp.mp hy with hy|hy
   ·rcases U0.mp hy with rfl|hy
    ·exact n1 _ hx rfl
    ·exact(off x hy).1 hx
   ·exact JK x hx x (by simp[hy]) rfl
  ·rcases Vp.mp hx with hx|hx
   ·exact .inl (by simp[hx])
   ·rcases Vp.mp hx with hx|hx
    ·rcases U0.mp hx with rfl|hx
     ·exact .inl (by simp)
     ·exact .inr hx
    ·exact .inl (by simp[hx])
 cases l with
 |true =>
  obtain⟨a,vs,A',rfl,h2,rfl,h4⟩:=r;obtain⟨na,JM⟩:=Vw.mp nd;obtain⟨c,us,B,q1,q2,q3,q4,q5,q6,q7⟩:=core JM h4;have ca:c≠a:=λz=>na (by rw[<- z];exact q3)
  refine⟨a,vs,c,us,B,rfl,h2,h4.length,q1,q2,by simp[q3],q4,λx hx=>⟨by simp[(q5 x hx).1],(q5 x hx).2⟩,q6,λuI u7 B' o' n' fP pU=>?_⟩
  obtain⟨A2,g1,g2,g3⟩:=q7 uI u7 B' o' n' (λx hx=>(fP x hx).imp id λz q=>z (by simp[q])) pU
  refine⟨a::A2,⟨a,vs,A2,rfl,by rw[aw ca.symm];exact h2,rfl,g1⟩,Vw.mpr ⟨λz=>?_,g2⟩,λx hx=>?_⟩
  ·rcases g3 a z with z|z
   ·exact na z
   ·rcases fP a z with z|z
    ·exact na (q5 a z).1
    ·exact z (by simp)
  ·rcases U0.mp hx with rfl|hx
   ·exact .inl (by simp)
   ·exact(g3 x hx).imp (λz=>by simp[z]) id
 |false =>
  obtain⟨a,vs,rfl,h2,h4⟩:=r;obtain⟨c,us,B,q1,q2,q3,q4,q5,q6,q7⟩:=core nd h4;have ca:a≠c:=λz=>by rw[z,q2]at h2;cases h2
  refine⟨a,vs,c,us,B,rfl,h2,h4.length,q1,q2,q3,q4,q5,q6,λuI u7 B' o' n' fP pU=>?_⟩;obtain⟨A2,g1,g2,g3⟩:=q7 uI u7 B' o' n' fP pU;exact⟨A2,⟨a,vs,rfl,by rw[aw ca];exact h2,g1⟩,g2,g3⟩
end
section
variable {X:Cx}{C:Cfg}{e k:Expr}{φ φk:aX}{i:Nat}{x:Str}{pos px kp ap cp:Pos}
theorem j9 (l:Bool)(he:∀U,PQ X (C.u U) true e φ)(hk:∀U,PQ X (C.u U) true k φk)(hN:X.N[i]?=some x:=by rfl)(hv:sR X.env.scope x:=by first|exact .inl rfl|exact .inr (.inl rfl)|exact .inr (.inr rfl))(hd:(x==("__debug__" : Str))=false:=by decide)(gm:(x==("__classdict__" : Str))=false:=by decide)
  (S6:qe k:=by exact λ_ _=>rfl)
  (fg:Xg (.Subscript (.Name x px) k kp) "append" X.env (eval (.Subscript (.Name x px) k kp) X.env)=eval (.Subscript (.Name x px) k kp) X.env:=by rfl)
  (pT:((WG cp (U5 [e] X.env)).all (λx=>!x.1)&&(Y9 cp (Yq [] X.env)).all (λx=>x.1.isSome)&&decide ([e].length+([]:List XZ).length+(if ([]:List XZ).isEmpty then 0 else 1)<30))=true:=by rfl)
  (ff:(ap.endLine==cp.line)=true:=by rfl) (hs:U5 [e] X.env=(false,eval e X.env)::U5 [] X.env:=by rfl) (fO:(WG cp (U5 [] X.env)).any (·.1)=false:=by rfl)
  (uy:Ww (.Call (.Attribute (.Subscript (.Name x px) k kp) "append" ap) [e] [] cp) none pos.line X.env=pure false:=by rfl) :
  PB X C (.Expr (.Call (.Attribute (.Subscript (.Name x px) k kp) "append" ap) [e] [] cp) pos) (λE β=>(∃d0,β[i]?=some (some (.own d0)))/\φk β λjd _ β1=>∃ds j m es,jd=.int j/\β1[i]?=some (some (.own (JW l ds)))/\xK ds.length j=some m/\ds[m]?=some (.lst es)/\φ β1 λd kd β2=>Ez kd d/\β2[i]?=some (some (.own (JW l ds)))/\es.length<U4/\E.nx (β2.set i (some (.own (JW l (ds.set m (.lst (es++[d]))))))) ):=by
 refine⟨λE E' β l La=> by obtain⟨q0,q⟩ := La;exact⟨q0,(hk λ_=>False).mono _ _ _ (λjd _ β1 K_=> by obtain⟨ds,j,m,es,h1,h2,h3,h4,q⟩ := K_;exact⟨ds,j,m,es,h1,h2,h3,h4,(he λ_=>False).mono _ _ _ (λd kd β2 K9=> by obtain⟨g1,g2,g3,q⟩ := K9;exact⟨g1,g2,g3,l.nx _ q⟩) q⟩) q⟩,λpins s σ H De I ⟨Z,E,β,⟨own,sq,n⟩,⟨⟨d0,Te⟩,q⟩,ok⟩=>?_⟩
 have ix:Ie X (λx y H Q=>Jn X.K x y H Q\/Jm X.K x y H Q):=λvalue slice pins s σ H x y v u Q I rx ry h hs=>h.elim (λh=>cX value slice pins s σ H x y v u Q I rx ry h hs) λh=>As value slice pins s σ H x y v u Q I rx ry h hs;refine i4 (pos:=pos) (vB (apos:=ap) (cpos:=cp) PySem.F.plainAttrs_list PySem.F.slot_list_append PySem.F.type_list_append gX (h8 (pos:=kp) ix (cR (pos:=px) hN hv hd gm) (hk λa=>H a=none).pe S6) (a8 (he λa=>H a=none).pe cJ hs) fg pT ff hs fO) uy pins s σ H De I ?_;have RK:=sq.kY (C:=C.z) (U:=λa=>H a=none) λa z=>z;obtain⟨v0,EG,_,_⟩:=sq.ow i d0 Te;refine⟨v0,EG,tQ.of (hk λa=>H a=none) RK q λjd kk β1 kv H1 aA ⟨ds,j,m,es,e1,hb,hj,hm,q⟩ o r=>?_⟩;subst e1;cases r.rep;obtain⟨v,Ka,ow,h0⟩:=o.sq.ow i _ hb;rw[EG]at Ka;cases Ka;obtain⟨a,vs,c,us,B,rfl,q1,q2,q3,q4,q5,q6,q7,q8,q9⟩:=q_ ow (o.sq.mB i) hm;have Rf:m7 vs j=some (.ref c):=by unfold m7;rw[q2,hj];exact q3
 have CT:Mm X.K "list" (.ref c) H1/\Ee (tQ X (C.u λa=>H a=none) true φ) IY σ H1 λxs H2=>vp (.ref c) xs H2 λ_ H1=>De.nx σ H1:=by
  refine⟨.inl ⟨rfl,us,da.of q4⟩,tQ.of (he λa=>H a=none) o.sq q λd kd β2 v2 H2 bc ⟨f,Q3,hl,q⟩ o2 r2=>?_⟩;obtain⟨s2,e2⟩:=o2.pu rfl;obtain⟨v',MF,R4,UI⟩:=o2.sq.ow i _ Q3;rw[EG]at MF;cases MF;obtain⟨a',vs',c',u7,B',ea,p1,p2,p3,p4,p5,p6,p7,p8,p9⟩:=q_ R4 (o2.sq.mB i) hm;cases ea;have e3:=s2 _ _ q1;rw[p1]at e3;have ev:vs'=vs:=by cases l <;> (cases e3;rfl)
  subst ev;rw[q3]at p3;cases p3;have e4:=s2 _ _ q4;rw[p4]at e4;cases e4;obtain⟨A,r1,rn,r3⟩:=r2.fl f;have Gv:∀x∈A,x∉bc i:=λx hx z=>(r3 x hx).2.1 ⟨i,z⟩;obtain⟨A',g1,g2,g3⟩:=p9 (es++[d]) (us++[v2]) (B'++A) (p6.append (aN.one r1)) (V0.mpr ⟨p8,rn,λx hx y hy z=>Gv y hy (by rw[<- z];exact(p7 x hx).1)⟩)
   (λx hx=>(Vp.mp hx).imp id (Gv x)) (λx hx z=>by
    rcases Vp.mp hx with hx|hx
    ·exact(p7 x hx).2 z
    ·exact Gv x hx (by rw[z];exact p5))
  have hA:∀x∈A',x∈bc i\/(C.H0 x=none/\¬ Wn bc x/\H x=none):=λx hx=>by
   rcases g3 x hx with z|z
   ·exact .inl z
   ·rcases Vp.mp z with z|z
    ·exact .inl (p7 x z).1
    ·exact .inr ⟨(r3 x z).2.2,(r3 x z).2.1,o.sn.free (r3 x z).1⟩
  exact⟨c,us,v2,rfl,rfl,p4,by rw[p6.length];exact hl,ok.nx _ _ _ ⟨_,o2.sq.putIn (C:=C) (U:=λa=>H a=none) Q3 EG p5 g1 g2 hA,lq ((n.trans o.sn).trans o2.sn) (λb z=>n.free z) ⟨i,p5⟩ ⟨_,p4,λxs z=>by cases z⟩ hA⟩ q⟩
 cases l with
 |true=>exact .inl ⟨a,vs,j,.ref c,rfl,rfl,da.of q1,Rf,CT⟩
 |false=>exact .inr ⟨a,vs,j,.ref c,rfl,rfl,sW.of q1,Rf,CT⟩
end
end L2.Q
namespace L2
open PySem PySem.Spec PySem.SeqAt PyProof.Rows
theorem Ip {b:Bool}{p q:Prop}(h1:b=true->p)(h2:b=false->q):(if b=true then p else q):=by
 cases b
 ·exact d4 rfl (h2 rfl)
 ·exact iu rfl (h1 rfl)
def jW (a b c d:Int):Bool:=(decide (a<c)&&(decide (c<b)&&decide (b<d))) || (decide (c<a)&&(decide (a<d)&&decide (d<b)))
def bL:List Int->List Int->Bool
 |[a,b],[c,d]=>jW a b c d
 |_,_=>false
def Pair (t:List Int):Prop:=∃a b,t=[a,b]
def gG:FD:=λds R=>∃t u,ds=[kD t,kD u]/\Pair t/\Pair u/\R (.bl (bL t u))
theorem gG.mono:cD gG:=λds R R' k ⟨t,u,e,h1,h2,q⟩=>⟨t,u,e,h1,h2,k _ q⟩
def bB (t u:List Int):Bool:=t.any λi=>decide (i∈u)
def l9:FD:=λds R=>∃t u,ds=[kD t,kD u]/\Pair t/\R (.bl (bB t u))
theorem l9.mono:cD l9:=λds R R' k ⟨t,u,e,h1,q⟩=>⟨t,u,e,h1,k _ q⟩
abbrev Flt:=Option (Str×List Nat)
def HG:Flt->D
 |none=>.bH
 |some (s,ks)=>.tup (.str s::ks.map λ(k:Nat)=>D.int (k:Int))
def ql (ts:List (List Int))(p:List Int->Bool)(j:Nat):Bool:=match ts[j]? with|some u=>p u|none=>false
def jm (rows ts:List (List Int))(k:Nat)(t:List Int):Flt:=if t∈rows then
   (if decide (0<k)&&ql ts (λu=>!HT.lexLt u t) (k-1) then some ("order",[k]) else
    match (Vk k).find? (ql ts λu=>bB u t)with
    |some j=>some ("twice",[j,k])
    |none=>match (Vk k).find? (ql ts λu=>bL u t)with
      |some j=>some ("cross",[j,k])
      |none=>none)
  else some ("none",[k])
def iA (rows ts:List (List Int))(k:Nat):Flt:=match ts[k]? with
 |none=>none
 |some t=>jm rows ts k t
theorem jU {rows ts:List (List Int)}{k:Nat}{t:List Int}(h:ts[k]?=some t):iA rows ts k=jm rows ts k t:=by unfold iA;rw[h]
def iw (rows ts:List (List Int)):Flt:=(Vk ts.length).findSome? (iA rows ts)
theorem iy {p:Nat->Bool}{j:Nat}:∀{k:Nat},j<k->p j=true->(∀i<j,p i=false)->(Vk k).find? p=some j
 |0,h,_,_=>by lia
 |k+1,h,hp,hb=>by
  rw[XH,List.find?_append]
  by_cases hj:j<k
  ·rw[iy hj hp hb];rfl
  ·have e:j=k:=by lia
   subst e;have:(Vk j).find? p=none:=YC.mpr λi hi=>by simp[hb i (V3.mp hi)]
   rw[this];simp[hp]
theorem find_none {p:Nat->Bool}{k:Nat}(h:∀i<k,p i=false):(Vk k).find? p=none:=YC.mpr λi hi=>by simp[h i (V3.mp hi)]
theorem rY {f:Nat->Flt}{j:Nat}{x:Str×List Nat}:∀{k:Nat},j<k->f j=some x->(∀i<j,f i=none)->(Vk k).findSome? f=some x
 |0,h,_,_=>by lia
 |k+1,h,hp,hb=>by
  rw[XH,List.findSome?_append]
  by_cases hj:j<k
  ·rw[rY hj hp hb];rfl
  ·have e:j=k:=by lia
   subst e;have:(Vk j).findSome? f=none:=XT.mpr λi hi=>hb i (V3.mp hi);rw[this];simp[hp]
theorem Ds {f:Nat->Flt}{k:Nat}(h:∀i<k,f i=none):(Vk k).findSome? f=none:=XT.mpr λi hi=>h i (V3.mp hi)
def Pairs (ts:List (List Int)):Prop:=∀t∈ts,Pair t
def mn:FD:=λds R=>∃(n:Int) (rows ts:List (List Int)) (k:Nat),ds=[.tup [.int n,.lst (rows.map kD)],.lst (ts.map kD),.int k]/\k<ts.length/\Pairs ts/\k<2 ^ 60/\R (HG (iA rows ts k))
theorem mn.mono:cD mn:=λds R R' k ⟨n,rows,ts,j,e,h1,h2,h3,q⟩=>⟨n,rows,ts,j,e,h1,h2,h3,k _ q⟩
def ml:FD:=λds R=>∃(n:Int) (rows ts:List (List Int)),ds=[.tup [.int n,.lst (rows.map kD)],.lst (ts.map kD)]/\ts.length<=100000/\Pairs ts/\R (HG (iw rows ts))
theorem ml.mono:cD ml:=λds R R' k ⟨n,rows,ts,e,h1,h2,q⟩=>⟨n,rows,ts,e,h1,h2,k _ q⟩
def mh:FD:=λds R=>∃(n:Int) (rows ts:List (List Int)),ds=[.tup [.int n,.lst (rows.map kD)],.lst (ts.map kD)]/\ts.length<=100000/\Pairs ts/\R (.bl (decide (iw rows ts=none)))
theorem mh.mono:cD mh:=λds R R' k ⟨n,rows,ts,e,h1,h2,q⟩=>⟨n,rows,ts,e,h1,h2,k _ q⟩
theorem nK:∀t u:List Int,yv.lexLe t u=!HT.lexLt u t
 |[],[]=>rfl
 |[],_::_=>rfl
 |_::_,[]=>rfl
 |x::xs,y::ys=>by
  show (if x=y then yv.lexLe xs ys else decide (x<=y))=!(if y=x then HT.lexLt ys xs else decide (y<x))
  by_cases h:x=y
  ·rw[if_pos h,if_pos h.symm,nK xs ys]
  ·rw[if_neg h,if_neg (Xa h)]
   by_cases h2:x<=y
   ·have:¬ y<x:=by lia
    simp[h2,this]
   ·have:y<x:=by lia
    simp[h2,this]
theorem DH (t u:List Int):LU (kD t) (kD u)=some (.bl (!HT.lexLt u t)):=by
 show (match bV (t.map D.int),bV (u.map D.int)with|some ns,some ms=>some (D.bl (yv.lexLe ns ms))|_,_=>none)=_
 rw[cS,cS];show some (D.bl (yv.lexLe t u))=_;rw[nK]
theorem DG (t u:List Int):LS (kD t) (kD u)=some (.bl (HT.lexLt t u)):=by
 show (match bV (t.map D.int),bV (u.map D.int)with|some ns,some ms=>some (D.bl (HT.lexLt ns ms))|_,_=>none)=_
 rw[cS,cS]
theorem A4:∀f:Flt,(HG f).flat=true
 |none=>rfl
 |some (s,ks)=>by
  show (D.flat (.str s)&&D.cK (ks.map λ(k:Nat)=>D.int (k:Int)))=true;have:D.cK (ks.map λ(k:Nat)=>D.int (k:Int))=true:=r_ (T:=λ_=>True) λd hd=>by
   obtain⟨k,_,rfl⟩:=VA.mp hd;exact⟨trivial,rfl⟩
  rw[this];rfl
theorem iB {ts:List (List Int)}{k:Nat}{t:List Int}(h:ts[k]?=some t):oi (.lst (ts.map kD)) (.int (k:Int))=some (kD t):=p_ (by rw[Vd,h];rfl)
structure Bs2 (mg:Str->Option UR):Prop extends Bs mg where
 EE:mg "isinstance" = none
 tuple:mg "tuple" = none
 str:mg "str" = none
 bool:mg "bool" = none
 zip:mg "zip" = none
 enumerate:mg "enumerate" = none
theorem gI {d:D}{n:Nat}(h:d.pd.canLay0=true/\d.pd.depth<=n)(hn:n<=64:=by decide):IF d d=some (.bl true):=uR (cE h hn) (cE h hn) (eqv_refl _ h.1)
theorem jq {d:D}{n:Nat}(h:d.pd.canLay0=true/\d.pd.depth<=n)(hn:n<=64:=by decide):LP d d=some (.bl false):=Bg (cE h hn) (cE h hn) (eqv_refl _ h.1)
end L2
namespace L2.Q
open PySem PySem.Spec PySem.SeqAt PyProof.Rows
structure uY (X:Cx)(C:Cfg)(p:Bool)(ifs:List Expr)(τ:ba):Prop where
 mono:∀β R R',(∀d β,R d β->R' d β)->τ β R->τ β R'
 pt:tx X ifs (j0 X C p τ)
theorem ij {X:Cx}{C:Cfg}:uY X C true [] IP:=⟨λ_ _ _ k h=>k _ _ h,zD⟩
theorem fw {X:Cx}{C:Cfg}{p:Bool}{c:Expr}{τ:ba}(h:tE X C p c τ):uY X C p [c] τ:=⟨h.mono,zC h⟩
section
variable {X:Cx}{C:Cfg}{lk:List (Option Nat)}{γ:fq}{τ:ba}{φ:aX}{T:List Nat}{pc pe pi:Bool}{scope:Xr}{N':List Str}{tg c8 elt:Expr}{ifs:List Expr}{ι:c7}{pos pos' qI:Pos}{y:Str}{i:Nat}
theorem Eu (N':List Str)(lk:List (Option Nat))(L:jN X.env.scope.names X.N scope N' lk=true)(xU:N'.Nodup)(hc:X.calm=true)(hi:yE X C pi tg c8 ι)
  (yA:∀U cl c s H ex,BA (aF X scope N' cl c s H ex) (C.u U) tg T γ) (ux:∀U cl c s H ex,uY (aF X scope N' cl c s H ex) (C.u U) pc ifs τ) (yB:∀U cl c s H ex,PQ (aF X scope N' cl c s H ex) (C.u U) pe elt φ)
  (hT:T.all (λi=>match lk[i]? with|some (some _)=>false|_=>true)=true:=by rfl) (hs:∀x,VV c8 X.env x=pure x:=by intro _;rfl):PQ X C (pi&&(pc&&pe)) (.ListComp elt [⟨tg,c8,ifs,0⟩] scope pos) (vq lk ι γ τ φ) :=
 Jx (Links.of L) xU hT hc hi (λa=>yA _) (λa cl c s H ex=>(ux _ cl c s H ex).pt) (ux (λ_=>False) [] 0 X.s₀ X.H₀ []).mono (λa=>yB _) (yA (λ_=>False) [] 0 X.s₀ X.H₀ []).mono (yB (λ_=>False) [] 0 X.s₀ X.H₀ []).mono hs
theorem zd (o:Bool)(N':List Str)(lk:List (Option Nat))(L:jN X.env.scope.names X.N scope N' lk=true)(xU:N'.Nodup)(hc:X.calm=true)(hi:∀U,yE X (C.u U) pi tg c8 ι)
  (yA:∀U cl c s H ex,BA (aF X scope N' cl c s H ex) (C.u U) tg T γ) (ux:∀U cl c s H ex,uY (aF X scope N' cl c s H ex) (C.u U) pc ifs τ) (yB:∀U cl c s H ex,PQ (aF X scope N' cl c s H ex) (C.u U) pe elt φ)
  (hN:X.N.Nodup) (hT:T.all (λi=>match lk[i]? with|some (some _)=>false|_=>true)=true:=by rfl) (hy:X.N[i]?=some y:=by rfl) (hx:Loc X.env.scope y:=by first|exact .inl rfl|exact .inr rfl) (hf:X.fn y=true\/X.env.scope.names.lookup y=some .local:=by first|exact .inl rfl|exact .inr rfl|assumption)
  (uy:Ww (.ListComp elt [⟨tg,c8,ifs,0⟩] scope pos) (some (.Name y pos')) qI.line X.env=pure true:=by rfl)
  (Hw:evalThenUse (.ListComp elt [⟨tg,c8,ifs,0⟩] scope pos) X.env (assign (.Name y pos') X.env)=(do let _ <- comprehension (.ListComp elt [⟨tg,c8,ifs,0⟩] scope pos) scope X.env (firstIterPos [⟨tg,c8,ifs,0⟩] pos) (newList []) false (eval c8 X.env) (some (assign (.Name y pos') X.env));pure ()):=by first|rfl|exact arm_evalThenUse_ListComp ..)
  (hs:∀x,VV c8 X.env x=pure x:=by intro _;rfl) :
  PB X C (.Assign [.Name y pos'] (.ListComp elt [⟨tg,c8,ifs,0⟩] scope pos) qI) (λE β=>vq lk ι γ τ φ β λd _ β'=>E.nx (β'.set i (some (match o with|true=>.own d|false=>.val true d)))) :=
 Jw (K:=λ_ _ _=>True) (Links.of L) xU hT hc hi yA (λU cl c s H ex=>(ux U cl c s H ex).pt) (ux (λ_=>False) [] 0 X.s₀ X.H₀ []).mono yB (yA (λ_=>False) [] 0 X.s₀ X.H₀ []).mono (yB (λ_=>False) [] 0 X.s₀ X.H₀ []).mono o hN hy hx hf uy Hw hs
theorem bf:Ie X (Cc X oi NF):=λvalue slice pins s σ H x y v u Q I rx ry ⟨W,d1,d2,d,hd,r1,r2,e,q⟩ hs =>
 G1 value slice pins s σ H x y v u Q I rx ry ⟨W,d1,d2,d,hd,r1,r2,e,λv H' s r=>q v H' s r λf=>ay.flat f r⟩ hs
end
section
end
theorem yi (ns:List Int)(lo hi:Option Int):∃ms:List Int,sL (ns.map V.int) lo hi=ms.map V.int/\ms.length<=ns.length:=by
 refine⟨(ns.drop (HT.lA (ns.map V.int).length 0 lo)).take (HT.lA (ns.map V.int).length (ns.map V.int).length hi-HT.lA (ns.map V.int).length 0 lo),?_,?_⟩
 ·unfold sL;rw[List.map_take,List.map_drop]
 ·rw[VS,X8];lia
section
variable {P:UX}{w:Vb}
theorem cQ {W:Addr->Prop}{H:Hp}:∀ns:List Int,ai P w W H (ns.map D.int) (ns.map V.int)
 |[]=>rfl
 |n::ns=>⟨_,_,rfl,rfl,cQ ns⟩
theorem B0 {N:List Str}{vs:List V}{H H':Hp}{n:Nat}{ro:Bool}{U:Addr->Prop}(hl:(L2.start N vs).length=n)(sm:au H H'):bG P w ⟨H,λ_=>False,ro,U⟩ (L2.start N vs) H' (Vo n none) (λ_=>[]) :=
 ⟨by rw[hl,List.length_replicate],λi y d h=>(gx h).elim,λi d h=>(gx h).elim,λi ok h=>(gx h).elim,λi a h=>(nomatch h),λi j a h=>(nomatch h),λi=>V_,sm.kp,λa z e=>z (sm.free e),λi y d h=>(gx h).elim⟩
theorem Jk {ro:Bool}{H H':Hp}{b:Bool}{v:V}(h:qf P w ro H H' (.bl b) v):v=.bl b:=by
 cases ro with
 |true=>obtain⟨A,h1,_⟩:=h;exact h1.1
 |false=>exact h
end
end L2.Q
namespace L2
open PySem PySem.Spec PySem.SeqAt PyProof.Rows
abbrev FN (n:Int)(rows:List (List Int)):D:=.tup [.int n,.lst (rows.map kD)]
theorem wX (n:Int)(rows:List (List Int)):(FN n rows).pd.canLay0=true/\(FN n rows).pd.depth<=4:=nj λd hd=>by
 rcases U0.mp hd with rfl|hd
 ·exact⟨(bP n).1,Vm (bP n).2 (by decide)⟩
 ·rw[U8.mp hd];exact lr rows
end L2
namespace L2.Q
open PySem PySem.Spec PySem.SeqAt PyProof.Rows
theorem Bl {β:a_}{i j k l:Nat}{y1 y2 y3 y4:Bool}{a b c d:Int}{R:D->Kd->a_->Prop}(h1:β[i]?=some (some (.val y1 (.int a))))(h2:β[j]?=some (some (.val y2 (.int b))))(h3:β[k]?=some (some (.val y3 (.int c))))(h4:β[l]?=some (some (.val y4 (.int d))))
  (q:R (.bl (decide (a<b)&&(decide (b<c)&&decide (c<d)))) .own β):pk (zj i) (zm HP (zj j) (zm HP (zj k) (FR HP (zj l)))) β R:=by
 refine⟨_,h1,_,h2,_,rfl,lY (λz1=>⟨_,h3,_,rfl,lY (λz2=>⟨_,h4,_,rfl,?_⟩) (λz2=>?_)⟩) (λz1=>?_)⟩
 ·simpa[z1,z2] using q
 ·simpa[z1,z2] using q
 ·simpa[z1] using q
def ud (ns:List Int):Prop:=∃x y z:Int,ns=[x,y,z]/\0<=x
def A7:FD:=λds R=>∃c:Int,ds=[.int c]/\∀ns,ud ns->R (.lst (ns.map D.int))
theorem A7.mono:cD A7:=λds R R' k ⟨c,e,q⟩=>⟨c,e,λns o=>k _ (q ns o)⟩
section
variable {P:UX}{w:Vb}{H:Hp}{h:Addr}
theorem rd {H:Hp}:∀ns:List Int,aN P w H (ns.map D.int) (ns.map V.int) []
 |[]=>⟨rfl,rfl⟩
 |n::ns=>⟨_,_,[],[],rfl,rfl,⟨rfl,rfl⟩,rd ns⟩
theorem tZ {xs ys:List V}(e:H h=some (.lst xs)):Kp (·=h) H (upd H h (.lst ys)):=⟨λb u hb nb=>by rw[aw nb];exact hb,λb IK hb=>by rw[aw λz=>by rw[z,e]at hb;cases hb];exact hb⟩
theorem t5 {ys:List V}:∀c,H c≠none->upd H h (.lst ys) c≠none:=λc hc=>by
 by_cases z:c=h
 ·rw[z,ar];exact λz=>(nomatch z)
 ·rw[aw z];exact hc
theorem vK {H':Hp}{r:Int}:qf P w true H H' (.int r) (.int r):=e9 (W:=λ_=>False) rfl rfl
end
end L2.Q
namespace iH
open PySem L2 L2.Q
abbrev D0 (K:PySem.W.Frag)(mg:Str->Option UR)(f:Addr)(fd:Vz):Prop:=Df K mg "_law_row" gS ["deck","most"] f fd
abbrev D1 (K:PySem.W.Frag)(mg:Str->Option UR)(f:Addr)(fd:Vz):Prop:=Df K mg "_law_take" dJ ["deck","many"] f fd
abbrev D2 (K:PySem.W.Frag)(mg:Str->Option UR)(f:Addr)(fd:Vz):Prop:=Df K mg "stretches_rising" bJ ["many"] f fd
abbrev D3 (K:PySem.W.Frag)(mg:Str->Option UR)(f:Addr)(fd:Vz):Prop:=Df K mg "partners_of" cU ["row"] f fd
abbrev D4 (K:PySem.W.Frag)(mg:Str->Option UR)(f:Addr)(fd:Vz):Prop:=Df K mg "parts_left" dh ["i","k","j"] f fd
abbrev D5 (K:PySem.W.Frag)(mg:Str->Option UR)(f:Addr)(fd:Vz):Prop:=Df K mg "ways_in" gQ ["counts","parts"] f fd
abbrev D6 (K:PySem.W.Frag)(mg:Str->Option UR)(f:Addr)(fd:Vz):Prop:=Df K mg "ways_by" gR ["counts","choices","i","j"] f fd
abbrev D7 (K:PySem.W.Frag)(mg:Str->Option UR)(f:Addr)(fd:Vz):Prop:=Df K mg "counts_of" eh ["row"] f fd
abbrev D8 (K:PySem.W.Frag)(mg:Str->Option UR)(f:Addr)(fd:Vz):Prop:=Df K mg "arcs_cross" dj ["one","other"] f fd
abbrev D9 (K:PySem.W.Frag)(mg:Str->Option UR)(f:Addr)(fd:Vz):Prop:=Df K mg "share_a_point" cq ["one","other"] f fd
abbrev DZ (K:PySem.W.Frag)(mg:Str->Option UR)(f:Addr)(fd:Vz):Prop:=Df K mg "fault_at" fC ["row","ties","k"] f fd
abbrev Fb (K:PySem.W.Frag)(mg:Str->Option UR)(f:Addr)(fd:Vz):Prop:=Df K mg "first_fault" cW ["row","ties"] f fd
abbrev Ii (K:PySem.W.Frag)(mg:Str->Option UR)(f:Addr)(fd:Vz):Prop:=Df K mg "is_set" iZ ["row","ties"] f fd
abbrev II (K:PySem.W.Frag)(mg:Str->Option UR)(f:Addr)(fd:Vz):Prop:=Df K mg "check_set" eC ["row","ties"] f fd
abbrev DY (K:PySem.W.Frag)(mg:Str->Option UR)(f:Addr)(fd:Vz):Prop:=Df K mg "waiting_behind" b5 ["waiting","tie"] f fd
abbrev Mk (K:PySem.W.Frag)(mg:Str->Option UR)(f:Addr)(fd:Vz):Prop:=Df K mg "waiting_after" cn ["row","ties"] f fd
abbrev Mj (K:PySem.W.Frag)(mg:Str->Option UR)(f:Addr)(fd:Vz):Prop:=Df K mg "ties_next" eg ["row","waiting"] f fd
abbrev Qd (K:PySem.W.Frag)(mg:Str->Option UR)(f:Addr)(fd:Vz):Prop:=Df K mg "how_many_begin" b6 ["row","ties"] f fd
abbrev Qc (K:PySem.W.Frag)(mg:Str->Option UR)(f:Addr)(fd:Vz):Prop:=Df K mg "set_number" dg ["row","ties"] f fd
abbrev Qb (K:PySem.W.Frag)(mg:Str->Option UR)(f:Addr)(fd:Vz):Prop:=Df K mg "set_at" iY ["row","number"] f fd
abbrev Qa (K:PySem.W.Frag)(mg:Str->Option UR)(f:Addr)(fd:Vz):Prop:=Df K mg "next_set" fy ["row","ties"] f fd
abbrev P_ (K:PySem.W.Frag)(mg:Str->Option UR)(f:Addr)(fd:Vz):Prop:=Df K mg "_law_copied" di ["row"] f fd
abbrev M4 (K:PySem.W.Frag)(mg:Str->Option UR)(f:Addr)(fd:Vz):Prop:=Df K mg "_law_do_cross" cF ["one","other"] f fd
abbrev P9 (K:PySem.W.Frag)(mg:Str->Option UR)(f:Addr)(fd:Vz):Prop:=Df K mg "_law_fits" fB ["some","tie"] f fd
abbrev Rq (K:PySem.W.Frag)(mg:Str->Option UR)(f:Addr)(fd:Vz):Prop:=Df K mg "_law_sets" fz ["row"] f fd
abbrev M3 (K:PySem.W.Frag)(mg:Str->Option UR)(f:Addr)(fd:Vz):Prop:=Df K mg "_law_same" fA ["found","due"] f fd
abbrev P8 (K:PySem.W.Frag)(mg:Str->Option UR)(f:Addr)(fd:Vz):Prop:=Df K mg "_law_is_tuples" cv ["ties"] f fd
abbrev Ro (K:PySem.W.Frag)(mg:Str->Option UR)(f:Addr)(fd:Vz):Prop:=Df K mg "_law_one_right" cu ["row","every","number"] f fd
abbrev Rn (K:PySem.W.Frag)(mg:Str->Option UR)(f:Addr)(fd:Vz):Prop:=Df K mg "_law_cell_at" cV ["script","k"] f fd
abbrev Ug (K:PySem.W.Frag)(mg:Str->Option UR)(f:Addr)(fd:Vz):Prop:=Df K mg "_law_deck" dN ["cell"] f fd
section
variable {P:UX}{w:Vb}{K:PySem.W.Frag}{mg:Str->Option UR}{base:Heap}
theorem qO:aC ["cell"] ["cell"] (ak dN):=⟨rfl,rfl,rfl,by decide +kernel,rfl,by decide +kernel,by decide +kernel⟩
theorem CO {f:Addr} {fd:Vz} (F:BK K "_law_deck" "_law_deck" dN f fd) (B:Bs mg):aD P w K mg base bw 1 f fd ["cell"] (bZ P w true A7):=by
 refine F.ok qO (λvs H Q E h=>?_) (λcC A outer s H vs Q E hr h=>?_)
 ·obtain⟨ds,r,c,rfl,_⟩:=h;obtain⟨x,rr,rfl,_,hr⟩:=r;cases (show rr=[] from hr)
  rfl
 ·obtain⟨ds,r,c,rfl,q⟩:=h;obtain⟨x,rr,rfl,hx,Oj⟩:=r;cases (show rr=[] from Oj)
  cases (show x=V.int c from hx)
  refine⟨_,fE (gz (pD (a8 (gB (oA rfl) (by rfl) B.max Bq (a8 aT (a8 (cj zR (pv 0) (cj Ge aT aT)) cJ)))
   (a8 (cj gC (pv 0) aT) (a8 aT cJ))))),?_⟩
  refine⟨_,rfl,_,_,rfl,rfl,Jy,_,_,rfl,rfl,_,_,rfl,?_⟩;refine⟨_,rfl,_,_,rfl,rfl,(by show (0:Int)<2147483629;decide),(by show 3<=U4;decide),λp hp=>?_⟩
  refine q [_,_,_] ⟨_,_,_,rfl,?_⟩ _ _ (au.new hp) ⟨[p],⟨p,_,[],rfl,ar,rfl,rd [_,_,_]⟩,by simp,λc hc=>by rw[U8.mp hc];exact hp⟩
  split <;> lia
theorem ed:aC ["deck","many","digit","stir"] ["deck","many"] (ak dJ):=⟨rfl,rfl,rfl,by decide +kernel,rfl,by decide +kernel,by decide +kernel⟩
theorem vG {f:Addr} {fd:Vz} (F:BK K "_law_take" "_law_take" dJ f fd):aD P w K mg base bw 1 f fd ["deck","many"] (tR P w ud true c6):=by
 refine F.ok ed (λvs H Q E h=>?_) (λcC A outer s H vs Q E hr h=>?_)
 ·obtain⟨h,vs',ds,ns,rfl,_,_,r,n,rfl,_⟩:=h;obtain⟨x,rr,rfl,_,hr⟩:=r;cases (show rr=[] from hr)
  rfl
 ·obtain⟨h,vs',ds,ns,rfl,e,⟨x,y,z,rfl,x0⟩,r,n,rfl,n0,n1,q⟩:=h;obtain⟨x',rr,rfl,Dg,Oj⟩:=r;cases (show rr=[] from Oj)
  cases (show x'=V.int n from Dg)
  have hx:H h=some (.lst [.int x,.int y,.int z]):=e;refine⟨_,cg (t6 (cj pM (h8 cX (pv 0) aT (λ_ _=>rfl)) aT) (zK (pv 0) aT set_list))
   (cg (zw (pq zT (h8 cX (pv 0) aT (λ_ _=>rfl)) aT (z8 _))
    (cg (jE (i:=2) ed.nd rfl (Or.inl rfl) (cj gC (h8 cX (pv 0) aT (λ_ _=>rfl)) aT))
    (cg (t6 (cj rg (h8 cX (pv 0) aT (λ_ _=>rfl)) aT) (zK (pv 0) aT set_list))
    (fE (gz (cj gC (pv 2) (pv 1)))))) pz)
   (cg (jE (i:=3) ed.nd rfl (Or.inl rfl) (cj gC (cj jJ (cj pM (h8 cX (pv 0) aT (λ_ _=>rfl)) (cj jJ aT (h8 cX (pv 0) aT (λ_ _=>rfl)))) aT) aT))
   (cg (jE (i:=3) ed.nd rfl (Or.inl rfl) (cj gC (cj jJ (pv 3) (pv 3)) aT))
   (fE (gz (cj gC (cj rg (cj gC (cj jJ (cj pM (pv 3) (cj jJ aT (h8 cX (pv 0) aT (λ_ _=>rfl)))) aT) aT) aT) (pv 1))))))),?_⟩
  refine⟨_,rfl,h,_,_,_,rfl,rfl,da.of hx,rfl,_,_,rfl,rfl,?_⟩;refine⟨_,rfl,h,_,_,2,rfl,rfl,hx,rfl,?_⟩;have hy:upd H h (.lst ([V.int x,V.int y,V.int z].set 2 (V.int (z+1)))) h=some (.lst [V.int x,V.int y,V.int (z+1)]):=ar;refine⟨_,rfl,h,_,_,_,rfl,rfl,da.of hy,rfl,_,_,rfl,rfl,_,rfl,?_⟩;refine N8 (λhp=>?_) (λhp=>?_)
  ·refine⟨_,rfl,h,_,_,_,rfl,rfl,da.of hy,rfl,_,_,rfl,rfl,(by show (0:Int)<65536;decide),?_⟩
   refine⟨_,rfl,h,_,_,_,rfl,rfl,da.of hy,rfl,_,_,rfl,rfl,s_.of (by decide) (by decide),?_⟩
   refine⟨_,rfl,h,_,_,0,rfl,rfl,hy,rfl,?_⟩;have m:=pP (a:=x % 65536) n0;exact⟨_,rfl,_,rfl,_,_,rfl,rfl,n0,q _ m.1 m.2 _ _ [x / 65536,y,z+1] ((tZ hx).trans (tZ hy)) (λc hc=>t5 c (t5 c hc)) ar ⟨_,_,_,rfl,Int.ediv_nonneg x0 (by decide)⟩ vK⟩
  ·refine⟨_,rfl,h,_,_,_,rfl,rfl,da.of hy,rfl,_,rfl,h,_,_,_,rfl,rfl,da.of hy,rfl,_,_,rfl,rfl,.inl ⟨by decide,by decide⟩,_,_,rfl,rfl,_,_,rfl,rfl,.inr ⟨by decide,by decide⟩,_,_,rfl,rfl,(by show (0:Int)<2147483647;decide),?_⟩
   have m1:=pP (a:=(y+7919*(z+1))*48271) (b:=2147483647) (by decide)
   refine⟨_,rfl,_,rfl,_,_,rfl,rfl,.inl ⟨Int.lt_of_lt_of_le (by decide) m1.1,Int.lt_trans m1.2 (by decide)⟩,_,_,rfl,rfl,(by show (0:Int)<2147483629;decide),?_⟩
   refine⟨_,rfl,_,rfl,h,_,_,_,rfl,rfl,da.of hy,rfl,_,_,rfl,rfl,.inl ⟨by decide,by decide⟩,_,_,rfl,rfl,_,_,rfl,rfl,.inr ⟨by decide,by decide⟩,_,_,rfl,rfl,(by show (0:Int)<2147483563;decide),_,_,rfl,rfl,s_.of (by decide) (by decide),_,rfl,_,_,rfl,rfl,n0,?_⟩
   have m:=λa:Int=>pP (a:=a) n0;exact q _ (m _).1 (m _).2 _ _ [x,y,z+1] (tZ hx) t5 ar ⟨_,_,_,rfl,x0⟩ vK
end
end iH
namespace L2
open PySem PySem.Spec PyProof.Rows
section
variable {κ:Type}[DecidableEq κ]
def tJ (a7:List (κ×V))(k:κ):Option V:=(a7.find? λkv=>decide (kv.1=k)).map (·.2)
def putK (a7:List (κ×V))(k:κ)(v:V):List (κ×V) :=
 if (a7.any λkv=>decide (kv.1=k))=true then a7.map (λkv=>if kv.1=k then (kv.1,v) else kv) else a7++[(k,v)]
theorem qu {p:κ×V}{r:List (κ×V)}{k:κ}(e:p.1=k):tJ (p::r) k=some p.2:=by simp[tJ,Yn,e]
theorem qv {p:κ×V}{r:List (κ×V)}{k:κ}(e:¬ p.1=k):tJ (p::r) k=tJ r k:=by simp[tJ,Yn,e]
theorem qw (k:κ):∀a7:List (κ×V),(a7.any λkv=>decide (kv.1=k))=(tJ a7 k).isSome
 |[]=>rfl
 |p::r=>by
  rw[List.any_cons]
  by_cases e:p.1=k
  ·simp only[qu e,decide_eq_true e,Bool.true_or,Option.isSome_some]
  ·rw[qv e,decide_eq_false e,Bool.false_or];exact qw k r
theorem ke (a7:List (κ×V))(k:κ)(v:V):(putK a7 k v).length<=a7.length+1:=by
 unfold putK
 split
 ·rw[US];lia
 ·rw[Vr,U_,Wc];lia
theorem yu.xO {o:Option V}{u:Option UR}(r:yu o u):o.isSome=u.isSome:=by
 cases o with
 |none=>cases u with
  |none=>rfl
  |some _=>exact(show False from r).elim
 |some _=>cases u with
  |none=>exact(show False from r).elim
  |some _=>rfl
theorem KV.any {a7:List (κ×V)}{vs:List (κ×UR)}(r:KV a7 vs)(k:κ):(a7.any λkv=>decide (kv.1=k))=vs.any λkv=>decide (kv.1=k):=by
 unfold KV at r
 induction r with
 |nil=>rfl
 |cons h t ih=>rw[List.any_cons,List.any_cons,ih,h.1]
theorem KV.FO {a7:List (κ×V)}{vs:List (κ×UR)}(r:KV a7 vs)(k:κ){y:V}{u:UR}(ry:RelV y u):
  KV (a7.map λkv=>if kv.1=k then (kv.1,y) else kv) (vs.map λkv=>if kv.1=k then (kv.1,u) else kv):=by
 unfold KV at r ⊢
 induction r with
 |nil=>exact .nil
 | @cons p q ps qs h t ih =>
  rw[Vs,Vs];refine .cons ?_ ih;obtain⟨h1,h2⟩:=h
  by_cases e:p.1=k
  ·rw[if_pos e,if_pos (h1.symm.trans e)];exact⟨h1,ry⟩
  ·rw[if_neg e,if_neg (λz=>e (h1.trans z))];exact⟨h1,h2⟩
theorem KV.put {a7:List (κ×V)}{vs:List (κ×UR)}(r:KV a7 vs)(k:κ){y:V}{u:UR}(ry:RelV y u):KV (putK a7 k y) (stored vs k u):=by
 unfold putK stored;rw[r.any k]
 by_cases e:(vs.any λkv=>decide (kv.1=k))=true
 ·rw[if_pos e,if_pos e];exact r.FO k ry
 ·rw[if_neg e,if_neg e];exact Paired.snoc r ⟨rfl,ry⟩
theorem KV.length {a7:List (κ×V)}{vs:List (κ×UR)}(r:KV a7 vs):a7.length=vs.length:=Paired.length r
end
theorem Ex {P:UX}{w:Vb}{k:Key}{u:UR}(r:RelV (kV k) u):(bU P w).is k u=true:=by
 cases k with
 |inl i=>obtain⟨t,e⟩:=(show ∃t,u=Value.int i t from r);subst e;exact rB P w i t
 |inr x=>obtain⟨t,e⟩:=(show ∃t,u=Value.str x t from r);subst e;exact rA P w x t
theorem nM {P:UX}{w:Vb}:∀{ks:List Key} {us:List UR},Vals (ks.map kV) us->ItemsAre (bU P w) ks us
 |[],_,r=>by rw[YK]at r;cases r;exact .nil
 |k::ks,_,r=>by
  rw[Vs]at r;cases r with
  |cons h t=>exact .cons (Ex h) (nM t)
abbrev KT (H:Hp):List (List Key×V)->List (List Key×Addr×UR)->Prop:=Paired λp q=>p.1=q.1/\H q.2.1=some (.tup (p.1.map kV))/\RelV p.2 q.2.2
theorem KT.val {H:Hp}{a7:List (List Key×V)}{xs:List (List Key×Addr×UR)}(r:KT H a7 xs)(k:List Key):yu (tJ a7 k) ((atKey xs k).map (·.2)):=by
 induction r with
 |nil=>exact WA
 | @cons p q ps qs h t ih =>
  obtain⟨h1,_,h2⟩:=h
  by_cases e:p.1=k
  ·have e':q.1=k:=h1.symm.trans e;have b:atKey (q::qs) k=some q.2:=by simp[atKey,Yn,e']
   rw[qu e,b];exact h2
  ·have e':¬ q.1=k:=λz=>e (h1.trans z);have b:atKey (q::qs) k=atKey qs k:=by simp[atKey,Yn,e']
   rw[qv e,b];exact ih
theorem KT.FO {H:Hp}{a7:List (List Key×V)}{xs:List (List Key×Addr×UR)}(r:KT H a7 xs)(k:List Key){y:V}{u:UR}(ry:RelV y u):
  KT H (a7.map λkv=>if kv.1=k then (kv.1,y) else kv) (xs.map (putAt k u)):=by
 induction r with
 |nil=>exact .nil
 | @cons p q ps qs h t ih =>
  rw[Vs,Vs];refine .cons ?_ ih;obtain⟨h1,h2,h3⟩:=h;unfold putAt
  by_cases e:p.1=k
  ·rw[if_pos e,if_pos (h1.symm.trans e)];exact⟨h1,h2,ry⟩
  ·rw[if_neg e,if_neg (λz=>e (h1.trans z))];exact⟨h1,h2,h3⟩
theorem KT.put {H:Hp}{a7:List (List Key×V)}{xs:List (List Key×Addr×UR)}(r:KT H a7 xs)(k:List Key){b:Addr}{y:V}{u:UR}(hb:H b=some (.tup (k.map kV)))(ry:RelV y u):
  KT H (putK a7 k y) (storedH xs k b u):=by
 have e:(a7.any λkv=>decide (kv.1=k))=(atKey xs k).isSome:=by
  rw[qw,(r.val k).xO,Option.isSome_map]
 unfold putK storedH;rw[e]
 by_cases q:(atKey xs k).isSome=true
 ·rw[if_pos q,if_pos q];exact r.FO k ry
 ·rw[if_neg q,if_neg q];exact Paired.snoc r ⟨rfl,hb,ry⟩
theorem KT.keeps {H H':Hp}{a7:List (List Key×V)}{xs:List (List Key×Addr×UR)}(r:KT H a7 xs)(ht:∀b ys,H b=some (.tup ys)->H' b=some (.tup ys)):KT H' a7 xs :=
 Paired.GB r λ_ _ z=>⟨z.1,ht _ _ z.2.1,z.2.2⟩
section
variable {P:UX}{w:Vb}{H:Hp}{h:Heap}{a:Addr}
theorem Ef {u:HO}(ok:iF P w H h)(e:Rd H a u):bh P w H h a u:=e.ok ok
theorem LM {a7:List (Key×V)}(ok:iF P w H h)(e:Rd H a (.dK a7)):a7.length<=U4/\(a==Wz)=false/\∃vs,KV a7 vs/\h.DictOf (bU P w) a vs :=
 show bh P w H h a (.dK a7) from Ef ok e
theorem LN {a7:List (Key×V)}(ok:iF P w H h)(e:H a=some (.dK a7)):a7.length<=U4/\(a==Wz)=false/\∃vs,KV a7 vs/\h.DictOf (bU P w) a vs:=LM ok (.inl e)
theorem Ap {ks:List Key}(ok:iF P w H h)(e:H a=some (.tup (ks.map kV))):(Yu (bU P w)).is h ks a:=by
 obtain⟨_,its,r,o,h1,h2,n,h3⟩:=(show bh P w H h a (.tup (ks.map kV)) from ok a _ e)
 exact⟨o,its.toArray,n,h1,h2,h3,by simpa using nM r⟩
theorem LK {a7:List (List Key×V)}(ok:iF P w H h)(e:Rd H a (.dT a7)):a7.length<=U4/\(a==Wz)=false /\
  ∃xs,KT H a7 xs/\h.DictOfH (Yu (bU P w)) a xs:=by
 obtain⟨z,y,xs,r,o,es,ep,h1,h2,h3,h4,h5⟩:=(show bh P w H h a (.dT a7) from Ef ok e)
 refine⟨z,y,xs,r,o,es,ep,h1,h2,h3,h4,λx hx=>?_,h5⟩;have all:∀{l:List (List Key×V)} {m:List (List Key×Addr×UR)},KT H l m->∀x∈m,(Yu (bU P w)).is h x.1 x.2.1:=by
  intro l m q
  induction q with
  |nil=>intro x hx;exact nomatch hx
  | @cons p q ps qs hq t ih =>
   intro x hx;rcases U0.mp hx with e|hx
   ·subst e;exact Ap ok (by rw[<- hq.1];exact hq.2.1)
   ·exact ih x hx
 exact all r x hx
theorem LL {a7:List (List Key×V)}(ok:iF P w H h)(e:H a=some (.dT a7)):a7.length<=U4/\(a==Wz)=false /\
  ∃xs,KT H a7 xs/\h.DictOfH (Yu (bU P w)) a xs:=LK ok (.inl e)
end
def Mi (H:Hp)(a:Addr)(y v:V)(H':Hp):Prop :=
 (∃a7 k,H a=some (.dK a7)/\y=kV k/\a7.length<U4/\H'=upd H a (.dK (putK a7 k v))) \/
 ∃a7 k b,H a=some (.dT a7)/\y=.ref b/\H b=some (.tup (k.map kV))/\a7.length<U4/\H'=upd H a (.dT (putK a7 k v))
section
variable {X:Cx}{pins:List (Addr×Obj)}{σ:St}{H:Hp}{s:UT}{a:Addr}{y v:V}{u r:UR}{A:VZ}{E:UR->UT->Prop}
theorem Inv.big (I:Inv X pins σ H s):Wz<s.heap.objs.size:=by
 have h:Wv<s.heap.objs.size:=(I.mod.glob.keeps I.bk).lt;exact Nat.lt_trans (by decide) h
theorem wy {h':Heap}{t':Nat}{ob:HO}(I:Inv X pins σ H s)(mu:Mc (H a))(hs:XQ a s.heap h')(he:∃q,h'.get? a=some q)(new:bh X.prog X.w (upd H a ob) h' a ob):
  Inv X pins σ (upd H a ob) {s with heap:=h',toks:=t'} :=
 I.write (x:=a) (e:=a) mu (.inl rfl) (λb q hb z=>(hs.2 b hb).trans z) he new
theorem HJ {P:UX}{w:Vb}{H':Hp}{h':Heap}{a7:List (Key×V)}{vs:List (Key×UR)}(z:a7.length<=U4)(hd:(a==Wz)=false)(rel:KV a7 vs)(dd:h'.DictOf (bU P w) a vs):
  bh P w H' h' a (.dK a7):=⟨z,hd,vs,rel,dd⟩
theorem ye {H':Hp}{Q:Unit->UT->Prop}(hu:A.units+1<XJ)(I:Inv X pins σ H s)(g:Mi H a y v H')(ry:RelV y u)(rv:RelV v r)(h:∀s',Inv X pins σ H' s'->Q () s'):
  Vu (model X.prog X.w) A (setItem (.ref a) u r) Q E s:=by
 rcases g with⟨a7,k,e,ey,l,eH⟩|⟨a7,k,b,e,ey,eb,l,eH⟩
 ·subst ey eH;obtain⟨z,hd,vs,rel,dd⟩:=LN I.bM e;have hz:vs.length<=U4:=by rw[<- rel.length];exact z
  have hl:(putK a7 k v).length<=U4:=by have:=ke a7 k v;lia
  refine wpAny_setItem_pairs (hsz:=hz) (Ex ry) dd λh' MS hs=>h _ ?_;have he:∃q,h'.get? a=some q:=let ⟨q,_,_,hq,_⟩:=MS;⟨q,hq⟩
  exact wy I (by rw[e];exact WA) hs he (HJ hl hd (rel.put k rv) MS)
 ·subst ey eH;cases (show u=Value.ref b from ry)
  obtain⟨z,hd,xs,rel,dd⟩:=LL I.bM e;have hz:xs.length<=U4:=by rw[<- Paired.length rel];exact z
  have hl:(putK a7 k v).length<=U4:=by have:=ke a7 k v;lia
  refine wpAny_setItem_heap (hsz:=hz) (tupleKind_room_in1 hu) (Ap I.bM eb) dd λh' MS hs=>h _ ?_;obtain⟨q,es,ep,hq,h2,h3,h4,_,h5⟩:=MS;refine wy I (by rw[e];exact WA) hs ⟨q,hq⟩ ⟨hl,hd,_,(rel.put k eb rv).keeps λc ys ec=>?_,q,es,ep,hq,h2,h3,h4,h5⟩
  rw[aw (Ep ec e (λz=>nomatch z))];exact ec
end
section
end
def Jj (td ty tv:TE):TS:=λD σ H=>tv σ H λv H1=>td σ H1 λx H2=>ty σ H2 λy H3=>∃a H4,x=.ref a/\Mi H3 a y v H4/\D.nx σ H4
section
variable {X:Cx}{o i value:Expr}{pos pos':Pos}{td ty tv:TE}
theorem Ci (hu:X.A.units+1<XJ)(ho:PE X o td)(hi:PE X i ty)(hv:PE X value tv)(hs:Ww value (some (.Subscript o i pos')) pos.line X.env=pure false):
  PS X (.Assign [.Subscript o i pos'] value pos) (Jj td ty tv):=by
 intro pins s σ H D I h;refine wpAny_Assign_Subscript (bA (hv pins s σ H _ I h) λr s1 ⟨v,H1,I1,rv,q1⟩=>bA (ho pins s1 σ H1 _ I1 q1) λu s2 ⟨x,H2,I2,rx,q2⟩=>bA (hi pins s2 σ H2 _ I2 q2) λiv s3 ⟨y,H3,I3,ry,a,H4,ex,g,q3⟩=>?_) hs;subst ex;obtain rfl:u=Value.ref a:=rx;exact ye hu I3 g ry rv λs4 I4=>⟨σ,H4,I4,q3⟩
end
theorem Bb {P:UX}{w:Vb}{H:Hp}(h:Heap)(hb:Wz<h.objs.size):bh P w H (h.push {cls:=.type "dict",data:=.dict #[]}) h.objs.size (.dT []) :=
 ⟨Ve _,beq_eq_false_iff_ne.mpr (Xa (VP hb)),[],.nil,_,#[],0,VO _ rfl,⟨rfl,rfl,rfl⟩,rfl,rfl,V_⟩
def Fv:TE:=λ_ H Q=>∀p,H p=none->Q (.ref p) (upd H p (.dT []))
section
variable {X:Cx}{pos:Pos}
theorem zM:PE X (.Dict [] [] pos) Fv:=λpins s σ H Q I h =>
 wpAny_Dict_empty ⟨.ref s.heap.objs.size,_,I.laid (a:=s.heap.objs.size) (o:=.dT []) (t':=s.toks) (λ_ _ q=>Vc _ q) (UU _) (Bb s.heap I.big),rfl,h _ (I.bM.fresh (UU _))⟩
end
section
end
section
end
section
end
section
end
section
end
section
variable {κ:Type}[DecidableEq κ]
end
end L2
namespace L2.Q
open PySem PySem.Spec PySem.SeqAt PyProof.Rows
theorem _root_.L2.cT.oP {k:Nat}{A:VZ}(r:cT k A):A.units+1<XJ:=by have:=r.un;lia
def iK (t:List Int):List Key:=t.map Yx
theorem G5 {t u:List Int}(h:iK t=iK u):t=u:=by
 unfold iK at h
 induction t generalizing u with
 |nil=>cases u with|nil=>rfl|cons _ _=>cases h
 |cons a t ih =>
  cases u with
  |nil=>cases h
  |cons b u =>
   rw[Vs,Vs]at h;injection h with h1 h2
   injection h1 with h1
   rw[h1,ih h2]
theorem EF (t:List Int):(iK t).map kV=t.map V.int:=by
 unfold iK;rw[V2];rfl
def dP (ts:List (List Int))(b:Bool):D:=.dT (ts.map iK) (Vo ts.length (.bl b))
def sQ (ts:List (List Int))(t:List Int):List (List Int):=if t∈ts then ts else ts++[t]
theorem pj {v:V}:∀{ks:List (List Key)} {n:Nat},ks.length=n->ks.zip (Vo n v)=ks.map λk=>(k,v)
 |[],_,_=>by simp
 |k::ks,0,h=>by cases h
 |k::ks,n+1,h=>by
  rw[Wm,Wt,pj (Yg h)];rfl
theorem Ce {v:V}{ts:List (List Int)}{t:List Int}:putK ((ts.map iK).map λk=>(k,v)) (iK t) v=((sQ ts t).map iK).map λk=>(k,v):=by
 unfold putK sQ;have any:(((ts.map iK).map λk=>(k,v)).any λkv=>decide (kv.1=iK t))=decide (t∈ts):=by
  rw[Bool.eq_iff_iff,List.any_eq_true,decide_eq_true_eq];constructor
  ·rintro⟨kv,h1,h2⟩;obtain⟨k,h3,rfl⟩:=VA.mp h1;obtain⟨u,h4,rfl⟩:=VA.mp h3;have:=G5 (of_decide_eq_true h2);rw[<- this];exact h4
  ·intro h;exact⟨(iK t,v),VA.mpr ⟨iK t,VA.mpr ⟨t,h,rfl⟩,rfl⟩,by simp⟩
 rw[any]
 by_cases h:t∈ts
 ·rw[if_pos (by simpa using h),if_pos h,V2]
  refine V4 λk _=>?_;show (if k=iK t then (k,v) else (k,v))=(k,v)
  split <;> rfl
 ·rw[if_neg (by simpa using h),if_neg h,Vx,Vx]
  rfl
section
variable {P:UX}{w:Vb}{H:Hp}{a:Addr}
theorem vC {b:Bool}:∀{n:Nat},aN P w H (Vo n (.bl b)) (Vo n (V.bl b)) []
 |0=>⟨rfl,rfl⟩
 |n+1=>⟨_,_,[],[],rfl,rfl,⟨rfl,rfl⟩,vC⟩
theorem wB {b:Bool}:∀{n:Nat} {vs:List V} {A:List Addr},aN P w H (Vo n (.bl b)) vs A->vs=Vo n (V.bl b)/\A=[]
 |0,_,_,h=>h
 |n+1,_,_,⟨v,r,A1,A2,e,eA,h1,h2⟩=>by
  obtain⟨e1,e2⟩:=h1;obtain⟨e3,e4⟩:=wB h2;rw[e,eA,e1,e2,e3,e4];exact⟨rfl,rfl⟩
theorem zQ {ts:List (List Int)}{b:Bool}(h:H a=some (.dT ((ts.map iK).map λk=>(k,V.bl b)))):Own P w H (dP ts b) (.ref a) [a] :=
 ⟨a,Vo ts.length (V.bl b),[],rfl,by rw[pj (by simp)];exact h,by simp,rfl,vC⟩
theorem HL {ts:List (List Int)}{b:Bool}{v:V}{A:List Addr}(h:Own P w H (dP ts b) v A):∃a,v=.ref a/\A=[a]/\H a=some (.dT ((ts.map iK).map λk=>(k,V.bl b))):=by
 obtain⟨a,vs,A',e,h1,l,eA,h2⟩:=h;obtain⟨e3,e4⟩:=wB h2;rw[e3,pj (by simp)]at h1
 exact⟨a,e,by rw[eA,e4],h1⟩
end
section
variable {X:Cx}{C:Cfg}{k:Expr}{φk:aX}{i:Nat}{x:Str}{pos pos' px pc:Pos}{b:Bool}
theorem Cq (b:Bool):PQ X C true (.Dict [] [] pos) (λβ R=>R (dP [] b) .own β) :=
 ⟨λβ R R' k h=>k _ _ _ h,zM.pre λσ H Q h p hp=>by
  obtain⟨β,own,s,q⟩:=h;refine q _ _ own ((Out.refl s _).same (au.new hp)) ⟨[p],zQ ar,by simp,λc hc=>?_⟩
  rw[U8.mp hc];exact⟨hp,λz=>s.uM p z hp,VB λz=>s.hJ p z hp⟩⟩
theorem kM {j}(hu:X.A.units+1<XJ)(hk:PQ X C.z true k φk)(hN:X.N[i]?=some x:=by rfl)(hv:sR X.env.scope x:=by first|exact .inl rfl|exact .inr (.inl rfl)|exact .inr (.inr rfl))(hd:(x==("__debug__" : Str))=false:=by decide)(gm:(x==("__classdict__" : Str))=false:=by decide)
  (hs:Ww (.Constant (.bool b) j pc) (some (.Subscript (.Name x px) k pos')) pos.line X.env=pure false:=by rfl) :
  PB X C (.Assign [.Subscript (.Name x px) k pos'] (.Constant (.bool b) j pc) pos) (λE β=>(∃ts,β[i]?=some (some (.own (dP ts b))))/\φk β λjd _ β2=>∃ts t,jd=kD t/\β2[i]?=some (some (.own (dP ts b)))/\ts.length<U4/\E.nx (β2.set i (some (.own (dP (sQ ts t) b))))):=by
 refine⟨λE E' β l h=>⟨h.1,hk.mono _ _ _ (λjd _ β2 h=>by obtain⟨ts,t,h1,h2,h3,q⟩:=h;exact⟨ts,t,h1,h2,h3,l.nx _ q⟩) h.2⟩,(Ci hu (cR (pos:=px) hN hv hd gm) hk.pe (zN (j:=j) (pos:=pc)) hs).pre λDe σ H h=>?_⟩
 obtain⟨Z,E,β,⟨own,s0,n⟩,⟨⟨Uj,MN⟩,q⟩,ok⟩:=h;obtain⟨v0,EG,Us,_⟩:=s0.ow i _ MN;refine⟨v0,EG,tQ.of hk s0 q λjd kk β2 v H1 aA h o r=>?_⟩;obtain⟨ts,t,e1,hb,hl,q⟩:=h;subst e1;obtain⟨v1,Ka,ow,h0⟩:=o.sq.ow i _ hb;rw[EG]at Ka;cases Ka;obtain⟨a,rfl,eA,ha⟩:=HL ow;obtain⟨p,vs,rfl,hp,rv⟩:=r.rep;have ev:vs=(iK t).map kV:=by
  rw[EF];have key:∀(t:List Int) (vs:List V),ai X.prog X.w (av C.z (Wn aA) kk) H1 (t.map D.int) vs->vs=t.map V.int:=λt=>by
   induction t with
   |nil=>intro vs h;exact h
   |cons y t ih =>
    intro vs h;obtain⟨z,r',e1,e2,e3⟩:=h;rw[e1,ih r' e3,show z=V.int y from e2]
    rfl
  exact key t vs rv
 have OS:a∈aA i:=by rw[eA];simp
 refine⟨a,_,rfl,.inr ⟨_,iK t,p,ha,rfl,by rw[<- ev];exact hp,by rw[US,US];exact hl,rfl⟩,?_⟩
 have hA:∀c∈[a],c∈aA i\/(C.H0 c=none/\¬ Wn aA c/\(λ_=>False) c):=λc hc=>.inl (by rw[U8.mp hc];exact OS)
 have r':Own X.prog X.w (upd H1 a (.dT (putK ((ts.map iK).map λk=>(k,V.bl b)) (iK t) (V.bl b)))) (dP (sQ ts t) b) (.ref a) [a]:=zQ (by rw[Ce];exact ar)
 exact ok.nx _ _ _ ⟨_,o.sq.FT (C:=C) (U:=λ_=>False) (U2:=λ_=>False) hb EG OS r' (by simp) hA (λ_ z=>z) (λ_ _ z=>z),lq (C:=C) (n.trans o.sn) (λ_ z=>z.elim) ⟨i,OS⟩ ⟨_,ha,λxs z=>by cases z⟩ hA⟩ q
end
end L2.Q
namespace Dk
open PySem PySem.Spec PyProof.Rows
def At (h:Heap)(d:Addr)(es:Array XC)(ep:Nat):Prop:=∃o,h.get? d=some o/\o.ExactDict/\o.data=.dict es ep
theorem At.at' {h h':Heap}{d:Addr}{es:Array XC}{ep:Nat}(x:At h d es ep)(e:∀o,h.get? d=some o->h'.get? d=some o):At h' d es ep:=by
 obtain⟨o,h1,r⟩:=x;exact⟨o,e _ h1,r⟩
theorem At.lt {h:Heap}{d:Addr}{es:Array XC}{ep:Nat}(x:At h d es ep):d<h.objs.size:=by
 obtain⟨o,h1,_⟩:=x;exact Vi h1
theorem At.typeIs {s:UT} {d:Addr} {es:Array XC} {ep:Nat} (x:At s.heap d es ep):s.TypeIs (.ref d) "dict" := by
 obtain⟨o,h1,h2,_⟩:=x;exact⟨o,h1,h2.1⟩
section
variable {prog:UX}{w:Vb}{A:VZ}{E:UR->UT->Prop}{s:UT}{d it:Addr}{es:Array XC}{i ep:Nat}
theorem xM {Q:UR->UT->Prop}(hd:(d==Wz)=false)(hm:At s.heap d es ep)
  (hQ:Q (.ref s.heap.objs.size) {s with heap:=s.heap.push {cls:=.type "dict_keyiterator",data:=.fields #[.ref d,.int 0 0,.int es.size 0,.int ep 0]}}):Vu (model prog w) A (Y6 (.ref d)) Q E s:=by
 have hT:=hm.typeIs;obtain⟨o,ho,hc,Lx⟩:=id hm;refine wpAny_pyIter_slot hT F.slot_dict_iter (X6 F.slot_dict_iter hT F.entry_dict_iter ?_ (F.args_dict_iter_1 _));unfold Yh.«dict.__iter__»
 refine UW ?_;unfold Builtin.Dict.dictSlotNone;refine UW (wpAny_notOrdered_dict hT ?_);show Vu _ _ (pure (Value.ref d)) _ _ s;refine Vg ?_;show Vu _ _ (Builtin.Dict.showsAll d >>= _) _ _ s;unfold Builtin.Dict.showsAll;rw[if_neg (by rw[hd];exact VY)]
 refine UW (Vg ?_);refine UW (YF ho Lx ?_);refine UW (Y0 ho Lx ?_);refine UW (XX (Vg ⟨_,rfl,"dict_keyiterator",_,⟨_,VO _ rfl,rfl⟩,F.slot_dict_keyiterator_next.lookup,?_⟩));simpa[rawInt] using hQ
theorem next_item {Q:Option UR->UT->Prop}(hit:s.heap.IsKeyIter it d i es.size ep)(hm:At s.heap d es ep)(OU:i<es.size)
  (hQ:∀h',h'.IsKeyIter it d (i+1) es.size ep->XQ it s.heap h'->Q (some es[i].key) {s with heap:=h'}):Vu (model prog w) A (Y5 (.ref it)) Q E s:=by
 obtain⟨o,ho,hc,hd⟩:=id hit;obtain⟨od,Lj,gm,Lw⟩:=id hm;unfold Y5;refine UW (wpAny_attempt (wpAny_callSpecial?_slot (name:=Str.ofString "__next__") hit.typeIs F.slot_dict_keyiterator_next
  (X6 F.slot_dict_keyiterator_next hit.typeIs F.entry_dict_keyiterator_next ?_ (F.args_dict_keyiterator_next_1 _))))
 refine UW (Vg ?_);refine UW ?_;refine UW ?_
 first|refine UW (WL hit.typeIs (Vg ?_))|refine UW (Xd hit.typeIs (Vg ?_))
 refine UW (wpAny_fieldsOf ho hd ?_);have Ho:Y2 "dict_keyiterator" = false:=by decide
 simp only[Ho,Xn,if_false];show Vu _ _ (if (Value.ref d==Value.none)=true then _ else _) _ _ s
 rw[if_neg (show ¬ ((Value.ref d==Value.none)=true) from VY)]
 refine UW (Vg ?_);refine UW (YF Lj Lw ?_);rw[if_neg (by simp)]
 refine UW (Vg ?_);refine UW (Y0 Lj Lw ?_);rw[if_neg (by simp)]
 refine Vg ?_;simp only[show ¬ ((i:Int)<0) from by lia,if_false,VM,Array.getElem?_eq_getElem OU]
 refine UW ?_
 first|refine UW (WL hit.typeIs (Vg ?_))|refine UW (Xd hit.typeIs (Vg ?_))
 refine UW (wpAny_isOneOf_keyiter hit.typeIs ?_);show Vu _ _ (setField (.ref it) 1 (rawInt ((i:Int)+1)) >>= _) _ _ s;refine UW (wpAny_setField ho hd (by simp) ?_)
 have Dn:(s.heap.update it (Obj.mapFields (·.setIfInBounds 1 (rawInt ((i:Int)+1))))).IsKeyIter it d (i+1) es.size ep :=
  ⟨_,Heap.get?_update_self _ ho (Obj.isFreed_of_fields (Obj.data_mapFields hd _)),(Obj.cls_mapFields ..).trans hc,by rw[Obj.data_mapFields hd];simp[rawInt]⟩
 refine UW (Xf ?_);refine UW (wpAny_isOneOf_keyiter (s:={s with heap:=s.heap.update it (Obj.mapFields (·.setIfInBounds 1 (rawInt ((i:Int)+1))))}) Dn.typeIs ?_)
 show Vu _ _ (pure es[i].key) _ _ _;exact Vg (Vg ⟨_,rfl,Vg (hQ _ Dn (Heap.SameBut.update ..))⟩)
end
section
variable {prog:UX}{w:Vb}{A:VZ}{E:UR->UT->Prop}{s:UT}{d it:Addr}{es:Array XC}{i ep:Nat}
theorem next_end {Q:Option UR->UT->Prop}(hh:A.handled=none)(hit:s.heap.IsKeyIter it d i es.size ep)(hm:At s.heap d es ep)(Q0:es.size<=i)
  (hQ:∀h',Heap.ExtBut it s.heap h'->Q none {s with heap:=h'}):Vu (model prog w) A (Y5 (.ref it)) Q E s:=by
 obtain⟨o,ho,hc,hd⟩:=id hit;obtain⟨od,Lj,gm,Lw⟩:=id hm;unfold Y5;refine UW (wpAny_attempt (wpAny_callSpecial?_slot (name:=Str.ofString "__next__") hit.typeIs F.slot_dict_keyiterator_next
  (X6 F.slot_dict_keyiterator_next hit.typeIs F.entry_dict_keyiterator_next ?_ (F.args_dict_keyiterator_next_1 _))))
 refine UW (Vg ?_);refine UW ?_;refine UW ?_
 first|refine UW (WL hit.typeIs (Vg ?_))|refine UW (Xd hit.typeIs (Vg ?_))
 refine UW (wpAny_fieldsOf ho hd ?_);have Ho:Y2 "dict_keyiterator" = false:=by decide
 simp only[Ho,Xn,if_false];show Vu _ _ (if (Value.ref d==Value.none)=true then _ else _) _ _ s
 rw[if_neg (show ¬ ((Value.ref d==Value.none)=true) from VY)]
 refine UW (Vg ?_);refine UW (YF Lj Lw ?_);rw[if_neg (by simp)]
 refine UW (Vg ?_);refine UW (Y0 Lj Lw ?_);rw[if_neg (by simp)]
 refine Vg ?_;simp only[show ¬ ((i:Int)<0) from by lia,if_false,VM,Xw Q0]
 refine UW ?_
 first|refine UW (WL hit.typeIs (Vg ?_))|refine UW (Xd hit.typeIs (Vg ?_))
 show Vu _ _ (setField (.ref it) 0 .none >>= _) _ _ s;refine UW (wpAny_setField ho hd (by simp) ?_)
 show Vu _ _ (newExc (.type "StopIteration") [] >>= _) _ _ _;refine UW ?_;simp only[newExc,newTuple];refine UW (XX ?_ (by size_fits))
 refine UW (m:=firstArgMember _ _) (wpAny_of_eq (a:=Value.none) (by first|rfl|(simp only[firstArgMember];rfl)) ?_)
 refine XX ?_ (by size_fits)
 simp only[raiseNew];refine UW (wpAny_handled ?_);rw[show A.in1.handled=none from hh]
 refine UW (Vg (wpAny_throw ?_));refine UW (wpAny_isInstance (T:="StopIteration") (b:=true) ⟨_,VO _ rfl,rfl⟩ isSubtype_stop ?_);exact Vg (hQ _ (((Heap.SameBut.update ..).extBut.push _).push _))
theorem walks (hh:A.handled=none)(I d:Addr)(Lk:d≠I)(es:Array XC)(ep:Nat):
  Walks prog w A I [I,d] [I] es.size (λi v=>∃h:i<es.size,v=es[i].key) (λi h=>h.IsKeyIter I d i es.size ep/\At h d es ep) where
 sub:=λb hb=>by simp at hb;simp[hb]
 frame:=λ_ _ _ st hk=>⟨st.1.at λo e=>hk I (by simp) o e,st.2.at' λo e=>hk d (by simp) o e⟩
 item:=λi s Q E hi st hQ=>by
  refine next_item st.1 st.2 hi λh' Dn MI=>?_;exact hQ _ h' s.toks ⟨hi,rfl⟩ ⟨Dn,st.2.at' λo e=>MI.extBut d o Lk e⟩ λb o hb e=>MI.extBut b o (λh=>hb (by simp[h])) e
 done:=λs Q E st hQ=>next_end hh st.1 st.2 (UU _) λh' Tc=>hQ h' s.toks λb o hb e=>Tc b o (λh=>hb (by simp[h])) e
 self:=λ_ _ _ _ st hQ=>wpAny_pyIter_keyiter st.1 hQ
theorem src (lo:(d==Wz)=false):PySem.W.KdlSrc prog w "dict" d d es.size (λi v=>∃h:i<es.size,v=es[i].key) (λh=>At h d es ep) where
 type:=λ_ hm=>hm.typeIs
 there:=λ_ hm=>⟨hm.lt,hm.lt⟩
 keep:=λ_ _ hm hk=>hm.at' λo e=>hk d (.inl rfl) o e
 notList:=by decide
 notTuple:=by decide
 hint:=λ_ _ _ _ hm hq=>PySem.W.kdl_hint_dict hm.typeIs hq
 iter:=λ_ _ hh hm=>⟨_,_,(λ_ _ hq=>xM lo hm hq),walks hh _ d (VP hm.lt) es ep,⟨⟨_,VO _ rfl,rfl,rfl⟩,hm.at' λo e=>Vc _ e⟩⟩
theorem qb {R:List UR->UT->Prop}(lo:(d==Wz)=false)(hm:At s.heap d es ep)(hn:es.size<=U4)(hh:A.handled=none)
  (h:∀(h':Heap) (tk:Nat),(∀b o,s.heap.get? b=some o->h'.get? b=some o)->R (es.toList.map (·.key)) {s with heap:=h',toks:=tk}):Vu (model prog w) A (collect (.ref d)) R E s:=by
 refine PySem.W.kdu_collect (src (es:=es) (ep:=ep) lo) hh hm hn λh' tk acc hk LB=>?_;have e:acc.toList=es.toList.map (·.key):=by
  apply WZ;intro i;rw[Vd,Vl,Vl]
  by_cases hi:i<acc.size
  ·obtain⟨g1,g2⟩:=LB.2 i acc[i] (getElem?_pos acc i hi);rw[getElem?_pos acc i hi,getElem?_pos es i g1,g2];rfl
  ·have:=LB.1;rw[Xw (by lia),Xw (by lia)]
   rfl
 rw[e];exact h h' tk hk
end
end Dk
namespace L2.Q
open PySem PySem.Spec PySem.SeqAt PyProof.Rows HT
def BR:List Key->Option (List Int)
 |[]=>some []
 |.inl i::r=>(BR r).map (i::·)
 |.inr _::_=>none
def mJ:List (List Key)->Option (List (List Int))
 |[]=>some []
 |k::r=>match BR k,mJ r with
  |some t,some ts=>some (t::ts)
  |_,_=>none
theorem yO:∀t:List Int,BR (iK t)=some t
 |[]=>rfl
 |i::t=>by
  show (BR (iK t)).map (i::·)=_;rw[yO t];rfl
theorem qz:∀ts:List (List Int),mJ (ts.map iK)=some ts
 |[]=>rfl
 |t::ts=>by
  show (match BR (iK t),mJ (ts.map iK)with|some t,some ts=>some (t::ts)|_,_=>none)=_
  rw[yO,qz ts]
theorem yP:∀{k:List Key} {t:List Int},BR k=some t->k=iK t
 |[],t,h=>by cases h;rfl
 |.inl i::r,t,h=>by
  obtain⟨u,h1,h2⟩:=Vj.mp (show (BR r).map (i::·)=some t from h)
  rw[<- h2,yP h1];rfl
 |.inr _::_,t,h=>by cases h
theorem u_:∀{ks:List (List Key)} {ts:List (List Int)},mJ ks=some ts->ks=ts.map iK
 |[],ts,h=>by cases h;rfl
 |k::r,ts,h=>by
  have h:(match BR k,mJ r with|some t,some ts=>some (t::ts)|_,_=>none)=some ts:=h
  cases h1:BR k with
  |none=>rw[h1]at h;cases h
  |some t =>
   cases h2:mJ r with
   |none=>rw[h1,h2]at h;cases h
   |some us =>
    rw[h1,h2]at h;cases h;rw[yP h1,u_ h2];rfl
def Bf:List D->Option D
 |[.dT ks _]=>match mJ ks with
  |some ts=>if ts.length<=1000/\(∀k∈ts,k≠[]) then some (.lst ((j4 ts).map kD)) else none
  |none=>none
 |_=>none
theorem B4 {ts:List (List Int)}{b:Bool}(h:∀k∈ts,k≠[])(l:ts.length<=1000):Bf [dP ts b]=some (.lst ((j4 ts).map kD)):=by
 show (match mJ (ts.map iK)with|some ts=>if ts.length<=1000/\(∀k∈ts,k≠[]) then some (D.lst ((j4 ts).map kD)) else none|none=>none)=_
 rw[qz];exact if_pos ⟨l,h⟩
theorem vU {H:Hp}:∀{ts:List (List Int)} {vs:List V} {xs:List (List Key×Addr×UR)},(ts.map iK).length=vs.length ->
  Paired (λ(p:List Key×V) (q:List Key×Addr×UR)=>p.1=q.1/\H q.2.1=some (.tup (p.1.map kV))/\RelV p.2 q.2.2) ((ts.map iK).zip vs) xs->∃us:List (Addr×List Int),xs.map (λq=>Value.ref q.2.1)=us.map (λx=>Value.ref x.1)/\us.map (·.2)=ts/\∀u∈us,H u.1=some (.tup (u.2.map V.int))
 |[],vs,xs,_,p=>by cases p;exact⟨[],rfl,rfl,λ_ z=>(nomatch z)⟩
 |t::ts,[],xs,l,p=>by cases l
 |t::ts,v::vs,xs,l,p=>by
  cases p with
  |cons h r =>
   obtain⟨us,h1,h2,h3⟩:=vU (Yg l) r
   rename_i q IK
   refine⟨(q.2.1,t)::us,by rw[Vs,Vs,h1],by rw[Vs,h2],λu hu=>?_⟩
   rcases U0.mp hu with rfl|hu
   ·have:=h.2.1;rw[EF]at this;exact this
   ·exact h3 u hu
theorem qd {X:Cx} (hc:X.calm=true):BC X (.builtin "sorted") Bf:=by
 intro pins s σ H xs Ui Q I r h;obtain⟨W,ds,d,hd,r1,e,q⟩:=h
 match ds,e with
 |[.dT ks fs],e =>
  have e:(match mJ ks with|some ts=>if ts.length<=1000/\(∀k∈ts,k≠[]) then some (D.lst ((j4 ts).map kD)) else none|none=>none)=some d:=e
  cases hk:mJ ks with
  |none=>rw[hk]at e;cases e
  |some ts =>
   rw[hk]at e;obtain⟨⟨hl,Lk⟩,rfl⟩:=d3 e;have:=u_ hk;subst this;obtain⟨x,rfl,p,vs,rfl,hp,S3,nW,rs⟩:=oI r1;obtain⟨u,rfl,rx⟩:=vals1 r;cases rx;obtain⟨z,y,IK,pr,o,es,ep,h1,h2,h3,h4,h5⟩:=(show bh X.prog X.w H s.heap p (.dT ((ts.map iK).zip vs)) from I.bM p _ hp)
   obtain⟨us,eu,ek,T⟩:=vU S3 pr;have T2:HZ H us:=λt ht=>⟨T t ht,Lk _ (by rw[<- ek];exact VA.mpr ⟨t,ht,rfl⟩)⟩
   have ul:us.length=ts.length:=by rw[<- ek,US]
   have ev:es.toList.map (·.key)=us.map λx=>Value.ref x.1:=by
    rw[h4,V2,<- eu];rfl
   have TH:es.size=us.length:=by
    have:=congrArg List.length ev;rw[US,US,Vn]at this;exact this
   refine TS.tS (vs:=us.map λx=>Value.ref x.1) (kf:=xH H) (by rw[US];lia) (λR hR=>Dk.qb (es:=es) (ep:=ep) y ⟨o,h1,h2,h3⟩ (by rw[TH,ul,Wf];lia) (by simp[I.ok.hd hc]) λh' tk kp=>by rw[ev];exact hR h' tk kp) (BU I.bM T2 (UU _)) λout xV h' tk n Iw hs k1 kp Dl=>?_
   ·obtain⟨e1,e2⟩:=xp T2 Iw;have zl:out.length=us.length:=by rw[Iw.length_eq,US]
    have eq:(out.map (HC H)).map (·.2)=j4 ts:=by
     refine FA (by rw[<- ek];exact e2.map _) ?_
     refine Wl.mpr (Wl.mpr ?_);refine hs.imp_of_mem λ{x y} hx hy hh=>?_;obtain⟨t,ht,rfl⟩:=VA.mp (Iw.mem_iff.mp hx);obtain⟨t',Ux,rfl⟩:=VA.mp (Iw.mem_iff.mp hy);exact hh
    have I1:Inv X pins σ H {s with heap:=xV,toks:=s.toks}:=I.kept k1
    have Pc:H xV.objs.size=none:=I1.bM.fresh (UU _);have rk:ai X.prog X.w W H ((j4 ts).map kD) ((out.map (HC H)).map BW):=by rw[<- eq];exact nu λt ht=>(T2 t (e2.mem_iff.mp ht)).1
    refine⟨.ref xV.objs.size,_,I1.laid (t':=tk) (o:=.lst ((out.map (HC H)).map BW)) kp (UU _) ?_,rfl,q _ _ (au.new Pc) (Rp.jM hd Pc rk) λf=>xx Pc f rk⟩;refine⟨by rw[US,US,zl,ul,Wf];lia,out,n,?_,Dl⟩
    have:=nv (out.map (HC H));rw[<- e1]at this;exact this
end L2.Q
namespace L2
open PySem PySem.Spec PySem.SeqAt PyProof.Rows
theorem Bp:VI "sum" = some (.builtin "sum"):=by decide +kernel
def D.int?:D->Option Int
 |.int i=>some i
 |_=>none
def D.GD:D->Option (List D)
 |.lst ds=>some ds
 |_=>none
theorem D.vX {d:D}{i:Int}(h:d.int?=some i):d=.int i:=by
 cases d <;> first|(cases h;rfl)|cases h
theorem D.vN {d:D}{ds:List D}(h:d.GD=some ds):d=.lst ds:=by
 cases d <;> first|(cases h;rfl)|cases h
def om:List D->Option (List Int)
 |[]=>some []
 |d::ds=>d.int?.bind λi=>(om ds).map (i::·)
theorem sI:∀{ds:List D} {ns:List Int},om ds=some ns->ds=ns.map D.int
 |[],_,h=>by cases h;rfl
 |d::ds,ns,h=>by
  obtain⟨i,h1,h2⟩:=Wi.mp h;obtain⟨ms,h3,rfl⟩:=Vj.mp h2;rw[D.vX h1,sI h3];rfl
theorem oj:∀ns:List Int,om (ns.map D.int)=some ns
 |[]=>rfl
 |n::ns=>by
  show (some n).bind (λi=>(om (ns.map D.int)).map (i::·))=_;rw[oj ns];rfl
def kU (f:List Int->Option Int):List D->Option D
 |[d]=>d.GD.bind λds=>(om ds).bind λns=>(f ns).map D.int
 |_=>none
theorem uO {f:List Int->Option Int}{ds:List D}{d:D}(h:kU f ds=some d):∃ns i,ds=[.lst (ns.map D.int)]/\f ns=some i/\d=.int i:=by
 cases ds with
 |nil=>cases h
 |cons x r =>
  cases r with
  |cons _ _=>cases h
  |nil =>
   obtain⟨es,h1,h2⟩:=Wi.mp h;obtain⟨ns,h3,h4⟩:=Wi.mp h2;obtain⟨i,h5,rfl⟩:=Vj.mp h4;exact⟨ns,i,by rw[D.vN h1,sI h3],h5,rfl⟩
theorem uN {f:List Int->Option Int}{ns:List Int}{i:Int}(h:f ns=some i):kU f [.lst (ns.map D.int)]=some (.int i):=by
 show (some (ns.map D.int)).bind (λds=>(om ds).bind λns=>(f ns).map D.int)=_;rw[XB,oj,XB,h];rfl
section
variable {X:Cx}
theorem k6:∀{ns:List Int} {us:List UR},Vals (ns.map V.int) us->∃xs:Array (Int×Tok),us.toArray=intItems xs/\xs.toList.map (·.1)=ns
 |[],_,h=>by cases h;exact⟨#[],by simp[intItems],rfl⟩
 |n::ns,_,h=>by
  cases h with
  |cons h1 h2 =>
   obtain⟨t,rfl⟩:=h1;obtain⟨xs,e1,e2⟩:=k6 h2;refine⟨⟨(n,t)::xs.toList⟩,?_,by simp[e2]⟩
   have:=congrArg Array.toList e1;simp[intItems]at this ⊢
   exact this
theorem oC (hc:X.calm=true):bW X (.builtin "sum") (kU λns=>some ns.sum):=by
 intro pins s σ H xs us Q I r h;obtain⟨W,ds,d,hd,r1,e,q⟩:=h;obtain⟨ns,i,rfl,e1,rfl⟩:=uO e;cases e1;obtain⟨x,rfl,p,vs,rfl,h1,n1,q1⟩:=oI r1;obtain⟨u,rfl,ru⟩:=vals1 r;cases ru;rw[cQ q1]at h1;obtain⟨its,r2,ht,hz⟩:=I.list (da.of h1);obtain⟨ys,e1,e2⟩:=k6 r2;refine sum_intListG (I.ok.hd hc) (xs:=ys) (by rw[<- e1];exact ht.isList) λh' tk t' k=>⟨.int ns.sum,H,I.kept k,⟨t',?_⟩,q _ _ (au.refl _) rfl⟩
 rw[preSum_eq,Wk (by simp),e2]
end
def MY (lo:Int)(n:Nat):It:=⟨λi _=>i<n,λi H x H'=>H'=H/\x=.int (lo-i),λi _=>n<=i⟩
theorem qA {P:UX}{w:Vb}{K:PySem.W.Frag}{tg:Expr}(it:Addr)(lo:Int)(n:Nat):Turn P w K tg (MY lo n) [it] it (λi h=>YZ h it (lo+(i:Nat)*(-1)) ((n:Int)-(i:Nat)) (-1)) where
 mem:=by simp
 obj:=λi h st b hb=>by
  have e:b=it:=by simpa using hb
  subst e;exact⟨_,st,λv z=>by
   have z':Data.fields _=Data.cell v:=z;cases z'⟩
 keep:=λi h h' st k=>k it (by simp) _ st
 item:=by
  intro X hP hw hK hc i pins s σ H E I hf st hg;subst hP hw hK;obtain⟨f0,f1,f2,f3,f4,f5⟩:=hf it (by simp)
  have W:=Walks.range (prog:=X.prog) (w:=X.w) (I.ok.hd hc) it lo (-1) n;refine W.item i s _ _ hg st λv h' tk hv aB kk=>?_;obtain⟨t,rfl⟩:=hv;have I1:Inv X pins σ H {s with heap:=h',toks:=tk}:=I.turned (λb o hb e=>kk b o (by simpa using hb) e) f0 f1 f3 f4 f5
  refine⟨_,rfl,AU (s:={s with heap:=h',toks:=tk}) (n:="range_iterator") aB rfl rfl (by decide) ⟨.int (lo-i),H,I1,⟨t,?_⟩,⟨rfl,rfl⟩,aB,λb hb=>(hf b hb).1⟩⟩
  rw[Int.mul_neg,Int.mul_one];rfl
 done:=by
  intro X hP hw hK hc i pins s σ H E I hf st hg;subst hP hw hK;obtain⟨f0,f1,f2,f3,f4,f5⟩:=hf it (by simp)
  exact wpAny_pyNext_range_end (I.ok.hd hc) st (by have:n<=i:=hg;lia) λh' eb=>⟨rfl,I.turned (t':=s.toks) (λb o hb e=>eb b o hb e) f0 f1 f3 f4 f5⟩
 self:=λ_ _ _ _ _ st h=>wpAny_pyIter_rangeiter st h
theorem hZ (a b:Int):WK a b (-1)=if b<a then a-b else 0:=by
 unfold WK;rw[if_neg (by decide)]
 by_cases h:b<a
 ·rw[if_pos h,if_pos h,show -(-1:Int)=1 by decide,Int.ediv_one];lia
 ·rw[if_neg h,if_neg h]
theorem wY {a b:Int}(ha:-(2 ^ 62)<=a)(tm:a<2 ^ 62)(hb:-(2 ^ 62)<=b)(fP:b<2 ^ 62):Builtin.Range.small a b (-1)=true:=by
 unfold Builtin.Range.small;rw[hZ];simp only[Builtin.Range.rangeFitsLong,VT,Y3,decide_eq_true_eq,beq_iff_eq,show ¬ ((-1:Int)>0) by decide,if_false]
 split <;> lia
section
variable {X:Cx}{tg:Expr}
theorem xc {pins:List (Addr×Obj)}{σ:St}{H:Hp}{s:UT}{R:It->Hp->Prop}{E:UR->UT->Prop}{lo hi:Int}{t u v:Tok}{tk:Nat}(I:Inv X pins σ H s)(h1:-(2 ^ 62)<=lo)(h2:lo<2 ^ 62)(h3:-(2 ^ 62)<=hi)(h4:hi<2 ^ 62)
  (q:R (MY lo (lo-hi).toNat) H):Vu (model X.prog X.w) X.A (Y6 (.ref s.heap.objs.size)) (MW X pins σ tg R) E {s with heap:=s.heap.push {cls:=.type "range",data:=.fields #[.int lo t,.int hi u,.int (-1) v]},toks:=tk}:=by
 refine wpAny_pyIter_range (IsRange.new ..) (wY h1 h2 h3 h4) ?_;have I1:Inv X pins σ H {s with heap:=s.heap.push {cls:=.type "range",data:=.fields #[.int lo t,.int hi u,.int (-1) v]},toks:=tk}:=I.kept λb o e=>Vc _ e
 refine⟨(s.heap.push {cls:=.type "range",data:=.fields #[.int lo t,.int hi u,.int (-1) v]}).objs.size,[(s.heap.push {cls:=.type "range",data:=.fields #[.int lo t,.int hi u,.int (-1) v]}).objs.size],_,_,H,rfl,
  I1.kept (t':=tk) λb o e=>Vc _ e,qA _ lo (lo-hi).toNat,?_,λb hb=>?_,q⟩
 ·have e1:lo+((0:Nat):Int)*(-1)=lo:=by simp
  have e2:(((lo-hi).toNat:Nat):Int)-((0:Nat):Int)=WK lo hi (-1):=by rw[hZ];split <;> lia
  show YZ _ _ (lo+((0:Nat):Int)*(-1)) ((((lo-hi).toNat:Nat):Int)-((0:Nat):Int)) (-1);rw[e1,e2];exact VO _ rfl
 ·have e:b=(s.heap.push {cls:=.type "range",data:=.fields #[.int lo t,.int hi u,.int (-1) v]}).objs.size:=by simpa using hb
  subst e;exact I1.AY (UU _) (I1.bM.fresh (UU _))
def J4 (ta:TA):TI:=λσ H R=>ta σ H λvs H1=>∃i j:Int,vs=[.int i,.int j,.int (-1)]/\(-(2 ^ 62)<=i/\i<2 ^ 62/\-(2 ^ 62)<=j/\j<2 ^ 62)/\R (MY i (i-j).toNat) H1
theorem xn {a b c:Expr} {ta:TA} {p pos:Pos} (hg:Gl X "range") (hm:X.mg "range" = none) (ha:PA X [a,b,c] ta) (hs:U5 [a,b,c] X.env=[(false,eval a X.env),(false,eval b X.env),(false,eval c X.env)]:=by rfl) (uz:U5 [b,c] X.env=[(false,eval b X.env),(false,eval c X.env)]:=by rfl) :
  PI X tg (.Call (.Name "range" p) [a,b,c] [] pos) (J4 ta):=by
 intro pins s σ H R I h;refine Call_ (fN I hg hm Y7 (V6 (bA (ha pos pins s σ H _ I h) λus s1 ⟨vs,H1,I1,r1,q1⟩=>?_) (by rw[hs,uz]) (by rw[uz];rfl)))
 obtain⟨i,j,e,⟨q1,q2,q3,q4⟩,q⟩:=q1;subst e;cases r1 with
 |cons r rr =>
  cases rr with
  |cons r' rr =>
   cases rr with
   |cons Qp rr =>
    cases rr;obtain⟨t,rfl⟩:=r;obtain⟨t',rfl⟩:=r';obtain⟨Uk,rfl⟩:=Qp;exact call_range_3 (by decide) (xc I1 q1 q2 q3 q4 q) (.inl (PyProof.noPylong_of_log2 (by decide +kernel)))
def xb (hi:Int)(n:Nat):List D:=(Vk n).map λ(k:Nat)=>D.int (hi-(k:Int))
theorem qU {hi:Int}{n i:Nat}{d:D}(h:(xb hi n)[i]?=some d):i<n/\d=.int (hi-i):=by
 unfold xb at h;rw[Vd]at h
 by_cases hi:i<n
 ·rw[Wx hi]at h;cases h;exact⟨hi,rfl⟩
 ·rw[WC (by simpa using hi)]at h;cases h
theorem qT {hi:Int}{n:Nat}:(xb hi n).length=n:=by unfold xb;simp
theorem uu {W:Addr->Prop}{H:Hp}{lo:Int}{n:Nat}:wK X W (MY lo n) (xb lo n) H:=λ_ _ i H' k=>by
 constructor
 ·intro d hd;obtain⟨hi,rfl⟩:=qU hd;refine⟨hi,λx H1 y=>?_⟩;obtain⟨rfl,rfl⟩:=y;exact⟨au.refl _,rfl⟩
 ·intro hl;rw[qT]at hl;exact hl
end
end L2
namespace L2.Q
open PySem PySem.Spec PySem.SeqAt PyProof.Rows
section
variable {X:Cx}{C:Cfg}{tg a b c:Expr}{φs:b_}{p:Bool}{pp pos:Pos}
def Dc (φs:b_):c7:=λβ R=>φs β λds _ β'=>∃i j:Int,ds=[.int i,.int j,.int (-1)]/\(-(2 ^ 62)<=i/\i<2 ^ 62/\-(2 ^ 62)<=j/\j<2 ^ 62)/\R (xb i (i-j).toNat) .dy β'
theorem L4 {W:Addr->Prop}{H:Hp}{a b c:D}{xs:List V}(h:kj X W H [a,b,c] xs):∃x y z,xs=[x,y,z]/\Rp X W H a x/\Rp X W H b y/\Rp X W H c z:=by
 obtain⟨x,r,rfl,hx,y,r',rfl,hy,z,Qp,rfl,hz,hr⟩:=h;cases hr;exact⟨x,y,z,rfl,hx,hy,hz⟩
theorem t8 (hm:X.mg "range" = none) (ha:qo X C p [a,b,c] φs) (hg:Gl X "range" := by rfl) (hs:U5 [a,b,c] X.env=[(false,eval a X.env),(false,eval b X.env),(false,eval c X.env)]:=by rfl) (uz:U5 [b,c] X.env=[(false,eval b X.env),(false,eval c X.env)]:=by rfl) :
  yE X C p tg (.Call (.Name "range" pp) [a,b,c] [] pos) (Dc φs) :=
 ⟨λβ R R' k q=>ha.mono β _ _ (λd kd β' h=>by obtain⟨i,j,e,h1,q⟩:=h;exact⟨i,j,e,h1,k _ _ _ q⟩) q,(xn hg hm ha.pa hs uz).pre λσ H R h=>by
  obtain⟨β,own,s,q⟩:=h;refine tf.of ha s q λds ks β' vs H1 aA h o1 r1=>?_;obtain⟨i,j,e,h1,q1⟩:=h;subst e;obtain⟨x,y,z,rfl,hx,hy,hz⟩:=L4 r1.ip;cases hx;cases hy;cases hz;exact⟨i,j,rfl,h1,q1 _ _ aA o1 uu⟩⟩
end
structure Rj (X:Cx)(C:Cfg)(tg iter:Expr)(ι:c7):Prop where
 mono:∀β R R',(∀d k β,R d k β->R' d k β)->ι β R->ι β R'
 pi:PI X tg iter λσ H R=>∃β own,SQ X C σ H β own/\ι β λds k β'=>∀J H',au H H'->SQ X C σ H' β' own->wK X (fY C (Wn own) k) J ds H'->R J H'
section
variable {X:Cx}{C:Cfg}{tg a b:Expr}{φs:b_}{pp pos:Pos}{i:Nat}{x:Str}
theorem t7 (hm:X.mg "range" = none) (ha:qo X C true [a,b] φs) (hg:Gl X "range" := by rfl) (hs:U5 [a,b] X.env=[(false,eval a X.env),(false,eval b X.env)]:=by rfl) (uz:U5 [b] X.env=[(false,eval b X.env)]:=by rfl) :
  Rj X C tg (.Call (.Name "range" pp) [a,b] [] pos) (vY φs) :=
 ⟨λβ R R' k q=>ha.mono β _ _ (λd kd β' h=>by obtain⟨i,j,e,h1,q⟩:=h;exact⟨i,j,e,h1,k _ _ _ q⟩) q,(nz hg hm ha.pa hs uz).pre λσ H R h=>by
  obtain⟨β,own,s,q⟩:=h;refine tf.of ha s q λds ks β' vs H1 aA h o1 r1=>?_;obtain⟨i,j,e,h1,q1⟩:=h;subst e;obtain⟨s1,rfl⟩:=o1.pu rfl;obtain⟨x,y,rfl,hx,hy⟩:=wF r1.ip;cases hx;cases hy;exact⟨i,j,rfl,h1,q1 _ _ s1 o1.sq jQ⟩⟩
end
structure SC (X:Cx)(C:Cfg)(W0:Addr->Prop)(T:List Nat)(σ0:St)(H1:Hp)(a:Addr)(Hb:Hp)(Wb:Addr->Prop)(Ac:Hp->Prop)(β:a_)(σ':St)(H':Hp)(own:Nat->List Addr):Prop where
 sq:SQ X (C.u λc=>c=a) σ' H' β own
 sn:Sn (H1,W0) H' (Wn own)
 le:∀c,Wn own c->Wb c
 ac:Ac H'
 pu:au H1 H'
 bs:∀b ob,b≠a->Hb b=some ob->H' b=some ob
 st:∀j,j∉T->σ'[j]?=σ0[j]?
abbrev uX {α:Type}(X:Cx)(C:Cfg)(W0:Addr->Prop)(T:List Nat)(σ0:St)(H1:Hp)(a:Addr)(Hb:Hp)(Wb:Addr->Prop)(Ac:α->Hp->Prop)(β:a_)(o:α)(σ':St)(H':Hp):Prop:=∃own,SC X C W0 T σ0 H1 a Hb Wb (Ac o) β σ' H' own
structure BE {α:Type}(a:Addr)(Ac:α->Hp->Prop):Prop where
 same:∀o H H',au H H'->Ac o H->Ac o H'
 JG:∀o H xs,Ac o H->H a≠some (.tup xs)
abbrev IM (X:Cx)(C:Cfg)(a:Addr)(T:List Nat)(γ:fq):TG:=λv σ H Q=>∃own β d k,SQ X (C.u λc=>c=a) σ H β own/\Rp X (fY (C.u λc=>c=a) (Wn own) k) H d v/\γ d k β λβ'=>∀σ' aQ,SQ X (C.u λc=>c=a) σ' H β' aQ->(∀a,Wn aQ a->Wn own a)->(∀j,j∉T->σ'[j]?=σ[j]?)->Q σ' H
abbrev Qg (X:Cx)(C:Cfg)(a:Addr)(φ:aX):m8:=λN σ H=>tQ X (C.u λc=>c=a) true φ σ H λv H1=>∃xs,H1 a=some (.lst xs)/\xs.length<U4/\N σ (upd H1 a (.lst (xs++[v])))
section
variable {α:Type}{X:Cx}{C:Cfg}{W0:Addr->Prop}{T Tg:List Nat}{σ0:St}{H1:Hp}{a:Addr}{Hb:Hp}{Wb:Addr->Prop}{γ:fq}{τ:ba}{φ:aX}{Ac:α->Hp->Prop}
theorem SC.next {o:α}(hA:BE a Ac){β β':a_}{σ σ':St}{H H':Hp}{own aQ:Nat->List Addr}(s:SC X C W0 T σ0 H1 a Hb Wb (Ac o) β σ H own)(sq:SQ X (C.u λc=>c=a) σ' H' β' aQ)(w:∀c,Wn aQ c->Wn own c)(sm:au H H')(t:∀j,j∉T->σ'[j]?=σ[j]?):
  SC X C W0 T σ0 H1 a Hb Wb (Ac o) β' σ' H' aQ :=
 ⟨sq,iV (s.sn.same sm) w,λc z=>s.le c (w c z),hA.same o _ _ sm s.ac,s.pu.trans sm,λb ob n e=>sm _ _ (s.bs b ob n e),λj hj=>(t j hj).trans (s.st j hj)⟩
theorem SC.put {A:Hp->Prop}{A':Hp->Prop}(h0:C.H0 a=none)(ha:H1 a=none){β:a_}{σ:St}{H:Hp}{own:Nat->List Addr}{oa ob:HO}(s:SC X C W0 T σ0 H1 a Hb Wb A β σ H own)(e:H a=some oa)(nt:∀xs,oa≠.tup xs)(q:A' (upd H a ob)):
  SC X C W0 T σ0 H1 a Hb Wb A' β σ (upd H a ob) own:=by
 refine⟨s.sq.FI e nt h0,⟨s.sn.w,s.sn.k.trans ((jO e nt).mono λb z=>.inr (by rw[z];exact ha)),λb z e=>?_⟩,s.le,q,λb o e=>?_,λb o n e=>?_,s.st⟩
 ·by_cases hb:b=a
  ·rw[hb,ar]at e;cases e
  ·rw[aw hb]at e;exact s.sn.d b z e
 ·rw[aw (λz'=>by rw[z',ha]at e;cases e)]
  exact s.pu b o e
 ·rw[aw n];exact s.bs b o n e
def M5 (P:UX)(w:Vb)(H1:Hp)(a:Addr)(o:List D)(H:Hp):Prop:=∃vs A,H a=some (.lst vs)/\aN P w H o vs A/\A.Nodup/\∀c∈A,H1 c=none/\c≠a
theorem uW {P:UX}{w:Vb}:BE a (M5 P w H1 a):=⟨λo H H' s h=>by
  obtain⟨vs,A,h1,h2,h3,h4⟩:=h;exact⟨vs,A,s _ _ h1,h2.keep (λb xs e=>s _ _ e) λc _ oc e=>s _ _ e,h3,h4⟩,λo H xs h z=>by
  obtain⟨vs,A,h1,_⟩:=h;rw[h1]at z;cases z⟩
def ES (φ:aX)(o:List D)(β:a_)(N:a_->List D->Prop):Prop:=φ β λx kx β3=>Ez kx x/\o.length<U4/\N β3 (o++[x])
theorem B_ (h0:C.H0 a=none)(ha:H1 a=none)(φm:∀β R R',(∀d k β,R d k β->R' d k β)->φ β R->φ β R'){β:a_}{o:List D}{σ:St}{H:Hp}{N:a_->List D->Prop}(s:uX X C W0 T σ0 H1 a Hb Wb (M5 X.prog X.w H1 a) β o σ H)(q:ES φ o β N):
  Qg X C a φ (λσ' H'=>∃β' o',uX X C W0 T σ0 H1 a Hb Wb (M5 X.prog X.w H1 a) β' o' σ' H'/\N β' o') σ H:=by
 obtain⟨own,s⟩:=s;refine⟨β,own,s.sq,φm _ _ _ (λxd kx β6 ⟨f,hz,q⟩ v H6 F9 o6 r6=>?_) q⟩;obtain⟨sm,rfl⟩:=o6.pu rfl;have s6:=s.next uW (o6.sq) (λ_ z=>z) sm (λ_ _=>rfl)
 obtain⟨B',r1,r2,r3⟩:=r6.fl f;obtain⟨vs,A,at',os,nd,nw⟩:=s.ac;have rX:H6 a=some (.lst vs):=sm _ _ at';have JJ:∀c∈B',c≠a:=λc hc z=>by rw[z]at hc;exact absurd (at'.symm.trans (r3 a hc).1) (λz=>(nomatch z))
 have kt:∀b xs,H6 b=some (.tup xs)->upd H6 a (.lst (vs++[v])) b=some (.tup xs):=λb xs z=>by rw[aw (λz'=>by rw[z',rX]at z;cases z)];exact z
 refine⟨vs,rX,by rw[os.length];exact hz,β6,o++[xd],⟨F9,s6.put h0 ha rX (λxs z=>by cases z) ⟨vs++[v],A++B',ar,?_,?_,λc hc=>?_⟩⟩,q⟩
 ·exact(os.keep (λb xs e=>kt b xs (sm _ _ e)) λc hc oc e=>by rw[aw (nw c hc).2];exact sm _ _ e).append (aN.one (r1.keep kt λc hc oc e=>by rw[aw (JJ c hc)];exact e))
 ·refine V0.mpr ⟨nd,r2,λx hx y hy e=>?_⟩;subst e;exact(os.mE x hx).1 (r3 x hy).1
 ·rcases Vp.mp hc with hc|hc
  ·exact nw c hc
  ·exact⟨s.sn.free (r3 c hc).1,JJ c hc⟩
def lO {α:Type}(γ:fq)(τ:ba)(Af:α->a_->(a_->α->Prop)->Prop)(ds:List D)(k:Kd)(β0:a_)(o0:α)(F:a_->α->Prop):Prop:=∃I:Nat->a_->α->Prop,I 0 β0 o0 /\
 (∀i d β o,ds[i]?=some d->I i β o->γ d (sk k d) β λβ1=>τ β1 λt β2=>if t=true then Af o β2 (I (i+1)) else I (i+1) β2 o)/\∀β o,I ds.length β o->F β o
theorem lO.mono {Af:α->a_->(a_->α->Prop)->Prop}{ds:List D}{k:Kd}{β0:a_}{o0:α}{F F':a_->α->Prop}(h:∀β o,F β o->F' β o)(q:lO γ τ Af ds k β0 o0 F):lO γ τ Af ds k β0 o0 F':=by
 obtain⟨I,h0,h1,h2⟩:=q;exact⟨I,h0,h1,λβ o z=>h _ _ (h2 β o z)⟩
theorem vn (hA:BE a Ac)(hT:∀j∈Tg,j∈T)(γm:∀d k β R R',(∀r,R r->R' r)->γ d k β R->γ d k β R')(τm:∀β R R',(∀d β,R d β->R' d β)->τ β R->τ β R'){J:It}{ds:List D}{k:Kd}{Af:α->a_->(a_->α->Prop)->Prop}{ta:m8}{F:a_->α->Prop}{End:St->Hp->Prop}{β0:a_}{o0:α}{σ1:St}{Hs:Hp}
  (it:∀i β o σ' H',uX X C W0 T σ0 H1 a Hb Wb Ac β o σ' H'->(∀d,ds[i]?=some d->J.go i H'/\∀x H3,J.IJ i H' x H3->au H' H3/\∀own,(∀c,Wn own c->Wb c)->ay X.prog X.w (fY (C.u λc=>c=a) (Wn own) k) H3 d x)/\(ds.length<=i->J.stop i H'))
  (Kf:∀β o σ' H' N,uX X C W0 T σ0 H1 a Hb Wb Ac β o σ' H'->Af o β N->ta (λyF yw=>∃β' o',uX X C W0 T σ0 H1 a Hb Wb Ac β' o' yF yw/\N β' o') σ' H')
  (s0:uX X C W0 T σ0 H1 a Hb Wb Ac β0 o0 σ1 Hs) (q:lO γ τ Af ds k β0 o0 F) (fin:∀β o σ' H',uX X C W0 T σ0 H1 a Hb Wb Ac β o σ' H'->F β o->End σ' H') :
  f9 J (IM X C a Tg γ) (j0 X (C.u λc=>c=a) true τ) ta End σ1 Hs:=by
 obtain⟨I,i0,i1,i2⟩:=q;refine⟨λi m σ' H'=>i<=ds.length/\m=ds.length-i/\∃β o,uX X C W0 T σ0 H1 a Hb Wb Ac β o σ' H'/\I i β o,⟨_,Ve _,rfl,β0,o0,s0,i0⟩,?_⟩;rintro i m σ2 H2 ⟨hi,rfl,β,o,sE,hl⟩;obtain⟨c8,mV⟩:=it i β o σ2 H2 sE
 by_cases c5:i<ds.length
 ·right
  have hd:ds[i]?=some ds[i]:=U3 c5;obtain⟨go,yl⟩:=c8 _ hd;refine⟨go,λσ' H'=>∃β' o',uX X C W0 T σ0 H1 a Hb Wb Ac β' o' σ' H'/\I (i+1) β' o',λσ' H' h=>⟨_,by omega,c5,rfl,h⟩,λx H3 y=>?_⟩
  obtain⟨s3,r3⟩:=yl x H3 y;obtain⟨own,s⟩:=sE;refine⟨own,β,_,_,s.sq.same s3,o7 (r3 own s.le),γm _ _ _ _ _ (λβ4 q σ4 rf s4 w4 t4=>?_) (i1 i _ β o hd hl)⟩;have RQ:=s.next hA s4 w4 s3 λj hj=>t4 j λz=>hj (hT j z)
  refine⟨β4,rf,s4,τm _ _ _ (λt β5 q H5 jI o5=>?_) q⟩;obtain⟨RM,rfl⟩:=o5.pu rfl;have Qm:=RQ.next hA o5.sq (λ_ z=>z) RM λ_ _=>rfl
  cases t with
  |false=>exact⟨β5,o,⟨_,Qm⟩,q⟩
  |true=>exact Kf β5 o σ4 H5 _ ⟨_,Qm⟩ q
 ·left
  have e:i=ds.length:=by omega
  subst e;exact⟨mV (UU _),fin β o σ2 H2 sE (i2 β o hl)⟩
def Eo {α:Type}(ι:c7)(γ:fq)(τ:ba)(Af:α->a_->(a_->α->Prop)->Prop)(o:α)(β:a_)(N:a_->α->Prop):Prop:=ι β λds k β1=>lO γ τ Af ds k β1 o N
theorem B9 (hA:BE a Ac){ι:c7}(hT:∀j∈Tg,j∈T)(γm:∀d k β R R',(∀r,R r->R' r)->γ d k β R->γ d k β R')(τm:∀β R R',(∀d β,R d β->R' d β)->τ β R->τ β R'){Af:α->a_->(a_->α->Prop)->Prop}{ta:m8}
  (Kf:∀Hb Wb β o σ' H' N,uX X C W0 T σ0 H1 a Hb Wb Ac β o σ' H'->Af o β N->ta (λyF yw=>∃β' o',uX X C W0 T σ0 H1 a Hb Wb Ac β' o' yF yw/\N β' o') σ' H')
  (ιm:∀β R R',(∀d k β,R d k β->R' d k β)->ι β R->ι β R') {β:a_} {o:α} {σ:St} {H:Hp} {N:a_->α->Prop} (s:uX X C W0 T σ0 H1 a Hb Wb Ac β o σ H) (q:Eo ι γ τ Af o β N) :
  ∃β own,SQ X (C.u λc=>c=a) σ H β own/\ι β λds k β'=>∀J H',au H H'->SQ X (C.u λc=>c=a) σ H' β' own->wK X (fY (C.u λc=>c=a) (Wn own) k) J ds H' ->
   f9 J (IM X C a Tg γ) (j0 X (C.u λc=>c=a) true τ) ta (λσ' H'=>∃β' o',uX X C W0 T σ0 H1 a Hb Wb Ac β' o' σ' H'/\N β' o') σ H':=by
 obtain⟨own,s⟩:=s;refine⟨β,own,s.sq,ιm _ _ _ (λds k β1 q J H' sm sq Sr=>?_) q⟩;have s1:=s.next hA sq (λ_ z=>z) sm λ_ _=>rfl
 have hu:fY (C.u λc=>c=a) (Wn own) k a:=.inr rfl;refine vn (Hb:=H') (Wb:=Wn own) hA hT γm τm (λi βx ox σx Hx sx=>?_) (λβx ox σx Hx Nx sx qx=>Kf _ _ _ _ _ _ _ sx qx) ⟨own,⟨s1.sq,s1.sn,λ_ z=>z,s1.ac,s1.pu,λ_ _ _ e=>e,s1.st⟩⟩ q λβx ox σx Hx sx hx=>?_
 ·obtain⟨CA,sx⟩:=sx;have kp:Kp (λb=>fY (C.u λc=>c=a) (Wn own) k b\/H' b=none) H' Hx:=⟨λb ob e n=>sx.bs b ob (λz=>n (.inl (by rw[z];exact hu))) e,λb xs e=>sx.bs b _ (λz=>hA.JG _ _ _ s1.ac (by rw[<- z];exact e)) e⟩
  obtain⟨g1,g2⟩:=Sr (λb=>fY (C.u λc=>c=a) (Wn own) k b\/H' b=none) (λb z=>z) i Hx kp;refine⟨λd hd=>?_,g2⟩;obtain⟨go,yl⟩:=g1 d hd;refine⟨go,λx H3 y=>?_⟩;obtain⟨s3,r3⟩:=yl x H3 y;exact⟨s3,λaQ N4=>ay.aR (λb z=>.inl (gL N4 k b z)) r3⟩
 ·obtain⟨CA,sx⟩:=sx;exact⟨βx,ox,⟨CA,⟨sx.sq,sx.sn,λc z=>s.le c (sx.le c z),sx.ac,sx.pu,λb ob n e=>sx.bs b ob n (s1.bs b ob n e),sx.st⟩⟩,hx⟩
theorem y_ {lk:List (Option Nat)}{σ:St}{β:a_}{own:Nat->List Addr}{oa:HO}(hA:BE a Ac){Af:α->a_->(a_->α->Prop)->Prop}{ta:m8}{J:It}{ds:List D}{k:Kd}{o0:α}{K:α->Prop}{End:Hp->Prop}
  (γm:∀d k β R R',(∀r,R r->R' r)->γ d k β R->γ d k β R') (τm:∀β R R',(∀d β,R d β->R' d β)->τ β R->τ β R') (Tr:∀j∈Tg,j∈T)
  (inj:∀(i i' j:Nat),lk[i]?=some (some j)->lk[i']?=some (some j)->i=i') (hT:∀i∈T,∀j,lk[i]?≠some (some j))
  (s1:SQ X C σ H1 β own) (ha:H1 a=none) (hk:hold k false) (it:wK X (av C (Wn own) k) J ds H1) (a0:Ac o0 (upd H1 a oa)) (ent:SQ X (C.u λc=>c=a) (c_ lk σ) (upd H1 a oa) (cM lk β) (bo lk β own))
  (Kf:∀Hb Wb β' o σ' H' N,C.H0 a=none->uX X C (Wn (bo lk β own)) T (c_ lk σ) H1 a Hb Wb Ac β' o σ' H'->Af o β' N->ta (λyF yw=>∃β' o',uX X C (Wn (bo lk β own)) T (c_ lk σ) H1 a Hb Wb Ac β' o' yF yw/\N β' o') σ' H')
  (q:lO γ τ Af ds k (cM lk β) o0 λβf o=>fe (cM lk β) βf/\K o)
  (fin:∀o H',K o->Out X C σ H1 own true β H' own->Ac o H'->End H') :
  f9 J (IM X C a Tg γ) (j0 X (C.u λc=>c=a) true τ) ta (λ_ H'=>End H') (c_ lk σ) (upd H1 a oa):=by
 have h0:C.H0 a=none:=VB λz=>s1.hJ a z ha;have sm:au H1 (upd H1 a oa):=au.new ha;refine vn (W0:=Wn (bo lk β own)) (T:=T) (σ0:=c_ lk σ) (H1:=H1) (Hb:=H1) (Wb:=Wn (bo lk β own)) hA Tr γm τm (λi βx ox σx Hx sx=>?_) (λβx ox σx Hx Nx sx qx=>Kf _ _ _ _ _ _ _ h0 sx qx)
  ⟨bo lk β own,⟨ent,⟨λb z=>.inl z,sm.kp,λb z e=>z (sm.free e)⟩,λ_ z=>z,a0,sm,λb ob n e=>sm _ _ e,λ_ _=>rfl⟩⟩ q λβx ox σx Hx sx hx=>?_
 ·obtain⟨CA,sx⟩:=sx;have kI:Kp (λb=>av C (Wn own) k b\/H1 b=none) H1 Hx:=sx.pu.kp;obtain⟨g1,g2⟩:=it (λb=>av C (Wn own) k b\/H1 b=none) (λb z=>z) i Hx kI;refine⟨λd hd=>?_,g2⟩;obtain⟨go,yl⟩:=g1 d hd;refine⟨go,λx H3 y=>?_⟩;obtain⟨s3,r3⟩:=yl x H3 y;exact⟨s3,λaQ N4=>ay.aR (λc z=>z.elim (λz=>.inl (jt (λc z=>bj c (N4 c z)) k c z)) λz=>.inr (by rw[z];exact ha)) r3⟩
 ·obtain⟨CA,sx⟩:=sx;obtain⟨hh,hK⟩:=hx;have lv:SQ X C σ Hx β own:=s1.leave sx.sq sx.sn sx.le hh λj ok i' e1 e2=>sx.st i' λz=>hT i' z j e2;exact fin ox Hx hK ⟨lv,⟨λb z=>.inl z,sx.sn.k.mono λb z=>z.imp (bj b) id,sx.sn.d⟩,λz=>⟨sx.pu,rfl⟩,λ_ z=>z⟩ sx.ac
end
theorem HY {X:Cx}{C:Cfg}{σ:St}{H1 H':Hp}{β:a_}{own:Nat->List Addr}{a:Addr}{o:List D}(s1:SQ X C σ H1 β own)(ha:H1 a=none)(h:M5 X.prog X.w H1 a o H'):KV X.prog X.w C (H1,Wn own) own H' .own (.lst o) (.ref a):=by
 obtain⟨vs,A,at',os,nd,nw⟩:=h;refine⟨a::A,⟨a,vs,A,rfl,at',rfl,os⟩,Vw.mpr ⟨λz=>(nw a z).2 rfl,nd⟩,λc hc=>?_⟩;have mX:H1 c=none:=by
  rcases U0.mp hc with rfl|hc
  ·exact ha
  ·exact(nw c hc).1
 exact⟨mX,λh=>by obtain⟨j,hj⟩:=h;exact(s1.dm j c hj).1 mX,VB λz=>s1.hJ c z mX⟩
def FQ (lk:List (Option Nat))(ι:c7)(γ:fq)(τ:ba)(ι2:c7)(γ2:fq)(τ2:ba)(φ:aX):aX:=λβ R=>ι β λds k β1=>hold k false/\lO γ τ (Eo ι2 γ2 τ2 (ES φ)) ds k (cM lk β1) [] λβf o=>fe (cM lk β1) βf/\R (.lst o) .own β1
section
variable {X:Cx}{C:Cfg}{lk:List (Option Nat)}{γ γ2:fq}{τ τ2:ba}{φ:aX}{T T2:List Nat}
variable {scope:Xr}{tg c8 yS mV elt:Expr}{ifs mW:List Expr}{ι ι2:c7}{pi:Bool}{pos:Pos}{i:Nat}
theorem Sj (N':List Str)(lk:List (Option Nat))(L:jN X.env.scope.names X.N scope N' lk=true)(xU:N'.Nodup)(hc:X.calm=true)(hi:yE X C pi tg c8 ι)
  (yA:∀a cl c s H ex,BA (aF X scope N' cl c s H ex) (C.u λc=>c=a) tg T γ) (ux:∀a cl c s H ex,uY (aF X scope N' cl c s H ex) (C.u λc=>c=a) true ifs τ)
  (QY:∀a cl c s H ex,Rj (aF X scope N' cl c s H ex) (C.u λc=>c=a) yS mV ι2)
  (Ke:∀a cl c s H ex,BA (aF X scope N' cl c s H ex) (C.u λc=>c=a) yS T2 γ2) (Kc:∀a cl c s H ex,uY (aF X scope N' cl c s H ex) (C.u λc=>c=a) true mW τ2)
  (yB:∀a cl c s H ex,PQ (aF X scope N' cl c s H ex) (C.u λc=>c=a) true elt φ) (hT:(T++T2).all (λi=>match lk[i]? with|some (some _)=>false|_=>true)=true:=by rfl)
  (hs:∀x,VV c8 X.env x=pure x:=by intro _;rfl) (uz:∀cl c s H ex x,VV mV (aF X scope N' cl c s H ex).env x=pure x:=by intro _ _ _ _ _ _;rfl):PQ X C pi (.ListComp elt [⟨tg,c8,ifs,0⟩,⟨yS,mV,mW,0⟩] scope pos) (FQ lk ι γ τ ι2 γ2 τ2 φ):=by
 have L:=Links.of L;have LC:∀i∈T++T2,∀j,lk[i]?≠some (some j):=λi hi j e=>by
  have:=Xc.mp hT i hi;rw[e]at this;cases this
 have ax:Addr:=0;have UO:List (Str×Addr):=[];have γm:=(yA 0 [] 0 X.s₀ X.H₀ []).mono;have τm:=(ux 0 [] 0 X.s₀ X.H₀ []).mono;have M7:=(Ke 0 [] 0 X.s₀ X.H₀ []).mono;have M6:=(Kc 0 [] 0 X.s₀ X.H₀ []).mono;have φm:=(yB 0 [] 0 X.s₀ X.H₀ []).mono;have ιm:=(QY 0 [] 0 X.s₀ X.H₀ []).mono;refine⟨λβ R R' k h=>hi.mono β _ _ (λds kd β1 q=>⟨q.1,q.2.mono λ_ _ z=>⟨z.1,k _ _ _ z.2⟩⟩) h,?_⟩;refine(lI (g:=⟨tg,c8,ifs,0⟩) (gs:=[⟨yS,mV,mW,0⟩]) (tg:=λa=>IM X C a T γ) (tt:=λa=>j0 X (C.u λc=>c=a) true τ)
  (ta:=λa N σ H=>∃β own,SQ X (C.u λc=>c=a) σ H β own/\ι2 β λds k β'=>∀J H',au H H'->SQ X (C.u λc=>c=a) σ H' β' own->wK X (fY (C.u λc=>c=a) (Wn own) k) J ds H' ->
   f9 J (IM X C a T2 γ2) (j0 X (C.u λc=>c=a) true τ2) (Qg X C a φ) N σ H')
  L hc ja rfl rfl (λ_ _=>HV) hi.pi (λa cl c s H ex=>⟨(yA a cl c s H ex).pg,(ux a cl c s H ex).pt,Cz (X:=aF X scope N' cl c s H ex) (g':=⟨yS,mV,mW,0⟩) rfl hc HU (QY a cl c s H ex).pi (Ke a cl c s H ex).pg (Kc a cl c s H ex).pt (i8 (X:=aF X scope N' cl c s H ex) rfl (yB a cl c s H ex).pe) (uz cl c s H ex)⟩) hs).pre λσ H Q h=>?_
 obtain⟨β,own,s,h⟩:=h;refine⟨β,own,s,hi.mono β _ _ (λds k β1 h J H1 aA o1 it a ha=>?_) h⟩;obtain⟨hk,q⟩:=h;refine y_ (T:=T++T2) (uW (P:=X.prog) (w:=X.w) (H1:=H1)) γm τm (λj hj=>WD _ hj) (fb L xU) LC o1.sq ha hk it ⟨[],[],ar,(show aN _ _ _ [] [] [] from ⟨rfl,rfl⟩),V_,λc hc=>(nomatch hc)⟩ (o1.sq.enter ha (fb L xU))
  (λHb Wb βx ox σx Hx Nx h0 sx qx=>B9 uW (λj hj=>Vy _ hj) M7 M6 (λHb Wb βy oy σy Hy Ny sy qy=>B_ h0 ha φm sy qy) ιm sx qx) q λo H' q o2 r=>?_
 refine q _ _ aA ⟨o2.sq,o1.sn.trans o2.sn,λz=>⟨(o1.pu z).1.trans (o2.pu rfl).1,(o1.pu z).2⟩,o1.le⟩ ((HY o1.sq ha r).later o1.sn)
end
section
variable {X:Cx}{C:Cfg}{e a:Expr}{φ:aX}{p:Bool}{pos p2 p3 p4:Pos}{j:Nat}
theorem Ct {te:TE}(he:PE X e te):PE X (.Subscript e (.Slice none none (some (.UnaryOp .USub (.Constant (.int 1) j p3) p4)) p2) pos) (λσ H Q=>te σ H λx H1=>∃a xs,x=.ref a/\H1 a=some (.lst xs)/\∀p,H1 p=none->Q (.ref p) (upd H1 p (.lst xs.reverse))):=by
 intro pins s σ H Q I h;refine Subscript_ (bA (he pins s σ H _ I h) λv s1 ⟨x,H1,I1,r1,q1⟩=>?_);refine wpAny_Slice ?_;rw[evalPart_none];refine Vg (Vg ?_);rw[evalPart_some];refine bA (Eh (X:=X) (pos:=p4) yN (aT (i:=1) (j:=j) (pos:=p3)) pins s1 σ H1 (λv H'=>v=.int (-1)/\H'=H1) I1 ⟨1,rfl,rfl,rfl⟩) λu s3 ⟨y,H3,I3,r3,ey,eH⟩=>?_;subst ey eH;obtain⟨tk,rfl⟩:=(show ∃t,u=Value.int (-1) t from r3)
 have I4:Inv X pins σ H3 {s3 with heap:=s3.heap.push {cls:=.type "slice",data:=.fields #[.none,.none,.int (-1) tk]}}:=I3.kept (t':=s3.toks) λb ob q=>Vc _ q
 have MG:(s3.heap.push {cls:=.type "slice",data:=.fields #[.none,.none,.int (-1) tk]}).IsSliceOf s3.heap.objs.size .none .none (.int (-1) tk):=Heap.IsSliceOf.new ..
 generalize MH:({s3 with heap:=s3.heap.push {cls:=.type "slice",data:=.fields #[.none,.none,.int (-1) tk]}}:UT)=s4 at I4 ⊢
 have Oh:s4.heap.IsSliceOf s3.heap.objs.size .none .none (.int (-1) tk):=by rw[<- MH];exact MG
 have main:∃T id,typeLookup (.type T) "__getitem__" = pure (some (.builtin id))/\s4.TypeIs v T/\Vu (model X.prog X.w) X.A (getItem v (.ref s3.heap.objs.size)) (EP X pins σ Q) X.xe s4:=by
  obtain⟨a,xs,rfl,hx,q⟩:=q1;cases (show v=Value.ref a from r1)
  obtain⟨its,r,ht,hz⟩:=I4.list (da.of hx);have hlen:=r.length;refine⟨"list",_,YG.lookup,ht.isList.typeIs,?_⟩;refine wpAny_getItem_list_slice ht.isList Oh .none .none (.int (-1) tk) (by simp) ?_ (by rw[Vf] <;> lia)
  rw[HT.mN];refine⟨.ref s4.heap.objs.size,_,I4.laid (t':=s4.toks) (o:=.lst xs.reverse) (λb ob q=>Vc _ q) (UU _) ?_,rfl,q _ (I4.bM.fresh (UU _))⟩;exact⟨by rw[XO];lia,_,0,by simpa using Vals.rev r,VO _ rfl⟩
 obtain⟨T,id,hT,ht,hg⟩:=main;show Vu (model X.prog X.w) X.A (subscriptTail e (.Slice none none (some (.UnaryOp .USub (.Constant (.int 1) j p3) p4)) p2) v (.ref s3.heap.objs.size)) (EP X pins σ Q) X.xe s4;exact tail_any (ops:=[v,.ref s3.heap.objs.size]) ht hT hg (by with_unfolding_all rfl)
def EW:D->Option D
 |.lst ds=>some (.lst ds.reverse)
 |_=>none
def Jq (φ:aX):aX:=λβ R=>φ β λx k β1=>∃d,EW x=some d/\kN NL d k.wk λk'=>R d k' β1
theorem Cn {j:Nat}(ha:PQ X C p a φ):PQ X C p (.Subscript a (.Slice none none (some (.UnaryOp .USub (.Constant (.int 1) j p3) p4)) p2) pos) (Jq φ) :=
 ⟨λβ R R' k h=>ha.mono β _ _ (λx kx β1 h=>by obtain⟨d,e,q⟩:=h;exact⟨d,e,q.mono λ_ z=>k _ _ _ z⟩) h,
  (Ct ha.pe).pre λσ H Q h=>by
    obtain⟨β,own,s,h⟩:=h;refine tQ.of ha s h λd k β1 v H1 aA h o1 r1=>?_;obtain⟨d',e,q⟩:=h;have rr:=ay.aR Bw r1.rep;cases d with
    |lst ds =>
      cases e;obtain⟨c,vs,rfl,h1,n1,rs⟩:=rr;refine⟨c,vs,rfl,h1,λp hp=>?_⟩;have sm:au H1 (upd H1 p (.lst vs.reverse)):=au.new hp;have hw:¬ av C (Wn aA) k.wk p:=λz=>o1.sq.Bd _ p z hp;have r2:ay X.prog X.w (av C (Wn aA) k.wk) (upd H1 p (.lst vs.reverse)) (.lst ds.reverse) (.ref p):=⟨p,_,rfl,ar,hw,(ai.rev rs).same sm⟩;obtain⟨k',q,r⟩:=KV.kN (Z:=(H,Wn own)) Ea r2 (λn=>i9 (H:=H1) o1.sq.uM o1.sq.hJ (λa z e=>o1.sn.d a z e) n ⟨p,_,rfl,ar,λz=>z hp,ai.flat n ((ai.rev rs).same sm)⟩) q;exact q _ _ aA (o1.same sm) r
    |_=>cases e⟩
end
section
variable {X:Cx}{C:Cfg}{a:Expr}{φ:aX}{p:Bool}
def NJ (φ:aX):ba:=λβ R=>φ β λd _ β'=>∃ds,d=.lst ds/\R (!ds.isEmpty) β'
theorem pA (ha:PQ X C p a φ)(he:∀whole,YR a X.env whole=(do let v <- whole;Yv a.pos;holding [v] (truthy v)):=by intro _;rfl):tE X C p a (NJ φ) :=
 ⟨λβ R R' k h=>ha.mono β _ _ (λd kd β' h=>by obtain⟨b,e,q⟩:=h;exact⟨b,e,k _ _ q⟩) h,(zt ha.pe he).pre λσ H Q h=>by
  obtain⟨β,own,s,h⟩:=h;refine tQ.of ha s h λd k β' v H1 aA h o1 r1=>?_;obtain⟨ds,e,q⟩:=h;subst e;obtain⟨c,vs,rfl,h1,n1,rs⟩:=r1.rep;refine⟨!ds.isEmpty,.inl ⟨vs,da.of h1,?_⟩,q H1 aA o1⟩;have:=rs.length;cases ds <;> cases vs <;> first|rfl|cases this⟩
end
section
theorem C7 {i:Int}{n:Nat}{acc:Array UR}(h:ItemsOf (λk v=>∃t,v=Value.int (i+k*1) t) acc n):Vals ((Vk n).map λk:Nat=>V.int (i+(k:Int))) acc.toList:=by
 have key:∀(l:List UR) (i:Int),(∀j v,l[j]?=some v->∃t,v=Value.int (i+((j:Nat):Int)) t)->Vals ((Vk l.length).map λk:Nat=>V.int (i+(k:Int))) l:=λl=>by
  induction l with
  |nil=>intro i _;exact .nil
  |cons x r ih =>
   intro i h;rw[U_,List.range_succ_eq_map,Vs,V2];obtain⟨t,rfl⟩:=h 0 x rfl;refine .cons ⟨t,rfl⟩ ?_;have:=ih (i+1) λj v e=>by
    obtain⟨t,e'⟩:=h (j+1) v (by simpa using e)
    exact⟨t,by rw[e'];congr 1;lia⟩
   refine(show (λk:Nat=>V.int (i+(k:Int))) ∘ Nat.succ=λk:Nat=>V.int (i+1+(k:Int)) from ?_)▸this
   funext k
   show V.int (i+((k+1:Nat):Int))=_
   congr 1
   lia
 have:=key acc.toList i λj v e=>by
  obtain⟨t,e'⟩:=h.2 j v (by simpa using e)
  exact⟨t,by rw[e',Int.mul_one]⟩
 rwa [Vn,h.1]at this
theorem qS {P:UX}{w:Vb}{H:Hp}{i:Int}:∀(l:List Nat),aN P w H (l.map λk:Nat=>D.int (i+(k:Int))) (l.map λk:Nat=>V.int (i+(k:Int))) []
 |[]=>⟨rfl,rfl⟩
 |k::l=>⟨_,_,[],[],rfl,rfl,⟨rfl,rfl⟩,qS l⟩
end
end L2.Q
namespace L2
open PySem PySem.Spec PySem.SeqAt PyProof.Rows
def Apart (t u:List Int):Prop:=bB t u=false/\bL t u=false
def Good (rows ts:List (List Int)):Prop:=(∀t∈ts,t∈rows)/\ts.Pairwise (λa b=>HT.lexLt a b=true)/\ts.Pairwise Apart
theorem dC {t u:List Int}:bB t u=true↔∃i∈t,i∈u:=by
 unfold bB;rw[List.any_eq_true];simp
theorem mw {a b c d:Int}:jW a b c d=true↔(a<c/\c<b/\b<d)\/(c<a/\a<d/\d<b):=by
 unfold jW;simp[Y3,VT]
theorem r9 {rows ts:List (List Int)}{k:Nat}{t:List Int}(hk:k<ts.length):jm rows ts k t=none↔t∈rows/\(∀u,0<k->ts[k-1]?=some u->HT.lexLt u t=true)/\∀j u,j<k->ts[j]?=some u->Apart u t:=by
 have MT:∀(p:List Int->Bool) (j:Nat) (u:List Int),ts[j]?=some u->ql ts p j=p u:=λp j u e=>by unfold ql;rw[e]
 unfold jm
 by_cases h1:t∈rows
 ·rw[if_pos h1]
  by_cases h2:(decide (0<k)&&ql ts (λu=>!HT.lexLt u t) (k-1))=true
  ·rw[if_pos h2];refine⟨λz=>(nomatch z),λ⟨_,z,_⟩=>?_⟩;rw[VT]at h2;have h0:0<k:=by simpa using h2.1
   have e:ts[k-1]?=some ts[k-1]:=U3 (by lia)
   have:=h2.2;rw[MT _ _ _ e,z _ h0 e]at this;exact absurd this (by simp)
  ·rw[if_neg h2];have o:∀u,0<k->ts[k-1]?=some u->HT.lexLt u t=true:=λu h0 e=>by
    rw[MT _ _ _ e]at h2;cases q:HT.lexLt u t with
    |true=>rfl
    |false=>exact absurd (by rw[q];simp[h0]) h2
   have sh:∀p:List Int->Bool,(Vk k).find? (ql ts p)=none↔∀j u,j<k->ts[j]?=some u->p u=false:=λp=>by
    rw[YC];refine⟨λz j u hj e=>?_,λz j hj=>?_⟩
    ·have:=z j (V3.mpr hj);rw[MT p j u e]at this;simpa using this
    ·have EI:=V3.mp hj;have e:ts[j]?=some ts[j]:=U3 (by lia)
     rw[MT p j _ e,z j _ EI e];simp
   cases q1:(Vk k).find? (ql ts λu=>bB u t)with
   |some j =>
    refine⟨λz=>(nomatch z),λ⟨_,_,z⟩=>?_⟩;rw[(sh _).mpr λj u hj e=>(z j u hj e).1]at q1;cases q1
   |none =>
    cases q2:(Vk k).find? (ql ts λu=>bL u t)with
    |some j =>
     refine⟨λz=>(nomatch z),λ⟨_,_,z⟩=>?_⟩;rw[(sh _).mpr λj u hj e=>(z j u hj e).2]at q2;cases q2
    |none=>exact⟨λ_=>⟨h1,o,λj u hj e=>⟨(sh _).mp q1 j u hj e,(sh _).mp q2 j u hj e⟩⟩,λ_=>rfl⟩
 ·rw[if_neg h1];exact⟨λz=>(nomatch z),λz=>absurd z.1 h1⟩
theorem pw_iff {R:List Int->List Int->Prop}{ts:List (List Int)}:ts.Pairwise R↔∀(i j:Nat) (u t:List Int),i<j->ts[i]?=some u->ts[j]?=some t->R u t:=by
 rw[XU];refine⟨λh i j u t aE e1 e2=>?_,λh i j hi hj aE=>h i j _ _ aE (U3 hi) (U3 hj)⟩;obtain⟨hi,rfl⟩:=UY.mp e1;obtain⟨hj,rfl⟩:=UY.mp e2;exact h i j hi hj aE
theorem uG {rows ts:List (List Int)}:iw rows ts=none↔∀k<ts.length,iA rows ts k=none:=by
 unfold iw;rw[XT];exact⟨λh k hk=>h k (V3.mpr hk),λh k hk=>h k (V3.mp hk)⟩
theorem l7 {rows ts:List (List Int)}:iw rows ts=none↔Good rows ts:=by
 rw[uG];constructor
 ·intro h;have h':∀k t,ts[k]?=some t->_:=λk t e=>(r9 (UY.mp e).1).mp ((jU e).symm.trans (h k (UY.mp e).1));refine⟨λt ht=>?_,pw_iff.mpr ?_,pw_iff.mpr λi j u t aE e1 e2=>(h' j t e2).2.2 i u aE e1⟩
  ·obtain⟨k,e⟩:=List.mem_iff_getElem?.mp ht;exact(h' k t e).1
  ·intro i j
   induction j with
   |zero=>intro u t aE;lia
   |succ j ih =>
    intro u t aE e1 e2;have hj:j<ts.length:=by have:=(UY.mp e2).1;lia
    have e3:ts[j]?=some ts[j]:=U3 hj;have l:=(h' (j+1) t e2).2.1 ts[j] (by lia) e3
    by_cases O5:i<j
    ·exact eF (ih u ts[j] O5 e1 e3) l
    ·have:i=j:=by lia
     subst this;rw[e1]at e3;cases e3;exact l
 ·rintro⟨h1,h2,h3⟩ k hk;have e:ts[k]?=some ts[k]:=U3 hk;rw[jU e];exact(r9 hk).mpr ⟨h1 _ (X9 hk),λu h0 eu=>pw_iff.mp h2 (k-1) k u _ (by lia) eu e,λj u hj eu=>pw_iff.mp h3 j k u _ hj eu e⟩
end L2
namespace L2.Q
open PySem PySem.Spec PySem.SeqAt PyProof.Rows
structure u3 (mg:Str->Option UR):Prop extends Bs2 mg where
 sum:mg "sum" = none
def tI (p:Nat×Nat):List Int:=[(p.1:Int),(p.2:Int)]
theorem oW {p q:Nat×Nat}(h:tI p=tI q):p=q:=by
 unfold tI at h;injection h with h1 h2
 injection h2 with h2 _
 exact Prod.ext (Int.ofNat.inj h1) (Int.ofNat.inj h2)
def b3 (ps:List (Nat×Nat)):D:=.lst (ps.map λp=>kD (tI p))
def jv (n:Nat)(ps:List (Nat×Nat)):D:=.tup [.int n,b3 ps]
structure kB (n:Nat)(ps:List (Nat×Nat)):Prop where
 lt:∀p∈ps,p.1<p.2/\p.2<n
 nd:ps.Nodup
 le:n<=80
 sm:ps.length<=400
theorem yR {n:Int}{ts:List (List Int)}(n0:0<=n)(h:hV n ts):∃ps:List (Nat×Nat),ts=ps.map tI/\∀p∈ps,p.1<p.2/\p.2<n.toNat:=by
 induction ts with
 |nil=>exact⟨[],rfl,λ_ z=>(nomatch z)⟩
 |cons t ts ih =>
  obtain⟨ps,e,q⟩:=ih λu hu=>h u (by simp[hu])
  obtain⟨a,b,rfl,h1,h2,h3⟩:=h t (by simp)
  refine⟨(a.toNat,b.toNat)::ps,?_,λp hp=>?_⟩
  ·rw[Vs,<- e]
   congr 1
   show [a,b]=[((a.toNat:Nat):Int),((b.toNat:Nat):Int)];rw[Yz h1,Yz (by lia)]
  ·rcases U0.mp hp with rfl|hp
   ·exact⟨by show a.toNat<b.toNat;lia,by show b.toNat<n.toNat;lia⟩
   ·exact q p hp
theorem Ca {n:Int}{ts:List (List Int)}(n0:0<=n)(n1:n<=80)(l:ts.length<=400)(h:hV n ts)(nd:ts.Nodup):∃(m:Nat) (ps:List (Nat×Nat)),kB m ps/\n=m/\ts=ps.map tI/\D.tup [.int n,.lst (ts.map kD)]=jv m ps:=by
 obtain⟨ps,e,q⟩:=yR n0 h;refine⟨n.toNat,ps,⟨q,?_,by lia,by rw[e,US]at l;exact l⟩,by lia,e,?_⟩
 ·rw[e]at nd;exact(Wl.mp nd).imp λz e=>z (congrArg tI e)
 ·unfold jv b3;rw[e,V2,Yz n0];rfl
def bV (l:List Nat):List D:=l.map λ(k:Nat)=>D.int (k:Int)
def ny (ps:List (Nat×Nat))(i:Nat):List Nat:=(ps.filter λp=>decide (p.1=i)).map (·.2)
theorem vL {ps:List (Nat×Nat)}{i k:Nat}:k∈ny ps i↔(i,k)∈ps:=by
 unfold ny;rw[VA];constructor
 ·rintro⟨p,hp,rfl⟩;obtain⟨h1,h2⟩:=VF.mp hp;rw[<- of_decide_eq_true h2];exact h1
 ·intro h;exact⟨(i,k),VF.mpr ⟨h,by simp⟩,rfl⟩
def Mv (n:Nat)(ps:List (Nat×Nat)):D:=.lst ((Vk n).map λi=>.lst (bV (ny ps i)))
theorem eD {α:Type}{n i:Nat}{f:Nat->α}(h:i<n):((Vk n).map f)[i]?=some (f i):=by
 rw[Vd,Wx h];rfl
theorem lT {ds:List D}{x:Int}{i:Nat}{d:D}(hx:x=(i:Int))(h:ds[i]?=some d):oi (.lst ds) (.int x)=some d:=by rw[hx];exact p_ h
theorem N7 {n:Nat}{ps:List (Nat×Nat)}{x:Int}{i:Nat}(hx:x=(i:Int))(h:i<n):oi (Mv n ps) (.int x)=some (.lst (bV (ny ps i))):=lT hx (eD h)
def qE (L:Nat)(T:Nat->Int):List D:=(Vk L).map λl=>.int (T l)
def jx (n:Nat)(L:Nat->Nat)(T:Nat->Nat->Int):D:=.lst ((Vk (n+1)).map λi=>.lst (qE (L i) λl=>T l i))
theorem EB {L:Nat}{T:Nat->Int}{x:Int}{l:Nat}(hx:x=(l:Int))(h:l<L):oi (.lst (qE L T)) (.int x)=some (.int (T l)):=lT hx (eD h)
theorem EA {n:Nat}{L:Nat->Nat}{T:Nat->Nat->Int}{x:Int}{i:Nat}(hx:x=(i:Int))(h:i<=n):oi (jx n L T) (.int x)=some (.lst (qE (L i) λl=>T l i)):=lT hx (eD (by lia))
def d9 (n a:Nat):List (Nat×Nat):=(Vk (a+1)).map λb=>(n-1-a,n-a+b)
def oY (n:Nat):List (Nat×Nat):=(Vk n).flatMap (d9 n)
def kL (p:Nat×Nat):D:=.tup [.int (p.1:Int),.int (p.2:Int)]
def eE (n a b:Nat):List (Nat×Nat):=(d9 n a).drop b++((Vk n).drop (a+1)).flatMap (d9 n)
theorem il {n a b:Nat}(h:b<=a):eE n a b=(n-1-a,n-a+b)::eE n a (b+1):=by
 unfold eE d9;rw[VN (by rw[US,V1];lia)]
 simp
theorem og {n a:Nat}(h:a<n):((Vk n).drop a).flatMap (d9 n)=eE n a 0:=by
 unfold eE;rw[VN (by rw[V1];exact h)]
 simp
theorem nr {n a:Nat}(h:a+1<n):eE n a (a+1)=eE n (a+1) 0:=by
 rw[<- og h];unfold eE d9;simp
theorem tX {n a:Nat}(h:n<=a+1):eE n a (a+1)=[]:=by
 unfold eE d9;rw[List.drop_eq_nil_of_le (by simp),List.drop_eq_nil_of_le (by simpa using h)]
 rfl
theorem wU {n:Nat}(h:0<n):oY n=eE n 0 0:=by rw[<- og h];rfl
theorem dZ {α:Type}{γ:fq}{τ:ba}{φ:aX}{l:List α}{f:α->D}{k:Kd}{uT:a_}{K:List D->Prop}(t:α->Bool)(g:α->D)(h0:fe uT uT)(hl:l.length<=U4)
  (h:∀x∈l,∀(x0:Option B) (o:List D) (J:a_->List D->Prop),o.length<U4->(t x=true->∀x0,J (x0::uT) (o++[g x]))->(t x=false->∀x0,J (x0::uT) o)->γ (f x) (sk k (f x)) (x0::uT) λβ1=>τ β1 λt β2=>if t=true then φ β2 λx kx β3=>Ez kx x/\o.length<U4/\J β3 (o++[x]) else J β2 o)
  (q:K ((l.filter t).map g)):nF γ τ φ (l.map f) k (none::uT) K:=by
 refine⟨λi β o=>i<=l.length/\(∃x0,β=x0::uT)/\o=((l.take i).filter t).map g,⟨Ve _,⟨_,rfl⟩,rfl⟩,?_,?_⟩
 ·rintro i d β o hd ⟨hi,⟨x0,rfl⟩,rfl⟩;rw[Vd]at hd;obtain⟨x,hx,rfl⟩:=Vj.mp hd;have c5:i<l.length:=(UY.mp hx).1;have hle:(((l.take i).filter t).map g).length<U4:=by
   rw[US];have:=Wg t (l.take i);rw[VS]at this;lia
  have e:l.take (i+1)=l.take i++[x]:=by rw[V7,hx];rfl
  refine h x (Vv hx) x0 _ (λβ o=>i+1<=l.length/\(∃x0,β=x0::uT)/\o=((l.take (i+1)).filter t).map g) hle (λht x0=>?_) λht x0=>?_
  ·exact⟨c5,⟨_,rfl⟩,by rw[e,WO,Vx,YU,if_pos ht];rfl⟩
  ·exact⟨c5,⟨_,rfl⟩,by rw[e,WO,Vx,YU,if_neg (by rw[ht];simp)];simp⟩
 ·rintro β o ⟨_,⟨x0,rfl⟩,rfl⟩;rw[US,WJ];exact⟨h0,q⟩
theorem eG {α:Type}{l:List α}:l.filter (λ_=>true)=l:=Yy.mpr λ_ _=>rfl
theorem gJ {a b:List D}(h:a.length+b.length<=1000000):uS (.lst a) (.lst b)=some (.lst (a++b)):=by
 show (if a.length+b.length<=U4 then _ else _)=_
 rw[if_pos (Vm h (by decide))]
def A6:FD:=λds R=>∃n:Nat,ds=[.int n]/\n<=80/\R (.lst ((oY n).map kL))
theorem A6.mono:cD A6:=λds R R' k h=>by obtain⟨n,e,h1,q⟩:=h;exact⟨n,e,h1,k _ q⟩
def sv:FD:=λds R=>∃n ps,ds=[jv n ps]/\kB n ps/\R (Mv n ps)
theorem sv.mono:cD sv:=λds R R' k h=>by obtain⟨n,ps,e,h1,q⟩:=h;exact⟨n,ps,e,h1,k _ q⟩
abbrev v_ (n:Nat)(T:Nat->Nat->Int):D:=jx n (λi=>n+1-i) T
theorem eT {n:Nat}(h:n<=1000):n<=U4:=Vm h (by decide)
theorem ve {n:Nat}(h:n<=1000):n<U4:=Nat.lt_of_le_of_lt h (by decide)
theorem J1 {n i:Nat}{x:Int}(hx:x=(i:Int))(h:i<n):xK n x=some i:=by
 subst hx;unfold xK;rw[if_pos (by lia),if_pos (by lia)]
 simp
theorem vm {α:Type}{n i:Nat}{f:Nat->α}{y:α}(h:i<n):((Vk n).map f).set i y=(Vk n).map λk=>if k=i then y else f k:=by
 refine WZ λk=>?_;rw[WX]
 by_cases hk:k<n
 ·rw[eD hk,eD hk,US,V1]
  by_cases e:i=k
  ·rw[if_pos e,if_pos (e▸hk),if_pos e.symm]
  ·rw[if_neg e,if_neg (Xa e)]
 ·rw[WC (l:=(Vk n).map f) (by simpa using hk),WC (l:=(Vk n).map λk=>if k=i then y else f k) (by simpa using hk),if_neg (by lia)]
theorem FH {n i k:Nat}{ps:List (Nat×Nat)}(h:i<n):((Vk n).map λj=>D.lst (bV (ny ps j))).set i (.lst (bV (ny ps i)++[D.int k]))=(Vk n).map λj=>D.lst (bV (ny (ps++[(i,k)]) j)):=by
 rw[vm h];refine V4 λj _=>?_;unfold ny bV;rw[WO,Vx,Vx]
 by_cases e:j=i
 ·rw[if_pos e,e];simp
 ·rw[if_neg e,YU,if_neg (by simpa using Xa e)];simp
theorem Cj {ps:List (Nat×Nat)}{i:Nat}:(ny ps i).length<=ps.length:=by
 unfold ny;rw[US];exact Wg _ _
def fM (n a b:Nat)(i:Nat):Nat:=if n-1-a<i then n+1-i else if i=n-1-a then b+1 else 1
theorem B8 {n a b:Nat}{T:Nat->Nat->Int}(ha:a<n)(hb:b<=a):
  ((Vk (n+1)).map λi=>D.lst (qE (fM n a b i) λl=>T l i)).set (n-1-a) (.lst (qE (b+1) (λl=>T l (n-1-a))++[D.int (T (b+1) (n-1-a))]))=(Vk (n+1)).map λi=>D.lst (qE (fM n a (b+1) i) λl=>T l i):=by
 rw[vm (by lia)]
 refine V4 λi _=>?_;unfold fM
 by_cases e:i=n-1-a
 ·rw[if_pos e,e,if_neg (by lia),if_pos rfl]
  unfold qE;rw[XH (n:=b+1),Vx];rfl
 ·rw[if_neg e,if_neg e,if_neg e]
theorem xE {n a:Nat}(h:a+1<n)(i:Nat)(hi:i<=n):fM n a (a+1) i=fM n (a+1) 0 i:=by
 unfold fM
 by_cases h1:n-1-a<i
 ·rw[if_pos h1,if_pos (by omega)]
 ·rw[if_neg h1]
  by_cases h2:i=n-1-a
  ·rw[if_pos h2,if_pos (by omega)];omega
  ·rw[if_neg h2,if_neg (by omega)]
   split <;> rfl
theorem Al {n a:Nat}(h:n=a+1)(i:Nat)(hi:i<=n):fM n a (a+1) i=n+1-i:=by
 unfold fM
 split
 ·rfl
 ·split <;> lia
theorem uo {n:Nat}(h:0<n)(i:Nat)(hi:i<=n):fM n 0 0 i=1:=by
 unfold fM
 split
 ·lia
 ·split <;> rfl
theorem nh {n:Nat}{L L':Nat->Nat}{T:Nat->Nat->Int}(h:∀i,i<=n->L i=L' i):jx n L T=jx n L' T:=by
 unfold jx
 congr 1
 refine V4 λi hi=>?_;rw[h i (by have:=V3.mp hi;lia)]
def wM (n idx:Nat)(L:Nat->Nat):Prop:=(n=0/\L 0=1)\/∃a b,a<n/\b<=a+1/\(∀i,i<=n->L i=fM n a b i)/\(oY n).drop idx=eE n a b
theorem sF {n:Nat}:wM n 0 λ_=>1:=by
 rcases Nat.eq_zero_or_pos n with h|h
 ·exact .inl ⟨h,rfl⟩
 ·exact .inr ⟨0,0,h,Ve _,λi hi=>(uo h i hi).symm,wU h⟩
theorem yd {n:Nat}{L:Nat->Nat}(h:wM n (oY n).length L):∀i,i<=n->L i=n+1-i:=by
 rcases h with⟨rfl,h⟩|⟨a,b,h1,h2,h3,h4⟩
 ·intro i hi;rw[show i=0 by lia,h]
 ·intro i hi;rw[YV]at h4;have hb:b=a+1:=by
   rcases Xb a b with q|q
   ·lia
   ·rw[il q]at h4;cases h4
  have ha:n=a+1:=by
   rcases Xb (a+1) n with q|q
   ·rw[hb,nr q,il (Ve _)]at h4;cases h4
   ·lia
  rw[h3 i hi,hb];exact Al ha i hi
theorem uL {n idx:Nat}{L:Nat->Nat}{p:Nat×Nat}(h:wM n idx L)(hp:(oY n)[idx]?=some p):∃a b,a<n/\b<=a/\p=(n-1-a,n-a+b)/\(∀i,i<=n->L i=fM n a b i)/\(oY n).drop (idx+1)=eE n a (b+1):=by
 have hd:(oY n).drop idx=p::(oY n).drop (idx+1):=by
  obtain⟨h1,h2⟩:=UY.mp hp;rw[VN h1,h2]
 rcases h with⟨rfl,h⟩|⟨a,b,h1,h2,h3,h4⟩
 ·cases hp
 ·have key:∃a b,a<n/\b<=a/\(∀i,i<=n->L i=fM n a b i)/\(oY n).drop idx=eE n a b:=by
   rcases Xb a b with q|q
   ·have e:b=a+1:=by lia
    rcases Xb (a+1) n with q2|q2
    ·exact⟨a+1,0,q2,Ve _,λi hi=>by rw[h3 i hi,e,xE q2 i hi],by rw[h4,e,nr q2]⟩
    ·rw[h4,e,tX q2]at hd;cases hd
   ·exact⟨a,b,h1,q,h3,h4⟩
  obtain⟨a,b,h1,h2,h3,h4⟩:=key;rw[h4,il h2]at hd;injection hd with e1 e2
  exact⟨a,b,h1,h2,e1.symm,h3,e2.symm⟩
theorem qR {n a:Nat}:(d9 n a).length=a+1:=by unfold d9;simp
theorem xa {n a b:Nat}(h:b<a+1):(d9 n a).take (b+1)=(d9 n a).take b++[(n-1-a,n-a+b)]:=by
 rw[V7];unfold d9;rw[eD h];rfl
theorem ze {n a:Nat}:(d9 n a).take (a+1)=d9 n a:=Wk (by rw[qR];exact UU _)
theorem sd {n:Nat}:∀a:Nat,a<=n->(((Vk n).take a).flatMap (d9 n)).length<=a*a
 |0,_=>by simp
 |a+1,h=>by
  have:=sd (n:=n) a (by lia)
  rw[V7,Wx (show a<n by lia),List.flatMap_append,Vr]
  have e:((some a).toList.flatMap (d9 n)).length=a+1:=by simp[qR]
  rw[e,Nat.mul_add,YX];lia
theorem yV {n a b:Nat}(hn:n<=80)(ha:a<n)(hb:b<a+1):(((Vk n).take a).flatMap (d9 n)).length+((d9 n a).take b).length<U4:=by
 have h1:=sd (n:=n) a (by lia)
 have h2:((d9 n a).take b).length<=b:=by rw[VS];exact XG _ _
 have h3:a*a<=80*80:=Xs (by lia) (by lia)
 have h4:80*80+80<U4:=by decide
 lia
def oD:Option Nat->D
 |none=>.bH
 |some k=>.int (k:Int)
def parts (i:Nat)(k:Option Nat)(j:Nat):List (Nat×Nat):=match k with
 |none=>[(i+1,j)]
 |some k=>[(i+1,k),(k+1,j)]
def me:FD:=λds R=>∃(i:Nat) (k:Option Nat) (j:Nat),ds=[.int i,oD k,.int j]/\R (.lst ((parts i k j).map kL))
theorem me.mono:cD me:=λds R R' k h=>by obtain⟨i,c,j,e,q⟩:=h;exact⟨i,c,j,e,k _ q⟩
theorem Er:∀{i:Nat} {l:List Nat},l.Nodup->(∀x∈l,x<i)->l.length<=i
 |0,l,_,h=>by
  cases l with
  |nil=>exact UU _
  |cons x l=>exact absurd (h x (by simp)) (Nat.not_lt_zero _)
 |i+1,l,nd,h=>by
  have q:=Er (i:=i) (nd.erase i) λx hx=>by
   have:=nd.mem_erase_iff.mp hx;have:=h x this.2;lia
  have:=List.length_erase (a:=i) (l:=l)
  split at this <;> lia
theorem Bi {ds:List D}{d:D}:oi (.lst (ds++[d])) (.int (-1))=some d:=by
 show m7 (ds++[d]) (-1)=some d;unfold m7 xK;rw[if_neg (by decide),if_pos (by rw[Vr,WT];lia),XB,Vr,WT,show (-1+((ds.length+1:Nat):Int)).toNat=ds.length by lia,VR (UU _),YJ]
 rfl
theorem jh {ps:List (Nat×Nat)}:D.cK (ps.map λp=>kD (tI p))=true:=by
 have:=l6 (ps.map tI);rw[V2]at this;exact this
def sC:FD:=λds R=>∃n ps,ds=[jv n ps]/\R (jv n ps)
theorem sC.mono:cD sC:=λds R R' k h=>by obtain⟨n,ps,e,q⟩:=h;exact⟨n,ps,e,k _ q⟩
theorem lb {α:Type}{f:α->Nat}:∀{l:List α},(l.map λa=>((f a:Nat):Int)).sum=((l.map f).sum:Nat)
 |[]=>rfl
 |a::l=>by rw[Vs,XE,Vs,XE,lb];lia
def mC:Nat->Nat
 |0=>1
 |n+1=>(n+1)*mC n
theorem pW (a:Nat):∀b,mC a*mC b<=mC (a+b)
 |0=>by show mC a*1<=mC a;lia
 |b+1=>by
  show mC a*((b+1)*mC b)<=(a+b+1)*mC (a+b);rw[Nat.mul_left_comm];exact Xs (by lia) (pW a b)
theorem fm {a b:Nat}(h:a<=b):mC a<=mC b:=by
 induction b with
 |zero=>rw[show a=0 by lia];exact UU _
 |succ b ih =>
  rcases Xb b a with q|q
  ·rw[show a=b+1 by lia];exact UU _
  ·exact Vm (ih q) (Nat.le_mul_of_pos_left _ (by lia))
theorem HM {a b:Int}(h:mz a b):HN (.int a) (.int b)=some (.int (a*b)):=by
 show (if mz a b then _ else _)=_
 rw[if_pos h]
theorem sum_ints {α:Type}{f:α->Int}{l:List α}:kU (λns=>some ns.sum) [.lst (l.map λk=>D.int (f k))]=some (.int (l.map f).sum):=by
 have e:(l.map λk=>D.int (f k))=(l.map f).map D.int:=by simp
 rw[e];exact uN rfl
theorem y7 (n:Nat)(ps:List (Nat×Nat)):(jv n ps).pd.canLay0=true/\(jv n ps).pd.depth<=4:=by
 have:=wX (n:Int) (ps.map tI);unfold FN at this;rw[V2]at this;exact this
def LH:V->D
 |.bH=>.bH
 |.bl b=>.bl b
 |.int i=>.int i
 |.str x=>.str x
 |.ref a=>.obj a
 |_=>.bH
def Qf:D->List V->D
 |.lst _,vs=>.lst (vs.map LH)
 |.dT ks _,vs=>.dT ks (vs.map LH)
 |.dK ks _,vs=>.dK ks (vs.map LH)
 |d,_=>d
section
variable {P:UX}{w:Vb}{C:Cfg}{σ:St}{H:Hp}{β:a_}{own:Nat->List Addr}{i:Nat}
theorem F8 {W:Addr->Prop}{H':Hp}{d:D}{v:V}(r:ay P w W H' d v):Own P w H (LH v) v []:=by
 cases d with
 |tup ds=>obtain⟨a,vs,rfl,_⟩:=r;exact⟨rfl,rfl⟩
 |lst ds=>obtain⟨a,vs,rfl,_⟩:=r;exact⟨rfl,rfl⟩
 |dT ks ds=>obtain⟨a,vs,rfl,_⟩:=r;exact⟨rfl,rfl⟩
 |dK ks ds=>obtain⟨a,vs,rfl,_⟩:=r;exact⟨rfl,rfl⟩
 |sT ts=>obtain⟨a,rfl,_⟩:=r;exact⟨rfl,rfl⟩
 |ob φ=>obtain⟨a,rfl,_⟩:=r;exact⟨rfl,rfl⟩
 |bH=>cases (show v=_ from r);exact⟨rfl,rfl⟩
 |bl b=>cases (show v=_ from r);exact⟨rfl,rfl⟩
 |int b=>cases (show v=_ from r);exact⟨rfl,rfl⟩
 |str b=>cases (show v=_ from r);exact⟨rfl,rfl⟩
 |obj b=>cases (show v=_ from r);exact⟨rfl,rfl⟩
theorem kO {W:Addr->Prop}{H':Hp}:∀{ds:List D} {vs:List V},ai P w W H' ds vs->aN P w H (vs.map LH) vs []
 |[],_,e=>by cases e;exact⟨rfl,rfl⟩
 |_::_,_,⟨v,vs,rfl,h1,h2⟩=>⟨v,vs,[],[],rfl,rfl,F8 h1,kO h2⟩
theorem pJ {W:Addr->Prop}{H':Hp}{d:D}{o:HO}{vs:List V}{a:Addr}(r:ai P w W H' (Jh d) vs)(sh:Ik d o vs)(h:H a=some o):Own P w H (Qf d vs) (.ref a) [a]:=by
 cases d with
 |lst ds=>cases sh;exact⟨a,vs,[],rfl,h,rfl,kO r⟩
 |dT ks ds=>obtain⟨rfl,l⟩:=sh;exact⟨a,vs,[],rfl,h,l,rfl,kO r⟩
 |dK ks ds=>obtain⟨rfl,l⟩:=sh;exact⟨a,vs,[],rfl,h,l,rfl,kO r⟩
 |_=>exact sh.elim
theorem Jg {d:D}{o:HO}{vs:List V}(sh:Ik d o vs):∀xs,o≠.tup xs:=λxs z=>by
 cases d with
 |lst ds=>cases sh;cases z
 |dT ks ds=>obtain⟨rfl,l⟩:=sh;cases z
 |dK ks ds=>obtain⟨rfl,l⟩:=sh;cases z
 |_=>exact sh.elim
theorem bG.toShl {d0 d:D}{v:V}{y:Bool}(s:bG P w C σ H β own)(e:β[i]?=some (some (.own d0)))(hσ:σ[i]?=some (some v))(r:H_ P w (fY C (Wn own) (yk y)) H d v (own i)):bG P w C σ H (β.set i (some (.shl y d))) own:=by
 refine⟨by simp[s.len],λj y' d' q=>?_,λj d' q=>?_,λj ok q=>?_,s.dm,s.jo,s.mB,s.kp,s.hJ,λj y' d' q=>?_⟩
 ·by_cases aE:i=j
  ·subst aE;obtain⟨e',_⟩:=a5 q;cases e'
  ·rw[aZ aE]at q;exact s.val j y' d' q
 ·by_cases aE:i=j
  ·subst aE;obtain⟨e',_⟩:=a5 q;cases e'
  ·rw[aZ aE]at q;exact s.ow j d' q
 ·by_cases aE:i=j
  ·subst aE;obtain⟨e',_⟩:=a5 q;cases e'
  ·rw[aZ aE]at q;exact s.pR j ok q
 ·by_cases aE:i=j
  ·subst aE;obtain⟨e',_⟩:=a5 q;cases e';obtain⟨_,_,_,h0⟩:=s.ow i d0 e;exact⟨v,hσ,r,h0⟩
  ·rw[aZ aE]at q;exact s.shl j y' d' q
theorem bG.u9 {d:D}{y:Bool}(s:bG P w C σ H β own)(e:β[i]?=some (some (.shl y d))):∃a o vs,σ[i]?=some (some (.ref a))/\own i=[a]/\H a=some o/\Ik d o vs/\ai P w (fY C (Wn own) (yk y)) H (Jh d) vs/\C.H0 a=none/\bG P w C σ H (β.set i (some (.own (Qf d vs)))) own:=by
 obtain⟨v,h1,⟨a,o,vs,rfl,h2,h3,h4,h5⟩,h6⟩:=s.shl i y d e;refine⟨a,o,vs,h1,h2,h3,h4,h5,h6 a (by rw[h2];simp),by simp[s.len],λj y' d' q=>?_,λj d' q=>?_,λj ok q=>?_,s.dm,s.jo,s.mB,s.kp,s.hJ,λj y' d' q=>?_⟩
 ·by_cases aE:i=j
  ·subst aE;obtain⟨e',_⟩:=a5 q;cases e'
  ·rw[aZ aE]at q;exact s.val j y' d' q
 ·by_cases aE:i=j
  ·subst aE;obtain⟨e',_⟩:=a5 q;cases e';exact⟨.ref a,h1,by rw[h2];exact pJ h5 h4 h3,h6⟩
  ·rw[aZ aE]at q;exact s.ow j d' q
 ·by_cases aE:i=j
  ·subst aE;obtain⟨e',_⟩:=a5 q;cases e'
  ·rw[aZ aE]at q;exact s.pR j ok q
 ·by_cases aE:i=j
  ·subst aE;obtain⟨e',_⟩:=a5 q;cases e'
  ·rw[aZ aE]at q;exact s.shl j y' d' q
theorem FG {W:Addr->Prop}{d:D}{o:HO}{vs:List V}{a:Addr}(sh:Ik d o vs)(h:H a=some o)(nw:¬ W a)(r:ai P w W H (Jh d) vs):ay P w W H d (.ref a):=by
 cases d with
 |lst ds=>cases sh;exact⟨a,vs,rfl,h,nw,r⟩
 |dT ks ds=>obtain⟨rfl,l⟩:=sh;exact⟨a,vs,rfl,h,l,nw,r⟩
 |dK ks ds=>obtain⟨rfl,l⟩:=sh;exact⟨a,vs,rfl,h,l,nw,r⟩
 |_=>exact sh.elim
theorem bG.Dt {d:D}{y:Bool}(s:bG P w C σ H β own)(e:β[i]?=some (some (.shl y d))):bG P w C σ H (β.set i (some (.val y d))) (aH own i []):=by
 obtain⟨a,o,vs,h1,h2,h3,h4,h5,h6,s'⟩:=s.u9 e;have hl:i<β.length:=(UY.mp e).1;have f:=s'.freeze (get_set hl);have sub:∀c,fY C (Wn (aH own i [])) (yk y) c->fY C (Wn own) (yk y) c:=gL (λc z=>dB z) _;have q:=bG.dD (i:=i) (d:=d) (v:=.ref a) (y:=y) f (FG h4 h3 (λz=>?_) (ai.aR sub h5))
 ·have es:σ.set i (some (.ref a))=σ:=by
   apply WZ;intro j;rw[WX]
   by_cases aE:i=j
   ·subst aE;rw[if_pos rfl,h1,if_pos (UY.mp h1).1]
   ·rw[if_neg aE]
  have eo:aH (aH own i []) i []=aH own i []:=by
   funext j
   by_cases aE:i=j
   ·rw[<- aE,os_eq,os_eq]
   ·rw[bq aE,bq aE]
  rw[es,Xu,Xu,eo]at q;exact q
 ·have nW:¬ Wn (aH own i []) a:=λK8=> by
   obtain⟨j,hj⟩ := K8;obtain⟨hj,ne⟩:=bK hj;exact ne (s.jo j i a hj (by rw[h2];simp))
  rcases z with z|z
  ·cases y with
   |true=>exact z.elim nW λz=>z h6
   |false=>exact nW z
  ·exact(s.dm i a (by rw[h2];simp)).2.2.2 z
end
abbrev QG (k:Kd)(d:D):Prop:=match k with
 |.own=>True
 |.dy=>True
 |_=>d.flat=true
theorem KV.yg {P:UX}{w:Vb}{C:Cfg}{Z:Hp×(Addr->Prop)}{own:Nat->List Addr}{H:Hp}{d:D}{v:V}{k:Kd}(f:QG k d)(r:KV P w C Z own H k d v):ay P w (av C (Wn own) .dy) H d v:=by
 cases k with
 |own=>exact r.dy
 |dy=>exact r
 |old=>exact ay.flat f r
 |bor=>exact ay.flat f r
theorem ai.snoc {P:UX}{w:Vb}{W:Addr->Prop}{H:Hp}{d:D}{v:V}(h:ay P w W H d v):∀{ds:List D} {vs:List V},ai P w W H ds vs->ai P w W H (ds++[d]) (vs++[v])
 |[],_,e=>by cases e;exact⟨v,[],rfl,h,rfl⟩
 |_::_,_,⟨u,r,rfl,h1,h2⟩=>⟨u,r++[v],rfl,h1,ai.snoc h h2⟩
section
variable {X:Cx}{C:Cfg}{k e:Expr}{es:List Expr}{φ:aX}{φs:b_}{i:Nat}{x:Str}{pos pos' px pc ap cp:Pos}{p:Bool}
def Js (i:Nat):aX:=λβ R=>∃d,β[i]?=some (some (.shl true d))/\R d .dy (β.set i (some (.val true d)))
theorem Cp (hN:X.N[i]?=some x:=by rfl)(hv:sR X.env.scope x:=by first|exact .inl rfl|exact .inr (.inl rfl)|exact .inr (.inr rfl))(hd:(x==("__debug__" : Str))=false:=by decide)(gm:(x==("__classdict__" : Str))=false:=by decide):
  PQ X C false (.Name x pos) (Js i):=⟨λβ R R' k h=>by obtain⟨b,e,h⟩:=h;exact⟨b,e,k _ _ _ h⟩,(cR hN hv hd gm).pre λσ H Q h=>by
 obtain⟨β,own,s,d,e,q⟩:=h;have f:=s.Dt e;obtain⟨v,h1,h2⟩:=f.Fm (y:=true) (get_set (UY.mp e).1);exact⟨v,h1,q v H _ ⟨f,⟨λb z=>.inl (dB z),Kp.refl,λ_ z=>z⟩,λz=>(nomatch z),λ_ z=>dB z⟩ h2⟩⟩
theorem Fw {own:Nat->List Addr}{i:Nat}{a:Addr}(h:own i=[a]):∀c,Wn (aH own i [a]) c->Wn own c:=λc K7=> by
 obtain⟨j,hj⟩ := K7
 by_cases aE:i=j
 ·rw[<- aE,os_eq]at hj;exact⟨i,by rw[h];exact hj⟩
 ·rw[bq aE]at hj;exact⟨j,hj⟩
theorem bG.NS {P:UX}{w:Vb}{U:Addr->Prop}{σ:St}{H:Hp}{β:a_}{own:Nat->List Addr}{d d':D}{a:Addr}{o:HO}{vs':List V}(b:bG P w (C.u U) σ H β own)(e:β[i]?=some (some (.shl true d)))(hσ:σ[i]?=some (some (.ref a)))
  (sh:Ik d' o vs') (r:ai P w (av (C.u U) (Wn own) .dy) (upd H a o) (Jh d') vs'):bG P w C.z σ (upd H a o) (β.set i (some (.shl true d'))) (aH own i [a])/\(∀c∈[a],c∈own i\/(C.H0 c=none/\¬ Wn own c/\U c))/\Wn own a/\∃oc,H a=some oc/\∀xs,oc≠.tup xs:=by
 obtain⟨a',o1,vs,h1,h2,h3,h4,h5,h6,s'⟩:=b.u9 e;rw[hσ]at h1;cases h1;have hl:i<β.length:=(UY.mp e).1;have ha:a∈own i:=by rw[h2];simp
 have hA:∀c∈[a],c∈own i\/(C.H0 c=none/\¬ Wn own c/\U c):=λc hc=>.inl (by rw[h2];exact hc)
 have q:=s'.putIn (get_set hl) hσ ha (pJ r sh ar) (by simp) hA
 rw[Xu]at q;have q2:=q.toShl (d:=d') (y:=true) (get_set (by simpa using hl)) hσ ⟨a,o,vs',rfl,by rw[os_eq],ar,sh,ai.aR (λc z=>?_) r⟩
 ·rw[Xu]at q2;exact⟨q2,hA,⟨i,ha⟩,o1,h3,Jg h4⟩
 ·rcases z with z|z
  ·exact jt (C:=C) (Fw h2) .dy c z
  ·exact z.elim
theorem An {H:Hp}{a:Addr}{o oc:HO}{W:Addr->Prop}(h:H a=some oc)(ht:∀xs,oc≠.tup xs)(hw:W a):Kp W H (upd H a o):=(jO h ht).mono λc z=>by rw[z];exact hw
theorem Cy (he:∀U,PQ X (C.u U) p e φ)(hN:X.N[i]?=some x:=by rfl)(hv:sR X.env.scope x:=by first|exact .inl rfl|exact .inr (.inl rfl)|exact .inr (.inr rfl))(hd:(x==("__debug__" : Str))=false:=by decide)(gm:(x==("__classdict__" : Str))=false:=by decide)
  (fg:Xg (.Name x px) "append" X.env (eval (.Name x px) X.env)=eval (.Name x px) X.env:=by rfl)
  (pT:((WG cp (U5 [e] X.env)).all (λx=>!x.1)&&(Y9 cp (Yq [] X.env)).all (λx=>x.1.isSome)&&decide ([e].length+([]:List XZ).length+(if ([]:List XZ).isEmpty then 0 else 1)<30))=true:=by rfl)
  (ff:(ap.endLine==cp.line)=true:=by rfl) (hs:U5 [e] X.env=(false,eval e X.env)::U5 [] X.env:=by rfl) (fO:(WG cp (U5 [] X.env)).any (·.1)=false:=by rfl)
  (uy:Ww (.Call (.Attribute (.Name x px) "append" ap) [e] [] cp) none pos.line X.env=pure false:=by rfl) :
  PB X C (.Expr (.Call (.Attribute (.Name x px) "append" ap) [e] [] cp) pos) (λE β=>(∃ds,β[i]?=some (some (.shl true (.lst ds))))/\φ β λd k β'=>QG k d/\∃ds,β'[i]?=some (some (.shl true (.lst ds)))/\ds.length<U4/\E.nx (β'.set i (some (.shl true (.lst (ds++[d])))))):=by
 refine⟨λE E' β l h=>by obtain⟨h1,q⟩:=h;exact⟨h1,(he λ_=>False).mono _ _ _ (λd k β' h=>by obtain⟨f,ds,h1,h2,q⟩:=h;exact⟨f,ds,h1,h2,l.nx _ q⟩) q⟩,λpins s σ H D I ⟨Z,E,β,⟨own,sq,n⟩,⟨⟨Rb,hb⟩,q⟩,ok⟩=>?_⟩
 refine i4 (pos:=pos) (vB (apos:=ap) (cpos:=cp) PySem.F.plainAttrs_list PySem.F.slot_list_append PySem.F.type_list_append gX (cR (pos:=px) hN hv hd gm) (a8 (he λa=>H a=none).pe cJ hs) fg pT ff hs fO) uy pins s σ H D I ?_;obtain⟨a,o0,vs,h1,h2,h3,h4,_⟩:=sq.u9 hb;cases h4;refine⟨.ref a,h1,.inl ⟨rfl,vs,da.of h3⟩,tQ.of (he λa=>H a=none) (sq.kY (C:=C.z) (U:=λa=>H a=none) λa z=>z) q λd k β' v H1 aA ⟨f,ds,fP,hl,q⟩ o r=>?_⟩;obtain⟨a',o1,vs',g1,g2,g3,g4,g5,_,_⟩:=o.sq.u9 fP;rw[h1]at g1;cases g1;cases g4;have wa:av (C.u λa=>H a=none) (Wn aA) .dy a:=.inl ⟨i,by rw[g2];simp⟩
 have kp:Kp (av (C.u λa=>H a=none) (Wn aA) .dy) H1 (upd H1 a (.lst (vs'++[v]))):=An g3 (λxs z=>by cases z) wa
 obtain⟨s2,hA,hw,Dj⟩:=o.sq.NS (d':=.lst (ds++[d])) (o:=.lst (vs'++[v])) (vs':=vs'++[v]) fP h1 rfl (ai.snoc ((r.yg f).keep kp) ((ai.aR (λc z=>.inl z) g5).keep kp));exact⟨a,vs',v,rfl,rfl,g3,by rw[g5.length];exact hl,ok.nx _ _ _ ⟨_,s2,lq (C:=C) (n.trans o.sn) (λb z=>n.free z) hw Dj hA⟩ q⟩
theorem Cw (he:∀U,qo X (C.u U) p es φs)(hN:X.N.Nodup)(hi:X.N[i]?=some x:=by rfl)(hx:Loc X.env.scope x:=by first|exact .inl rfl|exact .inr rfl)
  (hs:Ww (.List es pc) (some (.Name x pos')) pos.line X.env=pure false:=by rfl) (hf:X.fn x=true\/X.env.scope.names.lookup x=some .local:=by first|exact .inl rfl|exact .inr rfl|assumption) :
  PB X C (.Assign [.Name x pos'] (.List es pc) pos) (λE β=>φs β λds ks β'=>g9 ks=.dy/\ds.length<=U4/\i<β'.length/\E.nx (β'.set i (some (.shl true (.lst ds))))) :=
 ⟨λE E' β l h=>(he λ_=>False).mono _ _ _ (λds ks β' h=>⟨h.1,h.2.1,h.2.2.1,l.nx _ h.2.2.2⟩) h,λpins s σ H D I K6=> by
  obtain⟨Z,E,β,⟨own,sq,n⟩,q,ok⟩ := K6;refine jE hN hi hx (pD (he λa=>H a=none).pa) hs hf pins s σ H D I ?_;refine tf.of (he λa=>H a=none) (sq.kY (C:=C.z) (U:=λa=>H a=none) λa z=>z) q λds ks β1 vs H1 aA ⟨hk,hl,O4,q⟩ o r=>⟨by rw[r.length];exact hl,λa ha=>?_⟩
  have Q8:H a=none:=o.sn.free ha;have h0:C.H0 a=none:=VB λz=>o.sq.hJ a z ha;have nw:¬ Wn aA a:=λz=>o.sq.uM a z ha;have rr:=r.ip;rw[hk]at rr;have s1:=o.sq.same (au.new (o:=.lst vs) ha);have s2:=s1.tU (i:=i) (pJ (d:=.lst ds) (vs:=vs) rr rfl ar) (by simp) λc hc=>⟨by rw[U8.mp hc];exact h0,by rw[U8.mp hc];exact nw,by rw[U8.mp hc];exact Q8⟩
  have s3:=s2.toShl (d:=.lst ds) (y:=true) (get_set O4) (get_set (by rw[<- o.sq.len];exact O4)) ⟨a,.lst vs,vs,rfl,by rw[os_eq],ar,rfl,(ai.grow (λc z=>?_) rr).same (au.new ha)⟩
  ·rw[Xu]at s3;refine ok.nx _ _ _ ⟨_,s3,?_⟩ q;have m:=(n.trans o.sn).same (au.new (o:=.lst vs) ha);exact⟨λb K5=> by
    obtain⟨j,hj⟩ := K5
    by_cases aE:i=j
    ·rw[<- aE,os_eq]at hj;rw[U8.mp hj];exact .inr (n.free Q8)
    ·rw[bq aE]at hj;exact m.w b ⟨j,hj⟩,m.k,m.d⟩
  ·rcases z with z|z
   ·rcases z with⟨j,hj⟩|z
    ·by_cases aE:i=j
     ·rw[<- aE,os_eq]at hj;rw[U8.mp hj];exact .inr ha
     ·rw[bq aE]at hj;exact .inl (.inl ⟨j,hj⟩)
    ·exact .inl (.inr z)
   ·exact z.elim⟩
end
end L2.Q
namespace L2
open PySem PySem.Spec PySem.SeqAt PyProof.Rows
def PH (a b:D):Option D:=a.GD.bind λds=>b.int?.bind λk=>if 0<=k/\k<2 ^ 62/\ds.length*k.toNat<=U4 then some (.lst (Vo k.toNat ds).flatten) else none
theorem jD {P:UX}{w:Vb}{W:Addr->Prop}{H:Hp}{ds:List D}{vs:List V}(h:ai P w W H ds vs):∀k:Nat,ai P w W H (Vo k ds).flatten (Vo k vs).flatten
 |0=>rfl
 |k+1=>by
  rw[Wm,WY,Wm,WY];exact h.append (jD h k)
theorem rh {X:Cx}:Mb X (WI .Mult) PH:=by
 intro pins s σ H x y v u Q I rx ry h;obtain⟨W,d1,d2,d,hd,r1,r2,e,q⟩:=h;obtain⟨ds,h1,e⟩:=Wi.mp e;obtain⟨k,h2,e⟩:=Wi.mp e;obtain⟨⟨k0,k1,hl⟩,rfl⟩:=d3 e;rw[D.vN h1]at r1;rw[D.vX h2]at r2;obtain⟨p,vs,rfl,g1,n1,q1⟩:=r1;exact Gb pins s σ H _ _ v u Q I rx ry ⟨p,k,vs,rfl,r2,g1,by lia,by lia,by rw[q1.length];exact hl,λl uC=>q _ _ (au.new uC) (Rp.jM hd uC (jD q1 _)) λf=>xx uC f (jD q1 _)⟩
namespace Q
section
end
end Q
end L2
namespace iH
open PySem L2 L2.Q
def su:FD:=λds R=>∃m:Int,ds=[.int m]/\0<=m/\m<=40/\∀(n:Int) ts,0<=n->n<=m->Drawn n ts->R (.tup [.int n,.lst (ts.map kD)])
theorem su.mono:cD su:=λds R R' k h=>by obtain⟨m,e,h1,h2,q⟩:=h;exact⟨m,e,h1,h2,λn ts a b c=>k _ (q n ts a b c)⟩
theorem yc {n:Int}{ks:List (List Int)}(h:hV n ks)(nd:ks.Nodup):∃ts,cutD ((j4 ks).map kD) none (some 300)=ts.map kD/\Drawn n ts:=by
 refine⟨(j4 ks).take (min 300 (j4 ks).length),?_,?_,?_,?_,?_⟩
 ·unfold cutD;rw[HT.lz,show (some (300:Int))=some ((300:Nat):Int) from rfl,HT.pf,Za,<- List.map_take]
  simp
 ·rw[VS];lia
 ·exact λt ht=>h t ((iU _).mem_iff.mp (List.mem_of_mem_take ht))
 ·exact List.Pairwise.take (lj _)
 ·exact List.Nodup.sublist (WV _ _) ((iU _).nodup_iff.mpr nd)
section
variable {P:UX}{w:Vb}{K:PySem.W.Frag}{mg:Str->Option UR}{base:Heap}
theorem br:aC ["deck","most","size","great","many","ties","way","a","b","k"] ["deck","most"] (ak gS):=⟨rfl,rfl,rfl,by decide +kernel,rfl,by decide +kernel,by decide +kernel⟩
theorem Gm {MP Dx} (dR:D0 K mg MP Dx) {Pw HI} (dT:D1 K mg Pw HI) (B:Bs mg):aD P w K mg base bw 3 MP Dx ["deck","most"] (tR P w ud true su):=by
 have GT:aD P w K mg base bw 1 _ _ _ (tR P w ud true c6):=vG dT.F;refine NT dR.F br (λds R K4=> by obtain⟨m,e,_⟩ := K4;subst e;rfl) λcC A outer s H E IO hr=>⟨_,(ag (aP (i:=2) (aK af bf (a3 aU aL (a3 aU aL (a3 aU rh (a6 (aa ah ae)) ah) (a3 aU rh (a6 (aa ah ae)) ah)) (a6 (aa ah ae))) (b7 (ih:=0) c6.mono GT (hr.mono (by decide)) dT.m dT.F.kp dT.b (aa ah ae))) br.nd)
    (ag (aP (i:=3) (aK af bf (a6 (aa (b7 (ih:=0) c6.mono GT (hr.mono (by decide)) dT.m dT.F.kp dT.b (aa (a3 aU aL (ab (i:=1)) ah) ae)) (aa (ab (i:=1)) ae))) (b7 (ih:=0) c6.mono GT (hr.mono (by decide)) dT.m dT.F.kp dT.b (aa ah ae))) br.nd)
    (ag (aP (i:=4) (bb af (bW.m (iD rfl)) B.min uV (aa (ab (i:=1)) (aa (aK af bf (a6 (aa (b7 (ih:=0) c6.mono GT (hr.mono (by decide)) dT.m dT.F.kp dT.b (aa ah ae)) (aa (b7 (ih:=0) c6.mono GT (hr.mono (by decide)) dT.m dT.F.kp dT.b (aa ah ae)) (aa (ab (i:=3)) ae)))) (ab (i:=2))) ae))) br.nd)
    (ag (fJ (i:=5) (λ_=>(Cq true)) br.nd)
    (ag (aP (i:=6) (b7 (ih:=0) c6.mono GT (hr.mono (by decide)) dT.m dT.F.kp dT.b (aa ah ae)) br.nd)
    (ag (cb VE rfl (bx B.range (aa (ab (i:=4)) ae)) (ao (i:=7) br.nd) (fI (bO (m9.t (fG (aI af (bR.m (dY hr.units)) (ab (i:=6)) ah) (dQ (aI af (bR.m bX) (a3 aU aL (ab (i:=7)) ah) (ab (i:=4)))))) (aj (kM (i:=5) hr.oP (bz (aa (ab (i:=7)) (aa (a3 aU aL (ab (i:=7)) ah) ae))))) aY)
    (fI (bO (m9.t (fG (aI af (bR.m (dY hr.units)) (ab (i:=6)) ah) (dQ (aI af (bR.m bX) (ab (i:=7)) (a3 af (bR.m du) (a3 af (bR.m du) (ab (i:=4)) ah) (ab (i:=7))))))) (aj (kM (i:=5) hr.oP (bz (aa (ab (i:=7)) (aa (a3 af (bR.m du) (a3 af (bR.m du) (ab (i:=4)) ah) (ab (i:=7))) ae))))) aY)
    (aj (cb VE rfl (t9 B.range (aa (a3 aU aL (ab (i:=7)) ah) (aa (bb af (bW.m (iD rfl)) B.min uV (aa (ab (i:=4)) (aa ah ae))) ae))) (ao (i:=8) br.nd) (aj (bO (m9.t (iq (aI af (bR.m (dY hr.units)) (ab (i:=6)) ah) (gU (m9.t (fG (aI af (bR.m (dY hr.units)) (ab (i:=6)) ah) (dQ (aI af (bR.m (dY hr.units)) (b7 (ih:=0) c6.mono GT (hr.mono (by decide)) dT.m dT.F.kp dT.b (aa ah ae)) ah))))))) (aj (kM (i:=5) hr.oP (bz (aa (ab (i:=7)) (aa (ab (i:=8)) ae))))) aY)))))))
    (ag (cb VE rfl (bx B.range (aa (a3 af (bR.m vD) (b7 (ih:=0) c6.mono GT (hr.mono (by decide)) dT.m dT.F.kp dT.b (aa (aK af bf (a6 (aa ah (aa ah (aa ah ae)))) (b7 (ih:=0) c6.mono GT (hr.mono (by decide)) dT.m dT.F.kp dT.b (aa ah ae))) ae)) (gV af (bW.m yo) B.int Bt (aa (fH af (bR.m pL) (ab (i:=4)) ah) ae))) ae)) (ao (i:=9) br.nd) (ag (aP (i:=7) (b7 (ih:=0) c6.mono GT (hr.mono (by decide)) dT.m dT.F.kp dT.b (aa (ab (i:=4)) ae)) br.nd)
    (ag (aP (i:=8) (a3 af (bR.m CF) (a3 aU aL (a3 aU aL (ab (i:=7)) ah) (b7 (ih:=0) c6.mono GT (hr.mono (by decide)) dT.m dT.F.kp dT.b (aa (a3 af (bR.m du) (ab (i:=4)) ah) ae))) (ab (i:=4))) br.nd)
    (aj (kM (i:=5) hr.oP (bz (aa (bb af (bW.m (iD rfl)) B.min uV (aa (ab (i:=7)) (aa (ab (i:=8)) ae))) (aa (bb af (bW.m (uU rfl)) B.max Bq (aa (ab (i:=7)) (aa (ab (i:=8)) ae))) ae))))))))
    (aj (aJ (bz (aa (ab (i:=4)) (aa (zF (bb aU (qd rfl) B.sorted yr (aa (ab (i:=5)) ae)) lE (lD ah)) ae)))))))))))),λds R h=>?_⟩
 obtain⟨m,rfl,UC,MM,q⟩:=h;have tj:(1:Nat)<=U4:=eT (by lia)
 refine⟨trivial,tj,trivial,_,rfl,.inl ⟨rfl,trivial,trivial,tj,trivial,_,rfl,.inl ⟨rfl,_,rfl,.inl ⟨rfl,trivial,trivial,tj,_,rfl,.inl ⟨rfl,trivial,rfl,trivial,rfl,trivial,16,rfl,by lia,by lia,λr r0 r1=>pick r0 (by simpa using r1) λd hd=>?_⟩⟩⟩⟩⟩
 obtain⟨sz,rfl,s0,s1⟩:∃s:Nat,d=.int (s:Int)/\0<=s/\s<=2:=by
  simp at hd;rcases hd with rfl|rfl|rfl
  ·exact⟨0,rfl,by lia,by lia⟩
  ·exact⟨1,rfl,by lia,by lia⟩
  ·exact⟨2,rfl,by lia,by lia⟩
 refine⟨rfl,_,rfl,trivial,_,rfl,trivial,rfl,trivial,m+1,rfl,by lia,by lia,λg0 UL UK=>⟨trivial,_,rfl,trivial,km,trivial,rfl,trivial,rfl,trivial,2,rfl,by lia,by lia,λr r0 r1=>pick r0 (by simpa using r1) λd hd=>?_⟩⟩
 obtain⟨gr,rfl,Tu,UJ⟩:∃s:Int,d=.int s/\0<=s/\s<=m:=by
  simp only[U0,Wy,or_false]at hd;rcases hd with rfl|rfl
  ·exact⟨g0,rfl,by lia,by lia⟩
  ·exact⟨m,rfl,by lia,by lia⟩
 refine⟨_,rfl,trivial,rfl,trivial,rfl,trivial,7,rfl,by lia,by lia,λu u0 u1=>⟨trivial,rfl,trivial,rfl,trivial,11,rfl,by lia,by lia,λv v0 v1=>⟨trivial,_,rfl,trivial,Mq,trivial,_,rfl,pick (by lia) (by show (sz:Int)<3;lia) λd hd=>?_⟩⟩⟩
 obtain⟨x,rfl,Od⟩:∃s:Int,d=.int s/\0<=s:=by
  simp only[U0,Wy,or_false]at hd;rcases hd with rfl|rfl|rfl
  ·exact⟨u,rfl,u0⟩
  ·exact⟨v,rfl,v0⟩
  ·exact⟨gr,rfl,Tu⟩
 obtain⟨n,hn,n0,n1⟩:∃n:Int,sH [.int m,.int x]=some (.int n)/\0<=n/\n<=m:=⟨_,sG,by split <;> lia,by split <;> lia⟩
 refine⟨trivial,_,hn,trivial,?_⟩;refine⟨rfl,trivial,rfl,trivial,6,rfl,by lia,by lia,λway w0 w1=>?_⟩
 have add:∀{ts:List (List Int)} {t:List Int},ts.Nodup->hV n ts->MU n t->(sQ ts t).Nodup/\hV n (sQ ts t)/\(sQ ts t).length<=ts.length+1:=λ{ts t} h1 h2 h3=>by
  unfold sQ
  split
  ·exact⟨h1,h2,by lia⟩
  ·next hn =>
   refine⟨V0.mpr ⟨h1,by simp,λx hx y hy z=>?_⟩,λu hu=>?_,by simp⟩
   ·rw[U8.mp hy]at z;exact hn (by rw[<- z];exact hx)
   ·rcases Vp.mp hu with z|z
    ·exact h2 u z
    ·rw[U8.mp z];exact h3
 refine⟨_,rfl,trivial,n,rfl,by lia,by lia,trivial,?_⟩
 refine⟨λi β=>∃(ts:List (List Int)) (x7 x8 x9:Option Q.B),β=[some (.hand ud),some (.val false (.int m)),some (.val true (.int sz)),some (.val true (.int gr)),some (.val true (.int n)),some (.own (dP ts true)),some (.val true (.int way)),x7,x8,x9]/\ts.Nodup/\hV n ts/\ts.length<=2*i+23*min i 23,⟨[],_,_,_,rfl,V_,hV.nil,by simp⟩,?_,?_⟩
 ·rintro i d β hd ⟨ts,x7,x8,x9,rfl,h1,h2,h3⟩;obtain⟨hi,rfl⟩:=bE hd;refine⟨λβ=>∃(ts:List (List Int)) (x8 x9:Option Q.B),β=[some (.hand ud),some (.val false (.int m)),some (.val true (.int sz)),some (.val true (.int gr)),some (.val true (.int n)),some (.own (dP ts true)),some (.val true (.int way)),some (.val true (.int (0+(i:Int)))),x8,x9]/\ts.Nodup/\hV n ts/\ts.length<=2*i+23*min i 23+1,?_,?_⟩
  ·refine⟨_,rfl,trivial,_,jr _ _,_,rfl,lY (λ_=>⟨_,rfl,trivial,_,rfl,trivial,_,rfl,_,rfl,_,rfl,lY (λc5=>?_) (λ_=>⟨ts,_,_,rfl,h1,h2,by lia⟩)⟩) (λ_=>d4 rfl ⟨ts,_,_,rfl,h1,h2,by lia⟩)⟩
   obtain⟨g1,g2,g3⟩:=add h1 h2 (t:=[0+(i:Int),0+(i:Int)+1]) ⟨_,_,rfl,by lia,by lia,by lia⟩
   exact⟨⟨_,rfl⟩,_,rfl,trivial,_,rfl,trivial,_,rfl,trivial,km,ts,[0+(i:Int),0+(i:Int)+1],rfl,rfl,by rw[Wf];lia,_,_,_,rfl,g1,g2,by lia⟩
  rintro β ⟨ts,x8,x9,rfl,h1,h2,h3⟩;refine⟨λβ=>∃(ts:List (List Int)) (x8 x9:Option Q.B),β=[some (.hand ud),some (.val false (.int m)),some (.val true (.int sz)),some (.val true (.int gr)),some (.val true (.int n)),some (.own (dP ts true)),some (.val true (.int way)),some (.val true (.int (0+(i:Int)))),x8,x9]/\ts.Nodup/\hV n ts/\ts.length<=2*i+23*min i 23+2,?_,?_⟩
  ·refine⟨_,rfl,trivial,_,jr _ _,_,rfl,lY (λ_=>⟨_,rfl,trivial,_,rfl,trivial,_,rfl,trivial,_,rfl,_,rfl,_,rfl,_,rfl,lY (λc5=>?_) (λ_=>⟨ts,_,_,rfl,h1,h2,by lia⟩)⟩) (λ_=>d4 rfl ⟨ts,_,_,rfl,h1,h2,by lia⟩)⟩
   obtain⟨g1,g2,g3⟩:=add h1 h2 (t:=[0+(i:Int),n-1-(0+(i:Int))]) ⟨_,_,rfl,by lia,by lia,by lia⟩
   exact⟨⟨_,rfl⟩,_,rfl,trivial,_,rfl,trivial,_,rfl,trivial,_,rfl,_,rfl,trivial,km,ts,[0+(i:Int),n-1-(0+(i:Int))],rfl,rfl,by rw[Wf];lia,_,_,_,rfl,g1,g2,by lia⟩
  rintro β ⟨ts,x8,x9,rfl,h1,h2,h3⟩;obtain⟨jT,OP,UE,O_⟩:∃h:Int,sH [.int n,.int 24]=some (.int h)/\h<=n/\h<=24/\0<=h:=⟨_,sG,by split <;> lia,by split <;> lia,by split <;> lia⟩
  refine⟨_,rfl,trivial,_,rfl,trivial,_,rfl,trivial,trivial,_,OP,trivial,0+(i:Int)+1,jT,rfl,⟨by lia,by lia,by lia,by lia⟩,trivial,?_⟩
  refine⟨λj β=>∃(ts:List (List Int)) (x8 x9:Option Q.B),β=[some (.hand ud),some (.val false (.int m)),some (.val true (.int sz)),some (.val true (.int gr)),some (.val true (.int n)),some (.own (dP ts true)),some (.val true (.int way)),some (.val true (.int (0+(i:Int)))),x8,x9]/\ts.Nodup/\hV n ts/\ts.length<=2*i+23*min i 23+2+j,⟨ts,_,_,rfl,h1,h2,by lia⟩,?_,?_⟩
  ·rintro j d β hd ⟨ts,x8,x9,rfl,h1,h2,h3⟩;obtain⟨hj,rfl⟩:=bE hd;obtain⟨g1,g2,g3⟩:=add h1 h2 (t:=[0+(i:Int),0+(i:Int)+1+(j:Int)]) ⟨_,_,rfl,by lia,by lia,by lia⟩
   refine⟨_,rfl,trivial,_,jr _ _,_,rfl,lY (λ_=>iu rfl ?_) (λ_=>⟨_,rfl,trivial,_,jr _ _,_,rfl,lY (λ_=>⟨rfl,trivial,rfl,trivial,3,rfl,by lia,by lia,λr r0 r1=>⟨trivial,_,jr _ _,_,rfl,lY (λ_=>?_) (λ_=>⟨ts,_,_,rfl,h1,h2,by lia⟩)⟩⟩) (λ_=>d4 rfl ⟨ts,_,_,rfl,h1,h2,by lia⟩)⟩)⟩
   ·exact⟨⟨_,rfl⟩,_,rfl,trivial,_,rfl,trivial,km,ts,[0+(i:Int),0+(i:Int)+1+(j:Int)],rfl,rfl,by rw[Wf];lia,_,_,_,rfl,g1,g2,by lia⟩
   ·exact⟨⟨_,rfl⟩,_,rfl,trivial,_,rfl,trivial,km,ts,[0+(i:Int),0+(i:Int)+1+(j:Int)],rfl,rfl,by rw[Wf];lia,_,_,_,rfl,g1,g2,by lia⟩
  ·rintro β ⟨ts,x8,x9,rfl,h1,h2,h3⟩;rw[bN]at h3;exact⟨ts,_,_,_,rfl,h1,h2,by lia⟩
 ·rintro β ⟨ts,x7,x8,x9,rfl,h1,h2,h3⟩;rw[bN]at h3;refine⟨rfl,trivial,trivial,trivial,Mq,trivial,rfl,trivial,rfl,trivial,3,rfl,by lia,by lia,λr r0 r1=>pick r0 (by simpa using r1) λd hd=>?_⟩
  obtain⟨mm,rfl,Sg,Uv⟩:∃m:Int,d=.int m/\0<m/\m<=301:=by
   simp only[U0,Wy,or_false]at hd;rcases hd with rfl|rfl|rfl
   ·exact⟨5,rfl,by lia,by lia⟩
   ·exact⟨21,rfl,by lia,by lia⟩
   ·exact⟨301,rfl,by lia,by lia⟩
  refine⟨trivial,rfl,trivial,mm,rfl,Sg,by lia,λc c0 c1=>?_⟩
  have LJ:HN (.int c) (.int (if decide (n>1)=true then 1 else 0))=some (.int (c*(if decide (n>1)=true then 1 else 0))):=by
   show (if mz c _ then some _ else none)=_
   rw[if_pos (show mz c (if decide (n>1)=true then 1 else 0) from .inl ⟨by lia,by lia⟩)]
  have hj:0<=c*(if decide (n>1)=true then 1 else 0)/\c*(if decide (n>1)=true then 1 else 0)<=300/\(¬ n>1->c*(if decide (n>1)=true then 1 else 0)=0):=by
   by_cases hn:n>1
   ·simp[hn];lia
   ·simp[hn]
  generalize c*(if decide (n>1)=true then 1 else 0)=j at LJ hj
  refine⟨trivial,_,rfl,trivial,_,rfl,trivial,_,rfl,_,LJ,trivial,j,rfl,by lia,by lia,trivial,?_⟩
  refine⟨λi β=>∃(ts:List (List Int)) (x7 x8 x9:Option Q.B),β=[some (.hand ud),some (.val false (.int m)),some (.val true (.int sz)),some (.val true (.int gr)),some (.val true (.int n)),some (.own (dP ts true)),some (.val true (.int way)),x7,x8,x9]/\ts.Nodup/\hV n ts/\ts.length<=609+i,⟨ts,_,_,_,rfl,h1,h2,by lia⟩,?_,?_⟩
  ·rintro i d β hd ⟨ts,x7,x8,x9,rfl,h1,h2,h3⟩;obtain⟨hi,rfl⟩:=bE hd;have OM:n>1:=VB λz=>by have:=hj.2.2 z;lia
   refine⟨rfl,_,rfl,trivial,rfl,trivial,n,rfl,by lia,by lia,λone o0 o1=>?_⟩
   refine⟨_,rfl,trivial,_,rfl,trivial,rfl,_,rfl,trivial,_,rfl,trivial,rfl,trivial,n-1,rfl,by lia,by lia,λr' Up Mu=>?_⟩
   have ON:LQ (.int (one+1+r')) (.int n)=some (.int ((one+1+r') % n)):=if_pos (by lia)
   refine⟨_,rfl,trivial,_,rfl,_,ON,?_⟩;have Hu:(one+1+r') % n≠one/\0<=(one+1+r') % n/\(one+1+r') % n<n:=by
    by_cases c5:one+1+r'<n
    ·rw[Int.emod_eq_of_lt (by lia) c5];lia
    ·rw[show one+1+r'=(one+1+r' - n)+n by lia,Int.add_emod_right,Int.emod_eq_of_lt (by lia) (by lia)];lia
   generalize (one+1+r') % n=Ei at Hu;obtain⟨g1,g2,g3⟩:=add h1 h2 (t:=[if Ei<one then Ei else one,if Ei>one then Ei else one]) ⟨_,_,rfl,by split <;> lia,by split <;> (try split) <;> lia,by split <;> lia⟩
   exact⟨⟨_,rfl⟩,_,rfl,trivial,_,rfl,trivial,_,rfl,trivial,_,rfl,trivial,_,rfl,trivial,_,rfl,trivial,km,ts,[if Ei<one then Ei else one,if Ei>one then Ei else one],rfl,rfl,by rw[Wf];lia,_,_,_,_,rfl,g1,g2,by lia⟩
  ·rintro β ⟨ts,x7,x8,x9,rfl,h1,h2,h3⟩;rw[bN]at h3;refine⟨_,rfl,trivial,_,rfl,trivial,_,B4 h2.ne (by lia),.inl ⟨l6 _,300,rfl,_,rfl,?_⟩⟩
   obtain⟨us,e,dr⟩:=yc h2 h1;rw[e];exact .inl ⟨l6 _,trivial,km,trivial,rfl,q n us n0 n1 dr⟩
end
section
variable {P:UX}{w:Vb}{K:PySem.W.Frag}{mg:Str->Option UR}{base:Heap}
theorem g8:aC ["many"] ["many"] (ak bJ):=⟨rfl,rfl,rfl,by decide +kernel,rfl,by decide +kernel,by decide +kernel⟩
theorem CJ {jk eJ} (qj:D2 K mg jk eJ) (B:u3 mg):aD P w K mg base bw 1 jk eJ ["many"] (bZ P w true A6):=by
 refine j_ qj.F g8 (λds R K3=> by obtain⟨n,e,_⟩ := K3;subst e;rfl) λcC A outer s H E hr=>⟨_,(aj (aJ (Sj ["i","j","many"] [none,none,some 0] (by rfl) (by decide:(["i","j","many"]:List Str).Nodup) rfl (t8 B.range (aa (a3 af (bR.m du) (ab (i:=0)) ah) (aa (zE oR ah) (aa (zE oR ah) ae)))) (λ_ _ _ _ _ _=>(ao (i:=0) (by decide:(["i","j","many"]:List Str).Nodup))) (λ_ _ _ _ _ _=>ij) (λ_ _ _ _ _ _=>(t7 B.range (aa (a3 aU aL (ab (i:=0)) ah) (aa (a3 aU aL (ab (i:=2)) ah) ae)))) (λ_ _ _ _ _ _=>(ao (i:=1) (by decide:(["i","j","many"]:List Str).Nodup))) (λ_ _ _ _ _ _=>ij) (λ_ _ _ _ _ _=>(bz (aa (ab (i:=0)) (aa (ab (i:=1)) ae))))))),λds R h=>?_⟩
 obtain⟨n,rfl,hn,q⟩:=h;refine⟨_,rfl,trivial,_,rfl,trivial,_,rfl,rfl,trivial,_,rfl,rfl,trivial,(n:Int)-1,-1,rfl,⟨by lia,by lia,by lia,by lia⟩,trivial,?_⟩
 have en:((n:Int)-1 - -1).toNat=n:=by lia
 rw[en];refine⟨λa β o=>a<=n/\(∃x0 x1,β=[x0,x1,some (.val false (.int n))])/\o=(((Vk n).take a).flatMap (d9 n)).map kL,⟨Ve _,⟨_,_,rfl⟩,rfl⟩,?_,?_⟩
 ·rintro a d β o hd ⟨ha,⟨x0,x1,rfl⟩,rfl⟩;obtain⟨tm,rfl⟩:=qU hd;have e1:(n:Int)-1-a=((n-1-a:Nat):Int):=by lia
  rw[e1];refine⟨_,rfl,trivial,_,rfl,trivial,_,rfl,trivial,_,rfl,trivial,((n-1-a:Nat):Int)+1,(n:Int)+1,rfl,⟨by lia,by lia,by lia,by lia⟩,?_⟩
  have e2:((n:Int)+1-(((n-1-a:Nat):Int)+1)).toNat=a+1:=by lia
  rw[e2];refine⟨λb β o=>b<=a+1/\(∃x1,β=[some (.val true (.int ((n-1-a:Nat):Int))),x1,some (.val false (.int n))])/\o=(((Vk n).take a).flatMap (d9 n)++(d9 n a).take b).map kL,⟨Ve _,⟨_,rfl⟩,by simp⟩,?_,?_⟩
  ·rintro b d β o hd ⟨hb,⟨x1,rfl⟩,rfl⟩;obtain⟨fP,rfl⟩:=bE hd;refine⟨_,rfl,trivial,_,rfl,trivial,km,trivial,?_,fP,⟨_,rfl⟩,?_⟩
   ·rw[US,Vr];exact yV hn tm fP
   ·rw[show ((n-1-a:Nat):Int)+1+(b:Int)=((n-a+b:Nat):Int) by lia,xa fP,<- VW,Vx,Vx,Vx]
    rfl
  ·rintro β o ⟨_,⟨x1,rfl⟩,rfl⟩;refine⟨tm,⟨_,_,rfl⟩,?_⟩;rw[bN,ze,V7,Wx tm,List.flatMap_append];simp
 ·rintro β o ⟨_,⟨x0,x1,rfl⟩,rfl⟩;rw[qT,Wk (by simp)]
  exact⟨trivial,trivial,q⟩
theorem bD:aC ["row","many","ties","partners","a","b"] ["row"] (ak cU):=⟨rfl,rfl,rfl,by decide +kernel,rfl,by decide +kernel,by decide +kernel⟩
theorem CM {jl eK} (qk:D3 K mg jl eK) (B:u3 mg):aD P w K mg base bw 1 jl eK ["row"] (bZ P w true sv):=by
 refine j_ qk.F bD (λds R K2=> by obtain⟨n,ps,e,_⟩ := K2;subst e;rfl) λcC A outer s H E hr=>⟨_,(ag (pI (ab (i:=0)) (dq (n:=2) rfl (aS (ao (i:=1) bD.nd) (aS (ao (i:=2) bD.nd) cI))))
    (ag (zd (i:=3) true ["point"] [none] (by rfl) (by decide:(["point"]:List Str).Nodup) rfl (λ_=>(bx B.range (aa (ab (i:=1)) ae))) (λ_ _ _ _ _ _=>(ao (i:=0) (by decide:(["point"]:List Str).Nodup))) (λ_ _ _ _ _ _=>ij) (λ_ _ _ _ _ _=>(a6 ae)) bD.nd)
    (ag (cb VE rfl (a9 (ab (i:=2))) (dq (n:=2) rfl (aS (ao (i:=4) bD.nd) (aS (ao (i:=5) bD.nd) cI))) (aj (j9 (i:=3) true (λ_=>(ab (i:=5))) (λ_=>(ab (i:=4))))))
    (aj (pG (i:=3)))))),λds R h=>?_⟩
 obtain⟨n,ps,rfl,ok,q⟩:=h;have hn:=ok.le;refine⟨_,rfl,_,rfl,rfl,_,_,rfl,_,_,rfl,rfl,_,rfl,trivial,n,rfl,by lia,by lia,trivial,?_⟩
 rw[VM];refine dZ (λ_=>true) (λ_=>.lst []) trivial (by rw[V1];exact eT (by lia)) (λx hx x0 o J ho h1 _=>⟨Ve _,trivial,ho,h1 rfl _⟩) ?_
 rw[eG];refine⟨_,rfl,_,rfl,trivial,?_⟩;refine⟨λm β=>∃x4 x5,β=[some (.val false (jv n ps)),some (.val true (.int n)),some (.val false (b3 ps)),some (.own (Mv n (ps.take m))),x4,x5],⟨_,_,rfl⟩,?_,?_⟩
 ·rintro m d β hd ⟨x4,x5,rfl⟩;rw[Vd]at hd;obtain⟨p,hp,rfl⟩:=Vj.mp hd;obtain⟨h1,h2⟩:=ok.lt p (Vv hp);refine⟨_,rfl,rfl,_,_,rfl,_,_,rfl,rfl,⟨_,rfl⟩,_,rfl,_,_,_,_,rfl,rfl,by rw[US,V1];exact J1 rfl (show p.1<n by lia),eD (show p.1<n by lia),_,rfl,trivial,rfl,?_,?_⟩
  ·unfold Q.bV;rw[US];have:=Cj (ps:=ps.take m) (i:=p.1);rw[VS]at this;have:=ok.sm;exact ve (by lia)
  ·refine⟨some (.val true (.int p.1)),some (.val true (.int p.2)),?_⟩;have e:ps.take (m+1)=ps.take m++[(p.1,p.2)]:=by rw[V7,hp];rfl
   rw[FH (show p.1<n by lia),e]
   rfl
 ·rintro β ⟨x4,x5,rfl⟩;rw[US,WJ];exact⟨_,rfl,q⟩
end
section
variable {P:UX}{w:Vb}{K:PySem.W.Frag}{mg:Str->Option UR}{base:Heap}
theorem mP:aC ["i","k","j"] ["i","k","j"] (ak dh):=⟨rfl,rfl,rfl,by decide +kernel,rfl,by decide +kernel,by decide +kernel⟩
theorem zX {hG df} (oh:D4 K mg hG df):aD P w K mg base bw 1 hG df ["i","k","j"] (bZ P w true me):=by
 refine j_ oh.F mP (λds R K1=> by obtain⟨i,k,j,e,_⟩ := K1;subst e;rfl) λcC A outer s H E hr=>⟨_,(fI (bO (aI af (bR.m kP) (ab (i:=1)) cH) (aj (aJ (a6 (aa (bz (aa (a3 aU aL (ab (i:=0)) ah) (aa (ab (i:=2)) ae))) ae)))) aY)
    (aj (aJ (a6 (aa (bz (aa (a3 aU aL (ab (i:=0)) ah) (aa (ab (i:=1)) ae))) (aa (bz (aa (a3 aU aL (ab (i:=1)) ah) (aa (ab (i:=2)) ae))) ae)))))),λds R h=>?_⟩
 obtain⟨i,k,j,rfl,q⟩:=h;cases k with
 |none=>exact⟨λ_=>False,⟨_,rfl,trivial,_,rfl,_,rfl,iu rfl ⟨_,rfl,trivial,_,rfl,trivial,_,rfl,trivial,km,trivial,tj,trivial,q⟩⟩,λ_ z=>z.elim⟩
 |some k =>
  refine⟨λβ=>β=[some (.val false (.int i)),some (.val false (.int k)),some (.val false (.int j))],⟨_,rfl,trivial,_,rfl,_,rfl,d4 rfl rfl⟩,?_⟩;rintro β rfl;exact⟨_,rfl,trivial,_,rfl,trivial,_,rfl,trivial,km,trivial,_,rfl,trivial,_,rfl,trivial,_,rfl,trivial,km,trivial,km,trivial,q⟩
end
end iH
namespace L2.Q
open PySem PySem.Spec PySem.SeqAt PyProof.Rows
theorem fQ {α:Type}{f g:α->Nat}:∀{l:List α} {b:Nat},(∀p∈l,f p=g p)->l.foldl (λa p=>a*f p) b=l.foldl (λa p=>a*g p) b
 |[],_,_=>rfl
 |x::l,b,h=>by
  rw[XI,XI,h x (by simp)]
  exact fQ λp hp=>h p (by simp[hp])
theorem FX {ps:List (Nat×Nat)}{i:Nat}(h:ps.Nodup):(ny ps i).Nodup:=by
 unfold ny;refine Wl.mpr (List.Pairwise.imp_of_mem ?_ (Yt _ h));intro a b ha hb To e;have h1:=(VF.mp ha).2;have h2:=(VF.mp hb).2;simp only[decide_eq_true_eq]at h1 h2;exact To (Prod.ext (by rw[h1,h2]) e)
theorem z_:∀{n i:Nat} {l:List Nat},l.Nodup->(∀x∈l,i<=x/\x<i+n)->l.length<=n
 |0,i,l,_,h=>by
  cases l with
  |nil=>exact UU _
  |cons x l=>have:=h x (by simp);lia
 |n+1,i,l,nd,h=>by
  have q:=z_ (n:=n) (i:=i) (nd.erase (i+n)) λx hx=>by
   have:=nd.mem_erase_iff.mp hx;have:=h x this.2;lia
  have:=List.length_erase (a:=i+n) (l:=l)
  split at this <;> lia
theorem vf {α:Type}{f:α->Nat}{c:Nat}:∀{l:List α},(∀x∈l,f x<=c)->(l.map f).sum<=l.length*c
 |[],_=>Ve _
 |x::l,h=>by
  have h1:=h x (by simp)
  have h2:=vf (l:=l) λy hy=>h y (by simp[hy])
  rw[Vs,XE,U_,YX,Xp];lia
def fZ (ps:List (Nat×Nat))(i j:Nat):List (Option Nat):=((ny ps i).filter λk=>decide (k<j)).map some++[none]
theorem lN {ps:List (Nat×Nat)}{i j:Nat}{c:Option Nat}(h:c∈fZ ps i j):match c with|none=>True|some k=>(i,k)∈ps/\k<j/\True:=by
 cases c with
 |none=>trivial
 |some k =>
  rcases Vp.mp h with h|h
  ·obtain⟨k',h',e⟩:=VA.mp h;cases e;obtain⟨h1,h2⟩:=VF.mp h';exact⟨vL.mp h1,of_decide_eq_true h2,trivial⟩
  ·cases U8.mp h
def Il (ps:List (Nat×Nat)):Nat->Nat->Nat->Nat
 |0,_,_=>1
 |_+1,0,_=>1
 |n+1,l+1,i=>((fZ ps i (i+l+1)).map λc=>(parts i c (i+l+1)).foldl (λa p=>a*Il ps n (p.2-p.1) p.1) 1).sum
def sa (ps:List (Nat×Nat))(l i:Nat):Nat:=Il ps l l i
theorem lJ {ps:List (Nat×Nat)}(hp:∀p∈ps,p.1<p.2){i l:Nat}{c:Option Nat}(hc:c∈fZ ps i (i+l+1)){p:Nat×Nat}(h:p∈parts i c (i+l+1)):i<p.1/\p.1<=p.2/\p.2<=i+l+1:=by
 have o:=lN hc;cases c with
 |none =>
  rw[U8.mp h];exact⟨YT _,by show i+1<=i+l+1;lia,UU _⟩
 |some k =>
  obtain⟨o1,o2,_⟩:=o;have:=hp _ o1;dsimp only at this;rcases U0.mp h with rfl|h
  ·exact⟨YT _,by show i+1<=k;lia,by show k<=_;lia⟩
  ·rw[U8.mp h];exact⟨by show i<k+1;lia,by show k+1<=_;lia,UU _⟩
theorem qQ {ps:List (Nat×Nat)}(hp:∀p∈ps,p.1<p.2):∀{n m l i:Nat},l<=n->l<=m->Il ps n l i=Il ps m l i
 |0,m,l,i,h1,h2=>by
  rw[show l=0 by lia]
  cases m <;> rfl
 |n+1,m,0,i,h1,h2=>by cases m <;> rfl
 |n+1,0,l+1,i,h1,h2=>by lia
 |n+1,m+1,l+1,i,h1,h2=>by
  show ((fZ ps i (i+l+1)).map _).sum=((fZ ps i (i+l+1)).map _).sum
  congr 1
  refine V4 λc hc=>fQ λp h=>?_;obtain⟨a,b,d⟩:=lJ hp hc h;exact qQ hp (by lia) (by lia)
theorem o_ {ps:List (Nat×Nat)}(hp:∀p∈ps,p.1<p.2){l i:Nat}:sa ps (l+1) i=((fZ ps i (i+l+1)).map λc=>(parts i c (i+l+1)).foldl (λa p=>a*sa ps (p.2-p.1) p.1) 1).sum:=by
 show ((fZ ps i (i+l+1)).map _).sum=_
 congr 1
 refine V4 λc hc=>fQ λp h=>?_;obtain⟨a,b,d⟩:=lJ hp hc h;exact qQ hp (by lia) (UU _)
theorem sP {ps:List (Nat×Nat)}(hp:∀p∈ps,p.1<p.2)(nd:ps.Nodup){l i:Nat}:(fZ ps i (i+l+1)).length<=l+1:=by
 unfold fZ;rw[Vr,US];have h:=z_ (n:=l) (i:=i+1) ((FX nd).sublist (List.filter_sublist (p:=λk=>decide (k<i+l+1)))) λx hx=>by
  obtain⟨h1,h2⟩:=VF.mp hx;have:=hp (i,x) (vL.mp h1);have:=of_decide_eq_true h2;dsimp only at *
  lia
 show _+1<=_;lia
def i5 (ps:List (Nat×Nat))(i j:Nat)(c:Option Nat):Nat:=(parts i c j).foldl (λa p=>a*sa ps (p.2-p.1) p.1) 1
theorem lC {ps:List (Nat×Nat)}{i j:Nat}:i5 ps i j none=sa ps (j-(i+1)) (i+1):=by
 show 1*_=_;rw[Xp]
theorem lB {ps:List (Nat×Nat)}{i j k:Nat}:i5 ps i j (some k)=sa ps (k-(i+1)) (i+1)*sa ps (j-(k+1)) (k+1):=by
 show 1*_*_=_;rw[Xp]
theorem qP {ps:List (Nat×Nat)}(hp:∀p∈ps,p.1<p.2)(nd:ps.Nodup):∀l i,sa ps l i<=mC (l+1):=by
 intro l
 induction l using Nat.strongRecOn with
 |_ l ih =>
 intro i;cases l with
 |zero=>exact UU _
 |succ l =>
  rw[o_ hp];refine Vm (vf (c:=mC (l+1)) λc hc=>?_) ?_
  ·show i5 ps i (i+l+1) c<=_;have o:=lN hc;cases c with
   |none =>
    rw[lC,show i+l+1-(i+1)=l by lia]
    exact ih l (by lia) _
   |some k =>
    obtain⟨o1,o2,_⟩:=o;have:=hp _ o1;dsimp only at this;rw[lB];have h1:=ih (k-(i+1)) (by lia) (i+1)
    have h2:=ih (i+l+1-(k+1)) (by lia) (k+1)
    have h3:=pW (k-(i+1)+1) (i+l+1-(k+1)+1);rw[show k-(i+1)+1+(i+l+1-(k+1)+1)=l+1 by lia]at h3
    exact Vm (Xs h1 h2) h3
  ·show _<=(l+2)*mC (l+1);exact Xs (Vm (sP hp nd) (by lia)) (UU _)
theorem zc {ps:List (Nat×Nat)}(hp:∀p∈ps,p.1<p.2)(nd:ps.Nodup){l i:Nat}(h:l<=19):((sa ps l i:Nat):Int)<2 ^ 64:=by
 have h1:=qP hp nd l i;have h2:=fm (show l+1<=20 by lia)
 have h3:mC 20<2 ^ 64:=by decide
 lia
abbrev sT (ps:List (Nat×Nat)):Nat->Nat->Int:=λl i=>((sa ps l i:Nat):Int)
def l8:FD:=λds R=>∃(n:Nat) (ps:List (Nat×Nat)) (L:Nat->Nat) (i j:Nat) (c:Option Nat),ds=[jx n L (sT ps),.lst ((parts i c j).map kL)]/\c∈fZ ps i j/\kB n ps/\n<=40/\i<j/\j<=n/\(∀a,i<a->a<=n->n+1-a<=L a)/\R (.int (i5 ps i j c:Nat))
theorem l8.mono:cD l8:=λds R R' k h=>by obtain⟨n,ps,L,i,j,c,e,h1,h2,h3,h4,h5,h6,q⟩:=h;exact⟨n,ps,L,i,j,c,e,h1,h2,h3,h4,h5,h6,k _ q⟩
def si:FD:=λds R=>∃(n:Nat) (ps:List (Nat×Nat)) (L:Nat->Nat) (i j:Nat),ds=[jx n L (sT ps),.lst ((fZ ps i j).map oD),.int i,.int j]/\kB n ps/\n<=40/\i<j/\j<=n/\(∀a,i<a->a<=n->n+1-a<=L a)/\R (.int (sT ps (j-i) i))
theorem si.mono:cD si:=λds R R' k h=>by obtain⟨n,ps,L,i,j,e,h2,h3,h4,h5,h6,q⟩:=h;exact⟨n,ps,L,i,j,e,h2,h3,h4,h5,h6,k _ q⟩
theorem tN {ps:List (Nat×Nat)}{l:List (Nat×Nat)}{m:Nat}{p:Nat×Nat}(h:l[m]?=some p):(l.take (m+1)).foldl (λa p=>a*sa ps (p.2-p.1) p.1) 1=(l.take m).foldl (λa p=>a*sa ps (p.2-p.1) p.1) 1*sa ps (p.2-p.1) p.1:=by
 rw[V7,h,List.foldl_append];rfl
def dv:FD:=λds R=>∃(n:Nat) (ps:List (Nat×Nat)),ds=[jv n ps]/\kB n ps/\n<=40/\R (v_ n (sT ps))
theorem dv.mono:cD dv:=λds R R' k h=>by obtain⟨n,ps,e,h2,h3,q⟩:=h;exact⟨n,ps,e,h2,h3,k _ q⟩
theorem all_map {ps:List (Nat×Nat)}{i j:Nat}:((ny ps i).filter λk=>decide (k<j)).map (λk:Nat=>D.int (k:Int))++[D.bH]=(fZ ps i j).map oD:=by
 unfold fZ;rw[Vx,V2];rfl
def eS (n:Nat):Nat->List (Nat×Nat)->Prop
 |_,[]=>True
 |lo,p::ws=>lo<=p.1/\p.1<=p.2/\p.2<=n/\eS n (p.2+1) ws
theorem eS.lo {n:Nat}:∀{ws:List (Nat×Nat)} {a b:Nat},eS n a ws->b<=a->eS n b ws
 |[],_,_,_,_=>trivial
 |_::_,_,_,h,hb=>⟨Vm hb h.1,h.2⟩
theorem eS.mem {n:Nat}:∀{ws:List (Nat×Nat)} {a:Nat},eS n a ws->∀p∈ws,a<=p.1/\p.1<=p.2/\p.2<=n
 |[],_,_,_,h=>nomatch h
 |q::ws,a,h,p,hp=>by
  rcases U0.mp hp with rfl|hp
  ·exact⟨h.1,h.2.1,h.2.2.1⟩
  ·have:=eS.mem h.2.2.2 p hp;have:=h.1;have:=h.2.1;lia
abbrev fW (ps:List (Nat×Nat)):Nat->Nat×Nat->Nat:=λa p=>a*sa ps (p.2-p.1) p.1
abbrev aG (ps ws:List (Nat×Nat)):Nat:=ws.foldl (fW ps) 1
theorem DC (n:Nat):1<=mC n:=by
 induction n with
 |zero=>exact UU _
 |succ n ih=>exact Vm ih (Nat.le_mul_of_pos_left _ (by lia))
theorem qX {ps:List (Nat×Nat)}(hp:∀p∈ps,p.1<p.2)(nd:ps.Nodup){n:Nat}{p:Nat×Nat}:∀{ws:List (Nat×Nat)} {lo m acc:Nat},eS n lo ws->ws[m]?=some p->(ws.take m).foldl (fW ps) acc<=acc*mC (p.1-lo)
 |[],_,_,_,_,e=>nomatch e
 |q::ws,lo,0,acc,h,e=>by
  show acc<=_;exact Nat.le_mul_of_pos_right _ (DC _)
 |q::ws,lo,m+1,acc,h,e=>by
  have k:=qX hp nd (m:=m) (acc:=fW ps acc q) h.2.2.2 e;have k1:=(eS.mem h.2.2.2 p (Vv (i:=m) e)).1;have k2:=h.2.1;have k3:=h.1;refine Vm k ?_;have s1:=qP hp nd (q.2-q.1) q.1;have s2:=pW (q.2-q.1+1) (p.1-(q.2+1));have s3:=fm (show q.2-q.1+1+(p.1-(q.2+1))<=p.1-lo by lia)
  show acc*sa ps (q.2-q.1) q.1*_<=_;rw[Nat.mul_assoc];exact Xs (UU _) (Vm (Vm (Xs s1 (UU _)) s2) s3)
theorem BN {ps:List (Nat×Nat)}(hp:∀p∈ps,p.1<p.2)(nd:ps.Nodup){n m:Nat}{p:Nat×Nat}{ws:List (Nat×Nat)}(hn:n<=40)(h:eS n 0 ws)(e:ws[m]?=some p):
  mz ((aG ps (ws.take m):Nat):Int) ((sa ps (p.2-p.1) p.1:Nat):Int):=by
 have a:aG ps (ws.take m)<=1*mC (p.1-0):=qX hp nd (acc:=1) h e;have b:=h.mem p (Vv e);rcases Xb 20 p.1 with q|q
 ·exact .inr ⟨by lia,zc hp nd (by lia)⟩
 ·refine .inl ⟨by lia,?_⟩
  have h2:=fm (show p.1-0<=20 by lia)
  have h3:mC 20<2 ^ 64:=by decide
  rw[Xp]at a;lia
theorem IQ {ps ws:List (Nat×Nat)}{m:Nat}{p:Nat×Nat}(h:ws[m]?=some p):aG ps (ws.take (m+1))=aG ps (ws.take m)*sa ps (p.2-p.1) p.1:=tN h
def ic:FD:=λds R=>∃(n:Nat) (ps:List (Nat×Nat)) (L:Nat->Nat) (ws:List (Nat×Nat)),ds=[jx n L (sT ps),.lst (ws.map kL)]/\kB n ps/\n<=40/\eS n 0 ws/\(∀p∈ws,n+1-p.1<=L p.1)/\R (.int (aG ps ws:Nat))
theorem ic.mono:cD ic:=λds R R' k h=>by obtain⟨n,ps,L,ws,e,h1,h2,h3,h4,q⟩:=h;exact⟨n,ps,L,ws,e,h1,h2,h3,h4,k _ q⟩
theorem l8.toW {ds:List D}{R:D->Prop}(h:l8 ds R):ic ds R:=by
 obtain⟨n,ps,L,i,j,c,rfl,hc,ok,hn,h1,h2,h3,q⟩:=h;have hp:∀p∈ps,p.1<p.2:=λp hp=>(ok.lt p hp).1;have o:=lN hc;refine⟨n,ps,L,parts i c j,rfl,ok,hn,?_,λp h=>?_,q⟩
 ·cases c with
  |none=>exact⟨Ve _,h1,h2,trivial⟩
  |some k =>
   have:=hp _ o.1;dsimp only at this;exact⟨Ve _,this,by show k<=n;lia,UU _,o.2.1,h2,trivial⟩
 ·obtain⟨l,rfl⟩:∃l,j=i+l+1:=⟨j-i-1,by lia⟩
  have:=lJ hp hc h;exact h3 p.1 this.1 (by lia)
def wb:List (Nat×Nat)->Nat×Nat->Option (List (Nat×Nat))
 |[],_=>none
 |v::ws,p=>if v.1<=p.1/\p.2<v.2 then some ((p.1+1,p.2)::(p.2+1,v.2)::ws) else wb ws p
def Ig (ws:List (Nat×Nat))(p:Nat×Nat):Prop:=∃v∈ws,v.1<=p.1/\p.2<v.2
theorem u4 {p:Nat×Nat}:∀{ws:List (Nat×Nat)},Ig ws p->∃l,wb ws p=some l
 |[],⟨_,h,_⟩=>nomatch h
 |v::ws,⟨u,h,k⟩=>by
  show ∃l,(if v.1<=p.1/\p.2<v.2 then some _ else wb ws p)=some l
  by_cases c:v.1<=p.1/\p.2<v.2
  ·exact⟨_,if_pos c⟩
  ·rw[if_neg c];rcases U0.mp h with rfl|h
   ·exact absurd k c
   ·exact u4 ⟨u,h,k⟩
theorem f7 {n:Nat}{p:Nat×Nat}(hp:p.1<p.2):∀{ws l:List (Nat×Nat)} {lo:Nat},eS n lo ws->wb ws p=some l->eS n lo l
 |[],_,_,_,e=>nomatch e
 |v::ws,l,lo,h,e=>by
  change (if v.1<=p.1/\p.2<v.2 then some _ else wb ws p)=some l at e
  by_cases c:v.1<=p.1/\p.2<v.2
  ·rw[if_pos c]at e;cases e;have:=h.1;have:=h.2.2.1;exact⟨by show lo<=p.1+1;lia,hp,by show p.2<=n;lia,UU _,c.2,h.2.2.1,h.2.2.2⟩
  ·rw[if_neg c]at e;have:=h.1;have:=h.2.1;exact(f7 hp h.2.2.2 e).lo (by lia)
def Ij (s t:Nat×Nat):Prop:=t.2<s.2\/s.2<t.1
theorem u5 {n:Nat}{s t:Nat×Nat}(hs:s.1<s.2)(ht:t.1<t.2)(hl:s.1<t.1)(ha:Ij s t):∀{ws l:List (Nat×Nat)} {lo:Nat},eS n lo ws->Ig ws t->wb ws s=some l->Ig l t
 |[],_,_,_,_,e=>nomatch e
 |v::ws,l,lo,h,⟨u,hu,k⟩,e=>by
  change (if v.1<=s.1/\s.2<v.2 then some _ else wb ws s)=some l at e
  by_cases c:v.1<=s.1/\s.2<v.2
  ·rw[if_pos c]at e;cases e;rcases U0.mp hu with rfl|hu
   ·rcases ha with a|a
    ·exact⟨_,U9,hl,a⟩
    ·exact⟨_,U6 _ U9,a,k.2⟩
   ·exact⟨u,U6 _ (U6 _ hu),k⟩
  ·rw[if_neg c]at e;rcases U0.mp hu with rfl|hu
   ·-- t lies in the first,s beyond it
    exfalso
    have:Ig ws s:=by
     revert e
     clear h k hu
     induction ws with
     |nil=>exact λe=>nomatch e
     |cons v ws ih =>
      intro e
      change (if v.1<=s.1/\s.2<v.2 then some _ else wb ws s)=some l at e
      by_cases c:v.1<=s.1/\s.2<v.2
      ·exact⟨v,U9,c⟩
      ·rw[if_neg c]at e;obtain⟨x,hx,kx⟩:=ih e;exact⟨x,U6 _ hx,kx⟩
    obtain⟨x,hx,kx⟩:=this;have:=h.2.2.2.mem x hx;lia
   ·exact u5 hs ht hl ha h.2.2.2 ⟨u,hu,k⟩ e
def wa:List (Nat×Nat)->List (Nat×Nat)->Option (List (Nat×Nat))
 |ws,[]=>some ws
 |ws,p::ts=>(wb ws p).bind λl=>wa l ts
def wL (ts:List (Nat×Nat)):Prop:=ts.Pairwise λs t=>s.1<t.1/\Ij s t
theorem u6 {n:Nat}:∀{ts ws:List (Nat×Nat)},eS n 0 ws->(∀t∈ts,t.1<t.2/\Ig ws t)->wL ts->∃l,wa ws ts=some l/\eS n 0 l
 |[],ws,h,_,_=>⟨ws,rfl,h⟩
 |t::ts,ws,h,hi,g=>by
  obtain⟨l,e⟩:=u4 (hi t U9).2;have g':=VH.mp g;obtain⟨l',e',k⟩:=u6 (f7 (hi t U9).1 h e) (λu hu=>⟨(hi u (U6 _ hu)).1,u5 (hi t U9).1 (hi u (U6 _ hu)).1 (g'.1 u hu).1 (g'.1 u hu).2 h (hi u (U6 _ hu)).2 e⟩) g'.2;exact⟨l',by show (wb ws t).bind _=_;rw[e];exact e',k⟩
theorem eS.len {n:Nat}:∀{ws:List (Nat×Nat)} {a:Nat},eS n a ws->ws.length+min a (n+1)<=n+1
 |[],a,_=>by rw[Wc];lia
 |q::ws,a,h=>by
  have:=eS.len h.2.2.2;have:=h.1;have:=h.2.1;have:=h.2.2.1;rw[U_];lia
theorem eS.rO {n:Nat}{ws:List (Nat×Nat)}(h:eS n 0 ws)(hn:n<=40):ws.length<=41:=by
 have:=h.len;lia
def Qw:Option (List (Nat×Nat))->D
 |none=>.bH
 |some l=>.lst (l.map kL)
theorem yh {ws:List (Nat×Nat)}{k:Nat}:cutD (ws.map kL) (some (k:Int)) none=(ws.drop k).map kL:=by
 unfold cutD;rw[HT.lz,HT.pf,List.map_drop]
 by_cases h:k<=(ws.map kL).length
 ·rw[Nat.min_eq_left h,Wk (by rw[X8];lia)]
 ·rw[Nat.min_eq_right (by lia),WQ (UU _),List.take_nil,WQ (by lia)]
theorem gF:∀l:List (Nat×Nat),D.cK (l.map kL)=true
 |[]=>rfl
 |p::l=>by show (_&&D.cK (l.map kL))=true;rw[gF l];rfl
def yC:FD:=λds R=>∃(ws:List (Nat×Nat)) (p:Nat×Nat),ds=[.lst (ws.map kL),kL p]/\ws.length<=1000/\R (Qw (wb ws p))
theorem yC.mono:cD yC:=λds R R' k ⟨ws,p,e,h,q⟩=>⟨ws,p,e,h,k _ q⟩
theorem BO {p:Nat×Nat}:∀{ws:List (Nat×Nat)} {m:Nat} {v:Nat×Nat},ws[m]?=some v->wb (ws.drop m) p=if v.1<=p.1/\p.2<v.2 then some ((p.1+1,p.2)::(p.2+1,v.2)::ws.drop (m+1)) else wb (ws.drop (m+1)) p:=by
 intro ws m v e;obtain⟨h,rfl⟩:=UY.mp e;rw[VN h];rfl
def fo (ps ns:List (Nat×Nat)):Prop:=(∀p∈ns,p∈ps)/\wL ns
theorem Rh {s t:Nat×Nat}(hs:s.1<s.2)(ht:t.1<t.2)(l:HT.lexLt (tI s) (tI t)=true)(a:Apart (tI s) (tI t)):s.1<t.1/\Ij s t:=by
 obtain⟨s1,s2⟩:=s;obtain⟨t1,t2⟩:=t;dsimp only at hs ht;have sh:∀x:Int,x∈tI (s1,s2)->x∈tI (t1,t2)->False:=λx h1 h2=>by
  have:=dC.mpr ⟨x,h1,h2⟩;rw[a.1]at this;cases this
 have e1:s1≠t1:=λe=>sh s1 (by simp[tI]) (by simp[tI,e])
 have e2:s2≠t1:=λe=>sh s2 (by simp[tI]) (by simp[tI,e])
 have e3:s2≠t2:=λe=>sh s2 (by simp[tI]) (by simp[tI,e])
 have l1:s1<t1:=by
  change HT.lexLt ((s1:Int)::[(s2:Int)]) ((t1:Int)::[(t2:Int)])=true at l
  rw[HT.bY,if_neg (by lia)]at l
  have:=of_decide_eq_true l;lia
 refine⟨l1,?_⟩;have c:=a.2;have c':¬ (((s1:Nat):Int)<t1/\((t1:Nat):Int)<s2/\((s2:Nat):Int)<t2):=λz=>by
  have:jW (s1:Int) s2 t1 t2=true:=mw.mpr (.inl z);have c:jW (s1:Int) s2 t1 t2=false:=c;rw[this]at c;cases c
 show t2<s2\/s2<t1;lia
theorem jg {n:Nat}{ps:List (Nat×Nat)}(ok:kB n ps):∀{ts:List (List Int)},Good (ps.map tI) ts->∃ns,ts=ns.map tI/\fo ps ns
 |[],_=>⟨[],rfl,λ_ z=>(nomatch z),YM⟩
 |t::ts,⟨h1,h2,h3⟩=>by
  obtain⟨p,hp,rfl⟩:=VA.mp (h1 t U9);rw[VH]at h2 h3;obtain⟨ns,rfl,k1,k2⟩:=jg ok (ts:=ts) ⟨λu hu=>h1 u (U6 _ hu),h2.2,h3.2⟩;refine⟨p::ns,rfl,λq hq=>?_,VH.mpr ⟨λq hq=>?_,k2⟩⟩
  ·rcases U0.mp hq with rfl|hq
   ·exact hp
   ·exact k1 q hq
  ·exact Rh (ok.lt p hp).1 (ok.lt q (k1 q hq)).1 (h2.1 _ (XN hq)) (h3.1 _ (XN hq))
theorem fo.Ss {n:Nat}{ps ns:List (Nat×Nat)}(ok:kB n ps)(h:fo ps ns):∀t∈ns,t.1<t.2/\Ig [(0,n)] t:=λt ht=>⟨(ok.lt t (h.1 t ht)).1,(0,n),U9,Ve _,(ok.lt t (h.1 t ht)).2⟩
theorem ft {n:Nat}:eS n 0 [(0,n)]:=⟨UU _,Ve _,UU _,trivial⟩
theorem fo.wa {n:Nat}{ps ns:List (Nat×Nat)}(ok:kB n ps)(h:fo ps ns):∃l,wa [(0,n)] ns=some l/\eS n 0 l:=u6 ft (h.Ss ok) h.2
theorem fo.sub {ps ns ms:List (Nat×Nat)}(h:fo ps ns)(s:ms.Sublist ns):fo ps ms:=⟨λp hp=>h.1 p (s.subset hp),h.2.sublist s⟩
theorem kZ:∀{a b ws:List (Nat×Nat)},wa ws (a++b)=(wa ws a).bind λl=>wa l b
 |[],b,ws=>rfl
 |p::a,b,ws=>by
  show (wb ws p).bind (λl=>wa l (a++b))=((wb ws p).bind λl=>wa l a).bind _;cases wb ws p with
  |none=>rfl
  |some l=>exact kZ
def iG (ps ws:List (Nat×Nat)):List (Nat×Nat):=ps.filter λp=>(wb ws p).isSome
def qK (ps ws:List (Nat×Nat))(t:Nat×Nat):Nat:=1+(((iG ps ws).filter λo=>HT.lexLt (tI o) (tI t)).map λo=>aG ps ((wb ws o).getD [])).sum
def eV (ps:List (Nat×Nat)):List (Nat×Nat)->List (Nat×Nat)->Nat
 |_,[]=>0
 |ws,t::ts=>qK ps ws t+eV ps ((wb ws t).getD []) ts
def jC (ps:List (Nat×Nat))(u:List (Nat×Nat)×List (Nat×Nat)×Int)(p:Nat×Nat):List (Nat×Nat)×List (Nat×Nat)×Int:=match wb u.1 p with
 |none=>u
 |some l=>if 0<u.2.2 then (if u.2.2<=((aG ps l:Nat):Int) then (l,u.2.1++[p],u.2.2-1) else (u.1,u.2.1,u.2.2-((aG ps l:Nat):Int))) else u
def sat (ps:List (Nat×Nat))(n:Nat)(k:Int):List (Nat×Nat):=(ps.foldl (jC ps) ([(0,n)],[],k)).2.1
def ue (ps:List (Nat×Nat))(n:Nat):List (Nat×Nat)->List (Nat×Nat)->Option (List (Nat×Nat))
 |r,p::_=>some (r.reverse++[p])
 |[],[]=>none
 |z::r,[]=>ue ps n r ((iG ps ((wa [(0,n)] r.reverse).getD [])).filter λo=>HT.lexLt (tI z) (tI o))
def CT (ps:List (Nat×Nat))(n:Nat)(ns:List (Nat×Nat)):Option (List (Nat×Nat)):=ue ps n ns.reverse (iG ps ((wa [(0,n)] ns).getD []))
def EN:FD:=λds R=>∃(n:Nat) (ps ns:List (Nat×Nat)),ds=[jv n ps,b3 ns]/\kB n ps/\n<=40/\fo ps ns/\R (.lst (((wa [(0,n)] ns).getD []).map kL))
theorem EN.mono:cD EN:=λds R R' k ⟨n,ps,ns,e,h1,h2,h3,q⟩=>⟨n,ps,ns,e,h1,h2,h3,k _ q⟩
def EO:FD:=λds R=>∃(n:Nat) (ps ws:List (Nat×Nat)),ds=[jv n ps,.lst (ws.map kL)]/\kB n ps/\ws.length<=1000/\R (b3 (iG ps ws))
theorem EO.mono:cD EO:=λds R R' k ⟨n,ps,ws,e,h1,h2,q⟩=>⟨n,ps,ws,e,h1,h2,k _ q⟩
end L2.Q
namespace iH
open PySem L2 L2.Q
section
variable {P:UX}{w:Vb}{K:PySem.W.Frag}{mg:Str->Option UR}{base:Heap}
theorem dG:aC ["counts","parts","ways","low","high"] ["counts","parts"] (ak gQ):=⟨rfl,rfl,rfl,by decide +kernel,rfl,by decide +kernel,by decide +kernel⟩
theorem kR {fR cL} (g7:D5 K mg fR cL):aD P w K mg base bw 1 fR cL ["counts","parts"] (bZ P w true ic):=by
 refine j_ g7.F dG (λds R K0=> by obtain⟨n,ps,L,ws,e,_⟩ := K0;subst e;rfl) λcC A outer s H E hr=>⟨_,(ag (aP (i:=2) ah dG.nd)
    (ag (cb VE rfl (a9 (ab (i:=1))) (dq (n:=2) rfl (aS (ao (i:=3) dG.nd) (aS (ao (i:=4) dG.nd) cI))) (aj (aP (i:=2) (a3 af (bR.m vD) (ab (i:=2)) (aK af bf (aK af bf (ab (i:=0)) (ab (i:=3))) (a3 af (bR.m du) (ab (i:=4)) (ab (i:=3))))) dG.nd)))
    (aj (aJ (ab (i:=2)))))),λds R h=>?_⟩
 obtain⟨n,ps,L,ws,rfl,ok,hn,hw,h3,q⟩:=h;have hp:∀p∈ps,p.1<p.2:=λp hp=>(ok.lt p hp).1;refine⟨_,rfl,_,rfl,trivial,?_⟩;refine⟨λm β=>∃x3 x4,β=[some (.val false (jx n L (sT ps))),some (.val false (.lst (ws.map kL))),some (.val true (.int ((aG ps (ws.take m):Nat):Int))),x3,x4],⟨_,_,rfl⟩,?_,?_⟩
 ·rintro m d β hd ⟨x3,x4,rfl⟩;rw[Vd]at hd;obtain⟨p,Iu,rfl⟩:=Vj.mp hd;have b:=hw.mem p (Vv Iu);have hl:=h3 p (Vv Iu);refine⟨_,rfl,rfl,_,_,rfl,_,_,rfl,rfl,?_⟩;refine⟨_,rfl,trivial,_,rfl,trivial,_,rfl,_,EA rfl (by lia),.inr ⟨trivial,_,rfl,trivial,_,rfl,_,rfl,_,EB (l:=p.2-p.1) (by lia) (by lia),_,HM (BN hp ok.nd (by lia) hw Iu),_,_,by rw[IQ Iu,Int.natCast_mul];rfl⟩⟩
 ·rintro β ⟨x3,x4,rfl⟩;rw[US,WJ];exact⟨_,rfl,trivial,q⟩
theorem Gi {fR cL} (g7:D5 K mg fR cL):aD P w K mg base bw 1 fR cL ["counts","parts"] (bZ P w true l8):=(kR g7).imp λvs H Q E ⟨ds,r,h⟩=>⟨ds,r,h.toW⟩
theorem tV:aC ["counts","choices","i","j"] ["counts","choices","i","j"] (ak gR):=⟨rfl,rfl,rfl,by decide +kernel,rfl,by decide +kernel,by decide +kernel⟩
theorem Gj {jj eI} (qi:D6 K mg jj eI) {fR cL} (g7:D5 K mg fR cL) {hG df} (oh:D4 K mg hG df) (B:u3 mg):aD P w K mg base bw 2 jj eI ["counts","choices","i","j"] (bZ P w true si):=by
 have Ih:aD P w K mg base bw 1 _ _ _ (bZ P w true l8):= Gi g7;have T6:aD P w K mg base bw 1 _ _ _ (bZ P w true me):= zX oh;refine j_ qi.F tV (λds R KZ=> by obtain⟨n,ps,L,i,j,e,_⟩ := KZ;subst e;rfl) λcC A outer s H E hr=>⟨_,(aj (aJ (bb af (bW.m (oC rfl)) B.sum Bp (aa (Eu ["k","counts","i","j"] [none,some 0,some 2,some 3] (by rfl) (by decide:(["k","counts","i","j"]:List Str).Nodup) rfl (a9 (ab (i:=1))) (λ_ _ _ _ _ _=>(ao (i:=0) (by decide:(["k","counts","i","j"]:List Str).Nodup))) (λ_ _ _ _ _ _=>ij) (λ_ _ _ _ _ _=>(az l8.mono Ih (hr.mono (by decide)) g7.m g7.F.kp g7.b (aa (ab (i:=1)) (aa (az me.mono T6 (hr.mono (by decide)) oh.m oh.F.kp oh.b (aa (ab (i:=2)) (aa (ab (i:=0)) (aa (ab (i:=3)) ae)))) ae))))) ae)))),λds R h=>?_⟩
 obtain⟨n,ps,L,i,j,rfl,ok,hn,h1,h2,h3,q⟩:=h;have hp:∀p∈ps,p.1<p.2:=λp hp=>(ok.lt p hp).1;have bl:(fZ ps i j).length<=41:=by
  obtain⟨l,rfl⟩:∃l,j=i+l+1:=⟨j-i-1,by lia⟩
  exact Vm (sP hp ok.nd) (by lia)
 refine⟨_,rfl,_,rfl,trivial,?_⟩;refine dZ (λ_=>true) (λc=>.int ((i5 ps i j c:Nat):Int)) trivial (eT (by lia)) (λc hc x0 o J ho j1 _=>?_) ?_
 ·cases c with
  |none=>exact⟨_,rfl,trivial,_,rfl,trivial,_,rfl,trivial,_,rfl,trivial,i,none,j,rfl,trivial,n,ps,L,i,j,none,rfl,hc,ok,hn,h1,h2,h3,trivial,ho,j1 rfl _⟩
  |some k=>exact⟨_,rfl,trivial,_,rfl,trivial,_,rfl,trivial,_,rfl,trivial,i,some k,j,rfl,trivial,n,ps,L,i,j,some k,rfl,hc,ok,hn,h1,h2,h3,trivial,ho,j1 rfl _⟩
 ·rw[eG];refine⟨trivial,_,sum_ints,trivial,?_⟩;obtain⟨l,rfl⟩:∃l,j=i+l+1:=⟨j-i-1,by lia⟩
  have e:((fZ ps i (i+l+1)).map λc=>((i5 ps i (i+l+1) c:Nat):Int)).sum=sT ps (i+l+1-i) i:=by
   rw[lb,show i+l+1-i=l+1 by lia]
   show _=((sa ps (l+1) i:Nat):Int);rw[o_ hp];rfl
  rw[e];exact q
theorem bI:aC ["row","many","partners","counts","i","j","choices"] ["row"] (ak eh):=⟨rfl,rfl,rfl,by decide +kernel,rfl,by decide +kernel,by decide +kernel⟩
theorem jK {kz gb} (mG:D7 K mg kz gb) {jl eK} (qk:D3 K mg jl eK) {jk eJ} (qj:D2 K mg jk eJ) {jj eI} (qi:D6 K mg jj eI) {fR cL} (g7:D5 K mg fR cL) {hG df} (oh:D4 K mg hG df) (B:u3 mg):aD P w K mg base bw 3 kz gb ["row"] (bZ P w true dv):=by
 have T5:aD P w K mg base bw 1 _ _ _ (bZ P w true sv):= CM qk B;have P7:aD P w K mg base bw 1 _ _ _ (bZ P w true A6):= CJ qj B;have T1:aD P w K mg base bw 2 _ _ _ (bZ P w true si):= Gj qi g7 oh B;refine j_ mG.F bI (λds R KY=> by obtain⟨n,ps,e,_⟩ := KY;subst e;rfl) λcC A outer s H E hr=>⟨_,(ag (aP (i:=1) (aK af bf (ab (i:=0)) ah) bI.nd)
    (ag (aP (i:=2) (az sv.mono T5 (hr.mono (by decide)) qk.m qk.F.kp qk.b (aa (ab (i:=0)) ae)) bI.nd)
    (ag (zd (i:=3) true ["i"] [none] (by rfl) (by decide:(["i"]:List Str).Nodup) rfl (λ_=>(bx B.range (aa (a3 aU aL (ab (i:=1)) ah) ae))) (λ_ _ _ _ _ _=>(ao (i:=0) (by decide:(["i"]:List Str).Nodup))) (λ_ _ _ _ _ _=>ij) (λ_ _ _ _ _ _=>(a6 (aa ah ae))) bI.nd)
    (ag (cb VE rfl (a9 (az A6.mono P7 (hr.mono (by decide)) qj.m qj.F.kp qj.b (aa (ab (i:=1)) ae))) (dq (n:=2) rfl (aS (ao (i:=4) bI.nd) (aS (ao (i:=5) bI.nd) cI))) (ag (aP (i:=6) (a3 aU aL (Eu ["k","j"] [none,some 5] (by rfl) (by decide:(["k","j"]:List Str).Nodup) rfl (a9 (aK af bf (ab (i:=2)) (ab (i:=4)))) (λ_ _ _ _ _ _=>(ao (i:=0) (by decide:(["k","j"]:List Str).Nodup))) (λ_ _ _ _ _ _=>(fw (aI af (bR.m bX) (ab (i:=0)) (ab (i:=1))))) (λ_ _ _ _ _ _=>(ab (i:=0)))) (a6 (aa cH ae))) bI.nd)
    (aj (j9 (i:=3) true (λ_=>(az si.mono T1 (hr.mono (by decide)) qi.m qi.F.kp qi.b (aa (ab (i:=3)) (aa (ab (i:=6)) (aa (ab (i:=4)) (aa (ab (i:=5)) ae)))))) (λ_=>(ab (i:=4)))))))
    (aj (pG (i:=3))))))),λds R h=>?_⟩
 obtain⟨n,ps,rfl,ok,OL,q⟩:=h;have hn:=ok.le;have hp:∀p∈ps,p.1<p.2:=λp hp=>(ok.lt p hp).1;refine⟨_,rfl,trivial,_,rfl,_,rfl,trivial,n,ps,rfl,ok,_,rfl,trivial,_,rfl,trivial,(n:Int)+1,rfl,by lia,by lia,trivial,?_⟩
 rw[show ((n:Int)+1).toNat=n+1 by lia]
 refine dZ (λ_=>true) (λ_=>.lst [.int 1]) trivial (by rw[V1];exact eT (by lia)) (λx hx x0 o J ho h1 _=>⟨trivial,tj,trivial,ho,h1 rfl _⟩) ?_
 rw[eG];refine⟨_,rfl,trivial,n,rfl,hn,_,rfl,trivial,?_⟩;refine⟨λidx β=>∃L x4 x5 x6,β=[some (.val false (jv n ps)),some (.val true (.int n)),some (.val true (Mv n ps)),some (.own (jx n L (sT ps))),x4,x5,x6]/\wM n idx L,⟨λ_=>1,_,_,_,rfl,sF⟩,?_,?_⟩
 ·rintro idx d β hd ⟨L,x4,x5,x6,rfl,dn⟩;rw[Vd]at hd;obtain⟨p,Iw,rfl⟩:=Vj.mp hd;obtain⟨a,b,ha,hb,rfl,hL,lZ⟩:=uL dn Iw;have eL:jx n L (sT ps)=jx n (fM n a b) (sT ps):=nh hL;have e0:fM n a b (n-1-a)=b+1:=by unfold fM;rw[if_neg (by lia),if_pos rfl]
  rw[eL];refine⟨_,rfl,rfl,_,_,rfl,_,_,rfl,rfl,?_⟩;have hpl:(ny ps (n-1-a)).length<=400:=by unfold ny;rw[US];exact Vm (Wg _ _) ok.sm
  refine⟨_,rfl,trivial,_,rfl,_,N7 rfl (by lia),.inr ⟨_,rfl,trivial,?_⟩⟩
  refine dZ (λk:Nat=>decide (k<n-a+b)) (λk=>.int (k:Int)) trivial (eT (Vm hpl (by decide))) (λk hk y0 o J ho j1 j2=>?_) ?_
  ·refine⟨_,rfl,trivial,_,rfl,_,rfl,_,rfl,?_⟩
   by_cases QV:(k:Int)<((n-a+b:Nat):Int)
   ·exact iu (decide_eq_true QV) ⟨_,rfl,trivial,ho,j1 (decide_eq_true (by lia)) _⟩
   ·exact d4 (decide_eq_false QV) (j2 (decide_eq_false (by lia)) _)
  have ea:uS (.lst (((ny ps (n-1-a)).filter λk=>decide (k<n-a+b)).map λk:Nat=>D.int (k:Int))) (.lst [.bH])=some (.lst ((fZ ps (n-1-a) (n-a+b)).map oD)):=by
   rw[<- all_map];exact gJ (by rw[US];have:=Wg (λk=>decide (k<n-a+b)) (ny ps (n-1-a));show _+1<=_;lia)
  refine⟨trivial,trivial,tj,_,ea,.inr ?_⟩;refine⟨⟨_,rfl⟩,_,rfl,_,_,_,_,rfl,rfl,by rw[US,V1];exact J1 rfl (show n-1-a<n+1 by lia),eD (show n-1-a<n+1 by lia),?_⟩
  refine⟨_,rfl,trivial,_,rfl,trivial,_,rfl,trivial,_,rfl,trivial,n,ps,fM n a b,n-1-a,n-a+b,rfl,ok,OL,by lia,by lia,λa' h1 h2=>by unfold fM;rw[if_pos h1];exact UU _,trivial,rfl,?_,?_⟩
  ·rw[e0];unfold qE;rw[US,V1];exact ve (by lia)
  ·refine⟨fM n a (b+1),some (.val true (.int ((n-1-a:Nat):Int))),some (.val true (.int ((n-a+b:Nat):Int))),some (.val true (.lst ((fZ ps (n-1-a) (n-a+b)).map oD))),?_,.inr ⟨a,b+1,ha,by lia,λ_ _=>rfl,lZ⟩⟩
   rw[show n-a+b-(n-1-a)=b+1 by lia,e0,B8 ha hb]
   rfl
 ·rintro β ⟨L,x4,x5,x6,rfl,dn⟩;rw[US]at dn;have e:jx n L (sT ps)=v_ n (sT ps):=nh (yd dn);rw[e];exact⟨_,rfl,q⟩
end
end iH
namespace L2.Q
open PySem PySem.Spec PySem.SeqAt PyProof.Rows
def nG (τ:ba)(T:Nat)(ds:List D)(β0:a_)(K:List D->Prop):Prop:=∃I:Nat->a_->List D->Prop,I 0 β0 [] /\
 (∀i d β o,ds[i]?=some d->I i β o->τ (β.set T (some (.val false d))) λt β2=>if t=true then o.length<U4/\I (i+1) β2 (o++[d]) else I (i+1) β2 o)/\∀β o,I ds.length β o->fe β0 β/\K o
theorem nG.mono {τ:ba}{T:Nat}{ds:List D}{β0:a_}{K K':List D->Prop}(h:∀o,K o->K' o)(q:nG τ T ds β0 K):nG τ T ds β0 K':=let ⟨I,h0,h1,h2⟩:=q;⟨I,h0,h1,λβ o z=>⟨(h2 β o z).1,h _ (h2 β o z).2⟩⟩
section
variable {X:Cx}{C:Cfg}{lk:List (Option Nat)}{τ:ba}{T:Nat}
theorem uH {σ:St}{H1:Hp}{β:a_}{own:Nat->List Addr}{a:Addr}{J:It}{ds:List D}{K:List D->Prop}{End:Hp->Prop}
  (τm:∀β R R',(∀d β,R d β->R' d β)->τ β R->τ β R')
  (inj:∀(i i' j:Nat),lk[i]?=some (some j)->lk[i']?=some (some j)->i=i') (hT:∀j,lk[T]?≠some (some j)) (Tq:T<lk.length)
  (s1:SQ X C σ H1 β own) (ha:H1 a=none) (it:wK X (av C (Wn own) .old) J ds H1) (q:nG τ T ds (cM lk β) K)
  (fin:∀o H',K o->Out X C σ H1 own true β H' own->KV X.prog X.w C (H1,Wn own) own H' .old (.lst o) (.ref a)->End H') :
  f9 J (v9 T) (j0 X (C.u λc=>c=a) true τ) (λN σ H=>(∃v,σ[T]?=some (some v)/\∃xs,H a=some (.lst xs)/\xs.length<U4/\N σ (upd H a (.lst (xs++[v])))))
   (λ_ H'=>End H') (c_ lk σ) (upd H1 a (.lst [])):=by
 obtain⟨I,i0,i1,i2⟩:=q;have h0:C.H0 a=none:=VB λz=>s1.hJ a z ha;have sm:au H1 (upd H1 a (.lst [])):=au.new ha;have Sd:¬ av C (Wn own) .old a:=λz=>s1.uM a z ha;let W:Addr->Prop:=λb=>av C (Wn own) .old b\/H1 b=none
 let S:Nat->St->Hp->Prop:=λi σ' H'=>∃βi eO vs o,SQ X (C.u λc=>c=a) σ' H' βi eO/\(∀c,Wn eO c->Wn (bo lk β own) c)/\H' a=some (.lst vs)/\ai X.prog X.w W H' o vs /\
  au H1 H'/\σ'.length=lk.length/\(∀j,j≠T->σ'[j]?=(c_ lk σ)[j]?)/\I i βi o
 have EC:=it (λb=>av C (Wn own) .old b\/H1 b=none) λb z=>z;refine⟨λi m σ' H'=>i<=ds.length/\m=ds.length-i/\S i σ' H',⟨_,Ve _,rfl,cM lk β,bo lk β own,[],[],s1.enter ha inj,λ_ z=>z,ar,rfl,sm,by unfold c_;simp,λ_ _=>rfl,i0⟩,?_⟩
 rintro i m σ2 H2 ⟨hi,rfl,βi,eO,vs,o,sq,le,IA,os,pu,hlen,st,hl⟩;obtain⟨c8,mV⟩:=EC i H2 (pu.kp.mono λb z=>.inr z)
 by_cases c5:i<ds.length
 ·right
  have hd:ds[i]?=some ds[i]:=U3 c5;obtain⟨go,yl⟩:=c8 _ hd;refine⟨go,λσ' H'=>S (i+1) σ' H',λσ' H' h=>⟨_,by lia,c5,rfl,h⟩,λx H3 y=>?_⟩
  obtain⟨s3,r3⟩:=yl x H3 y;have Im:ay X.prog X.w W H3 ds[i] x:=r3;have sub:∀c,fY (C.u λc=>c=a) (Wn eO) .old c->W c:=λc z=>z.elim (λz=>.inl (bj c (le c z))) λz=>.inr (by rw[z];exact ha)
  have s4:=(sq.same s3).dD (i:=T) (y:=false) (ay.aR sub Im);have J0:∀c,Wn (aH eO T []) c->Wn (bo lk β own) c:=λc z=>le c (dB z);refine⟨_,_,s4,τm _ _ _ (λt β5 q H5 jI o5=>?_) (i1 i _ βi o hd hl)⟩;obtain⟨s5,e5⟩:=o5.pu rfl;have ee:au H1 H5:=(pu.trans s3).trans s5;have Ga:ai X.prog X.w W H5 o vs:=(os.same s3).same s5;have uD:H5 a=some (.lst vs):=s5 _ _ (s3 _ _ IA);have QF:∀c,Wn jI c->Wn (bo lk β own) c:=λc z=>J0 c (o5.le c z);have BG:∀j,j≠T->(σ2.set T (some x))[j]?=(c_ lk σ)[j]?:=λj hj=>(aZ (Xa hj)).trans (st j hj);cases t with
  |false=>exact⟨β5,jI,vs,o,o5.sq,QF,uD,Ga,ee,by simpa using hlen,BG,q⟩
  |true =>
   obtain⟨hz,q⟩:=q;have kp:Kp W H5 (upd H5 a (.lst (vs++[x]))):=An uD (λxs z=>by cases z) (.inr ha)
   refine⟨x,get_set (by rw[hlen];exact Tq),vs,uD,by rw[Ga.length];exact hz,β5,jI,vs++[x],o++[ds[i]],o5.sq.FI uD (λxs z=>by cases z) h0,QF,ar,ai.snoc ((Im.same s5).keep kp) (Ga.keep kp),λb ob e=>?_,by simpa using hlen,BG,q⟩
   rw[aw (λz'=>by rw[z',ha]at e;cases e)]
   exact ee b ob e
 ·left
  have e:i=ds.length:=by lia
  subst e;obtain⟨hh,q⟩:=i2 βi o hl;have sn:Sn (H1,Wn (bo lk β own)) H2 (Wn eO):=⟨λb z=>.inl (le b z),pu.kp.mono λb z=>.inr z,λb z e=>z (pu.free e)⟩;have lv:SQ X C σ H2 β own:=s1.leave sq sn le hh λj ok i' e1 e2=>st i' λz=>hT j (z▸e2);exact⟨mV (UU _),fin o H2 q ⟨lv,⟨λb z=>.inl z,pu.kp.mono λb z=>.inr z,λb z e=>z (pu.free e)⟩,λz=>⟨pu,rfl⟩,λ_ z=>z⟩ ⟨a,vs,rfl,IA,Sd,ai.aR (λc z=>.inl z) os⟩⟩
variable {scope:Xr}{N':List Str}{c8:Expr}{ifs:List Expr}{ι:c7}{pos px py:Pos}{x:Str}{pi:Bool}
def FP (lk:List (Option Nat))(ι:c7)(τ:ba)(T:Nat):aX:=λβ R=>ι β λds k β1=>k=.old/\nG τ T ds (cM lk β1) λo=>R (.lst o) .old β1
theorem Si (T:Nat)(N':List Str)(lk:List (Option Nat))(L:jN X.env.scope.names X.N scope N' lk=true)(xU:N'.Nodup)(hc:X.calm=true)(hi:yE X C pi (.Name x px) c8 ι)
  (ux:∀U cl c s H ex,uY (aF X scope N' cl c s H ex) (C.u U) true ifs τ) (hx:N'[T]?=some x:=by rfl) (hT:lk[T]?=some none:=by rfl)
  (OV:∀cl c s H ex,Loc (aF X scope N' cl c s H ex).env.scope x:=by intro _ _ _ _ _;first|exact .inl rfl|exact .inr rfl)
  (hv:∀cl c s H ex,sR (aF X scope N' cl c s H ex).env.scope x:=by intro _ _ _ _ _;first|exact .inl rfl|exact .inr (.inl rfl)|exact .inr (.inr rfl))
  (hf:∀cl c s H ex,(aF X scope N' cl c s H ex).fn x=true\/(aF X scope N' cl c s H ex).env.scope.names.lookup x=some .local:=by intro _ _ _ _ _;first|exact .inl rfl|exact .inr rfl)
  (hd:(x==("__debug__" : Str))=false:=by decide) (gm:(x==("__classdict__" : Str))=false:=by decide)
  (hs:∀x,VV c8 X.env x=pure x:=by intro _;rfl):PQ X C pi (.ListComp (.Name x py) [⟨.Name x px,c8,ifs,0⟩] scope pos) (FP lk ι τ T):=by
 have L':=Links.of L;refine⟨λβ R R' k h=>hi.mono β _ _ (λds kd β1 q=>⟨q.1,q.2.mono λo z=>k _ _ _ z⟩) h,?_⟩;refine(lI (g:=⟨.Name x px,c8,ifs,0⟩) (gs:=[]) (tg:=λ_=>v9 T) (tt:=λa=>j0 X (C.u λc=>c=a) true τ) (ta:=λa N σ H=>∃v,σ[T]?=some (some v)/\∃xs,H a=some (.lst xs)/\xs.length<U4/\N σ (upd H a (.lst (xs++[v]))))
  L' hc ja rfl rfl (λ_ _=>Bn) hi.pi (λa cl c s H ex=>⟨vA xU hx (OV cl c s H ex) (hf cl c s H ex),(ux _ cl c s H ex).pt,i8 rfl (cR hx (hv cl c s H ex) hd gm)⟩) hs).pre λσ H Q ⟨β,own,s,h⟩=>?_
 refine⟨β,own,s,hi.mono β _ _ (λds k β1 ⟨hk,q⟩ J H1 aA o1 it a ha=>?_) h⟩;subst hk;exact uH (ux (λ_=>False) [] 0 X.s₀ X.H₀ []).mono (fb L' xU) (λj e=>by rw[hT]at e;cases e) (UY.mp hT).1 o1.sq ha it q λo H' q o2 r=>q _ _ aA (o1.Rx o2 λz=>⟨z,rfl⟩) (r.later o1.sn)
end
theorem GJ {α:Type}{τ:ba}{l:List α}{f:α->D}{uT:a_}{K:List D->Prop}(t:α->Bool)(h0:fe uT uT)(hl:l.length<=U4)(h:∀x∈l,∀R:Bool->a_->Prop,R (t x) (some (.val false (f x))::uT)->τ (some (.val false (f x))::uT) R)(q:K ((l.filter t).map f)):nG τ 0 (l.map f) (none::uT) K:=by
 refine⟨λi β o=>i<=l.length/\(∃x0,β=x0::uT)/\o=((l.take i).filter t).map f,⟨Ve _,⟨_,rfl⟩,rfl⟩,?_,?_⟩
 ·rintro i d β o hd ⟨hi,⟨x0,rfl⟩,rfl⟩;rw[Vd]at hd;obtain⟨x,hx,rfl⟩:=Vj.mp hd;have O4:=(UY.mp hx).1;have hlen:(((l.take i).filter t).map f).length<=i:=by
   rw[US];exact Vm (Wg _ _) (by rw[VS];lia)
  have et:(l.take (i+1)).filter t=(l.take i).filter t++if t x=true then [x] else []:=by
   rw[V7,hx,WO];cases ee:t x <;> simp[ee]
  refine h x (Vv hx) _ ?_;cases e:t x with
  |true =>
   rw[if_pos rfl];exact⟨by lia,by lia,⟨_,rfl⟩,by rw[et,e,if_pos rfl,Vx];rfl⟩
  |false =>
   rw[if_neg (by simp)]
   exact⟨by lia,⟨_,rfl⟩,by rw[et,e,if_neg (by simp),Wr]⟩
 ·rintro β o ⟨_,⟨x0,rfl⟩,rfl⟩;rw[US,WJ];exact⟨h0,q⟩
end L2.Q
namespace iH
open PySem L2 L2.Q
def fT:FD:=λds R=>∃(n:Int) (rows ts:List (List Int)),ds=[.tup [.int n,.lst (rows.map kD)],.lst (ts.map kD)]/\ts.length<=1000/\Pairs ts/\(¬ Good rows ts->False)/\(Good rows ts->R .bH)
theorem fT.mono:cD fT:=λds R R' k ⟨n,rows,ts,e,h1,h2,h,q⟩=>⟨n,rows,ts,e,h1,h2,h,λz=>k _ (q z)⟩
section
variable {P:UX}{w:Vb}{K:PySem.W.Frag}{mg:Str->Option UR}{base:Heap}{c:Nat->Addr}
theorem cf:aC ["one","other","a","b","c","d"] ["one","other"] (ak dj):=⟨rfl,rfl,rfl,by decide +kernel,rfl,by decide +kernel,by decide +kernel⟩
theorem mT {nY fh} (dX:D8 K mg nY fh):aD P w K mg base bw 1 nY fh ["one","other"] (bZ P w true gG):=by
 refine j_ dX.F cf (λds R KW=> by obtain⟨t,u,e,_⟩ := KW;subst e;rfl) λcC A outer s H E hr=>⟨_,(ag (pI (ab (i:=0)) (dq (n:=2) rfl (aS (ao (i:=2) cf.nd) (aS (ao (i:=3) cf.nd) cI))))
    (ag (pI (ab (i:=1)) (dq (n:=2) rfl (aS (ao (i:=4) cf.nd) (aS (ao (i:=5) cf.nd) cI))))
    (aj (aJ (zH (i7 (ab (i:=2)) (cG bX (ab (i:=4)) (cG bX (ab (i:=3)) (i6 bX (ab (i:=5)))))) (jF (i7 (ab (i:=4)) (cG bX (ab (i:=2)) (cG bX (ab (i:=5)) (i6 bX (ab (i:=3)))))))))))),λds R h=>?_⟩
 obtain⟨t,u,rfl,⟨a,b,rfl⟩,⟨c,d,rfl⟩,q⟩:=h;refine⟨_,rfl,_,rfl,rfl,_,_,rfl,_,_,rfl,rfl,?_⟩;refine⟨_,rfl,_,rfl,rfl,_,_,rfl,_,_,rfl,rfl,?_⟩;refine Bl (a:=a) (b:=c) (c:=b) (d:=d) rfl rfl rfl rfl ⟨_,rfl,Ip (λh=>⟨trivial,?_⟩) (λh=>Bl (a:=c) (b:=a) (c:=d) (d:=b) rfl rfl rfl rfl ⟨trivial,?_⟩)⟩
 ·have:bL [a,b] [c,d]=true:=by show (_ || _)=true;rw[h];rfl
  rw[<- this];exact q
 ·have:bL [a,b] [c,d]=(decide (c<a)&&(decide (a<d)&&decide (d<b))):=by show (_ || _)=_;rw[h];rfl
  rw[<- this];exact q
theorem jA:aC ["one","other"] ["one","other"] (ak cq):=⟨rfl,rfl,rfl,by decide +kernel,rfl,by decide +kernel,by decide +kernel⟩
theorem zW {nZ fk} (dS:D9 K mg nZ fk):aD P w K mg base bw 1 nZ fk ["one","other"] (bZ P w true l9):=by
 refine j_ dS.F jA (λds R KU=> by obtain⟨t,u,e,_⟩ := KU;subst e;rfl) λcC A outer s H E hr=>⟨_,(aj (aJ (zH (fH af (bR.m (pK hr.iO)) (aK af bf (ab (i:=0)) ah) (ab (i:=1))) (jF (fH af (bR.m (pK hr.iO)) (aK af bf (ab (i:=0)) ah) (ab (i:=1))))))),λds R h=>?_⟩
 obtain⟨t,u,rfl,⟨a,b,rfl⟩,q⟩:=h;refine⟨_,rfl,trivial,_,rfl,trivial,_,rfl,_,qa a u,_,rfl,lY (λh=>⟨trivial,?_⟩) (λh=>⟨_,rfl,trivial,_,rfl,trivial,_,rfl,_,qa b u,trivial,?_⟩)⟩
 ·simpa[bB,h] using q
 ·simpa[bB,h] using q
theorem gw:aC ["row","ties","k","j"] ["row","ties","k"] (ak fC):=⟨rfl,rfl,rfl,by decide +kernel,rfl,by decide +kernel,by decide +kernel⟩
theorem z4 {qh gh} (dF:DZ K mg qh gh) {nZ fk} (dS:D9 K mg nZ fk) {nY fh} (dX:D8 K mg nY fh) (B:Bs mg):aD P w K mg base bw 2 qh gh ["row","ties","k"] (bZ P w true mn):=by
 have GS:aD P w K mg base bw 1 _ _ _ (bZ P w true l9):=zW dS;have GX:aD P w K mg base bw 1 _ _ _ (bZ P w true gG):=mT dX;refine j_ dF.F gw (λds R KS=> by obtain⟨n,rows,ts,k,e,_⟩ := KS;subst e;rfl) λcC A outer s H E hr=>⟨_,(fI (bO (aI af (bR.m (xt hr.iO)) (aK af bf (ab (i:=1)) (ab (i:=2))) (aK af bf (ab (i:=0)) ah)) (aj (aJ (bz (aa pB (aa (ab (i:=2)) ae))))) aY)
    (fI (bO (m9.t (fG (aI af (bR.m pL) (ab (i:=2)) ah) (dQ (aI af (bR.m (CH hr.oQ)) (aK af bf (ab (i:=1)) (ab (i:=2))) (aK af bf (ab (i:=1)) (a3 af (bR.m du) (ab (i:=2)) ah)))))) (aj (aJ (bz (aa pB (aa (ab (i:=2)) ae))))) aY)
    (ag (cb VE rfl (bx B.range (aa (ab (i:=2)) ae)) (ao (i:=3) gw.nd) (aj (bO (bS (az l9.mono GS (hr.mono (by decide)) dS.m dS.F.kp dS.b (aa (aK af bf (ab (i:=1)) (ab (i:=3))) (aa (aK af bf (ab (i:=1)) (ab (i:=2))) ae)))) (aj (aJ (bz (aa pB (aa (ab (i:=3)) (aa (ab (i:=2)) ae)))))) aY)))
    (ag (cb VE rfl (bx B.range (aa (ab (i:=2)) ae)) (ao (i:=3) gw.nd) (aj (bO (bS (az gG.mono GX (hr.mono (by decide)) dX.m dX.F.kp dX.b (aa (aK af bf (ab (i:=1)) (ab (i:=3))) (aa (aK af bf (ab (i:=1)) (ab (i:=2))) ae)))) (aj (aJ (bz (aa pB (aa (ab (i:=3)) (aa (ab (i:=2)) ae)))))) aY)))
    (aj (aJ cH)))))),λds R h=>?_⟩
 obtain⟨n,rows,ts,k,rfl,hk,hp,hb,q⟩:=h;obtain⟨t,et⟩:∃t,ts[k]?=some t:=⟨ts[k],U3 hk⟩;have pt:Pair t:=hp t (Vv et);rw[jU et]at q;unfold jm at q;refine⟨λβ=>β=[some (.val false (.tup [.int n,.lst (rows.map kD)])),some (.val false (.lst (ts.map kD))),some (.val false (.int (k:Int))),none]/\t∈rows,?_,?_⟩
 ·refine⟨_,rfl,trivial,_,rfl,_,iB et,trivial,_,rfl,trivial,_,rfl,.inr ⟨_,uP t rows,_,rfl,Su (λh=>?_) (λh=>⟨rfl,h⟩)⟩⟩;exact⟨trivial,_,rfl,trivial,km,trivial,by rw[if_neg h]at q;exact q⟩
 ·rintro β ⟨rfl,ht⟩;rw[if_pos ht]at q;refine⟨λβ=>β=[some (.val false (.tup [.int n,.lst (rows.map kD)])),some (.val false (.lst (ts.map kD))),some (.val false (.int (k:Int))),none]/\(decide (0<k)&&ql ts (λu=>!HT.lexLt u t) (k-1))=false,?_,?_⟩
  ·refine⟨_,rfl,trivial,_,rfl,_,rfl,lY (λxS=>?_) (λxS=>d4 rfl ⟨rfl,?_⟩)⟩
   ·have Lo:0<k:=by lia
    obtain⟨u,eu⟩:∃u,ts[k-1]?=some u:=⟨ts[k-1],U3 (by lia)⟩
    have ei:oi (.lst (ts.map kD)) (.int ((k:Int)-1))=some (kD u):=by
     rw[show (k:Int)-1=((k-1:Nat):Int) by lia];exact iB eu
    have ea:ql ts (λu=>!HT.lexLt u t) (k-1)=!HT.lexLt u t:=by unfold ql;rw[eu]
    refine⟨_,rfl,trivial,_,rfl,_,iB et,trivial,_,rfl,trivial,_,rfl,trivial,_,rfl,_,ei,_,DH t u,_,rfl,Ip (λh=>?_) (λh=>⟨rfl,?_⟩)⟩
    ·exact⟨trivial,_,rfl,trivial,km,trivial,by rw[if_pos (by rw[ea,h];simp[Lo])]at q;exact q⟩
    ·rw[ea,h];simp
   ·have:¬ 0<k:=by lia
    simp[this]
  ·rintro β ⟨rfl,ho⟩;rw[if_neg (by rw[ho];simp)]at q
   refine⟨_,rfl,trivial,k,rfl,by lia,by lia,trivial,?_⟩
   refine⟨λi β=>(∃x3,β=[some (.val false (.tup [.int n,.lst (rows.map kD)])),some (.val false (.lst (ts.map kD))),some (.val false (.int (k:Int))),x3])/\∀j<i,ql ts (λu=>bB u t) j=false,⟨⟨_,rfl⟩,λj hj=>by lia⟩,?_,?_⟩
   ·rintro i d β hd ⟨⟨x3,rfl⟩,rV⟩;obtain⟨hi,rfl⟩:=bE hd;rw[VM]at hi;obtain⟨u,eu⟩:∃u,ts[i]?=some u:=⟨ts[i],U3 (by lia)⟩
    have ei:oi (.lst (ts.map kD)) (.int (0+(i:Int)))=some (kD u):=by
     rw[show 0+(i:Int)=(i:Int) by lia];exact iB eu
    have ea:ql ts (λu=>bB u t) i=bB u t:=by unfold ql;rw[eu]
    refine⟨_,rfl,trivial,_,rfl,_,ei,trivial,_,rfl,trivial,_,rfl,_,iB et,trivial,u,t,rfl,hp u (Vv eu),_,rfl,Ip (λh=>?_) (λh=>⟨⟨_,rfl⟩,λj hj=>?_⟩)⟩
    ·rw[iy hi (by rw[ea];exact h) rV]at q
     exact⟨trivial,_,rfl,trivial,_,rfl,trivial,Mq,trivial,by rw[show (0+(i:Int))=(i:Int) by lia];exact q⟩
    ·by_cases EI:j<i
     ·exact rV j EI
     ·rw[show j=i by lia,ea];exact h
   ·rintro β ⟨⟨x3,rfl⟩,rV⟩;rw[bN,VM]at rV;rw[find_none rV]at q;refine⟨_,rfl,trivial,k,rfl,by lia,by lia,trivial,?_⟩
    refine⟨λi β=>(∃x3,β=[some (.val false (.tup [.int n,.lst (rows.map kD)])),some (.val false (.lst (ts.map kD))),some (.val false (.int (k:Int))),x3])/\∀j<i,ql ts (λu=>bL u t) j=false,⟨⟨_,rfl⟩,λj hj=>by lia⟩,?_,?_⟩
    ·rintro i d β hd ⟨⟨x3,rfl⟩,rV⟩;obtain⟨hi,rfl⟩:=bE hd;rw[VM]at hi;obtain⟨u,eu⟩:∃u,ts[i]?=some u:=⟨ts[i],U3 (by lia)⟩
     have ei:oi (.lst (ts.map kD)) (.int (0+(i:Int)))=some (kD u):=by
      rw[show 0+(i:Int)=(i:Int) by lia];exact iB eu
     have ea:ql ts (λu=>bL u t) i=bL u t:=by unfold ql;rw[eu]
     refine⟨_,rfl,trivial,_,rfl,_,ei,trivial,_,rfl,trivial,_,rfl,_,iB et,trivial,u,t,rfl,hp u (Vv eu),pt,_,rfl,Ip (λh=>?_) (λh=>⟨⟨_,rfl⟩,λj hj=>?_⟩)⟩
     ·rw[iy hi (by rw[ea];exact h) rV]at q
      exact⟨trivial,_,rfl,trivial,_,rfl,trivial,Mq,trivial,by rw[show (0+(i:Int))=(i:Int) by lia];exact q⟩
     ·by_cases EI:j<i
      ·exact rV j EI
      ·rw[show j=i by lia,ea];exact h
    ·rintro β ⟨⟨x3,rfl⟩,rV⟩;rw[bN,VM]at rV;rw[find_none rV]at q;exact⟨trivial,q⟩
theorem dI:aC ["row","ties","k","fault"] ["row","ties"] (ak cW):=⟨rfl,rfl,rfl,by decide +kernel,rfl,by decide +kernel,by decide +kernel⟩
theorem zZ {tw g_} (dO:Fb K mg tw g_) {qh gh} (dF:DZ K mg qh gh) {nZ fk} (dS:D9 K mg nZ fk) {nY fh} (dX:D8 K mg nY fh) (B:Bs mg):aD P w K mg base bw 3 tw g_ ["row","ties"] (bZ P w true ml):=by
 have GF:aD P w K mg base bw 2 _ _ _ (bZ P w true mn):=z4 dF dS dX B;refine j_ dO.F dI (λds R KR=> by obtain⟨n,rows,ts,e,_⟩ := KR;subst e;rfl) λcC A outer s H E hr=>⟨_,(ag (cb VE rfl (bx B.range (aa (bb af (bW.m bQ) B.len d7 (aa (ab (i:=1)) ae)) ae)) (ao (i:=2) dI.nd) (ag (aP (i:=3) (az mn.mono GF (hr.mono (by decide)) dF.m dF.F.kp dF.b (aa (ab (i:=0)) (aa (ab (i:=1)) (aa (ab (i:=2)) ae)))) dI.nd)
    (aj (bO (aI af (bR.m i_) (ab (i:=3)) cH) (aj (aJ (ab (i:=3)))) aY))))
    (aj (aJ cH))),λds R h=>?_⟩
 obtain⟨n,rows,ts,rfl,hl,hp,q⟩:=h;refine⟨_,rfl,trivial,_,rfl,trivial,_,rfl,by rw[US];lia,by rw[US];lia,trivial,?_⟩
 rw[US];refine⟨λi β=>(∃x2 x3,β=[some (.val false (.tup [.int n,.lst (rows.map kD)])),some (.val false (.lst (ts.map kD))),x2,x3])/\∀j<i,iA rows ts j=none,⟨⟨_,_,rfl⟩,λj hj=>by lia⟩,?_,?_⟩
 ·rintro i d β hd ⟨⟨x2,x3,rfl⟩,rV⟩;obtain⟨hi,rfl⟩:=bE hd;rw[VM]at hi;refine⟨_,rfl,trivial,_,rfl,trivial,_,rfl,trivial,n,rows,ts,i,by rw[YN],hi,hp,by lia,?_⟩
  cases hf:iA rows ts i with
  |none =>
   refine⟨_,rfl,trivial,_,rfl,_,rfl,d4 rfl ⟨⟨_,_,rfl⟩,λj hj=>?_⟩⟩
   by_cases EI:j<i
   ·exact rV j EI
   ·rw[show j=i by lia];exact hf
  |some x =>
   refine⟨_,rfl,trivial,_,rfl,_,rfl,iu rfl ⟨_,rfl,A4 (some x),?_⟩⟩;rw[<- rY hi hf rV];exact q
 ·rintro β ⟨⟨x2,x3,rfl⟩,rV⟩;rw[bN,VM]at rV;refine⟨trivial,?_⟩;have:iw rows ts=none:=Ds rV;rw[this]at q;exact q
theorem w6:aC ["row","ties"] ["row","ties"] (ak iZ):=⟨rfl,rfl,rfl,by decide +kernel,rfl,by decide +kernel,by decide +kernel⟩
theorem zY {wm ji} (dE:Ii K mg wm ji) {tw g_} (dO:Fb K mg tw g_) {qh gh} (dF:DZ K mg qh gh) {nZ fk} (dS:D9 K mg nZ fk) {nY fh} (dX:D8 K mg nY fh) (B:Bs mg):aD P w K mg base bw 4 wm ji ["row","ties"] (bZ P w true mh):=by
 have GO:aD P w K mg base bw 3 _ _ _ (bZ P w true ml):=zZ dO dF dS dX B;refine j_ dE.F w6 (λds R KQ=> by obtain⟨n,rows,ts,e,_⟩ := KQ;subst e;rfl) λcC A outer s H E hr=>⟨_,(aj (aJ (fH af (bR.m kP) (az ml.mono GO (hr.mono (by decide)) dO.m dO.F.kp dO.b (aa (ab (i:=0)) (aa (ab (i:=1)) ae))) cH))),λds R h=>?_⟩
 obtain⟨n,rows,ts,rfl,hl,hp,q⟩:=h;refine⟨_,rfl,trivial,_,rfl,trivial,n,rows,ts,rfl,hl,hp,trivial,?_⟩;cases hf:iw rows ts with
 |none=>rw[hf]at q;exact⟨_,rfl,trivial,q⟩
 |some x=>rw[hf]at q;exact⟨_,rfl,trivial,q⟩
theorem o9:aC ["row","ties"] ["row","ties"] (ak eC):=⟨rfl,rfl,rfl,by decide +kernel,rfl,by decide +kernel,by decide +kernel⟩
theorem lL {kA gc} (mH:II K mg kA gc) {wm ji} (dE:Ii K mg wm ji) {tw g_} (dO:Fb K mg tw g_) {qh gh} (dF:DZ K mg qh gh) {nZ fk} (dS:D9 K mg nZ fk) {nY fh} (dX:D8 K mg nY fh) (B:Bs mg):aD P w K mg base bw 5 kA gc ["row","ties"] (bZ P w true fT):=by
 have GE:aD P w K mg base bw 4 _ _ _ (bZ P w true mh):=zY dE dO dF dS dX B;refine j_ mH.F o9 (λds R KP=> by obtain⟨n,rows,ts,e,_⟩ := KP;subst e;rfl) λcC A outer s H E hr=>⟨_,(aj (bO (cw (bS (az mh.mono GE (hr.mono (by decide)) dE.m dE.F.kp dE.b (aa (ab (i:=0)) (aa (ab (i:=1)) ae))))) nB aY)),λds R h=>?_⟩
 obtain⟨n,rows,ts,rfl,hl,ht,hx,q⟩:=h;refine⟨_,rfl,trivial,_,rfl,trivial,n,rows,ts,rfl,by lia,ht,_,rfl,?_⟩
 by_cases hg:Good rows ts
 ·exact d4 (by rw[l7.mpr hg];rfl) (q hg)
 ·exact iu (by rw[decide_eq_false λz=>hg (l7.mp z)];rfl) (hx hg)
end
end iH
namespace L2.Q
open PySem PySem.Spec PyProof.Rows
section
variable {X:Cx}{C:Cfg}{p:Bool}{i:Nat}{x:Str}{e:Expr}{φ:aX}{pos pos':Pos}{op:Y_}{f:Int->Int->Int}
theorem ua (ho:hX X (YS op) (xf λi j=>.int (f i j)))(he:PQ X C.z p e φ)(hN:X.N.Nodup)(hi:X.N[i]?=some x:=by rfl)(hx:Loc X.env.scope x:=by first|exact .inl rfl|exact .inr rfl)
  (hf:X.fn x=true\/X.env.scope.names.lookup x=some .local:=by first|exact .inl rfl|exact .inr rfl|assumption) :
  PB X C (.AugAssign (.Name x pos') op e pos) (λE β=>∃y m,β[i]?=some (some (.val y (.int m)))/\φ β λd k β'=>∃n,d=.int n/\E.nx (β'.set i (some (.val true (.int (f m n)))))) :=
 ⟨λE E' β l KO=> by obtain⟨y,m,h,q⟩ := KO;exact⟨y,m,h,he.mono _ _ _ (λd k β' KN=> by obtain⟨n,h,q⟩ := KN;exact⟨n,h,l.nx _ q⟩) q⟩,(FW hN hi hx he.pe ho hf).pre λD σ H KL=> by
  obtain⟨Z,E,β,⟨own,s,n⟩,⟨y,m,hb,q⟩,ok⟩ := KL;obtain⟨v,h1,h2⟩:=s.Fm hb;cases (show v=V.int m from h2)
  exact⟨_,h1,tQ.of he s q λd k β' v H' aQ KJ o r=> by
   obtain⟨z,e1,q⟩ := KJ;subst e1;cases (show v=V.int z from r.rep)
   exact⟨m,z,rfl,rfl,ok.nx _ _ _ ⟨_,o.sq.dD (y:=true) (ay.aR (λa z=>z.elim id λz=>z.elim) (show ay X.prog X.w _ H' (.int (f m z)) (.int (f m z)) from rfl)),tT (n.trans o.sn)⟩ q⟩⟩⟩
end
end L2.Q
namespace iH
open PySem L2 L2.Q
section
variable {P:UX}{w:Vb}{K:PySem.W.Frag}{mg:Str->Option UR}{base:Heap}
theorem bg:aC ["waiting","tie","a","b","at","low","high"] ["waiting","tie"] (ak b5):=⟨rfl,rfl,rfl,by decide +kernel,rfl,by decide +kernel,by decide +kernel⟩
theorem vF {gi cN} (gj:DY K mg gi cN) (B:u3 mg):aD P w K mg base bw 1 gi cN ["waiting","tie"] (bZ P w true yC):=by
 refine j_ gj.F bg (λds R KI=> by obtain⟨ws,p,e,_⟩ := KI;subst e;rfl) λcC A outer s H E hr=>⟨_,(ag (pI (ab (i:=1)) (dq (n:=2) rfl (aS (ao (i:=2) bg.nd) (aS (ao (i:=3) bg.nd) cI))))
    (ag (cb VE rfl (Cm (zq B.enumerate (zr (fD (i:=0)) Cd))) (dq (n:=2) rfl (aS (ao (i:=4) bg.nd) (aS (dq (n:=2) rfl (aS (ao (i:=5) bg.nd) (aS (ao (i:=6) bg.nd) cI))) cI))) (aj (bO (m9.t (fG (aI af (bR.m uc) (ab (i:=5)) (ab (i:=2))) (dQ (aI af (bR.m bX) (ab (i:=3)) (ab (i:=6)))))) (aj (aJ (a3 aU aL (a6 (aa (bz (aa (a3 aU aL (ab (i:=2)) ah) (aa (ab (i:=3)) ae))) (aa (bz (aa (a3 aU aL (ab (i:=3)) ah) (aa (ab (i:=6)) ae))) ae))) (zF (ab (i:=0)) (lD (a3 aU aL (ab (i:=4)) ah)) lE)))) aY)))
    (aj (aJ cH)))),λds R h=>?_⟩
 obtain⟨ws,p,rfl,hl,q⟩:=h;refine⟨_,rfl,_,rfl,rfl,_,_,rfl,_,_,rfl,rfl,?_⟩;refine⟨_,rfl,_,rfl,trivial,?_⟩;refine⟨λm β=>∃x4 x5 x6,β=[some (.val false (.lst (ws.map kL))),some (.val false (kL p)),some (.val true (.int (p.1:Int))),some (.val true (.int (p.2:Int))),x4,x5,x6]/\wb (ws.drop m) p=wb ws p,⟨_,_,_,rfl,rfl⟩,?_,?_⟩
 ·rintro m d β hd ⟨x4,x5,x6,rfl,hw⟩;obtain⟨b,hb,rfl⟩:=n9 hd;rw[Vd]at hb;obtain⟨v,hv,rfl⟩:=Vj.mp hb;rw[BO hv]at hw;refine⟨_,rfl,rfl,_,_,rfl,_,_,rfl,_,rfl,rfl,_,_,rfl,_,_,rfl,rfl,rfl,?_⟩;refine⟨_,rfl,trivial,_,rfl,_,rfl,_,rfl,lY (λh1=>?_) λh1=>?_⟩
  ·refine⟨_,rfl,trivial,_,rfl,_,rfl,_,rfl,lY (λh2=>?_) λh2=>?_⟩
   ·rw[if_pos ⟨by lia,by lia⟩]at hw
    rw[<- hw]at q;have hm:m<ws.length:=(UY.mp hv).1;have ea:uS (.lst [.tup [.int ((p.1:Int)+1),.int (p.2:Int)],.tup [.int ((p.2:Int)+1),.int (v.2:Int)]]) (.lst (cutD (ws.map kL) (some ((m:Int)+1)) none))=some (Qw (some ((p.1+1,p.2)::(p.2+1,v.2)::ws.drop (m+1)))):=by
     rw[show (m:Int)+1=((m+1:Nat):Int) by lia,yh]
     exact gJ (by rw[US,X8];show 2+_<=_;lia)
    refine⟨_,rfl,trivial,_,rfl,trivial,_,rfl,trivial,km,trivial,?_⟩;exact⟨_,rfl,trivial,_,rfl,trivial,_,rfl,trivial,km,trivial,km,trivial,_,rfl,_,rfl,trivial,_,rfl,_,rfl,_,rfl,.inr ⟨_,ea,.inl ⟨gF _,trivial,q⟩⟩⟩
   ·rw[if_neg (by lia)]at hw
    exact⟨_,_,_,rfl,hw⟩
  ·rw[if_neg (by lia)]at hw
   exact⟨_,_,_,rfl,hw⟩
 ·rintro β ⟨x4,x5,x6,rfl,hw⟩;rw[n6,US,YV]at hw;rw[<- hw]at q;exact⟨trivial,q⟩
theorem b4:aC ["row","ties","waiting","tie"] ["row","ties"] (ak cn):=⟨rfl,rfl,rfl,by decide +kernel,rfl,by decide +kernel,by decide +kernel⟩
theorem El {mZ ia} (pY:Mk K mg mZ ia) {gi cN} (gj:DY K mg gi cN) (B:u3 mg):aD P w K mg base bw 2 mZ ia ["row","ties"] (bZ P w false EN):=by
 have E_:aD P w K mg base bw 1 _ _ _ (bZ P w true yC):=vF gj B;refine j_ pY.F b4 (λds R KH=> by obtain⟨n,ps,ns,e,_⟩ := KH;subst e;rfl) λcC A outer s H E hr=>⟨_,(ag (aP (i:=2) (a6 (aa (bz (aa ah (aa (aK af bf (ab (i:=0)) ah) ae))) ae)) b4.nd)
    (ag (cb VE rfl (a9 (ab (i:=1))) (ao (i:=3) b4.nd) (aj (aP (i:=2) (az yC.mono E_ (hr.mono (by decide)) gj.m gj.F.kp gj.b (aa (ab (i:=2)) (aa (ab (i:=3)) ae))) b4.nd)))
    (aj (aJ (ab (i:=2)))))),λds R h=>?_⟩
 obtain⟨n,ps,ns,rfl,ok,hn,hs,q⟩:=h;refine⟨trivial,_,rfl,trivial,_,rfl,trivial,km,trivial,tj,?_⟩;refine⟨_,rfl,_,rfl,trivial,?_⟩;refine⟨λm β=>∃ws x3,β=[some (.val false (jv n ps)),some (.val false (b3 ns)),some (.val true (.lst (ws.map kL))),x3]/\wa [(0,n)] (ns.take m)=some ws,⟨[(0,n)],_,rfl,rfl⟩,?_,?_⟩
 ·rintro m d β hd ⟨ws,x3,rfl,hw⟩;rw[Vd]at hd;obtain⟨p,hp,rfl⟩:=Vj.mp hd;obtain⟨l,hl,_⟩:=(hs.sub (WV (m+1) ns)).wa ok;obtain⟨l0,Iy,Iq⟩:=(hs.sub (WV m ns)).wa ok;cases hw.symm.trans Iy;have uC:=hl;rw[V7,hp,kZ,hw]at hl
  change (wb ws p).bind _=_ at hl
  cases eb:wb ws p with
  |none=>rw[eb]at hl;cases hl
  |some u =>
   rw[eb]at hl;cases hl;refine⟨_,rfl,trivial,_,rfl,trivial,ws,p,rfl,by have:=Iq.rO hn;lia,?_⟩
   rw[eb];exact⟨_,_,rfl,uC⟩
 ·rintro β ⟨ws,x3,rfl,hw⟩;rw[US,WJ]at hw;rw[hw]at q;exact⟨_,rfl,trivial,q⟩
theorem o8:aC ["row","waiting"] ["row","waiting"] (ak eg):=⟨rfl,rfl,rfl,by decide +kernel,rfl,by decide +kernel,by decide +kernel⟩
theorem Em {m5 ib} (pZ:Mj K mg m5 ib) {gi cN} (gj:DY K mg gi cN) (B:u3 mg):aD P w K mg base bw 2 m5 ib ["row","waiting"] (bZ P w true EO):=by
 have E_:aD P w K mg base bw 1 _ _ _ (bZ P w true yC):=vF gj B;refine j_ pZ.F o8 (λds R KG=> by obtain⟨n,ps,ws,e,_⟩ := KG;subst e;rfl) λcC A outer s H E hr=>⟨_,(aj (aJ (Eu ["tie","waiting"] [none,some 1] (by rfl) (by decide:(["tie","waiting"]:List Str).Nodup) rfl (a9 (aK af bf (ab (i:=0)) ah)) (λ_ _ _ _ _ _=>(ao (i:=0) (by decide:(["tie","waiting"]:List Str).Nodup))) (λ_ _ _ _ _ _=>(fw (aI af (bR.m i_) (az yC.mono E_ (hr.mono (by decide)) gj.m gj.F.kp gj.b (aa (ab (i:=1)) (aa (ab (i:=0)) ae))) cH))) (λ_ _ _ _ _ _=>(ab (i:=0)))))),λds R h=>?_⟩
 obtain⟨n,ps,ws,rfl,ok,hl,q⟩:=h;refine⟨_,rfl,trivial,_,rfl,.inr ⟨_,rfl,trivial,?_⟩⟩;refine dZ (λp:Nat×Nat=>(wb ws p).isSome) (λp=>kD (tI p)) trivial (eT (Vm ok.sm (by decide))) (λp hp x0 o J ho j1 j2=>?_) ?_
 ·refine⟨_,rfl,trivial,_,rfl,trivial,ws,p,rfl,hl,?_⟩;cases eb:wb ws p with
  |none=>exact⟨trivial,_,rfl,_,rfl,d4 rfl (j2 (by rw[eb];rfl) _)⟩
  |some l=>exact⟨trivial,_,rfl,_,rfl,iu rfl ⟨_,rfl,rfl,ho,j1 (by rw[eb];rfl) _⟩⟩
 ·exact⟨trivial,q⟩
theorem ph {n:Nat}{ps:List (Nat×Nat)}:jv n ps=.tup [.int (n:Int),.lst ((ps.map tI).map kD)]:=by
 unfold jv b3;rw[V2];rfl
theorem gN {ns:List (Nat×Nat)}:b3 ns=.lst ((ns.map tI).map kD):=by
 unfold b3;rw[V2];rfl
def md (g:List (Nat×Nat)->Nat->List (Nat×Nat)->D):FD:=λds R=>∃(n:Nat) (ps:List (Nat×Nat)) (ts:List (List Int)),ds=[jv n ps,.lst (ts.map kD)]/\kB n ps/\n<=40/\ts.length<=1000/\Pairs ts/\(¬ Good (ps.map tI) ts->False)/\(Good (ps.map tI) ts->∀ns,ts=ns.map tI->fo ps ns->R (g ps n ns))
theorem md.mono {g:List (Nat×Nat)->Nat->List (Nat×Nat)->D}:cD (md g):=λds R R' k ⟨n,ps,ts,e,h1,h2,h3,h4,h5,q⟩=>⟨n,ps,ts,e,h1,h2,h3,h4,h5,λz ns a b=>k _ (q z ns a b)⟩
def LD (ps:List (Nat×Nat))(n:Nat)(ns:List (Nat×Nat)):D:=.int (aG ps ((wa [(0,n)] ns).getD []):Nat)
theorem iX:aC ["row","ties"] ["row","ties"] (ak b6):=⟨rfl,rfl,rfl,by decide +kernel,rfl,by decide +kernel,by decide +kernel⟩
theorem Gs {x_ nU} (EZ:Qd K mg x_ nU) {kA gc} (mH:II K mg kA gc) {wm ji} (dE:Ii K mg wm ji) {tw g_} (dO:Fb K mg tw g_) {qh gh} (dF:DZ K mg qh gh) {nZ fk} (dS:D9 K mg nZ fk) {nY fh} (dX:D8 K mg nY fh) {kz gb} (mG:D7 K mg kz gb) {jl eK} (qk:D3 K mg jl eK) {jk eJ} (qj:D2 K mg jk eJ) {jj eI} (qi:D6 K mg jj eI) {fR cL} (g7:D5 K mg fR cL) {hG df} (oh:D4 K mg hG df) {mZ ia} (pY:Mk K mg mZ ia) {gi cN} (gj:DY K mg gi cN) (B:u3 mg):aD P w K mg base bw 6 x_ nU ["row","ties"] (bZ P w true (md LD)):=by
 have Mf:aD P w K mg base bw 5 _ _ _ (bZ P w true fT):=lL mH dE dO dF dS dX B.toBs;have Me:aD P w K mg base bw 3 _ _ _ (bZ P w true dv):=jK mG qk qj qi g7 oh B;have Ih:aD P w K mg base bw 1 _ _ _ (bZ P w true ic):=kR g7;have M0:aD P w K mg base bw 2 _ _ _ (bZ P w false EN):=El pY gj B;refine j_ EZ.F iX (λds R KD=> by obtain⟨n,ps,ts,e,_⟩ := KD;subst e;rfl) λcC A outer s H E hr=>⟨_,(ag (pH (az fT.mono Mf (hr.mono (by decide)) mH.m mH.F.kp mH.b (aa (ab (i:=0)) (aa (ab (i:=1)) ae))))
    (aj (aJ (az ic.mono Ih (hr.mono (by decide)) g7.m g7.F.kp g7.b (aa (az dv.mono Me (hr.mono (by decide)) mG.m mG.F.kp mG.b (aa (ab (i:=0)) ae)) (aa (az EN.mono M0 (hr.mono (by decide)) pY.m pY.F.kp pY.b (aa (ab (i:=0)) (aa (ab (i:=1)) ae))) ae)))))),λds R h=>?_⟩
 obtain⟨n,ps,ts,rfl,ok,hn,hl,hp,hx,q⟩:=h;refine⟨_,rfl,trivial,_,rfl,trivial,n,ps.map tI,ts,by rw[ph],hl,hp,hx,λhg=>?_⟩
 obtain⟨ns,rfl,hs⟩:=jg ok hg;have q:=q hg ns rfl hs;obtain⟨l,ew,hw⟩:=hs.wa ok;unfold LD at q;rw[ew]at q;exact⟨_,rfl,trivial,n,ps,rfl,ok,hn,trivial,_,rfl,trivial,_,rfl,trivial,n,ps,ns,by rw[gN],ok,hn,hs,trivial,n,ps,_,_,by rw[ew];rfl,ok,hn,hw,λp _=>UU _,trivial,q⟩
def IB (ps:List (Nat×Nat))(n:Nat)(ns:List (Nat×Nat)):D:=.int (eV ps [(0,n)] ns:Nat)
theorem BQ {n:Nat}{ps ns ws:List (Nat×Nat)}{m:Nat}{p:Nat×Nat}(ok:kB n ps)(hs:fo ps ns)(hp:ns[m]?=some p)(hw:wa [(0,n)] (ns.take m)=some ws):∃u,wb ws p=some u/\wa [(0,n)] (ns.take (m+1))=some u/\eS n 0 ws:=by
 obtain⟨l,hl,_⟩:=(hs.sub (WV (m+1) ns)).wa ok;obtain⟨l0,Iy,Iq⟩:=(hs.sub (WV m ns)).wa ok;cases hw.symm.trans Iy;have uC:=hl;rw[V7,hp,kZ,hw]at hl
 change (wb ws p).bind _=_ at hl
 cases eb:wb ws p with
 |none=>rw[eb]at hl;cases hl
 |some u=>rw[eb]at hl;cases hl;exact⟨_,rfl,uC,Iq⟩
theorem Fq {ps ws:List (Nat×Nat)}{p:Nat×Nat}(h:p∈iG ps ws):p∈ps/\∃u,wb ws p=some u:=by
 obtain⟨h1,h2⟩:=VF.mp h;exact⟨h1,X2.mp h2⟩
theorem oU {ps ws:List (Nat×Nat)}:(iG ps ws).length<=ps.length:=Wg _ _
theorem bp:aC ["row","ties","counts","waiting","number","tie","passed"] ["row","ties"] (ak dg):=⟨rfl,rfl,rfl,by decide +kernel,rfl,by decide +kernel,by decide +kernel⟩
theorem Gk {xW nP} (EU:Qc K mg xW nP) {kA gc} (mH:II K mg kA gc) {wm ji} (dE:Ii K mg wm ji) {tw g_} (dO:Fb K mg tw g_) {qh gh} (dF:DZ K mg qh gh) {nZ fk} (dS:D9 K mg nZ fk) {nY fh} (dX:D8 K mg nY fh) {kz gb} (mG:D7 K mg kz gb) {jl eK} (qk:D3 K mg jl eK) {jk eJ} (qj:D2 K mg jk eJ) {jj eI} (qi:D6 K mg jj eI) {fR cL} (g7:D5 K mg fR cL) {hG df} (oh:D4 K mg hG df) {m5 ib} (pZ:Mj K mg m5 ib) {gi cN} (gj:DY K mg gi cN) (B:u3 mg):aD P w K mg base bw 6 xW nP ["row","ties"] (bZ P w true (md IB)):=by
 have Mf:aD P w K mg base bw 5 _ _ _ (bZ P w true fT):=lL mH dE dO dF dS dX B.toBs;have Me:aD P w K mg base bw 3 _ _ _ (bZ P w true dv):=jK mG qk qj qi g7 oh B;have Ih:aD P w K mg base bw 1 _ _ _ (bZ P w true ic):=kR g7;have M1:aD P w K mg base bw 2 _ _ _ (bZ P w true EO):=Em pZ gj B;have E_:aD P w K mg base bw 1 _ _ _ (bZ P w true yC):=vF gj B;refine j_ EU.F bp (λds R KC=> by obtain⟨n,ps,ts,e,_⟩ := KC;subst e;rfl) λcC A outer s H E hr=>⟨_,(ag (pH (az fT.mono Mf (hr.mono (by decide)) mH.m mH.F.kp mH.b (aa (ab (i:=0)) (aa (ab (i:=1)) ae))))
    (ag (aP (i:=2) (az dv.mono Me (hr.mono (by decide)) mG.m mG.F.kp mG.b (aa (ab (i:=0)) ae)) bp.nd)
    (ag (aP (i:=3) (a6 (aa (bz (aa ah (aa (aK af bf (ab (i:=0)) ah) ae))) ae)) bp.nd)
    (ag (aP (i:=4) ah bp.nd)
    (ag (cb VE rfl (a9 (ab (i:=1))) (ao (i:=5) bp.nd) (ag (zd (i:=6) false ["other","tie"] [none,some 5] (by rfl) (by decide:(["other","tie"]:List Str).Nodup) rfl (λ_=>(a9 (az EO.mono M1 (hr.mono (by decide)) pZ.m pZ.F.kp pZ.b (aa (ab (i:=0)) (aa (ab (i:=3)) ae))))) (λ_ _ _ _ _ _=>(ao (i:=0) (by decide:(["other","tie"]:List Str).Nodup))) (λ_ _ _ _ _ _=>(fw (aI af (bR.m (CG hr.oQ)) (ab (i:=0)) (ab (i:=1))))) (λ_ _ _ _ _ _=>(ab (i:=0))) bp.nd)
    (ag (ua (i:=4) C9 (a3 aU aL ah (bb af (bW.m (oC rfl)) B.sum Bp (aa (Eu ["other","counts","waiting"] [none,some 2,some 3] (by rfl) (by decide:(["other","counts","waiting"]:List Str).Nodup) rfl (a9 (ab (i:=6))) (λ_ _ _ _ _ _=>(ao (i:=0) (by decide:(["other","counts","waiting"]:List Str).Nodup))) (λ_ _ _ _ _ _=>ij) (λ_ _ _ _ _ _=>(az ic.mono Ih (hr.mono (by decide)) g7.m g7.F.kp g7.b (aa (ab (i:=1)) (aa (az yC.mono E_ (hr.mono (by decide)) gj.m gj.F.kp gj.b (aa (ab (i:=2)) (aa (ab (i:=0)) ae))) ae))))) ae))) bp.nd)
    (aj (aP (i:=3) (az yC.mono E_ (hr.mono (by decide)) gj.m gj.F.kp gj.b (aa (ab (i:=3)) (aa (ab (i:=5)) ae))) bp.nd)))))
    (aj (aJ (ab (i:=4))))))))),λds R h=>?_⟩
 obtain⟨n,ps,ts,rfl,ok,hn,hl,hp,hx,q⟩:=h;refine⟨_,rfl,trivial,_,rfl,trivial,n,ps.map tI,ts,by rw[ph],hl,hp,hx,λhg=>?_⟩
 obtain⟨ns,rfl,hs⟩:=jg ok hg;have q:=q hg ns rfl hs;refine⟨_,rfl,trivial,n,ps,rfl,ok,hn,trivial,_,rfl,trivial,_,rfl,trivial,km,trivial,tj,_,rfl,_,rfl,trivial,?_⟩;refine⟨λm β=>∃ws k x5 x6,β=[some (.val false (jv n ps)),some (.val false (.lst ((ns.map tI).map kD))),some (.val true (v_ n (sT ps))),some (.val true (.lst (ws.map kL))),some (.val true (.int ((k:Nat):Int))),x5,x6]/\wa [(0,n)] (ns.take m)=some ws/\k+eV ps ws (ns.drop m)=eV ps [(0,n)] ns,⟨[(0,n)],0,_,_,rfl,rfl,Wh _⟩,?_,?_⟩
 ·rintro m d β hd ⟨ws,k,x5,x6,rfl,hw,hk⟩;rw[V2,Vd]at hd;obtain⟨p,hp,rfl⟩:=Vj.mp hd;obtain⟨u,eb,hu,Iq⟩:=BQ ok hs hp hw;have S1:=Iq.rO hn;refine⟨_,rfl,trivial,_,rfl,trivial,n,ps,ws,rfl,ok,by lia,_,rfl,trivial,?_⟩
  refine dZ (λo:Nat×Nat=>HT.lexLt (tI o) (tI p)) (λo=>kD (tI o)) trivial (eT (Vm oU (Vm ok.sm (by decide)))) (λo ho x0 ou J AK j1 j2=>?_) ?_
  ·refine⟨_,rfl,trivial,_,rfl,_,DG _ _,_,rfl,?_⟩
   by_cases c5:HT.lexLt (tI o) (tI p)=true
   ·exact iu c5 ⟨_,rfl,rfl,AK,j1 c5 _⟩
   ·exact d4 (WE.mpr c5) (j2 (WE.mpr c5) _)
  ·refine⟨_,_,rfl,trivial,_,rfl,_,rfl,trivial,?_⟩;refine dZ (λ_=>true) (λo=>.int ((aG ps ((wb ws o).getD []):Nat):Int)) trivial (eT (Vm (Wg _ _) (Vm oU (Vm ok.sm (by decide))))) (λo ho x0 ou J AK j1 j2=>?_) ?_
   ·obtain⟨h1,h2⟩:=VF.mp ho;obtain⟨h3,v,ev⟩:=Fq h1;have j1:=j1 rfl;rw[ev]at j1;refine⟨_,rfl,trivial,_,rfl,trivial,_,rfl,trivial,ws,o,rfl,by lia,?_⟩
    rw[ev];exact⟨trivial,n,ps,_,v,rfl,ok,hn,f7 (ok.lt o h3).1 Iq ev,λp _=>UU _,trivial,AK,j1 _⟩
   ·rw[eG];refine⟨trivial,_,sum_ints,_,rfl,_,rfl,?_⟩;have e:(k:Int)+(1+(((iG ps ws).filter λo=>HT.lexLt (tI o) (tI p)).map λo=>((aG ps ((wb ws o).getD []):Nat):Int)).sum)=((k+qK ps ws p:Nat):Int):=by
     rw[lb];unfold qK;lia
    refine⟨_,rfl,trivial,_,rfl,trivial,ws,p,rfl,by lia,?_⟩
    rw[eb];refine⟨u,_,_,_,by rw[e];rfl,hu,?_⟩
    obtain⟨hm,rfl⟩:=UY.mp hp;rw[VN hm]at hk
    change k+(qK ps ws ns[m]+eV ps ((wb ws ns[m]).getD []) _)=_ at hk
    rw[eb]at hk
    change k+(qK ps ws ns[m]+eV ps u _)=_ at hk
    lia
 ·rintro β ⟨ws,k,x5,x6,rfl,hw,hk⟩;rw[US,US,YV]at hk;rw[show IB ps n ns=.int ((k:Nat):Int) by unfold IB;rw[<- hk];rfl]at q
  exact⟨_,rfl,trivial,q⟩
end
section
variable {P:UX}{w:Vb}{K:PySem.W.Frag}{mg:Str->Option UR}{base:Heap}
def l_:FD:=λds R=>∃(n:Nat) (ps:List (Nat×Nat)) (k:Int),ds=[jv n ps,.int k]/\kB n ps/\n<=40/\(¬ (0<=k/\k<sT ps n 0)->False)/\(0<=k->k<sT ps n 0->R (b3 (sat ps n k)))
theorem l_.mono:cD l_:=λds R R' k ⟨n,ps,j,e,h1,h2,h3,q⟩=>⟨n,ps,j,e,h1,h2,h3,λa b=>k _ (q a b)⟩
def za (ps:List (Nat×Nat))(n:Nat)(k:Int)(m:Nat):List (Nat×Nat)×List (Nat×Nat)×Int:=(ps.take m).foldl (jC ps) ([(0,n)],[],k)
theorem qD {fs:List (Nat×Nat)}{p:Nat×Nat}:b3 (fs++[p])=.lst (fs.map (λp=>kD (tI p))++[kD (tI p)]):=by
 unfold b3;rw[Vx];rfl
theorem QI {p:Nat×Nat}{lt:List (Nat×Nat)}:oi (b3 (p::lt)) (.int 0)=some (kD (tI p)):=lT (i:=0) rfl rfl
theorem oT {bs:List (Nat×Nat)}{p:Nat×Nat}(h:bs.length<=1000):uS (b3 bs) (.lst [kD (tI p)])=some (.lst ((bs++[p]).map kL)):=by
 rw[Vx];exact gJ (by rw[US];show _+1<=_;lia)
theorem rj {ps bs lt:List (Nat×Nat)}{n:Nat}{p:Nat×Nat}:ue ps n bs.reverse (p::lt)=some (bs++[p]):=by
 unfold ue;rw[V9]
theorem CU {ps b:List (Nat×Nat)}{n:Nat}{z:Nat×Nat}:ue ps n (b++[z]).reverse []=ue ps n b.reverse ((iG ps ((wa [(0,n)] b).getD [])).filter λo=>HT.lexLt (tI z) (tI o)):=by
 rw[XM];show ue ps n (z::b.reverse) []=_
 conv=>lhs;unfold ue
 rw[V9]
theorem rM:∀t u:List Int,yv.de t u=HT.lexLt u t
 |[],[]=>rfl
 |[],_::_=>rfl
 |_::_,[]=>rfl
 |x::xs,y::ys=>by
  rw[yv.rN,HT.bY,rM xs ys]
  by_cases h:x=y
  ·rw[if_pos h,if_pos h.symm]
  ·rw[if_neg h,if_neg λe=>h e.symm]
theorem wz (t u:List Int):LV (kD t) (kD u)=some (.bl (HT.lexLt u t)):=by
 show (match bV (t.map D.int),bV (u.map D.int)with|some ns,some ms=>some (D.bl (yv.de ns ms))|_,_=>none)=_
 rw[cS,cS];show some (D.bl (yv.de t u))=_;rw[rM]
theorem w_ {ps:List (Nat×Nat)}{n m:Nat}{k:Int}{p:Nat×Nat}(h:ps[m]?=some p):za ps n k (m+1)=jC ps (za ps n k m) p:=by
 unfold za;rw[V7,h,List.foldl_append];rfl
theorem bC:aC ["row","number","counts","waiting","found","left","tie","later","ways"] ["row","number"] (ak iY):=⟨rfl,rfl,rfl,by decide +kernel,rfl,by decide +kernel,by decide +kernel⟩
theorem xu {xX nQ} (EV:Qb K mg xX nQ) {kz gb} (mG:D7 K mg kz gb) {jl eK} (qk:D3 K mg jl eK) {jk eJ} (qj:D2 K mg jk eJ) {jj eI} (qi:D6 K mg jj eI) {fR cL} (g7:D5 K mg fR cL) {hG df} (oh:D4 K mg hG df) {gi cN} (gj:DY K mg gi cN) (B:u3 mg):aD P w K mg base bw 4 xX nQ ["row","number"] (bZ P w true l_):=by
 have Me:aD P w K mg base bw 3 _ _ _ (bZ P w true dv):=jK mG qk qj qi g7 oh B;have Ih:aD P w K mg base bw 1 _ _ _ (bZ P w true ic):=kR g7;have E_:aD P w K mg base bw 1 _ _ _ (bZ P w true yC):=vF gj B;refine j_ EV.F bC (λds R KA=> by obtain⟨n,ps,k,e,_⟩ := KA;subst e;rfl) λcC A outer s H E hr=>⟨_,(ag (aP (i:=2) (az dv.mono Me (hr.mono (by decide)) mG.m mG.F.kp mG.b (aa (ab (i:=0)) ae)) bC.nd)
    (ag (bO (cw (xk ah (cG uc (ab (i:=1)) (i6 bX (aK af bf (aK af bf (ab (i:=2)) ah) (aK af bf (ab (i:=0)) ah)))))) nB aY)
    (ag (aP (i:=3) (a6 (aa (bz (aa ah (aa (aK af bf (ab (i:=0)) ah) ae))) ae)) bC.nd)
    (ag (fJ (i:=4) (λ_=>(a6 ae)) bC.nd)
    (ag (aP (i:=5) (ab (i:=1)) bC.nd)
    (ag (cb VE rfl (a9 (aK af bf (ab (i:=0)) ah)) (ao (i:=6) bC.nd) (ag (aP (i:=7) (az yC.mono E_ (hr.mono (by decide)) gj.m gj.F.kp gj.b (aa (ab (i:=3)) (aa (ab (i:=6)) ae))) bC.nd)
    (aj (bO (m9.t (fG (aI af (bR.m pL) (ab (i:=5)) ah) (dQ (aI af (bR.m i_) (ab (i:=7)) cH)))) (ag (aP (i:=8) (az ic.mono Ih (hr.mono (by decide)) g7.m g7.F.kp g7.b (aa (ab (i:=2)) (aa (ab (i:=7)) ae))) bC.nd)
    (aj (bO (aI af (bR.m uc) (ab (i:=5)) (ab (i:=8))) (ag (jG (i:=4) (λ_=>(ab (i:=6))))
    (ag (aP (i:=3) (ab (i:=7)) bC.nd)
    (aj (ua (i:=5) vW ah bC.nd)))) (aj (ua (i:=5) vW (ab (i:=8)) bC.nd))))) aY))))
    (aj (pG (i:=4))))))))),λds R h=>?_⟩
 obtain⟨n,ps,k,rfl,ok,hn,hx,q⟩:=h;refine⟨_,rfl,trivial,n,ps,rfl,ok,hn,?_⟩;refine⟨_,rfl,_,rfl,lY (λh1=>?_) λh1=>⟨_,rfl,iu rfl (hx λz=>h1 z.1)⟩⟩;refine⟨_,rfl,trivial,_,EA (i:=0) rfl (Ve _),.inr ⟨trivial,_,rfl,trivial,_,rfl,_,EB (l:=n) rfl (by lia),_,rfl,_,rfl,?_⟩⟩
 by_cases h2:k<sT ps n 0
 ·refine d4 (by show (!decide _)=false;rw[decide_eq_true h2];rfl) ?_
  have q:=q h1 h2;refine⟨trivial,_,rfl,trivial,_,rfl,trivial,km,trivial,tj,Ve _,trivial,_,rfl,_,rfl,trivial,_,rfl,.inr ⟨_,rfl,trivial,?_⟩⟩;refine⟨λm β=>∃ws fs l x6 x7 x8,β=[some (.val false (jv n ps)),some (.val false (.int k)),some (.val true (v_ n (sT ps))),some (.val true (.lst (ws.map kL))),some (.own (b3 fs)),some (.val true (.int l)),x6,x7,x8]/\za ps n k m=(ws,fs,l)/\eS n 0 ws/\fs.length<=m,⟨[(0,n)],[],k,_,_,_,rfl,rfl,ft,Ve _⟩,?_,?_⟩
  ·rintro m d β hd ⟨ws,fs,l,x6,x7,x8,rfl,hu,hw,hf⟩;rw[Vd]at hd;obtain⟨p,hp,rfl⟩:=Vj.mp hd;have S1:=hw.rO hn;have hm:=ok.lt p (Vv hp);have c5:m<ps.length:=(UY.mp hp).1;have SF:=ok.sm;have eu:=w_ (n:=n) (k:=k) hp;rw[hu]at eu;unfold jC at eu;refine⟨_,rfl,trivial,_,rfl,trivial,ws,p,rfl,by lia,?_⟩
   cases eb:wb ws p with
   |none =>
    simp only[eb]at eu;refine⟨_,rfl,trivial,_,rfl,_,rfl,lY (λc1=>⟨_,rfl,trivial,_,rfl,_,rfl,d4 rfl ⟨ws,fs,l,_,_,_,rfl,eu,hw,by lia⟩⟩) λc1=>⟨ws,fs,l,_,_,_,rfl,eu,hw,by lia⟩⟩
   |some v =>
    simp only[eb]at eu;have hv:=f7 hm.1 hw eb;refine⟨_,rfl,trivial,_,rfl,_,rfl,lY (λc1=>?_) λc1=>?_⟩
    ·rw[if_pos (show 0<l from c1)]at eu
     refine⟨_,rfl,trivial,_,rfl,_,rfl,iu rfl ?_⟩;refine⟨_,rfl,trivial,_,rfl,trivial,n,ps,_,v,rfl,ok,hn,hv,λp _=>UU _,?_⟩;refine⟨_,rfl,trivial,_,rfl,_,rfl,_,rfl,lY (λc2=>?_) λc2=>?_⟩
     ·rw[if_pos (show l<=_ from c2)]at eu
      exact⟨⟨_,rfl⟩,_,rfl,rfl,_,rfl,by rw[US];exact ve (by lia),_,rfl,_,_,rfl,_,rfl,v,fs++[p],l-1,_,_,_,by rw[qD];rfl,eu,hv,by rw[Vr];exact Nat.succ_le_succ hf⟩
     ·rw[if_neg (show ¬ l<=_ from c2)]at eu
      exact⟨_,_,rfl,_,rfl,_,rfl,ws,fs,_,_,_,_,rfl,eu,hw,by lia⟩
    ·rw[if_neg (show ¬ 0<l from c1)]at eu
     exact⟨ws,fs,l,_,_,_,rfl,eu,hw,by lia⟩
  ·rintro β ⟨ws,fs,l,x6,x7,x8,rfl,hu,hw,hf⟩;rw[US]at hu;unfold za at hu;rw[WJ]at hu;unfold sat at q;rw[hu]at q;exact⟨_,rfl,q⟩
 ·exact iu (by show (!decide _)=true;rw[decide_eq_false h2];rfl) (hx λz=>h2 z.2)
def EL (ps:List (Nat×Nat))(n:Nat)(ns:List (Nat×Nat)):D:=match CT ps n ns with
 |none=>.bH
 |some l=>b3 l
theorem c3:aC ["row","ties","begun","later","last"] ["row","ties"] (ak fy):=⟨rfl,rfl,rfl,by decide +kernel,rfl,by decide +kernel,by decide +kernel⟩
theorem Gp {xY nR} (EX:Qa K mg xY nR) {kA gc} (mH:II K mg kA gc) {wm ji} (dE:Ii K mg wm ji) {tw g_} (dO:Fb K mg tw g_) {qh gh} (dF:DZ K mg qh gh) {nZ fk} (dS:D9 K mg nZ fk) {nY fh} (dX:D8 K mg nY fh) {m5 ib} (pZ:Mj K mg m5 ib) {mZ ia} (pY:Mk K mg mZ ia) {gi cN} (gj:DY K mg gi cN) (B:u3 mg):aD P w K mg base bw 6 xY nR ["row","ties"] (bZ P w true (md EL)):=by
 have Mf:aD P w K mg base bw 5 _ _ _ (bZ P w true fT):=lL mH dE dO dF dS dX B.toBs;have M1:aD P w K mg base bw 2 _ _ _ (bZ P w true EO):=Em pZ gj B;have M0:aD P w K mg base bw 2 _ _ _ (bZ P w false EN):=El pY gj B;refine j_ EX.F c3 (λds R Kz=> by obtain⟨n,ps,ts,e,_⟩ := Kz;subst e;rfl) λcC A outer s H E hr=>⟨_,(ag (pH (az fT.mono Mf (hr.mono (by decide)) mH.m mH.F.kp mH.b (aa (ab (i:=0)) (aa (ab (i:=1)) ae))))
    (ag (fJ (i:=2) (λ_=>(gV aU gK B.list dw (aa (ab (i:=1)) ae))) c3.nd)
    (ag (aP (i:=3) (az EO.mono M1 (hr.mono (by decide)) pZ.m pZ.F.kp pZ.b (aa (ab (i:=0)) (aa (az EN.mono M0 (hr.mono (by decide)) pY.m pY.F.kp pY.b (aa (ab (i:=0)) (aa (ab (i:=2)) ae))) ae))) c3.nd)
    (ag (qZ VE (m9.t (fG (pA (ab (i:=2))) (dQ (cw (pA (ab (i:=3))))))) (ag (aP (i:=4) (zG (i:=2)) c3.nd)
    (aj (zd (i:=3) false ["tie","last"] [none,some 4] (by rfl) (by decide:(["tie","last"]:List Str).Nodup) rfl (λ_=>(a9 (az EO.mono M1 (hr.mono (by decide)) pZ.m pZ.F.kp pZ.b (aa (ab (i:=0)) (aa (az EN.mono M0 (hr.mono (by decide)) pY.m pY.F.kp pY.b (aa (ab (i:=0)) (aa (ab (i:=2)) ae))) ae))))) (λ_ _ _ _ _ _=>(ao (i:=0) (by decide:(["tie","last"]:List Str).Nodup))) (λ_ _ _ _ _ _=>(fw (aI af (bR.m (vE hr.oQ)) (ab (i:=0)) (ab (i:=1))))) (λ_ _ _ _ _ _=>(ab (i:=0))) c3.nd))))
    (ag (bO (cw (pA (ab (i:=3)))) (aj (aJ cH)) aY)
    (aj (aJ (a3 aU aL (ab (i:=2)) (a6 (aa (aK af bf (ab (i:=3)) ah) ae)))))))))),λds R h=>?_⟩
 obtain⟨n,ps,ts,rfl,ok,hn,hl,hp,hx,q⟩:=h;refine⟨_,rfl,trivial,_,rfl,trivial,n,ps.map tI,ts,by rw[ph],hl,hp,hx,λhg=>?_⟩
 obtain⟨ns,rfl,hs⟩:=jg ok hg;have q:=q hg ns rfl hs;obtain⟨l,ew,hw⟩:=hs.wa ok;rw[<- gN];refine⟨_,rfl,trivial,_,rfl,.inl ⟨gF _,?_⟩⟩;refine⟨trivial,_,rfl,trivial,_,rfl,trivial,_,rfl,trivial,n,ps,ns,rfl,ok,hn,hs,trivial,n,ps,_,rfl,ok,by rw[ew];have:=hw.rO hn;show l.length<=_;lia,?_⟩
 refine⟨λm β=>∃bs lt x4,β=[some (.val false (jv n ps)),some (.val false (b3 ns)),some (.own (b3 bs)),some (.val true (b3 lt)),x4]/\fo ps bs/\m=bs.length/\ue ps n bs.reverse lt=CT ps n ns/\bs.length<=1000,⟨_,ns,_,_,rfl,hs,rfl,rfl,by rw[US]at hl;exact hl⟩,?_⟩
 rintro m β ⟨bs,lt,x4,rfl,hb,rfl,e,OZ⟩;unfold EL at q;rw[<- e]at q;rcases List.eq_nil_or_concat bs with rfl|⟨b,z,rfl⟩
 ·refine⟨_,rfl,_,rfl,d4 rfl ?_⟩;cases lt with
  |nil=>exact⟨_,rfl,_,rfl,iu rfl ⟨trivial,q⟩⟩
  |cons p lt =>
   rw[rj]at q;exact⟨_,rfl,_,rfl,d4 rfl ⟨_,rfl,trivial,_,rfl,trivial,_,QI,trivial,tj,.inr ⟨_,oT OZ,.inl ⟨gF _,trivial,q⟩⟩⟩⟩
 ·rw[List.concat_eq_append]at *
  refine⟨_,rfl,_,rfl,?_⟩;have ne:(!((b++[z]).map λp=>kD (tI p)).isEmpty)=true:=by rw[Vx];simp
  refine iu ne ?_;cases lt with
  |cons p lt =>
   rw[rj]at q;exact⟨_,rfl,_,rfl,d4 rfl ⟨_,rfl,_,rfl,d4 rfl ⟨_,rfl,trivial,_,rfl,trivial,_,QI,trivial,tj,.inr ⟨_,oT OZ,.inl ⟨gF _,trivial,q⟩⟩⟩⟩⟩
  |nil =>
   have fP:fo ps b:=hb.sub (List.sublist_append_left _ _);obtain⟨l',TC,Sz⟩:=fP.wa ok;have S0:=Sz.rO hn;refine⟨_,rfl,_,rfl,iu rfl ?_⟩;refine⟨b.map λp=>kD (tI p),kD (tI z),by rw[qD];rfl,?_⟩
   refine⟨_,rfl,trivial,_,rfl,trivial,_,rfl,trivial,n,ps,b,rfl,ok,hn,fP,trivial,n,ps,_,rfl,ok,by rw[TC];show l'.length<=_;lia,_,rfl,trivial,?_⟩
   refine dZ (λo:Nat×Nat=>HT.lexLt (tI z) (tI o)) (λo=>kD (tI o)) trivial (eT (Vm oU (Vm ok.sm (by decide)))) (λo ho x0 ou J AK j1 j2=>?_) ?_
   ·refine⟨_,rfl,trivial,_,rfl,_,wz _ _,_,rfl,?_⟩
    by_cases c5:HT.lexLt (tI z) (tI o)=true
    ·exact iu c5 ⟨_,rfl,rfl,AK,j1 c5 _⟩
    ·exact d4 (WE.mpr c5) (j2 (WE.mpr c5) _)
   ·rw[CU]at e;rw[Vr]at OZ;exact⟨b.length,by rw[Vr];exact YT _,b,_,_,rfl,fP,rfl,e,by lia⟩
end
section
variable {P:UX}{w:Vb}{K:PySem.W.Frag}{mg:Str->Option UR}{base:Heap}{c:Nat->Addr}
theorem Bm {β:Q.a_}{φ1 φ2 φ3 φ4:aX}{a b c d:Int}{R:D->Kd->Q.a_->Prop}(h1:∀R:D->Kd->Q.a_->Prop,R (.int a) .own β->φ1 β R)(h2:∀R:D->Kd->Q.a_->Prop,R (.int b) .own β->φ2 β R)(h3:∀R:D->Kd->Q.a_->Prop,R (.int c) .own β->φ3 β R)(h4:∀R:D->Kd->Q.a_->Prop,R (.int d) .own β->φ4 β R)
  (q:R (.bl (decide (a<b)&&(decide (b<c)&&decide (c<d)))) .own β):pk φ1 (zm HP φ2 (zm HP φ3 (FR HP φ4))) β R:=by
 refine h1 _ (h2 _ ⟨_,rfl,lY (λz1=>h3 _ ⟨_,rfl,lY (λz2=>h4 _ ⟨_,rfl,?_⟩) (λz2=>?_)⟩) (λz1=>?_)⟩)
 ·simpa[z1,z2] using q
 ·simpa[z1,z2] using q
 ·simpa[z1] using q
theorem mQ:aC ["row"] ["row"] (ak di):=⟨rfl,rfl,rfl,by decide +kernel,rfl,by decide +kernel,by decide +kernel⟩
theorem xv {yb nX} (E2:P_ K mg yb nX) (B:Bs mg):aD P w K mg base bw 1 yb nX ["row"] (bZ P w true sC):=by
 refine j_ E2.F mQ (λds R Ky=> by obtain⟨n,ps,e,_⟩ := Ky;subst e;rfl) λcC A outer s H E hr=>⟨_,(aj (aJ (bz (aa (aK af bf (ab (i:=0)) ah) (aa (gV aU gK B.list dw (aa (aK af bf (ab (i:=0)) ah) ae)) ae))))),λds R h=>?_⟩
 obtain⟨n,ps,rfl,q⟩:=h;exact⟨_,rfl,trivial,_,rfl,trivial,_,rfl,trivial,_,rfl,.inr ⟨trivial,_,rfl,.inl ⟨jh,trivial,km,trivial,q⟩⟩⟩
theorem kn:aC ["one","other"] ["one","other"] (ak cF):=⟨rfl,rfl,rfl,by decide +kernel,rfl,by decide +kernel,by decide +kernel⟩
theorem Gu {sg kh} (BI:M4 K mg sg kh):aD P w K mg base bw 1 sg kh ["one","other"] (bZ P w true gG):=by
 refine j_ BI.F kn (λds R Kx=> by obtain⟨t,u,e,_⟩ := Kx;subst e;rfl) λcC A outer s H E hr=>⟨_,(aj (aJ (zH (i7 (aK af bf (ab (i:=0)) ah) (cG bX (aK af bf (ab (i:=1)) ah) (cG bX (aK af bf (ab (i:=0)) ah) (i6 bX (aK af bf (ab (i:=1)) ah))))) (jF (i7 (aK af bf (ab (i:=1)) ah) (cG bX (aK af bf (ab (i:=0)) ah) (cG bX (aK af bf (ab (i:=1)) ah) (i6 bX (aK af bf (ab (i:=0)) ah))))))))),λds R h=>?_⟩
 obtain⟨t,u,rfl,⟨a,b,rfl⟩,⟨c,d,rfl⟩,q⟩:=h;refine Bm (a:=a) (b:=c) (c:=b) (d:=d) (λR h=>⟨_,rfl,trivial,_,rfl,h⟩) (λR h=>⟨_,rfl,trivial,_,rfl,h⟩) (λR h=>⟨_,rfl,trivial,_,rfl,h⟩) (λR h=>⟨_,rfl,trivial,_,rfl,h⟩) ⟨_,rfl,Ip (λh=>⟨trivial,?_⟩) (λh=>Bm (a:=c) (b:=a) (c:=d) (d:=b) (λR h=>⟨_,rfl,trivial,_,rfl,h⟩) (λR h=>⟨_,rfl,trivial,_,rfl,h⟩) (λR h=>⟨_,rfl,trivial,_,rfl,h⟩) (λR h=>⟨_,rfl,trivial,_,rfl,h⟩) ⟨trivial,?_⟩)⟩
 ·have:bL [a,b] [c,d]=true:=by show (_ || _)=true;rw[h];rfl
  rw[<- this];exact q
 ·have:bL [a,b] [c,d]=(decide (c<a)&&(decide (a<d)&&decide (d<b))):=by show (_ || _)=_;rw[h];rfl
  rw[<- this];exact q
def sA:FD:=λds R=>∃(ts:List (List Int)) (t:List Int),ds=[.lst (ts.map kD),kD t]/\Pairs ts/\Pair t/\R (.bl (ts.all λu=>!bB u t&&!bL u t))
theorem sA.mono:cD sA:=λds R R' k h=>by obtain⟨ts,t,e,h1,h2,q⟩:=h;exact⟨ts,t,e,h1,h2,k _ q⟩
theorem j5:aC ["some","tie","one"] ["some","tie"] (ak fB):=⟨rfl,rfl,rfl,by decide +kernel,rfl,by decide +kernel,by decide +kernel⟩
theorem CN {ya nV} (E1:P9 K mg ya nV) {sg kh} (BI:M4 K mg sg kh):aD P w K mg base bw 2 ya nV ["some","tie"] (bZ P w true sA):=by
 have Ub:aD P w K mg base bw 1 _ _ _ (bZ P w true gG):=Gu BI;refine j_ E1.F j5 (λds R Kw=> by obtain⟨ss,p,e,_⟩ := Kw;subst e;rfl) λcC A outer s H E hr=>⟨_,(ag (cb VE rfl (a9 (ab (i:=0))) (ao (i:=2) j5.nd) (aj (bO (m9.t (iq (aI af (bR.m (pK hr.iO)) (aK af bf (ab (i:=2)) ah) (ab (i:=1))) (iq (aI af (bR.m (pK hr.iO)) (aK af bf (ab (i:=2)) ah) (ab (i:=1))) (gU (bS (az gG.mono Ub (hr.mono (by decide)) BI.m BI.F.kp BI.b (aa (ab (i:=2)) (aa (ab (i:=1)) ae)))))))) (aj (aJ lF)) aY)))
    (aj (aJ lF))),λds R h=>?_⟩
 obtain⟨ts,t,rfl,hp,ht,q⟩:=h;refine⟨_,rfl,_,rfl,trivial,?_⟩;refine⟨λm β=>(∃x2,β=[some (.val false (.lst (ts.map kD))),some (.val false (kD t)),x2])/\(ts.take m).all (λu=>!bB u t&&!bL u t)=true,⟨⟨_,rfl⟩,by rfl⟩,?_,?_⟩
 ·rintro m d β hd ⟨⟨x2,rfl⟩,hm⟩;rw[Vd]at hd;obtain⟨u,hu,rfl⟩:=Vj.mp hd;have um:=Vv hu;obtain⟨a,b,rfl⟩:=hp u um;have bad:(!bB [a,b] t&&!bL [a,b] t)=false->R (.bl false):=λz=>by
   have e:ts.all (λu=>!bB u t&&!bL u t)=false:=List.all_eq_false.mpr ⟨_,um,by rw[z];exact VY⟩
   rw[e]at q;exact q
  refine⟨_,rfl,trivial,_,rfl,trivial,_,rfl,_,qa a t,_,rfl,lY (λz=>iu rfl ⟨trivial,bad ?_⟩) (λz=>⟨_,rfl,trivial,_,rfl,trivial,_,rfl,_,qa b t,_,rfl,lY (λz2=>iu rfl ⟨trivial,bad ?_⟩) (λz2=>⟨_,rfl,trivial,_,rfl,trivial,[a,b],t,rfl,⟨_,_,rfl⟩,ht,_,rfl,Ip (λz3=>⟨trivial,bad ?_⟩) (λz3=>⟨⟨_,rfl⟩,?_⟩)⟩)⟩)⟩
  ·rw[dC.mpr ⟨a,by simp,z⟩];rfl
  ·rw[dC.mpr ⟨b,by simp,z2⟩];rfl
  ·rw[z3,Bool.not_true,Xv]
  ·have hs:bB [a,b] t=false:=WE.mpr λh=>by
    obtain⟨i,h1,h2⟩:=dC.mp h;rcases U0.mp h1 with rfl|h1
    ·exact z h2
    ·rw[U8.mp h1]at h2;exact z2 h2
   rw[V7,hu,List.all_append,hm,Bool.true_and];show ((!bB [a,b] t&&!bL [a,b] t)&&true)=true;rw[hs,z3];rfl
 ·rintro β ⟨⟨x2,rfl⟩,hm⟩;rw[US,WJ]at hm;rw[hm]at q;exact⟨trivial,q⟩
end
end iH
namespace L2.Q
open PySem PySem.Spec PySem.SeqAt PyProof.Rows
section
variable {X:Cx}{C:Cfg}{e k:Expr}{φ:aX}{p:Bool}{i:Nat}{x:Str}{pos px ap cp:Pos}
theorem t_ (he:∀U,PQ X (C.u U) p e φ)(hN:X.N[i]?=some x:=by rfl)(hv:sR X.env.scope x:=by first|exact .inl rfl|exact .inr (.inl rfl)|exact .inr (.inr rfl))(hd:(x==("__debug__" : Str))=false:=by decide)(gm:(x==("__classdict__" : Str))=false:=by decide)
  (fg:Xg (.Name x px) "extend" X.env (eval (.Name x px) X.env)=eval (.Name x px) X.env:=by rfl)
  (pT:((WG cp (U5 [e] X.env)).all (λx=>!x.1)&&(Y9 cp (Yq [] X.env)).all (λx=>x.1.isSome)&&decide ([e].length+([]:List XZ).length+(if ([]:List XZ).isEmpty then 0 else 1)<30))=true:=by rfl)
  (ff:(ap.endLine==cp.line)=true:=by rfl) (hs:U5 [e] X.env=(false,eval e X.env)::U5 [] X.env:=by rfl) (fO:(WG cp (U5 [] X.env)).any (·.1)=false:=by rfl)
  (uy:Ww (.Call (.Attribute (.Name x px) "extend" ap) [e] [] cp) none pos.line X.env=pure false:=by rfl) :
  PB X C (.Expr (.Call (.Attribute (.Name x px) "extend" ap) [e] [] cp) pos) (λE β=>(∃ds,β[i]?=some (some (.own (.lst ds))))/\φ β λd k β'=>k=.own/\∃ds es,d=.lst es/\β'[i]?=some (some (.own (.lst ds)))/\ds.length+es.length<=U4/\E.nx (β'.set i (some (.own (.lst (ds++es)))))):=by
 refine⟨λE E' β l g=>by obtain⟨h1,q⟩:=g;exact⟨h1,(he λ_=>False).mono _ _ _ (λd k β' g=>by obtain⟨h0,ds,es,h1,h2,h3,q⟩:=g;exact⟨h0,ds,es,h1,h2,h3,l.nx _ q⟩) q⟩,λpins s σ H De I ⟨Z,E,β,⟨own,sq,n⟩,⟨⟨Rb,hb⟩,q⟩,ok⟩=>?_⟩
 refine i4 (pos:=pos) (vB (apos:=ap) (cpos:=cp) PySem.F.plainAttrs_list PySem.F.slot_list_extend PySem.F.type_list_extend xA (cR (pos:=px) hN hv hd gm) (a8 (he λa=>H a=none).pe cJ hs) fg pT ff hs fO) uy pins s σ H De I ?_;obtain⟨a,Uh,A0,h1,h2,h3,h4⟩:=sq.rH hb;refine⟨.ref a,h1,.inl ⟨rfl,_,da.of h2⟩,tQ.of (he λa=>H a=none) (sq.kY (C:=C.z) (U:=λa=>H a=none) λa z=>z) q λd k β' v H1 aA ⟨ek,ds,es,e1,fP,hl,q⟩ o r=>?_⟩;subst ek e1;obtain⟨A2,⟨b,us,A3,rfl,Tn,rfl,ow⟩,CZ,r3⟩:=r;obtain⟨a',vs,A,g1,g2,g3,g4⟩:=o.sq.rH fP;rw[h1]at g1;cases g1;have nd:=o.sq.mB i;rw[g3]at nd;have off:∀c∈A3,∀c'∈A,c≠c':=λc hc c' pU z=>(r3 c (by simp[hc])).2.1 ⟨i,by rw[g3,z];simp[pU]⟩
 obtain⟨s2,hA⟩:=o.sq.putL (C:=C) (U:=λa=>H a=none) (U2:=λ_=>False) (ds':=ds++es) (vs':=vs++us) (A':=A++A3) fP h1 g2 g3 (g4.append ow)
  (V0.mpr ⟨(Vw.mp nd).2,(Vw.mp CZ).2,λx hx y hy z=>off y hy x hx z.symm⟩)
  (λc hc=>by
   rcases Vp.mp hc with hc|hc
   ·exact .inl hc
   ·have:=r3 c (by simp[hc])
    exact .inr ⟨this.2.2,this.2.1,this.1⟩) (λ_ z=>z.elim) (λc hc n z=>z)
 exact⟨a,b,vs,us,rfl,rfl,g2,Tn,by rw[g4.length,ow.length];exact hl,ok.nx _ _ _ ⟨_,s2,B6 (n.trans o.sn) (λb z=>n.free z) g2 (λxs z=>by cases z) ⟨i,by rw[g3];simp⟩ hA⟩ q⟩
theorem Co (K:PySem.W.Frag) {a:Expr} {T:Str} {n:String} {φ:E7} {p0 p2:Pos} (hm:X.mg "isinstance" = none) (ha:PV X a φ) (hT:X.mg T=none) (bT:VI T=some (.type n)) (hK:X.K=K:=by rfl) (hg:Gl X "isinstance" := by rfl) (Lu:Gl X T:=by rfl) (Ll:T≠"__name__" := by decide) (Ly:(T==("__debug__" : Str))=false:=by decide)
  (ku:U5 [a,.Name T p2] X.env=(false,eval a X.env)::U5 [.Name T p2] X.env:=by rfl) (AA:U5 [.Name T p2] X.env=(false,eval (.Name T p2) X.env)::U5 [] X.env:=by rfl) (hpl:(WG pos (U5 [.Name T p2] X.env)).any (·.1)=false:=by rfl) :
  PQ X C true (.Call (.Name "isinstance" p0) [a,.Name T p2] [] pos) (λβ R=>φ (allB β) λd=>∃t k,Mn d=some t/\PySem.W.kitOne K (.type t) (.type n)=some k/\(D.bl k).flat=true/\R (.bl k) .own β):=by
 subst hK;exact gA (C:=C) (gT (p:=p0) (pos:=pos) hm ha hT bT hg Lu Ll Ly ku AA hpl)
end
open L2
theorem BY {l:List Nat}{x:Nat}(hx:x∈l)(h:1<=x):1<=l.sum:=by
 induction l with
 |nil=>cases hx
 |cons a l ih =>
  rw[XE];rcases U0.mp hx with rfl|h'
  ·lia
  ·have:=ih h';lia
theorem vo (ps:List (Nat×Nat)):∀n l i,1<=Il ps n l i
 |0,_,_=>UU _
 |_+1,0,_=>UU _
 |n+1,l+1,i=>by
  refine BY (VA.mpr ⟨none,Vy _ (U8.mpr rfl),rfl⟩) ?_;show 1<=1*Il ps n _ _;rw[Xp];exact vo ps n _ _
theorem FK (ps:List (Nat×Nat))(l i:Nat):1<=sa ps l i:=vo ps l l i
abbrev PN:=Nat×Nat
def sumF (ps:List PN)(c:PN->Bool)(f:PN->Nat):Nat:=((ps.filter c).map f).sum
theorem iT {c:PN->Bool}{f:PN->Nat}:sumF [] c f=0:=rfl
theorem aV {p:PN}{ps:List PN}{c:PN->Bool}{f:PN->Nat}:sumF (p::ps) c f=(if c p=true then f p else 0)+sumF ps c f:=by
 unfold sumF
 by_cases h:c p=true
 ·rw[List.filter_cons_of_pos h,if_pos h,Vs,XE]
 ·rw[X_ h,if_neg h,Wh]
theorem qG {f:PN->Nat}{c:PN->Bool}:∀{as bs:List PN},sumF (as++bs) c f=sumF as c f+sumF bs c f
 |[],bs=>by rw[List.nil_append,iT,Wh]
 |a::as,bs=>by rw[Yb,aV,aV,qG,X3]
theorem cP {c d:PN->Bool}{f g:PN->Nat}:∀{ps:List PN},(∀p∈ps,c p=d p/\(c p=true->f p=g p))->sumF ps c f=sumF ps d g
 |[],_=>rfl
 |p::ps,h=>by
  rw[aV,aV,cP λq hq=>h q (U6 _ hq)];obtain⟨h1,h2⟩:=h p U9;rw[<- h1]
  by_cases hc:c p=true
  ·rw[if_pos hc,if_pos hc,h2 hc]
  ·rw[if_neg hc,if_neg hc]
theorem cO {c:PN->Bool}{f:PN->Nat}:∀{ps:List PN},(∀p∈ps,c p=false)->sumF ps c f=0
 |[],_=>rfl
 |p::ps,h=>by
  rw[aV,h p U9,cO λq hq=>h q (U6 _ hq)];rfl
theorem gO {c d e:PN->Bool}{f:PN->Nat}:∀{ps:List PN},(∀p∈ps,c p=(d p || e p)/\¬ (d p=true/\e p=true))->sumF ps c f=sumF ps d f+sumF ps e f
 |[],_=>rfl
 |p::ps,h=>by
  rw[aV,aV,aV,gO λq hq=>h q (U6 _ hq)];obtain⟨h1,h2⟩:=h p U9;rw[h1];cases hd:d p <;> cases he:e p
  ·simp
  ·simp;lia
  ·simp;lia
  ·exact absurd ⟨hd,he⟩ h2
theorem oX {c d:PN->Bool}{f:PN->Nat}:∀{ps:List PN},(∀p∈ps,c p=true->d p=true)->sumF ps c f<=sumF ps d f
 |[],_=>UU _
 |p::ps,h=>by
  rw[aV,aV];have:=oX (f:=f) λq hq=>h q (U6 _ hq)
  by_cases hc:c p=true
  ·rw[if_pos hc,if_pos (h p U9 hc)];lia
  ·rw[if_neg hc];lia
theorem qF {c:PN->Bool}{f:PN->Nat}{a:Nat}:∀{ps:List PN},sumF ps c (λp=>f p*a)=sumF ps c f*a
 |[]=>by rw[iT,iT,Nat.zero_mul]
 |p::ps=>by
  rw[aV,aV,qF,YX]
  congr 1
  by_cases hc:c p=true
  ·rw[if_pos hc,if_pos hc]
  ·rw[if_neg hc,if_neg hc,Nat.zero_mul]
theorem kJ {p:PN}{f:PN->Nat}:∀{ps:List PN},ps.Nodup->p∈ps->sumF ps (λo=>decide (o=p)) f=f p
 |[],_,h=>nomatch h
 |q::ps,nd,h=>by
  rw[aV];have JM:=Vw.mp nd;rcases U0.mp h with rfl|h
  ·rw[if_pos (decide_eq_true rfl),cO (c:=λo=>decide (o=p)) λo ho=>decide_eq_false λ(z:o=p)=>JM.1 (z▸ho)];rfl
  ·have ne:q≠p:=λz=>JM.1 (z▸h);rw[if_neg (λz=>ne (of_decide_eq_true z)),kJ JM.2 h,Wh]
def yz (v p:PN):Bool:=decide (v.1<=p.1/\p.2<v.2)
theorem zb {ps:List PN}(hp:∀p∈ps,p.1<p.2):∀l i,sa ps l i=1+sumF ps (yz (i,i+l)) (λp=>sa ps (p.2-(p.1+1)) (p.1+1)*sa ps (i+l-(p.2+1)) (p.2+1))
 |0,i=>by
  rw[cO (c:=yz (i,i+0)) λp h=>decide_eq_false λz=>?_]
  ·rfl
  ·have:=hp p h;have:=z.1;have:=z.2;dsimp only at *
   lia
 |l+1,i=>by
  have e:sa ps (l+1) i=((fZ ps i (i+l+1)).map (i5 ps i (i+l+1))).sum:=o_ hp;rw[e];unfold fZ;rw[Vx,List.sum_append,Vs,YK,XE,List.sum_nil,Nat.add_zero,lC,show i+l+1-(i+1)=l by lia,zb hp l (i+1)]
  have a:(((((ny ps i).filter λk=>decide (k<i+l+1)).map some).map (i5 ps i (i+l+1))).sum)=sumF ps (λp=>decide (p.1=i)&&decide (p.2<i+l+1)) (λp=>sa ps (p.2-(p.1+1)) (p.1+1)*sa ps (i+(l+1)-(p.2+1)) (p.2+1)):=by
   unfold ny sumF;rw[List.filter_map,V2,V2,YD]
   congr 1
   rw[YL (q:=λp=>decide (p.1=i)&&decide (p.2<i+l+1)) λp hp=>by simp only[Function.comp];exact Bool.and_comm _ _]
   refine V4 λp hp=>?_;obtain⟨_,h⟩:=VF.mp hp;have h1:=of_decide_eq_true (VL.mp h).1;show i5 ps i (i+l+1) (some p.2)=_;rw[lB,h1];rfl
  rw[a];generalize hA:sumF ps (λp=>decide (p.fst=i)&&decide (p.snd<i+l+1)) _=A;rw[show ∀B:Nat,A+(1+B+0)=1+(A+B) from λB=>by lia,<- hA]
  refine congrArg (1+·) ?_;rw[gO (c:=yz (i,i+(l+1))) (d:=λp=>decide (p.1=i)&&decide (p.2<i+l+1)) (e:=yz (i+1,i+1+l))]
  ·congr 1
   refine cP λp h=>⟨rfl,λ_=>by rw[show i+(l+1)-(p.2+1)=i+1+l-(p.2+1) by lia]⟩
  ·intro p h;constructor
   ·unfold yz;rw[<- Bool.decide_and,<- Bool.decide_or];refine decide_eq_decide.mpr ?_;dsimp only;lia
   ·rintro⟨z1,z2⟩;have z1:=of_decide_eq_true (VL.mp z1).1;have z2:=of_decide_eq_true z2;have:=z2.1;dsimp only at this;lia
theorem AZ {ps:List PN}:∀{ws:List PN} {a:Nat},ws.foldl (fW ps) a=a*aG ps ws
 |[],a=>by show a=a*1;rw[Nat.mul_one]
 |v::ws,a=>by
  show ws.foldl (fW ps) (a*_)=a*ws.foldl (fW ps) (1*_);rw[AZ,AZ (a:=1*_),Xp,Nat.mul_assoc]
theorem fF {ps ws:List PN}{v:PN}:aG ps (v::ws)=sa ps (v.2-v.1) v.1*aG ps ws:=by
 show ws.foldl (fW ps) (1*_)=_;rw[AZ,Xp]
theorem fu {v p:PN}{ws:List PN}:wb (v::ws) p=if v.1<=p.1/\p.2<v.2 then some ((p.1+1,p.2)::(p.2+1,v.2)::ws) else wb ws p:=rfl
theorem oO {p:PN}:∀{ws l:List PN},wb ws p=some l->Ig ws p
 |[],_,e=>nomatch e
 |v::ws,l,e=>by
  rw[fu]at e
  by_cases c:v.1<=p.1/\p.2<v.2
  ·exact⟨v,U9,c⟩
  ·rw[if_neg c]at e;obtain⟨x,hx,kx⟩:=oO e;exact⟨x,U6 _ hx,kx⟩
abbrev fits (ws:List PN)(p:PN):Bool:=(wb ws p).isSome
abbrev below (ps ws:List PN)(p:PN):Nat:=aG ps ((wb ws p).getD [])
theorem gZ {ws:List PN}{p:PN}(h:fits ws p=true):∃l,wb ws p=some l:=X2.mp h
theorem qc {ps:List PN}(hp:∀p∈ps,p.1<p.2){n:Nat}:∀{ws:List PN} {lo:Nat},eS n lo ws->aG ps ws=1+sumF ps (fits ws) (below ps ws)
 |[],_,_=>by rw[cO (c:=fits []) λ_ _=>rfl];rfl
 |v::ws,lo,h=>by
  have ih:=qc hp h.2.2.2;have jo:∀p∈ps,yz v p=true->wb ws p=none:=λp hm hs=>by
   cases e:wb ws p with
   |none=>rfl
   |some l =>
    obtain⟨x,hx,kx⟩:=oO e;have:=h.2.2.2.mem x hx;have:=of_decide_eq_true hs;have:=hp p hm;lia
  rw[gO (d:=yz v) (e:=fits ws)]
  ·rw[cP (c:=yz v) (d:=yz (v.1,v.1+(v.2-v.1))) (g:=λp=>(sa ps (p.2-(p.1+1)) (p.1+1)*sa ps (v.1+(v.2-v.1)-(p.2+1)) (p.2+1))*aG ps ws),qF,cP (c:=fits ws) (d:=fits ws) (g:=below ps ws)]
   ·rw[fF,zb hp (v.2-v.1) v.1];generalize sumF ps (yz (v.1,v.1+(v.2-v.1))) _=A;rw[YX,Xp];lia
   ·intro p hm;refine⟨rfl,λhf=>?_⟩;show aG ps ((wb (v::ws) p).getD [])=_;rw[fu,if_neg];intro z;obtain⟨l,e⟩:=gZ hf;rw[jo p hm (decide_eq_true z)]at e;cases e
   ·intro p hm;have hv:v.1+(v.2-v.1)=v.2:=by have:=h.2.1;lia
    rw[hv];refine⟨rfl,λhs=>?_⟩;show aG ps ((wb (v::ws) p).getD [])=_;rw[fu,if_pos (of_decide_eq_true hs)];show aG ps (_::_::ws)=_;rw[fF,fF,Nat.mul_assoc]
  ·intro p hm;constructor
   ·show (wb (v::ws) p).isSome=_;rw[fu]
    by_cases c:v.1<=p.1/\p.2<v.2
    ·rw[if_pos c,show yz v p=true from decide_eq_true c];rfl
    ·rw[if_neg c,show yz v p=false from decide_eq_false c];rfl
   ·rintro⟨z1,z2⟩;obtain⟨l,e⟩:=gZ z2;rw[jo p hm z1]at e;cases e
end L2.Q
namespace PZ
open PySem PySem.Spec PyProof.Rows TS
def C2:List (List Int)->List (List Int)->Bool
 |[],y=>decide (0<y.length)
 |_::_,[]=>false
 |a::x,b::y=>if a=b then C2 x y else HT.lexLt a b
theorem vO {b:List Int}{y:List (List Int)}:C2 [] (b::y)=true:=decide_eq_true (Nat.succ_pos _)
theorem rJ {a b:List Int}{x y:List (List Int)}:C2 (a::x) (b::y)=if a=b then C2 x y else HT.lexLt a b:=rfl
theorem nH:∀{x y:List (List Int)},C2 x y=false->C2 y x=false->x=y
 |[],[],_,_=>rfl
 |[],_::_,h,_=>by rw[vO]at h;cases h
 |_::_,[],_,h=>by rw[vO]at h;cases h
 |a::x,b::y,h1,h2=>by
  rw[rJ]at h1 h2
  by_cases e:a=b
  ·subst e;rw[if_pos rfl]at h1 h2;rw[nH h1 h2]
  ·rw[if_neg e]at h1;rw[if_neg (Xa e)]at h2;exact absurd (nI h1 h2) e
section
end
section
open PySem.SeqAt
open PySem.AutoSeq1 (wpAny_loadPart')
open PySem.MeetsSeq PySem.MeetsSeq2 PySem.MeetsSeq3
end
end PZ
namespace L2.Q
open PySem PySem.Spec PySem.SeqAt PyProof.Rows PZ
abbrev fx (p q:PN):Bool:=HT.lexLt (tI p) (tI q)
theorem kG {p q:PN}(h:p.1<q.1):fx p q=true:=by
 show HT.lexLt ((p.1:Int)::[(p.2:Int)]) ((q.1:Int)::[(q.2:Int)])=true;rw[HT.bY,if_neg (by lia)]
 exact decide_eq_true (by lia)
theorem d_ (p:PN):fx p p=false:=nJ _
theorem gq {p q:PN}(h:fx p q=true):fx q p=false:=ir h
theorem tM {p q r:PN}(h:fx p q=true)(k:fx q r=true):fx p r=true:=eF h k
theorem k_ {p q:PN}(h:fx p q=false)(k:fx q p=false):p=q:=oW (fL h k)
def sV (ps:List PN):Prop:=ps.Pairwise λp q=>fx p q=true
def Va (ps:List PN):List PN->List PN->Prop
 |_,[]=>True
 |ws,t::ts=>t∈ps/\∃l,wb ws t=some l/\Va ps l ts
theorem gu {ps ws:List PN}{t:PN}:qK ps ws t=1+sumF ps (λo=>fx o t&&fits ws o) (below ps ws):=by
 unfold qK iG sumF;rw[YD]
theorem cZ {ps ws ts l:List PN}{t:PN}(e:wb ws t=some l):eV ps ws (t::ts)=qK ps ws t+eV ps l ts:=by
 show qK ps ws t+eV ps ((wb ws t).getD []) ts=_;rw[e];rfl
section
variable {ps:List PN}{n:Nat}
theorem yZ (hp:∀p∈ps,p.1<p.2)(nd:ps.Nodup){ws l:List PN}{lo:Nat}{t:PN}(h:eS n lo ws)(ht:t∈ps)(e:wb ws t=some l):qK ps ws t+aG ps l<=aG ps ws:=by
 rw[gu,qc hp h];have a:sumF ps (λo=>decide (o=t)) (below ps ws)=aG ps l:=by
  rw[kJ nd ht];show aG ps ((wb ws t).getD [])=_;rw[e];rfl
 have b:=gO (f:=below ps ws) (ps:=ps) (c:=λo=>(fx o t&&fits ws o) || decide (o=t)) (d:=λo=>fx o t&&fits ws o) (e:=λo=>decide (o=t)) λp _=>⟨rfl,λKv=> by
  obtain⟨z1,z2⟩ := Kv;have z2:=of_decide_eq_true z2;rw[z2,d_]at z1;cases z1⟩
 have c:=oX (f:=below ps ws) (ps:=ps) (c:=λo=>(fx o t&&fits ws o) || decide (o=t)) (d:=fits ws) λp _ z=>by
  rcases Bool.or_eq_true_iff.mp z with z|z
  ·exact(VL.mp z).2
  ·rw[of_decide_eq_true z];show (wb ws t).isSome=true;rw[e];rfl
 lia
theorem FF (nd:ps.Nodup){ws l:List PN}{t u:PN}(ht:t∈ps)(e:wb ws t=some l)(h:fx t u=true):qK ps ws t+aG ps l<=qK ps ws u:=by
 rw[gu,gu];have a:sumF ps (λo=>decide (o=t)) (below ps ws)=aG ps l:=by
  rw[kJ nd ht];show aG ps ((wb ws t).getD [])=_;rw[e];rfl
 have b:=gO (f:=below ps ws) (ps:=ps) (c:=λo=>(fx o t&&fits ws o) || decide (o=t)) (d:=λo=>fx o t&&fits ws o) (e:=λo=>decide (o=t)) λp _=>⟨rfl,λKu=> by
  obtain⟨z1,z2⟩ := Ku;have z2:=of_decide_eq_true z2;rw[z2,d_]at z1;cases z1⟩
 have c:=oX (f:=below ps ws) (ps:=ps) (c:=λo=>(fx o t&&fits ws o) || decide (o=t)) (d:=λo=>fx o u&&fits ws o) λp _ z=>by
  rcases Bool.or_eq_true_iff.mp z with z|z
  ·exact VL.mpr ⟨tM (VL.mp z).1 h,(VL.mp z).2⟩
  ·rw[of_decide_eq_true z,h];show (true&&(wb ws t).isSome)=true;rw[e];rfl
 lia
theorem ll (hp:∀p∈ps,p.1<p.2)(nd:ps.Nodup):∀{ts ws:List PN} {lo:Nat},eS n lo ws->Va ps ws ts->eV ps ws ts<aG ps ws
 |[],ws,_,h,_=>by
  rw[qc hp h];show 0<_;lia
 |t::ts,ws,lo,h,⟨ht,l,e,v⟩=>by
  have:=ll hp nd (f7 (hp t ht) h e) v;have:=yZ hp nd h ht e;rw[cZ e];lia
theorem oZ (hp:∀p∈ps,p.1<p.2)(nd:ps.Nodup):∀{ts us ws:List PN} {lo:Nat},eS n lo ws->Va ps ws ts->Va ps ws us->C2 (ts.map tI) (us.map tI)=true->eV ps ws ts<eV ps ws us
 |[],[],_,_,_,_,_,z=>by cases z
 |[],u::us,ws,_,h,_,_,_=>by
  show 0<qK ps ws u+_;rw[gu];lia
 |_::_,[],_,_,_,_,_,z=>by cases z
 |t::ts,u::us,ws,lo,h,⟨ht,l,e,v⟩,⟨hu,m,e',v'⟩,z=>by
  rw[Vs,Vs,rJ]at z;rw[cZ e,cZ e']
  by_cases c:tI t=tI u
  ·rw[if_pos c]at z;cases oW c;rw[e]at e';cases e';have:=oZ hp nd (f7 (hp t ht) h e) v v' z;lia
  ·rw[if_neg c]at z;have:=FF nd ht e z;have:=ll hp nd (f7 (hp t ht) h e) v;lia
theorem iS:∀{ts us:List PN},ts.map tI=us.map tI->ts=us
 |[],[],_=>rfl
 |[],_::_,z=>by cases z
 |_::_,[],z=>by cases z
 |t::ts,u::us,z=>by
  rw[Vs,Vs]at z;obtain⟨a,b⟩:=List.cons.inj z;rw[oW a,iS b]
theorem o3 (hp:∀p∈ps,p.1<p.2)(nd:ps.Nodup){ts us ws:List PN}{lo:Nat}(h:eS n lo ws)(v:Va ps ws ts)(v':Va ps ws us)(e:eV ps ws ts=eV ps ws us):ts=us:=by
 refine iS (nH ?_ ?_)
 ·cases z:C2 (ts.map tI) (us.map tI)with
  |false=>rfl
  |true=>have:=oZ hp nd h v v' z;lia
 ·cases z:C2 (us.map tI) (ts.map tI)with
  |false=>rfl
  |true=>have:=oZ hp nd h v' v z;lia
theorem Eb {p:PN}(hp:p.1<p.2):∀{ws l:List PN} {lo:Nat},eS n lo ws->wb ws p=some l->eS n (p.1+1) l
 |[],_,_,_,e=>nomatch e
 |v::ws,l,lo,h,e=>by
  rw[fu]at e
  by_cases c:v.1<=p.1/\p.2<v.2
  ·rw[if_pos c]at e;cases e;have:=h.2.2.1;exact⟨UU _,hp,by show p.2<=n;lia,UU _,c.2,h.2.2.1,h.2.2.2⟩
  ·rw[if_neg c]at e;exact Eb hp h.2.2.2 e
theorem Dv {p:PN}{ws:List PN}{lo:Nat}(h:eS n lo ws)(f:fits ws p=true):lo<=p.1:=by
 obtain⟨l,e⟩:=gZ f;obtain⟨x,hx,k⟩:=oO e;have:=h.mem x hx;lia
def Jf (ps qs ws:List PN):List PN->Nat
 |[]=>0
 |t::ts=>1+sumF qs (λo=>fx o t&&fits ws o) (below ps ws)+eV ps ((wb ws t).getD []) ts
theorem vi {ws:List PN}:∀ts:List PN,Jf ps ps ws ts=eV ps ws ts
 |[]=>rfl
 |t::ts=>by
  show 1+_+_=qK ps ws t+_;rw[gu]
theorem eZ (hp:∀p∈ps,p.1<p.2)(hs:sV ps):∀(qs as ws ch:List PN) (k:Nat),ps=as++qs->eS n 0 ws->k<=sumF qs (fits ws) (below ps ws) ->
  ∃ts,(qs.foldl (jC ps) (ws,ch,(k:Int))).2.1=ch++ts/\Va ps ws ts/\Jf ps qs ws ts=k/\∀t us,ts=t::us->t∈qs
 |[],as,ws,ch,k,_,_,h=>by
  rw[iT]at h;exact⟨[],(Wr _).symm,trivial,by show 0=k;lia,λt us z=>nomatch z⟩
 |q::qs,as,ws,ch,k,ep,hw,h=>by
  have ER:ps=(as++[q])++qs:=by rw[ep,VW];rfl
  have hq:q∈ps:=by rw[ep];exact Vy _ U9
  rw[ep]at hs;obtain⟨_,uz,SH⟩:=W7.mp hs;have MH:=VH.mp uz;rw[<- ep]at hs;rw[aV]at h;rw[XI];cases e:wb ws q with
  |none =>
   have ef:fits ws q=false:=by show (wb ws q).isSome=false;rw[e];rfl
   have es:jC ps (ws,ch,(k:Int)) q=(ws,ch,(k:Int)):=by unfold jC;rw[e]
   rw[es];rw[if_neg (by rw[ef];decide),Wh]at h
   obtain⟨ts,h1,h2,h3,h4⟩:=eZ hp hs qs _ ws ch k ER hw h;refine⟨ts,h1,h2,?_,λt us z=>U6 _ (h4 t us z)⟩;cases ts with
   |nil=>exact h3
   |cons t ts =>
    rw[<- h3];show 1+sumF (q::qs) _ _+_=1+sumF qs _ _+_;rw[aV,if_neg (by rw[ef,Xv];decide),Wh]
  |some l =>
   have ef:fits ws q=true:=by show (wb ws q).isSome=true;rw[e];rfl
   have eb:below ps ws q=aG ps l:=by show aG ps ((wb ws q).getD [])=_;rw[e];rfl
   rw[if_pos ef,eb]at h
   by_cases k0:k=0
   ·subst k0;have es:jC ps (ws,ch,((0:Nat):Int)) q=(ws,ch,((0:Nat):Int)):=by unfold jC;rw[e];exact if_neg (by dsimp only;lia)
    rw[es];obtain⟨ts,h1,h2,h3,h4⟩:=eZ hp hs qs _ ws ch 0 ER hw (Ve _);cases ts with
    |nil=>exact⟨[],h1,trivial,rfl,λt us z=>nomatch z⟩
    |cons t ts=>change 1+_+_=0 at h3;lia
   by_cases kl:k<=aG ps l
   ·have es:jC ps (ws,ch,(k:Int)) q=(l,ch++[q],((k-1:Nat):Int)):=by
     unfold jC;rw[e];show (if (0:Int)<k then (if (k:Int)<=_ then _ else _) else _)=_
     rw[if_pos (by lia),if_pos (by lia),show (k:Int)-1=((k-1:Nat):Int) by lia]
    rw[es];have hl:=Eb (hp q hq) hw e;have Iy:=f7 (hp q hq) hw e;have out:∀p,p∈as\/p=q->fits l p=false:=λp Li=>by
     cases z:fits l p with
     |false=>rfl
     |true =>
      have z1:=Dv hl z;have z2:=kG (p:=q) (q:=p) (by lia)
      rcases Li with hm|rfl
      ·have:=gq z2;rw[SH p hm q U9]at this;cases this
      ·rw[d_]at z2;cases z2
    have sm:∀c:PN->Bool,(∀p,c p=true->fits l p=true)->sumF ps c (below ps l)=sumF qs c (below ps l):=λc hc=>by
     have o2:∀p,p∈as\/p=q->c p=false:=λp Li=>by
      cases z:c p with
      |false=>rfl
      |true=>exact absurd (hc p z) (by rw[out p Li];decide)
     conv=>lhs;arg 1;rw[ep]
     rw[qG,cO λp hm=>o2 p (.inl hm),aV,if_neg (by rw[o2 q (.inr rfl)];decide)]
     lia
    obtain⟨ts,h1,h2,h3,h4⟩:=eZ hp hs qs _ l (ch++[q]) (k-1) ER Iy (by
     have:=qc hp Iy;rw[sm _ λ_ z=>z]at this;lia)
    refine⟨q::ts,by rw[h1,VW];rfl,⟨hq,l,e,h2⟩,?_,λt us z=>by cases z;exact U9⟩
    show 1+sumF (q::qs) _ _+eV ps ((wb ws q).getD []) ts=k;rw[e,cO λp hm=>?_]
    ·show 1+0+eV ps l ts=k;have:eV ps l ts=k-1:=by
      rw[<- h3];cases ts with
      |nil=>rfl
      |cons t ts =>
       show qK ps l t+_=1+_+_;rw[gu,sm _ λp z=>(VL.mp z).2]
     lia
    ·rcases U0.mp hm with rfl|hm
     ·rw[d_];rfl
     ·rw[gq (MH.1 p hm)];rfl
   ·have es:jC ps (ws,ch,(k:Int)) q=(ws,ch,((k-aG ps l:Nat):Int)):=by
     unfold jC;rw[e];show (if (0:Int)<k then (if (k:Int)<=_ then _ else _) else _)=_
     rw[if_pos (by lia),if_neg (by lia),show (k:Int)-((aG ps l:Nat):Int)=((k-aG ps l:Nat):Int) by lia]
    rw[es];obtain⟨ts,h1,h2,h3,h4⟩:=eZ hp hs qs _ ws ch (k-aG ps l) ER hw (by lia)
    refine⟨ts,h1,h2,?_,λt us z=>U6 _ (h4 t us z)⟩;cases ts with
    |nil=>change 0=_ at h3;lia
    |cons t ts =>
     change 1+sumF qs _ _+_=_ at h3
     show 1+sumF (q::qs) _ _+_=k;rw[aV,if_pos (by rw[ef,MH.1 t (h4 t ts rfl)];rfl),eb]
     lia
theorem B5 (hp:∀p∈ps,p.1<p.2)(hs:sV ps){ws:List PN}(h:eS n 0 ws){k:Nat}(hk:k<aG ps ws):∃ts,Va ps ws ts/\eV ps ws ts=k:=by
 rw[qc hp h]at hk;obtain⟨ts,_,h2,h3,_⟩:=eZ hp hs ps [] ws [] k rfl h (by lia)
 exact⟨ts,h2,by rw[<- h3,vi]⟩
theorem dA:aG ps [(0,n)]=sa ps n 0:=by
 rw[fF];show sa ps (n-0) 0*1=_;rw[Nat.mul_one,Nat.sub_zero]
theorem eY (hp:∀p∈ps,p.1<p.2)(hs:sV ps){k:Nat}(hk:k<sa ps n 0):Va ps [(0,n)] (sat ps n k)/\eV ps [(0,n)] (sat ps n k)=k:=by
 have:=qc hp (ft (n:=n));rw[dA]at this;obtain⟨ts,h1,h2,h3,_⟩:=eZ hp hs ps [] [(0,n)] [] k rfl ft (by lia)
 have e:sat ps n k=ts:=h1;rw[e];exact⟨h2,by rw[<- h3,vi]⟩
end
section
variable {ps:List PN}{n:Nat}
theorem fv:∀{a b ws:List PN},Va ps ws (a++b)↔Va ps ws a/\∃l,wa ws a=some l/\Va ps l b
 |[],b,ws=>⟨λh=>⟨trivial,ws,rfl,h⟩,λKt=> by obtain⟨_,l,e,h⟩ := Kt;cases e;exact h⟩
 |t::a,b,ws=>by
  constructor
  ·rintro⟨ht,l,e,v⟩;obtain⟨h1,m,e',h2⟩:=fv.mp v;exact⟨⟨ht,l,e,h1⟩,m,by show (wb ws t).bind _=_;rw[e];exact e',h2⟩
  ·rintro⟨⟨ht,l,e,h1⟩,m,e',h2⟩
   change (wb ws t).bind _=_ at e'
   rw[e]at e';exact⟨ht,l,e,fv.mpr ⟨h1,m,e',h2⟩⟩
theorem yM:∀{a ws:List PN},Va ps ws a->∃l,wa ws a=some l
 |[],ws,_=>⟨ws,rfl⟩
 |t::a,ws,⟨ht,l,e,v⟩=>by
  obtain⟨m,e'⟩:=yM v;exact⟨m,by show (wb ws t).bind _=_;rw[e];exact e'⟩
theorem qt (hp:∀p∈ps,p.1<p.2):∀{a ws l:List PN} {lo:Nat},eS n lo ws->Va ps ws a->wa ws a=some l->eS n lo l
 |[],ws,l,lo,h,_,e=>by cases e;exact h
 |t::a,ws,l,lo,h,⟨ht,m,e,v⟩,e'=>by
  change (wb ws t).bind _=_ at e'
  rw[e]at e';exact qt hp (f7 (hp t ht) h e) v e'
theorem gP:∀{a b ws l:List PN},wa ws a=some l->eV ps ws (a++b)=eV ps ws a+eV ps l b
 |[],b,ws,l,e=>by cases e;show _=0+_;rw[Wh];rfl
 |t::a,b,ws,l,e=>by
  change (wb ws t).bind _=_ at e
  obtain⟨m,e1,e2⟩:=Wi.mp e;rw[Yb,cZ e1,cZ e1,gP e2,X3]
theorem Ec:∀{ts ws l:List PN},(∀t∈ts,t∈ps)->wa ws ts=some l->Va ps ws ts
 |[],_,_,_,_=>trivial
 |t::ts,ws,l,h,e=>by
  change (wb ws t).bind _=_ at e
  obtain⟨m,e1,e2⟩:=Wi.mp e;exact⟨h t U9,m,e1,Ec (λu hu=>h u (U6 _ hu)) e2⟩
theorem fo.va (ok:kB n ps){ns:List PN}(h:fo ps ns):Va ps [(0,n)] ns:=by
 obtain⟨l,e,_⟩:=h.wa ok;exact Ec h.1 e
def Fr (s:PN)(ws:List PN):Prop:=∀v∈ws,s.1<v.1/\(v.2<=s.2\/s.2<v.1)
theorem EM {s p:PN}(hp:p.1<p.2):∀{ws l:List PN},Fr s ws->wb ws p=some l->Fr s l
 |[],_,_,e=>nomatch e
 |v::ws,l,h,e=>by
  rw[fu]at e
  by_cases c:v.1<=p.1/\p.2<v.2
  ·rw[if_pos c]at e;cases e;have hv:=h v U9;intro u hu;rcases U0.mp hu with rfl|hu
   ·dsimp only;lia
   rcases U0.mp hu with rfl|hu
   ·dsimp only;lia
   exact h u (U6 _ hu)
  ·rw[if_neg c]at e;exact EM hp (λu hu=>h u (U6 _ hu)) e
theorem wd {p:PN}(hp:p.1<p.2):∀{ws l:List PN} {lo:Nat},eS n lo ws->wb ws p=some l->Fr p l
 |[],_,_,_,e=>nomatch e
 |v::ws,l,lo,h,e=>by
  rw[fu]at e
  by_cases c:v.1<=p.1/\p.2<v.2
  ·rw[if_pos c]at e;cases e;intro u hu;rcases U0.mp hu with rfl|hu
   ·dsimp only;lia
   rcases U0.mp hu with rfl|hu
   ·dsimp only;lia
   have:=h.2.2.2.mem u hu;lia
  ·rw[if_neg c]at e;exact wd hp h.2.2.2 e
theorem Ed (hp:∀p∈ps,p.1<p.2){s:PN}:∀{ts ws:List PN},Fr s ws->Va ps ws ts->∀t∈ts,s.1<t.1/\Ij s t
 |[],_,_,_,t,ht=>nomatch ht
 |u::ts,ws,f,⟨hu,l,e,v⟩,t,ht=>by
  rcases U0.mp ht with rfl|ht
  ·obtain⟨x,hx,k⟩:=oO e;have:=f x hx;show s.1<t.1/\(t.2<s.2\/s.2<t.1);lia
  ·exact Ed hp (EM (hp u hu) f e) v t ht
theorem iM (hp:∀p∈ps,p.1<p.2):∀{ts ws:List PN} {lo:Nat},eS n lo ws->Va ps ws ts->wL ts
 |[],_,_,_,_=>YM
 |t::ts,ws,lo,h,⟨ht,l,e,v⟩=>VH.mpr ⟨λu hu=>Ed hp (wd (hp t ht) h e) v u hu,iM hp (f7 (hp t ht) h e) v⟩
theorem jw:∀{ts ws:List PN},Va ps ws ts->∀t∈ts,t∈ps
 |[],_,_,_,h=>nomatch h
 |t::ts,ws,⟨ht,l,e,v⟩,u,hu=>by
  rcases U0.mp hu with rfl|hu
  ·exact ht
  ·exact jw v u hu
theorem Va.set (ok:kB n ps){ns:List PN}(h:Va ps [(0,n)] ns):fo ps ns:=⟨jw h,iM (λp hp=>(ok.lt p hp).1) ft h⟩
theorem BV (hs:sV ps){ws:List PN}{c:PN->Bool}:((iG ps ws).filter c).Pairwise λp q=>fx p q=true:=(Yt _ hs).filter _
theorem z7 (hp:∀p∈ps,p.1<p.2)(nd:ps.Nodup)(hs:sV ps):∀(rr ws:List PN) (c:PN->Bool) (E:Nat),Va ps [(0,n)] rr.reverse->wa [(0,n)] rr.reverse=some ws ->
  (∀o u,c o=true->fx o u=true->c u=true)->E=eV ps [(0,n)] rr.reverse+1+sumF ps (λo=>!c o&&fits ws o) (below ps ws) ->
  (ue ps n rr ((iG ps ws).filter c)=none/\E=sa ps n 0)\/∃l,ue ps n rr ((iG ps ws).filter c)=some l/\Va ps [(0,n)] l/\eV ps [(0,n)] l=E:=by
 intro rr
 induction rr with
 |nil =>
  intro ws c E hv ew hc hE;cases hf:(iG ps ws).filter c with
  |cons o os=>exact .inr (vH hs hp hv ew hc hE hf)
  |nil =>
   left
   refine⟨rfl,?_⟩;cases ew;rw[vI hp ft hf hE,dA];show 0+_=_;rw[Wh]
 |cons z r ih =>
  intro ws c E hv ew hc hE;cases hf:(iG ps ws).filter c with
  |cons o os=>exact .inr (vH hs hp hv ew hc hE hf)
  |nil =>
   rw[WW]at hv ew hE;obtain⟨v1,l,e1,hz,m,e2,_⟩:=fv.mp hv;rw[kZ,e1,XB]at ew
   change (wb l z).bind _=_ at ew
   rw[e2]at ew;cases ew;have hl:=qt hp ft v1 e1;have h0:=vI hp (f7 (hp z hz) hl e2) hf hE;rw[gP e1,cZ e2]at h0;show (ue ps n r ((iG ps ((wa [(0,n)] r.reverse).getD [])).filter λo=>HT.lexLt (tI z) (tI o))=none/\_)\/∃_,ue ps n r ((iG ps ((wa [(0,n)] r.reverse).getD [])).filter λo=>HT.lexLt (tI z) (tI o))=_/\_;rw[e1];refine ih l (λo=>fx z o) E v1 e1 (λo u h1 h2=>tM h1 h2) ?_;rw[h0,gu];have a:sumF ps (λo=>decide (o=z)) (below ps l)=aG ps ws:=by
    rw[kJ nd hz];show aG ps ((wb l z).getD [])=_;rw[e2];rfl
   have b:=gO (f:=below ps l) (ps:=ps) (c:=λo=>!fx z o&&fits l o) (d:=λo=>fx o z&&fits l o) (e:=λo=>decide (o=z)) λp _=>by
    constructor
    ·by_cases Oa:p=z
     ·have ef:fits l z=true:=by show (wb l z).isSome=true;rw[e2];rfl
      rw[Oa,d_,ef,decide_eq_true (rfl:z=z)];rfl
     ·rw[decide_eq_false Oa,Bool.or_false];cases q:fx z p with
      |true=>rw[gq q];rfl
      |false =>
       cases q2:fx p z with
       |true=>rfl
       |false=>exact absurd (k_ q2 q) Oa
    ·rintro⟨z1,z2⟩;rw[of_decide_eq_true z2,d_]at z1;cases z1
   rw[b,a];show _+(_+0)+_=_;lia
where
 vI {ws:List PN} {lo:Nat} {c:PN->Bool} {E S:Nat} (hp:∀p∈ps,p.1<p.2) (h:eS n lo ws) (hf:(iG ps ws).filter c=[]) (hE:E=S+1+sumF ps (λo=>!c o&&fits ws o) (below ps ws)):E=S+aG ps ws:=by
  rw[hE,qc hp h];rw[cP (c:=λo=>!c o&&fits ws o) (d:=fits ws) (g:=below ps ws) λp hm=>⟨?_,λ_=>rfl⟩]
  ·lia
  ·cases q:fits ws p with
   |false=>exact Xv _
   |true =>
    cases q2:c p with
    |false=>rfl
    |true =>
     have:p∈(iG ps ws).filter c:=VF.mpr ⟨VF.mpr ⟨hm,q⟩,q2⟩;rw[hf]at this;cases this
 vH {r ws os:List PN} {o:PN} {c:PN->Bool} {E:Nat} (hs:sV ps) (hp:∀p∈ps,p.1<p.2) (hv:Va ps [(0,n)] r.reverse) (ew:wa [(0,n)] r.reverse=some ws) (hc:∀o u,c o=true->fx o u=true->c u=true)
   (hE:E=eV ps [(0,n)] r.reverse+1+sumF ps (λo=>!c o&&fits ws o) (below ps ws)) (hf:(iG ps ws).filter c=o::os):∃l,ue ps n r (o::os)=some l/\Va ps [(0,n)] l/\eV ps [(0,n)] l=E:=by
  have ho:o∈(iG ps ws).filter c:=by rw[hf];exact U9
  obtain⟨SO,Q1⟩:=VF.mp ho;obtain⟨QO,SM⟩:=VF.mp SO;obtain⟨l,el⟩:=gZ SM;have G6:=BV hs (ws:=ws) (c:=c);rw[hf]at G6;have G6:=VH.mp G6;refine⟨r.reverse++[o],by unfold ue;rfl,fv.mpr ⟨hv,ws,ew,QO,l,el,trivial⟩,?_⟩
  rw[gP ew,cZ el,gu,hE];show _+(_+0)=_;rw[cP (c:=λp=>fx p o&&fits ws p) (d:=λp=>!c p&&fits ws p) (g:=below ps ws) λp hm=>⟨?_,λ_=>rfl⟩]
  ·lia
  ·cases q:fits ws p with
   |false=>rw[Xv,Xv]
   |true =>
    rw[Bool.and_true,Bool.and_true];cases q2:c p with
    |false =>
     cases q3:fx p o with
     |true=>rfl
     |false =>
      cases q4:fx o p with
      |true=>rw[hc o p Q1 q4]at q2;cases q2
      |false=>cases k_ q3 q4;rw[Q1]at q2;cases q2
    |true =>
     have:p∈(iG ps ws).filter c:=VF.mpr ⟨VF.mpr ⟨hm,q⟩,q2⟩;rw[hf]at this;rcases U0.mp this with rfl|hm
     ·exact d_ _
     ·exact gq (G6.1 p hm)
theorem z5 (hp:∀p∈ps,p.1<p.2)(nd:ps.Nodup)(hs:sV ps){ns:List PN}(h:Va ps [(0,n)] ns):
  (CT ps n ns=none/\eV ps [(0,n)] ns+1=sa ps n 0)\/∃l,CT ps n ns=some l/\Va ps [(0,n)] l/\eV ps [(0,n)] l=eV ps [(0,n)] ns+1:=by
 obtain⟨ws,ew⟩:=yM h;have:=z7 hp nd hs ns.reverse ws (λ_=>true) (eV ps [(0,n)] ns+1) (by rw[V9];exact h) (by rw[V9];exact ew) (λ_ _ _ _=>rfl) (by
  rw[V9,cO (c:=λo=>!true&&fits ws o) λ_ _=>rfl])
 unfold CT;rw[ew];have e:(iG ps ws).filter (λ_=>true)=iG ps ws:=Yy.mpr λ_ _=>rfl;rw[e]at this;exact this
end
section
variable {ps:List PN}{n:Nat}
def cA (s:List PN)(o:PN):Bool:=match s.getLast? with
 |none=>true
 |some z=>fx z o
def cB (s:List PN)(o:PN):Bool:=(s.map tI).all λu=>!bB u (tI o)&&!bL u (tI o)
theorem sO {s o:PN}(hs:s.1<s.2)(ho:o.1<o.2)(h:s.1<o.1/\Ij s o):(!bB (tI s) (tI o)&&!bL (tI s) (tI o))=true:=by
 obtain⟨s1,s2⟩:=s;obtain⟨o1,o2⟩:=o;obtain⟨h1,h2⟩:=h
 change o2<s2\/s2<o1 at h2
 dsimp only at hs ho h1;have a:bB (tI (s1,s2)) (tI (o1,o2))=false:=WE.mpr λz=>by
  obtain⟨x,z1,z2⟩:=dC.mp z;simp only[tI,U0,Wy,or_false]at z1 z2;lia
 have b:bL (tI (s1,s2)) (tI (o1,o2))=false:=WE.mpr λz=>by
  have z:jW (s1:Int) s2 o1 o2=true:=z;have:=mw.mp z;lia
 rw[a,b];rfl
theorem v8:∀{s:List PN},wL s->∀z,s.getLast?=some z->∀u∈s,u=z\/u.1<z.1
 |[],_,_,_,_,h=>nomatch h
 |[a],_,z,e,u,hu=>by
  cases e;exact .inl (U8.mp hu)
 |a::b::s,h,z,e,u,hu=>by
  have h':=VH.mp h;rw[List.getLast?_cons_cons]at e;rcases U0.mp hu with rfl|hu
  ·exact .inr (h'.1 z (List.mem_of_getLast? e)).1
  ·exact v8 h'.2 z e u hu
theorem Dw (ok:kB n ps){s ws:List PN}(hv:Va ps [(0,n)] s)(ew:wa [(0,n)] s=some ws){o:PN}(ho:o∈ps):(cA s o&&cB s o)=fits ws o:=by
 have hp:∀p∈ps,p.1<p.2:=λp h=>(ok.lt p h).1;have hg:=iM hp ft hv;cases f:fits ws o with
 |true =>
  obtain⟨l,el⟩:=gZ f;have MF:Va ps [(0,n)] (s++[o]):=fv.mpr ⟨hv,ws,ew,ho,l,el,trivial⟩;have Ta:=W7.mp (iM hp ft MF);have key:∀u∈s,u.1<o.1/\Ij u o:=λu hu=>Ta.2.2 u hu o (U8.mpr rfl);rw[VL];constructor
  ·unfold cA;cases e:s.getLast? with
   |none=>rfl
   |some z=>exact kG (key z (List.mem_of_getLast? e)).1
  ·refine Xc.mpr λu hu=>?_;obtain⟨x,hx,rfl⟩:=VA.mp hu;exact sO (hp x (jw hv x hx)) (hp o ho) (key x hx)
 |false =>
  cases z:(cA s o&&cB s o)with
  |false=>rfl
  |true =>
   exfalso
   obtain⟨z1,z2⟩:=VL.mp z;have key:∀u∈s,u.1<o.1/\Ij u o:=λu hu=>by
    have lt:fx u o=true:=by
     unfold cA at z1;cases e:s.getLast? with
     |none=>rw[List.getLast?_eq_none_iff.mp e]at hu;cases hu
     |some x =>
      rw[e]at z1;rcases v8 hg x e u hu with rfl|h
      ·exact z1
      ·exact tM (kG h) z1
    have ap:=Xc.mp z2 (tI u) (XN hu);obtain⟨a1,a2⟩:=VL.mp ap;exact Rh (hp u (jw hv u hu)) (hp o ho) lt ⟨by simpa using a1,by simpa using a2⟩
   have MI:fo ps (s++[o]):=⟨λp Li=>by
    rcases Vp.mp Li with h|h
    ·exact jw hv p h
    ·rw[U8.mp h];exact ho,W7.mpr ⟨hg,X7 _ _,λu hu v hv=>by rw[U8.mp hv];exact key u hu⟩⟩
   obtain⟨_,l,e1,_,m,e2,_⟩:=fv.mp (MI.va ok);rw[ew]at e1;cases e1;have:fits ws o=true:=by show (wb ws o).isSome=true;rw[e2];rfl
   rw[f]at this;cases this
theorem HF (ok:kB n ps){s ws:List PN}(hv:Va ps [(0,n)] s)(ew:wa [(0,n)] s=some ws):(ps.filter (cA s)).reverse.filter (cB s)=(iG ps ws).reverse:=by
 rw[List.filter_reverse,YD]
 congr 1
 refine YL λo ho=>?_;rw[Bool.and_comm];exact Dw ok hv ew ho
def eR (ps:List PN)(n:Nat):Nat->List (List PN)->Prop
 |m,[]=>m=sa ps n 0
 |m,s::r=>Va ps [(0,n)] s/\eV ps [(0,n)] s=m/\∃l,wa [(0,n)] s=some l/\eR ps n (m+aG ps l) r
theorem Jz:eR ps n 0 [[]]:=⟨trivial,rfl,[(0,n)],rfl,by show 0+aG ps [(0,n)]=_;rw[dA,Wh]⟩
theorem xj {ws:List PN}(hp:∀p∈ps,p.1<p.2){lo:Nat}(h:eS n lo ws):1<=aG ps ws:=by rw[qc hp h];lia
theorem lH (hp:∀p∈ps,p.1<p.2):∀{r:List (List PN)} {m:Nat},eR ps n m r->m+r.length<=sa ps n 0
 |[],m,h=>by rw[show m=_ from h];exact UU _
 |s::r,m,⟨v,_,l,e,h⟩=>by
  have:=lH hp h;have:=xj hp (qt hp ft v e);rw[U_];lia
theorem BZ:∀{a b:List PN} {o:PN},(a++o::b).Pairwise (λp q=>fx p q=true)->(a++o::b).filter (λp=>fx p o)=a:=by
 intro a b o h;obtain⟨_,h2,h3⟩:=W7.mp h;have h4:=VH.mp h2;rw[WO,Yy.mpr λp hp=>h3 p hp o U9,X_ (by rw[d_];decide),List.filter_eq_nil_iff.mpr λp hp=>by rw[gq (h4.1 p hp)];decide,Wr]
theorem vy (hp:∀p∈ps,p.1<p.2)(hs:sV ps){s l:List PN}{r:List (List PN)}(v:Va ps [(0,n)] s)(e:wa [(0,n)] s=some l)(hr:eR ps n (eV ps [(0,n)] s+aG ps l) r):
  ∀{cs dn:List PN} {m:Nat},iG ps l=dn++cs->m=eV ps [(0,n)] s+1+(dn.map (below ps l)).sum->eR ps n m (cs.map (λo=>s++[o])++r)
 |[],dn,m,et,em=>by
  rw[Wr]at et;show eR ps n m r;have:aG ps l=1+((iG ps l).map (below ps l)).sum:=qc hp (qt hp ft v e);rw[et]at this;rw[em,X3,<- this];exact hr
 |o::cs,dn,m,et,em=>by
  have ho:o∈iG ps l:=by rw[et];exact Vy _ U9
  obtain⟨h1,h2⟩:=VF.mp ho;obtain⟨u,eu⟩:=gZ h2;refine⟨fv.mpr ⟨v,l,e,h1,u,eu,trivial⟩,?_,u,?_,vy hp hs v e hr (cs:=cs) (dn:=dn++[o]) (by rw[et,VW];rfl) ?_⟩
  ·rw[gP e,em];show _+(qK ps l o+0)=_;unfold qK;have G6:(iG ps l).Pairwise λp q=>fx p q=true:=Yt _ hs;rw[et]at G6;rw[et,BZ G6];show _+(1+(dn.map (below ps l)).sum+0)=_;lia
  ·rw[kZ,e,XB];show (wb l o).bind _=_;rw[eu];rfl
  ·rw[em,Vx,List.sum_append];show _=_+1+(_+(aG ps ((wb l o).getD [])+0));rw[eu];show _+aG ps u=_+1+(_+(aG ps u+0));lia
theorem xm (hp:∀p∈ps,p.1<p.2)(hs:sV ps){s l:List PN}{r:List (List PN)}{m:Nat}(h:eR ps n m (s::r))(e:wa [(0,n)] s=some l):eR ps n (m+1) ((iG ps l).map (λo=>s++[o])++r):=by
 obtain⟨v,rfl,l',e',hr⟩:=h;rw[e]at e';cases e';exact vy hp hs v e hr (dn:=[]) rfl rfl
theorem zI (hp:∀p∈ps,p.1<p.2)(nd:ps.Nodup)(hs:sV ps){s:List PN}{r:List (List PN)}{m:Nat}(h:eR ps n m (s::r)):m<sa ps n 0/\s=sat ps n m:=by
 obtain⟨v,em,l,e,_⟩:=h;have h1:=ll hp nd ft v;rw[em,dA]at h1;obtain⟨v2,e2⟩:=eY hp hs h1;exact⟨h1,o3 hp nd ft v v2 (by rw[em,e2])⟩
theorem tK (ok:kB n ps){s:List PN}(v:Va ps [(0,n)] s):s.length<=n:=by
 have hp:∀p∈ps,p.1<p.2:=λp h=>(ok.lt p h).1;have hg:=iM hp ft v;have nd:(s.map (·.1)).Nodup:=Wl.mpr (hg.imp λh z=>by lia)
 have:=Er nd (i:=n) λx hx=>by
  obtain⟨p,hm,rfl⟩:=VA.mp hx;have:=ok.lt p (jw v p hm);lia
 rwa [US]at this
def mD (ps:List PN)(n m:Nat):List (List PN):=(Vk m).map λ(k:Nat)=>sat ps n (k:Int)
theorem A_ {m:Nat}:mD ps n (m+1)=mD ps n m++[sat ps n (m:Int)]:=by
 unfold mD;rw[XH,Vx];rfl
theorem Fz (h:sU (ps.map tI))(nd:ps.Nodup):sV ps:=by
 have h1:ps.Pairwise λx y=>HT.lexLt (tI y) (tI x)=false:=Wl.mp h;refine(List.Pairwise.and h1 nd).imp λ{a b} ⟨q1,q2⟩=>?_;cases z:fx a b with
 |true=>rfl
 |false=>exact absurd (k_ z q1) q2
end
theorem DD (p q:PN):VX (kD (tI p)).pd (kD (tI q)).pd=decide (p=q):=by
 rw[Ba];exact decide_eq_decide.mpr ⟨oW,λh=>by rw[h]⟩
theorem wq (a b:List PN):VX (b3 a).pd (b3 b).pd=decide (a=b):=by
 show VX (.list (D.gk (a.map λp=>kD (tI p)))) (.list (D.gk (b.map λp=>kD (tI p))))=_;rw[dk,dk];simp only[VX];exact fU DD a b
theorem eW (a:List PN):(b3 a).pd.canLay0=true/\(b3 a).pd.depth<=3:=eX λd hd=>by
 obtain⟨i,_,rfl⟩:=VA.mp hd;exact iW _
theorem DE (a b:List (List PN)):VX (D.lst (a.map b3)).pd (D.lst (b.map b3)).pd=decide (a=b):=by
 show VX (.list (D.gk (a.map b3))) (.list (D.gk (b.map b3)))=_;rw[dk,dk];simp only[VX];exact fU wq a b
theorem nk (a:List (List PN)):(D.lst (a.map b3)).pd.canLay0=true/\(D.lst (a.map b3)).pd.depth<=4:=eX λd hd=>by
 obtain⟨i,_,rfl⟩:=VA.mp hd;exact eW _
theorem DF (a b:List (List PN)):LP (.lst (a.map b3)) (.lst (b.map b3))=some (.bl (!decide (a=b))):=Bg (cE (nk a)) (cE (nk b)) (DE a b)
theorem wA (a b:List PN):IF (b3 a) (b3 b)=some (.bl (decide (a=b))):=uR (cE (eW a)) (cE (eW b)) (wq a b)
end L2.Q
namespace iH
open PySem L2 L2.Q
def sj:FD:=λds R=>∃(n:Nat) (ps:List (Nat×Nat)),ds=[jv n ps]/\kB n ps/\n<=8/\sV ps/\R (.lst ((mD ps n (sa ps n 0)).map b3))
theorem sj.mono:cD sj:=λds R R' k h=>by obtain⟨n,ps,e,h1,h2,h3,q⟩:=h;exact⟨n,ps,e,h1,h2,h3,k _ q⟩
section
variable {P:UX}{w:Vb}{K:PySem.W.Frag}{mg:Str->Option UR}{base:Heap}
theorem c4:aC ["row","found","pile","some","later"] ["row"] (ak fz):=⟨rfl,rfl,rfl,by decide +kernel,rfl,by decide +kernel,by decide +kernel⟩
theorem CK {Dy we} (ID:Rq K mg Dy we) {ya nV} (E1:P9 K mg ya nV) {sg kh} (BI:M4 K mg sg kh) (B:u3 mg):aD P w K mg base bw 3 Dy we ["row"] (bZ P w false sj):=by
 have Ua:aD P w K mg base bw 2 _ _ _ (bZ P w true sA):=CN E1 BI;refine j_ ID.F c4 (λds R Ks=> by obtain⟨n,ps,e,_⟩ := Ks;subst e;rfl) λcC A outer s H E hr=>⟨_,(ag (Cw (i:=1) (λ_=>ae) c4.nd)
    (ag (fJ (i:=2) (λ_=>(a6 (aa (a6 ae) ae))) c4.nd)
    (ag (qZ VE (aI af (bR.m (ub hr.units)) (ab (i:=2)) (a6 ae)) (ag (aP (i:=3) (zG (i:=2)) c4.nd)
    (ag (Cy (i:=1) (λ_=>(ab (i:=3))))
    (ag (zd (i:=4) false ["tie","some"] [none,some 3] (by rfl) (by decide:(["tie","some"]:List Str).Nodup) rfl (λ_=>(a9 (aK af bf (ab (i:=0)) ah))) (λ_ _ _ _ _ _=>(ao (i:=0) (by decide:(["tie","some"]:List Str).Nodup))) (λ_ _ _ _ _ _=>(fw (m9.t (iq (aI af (bR.m (dY hr.units)) (ab (i:=1)) (a6 ae)) (gU (aI af (bR.m (vE hr.oQ)) (ab (i:=0)) (aK af bf (ab (i:=1)) (zE oR ah)))))))) (λ_ _ _ _ _ _=>(ab (i:=0))) c4.nd)
    (aj (t_ (i:=2) (λ_=>(Eu ["tie","some"] [none,some 3] (by rfl) (by decide:(["tie","some"]:List Str).Nodup) rfl (a9 (Cn (ab (i:=4)))) (λ_ _ _ _ _ _=>(ao (i:=0) (by decide:(["tie","some"]:List Str).Nodup))) (λ_ _ _ _ _ _=>(fw (bS (az sA.mono Ua (hr.mono (by decide)) E1.m E1.F.kp E1.b (aa (ab (i:=1)) (aa (ab (i:=0)) ae)))))) (λ_ _ _ _ _ _=>(a3 aU aL (ab (i:=1)) (a6 (aa (ab (i:=0)) ae))))))))))))
    (aj (aJ (Cp (i:=1))))))),λds R h=>?_⟩
 obtain⟨n,ps,rfl,ok,hn,hs,q⟩:=h;have hp:∀p∈ps,p.1<p.2:=λp h=>(ok.lt p h).1;have hN:sa ps n 0<=362880:=by
  have h1:=qP hp ok.nd n 0;have h2:=fm (show n+1<=9 by lia)
  have h3:mC 9=362880:=by decide
  lia
 refine⟨rfl,Ve _,by show 1<5;decide,?_⟩
 refine⟨Ve _,trivial,tj,trivial,?_⟩;refine⟨λv β=>∃m pl x3 x4,β=[some (.val false (jv n ps)),some (.shl true (.lst ((mD ps n m).map b3))),some (.own (.lst (pl.map b3))),x3,x4]/\eR ps n m pl.reverse/\v=sa ps n 0-m,⟨_,0,[[]],none,none,rfl,Jz,rfl⟩,?_⟩;rintro v β ⟨m,pl,x3,x4,rfl,hpl,rfl⟩;have Uz:=lH hp hpl;refine⟨_,rfl,trivial,Ve _,_,DF pl [],_,rfl,?_⟩
 by_cases Ht:pl=[]
 ·subst Ht;have hm:m=sa ps n 0:=hpl;subst hm;exact d4 rfl ⟨_,rfl,trivial,q⟩
 ·refine iu (by rw[decide_eq_false Ht];rfl) ?_
  obtain⟨s,r,er⟩:∃s r,pl.reverse=s::r:=by
   cases e:pl.reverse with
   |nil=>exact absurd (List.reverse_eq_nil_iff.mp e) Ht
   |cons s r=>exact⟨s,r,rfl⟩
  have TM:pl=r.reverse++[s]:=by rw[<- V9 pl,er,WW]
  rw[er]at hpl;obtain⟨UB,es⟩:=zI hp ok.nd hs hpl;obtain⟨hv,em,l,ew,_⟩:=id hpl;have Ir:=xm hp hs hpl ew;have MG:=tK ok hv;subst TM;rw[Vx];refine⟨r.reverse.map b3,b3 s,rfl,?_⟩;refine⟨⟨_,rfl⟩,_,rfl,trivial,_,rfl,?_,?_⟩
  ·rw[US];unfold mD;rw[US,V1];rw[Wf];lia
  have SF:=ok.sm;refine⟨_,rfl,trivial,_,rfl,.inr ⟨_,rfl,trivial,dZ (cA s) (λp=>kD (tI p)) trivial (eT (by lia)) (λo ho x0 ou J AK j1 j2=>?_) ?_⟩⟩
  ·refine⟨_,rfl,trivial,Ve _,_,wA s [],_,rfl,lY (λh1=>?_) λh1=>?_⟩
   ·exact iu rfl ⟨_,rfl,rfl,AK,j1 (by rw[h1];rfl) _⟩
   ·obtain⟨s0,z,e⟩:∃s0 z,s=s0++[z]:=⟨s.dropLast,s.getLast h1,(List.dropLast_concat_getLast h1).symm⟩;have ez:oi (b3 s) (.int (-1))=some (kD (tI z)):=by
     rw[e];unfold b3;rw[Vx];exact Bi
    have ec:cA s o=fx z o:=by
     unfold cA;rw[e,List.getLast?_append,List.getLast?_singleton];rfl
    refine⟨_,rfl,trivial,_,rfl,trivial,_,rfl,rfl,_,ez,_,wz _ _,_,rfl,?_⟩;cases q2:fx z o with
    |true=>exact iu q2 ⟨_,rfl,rfl,AK,j1 (by rw[ec,q2]) _⟩
    |false=>exact d4 q2 (j2 (by rw[ec,q2]) _)
  have TL:EW (.lst ((ps.filter (cA s)).map λp=>kD (tI p)))=some (.lst ((ps.filter (cA s)).reverse.map λp=>kD (tI p))):=by
   show some (D.lst _)=_;rw[List.map_reverse]
  have hle:=Wg (cA s) ps;refine⟨⟨_,rfl⟩,_,rfl,_,TL,.inr ⟨_,rfl,trivial,dZ (cB s) (λo=>b3 (s++[o])) trivial (eT (by rw[XO];lia)) (λo ho x0 ou J AK j1 j2=>?_) ?_⟩⟩
  ·have QO:o∈ps:=(VF.mp (List.mem_reverse.mp ho)).1;refine⟨_,rfl,trivial,_,rfl,trivial,s.map tI,tI o,by rw[gN],λu hu=>?_,⟨_,_,rfl⟩,_,rfl,?_⟩
   ·obtain⟨p,_,rfl⟩:=VA.mp hu;exact⟨_,_,rfl⟩
   have et:uS (b3 s) (.lst [kD (tI o)])=some (b3 (s++[o])):=oT (by lia)
   cases q2:cB s o with
   |true=>exact iu q2 ⟨_,rfl,trivial,_,rfl,trivial,tj,.inl ⟨⟨rfl,trivial⟩,_,et,.inl ⟨jh,trivial,AK,j1 q2 _⟩⟩⟩
   |false=>exact d4 q2 (j2 q2 _)
  rw[HF ok hv ew];have OY:=lH hp Ir;rw[Vr,US]at OY;refine⟨rfl,_,_,rfl,rfl,?_,sa ps n 0-(m+1),by lia,m+1,r.reverse++(iG ps l).reverse.map (λo=>s++[o]),some (.val true (b3 s)),some (.val true (.lst ((ps.filter (cA s)).map λp=>kD (tI p)))),?_,?_,rfl⟩
  ·rw[US,US,XO,XO,Wf];lia
  ·rw[A_,Vx,Vx,V2,<- es];rfl
  ·rw[XM,V9,<- List.map_reverse,V9];exact Ir
end
end iH
namespace L2.Q
open PySem PySem.Spec PySem.SeqAt PyProof.Rows
inductive DX:Nat->D->Prop
 |int {n:Nat} {i:Int}:DX n (.int i)
 |bH {n:Nat}:DX n .bH
 |tup {n:Nat} {es:List D} (l:es.length<=1000000) (h:∀x∈es,DX n x):DX (n+1) (.tup es)
 |lst {n:Nat} {es:List D} (l:es.length<=1000000) (h:∀x∈es,DX n x):DX (n+1) (.lst es)
def eQ (n:Nat):FD:=λds R=>∃d,ds=[d,d]/\DX n d/\R (.bl true)
theorem eQ.mono {n:Nat}:cD (eQ n):=λds R R' k h=>by obtain⟨d,e,h,q⟩:=h;exact⟨d,e,h,k _ q⟩
theorem Bc {ps:List PN}(h:ps.length<=1000):DX 2 (b3 ps):=by
 refine .lst (by rw[US];lia) λy hy=>?_
 obtain⟨p,_,rfl⟩:=VA.mp hy;exact .tup (by show 2<=1000000;decide) λz hz=>by
  obtain⟨i,_,rfl⟩:=VA.mp hz;exact .int
open PZ
section
variable {ps:List PN}{n:Nat}
theorem vh (hp:∀p∈ps,p.1<p.2)(nd:ps.Nodup):∀{s ws l:List PN} {lo:Nat},eS n lo ws->Va ps ws s->wa ws s=some l->eV ps ws s+aG ps l<=aG ps ws
 |[],ws,l,lo,h,_,e=>by
  cases e;show 0+_<=_;lia
 |t::ts,ws,l,lo,h,⟨ht,m,e,v⟩,e'=>by
  change (wb ws t).bind _=_ at e'
  rw[e]at e';have h1:=vh hp nd (f7 (hp t ht) h e) v e';have h2:=yZ hp nd h ht e;rw[cZ e];lia
theorem Ck (ok:kB n ps)(hs:sV ps){s l:List PN}(hv:Va ps [(0,n)] s)(ew:wa [(0,n)] s=some l){m:Nat}(hm:m<sa ps n 0):(sat ps n m).take s.length=s↔eV ps [(0,n)] s<=m/\m<eV ps [(0,n)] s+aG ps l:=by
 have hp:∀p∈ps,p.1<p.2:=λp h=>(ok.lt p h).1;have hl:=qt hp ft hv ew;obtain⟨v,e⟩:=eY hp hs hm;constructor
 ·intro h;obtain⟨t,et⟩:∃t,sat ps n m=s++t:=⟨(sat ps n m).drop s.length,by conv=>lhs;rw[<- WB s.length (sat ps n m),h]⟩
  rw[et]at v e;obtain⟨_,l',e1,v'⟩:=fv.mp v;rw[ew]at e1;cases e1;rw[gP ew]at e;have:=ll hp ok.nd hl v';lia
 ·rintro⟨h1,h2⟩;obtain⟨t,v',e'⟩:=B5 hp hs hl (k:=m-eV ps [(0,n)] s) (by lia)
  have:sat ps n m=s++t:=o3 hp ok.nd ft v (fv.mpr ⟨hv,l,ew,v'⟩) (by rw[e,gP ew,e'];lia)
  rw[this,List.take_left]
theorem oz (a b:Nat):∀N:Nat,((Vk N).filter λm=>decide (a<=m/\m<a+b)).length=min N (a+b)-min N a
 |0=>by simp
 |N+1=>by
  rw[XH,WO,Vr,oz a b N]
  by_cases h:a<=N/\N<a+b
  ·rw[List.filter_cons_of_pos (p:=λm=>decide (a<=m/\m<a+b)) (decide_eq_true h)];show _+1=_;lia
  ·rw[X_ (p:=λm=>decide (a<=m/\m<a+b)) (λz=>h (of_decide_eq_true z))];show _+0=_;lia
theorem g6 {m:Nat}:(mD ps n m).length=m:=by unfold mD;rw[US,V1]
theorem wo {m k:Nat}(h:k<m):(mD ps n m)[k]?=some (sat ps n (k:Int)):=by
 unfold mD;rw[Vd,Wx h];rfl
theorem DL (ok:kB n ps)(hs:sV ps){s l:List PN}(hv:Va ps [(0,n)] s)(ew:wa [(0,n)] s=some l):((mD ps n (sa ps n 0)).filter λo=>decide (o.take s.length=s)).length=aG ps l:=by
 have hp:∀p∈ps,p.1<p.2:=λp h=>(ok.lt p h).1;have he:=vh hp ok.nd ft hv ew;rw[dA]at he;unfold mD;rw[List.filter_map,US,YL (q:=λm=>decide (eV ps [(0,n)] s<=m/\m<eV ps [(0,n)] s+aG ps l)) λm hm=>?_,oz]
 ·lia
 ·exact decide_eq_decide.mpr (Ck ok hs hv ew (V3.mp hm))
theorem CS (ok:kB n ps)(hs:sV ps){k:Nat}(hk:k<sa ps n 0):CT ps n (sat ps n k)=if k+1<sa ps n 0 then some (sat ps n ((k+1:Nat):Int)) else none:=by
 have hp:∀p∈ps,p.1<p.2:=λp h=>(ok.lt p h).1;obtain⟨v,e⟩:=eY hp hs hk;rcases z5 hp ok.nd hs v with⟨h1,h2⟩|⟨l,h1,h2,h3⟩
 ·rw[e]at h2;rw[h1,if_neg (by lia)]
 ·rw[e]at h3;have h4:=ll hp ok.nd ft h2;rw[h3,dA]at h4;obtain⟨v2,e2⟩:=eY hp hs h4;rw[h1,if_pos h4,o3 hp ok.nd ft h2 v2 (by rw[h3,e2])]
theorem fo.gd (ok:kB n ps){s:List PN}(h:fo ps s):Good (ps.map tI) (s.map tI):=by
 have hp:∀p∈ps,p.1<p.2:=λp h=>(ok.lt p h).1;refine⟨λt ht=>?_,Wl.mpr (h.2.imp λ{a b} z=>kG z.1),Wl.mpr (List.Pairwise.imp_of_mem (λ{a b} ha hb z=>?_) h.2)⟩
 ·obtain⟨p,hp,rfl⟩:=VA.mp ht;exact XN (h.1 p hp)
 ·have:=sO (hp a (h.1 a ha)) (hp b (h.1 b hb)) z;obtain⟨a1,a2⟩:=VL.mp this;exact⟨by simpa using a1,by simpa using a2⟩
end
end L2.Q
namespace iH
open PySem L2 L2.Q
section
variable {P:UX}{w:Vb}{K:PySem.W.Frag}{mg:Str->Option UR}{base:Heap}
theorem qN:aC ["found","due"] ["found","due"] (ak fA):=⟨rfl,rfl,rfl,by decide +kernel,rfl,by decide +kernel,by decide +kernel⟩
def fS:Nat->FD
 |0=>λ_ _=>False
 |n+1=>eQ n
theorem fS.mono:∀{n:Nat},cD (fS n)
 |0=>λ_ _ _ _ h=>h
 |_+1=>eQ.mono
theorem JD {DA pV} (dM:M3 K mg DA pV) (B:Bs2 mg):∀n:Nat,aD P w K mg base bw n DA pV ["found","due"] (bZ P w true (fS n)):=by
 intro n
 induction n with
 |zero=>exact⟨λ_ _ _ _ h=>by obtain⟨_,_,h⟩:=h;exact h.elim,λ_ _ _ _ _ _ _ _ _ _ _ _ _ h=>by obtain⟨_,_,h⟩:=h;exact h.elim⟩
 |succ n GM =>
  refine j_ dM.F qN (λds R Kr=> by obtain⟨d,e,_⟩ := Kr;subst e;rfl) λcC A outer s H E hr=>⟨_,(ag (bO (bS (gA (vt B.EE (fD (i:=1)) B.list dw B.tuple my))) (ag (bO (m9.t (iq (cw (bS (gA (vt B.EE (fD (i:=0)) B.list dw B.tuple my)))) (gU (aI af (bR.m (ub hr.units)) (gA (gT B.EE (fD (i:=0)) B.list dw)) (gA (gT B.EE (fD (i:=1)) B.list dw)))))) (aj (aJ lF)) aY)
    (ag (bO (aI af (bR.m (ub hr.units)) (bb af (bW.m bQ) B.len d7 (aa (ab (i:=0)) ae)) (bb af (bW.m bQ) B.len d7 (aa (ab (i:=1)) ae))) (aj (aJ lF)) aY)
    (aj (aJ (fH af (bR.m (dY hr.units)) (Eu ["k","found","due"] [none,some 0,some 1] (by rfl) (by decide:(["k","found","due"]:List Str).Nodup) rfl (bx B.range (aa (bb af (bW.m bQ) B.len d7 (aa (ab (i:=1)) ae)) ae)) (λ_ _ _ _ _ _=>(ao (i:=0) (by decide:(["k","found","due"]:List Str).Nodup))) (λ_ _ _ _ _ _=>(fw (cw (bS (az fS.mono GM (hr.mono (by lia)) dM.m dM.F.kp dM.b (aa (aK af bf (ab (i:=1)) (ab (i:=0))) (aa (aK af bf (ab (i:=2)) (ab (i:=0))) ae))))))) (λ_ _ _ _ _ _=>(ab (i:=0)))) (a6 ae)))))) aY)
    (ag (bO (aI af (bR.m kP) (ab (i:=1)) cH) (aj (aJ (fH af (bR.m kP) (ab (i:=0)) cH))) aY)
    (aj (aJ (pC (gA (gT B.EE (fD (i:=0)) B.int Bt)) (pC (FY (gA (gT B.EE (fD (i:=0)) B.bool DR))) (jF (fH af (bR.m (dY hr.units)) (ab (i:=0)) (ab (i:=1)))))))))),λds R h=>?_⟩
  obtain⟨d,rfl,hl,q⟩:=h;cases hl with
  | @int _ i =>
   refine⟨_,rfl,_,_,rfl,C6,rfl,_,rfl,d4 rfl ⟨_,rfl,trivial,_,rfl,_,rfl,d4 rfl ?_⟩⟩;exact⟨_,rfl,_,_,rfl,GU,rfl,_,rfl,iu rfl ⟨_,rfl,_,_,rfl,GV,rfl,_,rfl,_,rfl,iu rfl ⟨_,rfl,trivial,_,rfl,_,gI (bP i),trivial,q⟩⟩⟩
  |bH =>
   refine⟨_,rfl,_,_,rfl,C5,rfl,_,rfl,d4 rfl ⟨_,rfl,trivial,_,rfl,_,rfl,iu rfl ?_⟩⟩;exact⟨_,rfl,trivial,_,rfl,trivial,q⟩
  | @tup _ es l hl =>
   refine⟨_,rfl,_,_,rfl,vR,rfl,_,rfl,iu rfl ?_⟩;refine⟨_,rfl,_,_,rfl,vR,rfl,_,rfl,d4 rfl ⟨_,rfl,_,_,rfl,Ao,rfl,trivial,_,rfl,_,_,rfl,Ao,rfl,_,jq (qL false),_,rfl,d4 rfl ?_⟩⟩;refine⟨_,rfl,trivial,_,rfl,trivial,_,rfl,trivial,_,rfl,_,jq (bP _),_,rfl,d4 rfl ?_⟩;refine⟨_,rfl,trivial,_,rfl,trivial,(es.length:Int),rfl,by lia,by lia,trivial,?_⟩
   refine⟨λi β o=>o=[]/\∃x0,β=[x0,some (.val false (.tup es)),some (.val false (.tup es))],⟨rfl,_,rfl⟩,?_,?_⟩
   ·rintro i d β o hd ⟨rfl,x0,rfl⟩;have c5:i<es.length:=by
     have:=(UY.mp hd).1
     rwa [bN,VM]at this
    obtain⟨_,rfl⟩:=bE hd;obtain⟨a,ha⟩:∃a,es[i]?=some a:=⟨_,U3 c5⟩;have tm:=hl a (Vv ha);have hx:oi (.tup es) (.int (0+(i:Int)))=some a:=by rw[YN];exact DI ha
    have hb:=tm
    clear hd
    cases hb with
    |int=>exact⟨_,rfl,trivial,_,rfl,_,hx,trivial,_,rfl,trivial,_,rfl,_,hx,trivial,_,rfl,tm,_,rfl,d4 rfl ⟨rfl,_,rfl⟩⟩
    |bH=>exact⟨_,rfl,trivial,_,rfl,_,hx,trivial,_,rfl,trivial,_,rfl,_,hx,trivial,_,rfl,tm,_,rfl,d4 rfl ⟨rfl,_,rfl⟩⟩
    |tup=>exact⟨_,rfl,trivial,_,rfl,_,hx,trivial,_,rfl,trivial,_,rfl,_,hx,trivial,_,rfl,tm,_,rfl,d4 rfl ⟨rfl,_,rfl⟩⟩
    |lst=>exact⟨_,rfl,trivial,_,rfl,_,hx,.inr ⟨trivial,_,rfl,trivial,_,rfl,_,hx,.inr ⟨trivial,_,rfl,tm,_,rfl,d4 rfl ⟨rfl,_,rfl⟩⟩⟩⟩
   ·rintro β o ⟨rfl,x0,rfl⟩;exact⟨trivial,trivial,Ve _,_,gI (ik []),trivial,q⟩
  | @lst _ es l hl =>
   refine⟨_,rfl,_,_,rfl,vT,rfl,_,rfl,iu rfl ?_⟩;refine⟨_,rfl,_,_,rfl,vT,rfl,_,rfl,d4 rfl ⟨_,rfl,_,_,rfl,ur,rfl,trivial,_,rfl,_,_,rfl,ur,rfl,_,jq (qL true),_,rfl,d4 rfl ?_⟩⟩;refine⟨_,rfl,trivial,_,rfl,trivial,_,rfl,trivial,_,rfl,_,jq (bP _),_,rfl,d4 rfl ?_⟩;refine⟨_,rfl,trivial,_,rfl,trivial,(es.length:Int),rfl,by lia,by lia,trivial,?_⟩
   refine⟨λi β o=>o=[]/\∃x0,β=[x0,some (.val false (.lst es)),some (.val false (.lst es))],⟨rfl,_,rfl⟩,?_,?_⟩
   ·rintro i d β o hd ⟨rfl,x0,rfl⟩;have c5:i<es.length:=by
     have:=(UY.mp hd).1
     rwa [bN,VM]at this
    obtain⟨_,rfl⟩:=bE hd;obtain⟨a,ha⟩:∃a,es[i]?=some a:=⟨_,U3 c5⟩;have tm:=hl a (Vv ha);have hx:oi (.lst es) (.int (0+(i:Int)))=some a:=by rw[YN];exact p_ ha
    have hb:=tm
    clear hd
    cases hb with
    |int=>exact⟨_,rfl,trivial,_,rfl,_,hx,trivial,_,rfl,trivial,_,rfl,_,hx,trivial,_,rfl,tm,_,rfl,d4 rfl ⟨rfl,_,rfl⟩⟩
    |bH=>exact⟨_,rfl,trivial,_,rfl,_,hx,trivial,_,rfl,trivial,_,rfl,_,hx,trivial,_,rfl,tm,_,rfl,d4 rfl ⟨rfl,_,rfl⟩⟩
    |tup=>exact⟨_,rfl,trivial,_,rfl,_,hx,trivial,_,rfl,trivial,_,rfl,_,hx,trivial,_,rfl,tm,_,rfl,d4 rfl ⟨rfl,_,rfl⟩⟩
    |lst=>exact⟨_,rfl,trivial,_,rfl,_,hx,.inr ⟨trivial,_,rfl,trivial,_,rfl,_,hx,.inr ⟨trivial,_,rfl,tm,_,rfl,d4 rfl ⟨rfl,_,rfl⟩⟩⟩⟩
   ·rintro β o ⟨rfl,x0,rfl⟩;exact⟨trivial,trivial,Ve _,_,gI (ik []),trivial,q⟩
theorem CL {DA pV} (dM:M3 K mg DA pV) (B:Bs2 mg) (n:Nat):aD P w K mg base bw (n+1) DA pV ["found","due"] (bZ P w true (eQ n)):=JD dM B (n+1)
theorem jB:aC ["ties"] ["ties"] (ak cv):=⟨rfl,rfl,rfl,by decide +kernel,rfl,by decide +kernel,by decide +kernel⟩
def mf:FD:=λds R=>∃ns:List (Nat×Nat),ds=[b3 ns]/\ns.length<=1000/\R (.bl true)
theorem mf.mono:cD mf:=λds R R' k ⟨ns,e,h,q⟩=>⟨ns,e,h,k _ q⟩
theorem GQ {K:PySem.W.Frag}:PySem.W.kitOne K (.type "tuple") (.type "tuple")=some true:=by rfl
theorem Gr {xZ nS} (EY:P8 K mg xZ nS) (B:Bs2 mg):aD P w K mg base bw 1 xZ nS ["ties"] (bZ P w true mf):=by
 refine j_ EY.F jB (λds R Kq=> by obtain⟨ns,e,_⟩ := Kq;subst e;rfl) λcC A outer s H E hr=>⟨_,(aj (aJ (pC (gA (gT B.EE (fD (i:=0)) B.list dw)) (jF (fH af (bR.m (dY hr.units)) (Eu ["tie"] [none] (by rfl) (by decide:(["tie"]:List Str).Nodup) rfl (a9 (ab (i:=0))) (λ_ _ _ _ _ _=>(ao (i:=0) (by decide:(["tie"]:List Str).Nodup))) (λ_ _ _ _ _ _=>(fw (cw (bS (Co K B.EE (fD (i:=0)) B.tuple my))))) (λ_ _ _ _ _ _=>(ab (i:=0)))) (a6 ae)))))),λds R h=>?_⟩
 obtain⟨ns,rfl,hn,q⟩:=h;refine⟨_,rfl,_,_,rfl,ur,rfl,_,rfl,iu rfl ?_⟩;refine⟨_,rfl,_,rfl,trivial,dZ (λ_=>false) (λp=>kD (tI p)) trivial (eT hn) (λo ho x0 ou J AK j1 j2=>?_) ?_⟩
 ·exact⟨_,rfl,_,_,rfl,GQ,rfl,_,rfl,d4 rfl (j2 rfl _)⟩
 rw[show ns.filter (λ_=>false)=[] from List.filter_eq_nil_iff.mpr λ_ _ z=>by cases z]
 exact⟨trivial,Ve _,_,gI (ik []),trivial,q⟩
def A8:FD:=λds R=>∃(n:Nat) (ps:List (Nat×Nat)) (k:Nat),ds=[jv n ps,.lst ((mD ps n (sa ps n 0)).map b3),.int (k:Int)]/\kB n ps/\n<=8/\sV ps/\k<sa ps n 0/\R (.bl true)
theorem A8.mono:cD A8:=λds R R' l ⟨n,ps,k,e,h1,h2,h3,h4,q⟩=>⟨n,ps,k,e,h1,h2,h3,h4,l _ q⟩
theorem aW:aC ["row","every","number","some","behind","handed","again","found","later","due"] ["row","every","number"] (ak cu):=⟨rfl,rfl,rfl,by decide +kernel,rfl,by decide +kernel,by decide +kernel⟩
theorem Gn {Dz wg} (IE:Ro K mg Dz wg) {yb nX} (E2:P_ K mg yb nX) {xW nP} (EU:Qc K mg xW nP) {xY nR} (EX:Qa K mg xY nR) {x_ nU} (EZ:Qd K mg x_ nU) {xX nQ} (EV:Qb K mg xX nQ) {kA gc} (mH:II K mg kA gc) {wm ji} (dE:Ii K mg wm ji) {tw g_} (dO:Fb K mg tw g_) {qh gh} (dF:DZ K mg qh gh) {nZ fk} (dS:D9 K mg nZ fk) {nY fh} (dX:D8 K mg nY fh) {kz gb} (mG:D7 K mg kz gb) {jl eK} (qk:D3 K mg jl eK) {jk eJ} (qj:D2 K mg jk eJ) {jj eI} (qi:D6 K mg jj eI) {fR cL} (g7:D5 K mg fR cL) {hG df} (oh:D4 K mg hG df) {m5 ib} (pZ:Mj K mg m5 ib) {mZ ia} (pY:Mk K mg mZ ia) {gi cN} (gj:DY K mg gi cN) {DA pV} (dM:M3 K mg DA pV) {xZ nS} (EY:P8 K mg xZ nS) (B:u3 mg):aD P w K mg base bw 7 Dz wg ["row","every","number"] (bZ P w true A8):=by
 have Uc:aD P w K mg base bw 1 _ _ _ (bZ P w true sC):=xv E2 B.toBs;have T4:aD P w K mg base bw 6 _ _ _ (bZ P w true (md IB)):=Gk EU mH dE dO dF dS dX mG qk qj qi g7 oh pZ gj B;have T8:aD P w K mg base bw 6 _ _ _ (bZ P w true (md EL)):=Gp EX mH dE dO dF dS dX pZ pY gj B;have T_:aD P w K mg base bw 6 _ _ _ (bZ P w true (md LD)):=Gs EZ mH dE dO dF dS dX mG qk qj qi g7 oh pY gj B;have P7:aD P w K mg base bw 4 _ _ _ (bZ P w true l_):=xu EV mG qk qj qi g7 oh gj B;have GM:aD P w K mg base bw 3 _ _ _ (bZ P w true (eQ 2)):=CL dM B.toBs2 2;have T9:aD P w K mg base bw 1 _ _ _ (bZ P w true mf):=Gr EY B.toBs2;refine j_ IE.F aW (λds R Ko=> by obtain⟨n,ps,k,e,_⟩ := Ko;subst e;rfl) λcC A outer s H E hr=>⟨_,(ag (aP (i:=3) (aK af bf (ab (i:=1)) (ab (i:=2))) aW.nd)
    (fI (aP (i:=4) (aK af bf (a3 aU aL (ab (i:=1)) (a6 (aa cH ae))) (a3 aU aL (ab (i:=2)) ah)) aW.nd)
    (ag (aP (i:=5) (a6 (aa (az sC.mono Uc (hr.mono (by decide)) E2.m E2.F.kp E2.b (aa (ab (i:=0)) ae)) (aa (gV aU gK B.list dw (aa (ab (i:=3)) ae)) ae))) aW.nd)
    (ag (cb VE rfl (bx B.range (aa ah ae)) (ao (i:=6) aW.nd) (ag (fJ (i:=7) (λ_=>(az l_.mono P7 (hr.mono (by decide)) EV.m EV.F.kp EV.b (aa (aK af bf (ab (i:=5)) ah) (aa (ab (i:=2)) ae)))) aW.nd)
    (ag (fJ (i:=8) (λ_=>(az md.mono T8 (hr.mono (by decide)) EX.m EX.F.kp EX.b (aa (aK af bf (ab (i:=5)) ah) (aa (aK af bf (ab (i:=5)) ah) ae)))) aW.nd)
    (ag (bO (m9.t (iq (cw (bS (az eQ.mono GM (hr.mono (by decide)) dM.m dM.F.kp dM.b (aa (ab (i:=7)) (aa (ab (i:=3)) ae))))) (gU (cw (bS (az mf.mono T9 (hr.mono (by decide)) EY.m EY.F.kp EY.b (aa (ab (i:=7)) ae))))))) (aj (aJ lF)) aY)
    (ag (bO (m9.t (iq (cw (bS (az eQ.mono GM (hr.mono (by decide)) dM.m dM.F.kp dM.b (aa (ab (i:=8)) (aa (ab (i:=4)) ae))))) (gU (cw (bS (az eQ.mono GM (hr.mono (by decide)) dM.m dM.F.kp dM.b (aa (az md.mono T4 (hr.mono (by decide)) EU.m EU.F.kp EU.b (aa (aK af bf (ab (i:=5)) ah) (aa (aK af bf (ab (i:=5)) ah) ae))) (aa (ab (i:=2)) ae)))))))) (aj (aJ lF)) aY)
    (ag (jG (i:=7) (λ_=>(bz (aa ah (aa ah ae)))))
    (aj (bO (aI af (bR.m i_) (ab (i:=8)) cH) (aj (jG (i:=8) (λ_=>(bz (aa ah (aa ah ae)))))) aY))))))))
    (ag (aP (i:=9) (bb af (bW.m bQ) B.len d7 (aa (Si 0 ["one","some"] [none,some 3] (by rfl) (by decide:(["one","some"]:List Str).Nodup) rfl (a9 (ab (i:=1))) (λ_ _ _ _ _ _=>(fw (aI af (bR.m (dY hr.units)) (zF (ab (i:=0)) lE (lD (bb af (bW.m bQ) B.len d7 (aa (ab (i:=1)) ae)))) (ab (i:=1)))))) ae)) aW.nd)
    (aj (aJ (pC (az eQ.mono GM (hr.mono (by decide)) dM.m dM.F.kp dM.b (aa (az md.mono T_ (hr.mono (by decide)) EZ.m EZ.F.kp EZ.b (aa (aK af bf (ab (i:=5)) ah) (aa (aK af bf (ab (i:=5)) ah) ae))) (aa (ab (i:=9)) ae))) (jF (fH af (bR.m (dY hr.units)) (ab (i:=5)) (a6 (aa (ab (i:=0)) (aa (ab (i:=3)) ae))))))))))))),λds R h=>?_⟩
 obtain⟨n,ps,k,rfl,ok,hn,hs,hk,q⟩:=h;have hp:∀p∈ps,p.1<p.2:=λp h=>(ok.lt p h).1;have hN:sa ps n 0<=362880:=by
  have h1:=qP hp ok.nd n 0;have h2:=fm (show n+1<=9 by lia)
  have h3:mC 9=362880:=by decide
  lia
 obtain⟨hv,QM⟩:=eY hp hs hk;obtain⟨l,ew⟩:=yM hv;have Kg:fo ps (sat ps n k):=hv.set ok;have MG:=tK ok hv;have OH:=CS ok hs hk;have Lz:=DL ok hs hv ew;have QZ:=wo (ps:=ps) (n:=n) hk;have SD:sat ps n (k:Int)=sat ps n k:=rfl;generalize es:sat ps n (k:Int)=s at hv QM ew Kg MG OH Lz QZ;refine⟨_,rfl,trivial,_,rfl,_,lT (d:=b3 s) (i:=k) rfl (by rw[Vd,QZ];rfl),.inr ?_⟩
 refine⟨λβ=>∃b bd,β=[some (.val false (jv n ps)),some (.val false (.lst ((mD ps n (sa ps n 0)).map b3))),some (.val false (.int (k:Int))),some (.val false (b3 s)),some (.val b bd),none,none,none,none,none]/\DX 2 bd/\EL ps n s=bd/\(bd=.bH\/∃u,bd=b3 u/\u.length<=1000),?_,?_⟩
 ·have Q4:uS (.lst ((mD ps n (sa ps n 0)).map b3)) (.lst [.bH])=some (.lst ((mD ps n (sa ps n 0)).map b3++[.bH])):=gJ (by rw[US,g6];show _+1<=_;lia)
  by_cases c5:k+1<sa ps n 0
  ·have S_:=wo (ps:=ps) (n:=n) c5;have Ls:EL ps n s=b3 (sat ps n ((k+1:Nat):Int)):=by unfold EL;rw[OH,if_pos c5]
   have QU:=tK ok (eY hp hs c5).1;exact⟨_,rfl,trivial,trivial,tj,_,Q4,.inr ⟨trivial,_,rfl,trivial,_,rfl,_,lT (d:=b3 (sat ps n ((k+1:Nat):Int))) (i:=k+1) rfl (by rw[Ws (by rw[US,g6];exact c5),Vd,S_];rfl),.inr ⟨_,_,rfl,Bc (by lia),Ls,.inr ⟨_,rfl,by lia⟩⟩⟩⟩
  ·have Ls:EL ps n s=.bH:=by unfold EL;rw[OH,if_neg c5]
   exact⟨_,rfl,trivial,trivial,tj,_,Q4,.inr ⟨trivial,_,rfl,trivial,_,rfl,_,lT (d:=.bH) (i:=k+1) rfl (by rw[VR (by rw[US,g6];lia),US,g6,show k+1-sa ps n 0=0 by lia];rfl),_,_,rfl,.bH,Ls,.inl rfl⟩⟩
 ·rintro β ⟨b,bd,rfl,Th,Ls,HA⟩;have AQ:Good (ps.map tI) (s.map tI):=Kg.gd ok;have Hn:Pairs (s.map tI):=λu hu=>by
   obtain⟨p,_,rfl⟩:=VA.mp hu;exact⟨_,_,rfl⟩
  have hh:hold (vk b bd) true:=by
   rcases HA with rfl|⟨u,rfl,_⟩ <;> cases b <;> trivial
  have O0:(s.map tI).length<=1000:=by rw[US];lia
  have S4:dList [b3 s]=some (b3 s):=by
   rfl
  refine⟨_,rfl,trivial,n,ps,rfl,trivial,_,rfl,trivial,_,S4,.inl ⟨jh,trivial,km,?_⟩⟩;refine⟨trivial,2,rfl,by decide,by decide,trivial,?_⟩
  refine⟨λ_ β=>∃x6 x7 x8,β=[some (.val false (jv n ps)),some (.val false (.lst ((mD ps n (sa ps n 0)).map b3))),some (.val false (.int (k:Int))),some (.val false (b3 s)),some (.val b bd),some (.val true (.lst [jv n ps,b3 s])),x6,x7,x8,none],⟨_,_,_,rfl⟩,?_,?_⟩
  ·rintro i d β hd ⟨x6,x7,x8,rfl⟩;obtain⟨_,rfl⟩:=bE hd
   clear hd
   refine⟨_,rfl,trivial,_,rfl,trivial,_,rfl,trivial,n,ps,k,rfl,ok,by lia,λz=>z ⟨by lia,by show (k:Int)<((sa ps n 0:Nat):Int);lia⟩,λ_ _=>?_⟩
   rw[es];have SI:∀x,x=s->D.lst (List.map (λp=>kD (tI p)) x)=.lst ((s.map tI).map kD):=λx e=>by rw[e,V2];rfl
   refine⟨trivial,_,rfl,trivial,_,rfl,trivial,_,rfl,trivial,_,rfl,.inr ⟨trivial,n,ps,s.map tI,by rw[gN],ok,by lia,O0,Hn,λz=>z AQ,λ_ ns en _=>?_⟩⟩
   cases iS en;rw[Ls];refine⟨trivial,?_⟩;refine⟨_,rfl,trivial,_,rfl,trivial,b3 s,rfl,Bc (by lia),_,rfl,d4 rfl ⟨_,rfl,trivial,s,rfl,by lia,_,rfl,d4 rfl ?_⟩⟩
   refine⟨_,rfl,trivial,_,rfl,hh,bd,rfl,Th,_,rfl,d4 rfl ?_⟩;refine⟨_,rfl,trivial,_,rfl,trivial,_,rfl,trivial,_,rfl,.inr ⟨trivial,n,ps,s.map tI,by rw[gN],ok,by lia,O0,Hn,λz=>z AQ,λ_ ns en _=>?_⟩⟩
   cases iS en;have S8:IB ps n s=.int (k:Int):=by unfold IB;rw[QM]
   rw[S8];refine⟨trivial,_,rfl,trivial,.int k,rfl,.int,_,rfl,d4 rfl ?_⟩;have Lm:∀u:List (Nat×Nat),u.length<=1000->(u.map λp=>kD (tI p)).length<U4:=λu h=>by rw[US,Wf];lia
   refine⟨⟨_,rfl⟩,trivial,trivial,km,trivial,_,rfl,Lm s (by lia),?_⟩
   rcases HA with rfl|⟨u,rfl,hu⟩
   ·exact⟨_,rfl,trivial,_,rfl,_,rfl,d4 rfl ⟨_,_,_,rfl⟩⟩
   ·exact⟨_,rfl,trivial,_,rfl,_,rfl,iu rfl ⟨⟨_,rfl⟩,trivial,trivial,km,trivial,_,rfl,Lm u hu,_,_,_,rfl⟩⟩
  ·rintro β ⟨x6,x7,x8,rfl⟩;refine⟨_,rfl,_,rfl,rfl,GJ (λo:List (Nat×Nat)=>decide (o.take s.length=s)) trivial (by rw[g6,Wf];lia) (λo ho R' hR=>?_) ?_⟩
   ·have TJ:PF (b3 o) none (some (((s.map λp=>kD (tI p)).length:Nat):Int))=some (b3 (o.take s.length)):=by
     show some (D.lst (cutD _ _ _))=_;rw[US];unfold cutD b3;rw[HT.lz,HT.pf,Za,List.map_take]
     congr 2
     rw[List.take_eq_take_iff];lia
    exact⟨_,rfl,_,rfl,trivial,_,rfl,_,rfl,_,TJ,.inl ⟨jh,trivial,_,rfl,_,wA _ _,_,rfl,hR⟩⟩
   have hlen:HQ [.lst (((mD ps n (sa ps n 0)).filter λo=>decide (o.take s.length=s)).map b3)]=some (.int ((aG ps l:Nat):Int)):=by
    rw[<- Lz];show some (D.int _)=_;rw[US]
   refine⟨trivial,_,hlen,?_⟩;refine⟨_,rfl,trivial,_,rfl,trivial,_,rfl,trivial,_,rfl,.inr ⟨trivial,n,ps,s.map tI,by rw[gN],ok,by lia,O0,Hn,λz=>z AQ,λ_ ns en _=>?_⟩⟩
   cases iS en;have S9:LD ps n s=.int ((aG ps l:Nat):Int):=by unfold LD;rw[ew];rfl
   rw[S9];refine⟨trivial,_,rfl,trivial,.int _,rfl,.int,_,rfl,iu rfl ?_⟩;exact⟨_,rfl,trivial,_,rfl,trivial,_,rfl,trivial,km,.inr ⟨_,gI (eX (n:=4) λd hd=>by
    rcases U0.mp hd with rfl|hd
    ·exact y7 _ _
    ·rw[U8.mp hd];exact⟨(eW s).1,Nat.le_succ_of_le (eW s).2⟩),trivial,q⟩⟩
end
end iH
namespace L2.Q
open PySem PySem.Spec PySem.SeqAt PyProof.Rows
section
variable {X:Cx}{C:Cfg}{a b:Expr}{p p' pos pos':Pos}
theorem mS {ta:TA} (hc:X.calm=true) (Pa:Gl X "list") (OO:X.mg "list" = none) (hg:Gl X "range") (hm:X.mg "range" = none) (ha:PA X [a] ta) (hs:U5 [a] X.env=[(false,eval a X.env)]:=by rfl)
  (hl:U5 [.Call (.Name "range" p) [a] [] pos] X.env=[(false,eval (.Call (.Name "range" p) [a] [] pos) X.env)]:=by rfl) :
  PE X (.Call (.Name "list" p') [.Call (.Name "range" p) [a] [] pos] [] pos') (λσ H Q=>ta σ H λvs H1=>∃j:Int,vs=[.int j]/\(-(2 ^ 62)<=j/\j<2 ^ 62)/\j.toNat<=2 ^ 24/\∀p,H1 p=none->Q (.ref p) (upd H1 p (.lst ((Vk j.toNat).map λk:Nat=>V.int (0+(k:Int)))))):=by
 intro pins s σ H Q I h;refine Xl (fN I Pa OO dw ?_ (by decide) (by decide))
 refine V6 ?_ hl rfl;rw[hl];show Vu _ _ (spliced ((false,eval (.Call (.Name "range" p) [a] [] pos) X.env)::[])) _ _ s;refine Calls.spliced_cons ?_;refine Xl (fN I hg hm Y7 ?_ (by decide) (by decide))
 refine V6 (bA (ha pos pins s σ H _ I h) λus s1 h1=>?_) (by rw[hs];rfl) rfl
 obtain⟨vs,H1,I1,r1,j,rfl,⟨q3,q4⟩,hz,q⟩:=h1;obtain⟨u1,rfl,⟨t2,rfl⟩⟩:=vals1 r1;refine call_range_1 (Calls.spliced_nil ?_);have up:∀b o,s1.heap.get? b=some o->(s1.heap.push {cls:=.type "range",data:=.fields #[.int 0 s1.toks,.int j t2,.int 1 (s1.toks+1)]}).get? b=some o:=λb o e=>Vc _ e;have e2:WK 0 j 1=((j.toNat:Nat):Int):=by rw[rangeSize_one];split <;> lia
 refine call_list_range (n:=j.toNat) (I.ok.hd hc) (IsRange.new ..) (small_one (by decide) (by decide) q3 q4) e2 hz λh' tk acc c kp hS ha=>?_
 have I2:Inv X pins σ H1 {s1 with heap:=s1.heap.push {cls:=.type "range",data:=.fields #[.int 0 s1.toks,.int j t2,.int 1 (s1.toks+1)]},toks:=s1.toks+1+1}:=I1.kept up
 have fr:H1 (s1.heap.push {cls:=.type "range",data:=.fields #[.int 0 s1.toks,.int j t2,.int 1 (s1.toks+1)]}).objs.size=none:=I2.bM.fresh (UU _);refine⟨.ref (s1.heap.push {cls:=.type "range",data:=.fields #[.int 0 s1.toks,.int j t2,.int 1 (s1.toks+1)]}).objs.size,_,I2.laid (o:=.lst _) kp (UU _) ⟨?_,acc.toList,c,C7 ha,?_⟩,rfl,q _ fr⟩
 ·rw[US,V1];exact hz
 ·simpa using hS
def xg (φs:b_):aX:=λβ R=>φs β λds _ β1=>∃j:Int,ds=[.int j]/\(-(2 ^ 62)<=j/\j<2 ^ 62)/\j.toNat<=2 ^ 24/\R (.lst (kq 0 j.toNat)) .own β1
theorem mR {φs:b_} {q:Bool} (hc:X.calm=true) (OO:X.mg "list" = none) (hm:X.mg "range" = none) (ha:qo X C q [a] φs) (Pa:Gl X "list" := by rfl) (hg:Gl X "range" := by rfl) (hs:U5 [a] X.env=[(false,eval a X.env)]:=by rfl)
  (hl:U5 [.Call (.Name "range" p) [a] [] pos] X.env=[(false,eval (.Call (.Name "range" p) [a] [] pos) X.env)]:=by rfl):PQ X C q (.Call (.Name "list" p') [.Call (.Name "range" p) [a] [] pos] [] pos') (xg φs) :=
 ⟨λβ R R' k h=>ha.mono β _ _ (λds ks β1 h=>by obtain⟨j,e,h1,h2,q⟩:=h;exact⟨j,e,h1,h2,k _ _ _ q⟩) h,(mS hc Pa OO hg hm ha.pa hs hl).pre λσ H Q h=>by
  obtain⟨β,own,s,h⟩:=h;refine tf.of ha s h λds ks β1 vs H1 aA h o1 r1=>?_;obtain⟨j,rfl,h1,h2,q⟩:=h;obtain⟨x,r,rfl,rx,rr⟩:=r1.ip;cases (show x=V.int j from rx)
  cases (show r=[] from rr)
  refine⟨j,rfl,h1,h2,λp hp=>q _ _ aA (o1.same (au.new hp)) ⟨[p],⟨p,_,[],rfl,ar,rfl,qS _⟩,by simp,λc hc=>?_⟩⟩
  rw[U8.mp hc];exact⟨VB λz=>o1.sn.d p z hp,λz=>o1.sq.uM p z hp,VB λz=>o1.sq.hJ p z hp⟩⟩
end
end L2.Q
namespace iH
open PySem L2 L2.Q
section
variable {P:UX}{w:Vb}{K:PySem.W.Frag}{mg:Str->Option UR}{base:Heap}
theorem lx:aC ["script","k"] ["script","k"] (ak cV):=⟨rfl,rfl,rfl,by decide +kernel,rfl,by decide +kernel,by decide +kernel⟩
def yY (K:PySem.W.Frag):Sp:=λvs H Q _=>∃(a:Addr) (ns:List Int),vs=[.ref a,.int 0]/\da K H a (ns.map V.int)/\∀c:Int,Q (.int c) H
theorem CP {DB wj} (IG:Rn K mg DB wj) (B:Bs mg):aD P w K mg base bw 1 DB wj ["script","k"] (yY K):=by
 refine IG.F.ok lx (λvs H Q E h=>?_) (λcC A outer s H vs Qk E hr h=>?_)
 ·obtain⟨a,ns,rfl,_⟩:=h;rfl
 ·obtain⟨a,ns,rfl,hS,k⟩:=h;refine⟨_,cg (zw (pq zS (pv 1) (gB fV (by rfl) B.len d7 (a8 (pv 0) cJ)) (z8 _)) (fE (gz (h8 cX (pv 0) (pv 1) (λ_ _=>rfl)))) pz) (fE (gz aT)),?_⟩
  refine⟨_,rfl,_,rfl,a,_,rfl,.inl hS,0,_,rfl,rfl,_,rfl,?_⟩;dsimp only
  split
  ·rename_i hl
   cases ns with
   |nil=>exact absurd hl (by decide)
   |cons n ns=>exact⟨_,rfl,_,rfl,a,_,0,.int n,rfl,rfl,hS,(by unfold m7;rw[show xK (List.map V.int (n::ns)).length 0=some 0 by unfold xK;rw[if_pos (by decide),if_pos (by rw[US,U_];lia)];rfl];rfl),k n⟩
  ·exact k 0
theorem gv:aC ["script","cell","deck","row","every","numbers","number"] ["script"] (ak ly):=⟨rfl,rfl,rfl,by decide +kernel,rfl,by decide +kernel,by decide +kernel⟩
def yX (K:PySem.W.Frag):Sp:=λvs H Q _=>∃(a:Addr) (ns:List Int),vs=[.ref a]/\da K H a (ns.map V.int)/\ns.length<=63/\∀H',Q (.bl true) H'
def JL (β:Q.a_):Prop:=∃y0 y1 y2 y3 y4 y5 y6:Option Q.B,β=[y0,y1,y2,y3,y4,y5,y6]
theorem Gq {f:Addr} {fd:Vz} (F:BK K "law" "law" ly f fd) (B:u3 mg) {yb nX} (E2:P_ K mg yb nX) {xW nP} (EU:Qc K mg xW nP) {xY nR} (EX:Qa K mg xY nR) {x_ nU} (EZ:Qd K mg x_ nU) {xX nQ} (EV:Qb K mg xX nQ) {kA gc} (mH:II K mg kA gc) {wm ji} (dE:Ii K mg wm ji) {tw g_} (dO:Fb K mg tw g_) {qh gh} (dF:DZ K mg qh gh) {nZ fk} (dS:D9 K mg nZ fk) {nY fh} (dX:D8 K mg nY fh) {kz gb} (mG:D7 K mg kz gb) {jl eK} (qk:D3 K mg jl eK) {jk eJ} (qj:D2 K mg jk eJ) {jj eI} (qi:D6 K mg jj eI) {fR cL} (g7:D5 K mg fR cL) {hG df} (oh:D4 K mg hG df) {m5 ib} (pZ:Mj K mg m5 ib) {mZ ia} (pY:Mk K mg mZ ia) {gi cN} (gj:DY K mg gi cN) {DA pV} (dM:M3 K mg DA pV) {xZ nS} (EY:P8 K mg xZ nS) {Dz wg} (IE:Ro K mg Dz wg) {DB wj} (IG:Rn K mg DB wj) {Tx Pu} (dH:Ug K mg Tx Pu) {Pw HI} (dT:D1 K mg Pw HI) {MP Dx} (dR:D0 K mg MP Dx) {sg kh} (BI:M4 K mg sg kh) {ya nV} (E1:P9 K mg ya nV) {Dy we} (ID:Rq K mg Dy we):aD P w K mg base bw 45 f fd ["script"] (yX K):=by
 have Ud:aD P w K mg base bw 1 _ _ _ (yY K):=CP IG B.toBs;have GH:aD P w K mg base bw 1 _ _ _ (bZ P w true A7):=CO dH.F B.toBs;have GT:aD P w K mg base bw 1 _ _ _ (tR P w ud true c6):=vG dT.F;have GR:aD P w K mg base bw 3 _ _ _ (tR P w ud true su):=Gm dR dT B.toBs;have T3:aD P w K mg base bw 3 _ _ _ (bZ P w false sj):=CK ID E1 BI B;have T7:aD P w K mg base bw 7 _ _ _ (bZ P w true A8):=Gn IE E2 EU EX EZ EV mH dE dO dF dS dX mG qk qj qi g7 oh pZ pY gj dM EY B;refine F.ok gv (λvs H Q E h=>?_) (λcC A outer s H vs Qk E hr h=>?_)
 ·obtain⟨a,ns,rfl,_⟩:=h;rfl
 ·obtain⟨a,ns,rfl,hS,hlen,k⟩:=h;have O3:∀b:Addr,¬ (λ_=>False) b:=λb z=>z;obtain⟨ψ,hb,hψ⟩:∃ψ,Q.wI (m6 bw P w K mg base _ "law" (ak ly) f cC A outer s H E).En ⟨H,λ_=>False,true,λ_=>False⟩ (match (eM ly)with | .For _ _ b _ _::_=>b|_=>[]) ψ /\
    ∀(c:Int) (x0 x2 x3 x4 x5 x6:Option Q.B),ψ {nx:=JL,rt:=λd _=>d=.bl true,bk:=JL,ct:=JL} [x0,some (.val true (.int c)),x2,x3,x4,x5,x6]:=by
   refine⟨_,(ag (Cv (i:=2) ud O3 (λ_=>(az A7.mono GH (hr.mono (by decide)) dH.m dH.F.kp dH.b (aa (ab (i:=1)) ae))) gv.nd)
    (ag (aP (i:=3) (b7 (ih:=2) su.mono GR (hr.mono (by decide)) dR.m dR.F.kp dR.b (aa ah ae)) gv.nd)
    (ag (aP (i:=4) (az sj.mono T3 (hr.mono (by decide)) ID.m ID.F.kp ID.b (aa (ab (i:=3)) ae)) gv.nd)
    (ag (aP (i:=5) (mR rfl B.list B.range (aa (bb af (bW.m bQ) B.len d7 (aa (ab (i:=4)) ae)) ae)) gv.nd)
    (fI (bO (aI af (bR.m pL) (bb af (bW.m bQ) B.len d7 (aa (ab (i:=4)) ae)) ah) (aj (aP (i:=5) (a3 aU aL (a6 (aa ah (aa ah (aa (a3 af (bR.m du) (bb af (bW.m bQ) B.len d7 (aa (ab (i:=4)) ae)) ah) ae)))) (Eu ["k","deck","every"] [none,some 2,some 4] (by rfl) (by decide:(["k","deck","every"]:List Str).Nodup) rfl (bx B.range (aa ah ae)) (λ_ _ _ _ _ _=>(ao (i:=0) (by decide:(["k","deck","every"]:List Str).Nodup))) (λ_ _ _ _ _ _=>ij) (λ_ _ _ _ _ _=>(b7 (ih:=1) c6.mono GT (hr.mono (by decide)) dT.m dT.F.kp dT.b (aa (bb af (bW.m bQ) B.len d7 (aa (ab (i:=2)) ae)) ae))))) gv.nd)) aY)
    (aj (cb VE rfl (a9 (ab (i:=5))) (ao (i:=6) gv.nd) (aj (bO (cw (bS (az A8.mono T7 (hr.mono (by decide)) IE.m IE.F.kp IE.b (aa (ab (i:=3)) (aa (ab (i:=4)) (aa (ab (i:=6)) ae)))))) (aj (aJ lF)) aY))))))))),λcc x0 x2 x3 x4 x5 x6=>?_⟩
   refine⟨_,rfl,trivial,cc,rfl,λns hk=>⟨trivial,(by show 2<7;decide),ns,rfl,hk,?_⟩⟩
   refine⟨rfl,trivial,rfl,trivial,8,rfl,by decide,by decide,λn ts n0 n1 dr=>?_⟩
   obtain⟨hl,tr,sr,nd⟩:=dr;obtain⟨m,ps,ok,en,TF,er⟩:=Ca n0 (by lia) (by lia) tr nd
   rw[er];have hm:m<=8:=by lia
   have hs:sV ps:=Fz (by rw[<- TF];exact sr) ok.nd
   refine⟨_,rfl,trivial,m,ps,rfl,ok,hm,hs,?_⟩;have hw:1<=sa ps m 0:=FK ps m 0;have hN:sa ps m 0<=362880:=by
    have h1:=qP (λp h=>(ok.lt p h).1) ok.nd m 0;have h2:=fm (show m+1<=9 by lia)
    have h3:mC 9=362880:=by decide
    lia
   have hle:HQ [.lst ((mD ps m (sa ps m 0)).map b3)]=some (.int ((sa ps m 0:Nat):Int)):=by
    show some (D.int _)=_;rw[US,g6]
   refine⟨_,rfl,trivial,_,hle,trivial,((sa ps m 0:Nat):Int),rfl,⟨by lia,by lia⟩,by rw[VM];lia,?_⟩
   have Oi:∀d∈kq 0 ((sa ps m 0:Nat):Int).toNat,∃j:Nat,d=.int (j:Int)/\j<sa ps m 0:=λd hd=>by
    obtain⟨i,hi⟩:=Ys hd;obtain⟨h1,rfl⟩:=bE hi;rw[VM]at h1;exact⟨i,by rw[YN],h1⟩
   refine⟨λβ=>∃x6 nb,β=[x0,some (.val true (.int cc)),some (.hand ud),some (.val true (jv m ps)),some (.val true (.lst ((mD ps m (sa ps m 0)).map b3))),some (.val true (.lst nb)),x6]/\∀d∈nb,∃j:Nat,d=.int (j:Int)/\j<sa ps m 0,?_,?_⟩
   ·refine⟨_,rfl,trivial,_,hle,trivial,_,rfl,_,rfl,lY (λPp=>?_) λPp=>⟨_,_,rfl,Oi⟩⟩;refine⟨trivial,trivial,_,rfl,trivial,_,hle,trivial,_,rfl,trivial,eT (by show 3<=1000;decide),?_⟩
    refine⟨trivial,trivial,40,rfl,by decide,by decide,trivial,?_⟩
    refine⟨λi β o=>(∃x0,β=[x0,some (.hand ud),some (.val true (.lst ((mD ps m (sa ps m 0)).map b3)))])/\o.length=i/\i<=40/\∀d∈o,∃j:Nat,d=.int (j:Int)/\j<sa ps m 0,⟨⟨_,rfl⟩,rfl,Ve _,λd h=>nomatch h⟩,?_,?_⟩
    ·rintro i d β o hd ⟨⟨y0,rfl⟩,MJ,hi,ho⟩;have c5:i<40:=by
      have:=(UY.mp hd).1
      rwa [bN]at this
     obtain⟨_,rfl⟩:=bE hd;refine⟨rfl,_,rfl,trivial,_,hle,trivial,rfl,trivial,((sa ps m 0:Nat):Int),rfl,by lia,by lia,λr r0 r1=>⟨trivial,ve (by lia),⟨_,rfl⟩,by rw[Vr,MJ];rfl,c5,λd hd=>?_⟩⟩
     rcases Vp.mp hd with hd|hd
     ·exact ho d hd
     ·obtain⟨j,rfl⟩:=Int.eq_ofNat_of_zero_le r0;exact⟨j,U8.mp hd,by lia⟩
    ·rintro β o ⟨⟨y0,rfl⟩,MJ,_,ho⟩;rw[bN]at MJ;refine⟨⟨rfl,trivial⟩,_,gJ (by rw[MJ];show 3+40<=_;decide),.inr ⟨_,_,rfl,λd hd=>?_⟩⟩
     rcases Vp.mp hd with hd|hd
     ·simp only[U0,Wy,or_false]at hd;have Pp:(60:Int)<((sa ps m 0:Nat):Int):=by simpa using Pp
      rcases hd with rfl|rfl|rfl
      ·exact⟨0,rfl,by lia⟩
      ·exact⟨1,rfl,by lia⟩
      ·exact⟨sa ps m 0-1,by congr 1;lia,by lia⟩
     ·exact ho d hd
   ·rintro β ⟨y6,nb,rfl,QQ⟩;refine⟨_,rfl,_,rfl,trivial,?_⟩;refine⟨λ_ β=>∃x6,β=[x0,some (.val true (.int cc)),some (.hand ud),some (.val true (jv m ps)),some (.val true (.lst ((mD ps m (sa ps m 0)).map b3))),some (.val true (.lst nb)),x6],⟨_,rfl⟩,?_,?_⟩
    ·rintro i d β hd ⟨z6,rfl⟩;obtain⟨j,rfl,hj⟩:=QQ d (Vv hd);exact⟨_,rfl,trivial,_,rfl,trivial,_,rfl,trivial,m,ps,j,rfl,ok,hm,hs,hj,_,rfl,d4 rfl ⟨_,rfl⟩⟩
    ·rintro β ⟨z6,rfl⟩;exact⟨_,_,_,_,_,_,_,rfl⟩
  refine⟨_,cg (zA VE rfl (vz (cj zV (qY vj (pv 0) vw (vv aT)) (pD (a8 (pE Ud (hr.mono (by decide)) (by rfl) IG.m IG.F.kp IG.b .nil zO (a8 (pv 0) (a8 aT cJ))) cJ)))) (Q.ao (C:=⟨H,λ_=>False,true,λ_=>False⟩) (i:=1) gv.nd).pg hb.ps) (fE (gz zN)),?_⟩
  obtain⟨ms,em,hm⟩:=yi ns none (some 4);refine⟨_,rfl,_,rfl,a,_,rfl,hS,λp2 QN=>⟨_,rfl,a,ns,rfl,(au.new QN).seq hS,λc0=>⟨(by show 1<=U4;decide),λp1 Iv=>?_⟩⟩⟩
  have Se:p2≠p1:=cz ar Iv;refine⟨p2,p1,_,_,rfl,rfl,(by rw[aw Se];exact ar),ar,(by rw[em,US,Wf,WT];lia),λl hl=>⟨l,rfl,⟨_,da.of ar⟩,?_⟩⟩
  rw[em];rw[em]at hl;rw[em]at Iv;have sm:au H (upd (upd (upd H p2 (.lst (ms.map V.int))) p1 (.lst [V.int c0])) l (.lst (ms.map V.int++[V.int c0]))):=((au.new QN).trans (au.new Iv)).trans (au.new hl);have kg:(upd (upd (upd H p2 (.lst (ms.map V.int))) p1 (.lst [V.int c0])) l (.lst (ms.map V.int++[V.int c0]))) l=some (.lst ((ms++[c0]).map V.int)):=by rw[Vx];exact ar
  generalize (upd (upd (upd H p2 (.lst (ms.map V.int))) p1 (.lst [V.int c0])) l (.lst (ms.map V.int++[V.int c0])))=H1 at sm kg ⊢
  generalize (ms++[c0])=cs at kg;let X:Cx:=(m6 bw P w K mg base ["script","cell","deck","row","every","numbers","number"] "law" (ak ly) f cC A outer s H E).En
  let C:Q.Cfg:=⟨H,λ_=>False,true,λ_=>False⟩
  have it:wK X (λ_=>False) (MZ K l) (cs.map D.int) H1:=rR kg (λz=>z) (cQ cs);have EC:=it (λb=>(λ_=>False) b\/H1 b=none) λb z=>z;have s':Q.bG P w C.z (L2.start ["script","cell","deck","row","every","numbers","number"] [.ref a]) H1 (Vo 7 none) (λ_=>[]):=B0 (by rfl) sm
  generalize Td:cs.map D.int=ds at EC;have hint:∀d∈ds,∃c:Int,d=.int c:=λd hd=>by
   rw[<- Td]at hd;obtain⟨c,_,rfl⟩:=VA.mp hd;exact⟨c,rfl⟩
  refine⟨λi m σ H'=>i<=ds.length/\m=ds.length-i/\∃β,Q.SB X C (H1,Q.Wn λ_=>[]) σ H' β/\JL β,⟨_,Ve _,rfl,_,⟨_,s',Sn.refl⟩,⟨_,_,_,_,_,_,_,rfl⟩⟩,?_⟩;rintro i m σ2 H2 ⟨hi,rfl,β2,⟨bc,s2,n2⟩,⟨y0,y1,y2,y3,y4,y5,y6,rfl⟩⟩;obtain⟨c8,mV⟩:=EC i H2 (n2.k.mono λb z=>z.imp (λKn=> by obtain⟨_,q⟩ := Kn;exact(nomatch q)) id)
  by_cases c5:i<ds.length
  ·right
   have hd:ds[i]?=some ds[i]:=U3 c5;obtain⟨go,yl⟩:=c8 _ hd;obtain⟨c,hc⟩:=hint ds[i] (X9 c5);refine⟨go,λσ' H'=>∃β,Q.SB X C (H1,Q.Wn λ_=>[]) σ' H' β/\JL β,λσ' H' Km=> by obtain⟨β',tW,uC⟩ := Km;exact⟨_,by lia,c5,rfl,β',tW,uC⟩,λx H3 y=>?_⟩
   obtain⟨s3,r3⟩:=yl x H3 y;rw[hc]at r3;refine⟨bc,_,.int c,.own,s2.same s3,ay.flat rfl r3,λσ4 rf s4 w4 _=>?_⟩;exact⟨(H1,Q.Wn λ_=>[]),{nx:=JL,rt:=λd _=>d=.bl true,bk:=JL,ct:=JL},_,⟨rf,s4,Q.iV (n2.same s3) w4⟩,hψ c y0 y2 y3 y4 y5 y6,⟨λσ5 H5 β5 w9 q5=>⟨β5,w9,q5⟩,λσ5 H5 β5 d5 v5 w9 r5 q5=>by
    subst q5;cases (show v5=V.bl true from Jk r5)
    exact k _,λσ5 H5 β5 w9 q5=>k _,λσ5 H5 β5 w9 q5=>⟨β5,w9,q5⟩⟩⟩
  ·left
   have e:i=ds.length:=by lia
   subst e;exact⟨mV (UU _),k _⟩
end
theorem rP {α:Type}{P:List α->Prop}(h:∀a,P [a]):∀us:List α,us.length=1->P us:=λus e=>by
 obtain⟨a,rfl⟩:=List.length_eq_one_iff.mp e;exact h a
theorem fc {α:Type}{P:List α->Prop}(h:∀a b,P [a,b]):∀us:List α,us.length=2->P us:=λus e=>by
 cases us with
 |nil=>cases e
 |cons a us=>exact rP (P:=λus=>P (a::us)) (h a) us (Yg e)
theorem C3 {α:Type}{P:List α->Prop}(h:∀a b c,P [a,b,c]):∀us:List α,us.length=3->P us:=λus e=>by
 cases us with
 |nil=>cases e
 |cons a us=>exact fc (P:=λus=>P (a::us)) (h a) us (Yg e)
theorem N3 {α:Type}{P:List α->Prop}(h:∀a b c d,P [a,b,c,d]):∀us:List α,us.length=4->P us:=λus e=>by
 cases us with
 |nil=>cases e
 |cons a us=>exact C3 (P:=λus=>P (a::us)) (h a) us (Yg e)
theorem AW {K:PySem.W.Frag}{x m:Str}{st:Stmt}{t c f:Nat}(l:K.lookup f=some (kF st x m t c))(cd:PySem.W.codeIn K (.ref c) x=true)(k:PySem.W.keepIn K (.ref f)=true):BK K x x st f (MC st x m t c):=HE l cd k
theorem bt {K:PySem.W.Frag}{h:Heap}{mg:Str->Option UR}{x m:Str}{st:Stmt}{t c f:Nat}{ps:List Str}(X:K.In h)(G:h.Ns Wv mg)(l:K.lookup f=some (kF st x m t c))(cd:PySem.W.codeIn K (.ref c) x=true)(k:PySem.W.keepIn K (.ref f)=true)
  (a:PySem.W.nsIn K Wv x=some (some (.ref f))) (b:∀us:List UR,us.length=ps.length->bindArgs (MC st x m t c) ⟨us,[]⟩=pure (ps.zip us)):Df K mg x st ps f (MC st x m t c):=⟨AW l cd k,.all b,PySem.W.mg_of X G a⟩
theorem all_mk {l:PySem.W.OpenLaw} (w:Vb) (mg:Str->Option UR) (fa:Addr) (h:Heap) (X:(KK w.params).In h) (G:h.Ns Wv mg) (Tb:mg "law" = some (.ref fa))   :∃fd:Vz,(∀(s:UT) (v:UR),BindsTo s fd ⟨[v],[]⟩ [("script",v)])/\∀base:Heap,(KK w.params).In base->base.Ns Wv mg->aD l.prog w (KK w.params) mg base bw 45 fa fd ["script"] (yX (KK w.params)):=by
 have e:=Tb.symm.trans (PySem.W.mg_of X G (v:=.ref 244) (by kernel_rfl))
 cases e;have JT:=PySem.W.mg_none_of X G (n:="max") (by kernel_rfl)
 have JS:=PySem.W.mg_none_of X G (n:="min") (by kernel_rfl)
 have JV:=PySem.W.mg_none_of X G (n:="int") (by kernel_rfl)
 have C1:=PySem.W.mg_none_of X G (n:="range") (by kernel_rfl)
 have Aa:=PySem.W.mg_none_of X G (n:="sorted") (by kernel_rfl)
 have JR:=PySem.W.mg_none_of X G (n:="set") (by kernel_rfl)
 have JU:=PySem.W.mg_none_of X G (n:="len") (by kernel_rfl)
 have Gy:=PySem.W.mg_none_of X G (n:="list") (by kernel_rfl)
 have pO:=PySem.W.mg_none_of X G (n:="isinstance") (by kernel_rfl)
 have C0:=PySem.W.mg_none_of X G (n:="tuple") (by kernel_rfl)
 have JQ:=PySem.W.mg_none_of X G (n:="str") (by kernel_rfl)
 have Gz:=PySem.W.mg_none_of X G (n:="bool") (by kernel_rfl)
 have JO:=PySem.W.mg_none_of X G (n:="zip") (by kernel_rfl)
 have rq:=PySem.W.mg_none_of X G (n:="enumerate") (by kernel_rfl)
 have JP:=PySem.W.mg_none_of X G (n:="sum") (by kernel_rfl)
 have B:=(⟨⟨⟨JT,JS,JV,C1,Aa,JR,JU,Gy⟩,pO,C0,JQ,Gz,JO,rq⟩,JP⟩:u3 mg);exact⟨_,λs v=>.of_eq rfl,λbase _ _=>Gq (AW (x:="law") (m:="law_archrow_k22_sets_by_their_numbers") (st:=ly) (t:=409) (c:=243) (f:=244) (by kernel_rfl) (by kernel_rfl) (by kernel_rfl)) B (bt X G (x:="_law_copied") (m:="law_archrow_k22_sets_by_their_numbers") (st:=di) (t:=409) (c:=204) (f:=205) (ps:=["row"]) (by kernel_rfl) (by kernel_rfl) (by kernel_rfl) (by kernel_rfl) (rP λ_=>rfl))
  (bt X G (x:="set_number") (m:="archrow.counted") (st:=dg) (t:=337) (c:=126) (f:=127) (ps:=["row","ties"]) (by kernel_rfl) (by kernel_rfl) (by kernel_rfl) (by kernel_rfl) (fc λ_ _=>rfl))
  (bt X G (x:="next_set") (m:="archrow.counted") (st:=fy) (t:=337) (c:=138) (f:=139) (ps:=["row","ties"]) (by kernel_rfl) (by kernel_rfl) (by kernel_rfl) (by kernel_rfl) (fc λ_ _=>rfl))
  (bt X G (x:="how_many_begin") (m:="archrow.counted") (st:=b6) (t:=337) (c:=145) (f:=146) (ps:=["row","ties"]) (by kernel_rfl) (by kernel_rfl) (by kernel_rfl) (by kernel_rfl) (fc λ_ _=>rfl))
  (bt X G (x:="set_at") (m:="archrow.counted") (st:=iY) (t:=337) (c:=133) (f:=134) (ps:=["row","number"]) (by kernel_rfl) (by kernel_rfl) (by kernel_rfl) (by kernel_rfl) (fc λ_ _=>rfl))
  (bt X G (x:="check_set") (m:="archrow.arcs") (st:=eC) (t:=239) (c:=92) (f:=93) (ps:=["row","ties"]) (by kernel_rfl) (by kernel_rfl) (by kernel_rfl) (by kernel_rfl) (fc λ_ _=>rfl))
  (bt X G (x:="is_set") (m:="archrow.arcs") (st:=iZ) (t:=239) (c:=64) (f:=65) (ps:=["row","ties"]) (by kernel_rfl) (by kernel_rfl) (by kernel_rfl) (by kernel_rfl) (fc λ_ _=>rfl))
  (bt X G (x:="first_fault") (m:="archrow.arcs") (st:=cW) (t:=239) (c:=71) (f:=72) (ps:=["row","ties"]) (by kernel_rfl) (by kernel_rfl) (by kernel_rfl) (by kernel_rfl) (fc λ_ _=>rfl))
  (bt X G (x:="fault_at") (m:="archrow.arcs") (st:=fC) (t:=239) (c:=78) (f:=79) (ps:=["row","ties","k"]) (by kernel_rfl) (by kernel_rfl) (by kernel_rfl) (by kernel_rfl) (C3 λ_ _ _=>rfl))
  (bt X G (x:="share_a_point") (m:="archrow.arcs") (st:=cq) (t:=239) (c:=85) (f:=86) (ps:=["one","other"]) (by kernel_rfl) (by kernel_rfl) (by kernel_rfl) (by kernel_rfl) (fc λ_ _=>rfl))
  (bt X G (x:="arcs_cross") (m:="archrow.arcs") (st:=dj) (t:=239) (c:=57) (f:=58) (ps:=["one","other"]) (by kernel_rfl) (by kernel_rfl) (by kernel_rfl) (by kernel_rfl) (fc λ_ _=>rfl))
  (bt X G (x:="counts_of") (m:="archrow.counted") (st:=eh) (t:=337) (c:=150) (f:=151) (ps:=["row"]) (by kernel_rfl) (by kernel_rfl) (by kernel_rfl) (by kernel_rfl) (rP λ_=>rfl))
  (bt X G (x:="partners_of") (m:="archrow.stretches") (st:=cU) (t:=297) (c:=102) (f:=103) (ps:=["row"]) (by kernel_rfl) (by kernel_rfl) (by kernel_rfl) (by kernel_rfl) (rP λ_=>rfl))
  (bt X G (x:="stretches_rising") (m:="archrow.stretches") (st:=bJ) (t:=297) (c:=97) (f:=98) (ps:=["many"]) (by kernel_rfl) (by kernel_rfl) (by kernel_rfl) (by kernel_rfl) (rP λ_=>rfl))
  (bt X G (x:="ways_by") (m:="archrow.stretches") (st:=gR) (t:=297) (c:=121) (f:=122) (ps:=["counts","choices","i","j"]) (by kernel_rfl) (by kernel_rfl) (by kernel_rfl) (by kernel_rfl) (N3 λ_ _ _ _=>rfl))
  (bt X G (x:="ways_in") (m:="archrow.stretches") (st:=gQ) (t:=297) (c:=116) (f:=117) (ps:=["counts","parts"]) (by kernel_rfl) (by kernel_rfl) (by kernel_rfl) (by kernel_rfl) (fc λ_ _=>rfl))
  (bt X G (x:="parts_left") (m:="archrow.stretches") (st:=dh) (t:=297) (c:=109) (f:=110) (ps:=["i","k","j"]) (by kernel_rfl) (by kernel_rfl) (by kernel_rfl) (by kernel_rfl) (C3 λ_ _ _=>rfl))
  (bt X G (x:="ties_next") (m:="archrow.counted") (st:=eg) (t:=337) (c:=169) (f:=170) (ps:=["row","waiting"]) (by kernel_rfl) (by kernel_rfl) (by kernel_rfl) (by kernel_rfl) (fc λ_ _=>rfl))
  (bt X G (x:="waiting_after") (m:="archrow.counted") (st:=cn) (t:=337) (c:=164) (f:=165) (ps:=["row","ties"]) (by kernel_rfl) (by kernel_rfl) (by kernel_rfl) (by kernel_rfl) (fc λ_ _=>rfl))
  (bt X G (x:="waiting_behind") (m:="archrow.counted") (st:=b5) (t:=337) (c:=157) (f:=158) (ps:=["waiting","tie"]) (by kernel_rfl) (by kernel_rfl) (by kernel_rfl) (by kernel_rfl) (fc λ_ _=>rfl))
  (bt X G (x:="_law_same") (m:="law_archrow_k22_sets_by_their_numbers") (st:=fA) (t:=409) (c:=228) (f:=229) (ps:=["found","due"]) (by kernel_rfl) (by kernel_rfl) (by kernel_rfl) (by kernel_rfl) (fc λ_ _=>rfl))
  (bt X G (x:="_law_is_tuples") (m:="law_archrow_k22_sets_by_their_numbers") (st:=cv) (t:=409) (c:=233) (f:=234) (ps:=["ties"]) (by kernel_rfl) (by kernel_rfl) (by kernel_rfl) (by kernel_rfl) (rP λ_=>rfl))
  (bt X G (x:="_law_one_right") (m:="law_archrow_k22_sets_by_their_numbers") (st:=cu) (t:=409) (c:=238) (f:=239) (ps:=["row","every","number"]) (by kernel_rfl) (by kernel_rfl) (by kernel_rfl) (by kernel_rfl) (C3 λ_ _ _=>rfl))
  (bt X G (x:="_law_cell_at") (m:="law_archrow_k22_sets_by_their_numbers") (st:=cV) (t:=409) (c:=176) (f:=177) (ps:=["script","k"]) (by kernel_rfl) (by kernel_rfl) (by kernel_rfl) (by kernel_rfl) (fc λ_ _=>rfl))
  (bt X G (x:="_law_deck") (m:="law_archrow_k22_sets_by_their_numbers") (st:=dN) (t:=409) (c:=183) (f:=184) (ps:=["cell"]) (by kernel_rfl) (by kernel_rfl) (by kernel_rfl) (by kernel_rfl) (rP λ_=>rfl))
  (bt X G (x:="_law_take") (m:="law_archrow_k22_sets_by_their_numbers") (st:=dJ) (t:=409) (c:=190) (f:=191) (ps:=["deck","many"]) (by kernel_rfl) (by kernel_rfl) (by kernel_rfl) (by kernel_rfl) (fc λ_ _=>rfl))
  (bt X G (x:="_law_row") (m:="law_archrow_k22_sets_by_their_numbers") (st:=gS) (t:=409) (c:=197) (f:=198) (ps:=["deck","most"]) (by kernel_rfl) (by kernel_rfl) (by kernel_rfl) (by kernel_rfl) (fc λ_ _=>rfl))
  (bt X G (x:="_law_do_cross") (m:="law_archrow_k22_sets_by_their_numbers") (st:=cF) (t:=409) (c:=211) (f:=212) (ps:=["one","other"]) (by kernel_rfl) (by kernel_rfl) (by kernel_rfl) (by kernel_rfl) (fc λ_ _=>rfl))
  (bt X G (x:="_law_fits") (m:="law_archrow_k22_sets_by_their_numbers") (st:=fB) (t:=409) (c:=218) (f:=219) (ps:=["some","tie"]) (by kernel_rfl) (by kernel_rfl) (by kernel_rfl) (by kernel_rfl) (fc λ_ _=>rfl))
  (bt X G (x:="_law_sets") (m:="law_archrow_k22_sets_by_their_numbers") (st:=fz) (t:=409) (c:=223) (f:=224) (ps:=["row"]) (by kernel_rfl) (by kernel_rfl) (by kernel_rfl) (by kernel_rfl) (rP λ_=>rfl))⟩
end iH
abbrev PySem.W.Fast.tw17641916460294809932:PySem.Program:=PySem.Challenge.pw_archrow_k22_sets_by_their_numbers
theorem PySem.W.Fast.te17641916460294809932:PySem.Challenge.pw_archrow_k22_sets_by_their_numbers=PySem.W.Fast.tw17641916460294809932:=rfl
open PySem PySem.W PyProof.Rows
set_option maxRecDepth 100000 in
set_option maxHeartbeats 0 in
theorem PySem.Challenge.cw_archrow_k22_sets_by_their_numbers_holds : PySem.Challenge.rw_archrow_k22_sets_by_their_numbers.Holds := by
 w_on;o_law
 refine holds_open (q:=iH.view) (loose:=[]) (Xt:=λs=>xlAt iH.view [] s&&recOk (RowW.records PySem.Challenge.rw_archrow_k22_sets_by_their_numbers.row.toRowW) s) (XP:=XL iH.view []) (Yf:=iH.HK.obs) (Ya:=iH.HK.val) (YP:=λw h=>(iH.KK w.params).In h) (N:=3274) iH.left iH.HK.of iH.HK.keeps (λs e=>xl_of s (VL.mp e).1) XL.keeps (by rfl) (by rfl) (by rfl) (λs e=>recFacts_of (VL.mp e).2) (by rfl) (by first|assumption|decide +kernel) (by decide +kernel) ⟨rfl,rfl,rfl,rfl,rfl,by decide +kernel⟩ ?hw ?hc
 (case hw=>w_witness2)
 case hc =>
  exact L2.BP (l:=PySem.Challenge.rw_archrow_k22_sets_by_their_numbers) (K:=iH.KK) (n:=63) (k:=45) (x:="script") (CX:=λ_=>L2.bw) (sp:=λw=>iH.yX (iH.KK w.params)) rfl (by decide) rfl ⟨rfl,by decide,by decide⟩ (λw h Y=>Y) iH.all_mk (λ_ _ a ns hl _ hS=>⟨a,ns,rfl,hS,hl,λ_=>rfl⟩) λ_ _ _ _ _ z=>z
#print axioms PySem.Challenge.cw_archrow_k22_sets_by_their_numbers_holds
