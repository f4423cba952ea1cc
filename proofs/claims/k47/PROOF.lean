import PyProof.Rows.All
import Wide.All
import OpenK.AllK
import Wide.FinOn
import OpenK.KLine
import Lean
import PyProof.EqAt
import PyProof.EqKinds
import PyProof.TupleCall
import PyProof.Rows.SortShell
import PyProof.Rows.SortWalk
import PyProof.CompFree
import PyProof.Rows.SortRuns
import PyProof.EqLayable
import PyProof.NeData
import PyProof.P3In
import PyProof.ZipIter
import PyProof.EnumMake
import PyProof.EnumFor
import PyProof.Rows.Range3
import PyProof.AttrMissSeq
import KE.KDictOf
import PyProof.Rows.SeqMore
import PyProof.StrCalls6
import PyProof.MeetsStr
import PyProof.Rows.StrStrike
import PyProof.StrBlock2
import PyProof.Rows.StrRules
import PyProof.Draws
import PyProof.StrWalks
import KE.IntBitsLaws
import PyProof.ListNew
import PyProof.Rows.StrPartPair
import PyProof.Rows.StrSplitCount
import PyProof.FitsReplace
import PyProof.MeetsStr2
import KE.KIntText
import PyProof.CallStr
import PyProof.StrBlockL
import PyProof.Rows.FStr
import PyProof.CollectIter
import PyProof.Walks
import PyProof.ConsumeWalk
import PyProof.FitsBits
import PyProof.Rows.SeqMore2
import PyProof.Rows.CountFlat
import KE.KTryMore
import PyProof.NsDelKeeps
import PyProof.ExcBaseAll.ValueError
import KE.IntTextLaws
import KE.IntTextText
import KE.KxText
import PyProof.Rows.DictMod
import PyProof.Rows.DictRows
import PySem.Challenge.RW_archrow_k47_texts_of_none
set_option Elab.async false
set_option linter.all false
set_option maxRecDepth 100000
set_option maxHeartbeats 4000000
set_option compiler.extract_closed false
open PySem renaming Value->Wg,wpAny_bind->Wh,Shared->Wi,Program->Wq,wpAny_pure->Wu,sizeLine->WA,World->WC,starEach->WD,wpAny->WT,sizeLine_eq->WY,FuncData->Xa,Around->Xg,compareOp->Xm,bootBuiltins->Xp,wpAny_holding->Xv,binaryOp->XZ,wpAny_truthy_bool->X2,foldedSetIterable->X3,assignEach->X4,Builtin->Yb,backTo->Yd,wpAny_setState_of->Ye,mainGlobals->Yp,wpAny_call_entry->Yy,wpAny_mono->YC,call_meets->YD,wpAny_passesOwn->YH,wpAny_standAt->YJ,wpAny_newObj_type->YL,codeAny_mono->YY,attributeBase->Y2,wpAny_loadPart'->Y6,wpAny_execs_nil->Y7,wpAny_Call_Name_kw->Y8,cLine->Za,Scope->Zc,wpAny_rule->Zk,typeIs_str->Zl,codeAny->Zo,behindInMarks->Zq,sliceBounds->Zr,NameKind->Zs,CmpOp->Zt,codeAny_builtin->Zu,swapsWith->ZC,wpAny_call->ZD,wpAny_pyIter_list->ZN,slicePicked->ZO,Keyword->ZT,wpAny_attempt->ZW,Comprehension->ZZ,wpAny_forIn_list->Z5,wpAny_askSetting->Z6,checkBuiltinCall->Z7
open List renaming length_map->Wj,mem_cons_of_mem->Wm,mem_cons_self->Wo,mem_cons->Ws,getElem?_eq_getElem->Wv,mem_singleton->Wx,length_cons->Wz,size_toArray->WG,getElem?_map->WH,getElem?_eq_some_iff->WI,length_append->WK,mem_append->WO,length_take->WW,mem_map->WX,map_cons->W3,map_map->W6,mem_append_right->W9,mem_of_getElem?->W_,replicate->Xb,range->Xd,nodup_cons->Xe,append_assoc->Xh,filterMap_cons->Xj,length_singleton->Xn,getElem?_append_right->Xq,getD_eq_getElem?_getD->Xr,nodup_nil->Xx,exists_cons_of_ne_nil->Xy,mem_range->Xz,map_append->XB,append_nil->XD,nodup_append->XG,take_of_length_le->XM,lookup_cons->XN,getElem?_append_left->XO,drop_eq_getElem_cons->XQ,getElem?_eq_none->XU,pairwise_cons->XX,mem_append_left->X1,mem_map_of_mem->X6,filter_eq_self->X7,not_mem_nil->X9,all_eq_true->X_,length_range->Yg,any_eq_false->Yh,foldl_cons->Yk,replicate_succ->Yl,map_congr_left->Ym,drop_of_length_le->Yn,length_drop->Yq,pairwise_iff_getElem->Yr,take_add_one->Yt,ext_getElem?->Yu,reverse_append->Yx,take_length->YA,getElem_mem->YB,mem_filterMap->YE,dropLast_concat_getLast->YI,take_append_drop->YK,getElem?_set->YO,flatten_cons->YQ,count_append->YR,getElem?_of_mem->YU,dropLast_concat->YV,getElem?_take_of_lt->Y5,pairwise_map->Zg,any_eq_true->Zn,of_mem_zip->Zv,getElem?_range->Zx,perm_ext_iff_of_nodup->ZG,getElem?_drop->ZH,filter_append->ZI,extract_eq_take_drop->ZL,length->ZS,perm_middle->Z8,pairwise_singleton->Z9,getElem?_cons_succ->Z_,filter_cons->aaa
open Nat renaming le_refl->Wl,zero_le->WJ,lt_of_lt_of_le->WU,ne_of_lt->WZ,le_trans->W8,lt_or_ge->XW,succ_le_succ->X0,pow_le_pow_right->Ys,lt_irrefl->Yw,zero_add->YZ,le_succ_of_le->Zf,mod_lt->ZF,lt_succ_of_lt->ZR
open Array renaming length_toList->Wr,getElem?_toList->WM,getD_eq_getD_getElem?->WN,toList_append->XS,toList_push->Yi,getElem?_eq_none->Yo,perm_iff_toList_perm->YX,size_setIfInBounds->Z4
open PyProof.Rows renaming Keyed->Wt,wpS_bind->Wy,wpS_pure->WE,pendingOf->WS,SortSt->WV,arrOf->W4,wpS_forRange->Xu,setArr->XF,wpS_mono->Yc,seqObj->Yz,IntsAre->YF,callWith_type1->YM,wpS_modify->YS,SortKind->Y3,failedOf->Zd,setPending->Zm,envOfC->ZE,wpS_get->ZM,AllBare->ZV
open PySem.Heap renaming get?_push_of_some->Ww,lt_size->WB,get?_push_size->W5,SameBut->Y0,FlyingW->Zh
open Option renaming bind_eq_some_iff->WL,map_eq_some_iff->WQ
open Option.some renaming inj->WR
open PySem.Builtin.Str renaming occurrences->W7,strKind->Xo,strSub->Y9,subAt->Zi,strSliceIndices->Zz,glued->ZU,partsBetween->Z1
open PySem.PyData renaming eqv->Xf,depth->Xw,canLay0->XH,depthAll->X8,canLayAll0->YN,eqvAll->ZX
open Bool renaming and_eq_true->Xi,false_ne_true->XY,not_eq_true'->Yv,not_eq_false'->YG,and_eq_true_iff->YW,false_eq_true->Y_,eq_false_iff->Zj,or_eq_true->Zw,false_or->Z3
open PySem.NameKind renaming free->Xl,cell->Y4
open Decidable renaming by_contra->Xs
open PySem.Txt renaming partition->XE,split->X5
open False renaming elim->XI
open PySem.SeqAt renaming canLay_of_shaped->XJ
open Int renaming toNat_natCast->XT,natCast_nonneg->ZJ,emod_lt_of_pos->ZK
open PySem.PassesOwn renaming never->Yj
open PySem.Obj renaming mapSeq->YT
open Classical renaming byContradiction->Y1
open PySem.W renaming boot_heap->Zb
open PySem.Str renaming join->Ze,length_append->ZP
open Ne renaming symm->Zy
open PySem.NumText renaming digitsVal->ZQ
open List.cons renaming inj->ZY
open PySem.Code renaming compLoop->Z0
open PySem.Builtin.List renaming listTooLong->Z2
noncomputable section
namespace L2
open PySem PySem.Spec PyProof.Rows
def kY (s:Stmt):Arguments:=match s with
 |.FunctionDef _ a _ _ _ _ _ _ _ _=>a
 |_=>{posonlyargs:=[],args:=[],vararg:=none,kwonlyargs:=[],kw_defaults:=[],kwarg:=none,defaults:=[]}
def cP (s:Stmt):List Stmt:=match s with
 |.FunctionDef _ _ b _ _ _ _ _ _ _=>b
 |_=>[]
def aw (s:Stmt):Zc:=match s with
 |.FunctionDef _ _ _ _ _ _ sc _ _ _=>sc
 |_=>{kind:=.function,names:=[],isGenerator:=false,isCoroutine:=false}
end L2
namespace L2.Hd
open PySem PySem.W PySem.Spec PyProof.Rows
noncomputable def iM (tb:String->Option Yb)(p:Wq)(w:WC)(n₀:Nat)(ann:Option Wg):Nat->SharedT->Thread->Option SharedT
 |0,_,_=>none
 |n+1,s,t=>match through t with
  |true=>some s
  |false=>match stepOk n₀ ann t with
   |false=>none
   |true=>match stepT (denote tb) p w s t with
    |some (s',t')=>iM tb p w n₀ ann n s' t'
    |none=>none
theorem lj {tb:String->Option Yb}{p:Wq}{w:WC}{n₀:Nat}{ann:Option Wg}:∀{n:Nat} {s s':SharedT} {t:Thread},iM tb p w n₀ ann n s t=some s'->topRun tb p w n₀ ann n s.abs t=some s'.abs
 |0,_,_,_,g=>by cases g
 |n+1,s,s',t,g=>by
  unfold iM at g;unfold topRun;cases ht:through t with
  |true=>rw[ht]at g;cases g;rfl
  |false =>
   rw[ht]at g;cases hk:stepOk n₀ ann t with
   |false=>rw[hk]at g;cases g
   |true =>
    rw[hk]at g;cases hq:stepT (denote tb) p w s t with
    |none=>rw[hq]at g;cases g
    |some r=>obtain⟨s₂,t₂⟩:=r;rw[hq]at g;dsimp only;rw[stepT_spec hq];exact lj g
noncomputable def MG (P:Params):BT:=((Zb P).objs.toList.foldl (λ(x:BT×Nat) o=>(x.1.ins x.2 o,x.2+1)) (.nil,0)).1
noncomputable def BE (w:WC)(os:OsState):SharedT:=⟨MG w.params,11,(Zb w.params).life,Array.mk [],boot_drawn,boot_toks,os⟩
theorem boot_abs (w:WC)(os:OsState):(BE w os).abs=⟨Zb w.params,Array.mk [],boot_drawn,boot_toks,os⟩:=by kernel_rfl
theorem EI (P:Params):((Zb P).isNs Yp&&((Array.mk []:Array GenState).size==0))=true:=by kernel_rfl
theorem xV (P:Params):(Zb P).objs.size=11:=by kernel_rfl
theorem BD (P:Params):(Zb P).nsMap Yp "__annotations__" = some (.ref 6):=by kernel_rfl
def ends (p:Wq)(h0:Heap)(s₁:Wi):Option Wi:=match staticsOk (importedModules p.main.body) h0 s₁.heap&&namesBound p s₁.heap&&gensDone s₁&&laidKept h0 s₁.heap with
 |true=>some s₁
 |false=>none
theorem xm {p q:Wq}{loose:List Str}{Xt:Wi->Bool}{α:Type}{Yf:Wi->α}{Ya:WC->α}{N:Nat}{g0:Bool}
  (g1:opening p=plainProg p.main.scope.names) (g2:Nat.ble 600 N=true) (g3:∀s,fenceModules? p s=some s)
  (g4:∀(w:WC) (os:OsState),((iM treeTable p w 11 (some (.ref 6)) N (BE w os) (topStub p)).bind λs₁=>ends p (Zb w.params) s₁.abs).map (λs=>(openSeen q loose (importedModules p.main.body) Xt g0 s,Yf s))=some (openGood q loose,Ya w)) :
  LeftO p q loose Xt Yf Ya N g0:=λw=>by
 obtain⟨⟨hp,gs,dr,tk,os⟩,e,v⟩:=WQ.mp (boot_open (N:=N) g1 g2 g3 w);obtain⟨v1,v⟩:=Prod.mk.inj v;obtain⟨v2,v⟩:=Prod.mk.inj v;obtain⟨v3,v4⟩:=Prod.mk.inj v;dsimp only at v1 v2 v3 v4;subst v1 v2 v3 v4;have g:=g4 w os;unfold openEnds;rw[e];show (topFrom treeTable p w N _).map _=_;have t:topFrom treeTable p w N ⟨Zb w.params,Array.mk [],boot_drawn,boot_toks,os⟩=(topRun treeTable p w 11 (some (.ref 6)) N ⟨Zb w.params,Array.mk [],boot_drawn,boot_toks,os⟩ (topStub p)).bind (ends p (Zb w.params)):=by
  unfold topFrom;rw[EI];dsimp only;rw[xV,BD];rfl
 rw[t];cases hT:iM treeTable p w 11 (some (.ref 6)) N (BE w os) (topStub p)with
 |none=>rw[hT]at g;cases g
 |some s₁ =>
  have r:=lj hT;rw[boot_abs]at r;rw[hT]at g;rw[r];exact g
end L2.Hd
namespace oM
open PySem L2
def top (i:Nat):Stmt:=PySem.Challenge.pw_archrow_k47_texts_of_none.main.body.getD i (.Pass ⟨0,0,0,0⟩)
abbrev fU:Stmt:=top 15
abbrev bH:Stmt:=top 19
abbrev dG:Stmt:=top 20
abbrev gH:Stmt:=top 21
abbrev gD:Stmt:=top 22
abbrev dZ:Stmt:=top 23
abbrev mP:Stmt:=top 25
abbrev fk:Stmt:=top 26
abbrev d3:Stmt:=top 27
abbrev gF:Stmt:=top 28
abbrev fm:Stmt:=top 29
abbrev gE:Stmt:=top 30
abbrev cu:Stmt:=top 31
abbrev d4:Stmt:=top 32
abbrev gG:Stmt:=top 33
abbrev de:Stmt:=top 34
abbrev cN:Stmt:=top 35
abbrev cM:Stmt:=top 36
abbrev fg:Stmt:=top 37
abbrev fh:Stmt:=top 38
abbrev dc:Stmt:=top 39
abbrev lI:Stmt:=top 40
noncomputable abbrev vS (x:Str)(t:Nat):Wg:=.str x t
noncomputable abbrev kE (P:Params)(x:Str)(t:Nat)(v:Wg):DictEntry:=⟨PyData.keyHash P x,.str x t,v⟩
noncomputable abbrev kC (n:Str)(t l p r8 Us T8:Nat)(Tu Tt Ts:Wg)(T7 Ur TM:Nat):Obj:={cls:=.type "code",data:=.fields #[vS n t,vS n (t+1),vS "/claim/cut.py" (t+2),.int l 0,.int p 0,.int 0 0,.int 0 0,.int 3 0,.ref r8,.bool true,.int Us 0,.ref T8,Tu,Tt,Ts,.ref T7,.int Ur 0,.int l 0,vS "/claim/cut.py" TM]}
noncomputable abbrev M5 (st:Stmt)(x m:Str)(t c:Nat):Xa:=PySem.W.fnOf x x (kY st) (cP st) (aw st) .none .none .none (vS m t) none (.ref c) .none
noncomputable abbrev kF (st:Stmt)(x m:Str)(t c:Nat):Obj:={cls:=.type "function",data:=.func (M5 st x m t c)}
noncomputable abbrev kX (x:Str)(a A t:Nat):Obj:={cls:=.type "type",data:=.cls {name:=x,bases:=[.ref A],mro:=[.ref a,.ref A,.type "ValueError",.type "Exception",.type "BaseException",.type "object"],ns:=a-1,qualname:=x},slots:=#[some (.ref (a-9)),none,some (vS x t),some (vS x (t+8)),some (.builtin "ValueError.__new__"),some (.bool true)]}
noncomputable abbrev kN (P:Params)(a t m l:Nat):Obj:={cls:=.type "dict",data:=.dict #[kE P "__module__" (t+7) (vS "archrow.errors" m),kE P "__firstlineno__" (t+11) (.int l (t+10)),kE P "__static_attributes__" (t+12) (.ref (a-2)),kE P "__doc__" (t+13) .none] 2}
noncomputable def KK:Params->PySem.W.Frag:=λP=>[(3,{cls:=.type "dict",data:=.dict #[kE P "__name__" 165 (vS "law_archrow_k47_texts_of_none" 456),kE P "__doc__" 166 .none,kE P "__package__" 167 .none,kE P "__loader__" 168 (.builtin "__main__.__loader__#opaque"),kE P "__spec__" 169 .none,kE P "__annotations__" 170 (.ref 6),kE P "__builtins__" 171 (.ref 4),kE P "__file__" 173 (vS "/claim/cut.py" 172),kE P "__cached__" 174 .none,kE P "ArchError" 206 (.ref 24),kE P "NoRow" 222 (.ref 37),kE P "NoTie" 238 (.ref 49),kE P "NoStretch" 254 (.ref 61),kE P "NoWeights" 270 (.ref 73),kE P "NoNumber" 286 (.ref 85),kE P "NoSet" 302 (.ref 97),kE P "NoGap" 318 (.ref 109),kE P "NoPlace" 334 (.ref 121),kE P "NoShape" 350 (.ref 133),kE P "NoText" 366 (.ref 145),kE P "NoForm" 382 (.ref 157),kE P "NoneYet" 398 (.ref 169),kE P "row_of" 406 (.ref 176),kE P "FIGURES" 410 (vS "0123456789" 409),kE P "POINT_FIGURES" 412 (.int 3 411),kE P "read_brackets" 420 (.ref 183),kE P "read_row" 426 (.ref 188),kE P "arcs_in" 437 (.ref 195),kE P "pair_in" 449 (.ref 202),kE P "number_in" 455 (.ref 207),kE P "_law_cell_at" 465 (.ref 214),kE P "_law_stir" 474 (.ref 221),kE P "_law_digit" 483 (.ref 228),kE P "_law_row" 497 (.ref 235),kE P "_law_meet" 505 (.ref 242),kE P "_law_set" 511 (.ref 247),kE P "_law_brackets" 522 (.ref 254),kE P "_law_class" 530 (.ref 261),kE P "_law_due" 536 (.ref 266),kE P "_law_number" 542 (.ref 271),kE P "_law_row_due" 548 (.ref 276),kE P "_law_set_due" 559 (.ref 283),kE P "_law_told" 569 (.ref 290),kE P "_law_text" 575 (.ref 295),kE P "_law_spoilt" 589 (.ref 302),kE P "law" 598 (.ref 309)] 46}),
 (175,kC "row_of" 401 29 2 172 181 173 .none .none .none 174 404 405),
 (176,kF fU "row_of" "archrow.arcs" 399 175),
 (182,kC "read_brackets" 413 39 1 177 181 178 .none (.ref 179) (.ref 180) 181 418 419),
 (183,kF bH "read_brackets" "archrow.texts" 407 182),
 (187,kC "read_row" 421 44 1 184 181 185 .none .none .none 186 424 425),
 (188,kF dG "read_row" "archrow.texts" 407 187),
 (194,kC "arcs_in" 427 54 1 189 181 190 .none (.ref 191) (.ref 192) 193 435 436),
 (195,kF gH "arcs_in" "archrow.texts" 407 194),
 (201,kC "pair_in" 438 65 1 196 181 197 .none (.ref 198) (.ref 199) 200 447 448),
 (202,kF gD "pair_in" "archrow.texts" 407 201),
 (206,kC "number_in" 450 70 2 203 181 204 .none .none .none 205 453 454),
 (207,kF dZ "number_in" "archrow.texts" 407 206),
 (213,kC "_law_cell_at" 458 77 2 208 181 209 .none (.ref 210) (.ref 211) 212 463 464),
 (214,kF mP "_law_cell_at" "law_archrow_k47_texts_of_none" 456 213),
 (220,kC "_law_stir" 466 81 2 215 181 216 .none (.ref 217) (.ref 218) 219 472 473),
 (221,kF fk "_law_stir" "law_archrow_k47_texts_of_none" 456 220),
 (227,kC "_law_digit" 475 84 3 222 181 223 .none (.ref 224) (.ref 225) 226 481 482),
 (228,kF d3 "_law_digit" "law_archrow_k47_texts_of_none" 456 227),
 (234,kC "_law_row" 484 88 3 229 181 230 .none (.ref 231) (.ref 232) 233 495 496),
 (235,kF gF "_law_row" "law_archrow_k47_texts_of_none" 456 234),
 (241,kC "_law_meet" 498 98 2 236 181 237 .none (.ref 238) (.ref 239) 240 503 504),
 (242,kF fm "_law_meet" "law_archrow_k47_texts_of_none" 456 241),
 (246,kC "_law_set" 506 102 3 243 181 244 .none .none .none 245 509 510),
 (247,kF gE "_law_set" "law_archrow_k47_texts_of_none" 456 246),
 (253,kC "_law_brackets" 512 110 2 248 181 249 .none (.ref 250) (.ref 251) 252 520 521),
 (254,kF cu "_law_brackets" "law_archrow_k47_texts_of_none" 456 253),
 (260,kC "_law_class" 523 116 1 255 181 256 .none (.ref 257) (.ref 258) 259 528 529),
 (261,kF d4 "_law_class" "law_archrow_k47_texts_of_none" 456 260),
 (265,kC "_law_due" 531 121 1 262 181 263 .none .none .none 264 534 535),
 (266,kF gG "_law_due" "law_archrow_k47_texts_of_none" 456 265),
 (270,kC "_law_number" 537 124 1 267 181 268 .none .none .none 269 540 541),
 (271,kF de "_law_number" "law_archrow_k47_texts_of_none" 456 270),
 (275,kC "_law_row_due" 543 130 1 272 181 273 .none .none .none 274 546 547),
 (276,kF cN "_law_row_due" "law_archrow_k47_texts_of_none" 456 275),
 (282,kC "_law_set_due" 549 144 1 277 181 278 .none (.ref 279) (.ref 280) 281 557 558),
 (283,kF cM "_law_set_due" "law_archrow_k47_texts_of_none" 456 282),
 (289,kC "_law_told" 560 161 2 284 181 285 .none (.ref 286) (.ref 287) 288 567 568),
 (290,kF fg "_law_told" "law_archrow_k47_texts_of_none" 456 289),
 (294,kC "_law_text" 570 171 1 291 181 292 .none .none .none 293 573 574),
 (295,kF fh "_law_text" "law_archrow_k47_texts_of_none" 456 294),
 (301,kC "_law_spoilt" 576 176 2 296 181 297 .none (.ref 298) (.ref 299) 300 587 588),
 (302,kF dc "_law_spoilt" "law_archrow_k47_texts_of_none" 456 301),
 (308,kC "law" 590 192 1 303 181 304 .none (.ref 305) (.ref 306) 307 596 597),
 (309,kF lI "law" "law_archrow_k47_texts_of_none" 456 308),
 (24,{cls:=.type "type",data:=.cls {name:="ArchError",bases:=[(.type "ValueError")],mro:=[(.ref 24),(.type "ValueError"),(.type "Exception"),(.type "BaseException"),(.type "object")],ns:=23,qualname:="ArchError",subclasses:=[(.ref 37),(.ref 49),(.ref 61),(.ref 73),(.ref 85),(.ref 97),(.ref 109),(.ref 121),(.ref 133),(.ref 145),(.ref 157),(.ref 169)]},slots:=#[some ((.ref 15)),none,some ((vS "ArchError" 189)),some ((vS "ArchError" 197)),some ((.builtin "ValueError.__new__")),some (.bool true)]}),
 (23,{cls:=.type "dict",data:=.dict #[kE P "__module__" 196 (vS "archrow.errors" 187),kE P "__firstlineno__" 200 (.int 2 199),kE P "__static_attributes__" 201 (.ref 22),kE P "__weakref__" 203 (.ref 25),kE P "__doc__" 204 .none] 3}),
 (37,kX "NoRow" 37 24 207),
 (36,kN P 37 207 187 4),
 (49,kX "NoTie" 49 24 223),
 (48,kN P 49 223 187 6),
 (61,kX "NoStretch" 61 24 239),
 (60,kN P 61 239 187 8),
 (73,kX "NoWeights" 73 24 255),
 (72,kN P 73 255 187 10),
 (85,kX "NoNumber" 85 24 271),
 (84,kN P 85 271 187 12),
 (97,kX "NoSet" 97 24 287),
 (96,kN P 97 287 187 14),
 (109,kX "NoGap" 109 24 303),
 (108,kN P 109 303 187 16),
 (121,kX "NoPlace" 121 24 319),
 (120,kN P 121 319 187 18),
 (133,kX "NoShape" 133 24 335),
 (132,kN P 133 335 187 20),
 (145,kX "NoText" 145 24 351),
 (144,kN P 145 351 187 22),
 (157,kX "NoForm" 157 24 367),
 (156,kN P 157 367 187 24),
 (169,kX "NoneYet" 169 24 383),
 (168,kN P 169 383 187 26)]
noncomputable abbrev HK:PySem.W.Hook:=PySem.W.kHook KK [3,175,176,182,183,187,188,194,195,201,202,206,207,213,214,220,221,227,228,234,235,241,242,246,247,253,254,260,261,265,266,270,271,275,276,282,283,289,290,294,295,301,302,308,309,24,23,37,36,49,48,61,60,73,72,85,84,97,96,109,108,121,120,133,132,145,144,157,156,169,168] (λ_=>by kernel_rfl)
noncomputable def view:Wq:={PySem.Challenge.pw_archrow_k47_texts_of_none with main:={PySem.Challenge.pw_archrow_k47_texts_of_none.main with body:=[top 1,top 2,top 3,top 4,top 5,top 6,top 7,top 8,top 9,top 10,top 11,top 12,top 13,top 15,top 17,top 18,top 19,top 20,top 21,top 22,top 23,top 25,top 26,top 27,top 28,top 29,top 30,top 31,top 32,top 33,top 34,top 35,top 36,top 37,top 38,top 39,top 40]}}
theorem left:PySem.W.LeftO PySem.Challenge.pw_archrow_k47_texts_of_none view [] (λs=>PySem.W.xlAt view [] s&&PySem.W.recOk (PySem.W.RowW.records PySem.Challenge.rw_archrow_k47_texts_of_none.row.toRowW) s) HK.obs HK.val 7034:=L2.Hd.xm (by kernel_rfl) (by kernel_rfl) (λ_=>rfl) (λw os=>by kernel_rfl)
end oM
namespace L2
open PySem PySem.Spec PyProof.Rows
abbrev Key:=Sum Int Str
def Fm:Key->Wg->Bool
 |.inl k,v=>Value.isInt k v
 |.inr x,v=>Value.isStrOf x v
def OQ (w:WC):Key->Int
 |.inl k=>hashInt k
 |.inr x=>hashStr w x
theorem br:∀{k:Key} {v:Wg},Fm k v=true->(∃i t,k=Sum.inl i/\v=Value.int i t)\/(∃x t,k=Sum.inr x/\v=Value.str x t)
 |.inl i,v,h=>by
  obtain⟨t,e⟩:=Value.isInt_shape (k:=i) (v:=v) h;exact .inl ⟨i,t,rfl,e⟩
 |.inr x,v,h=>by
  obtain⟨t,e⟩:=Value.isStrOf_shape (x:=x) (v:=v) h;exact .inr ⟨x,t,rfl,e⟩
theorem HP (a b:Int):decide ((Sum.inl a:Key)=Sum.inl b)=(a==b):=by
 by_cases e:a=b
 ·subst e;simp
 ·have h:¬ (Sum.inl a:Key)=Sum.inl b:=λq=>e (Sum.inl.inj q);rw[decide_eq_false h];exact(beq_eq_false_iff_ne.mpr e).symm
theorem HL (a b:Str):decide ((Sum.inr a:Key)=Sum.inr b)=decide (a=b):=by
 by_cases e:a=b
 ·subst e;simp
 ·have h:¬ (Sum.inr a:Key)=Sum.inr b:=λq=>e (Sum.inr.inj q);rw[decide_eq_false h,decide_eq_false e]
theorem HN (a:Int)(b:Str):decide ((Sum.inl a:Key)=Sum.inr b)=false:=decide_eq_false (λq=>nomatch q)
theorem HM (a:Str)(b:Int):decide ((Sum.inr a:Key)=Sum.inl b)=false:=decide_eq_false (λq=>nomatch q)
def pI (prog:Wq)(w:WC):PySem.KeyKind prog w Key where
 is:=Fm
 hash:=OQ w
 inj:=λv a b ha hb=>by
  rcases br ha with⟨i,t,rfl,rfl⟩|⟨x,t,rfl,rfl⟩
  ·rcases br hb with⟨j,u,rfl,e⟩|⟨y,u,rfl,e⟩
   ·injection e with e1 _;rw[e1]
   ·exact nomatch e
  ·rcases br hb with⟨j,u,rfl,e⟩|⟨y,u,rfl,e⟩
   ·exact nomatch e
   ·injection e with e1 _;rw[e1]
 byValue:=λk v h=>by
  rcases br h with⟨i,t,rfl,rfl⟩|⟨x,t,rfl,rfl⟩ <;> rfl
 pyHash:=λhv h=>by
  rcases br hv with⟨i,t,rfl,rfl⟩|⟨x,t,rfl,rfl⟩
  ·exact wpAny_pyHash_int h
  ·exact wpAny_pyHash_str h
 eqBool:=λhu hv h=>by
  rcases br hu with⟨i,t,rfl,rfl⟩|⟨x,t,rfl,rfl⟩
  ·rcases br hv with⟨j,u,rfl,rfl⟩|⟨y,u,rfl,rfl⟩
   ·rw[HP]at h;exact wpAny_eqBool_int h
   ·rw[HN]at h;exact SeqAt.EqAt.int_str i t y u _ _ _ _ h
  ·rcases br hv with⟨j,u,rfl,rfl⟩|⟨y,u,rfl,rfl⟩
   ·rw[HM]at h;exact SeqAt.EqAt.str_int x t j u _ _ _ _ h
   ·rw[HL]at h;exact wpAny_eqBool_str h
 «strs»:=λk x t v h=>by
  rcases br h with⟨i,u,rfl,e⟩|⟨y,u,rfl,e⟩
  ·exact nomatch e
  ·injection e with e1 _
   subst e1;cases v <;> rfl
inductive V where
 |bE|bl (b:Bool)|int (i:Int)|str (x:Str)|MF (b:Array UInt8)|Q9 (b:UInt64)|ref (a:Addr)|ty (n:String)
 deriving DecidableEq
def RelV:V->Wg->Prop
 |.bE,u=>u=Value.none
 |.bl b,u=>u=Value.bool b
 |.int i,u=>∃t,u=Value.int i t
 |.str x,u=>∃t,u=Value.str x t
 |.MF b,u=>∃t,u=Value.bytes b t
 |.Q9 b,u=>∃t,u=Value.float b t
 |.ref a,u=>u=Value.ref a
 |.ty n,u=>u=Value.type n
abbrev Vals:List V->List Wg->Prop:=Paired RelV
theorem Vals.length {xs:List V}{us:List Wg}(r:Vals xs us):xs.length=us.length:=Paired.length r
theorem Vals.get:∀{xs:List V} {us:List Wg} {i:Nat} {x:V},Vals xs us->xs[i]?=some x->∃u,us[i]?=some u/\RelV x u
 |_,_,_,_,.nil,e=>by simp at e
 |_,_,0,_,.cons r _,e=>by simp at e;subst e;exact⟨_,rfl,r⟩
 |_,_,i+1,x,.cons _ t,e=>by
  obtain⟨u,h1,h2⟩:=Vals.get (i:=i) (x:=x) t (by simpa using e)
  exact⟨u,by simpa using h1,h2⟩
theorem Vals.set {x:V}{u:Wg}(r:RelV x u):∀{xs:List V} {us:List Wg} (i:Nat),Vals xs us->Vals (xs.set i x) (us.set i u)
 |_,_,_,.nil=>.nil
 |_,_,0,.cons _ t=>.cons r t
 |_,_,i+1,.cons q t=>.cons q (Vals.set r i t)
theorem Vals.append:∀{xs ys:List V} {us ws:List Wg},Vals xs us->Vals ys ws->Vals (xs++ys) (us++ws):=by
 intro xs ys us ws h s
 induction h with
 |nil=>exact s
 |cons r t ih=>exact .cons r ih
theorem Vals.take:∀{xs:List V} {us:List Wg} (n:Nat),Vals xs us->Vals (xs.take n) (us.take n)
 |_,_,0,_=>.nil
 |_,_,_+1,.nil=>.nil
 |_,_,n+1,.cons r t=>.cons r (Vals.take n t)
theorem Vals.drop:∀{xs:List V} {us:List Wg} (n:Nat),Vals xs us->Vals (xs.drop n) (us.drop n)
 |_,_,0,r=>r
 |_,_,_+1,.nil=>.nil
 |_,_,n+1,.cons _ t=>Vals.drop n t
def ML:Option V->Option Wg->Prop
 |some v,some u=>RelV v u
 |none,none=>True
 |_,_=>False
def KV {κ:Type}:List (κ×V)->List (κ×Wg)->Prop:=Paired λ(p:κ×V) (q:κ×Wg)=>p.1=q.1/\RelV p.2 q.2
def kV:Key->V
 |.inl i=>.int i
 |.inr x=>.str x
inductive HO where
 |lst (xs:List V)
 |tup (xs:List V)
 |dK (g9:List (Key×V))|dT (g9:List (List Key×V))
 |set (S:Int->Bool) (n:Nat)
 |ins (C dx:Addr) (fs:List (Str×V))
 |own (x:Addr)
 |xd (fs:List (Str×V))
 |met (f x:Addr)
 |M0 (lo hi:Int)
 |AL (o:Obj) (u:HO)
 |EY (ps:Array Wg)
 |ext (φ:Heap->Prop)
abbrev Hp:=Addr->Option HO
def upd (H:Hp)(a:Addr)(o:HO):Hp:=λb=>if b=a then some o else H b
theorem aE {H:Hp}{a:Addr}{o:HO}:upd H a o a=some o:=by unfold upd;rw[if_pos rfl]
theorem aC {H:Hp}{a b:Addr}{o:HO}(h:b≠a):upd H a o b=H b:=by unfold upd;rw[if_neg h]
theorem Li {H:Hp}{a b:Addr}{o u:HO}(h:H a=some o)(h':H b=some u)(d:o≠u):a≠b:=by
 intro e;subst e;rw[h]at h';exact d (WR h')
theorem cb {H:Hp}{a b:Addr}{o:HO}(h:H a=some o)(h':H b=none):a≠b:=by
 intro e;subst e;rw[h]at h';cases h'
section
variable (P:Wq)(w:WC)
def cT (H:Hp)(h:Heap)(a:Addr):HO->Prop
 |.lst xs=>xs.length<=WA/\∃(its:List Wg) (n:Nat),Vals xs its/\h.get? a=some {cls:=.type "list",data:=.seq its.toArray n}
 |.tup xs=>xs.length<=WA/\∃its:List Wg,Vals xs its/\IsTup h a its.toArray
 |.dK g9=>g9.length<=WA/\(a==sysModules)=false/\∃vs,KV g9 vs/\h.DictOf (pI P w) a vs
 |.dT g9=>g9.length<=WA/\(a==sysModules)=false/\∃xs:List (List Key×Addr×Wg),
   Paired (λ(p:List Key×V) (q:List Key×Addr×Wg)=>p.1=q.1/\H q.2.1=some (.tup (p.1.map kV))/\RelV p.2 q.2.2) g9 xs /\
   ∃o es ep,h.get? a=some o/\o.ExactDict/\o.data=.dict es ep/\es.toList=xs.map (entryOfKey (tupleKind (pI P w)))/\(xs.map (·.1)).Nodup
 |.set S n=>h.SetOf (intKind P w) a S n
 |.ins C dx fs=>H dx=some (.own a)/\fs.length<=1000/\dx≠a/\h.get? a=some (PySem.W.instObj C dx) /\
   ∃mA,h.Ns1 dx mA/\(∀f,ML (fs.lookup f) (mA f))/\PySem.Within mA (fs.map (·.1))
 |.own _=>∃o,h.get? a=some o
 |.xd fs=>∃mA,h.Ns1 a mA/\∀f,ML (fs.lookup f) (mA f)
 |.M0 lo hi=>∃t u v,h.get? a=some {cls:=.type "range",data:=.fields #[.int lo t,.int hi u,.int 1 v]}
 |.AL o u=>h.get? a=some o/\cT H h a u
 |.EY ps=>h.get? a=some {cls:=.none,data:=.fields ps}
 |.met f x=>h.get? a=some (PySem.W.methodObj (.ref f) (.ref x))
 |.ext φ=>φ h/\(∃o,h.get? a=some o)/\∀h1 h2:Heap,φ h1->(∀o,h1.get? a=some o->h2.get? a=some o)->φ h2
def h9 (H:Hp)(h:Heap):Prop:=∀a o,H a=some o->cT P w H h a o
end
section
variable {P:Wq}{w:WC}{H H':Hp}{h h':Heap}{a:Addr}{o:HO}
theorem cT.lt (x:cT P w H h a o):a<h.objs.size:=by
 cases o with
 |lst xs=>obtain⟨_,_,_,_,e⟩:=x;exact WB e
 |tup xs=>obtain⟨_,_,_,p⟩:=x;exact p.lt
 |dK g9=>obtain⟨_,_,_,_,o,_,_,e,_⟩:=x;exact WB e
 |dT g9=>obtain⟨_,_,_,_,o,_,_,e,_⟩:=x;exact WB e
 |set S n=>obtain⟨o,_,_,_,e,_⟩:=x;exact WB e
 |ins C dx fs=>obtain⟨_,_,_,e,_⟩:=x;exact WB e
 |own y=>obtain⟨_,e⟩:=x;exact WB e
 |xd fs=>obtain⟨_,⟨_,_,_,e,_⟩,_⟩:=x;exact WB e
 |M0 lo hi=>obtain⟨_,_,_,e⟩:=x;exact WB e
 |AL ob u=>obtain⟨e,_⟩:=x;exact WB e
 |EY ps=>exact WB (show h.get? a=some _ from x)
 |met f y=>exact WB (show h.get? a=some _ from x)
 |ext φ=>obtain⟨_,⟨_,e⟩,_⟩:=x;exact WB e
theorem Paired.OL {α β:Type}{F G:α->β->Prop}:∀{l₁:List α} {l₂:List β},Paired F l₁ l₂->(∀a b,F a b->G a b)->Paired G l₁ l₂:=by
 intro l₁ l₂ h f
 induction h with
 |nil=>exact .nil
 |cons r t ih=>exact .cons (f _ _ r) ih
theorem cT.iQ (x:cT P w H h a o)(k:∀b u,(b=a\/H b=some (.own a))->h.get? b=some u->h'.get? b=some u)
  (ho:∀b,H b=some (.own a)->H' b=some (.own a)) (ht:∀b xs,H b=some (.tup xs)->H' b=some (.tup xs)):cT P w H' h' a o:=by
 induction o with
 |lst xs=>obtain⟨z,its,n,r,e⟩:=x;exact⟨z,its,n,r,k _ _ (.inl rfl) e⟩
 |tup xs=>obtain⟨z,its,r,ob,e,c⟩:=x;exact⟨z,its,r,ob,k _ _ (.inl rfl) e,c⟩
 |dK g9=>obtain⟨z,y,vs,r,ob,es,ep,e,c⟩:=x;exact⟨z,y,vs,r,ob,es,ep,k _ _ (.inl rfl) e,c⟩
 |dT g9 =>
  obtain⟨z,y,xs,r,ob,es,ep,e,c⟩:=x;exact⟨z,y,xs,Paired.OL r λp q z=>⟨z.1,ht _ _ z.2.1,z.2.2⟩,ob,es,ep,k _ _ (.inl rfl) e,c⟩
 |set S n=>obtain⟨ob,es,ep,t,e,c⟩:=x;exact⟨ob,es,ep,t,k _ _ (.inl rfl) e,c⟩
 |ins C dx fs =>
  obtain⟨d,z,ne,e,mA,⟨od,es,ep,e2,c⟩,r⟩:=x;exact⟨ho _ d,z,ne,k _ _ (.inl rfl) e,mA,⟨od,es,ep,k _ _ (.inr d) e2,c⟩,r⟩
 |own y=>obtain⟨ob,e⟩:=x;exact⟨ob,k _ _ (.inl rfl) e⟩
 |xd fs=>obtain⟨mA,⟨od,es,ep,e,c⟩,r⟩:=x;exact⟨mA,⟨od,es,ep,k _ _ (.inl rfl) e,c⟩,r⟩
 |M0 lo hi=>obtain⟨t,u,v,e⟩:=x;exact⟨t,u,v,k _ _ (.inl rfl) e⟩
 |AL ob u ih=>obtain⟨e,q⟩:=x;exact⟨k _ _ (.inl rfl) e,ih q⟩
 |EY ps =>
  have e:h.get? a=some {cls:=.none,data:=.fields ps}:=x;show h'.get? a=some {cls:=.none,data:=.fields ps};exact k a _ (.inl rfl) e
 |met f y =>
  have e:h.get? a=some (PySem.W.methodObj (.ref f) (.ref y)):=x;show h'.get? a=some (PySem.W.methodObj (.ref f) (.ref y));exact k a _ (.inl rfl) e
 |ext φ=>obtain⟨p,⟨o,e⟩,st⟩:=x;exact⟨st _ _ p λo q=>k _ _ (.inl rfl) q,⟨o,k _ _ (.inl rfl) e⟩,st⟩
theorem h9.lt (x:h9 P w H h)(e:H a=some o):a<h.objs.size:=(x a o e).lt
theorem h9.fresh (x:h9 P w H h)(e:h.objs.size<=a):H a=none:=by
 cases q:H a with
 |none=>rfl
 |some u=>exact absurd (WU (x.lt q) e) (Yw _)
theorem h9.kept (x:h9 P w H h)(k:∀b u,h.get? b=some u->h'.get? b=some u):h9 P w H h':=λa o e =>
 (x a o e).iQ (λb u _ q=>k b u q) (λ_ q=>q) λ_ _ q=>q
theorem h9.laid (x:h9 P w H h)(k:∀b u,h.get? b=some u->h'.get? b=some u)(hp:h.objs.size<=a)(new:cT P w (upd H a o) h' a o):h9 P w (upd H a o) h':=λb u e=>by
 have hn:=x.fresh hp
 by_cases hb:b=a
 ·subst hb;rw[aE]at e;cases e;exact new
 ·rw[aC hb]at e;exact(x b u e).iQ (λc v _ q=>k c v q) (λc q=>by rw[aC (cb q hn)];exact q) λc xs q=>by rw[aC (cb q hn)];exact q
end
def Rd (H:Hp)(a:Addr)(u:HO):Prop:=H a=some u\/∃o,H a=some (.AL o u)
theorem Rd.ok {P:Wq}{w:WC}{H:Hp}{h:Heap}{a:Addr}{u:HO}(r:Rd H a u)(x:h9 P w H h):cT P w H h a u:=by
 rcases r with r|⟨o,r⟩
 ·exact x a u r
 ·obtain⟨_,q⟩:=x a _ r;exact q
def Nu:Option HO->Prop
 |some (.lst _)=>True
 |some (.dK _)=>True
 |some (.dT _)=>True
 |some (.set _ _)=>True
 |some (.ins _ _ _)=>True
 |some (.ext _)=>True
 |_=>False
section
variable {P:Wq}{w:WC}{H:Hp}{h h':Heap}{x e:Addr}{o':HO}
theorem h9.write (ok:h9 P w H h)(mu:Nu (H x))(he:e=x\/H e=some (.own x))(k:∀b u,b≠e->h.get? b=some u->h'.get? b=some u)(JT:∃u,h'.get? e=some u)
  (new:cT P w (upd H x o') h' x o'):h9 P w (upd H x o') h':=λb u q=>by
 have Lf:∀c y,H c=some (.own y)->c≠x:=λc y r z=>by subst z;rw[r]at mu;exact mu
 have OE:∀c xs,H c=some (.tup xs)->c≠x:=λc xs r z=>by subst z;rw[r]at mu;exact mu
 by_cases hb:b=x
 ·subst hb;rw[aE]at q;cases q;exact new
 ·rw[aC hb]at q
  by_cases IV:b=e
  ·have q':H b=some (.own x):=by
    rcases he with z|z
    ·exact absurd (IV.trans z) hb
    ·rw[IV];exact z
   rw[q]at q';cases q';obtain⟨v,hv⟩:=JT;exact⟨v,by rw[IV];exact hv⟩
  ·refine(ok b u q).iQ (λc v hc r=>k c v ?_ r) (λc r=>by rw[aC (Lf c b r)];exact r) λc xs r=>by rw[aC (OE c xs r)];exact r
   rcases hc with rfl|hc
   ·exact IV
   ·rintro rfl;rcases he with z|z
    ·exact Lf c b hc z
    ·rw[hc]at z;cases z;exact hb rfl
end
structure Un (fs ex:List Addr)(H H':Hp)(h h':Heap):Prop where
 keep:∀b o,h.get? b=some o->H b=none->b∉fs->b∉ex->h'.get? b=some o
 slot:∀b o,h.get? b=some o->H b=none->b∈fs->b∉ex->∃sl,h'.get? b=some {o with slots:=sl}
 free:∀b o,h.get? b=some o->H b=none->b∉ex->H' b=none
 there:∀b o,h.get? b=some o->b∉ex->∃o',h'.get? b=some o'
 h_:∀b xs,H b=some (.tup xs)->H' b=some (.tup xs)
 gY:∀b o u,H b=some (.AL o u)->H' b=some (.AL o u)
 ia:∀b ps,H b=some (.EY ps)->∃more,H' b=some (.EY (ps++more))
section
variable {fs ex:List Addr}{H H1:Hp}{h h1 h':Heap}{a x e:Addr}{o:HO}
theorem Un.any (u:Un fs ex H H1 h h1){b:Addr}{ob:Obj}(q:h.get? b=some ob)(n:H b=none)(hx:b∉ex):∃sl,h1.get? b=some {ob with slots:=sl}:=by
 by_cases hb:b∈fs
 ·exact u.slot b ob q n hb hx
 ·exact⟨ob.slots,u.keep b ob q n hb hx⟩
theorem Un.kept (k:∀b u,h.get? b=some u->h'.get? b=some u):Un fs ex H H h h' :=
 ⟨λb ob q _ _ _=>k b ob q,λb ob q _ _ _=>⟨ob.slots,k b ob q⟩,λ_ _ _ n _=>n,λb ob q _=>⟨ob,k b ob q⟩,λ_ _ q=>q,λ_ _ _ q=>q,λ_ ps q=>⟨#[],by rw[q];simp⟩⟩
theorem Un.refl:Un fs ex H H h h:=Un.kept λ_ _ q=>q
theorem Un.laid (k:∀b u,h.get? b=some u->h'.get? b=some u)(hp:h.objs.size<=a)(hn:H a=none):Un fs ex H (upd H a o) h h' where
 keep:=λb u q _ _ _=>k b u q
 slot:=λb u q _ _ _=>⟨u.slots,k b u q⟩
 free:=λb u q n _=>by rw[aC (WZ (WU (WB q) hp))];exact n
 there:=λb u q _=>⟨u,k b u q⟩
 h_:=λb xs q=>by rw[aC (cb q hn)];exact q
 gY:=λb u xs q=>by rw[aC (cb q hn)];exact q
 ia:=λb ps q=>⟨#[],by rw[aC (cb q hn),q];simp⟩
theorem Un.write (mu:Nu (H x))(he:e=x\/H e=some (.own x))(k:∀b u,b≠e->h.get? b=some u->h'.get? b=some u)(JT:∃u,h'.get? e=some u):Un fs ex H (upd H x o) h h':=by
 have hx:∀b,H b=none->b≠x:=λb n z=>by subst z;rw[n]at mu;exact mu
 have hb:∀b,H b=none->b≠e:=λb n z=>by
  subst z;rcases he with r|r
  ·exact hx b n r
  ·rw[n]at r;cases r
 have hm:∀b u,H b=some u->¬ Nu (some u)->b≠x:=λb u q nm z=>by subst z;rw[q]at mu;exact nm mu
 refine⟨λb u q n _ _=>k b u (hb b n) q,λb u q n _ _=>⟨u.slots,k b u (hb b n) q⟩,λb u q n _=>by rw[aC (hx b n)];exact n,λb u q _=>?_,
  λb xs q=>by rw[aC (hm b _ q λz=>z)];exact q,λb u xs q=>by rw[aC (hm b _ q λz=>z)];exact q,λb ps q=>⟨#[],by rw[aC (hm b _ q λz=>z),q];simp⟩⟩
 by_cases IV:b=e
 ·subst IV;exact JT
 ·exact⟨u,k b u IV q⟩
end
def JE (h:Heap)(H:Hp):List Addr:=(Xd h.objs.size).filter λa=>(H a).isSome
def pM (h:Heap)(H:Hp):Heap:=PySem.W.hideAll h (JE h H)
theorem xB (h:Heap)(H:Hp):(pM h H).objs.size=h.objs.size:=PySem.W.hideAll_size _ _
theorem Az {h:Heap}{H:Hp}{b:Addr}{o:Obj}(e:h.get? b=some o)(n:H b=none):(pM h H).get? b=some o :=
 PySem.W.hideAll_get _ e λhm=>by
  have q:(H b).isSome=true:=(List.mem_filter.mp hm).2;rw[n]at q;simp at q
theorem Dr {h:Heap}{H:Hp}{b:Addr}{o:Obj}(e:(pM h H).get? b=some o):h.get? b=some o/\H b=none:=by
 have e':h.get? b=some o:=PySem.W.of_hideAll (JE h H) e;refine⟨e',?_⟩;cases q:H b with
 |none=>rfl
 |some x =>
  have hm:b∈JE h H:=List.mem_filter.mpr ⟨Xz.mpr (WB e'),by simp[q]⟩
  have z:(pM h H).get? b=none:=PySem.W.hideAll_none (JE h H) hm;rw[z]at e;cases e
structure Mod (K:PySem.W.Frag)(mg:Str->Option Wg)(base:Heap):Prop where
 JN:K.In base
 glob:base.Ns Yp mg
 blt:∃mb,base.Ns builtinsNs mb/\∀x:Str,x≠"__name__" -> mb x=Xp x
 nolimit:base.NoLimit
structure Cx where
 prog:Wq
 w:WC
 K:PySem.W.Frag
 mg:Str->Option Wg
 base:Heap
 A:Xg
 N:List Str
 s₀:Wi
 H₀:Hp
 env:Env
 outer:List Env
 stack:List Env
 ex:List Addr
 fn:Str->Bool
 calm:Bool
 pn:List (Addr×Obj)
 xe:Wg->Wi->Prop
def fR (l:List Env):List Addr:=l.filterMap (·.frame)
abbrev Cx.fs (X:Cx):List Addr:=fR X.outer
def J2 (sc:Zc)(x:Str):Prop:=sc.names.lookup x=some .local\/sc.names.lookup x=some .cell\/sc.names.lookup x=some .free
def Loc (sc:Zc)(x:Str):Prop:=sc.names.lookup x=some .local\/sc.names.lookup x=some .cell
def Look (env:Env)(h:Heap)(m:Str->Option Wg)(x:Str)(u:Wg):Prop :=
 (env.kindOf x=some .local/\m x=some u)\/((env.kindOf x=some .cell\/env.kindOf x=some .free)/\∃c,env.cells.lookup x=some c/\h.IsCell c (some u))
structure Cx.Ok (X:Cx):Prop where
 mod:Mod X.K X.mg X.base
 kind:X.env.scope.kind=.function
 glob:X.env.globals=Yp
 blt:X.env.builtins=builtinsNs
 above:X.s₀.heap.objs.size<=X.env.locals
 inj:∀x y c,X.env.cells.lookup x=some c->X.env.cells.lookup y=some c->x=y
 has:∀x,(X.env.kindOf x=some .cell\/X.env.kindOf x=some .free)->∃c,X.env.cells.lookup x=some c
 EE:∀x c,X.fn x=true->X.env.cells.lookup x=some c->X.s₀.heap.objs.size<=c
 hd:X.calm=true->X.A.handled=none
 frames:X.A.frames=some X.stack
 E4:X.stack=X.outer\/(X.stack=X.env::X.outer/\X.env.frame=some X.env.locals)
 FG:∀b∈X.ex,b≠X.env.locals/\∀x c,X.env.cells.lookup x=some c->c≠b
 bs:∀b o,X.base.get? b=some o->X.s₀.heap.get? b=some o/\X.H₀ b=none
 xU:X.base.objs.size<=X.s₀.heap.objs.size
 pF:∀b o,X.base.get? b=some o->b∉X.ex
 pP:∀b∈X.ex,b∉X.fs
 gX:X.s₀.heap.FunFrames X.base X.outer
 AM:∀b∈X.fs,X.H₀ b=none
structure Inv (X:Cx)(pins:List (Addr×Obj))(σ:List (Option V))(H:Hp)(s:Wi):Prop where
 ok:X.Ok
 os:s.os=X.s₀.os
 bare:ZV s.gens
 base:Un X.fs X.ex X.H₀ H X.s₀.heap s.heap
 loc:∃m,s.heap.Ns X.env.locals m/\∀(i:Nat) (x:Str) (v:V),X.N[i]?=some x->σ[i]?=some (some v)->J2 X.env.scope x->∃u,RelV v u/\Look X.env s.heap m x u
 cell:∀x c,X.env.cells.lookup x=some c->∃v,s.heap.IsCell c v
 free:H X.env.locals=none
 cR:∀x c,X.env.cells.lookup x=some c->H c=none
 pin:∀p∈X.pn++pins,s.heap.get? p.1=some p.2/\H p.1=none/\p.1≠X.env.locals/\p.1∉X.fs/\∀v,p.2.data≠.cell v
 bq:h9 X.prog X.w H s.heap
 len:σ.length=X.N.length
section
variable {X:Cx}{pins:List (Addr×Obj)}{σ:List (Option V)}{H H':Hp}{s:Wi}{h':Heap}
theorem Cx.Ok.Ht (ok:X.Ok){b:Addr}{o:Obj}(e:X.base.get? b=some o):b∉X.fs:=λhb=>by
 have:=(ok.gX.mem hb).1;rw[e]at this;cases this
theorem Inv.bs (I:Inv X pins σ H s):∀b o,X.base.get? b=some o->s.heap.get? b=some o/\H b=none:=λb o e =>
 ⟨I.base.keep b o (I.ok.bs b o e).1 (I.ok.bs b o e).2 (I.ok.Ht e) (I.ok.pF b o e),I.base.free b o (I.ok.bs b o e).1 (I.ok.bs b o e).2 (I.ok.pF b o e)⟩
theorem Inv.bk (I:Inv X pins σ H s):∀b o,X.base.get? b=some o->s.heap.get? b=some o:=λb o e=>(I.bs b o e).1
theorem Inv.mod (I:Inv X pins σ H s):Mod X.K X.mg X.base:=I.ok.mod
theorem Inv.xo (I:Inv X pins σ H s):X.K.In s.heap:=I.ok.mod.JN.keeps I.bk
theorem Inv.lt (I:Inv X pins σ H s):X.env.locals<s.heap.objs.size:=let ⟨_,hn,_⟩:=I.loc;hn.lt
theorem Inv.sz (I:Inv X pins σ H s):X.s₀.heap.objs.size<=s.heap.objs.size:=W8 I.ok.above (Nat.le_of_lt I.lt)
theorem Inv.OG (I:Inv X pins σ H s){a:Addr}(h:s.heap.objs.size<=a):a∉X.fs:=λhb=>by
 obtain⟨_,o,ho,_⟩:=I.ok.gX.mem hb;exact absurd (WU (WB ho) (W8 I.sz h)) (Yw _)
theorem Inv.Bw (I:Inv X pins σ H s):∀x c,X.env.cells.lookup x=some c->c≠X.env.locals:=λx c e z=>by
 obtain⟨v,o,ho,hd⟩:=I.cell x c e;obtain⟨m,⟨o',es,ep,xw,U7,_⟩,_⟩:=I.loc;rw[z,xw]at ho;cases ho;rw[U7]at hd;cases hd
theorem Inv.gX (I:Inv X pins σ H s):s.heap.FunFrames X.base X.outer:=by
 have all:∀(l:List Env),(∀b∈fR l,b∈X.fs)->X.s₀.heap.FunFrames X.base l->s.heap.FunFrames X.base l:=by
  intro l
  induction l with
  |nil=>intro _ _;trivial
  |cons env r ih =>
   intro hs hl;obtain⟨hk,⟨L,o,hf,hn,ho,hd⟩,hr⟩:=hl;have hL:L∈X.fs:=hs L (by unfold fR;rw[Xj,hf];exact Wo)
   obtain⟨sl,e⟩:=I.base.slot L o ho (I.ok.AM L hL) hL λz=>I.ok.pP L z hL;exact⟨hk,⟨L,_,hf,hn,e,hd⟩,ih (λb hb=>hs b (by unfold fR;rw[Xj,hf];exact Wm _ hb)) hr⟩
 exact all X.outer (λ_ hb=>hb) I.ok.gX
theorem Inv.stack (I:Inv X pins σ H s):s.heap.FunFrames X.base X.stack:=by
 rcases I.ok.E4 with e|⟨e,hf⟩
 ·rw[e];exact I.gX
 ·rw[e];obtain⟨m,hn,_⟩:=I.loc;refine .cons (by rw[I.ok.kind];decide) hf hn ?_ I.gX
  exact Heap.get?_none_of_le (W8 I.ok.xU I.ok.above)
theorem Inv.tT (I:Inv X pins σ H s):∀b∈fR X.stack,b∈X.env.locals::X.fs:=λb hb=>by
 rcases I.ok.E4 with e|⟨e,hf⟩
 ·rw[e]at hb;exact Wm _ hb
 ·rw[e]at hb;unfold fR at hb;rw[Xj,hf]at hb;exact hb
theorem Inv.oS (I:Inv X pins σ H s):∀b∈fR X.stack,H b=none:=λb hb=>by
 rcases Ws.mp (I.tT b hb)with e|hb
 ·rw[e];exact I.free
 ·obtain⟨_,o,ho,_⟩:=I.ok.gX.mem hb;exact I.base.free b o ho (I.ok.AM b hb) λz=>I.ok.pP b z hb
theorem Inv.step {g':Array GenState}{t':Nat}{d':Drawn}{ch:List Addr}(I:Inv X pins σ H s)
  (B_:∀b∈ch,(b∈X.ex\/X.s₀.heap.objs.size<=b)/\b≠X.env.locals/\(∀x c,X.env.cells.lookup x=some c->c≠b)/\∀p∈X.pn++pins,p.1≠b)
  (keep:∀b o,b≠X.env.locals->b∉X.fs->b∉ch->s.heap.get? b=some o->H b=none->h'.get? b=some o)
  (slot:∀b o,b≠X.env.locals->b∈X.fs->b∉ch->s.heap.get? b=some o->H b=none->∃sl,h'.get? b=some {o with slots:=sl}) (free:∀b o,b∉ch->s.heap.get? b=some o->H b=none->H' b=none)
  (there:∀b o,b∉ch->s.heap.get? b=some o->∃o',h'.get? b=some o')
  (h_:∀b xs,H b=some (.tup xs)->H' b=some (.tup xs)) (gY:∀b o u,H b=some (.AL o u)->H' b=some (.AL o u)) (ia:∀b ps,H b=some (.EY ps)->∃more,H' b=some (.EY (ps++more)))
  (ns:∀m,s.heap.Ns X.env.locals m->h'.Ns X.env.locals m) (bq:h9 X.prog X.w H' h') (hg:ZV g') :
  Inv X pins σ H' {s with heap:=h',gens:=g',drawn:=d',toks:=t'}:=by
 have Sh:∀b o,X.s₀.heap.get? b=some o->b≠X.env.locals:=λb o e=>WZ (WU (WB e) I.ok.above);have M4:∀b o,X.s₀.heap.get? b=some o->b∉X.ex->b∉ch:=λb o e hx hb=>by
  rcases (B_ b hb).1 with z|z
  ·exact hx z
  ·exact absurd (WU (WB e) z) (Yw _)
 have cellK:∀x c,X.env.cells.lookup x=some c->∀v,s.heap.IsCell c v->h'.IsCell c v:=λx c e v mW=>by
  obtain⟨o,ho,hd⟩:=mW;have Lk:c∉ch:=λz=>(B_ c z).2.2.1 x c e rfl
  by_cases hc:c∈X.fs
  ·obtain⟨sl,q⟩:=slot c o (I.Bw x c e) hc Lk ho (I.cR x c e);exact⟨_,q,hd⟩
  ·exact⟨o,keep c o (I.Bw x c e) hc Lk ho (I.cR x c e),hd⟩
 refine⟨I.ok,I.os,hg,⟨λb o e n hb hx=>?_,λb o e n hb hx=>?_,λb o e n hx=>?_,λb o e hx=>?_,λb xs e=>h_ b xs (I.base.h_ b xs e),λb o xs e=>gY b o xs (I.base.gY b o xs e),λb ps e=>?_⟩,?_,λx c e=>?_,?_,λx c e=>?_,λp hp=>?_,bq,I.len⟩
 ·exact keep b o (Sh b o e) hb (M4 b o e hx) (I.base.keep b o e n hb hx) (I.base.free b o e n hx)
 ·obtain⟨sl,e1⟩:=I.base.slot b o e n hb hx;obtain⟨vh,e2⟩:=slot b _ (Sh b o e) hb (M4 b o e hx) e1 (I.base.free b o e n hx);exact⟨vh,e2⟩
 ·obtain⟨o',e1⟩:=I.base.there b o e hx;exact free b o' (M4 b o e hx) e1 (I.base.free b o e n hx)
 ·obtain⟨o',e1⟩:=I.base.there b o e hx;exact there b o' (M4 b o e hx) e1
 ·obtain⟨m1,e1⟩:=I.base.ia b ps e;obtain⟨m2,e2⟩:=ia b _ e1;exact⟨m1++m2,by rw[e2,Array.append_assoc]⟩
 ·obtain⟨m,hn,hl⟩:=I.loc;refine⟨m,ns m hn,λi x v e1 e2 e3=>?_⟩;obtain⟨u,r,l⟩:=hl i x v e1 e2 e3;refine⟨u,r,?_⟩;rcases l with l|⟨k,c,e,z⟩
  ·exact .inl l
  ·exact .inr ⟨k,c,e,cellK x c e _ z⟩
 ·obtain⟨v,z⟩:=I.cell x c e;exact⟨v,cellK x c e v z⟩
 ·obtain⟨m,⟨o,_,_,ho,_⟩,_⟩:=I.loc;exact free _ o (λz=>(B_ _ z).2.1 rfl) ho I.free
 ·obtain⟨v,o,ho,hd⟩:=I.cell x c e;exact free c o (λz=>(B_ c z).2.2.1 x c e rfl) ho (I.cR x c e)
 ·obtain⟨e,n,ne,nf,d⟩:=I.pin p hp;have Lk:p.1∉ch:=λz=>(B_ p.1 z).2.2.2 p hp rfl;exact⟨keep p.1 p.2 ne nf Lk e n,free p.1 p.2 Lk e n,ne,nf,d⟩
theorem Inv.un {t':Nat}(I:Inv X pins σ H s)(u:Un X.fs [] H H' s.heap h')(bq:h9 X.prog X.w H' h'):Inv X pins σ H' {s with heap:=h',toks:=t'}:=by
 obtain⟨m,⟨o,es,ep,ho,r⟩,_⟩:=id I.loc;obtain⟨sl,hL⟩:=u.any ho I.free (by simp)
 exact I.step (g':=s.gens) (d':=s.drawn) (ch:=[]) (λ_ z=>nomatch z) (λb o _ hb _ e n=>u.keep b o e n hb (by simp)) (λb o _ hb _ e n=>u.slot b o e n hb (by simp)) (λb o _ e n=>u.free b o e n (by simp)) (λb o _ e=>u.there b o e (by simp)) u.h_ u.gY u.ia (λm' hm=>by
  obtain⟨o',hV,pR,xw,r'⟩:=hm;rw[ho]at xw;cases xw;exact⟨_,hV,pR,hL,r'⟩) bq I.bare
theorem Inv.call {g':Array GenState}{t':Nat}{d':Drawn}{ch:List Addr}(I:Inv X pins σ H s)(u:Un (fR X.stack) ch H H' s.heap h')(bq:h9 X.prog X.w H' h')(hg:ZV g')
  (B_:∀b∈ch,(b∈X.ex\/X.s₀.heap.objs.size<=b)/\b≠X.env.locals/\(∀x c,X.env.cells.lookup x=some c->c≠b)/\∀p∈X.pn++pins,p.1≠b) :
  Inv X pins σ H' {s with heap:=h',gens:=g',drawn:=d',toks:=t'}:=by
 obtain⟨m,⟨o,es,ep,ho,r⟩,_⟩:=id I.loc;obtain⟨sl,hL⟩:=u.any ho I.free λz=>(B_ _ z).2.1 rfl;exact I.step (ch:=ch) B_ (λb o hL hb hc e n=>u.keep b o e n (λz=>(Ws.mp (I.tT b z)).elim hL hb) hc) (λb o _ _ hc e n=>u.any e n hc) (λb o hc e n=>u.free b o e n hc) (λb o hc e=>u.there b o e hc) u.h_ u.gY u.ia (λm' hm=>by
  obtain⟨o',hV,pR,xw,r'⟩:=hm;rw[ho]at xw;cases xw;exact⟨_,hV,pR,hL,r'⟩) bq hg
theorem Inv.turned {t':Nat}{it:Addr}(I:Inv X pins σ H s)(k:∀b o,b≠it->s.heap.get? b=some o->h'.get? b=some o)(hn:H it=none)(hL:it≠X.env.locals)
  (h1:it∈X.ex\/X.s₀.heap.objs.size<=it) (h2:∀x c,X.env.cells.lookup x=some c->c≠it) (h3:∀p∈X.pn++pins,p.1≠it):Inv X pins σ H {s with heap:=h',toks:=t'}:=by
 have Sg:∀b u,H b=some u->b≠it:=λb u e z=>by rw[z,hn]at e;cases e
 refine I.step (g':=s.gens) (d':=s.drawn) (ch:=[it]) (λb hb=>?_) (λb o _ _ hc e _=>k b o (λz=>hc (by simp[z])) e) (λb o _ _ hc e _=>⟨o.slots,k b o (λz=>hc (by simp[z])) e⟩) (λ_ _ _ _ n=>n)
  (λb o hc e=>⟨o,k b o (λz=>hc (by simp[z])) e⟩) (λ_ _ e=>e) (λ_ _ _ e=>e) (λb ps e=>⟨#[],by rw[e];simp⟩) (λm hm=>?_) (λb u e=>?_) I.bare
 ·have e:b=it:=by simpa using hb
  subst e;exact⟨h1,hL,h2,h3⟩
 ·obtain⟨o,es,ep,ho,r⟩:=hm;exact⟨o,es,ep,k _ o (Zy hL) ho,r⟩
 ·refine(I.bq b u e).iQ (λc v hc q=>k c v ?_ q) (λ_ q=>q) λ_ _ q=>q;rcases hc with z|z
  ·rw[z];exact Sg b u e
  ·exact Sg c _ z
theorem Inv.tok (I:Inv X pins σ H s)(t:Nat):Inv X pins σ H {s with toks:=t}:=I.un (h':=s.heap) (t':=t) Un.refl I.bq
theorem Inv.kept {t':Nat}(I:Inv X pins σ H s)(k:∀b u,s.heap.get? b=some u->h'.get? b=some u):Inv X pins σ H {s with heap:=h',toks:=t'}:=I.un (Un.kept k) (I.bq.kept k)
theorem Inv.laid {a:Addr}{o:HO}{t':Nat}(I:Inv X pins σ H s)(k:∀b u,s.heap.get? b=some u->h'.get? b=some u)(hp:s.heap.objs.size<=a)(new:cT X.prog X.w (upd H a o) h' a o):
  Inv X pins σ (upd H a o) {s with heap:=h',toks:=t'}:=I.un (Un.laid k hp (I.bq.fresh hp)) (I.bq.laid k hp new)
theorem Inv.write {x e:Addr}{o:HO}{t':Nat}(I:Inv X pins σ H s)(mu:Nu (H x))(he:e=x\/H e=some (.own x))(k:∀b u,b≠e->s.heap.get? b=some u->h'.get? b=some u)(JT:∃u,h'.get? e=some u)
  (new:cT X.prog X.w (upd H x o) h' x o):Inv X pins σ (upd H x o) {s with heap:=h',toks:=t'}:=I.un (Un.write mu he k JT) (I.bq.write mu he k JT new)
theorem Inv.vy {gb:List (Addr×Obj)}(I:Inv X pins σ H s)(h:∀p∈gb,s.heap.get? p.1=some p.2/\H p.1=none/\p.1≠X.env.locals/\p.1∉X.fs/\∀v,p.2.data≠.cell v):Inv X gb σ H s :=
 ⟨I.ok,I.os,I.bare,I.base,I.loc,I.cell,I.free,I.cR,λp hp=>(WO.mp hp).elim (λz=>I.pin p (X1 _ z)) (h p),I.bq,I.len⟩
theorem lR {N:List Str}(hN:N.Nodup){i j:Nat}{x:Str}(a:N[i]?=some x)(b:N[j]?=some x):i=j:=by
 obtain⟨h1,e1⟩:=WI.mp a;obtain⟨h2,e2⟩:=WI.mp b;exact(List.getElem_inj hN).mp (e1.trans e2.symm)
theorem nv {M:Model}{A:Xg}{E:Wg->Wi->Prop}{i:Nat}{x:Str}{v:V}{u:Wg}{Q:Unit->Wi->Prop}(I:Inv X pins σ H s)(hN:X.N.Nodup)(hi:X.N[i]?=some x)(hx:Loc X.env.scope x)(r:RelV v u)
  (h:∀s',Inv X pins (σ.set i (some v)) H s'->(∃a,Y0 a s.heap s'.heap/\(a=X.env.locals\/X.env.cells.lookup x=some a))->Q () s') (hf:X.fn x=true\/X.env.scope.names.lookup x=some .local:=by first|exact .inl rfl|exact .inr rfl|assumption):WT M A (storeName X.env x u) Q E s:=by
 obtain⟨m,hn,hl⟩:=id I.loc;have IU:(X.env.scope.kind==.class || (X.env.scope.kind==.module&&X.env.locals != X.env.globals))=false:=by rw[I.ok.kind];rfl
 have LS:i<σ.length:=by rw[I.len];exact(WI.mp hi).1
 have Bw:=I.Bw;have tracked:∀{a:Addr} {h':Heap},(∃o,s.heap.get? a=some o/\H a=none)->Y0 a s.heap h'->h9 X.prog X.w H h':=λ{a h'} ha hs b ob e=>by
  obtain⟨_,_,Fu⟩:=ha;refine(I.bq b ob e).iQ (λc w' hc q=>(hs.2 c ?_).trans q) (λ_ q=>q) λ_ _ q=>q;rintro rfl;rcases hc with rfl|hc
  ·rw[Fu]at e;cases e
  ·rw[Fu]at hc;cases hc
 rcases hx with hk|hk
 ·refine wpAny_storeName_local hk hn (λh' DW hs=>?_) IU;obtain⟨oL,_,_,SJ,_⟩:=id hn;refine h _ ⟨I.ok,I.os,I.bare,⟨λb o e n hb hx=>?_,λb o e n hb hx=>?_,I.base.free,λb o e hx=>?_,I.base.h_,I.base.gY,I.base.ia⟩,⟨_,DW,λj y v' e1 e2 e3=>?_⟩,λy c e=>?_,I.free,I.cR,λp hp=>?_,tracked ⟨oL,SJ,I.free⟩ hs,by simpa using I.len⟩ ⟨_,hs,.inl rfl⟩
  ·exact(hs.2 b (WZ (WU (WB e) I.ok.above))).trans (I.base.keep b o e n hb hx)
  ·obtain⟨sl,e1⟩:=I.base.slot b o e n hb hx;exact⟨sl,(hs.2 b (WZ (WU (WB e) I.ok.above))).trans e1⟩
  ·obtain⟨o',e1⟩:=I.base.there b o e hx;exact⟨o',(hs.2 b (WZ (WU (WB e) I.ok.above))).trans e1⟩
  ·by_cases hj:j=i
   ·subst hj;rw[hi]at e1;cases e1;rw[List.getElem?_set_self LS]at e2;cases e2;exact⟨u,r,.inl ⟨hk,by simp⟩⟩
   ·rw[List.getElem?_set_ne (Zy hj)]at e2;obtain⟨u',r',q⟩:=hl j y v' e1 e2 e3;refine⟨u',r',?_⟩;rcases q with⟨k,e⟩|⟨k,c,e,z⟩
    ·refine .inl ⟨k,?_⟩;have:y≠x:=λe=>hj (lR hN e1 (e▸hi));simp[this,e]
    ·exact .inr ⟨k,c,e,z.sameBut hs (Bw y c e)⟩
  ·obtain⟨w',z⟩:=I.cell y c e;exact⟨w',z.sameBut hs (Bw y c e)⟩
  ·obtain⟨e,n,ne,nf,d⟩:=I.pin p hp;exact⟨(hs.2 p.1 ne).trans e,n,ne,nf,d⟩
 ·have QQ:X.fn x=true:=by
   rcases hf with z|z
   ·exact z
   ·rw[z]at hk;cases hk
  obtain⟨c,hc⟩:=I.ok.has x (.inl hk);obtain⟨w',z⟩:=I.cell x c hc;refine wpAny_storeName_cell I.ok.kind hk hc z (λh' x9 hs=>?_);obtain⟨oc,IH,Qx⟩:=id z;refine h {s with heap:=h'} ⟨I.ok,I.os,I.bare,⟨λb o e n hb hx=>?_,λb o e n hb hx=>?_,I.base.free,λb o e hx=>?_,I.base.h_,I.base.gY,I.base.ia⟩,⟨m,hn.sameBut hs (Zy (Bw x c hc)),λj y v' e1 e2 e3=>?_⟩,λy c' e=>?_,I.free,I.cR,λp hp=>?_,tracked ⟨oc,IH,I.cR x c hc⟩ hs,by simpa using I.len⟩ ⟨c,hs,.inr hc⟩
  ·exact(hs.2 b (WZ (WU (WB e) (I.ok.EE x c QQ hc)))).trans (I.base.keep b o e n hb hx)
  ·obtain⟨sl,e1⟩:=I.base.slot b o e n hb hx;exact⟨sl,(hs.2 b (WZ (WU (WB e) (I.ok.EE x c QQ hc)))).trans e1⟩
  ·obtain⟨o',e1⟩:=I.base.there b o e hx;exact⟨o',(hs.2 b (WZ (WU (WB e) (I.ok.EE x c QQ hc)))).trans e1⟩
  ·by_cases hj:j=i
   ·subst hj;rw[hi]at e1;cases e1;rw[List.getElem?_set_self LS]at e2;cases e2;exact⟨u,r,.inr ⟨.inl hk,c,hc,x9⟩⟩
   ·rw[List.getElem?_set_ne (Zy hj)]at e2;obtain⟨u',r',q⟩:=hl j y v' e1 e2 e3;refine⟨u',r',?_⟩;rcases q with q|⟨k,c',e,z'⟩
    ·exact .inl q
    ·refine .inr ⟨k,c',e,z'.sameBut hs ?_⟩;rintro rfl;exact hj (lR hN e1 (I.ok.inj _ _ _ e hc▸hi))
  ·by_cases DZ:c'=c
   ·subst DZ;exact⟨_,x9⟩
   ·obtain⟨w2,z2⟩:=I.cell y c' e;exact⟨w2,z2.sameBut hs DZ⟩
  ·obtain⟨e,n,ne,nf,d⟩:=I.pin p hp;refine⟨(hs.2 p.1 ?_).trans e,n,ne,nf,d⟩;intro q;rw[q,IH]at e;have q':oc=p.2:=WR e;exact d w' (by rw[<- q'];exact Qx)
theorem ly {M:Model}{A:Xg}{E:Wg->Wi->Prop}{i:Nat}{x:Str}{v:V}{u:Wg}{Q:Unit->Wi->Prop}(I:Inv X pins σ H s)(hN:X.N.Nodup)(hi:X.N[i]?=some x)(hx:Loc X.env.scope x)(r:RelV v u)
  (h:∀s',Inv X pins (σ.set i (some v)) H s'->Q () s') (hf:X.fn x=true\/X.env.scope.names.lookup x=some .local:=by first|exact .inl rfl|exact .inr rfl|assumption):WT M A (storeName X.env x u) Q E s :=
 nv I hN hi hx r (λs' I' _=>h s' I') hf
theorem Inv.FU {s':Wi}{ch:List Addr}(I:Inv X pins σ H s)(ho:s'.os=s.os)(u:Un (fR X.stack) ch H H' s.heap s'.heap)(bq:h9 X.prog X.w H' s'.heap)(hg:ZV s'.gens)
  (B_:∀b∈ch,(b∈X.ex\/X.s₀.heap.objs.size<=b)/\b≠X.env.locals/\(∀x c,X.env.cells.lookup x=some c->c≠b)/\∀p∈X.pn++pins,p.1≠b):Inv X pins σ H' s':=by
 obtain⟨h',g',d',t',o'⟩:=s';have e:o'=s.os:=ho;subst e;exact I.call (g':=g') (t':=t') (d':=d') u bq hg B_
end
abbrev XK:=Wg->Option Addr->Hp->Prop
abbrev St:=List (Option V)
abbrev VK:=V->Hp->Prop
abbrev TE:=St->Hp->VK->Prop
abbrev TT:=St->Hp->(Bool->Hp->Prop)->Prop
abbrev TA:=St->Hp->(List V->Hp->Prop)->Prop
structure Ends where
 nx:St->Hp->Prop
 rt:VK
 bk:St->Hp->Prop:=λ_ _=>False
 ct:St->Hp->Prop:=λ_ _=>False
abbrev TS:=Ends->St->Hp->Prop
def EP (X:Cx)(pins:List (Addr×Obj))(σ:St)(Q:VK)(u:Wg)(s':Wi):Prop:=∃v H',Inv X pins σ H' s'/\RelV v u/\Q v H'
def TP (X:Cx)(pins:List (Addr×Obj))(σ:St)(Q:Bool->Hp->Prop)(b:Bool)(s':Wi):Prop:=∃H',Inv X pins σ H' s'/\Q b H'
def AP (X:Cx)(pins:List (Addr×Obj))(σ:St)(Q:List V->Hp->Prop)(us:List Wg)(s':Wi):Prop:=∃vs H',Inv X pins σ H' s'/\Vals vs us/\Q vs H'
def SP (X:Cx)(pins:List (Addr×Obj))(D:Ends)(f:Flow)(s':Wi):Prop :=
 match f with
 |.next=>∃σ' H',Inv X pins σ' H' s'/\D.nx σ' H'
 |.brk=>∃σ' H',Inv X pins σ' H' s'/\D.bk σ' H'
 |.cont=>∃σ' H',Inv X pins σ' H' s'/\D.ct σ' H'
 |.ret u=>∃v σ' H',Inv X pins σ' H' s'/\RelV v u/\D.rt v H'
def PE (X:Cx)(e:Expr)(t:TE):Prop :=
 ∀(pins:List (Addr×Obj)) (s:Wi) (σ:St) (H:Hp) (Q:VK),Inv X pins σ H s->t σ H Q->WT (model X.prog X.w) X.A (eval e X.env) (EP X pins σ Q) X.xe s
def PT (X:Cx)(e:Expr)(t:TT):Prop :=
 ∀(pins:List (Addr×Obj)) (s:Wi) (σ:St) (H:Hp) (Q:Bool->Hp->Prop),Inv X pins σ H s->t σ H Q->WT (model X.prog X.w) X.A (isTrue e X.env (eval e X.env)) (TP X pins σ Q) X.xe s
def PW (X:Cx)(e:Expr)(t:TT):Prop :=
 ∀(whole:Sem Wg) (pins:List (Addr×Obj)) (s:Wi) (σ:St) (H:Hp) (Q:Bool->Hp->Prop),Inv X pins σ H s->t σ H Q->WT (model X.prog X.w) X.A (isTrue e X.env whole) (TP X pins σ Q) X.xe s
theorem PW.pt {X:Cx}{e:Expr}{t:TT}(h:PW X e t):PT X e t:=h _
def PA (X:Cx)(es:List Expr)(t:TA):Prop :=
 ∀(pos:Pos) (pins:List (Addr×Obj)) (s:Wi) (σ:St) (H:Hp) (Q:List V->Hp->Prop),Inv X pins σ H s->t σ H Q->WT (model X.prog X.w) X.A (spliced (Yd pos (WD es X.env))) (AP X pins σ Q) X.xe s
def PS (X:Cx)(st:Stmt)(t:TS):Prop :=
 ∀(pins:List (Addr×Obj)) (s:Wi) (σ:St) (H:Hp) (D:Ends),Inv X pins σ H s->t D σ H->WT (model X.prog X.w) X.A (exec st X.env) (SP X pins D) X.xe s
def qe (X:Cx)(st:List Stmt)(t:TS):Prop :=
 ∀(pins:List (Addr×Obj)) (s:Wi) (σ:St) (H:Hp) (D:Ends),Inv X pins σ H s->t D σ H->WT (model X.prog X.w) X.A (execs st X.env) (SP X pins D) X.xe s
theorem bx {α:Type}{t:Sem α}{Q Q':α->Wi->Prop}{M:Model}{A:Xg}{E:Wg->Wi->Prop}{s:Wi}(h:WT M A t Q E s)(hQ:∀a s,Q a s->Q' a s):WT M A t Q' E s:=YC h hQ λ_ _ x=>x
section
variable {X:Cx}
def Gk (i:Nat):TE:=λσ H Q=>∃v,σ[i]?=some (some v)/\Q v H
def tC (v:V):TE:=λ_ H Q=>Q v H
theorem zj {i:Nat} {x:Str} {pos:Pos} (hN:X.N[i]?=some x) (hv:J2 X.env.scope x) (hd:(x==("__debug__" : Str))=false:=by decide) (vT:(x==("__classdict__" : Str))=false:=by decide):PE X (.Name x pos) (Gk i):=by
 intro pins s σ H Q I h;obtain⟨v,e,h⟩:=h;obtain⟨m,hn,hl⟩:=I.loc;obtain⟨u,r,l⟩:=hl i x v hN e hv;have fin:EP X pins σ Q u s:=⟨v,H,I,r,h⟩;rcases l with⟨hk,hm⟩|⟨hk,c,hc,nZ⟩
 ·exact wpAny_Name (wpAny_loadName_local I.ok.kind hk hn hm fin) hd
 ·rcases hk with hk|hk
  ·exact wpAny_Name (wpAny_loadName_cell I.ok.kind hk hc nZ fin) hd
  ·exact wpAny_Name (wpAny_loadName_free I.ok.kind hk hc nZ fin vT) hd
theorem ph {i j pos}:PE X (.Constant (.int i) j pos) (tC (.int i)):=λ_ _ _ H _ I h=>wpAny_Constant_int ⟨.int i,H,I.tok _,⟨_,rfl⟩,h⟩
theorem E8 {b j pos}:PE X (.Constant (.bool b) j pos) (tC (.bl b)):=λ_ _ _ H _ I h=>Constant_bool ⟨.bl b,H,I,rfl,h⟩
theorem GX {j pos}:PE X (.Constant .none j pos) (tC .bE):=λ_ _ _ H _ I h=>Constant_none ⟨.bE,H,I,rfl,h⟩
theorem zm {x j pos}:PE X (.Constant (.str x) j pos) (tC (.str x)):=λ_ _ _ H _ I h=>Calls.Constant_str ⟨.str x,H,I.tok _,⟨_,rfl⟩,h⟩
def Gl (X:Cx)(x:Str):Prop:=X.env.kindOf x=some .globalImplicit
theorem gQ {E:Wg->Wi->Prop}{pins:List (Addr×Obj)}{s:Wi}{σ:St}{H:Hp}{x:Str}{u:Wg}{pos:Pos}{Q:Wg->Wi->Prop}(I:Inv X pins σ H s)(hg:Gl X x)(hm:X.mg x=some u)(h:Q u s)
  (hd:(x==("__debug__" : Str))=false:=by decide):WT (model X.prog X.w) X.A (eval (.Name x pos) X.env) Q E s :=
 Calls.Name_function_global I.ok.kind hg (Calls.loadGlobal_global (by rw[I.ok.glob];exact I.mod.glob.keeps I.bk) hm h) hd
theorem jL {E:Wg->Wi->Prop}{pins:List (Addr×Obj)}{s:Wi}{σ:St}{H:Hp}{x:Str}{u:Wg}{pos:Pos}{Q:Wg->Wi->Prop}(I:Inv X pins σ H s)(hg:Gl X x)(hm:X.mg x=none)(hv:Xp x=some u)(h:Q u s)
  (hn:x≠"__name__" := by decide) (hd:(x==("__debug__" : Str))=false:=by decide):WT (model X.prog X.w) X.A (eval (.Name x pos) X.env) Q E s:=by
 obtain⟨mb,h1,h2⟩:=I.mod.blt;exact Calls.Name_function_global I.ok.kind hg (Calls.loadGlobal_builtin (by rw[I.ok.glob];exact I.mod.glob.keeps I.bk) hm (by rw[I.ok.blt];exact h1.keeps I.bk) ((h2 x hn).trans hv) h) hd
theorem pj {x:Str} {v:V} {u:Wg} {pos:Pos} (hg:Gl X x) (hm:X.mg x=some u) (r:RelV v u) (hd:(x==("__debug__" : Str))=false:=by decide):PE X (.Name x pos) (tC v) :=
 λ_ _ _ H _ I h=>gQ I hg hm ⟨v,H,I,r,h⟩ hd
theorem C1 {x:Str} {v:V} {u:Wg} {pos:Pos} (hg:Gl X x) (hm:X.mg x=none) (hv:Xp x=some u) (r:RelV v u) (hn:x≠"__name__" := by decide) (hd:(x==("__debug__" : Str))=false:=by decide):PE X (.Name x pos) (tC v) :=
 λ_ _ _ H _ I h=>jL I hg hm hv ⟨v,H,I,r,h⟩ hn hd
variable {a b:Expr}{ta tb:TE}{pos:Pos}
theorem q8 (b:Expr){op:Zt}(h:op≠.In)(h2:op≠.NotIn):Zq op b=false:=by
 have e1:(op==CmpOp.In)=false:=by cases op <;> first|rfl|exact absurd rfl h
 have e2:(op==CmpOp.NotIn)=false:=by cases op <;> first|rfl|exact absurd rfl h2
 cases b <;> simp[Zq,e1,e2]
def tB (t:TE):TT:=λσ H Q=>t σ H λx H1=>∃c,x=.bl c/\Q c H1
theorem GK {e:Expr}{t:TE}(h:PE X e t)(he:∀whole,isTrue e X.env whole=(do let v <- whole;standAt e.pos;holding [v] (truthy v)):=by intro _;rfl):PT X e (tB t):=by
 intro pins s σ H Q I hw;refine isTrue_plain (bx (h pins s σ H _ I hw) λv s1 Uz=>?_) (he _);obtain⟨x,H1,I1,r1,q1⟩:=Uz;obtain⟨d,rfl,q⟩:=q1;cases r1;exact X2 ⟨H1,I1,q⟩
variable {tA MW:TT}{rest:List Expr}
def N4 (t u:TT):TT:=λσ H Q=>t σ H λc H1=>if c=true then u σ H1 Q else Q false H1
def TF (t u:TT):TT:=λσ H Q=>t σ H λc H1=>if c=true then Q true H1 else u σ H1 Q
def NW (t:TT):TT:=λσ H Q=>t σ H λc H1=>Q (!c) H1
theorem pw_and1 (ha:PT X a tA):PW X (.BoolOp .And [a] pos) tA:=by
 intro wh pins s σ H Q I h;refine isTrue_and (bx (ha pins s σ H Q I h) λc s1 e=>?_);cases c with
 |true=>exact isTrue_and_nil e
 |false=>exact e
theorem pw_or1 (ha:PT X a tA):PW X (.BoolOp .Or [a] pos) tA:=by
 intro wh pins s σ H Q I h;refine isTrue_or (bx (ha pins s σ H Q I h) λc s1 e=>?_);cases c with
 |false=>exact isTrue_or_nil e
 |true=>exact e
theorem pw_and (ha:PT X a tA)(hb:PW X (.BoolOp .And (b::rest) pos) MW):PW X (.BoolOp .And (a::b::rest) pos) (N4 tA MW):=by
 intro wh pins s σ H Q I h;refine isTrue_and (bx (ha pins s σ H _ I h) λc s1 Uy=>?_);obtain⟨H1,I1,q1⟩:=Uy;cases c with
 |true=>exact hb wh pins s1 σ H1 Q I1 q1
 |false=>exact⟨H1,I1,q1⟩
theorem pw_or (ha:PT X a tA)(hb:PW X (.BoolOp .Or (b::rest) pos) MW):PW X (.BoolOp .Or (a::b::rest) pos) (TF tA MW):=by
 intro wh pins s σ H Q I h;refine isTrue_or (bx (ha pins s σ H _ I h) λc s1 Ux=>?_);obtain⟨H1,I1,q1⟩:=Ux;cases c with
 |true=>exact⟨H1,I1,q1⟩
 |false=>exact hb wh pins s1 σ H1 Q I1 q1
theorem GL (ha:PT X a tA):PT X (.UnaryOp .Not a pos) (NW tA):=by
 intro pins s σ H Q I h;exact isTrue_not (ha pins s σ H (λc H1=>Q (!c) H1) I h)
def NV (ta tb:TE):TE:=λσ H Q=>ta σ H λx H1=>∃c,x=.bl c/\if c=true then Q (.bl true) H1 else tb σ H1 Q
def Kh (ta:TE):TE:=λσ H Q=>ta σ H λx H1=>∃c,x=.bl c/\Q (.bl (!c)) H1
theorem GV {op}{t:TE}(h:PE X a t):PE X (.BoolOp op [a] pos) t:=λpins s σ H Q I hw=>BoolOp_one (h pins s σ H Q I hw)
theorem K0 (ha:PE X a ta)(hb:PE X (.BoolOp .Or (b::rest) pos) tb):PE X (.BoolOp .Or (a::b::rest) pos) (NV ta tb):=by
 intro pins s σ H Q I h;refine BoolOp_or (bx (ha pins s σ H _ I h) λv s1 Pm=>?_);obtain⟨x,H1,I1,r1,q1⟩:=Pm;obtain⟨c,rfl,q1⟩:=q1;cases r1;refine X2 ?_;cases c with
 |false=>exact hb pins s1 σ H1 Q I1 q1
 |true=>exact⟨.bl true,H1,I1,rfl,q1⟩
theorem GW (ha:PE X a ta):PE X (.UnaryOp .Not a pos) (Kh ta):=by
 intro pins s σ H Q I h;refine UnaryOp_ (bx (ha pins s σ H _ I h) λv s1 Pl=>?_);obtain⟨x,H1,I1,r1,q1⟩:=Pl;obtain⟨c,rfl,q1⟩:=q1;cases r1;exact not_of (X2 ⟨.bl (!c),H1,I1,rfl,q1⟩)
def TH (t:TT)(ta tb:TE):TE:=λσ H Q=>t σ H λc H1=>if c=true then ta σ H1 Q else tb σ H1 Q
theorem zt {c:Expr}(hc:PT X c tA)(ha:PE X a ta)(hb:PE X b tb):PE X (.IfExp c a b pos) (TH tA ta tb):=by
 intro pins s σ H Q I h;refine wpAny_IfExp (bx (hc pins s σ H _ I h) λd s1 Pk=>?_);obtain⟨H1,I1,q1⟩:=Pk;cases d with
 |true=>exact ha pins s1 σ H1 Q I1 q1
 |false=>exact hb pins s1 σ H1 Q I1 q1
end
def eC (K:PySem.W.Frag)(H:Hp)(a:Addr)(xs:List V):Prop :=
 Rd H a (.lst xs) \/
  ∃(o:Obj) (its:Array Wg) (n:Nat),K.lookup a=some o/\o.cls=.type "list" /\ o.dict=none/\o.data=.seq its n/\its.size<=WA/\Vals xs its.toList
def tE (K:PySem.W.Frag)(H:Hp)(a:Addr)(xs:List V):Prop :=
 Rd H a (.tup xs) \/
  ∃(o:Obj) (its:Array Wg) (n:Nat),K.lookup a=some o/\o.cls=.type "tuple" /\ o.data=.seq its n/\its.size<=WA/\Vals xs its.toList
noncomputable def Rr:Wg->Option V
 |.none=>some .bE
 |.bool b=>some (.bl b)
 |.int i _=>some (.int i)
 |.str x _=>some (.str x)
 |.bytes b _=>some (.MF b)
 |.float b _=>some (.Q9 b)
 |.ref a=>some (.ref a)
 |.type n=>some (.ty n)
 |_=>none
theorem RelV.abs {x:V}{u:Wg}(r:RelV x u):Rr u=some x:=by
 cases x with
 |bE=>cases r;rfl
 |bl _=>cases r;rfl
 |int _=>obtain⟨t,rfl⟩:=r;rfl
 |str _=>obtain⟨t,rfl⟩:=r;rfl
 |MF _=>obtain⟨t,rfl⟩:=r;rfl
 |Q9 _=>obtain⟨t,rfl⟩:=r;rfl
 |ref _=>cases r;rfl
 |ty _=>cases r;rfl
theorem RelV.inj {x y:V}{u:Wg}(r:RelV x u)(q:RelV y u):x=y:=WR (r.abs.symm.trans q.abs)
theorem Vals.inj:∀{xs ys:List V} {us:List Wg},Vals xs us->Vals ys us->xs=ys:=by
 intro xs ys us h
 induction h generalizing ys with
 |nil =>
  intro q;cases q;rfl
 |cons r t ih =>
  intro q;cases q with
  |cons r' t'=>rw[r.inj r',ih t']
section
variable {X:Cx}{pins:List (Addr×Obj)}{σ:St}{H:Hp}{s:Wi}{a:Addr}{xs ys:List V}
theorem eC.of {K:PySem.W.Frag}(h:H a=some (.lst xs)):eC K H a xs:=.inl (.inl h)
theorem tE.of {K:PySem.W.Frag}(h:H a=some (.tup xs)):tE K H a xs:=.inl (.inl h)
theorem Inv.list (I:Inv X pins σ H s)(h:eC X.K H a xs):∃its:List Wg,Vals xs its/\PlainL s.heap a its.toArray/\xs.length<=WA:=by
 rcases h with h|⟨o,its,n,hk,hc,hd,hs,hz,r⟩
 ·obtain⟨z,its,n,r,e⟩:=h.ok I.bq;exact⟨its,r,⟨_,n,e,rfl,rfl,rfl⟩,z⟩
 ·refine⟨its.toList,r,⟨o,n,I.xo a o hk,hc,hd,by simpa using hs⟩,?_⟩
  have e:=r.length;simp only[Wr]at e;lia
theorem Inv.tuple (I:Inv X pins σ H s)(h:tE X.K H a xs):∃its:List Wg,Vals xs its/\IsTup s.heap a its.toArray/\xs.length<=WA:=by
 rcases h with h|⟨o,its,n,hk,hc,hs,hz,r⟩
 ·obtain⟨z,its,r,p⟩:=h.ok I.bq;exact⟨its,r,p,z⟩
 ·refine⟨its.toList,r,⟨o,I.xo a o hk,hc,n,by simpa using hs⟩,?_⟩
  have e:=r.length;simp only[Wr]at e;lia
theorem Inv.zZ (I:Inv X pins σ H s)(h:eC X.K H a xs)(h':eC X.K H a ys):xs=ys:=by
 obtain⟨its,r,⟨o,n,e,_,_,d⟩,_⟩:=I.list h;obtain⟨its',r',⟨o',n',e',_,_,d'⟩,_⟩:=I.list h';rw[e]at e';cases e';rw[d]at d';injection d' with d1 _
 have:its=its':=by simpa using congrArg Array.toList d1
 subst this;exact r.inj r'
end
noncomputable abbrev Cx.iK (X:Cx)(E:Wg->Wi->Prop):Cx:={X with xe:=E}
abbrev Cx.mS (X:Cx):Cx:=X.iK λ_ _=>False
theorem Cx.Ok.iK {X:Cx}(ok:X.Ok)(E:Wg->Wi->Prop):(X.iK E).Ok :=
 ⟨ok.mod,ok.kind,ok.glob,ok.blt,ok.above,ok.inj,ok.has,ok.EE,ok.hd,ok.frames,ok.E4,ok.FG,ok.bs,ok.xU,ok.pF,ok.pP,ok.gX,ok.AM⟩
theorem Cx.Ok.cV {X:Cx}{E:Wg->Wi->Prop}(ok:(X.iK E).Ok):X.Ok :=
 ⟨ok.mod,ok.kind,ok.glob,ok.blt,ok.above,ok.inj,ok.has,ok.EE,ok.hd,ok.frames,ok.E4,ok.FG,ok.bs,ok.xU,ok.pF,ok.pP,ok.gX,ok.AM⟩
section
variable {X:Cx}{pins:List (Addr×Obj)}{σ:St}{H:Hp}{s:Wi}{E:Wg->Wi->Prop}
theorem Inv.iK (I:Inv X pins σ H s)(E:Wg->Wi->Prop):Inv (X.iK E) pins σ H s:=⟨I.ok.iK E,I.os,I.bare,I.base,I.loc,I.cell,I.free,I.cR,I.pin,I.bq,I.len⟩
theorem Inv.cV (I:Inv (X.iK E) pins σ H s):Inv X pins σ H s:=⟨I.ok.cV,I.os,I.bare,I.base,I.loc,I.cell,I.free,I.cR,I.pin,I.bq,I.len⟩
theorem SP.cV {D:Ends}{f:Flow}{s':Wi}(h:SP (X.iK E) pins D f s'):SP X pins D f s':=by
 cases f with
 |next=>obtain⟨σ',H',I,q⟩:=h;exact⟨σ',H',I.cV,q⟩
 |brk=>obtain⟨σ',H',I,q⟩:=h;exact⟨σ',H',I.cV,q⟩
 |cont=>obtain⟨σ',H',I,q⟩:=h;exact⟨σ',H',I.cV,q⟩
 |ret u=>obtain⟨v,σ',H',I,r,q⟩:=h;exact⟨v,σ',H',I.cV,r,q⟩
theorem PT.mS {e:Expr}{t:TT}(h:PT X.mS e t):PT X e t:=λpins s σ H Q I hw =>
 YC (h pins s σ H Q (I.iK _) hw) (λ_ _ ux=>by obtain⟨H',I',q⟩:=ux;exact⟨H',I'.cV,q⟩) λ_ _ z=>XI z
theorem qe.mS {st:List Stmt}{t:TS}(h:qe X.mS st t):qe X st t:=λpins s σ H D I hw =>
 YC (h pins s σ H D (I.iK _) hw) (λ_ _ q=>q.cV) λ_ _ z=>XI z
end
section
variable {X:Cx}{st:Stmt}{rest:List Stmt}{t u:TS}{e:Expr}{te:TE}{pos:Pos}
def Ki:TS:=λD σ H=>D.nx σ H
def NT (t u:TS):TS:=λD σ H=>t {D with nx:=u D} σ H
theorem CP:qe X [] Ki:=λ_ _ σ H _ I h=>Y7 ⟨σ,H,I,h⟩
theorem lJ (h1:PS X st t)(h2:qe X rest u):qe X (st::rest) (NT t u):=by
 intro pins s σ H D I h;refine wpAny_execs_cons (bx (h1 pins s σ H {D with nx:=u D} I h) λf s1 q=>?_)
 cases f with
 |next =>
  obtain⟨σ',H',I',q⟩:=q;exact h2 pins s1 σ' H' D I' q
 |ret v=>exact q
 |brk=>exact q
 |cont=>exact q
theorem o8 (h1:PS X st t):qe X [st] t:=by
 intro pins s σ H D I h;refine wpAny_execs_cons (bx (h1 pins s σ H D I h) λf s1 q=>?_);cases f with
 |next=>exact Y7 q
 |ret v=>exact q
 |brk=>exact q
 |cont=>exact q
theorem Inv.quiet {pins:List (Addr×Obj)}{σ:St}{H:Hp}{s:Wi}(I:Inv X pins σ H s):interactive X.env=false:=by simp[interactive,I.ok.kind]
def Kj (te:TE):TS:=λD σ H=>te σ H λ_ H1=>D.nx σ H1
theorem CQ (he:PE X e te)(hs:ZC e none pos.line X.env=pure false:=by rfl):PS X (.Expr e pos) (Kj te):=by
 intro pins s σ H D I h;exact wpAny_Expr_any (bx (he pins s σ H _ I h) λv s1 Ar=>by obtain⟨x,H1,I1,r1,q1⟩:=Ar;exact⟨σ,H1,I1,q1⟩) I.quiet hs
def NU (te:TE):TS:=λD σ H=>te σ H D.rt
theorem t9 (he:PE X e te):PS X (.Return (some e) pos) (NU te):=by
 intro pins s σ H D I h;exact wpAny_Return_some (bx (he pins s σ H _ I h) λv s1 Aq=>by obtain⟨x,H1,I1,r1,q1⟩:=Aq;exact⟨x,σ,H1,I1,r1,q1⟩)
def NZ (c:TT)(t u:TS):TS:=λD σ H=>c σ H λb H1=>if b=true then t D σ H1 else u D σ H1
theorem KR {c:Expr}{a b:List Stmt}{tc:TT}(hc:PT X c tc)(ha:qe X a t)(hb:qe X b u):PS X (.If c a b pos) (NZ tc t u):=by
 intro pins s σ H D I h;refine wpAny_If (bx (hc pins s σ H _ I h) λd s1 Pj=>?_);obtain⟨H1,I1,q1⟩:=Pj;cases d with
 |true=>exact ha pins s1 σ H1 D I1 q1
 |false=>exact hb pins s1 σ H1 D I1 q1
end
abbrev TG:=V->St->Hp->(St->Hp->Prop)->Prop
abbrev FV:=List V->St->Hp->(St->Hp->Prop)->Prop
def PG (X:Cx)(target:Expr)(t:TG):Prop :=
 ∀(pins:List (Addr×Obj)) (s:Wi) (σ:St) (H:Hp) (v:V) (u:Wg) (Q:St->Hp->Prop),Inv X pins σ H s->RelV v u->t v σ H Q ->
  WT (model X.prog X.w) X.A (assign target X.env u) (λ_ s'=>∃σ' H',Inv X pins σ' H' s'/\Q σ' H') X.xe s
def FY (X:Cx)(ts:List Expr)(t:FV):Prop :=
 ∀(pins:List (Addr×Obj)) (s:Wi) (σ:St) (H:Hp) (vs:List V) (us:List Wg) (Q:St->Hp->Prop),Inv X pins σ H s->Vals vs us->t vs σ H Q ->
  WT (model X.prog X.w) X.A (assignInOrder ((X4 ts X.env).map (·.2)) us) (λ_ s'=>∃σ' H',Inv X pins σ' H' s'/\Q σ' H') X.xe s
abbrev Jy:=V->V->V->Hp->(Hp->Prop)->Prop
def MN (X:Cx)(t:Jy):Prop :=
 ∀(pins:List (Addr×Obj)) (s:Wi) (σ:St) (H:Hp) (o i v:V) (ov iv u:Wg) (Q:Hp->Prop),Inv X pins σ H s->RelV o ov->RelV i iv->RelV v u->t o i v H Q ->
  WT (model X.prog X.w) X.A (setItem ov iv u) (λ_ s'=>∃H',Inv X pins σ H' s'/\Q H') X.xe s
section
variable {X:Cx}{pos:Pos}
def FC (i:Nat):TG:=λv σ H Q=>Q (σ.set i (some v)) H
theorem o_ {i:Nat}{x:Str}(hN:X.N.Nodup)(hi:X.N[i]?=some x)(hx:Loc X.env.scope x)(hf:X.fn x=true\/X.env.scope.names.lookup x=some .local:=by first|exact .inl rfl|exact .inr rfl|assumption):PG X (.Name x pos) (FC i):=by
 intro pins s σ H v u Q I r h;exact wpAny_assign_Name (ly I hN hi hx r (λs' I'=>⟨_,H,I',h⟩) hf)
def IX:FV:=λvs σ H Q=>vs=[]/\Q σ H
def AJ (t:TG)(u:FV):FV:=λvs σ H Q=>∃v r,vs=v::r/\t v σ H λσ' H'=>u r σ' H' Q
theorem CY:FY X [] IX:=by
 intro pins s σ H vs us Q I r h;obtain⟨e,h⟩:=h;subst e;cases r;exact assignInOrder_nil ⟨σ,H,I,h⟩
theorem zh {e:Expr}{es:List Expr}{t:TG}{u:FV}(h1:PG X e t)(h2:FY X es u)
  (hs:(X4 (e::es) X.env).map (·.2)=assign e X.env::(X4 es X.env).map (·.2):=by rfl):FY X (e::es) (AJ t u):=by
 intro pins s σ H vs us Q I r h;obtain⟨v,vr,e1,h⟩:=h;subst e1;cases r with
 |cons r rr =>
  rw[hs];refine assignInOrder_cons (bx (h1 pins s σ H _ _ _ I r h) λ_ s1 Ph=>?_);obtain⟨σ1,H1,I1,q1⟩:=Ph;exact h2 pins s1 σ1 H1 _ _ Q I1 rr q1
def Q4 (K:PySem.W.Frag)(n:Nat)(t:FV):TG:=λv σ H Q=>∃a xs,v=.ref a/\tE K H a xs/\xs.length=n/\t xs σ H Q
theorem GS {es:List Expr}{k:Nat}{t:FV}{n:Nat}(hc:X.calm=true)(h:FY X es t)
  (hn:(X4 es X.env).length=n:=by rfl) (mV:(X4 es X.env).findIdx? (·.1)=none:=by rfl):PG X (.Tuple es k pos) (Q4 X.K n t):=by
 intro pins s σ H v u Q I r hw;obtain⟨a,xs,e1,hq,hl,hw⟩:=hw;subst e1;cases r;obtain⟨its,rv,ht,hz⟩:=I.tuple hq;refine assign_Tuple_tuple (I.ok.hd hc) ht (by simp[hn,<- hl,rv.length]) mV λh' hx=>?_
 have I1:Inv X pins σ H {s with heap:=h'}:=I.kept (t':=s.toks) λb o e=>hx b o (WZ (WB e)) e
 exact h pins _ σ H xs _ Q I1 (by simpa using rv) hw
def Q5 (to ti:TE)(t:Jy):TG:=λv σ H Q=>to σ H λo H1=>ti σ H1 λi H2=>t o i v H2 λH3=>Q σ H3
theorem GU {o i:Expr}{to ti:TE}{t:Jy}(ho:PE X o to)(hi:PE X i ti)(hs:MN X t)
  (ha:∀v,assign (.Subscript o i pos) X.env v=(do
   let ov <- holding [v] (eval o X.env)
   let iv <- holding [v,ov] (eval i X.env)
   standAt pos
   holding [v,ov,iv] (setItem ov iv v)
   release [v,ov,iv] []):=by intro _;rfl):PG X (.Subscript o i pos) (Q5 to ti t):=by
 intro pins s σ H v u Q I r h;rw[ha];refine Wh (Xv (bx (ho pins s σ H _ I h) λov s1 Pg=>?_));obtain⟨x,H1,I1,r1,q1⟩:=Pg;refine Wh (Xv (bx (hi pins s1 σ H1 _ I1 q1) λiv s2 Pf=>?_));obtain⟨y,H2,I2,r2,q2⟩:=Pf;refine Wh (YJ (Wh (Xv (bx (hs pins s2 σ H2 x y v ov iv u _ I2 r1 r2 r q2) λ_ s3 Pe=>?_))));obtain⟨H3,I3,q3⟩:=Pe;exact wpAny_release ⟨σ,H3,I3,q3⟩
def Kl (te:TE)(g:TG):TS:=λD σ H=>te σ H λx H1=>g x σ H1 D.nx
theorem t_ {tg e:Expr}{te:TE}{g:TG}(he:PE X e te)(hg:PG X tg g)(hs:swapsWithSole [tg] e pos.line X.env=pure false:=by rfl)(hw:swappedStores [tg] e X.env=pure none:=by rfl)
  (h1:(X4 [tg] X.env).map (·.2)=[assign tg X.env]:=by rfl):PS X (.Assign [tg] e pos) (Kl te g):=by
 intro pins s σ H D I h;refine wpAny_Assign_stores (bx (he pins s σ H _ I h) λv s1 Pd=>?_) hs hw;obtain⟨x,H1,I1,r1,q1⟩:=Pd;rw[h1];exact bx (hg pins s1 σ H1 x v _ I1 r1 q1) λ_ s2 q=>q
theorem t8 {i:Nat}{x:Str}{e:Expr}{te:TE}{pos':Pos}(hN:X.N.Nodup)(hi:X.N[i]?=some x)(hx:Loc X.env.scope x)(he:PE X e te)(hs:ZC e (some (.Name x pos')) pos.line X.env=pure false:=by rfl)(hf:X.fn x=true\/X.env.scope.names.lookup x=some .local:=by first|exact .inl rfl|exact .inr rfl|assumption):
  PS X (.Assign [.Name x pos'] e pos) (Kl te (FC i)):=by
 intro pins s σ H D I h;refine wpAny_Assign_Name (bx (he pins s σ H _ I h) λv s1 Pc=>?_) hs;obtain⟨y,H1,I1,r1,q1⟩:=Pc;exact ly I1 hN hi hx r1 (λs2 I2=>⟨_,H1,I2,q1⟩) hf
end
section
variable {X:Cx}{pos:Pos}
def Gj (c:TT)(tb:TS):TS:=λD σ H=>∃W:Nat->St->Hp->Prop,(∃m,W m σ H)/\∀m σ H,W m σ H ->
 c σ H λb H1=>if b=true then ∃N:St->Hp->Prop,(∀σ' H',N σ' H'->∃m',m'<m/\W m' σ' H')/\tb {D with nx:=N,ct:=N,bk:=D.nx} σ H1 else D.nx σ H1
theorem yW {c:Expr}{body:List Stmt}{tc:TT}{tb:TS}(hp:PassesOwn (model X.prog X.w) X.A X.env X.xe)(hc:PT X c tc)(hb:qe X body tb):PS X (.While c body [] pos) (Gj tc tb):=by
 intro pins s σ H D I h;obtain⟨W,⟨m0,w0⟩,turn⟩:=h;refine wpAny_While (codeAny_whileLoop (λn s'=>∃σ' H',Inv X pins σ' H' s'/\W n σ' H') ?_ m0 ⟨σ,H,I,w0⟩);rintro n s1 ⟨σ1,H1,I1,w1⟩;refine YH hp (bx (hc pins s1 σ1 H1 _ I1 (turn n σ1 H1 w1)) λb s2 Pa=>?_);obtain⟨H2,I2,q2⟩:=Pa;cases b with
 |true =>
  obtain⟨N,hN,q2⟩:=q2;rw[if_pos rfl];refine YH hp (bx (hb pins s2 σ1 H2 _ I2 q2) λf s3 q3=>?_);cases f with
  |next =>
   obtain⟨σ3,H3,I3,n3⟩:=q3;obtain⟨m',hm,w3⟩:=hN σ3 H3 n3;exact⟨m',hm,σ3,H3,I3,w3⟩
  |cont =>
   obtain⟨σ3,H3,I3,n3⟩:=q3;obtain⟨m',hm,w3⟩:=hN σ3 H3 n3;exact⟨m',hm,σ3,H3,I3,w3⟩
  |brk=>exact q3
  |ret v=>exact q3
 |false =>
  rw[if_neg XY];exact Y7 ⟨σ1,H2,I2,q2⟩
end
structure It where
 go:Nat->Hp->Prop
 J6:Nat->Hp->V->Hp->Prop
 stop:Nat->Hp->Prop
def gz (X:Cx)(pins:List (Addr×Obj))(H:Hp)(b:Addr):Prop :=
 H b=none/\b≠X.env.locals/\b∉X.fs/\(b∈X.ex\/X.s₀.heap.objs.size<=b)/\(∀x c,X.env.cells.lookup x=some c->c≠b)/\∀p∈X.pn++pins,p.1≠b
theorem Inv.AO {X:Cx}{pins:List (Addr×Obj)}{σ:St}{H H':Hp}{s:Wi}{b:Addr}(I:Inv X pins σ H s)(hb:s.heap.objs.size<=b)(hn:H' b=none):gz X pins H' b:=by
 refine⟨hn,Nat.ne_of_gt (WU I.lt hb),I.OG hb,.inr (W8 I.sz hb),λx c e z=>?_,λp hp z=>?_⟩
 ·obtain⟨v,q⟩:=I.cell x c e;exact absurd (WU q.lt (by rw[z];exact hb)) (Yw _)
 ·exact absurd (WU (WB (I.pin p hp).1) (by rw[z];exact hb)) (Yw _)
structure Turn (P:Wq)(w:WC)(K:PySem.W.Frag)(tg:Expr)(J:It)(fp:List Addr)(it:Addr)(tn:Nat->Heap->Prop):Prop where
 mem:it∈fp
 obj:∀i h,tn i h->∀b∈fp,∃o,h.get? b=some o/\∀v,o.data≠.cell v
 keep:∀i h h',tn i h->(∀b∈fp,∀o,h.get? b=some o->h'.get? b=some o)->tn i h'
 item:∀(X:Cx),X.prog=P->X.w=w->X.K=K->X.calm=true->∀(i:Nat) (pins:List (Addr×Obj)) (s:Wi) (σ:St) (H:Hp) (E:Wg->Wi->Prop),Inv X pins σ H s->(∀b∈fp,gz X pins H b)->tn i s.heap->J.go i H ->
  WT (model P w) X.A (pyNext (.ref it)) (λr s1=>∃u,r=some u /\
   WT (model P w) X.A (letOwnedTupleGo tg (.ref it) u) (λ_ s2=>∃x H',Inv X pins σ H' s2/\RelV x u/\J.J6 i H x H'/\tn (i+1) s2.heap/\∀b∈fp,H' b=none) E s1) E s
 done:∀(X:Cx),X.prog=P->X.w=w->X.K=K->X.calm=true->∀(i:Nat) (pins:List (Addr×Obj)) (s:Wi) (σ:St) (H:Hp) (E:Wg->Wi->Prop),Inv X pins σ H s->(∀b∈fp,gz X pins H b)->tn i s.heap->J.stop i H ->
  WT (model P w) X.A (pyNext (.ref it)) (λr s1=>r=none/\Inv X pins σ H s1) E s
 self:∀(A:Xg) (i:Nat) (s:Wi) (Q:Wg->Wi->Prop) (E:Wg->Wi->Prop),tn i s.heap->Q (.ref it) s->WT (model P w) A (pyIter (.ref it)) Q E s
abbrev TI:=St->Hp->(It->Hp->Prop)->Prop
def Rv (X:Cx)(pins:List (Addr×Obj))(σ:St)(tg:Expr)(R:It->Hp->Prop)(HV:Wg)(s2:Wi):Prop :=
 ∃(it:Addr) (fp:List Addr) (tn:Nat->Heap->Prop) (J:It) (H':Hp),HV=.ref it/\Inv X pins σ H' s2/\Turn X.prog X.w X.K tg J fp it tn/\tn 0 s2.heap/\(∀b∈fp,gz X pins H' b)/\R J H'
def PI (X:Cx)(tg iter:Expr)(wi:TI):Prop :=
 ∀(pins:List (Addr×Obj)) (s:Wi) (σ:St) (H:Hp) (R:It->Hp->Prop),Inv X pins σ H s->wi σ H R ->
  WT (model X.prog X.w) X.A (eval iter X.env) (λv s1=>WT (model X.prog X.w) X.A (pyIter v) (Rv X pins σ tg R) X.xe s1) X.xe s
theorem AG {M:Model}{A:Xg}{E:Wg->Wi->Prop}{s:Wi}{tg:Expr}{it:Addr}{u:Wg}{o:Obj}{n:String}{vs:Array Wg}{Q:Unit->Wi->Prop}(ho:s.heap.get? it=some o)(hc:o.cls=.type n)(hd:o.data=.fields vs)
  (hn:["enumerate","zip","dict_itemiterator","dict_reverseitemiterator","odict_iterator","itertools.zip_longest","itertools.pairwise"].contains n=false) (hQ:Q () s):WT M A (letOwnedTupleGo tg (.ref it) u) Q E s:=by
 unfold letOwnedTupleGo;cases tg <;> first
  |exact Wu hQ
  | (cases u <;> first
    |exact Wu hQ
    | (refine Wh (wpAny_load ho ?_)
       rw[hc,hd];show WT M A (if (["enumerate","zip","dict_itemiterator","dict_reverseitemiterator","odict_iterator","itertools.zip_longest","itertools.pairwise"].contains n&&vs[0]?==some (rawInt _))=true then _ else _) Q E s
       rw[if_neg (by intro h;rw[hn,Bool.false_and]at h;cases h)]
       exact Wu hQ))
def Nw (K:PySem.W.Frag)(a:Addr):It :=
 ⟨λi H=>∃xs x,eC K H a xs/\xs[i]?=some x,λi H x H'=>H'=H/\∀xs,eC K H a xs->xs[i]?=some x,λi H=>∃xs,eC K H a xs/\xs.length<=i⟩
def MR (lo:Int)(n:Nat):It:=⟨λi _=>i<n,λi H x H'=>H'=H/\x=.int (lo+i),λi _=>n<=i⟩
theorem wD {P:Wq}{w:WC}{K:PySem.W.Frag}{tg:Expr}(a it:Addr):Turn P w K tg (Nw K a) [it] it (λi h=>h.IsListIter it a i) where
 mem:=by simp
 obj:=λi h st b hb=>by
  have e:b=it:=by simpa using hb
  subst e;obtain⟨o,e,c,d⟩:=st;exact⟨o,e,λv z=>by rw[d]at z;cases z⟩
 keep:=λi h h' st k=>st.at λo e=>k it (by simp) o e
 item:=by
  intro X hP hw hK hc i pins s σ H E I hf st hg;subst hP hw hK;obtain⟨xs,x,hq,hx⟩:=hg;obtain⟨its,rv,p,hz⟩:=I.list hq;obtain⟨u,hu,ru⟩:=rv.get hx;obtain⟨f0,f1,f2,f3,f4,f5⟩:=hf it (by simp)
  refine wpAny_pyNext_list_item st p.isList (x:=u) (by simpa using hu) λh' aF sb=>?_
  have I1:Inv X pins σ H {s with heap:=h'}:=I.turned (t':=s.toks) (λb o hb e=>(sb.2 b hb).trans e) f0 f1 f3 f4 f5
  obtain⟨o,e,c,d⟩:=id aF;exact⟨u,rfl,AG (s:={s with heap:=h'}) e c d (by decide) ⟨x,H,I1,ru,⟨rfl,λys hy=>by rw[I.zZ hy hq];exact hx⟩,aF,λb hb=>(hf b hb).1⟩⟩
 done:=by
  intro X hP hw hK hc i pins s σ H E I hf st hg;subst hP hw hK;obtain⟨xs,hq,hx⟩:=hg;obtain⟨its,rv,p,hz⟩:=I.list hq;obtain⟨f0,f1,f2,f3,f4,f5⟩:=hf it (by simp)
  have hl:=rv.length;exact wpAny_pyNext_list_end (I.ok.hd hc) st p.isList (by simp;lia) λh' eb=>⟨rfl,I.turned (t':=s.toks) (λb o hb e=>eb b o hb e) f0 f1 f3 f4 f5⟩
 self:=λ_ _ _ _ _ st h=>wpAny_pyIter_listiter st h
theorem tN {P:Wq}{w:WC}{K:PySem.W.Frag}{tg:Expr}(it:Addr)(lo:Int)(n:Nat):Turn P w K tg (MR lo n) [it] it (λi h=>IsRangeIter h it (lo+(i:Nat)*1) ((n:Int)-(i:Nat)) 1) where
 mem:=by simp
 obj:=λi h st b hb=>by
  have e:b=it:=by simpa using hb
  subst e;exact⟨_,st,λv z=>by
   have z':Data.fields _=Data.cell v:=z;cases z'⟩
 keep:=λi h h' st k=>k it (by simp) _ st
 item:=by
  intro X hP hw hK hc i pins s σ H E I hf st hg;subst hP hw hK;obtain⟨f0,f1,f2,f3,f4,f5⟩:=hf it (by simp)
  have W:=Walks.range (prog:=X.prog) (w:=X.w) (I.ok.hd hc) it lo 1 n;refine W.item i s _ _ hg st λv h' tk hv aF kk=>?_;obtain⟨t,rfl⟩:=hv;have I1:Inv X pins σ H {s with heap:=h',toks:=tk}:=I.turned (λb o hb e=>kk b o (by simpa using hb) e) f0 f1 f3 f4 f5
  refine⟨_,rfl,AG (s:={s with heap:=h',toks:=tk}) (n:="range_iterator") aF rfl rfl (by decide) ⟨.int (lo+i),H,I1,⟨t,?_⟩,⟨rfl,rfl⟩,aF,λb hb=>(hf b hb).1⟩⟩
  rw[Int.mul_one]
 done:=by
  intro X hP hw hK hc i pins s σ H E I hf st hg;subst hP hw hK;obtain⟨f0,f1,f2,f3,f4,f5⟩:=hf it (by simp)
  exact wpAny_pyNext_range_end (I.ok.hd hc) st (by have:n<=i:=hg;lia) λh' eb=>⟨rfl,I.turned (t':=s.toks) (λb o hb e=>eb b o hb e) f0 f1 f3 f4 f5⟩
 self:=λ_ _ _ _ _ st h=>wpAny_pyIter_rangeiter st h
section
variable {X:Cx}{tg:Expr}
def LB (K:PySem.W.Frag)(tl:TE):TI:=λσ H R=>tl σ H λx H1=>∃a,x=.ref a/\(∃xs,eC K H1 a xs)/\R (Nw K a) H1
theorem vA {l:Expr}{tl:TE}(hl:PE X l tl):PI X tg l (LB X.K tl):=by
 intro pins s σ H R I h;refine bx (hl pins s σ H _ I h) λv s1 O_=>?_;obtain⟨x,H1,I1,r1,q1⟩:=O_;obtain⟨a,e,⟨xs,hq⟩,q⟩:=q1;subst e;cases r1;obtain⟨its,rv,p,hz⟩:=I1.list hq;refine ZN p.isList ?_;refine⟨s1.heap.objs.size,[s1.heap.objs.size],_,_,H1,rfl,I1.kept (t':=s1.toks) λb o e=>Ww _ e,wD a _,⟨_,W5 _ rfl,rfl,rfl⟩,λb hb=>?_,q⟩;have e:b=s1.heap.objs.size:=by simpa using hb
 subst e;exact I1.AO (Wl _) (I1.bq.fresh (Wl _))
theorem qO {pins:List (Addr×Obj)}{σ:St}{H:Hp}{s:Wi}{R:It->Hp->Prop}{E:Wg->Wi->Prop}{lo hi:Int}{t u v:Tok}{tk:Nat}(I:Inv X pins σ H s)(h1:-(2 ^ 62)<=lo)(h2:lo<2 ^ 62)(h3:-(2 ^ 62)<=hi)(h4:hi<2 ^ 62)
  (q:R (MR lo (hi-lo).toNat) H):WT (model X.prog X.w) X.A (pyIter (.ref s.heap.objs.size)) (Rv X pins σ tg R) E {s with heap:=s.heap.push {cls:=.type "range",data:=.fields #[.int lo t,.int hi u,.int 1 v]},toks:=tk}:=by
 refine wpAny_pyIter_range (IsRange.new ..) (small_one h1 h2 h3 h4) ?_;have I1:Inv X pins σ H {s with heap:=s.heap.push {cls:=.type "range",data:=.fields #[.int lo t,.int hi u,.int 1 v]},toks:=tk}:=I.kept λb o e=>Ww _ e
 refine⟨(s.heap.push {cls:=.type "range",data:=.fields #[.int lo t,.int hi u,.int 1 v]}).objs.size,[(s.heap.push {cls:=.type "range",data:=.fields #[.int lo t,.int hi u,.int 1 v]}).objs.size],_,_,H,rfl,
  I1.kept (t':=tk) λb o e=>Ww _ e,tN _ lo (hi-lo).toNat,?_,λb hb=>?_,q⟩
 ·have e1:lo+((0:Nat):Int)*1=lo:=by simp
  have e2:(((hi-lo).toNat:Nat):Int)-((0:Nat):Int)=Builtin.Range.rangeSize lo hi 1:=by rw[rangeSize_one];split <;> lia
  show IsRangeIter _ _ (lo+((0:Nat):Int)*1) ((((hi-lo).toNat:Nat):Int)-((0:Nat):Int)) 1;rw[e1,e2];exact W5 _ rfl
 ·have e:b=(s.heap.push {cls:=.type "range",data:=.fields #[.int lo t,.int hi u,.int 1 v]}).objs.size:=by simpa using hb
  subst e;exact I1.AO (Wl _) (I1.bq.fresh (Wl _))
def LA (ta:TA):TI:=λσ H R=>ta σ H λvs H1=>∃j:Int,vs=[.int j]/\-(2 ^ 62)<=j/\j<2 ^ 62/\R (MR 0 j.toNat) H1
def Lz (ta:TA):TI:=λσ H R=>ta σ H λvs H1=>∃i j:Int,vs=[.int i,.int j]/\(-(2 ^ 62)<=i/\i<2 ^ 62/\-(2 ^ 62)<=j/\j<2 ^ 62)/\R (MR i (j-i).toNat) H1
theorem w9 {a:Expr} {ta:TA} {p pos:Pos} (hg:Gl X "range") (hm:X.mg "range" = none) (ha:PA X [a] ta) (hs:WD [a] X.env=[(false,eval a X.env)]:=by rfl):PI X tg (.Call (.Name "range" p) [a] [] pos) (LA ta):=by
 intro pins s σ H R I h;refine Call_ (jL I hg hm boot_range (YM (bx (ha pos pins s σ H _ I h) λus s1 O9=>?_) hs rfl));obtain⟨vs,H1,I1,r1,q1⟩:=O9;obtain⟨j,e,q1,q2,q⟩:=q1;subst e;cases r1 with
 |cons r rr =>
  cases rr;obtain⟨t,rfl⟩:=r;exact call_range_1 (qO I1 (by lia) (by lia) q1 q2 (by simpa using q))
theorem w6 {a b:Expr} {ta:TA} {p pos:Pos} (hg:Gl X "range") (hm:X.mg "range" = none) (ha:PA X [a,b] ta) (hs:WD [a,b] X.env=[(false,eval a X.env),(false,eval b X.env)]:=by rfl) (JR:WD [b] X.env=[(false,eval b X.env)]:=by rfl) :
  PI X tg (.Call (.Name "range" p) [a,b] [] pos) (Lz ta):=by
 intro pins s σ H R I h;refine Call_ (jL I hg hm boot_range (YM (bx (ha pos pins s σ H _ I h) λus s1 O8=>?_) (by rw[hs,JR]) (by rw[JR];rfl)))
 obtain⟨vs,H1,I1,r1,q1⟩:=O8;obtain⟨i,j,e,⟨q1,q2,q3,q4⟩,q⟩:=q1;subst e;cases r1 with
 |cons r rr =>
  cases rr with
  |cons r' rr =>
   cases rr;obtain⟨t,rfl⟩:=r;obtain⟨t',rfl⟩:=r';exact call_range_2 (qO I1 q1 q2 q3 q4 q)
def N1 (wi:TI)(g:TG)(tb:TS):TS:=λD σ H=>wi σ H λJ H1=>∃W:Nat->Nat->St->Hp->Prop,(∃m,W 0 m σ H1)/\∀i m σ H,W i m σ H ->
 (J.stop i H/\D.nx σ H)\/(J.go i H/\∃N:St->Hp->Prop,(∀σ' H',N σ' H'->∃m',m'<m/\W (i+1) m' σ' H')/\∀x H',J.J6 i H x H'->g x σ H' λσ2 H2=>tb {D with nx:=N,ct:=N,bk:=D.nx} σ2 H2)
def lL (fp:List Addr)(h:Heap):List (Addr×Obj):=fp.filterMap λb=>(h.get? b).map λo=>(b,o)
theorem fv {fp:List Addr}{h:Heap}{b:Addr}{o:Obj}(hb:b∈fp)(e:h.get? b=some o):(b,o)∈lL fp h:=YE.mpr ⟨b,hb,by rw[e];rfl⟩
theorem xg {fp:List Addr}{h:Heap}{p:Addr×Obj}(hp:p∈lL fp h):p.1∈fp/\h.get? p.1=some p.2:=by
 obtain⟨b,hb,e⟩:=YE.mp hp;cases q:h.get? b with
 |none=>rw[q]at e;cases e
 |some o =>
  rw[q]at e;have e':(b,o)=p:=WR e;subst e';exact⟨hb,q⟩
theorem Inv.pinned {pins:List (Addr×Obj)}{σ:St}{H:Hp}{s:Wi}{fp:List Addr}(I:Inv X pins σ H s)(hf:∀b∈fp,gz X pins H b)(ho:∀b∈fp,∃o,s.heap.get? b=some o/\∀v,o.data≠.cell v):Inv X (pins++lL fp s.heap) σ H s :=
 I.vy λp hp=>(WO.mp hp).elim (λz=>I.pin p (W9 _ z)) λz=>by
  obtain⟨hb,e⟩:=xg z;obtain⟨f0,f1,f2,_⟩:=hf p.1 hb;obtain⟨o,e',d⟩:=ho p.1 hb;rw[e]at e';cases e';exact⟨e,f0,f1,f2,d⟩
theorem Inv.iL {pins pl:List (Addr×Obj)}{σ:St}{H:Hp}{s:Wi}(I:Inv X (pins++pl) σ H s):Inv X pins σ H s:=I.vy λp hp=>I.pin p (W9 _ (X1 _ hp))
theorem yX {iter:Expr}{body:List Stmt}{wi:TI}{g:TG}{tb:TS}{pos:Pos}(hp:PassesOwn (model X.prog X.w) X.A X.env X.xe)(hc:X.calm=true)(hi:PI X tg iter wi)(hg:PG X tg g)(hb:qe X body tb)
  (hs:∀x,X3 iter X.env x=pure x:=by intro _;rfl):PS X (.For tg iter body [] pos) (N1 wi g tb):=by
 intro pins s σ H D I h;refine wpAny_For (bx (hi pins s σ H _ I h) λv s1 h1=>bx h1 λHV s2 h2=>?_) hs;obtain⟨it,fp,tn,J,H2,e,I2,T,fO,f2,W,⟨m0,w0⟩,turn⟩:=h2;subst e;have tU:∀{H':Hp},(∀b∈fp,H' b=none)->∀b∈fp,gz X pins H' b:=λhn b hb=>⟨hn b hb,(f2 b hb).2⟩;refine codeAny_forLoop_any (λn s'=>∃i σ' H',Inv X pins σ' H' s'/\tn i s'.heap/\(∀b∈fp,H' b=none)/\W i n σ' H') ?_ m0 ⟨0,σ,H2,I2,fO,λb hb=>(f2 b hb).1,w0⟩;rintro n s3 ⟨i,σ3,H3,I3,lz,Mb,w3⟩;rcases turn i n σ3 H3 w3 with⟨stop,qn⟩|⟨go,N,hN,step⟩
 ·refine YH hp (bx (T.done X rfl rfl rfl hc i pins s3 σ3 H3 X.xe I3 (tU Mb) lz stop) λr s4 O7=>?_);obtain⟨hr,I4⟩:=O7;subst hr;exact Y7 ⟨σ3,H3,I4,qn⟩
 ·refine YH hp (bx (T.item X rfl rfl rfl hc i pins s3 σ3 H3 X.xe I3 (tU Mb) lz go) λr s4 O6=>?_);obtain⟨u,hr,h4⟩:=O6;subst hr;refine YH hp (bx h4 λ_ s5 O5=>?_);obtain⟨x,H5,I5,r5,y5,Gp,Q6⟩:=O5;have RA:=I5.pinned (tU Q6) (T.obj _ _ Gp);refine YH hp (bx (hg _ s5 σ3 H5 x u _ RA r5 (step x H5 y5)) λ_ s6 O4=>?_);obtain⟨σ6,H6,I6,q6⟩:=O4;refine YH hp (bx (hb _ s6 σ6 H6 _ I6 q6) λf s7 q7=>?_);have again:∀{σ7:St} {H7:Hp},Inv X (pins++lL fp s5.heap) σ7 H7 s7->N σ7 H7->∃m,m<n/\∃i σ' H',Inv X pins σ' H' s7/\tn i s7.heap/\(∀b∈fp,H' b=none)/\W i m σ' H':=λ{σ7 H7} I7 n7=>by
   obtain⟨m',hm,w7⟩:=hN σ7 H7 n7;refine⟨m',hm,i+1,σ7,H7,I7.iL,T.keep _ _ _ Gp λb hb o e=>(I7.pin (b,o) (W9 _ (W9 _ (fv hb e)))).1,λb hb=>?_,w7⟩;obtain⟨o,e,d⟩:=T.obj _ _ Gp b hb;exact(I7.pin (b,o) (W9 _ (W9 _ (fv hb e)))).2.1
  cases f with
  |next=>obtain⟨σ7,H7,I7,n7⟩:=q7;exact again I7 n7
  |cont=>obtain⟨σ7,H7,I7,n7⟩:=q7;exact again I7 n7
  |brk=>obtain⟨σ7,H7,I7,q7⟩:=q7;exact⟨σ7,H7,I7.iL,q7⟩
  |ret v=>obtain⟨x7,σ7,H7,I7,r7,q7⟩:=q7;exact⟨x7,σ7,H7,I7.iL,r7,q7⟩
end
abbrev R2:=V->V->Hp->VK->Prop
def gZ (X:Cx)(f:Wg->Wg->Sem Wg)(r:R2):Prop :=
 ∀(pins:List (Addr×Obj)) (s:Wi) (σ:St) (H:Hp) (x y:V) (v u:Wg) (Q:VK),Inv X pins σ H s->RelV x v->RelV y u->r x y H Q ->
  WT (model X.prog X.w) X.A (f v u) (EP X pins σ Q) X.xe s
def MI (X:Cx)(f:Wg->Sem Wg)(r:V->Hp->VK->Prop):Prop :=
 ∀(pins:List (Addr×Obj)) (s:Wi) (σ:St) (H:Hp) (x:V) (v:Wg) (Q:VK),Inv X pins σ H s->RelV x v->r x H Q ->
  WT (model X.prog X.w) X.A (f v) (EP X pins σ Q) X.xe s
def fN (X:Cx)(f:Wg)(r:List V->Hp->VK->Prop):Prop :=
 ∀(pins:List (Addr×Obj)) (s:Wi) (σ:St) (H:Hp) (xs:List V) (us:List Wg) (Q:VK),Inv X pins σ H s->Vals xs us->r xs H Q ->
  WT (model X.prog X.w) X.A (call f us) (EP X pins σ Q) X.xe s
def Ru (X:Cx)(r:V->Hp->(Bool->Hp->Prop)->Prop):Prop :=
 ∀(pins:List (Addr×Obj)) (s:Wi) (σ:St) (H:Hp) (x:V) (v:Wg) (Q:Bool->Hp->Prop),Inv X pins σ H s->RelV x v->r x H Q ->
  WT (model X.prog X.w) X.A (truthy v) (TP X pins σ Q) X.xe s
def Kg (r:R2)(ta tb:TE):TE:=λσ H Q=>ta σ H λx H1=>tb σ H1 λy H2=>r x y H2 Q
def Tz (r:V->Hp->VK->Prop)(ta:TE):TE:=λσ H Q=>ta σ H λx H1=>r x H1 Q
def rI (C:Int->Int->Prop)(g:Int->Int->V):R2:=λx y H Q=>∃i j,x=.int i/\y=.int j/\C i j/\Q (g i j) H
def yP (g:Int->Int->V):R2:=λx y H Q=>∃i j,x=.int i/\y=.int j/\Q (g i j) H
def rU (g:Int->V):V->Hp->VK->Prop:=λx H Q=>∃i,x=.int i/\Q (g i) H
section
variable {X:Cx}{a b:Expr}{ta tb:TE}{pos:Pos}
theorem Jv (ha:PE X a ta)(hb:PE X b tb){pins:List (Addr×Obj)}{s:Wi}{σ:St}{H:Hp}{R:V->V->Hp->Prop}(I:Inv X pins σ H s)
  (h:ta σ H λx H1=>tb σ H1 λy H2=>R x y H2) {Q:Wg->Wi->Prop} {f:Wg->Wg->Sem Wg}
  (hf:∀v u s2 x y H2,Inv X pins σ H2 s2->RelV x v->RelV y u->R x y H2->WT (model X.prog X.w) X.A (f v u) Q X.xe s2) :
  WT (model X.prog X.w) X.A (eval a X.env) (λv s₁=>WT (model X.prog X.w) X.A (eval b X.env) (λu s₂=>WT (model X.prog X.w) X.A (f v u) Q X.xe s₂) X.xe s₁) X.xe s:=by
 refine bx (ha pins s σ H _ I h) λv s1 O3=>?_;obtain⟨x,H1,I1,r1,q1⟩:=O3;refine bx (hb pins s1 σ H1 _ I1 q1) λu s2 O2=>?_;obtain⟨y,H2,I2,r2,q2⟩:=O2;exact hf v u s2 x y H2 I2 r1 r2 q2
theorem zq {op:Operator}{r:R2}(ho:gZ X (XZ op) r)(ha:PE X a ta)(hb:PE X b tb):PE X (.BinOp a op b pos) (Kg r ta tb):=by
 intro pins s σ H Q I h;exact wpAny_BinOp (Jv ha hb I h λv u s2 x y H2 I2 rx ry q=>ho pins s2 σ H2 x y v u Q I2 rx ry q)
theorem KZ {op:UnaryOp}{r:V->Hp->VK->Prop}(ho:MI X (unaryOp op) r)(ha:PE X a ta):PE X (.UnaryOp op a pos) (Tz r ta):=by
 intro pins s σ H Q I h;exact UnaryOp_ (bx (ha pins s σ H _ I h) λv s1 IB=>by obtain⟨x,H1,I1,r1,q1⟩:=IB;exact ho pins s1 σ H1 x v Q I1 r1 q1)
theorem JI {f:Wg->Wg->Sem Wg}{C:Int->Int->Prop}{g:Int->Int->Int}
  (rule:∀(i j:Int) (t u:Tok) (s:Wi) (Q:Wg->Wi->Prop) (E:Wg->Wi->Prop),C i j->Q (.int (g i j) s.toks) {s with toks:=s.toks+1}->WT (model X.prog X.w) X.A (f (.int i t) (.int j u)) Q E s) :
  gZ X f (rI C λi j=>.int (g i j)):=by
 intro pins s σ H x y v u Q I rx ry h;obtain⟨i,j,rfl,rfl,hc,q⟩:=h;obtain⟨t,rfl⟩:=rx;obtain⟨t',rfl⟩:=ry;exact rule i j t t' s _ _ hc ⟨.int (g i j),H,I.tok _,⟨_,rfl⟩,q⟩
theorem K_ {f:Wg->Wg->Sem Wg}{g:Int->Int->Int}
  (rule:∀(i j:Int) (t u:Tok) (s:Wi) (Q:Wg->Wi->Prop) (E:Wg->Wi->Prop),Q (.int (g i j) s.toks) {s with toks:=s.toks+1}->WT (model X.prog X.w) X.A (f (.int i t) (.int j u)) Q E s) :
  gZ X f (yP λi j=>.int (g i j)):=by
 intro pins s σ H x y v u Q I rx ry h;obtain⟨i,j,rfl,rfl,q⟩:=h;obtain⟨t,rfl⟩:=rx;obtain⟨t',rfl⟩:=ry;exact rule i j t t' s _ _ ⟨.int (g i j),H,I.tok _,⟨_,rfl⟩,q⟩
theorem Dd {f:Wg->Wg->Sem Wg}{g:Int->Int->Bool}
  (rule:∀(i j:Int) (t u:Tok) (s:Wi) (Q:Wg->Wi->Prop) (E:Wg->Wi->Prop),Q (.bool (g i j)) s->WT (model X.prog X.w) X.A (f (.int i t) (.int j u)) Q E s) :
  gZ X f (yP λi j=>.bl (g i j)):=by
 intro pins s σ H x y v u Q I rx ry h;obtain⟨i,j,rfl,rfl,q⟩:=h;obtain⟨t,rfl⟩:=rx;obtain⟨t',rfl⟩:=ry;exact rule i j t t' s _ _ ⟨.bl (g i j),H,I,rfl,q⟩
def BZ (i j:Int):Prop:=0<=j/\j<=1000000/\i.natAbs<2 ^ 64
def tv (i j:Int):Prop:=(-(2 ^ 64)<i/\i<2 ^ 64)\/(-(2 ^ 64)<j/\j<2 ^ 64)
theorem tv.ok {i j:Int}(h:tv i j):IntMulOk i j:=by
 rcases h with⟨h1,h2⟩|⟨h1,h2⟩
 ·exact .of_left (intBits_le_64 h1 h2)
 ·exact .of_right (intBits_le_64 h1 h2)
theorem tM (k:Nat):(0:Int)<=2 ^ k:=by
 rw[two_pow_cast];exact ZJ _
theorem He:gZ X (XZ .Add) (yP λi j=>.int (i+j)):=K_ λ_ _ _ _ _ _ _ q=>add_int q
theorem G7:gZ X (XZ .Sub) (yP λi j=>.int (i-j)):=K_ λ_ _ _ _ _ _ _ q=>sub_int q
theorem G_:gZ X (XZ .Mult) (rI tv λi j=>.int (i*j)):=JI λ_ _ _ _ _ _ _ hc q=>mul_int q hc.ok
theorem Ha:gZ X (XZ .Mod) (rI (λ_ j=>0<j) λi j=>.int (i % j)):=JI λi j _ _ _ _ _ hc q=>by
 have h1:(0:Int)<j:=hc;exact mod_int' (by lia) (by rw[Int.fmod_eq_emod_of_nonneg i (by lia)];exact q)
theorem zD:gZ X (XZ .Pow) (rI BZ λi j=>.int (i ^ j.toNat)):=JI λ_ _ _ _ _ _ _ hc q=>pow_int_small hc.1 hc.2.1 hc.2.2 q
theorem G8:gZ X (XZ .RShift) (rI (λ_ j=>0<=j) λi j=>.int (i / 2 ^ j.toNat)):=JI λi j _ _ _ _ _ hc q =>
 rshift_int hc (by rw[Int.fdiv_eq_ediv_of_nonneg i (tM _)];exact q)
theorem Tw {f:Wg->Sem Wg}{g:Int->Int}
  (rule:∀(i:Int) (t:Tok) (s:Wi) (Q:Wg->Wi->Prop) (E:Wg->Wi->Prop),Q (.int (g i) s.toks) {s with toks:=s.toks+1}->WT (model X.prog X.w) X.A (f (.int i t)) Q E s) :
  MI X f (rU λi=>.int (g i)):=by
 intro pins s σ H x v Q I rx h;obtain⟨i,rfl,q⟩:=h;obtain⟨t,rfl⟩:=rx;exact rule i t s _ _ ⟨.int (g i),H,I.tok _,⟨_,rfl⟩,q⟩
theorem Gf:MI X (unaryOp .USub) (rU λi=>.int (-i)):=Tw λ_ _ _ _ _ q=>neg_int q
end
section
variable {X:Cx}{a b c:Expr}{ta tb:TE}{pos:Pos}
theorem I9 {pins:List (Addr×Obj)}{σ:St}{H:Hp}{s:Wi}{Q:VK}{k k':Bool}(I:Inv X pins σ H s)(q:Q (.bl k) H)(e:k=k'):EP X pins σ Q (.bool k') s:=by
 subst e;exact⟨.bl k,H,I,rfl,q⟩
theorem K7:gZ X (Xm .Lt) (yP λi j=>.bl (decide (i<j))):=Dd λ_ _ _ _ _ _ _ q=>lt_int q
theorem K8:gZ X (Xm .LtE) (yP λi j=>.bl (decide (i<=j))):=Dd λ_ _ _ _ _ _ _ q=>le_int q
theorem K9:gZ X (Xm .Gt) (yP λi j=>.bl (decide (j<i))):=Dd λ_ _ _ _ _ _ _ q=>gt_int q
theorem Fc:gZ X (Xm .GtE) (yP λi j=>.bl (decide (j<=i))):=Dd λ_ _ _ _ _ _ _ q=>ge_int q
theorem Hc:gZ X (Xm .Is) (λx y H Q=>y=.bE/\Q (.bl (decide (x=.bE))) H):=by
 intro pins s σ H x y v u Q I rx ry h;obtain⟨rfl,q⟩:=h;cases ry;refine is_none_gen (I9 I q ?_);cases x <;> first
  | (cases rx;rfl)
  | (obtain⟨t,rfl⟩:=rx;rfl)
theorem C0 {op:Zt}{r:R2}(ho:gZ X (Xm op) r)(ha:PE X a ta)(hb:PE X b tb)(hm:Zq op b=false):PE X (.Compare a [op] [b] pos) (Kg r ta tb):=by
 intro pins s σ H Q I h;exact wpAny_Compare1 (Jv ha hb I h λv u s2 x y H2 I2 rx ry q=>ho pins s2 σ H2 x y v u Q I2 rx ry q) hm
def Ke (t:TE):TT:=λσ H Q=>t σ H λx H'=>∃k,x=.bl k/\Q k H'
theorem CO {op:Zt}{r:R2}(ho:gZ X (Xm op) r)(ha:PE X a ta)(hb:PE X b tb)(hm:Zq op b=false):PT X (.Compare a [op] [b] pos) (Ke (Kg r ta tb)):=by
 intro pins s σ H Q I h;refine wpAny_isTrue_Compare1 (bx (ha pins s σ H _ I h) λv s1 ⟨x,H1,I1,r1,q1⟩=>bx (hb pins s1 σ H1 _ I1 q1) λu s2 ⟨y,H2,I2,r2,q2⟩ =>
  bx (ho pins s2 σ H2 x y v u _ I2 r1 r2 q2) λc s3 ⟨z,H3,I3,r3,k,e,q3⟩=>?_) hm
 subst e;cases r3;exact X2 ⟨H3,I3,q3⟩
def MJ (K:PySem.W.Frag)(x:V)(H:Hp)(k:Bool):Prop :=
 match x with
 |.bE=>k=false
 |.bl b=>k=b
 |.int i=>k=(i != 0)
 |.str y=>y.length<=WA/\k=((y.length:Int) != 0)
 |.MF y=>y.size<=WA/\k=((y.size:Int) != 0)
 |.ref p=>(∃xs,eC K H p xs/\k=!xs.isEmpty)\/(∃xs,tE K H p xs/\k=!xs.isEmpty)\/∃g9,H p=some (.dK g9)/\k=!g9.isEmpty
 |_=>False
theorem ur {κ:Type}{g9:List (κ×V)}{vs:List (κ×Wg)}(r:KV g9 vs):(!vs.isEmpty)=!g9.isEmpty:=by
 cases r <;> rfl
theorem l7 {xs:List V}{its:List Wg}(r:Vals xs its):(!its.toArray.isEmpty)=!xs.isEmpty:=by
 cases r <;> simp
theorem jK:(WA:Nat)<2 ^ 63:=by rw[WY];decide
theorem Gh:Ru X (λx H Q=>∃k,MJ X.K x H k/\Q k H):=by
 intro pins s σ H x v Q I rx h;obtain⟨k,e,q⟩:=h;have hl:=jK;have hs:WA=16777216:=WY;cases x with
 |bE =>
  cases rx;have e':k=false:=e;subst e';exact truthy_none ⟨H,I,q⟩
 |bl b =>
  cases rx;have e':k=b:=e;subst e';exact X2 ⟨H,I,q⟩
 |int i =>
  obtain⟨t,rfl⟩:=rx;have e':k=(i != 0):=e;subst e';exact PySem.P.truthy_int ⟨H,I,q⟩
 |str y =>
  obtain⟨t,rfl⟩:=rx;obtain⟨hy,e'⟩:y.length<=WA/\k=((y.length:Int) != 0):=e;subst e';exact PySem.P.truthy_str (by lia) ⟨H,I.tok _,q⟩
 |MF y =>
  obtain⟨t,rfl⟩:=rx;obtain⟨hy,e'⟩:y.size<=WA/\k=((y.size:Int) != 0):=e;subst e';exact PySem.W.truthy_bytes (by lia) ⟨H,I.tok _,q⟩
 |ref p =>
  cases rx;have e':(∃xs,eC X.K H p xs/\k=!xs.isEmpty)\/(∃xs,tE X.K H p xs/\k=!xs.isEmpty)\/∃g9,H p=some (.dK g9)/\k=!g9.isEmpty:=e;rcases e' with⟨xs,hx,e'⟩|⟨xs,hx,e'⟩|⟨g9,hx,e'⟩
  ·subst e';obtain⟨its,r,pl,hz⟩:=I.list hx;have hlen:=r.length;exact wpAny_truthy_list pl.isList (by simp only[WG];lia) ⟨H,I.tok _,by rw[l7 r];exact q⟩
  ·subst e';obtain⟨its,r,pl,hz⟩:=I.tuple hx;have hlen:=r.length;exact truthy_tuple pl (by simp only[WG];lia) ⟨H,I.tok _,by rw[l7 r];exact q⟩
  ·subst e';obtain⟨hz,hS,vs,r,m⟩:g9.length<=WA/\(p==sysModules)=false/\∃vs,KV g9 vs/\s.heap.DictOf (pI X.prog X.w) p vs:=I.bq p _ hx;have hlen:g9.length=vs.length:=Paired.length r;exact wpAny_truthy_dict hS m (by lia) ⟨H,I.tok _,by rw[ur r];exact q⟩
 |_=>exact(show False from e).elim
theorem yV (ha:PE X a ta)(he:∀whole,isTrue a X.env whole=(do let v <- whole;standAt a.pos;holding [v] (truthy v))):
  PT X a (λσ H Q=>ta σ H λx H'=>∃k,MJ X.K x H' k/\Q k H'):=by
 intro pins s σ H Q I h;exact isTrue_plain (bx (ha pins s σ H _ I h) λv s1 IA=>by obtain⟨x,H1,I1,r1,q1⟩:=IA;exact Gh pins s1 σ H1 x v Q I1 r1 q1) (he _)
theorem vals1 {x:V}{us:List Wg}(r:Vals [x] us):∃u,us=[u]/\RelV x u:=by
 cases r with
 |cons r1 r2=>cases r2;exact⟨_,rfl,r1⟩
theorem vals2 {x y:V}{us:List Wg}(r:Vals [x,y] us):∃u w',us=[u,w']/\RelV x u/\RelV y w':=by
 cases r with
 |cons r1 r2 =>
  cases r2 with
  |cons r3 r4=>cases r4;exact⟨_,_,rfl,r1,r3⟩
theorem xR (hc:X.calm=true):fN X (.builtin "max") (λxs H Q=>∃i j,xs=[.int i,.int j]/\Q (.int (if j>i then j else i)) H):=by
 intro pins s σ H xs us Q I r h;obtain⟨i,j,rfl,q⟩:=h;obtain⟨u,w',rfl,⟨t,rfl⟩,⟨t',rfl⟩⟩:=vals2 r;refine max_two_ints (I.ok.hd hc) λh' tk k=>⟨_,H,I.kept k,?_,q⟩
 by_cases hj:j>i
 ·rw[if_pos hj,if_pos hj];exact⟨_,rfl⟩
 ·rw[if_neg hj,if_neg hj];exact⟨_,rfl⟩
theorem xQ (hc:X.calm=true):fN X (.builtin "min") (λxs H Q=>∃i j,xs=[.int i,.int j]/\Q (.int (if j<i then j else i)) H):=by
 intro pins s σ H xs us Q I r h;obtain⟨i,j,rfl,q⟩:=h;obtain⟨u,w',rfl,⟨t,rfl⟩,⟨t',rfl⟩⟩:=vals2 r;refine min_two_ints (I.ok.hd hc) λh' tk k=>⟨_,H,I.kept k,?_,q⟩
 by_cases hj:j<i
 ·rw[if_pos hj,if_pos hj];exact⟨_,rfl⟩
 ·rw[if_neg hj,if_neg hj];exact⟨_,rfl⟩
theorem oC:fN X (.type "int") (λxs H Q=>(∃i,xs=[.int i]/\Q (.int i) H)\/∃k,xs=[.bl k]/\Q (.int (if k then 1 else 0)) H):=by
 intro pins s σ H xs us Q I r h;rcases h with⟨i,rfl,q⟩|⟨k,rfl,q⟩
 ·obtain⟨u,rfl,t,rfl⟩:=vals1 r;exact call_int_int ⟨.int i,H,I,⟨_,rfl⟩,q⟩
 ·obtain⟨u,rfl,r1⟩:=vals1 r;cases r1;exact call_int_bool ⟨.int (if k then 1 else 0),H,I.tok _,⟨_,rfl⟩,q⟩
end
section
end
section
end
section
end
section
end
section
end
structure cg (k:Nat)(A:Xg):Prop where
 hd:A.handled=none
 dp:A.depth+3*k+5<recursionLimit
 un:A.units+16*k+200<Za
theorem cg.mono {j k:Nat}{A:Xg}(r:cg k A)(h:j<=k):cg j A:=⟨r.hd,by have:=r.dp;lia,by have:=r.un;lia⟩
theorem cg.deeper {k:Nat}{A:Xg}(r:cg (k+1) A)(env:Env):cg k (A.deeper env) :=
 ⟨r.hd,by have:=r.dp;show A.depth+1+3*k+5<_;lia,by have:=r.un;show A.units+3+16*k+200<_;lia⟩
theorem cg.depth {k:Nat}{A:Xg}(r:cg k A):A.depth<recursionLimit:=by have:=r.dp;lia
theorem cg.units {k:Nat}{A:Xg}(r:cg k A):A.units+64<Za:=by have:=r.un;lia
theorem cg.Gb {k:Nat}{A:Xg}(r:cg k A):A.units<Za:=by have:=r.un;lia
def NX:TA:=λ_ H Q=>Q [] H
def Kk (ta:TE)(tr:TA):TA:=λσ H Q=>ta σ H λx H1=>tr σ H1 λxs H2=>Q (x::xs) H2
section
variable {X:Cx}{e:Expr}{es:List Expr}{te:TE}{t:TA}{pos:Pos}
theorem il:PA X [] NX:=λ_ _ _ _ H Q I h=>Calls.spliced_nil ⟨[],H,I,.nil,h⟩
theorem dj (ha:PE X e te)(hr:PA X es t)(hs:WD (e::es) X.env=(false,eval e X.env)::WD es X.env:=by rfl):PA X (e::es) (Kk te t):=by
 intro pos pins s σ H Q I h;rw[hs];show WT _ _ (spliced ((false,eval e X.env)::Yd pos (WD es X.env))) _ _ s;refine Calls.spliced_cons (bx (ha pins s σ H _ I h) λu s1 O1=>?_);obtain⟨x,H1,I1,r1,q1⟩:=O1;exact bx (hr pos pins s1 σ H1 _ I1 q1) λus s2 UE=>by obtain⟨xs,H2,I2,r2,q2⟩:=UE;exact⟨x::xs,H2,I2,.cons r1 r2,q2⟩
def NS (t:TA):TE:=λσ H Q=>t σ H λxs H1=>xs.length<=WA/\∀p,H1 p=none->Q (.ref p) (upd H1 p (.tup xs))
def NY (t:TA):TE:=λσ H Q=>t σ H λxs H1=>xs.length<=WA/\∀p,H1 p=none->Q (.ref p) (upd H1 p (.lst xs))
theorem zk {x1}(h:PA X es t):PE X (.Tuple es x1 pos) (NS t):=by
 intro pins s σ H Q I hq;refine wpAny_Tuple_spliced (bx (h pos pins s σ H _ I hq) λus s1 ⟨xs,H1,I1,r,z,q⟩=>⟨by rw[<- r.length];exact z,?_⟩)
 have hf:H1 s1.heap.objs.size=none:=I1.bq.fresh (Wl _);refine⟨.ref s1.heap.objs.size,upd H1 s1.heap.objs.size (.tup xs),I1.laid (t':=s1.toks) (λb u e=>Ww _ e) (Wl _) ?_,rfl,q _ hf⟩;exact⟨z,us,r,⟨_,W5 _ rfl,rfl,_,rfl⟩⟩
theorem zr (h:PA X es t):PE X (.List es pos) (NY t):=by
 intro pins s σ H Q I hq;refine wpAny_List_spliced (bx (h pos pins s σ H _ I hq) λus s1 ⟨xs,H1,I1,r,z,q⟩=>⟨by rw[<- r.length];exact z,?_⟩)
 have hf:H1 s1.heap.objs.size=none:=I1.bq.fresh (Wl _);refine⟨.ref s1.heap.objs.size,upd H1 s1.heap.objs.size (.lst xs),I1.laid (t':=s1.toks) (λb u e=>Ww _ e) (Wl _) ?_,rfl,q _ hf⟩;exact⟨z,us,0,r,W5 _ rfl⟩
end
abbrev Sp:=List V->Hp->VK->XK->Prop
abbrev yd:=List Env->Hp->Wi->XK->Wg->Wi->Prop
structure BX (P:Wq)(w:WC)(K:PySem.W.Frag)(mg:Str->Option Wg)(base:Heap)(A:Xg)(outer:List Env)(s:Wi)(H:Hp):Prop where
 frames:A.frames=some outer
 mod:Mod K mg base
 bs:∀b o,base.get? b=some o->s.heap.get? b=some o/\H b=none
 xU:base.objs.size<=s.heap.objs.size
 gX:s.heap.FunFrames base outer
 AM:∀b∈fR outer,H b=none
 bq:h9 P w H s.heap
 bare:ZV s.gens
def CE (outer:List Env)(P:Wq)(w:WC)(H:Hp)(s:Wi)(Q:VK)(u:Wg)(s':Wi):Prop :=
 ∃v H',s'.os=s.os/\ZV s'.gens/\Un (fR outer) [] H H' s.heap s'.heap/\h9 P w H' s'.heap/\RelV v u/\Q v H'
def CR (CX:yd)(outer:List Env)(P:Wq)(w:WC)(H:Hp)(s:Wi)(Q:VK)(E:XK)(r:Result)(s':Wi):Prop :=
 match r with
 |.ok (.ret u)=>CE outer P w H s Q u s'
 |.ok _=>False
 |.error e=>CX outer H s E e s'
structure a9 (P:Wq)(w:WC)(K:PySem.W.Frag)(mg:Str->Option Wg)(base:Heap)(CX:yd)(k:Nat)(f:Addr)(fd:Xa)(ps:List Str)(sp:Sp):Prop where
 len:∀vs H Q E,sp vs H Q E->vs.length=ps.length
 run:∀(A:Xg) (outer:List Env) (s:Wi) (H:Hp) (args:Args) (us:List Wg) (vs:List V) (Q:VK) (E:XK),cg k A->BX P w K mg base A outer s H->BindsTo s fd args (ps.zip us)->Vals vs us->sp vs H Q E ->
  Zo (model P w) A (.call (.ref f) args) (CR CX outer P w H s Q E) s
section
variable {X:Cx}{pins:List (Addr×Obj)}{σ:St}{H:Hp}{s s':Wi}
theorem Inv.Jd (I:Inv X pins σ H s):BX X.prog X.w X.K X.mg X.base X.A X.stack s H :=
 ⟨I.ok.frames,I.ok.mod,I.bs,W8 I.ok.xU I.sz,I.stack,I.oS,I.bq,I.bare⟩
theorem Inv.after {Q:VK}{u:Wg}(I:Inv X pins σ H s)(h:CE X.stack X.prog X.w H s Q u s'):EP X pins σ Q u s':=by
 obtain⟨v,H',os,bare,un,bq,r,q⟩:=h;obtain⟨hh,g,d,t,OB⟩:=s';obtain rfl:OB=s.os:=os;exact⟨v,H',I.call (h':=hh) (g':=g) (d':=d) (t':=t) (ch:=[]) un bq bare (λb z=>absurd z (by simp)),r,q⟩
end
def EZ (sp:Sp)(FH:List V)(E:XK)(t:TA):TE:=λσ H Q=>t σ H λvs H1=>sp (vs++FH) H1 Q E
def Binds (K:PySem.W.Frag)(fd:Xa)(ps:List Str)(ds:List Wg):Prop :=
 ∀(s:Wi) (us:List Wg),K.In s.heap->(us++ds).length=ps.length->BindsTo s fd ⟨us,[]⟩ (ps.zip (us++ds))
theorem Binds.all {K:PySem.W.Frag}{fd:Xa}{ps:List Str}(h:∀us:List Wg,us.length=ps.length->bindArgs fd ⟨us,[]⟩=pure (ps.zip us)):Binds K fd ps []:=λs us _ hl=>by
 rw[XD]at hl ⊢
 exact .of_eq (h us hl)
def Passes (CX:yd)(X:Cx)(E:XK):Prop:=∀(pins:List (Addr×Obj)) (σ:St) (H:Hp) (s:Wi) (e:Wg) (s':Wi),Inv X pins σ H s->CX X.stack H s E e s'->X.xe e s'
section
variable {X:Cx}{CX:yd}{k:Nat}{f:Addr}{fd:Xa}{ps:List Str}{sp:Sp}{FH:List V}{ds:List Wg}{E:XK}{x:Str}{p pos:Pos}{e:Expr}{es:List Expr}{t:TA}
theorem GC {pins:List (Addr×Obj)}{σ:St}{H:Hp}{s:Wi}{Q:VK}{us:List Wg}{vs:List V}(F:a9 X.prog X.w X.K X.mg X.base CX k f fd ps sp)(hr:cg k X.A)(hb:Binds X.K fd ps ds)(hd:Vals FH ds)(hx:Passes CX X E)
  (I:Inv X pins σ H s) (r:Vals vs us) (h:sp (vs++FH) H Q E):WT (model X.prog X.w) X.A (call (.ref f) us) (EP X pins σ Q) X.xe s:=by
 have r2:Vals (vs++FH) (us++ds):=r.append hd;have hl:(us++ds).length=ps.length:=by rw[<- r2.length];exact F.len _ _ _ _ h
 refine ZD (YY (F.run X.A X.stack s H ⟨us,[]⟩ (us++ds) (vs++FH) Q E hr I.Jd (hb s us I.xo hl) r2 h) λr s' hq=>?_);cases r with
 |error e=>exact hx pins σ H s e s' I hq
 |ok fl =>
  cases fl with
  |ret u=>exact I.after hq
  |next=>exact XI hq
  |brk=>exact XI hq
  |cont=>exact XI hq
theorem vB (F:a9 X.prog X.w X.K X.mg X.base CX k f fd ps sp)(hr:cg k X.A)(hg:Gl X x)(hm:X.mg x=some (.ref f))(hk:PySem.W.keepIn X.K (.ref f)=true)(hb:Binds X.K fd ps ds)(hd:Vals FH ds)(hx:Passes CX X E)
  (ha:PA X (e::es) t) (hdb:(x==("__debug__" : Str))=false:=by decide) (he:WD (e::es) X.env=(false,eval e X.env)::WD es X.env:=by rfl) (hpl:(Yd pos (WD es X.env)).any (·.1)=false:=by rfl) :
  PE X (.Call (.Name x p) (e::es) [] pos) (EZ sp FH E t):=by
 intro pins s σ H Q I h;refine Y8 (gQ I hg hm ?_ hdb);refine PySem.W.callWith_K (h₀:=X.base) I.ok.mod.JN hk (bx (ha pos pins s σ H _ I h) λus s1 ⟨vs,H1,I1,r,q⟩=>⟨I1.xo,?_⟩) he hpl;exact GC F hr hb hd hx I1 r q
end
section
end
structure aU (N P:List Str)(sc:Zc):Prop where
 kind:sc.kind=.function
 co:sc.isCoroutine=false
 gen:sc.isGenerator=false
 nd:N.Nodup
 pre:N.take P.length=P
 par:∀x∈P,sc.names.lookup x=some .local\/sc.names.lookup x=some .cell
 Hr:∀y∈sc.names,y.2≠.free
theorem mkS{N P:List Str}{sc:Zc}(h0:sc.kind=.function:=by rfl)(h1:sc.isCoroutine=false:=by rfl)(h2:sc.isGenerator=false:=by rfl)(h3:N.Nodup:=by decide +kernel)(h4:N.take P.length=P:=by rfl)(h5:∀x∈P,sc.names.lookup x=some .local\/sc.names.lookup x=some .cell:=by decide +kernel)(h6:∀y∈sc.names,y.2≠.free:=by decide +kernel):aU N P sc:=⟨h0,h1,h2,h3,h4,h5,h6⟩
theorem oF {kindOf:Str->Option Zs}{x:Str}:∀{binds:List (Str×Wg)} {m:Str->Option Wg},(∀v,(x,v)∉binds)->bindL kindOf binds m x=m x
 |[],_,_=>rfl
 | (n,v)::r,m,h=>by
  unfold bindL;rw[oF λw hw=>h w (Wm _ hw)]
  split
  ·have:x≠n:=by rintro rfl;exact h v Wo
   simp[this]
  ·rfl
theorem oH {kindOf:Str->Option Zs}{x:Str}:∀{binds:List (Str×Wg)} {m:Str->Option Wg},(∀v,(x,v)∉binds)->bindC kindOf binds m x=m x
 |[],_,_=>rfl
 | (n,v)::r,m,h=>by
  unfold bindC;rw[oH λw hw=>h w (Wm _ hw)]
  split
  ·rfl
  ·have:x≠n:=by rintro rfl;exact h v Wo
   simp[this]
theorem oG {kindOf:Str->Option Zs}{x:Str}{v:Wg}:∀{P:List Str} {vs:List Wg} {i:Nat} {m:Str->Option Wg},P.Nodup->P[i]?=some x->vs[i]?=some v->kindOf x=some .local ->
  bindL kindOf (P.zip vs) m x=some v
 |[],_,_,_,_,h,_,_=>by simp at h
 |_::_,[],_,_,_,_,h,_=>by simp at h
 |p::P,w::vs,0,m,nd,h1,h2,hk=>by
  simp at h1 h2;subst h1;subst h2;show bindL kindOf ((p,w)::P.zip vs) m p=_;unfold bindL;rw[oF λv hv=>(Xe.mp nd).1 (Zv hv).1,if_pos hk];simp
 |p::P,w::vs,i+1,m,nd,h1,h2,hk=>by
  show bindL kindOf ((p,w)::P.zip vs) m x=_;unfold bindL;exact oG (i:=i) (Xe.mp nd).2 (by simpa using h1) (by simpa using h2) hk
theorem oI {kindOf:Str->Option Zs}{x:Str}{v:Wg}:∀{P:List Str} {vs:List Wg} {i:Nat} {m:Str->Option Wg},P.Nodup->P[i]?=some x->vs[i]?=some v->kindOf x≠some .local ->
  bindC kindOf (P.zip vs) m x=some v
 |[],_,_,_,_,h,_,_=>by simp at h
 |_::_,[],_,_,_,_,h,_=>by simp at h
 |p::P,w::vs,0,m,nd,h1,h2,hk=>by
  simp at h1 h2;subst h1;subst h2;show bindC kindOf ((p,w)::P.zip vs) m p=_;unfold bindC;rw[oH λv hv=>(Xe.mp nd).1 (Zv hv).1,if_neg hk];simp
 |p::P,w::vs,i+1,m,nd,h1,h2,hk=>by
  show bindC kindOf ((p,w)::P.zip vs) m x=_;unfold bindC;exact oI (i:=i) (Xe.mp nd).2 (by simpa using h1) (by simpa using h2) hk
def start (N:List Str)(vs:List V):St:=vs.map some++Xb (N.length-vs.length) none
noncomputable def kM (CX:yd)(P:Wq)(w:WC)(K:PySem.W.Frag)(mg:Str->Option Wg)(base:Heap)(N:List Str)(qual:Str)(scope:Zc)(f:Addr)(cd:Wg)(A:Xg)(outer:List Env)(s:Wi)(H:Hp)(E:XK):Cx where
 prog:=P
 w:=w
 K:=K
 mg:=mg
 base:=base
 A:=A.deeper (ZE qual scope s.heap.objs.size f cd)
 N:=N
 s₀:=s
 H₀:=H
 env:=ZE qual scope s.heap.objs.size f cd
 outer:=outer
 stack:=ZE qual scope s.heap.objs.size f cd::outer
 ex:=[]
 calm:=true
 fn:=λ_=>true
 pn:=[]
 xe:=λe s'=>WT (model P w) (A.deeper (ZE qual scope s.heap.objs.size f cd)) (leaving (ZE qual scope s.heap.objs.size f cd) e) (λ_ yN=>CX outer H s E e yN) (λe' yN=>CX outer H s E e' yN) s'
theorem sO {sc:Zc}{n:Nat}{x:Str}(h:sc.names.lookup x=some .cell):∃c,(cellsFrom n sc.names []).lookup x=some c:=by
 have q:=PySem.W.cellsFrom_some sc.names n [] (.inl h);exact Option.isSome_iff_exists.mp q
theorem nS {CX:yd}{P:Wq}{w:WC}{K:PySem.W.Frag}{mg:Str->Option Wg}{base:Heap}{N ps:List Str}{qual:Str}{scope:Zc}{f:Addr}{cd:Wg}{A:Xg}{outer:List Env}{s s1:Wi}{H:Hp}{E:XK}{us:List Wg}{vs:List V}
  (S:aU N ps scope) (hd:A.handled=none) (e0:BX P w K mg base A outer s H) (hl:vs.length=ps.length) (r:Vals vs us)
  (x:InCallC s s.heap.objs.size (bindL (ZE qual scope s.heap.objs.size f cd).kindOf (ps.zip us) λ_=>none) (cellsFrom (s.heap.objs.size+1) scope.names []) (bindC (ZE qual scope s.heap.objs.size f cd).kindOf (ps.zip us) λ_=>none) s1) :
  Inv (kM CX P w K mg base N qual scope f cd A outer s H E) [] (start N vs) H s1:=by
 have hpl:ps.length<=N.length:=by have:=congrArg ZS S.pre;rw[WW]at this;lia
 obtain⟨h1,tk,rfl,hk⟩:=x.done;have Lh:∀b:Addr,b∉(kM CX P w K mg base N qual scope f cd A outer s H E).ex:=λb z=>absurd (show b∈([]:List Addr) from z) (by simp)
 refine⟨⟨e0.mod,S.kind,rfl,rfl,Wl _,λy z c h1 h2=>?_,λy hy=>?_,λy c _ h=>?_,λ_=>hd,Around.frames_deeper e0.frames,.inr ⟨rfl,rfl⟩,λb z=>absurd z (Lh b),e0.bs,e0.xU,λb _ _=>Lh b,λb z=>absurd z (Lh b),e0.gX,e0.AM⟩,
  rfl,e0.bare,Un.kept hk,⟨_,x.toInCall.ns,λi y v h1 h2 h3=>?_⟩,λy c h=>⟨_,x.cell y c h⟩,e0.bq.fresh (Wl _),λy c h=>?_,λp hp=>absurd (show p∈([]:List (Addr×Obj)) from hp) (by simp),e0.bq.kept hk,?_⟩
 ·exact name_of_addr x.apart (PySem.mem_of_lookup h1) (PySem.mem_of_lookup h2)
 ·have hy:scope.names.lookup y=some .cell\/scope.names.lookup y=some .free:=hy;rcases hy with hy|hy
  ·exact sO hy
  ·exact absurd rfl (S.Hr _ (PySem.mem_of_lookup hy))
 ·exact Nat.le_of_lt (x.above y c (PySem.mem_of_lookup h))
 ·have hi:i<vs.length:=by
   unfold start at h2
   by_cases hi:i<vs.length
   ·exact hi
   ·rw[Xq (by simpa using hi)]at h2
    rw[List.getElem?_replicate]at h2
    split at h2 <;> cases h2
  have ha:vs[i]?=some v:=by
   unfold start at h2;rw[XO (by simpa using hi),WH]at h2
   cases e:vs[i]? with
   |none=>rw[e]at h2;cases h2
   |some a=>rw[e]at h2;cases h2;rfl
  obtain⟨u,hu,rv⟩:=r.get ha;have hp:ps[i]?=some y:=by
   rw[<- S.pre,Y5 (by lia)];exact h1
  have Sj:ps.Nodup:=by rw[<- S.pre];exact S.nd.sublist (List.take_sublist _ _)
  refine⟨u,rv,?_⟩;rcases S.par y (W_ hp)with k|k
  ·exact .inl ⟨k,oG Sj hp hu k⟩
  ·obtain⟨c,e⟩:=sO (n:=s.heap.objs.size+1) k;refine .inr ⟨.inl k,c,e,?_⟩;have q:=x.cell y c e;rw[oI Sj hp hu (by show scope.names.lookup y≠_;rw[k];decide)]at q
   exact q
 ·exact e0.bq.fresh (Nat.le_of_lt (x.above y c (PySem.mem_of_lookup h)))
 ·unfold start;show _=N.length;rw[WK,Wj,List.length_replicate];lia
theorem FE {CX:yd}{P:Wq}{w:WC}{K:PySem.W.Frag}{mg:Str->Option Wg}{base:Heap}{k:Nat}{f:Addr}{name qual:Str}{params:Arguments}{body:List Stmt}{scope:Zc}{dV kV doc pm bW ct oc:Wg}{an od:Option Addr}
  {C6:Array (Option Wg)} {N ps:List Str} {sp:Sp} (lk:K.lookup f=some ⟨oc,od,.func (PySem.W.fnOf name qual params body scope dV kV doc pm an bW ct),C6⟩) (vT:PySem.W.codeIn K bW qual=true) (S:aU N ps scope)
  (len:∀vs H Q E,sp vs H Q E->vs.length=ps.length)
  (gq:∀(A:Xg) (outer:List Env) (s:Wi) (H:Hp) (vs:List V) (Q:VK) (E:XK),cg k (A.deeper (ZE qual scope s.heap.objs.size f bW))->sp vs H Q E ->
   ∃t,qe (kM CX P w K mg base N qual scope f bW A outer s H E) body t/\t {nx:=λ_ H'=>Q .bE H',rt:=Q} (start N vs) H) :
  a9 P w K mg base CX (k+1) f (PySem.W.fnOf name qual params body scope dV kV doc pm an bW ct) ps sp:=by
 refine⟨len,λA outer s H args us vs Q E hr e0 hb r iF=>?_⟩;have hl:=len _ _ _ _ iF;have KX:K.In s.heap:=e0.mod.JN.keeps λb o e=>(e0.bs b o e).1;have lim:s.heap.NoLimit:=e0.mod.nolimit.keeps λb o e=>(e0.bs b o e).1;have Ax:∀y∈ps.zip us,scope.names.lookup y.1=some .local\/(scope.names.lookup y.1=some .cell/\((cellsFrom (s.heap.objs.size+1) scope.names []).lookup y.1).isSome=true):=λP2 hy=>by
  obtain⟨n,v⟩:=P2;rcases S.par n (Zv hy).1 with q|q
  ·exact .inl q
  ·exact .inr ⟨q,PySem.W.cellsFrom_some _ _ _ (.inl q)⟩
 refine codeAny_call_function hr.depth (KX _ _ lk) rfl S.co S.gen rfl (PySem.W.codeRec_of KX vT) (hb _ _ _ _ ?_);refine wpAny_newFunctionEnv_cells S.kind Ax λenv he s1 x=>?_;subst he;refine⟨lim.keeps x.toInCall.keep,codeAny_func ?_⟩;obtain⟨t,ht,hq⟩:=gq A outer s H vs Q E (hr.deeper _) iF;have I:Inv (kM CX P w K mg base N qual scope f bW A outer s H E) [] (start N vs) H s1:=nS S hr.hd e0 hl r x;refine YC (ht [] s1 (start N vs) H _ I hq) (λfl s' hs=>?_) λe s' hs=>hs;have fin:∀{σ':St} {H':Hp} {v:V} {u:Wg},Inv (kM CX P w K mg base N qual scope f bW A outer s H E) [] σ' H' s'->RelV v u->Q v H'->CE outer P w H s Q u s' :=
  λ{σ' H' v u} J rv q=>⟨v,H',J.os,J.bare,J.base,J.bq,rv,q⟩
 cases fl with
 |ret u =>
  obtain⟨v,σ',H',J,rv,q⟩:=hs;exact fin J rv q
 |next =>
  obtain⟨σ',H',J,q⟩:=hs;exact fin (v:=V.bE) (u:=Value.none) J rfl q
 |brk =>
  obtain⟨_,_,_,q⟩:=hs;exact XI q
 |cont =>
  obtain⟨_,_,_,q⟩:=hs;exact XI q
section
variable {X:Cx}{x:Str}{p pos:Pos}{e:Expr}{es:List Expr}{t:TA}{id T:String}{r:List V->Hp->VK->Prop}
def N2 (r:List V->Hp->VK->Prop)(t:TA):TE:=λσ H Q=>t σ H λvs H1=>r vs H1 Q
theorem qU (hc:fN X (.builtin id) r) (hg:Gl X x) (hm:X.mg x=none) (hv:Xp x=some (.builtin id)) (ha:PA X (e::es) t) (hn:x≠"__name__" := by decide) (hdb:(x==("__debug__" : Str))=false:=by decide)
  (he:WD (e::es) X.env=(false,eval e X.env)::WD es X.env:=by rfl) (hpl:(Yd pos (WD es X.env)).any (·.1)=false:=by rfl):PE X (.Call (.Name x p) (e::es) [] pos) (N2 r t):=by
 intro pins s σ H Q I h;refine Y8 (jL I hg hm hv ?_ hn hdb);exact PyProof.Rows.callWith_builtin1 (bx (ha pos pins s σ H _ I h) λus s1 P1=>by obtain⟨vs,H1,I1,r1,q1⟩:=P1;exact hc pins s1 σ H1 vs us Q I1 r1 q1) he hpl
theorem xb (hc:fN X (.type T) r) (hg:Gl X x) (hm:X.mg x=none) (hv:Xp x=some (.type T)) (ha:PA X (e::es) t) (hn:x≠"__name__" := by decide) (hdb:(x==("__debug__" : Str))=false:=by decide)
  (he:WD (e::es) X.env=(false,eval e X.env)::WD es X.env:=by rfl) (hpl:(Yd pos (WD es X.env)).any (·.1)=false:=by rfl):PE X (.Call (.Name x p) (e::es) [] pos) (N2 r t):=by
 intro pins s σ H Q I h;refine Y8 (jL I hg hm hv ?_ hn hdb);exact YM (bx (ha pos pins s σ H _ I h) λus s1 P0=>by obtain⟨vs,H1,I1,r1,q1⟩:=P0;exact hc pins s1 σ H1 vs us Q I1 r1 q1) he hpl
end
end L2
namespace HT
open PySem PyProof.Rows
def lexLt:List Int->List Int->Bool
 |[],[]=>false
 |[],_::_=>true
 |_::_,[]=>false
 |x::xs,y::ys=>if x=y then lexLt xs ys else decide (x<y)
theorem dO (x y:Int)(xs ys:List Int):lexLt (x::xs) (y::ys)=if x=y then lexLt xs ys else decide (x<y):=rfl
theorem A_ (A:Xg)(s:Wi)(a:Int)(t:Tok)(c:Int)(u:Tok):∃e,SeqAt.EqAt A s (.int a t) (.int c u) e/\(e=true↔a=c) :=
 ⟨(a==c),SeqAt.EqAt.int_int a t c u,by simp⟩
section
open PySem.SeqAt
open PySem.AutoSeq1 (wpAny_loadPart')
open PySem.MeetsSeq PySem.MeetsSeq2 PySem.MeetsSeq3
end
section
def fH (n d:Nat):Option Int->Nat
 |none=>d
 |some v=>if v<0 then (v+(n:Int)).toNat else min v.toNat n
theorem fV (n d:Nat):fH n d none=d:=rfl
theorem o4 (n d k:Nat):fH n d (some (k:Int))=min k n:=by
 show (if (k:Int)<0 then ((k:Int)+(n:Int)).toNat else min (k:Int).toNat n)=min k n
 rw[if_neg (by lia),XT]
end
end HT
namespace L2
open PySem PySem.Spec PyProof.Rows
abbrev TO:=St->Hp->(Option Int->Hp->Prop)->Prop
def PO (X:Cx)(e:Option Expr)(t:TO):Prop :=
 ∀(pins:List (Addr×Obj)) (s:Wi) (σ:St) (H:Hp) (Q:Option Int->Hp->Prop),Inv X pins σ H s->t σ H Q ->
  WT (model X.prog X.w) X.A (evalPart e X.env) (λu s'=>∃o H',Inv X pins σ H' s'/\IsPart u o/\Q o H') X.xe s
def Ct:TO:=λ_ H Q=>Q none H
def Kf (t:TE):TO:=λσ H Q=>t σ H λx H1=>∃i,x=.int i/\Q (some i) H1
theorem intsAre_of {ns:List Int}:∀{us:List Wg},Vals (ns.map V.int) us->YF us ns:=by
 induction ns with
 |nil=>intro us r;rw[List.map_nil]at r;cases r;exact .nil
 |cons n ns ih =>
  intro us r;rw[W3]at r;cases r with
  |cons r1 r2 =>
   obtain⟨t,e⟩:=r1;subst e;exact .cons n t (ih r2)
section
variable {X:Cx}{e:Expr}{te:TE}{lo hi:Option Expr}{tl th:TO}{pos p2:Pos}
theorem vx:PO X none Ct:=by
 intro pins s σ H Q I h;rw[evalPart_none];exact Wu ⟨none,H,I,.none,h⟩
theorem vw (h:PE X e te):PO X (some e) (Kf te):=by
 intro pins s σ H Q I hw;rw[evalPart_some];refine bx (h pins s σ H _ I hw) λu s1 O0=>?_;obtain⟨x,H1,I1,r1,q1⟩:=O0;obtain⟨i,rfl,q⟩:=q1;obtain⟨t,rfl⟩:=r1;exact⟨some i,H1,I1,.int i t,q⟩
def Nr (X:Cx)(r:V->Option Int->Option Int->Hp->VK->Prop):Prop :=
 ∀(pins:List (Addr×Obj)) (s:Wi) (σ:St) (H:Hp) (x:V) (v vl vu:Wg) (lo hi:Option Int) (sl:Addr) (Q:VK),Inv X pins σ H s->RelV x v->s.heap.IsSliceOf sl vl vu .none->IsPart vl lo->IsPart vu hi->r x lo hi H Q ->
  ∃T id,typeLookup (.type T) "__getitem__" = pure (some (.builtin id))/\s.TypeIs v T/\WT (model X.prog X.w) X.A (getItem v (.ref sl)) (EP X pins σ Q) X.xe s
def TC (r:V->Option Int->Option Int->Hp->VK->Prop)(te:TE)(tl th:TO):TE:=λσ H Q=>te σ H λx H1=>tl σ H1 λl H2=>th σ H2 λu H3=>r x l u H3 Q
theorem lM {r:V->Option Int->Option Int->Hp->VK->Prop}(hr:Nr X r)(he:PE X e te)(hl:PO X lo tl)(hu:PO X hi th):PE X (.Subscript e (.Slice lo hi none p2) pos) (TC r te tl th):=by
 intro pins s σ H Q I h;refine Subscript_ (bx (he pins s σ H _ I h) λv s1 OZ=>?_);obtain⟨x,H1,I1,r1,q1⟩:=OZ;refine wpAny_Slice (bx (hl pins s1 σ H1 _ I1 q1) λvl s2 ⟨l,H2,I2,pl,q2⟩=>bx (hu pins s2 σ H2 _ I2 q2) λvu s3 OY=>?_);obtain⟨u,H3,I3,pu,q3⟩:=OY;rw[evalPart_none];refine Wu ?_;have I4:Inv X pins σ H3 {s3 with heap:=s3.heap.push {cls:=.type "slice",data:=.fields #[vl,vu,.none]}}:=I3.kept (t':=s3.toks) λb ob q=>Ww _ q
 obtain⟨T,id,hT,ht,hg⟩:=hr pins {s3 with heap:=s3.heap.push {cls:=.type "slice",data:=.fields #[vl,vu,.none]}} σ H3 x v vl vu l u s3.heap.objs.size Q I4 r1 (Heap.IsSliceOf.new ..) pl pu q3
 show WT (model X.prog X.w) X.A (subscriptTail e (.Slice lo hi none p2) v (.ref s3.heap.objs.size)) (EP X pins σ Q) X.xe {s3 with heap:=s3.heap.push {cls:=.type "slice",data:=.fields #[vl,vu,.none]}}
 exact tail_any (ops:=[.ref s3.heap.objs.size,v]) ht hT hg (by with_unfolding_all rfl)
def sG (xs:List V)(lo hi:Option Int):List V:=(xs.drop (HT.fH xs.length 0 lo)).take (HT.fH xs.length xs.length hi-HT.fH xs.length 0 lo)
theorem sF (xs:List V)(lo hi:Option Int):(sG xs lo hi).length<=xs.length:=by
 unfold sG;rw[WW,Yq];lia
end
def qh (n:Nat)(i:Int):Option Nat:=if 0<=i then (if i<n then some i.toNat else none) else if -(n:Int)<=i then some (i+n).toNat else none
def jy {α:Type}(xs:List α)(i:Int):Option α:=(qh xs.length i).bind λj=>xs[j]?
theorem vP {n:Nat}{i:Int}{j:Nat}(h:qh n i=some j):seqIndex? i n=some j/\j<n/\-(n:Int)<=i/\i<n:=by
 unfold qh at h
 by_cases h0:0<=i
 ·rw[if_pos h0]at h
  by_cases h1:i<n
  ·rw[if_pos h1]at h;have e:i.toNat=j:=WR h;exact⟨by rw[seqIndex_of h0 h1,e],by lia,by lia,h1⟩
  ·rw[if_neg h1]at h;cases h
 ·rw[if_neg h0]at h
  by_cases h1:-(n:Int)<=i
  ·rw[if_pos h1]at h;have e:(i+n).toNat=j:=WR h;exact⟨by rw[seqIndex_neg (by lia) h1,e],by lia,h1,by lia⟩
  ·rw[if_neg h1]at h;cases h
theorem qa {α:Type}{xs:List α}{i:Int}{v:α}(h:jy xs i=some v):∃j,seqIndex? i xs.length=some j/\xs[j]?=some v/\j<xs.length/\-(xs.length:Int)<=i/\i<xs.length:=by
 unfold jy at h;cases e:qh xs.length i with
 |none=>rw[e]at h;cases h
 |some j =>
  rw[e]at h;obtain⟨h1,h2,h3,h4⟩:=vP e;exact⟨j,h1,h,h2,h3,h4⟩
def wt (b:Expr):Prop:=∀o i,subscripted b false o i=operate [o,i] (getItem o i)
def F0 (X:Cx)(r:R2):Prop :=
 ∀(value slice:Expr) (pins:List (Addr×Obj)) (s:Wi) (σ:St) (H:Hp) (x y:V) (v u:Wg) (Q:VK),Inv X pins σ H s->RelV x v->RelV y u->r x y H Q ->
  subscripted slice false v u=operate [v,u] (getItem v u)->WT (model X.prog X.w) X.A (subscriptTail value slice v u) (EP X pins σ Q) X.xe s
def Nv (X:Cx)(id:String)(r:V->List V->Hp->VK->Prop):Prop :=
 ∀(pins:List (Addr×Obj)) (s:Wi) (σ:St) (H:Hp) (x:V) (xs:List V) (v:Wg) (us:List Wg) (Q:VK),Inv X pins σ H s->RelV x v->Vals xs us->r x xs H Q ->
  WT (model X.prog X.w) X.A (call (.builtin id) (v::us)) (EP X pins σ Q) X.xe s
section
variable {X:Cx}{a b:Expr}{ta tb:TE}{pos:Pos}
theorem K1 {r:R2}(hr:F0 X r)(ha:PE X a ta)(hb:PE X b tb)(hs:wt b):PE X (.Subscript a b pos) (Kg r ta tb):=by
 intro pins s σ H Q I h;exact Subscript_ (Jv ha hb I h λv u s2 x y H2 I2 rx ry q=>hr a b pins s2 σ H2 x y v u Q I2 rx ry q (hs _ _))
def Og (K:PySem.W.Frag):R2:=λx y H Q=>∃p xs i v,x=.ref p/\y=.int i/\eC K H p xs/\jy xs i=some v/\Q v H
def Oe (K:PySem.W.Frag):R2:=λx y H Q=>∃p xs i v,x=.ref p/\y=.int i/\tE K H p xs/\jy xs i=some v/\Q v H
def Of:R2:=λx y H Q=>∃z i c,x=.str z/\y=.int i/\z.length<=WA/\jy z.cps.toList i=some c/\Q (.str ⟨#[c]⟩) H
theorem DH:F0 X (Og X.K):=by
 intro value slice pins s σ H x y v u Q I rx ry h hs;obtain⟨p,xs,i,z,rfl,rfl,hq,he,q⟩:=h;cases rx;obtain⟨t,rfl⟩:=ry;obtain⟨its,r,pl,hz⟩:=I.list hq;obtain⟨j,h1,h2,h3,h4,h5⟩:=qa he;obtain⟨w,ew,Kv⟩:=r.get h2;have hl:=r.length;have hn:=jK;have fin:EP X pins σ Q w s:=⟨z,H,I,Kv,q⟩
 by_cases h0:0<=i
 ·have hj:i.toNat=j:=by
   rw[seqIndex_of h0 h5]at h1;exact WR h1
  exact item_listR pl.isList h0 (by lia) (by rw[hj];simpa using ew) fin hs
 ·have hj:(i+(its.toArray.size:Int)).toNat=j:=by
   rw[seqIndex_neg (by lia) h4]at h1
   rw[WG,<- hl];exact WR h1
  exact subscriptTail_builtinR (x:=w) pl.isList.typeIs slot_list_getitem.lookup
   (wpAny_getItem_list_neg (Q:=λr s'=>r=w/\EP X pins σ Q r s') pl.isList (by lia) (by rw[WG] <;> lia) (by lia) (by rw[hj];simpa using ew) ⟨rfl,fin⟩) hs
theorem HQ:F0 X (Oe X.K):=by
 intro value slice pins s σ H x y v u Q I rx ry h hs;obtain⟨p,xs,i,z,rfl,rfl,hq,he,q⟩:=h;cases rx;obtain⟨t,rfl⟩:=ry;obtain⟨its,r,pl,hz⟩:=I.tuple hq;obtain⟨j,h1,h2,h3,h4,h5⟩:=qa he;obtain⟨w,ew,Kv⟩:=r.get h2;have hl:=r.length;have hn:=jK;have fin:EP X pins σ Q w s:=⟨z,H,I,Kv,q⟩;exact subscriptTail_builtinR (x:=w) pl.typeIs slot_tuple_getitem.lookup
  (getItem_tuple (j:=j) (Q:=λr s'=>r=w/\EP X pins σ Q r s') pl (by lia) (by lia) (by rw[WG,<- hl];exact h1) (by simpa using ew) ⟨rfl,fin⟩) hs
theorem HR:F0 X Of:=by
 intro value slice pins s σ H x y v u Q I rx ry h hs;obtain⟨z,i,c,rfl,rfl,hz,he,q⟩:=h;obtain⟨t,rfl⟩:=rx;obtain⟨t',rfl⟩:=ry;obtain⟨j,h1,h2,h3,h4,h5⟩:=qa he;have hl:z.cps.toList.length=z.length:=by simp[Str.length]
 rw[hl]at h1 h4 h5;have hn:=jK;exact tail_any (Zl s z t) slot_str_getitem.lookup (getItem_str (c:=c) (by
  have e1:decide (i < -(2 ^ 63:Int))=false:=decide_eq_false (by lia)
  have e2:decide (i >= 2 ^ 63)=false:=decide_eq_false (by lia)
  rw[e1,e2,Bool.or_false]) (by rw[h1];simpa using h2) ⟨.str ⟨#[c]⟩,H,I.tok _,⟨_,rfl⟩,q⟩) hs
theorem uh (its:List Wg)(n j:Nat)(u:Wg):YT (·.setIfInBounds j u) {cls:=.type "list",data:=.seq its.toArray n}={cls:=.type "list",data:=.seq (its.set j u).toArray n}:=by
 simp[YT]
theorem Inv.lst {pins:List (Addr×Obj)}{σ:St}{H:Hp}{s:Wi}{p:Addr}{xs:List V}(I:Inv X pins σ H s)(h:H p=some (.lst xs)):
  ∃(its:List Wg) (n:Nat),Vals xs its/\s.heap.get? p=some {cls:=.type "list",data:=.seq its.toArray n}/\xs.length<=WA:=by
 obtain⟨z,its,n,r,e⟩:=I.bq p _ h;exact⟨its,n,r,e,z⟩
theorem Inv.Hy {pins:List (Addr×Obj)}{σ:St}{H:Hp}{s:Wi}{p:Addr}{xs ys:List V}{its its':List Wg}{n n':Nat}{f:Obj->Obj}(I:Inv X pins σ H s)(h:H p=some (.lst xs))
  (ho:s.heap.get? p=some {cls:=.type "list",data:=.seq its.toArray n}) (hf:f {cls:=.type "list",data:=.seq its.toArray n}={cls:=.type "list",data:=.seq its'.toArray n'}) (r:Vals ys its') (hz:ys.length<=WA) (t:Nat) :
  Inv X pins σ (upd H p (.lst ys)) {s with heap:=s.heap.update p f,toks:=t}:=by
 have e:(s.heap.update p f).get? p=some {cls:=.type "list",data:=.seq its'.toArray n'}:=by
  rw[Heap.get?_update_self f ho (by rw[hf] <;> rfl),hf]
 refine I.write (x:=p) (e:=p) (by rw[h];trivial) (.inl rfl) (λb u hb q=>(Heap.get?_update_other _ _ (Zy hb)).trans q) ⟨_,e⟩ ?_
 exact⟨hz,its',n',r,e⟩
def Ky:V->V->V->Hp->(Hp->Prop)->Prop:=λo i v H Q=>∃p xs k j,o=.ref p/\i=.int k/\H p=some (.lst xs)/\qh xs.length k=some j/\Q (upd H p (.lst (xs.set j v)))
theorem set_list:MN X Ky:=by
 intro pins s σ H o i v ov iv u Q I ro ri rv h;obtain⟨p,xs,k,j,rfl,rfl,hp,hj,q⟩:=h;cases ro;obtain⟨t,rfl⟩:=ri;obtain⟨its,n,r,ho,hz⟩:=I.lst hp;obtain⟨h1,h2,h3,h4⟩:=vP hj;have hl:=r.length;have hn:=jK;have I':Inv X pins σ (upd H p (.lst (xs.set j v))) {s with heap:=s.heap.update p (YT (·.setIfInBounds j u))} :=
  I.Hy hp ho (uh its n j u) (r.set rv j) (by rw[List.length_set];exact hz) s.toks
 by_cases h0:0<=k
 ·have hk:k.toNat=j:=by
   rw[seqIndex_of h0 h4]at h1;exact WR h1
  exact PySem.W.ki_setAt ho h0 (by lia) (by rw[WG,<- hl];exact h4) (by rw[hk];exact⟨_,I',q⟩)
 ·have hk:(k+(its.toArray.size:Int)).toNat=j:=by
   rw[seqIndex_neg (by lia) h3]at h1
   rw[WG,<- hl];exact WR h1
  exact PySem.W.ki_setBack ho (by lia) (by rw[WG,<- hl];exact h3) (by lia) (by rw[hk];exact⟨_,I',q⟩)
theorem oU (lo hi:Option Int)(n:Nat):(Zr lo hi none n).1=((HT.fH n 0 lo:Nat):Int)/\(Zr lo hi none n).2.1=((HT.fH n n hi:Nat):Int)/\(Zr lo hi none n).2.2=1:=by
 refine⟨?_,?_,rfl⟩
 ·cases lo with
  |none=>simp[Zr,HT.fH]
  |some i =>
   simp only[Zr,HT.fH,Option.getD_none,show (1:Int)>0 by decide,if_true]
   by_cases h:i<0
   ·simp only[h,if_true] <;> lia
   ·simp only[h,if_false] <;> lia
 ·cases hi with
  |none=>simp[Zr,HT.fH]
  |some i =>
   simp only[Zr,HT.fH,Option.getD_none,show (1:Int)>0 by decide,if_true]
   by_cases h:i<0
   ·simp only[h,if_true] <;> lia
   ·simp only[h,if_false] <;> lia
theorem mM (its:List Wg)(lo hi:Option Int):slicePick its.toArray lo hi none=((its.drop (HT.fH its.length 0 lo)).take (HT.fH its.length its.length hi-HT.fH its.length 0 lo)).toArray:=by
 obtain⟨h1,h2,h3⟩:=oU lo hi its.toArray.size;unfold slicePick;rw[h1,h2,h3];simp only[sliceRange_one,pick_run,WG] <;> rfl
def Oa (K:PySem.W.Frag):V->Option Int->Option Int->Hp->VK->Prop:=λx lo hi H Q=>∃a xs,x=.ref a/\eC K H a xs/\∀p,H p=none->Q (.ref p) (upd H p (.lst (sG xs lo hi)))
theorem vg:Nr X (Oa X.K):=by
 intro pins s σ H x v vl vu lo hi sl Q I rx hs pl pu h;obtain⟨a,xs,rfl,hx,q⟩:=h;cases rx;obtain⟨its,r,ht,hz⟩:=I.list hx;have hlen:=r.length;refine⟨"list",_,slot_list_getitem.lookup,ht.isList.typeIs,?_⟩;refine wpAny_getItem_list_slice ht.isList hs pl pu .none (by simp) ?_ (by rw[WG] <;> lia)
 rw[mM,<- hlen];refine⟨.ref s.heap.objs.size,_,I.laid (t':=s.toks) (o:=.lst (sG xs lo hi)) (λb ob q=>Ww _ q) (Wl _) ?_,rfl,q _ (I.bq.fresh (Wl _))⟩;exact⟨W8 (sF xs lo hi) hz,_,0,(r.drop (HT.fH xs.length 0 lo)).take (HT.fH xs.length xs.length hi-HT.fH xs.length 0 lo),W5 _ rfl⟩
theorem pz:gZ X (Xm .NotIn) (λx y H Q=>∃i j,x=.str i/\y=.str j/\Q (.bl (!(!(W7 j i 0 j.length 1).isEmpty))) H):=by
 intro pins s σ H x y v u Q I rx ry h;obtain⟨i,j,rfl,rfl,q⟩:=h;obtain⟨t,rfl⟩:=rx;obtain⟨t',rfl⟩:=ry;exact notIn_str ⟨.bl _,H,I,rfl,q⟩
theorem js:fN X (.builtin "len") (λxs H Q=>∃p ys,xs=[.ref p]/\(eC X.K H p ys\/tE X.K H p ys)/\Q (.int ys.length) H):=by
 intro pins s σ H xs us Q I r h;obtain⟨p,ys,rfl,hq,q⟩:=h;obtain⟨u,rfl,rx⟩:=vals1 r;cases rx;have hn:=jK;rcases hq with hq|hq
 ·obtain⟨its,r',pl,hz⟩:=I.list hq;have hlen:=r'.length;exact Calls.call_len_list pl.isList (by simp only[WG] <;> lia) ⟨.int ys.length,H,I.tok _,⟨s.toks+1,by rw[WG,hlen]⟩,q⟩
 ·obtain⟨its,r',pl,hz⟩:=I.tuple hq;have hlen:=r'.length;exact len_tuple pl (by simp only[WG] <;> lia) ⟨.int ys.length,H,I.tok _,⟨s.toks+1,by rw[WG,hlen]⟩,q⟩
theorem jr:fN X (.type "list") (λxs H Q=>∃p ys,xs=[.ref p]/\(eC X.K H p ys\/tE X.K H p ys)/\∀l,H l=none->Q (.ref l) (upd H l (.lst ys))):=by
 intro pins s σ H xs us Q I r h;obtain⟨p,ys,rfl,hq,q⟩:=h;obtain⟨u,rfl,rx⟩:=vals1 r;cases rx;have fin:∀(its:List Wg),Vals ys its->ys.length<=WA->∀(h':Heap) (c':Nat),(∀b o',s.heap.get? b=some o'->h'.get? b=some o') ->
   h'.get? s.heap.objs.size=some {cls:=.type "list",dict:=none,data:=.seq its.toArray c',slots:=#[]}->EP X pins σ Q (.ref s.heap.objs.size) {s with heap:=h'}:=λits r' hz h' c' kp e =>
  ⟨.ref s.heap.objs.size,_,I.laid (t':=s.toks) kp (Wl _) (show cT X.prog X.w _ h' _ (.lst ys) from ⟨hz,its,c',r',e⟩),rfl,q _ (I.bq.fresh (Wl _))⟩
 rcases hq with hq|hq
 ·obtain⟨its,r',pl,hz⟩:=I.list hq;have hlen:=r'.length;obtain⟨o,ho,hc,n,hd⟩:=pl.isList;exact call_list_seq p (.inl rfl) ho hc hd (λh' c' kp e=>fin its r' hz h' c' kp e) (by simp only[WG] <;> lia)
 ·obtain⟨its,r',pl,hz⟩:=I.tuple hq;have hlen:=r'.length;obtain⟨o,ho,hc,n,hd⟩:=pl;exact call_list_seq p (.inr rfl) ho hc hd (λh' c' kp e=>fin its r' hz h' c' kp e) (by simp only[WG] <;> lia)
def NN (K:PySem.W.Frag)(T:String)(x:V)(H:Hp):Prop:=match x with
 |.str _=>T="str"
 |.int _=>T="int"
 |.ref p=>(T="list" /\ ∃xs,eC K H p xs)\/(T="tuple" /\ ∃o,K.lookup p=some o/\o.cls=.type "tuple" /\ o.dict=none) \/
   (T="dict" /\ ((∃g9,H p=some (.dK g9))\/∃g9,H p=some (.dT g9)))\/(T="set" /\ ∃S n,H p=some (.set S n))
 |_=>False
theorem yr {pins:List (Addr×Obj)}{σ:St}{H:Hp}{s:Wi}{T:String}{x:V}{v:Wg}(I:Inv X pins σ H s)(r:RelV x v)(ty:NN X.K T x H):
  s.TypeIs v T/\∀a,v=.ref a->∃ob,s.heap.get? a=some ob/\ob.dict=none:=by
 cases x with
 |str z =>
  obtain⟨t,rfl⟩:=r;cases (show T="str" from ty)
  exact⟨Zl s z t,λ_ e=>nomatch e⟩
 |int i =>
  obtain⟨t,rfl⟩:=r;cases (show T="int" from ty)
  exact⟨typeIs_int s i t,λ_ e=>nomatch e⟩
 |ref p =>
  cases r;rcases ty with⟨rfl,xs,hq⟩|⟨rfl,o,hk,hc,hd⟩|⟨rfl,hk⟩|⟨rfl,S,n,hk⟩
  ·obtain⟨its,_,pl,_⟩:=I.list hq;refine⟨pl.isList.typeIs,λa e=>?_⟩;cases e;obtain⟨o,n,e,c,hd,_⟩:=pl;exact⟨o,e,hd⟩
  ·refine⟨⟨o,I.xo p o hk,hc⟩,λa e=>?_⟩;cases e;exact⟨o,I.xo _ o hk,hd⟩
  ·have z:∃o,s.heap.get? p=some o/\o.ExactDict:=by
    rcases hk with⟨g9,hk⟩|⟨g9,hk⟩
    ·obtain⟨_,_,_,_,o,_,_,e,ex,_⟩:=I.bq p _ hk;exact⟨o,e,ex⟩
    ·obtain⟨_,_,_,_,o,_,_,e,ex,_⟩:=I.bq p _ hk;exact⟨o,e,ex⟩
   obtain⟨o,e,ex⟩:=z;refine⟨⟨o,e,ex.1⟩,λa e2=>?_⟩;cases e2;exact⟨o,e,ex.2.1⟩
  ·obtain⟨o,_,_,_,e,ex,_⟩:=I.bq p _ hk;refine⟨⟨o,e,ex.1⟩,λa e2=>?_⟩;cases e2;exact⟨o,e,ex.2.1⟩
 |_=>exact XI ty
def N3 (K:PySem.W.Frag)(T:String)(r:V->List V->Hp->VK->Prop)(to:TE):TE:=λσ H Q=>to σ H λx H1=>NN K T x H1/\r x [] H1 Q
def TJ (K:PySem.W.Frag)(T:String)(r:V->List V->Hp->VK->Prop)(to:TE)(t:TA):TE:=λσ H Q=>to σ H λx H1=>NN K T x H1/\t σ H1 λxs H2=>r x xs H2 Q
variable {o e:Expr}{es:List Expr}{to:TE}{t:TA}{name:Str}{apos cpos:Pos}{T id:String}{r:V->List V->Hp->VK->Prop}
theorem GY (pa:PlainAttrs T) (slot:Slot T name id) (LG:typeOf (.builtin id)=pure (.type "method_descriptor")) (hm:Nv X id r) (ho:PE X o to)
  (eY:Y2 o name X.env (eval o X.env)=eval o X.env:=by rfl) (eX:(apos.endLine==cpos.line)=true:=by rfl):PE X (.Call (.Attribute o name apos) [] [] cpos) (N3 X.K T r to):=by
 intro pins s σ H Q I h;refine wpAny_Call_method0_late eY eX (bx (ho pins s σ H _ I h) λv s1 OX=>?_);obtain⟨x,H1,I1,r1,ty,q1⟩:=OX;obtain⟨h1,h2⟩:=yr I1 r1 ty;exact⟨T,id,pa,slot,LG,h1,h2,Calls.callWith_builtin rfl (PySem.evalArgs_none (hm pins s1 σ H1 x [] v [] Q I1 r1 .nil q1))⟩
theorem vC (pa:PlainAttrs T) (slot:Slot T name id) (LG:typeOf (.builtin id)=pure (.type "method_descriptor")) (hm:Nv X id r) (ho:PE X o to) (ha:PA X (e::es) t)
  (eY:Y2 o name X.env (eval o X.env)=eval o X.env:=by rfl)
  (pN:((Yd cpos (WD (e::es) X.env)).all (λx=>!x.1)&&(backToKw cpos (keywordEach [] X.env)).all (λx=>x.1.isSome)
   && decide ((e::es).length+([]:List ZT).length+(if ([]:List ZT).isEmpty then 0 else 1)<30))=true:=by rfl)
  (eX:(apos.endLine==cpos.line)=true:=by rfl) (hs:WD (e::es) X.env=(false,eval e X.env)::WD es X.env:=by rfl) (iy:(Yd cpos (WD es X.env)).any (·.1)=false:=by rfl) :
  PE X (.Call (.Attribute o name apos) (e::es) [] cpos) (TJ X.K T r to t):=by
 intro pins s σ H Q I h;refine wpAny_Call_method_late eY pN eX rfl (bx (ho pins s σ H _ I h) λv s1 OW=>?_);obtain⟨x,H1,I1,r1,ty,q1⟩:=OW;obtain⟨h1,h2⟩:=yr I1 r1 ty;refine⟨T,id,pa,slot,LG,h1,h2,?_⟩;have hA:=ha cpos pins s1 σ H1 _ I1 q1;rw[hs]at hA ⊢
 refine Calls.callWith_builtin (by show (false || (Yd cpos (WD es X.env)).any (·.1))=false;rw[iy] <;> rfl) (Calls.evalArgs_plain ?_)
 exact bx hA λus s2 Ib=>by obtain⟨vs,H2,I2,r2,q2⟩:=Ib;exact hm pins s2 σ H2 x vs v us Q I2 r1 r2 q2
end
def Ry (X:Cx)(id:String)(r:V->List V->Hp->VK->Prop):Prop :=
 ∀(pins:List (Addr×Obj)) (s:Wi) (σ:St) (H:Hp) (x:V) (xs:List V) (v:Wg) (us:List Wg) (Q:VK),Inv X pins σ H s->RelV x v->Vals xs us->r x xs H Q ->
  WT (model X.prog X.w) X.A (call (.builtin id) (v::us)) (EP X pins σ Q) X.xe s
theorem Vals.one:∀{x:V} {us:List Wg},Vals [x] us->∃u,us=[u]/\RelV x u:=by
 intro x us h;cases h with
 |cons r t =>
  cases t;exact⟨_,rfl,r⟩
theorem Vals.zero:∀{us:List Wg},Vals [] us->us=[]
 |_,.nil=>rfl
theorem Vals.dropLast {xs:List V}{us:List Wg}(h:Vals xs us):Vals xs.dropLast us.dropLast:=by
 induction h with
 |nil=>exact .nil
 |cons r t ih =>
  cases t with
  |nil=>exact .nil
  |cons q t'=>exact .cons r ih
theorem Vals.eraseIdx:∀{xs:List V} {us:List Wg} (i:Nat),Vals xs us->Vals (xs.eraseIdx i) (us.eraseIdx i)
 |_,_,_,.nil=>.nil
 |_,_,0,.cons _ t=>t
 |_,_,i+1,.cons r t=>.cons r (Vals.eraseIdx i t)
theorem Vals.rep {xs:List V}{us:List Wg}(h:Vals xs us):∀k:Nat,Vals (Xb k xs).flatten (Xb k us).flatten
 |0=>.nil
 |k+1=>by
  rw[Yl,Yl,YQ,YQ];exact Vals.append h (Vals.rep h k)
theorem uJ {α:Type}(l:List α):l.eraseIdx (l.length-1)=l.dropLast:=by
 induction l with
 |nil=>rfl
 |cons a r ih =>
  cases r with
  |nil=>rfl
  |cons b r =>
   have e:(a::b::r).length-1=((b::r).length-1)+1:=by
    have h1:(a::b::r).length=r.length+2:=rfl;have h2:(b::r).length=r.length+1:=rfl;lia
   rw[e,List.eraseIdx_cons_succ,ih]
   all_goals rfl
theorem nP {α:Type}:∀(l:List α) (i:Nat),(l.eraseIdx i).length<=l.length
 |[],_=>Wl _
 |_::_,0=>Nat.le_succ _
 |_::r,i+1=>X0 (nP r i)
theorem foldl_rep (its:List Wg):∀(k:Nat) (acc:List Wg),
  List.foldl (λx1 x2=>x1++x2) acc.toArray (Xb k its.toArray)=(acc++(Xb k its).flatten).toArray
 |0,acc=>by simp
 |k+1,acc=>by
  have e:acc.toArray++its.toArray=(acc++its).toArray:=by simp
  have e2:(acc++its)++(Xb k its).flatten=acc++(Xb (k+1) its).flatten:=by
   rw[Yl,YQ,Xh]
  rw[<- e2,<- foldl_rep its k (acc++its),<- e,Yl,Yk]
section
variable {X:Cx}{pins:List (Addr×Obj)}{σ:St}{H:Hp}{s:Wi}{l:Addr}{xs ys:List V}
theorem Inv.HA {its its':List Wg}{n:Nat}{f:Array Wg->Array Wg}{t':Nat}(I:Inv X pins σ H s)(hH:H l=some (.lst xs))
  (e:s.heap.get? l=some {cls:=.type "list",data:=.seq its.toArray n}) (hf:f its.toArray=its'.toArray) (hv:Vals ys its') (hz:ys.length<=WA) :
  Inv X pins σ (upd H l (.lst ys)) {s with heap:=s.heap.update l (YT f),toks:=t'}:=by
 have q:=PySem.IsL.update e f;rw[hf]at q;refine I.write (x:=l) (e:=l) (by rw[hH];exact trivial) (.inl rfl) (λb' u hb hu=>(Heap.get?_update_other s.heap (YT f) (Zy hb)).trans hu) ⟨_,q⟩ ?_
 exact⟨hz,its',_,hv,q⟩
theorem Inv.zY {its:List Wg}{t':Nat}(I:Inv X pins σ H s)(hv:Vals ys its)(hz:ys.length<=WA):
  Inv X pins σ (upd H s.heap.objs.size (.lst ys)) {s with heap:=s.heap.push {cls:=.type "list",data:=.seq its.toArray},toks:=t'} :=
 I.laid (λ_ _ q=>Ww _ q) (Wl _) ⟨hz,its,0,hv,W5 _ rfl⟩
theorem Inv.fresh (I:Inv X pins σ H s):H s.heap.objs.size=none:=I.bq.fresh (Wl _)
theorem Inv.xj (I:Inv X pins σ H s)(hH:H l=some (.lst xs)):xs.length<=WA/\∃(its:List Wg) (n:Nat),Vals xs its/\xs.length=its.length/\s.heap.get? l=some {cls:=.type "list",data:=.seq its.toArray n}:=by
 obtain⟨z,its,n,r,e⟩:=I.bq l _ hH;exact⟨z,its,n,r,r.length,e⟩
theorem zO {n:Nat}(h:n<=WA):Z2 n=false:=by
 unfold Z2;exact decide_eq_false (by lia)
end
section
variable {X:Cx}
def CM:V->List V->Hp->VK->Prop:=λx vs H Q=>∃l xs y,x=.ref l/\vs=[y]/\H l=some (.lst xs)/\xs.length<WA/\Q .bE (upd H l (.lst (xs++[y])))
theorem nK:Ry X "list.append" CM:=by
 intro pins s σ H x vs v us Q I rx rv h;obtain⟨l,xs,y,rfl,rfl,hH,hz,q⟩:=h;cases rx;obtain⟨u,rfl,ru⟩:=rv.one;obtain⟨z,its,n,r,hl,e⟩:=I.xj hH;refine YD F.slot_list_append ⟨_,e,rfl⟩ F.entry_list_append (F.args_list_append_2 _ _) (PySem.list_append l its.toArray n u (by rw[WG];lia)) ⟨e,?_⟩
 refine⟨.bE,_,I.HA (its':=its++[u]) hH e (by simp) (r.append (.cons ru .nil)) ?_,rfl,q⟩
 rw[WK,Xn];lia
def Oc:V->List V->Hp->VK->Prop:=λx vs H Q=>∃l xs y,x=.ref l/\vs=[]/\H l=some (.lst xs)/\xs[xs.length-1]?=some y/\Q y (upd H l (.lst xs.dropLast))
theorem Hw:Ry X "list.pop" Oc:=by
 intro pins s σ H x vs v us Q I rx rv h;obtain⟨l,xs,y,rfl,rfl,hH,hy,q⟩:=h;cases rx;have Fq:=rv.zero;subst Fq;obtain⟨z,its,n,r,hl,e⟩:=I.xj hH;obtain⟨u,hu,ru⟩:=r.get hy;have UA:its.toArray[its.toArray.size-1]?=some u:=by
  show its.toArray[its.length-1]?=some u;rw[<- WM,<- hl];exact hu
 refine YD F.slot_list_pop ⟨_,e,rfl⟩ F.entry_list_pop (F.args_list_pop_1 _) (MeetsSeq.list_pop_last l its.toArray n u UA (by rw[WG];lia)) ⟨e,?_⟩
 refine⟨y,_,I.HA (its':=its.dropLast) hH e ?_ r.dropLast ?_,ru,q⟩
 ·show its.toArray.eraseIdxIfInBounds (its.toArray.size-1)=its.dropLast.toArray;rw[WG,List.eraseIdxIfInBounds_toArray,uJ]
 ·rw[List.length_dropLast];lia
def GG:V->List V->Hp->VK->Prop:=λx vs H Q=>∃l xs i k y,x=.ref l/\vs=[.int i]/\H l=some (.lst xs)/\-(2 ^ 63)<=i/\i<2 ^ 63/\seqIndex? i xs.length=some k/\xs[k]?=some y/\Q y (upd H l (.lst (xs.eraseIdx k)))
theorem zS:Ry X "list.pop" GG:=by
 intro pins s σ H x vs v us Q I rx rv h;obtain⟨l,xs,i,k,y,rfl,rfl,hH,h1,h2,hk,hy,q⟩:=h;cases rx;obtain⟨u,rfl,ru⟩:=rv.one;obtain⟨t,rfl⟩:=ru;obtain⟨z,its,n,r,hl,e⟩:=I.xj hH;obtain⟨w,hw,Kv⟩:=r.get hy;refine YD F.slot_list_pop ⟨_,e,rfl⟩ F.entry_list_pop (F.args_list_pop_2 _ _)
  (MeetsSeq.list_pop_at l its.toArray n i t k w (fitsIndex_both h1 h2) (by rw[WG,<- hl];exact hk) (by rw[<- WM];exact hw) (by rw[WG];lia)) ⟨e,?_⟩
 refine⟨y,_,I.HA (its':=its.eraseIdx k) hH e ?_ (r.eraseIdx k) ?_,Kv,q⟩
 ·show its.toArray.eraseIdxIfInBounds k=(its.eraseIdx k).toArray;rw[List.eraseIdxIfInBounds_toArray]
 ·have:=nP xs k;lia
def Oj:R2:=λx y H Q=>∃l b xs zs,x=.ref l/\y=.ref b/\H l=some (.lst xs)/\H b=some (.lst zs)/\xs.length+zs.length<=WA/\∀p,H p=none->Q (.ref p) (upd H p (.lst (xs++zs)))
theorem zI:gZ X (XZ .Add) Oj:=by
 intro pins s σ H x y v u Q I rx ry h;obtain⟨l,b,xs,zs,rfl,rfl,hH,hB,hz,q⟩:=h;cases rx;cases ry;obtain⟨z,its,n,r,hl,e⟩:=I.xj hH;obtain⟨z2,HW,n2,r2,V7,e2⟩:=I.xj hB;refine PySem.P.add_list e e2 ?_ (by rw[WG,WG];lia)
 have ea:its.toArray++HW.toArray=(its++HW).toArray:=by simp
 rw[ea];exact⟨.ref _,_,I.zY (t':=s.toks) (r.append r2) (by rw[WK];lia),rfl,q _ I.fresh⟩
def Ob:R2:=λx y H Q=>∃l k xs,x=.ref l/\y=.int k/\H l=some (.lst xs)/\-(2 ^ 63)<=k/\k<2 ^ 63/\xs.length*k.toNat<=WA /\
 ∀p,H p=none->Q (.ref p) (upd H p (.lst (Xb k.toNat xs).flatten))
theorem len_rep {α:Type}(xs:List α)(k:Nat):(Xb k xs).flatten.length=k*xs.length:=by
 induction k with
 |zero=>simp
 |succ k ih=>rw[Yl,YQ,WK,ih,Nat.succ_mul,Nat.add_comm]
theorem G9:gZ X (XZ .Mult) Ob:=by
 intro pins s σ H x y v u Q I rx ry h;obtain⟨l,k,xs,rfl,rfl,hH,h1,h2,hz,q⟩:=h;cases rx;obtain⟨t,rfl⟩:=ry;obtain⟨z,its,n,r,hl,e⟩:=I.xj hH;have hlen:its.toArray.size*k.toNat<=WA:=by rw[WG,<- hl];exact hz
 have QV:¬ its.toArray.size*k.toNat>(2 ^ 63-1) / 8:=by
  have:(WA:Nat)<=(2 ^ 63-1) / 8:=by decide
  lia
 have uz:¬ (!Builtin.List.listFitsIndex k)=true:=by
  rw[fitsIndex_both h1 h2];exact XY
 have LQ:¬ Z2 (its.toArray.size*k.toNat)=true:=by
  rw[zO hlen];exact XY
 have DU:List.foldl (λx1 x2=>x1++x2) #[] (Xb (if its.toArray.isEmpty=true then 0 else k.toNat) its.toArray)=(Xb k.toNat its).flatten.toArray:=by
  have f0:∀m:Nat,List.foldl (λx1 x2=>x1++x2) #[] (Xb m its.toArray)=(Xb m its).flatten.toArray:=λm=>by
   have:=foldl_rep its m [];rw[List.nil_append]at this;exact this
  rw[f0];cases its with
  |nil=>simp
  |cons a r'=>rw[if_neg (by simp)]
 refine wpAny_binaryOp_repeat_ref (T:="list") (U:="int") (by decide) ⟨_,e,rfl⟩ (λs'=>typeIs_int s' k t) noFill_list_mul F.fills_int_mul F.slot_int_rmul repeat_list F.slot_int_index.lookup
  (YD F.slot_int_rmul (typeIs_int s k t) F.entry_int_rmul (F.args_int_rmul_2 _ _) (int___rmul___int_list k t l its.toArray n)
   ⟨e,rfl,⟨_,e,rfl⟩,YD F.slot_list_mul ⟨_,e,rfl⟩ F.entry_list_mul (F.args_list_mul_2 _ _) (AutoListH.list___mul___list_int_3 l its.toArray n k t uz QV LQ) ⟨e,?_⟩⟩)
 rw[DU];exact⟨.ref _,_,I.zY (t':=s.toks) (r.rep k.toNat) (by rw[len_rep,Nat.mul_comm];exact hz),rfl,q _ I.fresh⟩
end
section
end
section
end
end L2
namespace To
open PySem PySem.W PySem.Calls PyProof.Rows
theorem kK {P:Params}{h:Heap}:∀(ns:List Int) (vs:List Wg),WellAll P h vs (ns.map WData.int)->YF vs ns:=by
 intro ns
 induction ns with
 |nil =>
  intro vs w;rw[List.map_nil]at w;cases w;exact .nil
 |cons n ns ih =>
  intro vs w;rw[W3]at w;cases w with
  |cons a b =>
   cases a;exact .cons _ _ (ih _ b)
theorem wO {l:OpenLaw}{n:Nat}(hn:l.most=some n){P:Params}{h:Heap}{args:List WData}{vals:List Wg}
  (DS:l.row.toRowW.claim.pre args=true) (Pp:WellAll P h vals args) :
  ∃a vs ns,vals=[Value.ref a]/\args=[WData.list (ns.map WData.int)]/\h.get? a=some {cls:=.type "list",data:=.seq vs.toArray}/\YF vs ns/\ns.length<=n:=by
 have UK:WShape.hasAll [] args [.list .int]=true:=(pre_splitW DS).1;have hc:l.pre.holds [] {args:=args}=true:=(pre_splitW DS).2;obtain⟨d,r,rfl,h1,h2⟩:=hasAllW_cons UK;obtain rfl:=hasAllW_nil h2;obtain⟨xs,rfl,h3⟩:=hasW_list h1;obtain⟨ns,rfl⟩:=items_int h3;have hlen:ns.length<=n:=by
  unfold OpenLaw.pre at hc;have h4:(WTm.not (.lt (.lit (.int (n:Int))) (.len (.arg 0)))).holds [] {args:=[.list (ns.map .int)]}=true:=by
   have h4:=(holds_andW hc).1;rw[hn]at h4;exact h4
  have h5:=condW_of h4 (w_not (w_lt w_lit (w_len_list (w_arg rfl))));rw[Wj]at h5;refine Nat.le_of_not_lt λq=>?_;have q':(n:Int)<((ns.length:Nat):Int):=by lia
  first
   | (rw[decide_eq_true q']at h5;exact absurd h5 (by decide))
   | (simp at h5;lia)
 cases Pp with
 |cons w1 w2 =>
  cases w2;cases w1 with
  |list ho mX=>exact⟨_,_,ns,rfl,rfl,ho,kK ns _ mX,hlen⟩
theorem wZ (l:OpenLaw)(args:List WData):l.row.toRowW.claim.post args (.bool true) args=true :=
 postW_of (r:=l.row.toRowW) (X:=(true==true))
  (show WShape.has [] (.bool true) .bool=true by first|rfl|decide|simp[WShape.has,WShape.arms,WShape.armsAll])
  (show (WTm.eq .res (.lit (.bool true))).value [] {args:=args,res:=some (.bool true),after:=args}=some (.bool (true==true)) from w_eq_bool (w_res rfl) w_lit) rfl
theorem sS {l:OpenLaw}{n:Nat}{q:Wq}{loose:List Str}{XP:(Str->Option Wg)->Heap->Prop}{YP:WC->Heap->Prop}{d:DefRec}
  (hn:l.most=some n) (Ng:d.params.defaults=[])
  (call:∀(w:WC) (s₀ s₁:Wi) (mg mb:Str->Option Wg) (fa:Addr) (o:Obj) (pm cd doc:Wg) (a:Addr) (vs:List Wg) (ns:List Int),
   Ground q loose [] XP w s₀ mg mb s₁.heap->YP w s₁.heap ->
   s₁.heap.get? fa=some o->o.data=.func (docDef d.name d.params d.body d.scope pm cd doc)->s₁.heap.CodeRec cd d.name->mg d.name=some (.ref fa) ->
   s₁.heap.get? a=some {cls:=.type "list",data:=.seq vs.toArray}->YF vs ns->ns.length<=n->s₁.gens=#[] ->
   Zo (model l.prog w) callerA (.call (.ref fa) ⟨[.ref a],[]⟩) (λr s'=>r=.ok (.ret (.bool true))/\OldK s₁.heap s'.heap/\s'.os=s₁.os/\ZV s'.gens) s₁) :
  WalkO q loose XP YP l.row.toRowW d [] (λf vs=>PySem.call f vs):=by
 intro w s₀ s₁ mg mb G Y fa o pm cd doc dV kV ho hd vT hD QC hg args vals as DS U1 V2 Pp QD;obtain rfl:dV=.none:=Dflts.none hD Ng;obtain rfl:kV=.none:=Dflts.noKw hD;obtain⟨a,vs,ns,rfl,rfl,II,hints,hlen⟩:=wO hn DS Pp;refine enter_call (YY (call w s₀ s₁ mg mb fa o pm cd doc a vs ns G Y ho (fd_plain hd) vT QC II hints hlen hg) λr s' hq=>?_);obtain⟨rfl,h2,h3,h4⟩:=hq;exact⟨.inl ⟨.bool true,.bool true,[],rfl,λ_=>rfl,.bool true,wZ l _,λ_=>⟨List.Pairwise.nil,λ_ hm=>(nomatch hm)⟩⟩,h2,h3,h4⟩
section
end
end To
namespace L2
open PySem PySem.Spec PyProof.Rows
theorem wC:∀{vs:List Wg} {ns:List Int},YF vs ns->Vals (ns.map V.int) vs:=by
 intro vs ns h
 induction h with
 |nil=>exact .nil
 |cons n t h ih=>exact .cons ⟨t,rfl⟩ ih
def JA (H:Hp):Prop:=∀b,H b=none\/∃o xs,H b=some (.AL o (.lst xs))
theorem z9 {P:Wq}{w:WC}{K:PySem.W.Frag}{mg mb:Str->Option Wg}{CX:yd}{k:Nat}{fa a:Addr}{fd:Xa}{x:Str}{sp:Sp}{s₁:Wi}{vs:List Wg}{ns:List Int}
  (KX:K.In s₁.heap) (Na:s₁.heap.Ns Yp mg) (hb:s₁.heap.Ns builtinsNs mb) (U_:∀x:Str,x≠"__name__" -> mb x=Xp x) (QE:s₁.heap.NoLimit) (hg:s₁.gens=#[])
  (ha:s₁.heap.get? a=some {cls:=.type "list",data:=.seq vs.toArray}) (hi:YF vs ns) (hl:ns.length<=WA) (hr:cg k callerA)
  (F:∀base:Heap,K.In base->base.Ns Yp mg->a9 P w K mg base CX k fa fd [x] sp) (L7:∀(s:Wi) (u:Wg),BindsTo s fd ⟨[u],[]⟩ [(x,u)])
  (iF:∀H:Hp,JA H->eC K H a (ns.map V.int)->sp [.ref a] H (λv _=>v=.bl true) λ_ _ _=>False)
  (QZ:∀H e s',CX [] H s₁ (λ_ _ _=>False) e s'->False) :
  Zo (model P w) callerA (.call (.ref fa) ⟨[.ref a],[]⟩) (λr s'=>r=.ok (.ret (.bool true))/\OldK s₁.heap s'.heap/\s'.os=s₁.os/\ZV s'.gens) s₁:=by
 have rv:=wC hi;have OP:=hi.length;have core:∀H:Hp,JA H->eC K H a (ns.map V.int)->h9 P w H s₁.heap->(∀b,H b≠none->b=a)->(H a≠none->K.lookup a=none) ->
   Zo (model P w) callerA (.call (.ref fa) ⟨[.ref a],[]⟩) (λr s'=>r=.ok (.ret (.bool true))/\OldK s₁.heap s'.heap/\s'.os=s₁.os/\ZV s'.gens) s₁:=by
  intro H hO hS bq hA hK;have wm:∀{b:Addr} {o:Obj},s₁.heap.get? b=some o->H b=none->(pM s₁.heap H).get? b=some o:=λe n=>Az e n;have Lh:∀{b:Addr} {o:Obj} {es:Array DictEntry} {ep:Nat},s₁.heap.get? b=some o->o.data=.dict es ep->H b=none:=λ{b o es ep} e d=>by
   cases q:H b with
   |none=>rfl
   |some u =>
    have e':b=a:=hA b (by rw[q];simp)
    subst e';rw[ha]at e;cases e;have d':Data.seq vs.toArray _=Data.dict es ep:=d;cases d'
  have M1:∀{b:Addr} {m:Str->Option Wg},s₁.heap.Ns b m->(pM s₁.heap H).Ns b m:=λ{b m} PC=>by obtain⟨o,es,ep,e,d,r⟩:=PC;exact⟨o,es,ep,wm e (Lh e d),d,r⟩
  have S7:K.In (pM s₁.heap H):=λb o e=>wm (KX b o e) (by
   cases q:H b with
   |none=>rfl
   |some u =>
    have e':b=a:=hA b (by rw[q];simp)
    subst e';rw[hK (by rw[q];simp)]at e;cases e)
  have hM:Mod K mg (pM s₁.heap H):=⟨S7,M1 Na,⟨mb,M1 hb,U_⟩,let ⟨mc,h1,h2⟩:=QE;⟨mc,M1 h1,h2⟩⟩
  have e0:BX P w K mg (pM s₁.heap H) callerA [] s₁ H:=⟨rfl,hM,λb o e=>Dr e,Nat.le_of_eq (xB _ _),trivial,λb hb=>absurd (show b∈([]:List Addr) from hb) (by simp),bq,.of_eq hg⟩
  refine YY ((F _ S7 (M1 Na)).run callerA [] s₁ H ⟨[.ref a],[]⟩ [.ref a] [.ref a] _ _ hr e0 (L7 s₁ (.ref a)) (.cons rfl .nil) (iF H hO hS)) λr s' h=>?_;cases r with
  |error e=>exact(QZ H e s' h).elim
  |ok fl =>
   cases fl with
   |next=>exact XI h
   |brk=>exact XI h
   |cont=>exact XI h
   |ret u =>
    obtain⟨v,H',os,bare,un,Qw,r',q⟩:=h;have q':v=.bl true:=q;subst q';obtain rfl:u=Value.bool true:=r';refine⟨rfl,OldK.of_keep λb o e=>?_,os,bare⟩;cases q:H b with
    |none=>exact un.keep b o e q (by intro z;exact absurd (show b∈([]:List Addr) from z) (by simp)) (by simp)
    |some u =>
     rcases hO b with z|⟨ob,xs,z⟩
     ·rw[q]at z;cases z
     ·have z2:=un.gY b ob _ z;obtain⟨e1,_⟩:=bq b _ z;obtain⟨e2,_⟩:=Qw b _ z2;rw[e]at e1;cases e1;exact e2
 cases hk:K.lookup a with
 |some o =>
  have e:=KX a o hk;rw[ha]at e;cases e;refine core (λ_=>none) (λ_=>.inl rfl) (.inr ⟨_,vs.toArray,_,hk,rfl,rfl,rfl,by rw[WG,OP];exact hl,by simpa using rv⟩) (λb u z=>by have z':(none:Option HO)=some u:=z;cases z') (λb z=>absurd rfl z) λz=>absurd rfl z
 |none =>
  refine core (λb=>if b=a then some (.AL {cls:=.type "list",data:=.seq vs.toArray} (.lst (ns.map V.int))) else none) (λb=>?_) (.inl (.inr ⟨{cls:=.type "list",data:=.seq vs.toArray},if_pos rfl⟩)) (λb u z=>?_) (λb z=>?_) λ_=>hk
  ·by_cases hb:b=a
   ·exact .inr ⟨_,_,if_pos hb⟩
   ·exact .inl (if_neg hb)
  ·by_cases hb:b=a
   ·have z':=(if_pos hb).symm.trans z;cases z';subst hb;exact⟨ha,by rw[Wj];exact hl,vs,_,rv,ha⟩
   ·have z':=(if_neg hb).symm.trans z;cases z'
  ·by_cases hb:b=a
   ·exact hb
   ·exact absurd (if_neg hb) z
theorem Cq {l:PySem.W.OpenLaw}{n k:Nat}{q:Wq}{loose:List Str}{XP:(Str->Option Wg)->Heap->Prop}{YP:WC->Heap->Prop}{d:DefRec}{K:Params->PySem.W.Frag}{CX:WC->yd}{sp:WC->Sp}{x:Str}
  (hn:l.most=some n) (Nc:n<=WA) (Ng:d.params.defaults=[]) (hr:cg k callerA)
  (hY:∀(w:WC) (h:Heap),YP w h->(K w.params).In h)
  (F:∀(w:WC) (mg:Str->Option Wg) (fa:Addr) (h:Heap),(K w.params).In h->h.Ns Yp mg->mg d.name=some (.ref fa) ->
   ∃fd:Xa,(∀(s:Wi) (u:Wg),BindsTo s fd ⟨[u],[]⟩ [(x,u)]) /\
    ∀base:Heap,(K w.params).In base->base.Ns Yp mg->a9 l.prog w (K w.params) mg base (CX w) k fa fd [x] (sp w))
  (iF:∀(w:WC) (H:Hp) (a:Addr) (ns:List Int),ns.length<=n->JA H->eC (K w.params) H a (ns.map V.int)->sp w [.ref a] H (λv _=>v=.bl true) λ_ _ _=>False)
  (QZ:∀(w:WC) (H:Hp) (s:Wi) (e:Wg) (s':Wi),CX w [] H s (λ_ _ _=>False) e s'->False) :
  PySem.W.WalkO q loose XP YP l.row.toRowW d [] (λf vs=>PySem.call f vs):=by
 refine To.sS hn Ng λw s₀ s₁ mg mb fa o pm cd doc a vs ns G Y ho hd vT QC II hints hlen hg=>?_;have KX:=hY w _ Y;obtain⟨fd,hb,hF⟩:=F w mg fa _ KX G.T.g QC;exact z9 KX G.T.g G.T.b G.T.builtins G.T.nolimit hg II hints (W8 hlen Nc) hr hF hb (λH hO hS=>iF w H a ns hlen hO hS) λH e s'=>QZ w H s₁ e s'
abbrev c6:yd:=λ_ _ _ _ _ _=>False
abbrev E0:XK:=λ_ _ _=>False
theorem Fb {X:Cx}:Passes c6 X E0:=λ_ _ _ _ _ _ _ h=>h.elim
structure BW (K:PySem.W.Frag)(x qual:Str)(st:Stmt)(f:Addr)(fd:Xa):Prop where
 ex:∃(oc:Wg) (od:Option Addr) (kV doc pm:Wg) (an:Option Addr) (bW ct:Wg) (C6:Array (Option Wg)),
  fd=PySem.W.fnOf x qual (kY st) (cP st) (aw st) .none kV doc pm an bW ct/\K.lookup f=some ⟨oc,od,.func fd,C6⟩/\PySem.W.codeIn K bW qual=true
 kp:PySem.W.keepIn K (.ref f)=true
section
variable {P:Wq}{w:WC}{K:PySem.W.Frag}{mg:Str->Option Wg}{base:Heap}
theorem BW.ok {x qual:Str}{st:Stmt}{f:Addr}{fd:Xa}{N ps:List Str}{k:Nat}{sp:Sp}(F:BW K x qual st f fd)(S:aU N ps (aw st))(len:∀vs H Q E,sp vs H Q E->vs.length=ps.length)
  (gq:∀(bW:Wg) (A:Xg) (outer:List Env) (s:Wi) (H:Hp) (vs:List V) (Q:VK) (E:XK),cg k (A.deeper (ZE qual (aw st) s.heap.objs.size f bW))->sp vs H Q E ->
   ∃t,qe (kM c6 P w K mg base N qual (aw st) f bW A outer s H E).mS (cP st) t/\t {nx:=λ_ H'=>Q .bE H',rt:=Q} (start N vs) H):a9 P w K mg base c6 (k+1) f fd ps sp:=by
 obtain⟨oc,od,kV,doc,pm,an,bW,ct,C6,rfl,lk,vT⟩:=F.ex;refine FE lk vT S len λA outer s H vs Q E hr iF=>?_;obtain⟨t,h,q⟩:=gq bW A outer s H vs Q E hr iF;exact⟨t,h.mS,q⟩
theorem IY {x qual:Str}{st:Stmt}{f:Addr}{oc:Wg}{od an:Option Addr}{C6:Array (Option Wg)}{kV doc pm bW ct:Wg}(l:K.lookup f=some ⟨oc,od,.func (PySem.W.fnOf x qual (kY st) (cP st) (aw st) .none kV doc pm an bW ct),C6⟩)
  (c:PySem.W.codeIn K bW qual=true) (k:PySem.W.keepIn K (.ref f)=true):BW K x qual st f (PySem.W.fnOf x qual (kY st) (cP st) (aw st) .none kV doc pm an bW ct):=⟨⟨oc,od,kV,doc,pm,an,bW,ct,C6,rfl,l,c⟩,k⟩
end
section
variable {X:Cx}
theorem pv (i:Nat){x:Str}{pos:Pos}(hN:X.N[i]?=some x:=by rfl)(hv:J2 X.env.scope x:=by first|exact Or.inl rfl|exact Or.inr (Or.inl rfl)|exact Or.inr (Or.inr rfl))(hd:(x==("__debug__" : Str))=false:=by decide)
  (vT:(x==("__classdict__" : Str))=false:=by decide):PE X (.Name x pos) (Gk i):=zj hN hv hd vT
end
def ay (H H':Hp):Prop:=∀b o,H b=some o->H' b=some o
theorem ay.refl (H:Hp):ay H H:=λ_ _ h=>h
theorem ay.trans {H H1 H2:Hp}(a:ay H H1)(b:ay H1 H2):ay H H2:=λc o h=>b c o (a c o h)
theorem ay.free {H H':Hp}(e:ay H H'){l:Addr}(h:H' l=Option.none):H l=Option.none:=by
 cases q:H l with
 |none=>rfl
 |some o =>
  rw[e l o q]at h;cases h
theorem ay.seq {K:PySem.W.Frag}{H H':Hp}{a:Addr}{xs:List V}(e:ay H H')(h:eC K H a xs):eC K H' a xs:=by
 rcases h with (h|⟨o,h⟩)|h
 ·exact .inl (.inl (e _ _ h))
 ·exact .inl (.inr ⟨o,e _ _ h⟩)
 ·exact .inr h
structure Nm (X:Cx)(i:Nat)(x:Str):Prop where
 a:X.N[i]?=some x
 b:J2 X.env.scope x
 c:(x==("__debug__" : Str))=false
 d:(x==("__classdict__" : Str))=false
theorem JJ {X:Cx}{i:Nat}{x:Str}(a:X.N[i]?=some x:=by rfl)(b:J2 X.env.scope x:=by first|exact .inl rfl|exact .inr (.inl rfl)|exact .inr (.inr rfl))(c:(x==("__debug__" : Str))=false:=by decide)(d:(x==("__classdict__" : Str))=false:=by decide):Nm X i x:=⟨a,b,c,d⟩
theorem nE {X:Cx}{i:Nat}{x:Str}{pos:Pos}(h:Nm X i x):PE X (.Name x pos) (Gk i):=zj h.a h.b h.c h.d
section
variable {X:Cx}{a b c:Expr}{ta tb:TE}{pos:Pos}
def wz (i j:Int):Prop:=0<j/\j.natAbs.log2<9000
theorem wz.of {i j:Int}(h0:0<j)(h:j<2 ^ 200):wz i j:=by
 refine⟨h0,?_⟩;have h2:j.natAbs<2 ^ 200:=by lia
 have:=(Nat.log2_lt (n:=j.natAbs) (k:=200) (by lia)).mpr h2
 lia
theorem zE:gZ X (XZ .FloorDiv) (rI wz λi j=>.int (i / j)):=JI λi j _ _ _ _ _ hc q=>by
 have h1:(0:Int)<j:=hc.1;exact floordiv_int (by lia) (by rw[Int.fdiv_eq_ediv_of_nonneg i (by lia)];exact q) (.inl (PyProof.noPylong_of_log2 hc.2))
def FZ (X:Cx)(ops:List Zt)(rs:List Expr)(t:V->TE):Prop :=
 ∀(pos:Pos) (pins:List (Addr×Obj)) (s:Wi) (σ:St) (H:Hp) (x:V) (v:Wg) (Q:VK),Inv X pins σ H s->RelV x v->t x σ H Q ->
  WT (model X.prog X.w) X.A (compareChain pos v ops (evalEach rs X.env)) (EP X pins σ Q) X.xe s
def tq (X:Cx)(ops:List Zt)(rs:List Expr)(t:V->TT):Prop :=
 ∀(pos:Pos) (pins:List (Addr×Obj)) (s:Wi) (σ:St) (H:Hp) (x:V) (v:Wg) (Q:Bool->Hp->Prop),Inv X pins σ H s->RelV x v->t x σ H Q ->
  WT (model X.prog X.w) X.A (testChain pos v ops (evalEach rs X.env)) (TP X pins σ Q) X.xe s
variable {op Hf:Zt}{ops:List Zt}{rs:List Expr}{r:R2}{t:V->TE}{tt:V->TT}
theorem Jo (ho:gZ X (Xm op) r)(hb:PE X b tb):FZ X [op] [b] (λx σ H Q=>tb σ H λy H2=>r x y H2 Q):=by
 intro pos pins s σ H x v Q I rx h;exact chain_last (bx (hb pins s σ H _ I h) λu s1 mW=>by obtain⟨y,H1,I1,r1,q1⟩:=mW;exact ho pins s1 σ H1 x y v u Q I1 rx r1 q1)
theorem ED (ho:gZ X (Xm op) r)(hb:PE X b tb)(hc:FZ X (Hf::ops) (c::rs) t):
  FZ X (op::Hf::ops) (b::c::rs) (λx σ H Q=>tb σ H λy H2=>r x y H2 λz H3=>∃k,z=.bl k/\(if k=true then t y σ H3 Q else Q (.bl false) H3)):=by
 intro pos pins s σ H x v Q I rx h;refine chain_link (bx (hb pins s σ H _ I h) λu s1 ⟨y,H1,I1,r1,q1⟩=>bx (ho pins s1 σ H1 x y v u _ I1 rx r1 q1) λd s3 mT=>?_);obtain⟨z,H3,I3,r3,k,e,q3⟩:=mT;subst e;cases r3;refine X2 ?_;cases k with
 |false=>exact ite_ff ⟨.bl false,H3,I3,rfl,q3⟩
 |true=>exact ite_tt (hc pos pins s3 σ H3 y u Q I3 r1 q3)
theorem w_ {dN dM:Zt}(ha:PE X a ta)(hc:FZ X (dN::dM::ops) (b::c::rs) t)(hm:lastMarks (dN::dM::ops) (b::c::rs)=false:=by with_unfolding_all rfl):
  PE X (.Compare a (dN::dM::ops) (b::c::rs) pos) (λσ H Q=>ta σ H λx H1=>t x σ H1 Q):=by
 intro pins s σ H Q I h;exact Compare_chain (bx (ha pins s σ H _ I h) λv s1 Qd=>by obtain⟨x,H1,I1,r1,q1⟩:=Qd;exact hc pos pins s1 σ H1 x v Q I1 r1 q1) hm
theorem EC (ho:gZ X (Xm op) r)(hb:PE X b tb):tq X [op] [b] (λx σ H Q=>tb σ H λy H2=>r x y H2 λz H3=>∃k,z=.bl k/\Q k H3):=by
 intro pos pins s σ H x v Q I rx h;refine test_last (bx (hb pins s σ H _ I h) λu s1 ⟨y,H1,I1,r1,q1⟩=>bx (ho pins s1 σ H1 x y v u _ I1 rx r1 q1) λd s3 xt=>?_);obtain⟨z,H3,I3,r3,k,e,q3⟩:=xt;subst e;cases r3;exact X2 ⟨H3,I3,q3⟩
theorem Bx (ho:gZ X (Xm op) r)(hb:PE X b tb)(hc:tq X (Hf::ops) (c::rs) tt):
  tq X (op::Hf::ops) (b::c::rs) (λx σ H Q=>tb σ H λy H2=>r x y H2 λz H3=>∃k,z=.bl k/\(if k=true then tt y σ H3 Q else Q false H3)):=by
 intro pos pins s σ H x v Q I rx h;refine test_link (bx (hb pins s σ H _ I h) λu s1 ⟨y,H1,I1,r1,q1⟩=>bx (ho pins s1 σ H1 x y v u _ I1 rx r1 q1) λd s3 Ia=>?_);obtain⟨z,H3,I3,r3,k,e,q3⟩:=Ia;subst e;cases r3;refine X2 ?_;cases k with
 |false=>exact ite_ff ⟨H3,I3,q3⟩
 |true=>exact ite_tt (hc pos pins s3 σ H3 y u Q I3 r1 q3)
theorem wX {dN dM:Zt}(ha:PE X a ta)(hc:tq X (dN::dM::ops) (b::c::rs) tt)(hm:lastMarks (dN::dM::ops) (b::c::rs)=false:=by with_unfolding_all rfl):
  PT X (.Compare a (dN::dM::ops) (b::c::rs) pos) (λσ H Q=>ta σ H λx H1=>tt x σ H1 Q):=by
 intro pins s σ H Q I h;exact isTrue_chain (bx (ha pins s σ H _ I h) λv s1 DR=>by obtain⟨x,H1,I1,r1,q1⟩:=DR;exact hc pos pins s1 σ H1 x v Q I1 r1 q1) hm
end
theorem uY:Xp "max" = some (.builtin "max"):=by decide +kernel
theorem p_:Xp "min" = some (.builtin "min"):=by decide +kernel
theorem mz:Xp "int" = some (.type "int"):=by decide +kernel
theorem EG:Xp "list" = some (.type "list"):=by decide +kernel
theorem dA:Xp "sorted" = some (.builtin "sorted"):=by decide +kernel
theorem Jt:Xp "isinstance" = some (.builtin "isinstance"):=by decide +kernel
theorem c5:Xp "len" = some (.builtin "len"):=by decide +kernel
theorem ay.new {H:Hp}{p:Addr}{o:HO}(n:H p=none):ay H (L2.upd H p o):=λb u e=>by rw[aC (cb e n)];exact e
section
end
theorem KY:BZ 10 18:=⟨by decide,by decide,by decide⟩
section
end
noncomputable def aZ (X:Cx)(scope:Zc)(N':List Str)(cl:List (Str×Addr))(C:Addr)(s:Wi)(H:Hp)(ex:List Addr):Cx :=
 {X with N:=N',s₀:=s,H₀:=H,env:=compEnvC scope cl C X.env,outer:=X.stack,stack:=X.stack,ex:=ex,fn:=λ_=>false,pn:=[],xe:=λ_ _=>False}
theorem iC {env:Env}:∀(names:List (Str×Zs)) (cs:List (Str×Addr)),(∀x,(x,Xl)∈names->∃c,env.cells.lookup x=some c) ->
  (∀x c,cs.lookup x=some c->env.cells.lookup x=some c) ->
  ∃cl,(forIn names cs λ(p:Str×Zs) (cs:List (Str×Addr))=>do
   if p.2==.free then do
    let a <- cellOf env p.1
    pure (ForInStep.yield ((p.1,a)::cs))
   else pure (ForInStep.yield cs):Sem (List (Str×Addr)))=pure cl /\
   (∀x,((x,Xl)∈names\/(∃c,cs.lookup x=some c))->∃c,cl.lookup x=some c)/\∀x c,cl.lookup x=some c->env.cells.lookup x=some c
 |[],cs,_,Nh=>⟨cs,rfl,λx h=>h.elim (λz=>nomatch z) id,Nh⟩
 | (n,k)::names,cs,hf,Nh=>by
  by_cases hk:k=.free
  ·subst hk;obtain⟨c,hc⟩:=hf n (Wo ..);obtain⟨cl,e,h1,h2⟩:=iC names ((n,c)::cs) (λx hx=>hf x (Wm _ hx)) (λx c' hx=>by
    rw[XN]at hx;cases q:x==n with
    |true=>rw[q]at hx;cases hx;rw[eq_of_beq q];exact hc
    |false=>rw[q]at hx;exact Nh x c' hx)
   refine⟨cl,?_,λx hx=>h1 x ?_,h2⟩
   ·rw[List.forIn_cons];have ec:cellOf env n=pure c:=by unfold cellOf;rw[hc]
    simp only[beq_self_eq_true,if_true,ec];exact e
   ·rcases hx with hx|⟨c',hx⟩
    ·rcases Ws.mp hx with z|z
     ·cases z;exact .inr ⟨c,by simp⟩
     ·exact .inl z
    ·right
     rw[XN];cases q:x==n with
     |true=>exact⟨c,rfl⟩
     |false=>exact⟨c',hx⟩
  ·obtain⟨cl,e,h1,h2⟩:=iC names cs (λx hx=>hf x (Wm _ hx)) Nh;refine⟨cl,?_,λx hx=>h1 x ?_,h2⟩
   ·rw[List.forIn_cons];have hb:(k==Xl)=false:=by simpa using hk
    simp only[hb,Y_,if_false];exact e
   ·rcases hx with hx|hx
    ·rcases Ws.mp hx with z|z
     ·cases z;exact absurd rfl hk
     ·exact .inl z
    ·exact .inr hx
theorem hZ {env:Env}{scope:Zc}(h:∀x,(x,Xl)∈scope.names->∃c,env.cells.lookup x=some c):
  ∃cl,closureFor scope env=pure cl/\(∀x,(x,Xl)∈scope.names->∃c,cl.lookup x=some c)/\∀x c,cl.lookup x=some c->env.cells.lookup x=some c:=by
 obtain⟨cl,e,h1,h2⟩:=iC scope.names [] h (λx c z=>by simp at z)
 refine⟨cl,?_,λx hx=>h1 x (.inl hx),h2⟩;unfold closureFor;refine Eq.trans ?_ (congrArg (· >>= pure) e);rfl
structure Links (X:Cx)(scope:Zc)(N':List Str)(lk:List (Option Nat)):Prop where
 kind:scope.kind=.function
 ue:∀x∈scope.names,x.2≠.cell
 names:∀x∈scope.names,x.2=.local->scope.names.lookup x.1=some .local
 free:∀x,(x,Xl)∈scope.names->X.env.kindOf x=some .cell\/X.env.kindOf x=some .free
 len:lk.length=N'.length
 link:∀(i j:Nat),lk[i]?=some (some j)->∃x,N'[i]?=some x/\X.N[j]?=some x/\(x,Xl)∈scope.names/\scope.names.lookup x=some .free
noncomputable def lX (outer:List (Str×Zs))(N:List Str)(scope:Zc)(N':List Str)(lk:List (Option Nat)):Bool :=
 (scope.kind==.function)&&scope.names.all (λx=>x.2 != .cell&&(x.2 != .local || scope.names.lookup x.1==some .local)&&(x.2 != .free || outer.lookup x.1==some .cell || outer.lookup x.1==some .free)) &&
 lk.length==N'.length&&(Xd lk.length).all λi=>match lk[i]? with
  |some (some j)=>match N'[i]? with
   |some x=>N[j]?==some x&&scope.names.contains (x,.free)&&scope.names.lookup x==some .free
   |none=>false
  |_=>true
theorem Links.of {X:Cx}{scope:Zc}{N':List Str}{lk:List (Option Nat)}(h:lX X.env.scope.names X.N scope N' lk=true):Links X scope N' lk:=by
 simp only[lX,Xi]at h;obtain⟨⟨⟨h1,h2⟩,h3⟩,h4⟩:=h;rw[X_]at h2 h4;refine⟨by simpa using h1,λx hx=>?_,λx hx hl=>?_,λx hx=>?_,by simpa using h3,λi j aQ=>?_⟩
 ·have:=h2 x hx;simp only[Xi]at this;simpa using this.1.1
 ·have:=h2 x hx;simp only[Xi]at this;have q:=this.1.2;rw[hl]at q;simpa using q
 ·have:=h2 _ hx;simp only[Xi]at this;have q:=this.2;simp only[Zw]at q;rcases q with (q|q)|q
  ·simp at q
  ·exact .inl (show X.env.scope.names.lookup x=some .cell by simpa using q)
  ·exact .inr (show X.env.scope.names.lookup x=some .free by simpa using q)
 ·have hi:i<lk.length:=(WI.mp aQ).1;have q:=h4 i (Xz.mpr hi);rw[aQ]at q;simp only at q;cases e:N'[i]? with
  |none=>rw[e]at q;simp at q
  |some x =>
   rw[e]at q;simp only[Xi]at q;obtain⟨⟨q1,q2⟩,q3⟩:=q;exact⟨x,rfl,by simpa using q1,by simpa using q2,by simpa using q3⟩
noncomputable def dq (lk:List (Option Nat))(σ:St):St:=lk.map λl=>match l with|some j=>(match σ[j]? with|some v=>v|none=>none)|none=>none
theorem c8 {env:Env}:∀{names:List (Str×Zs)} {x:Str},names.lookup x=some .free ->
  (names.map λ(n,k)=>if (k==Xl&&env.scope.kind==.function&&env.kindOf n==some .cell) then (n,Y4) else (n,k)).lookup x=some .cell \/
  (names.map λ(n,k)=>if (k==Xl&&env.scope.kind==.function&&env.kindOf n==some .cell) then (n,Y4) else (n,k)).lookup x=some .free
 |[],_,h=>by simp at h
 | (n,k)::r,x,h=>by
  have ih:=@c8 env r x;show List.lookup x ((if (k==Xl&&env.scope.kind==.function&&env.kindOf n==some .cell)=true then (n,Y4) else (n,k))::_)=_ \/
   List.lookup x ((if (k==Xl&&env.scope.kind==.function&&env.kindOf n==some .cell)=true then (n,Y4) else (n,k))::_)=_
  cases hx:x==n with
  |true =>
   simp only[XN,hx]at h;cases h
   by_cases hc:(Xl==Xl&&env.scope.kind==.function&&env.kindOf n==some .cell)=true
   ·rw[if_pos hc];left;simp[XN,hx]
   ·rw[if_neg hc];right;simp[XN,hx]
  |false =>
   simp only[XN,hx]at h
   by_cases hc:(k==Xl&&env.scope.kind==.function&&env.kindOf n==some .cell)=true
   ·rw[if_pos hc];simp only[XN,hx];exact ih h
   ·rw[if_neg hc];simp only[XN,hx];exact ih h
theorem cZ {env:Env}:∀{names:List (Str×Zs)} {x:Str} {k:Zs},(k=.cell\/k=.free)->(∀y∈names,y.2≠.cell) ->
  (names.map λ(n,k)=>if (k==Xl&&env.scope.kind==.function&&env.kindOf n==some .cell) then (n,Y4) else (n,k)).lookup x=some k->(x,Xl)∈names
 |[],_,_,_,_,h=>by simp at h
 | (n,k')::r,x,k,hk,hc,h=>by
  have ih:=@cZ env r x k hk (λy hy=>hc y (Wm _ hy));have h':List.lookup x ((if (k'==Xl&&env.scope.kind==.function&&env.kindOf n==some .cell)=true then (n,Y4) else (n,k'))::(r.map λ(n,k)=>if (k==Xl&&env.scope.kind==.function&&env.kindOf n==some .cell) then (n,Y4) else (n,k)))=some k:=h
  have QJ:=hc (n,k') (Wo ..)
  by_cases DY:(k'==Xl&&env.scope.kind==.function&&env.kindOf n==some .cell)=true
  ·rw[if_pos DY]at h';simp only[Xi,beq_iff_eq]at DY;cases hx:x==n with
   |true=>rw[eq_of_beq hx,DY.1.1];exact Wo ..
   |false=>rw[XN,hx]at h';exact Wm _ (ih h')
  ·rw[if_neg DY]at h';cases hx:x==n with
   |true =>
    rw[XN,hx]at h';have e:k'=k:=by simpa using h'
    subst e;rcases hk with hk|hk
    ·exact absurd hk QJ
    ·rw[eq_of_beq hx,hk];exact Wo ..
   |false=>rw[XN,hx]at h';exact Wm _ (ih h')
section
variable {X:Cx}{pins:List (Addr×Obj)}{σ:St}{H:Hp}{s:Wi}{scope:Zc}{N':List Str}{lk:List (Option Nat)}{cl:List (Str×Addr)}{ex:List Addr}
theorem Ai {h':Heap}{t':Nat}(I:Inv X pins σ H s)(L:Links X scope N' lk)(hex:∀b∈ex,gz X pins H b)(Qy:∀b∈ex,∃o,s.heap.get? b=some o)
  (rN:∀x,(x,Xl)∈scope.names->∃c,cl.lookup x=some c) (qj:∀x c,cl.lookup x=some c->X.env.cells.lookup x=some c)
  (hn:h'.Ns s.heap.objs.size (λ_=>none)) (hk:∀b o,s.heap.get? b=some o->h'.get? b=some o) :
  Inv (aZ X scope N' cl s.heap.objs.size s H ex) [] (dq lk σ) H {s with heap:=h',toks:=t'}:=by
 obtain⟨m,hm,hl⟩:=I.loc;have Vm:∀b∈ex,b≠s.heap.objs.size:=λb hb=>by
  obtain⟨o,e⟩:=Qy b hb;exact WZ (WB e)
 refine⟨⟨I.ok.mod,L.kind,I.ok.glob,I.ok.blt,Wl _,λx y c h1 h2=>I.ok.inj x y c (qj _ _ h1) (qj _ _ h2),λx hx=>?_,λx c z=>(nomatch z),I.ok.hd,I.ok.frames,.inl rfl,
  λb hb=>⟨Vm b hb,λx c e=>(hex b hb).2.2.2.2.1 x c (qj _ _ e)⟩,I.bs,W8 I.ok.xU I.sz,λb o e z=>?_,λb hb z=>?_,I.stack,I.oS⟩,
  rfl,I.bare,Un.kept hk,⟨_,hn,λi x v h1 h2 h3=>?_⟩,λx c e=>?_,I.bq.fresh (Wl _),λx c e=>I.cR x c (qj _ _ e),λp hp=>absurd (show p∈([]:List (Addr×Obj)) from hp) (by simp),I.bq.kept hk,?_⟩
 ·have JQ:(relabel scope X.env).names.lookup x=some .cell\/(relabel scope X.env).names.lookup x=some .free:=hx;rcases JQ with q|q
  ·exact rN x (cZ (.inl rfl) L.ue q)
  ·exact rN x (cZ (.inr rfl) L.ue q)
 ·obtain⟨f0,f1,f2,f3,_⟩:=hex b z;rcases f3 with q|q
  ·exact I.ok.pF b o e q
  ·have h1:=WB e;have h2:=I.ok.xU;exact absurd (WU h1 (W8 h2 q)) (Yw _)
 ·obtain⟨f0,f1,f2,f3,_⟩:=hex b hb;rcases Ws.mp (I.tT b z)with q|q
  ·exact f1 q
  ·exact f2 q
 ·have hi:∃j,lk[i]?=some (some j)/\σ[j]?=some (some v):=by
   have AE:(dq lk σ)[i]?=some (some v):=h2;unfold dq at AE;rw[WH]at AE;cases e:lk[i]? with
   |none=>rw[e]at AE;cases AE
   |some l =>
    cases l with
    |none=>rw[e]at AE;cases AE
    |some j =>
     rw[e]at AE;cases e2:σ[j]? with
     |none=>simp[e2]at AE
     |some w' =>
      simp only[Option.map_some,e2,Option.some.injEq]at AE;subst AE;exact⟨j,rfl,e2⟩
  obtain⟨j,hj,hσ⟩:=hi;obtain⟨y,e1,e2,e3,e4⟩:=L.link i j hj;have Vl:x=y:=by
   have Eb:N'[i]?=some x:=h1;rw[e1]at Eb;exact(WR Eb).symm
  subst Vl;have Pw:J2 X.env.scope x:=by
   rcases L.free x e3 with q|q
   ·exact .inr (.inl q)
   ·exact .inr (.inr q)
  obtain⟨u,ru,lu⟩:=hl j x v e2 hσ Pw;refine⟨u,ru,.inr ⟨?_,?_⟩⟩
  ·exact c8 e4
  ·rcases lu with⟨k,_⟩|⟨_,c,hc,z⟩
   ·rcases L.free x e3 with q|q <;> (rw[k]at q;cases q)
   ·obtain⟨c',x9⟩:=rN x e3;have:=qj x c' x9;rw[hc]at this;cases this;obtain⟨o,ho,hd⟩:=z;exact⟨c,x9,o,hk _ _ ho,hd⟩
 ·obtain⟨v,o,ho,hd⟩:=I.cell x c (qj _ _ e);exact⟨v,o,hk _ _ ho,hd⟩
 ·show (dq lk σ).length=N'.length;unfold dq;rw[Wj,L.len]
theorem Aj {s':Wi}{σ':St}{H':Hp}{pl:List (Addr×Obj)}{C:Addr}{h'':Heap}(I:Inv X pins σ H s)(hex:∀b∈ex,gz X pins H b)
  (J:Inv (aZ X scope N' cl s.heap.objs.size s H ex) pl σ' H' s') (hs:Y0 s.heap.objs.size s'.heap h''):Inv X pins σ H' {s' with heap:=h''}:=by
 have hC:H' s.heap.objs.size=none:=J.free;have u:=J.base;refine I.FU (ch:=ex) (s':={s' with heap:=h''}) J.os ?_ ?_ J.bare (λb hb=>?_)
 ·have kk:∀b o,b≠s.heap.objs.size->s'.heap.get? b=some o->h''.get? b=some o:=λb o hb e=>(hs.2 b hb).trans e;have ne:∀b o,s.heap.get? b=some o->b≠s.heap.objs.size:=λb o e=>WZ (WB e);refine⟨λb o e n hb hx=>kk b _ (ne b o e) (u.keep b o e n hb hx),λb o e n hb hx=>?_,u.free,λb o e hx=>?_,u.h_,u.gY,u.ia⟩
  ·obtain⟨sl,q⟩:=u.slot b o e n hb hx;exact⟨sl,kk b _ (ne b o e) q⟩
  ·obtain⟨o',q⟩:=u.there b o e hx;exact⟨o',kk b _ (ne b o e) q⟩
 ·intro b o e;have hb:b≠s.heap.objs.size:=λz=>by rw[z]at e;rw[hC]at e;cases e
  refine(J.bq b o e).iQ (λc v hc q=>(hs.2 c ?_).trans q) (λ_ q=>q) λ_ _ q=>q;rcases hc with z|z
  ·rw[z];exact hb
  ·intro z';rw[z']at z;rw[hC]at z;cases z
 ·obtain⟨f0,f1,f2,f3,f4,f5⟩:=hex b hb;exact⟨f3,f1,f4,f5⟩
end
noncomputable def lg (g:ZZ)(after:Sem Fin->Sem Fin)(e:Expr)(d:Nat)(it acc:Wg)(env:Env):Sem Fin:=do
 standAt g.iter.pos
 match <- pyNext it with
 |none=>pure (.done .next)
 |some v =>
  letOwnedTupleGo g.target it v
  assign g.target env v
  let mut ok:=true
  for c in g.ifs do
   if ok then ok <- isTrue c env (eval c env)
  if ok then after (again (.compLoop e d it acc env)) else again (.compLoop e d it acc env)
def nj (t:Sem Unit)(k:Sem Fin):Sem Fin:=do
 t
 k
def Bb (elt:Expr)(acc:Wg)(env:Env):Sem Unit:=do let _ <- call (.builtin "list.append") [acc,<- eval elt env]
def Ba (elt:Expr)(acc:Wg)(env:Env):Sem Unit:=do let v <- eval elt env;standAt elt.pos;let _ <- call (.builtin "set.add") [acc,v]
structure kB (e:Expr)(d:Nat)(g:ZZ)(acc:Wg)(env:Env)(after:Sem Fin->Sem Fin):Prop where
 turn:∀it,compTurn e d it acc env=lg g after e d it acc env
 cl:(clausesOf e)[d]?=some g
 sync:g.is_async=0
 quiet:∀it,(Z0 e d it acc env).quiet=true
 under:∀(A:Xg) it,A.under (Z0 e d it acc env)=A
 Ge:∀(A:Xg) it,A.under (Code.compStart e d it acc env)=A
 Ht:∀it,(Z0 e d it acc env).isFrame=false
 Lg:∀it,(Code.compStart e d it acc env).isFrame=false
section
variable {elt tg gk:Expr}{ifs:List Expr}{sc:Zc}{pos:Pos}{acc:Wg}{env:Env}
theorem FT:kB (.ListComp elt [⟨tg,gk,ifs,0⟩] sc pos) 0 ⟨tg,gk,ifs,0⟩ acc env (nj (Bb elt acc env)) :=
 ⟨λ_=>rfl,rfl,rfl,λ_=>rfl,λ_ _=>rfl,λ_ _=>rfl,λ_=>rfl,λ_=>rfl⟩
theorem MD:kB (.SetComp elt [⟨tg,gk,ifs,0⟩] sc pos) 0 ⟨tg,gk,ifs,0⟩ acc env (nj (Ba elt acc env)) :=
 ⟨λ_=>rfl,rfl,rfl,λ_=>rfl,λ_ _=>rfl,λ_ _=>rfl,λ_=>rfl,λ_=>rfl⟩
end
def Kc:TT:=λ_ H Q=>Q true H
def xX (X:Cx)(ifs:List Expr)(t:TT):Prop :=
 ∀(pins:List (Addr×Obj)) (s:Wi) (σ:St) (H:Hp) (Q:Bool->Hp->Prop),Inv X pins σ H s->t σ H Q ->
  WT (model X.prog X.w) X.A (forIn ifs true λc r=>if r=true then do let ok <- isTrue c X.env (eval c X.env);pure (ForInStep.yield ok) else pure (ForInStep.yield r)) (TP X pins σ Q) X.xe s
theorem CN {X:Cx}:xX X [] Kc:=λ_ _ _ H _ I h=>wpAny_tests_nil ⟨H,I,h⟩
abbrev m_:=(St->Hp->Prop)->St->Hp->Prop
def td (X:Cx)(after:Sem Fin->Sem Fin)(t:m_):Prop :=
 ∀(pins:List (Addr×Obj)) (s:Wi) (σ:St) (H:Hp) (N:St->Hp->Prop) (k:Sem Fin) (Q:Fin->Wi->Prop) (E:Wg->Wi->Prop),Inv X pins σ H s->t N σ H ->
  (∀σ' H' s',Inv X pins σ' H' s'->N σ' H'->WT (model X.prog X.w) X.A k Q E s')->WT (model X.prog X.w) X.A (after k) Q E s
theorem i9 {X:Cx}(hx:X.xe=λ_ _=>False){α:Type}{t:Sem α}{Q:α->Wi->Prop}{E:Wg->Wi->Prop}{s:Wi}(h:WT (model X.prog X.w) X.A t Q X.xe s):WT (model X.prog X.w) X.A t Q E s :=
 YC h (λ_ _ q=>q) λe s q=>by rw[hx]at q;exact q.elim
def g6 (J:It)(g:TG)(tt:TT)(ta:m_)(End:St->Hp->Prop):St->Hp->Prop:=λσ H =>
 ∃W:Nat->Nat->St->Hp->Prop,(∃m,W 0 m σ H)/\∀i m σ H,W i m σ H->(J.stop i H/\End σ H) \/
  (J.go i H/\∃N:St->Hp->Prop,(∀σ' H',N σ' H'->∃m',m'<m/\W (i+1) m' σ' H')/\∀x H',J.J6 i H x H'->g x σ H' λσ2 H2=>tt σ2 H2 λb H3=>if b=true then ta N σ2 H3 else N σ2 H3)
section
variable {X:Cx}{e:Expr}{d:Nat}{g:ZZ}{acc:Wg}{after:Sem Fin->Sem Fin}{tg:TG}{tt:TT}{ta:m_}
theorem xM (hx:X.xe=λ_ _=>False)(hc:X.calm=true)(F:kB e d g acc X.env after)(hg:PG X g.target tg)(ht:xX X g.ifs tt)(ha:td X after ta)
  {it:Addr} {fp:List Addr} {tn:Nat->Heap->Prop} {J:It} (T:Turn X.prog X.w X.K g.target J fp it tn) {pins:List (Addr×Obj)} {σ:St} {H:Hp} {s:Wi} {End:St->Hp->Prop}
  (I:Inv X pins σ H s) (st:tn 0 s.heap) (hf:∀b∈fp,gz X pins H b) (h:g6 J tg tt ta End σ H) :
  Zo (model X.prog X.w) X.A (.compLoop e d (.ref it) acc X.env) (λr s'=>r=.ok .next/\∃σ' H',Inv X pins σ' H' s'/\End σ' H') s:=by
 obtain⟨W,⟨m0,w0⟩,turn⟩:=h;have tU:∀{H':Hp},(∀b∈fp,H' b=none)->∀b∈fp,gz X pins H' b:=λhn b hb=>⟨hn b hb,(hf b hb).2⟩;refine codeAny_loop (F.quiet _) (λn s'=>∃i σ' H',Inv X pins σ' H' s'/\tn i s'.heap/\(∀b∈fp,H' b=none)/\W i n σ' H') (λn s3 hI=>?_) m0 ⟨0,σ,H,I,st,λb hb=>(hf b hb).1,w0⟩;obtain⟨i,σ3,H3,I3,lz,Mb,w3⟩:=hI;rw[F.under];have IT:(model X.prog X.w).den (.compLoop e d (.ref it) acc X.env)=(lg g after e d (.ref it) acc X.env).onRaise (λx=>do noteFrame x X.env;theTreesLotGoes x):=by
  rw[<- F.turn];show (if (Z0 e d (.ref it) acc X.env).isFrame then _ else _)=_
  rw[F.Ht];rfl
 rw[IT];refine wpAny_noted ?_;unfold lg;rcases turn i n σ3 H3 w3 with⟨stop,qn⟩|⟨go,N,hN,step⟩
 ·refine Wh (YJ (Wh (bx (T.done X rfl rfl rfl hc i pins s3 σ3 H3 _ I3 (tU Mb) lz stop) λr s4 mT=>?_)));obtain⟨hr,I4⟩:=mT;subst hr;exact Wu ⟨rfl,σ3,H3,I4,qn⟩
 ·refine Wh (YJ (Wh (bx (T.item X rfl rfl rfl hc i pins s3 σ3 H3 _ I3 (tU Mb) lz go) λr s4 xt=>?_)));obtain⟨u,hr,h4⟩:=xt;subst hr;refine Wh (bx h4 λ_ s5 Ia=>?_);obtain⟨x,H5,I5,r5,y5,Gp,Q6⟩:=Ia;have RA:=I5.pinned (tU Q6) (T.obj _ _ Gp);refine Wh (bx (i9 hx (hg _ s5 σ3 H5 x u _ RA r5 (step x H5 y5))) λ_ s6 Pu=>?_);obtain⟨σ6,H6,I6,q6⟩:=Pu;refine Wh (bx (i9 hx (ht _ s6 σ6 H6 _ I6 q6)) λok s7 Pt=>?_);obtain⟨H7,I7,q7⟩:=Pt;have BO:∀{σ8:St} {H8:Hp} {s8:Wi},Inv X (pins++lL fp s5.heap) σ8 H8 s8->N σ8 H8->∃m,m<n/\∃i σ' H',Inv X pins σ' H' s8/\tn i s8.heap/\(∀b∈fp,H' b=none)/\W i m σ' H':=λ{σ8 H8 s8} I8 n8=>by
   obtain⟨m',hm,w8⟩:=hN σ8 H8 n8;refine⟨m',hm,i+1,σ8,H8,I8.iL,T.keep _ _ _ Gp λb hb o e=>(I8.pin (b,o) (W9 _ (W9 _ (fv hb e)))).1,λb hb=>?_,w8⟩;obtain⟨o,e,d⟩:=T.obj _ _ Gp b hb;exact(I8.pin (b,o) (W9 _ (W9 _ (fv hb e)))).2.1
  cases ok with
  |false=>exact Wu ⟨rfl,BO I7 (by simpa using q7)⟩
  |true =>
   exact ha _ s7 σ6 H7 N _ _ _ I7 (by simpa using q7) λσ8 H8 s8 I8 n8=>Wu ⟨rfl,BO I8 n8⟩
theorem uU (hx:X.xe=λ_ _=>False)(hc:X.calm=true)(F:kB e d g acc X.env after)(hg:PG X g.target tg)(ht:xX X g.ifs tt)(ha:td X after ta)
  {it:Addr} {fp:List Addr} {tn:Nat->Heap->Prop} {J:It} (T:Turn X.prog X.w X.K g.target J fp it tn) {pins:List (Addr×Obj)} {σ:St} {H:Hp} {s:Wi} {End:St->Hp->Prop}
  (I:Inv X pins σ H s) (st:tn 0 s.heap) (hf:∀b∈fp,gz X pins H b) (h:g6 J tg tt ta End σ H) :
  Zo (model X.prog X.w) X.A (.compStart e d (.ref it) acc X.env) (λr s'=>r=.ok .next/\∃σ' H',Inv X pins σ' H' s'/\End σ' H') s:=by
 have lp:=xM hx hc F hg ht ha T I st hf h;refine codeAny_of_tree ?_;rw[F.Ge];have IT:(model X.prog X.w).den (.compStart e d (.ref it) acc X.env)=(compStart e d (.ref it) acc X.env).onRaise (λx=>do noteFrame x X.env;standAt theWindowsPlace):=by
  show (if (Code.compStart e d (.ref it) acc X.env).isFrame then _ else _)=_
  rw[F.Lg];rfl
 rw[IT];refine wpAny_notedAt ?_;unfold compStart;rw[F.cl];simp only[Option.elim_some,F.sync];show WT _ _ (ask >>= _) _ _ s;refine Wh (Z6 (wpAny_ite ?_))
 split
 ·first
   |exact Wh (Wu (Wu (And.intro (F.quiet _) lp)))
   |exact Wu (And.intro (F.quiet _) lp)
 ·have h2:∀(E:Wg->Wi->Prop),WT (model X.prog X.w) X.A (pyIter (.ref it)) (λM6 s'=>(Z0 e d M6 acc X.env).quiet=true/\Zo (model X.prog X.w) X.A (.compLoop e d M6 acc X.env) (λr s'=>r=.ok .next/\∃σ' H',Inv X pins σ' H' s'/\End σ' H') s') E s :=
   λE=>T.self X.A 0 s _ E st ⟨F.quiet _,lp⟩
  first
   |exact Wh (Zk (Wh (YJ (Wh (YC (h2 _) (λM6 s' h'=>Wu h') λ_ _ x=>x)))))
   | (refine Wh (Zk ?_);exact Wh (YJ (Wh (YC (h2 _) (λM6 s' h'=>Wu h') λ_ _ x=>x))))
theorem qW {elt:Expr}{te:TE}{a:Addr}(hx:X.xe=λ_ _=>False)(he:PE X elt te):
  td X (nj (Bb elt (.ref a) X.env)) (λN σ H=>te σ H λv H1=>∃xs,H1 a=some (.lst xs)/\xs.length<WA/\N σ (upd H1 a (.lst (xs++[v])))):=by
 intro pins s σ H N k Q E I h hk;unfold nj Bb;refine Wh (Wh (bx (i9 hx (he pins s σ H _ I h)) λu s1 Pr=>?_));obtain⟨v,H1,I1,r1,xs,hH,hz,q⟩:=Pr;refine Wh (bx (i9 hx <| nK (X:=X) pins s1 σ H1 (.ref a) [v] (.ref a) [u] (λw' H'=>N σ H') I1 rfl (.cons r1 .nil) ⟨a,xs,v,rfl,rfl,hH,hz,q⟩) λ_ s2 UC=>?_)
 obtain⟨_,H2,I2,_,q2⟩:=UC;exact Wu (hk σ H2 s2 I2 q2)
end
section
variable {X:Cx}{e:Expr}
structure u6 (X:Cx)(cL:Sem Wg)(o:HO):Prop where
 ok:∀(pins:List (Addr×Obj)) (s:Wi) (σ:St) (H:Hp) (Q:Wg->Wi->Prop) (E:Wg->Wi->Prop),Inv X pins σ H s ->
  (∀a s',s.heap.objs.size<=a->H a=none->(∀b o,s.heap.get? b=some o->s'.heap.get? b=some o)->Inv X pins σ (upd H a o) s'->Q (.ref a) s')->WT (model X.prog X.w) X.A cL Q E s
theorem q_:u6 X (newList []) (.lst []) :=
 ⟨λpins s σ H Q E I h=>YL (h _ _ (Wl _) I.fresh (λb o e=>Ww _ e) (I.zY (its:=[]) (t':=s.toks) .nil (WJ _)))⟩
theorem Inv.sameBut {pins:List (Addr×Obj)}{σ:St}{H:Hp}{s:Wi}{C:Addr}{h':Heap}(I:Inv X pins σ H s)(f:gz X pins H C)(hs:Y0 C s.heap h'):Inv X pins σ H {s with heap:=h'}:=by
 obtain⟨f0,f1,f2,f3,f4,f5⟩:=f;exact I.turned (t':=s.toks) (λb o hb e=>(hs.2 b hb).trans e) f0 f1 f3 f4 f5
end
end L2
namespace ST
open PySem PySem.SetTable
def it:Nat->Nat->Nat
 |0,x=>x
 |n+1,x=>5*it n x+1
theorem uq (a:Nat):∀(b x:Nat),it (a+b) x=it b (it a x)
 |0,x=>rfl
 |b+1,x=>by
  show 5*it (a+b) x+1=5*it b (it a x)+1;rw[uq a b x]
theorem Ae:∀j:Nat,∃a b:Nat,∀x,it (2 ^ j) x=(1+4*2 ^ j*a)*x+2 ^ j*(1+2*b)
 |0=>⟨1,0,λx=>by show 5*x+1=_;simp⟩
 |j+1=>by
  obtain⟨a,b,h⟩:=Ae j;refine⟨a+2*2 ^ j*a*a,b+2 ^ j*a*(1+2*b),λx=>?_⟩;rw[show 2 ^ (j+1)=2 ^ j+2 ^ j by rw[Nat.pow_succ];lia,uq,h,h]
  generalize 2 ^ j=P
  grind
theorem lift:∀(j x t:Nat),∃k,k<2 ^ j/\it k x % 2 ^ j=t % 2 ^ j
 |0,x,t=>⟨0,by decide,by rw[Nat.pow_zero,Nat.mod_one,Nat.mod_one]⟩
 |j+1,x,t=>by
  obtain⟨k,hk,e⟩:=lift j x t;obtain⟨a,b,h⟩:=Ae j;have hP:0<2 ^ j:=Nat.pow_pos (by decide)
  rw[Nat.pow_succ]
  by_cases q:it k x % (2 ^ j*2)=t % (2 ^ j*2)
  ·exact⟨k,by lia,q⟩
  ·refine⟨k+2 ^ j,by lia,?_⟩
   rw[uq,h];generalize it k x=y at *
   generalize 2 ^ j=P at *
   have e1:((1+4*P*a)*y+P*(1+2*b))=(y+P)+(P*2)*(2*a*y+b):=by grind
   rw[e1,Nat.add_mul_mod_self_left,Nat.mod_mul,Nat.mod_mul];rw[Nat.mod_mul,Nat.mod_mul,e]at q;rw[Nat.add_mod_right,Nat.add_div_right _ hP,e];have u1:y / P % 2<2:=ZF _ (by decide)
   have u2:t / P % 2<2:=ZF _ (by decide)
   have u3:y / P % 2≠t / P % 2:=λz=>q (by rw[z])
   have u4:(y / P).succ % 2=t / P % 2:=by lia
   rw[u4]
def cU (m:Nat)(p:Probe):Probe:=advance {mask:=m,place:=#[],dummies:=#[],finger:=0,led:=true,moves:=0,plain:=true} p
def N8 (m:Nat)(h:Int):Probe:=probeStart {mask:=m,place:=#[],dummies:=#[],finger:=0,led:=true,moves:=0,plain:=true} h
theorem Gn (t:SetTable)(h:Int):probeStart t h=N8 t.mask h:=rfl
noncomputable def fP (m:Nat)(h:Int):Nat->Probe
 |0=>N8 m h
 |n+1=>cU m (fP m h n)
def cn (m:Nat)(h:Int)(n:Nat):Nat:=(fP m h n).j
def lp (m:Nat)(h:Int):Nat->Nat×Nat
 |0=>(bits h % (m+1),bits h)
 |k+1=>leap m (lp m h k).1 (lp m h k).2
def J1 (m:Nat)(x:Nat×Nat):Probe:={j:=x.1,more:=runEnd m x.1-x.1,i:=x.1,perturb:=x.2,dummy:=none}
theorem GB (m i:Nat):runEnd m i-i<=9:=by
 unfold runEnd
 split <;> lia
theorem uv (m:Nat)(h:Int)(x:Nat×Nat)(n:Nat)(e:fP m h n=J1 m x):∀d,d<=runEnd m x.1-x.1->fP m h (n+d)={J1 m x with j:=x.1+d,more:=runEnd m x.1-x.1-d}
 |0,_=>by rw[Nat.add_zero,e];rfl
 |d+1,hd=>by
  show cU m (fP m h (n+d))=_;rw[uv m h x n e d (by lia)]
  unfold cU advance;rw[if_pos (by show runEnd m x.1-x.1-d>0;lia)]
  rfl
theorem sR (m:Nat)(h:Int)(x:Nat×Nat)(n:Nat)(e:fP m h n=J1 m x):fP m h (n+(runEnd m x.1-x.1)+1)=J1 m (leap m x.1 x.2):=by
 show cU m (fP m h (n+(runEnd m x.1-x.1)))=_;rw[uv m h x n e _ (Wl _)];unfold cU advance;rw[if_neg (by show ¬ runEnd m x.1-x.1-(runEnd m x.1-x.1)>0;lia)]
 rfl
theorem BF (m:Nat)(h:Int):∀k,∃n,n<=10*k/\fP m h n=J1 m (lp m h k)
 |0=>⟨0,Wl _,rfl⟩
 |k+1=>by
  obtain⟨n,h1,h2⟩:=BF m h k;refine⟨n+(runEnd m (lp m h k).1-(lp m h k).1)+1,?_,sR m h _ n h2⟩;have:=GB m (lp m h k).1;lia
theorem zW (m:Nat)(h:Int):∀k,(lp m h k).2=bits h / 32 ^ k
 |0=>by rw[Nat.pow_zero,Nat.div_one];rfl
 |k+1=>by
  show (lp m h k).2 / 32=_;rw[zW m h k,Nat.div_div_eq_div_mul,Nat.pow_succ]
theorem EJ (h:Int):bits h<2 ^ 64:=by
 unfold bits;have h1:=ZK h (show (0:Int)<2 ^ 64 by decide)
 have h2:=Int.emod_nonneg h (show (2 ^ 64:Int)≠0 by decide)
 lia
theorem DD (m:Nat)(h:Int){k:Nat}(hk:13<=k):(lp m h k).2=0:=by
 rw[zW];refine Nat.div_eq_of_lt (WU (EJ h) ?_);have:32 ^ 13<=32 ^ k:=Ys (by decide) hk
 exact W8 (by decide) this
theorem Fh {j:Nat}(h:Int):∀d,(lp (2 ^ j-1) h (13+d)).1=it d (lp (2 ^ j-1) h 13).1 % 2 ^ j:=by
 have hP:2 ^ j-1+1=2 ^ j:=by have:0<2 ^ j:=Nat.pow_pos (by decide);lia
 have lt:∀k,(lp (2 ^ j-1) h k).1<2 ^ j:=λk=>by
  cases k with
  |zero=>show bits h % (2 ^ j-1+1)<_;rw[hP];exact ZF _ (by lia)
  |succ k=>show (_*5+1+_ / 32) % (2 ^ j-1+1)<_;rw[hP];exact ZF _ (by lia)
 intro d
 induction d with
 |zero=>exact(Nat.mod_eq_of_lt (lt 13)).symm
 |succ d ih =>
  show ((lp (2 ^ j-1) h (13+d)).1*5+1+(lp (2 ^ j-1) h (13+d)).2 / 32) % (2 ^ j-1+1)=(5*it d _+1) % 2 ^ j;rw[hP,DD _ h (by lia),ih,Nat.zero_div,Nat.add_zero,Nat.mul_comm]
  conv=>rhs;rw[Nat.add_mod,Nat.mul_mod]
  rw[Nat.add_mod,Nat.mul_mod,Nat.mod_mod]
theorem Vt (j:Nat)(h:Int){t:Nat}(ht:t<2 ^ j):∃n,n<10*turns (2 ^ j-1)/\cn (2 ^ j-1) h n=t:=by
 obtain⟨k,hk,e⟩:=lift j (lp (2 ^ j-1) h 13).1 t;obtain⟨n,h1,h2⟩:=BF (2 ^ j-1) h (13+k);refine⟨n,by unfold turns;lia,?_⟩
 unfold cn;rw[h2];show (lp (2 ^ j-1) h (13+k)).1=t;rw[Fh,e,Nat.mod_eq_of_lt ht]
abbrev g (xs:Array Nat)(i:Nat):Nat:=xs.getD i 0
theorem uC {xs:Array Nat}{i:Nat}(h:i<xs.size):xs[i]?=some (g xs i):=by
 rw[getElem?_pos xs i h,g,WN,getElem?_pos xs i h];rfl
def FX (xs:Array Nat):Prop:=∀i j,i<j->j<xs.size->g xs i<g xs j
theorem FX.inj {xs:Array Nat}(r:FX xs){i j:Nat}(hi:i<xs.size)(hj:j<xs.size)(e:g xs i=g xs j):i=j:=by
 rcases Nat.lt_trichotomy i j with h|h|h
 ·have:=r i j h hj;lia
 ·exact h
 ·have:=r j i h hi;lia
theorem mB {xs:Array Nat}{j:Nat}(r:FX xs):∀(f lo hi:Nat),hi<=xs.size->lo<=hi->hi-lo<=f->(∀k,k<lo->g xs k<j)->(∀k,hi<=k->k<xs.size->j<=g xs k) ->
  below.go xs j f lo hi<=xs.size/\(∀k,k<below.go xs j f lo hi->g xs k<j)/\(∀k,below.go xs j f lo hi<=k->k<xs.size->j<=g xs k)
 |0,lo,hi,h1,h2,h3,h4,h5=>by
  obtain rfl:lo=hi:=by omega
  exact⟨h1,h4,h5⟩
 |f+1,lo,hi,h1,h2,h3,h4,h5=>by
  unfold below.go
  by_cases hl:lo<hi
  ·rw[if_pos hl];dsimp only;have hm:(lo+hi) / 2<xs.size:=by omega
   have e:xs.getD ((lo+hi) / 2) j=g xs ((lo+hi) / 2):=by
    rw[g,WN,WN,getElem?_pos xs _ hm];rfl
   rw[e]
   by_cases hc:g xs ((lo+hi) / 2)<j
   ·rw[if_pos hc];refine mB r f _ _ h1 (by omega) (by omega) (λk hk=>?_) h5
    by_cases QH:k=(lo+hi) / 2
    ·rw[QH];exact hc
    ·have:=r k ((lo+hi) / 2) (by omega) hm;omega
   ·rw[if_neg hc];refine mB r f _ _ (by omega) (by omega) (by omega) h4 (λk hk QJ=>?_)
    by_cases QH:k=(lo+hi) / 2
    ·rw[QH];omega
    ·have:=r ((lo+hi) / 2) k (by omega) QJ;omega
  ·rw[if_neg hl];obtain rfl:lo=hi:=by omega
   exact⟨h1,h4,h5⟩
theorem fD {xs:Array Nat}(r:FX xs)(j:Nat):below xs j<=xs.size/\(∀k,k<below xs j->g xs k<j)/\(∀k,below xs j<=k->k<xs.size->j<=g xs k) :=
 mB r xs.size 0 xs.size (Wl _) (WJ _) (Wl _) (λk hk=>by lia) (λk h1 h2=>by lia)
theorem below_at {xs:Array Nat}(r:FX xs){i:Nat}(hi:i<xs.size):below xs (g xs i)=i:=by
 obtain⟨h1,h2,h3⟩:=fD r (g xs i);rcases Nat.lt_trichotomy (below xs (g xs i)) i with h|h|h
 ·have:=h3 (below xs (g xs i)) (Wl _) (by omega)
  have:=r _ _ h hi;omega
 ·exact h
 ·have:=h2 i h;omega
def qf (t:SetTable)(x:Nat):Prop:=∃i,i<t.place.size/\g t.place i=x
theorem nB {t:SetTable}(r:FX t.place){i:Nat}(hi:i<t.place.size):t.slot (g t.place i)=.live i:=by
 unfold slot;dsimp only;rw[below_at r hi,if_pos (by rw[uC hi];exact beq_self_eq_true _)]
theorem wK {t:SetTable}(r:FX t.place)(d:t.dummies=#[]){x:Nat}(h:¬ qf t x):t.slot x=.empty:=by
 unfold slot;dsimp only;rw[if_neg ?_,if_neg ?_]
 ·rw[d];unfold has;simp
 ·intro q;have q:=eq_of_beq q;have hl:below t.place x<t.place.size:=by
   rcases XW (below t.place x) t.place.size with z|z
   ·exact z
   ·rw[Yo z]at q;cases q
  rw[uC hl]at q;exact h ⟨_,hl,WR q⟩
structure WF (t:SetTable)(hs:List Int):Prop where
 JV:t.dummies=#[]
 sz:t.place.size=hs.length
 wU:FX t.place
 Te:∀i,i<t.place.size->g t.place i<=t.mask
 Fg:∃j,3<=j/\t.mask=2 ^ j-1
 room:t.place.size<=t.mask
 RZ:∀i h,hs[i]?=some h->∃n,cn t.mask h n=g t.place i/\∀k,k<n->qf t (cn t.mask h k)
theorem least {p:Nat->Prop}[DecidablePred p]:∀n,p n->∃m,m<=n/\p m/\∀k,k<m->¬ p k:=by
 intro n
 induction n using Nat.strongRecOn with
 |_ n ih =>
  intro hn
  by_cases h:∃k,k<n/\p k
  ·obtain⟨k,hk,hp⟩:=h;obtain⟨m,h1,h2,h3⟩:=ih k hk hp;exact⟨m,by lia,h2,h3⟩
  ·exact⟨n,Wl _,hn,λk hk hp=>h ⟨k,hk,hp⟩⟩
instance (t:SetTable):DecidablePred (qf t):=λx=>decidable_of_iff (∃i,i<t.place.size/\g t.place i=x) Iff.rfl
theorem WF.hole {t:SetTable}{hs:List Int}(w:WF t hs):∃x,x<=t.mask/\¬ qf t x:=by
 refine Y1 λQA=>?_;have all:∀x,x<=t.mask->qf t x:=λx hx=>Y1 λq=>QA ⟨x,hx,q⟩;have up:∀x,x<=t.mask->∃i,i<t.place.size/\g t.place i=x/\x<=i:=by
  intro x
  induction x with
  |zero =>
   intro hx;obtain⟨i,h1,h2⟩:=all 0 hx;exact⟨i,h1,h2,WJ _⟩
  |succ x ih =>
   intro hx;obtain⟨i,h1,h2,h3⟩:=ih (by lia)
   obtain⟨i',h4,h5⟩:=all (x+1) hx;refine⟨i',h4,h5,?_⟩;rcases XW i i' with q|q
   ·lia
   ·rcases XW i' i with q2|q2
    ·have:=w.wU i' i q2 h1;lia
    ·obtain rfl:i=i':=by lia
     lia
 obtain⟨i,h1,h2,h3⟩:=up t.mask (Wl _);have:=w.room;lia
theorem WF.first {t:SetTable}{hs:List Int}(w:WF t hs)(h:Int):∃n,n<10*turns t.mask/\¬ qf t (cn t.mask h n)/\∀k,k<n->qf t (cn t.mask h k):=by
 obtain⟨x,hx,hf⟩:=w.hole;obtain⟨j,_,hj⟩:=w.Fg;have JQ:x<2 ^ j:=by have:0<2 ^ j:=Nat.pow_pos (by decide);lia
 obtain⟨n,h1,h2⟩:=Vt j h JQ;rw[<- hj]at h1 h2;obtain⟨m,g1,g2,g3⟩:=least (p:=λn=>¬ qf t (cn t.mask h n)) n (by rw[h2];exact hf)
 exact⟨m,by lia,g2,λk hk=>Y1 λq=>g3 k hk q⟩
theorem jF (m:Nat)(h:Int):∀n,(fP m h n).dummy=none
 |0=>rfl
 |n+1=>by
  show (cU m (fP m h n)).dummy=none;unfold cU advance
  split
  ·exact jF m h n
  ·exact jF m h n
theorem qQ {t:SetTable}{hs:List Int}(w:WF t hs)(ha:Nat->Int)(h:Int){N:Nat}(hN:¬ qf t (cn t.mask h N))(hO:∀k,k<N->qf t (cn t.mask h k)):∀(d n f:Nat),n+d=N->d<f ->
  (probe.go t ha h f (fP t.mask h n)=some (.empty (cn t.mask h N) none)/\∀k,n<=k->k<N->∀i,i<t.place.size->g t.place i=cn t.mask h k->ha i≠h) \/
  ∃m i,n<=m/\m<N/\i<t.place.size/\g t.place i=cn t.mask h m/\ha i=h/\probe.go t ha h f (fP t.mask h n)=some (.candidate (cn t.mask h m) i (fP t.mask h (m+1)))/\∀k,n<=k->k<m->∀i,i<t.place.size->g t.place i=cn t.mask h k->ha i≠h
 |0,n,f,e,hf=>by
  obtain rfl:n=N:=by lia
  obtain⟨f,rfl⟩:∃f',f=f'+1:=⟨f-1,by lia⟩
  refine .inl ⟨?_,λk h1 h2=>by lia⟩
  unfold probe.go;rw[show t.slot (fP t.mask h n).j=.empty from wK w.wU w.JV hN]
  dsimp only;rw[jF];rfl
 |d+1,n,f,e,hf=>by
  obtain⟨f,rfl⟩:∃f',f=f'+1:=⟨f-1,by lia⟩
  obtain⟨i,hi,hg⟩:=hO n (by lia)
  have Iy:t.slot (fP t.mask h n).j=.live i:=by
   show t.slot (cn t.mask h n)=.live i;rw[<- hg];exact nB w.wU hi
  by_cases hh:ha i=h
  ·refine .inr ⟨n,i,Wl _,by lia,hi,hg,hh,?_,λk h1 h2=>by lia⟩
   unfold probe.go;rw[Iy];dsimp only;rw[if_pos (by rw[hh];exact beq_self_eq_true _)]
   rfl
  ·have st:probe.go t ha h (f+1) (fP t.mask h n)=probe.go t ha h f (fP t.mask h (n+1)):=by
    conv=>lhs;unfold probe.go
    rw[Iy];dsimp only;rw[if_neg (by simpa using hh)]
    rfl
   rw[st];have here:∀i',i'<t.place.size->g t.place i'=cn t.mask h n->ha i'≠h:=λi' h1 h2=>by
    rw[w.wU.inj h1 hi (h2.trans hg.symm)];exact hh
   rcases qQ w ha h hN hO d (n+1) f (by lia) (by lia)with⟨q1,q2⟩|⟨m,i',q1,q2,q3,q4,q5,q6,q7⟩
   ·refine .inl ⟨q1,λk h1 h2=>?_⟩
    by_cases hk:k=n
    ·subst hk;exact here
    ·exact q2 k (by lia) h2
   ·refine .inr ⟨m,i',by lia,q2,q3,q4,q5,q6,λk h1 h2=>?_⟩
    by_cases hk:k=n
    ·subst hk;exact here
    ·exact q7 k (by lia) h2
theorem l9 {α:Type}(xs:Array α)(p:Nat)(x:α):(insertAt xs p x).toList=xs.toList.take p++x::xs.toList.drop p:=by
 unfold insertAt;rw[XS,Yi,Array.toList_extract,Array.toList_extract,ZL,ZL,Xh];simp[XM]
theorem Ak {α:Type}{xs:Array α}{p:Nat}{x:α}(h:p<=xs.size):(insertAt xs p x).size=xs.size+1:=by
 rw[<- Wr,l9,WK,Wz,WW,Yq,Wr];lia
theorem fy {xs:Array Nat}{p x:Nat}(h:p<=xs.size)(k:Nat):g (insertAt xs p x) k=if k<p then g xs k else if k=p then x else g xs (k-1):=by
 have e:∀(ys:Array Nat) (k:Nat),g ys k=(ys.toList[k]?).getD 0:=λys k=>by rw[g,WN,WM]
 rw[e,e,e,l9]
 by_cases h1:k<p
 ·rw[if_pos h1,XO (by rw[WW,Wr];lia),Y5 h1]
 ·rw[if_neg h1,Xq (by rw[WW];lia),WW,Wr,show min p xs.size=p by lia]
  by_cases h2:k=p
  ·rw[if_pos h2,h2,Nat.sub_self];rfl
  ·rw[if_neg h2,show k-p=k-p-1+1 by lia,Z_,ZH,show p+(k-p-1)=k-1 by lia]
theorem WF.put {t:SetTable}{hs:List Int}(w:WF t hs){h:Int}{N:Nat}(hb:cn t.mask h N<=t.mask)(hN:¬ qf t (cn t.mask h N))(hO:∀k,k<N->qf t (cn t.mask h k))(hr:t.place.size+1<=t.mask):
  WF (t.put (cn t.mask h N)).1 (hs.take (t.put (cn t.mask h N)).2++h::hs.drop (t.put (cn t.mask h N)).2)/\(t.put (cn t.mask h N)).2<=t.place.size:=by
 obtain⟨b1,b2,b3⟩:=fD w.wU (cn t.mask h N);have hp:(t.put (cn t.mask h N)).2=below t.place (cn t.mask h N):=rfl;rw[hp];generalize hx:cn t.mask h N=x at *
 generalize hq:below t.place x=p at *
 have e:(t.put x).1={t with place:=insertAt t.place p x}:=by
  unfold SetTable.put;dsimp only;rw[w.JV,hq];unfold has;simp
 have ne:∀k,p<=k->k<t.place.size->x<g t.place k:=λk h1 h2=>by
  have:=b3 k h1 h2;rcases XW x (g t.place k)with q|q
  ·exact q
  ·exact absurd ⟨k,h2,by lia⟩ hN
 have N5:(insertAt t.place p x).size=t.place.size+1:=Ak b1;have Sd:∀y,qf t y->qf {t with place:=insertAt t.place p x} y:=by
  rintro y ⟨i,h1,h2⟩
  by_cases hi:i<p
  ·exact⟨i,by show i<(insertAt t.place p x).size;lia,by show g (insertAt t.place p x) i=y;rw[fy b1,if_pos hi];exact h2⟩
  ·exact⟨i+1,by show i+1<(insertAt t.place p x).size;lia,by show g (insertAt t.place p x) (i+1)=y;rw[fy b1,if_neg (by lia),if_neg (by lia)];exact h2⟩
 rw[e];refine⟨⟨w.JV,?_,?_,?_,w.Fg,?_,?_⟩,b1⟩
 ·show (insertAt t.place p x).size=_;rw[N5,WK,Wz,WW,Yq,<- w.sz];lia
 ·intro i j aQ hj;have hj:j<t.place.size+1:=by rw[<- N5];exact hj
  show g (insertAt t.place p x) i<g (insertAt t.place p x) j;rw[fy b1,fy b1]
  by_cases h1:i<p
  ·rw[if_pos h1]
   by_cases h2:j<p
   ·rw[if_pos h2];exact w.wU i j aQ (by lia)
   ·rw[if_neg h2]
    by_cases h3:j=p
    ·rw[if_pos h3];exact b2 i h1
    ·rw[if_neg h3];exact w.wU i (j-1) (by lia) (by lia)
  ·rw[if_neg h1,if_neg (show ¬ j<p by lia)]
   by_cases h3:i=p
   ·rw[if_pos h3,if_neg (show ¬ j=p by lia)];exact ne _ (by lia) (by lia)
   ·rw[if_neg h3,if_neg (show ¬ j=p by lia)];exact w.wU (i-1) (j-1) (by lia) (by lia)
 ·intro i hi;have hi:i<t.place.size+1:=by rw[<- N5];exact hi
  show g (insertAt t.place p x) i<=t.mask;rw[fy b1]
  split
  ·exact w.Te i (by lia)
  ·split
   ·exact hb
   ·exact w.Te _ (by lia)
 ·show (insertAt t.place p x).size<=t.mask;lia
 ·intro i h' gn;show ∃n,cn t.mask h' n=g (insertAt t.place p x) i/\_;have old:∀i h',hs[i]?=some h'->∃n,cn t.mask h' n=g t.place i/\∀k,k<n->qf {t with place:=insertAt t.place p x} (cn t.mask h' k):=λi h' q=>by
   obtain⟨n,h1,h2⟩:=w.RZ i h' q;exact⟨n,h1,λk hk=>Sd _ (h2 k hk)⟩
  have hpl:p<=hs.length:=by rw[<- w.sz];exact b1
  by_cases h1:i<p
  ·rw[XO (by rw[WW];lia),Y5 h1]at gn
   rw[fy b1,if_pos h1];exact old i h' gn
  ·rw[Xq (by rw[WW];lia),WW,show min p hs.length=p by lia]at gn
   rw[fy b1,if_neg h1]
   by_cases h2:i=p
   ·rw[h2,Nat.sub_self]at gn;rw[if_pos h2];obtain rfl:h=h':=WR gn;exact⟨N,hx,λk hk=>Sd _ (hO k hk)⟩
   ·rw[show i-p=i-p-1+1 by lia,Z_,ZH,show p+(i-p-1)=i-1 by lia]at gn
    rw[if_neg h2];exact old (i-1) h' gn
theorem gI {m i:Nat}(h:i<=m):i<=runEnd m i/\runEnd m i<=m:=by
 unfold runEnd
 split <;> lia
theorem yU (m:Nat)(h:Int):∀n,(fP m h n).j+(fP m h n).more<=m
 |0=>by
  show bits h % (m+1)+(runEnd m (bits h % (m+1))-bits h % (m+1))<=m;have hl:bits h % (m+1)<=m:=Nat.le_of_lt_succ (ZF _ (Nat.succ_pos _));have:=gI hl;lia
 |n+1=>by
  have ih:=yU m h n;show (cU m (fP m h n)).j+(cU m (fP m h n)).more<=m;unfold cU advance
  split
  ·show (fP m h n).j+1+((fP m h n).more-1)<=m;lia
  ·show (leap m (fP m h n).i (fP m h n).perturb).1+(runEnd m (leap m (fP m h n).i (fP m h n).perturb).1-(leap m (fP m h n).i (fP m h n).perturb).1)<=m;have hl:(leap m (fP m h n).i (fP m h n).perturb).1<=m:=Nat.le_of_lt_succ (ZF _ (Nat.succ_pos _));have:=gI hl;lia
theorem kQ (m:Nat)(h:Int)(n:Nat):cn m h n<=m:=by
 have:=yU m h n;unfold cn;lia
abbrev Ow:=Array (Option Nat)
def fI (o:Ow)(j:Nat):Bool:=(o.getD j (some 0)).isNone
theorem n6 {m:Nat}{o:Ow}(h:Int):∀(f b n:Nat) (j:Nat),fP m h n=J1 m (lp m h b)->layClean.free m o f (lp m h b).1 (lp m h b).2=some j->∃N,n<=N/\cn m h N=j/\fI o j=true/\∀k,n<=k->k<N->fI o (cn m h k)=false
 |0,b,n,j,_,e=>by cases e
 |f+1,b,n,j,hb,e=>by
  unfold layClean.free at e;have OS:∀d,d<=runEnd m (lp m h b).1-(lp m h b).1->cn m h (n+d)=(lp m h b).1+d:=λd hd=>by
   unfold cn;rw[uv m h _ n hb d hd]
  have hl:(lp m h b).1<=m:=by
   have:=kQ m h n;unfold cn at this;rw[hb]at this;exact this
  have hr:=gI hl;cases hf:(Xd (runEnd m (lp m h b).1+1-(lp m h b).1)).find? (λk=>(o.getD ((lp m h b).1+k) (some 0)).isNone)with
  |some k =>
   rw[hf]at e;dsimp only at e;obtain⟨h1,h2,h3⟩:=List.find?_range_eq_some.mp hf;have h2:=Xz.mp h2;refine⟨n+k,by lia,?_,?_,λx g1 g2=>?_⟩
   ·rw[OS k (by lia)]
    exact WR e
   ·rw[<- WR e];exact h1
   ·have:=h3 (x-n) (by lia)
    rw[show x=n+(x-n) by lia,OS (x-n) (by lia)]
    unfold fI;simpa using this
  |none =>
   rw[hf]at e;dsimp only at e;have h3:=List.find?_range_eq_none.mp hf;obtain⟨N,q1,q2,q3,q4⟩:=n6 h f (b+1) (n+(runEnd m (lp m h b).1-(lp m h b).1)+1) j (sR m h _ n hb) e;refine⟨N,by lia,q2,q3,λx g1 g2=>?_⟩
   by_cases hx:n+(runEnd m (lp m h b).1-(lp m h b).1)+1<=x
   ·exact q4 x hx g2
   ·have:=h3 (x-n) (by lia)
    rw[show x=n+(x-n) by lia,OS (x-n) (by lia)]
    unfold fI;simpa using this
theorem n9 {m:Nat}{o:Ow}(h:Int):∀(f b:Nat),layClean.free m o f (lp m h b).1 (lp m h b).2=none->∀d,d<f->(lp m h (b+d)).1<=m->fI o (lp m h (b+d)).1=false
 |0,b,_,d,hd,_=>by lia
 |f+1,b,e,d,hd,hl=>by
  unfold layClean.free at e;cases hf:(Xd (runEnd m (lp m h b).1+1-(lp m h b).1)).find? (λk=>(o.getD ((lp m h b).1+k) (some 0)).isNone)with
  |some k =>
   rw[hf]at e;cases e
  |none =>
   rw[hf]at e;dsimp only at e;cases d with
   |zero =>
    have:=List.find?_range_eq_none.mp hf 0 (by have:=gI hl;rw[Nat.add_zero]at this;lia)
    unfold fI;simpa using this
   |succ d =>
    have:=n9 h f (b+1) e d (by lia) (by rw[show b+1+d=b+(d+1) by lia];exact hl)
    rw[show b+1+d=b+(d+1) by lia]at this
    exact this
theorem HB (j:Nat)(h:Int){t:Nat}(ht:t<2 ^ j):∃k,k<turns (2 ^ j-1)/\(lp (2 ^ j-1) h k).1=t:=by
 obtain⟨k,hk,e⟩:=lift j (lp (2 ^ j-1) h 13).1 t;refine⟨13+k,by unfold turns;lia,?_⟩
 rw[Fh,e,Nat.mod_eq_of_lt ht]
def ow (o:Ow)(j:Nat):Option Nat:=o.getD j none
theorem dQ {α:Type}{f f':Nat->Option α}:∀(l:List Nat),(∀k∈l,f' k=f k)->l.filterMap f'=l.filterMap f
 |[],_=>rfl
 |x::l,h=>by
  rw[Xj,Xj,h x Wo,dQ l λk hk=>h k (Wm _ hk)]
theorem rW {α:Type}{f f':Nat->Option α}(l:List Nat)(h:∀k∈l,f' k=f k):l.filterMap f'=l.filterMap f:=dQ l h
theorem rT {α:Type}(f f':Nat->Option α)(j:Nat)(v:α)(h1:f j=none)(h2:f' j=some v)(h3:∀k,k≠j->f' k=f k):∀N,j<N->((Xd N).filterMap f').Perm (v::(Xd N).filterMap f)
 |0,h=>by lia
 |N+1,h=>by
  rw[List.range_succ,List.filterMap_append,List.filterMap_append]
  by_cases e:j=N
  ·subst e;have e1:(Xd j).filterMap f'=(Xd j).filterMap f:=by
    exact dQ _ λk hk=>h3 k (WZ (Xz.mp hk))
   rw[e1,Xj,h2,Xj,h1,List.filterMap_nil,List.filterMap_nil];show ((Xd j).filterMap f++[v]).Perm (v::((Xd j).filterMap f++[]));rw[XD];exact List.perm_append_comm
  ·have ih:=rT f f' j v h1 h2 h3 N (by lia)
   have e2:[N].filterMap f'=[N].filterMap f:=dQ _ λk hk=>by
    rw[Wx.mp hk];exact h3 N (λz=>e z.symm)
   rw[e2];exact ih.append_right _
theorem rX {α:Type}(f:Nat->Option α):∀N,(∀k,k<N->(f k).isSome=true)->((Xd N).filterMap f).length=N
 |0,_=>rfl
 |N+1,h=>by
  rw[List.range_succ,List.filterMap_append,WK,rX f N λk hk=>h k (by lia)]
  have:=h N (by lia)
  cases e:f N with
  |none=>rw[e]at this;cases this
  |some x=>rw[Xj,e];rfl
structure Ld (m:Nat)(hs:Array Int)(o:Ow)(k:Nat):Prop where
 sz:o.size=m+1
 Ox:((Xd (m+1)).filterMap (ow o)).Perm (Xd k)
 way:∀j a,ow o j=some a->a<k/\∃n,cn m (hs.getD a 0) n=j/\∀x,x<n->fI o (cn m (hs.getD a 0) x)=false
theorem lP {o:Ow}{j:Nat}(h:j<o.size):fI o j=true↔ow o j=none:=by
 unfold fI ow;rw[WN,WN,getElem?_pos o j h];show (o[j]).isNone=true↔o[j]=none;exact Option.isNone_iff_eq_none
theorem Ld.next {j0:Nat}{hs:Array Int}{o:Ow}{k:Nat}(L:Ld (2 ^ j0-1) hs o k)(hk:k<=2 ^ j0-1)(h:Int)(hh:hs.getD k 0=h):
  ∃j,layClean.free (2 ^ j0-1) o (turns (2 ^ j0-1)) (bits h % (2 ^ j0-1+1)) (bits h)=some j/\Ld (2 ^ j0-1) hs (o.setIfInBounds j (some k)) (k+1):=by
 have hP:0<2 ^ j0:=Nat.pow_pos (by decide)
 generalize hm:2 ^ j0-1=m at *
 obtain⟨x,hx,UQ⟩:∃x,x<=m/\ow o x=none:=by
  refine Y1 λQA=>?_;have:=rX (ow o) (m+1) λx hx=>by
   cases e:ow o x with
   |none=>exact absurd ⟨x,by lia,e⟩ QA
   |some _=>rfl
  rw[L.Ox.length_eq,Yg]at this;lia
 cases hf:layClean.free m o (turns m) (bits h % (m+1)) (bits h)with
 |none =>
  exfalso
  obtain⟨c,hc,he⟩:=HB j0 h (t:=x) (by lia)
  rw[hm]at hc he;have:=n9 (m:=m) (o:=o) h (turns m) 0 hf c hc (by rw[YZ,he];exact hx)
  rw[YZ,he]at this;have q:=(lP (o:=o) (j:=x) (by rw[L.sz];lia)).mpr UQ
  rw[q]at this;cases this
 |some j =>
  refine⟨j,rfl,?_⟩;obtain⟨N,_,q2,q3,q4⟩:=n6 (m:=m) (o:=o) h (turns m) 0 0 j rfl hf;have hj:j<=m:=by rw[<- q2];exact kQ m h N
  have QK:j<o.size:=by rw[L.sz];lia
  have LO:ow o j=none:=(lP QK).mp q3;have same:∀i,i≠j->ow (o.setIfInBounds j (some k)) i=ow o i:=λi hi=>by
   unfold ow;rw[WN,WN,Array.getElem?_setIfInBounds_ne (λz=>hi z.symm)]
  have here:ow (o.setIfInBounds j (some k)) j=some k:=by
   unfold ow;rw[WN,Array.getElem?_setIfInBounds_self_of_lt QK];rfl
  have shut:∀i,fI o i=false->fI (o.setIfInBounds j (some k)) i=false:=λi hi=>by
   unfold fI at *
   rw[WN]at *
   by_cases e:i=j
   ·subst e;rw[Array.getElem?_setIfInBounds_self_of_lt QK];rfl
   ·rw[Array.getElem?_setIfInBounds_ne (λz=>e z.symm)];exact hi
  refine⟨by rw[Z4];exact L.sz,?_,λi a Nf=>?_⟩
  ·refine(rT (ow o) _ j k LO here same (m+1) (by lia)).trans ?_
   refine(L.Ox.cons k).trans ?_;rw[List.range_succ];exact(List.perm_append_singleton k _).symm
  ·by_cases e:i=j
   ·subst e;rw[here]at Nf;obtain rfl:=WR Nf;refine⟨Nat.lt_succ_self _,N,by rw[hh];exact q2,λx hx=>shut _ ?_⟩
    rw[hh];exact q4 x (WJ _) hx
   ·rw[same i e]at Nf;obtain⟨g1,n,g2,g3⟩:=L.way i a Nf;exact⟨by lia,n,g2,λx hx=>shut _ (g3 x hx)⟩
theorem mx {j0:Nat}{hs:Array Int}(hk:hs.size<=2 ^ j0-1):∀(l:List Int) (k:Nat) (o:Ow),hs.toList.drop k=l->k+l.length=hs.size->Ld (2 ^ j0-1) hs o k ->
  ∃o',(l.foldl (λ(acc:Option (Ow×Nat)) h=>do
   let (owner,k) <- acc
   let j <- layClean.free (2 ^ j0-1) owner (turns (2 ^ j0-1)) (bits h % (2 ^ j0-1+1)) (bits h)
   pure (owner.setIfInBounds j (some k),k+1)) (some (o,k)))=some (o',hs.size)/\Ld (2 ^ j0-1) hs o' hs.size
 |[],k,o,e,z,L=>by
  obtain rfl:k=hs.size:=z;exact⟨o,rfl,L⟩
 |h::l,k,o,e,z,L=>by
  rw[Wz]at z;have gT:k<hs.toList.length:=by rw[Wr];lia
  rw[XQ gT]at e;injection e with e1 e2
  have hh:hs.getD k 0=h:=by
   rw[WN,<- WM,Wv gT,e1];rfl
  obtain⟨j,q1,q2⟩:=L.next (by lia) h hh
  rw[Yk];show ∃o',(l.foldl _ (do
   let j <- layClean.free (2 ^ j0-1) o (turns (2 ^ j0-1)) (bits h % (2 ^ j0-1+1)) (bits h)
   pure (o.setIfInBounds j (some k),k+1)))=_/\_
  rw[q1];exact mx hk l (k+1) _ e2 (by lia) q2
theorem Ld.start (m:Nat)(hs:Array Int):Ld m hs (Array.replicate (m+1) none) 0:=by
 have e:∀j,ow (Array.replicate (m+1) none) j=none:=λj=>by
  unfold ow;rw[WN,Array.getElem?_replicate]
  split <;> rfl
 refine⟨Array.size_replicate,?_,λj a h=>by rw[e]at h;cases h⟩
 rw[dQ (f:=λ_=>(none:Option Nat)) _ λk _=>e k];have:∀l:List Nat,l.filterMap (λ_=>(none:Option Nat))=[]:=λl=>by
  induction l with
  |nil=>rfl
  |cons x l ih=>rw[Xj];exact ih
 rw[this];exact .refl _
theorem DE {j0:Nat}{hs:Array Int}(h3:3<=j0)(hk:hs.size<=2 ^ j0-1)(finger moves:Nat)(led plain:Bool):
  ∃t order,laid (2 ^ j0-1) finger moves led plain hs=some (t,order)/\t.mask=2 ^ j0-1/\t.led=led/\t.plain=plain/\t.moves=moves/\order.toList.Perm (Xd hs.size)/\WF t (order.toList.map λa=>hs.getD a 0)/\t.place.size=hs.size:=by
 obtain⟨o,e1,L⟩:=mx hk hs.toList 0 _ rfl (by rw[YZ,Wr]) (Ld.start _ hs)
 have e2:layClean (2 ^ j0-1) hs=some o:=by
  unfold layClean;rw[<- Array.foldl_toList];exact congrArg (Option.map (·.1)) e1
 generalize hm:2 ^ j0-1=m at *
 have Ly:∀(l:List Nat),((l.filterMap λj=>(o.getD j none).map (j,·)).map (·.2))=l.filterMap (ow o):=λl=>by
  rw[List.map_filterMap];refine rW l λj _=>?_;rw[Option.map_map];show ((o.getD j none).map λa=>a)=_;rw[Option.map_id'];rfl
 generalize LP:((Xd (m+1)).filterMap λj=>(o.getD j none).map (j,·))=live at *
 have pw:live.Pairwise (λx y=>x.1<y.1):=by
  rw[<- LP,List.pairwise_filterMap];refine List.pairwise_lt_range.imp λ{a b} Fy x hx y hy=>?_;obtain⟨_,_,rfl⟩:=WQ.mp hx;obtain⟨_,_,rfl⟩:=WQ.mp hy;exact Fy
 have mem:∀x∈live,x.1<m+1/\ow o x.1=some x.2:=λx hx=>by
  rw[<- LP]at hx;obtain⟨j,hj,e⟩:=YE.mp hx;obtain⟨a,ha,rfl⟩:=WQ.mp e;exact⟨Xz.mp hj,ha⟩
 have ord:(live.map (·.2)).Perm (Xd hs.size):=by
  rw[<- LP,Ly];exact L.Ox
 have len:live.length=hs.size:=by
  have:=ord.length_eq;rw[Wj,Yg]at this;exact this
 have gp:∀i (hi:i<live.length),g (live.map (·.1)).toArray i=(live[i]).1:=λi hi=>by
  rw[g,WN,List.getElem?_toArray,WH,Wv hi];rfl
 refine⟨{mask:=m,place:=(live.map (·.1)).toArray,dummies:=#[],finger,led,moves,plain},(live.map (·.2)).toArray,?_,rfl,rfl,rfl,rfl,ord,?_,?_⟩
 ·unfold laid;rw[e2,<- LP];rfl
 ·have Ov:(live.map (·.1)).toArray.size=live.length:=by rw[WG,Wj]
  refine⟨rfl,?_,?_,?_,⟨j0,h3,hm.symm⟩,?_,?_⟩
  ·show (live.map (·.1)).toArray.size=_;rw[Ov,Wj,Wj]
  ·intro i j aQ hj;have hj:j<live.length:=by rw[<- Ov];exact hj
   show g (live.map (·.1)).toArray i<g (live.map (·.1)).toArray j;rw[gp i (by lia),gp j hj]
   exact Yr.mp pw i j (by lia) hj aQ
  ·intro i hi;have hi:i<live.length:=by rw[<- Ov];exact hi
   show g (live.map (·.1)).toArray i<=m;rw[gp i hi];have:=(mem _ (YB hi)).1;lia
  ·show (live.map (·.1)).toArray.size<=m;lia
  ·intro i h hi;show ∃n,cn m h n=g (live.map (·.1)).toArray i/\_;rw[WH,WH]at hi;have Ft:i<live.length:=by
    rcases XW i live.length with q|q
    ·exact q
    ·rw[XU q]at hi;cases hi
   rw[Wv Ft]at hi;have hi:hs.getD (live[i]).2 0=h:=WR hi;obtain⟨_,n,g2,g3⟩:=L.way _ _ (mem _ (YB Ft)).2;rw[hi]at g2 g3;refine⟨n,by rw[gp i Ft];exact g2,λk hk=>?_⟩
   have hv:=kQ m h k;have UL:cn m h k<o.size:=by rw[L.sz];lia
   have:=g3 k hk;cases eo:ow o (cn m h k)with
   |none =>
    rw[(lP UL).mpr eo]at this;cases this
   |some a =>
    have IP:(cn m h k,a)∈live:=by
     rw[<- LP];exact YE.mpr ⟨cn m h k,Xz.mpr (by lia),by show (ow o (cn m h k)).map _=_;rw[eo];rfl⟩
    obtain⟨i',gn,e'⟩:=List.getElem_of_mem IP;exact⟨i',by show i'<(live.map (·.1)).toArray.size;lia,by show g (live.map (·.1)).toArray i'=_;rw[gp i' gn,e']⟩
 ·show (live.map (·.1)).toArray.size=hs.size;rw[WG,Wj];exact len
end ST
namespace TS
open PySem PyProof.Rows
def b5:Bool->Wt->Array Wt->Nat->Nat->Nat->StateT WV Sem (Option Nat):=sortPriv% PySem.Builtin.gallop
def i_:Array Wt->Array Wt->StateT WV Sem (Array Wt):=sortPriv% PySem.Builtin.mergeLo
def je:Array Wt->Array Wt->StateT WV Sem (Array Wt):=sortPriv% PySem.Builtin.mergeHi
abbrev b7 (st:WV)(g:Nat):WV:=SortSt.mk' (kindOf st) (W4 st) (WS st) g (Zd st)
theorem uB (left:Bool)(key:Wt)(arr:Array Wt)(base n hint:Nat):b5 left key arr base n hint=(do
  let ask:=λ(at_:Nat)=>(do
   let z <- elem' arr (base+at_)
   if left then lt' z key else return (<- lt' key z).map (!·):StateT WV Sem (Option Bool))
  let mut before:=0
  let mut step:=1
  let mut u:=0
  let mut v:=0
  let some up <- ask hint|return none
  if up then
   let room:=n-hint
   for _ in [0:n] do
    if step >= room then break
    let some on <- ask (hint+step)|return none
    if !on then break
    before:=step
    step:=2*step+1
   u:=hint+before+1
   v:=hint+min step room
  else
   let room:=hint+1
   for _ in [0:n] do
    if step >= room then break
    let some hit <- ask (hint-step)|return none
    if hit then break
    before:=step
    step:=2*step+1
   u:=hint+1-min step room
   v:=hint-before
  for _ in [0:n] do
   if u >= v then break
   let mid:=u+(v-u) / 2
   let some on <- ask mid|return none
   if on then u:=mid+1 else v:=mid
  return some v):=rfl
theorem rg (p q:Array Wt):i_ p q=(do
  rule "list.sort.merge-lo"
  let all:=p.size+q.size
  let rest:=λ(to:Array Wt) (i j:Nat)=>to++p.extract i p.size++q.extract j q.size
  let tail:=λ(to:Array Wt) (i j:Nat)=>to++q.extract j q.size++p.extract i p.size
  let mut to:Array Wt:=#[<- elem' q 0]
  let mut i:=0
  let mut j:=1
  if j==q.size then return rest to i j
  if i+1==p.size then return tail to i j
  let mut mg:=gallopOf (<- get)
  for _ in [0:all] do
   let mut m:=0
   let mut n:=0
   for _ in [0:all] do
    let some F9 <- lt' (<- elem' q j) (<- elem' p i)|return rest to i j
    if F9 then
     to:=to.push (<- elem' q j);j:=j+1;n:=n+1;m:=0
     if j==q.size then return rest to i j
     if n >= mg then break
    else
     to:=to.push (<- elem' p i);i:=i+1;m:=m+1;n:=0
     if i+1==p.size then return tail to i j
     if m >= mg then break
   rule "list.sort.gallop"
   mg:=mg+1
   for _ in [0:all] do
    if mg>1 then mg:=mg-1
    modify λst=>b7 st mg
    let some k <- b5 false (<- elem' q j) p i (p.size-i) 0|return rest to i j
    m:=k
    if k>0 then
     to:=to++p.extract i (i+k);i:=i+k
     if i+1==p.size then return tail to i j
     if i==p.size then return rest to i j
    to:=to.push (<- elem' q j);j:=j+1
    if j==q.size then return rest to i j
    let some k <- b5 true (<- elem' p i) q j (q.size-j) 0|return rest to i j
    n:=k
    if k>0 then
     to:=to++q.extract j (j+k);j:=j+k
     if j==q.size then return rest to i j
    to:=to.push (<- elem' p i);i:=i+1
    if i+1==p.size then return tail to i j
    if m<7&&n<7 then break
   mg:=mg+1
   modify λst=>b7 st mg
  unsupported "internal:list.sort.merge-bound"):=rfl
theorem rj (p q:Array Wt):je p q=(do
  rule "list.sort.merge-hi"
  let all:=p.size+q.size
  let rest:=λ(to:Array Wt) (i j:Nat)=>p.extract 0 i++q.extract 0 j++to.reverse
  let tail:=λ(to:Array Wt) (i j:Nat)=>q.extract 0 j++p.extract 0 i++to.reverse
  let mut i:=p.size-1
  let mut j:=q.size
  let mut to:Array Wt:=#[<- elem' p i]
  if i==0 then return rest to i j
  if j==1 then return tail to i j
  let mut mg:=gallopOf (<- get)
  for _ in [0:all] do
   let mut m:=0
   let mut n:=0
   for _ in [0:all] do
    let some F9 <- lt' (<- elem' q (j-1)) (<- elem' p (i-1))|return rest to i j
    if F9 then
     i:=i-1;to:=to.push (<- elem' p i);m:=m+1;n:=0
     if i==0 then return rest to i j
     if m >= mg then break
    else
     j:=j-1;to:=to.push (<- elem' q j);n:=n+1;m:=0
     if j==1 then return tail to i j
     if n >= mg then break
   rule "list.sort.gallop"
   mg:=mg+1
   for _ in [0:all] do
    if mg>1 then mg:=mg-1
    modify λst=>b7 st mg
    let some h <- b5 false (<- elem' q (j-1)) p 0 i (i-1)|return rest to i j
    let k:=i-h
    m:=k
    if k>0 then
     to:=to++(p.extract h i).reverse;i:=h
     if i==0 then return rest to i j
    j:=j-1;to:=to.push (<- elem' q j)
    if j==1 then return tail to i j
    let some h <- b5 true (<- elem' p (i-1)) q 0 j (j-1)|return rest to i j
    let k:=j-h
    n:=k
    if k>0 then
     to:=to++(q.extract h j).reverse;j:=h
     if j==1 then return tail to i j
     if j==0 then return rest to i j
    i:=i-1;to:=to.push (<- elem' p i)
    if i==0 then return rest to i j
    if m<7&&n<7 then break
   mg:=mg+1
   modify λst=>b7 st mg
  unsupported "internal:list.sort.merge-bound"):=rfl
theorem rm (i:Nat):mergeAt' i=(do
  let st <- get
  let (some (sa,na,pw),some (sb,nb,_)):=((WS st)[i]?,(WS st)[i+1]?)|unsupported "internal:list.sort.pending"
  set (Zm st (((WS st).setIfInBounds i (sa,na+nb,pw)).eraseIdxIfInBounds (i+1)))
  let some k <- b5 false (<- elem' (W4 st) sb) (W4 st) sa na 0|return false
  let (sa,na):=(sa+k,na-k)
  if na==0 then return true
  let some nb <- b5 true (<- elem' (W4 st) (sa+na-1)) (W4 st) sb nb (nb-1)|return false
  if nb==0 then return true
  let x:=(W4 st).extract sa sb
  let y:=(W4 st).extract sb (sb+nb)
  let got <- if na<=nb then i_ x y else je x y
  modify λs2=>XF s2 (got.toList.zipIdx.foldl (λa (p,j)=>a.setIfInBounds (sa+j) p) (W4 s2))
  return (Zd (<- get)).isNone):=rfl
structure bY (c:Wt->Wt->Bool):Prop where
 MH:∀x y,c x y=true->c y x=false
 Se:∀x y z,c x z=true->c x y=true\/c y z=true
def le (c:Wt->Wt->Bool)(x y:Wt):Prop:=c y x=false
section
variable {c:Wt->Wt->Bool}
theorem bY.refl (O:bY c)(x:Wt):le c x x:=by
 cases h:c x x
 ·exact h
 ·exact O.MH _ _ h
theorem bY.trans (O:bY c){x y z:Wt}(h1:le c x y)(h2:le c y z):le c x z:=by
 cases h:c z x
 ·exact h
 ·rcases O.Se _ y _ h with q|q
  ·exact absurd (q.symm.trans h2) (by simp)
  ·exact absurd (q.symm.trans h1) (by simp)
theorem bY.of_lt (O:bY c){x y:Wt}(h:c x y=true):le c x y:=O.MH _ _ h
def el (a:Array Wt)(i:Nat):Wt:=a.getD i (Value.none,Value.none)
theorem jn {a:Array Wt}{i:Nat}(h:i<a.size):a[i]?=some (el a i):=by
 rw[getElem?_pos a i h,el,WN,getElem?_pos a i h];rfl
theorem v8 {a:Array Wt}{i:Nat}{x:Wt}(h:a[i]?=some x):el a i=x:=by
 rw[el,WN,h];rfl
theorem dR {a b:Array Wt}{i j:Nat}(h:a[i]?=b[j]?):el a i=el b j:=by
 rw[el,el,WN,WN,h]
def SR (c:Wt->Wt->Bool)(a:Array Wt)(lo hi:Nat):Prop:=∀i j,lo<=i->i<=j->j<hi->le c (el a i) (el a j)
def fF (prog:Wq)(w:WC)(A:Xg)(E:Wg->Wi->Prop)(s:Wi)(κ:Y3)(c:Wt->Wt->Bool)(S:Wt->Prop):Prop :=
 ∀(x y:Wt) (st:WV) (Q:Option Bool->WV->Prop),S x->S y->kindOf st=κ->Q (some (c x y)) st->wpS (model prog w) A E s (lt' x y) Q st
end
section
variable {prog:Wq}{w:WC}{A:Xg}{E:Wg->Wi->Prop}{s:Wi}{κ:Y3}{c:Wt->Wt->Bool}{S:Wt->Prop}
theorem aV {a:Array Wt}{i:Nat}{Q:Wt->WV->Prop}{st:WV}(h:i<a.size)(q:Q (el a i) st):wpS (model prog w) A E s (elem' a i) Q st:=by
 rw[elem'_eq,jn h];exact WE q
def dU (c:Wt->Wt->Bool)(left:Bool)(key:Wt)(a:Array Wt)(base i:Nat):Bool:=if left=true then c (el a (base+i)) key else !c key (el a (base+i))
theorem EF (O:bY c){left:Bool}{key:Wt}{a:Array Wt}{base n i j:Nat}(hs:SR c a base (base+n))(aQ:i<=j)(hj:j<n)(h:dU c left key a base j=true):dU c left key a base i=true:=by
 have hl:=hs (base+i) (base+j) (by lia) (by lia) (by lia)
 unfold dU at *
 cases left with
 |true =>
  rw[if_pos rfl]at *
  rcases O.Se _ (el a (base+i)) _ h with q|q
  ·exact absurd (q.symm.trans hl) (by simp)
  ·exact q
 |false =>
  rw[if_neg (by simp)]at *
  rw[Yv]at *
  exact O.trans hl h
theorem iJ (L:fF prog w A E s κ c S){left:Bool}{key:Wt}{a:Array Wt}{base n i:Nat}{Q:Option Bool->WV->Prop}{st:WV}(hk:kindOf st=κ)(hK:S key)(hA:∀i,i<n->S (el a (base+i)))(hn:base+n<=a.size)(hi:i<n)
  (h:Q (some (dU c left key a base i)) st):wpS (model prog w) A E s (do
   let z <- elem' a (base+i)
   if left then lt' z key else return (<- lt' key z).map (!·):StateT WV Sem (Option Bool)) Q st:=by
 refine Wy (aV (by lia) ?_)
 unfold dU at h;cases left with
 |true =>
  rw[if_pos rfl]at *
  exact L _ _ st Q (hA i hi) hK hk h
 |false =>
  rw[if_neg (by simp)]at *
  exact Wy (L _ _ st _ hK (hA i hi) hk (WE h))
theorem du (O:bY c)(L:fF prog w A E s κ c S){left:Bool}{key:Wt}{a:Array Wt}{base n hint:Nat}{Q:Option Nat->WV->Prop}{st:WV}(hk:kindOf st=κ)(hK:S key)(hA:∀i,i<n->S (el a (base+i)))(hn:base+n<=a.size)
  (hs:SR c a base (base+n)) (hh:hint<n) (h:∀k,k<=n->(∀i,i<k->dU c left key a base i=true)->(∀i,k<=i->i<n->dU c left key a base i=false)->Q (some k) st) :
  wpS (model prog w) A E s (b5 left key a base n hint) Q st:=by
 rw[uB];dsimp only;have up:∀{i j},i<=j->j<n->dU c left key a base j=true->dU c left key a base i=true:=λh1 h2 h3=>EF O hs h1 h2 h3;refine Wy (iJ L hk hK hA hn hh ?_);dsimp only;have dn:∀{i j},i<=j->j<n->dU c left key a base i=false->dU c left key a base j=false:=λ{i j} h1 h2 h3=>by
  cases q:dU c left key a base j
  ·rfl
  ·rw[up h1 h2 q]at h3;exact absurd h3 (by simp)
 cases JU:dU c left key a base hint with
 |true =>
  rw[if_pos rfl];refine Wy (Yc (Xu (I:=λx r aF=>aF=st/\∃be cU,r=(none,be,cU)/\hint+be<n/\be<cU/\x+1<=cU/\dU c left key a base (hint+be)=true)
   (Q:=λr aF=>aF=st/\∃be cU,r=(none,be,cU)/\hint+be<n/\be<cU/\dU c left key a base (hint+be)=true/\(n-hint<=cU\/(hint+cU<n/\dU c left key a base (hint+cU)=false))) ?_ ?_ ?_) ?_)
  ·rintro x r aF _ hx ⟨rfl,be,cU,rfl,h1,h2,h3,h4⟩;dsimp only
   by_cases hr:cU >= n-hint
   ·rw[if_pos hr];exact WE ⟨rfl,be,cU,rfl,h1,h2,h4,.inl hr⟩
   ·rw[if_neg hr];refine Wy (iJ L hk hK hA hn (by omega) ?_)
    dsimp only;cases hb:dU c left key a base (hint+cU)with
    |true =>
     rw[if_neg (by simp)]
     exact WE ⟨rfl,cU,_,rfl,by omega,by omega,by omega,hb⟩
    |false =>
     rw[if_pos (by simp)]
     exact WE ⟨rfl,be,cU,rfl,h1,h2,h4,.inr ⟨by omega,hb⟩⟩
  ·rintro r aF ⟨rfl,be,cU,rfl,h1,h2,h3,h4⟩;exact⟨rfl,be,cU,rfl,h1,h2,h4,.inl (by omega)⟩
  ·exact⟨rfl,0,1,rfl,by omega,by omega,by omega,JU⟩
  rintro r aF ⟨e0,be,cU,rfl,h1,h2,h4,h5⟩;rw[e0];dsimp only;have g1:∀i,i<hint+be+1->dU c left key a base i=true:=λi hi=>up (j:=hint+be) (by omega) h1 h4
  have g2:∀i,hint+min cU (n-hint)<=i->i<n->dU c left key a base i=false:=λi hi gn=>by
   rcases h5 with q|⟨q1,q2⟩
   ·omega
   ·exact dn (i:=hint+cU) (by omega) gn q2
  refine Wy (Yc (Xu (I:=λx r aF=>aF=st/\∃u v,r=(none,u,v)/\u<=v/\v<=n/\v-u<=n-x/\(∀i,i<u->dU c left key a base i=true)/\(∀i,v<=i->i<n->dU c left key a base i=false))
   (Q:=λr aF=>aF=st/\∃v,r=(none,v,v)/\v<=n/\(∀i,i<v->dU c left key a base i=true)/\(∀i,v<=i->i<n->dU c left key a base i=false)) ?_ ?_ ?_) ?_)
  ·rintro x r aF _ hx ⟨rfl,u,v,rfl,h1,h2,h3,h4,h5⟩;dsimp only
   by_cases LC:u >= v
   ·rw[if_pos LC];obtain rfl:u=v:=by omega
    exact WE ⟨rfl,u,rfl,h2,h4,h5⟩
   ·rw[if_neg LC];refine Wy (iJ L hk hK hA hn (by omega) ?_)
    dsimp only;cases hb:dU c left key a base (u+(v-u) / 2)with
    |true =>
     rw[if_pos rfl];exact WE ⟨rfl,_,v,rfl,by omega,h2,by omega,λi hi=>up (j:=u+(v-u) / 2) (by omega) (by omega) hb,h5⟩
    |false =>
     rw[if_neg (by simp)]
     exact WE ⟨rfl,u,_,rfl,by omega,by omega,by omega,h4,λi hi gn=>dn (i:=u+(v-u) / 2) (by omega) (by omega) hb⟩
  ·rintro r aF ⟨rfl,u,v,rfl,h1,h2,h3,h4,h5⟩;obtain rfl:u=v:=by omega
   exact⟨rfl,u,rfl,h2,h4,h5⟩
  ·exact⟨rfl,_,_,rfl,by omega,by omega,by omega,by assumption,by assumption⟩
  ·rintro r aF ⟨rfl,v,rfl,h2,h4,h5⟩;exact WE (h v h2 h4 h5)
 |false =>
  rw[if_neg (by simp)]
  refine Wy (Yc (Xu (I:=λx r aF=>aF=st/\∃be cU,r=(none,be,cU)/\be<=hint/\be<cU/\x+1<=cU/\dU c left key a base (hint-be)=false)
   (Q:=λr aF=>aF=st/\∃be cU,r=(none,be,cU)/\be<=hint/\be<cU/\dU c left key a base (hint-be)=false/\(hint+1<=cU\/(cU<=hint/\dU c left key a base (hint-cU)=true))) ?_ ?_ ?_) ?_)
  ·rintro x r aF _ hx ⟨rfl,be,cU,rfl,h1,h2,h3,h4⟩;dsimp only
   by_cases hr:cU >= hint+1
   ·rw[if_pos hr];exact WE ⟨rfl,be,cU,rfl,h1,h2,h4,.inl hr⟩
   ·rw[if_neg hr];refine Wy (iJ L hk hK hA hn (by omega) ?_)
    dsimp only;cases hb:dU c left key a base (hint-cU)with
    |true =>
     rw[if_pos rfl];exact WE ⟨rfl,be,cU,rfl,h1,h2,h4,.inr ⟨by omega,hb⟩⟩
    |false =>
     rw[if_neg (by simp)]
     exact WE ⟨rfl,cU,_,rfl,by omega,by omega,by omega,hb⟩
  ·rintro r aF ⟨rfl,be,cU,rfl,h1,h2,h3,h4⟩;exact⟨rfl,be,cU,rfl,h1,h2,h4,.inl (by omega)⟩
  ·exact⟨rfl,0,1,rfl,by omega,by omega,by omega,JU⟩
  rintro r aF ⟨e0,be,cU,rfl,h1,h2,h4,h5⟩;rw[e0];dsimp only;have g1:∀i,i<hint+1-min cU (hint+1)->dU c left key a base i=true:=λi hi=>by
   rcases h5 with q|⟨q1,q2⟩
   ·omega
   ·exact up (j:=hint-cU) (by omega) (by omega) q2
  have g2:∀i,hint-be<=i->i<n->dU c left key a base i=false:=λi hi gn=>dn (i:=hint-be) hi gn h4;refine Wy (Yc (Xu (I:=λx r aF=>aF=st/\∃u v,r=(none,u,v)/\u<=v/\v<=n/\v-u<=n-x/\(∀i,i<u->dU c left key a base i=true)/\(∀i,v<=i->i<n->dU c left key a base i=false))
   (Q:=λr aF=>aF=st/\∃v,r=(none,v,v)/\v<=n/\(∀i,i<v->dU c left key a base i=true)/\(∀i,v<=i->i<n->dU c left key a base i=false)) ?_ ?_ ?_) ?_)
  ·rintro x r aF _ hx ⟨rfl,u,v,rfl,h1,h2,h3,h4,h5⟩;dsimp only
   by_cases LC:u >= v
   ·rw[if_pos LC];obtain rfl:u=v:=by omega
    exact WE ⟨rfl,u,rfl,h2,h4,h5⟩
   ·rw[if_neg LC];refine Wy (iJ L hk hK hA hn (by omega) ?_)
    dsimp only;cases hb:dU c left key a base (u+(v-u) / 2)with
    |true =>
     rw[if_pos rfl];exact WE ⟨rfl,_,v,rfl,by omega,h2,by omega,λi hi=>up (j:=u+(v-u) / 2) (by omega) (by omega) hb,h5⟩
    |false =>
     rw[if_neg (by simp)]
     exact WE ⟨rfl,u,_,rfl,by omega,by omega,by omega,h4,λi hi gn=>dn (i:=u+(v-u) / 2) (by omega) (by omega) hb⟩
  ·rintro r aF ⟨rfl,u,v,rfl,h1,h2,h3,h4,h5⟩;obtain rfl:u=v:=by omega
   exact⟨rfl,u,rfl,h2,h4,h5⟩
  ·exact⟨rfl,_,_,rfl,by omega,by omega,by omega,by assumption,by assumption⟩
  ·rintro r aF ⟨rfl,v,rfl,h2,h4,h5⟩;exact WE (h v h2 h4 h5)
end
section
variable {c:Wt->Wt->Bool}{p q:Array Wt}{t:List Wt}{i j:Nat}
theorem vf {a:Array Wt}{i:Nat}(h:i<a.size):a.toList.take (i+1)=a.toList.take i++[el a i]:=by
 have e:a.toList[i]?=some (el a i):=by rw[WM];exact jn h
 rw[List.take_succ,e];rfl
theorem v9 {a:Array Wt}{i:Nat}(h:i<a.size):a.toList.drop i=el a i::a.toList.drop (i+1):=by
 have hl:i<a.toList.length:=by rw[Wr];exact h
 have e:a.toList[i]=el a i:=by
  have h1:=Wv hl;rw[WM,jn h]at h1;exact(WR h1).symm
 rw[XQ hl,e]
structure Mg (c:Wt->Wt->Bool)(p q:Array Wt)(t:List Wt)(i j:Nat):Prop where
 hi:i<=p.size
 hj:j<=q.size
 perm:t.Perm (p.toList.take i++q.toList.take j)
 eF:t.Pairwise (le c)
 ap:∀x∈t,∀k,i<=k->k<p.size->le c x (el p k)
 aq:∀x∈t,∀k,j<=k->k<q.size->le c x (el q k)
def Gd (c:Wt->Wt->Bool)(p q:Array Wt)(t:List Wt):Prop:=t.Perm (p.toList++q.toList)/\t.Pairwise (le c)
theorem qG {x:Wt}(h:t.Pairwise (le c))(hx:∀y∈t,le c y x):(t++[x]).Pairwise (le c):=by
 rw[List.pairwise_append];exact⟨h,Z9 _ _,λy hy z hz=>by rw[Wx.mp hz];exact hx y hy⟩
theorem Mg.j9 (m:Mg c p q t i j)(hj:j<q.size)(sq:SR c q 0 q.size)(hle:∀k,i<=k->k<p.size->le c (el q j) (el p k)):Mg c p q (t++[el q j]) i (j+1) where
 hi:=m.hi
 hj:=hj
 perm:=by
  rw[vf hj,<- Xh];exact m.perm.append_right _
 eF:=qG m.eF λy hy=>m.aq y hy j (Wl _) hj
 ap:=λx hx k h1 h2=>by
  rcases WO.mp hx with h|h
  ·exact m.ap x h k h1 h2
  ·rw[Wx.mp h];exact hle k h1 h2
 aq:=λx hx k h1 h2=>by
  rcases WO.mp hx with h|h
  ·exact m.aq x h k (by lia) h2
  ·rw[Wx.mp h];exact sq j k (by lia) (by lia) h2
theorem Mg.j_ (m:Mg c p q t i j)(hi:i<p.size)(sp:SR c p 0 p.size)(hle:∀k,j<=k->k<q.size->le c (el p i) (el q k)):Mg c p q (t++[el p i]) (i+1) j where
 hi:=hi
 hj:=m.hj
 perm:=by
  rw[vf hi];refine(m.perm.append_right _).trans ?_;rw[Xh,Xh];exact List.Perm.append_left _ List.perm_append_comm
 eF:=qG m.eF λy hy=>m.ap y hy i (Wl _) hi
 ap:=λx hx k h1 h2=>by
  rcases WO.mp hx with h|h
  ·exact m.ap x h k (by lia) h2
  ·rw[Wx.mp h];exact sp i k (by lia) (by lia) h2
 aq:=λx hx k h1 h2=>by
  rcases WO.mp hx with h|h
  ·exact m.aq x h k h1 h2
  ·rw[Wx.mp h];exact hle k h1 h2
theorem gx {a:Array Wt}{i k:Nat}(h:i+k<a.size):(a.toList.drop i).take (k+1)=(a.toList.drop i).take k++[el a (i+k)]:=by
 have e:(a.toList.drop i)[k]?=some (el a (i+k)):=by rw[ZH,WM];exact jn h
 rw[List.take_succ,e];rfl
theorem Mg.iO (m:Mg c p q t i j)(sp:SR c p 0 p.size):∀(k:Nat),i+k<=p.size->(∀x,x<k->∀y,j<=y->y<q.size->le c (el p (i+x)) (el q y))->Mg c p q (t++(p.toList.drop i).take k) (i+k) j
 |0,_,_=>by simpa using m
 |k+1,h,hle=>by
  have m':=Mg.iO m sp k (by lia) λx hx=>hle x (by lia)
  rw[gx (by lia),<- Xh,<- Nat.add_assoc]
  exact m'.j_ (by lia) sp (hle k (by lia))
theorem Mg.iN (m:Mg c p q t i j)(sq:SR c q 0 q.size):∀(k:Nat),j+k<=q.size->(∀x,x<k->∀y,i<=y->y<p.size->le c (el q (j+x)) (el p y))->Mg c p q (t++(q.toList.drop j).take k) i (j+k)
 |0,_,_=>by simpa using m
 |k+1,h,hle=>by
  have m':=Mg.iN m sq k (by lia) λx hx=>hle x (by lia)
  rw[gx (by lia),<- Xh,<- Nat.add_assoc]
  exact m'.j9 (by lia) sq (hle k (by lia))
theorem Mg.full (m:Mg c p q t p.size q.size):Gd c p q t:=by
 refine⟨?_,m.eF⟩;have h:=m.perm;rw[XM (by rw[Wr];lia),XM (by rw[Wr];lia)]at h
 exact h
theorem bX (a:Array Wt)(i j:Nat):(a.extract i j).toList=(a.toList.drop i).take (j-i):=by
 rw[Array.toList_extract,ZL]
theorem sv {a:Array Wt}{i j:Nat}(h:a.size<=i):(a.toList.drop i).take (j-i)=[]:=by
 rw[Yn (by rw[Wr];exact h)]
 simp
theorem Mg.done {to:Array Wt}(m:Mg c p q to.toList i j)(sp:SR c p 0 p.size)(sq:SR c q 0 q.size)(h:i=p.size\/j=q.size):Gd c p q (to++p.extract i p.size++q.extract j q.size).toList:=by
 rw[XS,XS,bX,bX];rcases h with rfl|rfl
 ·rw[sv (Wl _),XD];have m':=m.iN sq (q.size-j) (by have:=m.hj;lia) λx hx y h1 h2=>by lia
  rw[show j+(q.size-j)=q.size by have:=m.hj;lia]at m'
  exact m'.full
 ·rw[sv (a:=q) (Wl _),XD];have m':=m.iO sp (p.size-i) (by have:=m.hi;lia) λx hx y h1 h2=>by lia
  rw[show i+(p.size-i)=p.size by have:=m.hi;lia]at m'
  exact m'.full
theorem Mg.tail {to:Array Wt}(O:bY c)(m:Mg c p q to.toList i j)(sp:SR c p 0 p.size)(sq:SR c q 0 q.size)(h:i+1=p.size)(hl:∀y,y<q.size->c (el q y) (el p (p.size-1))=true):Gd c p q (to++q.extract j q.size++p.extract i p.size).toList:=by
 rw[XS,XS,bX,bX];have m':=m.iN sq (q.size-j) (by have:=m.hj;lia) λx hx y h1 h2=>by
  rw[show y=p.size-1 by lia]
  exact O.of_lt (hl _ (by lia))
 rw[show j+(q.size-j)=q.size by have:=m.hj;lia]at m'
 have m2:=m'.iO sp (p.size-i) (by have:=m.hi;lia) λx hx y h1 h2=>by lia
 rw[show i+(p.size-i)=p.size by have:=m.hi;lia]at m2
 exact m2.full
theorem wq (to a:Array Wt)(i k:Nat):(to++a.extract i (i+k)).toList=to.toList++(a.toList.drop i).take k:=by
 rw[XS,bX,show i+k-i=k by lia]
theorem Mg.start (O:bY c)(sp:SR c p 0 p.size)(sq:SR c q 0 q.size)(hq:0<q.size)(hp:0<p.size)(h:c (el q 0) (el p 0)=true):Mg c p q [el q 0] 0 1:=by
 have m:Mg c p q [] 0 0:=⟨WJ _,WJ _,(by simp),.nil,(λx hx=>by cases hx),(λx hx=>by cases hx)⟩
 exact m.j9 hq sq λk _ hk=>O.trans (O.of_lt h) (sp 0 k (by lia) (by lia) hk)
end
structure jZ (st aF:WV):Prop where
 kind:kindOf aF=kindOf st
 arr:W4 aF=W4 st
 pend:WS aF=WS st
 fail:Zd aF=Zd st
theorem jZ.refl (st:WV):jZ st st:=⟨rfl,rfl,rfl,rfl⟩
theorem jZ.Fz {st aF:WV}(e:jZ st aF)(g:Nat):jZ st (b7 aF g):=⟨e.kind,e.arr,e.pend,e.fail⟩
abbrev RI:=Array Wt×Nat×Nat×Nat×Nat
abbrev RG:=Array Wt×Nat×Nat×Nat×Nat×Nat
abbrev RO:=Array Wt×Nat×Nat×Nat
noncomputable def ON (p q t:Array Wt)(i j mg m n:Nat):StateT WV Sem (ForInStep (Option (Array Wt)×RG)):=do
 let z <- elem' p i
 if (i+1+1==p.size)=true then pure (.done (some (t.push z++q.extract j++p.extract (i+1)),t.push z,i+1,j,mg,m,n))
 else if (decide (m<7)&&decide (n<7))=true then pure (.done (none,t.push z,i+1,j,mg,m,n)) else pure (.yield (none,t.push z,i+1,j,mg,m,n))
noncomputable def OO (p q t:Array Wt)(i j mg m n:Nat):StateT WV Sem (ForInStep (Option (Array Wt)×RG)):=do
 let y <- elem' q j
 if (j+1==q.size)=true then pure (.done (some (t.push y++p.extract i++q.extract (j+1)),t.push y,i,j+1,mg,m,n))
 else do
  let x <- elem' p i
  let r <- b5 true x q (j+1) (q.size-(j+1)) 0
  match r with
  |some k=>if k>0 then (if (j+1+k==q.size)=true then pure (.done (some (t.push y++q.extract (j+1) (j+1+k)++p.extract i++q.extract (j+1+k)),t.push y++q.extract (j+1) (j+1+k),i,j+1+k,mg,m,k))
    else ON p q (t.push y++q.extract (j+1) (j+1+k)) i (j+1+k) mg m k) else ON p q (t.push y) i (j+1) mg m k
  |_=>pure (.done (some (t.push y++p.extract i++q.extract (j+1)),t.push y,i,j+1,mg,m,n))
noncomputable def Lx (p q t:Array Wt)(i j mg m n:Nat):StateT WV Sem (ForInStep (Option (Array Wt)×RG)):=do
 modify λst=>b7 st mg
 let y <- elem' q j
 let r <- b5 false y p i (p.size-i) 0
 match r with
 |some k=>if k>0 then (if (i+k+1==p.size)=true then pure (.done (some (t++p.extract i (i+k)++q.extract j++p.extract (i+k)),t++p.extract i (i+k),i+k,j,mg,k,n))
   else if (i+k==p.size)=true then pure (.done (some (t++p.extract i (i+k)++p.extract (i+k)++q.extract j),t++p.extract i (i+k),i+k,j,mg,k,n))
   else OO p q (t++p.extract i (i+k)) (i+k) j mg k n) else OO p q t i j mg k n
 |_=>pure (.done (some (t++p.extract i++q.extract j),t,i,j,mg,m,n))
def Um (p q:Array Wt)(s:Option (Array Wt)×RG):StateT WV Sem (ForInStep (Option (Array Wt)×RG)):=if s.2.2.2.2.1>1 then Lx p q s.2.1 s.2.2.1 s.2.2.2.1 (s.2.2.2.2.1-1) s.2.2.2.2.2.1 s.2.2.2.2.2.2 else Lx p q s.2.1 s.2.2.1 s.2.2.2.1 s.2.2.2.2.1 s.2.2.2.2.2.1 s.2.2.2.2.2.2
noncomputable def Lw (p q:Array Wt)(mg:Nat)(s:Option (Array Wt)×RI):StateT WV Sem (ForInStep (Option (Array Wt)×RI)):=do
 let y <- elem' q s.2.2.2.1
 if (s.2.2.2.1+1==q.size)=true then pure (.done (some (s.2.1.push y++p.extract s.2.2.1++q.extract (s.2.2.2.1+1)),s.2.1.push y,s.2.2.1,s.2.2.2.1+1,0,s.2.2.2.2.2+1))
 else if s.2.2.2.2.2+1 >= mg then pure (.done (none,s.2.1.push y,s.2.2.1,s.2.2.2.1+1,0,s.2.2.2.2.2+1)) else pure (.yield (none,s.2.1.push y,s.2.2.1,s.2.2.2.1+1,0,s.2.2.2.2.2+1))
noncomputable def Lv (p q:Array Wt)(mg:Nat)(s:Option (Array Wt)×RI):StateT WV Sem (ForInStep (Option (Array Wt)×RI)):=do
 let x <- elem' p s.2.2.1
 if (s.2.2.1+1+1==p.size)=true then pure (.done (some (s.2.1.push x++q.extract s.2.2.2.1++p.extract (s.2.2.1+1)),s.2.1.push x,s.2.2.1+1,s.2.2.2.1,s.2.2.2.2.1+1,0))
 else if s.2.2.2.2.1+1 >= mg then pure (.done (none,s.2.1.push x,s.2.2.1+1,s.2.2.2.1,s.2.2.2.2.1+1,0)) else pure (.yield (none,s.2.1.push x,s.2.2.1+1,s.2.2.2.1,s.2.2.2.2.1+1,0))
noncomputable def OM (p q:Array Wt)(mg:Nat)(s:Option (Array Wt)×RI):StateT WV Sem (ForInStep (Option (Array Wt)×RI)):=do
 let y <- elem' q s.2.2.2.1
 let x <- elem' p s.2.2.1
 let r <- lt' y x
 match r with
 |some F9=>if F9=true then Lw p q mg s else Lv p q mg s
 |_=>pure (.done (some (s.2.1++p.extract s.2.2.1++q.extract s.2.2.2.1),s.2.1,s.2.2.1,s.2.2.2.1,s.2.2.2.2.1,s.2.2.2.2.2))
noncomputable def Su (p q:Array Wt)(s:Option (Array Wt)×RO):StateT WV Sem (ForInStep (Option (Array Wt)×RO)):=do
 let s1 <- forIn [:p.size+q.size] ((none,s.2.1,s.2.2.1,s.2.2.2.1,0,0):Option (Array Wt)×RI) λ_ r=>OM p q s.2.2.2.2 r
 match s1.1 with
 |some r=>pure (.done (some r,s1.2.1,s1.2.2.1,s1.2.2.2.1,s.2.2.2.2))
 |none=>do
  liftM (rule "list.sort.gallop")
  let s2 <- forIn [:p.size+q.size] ((none,s1.2.1,s1.2.2.1,s1.2.2.2.1,s.2.2.2.2+1,s1.2.2.2.2.1,s1.2.2.2.2.2):Option (Array Wt)×RG) λ_ r=>Um p q r
  match s2.1 with
  |some r=>pure (.done (some r,s2.2.1,s2.2.2.1,s2.2.2.2.1,s2.2.2.2.2.1))
  |none=>do
   modify λst=>b7 st (s2.2.2.2.2.1+1)
   pure (.yield (none,s2.2.1,s2.2.2.1,s2.2.2.2.1,s2.2.2.2.2.1+1))
theorem rh (p q:Array Wt):i_ p q=(do
  liftM (rule "list.sort.merge-lo")
  let y <- elem' q 0
  if (1==q.size)=true then pure (#[y]++p.extract 0++q.extract 1)
  else if (0+1==p.size)=true then pure (#[y]++q.extract 1++p.extract 0)
  else do
   let st <- get
   let s <- forIn [:p.size+q.size] ((none,#[y],0,1,gallopOf st):Option (Array Wt)×RO) λ_ s=>Su p q s
   match s.1 with
   |some r=>pure r
   |none=>liftM (unsupported "internal:list.sort.merge-bound" : Sem (Array Wt))):=by
 rw[rg];dsimp only;refine congrArg (bind _) (funext λ_=>?_);refine congrArg (bind _) (funext λy=>?_);refine congrArg (ite _ _) (congrArg (ite _ _) ?_);refine congrArg (bind _) (funext λy=>?_);refine congr (congrArg bind (congrArg _ (funext λ_=>funext λs=>?_))) (funext λs=>?_)
 ·refine congr (congrArg bind (congrArg _ (funext λ_=>funext λs=>?_))) (funext λs=>?_)
  ·rfl
  ·cases s.1
   ·refine congrArg (bind _) (funext λ_=>?_);refine congr (congrArg bind (congrArg _ (funext λ_=>funext λs=>?_))) (funext λs=>?_)
    ·rfl
    ·cases s.1 <;> rfl
   ·rfl
 ·cases s.1 <;> rfl
section
variable {prog:Wq}{w:WC}{A:Xg}{E:Wg->Wi->Prop}{s:Wi}{κ:Y3}{c:Wt->Wt->Bool}{S:Wt->Prop}{p q:Array Wt}
theorem yg {st:WV}{Q:ForInStep (Option (Array Wt)×RG)->WV->Prop}{t:Array Wt}{i j mg m n:Nat}(O:bY c)(sp:SR c p 0 p.size)(sq:SR c q 0 q.size)(hl:∀y,y<q.size->c (el q y) (el p (p.size-1))=true)(m3:Mg c p q t.toList i j)(hi:i+1<p.size)(g3:∀y,j<=y->y<q.size->le c (el p i) (el q y))
  (hd:∀out r,Gd c p q out.toList->Q (.done (some out,r)) st) (hn:∀t' m n,Mg c p q t'.toList (i+1) j->i+1+1<p.size->Q (.done (none,t',i+1,j,mg,m,n)) st/\Q (.yield (none,t',i+1,j,mg,m,n)) st):wpS (model prog w) A E s (ON p q t i j mg m n) Q st:=by
 refine Wy (aV (by lia) ?_)
 have m4:Mg c p q (t.push (el p i)).toList (i+1) j:=by
  rw[Yi];exact m3.j_ (by lia) sp g3
 by_cases e5:(i+1+1==p.size)=true
 ·rw[if_pos e5];exact WE (hd _ _ (m4.tail O sp sq (by simpa using e5) hl))
 rw[if_neg e5];have h5:i+1+1≠p.size:=by simpa using e5
 obtain⟨h6,h7⟩:=hn (t.push (el p i)) m n m4 (by lia)
 split
 ·exact WE h6
 ·exact WE h7
theorem yh {st:WV}{Q:ForInStep (Option (Array Wt)×RG)->WV->Prop}{t:Array Wt}{i j mg m n:Nat}(O:bY c)(L:fF prog w A E s κ c S)(hk:kindOf st=κ)(Sp:∀i,i<p.size->S (el p i))(Sq:∀i,i<q.size->S (el q i))(sp:SR c p 0 p.size)(sq:SR c q 0 q.size)(hl:∀y,y<q.size->c (el q y) (el p (p.size-1))=true)(m1:Mg c p q t.toList i j)(hi:i+1<p.size)(hj:j<q.size)(g1:∀y,i<=y->y<p.size->le c (el q j) (el p y))
  (hd:∀out r,Gd c p q out.toList->Q (.done (some out,r)) st) (hn:∀t' j' m n,Mg c p q t'.toList (i+1) j'->i+1+1<p.size->j<j'->j'<q.size->Q (.done (none,t',i+1,j',mg,m,n)) st/\Q (.yield (none,t',i+1,j',mg,m,n)) st):wpS (model prog w) A E s (OO p q t i j mg m n) Q st:=by
 refine Wy (aV hj ?_);have m2:Mg c p q (t.push (el q j)).toList i (j+1):=by
  rw[Yi];exact m1.j9 hj sq g1
 by_cases e3:(j+1==q.size)=true
 ·rw[if_pos e3];exact WE (hd _ _ (m2.done sp sq (.inr (by simpa using e3))))
 rw[if_neg e3];have h3:j+1≠q.size:=by simpa using e3
 refine Wy (aV (by lia) (Wy (du O L hk (Sp _ (by lia)) (λx hx=>Sq _ (by lia)) (by lia) (λa b h1 h2 h3=>sq a b (by lia) h2 (by lia)) (by lia) λk k1 k2 k3=>?_)))
 have g3:∀y,j+1+k<=y->y<q.size->le c (el p i) (el q y):=λy h1 h2=>by
  have:=k3 (y-(j+1)) (by lia) (by lia)
  unfold dU at this;rw[if_pos rfl,show j+1+(y-(j+1))=y by lia]at this
  exact this
 dsimp only
 by_cases Ay:k>0
 ·rw[if_pos Ay];have m3:Mg c p q (t.push (el q j)++q.extract (j+1) (j+1+k)).toList i (j+1+k):=by
   rw[wq];exact m2.iN sq k (by lia) λx hx y h1 h2=>O.trans (O.of_lt (show c (el q (j+1+x)) (el p i)=true from k2 x hx)) (sp _ y (by lia) h1 h2)
  by_cases e4:(j+1+k==q.size)=true
  ·rw[if_pos e4];exact WE (hd _ _ (m3.done sp sq (.inr (by simpa using e4))))
  rw[if_neg e4];have h4:j+1+k≠q.size:=by simpa using e4
  exact yg O sp sq hl m3 hi g3 hd λt' m n h1 h2=>hn t' _ m n h1 h2 (by lia) (by lia)
 ·rw[if_neg Ay];exact yg O sp sq hl m2 hi (λy h1 h2=>g3 y (by lia) h2) hd λt' m n h1 h2=>hn t' _ m n h1 h2 (by lia) (by lia)
theorem F4 {st:WV}{Q:ForInStep (Option (Array Wt)×RG)->WV->Prop}{t:Array Wt}{i j mg m n:Nat}(O:bY c)(L:fF prog w A E s κ c S)(hk:kindOf st=κ)(Sp:∀i,i<p.size->S (el p i))(Sq:∀i,i<q.size->S (el q i))(sp:SR c p 0 p.size)(sq:SR c q 0 q.size)(hl:∀y,y<q.size->c (el q y) (el p (p.size-1))=true)(m0:Mg c p q t.toList i j)(hi:i+1<p.size)(hj:j<q.size)
  (hd:∀out r,Gd c p q out.toList->Q (.done (some out,r)) (b7 st mg)) (hn:∀t' i' j' m n,Mg c p q t'.toList i' j'->i'+1<p.size->j'<q.size->i+j<i'+j'->Q (.done (none,t',i',j',mg,m,n)) (b7 st mg)/\Q (.yield (none,t',i',j',mg,m,n)) (b7 st mg)):wpS (model prog w) A E s (Lx p q t i j mg m n) Q st:=by
 refine Wy (YS (Wy (aV hj (Wy (du O L hk (Sq _ hj) (λx hx=>Sp _ (by lia)) (by lia) (λa b h1 h2 h3=>sp a b (by lia) h2 (by lia)) (by lia) λk k1 k2 k3=>?_)))))
 have g0:∀x,x<k->le c (el p (i+x)) (el q j):=λx hx=>by
  have:=k2 x hx;unfold dU at this;rw[if_neg (by simp),Yv]at this
  exact this
 have g1:∀y,i+k<=y->y<p.size->le c (el q j) (el p y):=λy h1 h2=>by
  have:=k3 (y-i) (by lia) (by lia)
  unfold dU at this;rw[if_neg (by simp),YG,show i+(y-i)=y by lia]at this
  exact O.of_lt this
 have V8:i+k<p.size:=by
  rcases XW (i+k) p.size with gT|V_
  ·exact gT
  ·have h1:=g0 (p.size-1-i) (by lia)
   rw[show i+(p.size-1-i)=p.size-1 by lia]at h1
   exact absurd ((hl j hj).symm.trans h1) (by simp)
 dsimp only
 by_cases Ay:k>0
 ·rw[if_pos Ay];have m1:Mg c p q (t++p.extract i (i+k)).toList (i+k) j:=by
   rw[wq];exact m0.iO sp k (by lia) λx hx y h1 h2=>O.trans (g0 x hx) (sq j y (by lia) h1 h2)
  by_cases e1:(i+k+1==p.size)=true
  ·rw[if_pos e1];exact WE (hd _ _ (m1.tail O sp sq (by simpa using e1) hl))
  rw[if_neg e1];have Eb:i+k+1≠p.size:=by simpa using e1
  rw[if_neg (by simp;lia)]
  exact yh O L hk Sp Sq sp sq hl m1 (by lia) hj g1 hd λt' j' m n h1 h2 h3 h4=>hn t' _ j' m n h1 h2 h4 (by lia)
 ·rw[if_neg Ay];exact yh O L hk Sp Sq sp sq hl m0 hi hj (λy h1 h2=>g1 y (by lia) h2) hd λt' j' m n h1 h2 h3 h4=>hn t' _ j' m n h1 h2 h4 (by lia)
theorem F3 {st:WV}{Q:ForInStep (Option (Array Wt)×RI)->WV->Prop}{t:Array Wt}{i j mg ma na:Nat}(O:bY c)(L:fF prog w A E s κ c S)(hk:kindOf st=κ)(Sp:∀i,i<p.size->S (el p i))(Sq:∀i,i<q.size->S (el q i))(sp:SR c p 0 p.size)(sq:SR c q 0 q.size)(hl:∀y,y<q.size->c (el q y) (el p (p.size-1))=true)(m:Mg c p q t.toList i j)(hi:i+1<p.size)(hj:j<q.size)
  (hd:∀out r,Gd c p q out.toList->Q (.done (some out,r)) st) (hn:∀t' i' j' m n,Mg c p q t'.toList i' j'->i'+1<p.size->j'<q.size->i+j<i'+j'->Q (.done (none,t',i',j',m,n)) st/\Q (.yield (none,t',i',j',m,n)) st):wpS (model prog w) A E s (OM p q mg (none,t,i,j,ma,na)) Q st:=by
 unfold OM Lw Lv;dsimp only;refine Wy (aV hj (Wy (aV (by lia) (Wy (L _ _ st _ (Sq _ hj) (Sp _ (by lia)) hk ?_)))))
 dsimp only;cases hc:c (el q j) (el p i)with
 |true =>
  rw[if_pos rfl];refine Wy (aV hj ?_);have m1:Mg c p q (t.push (el q j)).toList i (j+1):=by
   rw[Yi];exact m.j9 hj sq λk h1 h2=>O.trans (O.of_lt hc) (sp i k (by lia) h1 h2)
  by_cases e3:(j+1==q.size)=true
  ·rw[if_pos e3];exact WE (hd _ _ (m1.done sp sq (.inr (by simpa using e3))))
  rw[if_neg e3];have h3:j+1≠q.size:=by simpa using e3
  obtain⟨h6,h7⟩:=hn _ _ _ 0 (na+1) m1 hi (by lia) (by lia)
  split
  ·exact WE h6
  ·exact WE h7
 |false =>
  rw[if_neg (by simp)]
  refine Wy (aV (by lia) ?_)
  have m1:Mg c p q (t.push (el p i)).toList (i+1) j:=by
   rw[Yi];exact m.j_ (by lia) sp λk h1 h2=>O.trans (show le c (el p i) (el q j) from hc) (sq j k (by lia) h1 h2)
  by_cases e3:(i+1+1==p.size)=true
  ·rw[if_pos e3];exact WE (hd _ _ (m1.tail O sp sq (by simpa using e3) hl))
  rw[if_neg e3];have h3:i+1+1≠p.size:=by simpa using e3
  obtain⟨h6,h7⟩:=hn _ _ _ (ma+1) 0 m1 (by lia) hj (by lia)
  split
  ·exact WE h6
  ·exact WE h7
theorem tH (O:bY c)(L:fF prog w A E s κ c S){Q:Array Wt->WV->Prop}{st:WV}(hk:kindOf st=κ)(Sp:∀i,i<p.size->S (el p i))(Sq:∀i,i<q.size->S (el q i))(sp:SR c p 0 p.size)(sq:SR c q 0 q.size)
  (hp:0<p.size) (hq:0<q.size) (hf:c (el q 0) (el p 0)=true) (hl:∀y,y<q.size->c (el q y) (el p (p.size-1))=true) (h:∀to aF,jZ st aF->Gd c p q to.toList->Q to aF) :
  wpS (model prog w) A E s (i_ p q) Q st:=by
 rw[rh];refine Wy (wpS_lift (Zk ⟨rfl,?_⟩));refine Wy (aV hq ?_);have m0:Mg c p q (#[el q 0]:Array Wt).toList 0 1:=Mg.start O sp sq hq hp hf
 by_cases h1:(1==q.size)=true
 ·rw[if_pos h1];exact WE (h _ st (jZ.refl st) (m0.done sp sq (.inr (by simpa using h1))))
 rw[if_neg h1]
 by_cases h2:(0+1==p.size)=true
 ·rw[if_pos h2];exact WE (h _ st (jZ.refl st) (m0.tail O sp sq (by simpa using h2) hl))
 rw[if_neg h2];refine Wy (ZM ?_);refine Wy (Yc (Xu
  (I:=λx r aF=>jZ st aF/\∃to i j mg,r=(none,to,i,j,mg)/\Mg c p q to.toList i j/\i+1<p.size/\j<q.size/\x<i+j)
  (Q:=λr aF=>jZ st aF/\∃out r',r=(some out,r')/\Gd c p q out.toList) ?_ ?_ ?_) ?_)
 ·rintro x r aF _ hx ⟨e,to,i,j,mg,rfl,m,hi,hj,hb⟩;unfold Su;dsimp only;refine Wy (Yc (Xu
   (I:=λy r aF=>jZ st aF/\∃to i j m n,r=(none,to,i,j,m,n)/\Mg c p q to.toList i j/\i+1<p.size/\j<q.size/\x+min y 1<i+j)
   (Q:=λr aF=>jZ st aF/\((∃out r',r=(some out,r')/\Gd c p q out.toList)\/∃to i j m n,r=(none,to,i,j,m,n)/\Mg c p q to.toList i j/\i+1<p.size/\j<q.size/\x+1<i+j)) ?_ ?_ ?_) ?_)
  ·rintro y r fO _ hy ⟨e2,to,i,j,ma,na,rfl,m,hi,hj,hb⟩;exact F3 O L (e2.kind.trans hk) Sp Sq sp sq hl m hi hj (λout r h=>⟨e2,.inl ⟨_,_,rfl,h⟩⟩) λt' i' j' m n h1 h2 h3 h4=>⟨⟨e2,.inr ⟨_,_,_,_,_,rfl,h1,h2,h3,by lia⟩⟩,⟨e2,_,_,_,_,_,rfl,h1,h2,h3,by lia⟩⟩
  ·rintro r fO ⟨e2,to,i,j,ma,na,rfl,m,hi,hj,hb⟩;exact⟨e2,.inr ⟨_,_,_,_,_,rfl,m,hi,hj,by lia⟩⟩
  ·exact⟨e,_,_,_,_,_,rfl,m,hi,hj,by lia⟩
  rintro r fO ⟨e2,⟨out,r',rfl,g⟩|⟨to,i,j,ma,na,rfl,m,hi,hj,hb⟩⟩
  ·exact WE ⟨e2,_,_,rfl,g⟩
  dsimp only;refine Wy (wpS_lift (Zk ⟨rfl,?_⟩));refine Wy (Yc (Xu
   (I:=λy r aF=>jZ st aF/\∃to i j mg m n,r=(none,to,i,j,mg,m,n)/\Mg c p q to.toList i j/\i+1<p.size/\j<q.size/\x+1<i+j)
   (Q:=λr aF=>jZ st aF/\((∃out r',r=(some out,r')/\Gd c p q out.toList)\/∃to i j mg m n,r=(none,to,i,j,mg,m,n)/\Mg c p q to.toList i j/\i+1<p.size/\j<q.size/\x+1<i+j)) ?_ ?_ ?_) ?_)
  ·rintro y r fO _ hy ⟨e2,to,i,j,mg,ma,na,rfl,m,hi,hj,hb⟩;show wpS (model prog w) A E s (if mg>1 then Lx p q to i j (mg-1) ma na else Lx p q to i j mg ma na) _ fO
   split <;> exact F4 O L (e2.kind.trans hk) Sp Sq sp sq hl m hi hj (λout r h=>⟨e2.Fz _,.inl ⟨_,_,rfl,h⟩⟩) λt' i' j' m n h1 h2 h3 h4=>⟨⟨e2.Fz _,.inr ⟨_,_,_,_,_,_,rfl,h1,h2,h3,by lia⟩⟩,⟨e2.Fz _,_,_,_,_,_,_,rfl,h1,h2,h3,by lia⟩⟩
  ·rintro r fO ⟨e2,to,i,j,mg,ma,na,rfl,m,hi,hj,hb⟩;exact⟨e2,.inr ⟨_,_,_,_,_,_,rfl,m,hi,hj,hb⟩⟩
  ·exact⟨e2,_,_,_,_,_,_,rfl,m,hi,hj,hb⟩
  rintro r fO ⟨e2,⟨out,r',rfl,g⟩|⟨to,i,j,mg,ma,na,rfl,m,hi,hj,hb⟩⟩
  ·exact WE ⟨e2,_,_,rfl,g⟩
  dsimp only;refine Wy (YS (WE ⟨e2.Fz _,_,_,_,_,rfl,m,hi,hj,by lia⟩))
 ·rintro r aF ⟨e,to,i,j,mg,rfl,m,hi,hj,hb⟩
  exfalso
  rw[show max 0 (p.size+q.size)=p.size+q.size by lia]at hb
  lia
 ·exact⟨jZ.refl st,_,_,_,_,rfl,m0,by simp at h2;lia,by simp at h1;lia,by lia⟩
 ·rintro r aF ⟨e,out,r',rfl,g⟩;exact WE (h _ aF e g)
end
section
variable {c:Wt->Wt->Bool}{p q:Array Wt}{t:List Wt}{i j:Nat}
structure Mh (c:Wt->Wt->Bool)(p q:Array Wt)(t:List Wt)(i j:Nat):Prop where
 hi:i<=p.size
 hj:j<=q.size
 perm:t.Perm (p.toList.drop i++q.toList.drop j)
 eF:t.Pairwise (le c)
 ap:∀x∈t,∀k,k<i->le c (el p k) x
 aq:∀x∈t,∀k,k<j->le c (el q k) x
theorem oB {a:Array Wt}{i:Nat}(h0:0<i)(h:i<=a.size):a.toList.drop (i-1)=el a (i-1)::a.toList.drop i:=by
 rw[v9 (by lia),show i-1+1=i by lia]
theorem Mh.j_ (m:Mh c p q t i j)(h0:0<i)(sp:SR c p 0 p.size)(hle:∀k,k<j->le c (el q k) (el p (i-1))):Mh c p q (el p (i-1)::t) (i-1) j where
 hi:=by have:=m.hi;lia
 hj:=m.hj
 perm:=by
  rw[oB h0 m.hi];exact m.perm.cons _
 eF:=XX.mpr ⟨λx hx=>m.ap x hx _ (by lia),m.eF⟩
 ap:=λx hx k hk=>by
  rcases Ws.mp hx with rfl|h
  ·exact sp k (i-1) (by lia) (by lia) (by have:=m.hi;lia)
  ·exact m.ap x h k (by lia)
 aq:=λx hx k hk=>by
  rcases Ws.mp hx with rfl|h
  ·exact hle k hk
  ·exact m.aq x h k hk
theorem Mh.j9 (m:Mh c p q t i j)(h0:0<j)(sq:SR c q 0 q.size)(hle:∀k,k<i->le c (el p k) (el q (j-1))):Mh c p q (el q (j-1)::t) i (j-1) where
 hi:=m.hi
 hj:=by have:=m.hj;lia
 perm:=by
  rw[oB h0 m.hj];exact(m.perm.cons _).trans Z8.symm
 eF:=XX.mpr ⟨λx hx=>m.aq x hx _ (by lia),m.eF⟩
 ap:=λx hx k hk=>by
  rcases Ws.mp hx with rfl|h
  ·exact hle k hk
  ·exact m.ap x h k hk
 aq:=λx hx k hk=>by
  rcases Ws.mp hx with rfl|h
  ·exact sq k (j-1) (by lia) (by lia) (by have:=m.hj;lia)
  ·exact m.aq x h k (by lia)
theorem nk {a:Array Wt}{i k:Nat}(h0:k<i)(h:i<=a.size):(a.toList.drop (i-(k+1))).take (k+1)=el a (i-(k+1))::(a.toList.drop (i-k)).take k:=by
 rw[v9 (by lia),show i-(k+1)+1=i-k by lia,List.take_succ_cons]
theorem Mh.yw (m:Mh c p q t i j)(sp:SR c p 0 p.size):∀(k:Nat),k<=i->(∀x,i-k<=x->x<i->∀y,y<j->le c (el q y) (el p x))->Mh c p q ((p.toList.drop (i-k)).take k++t) (i-k) j
 |0,_,_=>by simpa using m
 |k+1,h,hle=>by
  have m':=Mh.yw m sp k (by lia) λx h1 h2=>hle x (by lia) h2
  rw[nk (by lia) m.hi,List.cons_append]
  exact m'.j_ (by lia) sp λy hy=>hle _ (by lia) (by lia) y hy
theorem Mh.yv (m:Mh c p q t i j)(sq:SR c q 0 q.size):∀(k:Nat),k<=j->(∀x,j-k<=x->x<j->∀y,y<i->le c (el p y) (el q x))->Mh c p q ((q.toList.drop (j-k)).take k++t) i (j-k)
 |0,_,_=>by simpa using m
 |k+1,h,hle=>by
  have m':=Mh.yv m sq k (by lia) λx h1 h2=>hle x (by lia) h2
  rw[nk (by lia) m.hj,List.cons_append]
  exact m'.j9 (by lia) sq λy hy=>hle _ (by lia) (by lia) y hy
theorem Mh.iO (m:Mh c p q t i j)(sp:SR c p 0 p.size){h:Nat}(hh:h<=i)(hle:∀x,h<=x->x<i->∀y,y<j->le c (el q y) (el p x)):Mh c p q ((p.toList.drop h).take (i-h)++t) h j:=by
 have m':=m.yw sp (i-h) (by lia) λx h1 h2=>hle x (by lia) h2
 rw[show i-(i-h)=h by lia]at m'
 exact m'
theorem Mh.iN (m:Mh c p q t i j)(sq:SR c q 0 q.size){h:Nat}(hh:h<=j)(hle:∀x,h<=x->x<j->∀y,y<i->le c (el p y) (el q x)):Mh c p q ((q.toList.drop h).take (j-h)++t) i h:=by
 have m':=m.yv sq (j-h) (by lia) λx h1 h2=>hle x (by lia) h2
 rw[show j-(j-h)=h by lia]at m'
 exact m'
theorem Mh.full (m:Mh c p q t 0 0):Gd c p q t:=⟨m.perm,m.eF⟩
theorem K6 (a b to:Array Wt)(i j:Nat):(a.extract 0 i++b.extract 0 j++to.reverse).toList=(a.toList.drop 0).take (i-0)++((b.toList.drop 0).take (j-0)++to.toList.reverse):=by
 rw[XS,XS,bX,bX,Array.toList_reverse,Xh]
theorem Mh.done {to:Array Wt}(m:Mh c p q to.toList.reverse i j)(sp:SR c p 0 p.size)(sq:SR c q 0 q.size)(h:i=0\/j=0):Gd c p q (p.extract 0 i++q.extract 0 j++to.reverse).toList:=by
 rw[K6];rcases h with rfl|rfl
 ·have m':=m.iN sq (h:=0) (WJ _) λx _ _ y hy=>by lia
  exact(m'.iO sp (h:=0) (WJ _) λx _ hx=>by lia).full
 ·have m':=m.iN sq (h:=0) (WJ _) λx _ hx=>by lia
  exact(m'.iO sp (h:=0) (WJ _) λx _ hx y hy=>by lia).full
theorem Mh.tail {to:Array Wt}(O:bY c)(m:Mh c p q to.toList.reverse i j)(sp:SR c p 0 p.size)(sq:SR c q 0 q.size)(h:j=1)(hf:c (el q 0) (el p 0)=true):Gd c p q (q.extract 0 j++p.extract 0 i++to.reverse).toList:=by
 rw[K6];subst h;have m':=m.iO sp (h:=0) (WJ _) λx _ hx y hy=>by
  obtain rfl:y=0:=by lia
  exact O.trans (O.of_lt hf) (sp 0 x (by lia) (by lia) (by have:=m.hi;lia))
 exact(m'.iN sq (h:=0) (WJ _) λx _ _ y hy=>by lia).full
theorem iW (to:Array Wt)(x:Wt):(to.push x).toList.reverse=x::to.toList.reverse:=by
 rw[Yi,Yx];rfl
theorem wo (to a:Array Wt)(h i:Nat):(to++(a.extract h i).reverse).toList.reverse=(a.toList.drop h).take (i-h)++to.toList.reverse:=by
 rw[XS,Yx,Array.toList_reverse,List.reverse_reverse,bX]
theorem Mh.start (sp:SR c p 0 p.size)(O:bY c)(hp:0<p.size)(hl:∀y,y<q.size->c (el q y) (el p (p.size-1))=true):Mh c p q [el p (p.size-1)] (p.size-1) q.size:=by
 have m:Mh c p q [] p.size q.size:=⟨Wl _,Wl _,by rw[Yn (by simp),Yn (by simp)];exact .refl _,.nil,(λx hx=>by cases hx),(λx hx=>by cases hx)⟩
 exact m.j_ hp sp λk hk=>O.of_lt (hl k hk)
end
abbrev RJ:=Nat×Nat×Array Wt×Nat×Nat
abbrev RH:=Nat×Nat×Array Wt×Nat×Nat×Nat
abbrev RP:=Nat×Nat×Array Wt×Nat
noncomputable def QN (p q t:Array Wt)(i j mg m n:Nat):StateT WV Sem (ForInStep (Option (Array Wt)×RH)):=do
 let z <- elem' p (i-1)
 if (i-1==0)=true then pure (.done (some (p.extract 0 (i-1)++q.extract 0 j++(t.push z).reverse),i-1,j,t.push z,mg,m,n))
 else if (decide (m<7)&&decide (n<7))=true then pure (.done (none,i-1,j,t.push z,mg,m,n)) else pure (.yield (none,i-1,j,t.push z,mg,m,n))
noncomputable def QO (p q t:Array Wt)(i j mg m n:Nat):StateT WV Sem (ForInStep (Option (Array Wt)×RH)):=do
 let y <- elem' q (j-1)
 if (j-1==1)=true then pure (.done (some (q.extract 0 (j-1)++p.extract 0 i++(t.push y).reverse),i,j-1,t.push y,mg,m,n))
 else do
  let x <- elem' p (i-1)
  let r <- b5 true x q 0 (j-1) (j-1-1)
  match r with
  |some h=>if j-1-h>0 then (if (h==1)=true then pure (.done (some (q.extract 0 h++p.extract 0 i++(t.push y++(q.extract h (j-1)).reverse).reverse),i,h,t.push y++(q.extract h (j-1)).reverse,mg,m,j-1-h))
    else if (h==0)=true then pure (.done (some (p.extract 0 i++q.extract 0 h++(t.push y++(q.extract h (j-1)).reverse).reverse),i,h,t.push y++(q.extract h (j-1)).reverse,mg,m,j-1-h))
    else QN p q (t.push y++(q.extract h (j-1)).reverse) i h mg m (j-1-h)) else QN p q (t.push y) i (j-1) mg m (j-1-h)
  |_=>pure (.done (some (p.extract 0 i++q.extract 0 (j-1)++(t.push y).reverse),i,j-1,t.push y,mg,m,n))
noncomputable def LW (p q t:Array Wt)(i j mg m n:Nat):StateT WV Sem (ForInStep (Option (Array Wt)×RH)):=do
 modify λst=>b7 st mg
 let y <- elem' q (j-1)
 let r <- b5 false y p 0 i (i-1)
 match r with
 |some h=>if i-h>0 then (if (h==0)=true then pure (.done (some (p.extract 0 h++q.extract 0 j++(t++(p.extract h i).reverse).reverse),h,j,t++(p.extract h i).reverse,mg,i-h,n))
   else QO p q (t++(p.extract h i).reverse) h j mg (i-h) n) else QO p q t i j mg (i-h) n
 |_=>pure (.done (some (p.extract 0 i++q.extract 0 j++t.reverse),i,j,t,mg,m,n))
def U3 (p q:Array Wt)(s:Option (Array Wt)×RH):StateT WV Sem (ForInStep (Option (Array Wt)×RH)):=if s.2.2.2.2.1>1 then LW p q s.2.2.2.1 s.2.1 s.2.2.1 (s.2.2.2.2.1-1) s.2.2.2.2.2.1 s.2.2.2.2.2.2 else LW p q s.2.2.2.1 s.2.1 s.2.2.1 s.2.2.2.2.1 s.2.2.2.2.2.1 s.2.2.2.2.2.2
noncomputable def QM (p q t:Array Wt)(mg i j m:Nat):StateT WV Sem (ForInStep (Option (Array Wt)×RJ)):=do
 let x <- elem' p (i-1)
 if (i-1==0)=true then pure (.done (some (p.extract 0 (i-1)++q.extract 0 j++(t.push x).reverse),i-1,j,t.push x,m+1,0))
 else if m+1 >= mg then pure (.done (none,i-1,j,t.push x,m+1,0)) else pure (.yield (none,i-1,j,t.push x,m+1,0))
noncomputable def QL (p q t:Array Wt)(mg i j n:Nat):StateT WV Sem (ForInStep (Option (Array Wt)×RJ)):=do
 let y <- elem' q (j-1)
 if (j-1==1)=true then pure (.done (some (q.extract 0 (j-1)++p.extract 0 i++(t.push y).reverse),i,j-1,t.push y,0,n+1))
 else if n+1 >= mg then pure (.done (none,i,j-1,t.push y,0,n+1)) else pure (.yield (none,i,j-1,t.push y,0,n+1))
noncomputable def SX (p q t:Array Wt)(mg i j m n:Nat):StateT WV Sem (ForInStep (Option (Array Wt)×RJ)):=do
 let y <- elem' q (j-1)
 let x <- elem' p (i-1)
 let r <- lt' y x
 match r with
 |some F9=>if F9=true then QM p q t mg i j m else QL p q t mg i j n
 |_=>pure (.done (some (p.extract 0 i++q.extract 0 j++t.reverse),i,j,t,m,n))
noncomputable def SW (p q:Array Wt)(s:Option (Array Wt)×RP):StateT WV Sem (ForInStep (Option (Array Wt)×RP)):=do
 let s1 <- forIn [:p.size+q.size] ((none,s.2.1,s.2.2.1,s.2.2.2.1,0,0):Option (Array Wt)×RJ) λ_ r=>SX p q r.2.2.2.1 s.2.2.2.2 r.2.1 r.2.2.1 r.2.2.2.2.1 r.2.2.2.2.2
 match s1.1 with
 |some r=>pure (.done (some r,s1.2.1,s1.2.2.1,s1.2.2.2.1,s.2.2.2.2))
 |none=>do
  liftM (rule "list.sort.gallop")
  let s2 <- forIn [:p.size+q.size] ((none,s1.2.1,s1.2.2.1,s1.2.2.2.1,s.2.2.2.2+1,s1.2.2.2.2.1,s1.2.2.2.2.2):Option (Array Wt)×RH) λ_ r=>U3 p q r
  match s2.1 with
  |some r=>pure (.done (some r,s2.2.1,s2.2.2.1,s2.2.2.2.1,s2.2.2.2.2.1))
  |none=>do
   modify λst=>b7 st (s2.2.2.2.2.1+1)
   pure (.yield (none,s2.2.1,s2.2.2.1,s2.2.2.2.1,s2.2.2.2.2.1+1))
theorem rl (p q:Array Wt):je p q=(do
  liftM (rule "list.sort.merge-hi")
  let y <- elem' p (p.size-1)
  if (p.size-1==0)=true then pure (p.extract 0 (p.size-1)++q.extract 0++#[y].reverse)
  else if (q.size==1)=true then pure (q.extract 0++p.extract 0 (p.size-1)++#[y].reverse)
  else do
   let st <- get
   let s <- forIn [:p.size+q.size] ((none,p.size-1,q.size,#[y],gallopOf st):Option (Array Wt)×RP) λ_ s=>SW p q s
   match s.1 with
   |some r=>pure r
   |none=>liftM (unsupported "internal:list.sort.merge-bound" : Sem (Array Wt))):=by
 rw[rj];dsimp only;refine congrArg (bind _) (funext λ_=>?_);refine congrArg (bind _) (funext λy=>?_);refine congrArg (ite _ _) (congrArg (ite _ _) ?_);refine congrArg (bind _) (funext λy=>?_);refine congr (congrArg bind (congrArg _ (funext λ_=>funext λs=>?_))) (funext λs=>?_)
 ·refine congr (congrArg bind (congrArg _ (funext λ_=>funext λs=>?_))) (funext λs=>?_)
  ·rfl
  ·cases s.1
   ·refine congrArg (bind _) (funext λ_=>?_);refine congr (congrArg bind (congrArg _ (funext λ_=>funext λs=>?_))) (funext λs=>?_)
    ·rfl
    ·cases s.1 <;> rfl
   ·rfl
 ·cases s.1 <;> rfl
section
variable {prog:Wq}{w:WC}{A:Xg}{E:Wg->Wi->Prop}{s:Wi}{κ:Y3}{c:Wt->Wt->Bool}{S:Wt->Prop}{p q:Array Wt}
theorem yi {st:WV}{Q:ForInStep (Option (Array Wt)×RH)->WV->Prop}{t:Array Wt}{i j mg m n:Nat}(sp:SR c p 0 p.size)(sq:SR c q 0 q.size)(m3:Mh c p q t.toList.reverse i j)(hi:0<i)(g3:∀k,k<j->le c (el q k) (el p (i-1)))
  (hd:∀out r,Gd c p q out.toList->Q (.done (some out,r)) st) (hn:∀t' m n,Mh c p q t'.toList.reverse (i-1) j->0<i-1->Q (.done (none,i-1,j,t',mg,m,n)) st/\Q (.yield (none,i-1,j,t',mg,m,n)) st):wpS (model prog w) A E s (QN p q t i j mg m n) Q st:=by
 have gn:=m3.hi;refine Wy (aV (by lia) ?_)
 have m4:Mh c p q (t.push (el p (i-1))).toList.reverse (i-1) j:=by
  rw[iW];exact m3.j_ hi sp g3
 by_cases e5:(i-1==0)=true
 ·rw[if_pos e5];exact WE (hd _ _ (m4.done sp sq (.inl (by simpa using e5))))
 rw[if_neg e5];have h5:i-1≠0:=by simpa using e5
 obtain⟨h6,h7⟩:=hn (t.push (el p (i-1))) m n m4 (by lia)
 split
 ·exact WE h6
 ·exact WE h7
theorem yj {st:WV}{Q:ForInStep (Option (Array Wt)×RH)->WV->Prop}{t:Array Wt}{i j mg m n:Nat}(O:bY c)(L:fF prog w A E s κ c S)(hk:kindOf st=κ)(Sp:∀i,i<p.size->S (el p i))(Sq:∀i,i<q.size->S (el q i))(sp:SR c p 0 p.size)(sq:SR c q 0 q.size)(hf:c (el q 0) (el p 0)=true)(m1:Mh c p q t.toList.reverse i j)(hi:0<i)(hj:1<j)(g1:∀x,x<i->le c (el p x) (el q (j-1)))
  (hd:∀out r,Gd c p q out.toList->Q (.done (some out,r)) st) (hn:∀t' j' m n,Mh c p q t'.toList.reverse (i-1) j'->0<i-1->1<j'->j'<j->Q (.done (none,i-1,j',t',mg,m,n)) st/\Q (.yield (none,i-1,j',t',mg,m,n)) st):wpS (model prog w) A E s (QO p q t i j mg m n) Q st:=by
 have mi:=m1.hi;have mj:=m1.hj;refine Wy (aV (by lia) ?_)
 have m2:Mh c p q (t.push (el q (j-1))).toList.reverse i (j-1):=by
  rw[iW];exact m1.j9 (by lia) sq g1
 by_cases e3:(j-1==1)=true
 ·rw[if_pos e3];exact WE (hd _ _ (m2.tail O sp sq (by simpa using e3) hf))
 rw[if_neg e3];have h3:j-1≠1:=by simpa using e3
 refine Wy (aV (by lia) (Wy (du O L hk (Sp _ (by lia)) (λx hx=>Sq _ (by lia)) (by lia) (λa b h1 h2 h3=>sq a b (by lia) h2 (by lia)) (by lia) λh k1 k2 k3=>?_)))
 have g2:∀x,x<h->c (el q x) (el p (i-1))=true:=λx hx=>by
  have:=k2 x hx;unfold dU at this;rw[if_pos rfl,YZ]at this;exact this
 have g4:∀x,h<=x->x<j-1->le c (el p (i-1)) (el q x):=λx h1 h2=>by
  have:=k3 x h1 h2;unfold dU at this;rw[if_pos rfl,YZ]at this;exact this
 have hh:0<h:=by
  rcases Nat.eq_zero_or_pos h with z|z
  ·subst z;have h2:=O.trans (sp 0 (i-1) (by lia) (by lia) (by lia)) (g4 0 (Wl _) (by lia))
   exact absurd (hf.symm.trans h2) (by simp)
  ·exact z
 dsimp only
 by_cases Ay:j-1-h>0
 ·rw[if_pos Ay];have m3:Mh c p q (t.push (el q (j-1))++(q.extract h (j-1)).reverse).toList.reverse i h:=by
   rw[wo];exact m2.iN sq k1 λx h1 h2 y hy=>O.trans (sp y (i-1) (by lia) (by lia) (by lia)) (g4 x h1 h2)
  by_cases e4:(h==1)=true
  ·rw[if_pos e4];exact WE (hd _ _ (m3.tail O sp sq (by simpa using e4) hf))
  rw[if_neg e4];have h4:h≠1:=by simpa using e4
  rw[if_neg (by simp;lia)]
  exact yi sp sq m3 hi (λk hk=>O.of_lt (g2 k hk)) hd λt' m n h1 h2=>hn t' _ m n h1 h2 (by lia) (by lia)
 ·rw[if_neg Ay];exact yi sp sq m2 hi (λk hk=>O.of_lt (g2 k (by lia))) hd λt' m n h1 h2=>hn t' _ m n h1 h2 (by lia) (by lia)
theorem F6 {st:WV}{Q:ForInStep (Option (Array Wt)×RH)->WV->Prop}{t:Array Wt}{i j mg m n:Nat}(O:bY c)(L:fF prog w A E s κ c S)(hk:kindOf st=κ)(Sp:∀i,i<p.size->S (el p i))(Sq:∀i,i<q.size->S (el q i))(sp:SR c p 0 p.size)(sq:SR c q 0 q.size)(hf:c (el q 0) (el p 0)=true)(m0:Mh c p q t.toList.reverse i j)(hi:0<i)(hj:1<j)
  (hd:∀out r,Gd c p q out.toList->Q (.done (some out,r)) (b7 st mg)) (hn:∀t' i' j' m n,Mh c p q t'.toList.reverse i' j'->0<i'->1<j'->i'+j'<i+j->Q (.done (none,i',j',t',mg,m,n)) (b7 st mg)/\Q (.yield (none,i',j',t',mg,m,n)) (b7 st mg)):wpS (model prog w) A E s (LW p q t i j mg m n) Q st:=by
 have mi:=m0.hi;have mj:=m0.hj;refine Wy (YS (Wy (aV (by lia) (Wy (du O L hk (Sq _ (by lia)) (λx hx=>Sp _ (by lia)) (by lia) (λa b h1 h2 h3=>sp a b (by lia) h2 (by lia)) (by lia) λh k1 k2 k3=>?_)))))
 have g0:∀x,x<h->le c (el p x) (el q (j-1)):=λx hx=>by
  have:=k2 x hx;unfold dU at this;rw[if_neg (by simp),Yv,YZ]at this
  exact this
 have g5:∀x,h<=x->x<i->le c (el q (j-1)) (el p x):=λx h1 h2=>by
  have:=k3 x h1 h2;unfold dU at this;rw[if_neg (by simp),YG,YZ]at this
  exact O.of_lt this
 dsimp only
 by_cases Ay:i-h>0
 ·rw[if_pos Ay];have m1:Mh c p q (t++(p.extract h i).reverse).toList.reverse h j:=by
   rw[wo];exact m0.iO sp k1 λx h1 h2 y hy=>O.trans (sq y (j-1) (by lia) (by lia) (by lia)) (g5 x h1 h2)
  by_cases e1:(h==0)=true
  ·rw[if_pos e1];exact WE (hd _ _ (m1.done sp sq (.inl (by simpa using e1))))
  rw[if_neg e1];have Eb:h≠0:=by simpa using e1
  exact yj O L hk Sp Sq sp sq hf m1 (by lia) hj g0 hd λt' j' m n h1 h2 h3 h4=>hn t' _ j' m n h1 h2 h3 (by lia)
 ·rw[if_neg Ay];exact yj O L hk Sp Sq sp sq hf m0 hi hj (λx hx=>g0 x (by lia)) hd λt' j' m n h1 h2 h3 h4=>hn t' _ j' m n h1 h2 h3 (by lia)
theorem F5 {st:WV}{Q:ForInStep (Option (Array Wt)×RJ)->WV->Prop}{t:Array Wt}{i j mg ma na:Nat}(O:bY c)(L:fF prog w A E s κ c S)(hk:kindOf st=κ)(Sp:∀i,i<p.size->S (el p i))(Sq:∀i,i<q.size->S (el q i))(sp:SR c p 0 p.size)(sq:SR c q 0 q.size)(hf:c (el q 0) (el p 0)=true)(m:Mh c p q t.toList.reverse i j)(hi:0<i)(hj:1<j)
  (hd:∀out r,Gd c p q out.toList->Q (.done (some out,r)) st) (hn:∀t' i' j' m n,Mh c p q t'.toList.reverse i' j'->0<i'->1<j'->i'+j'<i+j->Q (.done (none,i',j',t',m,n)) st/\Q (.yield (none,i',j',t',m,n)) st):wpS (model prog w) A E s (SX p q t mg i j ma na) Q st:=by
 have gn:=m.hi;have xx:=m.hj;refine Wy (aV (by lia) (Wy (aV (by lia) (Wy (L _ _ st _ (Sq _ (by lia)) (Sp _ (by lia)) hk ?_)))))
 dsimp only;cases hc:c (el q (j-1)) (el p (i-1))with
 |true =>
  rw[if_pos rfl];refine Wy (aV (by lia) ?_)
  have m1:Mh c p q (t.push (el p (i-1))).toList.reverse (i-1) j:=by
   rw[iW];exact m.j_ hi sp λk hk=>O.trans (sq k (j-1) (by lia) (by lia) (by lia)) (O.of_lt hc)
  by_cases e3:(i-1==0)=true
  ·rw[if_pos e3];exact WE (hd _ _ (m1.done sp sq (.inl (by simpa using e3))))
  rw[if_neg e3];have h3:i-1≠0:=by simpa using e3
  obtain⟨h6,h7⟩:=hn _ _ _ (ma+1) 0 m1 (by lia) hj (by lia)
  split
  ·exact WE h6
  ·exact WE h7
 |false =>
  rw[if_neg (by simp)]
  refine Wy (aV (by lia) ?_)
  have m1:Mh c p q (t.push (el q (j-1))).toList.reverse i (j-1):=by
   rw[iW];exact m.j9 (by lia) sq λk hk=>O.trans (sp k (i-1) (by lia) (by lia) (by lia)) (show le c (el p (i-1)) (el q (j-1)) from hc)
  by_cases e3:(j-1==1)=true
  ·rw[if_pos e3];exact WE (hd _ _ (m1.tail O sp sq (by simpa using e3) hf))
  rw[if_neg e3];have h3:j-1≠1:=by simpa using e3
  obtain⟨h6,h7⟩:=hn _ _ _ 0 (na+1) m1 hi (by lia) (by lia)
  split
  ·exact WE h6
  ·exact WE h7
theorem tJ (O:bY c)(L:fF prog w A E s κ c S){Q:Array Wt->WV->Prop}{st:WV}(hk:kindOf st=κ)(Sp:∀i,i<p.size->S (el p i))(Sq:∀i,i<q.size->S (el q i))(sp:SR c p 0 p.size)(sq:SR c q 0 q.size)
  (hp:0<p.size) (hq:0<q.size) (hf:c (el q 0) (el p 0)=true) (hl:∀y,y<q.size->c (el q y) (el p (p.size-1))=true) (h:∀to aF,jZ st aF->Gd c p q to.toList->Q to aF) :
  wpS (model prog w) A E s (je p q) Q st:=by
 rw[rl];refine Wy (wpS_lift (Zk ⟨rfl,?_⟩));refine Wy (aV (by lia) ?_)
 have m0:Mh c p q (#[el p (p.size-1)]:Array Wt).toList.reverse (p.size-1) q.size:=Mh.start sp O hp hl
 by_cases h1:(p.size-1==0)=true
 ·rw[if_pos h1];exact WE (h _ st (jZ.refl st) (m0.done sp sq (.inl (by simpa using h1))))
 rw[if_neg h1];have Eb:p.size-1≠0:=by simpa using h1
 by_cases h2:(q.size==1)=true
 ·rw[if_pos h2];exact WE (h _ st (jZ.refl st) (m0.tail O sp sq (by simpa using h2) hf))
 rw[if_neg h2];have AE:q.size≠1:=by simpa using h2
 refine Wy (ZM ?_);refine Wy (Yc (Xu
  (I:=λx r aF=>jZ st aF/\∃i j to mg,r=(none,i,j,to,mg)/\Mh c p q to.toList.reverse i j/\0<i/\1<j/\i+j+x<p.size+q.size)
  (Q:=λr aF=>jZ st aF/\∃out r',r=(some out,r')/\Gd c p q out.toList) ?_ ?_ ?_) ?_)
 ·rintro x r aF _ hx ⟨e,i,j,to,mg,rfl,m,hi,hj,hb⟩;unfold SW;dsimp only;refine Wy (Yc (Xu
   (I:=λy r aF=>jZ st aF/\∃i j to m n,r=(none,i,j,to,m,n)/\Mh c p q to.toList.reverse i j/\0<i/\1<j/\i+j+x+min y 1<p.size+q.size)
   (Q:=λr aF=>jZ st aF/\((∃out r',r=(some out,r')/\Gd c p q out.toList)\/∃i j to m n,r=(none,i,j,to,m,n)/\Mh c p q to.toList.reverse i j/\0<i/\1<j/\i+j+x+1<p.size+q.size)) ?_ ?_ ?_) ?_)
  ·rintro y r fO _ hy ⟨e2,i,j,to,ma,na,rfl,m,hi,hj,hb⟩;exact F5 O L (e2.kind.trans hk) Sp Sq sp sq hf m hi hj (λout r h=>⟨e2,.inl ⟨_,_,rfl,h⟩⟩) λt' i' j' m n h1 h2 h3 h4=>⟨⟨e2,.inr ⟨_,_,_,_,_,rfl,h1,h2,h3,by lia⟩⟩,⟨e2,_,_,_,_,_,rfl,h1,h2,h3,by lia⟩⟩
  ·rintro r fO ⟨e2,i,j,to,ma,na,rfl,m,hi,hj,hb⟩;exact⟨e2,.inr ⟨_,_,_,_,_,rfl,m,hi,hj,by lia⟩⟩
  ·exact⟨e,_,_,_,_,_,rfl,m,hi,hj,by lia⟩
  rintro r fO ⟨e2,⟨out,r',rfl,g⟩|⟨i,j,to,ma,na,rfl,m,hi,hj,hb⟩⟩
  ·exact WE ⟨e2,_,_,rfl,g⟩
  dsimp only;refine Wy (wpS_lift (Zk ⟨rfl,?_⟩));refine Wy (Yc (Xu
   (I:=λy r aF=>jZ st aF/\∃i j to mg m n,r=(none,i,j,to,mg,m,n)/\Mh c p q to.toList.reverse i j/\0<i/\1<j/\i+j+x+1<p.size+q.size)
   (Q:=λr aF=>jZ st aF/\((∃out r',r=(some out,r')/\Gd c p q out.toList)\/∃i j to mg m n,r=(none,i,j,to,mg,m,n)/\Mh c p q to.toList.reverse i j/\0<i/\1<j/\i+j+x+1<p.size+q.size)) ?_ ?_ ?_) ?_)
  ·rintro y r fO _ hy ⟨e2,i,j,to,mg,ma,na,rfl,m,hi,hj,hb⟩;show wpS (model prog w) A E s (if mg>1 then LW p q to i j (mg-1) ma na else LW p q to i j mg ma na) _ fO
   split <;> exact F6 O L (e2.kind.trans hk) Sp Sq sp sq hf m hi hj (λout r h=>⟨e2.Fz _,.inl ⟨_,_,rfl,h⟩⟩) λt' i' j' m n h1 h2 h3 h4=>⟨⟨e2.Fz _,.inr ⟨_,_,_,_,_,_,rfl,h1,h2,h3,by lia⟩⟩,⟨e2.Fz _,_,_,_,_,_,_,rfl,h1,h2,h3,by lia⟩⟩
  ·rintro r fO ⟨e2,i,j,to,mg,ma,na,rfl,m,hi,hj,hb⟩;exact⟨e2,.inr ⟨_,_,_,_,_,_,rfl,m,hi,hj,hb⟩⟩
  ·exact⟨e2,_,_,_,_,_,_,rfl,m,hi,hj,hb⟩
  rintro r fO ⟨e2,⟨out,r',rfl,g⟩|⟨i,j,to,mg,ma,na,rfl,m,hi,hj,hb⟩⟩
  ·exact WE ⟨e2,_,_,rfl,g⟩
  dsimp only;refine Wy (YS (WE ⟨e2.Fz _,_,_,_,_,rfl,m,hi,hj,by lia⟩))
 ·rintro r aF ⟨e,i,j,to,mg,rfl,m,hi,hj,hb⟩
  exfalso
  rw[show max 0 (p.size+q.size)=p.size+q.size by lia]at hb
  lia
 ·exact⟨jZ.refl st,_,_,_,_,rfl,m0,by lia,by lia,by lia⟩
 ·rintro r aF ⟨e,out,r',rfl,g⟩;exact WE (h _ aF e g)
end
section
variable {c:Wt->Wt->Bool}{a b:Array Wt}
structure Rg (a b:Array Wt)(lo hi:Nat):Prop where
 perm:b.Perm a
 out:∀k,(k<lo\/hi<=k)->el b k=el a k
theorem Rg.refl {lo hi:Nat}:Rg a a lo hi:=⟨Array.Perm.refl _,λ_ _=>rfl⟩
theorem Rg.trans {d:Array Wt}{lo hi:Nat}(x:Rg a b lo hi)(y:Rg b d lo hi):Rg a d lo hi:=⟨y.perm.trans x.perm,λk h=>(y.out k h).trans (x.out k h)⟩
theorem Rg.mono {lo hi Fj gn:Nat}(x:Rg a b lo hi)(h1:Fj<=lo)(h2:hi<=gn):Rg a b Fj gn:=⟨x.perm,λk h=>x.out k (by lia)⟩
theorem Rg.size {lo hi:Nat}(x:Rg a b lo hi):b.size=a.size:=x.perm.size_eq
theorem SR.congr {lo hi:Nat}(h:SR c a lo hi)(e:∀k,lo<=k->k<hi->el b k=el a k):SR c b lo hi:=λi j h1 h2 h3=>by
 rw[e i h1 (by lia),e j (by lia) h3]
 exact h i j h1 h2 h3
def NI (c:Wt->Wt->Bool)(a:Array Wt)(lo hi:Nat):Prop:=∀i j,lo<=i->i<=j->j<hi->le c (el a j) (el a i)
theorem bU {i j:Nat}(hj:j<=a.size)(k:Nat):el (mirror a i j ((j-i) / 2)) k=if i<=k/\k<j then el a (i+j-1-k) else el a k:=by
 have e:=getElem?_mirror_all (i:=i) hj k
 by_cases h:i<=k/\k<j
 ·rw[if_pos h]at e ⊢
  exact dR e
 ·rw[if_neg h]at e ⊢
  exact dR e
theorem eV {i j:Nat}(hj:j<=a.size):Rg a (mirror a i j ((j-i) / 2)) i j:=⟨mirror_perm _ _ _ _,λk h=>by rw[bU hj,if_neg (by lia)]⟩
theorem nM {i j:Nat}(hj:j<=a.size)(h:NI c a i j):SR c (mirror a i j ((j-i) / 2)) i j:=λx y h1 h2 h3=>by
 rw[bU hj,bU hj,if_pos (by lia),if_pos (by lia)]
 exact h _ _ (by lia) (by lia) (by lia)
theorem jI {lo i j:Nat}(QD:lo<=i)(hj:j<=a.size)(h:NI c a lo j)(he:∀x y,i<=x->x<j->i<=y->y<j->le c (el a x) (el a y)):NI c (mirror a i j ((j-i) / 2)) lo j:=λx y h1 h2 h3=>by
 rw[bU hj,bU hj]
 by_cases hx:i<=x/\x<j
 ·rw[if_pos hx,if_pos (by lia)]
  exact he _ _ (by lia) (by lia) (by lia) (by lia)
 ·rw[if_neg hx]
  by_cases hy:i<=y/\y<j
  ·rw[if_pos hy];exact h _ _ (by lia) (by lia) (by lia)
  ·rw[if_neg hy];exact h _ _ h1 h2 h3
theorem SR.snoc {lo n:Nat}(O:bY c)(h:SR c a lo (lo+n))(h1:0<n)(hn:le c (el a (lo+n-1)) (el a (lo+n))):SR c a lo (lo+(n+1)):=λi j h2 h3 h4=>by
 by_cases hj:j<lo+n
 ·exact h i j h2 h3 hj
 ·obtain rfl:j=lo+n:=by lia
  by_cases hi:i<lo+n
  ·exact O.trans (h i (lo+n-1) h2 (by lia) (by lia)) hn
  ·obtain rfl:i=lo+n:=by lia
   exact O.refl _
theorem NI.snoc {lo n:Nat}(O:bY c)(h:NI c a lo (lo+n))(h1:0<n)(hn:le c (el a (lo+n)) (el a (lo+n-1))):NI c a lo (lo+(n+1)):=λi j h2 h3 h4=>by
 by_cases hj:j<lo+n
 ·exact h i j h2 h3 hj
 ·obtain rfl:j=lo+n:=by lia
  by_cases hi:i<lo+n
  ·exact O.trans hn (h i (lo+n-1) h2 (by lia) (by lia))
  ·obtain rfl:i=lo+n:=by lia
   exact O.refl _
theorem SR.one {lo:Nat}(O:bY c):SR c a lo (lo+1):=λi j h1 h2 h3=>by
 obtain rfl:i=j:=by lia
 exact O.refl _
end
structure jY (κ:Y3)(a₀:Array Wt)(st:WV):Prop where
 kind:kindOf st=κ
 fail:Zd st=none
 perm:(W4 st).Perm a₀
section
variable {prog:Wq}{w:WC}{A:Xg}{E:Wg->Wi->Prop}{s:Wi}{κ:Y3}{c:Wt->Wt->Bool}{a₀:Array Wt}
theorem jY.size {st:WV}(h:jY κ a₀ st):(W4 st).size=a₀.size:=h.perm.size_eq
theorem jY.mem {st:WV}(h:jY κ a₀ st){i:Nat}(hi:i<a₀.size):el (W4 st) i∈a₀.toList:=by
 have h1:i<(W4 st).size:=by rw[h.size];exact hi
 refine(YX.mp h.perm).mem_iff.mp ?_;have:=jn h1;rw[<- WM]at this;exact W_ this
theorem jY.set {st:WV}{b:Array Wt}{lo hi:Nat}(h:jY κ a₀ st)(r:Rg (W4 st) b lo hi):jY κ a₀ (XF st b):=⟨h.kind,h.fail,r.perm.trans h.perm⟩
theorem oP (L:fF prog w A E s κ c (·∈a₀.toList)){st:WV}{i j:Nat}{Q:Option Bool->WV->Prop}(h:jY κ a₀ st)(hi:i<a₀.size)(hj:j<a₀.size)(q:Q (some (c (el (W4 st) i) (el (W4 st) j))) st):
  wpS (model prog w) A E s (ltAt' i j) Q st:=by
 rw[ltAt'_eq];refine Wy (ZM ?_);exact Wy (aV (by rw[h.size];exact hi) (Wy (aV (by rw[h.size];exact hj) (L _ _ st Q (h.mem hi) (h.mem hj) h.kind q))))
theorem iI (L:fF prog w A E s κ c (·∈a₀.toList)){st:WV}{b:Array Wt}{i j lo hi:Nat}{Q:Option Bool->WV->Prop}(h:jY κ a₀ st)(R:Rg (W4 st) b lo hi)(hi:i<a₀.size)(hj:j<a₀.size)(q:Q (some (c (el b i) (el b j))) (XF st b)):
  wpS (model prog w) A E s (ltAt' i j) Q (XF st b):=oP L (h.set R) hi hj q
theorem iH {st:WV}{i j:Nat}{Q:Unit->WV->Prop}(q:Q () (XF st (mirror (W4 st) i j ((j-i) / 2)))):wpS (model prog w) A E s (reverseSlice' i j) Q st:=by
 rw[reverseSlice'_eq];exact YS q
theorem ym (O:bY c)(L:fF prog w A E s κ c (·∈a₀.toList)){st:WV}{lo eU:Nat}{Q:Option Nat->WV->Prop}(h0:jY κ a₀ st)(h1:1<=eU)(hn:lo+eU<=a₀.size)
  (h:∀n b,1<=n->n<=eU->Rg (W4 st) b lo (lo+eU)->SR c b lo (lo+n)->Q (some n) (XF st b)):wpS (model prog w) A E s (countRun' lo eU) Q st:=by
 rw[countRun'_eq];dsimp only;refine Wy (Yc (Xu (I:=λx r aF=>aF=st/\∃n,r=(none,n)/\n=x/\SR c (W4 st) lo (lo+n))
  (Q:=λr aF=>aF=st/\∃n,r=(none,n)/\1<=n/\n<=eU/\SR c (W4 st) lo (lo+n)/\(n=eU\/(n<eU/\c (el (W4 st) (lo+n)) (el (W4 st) (lo+n-1))=true))) ?_ ?_ ?_) ?_)
 ·rintro x r aF xr hx ⟨rfl,n,rfl,rfl,hs⟩;dsimp only;refine Wy (oP L h0 (by lia) (by lia) ?_)
  dsimp only;cases hc:c (el (W4 aF) (lo+n)) (el (W4 aF) (lo+n-1))with
  |true =>
   rw[if_pos rfl];exact WE ⟨rfl,n,rfl,xr,by lia,hs,.inr ⟨by lia,hc⟩⟩
  |false =>
   rw[if_neg (by simp)]
   exact WE ⟨rfl,n+1,rfl,rfl,hs.snoc O xr hc⟩
 ·rintro r aF ⟨rfl,n,rfl,hx,hs⟩;exact⟨rfl,n,rfl,by lia,by lia,hs,.inl (by lia)⟩
 ·exact⟨rfl,1,rfl,rfl,SR.one O⟩
 rintro r aF ⟨e0,n,rfl,SM,Nc,hs,hc⟩;rw[e0];dsimp only
 by_cases QB:(n==eU)=true
 ·rw[if_pos QB];exact WE (h n (W4 st) SM Nc Rg.refl hs)
 rw[if_neg QB];have UR:n≠eU:=by simpa using QB
 have hc:c (el (W4 st) (lo+n)) (el (W4 st) (lo+n-1))=true:=by
  rcases hc with q|q
  ·lia
  ·exact q.2
 refine(λ(key:∀b,Rg (W4 st) b lo (lo+eU)->NI c b lo (lo+(n+1))->wpS (model prog w) A E s ?cont Q (XF st b))=>?main) ?key
 case main =>
  by_cases h2:n>1
  ·rw[if_pos h2];refine Wy (oP L h0 (by lia) (by lia) ?_)
   dsimp only;cases hr:c (el (W4 st) lo) (el (W4 st) (lo+n-1))with
   |true =>
    rw[if_pos rfl];exact WE (h n (W4 st) SM Nc Rg.refl hs)
   |false =>
    rw[if_neg (by simp)]
    refine Wy (iH ?_);have hz:lo+n<=(W4 st).size:=by have:=h0.size;lia
    have R0:Rg (W4 st) (mirror (W4 st) lo (lo+n) ((lo+n-lo) / 2)) lo (lo+eU):=(eV hz).mono (Wl _) (by lia)
    have all:∀u v,lo<=u->u<lo+n->lo<=v->v<lo+n->le c (el (W4 st) u) (el (W4 st) v):=λu v h1 h2 h3 h4 =>
     O.trans (hs u (lo+n-1) h1 (by lia) (by lia)) (O.trans hr (hs lo v (Wl _) h3 h4))
    have N0:NI c (mirror (W4 st) lo (lo+n) ((lo+n-lo) / 2)) lo (lo+(n+1)):=by
     refine NI.snoc O (jI (Wl _) hz (λu v h1 h2 h3=>all v u (by lia) (by lia) h1 (by lia)) λu v h1 h2 h3 h4=>all u v h1 h2 h3 h4) (by lia) ?_
     rw[bU hz,bU hz,if_neg (by lia),if_pos (by lia)]
     exact O.trans (O.of_lt hc) (all _ _ (by lia) (by lia) (by lia) (by lia))
    exact key _ R0 N0
  ·rw[if_neg h2];have N0:NI c (W4 st) lo (lo+(n+1)):=NI.snoc O (λu v h1 h2 h3=>by
    obtain rfl:u=v:=by lia
    exact O.refl _) (by lia) (O.of_lt hc)
   show wpS _ _ _ _ _ Q (XF st (W4 st));exact key _ Rg.refl N0
 case key =>
  intro b0 R0 N0;refine Wy (wpS_lift (Zk ⟨rfl,?_⟩));refine Wy (Yc (Xu (I:=λx r aF=>∃b n ke,aF=XF st b/\r=(none,n,ke)/\n=x/\Rg (W4 st) b lo (lo+eU)/\NI c b lo (lo+n)/\ke<n/\(∀u v,lo+n-1-ke<=u->u<lo+n->lo+n-1-ke<=v->v<lo+n->le c (el b u) (el b v)))
   (Q:=λr aF=>∃b n ke,aF=XF st b/\r=(none,n,ke)/\1<=n/\n<=eU/\Rg (W4 st) b lo (lo+eU)/\NI c b lo (lo+n)/\ke<n/\(∀u v,lo+n-1-ke<=u->u<lo+n->lo+n-1-ke<=v->v<lo+n->le c (el b u) (el b v))) ?_ ?_ ?_) ?_)
  ·rintro x r aF xr hx ⟨b,n',ke,rfl,rfl,rfl,R,N,hq,he⟩;dsimp only;refine Wy (iI L h0 R (by lia) (by lia) ?_)
   dsimp only;cases rN:c (el b (lo+n')) (el b (lo+n' - 1))with
   |true =>
    rw[if_pos rfl]
    by_cases Aw:ke>0
    ·rw[if_pos Aw];refine Wy (iH (WE ?_));have hz:lo+n'<=b.size:=by have:=R.size;have:=h0.size;lia
     refine⟨mirror b (lo+n' - (ke+1)) (lo+n') ((lo+n' - (lo+n' - (ke+1))) / 2),n'+1,0,rfl,rfl,rfl,R.trans ((eV hz).mono (by lia) (by lia)),?_,by lia,?_⟩
     ·refine NI.snoc O (jI (by lia) hz N λu v h1 h2 h3 h4=>he u v (by lia) h2 (by lia) h4) (by lia) ?_
      rw[bU hz,bU hz,if_neg (by lia),if_pos (by lia)]
      exact O.trans (O.of_lt rN) (he _ _ (by lia) (by lia) (by lia) (by lia))
     ·intro u v h1 h2 h3 h4;obtain rfl:u=v:=by lia
      exact O.refl _
    ·rw[if_neg Aw];refine WE ⟨b,n'+1,0,rfl,rfl,rfl,R,N.snoc O (by lia) (O.of_lt rN),by lia,?_⟩
     intro u v h1 h2 h3 h4;obtain rfl:u=v:=by lia
     exact O.refl _
   |false =>
    rw[if_neg (by simp)]
    refine Wy (iI L h0 R (by lia) (by lia) ?_)
    dsimp only;cases qj:c (el b (lo+n' - 1)) (el b (lo+n'))with
    |true =>
     rw[if_pos rfl];exact WE ⟨b,n',ke,rfl,rfl,by lia,by lia,R,N,hq,he⟩
    |false =>
     rw[if_neg (by simp)]
     refine WE ⟨b,n'+1,ke+1,rfl,rfl,rfl,R,N.snoc O (by lia) qj,by lia,?_⟩
     have hl:∀u,lo+n' - 1-ke<=u->u<lo+(n'+1)->le c (el b u) (el b (lo+n'))/\le c (el b (lo+n')) (el b u):=λu h1 h2=>by
      by_cases hu:u<lo+n'
      ·exact⟨O.trans (he u (lo+n' - 1) h1 hu (by lia) (by lia)) rN,O.trans qj (he (lo+n' - 1) u (by lia) (by lia) h1 hu)⟩
      ·obtain rfl:u=lo+n':=by lia
       exact⟨O.refl _,O.refl _⟩
     intro u v h1 h2 h3 h4;exact O.trans (hl u (by lia) h2).1 (hl v (by lia) h4).2
  ·rintro r aF ⟨b,n',ke,rfl,rfl,hx,R,N,hq,he⟩;exact⟨b,n',ke,rfl,rfl,by lia,by lia,R,N,hq,he⟩
  ·refine⟨_,n+1,0,rfl,rfl,rfl,R0,N0,by lia,?_⟩
   intro u v h1 h2 h3 h4;obtain rfl:u=v:=by lia
   exact O.refl _
  rintro r aF ⟨b,n',ke,rfl,rfl,UU,UT,RB,NB,hq,he⟩;dsimp only
  by_cases Aw:ke>0
  ·rw[if_pos Aw];refine Wy (iH ?_);have hz:lo+n'<=b.size:=by have:=RB.size;have:=h0.size;lia
   have NB:=jI (c:=c) (i:=lo+n' - (ke+1)) (by lia) hz NB λu v h1 h2 h3 h4=>he u v (by lia) h2 (by lia) h4
   have RB:=RB.trans ((eV (i:=lo+n' - (ke+1)) hz).mono (by lia) (by lia:lo+n'<=lo+eU))
   show wpS _ _ _ _ _ Q (XF st (mirror b (lo+n' - (ke+1)) (lo+n') ((lo+n' - (lo+n' - (ke+1))) / 2)));generalize mirror b (lo+n' - (ke+1)) (lo+n') ((lo+n' - (lo+n' - (ke+1))) / 2)=b1 at NB RB;refine Wy (iH ?_);have R2:Rg (W4 st) (mirror b1 lo (lo+n') ((lo+n' - lo) / 2)) lo (lo+eU):=RB.trans ((eV (by have:=RB.size;have:=h0.size;lia)).mono (Wl _) (by lia))
   have S2:SR c (mirror b1 lo (lo+n') ((lo+n' - lo) / 2)) lo (lo+n'):=nM (by have:=RB.size;have:=h0.size;lia) NB
   show wpS _ _ _ _ _ Q (XF st (mirror b1 lo (lo+n') ((lo+n' - lo) / 2)));generalize mirror b1 lo (lo+n') ((lo+n' - lo) / 2)=b2 at R2 S2;refine Wy (Yc (Xu (I:=λx r aF=>aF=XF st b2/\∃m,r=(none,m)/\m=x/\SR c b2 lo (lo+m))
    (Q:=λr aF=>aF=XF st b2/\∃m,r=(none,m)/\1<=m/\m<=eU/\SR c b2 lo (lo+m)) ?_ ?_ ?_) ?_)
   ·rintro x r aF xr hx ⟨rfl,m,rfl,rfl,hs⟩;dsimp only;refine Wy (iI L h0 R2 (by lia) (by lia) ?_)
    dsimp only;cases hc:c (el b2 (lo+m)) (el b2 (lo+m-1))with
    |true =>
     rw[if_pos rfl];exact WE ⟨rfl,m,rfl,by lia,by lia,hs⟩
    |false =>
     rw[if_neg (by simp)]
     exact WE ⟨rfl,m+1,rfl,rfl,hs.snoc O (by lia) hc⟩
   ·rintro r aF ⟨rfl,m,rfl,hx,hs⟩;exact⟨rfl,m,rfl,by lia,by lia,hs⟩
   ·exact⟨rfl,n',rfl,rfl,S2⟩
   rintro r aF ⟨rfl,m,rfl,Nd,DX,hs⟩;exact WE (h m b2 Nd DX R2 hs)
  ·rw[if_neg Aw];refine Wy (iH ?_);have R2:Rg (W4 st) (mirror b lo (lo+n') ((lo+n' - lo) / 2)) lo (lo+eU):=RB.trans ((eV (by have:=RB.size;have:=h0.size;lia)).mono (Wl _) (by lia))
   have S2:SR c (mirror b lo (lo+n') ((lo+n' - lo) / 2)) lo (lo+n'):=nM (by have:=RB.size;have:=h0.size;lia) NB
   show wpS _ _ _ _ _ Q (XF st (mirror b lo (lo+n') ((lo+n' - lo) / 2)));generalize mirror b lo (lo+n') ((lo+n' - lo) / 2)=b2 at R2 S2;refine Wy (Yc (Xu (I:=λx r aF=>aF=XF st b2/\∃m,r=(none,m)/\m=x/\SR c b2 lo (lo+m))
    (Q:=λr aF=>aF=XF st b2/\∃m,r=(none,m)/\1<=m/\m<=eU/\SR c b2 lo (lo+m)) ?_ ?_ ?_) ?_)
   ·rintro x r aF xr hx ⟨rfl,m,rfl,rfl,hs⟩;dsimp only;refine Wy (iI L h0 R2 (by lia) (by lia) ?_)
    dsimp only;cases hc:c (el b2 (lo+m)) (el b2 (lo+m-1))with
    |true =>
     rw[if_pos rfl];exact WE ⟨rfl,m,rfl,by lia,by lia,hs⟩
    |false =>
     rw[if_neg (by simp)]
     exact WE ⟨rfl,m+1,rfl,rfl,hs.snoc O (by lia) hc⟩
   ·rintro r aF ⟨rfl,m,rfl,hx,hs⟩;exact⟨rfl,m,rfl,by lia,by lia,hs⟩
   ·exact⟨rfl,n',rfl,rfl,S2⟩
   rintro r aF ⟨rfl,m,rfl,Nd,DX,hs⟩;exact WE (h m b2 Nd DX R2 hs)
end
section
variable {c:Wt->Wt->Bool}{a:Array Wt}
theorem jT {src d:Nat}(hs:src<a.size)(hd:d<=src)(k:Nat):el (bubble a src d) k=if k=src-d then el a src else if src-d<k/\k<=src then el a (k-1) else el a k:=by
 have e:=getElem?_bubble hs d hd k
 by_cases h1:k=src-d
 ·rw[if_pos h1]at e ⊢
  exact dR e
 ·rw[if_neg h1]at e ⊢
  by_cases h2:src-d<k/\k<=src
  ·rw[if_pos h2]at e ⊢
   exact dR e
  ·rw[if_neg h2]at e ⊢
   exact dR e
theorem xS {lo k l:Nat}(O:bY c)(hk:lo+k<a.size)(hl:l<=k)(h:SR c a lo (lo+k))(h1:∀i,i<l->le c (el a (lo+i)) (el a (lo+k)))(h2:∀i,l<=i->i<k->le c (el a (lo+k)) (el a (lo+i))):
  SR c (bubble a (lo+k) (lo+k-(lo+l))) lo (lo+(k+1)):=λi j g1 g2 g3=>by
 rw[jT hk (by lia),jT hk (by lia),show lo+k-(lo+k-(lo+l))=lo+l by lia]
 have q1:∀i,lo<=i->i<lo+l->le c (el a i) (el a (lo+k)):=λi x y=>by
  have:=h1 (i-lo) (by lia)
  rwa [show lo+(i-lo)=i by lia]at this
 have q2:∀i,lo+l<=i->i<lo+k->le c (el a (lo+k)) (el a i):=λi x y=>by
  have:=h2 (i-lo) (by lia) (by lia)
  rwa [show lo+(i-lo)=i by lia]at this
 by_cases ei:i=lo+l
 ·rw[if_pos ei]
  by_cases ej:j=lo+l
  ·rw[if_pos ej];exact O.refl _
  ·rw[if_neg ej,if_pos (by lia)]
   exact q2 _ (by lia) (by lia)
 ·rw[if_neg ei]
  by_cases ej:j=lo+l
  ·rw[if_pos ej,if_neg (by lia)]
   exact q1 _ (by lia) (by lia)
  ·rw[if_neg ej]
   by_cases fi:lo+l<i/\i<=lo+k
   ·rw[if_pos fi,if_pos (by lia)]
    exact h _ _ (by lia) (by lia) (by lia)
   ·rw[if_neg fi]
    by_cases fj:lo+l<j/\j<=lo+k
    ·rw[if_pos fj];exact h _ _ (by lia) (by lia) (by lia)
    ·rw[if_neg fj];exact h _ _ (by lia) (by lia) (by lia)
theorem xT {src d:Nat}(hs:src<a.size)(hd:d<=src):Rg a (bubble a src d) (src-d) (src+1):=⟨bubble_perm _ _ _,λk h=>by
 rw[jT hs hd,if_neg (by lia),if_neg (by lia)]⟩
end
section
variable {prog:Wq}{w:WC}{A:Xg}{E:Wg->Wi->Prop}{s:Wi}{κ:Y3}{c:Wt->Wt->Bool}{a₀:Array Wt}
theorem F8 (O:bY c)(L:fF prog w A E s κ c (·∈a₀.toList)){st:WV}{lo n ok:Nat}{Q:Bool->WV->Prop}(h0:jY κ a₀ st)(bq:ok<=n)(h1:1<=n)(hn:lo+n<=a₀.size)(hs:SR c (W4 st) lo (lo+ok))
  (h:∀b,Rg (W4 st) b lo (lo+n)->SR c b lo (lo+n)->Q true (XF st b)):wpS (model prog w) A E s (binarySort' lo n ok) Q st:=by
 rw[binarySort'_eq];refine Wy (Yc (Xu (I:=λk r aF=>r=(none,())/\k<=n/\∃b,aF=XF st b/\Rg (W4 st) b lo (lo+n)/\SR c b lo (lo+k))
  (Q:=λr aF=>r=(none,())/\∃b,aF=XF st b/\Rg (W4 st) b lo (lo+n)/\SR c b lo (lo+n)) ?_ ?_ ?_) ?_)
 ·rintro k r aF QI hk ⟨rfl,_,b,rfl,R,xu⟩;dsimp only;have hz:b.size=a₀.size:=R.size.trans h0.size;refine Wy (Yc (Xu (I:=λx r aF=>aF=XF st b/\∃l u,r=(none,l,u)/\l<=u/\u<=k/\u-l<=k-x/\(∀i,i<l->le c (el b (lo+i)) (el b (lo+k)))/\(∀i,u<=i->i<k->le c (el b (lo+k)) (el b (lo+i))))
   (Q:=λr aF=>aF=XF st b/\∃l,r=(none,l,l)/\l<=k/\(∀i,i<l->le c (el b (lo+i)) (el b (lo+k)))/\(∀i,l<=i->i<k->le c (el b (lo+k)) (el b (lo+i)))) ?_ ?_ ?_) ?_)
  ·rintro x r aF _ hx ⟨rfl,l,u,rfl,g1,g2,g3,g4,g5⟩;dsimp only
   by_cases SN:l >= u
   ·rw[if_pos SN];obtain rfl:l=u:=by lia
    exact WE ⟨rfl,l,rfl,g2,g4,g5⟩
   ·rw[if_neg SN];refine Wy (iI L h0 R (by lia) (by lia) ?_)
    dsimp only;cases hc:c (el b (lo+k)) (el b (lo+(l+u) / 2))with
    |true =>
     rw[if_pos rfl];exact WE ⟨rfl,l,_,rfl,by lia,by lia,by lia,g4,λi h1 h2=>O.trans (O.of_lt hc) (xu _ _ (by lia) (by lia) (by lia))⟩
    |false =>
     rw[if_neg (by simp)]
     exact WE ⟨rfl,_,u,rfl,by lia,by lia,by lia,λi h1=>O.trans (xu _ _ (by lia) (by lia) (by lia)) (show le c (el b (lo+(l+u) / 2)) (el b (lo+k)) from hc),g5⟩
  ·rintro r aF ⟨rfl,l,u,rfl,g1,g2,g3,g4,g5⟩;obtain rfl:l=u:=by lia
   exact⟨rfl,l,rfl,g2,g4,g5⟩
  ·exact⟨rfl,0,k,rfl,WJ _,Wl _,by lia,λi hi=>by lia,λi h1 h2=>by lia⟩
  rintro r aF ⟨rfl,l,rfl,g2,g4,g5⟩;dsimp only;rw[moveDown'_eq];refine Wy (YS (WE ⟨rfl,by lia,_,rfl,R.trans ((xT (a:=b) (by lia) (by lia)).mono (by lia) (by lia)),xS (a:=b) O (by lia) g2 xu g4 g5⟩))
 ·rintro r aF ⟨rfl,hx,b,rfl,R,xu⟩;rw[show max (max ok 1) n=n by lia]at xu
  exact⟨rfl,b,rfl,R,xu⟩
 ·refine⟨rfl,by lia,W4 st,rfl,Rg.refl,?_⟩
  by_cases h2:ok=0
  ·subst h2;exact SR.one O
  ·rw[show max ok 1=ok by lia]
   exact hs
 ·rintro r aF ⟨rfl,b,rfl,R,xu⟩;exact WE (h b R xu)
theorem rQ (base:Nat):∀(l:List Wt) (off:Nat) (a:Array Wt),base+off+l.length<=a.size->∀k:Nat,
  ((l.zipIdx off).foldl (λx (z:Wt×Nat)=>x.setIfInBounds (base+z.2) z.1) a)[k]?=if base+off<=k/\k<base+off+l.length then l[k-(base+off)]? else a[k]?
 |[],off,a,_,k=>by
  rw[if_neg (by rw[List.length_nil];lia)]
  rfl
 |x::l,off,a,h,k=>by
  rw[Wz]at h;rw[List.zipIdx_cons,Yk,rQ base l (off+1) _ (by rw[Z4];lia)]
  by_cases h1:base+(off+1)<=k/\k<base+(off+1)+l.length
  ·rw[if_pos h1,if_pos (by rw[Wz];lia),show k-(base+off)=k-(base+(off+1))+1 by lia,Z_]
  ·rw[if_neg h1,Array.getElem?_setIfInBounds]
   by_cases h2:base+off=k
   ·subst h2;rw[if_pos rfl,if_pos (by lia),if_pos (by rw[Wz];lia),Nat.sub_self]
    rfl
   ·rw[if_neg h2,if_neg (by rw[Wz];lia)]
def Ci (a:Array Wt)(base:Nat)(l:List Wt):Array Wt:=l.zipIdx.foldl (λx (z:Wt×Nat)=>x.setIfInBounds (base+z.2) z.1) a
theorem oO {a:Array Wt}{base:Nat}{l:List Wt}(h:base+l.length<=a.size)(k:Nat):(Ci a base l)[k]?=if base<=k/\k<base+l.length then l[k-base]? else a[k]?:=rQ base l 0 a h k
theorem ye {a:Array Wt}{base:Nat}{l:List Wt}(h:base+l.length<=a.size):(Ci a base l).toList=a.toList.take base++(l++a.toList.drop (base+l.length)):=by
 apply Yu;intro k;rw[WM,oO h];have hz:a.toList.length=a.size:=Wr
 by_cases h1:base<=k/\k<base+l.length
 ·rw[if_pos h1,Xq (by rw[WW];lia),WW,XO (by lia)]
  congr 1
  lia
 ·rw[if_neg h1]
  by_cases h2:k<base
  ·rw[XO (by rw[WW];lia),Y5 h2,WM]
  ·rw[Xq (by rw[WW];lia),WW,Xq (by lia),ZH,WM]
   congr 1
   lia
theorem Gs (a:Array Wt)(base m:Nat):a.toList=a.toList.take base++((a.toList.drop base).take m++a.toList.drop (base+m)):=by
 have h1:=(YK base a.toList).symm;have h2:=(YK m (a.toList.drop base)).symm;rw[List.drop_drop]at h2;rw[<- h2];exact h1
theorem F2 {a:Array Wt}{base:Nat}{l:List Wt}(h:base+l.length<=a.size)(hp:l.Perm ((a.toList.drop base).take l.length)):Rg a (Ci a base l) base (base+l.length) where
 perm:=by
  rw[YX,ye h];refine List.Perm.trans ?_ (List.Perm.of_eq (Gs a base l.length).symm);exact List.Perm.append_left _ (hp.append_right _)
 out:=λk hk=>dR (by rw[oO h,if_neg (by lia)])
end
section
variable {prog:Wq}{w:WC}{A:Xg}{E:Wg->Wi->Prop}{s:Wi}{κ:Y3}{c:Wt->Wt->Bool}{a₀:Array Wt}
theorem Cn {σ:Type}{M:Model}{Q:PUnit->σ->Prop}{st aF:σ}(h:Q ⟨⟩ aF):wpS M A E s (set aF:StateT σ Sem PUnit) Q st:=by
 unfold wpS;rw[StateT.run_set];exact Wu ⟨rfl,h⟩
theorem uK {a:Array Wt}{lo hi i:Nat}(h:i<hi-lo)(hh:hi<=a.size):el (a.extract lo hi) i=el a (lo+i) :=
 dR (by rw[Array.getElem?_extract,if_pos (by lia)])
theorem me {a:Array Wt}{lo hi:Nat}(hh:hi<=a.size):(a.extract lo hi).size=hi-lo:=by
 rw[Array.size_extract];lia
theorem vL {a:Array Wt}{lo hi:Nat}(hh:hi<=a.size){z:Wt}(h:z∈(a.extract lo hi).toList):∃u,lo<=u/\u<hi/\z=el a u:=by
 obtain⟨i,gn⟩:=YU h;rw[WM]at gn;have gT:i<(a.extract lo hi).size:=by
  rcases XW i (a.extract lo hi).size with q|q
  ·exact q
  ·rw[Yo q]at gn;cases gn
 rw[me hh]at gT;exact⟨lo+i,by lia,by lia,by rw[<- uK gT hh,v8 gn]⟩
theorem tK (O:bY c)(L:fF prog w A E s κ c (·∈a₀.toList)){st:WV}{i sa na pw sb nb Ou:Nat}{Q:Bool->WV->Prop}(h0:jY κ a₀ st)(p1:(WS st)[i]?=some (sa,na,pw))(p2:(WS st)[i+1]?=some (sb,nb,Ou))
  (xu:sb=sa+na) (V4:1<=na) (V3:1<=nb) (hz:sb+nb<=a₀.size) (s1:SR c (W4 st) sa sb) (s2:SR c (W4 st) sb (sb+nb))
  (h:∀aF,kindOf aF=κ->Zd aF=none->WS aF=((WS st).setIfInBounds i (sa,na+nb,pw)).eraseIdxIfInBounds (i+1)->Rg (W4 st) (W4 aF) sa (sb+nb)->SR c (W4 aF) sa (sb+nb)->Q true aF) :
  wpS (model prog w) A E s (mergeAt' i) Q st:=by
 rw[rm];refine Wy (ZM ?_);rw[p1,p2];dsimp only;refine Wy (Cn ?_);have PX:=h0.size;have hm:∀{j},j<a₀.size->el (W4 st) j∈a₀.toList:=λhj=>h0.mem hj;generalize ha:W4 st=a at *
 have wI:kindOf (Zm st (((WS st).setIfInBounds i (sa,na+nb,pw)).eraseIdxIfInBounds (i+1)))=κ:=h0.kind;have Gq:Zd (Zm st (((WS st).setIfInBounds i (sa,na+nb,pw)).eraseIdxIfInBounds (i+1)))=none:=h0.fail;have Gr:W4 (Zm st (((WS st).setIfInBounds i (sa,na+nb,pw)).eraseIdxIfInBounds (i+1)))=a:=ha;have Kn:WS (Zm st (((WS st).setIfInBounds i (sa,na+nb,pw)).eraseIdxIfInBounds (i+1)))=((WS st).setIfInBounds i (sa,na+nb,pw)).eraseIdxIfInBounds (i+1):=rfl;generalize hP:((WS st).setIfInBounds i (sa,na+nb,pw)).eraseIdxIfInBounds (i+1)=P at *
 generalize Zm st P=Ko at *
 refine Wy (aV (by lia) ?_)
 refine Wy (du O L wI (hm (by lia)) (λx hx=>hm (by lia)) (by lia) (λx y h1 h2 h3=>s1 x y h1 h2 (by lia)) (by lia) λk k1 k2 k3=>?_)
 dsimp only;have g0:∀x,sa<=x->x<sa+k->le c (el a x) (el a sb):=λx h1 h2=>by
  have:=k2 (x-sa) (by lia)
  unfold dU at this;rw[if_neg (by simp),Yv,show sa+(x-sa)=x by lia]at this
  exact this
 by_cases e1:(na-k==0)=true
 ·rw[if_pos e1];have e1:na-k=0:=by simpa using e1
  refine WE (h Ko wI Gq Kn (by rw[Gr];exact Rg.refl) ?_)
  rw[Gr];intro x y h1 h2 h3
  by_cases hx:x<sb
  ·by_cases hy:y<sb
   ·exact s1 x y h1 h2 hy
   ·exact O.trans (g0 x h1 (by lia)) (s2 sb y (Wl _) (by lia) h3)
  ·exact s2 x y (by lia) h2 h3
 rw[if_neg e1];have e1:na-k≠0:=by simpa using e1
 have g1:c (el a sb) (el a (sa+k))=true:=by
  have:=k3 k (Wl _) (by lia)
  unfold dU at this;rw[if_neg (by simp),YG]at this
  exact this
 refine Wy (aV (by lia) ?_)
 refine Wy (du O L wI (hm (by lia)) (λx hx=>hm (by lia)) (by lia) (λx y h1 h2 h3=>s2 x y h1 h2 (by lia)) (by lia) λm m1 m2 m3=>?_)
 dsimp only;rw[show sa+k+(na-k)-1=sb-1 by lia]at m2 m3
 have g2:∀x,sb<=x->x<sb+m->c (el a x) (el a (sb-1))=true:=λx h1 h2=>by
  have:=m2 (x-sb) (by lia)
  unfold dU at this;rw[if_pos rfl,show sb+(x-sb)=x by lia]at this
  exact this
 have g3:∀x,sb+m<=x->x<sb+nb->le c (el a (sb-1)) (el a x):=λx h1 h2=>by
  have:=m3 (x-sb) (by lia) (by lia)
  unfold dU at this;rw[if_pos rfl,show sb+(x-sb)=x by lia]at this
  exact this
 by_cases e2:(m==0)=true
 ·exfalso
  have e2:m=0:=by simpa using e2
  have:=O.trans (s1 (sa+k) (sb-1) (by lia) (by lia) (by lia)) (g3 sb (by lia) (by lia))
  exact absurd (g1.symm.trans this) (by simp)
 rw[if_neg e2];have e2:m≠0:=by simpa using e2
 have zx:(a.extract (sa+k) sb).size=sb-(sa+k):=me (by lia)
 have zy:(a.extract sb (sb+m)).size=m:=by rw[me (by lia)];lia
 have ex:∀{t},t<sb-(sa+k)->el (a.extract (sa+k) sb) t=el a (sa+k+t):=λht=>uK ht (by lia)
 have ey:∀{t},t<m->el (a.extract sb (sb+m)) t=el a (sb+t):=λht=>uK (by lia) (by lia)
 have fin:∀(out:Array Wt) (fO:WV),jZ Ko fO->Gd c (a.extract (sa+k) sb) (a.extract sb (sb+m)) out.toList ->
   wpS (model prog w) A E s (do
    modify λs2=>XF s2 (out.toList.zipIdx.foldl (λx z=>match z with|(p,j)=>x.setIfInBounds (sa+k+j) p) (W4 s2))
    let y <- get
    pure (Zd y).isNone:StateT WV Sem Bool) Q fO:=by
  rintro out fO e ⟨gp,gs⟩;refine Wy (YS (Wy (ZM (WE ?_))));show Q (Zd fO).isNone (XF fO (Ci (W4 fO) (sa+k) out.toList));rw[e.fail,Gq,e.arr,Gr];have zo:out.toList.length=sb-(sa+k)+m:=by
   rw[gp.length_eq,WK,Wr,Wr,zx,zy]
  have hb:sa+k+out.toList.length<=a.size:=by lia
  have xy:(a.toList.drop (sa+k)).take out.toList.length=(a.extract (sa+k) sb).toList++(a.extract sb (sb+m)).toList:=by
   rw[bX,bX,zo,show sb+m-sb=m by lia,List.take_add,List.drop_drop,show sa+k+(sb-(sa+k))=sb by lia]
  have R:Rg a (Ci a (sa+k) out.toList) (sa+k) (sa+k+out.toList.length):=F2 hb (by rw[xy];exact gp)
  refine h _ (e.kind.trans wI) (e.fail.trans Gq) (e.pend.trans Kn) (R.mono (by lia) (by lia)) ?_
  show SR c (Ci a (sa+k) out.toList) sa (sb+nb);have IM:∀t,sa+k<=t->t<sb+m->∃z,out.toList[t-(sa+k)]?=some z/\el (Ci a (sa+k) out.toList) t=z/\((∃u,sa+k<=u/\u<sb/\z=el a u)\/∃u,sb<=u/\u<sb+m/\z=el a u):=by
   intro t h1 h2;have hl:t-(sa+k)<out.toList.length:=by lia
   refine⟨out.toList[t-(sa+k)],Wv hl,v8 (by rw[oO hb,if_pos (by lia)];exact Wv hl),?_⟩
   have IP:=gp.mem_iff.mp (YB hl);rcases WO.mp IP with q|q
   ·exact .inl (vL (by lia) q)
   ·exact .inr (vL (by lia) q)
  have Tb:∀t,t<sa+k->el (Ci a (sa+k) out.toList) t=el a t:=λt ht=>R.out t (.inl ht);have Nn:∀t,sb+m<=t->el (Ci a (sa+k) out.toList) t=el a t:=λt ht=>R.out t (.inr (by lia))
  intro x y h1 h2 h3
  by_cases hx:x<sa+k
  ·rw[Tb x hx]
   by_cases hy:y<sa+k
   ·rw[Tb y hy];exact s1 x y h1 h2 (by lia)
   ·by_cases Pb:y<sb+m
    ·obtain⟨z,_,ez,JP⟩:=IM y (by lia) Pb
     rw[ez];rcases JP with⟨u,u1,u2,rfl⟩|⟨u,u1,u2,rfl⟩
     ·exact s1 x u h1 (by lia) u2
     ·exact O.trans (g0 x h1 hx) (s2 sb u (Wl _) u1 (by lia))
    ·rw[Nn y (by lia)]
     exact O.trans (g0 x h1 hx) (s2 sb y (Wl _) (by lia) h3)
  ·by_cases H_:x<sb+m
   ·obtain⟨z,iz,ez,JP⟩:=IM x (by lia) H_
    rw[ez]
    by_cases Pb:y<sb+m
    ·obtain⟨z',Ut,Ra,_⟩:=IM y (by lia) Pb
     rw[Ra]
     by_cases Pn:x=y
     ·subst Pn;rw[ez]at Ra;rw[Ra];exact O.refl _
     ·obtain⟨q1,q2⟩:=WI.mp iz;obtain⟨q3,q4⟩:=WI.mp Ut;have:=Yr.mp gs _ _ q1 q3 (by lia)
      rw[q2,q4]at this;exact this
    ·rw[Nn y (by lia)]
     rcases JP with⟨u,u1,u2,rfl⟩|⟨u,u1,u2,rfl⟩
     ·exact O.trans (s1 u (sb-1) (by lia) (by lia) (by lia)) (g3 y (by lia) h3)
     ·exact s2 u y (by lia) (by lia) h3
   ·rw[Nn x (by lia),Nn y (by lia)]
    exact s2 x y (by lia) h2 h3
 have go:∀(out:Array Wt) (fO:WV),jZ Ko fO->Gd c (a.extract (sa+k) sb) (a.extract sb (sb+m)) out.toList->wpS (model prog w) A E s (do
    modify λs2=>XF s2 (out.toList.zipIdx.foldl (λx z=>match z with|(p,j)=>x.setIfInBounds (sa+k+j) p) (W4 s2))
    let y <- get
    pure (Zd y).isNone:StateT WV Sem Bool) Q fO:=fin
 have SD:0<(a.extract (sa+k) sb).size:=by lia
 have SA:0<(a.extract sb (sb+m)).size:=by lia
 have Sx:∀t,t<(a.extract (sa+k) sb).size->el (a.extract (sa+k) sb) t∈a₀.toList:=λt ht=>by rw[ex (by lia)];exact hm (by lia)
 have Sy:∀t,t<(a.extract sb (sb+m)).size->el (a.extract sb (sb+m)) t∈a₀.toList:=λt ht=>by rw[ey (by lia)];exact hm (by lia)
 have RT:SR c (a.extract (sa+k) sb) 0 (a.extract (sa+k) sb).size:=λx y h1 h2 h3=>by
  rw[ex (by lia),ex (by lia)]
  exact s1 _ _ (by lia) (by lia) (by lia)
 have RS:SR c (a.extract sb (sb+m)) 0 (a.extract sb (sb+m)).size:=λx y h1 h2 h3=>by
  rw[ey (by lia),ey (by lia)]
  exact s2 _ _ (by lia) (by lia) (by lia)
 have hf:c (el (a.extract sb (sb+m)) 0) (el (a.extract (sa+k) sb) 0)=true:=by
  rw[ex (by lia),ey (by lia)]
  exact g1
 have hl:∀y,y<(a.extract sb (sb+m)).size->c (el (a.extract sb (sb+m)) y) (el (a.extract (sa+k) sb) ((a.extract (sa+k) sb).size-1))=true:=λy hy=>by
  rw[ey (by lia),ex (by lia),show sa+k+((a.extract (sa+k) sb).size-1)=sb-1 by lia]
  exact g2 _ (by lia) (by lia)
 by_cases e3:na-k<=m
 ·rw[if_pos e3];exact Wy (tH O L wI Sx Sy RT RS SD SA hf hl go)
 ·rw[if_neg e3];exact Wy (tJ O L wI Sx Sy RT RS SD SA hf hl go)
end
section
variable {c:Wt->Wt->Bool}{a b:Array Wt}
def Runs (c:Wt->Wt->Bool)(a:Array Wt):List (Nat×Nat×Nat)->Nat->Nat->Prop
 |[],lo,hi=>lo=hi
 |z::r,lo,hi=>z.1=lo/\1<=z.2.1/\SR c a lo (lo+z.2.1)/\Runs c a r (lo+z.2.1) hi
theorem Runs.app:∀{l r:List (Nat×Nat×Nat)} {lo hi:Nat},Runs c a (l++r) lo hi->∃m,Runs c a l lo m/\Runs c a r m hi
 |[],r,lo,hi,h=>⟨lo,rfl,h⟩
 |z::l,r,lo,hi,l_=>by
  obtain⟨h1,h2,h3,h4⟩:=l_;obtain⟨m,g1,g2⟩:=Runs.app h4;exact⟨m,⟨h1,h2,h3,g1⟩,g2⟩
theorem Runs.join:∀{l r:List (Nat×Nat×Nat)} {lo m hi:Nat},Runs c a l lo m->Runs c a r m hi->Runs c a (l++r) lo hi
 |[],r,lo,m,hi,h,g=>by
  obtain rfl:lo=m:=h;exact g
 |z::l,r,lo,m,hi,Am,g=>by obtain⟨h1,h2,h3,h4⟩:=Am;exact⟨h1,h2,h3,Runs.join h4 g⟩
theorem Runs.len:∀{l:List (Nat×Nat×Nat)} {lo hi:Nat},Runs c a l lo hi->lo+l.length<=hi
 |[],lo,hi,h=>Nat.le_of_eq h
 |z::l,lo,hi,Al=>by
  obtain⟨h1,h2,h3,h4⟩:=Al;have:=Runs.len h4;rw[Wz];lia
theorem Runs.congr:∀{l:List (Nat×Nat×Nat)} {lo hi:Nat},Runs c a l lo hi->(∀k,lo<=k->k<hi->el b k=el a k)->Runs c b l lo hi
 |[],lo,hi,h,_=>h
 |z::l,lo,hi,DQ,e=>by
  obtain⟨h1,h2,h3,h4⟩:=DQ;have hl:=Runs.len h4;exact⟨h1,h2,h3.congr λk g1 g2=>e k g1 (by lia),Runs.congr h4 λk g1 g2=>e k (by lia) g2⟩
theorem Runs.pow:∀{l l':List (Nat×Nat×Nat)} {lo hi:Nat},Runs c a l lo hi->l'.map (λz=>(z.1,z.2.1))=l.map (λz=>(z.1,z.2.1))->Runs c a l' lo hi
 |[],[],_,_,h,_=>h
 |[],z::l',_,_,_,e=>by cases e
 |z::l,[],_,_,_,e=>by cases e
 |z::l,z'::l',lo,hi,Ic,e=>by
  obtain⟨h1,h2,h3,h4⟩:=Ic;rw[W3,W3]at e;injection e with e1 e2
  injection e1 with e3 e4
  exact⟨e3.trans h1,by rw[e4];exact h2,by rw[e4];exact h3,by rw[e4];exact Runs.pow h4 e2⟩
end
section
variable {prog:Wq}{w:WC}{A:Xg}{E:Wg->Wi->Prop}{s:Wi}{κ:Y3}{c:Wt->Wt->Bool}{a₀:Array Wt}
theorem Gu {α:Type}{l:List α}{i:Nat}(h:i+1<l.length):∃l1 x y l2,l=l1++x::y::l2/\l1.length=i:=by
 refine⟨l.take i,l[i],l[i+1],l.drop (i+2),?_,by rw[WW];lia⟩
 rw[<- XQ h,<- XQ (by lia),YK]
theorem ng (O:bY c)(L:fF prog w A E s κ c (·∈a₀.toList)){st:WV}{i hi:Nat}{Q:Bool->WV->Prop}(h0:jY κ a₀ st)(hr:Runs c (W4 st) (WS st).toList 0 hi)(hh:hi<=a₀.size)(SY:i+1<(WS st).size)
  (h:∀aF,jY κ a₀ aF->Rg (W4 st) (W4 aF) 0 hi->Runs c (W4 aF) (WS aF).toList 0 hi->(WS aF).size+1=(WS st).size->Q true aF) :
  wpS (model prog w) A E s (mergeAt' i) Q st:=by
 obtain⟨l1,⟨sa,na,pw⟩,⟨sb,nb,Ou⟩,l2,el,hl⟩:=Gu (l:=(WS st).toList) (i:=i) (by rw[Wr];exact SY)
 rw[el]at hr;obtain⟨m,r1,r2⟩:=hr.app;obtain⟨x1,x2,x3,y1,y2,y3,r3⟩:=r2;dsimp only at x1 x2 x3 y1 y2 y3 r3;have hlen:=r3.len;have SS:=r1.len;have p1:(WS st)[i]?=some (sa,na,pw):=by
  rw[<- WM,el,Xq (by lia),hl,Nat.sub_self]
  rfl
 have p2:(WS st)[i+1]?=some (sb,nb,Ou):=by
  rw[<- WM,el,Xq (by lia),hl,show i+1-i=1 by lia]
  rfl
 subst x1;refine tK O L h0 p1 p2 y1 x2 y2 (by lia) (by rw[y1];exact x3) (by rw[y1];exact y3) λaF k1 k2 k3 R S=>?_
 have ep:(WS aF).toList=l1++(sa,na+nb,pw)::l2:=by
  rw[k3];have hz:i+1<((WS st).setIfInBounds i (sa,na+nb,pw)).size:=by rw[Z4];exact SY
  have e1:(((WS st).setIfInBounds i (sa,na+nb,pw)).eraseIdxIfInBounds (i+1)).toList=((WS st).toList.set i (sa,na+nb,pw)).eraseIdx (i+1):=by
   unfold Array.eraseIdxIfInBounds;rw[dif_pos hz,Array.toList_eraseIdx,Array.toList_setIfInBounds]
  rw[e1,el,<- hl,List.set_append_right _ _ (Wl _),Nat.sub_self,List.set_cons_zero,List.eraseIdx_append_of_length_le (by lia),show l1.length+1-l1.length=1 by lia]
  rfl
 have out:∀k,(k<sa\/sb+nb<=k)->TS.el (W4 aF) k=TS.el (W4 st) k:=R.out;refine h aF ⟨k1,k2,R.perm.trans h0.perm⟩ (R.mono (WJ _) (by lia)) ?_ ?_
 ·rw[ep];refine Runs.join (r1.congr λk g1 g2=>out k (.inl (by lia))) ⟨rfl,by show 1<=na+nb;lia,?_,?_⟩
  ·show SR c (W4 aF) sa (sa+(na+nb));rw[show sa+(na+nb)=sb+nb by lia]
   exact S
  ·show Runs c (W4 aF) l2 (sa+(na+nb)) hi;rw[show sa+(na+nb)=sa+na+nb by lia]
   exact r3.congr λk g1 g2=>out k (.inr (by lia))
 ·have e2:(WS aF).size=l1.length+(l2.length+1):=by rw[<- Wr,ep,WK,Wz]
  have e3:(WS st).size=l1.length+(l2.length+1+1):=by rw[<- Wr,el,WK,Wz,Wz]
  lia
theorem lT:∀(f n r:Nat),1<=n->1<=minRun' f n r
 |0,n,r,h=>by show 1<=n+r;lia
 |f+1,n,r,h=>by
  rw[minRun'_succ]
  split
  ·lia
  ·exact lT f _ _ (by lia)
theorem CT (p:Array (Nat×Nat×Nat))(i w:Nat):(p.modify i λx=>(x.1,x.2.1,w)).toList.map (λz=>(z.1,z.2.1))=p.toList.map (λz=>(z.1,z.2.1)):=by
 apply Yu;intro k;rw[WH,WH,WM,WM,Array.getElem?_modify]
 split
 ·rw[Option.map_map];rfl
 ·rfl
theorem qq (O:bY c)(L:fF prog w A E s κ c (·∈a₀.toList)){st:WV}{Q:Unit->WV->Prop}(h0:jY κ a₀ st)(hp:WS st=#[])(h2:2<=a₀.size)
  (h:∀aF,jY κ a₀ aF->SR c (W4 aF) 0 a₀.size->Q () aF):wpS (model prog w) A E s sortRuns' Q st:=by
 rw[sortRuns'_eq];refine Wy (ZM ?_);dsimp only;rw[h0.size];have UY:=lT a₀.size a₀.size 0 (by lia)
 generalize minRun' a₀.size a₀.size 0=mr at UY;refine Wy (Yc (Xu (I:=λx r aF=>jY κ a₀ aF/\∃lo,r=(none,lo)/\lo<=a₀.size/\(a₀.size<=lo\/x<=lo)/\Runs c (W4 aF) (WS aF).toList 0 lo)
  (Q:=λr aF=>jY κ a₀ aF/\r=(none,a₀.size)/\Runs c (W4 aF) (WS aF).toList 0 a₀.size) ?_ ?_ ?_) ?_)
 ·rintro x r aF _ hx ⟨hS,lo,rfl,QD,U0,hr⟩;dsimp only
  by_cases hl:lo >= a₀.size
  ·rw[if_pos hl];obtain rfl:lo=a₀.size:=by lia
   exact WE ⟨hS,rfl,hr⟩
  rw[if_neg hl];refine Wy (ym O L hS (by lia) (by lia) λn b n1 n2 R Sb=>?_)
  dsimp only;have tD:jY κ a₀ (XF aF b):=hS.set R;have pL:Runs c (W4 (XF aF b)) (WS (XF aF b)).toList 0 lo:=Runs.congr (b:=b) hr λk q1 q2=>R.out k (.inl q2);refine(λ(key:∀(N:Nat) (stx:WV),1<=N->lo+N<=a₀.size->Runs c (W4 stx) (WS stx).toList 0 lo->jY κ a₀ stx->SR c (W4 stx) lo (lo+N)->(?G:Nat->WV->Prop) N stx)=>?main) ?key
  case main =>
   by_cases SK:n<mr
   ·rw[if_pos SK];refine Wy (wpS_lift (Zk ⟨rfl,?_⟩));refine Wy (F8 O L tD (by lia) (by lia) (by lia) Sb λb' R' Vz=>?_)
    rw[if_neg (by simp)]
    have Nj:1<=min (a₀.size-lo) mr:=by lia
    have QY:lo+min (a₀.size-lo) mr<=a₀.size:=by lia
    have pL:Runs c (W4 (XF (XF aF b) b')) (WS (XF (XF aF b) b')).toList 0 lo:=Runs.congr (b:=b') pL λk q1 q2=>R'.out k (.inl q2);have tD:jY κ a₀ (XF (XF aF b) b'):=tD.set R';have FW:SR c (W4 (XF (XF aF b) b')) lo (lo+(min (a₀.size-lo) mr)):=Vz;generalize XF (XF aF b) b'=stx at pL tD FW ⊢
    generalize min (a₀.size-lo) mr=N at Nj QY FW ⊢
    exact key N stx Nj QY pL tD FW
   ·rw[if_neg SK];have FW:SR c (W4 (XF aF b)) lo (lo+n):=Sb;exact key n _ n1 (by lia) pL tD FW
  case key =>
   intro N stx Nj QY pL tD FW;refine Wy (ZM ?_);have MM:∀(lz:WV),jY κ a₀ lz->SR c (W4 lz) lo (lo+N)->Runs c (W4 lz) (WS lz).toList 0 lo->jY κ a₀ (Zm lz ((WS lz).push (lo,N,0)))/\∃Fj,((none,lo+N):Option Unit×Nat)=(none,Fj)/\Fj<=a₀.size/\(a₀.size<=Fj\/x+1<=Fj)/\Runs c (W4 lz) ((WS lz).push (lo,N,0)).toList 0 Fj:=λlz g1 g2 g3 =>
    ⟨⟨g1.kind,g1.fail,g1.perm⟩,_,rfl,by lia,by lia,by rw[Yi];exact g3.join ⟨rfl,Nj,g2,rfl⟩⟩
   cases hb:(WS stx).back? with
   |none =>
    dsimp only;exact Wy (YS (WE (MM stx tD FW pL)))
   |some z =>
    obtain⟨s1,n1,p1⟩:=z;dsimp only;refine Wy (Yc (Xu (I:=λx r aF=>r=(none,())/\jY κ a₀ aF/\SR c (W4 aF) lo (lo+N)/\Runs c (W4 aF) (WS aF).toList 0 lo)
     (Q:=λr aF=>r=(none,())/\jY κ a₀ aF/\SR c (W4 aF) lo (lo+N)/\Runs c (W4 aF) (WS aF).toList 0 lo) ?_ ?_ ?_) ?_)
    ·rintro y r lz _ _ ⟨rfl,g1,g2,g3⟩;refine Wy (ZM ?_)
     by_cases LN:(WS lz).size>1
     ·rw[if_pos LN];cases hq:(WS lz)[(WS lz).size-2]? with
      |none =>
       dsimp only;exact WE ⟨rfl,g1,g2,g3⟩
      |some z =>
       obtain⟨u,v,Sa⟩:=z;dsimp only
       split
       ·exact WE ⟨rfl,g1,g2,g3⟩
       ·refine Wy (ng O L g1 g3 (by lia) (by lia) λKm f1 f2 f3 f4=>?_)
        exact WE ⟨rfl,f1,g2.congr λk q1 q2=>f2.out k (.inr q1),f3⟩
     ·rw[if_neg LN];dsimp only;exact WE ⟨rfl,g1,g2,g3⟩
    ·rintro r lz ⟨rfl,g1,g2,g3⟩;exact⟨rfl,g1,g2,g3⟩
    ·exact⟨rfl,tD,FW,pL⟩
    rintro r lz ⟨rfl,g1,g2,g3⟩;dsimp only;refine Wy (YS (Wy (YS (WE ?_))));exact MM (Zm lz _) ⟨g1.kind,g1.fail,g1.perm⟩ g2 (g3.pow (CT _ _ _))
 ·rintro r aF ⟨hS,lo,rfl,QD,U0,hr⟩;obtain rfl:lo=a₀.size:=by lia
  exact⟨hS,rfl,hr⟩
 ·exact⟨h0,0,rfl,WJ _,.inr (Wl _),by rw[hp];rfl⟩
 rintro r aF ⟨hS,rfl,hr⟩;dsimp only;refine Wy (Yc (Xu (I:=λx r aF=>r=(none,())/\jY κ a₀ aF/\Runs c (W4 aF) (WS aF).toList 0 a₀.size/\((WS aF).size<=1\/(WS aF).size+x<=a₀.size))
  (Q:=λr aF=>r=(none,())/\jY κ a₀ aF/\Runs c (W4 aF) (WS aF).toList 0 a₀.size/\(WS aF).size<=1) ?_ ?_ ?_) ?_)
 ·rintro x r fO _ hx ⟨rfl,tD,pL,hz⟩;refine Wy (ZM ?_)
  by_cases h1:(WS fO).size<=1
  ·rw[if_pos h1];exact WE ⟨rfl,tD,pL,h1⟩
  rw[if_neg h1];refine Wy (ng O L tD pL (Wl _) ?_ λlz Vd R3 UN V0=>?_)
  ·split
   ·split <;> lia
   ·rw[if_neg (by simp)]
    lia
  ·exact WE ⟨rfl,Vd,UN,.inr (by lia)⟩
 ·rintro r fO ⟨rfl,tD,pL,hz⟩;exact⟨rfl,tD,pL,by lia⟩
 ·refine⟨rfl,hS,hr,.inr ?_⟩;have:=hr.len;rw[Wr]at this;lia
 ·rintro r fO ⟨rfl,tD,pL,hz⟩;refine WE (h fO tD ?_)
  match hq:(WS fO).toList,pL with
  |[],e=>
   have:(0:Nat)=a₀.size:=e;lia
  |[z],e =>
   obtain⟨e1,e2,e3,e4⟩:=e;have e4:0+z.2.1=a₀.size:=e4;rw[e4]at e3;exact e3
  |z::y::l,e =>
   have:(WS fO).toList.length<=1:=by rw[Wr];exact hz
   rw[hq]at this;simp at this
end
theorem lex_nil {y:List Int}:HT.lexLt [] y=decide (0<y.length):=by cases y <;> rfl
theorem jg {a b:Int}{x y:List Int}:HT.lexLt (a::x) (b::y)=if a=b then HT.lexLt x y else decide (a<b):=rfl
theorem rB:∀{x y:List Int},HT.lexLt x y=true->HT.lexLt y x=false
 |[],[],_=>rfl
 |[],_::_,_=>rfl
 |_::_,[],h=>by cases h
 |a::x,b::y,h=>by
  rw[jg]at h ⊢
  by_cases e:a=b
  ·rw[if_pos e]at h;rw[if_pos e.symm];exact rB h
  ·rw[if_neg e]at h;rw[if_neg λz=>e z.symm];have:=of_decide_eq_true h;exact decide_eq_false (by lia)
theorem vM:∀{x z:List Int} (y:List Int),HT.lexLt x z=true->HT.lexLt x y=true\/HT.lexLt y z=true
 |[],[],_,h=>by cases h
 |[],_::_,[],h=>.inr rfl
 |[],_::_,_::_,h=>.inl rfl
 |_::_,[],_,h=>by cases h
 |a::x,b::z,[],h=>.inr rfl
 |a::x,b::z,d::y,h=>by
  rw[jg]at h ⊢
  rw[jg]
  by_cases e:a=b
  ·subst e;rw[if_pos rfl]at h
   by_cases e2:a=d
   ·subst e2;rw[if_pos rfl,if_pos rfl];exact vM y h
   ·rw[if_neg e2,if_neg λq=>e2 q.symm]
    by_cases e3:a<d
    ·exact .inl (decide_eq_true e3)
    ·exact .inr (decide_eq_true (by lia))
  ·rw[if_neg e]at h;have h:=of_decide_eq_true h
   by_cases e2:a=d
   ·subst e2;rw[if_neg e];exact .inr (decide_eq_true h)
   ·rw[if_neg e2]
    by_cases e3:a<d
    ·exact .inl (decide_eq_true e3)
    ·rw[if_neg (by lia)]
     exact .inr (decide_eq_true (by lia))
def byKey (kf:Wg->List Int)(x y:Wt):Bool:=HT.lexLt (kf x.1) (kf y.1)
theorem C7 (kf:Wg->List Int):bY (byKey kf):=⟨λ_ _ h=>rB h,λ_ y _ h=>vM (kf y.1) h⟩
section
variable {prog:Wq}{w:WC}{A:Xg}{E:Wg->Wi->Prop}{s:Wi}
theorem rA {b:Bool}{Q:Bool->Wi->Prop}:∀{ns ms:List Int} {us vs:List Wg} (i:Nat),YF us ns->YF vs ms->Q (HT.lexLt ns ms) s->PySem.W.KatLex prog w A b (decide (ns.length<ms.length)) Q (us.zip vs) i s
 |[],ms,us,vs,i,hu,hv,q=>by
  cases hu;rw[List.zip_nil_left];rw[lex_nil]at q;exact PySem.W.kat_nil q
 |n::ns,[],us,vs,i,hu,hv,q=>by
  cases hv;rw[List.zip_nil_right];exact PySem.W.kat_nil q
 |n::ns,m::ms,us,vs,i,hu,hv,q=>by
  cases hu with
  |cons _ t hu =>
   cases hv with
   |cons _ t' hv =>
    rw[List.zip_cons_cons];refine PySem.W.kat_cons (wpAny_eqBool_int ?_);rw[jg]at q
    by_cases e:n=m
    ·subst e;rw[if_pos rfl]at q;rw[beq_self_eq_true];have:=rA (b:=b) (Q:=Q) (i+1) hu hv q;rw[show decide ((n::ns).length<(n::ms).length)=decide (ns.length<ms.length) by rw[Wz,Wz];congr 1;simp]
     exact PySem.W.kat_yes this
    ·rw[if_neg e]at q;rw[show (n==m)=false from beq_eq_false_iff_ne.mpr e]
     refine PySem.W.kat_no ?_;cases b&&i==0 with
     |true=>exact oneLt_int q
     |false=>exact PySem.W.kat_one _ _ (lt_int q)
def m8 (h:Heap)(kf:Wg->List Int)(a:Addr)(vs:List Wg):Prop :=
 ∀v∈vs,∃t o xs k,v=.ref t/\t≠a/\h.get? t=some o/\o.cls=.type "tuple" /\ o.data=.seq xs k/\YF xs.toList (kf v)/\kf v≠[]
theorem xi {kf:Wg->List Int}{a:Addr}{vs:List Wg}{b:Bool}{a₀:Array Wt}(T:m8 s.heap kf a vs)(hm:∀z∈a₀.toList,z.1∈vs):fF prog w A E s (tuples' b) (byKey kf) (·∈a₀.toList):=by
 intro x y st Q hx hy hk q;obtain⟨t,o,xs,n,e1,_,e2,_,e3,e4,_⟩:=T _ (hm _ hx);obtain⟨t',o',Tp,n',f1,_,f2,_,f3,f4,_⟩:=T _ (hm _ hy);rw[lt'_eq];refine Wy (ZM ?_);rw[hk,e1,f1];have z1:xs.size=(kf x.1).length:=by rw[<- Wr];exact e4.length
 have z2:Tp.size=(kf y.1).length:=by rw[<- Wr];exact f4.length
 refine Wy (wpS_lift (ZW (PySem.W.kat_lt e2 e3 f2 f3 ?_)));rw[z1,z2];exact rA 0 e4 f4 ⟨rfl,WE q⟩
theorem lh {kf:Wg->List Int}{a:Addr}{h:Heap}:∀{vs:List Wg},m8 h kf a vs->∃fs:List Wg,PySem.W.KatTups h vs fs/\fs.length=vs.length/\∀f∈fs,∃n t,f=Value.int n t
 |[],_=>⟨[],trivial,rfl,λf hf=>by cases hf⟩
 |v::vs,T=>by
  obtain⟨fs,h1,h2,h3⟩:=lh (vs:=vs) λu hu=>T u (Wm _ hu);obtain⟨t,o,xs,k,rfl,_,e2,e3,e4,e5,e6⟩:=T v Wo;obtain⟨f,r,ef,n,tk,hn⟩:∃f r,xs.toList=f::r/\∃n tk,f=Value.int n tk:=by
   generalize kf (.ref t)=ks at e5 e6;generalize xs.toList=us at e5;cases e5 with
   |nil=>exact absurd rfl e6
   |cons n tk r=>exact⟨_,_,rfl,_,_,rfl⟩
  have e:xs[0]?=some f:=by rw[<- WM,ef];rfl
  exact⟨f::fs,PySem.W.KatTups.cons e2 e3 e4 e h1,by rw[Wz,Wz,h2],λg hg=>by
   rcases Ws.mp hg with rfl|hg
   ·exact⟨_,_,hn⟩
   ·exact h3 g hg⟩
theorem xn {kf:Wg->List Int}{a:Addr}{vs:List Wg}{Q:Y3->Wi->Prop}(T:m8 s.heap kf a vs)(h0:0<vs.length)(q:Q (tuples' true) s):WT (model prog w) A (keyKind' vs.toArray) Q E s:=by
 obtain⟨fs,h1,h2,h3⟩:=lh T;refine PySem.W.kat_kind (T:=.type "int") h1 (by lia) (λv hv=>?_) (by decide) q
 obtain⟨n,t,rfl⟩:=h3 v hv;exact .now
theorem yI {α:Type}{R:α->α->Prop}:∀{l:List α},l.length<2->l.Pairwise R
 |[],_=>.nil
 |[x],_=>Z9 _ _
 |_::_::_,h=>by
  rw[Wz,Wz]at h;lia
theorem uj {a:Addr} {vs:List Wg} {n:Nat} {κ:Y3} {c:Wg->Wg->Bool} {P:PySem.Fin->Wi->Prop} (ho:s.heap.get? a=some (Yz "list" vs.toArray n)) (hz:vs.length<=1000000) (O:bY λx y=>c x.1 y.1)
  (T:∀s':Wi,(∀t o,t≠a->s.heap.get? t=some o->s'.heap.get? t=some o)->(2<=vs.length->∀(Q:Y3->Wi->Prop),Q κ s'->WT (model prog w) A (keyKind' vs.toArray) Q E s')/\fF prog w A E s' κ (λx y=>c x.1 y.1) (·∈(vs.toArray.zip vs.toArray).toList))
  (h:∀out:List Wg,out.Perm vs->out.Pairwise (λx y=>c y x=false)->P (.done (.ret .none)) {s with heap:=sortedHeap s.heap a vs out.toArray}) :
  WT (model prog w) A (Yb.«list.sort» ⟨[.ref a],[]⟩) P E s:=by
 have la:a<s.heap.objs.size:=WB ho;obtain⟨ep,hc⟩:∃ep,(s.heap.update a (YT λ_=>#[])).get? a=some (Yz "list" #[] ep):=⟨_,get?_update_seq ho (λ_=>#[])⟩;have old:∀t o,t≠a->s.heap.get? t=some o->(((s.heap.update a (YT λ_=>#[])).push (Yz "tuple" vs.toArray 0)).push (Yz "list" #[] 0)).get? t=some o:=λt o ht e =>
  Ww _ (Ww _ (by rw[Heap.get?_update_ne _ _ _ _ ht];exact e))
 have x9:(((s.heap.update a (YT λ_=>#[])).push (Yz "tuple" vs.toArray 0)).push (Yz "list" #[] 0)).get? a=some (Yz "list" #[] ep):=Ww _ (Ww _ hc);have big:∀m:Nat,m<=vs.length->m<=WA:=λm hm=>by rw[WY];lia
 have zz:vs.toArray.size=vs.length:=by simp
 rw[list_sort_plain];refine Wh (listItems_at ho rfl ?_);refine Wh (listUpdate_at ho rfl ?_ (big _ (Nat.le_of_eq zz)) (WJ _));refine Wh (seqEpoch_at hc rfl ?_);refine Wh (wpAny_newTuple ?_ (big _ (Wl _)));refine Wh (wpAny_newList ?_ (WJ _));refine Xv ?_;show WT (model prog w) A _ P E {s with heap:=((s.heap.update a (YT λ_=>#[])).push (Yz "tuple" vs.toArray 0)).push (Yz "list" #[] 0)}
 dsimp only;have done:∀aF:WV,(W4 aF).Perm (vs.toArray.zip vs.toArray)->(W4 aF).toList.Pairwise (le λx y=>c x.1 y.1)->P (.done (.ret .none)) {s with heap:=sortedHeap s.heap a vs ((W4 aF).map (·.2))}:=λaF hp hs=>by
  have h1:∀z∈(W4 aF).toList,z.1=z.2:=λz hz=>by
   have:=(YX.mp hp).mem_iff.mp hz;rw[Array.toList_zip]at this;obtain⟨i,hi⟩:=YU this;rw[List.getElem?_zip_eq_some]at hi;exact WR (hi.1.symm.trans hi.2)
  have e2:(W4 aF).map (·.2)=((W4 aF).toList.map (·.2)).toArray:=by
   apply Array.toList_inj.mp;rw[Array.toList_map]
  rw[e2];refine h _ ?_ ?_
  ·have:=(YX.mp hp).map (λz:Wt=>z.2);rw[Array.toList_zip]at this;refine this.trans (List.Perm.of_eq ?_);exact List.map_snd_zip (by simp)
  ·rw[Zg];refine hs.imp_of_mem λ{x y} hx hy hl=>?_;rw[<- h1 x hx,<- h1 y hy];exact hl
 by_cases h2:vs.toArray.size<2
 ·rw[if_pos h2,if_pos h2];refine Wh (Wu ?_);rw[StateT.run_pure];refine Wh (Wu ?_);dsimp only;refine Wh (seqEpoch_at x9 rfl ?_);refine Wh (listUpdate_at x9 rfl ?_ (WJ _) (by rw[Array.size_map,Array.size_zip];exact W8 (big _ (by lia)) (Nat.le_succ _)))
  simp only[bne_self_eq_false,Y_,if_false];refine Wu (done (SortSt.mk' general' (vs.toArray.zip vs.toArray) #[] 7 none) (Array.Perm.refl _) ?_);refine yI ?_;show (vs.toArray.zip vs.toArray).toList.length<2;rw[Wr,Array.size_zip];lia
 ·rw[if_neg h2,if_neg h2];obtain⟨hK,L⟩:=T {s with heap:=((s.heap.update a (YT λ_=>#[])).push (Yz "tuple" vs.toArray 0)).push (Yz "list" #[] 0)} old
  refine Wh (hK (by lia) _ ?_)
  have zp:(vs.toArray.zip vs.toArray).size=vs.length:=by rw[Array.size_zip];lia
  refine Wh (YC (qq (Q:=λ_ aF=>(W4 aF).Perm (vs.toArray.zip vs.toArray)/\Zd aF=none/\SR (λx y=>c x.1 y.1) (W4 aF) 0 vs.length) O L
   (st:=SortSt.mk' κ (vs.toArray.zip vs.toArray) #[] 7 none) ⟨rfl,rfl,Array.Perm.refl _⟩ rfl (by lia) λaF g1 g2=>⟨g1.perm,g1.fail,by rw[zp]at g2;exact g2⟩) ?_ λ_ _ e=>e)
  rintro⟨⟨⟩,aF⟩ s' ⟨rfl,hp,hf,hs⟩;dsimp only;have zs:(W4 aF).size=vs.length:=hp.size_eq.trans zp;refine Wh (seqEpoch_at x9 rfl ?_);refine Wh (listUpdate_at x9 rfl ?_ (WJ _) (by rw[Array.size_map,zs];exact W8 (big _ (Wl _)) (Nat.le_succ _)))
  rw[hf];simp only[bne_self_eq_false,Y_,if_false];refine Wu (done aF hp ?_);rw[Yr];intro i j hi hj aQ;rw[Wr]at hi hj;have:=hs i j (WJ _) (by lia) (by lia)
  have ei:el (W4 aF) i=(W4 aF).toList[i]:=v8 (by rw[<- WM];exact Wv _)
  have ej:el (W4 aF) j=(W4 aF).toList[j]:=v8 (by rw[<- WM];exact Wv _)
  rw[ei,ej]at this;exact this
theorem lW {a:Addr} {vs:List Wg} {n:Nat} {kf:Wg->List Int} {P:PySem.Fin->Wi->Prop} (ho:s.heap.get? a=some (Yz "list" vs.toArray n)) (hz:vs.length<=1000000) (T:m8 s.heap kf a vs)
  (h:∀out:List Wg,out.Perm vs->out.Pairwise (λx y=>HT.lexLt (kf y) (kf x)=false)->P (.done (.ret .none)) {s with heap:=sortedHeap s.heap a vs out.toArray}) :
  WT (model prog w) A (Yb.«list.sort» ⟨[.ref a],[]⟩) P E s:=by
 refine uj (κ:=tuples' true) (c:=λx y=>HT.lexLt (kf x) (kf y)) ho hz (C7 kf) (λs' kp=>?_) h;have T':m8 s'.heap kf a vs:=λv hv=>by
  obtain⟨t,o,xs,k,e1,e2,e3,r⟩:=T v hv;exact⟨t,o,xs,k,e1,e2,kp t o e2 e3,r⟩
 exact⟨λh2 Q q=>xn T' (by lia) q,xi T' λz hz=>by
  rw[Array.toList_zip]at hz;exact(Zv hz).1⟩
end
end TS
namespace ST
open PySem PyProof.Rows
section
variable {prog:Wq}{w:WC}{A:Xg}{E:Wg->Wi->Prop}{s:Wi}
abbrev TK (prog:Wq)(w:WC):=tupleKind (intKind prog w)
abbrev kH (prog:Wq)(w:WC)(k:List Int):Int:=(TK prog w).hash k
abbrev ent (prog:Wq)(w:WC)(x:Addr×List Int):Int×Wg:=(kH prog w x.2,.ref x.1)
structure e9 {α β:Type}(w:WC)(en:α->Int×Wg)(hk:α->Int)(ky:α->β)(o:Obj)(ts:List α)(es:Array (Int×Wg))(ep:Nat)(t:SetTable):Prop where
 ex:o.ExactSet
 dat:o.data=.set es ep t
 Jg:es.toList=ts.map en
 wf:WF t (ts.map hk)
 N_:t.place.size*5<t.mask*3
 Fg:t.mask<=8191
 led:t.led=!w.params.followText "set-order"
 JH:t.plain=true
 Lj:(ts.map ky).Nodup
abbrev kO (prog:Wq)(w:WC):=e9 w (ent prog w) (λx=>kH prog w x.2) (λx=>x.2)
def Jz (prog:Wq)(w:WC)(h:Heap)(ts:List (Addr×List Int)):Prop:=∀x∈ts,(TK prog w).is h x.2 x.1
section
variable {α β:Type}{en:α->Int×Wg}{hk:α->Int}{ky:α->β}{ts:List α}{o:Obj}{es:Array (Int×Wg)}{ep:Nat}{t:SetTable}
theorem e9.fits (S:e9 w en hk ky o ts es ep t):t.fits es.size=true:=by
 have h1:=S.wf.sz;have h2:es.size=ts.length:=by rw[<- Wr,S.Jg,Wj]
 rw[Wj]at h1;unfold SetTable.fits SetTable.fill;rw[S.wf.JV,h2,h1];have:=S.N_;simp;lia
theorem e9.size (S:e9 w en hk ky o ts es ep t):es.size=ts.length/\t.place.size=ts.length:=by
 have h1:=S.wf.sz;rw[Wj]at h1;exact⟨by rw[<- Wr,S.Jg,Wj],h1⟩
end
theorem xN (d:Nat)(n:Int)(tk:Tok):ofAClassStatement d (.int n tk)=pure false:=by
 cases d <;> rfl
theorem qt {k:List Int}{b:Addr}{Q:Bool->Wi->Prop}(hk:(TK prog w).is s.heap k b)(q:Q false s):WT (model prog w) A (ofAClassStatement 8 (.ref b)) Q E s:=by
 obtain⟨o,items,n,ho,hc,hd,hi⟩:=hk;have hT:s.TypeIs (.ref b) "tuple" := ⟨o,ho,hc⟩;unfold ofAClassStatement;refine Wh (wpAny_typeOf hT ?_);dsimp only;rw[if_pos (by rfl)]
 refine Wh (Wu ?_);rw[if_neg (by simp)]
 refine Wh (wpAny_seqItems ho hd ?_);dsimp only;rw[<- Array.forIn_toList];refine Wh (Z5 _ (λrest r s'=>r=(none,())/\s'=s/\∀v∈rest,∃n tk,v=Value.int n tk) _ ?_ ?_ _ _ ⟨rfl,rfl,?_⟩)
 ·rintro v rest r s' ⟨rfl,rfl,mX⟩;obtain⟨n,tk,rfl⟩:=mX v Wo;rw[xN];refine Wh (Wu ?_);rw[if_neg (by simp)]
  exact Wu ⟨rfl,rfl,λu hu=>mX u (Wm _ hu)⟩
 ·rintro r s' ⟨rfl,rfl,_⟩;exact Wu q
 ·generalize items.toList=vs at hi
  induction hi with
  |nil=>intro v hv;cases hv
  | @cons k v ks vs h1 h2 ih =>
   intro u hu;rcases Ws.mp hu with rfl|hu
   ·obtain⟨t,rfl⟩:=Value.isInt_shape h1;exact⟨_,_,rfl⟩
   ·exact ih u hu
theorem Cj {k:List Int}{b:Addr}(hk:(TK prog w).is s.heap k b)(l:List (Addr×List Int)){Q:Bool->Wi->Prop}(T:Jz prog w s.heap l)(q:Q false s):WT (model prog w) A (searchCouldBeSeen (.ref b) (l.map λx=>Value.ref x.1)) Q E s:=by
 unfold searchCouldBeSeen;refine Wh (Z5 _ (λrest r s'=>r=(none,())/\s'=s/\∀v∈rest,∃x∈l,v=Value.ref x.1) _ ?_ ?_ _ _ ⟨rfl,rfl,?_⟩)
 ·rintro v rest r s' ⟨rfl,rfl,mX⟩;obtain⟨x,hx,rfl⟩:=mX v Wo;have Fx:∀v∈rest,∃x∈l,v=Value.ref x.1:=λu hu=>mX u (Wm _ hu);dsimp only
  split
  ·exact Wu ⟨rfl,rfl,Fx⟩
  ·refine Wh ((TK prog w).quiet hk ?_);rw[if_neg (by simp)]
   refine Wh ((TK prog w).quiet (T x hx) ?_);rw[if_neg (by simp)]
   refine Wh (qt hk ?_);rw[if_neg (by simp)]
   refine Wh (qt (T x hx) ?_);rw[if_neg (by simp)]
   exact Wu ⟨rfl,rfl,Fx⟩
 ·rintro r s' ⟨rfl,rfl,_⟩;exact Wu q
 ·intro v hv;obtain⟨x,hx,rfl⟩:=WX.mp hv;exact⟨x,hx,rfl⟩
end
end ST
namespace L2
open PySem PySem.Spec PyProof.Rows
inductive D where
 |bE|bl (b:Bool)|int (i:Int)|str (x:Str)|obj (a:Addr)
 |tup (ds:List D)|lst (ds:List D)
 |dT (ks:List (List Key)) (ds:List D)|dK (ks:List Key) (ds:List D)
 |sT (ts:List (List Int))
 |ob (φ:Addr->HO)
def GA (P:Wq)(w:WC)(a:Addr)(ts:List (Addr×List Int))(h:Heap):Prop:=∃o es ep t,h.get? a=some o/\ST.kO P w o ts es ep t
abbrev gy (P:Wq)(w:WC)(a:Addr)(ts:List (Addr×List Int)):HO:=.ext (GA P w a ts)
def EM (P:Wq)(w:WC)(H:Hp)(a:Addr)(ts:List (List Int)):Prop :=
 ∃bA:List (Addr×List Int),H a=some (gy P w a bA)/\(∀x∈bA,H x.1=some (.tup (x.2.map V.int)))/\(bA.map (·.2)).Perm ts
section
variable (P:Wq)(w:WC)(W:Addr->Prop)(H:Hp)
mutual
def aD:D->V->Prop
 |.bE,v=>v=.bE
 |.bl b,v=>v=.bl b
 |.int i,v=>v=.int i
 |.str x,v=>v=.str x
 |.obj a,v=>v=.ref a
 |.tup ds,v=>∃a vs,v=.ref a/\H a=some (.tup vs)/\ao ds vs
 |.lst ds,v=>∃a vs,v=.ref a/\H a=some (.lst vs)/\¬ W a/\ao ds vs
 |.dT ks ds,v=>∃a vs,v=.ref a/\H a=some (.dT (ks.zip vs))/\ks.length=vs.length/\¬ W a/\ao ds vs
 |.dK ks ds,v=>∃a vs,v=.ref a/\H a=some (.dK (ks.zip vs))/\ks.length=vs.length/\¬ W a/\ao ds vs
 |.sT ts,v=>∃a,v=.ref a/\EM P w H a ts/\¬ W a
 |.ob φ,v=>∃a,v=.ref a/\(H a=some (φ a)/\∀xs,φ a≠.tup xs)/\¬ W a
def ao:List D->List V->Prop
 |[],vs=>vs=[]
 |d::ds,vs=>∃v r,vs=v::r/\aD d v/\ao ds r
end
end
mutual
def D.flat:D->Bool
 |.tup ds=>D.bJ ds
 |.lst _=>false
 |.dT _ _=>false
 |.dK _ _=>false
 |.sT _=>false
 |.ob _=>false
 |_=>true
def D.bJ:List D->Bool
 |[]=>true
 |d::ds=>D.flat d&&D.bJ ds
end
structure Kp (W:Addr->Prop)(H H':Hp):Prop where
 out:∀b o,H b=some o->¬ W b->H' b=some o
 tup:∀b xs,H b=some (.tup xs)->H' b=some (.tup xs)
theorem Kp.refl {W:Addr->Prop}{H:Hp}:Kp W H H:=⟨λ_ _ e _=>e,λ_ _ e=>e⟩
theorem Kp.trans {W:Addr->Prop}{H H1 H2:Hp}(a:Kp W H H1)(b:Kp W H1 H2):Kp W H H2:=⟨λc o e n=>b.out c o (a.out c o e n) n,λc xs e=>b.tup c xs (a.tup c xs e)⟩
theorem ay.kp {W:Addr->Prop}{H H':Hp}(h:ay H H'):Kp W H H':=⟨λb o e _=>h b o e,λb xs e=>h b _ e⟩
theorem Kp.mono {W W':Addr->Prop}{H H':Hp}(h:Kp W H H')(s:∀a,W a->W' a):Kp W' H H':=⟨λb o e n=>h.out b o e λz=>n (s b z),h.tup⟩
section
variable {P:Wq}{w:WC}{W W':Addr->Prop}{H H':Hp}
mutual
theorem aD.keep (k:Kp W H H'):∀{d:D} {v:V},aD P w W H d v->aD P w W H' d v
 |.bE,_,h=>h
 |.bl _,_,h=>h
 |.int _,_,h=>h
 |.str _,_,h=>h
 |.obj _,_,h=>h
 |.tup ds,_,l_=>by obtain⟨a,vs,e,t,r⟩:=l_;exact⟨a,vs,e,k.tup a vs t,ao.keep k r⟩
 |.lst ds,_,Am=>by obtain⟨a,vs,e,t,n,r⟩:=Am;exact⟨a,vs,e,k.out a _ t n,n,ao.keep k r⟩
 |.dT ks ds,_,Al=>by obtain⟨a,vs,e,t,l,n,r⟩:=Al;exact⟨a,vs,e,k.out a _ t n,l,n,ao.keep k r⟩
 |.dK ks ds,_,DQ=>by obtain⟨a,vs,e,t,l,n,r⟩:=DQ;exact⟨a,vs,e,k.out a _ t n,l,n,ao.keep k r⟩
 |.sT ts,_,Ic=>by obtain⟨a,e,⟨bA,t,r,z⟩,n⟩:=Ic;exact⟨a,e,⟨bA,k.out a _ t n,λx hx=>k.tup _ _ (r x hx),z⟩,n⟩
 |.ob φ,_,LF=>by obtain⟨a,e,⟨t,z⟩,n⟩:=LF;exact⟨a,e,⟨k.out a _ t n,z⟩,n⟩
theorem ao.keep (k:Kp W H H'):∀{ds:List D} {vs:List V},ao P w W H ds vs->ao P w W H' ds vs
 |[],_,h=>h
 |d::ds,_,LD=>by obtain⟨v,r,e,h1,h2⟩:=LD;exact⟨v,r,e,aD.keep k h1,ao.keep k h2⟩
end
mutual
theorem aD.a7 (s:∀a,W' a->W a):∀{d:D} {v:V},aD P w W H d v->aD P w W' H d v
 |.bE,_,h=>h
 |.bl _,_,h=>h
 |.int _,_,h=>h
 |.str _,_,h=>h
 |.obj _,_,h=>h
 |.tup ds,_,PH=>by obtain⟨a,vs,e,t,r⟩:=PH;exact⟨a,vs,e,t,ao.a7 s r⟩
 |.lst ds,_,PF=>by obtain⟨a,vs,e,t,n,r⟩:=PF;exact⟨a,vs,e,t,λz=>n (s a z),ao.a7 s r⟩
 |.dT ks ds,_,Iu=>by obtain⟨a,vs,e,t,l,n,r⟩:=Iu;exact⟨a,vs,e,t,l,λz=>n (s a z),ao.a7 s r⟩
 |.dK ks ds,_,Ir=>by obtain⟨a,vs,e,t,l,n,r⟩:=Ir;exact⟨a,vs,e,t,l,λz=>n (s a z),ao.a7 s r⟩
 |.sT ts,_,Iq=>by obtain⟨a,e,t,n⟩:=Iq;exact⟨a,e,t,λz=>n (s a z)⟩
 |.ob φ,_,Ip=>by obtain⟨a,e,t,n⟩:=Ip;exact⟨a,e,t,λz=>n (s a z)⟩
theorem ao.a7 (s:∀a,W' a->W a):∀{ds:List D} {vs:List V},ao P w W H ds vs->ao P w W' H ds vs
 |[],_,h=>h
 |d::ds,_,Io=>by obtain⟨v,r,e,h1,h2⟩:=Io;exact⟨v,r,e,aD.a7 s h1,ao.a7 s h2⟩
end
mutual
theorem aD.flat:∀{d:D} {v:V},d.flat=true->aD P w W H d v->aD P w W' H d v
 |.bE,_,_,h=>h
 |.bl _,_,_,h=>h
 |.int _,_,_,h=>h
 |.str _,_,_,h=>h
 |.obj _,_,_,h=>h
 |.tup ds,_,f,Im=>by obtain⟨a,vs,e,t,r⟩:=Im;exact⟨a,vs,e,t,ao.flat (by simpa[D.flat] using f) r⟩
 |.lst ds,_,f,_=>by simp[D.flat]at f
 |.dT ks ds,_,f,_=>by simp[D.flat]at f
 |.dK ks ds,_,f,_=>by simp[D.flat]at f
 |.sT ts,_,f,_=>by simp[D.flat]at f
 |.ob φ,_,f,_=>by simp[D.flat]at f
theorem ao.flat:∀{ds:List D} {vs:List V},D.bJ ds=true->ao P w W H ds vs->ao P w W' H ds vs
 |[],_,_,h=>h
 |d::ds,_,f,Il=>by
  obtain⟨v,r,e,h1,h2⟩:=Il;have f':(d.flat&&D.bJ ds)=true:=f;rw[Xi]at f';exact⟨v,r,e,aD.flat f'.1 h1,ao.flat f'.2 h2⟩
end
theorem aD.same (s:ay H H'){d:D}{v:V}(h:aD P w W H d v):aD P w W H' d v:=h.keep s.kp
theorem ao.same (s:ay H H'){ds:List D}{vs:List V}(h:ao P w W H ds vs):ao P w W H' ds vs:=h.keep s.kp
theorem ao.length:∀{ds:List D} {vs:List V},ao P w W H ds vs->vs.length=ds.length
 |[],_,h=>by rw[show _=[] from h];rfl
 |d::ds,_,Ik=>by obtain⟨v,r,e,h1,h2⟩:=Ik;rw[e,Wz,Wz,ao.length h2]
theorem ao.get:∀{ds:List D} {vs:List V} {i:Nat} {d:D},ao P w W H ds vs->ds[i]?=some d->∃v,vs[i]?=some v/\aD P w W H d v
 |[],_,_,_,_,e=>by simp at e
 |d::ds,_,0,_,Ij,e'=>by obtain⟨v,r,e,h1,h2⟩:=Ij;simp at e';subst e' e;exact⟨v,by simp,h1⟩
 |d::ds,_,i+1,_,Ii,e'=>by
  obtain⟨v,r,e,h1,h2⟩:=Ii;subst e;obtain⟨u,e1,e2⟩:=ao.get (i:=i) h2 (by simpa using e')
  exact⟨u,by simpa using e1,e2⟩
theorem ao.append:∀{ds ds':List D} {vs vs':List V},ao P w W H ds vs->ao P w W H ds' vs'->ao P w W H (ds++ds') (vs++vs')
 |[],_,_,_,h,h'=>by rw[show _=[] from h];exact h'
 |d::ds,_,_,_,Ih,h'=>by obtain⟨v,r,e,h1,h2⟩:=Ih;subst e;exact⟨v,_,rfl,h1,ao.append h2 h'⟩
theorem ao.take:∀{ds:List D} {vs:List V} (n:Nat),ao P w W H ds vs->ao P w W H (ds.take n) (vs.take n)
 |[],_,n,h=>by rw[show _=[] from h];simp[ao]
 |d::ds,_,0,_=>by simp[ao]
 |d::ds,_,n+1,Ig=>by obtain⟨v,r,e,h1,h2⟩:=Ig;subst e;exact⟨v,_,rfl,h1,ao.take n h2⟩
theorem ao.drop:∀{ds:List D} {vs:List V} (n:Nat),ao P w W H ds vs->ao P w W H (ds.drop n) (vs.drop n)
 |[],_,n,h=>by rw[show _=[] from h];simp[ao]
 |d::ds,_,0,h=>h
 |d::ds,_,n+1,Ie=>by obtain⟨v,r,e,h1,h2⟩:=Ie;subst e;exact ao.drop n h2
end
open PySem.SeqAt
abbrev Dm (W:Addr->Prop)(H:Hp):Prop:=∀a,W a->H a≠none
abbrev Rp (X:Cx)(W:Addr->Prop)(H:Hp)(d:D)(v:V):Prop:=aD X.prog X.w W H d v
abbrev mI (X:Cx)(W:Addr->Prop)(H:Hp)(ds:List D)(vs:List V):Prop:=ao X.prog X.w W H ds vs
def R4 (X:Cx)(f:D->Option D):V->Hp->VK->Prop:=λx H Q=>∃W d1 d,Dm W H/\Rp X W H d1 x/\f d1=some d/\∀v H',ay H H'->Rp X W H' d v->Q v H'
def R1 (X:Cx)(f:D->D->Option D):R2:=λx y H Q=>∃W d1 d2 d,Dm W H/\Rp X W H d1 x/\Rp X W H d2 y/\f d1 d2=some d/\∀v H',ay H H'->Rp X W H' d v->Q v H'
def T6 (X:Cx)(f:List D->Option D):List V->Hp->VK->Prop:=λxs H Q=>∃W ds d,Dm W H/\mI X W H ds xs/\f ds=some d/\∀v H',ay H H'->Rp X W H' d v->Q v H'
abbrev bf (X:Cx)(f:Wg->Wg->Sem Wg)(g:D->D->Option D):Prop:=gZ X f (R1 X g)
abbrev aX (X:Cx)(f:Wg)(g:List D->Option D):Prop:=fN X f (T6 X g)
section
variable {X:Cx}{W:Addr->Prop}{H:Hp}
theorem vI {p:Addr}(d:Dm W H)(n:H p=none):¬ W p:=λz=>d p z n
theorem Rp.ir {p:Addr}{vs:List V}{ds:List D}(d:Dm W H)(n:H p=none)(r:mI X W H ds vs):Rp X W (upd H p (.lst vs)) (.lst ds) (.ref p) :=
 ⟨p,vs,rfl,aE,vI d n,r.same (ay.new n)⟩
theorem Rp.Gg {p:Addr}{vs:List V}{ds:List D}(n:H p=none)(r:mI X W H ds vs):Rp X W (upd H p (.tup vs)) (.tup ds) (.ref p) :=
 ⟨p,vs,rfl,aE,r.same (ay.new n)⟩
theorem mI.nil:mI X W H [] []:=rfl
theorem mI.cons {d:D}{ds:List D}{v:V}{vs:List V}(h:Rp X W H d v)(r:mI X W H ds vs):mI X W H (d::ds) (v::vs):=⟨v,vs,rfl,h,r⟩
end
def D.H9:D->Option Int
 |.int i=>some i
 |_=>none
def D.HZ:D->Option (List D)
 |.lst a=>some a
 |_=>none
def D.HY:D->Option (List D)
 |.tup a=>some a
 |_=>none
def D.Fp:D->Bool
 |.bE=>true
 |_=>false
theorem D.jj {d:D}{i:Int}(h:d.H9=some i):d=.int i:=by cases d <;> first|(cases h;rfl)|cases h
theorem D.l6 {d:D}{i:List D}(h:d.HZ=some i):d=.lst i:=by cases d <;> first|(cases h;rfl)|cases h
theorem D.l5 {d:D}{i:List D}(h:d.HY=some i):d=.tup i:=by cases d <;> first|(cases h;rfl)|cases h
theorem D.rJ {d:D}(h:d.Fp=true):d=.bE:=by cases d <;> first|rfl|cases h
theorem D.DJ {d:D}:d=.bE↔d.Fp=true:=⟨λe=>by rw[e];rfl,D.rJ⟩
def jP (f:Int->Int->Option D)(a b:D):Option D:=match a.H9,b.H9 with
 |some i,some j=>f i j
 |_,_=>none
theorem jO {f:Int->Int->Option D}{a b d:D}(h:jP f a b=some d):∃i j,a=.int i/\b=.int j/\f i j=some d:=by
 unfold jP at h;cases ha:a.H9 with
 |none=>rw[ha]at h;cases h
 |some i =>
  cases hb:b.H9 with
  |none=>rw[ha,hb]at h;cases h
  |some j=>rw[ha,hb]at h;exact⟨i,j,D.jj ha,D.jj hb,h⟩
def Hz (f:D->D->Option D)(g:List D->List D->Option D)(a b:D):Option D:=match a.HZ,b.HZ with
 |some i,some j=>g i j
 |_,_=>f a b
theorem xl {f:D->D->Option D}{g:List D->List D->Option D}{a b d:D}(h:Hz f g a b=some d):(∃i j,a=.lst i/\b=.lst j/\g i j=some d)\/f a b=some d:=by
 unfold Hz at h;cases ha:a.HZ with
 |none=>rw[ha]at h;exact .inr h
 |some i =>
  cases hb:b.HZ with
  |none=>rw[ha,hb]at h;exact .inr h
  |some j=>rw[ha,hb]at h;exact .inl ⟨i,j,D.l6 ha,D.l6 hb,h⟩
def Mt:D->D->Option D:=Hz (jP λi j=>some (.int (i+j))) λa b=>if a.length+b.length<=WA then some (.lst (a++b)) else none
def Rf:D->D->Option D:=jP λi j=>some (.int (i-j))
instance (i j:Int):Decidable (tv i j):=by unfold tv;infer_instance
instance (i j:Int):Decidable (BZ i j):=by unfold BZ;infer_instance
def Ml:D->D->Option D:=jP λi j=>if tv i j then some (.int (i*j)) else none
def Mm:D->D->Option D:=jP λi j=>if 0<j then some (.int (i % j)) else none
def Ms:D->D->Option D:=jP λi j=>if 0<j/\j<2 ^ 200 then some (.int (i / j)) else none
def Mk:D->D->Option D:=jP λi j=>if BZ i j then some (.int (i ^ j.toNat)) else none
def Ri:D->Option D
 |.int i=>some (.int (-i))
 |_=>none
section
variable {X:Cx}
theorem cc {c:Prop}[Decidable c]{α:Type}{a b:α}(h:(if c then some a else none)=some b):c/\b=a:=by
 by_cases hc:c
 ·rw[if_pos hc]at h;cases h;exact⟨hc,rfl⟩
 ·rw[if_neg hc]at h;cases h
theorem nH {f:Wg->Wg->Sem Wg}{C:Int->Int->Prop}{g:Int->Int->V}{h:Int->Int->D}{F:Int->Int->Option D}(ho:gZ X f (rI C g))(hF:∀i j d,F i j=some d->C i j/\d=h i j)
  (hg:∀(W:Addr->Prop) (H:Hp) i j,Rp X W H (h i j) (g i j)):bf X f (jP F):=by
 intro pins s σ H x y v u Q I rx ry hh;obtain⟨W,d1,d2,d,hd,r1,r2,e,q⟩:=hh;obtain⟨i,j,rfl,rfl,e⟩:=jO e;obtain⟨c,rfl⟩:=hF _ _ _ e;cases r1;cases r2;exact ho pins s σ H _ _ v u Q I rx ry ⟨i,j,rfl,rfl,c,q _ _ (ay.refl _) (hg W H i j)⟩
theorem zG {f:Wg->Wg->Sem Wg}{g:Int->Int->V}{h:Int->Int->D}(ho:gZ X f (yP g))
  (hg:∀(W:Addr->Prop) (H:Hp) i j,Rp X W H (h i j) (g i j)):bf X f (jP λi j=>some (h i j)):=by
 intro pins s σ H x y v u Q I rx ry hh;obtain⟨W,d1,d2,d,hd,r1,r2,e,q⟩:=hh;obtain⟨i,j,rfl,rfl,e⟩:=jO e;cases e;cases r1;cases r2;exact ho pins s σ H _ _ v u Q I rx ry ⟨i,j,rfl,rfl,q _ _ (ay.refl _) (hg W H i j)⟩
theorem pA:bf X (XZ .Sub) Rf:=zG (h:=λi j=>.int (i-j)) G7 λ_ _ _ _=>rfl
theorem pC:bf X (XZ .Mult) Ml:=nH (h:=λi j=>.int (i*j)) G_ (λ_ _ _ e=>cc e) λ_ _ _ _=>rfl
theorem gP:bf X (XZ .Mod) Mm:=nH (h:=λi j=>.int (i % j)) Ha (λ_ _ _ e=>cc e) λ_ _ _ _=>rfl
theorem Dc:bf X (XZ .FloorDiv) Ms:=nH (h:=λi j=>.int (i / j)) zE (λ_ _ _ e=>let ⟨c,e⟩:=cc e;⟨wz.of c.1 c.2,e⟩) λ_ _ _ _=>rfl
theorem pB:bf X (XZ .Pow) Mk:=nH (h:=λi j=>.int (i ^ j.toNat)) zD (λ_ _ _ e=>cc e) λ_ _ _ _=>rfl
theorem va:MI X (unaryOp .USub) (R4 X Ri):=by
 intro pins s σ H x v Q I rx h;obtain⟨W,d1,d,hd,r1,e,q⟩:=h;cases d1 with
 |int i=>cases e;cases r1;exact Gf pins s σ H _ v Q I rx ⟨i,rfl,q _ _ (ay.refl _) rfl⟩
 |_=>cases e
end
def uQ (p:Int->Int->Bool):D->D->Option D:=jP λi j=>some (.bl (p i j))
abbrev Rj:D->D->Option D:=uQ λi j=>decide (i<j)
abbrev Rk:D->D->Option D:=uQ λi j=>decide (i<=j)
abbrev Vr:D->D->Option D:=uQ λi j=>decide (j<i)
abbrev Vs:D->D->Option D:=uQ λi j=>decide (j<=i)
section
variable {X:Cx}
theorem i7 {p:Int->Int->Bool}{f:Wg->Wg->Sem Wg}(ho:gZ X f (yP λi j=>.bl (p i j))):bf X f (uQ p):=zG (h:=λi j=>.bl (p i j)) ho λ_ _ _ _=>rfl
theorem fu:bf X (Xm .Lt) Rj:=i7 K7
theorem uc:bf X (Xm .LtE) Rk:=i7 K8
theorem lQ:bf X (Xm .Gt) Vr:=i7 K9
theorem ud:bf X (Xm .GtE) Vs:=i7 Fc
end
mutual
def D.pd:D->PyData
 |.bE=>.none
 |.bl b=>.bool b
 |.int i=>.int i
 |.str x=>.str x
 |.tup ds=>.tuple (D.fQ ds)
 |.lst ds=>.list (D.fQ ds)
 |_=>.dict []
def D.fQ:List D->List PyData
 |[]=>[]
 |d::ds=>d.pd::D.fQ ds
end
abbrev D.ik (d:D):Bool:=shaped d.pd
mutual
theorem cw {X:Cx}{pins:List (Addr×Obj)}{σ:St}{H:Hp}{s:Wi}(I:Inv X pins σ H s){W:Addr->Prop}:∀{d:D} {v:V} {u:Wg},Rp X W H d v->RelV v u->d.pd.canLay0=true->∃as,Reads s.heap u d.pd as
 |.bE,_,_,h,r,_=>by cases h;cases r;exact⟨_,.none⟩
 |.bl b,_,_,h,r,_=>by cases h;cases r;exact⟨_,.bool b⟩
 |.int i,_,_,h,r,_=>by cases h;obtain⟨t,rfl⟩:=r;exact⟨_,.int i t⟩
 |.str x,_,_,h,r,_=>by cases h;obtain⟨t,rfl⟩:=r;exact⟨_,.str x t⟩
 |.tup ds,_,_,h,r,c=>by
  obtain⟨a,vs,rfl,e,q⟩:=h;cases r;obtain⟨its,rv,⟨o,ho,hc,n,hd⟩,hz⟩:=I.tuple (tE.of e);obtain⟨as,ha⟩:=fY I q rv (by simpa[D.pd,XH] using c)
  exact⟨_,.tuple ho hc hd (by simpa using ha)⟩
 |.lst ds,_,_,h,r,c=>by
  obtain⟨a,vs,rfl,e,_,q⟩:=h;cases r;obtain⟨z,its,n,rv,e'⟩:=I.bq a _ e;obtain⟨as,ha⟩:=fY I q rv (by simpa[D.pd,XH] using c)
  exact⟨_,.list e' rfl rfl (by simpa using ha)⟩
 |.obj _,_,_,_,_,c=>by simp[D.pd,XH]at c
 |.dT _ _,_,_,_,_,c=>by simp[D.pd,XH]at c
 |.dK _ _,_,_,_,_,c=>by simp[D.pd,XH]at c
 |.sT _,_,_,_,_,c=>by simp[D.pd,XH]at c
 |.ob _,_,_,_,_,c=>by simp[D.pd,XH]at c
theorem fY {X:Cx}{pins:List (Addr×Obj)}{σ:St}{H:Hp}{s:Wi}(I:Inv X pins σ H s){W:Addr->Prop}:∀{ds:List D} {vs:List V} {us:List Wg},mI X W H ds vs->Vals vs us->YN (D.fQ ds)=true->∃as,ReadsAll s.heap us (D.fQ ds) as
 |[],_,_,h,r,_=>by
  rw[show _=[] from h]at r
  cases r;exact⟨_,.nil⟩
 |d::ds,_,_,l_,r,c=>by
  obtain⟨v,vr,e,h1,h2⟩:=l_;subst e;have c':(d.pd.canLay0&&YN (D.fQ ds))=true:=c;rw[Xi]at c';cases r with
  |cons r1 r2 =>
   obtain⟨as,ha⟩:=cw I h1 r1 c'.1;obtain⟨bs,hb⟩:=fY I h2 r2 c'.2;exact⟨_,.cons ha hb⟩
end
def ya (a b:D):Option D:=if a.ik=true/\b.ik=true then some (.bl (Xf a.pd b.pd)) else none
def sA (a b:D):Option D:=if a.ik=true/\b.ik=true then some (.bl (!Xf a.pd b.pd)) else none
section
variable {X:Cx}
theorem b_ (hu:X.A.units+64<Za):bf X (Xm .Eq) ya:=by
 intro pins s σ H x y v u Q I rx ry h;obtain⟨W,d1,d2,d,hd,r1,r2,e,q⟩:=h;obtain⟨⟨s1,s2⟩,rfl⟩:=cc e;obtain⟨as,ra⟩:=cw I r1 rx (XJ s1);obtain⟨bs,rb⟩:=cw I r2 ry (XJ s2);exact compareEq_shaped ra rb s1 s2 hu ⟨.bl _,H,I,rfl,q _ _ (ay.refl _) rfl⟩
theorem cB (hu:X.A.units+64<Za):bf X (Xm .NotEq) sA:=by
 intro pins s σ H x y v u Q I rx ry h;obtain⟨W,d1,d2,d,hd,r1,r2,e,q⟩:=h;obtain⟨⟨s1,s2⟩,rfl⟩:=cc e;obtain⟨as,ra⟩:=cw I r1 rx (XJ s1);obtain⟨bs,rb⟩:=cw I r2 ry (XJ s2);exact compareNe_shaped ra rb s1 s2 hu ⟨.bl _,H,I,rfl,q _ _ (ay.refl _) rfl⟩
def Rl (a b:D):Option D:=match b.Fp with
 |true=>some (.bl a.Fp)
 |false=>none
theorem Rp.Du {W:Addr->Prop}{H:Hp}{d:D}{v:V}(h:Rp X W H d v):v=.bE↔d=.bE:=by
 cases d with
 |bE=>cases h;simp
 |bl b=>cases h;simp
 |int i=>cases h;simp
 |str x=>cases h;simp
 |obj a=>cases h;simp
 |tup ds=>obtain⟨a,vs,rfl,_⟩:=h;simp
 |lst ds=>obtain⟨a,vs,rfl,_⟩:=h;simp
 |dT ks ds=>obtain⟨a,vs,rfl,_⟩:=h;simp
 |dK ks ds=>obtain⟨a,vs,rfl,_⟩:=h;simp
 |sT ts=>obtain⟨a,rfl,_⟩:=h;simp
 |ob φ=>obtain⟨a,rfl,_⟩:=h;simp
theorem Ah {b d e:D}(h:(match b.Fp with|true=>some d|false=>none)=some e):b=.bE/\e=d:=by
 cases q:b.Fp with
 |true=>rw[q]at h;cases h;exact⟨D.rJ q,rfl⟩
 |false=>rw[q]at h;cases h
theorem Rp.Dv {W:Addr->Prop}{H:Hp}{d:D}{v:V}(h:Rp X W H d v):decide (v=.bE)=d.Fp:=by
 have q:=h.Du.trans D.DJ;cases e:d.Fp with
 |true=>exact decide_eq_true (q.mpr e)
 |false=>exact decide_eq_false λz=>by rw[q.mp z]at e;cases e
theorem i6:bf X (Xm .Is) Rl:=by
 intro pins s σ H x y v u Q I rx ry h;obtain⟨W,d1,d2,d,hd,r1,r2,e,q⟩:=h;obtain⟨rfl,rfl⟩:=Ah e;cases r2;exact Hc pins s σ H _ _ v u Q I rx ry ⟨rfl,q _ _ (ay.refl _) (congrArg V.bl r1.Dv)⟩
end
noncomputable def Mp:D->D->Option Bool
 |a,.lst ds=>if a.ik=true/\(D.lst ds).ik=true then some ((D.fQ ds).any λy=>Xf y a.pd) else none
 |a,.tup ds=>if a.ik=true/\(D.tup ds).ik=true then some ((D.fQ ds).any λy=>Xf y a.pd) else none
 |_,_=>none
def Mq (a b:D):Option D:=(Mp a b).map .bl
theorem vi {ds:List D}{n:PyData}(hn:n=.list (D.fQ ds)\/n=.tuple (D.fQ ds))(h:shaped n=true):YN (D.fQ ds)=true/\X8 (D.fQ ds)<=64:=by
 have h1:=XJ h;have h2:=depth_of_shaped h;rcases hn with rfl|rfl
 ·refine⟨by simpa[XH] using h1,?_⟩
  have:Xw (.list (D.fQ ds))=X8 (D.fQ ds)+1:=by simp[Xw]
  lia
 ·refine⟨by simpa[XH] using h1,?_⟩
  have:Xw (.tuple (D.fQ ds))=X8 (D.fQ ds)+1:=by simp[Xw]
  lia
section
variable {X:Cx}
theorem pD (hu:X.A.units+64+1<Za):bf X (Xm .In) Mq:=by
 intro pins s σ H x y v u Q I rx ry h;obtain⟨W,d1,d2,d,hd,r1,r2,e,q⟩:=h;cases d2 with
 |lst ds =>
  obtain⟨b,e1,rfl⟩:=WQ.mp e;obtain⟨⟨s1,s2⟩,rfl⟩:=cc e1;obtain⟨as,ra⟩:=cw I r1 rx (XJ s1);obtain⟨bs,rb⟩:=cw I r2 ry (XJ s2);obtain⟨c1,c2⟩:=vi (.inl rfl) s2;exact in_list_reads rb ra c1 (XJ s1) (by have:=Nat.min_le_left (X8 (D.fQ ds)) d1.pd.depth;lia) ⟨.bl _,H,I,rfl,q _ _ (ay.refl _) rfl⟩
 |tup ds =>
  obtain⟨b,e1,rfl⟩:=WQ.mp e;obtain⟨⟨s1,s2⟩,rfl⟩:=cc e1;obtain⟨as,ra⟩:=cw I r1 rx (XJ s1);obtain⟨bs,rb⟩:=cw I r2 ry (XJ s2);obtain⟨c1,c2⟩:=vi (.inr rfl) s2;exact in_tuple_reads rb ra c1 (XJ s1) (by have:=Nat.min_le_left (X8 (D.fQ ds)) d1.pd.depth;lia) ⟨.bl _,H,I,rfl,q _ _ (ay.refl _) rfl⟩
 |_=>cases e
def uO (a b:D):Option D:=match b.H9 with
 |some i=>match a.HZ with
  |some ds=>jy ds i
  |none=>match a.HY with
   |some ds=>jy ds i
   |none=>none
 |none=>none
theorem Bm {a b d:D}(h:uO a b=some d):∃ds i,(a=.lst ds\/a=.tup ds)/\b=.int i/\jy ds i=some d:=by
 unfold uO at h;cases hb:b.H9 with
 |none=>rw[hb]at h;cases h
 |some i =>
  rw[hb]at h;cases ha:a.HZ with
  |some ds=>rw[ha]at h;exact⟨ds,i,.inl (D.l6 ha),D.jj hb,h⟩
  |none =>
   rw[ha]at h;cases ht:a.HY with
   |some ds=>rw[ht]at h;exact⟨ds,i,.inr (D.l5 ht),D.jj hb,h⟩
   |none=>rw[ht]at h;cases h
theorem mI.jy {W:Addr->Prop}{H:Hp}{ds:List D}{vs:List V}{i:Int}{d:D}(h:mI X W H ds vs)(e:L2.jy ds i=some d):∃v,L2.jy vs i=some v/\Rp X W H d v:=by
 unfold L2.jy at *
 rw[h.length];cases q:qh ds.length i with
 |none=>rw[q]at e;cases e
 |some j =>
  rw[q]at e;exact ao.get h e
theorem HS:F0 X (R1 X uO):=by
 intro value slice pins s σ H x y v u Q I rx ry h hs;obtain⟨W,d1,d2,d,hd,r1,r2,e,q⟩:=h;obtain⟨ds,i,h,rfl,e⟩:=Bm e;cases r2;rcases h with rfl|rfl
 ·obtain⟨p,vs,rfl,h1,n1,q1⟩:=r1;obtain⟨z,hz,rz⟩:=mI.jy (X:=X) q1 e;exact DH value slice pins s σ H _ _ v u Q I rx ry ⟨p,vs,i,z,rfl,rfl,eC.of h1,hz,q _ _ (ay.refl _) rz⟩ hs
 ·obtain⟨p,vs,rfl,h1,q1⟩:=r1;obtain⟨z,hz,rz⟩:=mI.jy (X:=X) q1 e;exact HQ value slice pins s σ H _ _ v u Q I rx ry ⟨p,vs,i,z,rfl,rfl,tE.of h1,hz,q _ _ (ay.refl _) rz⟩ hs
def cutD (xs:List D)(lo hi:Option Int):List D:=(xs.drop (HT.fH xs.length 0 lo)).take (HT.fH xs.length xs.length hi-HT.fH xs.length 0 lo)
def Rh:D->Option Int->Option Int->Option D
 |.lst ds,lo,hi=>some (.lst (cutD ds lo hi))
 |_,_,_=>none
def En:List D->Option D
 |[.lst ds]=>some (.int ds.length)
 |[.tup ds]=>some (.int ds.length)
 |_=>none
theorem eZ:aX X (.builtin "len") En:=by
 intro pins s σ H xs us Q I r h;obtain⟨W,ds,d,hd,r1,e,q⟩:=h
 match ds,e with
 |[.lst es],e =>
  cases e;obtain⟨v,r',rfl,⟨p,vs,rfl,h1,n1,q1⟩,hr⟩:=r1;cases hr;refine js pins s σ H _ us Q I r ⟨p,vs,rfl,.inl (eC.of h1),?_⟩;rw[q1.length];exact q _ _ (ay.refl _) rfl
 |[.tup es],e =>
  cases e;obtain⟨v,r',rfl,⟨p,vs,rfl,h1,q1⟩,hr⟩:=r1;cases hr;refine js pins s σ H _ us Q I r ⟨p,vs,rfl,.inr (tE.of h1),?_⟩;rw[q1.length];exact q _ _ (ay.refl _) rfl
def dList:List D->Option D
 |[.lst ds]=>some (.lst ds)
 |[.tup ds]=>some (.lst ds)
 |_=>none
def Mo:List D->Option D
 |[.int i,.int j]=>some (.int (if j>i then j else i))
 |_=>none
def Mn:List D->Option D
 |[.int i,.int j]=>some (.int (if j<i then j else i))
 |_=>none
theorem BJ {W:Addr->Prop}{H:Hp}{a b:D}{xs:List V}(h:mI X W H [a,b] xs):∃x y,xs=[x,y]/\Rp X W H a x/\Rp X W H b y:=by
 obtain⟨x,r,rfl,hx,y,r',rfl,hy,hr⟩:=h;cases hr;exact⟨x,y,rfl,hx,hy⟩
theorem kA {W:Addr->Prop}{H:Hp}{a:D}{xs:List V}(h:mI X W H [a] xs):∃x,xs=[x]/\Rp X W H a x:=by
 obtain⟨x,r,rfl,hx,hr⟩:=h;cases hr;exact⟨x,rfl,hx⟩
theorem iE (hc:X.calm=true):aX X (.builtin "max") Mo:=by
 intro pins s σ H xs us Q I r h;obtain⟨W,ds,d,hd,r1,e,q⟩:=h
 match ds,e with
 |[.int i,.int j],e =>
  cases e;obtain⟨x,y,rfl,hx,hy⟩:=BJ r1;cases hx;cases hy;exact xR hc pins s σ H _ us Q I r ⟨i,j,rfl,q _ _ (ay.refl _) rfl⟩
theorem fC (hc:X.calm=true):aX X (.builtin "min") Mn:=by
 intro pins s σ H xs us Q I r h;obtain⟨W,ds,d,hd,r1,e,q⟩:=h
 match ds,e with
 |[.int i,.int j],e =>
  cases e;obtain⟨x,y,rfl,hx,hy⟩:=BJ r1;cases hx;cases hy;exact xQ hc pins s σ H _ us Q I r ⟨i,j,rfl,q _ _ (ay.refl _) rfl⟩
def Es:List D->Option D
 |[.int i]=>some (.int i)
 |[.bl k]=>some (.int (if k then 1 else 0))
 |_=>none
theorem jU:aX X (.type "int") Es:=by
 intro pins s σ H xs us Q I r h;obtain⟨W,ds,d,hd,r1,e,q⟩:=h
 match ds,e with
 |[.int i],e =>
  cases e;obtain⟨x,rfl,hx⟩:=kA r1;cases hx;exact oC pins s σ H _ us Q I r (.inl ⟨i,rfl,q _ _ (ay.refl _) rfl⟩)
 |[.bl k],e =>
  cases e;obtain⟨x,rfl,hx⟩:=kA r1;cases hx;exact oC pins s σ H _ us Q I r (.inr ⟨k,rfl,q _ _ (ay.refl _) rfl⟩)
end
theorem PE.pre {X:Cx}{e:Expr}{t t':TE}(h:PE X e t)(k:∀σ H Q,t' σ H Q->t σ H Q):PE X e t':=λpins s σ H Q I q=>h pins s σ H Q I (k σ H Q q)
theorem PT.pre {X:Cx}{e:Expr}{t t':TT}(h:PT X e t)(k:∀σ H Q,t' σ H Q->t σ H Q):PT X e t':=λpins s σ H Q I q=>h pins s σ H Q I (k σ H Q q)
theorem PA.pre {X:Cx}{es:List Expr}{t t':TA}(h:PA X es t)(k:∀σ H Q,t' σ H Q->t σ H Q):PA X es t':=λpos pins s σ H Q I q=>h pos pins s σ H Q I (k σ H Q q)
section
variable {X:Cx}{e:Expr}{σ:St}{H:Hp}
theorem PW.pre {t t':TT}(h:PW X e t)(k:∀σ H Q,t' σ H Q->t σ H Q):PW X e t':=λw pins s σ H Q I q=>h w pins s σ H Q I (k σ H Q q)
end
abbrev FD:=List D->(D->Prop)->Prop
def fE (F:FD):Prop:=∀ds R R',(∀d,R d->R' d)->F ds R->F ds R'
section
end
section
variable {X:Cx}{e:Expr}{pos:Pos}{σ:St}{H:Hp}
theorem FZ.pre {ops:List Zt}{rs:List Expr}{t t':V->TE}(h:FZ X ops rs t)(k:∀x σ H Q,t' x σ H Q->t x σ H Q):FZ X ops rs t':=λpos pins s σ H x v Q I r q=>h pos pins s σ H x v Q I r (k x σ H Q q)
theorem tq.pre {ops:List Zt}{rs:List Expr}{t t':V->TT}(h:tq X ops rs t)(k:∀x σ H Q,t' x σ H Q->t x σ H Q):tq X ops rs t':=λpos pins s σ H x v Q I r q=>h pos pins s σ H x v Q I r (k x σ H Q q)
theorem PO.pre {e:Option Expr}{t t':TO}(h:PO X e t)(k:∀σ H Q,t' σ H Q->t σ H Q):PO X e t':=λpins s σ H Q I q=>h pins s σ H Q I (k σ H Q q)
end
abbrev NF:D->Prop:=λd=>d.flat=true
section
abbrev NL:D->Prop:=λd=>match d with | .lst ds=>D.bJ ds=true|d=>d.flat=true
end
section
variable {P:Wq}{w:WC}{W W':Addr->Prop}{H:Hp}
mutual
theorem aD.grow (s:∀a,W' a->W a\/H a=none):∀{d:D} {v:V},aD P w W H d v->aD P w W' H d v
 |.bE,_,h=>h
 |.bl _,_,h=>h
 |.int _,_,h=>h
 |.str _,_,h=>h
 |.obj _,_,h=>h
 |.tup ds,_,l_=>by obtain⟨a,vs,e,t,r⟩:=l_;exact⟨a,vs,e,t,ao.grow s r⟩
 |.lst ds,_,Am=>by obtain⟨a,vs,e,t,n,r⟩:=Am;exact⟨a,vs,e,t,λz=>(s a z).elim n λq=>(by rw[t]at q;cases q),ao.grow s r⟩
 |.dT ks ds,_,Al=>by obtain⟨a,vs,e,t,l,n,r⟩:=Al;exact⟨a,vs,e,t,l,λz=>(s a z).elim n λq=>(by rw[t]at q;cases q),ao.grow s r⟩
 |.dK ks ds,_,DQ=>by obtain⟨a,vs,e,t,l,n,r⟩:=DQ;exact⟨a,vs,e,t,l,λz=>(s a z).elim n λq=>(by rw[t]at q;cases q),ao.grow s r⟩
 |.sT ts,_,Ic=>by obtain⟨a,e,⟨bA,t,r,z⟩,n⟩:=Ic;exact⟨a,e,⟨bA,t,r,z⟩,λz=>(s a z).elim n λq=>(by rw[t]at q;cases q)⟩
 |.ob φ,_,LF=>by obtain⟨a,e,⟨t,z⟩,n⟩:=LF;exact⟨a,e,⟨t,z⟩,λz=>(s a z).elim n λq=>(by rw[t]at q;cases q)⟩
theorem ao.grow (s:∀a,W' a->W a\/H a=none):∀{ds:List D} {vs:List V},ao P w W H ds vs->ao P w W' H ds vs
 |[],_,h=>h
 |d::ds,_,LD=>by obtain⟨v,r,e,h1,h2⟩:=LD;exact⟨v,r,e,aD.grow s h1,ao.grow s h2⟩
end
end
def VA (X:Cx)(W:Addr->Prop)(J:It)(ds:List D)(H0:Hp):Prop:=∀(i:Nat) (H:Hp),Kp W H0 H ->
 (∀d,ds[i]?=some d->J.go i H/\∀x H1,J.J6 i H x H1->ay H H1/\Rp X W H1 d x)/\(ds.length<=i->J.stop i H)
def Cg (X:Cx)(W:Addr->Prop)(J:It)(ds:List D)(H0:Hp):Prop:=∀W':Addr->Prop,(∀b,W' b->W b\/H0 b=none)->VA X W' J ds H0
section
variable {X:Cx}{tg e:Expr}
theorem PI.pre {iter:Expr}{t t':TI}(h:PI X tg iter t)(k:∀σ H R,t' σ H R->t σ H R):PI X tg iter t':=λpins s σ H R I q=>h pins s σ H R I (k σ H R q)
theorem rH {W:Addr->Prop}{H:Hp}{p:Addr}{vs:List V}{ds:List D}(h1:H p=some (.lst vs))(n1:¬ W p)(q1:mI X W H ds vs):Cg X W (Nw X.K p) ds H:=λW' hW i H' k=>by
 have h2:=k.out p _ h1 λz=>(hW p z).elim n1 λq=>by rw[h1]at q;cases q
 replace q1:=ao.grow hW q1;constructor
 ·intro d hd;obtain⟨v,hv,rv⟩:=ao.get q1 hd;refine⟨⟨vs,v,eC.of h2,hv⟩,λx H1 y=>?_⟩;obtain⟨rfl,y⟩:=y;have e:=y vs (eC.of h2);rw[hv]at e;cases e;exact⟨ay.refl _,rv.keep k⟩
 ·intro hl;exact⟨vs,eC.of h2,by rw[q1.length];exact hl⟩
def mR (lo:Int)(n:Nat):List D:=(Xd n).map λ(k:Nat)=>D.int (lo+(k:Int))
theorem nQ {W:Addr->Prop}{H:Hp}{lo:Int}{n:Nat}:Cg X W (MR lo n) (mR lo n) H:=λ_ _ i H' k=>by
 constructor
 ·intro d hd;unfold mR at hd;rw[WH]at hd;have hi:i<n:=by
   by_cases h:i<n
   ·exact h
   ·rw[XU (by simpa using h)]at hd;cases hd
  rw[Zx hi]at hd;cases hd;refine⟨hi,λx H1 y=>?_⟩;obtain⟨rfl,rfl⟩:=y;exact⟨ay.refl _,rfl⟩
 ·intro hl;unfold mR at hl;rw[Wj,Yg]at hl;exact hl
end
section
variable {X:Cx}{tg:Expr}{wG:List Expr}
theorem PG.pre {t t':TG}(h:PG X tg t)(k:∀v σ H Q,t' v σ H Q->t v σ H Q):PG X tg t':=λpins s σ H v u Q I r q=>h pins s σ H v u Q I r (k v σ H Q q)
theorem FY.pre {t t':FV}(h:FY X wG t)(k:∀v σ H Q,t' v σ H Q->t v σ H Q):FY X wG t':=λpins s σ H v u Q I r q=>h pins s σ H v u Q I r (k v σ H Q q)
end
theorem lY {H:Hp}{a:Addr}{o o':HO}(h:H a=some o)(ht:∀xs,o≠.tup xs):Kp (·=a) H (upd H a o') :=
 ⟨λb u e n=>by rw[aC n];exact e,λb xs e=>by rw[aC (Li e h (λz=>ht xs z.symm))];exact e⟩
section
end
section
end
section
end
section
variable {σ:St}{β:a_}{own:Nat->List Addr}
def aR (own:Nat->List Addr)(i:Nat)(as:List Addr):Nat->List Addr:=λj=>if j=i then as else own j
theorem bp {own:Nat->List Addr}{i j:Nat}{a:Addr}(h:a∈aR own i [] j):a∈own j/\j≠i:=by
 unfold aR at h
 by_cases e:j=i
 ·rw[if_pos e]at h;cases h
 ·rw[if_neg e]at h;exact⟨h,e⟩
theorem bu {α:Type}{β:List α}{i j:Nat}{x:α}(h:i≠j):(β.set i x)[j]?=β[j]?:=by rw[YO,if_neg h]
theorem bB {α:Type}{β:List α}{i:Nat}{x y:α}(h:(β.set i x)[i]?=some y):y=x/\i<β.length:=by
 rw[YO,if_pos rfl]at h
 by_cases hi:i<β.length
 ·rw[if_pos hi]at h;cases h;exact⟨rfl,hi⟩
 ·rw[if_neg hi]at h;cases h
theorem get_set {α:Type}{σ:List α}{i:Nat}{x:α}(h:i<σ.length):(σ.set i x)[i]?=some x:=by rw[YO,if_pos rfl,if_pos h]
end
structure Sn (Z:Hp×(Addr->Prop))(H:Hp)(W:Addr->Prop):Prop where
 w:∀b,W b->Z.2 b\/Z.1 b=none
 k:Kp (λb=>Z.2 b\/Z.1 b=none) Z.1 H
 d:∀b,Z.1 b≠none->H b≠none
theorem Sn.refl {H:Hp}{W:Addr->Prop}:Sn (H,W) H W:=⟨λ_ z=>.inl z,Kp.refl,λ_ z=>z⟩
theorem Sn.same {Z:Hp×(Addr->Prop)}{H H':Hp}{W:Addr->Prop}(n:Sn Z H W)(s:ay H H'):Sn Z H' W:=⟨n.w,n.k.trans s.kp,λb z e=>n.d b z (s.free e)⟩
theorem Sn.free {Z:Hp×(Addr->Prop)}{H:Hp}{W:Addr->Prop}(n:Sn Z H W){a:Addr}(h:H a=none):Z.1 a=none:=by
 cases q:Z.1 a with
 |none=>rfl
 |some o=>exact absurd h (n.d a (by rw[q];intro z;cases z))
theorem Sn.upd {Z:Hp×(Addr->Prop)}{H:Hp}{W:Addr->Prop}(n:Sn Z H W){a:Addr}{o o':HO}(h:H a=some o)(ht:∀xs,o≠.tup xs)(wa:W a):Sn Z (L2.upd H a o') W :=
 ⟨n.w,n.k.trans ((lY h ht).mono λb z=>by rw[z];exact n.w a wa),λb z e=>by
  by_cases hb:b=a
  ·subst hb;rw[aE]at e;cases e
  ·rw[aC hb]at e;exact n.d b z e⟩
theorem Sn.trans {Z:Hp×(Addr->Prop)}{H1 H:Hp}{W1 W:Addr->Prop}(n1:Sn Z H1 W1)(n:Sn (H1,W1) H W):Sn Z H W:=by
 have big:∀b,W1 b\/H1 b=none->Z.2 b\/Z.1 b=none:=λb z=>z.elim (n1.w b) λq=>.inr (n1.free q);exact⟨λb z=>big b (n.w b z),n1.k.trans (n.k.mono big),λb z=>n.d b (n1.d b z)⟩
section
variable {X:Cx}{st:Stmt}{rest:List Stmt}{σ:St}{H:Hp}
theorem PS.pre {t t':TS}(h:PS X st t)(k:∀D σ H,t' D σ H->t D σ H):PS X st t':=λpins s σ H D I q=>h pins s σ H D I (k D σ H q)
theorem qe.pre {t t':TS}(h:qe X rest t)(k:∀D σ H,t' D σ H->t D σ H):qe X rest t':=λpins s σ H D I q=>h pins s σ H D I (k D σ H q)
end
section
variable {b:Expr}{H:Hp}
theorem held {P:Wq}{w:WC}{W W2:Addr->Prop}{H2:Hp}{d:D}{v:V}(r:aD P w W H d v)(n:Sn (H,W) H2 W2):aD P w W2 H2 d v :=
 aD.a7 n.w (aD.keep n.k (aD.grow (λb z=>z) r))
end
section
end
section
end
end L2
namespace yc
open PySem PySem.Spec PyProof.Rows
section
open PySem.SeqAt
open PySem.AutoSeq1 (wpAny_loadPart')
open PySem.MeetsSeq PySem.MeetsSeq2 PySem.MeetsSeq3
end
section
end
section
open PySem.SeqAt
open PySem.AutoSeq1 (wpAny_loadPart')
open PySem.MeetsSeq PySem.MeetsSeq2 PySem.MeetsSeq3
end
section
end
end yc
namespace L2
open PySem PySem.Spec PySem.SeqAt PyProof.Rows
noncomputable def c9:List D->Option (List Int)
 |[]=>some []
 |.int i::ds=>(c9 ds).map (i::·)
 |_::_=>none
theorem jl:∀{ds:List D} {ns:List Int},c9 ds=some ns->ds=ns.map D.int
 |[],_,h=>by cases h;rfl
 |.int i::ds,_,h=>by
  obtain⟨ns,h1,rfl⟩:=WQ.mp h;rw[W3,<- jl h1]
 |.bE::_,_,h=>by cases h
 |.bl _::_,_,h=>by cases h
 |.str _::_,_,h=>by cases h
 |.obj _::_,_,h=>by cases h
 |.tup _::_,_,h=>by cases h
 |.lst _::_,_,h=>by cases h
 |.dT _ _::_,_,h=>by cases h
 |.dK _ _::_,_,h=>by cases h
 |.sT _::_,_,h=>by cases h
 |.ob _::_,_,h=>by cases h
theorem gR:∀(ns:List Int),c9 (ns.map D.int)=some ns
 |[]=>rfl
 |n::ns=>by rw[W3];show (c9 (ns.map D.int)).map _=_;rw[gR ns];rfl
theorem ck {P:Wq}{w:WC}{W:Addr->Prop}{H:Hp}:∀{ns:List Int} {vs:List V},ao P w W H (ns.map D.int) vs->vs=ns.map V.int
 |[],_,h=>h
 |n::ns,_,l_=>by obtain⟨v,r,e,h1,h2⟩:=l_;rw[e,ck h2,show v=V.int n from h1];rfl
theorem nU {P:Wq}{w:WC}{W:Addr->Prop}{H:Hp}:∀(ns:List Int),ao P w W H (ns.map D.int) (ns.map V.int)
 |[]=>rfl
 |n::ns=>⟨_,_,rfl,rfl,nU ns⟩
noncomputable def wg (p:Int->Int->Bool)(lex:List Int->List Int->Bool)(a b:D):Option D:=match a.HY,b.HY with
 |some a,some b=>match c9 a,c9 b with
  |some ns,some ms=>some (.bl (lex ns ms))
  |_,_=>none
 |_,_=>uQ p a b
theorem wF {p:Int->Int->Bool}{lex:List Int->List Int->Bool}{a b d:D}(h:wg p lex a b=some d):(∃i j ns ms,a=.tup i/\b=.tup j/\c9 i=some ns/\c9 j=some ms/\d=.bl (lex ns ms))\/uQ p a b=some d:=by
 unfold wg at h;cases ha:a.HY with
 |none=>rw[ha]at h;exact .inr h
 |some i =>
  cases hb:b.HY with
  |none=>rw[ha,hb]at h;exact .inr h
  |some j =>
   rw[ha,hb]at h;cases ea:c9 i with
   |none=>simp only[ea]at h;cases h
   |some ns =>
    cases eb:c9 j with
    |none=>simp only[ea,eb]at h;cases h
    |some ms=>simp only[ea,eb]at h;cases h;exact .inl ⟨i,j,ns,ms,D.l5 ha,D.l5 hb,ea,eb,rfl⟩
section
variable {X:Cx}
theorem zH {p:Int->Int->Bool}{lex:List Int->List Int->Bool}{op:Zt}(ho:gZ X (Xm op) (yP λi j=>.bl (p i j)))
  (ht:∀(s:Wi) (E:Wg->Wi->Prop) (l b:Addr) (items cD:Array Wg) (ns ms:List Int) (Q:Wg->Wi->Prop),IsTup s.heap l items->IsTup s.heap b cD->YF items.toList ns->YF cD.toList ms->Q (.bool (lex ns ms)) s->WT (model X.prog X.w) X.A (Xm op (.ref l) (.ref b)) Q E s) :
  bf X (Xm op) (wg p lex):=by
 intro pins s σ H x y v u Q I rx ry h;obtain⟨W,d1,d2,d,hd,r1,r2,e,q⟩:=h;rcases wF e with⟨a,b,ns,ms,rfl,rfl,ea,eb,rfl⟩|e
 ·rw[jl ea]at r1;rw[jl eb]at r2;obtain⟨pa,vs,rfl,ha,ra⟩:=r1;obtain⟨pb,us,rfl,hb,rb⟩:=r2;rw[ck ra]at ha;rw[ck rb]at hb;cases rx;cases ry;obtain⟨its,q1,p1,_⟩:=I.tuple (tE.of ha);obtain⟨HW,q2,p2,_⟩:=I.tuple (tE.of hb);exact ht s _ pa pb _ _ ns ms _ p1 p2 (by simpa using intsAre_of q1) (by simpa using intsAre_of q2) ⟨.bl _,H,I,rfl,q _ _ (ay.refl _) rfl⟩
 ·exact i7 ho pins s σ H x y v u Q I rx ry ⟨W,_,_,d,hd,r1,r2,e,q⟩
end
end L2
namespace TS
open PySem PyProof.Rows
section
variable {prog:Wq}{w:WC}{A:Xg}{E:Wg->Wi->Prop}{s:Wi}
theorem tX {x:Wg}{vs:List Wg}{kf:Wg->List Int}{Q:Wg->Wi->Prop}(hz:vs.length<=1000000)
  (col:∀(B:Xg) (R:List Wg->Wi->Prop),B.units<=A.units+1->(∀(h':Heap) (tk:Nat),(∀b o,s.heap.get? b=some o->h'.get? b=some o)->s.heap.objs.size<=h'.objs.size->R vs {s with heap:=h',toks:=tk})->WT (model prog w) B (collect x) R E s)
  (T:m8 s.heap kf s.heap.objs.size vs)
  (h:∀(out:List Wg) (l:Addr) (h':Heap) (tk:Nat) (n:Nat),out.Perm vs->out.Pairwise (λx y=>HT.lexLt (kf y) (kf x)=false)->s.heap.objs.size<=l->(∀b o,s.heap.get? b=some o->h'.get? b=some o)->h'.get? l=some (Yz "list" out.toArray n)->Q (.ref l) {s with heap:=h',toks:=tk}) :
  WT (model prog w) A (call (.builtin "sorted") [x]) Q E s:=by
 refine Calls.call_function_entry kind_sorted plain_sorted entry_sorted (args_sorted1 _) ?_;unfold Yb.«sorted»
 refine Wh (m:=checkCount "sorted" 1 1 _) (Wu ?_);refine Wh (col A.in1 _ (Wl _) λh' tk kp Uo=>?_);have nl:vs.length<=WA:=by rw[WY];lia
 refine Wh (wpAny_newList ?_ nl);have hl:(h'.push (Yz "list" vs.toArray 0)).get? h'.objs.size=some (Yz "list" vs.toArray 0):=W5 _ rfl;have T':m8 (h'.push (Yz "list" vs.toArray 0)) kf h'.objs.size vs:=λv hv=>by
  obtain⟨t,o,xs,k,e1,_,e3,r⟩:=T v hv;exact⟨t,o,xs,k,e1,WZ (WB (kp _ _ e3)),Ww _ (kp _ _ e3),r⟩
 refine Wh (Xv (Yy slot_list_sort ⟨_,hl,rfl⟩ entry_list_sort (lW (s:={s with heap:=h'.push (Yz "list" vs.toArray 0),toks:=tk}) hl hz T' λout hp hs=>⟨_,rfl,?_⟩) (args_list_sort _)))
 obtain⟨n,hn⟩:=sortedHeap_at (out:=out.toArray) hl;refine Wu ⟨_,rfl,h out h'.objs.size _ tk n hp hs Uo (λb o e=>?_) hn⟩;have hb:=WB (kp _ _ e);rw[sortedHeap_old (WZ hb) (by rw[size_push'];exact ZR hb)]
 exact Ww _ (kp _ _ e)
end
end TS
namespace L2
open PySem PySem.Spec PyProof.Rows
def um (H:Hp):Wg->List Int
 |.ref t=>match H t with
  |some (.tup xs)=>xs.filterMap fun
   |.int i=>some i
   |_=>none
  |_=>[]
 |_=>[]
theorem rV:∀ns:List Int,((ns.map V.int).filterMap fun
   |.int i=>some i
   |_=>none)=ns
 |[]=>rfl
 |n::ns=>by
  rw[W3,Xj];dsimp only;rw[rV ns]
theorem lZ {H:Hp}{t:Addr}{ns:List Int}(h:H t=some (.tup (ns.map V.int))):um H (.ref t)=ns:=by
 unfold um;dsimp only;rw[h];exact rV ns
def FA (H:Hp):Wg->Addr×List Int
 |.ref t=>(t,um H (.ref t))
 |_=>(0,[])
abbrev xW (H:Hp)(ts:List (Addr×List Int)):Prop:=∀t∈ts,H t.1=some (.tup (t.2.map V.int))/\t.2≠[]
abbrev qz (t:Addr×List Int):V:=.ref t.1
theorem jA:∀{ts:List (Addr×List Int)} {us:List Wg},Vals (ts.map qz) us->us=ts.map λt=>Value.ref t.1
 |[],_,.nil=>rfl
 |t::ts,_,.cons r q=>by
  rw[W3,<- jA q];cases r;rfl
theorem jE:∀(ts:List (Addr×List Int)),Vals (ts.map qz) (ts.map λt=>Value.ref t.1)
 |[]=>.nil
 |t::ts=>.cons rfl (jE ts)
theorem nD {H:Hp}{ts:List (Addr×List Int)}(T:xW H ts){out:List Wg}(hp:out.Perm (ts.map λt=>Value.ref t.1)):out=(out.map (FA H)).map (λt=>Value.ref t.1)/\(out.map (FA H)).Perm ts:=by
 constructor
 ·rw[W6];refine(Ym (g:=id) λv hv=>?_).trans (List.map_id _) |>.symm
  obtain⟨t,ht,rfl⟩:=WX.mp (hp.mem_iff.mp hv);rfl
 ·refine(hp.map (FA H)).trans (List.Perm.of_eq ?_);rw[W6];refine(Ym (g:=id) λt ht=>?_).trans (List.map_id _);show (t.1,um H (.ref t.1))=t;rw[lZ (T t ht).1]
theorem vd {P:Wq}{w:WC}{H:Hp}{h:Heap}{ts:List (Addr×List Int)}(ok:h9 P w H h)(T:xW H ts){a:Addr}(ha:h.objs.size<=a):TS.m8 h (um H) a (ts.map λt=>Value.ref t.1):=λv hv=>by
 obtain⟨t,ht,rfl⟩:=WX.mp hv;obtain⟨h1,h2⟩:=T t ht;obtain⟨_,its,r,o,ho,hc,n,hd⟩:=(show cT P w H h t.1 (.tup (t.2.map V.int)) from ok _ _ h1)
 exact⟨t.1,o,_,n,rfl,WZ (WU (WB ho) ha),ho,hc,hd,by rw[lZ h1];exact intsAre_of (by simpa using r),by rw[lZ h1];exact h2⟩
section
variable {X:Cx}
theorem p9:fN X (.builtin "sorted") (λxs H Q=>∃(p:Addr) (ts:List (Addr×List Int)),xs=[.ref p]/\eC X.K H p (ts.map qz)/\xW H ts/\ts.length<=1000000 /\
  ∀(l:Addr) (bA:List (Addr×List Int)),H l=none->bA.Perm ts->bA.Pairwise (λx y=>HT.lexLt y.2 x.2=false)->Q (.ref l) (upd H l (.lst (bA.map qz)))):=by
 intro pins s σ H xs us Q I r h;obtain⟨p,ts,rfl,hq,T,hz,q⟩:=h;obtain⟨u,rfl,rx⟩:=vals1 r;cases rx;obtain⟨its,r',pl,hl⟩:=I.list hq;obtain rfl:=jA r';have nl:(ts.map λt=>Value.ref t.1).length<=WA:=by rw[Wj,WY];lia
 refine TS.tX (kf:=um H) (by rw[Wj];exact hz) (λB R _ hR=>?_) (vd I.bq T (Wl _)) λout l h' tk n hp hs hle kp ho=>?_
 ·refine collect_list pl.isList (hR _ s.toks (λb o e=>?_) ?_) nl
  ·have hb:=WB e;rw[Heap.get?_update_ne _ _ _ _ (WZ hb)];exact Ww _ e
  ·rw[Heap.size_update,size_push'];exact Nat.le_succ _
 ·obtain⟨e1,e2⟩:=nD T hp;have zl:out.length=ts.length:=by rw[hp.length_eq,Wj]
  refine⟨.ref l,_,I.laid (t':=tk) (o:=.lst ((out.map (FA H)).map qz)) kp hle ?_,rfl,q l _ (I.bq.fresh hle) e2 ?_⟩
  ·refine⟨by rw[Wj,Wj,zl,WY];lia,out,n,?_,ho⟩
   have:=jE (out.map (FA H));rw[<- e1]at this;exact this
  ·rw[Zg];refine hs.imp_of_mem λ{x y} hx hy hh=>?_;obtain⟨t,ht,rfl⟩:=WX.mp (hp.mem_iff.mp hx);obtain⟨t',LH,rfl⟩:=WX.mp (hp.mem_iff.mp hy);exact hh
end
end L2
namespace ST
open PySem PyProof.Rows
section
variable {prog:Wq}{w:WC}{A:Xg}{E:Wg->Wi->Prop}{s:Wi}
variable {a b:Addr}{o:Obj}{ts:List (Addr×List Int)}{es:Array (Int×Wg)}{ep:Nat}{t:SetTable}{k:List Int}
theorem kO.at (S:kO prog w o ts es ep t){i:Nat}(hi:i<t.place.size):∃x,ts[i]?=some x/\es[i]?=some (ent prog w x):=by
 have hl:i<ts.length:=by rw[<- S.size.2];exact hi
 exact⟨ts[i],Wv hl,by rw[<- WM,S.Jg,WH,Wv hl];rfl⟩
theorem zM (S:kO prog w o ts es ep t):t.gaveWay=false:=by
 obtain⟨j,hj,e⟩:=S.wf.Fg;unfold SetTable.gaveWay;rw[e];obtain⟨i,rfl⟩:∃i,j=i+1:=⟨j-1,by lia⟩
 have:0<2 ^ i:=Nat.pow_pos (by decide)
 rw[Nat.pow_succ];have:(2 ^ i*2-1) % 2=1:=by lia
 rw[this];rfl
theorem mK (ho:s.heap.get? a=some o)(S:kO prog w o ts es ep t)(T:Jz prog w s.heap ts)(hk:(TK prog w).is s.heap k b)(hu:A.units<Za){jX:Bool}{N:Nat}{Q:SetFound->Wi->Prop}
  (hN:¬ qf t (cn t.mask (kH prog w k) N)) (hO:∀x,x<N->qf t (cn t.mask (kH prog w k) x)) (Wa:N<10*SetTable.turns t.mask)
  (Qf:(∀x∈ts,x.2≠k)->Q (.free (cn t.mask (kH prog w k) N) false) s) (Qt:∀i:Option Nat,(∃x∈ts,x.2=k)->(jX=false->i.isSome=true)->Q (.there i) s) :
  ∀(d n f:Nat) (yz:Option SetTable.Probe),yz.getD (N8 t.mask (kH prog w k))=fP t.mask (kH prog w k) n->n+d=N->d<f ->
   (∀m,m<n->∀i x,i<t.place.size->g t.place i=cn t.mask (kH prog w k) m->ts[i]?=some x->x.2≠k) ->
   WT (model prog w) A (setSearchFrom a (.ref b) (kH prog w k) jX f yz) Q E s:=by
 intro d
 induction d using Nat.strongRecOn with
 |_ d ih =>
  intro n f yz mV tx Ng L8;obtain⟨f,rfl⟩:∃f',f=f'+1:=⟨f-1,by lia⟩
  unfold setSearchFrom;refine Wh (Ye ho S.dat S.fits ?_);dsimp only;rw[zM S,if_neg (by simp)]
  rw[Gn,mV];generalize SH:SetTable.probe t _ (kH prog w k) (fP t.mask (kH prog w k) n)=pr;have hash:∀i x,i<t.place.size->ts[i]?=some x->(es[i]?.map (·.1)).getD 0=kH prog w x.2:=λi x hi hx=>by
   obtain⟨y,h1,h2⟩:=S.at hi;rw[hx]at h1;obtain rfl:=WR h1;rw[h2];rfl
  rcases qQ S.wf (λi=>(es[i]?.map (·.1)).getD 0) (kH prog w k) hN hO d n (10*SetTable.turns t.mask) tx (by lia)with⟨q1,q2⟩|⟨m,i,q1,q2,q3,q4,q5,q6,q7⟩
  ·have e:pr=some (.empty (cn t.mask (kH prog w k) N) none):=SH.symm.trans q1;rw[e];dsimp only;refine Wu (Qf λx hx DO=>?_);obtain⟨i,hi⟩:=YU hx;have Ft:i<t.place.size:=by
    rw[S.size.2];exact(WI.mp hi).1
   obtain⟨n',g1,g2⟩:=S.wf.RZ i (kH prog w x.2) (by rw[WH,hi];rfl)
   rw[DO]at g1 g2;have DW:n'<N:=by
    rcases XW n' N with z|z
    ·exact z
    ·rcases XW N n' with z2|z2
     ·exact absurd (g2 N z2) hN
     ·obtain rfl:N=n':=by lia
      exact absurd ⟨i,Ft,g1.symm⟩ hN
   rcases XW n' n with z|z
   ·exact L8 n' z i x Ft g1.symm hi DO
   ·exact q2 n' z DW i Ft g1.symm (by rw[hash i x Ft hi,DO])
  ·have e:pr=some (.candidate (cn t.mask (kH prog w k) m) i (fP t.mask (kH prog w k) (m+1))):=SH.symm.trans q6;rw[e];dsimp only;obtain⟨x,xr,H_⟩:=S.at q3;have Po:x∈ts:=W_ xr;have Fs:t.slot (cn t.mask (kH prog w k) m)=.live i:=by rw[<- q4];exact nB S.wf.wU q3
   refine(λ(key:?G)=>?main) ?key
   case main =>
    cases hl:t.led with
    |true =>
     rw[if_neg (by simp)]
     exact key
    |false =>
     rw[if_pos (by simp)]
     have PY:(es.filter (·.1==kH prog w k)).toList.map (·.2)=(ts.filter λx=>kH prog w x.2==kH prog w k).map λx=>Value.ref x.1:=by
      rw[Array.toList_filter,S.Jg,List.filter_map,W6];rfl
     rw[PY];refine Wh (Cj hk _ (λy hy=>T y (List.mem_filter.mp hy).1) ?_);rw[if_neg (by simp)]
     exact key
   case key =>
    rw[H_];dsimp only;refine Wh (Xv ((TK prog w).eqBool hu (T x Po) hk ?_));refine Wh (Ye ho S.dat S.fits ?_);dsimp only;have SF:t.sameMemory t.moves t.mask=some true:=by
     unfold SetTable.sameMemory;rw[if_pos (beq_self_eq_true _)]
    by_cases DO:x.2=k
    ·rw[decide_eq_true DO];cases jX with
     |true =>
      rw[if_pos (by rfl)]
      exact Wu (Qt none ⟨x,Po,DO⟩ (λz=>by cases z))
     |false =>
      rw[if_neg (by simp),SF]
      dsimp only;rw[if_pos rfl,Fs];dsimp only;rw[H_];dsimp only;refine Wh (wpAny_isSame_ref_self ?_);rw[if_pos rfl];refine Wh (Wu ?_);exact Wu (Qt (some i) ⟨x,Po,DO⟩ (λ_=>rfl))
    ·rw[decide_eq_false DO,if_neg (by simp),SF]
     dsimp only;rw[if_pos rfl,Fs];dsimp only;rw[H_];dsimp only;refine Wh (wpAny_isSame_ref_self ?_);rw[if_pos rfl];refine Wh (Wu ?_);dsimp only;rw[if_neg (by simp)]
     refine ih (N-(m+1)) (by lia) (m+1) f _ rfl (by lia) (by lia) λm' V6 i' x' h1 h2 h3=>?_
     rcases XW m' n with z|z
     ·exact L8 m' z i' x' h1 h2 h3
     ·by_cases e2:m'=m
      ·subst e2;obtain rfl:=S.wf.wU.inj h1 q3 (h2.trans q4.symm);rw[xr]at h3;obtain rfl:=WR h3;exact DO
      ·intro z2;exact q7 m' z (by lia) i' h1 h2 (by rw[hash i' x' h1 h3,z2])
end
theorem sV (n:Nat):∀(f j:Nat),n<2 ^ (j+f)->∃j',j<=j'/\SetTable.sizeAbove.go n f (2 ^ j)=2 ^ j'/\n<2 ^ j'/\(j'=j\/2 ^ (j' - 1)<=n)
 |0,j,h=>⟨j,Wl _,rfl,h,.inl rfl⟩
 |f+1,j,h=>by
  unfold SetTable.sizeAbove.go
  by_cases hc:2 ^ j<=n
  ·rw[if_pos hc,<- Nat.pow_succ];obtain⟨j',h1,h2,h3,h4⟩:=sV n f (j+1) (by rw[show j+1+f=j+(f+1) by lia];exact h)
   refine⟨j',by lia,h2,h3,.inr ?_⟩
   rcases h4 with rfl|h4
   ·exact hc
   ·exact h4
  ·rw[if_neg hc];exact⟨j,Wl _,rfl,by lia,.inl rfl⟩
theorem BQ {n:Nat}(h:n<=4000):∃j,3<=j/\SetTable.sizeAbove n=2 ^ j/\n<2 ^ j/\2 ^ j<=8192:=by
 obtain⟨j,h1,h2,h3,h4⟩:=sV n 64 3 (Nat.lt_of_le_of_lt h (by decide))
 refine⟨j,h1,h2,h3,?_⟩;rcases h4 with rfl|h4
 ·decide
 ·have:j-1<12:=by
   rcases XW (j-1) 12 with z|z
   ·exact z
   ·have:2 ^ 12<=2 ^ (j-1):=Ys (by decide) z
    lia
  have:2 ^ j<=2 ^ 12:=Ys (by decide) (by lia)
  lia
theorem D_ (d:Nat)(n:Int)(tk:Tok):hashByValue d (.int n tk)=pure true:=by
 cases d <;> rfl
section
variable {prog:Wq}{w:WC}{A:Xg}{E:Wg->Wi->Prop}{s:Wi}
variable {a b:Addr}{o:Obj}{ts:List (Addr×List Int)}{es:Array (Int×Wg)}{ep:Nat}{t:SetTable}{k:List Int}
theorem F7 {Q:Bool->Wi->Prop}(hk:(TK prog w).is s.heap k b)(q:Q true s):WT (model prog w) A (hashByValue 8 (.ref b)) Q E s:=by
 obtain⟨o,items,n,ho,hc,hd,hi⟩:=hk;have hT:s.TypeIs (.ref b) "tuple" := ⟨o,ho,hc⟩;unfold hashByValue;refine Wh (wpAny_specialOf hT F.slot_tuple_hash.lookup ?_);dsimp only;refine Wh (wpAny_seqItems ho hd ?_);dsimp only[Option.getD_some];rw[<- Array.forIn_toList];refine Wh (Z5 _ (λrest r s'=>r=(none,())/\s'=s/\∀v∈rest,∃n tk,v=Value.int n tk) _ ?_ ?_ _ _ ⟨rfl,rfl,?_⟩)
 ·rintro v rest r s' ⟨rfl,rfl,mX⟩;obtain⟨n,tk,rfl⟩:=mX v Wo;rw[D_];refine Wh (Wu ?_);rw[if_neg (by simp)]
  exact Wu ⟨rfl,rfl,λu hu=>mX u (Wm _ hu)⟩
 ·rintro r s' ⟨rfl,rfl,_⟩;exact Wu q
 ·generalize items.toList=vs at hi
  induction hi with
  |nil=>intro v hv;cases hv
  | @cons k v ks vs h1 h2 ih =>
   intro u hu;rcases Ws.mp hu with rfl|hu
   ·obtain⟨t,rfl⟩:=Value.isInt_shape h1;exact⟨_,_,rfl⟩
   ·exact ih u hu
theorem wB (ho:s.heap.get? a=some o)(S:kO prog w o ts es ep t)(T:Jz prog w s.heap ts)(hk:(TK prog w).is s.heap k b)(hu:A.units<Za){jX:Bool}{Q:SetFound->Wi->Prop}
  (Qf:∀N,(∀x∈ts,x.2≠k)->¬ qf t (cn t.mask (kH prog w k) N)->(∀x,x<N->qf t (cn t.mask (kH prog w k) x))->Q (.free (cn t.mask (kH prog w k) N) false) s)
  (Qt:∀i:Option Nat,(∃x∈ts,x.2=k)->(jX=false->i.isSome=true)->Q (.there i) s) :
  WT (model prog w) A (setSearch a (.ref b) (kH prog w k) jX) Q E s:=by
 obtain⟨N,h1,h2,h3⟩:=S.wf.first (kH prog w k)
 have hm:=S.Fg;unfold setSearch;exact mK ho S T hk hu h2 h3 h1 (λq=>Qf N q h2 h3) Qt N 0 100000 none rfl (YZ N) (by unfold SetTable.turns at h1;lia) λm hm=>by lia
theorem vV {h:Heap}(ho:h.get? a=some o)(hd:o.data=.set es ep t)(hV:Array (Int×Wg))(t':SetTable):(h.update a (Obj.putSet hV t')).get? a=some {o with data:=.set hV (ep+1) t'}:=by
 have e:=Heap.get?_update_self (Obj.putSet hV t') ho (by rw[putSet_of hV t' hd];rfl)
 rw[e,putSet_of hV t' hd]
theorem zi {α:Type}(l:List α)(p:Nat)(x:α):(l.take p++x::l.drop p).Perm (x::l):=by
 refine Z8.trans (List.Perm.cons x ?_);rw[YK]
theorem HD {α:Type}{en:α->Int×Wg}{hk:α->Int}(hh:∀x,(en x).1=hk x)(x0:α){ts:List α}(he:es.toList=ts.map en){j:Nat}(j3:3<=j)(hj:ts.length<=2 ^ j-1)(fi mo:Nat)(le pl:Bool):
  ∃(order:Array Nat) (t':SetTable) (bA:List α),SetTable.laid (2 ^ j-1) fi mo le pl (es.map (·.1))=some (t',order)/\order.toList.Perm (Xd ts.length)/\(order.filterMap (es[·]?)).toList=bA.map en/\bA.Perm ts /\
   WF t' (bA.map hk)/\t'.mask=2 ^ j-1/\t'.led=le/\t'.plain=pl/\t'.place.size=ts.length:=by
 have hz:es.size=ts.length:=by rw[<- Wr,he,Wj]
 have hs:(es.map (·.1)).size=ts.length:=by rw[Array.size_map,hz]
 obtain⟨t',order,e1,e2,e3,e4,e5,e6,e7,e8⟩:=DE (hs:=es.map (·.1)) j3 (by lia) fi mo le pl
 rw[hs]at e6 e8;have gd:∀i,i<ts.length->es[i]?=some (en (ts.getD i x0)):=λi hi=>by
  rw[<- WM,he,WH,Wv hi,Xr,Wv hi];rfl
 have rM:(order.filterMap (es[·]?)).toList=(order.toList.map λi=>ts.getD i x0).map en:=by
  rw[Array.toList_filterMap,W6];have:∀l:List Nat,(∀i∈l,i<ts.length)->l.filterMap (es[·]?)=l.map (en ∘ λi=>ts.getD i x0):=λl=>by
   induction l with
   |nil=>intro _;rfl
   |cons i l ih =>
    intro h;rw[Xj,gd i (h i Wo),W3,ih λy hy=>h y (Wm _ hy)];rfl
  exact this _ λi hi=>Xz.mp (e6.mem_iff.mp hi)
 have md:(order.toList.map λi=>ts.getD i x0).Perm ts:=by
  refine(e6.map _).trans (List.Perm.of_eq ?_);apply Yu;intro i;rw[WH]
  by_cases hi:i<ts.length
  ·rw[Zx hi,Wv hi];show some (ts.getD i x0)=_;rw[Xr,Wv hi];rfl
  ·rw[XU (by rw[Yg];lia),XU (by lia)]
   rfl
 refine⟨order,t',_,e1,e6,rM,md,?_,e2,e3,e4,e8⟩;rw[W6];have:(order.toList.map λi=>(es.map (·.1)).getD i 0)=order.toList.map (hk ∘ λi=>ts.getD i x0):=by
  refine Ym λi hi=>?_;rw[WN,Array.getElem?_map,gd i (Xz.mp (e6.mem_iff.mp hi))];exact hh _
 rw[<- this];exact e7
theorem wV {α:Type}{en:α->Int×Wg}{hk:α->Int}(hh:∀x,(en x).1=hk x)(x0:α){ts:List α}(he:es.toList=ts.map en){m:Nat}(Nd:ts.length*2<=m)(DX:m<=4000):
  ∃(j:Nat) (order:Array Nat) (t':SetTable) (bA:List α),SetTable.sizeAbove m=2 ^ j/\2 ^ j<=8192/\t.relaid (es.map (·.1)) m=some (t',order)/\order.toList.Perm (Xd ts.length)/\(order.filterMap (es[·]?)).toList=bA.map en/\bA.Perm ts /\
   WF t' (bA.map hk)/\(t'.place.size*5<t'.mask*3/\m<=t'.mask)/\t'.mask<=8191/\t'.led=t.led/\t'.plain=t.plain/\t'.place.size=ts.length:=by
 obtain⟨j,j3,ja,jb,jc⟩:=BQ (n:=m) DX;have:2 ^ 3<=2 ^ j:=Ys (by decide) j3
 obtain⟨order,t',bA,e1,e6,rM,md,e7,e2,e3,e4,e8⟩:=HD hh x0 he j3 (by lia) t.finger (t.movedTo (2 ^ j-1)) t.led t.plain
 exact⟨j,order,t',bA,ja,jc,by unfold SetTable.relaid;rw[ja];exact e1,e6,rM,md,e7,⟨by rw[e8,e2];lia,by rw[e2];lia⟩,by lia,e3,e4,e8⟩
theorem yf (ho:s.heap.get? a=some o)(hx:o.ExactSet)(hd:o.data=.set es ep t)(he:es.toList=ts.map (ent prog w))(hw:WF t (ts.map λx=>kH prog w x.2))(V5:0<ts.length)(hn:ts.length<=1000)
  (QF:t.led=!w.params.followText "set-order") (hpl:t.plain=true) (tx:(ts.map (·.2)).Nodup) {Q:Unit->Wi->Prop}
  (q:∀(bA:List (Addr×List Int)) (hV:Array (Int×Wg)) (t':SetTable),bA.Perm ts->kO prog w {o with data:=.set hV (ep+1) t'} bA hV (ep+1) t'->Q () {s with heap:=s.heap.update a (Obj.putSet hV t')}) :
  WT (model prog w) A (setRelay a (SetTable.grown ts.length)) Q E s:=by
 have hz:es.size=ts.length:=by rw[<- Wr,he,Wj]
 have hp:t.place.size=ts.length:=by have:=hw.sz;rw[Wj]at this;exact this
 have hf:t.fits es.size=true:=by
  unfold SetTable.fits SetTable.fill;rw[hw.JV,hz,hp];have:=hw.room;simp;lia
 unfold setRelay;refine Wh (Ye ho hd hf ?_);dsimp only;have hg:SetTable.grown ts.length=ts.length*4:=by unfold SetTable.grown;rw[if_neg (by lia)]
 rw[hg];obtain⟨j,order,t',bA,ja,jc,er,e6,rM,md,hW,PZ,UX,e3,e4,e8⟩:=wV (t:=t) (hk:=λx=>kH prog w x.2) (λ_=>rfl) (0,[]) (m:=ts.length*4) he (by lia) (by lia)
 rw[ja,if_neg (by rw[WY];lia)]
 rw[er];have PX:(order.filterMap (es[·]?)).size=es.size:=by
  rw[<- Wr,rM,Wj,md.length_eq,hz]
 refine Wh ?_;show WT _ _ (if (order.filterMap (es[·]?)).size != es.size then _ else _) _ _ _
 rw[PX,if_neg (by simp)]
 refine Wu ?_;dsimp only;exact wpAny_storeSet_of ho hd (q _ _ t' md ⟨hx,rfl,rM,hW,PZ.1,UX,e3.trans QF,e4.trans hpl,((md.map (·.2)).nodup_iff).mpr tx⟩) (by rw[PX,hz,WY];lia)
abbrev JD {α β:Type}(w:WC)(en:α->Int×Wg)(hk:α->Int)(ky:α->β)(a:Addr)(s:Wi)(ts:List α)(x:α)(Q:Bool->Wi->Prop):Prop :=
 ∀(h':Heap) (o':Obj) (bA:List α) (hV:Array (Int×Wg)) (pR:Nat) (t':SetTable) (added:Bool) (tk:Nat),s.toks<=tk->Y0 a s.heap h'->h'.get? a=some o'->e9 w en hk ky o' bA hV pR t' ->
  ((∃y∈ts,ky y=ky x)->bA=ts)->((∀y∈ts,ky y≠ky x)->bA.Perm (x::ts))->Q added {s with heap:=h',toks:=tk}
abbrev MT (prog:Wq)(w:WC):=JD w (ent prog w) (λx=>kH prog w x.2) (λx=>x.2)
theorem yo (ho:s.heap.get? a=some o)(S:kO prog w o ts es ep t)(T:Jz prog w s.heap ts)(hk:(TK prog w).is s.heap k b)(hu:A.units<Za)(hn:ts.length<1000)(f:Nat){Q:Bool->Wi->Prop}
  (q:MT prog w a s ts (b,k) Q) :
  WT (model prog w) A (setAddHashedIn a (.ref b) (kH prog w k) (f+1)) Q E s:=by
 unfold setAddHashedIn;refine Wh (Ye ho S.dat S.fits ?_);dsimp only;rw[if_neg (by simp[byScan,Value.scannable])]
 refine Wh (wB ho S T hk hu (λN g1 g2 g3=>?_) λi g1 g2=>?_)
 ·dsimp only;refine Wh (Ye ho S.dat S.fits ?_);dsimp only;have hr:t.place.size+1<=t.mask:=by
   have:=S.N_;obtain⟨j,hj,e⟩:=S.wf.Fg;have:2 ^ 3<=2 ^ j:=Ys (by decide) hj
   lia
  obtain⟨W,hp⟩:=S.wf.put (kQ _ _ _) g2 g3 hr;have pe:(t.put (cn t.mask (kH prog w k) N)).1.plain=t.plain/\(t.put (cn t.mask (kH prog w k) N)).1.led=t.led/\(t.put (cn t.mask (kH prog w k) N)).1.mask=t.mask:=⟨rfl,rfl,rfl⟩;have pf:(t.put (cn t.mask (kH prog w k) N)).1.dummies=#[]:=W.JV;generalize (t.put (cn t.mask (kH prog w k) N)).1=t1 at *
  generalize (t.put (cn t.mask (kH prog w k) N)).2=p at *
  obtain⟨Oy,R9,Ue⟩:=pe;rw[Oy,S.JH,if_pos rfl];refine Wh (F7 hk ?_);rw[if_pos rfl];have hz:=S.size;have Jf:(SetTable.insertAt es p (kH prog w k,Value.ref b)).toList=(ts.take p++(b,k)::ts.drop p).map (ent prog w):=by
   rw[l9,S.Jg,XB,W3,List.map_take,List.map_drop]
  have W1:WF t1 ((ts.take p++(b,k)::ts.drop p).map λx=>kH prog w x.2):=by
   rw[XB,W3,List.map_take,List.map_drop];exact W
  have pm:(ts.take p++(b,k)::ts.drop p).Perm ((b,k)::ts):=zi ts p (b,k);have ix:(ts.take p++(b,k)::ts.drop p).length=ts.length+1:=pm.length_eq;have zP:((ts.take p++(b,k)::ts.drop p).map (·.2)).Nodup:=by
   refine((pm.map (·.2)).nodup_iff).mpr ?_;rw[W3,Xe];exact⟨λhm=>by
    obtain⟨x,hx,e⟩:=WX.mp hm;exact g1 x hx e,S.Lj⟩
  have JF:(SetTable.insertAt es p (kH prog w k,Value.ref b)).size=ts.length+1:=by rw[<- Wr,Jf,Wj,ix]
  have VV:t1.place.size=ts.length+1:=by have:=W1.sz;rw[Wj,ix]at this;exact this
  refine Wh (wpAny_storeSet_of ho S.dat ?_ (by rw[JF,WY];lia))
  have Qz:=vV ho S.dat (SetTable.insertAt es p (kH prog w k,Value.ref b)) t1;have Ks:Y0 a s.heap (s.heap.update a (Obj.putSet (SetTable.insertAt es p (kH prog w k,Value.ref b)) t1)):=Heap.SameBut.update _ _ _;have fin:∀(h':Heap) (o':Obj) (bA:List (Addr×List Int)) (hV:Array (Int×Wg)) (pR:Nat) (t':SetTable),Y0 a s.heap h'->h'.get? a=some o'->kO prog w o' bA hV pR t'->bA.Perm (ts.take p++(b,k)::ts.drop p)->Q true {s with heap:=h'} :=
   λh' o' bA hV pR t' q1 q2 q3 q4=>q h' o' bA hV pR t' true _ (Wl _) q1 q2 q3 (λuw=>by obtain⟨x,hx,e⟩:=uw;exact absurd e (g1 x hx)) λ_=>q4.trans pm
  by_cases rL:t1.tooFull=true
  ·rw[rL,if_pos (by rfl)]
   have U4:SetTable.grown (es.size+1)=SetTable.grown (ts.take p++(b,k)::ts.drop p).length:=by rw[ix,hz.1]
   rw[U4];refine Wh (yf (s:={s with heap:=s.heap.update a (Obj.putSet (SetTable.insertAt es p (kH prog w k,Value.ref b)) t1)}) Qz S.ex rfl Jf W1 (by lia) (by lia) (R9.trans S.led) (Oy.trans S.JH) zP λbA hV t' r1 r2=>Wu ?_)
   have IJ:=vV Qz rfl hV t';exact fin _ _ bA hV _ t' (Ks.trans (Heap.SameBut.update _ _ _)) IJ r2 r1
  ·rw[if_neg (by simpa using rL)]
   refine Wu (fin _ _ _ _ _ _ Ks Qz ⟨S.ex,rfl,Jf,W1,?_,by rw[Ue];exact S.Fg,R9.trans S.led,Oy.trans S.JH,zP⟩ (.refl _))
   unfold SetTable.tooFull SetTable.fill at rL;rw[pf]at rL;simp at rL;lia
 ·dsimp only;exact Wu (q s.heap o ts es ep t false _ (Wl _) (Heap.SameBut.refl _ _) ho S (λ_=>rfl) λg=>absurd g1 λxv=>by obtain⟨x,hx,e⟩:=xv;exact g x hx e)
theorem yp (ho:s.heap.get? a=some o)(S:kO prog w o ts es ep t)(T:Jz prog w s.heap ts)(hk:(TK prog w).is s.heap k b)(hu:A.units<Za)(hn:ts.length<1000){Q:Bool->Wi->Prop}
  (q:MT prog w a s ts (b,k) Q) :
  WT (model prog w) A (setAdd a (.ref b)) Q E s:=by
 unfold setAdd;refine Xv ?_;refine Wh ((TK prog w).pyHash hu hk ?_);unfold setAddHashed;refine Xv ?_;exact yo (s:={s with toks:=s.toks+(TK prog w).draws k}) ho S T hk hu hn 99999 λh' o' bA hV pR t' added tk r0 r1 r2 r3 r4 r5=>q h' o' bA hV pR t' added tk (W8 (Nat.le_add_right _ _) r0) r1 r2 r3 r4 r5
end
theorem mw {α:Type}:∀{l:List α} {i:Nat} (h:i<l.length),(l[i]::l.eraseIdx i).Perm l
 |[],_,h=>absurd h (Nat.not_lt_zero _)
 |x::l,0,_=>.refl _
 |x::l,i+1,h=>by
  have h':i<l.length:=by rw[Wz]at h;lia
  show (l[i]::x::l.eraseIdx i).Perm (x::l);exact(List.Perm.swap _ _ _).trans ((mw h').cons x)
theorem vz {α:Type}(next:Nat->Nat):∀(f k:Nat) (left:List α) (out:Array α),f=left.length->(pickOrder.go next f k left out).toList.Perm (out.toList++left)
 |0,k,left,out,e=>by
  obtain rfl:left=[]:=List.length_eq_zero_iff.mp e.symm;unfold pickOrder.go;rw[XD]
 |f+1,k,left,out,e=>by
  unfold pickOrder.go;have hi:next k % left.length<left.length:=ZF _ (by lia)
  rw[Wv hi];dsimp only;refine(vz next f (k+1) _ _ (by rw[List.length_eraseIdx_of_lt hi];lia)).trans ?_
  rw[Yi,Xh];exact List.Perm.append_left _ (mw hi)
theorem w5 {α:Type}(next:Nat->Nat)(xs:Array α):(pickOrder next xs).toList.Perm xs.toList:=by
 have:=vz next xs.size 0 xs.toList #[] (by rw[Wr])
 exact this
theorem bM:Slot "set_iterator" "__next__" "set_iterator.__next__" :=
 .of (owner:="set_iterator") (n:="__next__") (by rw[typeLookup_type,builtinLookup_eq_fast];kernel_rfl) (by decide +kernel) (by decide +kernel) (by decide +kernel)
  (by first|exact .inl (by decide +kernel)|exact .inr (by decide +kernel)) (by rw[isSubtype_type];kernel_rfl)
theorem g7:Slot "set_iterator" "__iter__" "set_iterator.__iter__" :=
 .of (owner:="set_iterator") (n:="__iter__") (by rw[typeLookup_type,builtinLookup_eq_fast];kernel_rfl) (by decide +kernel) (by decide +kernel) (by decide +kernel)
  (by first|exact .inl (by decide +kernel)|exact .inr (by decide +kernel)) (by rw[isSubtype_type];kernel_rfl)
theorem gw:entryFor table "set_iterator.__next__" = some Yb.«set_iterator.__next__»:=entryFor_of_tree (by kernel_rfl)
theorem mf:entryFor table "set_iterator.__iter__" = some Yb.«dict_keyiterator.__iter__» :=
 entryFor_alias (id':="dict_keyiterator.__iter__") (by kernel_rfl) rfl (by decide +kernel) (by kernel_rfl)
theorem mh:entryFor table "set.__iter__" = some Yb.«frozenset.__iter__» :=
 entryFor_alias (id':="frozenset.__iter__") (by kernel_rfl) rfl (by decide +kernel) (by kernel_rfl)
theorem h8 (a:Wg):argsOk "set_iterator.__next__" ⟨[a],[]⟩:=by unfold argsOk;kernel_rfl
theorem m7 (a:Wg):argsOk "set_iterator.__iter__" ⟨[a],[]⟩:=by unfold argsOk;kernel_rfl
section
variable {prog:Wq}{w:WC}{A:Xg}{E:Wg->Wi->Prop}{s:Wi}
variable {a:Addr}{o:Obj}{es:Array (Int×Wg)}{ep:Nat}{t:SetTable}
variable {α β:Type}{en:α->Int×Wg}{hk:α->Int}{ky:α->β}{ts:List α}
abbrev yb (w:WC):Bool:=w.params.followText "set-order"
theorem gA {Q:Bool->Wi->Prop}(q:Q (yb w) s):WT (model prog w) A setsByText Q E s:=by
 unfold setsByText;exact Wh (Z6 (Wu q))
def bN (w:WC)(a:Addr)(ep:Nat)(es:Array (Int×Wg)):Array (Int×Wg):=if yb w=true then pickOrder (w.params.setOrder a ep) es else es
theorem gB (w:WC)(a:Addr)(ep:Nat)(es:Array (Int×Wg)):(bN w a ep es).toList.Perm es.toList:=by
 unfold bN
 split
 ·exact w5 _ _
 ·exact .refl _
theorem xh (S:e9 w en hk ky o ts es ep t){Q:Bool->Wi->Prop}(ho:s.heap.get? a=some o)(q:Q false s):WT (model prog w) A (setDrawn a) Q E s:=by
 unfold setDrawn;refine Wh (Ye ho S.dat S.fits ?_);dsimp only;refine Wh (gA (Wu ?_));have:(!yb w&&(!t.plain&&decide (es.size>1)))=false:=by rw[S.JH];simp
 show Q (!yb w&&(!t.plain&&decide (es.size>1))) s;rw[this];exact q
theorem k9 (ho:s.heap.get? a=some o)(S:e9 w en hk ky o ts es ep t){sl i:Nat}{Q:Option (Wg×Nat)->Wi->Prop}(Iy:yb w=false->SetTable.below t.place sl=i)
  (q1:∀e,(bN w a ep es)[i]?=some e->∀vh:Nat,(yb w=false->SetTable.below t.place vh=i+1)->Q (some (e.2,vh)) s) (q2:(bN w a ep es)[i]?=none->Q none s) :
  WT (model prog w) A (setNext a sl i ep) Q E s:=by
 unfold setNext;refine Wh (Ye ho S.dat S.fits ?_);dsimp only;refine Wh (gA ?_);cases hb:yb w with
 |true =>
  rw[if_pos rfl,if_neg (by simp)]
  unfold setWalk;refine Wh (Wh (Ye ho S.dat S.fits ?_));dsimp only;refine Wh (gA ?_);rw[hb,if_pos rfl];refine Wh (Z6 (Wu (Wu ?_)));have e:bN w a ep es=pickOrder (w.params.setOrder a ep) es:=by unfold bN;rw[hb,if_pos rfl]
  rw[e]at q1 q2;show Q (((pickOrder (w.params.setOrder a ep) es)[i]?).map λe=>(e.2,sl)) s;cases hx:(pickOrder (w.params.setOrder a ep) es)[i]? with
  |none=>exact q2 hx
  |some x=>exact q1 x hx sl (λz=>by rw[hb]at z;cases z)
 |false =>
  rw[if_neg (by simp)]
  have e:bN w a ep es=es:=by unfold bN;rw[hb,if_neg (by simp)]
  rw[e]at q1 q2;have hd:(!t.plain&&decide (es.size>1))=false:=by rw[S.JH];rfl
  show WT _ _ (if (!t.plain&&decide (es.size>1))=true then _ else _) _ _ _
  rw[hd,if_neg (by simp)]
  have hl:t.led=true:=by
   rw[S.led];show (!yb w)=true;rw[hb];rfl
  refine Wh ?_;show WT _ _ (if (!t.led&&!es.isEmpty)=true then _ else _) _ _ _
  rw[hl,if_neg (by simp)]
  refine Wu (Wu ?_);rw[Iy hb];have hz:=S.size
  by_cases hi:i<t.place.size
  ·have h1:es[i]?=some es[i]:=getElem?_pos es i (by omega)
   rw[h1,uC hi];refine q1 _ h1 _ λ_=>?_;obtain⟨b1,b2,b3⟩:=fD S.wf.wU (g t.place i+1);rcases Nat.lt_trichotomy (SetTable.below t.place (g t.place i+1)) (i+1)with z|z|z
   ·have:=b3 i (by omega) hi
    omega
   ·exact z
   ·have:=b2 (i+1) z;have:=S.wf.wU i (i+1) (by omega) (by omega)
    omega
  ·have h1:es[i]?=none:=Yo (by omega)
   rw[h1];exact q2 h1
end
section
variable {prog:Wq}{w:WC}{A:Xg}{E:Wg->Wi->Prop}{s:Wi}
variable {a b it:Addr}{o:Obj}{es:Array (Int×Wg)}{ep:Nat}{t:SetTable}
variable {α β:Type}{en:α->Int×Wg}{hk:α->Int}{ky:α->β}{ts:List α}
def oW (sl i:Nat)(a:Addr)(n ep:Nat):Obj:={cls:=.type "set_iterator",dict:=none,data:=.fields #[.int sl 0,.int i 0,.ref a,.int n 0,.int ep 0],slots:=#[]}
theorem lF {sl i n:Nat} (h:s.heap.get? it=some (oW sl i a n ep)):s.TypeIs (.ref it) "set_iterator" := ⟨_,h,rfl⟩
def J3 (w:WC)(en:α->Int×Wg)(hk:α->Int)(ky:α->β)(it a:Addr)(ts:List α)(es:Array (Int×Wg))(ep:Nat)(i:Nat)(h:Heap):Prop :=
 ∃sl o t,h.get? it=some (oW sl i a es.size ep)/\h.get? a=some o/\e9 w en hk ky o ts es ep t/\(yb w=false->SetTable.below t.place sl=i)
theorem yH (DV:a≠it){i:Nat}{e:Int×Wg}{Q:Option Wg->Wi->Prop}(st:J3 w en hk ky it a ts es ep i s.heap)(he:(bN w a ep es)[i]?=some e)
  (q:∀h',J3 w en hk ky it a ts es ep (i+1) h'->Y0 it s.heap h'->Q (some e.2) {s with heap:=h'}):WT (model prog w) A (pyNext (.ref it)) Q E s:=by
 obtain⟨sl,o,t,hi,ho,S,hb⟩:=st;have hT:=lF hi;unfold pyNext;refine Wh (ZW (wpAny_callSpecial?_slot (name:=Str.ofString "__next__") hT bM (Yy bM hT gw ?_ (h8 _))));unfold Yb.«set_iterator.__next__»
 refine Wh (Wu ?_);refine Wh (wpAny_fieldsOf hi rfl ?_);dsimp only;refine Wh (wpAny_setEntries_of ho S.dat S.fits ?_);rw[if_neg (by simp)]
 refine Wh (k9 (i:=i) ho S (λz=>by simpa using hb z) (λe' L5 vh LI=>?_) λhn=>?_)
 ·rw[he]at L5;obtain rfl:=WR L5;dsimp only;refine Wh (wpAny_setField_rec hi (by simp) λh1 g1 Ks=>?_)
  refine Wh (wpAny_setField_rec (s:={s with heap:=h1}) g1 (by simp) λh2 g2 RX=>?_)
  refine Wu ⟨_,rfl,Wu (q h2 ⟨vh,o,t,?_,?_,S,LI⟩ (Ks.trans RX))⟩
  ·rw[g2];rfl
  ·rw[(Ks.trans RX).2 a DV];exact ho
 ·rw[he]at hn;cases hn
theorem CB (hh:A.handled=none)(DV:a≠it){i:Nat}{Q:Option Wg->Wi->Prop}(st:J3 w en hk ky it a ts es ep i s.heap)(he:(bN w a ep es)[i]?=none)
  (q:∀h',Heap.ExtBut it s.heap h'->Q none {s with heap:=h'}):WT (model prog w) A (pyNext (.ref it)) Q E s:=by
 obtain⟨sl,o,t,hi,ho,S,hb⟩:=st;have hT:=lF hi;unfold pyNext;refine Wh (ZW (wpAny_callSpecial?_slot (name:=Str.ofString "__next__") hT bM (Yy bM hT gw ?_ (h8 _))));unfold Yb.«set_iterator.__next__»
 refine Wh (Wu ?_);refine Wh (wpAny_fieldsOf hi rfl ?_);dsimp only;refine Wh (wpAny_setEntries_of ho S.dat S.fits ?_);rw[if_neg (by simp)]
 refine Wh (k9 (i:=i) ho S (λz=>by simpa using hb z) (λe' L5 vh LI=>?_) λhn=>?_)
 ·rw[he]at L5;cases L5
 ·dsimp only;refine Wh (wpAny_setField hi rfl (by simp) ?_)
  refine Wh ?_;simp only[newExc,newTuple];refine Wh (YL ?_ (by size_fits))
  refine Wh (m:=firstArgMember _ _) (wpAny_of_eq (a:=Value.none) (by first|rfl|(simp only[firstArgMember];rfl)) ?_)
  refine YL ?_ (by size_fits)
  simp only[raiseNew];refine Wh (wpAny_handled ?_);rw[show A.in1.handled=none from hh]
  refine Wh (Wu (wpAny_throw ?_));refine Wh (wpAny_isInstance (T:="StopIteration") (b:=true) ⟨_,W5 _ rfl,rfl⟩ isSubtype_stop ?_);exact Wu (q _ (((Heap.SameBut.update ..).extBut.push _).push _))
theorem yG {i:Nat}{Q:Wg->Wi->Prop}(st:J3 w en hk ky it a ts es ep i s.heap)(q:Q (.ref it) s):WT (model prog w) A (pyIter (.ref it)) Q E s:=by
 obtain⟨sl,o,t,hi,ho,S,hb⟩:=st;have hT:=lF hi;refine wpAny_pyIter_slot hT g7 (Yy g7 hT mf ?_ (m7 _));show WT _ _ (ret (.ref it)) _ _ s;exact Wu ⟨_,rfl,"set_iterator",_,hT,bM.lookup,q⟩
theorem wL (hh:A.handled=none)(DV:a≠it):Walks prog w A it [it,a] [it] es.size (λi v=>∃e,(bN w a ep es)[i]?=some e/\v=e.2) (J3 w en hk ky it a ts es ep) where
 sub:=λb hb=>by rw[Wx.mp hb];exact Wo
 frame:=λi h h' mU hk=>by obtain⟨sl,o,t,h1,h2,h3⟩:=mU;exact⟨sl,o,t,hk it Wo _ h1,hk a (Wm _ Wo) _ h2,h3⟩
 item:=λi s Q E hi st hQ=>by
  have hz:(bN w a ep es).size=es.size:=by
   have:=(gB w a ep es).length_eq;rw[Wr,Wr]at this;exact this
  have he:(bN w a ep es)[i]?=some (bN w a ep es)[i]:=getElem?_pos _ i (by lia)
  exact yH DV st he λh' aF sb=>hQ _ h' s.toks ⟨_,he,rfl⟩ aF λb o hb e=>sb.extBut b o (λz=>hb (by rw[z];exact Wx.mpr rfl)) e
 done:=λs Q E st hQ=>by
  have hz:(bN w a ep es).size=es.size:=by
   have:=(gB w a ep es).length_eq;rw[Wr,Wr]at this;exact this
  exact CB hh DV st (Yo (by lia)) λh' eb=>hQ h' s.toks λb o hb e=>eb b o (λz=>hb (by rw[z];exact Wx.mpr rfl)) e
 self:=λi s Q E st hQ=>yG st hQ
theorem iU (ho:s.heap.get? a=some o) (S:e9 w en hk ky o ts es ep t):s.TypeIs (.ref a) "set" := ⟨o,ho,S.ex.1⟩
theorem Ck (ho:s.heap.get? a=some o)(S:e9 w en hk ky o ts es ep t){Q:Wg->Wi->Prop}(q:Q (.ref s.heap.objs.size) {s with heap:=s.heap.push (oW 0 0 a es.size ep)}):
  WT (model prog w) A (pyIter (.ref a)) Q E s:=by
 have hT:=iU ho S;refine wpAny_pyIter_slot hT F.slot_set_iter (Yy F.slot_set_iter hT mh ?_ (F.args_set_iter_1 _));unfold Yb.«frozenset.__iter__» Builtin.Frozenset.slot0 Builtin.Frozenset.sizeOf;refine Wh (Wh (Wu (Wu ?_)));refine Wh (Wh (wpAny_setEntries_of ho S.dat S.fits (Wu ?_)));refine Wh (xh S ho ?_);rw[if_neg (by simp)]
 refine Wh (Wu ?_);refine Wh (wpAny_setEpoch_of ho S.dat S.fits ?_);unfold newFields;refine Wh (YL (Wu ⟨_,rfl,"set_iterator",_,⟨_,W5 _ rfl,rfl⟩,bM.lookup,?_⟩) (by size_fits))
 exact q
theorem Cm (ho:s.heap.get? a=some o)(S:e9 w en hk ky o ts es ep t){Q:Bool->Wi->Prop}(q:Q false s):WT (model prog w) A (Builtin.List.listLengthHint (.ref a)) Q E s:=by
 have hT:=iU ho S;unfold Builtin.List.listLengthHint;refine Wh (wpAny_specialOf hT PySem.F.slot_set_len.lookup ?_);generalize SV:("set.__len__" : String)=Uv
 wp_delta
 rw[show splitId Uv=some ("set","__len__") from by subst SV;decide +kernel]
 subst SV;refine Wh (wpAny_isInstance (T:="set") (b:=true) hT (by rw[isSubtype_type];kernel_rfl) ?_)
 refine wpAny_ite_split (λFy=>absurd Fy (by decide)) (λ_=>?_)
 refine wpAny_ite_split (λ_=>?_) (λFy=>absurd (by decide +kernel) Fy)
 refine Wh (wpAny_typeOf hT ?_);exact Wu q
theorem CG (prog:Wq)(S:e9 w en hk ky o ts es ep t):
  PySem.W.KdlSrc prog w "set" a a es.size (λi v=>∃e,(bN w a ep es)[i]?=some e/\v=e.2) (λh=>h.get? a=some o) where
 type:=λs ho=>iU ho S
 there:=λh ho=>⟨WB ho,WB ho⟩
 keep:=λh h' ho hk=>hk a (.inl rfl) _ ho
 notList:=by decide
 notTuple:=by decide
 hint:=λA E s Q ho q=>Cm ho S q
 iter:=λA s hh ho=>⟨oW 0 0 a es.size ep,J3 w en hk ky s.heap.objs.size a ts es ep,λE Q q=>Ck ho S q,wL hh (WZ (WB ho)),
  0,o,t,W5 _ rfl,Ww _ ho,S,λ_=>by
   obtain⟨b1,b2,b3⟩:=fD S.wf.wU 0;rcases Nat.eq_zero_or_pos (SetTable.below t.place 0)with z|z
   ·exact z
   ·have:=b2 0 z;lia⟩
theorem qS {α β:Type}{f:α->β}:∀{ts:List α} {l:List β},l.Perm (ts.map f)->∃us:List α,us.Perm ts/\l=us.map f
 |[],l,h=>⟨[],.refl _,List.perm_nil.mp h⟩
 |x::ts,l,h=>by
  obtain⟨l1,l2,rfl⟩:=List.append_of_mem (h.mem_iff.mpr (show f x∈(x::ts).map f from Wo))
  have h':(l1++l2).Perm (ts.map f):=(Z8.symm.trans h).cons_inv;obtain⟨us,h1,h2⟩:=qS h';obtain⟨u1,u2,rfl,e1,e2⟩:=List.map_eq_append_iff.mp h2.symm;refine⟨u1++x::u2,Z8.trans (h1.cons x),?_⟩;rw[XB,W3,e1,e2]
theorem qr (ho:s.heap.get? a=some o)(S:e9 w en hk ky o ts es ep t)(hn:ts.length<=1000):
  ∃us:List α,us.Perm ts/\∀(A:Xg) (E:Wg->Wi->Prop) (R:List Wg->Wi->Prop),A.handled=none->(∀(h':Heap) (tk:Nat),(∀b o,s.heap.get? b=some o->h'.get? b=some o)->R (us.map λx=>(en x).2) {s with heap:=h',toks:=tk}) ->
  WT (model prog w) A (collect (.ref a)) R E s:=by
 have hw:=gB w a ep es;rw[S.Jg]at hw;obtain⟨us,h1,h2⟩:=qS hw;refine⟨us,h1,λA E R hh q=>?_⟩;refine PySem.W.kdu_collect (CG prog S) hh ho (by rw[S.size.1,WY];lia) λh' tk acc hk L_=>?_
 have e:acc.toList=us.map λx=>(en x).2:=by
  have hz:(bN w a ep es).size=es.size:=by
   have:=(gB w a ep es).length_eq;rw[Wr,Wr]at this;exact this
  have e2:us.map (λx=>(en x).2)=(bN w a ep es).toList.map (·.2):=by
   rw[h2,W6];rfl
  rw[e2];apply Yu;intro i;rw[WH,WM,WM]
  by_cases hi:i<acc.size
  ·obtain⟨x,g1,g2⟩:=L_.2 i acc[i] (getElem?_pos acc i hi);rw[getElem?_pos acc i hi,g1,g2];rfl
  ·have:=L_.1;rw[Yo (by lia),Yo (by lia)]
   rfl
 rw[e];exact q h' tk hk
end
section
variable {prog:Wq}{w:WC}{A:Xg}{E:Wg->Wi->Prop}{s:Wi}
variable {o:Obj}{ts:List (Addr×List Int)}{es:Array (Int×Wg)}{ep:Nat}{t:SetTable}
def ip (w:WC):Obj:={cls:=.type "set",dict:=none,data:=.set #[] 0 (.fresh 0 0 (!yb w))}
theorem vJ {α β:Type}{en:α->Int×Wg}{hk:α->Int}{ky:α->β}(w:WC):e9 w en hk ky (ip w) [] #[] 0 (.fresh 0 0 (!yb w)) where
 ex:=⟨rfl,rfl,rfl⟩
 dat:=rfl
 Jg:=rfl
 wf:=⟨rfl,rfl,λi j _ hj=>absurd hj (Nat.not_lt_zero _),λi hi=>absurd hi (Nat.not_lt_zero _),⟨3,Wl _,rfl⟩,WJ _,λi h hi=>by simp at hi⟩
 N_:=by show 0*5<7*3;decide
 Fg:=by show 7<=8191;decide
 led:=rfl
 JH:=rfl
 Lj:=Xx
theorem Dy (prog:Wq)(w:WC):kO prog w (ip w) [] #[] 0 (.fresh 0 0 (!yb w)):=vJ w
theorem zU {xs:List Wg} {R:Wg->Wi->Prop} (hc:Z7 "set.__new__" ⟨.type "set" :: xs,[]⟩=pure ()) (hx:xs=[]\/∃v,xs=[v]) (q:R (.ref s.heap.objs.size) {s with heap:=s.heap.push (ip w)}) :
  Zo (model prog w) A (.call (.builtin "set.__new__") ⟨.type "set" :: xs,[]⟩) (wants R E) s:=by
 refine codeAny_of_tree ?_;show WT _ A.in1 (Z7 "set.__new__" ⟨.type "set" :: xs,[]⟩ >>= λ_=>again (.builtin "set.__new__" ⟨.type "set" :: xs,[]⟩)) _ _ s;refine Wh (wpAny_of_eq hc (Wu ⟨plainId_quiet F.plain_set_new _,Zu F.entry_set_new ?_⟩));rw[Around.under_plainId F.plain_set_new _];unfold Yb.«set.__new__» Builtin.Frozenset.newClass;have TQ:=sub_set_self;obtain⟨hp,gs,dr,tk,os⟩:=s;rcases hx with rfl|⟨v,rfl⟩
 all_goals
  dsimp only
  wp_walk
  refine Z6 (Wu ?_);dsimp only;simp only[newObj];exact Wh (wpAny_alloc (Wu (Wu q)))
section
variable {α β:Type}{en:α->Int×Wg}{hk:α->Int}{ky:α->β}
theorem zX {X:Nat->α->Prop}{J:Heap->Prop}{I:Addr}{fp wr:List Addr}{G:Array GenState->Array GenState->Prop}{St:Nat->Wi->Prop}{R:Result->Wi->Prop}
  {n:Nat} {P:Nat->Wg->Prop} (W:WalksS prog w A.in1 I fp wr G n P St) (hP:∀(i:Nat) (v:Wg),P i v->∃x,X i x/\v=(en x).2) (hX:∀i x y,X i x->X i y->ky x=ky y) (sa:Addr) (SG:sa∉fp)
  (hJ:∀h h':Heap,J h->(∀c oc,c∉sa::wr->h.get? c=some oc->h'.get? c=some oc)->J h')
  (add:∀(s:Wi) (E:Wg->Wi->Prop) (Q:Bool->Wi->Prop) (o:Obj) (ts:List α) (es:Array (Int×Wg)) (ep:Nat) (t:SetTable) (x:α),J s.heap->s.heap.get? sa=some o->e9 w en hk ky o ts es ep t->(∀y∈ts,∃m,X m y)->(∃m,X m x)->ts.length<n ->
   JD w en hk ky sa s ts x Q->WT (model prog w) A.in1 (setAdd sa (en x).2) Q E s) :
  ∀(d i:Nat) (s:Wi) (o:Obj) (ts:List α) (es:Array (Int×Wg)) (ep:Nat) (t:SetTable),n-i=d->i<=n->St i s->J s.heap->s.heap.get? sa=some o->e9 w en hk ky o ts es ep t ->
   (∀y∈ts,∃m,X m y)->(∀m x,m<i->X m x->∃y∈ts,ky y=ky x)->ts.length<=i ->
   (∀s' o' bA hV pR t',Moved (sa::wr) G s s'->s'.heap.get? sa=some o'->e9 w en hk ky o' bA hV pR t'->(∀y∈bA,∃m,X m y)->(∀m x,m<n->X m x->∃y∈bA,ky y=ky x)->bA.length<=n->R (.ok (.ret .none)) s') ->
   Zo (model prog w) A (.builtin "set.update.loop" ⟨[.ref sa,.ref I],[]⟩) R s:=by
 have B9:sa∉wr:=λz=>SG (W.sub _ z);have up:∀x∈wr,x∈sa::wr:=λx hx=>Wm _ hx;intro d
 induction d with
 |zero =>
  intro i s o ts es ep t hd hi st T ho S k1 k2 k3 hR;obtain rfl:i=n:=by lia
  refine Zu F.entry_set_update_loop ?_;rw[Around.under_plainId F.plain_set_update_loop _];show WT _ A.in1 (pyNext (.ref I) >>= _) _ _ s;refine Wh (W.done s _ _ st λs' mv=>?_);exact Wu (hR s' o ts es ep t (mv.mono up) (mv.heap sa _ B9 ho) S k1 k2 k3)
 |succ d ih =>
  intro i s o ts es ep t hd hi st T ho S k1 k2 k3 hR;refine Zu F.entry_set_update_loop ?_;rw[Around.under_plainId F.plain_set_update_loop _];show WT _ A.in1 (pyNext (.ref I) >>= _) _ _ s;refine Wh (W.item i s _ _ (by lia) st λv s1 hv Ko mv=>?_)
  obtain⟨x,hx,rfl⟩:=hP i v hv;refine Wh (Xv (add s1 _ _ o ts es ep t x (hJ _ _ T λc oc hc e=>mv.heap c oc (λz=>hc (up c z)) e) (mv.heap sa _ B9 ho) S k1 ⟨i,hx⟩ (by lia) λh' o' bA hV pR t' added tk r0 r1 r2 r3 r4 r5=>?_))
  have keep:∀c oc,c≠sa->s1.heap.get? c=some oc->h'.get? c=some oc:=λc oc hc e=>by rw[r1.2 c hc];exact e
  have step:(∀y∈bA,∃m,X m y)/\(∀m z,m<i+1->X m z->∃y∈bA,ky y=ky z)/\bA.length<=i+1:=by
   by_cases qi:∃y∈ts,ky y=ky x
   ·rw[r4 qi];refine⟨k1,λm z hm hz=>?_,by lia⟩
    rcases XW m i with q|q
    ·exact k2 m z q hz
    ·obtain rfl:m=i:=by lia
     rw[hX m z x hz hx];exact qi
   ·have pm:=r5 λy hy e=>qi ⟨y,hy,e⟩;refine⟨λy hy=>?_,λm z hm hz=>?_,by rw[pm.length_eq,Wz];lia⟩
    ·rcases Ws.mp (pm.mem_iff.mp hy)with rfl|q
     ·exact⟨i,hx⟩
     ·exact k1 y q
    ·rcases XW m i with q|q
     ·obtain⟨u,hu,e⟩:=k2 m z q hz;exact⟨u,pm.mem_iff.mpr (Wm _ hu),e⟩
     ·obtain rfl:m=i:=by lia
      exact⟨x,pm.mem_iff.mpr Wo,hX m x z hx hz⟩
  have Sr:Moved (sa::wr) G s {s1 with heap:=h',toks:=tk} :=
   (mv.mono up).then_heap r0 λc oc hc e=>keep c oc (λz=>hc (by rw[z];exact Wo)) e
  exact Wu ⟨plainId_quiet F.plain_set_update_loop _,ih (i+1) _ o' bA hV pR t' (by lia) (by lia) (W.frame _ s1 _ _ Ko r0 λc hc oc e=>keep c oc (λz=>SG (by rw[<- z];exact hc)) e) (hJ _ _ T λc oc hc e=>Sr.heap c oc hc e) r2 r3 step.1 step.2.1 step.2.2 λs' o2 Tx Vn Vp t2 m1=>hR s' o2 Tx Vn Vp t2 (Moved.trans W.gtrans Sr m1)⟩
end
end
section
variable {prog:Wq}{w:WC}{A:Xg}{E:Wg->Wi->Prop}{s:Wi}
theorem xP {α β:Type}{en:α->Int×Wg}{hk:α->Int}{ky:α->β}{X:Nat->α->Prop}{l:Addr}{its:Array Wg}{Q:Wg->Wi->Prop}(hh:A.handled=none)(hl:s.heap.IsList l its)
  (hP:∀(i:Nat) (v:Wg),its[i]?=some v->∃x,X i x/\v=(en x).2) (hX:∀i x y,X i x->X i y->ky x=ky y)
  (add:∀(B:Xg) (s1:Wi) (E:Wg->Wi->Prop) (Q:Bool->Wi->Prop) (a:Addr) (o:Obj) (ts:List α) (es:Array (Int×Wg)) (ep:Nat) (t:SetTable) (x:α),B.units<=A.units+3->(∀c oc,s.heap.get? c=some oc->s1.heap.get? c=some oc)->s1.heap.get? a=some o->e9 w en hk ky o ts es ep t->(∀y∈ts,∃m,X m y)->(∃m,X m x)->ts.length<its.size ->
   JD w en hk ky a s1 ts x Q->WT (model prog w) B (setAdd a (en x).2) Q E s1)
  (q:∀(h':Heap) (tk:Nat) (o':Obj) (ts:List α) (es:Array (Int×Wg)) (ep:Nat) (t:SetTable),(∀c oc,s.heap.get? c=some oc->h'.get? c=some oc)->h'.get? s.heap.objs.size=some o'->e9 w en hk ky o' ts es ep t ->
   (∀y∈ts,∃m,X m y)->(∀m x,m<its.size->X m x->∃y∈ts,ky y=ky x)->ts.length<=its.size->Q (.ref s.heap.objs.size) {s with heap:=h',toks:=tk}) :
  WT (model prog w) A (call (.type "set") [.ref l]) Q E s:=by
 obtain⟨cx,VS,Ul⟩:=F.called_set.mro;have Ss:=F.called_set.made;have TN:=F.called_set.sub;refine ZD (codeAny_of_tree ?_);show WT _ _ (callAny (.type "set") _) _ _ _;refine Wu ⟨Code.quiet_builtin _ (by decide +kernel),Zu F.entry_type_call ?_⟩
 rw[Around.under_plain (weight_type_call_type "set" [.ref l] []) rfl];have t1:=F.called_set.notType;have t2:=F.called_set.canCreate;have t3:=F.typeCall_set_1 (.ref l)
 repeat (any_goals (first|assumption|wp_step))
 have ls:l<s.heap.objs.size:=by obtain⟨ol,Qu,_⟩:=hl;exact WB Qu
 refine YY (zU (w:=w) (E:=E) (xs:=[.ref l]) (R:=λob sx=>ob=.ref s.heap.objs.size/\sx={s with heap:=s.heap.push (ip w)}) (F.newCall_set_1 _) (.inr ⟨_,rfl⟩) ⟨rfl,rfl⟩) λr sx hr=>?_
 cases r with
 |error e=>exact hr
 |ok fl =>
  cases fl with
  |ret ob =>
   obtain⟨rfl,rfl⟩:=hr;have hS:(s.heap.push (ip w)).get? s.heap.objs.size=some (ip w):=W5 _ rfl;have hT:Shared.TypeIs {s with heap:=s.heap.push (ip w)} (.ref s.heap.objs.size) "set" := ⟨_,hS,rfl⟩
   have i1:=F.called_set.init.lookup;have i2:=F.called_set.init.bind (.ref s.heap.objs.size)
   repeat (any_goals (first|assumption|wp_step))
   refine YY (codeAny_call_builtin (R:=wants (λr s2=>r=.none/\Q (.ref s.heap.objs.size) s2) E) F.called_set.init.plain F.entry_set_init (check_set_init_1 hT ?_)) λr2 s2 pL=>?_
   ·obtain⟨ol,Qu,Fw,nl,S3⟩:=hl;obtain⟨c1,c2,c3,c4⟩:=ol;simp only at Fw S3;subst Fw S3;have Qs:(s.heap.push (ip w)).get? l=some {cls:=.type "list",dict:=c2,data:=.seq its nl,slots:=c4}:=Ww _ Qu;have u1:=F.sub_list_set;have u2:=F.sub_list_frozenset;have u3:(Value.type "list" == Value.type "dict")=false:=by decide
    have LR:(s.heap.push (ip w)).IsList l its:=⟨_,Qs,rfl,nl,rfl⟩;unfold Yb.«set.__init__» noKeywords Builtin.Frozenset.updateFrom;generalize Ve:pyIter=PI
    wp_walk
    subst Ve;refine ZN LR ?_;refine Wh (wpAny_runValue ?_);have UB:A.in1.in1.in1.handled=none:=by simp[hh]
    have nI:l≠(s.heap.push (ip w)).objs.size:=by rw[Heap.size_push];exact WZ (ZR ls)
    have hf:s.heap.objs.size∉[(s.heap.push (ip w)).objs.size,l]:=by
     rw[Heap.size_push];simp only[Ws,X9,or_false,not_or];exact⟨WZ (Nat.lt_succ_self _),Nat.ne_of_gt ls⟩
    have nw:∀c oc,s.heap.get? c=some oc->c∉s.heap.objs.size::[(s.heap.push (ip w)).objs.size]:=λc oc e z=>by
     have hc:=WB e;rcases Ws.mp z with z|z
     ·exact absurd z (WZ hc)
     ·have z:=Wx.mp z;rw[Heap.size_push]at z;exact absurd z (WZ (ZR hc))
    refine zX (J:=λh=>∀c oc,s.heap.get? c=some oc->h.get? c=some oc) ((Walks.list UB _ l nI _).toS) hP hX s.heap.objs.size hf (λh h' k kp c oc e=>kp c oc (nw c oc e) (k c oc e)) (λs1 E Q o ts es ep t x=>add _ s1 E Q s.heap.objs.size o ts es ep t x (Wl _)) its.size 0 _ (ip w) [] #[] 0 _ rfl (WJ _) ⟨⟨_,W5 _ rfl,rfl,rfl⟩,LR.push _⟩ (λc oc e=>Ww _ (Ww _ e)) (Ww _ hS) (vJ w) (λx hx=>by cases hx) (λm x hm=>by lia) (WJ _) λs' o' bA hV pR t' m1 m2 m3 m4 m5 m6=>?_
    obtain⟨h',g',d',MU,OB⟩:=s';have eg:g'=s.gens:=m1.gens;have ed:d'=s.drawn:=m1.drawn;have eo:OB=s.os:=m1.os;subst eg ed eo;exact Wu (Wu ⟨rfl,q h' MU o' bA hV pR t' (λc oc e=>m1.heap c oc (nw c oc e) (Ww _ (Ww _ e))) m2 m3 m4 m5 m6⟩)
   ·cases r2 with
    |error e=>exact pL
    |ok Vi =>
     cases Vi with
     |ret r =>
      obtain⟨rfl,hq⟩:=pL
      repeat (any_goals (first|assumption|wp_step))
     |_=>exact pL.elim
  |_=>exact hr.elim
theorem xO {l:Addr}{vs:List (Addr×List Int)}{Q:Wg->Wi->Prop}(hh:A.handled=none)(hu:A.units+16<Za)(hl:s.heap.IsList l (vs.map λx=>Value.ref x.1).toArray)(hn:vs.length<1000)(T:Jz prog w s.heap vs)
  (q:∀(h':Heap) (tk:Nat) (o':Obj) (ts:List (Addr×List Int)) (es:Array (Int×Wg)) (ep:Nat) (t:SetTable),(∀c oc,s.heap.get? c=some oc->h'.get? c=some oc)->h'.get? s.heap.objs.size=some o'->kO prog w o' ts es ep t ->
   (∀x∈ts,x∈vs)->(∀x∈vs,∃y∈ts,y.2=x.2)->Q (.ref s.heap.objs.size) {s with heap:=h',toks:=tk}) :
  WT (model prog w) A (call (.type "set") [.ref l]) Q E s:=by
 refine xP (en:=ent prog w) (hk:=λx=>kH prog w x.2) (ky:=λx=>x.2) (X:=λi x=>vs[i]?=some x) hh hl (λi v hv=>?_) (λi x y h1 h2=>by rw[WR (h1.symm.trans h2)]) (λB s1 E Q a o ts es ep t x hB kp ho S h1 h2 h3 q=>?_) λh' tk o' ts es ep t k m2 m3 m4 m5 m6=>?_
 ·rw[List.getElem?_toArray,WH]at hv;obtain⟨x,e1,e2⟩:=WQ.mp hv;exact⟨x,e1,e2.symm⟩
 ·have old:∀y,(∃m:Nat,vs[m]?=some y)->(TK prog w).is s1.heap y.2 y.1:=λy h=>by
   obtain⟨m,hm⟩:=h;obtain⟨oy,its,n,g1,g2⟩:=T y (W_ hm);exact⟨oy,its,n,kp _ _ g1,g2⟩
  exact yp ho S (λy hy=>old y (h1 y hy)) (old x h2) (by lia) (by simp at h3;lia) q
 ·refine q h' tk o' ts es ep t k m2 m3 (λx hx=>?_) λx hx=>?_
  ·obtain⟨m,hm⟩:=m4 x hx;exact W_ hm
  ·obtain⟨m,hm⟩:=YU hx;exact m5 m x (by simpa using (WI.mp hm).1) hm
end
end ST
namespace TS
open PySem PyProof.Rows
section
variable {prog:Wq}{w:WC}{A:Xg}{E:Wg->Wi->Prop}{s:Wi}
theorem tW {x:Wg}{vs:List Wg}{kf:Wg->List Int}{Q:Wg->Wi->Prop}(hz:vs.length<=1000000)
  (col:∀(R:List Wg->Wi->Prop),(∀(h':Heap) (tk:Nat),(∀b o,s.heap.get? b=some o->h'.get? b=some o)->R vs {s with heap:=h',toks:=tk})->WT (model prog w) A.in1 (collect x) R E s)
  (T:m8 s.heap kf s.heap.objs.size vs)
  (h:∀(out:List Wg) (h1 h':Heap) (tk:Nat) (n:Nat),out.Perm vs->out.Pairwise (λx y=>HT.lexLt (kf y) (kf x)=false)->(∀b o,s.heap.get? b=some o->h1.get? b=some o)->(∀b o,h1.get? b=some o->h'.get? b=some o)->h'.get? h1.objs.size=some (Yz "list" out.toArray n)->Q (.ref h1.objs.size) {s with heap:=h',toks:=tk}) :
  WT (model prog w) A (call (.builtin "sorted") [x]) Q E s:=by
 refine Calls.call_function_entry kind_sorted plain_sorted entry_sorted (args_sorted1 _) ?_;unfold Yb.«sorted»
 refine Wh (m:=checkCount "sorted" 1 1 _) (Wu ?_);refine Wh (col _ λh' tk kp=>?_);have nl:vs.length<=WA:=by rw[WY];lia
 refine Wh (wpAny_newList ?_ nl);have hl:(h'.push (Yz "list" vs.toArray 0)).get? h'.objs.size=some (Yz "list" vs.toArray 0):=W5 _ rfl;have T':m8 (h'.push (Yz "list" vs.toArray 0)) kf h'.objs.size vs:=λv hv=>by
  obtain⟨t,o,xs,k,e1,_,e3,r⟩:=T v hv;exact⟨t,o,xs,k,e1,WZ (WB (kp _ _ e3)),Ww _ (kp _ _ e3),r⟩
 refine Wh (Xv (Yy slot_list_sort ⟨_,hl,rfl⟩ entry_list_sort (lW (s:={s with heap:=h'.push (Yz "list" vs.toArray 0),toks:=tk}) hl hz T' λout hp hs=>⟨_,rfl,?_⟩) (args_list_sort _)))
 obtain⟨n,hn⟩:=sortedHeap_at (out:=out.toArray) hl;refine Wu ⟨_,rfl,h out h' _ tk n hp hs kp (λb o e=>?_) hn⟩;have hb:=WB e;rw[sortedHeap_old (WZ hb) (by rw[size_push'];exact ZR hb)]
 exact Ww _ e
end
end TS
namespace L2
open PySem PySem.Spec PySem.SeqAt PyProof.Rows HT
theorem nO:∀a:List Int,lexLt a a=false
 |[]=>rfl
 |x::xs=>by rw[dO,if_pos rfl];exact nO xs
theorem dP:∀{a b:List Int},lexLt a b=false->lexLt b a=false->a=b
 |[],[],_,_=>rfl
 |[],_::_,h,_=>by cases h
 |_::_,[],_,h=>by cases h
 |x::xs,y::ys,h1,h2=>by
  rw[dO]at h1 h2
  by_cases e:x=y
  ·subst e;rw[if_pos rfl]at h1 h2;rw[dP h1 h2]
  ·rw[if_neg e]at h1;rw[if_neg (λz=>e z.symm)]at h2;have:=of_decide_eq_false h1;have:=of_decide_eq_false h2;omega
theorem iw:∀{a b:List Int},lexLt a b=true->lexLt b a=false
 |[],[],h=>by cases h
 |[],_::_,_=>rfl
 |_::_,[],h=>by cases h
 |x::xs,y::ys,h=>by
  rw[dO]at h ⊢
  by_cases e:x=y
  ·subst e;rw[if_pos rfl]at h ⊢
   exact iw h
  ·rw[if_neg e]at h;rw[if_neg (λz=>e z.symm)];have:=of_decide_eq_true h;exact decide_eq_false (by lia)
theorem gj:∀{a b c:List Int},lexLt a b=true->lexLt b c=true->lexLt a c=true
 |[],[],_,h,_=>by cases h
 |[],_::_,[],_,h=>by cases h
 |[],_::_,_::_,_,_=>rfl
 |_::_,[],_,h,_=>by cases h
 |x::xs,y::ys,[],_,h=>by cases h
 |x::xs,y::ys,z::zs,h1,h2=>by
  rw[dO]at h1 h2 ⊢
  by_cases e:x=y
  ·subst e;rw[if_pos rfl]at h1
   by_cases e2:x=z
   ·subst e2;rw[if_pos rfl]at h2 ⊢
    exact gj h1 h2
   ·rw[if_neg e2]at h2 ⊢
    exact h2
  ·rw[if_neg e]at h1;have q1:=of_decide_eq_true h1
   by_cases e2:y=z
   ·subst e2;rw[if_neg e];exact h1
   ·rw[if_neg e2]at h2;have q2:=of_decide_eq_true h2;rw[if_neg (by omega)]
    exact decide_eq_true (by omega)
noncomputable def uu (k:List Int):List (List Int)->List (List Int)
 |[]=>[k]
 |x::xs=>if lexLt x k=true then x::uu k xs else k::x::xs
def eF:List (List Int)->List (List Int)
 |[]=>[]
 |k::ks=>uu k (eF ks)
theorem jQ (k:List Int):∀xs,(uu k xs).Perm (k::xs)
 |[]=>.refl _
 |x::xs=>by
  unfold uu
  split
  ·exact((jQ k xs).cons x).trans (List.Perm.swap _ _ _)
  ·exact .refl _
theorem cq:∀ks,(eF ks).Perm ks
 |[]=>.refl _
 |k::ks=>(jQ k (eF ks)).trans ((cq ks).cons k)
abbrev qd (ks:List (List Int)):Prop:=ks.Pairwise λx y=>HT.lexLt y x=false
theorem le_trans' {a b c:List Int}(h1:lexLt b a=false)(h2:lexLt c b=false):lexLt c a=false:=by
 cases h:lexLt c a with
 |false=>rfl
 |true =>
  cases hb:lexLt a b with
  |true=>rw[gj h hb]at h2;cases h2
  |false =>
   have:=dP hb h1;subst this;rw[h]at h2;cases h2
theorem nV (k:List Int):∀xs,qd xs->qd (uu k xs)
 |[],_=>by simp[uu]
 |x::xs,h=>by
  obtain⟨h1,h2⟩:=XX.mp h;unfold uu
  split
  ·rename_i hx
   refine XX.mpr ⟨λy hy=>?_,nV k xs h2⟩;rcases Ws.mp ((jQ k xs).mem_iff.mp hy)with rfl|hy
   ·exact iw hx
   ·exact h1 y hy
  ·rename_i hx
   have JQ:lexLt x k=false:=by cases q:lexLt x k <;> simp_all
   refine XX.mpr ⟨λy hy=>?_,h⟩;rcases Ws.mp hy with rfl|hy
   ·exact JQ
   ·exact le_trans' JQ (h1 y hy)
theorem fS:∀ks,qd (eF ks)
 |[]=>.nil
 |k::ks=>nV k _ (fS ks)
theorem j4:∀{a b:List (List Int)},a.Perm b->qd a->qd b->a=b
 |[],b,p,_,_=>by rw[List.nil_perm.mp p]
 |x::a,[],p,_,_=>by have:=p.length_eq;simp at this
 |x::a,y::b,p,ha,hb=>by
  obtain⟨a1,a2⟩:=XX.mp ha;obtain⟨b1,b2⟩:=XX.mp hb;have Pn:x=y:=by
   rcases Ws.mp (p.mem_iff.mp (Wo (a:=x) (l:=a)))with h|h
   ·exact h
   ·rcases Ws.mp (p.mem_iff.mpr (Wo (a:=y) (l:=b)))with h' | h'
    ·exact h'.symm
    ·exact dP (b1 x h) (a1 y h')
  subst Pn;rw[j4 (List.perm_cons x |>.mp p) a2 b2]
theorem tV {a b:List (List Int)}(p:a.Perm b)(h:qd a):a=eF b:=j4 (p.trans (cq b).symm) h (fS b)
def jx:List (List Int)->List (List Int)
 |[]=>[]
 |k::ks=>if k∈jx ks then jx ks else k::jx ks
theorem cE:∀l:List (List Int),(jx l).Nodup/\∀x,x∈jx l↔x∈l
 |[]=>⟨Xx,λ_=>Iff.rfl⟩
 |k::ks=>by
  obtain⟨h1,h2⟩:=cE ks;unfold jx
  split
  ·rename_i h
   refine⟨h1,λx=>?_⟩;rw[h2 x,Ws];exact⟨.inr,λz=>z.elim (λe=>by rw[e];exact(h2 k).mp h) id⟩
  ·rename_i h
   refine⟨Xe.mpr ⟨h,h1⟩,λx=>?_⟩;rw[Ws,Ws,h2 x]
theorem pS:∀l:List (List Int),(jx l).length<=l.length
 |[]=>Wl _
 |k::ks=>by
  have:=pS ks;unfold jx
  split
  ·exact Zf this
  ·simpa using this
abbrev kD (k:List Int):D:=.tup (k.map D.int)
noncomputable def d7:List D->Option (List (List Int))
 |[]=>some []
 |.tup a::ds=>match c9 a,d7 ds with
  |some k,some ks=>if k=[] then none else some (k::ks)
  |_,_=>none
 |_::_=>none
theorem l3:∀{ds:List D} {ks:List (List Int)},d7 ds=some ks->ds=ks.map kD/\∀k∈ks,k≠[]
 |[],_,h=>by cases h;exact⟨rfl,λ_ z=>nomatch z⟩
 |.tup a::ds,ks,h=>by
  have h':(match c9 a,d7 ds with|some k,some ks=>if k=[] then none else some (k::ks)|_,_=>none)=some ks:=h
  cases ea:c9 a with
  |none=>rw[ea]at h';cases h'
  |some k =>
   cases eb:d7 ds with
   |none=>rw[ea,eb]at h';cases h'
   |some kr =>
    rw[ea,eb]at h'
    by_cases hk:k=[]
    ·simp[hk]at h'
    ·simp only[hk,if_false,Option.some.injEq]at h';subst h';obtain⟨h1,h2⟩:=l3 eb;rw[W3,<- h1,jl ea];refine⟨rfl,λx hx=>?_⟩;rcases Ws.mp hx with rfl|hx
     ·exact hk
     ·exact h2 x hx
 |.bE::_,_,h=>by cases h
 |.bl _::_,_,h=>by cases h
 |.str _::_,_,h=>by cases h
 |.obj _::_,_,h=>by cases h
 |.int _::_,_,h=>by cases h
 |.lst _::_,_,h=>by cases h
 |.dT _ _::_,_,h=>by cases h
 |.dK _ _::_,_,h=>by cases h
 |.sT _::_,_,h=>by cases h
 |.ob _::_,_,h=>by cases h
theorem jN:∀{ks:List (List Int)},(∀k∈ks,k≠[])->d7 (ks.map kD)=some ks
 |[],_=>rfl
 |k::ks,h=>by
  show (match c9 (k.map D.int),d7 (ks.map kD)with|some k,some ks=>if k=[] then none else some (k::ks)|_,_=>none)=_
  rw[gR,jN λx hx=>h x (Wm _ hx)];simp[h k (Wo ..)]
section
variable {P:Wq}{w:WC}{W:Addr->Prop}{H:Hp}
theorem jM:∀{ks:List (List Int)} {vs:List V},(∀k∈ks,k≠[])->ao P w W H (ks.map kD) vs->∃ts:List (Addr×List Int),vs=ts.map qz/\xW H ts/\ts.map (·.2)=ks
 |[],_,_,h=>⟨[],h,(λ_ z=>nomatch z),rfl⟩
 |k::ks,_,hk,l_=>by
  obtain⟨v,r,e,⟨a,us,e1,e2,e3⟩,h2⟩:=l_;obtain⟨ts,q1,q2,q3⟩:=jM (λx hx=>hk x (Wm _ hx)) h2;refine⟨(a,k)::ts,by rw[e,e1,q1];rfl,λt ht=>?_,by rw[W3,q3]⟩
  rcases Ws.mp ht with rfl|ht
  ·rw[ck e3]at e2;exact⟨e2,hk k (Wo ..)⟩
  ·exact q2 t ht
theorem gJ:∀{ts:List (Addr×List Int)},(∀t∈ts,H t.1=some (.tup (t.2.map V.int)))->ao P w W H ((ts.map (·.2)).map kD) (ts.map qz)
 |[],_=>rfl
 |t::ts,h=>⟨_,_,rfl,⟨t.1,_,rfl,h t (Wo ..),nU t.2⟩,gJ λx hx=>h x (Wm _ hx)⟩
noncomputable def pV:List D->Option D
 |[.lst ds]=>match d7 ds with
  |some ks=>if ks.length<=1000000 then some (.lst ((eF ks).map kD)) else none
  |none=>none
 |[.sT ts]=>if ts.length<=1000/\(∀k∈ts,k≠[]) then some (.lst ((eF ts).map kD)) else none
 |_=>none
theorem Ag:∀{ns:List Int} {its:List Wg},Vals (ns.map V.int) its->ItemsAre (intKind P w) ns its
 |[],_,.nil=>.nil
 |n::ns,_,.cons r t=>by
  obtain⟨tk,rfl⟩:=r;exact .cons (by show Value.isInt n (.int n tk)=true;simp[Value.isInt]) (Ag t)
theorem tR {h:Heap}{ts:List (Addr×List Int)}(ok:h9 P w H h)(T:∀t∈ts,H t.1=some (.tup (t.2.map V.int))):ST.Jz P w h ts:=λt ht=>by
 obtain⟨_,its,r,o,ho,hc,n,hd⟩:=(show cT P w H h t.1 (.tup (t.2.map V.int)) from ok _ _ (T t ht))
 refine⟨o,its.toArray,n,ho,hc,hd,?_⟩;exact Ag r
def FI:List D->Option D
 |[.lst ds]=>match d7 ds with
  |some ks=>if ks.length<1000 then some (.sT (jx ks)) else none
  |none=>none
 |_=>none
end
section
end
theorem oE {X:Cx} (hc:X.calm=true) (hu:X.A.units+16<Za):aX X (.type "set") FI:=by
 intro pins s σ H xs us Q I r h;obtain⟨W,ds,d,hd,r1,e,q⟩:=h
 match ds,e with
 |[.lst es],e =>
  have e':(match d7 es with|some ks=>if ks.length<1000 then some (D.sT (jx ks)) else none|none=>none)=some d:=e
  cases ek:d7 es with
  |none=>rw[ek]at e';cases e'
  |some ks =>
   rw[ek]at e';obtain⟨hl,rfl⟩:=cc e';obtain⟨rfl,hk⟩:=l3 ek;obtain⟨x,rfl,p,vs,rfl,hp,n1,q1⟩:=kA r1;obtain⟨ts,rfl,T,rfl⟩:=jM hk q1;obtain⟨u,rfl,rx⟩:=vals1 r;cases rx;obtain⟨its,r',pl,hz⟩:=I.list (eC.of hp);obtain rfl:=jA r';refine ST.xO (w:=X.w) (I.ok.hd hc) hu pl.isList (by simpa using hl) (tR I.bq λt ht=>(T t ht).1) λh' tk o' bA es ep t kp ho S m1 m2=>?_
   have IQ:H s.heap.objs.size=none:=I.bq.fresh (Wl _);have nd:=cE (ts.map (·.2));refine⟨.ref s.heap.objs.size,_,I.laid (t':=tk) (o:=gy X.prog X.w s.heap.objs.size bA) kp (Wl _) ?_,rfl,q _ _ (ay.new IQ) ⟨_,rfl,⟨bA,aE,λx hx=>?_,?_⟩,vI hd IQ⟩⟩
   ·refine⟨⟨o',es,ep,t,ho,S⟩,⟨o',ho⟩,λh1 h2 mW k=>by obtain⟨o1,e1,Me,t1,g1,g2⟩:=mW;exact⟨o1,e1,Me,t1,k _ g1,g2⟩⟩
   ·exact(ay.new IQ) _ _ (T x (m1 x hx)).1
   ·refine(ZG S.Lj nd.1).mpr λk=>?_;rw[nd.2 k,WX,WX];constructor
    ·rintro⟨x,hx,rfl⟩;exact⟨x,m1 x hx,rfl⟩
    ·rintro⟨x,hx,rfl⟩;obtain⟨y,hy,e⟩:=m2 x hx;exact⟨y,hy,e⟩
section
variable {X:Cx}{W:Addr->Prop}{H:Hp}
theorem uf {p:Addr}{vs:List V}{ds:List D}(n:H p=none)(f:NL (.lst ds))(r:mI X W H ds vs):Rp X (λa=>H a≠none) (upd H p (.lst vs)) (.lst ds) (.ref p) :=
 ⟨p,vs,rfl,aE,λz=>z n,ao.flat f (r.same (ay.new n))⟩
def Oi (X:Cx)(f:D->D->Option D):R2:=λx y H Q=>∃W d1 d2 d,Dm W H/\Rp X W H d1 x/\Rp X W H d2 y/\f d1 d2=some d/\∀v H',ay H H'->Rp X W H' d v->(NL d->Rp X (λa=>H a≠none) H' d v)->Q v H'
def Oh (X:Cx)(f:List D->Option D):List V->Hp->VK->Prop:=λxs H Q=>∃W ds d,Dm W H/\mI X W H ds xs/\f ds=some d/\∀v H',ay H H'->Rp X W H' d v->(NL d->Rp X (λa=>H a≠none) H' d v)->Q v H'
def KC (X:Cx)(f:D->Option Int->Option Int->Option D):V->Option Int->Option Int->Hp->VK->Prop:=λx lo hi H Q=>∃W d1 d,Dm W H/\Rp X W H d1 x/\f d1 lo hi=some d/\∀v H',ay H H'->Rp X W H' d v->(NL d->Rp X (λa=>H a≠none) H' d v)->Q v H'
abbrev MP (X:Cx)(f:Wg->Wg->Sem Wg)(g:D->D->Option D):Prop:=gZ X f (Oi X g)
abbrev u7 (X:Cx)(f:Wg)(g:List D->Option D):Prop:=fN X f (Oh X g)
theorem aM:MP X (XZ .Add) Mt:=by
 intro pins s σ H x y v u Q I rx ry h;obtain⟨W,d1,d2,d,hd,r1,r2,e,q⟩:=h;rcases xl e with⟨a,b,rfl,rfl,e⟩|e
 ·obtain⟨hl,rfl⟩:=cc e;obtain⟨p,vs,rfl,h1,n1,q1⟩:=r1;obtain⟨p',vs',rfl,h2,n2,q2⟩:=r2;exact zI pins s σ H _ _ v u Q I rx ry ⟨p,p',vs,vs',rfl,rfl,h1,h2,by rw[q1.length,q2.length];exact hl,λl rK=>q _ _ (ay.new rK) (Rp.ir hd rK (q1.append q2)) λf=>uf rK f (q1.append q2)⟩
 ·obtain⟨i,j,rfl,rfl,e⟩:=jO e;cases e;cases r1;cases r2;exact He pins s σ H _ _ v u Q I rx ry ⟨i,j,rfl,rfl,q _ _ (ay.refl _) rfl λ_=>rfl⟩
theorem Cz:Nr X (KC X Rh):=by
 intro pins s σ H x v vl vu lo hi sl Q I rx hs pl pu h;obtain⟨W,d1,d,hd,r1,e,q⟩:=h;cases d1 with
 |lst ds =>
  cases e;obtain⟨p,vs,rfl,h1,n1,q1⟩:=r1;have rr:mI X W H (cutD ds lo hi) (sG vs lo hi):=by
   unfold sG cutD;rw[q1.length];exact(ao.drop _ q1).take _
  exact vg pins s σ H _ v vl vu lo hi sl Q I rx hs pl pu ⟨p,vs,rfl,eC.of h1,λl hl=>q _ _ (ay.new hl) (Rp.ir hd hl rr) λf=>uf hl f rr⟩
 |_=>cases e
theorem sQ:u7 X (.type "list") dList:=by
 intro pins s σ H xs us Q I r h;obtain⟨W,ds,d,hd,r1,e,q⟩:=h
 match ds,e with
 |[.lst es],e =>
  cases e;obtain⟨v,r',rfl,⟨p,vs,rfl,h1,n1,q1⟩,hr⟩:=r1;cases hr;exact jr pins s σ H _ us Q I r ⟨p,vs,rfl,.inl (eC.of h1),λl hl=>q _ _ (ay.new hl) (Rp.ir hd hl q1) λf=>uf hl f q1⟩
 |[.tup es],e =>
  cases e;obtain⟨v,r',rfl,⟨p,vs,rfl,h1,q1⟩,hr⟩:=r1;cases hr;exact jr pins s σ H _ us Q I r ⟨p,vs,rfl,.inr (tE.of h1),λl hl=>q _ _ (ay.new hl) (Rp.ir hd hl q1) λf=>uf hl f q1⟩
theorem fB:u7 X (.builtin "sorted") (λds=>match ds with | [.lst ds]=>pV [.lst ds]|_=>none):=by
 intro pins s σ H xs us Q I r h;obtain⟨W,ds,d,hd,r1,e,q⟩:=h
 match ds,e with
 |[.lst es],e =>
  have e':(match d7 es with|some ks=>if ks.length<=1000000 then some (D.lst ((eF ks).map kD)) else none|none=>none)=some d:=e
  cases ek:d7 es with
  |none=>rw[ek]at e';cases e'
  |some ks =>
   rw[ek]at e';obtain⟨hl,rfl⟩:=cc e';obtain⟨rfl,hk⟩:=l3 ek;obtain⟨x,rfl,p,vs,rfl,hp,n1,q1⟩:=kA r1;obtain⟨ts,rfl,T,rfl⟩:=jM hk q1;refine p9 pins s σ H _ us Q I r ⟨p,ts,rfl,eC.of hp,T,by simpa using hl,λl bA rK SI UP=>?_⟩
   have eq:bA.map (·.2)=eF (ts.map (·.2)):=tV (SI.map _) (Zg.mpr UP);rw[<- eq]at q;have rk:=gJ (P:=X.prog) (w:=X.w) (W:=W) (H:=H) (ts:=bA) λt ht=>(T t (SI.mem_iff.mp ht)).1;exact q _ _ (ay.new rK) (Rp.ir hd rK rk) λf=>uf rK f rk
theorem fA (hc:X.calm=true):u7 X (.builtin "sorted") (λds=>match ds with | [.sT ts]=>pV [.sT ts]|_=>none):=by
 intro pins s σ H xs us Q I r h;obtain⟨W,ds,d,hd,r1,e,q⟩:=h
 match ds,e with
 |[.sT ks],e =>
  obtain⟨⟨hl,hk⟩,rfl⟩:=cc (show (if ks.length<=1000/\(∀k∈ks,k≠[]) then some (D.lst ((eF ks).map kD)) else none)=some d from e)
  obtain⟨x,rfl,p,rfl,⟨ts,hp,T,pm⟩,nW⟩:=kA r1;obtain⟨u,rfl,rx⟩:=vals1 r;cases rx;obtain⟨⟨o,es,ep,t,ho,S⟩,_,_⟩:=(show cT X.prog X.w H s.heap p (gy X.prog X.w p ts) from I.bq p _ hp)
  have tl:ts.length=ks.length:=by rw[<- pm.length_eq,Wj]
  have T':xW H ts:=λt ht=>⟨T t ht,hk _ (pm.mem_iff.mp (WX.mpr ⟨t,ht,rfl⟩))⟩;obtain⟨us,Fq,col⟩:=ST.qr (s:=s) ho S (by omega)
  have T2:xW H us:=λt ht=>T' t (Fq.mem_iff.mp ht);refine TS.tW (vs:=us.map λx=>Value.ref x.1) (kf:=um H) (by rw[Wj,Fq.length_eq];omega) (λR hR=>col _ _ R (by simp[I.ok.hd hc]) λh' tk kp=>hR h' tk kp) (vd I.bq T2 (Wl _)) λout h1 h' tk n M_ hs k1 kp xw=>?_
  ·obtain⟨e1,e2⟩:=nD T2 M_;have zl:out.length=us.length:=by rw[M_.length_eq,Wj]
   have eq:(out.map (FA H)).map (·.2)=eF ks:=by
    refine tV ((e2.trans Fq).map _ |>.trans pm) ?_
    refine Zg.mpr (Zg.mpr ?_);refine hs.imp_of_mem λ{x y} hx hy hh=>?_;obtain⟨t,ht,rfl⟩:=WX.mp (M_.mem_iff.mp hx);obtain⟨t',LH,rfl⟩:=WX.mp (M_.mem_iff.mp hy);exact hh
   have I1:Inv X pins σ H {s with heap:=h1,toks:=s.toks}:=I.kept k1
   have IQ:H h1.objs.size=none:=I1.bq.fresh (Wl _);refine⟨.ref h1.objs.size,_,I1.laid (t':=tk) (o:=.lst ((out.map (FA H)).map qz)) kp (Wl _) ?_,rfl,q _ _ (ay.new IQ) ?_ ?_⟩
   ·refine⟨by rw[Wj,Wj,zl,Fq.length_eq,WY];omega,out,n,?_,xw⟩
    have:=jE (out.map (FA H));rw[<- e1]at this;exact this
   ·rw[<- eq];exact Rp.ir hd IQ (gJ λt ht=>(T2 t (e2.mem_iff.mp ht)).1)
   ·rw[<- eq];exact λf=>uf (W:=W) IQ f (gJ λt ht=>(T2 t (e2.mem_iff.mp ht)).1)
end
section
end
end L2
namespace L2.Q
open PySem PySem.Spec PySem.SeqAt PyProof.Rows
section
variable (P:Wq)(w:WC)(H:Hp)
mutual
def Own:D->V->List Addr->Prop
 |.tup ds,v,A=>∃a vs,v=.ref a/\H a=some (.tup vs)/\a8 ds vs A
 |.lst ds,v,A=>∃a vs A',v=.ref a/\H a=some (.lst vs)/\A=a::A'/\a8 ds vs A'
 |.dT ks ds,v,A=>∃a vs A',v=.ref a/\H a=some (.dT (ks.zip vs))/\ks.length=vs.length/\A=a::A'/\a8 ds vs A'
 |.dK ks ds,v,A=>∃a vs A',v=.ref a/\H a=some (.dK (ks.zip vs))/\ks.length=vs.length/\A=a::A'/\a8 ds vs A'
 |.sT ts,v,A=>∃a,v=.ref a/\EM P w H a ts/\A=[a]
 |.ob φ,v,A=>∃a,v=.ref a/\(H a=some (φ a)/\∀xs,φ a≠.tup xs)/\A=[a]
 |.bE,v,A=>v=.bE/\A=[]
 |.bl b,v,A=>v=.bl b/\A=[]
 |.int i,v,A=>v=.int i/\A=[]
 |.str x,v,A=>v=.str x/\A=[]
 |.obj a,v,A=>v=.ref a/\A=[]
def a8:List D->List V->List Addr->Prop
 |[],vs,A=>vs=[]/\A=[]
 |d::ds,vs,A=>∃v r A1 A2,vs=v::r/\A=A1++A2/\Own d v A1/\a8 ds r A2
end
end
section
variable {P:Wq}{w:WC}{W:Addr->Prop}{H H':Hp}
theorem wM {a:Addr}{ts:List (List Int)}(k:∀b xs,H b=some (.tup xs)->H' b=some (.tup xs))(ha:∀o,H a=some o->H' a=some o)(h:EM P w H a ts):EM P w H' a ts :=
 let ⟨bA,e,r,z⟩:=h;⟨bA,ha _ e,λx hx=>k _ _ (r x hx),z⟩
mutual
theorem Own.keep (k:∀b xs,H b=some (.tup xs)->H' b=some (.tup xs)):∀{d:D} {v:V} {A:List Addr},(∀c∈A,∀o,H c=some o->H' c=some o)->Own P w H d v A->Own P w H' d v A
 |.tup ds,_,_,ha,l_=>by obtain⟨a,vs,e,t,r⟩:=l_;exact⟨a,vs,e,k a vs t,a8.keep k ha r⟩
 |.lst ds,_,_,ha,Am=>by obtain⟨a,vs,A',e,t,eA,r⟩:=Am;exact⟨a,vs,A',e,ha a (by rw[eA];simp) _ t,eA,a8.keep k (λc hc=>ha c (by rw[eA];simp[hc])) r⟩
 |.dT ks ds,_,_,ha,Al=>by obtain⟨a,vs,A',e,t,l,eA,r⟩:=Al;exact⟨a,vs,A',e,ha a (by rw[eA];simp) _ t,l,eA,a8.keep k (λc hc=>ha c (by rw[eA];simp[hc])) r⟩
 |.dK ks ds,_,_,ha,DQ=>by obtain⟨a,vs,A',e,t,l,eA,r⟩:=DQ;exact⟨a,vs,A',e,ha a (by rw[eA];simp) _ t,l,eA,a8.keep k (λc hc=>ha c (by rw[eA];simp[hc])) r⟩
 |.sT ts,_,_,ha,Ic=>by obtain⟨a,e,r,eA⟩:=Ic;exact⟨a,e,wM k (λo ho=>ha a (by rw[eA];simp) o ho) r,eA⟩
 |.ob φ,_,_,ha,LF=>by obtain⟨a,e,r,eA⟩:=LF;exact⟨a,e,⟨ha a (by rw[eA];simp) _ r.1,r.2⟩,eA⟩
 |.bE,_,_,_,h=>h
 |.bl _,_,_,_,h=>h
 |.int _,_,_,_,h=>h
 |.str _,_,_,_,h=>h
 |.obj _,_,_,_,h=>h
theorem a8.keep (k:∀b xs,H b=some (.tup xs)->H' b=some (.tup xs)):∀{ds:List D} {vs:List V} {A:List Addr},(∀c∈A,∀o,H c=some o->H' c=some o)->a8 P w H ds vs A->a8 P w H' ds vs A
 |[],_,_,_,h=>h
 |d::ds,_,_,ha,LD=>by obtain⟨v,r,A1,A2,e,eA,h1,h2⟩:=LD;exact⟨v,r,A1,A2,e,eA,Own.keep k (λc hc=>ha c (by rw[eA];simp[hc])) h1,a8.keep k (λc hc=>ha c (by rw[eA];simp[hc])) h2⟩
end
mutual
theorem Own.rep:∀{d:D} {v:V} {A:List Addr},(∀c∈A,¬ W c)->Own P w H d v A->aD P w W H d v
 |.tup ds,_,_,ha,PH=>by obtain⟨a,vs,e,t,r⟩:=PH;exact⟨a,vs,e,t,a8.rep ha r⟩
 |.lst ds,_,_,ha,PF=>by obtain⟨a,vs,A',e,t,eA,r⟩:=PF;exact⟨a,vs,e,t,ha a (by rw[eA];simp),a8.rep (λc hc=>ha c (by rw[eA];simp[hc])) r⟩
 |.dT ks ds,_,_,ha,Iu=>by obtain⟨a,vs,A',e,t,l,eA,r⟩:=Iu;exact⟨a,vs,e,t,l,ha a (by rw[eA];simp),a8.rep (λc hc=>ha c (by rw[eA];simp[hc])) r⟩
 |.dK ks ds,_,_,ha,Ir=>by obtain⟨a,vs,A',e,t,l,eA,r⟩:=Ir;exact⟨a,vs,e,t,l,ha a (by rw[eA];simp),a8.rep (λc hc=>ha c (by rw[eA];simp[hc])) r⟩
 |.sT ts,_,_,ha,Iq=>by obtain⟨a,e,r,eA⟩:=Iq;exact⟨a,e,r,ha a (by rw[eA];simp)⟩
 |.ob φ,_,_,ha,Ip=>by obtain⟨a,e,r,eA⟩:=Ip;exact⟨a,e,r,ha a (by rw[eA];simp)⟩
 |.bE,_,_,_,h=>h.1
 |.bl _,_,_,_,h=>h.1
 |.int _,_,_,_,h=>h.1
 |.str _,_,_,_,h=>h.1
 |.obj _,_,_,_,h=>h.1
theorem a8.rep:∀{ds:List D} {vs:List V} {A:List Addr},(∀c∈A,¬ W c)->a8 P w H ds vs A->ao P w W H ds vs
 |[],_,_,_,h=>h.1
 |d::ds,_,_,ha,Io=>by obtain⟨v,r,A1,A2,e,eA,h1,h2⟩:=Io;exact⟨v,r,e,Own.rep (λc hc=>ha c (by rw[eA];simp[hc])) h1,a8.rep (λc hc=>ha c (by rw[eA];simp[hc])) h2⟩
end
mutual
theorem Own.mZ:∀{d:D} {v:V} {A:List Addr},Own P w H d v A->∀c∈A,H c≠none/\∀xs,H c≠some (.tup xs)
 |.tup ds,_,_,Im,c,hc=>by obtain⟨a,vs,e,t,r⟩:=Im;exact a8.mZ r c hc
 |.lst ds,_,_,Il,c,hc=>by
  obtain⟨a,vs,A',e,t,eA,r⟩:=Il;rw[eA]at hc;rcases Ws.mp hc with rfl|hc
  ·rw[t];exact⟨λz=>(nomatch z),λxs z=>by cases z⟩
  ·exact a8.mZ r c hc
 |.dT ks ds,_,_,Ik,c,hc=>by
  obtain⟨a,vs,A',e,t,l,eA,r⟩:=Ik;rw[eA]at hc;rcases Ws.mp hc with rfl|hc
  ·rw[t];exact⟨λz=>(nomatch z),λxs z=>by cases z⟩
  ·exact a8.mZ r c hc
 |.dK ks ds,_,_,Ij,c,hc=>by
  obtain⟨a,vs,A',e,t,l,eA,r⟩:=Ij;rw[eA]at hc;rcases Ws.mp hc with rfl|hc
  ·rw[t];exact⟨λz=>(nomatch z),λxs z=>by cases z⟩
  ·exact a8.mZ r c hc
 |.sT ts,_,_,Ii,c,hc=>by
  obtain⟨a,e,⟨bA,t,r,z⟩,eA⟩:=Ii;rw[eA]at hc;rw[Wx.mp hc,t];exact⟨λz=>(nomatch z),λxs z=>by cases z⟩
 |.ob φ,_,_,Ih,c,hc=>by
  obtain⟨a,e,⟨t,z⟩,eA⟩:=Ih;rw[eA]at hc;rw[Wx.mp hc,t];exact⟨λz=>(nomatch z),λxs q=>z xs (WR q)⟩
 |.bE,_,_,h,c,hc=>by rw[h.2]at hc;cases hc
 |.bl _,_,_,h,c,hc=>by rw[h.2]at hc;cases hc
 |.int _,_,_,h,c,hc=>by rw[h.2]at hc;cases hc
 |.str _,_,_,h,c,hc=>by rw[h.2]at hc;cases hc
 |.obj _,_,_,h,c,hc=>by rw[h.2]at hc;cases hc
theorem a8.mZ:∀{ds:List D} {vs:List V} {A:List Addr},a8 P w H ds vs A->∀c∈A,H c≠none/\∀xs,H c≠some (.tup xs)
 |[],_,_,h,c,hc=>by rw[h.2]at hc;cases hc
 |d::ds,_,_,Ig,c,hc=>by
  obtain⟨v,r,A1,A2,e,eA,h1,h2⟩:=Ig;rw[eA]at hc;rcases WO.mp hc with hc|hc
  ·exact Own.mZ h1 c hc
  ·exact a8.mZ h2 c hc
end
mutual
theorem dJ:∀{d:D} {v:V},d.flat=true->aD P w W H d v->Own P w H d v []
 |.tup ds,_,f,Ie=>by obtain⟨a,vs,e,t,r⟩:=Ie;exact⟨a,vs,e,t,gN (by simpa[D.flat] using f) r⟩
 |.lst ds,_,f,_=>by simp[D.flat]at f
 |.dT ks ds,_,f,_=>by simp[D.flat]at f
 |.dK ks ds,_,f,_=>by simp[D.flat]at f
 |.sT ts,_,f,_=>by simp[D.flat]at f
 |.ob φ,_,f,_=>by simp[D.flat]at f
 |.bE,_,_,h=>⟨h,rfl⟩
 |.bl _,_,_,h=>⟨h,rfl⟩
 |.int _,_,_,h=>⟨h,rfl⟩
 |.str _,_,_,h=>⟨h,rfl⟩
 |.obj _,_,_,h=>⟨h,rfl⟩
theorem gN:∀{ds:List D} {vs:List V},D.bJ ds=true->ao P w W H ds vs->a8 P w H ds vs []
 |[],_,_,h=>⟨h,rfl⟩
 |d::ds,_,f,PU=>by
  obtain⟨v,r,e,h1,h2⟩:=PU;have f':(d.flat&&D.bJ ds)=true:=f;rw[Xi]at f';exact⟨v,r,[],[],e,rfl,dJ f'.1 h1,gN f'.2 h2⟩
end
theorem a8.length:∀{ds:List D} {vs:List V} {A:List Addr},a8 P w H ds vs A->vs.length=ds.length
 |[],_,_,h=>by rw[h.1];rfl
 |d::ds,_,_,PR=>by obtain⟨v,r,A1,A2,e,eA,h1,h2⟩:=PR;rw[e,Wz,Wz,a8.length h2]
theorem a8.append:∀{ds ds':List D} {vs vs':List V} {A A':List Addr},a8 P w H ds vs A->a8 P w H ds' vs' A'->a8 P w H (ds++ds') (vs++vs') (A++A')
 |[],_,_,_,_,_,h,h'=>by rw[h.1,h.2];exact h'
 |d::ds,_,_,_,_,_,PN,h'=>by
  obtain⟨v,r,A1,A2,e,eA,h1,h2⟩:=PN;subst e eA;exact⟨v,_,A1,_,rfl,by rw[Xh],h1,a8.append h2 h'⟩
theorem a8.one {d:D}{v:V}{A:List Addr}(h:Own P w H d v A):a8 P w H [d] [v] A:=⟨v,[],A,[],rfl,by simp,h,rfl,rfl⟩
theorem a8.split:∀{ds:List D} {vs:List V} {A:List Addr} {i:Nat} {d:D},a8 P w H ds vs A->ds[i]?=some d->∃v A1 A2 A3,vs[i]?=some v/\A=A1++(A2++A3)/\a8 P w H (ds.take i) (vs.take i) A1/\Own P w H d v A2/\a8 P w H (ds.drop (i+1)) (vs.drop (i+1)) A3
 |[],_,_,_,_,_,e=>by simp at e
 |d::ds,_,_,0,_,PM,e'=>by
  obtain⟨v,r,A1,A2,e,eA,h1,h2⟩:=PM;simp at e';subst e' e eA;exact⟨v,[],A1,A2,by simp,by simp,⟨rfl,rfl⟩,h1,by simpa using h2⟩
 |d::ds,_,_,i+1,_,PL,e'=>by
  obtain⟨v,r,A1,A2,e,eA,h1,h2⟩:=PL;subst e eA;obtain⟨u,B1,B2,B3,g1,g2,g3,g4,g5⟩:=a8.split (i:=i) h2 (by simpa using e')
  exact⟨u,A1++B1,B2,B3,by simpa using g1,by rw[g2];simp[Xh],by simpa using ⟨v,_,A1,B1,rfl,rfl,h1,g3⟩,g4,by simpa using g5⟩
end
inductive Kd where
 |own|fG|old|bor
inductive Sk where
 |one|two|at (h:Addr)
inductive B where
 |val (y:Bool) (d:D)|own (d:D)|hand (ok:List Int->Prop)|shl (y:Sk) (d:D)
abbrev a_:=List (Option B)
structure Cfg where
 H0:Hp
 IO:Addr->Prop
 ro:Bool
 U:Addr->Prop:=λ_=>False
abbrev Wn (own:Nat->List Addr):Addr->Prop:=λa=>∃i,a∈own i
def av (C:Cfg)(W:Addr->Prop):Kd->Addr->Prop
 |.own,a=>W a\/C.H0 a≠none
 |.fG,a=>W a\/C.H0 a≠none
 |.old,a=>W a
 |.bor,_=>False
def ju (C:Cfg)(W:Addr->Prop)(k:Kd)(a:Addr):Prop:=av C W k a\/C.U a
abbrev yk (y:Bool):Kd:=match y with|true=>.fG|false=>.old
def TX:D->HO->List V->Prop
 |.lst _,o,vs=>o=.lst vs
 |.dT ks _,o,vs=>o=.dT (ks.zip vs)/\ks.length=vs.length
 |.dK ks _,o,vs=>o=.dK (ks.zip vs)/\ks.length=vs.length
 |_,_,_=>False
def TY:D->List D
 |.lst ds=>ds
 |.dT _ ds=>ds
 |.dK _ ds=>ds
 |_=>[]
def EN (P:Wq)(w:WC)(W:Addr->Prop)(H:Hp):List D->List V->List Addr->Prop
 |[],vs,A=>vs=[]/\A=[]
 |d::ds,vs,A=>∃b us r A',vs=.ref b::r/\A=b::A'/\H b=some (.lst us)/\(∃es,d=.lst es/\ao P w W H es us)/\EN P w W H ds r A'
def mD (P:Wq)(w:WC)(W:Addr->Prop)(H:Hp)(d:D)(v:V)(A:List Addr):Prop:=∃a o vs,v=.ref a/\A=[a]/\H a=some o/\TX d o vs/\ao P w W H (TY d) vs
def J4 (P:Wq)(w:WC)(W:Addr->Prop)(H:Hp)(y:Sk)(d:D)(v:V)(A:List Addr):Prop:=match y with
 |.one=>mD P w W H d v A
 |.at h=>mD P w W H d v A/\v=.ref h
 |.two=>∃a vs A' ds,v=.ref a/\A=a::A'/\H a=some (.lst vs)/\d=.lst ds/\EN P w W H ds vs A'
theorem EN.map {P:Wq}{w:WC}{W W':Addr->Prop}{H H':Hp}(hr:∀ds vs,ao P w W H ds vs->ao P w W' H' ds vs):∀{ds:List D} {vs:List V} {A:List Addr},(∀c∈A,∀o,H c=some o->H' c=some o)->EN P w W H ds vs A->EN P w W' H' ds vs A
 |[],_,_,_,h=>h
 |_::_,_,_,ha,PK=>by obtain⟨b,us,r,A',e1,e2,e3,⟨es,e4,e5⟩,h⟩:=PK;exact⟨b,us,r,A',e1,e2,ha b (by rw[e2];simp) _ e3,⟨es,e4,hr _ _ e5⟩,EN.map hr (λc hc=>ha c (by rw[e2];simp[hc])) h⟩
theorem EN.rep {P:Wq}{w:WC}{W W':Addr->Prop}{H:Hp}(hs:∀ds vs,ao P w W H ds vs->ao P w W' H ds vs):∀{ds:List D} {vs:List V} {A:List Addr},(∀c∈A,¬ W' c)->EN P w W H ds vs A->ao P w W' H ds vs
 |[],_,_,_,h=>h.1
 |_::_,_,_,ha,PJ=>by
  obtain⟨b,us,r,A',e1,e2,e3,⟨es,e4,e5⟩,h⟩:=PJ;subst e1 e2 e4;exact⟨.ref b,r,rfl,⟨b,us,rfl,e3,ha b (by simp),hs _ _ e5⟩,EN.rep hs (λc hc=>ha c (by simp[hc])) h⟩
theorem mD.map {P:Wq}{w:WC}{W W':Addr->Prop}{H H':Hp}{d:D}{v:V}{A:List Addr}(h:mD P w W H d v A)(ha:∀c∈A,∀o,H c=some o->H' c=some o)(hr:∀ds vs,ao P w W H ds vs->ao P w W' H' ds vs):mD P w W' H' d v A :=
 let ⟨a,o,vs,e1,e2,e3,e4,r⟩:=h;⟨a,o,vs,e1,e2,ha a (by rw[e2];simp) o e3,e4,hr _ _ r⟩
theorem J4.map {P:Wq}{w:WC}{W W':Addr->Prop}{H H':Hp}{y:Sk}{d:D}{v:V}{A:List Addr}(h:J4 P w W H y d v A)(ha:∀c∈A,∀o,H c=some o->H' c=some o)(hr:∀ds vs,ao P w W H ds vs->ao P w W' H' ds vs):J4 P w W' H' y d v A:=by
 cases y with
 |one=>exact mD.map h ha hr
 | «at» b=>exact⟨mD.map h.1 ha hr,h.2⟩
 |two =>
  obtain⟨a,vs,A',ds,e1,e2,e3,e4,r⟩:=h;exact⟨a,vs,A',ds,e1,e2,ha a (by rw[e2];simp) _ e3,e4,r.map hr λc hc=>ha c (by rw[e2];simp[hc])⟩
theorem mD.rep {P:Wq}{w:WC}{W W':Addr->Prop}{H:Hp}{d:D}{v:V}{A:List Addr}(h:mD P w W H d v A)(ha:∀c∈A,¬ W' c)(hs:∀ds vs,ao P w W H ds vs->ao P w W' H ds vs):aD P w W' H d v:=by
 obtain⟨a,o,vs,rfl,rfl,e,sh,r⟩:=h;have na:=ha a (by simp)
 replace r:=hs _ _ r;cases d with
 |lst ds=>cases sh;exact⟨a,vs,rfl,e,na,r⟩
 |dT ks ds=>obtain⟨rfl,l⟩:=sh;exact⟨a,vs,rfl,e,l,na,r⟩
 |dK ks ds=>obtain⟨rfl,l⟩:=sh;exact⟨a,vs,rfl,e,l,na,r⟩
 |_=>exact sh.elim
theorem J4.rep {P:Wq}{w:WC}{W W':Addr->Prop}{H:Hp}{y:Sk}{d:D}{v:V}{A:List Addr}(h:J4 P w W H y d v A)(ha:∀c∈A,¬ W' c)(hs:∀ds vs,ao P w W H ds vs->ao P w W' H ds vs):aD P w W' H d v:=by
 cases y with
 |one=>exact mD.rep h ha hs
 | «at» b=>exact mD.rep h.1 ha hs
 |two =>
  obtain⟨a,vs,A',ds,rfl,rfl,e3,rfl,r⟩:=h;exact⟨a,vs,rfl,e3,ha a (by simp),r.rep hs λc hc=>ha c (by simp[hc])⟩
structure b6 (P:Wq)(w:WC)(C:Cfg)(σ:St)(H:Hp)(β:a_)(own:Nat->List Addr):Prop where
 len:β.length=σ.length
 val:∀(i:Nat) (y:Bool) (d:D),β[i]?=some (some (.val y d))->∃v,σ[i]?=some (some v)/\aD P w (ju C (Wn own) (yk y)) H d v
 ow:∀(i:Nat) (d:D),β[i]?=some (some (.own d))->∃v,σ[i]?=some (some v)/\Own P w H d v (own i)/\∀c∈own i,C.H0 c=none
 tx:∀(i:Nat) (ok:List Int->Prop),β[i]?=some (some (.hand ok))->∃a ns,σ[i]?=some (some (.ref a))/\H a=some (.lst (ns.map V.int))/\ok ns/\own i=[a]/\((∀b,¬ C.IO b)\/C.IO a)
 dm:∀(i:Nat) (a:Addr),a∈own i->H a≠none/\(∀xs,H a≠some (.tup xs))/\(C.H0 a=none\/C.IO a)/\¬ C.U a
 mH:∀(i j:Nat) (a:Addr),a∈own i->a∈own j->i=j
 qg:∀i,(own i).Nodup
 kp:Kp C.IO C.H0 H
 iG:∀a,C.H0 a≠none->H a≠none
 shl:∀(i:Nat) (y:Sk) (d:D),β[i]?=some (some (.shl y d))->∃v,σ[i]?=some (some v)/\J4 P w (ju C (Wn own) (yk true)) H y d v (own i)/\∀c∈own i,C.H0 c=none
abbrev SQ (X:Cx):=b6 X.prog X.w
section
variable {P:Wq}{w:WC}{C:Cfg}{σ:St}{H H':Hp}{β:a_}{own:Nat->List Addr}{W W':Addr->Prop}
theorem b6.uL (b:b6 P w C σ H β own):Dm (Wn own) H:=λa mU=>by obtain⟨i,h⟩:=mU;exact(b.dm i a h).1
theorem b6.Bc (b:b6 P w C σ H β own)(k:Kd):Dm (av C (Wn own) k) H:=λa h=>by
 cases k with
 |own=>exact h.elim (b.uL a) (b.iG a)
 |fG=>exact h.elim (b.uL a) (b.iG a)
 |old=>exact b.uL a h
 |bor=>exact h.elim
theorem k6 (s:∀a,W' a->W a)(k:Kd):∀a,av C W' k a->av C W k a:=λa h=>by
 cases k with
 |own=>exact h.imp (s a) id
 |fG=>exact h.imp (s a) id
 |old=>exact s a h
 |bor=>exact h
theorem jt (s:∀a,W' a->W a)(k:Kd):∀a,ju C W' k a->ju C W k a:=λa h=>h.imp (k6 s k a) id
theorem b6.keep (b:b6 P w C σ H β own)(k:Kp (λa=>H a=none) H H')(kp:Kp C.IO H H')(dn:∀a,H a≠none->H' a≠none):b6 P w C σ H' β own:=by
 have ko:∀c o,H c=some o->H' c=some o:=λc o e=>k.out c o e (by rw[e];exact λz=>(nomatch z))
 have same:ay H H':=ko;exact⟨b.len,λi y d e=>let ⟨v,h1,h2⟩:=b.val i y d e;⟨v,h1,h2.same same⟩,λi d e=>let ⟨v,h1,h2,h3⟩:=b.ow i d e;⟨v,h1,h2.keep (λ_ _ e=>same _ _ e) (λc _ o e=>same c o e),h3⟩,
  λi ok e=>let ⟨a,ns,h1,h2,h3⟩:=b.tx i ok e;⟨a,ns,h1,same _ _ h2,h3⟩,λi a h=>by
   obtain⟨h1,h2,h3⟩:=b.dm i a h;cases q:H a with
   |none=>exact absurd q h1
   |some o=>rw[same a o q];exact⟨λz=>(nomatch z),λxs z=>h2 xs (by rw[q];exact z),h3⟩,b.mH,b.qg,b.kp.trans kp,λa z=>dn a (b.iG a z),λi y d e=>let ⟨v,h1,h2,h3⟩:=b.shl i y d e;⟨v,h1,h2.map (λc _ o e=>same c o e) (λ_ _ r=>r.same same),h3⟩⟩
theorem b6.same (b:b6 P w C σ H β own)(s:ay H H'):b6 P w C σ H' β own:=b.keep s.kp s.kp λa z e=>z (s.free e)
theorem eD {own:Nat->List Addr}{i:Nat}{a:Addr}(h:Wn (aR own i []) a):Wn own a:=let ⟨j,q⟩:=h;⟨j,(bp q).1⟩
theorem bg {own:Nat->List Addr}{i j:Nat}{A:List Addr}(h:i≠j):aR own i A j=own j:=by unfold aR;rw[if_neg (Zy h)]
theorem os_eq {own:Nat->List Addr}{i:Nat}{A:List Addr}:aR own i A i=A:=by unfold aR;rw[if_pos rfl]
theorem b6.dD {i:Nat}{d:D}{v:V}{y:Bool}(b:b6 P w C σ H β own)(r:aD P w (ju C (Wn own) (yk y)) H d v):b6 P w C (σ.set i (some v)) H (β.set i (some (.val y d))) (aR own i []):=by
 have sub:∀y a,ju C (Wn (aR own i [])) (yk y) a->ju C (Wn own) (yk y) a:=λy=>jt (λa h=>eD h) _;refine⟨by simp[b.len],λj y' d' e=>?_,λj d' e=>?_,λj ok e=>?_,λj a h=>b.dm j a (bp h).1,λj k a h1 h2=>b.mH j k a (bp h1).1 (bp h2).1,λj=>?_,b.kp,b.iG,λj y' d' e=>?_⟩
 ·by_cases aQ:i=j
  ·subst aQ;obtain⟨e',hl⟩:=bB e;cases e';exact⟨v,get_set (by rw[<- b.len];exact hl),r.a7 (sub _)⟩
  ·rw[bu aQ]at e ⊢
   obtain⟨u,h1,h2⟩:=b.val j y' d' e;exact⟨u,h1,h2.a7 (sub _)⟩
 ·by_cases aQ:i=j
  ·subst aQ;obtain⟨e',hl⟩:=bB e;cases e'
  ·rw[bu aQ]at e ⊢
   rw[bg aQ];exact b.ow j d' e
 ·by_cases aQ:i=j
  ·subst aQ;obtain⟨e',hl⟩:=bB e;cases e'
  ·rw[bu aQ]at e ⊢
   rw[bg aQ];exact b.tx j ok e
 ·by_cases aQ:i=j
  ·rw[aQ,os_eq];exact Xx
  ·rw[bg aQ];exact b.qg j
 ·by_cases aQ:i=j
  ·subst aQ;obtain⟨e',hl⟩:=bB e;cases e'
  ·rw[bu aQ]at e ⊢
   rw[bg aQ];obtain⟨u,h1,h2,h3⟩:=b.shl j y' d' e;exact⟨u,h1,h2.map (λ_ _ _ z=>z) (λ_ _ r=>ao.a7 (sub _) r),h3⟩
theorem b6.t5 {i:Nat}{d:D}{v:V}{A:List Addr}(b:b6 P w C σ H β own)(r:Own P w H d v A)(nd:A.Nodup)(nw:∀c∈A,C.H0 c=none/\¬ Wn own c/\C.U c):
  b6 P w {C with U:=λ_=>False} (σ.set i (some v)) H (β.set i (some (.own d))) (aR own i A):=by
 have sub:∀y a,ju {C with U:=λ_=>False} (Wn (aR own i A)) (yk y) a->ju C (Wn own) (yk y) a:=λy a h=>by
  have q:∀a,Wn (aR own i A) a->Wn own a\/a∈A:=λa uw=>by
   obtain⟨j,q⟩:=uw
   by_cases aQ:i=j
   ·rw[aQ,os_eq]at q;exact .inr q
   ·rw[bg aQ]at q;exact .inl ⟨j,q⟩
  have q':∀a,Wn (aR own i A) a->Wn own a\/C.U a:=λa z=>(q a z).imp id λz=>(nw a z).2.2;rcases h with h|h
  ·cases y with
   |true=>exact h.elim (λz=>(q' a z).imp .inl id) λz=>.inl (.inr z)
   |false=>exact q' a h
  ·exact h.elim
 have mem:∀{j c},c∈aR own i A j->(i=j/\c∈A)\/(i≠j/\c∈own j):=λ{j c} h=>by
  by_cases aQ:i=j
  ·subst aQ;rw[os_eq]at h;exact .inl ⟨rfl,h⟩
  ·rw[bg aQ]at h;exact .inr ⟨aQ,h⟩
 refine⟨by simp[b.len],λj y' d' e=>?_,λj d' e=>?_,λj ok e=>?_,λj a h=>?_,λj k a h1 h2=>?_,λj=>?_,b.kp,b.iG,λj y' d' e=>?_⟩
 ·by_cases aQ:i=j
  ·subst aQ;obtain⟨e',hl⟩:=bB e;cases e'
  ·rw[bu aQ]at e ⊢
   obtain⟨u,h1,h2⟩:=b.val j y' d' e;exact⟨u,h1,h2.a7 (sub _)⟩
 ·by_cases aQ:i=j
  ·subst aQ;obtain⟨e',hl⟩:=bB e;cases e';rw[os_eq];exact⟨v,get_set (by rw[<- b.len];exact hl),r,λc hc=>(nw c hc).1⟩
  ·rw[bu aQ]at e ⊢
   rw[bg aQ];exact b.ow j d' e
 ·by_cases aQ:i=j
  ·subst aQ;obtain⟨e',hl⟩:=bB e;cases e'
  ·rw[bu aQ]at e ⊢
   rw[bg aQ];exact b.tx j ok e
 ·rcases mem h with⟨_,h⟩|⟨_,h⟩
  ·exact⟨(r.mZ a h).1,(r.mZ a h).2,.inl (nw a h).1,λz=>z⟩
  ·exact⟨(b.dm j a h).1,(b.dm j a h).2.1,(b.dm j a h).2.2.1,λz=>z⟩
 ·rcases mem h1 with⟨e1,h1⟩|⟨n1,h1⟩
  ·rcases mem h2 with⟨e2,h2⟩|⟨n2,h2⟩
   ·rw[<- e1,<- e2]
   ·exact absurd ⟨k,h2⟩ (nw a h1).2.1
  ·rcases mem h2 with⟨e2,h2⟩|⟨n2,h2⟩
   ·exact absurd ⟨j,h1⟩ (nw a h2).2.1
   ·exact b.mH j k a h1 h2
 ·by_cases aQ:i=j
  ·rw[<- aQ,os_eq];exact nd
  ·rw[bg aQ];exact b.qg j
 ·by_cases aQ:i=j
  ·subst aQ;obtain⟨e',hl⟩:=bB e;cases e'
  ·rw[bu aQ]at e ⊢
   rw[bg aQ];obtain⟨u,h1,h2,h3⟩:=b.shl j y' d' e;exact⟨u,h1,h2.map (λ_ _ _ z=>z) (λ_ _ r=>ao.a7 (sub _) r),h3⟩
theorem b6.freeze {i:Nat}{d:D}(b:b6 P w C σ H β own)(h:β[i]?=some (some (.own d))):b6 P w C σ H (β.set i (some (.val true d))) (aR own i []):=by
 obtain⟨v,h1,h2,h3⟩:=b.ow i d h;have e:σ.set i (some v)=σ:=by
  apply Yu;intro j;rw[YO]
  by_cases aQ:i=j
  ·subst aQ;rw[if_pos rfl,h1];have:i<σ.length:=(WI.mp h1).1;rw[if_pos this]
  ·rw[if_neg aQ]
 have q:=b6.dD (i:=i) (d:=d) (v:=v) (y:=true) (own:=aR own i []) (C:=C) (P:=P) (w:=w) (σ:=σ) (H:=H) (β:=β.set i none);have b':b6 P w C σ H (β.set i none) (aR own i []):=by
  have sub:∀y a,ju C (Wn (aR own i [])) (yk y) a->ju C (Wn own) (yk y) a:=λy=>jt (λa h=>eD h) _;refine⟨by simp[b.len],λj y' d' e=>?_,λj d' e=>?_,λj ok e=>?_,λj a h=>b.dm j a (bp h).1,λj k a h1 h2=>b.mH j k a (bp h1).1 (bp h2).1,λj=>?_,b.kp,b.iG,λj y' d' e=>?_⟩
  ·by_cases aQ:i=j
   ·subst aQ;obtain⟨e',hl⟩:=bB e;cases e'
   ·rw[bu aQ]at e;obtain⟨u,h1,h2⟩:=b.val j y' d' e;exact⟨u,h1,h2.a7 (sub _)⟩
  ·by_cases aQ:i=j
   ·subst aQ;obtain⟨e',hl⟩:=bB e;cases e'
   ·rw[bu aQ]at e;rw[bg aQ];exact b.ow j d' e
  ·by_cases aQ:i=j
   ·subst aQ;obtain⟨e',hl⟩:=bB e;cases e'
   ·rw[bu aQ]at e;rw[bg aQ];exact b.tx j ok e
  ·by_cases aQ:i=j
   ·rw[aQ,os_eq];exact Xx
   ·rw[bg aQ];exact b.qg j
  ·by_cases aQ:i=j
   ·subst aQ;obtain⟨e',hl⟩:=bB e;cases e'
   ·rw[bu aQ]at e;rw[bg aQ];obtain⟨u,h1,h2,h3⟩:=b.shl j y' d' e;exact⟨u,h1,h2.map (λ_ _ _ z=>z) (λ_ _ r=>ao.a7 (sub _) r),h3⟩
 have q:=b6.dD (i:=i) (d:=d) (v:=v) (y:=true) b' (h2.rep λc hc z=>by
  rcases z with (z|z)|z
  ·obtain⟨j,hj⟩:=z;obtain⟨hj,ne⟩:=bp hj;exact ne (b.mH j i c hj hc)
  ·exact z (h3 c hc)
  ·exact(b.dm i c hc).2.2.2 z)
 rw[e,List.set_set]at q;have eo:aR (aR own i []) i []=aR own i []:=by
  funext j
  by_cases aQ:i=j
  ·rw[<- aQ,os_eq,os_eq]
  ·rw[bg aQ,bg aQ]
 rwa [eo]at q
abbrev Cfg.u (C:Cfg)(U:Addr->Prop):Cfg:={C with U:=U}
theorem b6.qu {U:Addr->Prop}(b:b6 P w C σ H β own)(hU:∀a,U a->H a=none):b6 P w (C.u U) σ H β own :=
 ⟨b.len,λi y d e=>let ⟨v,h1,h2⟩:=b.val i y d e;⟨v,h1,aD.grow (λa z=>z.elim (λz=>.inl (.inl z)) λz=>.inr (hU a z)) h2⟩,b.ow,b.tx,λi a h=>let ⟨h1,h2,h3,_⟩:=b.dm i a h;⟨h1,h2,h3,λz=>h1 (hU a z)⟩,b.mH,b.qg,b.kp,b.iG,λi y d e=>let ⟨v,h1,h2,h3⟩:=b.shl i y d e;⟨v,h1,h2.map (λ_ _ _ z=>z) (λ_ _ r=>ao.grow (λa z=>z.elim (λz=>.inl (.inl z)) λz=>.inr (hU a z)) r),h3⟩⟩
theorem b6.Uh {U:Addr->Prop}(b:b6 P w (C.u U) σ H β own):b6 P w (C.u λ_=>False) σ H β own :=
 ⟨b.len,λi y d e=>let ⟨v,h1,h2⟩:=b.val i y d e;⟨v,h1,aD.a7 (λa z=>z.elim .inl λz=>z.elim) h2⟩,b.ow,b.tx,λi a h=>let ⟨h1,h2,h3,_⟩:=b.dm i a h;⟨h1,h2,h3,λz=>z⟩,b.mH,b.qg,b.kp,b.iG,λi y d e=>let ⟨v,h1,h2,h3⟩:=b.shl i y d e;⟨v,h1,h2.map (λ_ _ _ z=>z) (λ_ _ r=>ao.a7 (λa z=>z.elim .inl λz=>z.elim) r),h3⟩⟩
theorem b6.NM {i:Nat}{y:Bool}{d:D}(b:b6 P w C σ H β own)(e:β[i]?=some (some (.val y d))):∃v,σ[i]?=some (some v)/\aD P w (av C (Wn own) (yk y)) H d v:=let ⟨v,h1,h2⟩:=b.val i y d e;⟨v,h1,aD.a7 (λa z=>.inl z) h2⟩
end
def KV (P:Wq)(w:WC)(C:Cfg)(Z:Hp×(Addr->Prop))(own:Nat->List Addr)(H:Hp):Kd->D->V->Prop
 |.own,d,v=>∃A,Own P w H d v A/\A.Nodup/\∀c∈A,Z.1 c=none/\¬ Wn own c/\C.H0 c=none
 |.fG,d,v=>aD P w (av C (Wn own) .fG) H d v
 |.old,d,v=>aD P w (av C (Wn own) .old) H d v
 |.bor,d,v=>aD P w (av C (Wn own) .bor) H d v
structure Rx (P:Wq)(w:WC)(C:Cfg)(σ:St)(H:Hp)(own:Nat->List Addr)(p:Bool)(β':a_)(H':Hp)(a3:Nat->List Addr):Prop where
 sq:b6 P w C σ H' β' a3
 sn:Sn (H,Wn own) H' (Wn a3)
 pu:p=true->ay H H'/\a3=own
 le:∀a,Wn a3 a->Wn own a
abbrev Out (X:Cx):=Rx X.prog X.w
section
variable {X:Cx}{C:Cfg}{σ:St}{H H1 H2 H':Hp}{own az ba:Nat->List Addr}{p p':Bool}{β β1 β2 β':a_}{Z:Hp×(Addr->Prop)}{d:D}{v:V}{k:Kd}{P:Wq}{w:WC}
theorem Out.refl (s:SQ X C σ H β own)(p:Bool):Out X C σ H own p β H own:=⟨s,Sn.refl,λ_=>⟨ay.refl _,rfl⟩,λ_ z=>z⟩
theorem Out.trans (a:Out X C σ H own p β1 H1 az)(b:Out X C σ H1 az p' β2 H2 ba):Out X C σ H own (p&&p') β2 H2 ba:=⟨b.sq,a.sn.trans b.sn,λh=>by
 rw[Xi]at h;obtain⟨s1,e1⟩:=a.pu h.1;obtain⟨s2,e2⟩:=b.pu h.2;exact⟨s1.trans s2,e2.trans e1⟩,λc z=>a.le c (b.le c z)⟩
theorem Out.same (a:Out X C σ H own p β1 H1 az)(s:ay H1 H2):Out X C σ H own p β1 H2 az:=⟨a.sq.same s,a.sn.same s,λh=>let ⟨s1,e1⟩:=a.pu h;⟨s1.trans s,e1⟩,a.le⟩
theorem Out.wk (a:Out X C σ H own p β1 H1 az)(h:p'=true->p=true):Out X C σ H own p' β1 H1 az:=⟨a.sq,a.sn,λz=>a.pu (h z),a.le⟩
theorem Out.ve {q:Bool}(a:Out X C σ H own p β1 H1 az)(b:Out X C σ H1 az p' β2 H2 ba)(h:q=true->p=true/\p'=true):Out X C σ H own q β2 H2 ba:=(a.trans b).wk λz=>by rw[(h z).1,(h z).2];rfl
theorem KV.rep (h:KV P w C Z own H k d v):aD P w (av C (Wn own) k) H d v:=by
 cases k with
 |own=>obtain⟨A,h1,h2,h3⟩:=h;exact h1.rep λc hc z=>z.elim (h3 c hc).2.1 λz=>z (h3 c hc).2.2
 |_=>exact h
theorem KV.fG (h:KV P w C Z own H .own d v):KV P w C Z own H .fG d v:=KV.rep (k:=.own) h
theorem KV.flat {W:Addr->Prop}(f:d.flat=true)(h:aD P w W H d v):KV P w C Z own H .own d v:=⟨[],dJ f h,Xx,λc hc=>(nomatch hc)⟩
noncomputable abbrev Kd.wk:Kd->Kd
 |.own=>.fG
 |.fG=>.fG
 |.old=>.old
 |.bor=>.bor
abbrev Kd.max:Kd->Kd->Kd
 |.bor,_=>.bor
 |_,.bor=>.bor
 |.old,_=>.old
 |_,.old=>.old
 |_,_=>.fG
theorem cH {W:Addr->Prop}{a b:Kd}:∀c,av C W (a.max b) c->av C W a c:=λc h=>by
 cases a <;> cases b <;> first|exact h|exact h.elim|exact .inl h
theorem d_ {W:Addr->Prop}{a b:Kd}:∀c,av C W (a.max b) c->av C W b c:=λc h=>by
 cases a <;> cases b <;> first|exact h|exact h.elim|exact .inl h
theorem KV.of (h:aD P w (av C (Wn own) k.wk) H d v):KV P w C Z own H k.wk d v:=by
 cases k <;> exact h
theorem KV.Kt (h:KV P w C Z own H k d v)(s:ay H H'):KV P w C Z own H' k d v:=by
 cases k with
 |own=>obtain⟨A,h1,h2⟩:=h;exact⟨A,h1.keep (λb xs e=>s _ _ e) (λc _ o e=>s c o e),h2⟩
 |fG=>exact aD.same s h
 |old=>exact aD.same s h
 |bor=>exact aD.same s h
theorem KV.held (hk:k≠.bor)(h:KV P w C Z own H k d v)(n:Sn (H,Wn own) H2 (Wn ba)):KV P w C Z ba H2 k d v:=by
 cases k with
 |own =>
  obtain⟨A,h1,h2,h3⟩:=h;refine⟨A,h1.keep n.k.tup (λc hc o e=>n.k.out c o e λz=>z.elim (h3 c hc).2.1 λz=>(h1.mZ c hc).1 z),h2,λc hc=>⟨(h3 c hc).1,λz=>(n.w c z).elim (h3 c hc).2.1 λz=>(h1.mZ c hc).1 z,(h3 c hc).2.2⟩⟩
 |fG =>
  have g:aD P w (λa=>av C (Wn own) .fG a\/H a=none) H d v:=aD.grow (λb z=>z) h;exact aD.a7 (λb z=>z.elim (λz=>(n.w b z).imp .inl id) λz=>.inl (.inr z)) (aD.keep (n.k.mono λb z=>z.imp .inl id) g)
 |old=>exact held (W:=Wn own) h n
 |bor=>exact absurd rfl hk
theorem KV.LZ (h:KV P w C Z own H k d v)(s:ay H H2)(e:ba=own):KV P w C Z ba H2 k d v:=by rw[e];exact h.Kt s
abbrev hold (k:Kd)(p:Bool):Prop:=match k,p with
 |.bor,false=>False
 |_,_=>True
theorem KV.ho (h:KV P w C Z own H k d v)(o:Out X C σ H own p β' H2 ba)(hh:hold k p):KV P w C Z ba H2 k d v:=by
 cases p with
 |true=>obtain⟨s,e⟩:=o.pu rfl;exact h.LZ s e
 |false=>exact h.held (by rintro rfl;exact hh) o.sn
theorem KV.later (h:KV P w C (H1,Wn az) own H k d v)(n:Sn Z H1 (Wn az)):KV P w C Z own H k d v:=by
 cases k with
 |own=>obtain⟨A,h1,h2,h3⟩:=h;exact⟨A,h1,h2,λc hc=>⟨n.free (h3 c hc).1,(h3 c hc).2⟩⟩
 |_=>exact h
end
abbrev aS:=a_->(D->Kd->a_->Prop)->Prop
abbrev bh:=a_->(Bool->a_->Prop)->Prop
abbrev bG:=a_->(List D->List Kd->a_->Prop)->Prop
def tQ (X:Cx)(C:Cfg)(p:Bool)(φ:aS):TE:=λσ H Q=>∃β own,SQ X C σ H β own/\φ β λd k β'=>∀v H' a3,Out X C σ H own p β' H' a3->KV X.prog X.w C (H,Wn own) a3 H' k d v->Q v H'
def lq (X:Cx)(C:Cfg)(p:Bool)(φ:bh):TT:=λσ H Q=>∃β own,SQ X C σ H β own/\φ β λb β'=>∀H' a3,Out X C σ H own p β' H' a3->Q b H'
def KF (P:Wq)(w:WC)(C:Cfg)(own:Nat->List Addr)(H:Hp):List Kd->List D->List V->List Addr->Prop
 |[],ds,vs,A=>ds=[]/\vs=[]/\A=[]
 |k::ks,ds,vs,A=>∃d dr v vr A1 A2,ds=d::dr/\vs=v::vr/\A=A1++A2/\(match k with | .own=>Own P w H d v A1|k=>A1=[]/\aD P w (av C (Wn own) k) H d v)/\KF P w C own H ks dr vr A2
def tu (P:Wq)(w:WC)(C:Cfg)(Z:Hp×(Addr->Prop))(own:Nat->List Addr)(H:Hp)(ks:List Kd)(ds:List D)(vs:List V):Prop :=
 ∃A,KF P w C own H ks ds vs A/\A.Nodup/\∀c∈A,Z.1 c=none/\¬ Wn own c/\C.H0 c=none
def qA (X:Cx)(C:Cfg)(p:Bool)(φ:bG):TA:=λσ H Q=>∃β own,SQ X C σ H β own/\φ β λds ks β'=>∀vs H' a3,Out X C σ H own p β' H' a3->tu X.prog X.w C (H,Wn own) a3 H' ks ds vs->Q vs H'
section
variable {C:Cfg}{H H1:Hp}{own az:Nat->List Addr}{Z:Hp×(Addr->Prop)}{d:D}{v:V}{k:Kd}{P:Wq}{w:WC}{ks:List Kd}{ds:List D}{vs:List V}
theorem tu.nil:tu P w C Z own H [] [] []:=⟨[],⟨rfl,rfl,rfl⟩,Xx,λc hc=>(nomatch hc)⟩
theorem KF.mZ:∀{ks:List Kd} {ds:List D} {vs:List V} {A:List Addr},KF P w C own H ks ds vs A->∀c∈A,H c≠none
 |[],_,_,_,l_,c,hc=>by obtain⟨_,_,e⟩:=l_;rw[e]at hc;cases hc
 |k::ks,_,_,_,l_,c,hc=>by
  obtain⟨d,dr,v,vr,A1,A2,rfl,rfl,rfl,h1,h2⟩:=l_;rcases WO.mp hc with hc|hc
  ·cases k with
   |own=>exact(Own.mZ h1 c hc).1
   |_=>rw[h1.1]at hc;cases hc
  ·exact KF.mZ h2 c hc
theorem tu.cons (h1:KV P w C Z az H1 k d v)(n:Sn (H1,Wn az) H (Wn own))(Eb:KV P w C Z own H k d v)(h2:tu P w C (H1,Wn az) own H ks ds vs)(n0:Sn Z H1 (Wn az)):tu P w C Z own H (k::ks) (d::ds) (v::vs):=by
 obtain⟨A2,f2,Dz,q2⟩:=h2;have z2:∀c∈A2,Z.1 c=none/\¬ Wn own c/\C.H0 c=none:=λc hc=>⟨n0.free (q2 c hc).1,(q2 c hc).2⟩;cases k with
 |own =>
  obtain⟨A1,o1,zP,q1⟩:=h1;obtain⟨Wf,VX,Uj,R5⟩:=(show KV P w C Z own H .own d v from KV.held (k:=.own) (λz=>(nomatch z)) (⟨A1,o1,zP,q1⟩:KV P w C Z az H1 .own d v) n)
  have OD:Own P w H d v A1:=o1.keep n.k.tup (λc hc o e=>n.k.out c o e λz=>z.elim (q1 c hc).2.1 λz=>(o1.mZ c hc).1 z);refine⟨A1++A2,⟨d,ds,v,vs,A1,A2,rfl,rfl,rfl,OD,f2⟩,XG.mpr ⟨zP,Dz,λa ha b hb e=>?_⟩,λc hc=>?_⟩
  ·subst e;exact(o1.mZ a ha).1 (q2 a hb).1
  ·rcases WO.mp hc with hc|hc
   ·exact⟨(q1 c hc).1,λz=>(n.w c z).elim (q1 c hc).2.1 λz=>(o1.mZ c hc).1 z,(q1 c hc).2.2⟩
   ·exact z2 c hc
 |fG=>exact⟨A2,⟨d,ds,v,vs,[],A2,rfl,rfl,rfl,⟨rfl,Eb⟩,f2⟩,Dz,z2⟩
 |old=>exact⟨A2,⟨d,ds,v,vs,[],A2,rfl,rfl,rfl,⟨rfl,Eb⟩,f2⟩,Dz,z2⟩
 |bor=>exact⟨A2,⟨d,ds,v,vs,[],A2,rfl,rfl,rfl,⟨rfl,Eb⟩,f2⟩,Dz,z2⟩
abbrev gW:List Kd->Kd
 |[]=>.fG
 |k::ks=>Kd.max k (gW ks)
theorem KF.kG:∀{ks:List Kd} {ds:List D} {vs:List V} {A:List Addr},KF P w C own H ks ds vs A->(∀c∈A,¬ Wn own c/\C.H0 c=none)->ao P w (av C (Wn own) (gW ks)) H ds vs
 |[],_,_,_,Am,_=>by obtain⟨e1,e2,e⟩:=Am;rw[e1,e2];rfl
 |k::ks,_,_,_,Am,hA=>by
  obtain⟨d,dr,v,vr,A1,A2,rfl,rfl,rfl,h1,h2⟩:=Am;refine⟨v,vr,rfl,?_,ao.a7 d_ (KF.kG h2 λc hc=>hA c (W9 _ hc))⟩;cases k with
  |own=>exact aD.a7 cH (Own.rep (W:=av C (Wn own) .own) (λc hc z=>z.elim (hA c (X1 _ hc)).1 λz=>z (hA c (X1 _ hc)).2) h1)
  |fG=>exact aD.a7 (cH (a:=.fG)) h1.2
  |old=>exact aD.a7 (cH (a:=.old)) h1.2
  |bor=>exact aD.a7 (cH (a:=.bor)) h1.2
theorem tu.kG (h:tu P w C Z own H ks ds vs):ao P w (av C (Wn own) (gW ks)) H ds vs:=let ⟨A,h1,_,h3⟩:=h;h1.kG λc hc=>(h3 c hc).2
theorem tu.bor (h:tu P w C Z own H ks ds vs):ao P w (λ_=>False) H ds vs:=ao.a7 (λ_ z=>z.elim) h.kG
def wu:List Kd->List D->Prop
 |k::ks,d::ds=>(match k with | .own=>True|_=>d.flat=true)/\wu ks ds
 |_,_=>True
theorem KF.G3:∀{ks:List Kd} {ds:List D} {vs:List V} {A:List Addr},KF P w C own H ks ds vs A->wu ks ds->a8 P w H ds vs A
 |[],_,_,_,Al,_=>by obtain⟨e1,e2,e⟩:=Al;rw[e1,e2,e];exact⟨rfl,rfl⟩
 |k::ks,_,_,_,Al,DQ=>by
  obtain⟨d,dr,v,vr,A1,A2,rfl,rfl,rfl,h1,h2⟩:=Al;obtain⟨f1,f2⟩:=DQ;refine⟨v,vr,A1,A2,rfl,rfl,?_,KF.G3 h2 f2⟩;cases k with
  |own=>exact h1
  |fG=>rw[h1.1];exact dJ f1 h1.2
  |old=>rw[h1.1];exact dJ f1 h1.2
  |bor=>rw[h1.1];exact dJ f1 h1.2
theorem jh:∀{ks:List Kd},(gW ks).wk=gW ks
 |[]=>rfl
 |k::ks=>by cases k <;> cases h:gW ks <;> simp[gW,Kd.max,h]
def xY (ks:List Kd)(ds:List D)(K:Kd->Prop):Prop:=match ks.all (λk=>match k with | .own=>true|_=>false)with
 |true=>K .own
 |false=>(wu ks ds/\K .own)\/K (gW ks)
theorem xY.mono {ks:List Kd}{ds:List D}{K K':Kd->Prop}(k:∀x,K x->K' x)(h:xY ks ds K):xY ks ds K':=by
 unfold xY at *
 split
 ·next e=>rw[e]at h;exact k _ h
 ·next e=>rw[e]at h;exact h.imp (λz=>⟨z.1,k _ z.2⟩) (k _)
theorem xY.of {ks:List Kd}{ds:List D}{K:Kd->Prop}(h:xY ks ds K):(wu ks ds/\K .own)\/K (gW ks):=by
 unfold xY at h
 split at h
 ·next e =>
  refine .inl ⟨?_,h⟩
  clear h
  induction ks generalizing ds with
  |nil=>cases ds <;> trivial
  |cons k ks ih =>
   cases ds with
   |nil=>trivial
   |cons d ds =>
    rw[List.all_cons,Xi]at e;refine⟨?_,ih e.2⟩;have e1:=e.1;cases k <;> first|trivial|cases e1
 ·exact h
end
structure PQ (X:Cx)(C:Cfg)(p:Bool)(e:Expr)(φ:aS):Prop where
 mono:∀β R R',(∀d k β,R d k β->R' d k β)->φ β R->φ β R'
 pe:PE X e (tQ X C p φ)
structure tG (X:Cx)(C:Cfg)(p:Bool)(e:Expr)(φ:bh):Prop where
 mono:∀β R R',(∀d β,R d β->R' d β)->φ β R->φ β R'
 pt:PT X e (lq X C p φ)
structure mE (X:Cx)(C:Cfg)(p:Bool)(e:Expr)(φ:bh):Prop where
 mono:∀β R R',(∀d β,R d β->R' d β)->φ β R->φ β R'
 pw:PW X e (lq X C p φ)
structure ql (X:Cx)(C:Cfg)(p:Bool)(es:List Expr)(φ:bG):Prop where
 mono:∀β R R',(∀d k β,R d k β->R' d k β)->φ β R->φ β R'
 pa:PA X es (qA X C p φ)
section
variable {X:Cx}{C:Cfg}{a b c e:Expr}{es:List Expr}{φ φa φb:aS}{τ τa τb:bh}{φs:bG}{pos:Pos}{σ:St}{H H':Hp}{β:a_}{own:Nat->List Addr}{p p':Bool}
theorem tQ.of (h:PQ X C p e φ)(s:SQ X C σ H β own){R:D->Kd->a_->Prop}{Q:VK}(hr:φ β R)(k:∀d kd β' v H' a3,R d kd β'->Out X C σ H own p β' H' a3->KV X.prog X.w C (H,Wn own) a3 H' kd d v->Q v H'):tQ X C p φ σ H Q :=
 ⟨β,own,s,h.mono β _ _ (λd kd β' hd v H' a3 o r=>k d kd β' v H' a3 hd o r) hr⟩
theorem lq.of (h:tG X C p e τ)(s:SQ X C σ H β own){R:Bool->a_->Prop}{Q:Bool->Hp->Prop}(hr:τ β R)(k:∀t β' H' a3,R t β'->Out X C σ H own p β' H' a3->Q t H'):lq X C p τ σ H Q :=
 ⟨β,own,s,h.mono β _ _ (λt β' hd H' a3 o=>k t β' H' a3 hd o) hr⟩
theorem qA.of (h:ql X C p es φs)(s:SQ X C σ H β own){R:List D->List Kd->a_->Prop}{Q:List V->Hp->Prop}(hr:φs β R)(k:∀ds ks β' vs H' a3,R ds ks β'->Out X C σ H own p β' H' a3->tu X.prog X.w C (H,Wn own) a3 H' ks ds vs->Q vs H'):qA X C p φs σ H Q :=
 ⟨β,own,s,h.mono β _ _ (λd kd β' hd v H' a3 o r=>k d kd β' v H' a3 hd o r) hr⟩
theorem mE.t (h:mE X C p e τ):tG X C p e τ:=⟨h.mono,h.pw.pt⟩
noncomputable abbrev vk (y:Bool):D->Kd
 |.int _=>.own
 |.bl _=>.own
 |.bE=>.own
 |.str _=>.own
 |_=>yk y
def qB:B->(D->Kd->Prop)->Prop
 |.val y d,K=>K d (vk y d)
 |.own d,K=>K d .bor
 |.hand _,_=>False
 |.shl _ _,_=>False
def KG (i:Nat):aS:=λβ R=>∃b,β[i]?=some (some b)/\qB b λd k=>R d k β
theorem HE {P:Wq}{w:WC}{Z:Hp×(Addr->Prop)}{y:Bool}{d:D}{v:V}(h:aD P w (av C (Wn own) (yk y)) H d v):KV P w C Z own H (vk y d) d v:=by
 cases d with
 |int i=>exact KV.flat rfl h
 |bl i=>exact KV.flat rfl h
 |bE=>exact KV.flat rfl h
 |str i=>exact KV.flat rfl h
 |_=>cases y <;> exact h
theorem af {i:Nat}{x:Str}(hn:Nm X i x:=by exact JJ):
  PQ X C true (.Name x pos) (KG i):=⟨λβ R R' k uw=>by obtain⟨b,e,h⟩:=uw;exact⟨b,e,by cases b <;> first|exact k _ _ _ h|exact h⟩,(nE hn).pre λσ H Q xv=>by
 obtain⟨β,own,s,b,e,q⟩:=xv;cases b with
 |val y d=>obtain⟨v,h1,h2⟩:=s.NM e;exact⟨v,h1,q v H own (Out.refl s _) (HE h2)⟩
 |own d=>obtain⟨v,h1,h2,h3⟩:=s.ow i d e;exact⟨v,h1,q v H own (Out.refl s _) (h2.rep λ_ _ z=>z)⟩
 |hand ok=>exact q.elim
 |shl _ _=>exact q.elim⟩
def qC (d:D):aS:=λβ R=>R d .own β
theorem ak {i j}:PQ X C true (.Constant (.int i) j pos) (qC (.int i)):=⟨λρ R R' k h=>k _ _ _ h,ph.pre λσ H Q P4=>by obtain⟨β,own,s,q⟩:=P4;exact q _ H own (Out.refl s _) (KV.flat (W:=λ_=>False) rfl rfl)⟩
theorem ze {b j}:PQ X C true (.Constant (.bool b) j pos) (qC (.bl b)):=⟨λρ R R' k h=>k _ _ _ h,E8.pre λσ H Q UO=>by obtain⟨β,own,s,q⟩:=UO;exact q _ H own (Out.refl s _) (KV.flat (W:=λ_=>False) rfl rfl)⟩
theorem b8 {j}:PQ X C true (.Constant .none j pos) (qC .bE):=⟨λρ R R' k h=>k _ _ _ h,GX.pre λσ H Q LL=>by obtain⟨β,own,s,q⟩:=LL;exact q _ H own (Out.refl s _) (KV.flat (W:=λ_=>False) rfl rfl)⟩
theorem ar {x j}:PQ X C true (.Constant (.str x) j pos) (qC (.str x)):=⟨λρ R R' k h=>k _ _ _ h,zm.pre λσ H Q DR=>by obtain⟨β,own,s,q⟩:=DR;exact q _ H own (Out.refl s _) (KV.flat (W:=λ_=>False) rfl rfl)⟩
def yQ (X:Cx)(f:D->D->Option D)(N:D->Prop):R2:=λx y H Q=>∃W d1 d2 d,Dm W H/\Rp X W H d1 x/\Rp X W H d2 y/\f d1 d2=some d/\∀v H',ay H H'->Rp X W H' d v->(N d->Rp X (λa=>H a≠none) H' d v)->Q v H'
abbrev Nt (X:Cx)(f:Wg->Wg->Sem Wg)(g:D->D->Option D)(N:D->Prop):Prop:=gZ X f (yQ X g N)
theorem bf.m {f:Wg->Wg->Sem Wg}{g:D->D->Option D}(h:bf X f g):Nt X f g NF:=λpins s σ H x y v u Q I rx ry mU=>by
 obtain⟨W,d1,d2,d,hd,r1,r2,e,q⟩:=mU;exact h pins s σ H x y v u Q I rx ry ⟨W,d1,d2,d,hd,r1,r2,e,λv H' s r=>q v H' s r λf=>aD.flat f r⟩
noncomputable def kN (N:D->Prop)(d:D)(k:Kd)(K:Kd->Prop):Prop:=match d with
 |.int _=>K .own
 |.bl _=>K .own
 |.bE=>K .own
 |.str _=>K .own
 |.tup _=>K k
 |_=>(N d/\K .own)\/K k
theorem kN.mono {N:D->Prop}{d:D}{k:Kd}{K K':Kd->Prop}(h:∀x,K x->K' x)(q:kN N d k K):kN N d k K':=by
 cases d <;> first|exact h _ q|exact q.imp (λz=>⟨z.1,h _ z.2⟩) (h _)
theorem gO {P:Wq}{w:WC}{Z:Hp×(Addr->Prop)}{d:D}{v:V}(hd:Dm (Wn own) H)(h0:∀a,C.H0 a≠none->H a≠none)(hz:∀a,Z.1 a≠none->H a≠none)(f:NL d)(r:aD P w (λa=>H a≠none) H' d v):KV P w C Z own H' .own d v:=by
 have nn:∀{a:Addr},¬ (H a≠none)->H a=none:=λ{a} h=>Xs λz=>h z;have cl:∀{a:Addr},H a=none->Z.1 a=none/\¬ Wn own a/\C.H0 a=none:=λ{a} h=>⟨Xs λz=>hz a z h,λz=>hd a z h,Xs λz=>h0 a z h⟩;cases d with
 |lst ds =>
  obtain⟨a,vs,rfl,e,n,q⟩:=r;exact⟨[a],⟨a,vs,[],rfl,e,rfl,gN f q⟩,by simp,λc hc=>by rw[Wx.mp hc];exact cl (nn n)⟩
 |_=>exact KV.flat f r
theorem KV.kN {N:D->Prop}{P:Wq}{w:WC}{Z:Hp×(Addr->Prop)}{d:D}{v:V}{k:Kd}{K:Kd->Prop}(hk:k.wk=k)(r:aD P w (av C (Wn own) k) H' d v)(ro:N d->KV P w C Z own H' .own d v)(q:kN N d k K):∃k',K k'/\KV P w C Z own H' k' d v:=by
 have rk:KV P w C Z own H' k d v:=by rw[<- hk];exact KV.of (by rw[hk];exact r)
 cases d with
 |int i=>exact⟨_,q,KV.flat rfl r⟩
 |bl i=>exact⟨_,q,KV.flat rfl r⟩
 |bE=>exact⟨_,q,KV.flat rfl r⟩
 |str i=>exact⟨_,q,KV.flat rfl r⟩
 |tup ds=>exact⟨_,q,rk⟩
 |_=>exact q.elim (λz=>⟨_,z.2,ro z.1⟩) λz=>⟨_,z,rk⟩
structure BU (N:D->Prop):Prop where
 nl:∀d,N d->NL d
theorem aP:BU NL:=⟨λ_ h=>h⟩
theorem ai:BU NF:=⟨λd h=>by cases d <;> first|exact h|cases h⟩
theorem zR {a b:Kd}:(a.max b).wk=a.max b:=by cases a <;> cases b <;> rfl
def wW (g:D->D->Option D)(N:D->Prop)(pb:Bool)(φa φb:aS):aS:=λβ R=>φa β λx ka β1=>hold ka pb/\φb β1 λy kb β2=>∃d,g x y=some d/\kN N d (ka.max kb) λk=>R d k β2
variable {g:D->D->Option D}{N:D->Prop}
theorem wW.mono (ha:PQ X C p a φa)(hb:PQ X C p' b φb):∀β R R',(∀d k β,R d k β->R' d k β)->wW g N p' φa φb β R->wW g N p' φa φb β R':=λβ R R' k h =>
 ha.mono β _ _ (λx ka β1 hx=>⟨hx.1,hb.mono β1 _ _ (λy kb β2 Au=>by obtain⟨d,e,q⟩:=Au;exact⟨d,e,q.mono λ_ z=>k _ _ _ z⟩) hx.2⟩) h
theorem t7 (hn:BU N)(ha:PQ X C p a φa)(hb:PQ X C p' b φb):∀σ H Q,tQ X C (p&&p') (wW g N p' φa φb) σ H Q->Kg (yQ X g N) (tQ X C p φa) (tQ X C p' φb) σ H Q:=λσ H Q DP=>by
 obtain⟨β,own,s,h⟩:=DP;exact tQ.of ha s h λd1 k1 β1 v1 H1 az UI o1 r1=>by
  obtain⟨hh,h1⟩:=UI;exact tQ.of hb o1.sq h1 λd2 k2 β2 v2 H2 ba uy o2 r2=>by
   obtain⟨d,e,q⟩:=uy;have KD:=r1.ho o2 hh;refine⟨av C (Wn ba) (k1.max k2),d1,d2,d,o2.sq.Bc _,aD.a7 cH KD.rep,aD.a7 d_ r2.rep,e,λv H' s3 r3 n3=>?_⟩;have o:=(o1.trans o2).same s3;obtain⟨k,q,r⟩:=KV.kN (Z:=(H,Wn own)) zR r3 (λn=>gO (H:=H2) o2.sq.uL o2.sq.iG (λa z=>o2.sn.d a (o1.sn.d a z)) (hn.nl _ n) (n3 n)) q;exact q v H' ba o r
theorem aN {op:Operator}(hn:BU N)(ho:Nt X (XZ op) g N)(ha:PQ X C p a φa)(hb:PQ X C p' b φb):PQ X C (p&&p') (.BinOp a op b pos) (wW g N p' φa φb):=⟨wW.mono ha hb,(zq ho ha.pe hb.pe).pre (t7 hn ha hb)⟩
theorem dI {op:Zt}(hn:BU N)(ho:Nt X (Xm op) g N)(ha:PQ X C p a φa)(hb:PQ X C p' b φb)(hm:Zq op b=false:=by first|exact q8 _ (by decide) (by decide)|rfl):PQ X C (p&&p') (.Compare a [op] [b] pos) (wW g N p' φa φb) :=
 ⟨wW.mono ha hb,(C0 ho ha.pe hb.pe hm).pre (t7 hn ha hb)⟩
theorem bo (hn:BU N)(ho:F0 X (yQ X g N))(ha:PQ X C p a φa)(hb:PQ X C p' b φb)(hs:wt b:=by exact λ_ _=>rfl):PQ X C (p&&p') (.Subscript a b pos) (wW g N p' φa φb):=⟨wW.mono ha hb,(K1 ho ha.pe hb.pe hs).pre (t7 hn ha hb)⟩
def yR (φ:aS):bh:=λβ R=>φ β λd k β'=>∃b,d=.bl b/\R b β'
theorem aH {op:Zt}(hn:BU N)(ho:Nt X (Xm op) g N)(ha:PQ X C p a φa)(hb:PQ X C p' b φb)(hm:Zq op b=false:=by first|exact q8 _ (by decide) (by decide)|rfl):tG X C (p&&p') (.Compare a [op] [b] pos) (yR (wW g N p' φa φb)) :=
 ⟨λβ R R' k h=>wW.mono ha hb β _ _ (λd kd β ux=>by obtain⟨t,e,q⟩:=ux;exact⟨t,e,k _ _ q⟩) h,(CO ho ha.pe hb.pe hm).pre λσ H Q ⟨β,own,s,h⟩ =>
  tQ.of ha s h λd1 k1 β1 v1 H1 az Pz o1 r1=>by
   obtain⟨hh,h1⟩:=Pz;exact tQ.of hb o1.sq h1 λd2 k2 β2 v2 H2 ba IF o2 r2=>by
    obtain⟨d,e,q⟩:=IF;have KD:=r1.ho o2 hh;refine⟨av C (Wn ba) (k1.max k2),d1,d2,d,o2.sq.Bc _,aD.a7 cH KD.rep,aD.a7 d_ r2.rep,e,λv H' s3 r3 n3=>?_⟩;obtain⟨k,⟨t,et,q'⟩,r⟩:=KV.kN (Z:=(H,Wn own)) zR r3 (λn=>gO (H:=H2) o2.sq.uL o2.sq.iG (λa z=>o2.sn.d a (o1.sn.d a z)) (hn.nl _ n) (n3 n)) q;subst et;cases r3;exact⟨t,rfl,q' H' ba ((o1.trans o2).same s3)⟩⟩
theorem gL (ha:PQ X C p a φa)(he:∀whole,isTrue a X.env whole=(do let v <- whole;standAt a.pos;holding [v] (truthy v)):=by intro _;rfl):tG X C p a (yR φa) :=
 ⟨λβ R R' k h=>ha.mono β _ _ (λd kd β' IE=>by obtain⟨b,e,q⟩:=IE;exact⟨b,e,k _ _ q⟩) h,(GK ha.pe he).pre λσ H Q ⟨β,own,s,h⟩=>tQ.of ha s h λd k β' v H1 az ID o1 r1=>by
  obtain⟨b,e,q⟩:=ID;subst e;cases r1.rep;exact⟨b,rfl,q H1 az o1⟩⟩
def KJ (τ:bh):bh:=λβ R=>τ β λb β'=>R (!b) β'
theorem kU (ha:tG X C p a τ):tG X C p (.UnaryOp .Not a pos) (KJ τ) :=
 ⟨λβ R R' k h=>ha.mono β _ _ (λb β' q=>k _ _ q) h,(GL ha.pt).pre λσ H Q Ao=>by obtain⟨β,own,s,h⟩:=Ao;exact lq.of ha s h λb β' H1 az q o=>q H1 az o⟩
variable {rest:List Expr}
def KP (τa τb:bh):bh:=λβ R=>τa β λt β1=>if t=true then τb β1 R else R false β1
def Oq (τa τb:bh):bh:=λβ R=>τa β λt β1=>if t=true then R true β1 else τb β1 R
theorem fZ (ha:tG X C p a τ):mE X C p (.BoolOp .And [a] pos) τ:=⟨ha.mono,pw_and1 ha.pt⟩
theorem cO (ha:tG X C p a τ):mE X C p (.BoolOp .Or [a] pos) τ:=⟨ha.mono,pw_or1 ha.pt⟩
theorem uZ {p q:Bool}(z:(p&&q)=true):p=true:=by cases p <;> first|rfl|cases z
theorem EL {p q:Bool}(z:(p&&q)=true):q=true:=by cases p <;> first|exact z|cases z
theorem iX (ha:tG X C p a τa)(hb:mE X C p' (.BoolOp .And (b::rest) pos) τb):mE X C (p&&p') (.BoolOp .And (a::b::rest) pos) (KP τa τb) :=
 ⟨λβ R R' k h=>ha.mono β _ _ (λt β1 q=>by
   cases t
   ·exact k _ _ q
   ·exact hb.mono β1 _ _ k q) h,(pw_and ha.pt hb.pw).pre λσ H Q ⟨β,own,s,h⟩=>lq.of ha s h λt β1 H1 az q o1=>by
  cases t
  ·exact q H1 az (o1.wk uZ)
  ·exact lq.of hb.t o1.sq q λt' β2 H2 ba q2 o2=>q2 H2 ba (o1.trans o2)⟩
theorem cy (ha:tG X C p a τa)(hb:mE X C p' (.BoolOp .Or (b::rest) pos) τb):mE X C (p&&p') (.BoolOp .Or (a::b::rest) pos) (Oq τa τb) :=
 ⟨λβ R R' k h=>ha.mono β _ _ (λt β1 q=>by
   cases t
   ·exact hb.mono β1 _ _ k q
   ·exact k _ _ q) h,(pw_or ha.pt hb.pw).pre λσ H Q ⟨β,own,s,h⟩=>lq.of ha s h λt β1 H1 az q o1=>by
  cases t
  ·exact lq.of hb.t o1.sq q λt' β2 H2 ba q2 o2=>q2 H2 ba (o1.trans o2)
  ·exact q H1 az (o1.wk uZ)⟩
def Ua (φa φb:aS):aS:=λβ R=>φa β λx _ β1=>∃c,x=.bl c/\if c=true then R (.bl true) .own β1 else φb β1 R
def Ot (φa:aS):aS:=λβ R=>φa β λx _ β1=>∃c,x=.bl c/\R (.bl (!c)) .own β1
theorem GO {op}(h:PQ X C p a φ):PQ X C p (.BoolOp op [a] pos) φ:=⟨h.mono,GV h.pe⟩
theorem vO {P:Wq}{w:WC}{Z:Hp×(Addr->Prop)}{b:Bool}:KV P w C Z own H .own (.bl b) (.bl b):=KV.flat (W:=λ_=>False) rfl rfl
theorem KW (ha:PQ X C p a φa)(hb:PQ X C p' (.BoolOp .Or (b::rest) pos) φb):PQ X C (p&&p') (.BoolOp .Or (a::b::rest) pos) (Ua φa φb) :=
 ⟨λβ R R' k h=>ha.mono β _ _ (λd kd β1 ⟨c,e,q⟩=>⟨c,e,by
   cases c
   ·exact hb.mono β1 _ _ k q
   ·exact k _ _ _ q⟩) h,(K0 ha.pe hb.pe).pre λσ H Q ⟨β,own,s,h⟩=>tQ.of ha s h λd kd β1 v H1 az Ql o1 r1=>by
  obtain⟨c,e,q⟩:=Ql;subst e;cases r1.rep;refine⟨c,rfl,?_⟩;cases c
  ·exact tQ.of hb o1.sq q λd2 k2 β2 v2 H2 ba q2 o2 r2=>q2 v2 H2 ba (o1.trans o2) (r2.later o1.sn)
  ·exact q _ H1 az (o1.wk uZ) vO⟩
theorem GP (ha:PQ X C p a φa):PQ X C p (.UnaryOp .Not a pos) (Ot φa) :=
 ⟨λβ R R' k h=>ha.mono β _ _ (λd kd β1 IC=>by obtain⟨c,e,q⟩:=IC;exact⟨c,e,k _ _ _ q⟩) h,(GW ha.pe).pre λσ H Q ⟨β,own,s,h⟩=>tQ.of ha s h λd kd β1 v H1 az Qi o1 r1=>by
  obtain⟨c,e,q⟩:=Qi;subst e;cases r1.rep;exact⟨c,rfl,q _ H1 az o1 vO⟩⟩
def Uc (τ:bh)(φa φb:aS):aS:=λβ R=>τ β λc β1=>if c=true then φa β1 R else φb β1 R
theorem E7 {pc pa pb:Bool}(hc:tG X C pc c τ)(ha:PQ X C pa a φa)(hb:PQ X C pb b φb):PQ X C (pc&&(pa&&pb)) (.IfExp c a b pos) (Uc τ φa φb) :=
 ⟨λβ R R' k h=>hc.mono β _ _ (λc β1 q=>by
   cases c
   ·exact hb.mono β1 _ _ k q
   ·exact ha.mono β1 _ _ k q) h,(zt hc.pt ha.pe hb.pe).pre λσ H Q ⟨β,own,s,h⟩=>lq.of hc s h λc β1 H1 az q o1=>by
  cases c
  ·exact tQ.of hb o1.sq q λd2 k2 β2 v2 H2 ba q2 o2 r2=>q2 v2 H2 ba (o1.ve o2 λz=>⟨uZ z,EL (EL z)⟩) (r2.later o1.sn)
  ·exact tQ.of ha o1.sq q λd2 k2 β2 v2 H2 ba q2 o2 r2=>q2 v2 H2 ba (o1.ve o2 λz=>⟨uZ z,uZ (EL z)⟩) (r2.later o1.sn)⟩
def T9 (g:D->Option D)(φa:aS):aS:=λβ R=>φa β λx _ β1=>∃d,g x=some d/\d.flat=true/\R d .own β1
theorem E6 {op:UnaryOp}{g:D->Option D}(ho:MI X (unaryOp op) (R4 X g))(ha:PQ X C p a φa):PQ X C p (.UnaryOp op a pos) (T9 g φa) :=
 ⟨λβ R R' k h=>ha.mono β _ _ (λx _ β1 Qh=>by obtain⟨d,e,f,q⟩:=Qh;exact⟨d,e,f,k _ _ _ q⟩) h,(KZ ho ha.pe).pre λσ H Q ⟨β,own,s,h⟩ =>
  tQ.of ha s h λd1 k1 β1 v1 H1 az Qg o1 r1=>by obtain⟨d,e,f,q⟩:=Qg;exact⟨_,d1,d,o1.sq.Bc _,r1.rep,e,λv H' s2 r2=>q v H' az (o1.same s2) (KV.flat f r2)⟩⟩
def KL:bG:=λβ R=>R [] [] β
def E5 (pr:Bool)(φ:aS)(φs:bG):bG:=λβ R=>φ β λd k β1=>hold k pr/\φs β1 λds ks β2=>R (d::ds) (k::ks) β2
theorem ag:ql X C true [] KL:=⟨λβ R R' k h=>k _ _ _ h,il.pre λσ H Q Qe=>by obtain⟨β,own,s,q⟩:=Qe;exact q [] H own (Out.refl s _) tu.nil⟩
theorem aa (ha:PQ X C p a φ)(hr:ql X C p' es φs)(hs:WD (a::es) X.env=(false,eval a X.env)::WD es X.env:=by rfl):ql X C (p&&p') (a::es) (E5 p' φ φs) :=
 ⟨λβ R R' k h=>ha.mono β _ _ (λd kd β1 q=>⟨q.1,hr.mono β1 _ _ (λds ks β2 q2=>k _ _ _ q2) q.2⟩) h,(dj ha.pe hr.pa hs).pre λσ H Q ⟨β,own,s,h⟩ =>
  tQ.of ha s h λd1 k1 β1 v1 H1 az Qc o1 r1=>by obtain⟨hh,h1⟩:=Qc;exact qA.of hr o1.sq h1 λds ks β2 vs H2 ba q o2 r2=>q (v1::vs) H2 ba (o1.trans o2) (tu.cons r1 o2.sn (r1.ho o2 hh) r2 o1.sn)⟩
def Ol (φs:bG):aS:=λβ R=>φs β λds ks β1=>ds.length<=WA/\xY ks ds λk=>R (.tup ds) k β1
def KN (φs:bG):aS:=λβ R=>φs β λds ks β1=>ds.length<=WA/\xY ks ds λk=>R (.lst ds) k β1
theorem a8.same {P:Wq}{w:WC}{ds:List D}{vs:List V}{A:List Addr}(s:ay H H')(h:a8 P w H ds vs A):a8 P w H' ds vs A:=h.keep (λb xs e=>s _ _ e) λc _ o e=>s c o e
theorem HF {P:Wq}{w:WC}{Z:Hp×(Addr->Prop)}{ks:List Kd}{ds:List D}{vs:List V}{K:Kd->Prop}{q:Addr}(hq:H q=none)(h:tu P w C Z own H ks ds vs)(m:xY ks ds K):∃k,K k/\KV P w C Z own (upd H q (.tup vs)) k (.tup ds) (.ref q):=by
 rcases m.of with⟨f,k⟩|k
 ·obtain⟨A,h1,h2,h3⟩:=h;exact⟨_,k,A,⟨q,vs,rfl,aE,(h1.G3 f).same (ay.new hq)⟩,h2,h3⟩
 ·refine⟨_,k,?_⟩;rw[<- jh];exact KV.of (by rw[jh];exact⟨q,vs,rfl,aE,h.kG.same (ay.new hq)⟩)
theorem HH {P:Wq}{w:WC}{Z:Hp×(Addr->Prop)}{ks:List Kd}{ds:List D}{vs:List V}{K:Kd->Prop}{q:Addr}(hq:H q=none)(hd:Dm (Wn own) H)(h0:∀a,C.H0 a≠none->H a≠none)(hz:∀a,Z.1 a≠none->H a≠none)(h:tu P w C Z own H ks ds vs)(m:xY ks ds K):∃k,K k/\KV P w C Z own (upd H q (.lst vs)) k (.lst ds) (.ref q):=by
 rcases m.of with⟨f,k⟩|k
 ·obtain⟨A,h1,h2,h3⟩:=h;refine⟨_,k,q::A,⟨q,vs,A,rfl,aE,rfl,(h1.G3 f).same (ay.new hq)⟩,Xe.mpr ⟨λz=>h1.mZ q z hq,h2⟩,λc hc=>?_⟩;rcases Ws.mp hc with rfl|hc
  ·exact⟨Xs λz=>hz c z hq,λz=>hd c z hq,Xs λz=>h0 c z hq⟩
  ·exact h3 c hc
 ·refine⟨_,k,?_⟩;have nq:¬ av C (Wn own) (gW ks) q:=λz=>by
   cases e:gW ks <;> rw[e]at z <;> first|exact z.elim (λz=>hd q z hq) λz=>h0 q z hq|exact hd q z hq|exact z
  rw[<- jh];exact KV.of (by rw[jh];exact⟨q,vs,rfl,aE,nq,h.kG.same (ay.new hq)⟩)
theorem tu.length {P:Wq}{w:WC}{Z:Hp×(Addr->Prop)}{ks:List Kd}{ds:List D}{vs:List V}(h:tu P w C Z own H ks ds vs):vs.length=ds.length:=h.kG.length
theorem fq {x1}(h:ql X C p es φs):PQ X C p (.Tuple es x1 pos) (Ol φs) :=
 ⟨λβ R R' k q=>h.mono β _ _ (λds ks β1 Qb=>by obtain⟨l,q⟩:=Qb;exact⟨l,q.mono λ_ z=>k _ _ _ z⟩) q,(zk h.pa).pre λσ H Q ⟨β,own,s,q⟩=>qA.of h s q λds ks β1 vs H1 az ⟨l,q1⟩ o1 r1 =>
  ⟨by rw[r1.length];exact l,λq hq=>let ⟨k,q1,r⟩:=HF hq r1 q1;q1 _ _ az (o1.same (ay.new hq)) r⟩⟩
theorem bw (h:ql X C p es φs):PQ X C p (.List es pos) (KN φs) :=
 ⟨λβ R R' k q=>h.mono β _ _ (λds ks β1 Qa=>by obtain⟨l,q⟩:=Qa;exact⟨l,q.mono λ_ z=>k _ _ _ z⟩) q,(zr h.pa).pre λσ H Q ⟨β,own,s,q⟩=>qA.of h s q λds ks β1 vs H1 az ⟨l,q1⟩ o1 r1 =>
  ⟨by rw[r1.length];exact l,λq hq=>let ⟨k,q1,r⟩:=HH hq o1.sq.uL o1.sq.iG (λa z=>o1.sn.d a z) r1 q1;q1 _ _ az (o1.same (ay.new hq)) r⟩⟩
end
section
variable {X:Cx}{C:Cfg}{a b c e:Expr}{es:List Expr}{φ φa φb:aS}{φs:bG}{pos:Pos}{σ:St}{H H':Hp}{β:a_}{own:Nat->List Addr}{p:Bool}{g:D->D->Option D}{N:D->Prop}
abbrev oK:=D->Kd->aS
structure MO (X:Cx)(C:Cfg)(ops:List Zt)(es:List Expr)(φ:oK):Prop where
 mono:∀x k β R R',(∀d k β,R d k β->R' d k β)->φ x k β R->φ x k β R'
 ch:FZ X ops es λx σ H Q=>∃β own d k,SQ X C σ H β own/\Rp X (av C (Wn own) k) H d x/\φ d k β λd' k' β'=>∀v H',ay H H'->SQ X C σ H' β' own->KV X.prog X.w C (H,Wn own) own H' k' d' v->Q v H'
 Td:tq X ops es λx σ H Q=>∃β own d k,SQ X C σ H β own/\Rp X (av C (Wn own) k) H d x/\φ d k β λd' k' β'=>∃b,d'=.bl b/\∀H',ay H H'->SQ X C σ H' β' own->Q b H'
def GJ (g:D->D->Option D)(φb:aS):oK:=λx _ β R=>φb β λy _ β1=>∃b,g x y=some (.bl b)/\R (.bl b) .own β1
def GI (g:D->D->Option D)(φb:aS)(φr:oK):oK:=λx _ β R=>φb β λy ky β1=>∃k,g x y=some (.bl k)/\if k=true then φr y ky β1 R else R (.bl false) .own β1
variable {op Hf:Zt}{ops:List Zt}{rs:List Expr}{φr:oK}
theorem iY (ho:bf X (Xm op) g)(hb:PQ X C true b φb):MO X C [op] [b] (GJ g φb) :=
 ⟨λx k β R R' h q=>hb.mono β _ _ (λy _ β1 mW=>by obtain⟨d,e,q⟩:=mW;exact⟨d,e,h _ _ _ q⟩) q,
  (Jo ho hb.pe).pre λx σ H Q mU=>by
    obtain⟨β,own,d,k,s,r,h⟩:=mU;exact tQ.of hb s h λd2 k2 β2 v2 H2 ba xv o2 r2=>by
      obtain⟨d',e,q⟩:=xv;obtain⟨s2,rfl⟩:=o2.pu rfl;exact⟨av C (Wn ba) (k.max k2),d,d2,.bl d',o2.sq.Bc _,aD.a7 cH (r.same s2),aD.a7 d_ r2.rep,e,λv H' s3 r3=>q v H' (s2.trans s3) (o2.sq.same s3) (KV.flat rfl r3)⟩,
  (EC ho hb.pe).pre λx σ H Q DP=>by
    obtain⟨β,own,d,k,s,r,h⟩:=DP;exact tQ.of hb s h λd2 k2 β2 v2 H2 ba LM o2 r2=>by
      obtain⟨d',e,b,eb,q⟩:=LM;obtain⟨s2,rfl⟩:=o2.pu rfl;cases eb;exact⟨av C (Wn ba) (k.max k2),d,d2,.bl d',o2.sq.Bc _,aD.a7 cH (r.same s2),aD.a7 d_ r2.rep,e,λv H' s3 r3=>by
        cases r3;exact⟨_,rfl,q H' (s2.trans s3) (o2.sq.same s3)⟩⟩⟩
theorem eR (ho:bf X (Xm op) g)(hb:PQ X C true b φb)(hc:MO X C (Hf::ops) (c::rs) φr):MO X C (op::Hf::ops) (b::c::rs) (GI g φb φr) :=
 ⟨λx k β R R' h q=>hb.mono β _ _ (λy ky β1 ⟨d,e,q⟩=>⟨d,e,by
   cases d
   ·exact h _ _ _ q
   ·exact hc.mono y ky β1 _ _ h q⟩) q,
  (ED ho hb.pe hc.ch).pre λx σ H Q UH=>by
    obtain⟨β,own,d,k,s,r,h⟩:=UH;exact tQ.of hb s h λd2 k2 β2 v2 H2 ba LL o2 r2=>by
      obtain⟨t,e,q⟩:=LL;obtain⟨s2,rfl⟩:=o2.pu rfl;refine⟨av C (Wn ba) (k.max k2),d,d2,.bl t,o2.sq.Bc _,aD.a7 cH (r.same s2),aD.a7 d_ r2.rep,e,λv H' s3 r3=>?_⟩;cases r3;refine⟨t,rfl,?_⟩;cases t
      · exact q _ H' (s2.trans s3) (o2.sq.same s3) vO
      · exact⟨β2,ba,d2,k2,o2.sq.same s3,r2.rep.same s3,hc.mono d2 k2 β2 _ _ (λd' k' β' q' v BV s4 sq r4=>q' v BV ((s2.trans s3).trans s4) sq (r4.later ((o2.same s3).sn))) q⟩,
  (Bx ho hb.pe hc.Td).pre λx σ H Q Pz=>by
    obtain⟨β,own,d,k,s,r,h⟩:=Pz;exact tQ.of hb s h λd2 k2 β2 v2 H2 ba Av o2 r2=>by
      obtain⟨t,e,q⟩:=Av;obtain⟨s2,rfl⟩:=o2.pu rfl;refine⟨av C (Wn ba) (k.max k2),d,d2,.bl t,o2.sq.Bc _,aD.a7 cH (r.same s2),aD.a7 d_ r2.rep,e,λv H' s3 r3=>?_⟩;cases r3;refine⟨t,rfl,?_⟩;cases t
      · obtain⟨b,eb,q⟩:=q;cases eb;exact q H' (s2.trans s3) (o2.sq.same s3)
      · exact⟨β2,ba,d2,k2,o2.sq.same s3,r2.rep.same s3,hc.mono d2 k2 β2 _ _ (λd' k' β' Au=>by obtain⟨b,eb,q'⟩:=Au;exact⟨b,eb,λBV s4 sq=>q' BV ((s2.trans s3).trans s4) sq⟩) q⟩⟩
def o7 (φa:aS)(φr:oK):aS:=λβ R=>φa β λx k β1=>φr x k β1 R
theorem qR {dN dM:Zt}(ha:PQ X C true a φa)(hc:MO X C (dN::dM::ops) (b::c::rs) φr)(hm:lastMarks (dN::dM::ops) (b::c::rs)=false:=by with_unfolding_all rfl):
  PQ X C true (.Compare a (dN::dM::ops) (b::c::rs) pos) (o7 φa φr) :=
 ⟨λβ R R' k h=>ha.mono β _ _ (λx kx β1 q=>hc.mono x kx β1 _ _ k q) h,(w_ ha.pe hc.ch hm).pre λσ H Q ⟨β,own,s,h⟩=>tQ.of ha s h λd k β1 v H1 az q o1 r1=>by
  obtain⟨s1,rfl⟩:=o1.pu rfl;exact⟨β1,az,d,k,o1.sq,r1.rep,hc.mono d k β1 _ _ (λd' k' β' q' v BV s4 sq r4=>q' v BV az ⟨sq,o1.sn.same s4,λ_=>⟨s1.trans s4,rfl⟩,o1.le⟩ (r4.later o1.sn)) q⟩⟩
theorem jG {dN dM:Zt}(ha:PQ X C true a φa)(hc:MO X C (dN::dM::ops) (b::c::rs) φr)(hm:lastMarks (dN::dM::ops) (b::c::rs)=false:=by with_unfolding_all rfl):
  tG X C true (.Compare a (dN::dM::ops) (b::c::rs) pos) (yR (o7 φa φr)) :=
 ⟨λβ R R' k h=>ha.mono β _ _ (λx kx β1 q=>hc.mono x kx β1 _ _ (λd kd β' IG=>by obtain⟨b,e,q⟩:=IG;exact⟨b,e,k _ _ q⟩) q) h,(wX ha.pe hc.Td hm).pre λσ H Q ⟨β,own,s,h⟩=>tQ.of ha s h λd k β1 v H1 az q o1 r1=>by
  obtain⟨s1,rfl⟩:=o1.pu rfl;exact⟨β1,az,d,k,o1.sq,r1.rep,hc.mono d k β1 _ _ (λd' k' β' ux=>by obtain⟨b,e,q'⟩:=ux;exact⟨b,e,λBV s4 sq=>q' BV az ⟨sq,o1.sn.same s4,λ_=>⟨s1.trans s4,rfl⟩,o1.le⟩⟩) q⟩⟩
abbrev s_:=a_->(Option Int->a_->Prop)->Prop
structure J5 (X:Cx)(C:Cfg)(e:Option Expr)(φ:s_):Prop where
 mono:∀β R R',(∀d β,R d β->R' d β)->φ β R->φ β R'
 po:PO X e λσ H Q=>∃β own,SQ X C σ H β own/\φ β λo β'=>∀H',ay H H'->SQ X C σ H' β' own->Q o H'
theorem f9:J5 X C none (λβ R=>R none β):=⟨λβ R R' k h=>k _ _ h,vx.pre λσ H Q Ar=>by obtain⟨β,own,s,q⟩:=Ar;exact q H (ay.refl _) s⟩
theorem f7 (ha:PQ X C true a φ):J5 X C (some a) (λβ R=>φ β λd _ β1=>∃i,d=.int i/\R (some i) β1) :=
 ⟨λβ R R' k h=>ha.mono β _ _ (λd _ β1 Aq=>by obtain⟨i,e,q⟩:=Aq;exact⟨i,e,k _ _ q⟩) h,(vw ha.pe).pre λσ H Q ⟨β,own,s,h⟩=>tQ.of ha s h λd k β1 v H1 az IE o1 r1=>by
  obtain⟨i,e,q⟩:=IE;subst e;cases r1.rep;obtain⟨s1,rfl⟩:=o1.pu rfl;exact⟨i,rfl,q H1 s1 o1.sq⟩⟩
def T_ (φ:aS)(φl φh:s_):aS:=λβ R=>φ β λx k β1=>φl β1 λl β2=>φh β2 λh β3=>∃d,Rh x l h=some d/\kN NL d k.wk λk'=>R d k' β3
theorem EW {k:Kd}:k.wk.wk=k.wk:=by cases k <;> rfl
theorem BG {W:Addr->Prop}{k:Kd}:∀c,av C W k.wk c->av C W k c:=λc h=>by cases k <;> exact h
theorem KS {lo hi:Option Expr}{φl φh:s_}{p2:Pos}(ha:PQ X C p a φ)(hl:J5 X C lo φl)(hh:J5 X C hi φh):PQ X C p (.Subscript a (.Slice lo hi none p2) pos) (T_ φ φl φh) :=
 ⟨λβ R R' k h=>ha.mono β _ _ (λx kx β1 q=>hl.mono β1 _ _ (λl β2 q=>hh.mono β2 _ _ (λu β3 Ap=>by obtain⟨d,e,q⟩:=Ap;exact⟨d,e,q.mono λ_ z=>k _ _ _ z⟩) q) q) h,
  (lM Cz ha.pe hl.po hh.po).pre λσ H Q ⟨β,own,s,h⟩=>tQ.of ha s h λd k β1 v H1 az q o1 r1 =>
    ⟨β1,az,o1.sq,hl.mono β1 _ _ (λl β2 q H2 s2 Kq=>⟨β2,az,Kq,hh.mono β2 _ _ (λu β3 Ao H3 s3 Cv=>by
      obtain⟨d',e,q⟩:=Ao;refine⟨av C (Wn az) k.wk,d,d',Cv.Bc _,((aD.a7 BG r1.rep).same s2).same s3,e,λv H' s4 r4 n4=>?_⟩;obtain⟨k',q,r⟩:=KV.kN (Z:=(H,Wn own)) EW r4 (λn=>gO (H:=H3) Cv.uL Cv.iG (λa z e=>o1.sn.d a z (s2.free (s3.free e))) n (n4 n)) q;exact q v H' az ⟨Cv.same s4,o1.sn.same ((s2.trans s3).trans s4),λz=>⟨(o1.pu z).1.trans ((s2.trans s3).trans s4),(o1.pu z).2⟩,o1.le⟩ r) q⟩) q⟩⟩
def Kz (X:Cx)(f:List D->Option D)(N:D->Prop):List V->Hp->VK->Prop:=λxs H Q=>∃W ds d,Dm W H/\mI X W H ds xs/\f ds=some d/\∀v H',ay H H'->Rp X W H' d v->(N d->Rp X (λa=>H a≠none) H' d v)->Q v H'
abbrev BY (X:Cx)(f:Wg)(g:List D->Option D)(N:D->Prop):Prop:=fN X f (Kz X g N)
theorem aX.m {f:Wg}{g:List D->Option D}(h:aX X f g):BY X f g NF:=λpins s σ H xs us Q I r Ib=>by
 obtain⟨W,ds,d,hd,r1,e,q⟩:=Ib;exact h pins s σ H xs us Q I r ⟨W,ds,d,hd,r1,e,λv H' s r=>q v H' s r λf=>aD.flat f r⟩
def j8 (g:List D->Option D)(N:D->Prop)(φs:bG):aS:=λβ R=>φs β λds ks β1=>∃d,g ds=some d/\kN N d (gW ks) λk=>R d k β1
variable {x:Str}{pp:Pos}{id T:String}{gs:List D->Option D}
theorem j8.mono (h:ql X C p es φs):∀β R R',(∀d k β,R d k β->R' d k β)->j8 gs N φs β R->j8 gs N φs β R':=λβ R R' k q=>h.mono β _ _ (λds ks β1 Qq=>by obtain⟨d,e,q⟩:=Qq;exact⟨d,e,q.mono λ_ z=>k _ _ _ z⟩) q
theorem qP (hn:BU N)(h:ql X C p es φs):∀σ H Q,tQ X C p (j8 gs N φs) σ H Q->N2 (Kz X gs N) (qA X C p φs) σ H Q:=λσ H Q PD=>by
 obtain⟨β,own,s,q⟩:=PD;exact qA.of h s q λds ks β1 vs H1 az Qo o1 r1=>by
  obtain⟨d,e,q1⟩:=Qo;refine⟨av C (Wn az) (gW ks),ds,d,o1.sq.Bc _,r1.kG,e,λv H' s2 r2 n2=>?_⟩;obtain⟨k',q,r⟩:=KV.kN (Z:=(H,Wn own)) jh r2 (λn=>gO (H:=H1) o1.sq.uL o1.sq.iG (λa z=>o1.sn.d a z) (hn.nl _ n) (n2 n)) q1;exact q v H' az (o1.same s2) r
theorem aL (DW:BU N)(hc:BY X (.builtin id) gs N)(hm:X.mg x=none)(hv:Xp x=some (.builtin id))(ha:ql X C p (e::es) φs)(hg:Gl X x:=by rfl)(hn:x≠"__name__" := by decide)(hdb:(x==("__debug__" : Str))=false:=by decide)
  (iF:WD (e::es) X.env=(false,eval e X.env)::WD es X.env:=by rfl) (hpl:(Yd pos (WD es X.env)).any (·.1)=false:=by rfl) :
  PQ X C p (.Call (.Name x pp) (e::es) [] pos) (j8 gs N φs):=⟨j8.mono ha,(qU hc hg hm hv ha.pa hn hdb (he:=iF) (hpl:=hpl)).pre (qP DW ha)⟩
theorem bD (DW:BU N)(hc:BY X (.type T) gs N)(hm:X.mg x=none)(hv:Xp x=some (.type T))(ha:ql X C p (e::es) φs)(hg:Gl X x:=by rfl)(hn:x≠"__name__" := by decide)(hdb:(x==("__debug__" : Str))=false:=by decide)
  (iF:WD (e::es) X.env=(false,eval e X.env)::WD es X.env:=by rfl) (hpl:(Yd pos (WD es X.env)).any (·.1)=false:=by rfl) :
  PQ X C p (.Call (.Name x pp) (e::es) [] pos) (j8 gs N φs):=⟨j8.mono ha,(xb hc hg hm hv ha.pa hn hdb (he:=iF) (hpl:=hpl)).pre (qP DW ha)⟩
end
def tf (P:Wq)(w:WC)(ro:Bool)(H H':Hp)(d:D)(v:V):Prop:=match ro with
 |true=>∃A,Own P w H' d v A/\A.Nodup/\∀c∈A,H c=none
 |false=>aD P w (λa=>H a≠none) H' d v
abbrev rk (ro:Bool):Kd:=match ro with|true=>.own|false=>.fG
def eG (P:Wq)(w:WC)(ro:Bool)(F:FD):Sp:=λvs H Q _=>∃ds,ao P w (λ_=>False) H ds vs/\F ds λd=>∀v H',ay H H'->tf P w ro H H' d v->Q v H'
section
variable {X:Cx}{C:Cfg}{k:Nat}{f:Addr}{fd:Xa}{ps:List Str}{F:FD}{ro p:Bool}{x:Str}{pp pos:Pos}{e:Expr}{es:List Expr}{φs:bG}{σ:St}{H H':Hp}{β:a_}{own:Nat->List Addr}{P:Wq}{w:WC}
theorem tf.kv {Z:Hp×(Addr->Prop)}{d:D}{v:V}(hd:Dm (Wn own) H)(h0:∀a,C.H0 a≠none->H a≠none)(hz:∀a,Z.1 a≠none->H a≠none)(h:tf P w ro H H' d v):KV P w C Z own H' (rk ro) d v:=by
 cases ro with
 |true =>
  obtain⟨A,h1,h2,h3⟩:=h;exact⟨A,h1,h2,λc hc=>⟨Xs λz=>hz c z (h3 c hc),λz=>hd c z (h3 c hc),Xs λz=>h0 c z (h3 c hc)⟩⟩
 |false=>exact aD.a7 (λa z=>z.elim (hd a) (h0 a)) h
def KI (ro:Bool)(F:FD)(φs:bG):aS:=λβ R=>φs β λds _ β1=>F ds λd=>R d (rk ro) β1
theorem aJ (mF:fE F)(G:a9 X.prog X.w X.K X.mg X.base c6 k f fd ps (eG X.prog X.w ro F))(hr:cg k X.A)(hm:X.mg x=some (.ref f))(hk:PySem.W.keepIn X.K (.ref f)=true)(hb:Binds X.K fd ps [])(ha:ql X C p (e::es) φs)(hg:Gl X x:=by rfl)
  (hdb:(x==("__debug__" : Str))=false:=by decide)
  (iF:WD (e::es) X.env=(false,eval e X.env)::WD es X.env:=by rfl) (hpl:(Yd pos (WD es X.env)).any (·.1)=false:=by rfl) :
  PQ X C p (.Call (.Name x pp) (e::es) [] pos) (KI ro F φs) :=
 ⟨λβ R R' k h=>ha.mono β _ _ (λds ks β1 q=>mF ds _ _ (λd q=>k _ _ _ q) q) h,(vB G hr hg hm hk hb .nil Fb ha.pa (hdb:=hdb) (he:=iF) (hpl:=hpl)).pre λσ H Q ⟨β,own,s,h⟩=>qA.of ha s h λds ks β1 vs H1 az q o1 r1=>by
  rw[XD];exact⟨ds,r1.bor,mF ds _ _ (λd q2 v H' s2 r2=>q2 v H' az (o1.same s2) (r2.kv o1.sq.uL o1.sq.iG λa z=>o1.sn.d a z)) q⟩⟩
end
abbrev Cfg.z (C:Cfg):Cfg:=C.u λ_=>False
def SB (X:Cx)(C:Cfg)(Z:Hp×(Addr->Prop))(σ:St)(H:Hp)(β:a_):Prop:=∃own,SQ X C.z σ H β own/\Sn Z H (Wn own)
structure bZ where
 nx:a_->Prop
 rt:D->a_->Prop
 bk:a_->Prop:=λ_=>False
 ct:a_->Prop:=λ_=>False
def bZ.up (E:bZ)(n:a_->Prop):bZ:=⟨n,E.rt,E.bk,E.ct⟩
def bZ.lp (E:bZ)(n:a_->Prop):bZ:=⟨n,E.rt,E.nx,n⟩
structure Ti (X:Cx)(C:Cfg)(Z:Hp×(Addr->Prop))(E:bZ)(D:Ends):Prop where
 nx:∀σ H β,SB X C Z σ H β->E.nx β->D.nx σ H
 rt:∀σ H β d v,SB X C Z σ H β->tf X.prog X.w C.ro C.H0 H d v->E.rt d β->D.rt v H
 bk:∀σ H β,SB X C Z σ H β->E.bk β->D.bk σ H
 ct:∀σ H β,SB X C Z σ H β->E.ct β->D.ct σ H
structure Le (E E':bZ):Prop where
 nx:∀β,E.nx β->E'.nx β
 rt:∀d β,E.rt d β->E'.rt d β
 bk:∀β,E.bk β->E'.bk β
 ct:∀β,E.ct β->E'.ct β
abbrev u5:=bZ->a_->Prop
def ap (ψ:u5)(E:bZ)(β:a_):Prop:=ψ E β
def eN (R:D->Prop):bZ:={nx:=λ_=>R .bE,rt:=λd _=>R d}
def RM (X:Cx)(C:Cfg)(ψ:u5):TS:=λD σ H=>∃Z E β,SB X C Z σ H β/\ψ E β/\Ti X C Z E D
structure PB (X:Cx)(C:Cfg)(st:Stmt)(ψ:u5):Prop where
 mono:∀E E' β,Le E E'->ψ E β->ψ E' β
 ps:PS X st (RM X C ψ)
structure mJ (X:Cx)(C:Cfg)(st:List Stmt)(ψ:u5):Prop where
 mono:∀E E' β,Le E E'->ψ E β->ψ E' β
 ps:qe X st (RM X C ψ)
section
variable {X:Cx}{C:Cfg}{st:Stmt}{rest a b:List Stmt}{ψ ψ1 ψ2:u5}{Z:Hp×(Addr->Prop)}{σ:St}{H H':Hp}{β β':a_}{pos pos':Pos}{e c:Expr}{φ:aS}{τ:bh}{p:Bool}{own a3:Nat->List Addr}{i:Nat}{x:Str}
theorem Out.sb (n:Sn Z H (Wn own))(o:Out X C.z σ H own p β' H' a3):SB X C Z σ H' β':=⟨a3,o.sq,n.trans o.sn⟩
theorem a5:mJ X C [] (λE β=>E.nx β):=⟨λE E' β l h=>l.nx β h,CP.pre λD σ H mW=>by obtain⟨Z,E,β,sb,h,ok⟩:=mW;exact ok.nx σ H β sb h⟩
theorem aj (h1:PB X C st ψ1)(h2:mJ X C rest ψ2):mJ X C (st::rest) (λE β=>ψ1 (E.up (ap ψ2 E)) β) :=
 ⟨λE E' β l h=>h1.mono {E with nx:=ψ2 E} {E' with nx:=ψ2 E'} β ⟨λβ' q=>h2.mono E E' β' l q,l.rt,l.bk,l.ct⟩ h,(lJ h1.ps h2.ps).pre λD σ H ⟨Z,E,β,sb,h,ok⟩ =>
  ⟨Z,{E with nx:=ψ2 E},β,sb,h,⟨λσ' H' β' wR h'=>⟨Z,E,β',wR,h',ok⟩,ok.rt,ok.bk,ok.ct⟩⟩⟩
theorem ax (h1:PB X C st ψ):mJ X C [st] ψ:=⟨h1.mono,o8 h1.ps⟩
theorem C2 (h1:PB X C st ψ1)(h2:mJ X C rest ψ2):mJ X C (st::rest) (λE β=>∃J:a_->Prop,ψ1 (E.up J) β/\∀β',J β'->ap ψ2 E β') :=
 ⟨λE E' β l xv=>by obtain⟨J,h,k⟩:=xv;exact⟨J,h1.mono {E with nx:=J} {E' with nx:=J} β ⟨λ_ q=>q,l.rt,l.bk,l.ct⟩ h,λβ' q=>h2.mono E E' β' l (k β' q)⟩,(lJ h1.ps h2.ps).pre λD σ H ⟨Z,E,β,sb,⟨J,h,k⟩,ok⟩ =>
  ⟨Z,{E with nx:=J},β,sb,h,⟨λσ' H' β' wR h'=>⟨Z,E,β',wR,k β' h',ok⟩,ok.rt,ok.bk,ok.ct⟩⟩⟩
theorem bz (hc:tG X C.z p c τ)(ha:mJ X C a ψ1)(hb:mJ X C b ψ2):PB X C (.If c a b pos) (λE β=>τ β λt β'=>if t=true then ap ψ1 E β' else ap ψ2 E β') :=
 ⟨λE E' β l h=>hc.mono _ _ _ (λt β' q=>by
   cases t
   ·exact hb.mono E E' β' l q
   ·exact ha.mono E E' β' l q) h,(KR hc.pt ha.ps hb.ps).pre λD σ H DR=>by
  obtain⟨Z,E,β,⟨own,s,n⟩,h,ok⟩:=DR;refine lq.of hc s h λt β' H1 az q o1=>?_;cases t
  ·exact⟨Z,E,β',o1.sb n,q,ok⟩
  ·exact⟨Z,E,β',o1.sb n,q,ok⟩⟩
abbrev DG (d:D)(k:Kd)(K:B->Prop):Prop:=match k with
 |.own=>K (.val true d)
 |.fG=>K (.val true d)
 |.old=>K (.val false d)
 |.bor=>d.flat=true/\K (.val true d)
theorem DG.mono {d:D}{k:Kd}{K K':B->Prop}(h:∀b,K b->K' b)(q:DG d k K):DG d k K':=by
 cases k <;> first|exact h _ q|exact⟨q.1,h _ q.2⟩
theorem DG.of {P:Wq}{w:WC}{d:D}{v:V}{k:Kd}{K:B->Prop}(r:KV P w C Z own H k d v)(q:DG d k K):∃y,K (.val y d)/\aD P w (av C (Wn own) (yk y)) H d v:=by
 cases k with
 |own=>exact⟨true,q,r.fG⟩
 |fG=>exact⟨true,q,r⟩
 |old=>exact⟨false,q,r⟩
 |bor=>exact⟨true,q.2,aD.flat q.1 r⟩
theorem jB {own:Nat->List Addr}{i:Nat}(n:Sn Z H (Wn own)):Sn Z H (Wn (aR own i [])):=⟨λb z=>n.w b (eD z),n.k,n.d⟩
theorem a6 (he:PQ X C.z p e φ)(hN:X.N.Nodup)(hi:X.N[i]?=some x:=by rfl)(hx:Loc X.env.scope x:=by first|exact .inl rfl|exact .inr rfl)
  (hs:ZC e (some (.Name x pos')) pos.line X.env=pure false:=by rfl) (hf:X.fn x=true\/X.env.scope.names.lookup x=some .local:=by first|exact .inl rfl|exact .inr rfl|assumption) :
  PB X C (.Assign [.Name x pos'] e pos) (λE β=>φ β λd k β'=>DG d k λb=>E.nx (β'.set i (some b))) :=
 ⟨λE E' β l q=>he.mono _ _ _ (λd k β' q=>q.mono λ_=>l.nx _) q,(t8 hN hi hx he.pe hs hf).pre λD σ H ⟨Z,E,β,⟨own,s,n⟩,q,ok⟩=>tQ.of he s q λd k β' v H' a3 q o r=>by
  obtain⟨y,q,r⟩:=q.of r;exact ok.nx _ _ _ ⟨_,o.sq.dD (aD.a7 (λa z=>z.elim id λz=>z.elim) r),jB (n.trans o.sn)⟩ q⟩
abbrev Fo (k:Kd)(d:D):Prop:=match k with
 |.own=>True
 |_=>d.flat=true
theorem KV.fl {P:Wq}{w:WC}{d:D}{v:V}{k:Kd}(f:Fo k d)(r:KV P w C Z own H k d v):KV P w C Z own H .own d v:=by
 cases k with
 |own=>exact r
 |fG=>exact KV.flat f r.rep
 |old=>exact KV.flat f r.rep
 |bor=>exact KV.flat f r.rep
theorem dh (he:∀U,PQ X (C.u U) p e φ)(hN:X.N.Nodup)(hi:X.N[i]?=some x:=by rfl)(hx:Loc X.env.scope x:=by first|exact .inl rfl|exact .inr rfl)
  (hs:ZC e (some (.Name x pos')) pos.line X.env=pure false:=by rfl) (hf:X.fn x=true\/X.env.scope.names.lookup x=some .local:=by first|exact .inl rfl|exact .inr rfl|assumption) :
  PB X C (.Assign [.Name x pos'] e pos) (λE β=>φ β λd k β'=>Fo k d/\E.nx (β'.set i (some (.own d)))) :=
 ⟨λE E' β l q=>(he λ_=>False).mono _ _ _ (λd k β' q=>⟨q.1,l.nx _ q.2⟩) q,λpins s σ H D I ⟨Z,E,β,⟨own,sq,n⟩,q,ok⟩ =>
  t8 hN hi hx (he λa=>H a=none).pe hs hf pins s σ H D I (tQ.of (he λa=>H a=none) (sq.qu (C:=C.z) (U:=λa=>H a=none) λa z=>z) q λd k β' v H' a3 As o r=>by
   obtain⟨f,q⟩:=As;obtain⟨A,h1,h2,h3⟩:=r.fl f;refine ok.nx _ _ _ ⟨_,o.sq.t5 h1 h2 λc hc=>⟨(h3 c hc).2.2,(h3 c hc).2.1,(h3 c hc).1⟩,?_⟩ q;have m:=n.trans o.sn;exact⟨λb IG=>by
    obtain⟨j,hj⟩:=IG
    by_cases aQ:i=j
    ·rw[<- aQ,os_eq]at hj;exact .inr (n.free (h3 b hj).1)
    ·rw[bg aQ]at hj;exact m.w b ⟨j,hj⟩,m.k,m.d⟩)⟩
theorem b6.KQ {P:Wq}{w:WC}{U U2:Addr->Prop}{d d':D}{v:V}{A':List Addr}{c:Addr}{o:HO}(b:b6 P w (C.u U) σ H β own)(e:β[i]?=some (some (.own d)))(hσ:σ[i]?=some (some v))(hc:c∈own i)
  (r:Own P w (upd H c o) d' v A') (nd:A'.Nodup) (hA:∀a∈A',a∈own i\/(C.H0 a=none/\¬ Wn own a/\U a)) (hU:∀a,U2 a->U a) (Q0:∀a∈A',¬ U2 a):b6 P w (C.u U2) σ (upd H c o) (β.set i (some (.own d'))) (aR own i A'):=by
 obtain⟨g1,g2,g3,g4⟩:=b.dm i c hc;obtain⟨oc,IH⟩:∃oc,H c=some oc:=by
  cases q:H c with
  |none=>exact absurd q g1
  |some oc=>exact⟨oc,rfl⟩
 have ht:∀xs,oc≠.tup xs:=λxs z=>g2 xs (by rw[IH,z])
 have k:Kp (·=c) H (upd H c o):=lY IH ht;have h0:∀a∈own i,C.H0 a=none:=by obtain⟨_,_,_,h⟩:=b.ow i d e;exact h
 have wc:Wn own c:=⟨i,hc⟩;have sub:∀y a,ju (C.u U2) (Wn (aR own i A')) (yk y) a->ju (C.u U) (Wn own) (yk y) a:=λy a h=>by
  have q:∀a,Wn (aR own i A') a->Wn own a\/U a:=λa uy=>by
   obtain⟨j,q⟩:=uy
   by_cases aQ:i=j
   ·rw[aQ,os_eq]at q;rcases hA a q with z|z
    ·exact .inl ⟨i,z⟩
    ·exact .inr z.2.2
   ·rw[bg aQ]at q;exact .inl ⟨j,q⟩
  rcases h with h|h
  ·cases y with
   |true=>exact h.elim (λz=>(q a z).imp .inl id) λz=>.inl (.inr z)
   |false=>exact q a h
  ·exact .inr (hU a h)
 have mem:∀{j c},c∈aR own i A' j->(i=j/\c∈A')\/(i≠j/\c∈own j):=λ{j c} h=>by
  by_cases aQ:i=j
  ·subst aQ;rw[os_eq]at h;exact .inl ⟨rfl,h⟩
  ·rw[bg aQ]at h;exact .inr ⟨aQ,h⟩
 have M3:∀j,i≠j->∀a∈own j,a≠c:=λj aQ a ha z=>aQ (b.mH i j c hc (by rw[<- z];exact ha))
 refine⟨by simp[b.len],λj y' d2 e2=>?_,λj d2 e2=>?_,λj ok e2=>?_,λj a h=>?_,λj k2 a h1 h2=>?_,λj=>?_,⟨λa oa z n=>?_,λa xs z=>k.tup a xs (b.kp.tup a xs z)⟩,λa z=>?_,λj y' d2 e2=>by
  by_cases aQ:i=j
  ·subst aQ;obtain⟨e',hl⟩:=bB e2;cases e'
  ·rw[bu aQ]at e2;rw[bg aQ];obtain⟨u,h1,h2,h3⟩:=b.shl j y' d2 e2;exact⟨u,h1,h2.map (λa ha oa ea=>k.out a oa ea (M3 j aQ a ha)) (λ_ _ r=>ao.a7 (sub _) (r.keep (k.mono λa z=>by rw[z];cases y' <;> first|exact .inl wc|exact .inl (.inl wc)))),h3⟩⟩
 ·by_cases aQ:i=j
  ·subst aQ;obtain⟨e',hl⟩:=bB e2;cases e'
  ·rw[bu aQ]at e2;obtain⟨u,h1,h2⟩:=b.val j y' d2 e2;exact⟨u,h1,(h2.keep (k.mono λa z=>by rw[z];cases y' <;> first|exact .inl wc|exact .inl (.inl wc))).a7 (sub _)⟩
 ·by_cases aQ:i=j
  ·subst aQ;obtain⟨e',hl⟩:=bB e2;cases e';rw[os_eq];exact⟨v,hσ,r,λa ha=>(hA a ha).elim (h0 a) λz=>z.1⟩
  ·rw[bu aQ]at e2;rw[bg aQ];obtain⟨u,h1,h2,h3⟩:=b.ow j d2 e2;exact⟨u,h1,h2.keep k.tup (λa ha oa ea=>k.out a oa ea (M3 j aQ a ha)),h3⟩
 ·by_cases aQ:i=j
  ·subst aQ;obtain⟨e',hl⟩:=bB e2;cases e'
  ·rw[bu aQ]at e2;rw[bg aQ];obtain⟨a,ns,h1,h2,h3,h4,h5⟩:=b.tx j ok e2;exact⟨a,ns,h1,k.out a _ h2 (M3 j aQ a (by rw[h4];simp)),h3,h4,h5⟩
 ·rcases mem h with⟨_,h⟩|⟨aQ,h⟩
  ·exact⟨(r.mZ a h).1,(r.mZ a h).2,.inl ((hA a h).elim (h0 a) λz=>z.1),Q0 a h⟩
  ·obtain⟨q1,q2,q3,q4⟩:=b.dm j a h;rw[aC (M3 j aQ a h)];exact⟨q1,q2,q3,λz=>q4 (hU a z)⟩
 ·rcases mem h1 with⟨e1,h1⟩|⟨n1,h1⟩
  ·rcases mem h2 with⟨e2,h2⟩|⟨n2,h2⟩
   ·rw[<- e1,<- e2]
   ·rcases hA a h1 with z|z
    ·exact absurd (b.mH i k2 a z h2) n2
    ·exact absurd ⟨k2,h2⟩ z.2.1
  ·rcases mem h2 with⟨e2,h2⟩|⟨n2,h2⟩
   ·rcases hA a h2 with z|z
    ·exact absurd (b.mH i j a z h1) n1
    ·exact absurd ⟨j,h1⟩ z.2.1
   ·exact b.mH j k2 a h1 h2
 ·by_cases aQ:i=j
  ·rw[<- aQ,os_eq];exact nd
  ·rw[bg aQ];exact b.qg j
 ·refine k.out a oa (b.kp.out a oa z n) λq=>?_;subst q;rw[h0 a hc]at z;cases z
 ·by_cases S6:a=c
  ·rw[S6,aE];exact λz=>(nomatch z)
  ·rw[aC S6];exact b.iG a z
theorem b6.putIn {P:Wq}{w:WC}{U:Addr->Prop}{d d':D}{v:V}{A':List Addr}{c:Addr}{o:HO}(b:b6 P w (C.u U) σ H β own)(e:β[i]?=some (some (.own d)))(hσ:σ[i]?=some (some v))(hc:c∈own i)
  (r:Own P w (upd H c o) d' v A') (nd:A'.Nodup) (hA:∀a∈A',a∈own i\/(C.H0 a=none/\¬ Wn own a/\U a)):b6 P w C.z σ (upd H c o) (β.set i (some (.own d'))) (aR own i A') :=
 b.KQ (U2:=λ_=>False) e hσ hc r nd hA (λ_ z=>z.elim) λ_ _ z=>z
theorem yF {A':List Addr}{c:Addr}{o:HO}{U:Addr->Prop}(n:Sn Z H (Wn own))(m:∀a,U a->Z.1 a=none)(hc:Wn own c)(IH:∃oc,H c=some oc/\∀xs,oc≠.tup xs)(hA:∀a∈A',a∈own i\/(C.H0 a=none/\¬ Wn own a/\U a)):Sn Z (upd H c o) (Wn (aR own i A')):=by
 obtain⟨oc,h1,h2⟩:=IH;have u:=Sn.upd (o':=o) n h1 h2 hc;exact⟨λb ux=>by
  obtain⟨j,hj⟩:=ux
  by_cases aQ:i=j
  ·rw[<- aQ,os_eq]at hj;rcases hA b hj with z|z
   ·exact n.w b ⟨i,z⟩
   ·exact .inr (m b z.2.2)
  ·rw[bg aQ]at hj;exact n.w b ⟨j,hj⟩,u.k,u.d⟩
theorem b6.lU {P:Wq}{w:WC}{ds:List D}(b:b6 P w C σ H β own)(e:β[i]?=some (some (.own (.lst ds)))):∃a vs A',σ[i]?=some (some (.ref a))/\H a=some (.lst vs)/\own i=a::A'/\a8 P w H ds vs A':=by
 obtain⟨v,h1,⟨a,vs,A',rfl,h2,h3,h4⟩,_⟩:=b.ow i _ e;exact⟨a,vs,A',h1,h2,h3,h4⟩
variable {px ap cp:Pos}
theorem dv (he:∀U,PQ X (C.u U) p e φ)(hn:Nm X i x:=by exact JJ)
  (eY:Y2 (.Name x px) "append" X.env (eval (.Name x px) X.env)=eval (.Name x px) X.env:=by rfl)
  (pN:((Yd cp (WD [e] X.env)).all (λx=>!x.1)&&(backToKw cp (keywordEach [] X.env)).all (λx=>x.1.isSome)&&decide ([e].length+([]:List ZT).length+(if ([]:List ZT).isEmpty then 0 else 1)<30))=true:=by rfl)
  (eX:(ap.endLine==cp.line)=true:=by rfl) (hs:WD [e] X.env=(false,eval e X.env)::WD [] X.env:=by rfl) (iy:(Yd cp (WD [] X.env)).any (·.1)=false:=by rfl)
  (B9:ZC (.Call (.Attribute (.Name x px) "append" ap) [e] [] cp) none pos.line X.env=pure false:=by rfl) :
  PB X C (.Expr (.Call (.Attribute (.Name x px) "append" ap) [e] [] cp) pos) (λE β=>(∃ds,β[i]?=some (some (.own (.lst ds))))/\φ β λd k β'=>Fo k d/\∃ds,β'[i]?=some (some (.own (.lst ds)))/\ds.length<WA/\E.nx (β'.set i (some (.own (.lst (ds++[d])))))):=by
 refine⟨λE E' β l Ar=>by obtain⟨h1,q⟩:=Ar;exact⟨h1,(he λ_=>False).mono _ _ _ (λd k β' Aq=>by obtain⟨f,ds,h1,h2,q⟩:=Aq;exact⟨f,ds,h1,h2,l.nx _ q⟩) q⟩,λpins s σ H D I mT=>?_⟩
 obtain⟨Z,E,β,⟨own,sq,n⟩,⟨⟨Tc,hb⟩,q⟩,ok⟩:=mT;refine CQ (pos:=pos) (vC (apos:=ap) (cpos:=cp) PySem.F.plainAttrs_list PySem.F.slot_list_append PySem.F.type_list_append nK (nE (pos:=px) hn) (dj (he λa=>H a=none).pe il hs) eY pN eX hs iy) B9 pins s σ H D I ?_;obtain⟨a,vs,A',h1,h2,h3,h4⟩:=sq.lU hb;refine⟨.ref a,h1,.inl ⟨rfl,vs,eC.of h2⟩,tQ.of (he λa=>H a=none) (sq.qu (C:=C.z) (U:=λa=>H a=none) λa z=>z) q λd k β' v H1 az xt o r=>?_⟩;obtain⟨f,ds,AB,hl,q⟩:=xt;obtain⟨a',vs',A1,g1,g2,g3,g4⟩:=o.sq.lU AB;rw[h1]at g1;cases g1;obtain⟨A,r1,r2,r3⟩:=r.fl f;have ha:a∈az i:=by rw[g3];simp
 have nd:(a::(A1++A)).Nodup:=by
  have q:=o.sq.qg i;rw[g3]at q;refine Xe.mpr ⟨λz=>?_,XG.mpr ⟨(Xe.mp q).2,r2,λx hx y hy e=>?_⟩⟩
  ·rcases WO.mp z with z|z
   ·exact(Xe.mp q).1 z
   ·exact(r3 a z).2.1 ⟨i,ha⟩
  ·subst e;exact(r3 x hy).2.1 ⟨i,by rw[g3];simp[hx]⟩
 have hA:∀b∈a::(A1++A),b∈az i\/(C.H0 b=none/\¬ Wn az b/\H b=none):=λb hb=>by
  rcases Ws.mp hb with rfl|hb
  ·exact .inl ha
  ·rcases WO.mp hb with hb|hb
   ·exact .inl (by rw[g3];simp[hb])
   ·exact .inr ⟨(r3 b hb).2.2,(r3 b hb).2.1,(r3 b hb).1⟩
 have kt:∀b xs,H1 b=some (.tup xs)->upd H1 a (.lst (vs'++[v])) b=some (.tup xs):=λb xs z=>by
  rw[aC (λz'=>by rw[z',g2]at z;cases z)];exact z
 have ne1:∀c∈A1,c≠a:=λc hc z=>by
  have q:=o.sq.qg i;rw[g3]at q;exact(Xe.mp q).1 (by rw[<- z];exact hc)
 have ne2:∀c∈A,c≠a:=λc hc z=>(r3 c hc).2.1 ⟨i,by rw[z];exact ha⟩
 have r':Own X.prog X.w (upd H1 a (.lst (vs'++[v]))) (.lst (ds++[d])) (.ref a) (a::(A1++A)) :=
  ⟨a,vs'++[v],A1++A,rfl,aE,rfl,(g4.keep kt λc hc oc ec=>by rw[aC (ne1 c hc)];exact ec).append (a8.one (r1.keep kt λc hc oc ec=>by rw[aC (ne2 c hc)];exact ec))⟩
 exact⟨a,vs',v,rfl,rfl,g2,by rw[g4.length];exact hl,ok.nx _ _ _ ⟨_,o.sq.putIn AB h1 ha r' nd hA,yF (n.trans o.sn) (λb z=>n.free z) ⟨i,ha⟩ ⟨_,g2,λxs z=>by cases z⟩ hA⟩ q⟩
end
abbrev dY:=D->Kd->a_->(a_->Prop)->Prop
abbrev oN:=List D->Kd->a_->(a_->Prop)->Prop
structure ES (X:Cx)(C:Cfg)(tg:Expr)(T:List Nat)(γ:dY):Prop where
 mono:∀d k β R R',(∀r,R r->R' r)->γ d k β R->γ d k β R'
 pg:PG X tg λv σ H Q=>∃own β d k,SQ X C σ H β own/\Rp X (ju C (Wn own) k) H d v/\γ d k β λβ'=>∀σ' a3,SQ X C σ' H β' a3->(∀a,Wn a3 a->Wn own a)->(∀j,j∉T->σ'[j]?=σ[j]?)->Q σ' H
structure ER (X:Cx)(C:Cfg)(wG:List Expr)(T:List Nat)(γ:oN):Prop where
 mono:∀d k β R R',(∀r,R r->R' r)->γ d k β R->γ d k β R'
 R8:FY X wG λvs σ H Q=>∃own β ds k,SQ X C σ H β own/\mI X (ju C (Wn own) k) H ds vs/\γ ds k β λβ'=>∀σ' a3,SQ X C σ' H β' a3->(∀a,Wn a3 a->Wn own a)->(∀j,j∉T->σ'[j]?=σ[j]?)->Q σ' H
section
variable {X:Cx}{C:Cfg}{tg:Expr}{wG:List Expr}{γ:dY}{γs:oN}{T T':List Nat}{pos:Pos}{e:Expr}{φ:aS}{p:Bool}
def Vh (i:Nat):dY:=λd k β R=>DG d k λb=>R (β.set i (some b))
theorem aI {i:Nat}{x:Str}(hN:X.N.Nodup)(hi:X.N[i]?=some x:=by rfl)(hx:Loc X.env.scope x:=by first|exact .inl rfl|exact .inr rfl)
  (hf:X.fn x=true\/X.env.scope.names.lookup x=some .local:=by first|exact .inl rfl|exact .inr rfl|assumption):ES X C (.Name x pos) [i] (Vh i) :=
 ⟨λd k β R R' h q=>DG.mono (d:=d) (k:=k) (K:=λb=>R (β.set i (some b))) (K':=λb=>R' (β.set i (some b))) (λ_=>h _) q,(o_ hN hi hx hf).pre λv σ H Q mW=>by
  obtain⟨own,β,d,k,s,r,q⟩:=mW;have MX:∀(v:V) (j:Nat),j∉[i]->(σ.set i (some v))[j]?=σ[j]?:=λv j hj=>bu (Zy (by simpa using hj))
  cases k with
  |own=>exact q _ _ (s.dD (y:=true) r) (λa h=>eD h) (MX v)
  |fG=>exact q _ _ (s.dD (y:=true) r) (λa h=>eD h) (MX v)
  |old=>exact q _ _ (s.dD (y:=false) r) (λa h=>eD h) (MX v)
  |bor=>exact q.2 _ _ (s.dD (y:=true) (aD.flat q.1 r)) (λa h=>eD h) (MX v)⟩
abbrev sk (k:Kd):D->Kd
 |.int _=>.own
 |.bl _=>.own
 |.bE=>.own
 |.str _=>.own
 |_=>k.wk
theorem oV {P:Wq}{w:WC}{W:Addr->Prop}{H:Hp}{k:Kd}{d:D}{v:V}(r:aD P w (ju C W k) H d v):aD P w (ju C W (sk k d)) H d v:=by
 cases d with
 |int i=>exact aD.flat rfl r
 |bl i=>exact aD.flat rfl r
 |bE=>exact aD.flat rfl r
 |str i=>exact aD.flat rfl r
 |_=>exact aD.a7 (λa z=>z.imp (BG a) id) r
def IX:oN:=λds _ β R=>ds=[]/\R β
def AJ (γ:dY)(γs:oN):oN:=λds k β R=>∃d r,ds=d::r/\γ d (sk k d) β λβ'=>γs r k β' R
theorem cz:ER X C [] [] IX:=⟨λd k β R R' h q=>⟨q.1,h _ q.2⟩,CY.pre λvs σ H Q uw=>by
 obtain⟨own,β,ds,k,s,r,e,q⟩:=uw;subst e;exact⟨r,q σ own s (λ_ z=>z) λ_ _=>rfl⟩⟩
theorem aT (h1:ES X C tg T γ)(h2:ER X C wG T' γs)(hs:(X4 (tg::wG) X.env).map (·.2)=assign tg X.env::(X4 wG X.env).map (·.2):=by rfl):ER X C (tg::wG) (T++T') (AJ γ γs) :=
 ⟨λds k β R R' h xv=>by obtain⟨d,r,e,q⟩:=xv;exact⟨d,r,e,h1.mono _ _ β _ _ (λβ' q=>h2.mono r k β' _ _ h q) q⟩,
  (zh h1.pg h2.R8 hs).pre λvs σ H Q Qd=>by
    obtain⟨own,β,ds,k,s,rr,d,r,e,q⟩:=Qd;subst e;obtain⟨v,vr,rfl,rv,T4⟩:=rr;exact⟨v,vr,rfl,own,β,d,_,s,oV rv,h1.mono _ _ β _ _ (λβ' q σ' a3 s' w' t'=>⟨a3,β',r,k,s',ao.a7 (jt w' k) T4,h2.mono r k β' _ _ (λβ2 q2 σ2 ba s2 w2 t2=>q2 σ2 ba s2 (λa z=>w' a (w2 a z)) λj hj=>(t2 j λz=>hj (W9 _ z)).trans (t' j λz=>hj (X1 _ z))) q⟩) q⟩⟩
def Vg (n:Nat)(γs:oN):dY:=λd k β R=>∃ds,d=.tup ds/\ds.length=n/\γs ds k β R
theorem df {k:Nat}{n:Nat}(hc:X.calm=true)(h:ER X C wG T γs)(hn:(X4 wG X.env).length=n:=by rfl)(mV:(X4 wG X.env).findIdx? (·.1)=none:=by rfl):ES X C (.Tuple wG k pos) T (Vg n γs) :=
 ⟨λd k β R R' hh LM=>by obtain⟨ds,e,l,q⟩:=LM;exact⟨ds,e,l,h.mono ds k β _ _ hh q⟩,(GS hc h.R8 hn mV).pre λv σ H Q P4=>by
  obtain⟨own,β,d,k,s,r,ds,e,l,q⟩:=P4;subst e;obtain⟨a,vs,rfl,ha,rs⟩:=r;exact⟨a,vs,rfl,tE.of ha,by rw[rs.length];exact l,own,β,ds,k,s,rs,q⟩⟩
theorem iS {Z:Hp×(Addr->Prop)}{H:Hp}{own a3:Nat->List Addr}(n:Sn Z H (Wn own))(h:∀a,Wn a3 a->Wn own a):Sn Z H (Wn a3):=⟨λb z=>n.w b (h b z),n.k,n.d⟩
theorem zA (he:PQ X C.z p e φ)(hg:ES X C.z tg T γ)(hs:swapsWithSole [tg] e pos.line X.env=pure false:=by rfl)(hw:swappedStores [tg] e X.env=pure none:=by rfl)
  (h1:(X4 [tg] X.env).map (·.2)=[assign tg X.env]:=by rfl):PB X C (.Assign [tg] e pos) (λE β=>φ β λd k β'=>γ d k β' E.nx) :=
 ⟨λE E' β l q=>he.mono _ _ _ (λd k β' q=>hg.mono _ _ _ _ _ l.nx q) q,(t_ he.pe hg.pg hs hw h1).pre λD σ H ⟨Z,E,β,⟨own,s,n⟩,q,ok⟩=>tQ.of he s q λd k β' v H' a3 q o r =>
  ⟨a3,β',d,k,o.sq,aD.a7 (λa z=>z.elim id λz=>z.elim) r.rep,hg.mono _ _ _ _ _ (λβ2 q σ2 ba s2 w2 _=>ok.nx _ _ _ ⟨ba,s2,iS (n.trans o.sn) w2⟩ q) q⟩⟩
abbrev OR (ro:Bool)(k:Kd)(d:D):Prop:=match k,ro with
 |.own,_=>True
 |.fG,false=>True
 |_,_=>d.flat=true
theorem dy {P:Wq}{w:WC}{W:Addr->Prop}{ro:Bool}{H H':Hp}{d:D}{v:V}(f:d.flat=true)(r:aD P w W H' d v):tf P w ro H H' d v:=by
 cases ro with
 |true=>exact⟨[],dJ f r,Xx,λc hc=>(nomatch hc)⟩
 |false=>exact aD.flat f r
theorem Dx {P:Wq}{w:WC}{Z:Hp×(Addr->Prop)}{own:Nat->List Addr}{ro:Bool}{H':Hp}{k:Kd}{d:D}{v:V}(f:OR ro k d)(r:KV P w C Z own H' k d v):tf P w ro C.H0 H' d v:=by
 cases k with
 |own =>
  cases ro with
  |true=>obtain⟨A,h1,h2,h3⟩:=r;exact⟨A,h1,h2,λc hc=>(h3 c hc).2.2⟩
  |false=>exact aD.a7 (λa z=>.inr z) r.rep
 |fG =>
  cases ro with
  |true=>exact dy f r.rep
  |false=>exact aD.a7 (λa z=>.inr z) r.rep
 |old=>cases ro <;> exact dy f r.rep
 |bor=>cases ro <;> exact dy f r.rep
theorem C5 (he:PQ X C.z p e φ):PB X C (.Return (some e) pos) (λE β=>φ β λd k β'=>OR C.ro k d/\E.rt d β') :=
 ⟨λE E' β l q=>he.mono _ _ _ (λd k β' q=>⟨q.1,l.rt _ _ q.2⟩) q,(t9 he.pe).pre λD σ H DR=>by obtain⟨Z,E,β,⟨own,s,n⟩,q,ok⟩:=DR;exact tQ.of he s q λd k β' v H' a3 q o r=>ok.rt _ _ _ _ _ (o.sb n) (Dx (C:=C.z) q.1 r) q.2⟩
theorem aY {ro:Bool}(he:PQ X C.z p e φ)(PZ:C.ro=ro:=by first|exact(rfl:_=true)|exact(rfl:_=false)):PB X C (.Return (some e) pos) (λE β=>φ β λd k β'=>OR ro k d/\E.rt d β'):=by
 subst PZ;exact C5 he
end
abbrev fM:=a_->(List D->Kd->a_->Prop)->Prop
structure Cf (X:Cx)(C:Cfg)(p:Bool)(tg iter:Expr)(ι:fM):Prop where
 mono:∀β R R',(∀d k β,R d k β->R' d k β)->ι β R->ι β R'
 pi:PI X tg iter λσ H R=>∃β own,SQ X C σ H β own/\ι β λds k β'=>∀J H' a3,Out X C σ H own p β' H' a3->Cg X (av C (Wn a3) k) J ds H'->R J H'
section
variable {X:Cx}{C:Cfg}{tg e a b:Expr}{φ:aS}{φs:bG}{p:Bool}{pp pos:Pos}
def OV (φ:aS):fM:=λβ R=>φ β λd k β'=>∃ds,d=.lst ds/\R ds k β'
theorem bQ (h:PQ X C p e φ):Cf X C p tg e (OV φ) :=
 ⟨λβ R R' k q=>h.mono β _ _ (λd kd β' As=>by obtain⟨ds,e,q⟩:=As;exact⟨ds,e,k _ _ _ q⟩) q,(vA h.pe).pre λσ H R ⟨β,own,s,q⟩=>tQ.of h s q λd k β' v H1 az uy o1 r1=>by
  obtain⟨ds,e,q1⟩:=uy;subst e;obtain⟨a,vs,rfl,h1,n1,q2⟩:=r1.rep;exact⟨a,rfl,⟨vs,eC.of h1⟩,q1 _ _ az o1 (rH h1 n1 q2)⟩⟩
def DL (φs:bG):fM:=λβ R=>φs β λds _ β'=>∃j:Int,ds=[.int j]/\-(2 ^ 62)<=j/\j<2 ^ 62/\R (mR 0 j.toNat) .fG β'
def DK (φs:bG):fM:=λβ R=>φs β λds _ β'=>∃i j:Int,ds=[.int i,.int j]/\(-(2 ^ 62)<=i/\i<2 ^ 62/\-(2 ^ 62)<=j/\j<2 ^ 62)/\R (mR i (j-i).toNat) .fG β'
theorem fo (hm:X.mg "range" = none) (ha:ql X C p [a] φs) (hg:Gl X "range" := by rfl) (hs:WD [a] X.env=[(false,eval a X.env)]:=by rfl):Cf X C p tg (.Call (.Name "range" pp) [a] [] pos) (DL φs) :=
 ⟨λβ R R' k q=>ha.mono β _ _ (λd kd β' IF=>by obtain⟨j,e,h1,h2,q⟩:=IF;exact⟨j,e,h1,h2,k _ _ _ q⟩) q,(w9 hg hm ha.pa hs).pre λσ H R ⟨β,own,s,q⟩=>qA.of ha s q λds ks β' vs H1 az Ap o1 r1=>by
  obtain⟨j,e,h1,h2,q1⟩:=Ap;subst e;obtain⟨x,rfl,hx⟩:=kA r1.kG;cases hx;exact⟨j,rfl,h1,h2,q1 _ _ az o1 nQ⟩⟩
theorem ub (hm:X.mg "range" = none) (ha:ql X C p [a,b] φs) (hg:Gl X "range" := by rfl) (hs:WD [a,b] X.env=[(false,eval a X.env),(false,eval b X.env)]:=by rfl) (JR:WD [b] X.env=[(false,eval b X.env)]:=by rfl) :
  Cf X C p tg (.Call (.Name "range" pp) [a,b] [] pos) (DK φs) :=
 ⟨λβ R R' k q=>ha.mono β _ _ (λd kd β' ID=>by obtain⟨i,j,e,h1,q⟩:=ID;exact⟨i,j,e,h1,k _ _ _ q⟩) q,(w6 hg hm ha.pa hs JR).pre λσ H R ⟨β,own,s,q⟩=>qA.of ha s q λds ks β' vs H1 az Qr o1 r1=>by
  obtain⟨i,j,e,h1,q1⟩:=Qr;subst e;obtain⟨x,y,rfl,hx,hy⟩:=BJ r1.kG;cases hx;cases hy;exact⟨i,j,rfl,h1,q1 _ _ az o1 nQ⟩⟩
end
def AQ (γ:dY)(ψ:u5)(E:bZ)(ds:List D)(k:Kd)(β:a_):Prop:=∃I:Nat->a_->Prop,I 0 β/\(∀i d β,ds[i]?=some d->I i β->γ d (sk k d) β λβ1=>ψ (E.lp (I (i+1))) β1)/\∀β,I ds.length β->E.nx β
section
variable {X:Cx}{C:Cfg}{tg iter c:Expr}{γ:dY}{T:List Nat}{ψ:u5}{ι:fM}{τ:bh}{body:List Stmt}{pos:Pos}{p:Bool}
theorem AQ.mono {E E':bZ}{ds:List D}{k:Kd}{β:a_}(hγ:∀d k β R R',(∀r,R r->R' r)->γ d k β R->γ d k β R')(hψ:∀E E' β,Le E E'->ψ E β->ψ E' β)(l:Le E E'):AQ γ ψ E ds k β->AQ γ ψ E' ds k β:=λUG=>by
 obtain⟨I,h0,h1,h2⟩:=UG;exact⟨I,h0,λi d β e q=>hγ d _ β _ _ (λβ1 q=>hψ {nx:=I (i+1),rt:=E.rt,bk:=E.nx,ct:=I (i+1)} {nx:=I (i+1),rt:=E'.rt,bk:=E'.nx,ct:=I (i+1)} β1 ⟨λ_ q=>q,l.rt,l.nx,λ_ q=>q⟩ q) (h1 i d β e q),λβ q=>l.nx _ (h2 β q)⟩
theorem EK {own ba:Nat->List Addr}{H H2:Hp}{k:Kd}(n:Sn (H,Wn own) H2 (Wn ba)):∀b,av C (Wn ba) k b->av C (Wn own) k b\/H b=none:=λb z=>by
 cases k with
 |own=>exact z.elim (λz=>(n.w b z).imp .inl id) λz=>.inl (.inr z)
 |fG=>exact z.elim (λz=>(n.w b z).imp .inl id) λz=>.inl (.inr z)
 |old=>exact n.w b z
 |bor=>exact z.elim
theorem gf (hp:PassesOwn (model X.prog X.w) X.A X.env X.xe)(hc:X.calm=true)(hi:Cf X C.z p tg iter ι)(hg:ES X C.z tg T γ)(hb:mJ X C body ψ)(hs:∀x,X3 iter X.env x=pure x:=by intro _;rfl):
  PB X C (.For tg iter body [] pos) (λE β=>ι β λds k β1=>hold k false/\AQ γ ψ E ds k β1) :=
 ⟨λE E' β l q=>hi.mono _ _ _ (λds k β1 q=>⟨q.1,q.2.mono hg.mono hb.mono l⟩) q,(yX hp hc hi.pi hg.pg hb.ps hs).pre λD σ H Qp=>by
  obtain⟨Z,E,β,⟨own,s,n⟩,q,ok⟩:=Qp;refine⟨β,own,s,hi.mono _ _ _ (λds k β1 mT J H1 az o1 it=>?_) q⟩;obtain⟨hk,I,i0,i1,i2⟩:=mT;have n':=n.trans o1.sn;have ig:∀b,Wn az b\/H1 b=none->av C.z (Wn az) k b\/H1 b=none:=λb z=>by
   cases k with
   |own=>exact z.imp .inl id
   |fG=>exact z.imp .inl id
   |old=>exact z
   |bor=>exact hk.elim
  have JO:=it (λb=>av C.z (Wn az) k b\/H1 b=none) λb z=>z;refine⟨λi m σ H=>i<=ds.length/\m=ds.length-i/\∃β,SB X C (H1,Wn az) σ H β/\I i β,⟨_,WJ _,rfl,β1,⟨az,o1.sq,Sn.refl⟩,i0⟩,?_⟩;rintro i m σ2 H2 ⟨hi,rfl,β2,⟨ba,s2,n2⟩,hl⟩;obtain⟨gk,HX⟩:=JO i H2 (n2.k.mono ig)
  by_cases gT:i<ds.length
  ·right
   have hd:ds[i]?=some ds[i]:=Wv gT;obtain⟨go,yl⟩:=gk _ hd;refine⟨go,λσ' H'=>∃β,SB X C (H1,Wn az) σ' H' β/\I (i+1) β,λσ' H' Qn=>by obtain⟨β',wR,rK⟩:=Qn;exact⟨_,by lia,gT,rfl,β',wR,rK⟩,λx H3 y=>?_⟩
   obtain⟨s3,r3⟩:=yl x H3 y;refine⟨ba,β2,_,_,s2.same s3,oV (C:=C.z) (aD.a7 (λb z=>EK (C:=C) n2 b (z.elim id λz=>z.elim)) r3),hg.mono _ _ _ _ _ (λβ4 q σ4 qY s4 w4 _=>?_) (i1 i _ β2 hd hl)⟩;refine⟨(H1,Wn az),_,β4,⟨qY,s4,iS (n2.same s3) w4⟩,q,⟨λσ5 H5 β5 wQ q5=>⟨β5,wQ,q5⟩,λσ5 H5 β5 d5 v5 wQ r5 q5=>?_,λσ5 H5 β5 wQ q5=>?_,λσ5 H5 β5 wQ q5=>⟨β5,wQ,q5⟩⟩⟩
   ·obtain⟨pq,s5,n5⟩:=wQ;exact ok.rt _ _ _ _ _ ⟨pq,s5,n'.trans n5⟩ r5 q5
   ·obtain⟨pq,s5,n5⟩:=wQ;exact ok.nx _ _ _ ⟨pq,s5,n'.trans n5⟩ q5
  ·left
   have e:i=ds.length:=by lia
   subst e;exact⟨HX (Wl _),ok.nx _ _ _ ⟨ba,s2,n'.trans n2⟩ (i2 β2 hl)⟩⟩
def yq (τ:bh)(ψ:u5):u5:=λE β=>∃V:Nat->a_->Prop,(∃m,V m β)/\∀m β,V m β->τ β λt β1=>if t=true then ψ {nx:=λβ'=>∃m',m'<m/\V m' β',rt:=E.rt,bk:=E.nx,ct:=λβ'=>∃m',m'<m/\V m' β'} β1 else E.nx β1
theorem zw (hp:PassesOwn (model X.prog X.w) X.A X.env X.xe)(hc:tG X C.z p c τ)(hb:mJ X C body ψ):PB X C (.While c body [] pos) (yq τ ψ) :=
 ⟨λE E' β l ⟨V,h0,h⟩=>⟨V,h0,λm β v=>hc.mono _ _ _ (λt β1 q=>by
   cases t
   ·exact l.nx _ q
   ·exact hb.mono {nx:=λβ'=>∃m',m'<m/\V m' β',rt:=E.rt,bk:=E.nx,ct:=λβ'=>∃m',m'<m/\V m' β'} {nx:=λβ'=>∃m',m'<m/\V m' β',rt:=E'.rt,bk:=E'.nx,ct:=λβ'=>∃m',m'<m/\V m' β'} β1 ⟨λ_ q=>q,l.rt,l.nx,λ_ q=>q⟩ q) (h m β v)⟩,(yW hp hc.pt hb.ps).pre λD σ H Qm=>by
  obtain⟨Z,E,β,sb,⟨V,⟨m0,v0⟩,h⟩,ok⟩:=Qm;refine⟨λm σ H=>∃β,SB X C Z σ H β/\V m β,⟨m0,β,sb,v0⟩,λm σ H xt=>?_⟩;obtain⟨β,⟨own,s,n⟩,v⟩:=xt;refine lq.of hc s (h m β v) λt β1 H1 az q o1=>?_;cases t
  ·exact ok.nx _ _ _ (o1.sb n) q
  ·exact⟨λσ' H'=>∃β',SB X C Z σ' H' β'/\∃m',m'<m/\V m' β',λσ' H' IC=>by obtain⟨β',wR,m',hm,v'⟩:=IC;exact⟨m',hm,β',wR,v'⟩,Z,_,β1,o1.sb n,q,λσ' H' β' wR q'=>⟨β',wR,q'⟩,ok.rt,ok.nx,λσ' H' β' wR q'=>⟨β',wR,q'⟩⟩⟩
end
def startB (N:List Str)(ds:List D):a_:=ds.map (λd=>some (.val false d))++Xb (N.length-ds.length) none
section
variable {P:Wq}{w:WC}{K:PySem.W.Frag}{mg:Str->Option Wg}{base:Heap}
theorem fX {i n:Nat}{b:B}(h:(Xb n (none:Option B))[i]?=some (some b)):False:=by
 rw[List.getElem?_replicate]at h
 split at h <;> cases h
theorem gC {ds:List D}{n i:Nat}{b:B}(h:(ds.map (λd=>some (B.val false d))++Xb n none)[i]?=some (some b)):∃d,ds[i]?=some d/\b=.val false d:=by
 by_cases hi:i<ds.length
 ·rw[XO (by simpa using hi),WH]at h
  cases q:ds[i]? with
  |none=>rw[q]at h;cases h
  |some d=>rw[q]at h;cases h;exact⟨d,rfl,rfl⟩
 ·rw[Xq (by simpa using hi)]at h
  exact(fX h).elim
theorem wH {N:List Str}{vs:List V}{i:Nat}{v:V}(h:vs[i]?=some v):(start N vs)[i]?=some (some v):=by
 unfold start;rw[XO (by simpa using (WI.mp h).1),WH,h]
 rfl
theorem lC {N:List Str}{vs:List V}{ds:List D}{H:Hp}{ro:Bool}(r:ao P w (λ_=>False) H ds vs):b6 P w ⟨H,λ_=>False,ro,λ_=>False⟩ (start N vs) H (startB N ds) (λ_=>[]):=by
 refine⟨?_,λi y d h=>?_,λi d h=>?_,λi ok h=>?_,λi a h=>(nomatch h),λi j a h=>(nomatch h),λi=>Xx,Kp.refl,λ_ z=>z,λi y d h=>by obtain⟨d',e,e'⟩:=gC h;cases e'⟩
 ·unfold startB start;simp[r.length]
 ·obtain⟨d',e,e'⟩:=gC h;cases e';obtain⟨v,e1,e2⟩:=ao.get r e;exact⟨v,wH e1,aD.a7 (λa z=>z.elim (λQj=>by obtain⟨_,q⟩:=Qj;exact(nomatch q)) λz=>z) e2⟩
 ·obtain⟨d',e,e'⟩:=gC h;cases e'
 ·obtain⟨d',e,e'⟩:=gC h;cases e'
theorem tw {x qual:Str}{st:Stmt}{f:Addr}{fd:Xa}{N ps:List Str}{k:Nat}{F:FD}{ro:Bool}(G:BW K x qual st f fd)(S:aU N ps (aw st))(len:∀ds R,F ds R->ds.length=ps.length)
  (gq:∀(bW:Wg) (A:Xg) (outer:List Env) (s:Wi) (H:Hp) (E:XK),cg k (A.deeper (ZE qual (aw st) s.heap.objs.size f bW)) ->
   ∃ψ,mJ (kM c6 P w K mg base N qual (aw st) f bW A outer s H E).mS ⟨H,λ_=>False,ro,λ_=>False⟩ (cP st) ψ/\∀ds R,F ds R->ψ (eN R) (startB N ds)) :
  a9 P w K mg base c6 (k+1) f fd ps (eG P w ro F):=by
 refine G.ok S (λvs H Q E h=>?_) (λbW A outer s H vs Q E hr h=>?_)
 ·obtain⟨ds,r,h⟩:=h;rw[r.length];exact len ds _ h
 ·obtain⟨ds,r,h⟩:=h;obtain⟨ψ,hb,hF⟩:=gq bW A outer s H E hr;refine⟨_,hb.ps,(H,Wn λ_=>[]),_,startB N ds,⟨λ_=>[],lC r,Sn.refl⟩,hF ds _ h,λσ H' β sb q=>?_,λσ H' β d v sb rr q=>?_,λ_ _ _ _ z=>z.elim,λ_ _ _ _ z=>z.elim⟩
  ·obtain⟨own,s',n'⟩:=sb;exact q _ H' (λb o e=>s'.kp.out b o e (λz=>z)) (dy (W:=λ_=>False) rfl rfl)
  ·obtain⟨own,s',n'⟩:=sb;exact q _ H' (λb o e=>s'.kp.out b o e (λz=>z)) rr
end
end L2.Q
namespace L2
open PySem PySem.Spec PySem.SeqAt PyProof.Rows
theorem xX.pre {X:Cx}{ifs:List Expr}{t t':TT}(h:xX X ifs t)(k:∀σ H Q,t' σ H Q->t σ H Q):xX X ifs t':=λpins s σ H Q I q=>h pins s σ H Q I (k σ H Q q)
section
end
section
end
section
variable {X:Cx}{e:Expr}{g:ZZ}{gs:List ZZ}{scope:Zc}{N':List Str}{lk:List (Option Nat)}{tg:Addr->TG}{tt:Addr->TT}{wi:TI}
theorem kz {cL:Sem Wg}{o:Addr->HO}{after:Wg->Env->Sem Fin->Sem Fin}{ta:Addr->m_}(L:Links X scope N' lk)(hc:X.calm=true)(hA:∀(pins:List (Addr×Obj)) (s:Wi) (σ:St) (H:Hp) (Q:Wg->Wi->Prop) (E:Wg->Wi->Prop),Inv X pins σ H s->(∀a s',s.heap.objs.size<=a->H a=none->(∀b o,s.heap.get? b=some o->s'.heap.get? b=some o)->Inv X pins σ (upd H a (o a)) s'->Q (.ref a) s')->WT (model X.prog X.w) X.A cL Q E s)
  (F:∀acc env,kB e 0 g acc env (after acc env))
  (qi:∀a cl C s H ex,PG (aZ X scope N' cl C s H ex) g.target (tg a)/\xX (aZ X scope N' cl C s H ex) g.ifs (tt a)/\td (aZ X scope N' cl C s H ex) (after (.ref a) (aZ X scope N' cl C s H ex).env) (ta a))
  {cl:List (Str×Addr)} (rN:∀x,(x,Xl)∈scope.names->∃c,cl.lookup x=some c) (qj:∀x c,cl.lookup x=some c->X.env.cells.lookup x=some c)
  {pins:List (Addr×Obj)} {σ:St} {s:Wi} {Q:V->Hp->Prop} {HV:Wg} {E:Wg->Wi->Prop} {RR:Wg->Addr->Result->Wi->Prop}
  (h:Rv X pins σ g.target (λJ H1=>∀a,H1 a=none->g6 J (tg a) (tt a) (ta a) (λ_ H'=>Q (.ref a) H') (dq lk σ) (upd H1 a (o a))) HV s)
  (hR:∀a H' C s',Inv X pins σ H' s'->gz X pins H' C->(∃m,s'.heap.Ns C m)->Q (.ref a) H'->RR (.ref a) C (.ok .next) s') :
  WT (model X.prog X.w) X.A cL (λacc s₃=>WT (model X.prog X.w) X.A (newFunctionEnv scope X.env.globals cl [] X.env.qual none .none (some X.env)) (λME s₄ =>
   Zo (model X.prog X.w) X.A (.compStart e 0 HV acc {ME with scope:=relabel scope X.env}) (RR acc ME.locals) s₄) E s₃) E s:=by
 obtain⟨it,fp,tn,J,H2,e1,I2,T,fO,f2,hl⟩:=h;subst e1;refine hA pins s σ H2 _ E I2 λa s3 ha hn hk I3=>?_;refine wpAny_newFunctionEnv L.ue (by intro y hy;simp at hy) (λh₁ IK Iz=>?_) L.kind
 have Qy:∀b∈fp,∃o,s3.heap.get? b=some o:=λb hb=>by
  obtain⟨ob,q,_⟩:=T.obj _ _ fO b hb;exact⟨ob,hk b ob q⟩
 have Va:∀b∈fp,b≠a:=λb hb=>by
  obtain⟨ob,q,_⟩:=T.obj _ _ fO b hb;exact WZ (WU (WB q) ha)
 have f3:∀b∈fp,gz X pins (upd H2 a (o a)) b:=λb hb=>⟨by rw[aC (Va b hb)];exact(f2 b hb).1,(f2 b hb).2⟩
 have QI:∀b ob,s3.heap.get? b=some ob->h₁.get? b=some ob:=λb ob q=>Iz.extBut b ob (WZ (WB q)) (Ww _ q);have Na:h₁.Ns s3.heap.objs.size (λ_=>none):=IK;have I4:=Ai (t':=s3.toks+([]:List (Str×Wg)).length) I3 L f3 Qy rN qj Na QI;obtain⟨g1,g2,g3⟩:=qi a cl s3.heap.objs.size s3 (upd H2 a (o a)) fp;have f4:∀b∈fp,gz (aZ X scope N' cl s3.heap.objs.size s3 (upd H2 a (o a)) fp) [] (upd H2 a (o a)) b:=λb hb =>
  ⟨(f3 b hb).1,(I4.ok.FG b hb).1,I4.ok.pP b hb,.inl hb,(I4.ok.FG b hb).2,λp hp=>absurd (show p∈([]:List (Addr×Obj)) from hp) (by simp)⟩
 have Km:tn 0 h₁:=T.keep 0 _ _ fO λb hb ob q=>QI b ob (hk b ob q);refine YY (uU (X:=aZ X scope N' cl s3.heap.objs.size s3 (upd H2 a (o a)) fp) rfl hc (F (.ref a) _) g1 g2 g3 T I4 Km f4 (hl a hn)) λr s' hr=>?_;obtain⟨rfl,σ',H',J',q⟩:=hr;have I5:Inv X pins σ H' s':=Aj (C:=s3.heap.objs.size) (h'':=s'.heap) I3 f3 J' (.refl ..);refine hR a H' s3.heap.objs.size s' I5 (I3.AO (Wl _) J'.free) ?_ q;obtain⟨m,hm,_⟩:=J'.loc;exact⟨m,hm⟩
theorem qT {cL:Sem Wg}{o:Addr->HO}{after:Wg->Env->Sem Fin->Sem Fin}{ta:Addr->m_}{pos:Pos}(L:Links X scope N' lk)(hc:X.calm=true)(hA:∀(pins:List (Addr×Obj)) (s:Wi) (σ:St) (H:Hp) (Q:Wg->Wi->Prop) (E:Wg->Wi->Prop),Inv X pins σ H s->(∀a s',s.heap.objs.size<=a->H a=none->(∀b o,s.heap.get? b=some o->s'.heap.get? b=some o)->Inv X pins σ (upd H a (o a)) s'->Q (.ref a) s')->WT (model X.prog X.w) X.A cL Q E s)
  (IS:eval e X.env=comprehension e scope X.env pos cL false (eval g.iter X.env)) (Fw:clausesOf e=g::gs)
  (F:∀acc env,kB e 0 g acc env (after acc env)) (hi:PI X g.target g.iter wi)
  (qi:∀a cl C s H ex,PG (aZ X scope N' cl C s H ex) g.target (tg a)/\xX (aZ X scope N' cl C s H ex) g.ifs (tt a)/\td (aZ X scope N' cl C s H ex) (after (.ref a) (aZ X scope N' cl C s H ex).env) (ta a))
  (hs:∀x,X3 g.iter X.env x=pure x) :
  PE X e (λσ H Q=>wi σ H λJ H1=>∀a,H1 a=none->g6 J (tg a) (tt a) (ta a) (λ_ H'=>Q (.ref a) H') (dq lk σ) (upd H1 a (o a))):=by
 intro pins s σ H Q I h;rw[IS];obtain⟨cl,AA,rN,qj⟩:=hZ (env:=X.env) (scope:=scope) λx hx=>I.ok.has x (L.free x hx);refine wpAny_comprehension_free (use:=none) Fw hs AA L.kind L.names (bx (hi pins s σ H _ I h) λv s1 h1=>bx h1 λHV s2 h2=>?_);refine kz (RR:=λacc C=>compPost (model X.prog X.w) X.A X.xe none (EP X pins σ Q) acc C) L hc hA F qi rN qj h2 λa H' C s' I' f Ia q=>?_;obtain⟨m,hm⟩:=Ia;exact⟨m,hm,λh' xu=>⟨.ref a,H',I'.sameBut f xu,rfl,q⟩⟩
theorem zu {cL:Sem Wg}{o:HO}{after:Wg->Env->Sem Fin->Sem Fin}{ta:Addr->m_}{pos:Pos}(L:Links X scope N' lk)(hc:X.calm=true)(hA:u6 X cL o)
  (IS:eval e X.env=comprehension e scope X.env pos cL false (eval g.iter X.env)) (Fw:clausesOf e=g::gs)
  (F:∀acc env,kB e 0 g acc env (after acc env)) (hi:PI X g.target g.iter wi)
  (qi:∀a cl C s H ex,PG (aZ X scope N' cl C s H ex) g.target (tg a)/\xX (aZ X scope N' cl C s H ex) g.ifs (tt a)/\td (aZ X scope N' cl C s H ex) (after (.ref a) (aZ X scope N' cl C s H ex).env) (ta a))
  (hs:∀x,X3 g.iter X.env x=pure x) :
  PE X e (λσ H Q=>wi σ H λJ H1=>∀a,H1 a=none->g6 J (tg a) (tt a) (ta a) (λ_ H'=>Q (.ref a) H') (dq lk σ) (upd H1 a o)):=qT (o:=λ_=>o) L hc hA.ok IS Fw F hi qi hs
theorem yY {cL:Sem Wg}{o:HO}{after:Wg->Env->Sem Fin->Sem Fin}{ta:Addr->m_}{pos pos' yB:Pos}{y:Str}{i:Nat}(L:Links X scope N' lk)(hc:X.calm=true)(hA:u6 X cL o)
  (B9:ZC e (some (.Name y pos')) yB.line X.env=pure true)
  (IS:evalThenUse e X.env (assign (.Name y pos') X.env)=(do let _ <- comprehension e scope X.env pos cL false (eval g.iter X.env) (some (assign (.Name y pos') X.env));pure ())) (Fw:clausesOf e=g::gs)
  (hN:X.N.Nodup) (hy:X.N[i]?=some y) (hx:Loc X.env.scope y) (hf:X.fn y=true\/X.env.scope.names.lookup y=some .local)
  (F:∀acc env,kB e 0 g acc env (after acc env)) (hi:PI X g.target g.iter wi)
  (qi:∀a cl C s H ex,PG (aZ X scope N' cl C s H ex) g.target (tg a)/\xX (aZ X scope N' cl C s H ex) g.ifs (tt a)/\td (aZ X scope N' cl C s H ex) (after (.ref a) (aZ X scope N' cl C s H ex).env) (ta a))
  (hs:∀x,X3 g.iter X.env x=pure x) :
  PS X (.Assign [.Name y pos'] e yB) (λD σ H=>wi σ H λJ H1=>∀a,H1 a=none->g6 J (tg a) (tt a) (ta a) (λ_ H'=>D.nx (σ.set i (some (.ref a))) H') (dq lk σ) (upd H1 a o)):=by
 intro pins s σ H D I h;rw[exec_Assign_Name_used _ _ _ _ B9,IS];refine Wh (YJ (Wh (Wh ?_)));obtain⟨cl,AA,rN,qj⟩:=hZ (env:=X.env) (scope:=scope) λx hx=>I.ok.has x (L.free x hx);refine bx (wpAny_comprehension_free (use:=some (assign (.Name y pos') X.env)) (Q:=λ_ s'=>SP X pins D .next s') Fw hs AA L.kind L.names (bx (hi pins s σ H _ I h) λv s1 h1=>bx h1 λHV s2 h2=>?_)) λ_ s' q=>Wu (Wu q)
 refine kz (o:=λ_=>o) (Q:=λv H'=>D.nx (σ.set i (some v)) H') (RR:=λacc C=>compPost (model X.prog X.w) X.A X.xe (some (assign (.Name y pos') X.env)) (λ_ s'=>SP X pins D .next s') acc C) L hc hA.ok F qi rN qj h2 λa H' C s' I' f xt q=>?_
 obtain⟨m,hm⟩:=xt;show WT _ _ (assign (.Name y pos') X.env (.ref a)) _ _ s';have Wc:∃o,s'.heap.get? C=some o:=by obtain⟨o,_,_,ho,_⟩:=hm;exact⟨o,ho⟩
 refine wpAny_assign_Name (nv I' hN hy hx (v:=.ref a) (u:=.ref a) rfl (λs4 I4 k4=>?_) hf);obtain⟨a4,T3,Vb⟩:=k4;have DV:C≠a4:=by
  rcases Vb with z|z
  ·rw[z];exact f.2.1
  ·exact(f.2.2.2.2.1 y a4 z).symm
 exact⟨m,hm.at' (λo e=>(T3.2 C DV).trans e),λh' xu=>⟨_,H',I4.sameBut f xu,q⟩⟩
end
end L2
namespace L2.Q
open PySem PySem.Spec PySem.SeqAt PyProof.Rows
noncomputable def Sw:Option B->Option B
 |some (.own d)=>some (.val false d)
 |some (.shl _ d)=>some (.val false d)
 |b=>b
def c_ (lk:List (Option Nat))(β:a_):a_:=lk.map λl=>match l with|some j=>(match β[j]? with|some b=>Sw b|none=>none)|none=>none
def M7:Option (Option B)->Bool
 |some (some (.hand _))=>true
 |_=>false
def bt (lk:List (Option Nat))(β:a_)(own:Nat->List Addr)(i:Nat):List Addr:=match lk[i]? with
 |some (some j)=>if M7 β[j]?=true then own j else []
 |_=>[]
def fK:a_->a_->Prop
 |[],_=>True
 |some (.hand ok)::a,c=>c.head?=some (some (.hand ok))/\fK a c.tail
 |_::a,c=>fK a c.tail
theorem fK.get:∀{a c:a_} {i:Nat} {ok:List Int->Prop},fK a c->a[i]?=some (some (.hand ok))->c[i]?=some (some (.hand ok))
 |[],_,_,_,_,e=>by simp at e
 |x::a,c,0,ok,h,e=>by
  simp at e;subst e;rw[<- List.head?_eq_getElem?];exact h.1
 |x::a,c,i+1,ok,h,e=>by
  have h':fK a c.tail:=by
   cases x with
   |none=>exact h
   |some x=>cases x <;> first|exact h|exact h.2
  have:=fK.get (i:=i) h' (by simpa using e)
  rwa [List.getElem?_tail]at this
section
variable {P:Wq}{w:WC}{C:Cfg}{σ σ':St}{H H' H1:Hp}{β βi:a_}{own iZ:Nat->List Addr}{lk:List (Option Nat)}{a:Addr}
theorem bS {i:Nat}{c:Addr}(h:c∈bt lk β own i):∃j,lk[i]?=some (some j)/\M7 β[j]?=true/\c∈own j:=by
 unfold bt at h
 split at h
 ·next j e =>
  by_cases q:M7 β[j]?=true
  ·rw[if_pos q]at h;exact⟨j,e,q,h⟩
  ·rw[if_neg q]at h;cases h
 ·cases h
theorem bI:∀c,Wn (bt lk β own) c->Wn own c:=λc ⟨i,h⟩=>let ⟨j,_,_,h⟩:=bS h;⟨j,h⟩
theorem gm {i j:Nat}{v:V}(h:lk[i]?=some (some j))(e:σ[j]?=some (some v)):(dq lk σ)[i]?=some (some v):=by
 unfold dq;rw[WH,h];simp only[Option.map_some];rw[e]
theorem gS {i:Nat}{b:B}(h:(c_ lk β)[i]?=some (some b)):∃j b',lk[i]?=some (some j)/\β[j]?=some (some b')/\Sw (some b')=some b:=by
 unfold c_ at h;rw[WH]at h;cases q:lk[i]? with
 |none=>rw[q]at h;cases h
 |some l =>
  rw[q]at h;cases l with
  |none=>cases h
  |some j =>
   simp only[Option.map_some]at h;cases q2:β[j]? with
   |none=>rw[q2]at h;cases h
   |some b2 =>
    rw[q2]at h;simp only[Option.some.injEq]at h;cases b2 with
    |none=>cases h
    |some b'=>exact⟨j,b',rfl,q2,h⟩
theorem b6.enter (s:b6 P w C σ H β own)(ha:H a=none)(inj:∀(i i' j:Nat),lk[i]?=some (some j)->lk[i']?=some (some j)->i=i'):
  b6 P w (C.u λc=>c=a) (dq lk σ) (upd H a (.lst [])) (c_ lk β) (bt lk β own):=by
 have sm:ay H (upd H a (.lst [])):=ay.new ha;have na:∀{i c},c∈own i->c≠a:=λ{i c} hc z=>(s.dm i c hc).1 (by rw[z];exact ha)
 have gr:∀k,∀c,ju (C.u λc=>c=a) (Wn (bt lk β own)) k c->ju C (Wn own) k c\/H c=none:=λk c z=>by
  rcases z with z|z
  ·exact .inl (.inl (k6 bI k c z))
  ·exact .inr (by rw[z];exact ha)
 refine⟨by unfold c_ dq;simp,λi y d e=>?_,λi d e=>?_,λi ok e=>?_,λi c h=>?_,λi i' c h1 h2=>?_,λi=>?_,s.kp.trans sm.kp,λc z e=>s.iG c z (sm.free e),λi y d e=>by
  obtain⟨j,b',e1,e2,e3⟩:=gS e;cases b' <;> cases e3⟩
 ·obtain⟨j,b',e1,e2,e3⟩:=gS e;cases b' with
  |val y' d' =>
   cases e3;obtain⟨v,h1,h2⟩:=s.val j y d e2;exact⟨v,gm e1 h1,(aD.grow (gr _) h2).same sm⟩
  |own d' =>
   cases e3;obtain⟨v,h1,h2,h3⟩:=s.ow j d e2;refine⟨v,gm e1 h1,aD.same sm (h2.rep λc hc z=>?_)⟩;rcases z with z|z
   ·obtain⟨i',gn⟩:=z;obtain⟨j',q1,q2,q3⟩:=bS gn;have:=s.mH j j' c hc q3;subst this;rw[e2]at q2;cases q2
   ·exact na hc z
  |hand ok=>cases e3
  |shl y' d' =>
   cases e3;obtain⟨v,h1,h2,h3⟩:=s.shl j y' d e2;refine⟨v,gm e1 h1,aD.same sm (h2.rep (λc hc z=>?_) λds vs r=>ao.grow (λc z=>?_) r)⟩
   ·rcases z with z|z
    ·obtain⟨i',gn⟩:=z;obtain⟨j',q1,q2,q3⟩:=bS gn;have:=s.mH j j' c hc q3;subst this;rw[e2]at q2;cases q2
    ·exact na hc z
   ·rcases gr _ c z with z|z
    ·refine .inl ?_;rcases z with z|z
     ·exact .inl (.inl z)
     ·exact .inr z
    ·exact .inr z
 ·obtain⟨j,b',e1,e2,e3⟩:=gS e;cases b' <;> cases e3
 ·obtain⟨j,b',e1,e2,e3⟩:=gS e;cases b' with
  |val y' d'=>cases e3
  |own d'=>cases e3
  |shl y d=>cases e3
  |hand VW =>
   cases e3;obtain⟨h,ns,h1,h2,h3,h4,h5⟩:=s.tx j ok e2;refine⟨h,ns,gm e1 h1,sm _ _ h2,h3,?_,h5⟩;unfold bt;rw[e1];simp only;rw[e2];exact(if_pos rfl).trans h4
 ·obtain⟨j,q1,q2,q3⟩:=bS h;obtain⟨g1,g2,g3,g4⟩:=s.dm j c q3;rw[aC (na q3)];exact⟨g1,g2,g3,na q3⟩
 ·obtain⟨j,q1,q2,q3⟩:=bS h1;obtain⟨j',R5,VT,Ud⟩:=bS h2;have:=s.mH j j' c q3 Ud;subst this;exact inj _ _ _ q1 R5
 ·unfold bt
  split
  ·next j e =>
   split
   ·exact s.qg j
   ·exact Xx
  ·exact Xx
theorem b6.Gz {o:HO}(s:b6 P w (C.u λc=>c=a) σ H β own){oa:HO}(ha:H a=some oa)(ht:∀xs,oa≠.tup xs)(h0:C.H0 a=none):b6 P w (C.u λc=>c=a) σ (upd H a o) β own:=by
 have k:Kp (·=a) H (upd H a o):=lY ha ht;have na:∀{i c},c∈own i->c≠a:=λ{i c} hc=>(s.dm i c hc).2.2.2;refine⟨s.len,λi y d e=>let ⟨v,h1,h2⟩:=s.val i y d e;⟨v,h1,h2.keep (k.mono λc z=>.inr z)⟩,λi d e=>let ⟨v,h1,h2,h3⟩:=s.ow i d e;⟨v,h1,h2.keep k.tup (λc hc oc ec=>k.out c oc ec (na hc)),h3⟩,
  λi ok e=>?_,λi c h=>?_,s.mH,s.qg,⟨λc oc z n=>k.out c oc (s.kp.out c oc z n) λq=>?_,λc xs z=>k.tup c xs (s.kp.tup c xs z)⟩,λc z=>?_,λi y d e=>let ⟨v,h1,h2,h3⟩:=s.shl i y d e;⟨v,h1,h2.map (λc hc oc ec=>k.out c oc ec (na hc)) (λ_ _ r=>r.keep (k.mono λc z=>.inr z)),h3⟩⟩
 ·obtain⟨h,ns,h1,h2,h3,h4,h5⟩:=s.tx i ok e;exact⟨h,ns,h1,k.out h _ h2 (na (by rw[h4];simp)),h3,h4,h5⟩
 ·rw[aC (na h)];exact s.dm i c h
 ·rw[q,h0]at z;cases z
 ·by_cases q:c=a
  ·rw[q,aE];exact λz=>(nomatch z)
  ·rw[aC q];exact s.iG c z
theorem b6.leave (s:b6 P w C σ H1 β own)(i:b6 P w (C.u λc=>c=a) σ' H' βi iZ)(n:Sn (H1,Wn (bt lk β own)) H' (Wn iZ))(le:∀c,Wn iZ c->Wn (bt lk β own) c)
  (hh:fK (c_ lk β) βi) (hσ:∀(j:Nat) (ok:List Int->Prop) (i:Nat),β[j]?=some (some (B.hand ok))->lk[i]?=some (some j)->σ'[i]?=(dq lk σ)[i]?):b6 P w C σ H' β own:=by
 have off:∀{j c},c∈own j->¬ Wn (bt lk β own) c->∀o,H1 c=some o->H' c=some o:=λ{j c} hc nw o e=>n.k.out c o e λz=>z.elim nw λz=>(s.dm j c hc).1 z;have LJ:∀{j c},c∈own j->M7 β[j]?=false->¬ Wn (bt lk β own) c:=λ{j c} hc q uw=>by
  obtain⟨i',gn⟩:=uw;obtain⟨j',q1,q2,q3⟩:=bS gn;have:=s.mH j j' c hc q3;subst this;rw[q]at q2;cases q2
 have hN:∀(j:Nat) (ok:List Int->Prop),β[j]?=some (some (B.hand ok))->∃a ns,σ[j]?=some (some (V.ref a))/\H' a=some (.lst (ns.map V.int))/\ok ns/\own j=[a]/\((∀b,¬ C.IO b)\/C.IO a):=λj ok e=>by
  obtain⟨h,ns,h1,h2,h3,h4,h5⟩:=s.tx j ok e
  by_cases q:Wn (bt lk β own) h
  ·obtain⟨i',gn⟩:=q;obtain⟨j',q1,q2,q3⟩:=bS gn;have:=s.mH j j' h (by rw[h4];simp) q3
   subst this;have eB:(c_ lk β)[i']?=some (some (.hand ok)):=by
    unfold c_;rw[WH,q1];simp only[Option.map_some];rw[e];rfl
   obtain⟨h',Fe,g1,g2,g3,g4,g5⟩:=i.tx i' ok (hh.get eB);rw[hσ j ok i' e q1,gm q1 h1]at g1;cases g1;exact⟨h,Fe,h1,g2,g3,h4,h5⟩
  ·exact⟨h,ns,h1,off (by rw[h4];simp) q _ h2,h3,h4,h5⟩
 refine⟨s.len,λj y d e=>?_,λj d e=>?_,hN,λj c hc=>?_,s.mH,s.qg,i.kp,i.iG,λj y d e=>by
  obtain⟨v,h1,h2,h3⟩:=s.shl j y d e;refine⟨v,h1,h2.map (λc hc o eo=>off hc (LJ hc (by rw[e];rfl)) o eo) (λds vs r=>?_),h3⟩
  have g:ao P w (λc=>ju C (Wn own) (yk true) c\/H1 c=none) H1 ds vs:=ao.grow (λc z=>z) r;refine ao.a7 (λc z=>.inl z) (g.keep (n.k.mono λc z=>z.imp (λz=>?_) id));exact .inl (.inl (bI c z))⟩
 ·obtain⟨v,h1,h2⟩:=s.val j y d e;have g:aD P w (λc=>ju C (Wn own) (yk y) c\/H1 c=none) H1 d v:=aD.grow (λc z=>z) h2;refine⟨v,h1,aD.a7 (λc z=>.inl z) (g.keep (n.k.mono λc z=>z.imp (λz=>?_) id))⟩;cases y with
  |true=>exact .inl (.inl (bI c z))
  |false=>exact .inl (bI c z)
 ·obtain⟨v,h1,h2,h3⟩:=s.ow j d e;exact⟨v,h1,h2.keep n.k.tup (λc hc o eo=>off hc (LJ hc (by rw[e];rfl)) o eo),h3⟩
 ·obtain⟨g1,g2,g3,g4⟩:=s.dm j c hc
  by_cases q:Wn (bt lk β own) c
  ·obtain⟨i',gn⟩:=q;obtain⟨j',q1,q2,q3⟩:=bS gn;have:=s.mH j j' c hc q3;subst this;cases e:β[j]? with
   |none=>rw[e]at q2;cases q2
   |some b =>
    rw[e]at q2;cases b with
    |none=>cases q2
    |some b =>
     cases b with
     |val y d=>cases q2
     |own d=>cases q2
     |shl y d=>cases q2
     |hand ok =>
      obtain⟨h,ns,k1,k2,k3,k4,k5⟩:=hN j ok e;rw[k4]at hc;rw[Wx.mp hc]at g3 g4 ⊢
      rw[k2];exact⟨λz=>(nomatch z),λxs z=>(by cases z),g3,g4⟩
  ·cases e:H1 c with
   |none=>exact absurd e g1
   |some o=>rw[off hc q o e];exact⟨λz=>(nomatch z),λxs z=>g2 xs (by rw[e];exact z),g3,g4⟩
end
def Kb:bh:=λβ R=>R true β
theorem y9 {X:Cx}{C:Cfg}:xX X [] (lq X C true Kb):=CN.pre λσ H Q mU=>by obtain⟨β,own,s,q⟩:=mU;exact q H own (Out.refl s _)
def lV (γ:dY)(τ:bh)(φ:aS)(ds:List D)(k:Kd)(β0:a_)(K:List D->Prop):Prop:=∃I:Nat->a_->List D->Prop,I 0 β0 [] /\
 (∀i d β o,ds[i]?=some d->I i β o->γ d (sk k d) β λβ1=>τ β1 λt β2=>if t=true then φ β2 λx kx β3=>Fo kx x/\o.length<WA/\I (i+1) β3 (o++[x]) else I (i+1) β2 o)/\∀β o,I ds.length β o->fK β0 β/\K o
theorem lV.mono {γ:dY}{τ:bh}{φ:aS}{ds:List D}{k:Kd}{β0:a_}{K K':List D->Prop}(h:∀o,K o->K' o)(q:lV γ τ φ ds k β0 K):lV γ τ φ ds k β0 K':=let ⟨I,h0,h1,h2⟩:=q;⟨I,h0,h1,λβ o z=>⟨(h2 β o z).1,h _ (h2 β o z).2⟩⟩
section
variable {X:Cx}{lk:List (Option Nat)}
theorem jJ {scope:Zc}{N':List Str}(L:Links X scope N' lk)(hN:N'.Nodup):∀(i i' j:Nat),lk[i]?=some (some j)->lk[i']?=some (some j)->i=i':=λi i' j h1 h2=>by
 obtain⟨x,a1,a2,_⟩:=L.link i j h1;obtain⟨y,b1,b2,_⟩:=L.link i' j h2;rw[a2]at b2;cases b2;exact(List.getElem?_inj (WI.mp a1).1 hN).mp (a1.trans b1.symm)
end
end L2.Q
namespace Zp
open PySem PySem.Spec PyProof.Rows
section
end
end Zp
namespace L2
open PySem PySem.Spec PySem.SeqAt PyProof.Rows Zp
theorem Inv.Cs {X:Cx}{pins:List (Addr×Obj)}{σ:St}{H:Hp}{s:Wi}{fp:List Addr}{h':Heap}{x y:V}{u v:Wg}(I:Inv X pins σ H s)(hf:∀b∈fp,gz X pins H b)(k:∀c o,c∉fp->s.heap.get? c=some o->h'.get? c=some o)
  (rx:RelV x u) (ry:RelV y v) (hT:IsPair h' s.heap.objs.size u v):Inv X pins σ (upd H s.heap.objs.size (.tup [x,y])) {s with heap:=h'}:=by
 have hn:H s.heap.objs.size=none:=I.bq.fresh (Wl _);have ne:∀{b:Addr} {o:Obj},s.heap.get? b=some o->b≠s.heap.objs.size:=λe=>WZ (WB e);have nt:∀{b:Addr} {o:HO},H b=some o->b≠s.heap.objs.size:=λe z=>by rw[z,hn]at e;cases e
 have nf:∀{b:Addr} {o:HO},H b=some o->b∉fp:=λe z=>by rw[(hf _ z).1]at e;cases e
 refine I.call (g':=s.gens) (t':=s.toks) (d':=s.drawn) (ch:=fp) ⟨λb o e n _ hc=>k b o hc e,λb o e n _ hc=>⟨o.slots,k b o hc e⟩,λb o e n _=>by rw[aC (ne e)];exact n,λb o e hc=>⟨o,k b o hc e⟩,
  λb xs e=>by rw[aC (nt e)];exact e,λb o u e=>by rw[aC (nt e)];exact e,λb ps e=>⟨#[],by rw[aC (nt e),e];simp⟩⟩ (λb u e=>?_) I.bare λb hb=>?_
 ·by_cases hb:b=s.heap.objs.size
  ·subst hb;rw[aE]at e;cases e;exact⟨by show 2<=WA;decide,[_,_],.cons rx (.cons ry .nil),⟨_,hT,rfl,_,rfl⟩⟩
  ·rw[aC hb]at e;refine(I.bq b u e).iQ (λc v hc q=>k c v ?_ q) (λc q=>by rw[aC (nt q)];exact q) λc xs q=>by rw[aC (nt q)];exact q
   rcases hc with z|z
   ·rw[z];exact nf e
   ·exact nf z
 ·obtain⟨f0,f1,f2,f3,f4,f5⟩:=hf b hb;exact⟨f3,f1,f4,f5⟩
theorem Inv.vb {X:Cx}{pins:List (Addr×Obj)}{σ:St}{H:Hp}{s:Wi}{fp:List Addr}{h':Heap}(I:Inv X pins σ H s)(hf:∀b∈fp,gz X pins H b)(k:∀c o,c∉fp->s.heap.get? c=some o->h'.get? c=some o):Inv X pins σ H {s with heap:=h'}:=by
 have nf:∀{b:Addr} {o:HO},H b=some o->b∉fp:=λe z=>by rw[(hf _ z).1]at e;cases e
 refine I.call (g':=s.gens) (t':=s.toks) (d':=s.drawn) (ch:=fp) ⟨λb o e n _ hc=>k b o hc e,λb o e n _ hc=>⟨o.slots,k b o hc e⟩,λb o e n _=>n,λb o e hc=>⟨o,k b o hc e⟩,λb xs e=>e,λb o u e=>e,λb ps e=>⟨#[],by rw[e];simp⟩⟩ (λb u e=>?_) I.bare λb hb=>?_
 ·refine(I.bq b u e).iQ (λc v hc q=>k c v ?_ q) (λc q=>q) λc xs q=>q;rcases hc with z|z
  ·rw[z];exact nf e
  ·exact nf z
 ·obtain⟨f0,f1,f2,f3,f4,f5⟩:=hf b hb;exact⟨f3,f1,f4,f5⟩
noncomputable def k7:List D->List D->List D
 |a::as,b::bs=>.tup [a,b]::k7 as bs
 |_,_=>[]
theorem qp:∀{as bs:List D} {i:Nat} {d:D},(k7 as bs)[i]?=some d->∃a b,as[i]?=some a/\bs[i]?=some b/\d=.tup [a,b]
 |[],_,_,_,h=>by simp[k7]at h
 |_::_,[],_,_,h=>by simp[k7]at h
 |a::as,b::bs,0,_,h=>by simp[k7]at h;exact⟨a,b,rfl,rfl,h.symm⟩
 |a::as,b::bs,i+1,_,h=>by
  obtain⟨x,y,h1,h2,h3⟩:=qp (as:=as) (bs:=bs) (i:=i) (by simpa[k7] using h)
  exact⟨x,y,by simpa using h1,by simpa using h2,h3⟩
theorem qo:∀(as bs:List D),(k7 as bs).length=min as.length bs.length
 |[],_=>by simp[k7]
 |_::_,[]=>by simp[k7]
 |a::as,b::bs=>by simp[k7,qo as bs]
section
end
section
end
theorem fW {lo:Int}{n i:Nat}{d:D}(h:(mR lo n)[i]?=some d):i<n/\d=.int (lo+i):=by
 unfold mR at h;rw[WH]at h;have hi:i<n:=by
  by_cases hi:i<n
  ·exact hi
  ·rw[XU (by simpa using hi)]at h;cases h
 rw[Zx hi]at h;cases h;exact⟨hi,rfl⟩
theorem dH {lo:Int}{n:Nat}:(mR lo n).length=n:=by unfold mR;simp
section
end
structure Df (K:PySem.W.Frag)(mg:Str->Option Wg)(x:Str)(st:Stmt)(ps:List Str)(f:Addr)(fd:Xa):Prop where
 F:BW K x x st f fd
 b:Binds K fd ps []
 m:mg x=some (.ref f)
structure Bs (mg:Str->Option Wg):Prop where
 max:mg "max" = none
 min:mg "min" = none
 int:mg "int" = none
 range:mg "range" = none
 sorted:mg "sorted" = none
 set:mg "set" = none
 len:mg "len" = none
 list:mg "list" = none
theorem BC:Xp "set" = some (.type "set"):=by decide +kernel
theorem cg.kR {k:Nat}{A:Xg}(r:cg k A):A.units+64+1<Za:=by have:=r.un;lia
theorem cg.oQ {k:Nat}{A:Xg}(r:cg k A):A.units+16<Za:=by have:=r.un;lia
def MK (n:Int)(t:List Int):Prop:=∃a b,t=[a,b]/\0<=a/\a<b/\b<n
def sW (n:Int)(ts:List (List Int)):Prop:=∀t∈ts,MK n t
theorem cS (ts:List (List Int)):D.bJ (ts.map kD)=true:=by
 have fi:∀k:List Int,D.bJ (k.map D.int)=true:=λk=>by
  induction k with
  |nil=>rfl
  |cons i k ih=>show (D.flat (.int i)&&D.bJ (k.map D.int))=true;rw[ih];rfl
 induction ts with
 |nil=>rfl
 |cons t ts ih =>
  show (D.flat (kD t)&&D.bJ (ts.map kD))=true;rw[ih];show (D.bJ (t.map D.int)&&true)=true;rw[fi];rfl
theorem ie {ts:List (List Int)}(h:∀k∈ts,k≠[])(l:ts.length<=1000000):(match [D.lst (ts.map kD)]with | [.lst ds]=>pV [.lst ds]|_=>none)=some (.lst ((eF ts).map kD)):=by
 show (match d7 (ts.map kD)with|some ks=>if ks.length<=1000000 then some (D.lst ((eF ks).map kD)) else none|none=>none)=_
 rw[jN h];show (if ts.length<=1000000 then some (D.lst ((eF ts).map kD)) else none)=_
 rw[if_pos l]
theorem qI {ts:List (List Int)}(h:∀k∈ts,k≠[])(l:ts.length<1000):FI [.lst (ts.map kD)]=some (.sT (jx ts)):=by
 show (match d7 (ts.map kD)with|some ks=>if ks.length<1000 then some (D.sT (jx ks)) else none|none=>none)=_
 rw[jN h];show (if ts.length<1000 then some (D.sT (jx ts)) else none)=_
 rw[if_pos l]
theorem ic {ts:List (List Int)}(h:∀k∈ts,k≠[])(l:ts.length<1000):(match [D.sT (jx ts)]with | [.sT ts]=>pV [.sT ts]|_=>none)=some (.lst ((eF (jx ts)).map kD)):=by
 show (if (jx ts).length<=1000/\(∀k∈jx ts,k≠[]) then some (D.lst ((eF (jx ts)).map kD)) else none)=_
 rw[if_pos ⟨by have:=pS ts;lia,λk hk=>h k (((cE ts).2 k).mp hk)⟩]
theorem kS {fs:List (List Int)}{t:List Int}:(fs++[t]).map kD=fs.map kD++[kD t]:=by simp
theorem yE {fs:List Int}{t:Int}:(fs++[t]).map D.int=fs.map D.int++[D.int t]:=by simp
theorem B0 {a b:D}:[a,b].length<=WA:=by show 2<=WA;decide
theorem RN {a b c:D}:[a,b,c].length<=WA:=by show 3<=WA;decide
theorem JF {a:D}:[a].length<=WA:=by show 1<=WA;decide
theorem dt {b:Bool}{p q:Prop}(hb:b=true)(h:p):(if b=true then p else q):=by rw[if_pos hb];exact h
theorem eJ {b:Bool}{p q:Prop}(hb:b=false)(h:q):(if b=true then p else q):=by rw[hb,if_neg (by simp)];exact h
theorem nX {c:Prop}[Decidable c]{p q:Prop}(h1:c->p)(h2:¬ c->q):(if decide c=true then p else q):=by
 by_cases h:c
 ·exact dt (by simp[h]) (h1 h)
 ·exact eJ (by simp[h]) (h2 h)
theorem OT {c:Prop}[Decidable c]{p q:Prop}(h1:¬ c->p)(h2:c->q):(if (!decide c)=true then p else q):=by
 by_cases h:c
 ·exact eJ (by simp[h]) (h2 h)
 ·exact dt (by simp[h]) (h1 h)
theorem ft {α:Type}(f:α->D):∀l:List α,D.fQ (l.map f)=l.map λa=>(f a).pd
 |[]=>rfl
 |a::l=>by
  show (f a).pd::D.fQ (l.map f)=_;rw[ft f l];rfl
theorem jW {n:Nat}:∀{xs:List PyData},(∀x∈xs,x.canLay0=true/\x.depth<=n)->YN xs=true/\X8 xs<=n
 |[],_=>⟨by simp[YN],by simp[X8]⟩
 |x::xs,h=>by
  obtain⟨h1,h2⟩:=jW (n:=n) (xs:=xs) λy hy=>h y (by simp[hy])
  obtain⟨g1,g2⟩:=h x (by simp)
  refine⟨by simp[YN,h1,g1],?_⟩
  simp only[X8];lia
theorem ny {n:Nat}{ds:List D}(h:∀d∈ds,d.pd.canLay0=true/\d.pd.depth<=n):(D.tup ds).pd.canLay0=true/\(D.tup ds).pd.depth<=n+1:=by
 have e:D.fQ ds=ds.map λd=>d.pd:=by
  have:=ft (λd:D=>d) ds;simpa using this
 obtain⟨h1,h2⟩:=jW (n:=n) (xs:=D.fQ ds) λx hx=>by
  rw[e]at hx;obtain⟨d,hd,rfl⟩:=WX.mp hx;exact h d hd
 refine⟨by simpa[D.pd,XH] using h1,?_⟩
 have:(D.tup ds).pd.depth=X8 (D.fQ ds)+1:=by simp[D.pd,Xw]
 lia
theorem eM {n:Nat}{ds:List D}(h:∀d∈ds,d.pd.canLay0=true/\d.pd.depth<=n):(D.lst ds).pd.canLay0=true/\(D.lst ds).pd.depth<=n+1:=by
 have e:D.fQ ds=ds.map λd=>d.pd:=by
  have:=ft (λd:D=>d) ds;simpa using this
 obtain⟨h1,h2⟩:=jW (n:=n) (xs:=D.fQ ds) λx hx=>by
  rw[e]at hx;obtain⟨d,hd,rfl⟩:=WX.mp hx;exact h d hd
 refine⟨by simpa[D.pd,XH] using h1,?_⟩
 have:(D.lst ds).pd.depth=X8 (D.fQ ds)+1:=by simp[D.pd,Xw]
 lia
theorem bL (i:Int):(D.int i).pd.canLay0=true/\(D.int i).pd.depth<=1:=⟨by simp[D.pd,XH],by simp[D.pd,Xw]⟩
theorem eO (b:Bool):(D.bl b).pd.canLay0=true/\(D.bl b).pd.depth<=1:=⟨by simp[D.pd,XH],by simp[D.pd,Xw]⟩
theorem iT (t:List Int):(kD t).pd.canLay0=true/\(kD t).pd.depth<=2:=ny λd hd=>by
 obtain⟨i,_,rfl⟩:=WX.mp hd;exact bL i
theorem ij (ts:List (List Int)):(D.lst (ts.map kD)).pd.canLay0=true/\(D.lst (ts.map kD)).pd.depth<=3:=eM λd hd=>by
 obtain⟨i,_,rfl⟩:=WX.mp hd;exact iT i
theorem bO {d:D}{n:Nat}(h:d.pd.canLay0=true/\d.pd.depth<=n)(hn:n<=64:=by decide):d.ik=true:=by
 show (d.pd.canLay0&&decide (d.pd.depth<=64))=true;rw[h.1,decide_eq_true (by lia)]
 rfl
theorem iB {α:Type}[DecidableEq α]{f:α->PyData}(hf:∀a b,Xf (f a) (f b)=decide (a=b)):∀xs ys:List α,ZX (xs.map f) (ys.map f)=decide (xs=ys)
 |[],[]=>by simp[ZX]
 |[],_::_=>by simp[ZX]
 |_::_,[]=>by simp[ZX]
 |x::xs,y::ys=>by
  simp only[W3,ZX];rw[hf,iB hf xs ys]
  by_cases h1:x=y
  ·by_cases h2:xs=ys <;> simp[h1,h2]
  ·simp[h1]
theorem kW (i j:Int):Xf (D.int i).pd (D.int j).pd=decide (i=j):=by
 simp only[D.pd,Xf]
 by_cases h:i=j <;> simp[h]
theorem Jb (t u:List Int):Xf (kD t).pd (kD u).pd=decide (t=u):=by
 show Xf (.tuple (D.fQ (t.map D.int))) (.tuple (D.fQ (u.map D.int)))=_;rw[ft,ft];simp only[Xf];exact iB kW t u
theorem A9 (ts us:List (List Int)):Xf (D.lst (ts.map kD)).pd (D.lst (us.map kD)).pd=decide (ts=us):=by
 show Xf (.list (D.fQ (ts.map kD))) (.list (D.fQ (us.map kD)))=_;rw[ft,ft];simp only[Xf];exact iB Jb ts us
theorem Jm {a b:D}{c:Bool}(h1:a.ik=true)(h2:b.ik=true)(e:Xf a.pd b.pd=c):ya a b=some (.bl c):=by
 unfold ya;rw[if_pos ⟨h1,h2⟩,e]
theorem pX {a b:D}{c:Bool}(h1:a.ik=true)(h2:b.ik=true)(e:Xf a.pd b.pd=c):sA a b=some (.bl (!c)):=by
 unfold sA;rw[if_pos ⟨h1,h2⟩,e]
theorem fz (i j:Int):ya (.int i) (.int j)=some (.bl (decide (i=j))):=Jm (bO (bL i)) (bO (bL j)) (kW i j)
theorem gU (i j:Int):sA (.int i) (.int j)=some (.bl (!decide (i=j))):=pX (bO (bL i)) (bO (bL j)) (kW i j)
theorem Bh (ts us:List (List Int)):sA (.lst (ts.map kD)) (.lst (us.map kD))=some (.bl (!decide (ts=us))):=pX (bO (ij ts)) (bO (ij us)) (A9 ts us)
theorem any_map {α:Type}[DecidableEq α]{f:α->D}(hf:∀a b,Xf (f a).pd (f b).pd=decide (a=b))(t:α):∀xs:List α,((D.fQ (xs.map f)).any λy=>Xf y (f t).pd)=decide (t∈xs)
 |[]=>rfl
 |x::xs=>by
  show (Xf (f x).pd (f t).pd || (D.fQ (xs.map f)).any λy=>Xf y (f t).pd)=_
  rw[any_map hf t xs,hf]
  by_cases h:x=t
  ·simp[h]
  ·have h':¬ t=x:=λz=>h z.symm;simp[h,h']
theorem Eu (i:Int)(t:List Int):Mp (.int i) (kD t)=some (decide (i∈t)):=by
 show (if (D.int i).ik=true/\(D.tup (t.map D.int)).ik=true then some _ else none)=_
 rw[if_pos ⟨bO (bL i),bO (iT t)⟩,any_map kW]
theorem Bp (i:Int)(t:List Int):Mq (.int i) (kD t)=some (.bl (decide (i∈t))):=by unfold Mq;rw[Eu];rfl
theorem Rn {α:Type}{ds:List α}{i:Nat}{d:α}(h:ds[i]?=some d):jy ds (i:Int)=some d:=by
 have hl:i<ds.length:=(WI.mp h).1;unfold jy qh;rw[if_pos (by lia),if_pos (by lia),XT]
 exact h
theorem Jw {α:Type}{ds:List α}{i:Int}(h0:0<=i)(h1:i<ds.length):∃d∈ds,jy ds i=some d/\ds[i.toNat]?=some d:=by
 have hl:i.toNat<ds.length:=by lia
 refine⟨ds[i.toNat],YB hl,?_,Wv hl⟩;have:=Rn (ds:=ds) (i:=i.toNat) (Wv hl)
 rwa [show ((i.toNat:Nat):Int)=i by lia]at this
theorem Ep {ds:List D}{i:Nat}{d:D}(h:ds[i]?=some d):uO (.lst ds) (.int (i:Int))=some d:=Rn h
theorem Eo {ds:List D}{i:Nat}{d:D}(h:ds[i]?=some d):uO (.tup ds) (.int (i:Int))=some d:=Rn h
theorem pick {ds:List D}{r:Int}{p:D->Prop}(h0:0<=r)(h1:r<ds.length)(h:∀d∈ds,p d):∃d,uO (.lst ds) (.int r)=some d/\p d:=by
 obtain⟨d,hd,e,_⟩:=Jw h0 h1;exact⟨d,e,h d hd⟩
theorem EH:Xp "enumerate" = some (.type "enumerate"):=by decide +kernel
def oA (ds:List D):List D:=k7 (mR 0 ds.length) ds
section
variable {ds:List D}
theorem oz {i:Nat}{d:D}(h:(oA ds)[i]?=some d):∃b,ds[i]?=some b/\d=.tup [.int i,b]:=by
 obtain⟨a,b,h1,h2,rfl⟩:=qp h;obtain⟨_,rfl⟩:=fW h1;exact⟨b,h2,by simp⟩
theorem ou:(oA ds).length=ds.length:=by unfold oA;rw[qo,dH];simp
end
end L2
namespace L2.Q
open PySem PySem.Spec PySem.SeqAt PyProof.Rows
section
end
section
end
section
end
section
variable {X:Cx}{C:Cfg}{e:Expr}{i:Nat}{x:Str}{pos px ap cp:Pos}
theorem b6.putL {P:Wq}{w:WC}{σ:St}{H:Hp}{β:a_}{own:Nat->List Addr}{U U2:Addr->Prop}{ds ds':List D}{vs':List V}{a:Addr}{vs:List V}{A A':List Addr}(s:b6 P w (C.u U) σ H β own)(e:β[i]?=some (some (.own (.lst ds))))(h1:σ[i]?=some (some (.ref a)))(h2:H a=some (.lst vs))(h3:own i=a::A)
  (r:a8 P w H ds' vs' A') (nd:A'.Nodup) (hA:∀c∈A',c∈A\/(C.H0 c=none/\¬ Wn own c/\U c)) (hU:∀a,U2 a->U a) (Q0:∀c∈A',c∉A->¬ U2 c) :
  b6 P w (C.u U2) σ (upd H a (.lst vs')) (β.set i (some (.own (.lst ds')))) (aR own i (a::A'))/\∀c∈a::A',c∈own i\/(C.H0 c=none/\¬ Wn own c/\U c):=by
 have ha:a∈own i:=by rw[h3];simp
 have nA:a∉A:=by have:=s.qg i;rw[h3]at this;exact(Xe.mp this).1
 have na:∀c∈A',c≠a:=λc hc z=>by
  subst z;rcases hA c hc with z|z
  ·exact nA z
  ·exact z.2.1 ⟨i,ha⟩
 have kt:∀b xs,H b=some (.tup xs)->upd H a (.lst vs') b=some (.tup xs):=λb xs z=>by rw[aC (λz'=>by rw[z',h2]at z;cases z)];exact z
 have S9:∀c∈a::A',c∈own i\/(C.H0 c=none/\¬ Wn own c/\U c):=λc hc=>by
  rcases Ws.mp hc with rfl|hc
  ·exact .inl ha
  ·exact(hA c hc).imp (λz=>by rw[h3];simp[z]) id
 refine⟨s.KQ e h1 ha ⟨a,vs',A',rfl,aE,rfl,r.keep kt λc hc oc ec=>by rw[aC (na c hc)];exact ec⟩ (Xe.mpr ⟨λz=>na a z rfl,nd⟩) S9 hU (λc hc z=>?_),S9⟩
 rcases Ws.mp hc with rfl|hc
 ·exact(s.dm i c ha).2.2.2 (hU c z)
 ·by_cases q:c∈A
  ·exact(s.dm i c (by rw[h3];simp[q])).2.2.2 (hU c z)
  ·exact Q0 c hc q z
theorem qX {own:Nat->List Addr}{i:Nat}{A':List Addr}(h:∀c∈A',c∈own i):∀c,Wn (aR own i A') c->Wn own c:=λc LL=>by
 obtain⟨j,hj⟩:=LL
 by_cases aQ:i=j
 ·rw[<- aQ,os_eq]at hj;exact⟨i,h c hj⟩
 ·rw[bg aQ]at hj;exact⟨j,hj⟩
theorem zf {P:Wq}{w:WC}{H:Hp}{own:Nat->List Addr}{Z:Hp×(Addr->Prop)}{d:D}{v:V}{A:List Addr}(r:Own P w H d v A)(h:∀c∈A,¬ Wn own c/\C.H0 c=none):KV P w C Z own H (sk .fG d) d v:=by
 have q:aD P w (av C (Wn own) .fG) H d v:=r.rep λc hc z=>z.elim (h c hc).1 λz=>z (h c hc).2;cases d with
 |int i=>exact KV.flat rfl q
 |bl i=>exact KV.flat rfl q
 |bE=>exact KV.flat rfl q
 |str i=>exact KV.flat rfl q
 |_=>exact q
theorem a8.concat {P:Wq}{w:WC}{H:Hp}{ds:List D}{d:D}{vs:List V}{A:List Addr}(h:a8 P w H (ds++[d]) vs A):∃us v A1 A2,vs=us++[v]/\A=A1++A2/\a8 P w H ds us A1/\Own P w H d v A2:=by
 obtain⟨v,A1,A2,A3,g1,g2,g3,g4,g5⟩:=h.split (i:=ds.length) (d:=d) (by simp)
 rw[List.take_left]at g3;have e3:a8 P w H [] (vs.drop (ds.length+1)) A3:=by simpa using g5
 have hl:=h.length;rw[WK,Xn]at hl;refine⟨vs.take ds.length,v,A1,A2,?_,by rw[g2,e3.2,XD],g3,g4⟩
 have gT:ds.length<vs.length:=by lia
 have e1:vs=vs.take ds.length++vs.drop ds.length:=(YK _ _).symm;rw[XQ gT,e3.1]at e1;have:vs[ds.length]=v:=by
  have:=Wv gT;rw[g1]at this;exact(WR this).symm
 rw[this]at e1;exact e1
theorem GN (hn:Nm X i x:=by exact JJ)
  (eY:Y2 (.Name x px) "pop" X.env (eval (.Name x px) X.env)=eval (.Name x px) X.env:=by rfl) (eX:(ap.endLine==cp.line)=true:=by rfl) :
  PQ X C false (.Call (.Attribute (.Name x px) "pop" ap) [] [] cp) (λβ R=>∃ds d,β[i]?=some (some (.own (.lst (ds++[d]))))/\R d (sk .fG d) (β.set i (some (.own (.lst ds))))) :=
 ⟨λβ R R' k DR=>by obtain⟨ds,d,h1,q⟩:=DR;exact⟨ds,d,h1,k _ _ _ q⟩,(GY (apos:=ap) (cpos:=cp) PySem.F.plainAttrs_list PySem.F.slot_list_pop PySem.F.type_list_pop Hw (nE (pos:=px) hn) eY eX).pre λσ H Q Av=>by
  obtain⟨β,own,s,ds,d,hb,q⟩:=Av;obtain⟨a,vs,A,h1,h2,h3,h4⟩:=s.lU hb;obtain⟨us,v,A1,A2,rfl,rfl,g3,g4⟩:=h4.concat;have nd:=s.qg i;rw[h3]at nd;obtain⟨zP,Dz,JK⟩:=XG.mp (Xe.mp nd).2;obtain⟨s2,hA⟩:=s.putL (C:=C) (U:=C.U) (U2:=C.U) (ds':=ds) (vs':=us) (A':=A1) hb h1 h2 h3 g3 zP (λc hc=>.inl (by simp[hc])) (λ_ z=>z) (λc hc n=>absurd (by simp[hc]) n)
  have h0:∀c∈own i,C.H0 c=none:=by obtain⟨_,_,_,h⟩:=s.ow i _ hb;exact h
  have kt:∀b xs,H b=some (.tup xs)->upd H a (.lst us) b=some (.tup xs):=λb xs z=>by rw[aC (λz'=>by rw[z',h2]at z;cases z)];exact z
  have na:∀c∈A2,c≠a:=λc hc z=>(Xe.mp nd).1 (by rw[<- z];simp[hc])
  have le:∀c,Wn (aR own i (a::A1)) c->Wn own c:=qX λc hc=>by rw[h3];rcases Ws.mp hc with rfl|hc <;> simp[*]
  refine⟨.ref a,h1,.inl ⟨rfl,_,eC.of h2⟩,a,_,v,rfl,rfl,h2,by simp,?_⟩
  rw[YV];refine q v _ _ ⟨s2,?_,λz=>(nomatch z),le⟩ (zf (C:=C) (g4.keep kt λc hc oc ec=>by rw[aC (na c hc)];exact ec) λc hc=>⟨λ⟨j,hj⟩=>?_,h0 c (by rw[h3];simp[hc])⟩)
  ·have u:=Sn.upd (Z:=(H,Wn own)) (o':=.lst us) (Sn.refl (H:=H) (W:=Wn own)) h2 (λxs z=>by cases z) ⟨i,by rw[h3];simp⟩
   exact⟨λb z=>.inl (le b z),u.k,u.d⟩
  ·by_cases aQ:i=j
   ·rw[<- aQ,os_eq]at hj;rcases Ws.mp hj with rfl|hj
    ·exact na _ hc rfl
    ·exact JK _ hj _ hc rfl
   ·rw[bg aQ]at hj;exact aQ (s.mH i j c (by rw[h3];simp[hc]) hj)⟩
end
section
variable {X:Cx}{C:Cfg}{e k:Expr}{φ φk:aS}{p pk:Bool}{i:Nat}{x:Str}{pos pos' px ap cp:Pos}
theorem wN {n:Nat}{j:Int}{k:Nat}(h:qh n j=some k):seqIndex? j n=some k:=by
 unfold qh at h;unfold seqIndex?
 by_cases h0:0<=j
 ·rw[if_pos h0]at h
  by_cases h1:j<n
  ·rw[if_pos h1]at h;cases h;have e:(if j<0 then j+n else j)=j:=if_neg (by lia)
   simp only[e];simp[h0,h1]
  ·rw[if_neg h1]at h;cases h
 ·rw[if_neg h0]at h
  by_cases h1:-(n:Int)<=j
  ·rw[if_pos h1]at h;cases h;have e:(if j<0 then j+n else j)=j+n:=if_pos (by lia)
   simp only[e];have:0<=j+n/\j+n<n:=by lia
   simp[this]
  ·rw[if_neg h1]at h;cases h
theorem uo {n:Nat}{j:Int}{k:Nat}(h:qh n j=some k):k<n:=by
 unfold qh at h
 by_cases h0:0<=j
 ·rw[if_pos h0]at h
  by_cases h1:j<n
  ·rw[if_pos h1]at h;cases h;lia
  ·rw[if_neg h1]at h;cases h
 ·rw[if_neg h0]at h
  by_cases h1:-(n:Int)<=j
  ·rw[if_pos h1]at h;cases h;lia
  ·rw[if_neg h1]at h;cases h
theorem kn {α:Type}:∀(l:List α) (j:Nat),l.eraseIdx j=l.take j++l.drop (j+1):=λl j=>List.eraseIdx_eq_take_drop_succ l j
theorem y_ (he:PQ X C p e φ)(hn:Nm X i x:=by exact JJ)
  (eY:Y2 (.Name x px) "pop" X.env (eval (.Name x px) X.env)=eval (.Name x px) X.env:=by rfl)
  (pN:((Yd cp (WD [e] X.env)).all (λx=>!x.1)&&(backToKw cp (keywordEach [] X.env)).all (λx=>x.1.isSome)&&decide ([e].length+([]:List ZT).length+(if ([]:List ZT).isEmpty then 0 else 1)<30))=true:=by rfl)
  (eX:(ap.endLine==cp.line)=true:=by rfl) (hs:WD [e] X.env=(false,eval e X.env)::WD [] X.env:=by rfl) (iy:(Yd cp (WD [] X.env)).any (·.1)=false:=by rfl) :
  PQ X C false (.Call (.Attribute (.Name x px) "pop" ap) [e] [] cp) (λβ R=>(∃ds,β[i]?=some (some (.own (.lst ds))))/\φ β λkd _ β'=>∃(ds:List D) (j:Int) (m:Nat) (d:D),kd=.int j/\β'[i]?=some (some (.own (.lst ds)))/\-(2 ^ 63)<=j/\j<2 ^ 63/\qh ds.length j=some m/\ds[m]?=some d/\R d (sk .fG d) (β'.set i (some (.own (.lst (ds.eraseIdx m)))))) :=
 ⟨λβ R R' k mW=>by obtain⟨h0,q⟩:=mW;exact⟨h0,he.mono _ _ _ (λkd _ β' uw=>by obtain⟨ds,j,m,d,h1,h2,h3,h4,h5,h6,q⟩:=uw;exact⟨ds,j,m,d,h1,h2,h3,h4,h5,h6,k _ _ _ q⟩) q⟩,
  (vC (apos:=ap) (cpos:=cp) PySem.F.plainAttrs_list PySem.F.slot_list_pop PySem.F.type_list_pop zS (nE (pos:=px) hn) (dj he.pe il hs) eY pN eX hs iy).pre λσ H Q xv=>by
  obtain⟨β,own,s0,⟨Tc,JU⟩,q⟩:=xv;obtain⟨a0,Tr,A0,z1,z2,z3,z4⟩:=s0.lU JU;refine⟨.ref a0,z1,.inl ⟨rfl,_,eC.of z2⟩,tQ.of he s0 q λkd kk β' kv H1 az mT o r=>?_⟩;obtain⟨ds,j,m,d,e1,hb,j1,j2,hj,hm,q⟩:=mT;subst e1;cases r.rep;have s:=o.sq;obtain⟨a,vs,A,h1,h2,h3,h4⟩:=s.lU hb;rw[z1]at h1;cases h1;obtain⟨v,A1,A2,A3,g1,rfl,g3,g4,g5⟩:=h4.split hm;have nd:=s.qg i;rw[h3]at nd;obtain⟨zP,Dz,JK⟩:=XG.mp (Xe.mp nd).2;obtain⟨Ui,OI,Sl⟩:=XG.mp Dz;have ow:a8 X.prog X.w H1 (ds.eraseIdx m) (vs.eraseIdx m) (A1++A3):=by rw[kn,kn];exact g3.append g5
  have OH:(A1++A3).Nodup:=XG.mpr ⟨zP,OI,λx hx y hy=>JK x hx y (W9 _ hy)⟩;obtain⟨s2,hA⟩:=s.putL (C:=C) (U:=C.U) (U2:=C.U) (ds':=ds.eraseIdx m) (vs':=vs.eraseIdx m) (A':=A1++A3) hb z1 h2 h3 ow OH (λc hc=>.inl (by rcases WO.mp hc with hc|hc <;> simp[hc])) (λ_ z=>z) (λc hc n=>absurd (by rcases WO.mp hc with hc|hc <;> simp[hc]) n)
  have h0:∀c∈az i,C.H0 c=none:=by obtain⟨_,_,_,h⟩:=s.ow i _ hb;exact h
  have kt:∀b xs,H1 b=some (.tup xs)->upd H1 a0 (.lst (vs.eraseIdx m)) b=some (.tup xs):=λb xs z=>by rw[aC (λz'=>by rw[z',h2]at z;cases z)];exact z
  have na:∀c∈A2,c≠a0:=λc hc z=>(Xe.mp nd).1 (by rw[<- z];simp[hc])
  have le:∀c,Wn (aR az i (a0::(A1++A3))) c->Wn az c:=qX λc hc=>by
   rw[h3];rcases Ws.mp hc with rfl|hc
   ·simp
   ·rcases WO.mp hc with hc|hc <;> simp[hc]
  refine⟨a0,vs,j,m,v,rfl,rfl,h2,j1,j2,by rw[h4.length];exact wN hj,g1,?_⟩
  have u:=Sn.upd (Z:=(H1,Wn az)) (o':=.lst (vs.eraseIdx m)) (Sn.refl (H:=H1) (W:=Wn az)) h2 (λxs z=>by cases z) ⟨i,by rw[h3];simp⟩
  refine q v _ _ ⟨s2,o.sn.trans ⟨λb z=>.inl (le b z),u.k,u.d⟩,λz=>(nomatch z),λc z=>o.le c (le c z)⟩ (zf (C:=C) (g4.keep kt λc hc oc ec=>by rw[aC (na c hc)];exact ec) λc hc=>⟨λxt=>?_,h0 c (by rw[h3];simp[hc])⟩)
  obtain⟨j',xx⟩:=xt
  by_cases aQ:i=j'
  ·rw[<- aQ,os_eq]at xx;rcases Ws.mp xx with rfl|xx
   ·exact na _ hc rfl
   ·rcases WO.mp xx with xx|xx
    ·exact JK _ xx _ (X1 _ hc) rfl
    ·exact Sl _ hc _ xx rfl
  ·rw[bg aQ]at xx;exact aQ (s.mH i j' c (by rw[h3];simp[hc]) xx)⟩
theorem Cw {Z:Hp×(Addr->Prop)}{H:Hp}{own:Nat->List Addr}{a:Addr}{o oa:HO}{A':List Addr}{U:Addr->Prop}(n:Sn Z H (Wn own))(m:∀a,U a->Z.1 a=none)(h2:H a=some oa)(ht:∀xs,oa≠.tup xs)(ha:Wn own a)(hA:∀c∈A',c∈own i\/(C.H0 c=none/\¬ Wn own c/\U c)):Sn Z (upd H a o) (Wn (aR own i A')) :=
 yF n m ha ⟨oa,h2,ht⟩ hA
theorem lN (he:∀U,PQ X (C.u U) p e φ)(hk:∀U,PQ X (C.u U) pk k φk)(hn:Nm X i x:=by exact JJ)
  (ha:∀v,assign (.Subscript (.Name x px) k pos') X.env v=(do
   let ov <- holding [v] (eval (.Name x px) X.env)
   let iv <- holding [v,ov] (eval k X.env)
   standAt pos'
   holding [v,ov,iv] (setItem ov iv v)
   release [v,ov,iv] []):=by intro _;rfl) (hs:swapsWithSole [.Subscript (.Name x px) k pos'] e pos.line X.env=pure false:=by rfl) (hw:swappedStores [.Subscript (.Name x px) k pos'] e X.env=pure none:=by rfl)
  (h1:(X4 [.Subscript (.Name x px) k pos'] X.env).map (·.2)=[assign (.Subscript (.Name x px) k pos') X.env]:=by rfl) :
  PB X C (.Assign [.Subscript (.Name x px) k pos'] e pos) (λE β=>φ β λd kd β1=>Fo kd d/\(∃ds,β1[i]?=some (some (.own (.lst ds))))/\φk β1 λjd _ β2=>∃ds j m,jd=.int j/\β2[i]?=some (some (.own (.lst ds)))/\qh ds.length j=some m/\E.nx (β2.set i (some (.own (.lst (ds.set m d)))))):=by
 refine⟨λE E' β l q=>(he λ_=>False).mono _ _ _ (λd kd β1 Av=>by obtain⟨f,h0,q⟩:=Av;exact⟨f,h0,(hk λ_=>False).mono _ _ _ (λjd _ β2 Au=>by obtain⟨ds,j,m,h1,h2,h3,q⟩:=Au;exact⟨ds,j,m,h1,h2,h3,l.nx _ q⟩) q⟩) q,λpins s σ H De I Pu=>?_⟩
 obtain⟨Z,E,β,⟨own,sq,n⟩,q,ok⟩:=Pu;refine t_ (he λa=>H a=none).pe (GU (nE (pos:=px) hn) (hk λa=>H a=none).pe set_list ha) hs hw h1 pins s σ H De I ?_;refine tQ.of (he λa=>H a=none) (sq.qu (C:=C.z) (U:=λa=>H a=none) λa z=>z) q λd kd β1 v H1 az Pt o r=>?_;obtain⟨f,⟨Tc,JU⟩,q⟩:=Pt;obtain⟨a0,Tr,A0,z1,z2,z3,z4⟩:=o.sq.lU JU;refine⟨.ref a0,z1,tQ.of (hk λa=>H a=none) o.sq q λjd kj β2 jv H2 ba Pr o2 r2=>?_⟩;obtain⟨ds,j,m,e1,hb,hj,q⟩:=Pr;subst e1;cases r2.rep;obtain⟨A,r1,rn,r3⟩:=(r.fl f).held (by intro z;cases z) o2.sn
 obtain⟨a,vs,A',g1,g2,g3,g4⟩:=o2.sq.lU hb;rw[z1]at g1;cases g1;have IL:m<ds.length:=uo hj;have hm:ds[m]?=some ds[m]:=Wv IL;obtain⟨v0,B1,B2,B3,k1,rfl,k3,k4,k5⟩:=g4.split hm;have nd:=o2.sq.qg i;rw[g3]at nd;obtain⟨zP,Dz,JK⟩:=XG.mp (Xe.mp nd).2;obtain⟨Ui,OI,Sl⟩:=XG.mp Dz;have UW:m<vs.length:=by rw[g4.length];exact uo hj
 have ow:a8 X.prog X.w H2 (ds.set m d) (vs.set m v) (B1++(A++B3)):=by
  rw[List.set_eq_take_append_cons_drop,if_pos (uo hj),List.set_eq_take_append_cons_drop,if_pos UW];exact k3.append ⟨v,_,A,B3,rfl,rfl,r1,k5⟩
 have off:∀c∈A,∀c'∈B1++(B2++B3),c≠c':=λc hc c' x9 z=>(r3 c hc).2.1 ⟨i,by rw[g3,z];simp only[Ws];exact .inr x9⟩
 have OH:(B1++(A++B3)).Nodup:=XG.mpr ⟨zP,XG.mpr ⟨rn,OI,λx hx y hy=>off x hx y (by simp[hy])⟩,λx hx y hy z=>by
  rcases WO.mp hy with hy|hy
  ·exact off y hy x (by simp[hx]) z.symm
  ·exact JK x hx y (W9 _ hy) z⟩
 obtain⟨s2,hA⟩:=o2.sq.putL (C:=C) (U:=λa=>H a=none) (U2:=λ_=>False) (ds':=ds.set m d) (vs':=vs.set m v) (A':=B1++(A++B3)) hb z1 g2 g3 ow OH (λc hc=>by
  rcases WO.mp hc with hc|hc
  ·exact .inl (by simp[hc])
  ·rcases WO.mp hc with hc|hc
   ·exact .inr ⟨(r3 c hc).2.2,(r3 c hc).2.1,(r3 c hc).1⟩
   ·exact .inl (by simp[hc])) (λ_ z=>z.elim) (λc hc n z=>z)
 exact⟨a0,vs,j,m,rfl,rfl,g2,by rw[g4.length];exact hj,ok.nx _ _ _ ⟨_,s2,Cw ((n.trans o.sn).trans o2.sn) (λb z=>n.free z) g2 (λxs z=>by cases z) ⟨i,by rw[g3];simp⟩ hA⟩ q⟩
end
end L2.Q
namespace L2
open PySem PySem.Spec PySem.SeqAt PyProof.Rows
theorem Dw {X:Cx}:∀(pins:List (Addr×Obj)) (s:Wi) (σ:St) (H:Hp) (Q:Wg->Wi->Prop) (E:Wg->Wi->Prop),Inv X pins σ H s ->
  (∀a s',s.heap.objs.size<=a->H a=none->(∀b o,s.heap.get? b=some o->s'.heap.get? b=some o)->Inv X pins σ (upd H a (gy X.prog X.w a [])) s'->Q (.ref a) s')->WT (model X.prog X.w) X.A (newSet (.type "set")) Q E s:=λpins s σ H Q E I h=>by
 unfold newSet;refine Wh (ST.gA ?_);dsimp only;have hS:(s.heap.push (ST.ip X.w)).get? s.heap.objs.size=some (ST.ip X.w):=W5 _ rfl;refine YL (h _ _ (Wl _) I.fresh (λb o e=>Ww _ e) (I.laid (t':=s.toks) (λ_ _ q=>Ww _ q) (Wl _) ?_));exact⟨⟨_,_,_,_,hS,ST.Dy _ _⟩,⟨_,hS⟩,λh1 h2 mW k=>by obtain⟨o1,e1,Me,t1,g1,g2⟩:=mW;exact⟨o1,e1,Me,t1,k _ g1,g2⟩⟩
section
variable {X:Cx}
theorem zB {elt:Expr}{te:TE}{a:Addr}(hx:X.xe=λ_ _=>False)(hu:X.A.units+16<Za)(he:PE X elt te):
  td X (nj (Ba elt (.ref a) X.env)) (λN σ H=>te σ H λv H1=>∃ts t key,v=.ref t/\H1 a=some (gy X.prog X.w a ts)/\H1 t=some (.tup (key.map V.int))/\(∀x∈ts,H1 x.1=some (.tup (x.2.map V.int)))/\ts.length<1000/\∀bA,(∀x∈bA,x∈ts\/x=(t,key))->(∀x,x∈bA.map (·.2)↔x∈ts.map (·.2)\/x=key)->bA.length<=ts.length+1->(bA.map (·.2)).Nodup->N σ (upd H1 a (gy X.prog X.w a bA))):=by
 intro pins s σ H N k Q E I h hk;unfold nj Ba;refine Wh (Wh (bx (i9 hx (he pins s σ H _ I h)) λu s1 mT=>?_));obtain⟨v,H1,I1,r1,ts,t,key,ev,hH,ht,xZ,hn,q⟩:=mT;subst ev;cases r1;refine Wh (YJ (Wh ?_));obtain⟨⟨o,es,ep,tb,ho,S⟩,_,_⟩:=(show cT X.prog X.w H1 s1.heap a (gy X.prog X.w a ts) from I1.bq a _ hH)
 have T:=tR I1.bq xZ;have QG:(ST.TK X.prog X.w).is s1.heap key t:=(tR (ts:=[(t,key)]) I1.bq λx hx=>by rw[Wx.mp hx];exact ht) (t,key) (Wx.mpr rfl)
 refine Yy PySem.F.slot_set_add (ST.iU ho S) PySem.F.entry_set_add ?_ (PySem.F.args_set_add_2 _ _);unfold Yb.«set.add» Builtin.Frozenset.oneOther;simp only[List.isEmpty_nil,bind_assoc];unfold Builtin.Frozenset.addrOf;refine Wh (Wu ?_)
 try dsimp only
 refine Wh (Wu ?_)
 try dsimp only
 have l_:X.A.in1.units<Za:=by show X.A.units+1<Za;lia
 refine Wh (ST.yp ho S T QG l_ hn λh' o' bA hV pR t' added tk V1 sb xw S' m1 m2=>?_);show WT _ _ (ret Value.none) _ _ _;refine Wu ⟨_,rfl,Wu ?_⟩;have I2:Inv X pins σ (upd H1 a (gy X.prog X.w a bA)) {s1 with heap:=h',toks:=tk}:=I1.write (x:=a) (e:=a) (by rw[hH];exact trivial) (.inl rfl) (λb u hb hu=>(sb.2 b hb).trans hu) ⟨_,xw⟩
  ⟨⟨o',hV,pR,t',xw,S'⟩,⟨_,xw⟩,λh1 h2 xv k=>by obtain⟨o1,e1,Me,t1,g1,g2⟩:=xv;exact⟨o1,e1,Me,t1,k _ g1,g2⟩⟩
 by_cases qi:∃x∈ts,x.2=key
 ·obtain rfl:=m1 qi;refine hk σ _ _ I2 (q bA (λx hx=>.inl hx) (λx=>⟨.inl,λz=>z.elim id λz=>?_⟩) (by lia) S'.Lj)
  obtain⟨y,hy,e⟩:=qi;rw[z,<- e];exact X6 hy
 ·have pm:=m2 λx hx e=>qi ⟨x,hx,e⟩;refine hk σ _ _ I2 (q bA (λx hx=>?_) (λx=>?_) (by rw[pm.length_eq];exact Wl _) S'.Lj)
  ·rcases Ws.mp (pm.mem_iff.mp hx)with z|z
   ·exact .inr z
   ·exact .inl z
  ·rw[(pm.map _).mem_iff,W3,Ws];exact⟨λz=>z.symm,λz=>z.symm⟩
end
namespace Q
section
variable {P:Wq}{w:WC}{C:Cfg}{σ:St}{H:Hp}{β:a_}{own:Nat->List Addr}{lk:List (Option Nat)}{a:Addr}
theorem b6.Je {o:HO}(ho:∀xs,o≠.tup xs)(s:b6 P w C σ H β own)(ha:H a=none)(inj:∀(i i' j:Nat),lk[i]?=some (some j)->lk[i']?=some (some j)->i=i'):
  b6 P w (C.u λc=>c=a) (dq lk σ) (upd H a o) (c_ lk β) (bt lk β own):=by
 have h0:C.H0 a=none:=Xs λz=>s.iG a z ha;have q:=(s.enter ha inj).Gz (o:=o) aE (λxs z=>by cases z) h0
 have e:upd (upd H a (.lst [])) a o=upd H a o:=by
  funext b
  by_cases hb:b=a
  ·rw[hb,aE,aE]
  ·rw[aC hb,aC hb,aC hb]
 rwa [e]at q
end
def rq (γ:dY)(τ:bh)(φ:aS)(ds:List D)(k:Kd)(β0:a_)(K:List (List Int)->Prop):Prop:=∃I:Nat->a_->List (List Int)->Prop,I 0 β0 [] /\
 (∀i d β o,ds[i]?=some d->I i β o->γ d (sk k d) β λβ1=>τ β1 λt β2=>if t=true then φ β2 λx kx β3=>∃key,x=kD key/\o.length<1000/\I (i+1) β3 (o++[key]) else I (i+1) β2 o)/\∀β o,I ds.length β o->fK β0 β/\K o
theorem rq.mono {γ:dY}{τ:bh}{φ:aS}{ds:List D}{k:Kd}{β0:a_}{K K':List (List Int)->Prop}(h:∀o,K o->K' o)(q:rq γ τ φ ds k β0 K):rq γ τ φ ds k β0 K':=let ⟨I,h0,h1,h2⟩:=q;⟨I,h0,h1,λβ o z=>⟨(h2 β o z).1,h _ (h2 β o z).2⟩⟩
section
variable {X:Cx}{C:Cfg}{lk:List (Option Nat)}{γ:dY}{τ:bh}{φ:aS}{T:List Nat}{pc pe:Bool}
theorem uV {σ:St}{H1:Hp}{β:a_}{own:Nat->List Addr}{a:Addr}{J:It}{ds:List D}{k:Kd}{K:List (List Int)->Prop}{End:Hp->Prop}
  (γm:∀d k β R R',(∀r,R r->R' r)->γ d k β R->γ d k β R') (τm:∀β R R',(∀d β,R d β->R' d β)->τ β R->τ β R') (φm:∀β R R',(∀d k β,R d k β->R' d k β)->φ β R->φ β R')
  (inj:∀(i i' j:Nat),lk[i]?=some (some j)->lk[i']?=some (some j)->i=i') (hT:∀i∈T,∀j,lk[i]?≠some (some j))
  (s1:SQ X C σ H1 β own) (ha:H1 a=none) (hk:hold k false) (it:Cg X (av C (Wn own) k) J ds H1) (q:rq γ τ φ ds k (c_ lk β) K)
  (fin:∀o H',K o->Out X C σ H1 own (pc&&pe) β H' own->KV X.prog X.w C (H1,Wn own) own H' .own (.sT (jx o)) (.ref a)->End H') :
  g6 J (λv σ H Q=>∃own β d k,SQ X (C.u λc=>c=a) σ H β own/\Rp X (ju (C.u λc=>c=a) (Wn own) k) H d v/\γ d k β λβ'=>∀σ' a3,SQ X (C.u λc=>c=a) σ' H β' a3->(∀a,Wn a3 a->Wn own a)->(∀j,j∉T->σ'[j]?=σ[j]?)->Q σ' H)
   (lq X (C.u λc=>c=a) pc τ) (λN σ H=>tQ X (C.u λc=>c=a) pe φ σ H λv H1=>∃ts t key,v=.ref t/\H1 a=some (gy X.prog X.w a ts)/\H1 t=some (.tup (key.map V.int))/\(∀x∈ts,H1 x.1=some (.tup (x.2.map V.int)))/\ts.length<1000/\∀bA,(∀x∈bA,x∈ts\/x=(t,key))->(∀x,x∈bA.map (·.2)↔x∈ts.map (·.2)\/x=key)->bA.length<=ts.length+1->(bA.map (·.2)).Nodup->N σ (upd H1 a (gy X.prog X.w a bA)))
   (λ_ H'=>End H') (dq lk σ) (upd H1 a (gy X.prog X.w a [])):=by
 obtain⟨I,i0,i1,i2⟩:=q;have h0:C.H0 a=none:=Xs λz=>s1.iG a z ha;have sm:ay H1 (upd H1 a (gy X.prog X.w a [])):=ay.new ha;have So:∀c,Wn (bt lk β own) c->c≠a:=λc z e=>by
  obtain⟨j,hj⟩:=bI c z;exact(s1.dm j c hj).1 (by rw[e];exact ha)
 let S:Nat->St->Hp->Prop:=λi σ' H'=>∃βi iZ ts o,SQ X (C.u λc=>c=a) σ' H' βi iZ/\Sn (H1,Wn (bt lk β own)) H' (Wn iZ)/\(∀c,Wn iZ c->Wn (bt lk β own) c)/\H' a=some (gy X.prog X.w a ts)/\(∀x∈ts,H' x.1=some (.tup (x.2.map V.int)))/\(ts.map (·.2)).Nodup/\(ts.length<=o.length/\∀x,x∈ts.map (·.2)↔x∈o) /\
  ((pc&&pe)=true->ay H1 H')/\(∀j,j∉T->σ'[j]?=(dq lk σ)[j]?)/\I i βi o
 have W':Addr->Prop:=λb=>av C (Wn own) k b\/H1 b=none;have JO:=it (λb=>av C (Wn own) k b\/H1 b=none) λb z=>z;have kI:∀{H':Hp} {iZ:Nat->List Addr},Sn (H1,Wn (bt lk β own)) H' (Wn iZ)->Kp (λb=>av C (Wn own) k b\/H1 b=none) H1 H':=λn=>n.k.mono λb z=>z.imp (λz=>by
  cases k with
  |own=>exact .inl (bI b z)
  |fG=>exact .inl (bI b z)
  |old=>exact bI b z
  |bor=>exact hk.elim) id
 refine⟨λi m σ' H'=>i<=ds.length/\m=ds.length-i/\S i σ' H',⟨_,WJ _,rfl,c_ lk β,bt lk β own,[],[],s1.Je (λxs z=>by cases z) ha inj,⟨λb z=>.inl z,sm.kp,λb z e=>z (sm.free e)⟩,λ_ z=>z,aE,λx hx=>(nomatch hx),Xx,⟨Wl _,λx=>Iff.rfl⟩,λ_=>sm,λ_ _=>rfl,i0⟩,?_⟩
 rintro i m σ2 H2 ⟨hi,rfl,βi,iZ,ts,o,sq,sn,le,QW,os,nd,nw,pu,st,hl⟩;obtain⟨gk,HX⟩:=JO i H2 (kI sn)
 by_cases gT:i<ds.length
 ·right
  have hd:ds[i]?=some ds[i]:=Wv gT;obtain⟨go,yl⟩:=gk _ hd;refine⟨go,λσ' H'=>S (i+1) σ' H',λσ' H' h=>⟨_,by lia,gT,rfl,h⟩,λx H3 y=>?_⟩
  obtain⟨s3,r3⟩:=yl x H3 y;have Vx:∀{iZ:Nat->List Addr},(∀c,Wn iZ c->Wn (bt lk β own) c)->∀c,ju (C.u λc=>c=a) (Wn iZ) k c->av C (Wn own) k c\/H1 c=none:=λle c z=>z.elim (λz=>.inl (k6 (λc z=>bI c (le c z)) k c z)) λz=>.inr (by rw[z];exact ha)
  refine⟨iZ,βi,_,_,sq.same s3,oV (aD.a7 (Vx le) r3),γm _ _ _ _ _ (λβ4 q σ4 qY s4 w4 t4=>?_) (i1 i _ βi o hd hl)⟩;have Sv:∀c,Wn qY c->Wn (bt lk β own) c:=λc z=>le c (w4 c z);refine⟨β4,qY,s4,τm _ _ _ (λt β5 q H5 pq o5=>?_) q⟩;have OK:∀c,Wn pq c->Wn (bt lk β own) c:=λc z=>Sv c (o5.le c z);have Fn:∀oc,H2 a=some oc->H5 a=some oc:=λoc e=>by
   refine o5.sn.k.out a oc (s3 a oc e) λz=>?_;rcases z with z|z
   ·exact So _ (Sv _ z) rfl
   ·exact absurd ((s3 a oc e).symm.trans z) (λz=>(nomatch z))
  have R_:∀x∈ts,H5 x.1=some (.tup (x.2.map V.int)):=λx hx=>o5.sn.k.tup _ _ (s3 _ _ (os x hx));have RU:Sn (H1,Wn (bt lk β own)) H5 (Wn pq):=(iS (sn.same s3) w4).trans o5.sn;have R6:(pc&&pe)=true->ay H1 H5:=λz=>((pu z).trans s3).trans (o5.pu (uZ z)).1;have Km:∀j,j∉T->σ4[j]?=(dq lk σ)[j]?:=λj hj=>(t4 j hj).trans (st j hj);cases t with
  |false=>exact⟨β5,pq,ts,o,o5.sq,RU,OK,Fn _ QW,R_,nd,nw,R6,Km,q⟩
  |true =>
   refine⟨β5,pq,o5.sq,φm _ _ _ (λxd kx β6 xt v H6 G4 o6 r6=>?_) q⟩;obtain⟨key,ek,hz,q⟩:=xt;subst ek;obtain⟨t,us,rfl,ht,Fq⟩:=r6.rep;rw[ck Fq]at ht;have L9:=Fn _ QW;have rO:H6 a=some (gy X.prog X.w a ts):=by
    refine o6.sn.k.out a _ L9 λz=>?_;rcases z with z|z
    ·exact So _ (OK _ z) rfl
    ·exact absurd (L9.symm.trans z) (λz=>(nomatch z))
   have OA:∀x∈ts,H6 x.1=some (.tup (x.2.map V.int)):=λx hx=>o6.sn.k.tup _ _ (R_ x hx);have nt:∀{b xs},H6 b=some (.tup xs)->b≠a:=λe z=>by rw[z,rO]at e;cases e
   refine⟨ts,t,key,rfl,rO,ht,OA,by lia,λbA m1 m2 m3 m4=>⟨β6,G4,bA,o++[key],o6.sq.Gz rO (λxs z=>by cases z) h0,?_,λc z=>OK c (o6.le c z),aE,λx hx=>?_,m4,⟨?_,λx=>?_⟩,λz=>?_,Km,q⟩⟩
   ·have m:=RU.trans o6.sn;refine⟨m.w,m.k.trans ((lY rO (λxs z=>by cases z)).mono λb z=>.inr (by rw[z];exact ha)),λb z e=>?_⟩
    by_cases hb:b=a
    ·rw[hb,aE]at e;cases e
    ·rw[aC hb]at e;exact m.d b z e
   ·rcases m1 x hx with z|rfl
    ·rw[aC (nt (OA x z))];exact OA x z
    ·rw[aC (nt ht)];exact ht
   ·rw[WK,Xn];lia
   ·rw[m2,nw.2 x,WO,Wx]
   ·refine λb ob e=>?_;rw[aC (λz'=>by rw[z',ha]at e;cases e)]
    exact(o6.pu (EL z)).1 b ob (R6 z b ob e)
 ·left
  have e:i=ds.length:=by lia
  subst e;obtain⟨hh,q⟩:=i2 βi o hl;have lv:SQ X C σ H2 β own:=s1.leave sq sn le hh λj ok i' e1 e2=>st i' λz=>hT i' z j e2;have Sm:=cE o;refine⟨HX (Wl _),fin o H2 q ⟨lv,⟨λb z=>.inl z,sn.k.mono λb z=>z.imp (bI b) id,sn.d⟩,λz=>⟨pu z,rfl⟩,λ_ z=>z⟩ ⟨[a],⟨a,rfl,⟨ts,QW,os,(ZG nd Sm.1).mpr λx=>by rw[nw.2 x,Sm.2 x]⟩,rfl⟩,by simp,λc hc=>?_⟩⟩
  rw[Wx.mp hc];exact⟨ha,λLM=>by obtain⟨j,hj⟩:=LM;exact(s1.dm j a hj).1 ha,h0⟩
def yS (lk:List (Option Nat))(ι:fM)(γ:dY)(τ:bh)(φ:aS):aS:=λβ R=>ι β λds k β1=>hold k false/\rq γ τ φ ds k (c_ lk β1) λo=>R (.sT (jx o)) .own β1
variable {scope:Zc}{N':List Str}{tg gk elt:Expr}{ifs:List Expr}{ι:fM}{pi:Bool}{pos:Pos}
theorem KU (hu:X.A.units+16<Za)(L:Links X scope N' lk)(Ca:N'.Nodup)(hT:T.all (λi=>match lk[i]? with|some (some _)=>false|_=>true)=true)(hc:X.calm=true)(hi:Cf X C pi tg gk ι)
  (B8:∀a cl c s H ex,ES (aZ X scope N' cl c s H ex) (C.u λc=>c=a) tg T γ) (xZ:∀a cl c s H ex,xX (aZ X scope N' cl c s H ex) ifs (lq (aZ X scope N' cl c s H ex) (C.u λc=>c=a) pc τ)) (τm:∀β R R',(∀d β,R d β->R' d β)->τ β R->τ β R')
  (rM:∀a cl c s H ex,PQ (aZ X scope N' cl c s H ex) (C.u λc=>c=a) pe elt φ) (γm:∀d k β R R',(∀r,R r->R' r)->γ d k β R->γ d k β R') (φm:∀β R R',(∀d k β,R d k β->R' d k β)->φ β R->φ β R')
  (hs:∀x,X3 gk X.env x=pure x:=by intro _;rfl):PQ X C (pi&&(pc&&pe)) (.SetComp elt [⟨tg,gk,ifs,0⟩] scope pos) (yS lk ι γ τ φ):=by
 have QX:∀i∈T,∀j,lk[i]?≠some (some j):=λi hi j e=>by
  have:=X_.mp hT i hi;rw[e]at this;cases this
 refine⟨λβ R R' k h=>hi.mono β _ _ (λds kd β1 q=>⟨q.1,q.2.mono λo z=>k _ _ _ z⟩) h,?_⟩;refine(qT (g:=⟨tg,gk,ifs,0⟩) (gs:=[]) (tg:=λa v σ H Q=>∃own β d k,SQ X (C.u λc=>c=a) σ H β own/\Rp X (ju (C.u λc=>c=a) (Wn own) k) H d v/\γ d k β λβ'=>∀σ' a3,SQ X (C.u λc=>c=a) σ' H β' a3->(∀a,Wn a3 a->Wn own a)->(∀j,j∉T->σ'[j]?=σ[j]?)->Q σ' H)
  (tt:=λa=>lq X (C.u λc=>c=a) pc τ) (ta:=λa N σ H=>tQ X (C.u λc=>c=a) pe φ σ H λv H1=>∃ts t key,v=.ref t/\H1 a=some (gy X.prog X.w a ts)/\H1 t=some (.tup (key.map V.int))/\(∀x∈ts,H1 x.1=some (.tup (x.2.map V.int)))/\ts.length<1000/\∀bA,(∀x∈bA,x∈ts\/x=(t,key))->(∀x,x∈bA.map (·.2)↔x∈ts.map (·.2)\/x=key)->bA.length<=ts.length+1->(bA.map (·.2)).Nodup->N σ (upd H1 a (gy X.prog X.w a bA)))
  L hc Dw rfl rfl (λ_ _=>MD) hi.pi (λa cl c s H ex=>⟨(B8 a cl c s H ex).pg,xZ a cl c s H ex,zB (X:=aZ X scope N' cl c s H ex) rfl hu (rM a cl c s H ex).pe⟩) hs).pre λσ H Q ⟨β,own,s,h⟩=>?_
 refine⟨β,own,s,hi.mono β _ _ (λds k β1 Ia J H1 az o1 it a ha=>?_) h⟩;obtain⟨hk,q⟩:=Ia;exact uV γm τm φm (jJ L Ca) QX o1.sq ha hk it q λo H' q o2 r=>q _ _ az (o1.trans o2) (r.later o1.sn)
end
end Q
def p7 (a b c d:Int):Bool:=(decide (a<c)&&(decide (c<b)&&decide (b<d))) || (decide (c<a)&&(decide (a<d)&&decide (d<b)))
def uS:List Int->List Int->Bool
 |[a,b],[c,d]=>p7 a b c d
 |_,_=>false
def Pair (t:List Int):Prop:=∃a b,t=[a,b]
theorem MK.pair {n:Int}{t:List Int}(h:MK n t):Pair t:=let ⟨a,b,e,_⟩:=h;⟨a,b,e⟩
def lG (t u:List Int):Bool:=t.any λi=>decide (i∈u)
def Pairs (ts:List (List Int)):Prop:=∀t∈ts,Pair t
theorem Bn {ts:List (List Int)}{k:Nat}{t:List Int}(h:ts[k]?=some t):uO (.lst (ts.map kD)) (.int (k:Int))=some (kD t):=Ep (by rw[WH,h];rfl)
structure Bs2 (mg:Str->Option Wg):Prop extends Bs mg where
 xq:mg "isinstance" = none
 tuple:mg "tuple" = none
 str:mg "str" = none
 bool:mg "bool" = none
 zip:mg "zip" = none
 enumerate:mg "enumerate" = none
theorem uX:Xp "str" = some (.type "str"):=by decide +kernel
theorem sy {d:D}{n:Nat}(h:d.pd.canLay0=true/\d.pd.depth<=n)(hn:n<=64:=by decide):sA d d=some (.bl false):=pX (bO h hn) (bO h hn) (eqv_refl _ h.1)
end L2
namespace L2.Q
open PySem PySem.Spec PySem.SeqAt PyProof.Rows
structure EO (X:Cx)(C:Cfg)(p:Bool)(ifs:List Expr)(τ:bh):Prop where
 mono:∀β R R',(∀d β,R d β->R' d β)->τ β R->τ β R'
 pt:xX X ifs (lq X C p τ)
theorem dB {X:Cx}{C:Cfg}:EO X C true [] Kb:=⟨λ_ _ _ k h=>k _ _ h,y9⟩
section
variable {X:Cx}{C:Cfg}{lk:List (Option Nat)}{γ:dY}{τ:bh}{φ:aS}{T:List Nat}{pc pe pi:Bool}{scope:Zc}{N':List Str}{tg gk elt:Expr}{ifs:List Expr}{ι:fM}{pos:Pos}{y:Str}{i:Nat}
theorem TZ (hu:X.A.units+16<Za)(N':List Str)(lk:List (Option Nat))(L:lX X.env.scope.names X.N scope N' lk=true)(Ca:N'.Nodup)(hc:X.calm=true)(hi:Cf X C pi tg gk ι)
  (B8:∀U cl c s H ex,ES (aZ X scope N' cl c s H ex) (C.u U) tg T γ) (xZ:∀U cl c s H ex,EO (aZ X scope N' cl c s H ex) (C.u U) pc ifs τ) (rM:∀U cl c s H ex,PQ (aZ X scope N' cl c s H ex) (C.u U) pe elt φ)
  (hT:T.all (λi=>match lk[i]? with|some (some _)=>false|_=>true)=true:=by rfl) (hs:∀x,X3 gk X.env x=pure x:=by intro _;rfl):PQ X C (pi&&(pc&&pe)) (.SetComp elt [⟨tg,gk,ifs,0⟩] scope pos) (yS lk ι γ τ φ) :=
 KU hu (Links.of L) Ca hT hc hi (λa=>B8 _) (λa cl c s H ex=>(xZ _ cl c s H ex).pt) (xZ (λ_=>False) [] 0 X.s₀ X.H₀ []).mono (λa=>rM _) (B8 (λ_=>False) [] 0 X.s₀ X.H₀ []).mono (rM (λ_=>False) [] 0 X.s₀ X.H₀ []).mono hs
theorem dk:F0 X (yQ X uO NF):=λvalue slice pins s σ H x y v u Q I rx ry mU hs=>by
 obtain⟨W,d1,d2,d,hd,r1,r2,e,q⟩:=mU;exact HS value slice pins s σ H x y v u Q I rx ry ⟨W,d1,d2,d,hd,r1,r2,e,λv H' s r=>q v H' s r λf=>aD.flat f r⟩ hs
end
section
end
theorem xK (ns:List Int)(lo hi:Option Int):∃ms:List Int,sG (ns.map V.int) lo hi=ms.map V.int/\ms.length<=ns.length:=by
 refine⟨(ns.drop (HT.fH (ns.map V.int).length 0 lo)).take (HT.fH (ns.map V.int).length (ns.map V.int).length hi-HT.fH (ns.map V.int).length 0 lo),?_,?_⟩
 ·unfold sG;rw[List.map_take,List.map_drop]
 ·rw[WW,Yq];lia
section
variable {P:Wq}{w:WC}
theorem ck {W:Addr->Prop}{H:Hp}:∀ns:List Int,ao P w W H (ns.map D.int) (ns.map V.int)
 |[]=>rfl
 |n::ns=>⟨_,_,rfl,rfl,ck ns⟩
theorem Cu {N:List Str}{vs:List V}{H H':Hp}{n:Nat}{ro:Bool}{U:Addr->Prop}(hl:(L2.start N vs).length=n)(sm:ay H H'):b6 P w ⟨H,λ_=>False,ro,U⟩ (L2.start N vs) H' (Xb n none) (λ_=>[]) :=
 ⟨by rw[hl,List.length_replicate],λi y d h=>(fX h).elim,λi d h=>(fX h).elim,λi ok h=>(fX h).elim,λi a h=>(nomatch h),λi j a h=>(nomatch h),λi=>Xx,sm.kp,λa z e=>z (sm.free e),λi y d h=>(fX h).elim⟩
theorem Kw {ro:Bool}{H H':Hp}{b:Bool}{v:V}(h:tf P w ro H H' (.bl b) v):v=.bl b:=by
 cases ro with
 |true=>obtain⟨A,h1,_⟩:=h;exact h1.1
 |false=>exact h
end
end L2.Q
namespace L2
open PySem PySem.Spec PySem.SeqAt PyProof.Rows
abbrev mQ (n:Int)(rows:List (List Int)):D:=.tup [.int n,.lst (rows.map kD)]
theorem nz (n:Int)(rows:List (List Int)):(mQ n rows).pd.canLay0=true/\(mQ n rows).pd.depth<=4:=ny λd hd=>by
 rcases Ws.mp hd with rfl|hd
 ·exact⟨(bL n).1,W8 (bL n).2 (by decide)⟩
 ·rw[Wx.mp hd];exact ij rows
theorem Pairs.ne {ts:List (List Int)}(h:Pairs ts):∀k∈ts,k≠[]:=λk hk=>by
 obtain⟨a,b,rfl⟩:=h k hk;intro z;cases z
def D.int?:D->Option Int
 |.int i=>some i
 |_=>none
def D.xk:D->Option (List D)
 |.lst ds=>some ds
 |_=>none
theorem D.vR {d:D}{i:Int}(h:d.int?=some i):d=.int i:=by
 cases d <;> first|(cases h;rfl)|cases h
theorem D.pJ {d:D}{ds:List D}(h:d.xk=some ds):d=.lst ds:=by
 cases d <;> first|(cases h;rfl)|cases h
section
end
end L2
namespace L2.Q
open PySem PySem.Spec PySem.SeqAt PyProof.Rows
section
end
structure SC (X:Cx)(C:Cfg)(W0:Addr->Prop)(T:List Nat)(σ0:St)(H1:Hp)(a:Addr)(Hb:Hp)(Wb:Addr->Prop)(Ac:Hp->Prop)(β:a_)(σ':St)(H':Hp)(own:Nat->List Addr):Prop where
 sq:SQ X (C.u λc=>c=a) σ' H' β own
 sn:Sn (H1,W0) H' (Wn own)
 le:∀c,Wn own c->Wb c
 ac:Ac H'
 pu:ay H1 H'
 bs:∀b ob,b≠a->Hb b=some ob->H' b=some ob
 st:∀j,j∉T->σ'[j]?=σ0[j]?
abbrev BS {α:Type}(X:Cx)(C:Cfg)(W0:Addr->Prop)(T:List Nat)(σ0:St)(H1:Hp)(a:Addr)(Hb:Hp)(Wb:Addr->Prop)(Ac:α->Hp->Prop)(β:a_)(o:α)(σ':St)(H':Hp):Prop:=∃own,SC X C W0 T σ0 H1 a Hb Wb (Ac o) β σ' H' own
structure EU {α:Type}(a:Addr)(Ac:α->Hp->Prop):Prop where
 same:∀o H H',ay H H'->Ac o H->Ac o H'
 Sf:∀o H xs,Ac o H->H a≠some (.tup xs)
abbrev J_ (X:Cx)(C:Cfg)(a:Addr)(T:List Nat)(γ:dY):TG:=λv σ H Q=>∃own β d k,SQ X (C.u λc=>c=a) σ H β own/\Rp X (ju (C.u λc=>c=a) (Wn own) k) H d v/\γ d k β λβ'=>∀σ' a3,SQ X (C.u λc=>c=a) σ' H β' a3->(∀a,Wn a3 a->Wn own a)->(∀j,j∉T->σ'[j]?=σ[j]?)->Q σ' H
abbrev MV (X:Cx)(C:Cfg)(a:Addr)(φ:aS):m_:=λN σ H=>tQ X (C.u λc=>c=a) true φ σ H λv H1=>∃xs,H1 a=some (.lst xs)/\xs.length<WA/\N σ (upd H1 a (.lst (xs++[v])))
section
variable {α:Type}{X:Cx}{C:Cfg}{W0:Addr->Prop}{T Tg:List Nat}{σ0:St}{H1:Hp}{a:Addr}{Hb:Hp}{Wb:Addr->Prop}{γ:dY}{τ:bh}{φ:aS}{Ac:α->Hp->Prop}
theorem SC.next {o:α}(hA:EU a Ac){β β':a_}{σ σ':St}{H H':Hp}{own a3:Nat->List Addr}(s:SC X C W0 T σ0 H1 a Hb Wb (Ac o) β σ H own)(sq:SQ X (C.u λc=>c=a) σ' H' β' a3)(w:∀c,Wn a3 c->Wn own c)(sm:ay H H')(t:∀j,j∉T->σ'[j]?=σ[j]?):
  SC X C W0 T σ0 H1 a Hb Wb (Ac o) β' σ' H' a3 :=
 ⟨sq,iS (s.sn.same sm) w,λc z=>s.le c (w c z),hA.same o _ _ sm s.ac,s.pu.trans sm,λb ob n e=>sm _ _ (s.bs b ob n e),λj hj=>(t j hj).trans (s.st j hj)⟩
theorem SC.put {A:Hp->Prop}{A':Hp->Prop}(h0:C.H0 a=none)(ha:H1 a=none){β:a_}{σ:St}{H:Hp}{own:Nat->List Addr}{oa ob:HO}(s:SC X C W0 T σ0 H1 a Hb Wb A β σ H own)(e:H a=some oa)(nt:∀xs,oa≠.tup xs)(q:A' (upd H a ob)):
  SC X C W0 T σ0 H1 a Hb Wb A' β σ (upd H a ob) own:=by
 refine⟨s.sq.Gz e nt h0,⟨s.sn.w,s.sn.k.trans ((lY e nt).mono λb z=>.inr (by rw[z];exact ha)),λb z e=>?_⟩,s.le,q,λb o e=>?_,λb o n e=>?_,s.st⟩
 ·by_cases hb:b=a
  ·rw[hb,aE]at e;cases e
  ·rw[aC hb]at e;exact s.sn.d b z e
 ·rw[aC (λz'=>by rw[z',ha]at e;cases e)]
  exact s.pu b o e
 ·rw[aC n];exact s.bs b o n e
def NH (P:Wq)(w:WC)(H1:Hp)(a:Addr)(o:List D)(H:Hp):Prop:=∃vs A,H a=some (.lst vs)/\a8 P w H o vs A/\A.Nodup/\∀c∈A,H1 c=none/\c≠a
theorem BP {P:Wq}{w:WC}:EU a (NH P w H1 a):=⟨λo H H' s h=>by
  obtain⟨vs,A,h1,h2,h3,h4⟩:=h;exact⟨vs,A,s _ _ h1,h2.keep (λb xs e=>s _ _ e) λc _ oc e=>s _ _ e,h3,h4⟩,λo H xs h z=>by
  obtain⟨vs,A,h1,_⟩:=h;rw[h1]at z;cases z⟩
def Mf (φ:aS)(o:List D)(β:a_)(N:a_->List D->Prop):Prop:=φ β λx kx β3=>Fo kx x/\o.length<WA/\N β3 (o++[x])
theorem CJ (h0:C.H0 a=none)(ha:H1 a=none)(φm:∀β R R',(∀d k β,R d k β->R' d k β)->φ β R->φ β R'){β:a_}{o:List D}{σ:St}{H:Hp}{N:a_->List D->Prop}(s:BS X C W0 T σ0 H1 a Hb Wb (NH X.prog X.w H1 a) β o σ H)(q:Mf φ o β N):
  MV X C a φ (λσ' H'=>∃β' o',BS X C W0 T σ0 H1 a Hb Wb (NH X.prog X.w H1 a) β' o' σ' H'/\N β' o') σ H:=by
 obtain⟨own,s⟩:=s;refine⟨β,own,s.sq,φm _ _ _ (λxd kx β6 mT v H6 G4 o6 r6=>?_) q⟩;obtain⟨f,hz,q⟩:=mT;obtain⟨sm,rfl⟩:=o6.pu rfl;have s6:=s.next BP (o6.sq) (λ_ z=>z) sm (λ_ _=>rfl)
 obtain⟨B',r1,r2,r3⟩:=r6.fl f;obtain⟨vs,A,at',os,nd,nw⟩:=s.ac;have rO:H6 a=some (.lst vs):=sm _ _ at';have Si:∀c∈B',c≠a:=λc hc z=>by rw[z]at hc;exact absurd (at'.symm.trans (r3 a hc).1) (λz=>(nomatch z))
 have kt:∀b xs,H6 b=some (.tup xs)->upd H6 a (.lst (vs++[v])) b=some (.tup xs):=λb xs z=>by rw[aC (λz'=>by rw[z',rO]at z;cases z)];exact z
 refine⟨vs,rO,by rw[os.length];exact hz,β6,o++[xd],⟨G4,s6.put h0 ha rO (λxs z=>by cases z) ⟨vs++[v],A++B',aE,?_,?_,λc hc=>?_⟩⟩,q⟩
 ·exact(os.keep (λb xs e=>kt b xs (sm _ _ e)) λc hc oc e=>by rw[aC (nw c hc).2];exact sm _ _ e).append (a8.one (r1.keep kt λc hc oc e=>by rw[aC (Si c hc)];exact e))
 ·refine XG.mpr ⟨nd,r2,λx hx y hy e=>?_⟩;subst e;exact(os.mZ x hx).1 (r3 x hy).1
 ·rcases WO.mp hc with hc|hc
  ·exact nw c hc
  ·exact⟨s.sn.free (r3 c hc).1,Si c hc⟩
def Fi {α:Type}(γ:dY)(τ:bh)(Af:α->a_->(a_->α->Prop)->Prop)(ds:List D)(k:Kd)(β0:a_)(o0:α)(F:a_->α->Prop):Prop:=∃I:Nat->a_->α->Prop,I 0 β0 o0 /\
 (∀i d β o,ds[i]?=some d->I i β o->γ d (sk k d) β λβ1=>τ β1 λt β2=>if t=true then Af o β2 (I (i+1)) else I (i+1) β2 o)/\∀β o,I ds.length β o->F β o
theorem CI (hA:EU a Ac)(hT:∀j∈Tg,j∈T)(γm:∀d k β R R',(∀r,R r->R' r)->γ d k β R->γ d k β R')(τm:∀β R R',(∀d β,R d β->R' d β)->τ β R->τ β R'){J:It}{ds:List D}{k:Kd}{Af:α->a_->(a_->α->Prop)->Prop}{ta:m_}{F:a_->α->Prop}{End:St->Hp->Prop}{β0:a_}{o0:α}{σ1:St}{Hs:Hp}
  (it:∀i β o σ' H',BS X C W0 T σ0 H1 a Hb Wb Ac β o σ' H'->(∀d,ds[i]?=some d->J.go i H'/\∀x H3,J.J6 i H' x H3->ay H' H3/\∀own,(∀c,Wn own c->Wb c)->aD X.prog X.w (ju (C.u λc=>c=a) (Wn own) k) H3 d x)/\(ds.length<=i->J.stop i H'))
  (PV:∀β o σ' H' N,BS X C W0 T σ0 H1 a Hb Wb Ac β o σ' H'->Af o β N->ta (λF1 BV=>∃β' o',BS X C W0 T σ0 H1 a Hb Wb Ac β' o' F1 BV/\N β' o') σ' H')
  (s0:BS X C W0 T σ0 H1 a Hb Wb Ac β0 o0 σ1 Hs) (q:Fi γ τ Af ds k β0 o0 F) (fin:∀β o σ' H',BS X C W0 T σ0 H1 a Hb Wb Ac β o σ' H'->F β o->End σ' H') :
  g6 J (J_ X C a Tg γ) (lq X (C.u λc=>c=a) true τ) ta End σ1 Hs:=by
 obtain⟨I,i0,i1,i2⟩:=q;refine⟨λi m σ' H'=>i<=ds.length/\m=ds.length-i/\∃β o,BS X C W0 T σ0 H1 a Hb Wb Ac β o σ' H'/\I i β o,⟨_,WJ _,rfl,β0,o0,s0,i0⟩,?_⟩;rintro i m σ2 H2 ⟨hi,rfl,β,o,sE,hl⟩;obtain⟨gk,HX⟩:=it i β o σ2 H2 sE
 by_cases gT:i<ds.length
 ·right
  have hd:ds[i]?=some ds[i]:=Wv gT;obtain⟨go,yl⟩:=gk _ hd;refine⟨go,λσ' H'=>∃β' o',BS X C W0 T σ0 H1 a Hb Wb Ac β' o' σ' H'/\I (i+1) β' o',λσ' H' h=>⟨_,by omega,gT,rfl,h⟩,λx H3 y=>?_⟩
  obtain⟨s3,r3⟩:=yl x H3 y;obtain⟨own,s⟩:=sE;refine⟨own,β,_,_,s.sq.same s3,oV (r3 own s.le),γm _ _ _ _ _ (λβ4 q σ4 qY s4 w4 t4=>?_) (i1 i _ β o hd hl)⟩;have T1:=s.next hA s4 w4 s3 λj hj=>t4 j λz=>hj (hT j z)
  refine⟨β4,qY,s4,τm _ _ _ (λt β5 q H5 pq o5=>?_) q⟩;obtain⟨MY,rfl⟩:=o5.pu rfl;have RW:=T1.next hA o5.sq (λ_ z=>z) MY λ_ _=>rfl
  cases t with
  |false=>exact⟨β5,o,⟨_,RW⟩,q⟩
  |true=>exact PV β5 o σ4 H5 _ ⟨_,RW⟩ q
 ·left
  have e:i=ds.length:=by omega
  subst e;exact⟨HX (Wl _),fin β o σ2 H2 sE (i2 β o hl)⟩
theorem yL {lk:List (Option Nat)}{σ:St}{β:a_}{own:Nat->List Addr}{oa:HO}(hA:EU a Ac){Af:α->a_->(a_->α->Prop)->Prop}{ta:m_}{J:It}{ds:List D}{k:Kd}{o0:α}{K:α->Prop}{End:Hp->Prop}
  (γm:∀d k β R R',(∀r,R r->R' r)->γ d k β R->γ d k β R') (τm:∀β R R',(∀d β,R d β->R' d β)->τ β R->τ β R') (Vc:∀j∈Tg,j∈T)
  (inj:∀(i i' j:Nat),lk[i]?=some (some j)->lk[i']?=some (some j)->i=i') (hT:∀i∈T,∀j,lk[i]?≠some (some j))
  (s1:SQ X C σ H1 β own) (ha:H1 a=none) (it:Cg X (av C (Wn own) k) J ds H1) (a0:Ac o0 (upd H1 a oa)) (ent:SQ X (C.u λc=>c=a) (dq lk σ) (upd H1 a oa) (c_ lk β) (bt lk β own))
  (PV:∀Hb Wb β' o σ' H' N,C.H0 a=none->BS X C (Wn (bt lk β own)) T (dq lk σ) H1 a Hb Wb Ac β' o σ' H'->Af o β' N->ta (λF1 BV=>∃β' o',BS X C (Wn (bt lk β own)) T (dq lk σ) H1 a Hb Wb Ac β' o' F1 BV/\N β' o') σ' H')
  (q:Fi γ τ Af ds k (c_ lk β) o0 λβf o=>fK (c_ lk β) βf/\K o)
  (fin:∀o H',K o->Out X C σ H1 own true β H' own->Ac o H'->End H') :
  g6 J (J_ X C a Tg γ) (lq X (C.u λc=>c=a) true τ) ta (λ_ H'=>End H') (dq lk σ) (upd H1 a oa):=by
 have h0:C.H0 a=none:=Xs λz=>s1.iG a z ha;have sm:ay H1 (upd H1 a oa):=ay.new ha;refine CI (W0:=Wn (bt lk β own)) (T:=T) (σ0:=dq lk σ) (H1:=H1) (Hb:=H1) (Wb:=Wn (bt lk β own)) hA Vc γm τm (λi βx ox σx Hx sx=>?_) (λβx ox σx Hx Nx sx qx=>PV _ _ _ _ _ _ _ h0 sx qx)
  ⟨bt lk β own,⟨ent,⟨λb z=>.inl z,sm.kp,λb z e=>z (sm.free e)⟩,λ_ z=>z,a0,sm,λb ob n e=>sm _ _ e,λ_ _=>rfl⟩⟩ q λβx ox σx Hx sx hx=>?_
 ·obtain⟨Oz,sx⟩:=sx;have kI:Kp (λb=>av C (Wn own) k b\/H1 b=none) H1 Hx:=sx.pu.kp;obtain⟨g1,g2⟩:=it (λb=>av C (Wn own) k b\/H1 b=none) (λb z=>z) i Hx kI;refine⟨λd hd=>?_,g2⟩;obtain⟨go,yl⟩:=g1 d hd;refine⟨go,λx H3 y=>?_⟩;obtain⟨s3,r3⟩:=yl x H3 y;exact⟨s3,λa3 Up=>aD.a7 (λc z=>z.elim (λz=>.inl (k6 (λc z=>bI c (Up c z)) k c z)) λz=>.inr (by rw[z];exact ha)) r3⟩
 ·obtain⟨Oz,sx⟩:=sx;obtain⟨hh,hK⟩:=hx;have lv:SQ X C σ Hx β own:=s1.leave sx.sq sx.sn sx.le hh λj ok i' e1 e2=>sx.st i' λz=>hT i' z j e2;exact fin ox Hx hK ⟨lv,⟨λb z=>.inl z,sx.sn.k.mono λb z=>z.imp (bI b) id,sx.sn.d⟩,λz=>⟨sx.pu,rfl⟩,λ_ z=>z⟩ sx.ac
end
theorem Jx {X:Cx}{C:Cfg}{σ:St}{H1 H':Hp}{β:a_}{own:Nat->List Addr}{a:Addr}{o:List D}(s1:SQ X C σ H1 β own)(ha:H1 a=none)(h:NH X.prog X.w H1 a o H'):KV X.prog X.w C (H1,Wn own) own H' .own (.lst o) (.ref a):=by
 obtain⟨vs,A,at',os,nd,nw⟩:=h;refine⟨a::A,⟨a,vs,A,rfl,at',rfl,os⟩,Xe.mpr ⟨λz=>(nw a z).2 rfl,nd⟩,λc hc=>?_⟩;have rN:H1 c=none:=by
  rcases Ws.mp hc with rfl|hc
  ·exact ha
  ·exact(nw c hc).1
 exact⟨rN,λh=>by obtain⟨j,hj⟩:=h;exact(s1.dm j c hj).1 rN,Xs λz=>s1.iG c z rN⟩
section
end
section
variable {X:Cx}{C:Cfg}{a:Expr}{φ:aS}{p:Bool}
def Om (φ:aS):bh:=λβ R=>φ β λd _ β'=>∃ds,d=.lst ds/\R (!ds.isEmpty) β'
theorem vt (ha:PQ X C p a φ)(he:∀whole,isTrue a X.env whole=(do let v <- whole;standAt a.pos;holding [v] (truthy v)):=by intro _;rfl):tG X C p a (Om φ) :=
 ⟨λβ R R' k h=>ha.mono β _ _ (λd kd β' h=>by obtain⟨b,e,q⟩:=h;exact⟨b,e,k _ _ q⟩) h,(yV ha.pe he).pre λσ H Q h=>by
  obtain⟨β,own,s,h⟩:=h;refine tQ.of ha s h λd k β' v H1 az h o1 r1=>?_;obtain⟨ds,e,q⟩:=h;subst e;obtain⟨c,vs,rfl,h1,n1,rs⟩:=r1.rep;refine⟨!ds.isEmpty,.inl ⟨vs,eC.of h1,?_⟩,q H1 az o1⟩;have:=rs.length;cases ds <;> cases vs <;> first|rfl|cases this⟩
end
section
variable {X:Cx}{C:Cfg}{p:Bool}{e:Expr}{φ:aS}{i:Nat}{x:Str}{px tp pos:Pos}
theorem vD {j}(he:PQ X C.z p e φ)(hn:Nm X i x:=by exact JJ)
  (M9:WD [e,.Name x px] X.env=(false,eval e X.env)::WD [.Name x px] X.env:=by rfl) (JR:WD [.Name x px] X.env=(false,eval (.Name x px) X.env)::WD [] X.env:=by rfl) :
  PB X C (.Return (some (.Tuple [e,.Name x px] j tp)) pos) (λE β=>φ β λd0 _ β1=>d0.flat=true/\∃d,β1[i]?=some (some (.own d))/\E.rt (.tup [d0,d]) β1) :=
 ⟨λE E' β l q=>he.mono _ _ _ (λd0 k β1 h=>by obtain⟨f,d,h1,q⟩:=h;exact⟨f,d,h1,l.rt _ _ q⟩) q,(t9 (zk (dj he.pe (dj (nE (pos:=px) hn) il JR) M9))).pre λD σ H hq=>by
  obtain⟨Z,E,β,⟨own,s,n⟩,q,ok⟩:=hq;refine tQ.of he s q λd0 k β1 v0 H1 az h o1 r1=>?_;obtain⟨f,d,hb,q⟩:=h;obtain⟨v,e1,r,h0⟩:=o1.sq.ow i d hb;refine⟨v,e1,(by show 2<=WA;decide),λp hp=>ok.rt _ _ _ _ _ ((o1.same (ay.new hp)).sb n) ?_ q⟩
  have sm:ay H1 (upd H1 p (.tup [v0,v])):=ay.new hp;have r':Own X.prog X.w (upd H1 p (.tup [v0,v])) d v (az i):=r.keep (λb xs e=>sm _ _ e) (λc _ o e=>sm c o e);have oo:Own X.prog X.w (upd H1 p (.tup [v0,v])) (.tup [d0,d]) (.ref p) (az i):=⟨p,_,rfl,aE,v0,[v],[],az i,rfl,rfl,dJ f (aD.same sm r1.rep),v,[],az i,[],rfl,by simp,r',rfl,rfl⟩
  cases hr:C.ro with
  |true=>exact⟨_,oo,o1.sq.qg i,h0⟩
  |false=>exact oo.rep λc hc z=>z (h0 c hc)⟩
end
end L2.Q
namespace L2
open PySem PySem.Spec PySem.SeqAt PyProof.Rows
section
variable {X:Cx}{a:Expr}{t:TA}{p2:Pos}
def bb (c:Nat):Str:=⟨#[c]⟩
def aG (cs:List Nat):Str:=⟨cs.toArray⟩
theorem vU:∀(cs:List Nat) (acc:Array Nat),(cs.map bb).foldl (λacc p=>acc++(#[]:Array Nat)++p.cps) acc=acc++cs.toArray
 |[],acc=>by simp
 |c::cs,acc=>by
  rw[W3,Yk,vU cs];simp[bb]
theorem AH (cs:List Nat):ZU ⟨#[]⟩ (cs.map bb)=aG cs:=by
 unfold ZU aG;cases cs with
 |nil=>rfl
 |cons c cs =>
  show (⟨((cs.map bb).foldl (λacc p=>acc++(#[]:Array Nat)++p.cps) (bb c).cps)⟩:Str)=_;rw[vU];simp[bb]
theorem jz:∀{xs:List Str} {us:List Wg},Vals (xs.map V.str) us->∃l:List (Str×Tok),us=strValues l/\l.map (·.1)=xs
 |[],_,h=>by cases h;exact⟨[],rfl,rfl⟩
 |x::xs,_,h=>by
  cases h with
  |cons h1 h2 =>
   obtain⟨t,rfl⟩:=h1;obtain⟨l,rfl,rfl⟩:=jz h2;exact⟨(x,t)::l,rfl,rfl⟩
theorem vN:∀(xs:List Str) (n:Nat),(∀x∈xs,x.length=1)->xs.foldl (λa x=>a+x.length+(⟨#[]⟩:Str).length) n=n+xs.length
 |[],_,_=>rfl
 |x::xs,n,h=>by
  rw[Yk,vN xs _ λy hy=>h y (Wm _ hy),h x Wo,Wz];show n+1+0+xs.length=_;lia
theorem DC:Nv X "str.join" (λx xs H Q=>∃a cs,x=.str ⟨#[]⟩/\xs=[.ref a]/\eC X.K H a (cs.map λc=>V.str (bb c))/\cs.length<=1000/\Q (.str (aG cs)) H):=by
 intro pins s σ H x xs v us Q I rx rs h;obtain⟨a,cs,rfl,rfl,hl,hc,q⟩:=h;obtain⟨t,rfl⟩:=rx;obtain⟨u,rfl,ru⟩:=vals1 rs;cases ru;obtain⟨its,r,ht,hz⟩:=I.list hl;rw[show (cs.map λc=>V.str (bb c))=(cs.map bb).map V.str by rw[W6];rfl]at r
 obtain⟨l,rfl,el⟩:=jz r;have hlen:l.length=cs.length:=by have:=congrArg ZS el;rwa [Wj,Wj]at this
 have Iv:Builtin.Str.tooLong ((l.map (·.1)).toArray.foldl (·+·.length+(⟨#[]⟩:Str).length) 0)=false:=by
  rw[el,List.foldl_toArray,vN _ _ (λx hx=>by obtain⟨c,_,rfl⟩:=WX.mp hx;rfl),Wj]
  exact decide_eq_false (by rw[WY];lia)
 refine YD PySem.F.slot_str_join (Zl _ _ _) PySem.F.entry_str_join (PySem.F.args_str_join_2 _ _) (meets_str_join_list ⟨#[]⟩ t a l Iv) ⟨ht.isList,?_⟩;have eg:ZU ⟨#[]⟩ (l.map (·.1))=aG cs:=by rw[el];exact AH cs
 have uz:(aG cs).length<=WA:=by
  show cs.toArray.size<=_;rw[WG,WY];lia
 have fin:∀tk,EP X pins σ Q (.str (aG cs) tk) {s with toks:=s.toks+1}:=λtk=>⟨.str (aG cs),H,I.tok _,⟨tk,rfl⟩,q⟩
 cases l with
 |nil =>
  refine⟨by rw[eg];exact uz,?_⟩
  rw[eg];exact fin _
 |cons p l =>
  cases l with
  |nil =>
   have e1:p.1=aG cs:=by
    cases cs with
    |nil=>cases el
    |cons c cs =>
     cases cs with
     |nil=>exact(ZY el).1
     |cons _ _=>cases (ZY el).2
   show EP X pins σ Q (.str p.1 p.2) s;rw[e1];exact⟨.str (aG cs),H,I,⟨_,rfl⟩,q⟩
  |cons p2 l =>
   refine⟨by rw[eg];exact uz,?_⟩
   rw[eg];exact fin _
end
end L2
namespace L2.Q
open PySem PySem.Spec PySem.SeqAt PyProof.Rows
theorem MC:("(" : Str)=bb 40:=by decide +kernel
theorem MB:(")" : Str)=bb 41:=by decide +kernel
theorem Mz:("." : Str)=bb 46:=by decide +kernel
theorem NP:("" : Str)=aG []:=by decide +kernel
theorem NO:("" : Str)=⟨#[]⟩:=by decide +kernel
theorem HG {P:Wq}{w:WC}{C:Cfg}{Z:Hp×(Addr->Prop)}{own:Nat->List Addr}{H:Hp}{x:Str}:KV P w C Z own H .own (.str x) (.str x):=⟨[],⟨rfl,rfl⟩,Xx,λc hc=>(nomatch hc)⟩
theorem nC {P:Wq}{w:WC}{W:Addr->Prop}{H:Hp}{f:Nat->Str}:∀{cs:List Nat} {vs:List V},ao P w W H (cs.map λc=>D.str (f c)) vs->vs=cs.map λc=>V.str (f c)
 |[],_,h=>h
 |c::cs,_,l_=>by obtain⟨v,r,e,h1,h2⟩:=l_;rw[e,nC h2,show v=V.str (f c) from h1];rfl
section
variable {X:Cx}{C:Cfg}{e:Expr}{φ:aS}{p:Bool}{apos cpos p1:Pos}{j:Nat}
def KO (φ:aS):aS:=λβ R=>φ β λd _ β1=>∃cs,d=.lst (cs.map λc=>D.str (bb c))/\cs.length<=1000/\R (.str (aG cs)) .own β1
theorem CS (he:PQ X C p e φ) (eY:Y2 (.Constant (.str "") j p1) "join" X.env (eval (.Constant (.str "") j p1) X.env)=eval (.Constant (.str "") j p1) X.env:=by rfl)
  (pN:((Yd cpos (WD [e] X.env)).all (λx=>!x.1)&&(backToKw cpos (keywordEach [] X.env)).all (λx=>x.1.isSome)&&decide ([e].length+([]:List ZT).length+(if ([]:List ZT).isEmpty then 0 else 1)<30))=true:=by rfl)
  (eX:(apos.endLine==cpos.line)=true:=by rfl) (hs:WD [e] X.env=(false,eval e X.env)::WD [] X.env:=by rfl) (hpl:(Yd cpos (WD [] X.env)).any (·.1)=false:=by rfl) :
  PQ X C p (.Call (.Attribute (.Constant (.str "") j p1) "join" apos) [e] [] cpos) (KO φ) :=
 ⟨λβ R R' k h=>he.mono β _ _ (λd kd β1 h=>by obtain⟨cs,h1,h2,q⟩:=h;exact⟨cs,h1,h2,k _ _ _ q⟩) h,
  (vC (apos:=apos) (cpos:=cpos) PySem.F.plainAttrs_str PySem.F.slot_str_join PySem.F.type_str_join DC zm (dj he.pe il hs) eY pN eX hs hpl).pre λσ H Q mU=>by
  obtain⟨β,own,s,h⟩:=mU;exact⟨rfl,tQ.of he s h λd k β1 v H1 az hq o1 r1=>by
   obtain⟨cs,rfl,hc,q⟩:=hq;obtain⟨b,us,rfl,S5,_,rb⟩:=r1.rep;rw[nC rb]at S5;exact⟨b,cs,by rw[NO],rfl,eC.of S5,hc,q _ _ az o1 HG⟩⟩⟩
end
def D.iP:D->Option Str
 |.str x=>some x
 |_=>none
theorem D.bR {d:D}{x:Str}(h:D.iP d=some x):d=.str x:=by
 cases d <;> first|(cases h;rfl)|cases h
def Bt (a b:D):Option D:=(D.iP a).bind λx=>(D.iP b).bind λy=>if x.length+y.length<=1000000 then some (.str (x++y)) else none
theorem sD {a b:List Nat}(h:a.length+b.length<=1000000):Bt (.str (aG a)) (.str (aG b))=some (.str (aG (a++b))):=by
 show (if (aG a).length+(aG b).length<=1000000 then some (D.str (aG a++aG b)) else none)=_
 rw[if_pos (show (aG a).length+(aG b).length<=1000000 from h)]
 have:aG a++aG b=aG (a++b):=by
  show (⟨a.toArray++b.toArray⟩:Str)=⟨(a++b).toArray⟩;rw[List.append_toArray]
 rw[this]
section
variable {X:Cx}
theorem gh:bf X (XZ .Add) Bt:=by
 intro pins s σ H x y v u Q I rx ry h;obtain⟨W,d1,d2,d,hd,r1,r2,e,q⟩:=h;obtain⟨a,h1,e⟩:=WL.mp e;obtain⟨b,h2,e⟩:=WL.mp e;rw[D.bR h1]at r1;rw[D.bR h2]at r2;cases (show x=.str a from r1)
 cases (show y=.str b from r2)
 obtain⟨t,rfl⟩:=rx;obtain⟨t2,rfl⟩:=ry
 by_cases hl:a.length+b.length<=1000000
 ·rw[if_pos hl]at e;cases e;exact PyProof.Rows.add_str (λt' tk=>⟨.str (a++b),H,I.tok _,⟨t',rfl⟩,q _ _ (ay.refl _) rfl⟩) (by rw[WY];lia)
 ·rw[if_neg hl]at e;cases e
end
end L2.Q
namespace L2
open PySem PySem.Spec PySem.SeqAt PyProof.Rows
def nR (x:Str):Prop:=x.cps.all (·<128)=true
theorem BH {x:Str} (h:nR x):strIterType x="str_ascii_iterator" := by unfold strIterType;exact if_pos h
def MS (x:Str):It:=⟨λi H=>i<x.cps.size,λi H v H'=>∃T c,H T=none/\v=.ref T/\x.cps[i]?=some c/\H'=upd H T (.tup [.int i,.str ⟨#[c]⟩]),λi H=>x.cps.size<=i⟩
def Rz (x:Str):It:=⟨λi H=>i<x.cps.size,λi H v H'=>H'=H/\∃c,x.cps[i]?=some c/\v=.str ⟨#[c]⟩,λi H=>x.cps.size<=i⟩
theorem yt {P:Wq}{w:WC}{K:PySem.W.Frag}{tg:Expr}{it:Addr}{x:Str}{t:Tok}:
  Turn P w K tg (Rz x) [it] it (λi h=>h.IsStrIter it "str_ascii_iterator" x t i) where
 mem:=by simp
 obj:=λi h st b hb=>by
  have e:b=it:=by simpa using hb
  subst e;obtain⟨o,e,c,d⟩:=st;exact⟨o,e,λv z=>by rw[d]at z;cases z⟩
 keep:=λi h h' st k=>let ⟨o,ho,r⟩:=st;⟨o,k it (by simp) o ho,r⟩
 item:=by
  intro X hP hw hK hc i pins s σ H E I hf st hg;subst hP hw hK;obtain⟨f0,f1,f2,f3,f4,f5⟩:=hf it (by simp)
  have hg:i<x.cps.size:=hg;refine wpAny_pyNext_ascii_item st (c:=x.cps[i]) (by simp[hg]) λh' aF sb=>?_
  have I1:Inv X pins σ H {s with heap:=h',toks:=s.toks+1}:=I.turned (t':=s.toks+1) (λb o hb e=>(sb.2 b hb).trans e) f0 f1 f3 f4 f5
  obtain⟨o,e,c,dd⟩:=id aF;exact⟨_,rfl,AG (s:={s with heap:=h',toks:=s.toks+1}) e c dd (by decide) ⟨.str ⟨#[x.cps[i]]⟩,H,I1,⟨_,rfl⟩,⟨rfl,_,by simp[hg],rfl⟩,aF,λb hb=>(hf b hb).1⟩⟩
 done:=by
  intro X hP hw hK hc i pins s σ H E I hf st hg;subst hP hw hK;obtain⟨f0,f1,f2,f3,f4,f5⟩:=hf it (by simp)
  have hg:x.cps.size<=i:=hg;exact wpAny_pyNext_ascii_end (I.ok.hd hc) st (by simp[hg]) λh' eb=>⟨rfl,I.turned (t':=s.toks) (λb o hb e=>eb b o hb e) f0 f1 f3 f4 f5⟩
 self:=λ_ _ _ _ _ st h=>wpAny_pyIter_striter_ascii st h
theorem tO {P:Wq}{w:WC}{K:PySem.W.Frag}{elts:List Expr}{kk:Nat}{pos:Pos}{e it:Addr}{x:Str}{t:Tok}(ne:e≠it):
  Turn P w K (.Tuple elts kk pos) (MS x) [e,it] e (λk h=>k<=x.cps.size/\(∃old,IsEnum h e it (k:Int) old)/\h.IsStrIter it "str_ascii_iterator" x t k) where
 mem:=by simp
 obj:=λk h mW c hc=>by
  obtain⟨_,⟨old,h1⟩,h2⟩:=mW;simp only[Ws,X9,or_false]at hc;rcases hc with rfl|rfl
  ·exact⟨_,h1,λv z=>by cases (show Data.fields _=Data.cell v from z)⟩
  ·obtain⟨o,a,_,d⟩:=h2;exact⟨o,a,λv z=>by rw[d]at z;cases z⟩
 keep:=λk h h' mU kp=>by obtain⟨le,⟨old,h1⟩,h2⟩:=mU;exact⟨le,⟨old,kp e (by simp) _ h1⟩,let ⟨o,ho,r⟩:=h2;⟨o,kp it (by simp) o ho,r⟩⟩
 item:=by
  intro X hP hw hK hc i pins s σ H E I hf st hg;subst hP hw hK;obtain⟨le,⟨old,g1⟩,g2⟩:=st;have hg:i<x.cps.size:=hg;refine wpAny_pyNext_enum_itemD (Draws.strAscii (A:=X.A.in1) (I.ok.hd hc) it x t) g1 g2 hg ne (by simpa using ne) λy h' tk hP y1 y2 y3 y4 y5=>?_
  obtain⟨c,u,U8,rfl⟩:=hP;have I1:=(I.Cs (fp:=[e,it]) (x:=.int i) (u:=.int i tk) (y:=.str ⟨#[c]⟩) (v:=.str ⟨#[c]⟩ u) hf (λc o DZ q=>y5 c o (λz=>DZ (by simp[z])) (λz=>DZ (by simp[z])) q) ⟨_,rfl⟩ ⟨_,rfl⟩ y3).tok (tk+1)
  have nT:∀b∈[e,it],upd H s.heap.objs.size (.tup [.int i,.str ⟨#[c]⟩]) b=none:=λb hb=>by
   have:b≠s.heap.objs.size:=by
    simp only[Ws,X9,or_false]at hb;rcases hb with rfl|rfl
    ·exact WZ (WB g1)
    ·obtain⟨o,a,_⟩:=g2;exact WZ (WB a)
   rw[aC this];exact(hf b hb).1
  refine⟨_,rfl,wpAny_letOwnedTupleGo_enum y1 λh'' z' sb=>?_⟩;have I2:Inv X pins σ (upd H s.heap.objs.size (.tup [.int i,.str ⟨#[c]⟩])) {s with heap:=h'',toks:=tk+1}:=by
   refine I1.vb (fp:=[e]) (λb hb=>?_) λc o DZ q=>sb.extBut _ _ (by simpa using DZ) q
   have q:b=e:=by simpa using hb
   subst q;exact⟨nT b (by simp),(hf b (by simp)).2⟩
  exact⟨.ref s.heap.objs.size,_,I2,rfl,⟨s.heap.objs.size,c,I.bq.fresh (Wl _),rfl,U8,rfl⟩,⟨hg,⟨_,z'⟩,y2.extBut sb.extBut (Zy ne)⟩,nT⟩
 done:=by
  intro X hP hw hK hc i pins s σ H E I hf st hg;subst hP hw hK;obtain⟨le,⟨old,g1⟩,g2⟩:=st;have hg:i=x.cps.size:=Nat.le_antisymm le hg;subst hg;refine wpAny_pyNext_enum_endD (Draws.strAscii (A:=X.A.in1) (I.ok.hd hc) it x t) g1 g2 λh' y=>?_;exact⟨rfl,I.vb (fp:=[e,it]) hf λc o DZ q=>y c o (λz=>DZ (by simp[z])) q⟩
 self:=λA i s Q E DP q=>by obtain⟨_,⟨old,h1⟩,_⟩:=DP;exact wpAny_pyIter_enum h1 q
end L2
namespace L2.Q
open PySem PySem.Spec PySem.SeqAt PyProof.Rows
def B6 (x:Str):List D:=x.cps.toList.map λc=>.str ⟨#[c]⟩
theorem vm (x:Str):(B6 x).length=x.cps.size:=by simp[B6]
theorem vn {x:Str}{i:Nat}{d:D}(h:(B6 x)[i]?=some d):∃c,x.cps[i]?=some c/\d=.str ⟨#[c]⟩:=by
 rw[B6,WH]at h;obtain⟨c,e,rfl⟩:=WQ.mp h;exact⟨c,by simpa using e,rfl⟩
section
variable {X:Cx}{C:Cfg}{p:Bool}{a:Expr}{φs:bG}{pp pos:Pos}{elts:List Expr}{kk:Nat}{NR:Pos}
theorem xp {W:Addr->Prop}{x:Str}{H:Hp}:Cg X W (MS x) (oA (B6 x)) H:=λW' hW i H' k=>by
 constructor
 ·intro d hd;obtain⟨b,hb,rfl⟩:=oz hd;obtain⟨c,ec,rfl⟩:=vn hb;have hi:i<x.cps.size:=(Array.getElem?_eq_some_iff.mp ec).1;refine⟨hi,λv H1 mT=>?_⟩;obtain⟨T,c',hT,e,Mi,eH⟩:=mT;rw[ec]at Mi;cases Mi;subst e eH;exact⟨ay.new hT,Rp.Gg hT (.cons rfl (.cons rfl .nil))⟩
 ·intro hl;rw[ou,vm]at hl;exact hl
theorem DI {W:Addr->Prop}{x:Str}{H:Hp}:Cg X W (Rz x) (B6 x) H:=λW' hW i H' k=>by
 constructor
 ·intro d hd;obtain⟨c,ec,rfl⟩:=vn hd;have hi:i<x.cps.size:=(Array.getElem?_eq_some_iff.mp ec).1;refine⟨hi,λv H1 mT=>?_⟩;obtain⟨eH,c',Mi,rfl⟩:=mT;rw[ec]at Mi;cases Mi;subst eH;exact⟨ay.refl _,rfl⟩
 ·intro hl;rw[vm]at hl;exact hl
def DM (φs:bG):fM:=λβ R=>φs β λl ks β1=>∃x,l=[.str x]/\nR x/\R (oA (B6 x)) .old β1
theorem wY (hm:X.mg "enumerate" = none) (ha:ql X C p [a] φs) (hg:Gl X "enumerate" := by rfl) (hs:WD [a] X.env=[(false,eval a X.env)]:=by rfl) :
  Cf X C p (.Tuple elts kk NR) (.Call (.Name "enumerate" pp) [a] [] pos) (DM φs):=by
 refine⟨λβ R R' k q=>ha.mono β _ _ (λl ks β1 mW=>by obtain⟨x,e,ex,q⟩:=mW;exact⟨x,e,ex,k _ _ _ q⟩) q,λpins s σ H R I h=>?_⟩
 obtain⟨β,own,sq,h⟩:=h;refine Call_ (jL I hg hm EH (YM (bx (ha.pa pos pins s σ H _ I (qA.of ha sq h λds ks β' vs H1 az h o1 r1=>(⟨ds,ks,β',az,h,o1,r1.kG⟩:∃ds ks β' az,(∃x,ds=[.str x]/\nR x/\∀J H' a3,Out X C σ H own p β' H' a3->Cg X (av C (Wn a3) .old) J (oA (B6 x)) H'->R J H')/\Out X C σ H own p β' H1 az/\ao X.prog X.w (av C (Wn az) (gW ks)) H1 ds vs)))
  λus s1 ⟨vs,H1,I1,rv,h⟩=>?_) hs rfl))
 obtain⟨ds,ks,β',az,⟨x,rfl,ex,q⟩,o1,r1⟩:=h;obtain⟨y,rfl,ry⟩:=kA r1;cases (show y=.str x from ry)
 obtain⟨v1,rfl,e1⟩:=vals1 rv;obtain⟨t,rfl⟩:=e1;refine call_enumerate_str λh' y1 y2 y3 y4=>wpAny_pyIter_enum y1 ?_;have I2:Inv X pins σ H1 {s1 with heap:=h'}:=I1.kept (t':=s1.toks) y4
 rw[BH ex]at y2;refine⟨_,_,_,_,H1,rfl,I2,tO (Nat.succ_ne_self _),⟨WJ _,⟨_,y1⟩,y2⟩,λb hb=>?_,q _ _ az o1 xp⟩;have AB:s1.heap.objs.size<=b:=by
  simp only[Ws,X9,or_false]at hb;rcases hb with rfl|rfl <;> first|exact Nat.le_add_right _ _|exact Wl _
 exact I1.AO AB (I1.bq.fresh AB)
def OU (φ:aS):fM:=λβ R=>φ β λd k β1=>∃x,d=.str x/\nR x/\R (B6 x) .old β1
theorem GR {e tg:Expr}{te:TE}(h:PE X e te):PI X tg e (λσ H R=>te σ H λv H1=>∃x,v=.str x/\nR x/\R (Rz x) H1):=by
 intro pins s σ H R I q;refine bx (h pins s σ H _ I q) λu s1 h=>?_;obtain⟨v,H1,I1,rv,x,rfl,ex,q⟩:=h;obtain⟨t,rfl⟩:=rv;refine wpAny_pyIter_strU ?_;rw[BH ex];refine⟨s1.heap.objs.size,[s1.heap.objs.size],_,_,H1,rfl,I1.kept (t':=s1.toks) λb o e=>Ww _ e,yt,⟨_,W5 _ rfl,rfl,rfl⟩,λb hb=>?_,q⟩;have e:b=s1.heap.objs.size:=by simpa using hb
 subst e;exact I1.AO (Wl _) (I1.bq.fresh (Wl _))
theorem vv {tg e:Expr}{φ:aS}(h:PQ X C p e φ):Cf X C p tg e (OU φ) :=
 ⟨λβ R R' k q=>h.mono β _ _ (λd kd β' As=>by obtain⟨x,e,ex,q⟩:=As;exact⟨x,e,ex,k _ _ _ q⟩) q,λpins s σ H R I ⟨β,own,sq,q⟩=>GR h.pe pins s σ H R I (tQ.of h sq q λd k β' v H1 az uy o1 r1=>by
  obtain⟨x,e,ex,q1⟩:=uy;subst e;cases (show v=.str x from r1.rep)
  exact⟨x,rfl,ex,q1 _ _ az o1 DI⟩)⟩
end
def FO:List D->Option D
 |[.str x]=>if x.length<1000000 then some (.int x.length) else none
 |_=>none
section
variable {X:Cx}
theorem cf:aX X (.builtin "len") FO:=by
 intro pins s σ H xs us Q I r h;obtain⟨W,ds,d,hd,r1,e,q⟩:=h
 match ds,e with
 |[.str x],e =>
  have e:(if x.length<1000000 then some (D.int x.length) else none)=some d:=e
  by_cases hl:x.length<1000000
  ·rw[if_pos hl]at e;cases e;obtain⟨v,r',rfl,h1,hr⟩:=r1;cases hr;cases (show v=.str x from h1)
   obtain⟨v1,rfl,e1⟩:=vals1 r;obtain⟨t,rfl⟩:=e1;exact len_str (by lia) ⟨.int _,H,I.tok _,⟨_,rfl⟩,q _ _ (ay.refl _) rfl⟩
  ·rw[if_neg hl]at e;cases e
def Er (a b:D):Option D:=(D.iP a).bind λx=>b.int?.bind λi=>if x.length<=WA then (jy x.cps.toList i).map λc=>.str (bb c) else none
theorem fw:F0 X (yQ X Er NF):=λvalue slice pins s σ H x y v u Q I rx ry h hs=>by
 obtain⟨W,d1,d2,d,hd,r1,r2,e,q⟩:=h;obtain⟨a,h1,e⟩:=WL.mp e;obtain⟨i,h2,e⟩:=WL.mp e;rw[D.bR h1]at r1;rw[D.vR h2]at r2;cases (show x=.str a from r1)
 cases (show y=.int i from r2)
 by_cases hl:a.length<=WA
 ·rw[if_pos hl]at e;obtain⟨c,hc,rfl⟩:=WQ.mp e;exact HR value slice pins s σ H _ _ v u Q I rx ry ⟨a,i,c,rfl,rfl,hl,hc,q _ _ (ay.refl _) rfl λ_=>rfl⟩ hs
 ·rw[if_neg hl]at e;cases e
end
def dX (xs:List Nat)(lo hi:Option Int):List Nat:=(xs.drop (HT.fH xs.length 0 lo)).take (HT.fH xs.length xs.length hi-HT.fH xs.length 0 lo)
theorem sL (n:Nat)(d:Nat)(v:Option Int):(match v with|none=>(d:Int)|some i=>let i:=if i<0 then i+(n:Int) else i;max 0 (min i (n:Int)))=((HT.fH n d v:Nat):Int):=by
 cases v with
 |none=>rfl
 |some i =>
  show max 0 (min (if i<0 then i+(n:Int) else i) (n:Int))=(((if i<0 then (i+(n:Int)).toNat else min i.toNat n):Nat):Int)
  by_cases h:i<0
  ·rw[if_pos h,if_pos h];lia
  ·rw[if_neg h,if_neg h];lia
theorem E3 (lo hi:Option Int)(n:Nat):Zz lo hi 1 n=sliceRange ((HT.fH n 0 lo:Nat):Int) ((HT.fH n n hi:Nat):Int) 1:=by
 rw[<- sL n 0 lo,<- sL n n hi];rfl
theorem zV {x:Str}{t:Tok}{l u:Option (Int×Tok)}:(sliceMade x t l u none)=.val (.str x t)/\dX x.cps.toList (l.map (·.1)) (u.map (·.1))=x.cps.toList\/sliceMade x t l u none=.str ⟨(dX x.cps.toList (l.map (·.1)) (u.map (·.1))).toArray⟩:=by
 have hp:(ZO x l u none).filterMap (λi=>x.cps[i]?)=dX x.cps.toList (l.map (·.1)) (u.map (·.1)):=by
  unfold ZO;show (Zz _ _ 1 x.length).filterMap _=_;rw[E3,sliceRange_one,pick_run];unfold dX;rw[Wr];rfl
 have hq:(ZO x l u none).length=(HT.fH x.length x.length (u.map (·.1))-HT.fH x.length 0 (l.map (·.1))):=by
  unfold ZO;show (Zz _ _ 1 x.length).length=_;rw[E3,sliceRange_one,Wj,Yg]
 unfold sliceMade
 by_cases h:(((none:Option (Int×Tok)).map (·.1)).getD 1==1&&(ZO x l u none).length==x.length)=true
 ·left
  rw[if_pos h];refine⟨rfl,?_⟩;have h:(ZO x l u none).length=x.length:=by
   have:=(YW.mp h).2;exact eq_of_beq this
  rw[hq]at h;unfold dX;rw[Wr];have h0:HT.fH x.length x.length (u.map (·.1))<=x.length:=by
   unfold HT.fH
   split
   ·exact Wl _
   ·split
    ·lia
    ·exact Nat.min_le_right _ _
  show List.take (HT.fH x.length x.length (u.map (·.1))-HT.fH x.length 0 (l.map (·.1))) (x.cps.toList.drop (HT.fH x.length 0 (l.map (·.1))))=_;have h1:x.length=0\/HT.fH x.length 0 (l.map (·.1))=0:=by lia
  rcases h1 with h1|h1
  ·have:x.cps.toList=[]:=List.length_eq_zero_iff.mp (by rw[Wr];exact h1)
   rw[this];simp
  ·rw[h,h1,List.drop_zero];exact XM (by rw[Wr];exact Wl _)
 ·right
  rw[if_neg h,hp]
def Jh:D->Option Int->Option Int->Option D
 |.str x,lo,hi=>if x.length<=WA then some (.str ⟨(dX x.cps.toList lo hi).toArray⟩) else none
 |_,_,_=>none
theorem Ez {xs:List Nat}{lo hi:Option Int}:(dX xs lo hi).length<=xs.length:=by
 unfold dX;rw[WW,Yq];lia
theorem kZ {cs:List Nat}{lo hi:Option Int}(h:cs.length<=1000000):Jh (.str (aG cs)) lo hi=some (.str (aG (dX cs lo hi))):=by
 show (if (aG cs).length<=WA then some (D.str ⟨(dX (aG cs).cps.toList lo hi).toArray⟩) else none)=_
 rw[if_pos (show (aG cs).length<=WA by rw[WY];show cs.toArray.size<=_;rw[WG];lia)]
 rfl
section
variable {X:Cx}{C:Cfg}{p:Bool}{a:Expr}{φ:aS}{pos:Pos}
def KA (X:Cx):V->Option Int->Option Int->Hp->VK->Prop:=λx lo hi H Q=>∃W d1 d,Dm W H/\Rp X W H d1 x/\Jh d1 lo hi=some d/\∀v H',ay H H'->Rp X W H' d v->(NF d->Rp X (λa=>H a≠none) H' d v)->Q v H'
theorem Cy:Nr X (KA X):=by
 intro pins s σ H x v vl vu lo hi sl Q I rx hs pl pu h;obtain⟨W,d1,d,hd,r1,e,q⟩:=h;cases d1 with
 |str z =>
  have e:(if z.length<=WA then some (D.str ⟨(dX z.cps.toList lo hi).toArray⟩) else none)=some d:=e
  by_cases hl:z.length<=WA
  ·rw[if_pos hl]at e;cases e;cases (show x=.str z from r1)
   obtain⟨t,rfl⟩:=rx;obtain⟨l,rfl,rfl⟩:∃l:Option (Int×Tok),vl=partValue l/\lo=l.map (·.1):=by
    cases pl with
    |none=>exact⟨none,rfl,rfl⟩
    |int i t=>exact⟨some (i,t),rfl,rfl⟩
   obtain⟨u,rfl,rfl⟩:∃l:Option (Int×Tok),vu=partValue l/\hi=l.map (·.1):=by
    cases pu with
    |none=>exact⟨none,rfl,rfl⟩
    |int i t=>exact⟨some (i,t),rfl,rfl⟩
   refine⟨"str",_,slot_str_getitem.lookup,rfl,wpAny_getItem_str_slice (st:=none) hs rfl ?_⟩;rcases zV (x:=z) (t:=t) (l:=l) (u:=u)with⟨e,ec⟩|e
   ·rw[e];rw[ec]at q;simp only[Made.post];exact⟨.str z,H,I,⟨t,rfl⟩,q _ _ (ay.refl _) rfl λ_=>rfl⟩
   ·rw[e];simp only[Made.post];refine⟨?_,.str _,H,I.tok _,⟨_,rfl⟩,q _ _ (ay.refl _) rfl λ_=>rfl⟩;have:=Ez (xs:=z.cps.toList) (lo:=l.map (·.1)) (hi:=u.map (·.1));rw[Wr]at this;show (dX _ _ _).toArray.size<=_;rw[WG];exact W8 this hl
  ·rw[if_neg hl]at e;cases e
 |_=>cases e
def Oo (φ:aS)(φl φh:s_):aS:=λβ R=>φ β λx k β1=>φl β1 λl β2=>φh β2 λh β3=>∃d,Jh x l h=some d/\kN NF d k.wk λk'=>R d k' β3
theorem o9 {lo hi:Option Expr}{φl φh:s_}{p2:Pos}(ha:PQ X C p a φ)(hl:J5 X C lo φl)(hh:J5 X C hi φh):PQ X C p (.Subscript a (.Slice lo hi none p2) pos) (Oo φ φl φh) :=
 ⟨λβ R R' k h=>ha.mono β _ _ (λx kx β1 q=>hl.mono β1 _ _ (λl β2 q=>hh.mono β2 _ _ (λu β3 Ap=>by obtain⟨d,e,q⟩:=Ap;exact⟨d,e,q.mono λ_ z=>k _ _ _ z⟩) q) q) h,
  (lM Cy ha.pe hl.po hh.po).pre λσ H Q ⟨β,own,s,h⟩=>tQ.of ha s h λd k β1 v H1 az q o1 r1 =>
    ⟨β1,az,o1.sq,hl.mono β1 _ _ (λl β2 q H2 s2 Kq=>⟨β2,az,Kq,hh.mono β2 _ _ (λu β3 Ao H3 s3 Cv=>by
      obtain⟨d',e,q⟩:=Ao;refine⟨av C (Wn az) k.wk,d,d',Cv.Bc _,((aD.a7 BG r1.rep).same s2).same s3,e,λv H' s4 r4 n4=>?_⟩;obtain⟨k',q,r⟩:=KV.kN (Z:=(H,Wn own)) EW r4 (λn=>gO (H:=H3) Cv.uL Cv.iG (λa z e=>o1.sn.d a z (s2.free (s3.free e))) (ai.nl _ n) (n4 n)) q;exact q v H' az ⟨Cv.same s4,o1.sn.same ((s2.trans s3).trans s4),λz=>⟨(o1.pu z).1.trans ((s2.trans s3).trans s4),(o1.pu z).2⟩,o1.le⟩ r) q⟩) q⟩⟩
end
def Od (X:Cx)(g:D->List D->Option D)(N:D->Prop):V->List V->Hp->VK->Prop:=λx xs H Q=>∃W d0 ds d,Dm W H/\Rp X W H d0 x/\mI X W H ds xs/\g d0 ds=some d/\∀v H',ay H H'->Rp X W H' d v->(N d->Rp X (λa=>H a≠none) H' d v)->Q v H'
abbrev MQ (X:Cx)(id:String)(g:D->List D->Option D)(N:D->Prop):Prop:=Nv X id (Od X g N)
def Ub (g:D->List D->Option D)(N:D->Prop)(pb:Bool)(φo:aS)(φs:bG):aS:=λβ R=>φo β λd0 k0 β1=>hold k0 pb/\(∃x,d0=.str x)/\φs β1 λds ks β2=>∃d,g d0 ds=some d/\kN N d (k0.max (gW ks)) λk=>R d k β2
section
variable {X:Cx}{C:Cfg}{o e:Expr}{es:List Expr}{φo:aS}{φs:bG}{p p':Bool}{apos cpos:Pos}{g:D->List D->Option D}{N:D->Prop}{name:Str}{id:String}
theorem kc (hn:BU N) (hm:MQ X id g N) (slot:Slot "str" name id) (LG:typeOf (.builtin id)=pure (.type "method_descriptor")) (ho:PQ X C p o φo) (ha:ql X C p' (e::es) φs)
  (eY:Y2 o name X.env (eval o X.env)=eval o X.env:=by rfl)
  (pN:((Yd cpos (WD (e::es) X.env)).all (λx=>!x.1)&&(backToKw cpos (keywordEach [] X.env)).all (λx=>x.1.isSome)
   && decide ((e::es).length+([]:List ZT).length+(if ([]:List ZT).isEmpty then 0 else 1)<30))=true:=by rfl)
  (eX:(apos.endLine==cpos.line)=true:=by rfl) (hs:WD (e::es) X.env=(false,eval e X.env)::WD es X.env:=by rfl) (iy:(Yd cpos (WD es X.env)).any (·.1)=false:=by rfl) :
  PQ X C (p&&p') (.Call (.Attribute o name apos) (e::es) [] cpos) (Ub g N p' φo φs) :=
 ⟨λβ R R' k h=>ho.mono β _ _ (λd kd β1 q=>⟨q.1,q.2.1,ha.mono β1 _ _ (λds ks β2 z=>by obtain⟨d,e,q⟩:=z;exact⟨d,e,q.mono λ_ z=>k _ _ _ z⟩) q.2.2⟩) h,
  (vC (apos:=apos) (cpos:=cpos) PySem.F.plainAttrs_str slot LG hm ho.pe ha.pa eY pN eX hs iy).pre λσ H Q hv=>by
  obtain⟨β,own,s,h⟩:=hv;exact tQ.of ho s h λd0 k0 β1 v0 H1 az hv o1 r1=>by
   obtain⟨hh,⟨x,rfl⟩,h1⟩:=hv;have ev:v0=V.str x:=r1.rep;refine⟨by rw[ev];rfl,qA.of ha o1.sq h1 λds ks β2 vs H2 ba hq o2 r2=>?_⟩
   obtain⟨d,e,q⟩:=hq;have KD:=r1.ho o2 hh;refine⟨av C (Wn ba) (k0.max (gW ks)),.str x,ds,d,o2.sq.Bc _,aD.a7 cH KD.rep,ao.a7 d_ r2.kG,e,λv H' s3 r3 n3=>?_⟩;have o:=(o1.trans o2).same s3;obtain⟨k,q,r⟩:=KV.kN (Z:=(H,Wn own)) zR r3 (λn=>gO (H:=H2) o2.sq.uL o2.sq.iG (λa z=>o2.sn.d a (o1.sn.d a z)) (hn.nl _ n) (n3 n)) q;exact q v H' ba o r⟩
end
def wb (d0:D)(ds:List D):Option D:=match ds with
 |[e]=>(D.iP d0).bind λx=>(D.iP e).bind λy=>if y.length=1/\x.length<=WA then some (.tup [.str (XE x y).1,.str (XE x y).2.1,.str (XE x y).2.2]) else none
 |_=>none
theorem Bf {d0 d:D}{ds:List D}(h:wb d0 ds=some d):∃x y,d0=.str x/\ds=[.str y]/\y.length=1/\x.length<=WA/\d=.tup [.str (XE x y).1,.str (XE x y).2.1,.str (XE x y).2.2]:=by
 cases ds with
 |nil=>cases h
 |cons e r =>
  cases r with
  |cons _ _=>cases h
  |nil =>
   obtain⟨x,h1,h⟩:=WL.mp h;obtain⟨y,h2,h⟩:=WL.mp h
   by_cases hq:y.length=1/\x.length<=WA
   ·rw[if_pos hq]at h;cases h;exact⟨x,y,D.bR h1,by rw[D.bR h2],hq.1,hq.2,rfl⟩
   ·rw[if_neg hq]at h;cases h
theorem iV {P:Wq}{w:WC}{W:Addr->Prop}{H:Hp}{y:Str}{xs:List V}(h:ao P w W H [.str y] xs):xs=[.str y]:=by
 obtain⟨v,r,rfl,h1,h2⟩:=h;cases (show r=[] from h2)
 cases (show v=V.str y from h1)
 rfl
theorem vK {X:Cx}:MQ X "str.partition" wb NF:=by
 intro pins s σ H x xs v us Q I rx rs h;obtain⟨W,d0,ds,d,hd,r0,r1,e,q⟩:=h;obtain⟨a,b,rfl,rfl,hb,ha,rfl⟩:=Bf e;cases (show x=V.str a from r0)
 cases iV r1;obtain⟨t,rfl⟩:=rx;obtain⟨u,rfl,t2,rfl⟩:=vals1 rs;refine YD PySem.F.slot_str_partition (Zl _ _ _) PySem.F.entry_str_partition (PySem.F.args_str_partition_2 _ _) (meets_str_partition a b t t2 (by rw[hb];rfl) ha) ?_
 have hn:H s.heap.objs.size=none:=I.bq.fresh (Wl _);have key:∀(p1 p2 p3:Str) (t1 t2 t3:Tok) (tk:Nat),XE a b=(p1,p2,p3)->EP X pins σ Q (.ref s.heap.objs.size) {s with toks:=tk,heap:=s.heap.push {cls:=.type "tuple",data:=.seq [Value.str p1 t1,.str p2 t2,.str p3 t3].toArray}}:=by
  intro p1 p2 p3 t1 t2 t3 tk ep;rw[ep]at q;have I2:Inv X pins σ (upd H s.heap.objs.size (.tup [.str p1,.str p2,.str p3])) {s with heap:=s.heap.push {cls:=.type "tuple",data:=.seq [Value.str p1 t1,.str p2 t2,.str p3 t3].toArray},toks:=tk} :=
   I.laid (λb o e=>Ww _ e) (Wl _) ⟨by show 3<=WA;decide,[_,_,_],.cons ⟨_,rfl⟩ (.cons ⟨_,rfl⟩ (.cons ⟨_,rfl⟩ .nil)),⟨_,W5 _ rfl,rfl,_,rfl⟩⟩
  have rp:Rp X W (upd H s.heap.objs.size (.tup [.str p1,.str p2,.str p3])) (.tup [.str p1,.str p2,.str p3]) (.ref s.heap.objs.size):=⟨_,_,rfl,aE,_,_,rfl,rfl,_,_,rfl,rfl,_,_,rfl,rfl,rfl⟩;exact⟨.ref s.heap.objs.size,_,I2,rfl,q _ _ (ay.new hn) rp λf=>aD.flat f rp⟩
 have hp:XE a b=match W7 a b 0 a.length 1 with
  |i::_=>(Y9 a 0 i,b,Y9 a (i+b.length) a.length)
  |[]=>(a,Str.empty,Str.empty):=rfl
 revert hp
 cases W7 a b 0 a.length 1 with
 |nil=>exact λhp=>key _ _ _ _ _ _ _ hp
 |cons i r=>exact λhp=>key _ _ _ _ _ _ _ hp
def aO (c:Nat):List Nat->List Nat×List Nat×List Nat
 |[]=>([],[],[])
 |x::l=>if x=c then ([],[c],l) else (x::(aO c l).1,(aO c l).2.1,(aO c l).2.2)
theorem lO {c:Nat}:∀{l:List Nat},c∉l->aO c l=(l,[],[])
 |[],_=>rfl
 |x::l,h=>by
  rw[aO,if_neg λz=>h (by rw[z];exact Wo),lO λz=>h (Wm _ z)]
theorem qV {c:Nat}:∀{l:List Nat} {i:Nat},l[i]?=some c->(∀k,k<i->l[k]?≠some c)->aO c l=(l.take i,[c],l.drop (i+1))
 |[],_,h,_=>by cases h
 |x::l,0,h,_=>by
  rw[aO,if_pos (WR h)];rfl
 |x::l,i+1,h,n=>by
  rw[aO,if_neg λz=>n 0 (Nat.zero_lt_succ _) (congrArg some z),qV (l:=l) (i:=i) h λk hk=>n (k+1) (Nat.succ_lt_succ hk)];rfl
theorem vE {c:Nat}{cs:List Nat}:XE (aG cs) (bb c)=(aG (aO c cs).1,aG (aO c cs).2.1,aG (aO c cs).2.2):=by
 have at_:∀i,StrLaws.At (aG cs) (bb c) (aG cs).length i↔cs[i]?=some c:=λi=>(StrLaws.subAt_one (aG cs) c i).trans (by show (cs.toArray.toList)[i]?=some c↔_;rw[List.toList_toArray])
 have sub:∀i j,Y9 (aG cs) i j=aG ((cs.drop i).take (j-i)):=λi j=>by
  have e:(Y9 (aG cs) i j).cps=((cs.drop i).take (j-i)).toArray:=by
   rw[<- Array.toArray_toList (xs:=(Y9 (aG cs) i j).cps),StrLaws.strSub_toList];rfl
  exact congrArg (λa=>(⟨a⟩:Str)) e
 rcases partition_whole (aG cs) (bb c)with⟨hp,hn⟩|⟨i,hp,hi,hn⟩
 ·rw[hp,lO λz=>by
   obtain⟨i,e⟩:=List.mem_iff_getElem?.mp z;exact hn i ((at_ i).mpr e)]
  rfl
 ·rw[hp,qV ((at_ i).mp hi) λk hk z=>hn k hk ((at_ k).mpr z),sub,sub];show (_,bb c,_)=(_,aG [c],_);have hl:(cs.drop (i+1)).take ((aG cs).length-(i+1))=cs.drop (i+1):=XM (by rw[Yq];exact Wl _)
  show (aG ((cs.drop 0).take (i-0)),bb c,aG ((cs.drop (i+1)).take ((aG cs).length-(i+1))))=_;rw[hl];rfl
def aK (c:Nat):List Nat->List (List Nat)
 |[]=>[[]]
 |x::l=>if x=c then []::aK c l else match aK c l with
  |p::r=>(x::p)::r
  |[]=>[[x]]
def ji (c:Nat):List (List Nat)->List Nat
 |[]=>[]
 |[p]=>p
 |p::q::r=>p++c::ji c (q::r)
theorem fT {c:Nat}:∀{p:List Nat},c∉p->aK c p=[p]
 |[],_=>rfl
 |x::p,h=>by
  rw[aK,if_neg λz=>h (by rw[z];exact Wo),fT λz=>h (Wm _ z)]
theorem ib {c:Nat}{l:List Nat}:∀{p:List Nat},c∉p->aK c (p++c::l)=p::aK c l
 |[],_=>by
  show aK c (c::l)=_;rw[aK,if_pos rfl]
 |x::p,h=>by
  show aK c (x::(p++c::l))=_;rw[aK,if_neg λz=>h (by rw[z];exact Wo),ib λz=>h (Wm _ z)]
theorem j5 {c:Nat}:∀{L:List (List Nat)},L≠[]->(∀p∈L,c∉p)->aK c (ji c L)=L
 |[],h,_=>absurd rfl h
 |[p],_,h=>fT (h p Wo)
 |p::q::r,_,h=>by
  show aK c (p++c::ji c (q::r))=_;rw[ib (h p Wo),j5 (by simp) λa ha=>h a (Wm _ ha)]
theorem pK {c:Nat}:∀(ps:List (List Nat)),Ze (bb c) (ps.map aG)=aG (ji c ps)
 |[]=>rfl
 |[p]=>rfl
 |p::q::r=>by
  show aG p++bb c++Ze (bb c) ((q::r).map aG)=_;rw[pK (q::r)];show (⟨(p.toArray++#[c])++(ji c (q::r)).toArray⟩:Str)=aG (p++c::ji c (q::r));simp[aG]
theorem yC (x y:Str):X5 x y≠[]:=by
 unfold X5
 split
 ·simp
 ·split
  ·simp
  ·unfold Z1;intro z;have:=congrArg ZS z;simp at this
theorem iR {c:Nat}{cs:List Nat}:X5 (aG cs) (bb c)=(aK c cs).map aG:=by
 have hf:∀p∈X5 (aG cs) (bb c),c∉p.cps.toList:=StrLaws.split_free (aG cs) c;have hj:=StrLaws.join_split (aG cs) (bb c);have hn:=yC (aG cs) (bb c);generalize X5 (aG cs) (bb c)=ps at hf hj hn ⊢
 have e:ps=(ps.map λp=>p.cps.toList).map aG:=by
  rw[W6];exact(List.map_id' ps).symm
 rw[e,pK]at hj;have xx:ji c (ps.map λp=>p.cps.toList)=cs:=by
  have:=congrArg (λs:Str=>s.cps.toList) hj;simpa[aG] using this
 rw[<- xx,j5 (by simpa using hn) λp hp=>by
  obtain⟨q,hq,rfl⟩:=WX.mp hp;exact hf q hq]
 exact e
def mm (d0:D)(ds:List D):Option D:=match ds with
 |[e]=>(D.iP d0).bind λx=>(D.iP e).bind λy=>if y.length=1/\x.length<=1000000 then some (.lst ((X5 x y).map D.str)) else none
 |_=>none
theorem xI {d0 d:D}{ds:List D}(h:mm d0 ds=some d):∃x y,d0=.str x/\ds=[.str y]/\y.length=1/\x.length<=1000000/\d=.lst ((X5 x y).map D.str):=by
 cases ds with
 |nil=>cases h
 |cons e r =>
  cases r with
  |cons _ _=>cases h
  |nil =>
   obtain⟨x,h1,h⟩:=WL.mp h;obtain⟨y,h2,h⟩:=WL.mp h
   by_cases hq:y.length=1/\x.length<=1000000
   ·rw[if_pos hq]at h;cases h;exact⟨x,y,D.bR h1,by rw[D.bR h2],hq.1,hq.2,rfl⟩
   ·rw[if_neg hq]at h;cases h
theorem qK {P:Wq}{w:WC}{W:Addr->Prop}{H:Hp}:∀ps:List Str,ao P w W H (ps.map D.str) (ps.map V.str)
 |[]=>rfl
 |_::ps=>⟨_,_,rfl,rfl,qK ps⟩
theorem ni:∀(ps:List Str) (t:Nat),Vals (ps.map V.str) (strsFrom t ps)
 |[],_=>.nil
 |_::ps,t=>.cons ⟨_,rfl⟩ (ni ps (t+1))
theorem split_len {x y:Str}:(X5 x y).length<=x.length+2:=by
 unfold X5
 split
 ·exact X0 (WJ _)
 ·split
  ·exact X0 (WJ _)
  ·rw[length_partsBetween];exact X0 (StrLaws.occ_length_le x y 0 x.length (x.length+1))
theorem lS {X:Cx}:MQ X "str.split" mm NL:=by
 intro pins s σ H x xs v us Q I rx rs h;obtain⟨W,d0,ds,d,hd,r0,r1,e,q⟩:=h;obtain⟨a,b,rfl,rfl,hb,ha,rfl⟩:=xI e;cases (show x=V.str a from r0)
 cases iV r1;obtain⟨t,rfl⟩:=rx;obtain⟨u,rfl,t2,rfl⟩:=vals1 rs;have hn:H s.heap.objs.size=none:=I.bq.fresh (Wl _);have hl:(X5 a b).length<=WA:=W8 split_len (by rw[WY];lia)
 have key:∀(us:List Wg) (tk:Nat),Vals ((X5 a b).map V.str) us->EP X pins σ Q (.ref s.heap.objs.size) {s with toks:=tk,heap:=s.heap.push {cls:=.type "list",data:=.seq us.toArray}}:=by
  intro us tk hv;have I2:=I.zY (t':=tk) hv (by rw[Wj];exact hl)
  have rp:∀{W':Addr->Prop},¬ W' s.heap.objs.size->Rp X W' (upd H s.heap.objs.size (.lst ((X5 a b).map V.str))) (.lst ((X5 a b).map D.str)) (.ref s.heap.objs.size):=λnw=>⟨_,_,rfl,aE,nw,qK _⟩;exact⟨.ref s.heap.objs.size,_,I2,rfl,q _ _ (ay.new hn) (rp λz=>hd _ z hn) λ_=>rp λz=>z hn⟩
 have et:X5 a b=if (decide (a.length<b.length) || decide (Xo a<Xo b))=true then [a] else if (W7 a b 0 a.length (a.length+1)).isEmpty=true then [a] else Z1 a (W7 a b 0 a.length (a.length+1)) b.length:=rfl
 cases h1:(decide (a.length<b.length) || decide (Xo a<Xo b))with
 |true =>
  rw[if_pos h1]at et;exact YD PySem.F.slot_str_split (Zl _ _ _) PySem.F.entry_str_split (PySem.F.args_str_split_2 _ _) (meets_str_split_cannot_occur a b t t2 h1) (key _ _ (by rw[et];exact .cons ⟨_,rfl⟩ .nil))
 |false =>
  rw[if_neg (by rw[h1];simp)]at et
  cases h2:(W7 a b 0 a.length (a.length+1)).isEmpty with
  |true =>
   rw[if_pos h2]at et;exact YD PySem.F.slot_str_split (Zl _ _ _) PySem.F.entry_str_split (PySem.F.args_str_split_2 _ _) (meets_str_split_not_found a b t t2 h1 (by rw[hb];rfl) h2) (key _ _ (by rw[et];exact .cons ⟨_,rfl⟩ .nil))
  |false =>
   rw[if_neg (by rw[h2];simp)]at et
   refine YD PySem.F.slot_str_split (Zl _ _ _) PySem.F.entry_str_split (PySem.F.args_str_split_2 _ _) (meets_str_split_sep a b t t2 h1 (by rw[hb];rfl) h2 (by rw[WY];lia) (by rw[<- et];exact hl)) (key _ _ ?_)
   rw[et];exact ni _ _
def tS (i:Int):Str:=(toString i:String)
def v_:List D->Option D
 |[.int i]=>if i.natAbs.log2<1920 then some (.str (tS i)) else none
 |_=>none
theorem Be {ds:List D}{d:D}(h:v_ ds=some d):∃i:Int,ds=[.int i]/\i.natAbs.log2<1920/\d=.str (tS i):=by
 unfold v_ at h
 split at h
 ·split at h
  ·cases h;exact⟨_,rfl,by assumption,rfl⟩
  ·cases h
 ·cases h
theorem iD {X:Cx}:aX X (.type "str") v_:=by
 intro pins s σ H xs us Q I r h;obtain⟨W,ds,d,hd,r1,e,q⟩:=h;obtain⟨i,rfl,hi,rfl⟩:=Be e;obtain⟨v,r',rfl,h1,hr⟩:=r1;cases hr;cases (show v=.int i from h1)
 obtain⟨v1,rfl,t,rfl⟩:=vals1 r;exact PySem.P.str_of_int hi ⟨.str (tS i),H,I.tok _,⟨_,rfl⟩,q _ _ (ay.refl _) rfl⟩
def we:List D->Option D
 |[.str x]=>if x.length<=640 then (PySem.intText? x).map D.int else none
 |_=>none
theorem Bo {ds:List D}{d:D}(h:we ds=some d):∃x n,ds=[.str x]/\x.length<=640/\PySem.intText? x=some n/\d=.int n:=by
 unfold we at h
 split at h
 ·split at h
  ·obtain⟨n,h1,rfl⟩:=WQ.mp h;exact⟨_,n,rfl,by assumption,h1,rfl⟩
  ·cases h
 ·cases h
theorem my {X:Cx}:aX X (.type "int") we:=by
 intro pins s σ H xs us Q I r h;obtain⟨W,ds,d,hd,r1,e,q⟩:=h;obtain⟨x,n,rfl,hl,hn,rfl⟩:=Bo e;cases iV r1;obtain⟨v1,rfl,t,rfl⟩:=vals1 r;exact PySem.W.KIN.call_text hn hl ⟨.int n,H,I.tok _,⟨_,rfl⟩,q _ _ (ay.refl _) rfl⟩
def nu:List D->Option (List Str)
 |[]=>some []
 |d::ds=>(D.iP d).bind λx=>(nu ds).bind λxs=>some (x::xs)
theorem qF:∀{ds:List D} {xs:List Str},nu ds=some xs->ds=xs.map D.str
 |[],_,h=>by cases h;rfl
 |d::ds,xs,h=>by
  obtain⟨x,h1,h⟩:=WL.mp h;obtain⟨ys,h2,h⟩:=WL.mp h;cases h;rw[D.bR h1,qF h2];rfl
def rF (sep:Str)(xs:List Str):Nat:=(xs.map (·.length)).sum+xs.length*sep.length
def Bk (d0:D)(ds:List D):Option D:=match ds with
 |[e]=>(D.iP d0).bind λx=>(D.xk e).bind λes=>(nu es).bind λxs=>if rF x xs<=1000000 then some (.str (Ze x xs)) else none
 |_=>none
theorem Bj {d0 d:D}{ds:List D}(h:Bk d0 ds=some d):∃x xs,d0=.str x/\ds=[.lst (xs.map D.str)]/\rF x xs<=1000000/\d=.str (Ze x xs):=by
 cases ds with
 |nil=>cases h
 |cons e r =>
  cases r with
  |cons _ _=>cases h
  |nil =>
   obtain⟨x,h1,h⟩:=WL.mp h;obtain⟨es,h2,h⟩:=WL.mp h;obtain⟨xs,h3,h⟩:=WL.mp h
   by_cases hq:rF x xs<=1000000
   ·rw[if_pos hq]at h;cases h;exact⟨x,xs,D.bR h1,by rw[D.pJ h2,qF h3],hq,rfl⟩
   ·rw[if_neg hq]at h;cases h
theorem qM {P:Wq}{w:WC}{W:Addr->Prop}{H:Hp}:∀{xs:List Str} {vs:List V},ao P w W H (xs.map D.str) vs->vs=xs.map V.str
 |[],_,h=>h
 |x::xs,_,h=>by
  obtain⟨v,r,e,h1,h2⟩:=h;rw[e,qM h2,show v=V.str x from h1]
  rfl
theorem rR (sep:Str):∀(xs:List Str) (n:Nat),xs.foldl (λa x=>a+x.length+sep.length) n=n+rF sep xs
 |[],_=>by simp[rF]
 |x::xs,n=>by
  rw[Yk,rR sep xs];unfold rF;rw[W3,List.sum_cons,Wz,Nat.succ_mul];lia
theorem zT {X:Cx}:MQ X "str.join" Bk NF:=by
 intro pins s σ H x xs v us Q I rx rs h;obtain⟨W,d0,ds,d,hd,r0,r1,e,q⟩:=h;obtain⟨a,ts,rfl,rfl,hb,rfl⟩:=Bj e;cases (show x=V.str a from r0)
 obtain⟨v',r',rfl,h1,hr⟩:=r1;cases (show r'=[] from hr)
 obtain⟨ad,ws,rfl,h2,_,h3⟩:=h1;rw[qM h3]at h2;obtain⟨t,rfl⟩:=rx;obtain⟨u,rfl,ru⟩:=vals1 rs;cases ru;obtain⟨its,r,ht,hz⟩:=I.list (eC.of h2);obtain⟨l,rfl,el⟩:=jz r;have Iv:Builtin.Str.tooLong ((l.map (·.1)).toArray.foldl (·+·.length+a.length) 0)=false:=by
  rw[el,List.foldl_toArray,rR];exact decide_eq_false (by rw[WY];lia)
 refine YD PySem.F.slot_str_join (Zl _ _ _) PySem.F.entry_str_join (PySem.F.args_str_join_2 _ _) (meets_str_join_list a t ad l Iv) ⟨ht.isList,?_⟩;have eg:ZU a (l.map (·.1))=Ze a ts:=by rw[el];exact StrLaws.glued_eq_join a ts
 have uz:(Ze a ts).length<=WA:=W8 (StrLaws.join_length_le a ts) (W8 hb (by rw[WY];lia))
 have fin:∀tk MU,EP X pins σ Q (.str (Ze a ts) tk) {s with toks:=MU}:=λtk MU=>⟨.str (Ze a ts),H,I.tok _,⟨tk,rfl⟩,q _ _ (ay.refl _) rfl λf=>rfl⟩
 cases l with
 |nil =>
  refine⟨by rw[eg];exact uz,?_⟩
  rw[eg];exact fin _ _
 |cons p l =>
  cases l with
  |nil =>
   have e1:p.1=Ze a ts:=by rw[<- el];rfl
   show EP X pins σ Q (.str p.1 p.2) s;rw[e1];exact fin _ s.toks
  |cons p2 l =>
   refine⟨by rw[eg];exact uz,?_⟩
   rw[eg];exact fin _ _
theorem qv {prog:Wq}{w:WC}{A:Xg}{I:Addr}{fp wr:List Addr}{G:Array GenState->Array GenState->Prop}{n:Nat}{P:Nat->Wg->Prop}{St:Nat->Wi->Prop}
  (W:WalksS prog w A I fp wr G (n+1) P St):WalksS prog w A I fp wr G n (λi=>P (i+1)) (λi=>St (i+1)) :=
 ⟨W.sub,W.grefl,W.gtrans,λi=>W.frame (i+1),λi s Q E hi st hQ=>W.item (i+1) s Q E (Nat.succ_lt_succ hi) st hQ,W.done,λi=>W.self (i+1)⟩
theorem qy {prog:Wq}{w:WC}{A:Xg}{E:Wg->Wi->Prop}{s:Wi}{l:Addr}{x:Wg}{r:List Wg}{Q:List Wg->Wi->Prop}(hh:A.handled=none)(hl:s.heap.IsList l (x::r).toArray)(hz:r.length<=WA)
  (q:∀(h1:Heap) (tk:Nat),(∀b o,s.heap.get? b=some o->h1.get? b=some o)->Q [x,.ref h1.objs.size] {s with heap:=h1.push {cls:=.type "list",data:=.seq r.toArray},toks:=tk}) :
  WT (model prog w) A (unpackItems (.ref l) 2 (some 1)) Q E s:=by
 have gT:l≠s.heap.objs.size:=by obtain⟨o,ho,_⟩:=hl;exact WZ (WB ho)
 unfold unpackItems;refine Wh ?_;unfold notIterableAtAll;refine Wh (wpAny_specialOf hl.typeIs PySem.F.slot_list_iter.lookup ?_);refine Wu ?_;simp only[Y_,if_false];refine Wh (Xv (ZN hl ?_));have hit:(s.heap.push {cls:=.type "list_iterator",data:=.fields #[.ref l,.int 0 0]}).IsListIter s.heap.objs.size l 0:=⟨_,W5 _ rfl,rfl,rfl⟩;have SO:(s.heap.push {cls:=.type "list_iterator",data:=.fields #[.ref l,.int 0 0]}).IsList l (x::r).toArray:=by
  obtain⟨o,ho,h2⟩:=hl;exact⟨o,Ww _ ho,h2⟩
 have kp:∀b o,s.heap.get? b=some o->(s.heap.push {cls:=.type "list_iterator",data:=.fields #[.ref l,.int 0 0]}).get? b=some o:=λb o e=>Ww _ e;generalize hI:s.heap.objs.size=it at *
 have DU:∀b o,s.heap.get? b=some o->b≠it:=λb o e z=>by
  have:=WB e;rw[hI,z]at this;exact Yw _ this
 generalize s.heap.push {cls:=.type "list_iterator",data:=.fields #[.ref l,.int 0 0]}=h0 at *
 refine Wh (Xv ?_);show WT _ _ (pyNext (.ref it) >>= _) _ _ _;refine Wh (wpAny_pyNext_list_item hit SO (x:=x) rfl λh1 LU M9=>?_);refine Wh (Xv (Wu (Wu ?_)));rw[if_neg (by simp)]
 have LR:h1.IsList l (x::r).toArray:=by
  obtain⟨o,ho,h2⟩:=SO;exact⟨o,M9.extBut _ _ gT ho,h2⟩
 have hb:∀b∈[it,l],b<h1.objs.size:=λb hb=>by
  rcases Ws.mp hb with rfl|hb
  ·obtain⟨o,ho,_⟩:=LU;exact WB ho
  ·rw[Wx.mp hb];obtain⟨o,ho,_⟩:=LR;exact WB ho
 refine Wh (Xv (wpAny_collect_iter (T:="list_iterator") (.inr (.inr (.inl rfl))) (qv (n:=r.length) (Walks.list (A:=A.in1) hh it l gT (x::r).toArray).toS) (λi s z=>z.1.typeIs) ⟨LU,LR⟩ hb (by simp) (λs' acc mv hi=>?_) hz))
 obtain⟨e1,e2⟩:=hi;have er:acc.toList=r:=by
  refine Yu λj=>?_;rw[WM];cases hj:acc[j]? with
  |some v =>
   have:=e2 j v hj;simpa using this.symm
  |none =>
   have:=Array.getElem?_eq_none_iff.mp hj;rw[e1]at this;exact(XU this).symm
 rw[er,if_neg (by simp)]
 obtain⟨m1,m2,m3,m4,m5⟩:=mv;have et:List.take (r.length-(2-1-1)) r=r:=XM (by simp)
 have ed:List.drop (r.length-(2-1-1)) r=[]:=Yn (by simp)
 rw[et,ed];refine Wh (YL (Wu ?_) (by seq_fits))
 have es:s'={s with heap:=s'.heap,toks:=s'.toks}:=by
  obtain⟨a,b,c,d,e⟩:=s';cases m2;cases m3;cases m4;rfl
 have k2:∀b o,s.heap.get? b=some o->s'.heap.get? b=some o:=λb o e=>m1 b o (by
  intro z;exact DU b o e (Wx.mp z)) (M9.extBut b o (DU b o e) (kp b o e))
 have:=q s'.heap s'.toks k2;rw[es];exact this
section
variable {X:Cx}{C:Cfg}{p:Bool}{e:Expr}{φ:aS}{i j kk:Nat}{x y:Str}{px py tp sp pos:Pos}
def Ma (K:PySem.W.Frag)(i j:Nat):TG:=λv σ H Q=>∃a x0 xs,v=.ref a/\eC K H a (x0::xs)/\xs.length<=1000000/\∀S,H S=none->Q ((σ.set i (some x0)).set j (some (.ref S))) (upd H S (.lst xs))
theorem CZ (hc:X.calm=true)(hN:X.N.Nodup)(hi:X.N[i]?=some x)(hj:X.N[j]?=some y)(hx:Loc X.env.scope x)(hy:Loc X.env.scope y)
  (hf:X.fn x=true\/X.env.scope.names.lookup x=some .local) (QS:X.fn y=true\/X.env.scope.names.lookup y=some .local)
  (hn:(X4 [.Name x px,.Starred (.Name y py) sp] X.env).length=2:=by rfl) (mV:(X4 [.Name x px,.Starred (.Name y py) sp] X.env).findIdx? (·.1)=some 1:=by rfl)
  (hs:(X4 [.Name x px,.Starred (.Name y py) sp] X.env).map (·.2)=[assign (.Name x px) X.env,assign (.Name y py) X.env]:=by rfl) :
  PG X (.Tuple [.Name x px,.Starred (.Name y py) sp] kk tp) (Ma X.K i j):=by
 intro pins s σ H v u Q I r hw;obtain⟨a,x0,xs,rfl,hq,hz,hw⟩:=hw;cases r;obtain⟨its,rv,ht,_⟩:=I.list hq;cases rv with
 |cons r0 rr =>
  have JP:xs.length<=WA:=W8 hz (by rw[WY];lia)
  rw[assign_Tuple];refine Wh (YJ ?_);unfold unpack;rw[hn,mV];refine Wh (Xv (qy (I.ok.hd hc) ht.isList (by rw[<- rr.length];exact JP) λh1 tk k=>?_))
  have I1:Inv X pins σ H {s with heap:=h1,toks:=tk}:=I.kept k
  have I2:=I1.zY (t':=tk) rr JP;have hS:H h1.objs.size=none:=I1.bq.fresh (Wl _);rw[hs];refine assignInOrder_cons (bx (o_ hN hi hx hf pins _ σ _ x0 _ (λσ' H'=>Q (σ'.set j (some (.ref h1.objs.size))) H') I2 r0 (hw _ hS)) λ_ s1 hq=>?_);obtain⟨σ1,H1,I3,q3⟩:=hq;refine assignInOrder_cons (bx (o_ hN hj hy QS pins s1 σ1 H1 (.ref h1.objs.size) _ Q I3 rfl q3) λ_ s2 hq=>?_);exact Wu hq
theorem C4 (he:∀U,PQ X (C.u U) p e φ)(hc:X.calm=true)(hN:X.N.Nodup)(hi:X.N[i]?=some x:=by rfl)(hj:X.N[j]?=some y:=by rfl)(hx:Loc X.env.scope x:=by first|exact .inl rfl|exact .inr rfl)(hy:Loc X.env.scope y:=by first|exact .inl rfl|exact .inr rfl)
  (hf:X.fn x=true\/X.env.scope.names.lookup x=some .local:=by first|exact .inl rfl|exact .inr rfl|assumption) (QS:X.fn y=true\/X.env.scope.names.lookup y=some .local:=by first|exact .inl rfl|exact .inr rfl|assumption)
  (hs:swapsWithSole [.Tuple [.Name x px,.Starred (.Name y py) sp] kk tp] e pos.line X.env=pure false:=by rfl) (hw:swappedStores [.Tuple [.Name x px,.Starred (.Name y py) sp] kk tp] e X.env=pure none:=by rfl)
  (h1:(X4 [.Tuple [.Name x px,.Starred (.Name y py) sp] kk tp] X.env).map (·.2)=[assign (.Tuple [.Name x px,.Starred (.Name y py) sp] kk tp) X.env]:=by rfl) :
  PB X C (.Assign [.Tuple [.Name x px,.Starred (.Name y py) sp] kk tp] e pos) (λE β=>φ β λd k β'=>∃d1 ds,d=.lst (d1::ds)/\D.bJ (d1::ds)=true/\ds.length<=1000000/\E.nx ((β'.set i (some (.val true d1))).set j (some (.own (.lst ds))))) :=
 ⟨λE E' β l q=>(he λ_=>False).mono _ _ _ (λd k β' q=>by obtain⟨d1,ds,e,f,hl,q⟩:=q;exact⟨d1,ds,e,f,hl,l.nx _ q⟩) q,λpins s σ H D I IB=> by
  obtain⟨Z,E,β,⟨own,sq,n⟩,q,ok⟩ := IB;refine t_ (he λa=>H a=none).pe (CZ hc hN hi hj hx hy hf QS) hs hw h1 pins s σ H D I ?_;refine tQ.of (he λa=>H a=none) (sq.qu (C:=C.z) (U:=λa=>H a=none) λa z=>z) q λd k β' v H' a3 hq o r=>?_;obtain⟨d1,ds,rfl,f,hl,q⟩:=hq;obtain⟨a,vs,rfl,ha,_,v0,vr,rfl,T5,RY⟩:=r.rep;obtain⟨f1,f2⟩:=YW.mp f;have ll:vr.length<=1000000:=by rw[RY.length];exact hl
  refine⟨a,v0,vr,rfl,eC.of ha,ll,λS hS=>?_⟩;have sm:ay H' (upd H' S (.lst vr)):=ay.new hS;have s0:=o.sq.same sm;have s1:=s0.dD (i:=i) (y:=true) (aD.flat f1 (T5.same sm));have ow:Own X.prog X.w (upd H' S (.lst vr)) (.lst ds) (.ref S) [S]:=⟨S,vr,[],rfl,aE,rfl,gN (W:=λ_=>False) f2 (ao.flat f2 (RY.same sm))⟩;have nw:¬ Wn a3 S:=λh=>by obtain⟨k,hk⟩:=h;exact(o.sq.dm k S hk).1 hS
  have s2:=s1.t5 (i:=j) ow (by simp) λc hc=>by
   rw[Wx.mp hc];exact⟨Xs λz=>o.sq.iG S z hS,λz=>nw (eD z),o.sn.free hS⟩
  refine ok.nx _ _ _ ⟨_,s2,?_⟩ q;have m:=n.trans (o.sn.same sm);exact⟨λb hq=>by
   obtain⟨k,hk⟩:=hq
   by_cases SU:j=k
   ·rw[<- SU,os_eq]at hk;rw[Wx.mp hk];exact .inr (n.free (o.sn.free hS))
   ·rw[bg SU]at hk;exact m.w b (eD ⟨k,hk⟩),m.k,m.d⟩⟩
end
end L2.Q
namespace L2
open PySem PySem.Spec PySem.SeqAt PyProof.Rows
def uR:List D->Option (List Bool)
 |[]=>some []
 |.bl b::ds=>(uR ds).map (b::·)
 |_::_=>none
theorem wj:∀{ds:List D} {bs:List Bool},uR ds=some bs->ds=bs.map D.bl
 |[],_,h=>by cases h;rfl
 |d::ds,bs,h=>by
  cases d with
  |bl b =>
   obtain⟨r,h1,rfl⟩:=WQ.mp (show (uR ds).map (b::·)=some bs from h)
   rw[wj h1];rfl
  |_=>cases h
theorem sC:∀bs:List Bool,uR (bs.map D.bl)=some bs
 |[]=>rfl
 |b::bs=>by show (uR (bs.map D.bl)).map (b::·)=_;rw[sC bs];rfl
def Br:List D->Option D
 |[d]=>d.xk.bind λds=>(uR ds).map λbs=>.bl (bs.any id)
 |_=>none
theorem p6 (bs:List Bool):Br [.lst (bs.map D.bl)]=some (.bl (bs.any id)):=by
 show (uR (bs.map D.bl)).map _=_;rw[sC];rfl
section
variable {P:Wq}{w:WC}{W:Addr->Prop}{H:Hp}
theorem qN:∀{bs:List Bool} {vs:List V},ao P w W H (bs.map D.bl) vs->vs=bs.map V.bl
 |[],_,h=>h
 |b::bs,_,l_=>by obtain⟨v,r,e,h1,h2⟩:=l_;rw[e,show v=.bl b from h1,qN h2];rfl
end
theorem qw:∀{bs:List Bool} {us:List Wg},Vals (bs.map V.bl) us->us=bs.map Value.bool
 |[],_,.nil=>rfl
 |b::bs,_,.cons r q=>by rw[W3,<- qw q,show _=Value.bool b from r]
variable {X:Cx}
theorem dz (hc:X.calm=true):aX X (.builtin "any") Br:=by
 intro pins s σ H xs us Q I r h;obtain⟨W,ds,d,hd,r1,e,q⟩:=h
 match ds,e with
 |[x],e =>
  obtain⟨es,e1,e2⟩:=WL.mp (show x.xk.bind _=some d from e)
  obtain⟨bs,e3,rfl⟩:=WQ.mp e2;rw[D.pJ e1,wj e3]at r1;obtain⟨x,rfl,p,vs,rfl,h1,n1,q1⟩:=kA r1;obtain⟨u,rfl,ru⟩:=vals1 r;cases ru;rw[qN q1]at h1;obtain⟨its,r2,ht,hz⟩:=I.list (eC.of h1);obtain rfl:=qw r2;obtain⟨ol,gl,_⟩:=id ht.isList;have lt:p<s.heap.objs.size:=WB gl;have Wk:=Walks.list (prog:=X.prog) (w:=X.w) (A:=X.A.in1) (I.ok.hd hc) s.heap.objs.size p (WZ lt) (bs.map Value.bool).toArray;refine call_any_walk (ZN ht.isList ⟨s.heap.objs.size,_,_,_,_,_,λj=>bs.getD j false,rfl,Wk,⟨⟨_,W5 _ rfl,rfl,rfl⟩,ht.isList.push _⟩,λj v s' Q' E' hv hq=>?_,λh' tk k=>?_⟩)
  ·have hv:((bs.map Value.bool).toArray)[j]?=some v:=hv;rw[List.getElem?_toArray,WH]at hv;obtain⟨b,hb,rfl⟩:=WQ.mp hv;have hq:Q' (bs.getD j false) s':=hq;rw[Xr,hb]at hq;exact X2 hq
  ·have ea:((Xd (bs.map Value.bool).toArray.size).any λj=>bs.getD j false)=bs.any id:=by
    rw[Bool.eq_iff_iff,Zn,Zn];constructor
    ·rintro⟨j,hj,hb⟩;rw[Xr]at hb;cases hg:bs[j]? with
     |none=>rw[hg]at hb;cases hb
     |some b=>rw[hg]at hb;exact⟨b,W_ hg,hb⟩
    ·rintro⟨b,hb,ht⟩;obtain⟨j,hj⟩:=YU hb;refine⟨j,?_,by rw[Xr,hj];exact ht⟩
     rw[Xz];have:=(WI.mp hj).1;simpa using this
   rw[ea];exact⟨.bl (bs.any id),H,I.kept (t':=tk) λb o e=>k b o (by
    have:=WB e;simp only[Wx];exact WZ this) (Ww _ e),rfl,q _ _ (ay.refl _) rfl⟩
namespace Q
section
end
end Q
def Apart (t u:List Int):Prop:=lG t u=false/\uS t u=false
def Good (rows ts:List (List Int)):Prop:=(∀t∈ts,t∈rows)/\ts.Pairwise (λa b=>HT.lexLt a b=true)/\ts.Pairwise Apart
theorem fc {t u:List Int}:lG t u=true↔∃i∈t,i∈u:=by
 unfold lG;rw[Zn];simp
theorem qH (t u:List Int):lG t u=lG u t:=by
 rw[Bool.eq_iff_iff,fc,fc];exact⟨λmW=>by obtain⟨i,a,b⟩:=mW;exact⟨i,b,a⟩,λuw=>by obtain⟨i,a,b⟩:=uw;exact⟨i,b,a⟩⟩
theorem uT {a b c d:Int}:p7 a b c d=true↔(a<c/\c<b/\b<d)\/(c<a/\a<d/\d<b):=by
 unfold p7;simp[Zw,Xi]
theorem sI (t u:List Int):uS t u=uS u t:=by
 match t,u with
 |[a,b],[c,d] =>
  exact Bool.or_comm _ _
 |[],[]=>rfl
 |[],[_]=>rfl
 |[],[_,_]=>rfl
 |[],_::_::_::_=>rfl
 |[_],[]=>rfl
 |[_],[_]=>rfl
 |[_],[_,_]=>rfl
 |[_],_::_::_::_=>rfl
 |[_,_],[]=>rfl
 |[_,_],[_]=>rfl
 |[_,_],_::_::_::_=>rfl
 |_::_::_::_,[]=>rfl
 |_::_::_::_,[_]=>rfl
 |_::_::_::_,[_,_]=>rfl
 |_::_::_::_,_::_::_::_=>rfl
theorem Apart.symm {t u:List Int}(h:Apart t u):Apart u t:=⟨(qH u t).trans h.1,(sI u t).trans h.2⟩
theorem Apart.ne {t u:List Int}(p:Pair t)(h:Apart t u):t≠u:=λe=>by
 obtain⟨a,b,rfl⟩:=p;have:=h.1;rw[<- e,Zj]at this;exact this (fc.mpr ⟨a,by simp,by simp⟩)
theorem AF {rows l:List (List Int)}(p:Pairs l):Good rows (eF l)↔(∀t∈l,t∈rows)/\l.Pairwise Apart:=by
 have pm:=cq l;have ps:Pairs (eF l):=λt ht=>p t (pm.mem_iff.mp ht);constructor
 ·rintro⟨h1,_,h3⟩;exact⟨λt ht=>h1 t (pm.mem_iff.mpr ht),(pm.pairwise_iff λh=>Apart.symm h).mp h3⟩
 ·rintro⟨h1,h3⟩;have S_:(eF l).Pairwise Apart:=(pm.pairwise_iff λh=>Apart.symm h).mpr h3;refine⟨λt ht=>h1 t (pm.mem_iff.mp ht),?_,S_⟩;have nd:(eF l).Pairwise (λa b=>a≠b):=S_.imp_of_mem λha _ h=>h.ne (ps _ ha);refine((fS l).and nd).imp λ{a b} ⟨h,n⟩=>?_;cases q:HT.lexLt a b with
  |true=>rfl
  |false=>exact absurd (dP q h) n
def B7:List Int->List Int
 |[a,b]=>[if b<a then b else a,if a<b then b else a]
 |t=>t
theorem Ds {n:Int}{a b:Int}(h:MK n [a,b]):B7 [a,b]=[a,b]/\B7 [b,a]=[a,b]:=by
 obtain⟨a',b',e,h1,h2,h3⟩:=h;cases e;constructor
 ·show [if b<a then b else a,if a<b then b else a]=_
  rw[if_neg (by lia),if_pos h2]
 ·show [if a<b then a else b,if b<a then a else b]=_
  rw[if_neg (show ¬ b<a by lia),if_pos h2]
theorem yA {ts ks:List (List Int)}(hs:qd ts)(hn:ts.Nodup)(h:∀x,x∈ts↔x∈ks):eF (jx ks)=ts :=
 (tV ((ZG hn (cE ks).1).mpr λx=>(h x).trans ((cE ks).2 x).symm) hs).symm
theorem Ed (t:List Int):(kD t).flat=true:=by
 have:=cS [t];show D.bJ (t.map D.int)=true;have h:(D.bJ (t.map D.int)&&true)=true:=this
 rwa [Bool.and_true]at h
theorem Hq {n:Int}{t:List Int}(h:MK n t):B7 t=t:=by
 obtain⟨a,b,rfl,h'⟩:=h;exact(Ds (n:=n) ⟨a,b,rfl,h'⟩).1
theorem Dt {n:Int}{ts:List (List Int)}(h:sW n ts):ts.map B7=ts:=by
 conv=>rhs;rw[<- List.map_id ts]
 exact Ym λt ht=>Hq (h t ht)
end L2
namespace L2.Q
open PySem PySem.Spec PySem.SeqAt PyProof.Rows
structure Bs3 (mg:Str->Option Wg):Prop extends Bs2 mg where
 sum:mg "sum" = none
def tI (p:Nat×Nat):List Int:=[(p.1:Int),(p.2:Int)]
theorem vp {α:Type}{n i:Nat}{f:Nat->α}(h:i<n):((Xd n).map f)[i]?=some (f i):=by
 rw[WH,Zx h];rfl
theorem iu {α:Type}{γ:dY}{τ:bh}{φ:aS}{l:List α}{f:α->D}{k:Kd}{sP:a_}{K:List D->Prop}(t:α->Bool)(g:α->D)(h0:fK sP sP)(hl:l.length<=WA)
  (h:∀x∈l,∀(x0:Option B) (o:List D) (J:a_->List D->Prop),o.length<WA->(t x=true->∀x0,J (x0::sP) (o++[g x]))->(t x=false->∀x0,J (x0::sP) o)->γ (f x) (sk k (f x)) (x0::sP) λβ1=>τ β1 λt β2=>if t=true then φ β2 λx kx β3=>Fo kx x/\o.length<WA/\J β3 (o++[x]) else J β2 o)
  (q:K ((l.filter t).map g)):lV γ τ φ (l.map f) k (none::sP) K:=by
 refine⟨λi β o=>i<=l.length/\(∃x0,β=x0::sP)/\o=((l.take i).filter t).map g,⟨WJ _,⟨_,rfl⟩,rfl⟩,?_,?_⟩
 ·rintro i d β o hd ⟨hi,⟨x0,rfl⟩,rfl⟩;rw[WH]at hd;obtain⟨x,hx,rfl⟩:=WQ.mp hd;have gT:i<l.length:=(WI.mp hx).1;have hle:(((l.take i).filter t).map g).length<WA:=by
   rw[Wj];have:=List.length_filter_le t (l.take i);rw[WW]at this;lia
  have e:l.take (i+1)=l.take i++[x]:=by rw[Yt,hx];rfl
  refine h x (W_ hx) x0 _ (λβ o=>i+1<=l.length/\(∃x0,β=x0::sP)/\o=((l.take (i+1)).filter t).map g) hle (λht x0=>?_) λht x0=>?_
  ·exact⟨gT,⟨_,rfl⟩,by rw[e,ZI,XB,aaa,if_pos ht];rfl⟩
  ·exact⟨gT,⟨_,rfl⟩,by rw[e,ZI,XB,aaa,if_neg (by rw[ht];simp)];simp⟩
 ·rintro β o ⟨_,⟨x0,rfl⟩,rfl⟩;rw[Wj,YA];exact⟨h0,q⟩
theorem ui {α:Type}{γ:dY}{τ:bh}{φ:aS}{l:List α}{f:α->D}{k:Kd}{sP:a_}{K:List D->Prop}(t:α->Bool)(g:α->D)(h0:fK sP sP)(hl:l.length<=WA)
  (h:∀x∈l,∀(x0 x1:Option B) (o:List D) (J:a_->List D->Prop),o.length<WA->(t x=true->∀x0 x1,J (x0::x1::sP) (o++[g x]))->(t x=false->∀x0 x1,J (x0::x1::sP) o)->γ (f x) (sk k (f x)) (x0::x1::sP) λβ1=>τ β1 λt β2=>if t=true then φ β2 λx kx β3=>Fo kx x/\o.length<WA/\J β3 (o++[x]) else J β2 o)
  (q:K ((l.filter t).map g)):lV γ τ φ (l.map f) k (none::none::sP) K:=by
 refine⟨λi β o=>i<=l.length/\(∃x0 x1,β=x0::x1::sP)/\o=((l.take i).filter t).map g,⟨WJ _,⟨_,_,rfl⟩,rfl⟩,?_,?_⟩
 ·rintro i d β o hd ⟨hi,⟨x0,x1,rfl⟩,rfl⟩;rw[WH]at hd;obtain⟨x,hx,rfl⟩:=WQ.mp hd;have gT:i<l.length:=(WI.mp hx).1;have hle:(((l.take i).filter t).map g).length<WA:=by
   rw[Wj];have:=List.length_filter_le t (l.take i);rw[WW]at this;lia
  have e:l.take (i+1)=l.take i++[x]:=by rw[Yt,hx];rfl
  refine h x (W_ hx) x0 x1 _ (λβ o=>i+1<=l.length/\(∃x0 x1,β=x0::x1::sP)/\o=((l.take (i+1)).filter t).map g) hle (λht x0 x1=>?_) λht x0 x1=>?_
  ·exact⟨gT,⟨_,_,rfl⟩,by rw[e,ZI,XB,aaa,if_pos ht];rfl⟩
  ·exact⟨gT,⟨_,_,rfl⟩,by rw[e,ZI,XB,aaa,if_neg (by rw[ht];simp)];simp⟩
 ·rintro β o ⟨_,⟨x0,x1,rfl⟩,rfl⟩;rw[Wj,YA];exact⟨h0,q⟩
theorem cG {a b:List D}(h:a.length+b.length<=1000000):Mt (.lst a) (.lst b)=some (.lst (a++b)):=by
 show (if a.length+b.length<=WA then _ else _)=_
 rw[if_pos (W8 h (by decide))]
theorem nr {n:Nat}(h:n<=1000):n<=WA:=W8 h (by decide)
theorem HU {n i:Nat}{x:Int}(hx:x=(i:Int))(h:i<n):qh n x=some i:=by
 subst hx;unfold qh;rw[if_pos (by lia),if_pos (by lia)]
 simp
theorem vo {α:Type}{n i:Nat}{f:Nat->α}{y:α}(h:i<n):((Xd n).map f).set i y=(Xd n).map λk=>if k=i then y else f k:=by
 refine Yu λk=>?_;rw[YO]
 by_cases hk:k<n
 ·rw[vp hk,vp hk,Wj,Yg]
  by_cases e:i=k
  ·rw[if_pos e,if_pos (e▸hk),if_pos e.symm]
  ·rw[if_neg e,if_neg (Zy e)]
 ·rw[XU (l:=(Xd n).map f) (by simpa using hk),XU (l:=(Xd n).map λk=>if k=i then y else f k) (by simpa using hk),if_neg (by lia)]
end L2.Q
namespace L2
open PySem PySem.Spec PySem.SeqAt PyProof.Rows
theorem pY {a b:Int}(h:tv a b):Ml (.int a) (.int b)=some (.int (a*b)):=by
 show (if tv a b then some (D.int (a*b)) else none)=_
 rw[if_pos h]
end L2
namespace L2.Q
open PySem PySem.Spec PySem.SeqAt PyProof.Rows
def oD:Option Nat->D
 |none=>.bE
 |some k=>.int (k:Int)
def g8 (a b c d:Int):Bool:=decide (a∈[c,d]) || decide (b∈[c,d]) || !decide ((decide (a<c)&&decide (c<b))=(decide (a<d)&&decide (d<b)))
def nN:List Int->List Int->Bool
 |[a,b],[c,d]=>g8 a b c d
 |_,_=>false
theorem ug {a b c d:Int}(ab:a<b)(cd:c<d)(h:nN [a,b] [c,d]=false):Apart [a,b] [c,d]:=by
 have h:g8 a b c d=false:=h;unfold g8 at h;simp only[Bool.or_eq_false_iff,decide_eq_false_iff_not,YG,decide_eq_true_eq]at h;obtain⟨⟨h1,h2⟩,h3⟩:=h;have h4:(a<c/\c<b)↔(a<d/\d<b):=by
  have:=congrArg (·=true) h3;simpa using this
 have m1:=h1;have m2:=h2;simp only[Ws,X9,or_false,not_or]at m1 m2;refine⟨Zj.mpr λz=>?_,Zj.mpr λz=>?_⟩
 ·obtain⟨i,hi,hj⟩:=fc.mp z;simp only[Ws,X9,or_false]at hi;rcases hi with rfl|rfl
  ·exact h1 hj
  ·exact h2 hj
 ·have:=uT.mp (show p7 a b c d=true from z)
  lia
theorem Jc (i j:Bool):Xf (D.bl i).pd (D.bl j).pd=decide (i=j):=by
 cases i <;> cases j <;> rfl
theorem Jk (i j:Bool):sA (.bl i) (.bl j)=some (.bl (!decide (i=j))):=pX (bO (eO i)) (bO (eO j)) (Jc i j)
def sj:FD:=λds R=>∃a b c d:Int,ds=[kD [a,b],kD [c,d]]/\R (.bl (g8 a b c d))
theorem sj.mono:fE sj:=λds R R' k mU=>by obtain⟨a,b,c,d,e,q⟩:=mU;exact⟨a,b,c,d,e,k _ q⟩
theorem jf {α β:Type}{f:α->β}:∀(l:List α) (m:Nat),(l.eraseIdx m).map f=(l.map f).eraseIdx m
 |[],_=>rfl
 |_::_,0=>rfl
 |x::l,m+1=>by
  show f x::(l.eraseIdx m).map f=f x::(l.map f).eraseIdx m;rw[jf l m]
structure wA (mg:Str->Option Wg):Prop extends Bs3 mg where
 any:mg "any" = none
theorem jV:Xp "any" = some (.builtin "any"):=by decide +kernel
theorem mq {ds:List D}{n:Nat}(h:ds.length=n):En [.lst ds]=some (.int (n:Int)):=by subst h;rfl
theorem C3 {X:Cx}{C:Cfg}{a:List Stmt}{ψ:u5}(i:Nat)(h:mJ X C a ψ):mJ X C a (λE β=>∃d,β[i]?=some (some (.own d))/\ap ψ E (β.set i (some (.val true d)))) :=
 ⟨λE E' β l q=>by obtain⟨d,e,q⟩:=q;exact⟨d,e,h.mono E E' _ l q⟩,h.ps.pre λD σ H z=>by
  obtain⟨Z,E,β,⟨own,s,n⟩,⟨d,e,q⟩,ok⟩:=z;exact⟨Z,E,_,⟨_,s.freeze e,jB n⟩,q,ok⟩⟩
def wy (i j:Int):Prop:=i.natAbs<2 ^ 2000/\j.natAbs<2 ^ 2000
instance (i j:Int):Decidable (wy i j):=by unfold wy;infer_instance
theorem bits_le {i:Int}(h:i.natAbs<2 ^ 2000):Builtin.Int.intBits i<=2 ^ 20:=by
 unfold Builtin.Int.intBits
 split
 ·exact WJ _
 ·rename_i hz
  have h0:i.natAbs≠0:=λz=>hz (by rw[Int.natAbs_eq_zero.mp z];rfl)
  have:=(Nat.log2_lt h0).mpr h;exact W8 this (by decide)
def FN:D->D->Option D:=jP λi j=>if wy i j then some (.int (i*j)) else none
def Mj:D->D->Option D:=jP λi j=>if 0<=j then some (.int (i / 2 ^ j.toNat)) else none
section
variable {X:Cx}
theorem C8:gZ X (XZ .Mult) (rI wy λi j=>.int (i*j)):=JI λ_ _ _ _ _ _ _ hc q=>mul_int q (IntMulOk.of_bits (bits_le hc.1) (bits_le hc.2))
theorem i5:bf X (XZ .Mult) FN:=nH (h:=λi j=>.int (i*j)) C8 (λ_ _ _ e=>cc e) λ_ _ _ _=>rfl
theorem C9:bf X (XZ .RShift) Mj:=nH (h:=λi j=>.int (i / 2 ^ j.toNat)) G8 (λ_ _ _ e=>cc e) λ_ _ _ _=>rfl
def mn (a b:D):Option D:=(D.iP a).bind λx=>(D.iP b).bind λy=>some (.bl (!Txt.contains y x))
theorem gg:bf X (Xm .NotIn) mn:=by
 intro pins s σ H x y v u Q I rx ry h;obtain⟨W,d1,d2,d,hd,r1,r2,e,q⟩:=h;obtain⟨a,h1,e⟩:=WL.mp e;obtain⟨b,h2,e⟩:=WL.mp e;rw[D.bR h1]at r1;rw[D.bR h2]at r2;cases e;cases (show x=.str a from r1)
 cases (show y=.str b from r2)
 exact pz pins s σ H _ _ v u Q I rx ry ⟨a,b,rfl,rfl,q _ _ (ay.refl _) rfl⟩
variable {C:Cfg}{x:Str}{pos:Pos}
theorem lK {i:Int}{t:Tok}(hm:X.mg x=some (.int i t))(hg:Gl X x:=by rfl)(hd:(x==("__debug__" : Str))=false:=by decide):PQ X C true (.Name x pos) (λβ R=>R (.int i) .own β) :=
 ⟨λ_ _ _ k h=>k _ _ _ h,(pj (v:=.int i) hg hm ⟨t,rfl⟩ hd).pre λσ H Q h=>by
  obtain⟨β,own,sq,q⟩:=h;exact q _ H own (Out.refl sq _) (KV.flat (W:=λ_=>False) rfl rfl)⟩
theorem zb {y:Str}{t:Tok}(hm:X.mg x=some (.str y t))(hg:Gl X x:=by rfl)(hd:(x==("__debug__" : Str))=false:=by decide):PQ X C true (.Name x pos) (λβ R=>R (.str y) .own β) :=
 ⟨λ_ _ _ k h=>k _ _ _ h,(pj (v:=.str y) hg hm ⟨t,rfl⟩ hd).pre λσ H Q h=>by
  obtain⟨β,own,sq,q⟩:=h;exact q _ H own (Out.refl sq _) (KV.flat (W:=λ_=>False) rfl rfl)⟩
end
end L2.Q
namespace L2
open PySem PySem.Spec PySem.SeqAt PyProof.Rows
def Ji (a b:D):Option D:=a.xk.bind λds=>b.int?.bind λk=>if 0<=k/\k<2 ^ 62/\ds.length*k.toNat<=WA then some (.lst (Xb k.toNat ds).flatten) else none
theorem jD {P:Wq}{w:WC}{W:Addr->Prop}{H:Hp}{ds:List D}{vs:List V}(h:ao P w W H ds vs):∀k:Nat,ao P w W H (Xb k ds).flatten (Xb k vs).flatten
 |0=>rfl
 |k+1=>by
  rw[Yl,YQ,Yl,YQ];exact h.append (jD h k)
theorem zF {X:Cx}:MP X (XZ .Mult) Ji:=by
 intro pins s σ H x y v u Q I rx ry h;obtain⟨W,d1,d2,d,hd,r1,r2,e,q⟩:=h;obtain⟨ds,h1,e⟩:=WL.mp e;obtain⟨k,h2,e⟩:=WL.mp e;obtain⟨⟨k0,k1,hl⟩,rfl⟩:=cc e;rw[D.pJ h1]at r1;rw[D.vR h2]at r2;obtain⟨p,vs,rfl,g1,n1,q1⟩:=r1;exact G9 pins s σ H _ _ v u Q I rx ry ⟨p,k,vs,rfl,r2,g1,by lia,by lia,by rw[q1.length];exact hl,λl rK=>q _ _ (ay.new rK) (Rp.ir hd rK (jD q1 _)) λf=>uf rK f (jD q1 _)⟩
namespace Q
theorem jS {α:Type}{f:α->D}(h:∀x,(f x).flat=true):∀l:List α,D.bJ (l.map f)=true
 |[]=>rfl
 |x::l=>by
  show ((f x).flat&&D.bJ (l.map f))=true;rw[h x,jS h l];rfl
section
end
end Q
end L2
namespace L2.Q
open PySem
def p0 (t:List Int):Int:=t.getD 0 0
def p1 (t:List Int):Int:=t.getD 1 0
def JG:List (List Int)->Int->Nat
 |[],_=>46
 |t::us,k=>if k=p1 t then 41 else if k=p0 t then 40 else JG us k
def vj (us:List (List Int))(n:Nat):List Nat:=(Xd n).map λ(k:Nat)=>JG us (k:Int)
theorem CC {us:List (List Int)}{a b:Int}{n:Nat}{F:Nat->D}(a0:0<=a)(ab:a<b)(bn:b<n):(((vj us n).map F).set a.toNat (F 40)).set b.toNat (F 41)=(vj ([a,b]::us) n).map F:=by
 unfold vj;rw[W6,vo (by lia),vo (by lia),W6]
 refine Ym λk _=>?_;show (if k=b.toNat then F 41 else if k=a.toNat then F 40 else F (JG us (k:Int)))=F (if (k:Int)=b then 41 else if (k:Int)=a then 40 else JG us (k:Int))
 by_cases h1:(k:Int)=b
 ·rw[if_pos h1,if_pos (by lia)]
 ·rw[if_neg h1,if_neg (by lia)]
  by_cases h2:(k:Int)=a
  ·rw[if_pos h2,if_pos (by lia)]
  ·rw[if_neg h2,if_neg (by lia)]
theorem oY {us:List (List Int)}{n:Nat}:(vj us n).length=n:=by unfold vj;rw[Wj,Yg]
theorem CD {n:Nat}{F:Nat->D}:(vj [] n).map F=(Xd n).map λ_=>F 46:=by unfold vj;rw[W6];rfl
theorem yJ {k:Int}:∀{us:List (List Int)},JG us k<=46
 |[]=>Wl _
 |t::us=>by
  unfold JG
  split
  ·decide
  ·split
   ·decide
   ·exact yJ
open PySem.Spec PySem.SeqAt PyProof.Rows
def sd:FD:=λds R=>∃c k:Int,ds=[.int c,.int k]/\0<=k/\k<=1000000/\∀r,R (.int r)
theorem sd.mono:fE sd:=λds R R' k h=>by obtain⟨c,i,e,h1,h2,q⟩:=h;exact⟨c,i,e,h1,h2,λr=>k _ (q r)⟩
def dW:FD:=λds R=>∃c k m:Int,ds=[.int c,.int k,.int m]/\0<=k/\k<=1000000/\0<m/\∀r,0<=r->r<m->R (.int r)
theorem dW.mono:fE dW:=λds R R' k h=>by obtain⟨c,i,m,e,h1,h2,h3,q⟩:=h;exact⟨c,i,m,e,h1,h2,h3,λr a b=>k _ (q r a b)⟩
theorem pow10 (n:Nat)(h:n<=1000):Mk (.int 10) (.int (n:Int))=some (.int (10 ^ n)) :=
 if_pos ⟨ZJ n,by lia,by decide⟩
theorem gV {i j:Int}(h:0<j):Mm (.int i) (.int j)=some (.int (i % j)):=if_pos h
theorem Ex {i j:Int}(h:0<j)(h2:j<2 ^ 200):Ms (.int i) (.int j)=some (.int (i / j)):=if_pos ⟨h,h2⟩
theorem jq {i j:Int}(h:i.natAbs<2 ^ 2000)(h2:j.natAbs<2 ^ 2000):FN (.int i) (.int j)=some (.int (i*j)):=if_pos ⟨h,h2⟩
theorem Em {i j:Int}(h:0<=j):Mj (.int i) (.int j)=some (.int (i / 2 ^ j.toNat)):=if_pos h
theorem iq {i:Int}{a:Nat}(h:i.natAbs<2 ^ a)(ha:a<=2000):i.natAbs<2 ^ 2000:=WU h (Ys (by decide) ha)
def Rw (n:Int)(ts:List (List Int)):Prop:=sW n ts/\qd ts/\ts.Nodup
theorem Rw.of {n:Int}{ts:List (List Int)}(h:sW n ts):Rw n (eF (jx ts)) :=
 ⟨λt ht=>h t (((cE ts).2 t).mp ((cq (jx ts)).mem_iff.mp ht)),fS _,(cq (jx ts)).nodup_iff.mpr (cE ts).1⟩
def sf:FD:=λds R=>∃c b m:Int,ds=[.int c,.int b,.int m]/\0<=b/\b<=1000/\0<=m/\m<=1000/\∀n ts,0<=n->n<=m->Rw n ts->ts.length<=40->R (mQ n ts)
theorem sf.mono:fE sf:=λds R R' k h=>by obtain⟨c,b,m,e,h1,h2,h3,h4,q⟩:=h;exact⟨c,b,m,e,h1,h2,h3,h4,λn ts a b c d=>k _ (q n ts a b c d)⟩
theorem p8 {φa φb φc:aS}{β:a_}{a b c:Int}{R:D->Kd->a_->Prop}(ha:∀R:D->Kd->a_->Prop,R (.int a) .own β->φa β R)(hb:∀R:D->Kd->a_->Prop,R (.int b) .own β->φb β R)(hc:∀R:D->Kd->a_->Prop,R (.int c) .own β->φc β R)
  (q:R (.bl (decide (a<b)&&decide (b<c))) .own β):o7 φa (GI Rj φb (GJ Rj φc)) β R:=by
 refine ha _ (hb _ ⟨_,rfl,nX (λz1=>hc _ ⟨_,rfl,?_⟩) (λz1=>?_)⟩)
 ·simpa[z1] using q
 ·simpa[z1] using q
theorem nh {β:Q.a_}{i m:Nat}{x:Int}{t:List Int}(h1:β[i]?=some (some (.val false (kD t))))(h2:t[m]?=some x):∀R:D->Kd->Q.a_->Prop,R (.int x) .own β->wW uO NF true (KG i) (qC (.int (m:Int))) β R:=λR r =>
 ⟨_,h1,trivial,.int x,Eo (by rw[WH,h2];rfl),r⟩
def se:FD:=λds R=>∃(c b n:Int) (rows:List (List Int)),ds=[.int c,.int b,mQ n rows]/\0<=b/\b<=1000/\sW n rows/\rows.length<=400/\∀ts,Good rows ts->ts.length<=30->R (.lst (ts.map kD))
theorem se.mono:fE se:=λds R R' k h=>by obtain⟨c,b,n,rows,e,h1,h2,h3,h4,q⟩:=h;exact⟨c,b,n,rows,e,h1,h2,h3,h4,λts a b=>k _ (q ts a b)⟩
theorem CL {n:Nat} (h:n<=1000):Ji (.lst [.str "."]) (.int (n:Int))=some (.lst ((vj [] n).map λc=>D.str (bb c))):=by
 unfold Ji;rw[show D.xk (.lst [.str "."])=some [.str "."] from rfl,show D.int? (.int (n:Int))=some (n:Int) from rfl,Option.bind_some,Option.bind_some]
 rw[if_pos ⟨ZJ n,by lia,by rw[XT,Xn,WY];lia⟩,XT,Mz,CD]
 simp[List.map_const']
def A8:FD:=λds R=>∃(n:Nat) (ts:List (List Int)),ds=[.int (n:Int),.lst (ts.map kD)]/\n<=1000/\sW n ts/\R (.str (aG (vj ts.reverse n)))
theorem A8.mono:fE A8:=λds R R' k h=>by obtain⟨n,ts,e,h1,h2,q⟩:=h;exact⟨n,ts,e,h1,h2,k _ q⟩
theorem uD {γ:dY}{ψ:u5}{E:bZ}{ds:List D}{k:Kd}{β:a_}(I:Nat->a_->Prop)(h0:I 0 β)(h1:∀E':bZ,(∀d β,E.rt d β->E'.rt d β)->∀i:Nat,(∀β,I (i+1) β->E'.nx β)->∀d β,ds[i]?=some d->I i β->γ d (sk k d) β λβ1=>ψ E' β1)
  (h2:∀β,I ds.length β->E.nx β):AQ γ ψ E ds k β:=⟨I,h0,λi d β e q=>h1 (E.lp (I (i+1))) (λ_ _ q=>q) i (λ_ q=>q) d β e q,h2⟩
theorem Tv {E:bZ}{ψ:u5}{E':bZ}{β:a_}(h:ψ E' β):(E.up (ap ψ E')).nx β:=h
theorem F_ {τ:bh}{ψ:u5}{E:bZ}{β:a_}(V:Nat->a_->Prop)(h0:∃m,V m β)
  (h1:∀(E':bZ) (Q:a_->Prop),(∀β,E.nx β->Q β)->∀m,(∀m' β,m'<m->V m' β->E'.nx β)->∀β,V m β->τ β λt β1=>if t=true then ψ E' β1 else Q β1):yq τ ψ E β :=
 ⟨V,h0,λm β v=>h1 {nx:=λβ'=>∃m',m'<m/\V m' β',rt:=E.rt,bk:=E.nx,ct:=λβ'=>∃m',m'<m/\V m' β'} E.nx (λ_ q=>q) m (λm' _ l v=>⟨m',l,v⟩) β v⟩
end L2.Q
namespace oM
open PySem L2 L2.Q
section
variable (K:PySem.W.Frag)(mg:Str->Option Wg)(f:Addr)(fd:Xa)
abbrev D0:Prop:=Df K mg "_law_stir" fk ["cell","k"] f fd
abbrev D1:Prop:=Df K mg "_law_digit" d3 ["cell","k","many"] f fd
abbrev D2:Prop:=Df K mg "_law_spoilt" dc ["text","cell"] f fd
abbrev D3:Prop:=Df K mg "_law_class" d4 ["e"] f fd
abbrev D4:Prop:=Df K mg "_law_due" gG ["word"] f fd
abbrev D5:Prop:=Df K mg "_law_number" de ["word"] f fd
abbrev D6:Prop:=Df K mg "_law_row_due" cN ["text"] f fd
abbrev D7:Prop:=Df K mg "_law_set_due" cM ["text"] f fd
abbrev D8:Prop:=Df K mg "row_of" fU ["many","ties"] f fd
abbrev D9:Prop:=Df K mg "number_in" dZ ["text","longest"] f fd
abbrev NG:Prop:=Df K mg "pair_in" gD ["text"] f fd
abbrev RK:Prop:=Df K mg "read_row" dG ["text"] f fd
abbrev RF:Prop:=Df K mg "_law_row" gF ["cell","begin","most"] f fd
abbrev ND:Prop:=Df K mg "arcs_in" gH ["text"] f fd
abbrev RE:Prop:=Df K mg "read_brackets" bH ["text"] f fd
abbrev Tn:Prop:=Df K mg "_law_told" fg ["kind","text"] f fd
abbrev NC:Prop:=Df K mg "_law_meet" fm ["one","other"] f fd
abbrev RD:Prop:=Df K mg "_law_set" gE ["cell","begin","row"] f fd
abbrev RC:Prop:=Df K mg "_law_brackets" cu ["many","ties"] f fd
abbrev Tj:Prop:=Df K mg "_law_text" fh ["cell"] f fd
end
section
variable {P:Wq}{w:WC}{K:PySem.W.Frag}{mg:Str->Option Wg}{base:Heap}
theorem j7:aU ["cell","k","number"] ["cell","k"] (aw fk):=mkS
theorem Di {jm d8} (pU:D0 K mg jm d8):a9 P w K mg base c6 1 jm d8 ["cell","k"] (eG P w true sd):=by
 refine tw pU.F j7 (λds R h=>by obtain⟨c,k,e,_⟩:=h;subst e;rfl) λbW A outer s H E hr=>⟨_,(aj (a6 (i:=2) (aN aP aM (aN aP aM (aN ai (bf.m gP) (af (i:=0)) (aN ai (bf.m pB) ak ak)) (aN ai (bf.m i5) ak (af (i:=1)))) ak) j7.nd)
    (ax (aY (aN ai (bf.m gP) (aN ai (bf.m Dc) (aN ai (bf.m i5) (aN ai (bf.m i5) (af (i:=2)) (aN aP aM (af (i:=2)) (aN ai (bf.m i5) ak (af (i:=1))))) (aN aP aM (af (i:=2)) ak)) ak) (aN ai (bf.m pB) ak ak))))),λds R h=>?_⟩
 obtain⟨c,k,rfl,k0,k1,q⟩:=h;have k2:k.natAbs<2 ^ 2000:=iq (a:=30) (by lia) (by decide)
 have c3:((3:Int)).natAbs<2 ^ 2000:=iq (a:=30) (by decide) (by decide)
 have c2:((2:Int)).natAbs<2 ^ 2000:=iq (a:=30) (by decide) (by decide)
 refine⟨_,rfl,trivial,trivial,_,pow10 60 (by decide),_,gV (by decide),trivial,trivial,_,rfl,_,jq c3 k2,_,rfl,trivial,_,rfl,?_⟩
 have x0:0<=c % 10 ^ 60:=Int.emod_nonneg _ (by decide)
 have x1:c % 10 ^ 60<10 ^ 60:=ZK _ (by decide)
 generalize c % 10 ^ 60=x at x0 x1;have n1:(x+3*k+1).natAbs<2 ^ 200:=by lia
 have n2:(x+3*k+1+2*k).natAbs<2 ^ 201:=by lia
 have n3:(x+3*k+1+5).natAbs<2 ^ 201:=by lia
 generalize x+3*k+1=n at n1 n2 n3;have m1:(n*(n+2*k)).natAbs<2 ^ 401:=by
  rw[Int.natAbs_mul,show 401=200+201 from rfl,Nat.pow_add]
  exact Nat.mul_lt_mul'' n1 n2
 refine⟨_,rfl,trivial,_,rfl,trivial,trivial,_,rfl,_,jq c2 k2,_,rfl,_,jq (iq n1 (by decide)) (iq n2 (by decide)),trivial,_,rfl,trivial,_,rfl,_,jq (iq m1 (by decide)) (iq n3 (by decide)),trivial,_,Ex (by decide) (by decide),trivial,trivial,_,pow10 40 (by decide),_,gV (by decide),trivial,q _⟩
theorem o3:aU ["cell","k","many"] ["cell","k","many"] (aw d3):=mkS
theorem i8 {kL fL} (cF:D1 K mg kL fL) {jm d8} (pU:D0 K mg jm d8):a9 P w K mg base c6 2 kL fL ["cell","k","many"] (eG P w true dW):=by
 have VC:a9 P w K mg base c6 1 _ _ _ (eG P w true sd):=Di pU;refine tw cF.F o3 (λds R h=>by obtain⟨c,k,m,e,_⟩:=h;subst e;rfl) λbW A outer s H E hr=>⟨_,(aj (bz (aH ai (bf.m ud) (af (i:=0)) (aN ai (bf.m pB) ak ak)) (ax (aY (aN ai (bf.m gP) (aN ai (bf.m gP) (aN ai (bf.m C9) (af (i:=0)) (aN ai (bf.m pC) ak (af (i:=1)))) ak) (af (i:=2))))) a5)
    (ax (aY (aN ai (bf.m gP) (aJ sd.mono VC (hr.mono (by decide)) pU.m pU.F.kp pU.b (aa (af (i:=0)) (aa (af (i:=1)) ag))) (af (i:=2)))))),λds R h=>?_⟩
 obtain⟨c,k,m,rfl,k0,k1,m0,q⟩:=h;have z:(0:Int)<=16*k:=by lia
 refine⟨_,rfl,trivial,trivial,_,pow10 18 (by decide),_,rfl,_,rfl,nX (λh=>?_) (λh=>?_)⟩
 ·refine⟨_,rfl,trivial,trivial,_,rfl,_,pY (.inl ⟨by decide,by decide⟩),_,Em z,trivial,_,gV (by decide),trivial,_,rfl,_,gV m0,trivial,q _ (Int.emod_nonneg _ (by lia)) (ZK _ m0)⟩
 ·refine⟨_,rfl,trivial,_,rfl,trivial,c,k,rfl,k0,k1,λr=>⟨trivial,_,rfl,_,gV m0,trivial,q _ (Int.emod_nonneg _ (by lia)) (ZK _ m0)⟩⟩
end
end oM
namespace L2.Q
open PySem PySem.Spec PySem.SeqAt PyProof.Rows
section
end
theorem jo (a b:Str)(ha:(D.str a).ik=true:=by decide +kernel)(hb:(D.str b).ik=true:=by decide +kernel):sA (.str a) (.str b)=some (.bl (!decide (a=b))):=by
 unfold sA;rw[if_pos ⟨ha,hb⟩];show some (D.bl (!(a==b)))=_;rw[show (a==b)=decide (a=b) from Bool.eq_iff_iff.mpr (by rw[beq_iff_eq,decide_eq_true_iff])]
theorem pZ (a b:Str)(ha:(D.str a).ik=true:=by decide +kernel)(hb:(D.str b).ik=true:=by decide +kernel):ya (.str a) (.str b)=some (.bl (decide (a=b))):=by
 unfold ya;rw[if_pos ⟨ha,hb⟩];show some (D.bl (a==b))=_;rw[show (a==b)=decide (a=b) from Bool.eq_iff_iff.mpr (by rw[beq_iff_eq,decide_eq_true_iff])]
end L2.Q
namespace L2.EX
open PySem PySem.W PySem.Spec PySem.Calls PyProof.Rows Builtin Builtin.ObjectAttr Builtin.Getset_descriptor
def ExcAt (a C:Addr)(h:Heap):Prop:=∃o vs,h.get? a=some o/\o.cls=.ref C/\o.data=.fields vs
theorem ExcAt.ty {a C:Addr}{h:Heap}{M:Model}(p:ExcAt a C h):Looks M h (typeOf (.ref a)) (.ref C):=by
 obtain⟨o,vs,h1,h2,_⟩:=p;exact h2▸(Looks.ld h1).andThen .now
section
variable {prog:Wq}{w:WC}{A:Xg}{E:Wg->Wi->Prop}{s:Wi}{K:Frag}{x C:Addr}{R:Result->Wi->Prop}
theorem class_get {tp:Wg} (X:K.In s.heap) (I:ExcAt x C s.heap) (hm:mroIn K C (.type "object")=some true)
  (h:R (.ok (.ret (.ref C))) s):Zo (model prog w) A (.call (.builtin "getset_descriptor.__get__") ⟨[.builtin "object.__class__",.ref x,tp],[]⟩) R s:=by
 obtain⟨hh,g,dr,t,os⟩:=s;have L0:=I.ty (M:=model prog w);have L1:=looks_mroIn (M:=model prog w) X hm;refine codeAny_call_builtin KF.slot_gs.plain KF.entry_gs (KF.slot_gs.check _ _ _ _ _ _ _ _ KF.type_class (KF.args_gs _ _ _) ?_);unfold Yb.«getset_descriptor.__get__» descrGet;rw[dga_obj];refine Wh (Wu ?_);unfold descrGetter descrCheckInstance descrNameAndClass isInstance;simp only[KF.owner_class]
 repeat lk
 refine⟨Code.quiet_builtin _ (by decide +kernel),Zu KF.entry_class ?_⟩
 unfold Yb.«object.__class__» shownTypeOf
 repeat lk
 exact h
structure XC (K:Frag)(C:Addr):Prop where
 obj:mroIn K C (.type "object")=some true
 base:mroIn K C (.type "BaseException")=some true
 ga:findIn K (.ref C) "__getattribute__" = some (some (.builtin "BaseException.__getattribute__"))
 hook:findIn K (.ref C) "__getattr__" = some none
 cls:findIn K (.ref C) "__class__" = some (some (.builtin "object.__class__"))
theorem By {M:Model} {Ff:Wg} {Q:Unit->Wi->Prop} (X:K.In s.heap) (I:ExcAt x C s.heap) (Z:XC K C) (hq:Q () s):WT M A (Z7 "BaseException.__getattribute__" ⟨[.ref x,Ff],[]⟩) Q E s:=by
 obtain⟨hh,g,dr,t,os⟩:=s;have hk:builtinKind "BaseException.__getattribute__" = some .slot:=by decide +kernel
 have Iw:splitId "BaseException.__getattribute__" = some ("BaseException","__getattribute__"):=by decide +kernel
 have ha:=F.args_bexc_ga (.ref x) Ff;have L0:=I.ty (M:=M);have L1:=looks_mroIn (M:=M) X Z.base;simp only[Z7,hk,Iw];refine Wh ?_;unfold isInstance
 repeat lk
 exact hq
theorem sM {tk:Tok}{Q:Fin->Wi->Prop}(X:K.In s.heap)(I:ExcAt x C s.heap)(Z:XC K C)(hq:Q (.done (.ret (.ref C))) s):
  WT (model prog w) A (Yb.«object.__getattribute__» ⟨[.ref x,.str "__class__" tk],[]⟩) Q E s:=by
 obtain⟨hh,g,dr,t,os⟩:=s;have L0:=I.ty (M:=model prog w);have L1:=looks_findIn (M:=model prog w) X Z.cls;have L2:=looks_specialIn (M:=model prog w) (K:=K) X (v:=.builtin "object.__class__") (name:="__get__") (r:=some (.builtin "getset_descriptor.__get__")) (by kernel_rfl)
 have L3:=looks_takesIn (M:=model prog w) (K:=K) X (a:=.builtin "object.__class__") (r:=true) (by kernel_rfl)
 unfold Yb.«object.__getattribute__»
 repeat (first|(with_reducible refine Wh (ZD (class_get (s:=⟨hh,g,dr,t,os⟩) X I Z.obj ?_)))|(with_reducible refine ZD (class_get (s:=⟨hh,g,dr,t,os⟩) X I Z.obj ?_))|lk)
 exact hq
theorem uW {Q:Option Wg->Wi->Prop}(X:K.In s.heap)(I:ExcAt x C s.heap)(Z:XC K C)(h:Q (some (.ref C)) {s with toks:=s.toks+1}):WT (model prog w) A (getAttr? (.ref x) "__class__") Q E s:=by
 obtain⟨hh,g,dr,t,os⟩:=s;have L0:=I.ty (M:=model prog w);have L1:=looks_findIn (M:=model prog w) X Z.ga;have L2:=looks_findIn (M:=model prog w) X Z.hook;have f3:=F.attr_ValueError.ga.bind (.ref x);have H_:(Value.builtin "BaseException.__getattribute__" == Value.builtin "object.__getattribute__")=false:=by decide +kernel
 have xr:(onTheHeap (Value.ref C)&&Value.builtin "BaseException.__getattribute__" == Value.builtin "object.__getattribute__")=false:=by rw[H_];rfl
 unfold getAttr? getAttrBy? getAttrBy;refine Wh (wpAny_mkText (Wh (ZW (Xv (Wh (L0.at (Wh (L1.at ?_))))))));dsimp only;rw[if_neg (λq=>by rw[xr]at q;cases q)]
 unfold getAttrByItsOwn hookBefore onTheHeap callGetattribute boundAndCalled;dsimp only;rw[if_pos rfl];refine Wh (L2.at (Wh (ZW (Xv ?_))));simp only[Bool.false_and,Y_,if_false];refine Wh (wpAny_of_eq f3 ?_);refine ZD (codeAny_call_builtin F.attr_ValueError.ga.plain F.entry_bexc_ga (By (s:=⟨hh,g,dr,t+1,os⟩) X I Z (sM (s:=⟨hh,g,dr,t+1,os⟩) X I Z ?_)));exact handed_on rfl (Wu h)
theorem z_ (Z:XC K C):KitX K (.ref x) (.ref C) (ExcAt x C) where
 ty:=λ_ _ _ I=>I.ty
 it:=λ_ _ X _=>by
  obtain⟨cd,hc,_⟩:=WL.mp Z.obj;unfold clsIn at hc
  split at hc
  ·rename_i c' d' Vw vh ho
   intro A' Q' E' s' k q;unfold isType loadHead;exact Wh (wpAny_loadPart (k _ _ (X _ _ ho)) (Wu q))
  ·cases hc
 ne:=λh tp dd its n sl X UJ=>by
  obtain⟨cd,hc,_⟩:=WL.mp Z.obj;refine Zj.mpr λq=>?_;have e:C=tp:=Value.ref.inj (beq_iff_eq.mp q);subst e;unfold clsIn at hc
  split at hc
  ·rename_i c' d' Vw vh ho
   have z:=(X _ _ ho).symm.trans UJ;cases z
  ·cases hc
 ca:=λX I k=>uW X I Z k
end
end L2.EX
namespace L2
open PySem PySem.W PySem.Spec PyProof.Rows
abbrev kP (C a:Addr):HO:=.ext (EX.ExcAt a C)
def D.exc (C:Addr):D:=.ob (kP C)
structure JC (P:Wq)(w:WC)(outer:List Env)(H:Hp)(s:Wi)(a C:Addr)(H':Hp)(s':Wi):Prop where
 os:s'.os=s.os
 bare:ZV s'.gens
 un:Un (fR outer) [] H H' s.heap s'.heap
 bq:h9 P w H' s'.heap
 fl:∃(B:Heap) (a0:Wg),Zh B outer a (.ref C) a0 s'.heap/\(∀b,H' b≠none->∃o,B.get? b=some o) /\
  ∀b o,s.heap.get? b=some o->b∉fR outer->∃o',B.get? b=some o'/\(H b=none->o'=o)
 nt:H' a=none
 nw:s.heap.get? a=none
def wx (P:Wq)(w:WC):yd:=λouter H s E e s'=>∃(a C:Addr) (H':Hp),e=.ref a/\JC P w outer H s a C H' s'/\E (.ref C) none H'
section
variable {P:Wq}{w:WC}{H:Hp}{h h' B:Heap}
theorem nY (x:h9 P w H h){b:Addr}(e:H b≠none):∃o,h.get? b=some o:=by
 cases q:H b with
 |none=>exact absurd q e
 |some u =>
  have z:=x b u q;cases u with
  |lst xs=>obtain⟨_,_,_,_,e⟩:=z;exact⟨_,e⟩
  |tup xs=>obtain⟨_,_,_,o,e,_⟩:=z;exact⟨_,e⟩
  |dK g9=>obtain⟨_,_,_,_,o,_,_,e,_⟩:=z;exact⟨_,e⟩
  |dT g9=>obtain⟨_,_,_,_,o,_,_,e,_⟩:=z;exact⟨_,e⟩
  |set S n=>obtain⟨o,_,_,_,e,_⟩:=z;exact⟨_,e⟩
  |ins C dx fs=>obtain⟨_,_,_,e,_⟩:=z;exact⟨_,e⟩
  |own y=>obtain⟨_,e⟩:=z;exact⟨_,e⟩
  |xd fs=>obtain⟨_,⟨_,_,_,e,_⟩,_⟩:=z;exact⟨_,e⟩
  |M0 lo hi=>obtain⟨_,_,_,e⟩:=z;exact⟨_,e⟩
  |AL ob u=>obtain⟨e,_⟩:=z;exact⟨_,e⟩
  |EY ps=>exact⟨_,(show h.get? b=some _ from z)⟩
  |met f y=>exact⟨_,(show h.get? b=some _ from z)⟩
  |ext φ=>obtain⟨_,e,_⟩:=z;exact e
theorem jR (x:h9 P w H h)(st:B.StaysIn h)(aF:B.StaysIn h')(tr:∀b,H b≠none->∃o,B.get? b=some o):h9 P w H h':=λb u e =>
 (x b u e).iQ (λc v hc q=>by
  have nc:H c≠none:=by
   rcases hc with rfl|z
   ·rw[e];exact λz=>(nomatch z)
   ·rw[z];exact λz=>(nomatch z)
  obtain⟨o,ho⟩:=tr c nc;rw[st c o ho]at q;cases q;exact aF c _ ho) (λ_ q=>q) λ_ _ q=>q
end
section
variable {X:Cx}{pins:List (Addr×Obj)}{σ:St}{H H':Hp}{s s':Wi}{e C:Addr}
theorem uE {B:Heap}{outer:List Env}{h0 h1 h2:Heap}{H0:Hp}(u:Un (fR outer) [] H0 H h0 h1)(ff:h1.FunFrames B outer)(st:B.StaysIn h2)(up:h1.UpToSlots h2)
  (tr:∀b o,h0.get? b=some o->b∉fR outer->∃o',B.get? b=some o'/\(H0 b=none->o'=o)):Un (fR outer) [] H0 H h0 h2 where
 keep:=λb o e n hb _=>by
  obtain⟨o',e1,e2⟩:=tr b o e hb;rw[<- e2 n];exact st b _ e1
 slot:=λb o e n hb hx=>by
  obtain⟨sl,e1⟩:=u.slot b o e n hb hx;obtain⟨_,o',e2,nf⟩:=ff.mem hb;rw[e1]at e2;cases e2;obtain⟨vh,e3⟩:=up b _ e1 nf;exact⟨vh,e3⟩
 free:=u.free
 there:=λb o e hx=>by
  by_cases hb:b∈fR outer
  ·obtain⟨_,o',e2,nf⟩:=ff.mem hb;obtain⟨vh,e3⟩:=up b _ e2 nf;exact⟨_,e3⟩
  ·obtain⟨o',e1,_⟩:=tr b o e hb;exact⟨o',st b _ e1⟩
 h_:=u.h_
 gY:=u.gY
 ia:=u.ia
theorem uk {vs:List Wg}{hs:Heap}{M:Model}{E:Wg->Wi->Prop}{Q:Unit->Wi->Prop}(I:Inv X pins σ H s)(hx:X.ex=[])(mV:X.stack=X.env::X.outer)(hf:X.env.frame=some X.env.locals)(m:Heap.MadeExcOf s.heap hs e (.ref C) vs)
  (k:∀yN,JC X.prog X.w X.outer X.H₀ X.s₀ e C H yN->Q () yN):WT M X.A (leaving X.env (.ref e)) Q E {s with heap:=hs}:=by
 have fr:X.A.frames=some (X.env::X.outer):=by rw[<- mV];exact I.ok.frames
 have ff:s.heap.FunFrames X.base (X.env::X.outer):=by rw[<- mV];exact I.stack
 have qi:∀env∈(X.env::X.outer),∀b,env.frame=some b->b∈fR (X.env::X.outer):=λenv he b hb=>YE.mpr ⟨env,he,hb⟩;have nl:∀b o,X.s₀.heap.get? b=some o->b∉X.fs->b∉fR (X.env::X.outer):=λb o eb nb z=>by
  unfold fR at z;rw[Xj,hf]at z;rcases Ws.mp z with z|z
  ·exact absurd (WU (WB eb) I.ok.above) (by rw[z];exact Yw _)
  ·exact nb z
 have I0:∀b,b∉X.ex:=λb z=>by rw[hx]at z;cases z
 have RQ:(hideAll s.heap (fR (X.env::X.outer))).StaysIn s.heap:=λb o q=>of_hideAll _ q;refine wpAny_leaves_madeW (h:=s.heap) (base:=hideAll s.heap (fR (X.env::X.outer))) fr hf RQ (funFrames_hide ff qi) m λh' t f1 f2 f3 f4=>k _ ?_;have tr:∀b,H b≠none->∃o,(hideAll s.heap (fR (X.env::X.outer))).get? b=some o:=λb nb=>by
  obtain⟨o,ho⟩:=nY I.bq nb;exact⟨o,hideAll_get _ ho λz=>nb (I.oS b (by rw[mV];exact z))⟩
 have ve:∀b o,X.s₀.heap.get? b=some o->b∉fR X.outer->∃o',(hideAll s.heap (fR (X.env::X.outer))).get? b=some o'/\(X.H₀ b=none->o'=o):=λb o eb nb=>by
  obtain⟨o1,e1⟩:=I.base.there b o eb (I0 b);refine⟨o1,hideAll_get _ e1 (nl b o eb nb),λn=>?_⟩;rw[I.base.keep b o eb n nb (I0 b)]at e1;exact(WR e1).symm
 have u0:Un (fR X.outer) [] X.H₀ H X.s₀.heap s.heap:=by
  have z:=I.base;rw[hx]at z;exact z
 have Vk:s.heap.FunFrames (hideAll s.heap (fR (X.env::X.outer))) X.outer:=(funFrames_hide ff qi).2.2;refine⟨I.os,I.bare,uE u0 Vk f1.1 ((Heap.UpToSlots.of_keeps m.keeps).trans f4) ve,jR I.bq RQ f1.1 tr,⟨_,_,f1,tr,ve⟩,?_,?_⟩
 ·cases q:H e with
  |none=>rfl
  |some u =>
   obtain⟨o,ho⟩:=nY I.bq (b:=e) (by rw[q];exact λz=>(nomatch z))
   rw[m.new]at ho;cases ho
 ·cases q:X.s₀.heap.get? e with
  |none=>rfl
  |some o =>
   obtain⟨o',e1⟩:=I.base.there e o q (I0 e);rw[m.new]at e1;cases e1
theorem z8 {M:Model}{E:Wg->Wi->Prop}{Q:Unit->Wi->Prop}(I:Inv X pins σ H s)(hx:X.ex=[])(mV:X.stack=X.env::X.outer)(hf:X.env.frame=some X.env.locals)(f:JC X.prog X.w X.stack H s e C H' s')
  (k:∀yN,JC X.prog X.w X.outer X.H₀ X.s₀ e C H' yN->Q () yN):WT M X.A (leaving X.env (.ref e)) Q E s':=by
 have fr:X.A.frames=some (X.env::X.outer):=by rw[<- mV];exact I.ok.frames
 have I0:∀b,b∉X.ex:=λb z=>by rw[hx]at z;cases z
 obtain⟨os,bare,un,bq,⟨B,a0,fl,tr,ve⟩,nt,nw⟩:=f;rw[mV]at fl un ve;have nl:∀b o,X.s₀.heap.get? b=some o->b∉X.fs->b∉fR (X.env::X.outer):=λb o eb nb z=>by
  unfold fR at z;rw[Xj,hf]at z;rcases Ws.mp z with z|z
  ·exact absurd (WU (WB eb) I.ok.above) (by rw[z];exact Yw _)
  ·exact nb z
 refine wpAny_leaves_onW fr hf fl λh' f1 f4=>k _ ?_;have u0:Un (fR X.outer) [] X.H₀ H X.s₀.heap s.heap:=by
  have z:=I.base;rw[hx]at z;exact z
 have NQ:∀b o,X.s₀.heap.get? b=some o->b∉fR X.outer->∃o',B.get? b=some o'/\(X.H₀ b=none->o'=o):=λb o eb nb=>by
  obtain⟨o1,e1⟩:=I.base.there b o eb (I0 b);obtain⟨o',e2,e3⟩:=ve b o1 e1 (nl b o eb nb);refine⟨o',e2,λn=>?_⟩;rw[I.base.keep b o eb n nb (I0 b)]at e1;cases e1;exact e3 (I.base.free b o eb n (I0 b))
 have u1:Un (fR X.outer) [] X.H₀ H' X.s₀.heap s'.heap:=by
  refine⟨λb o eb n nb _=>?_,λb o eb n hb hx=>?_,λb o eb n hx=>?_,λb o eb hx=>?_,λb xs q=>un.h_ b xs (u0.h_ b xs q),λb o q z=>un.gY b o q (u0.gY b o q z),λb ps q=>?_⟩
  ·obtain⟨o',e1,e2⟩:=NQ b o eb nb;rw[<- e2 n];exact fl.1 b _ e1
  ·obtain⟨sl,e1⟩:=u0.slot b o eb n hb hx;have AB:b∈fR (X.env::X.outer):=by unfold fR;rw[Xj,hf];exact Wm _ hb
   obtain⟨vh,e2⟩:=un.slot b _ e1 (u0.free b o eb n hx) AB (by simp)
   exact⟨vh,e2⟩
  ·obtain⟨o',e1⟩:=u0.there b o eb hx;exact un.free b o' e1 (u0.free b o eb n hx) (by simp)
  ·obtain⟨o',e1⟩:=u0.there b o eb hx;exact un.there b o' e1 (by simp)
  ·obtain⟨m1,e1⟩:=u0.ia b ps q;obtain⟨m2,e2⟩:=un.ia b _ e1;exact⟨m1++m2,by rw[e2,Array.append_assoc]⟩
 refine⟨os.trans I.os,bare,uE u1 fl.2.2.1.2.2 f1.1 f4 NQ,jR bq fl.1 f1.1 tr,⟨B,a0,f1,tr,NQ⟩,nt,?_⟩;cases q:X.s₀.heap.get? e with
 |none=>rfl
 |some o =>
  obtain⟨o',e1⟩:=I.base.there e o q (I0 e);rw[nw]at e1;cases e1
end
abbrev Cx.x8 (X:Cx)(e:Addr):Cx:={X with A:=X.A.mark (some (.ref e)),calm:=false,xe:=λ_ _=>False}
section
variable {X:Cx}{pins:List (Addr×Obj)}{σ:St}{H H':Hp}{s s':Wi}{e C:Addr}
theorem Inv.x8 (I:Inv X pins σ H s):Inv (X.x8 e) pins σ H s :=
 ⟨⟨I.ok.mod,I.ok.kind,I.ok.glob,I.ok.blt,I.ok.above,I.ok.inj,I.ok.has,I.ok.EE,(λz=>by cases z),I.ok.frames,I.ok.E4,I.ok.FG,I.ok.bs,I.ok.xU,I.ok.pF,I.ok.pP,I.ok.gX,I.ok.AM⟩,I.os,I.bare,I.base,I.loc,I.cell,I.free,I.cR,I.pin,I.bq,I.len⟩
theorem Inv.J8 (ok:X.Ok)(I:Inv (X.x8 e) pins σ H s):Inv X pins σ H s:=⟨ok,I.os,I.bare,I.base,I.loc,I.cell,I.free,I.cR,I.pin,I.bq,I.len⟩
theorem Ec {M:Model}{A:Xg}{E:Wg->Wi->Prop}{j:Nat}{n:Str}{pos:Pos}{Q:Unit->Wi->Prop}(I:Inv X pins σ H s)(hN:X.N.Nodup)(hj:X.N[j]?=some n)(hl:X.env.scope.names.lookup n=some .local)
  (h:∀s',Inv X pins (σ.set j none) H s'->Q () s'):WT M A (do bindName X.env n .none;unbindBehindTheSuite X.env n pos) Q E s:=by
 obtain⟨m,hn,rK⟩:=id I.loc;have IU:(X.env.scope.kind==.class || (X.env.scope.kind==.module&&X.env.locals != X.env.globals))=false:=by rw[I.ok.kind];rfl
 have Bw:=I.Bw;obtain⟨oL,_,_,SJ,_⟩:=id hn;refine wpAny_nameGoes_keeps hl hn IU λh' v DW hs=>h _ ?_;have JE:h9 X.prog X.w H h':=λb ob eb=>by
  refine(I.bq b ob eb).iQ (λc w' hc q=>(hs.2 c ?_).trans q) (λ_ q=>q) λ_ _ q=>q;rintro rfl;rcases hc with rfl|hc
  ·rw[I.free]at eb;cases eb
  ·rw[I.free]at hc;cases hc
 have nL:∀b o,X.s₀.heap.get? b=some o->b≠X.env.locals:=λb o eb=>WZ (WU (WB eb) I.ok.above);refine⟨I.ok,I.os,I.bare,⟨λb o eb nb hb hx=>(hs.2 b (nL b o eb)).trans (I.base.keep b o eb nb hb hx),λb o eb nb hb hx=>?_,I.base.free,λb o eb hx=>?_,I.base.h_,I.base.gY,I.base.ia⟩,⟨_,DW,λi y v' e1 e2 e3=>?_⟩,λy c ec=>?_,I.free,I.cR,λp hp=>?_,JE,by simpa using I.len⟩
 ·obtain⟨sl,e1⟩:=I.base.slot b o eb nb hb hx;exact⟨sl,(hs.2 b (nL b o eb)).trans e1⟩
 ·obtain⟨o',e1⟩:=I.base.there b o eb hx;exact⟨o',(hs.2 b (nL b o eb)).trans e1⟩
 ·by_cases aQ:i=j
  ·subst aQ;rw[YO]at e2;rw[if_pos rfl]at e2
   split at e2 <;> cases e2
  ·rw[List.getElem?_set_ne (Zy aQ)]at e2;obtain⟨u',r',q⟩:=rK i y v' e1 e2 e3;refine⟨u',r',?_⟩;rcases q with⟨k,z⟩|⟨k,c,z,z'⟩
   ·refine .inl ⟨k,?_⟩;have ne:y≠n:=λz=>aQ (lR hN e1 (z▸hj));simp[ne,z]
   ·exact .inr ⟨k,c,z,z'.sameBut hs (Bw y c z)⟩
 ·obtain⟨w',z⟩:=I.cell y c ec;exact⟨w',z.sameBut hs (Bw y c ec)⟩
 ·obtain⟨e1,n1,ne,nf,d⟩:=I.pin p hp;exact⟨(hs.2 p.1 ne).trans e1,n1,ne,nf,d⟩
theorem JC.land {B:Heap}{a0:Wg}{h6:Heap}{t:Nat}(I:Inv X pins σ H s)(f:JC X.prog X.w X.stack H s e C H' s')(fl:Zh B X.stack e (.ref C) a0 s'.heap)(tr:∀b,H' b≠none->∃o,B.get? b=some o)
  (ve:∀b o,s.heap.get? b=some o->b∉fR X.stack->∃o',B.get? b=some o'/\(H b=none->o'=o)) (f6:Zh B X.stack e (.ref C) a0 h6) (up:s'.heap.UpToSlots h6) :
  Inv X pins σ (upd H' e (kP C e)) {s' with heap:=h6,toks:=t}:=by
 have u:=uE f.un fl.2.2.1 f6.1 up ve;obtain⟨oe,vs,g1,g2,g3,_⟩:=f6.first
 have ex:EX.ExcAt e C h6:=⟨oe,vs,g1,g2,g3⟩;have bq:h9 X.prog X.w H' h6:=jR f.bq fl.1 f6.1 tr;have ne:∀b u,H' b=some u->b≠e:=λb u q z=>by rw[z,f.nt]at q;cases q
 have Qv:h9 X.prog X.w (upd H' e (kP C e)) h6:=λb u q=>by
  by_cases hb:b=e
  ·subst hb;rw[aE]at q;cases q;exact⟨ex,⟨oe,g1⟩,λh1 h2 P_ k=> by obtain⟨o,vs,z1,z2⟩ := P_;exact⟨o,vs,k o z1,z2⟩⟩
  ·rw[aC hb]at q;exact(bq b u q).iQ (λc v _ q=>q) (λc q=>by rw[aC (ne c _ q)];exact q) λc xs q=>by rw[aC (ne c _ q)];exact q
 have u2:Un (fR X.stack) [] H (upd H' e (kP C e)) s.heap h6:=by
  refine⟨u.keep,u.slot,λb o eb nb hx=>?_,u.there,λb xs q=>?_,λb o q z=>?_,λb ps q=>?_⟩
  ·rw[aC (λz=>by rw[z,f.nw]at eb;cases eb)]
   exact u.free b o eb nb hx
  ·have z:=u.h_ b xs q;rw[aC (ne b _ z)];exact z
  ·have z':=u.gY b o q z;rw[aC (ne b _ z')];exact z'
  ·obtain⟨more,z⟩:=u.ia b ps q;exact⟨more,by rw[aC (ne b _ z)];exact z⟩
 exact I.FU (s':={s' with heap:=h6,toks:=t}) f.os u2 Qv f.bare (λb z=>nomatch z)
theorem ExcAt.stays {B h:Heap}{l:List Env}{a0:Wg}(f:Zh B l e (.ref C) a0 h):EX.ExcAt e C h:=by
 obtain⟨oe,vs,g1,g2,g3,_⟩:=f.first
 exact⟨oe,vs,g1,g2,g3⟩
theorem Jr {xA n:Str}{CA:Addr}{j:Nat}{np DT:Pos}{b₀:Stmt}{qD:List Stmt}{Q:Flow->Wi->Prop}{E:Wg->Wi->Prop}(I:Inv X pins σ H s)(mV:X.stack=X.env::X.outer)(hf:X.env.frame=some X.env.locals)
  (f:JC X.prog X.w X.stack H s e C H' s') (hm:X.mg xA=some (.ref CA)) (hg:Gl X xA) (hx:exmOne X.K (.ref C) (.ref CA)=some true) (hN:X.N.Nodup) (hj:X.N[j]?=some n) (hl:X.env.scope.names.lookup n=some .local)
  (k:∀s1,Inv (X.x8 e) pins (σ.set j (some (.ref e))) (upd H' e (kP C e)) s1->WT (model X.prog X.w) (X.x8 e).A (execs (b₀::qD) X.env)
   (λf s4=>WT (model X.prog X.w) X.A (do bindName X.env n .none;unbindBehindTheSuite X.env n DT) (λ_ s5=>Q f s5) E s4) (λ_ _=>False) s1) (hd:(xA==("__debug__" : Str))=false:=by decide) :
  WT (model X.prog X.w) X.A (noteFrame (.ref e) X.env) (λ_ s₂=>WT (model X.prog X.w) X.A (setFlight (.ref e) none) (λ_ s₃ =>
   WT (model X.prog X.w) X.A (handleBy (.ref e) X.env [.ExceptHandler (some (.Name xA np)) (some n) (b₀::qD) DT]) Q E s₃) E s₂) E s':=by
 have fr:X.A.frames=some (X.env::X.outer):=by rw[<- mV];exact I.ok.frames
 obtain⟨B,a0,fl,tr,ve⟩:=f.fl;have Vj:Zh B (X.env::X.outer) e (.ref C) a0 s'.heap:=by rw[<- mV];exact fl
 refine wpAny_looks_onW fr hf Vj λh4 L4 RV=>?_;refine wpAny_landsW L4 λh5 LY MY=>?_;have Fv:Zh B X.stack e (.ref C) a0 h5:=by rw[mV];exact LY
 have I5:Inv X pins σ (upd H' e (kP C e)) {s' with heap:=h5}:=f.land (t:=s'.toks) I fl tr ve Fv (RV.trans MY)
 refine wpAny_handleBy_cons (codeAny_handlers_test ?_) (by intro q;cases q)
 refine gQ (X:=X.x8 e) (Inv.x8 I5) hg hm ?_ hd;refine(exm_one (M:=model X.prog X.w) I5.xo (ExcAt.stays Fv).ty hx).here ?_;rw[if_pos rfl];refine codeAny_handlers_suite_as ?_;refine lands_againW LY λh6 QR TV=>?_;have LX:Zh B X.stack e (.ref C) a0 h6:=by rw[mV];exact QR
 have I6:Inv X pins σ (upd H' e (kP C e)) {s' with heap:=h6}:=f.land (t:=s'.toks) I fl tr ve LX ((RV.trans MY).trans TV)
 refine ly (X:=X.x8 e) (Inv.x8 I6) hN hj (.inl hl) (v:=.ref e) rfl (λs7 I7=>?_) (.inr hl);exact YC (k s7 I7) (λf s8 z=>z) λ_ _ z=>z.elim
end
end L2
namespace L2.Q
open PySem PySem.W PySem.Spec PySem.SeqAt PyProof.Rows
abbrev ET:=List D->(D->Prop)->(Addr->Prop)->Prop
def tj (F:ET):Prop:=∀ds R R' T T',(∀d,R d->R' d)->(∀c,T c->T' c)->F ds R T->F ds R' T'
def oT (P:Wq)(w:WC)(ro:Bool)(F:ET):Sp:=λvs H Q E=>∃ds,ao P w (λ_=>False) H ds vs/\F ds (λd=>∀v H',ay H H'->tf P w ro H H' d v->Q v H') (λcl=>∀H',ay H H'->E (.ref cl) none H')
structure Rt (X:Cx)(H0:Hp)(IO:Addr->Prop)(T:Addr->Prop):Prop where
 made:∀pins σ H s e cl hs vs,Inv X pins σ H s->Kp IO H0 H->Heap.MadeExcOf s.heap hs e (.ref cl) vs->T cl->X.xe (.ref e) {s with heap:=hs}
 pass:Passes (wx X.prog X.w) X (λcv _ H'=>∃cl,cv=.ref cl/\T cl/\Kp IO H0 H')
 own:PassesOwn (model X.prog X.w) X.A X.env X.xe
abbrev XR (H:Hp)(E:XK)(cl:Addr):Prop:=∀H',ay H H'->E (.ref cl) none H'
theorem k8 {P:Wq}{w:WC}{K:Frag}{mg:Str->Option Wg}{base:Heap}{N:List Str}{qual:Str}{scope:Zc}{f:Addr}{cd:Wg}{A:Xg}{outer:List Env}{s:Wi}{H:Hp}{E:XK}:
  Rt (kM (wx P w) P w K mg base N qual scope f cd A outer s H E) H (λ_=>False) (XR H E) where
 made:=λpins σ H1 s1 e cl hs vs I k m t=>uk I rfl rfl rfl m λyN fl=>⟨e,cl,H1,rfl,fl,t H1 λb o z=>k.out b o z λz=>z⟩
 pass:=λpins σ H1 s1 e s' I mU=>by
  obtain⟨a,cl,H',ea,fl,Vv,Rb,t,k⟩:=mU;cases ea;cases Rb;exact z8 I rfl rfl rfl fl λyN fl=>⟨a,cl,H',rfl,fl,t H' λb o z=>k.out b o z λz=>z⟩
 own:=PassesOwn.leaving
abbrev Nq:List Wg:=[.type "ValueError",.type "Exception",.type "BaseException",.type "object"]
structure Xc (K:Frag)(mg:Str->Option Wg)(x:Str)(C:Addr):Prop where
 m:mg x=some (.ref C)
 exc:excIn K C Nq "ValueError.__new__" = true
theorem Xc.own {K:Frag} {mg:Str->Option Wg} {x:Str} {C:Addr} {h:Heap} (z:Xc K mg x C) (X:K.In h):OwnCls x C Nq "ValueError.__new__" mg h:=by
 refine⟨z.m,?_⟩;have q:=z.exc;unfold excIn at q
 split at q
 ·rename_i dd cd sl ho
  split at q
  ·rename_i C' bm k0 k1 k2 k3 n k5 hm hs
   simp only[Xi,beq_iff_eq,Yv]at q;obtain⟨⟨⟨⟨⟨rfl,rfl⟩,L6⟩,ht⟩,bq⟩,Nb⟩:=q;obtain⟨nm,bs,mro,ns,qn,hd,sn,sub,ab,col,del⟩:=cd;dsimp only at hm L6 bq Nb;subst hm L6;have Iy:sl=#[k0,k1,k2,k3,some (.builtin "ValueError.__new__"),k5]:=by
    obtain⟨l⟩:=sl;simp only at hs;rw[hs]
   subst Iy;exact⟨bm,ns,nm,qn,bs,hd,sn,sub,ab,col,dd,k0,k1,k2,k3,k5,_,X _ _ ho,.of_isNs (isNs_of_in X bq),nsMap_none_of_in X bq Nb,tail_of_in X ht⟩
  ·cases q
 ·cases q
section
variable {X:Cx}{C:Cfg}{T:Addr->Prop}{x:Str}{cl:Addr}{np cpos pos Mw:Pos}{m:Str}
theorem gc {j}(Z:Rt X C.H0 C.IO T)(hc:X.calm=true)(hx:Xc X.K X.mg x cl)(hg:Gl X x:=by rfl)(hd:(x==("__debug__" : Str))=false:=by decide)
  (he:WD [.Constant (.str m) j Mw] X.env=[(false,eval (.Constant (.str m) j Mw) X.env)]:=by rfl) (hp:(Yd cpos (WD [.Constant (.str m) j Mw] X.env)).any (·.1)=false:=by rfl) :
  PB X C (.Raise (some (.Call (.Name x np) [.Constant (.str m) j Mw] [] cpos)) none pos) (λ_ _=>T cl) :=
 ⟨λ_ _ _ _ h=>h,λpins s σ H D I DP=>by
  obtain⟨_,E,β,⟨own,sq,n⟩,t,_⟩:=DP;obtain⟨tl,N,nm,q,bs,hdct,sn,sub,ab,col,dd,k0,k1,k2,k3,k5,mN,hC,hN,Nb,TL⟩:=(hx.own I.xo).obj;have FB:=PySem.F.excBase_ValueError;refine wpAny_Raise_call_subT (C:=cl) (nm:=nm) (q:=q) (N:=N) (bs:=bs) (bm:=tl) (hdct:=hdct) (sn:=sn) (sub:=sub) (ab:=ab) (col:=col) (dd:=dd) (k0:=k0) (k1:=k1) (k2:=k2) (k3:=k3) (k5:=k5)
   FB (mN:=mN) (TL.hasType FB.hasBase) (I.ok.hd hc) hp Nb (gQ I hg hx.m ⟨rfl,?_⟩ hd)
  rw[he];refine Calls.evalArgs_plain ?_;show WT _ _ (spliced ((false,eval (.Constant (.str m) j Mw) X.env)::Yd cpos [])) _ _ _;refine Calls.spliced_cons (Calls.Constant_str (Calls.spliced_nil ⟨rfl,(by show 1<=WA;decide),hC,hN,TL,λh' e mk=>?_⟩))
  exact Z.made pins σ H {s with toks:=s.toks+1} e cl h' _ (I.tok _) sq.kp mk t⟩
end
section
variable {X:Cx}{C:Cfg}{k:Nat}{f:Addr}{fd:Xa}{ps:List Str}{F:ET}{ro p:Bool}{x:Str}{pp pos:Pos}{e:Expr}{es:List Expr}{φs:bG}{T:Addr->Prop}
def KH (ro:Bool)(F:ET)(T:Addr->Prop)(φs:bG):aS:=λβ R=>φs β λds _ β1=>F ds (λd=>R d (rk ro) β1) T
theorem zc (Z:Rt X C.H0 C.IO T)(mF:tj F)(G:a9 X.prog X.w X.K X.mg X.base (wx X.prog X.w) k f fd ps (oT X.prog X.w ro F))(hr:cg k X.A)(hm:X.mg x=some (.ref f))(hk:PySem.W.keepIn X.K (.ref f)=true)(hb:Binds X.K fd ps [])(ha:ql X C p (e::es) φs)(hg:Gl X x:=by rfl)
  (hdb:(x==("__debug__" : Str))=false:=by decide)
  (iF:WD (e::es) X.env=(false,eval e X.env)::WD es X.env:=by rfl) (hpl:(Yd pos (WD es X.env)).any (·.1)=false:=by rfl) :
  PQ X C p (.Call (.Name x pp) (e::es) [] pos) (KH ro F T φs) :=
 ⟨λβ R R' k h=>ha.mono β _ _ (λds ks β1 q=>mF ds _ _ _ _ (λd q=>k _ _ _ q) (λ_ z=>z) q) h,(vB G hr hg hm hk hb .nil Z.pass ha.pa (hdb:=hdb) (he:=iF) (hpl:=hpl)).pre λσ H Q ⟨β,own,s,h⟩=>qA.of ha s h λds ks β1 vs H1 az q o1 r1=>by
  rw[XD];exact⟨ds,r1.bor,mF ds _ _ _ _ (λd q2 v H' s2 r2=>q2 v H' az (o1.same s2) (r2.kv o1.sq.uL o1.sq.iG λa z=>o1.sn.d a z)) (λc t H' s2=>⟨c,rfl,t,o1.sq.kp.trans s2.kp⟩) q⟩⟩
end
theorem mJ.mS {X:Cx}{C:Cfg}{st:List Stmt}{ψ:u5}(h:mJ X.mS C st ψ):mJ X C st ψ:=⟨h.mono,qe.mS (h.ps.pre λD σ H hq=>by obtain⟨Z,E,β,sb,q,ok⟩:=hq;exact⟨Z,E,β,sb,q,⟨ok.nx,ok.rt,ok.bk,ok.ct⟩⟩)⟩
section
variable {P:Wq}{w:WC}{K:Frag}{mg:Str->Option Wg}{base:Heap}
theorem Ho {x qual:Str}{st:Stmt}{f:Addr}{fd:Xa}{N ps:List Str}{k:Nat}{F:ET}{ro:Bool}(G:BW K x qual st f fd)(S:aU N ps (aw st))(len:∀ds R T,F ds R T->ds.length=ps.length)
  (gq:∀(bW:Wg) (A:Xg) (outer:List Env) (s:Wi) (H:Hp) (E:XK),cg k (A.deeper (ZE qual (aw st) s.heap.objs.size f bW)) ->
   ∃ψ,mJ (kM (wx P w) P w K mg base N qual (aw st) f bW A outer s H E) ⟨H,λ_=>False,ro,λ_=>False⟩ (cP st) ψ/\∀ds R,F ds R (XR H E)->ψ {nx:=λ_=>R .bE,rt:=λd _=>R d} (startB N ds)) :
  a9 P w K mg base (wx P w) (k+1) f fd ps (oT P w ro F):=by
 obtain⟨oc,od,kV,doc,pm,an,bW,ct,C6,rfl,lk,vT⟩:=G.ex;refine FE lk vT S (λvs H Q E h=>?_) (λA outer s H vs Q E hr h=>?_)
 ·obtain⟨ds,r,h⟩:=h;rw[r.length];exact len ds _ _ h
 ·obtain⟨ds,r,h⟩:=h;obtain⟨ψ,hb,hF⟩:=gq bW A outer s H E hr;refine⟨_,hb.ps,(H,Wn λ_=>[]),_,startB N ds,⟨λ_=>[],lC r,Sn.refl⟩,hF ds _ h,λσ H' β sb q=>?_,λσ H' β d v sb rr q=>?_,λ_ _ _ _ z=>z.elim,λ_ _ _ _ z=>z.elim⟩
  ·obtain⟨own,s',n'⟩:=sb;exact q _ H' (λb o e=>s'.kp.out b o e (λz=>z)) (dy (W:=λ_=>False) rfl rfl)
  ·obtain⟨own,s',n'⟩:=sb;exact q _ H' (λb o e=>s'.kp.out b o e (λz=>z)) rr
end
abbrev _root_.L2.Cx.CW (X:Cx)(pins:List (Addr×Obj))(Eh:Wg->Wi->Prop):Cx:={X with pn:=X.pn++pins,xe:=Eh}
section
variable {X:Cx}{pins gb:List (Addr×Obj)}{σ:St}{H:Hp}{s:Wi}{Eh:Wg->Wi->Prop}
theorem Hl (ok:X.Ok):(X.CW pins Eh).Ok:=⟨ok.mod,ok.kind,ok.glob,ok.blt,ok.above,ok.inj,ok.has,ok.EE,ok.hd,ok.frames,ok.E4,ok.FG,ok.bs,ok.xU,ok.pF,ok.pP,ok.gX,ok.AM⟩
theorem vQ (I:Inv X (pins++gb) σ H s):Inv (X.CW pins Eh) gb σ H s:=⟨Hl I.ok,I.os,I.bare,I.base,I.loc,I.cell,I.free,I.cR,λp hp=>I.pin p (by rw[<- Xh];exact hp),I.bq,I.len⟩
theorem zg (ok:(X.CW pins Eh).Ok):X.Ok:=⟨ok.mod,ok.kind,ok.glob,ok.blt,ok.above,ok.inj,ok.has,ok.EE,ok.hd,ok.frames,ok.E4,ok.FG,ok.bs,ok.xU,ok.pF,ok.pP,ok.gX,ok.AM⟩
theorem CU (I:Inv (X.CW pins Eh) gb σ H s):Inv X (pins++gb) σ H s:=⟨zg I.ok,I.os,I.bare,I.base,I.loc,I.cell,I.free,I.cR,λp hp=>I.pin p (by rw[<- Xh]at hp;exact hp),I.bq,I.len⟩
theorem f_ (I:Inv (X.CW pins Eh) gb σ H s):Inv X pins σ H s:=⟨zg I.ok,I.os,I.bare,I.base,I.loc,I.cell,I.free,I.cR,λp hp=>I.pin p (X1 _ hp),I.bq,I.len⟩
theorem G2 {es:List Expr}{t:TA}(h:PA X.mS es t):PA (X.CW pins Eh) es t:=λpos gb s σ H Q I q =>
 YC (h pos (pins++gb) s σ H Q ((CU I).iK _) q) (λ_ _ P9=> by obtain⟨vs,H',I',r,q⟩ := P9;exact⟨vs,H',vQ I'.cV,r,q⟩) λ_ _ z=>z.elim
theorem Gv {D:Ends}{f:Flow}{s':Wi}(h:SP (X.CW pins Eh) [] D f s'):SP X pins D f s':=by
 cases f with
 |next=>obtain⟨σ',H',I,q⟩:=h;exact⟨σ',H',f_ I,q⟩
 |brk=>obtain⟨σ',H',I,q⟩:=h;exact⟨σ',H',f_ I,q⟩
 |cont=>obtain⟨σ',H',I,q⟩:=h;exact⟨σ',H',f_ I,q⟩
 |ret u=>obtain⟨v,σ',H',I,r,q⟩:=h;exact⟨v,σ',H',f_ I,r,q⟩
end
theorem zv {X:Cx}{CX:yd}{k:Nat}{f:Addr}{fd:Xa}{ps:List Str}{sp:Sp}{x:Str}{p pos:Pos}{e:Expr}{es:List Expr}{t:TA}(F:a9 X.prog X.w X.K X.mg X.base CX k f fd ps sp)(hr:cg k X.A)(hg:Gl X x)(hm:X.mg x=some (.ref f))
  (hk:PySem.W.keepIn X.K (.ref f)=true) (hb:Binds X.K fd ps []) (ha:PA X (e::es) t) (hdb:(x==("__debug__" : Str))=false:=by decide) (he:WD (e::es) X.env=(false,eval e X.env)::WD es X.env:=by rfl)
  (hpl:(Yd pos (WD es X.env)).any (·.1)=false:=by rfl) :
  PE X (.Call (.Name x p) (e::es) [] pos) (λσ H Q=>t σ H λvs H1=>∃E:XK,sp vs H1 Q E/\∀pins s e s',Inv X pins σ H1 s->CX X.stack H1 s E e s'->X.xe e s'):=by
 intro pins s σ H Q I h;refine Y8 (gQ I hg hm ?_ hdb);refine PySem.W.callWith_K (h₀:=X.base) I.ok.mod.JN hk (bx (ha pos pins s σ H _ I h) λus s1 ⟨vs,H1,I1,r,q⟩=>⟨I1.xo,?_⟩) he hpl;obtain⟨E,q,hx⟩:=q;have r2:Vals (vs++[]) (us++[]):=r.append .nil;have hl:(us++[]).length=ps.length:=by rw[<- r2.length,XD];exact F.len _ _ _ _ q
 refine ZD (YY (F.run X.A X.stack s1 H1 ⟨us,[]⟩ (us++[]) (vs++[]) Q E hr I1.Jd (hb s1 us I1.xo hl) r2 (by rw[XD];exact q)) λr s' hq=>?_)
 cases r with
 |error e=>exact hx pins s1 e s' I1 hq
 |ok fl =>
  cases fl with
  |ret u=>exact I1.after hq
  |next=>exact XI hq
  |brk=>exact XI hq
  |cont=>exact XI hq
abbrev BR:=bZ->(Addr->Prop)->a_->Prop
structure TB (X:Cx)(C:Cfg)(body:List Stmt)(θ:BR):Prop where
 mono:∀E E' T T' β,Le E E'->(∀c,T c->T' c)->θ E T β->θ E' T' β
 run:∀(pins:List (Addr×Obj)) (s:Wi) (σ:St) (H:Hp) (D:Ends) (Eh:Wg->Wi->Prop) (Z:Hp×(Addr->Prop)) (E:bZ) (β:a_) (own:Nat->List Addr) (T:Addr->Prop),Inv X pins σ H s->SQ X C.z σ H β own->Sn Z H (Wn own)->Ti X C Z E D->θ E T β ->
  (∀s1 H1 e s',Inv X pins σ H1 s1->ay H H1->wx X.prog X.w X.stack H1 s1 (λcv _ H'=>∃cl,cv=.ref cl/\ay H1 H'/\T cl) e s'->Eh e s')->WT (model X.prog X.w) X.A (execs body X.env) (SP X pins D) Eh s
section
variable {X:Cx}{C:Cfg}{k:Nat}{f:Addr}{fd:Xa}{ps:List Str}{F:ET}{ro:Bool}{x y:Str}{pp pos cp py:Pos}{e c:Expr}{es:List Expr}{φs:bG}{a b:List Stmt}{θa θb:BR}{τ:bh}{i:Nat}
theorem Ka (hc:tG X.mS C.z true c τ)(ha:TB X C a θa)(hb:TB X C b θb):TB X C [.If c a b pos] (λE T β=>τ β λt β'=>if t=true then θa E T β' else θb E T β') where
 mono:=λE E' T T' β l m h=>hc.mono _ _ _ (λt β' q=>by
  cases t
  ·exact hb.mono E E' T T' β' l m q
  ·exact ha.mono E E' T T' β' l m q) h
 run:=λpins s σ H D Eh Z E β own T I sq n ok h hE=>by
  refine wpAny_execs_cons (bx (Q:=SP X pins D) (wpAny_If (bx (hc.pt.mS (X:=X.iK Eh) pins s σ H _ (I.iK Eh) (lq.of (X:=X.mS) hc sq h λt β' H1 az q o1=>(⟨β',az,q,o1⟩:∃β' az,(if t=true then θa E T β' else θb E T β')/\Out X C.z σ H own true β' H1 az))) λd s1 ⟨H1,I1,β',az,q1,o1⟩=>?_)) λfl s1 q=>?_)
  ·obtain⟨sm,rfl⟩:=o1.pu rfl;have S8:∀s2 H2 e s',Inv X pins σ H2 s2->ay H1 H2->wx X.prog X.w X.stack H2 s2 (λcv _ H'=>∃cl,cv=.ref cl/\ay H2 H'/\T cl) e s'->Eh e s':=λs2 H2 e s' I2 MZ q=>hE s2 H2 e s' I2 (sm.trans MZ) q;cases d with
   |true=>exact ha.run pins s1 σ H1 D Eh Z E β' az T I1.cV o1.sq (n.same sm) ok q1 S8
   |false=>exact hb.run pins s1 σ H1 D Eh Z E β' az T I1.cV o1.sq (n.same sm) ok q1 S8
  ·cases fl with
   |next=>exact Y7 q
   |ret v=>exact q
   |brk=>exact q
   |cont=>exact q
theorem yu (mF:tj F)(G:a9 X.prog X.w X.K X.mg X.base (wx X.prog X.w) k f fd ps (oT X.prog X.w ro F))(hr:cg k X.A)(hm:X.mg x=some (.ref f))(hk:PySem.W.keepIn X.K (.ref f)=true)(hb:Binds X.K fd ps [])(ha:ql X.mS C.z true (e::es) φs)(hN:X.N.Nodup)(hi:X.N[i]?=some y:=by rfl)(hy:Loc X.env.scope y:=by first|exact .inl rfl|exact .inr rfl)
  (hg:Gl X x:=by rfl) (hdb:(x==("__debug__" : Str))=false:=by decide) (iF:WD (e::es) X.env=(false,eval e X.env)::WD es X.env:=by rfl) (hpl:(Yd cp (WD es X.env)).any (·.1)=false:=by rfl)
  (B9:ZC (.Call (.Name x pp) (e::es) [] cp) (some (.Name y py)) pos.line X.env=pure false:=by rfl) (hf:X.fn y=true\/X.env.scope.names.lookup y=some .local:=by first|exact .inl rfl|exact .inr rfl|assumption) :
  TB X C [.Assign [.Name y py] (.Call (.Name x pp) (e::es) [] cp) pos] (λE T β=>φs β λds _ β1=>F ds (λd=>DG d (rk ro) λb=>E.nx (β1.set i (some b))) T) where
 mono:=λE E' T T' β l m h=>ha.mono _ _ _ (λds ks β1 q=>mF ds _ _ _ _ (λ_ q=>q.mono λ_=>l.nx _) m q) h
 run:=λpins s σ H D Eh Z E β own T I sq n ok h hE=>by
  have P:=o8 (t8 (X:=X.CW pins Eh) (pos:=pos) (pos':=py) hN hi hy (zv (X:=X.CW pins Eh) (p:=pp) (pos:=cp) G hr hg hm hk hb (G2 ha.pa) hdb iF hpl) B9 hf);refine bx (P [] s σ H D (vQ (by rw[XD];exact I)) ?_) λfl s' q=>Gv q
  refine qA.of (X:=X.mS) ha sq h λds ks β1 vs H1 az q o1 r1=>?_;obtain⟨sm,rfl⟩:=o1.pu rfl;refine⟨λcv _ H'=>∃cl,cv=.ref cl/\ay H1 H'/\T cl,⟨ds,r1.bor,mF ds _ _ _ _ (λd q2 v H' s2 r2=>?_) (λcl t H' s2=>⟨cl,rfl,s2,t⟩) q⟩,λgb s1 e s' I1 q=>hE s1 H1 e s' (f_ I1) sm q⟩;obtain⟨y',q3,r3⟩:=q2.of (C:=C.z) (Z:=(H,Wn az)) (r2.kv o1.sq.uL o1.sq.iG λa z=>o1.sn.d a z);exact ok.nx _ _ _ ⟨_,(o1.sq.same s2).dD (aD.a7 (λa z=>z.elim id λz=>z.elim) r3),jB ((n.same sm).same s2)⟩ q3
end
section
variable {P:Wq}{w:WC}{C:Cfg}{σ:St}{H:Hp}{β:a_}{own:Nat->List Addr}
theorem b6.CH {i:Nat}(b:b6 P w C σ H β own):b6 P w C (σ.set i none) H (β.set i none) (aR own i []):=by
 have sub:∀y a,ju C (Wn (aR own i [])) (yk y) a->ju C (Wn own) (yk y) a:=λy=>jt (λa h=>eD h) _;refine⟨by simp[b.len],λj y' d' e=>?_,λj d' e=>?_,λj ok e=>?_,λj a h=>b.dm j a (bp h).1,λj k a h1 h2=>b.mH j k a (bp h1).1 (bp h2).1,λj=>?_,b.kp,b.iG,λj y' d' e=>?_⟩
 ·by_cases aQ:i=j
  ·subst aQ;obtain⟨e',hl⟩:=bB e;cases e'
  ·rw[bu aQ]at e ⊢
   obtain⟨u,h1,h2⟩:=b.val j y' d' e;exact⟨u,h1,h2.a7 (sub _)⟩
 ·by_cases aQ:i=j
  ·subst aQ;obtain⟨e',hl⟩:=bB e;cases e'
  ·rw[bu aQ]at e ⊢
   rw[bg aQ];exact b.ow j d' e
 ·by_cases aQ:i=j
  ·subst aQ;obtain⟨e',hl⟩:=bB e;cases e'
  ·rw[bu aQ]at e ⊢
   rw[bg aQ];exact b.tx j ok e
 ·by_cases aQ:i=j
  ·rw[aQ,os_eq];exact Xx
  ·rw[bg aQ];exact b.qg j
 ·by_cases aQ:i=j
  ·subst aQ;obtain⟨e',hl⟩:=bB e;cases e'
  ·rw[bu aQ]at e ⊢
   rw[bg aQ];obtain⟨u,h1,h2,h3⟩:=b.shl j y' d' e;exact⟨u,h1,h2.map (λ_ _ _ z=>z) (λ_ _ r=>ao.a7 (sub _) r),h3⟩
end
section
variable {X:Cx}{C:Cfg}{body qD:List Stmt}{b₀:Stmt}{θ:BR}{ψ:u5}{j:Nat}{xA n:Str}{CA:Addr}{np DT pos:Pos}
theorem CK {P:Wq}{w:WC}{σ:St}{H H':Hp}{β:a_}{own:Nat->List Addr}{e cl:Addr}(b:b6 P w C.z σ H β own)(sm:ay H H')(nt:H' e=none):aD P w (ju C.z (Wn own) .fG) (upd H' e (kP cl e)) (.exc cl) (.ref e) :=
 ⟨e,rfl,⟨aE,λxs z=>(by cases z)⟩,λz=>by
  have b':=b.same sm;rcases z with (z|z)|z
  ·exact b'.uL e z nt
  ·exact b'.iG e z nt
  ·exact z⟩
theorem G1 (mV:X.stack=X.env::X.outer)(hf:X.env.frame=some X.env.locals)(hb:TB X C body θ)(hs:∀e,mJ (X.x8 e) C (b₀::qD) ψ)(hm:X.mg xA=some (.ref CA))(hN:X.N.Nodup)(hj:X.N[j]?=some n:=by rfl)(hl:X.env.scope.names.lookup n=some .local:=by rfl)(hg:Gl X xA:=by rfl)
  (hd:(xA==("__debug__" : Str))=false:=by decide) :
  PB X C (.Try body [.ExceptHandler (some (.Name xA np)) (some n) (b₀::qD) DT] [] [] pos)
   (λE β=>∃T:Addr->Prop,θ E T β/\∀cl,T cl->exmOne X.K (.ref cl) (.ref CA)=some true/\ψ {nx:=λβ'=>E.nx (β'.set j none),rt:=λ_ _=>False} (β.set j (some (.val true (.exc cl))))) :=
 ⟨λE E' β l P8=> by obtain⟨T,h,k⟩ := P8;exact⟨T,hb.mono E E' T T β l (λ_ z=>z) h,λcl t=>⟨(k cl t).1,(hs 0).mono {nx:=λβ'=>E.nx (β'.set j none),rt:=λ_ _=>False} {nx:=λβ'=>E'.nx (β'.set j none),rt:=λ_ _=>False} _ ⟨λβ' q=>l.nx _ q,λ_ _ z=>z,λ_ z=>z,λ_ z=>z⟩ (k cl t).2⟩⟩,λpins s σ H D I mU=>by
  obtain⟨Z,E,β,⟨own,sq,sn⟩,⟨T,h,k⟩,ok⟩:=mU;refine wpAny_Try_except (bx (hb.run pins s σ H D _ Z E β own T I sq sn ok h λs1 H1 e s' I1 sm cx=>?_) λfl s1 q=>?_)
  ·obtain⟨a,cl,H',rfl,Q8,Vv,Rb,MZ,t⟩:=cx;cases Rb;obtain⟨hx,hk⟩:=k cl t;refine Jr (X:=X) I1 mV hf Q8 hm hg hx hN hj hl (λs2 I2=>?_) hd;have s3:ay H (upd H' a (kP cl a)):=(sm.trans MZ).trans (ay.new Q8.nt);have Kq:SQ X C.z (σ.set j (some (.ref a))) (upd H' a (kP cl a)) (β.set j (some (.val true (.exc cl)))) (aR own j []):=(sq.same s3).dD (CK sq (sm.trans MZ) Q8.nt);refine bx ((hs a).ps pins s2 _ _ {nx:=λσ' H'=>D.nx (σ'.set j none) H',rt:=λ_ _=>False} I2 ⟨Z,_,_,⟨_,Kq,jB (sn.same s3)⟩,hk,⟨λσ' H' β' sb q=>?_,λ_ _ _ _ _ _ _ z=>z.elim,λ_ _ _ _ z=>z.elim,λ_ _ _ _ z=>z.elim⟩⟩) λfl s4 q=>?_
   ·obtain⟨a3,TR,TU⟩:=sb;exact ok.nx _ _ _ ⟨_,TR.CH,jB TU⟩ q
   ·cases fl with
    |next =>
     obtain⟨σ4,H4,I4,q4⟩:=q;exact Ec (X:=X) (I4.J8 I1.ok) hN hj hl λs5 I5=>⟨_,H4,I5,q4⟩
    |brk=>obtain⟨_,_,_,z⟩:=q;exact z.elim
    |cont=>obtain⟨_,_,_,z⟩:=q;exact z.elim
    |ret u=>obtain⟨_,_,_,_,_,z⟩:=q;exact z.elim
  ·cases fl with
   |next=>exact Y7 q
   |ret v=>exact q
   |brk=>exact q
   |cont=>exact q⟩
variable {e:Expr}{φ:aS}{p:Bool}{T:Str}{pp pT:Pos}{cA:Addr}
structure Xk (K:Frag)(cl:Addr)(c:Wg)(b:Bool):Prop where
 xc:EX.XC K cl
 is:kitOne K (.ref cl) c=some b
def GH (K:Frag)(c:Wg)(φ:aS):aS:=λβ R=>φ β λd _ β1=>∃cl b,d=.exc cl/\Xk K cl c b/\R (.bl b) .own β1
inductive CV:V->Wg->Prop where
 |own (a:Addr):CV (.ref a) (.ref a)
 |ty (n:String):CV (.ty n) (.type n)
theorem CV.rel {v:V}{c u:Wg}(h:CV v c)(r:RelV v u):u=c:=by
 cases h with
 |own a=>exact r
 |ty n=>exact r
theorem BB {c:Wg} {vc:V} (hc:CV vc c):fN X (.builtin "isinstance") (λxs H Q=>∃a cl b,xs=[.ref a,vc]/\H a=some (kP cl a)/\Xk X.K cl c b/\Q (.bl b) H):=by
 intro pins s σ H xs us Q I r h;obtain⟨a,cl,b,rfl,ha,z,q⟩:=h;obtain⟨u1,u2,rfl,r1,r2⟩:∃u1 u2,us=[u1,u2]/\RelV (.ref a) u1/\RelV vc u2:=by
  cases r with
  |cons r1 r =>
   cases r with
   |cons r2 r=>cases r;exact⟨_,_,rfl,r1,r2⟩
 cases r1;obtain⟨ex,_,_⟩:=I.bq a _ ha;have e2:=hc.rel r2;subst e2;exact kia_one (EX.z_ z.xc) I.xo ex z.is (λz=>by cases z) λtk=>⟨.bl b,H,I.tok _,rfl,q⟩
theorem Ja {P:Wq}{w:WC}{W:Addr->Prop}{H:Hp}{cl:Addr}{v:V}(h:aD P w W H (.exc cl) v):∃a,v=.ref a/\H a=some (kP cl a):=by
 obtain⟨a,rfl,⟨h1,_⟩,_⟩:=h;exact⟨a,rfl,h1⟩
theorem za {c:Wg} {vc:V} {ce:Expr} (hm:X.mg "isinstance" = none) (he:PQ X C p e φ) (hc:CV vc c) (U9:PE X ce (tC vc)) (hg:Gl X "isinstance" := by rfl)
  (iF:WD [e,ce] X.env=(false,eval e X.env)::WD [ce] X.env:=by rfl) (An:WD [ce] X.env=(false,eval ce X.env)::WD [] X.env:=by rfl) (hpl:(Yd pos (WD [ce] X.env)).any (·.1)=false:=by rfl) :
  PQ X C p (.Call (.Name "isinstance" pp) [e,ce] [] pos) (GH X.K c φ) :=
 ⟨λβ R R' k h=>he.mono β _ _ (λd kd β1 P7=> by obtain⟨cl,b,ed,z,q⟩ := P7;exact⟨cl,b,ed,z,k _ _ _ q⟩) h,
  (qU (BB hc) hg hm Jt (dj he.pe (dj U9 il An) iF) (by decide) (by decide) (he:=iF) (hpl:=hpl)).pre λσ H Q DP=>by
  obtain⟨β,own,s,h⟩:=DP;exact tQ.of he s h λd kd β1 v H1 az hq o1 r1=>by
   obtain⟨cl,b,ed,z,q⟩:=hq;subst ed;obtain⟨a,rfl,ha⟩:=Ja r1.rep;exact⟨a,cl,b,rfl,ha,z,q _ H1 az o1 vO⟩⟩
theorem cW (hm:X.mg "isinstance" = none) (he:PQ X C p e φ) (hT:X.mg T=some (.ref cA)) (hg:Gl X "isinstance" := by rfl) (QP:Gl X T:=by rfl) (QU:(T==("__debug__" : Str))=false:=by decide)
  (iF:WD [e,.Name T pT] X.env=(false,eval e X.env)::WD [.Name T pT] X.env:=by rfl) (An:WD [.Name T pT] X.env=(false,eval (.Name T pT) X.env)::WD [] X.env:=by rfl) (hpl:(Yd pos (WD [.Name T pT] X.env)).any (·.1)=false:=by rfl) :
  PQ X C p (.Call (.Name "isinstance" pp) [e,.Name T pT] [] pos) (GH X.K (.ref cA) φ):=za hm he (.own cA) (pj QP hT rfl QU) hg iF An hpl
theorem GQ {n:String} (hm:X.mg "isinstance" = none) (he:PQ X C p e φ) (hT:X.mg T=none) (bT:Xp T=some (.type n)) (hg:Gl X "isinstance" := by rfl) (QP:Gl X T:=by rfl) (US:T≠"__name__" := by decide) (QU:(T==("__debug__" : Str))=false:=by decide)
  (iF:WD [e,.Name T pT] X.env=(false,eval e X.env)::WD [.Name T pT] X.env:=by rfl) (An:WD [.Name T pT] X.env=(false,eval (.Name T pT) X.env)::WD [] X.env:=by rfl) (hpl:(Yd pos (WD [.Name T pT] X.env)).any (·.1)=false:=by rfl) :
  PQ X C p (.Call (.Name "isinstance" pp) [e,.Name T pT] [] pos) (GH X.K (.type n) φ):=za hm he (.ty n) (C1 QP hT bT rfl US QU) hg iF An hpl
end
def EV:List Str:=["NoRow","NoTie","NoStretch","NoWeights","NoNumber","NoSet","NoGap","NoPlace","NoShape","NoText","NoForm","NoneYet"]
structure XA (K:Frag)(mg:Str->Option Wg)(cA:Addr)(c:Nat->Addr):Prop where
 Rq:mg "ArchError" = some (.ref cA)
 nm:∀i x,EV[i]?=some x->mg x=some (.ref (c i))
 exc:∀i,i<12->excIn K (c i) Nq "ValueError.__new__" = true
 xc:∀i,i<12->EX.XC K (c i)
 is:∀i,i<12->∀j,j<12->kitOne K (.ref (c i)) (.ref (c j))=some (decide (i=j))
 val:∀i,i<12->kitOne K (.ref (c i)) (.type "ValueError")=some true
 Ta:∀i,i<12->exmOne K (.ref (c i)) (.ref cA)=some true
def NJ (K:Frag)(cA:Addr)(c:Nat->Addr):Bool:=(Xd 12).all λi=>excIn K (c i) Nq "ValueError.__new__" && (mroIn K (c i) (.type "object")==some true&&(mroIn K (c i) (.type "BaseException")==some true &&
 (findIn K (.ref (c i)) "__getattribute__" == some (some (.builtin "BaseException.__getattribute__"))&&(findIn K (.ref (c i)) "__getattr__" == some none&&(findIn K (.ref (c i)) "__class__" == some (some (.builtin "object.__class__")) &&
 (kitOne K (.ref (c i)) (.type "ValueError")==some true&&(exmOne K (.ref (c i)) (.ref cA)==some true&&(Xd 12).all λj=>kitOne K (.ref (c i)) (.ref (c j))==some (decide (i=j)))))))))
theorem J7 {K:Frag} {mg:Str->Option Wg} {cA:Addr} {c:Nat->Addr} (h:NJ K cA c=true) (a:mg "ArchError" = some (.ref cA)) (n:∀i x,EV[i]?=some x->mg x=some (.ref (c i))):XA K mg cA c:=by
 have q:∀i,i<12->_:=λi hi=>X_.mp h i (Xz.mpr hi);simp only[Xi,beq_iff_eq,X_,Xz]at q;exact⟨a,n,λi hi=>(q i hi).1,λi hi=>⟨(q i hi).2.1,(q i hi).2.2.1,(q i hi).2.2.2.1,(q i hi).2.2.2.2.1,(q i hi).2.2.2.2.2.1⟩,λi hi j hj=>(q i hi).2.2.2.2.2.2.2.2 j hj,λi hi=>(q i hi).2.2.2.2.2.2.1,λi hi=>(q i hi).2.2.2.2.2.2.2.1⟩
section
variable {K:Frag}{mg:Str->Option Wg}{cA:Addr}{c:Nat->Addr}
theorem XA.x (Z:XA K mg cA c)(i:Nat){x:Str}(h:EV[i]?=some x:=by rfl)(hi:i<12:=by decide):Xc K mg x (c i):=⟨Z.nm i x h,Z.exc i hi⟩
theorem XA.k (Z:XA K mg cA c){i j:Nat}(hi:i<12)(hj:j<12):Xk K (c i) (.ref (c j)) (decide (i=j)):=⟨Z.xc i hi,Z.is i hi j hj⟩
theorem XA.kv (Z:XA K mg cA c) {i:Nat} (hi:i<12):Xk K (c i) (.type "ValueError") true:=⟨Z.xc i hi,Z.val i hi⟩
end
theorem Js:Xp "ValueError" = some (.type "ValueError"):=by decide +kernel
end L2.Q
namespace L2
open PySem PySem.Spec PyProof.Rows
structure sZ (k:Nat)(A:Xg):Prop where
 dp:A.depth+3*k+5<recursionLimit
 un:A.units+16*k+200<Za
theorem cg.x8 {j k:Nat}{A:Xg}{e:Option Wg}(r:cg k A)(h:j<=k):sZ j (A.mark e):=⟨(r.mono h).dp,(r.mono h).un⟩
section
variable {P:Wq}{w:WC}{K:PySem.W.Frag}{mg:Str->Option Wg}{base:Heap}
abbrev Np (P:Wq)(w:WC)(K:PySem.W.Frag)(mg:Str->Option Wg)(base:Heap)(N:List Str)(qual:Str)(scope:Zc)(f:Addr)(cd:Wg)(A:Xg)(outer:List Env)(s:Wi)(H:Hp)(E:XK):Cx:={(kM c6 P w K mg base N qual scope f cd A outer s H E).mS with calm:=false}
structure Nz (P:Wq)(w:WC)(K:PySem.W.Frag)(mg:Str->Option Wg)(base:Heap)(k:Nat)(f:Addr)(fd:Xa)(ps:List Str)(sp:Sp):Prop where
 len:∀vs H Q E,sp vs H Q E->vs.length=ps.length
 run:∀(A:Xg) (outer:List Env) (s:Wi) (H:Hp) (args:Args) (us:List Wg) (vs:List V) (Q:VK) (E:XK),sZ k A->BX P w K mg base A outer s H->BindsTo s fd args (ps.zip us)->Vals vs us->sp vs H Q E ->
  Zo (model P w) A (.call (.ref f) args) (CR c6 outer P w H s Q E) s
theorem BW.Ug {x qual:Str}{st:Stmt}{f:Addr}{fd:Xa}{N ps:List Str}{k:Nat}{sp:Sp}(F:BW K x qual st f fd)(S:aU N ps (aw st))(len:∀vs H Q E,sp vs H Q E->vs.length=ps.length)
  (gq:∀(bW:Wg) (A:Xg) (outer:List Env) (s:Wi) (H:Hp) (vs:List V) (Q:VK) (E:XK),sZ k (A.deeper (ZE qual (aw st) s.heap.objs.size f bW))->sp vs H Q E ->
   ∃t,qe (Np P w K mg base N qual (aw st) f bW A outer s H E) (cP st) t/\t {nx:=λ_ H'=>Q .bE H',rt:=Q} (start N vs) H):Nz P w K mg base (k+1) f fd ps sp:=by
 obtain⟨oc,od,kV,doc,pm,an,bW,ct,C6,rfl,lk,vT⟩:=F.ex;refine⟨len,λA outer s H args us vs Q E hr e0 hb r iF=>?_⟩;have hl:=len _ _ _ _ iF;have KX:K.In s.heap:=e0.mod.JN.keeps λb o e=>(e0.bs b o e).1;have lim:s.heap.NoLimit:=e0.mod.nolimit.keeps λb o e=>(e0.bs b o e).1;have Ax:∀y∈ps.zip us,(aw st).names.lookup y.1=some .local\/((aw st).names.lookup y.1=some .cell/\((cellsFrom (s.heap.objs.size+1) (aw st).names []).lookup y.1).isSome=true):=λy hy =>
  (S.par y.1 (Zv hy).1).imp id λq=>⟨q,PySem.W.cellsFrom_some _ _ _ (.inl q)⟩
 refine codeAny_call_function (by have:=hr.dp;lia) (KX _ _ lk) rfl S.co S.gen rfl (PySem.W.codeRec_of KX vT) (hb _ _ _ _ ?_)
 refine wpAny_newFunctionEnv_cells S.kind Ax λenv he s1 x=>?_;subst he;refine⟨lim.keeps x.toInCall.keep,codeAny_func ?_⟩;obtain⟨t,ht,hq⟩:=gq bW A outer s H vs Q E ⟨by have:=hr.dp;show A.depth+1+3*k+5<_;lia,by have:=hr.un;show A.units+3+16*k+200<_;lia⟩ iF
 have J:=nS (CX:=c6) (N:=N) (scope:=aw st) (A:={A with handled:=none}) (E:=E) (f:=f) (cd:=bW) (qual:=qual) S rfl ⟨e0.frames,e0.mod,e0.bs,e0.xU,e0.gX,e0.AM,e0.bq,e0.bare⟩ hl r x
 have I:Inv (Np P w K mg base N qual (aw st) f bW A outer s H E) [] (start N vs) H s1 :=
  ⟨⟨J.ok.mod,J.ok.kind,J.ok.glob,J.ok.blt,J.ok.above,J.ok.inj,J.ok.has,J.ok.EE,(λz=>by cases z),J.ok.frames,J.ok.E4,J.ok.FG,J.ok.bs,J.ok.xU,J.ok.pF,J.ok.pP,J.ok.gX,J.ok.AM⟩,J.os,J.bare,J.base,J.loc,J.cell,J.free,J.cR,J.pin,J.bq,J.len⟩
 refine YC (ht [] s1 (start N vs) H _ I hq) (λfl s' hs=>?_) λe s' hs=>hs.elim;have fin:∀{σ':St} {H':Hp} {v:V} {u:Wg},Inv (Np P w K mg base N qual (aw st) f bW A outer s H E) [] σ' H' s'->RelV v u->Q v H'->CE outer P w H s Q u s' :=
  λ{σ' H' v u} J rv q=>⟨v,H',J.os,J.bare,J.base,J.bq,rv,q⟩
 cases fl with
 |ret u =>
  obtain⟨v,σ',H',J,rv,q⟩:=hs;exact fin J rv q
 |next =>
  obtain⟨σ',H',J,q⟩:=hs;exact fin (v:=V.bE) (u:=Value.none) J rfl q
 |brk =>
  obtain⟨_,_,_,q⟩:=hs;exact XI q
 |cont =>
  obtain⟨_,_,_,q⟩:=hs;exact XI q
end
namespace Q
open PySem.W
section
variable {P:Wq}{w:WC}{K:PySem.W.Frag}{mg:Str->Option Wg}{base:Heap}
theorem OC {x qual:Str}{st:Stmt}{f:Addr}{fd:Xa}{N ps:List Str}{k:Nat}{F:FD}{ro:Bool}(G:BW K x qual st f fd)(S:aU N ps (aw st))(len:∀ds R,F ds R->ds.length=ps.length)
  (gq:∀(bW:Wg) (A:Xg) (outer:List Env) (s:Wi) (H:Hp) (E:XK),sZ k (A.deeper (ZE qual (aw st) s.heap.objs.size f bW)) ->
   ∃ψ,mJ (Np P w K mg base N qual (aw st) f bW A outer s H E) ⟨H,λ_=>False,ro,λ_=>False⟩ (cP st) ψ/\∀ds R,F ds R->ψ (eN R) (startB N ds)) :
  Nz P w K mg base (k+1) f fd ps (eG P w ro F):=by
 refine G.Ug S (λvs H Q E h=>?_) (λbW A outer s H vs Q E hr h=>?_)
 ·obtain⟨ds,r,h⟩:=h;rw[r.length];exact len ds _ h
 ·obtain⟨ds,r,h⟩:=h;obtain⟨ψ,hb,hF⟩:=gq bW A outer s H E hr;refine⟨_,hb.ps,(H,Wn λ_=>[]),_,startB N ds,⟨λ_=>[],lC r,Sn.refl⟩,hF ds _ h,λσ H' β sb q=>?_,λσ H' β d v sb rr q=>?_,λ_ _ _ _ z=>z.elim,λ_ _ _ _ z=>z.elim⟩
  ·obtain⟨own,s',n'⟩:=sb;exact q _ H' (λb o e=>s'.kp.out b o e (λz=>z)) (dy (W:=λ_=>False) rfl rfl)
  ·obtain⟨own,s',n'⟩:=sb;exact q _ H' (λb o e=>s'.kp.out b o e (λz=>z)) rr
end
variable {X:Cx}{C:Cfg}{k:Nat}{f:Addr}{fd:Xa}{ps:List Str}{F:FD}{ro p:Bool}{x:Str}{pp pos:Pos}{e:Expr}{es:List Expr}{φs:bG}
theorem zd (mF:fE F)(G:Nz X.prog X.w X.K X.mg X.base k f fd ps (eG X.prog X.w ro F))(hr:sZ k X.A)(hm:X.mg x=some (.ref f))(hk:PySem.W.keepIn X.K (.ref f)=true)(hb:Binds X.K fd ps [])(ha:ql X C p (e::es) φs)(hg:Gl X x:=by rfl)
  (hdb:(x==("__debug__" : Str))=false:=by decide)
  (iF:WD (e::es) X.env=(false,eval e X.env)::WD es X.env:=by rfl) (hpl:(Yd pos (WD es X.env)).any (·.1)=false:=by rfl) :
  PQ X C p (.Call (.Name x pp) (e::es) [] pos) (KI ro F φs):=by
 have call:PE X (.Call (.Name x pp) (e::es) [] pos) (EZ (eG X.prog X.w ro F) [] E0 (qA X C p φs)):=by
  intro pins s σ H Q I h;refine Y8 (gQ I hg hm ?_ hdb);refine PySem.W.callWith_K (h₀:=X.base) I.ok.mod.JN hk (bx (ha.pa pos pins s σ H _ I h) λus s1 hq=>?_) iF hpl;obtain⟨vs,H1,I1,r,q⟩:=hq;have r2:Vals (vs++[]) (us++[]):=r.append .nil;have hl:(us++[]).length=ps.length:=by rw[<- r2.length];exact G.len _ _ _ _ q
  refine⟨I1.xo,ZD (YY (G.run X.A X.stack s1 H1 ⟨us,[]⟩ (us++[]) (vs++[]) Q E0 hr I1.Jd (hb s1 us I1.xo hl) r2 q) λr s' hq=>?_)⟩;cases r with
  |error e=>exact(Fb (X:=X) pins σ H1 s1 e s' I1 hq)
  |ok fl =>
   cases fl with
   |ret u=>exact I1.after hq
   |next=>exact XI hq
   |brk=>exact XI hq
   |cont=>exact XI hq
 exact⟨λβ R R' k h=>ha.mono β _ _ (λds ks β1 q=>mF ds _ _ (λd q=>k _ _ _ q) q) h,call.pre λσ H Q ⟨β,own,s,h⟩=>qA.of ha s h λds ks β1 vs H1 az q o1 r1=>by
  rw[XD];exact⟨ds,r1.bor,mF ds _ _ (λd q2 v H' s2 r2=>q2 v H' az (o1.same s2) (r2.kv o1.sq.uL o1.sq.iG λa z=>o1.sn.d a z)) q⟩⟩
end Q
end L2
namespace L2.Q
def Ev (φ:aS)(β:a_)(d:D)(k:Kd):Prop:=∀R:D->Kd->a_->Prop,R d k β->φ β R
def NA (φs:bG)(β:a_)(ds:List D)(ks:List Kd):Prop:=∀R:List D->List Kd->a_->Prop,R ds ks β->φs β R
theorem pQ {β:a_}:NA KL β [] []:=λ_ h=>h
theorem bK {φ:aS}{φs:bG}{β:a_}{d:D}{k:Kd}{ds:List D}{ks:List Kd}{pr:Bool}(h:Ev φ β d k)(hk:hold k pr)(hs:NA φs β ds ks):NA (E5 pr φ φs) β (d::ds) (k::ks):=λ_ r=>h _ ⟨hk,hs _ r⟩
theorem uI {φs:bG}{β:a_}{ds:List D}{ks:List Kd}{k:Kd}(h:NA φs β ds ks)(hl:ds.length<=1000000)(m:∀K:Kd->Prop,K k->xY ks ds K):Ev (KN φs) β (.lst ds) k:=λ_ r=>h _ ⟨W8 hl (by decide),m _ r⟩
open PySem PySem.Spec PySem.SeqAt PyProof.Rows
def Mx (i:Nat):List Bool:=([0,1,2,3,4,5,6,7,8,9,10,11].map λj=>decide (i=j))++[false]
def Ek (c:Nat->Addr):FD:=λds R=>∃i,i<12/\ds=[.exc (c i)]/\R (.lst ((Mx i).map D.bl))
theorem Ek.mono {c:Nat->Addr}:fE (Ek c):=λds R R' k h=>by obtain⟨i,hi,e,q⟩:=h;exact⟨i,hi,e,k _ q⟩
def ml (x:Str):List Bool:=(EV.map λn=>decide (n=x))++[false]
def gv:FD:=λds R=>∃x:Str,ds=[.str x]/\(D.str x).ik=true/\R (.lst ((ml x).map D.bl))
theorem gv.mono:fE gv:=λds R R' k h=>by obtain⟨x,e,h1,q⟩:=h;exact⟨x,e,h1,k _ q⟩
def bF:List Nat->Int->List Int->List (List Int)->Option (List Int×List (List Int))
 |[],_,ws,fs=>some (ws,fs)
 |c::cs,at_,ws,fs =>
  if c=40 then bF cs (at_+1) (ws++[at_]) fs
  else if c=41/\ws≠[] then bF cs (at_+1) ws.dropLast (fs++[[ws.getLastD 0,at_]])
  else if c≠46 then none
  else bF cs (at_+1) ws fs
def qk (cs:List Nat):D :=
 match bF cs 0 [] []with
 |none=>.bE
 |some (ws,fs)=>if ws=[] then .lst ((eF fs).map kD) else .bE
theorem tZ (cs:List Nat):B6 (aG cs)=cs.map λc=>D.str (bb c):=by
 show (cs.toArray.toList.map _)=_;rw[List.toList_toArray];rfl
theorem l8 {cs:List Nat}(h:∀c∈cs,c<128):nR (aG cs):=by
 show (cs.toArray.all λx=>decide (x<128))=true;simpa using h
theorem yx (a b:Nat):(bb a=bb b)↔a=b:=by
 constructor
 ·intro h;have:(#[a]:Array Nat)=#[b]:=congrArg Str.cps h;simpa using this
 ·rintro rfl;rfl
theorem yy {cs:List Nat}(h:∀c∈cs,c<128):PyData.strOk (aG cs)=true:=by
 unfold PyData.strOk aG;rw[Array.all_eq_true'];intro x hx;have:=h x (List.mem_toArray.mp hx);exact decide_eq_true (by lia)
theorem fb {cs:List Nat}(h:∀c∈cs,c<128):(D.str (aG cs)).ik=true :=
 bO (n:=3) ⟨yy h,by show Xw (.str _)<=3;simp[Xw]⟩
theorem oX {c:Nat}(h:c<128):(D.str (bb c)).ik=true:=fb (cs:=[c]) λx z=>by rw[Wx.mp z];exact h
theorem p4 {a b:Nat}(ha:a<128)(hb:b<128):ya (.str (bb a)) (.str (bb b))=some (.bl (decide (a=b))):=by
 rw[pZ _ _ (oX ha) (oX hb),decide_eq_decide.mpr (yx a b)]
theorem Jj {a b:Nat}(ha:a<128)(hb:b<128):sA (.str (bb a)) (.str (bb b))=some (.bl (!decide (a=b))):=by
 rw[jo _ _ (oX ha) (oX hb),decide_eq_decide.mpr (yx a b)]
theorem Bq {c:Nat} (h:c<128):ya (.str (bb c)) (.str "(")=some (.bl (decide (c=40))):=by rw[MC];exact p4 h (by decide)
theorem uP {c:Nat} (h:c<128):ya (.str (bb c)) (.str ")")=some (.bl (decide (c=41))):=by rw[MB];exact p4 h (by decide)
theorem Bi {c:Nat} (h:c<128):sA (.str (bb c)) (.str ".")=some (.bl (!decide (c=46))):=by rw[Mz];exact Jj h (by decide)
def mG (m:Int)(f:List Int):Prop:=∃a b:Int,f=[a,b]/\0<=a/\a<b/\b<m
theorem mG.le {m m':Int}{f:List Int}(h:mG m f)(l:m<=m'):mG m' f:=let ⟨a,b,e,h1,h2,h3⟩:=h;⟨a,b,e,h1,h2,by lia⟩
theorem jw:∀{cs:List Nat} {t:Int} {ws:List Int} {fs:List (List Int)} {NK:List Int} {Nl:List (List Int)},0<=t->bF cs t ws fs=some (NK,Nl)->(∀x∈ws,0<=x/\x<t)->(∀f∈fs,mG t f)->∀f∈Nl,mG (t+cs.length) f
 |[],t,ws,fs,NK,Nl,_,h,_,hf=>by
  cases h;intro f z;exact(hf f z).le (by simp)
 |c::cs,t,ws,fs,NK,Nl,h0,h,hw,hf=>by
  rw[bF]at h;have e:t+((c::cs).length:Int)=t+1+cs.length:=by rw[Wz];lia
  rw[e];have mT:∀x∈ws,0<=x/\x<t+1:=λx z=>by have:=hw x z;lia
  have QT:∀f∈fs,mG (t+1) f:=λf z=>(hf f z).le (by lia)
  by_cases q1:c=40
  ·rw[if_pos q1]at h;refine jw (by lia) h (λx z=>?_) QT
   rcases WO.mp z with z|z
   ·exact mT x z
   ·rw[Wx.mp z];lia
  rw[if_neg q1]at h
  by_cases q2:c=41/\ws≠[]
  ·rw[if_pos q2]at h;refine jw (by lia) h (λx z=>mT x (List.dropLast_subset _ z)) λf z=>?_
   rcases WO.mp z with z|z
   ·exact QT f z
   ·rw[Wx.mp z];obtain⟨qs,p,rfl⟩:∃qs p,ws=qs++[p]:=⟨ws.dropLast,ws.getLast q2.2,(YI q2.2).symm⟩;rw[List.getLastD_concat];have:=hw p (by simp)
    exact⟨p,t,rfl,by lia,by lia,by lia⟩
  rw[if_neg q2]at h
  by_cases q3:c≠46
  ·rw[if_pos q3]at h;cases h
  ·rw[if_neg q3]at h;exact jw (by lia) h mT QT
theorem BM (cs:List Nat):qk cs=.bE\/∃fs:List (List Int),qk cs=.lst ((eF fs).map kD)/\∀f∈eF fs,mG cs.length f:=by
 unfold qk;cases h:bF cs 0 [] []with
 |none=>exact .inl rfl
 |some r =>
  obtain⟨ws,fs⟩:=r
  by_cases hw:ws=[]
  ·right
   refine⟨fs,if_pos hw,λf z=>?_⟩;have:=jw (Int.le_refl 0) h (λ_ z=>nomatch z) (λ_ z=>nomatch z) f ((cq fs).mem_iff.mp z)
   rwa [Int.zero_add]at this
  ·exact .inl (if_neg hw)
def lx (s sub:Str)(hi:Nat)(st:Array Nat×Nat)(i:Nat):Array Nat×Nat:=if (decide (st.1.size<1)&&decide (st.2<=i)&&decide (i+sub.length<=hi)&&Zi s sub i)=true then (st.1.push i,i+sub.length) else st
theorem rP {σ:Type}{f:σ->Nat->σ}{g:Nat->σ->Id (ForInStep σ)}(h:∀i s,g i s=pure (.yield (f s i))):∀(l:List Nat) (st:σ),forIn l st g=(pure (l.foldl f st):Id σ)
 |[],st=>rfl
 |i::l,st=>by
  rw[List.forIn_cons,h];exact rP h l _
theorem zN (s sub:Str)(hi:Nat):W7 s sub 0 hi 1=((List.range' 0 (hi+1)).foldl (lx s sub hi) (#[],0)).1.toList:=by
 unfold W7;simp only[Std.Legacy.Range.forIn_eq_forIn_range',Std.Legacy.Range.size];rw[show (hi+1-0+1-1) / 1=hi+1 by lia]
 rw[rP (f:=lx s sub hi) (λi st=>by
  unfold lx
  split <;> rfl)]
 rfl
theorem og {s sub:Str}{hi:Nat}:∀{l:List Nat},(∀i∈l,¬ (i+sub.length<=hi/\Zi s sub i=true))->l.foldl (lx s sub hi) (#[],0)=(#[],0)
 |[],_=>rfl
 |i::l,h=>by
  rw[Yk,show lx s sub hi (#[],0) i=(#[],0) from if_neg λz=>?_]
  ·exact og λj z=>h j (Wm _ z)
  ·simp only[Xi,decide_eq_true_eq]at z;exact h i Wo ⟨z.1.2,z.2⟩
theorem rS {s sub:Str}{hi:Nat}:∀{l:List Nat} {st:Array Nat×Nat},0<st.1.size->0<(l.foldl (lx s sub hi) st).1.size
 |[],_,h=>h
 |i::l,st,h=>by
  rw[Yk,show lx s sub hi st i=st from if_neg λz=>by simp only[Xi,decide_eq_true_eq]at z;lia]
  exact rS h
theorem n_ {s sub:Str}{hi:Nat}:∀{l:List Nat},(∃i∈l,i+sub.length<=hi/\Zi s sub i=true)->0<(l.foldl (lx s sub hi) (#[],0)).1.size
 |[],h=>by obtain⟨i,z,_⟩:=h;cases z
 |i::l,h=>by
  rw[Yk]
  by_cases hc:i+sub.length<=hi/\Zi s sub i=true
  ·rw[show lx s sub hi (#[],0) i=(#[i],i+sub.length) from if_pos (by simp[hc.1,hc.2])]
   exact rS (by simp)
  ·rw[show lx s sub hi (#[],0) i=(#[],0) from if_neg λz=>?_]
   ·refine n_ ?_;obtain⟨j,z,q⟩:=h;rcases Ws.mp z with rfl|z
    ·exact absurd q hc
    ·exact⟨j,z,q⟩
   ·simp only[Xi,decide_eq_true_eq]at z;exact hc ⟨z.1.2,z.2⟩
theorem ku (cs:List Nat)(c:Nat):Txt.contains (aG cs) (bb c)=decide (c∈cs):=by
 have hs:∀i,i+(bb c).length<=(aG cs).length/\Zi (aG cs) (bb c) i=true↔cs[i]?=some c:=λi=>by
  show i+1<=cs.toArray.size/\(cs.toArray.extract i (i+1)==#[c])=true↔_;rw[WG,beq_iff_eq];have e:∀h:i<cs.length,cs.toArray.extract i (i+1)=#[cs[i]]:=λh=>by
   apply Array.ext
   ·simp;lia
   ·intro j h1 h2;have:j=0:=by simp at h2;lia
    subst this;simp
  constructor
  ·rintro⟨h1,h2⟩;rw[e (by lia)]at h2
   rw[Wv (by lia)]
   exact congrArg some (by simpa using h2)
  ·intro h;obtain⟨h1,h2⟩:=WI.mp h;exact⟨by lia,by rw[e h1,h2]⟩
 unfold Txt.contains;rw[zN]
 by_cases h:c∈cs
 ·obtain⟨i,hi⟩:=List.mem_iff_getElem?.mp h;have:=n_ (s:=aG cs) (sub:=bb c) (hi:=(aG cs).length) (l:=List.range' 0 ((aG cs).length+1)) ⟨i,by
   have:=(WI.mp hi).1;rw[List.mem_range'_1];show 0<=i/\i<0+(cs.toArray.size+1);rw[WG];lia,(hs i).mpr hi⟩
  rw[decide_eq_true h];cases e:((List.range' 0 ((aG cs).length+1)).foldl (lx (aG cs) (bb c) (aG cs).length) (#[],0)).1.toList with
  |nil=>rw[<- Wr,e]at this;cases this
  |cons _ _=>rfl
 ·rw[decide_eq_false h,og λi _ z=>h (W_ ((hs i).mp z))];rfl
theorem dS {cs:List Nat}(h:cs.length<1000000):FO [.str (aG cs)]=some (.int cs.length):=by
 show (if (aG cs).length<1000000 then some (D.int (aG cs).length) else none)=_
 have e:(aG cs).length=cs.length:=by show cs.toArray.size=_;rw[WG]
 rw[e,if_pos h]
def jk (c:Nat):Bool:=decide (48<=c)&&decide (c<=57)
def bc (cs:List Nat)(l:Nat):Option Nat:=if cs.length=0\/l<cs.length\/cs.any (λc=>!jk c)=true then none else if cs.head?=some 48/\cs≠[48] then none else some (ZQ cs)
def si:FD:=λds R=>∃(cs:List Nat) (l:Nat),ds=[.str (aG cs),.int (l:Int)]/\(∀c∈cs,c<128)/\cs.length<=100000/\l<=600/\R (oD (bc cs l))
theorem si.mono:fE si:=λds R R' k h=>by obtain⟨cs,l,e,h1,h2,h3,q⟩:=h;exact⟨cs,l,e,h1,h2,h3,k _ q⟩
theorem Q_:("0123456789" : Str)=aG [48,49,50,51,52,53,54,55,56,57]:=by decide +kernel
theorem AU (c:Nat):mn (.str (bb c)) (.str "0123456789")=some (.bl (!jk c)):=by
 rw[Q_];show some (D.bl (!Txt.contains _ _))=_;rw[ku]
 congr 3
 unfold jk;rw[<- Bool.decide_and];refine decide_eq_decide.mpr ?_;simp only[Ws,X9,or_false];omega
theorem wd {cs:List Nat}(h:cs.any (λc=>!jk c)=false)(h1:cs≠[])(h2:cs.length<=600):we [.str (aG cs)]=some (.int (ZQ cs:Nat)):=by
 have e:(aG cs).cps.toList=cs:=rfl;have hl:(aG cs).length=cs.length:=rfl;have ad:NumText.AllDigits (aG cs).cps.toList:=λc hc=>by
  rw[e]at hc;have:=Yh.mp h c hc;unfold jk at this;simp only[Yv,Bool.and_eq_false_iff,decide_eq_false_iff_not,not_or,Decidable.not_not]at this;exact this
 show (if (aG cs).length<=640 then (PySem.intText? (aG cs)).map D.int else none)=_
 rw[if_pos (by rw[hl];lia),intText_digits ad (by rw[e];exact h1) (by rw[hl];lia),e]
 rfl
theorem rG (c:Nat)(cs:List Nat)(h:(c::cs).length<=1000000):Er (.str (aG (c::cs))) (.int 0)=some (.str (bb c)):=by
 show (if (aG (c::cs)).length<=WA then (jy (aG (c::cs)).cps.toList 0).map λc=>D.str (bb c) else none)=_
 rw[if_pos (by rw[WY];show (c::cs).length<=_;lia)]
 have e:jy (aG (c::cs)).cps.toList 0=some c:=by
  show jy (c::cs) 0=_;unfold jy qh;rw[if_pos (by lia),if_pos (by rw[Wz];lia)]
  rfl
 rw[e];rfl
theorem My:("0" : Str)=bb 48:=by decide +kernel
theorem Cr {cs:List Nat}:aG cs=("0" : Str)↔cs=[48]:=by
 rw[show ("0" : Str)=aG [48] by decide +kernel]
 exact⟨λh=>congrArg (λx:Str=>x.cps.toList) h,λh=>by rw[h]⟩
theorem BN (cs:List Nat):Br [.lst ((cs.filter λ_=>true).map λc=>D.bl (!jk c))]=some (.bl (cs.any λc=>!jk c)):=by
 have:=p6 (cs.map λc=>!jk c);rw[W6,List.any_map]at this;rw[X7.mpr λ_ _=>rfl];exact this
theorem dw {c x:Nat}:∀{cs:List Nat},x∈(aO c cs).1\/x∈(aO c cs).2.2->x∈cs
 |[],h=>by rcases h with h|h <;> exact(by cases h)
 |y::l,h=>by
  unfold aO at h
  split at h
  ·rcases h with h|h
   ·cases h
   ·exact Wm _ h
  ·rcases h with h|h
   ·rcases Ws.mp h with rfl|h
    ·exact Wo
    ·exact Wm _ (dw (.inl h))
   ·exact Wm _ (dw (.inr h))
theorem jH {c:Nat}:∀{cs:List Nat},(aO c cs).1.length<=cs.length/\(aO c cs).2.2.length<=cs.length
 |[]=>⟨Wl _,Wl _⟩
 |y::l=>by
  have:=@jH c l;unfold aO
  split
  ·exact⟨WJ _,Nat.le_succ _⟩
  ·exact⟨X0 this.1,Zf this.2⟩
def c7 (cs:List Nat):Option (Nat×Nat):=match bc (aO 45 cs).1 3,bc (aO 45 cs).2.2 3 with
 |some a,some b=>some (a,b)
 |_,_=>none
def vq:Option (Nat×Nat)->D
 |none=>.bE
 |some p=>kD [(p.1:Int),(p.2:Int)]
def A7:FD:=λds R=>∃cs:List Nat,ds=[.str (aG cs)]/\(∀c∈cs,c<128)/\cs.length<=100000/\R (vq (c7 cs))
theorem A7.mono:fE A7:=λds R R' k h=>by obtain⟨cs,e,h1,h2,q⟩:=h;exact⟨cs,e,h1,h2,k _ q⟩
theorem Bz {φa φb φc:aS}{β:a_}{a b c:Int}{R:D->Kd->a_->Prop}(ha:∀R:D->Kd->a_->Prop,R (.int a) .own β->φa β R)(hb:∀R:D->Kd->a_->Prop,R (.int b) .own β->φb β R)(hc:∀R:D->Kd->a_->Prop,R (.int c) .own β->φc β R)
  (q:R (.bl (decide (a<=b)&&decide (b<=c))) .own β):o7 φa (GI Rk φb (GJ Rk φc)) β R:=by
 refine ha _ (hb _ ⟨_,rfl,nX (λz1=>hc _ ⟨_,rfl,?_⟩) (λz1=>?_)⟩)
 ·simpa[z1] using q
 ·simpa[z1] using q
theorem qE:∀xs:List Str,nu (xs.map D.str)=some xs
 |[]=>rfl
 |x::xs=>by
  show (some x).bind (λx=>(nu (xs.map D.str)).bind λxs=>some (x::xs))=_;rw[qE xs];rfl
theorem Gw {a:Int}(h0:0<=a)(h:a<1000):a.natAbs.log2<1920:=Nat.lt_of_le_of_lt (Nat.log2_le_self _) (by lia)
theorem Gm {a:Int}(h0:0<=a)(h:a<1000):(tS a).length<=10:=PySem.W.KT.len_num h0 (by lia)
def dg (n:Nat):List Nat:=if n<10 then [48+n] else [48+n / 10,48+n % 10]
theorem Bd:∀n:Nat,n<41->tS (n:Int)=aG (dg n):=by decide +kernel
theorem uM {n c:Nat}(h:n<100)(hc:c∈dg n):48<=c/\c<=57:=by
 unfold dg at hc
 split at hc
 ·rw[Wx.mp hc];lia
 ·simp only[Ws,X9,or_false]at hc;lia
theorem uN (n:Nat):(dg n).length<=2:=by unfold dg;split <;> simp
def E_ (t:List Int):List Nat:=dg (t.getD 0 0).toNat++45::dg (t.getD 1 0).toNat
def Mc (ts:List (List Int)):List Nat:=(ts.map λt=>32::E_ t).flatten
def Kx (n:Nat)(ts:List (List Int)):List Nat:=dg n++58::Mc ts
theorem tL (a b:List Nat):aG a++aG b=aG (a++b):=by
 show (⟨a.toArray++b.toArray⟩:Str)=⟨(a++b).toArray⟩;simp
theorem l4 {c:Nat}:∀{l:List (List Nat)} {p:List Nat},ji c (p::l)=p++(l.map λq=>c::q).flatten
 |[],p=>by rw[List.map_nil,List.flatten_nil,XD];rfl
 |q::l,p=>by
  show p++c::ji c (q::l)=_;rw[l4 (l:=l) (p:=q)];rfl
def sY (ts:List (List Int)):Prop:=∀t∈ts,∃a b:Nat,t=[(a:Int),(b:Int)]/\a<b/\b<41
theorem sY.of {n:Nat}{ts:List (List Int)}(h:sW (n:Int) ts)(hn:n<=41):sY ts:=λt ht=>by
 obtain⟨a,b,rfl,a0,ab,bn⟩:=h t ht;exact⟨a.toNat,b.toNat,by rw[Int.toNat_of_nonneg a0,Int.toNat_of_nonneg (by lia)],by lia,by lia⟩
theorem E9 (a b:Nat):E_ [(a:Int),(b:Int)]=dg a++45::dg b:=by
 show dg (a:Int).toNat++45::dg (b:Int).toNat=_;rw[XT,XT]
theorem Jq:(" " : Str)=bb 32:=by decide +kernel
theorem MA:("-" : Str)=bb 45:=by decide +kernel
theorem Jp:(":" : Str)=bb 58:=by decide +kernel
theorem BA (c:Nat):bb c=aG [c]:=rfl
theorem gM {c:Nat}{l:List Nat}:∀{p:List Nat},c∉p->aO c (p++c::l)=(p,[c],l)
 |[],_=>by show aO c (c::l)=_;rw[aO,if_pos rfl]
 |x::p,h=>by
  show aO c (x::(p++c::l))=_;rw[aO,if_neg λz=>h (by rw[z];exact Wo),gM λz=>h (Wm _ z)]
theorem GZ {a b c:Nat}(ha:a<41)(hb:b<41)(h:c∈E_ [(a:Int),(b:Int)]):c=45\/(48<=c/\c<=57):=by
 rw[E9]at h;rcases WO.mp h with h|h
 ·exact .inr (uM (by lia) h)
 ·rcases Ws.mp h with h|h
  ·exact .inl h
  ·exact .inr (uM (by lia) h)
theorem IZ {ts:List (List Int)}(h:sY ts):∀c∈Mc ts,c<128:=λc hc=>by
 obtain⟨l,hl,hc⟩:=List.mem_flatten.mp hc;obtain⟨t,ht,rfl⟩:=WX.mp hl;obtain⟨a,b,rfl,h1,h2⟩:=h t ht;rcases Ws.mp hc with rfl|hc
 ·decide
 ·have:=GZ (by lia) h2 hc;lia
theorem GD {n:Nat}{ts:List (List Int)}(hn:n<41)(h:sY ts):∀c∈Kx n ts,c<128:=λc hc=>by
 rcases WO.mp hc with hc|hc
 ·have:=uM (by lia) hc;lia
 ·rcases Ws.mp hc with rfl|hc
  ·decide
  ·exact IZ h c hc
theorem G0 (t:List Int):(E_ t).length<=5:=by
 unfold E_;have h1:=uN (t.getD 0 0).toNat;have h2:=uN (t.getD 1 0).toNat;rw[WK,Wz];lia
theorem AS:∀ts:List (List Int),(Mc ts).length<=6*ts.length
 |[]=>Wl _
 |t::ts=>by
  have h1:=AS ts;have h2:=G0 t;show (32::E_ t++Mc ts).length<=_;rw[WK,Wz,Wz];lia
theorem GF (n:Nat)(ts:List (List Int)):(Kx n ts).length<=6*ts.length+3:=by
 have h1:=AS ts;have h2:=uN n;unfold Kx;rw[WK,Wz];lia
theorem Aa {n:Nat} {ts:List (List Int)} (hn:n<41) (h:sY ts):Ze (" " : Str) ((tS (n:Int)++(":" : Str))::ts.map λt=>tS (t.getD 0 0)++("-" : Str)++tS (t.getD 1 0))=aG (Kx n ts):=by
 have e:((tS (n:Int)++(":" : Str))::ts.map λt=>tS (t.getD 0 0)++("-" : Str)++tS (t.getD 1 0))=((dg n++[58])::ts.map E_).map aG:=by
  rw[Bd n hn,Jp,BA,tL,W3,W6]
  congr 1
  refine Ym λt ht=>?_;obtain⟨a,b,rfl,h1,h2⟩:=h t ht;show tS (a:Int)++("-" : Str)++tS (b:Int)=aG (E_ _);rw[Bd a (by lia),Bd b h2,MA,BA,tL,tL,E9,Xh]
  rfl
 rw[e,Jq,pK,l4,W6];show aG ((dg n++[58])++Mc ts)=_;rw[Xh];rfl
theorem uF (x:Str){l:List (List Int)}{f:List Int->Str}:D.bJ (D.str x::l.map λt=>D.str (f t))=true:=by
 show (true&&D.bJ (l.map λt=>D.str (f t)))=true;rw[Bool.true_and]
 induction l with
 |nil=>rfl
 |cons t l ih=>exact ih
end L2.Q
namespace yc
open PySem PySem.Spec PyProof.Rows
def cC:List Int->List Int->Bool
 |[],[]=>true
 |[],_::_=>false
 |_::_,[]=>true
 |x::xs,y::ys=>if x=y then cC xs ys else decide (y<=x)
theorem rC (x y:Int)(xs ys:List Int):cC (x::xs) (y::ys)=if x=y then cC xs ys else decide (y<=x):=rfl
theorem z5:cC [] []=true:=rfl
theorem z6 (y:Int)(ys:List Int):cC [] (y::ys)=false:=rfl
theorem z7 (x:Int)(xs:List Int):cC (x::xs) []=true:=rfl
theorem yO (A:Xg)(s:Wi)(a:Int)(t:Tok)(c:Int)(u:Tok)(prog:Wq)(w:WC)(E:Wg->Wi->Prop)(Q:Wg->Wi->Prop)(h:Q (.bool (decide (c<=a))) s):
  WT (model prog w) A (richCompare .GtE (.int a t) (.int c u)) Q E s :=
 (PyProof.Rows.ge_int h:WT (model prog w) A (Xm .GtE (.int a t) (.int c u)) Q E s)
section
open PySem.SeqAt
open PySem.AutoSeq1 (wpAny_loadPart')
open PySem.MeetsSeq PySem.MeetsSeq2 PySem.MeetsSeq3
theorem mL (l b:Addr)(items cD:Array Wg)(n n2:Nat)(dd Rc:Option Addr)(sl Kr:Array (Option Wg))(ns ms:List Int)(hi:YF items.toList ns)(hj:YF cD.toList ms):
  Meets (Yb.«tuple.__ge__» ⟨[.ref l,.ref b],[]⟩)
   (λ_ R s=>s.heap.get? l=some {cls:=.type "tuple",dict:=dd,data:=.seq items n,slots:=sl}/\s.heap.get? b=some {cls:=.type "tuple",dict:=Rc,data:=.seq cD n2,slots:=Kr} /\
    R (.ok (.ret (.bool (cC ns ms)))) s) :=
 .of_wp λprog w A R s h=>by
  obtain⟨hp,g,d,tk,os⟩:=s;obtain⟨hl,hb,h⟩:=h;have f2:=AutoSeq1.sub_tuple_tuple;have z1:items.size=ns.length:=by rw[<- hi.length];simp
  have z2:cD.size=ms.length:=by rw[<- hj.length];simp
  wp_walk using Y6 hl,Y6 hb,Z5 _ (λrest b s'=>b.1=none/\s'=⟨hp,g,d,tk,os⟩/\∃(vs ws:List Wg) (Fe JM:List Int),rest=vs.zip ws /\
   YF vs Fe/\YF ws JM/\Fe.length+cD.size=JM.length+items.size/\R (.ok (.ret (.bool (cC Fe JM)))) ⟨hp,g,d,tk,os⟩) _
  case turn =>
   rintro⟨y,x⟩ rest b s' ⟨AB,rfl,vs,ws,Fe,JM,hz,Py,M8,hlen,hR⟩;cases Py with
   |nil=>rw[List.zip_nil_left]at hz;cases hz
   |cons a t Px =>
    cases M8 with
    |nil=>rw[List.zip_nil_right]at hz;cases hz
    |cons c u Pq =>
     rw[List.zip_cons_cons]at hz;injection hz with Uw LK
     injection Uw with hy hx
     subst hy hx;rw[rC]at hR;simp only[Wz]at hlen;obtain⟨e,he,LV⟩:=HT.A_ A.in1 ⟨hp,g,d,tk,os⟩ a t c u;refine Wh (he prog w _ _ ?_);cases e with
     |true =>
      rw[if_pos (LV.mp rfl)]at hR
      wp_walk
      exact⟨rfl,rfl,_,_,_,_,LK,Px,Pq,by lia,hR⟩
     |false =>
      rw[if_neg (λq=>absurd (LV.mpr q) XY)]at hR;have UM:=yO A.in1 ⟨hp,g,d,tk,os⟩ a t c u prog w
      wp_walk using UM
      exact⟨_,rfl,by simpa using hR⟩
  case fin =>
   rintro⟨b1,b2⟩ s' ⟨AB,rfl,vs,ws,Fe,JM,hz,Py,M8,hlen,hR⟩;simp only at AB;subst AB;have hv:cC Fe JM=decide (cD.size<=items.size):=by
    cases Py with
    |nil =>
     cases M8 with
     |nil =>
      simp only[List.length_nil]at hlen;rw[z5];exact(decide_eq_true (by lia)).symm
     |cons c u hw =>
      simp only[List.length_nil,Wz]at hlen;rw[z6];exact(decide_eq_false (by lia)).symm
    |cons a t hv =>
     cases M8 with
     |nil =>
      simp only[List.length_nil,Wz]at hlen;rw[z7];exact(decide_eq_true (by lia)).symm
     |cons c u hw =>
      rw[List.zip_cons_cons]at hz;cases hz
   rw[hv]at hR
   wp_walk
   exact⟨_,rfl,by simpa[Builtin.Tuple.tupleCompareSizes] using hR⟩
  case h =>
   exact⟨rfl,rfl,items.toList,cD.toList,ns,ms,rfl,hi,hj,by lia,h⟩
end
section
variable {prog:Wq}{w:WC}{A:Xg}{E:Wg->Wi->Prop}{s:Wi}
theorem uA {l b:Addr}{items cD:Array Wg}{ns ms:List Int}{Q:Wg->Wi->Prop}(hl:IsTup s.heap l items)(hb:IsTup s.heap b cD)(hi:YF items.toList ns)(hj:YF cD.toList ms)
  (hu:A.units<Za) (h:Q (.bool (cC ns ms)) s):WT (model prog w) A (Xm .GtE (.ref l) (.ref b)) Q E s:=by
 obtain⟨⟨cls,dd,data,sl⟩,ho,hc,n,hd⟩:=id hl;obtain⟨⟨Vu,Rc,data2,Kr⟩,IJ,qj,n2,hd2⟩:=id hb;simp only at hc hd qj hd2;subst hc hd qj hd2;exact richCompare_meets_room (op:=.GtE) ⟨_,ho,rfl⟩ ⟨_,IJ,rfl⟩ PySem.F.slot_tuple_ge PySem.F.entry_tuple_ge (PySem.F.args_tuple_ge_2 _ _) (mL l b items cD n n2 dd Rc sl Kr ns ms hi hj)
  ⟨ho,IJ,show Value.bool (cC ns ms)≠Value.notImplemented/\Q (.bool (cC ns ms)) s from ⟨(λx=>nomatch x),h⟩⟩ hu
end
end yc
namespace L2
open PySem PySem.Spec PySem.SeqAt PyProof.Rows
abbrev Mr:D->D->Option D:=wg (λi j=>decide (j<=i)) yc.cC
theorem C_ {X:Cx}(hu:X.A.units<Za):bf X (Xm .GtE) Mr:=zH Fc λs E l b items cD ns ms Q h1 h2 h3 h4 h5=>yc.uA h1 h2 h3 h4 hu h5
end L2
namespace L2.Q
open PySem
def gu (i:Nat):D:=.lst ((Mx i).map D.bl)
theorem AI:∀a b:List Int,yc.cC a b=!HT.lexLt a b
 |[],[]=>rfl
 |[],_::_=>rfl
 |_::_,[]=>rfl
 |x::xs,y::ys=>by
  rw[yc.rC,HT.dO]
  by_cases h:x=y
  ·rw[if_pos h,if_pos h,AI xs ys]
  ·rw[if_neg h,if_neg h]
   by_cases h2:x<y
   ·rw[decide_eq_true h2,decide_eq_false (by lia)];rfl
   ·rw[decide_eq_false h2,decide_eq_true (by lia)];rfl
def oJ (ts:List (List Int)):Bool:=(Xd (ts.length-1)).any λk=>yc.cC (ts.getD k []) (ts.getD (k+1) [])
theorem sN:∀ts:List (List Int),(∀k,k+1<ts.length->HT.lexLt (ts.getD k []) (ts.getD (k+1) [])=true)->ts.Pairwise λa b=>HT.lexLt a b=true
 |[],_=>.nil
 |[a],_=>Z9 _ _
 |a::b::l,h=>by
  have ih:=sN (b::l) λk hk=>h (k+1) (Nat.succ_lt_succ hk);have Fy:=h 0 (by simp)
  refine XX.mpr ⟨λc hc=>?_,ih⟩;rcases Ws.mp hc with rfl|hc
  ·exact Fy
  ·exact gj Fy ((XX.mp ih).1 c hc)
theorem qL {ts:List (List Int)}:oJ ts=false↔ts=eF (jx ts):=by
 constructor
 ·intro h;have pw:=sN ts λk hk=>by
   have:=Yh.mp h k (Xz.mpr (by lia))
   rw[AI,Yv,Bool.not_eq_false]at this;exact this
  exact(yA (pw.imp λh=>iw h) (pw.imp λ{a b} h e=>by rw[e,nO]at h;cases h) λ_=>Iff.rfl).symm
 ·intro e;have sr:qd ts:=by rw[e];exact fS _
  have nd:ts.Nodup:=by rw[e];exact(cq _).nodup_iff.mpr (cE _).1
  refine Yh.mpr λk hk=>?_;have hk:=Xz.mp hk;have h1:=Yr.mp sr k (k+1) (by lia) (by lia) (by lia)
  have h2:=Yr.mp nd k (k+1) (by lia) (by lia) (by lia)
  rw[Xr,Xr,Wv (by lia),Wv (by lia)]
  show ¬ yc.cC ts[k] ts[k+1]=true;rw[AI];cases h3:HT.lexLt ts[k] ts[k+1]with
  |true=>decide
  |false=>exact absurd (dP h3 h1) h2
def mC (ts:List (List Int)):Bool:=(ts.any λt=>decide (t.getD 1 0<t.getD 0 0)) || oJ ts
def kJ (m:Option Nat)(gK:List (Option (Nat×Nat))):D:=match m with
 |none=>gu 9
 |some n=>if none∈gK then gu 9 else if mC ((gK.filterMap id).map tI)=true then gu 9 else if (((gK.filterMap id).map tI).any λt=>decide (t.getD 0 0=t.getD 1 0) || decide ((n:Int)<=t.getD 1 0))=true then gu 0 else mQ n ((gK.filterMap id).map tI)
def y8 (cs:List Nat):List (Option (Nat×Nat)):=match aK 32 (aO 58 cs).2.2 with
 |_::ws=>ws.map c7
 |[]=>[]
def gi (cs:List Nat):Option Nat:=if (aO 58 cs).2.1=[58]/\(aK 32 (aO 58 cs).2.2).head?=some [] then bc (aO 58 cs).1 3 else none
def cY (cs:List Nat):D:=kJ (gi cs) (y8 cs)
def u_ (w:List Nat):Option (Nat×Nat):=match aK 45 w with
 |[x,y]=>match bc x 3,bc y 3 with
  |some a,some b=>some (a,b)
  |_,_=>none
 |_=>none
def fJ (w0:List Nat):Option Nat:=if w0.getLast?=some 58 then bc w0.dropLast 3 else none
def G6 (cs:List Nat):D:=match aK 32 cs with
 |w0::ws=>kJ (fJ w0) (ws.map u_)
 |[]=>gu 9
theorem pE {cs:List Nat}{l c:Nat}(h:c∈cs)(hc:c<48\/57<c):bc cs l=none:=by
 unfold bc
 by_cases h1:cs.length=0\/l<cs.length\/cs.any (λc=>!jk c)=true
 ·exact if_pos h1
 ·refine absurd (.inr (.inr (Zn.mpr ⟨c,h,?_⟩))) h1;unfold jk;rcases hc with hc|hc
  ·rw[decide_eq_false (show ¬ 48<=c by lia)];rfl
  ·rw[decide_eq_false (show ¬ c<=57 by lia),Bool.and_false];rfl
theorem vG {cs:List Nat}{l n c:Nat}(h:bc cs l=some n)(hc:c∈cs):48<=c/\c<=57:=by
 by_cases z:c<48\/57<c
 ·rw[pE hc z]at h;cases h
 ·lia
theorem dC {c:Nat}:∀cs:List Nat,(c∉cs/\aO c cs=(cs,[],[])/\aK c cs=[cs])\/∃p l,c∉p/\cs=p++c::l/\aO c cs=(p,[c],l)/\aK c cs=p::aK c l:=λcs=>by
 by_cases h:c∈cs
 ·obtain⟨p,l,e,hp⟩:=List.eq_append_cons_of_mem h;subst e;exact .inr ⟨p,l,hp,rfl,gM hp,ib hp⟩
 ·exact .inl ⟨h,lO h,fT h⟩
theorem cI {c:Nat}(cs:List Nat):aK c cs≠[]:=by
 rcases dC (c:=c) cs with⟨_,_,e⟩|⟨p,l,_,_,_,e⟩
 ·rw[e];simp
 ·rw[e];simp
theorem Cp (cs:List Nat):u_ cs=c7 cs:=by
 unfold u_ c7;rcases dC (c:=45) cs with⟨_,e1,e2⟩|⟨p,l,hp,rfl,e1,e2⟩
 ·rw[e1,e2];show none=match bc cs 3,bc [] 3 with|some a,some b=>some (a,b)|_,_=>none
  have:bc [] 3=none:=rfl;rw[this];cases bc cs 3 <;> rfl
 ·rw[e1,e2];show _=match bc p 3,bc l 3 with|some a,some b=>some (a,b)|_,_=>none
  rcases dC (c:=45) l with⟨_,_,e3⟩|⟨p2,l2,_,rfl,_,e3⟩
  ·rw[e3]
  ·rw[e3,pE (cs:=p2++45::l2) (c:=45) (by simp) (.inl (by decide))]
   obtain⟨x,r,e4⟩:=Xy (cI (c:=45) l2);rw[e4];cases bc p 3 <;> rfl
theorem lD {c:Nat}{l h:List Nat}{r:List (List Nat)}(e:aK c l=h::r):∀{p:List Nat},c∉p->aK c (p++l)=(p++h)::r
 |[],_=>e
 |x::p,hp=>by
  show aK c (x::(p++l))=_;rw[aK,if_neg λz=>hp (by rw[z];exact Wo),lD e λz=>hp (Wm _ z)]
  rfl
theorem e_ {c:Nat}:∀{l h:List Nat} {r:List (List Nat)},aK c l=h::r->(∀w∈h::r,∀x∈w,x∈l)/\(∀w∈h::r,w.length<=l.length)/\r.length<=l.length
 |[],h,r,e=>by
  cases e;exact⟨λw hw x hx=>(by rw[Wx.mp hw]at hx;cases hx),λw hw=>(by rw[Wx.mp hw];exact Wl _),Wl _⟩
 |y::l,h,r,e=>by
  obtain⟨h2,r2,e2⟩:=Xy (cI (c:=c) l);obtain⟨i1,i2,i3⟩:=e_ e2;rw[aK]at e
  by_cases z:y=c
  ·rw[if_pos z,e2]at e;cases e;refine⟨λw hw x hx=>?_,λw hw=>?_,by rw[Wz,Wz];lia⟩
   ·rcases Ws.mp hw with rfl|hw
    ·cases hx
    ·exact Wm _ (i1 w hw x hx)
   ·rcases Ws.mp hw with rfl|hw
    ·exact WJ _
    ·exact Zf (i2 w hw)
  ·rw[if_neg z,e2]at e;cases e;refine⟨λw hw x hx=>?_,λw hw=>?_,Zf i3⟩
   ·rcases Ws.mp hw with rfl|hw
    ·rcases Ws.mp hx with rfl|hx
     ·exact Wo
     ·exact Wm _ (i1 h2 Wo x hx)
    ·exact Wm _ (i1 w (Wm _ hw) x hx)
   ·rcases Ws.mp hw with rfl|hw
    ·exact X0 (i2 h2 Wo)
    ·exact Zf (i2 w (Wm _ hw))
theorem G5 (cs:List Nat):G6 cs=cY cs:=by
 obtain⟨w0,ws,ew⟩:=Xy (cI (c:=32) cs);have UD:∀c∈w0,c∈cs:=λc hc=>by
  rcases dC (c:=32) cs with⟨_,_,e⟩|⟨p,l,_,rfl,_,e⟩
  ·rw[e]at ew;cases ew;exact hc
  ·rw[e]at ew;cases ew;exact X1 _ hc
 unfold G6 cY;rw[ew];show kJ (fJ w0) (ws.map u_)=_;rcases dC (c:=58) cs with⟨hn,e1,_⟩|⟨h,t,hh,rfl,e1,_⟩
 ·have m1:gi cs=none:=by unfold gi;rw[e1];exact if_neg λz=>by cases z.1
  have m2:fJ w0=none:=if_neg λz=>hn (UD _ (List.mem_of_getLast? z));rw[m1,m2];rfl
 ·obtain⟨ah,ps,et⟩:=Xy (cI (c:=32) t);have em:gi (h++58::t)=if ah=[] then bc h 3 else none:=by
   unfold gi;rw[e1];show (if [58]=[58]/\(aK 32 t).head?=some [] then _ else _)=_
   rw[et]
   by_cases z:ah=[]
   ·rw[if_pos z,if_pos ⟨rfl,by rw[z];rfl⟩]
   ·rw[if_neg z,if_neg λy=>z (WR y.2)]
  cases hm:bc h 3 with
  |none =>
   rw[hm]at em;have m2:fJ w0=none:=by
    unfold fJ
    by_cases z:w0.getLast?=some 58
    ·rw[if_pos z];cases hq:bc w0.dropLast 3 with
     |none=>rfl
     |some m =>
      exfalso
      obtain⟨q,rfl⟩:=List.getLast?_eq_some_iff.mp z;rw[YV]at hq;have uw:58∉q:=λy=>by have:=vG hq y;lia
      have pre:∃r,h++58::t=q++58::r:=by
       rcases dC (c:=32) (h++58::t)with⟨_,_,e⟩|⟨p,l,_,e3,_,e⟩
       ·rw[e]at ew;have:=(ZY ew).1;exact⟨[],this⟩
       ·rw[e]at ew;have:=(ZY ew).1;exact⟨32::l,by rw[e3,this,Xh];rfl⟩
      obtain⟨r,er⟩:=pre;have p1:=gM (l:=t) hh;rw[er,gM uw]at p1;have:q=h:=congrArg (λz:List Nat×List Nat×List Nat=>z.1) p1;rw[this,hm]at hq;cases hq
    ·exact if_neg z
   rw[em,m2]
   split <;> rfl
  |some m =>
   rw[hm]at em;have Vf:32∉h:=λy=>by have:=vG hm y;lia
   have e5:aK 32 (58::t)=(58::ah)::ps:=by
    rw[aK,if_neg (by decide),et]
   have e6:=lD e5 Vf;rw[e6]at ew;obtain⟨rfl,rfl⟩:=ZY ew;have ep:y8 (h++58::t)=ps.map c7:=by
    unfold y8;rw[e1];show (match aK 32 t with|_::ws=>ws.map c7 | []=>[])=_
    rw[et]
   rw[em,ep,Ym λa _=>Cp a]
   by_cases z:ah=[]
   ·subst z;rw[if_pos rfl];have:fJ (h++[58])=bc h 3:=by
     unfold fJ;rw[List.getLast?_concat,if_pos rfl,YV]
    rw[this,hm]
   ·rw[if_neg z];have:fJ (h++58::ah)=none:=by
     unfold fJ
     split
     ·refine pE (c:=58) ?_ (.inr (by decide))
      rw[List.dropLast_append_of_ne_nil (by simp)]
      refine W9 _ ?_;obtain⟨x,y,e⟩:=Xy z;rw[e];exact Wo
     ·rfl
    rw[this]
abbrev R7 (p:Int×Int):D:=.tup [.int p.1,.int p.2]
def Fd (n:Int)(p:Int×Int):Prop:=0<=(if p.2<p.1 then p.2 else p.1)/\(if p.2<p.1 then p.2 else p.1)<(if p.1<p.2 then p.2 else p.1)/\(if p.1<p.2 then p.2 else p.1)<n
def A5 (c:Nat->Addr):ET:=λds R T=>∃(n:Int) (gs:List (Int×Int)),ds=[.int n,.lst (gs.map R7)]/\gs.length<1000/\(¬ (0<=n/\∀p∈gs,Fd n p)->T (c 0))/\(0<=n/\(∀p∈gs,Fd n p)->R (.tup [.int n,.lst ((eF (jx (gs.map λp=>B7 [p.1,p.2]))).map kD)]))
theorem A5.mono {c:Nat->Addr}:tj (A5 c):=λds R R' T T' k l h=>by obtain⟨n,gs,e,hl,h,q'⟩:=h;exact⟨n,gs,e,hl,λz=>l _ (h z),λz=>k _ (q' z)⟩
section
variable {cs:List Nat}
theorem K5 (h:bc (aO 58 cs).1 3=none):cY cs=gu 9:=by
 have:gi cs=none:=by unfold gi;rw[h];split <;> rfl
 unfold cY;rw[this];rfl
theorem K4 (h:(aO 58 cs).2.1≠[58]):cY cs=gu 9:=by
 have:gi cs=none:=if_neg λz=>h z.1;unfold cY;rw[this];rfl
theorem K3 {ah:List Nat}{ws:List (List Nat)}(e:aK 32 (aO 58 cs).2.2=ah::ws)(h:ah≠[]):cY cs=gu 9:=by
 have:gi cs=none:=if_neg λz=>by rw[e]at z;exact h (WR z.2)
 unfold cY;rw[this];rfl
theorem yZ {ah:List Nat}{ws:List (List Nat)}(e:aK 32 (aO 58 cs).2.2=ah::ws):y8 cs=ws.map c7:=by unfold y8;rw[e]
theorem vF {m:Option Nat}{gK:List (Option (Nat×Nat))}(h:none∈gK):kJ m gK=gu 9:=by
 cases m with
 |none=>rfl
 |some n=>exact if_pos h
theorem K2 {n:Nat}{ws:List (List Nat)}{ps:List (Nat×Nat)}(h:bc (aO 58 cs).1 3=some n)(hc:(aO 58 cs).2.1=[58])(e:aK 32 (aO 58 cs).2.2=[]::ws)(ep:ws.map c7=ps.map some):cY cs=kJ (some n) (ps.map some):=by
 unfold cY;rw[yZ e,ep,show gi cs=some n by unfold gi;rw[if_pos ⟨hc,by rw[e];rfl⟩,h]]
end
theorem iA {α:Type}(x:Str){f:α->Str}(l:List α):D.bJ (D.str x::l.map λt=>D.str (f t))=true:=by
 show (true&&D.bJ (l.map λt=>D.str (f t)))=true;rw[Bool.true_and]
 induction l with
 |nil=>rfl
 |cons t l ih=>exact ih
theorem k_ {l:List Nat}:aG l=aG []↔l=[]:=⟨λh=>congrArg (λx:Str=>x.cps.toList) h,λh=>by rw[h]⟩
theorem qb {α:Type}(f:α->Bool)(ts:List α):Br [.lst ((ts.filter λ_=>true).map λt=>D.bl (f t))]=some (.bl (ts.any f)):=by
 have:=p6 (ts.map f);rw[W6,List.any_map]at this;rw[X7.mpr λ_ _=>rfl];exact this
theorem Gi {n:Nat}{ps:List (Nat×Nat)}(hle:((ps.map tI).any λt=>decide (t.getD 1 0<t.getD 0 0))=false):(((ps.map tI).any λt=>decide (t.getD 0 0=t.getD 1 0) || decide ((n:Int)<=t.getD 1 0))=false↔∀p∈ps.map λp=>((p.1:Int),(p.2:Int)),Fd n p)/\((∀p∈ps.map λp=>((p.1:Int),(p.2:Int)),Fd n p)->sW n (ps.map tI)):=by
 have le:∀p∈ps,p.1<=p.2:=λp hp=>by
  have:=Yh.mp hle (tI p) (X6 hp);have:¬ ((p.2:Int)<(p.1:Int)):=λz=>this (decide_eq_true z);lia
 have ok:∀p∈ps,(Fd n ((p.1:Int),(p.2:Int))↔p.1<p.2/\p.2<n):=λp hp=>by
  have:=le p hp;unfold Fd;show 0<=(if (p.2:Int)<(p.1:Int) then (p.2:Int) else (p.1:Int))/\(if (p.2:Int)<(p.1:Int) then (p.2:Int) else (p.1:Int))<(if (p.1:Int)<(p.2:Int) then (p.2:Int) else (p.1:Int))/\(if (p.1:Int)<(p.2:Int) then (p.2:Int) else (p.1:Int))<n↔_
  rw[if_neg (by lia)]
  split <;> lia
 refine⟨⟨λh q hq=>?_,λh=>Yh.mpr λt ht=>?_⟩,λh t ht=>?_⟩
 ·obtain⟨p,hp,rfl⟩:=WX.mp hq;have:=Yh.mp h (tI p) (X6 hp);have l:=le p hp;refine(ok p hp).mpr ?_;have z:¬ ((p.1:Int)=(p.2:Int)\/(n:Int)<=(p.2:Int)):=λz=>this (by
   show (decide ((p.1:Int)=(p.2:Int)) || decide ((n:Int)<=(p.2:Int)))=true
   rw[Zw,decide_eq_true_eq,decide_eq_true_eq];exact z)
  lia
 ·obtain⟨p,hp,rfl⟩:=WX.mp ht;have:=(ok p hp).mp (h _ (X6 hp));show ¬ (decide ((p.1:Int)=(p.2:Int)) || decide ((n:Int)<=(p.2:Int)))=true
  rw[Zw,decide_eq_true_eq,decide_eq_true_eq];lia
 ·obtain⟨p,hp,rfl⟩:=WX.mp ht;have:=(ok p hp).mp (h _ (X6 hp));exact⟨p.1,p.2,rfl,by lia,by lia,by lia⟩
theorem vH:∀l:List (Option (Nat×Nat)),none∉l->∃ps:List (Nat×Nat),l=ps.map some
 |[],_=>⟨[],rfl⟩
 |none::l,h=>absurd Wo h
 |some p::l,h=>by
  obtain⟨ps,e⟩:=vH l λz=>h (Wm _ z);exact⟨p::ps,by rw[e];rfl⟩
theorem AR (ps:List (Nat×Nat)):(ps.map some).filterMap id=ps:=by
 rw[List.filterMap_map];exact List.filterMap_some
theorem nF {n:Nat}{ps:List (Nat×Nat)}:kJ (some n) (ps.map some)=if mC (ps.map tI)=true then gu 9 else if ((ps.map tI).any λt=>decide (t.getD 0 0=t.getD 1 0) || decide ((n:Int)<=t.getD 1 0))=true then gu 0 else mQ n (ps.map tI):=by
 show (if none∈ps.map some then gu 9 else _)=_
 rw[if_neg (λz=>(by obtain⟨p,_,e⟩:=WX.mp z;cases e)),AR]
theorem Et (gK:List (Option (Nat×Nat))):Mq .bE (.lst (gK.map vq))=some (.bl (decide (none∈gK))):=by
 have sm:(D.lst (gK.map vq)).pd.canLay0=true/\(D.lst (gK.map vq)).pd.depth<=4:=eM λd hd=>by
  obtain⟨o,_,rfl⟩:=WX.mp hd;cases o with
  |none=>exact⟨rfl,by show Xw .none<=3;simp[Xw]⟩
  |some p=>exact⟨(iT _).1,W8 (iT _).2 (by decide)⟩
 show ((if D.bE.ik=true/\(D.lst (gK.map vq)).ik=true then some ((D.fQ (gK.map vq)).any λy=>Xf y D.bE.pd) else none).map D.bl)=_
 rw[if_pos ⟨bO (n:=3) ⟨rfl,by show Xw .none<=3;simp[Xw]⟩,bO sm⟩]
 have e:((D.fQ (gK.map vq)).any λy=>Xf y D.bE.pd)=decide (none∈gK):=by
  clear sm
  induction gK with
  |nil=>rfl
  |cons o l ih =>
   show (Xf (vq o).pd D.bE.pd || _)=_
   rw[ih];cases o with
   |none=>rw[show Xf (vq none).pd D.bE.pd=true from rfl,Bool.true_or,decide_eq_true Wo]
   |some p =>
    rw[show Xf (vq (some p)).pd D.bE.pd=false from rfl,Z3]
    exact decide_eq_decide.mpr ⟨Wm _,λz=>by rcases Ws.mp z with z|z;cases z;exact z⟩
 rw[e];rfl
def A4 (c:Nat->Addr):ET:=λds R T=>∃cs:List Nat,ds=[.str (aG cs)]/\(∀c∈cs,c<128)/\cs.length<=600/\((∃(n:Nat) (ts:List (List Int)),cY cs=mQ n ts)->R (cY cs))/\(cY cs=gu 9->T (c 9))/\(cY cs=gu 0->T (c 0))
theorem A4.mono {c:Nat->Addr}:tj (A4 c):=λds R R' T T' k l h=>by obtain⟨cs,e,h1,h2,q,q9,q0⟩:=h;exact⟨cs,e,h1,h2,λz=>k _ (q z),λz=>l _ (q9 z),λz=>l _ (q0 z)⟩
def d6 (cs:List Nat):D:=match qk cs with
 |.bE=>gu 9
 |d=>.tup [.int (cs.length:Nat),d]
def A6 (c:Nat->Addr):ET:=λds R T=>∃cs:List Nat,ds=[.str (aG cs)]/\(∀c∈cs,c<128)/\cs.length<=600/\(qk cs≠.bE->R (.tup [.int (cs.length:Nat),qk cs]))/\(qk cs=.bE->T (c 9))
theorem A6.mono {c:Nat->Addr}:tj (A6 c):=λds R R' T T' k l h=>by obtain⟨cs,e,h1,h2,q,q9⟩:=h;exact⟨cs,e,h1,h2,λz=>k _ (q z),λz=>l _ (q9 z)⟩
theorem i4 {cs:List Nat}(h:qk cs=.bE):d6 cs=gu 9:=by unfold d6;rw[h]
theorem qZ {cs:List Nat}(h:qk cs≠.bE):d6 cs=.tup [.int (cs.length:Nat),qk cs]:=by
 unfold d6;cases e:qk cs with
 |bE=>exact absurd e h
 |_=>rfl
def xG:FD:=λds R=>∃(k:Int) (cs:List Nat),ds=[.int k,.str (aG cs)]/\(∀c∈cs,c<128)/\cs.length<=600/\R (if k=0 then cY cs else d6 cs)
theorem xG.mono:fE xG:=λds R R' k h=>by obtain⟨i,cs,e,h1,h2,q⟩:=h;exact⟨i,cs,e,h1,h2,k _ q⟩
def AZ:FD:=λds R=>∃cs:List Nat,ds=[.str (aG cs)]/\(∀c∈cs,c<128)/\cs.length<=600/\R (cY cs)
theorem AZ.mono:fE AZ:=λds R R' k h=>by obtain⟨cs,e,h1,h2,q⟩:=h;exact⟨cs,e,h1,h2,k _ q⟩
def AX:FD:=λds R=>∃cs:List Nat,ds=[.str (aG cs)]/\(∀c∈cs,c<128)/\cs.length<=600/\R (d6 cs)
theorem AX.mono:fE AX:=λds R R' k h=>by obtain⟨cs,e,h1,h2,q⟩:=h;exact⟨cs,e,h1,h2,k _ q⟩
open PySem.Spec PySem.SeqAt PyProof.Rows
def p5 (d0:D)(ds:List D):Option D:=match ds with
 |[e]=>(D.iP d0).bind λx=>(D.iP e).bind λy=>if y.length=1 then some (.int (Txt.count x y)) else none
 |_=>none
theorem xJ {d0 d:D}{ds:List D}(h:p5 d0 ds=some d):∃x y,d0=.str x/\ds=[.str y]/\d=.int (Txt.count x y):=by
 cases ds with
 |nil=>cases h
 |cons e r =>
  cases r with
  |cons _ _=>cases h
  |nil =>
   obtain⟨x,h1,h⟩:=WL.mp h;obtain⟨y,h2,h⟩:=WL.mp h
   by_cases hq:y.length=1
   ·rw[if_pos hq]at h;cases h;exact⟨x,y,D.bR h1,by rw[D.bR h2],rfl⟩
   ·rw[if_neg hq]at h;cases h
theorem nJ {X:Cx}:MQ X "str.count" p5 NF:=by
 intro pins s σ H x xs v us Q I rx rs h;obtain⟨W,d0,ds,d,hd,r0,r1,e,q⟩:=h;obtain⟨a,b,rfl,rfl,rfl⟩:=xJ e;cases (show x=V.str a from r0)
 cases iV r1;obtain⟨t,rfl⟩:=rx;obtain⟨u,rfl,t2,rfl⟩:=vals1 rs;exact SC.count ⟨.int _,H,I.tok _,⟨_,rfl⟩,q _ _ (ay.refl _) rfl λ_=>rfl⟩
theorem lE {c:Nat}:∀cs:List Nat,(aK c cs).length=cs.count c+1
 |[]=>rfl
 |x::l=>by
  have ih:=lE (c:=c) l;rw[aK]
  by_cases h:x=c
  ·rw[if_pos h,Wz,ih,h,List.count_cons_self]
  ·rw[if_neg h,List.count_cons_of_ne h];cases hs:aK c l with
   |nil=>rw[hs]at ih;cases ih
   |cons p r=>rw[hs]at ih;exact ih
theorem DF (x:Str):¬ Xo x<1:=by
 unfold Xo
 split
 ·decide
 ·split <;> decide
theorem sJ {c:Nat}(hk:Xo (bb c)=1)(cs:List Nat):Txt.count (aG cs) (bb c)=((cs.count c:Nat):Int):=by
 cases cs with
 |nil =>
  have h:=StrLaws.found_one (aG []) c;have h2:(W7 (aG []) (bb c) 0 (aG []).length ((aG []).length+1)).isEmpty=true:=by
   have h3:decide (c∈(aG []).cps.toList)=false:=decide_eq_false λz=>nomatch z;rw[h3,YG]at h;exact h
  show (((W7 (aG []) (bb c) 0 (aG []).length ((aG []).length+1)).length:Nat):Int)=_;rw[List.isEmpty_iff.mp h2];rfl
 |cons x l =>
  have et:X5 (aG (x::l)) (bb c)=if (decide ((aG (x::l)).length<(bb c).length) || decide (Xo (aG (x::l))<Xo (bb c)))=true then [aG (x::l)] else if (W7 (aG (x::l)) (bb c) 0 (aG (x::l)).length ((aG (x::l)).length+1)).isEmpty=true then [aG (x::l)] else Z1 (aG (x::l)) (W7 (aG (x::l)) (bb c) 0 (aG (x::l)).length ((aG (x::l)).length+1)) (bb c).length:=rfl
  rw[hk,decide_eq_false (show ¬ (aG (x::l)).length<(bb c).length from Nat.not_lt.mpr (X0 (WJ _))),decide_eq_false (DF _),Bool.or_false,if_neg XY,iR]at et
  show (((W7 (aG (x::l)) (bb c) 0 (aG (x::l)).length ((aG (x::l)).length+1)).length:Nat):Int)=_;generalize W7 (aG (x::l)) (bb c) 0 (aG (x::l)).length ((aG (x::l)).length+1)=os at et ⊢
  have hl:=congrArg ZS et;rw[Wj,lE]at hl;cases os with
  |nil =>
   rw[if_pos (show ([]:List Nat).isEmpty=true from rfl),Xn]at hl
   rw[show (x::l).count c=0 by lia]
   rfl
  |cons o os =>
   rw[if_neg (by simp),length_partsBetween]at hl
   congr 1
   lia
theorem HJ:Xo (bb 40)=1:=by simp[Xo,bb]
theorem HI:Xo (bb 41)=1:=by simp[Xo,bb]
theorem EB (cs:List Nat):p5 (.str (aG cs)) [.str "("]=some (.int ((cs.count 40:Nat):Int)):=by
 rw[show ("(" : Str)=bb 40 by decide +kernel]
 show (if (bb 40).length=1 then some (D.int (Txt.count (aG cs) (bb 40))) else none)=_
 rw[if_pos (show (bb 40).length=1 from rfl),sJ HJ]
theorem EA (cs:List Nat):p5 (.str (aG cs)) [.str ")"]=some (.int ((cs.count 41:Nat):Int)):=by
 rw[show (")" : Str)=bb 41 by decide +kernel]
 show (if (bb 41).length=1 then some (D.int (Txt.count (aG cs) (bb 41))) else none)=_
 rw[if_pos (show (bb 41).length=1 from rfl),sJ HI]
theorem BL {cs:List Nat}{t:Int}{ws:List Int}{fs:List (List Int)}:bF (40::cs) t ws fs=bF cs (t+1) (ws++[t]) fs:=by rw[bF];exact if_pos rfl
theorem BK {cs:List Nat}{t p:Int}{qs:List Int}{fs:List (List Int)}:bF (41::cs) t (qs++[p]) fs=bF cs (t+1) qs (fs++[[p,t]]):=by
 rw[bF,if_neg (by decide),if_pos ⟨rfl,by simp⟩,YV,List.getLastD_concat]
theorem sU {c:Nat}{cs:List Nat}{t:Int}{ws:List Int}{fs:List (List Int)}(h1:c≠40)(h2:¬ (c=41/\ws≠[]))(h3:c≠46):bF (c::cs) t ws fs=none:=by
 rw[bF,if_neg h1,if_neg h2,if_pos h3]
def xH:FD:=λds R=>∃cs:List Nat,ds=[.str (aG cs)]/\(∀c∈cs,c<128)/\cs.length<=600/\R (oD (bc cs 3))
theorem xH.mono:fE xH:=λds R R' k h=>by obtain⟨cs,e,h1,h2,q⟩:=h;exact⟨cs,e,h1,h2,k _ q⟩
def B5 (c:Nat):Int:=(if c=41 then 1 else 0)-(if c=40 then 1 else 0)
def cQ (cs:List Nat):Nat->Int->Nat×Int
 |0,l=>(0,l)
 |j+1,l=>if l=0 then (j+1,0) else cQ cs j (l+B5 (cs.getD j 0))
theorem scan0 {cs:List Nat}:∀k,cQ cs k 0=(k,0)
 |0=>rfl
 |k+1=>if_pos rfl
theorem kT {cs:List Nat}{j:Nat}{l:Int}(h:l≠0):cQ cs (j+1) l=cQ cs j (l+B5 (cs.getD j 0)):=if_neg h
def sX (cs:List Nat)(k:Nat)(ws:List Int):Prop:=∀L:Nat,1<=L->(L<=ws.length->(((cQ cs k (L:Int)).1:Nat):Int)=ws.reverse.getD (L-1) 0/\(cQ cs k (L:Int)).2=0)/\(ws.length<L->cQ cs k (L:Int)=(0,(L:Int)-(ws.length:Int)))
theorem sX.nil {cs:List Nat}:sX cs 0 []:=λL h=>⟨λz=>absurd z (by show ¬ L<=0;lia),λ_=>by show (0,(L:Int))=_;simp⟩
section
variable {cs:List Nat}{k:Nat}{ws:List Int}
theorem sX.dot (h:sX cs k ws)(hc:B5 (cs.getD k 0)=0):sX cs (k+1) ws:=λL hL=>by
 rw[kT (by lia),hc,Int.add_zero]
 exact h L hL
theorem sX.op (h:sX cs k ws)(hc:B5 (cs.getD k 0)=-1):sX cs (k+1) (ws++[(k:Int)]):=λL hL=>by
 rw[kT (by lia),hc,Yx,WK,Xn]
 match L,hL with
 |1,_ =>
  rw[show ((1:Nat):Int)+-1=0 from rfl,scan0]
  exact⟨λ_=>⟨rfl,rfl⟩,λz=>absurd z (by lia)⟩
 |L+2,_ =>
  rw[show ((L+2:Nat):Int)+-1=((L+1:Nat):Int) by lia]
  obtain⟨h1,h2⟩:=h (L+1) (by lia)
  exact⟨λz=>h1 (by lia),λz=>by rw[h2 (by lia)];congr 1;lia⟩
theorem sX.cl {l:Int}(h:sX cs k (ws++[l]))(hc:B5 (cs.getD k 0)=1):sX cs (k+1) ws:=λL hL=>by
 rw[kT (by lia),hc]
 obtain⟨h1,h2⟩:=h (L+1) (by lia)
 rw[Yx,WK,Xn]at h1;rw[WK,Xn]at h2;rw[show ((L:Nat):Int)+1=((L+1:Nat):Int) by lia]
 refine⟨λz=>?_,λz=>by rw[h2 (by lia)];congr 1;lia⟩
 have:=h1 (by lia)
 obtain⟨m,rfl⟩:∃m,L=m+1:=⟨L-1,by lia⟩
 exact this
theorem sX.top {l:Int}(h:sX cs k (ws++[l])):∃r,cQ cs k 1=(r,0)/\(r:Int)=l:=by
 obtain⟨h1,_⟩:=h 1 (Wl _);obtain⟨a,b⟩:=h1 (by rw[WK];exact Nat.le_add_left _ _)
 rw[Yx]at a;exact⟨(cQ cs k 1).1,Prod.ext rfl b,a⟩
theorem sX.none (h:sX cs k []):cQ cs k 1=(0,1):=(h 1 (Wl _)).2 (Nat.zero_lt_one)
end
theorem Ad {cs:List Nat}{i:Nat}(hi:i<cs.length)(h:cs.length<=1000000):Er (.str (aG cs)) (.int (i:Int))=some (.str (bb cs[i])):=by
 show (if (aG cs).length<=WA then (jy (aG cs).cps.toList (i:Int)).map λc=>D.str (bb c) else none)=_
 rw[if_pos (by rw[WY];show cs.length<=_;lia)]
 have e:jy (aG cs).cps.toList (i:Int)=some cs[i]:=by
  show jy cs (i:Int)=_;unfold jy qh;rw[if_pos (by lia),if_pos (by lia)]
  show cs[(i:Int).toNat]?=_;rw[XT,Wv hi]
 rw[e];rfl
theorem Ju (c:Nat):mn (.str (bb c)) (.str "().")=some (.bl (!decide (c=40\/c=41\/c=46))):=by
 rw[show ("()." : Str)=aG [40,41,46] by decide +kernel]
 show some (D.bl (!Txt.contains _ _))=_;rw[ku]
 congr 3
 refine decide_eq_decide.mpr ?_;simp only[Ws,X9,or_false]
theorem yK:B5 41=1:=by decide
theorem Gy:B5 40=-1:=by decide
theorem Gx:B5 46=0:=by decide
theorem zC {cs:List Nat}{ws:List Int}{fs:List (List Int)}(h:bF cs 0 [] []=some (ws,fs)):d6 cs=if ws=[] then .tup [.int (cs.length:Nat),.lst ((eF fs).map kD)] else gu 9:=by
 by_cases z:ws=[]
 ·rw[if_pos z];have:qk cs=.lst ((eF fs).map kD):=by unfold qk;rw[h];exact if_pos z
  unfold d6;rw[this]
 ·rw[if_neg z];refine i4 ?_;unfold qk;rw[h];exact if_neg z
theorem nG {cs:List Nat}(h:bF cs 0 [] []=none):d6 cs=gu 9:=i4 (by unfold qk;rw[h])
theorem yM (n d:Nat):HT.fH n d (some (-1))=n-1:=by
 show (if (-1:Int)<0 then ((-1:Int)+(n:Int)).toNat else min (-1:Int).toNat n)=_
 rw[if_pos (show (-1:Int)<0 by decide)]
 lia
theorem Jn (xs:List Nat):dX xs none (some (-1))=xs.dropLast:=by
 unfold dX;rw[HT.fV,yM,List.drop_zero,Nat.sub_zero,List.dropLast_eq_take]
theorem Bu (xs:List Nat):dX xs (some (-1)) none=xs.drop (xs.length-1):=by
 unfold dX;rw[HT.fV,yM];exact XM (by rw[Yq];lia)
theorem Ey (ds:List D):cutD ds (some 1) none=ds.drop 1:=by
 unfold cutD;rw[HT.fV,show (1:Int)=((1:Nat):Int) from rfl,HT.o4]
 by_cases h:1<=ds.length
 ·rw[Nat.min_eq_left h];exact XM (by rw[Yq];lia)
 ·rw[Nat.min_eq_right (by lia),Yn (Wl _),Yn (by lia)]
  exact List.take_nil
theorem rE {xs:List Nat}:xs.drop (xs.length-1)=[58]↔xs.getLast?=some 58:=by
 rcases (Classical.em (xs=[])).imp id λz=>(⟨xs.dropLast,xs.getLast z,(YI z).symm⟩:∃l x,xs=l++[x])with rfl|⟨l,x,rfl⟩
 ·exact⟨λz=>(by cases z),λz=>(by cases z)⟩
 ·rw[WK,Xn,Nat.add_sub_cancel,List.drop_left,List.getLast?_concat];exact⟨λz=>(by cases z;rfl),λz=>(by cases z;rfl)⟩
theorem Bl (d:D)(ds:List D):uO (.lst (d::ds)) (.int 0)=some d:=by
 show jy (d::ds) 0=some d;unfold jy qh;rw[if_pos (by lia),if_pos (by rw[Wz];lia)]
 rfl
theorem Ga {w:List Nat}(h:(aK 45 w).length≠2):u_ w=none:=by
 unfold u_
 split
 ·rename_i x y e
  exact absurd (by rw[e];rfl) h
 ·rfl
theorem Co {w x y:List Nat}{a b:Nat}(e:aK 45 w=[x,y])(ha:bc x 3=some a)(hb:bc y 3=some b):u_ w=some (a,b):=by
 unfold u_;rw[e];show (match bc x 3,bc y 3 with|some a,some b=>some (a,b)|_,_=>none)=_
 rw[ha,hb]
theorem u9 {w x y:List Nat}(e:aK 45 w=[x,y])(h:bc x 3=none\/bc y 3=none):u_ w=none:=by
 unfold u_;rw[e];show (match bc x 3,bc y 3 with|some a,some b=>some (a,b)|_,_=>none)=_
 rcases h with h|h
 ·rw[h]
 ·rw[h];cases bc x 3 <;> rfl
theorem xf {m:Option Nat}{gK:List (Option (Nat×Nat))}{a b:Nat}(h:some (a,b)∈gK)(hb:b<a):kJ m gK=gu 9:=by
 cases m with
 |none=>rfl
 |some n =>
  by_cases hn:none∈gK
  ·exact if_pos hn
  ·show (if none∈gK then gu 9 else _)=_
   rw[if_neg hn,if_pos];unfold mC;rw[Zw];refine .inl (Zn.mpr ⟨tI (a,b),X6 (YE.mpr ⟨_,h,rfl⟩),?_⟩);exact decide_eq_true (show (b:Int)<(a:Int) by lia)
theorem Jl (l:List (Option Nat)):Mq .bE (.lst (l.map oD))=some (.bl (decide (none∈l))):=by
 have sm:(D.lst (l.map oD)).pd.canLay0=true/\(D.lst (l.map oD)).pd.depth<=4:=eM λd hd=>by
  obtain⟨o,_,rfl⟩:=WX.mp hd;cases o with
  |none=>exact⟨rfl,by show Xw .none<=3;simp[Xw]⟩
  |some p=>exact⟨(bL _).1,W8 (bL _).2 (by decide)⟩
 show ((if D.bE.ik=true/\(D.lst (l.map oD)).ik=true then some ((D.fQ (l.map oD)).any λy=>Xf y D.bE.pd) else none).map D.bl)=_
 rw[if_pos ⟨bO (n:=3) ⟨rfl,by show Xw .none<=3;simp[Xw]⟩,bO sm⟩]
 have e:((D.fQ (l.map oD)).any λy=>Xf y D.bE.pd)=decide (none∈l):=by
  clear sm
  induction l with
  |nil=>rfl
  |cons o l ih =>
   show (Xf (oD o).pd D.bE.pd || _)=_
   rw[ih];cases o with
   |none=>rw[show Xf (oD none).pd D.bE.pd=true from rfl,Bool.true_or,decide_eq_true Wo]
   |some p =>
    rw[show Xf (oD (some p)).pd D.bE.pd=false from rfl,Z3]
    exact decide_eq_decide.mpr ⟨Wm _,λz=>by rcases Ws.mp z with z|z;cases z;exact z⟩
 rw[e];rfl
theorem Ew (t u:List Int):Mr (kD t) (kD u)=some (.bl (yc.cC t u)):=by
 show (match L2.c9 (t.map D.int),L2.c9 (u.map D.int)with|some ns,some ms=>some (D.bl (yc.cC ns ms))|_,_=>none)=_
 rw[L2.gR,L2.gR]
theorem oR {n:Nat}(h:n<41):v_ [.int (n:Int)]=some (.str (tS (n:Int))):=if_pos (Gw (by lia) (by lia))
theorem qc {x y:Str}(h:x.length+y.length<=1000000):Bt (.str x) (.str y)=some (.str (x++y)):=by
 show (if x.length+y.length<=1000000 then some (D.str (x++y)) else none)=_
 rw[if_pos h]
theorem eK {n:Nat}(h:n<41):(tS (n:Int)).length<=10:=Gm (by lia) (by lia)
theorem Ab {n:Nat} {rows:List (List Int)} (hn:n<41) (h:sY rows) (hl:rows.length<=60):Bk (.str " ") [.lst ([D.str (tS (n:Int)++(":" : Str))]++(rows.filter λ_=>true).map λt=>D.str (tS (t.getD 0 0)++("-" : Str)++tS (t.getD 1 0)))]=some (.str (aG (Kx n rows))):=by
 rw[X7.mpr λ_ _=>rfl,show ([D.str (tS (n:Int)++(":" : Str))]++rows.map λt=>D.str (tS (t.getD 0 0)++("-" : Str)++tS (t.getD 1 0)))=((tS (n:Int)++(":" : Str))::rows.map λt=>tS (t.getD 0 0)++("-" : Str)++tS (t.getD 1 0)).map D.str by rw[W3,W6];rfl]
 show (nu (List.map D.str _)).bind _=_;rw[qE];have hs:∀{l:List (List Int)},sY l->((l.map λt=>tS (t.getD 0 0)++("-" : Str)++tS (t.getD 1 0)).map (·.length)).sum<=21*l.length:=λ{l} h=>by
  induction l with
  |nil=>exact Wl _
  |cons t l ih =>
   have:=ih λu hu=>h u (Wm _ hu);obtain⟨a,b,rfl,q0,q1⟩:=h t Wo;have h1:=eK (n:=a) (by lia)
   have h2:=eK (n:=b) (by lia)
   have h3:(tS (a:Int)++("-" : Str)++tS (b:Int)).length<=21:=by
    rw[ZP,ZP,show (("-" : Str)).length=1 by decide +kernel]
    lia
   rw[W3,W3,List.sum_cons,Wz];show (tS (a:Int)++("-" : Str)++tS (b:Int)).length+_<=_;lia
 have h1:=hs h;have h2:=eK hn;have h3:(tS (n:Int)++(":" : Str)).length<=11:=by rw[ZP,show ((":" : Str)).length=1 by decide +kernel];lia
 show (if rF " " ((tS (n:Int)++(":" : Str))::rows.map λt=>tS (t.getD 0 0)++("-" : Str)++tS (t.getD 1 0))<=1000000 then some (D.str (Ze " " ((tS (n:Int)++(":" : Str))::rows.map λt=>tS (t.getD 0 0)++("-" : Str)++tS (t.getD 1 0)))) else none)=_
 rw[if_pos (by unfold rF;rw[W3,List.sum_cons,Wz,Wj,show ((" " : Str)).length=1 by decide +kernel];lia),Aa hn h]
theorem CF {us:List (List Int)}{n:Nat}:∀c∈vj us n,c<128:=λc h=>by
 obtain⟨k,_,rfl⟩:=WX.mp h;have:=yJ (us:=us) (k:=((k:Nat):Int));lia
def AW:FD:=λds R=>∃c:Int,ds=[.int c]/\∀cs:List Nat,(∀x∈cs,x<128)->cs.length<=300->R (.str (aG cs))
theorem AW.mono:fE AW:=λds R R' k h=>by obtain⟨c,e,q⟩:=h;exact⟨c,e,λcs a b=>k _ (q cs a b)⟩
def AY:FD:=λds R=>∃(cs:List Nat) (c:Int),ds=[.str (aG cs),.int c]/\(∀x∈cs,x<128)/\cs.length<=300/\∀Rm:List Nat,(∀x∈Rm,x<128)->Rm.length<=310->R (.str (aG Rm))
theorem AY.mono:fE AY:=λds R R' k h=>by obtain⟨cs,c,e,h1,h2,q⟩:=h;exact⟨cs,c,e,h1,h2,λcs a b=>k _ (q cs a b)⟩
theorem sH {xs:List Nat}{lo hi:Option Int}{x:Nat}(h:x∈dX xs lo hi):x∈xs:=List.mem_of_mem_drop (List.mem_of_mem_take h)
theorem Mv {xs:List Nat}{a:Int}(h:0<=a):(dX xs none (some a)).length<=a.toNat:=by
 obtain⟨k,rfl⟩:∃k:Nat,a=(k:Int):=⟨a.toNat,by lia⟩
 unfold dX;rw[HT.fV,HT.o4,WW,XT];lia
theorem Mu {xs:List Nat}{b:Int}(h:0<=b):(dX xs (some b) none).length<=xs.length-b.toNat:=by
 obtain⟨k,rfl⟩:∃k:Nat,b=(k:Int):=⟨b.toNat,by lia⟩
 unfold dX;rw[HT.fV,HT.o4,WW,XT];lia
def Ro:D->Bool
 |.str x=>x.cps.toList.all (λc=>decide (c<128))&&decide (x.cps.toList.length<=300)
 |_=>false
theorem BI {d:D}(h:Ro d=true):∃cs:List Nat,d=.str (aG cs)/\(∀c∈cs,c<128)/\cs.length<=300:=by
 cases d with
 |str x =>
  obtain⟨h1,h2⟩:=YW.mp h;exact⟨x.cps.toList,rfl,λc hc=>of_decide_eq_true (X_.mp h1 c hc),of_decide_eq_true h2⟩
 |_=>cases h
theorem wJ {m:Option Nat}{gK:List (Option (Nat×Nat))}:(kJ m gK).pd.canLay0=true/\(kJ m gK).pd.depth<=4:=by
 have fl:∀i,(gu i).pd.canLay0=true/\(gu i).pd.depth<=4:=λi=>eM λd hd=>by
  obtain⟨b,_,rfl⟩:=WX.mp hd;exact⟨(eO b).1,W8 (eO b).2 (by decide)⟩
 cases m with
 |none=>exact fl 9
 |some n =>
  have e:kJ (some n) gK=if none∈gK then gu 9 else if mC ((gK.filterMap id).map tI)=true then gu 9 else if (((gK.filterMap id).map tI).any λt=>decide (t.getD 0 0=t.getD 1 0) || decide ((n:Int)<=t.getD 1 0))=true then gu 0 else mQ n ((gK.filterMap id).map tI):=rfl
  rw[e]
  split
  ·exact fl 9
  ·split
   ·exact fl 9
   ·split
    ·exact fl 0
    ·exact nz _ _
theorem tY {cs:List Nat}:(d6 cs).pd.canLay0=true/\(d6 cs).pd.depth<=4:=by
 rcases BM cs with e|⟨fs,e,_⟩
 ·rw[i4 e];exact eM λd hd=>by
   obtain⟨b,_,rfl⟩:=WX.mp hd;exact⟨(eO b).1,W8 (eO b).2 (by decide)⟩
 ·rw[qZ (by rw[e];intro z;cases z),e]
  exact nz _ _
end L2.Q
namespace oM
open PySem L2 L2.Q
section
variable {P:Wq}{w:WC}{K:PySem.W.Frag}{mg:Str->Option Wg}{base:Heap}{c:Nat->Addr}
theorem aW:aU ["text","cell","k","way","at","signs","sign","menu"] ["text","cell"] (aw dc):=mkS
theorem Hh {Eg vY} (JX:D2 K mg Eg vY) {kL fL} (cF:D1 K mg kL fL) {jm d8} (pU:D0 K mg jm d8) (B:wA mg):a9 P w K mg base c6 3 Eg vY ["text","cell"] (eG P w true AY):=by
 have qm:a9 P w K mg base c6 2 _ _ _ (eG P w true dW):=i8 cF pU;refine tw JX.F aW (λds R h=>by obtain⟨cs,c,e,_⟩:=h;subst e;rfl) λbW A outer s H E hr=>⟨_,(aj (gf Yj rfl (fo B.range (aa (aJ dW.mono qm (hr.mono (by decide)) cF.m cF.F.kp cF.b (aa (af (i:=1)) (aa ak (aa ak ag)))) ag)) (aI (i:=2) aW.nd) (aj (a6 (i:=3) (aJ dW.mono qm (hr.mono (by decide)) cF.m cF.F.kp cF.b (aa (af (i:=1)) (aa (aN aP aM ak (af (i:=2))) (aa ak ag)))) aW.nd)
    (aj (a6 (i:=4) (aJ dW.mono qm (hr.mono (by decide)) cF.m cF.F.kp cF.b (aa (af (i:=1)) (aa (aN aP aM ak (af (i:=2))) (aa (aN aP aM (aL ai (aX.m cf) B.len c5 (aa (af (i:=0)) ag)) ak) ag)))) aW.nd)
    (aj (a6 (i:=5) ar aW.nd)
    (C2 (bz (aH ai (bf.m (b_ hr.units)) (aJ dW.mono qm (hr.mono (by decide)) cF.m cF.F.kp cF.b (aa (af (i:=1)) (aa (aN aP aM ak (af (i:=2))) (aa ak ag)))) ak) (ax (a6 (i:=5) ar aW.nd)) a5)
    (aj (a6 (i:=6) (bo ai fw (af (i:=5)) (aJ dW.mono qm (hr.mono (by decide)) cF.m cF.F.kp cF.b (aa (af (i:=1)) (aa (aN aP aM ak (af (i:=2))) (aa (aL ai (aX.m cf) B.len c5 (aa (af (i:=5)) ag)) ag))))) aW.nd)
    (ax (a6 (i:=0) (aN ai (bf.m gh) (aN ai (bf.m gh) (o9 (af (i:=0)) f9 (f7 (af (i:=4)))) (bo ai dk (bw (aa (af (i:=6)) (aa ar (aa (af (i:=6)) ag)))) (af (i:=3)))) (o9 (af (i:=0)) (f7 (aN aP aM (af (i:=4)) (bD ai (aX.m jU) B.int mz (aa (dI ai (bf.m lQ) (af (i:=3)) ak) ag)))) f9)) aW.nd))))))))
    (aj (a6 (i:=7) (bw (aa ar (aa ar (aa ar (aa ar (aa ar (aa ar (aa ar (aa ar (aa ar (aa ar (aa ar ag)))))))))))) aW.nd)
    (aj (a6 (i:=7) (aN aP aM (af (i:=7)) (bw (aa ar (aa ar ag)))) aW.nd)
    (aj (a6 (i:=7) (aN aP aM (af (i:=7)) (bw (aa ar (aa ar (aa ar (aa ar (aa ar (aa ar (aa ar (aa ar (aa ar ag))))))))))) aW.nd)
    (aj (a6 (i:=7) (aN aP aM (af (i:=7)) (bw (aa ar (aa ar (aa ar (aa ar (aa ar (aa ar (aa ar (aa ar (aa ar ag))))))))))) aW.nd)
    (aj (bz (aH ai (bf.m (b_ hr.units)) (aJ dW.mono qm (hr.mono (by decide)) cF.m cF.F.kp cF.b (aa (af (i:=1)) (aa ak (aa ak ag)))) ak) (ax (aY (bo ai dk (af (i:=7)) (aJ dW.mono qm (hr.mono (by decide)) cF.m cF.F.kp cF.b (aa (af (i:=1)) (aa ak (aa (aL ai (aX.m eZ) B.len c5 (aa (af (i:=7)) ag)) ag))))))) a5)
    (ax (aY (af (i:=0)))))))))),λds R h=>?_⟩
 obtain⟨cs,c,rfl,asc,hl,q⟩:=h;have di:∀b:Bool,Es [.bl b]=some (.int (if b=true then 1 else 0)):=λb=>by cases b <;> rfl
 refine⟨_,rfl,trivial,trivial,trivial,c,160,3,rfl,by decide,by decide,by decide,λm m0 m3=>?_⟩
 refine⟨trivial,m,rfl,by lia,by lia,trivial,?_⟩
 refine uD (λi β=>∃(fl:Bool) (ts:List Nat) (y2 y3 y4 y5 y6 y7:Option Q.B),β=[some (.val fl (.str (aG ts))),some (.val false (.int c)),y2,y3,y4,y5,y6,y7]/\(∀x∈ts,x<128)/\ts.length<=300+i) ⟨_,cs,_,_,_,_,_,_,rfl,asc,hl⟩ (λE1 r1 i n1 d β hd hv=>?_) λβ hv=>?_
 ·obtain⟨fl,ts,y2,y3,y4,y5,y6,y7,rfl,ta,tl⟩:=hv;obtain⟨hi,rfl⟩:=fW hd;have i3:i<3:=by lia
  refine⟨_,rfl,trivial,trivial,_,rfl,_,rfl,trivial,trivial,c,161+(0+(i:Int)),3,rfl,by lia,by lia,by decide,λway w0 w3=>?_⟩
  refine⟨_,rfl,trivial,trivial,_,rfl,_,rfl,trivial,_,rfl,trivial,_,dS (by lia),trivial,_,rfl,trivial,c,164+(0+(i:Int)),(ts.length:Nat)+1,rfl,by lia,by lia,by lia,λat_ a0 a1=>?_⟩
  refine⟨λβ=>∃(x:Str) (y6 y7:Option Q.B),β=[some (.val fl (.str (aG ts))),some (.val false (.int c)),some (.val true (.int (0+(i:Int)))),some (.val true (.int way)),some (.val true (.int at_)),some (.val true (.str x)),y6,y7]/\x.cps.toList.all (λc=>decide (c<128))=true/\0<x.cps.toList.length/\x.cps.toList.length<=200,?_,λβ h=>?_⟩
  ·refine⟨_,rfl,trivial,trivial,_,rfl,_,rfl,trivial,trivial,c,174+(0+(i:Int)),3,rfl,by lia,by lia,by decide,λr r0 r1=>⟨trivial,_,fz _ _,_,rfl,nX (λ_=>⟨_,_,_,rfl,by decide +kernel,by decide +kernel,by decide +kernel⟩) λ_=>⟨_,_,_,rfl,by decide +kernel,by decide +kernel,by decide +kernel⟩⟩⟩
  obtain⟨x,y6,y7,rfl,xa,x0,x1⟩:=h;obtain⟨sg,rfl⟩:∃sg,x=aG sg:=⟨x.cps.toList,rfl⟩;have sa:∀c∈sg,c<128:=λc hc=>of_decide_eq_true (X_.mp xa c hc);have x0:0<sg.length:=x0;have x1:sg.length<=200:=x1;refine⟨_,rfl,trivial,_,rfl,trivial,trivial,_,rfl,_,rfl,trivial,_,rfl,trivial,_,dS (by lia),trivial,c,167+(0+(i:Int)),(sg.length:Nat),rfl,by lia,by lia,by lia,λr r0 r1=>?_⟩
  obtain⟨j,rfl⟩:∃j:Nat,r=(j:Int):=⟨r.toNat,by lia⟩
  have hj:j<sg.length:=by lia
  refine⟨_,Ad hj (by lia),?_⟩
  have sc:=sa _ (YB hj);generalize sg[j]=s at sc ⊢
  obtain⟨u,eu,au,lu⟩:∃u:List Nat,uO (.lst [.str (bb s),.str "",.str (bb s)]) (.int way)=some (.str (aG u))/\(∀c∈u,c<128)/\u.length<=1:=by
   rcases (by lia:way=0\/way=1\/way=2)with rfl|rfl|rfl
   ·exact⟨[s],rfl,λc hc=>by rw[Wx.mp hc];exact sc,Wl _⟩
   ·exact⟨[],by rw[NP];rfl,λc hc=>(nomatch hc),WJ _⟩
   ·exact⟨[s],rfl,λc hc=>by rw[Wx.mp hc];exact sc,Wl _⟩
  have l1:=Mv (xs:=ts) a0;obtain⟨g,eg,g0,g1⟩:∃g:Int,Es [.bl (decide (0<way))]=some (.int g)/\0<=g/\g<=1:=⟨_,di _,by split <;> decide,by split <;> decide⟩
  have l2:=Mu (xs:=ts) (b:=at_+g) (by lia)
  refine⟨_,rfl,_,rfl,at_,rfl,_,kZ (by lia),trivial,_,rfl,trivial,trivial,_,rfl,trivial,RN,trivial,_,rfl,_,eu,_,sD (by lia),trivial,_,rfl,?_⟩
  refine⟨_,rfl,trivial,_,rfl,trivial,_,rfl,trivial,_,eg,_,rfl,at_+g,rfl,_,kZ (by lia),_,sD (by rw[WK];lia),n1 _ ⟨true,_,_,_,_,_,_,_,rfl,λx hx=>?_,?_⟩⟩
  ·rcases WO.mp hx with hx|hx
   ·rcases WO.mp hx with hx|hx
    ·exact ta x (sH hx)
    ·exact au x hx
   ·exact ta x (sH hx)
  ·rw[WK,WK];lia
 ·obtain⟨fl,ts,y2,y3,y4,y5,y6,y7,rfl,ta,tl⟩:=hv;rw[dH]at tl;refine⟨trivial,trivial,trivial,trivial,trivial,trivial,trivial,trivial,trivial,trivial,trivial,by show 11<=WA;decide,?_⟩
  refine⟨_,rfl,trivial,trivial,trivial,by show 2<=WA;decide,_,cG (by show 11+2<=_;decide),.inl ⟨rfl,?_⟩⟩
  refine⟨_,rfl,trivial,trivial,trivial,trivial,trivial,trivial,trivial,trivial,trivial,trivial,by show 9<=WA;decide,_,cG (by show 13+9<=_;decide),.inl ⟨rfl,?_⟩⟩
  refine⟨_,rfl,trivial,trivial,trivial,trivial,trivial,trivial,trivial,trivial,trivial,trivial,by show 9<=WA;decide,_,cG (by show 22+9<=_;decide),.inl ⟨rfl,?_⟩⟩
  refine⟨_,rfl,trivial,trivial,trivial,c,170,3,rfl,by decide,by decide,by decide,λr r0 r1=>⟨trivial,_,fz _ _,_,rfl,nX (λ_=>?_) λ_=>⟨_,rfl,trivial,q ts ta (by lia)⟩⟩⟩
  refine⟨_,rfl,trivial,_,rfl,trivial,trivial,_,rfl,trivial,_,mq (n:=31) (by rfl),trivial,c,171,((31:Nat):Int),rfl,by decide,by decide,by decide,λj j0 j1=>pick j0 (by show j<31;lia) λd hd=>?_⟩
  obtain⟨us,rfl,ua,ul⟩:=BI (X_.mp (by decide +kernel) d hd)
  exact⟨trivial,q us ua (by lia)⟩
end
end oM
namespace L2.Q
open PySem PySem.Spec PySem.SeqAt PyProof.Rows
section
variable {X:Cx}{C:Cfg}{lk:List (Option Nat)}{γ:dY}{τ:bh}{φ:aS}{T:List Nat}{pi pc pe:Bool}{scope:Zc}{N':List Str}{tg gk elt:Expr}{ifs:List Expr}{ι:fM}{pos pos' yB:Pos}{y:Str}{i:Nat}
def yT (hp:Bool)(lk:List (Option Nat))(ι:fM)(γ:dY)(τ:bh)(φ:aS):aS:=λβ R=>ι β λds k β1=>hold k hp/\lV γ τ φ ds k (c_ lk β1) λo=>R (.lst o) .own β1
theorem FR {σ:St}{H1:Hp}{β:a_}{own:Nat->List Addr}{a:Addr}{J:It}{ds:List D}{k:Kd}{K:List D->Prop}{End:Hp->Prop}(L:Links X scope N' lk)(Ca:N'.Nodup)(hT:T.all (λi=>match lk[i]? with|some (some _)=>false|_=>true)=true)
  (γm:∀d k β R R',(∀r,R r->R' r)->γ d k β R->γ d k β R') (τm:∀β R R',(∀d β,R d β->R' d β)->τ β R->τ β R') (φm:∀β R R',(∀d k β,R d k β->R' d k β)->φ β R->φ β R')
  (s1:SQ X C σ H1 β own) (ha:H1 a=none) (it:Cg X (av C (Wn own) k) J ds H1) (q:lV γ τ φ ds k (c_ lk β) K)
  (fin:∀o H',K o->Out X C σ H1 own true β H' own->KV X.prog X.w C (H1,Wn own) own H' .own (.lst o) (.ref a)->End H') :
  g6 J (J_ X C a T γ) (lq X (C.u λc=>c=a) true τ) (MV X C a φ) (λ_ H'=>End H') (dq lk σ) (upd H1 a (.lst [])):=by
 have QX:∀i∈T,∀j,lk[i]?≠some (some j):=λi hi j e=>by
  have:=X_.mp hT i hi;rw[e]at this;cases this
 exact yL (T:=T) (BP (P:=X.prog) (w:=X.w) (H1:=H1)) γm τm (λj hj=>hj) (jJ L Ca) QX s1 ha it ⟨[],[],aE,(show a8 _ _ _ [] [] [] from ⟨rfl,rfl⟩),Xx,λc hc=>(nomatch hc)⟩ (s1.enter ha (jJ L Ca))
  (λHb Wb βx ox σx Hx Nx h0 sx qx=>CJ h0 ha φm sx qx) q λo H' q o2 r=>fin o H' q o2 (Jx s1 ha r)
theorem Fl (hp:Bool)(N':List Str)(lk:List (Option Nat))(L:lX X.env.scope.names X.N scope N' lk=true)(Ca:N'.Nodup)(hc:X.calm=true)(hi:Cf X C pi tg gk ι)
  (B8:∀U cl c s H ex,ES (aZ X scope N' cl c s H ex) (C.u U) tg T γ) (xZ:∀U cl c s H ex,EO (aZ X scope N' cl c s H ex) (C.u U) pc ifs τ) (rM:∀U cl c s H ex,PQ (aZ X scope N' cl c s H ex) (C.u U) pe elt φ) (h1:pc=true:=by rfl) (h2:pe=true:=by rfl)
  (hT:T.all (λi=>match lk[i]? with|some (some _)=>false|_=>true)=true:=by rfl) (hs:∀x,X3 gk X.env x=pure x:=by intro _;rfl):PQ X C pi (.ListComp elt [⟨tg,gk,ifs,0⟩] scope pos) (yT hp lk ι γ τ φ):=by
 subst h1 h2;have L':=Links.of L;have γm:=(B8 (λ_=>False) [] 0 X.s₀ X.H₀ []).mono;have τm:=(xZ (λ_=>False) [] 0 X.s₀ X.H₀ []).mono;have φm:=(rM (λ_=>False) [] 0 X.s₀ X.H₀ []).mono;refine⟨λβ R R' k h=>hi.mono β _ _ (λds kd β1 q=>⟨q.1,q.2.mono λo z=>k _ _ _ z⟩) h,?_⟩;refine(zu (g:=⟨tg,gk,ifs,0⟩) (gs:=[]) (tg:=λa=>J_ X C a T γ) (tt:=λa=>lq X (C.u λc=>c=a) true τ) (ta:=λa=>MV X C a φ)
  L' hc q_ rfl rfl (λ_ _=>FT) hi.pi (λa cl c s H ex=>⟨(B8 _ cl c s H ex).pg,(xZ _ cl c s H ex).pt,qW rfl (rM _ cl c s H ex).pe⟩) hs).pre λσ H Q h=>?_
 obtain⟨β,own,s,h⟩:=h;refine⟨β,own,s,hi.mono β _ _ (λds k β1 h J H1 az o1 it a ha=>?_) h⟩;obtain⟨hk,q⟩:=h;exact FR L' Ca hT γm τm φm o1.sq ha it q λo H' q o2 r=>q _ _ az (o1.ve o2 λz=>⟨z,rfl⟩) (r.later o1.sn)
theorem Ku (o:Bool)(N':List Str)(lk:List (Option Nat))(L:lX X.env.scope.names X.N scope N' lk=true)(Ca:N'.Nodup)(hc:X.calm=true)(hi:∀U,Cf X (C.u U) pi tg gk ι)
  (B8:∀U cl c s H ex,ES (aZ X scope N' cl c s H ex) (C.u U) tg T γ) (xZ:∀U cl c s H ex,EO (aZ X scope N' cl c s H ex) (C.u U) pc ifs τ) (rM:∀U cl c s H ex,PQ (aZ X scope N' cl c s H ex) (C.u U) pe elt φ)
  (hN:X.N.Nodup) (h1:pc=true:=by rfl) (h2:pe=true:=by rfl) (hT:T.all (λi=>match lk[i]? with|some (some _)=>false|_=>true)=true:=by rfl) (hy:X.N[i]?=some y:=by rfl) (hx:Loc X.env.scope y:=by first|exact .inl rfl|exact .inr rfl) (hf:X.fn y=true\/X.env.scope.names.lookup y=some .local:=by first|exact .inl rfl|exact .inr rfl|assumption)
  (B9:ZC (.ListComp elt [⟨tg,gk,ifs,0⟩] scope pos) (some (.Name y pos')) yB.line X.env=pure true:=by rfl)
  (IS:evalThenUse (.ListComp elt [⟨tg,gk,ifs,0⟩] scope pos) X.env (assign (.Name y pos') X.env)=(do let _ <- comprehension (.ListComp elt [⟨tg,gk,ifs,0⟩] scope pos) scope X.env (firstIterPos [⟨tg,gk,ifs,0⟩] pos) (newList []) false (eval gk X.env) (some (assign (.Name y pos') X.env));pure ()):=by first|rfl|exact arm_evalThenUse_ListComp ..)
  (hs:∀x,X3 gk X.env x=pure x:=by intro _;rfl) :
  PB X C (.Assign [.Name y pos'] (.ListComp elt [⟨tg,gk,ifs,0⟩] scope pos) yB) (λE β=>yT false lk ι γ τ φ β λd _ β'=>E.nx (β'.set i (some (match o with|true=>.own d|false=>.val true d)))):=by
 subst h1 h2;have L':=Links.of L;have γm:=(B8 (λ_=>False) [] 0 X.s₀ X.H₀ []).mono;have τm:=(xZ (λ_=>False) [] 0 X.s₀ X.H₀ []).mono;have φm:=(rM (λ_=>False) [] 0 X.s₀ X.H₀ []).mono;refine⟨λE E' β l h=>(hi λ_=>False).mono β _ _ (λds kd β1 q=>⟨q.1,q.2.mono λo z=>l.nx _ z⟩) h,λpins s σ H D I0 hh=>?_⟩;obtain⟨Z,E,β,⟨own,sq,n⟩,h,ok⟩:=hh;refine yY (g:=⟨tg,gk,ifs,0⟩) (gs:=[]) (tg:=λa=>J_ X C a T γ) (tt:=λa=>lq X (C.u λc=>c=a) true τ) (ta:=λa=>MV X C a φ)
  L' hc q_ B9 IS rfl hN hy hx hf (λ_ _=>FT) (hi λa=>H a=none).pi (λa cl c s H ex=>⟨(B8 _ cl c s H ex).pg,(xZ _ cl c s H ex).pt,qW rfl (rM _ cl c s H ex).pe⟩) hs pins s σ H D I0 ?_
 refine⟨β,own,sq.qu (C:=C.z) (U:=λa=>H a=none) λa z=>z,(hi λ_=>False).mono β _ _ (λds k β1 h J H1 az o1 it a ha=>?_) h⟩;obtain⟨hk,q⟩:=h;refine FR (C:=C.u λa=>H a=none) L' Ca hT γm τm φm o1.sq ha it q λol H' q o2 r=>?_;have r':=r.later o1.sn;have m:=n.trans (o1.sn.trans o2.sn);cases o with
 |false=>exact ok.nx _ _ _ ⟨_,(b6.Uh o2.sq).dD (aD.a7 (λa z=>z.elim id λz=>z.elim) (KV.rep r')),jB m⟩ q
 |true =>
  obtain⟨A,h1,h2,h3⟩:=r';refine ok.nx _ _ _ ⟨_,o2.sq.t5 h1 h2 λc hc=>⟨(h3 c hc).2.2,(h3 c hc).2.1,(h3 c hc).1⟩,?_⟩ q;exact⟨λb hq=>by
   obtain⟨j,hj⟩:=hq
   by_cases aQ:i=j
   ·rw[<- aQ,os_eq]at hj;exact .inr (n.free (h3 b hj).1)
   ·rw[bg aQ]at hj;exact m.w b ⟨j,hj⟩,m.k,m.d⟩
end
end L2.Q
namespace oM
open PySem L2 L2.Q
section
variable {P:Wq}{w:WC}{K:PySem.W.Frag}{mg:Str->Option Wg}{base:Heap}{cA:Addr}{c:Nat->Addr}
theorem da:aU ["e","flags"] ["e"] (aw d4):=mkS
theorem zL {xE oq} (FP:D3 K mg xE oq) (B:Bs3 mg) (bV:mg "ValueError" = none) (ZA:XA K mg cA c):Nz P w K mg base 1 xE oq ["e"] (eG P w true (Ek c)):=by
 refine OC FP.F da (λds R h=>by obtain⟨i,_,e,_⟩:=h;subst e;rfl) λbW A outer s H E hr=>⟨_,(aj (a6 (i:=1) (bw (aa (cW B.xq (af (i:=0)) (XA.x ZA 0).m) (aa (cW B.xq (af (i:=0)) (XA.x ZA 1).m) (aa (cW B.xq (af (i:=0)) (XA.x ZA 2).m) (aa (cW B.xq (af (i:=0)) (XA.x ZA 3).m) ag))))) da.nd)
    (aj (a6 (i:=1) (aN aP aM (af (i:=1)) (bw (aa (cW B.xq (af (i:=0)) (XA.x ZA 4).m) (aa (cW B.xq (af (i:=0)) (XA.x ZA 5).m) (aa (cW B.xq (af (i:=0)) (XA.x ZA 6).m) (aa (cW B.xq (af (i:=0)) (XA.x ZA 7).m) ag)))))) da.nd)
    (aj (a6 (i:=1) (aN aP aM (af (i:=1)) (bw (aa (cW B.xq (af (i:=0)) (XA.x ZA 8).m) (aa (cW B.xq (af (i:=0)) (XA.x ZA 9).m) (aa (cW B.xq (af (i:=0)) (XA.x ZA 10).m) (aa (cW B.xq (af (i:=0)) (XA.x ZA 11).m) ag)))))) da.nd)
    (ax (aY (aN aP aM (af (i:=1)) (bw (aa (GP (GQ B.xq (af (i:=0)) bV Js)) ag)))))))),λds R h=>?_⟩
 obtain⟨i,hi,rfl,q⟩:=h;refine(uI (bK (λ_ r=>⟨_,rfl,c i,_,rfl,ZA.k hi (j:=0) (by decide),r⟩) trivial (bK (λ_ r=>⟨_,rfl,c i,_,rfl,ZA.k hi (j:=1) (by decide),r⟩) trivial (bK (λ_ r=>⟨_,rfl,c i,_,rfl,ZA.k hi (j:=2) (by decide),r⟩) trivial (bK (λ_ r=>⟨_,rfl,c i,_,rfl,ZA.k hi (j:=3) (by decide),r⟩) trivial pQ)))) (by show 4<=1000000;decide) (by intro _ z;exact z)) _ ?_
 refine⟨_,rfl,trivial,(uI (bK (λ_ r=>⟨_,rfl,c i,_,rfl,ZA.k hi (j:=4) (by decide),r⟩) trivial (bK (λ_ r=>⟨_,rfl,c i,_,rfl,ZA.k hi (j:=5) (by decide),r⟩) trivial (bK (λ_ r=>⟨_,rfl,c i,_,rfl,ZA.k hi (j:=6) (by decide),r⟩) trivial (bK (λ_ r=>⟨_,rfl,c i,_,rfl,ZA.k hi (j:=7) (by decide),r⟩) trivial pQ)))) (by show 4<=1000000;decide) (by intro _ z;exact z)) _ ⟨_,cG (by show 4+4<=_;decide),.inl ⟨rfl,?_⟩⟩⟩
 refine⟨_,rfl,trivial,(uI (bK (λ_ r=>⟨_,rfl,c i,_,rfl,ZA.k hi (j:=8) (by decide),r⟩) trivial (bK (λ_ r=>⟨_,rfl,c i,_,rfl,ZA.k hi (j:=9) (by decide),r⟩) trivial (bK (λ_ r=>⟨_,rfl,c i,_,rfl,ZA.k hi (j:=10) (by decide),r⟩) trivial (bK (λ_ r=>⟨_,rfl,c i,_,rfl,ZA.k hi (j:=11) (by decide),r⟩) trivial pQ)))) (by show 4<=1000000;decide) (by intro _ z;exact z)) _ ⟨_,cG (by show 8+4<=_;decide),.inl ⟨rfl,?_⟩⟩⟩
 exact⟨_,rfl,trivial,_,rfl,c i,_,rfl,ZA.kv hi,_,rfl,trivial,JF,_,cG (by show 12+1<=_;decide),.inl ⟨rfl,trivial,q⟩⟩
theorem lH:aU ["word","names"] ["word"] (aw gG):=mkS
theorem zK {r9 kl} (kq:D4 K mg r9 kl) (B:Bs3 mg):a9 P w K mg base c6 1 r9 kl ["word"] (eG P w true gv):=by
 refine tw kq.F lH (λds R h=>by obtain⟨i,e,_⟩:=h;subst e;rfl) λbW A outer s H E hr=>⟨_,(aj (a6 (i:=1) (bw (aa ar (aa ar (aa ar (aa ar (aa ar (aa ar (aa ar (aa ar (aa ar (aa ar ag))))))))))) lH.nd)
    (ax (aY (aN aP aM (Fl false ["name","word"] [none,some 0] (by rfl) (by decide:(["name","word"]:List Str).Nodup) rfl (bQ (aN aP aM (af (i:=1)) (bw (aa ar (aa ar ag))))) (λ_ _ _ _ _ _=>(aI (i:=0) (by decide:(["name","word"]:List Str).Nodup))) (λ_ _ _ _ _ _=>dB) (λ_ _ _ _ _ _=>(dI ai (bf.m (b_ hr.units)) (af (i:=0)) (af (i:=1))))) (bw (aa ze ag)))))),λds R h=>?_⟩
 obtain⟨x,rfl,hx,q⟩:=h;have hs:∀n∈EV,(D.str n).ik=true:=X_.mp (by decide +kernel:EV.all (λn=>(D.str n).ik)=true)
 refine⟨trivial,trivial,trivial,trivial,trivial,trivial,trivial,trivial,trivial,trivial,by show 10<=WA;decide,?_⟩
 refine⟨_,rfl,trivial,trivial,trivial,B0,_,cG (by show 10+2<=_;decide),.inl ⟨rfl,?_⟩⟩
 refine⟨_,rfl,trivial,iu (l:=EV) (f:=D.str) (λ_=>true) (λn=>.bl (decide (n=x))) trivial (by decide) (λn hn x0 o J ho j1 j2=>?_) ?_⟩
 ·exact⟨_,rfl,trivial,_,rfl,_,pZ n x (hs n hn) hx,trivial,ho,j1 rfl _⟩
 ·rw[X7.mpr λ_ _=>rfl];have e:(EV.map λn=>D.bl (decide (n=x)))++[D.bl false]=(ml x).map D.bl:=by unfold ml;rw[XB,W6];rfl
  refine⟨trivial,trivial,JF,_,cG (by show 12+1<=_;decide),.inl ⟨?_,trivial,?_⟩⟩
  ·rw[e];exact jS (λ_=>rfl) _
  ·rw[e];exact q
end
section
variable {P:Wq}{w:WC}{K:PySem.W.Frag}{mg:Str->Option Wg}{base:Heap}{c:Nat->Addr}
theorem mO:aU ["word"] ["word"] (aw de):=mkS
theorem Lb {xD om} (Bg:D5 K mg xD om) (B:wA mg):a9 P w K mg base c6 1 xD om ["word"] (eG P w true xH):=by
 refine tw Bg.F mO (λds R h=>by obtain⟨cs,e,_⟩:=h;subst e;rfl) λbW A outer s H E hr=>⟨_,(aj (bz (mE.t (cy (kU (jG ak (eR fu (aL ai (aX.m cf) B.len c5 (aa (af (i:=0)) ag)) (iY fu ak)))) (cO (gL (aL ai (aX.m (dz rfl)) B.any jV (aa (Fl false ["sign"] [none] (by rfl) (by decide:(["sign"]:List Str).Nodup) rfl (vv (af (i:=0))) (λ_ _ _ _ _ _=>(aI (i:=0) (by decide:(["sign"]:List Str).Nodup))) (λ_ _ _ _ _ _=>dB) (λ_ _ _ _ _ _=>(dI ai (bf.m gg) (af (i:=0)) ar))) ag)))))) (ax (aY b8)) a5)
    (aj (bz (mE.t (iX (aH ai (bf.m (b_ hr.units)) (bo ai fw (af (i:=0)) ak) ar) (fZ (aH ai (bf.m (cB hr.units)) (af (i:=0)) ar)))) (ax (aY b8)) a5)
    (ax (aY (bD ai (aX.m my) B.int mz (aa (af (i:=0)) ag)))))),λds R h=>?_⟩
 obtain⟨cs,rfl,asc,hl,q⟩:=h;refine p8 (a:=0) (b:=(cs.length:Int)) (c:=4) (λR r=>r) (λR r=>⟨_,rfl,trivial,_,dS (by lia),r⟩) (λR r=>r) ⟨_,rfl,?_⟩
 by_cases h0:0<cs.length/\cs.length<4
 ·rw[show (decide ((0:Int)<(cs.length:Int))&&decide ((cs.length:Int)<4))=true by rw[decide_eq_true (by lia),decide_eq_true (by lia)];rfl]
  refine eJ rfl ?_;refine⟨_,rfl,_,rfl,l8 asc,trivial,?_⟩;rw[tZ];refine iu (l:=cs) (f:=λc=>D.str (bb c)) (λ_=>true) (λc=>.bl (!jk c)) trivial (by rw[WY];lia) (λc hc z0 o J ho j1 _=>⟨_,rfl,trivial,_,AU c,trivial,ho,j1 rfl _⟩) ?_
  refine⟨trivial,_,BN cs,_,rfl,?_⟩;cases ha:cs.any λc=>!jk c with
  |true =>
   refine dt rfl ⟨trivial,?_⟩
   rwa [bc,if_pos (.inr (.inr ha))]at q
  |false =>
   obtain⟨c,cs,rfl⟩:∃c r,cs=c::r:=by cases cs with|nil=>exact absurd h0.1 (by decide)|cons c r=>exact⟨c,r,rfl⟩
   have hc:=asc c Wo;rw[bc,if_neg (λz=>by rcases z with z|z|z;exact absurd z (by simp);lia;rw[ha]at z;cases z)]at q
   have eI:=rG c cs (by lia)
   have e0:ya (.str (bb c)) (.str "0")=some (.bl (decide (c=48))):=by rw[My];exact p4 hc (by decide)
   have e1:sA (.str (aG (c::cs))) (.str "0")=some (.bl (!decide (aG (c::cs)="0"))):=jo _ _ (fb asc) (by decide +kernel)
   have fin:(¬ ((c::cs).head?=some 48/\c::cs≠[48]))->R (.int (ZQ (c::cs):Nat)):=λz=>by rw[if_neg z]at q;exact q
   have eT:=wd ha (List.cons_ne_nil _ _) (by lia)
   refine eJ rfl ?_;refine⟨_,rfl,trivial,_,eI,trivial,_,e0,_,rfl,nX (λz=>?_) λz=>eJ rfl ?_⟩
   ·subst z
    by_cases z2:48::cs=[48]
    ·have eb:decide (aG (48::cs)=("0" : Str))=true:=decide_eq_true (Cr.mpr z2);rw[eb]at e1;exact⟨_,rfl,trivial,_,e1,_,rfl,eJ rfl ⟨_,rfl,trivial,_,eT,trivial,fin λy=>y.2 z2⟩⟩
    ·have eb:decide (aG (48::cs)=("0" : Str))=false:=decide_eq_false λy=>z2 (Cr.mp y);rw[eb]at e1;rw[if_pos ⟨rfl,z2⟩]at q;exact⟨_,rfl,trivial,_,e1,_,rfl,dt rfl ⟨trivial,q⟩⟩
   ·exact⟨_,rfl,trivial,_,eT,trivial,fin λy=>z (WR y.1)⟩
 ·rw[show (decide ((0:Int)<(cs.length:Int))&&decide ((cs.length:Int)<4))=false by rw[Bool.and_eq_false_iff];by_cases z:0<cs.length;exact .inr (decide_eq_false (by lia));exact .inl (decide_eq_false (by lia))]
  refine dt rfl (dt rfl ⟨trivial,?_⟩)
  rwa [bc,if_pos (by lia)]at q
end
section
variable {P:Wq}{w:WC}{K:PySem.W.Frag}{mg:Str->Option Wg}{base:Heap}{c:Nat->Addr}
theorem bC:aU ["text","words","many","ties","word","ends"] ["text"] (aw cN):=mkS
theorem Hj {Ej v7} (JZ:D6 K mg Ej v7) {r9 kl} (kq:D4 K mg r9 kl) {xD om} (Bg:D5 K mg xD om) (B:wA mg):a9 P w K mg base c6 2 Ej v7 ["text"] (eG P w true AZ):=by
 have JB:a9 P w K mg base c6 1 _ _ _ (eG P w true gv):=zK kq B.toBs3;have Th:a9 P w K mg base c6 1 _ _ _ (eG P w true xH):=Lb Bg B;refine tw JZ.F bC (λds R h=>by obtain⟨cs,e,_⟩:=h;subst e;rfl) λbW A outer s H E hr=>⟨_,(aj (a6 (i:=1) (kc aP lS PySem.F.slot_str_split PySem.F.type_str_split (af (i:=0)) (aa ar ag)) bC.nd)
    (aj (a6 (i:=2) (aJ xH.mono Th (hr.mono (by decide)) Bg.m Bg.F.kp Bg.b (aa (o9 (bo ai dk (af (i:=1)) ak) f9 (f7 (E6 va ak))) ag)) bC.nd)
    (aj (dh (i:=3) (λ_=>(bw ag)) bC.nd)
    (aj (gf Yj rfl (bQ (KS (af (i:=1)) (f7 ak) f9)) (aI (i:=4) bC.nd) (aj (Ku (i:=5) false ["end"] [none] (by rfl) (by decide:(["end"]:List Str).Nodup) rfl (λ_=>(bQ (kc aP lS PySem.F.slot_str_split PySem.F.type_str_split (af (i:=4)) (aa ar ag)))) (λ_ _ _ _ _ _=>(aI (i:=0) (by decide:(["end"]:List Str).Nodup))) (λ_ _ _ _ _ _=>dB) (λ_ _ _ _ _ _=>(aJ xH.mono Th (hr.mono (by decide)) Bg.m Bg.F.kp Bg.b (aa (af (i:=0)) ag))) bC.nd)
    (aj (bz (mE.t (cy (aH ai (bf.m (cB hr.units)) (aL ai (aX.m eZ) B.len c5 (aa (af (i:=5)) ag)) ak) (cy (aH ai (bf.m (pD hr.kR)) b8 (af (i:=5))) (cO (aH ai (bf.m lQ) (bo ai dk (af (i:=5)) ak) (bo ai dk (af (i:=5)) ak)))))) (ax (aY (aJ gv.mono JB (hr.mono (by decide)) kq.m kq.F.kp kq.b (aa ar ag)))) a5)
    (ax (dv (i:=3) (λ_=>(fq (aa (bo ai dk (af (i:=5)) ak) (aa (bo ai dk (af (i:=5)) ak) ag)))))))))
    (aj (bz (mE.t (cy (aH ai (bf.m (cB hr.units)) (o9 (bo ai dk (af (i:=1)) ak) (f7 (E6 va ak)) f9) ar) (cy (aH ai (bf.m i6) (af (i:=2)) b8) (cO (gL (aL ai (aX.m (dz rfl)) B.any jV (aa (Fl false ["k","ties"] [none,some 3] (by rfl) (by decide:(["k","ties"]:List Str).Nodup) rfl (ub B.range (aa ak (aa (aL ai (aX.m eZ) B.len c5 (aa (af (i:=3)) ag)) ag))) (λ_ _ _ _ _ _=>(aI (i:=0) (by decide:(["k","ties"]:List Str).Nodup))) (λ_ _ _ _ _ _=>dB) (λ_ _ _ _ _ _=>(dI ai (bf.m (C_ hr.Gb)) (bo ai dk (af (i:=1)) (aN ai (bf.m pA) (af (i:=0)) ak)) (bo ai dk (af (i:=1)) (af (i:=0)))))) ag))))))) (ax (aY (aJ gv.mono JB (hr.mono (by decide)) kq.m kq.F.kp kq.b (aa ar ag)))) a5)
    (aj (bz (gL (aL ai (aX.m (dz rfl)) B.any jV (aa (Fl true ["a","b","many"] [none,none,some 2] (by rfl) (by decide:(["a","b","many"]:List Str).Nodup) rfl (bQ (af (i:=3))) (λ_ _ _ _ _ _=>(df (n:=2) rfl (aT (aI (i:=0) (by decide:(["a","b","many"]:List Str).Nodup)) (aT (aI (i:=1) (by decide:(["a","b","many"]:List Str).Nodup)) cz)))) (λ_ _ _ _ _ _=>dB) (λ_ _ _ _ _ _=>(KW (dI ai (bf.m (b_ hr.units)) (af (i:=0)) (af (i:=1))) (GO (dI ai (bf.m ud) (af (i:=1)) (af (i:=2))))))) ag))) (ax (aY (aJ gv.mono JB (hr.mono (by decide)) kq.m kq.F.kp kq.b (aa ar ag)))) a5)
    (ax (vD (i:=3) (af (i:=2)))))))))),λds R h=>?_⟩
 obtain⟨cs,rfl,asc,hl,q⟩:=h;have d9:D.lst ((ml "NoText").map D.bl)=gu 9:=congrArg (λl=>D.lst (List.map D.bl l)) (by decide +kernel)
 have d0:D.lst ((ml "NoRow").map D.bl)=gu 0:=congrArg (λl=>D.lst (List.map D.bl l)) (by decide +kernel)
 have s9:(D.str "NoText").ik=true:=by decide +kernel
 have s0:(D.str "NoRow").ik=true:=by decide +kernel
 obtain⟨w0,ws,ew⟩:=Xy (cI (c:=32) cs);obtain⟨sub,sl,wl⟩:=e_ ew;have ho:cY cs=kJ (fJ w0) (ws.map u_):=by rw[<- G5];unfold G6;rw[ew]
 have eS:mm (.str (aG cs)) [.str " "]=some (.lst ((w0::ws).map λw=>D.str (aG w))):=by
  rw[Jq];show (if (bb 32).length=1/\(aG cs).length<=1000000 then some (D.lst ((X5 (aG cs) (bb 32)).map D.str)) else none)=_
  rw[if_pos ⟨rfl,by show cs.length<=_;lia⟩,iR,ew,W6]
  rfl
 have fx:D.bJ ((w0::ws).map λw=>D.str (aG w))=true:=iA _ _;refine⟨_,rfl,trivial,⟨_,rfl⟩,trivial,_,eS,.inl ⟨fx,?_⟩⟩;have q9:cY cs=gu 9->R (.lst ((ml "NoText").map D.bl)):=λz=>by rw[d9,<- z];exact q
 have q0:cY cs=gu 0->R (.lst ((ml "NoRow").map D.bl)):=λz=>by rw[d0,<- z];exact q
 have l0:=sl w0 Wo;have Wd:w0.dropLast.length<=w0.length:=by rw[List.length_dropLast];lia
 have eI:uO (.lst ((w0::ws).map λw=>D.str (aG w))) (.int 0)=some (.str (aG w0)):=Bl _ _;refine⟨_,rfl,trivial,_,eI,_,rfl,rfl,(-1:Int),rfl,_,kZ (by lia),trivial,_,rfl,?_⟩
 rw[Jn];refine⟨λc z=>asc c (sub w0 Wo c ((List.dropLast_sublist _).subset z)),by lia,?_⟩
 refine⟨WJ _,trivial,?_⟩;have eW:Rh (.lst ((w0::ws).map λw=>D.str (aG w))) (some 1) none=some (.lst (ws.map λw=>D.str (aG w))):=by
  show some (D.lst (cutD _ _ _))=_;rw[Ey];rfl
 refine⟨_,rfl,(1:Int),rfl,_,eW,?_⟩;refine .inr ⟨_,rfl,trivial,?_⟩;refine uD (λi β=>i<=ws.length/\∃(ps:List (Nat×Nat)) (y4 y5:Option Q.B),β=[some (.val false (.str (aG cs))),some (.val true (.lst ((w0::ws).map λw=>D.str (aG w)))),some (.val true (oD (bc w0.dropLast 3))),some (.own (.lst ((ps.map tI).map kD))),y4,y5]/\(ws.take i).map u_=ps.map some/\∀p∈ps,p.1<=p.2) ⟨WJ _,[],_,_,rfl,rfl,λp z=>(nomatch z)⟩ (λE1 r1 i n1 d β hd hv=>?_) λβ hv=>?_
 ·obtain⟨_,ps,y4,y5,rfl,hp,hle⟩:=hv;rw[WH]at hd;obtain⟨w,hx,rfl⟩:=WQ.mp hd;have hi:i<ws.length:=(WI.mp hx).1;have hm:w∈ws:=W_ hx;have lw:=sl w (Wm _ hm);have tk:ws.take (i+1)=ws.take i++[w]:=by rw[Yt,hx];rfl
  have b9:u_ w=none->R (.lst ((ml "NoText").map D.bl)):=λz=>q9 (by rw[ho];exact vF (z▸X6 hm))
  have eE:mm (.str (aG w)) [.str "-"]=some (.lst ((aK 45 w).map λx=>D.str (aG x))):=by
   rw[MA];show (if (bb 45).length=1/\(aG w).length<=1000000 then some (D.lst ((X5 (aG w) (bb 45)).map D.str)) else none)=_
   rw[if_pos ⟨rfl,by show w.length<=_;lia⟩,iR,W6]
   rfl
  obtain⟨x,xs,ex⟩:=Xy (cI (c:=45) w);obtain⟨N6,Kr,VR⟩:=e_ ex;have fe:D.bJ ((aK 45 w).map λx=>D.str (aG x))=true:=by rw[ex];exact iA _ _
  refine⟨_,rfl,trivial,⟨_,rfl⟩,trivial,_,eE,.inl ⟨fe,_,rfl,trivial,iu (l:=aK 45 w) (f:=λx=>D.str (aG x)) (λ_=>true) (λx=>oD (bc x 3)) trivial (nr (by rw[ex,Wz];lia)) (λy hy z0 o J ho j1 _=>?_) ?_⟩⟩
  ·rw[ex]at hy;exact⟨_,rfl,trivial,y,rfl,λc z=>asc c (sub w (Wm _ hm) c (N6 y hy c z)),(by have:=Kr y hy;lia),trivial,ho,j1 rfl _⟩
  rw[X7.mpr λ_ _=>rfl,show ((aK 45 w).map λx=>oD (bc x 3))=((aK 45 w).map λx=>bc x 3).map oD by rw[W6];rfl]
  have dl:En [.lst (((aK 45 w).map λx=>bc x 3).map oD)]=some (.int ((aK 45 w).length:Nat)):=mq (by rw[Wj,Wj])
  refine⟨_,rfl,trivial,_,dl,trivial,_,gU _ _,_,rfl,?_⟩
  by_cases h2:(aK 45 w).length=2
  case neg =>
   refine dt (by rw[decide_eq_false (by lia)];rfl) (dt rfl ⟨trivial,_,rfl,s9,trivial,r1 _ _ (b9 ?_)⟩)
   exact Ga h2
  refine eJ (by rw[decide_eq_true (by lia)];rfl) ⟨trivial,_,rfl,_,Jl _,_,rfl,?_⟩
  obtain⟨y,rfl⟩:∃y,xs=[y]:=by
   rw[ex]at h2
   match xs,h2 with
   |[y],_=>exact⟨y,rfl⟩
  rw[ex];have ret:u_ w=none->∀β:Q.a_,E1.rt (.lst ((ml "NoText").map D.bl)) β:=λz β=>r1 _ _ (b9 z);rw[W3,W3,List.map_nil];cases xr:bc x 3 with
  |none=>exact dt (decide_eq_true Wo) (dt rfl ⟨trivial,_,rfl,s9,trivial,ret (u9 ex (.inl xr)) _⟩)
  |some a =>
  cases Sz:bc y 3 with
  |none=>exact dt (decide_eq_true (Wm _ Wo)) (dt rfl ⟨trivial,_,rfl,s9,trivial,ret (u9 ex (.inr Sz)) _⟩)
  |some b =>
  have SE:=Co ex xr Sz;refine eJ (decide_eq_false (by simp)) ⟨_,rfl,trivial,_,rfl,trivial,_,rfl,trivial,_,rfl,_,rfl,_,rfl,nX (λhb=>?_) λhb=>?_⟩
  ·exact⟨trivial,_,rfl,s9,trivial,r1 _ _ (q9 (by rw[ho];exact xf (a:=a) (b:=b) (by rw[<- SE];exact X6 hm) (by lia)))⟩
  ·have pl:ps.length<=ws.length:=by
    have:=congrArg ZS hp;rw[Wj,Wj,WW]at this;lia
   refine⟨⟨_,rfl⟩,_,rfl,trivial,_,rfl,trivial,_,rfl,trivial,_,rfl,trivial,B0,trivial,_,rfl,by rw[Wj,Wj,WY];lia,n1 _ ⟨hi,ps++[(a,b)],_,_,by rw[XB,XB];rfl,?_,λp JS=>?_⟩⟩
   ·rw[tk,XB,XB,hp,W3,List.map_nil,SE];rfl
   ·rcases WO.mp JS with z|z
    ·exact hle p z
    ·rw[Wx.mp z];show a<=b;lia
 ·obtain⟨_,ps,y4,y5,rfl,hp,hle⟩:=hv;rw[Wj,YA]at hp;rw[hp]at ho;have pl:ps.length<=ws.length:=by
   have:=congrArg ZS hp;rw[Wj,Wj]at this;lia
  have eL:sA (.str (aG (dX w0 (some (-1)) none))) (.str ":")=some (.bl (!decide (w0.getLast?=some 58))):=by
   rw[Jp,BA,Bu,jo _ _ (fb λc z=>asc c (sub w0 Wo c (List.mem_of_mem_drop z))) (fb (cs:=[58]) (by decide))]
   congr 3
   exact decide_eq_decide.mpr ⟨λz=>rE.mp (congrArg (λx:Str=>x.cps.toList) z),λz=>by rw[rE.mpr z]⟩
  refine⟨_,rfl,trivial,_,eI,_,rfl,rfl,(-1:Int),rfl,_,kZ (by lia),trivial,_,eL,_,rfl,?_⟩
  by_cases Nk:w0.getLast?=some 58
  case neg =>
   have em:fJ w0=none:=if_neg Nk;exact dt (by rw[decide_eq_false Nk];rfl) (dt rfl ⟨trivial,_,rfl,s9,trivial,q9 (by rw[ho,em];rfl)⟩)
  have em:fJ w0=bc w0.dropLast 3:=if_pos Nk;rw[em]at ho;refine eJ (by rw[decide_eq_true Nk];rfl) ?_
  cases hm:bc w0.dropLast 3 with
  |none=>exact⟨_,rfl,trivial,_,rfl,_,rfl,dt rfl (dt rfl ⟨trivial,_,rfl,s9,trivial,q9 (by rw[ho,hm];rfl)⟩)⟩
  |some n =>
  rw[hm,nF]at ho;have dl:En [.lst ((ps.map tI).map kD)]=some (.int (ps.length:Nat)):=mq (by rw[Wj,Wj])
  refine⟨_,rfl,trivial,_,rfl,_,rfl,eJ rfl ?_⟩;refine⟨trivial,_,rfl,trivial,_,dl,trivial,(1:Int),(ps.length:Nat),rfl,(by lia),trivial,?_⟩
  rw[show ((ps.length:Nat)-(1:Int)).toNat=(ps.map tI).length-1 by rw[Wj];lia]
  have VU:(ps.map tI).length=ps.length:=Wj ..
  have gt:∀i,i<(ps.map tI).length->(ps.map tI)[i]?=some ((ps.map tI).getD i []):=λi hi=>by rw[Xr,Wv hi];rfl
  refine iu (l:=Xd ((ps.map tI).length-1)) (f:=λk:Nat=>D.int (1+(k:Int))) (λ_=>true) (λk=>.bl (yc.cC ((ps.map tI).getD k []) ((ps.map tI).getD (k+1) []))) trivial (nr (by rw[Yg];lia)) (λk hk z0 o J ho j1 _=>?_) ?_
  ·have hk:=Xz.mp hk;have e1:uO (.lst ((ps.map tI).map kD)) (.int (1+(k:Int)-1))=some (kD ((ps.map tI).getD k [])):=by rw[show 1+(k:Int)-1=(k:Int) by lia];exact Bn (gt k (by lia))
   have e2:uO (.lst ((ps.map tI).map kD)) (.int (1+(k:Int)))=some (kD ((ps.map tI).getD (k+1) [])):=by rw[show 1+(k:Int)=((k+1:Nat):Int) by lia];exact Bn (gt (k+1) (by lia))
   exact⟨_,rfl,trivial,_,rfl,trivial,_,rfl,_,e1,trivial,_,rfl,trivial,_,rfl,_,e2,_,Ew _ _,trivial,ho,j1 rfl _⟩
  have Ni:mC (ps.map tI)=oJ (ps.map tI):=by
   unfold mC;rw[show ((ps.map tI).any λt=>decide (t.getD 1 0<t.getD 0 0))=false from Yh.mpr λt ht=>by
    obtain⟨p,JS,rfl⟩:=WX.mp ht;have:=hle p JS;show ¬ decide ((p.2:Int)<(p.1:Int))=true;rw[decide_eq_true_eq];lia,Z3]
  rw[Ni]at ho;refine⟨trivial,_,qb _ _,_,rfl,?_⟩;show if oJ (ps.map tI)=true then _ else _
  cases hG:oJ (ps.map tI)with
  |true=>exact dt rfl ⟨trivial,_,rfl,s9,trivial,q9 (by rw[ho,if_pos hG])⟩
  |false =>
  rw[hG,if_neg XY]at ho;refine eJ rfl ⟨_,rfl,_,rfl,trivial,ui (l:=ps.map tI) (f:=kD) (λ_=>true) (λt=>.bl (decide (t.getD 0 0=t.getD 1 0) || decide ((n:Int)<=t.getD 1 0))) trivial (nr (by lia)) (λt LH x0 x1 o J IJ j1 _=>?_) ?_⟩
  ·obtain⟨p,_,rfl⟩:=WX.mp LH;have j1:=j1 rfl;have et:(decide ((tI p).getD 0 0=(tI p).getD 1 0) || decide ((n:Int)<=(tI p).getD 1 0))=(decide ((p.1:Int)=(p.2:Int)) || decide ((n:Int)<=(p.2:Int))):=rfl
   rw[et]at j1;refine⟨_,rfl,rfl,_,_,rfl,_,_,rfl,rfl,_,rfl,trivial,_,rfl,_,fz _ _,_,rfl,?_⟩;cases hE:decide ((p.1:Int)=(p.2:Int))with
   |true =>
    rw[hE,Bool.true_or]at j1;exact dt rfl ⟨trivial,IJ,j1 _ _⟩
   |false =>
    rw[hE,Z3]at j1;exact eJ rfl ⟨_,rfl,trivial,_,rfl,_,rfl,trivial,IJ,j1 _ _⟩
  refine⟨trivial,_,qb _ _,_,rfl,?_⟩;cases hA:(ps.map tI).any λt=>decide (t.getD 0 0=t.getD 1 0) || decide ((n:Int)<=t.getD 1 0)with
  |true=>exact dt rfl ⟨trivial,_,rfl,s0,trivial,q0 (by rw[ho,if_pos hA])⟩
  |false =>
  rw[hA,if_neg XY]at ho;rw[ho]at q;exact eJ rfl ⟨_,rfl,rfl,_,rfl,q⟩
end
section
variable {P:Wq}{w:WC}{K:PySem.W.Frag}{mg:Str->Option Wg}{base:Heap}
theorem bj:aU ["text","ties","k","level","j"] ["text"] (aw cM):=mkS
theorem Hg {Ei vZ} (JY:D7 K mg Ei vZ) {r9 kl} (kq:D4 K mg r9 kl) (B:wA mg):a9 P w K mg base c6 2 Ei vZ ["text"] (eG P w true AX):=by
 have JB:a9 P w K mg base c6 1 _ _ _ (eG P w true gv):=zK kq B.toBs3;refine tw JY.F bj (λds R h=>by obtain⟨cs,e,_⟩:=h;subst e;rfl) λbW A outer s H E hr=>⟨_,(aj (dh (i:=1) (λ_=>(bw ag)) bj.nd)
    (aj (gf Yj rfl (fo B.range (aa (aL ai (aX.m cf) B.len c5 (aa (af (i:=0)) ag)) ag)) (aI (i:=2) bj.nd) (aj (bz (aH ai (bf.m gg) (bo ai fw (af (i:=0)) (af (i:=2))) ar) (ax (aY (aJ gv.mono JB (hr.mono (by decide)) kq.m kq.F.kp kq.b (aa ar ag)))) a5)
    (ax (bz (aH ai (bf.m (b_ hr.units)) (bo ai fw (af (i:=0)) (af (i:=2))) ar) (aj (a6 (i:=3) ak bj.nd)
    (aj (a6 (i:=4) (af (i:=2)) bj.nd)
    (aj (zw Yj (mE.t (iX (aH ai (bf.m ud) (af (i:=4)) ak) (fZ (mE.t (cy (aH ai (bf.m (b_ hr.units)) (af (i:=4)) (af (i:=2))) (cO (aH ai (bf.m (cB hr.units)) (af (i:=3)) ak))))))) (aj (a6 (i:=3) (aN ai (bf.m pA) (aN aP aM (af (i:=3)) (bD ai (aX.m jU) B.int mz (aa (dI ai (bf.m (b_ hr.units)) (bo ai fw (af (i:=0)) (af (i:=4))) ar) ag))) (bD ai (aX.m jU) B.int mz (aa (dI ai (bf.m (b_ hr.units)) (bo ai fw (af (i:=0)) (af (i:=4))) ar) ag))) bj.nd)
    (ax (a6 (i:=4) (aN ai (bf.m pA) (af (i:=4)) ak) bj.nd))))
    (aj (bz (aH ai (bf.m (cB hr.units)) (af (i:=3)) ak) (ax (aY (aJ gv.mono JB (hr.mono (by decide)) kq.m kq.F.kp kq.b (aa ar ag)))) a5)
    (ax (dv (i:=1) (λ_=>(fq (aa (aN aP aM (af (i:=4)) ak) (aa (af (i:=2)) ag)))))))))) a5))))
    (aj (bz (aH ai (bf.m (cB hr.units)) (kc ai nJ PySem.F.slot_str_count PySem.F.type_str_count (af (i:=0)) (aa ar ag)) (kc ai nJ PySem.F.slot_str_count PySem.F.type_str_count (af (i:=0)) (aa ar ag))) (ax (aY (aJ gv.mono JB (hr.mono (by decide)) kq.m kq.F.kp kq.b (aa ar ag)))) a5)
    (ax (aY (fq (aa (aL ai (aX.m cf) B.len c5 (aa (af (i:=0)) ag)) (aa (aL aP fB B.sorted dA (aa (af (i:=1)) ag)) ag)))))))),λds R h=>?_⟩
 obtain⟨cs,rfl,asc,hl,q⟩:=h;have d9:D.lst ((ml "NoText").map D.bl)=gu 9:=congrArg (λl=>D.lst (List.map D.bl l)) (by decide +kernel)
 have s9:(D.str "NoText").ik=true:=by decide +kernel
 have qn:d6 cs=gu 9->R (.lst ((ml "NoText").map D.bl)):=λz=>by rw[d9,<- z];exact q
 have di:∀b:Bool,Es [.bl b]=some (.int (if b=true then 1 else 0)):=λb=>by cases b <;> rfl
 refine⟨WJ _,trivial,?_⟩;refine⟨_,rfl,trivial,_,dS (by lia),trivial,(cs.length:Nat),rfl,by lia,by lia,trivial,?_⟩
 rw[XT];refine uD (λk β=>k<=cs.length/\∃(ws:List Int) (fs:List (List Int)) (y2 y3 y4:Option Q.B),β=[some (.val false (.str (aG cs))),some (.own (.lst (fs.map kD))),y2,y3,y4]/\sX cs k ws/\bF cs 0 [] []=bF (cs.drop k) (k:Int) ws fs/\ws.length+(cs.take k).count 41=(cs.take k).count 40/\fs.length<=k/\Pairs fs) ⟨WJ _,[],[],_,_,_,rfl,sX.nil,rfl,rfl,Wl _,λt z=>(nomatch z)⟩ (λE1 r1 k n1 d β hd hv=>?_) λβ hv=>?_
 ·obtain⟨_,ws,fs,y2,y3,y4,rfl,hS,hA,hC,hF,hP⟩:=hv;obtain⟨hk,rfl⟩:=fW hd;rw[Int.zero_add];have ch:∀i (hi:i<cs.length),Er (.str (aG cs)) (.int (i:Int))=some (.str (bb cs[i])):=λi hi=>Ad hi (by lia)
  have lt:∀i (hi:i<cs.length),cs[i]<128:=λi hi=>asc _ (YB hi);have gd:∀i (hi:i<cs.length),cs.getD i 0=cs[i]:=λi hi=>by rw[Xr,Wv hi];rfl
  have dr:cs.drop k=cs[k]::cs.drop (k+1):=XQ hk;have tk:cs.take (k+1)=cs.take k++[cs[k]]:=by rw[Yt,Wv hk];rfl
  have kk:((k:Nat):Int)+1=((k+1:Nat):Int):=by lia
  refine⟨_,rfl,trivial,_,rfl,_,ch k hk,trivial,_,Ju cs[k],_,rfl,?_⟩
  by_cases hx:cs[k]=40\/cs[k]=41\/cs[k]=46
  case neg =>
   refine dt (by rw[decide_eq_false hx];rfl) ⟨trivial,_,rfl,s9,trivial,r1 _ _ (qn (nG ?_))⟩
   rw[hA,dr];exact sU (λz=>hx (.inl z)) (λz=>hx (.inr (.inl z.1))) λz=>hx (.inr (.inr z))
  refine eJ (by rw[decide_eq_true hx];rfl) ⟨_,rfl,trivial,_,rfl,_,ch k hk,trivial,_,uP (lt k hk),_,rfl,?_⟩
  by_cases IW:cs[k]=41
  case neg =>
   refine eJ (decide_eq_false IW) (n1 _ ⟨hk,?_⟩)
   by_cases Q3:cs[k]=40
   ·refine⟨ws++[(k:Int)],fs,_,_,_,rfl,hS.op (by rw[gd k hk,Q3,Gy]),by rw[hA,dr,Q3,BL,kk],?_,by lia,hP⟩
    rw[tk,Q3,YR,YR,WK];show ws.length+1+(_+0)=_+1;lia
   ·have Q1:cs[k]=46:=by lia
    refine⟨ws,fs,_,_,_,rfl,hS.dot (by rw[gd k hk,Q1,Gx]),?_,?_,by lia,hP⟩
    ·rw[hA,dr,Q1,<- kk];show bF (46::_) _ _ _=_;rw[bF,if_neg (by decide),if_neg (λz=>absurd z.1 (by decide)),if_neg (by decide)]
    ·rw[tk,Q1,YR,YR];show ws.length+(_+0)=_+0;lia
  refine dt (decide_eq_true IW) ?_;obtain⟨r,lv,er⟩:∃(r:Nat) (lv:Int),cQ cs k 1=(r,lv):=⟨_,_,rfl⟩;refine⟨_,rfl,?_⟩;have e0:((k+1:Nat):Int)-1=(k:Int):=by lia
  refine Tv (F_ (λm β=>∃l:Int,β=[some (.val false (.str (aG cs))),some (.own (.lst (fs.map kD))),some (.val true (.int (k:Int))),some (.val true (.int l)),some (.val true (.int ((m:Int)-1)))]/\((m=k+1/\l=0)\/(m<=k/\cQ cs m l=cQ cs k 1))) ⟨k+1,0,by rw[e0];rfl,.inl ⟨rfl,rfl⟩⟩ λE2 Q2 q2 m n2 β hv=>?_)
  obtain⟨l,rfl,hm⟩:=hv
  by_cases ex:m=0\/(m<=k/\l=0)
  ·have DX:m<=k/\cQ cs m l=cQ cs k 1:=hm.resolve_left λz=>by lia
   obtain⟨rfl,rfl⟩:m=r/\l=lv:=by
    have h2:=DX.2.symm.trans rfl;rw[er]at h2;rcases ex with rfl|⟨_,rfl⟩
    ·exact⟨(congrArg Prod.fst h2).symm,(congrArg Prod.snd h2).symm⟩
    ·rw[scan0]at h2;exact⟨(congrArg Prod.fst h2).symm,(congrArg Prod.snd h2).symm⟩
   have k2:Q2 [some (.val false (.str (aG cs))),some (.own (.lst (fs.map kD))),some (.val true (.int (k:Int))),some (.val true (.int l)),some (.val true (.int ((m:Int)-1)))]:=q2 _ (by
    refine⟨_,rfl,trivial,_,gU _ _,_,rfl,?_⟩;rcases (show ws=[]\/∃qs t,ws=qs++[t] from (Classical.em (ws=[])).imp id λz=>⟨ws.dropLast,ws.getLast z,(YI z).symm⟩)with rfl|⟨qs,t,rfl⟩
    ·rw[hS.none]at er;obtain⟨rfl,rfl⟩:=Prod.mk.inj er;refine dt rfl ⟨trivial,_,rfl,s9,trivial,r1 _ _ (qn (nG ?_))⟩;rw[hA,dr,IW];exact sU (by decide) (λz=>z.2 rfl) (by decide)
    ·obtain⟨r,Vo,rt⟩:=hS.top;obtain⟨rfl,rfl⟩:=Prod.mk.inj (er.symm.trans Vo);have pe:(m:Int)-1+1=t:=by lia
     refine eJ rfl ⟨⟨_,rfl⟩,_,rfl,trivial,_,rfl,trivial,_,rfl,trivial,B0,trivial,_,rfl,by rw[Wj,WY];lia,n1 _ ⟨hk,qs,fs++[[(m:Int)-1+1,(k:Int)]],_,_,_,by rw[kS];rfl,hS.cl (by rw[gd k hk,IW,yK]),by rw[hA,dr,IW,BK,kk,pe],?_,by rw[WK];exact X0 hF,λu hu=>?_⟩⟩
     ·rw[tk,IW,YR,YR];rw[WK,Xn]at hC;show qs.length+(_+1)=_+0;lia
     ·rcases WO.mp hu with z|z
      ·exact hP u z
      ·rw[Wx.mp z];exact⟨_,_,rfl⟩)
   by_cases m0:m=0
   ·exact⟨_,rfl,trivial,_,rfl,_,rfl,eJ (decide_eq_false (by lia)) (eJ rfl k2)⟩
   ·obtain⟨h1,rfl⟩:=ex.resolve_left m0;exact⟨_,rfl,trivial,_,rfl,_,rfl,dt (decide_eq_true (by lia)) ⟨_,rfl,trivial,_,rfl,_,fz _ _,_,rfl,eJ (decide_eq_false (by lia)) ⟨_,rfl,trivial,_,gU _ _,_,rfl,eJ rfl k2⟩⟩⟩
  ·obtain⟨m,rfl⟩:∃i,m=i+1:=⟨m-1,by lia⟩
   have ej:((m+1:Nat):Int)-1=(m:Int):=by lia
   rw[ej];have UZ:m<=k:=by lia
   have IL:m<cs.length:=by lia
   have c0:decide (0<=(m:Int))=true:=decide_eq_true (by lia)
   have c1:¬ ((m:Int)=(k:Int))->(!decide (l=0))=true:=λz=>by rw[decide_eq_false (by lia)];rfl
   have sc:cQ cs m (l+(if (decide (cs[m]=41))=true then 1 else 0)-(if (decide (cs[m]=40))=true then 1 else 0))=cQ cs k 1:=by
    have es:l+(if (decide (cs[m]=41))=true then 1 else 0)-(if (decide (cs[m]=40))=true then 1 else 0)=l+B5 cs[m]:=by
     unfold B5;simp only[decide_eq_true_eq];lia
    rw[es];rcases hm with⟨h1,rfl⟩|⟨h1,h2⟩
    ·obtain rfl:m=k:=by lia
     rw[IW,yK];rfl
    ·rw[kT (λz=>ex (.inr ⟨h1,z⟩)),gd m IL]at h2;exact h2
   refine(λkey=>⟨_,rfl,trivial,_,rfl,_,rfl,dt c0 ⟨_,rfl,trivial,_,rfl,_,fz _ _,_,rfl,nX (λ_=>dt rfl key) λh=>⟨_,rfl,trivial,_,gU _ _,_,rfl,dt (c1 h) key⟩⟩⟩) ?_;refine⟨_,rfl,trivial,_,rfl,trivial,_,rfl,_,ch m IL,trivial,_,uP (lt m IL),trivial,_,di _,?_⟩;refine⟨_,rfl,trivial,_,rfl,trivial,_,rfl,_,ch m IL,trivial,_,Bq (lt m IL),trivial,_,di _,_,rfl,?_⟩;exact⟨_,rfl,trivial,_,rfl,n2 m _ (Nat.lt_succ_self m) ⟨_,rfl,.inr ⟨UZ,sc⟩⟩⟩
 ·obtain⟨_,ws,fs,y2,y3,y4,rfl,hS,hA,hC,hF,hP⟩:=hv;rw[dH,List.drop_length]at hA;rw[dH,YA]at hC;have hA:bF cs 0 [] []=some (ws,fs):=hA;have ho:=zC hA;refine⟨_,rfl,trivial,⟨_,rfl⟩,trivial,_,EB cs,trivial,_,rfl,trivial,⟨_,rfl⟩,trivial,_,EA cs,_,gU _ _,_,rfl,?_⟩
  by_cases hw:ws=[]
  ·rw[if_pos hw]at ho;subst hw;have hC:0+cs.count 41=cs.count 40:=hC;rw[ho]at q;exact eJ (by rw[decide_eq_true (by lia)];rfl) ⟨_,rfl,trivial,_,dS (by lia),trivial,_,rfl,trivial,_,ie (λk hk=>by obtain⟨a,b,rfl⟩:=hP k hk;exact λz=>(by cases z)) (by rw[dH]at hF;lia),.inl ⟨cS _,trivial,B0,trivial,q⟩⟩
  ·rw[if_neg hw]at ho;have:=List.length_pos_iff.mpr hw;exact dt (by rw[decide_eq_false (by lia)];rfl) ⟨trivial,_,rfl,s9,trivial,qn ho⟩
end
section
variable {P:Wq}{w:WC}{K:PySem.W.Frag}{mg:Str->Option Wg}{base:Heap}{cA:Addr}{c:Nat->Addr}
theorem jC:aU ["many","ties","a","b"] ["many","ties"] (aw fU):=mkS
theorem Dj {pO kg} (Cb:D8 K mg pO kg) (B:Bs mg) (ZA:XA K mg cA c):a9 P w K mg base (wx P w) 1 pO kg ["many","ties"] (oT P w true (A5 c)):=by
 refine Ho Cb.F jC (λds R T h=>by obtain⟨n,gs,e,_⟩:=h;subst e;rfl) λbW A outer s H E hr=>?_
 have Z:=k8 (P:=P) (w:=w) (K:=K) (mg:=mg) (base:=base) (N:=["many","ties","a","b"]) (qual:="row_of") (scope:=aw fU) (f:=pO) (cd:=bW) (A:=A) (outer:=outer) (s:=s) (H:=H) (E:=E);refine⟨_,(aj (bz (aH ai (bf.m fu) (af (i:=0)) ak) (ax (gc Z rfl (XA.x ZA 0))) a5)
    (aj (gf Z.own rfl (bQ (af (i:=1))) (df (n:=2) rfl (aT (aI (i:=2) jC.nd) (aT (aI (i:=3) jC.nd) cz))) (ax (bz (kU (jG ak (eR uc (aL ai (aX.m (fC rfl)) B.min p_ (aa (af (i:=2)) (aa (af (i:=3)) ag))) (eR fu (aL ai (aX.m (iE rfl)) B.max uY (aa (af (i:=2)) (aa (af (i:=3)) ag))) (iY fu (af (i:=0))))))) (ax (gc Z rfl (XA.x ZA 0))) a5)))
    (mJ.mS (ax (aY (fq (aa (af (i:=0)) (aa (aL aP (fA rfl) B.sorted dA (aa (TZ hr.oQ ["a","b"] [none,none] (by rfl) (by decide:(["a","b"]:List Str).Nodup) rfl (bQ (af (i:=1))) (λ_ _ _ _ _ _=>(df (n:=2) rfl (aT (aI (i:=0) (by decide:(["a","b"]:List Str).Nodup)) (aT (aI (i:=1) (by decide:(["a","b"]:List Str).Nodup)) cz)))) (λ_ _ _ _ _ _=>dB) (λ_ _ _ _ _ _=>(fq (aa (aL ai (aX.m (fC rfl)) B.min p_ (aa (af (i:=0)) (aa (af (i:=1)) ag))) (aa (aL ai (aX.m (iE rfl)) B.max uY (aa (af (i:=0)) (aa (af (i:=1)) ag))) ag))))) ag)) ag)))))))),λds R h=>?_⟩
 obtain⟨n,gs,rfl,gl,hx,q⟩:=h;refine⟨_,rfl,trivial,_,rfl,_,rfl,nX (λh1=>hx λz=>by lia) λh1=>?_⟩
 have n0:0<=n:=by lia
 refine⟨_,rfl,_,rfl,trivial,?_⟩;refine⟨λi β=>(∀p∈gs.take i,Fd n p)/\∃x2 x3,β=[some (.val false (.int n)),some (.val false (.lst (gs.map R7))),x2,x3],⟨λp hp=>by simp at hp,_,_,rfl⟩,?_,?_⟩
 ·rintro i d β hd ⟨hg,x2,x3,rfl⟩;rw[WH]at hd;obtain⟨p,eg,rfl⟩:=WQ.mp hd;have hm:=W_ eg;have bad:¬ Fd n p->XR H E (c 0):=λz=>hx λy=>z (y.2 p hm);refine⟨_,rfl,rfl,_,_,rfl,_,_,rfl,rfl,_,rfl,trivial,_,rfl,trivial,_,rfl,_,rfl,nX (λt0=>?_) λt0=>⟨_,rfl,dt rfl (bad λz=>t0 z.1)⟩⟩;refine⟨_,rfl,trivial,_,rfl,trivial,_,rfl,_,rfl,nX (λt1=>?_) λt1=>⟨_,rfl,dt rfl (bad λz=>t1 z.2.1)⟩⟩
  by_cases t2:(if p.1<p.2 then p.2 else p.1)<n
  ·refine⟨_,rfl,_,rfl,_,rfl,eJ (by show (!decide _)=false;rw[YG];exact decide_eq_true t2) ⟨λx hx=>?_,_,_,rfl⟩⟩
   rw[Yt,eg]at hx;rcases WO.mp hx with z|z
   ·exact hg x z
   ·rw[Wx.mp z];exact⟨t0,t1,t2⟩
  ·exact⟨_,rfl,_,rfl,_,rfl,dt (by show (!decide _)=true;rw[decide_eq_false t2];rfl) (bad λz=>t2 z.2.2)⟩
 ·rintro β ⟨hg,x2,x3,rfl⟩;rw[Wj,YA]at hg;have q:=q ⟨n0,hg⟩;refine⟨_,rfl,trivial,_,rfl,_,rfl,trivial,?_⟩;refine⟨λi β o=>(∃x0 x1,β=[x0,x1])/\i<=gs.length/\o=(gs.take i).map λp=>B7 [p.1,p.2],⟨⟨_,_,rfl⟩,WJ _,rfl⟩,?_,?_⟩
  ·rintro i d β o hd ⟨⟨x0,x1,rfl⟩,hi,rfl⟩;rw[WH]at hd;obtain⟨p,eg,rfl⟩:=WQ.mp hd;have gT:i<gs.length:=(WI.mp eg).1;refine⟨_,rfl,rfl,_,_,rfl,_,_,rfl,rfl,_,rfl,trivial,_,rfl,trivial,_,rfl,trivial,_,rfl,trivial,_,rfl,trivial,_,rfl,trivial,B0,B7 [p.1,p.2],rfl,by rw[Wj,WW];lia,⟨_,_,rfl⟩,gT,?_⟩
   rw[Yt,eg,XB];rfl
  ·rintro β o ⟨⟨x0,x1,rfl⟩,_,rfl⟩;rw[Wj,YA];have DV:∀k∈gs.map λp=>B7 [p.1,p.2],k≠[]:=λk hk=>by
    obtain⟨p,_,rfl⟩:=WX.mp hk;exact λz=>(by cases z)
   exact⟨trivial,trivial,_,ic DV (by rw[Wj];exact gl),.inl ⟨cS _,trivial,B0,trivial,q⟩⟩
end
section
variable {P:Wq}{w:WC}{K:PySem.W.Frag}{mg:Str->Option Wg}{base:Heap}{c:Nat->Addr}{tF:Tok}
theorem oZ:aU ["text","longest"] ["text","longest"] (aw dZ):=mkS
theorem zJ {mY g_} (pW:D9 K mg mY g_) (x_:mg "FIGURES" = some (.str "0123456789" tF)) (B:wA mg):a9 P w K mg base c6 1 mY g_ ["text","longest"] (eG P w true si):=by
 refine tw pW.F oZ (λds R h=>by obtain⟨cs,l,e,_⟩:=h;subst e;rfl) λbW A outer s H E hr=>⟨_,(aj (bz (mE.t (cy (kU (jG ak (eR uc (aL ai (aX.m cf) B.len c5 (aa (af (i:=0)) ag)) (iY uc (af (i:=1)))))) (cO (gL (aL ai (aX.m (dz rfl)) B.any jV (aa (Fl false ["sign"] [none] (by rfl) (by decide:(["sign"]:List Str).Nodup) rfl (vv (af (i:=0))) (λ_ _ _ _ _ _=>(aI (i:=0) (by decide:(["sign"]:List Str).Nodup))) (λ_ _ _ _ _ _=>dB) (λ_ _ _ _ _ _=>(dI ai (bf.m gg) (af (i:=0)) (zb x_)))) ag)))))) (ax (aY b8)) a5)
    (aj (bz (mE.t (iX (aH ai (bf.m (b_ hr.units)) (bo ai fw (af (i:=0)) ak) ar) (fZ (aH ai (bf.m (cB hr.units)) (af (i:=0)) ar)))) (ax (aY b8)) a5)
    (ax (aY (bD ai (aX.m my) B.int mz (aa (af (i:=0)) ag)))))),λds R h=>?_⟩
 obtain⟨cs,l,rfl,asc,hl,h6,q⟩:=h;refine Bz (a:=1) (b:=(cs.length:Int)) (c:=(l:Int)) (λR r=>r) (λR r=>⟨_,rfl,trivial,_,dS (by lia),r⟩) (λR r=>⟨_,rfl,r⟩) ⟨_,rfl,?_⟩
 by_cases h0:1<=cs.length/\cs.length<=l
 ·rw[show (decide ((1:Int)<=(cs.length:Int))&&decide ((cs.length:Int)<=(l:Int)))=true by rw[decide_eq_true (by lia),decide_eq_true (by lia)];rfl]
  refine eJ rfl ?_;refine⟨_,rfl,_,rfl,l8 asc,trivial,?_⟩;rw[tZ];refine iu (l:=cs) (f:=λc=>D.str (bb c)) (λ_=>true) (λc=>.bl (!jk c)) trivial (by rw[WY];lia) (λc hc z0 o J ho j1 _=>⟨_,rfl,trivial,_,AU c,trivial,ho,j1 rfl _⟩) ?_
  refine⟨trivial,_,BN cs,_,rfl,?_⟩;cases ha:cs.any λc=>!jk c with
  |true =>
   refine dt rfl ⟨trivial,?_⟩
   rwa [bc,if_pos (.inr (.inr ha))]at q
  |false =>
   obtain⟨c,cs,rfl⟩:∃c r,cs=c::r:=by cases cs with|nil=>exact absurd h0.1 (by decide)|cons c r=>exact⟨c,r,rfl⟩
   have hc:=asc c Wo;rw[bc,if_neg (λz=>by rcases z with z|z|z;exact absurd z (by simp);lia;rw[ha]at z;cases z)]at q
   have eI:=rG c cs (by lia)
   have e0:ya (.str (bb c)) (.str "0")=some (.bl (decide (c=48))):=by rw[My];exact p4 hc (by decide)
   have e1:sA (.str (aG (c::cs))) (.str "0")=some (.bl (!decide (aG (c::cs)="0"))):=jo _ _ (fb asc) (by decide +kernel)
   have fin:(¬ ((c::cs).head?=some 48/\c::cs≠[48]))->R (.int (ZQ (c::cs):Nat)):=λz=>by rw[if_neg z]at q;exact q
   have eT:=wd ha (List.cons_ne_nil _ _) (by lia)
   refine eJ rfl ?_;refine⟨_,rfl,trivial,_,eI,trivial,_,e0,_,rfl,nX (λz=>?_) λz=>eJ rfl ?_⟩
   ·subst z
    by_cases z2:48::cs=[48]
    ·have eb:decide (aG (48::cs)=("0" : Str))=true:=decide_eq_true (Cr.mpr z2);rw[eb]at e1;exact⟨_,rfl,trivial,_,e1,_,rfl,eJ rfl ⟨_,rfl,trivial,_,eT,trivial,fin λy=>y.2 z2⟩⟩
    ·have eb:decide (aG (48::cs)=("0" : Str))=false:=decide_eq_false λy=>z2 (Cr.mp y);rw[eb]at e1;rw[if_pos ⟨rfl,z2⟩]at q;exact⟨_,rfl,trivial,_,e1,_,rfl,dt rfl ⟨trivial,q⟩⟩
   ·exact⟨_,rfl,trivial,_,eT,trivial,fin λy=>z (WR y.1)⟩
 ·rw[show (decide ((1:Int)<=(cs.length:Int))&&decide ((cs.length:Int)<=(l:Int)))=false by rw[Bool.and_eq_false_iff];by_cases z:1<=cs.length;exact .inr (decide_eq_false (by lia));exact .inl (decide_eq_false (by lia))]
  refine dt rfl (dt rfl ⟨trivial,?_⟩)
  rwa [bc,if_pos (by lia)]at q
end
section
variable {P:Wq}{w:WC}{K:PySem.W.Frag}{mg:Str->Option Wg}{base:Heap}{c:Nat->Addr}{tF tP:Tok}
theorem cJ:aU ["text","ahead","dash","behind","a","b"] ["text"] (aw gD):=mkS
theorem Dn {rY kh} (Cc:NG K mg rY kh) {mY g_} (pW:D9 K mg mY g_) (x_:mg "FIGURES" = some (.str "0123456789" tF)) (AD:mg "POINT_FIGURES" = some (.int 3 tP)) (B:wA mg):a9 P w K mg base c6 2 rY kh ["text"] (eG P w true A7):=by
 have Ny:a9 P w K mg base c6 1 _ _ _ (eG P w true si):=zJ pW x_ B;refine tw Cc.F cJ (λds R h=>by obtain⟨cs,e,_⟩:=h;subst e;rfl) λbW A outer s H E hr=>⟨_,(aj (zA (kc ai vK PySem.F.slot_str_partition PySem.F.type_str_partition (af (i:=0)) (aa ar ag)) (df (n:=3) rfl (aT (aI (i:=1) cJ.nd) (aT (aI (i:=2) cJ.nd) (aT (aI (i:=3) cJ.nd) cz)))))
    (aj (a6 (i:=4) (aJ si.mono Ny (hr.mono (by decide)) pW.m pW.F.kp pW.b (aa (af (i:=1)) (aa (lK AD) ag))) cJ.nd)
    (aj (a6 (i:=5) (aJ si.mono Ny (hr.mono (by decide)) pW.m pW.F.kp pW.b (aa (af (i:=3)) (aa (lK AD) ag))) cJ.nd)
    (ax (aY (E7 (mE.t (cy (aH ai (bf.m i6) (af (i:=4)) b8) (cO (aH ai (bf.m i6) (af (i:=5)) b8)))) b8 (fq (aa (af (i:=4)) (aa (af (i:=5)) ag))))))))),λds R h=>?_⟩
 obtain⟨cs,rfl,asc,hl,q⟩:=h;have eP:wb (.str (aG cs)) [.str "-"]=some (.tup [.str (aG (aO 45 cs).1),.str (aG (aO 45 cs).2.1),.str (aG (aO 45 cs).2.2)]):=by
  rw[show ("-" : Str)=bb 45 by decide +kernel]
  show (if (bb 45).length=1/\(aG cs).length<=WA then some (D.tup [.str (XE (aG cs) (bb 45)).1,.str (XE (aG cs) (bb 45)).2.1,.str (XE (aG cs) (bb 45)).2.2]) else none)=_
  rw[if_pos ⟨rfl,by rw[WY];show cs.length<=_;lia⟩,vE]
 have aA:∀c∈(aO 45 cs).1,c<128:=λc h=>asc c (dw (.inl h));have aB:∀c∈(aO 45 cs).2.2,c<128:=λc h=>asc c (dw (.inr h));obtain⟨lA,lB⟩:=@jH 45 cs;unfold c7 at q;generalize (aO 45 cs).1=A at *
 generalize (aO 45 cs).2.1=M at *
 generalize (aO 45 cs).2.2=Bv at *
 refine⟨_,rfl,trivial,⟨_,rfl⟩,trivial,_,eP,_,rfl,rfl,_,_,rfl,_,_,rfl,_,_,rfl,rfl,?_⟩;refine⟨_,rfl,trivial,trivial,A,3,rfl,aA,by lia,by lia,?_⟩
 refine⟨_,rfl,trivial,trivial,Bv,3,rfl,aB,by lia,by lia,?_⟩
 cases hA:bc A 3 with
 |none =>
  rw[hA]at q;cases bc Bv 3 <;> exact⟨_,rfl,trivial,_,rfl,_,rfl,dt rfl ⟨trivial,q⟩⟩
 |some a =>
  rw[hA]at q;cases hB:bc Bv 3 with
  |none =>
   rw[hB]at q;exact⟨_,rfl,trivial,_,rfl,_,rfl,eJ rfl ⟨_,rfl,trivial,_,rfl,_,rfl,dt rfl ⟨trivial,q⟩⟩⟩
  |some b =>
   rw[hB]at q;refine⟨_,rfl,trivial,_,rfl,_,rfl,eJ rfl ⟨_,rfl,trivial,_,rfl,_,rfl,eJ rfl ?_⟩⟩;exact⟨_,rfl,trivial,_,rfl,trivial,B0,trivial,q⟩
end
section
variable {P:Wq}{w:WC}{K:PySem.W.Frag}{mg:Str->Option Wg}{base:Heap}{cA:Addr}{c:Nat->Addr}{tF tP:Tok}
theorem bP:aU ["text","head","colon","tail","many","ahead","ties","pairs"] ["text"] (aw dG):=mkS
theorem Dk {uG oi} (FK:RK K mg uG oi) {rY kh} (Cc:NG K mg rY kh) {mY g_} (pW:D9 K mg mY g_) {pO kg} (Cb:D8 K mg pO kg) (x_:mg "FIGURES" = some (.str "0123456789" tF)) (AD:mg "POINT_FIGURES" = some (.int 3 tP)) (B:wA mg) (ZA:XA K mg cA c):a9 P w K mg base (wx P w) 3 uG oi ["text"] (oT P w true (A4 c)):=by
 have Ny:a9 P w K mg base c6 1 _ _ _ (eG P w true si):=zJ pW x_ B;have VM:a9 P w K mg base c6 2 _ _ _ (eG P w true A7):=Dn Cc pW x_ AD B;have VH:a9 P w K mg base (wx P w) 1 _ _ _ (oT P w true (A5 c)):=Dj Cb B.toBs ZA;refine Ho FK.F bP (λds R T h=>by obtain⟨cs,e,_⟩:=h;subst e;rfl) λbW A outer s H E hr=>?_
 have Z:=k8 (P:=P) (w:=w) (K:=K) (mg:=mg) (base:=base) (N:=["text","head","colon","tail","many","ahead","ties","pairs"]) (qual:="read_row") (scope:=aw dG) (f:=uG) (cd:=bW) (A:=A) (outer:=outer) (s:=s) (H:=H) (E:=E);refine⟨_,(aj (zA (kc ai vK PySem.F.slot_str_partition PySem.F.type_str_partition (af (i:=0)) (aa ar ag)) (df (n:=3) rfl (aT (aI (i:=1) bP.nd) (aT (aI (i:=2) bP.nd) (aT (aI (i:=3) bP.nd) cz)))))
    (aj (a6 (i:=4) (aJ si.mono Ny (hr.mono (by decide)) pW.m pW.F.kp pW.b (aa (af (i:=1)) (aa (lK AD) ag))) bP.nd)
    (aj (C4 (i:=5) (j:=7) (λ_=>(kc aP lS PySem.F.slot_str_split PySem.F.type_str_split (af (i:=3)) (aa ar ag))) rfl bP.nd)
    (C3 7 (aj (Ku (i:=6) false ["pair"] [none] (by rfl) (by decide:(["pair"]:List Str).Nodup) rfl (λ_=>(bQ (af (i:=7)))) (λ_ _ _ _ _ _=>(aI (i:=0) (by decide:(["pair"]:List Str).Nodup))) (λ_ _ _ _ _ _=>dB) (λ_ _ _ _ _ _=>(aJ A7.mono VM (hr.mono (by decide)) Cc.m Cc.F.kp Cc.b (aa (af (i:=0)) ag))) bP.nd)
    (aj (bz (mE.t (cy (aH ai (bf.m i6) (af (i:=4)) b8) (cy (aH ai (bf.m (b_ hr.units)) (af (i:=2)) ar) (cy (aH ai (bf.m (cB hr.units)) (af (i:=5)) ar) (cO (aH ai (bf.m (pD hr.kR)) b8 (af (i:=6)))))))) (ax (gc Z rfl (XA.x ZA 9))) a5)
    (aj (bz (mE.t (cy (gL (aL ai (aX.m (dz rfl)) B.any jV (aa (Fl false ["a","b"] [none,none] (by rfl) (by decide:(["a","b"]:List Str).Nodup) rfl (bQ (af (i:=6))) (λ_ _ _ _ _ _=>(df (n:=2) rfl (aT (aI (i:=0) (by decide:(["a","b"]:List Str).Nodup)) (aT (aI (i:=1) (by decide:(["a","b"]:List Str).Nodup)) cz)))) (λ_ _ _ _ _ _=>dB) (λ_ _ _ _ _ _=>(dI ai (bf.m lQ) (af (i:=0)) (af (i:=1))))) ag))) (cO (aH ai (bf.m (cB hr.units)) (af (i:=6)) (aL aP (fA rfl) B.sorted dA (aa (bD ai (aX.m (oE rfl hr.oQ)) B.set BC (aa (af (i:=6)) ag)) ag)))))) (ax (gc Z rfl (XA.x ZA 9))) a5)
    (ax (aY (zc Z A5.mono VH (hr.mono (by decide)) Cb.m Cb.F.kp Cb.b (aa (af (i:=4)) (aa (af (i:=6)) ag)))))))))))),λds R h=>?_⟩
 obtain⟨cs,rfl,asc,hl,q,q9,q0⟩:=h;have eP:wb (.str (aG cs)) [.str ":"]=some (.tup [.str (aG (aO 58 cs).1),.str (aG (aO 58 cs).2.1),.str (aG (aO 58 cs).2.2)]):=by
  rw[Jp];show (if (bb 58).length=1/\(aG cs).length<=WA then some (D.tup [.str (XE (aG cs) (bb 58)).1,.str (XE (aG cs) (bb 58)).2.1,.str (XE (aG cs) (bb 58)).2.2]) else none)=_
  rw[if_pos ⟨rfl,by rw[WY];show cs.length<=_;lia⟩,vE]
 have aA:∀c∈(aO 58 cs).1,c<128:=λc h=>asc c (dw (.inl h));have aB:∀c∈(aO 58 cs).2.2,c<128:=λc h=>asc c (dw (.inr h));obtain⟨lA,lB⟩:=@jH 58 cs;obtain⟨ah,ws,es⟩:=Xy (cI (c:=32) (aO 58 cs).2.2);have ra:=@K5 cs;have rb:=@K4 cs;have rc:=K3 es;have rd:none∈ws.map c7->cY cs=gu 9:=λz=>by unfold cY;rw[yZ es];exact vF z
 have re:∀(n:Nat) (ps:List (Nat×Nat)),bc (aO 58 cs).1 3=some n->(aO 58 cs).2.1=[58]->ah=[]->ws.map c7=ps.map some->cY cs=kJ (some n) (ps.map some):=λn ps h1 h2 h3 h4=>K2 h1 h2 (by rw[es,h3]) h4
 have S4:(aO 58 cs).2.1=[]\/(aO 58 cs).2.1=[58]:=by
  rcases dC (c:=58) cs with⟨_,e,_⟩|⟨_,_,_,_,e,_⟩
  ·rw[e];exact .inl rfl
  ·rw[e];exact .inr rfl
 have sub:=e_ es;generalize (aO 58 cs).1=h at *
 generalize (aO 58 cs).2.1=co at *
 generalize (aO 58 cs).2.2=tl at *
 generalize cY cs=out at *
 refine⟨_,rfl,trivial,⟨_,rfl⟩,trivial,_,eP,_,rfl,rfl,_,_,rfl,_,_,rfl,_,_,rfl,rfl,?_⟩;refine⟨_,rfl,trivial,trivial,h,3,rfl,aA,by lia,by lia,?_⟩
 have eS:mm (.str (aG tl)) [.str " "]=some (.lst (D.str (aG ah)::ws.map λw=>D.str (aG w))):=by
  rw[Jq];show (if (bb 32).length=1/\(aG tl).length<=1000000 then some (D.lst ((X5 (aG tl) (bb 32)).map D.str)) else none)=_
  rw[if_pos ⟨rfl,by show tl.length<=_;lia⟩,iR,es,W6,W3]
  rfl
 have fx:D.bJ (D.str (aG ah)::ws.map λw=>D.str (aG w))=true:=iA _ _;have wl:ws.length<=600:=by have:=sub.2.2;lia
 refine⟨_,rfl,trivial,⟨_,rfl⟩,trivial,_,eS,.inl ⟨fx,_,_,rfl,fx,by rw[Wj];lia,?_⟩⟩
 refine⟨_,rfl,_,rfl,_,rfl,trivial,iu (l:=ws) (f:=λw=>D.str (aG w)) (λ_=>true) (λw=>vq (c7 w)) trivial (nr (by lia)) (λw hw x0 o J ho j1 _=>?_) ?_⟩
 ·exact⟨_,rfl,trivial,w,rfl,λc z=>aB c (sub.1 w (Wm _ hw) c z),(by have:=sub.2.1 w (Wm _ hw);lia),trivial,ho,j1 rfl _⟩
 rw[X7.mpr λ_ _=>rfl,show (ws.map λw=>vq (c7 w))=(ws.map c7).map vq by rw[W6];rfl]
 have pl:(ws.map c7).length<=600:=by rw[Wj];exact wl
 generalize ws.map c7=gK at rd re pl ⊢
 cases hm:bc h 3 with
 |none=>exact⟨_,rfl,trivial,_,rfl,_,rfl,dt rfl (dt rfl (q9 (ra hm)))⟩
 |some n =>
 have Vy:∀c∈co,c<128:=by
  intro c hc;rcases S4 with rfl|rfl
  ·cases hc
  ·rw[Wx.mp hc];decide
 have ec:ya (.str (aG co)) (.str "")=some (.bl (decide (co=[]))):=by rw[NP,pZ _ _ (fb Vy) (fb (cs:=[]) λc z=>(nomatch z)),decide_eq_decide.mpr k_]
 have ea:sA (.str (aG ah)) (.str "")=some (.bl (!decide (ah=[]))):=by rw[NP,jo _ _ (fb λc z=>aB c (sub.1 ah Wo c z)) (fb (cs:=[]) λc z=>(nomatch z)),decide_eq_decide.mpr k_]
 refine⟨_,rfl,trivial,_,rfl,_,rfl,eJ rfl ⟨_,rfl,trivial,_,ec,_,rfl,?_⟩⟩;rcases S4 with rfl|rfl
 ·exact dt rfl (dt rfl (q9 (rb (by decide))))
 refine eJ rfl ⟨_,rfl,trivial,_,ea,_,rfl,?_⟩
 by_cases ha:ah=[]
 case neg=>exact dt (by rw[decide_eq_false ha];rfl) (dt rfl (q9 (rc ha)))
 refine eJ (by rw[decide_eq_true ha];rfl) ⟨trivial,_,rfl,_,Et gK,_,rfl,?_⟩
 by_cases hn:none∈gK
 ·exact dt (decide_eq_true hn) (q9 (rd hn))
 obtain⟨ps,rfl⟩:=vH gK hn;have re:=re n ps hm rfl ha rfl;rw[nF]at re;refine eJ (decide_eq_false hn) ?_;rw[show (ps.map some).map vq=(ps.map tI).map kD by rw[W6,W6];rfl]
 rw[Wj]at pl;have ne:∀k∈ps.map tI,k≠[]:=λk hk=>by
  obtain⟨p,_,rfl⟩:=WX.mp hk;exact λz=>(by cases z)
 have RL:(ps.map tI).length<1000:=by rw[Wj];lia
 refine⟨_,rfl,_,rfl,trivial,ui (l:=ps.map tI) (f:=kD) (λ_=>true) (λt=>.bl (decide (t.getD 1 0<t.getD 0 0))) trivial (nr (by lia)) (λt LH x0 x1 o J ho j1 _=>?_) ?_⟩
 ·obtain⟨p,_,rfl⟩:=WX.mp LH;exact⟨_,rfl,rfl,_,_,rfl,_,_,rfl,rfl,_,rfl,trivial,_,rfl,_,rfl,trivial,ho,j1 rfl _ _⟩
 refine⟨trivial,_,qb _ _,_,rfl,?_⟩;have Ni:∀z:mC (ps.map tI)=true,out=gu 9:=λz=>by rw[re,if_pos z]
 cases hle:(ps.map tI).any λt=>decide (t.getD 1 0<t.getD 0 0)with
 |true=>exact dt rfl (dt rfl (q9 (Ni (by unfold mC;rw[hle];rfl))))
 |false =>
 refine eJ rfl ⟨_,rfl,trivial,_,rfl,trivial,_,qI ne RL,.inr ⟨trivial,_,ic ne RL,.inl ⟨cS _,_,Bh _ _,_,rfl,?_⟩⟩⟩
 by_cases hs:ps.map tI=eF (jx (ps.map tI))
 case neg =>
  exact dt (by rw[decide_eq_false hs];rfl) (q9 (Ni (by
   unfold mC;rw[hle,Z3];cases z:oJ (ps.map tI)with
   |true=>rfl
   |false=>exact absurd (qL.mp z) hs)))
 have hb:mC (ps.map tI)=false:=by unfold mC;rw[hle,qL.mpr hs];rfl
 rw[hb,if_neg XY]at re;obtain⟨k1,k2⟩:=Gi (n:=n) hle;refine eJ (by rw[decide_eq_true hs];rfl) ⟨_,rfl,trivial,_,rfl,trivial,(n:Int),ps.map λp=>((p.1:Int),(p.2:Int)),by rw[W6,W6];rfl,by rw[Wj];lia,λz=>?_,λz=>?_⟩
 ·refine q0 ?_;rw[re,if_pos];cases y:(ps.map tI).any λt=>decide (t.getD 0 0=t.getD 1 0) || decide ((n:Int)<=t.getD 1 0)with
  |true=>rfl
  |false=>exact absurd ⟨ZJ _,k1.mp y⟩ z
 ·have ht:=k2 z.2;rw[k1.mpr z.2,if_neg XY]at re;have q:=q ⟨n,_,re⟩;rw[re]at q;rw[show ((ps.map λp=>((p.1:Int),(p.2:Int))).map λp=>B7 [p.1,p.2])=(ps.map tI).map B7 by rw[W6,W6];rfl,Dt ht,<- hs]
  exact⟨trivial,q⟩
end
section
variable {P:Wq}{w:WC}{K:PySem.W.Frag}{mg:Str->Option Wg}{base:Heap}
theorem cK:aU ["cell","begin","most","many","ties","k","a","b"] ["cell","begin","most"] (aw gF):=mkS
theorem Hk {Md FF} (Vq:RF K mg Md FF) {kL fL} (cF:D1 K mg kL fL) {jm d8} (pU:D0 K mg jm d8) (B:Bs mg):a9 P w K mg base c6 3 Md FF ["cell","begin","most"] (eG P w true sf):=by
 have qm:a9 P w K mg base c6 2 _ _ _ (eG P w true dW):=i8 cF pU;refine tw Vq.F cK (λds R h=>by obtain⟨c,b,m,e,_⟩:=h;subst e;rfl) λbW A outer s H E hr=>⟨_,(aj (a6 (i:=3) (aJ dW.mono qm (hr.mono (by decide)) cF.m cF.F.kp cF.b (aa (af (i:=0)) (aa (af (i:=1)) (aa (aN aP aM (af (i:=2)) ak) ag)))) cK.nd)
    (aj (dh (i:=4) (λ_=>(bw ag)) cK.nd)
    (aj (gf Yj rfl (fo B.range (aa (aJ dW.mono qm (hr.mono (by decide)) cF.m cF.F.kp cF.b (aa (af (i:=0)) (aa (aN aP aM (af (i:=1)) ak) (aa (bo ai dk (bw (aa ak (aa ak (aa ak ag)))) (aJ dW.mono qm (hr.mono (by decide)) cF.m cF.F.kp cF.b (aa (af (i:=0)) (aa (aN aP aM (af (i:=1)) ak) (aa ak ag))))) ag)))) ag)) (aI (i:=5) cK.nd) (ax (bz (aH ai (bf.m lQ) (af (i:=3)) ak) (aj (a6 (i:=6) (aJ dW.mono qm (hr.mono (by decide)) cF.m cF.F.kp cF.b (aa (af (i:=0)) (aa (aN aP aM (aN aP aM (af (i:=1)) ak) (aN ai (bf.m pC) ak (af (i:=5)))) (aa (af (i:=3)) ag)))) cK.nd)
    (aj (a6 (i:=7) (aJ dW.mono qm (hr.mono (by decide)) cF.m cF.F.kp cF.b (aa (af (i:=0)) (aa (aN aP aM (aN aP aM (af (i:=1)) ak) (aN ai (bf.m pC) ak (af (i:=5)))) (aa (af (i:=3)) ag)))) cK.nd)
    (ax (bz (aH ai (bf.m (cB hr.units)) (af (i:=6)) (af (i:=7))) (ax (dv (i:=4) (λ_=>(fq (aa (aL ai (aX.m (fC rfl)) B.min p_ (aa (af (i:=6)) (aa (af (i:=7)) ag))) (aa (aL ai (aX.m (iE rfl)) B.max uY (aa (af (i:=6)) (aa (af (i:=7)) ag))) ag)))))) a5)))) a5)))
    (ax (aY (fq (aa (af (i:=3)) (aa (aL aP (fA rfl) B.sorted dA (aa (bD ai (aX.m (oE rfl hr.oQ)) B.set BC (aa (af (i:=4)) ag)) ag)) ag)))))))),λds R h=>?_⟩
 obtain⟨c,b,m,rfl,b0,b1,m0,m1,q⟩:=h;have Uu:∀r:Int,0<=r->r<3->∃x:Int,uO (.lst [.int 3,.int 9,.int 41]) (.int r)=some (.int x)/\0<x/\x<=41:=λr h0 h1=>by
  rcases (by lia:r=0\/r=1\/r=2)with rfl|rfl|rfl
  ·exact⟨3,rfl,by decide,by decide⟩
  ·exact⟨9,rfl,by decide,by decide⟩
  ·exact⟨41,rfl,by decide,by decide⟩
 refine⟨_,rfl,trivial,_,rfl,trivial,_,rfl,trivial,_,rfl,trivial,c,b,m+1,rfl,b0,by lia,by lia,λn n0 n1=>?_⟩
 refine⟨WJ _,trivial,_,rfl,trivial,_,rfl,trivial,_,rfl,trivial,trivial,trivial,trivial,RN,trivial,_,rfl,trivial,_,rfl,trivial,_,rfl,trivial,trivial,c,b+2,3,rfl,by lia,by lia,by decide,λr r0 r1=>?_⟩
 obtain⟨x,ex,x0,x1⟩:=Uu r r0 r1;refine⟨_,ex,trivial,c,b+1,x,rfl,by lia,by lia,x0,λh h0 h1=>?_⟩
 refine⟨trivial,h,rfl,by lia,by lia,trivial,?_⟩
 refine uD (λi β=>∃(ts:List (List Int)) (x5 x6 x7:Option Q.B),β=[some (.val false (.int c)),some (.val false (.int b)),some (.val false (.int m)),some (.val true (.int n)),some (.own (.lst (ts.map kD))),x5,x6,x7]/\ts.length<=i/\sW n ts)
  ⟨[],_,_,_,rfl,WJ _,λ_ z=>(nomatch z)⟩ (λE1 r1 i n2 d β hd hI=>?_) ?_
 ·obtain⟨ts,x5,x6,x7,rfl,hl,ht⟩:=hI;obtain⟨hi,rfl⟩:=fW hd;refine⟨_,rfl,trivial,_,rfl,_,rfl,nX (λhn=>?_) (λ_=>n2 _ ⟨ts,_,_,_,rfl,by lia,ht⟩)⟩
  refine⟨_,rfl,trivial,_,rfl,trivial,_,rfl,trivial,trivial,_,rfl,_,pY (.inl ⟨by decide,by decide⟩),_,rfl,trivial,_,rfl,trivial,c,b+3+2*(0+(i:Int)),n,rfl,by lia,by lia,by lia,λa a0 a1=>?_⟩
  refine⟨_,rfl,trivial,_,rfl,trivial,_,rfl,trivial,trivial,_,rfl,_,pY (.inl ⟨by decide,by decide⟩),_,rfl,trivial,_,rfl,trivial,c,b+4+2*(0+(i:Int)),n,rfl,by lia,by lia,by lia,λe e0 e1=>?_⟩
  refine⟨_,rfl,trivial,_,rfl,_,gU a e,_,rfl,OT (λne=>?_) (λ_=>n2 _ ⟨ts,_,_,_,rfl,by lia,ht⟩)⟩
  refine⟨⟨_,rfl⟩,_,rfl,trivial,_,rfl,trivial,_,rfl,trivial,_,rfl,trivial,_,rfl,trivial,_,rfl,trivial,B0,trivial,_,rfl,by rw[Wj,WY];lia,?_⟩
  refine n2 _ ⟨ts++[[if e<a then e else a,if e>a then e else a]],_,_,_,by rw[kS];rfl,by rw[WK];exact X0 hl,λu hu=>?_⟩
  rcases WO.mp hu with z|z
  ·exact ht u z
  ·rw[Wx.mp z];exact⟨_,_,rfl,by split <;> lia,by split <;> split <;> lia,by split <;> lia⟩
 ·rintro β ⟨ts,x5,x6,x7,rfl,hl,ht⟩;rw[dH]at hl;have ne:∀t∈ts,t≠[]:=λt h=>by
   obtain⟨a,b,rfl,_⟩:=ht t h;exact λz=>(nomatch z)
  have Uq:ts.length<=40:=by lia
  refine⟨_,rfl,trivial,_,rfl,trivial,_,qI ne (by lia),.inr ⟨trivial,_,ic ne (by lia),.inl ⟨cS _,trivial,B0,trivial,q n _ n0 (by lia) (Rw.of ht) ?_⟩⟩⟩
  rw[(cq (jx ts)).length_eq];exact W8 (pS ts) Uq
end
def su:FD:=λds R=>∃cs:List Nat,ds=[.str (aG cs)]/\(∀c∈cs,c<128)/\cs.length<=600/\R (qk cs)
theorem su.mono:fE su:=λds R R' k ⟨cs,e,h1,h2,q⟩=>⟨cs,e,h1,h2,k _ q⟩
section
variable {P:Wq}{w:WC}{K:PySem.W.Frag}{mg:Str->Option Wg}{base:Heap}
theorem dF:aU ["text","waiting","arcs","at","sign"] ["text"] (aw gH):=mkS
theorem Dq {r_ km} (Ce:ND K mg r_ km) (B:wA mg):a9 P w K mg base c6 2 r_ km ["text"] (eG P w true su):=by
 refine tw Ce.F dF (λds R P6=> by obtain⟨cs,e,_⟩ := P6;subst e;rfl) λbW A outer s H E hr=>⟨_,(aj (dh (i:=1) (λ_=>(bw ag)) dF.nd)
    (aj (dh (i:=2) (λ_=>(bw ag)) dF.nd)
    (aj (gf Yj rfl (wY B.enumerate (aa (af (i:=0)) ag)) (df (n:=2) rfl (aT (aI (i:=3) dF.nd) (aT (aI (i:=4) dF.nd) cz))) (ax (bz (aH ai (bf.m (b_ hr.units)) (af (i:=4)) ar) (ax (dv (i:=1) (λ_=>(af (i:=3))))) (ax (bz (mE.t (iX (aH ai (bf.m (b_ hr.units)) (af (i:=4)) ar) (fZ (vt (af (i:=1)))))) (ax (dv (i:=2) (λ_=>(fq (aa (GN (i:=1)) (aa (af (i:=3)) ag)))))) (ax (bz (aH ai (bf.m (cB hr.units)) (af (i:=4)) ar) (ax (aY b8)) a5)))))))
    (ax (aY (E7 (vt (af (i:=1))) b8 (aL aP fB B.sorted dA (aa (af (i:=2)) ag)))))))),λds R h=>?_⟩
 obtain⟨cs,rfl,asc,hl,q⟩:=h;refine⟨WJ _,trivial,WJ _,trivial,_,rfl,trivial,_,rfl,l8 asc,trivial,?_⟩;rw[tZ];refine uD (λi β=>∃(ws:List Int) (fs:List (List Int)) (x3 x4:Option Q.B),β=[some (.val false (.str (aG cs))),some (.own (.lst (ws.map D.int))),some (.own (.lst (fs.map kD))),x3,x4]/\bF (cs.drop i) (i:Int) ws fs=bF cs 0 [] []/\ws.length<=i/\fs.length<=i/\i<=cs.length/\∀f∈fs,f≠[]) ⟨[],[],_,_,rfl,rfl,WJ _,WJ _,WJ _,λ_ z=>nomatch z⟩ (λE1 r1 i n1 d β hd hv=>?_) λβ hv=>?_
 ·obtain⟨ws,fs,x3,x4,rfl,h1,h2,h3,h4,h5⟩:=hv;obtain⟨b,hb,rfl⟩:=oz hd;rw[WH]at hb;obtain⟨c,hc,rfl⟩:=WQ.mp hb;obtain⟨hi,ec⟩:=WI.mp hc;have Ea:c<128:=asc c (W_ hc);rw[XQ hi,ec,bF]at h1;refine⟨_,rfl,rfl,_,_,rfl,_,_,rfl,rfl,_,rfl,trivial,_,Bq Ea,_,rfl,nX (λq1=>?_) λq1=>?_⟩
  ·rw[if_pos q1]at h1;refine⟨⟨_,rfl⟩,_,rfl,trivial,_,rfl,by rw[Wj,WY];omega,n1 _ ⟨ws++[(i:Int)],fs,_,_,by rw[yE];rfl,h1,by simp;omega,by omega,by omega,h5⟩⟩
  rw[if_neg q1]at h1;have rest:¬ (c=41/\ws≠[])->(¬ c=46->E1.rt .bE [some (.val false (.str (aG cs))),some (.own (.lst (ws.map D.int))),some (.own (.lst (fs.map kD))),some (.val true (.int i)),some (.val true (.str (bb c)))])/\(c=46->E1.nx [some (.val false (.str (aG cs))),some (.own (.lst (ws.map D.int))),some (.own (.lst (fs.map kD))),some (.val true (.int i)),some (.val true (.str (bb c)))]):=λt=>by
   rw[if_neg t]at h1;refine⟨λq3=>?_,λq3=>?_⟩
   ·rw[if_pos q3]at h1;refine r1 _ _ ?_;show R .bE
    rwa [qk,<- h1]at q
   ·rw[if_neg (λz=>z q3)]at h1;exact n1 _ ⟨ws,fs,_,_,rfl,h1,by omega,by omega,by omega,h5⟩
  refine⟨_,rfl,trivial,_,uP Ea,_,rfl,nX (λq2=>?_) λq2=>?_⟩
  ·by_cases hw:ws=[]
   ·subst hw;refine⟨_,rfl,_,rfl,eJ rfl ?_⟩;obtain⟨hA,hB⟩:=rest (λz=>z.2 rfl);exact⟨_,rfl,trivial,_,Bi Ea,_,rfl,OT (λq3=>⟨trivial,hA q3⟩) λq3=>hB q3⟩
   ·rw[if_pos ⟨q2,hw⟩]at h1;obtain⟨qs,p,rfl⟩:∃qs p,ws=qs++[p]:=⟨ws.dropLast,ws.getLast hw,(YI hw).symm⟩;rw[YV,List.getLastD_concat]at h1;rw[WK,Xn]at h2;refine⟨_,rfl,_,rfl,dt (by simp) ?_⟩
    refine⟨⟨_,rfl⟩,qs.map D.int,.int p,by simp,trivial,_,rfl,trivial,B0,trivial,fs.map kD,rfl,by rw[Wj,WY];omega,n1 _ ⟨qs,fs++[[p,(i:Int)]],_,_,by rw[kS];rfl,h1,by omega,by simp;omega,by omega,λf hf=>?_⟩⟩
    rcases WO.mp hf with z|z
    ·exact h5 f z
    ·rw[Wx.mp z];exact λz=>nomatch z
  ·obtain⟨hA,hB⟩:=rest (λz=>q2 z.1);exact eJ rfl ⟨_,rfl,trivial,_,Bi Ea,_,rfl,OT (λq3=>⟨trivial,hA q3⟩) λq3=>hB q3⟩
 ·obtain⟨ws,fs,x3,x4,rfl,h1,h2,h3,h4,h5⟩:=hv;rw[ou,Wj]at h1 h3 h2;rw[List.drop_length,bF]at h1;unfold qk at q;rw[<- h1]at q
  by_cases hw:ws=[]
  ·subst hw;refine⟨_,rfl,_,rfl,eJ rfl ⟨_,rfl,trivial,_,ie h5 (by omega),.inl ⟨cS _,trivial,q⟩⟩⟩
  ·refine⟨_,rfl,_,rfl,dt (by cases ws <;> first|exact absurd rfl hw|rfl) ⟨trivial,?_⟩⟩
   show R .bE;have q:R (if ws=[] then .lst ((eF fs).map kD) else .bE):=q
   rwa [if_neg hw]at q
end
section
variable {P:Wq}{w:WC}{K:PySem.W.Frag}{mg:Str->Option Wg}{base:Heap}{cA:Addr}{c:Nat->Addr}
theorem eQ:aU ["text","ties"] ["text"] (aw bH):=mkS
theorem Dl {uH oj} (FL:RE K mg uH oj) {r_ km} (Ce:ND K mg r_ km) (B:wA mg) (ZA:XA K mg cA c):a9 P w K mg base (wx P w) 3 uH oj ["text"] (oT P w true (A6 c)):=by
 have VQ:a9 P w K mg base c6 2 _ _ _ (eG P w true su):=Dq Ce B;refine Ho FL.F eQ (λds R T h=>by obtain⟨cs,e,_⟩:=h;subst e;rfl) λbW A outer s H E hr=>?_
 have Z:=k8 (P:=P) (w:=w) (K:=K) (mg:=mg) (base:=base) (N:=["text","ties"]) (qual:="read_brackets") (scope:=aw bH) (f:=uH) (cd:=bW) (A:=A) (outer:=outer) (s:=s) (H:=H) (E:=E);refine⟨_,(aj (dh (i:=1) (λ_=>(aJ su.mono VQ (hr.mono (by decide)) Ce.m Ce.F.kp Ce.b (aa (af (i:=0)) ag))) eQ.nd)
    (aj (bz (aH ai (bf.m i6) (af (i:=1)) b8) (ax (gc Z rfl (XA.x ZA 9))) a5)
    (mJ.mS (ax (vD (i:=1) (aL ai (aX.m cf) B.len c5 (aa (af (i:=0)) ag))))))),λds R h=>?_⟩
 obtain⟨cs,rfl,asc,hl,q,q9⟩:=h;refine⟨_,rfl,trivial,cs,rfl,asc,hl,?_⟩;obtain e|⟨fs,e,_⟩:=BM cs
 ·rw[e];exact⟨trivial,_,rfl,trivial,_,rfl,_,rfl,dt rfl (q9 e)⟩
 ·have q:=q (by rw[e];intro z;cases z)
  rw[e]at q ⊢
  exact⟨trivial,_,rfl,trivial,_,rfl,_,rfl,eJ rfl ⟨_,rfl,trivial,_,dS (by lia),rfl,_,rfl,q⟩⟩
end
section
variable {P:Wq}{w:WC}{K:PySem.W.Frag}{mg:Str->Option Wg}{base:Heap}{cA:Addr}{c:Nat->Addr}{tF tP:Tok}
theorem cj:aU ["kind","text","found","e"] ["kind","text"] (aw fg):=mkS
theorem Dg {Ef vX} (El:Tn K mg Ef vX) {xE oq} (FP:D3 K mg xE oq) {uG oi} (FK:RK K mg uG oi) {rY kh} (Cc:NG K mg rY kh) {mY g_} (pW:D9 K mg mY g_) {pO kg} (Cb:D8 K mg pO kg) {uH oj} (FL:RE K mg uH oj) {r_ km} (Ce:ND K mg r_ km) (x_:mg "FIGURES" = some (.str "0123456789" tF)) (AD:mg "POINT_FIGURES" = some (.int 3 tP)) (B:wA mg) (bV:mg "ValueError" = none) (ZA:XA K mg cA c):a9 P w K mg base c6 4 Ef vX ["kind","text"] (eG P w false xG):=by
 have VG:a9 P w K mg base (wx P w) 3 _ _ _ (oT P w true (A4 c)):=Dk FK Cc pW Cb x_ AD B ZA;have VL:a9 P w K mg base (wx P w) 3 _ _ _ (oT P w true (A6 c)):=Dl FL Ce B ZA;have VO:=zL (P:=P) (w:=w) (base:=base) FP B.toBs3 bV ZA;refine tw El.F cj (λds R h=>by obtain⟨m,ts,e,_⟩:=h;subst e;rfl) λbW A outer s H E hr=>⟨_,(aj (a6 (i:=2) b8 cj.nd)
    (aj (G1 (j:=3) rfl rfl (Ka (aH ai (bf.m (b_ hr.units)) (af (i:=0)) ak) (yu (i:=2) A4.mono VG (hr.mono (by decide)) FK.m FK.F.kp FK.b (aa (af (i:=1)) ag) cj.nd) (yu (i:=2) A6.mono VL (hr.mono (by decide)) FL.m FL.F.kp FL.b (aa (af (i:=1)) ag) cj.nd)) (λ_=>(ax (a6 (i:=2) (zd (Ek.mono (c:=c)) VO (hr.x8 (by decide)) FP.m FP.F.kp FP.b (aa (af (i:=3)) ag)) cj.nd))) ZA.Rq cj.nd)
    (ax (aY (af (i:=2)))))),λds R h=>?_⟩
 obtain⟨k,cs,rfl,asc,hl,q⟩:=h;refine⟨λcl=>(cl=c 9/\R (gu 9))\/(cl=c 0/\R (gu 0)),?_,λcl h=>?_⟩
 ·refine⟨_,rfl,trivial,_,fz _ _,_,rfl,nX (λh=>?_) λh=>?_⟩
  ·rw[if_pos h]at q;refine⟨_,rfl,trivial,cs,rfl,asc,hl,λz=>?_,λz=>.inl ⟨rfl,by rw[<- z];exact q⟩,λz=>.inr ⟨rfl,by rw[<- z];exact q⟩⟩
   obtain⟨n,ts,e⟩:=z;rw[e]at q ⊢
   exact⟨_,rfl,trivial,q⟩
  ·rw[if_neg h]at q;refine⟨_,rfl,trivial,cs,rfl,asc,hl,λz=>?_,λz=>.inl ⟨rfl,by rw[<- i4 z];exact q⟩⟩
   rw[qZ z]at q;exact⟨_,rfl,trivial,q⟩
 ·rcases h with⟨rfl,z⟩|⟨rfl,z⟩
  ·exact⟨ZA.Ta 9 (by decide),_,rfl,trivial,9,by decide,rfl,_,rfl,trivial,z⟩
  ·exact⟨ZA.Ta 0 (by decide),_,rfl,trivial,0,by decide,rfl,_,rfl,trivial,z⟩
end
section
variable {P:Wq}{w:WC}{K:PySem.W.Frag}{mg:Str->Option Wg}{base:Heap}
theorem qJ:aU ["one","other"] ["one","other"] (aw fm):=mkS
theorem Dp {rZ ki} (Cd:NC K mg rZ ki):a9 P w K mg base c6 1 rZ ki ["one","other"] (eG P w true sj):=by
 refine tw Cd.F qJ (λds R h=>by obtain⟨a,b,c,d,e,_⟩:=h;subst e;rfl) λbW A outer s H E hr=>⟨_,(aj (bz (mE.t (cy (aH ai (bf.m (pD hr.kR)) (bo ai dk (af (i:=0)) ak) (af (i:=1))) (cO (aH ai (bf.m (pD hr.kR)) (bo ai dk (af (i:=0)) ak) (af (i:=1)))))) (ax (aY ze)) a5)
    (ax (aY (dI ai (bf.m (cB hr.units)) (qR (bo ai dk (af (i:=0)) ak) (eR fu (bo ai dk (af (i:=1)) ak) (iY fu (bo ai dk (af (i:=0)) ak)))) (qR (bo ai dk (af (i:=0)) ak) (eR fu (bo ai dk (af (i:=1)) ak) (iY fu (bo ai dk (af (i:=0)) ak)))))))),λds R h=>?_⟩
 obtain⟨a,b,c,d,rfl,q⟩:=h;refine⟨_,rfl,trivial,_,rfl,trivial,_,rfl,_,Bp a [c,d],_,rfl,nX (λh=>?_) (λh1=>⟨_,rfl,trivial,_,rfl,trivial,_,rfl,_,Bp b [c,d],_,rfl,nX (λh=>?_) (λh2=>?_)⟩)⟩
 ·rw[show g8 a b c d=true by unfold g8;rw[decide_eq_true h];rfl]at q
  exact⟨trivial,q⟩
 ·rw[show g8 a b c d=true by unfold g8;rw[decide_eq_true h,Bool.or_true];rfl]at q
  exact⟨trivial,q⟩
 ·rw[show g8 a b c d=!decide ((decide (a<c)&&decide (c<b))=(decide (a<d)&&decide (d<b))) by unfold g8;rw[decide_eq_false h1,decide_eq_false h2];rfl]at q
  refine p8 (nh (m:=0) rfl rfl) (nh (m:=0) rfl rfl) (nh (m:=1) rfl rfl) ⟨trivial,?_⟩;exact p8 (nh (m:=0) rfl rfl) (nh (m:=1) rfl rfl) (nh (m:=1) rfl rfl) ⟨_,Jk _ _,trivial,q⟩
theorem dE:aU ["cell","begin","row","left","kept","k","tie"] ["cell","begin","row"] (aw gE):=mkS
theorem Hi {xC oh} (FJ:RD K mg xC oh) {rZ ki} (Cd:NC K mg rZ ki) {kL fL} (cF:D1 K mg kL fL) {jm d8} (pU:D0 K mg jm d8) (B:wA mg):a9 P w K mg base c6 3 xC oh ["cell","begin","row"] (eG P w true se):=by
 have qm:a9 P w K mg base c6 2 _ _ _ (eG P w true dW):=i8 cF pU;have VN:a9 P w K mg base c6 1 _ _ _ (eG P w true sj):=Dp Cd;refine tw FJ.F dE (λds R h=>by obtain⟨c,b,n,rows,e,_⟩:=h;subst e;rfl) λbW A outer s H E hr=>⟨_,(aj (dh (i:=3) (λ_=>(bD aP sQ B.list EG (aa (bo ai dk (af (i:=2)) ak) ag))) dE.nd)
    (aj (dh (i:=4) (λ_=>(bw ag)) dE.nd)
    (aj (gf Yj rfl (fo B.range (aa (aL ai (aX.m (fC rfl)) B.min p_ (aa (aL ai (aX.m eZ) B.len c5 (aa (bo ai dk (af (i:=2)) ak) ag)) (aa ak ag))) ag)) (aI (i:=5) dE.nd) (aj (a6 (i:=6) (y_ (i:=3) (aJ dW.mono qm (hr.mono (by decide)) cF.m cF.F.kp cF.b (aa (af (i:=0)) (aa (aN aP aM (af (i:=1)) (af (i:=5))) (aa (aL ai (aX.m eZ) B.len c5 (aa (af (i:=3)) ag)) ag))))) dE.nd)
    (ax (bz (mE.t (iX (kU (gL (aL ai (aX.m (dz rfl)) B.any jV (aa (Fl true ["one","tie"] [none,some 6] (by rfl) (by decide:(["one","tie"]:List Str).Nodup) rfl (bQ (af (i:=4))) (λ_ _ _ _ _ _=>(aI (i:=0) (by decide:(["one","tie"]:List Str).Nodup))) (λ_ _ _ _ _ _=>dB) (λ_ _ _ _ _ _=>(aJ sj.mono VN (hr.mono (by decide)) Cd.m Cd.F.kp Cd.b (aa (af (i:=1)) (aa (af (i:=0)) ag))))) ag)))) (fZ (aH ai (bf.m lQ) (aJ dW.mono qm (hr.mono (by decide)) cF.m cF.F.kp cF.b (aa (af (i:=0)) (aa (aN aP aM (aN aP aM (af (i:=1)) ak) (aN ai (bf.m gP) (af (i:=5)) ak)) (aa ak ag)))) ak)))) (ax (dv (i:=4) (λ_=>(af (i:=6))))) a5))))
    (ax (aY (aL aP fB B.sorted dA (aa (af (i:=4)) ag))))))),λds R h=>?_⟩
 obtain⟨c,b,n,rows,rfl,b0,b1,tr,lr,q⟩:=h;refine⟨_,rfl,trivial,_,rfl,.inr ⟨trivial,_,rfl,.inl ⟨cS _,trivial,?_⟩⟩⟩;refine⟨WJ _,trivial,_,rfl,trivial,_,rfl,.inr ⟨trivial,_,rfl,trivial,trivial,_,rfl,trivial,_,rfl,?_⟩⟩;rw[Wj];obtain⟨h,eh,h0,h1,h2⟩:∃h:Int,h=(if (30:Int)<(rows.length:Int) then 30 else (rows.length:Int))/\0<=h/\h<=30/\h<=rows.length:=⟨_,rfl,by split <;> lia,by split <;> lia,by split <;> lia⟩
 rw[<- eh];refine⟨by lia,by lia,trivial,?_⟩
 refine uD (λi β=>∃(us fs:List (List Int)) (x5 x6:Option Q.B),β=[some (.val false (.int c)),some (.val false (.int b)),some (.val false (mQ n rows)),some (.own (.lst (us.map kD))),some (.own (.lst (fs.map kD))),x5,x6]/\us.length=rows.length-i/\fs.length<=i/\(∀u∈us,u∈rows)/\(∀u∈fs,u∈rows)/\fs.Pairwise Apart)
  ⟨rows,[],_,_,rfl,rfl,WJ _,λ_ z=>z,λ_ z=>(nomatch z),List.Pairwise.nil⟩ (λE1 r1 i n2 d β hd hI=>?_) ?_
 ·obtain⟨us,fs,x5,x6,rfl,l1,l2,m1,m2,pw⟩:=hI;obtain⟨hi,rfl⟩:=fW hd;have lu:us.length=rows.length-i:=l1;refine⟨⟨_,rfl⟩,_,rfl,trivial,_,rfl,trivial,_,rfl,_,rfl,trivial,_,rfl,trivial,_,rfl,trivial,c,b+(0+(i:Int)),(us.map kD).length,rfl,by lia,by lia,by rw[Wj];lia,λr r0 r1=>?_⟩
  rw[Wj]at r1;obtain⟨m,rfl⟩:∃m:Nat,r=m:=⟨r.toNat,by lia⟩
  have hm:m<us.length:=by lia
  obtain⟨t,et⟩:∃t,us[m]?=some t:=⟨us[m],Wv hm⟩;obtain⟨a,e,rfl,a0,ae,en⟩:=tr t (m1 t (W_ et));refine⟨us.map kD,m,m,kD [a,e],rfl,rfl,by lia,by lia,by rw[Wj];exact HU rfl hm,by rw[WH,et];rfl,?_⟩
  have ee:(us.map kD).eraseIdx m=(us.eraseIdx m).map kD:=(jf us m).symm;rw[ee];have S1:(us.eraseIdx m).length=rows.length-(i+1):=by rw[List.length_eraseIdx,if_pos hm];lia
  have S0:∀u∈us.eraseIdx m,u∈rows:=λu hu=>m1 u (List.mem_of_mem_eraseIdx hu);have iQ:∀(x5 x6:Option Q.B),E1.nx [some (.val false (.int c)),some (.val false (.int b)),some (.val false (mQ n rows)),some (.own (.lst ((us.eraseIdx m).map kD))),some (.own (.lst (fs.map kD))),x5,x6]:=λx5 x6=>n2 _ ⟨us.eraseIdx m,fs,x5,x6,rfl,S1,by lia,S0,m2,pw⟩
  refine⟨_,rfl,_,rfl,trivial,?_⟩;refine iu (l:=fs) (f:=kD) (λ_=>true) (λu=>.bl (nN [a,e] u)) trivial (by rw[WY];lia) (λu hu x0 o J ho j1 j2=>?_) ?_
  ·obtain⟨x,y,rfl,Tq,xy,yn⟩:=tr u (m2 u hu);exact⟨rfl,_,rfl,trivial,_,rfl,trivial,a,e,x,y,rfl,trivial,ho,j1 rfl _⟩
  rw[X7.mpr λ_ _=>rfl];have ea:Br [.lst (fs.map λu=>D.bl (nN [a,e] u))]=some (.bl (fs.any λu=>nN [a,e] u)):=by
   have h:=p6 (fs.map λu=>nN [a,e] u);rw[W6,List.any_map]at h;exact h
  refine⟨trivial,_,ea,_,rfl,?_⟩;cases DX:(fs.any λu=>nN [a,e] u)with
  |true=>exact eJ rfl (iQ _ _)
  |false =>
   refine⟨_,rfl,trivial,_,rfl,trivial,_,rfl,trivial,_,rfl,trivial,_,gV (by decide),_,rfl,trivial,trivial,c,b+30+(0+(i:Int)) % 9,5,rfl,by lia,by lia,by decide,λr r0 r1=>⟨trivial,_,rfl,_,rfl,nX (λ_=>?_) (λ_=>iQ _ _)⟩⟩
   refine⟨⟨_,rfl⟩,_,rfl,Ed _,fs.map kD,rfl,by rw[Wj,WY];lia,?_⟩
   refine n2 _ ⟨us.eraseIdx m,fs++[[a,e]],_,_,by rw[kS];rfl,S1,by rw[WK];exact X0 l2,S0,λu hu=>(WO.mp hu).elim (m2 u) λz=>by rw[Wx.mp z];exact m1 _ (W_ et),?_⟩
   rw[List.pairwise_append];refine⟨pw,by simp,λu hu x hx=>?_⟩
   rw[Wx.mp hx];obtain⟨x,y,rfl,Tq,xy,yn⟩:=tr u (m2 u hu);have:=Yh.mp DX _ hu;exact(ug ae xy (Zj.mpr this)).symm
 ·rintro β ⟨us,fs,x5,x6,rfl,l1,l2,m1,m2,pw⟩;rw[dH]at l2;have hp:Pairs fs:=λu hu=>(tr u (m2 u hu)).pair;exact⟨_,rfl,trivial,_,ie hp.ne (by lia),.inl ⟨cS _,trivial,q _ ((AF hp).mpr ⟨m2,pw⟩) (by rw[(cq fs).length_eq];lia)⟩⟩
theorem b4:aU ["many","ties","signs","a","b"] ["many","ties"] (aw cu):=mkS
theorem Hn {xF ot} (FQ:RC K mg xF ot):a9 P w K mg base c6 1 xF ot ["many","ties"] (eG P w true A8):=by
 refine tw FQ.F b4 (λds R h=>by obtain⟨n,ts,e,_⟩:=h;subst e;rfl) λbW A outer s H E hr=>⟨_,(aj (dh (i:=2) (λ_=>(aN aP zF (bw (aa ar ag)) (af (i:=0)))) b4.nd)
    (aj (gf Yj rfl (bQ (af (i:=1))) (df (n:=2) rfl (aT (aI (i:=3) b4.nd) (aT (aI (i:=4) b4.nd) cz))) (aj (lN (i:=2) (λ_=>ar) (λ_=>(af (i:=3))))
    (ax (lN (i:=2) (λ_=>ar) (λ_=>(af (i:=4)))))))
    (ax (aY (CS (af (i:=2))))))),λds R h=>?_⟩
 obtain⟨n,ts,rfl,hn,ht,q⟩:=h;refine⟨trivial,JF,trivial,_,rfl,_,CL hn,.inl ⟨?_,?_⟩⟩
 ·exact jS (λ_=>rfl) _
 refine⟨trivial,_,rfl,_,rfl,trivial,?_⟩;refine uD (λi β=>i<=ts.length/\∃y3 y4:Option Q.B,β=[some (.val false (.int (n:Int))),some (.val false (.lst (ts.map kD))),some (.own (.lst ((vj (ts.take i).reverse n).map λc=>D.str (bb c)))),y3,y4]) ⟨WJ _,_,_,rfl⟩ (λE1 r1 i n1 d β hd hv=>?_) (λβ hv=>?_)
 ·obtain⟨_,y3,y4,rfl⟩:=hv;rw[WH]at hd;obtain⟨t,hx,rfl⟩:=WQ.mp hd;have hi:i<ts.length:=(WI.mp hx).1;obtain⟨a,b,rfl,a0,ab,bn⟩:=ht t (W_ hx);have e1:ts.take (i+1)=ts.take i++[[a,b]]:=by rw[Yt,hx];rfl
  refine⟨_,rfl,rfl,_,_,rfl,_,_,rfl,rfl,?_⟩;have Iy:((vj (ts.take i).reverse n).map λc=>D.str (bb c)).length=n:=by rw[Wj,oY]
  have es:(vj (ts.take (i+1)).reverse n).map (λc=>D.str (bb c))=(((vj (ts.take i).reverse n).map λc=>D.str (bb c)).set a.toNat (.str "(")).set b.toNat (.str ")"):=by
   rw[e1,Yx,List.reverse_singleton,List.singleton_append,MC,MB];exact(CC (us:=(ts.take i).reverse) (F:=λc=>D.str (bb c)) a0 ab bn).symm
  refine⟨trivial,⟨_,rfl⟩,_,rfl,_,a,a.toNat,rfl,rfl,HU (i:=a.toNat) (by lia) (by lia),?_⟩
  exact⟨trivial,⟨_,rfl⟩,_,rfl,_,b,b.toNat,rfl,rfl,HU (i:=b.toNat) (by lia) (by rw[List.length_set];lia),n1 _ ⟨hi,_,_,by rw[es];rfl⟩⟩
 ·obtain⟨_,y3,y4,rfl⟩:=hv;rw[Wj,YA];exact⟨_,rfl,_,rfl,by rw[oY];lia,trivial,q⟩
end
section
variable {P:Wq}{w:WC}{K:PySem.W.Frag}{mg:Str->Option Wg}{base:Heap}{c:Nat->Addr}
theorem j6:aU ["cell","row"] ["cell"] (aw fh):=mkS
theorem Dh {Ee vW} (JW:Tj K mg Ee vW) {I_ AV} (J0:RF K mg I_ AV) {xC oh} (FJ:RD K mg xC oh) {rZ ki} (Cd:NC K mg rZ ki) {xF ot} (FQ:RC K mg xF ot) {kL fL} (cF:D1 K mg kL fL) {jm d8} (pU:D0 K mg jm d8) (B:wA mg):a9 P w K mg base c6 4 Ee vW ["cell"] (eG P w true AW):=by
 have VJ:a9 P w K mg base c6 3 _ _ _ (eG P w true sf):=Hk J0 cF pU B.toBs;have VE:a9 P w K mg base c6 3 _ _ _ (eG P w true se):=Hi FJ Cd cF pU B;have qm:a9 P w K mg base c6 2 _ _ _ (eG P w true dW):=i8 cF pU;have VP:a9 P w K mg base c6 1 _ _ _ (eG P w true A8):=Hn FQ;refine tw JW.F j6 (λds R h=>by obtain⟨c,e,_⟩:=h;subst e;rfl) λbW A outer s H E hr=>⟨_,(aj (a6 (i:=1) (aJ sf.mono VJ (hr.mono (by decide)) J0.m J0.F.kp J0.b (aa (af (i:=0)) (aa ak (aa ak ag)))) j6.nd)
    (aj (bz (aH ai (bf.m (b_ hr.units)) (aJ dW.mono qm (hr.mono (by decide)) cF.m cF.F.kp cF.b (aa (af (i:=0)) (aa ak (aa ak ag)))) ak) (ax (aY (aJ A8.mono VP (hr.mono (by decide)) FQ.m FQ.F.kp FQ.b (aa (bo ai dk (af (i:=1)) ak) (aa (aJ se.mono VE (hr.mono (by decide)) FJ.m FJ.F.kp FJ.b (aa (af (i:=0)) (aa ak (aa (af (i:=1)) ag)))) ag))))) a5)
    (ax (aY (kc ai zT PySem.F.slot_str_join PySem.F.type_str_join ar (aa (aN aP aM (bw (aa (aN ai (bf.m gh) (bD ai (aX.m iD) B.str uX (aa (bo ai dk (af (i:=1)) ak) ag)) ar) ag)) (Fl false ["a","b"] [none,none] (by rfl) (by decide:(["a","b"]:List Str).Nodup) rfl (bQ (bo ai dk (af (i:=1)) ak)) (λ_ _ _ _ _ _=>(df (n:=2) rfl (aT (aI (i:=0) (by decide:(["a","b"]:List Str).Nodup)) (aT (aI (i:=1) (by decide:(["a","b"]:List Str).Nodup)) cz)))) (λ_ _ _ _ _ _=>dB) (λ_ _ _ _ _ _=>(aN ai (bf.m gh) (aN ai (bf.m gh) (bD ai (aX.m iD) B.str uX (aa (af (i:=0)) ag)) ar) (bD ai (aX.m iD) B.str uX (aa (af (i:=1)) ag)))))) ag)))))),λds R h=>?_⟩
 obtain⟨c,rfl,q⟩:=h;refine⟨_,rfl,trivial,trivial,trivial,c,0,9,rfl,by decide,by decide,by decide,by decide,λm rows m0 m9 hr hl=>?_⟩
 obtain⟨n,rfl⟩:∃n:Nat,m=(n:Int):=⟨m.toNat,by lia⟩
 refine⟨_,rfl,trivial,trivial,trivial,c,100,2,rfl,by decide,by decide,by decide,λr r0 r1=>⟨trivial,_,fz _ _,_,rfl,nX (λ_=>?_) λ_=>?_⟩⟩
 ·refine⟨_,rfl,trivial,_,rfl,trivial,_,rfl,trivial,trivial,_,rfl,trivial,c,110,(n:Int),rows,rfl,by decide,by decide,hr.1,by lia,λts hg lt=>⟨trivial,n,ts,rfl,by lia,λt h=>hr.1 t (hg.1 t h),trivial,q _ CF (by rw[oY];lia)⟩⟩
 have sm:=sY.of hr.1 (by lia)
 have VY:((":" : Str)).length=1:=by decide +kernel
 have VZ:(("-" : Str)).length=1:=by decide +kernel
 have ln:=eK (n:=n) (by lia)
 refine⟨trivial,⟨_,rfl⟩,_,rfl,trivial,_,rfl,trivial,_,oR (by lia),trivial,_,qc (by lia),trivial,JF,trivial,_,rfl,trivial,_,rfl,.inr ⟨_,rfl,trivial,ui (l:=rows) (f:=kD) (λ_=>true) (λt=>.str (tS (t.getD 0 0)++("-" : Str)++tS (t.getD 1 0))) trivial (nr (by lia)) (λt tm z0 z1 o J ho j1 _=>?_) ?_⟩⟩
 ·obtain⟨a,b,rfl,ab,We⟩:=sm t tm;have la:=eK (n:=a) (by lia)
  have lb:=eK (n:=b) (by lia)
  exact⟨_,rfl,rfl,_,_,rfl,_,_,rfl,rfl,_,rfl,trivial,_,oR (by lia),trivial,_,qc (by lia),trivial,_,rfl,trivial,_,oR (by lia),_,qc (by rw[ZP];lia),trivial,ho,j1 rfl _ _⟩
 have fs:D.bJ ([D.str (tS (n:Int)++(":" : Str))]++(rows.filter λ_=>true).map λt=>D.str (tS (t.getD 0 0)++("-" : Str)++tS (t.getD 1 0)))=true:=uF _;refine⟨_,cG (by rw[Wj,X7.mpr λ_ _=>rfl];show 1+_<=_;lia),.inl ⟨fs,trivial,_,Ab (by lia) sm (by lia),trivial,q _ (GD (by lia) sm) (by have:=GF n rows;lia)⟩⟩
end
section
variable {P:Wq}{w:WC}{K:PySem.W.Frag}{mg:Str->Option Wg}{base:Heap}{cA:Addr}{c:Nat->Addr}{tF tP:Tok}
theorem t6:aU ["script","cell","text"] ["script"] (aw lI):=mkS
def yD (K:PySem.W.Frag):Sp:=λvs H Q _=>∃(a:Addr) (ns:List Int),vs=[.ref a]/\eC K H a (ns.map V.int)/\ns.length<=63/\∀H',Q (.bl true) H'
def JL (β:Q.a_):Prop:=∃y0 y1 y2:Option Q.B,β=[y0,y1,y2]
theorem Hm {f:Addr} {fd:Xa} (F:BW K "law" "law" lI f fd) (B4:wA mg) (bV:mg "ValueError" = none) (ZA:XA K mg cA c) (x_:mg "FIGURES" = some (.str "0123456789" tF)) (AD:mg "POINT_FIGURES" = some (.int 3 tP)) {Ee vW} (JW:Tj K mg Ee vW) {I_ AV} (J0:RF K mg I_ AV) {xC oh} (FJ:RD K mg xC oh) {rZ ki} (Cd:NC K mg rZ ki) {xF ot} (FQ:RC K mg xF ot) {kL fL} (cF:D1 K mg kL fL) {jm d8} (pU:D0 K mg jm d8) {Eg vY} (JX:D2 K mg Eg vY) {Ef vX} (El:Tn K mg Ef vX) {xE oq} (FP:D3 K mg xE oq) {uG oi} (FK:RK K mg uG oi) {rY kh} (Cc:NG K mg rY kh) {mY g_} (pW:D9 K mg mY g_) {pO kg} (Cb:D8 K mg pO kg) {uH oj} (FL:RE K mg uH oj) {r_ km} (Ce:ND K mg r_ km) {Ej v7} (JZ:D6 K mg Ej v7) {r9 kl} (kq:D4 K mg r9 kl) {xD om} (Bg:D5 K mg xD om) {Ei vZ} (JY:D7 K mg Ei vZ):a9 P w K mg base c6 5 f fd ["script"] (yD K):=by
 have B:=B4.toBs2;have VB:a9 P w K mg base c6 4 _ _ _ (eG P w true AW):=Dh JW J0 FJ Cd FQ cF pU B4;have VD:a9 P w K mg base c6 3 _ _ _ (eG P w true AY):=Hh JX cF pU B4;have Tf:a9 P w K mg base c6 4 _ _ _ (eG P w false xG):=Dg El FP FK Cc pW Cb FL Ce x_ AD B4 bV ZA;have VI:a9 P w K mg base c6 2 _ _ _ (eG P w true AZ):=Hj JZ kq Bg B4;have VF:a9 P w K mg base c6 2 _ _ _ (eG P w true AX):=Hg JY kq B4;refine F.ok t6 (λvs H Q E h=>?_) (λbW A outer s H vs Qk E hr h=>?_)
 ·obtain⟨a,ns,rfl,_⟩:=h;rfl
 ·obtain⟨a,ns,rfl,hS,hlen,k⟩:=h;have V9:∀b:Addr,¬ (λ_=>False) b:=λb z=>z;obtain⟨ψ,hb,hψ⟩:∃ψ,Q.mJ (kM c6 P w K mg base _ "law" (aw lI) f bW A outer s H E).mS ⟨H,λ_=>False,true,λ_=>False⟩ (match (cP lI)with | .For _ _ b _ _::_=>b|_=>[]) ψ /\
    ∀(c:Int) (x0 x2:Option Q.B),ψ {nx:=JL,rt:=λd _=>d=.bl true,bk:=JL,ct:=JL} [x0,some (.val true (.int c)),x2]:=by
   refine⟨_,(aj (a6 (i:=2) (aJ AY.mono VD (hr.mono (by decide)) JX.m JX.F.kp JX.b (aa (aJ AW.mono VB (hr.mono (by decide)) JW.m JW.F.kp JW.b (aa (af (i:=1)) ag)) (aa (af (i:=1)) ag))) t6.nd)
    (ax (bz (mE.t (cy (aH ai (bf.m (cB hr.units)) (aJ xG.mono Tf (hr.mono (by decide)) El.m El.F.kp El.b (aa ak (aa (af (i:=2)) ag))) (aJ AZ.mono VI (hr.mono (by decide)) JZ.m JZ.F.kp JZ.b (aa (af (i:=2)) ag))) (cO (aH ai (bf.m (cB hr.units)) (aJ xG.mono Tf (hr.mono (by decide)) El.m El.F.kp El.b (aa ak (aa (af (i:=2)) ag))) (aJ AX.mono VF (hr.mono (by decide)) JY.m JY.F.kp JY.b (aa (af (i:=2)) ag)))))) (ax (aY ze)) a5))),λc x0 x2=>?_⟩
   refine⟨_,rfl,trivial,c,rfl,λcs asc hl=>?_⟩;refine⟨trivial,_,rfl,trivial,cs,c,rfl,asc,hl,λus ua ul=>?_⟩;have n1:sA (cY us) (cY us)=some (.bl false):=sy wJ;have n2:sA (d6 us) (d6 us)=some (.bl false):=sy tY;refine⟨trivial,_,rfl,trivial,0,us,rfl,ua,by lia,?_⟩
   rw[if_pos rfl];refine⟨trivial,_,rfl,trivial,us,rfl,ua,by lia,_,n1,_,rfl,eJ rfl ?_⟩
   refine⟨trivial,_,rfl,trivial,1,us,rfl,ua,by lia,?_⟩
   rw[if_neg (by decide)]
   exact⟨trivial,_,rfl,trivial,us,rfl,ua,by lia,_,n2,_,rfl,eJ rfl ⟨_,_,_,rfl⟩⟩
  refine⟨_,lJ (yX Yj rfl (vA (zq zI (zr (dj (zq zD ph ph) il)) (lM vg (pv 0) vx (vw ph)))) (Q.aI (C:=⟨H,λ_=>False,true,λ_=>False⟩) (i:=1) t6.nd).pg hb.ps) (o8 (t9 E8)),?_⟩;obtain⟨ms,em,hm⟩:=xK ns none (some 8);refine⟨_,_,rfl,rfl,KY,(by show 1<=WA;decide),λp1 LN=>⟨_,rfl,_,rfl,a,_,rfl,(ay.new LN).seq hS,λp2 JS=>?_⟩⟩
  have Uk:p1≠p2:=cb aE JS;refine⟨p1,p2,_,_,rfl,rfl,(by rw[aC Uk];exact aE),aE,(by rw[em,Wj,WY,Xn];lia),λl hl=>⟨l,rfl,⟨_,eC.of aE⟩,?_⟩⟩
  rw[em];rw[em]at hl;have sm:ay H (upd (upd (upd H p1 (.lst [V.int (10 ^ (18:Int).toNat)])) p2 (.lst (ms.map V.int))) l (.lst ([V.int (10 ^ (18:Int).toNat)]++ms.map V.int))):=((ay.new LN).trans (ay.new (by rw[em]at *;exact JS))).trans (ay.new hl)
  have nZ:(upd (upd (upd H p1 (.lst [V.int (10 ^ (18:Int).toNat)])) p2 (.lst (ms.map V.int))) l (.lst ([V.int (10 ^ (18:Int).toNat)]++ms.map V.int))) l=some (.lst (((10 ^ (18:Int).toNat)::ms).map V.int)):=aE;generalize (upd (upd (upd H p1 (.lst [V.int (10 ^ (18:Int).toNat)])) p2 (.lst (ms.map V.int))) l (.lst ([V.int (10 ^ (18:Int).toNat)]++ms.map V.int)))=H1 at sm nZ ⊢
  generalize ((10 ^ (18:Int).toNat)::ms)=cs at nZ;let X:Cx:=(kM c6 P w K mg base ["script","cell","text"] "law" (aw lI) f bW A outer s H E).mS
  let C:Q.Cfg:=⟨H,λ_=>False,true,λ_=>False⟩
  have it:Cg X (λ_=>False) (Nw K l) (cs.map D.int) H1:=rH nZ (λz=>z) (ck cs);have JO:=it (λb=>(λ_=>False) b\/H1 b=none) λb z=>z;have s':Q.b6 P w C.z (L2.start ["script","cell","text"] [.ref a]) H1 (Xb 3 none) (λ_=>[]):=Cu (by rfl) sm
  generalize U6:cs.map D.int=ds at JO;have hint:∀d∈ds,∃c:Int,d=.int c:=λd hd=>by
   rw[<- U6]at hd;obtain⟨c,_,rfl⟩:=WX.mp hd;exact⟨c,rfl⟩
  refine⟨λi m σ H'=>i<=ds.length/\m=ds.length-i/\∃β,Q.SB X C (H1,Q.Wn λ_=>[]) σ H' β/\JL β,⟨_,WJ _,rfl,_,⟨_,s',Sn.refl⟩,⟨_,_,_,rfl⟩⟩,?_⟩;rintro i m σ2 H2 ⟨hi,rfl,β2,⟨ba,s2,n2⟩,⟨y0,y1,y2,rfl⟩⟩;obtain⟨gk,HX⟩:=JO i H2 (n2.k.mono λb z=>z.imp (λP5=> by obtain⟨_,q⟩ := P5;exact(nomatch q)) id)
  by_cases gT:i<ds.length
  ·right
   have hd:ds[i]?=some ds[i]:=Wv gT;obtain⟨go,yl⟩:=gk _ hd;obtain⟨c,hc⟩:=hint ds[i] (YB gT);refine⟨go,λσ' H'=>∃β,Q.SB X C (H1,Q.Wn λ_=>[]) σ' H' β/\JL β,λσ' H' IA=> by obtain⟨β',wR,rK⟩ := IA;exact⟨_,by lia,gT,rfl,β',wR,rK⟩,λx H3 y=>?_⟩
   obtain⟨s3,r3⟩:=yl x H3 y;rw[hc]at r3;refine⟨ba,_,.int c,.own,s2.same s3,aD.flat rfl r3,λσ4 qY s4 w4 _=>?_⟩;exact⟨(H1,Q.Wn λ_=>[]),{nx:=JL,rt:=λd _=>d=.bl true,bk:=JL,ct:=JL},_,⟨qY,s4,Q.iS (n2.same s3) w4⟩,hψ c y0 y2,⟨λσ5 H5 β5 wQ q5=>⟨β5,wQ,q5⟩,λσ5 H5 β5 d5 v5 wQ r5 q5=>by
    subst q5;cases (show v5=V.bl true from Kw r5)
    exact k _,λσ5 H5 β5 wQ q5=>k _,λσ5 H5 β5 wQ q5=>⟨β5,wQ,q5⟩⟩⟩
  ·left
   have e:i=ds.length:=by lia
   subst e;exact⟨HX (Wl _),k _⟩
end
theorem ix {α:Type}{P:List α->Prop}(h:∀a,P [a]):∀us:List α,us.length=1->P us:=λus e=>by
 obtain⟨a,rfl⟩:=List.length_eq_one_iff.mp e;exact h a
theorem rD {α:Type}{P:List α->Prop}(h:∀a b,P [a,b]):∀us:List α,us.length=2->P us:=λus e=>by
 cases us with
 |nil=>cases e
 |cons a us=>exact ix (P:=λus=>P (a::us)) (h a) us (Nat.succ.inj e)
theorem HC {α:Type}{P:List α->Prop}(h:∀a b c,P [a,b,c]):∀us:List α,us.length=3->P us:=λus e=>by
 cases us with
 |nil=>cases e
 |cons a us=>exact rD (P:=λus=>P (a::us)) (h a) us (Nat.succ.inj e)
theorem AK {K:PySem.W.Frag}{x m:Str}{st:Stmt}{t c f:Nat}(l:K.lookup f=some (kF st x m t c))(cd:PySem.W.codeIn K (.ref c) x=true)(k:PySem.W.keepIn K (.ref f)=true):BW K x x st f (M5 st x m t c):=IY l cd k
theorem cm {K:PySem.W.Frag}{h:Heap}{mg:Str->Option Wg}{x m:Str}{st:Stmt}{t c f:Nat}{ps:List Str}(X:K.In h)(G:h.Ns Yp mg)(l:K.lookup f=some (kF st x m t c))(cd:PySem.W.codeIn K (.ref c) x=true)(k:PySem.W.keepIn K (.ref f)=true)
  (a:PySem.W.nsIn K Yp x=some (some (.ref f))) (b:∀us:List Wg,us.length=ps.length->bindArgs (M5 st x m t c) ⟨us,[]⟩=pure (ps.zip us)):Df K mg x st ps f (M5 st x m t c):=⟨AK l cd k,.all b,PySem.W.mg_of X G a⟩
abbrev cX (i:Nat):Addr:=[37,49,61,73,85,97,109,121,133,145,157,169].getD i 0
theorem all_mk {l:PySem.W.OpenLaw} (w:WC) (mg:Str->Option Wg) (fa:Addr) (h:Heap) (X:(KK w.params).In h) (G:h.Ns Yp mg) (U5:mg "law" = some (.ref fa))   :∃fd:Xa,(∀(s:Wi) (v:Wg),BindsTo s fd ⟨[v],[]⟩ [("script",v)])/\∀base:Heap,(KK w.params).In base->base.Ns Yp mg->a9 l.prog w (KK w.params) mg base c6 5 fa fd ["script"] (yD (KK w.params)):=by
 have e:=U5.symm.trans (PySem.W.mg_of X G (v:=.ref 309) (by kernel_rfl))
 cases e;have Lq:=PySem.W.mg_none_of X G (n:="max") (by kernel_rfl)
 have Lp:=PySem.W.mg_none_of X G (n:="min") (by kernel_rfl)
 have Ls:=PySem.W.mg_none_of X G (n:="int") (by kernel_rfl)
 have DB:=PySem.W.mg_none_of X G (n:="range") (by kernel_rfl)
 have zQ:=PySem.W.mg_none_of X G (n:="sorted") (by kernel_rfl)
 have Lo:=PySem.W.mg_none_of X G (n:="set") (by kernel_rfl)
 have Lr:=PySem.W.mg_none_of X G (n:="len") (by kernel_rfl)
 have Hu:=PySem.W.mg_none_of X G (n:="list") (by kernel_rfl)
 have pG:=PySem.W.mg_none_of X G (n:="isinstance") (by kernel_rfl)
 have DA:=PySem.W.mg_none_of X G (n:="tuple") (by kernel_rfl)
 have Ln:=PySem.W.mg_none_of X G (n:="str") (by kernel_rfl)
 have Hv:=PySem.W.mg_none_of X G (n:="bool") (by kernel_rfl)
 have Ll:=PySem.W.mg_none_of X G (n:="zip") (by kernel_rfl)
 have rf:=PySem.W.mg_none_of X G (n:="enumerate") (by kernel_rfl)
 have Lm:=PySem.W.mg_none_of X G (n:="sum") (by kernel_rfl)
 have Lu:=PySem.W.mg_none_of X G (n:="any") (by kernel_rfl)
 have pH:=PySem.W.mg_none_of X G (n:="ValueError") (by kernel_rfl)
 have B:=(⟨(⟨⟨⟨Lq,Lp,Ls,DB,zQ,Lo,Lr,Hu⟩,pG,DA,Ln,Hv,Ll,rf⟩,Lm⟩:Bs3 mg),Lu⟩:wA mg);have ZA:XA (KK w.params) mg 24 cX:=J7 (by kernel_rfl) (PySem.W.mg_of X G (v:=.ref 24) (by kernel_rfl)) λi x h=>by
  match i,h with
  |0,h=>cases h;exact PySem.W.mg_of X G (v:=.ref 37) (by kernel_rfl)
  |1,h=>cases h;exact PySem.W.mg_of X G (v:=.ref 49) (by kernel_rfl)
  |2,h=>cases h;exact PySem.W.mg_of X G (v:=.ref 61) (by kernel_rfl)
  |3,h=>cases h;exact PySem.W.mg_of X G (v:=.ref 73) (by kernel_rfl)
  |4,h=>cases h;exact PySem.W.mg_of X G (v:=.ref 85) (by kernel_rfl)
  |5,h=>cases h;exact PySem.W.mg_of X G (v:=.ref 97) (by kernel_rfl)
  |6,h=>cases h;exact PySem.W.mg_of X G (v:=.ref 109) (by kernel_rfl)
  |7,h=>cases h;exact PySem.W.mg_of X G (v:=.ref 121) (by kernel_rfl)
  |8,h=>cases h;exact PySem.W.mg_of X G (v:=.ref 133) (by kernel_rfl)
  |9,h=>cases h;exact PySem.W.mg_of X G (v:=.ref 145) (by kernel_rfl)
  |10,h=>cases h;exact PySem.W.mg_of X G (v:=.ref 157) (by kernel_rfl)
  |11,h=>cases h;exact PySem.W.mg_of X G (v:=.ref 169) (by kernel_rfl)
  |n+12,h=>cases h
 have x_:=PySem.W.mg_of X G (n:="FIGURES") (v:=.str "0123456789" 409) (by kernel_rfl)
 have AD:=PySem.W.mg_of X G (n:="POINT_FIGURES") (v:=.int 3 411) (by kernel_rfl)
 exact⟨_,λs v=>.of_eq rfl,λbase _ _=>Hm (AK (x:="law") (m:="law_archrow_k47_texts_of_none") (st:=lI) (t:=456) (c:=308) (f:=309) (by kernel_rfl) (by kernel_rfl) (by kernel_rfl)) B pH ZA x_ AD (cm X G (x:="_law_text") (m:="law_archrow_k47_texts_of_none") (st:=fh) (t:=456) (c:=294) (f:=295) (ps:=["cell"]) (by kernel_rfl) (by kernel_rfl) (by kernel_rfl) (by kernel_rfl) (ix λ_=>rfl))
  (cm X G (x:="_law_row") (m:="law_archrow_k47_texts_of_none") (st:=gF) (t:=456) (c:=234) (f:=235) (ps:=["cell","begin","most"]) (by kernel_rfl) (by kernel_rfl) (by kernel_rfl) (by kernel_rfl) (HC λ_ _ _=>rfl))
  (cm X G (x:="_law_set") (m:="law_archrow_k47_texts_of_none") (st:=gE) (t:=456) (c:=246) (f:=247) (ps:=["cell","begin","row"]) (by kernel_rfl) (by kernel_rfl) (by kernel_rfl) (by kernel_rfl) (HC λ_ _ _=>rfl))
  (cm X G (x:="_law_meet") (m:="law_archrow_k47_texts_of_none") (st:=fm) (t:=456) (c:=241) (f:=242) (ps:=["one","other"]) (by kernel_rfl) (by kernel_rfl) (by kernel_rfl) (by kernel_rfl) (rD λ_ _=>rfl))
  (cm X G (x:="_law_brackets") (m:="law_archrow_k47_texts_of_none") (st:=cu) (t:=456) (c:=253) (f:=254) (ps:=["many","ties"]) (by kernel_rfl) (by kernel_rfl) (by kernel_rfl) (by kernel_rfl) (rD λ_ _=>rfl))
  (cm X G (x:="_law_digit") (m:="law_archrow_k47_texts_of_none") (st:=d3) (t:=456) (c:=227) (f:=228) (ps:=["cell","k","many"]) (by kernel_rfl) (by kernel_rfl) (by kernel_rfl) (by kernel_rfl) (HC λ_ _ _=>rfl))
  (cm X G (x:="_law_stir") (m:="law_archrow_k47_texts_of_none") (st:=fk) (t:=456) (c:=220) (f:=221) (ps:=["cell","k"]) (by kernel_rfl) (by kernel_rfl) (by kernel_rfl) (by kernel_rfl) (rD λ_ _=>rfl))
  (cm X G (x:="_law_spoilt") (m:="law_archrow_k47_texts_of_none") (st:=dc) (t:=456) (c:=301) (f:=302) (ps:=["text","cell"]) (by kernel_rfl) (by kernel_rfl) (by kernel_rfl) (by kernel_rfl) (rD λ_ _=>rfl))
  (cm X G (x:="_law_told") (m:="law_archrow_k47_texts_of_none") (st:=fg) (t:=456) (c:=289) (f:=290) (ps:=["kind","text"]) (by kernel_rfl) (by kernel_rfl) (by kernel_rfl) (by kernel_rfl) (rD λ_ _=>rfl))
  (cm X G (x:="_law_class") (m:="law_archrow_k47_texts_of_none") (st:=d4) (t:=456) (c:=260) (f:=261) (ps:=["e"]) (by kernel_rfl) (by kernel_rfl) (by kernel_rfl) (by kernel_rfl) (ix λ_=>rfl))
  (cm X G (x:="read_row") (m:="archrow.texts") (st:=dG) (t:=407) (c:=187) (f:=188) (ps:=["text"]) (by kernel_rfl) (by kernel_rfl) (by kernel_rfl) (by kernel_rfl) (ix λ_=>rfl))
  (cm X G (x:="pair_in") (m:="archrow.texts") (st:=gD) (t:=407) (c:=201) (f:=202) (ps:=["text"]) (by kernel_rfl) (by kernel_rfl) (by kernel_rfl) (by kernel_rfl) (ix λ_=>rfl))
  (cm X G (x:="number_in") (m:="archrow.texts") (st:=dZ) (t:=407) (c:=206) (f:=207) (ps:=["text","longest"]) (by kernel_rfl) (by kernel_rfl) (by kernel_rfl) (by kernel_rfl) (rD λ_ _=>rfl))
  (cm X G (x:="row_of") (m:="archrow.arcs") (st:=fU) (t:=399) (c:=175) (f:=176) (ps:=["many","ties"]) (by kernel_rfl) (by kernel_rfl) (by kernel_rfl) (by kernel_rfl) (rD λ_ _=>rfl))
  (cm X G (x:="read_brackets") (m:="archrow.texts") (st:=bH) (t:=407) (c:=182) (f:=183) (ps:=["text"]) (by kernel_rfl) (by kernel_rfl) (by kernel_rfl) (by kernel_rfl) (ix λ_=>rfl))
  (cm X G (x:="arcs_in") (m:="archrow.texts") (st:=gH) (t:=407) (c:=194) (f:=195) (ps:=["text"]) (by kernel_rfl) (by kernel_rfl) (by kernel_rfl) (by kernel_rfl) (ix λ_=>rfl))
  (cm X G (x:="_law_row_due") (m:="law_archrow_k47_texts_of_none") (st:=cN) (t:=456) (c:=275) (f:=276) (ps:=["text"]) (by kernel_rfl) (by kernel_rfl) (by kernel_rfl) (by kernel_rfl) (ix λ_=>rfl))
  (cm X G (x:="_law_due") (m:="law_archrow_k47_texts_of_none") (st:=gG) (t:=456) (c:=265) (f:=266) (ps:=["word"]) (by kernel_rfl) (by kernel_rfl) (by kernel_rfl) (by kernel_rfl) (ix λ_=>rfl))
  (cm X G (x:="_law_number") (m:="law_archrow_k47_texts_of_none") (st:=de) (t:=456) (c:=270) (f:=271) (ps:=["word"]) (by kernel_rfl) (by kernel_rfl) (by kernel_rfl) (by kernel_rfl) (ix λ_=>rfl))
  (cm X G (x:="_law_set_due") (m:="law_archrow_k47_texts_of_none") (st:=cM) (t:=456) (c:=282) (f:=283) (ps:=["text"]) (by kernel_rfl) (by kernel_rfl) (by kernel_rfl) (by kernel_rfl) (ix λ_=>rfl))⟩
end oM
abbrev PySem.W.Fast.tw17121103586353507679:PySem.Program:=PySem.Challenge.pw_archrow_k47_texts_of_none
theorem PySem.W.Fast.te17121103586353507679:PySem.Challenge.pw_archrow_k47_texts_of_none=PySem.W.Fast.tw17121103586353507679:=rfl
open PySem PySem.W PyProof.Rows
set_option maxRecDepth 100000 in
set_option maxHeartbeats 0 in
theorem PySem.Challenge.cw_archrow_k47_texts_of_none_holds : PySem.Challenge.rw_archrow_k47_texts_of_none.Holds := by
 w_on;o_law
 refine holds_open (q:=oM.view) (loose:=[]) (Xt:=λs=>xlAt oM.view [] s&&recOk (RowW.records PySem.Challenge.rw_archrow_k47_texts_of_none.row.toRowW) s) (XP:=XL oM.view []) (Yf:=oM.HK.obs) (Ya:=oM.HK.val) (YP:=λw h=>(oM.KK w.params).In h) (N:=7034) oM.left oM.HK.of oM.HK.keeps (λs e=>xl_of s (YW.mp e).1) XL.keeps (by rfl) (by rfl) (by rfl) (λs e=>recFacts_of (YW.mp e).2) (by rfl) (by first|assumption|decide +kernel) (by decide +kernel) ⟨rfl,rfl,rfl,rfl,rfl,by decide +kernel⟩ ?hw ?hc
 (case hw=>w_witness2)
 case hc =>
  exact L2.Cq (l:=PySem.Challenge.rw_archrow_k47_texts_of_none) (K:=oM.KK) (n:=63) (k:=5) (x:="script") (CX:=λ_=>L2.c6) (sp:=λw=>oM.yD (oM.KK w.params)) rfl (by decide) rfl ⟨rfl,by decide,by decide⟩ (λw h Y=>Y) oM.all_mk (λ_ _ a ns hl _ hS=>⟨a,ns,rfl,hS,hl,λ_=>rfl⟩) λ_ _ _ _ _ z=>z
#print axioms PySem.Challenge.cw_archrow_k47_texts_of_none_holds
