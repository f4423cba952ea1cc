import PyProof.Rows.All
import Wide.All
import OpenK.AllK
import Wide.FinOn
import OpenK.KLine
import Lean
import PyProof.EqAt
import PyProof.EqKinds
import PyProof.TupleCall
import PyProof.Rows.SortShell
import PyProof.Rows.SortWalk
import PyProof.CompFree
import PyProof.Rows.SortRuns
import PyProof.EqLayable
import PyProof.NeData
import PyProof.P3In
import PyProof.ZipIter
import PyProof.EnumMake
import PyProof.EnumFor
import PyProof.Rows.Range3
import PyProof.AttrMissSeq
import KE.KDictOf
import KE.IntBitsLaws
import PyProof.ListNew
import PyProof.Rows.SeqMore
import PyProof.ConsumeWalk
import PySem.Challenge.RW_archrow_k31_best_kinds
set_option Elab.async false
set_option linter.all false
set_option maxRecDepth 100000
set_option maxHeartbeats 4000000
set_option compiler.extract_closed false
open PySem renaming wpAny_bind->XM,Value->XO,Shared->XQ,wpAny_pure->XT,Program->XX,starEach->X2,sizeLine->X3,World->X6,wpAny->Ye,foldedSetIterable->Yp,FuncData->YB,bootBuiltins->YG,compareOp->YS,wpAny_holding->YU,Around->YX,sizeLine_eq->Y1,hashInt->Y2,wpAny_newObj_type->Y8,wpAny_call_entry->Za,wpAny_setState_of->Zc,swapsWith->Zj,wpAny_field->Zl,wpAny_callSpecial?_slot->Zm,wpAny_truthy_bool->Zo,wpAny_setField_rec->Zu,wpAny_standAt->Zw,mainGlobals->Zy,backTo->ZA,wpAny_seqItems->ZD,Scope->ZE,sysModules->ZM,Comprehension->ZN,binaryOp->ZR,NameKind->ZS,IsPair->ZU,sliceBounds->ZW,assignEach->ZX,Builtin->ZZ,wpAny_passesOwn->Z1,behindInMarks->Z2,attributeBase->Z3,cLine->Z7,codeAny_mono->aac,arm_evalThenUse_ListComp->aag,codeAny_builtin->aai,wpAny_Call_Name_kw->aaj,wpAny_storeSet_of->aan,wpAny_isInstance->aas,wpAny_askSetting->aat,tupleKind->aau,pyNext->aav,codeAny->aax,CmpOp->aaz,intKind->aaE,wpAny_rule->aaI,isSubtype_type->aaJ,standAt->aaO,slot_list_getitem->aaP,evalThenUse->aaQ,Keyword->aaV,wpAny_getItem_list_slice->aaW,wpAny_comprehension_free->aaX,cellsFrom->aa2,IsZip->aa3
open List renaming length_map->XN,mem_cons->XU,mem_singleton->XW,getElem?_eq_getElem->XY,mem_append->XZ,getElem?_eq_some_iff->X0,map_append->X1,map_cons->X4,getElem?_map->X5,range->X7,size_toArray->Yb,mem_cons_of_mem->Yd,length_append->Yg,nodup_cons->Yj,mem_map->Yl,mem_filter->Ym,mem_append_right->Yn,mem_append_left->Yq,mem_cons_self->Yr,length_cons->Yt,length_range->Yx,length_take->Yy,nodup_nil->YA,not_mem_nil->YC,length_filter_le->YD,getD_eq_getElem?_getD->YE,find?_cons->YF,mem_range->YH,mem_of_getElem?->YJ,nodup_append->YK,lookup_cons->YL,take_add_one->YO,getElem?_eq_none->YQ,filterMap_cons->YV,replicate->YY,zip_cons_cons->YZ,getElem?_range->Y3,getElem_mem->Y7,pairwise_cons->Y9,map_map->Y_,filter_cons->Zb,take_of_length_le->Zf,all_eq_true->Zg,drop_eq_getElem_cons->Zi,map_congr_left->Zr,foldl_cons->Zt,take_length->Zv,getElem?_set->Zz,filter_append->ZF,getElem?_append_left->ZH,append_nil->ZJ,append_assoc->ZL,mem_map_of_mem->ZP,flatMap_append->ZQ,getElem?_cons_succ->ZT,set_set->ZY,ext_getElem?->Z6,getElem?_append_right->Z_,length_eq_zero_iff->aam,length_drop->aaw,any_cons->aay,range_succ->aaB,length_reverse->aaD,mem_filterMap->aaL,reverse_cons->aaU,getElem?_take_of_lt->aaZ
open PySem.Heap renaming get?_push_of_some->XR,lt_size->X8,get?_push_size->X_,SameBut->Zh,size_push->ZG
open Nat renaming le_refl->XS,zero_le->Yh,ne_of_lt->Yk,lt_of_lt_of_le->Yo,le_trans->Yz,lt_of_le_of_lt->Zd,lt_or_ge->Zx,lt_irrefl->Z4,pow_le_pow_right->Z9,le_add_right->aad,min_le_left->aaA,zero_add->aaF,ne_of_gt->aaG,lt_trans->aaH,mod_lt->aaK,lt_trichotomy->aaS,lt_succ_of_lt->aaT
open Option renaming map_eq_some_iff->X9,bind_eq_some_iff->YT,bind_some->Zn,map_some->ZI,isNone_iff_eq_none->aaM
open Array renaming length_toList->Yc,getD_eq_getD_getElem?->Ys,getElem?_toList->YR,getElem?_eq_none->Z0
open Decidable renaming by_contra->Yi
open Bool renaming and_eq_true->Yu,false_ne_true->aak,or_eq_true->aaC
open Option.some renaming inj->Yv,injEq->aaR
open PySem.NameKind renaming free->Yw,cell->YN
open PySem.SeqAt renaming canLay_of_shaped->YI
open PySem.Builtin.SmallTypes renaming nextOf->YM,ownedTupleIsFree->ZC
open Ne renaming symm->YW
open PyProof.Rows renaming callWith_type1->Y0,IntsAre->aaq,slot_tuple_getitem->aar
open PySem.PassesOwn renaming never->Y4
open PySem.PyData renaming eqv->Y5,canLay0->Y6,depthAll->Ze,depth->ZK,canLayAll0->Z5,eqvAll->aaY
open True renaming intro->Zk
open Int renaming toNat_natCast->Zq
open PySem.Heap.SameBut renaming update->Zs
open Sum renaming inl->ZO
open PySem.Builtin.Range renaming rangeSize->ZV
open PySem.Value renaming isInt->Z8
open False renaming elim->aaa
open PySem.Around renaming under_plainId->aab
open Classical renaming byContradiction->aae
open PySem.Builtin.Slice renaming slicePlaces->aaf,sliceAdjust->aaN
open PySem.Builtin.Tuple renaming tupleExact->aah
open PySem.W renaming boot_heap->aal
open PySem.Str renaming ofString->aao
open Nat.succ renaming inj->aap
open PySem.Code renaming compLoop->aa0
open PySem.Builtin.List renaming listTooLong->aa1
noncomputable section
namespace L2
open PySem PySem.Spec PyProof.Rows
def l9 (s:Stmt):Arguments:=match s with
 |.FunctionDef _ a _ _ _ _ _ _ _ _=>a
 |_=>{posonlyargs:=[],args:=[],vararg:=none,kwonlyargs:=[],kw_defaults:=[],kwarg:=none,defaults:=[]}
def fC (s:Stmt):List Stmt:=match s with
 |.FunctionDef _ _ b _ _ _ _ _ _ _=>b
 |_=>[]
def ay (s:Stmt):ZE:=match s with
 |.FunctionDef _ _ _ _ _ _ sc _ _ _=>sc
 |_=>{kind:=.function,names:=[],isGenerator:=false,isCoroutine:=false}
end L2
namespace L2.Hd
open PySem PySem.W PySem.Spec PyProof.Rows
noncomputable def jC (tb:String->Option ZZ)(p:XX)(w:X6)(n₀:Nat)(ann:Option XO):Nat->SharedT->Thread->Option SharedT
 |0,_,_=>none
 |n+1,s,t=>match through t with
  |true=>some s
  |false=>match stepOk n₀ ann t with
   |false=>none
   |true=>match stepT (denote tb) p w s t with
    |some (s',t')=>jC tb p w n₀ ann n s' t'
    |none=>none
theorem mw {tb:String->Option ZZ}{p:XX}{w:X6}{n₀:Nat}{ann:Option XO}:∀{n:Nat} {s s':SharedT} {t:Thread},jC tb p w n₀ ann n s t=some s'->topRun tb p w n₀ ann n s.abs t=some s'.abs
 |0,_,_,_,g=>by cases g
 |n+1,s,s',t,g=>by
  unfold jC at g;unfold topRun;cases ht:through t with
  |true=>rw[ht]at g;cases g;rfl
  |false =>
   rw[ht]at g;cases hk:stepOk n₀ ann t with
   |false=>rw[hk]at g;cases g
   |true =>
    rw[hk]at g;cases hq:stepT (denote tb) p w s t with
    |none=>rw[hq]at g;cases g
    |some r=>obtain⟨s₂,t₂⟩:=r;rw[hq]at g;dsimp only;rw[stepT_spec hq];exact mw g
noncomputable def Pg (P:Params):BT:=((aal P).objs.toList.foldl (λ(x:BT×Nat) o=>(x.1.ins x.2 o,x.2+1)) (.nil,0)).1
noncomputable def Ew (w:X6)(os:OsState):SharedT:=⟨Pg w.params,11,(aal w.params).life,Array.mk [],boot_drawn,boot_toks,os⟩
theorem boot_abs (w:X6)(os:OsState):(Ew w os).abs=⟨aal w.params,Array.mk [],boot_drawn,boot_toks,os⟩:=by kernel_rfl
theorem Hl (P:Params):((aal P).isNs Zy&&((Array.mk []:Array GenState).size==0))=true:=by kernel_rfl
theorem Ar (P:Params):(aal P).objs.size=11:=by kernel_rfl
theorem Eu (P:Params):(aal P).nsMap Zy "__annotations__" = some (.ref 6):=by kernel_rfl
def ends (p:XX)(h0:Heap)(s₁:XQ):Option XQ:=match staticsOk (importedModules p.main.body) h0 s₁.heap&&namesBound p s₁.heap&&gensDone s₁&&laidKept h0 s₁.heap with
 |true=>some s₁
 |false=>none
theorem zJ {p q:XX}{loose:List Str}{Xt:XQ->Bool}{α:Type}{Yf:XQ->α}{Ya:X6->α}{N:Nat}{g0:Bool}
  (g1:opening p=plainProg p.main.scope.names) (g2:Nat.ble 600 N=true) (g3:∀s,fenceModules? p s=some s)
  (g4:∀(w:X6) (os:OsState),((jC treeTable p w 11 (some (.ref 6)) N (Ew w os) (topStub p)).bind λs₁=>ends p (aal w.params) s₁.abs).map (λs=>(openSeen q loose (importedModules p.main.body) Xt g0 s,Yf s))=some (openGood q loose,Ya w)) :
  LeftO p q loose Xt Yf Ya N g0:=λw=>by
 obtain⟨⟨hp,gs,dr,tk,os⟩,e,v⟩:=X9.mp (boot_open (N:=N) g1 g2 g3 w);obtain⟨v1,v⟩:=Prod.mk.inj v;obtain⟨v2,v⟩:=Prod.mk.inj v;obtain⟨v3,v4⟩:=Prod.mk.inj v;dsimp only at v1 v2 v3 v4;subst v1 v2 v3 v4;have g:=g4 w os;unfold openEnds;rw[e];show (topFrom treeTable p w N _).map _=_;have t:topFrom treeTable p w N ⟨aal w.params,Array.mk [],boot_drawn,boot_toks,os⟩=(topRun treeTable p w 11 (some (.ref 6)) N ⟨aal w.params,Array.mk [],boot_drawn,boot_toks,os⟩ (topStub p)).bind (ends p (aal w.params)):=by
  unfold topFrom;rw[Hl];dsimp only;rw[Ar,Eu];rfl
 rw[t];cases hT:jC treeTable p w 11 (some (.ref 6)) N (Ew w os) (topStub p)with
 |none=>rw[hT]at g;cases g
 |some s₁ =>
  have r:=mw hT;rw[boot_abs]at r;rw[hT]at g;rw[r];exact g
end L2.Hd
namespace oz
open PySem L2
def top (i:Nat):Stmt:=PySem.Challenge.pw_archrow_k31_best_kinds.main.body.getD i (.Pass ⟨0,0,0,0⟩)
abbrev d7:Stmt:=top 6
abbrev cD:Stmt:=top 7
abbrev d3:Stmt:=top 8
abbrev bP:Stmt:=top 10
abbrev dh:Stmt:=top 11
abbrev d4:Stmt:=top 12
abbrev cm:Stmt:=top 13
abbrev dj:Stmt:=top 14
abbrev cR:Stmt:=top 15
abbrev cS:Stmt:=top 16
abbrev cn:Stmt:=top 17
abbrev fk:Stmt:=top 19
abbrev ie:Stmt:=top 20
abbrev f_:Stmt:=top 21
abbrev gb:Stmt:=top 22
abbrev cP:Stmt:=top 24
abbrev d6:Stmt:=top 25
abbrev fq:Stmt:=top 26
abbrev bQ:Stmt:=top 27
abbrev cQ:Stmt:=top 28
abbrev dk:Stmt:=top 29
abbrev fS:Stmt:=top 31
abbrev eM:Stmt:=top 32
abbrev fo:Stmt:=top 33
abbrev fm:Stmt:=top 34
abbrev ij:Stmt:=top 35
abbrev gc:Stmt:=top 36
abbrev gf:Stmt:=top 37
abbrev gg:Stmt:=top 38
abbrev ik:Stmt:=top 39
abbrev mH:Stmt:=top 40
noncomputable abbrev vS (x:Str)(t:Nat):XO:=.str x t
noncomputable abbrev kE (P:Params)(x:Str)(t:Nat)(v:XO):DictEntry:=⟨PyData.keyHash P x,.str x t,v⟩
noncomputable abbrev kC (n:Str)(t l p r8 V4 VI:Nat)(Vh Vg Vf:XO)(VH V3 Vs:Nat):Obj:={cls:=.type "code",data:=.fields #[vS n t,vS n (t+1),vS "/claim/cut.py" (t+2),.int l 0,.int p 0,.int 0 0,.int 0 0,.int 3 0,.ref r8,.bool true,.int V4 0,.ref VI,Vh,Vg,Vf,.ref VH,.int V3 0,.int l 0,vS "/claim/cut.py" Vs]}
noncomputable abbrev Qb (st:Stmt)(x m:Str)(t c:Nat):YB:=PySem.W.fnOf x x (l9 st) (fC st) (ay st) .none .none .none (vS m t) none (.ref c) .none
noncomputable abbrev kF (st:Stmt)(x m:Str)(t c:Nat):Obj:={cls:=.type "function",data:=.func (Qb st x m t c)}
noncomputable def KK:Params->PySem.W.Frag:=λP=>[(3,{cls:=.type "dict",data:=.dict #[kE P "__name__" 165 (vS "law_archrow_k31_best_kinds" 430),kE P "__doc__" 166 .none,kE P "__package__" 167 .none,kE P "__loader__" 168 (.builtin "__main__.__loader__#opaque"),kE P "__spec__" 169 .none,kE P "__annotations__" 170 (.ref 6),kE P "__builtins__" 171 (.ref 4),kE P "__file__" 173 (vS "/claim/cut.py" 172),kE P "__cached__" 174 .none,kE P "ArchError" 206 (.ref 24),kE P "NoStretch" 222 (.ref 37),kE P "NoGap" 238 (.ref 49),kE P "NoPlace" 254 (.ref 61),kE P "arcs_cross" 268 (.ref 70),kE P "share_a_point" 276 (.ref 77),kE P "row_beside" 282 (.ref 82),kE P "stretches_rising" 290 (.ref 87),kE P "partners_of" 296 (.ref 92),kE P "parts_left" 305 (.ref 99),kE P "greatest_table" 311 (.ref 104),kE P "number_with" 322 (.ref 111),kE P "least_number" 328 (.ref 116),kE P "best_choices" 334 (.ref 121),kE P "first_greatest" 351 (.ref 128),kE P "most_ties" 360 (.ref 135),kE P "most_of" 370 (.ref 142),kE P "table_of" 377 (.ref 149),kE P "one_each" 383 (.ref 154),kE P "row_of_kinds" 391 (.ref 159),kE P "best_kinds" 397 (.ref 164),kE P "check_gap" 404 (.ref 171),kE P "pairs_either_way" 414 (.ref 178),kE P "most_without" 420 (.ref 183),kE P "most_beside" 429 (.ref 190),kE P "_law_pot" 438 (.ref 197),kE P "_law_take" 448 (.ref 204),kE P "_law_kinds" 454 (.ref 209),kE P "_law_pairs" 465 (.ref 216),kE P "_law_gap" 472 (.ref 223),kE P "_law_ties" 478 (.ref 228),kE P "_law_size" 484 (.ref 233),kE P "_law_same" 490 (.ref 238),kE P "_law_due" 496 (.ref 243),kE P "law" 515 (.ref 250)] 44}),
 (69,kC "arcs_cross" 257 11 2 64 181 65 .none (.ref 66) (.ref 67) 68 266 267),
 (70,kF d7 "arcs_cross" "archrow.arcs" 255 69),
 (76,kC "share_a_point" 269 15 2 71 181 72 .none (.ref 73) (.ref 74) 75 274 275),
 (77,kF cD "share_a_point" "archrow.arcs" 255 76),
 (81,kC "row_beside" 277 17 2 78 181 79 .none .none .none 80 280 281),
 (82,kF d3 "row_beside" "archrow.arcs" 255 81),
 (86,kC "stretches_rising" 285 21 1 83 181 84 .none .none .none 85 288 289),
 (87,kF bP "stretches_rising" "archrow.stretches" 283 86),
 (91,kC "partners_of" 291 23 1 88 181 89 .none .none .none 90 294 295),
 (92,kF dh "partners_of" "archrow.stretches" 283 91),
 (98,kC "parts_left" 297 29 3 93 181 94 .none (.ref 95) (.ref 96) 97 303 304),
 (99,kF d4 "parts_left" "archrow.stretches" 283 98),
 (103,kC "greatest_table" 306 33 2 100 181 101 .none .none .none 102 309 310),
 (104,kF cm "greatest_table" "archrow.stretches" 283 103),
 (110,kC "number_with" 312 40 5 105 181 106 .none (.ref 107) (.ref 108) 109 320 321),
 (111,kF dj "number_with" "archrow.stretches" 283 110),
 (115,kC "least_number" 323 42 5 112 181 113 .none .none .none 114 326 327),
 (116,kF cR "least_number" "archrow.stretches" 283 115),
 (120,kC "best_choices" 329 45 5 117 181 118 .none .none .none 119 332 333),
 (121,kF cS "best_choices" "archrow.stretches" 283 120),
 (127,kC "first_greatest" 335 51 5 122 181 123 .none (.ref 124) (.ref 125) 126 349 350),
 (128,kF cn "first_greatest" "archrow.stretches" 283 127),
 (134,kC "most_ties" 354 64 1 129 181 130 .none (.ref 131) (.ref 132) 133 358 359),
 (135,kF fk "most_ties" "archrow.kept" 352 134),
 (141,kC "most_of" 361 66 3 136 181 137 .none (.ref 138) (.ref 139) 140 368 369),
 (142,kF ie "most_of" "archrow.kept" 352 141),
 (148,kC "table_of" 371 71 1 143 181 144 .none (.ref 145) (.ref 146) 147 375 376),
 (149,kF f_ "table_of" "archrow.kept" 352 148),
 (153,kC "one_each" 378 73 1 150 181 151 .none .none .none 152 381 382),
 (154,kF gb "one_each" "archrow.kept" 352 153),
 (158,kC "row_of_kinds" 386 76 3 155 181 156 .none .none .none 157 389 390),
 (159,kF cP "row_of_kinds" "archrow.kinds" 384 158),
 (163,kC "best_kinds" 392 82 4 160 181 161 .none .none .none 162 395 396),
 (164,kF d6 "best_kinds" "archrow.kinds" 384 163),
 (170,kC "check_gap" 398 94 1 165 181 166 .none (.ref 167) (.ref 168) 169 402 403),
 (171,kF fq "check_gap" "archrow.kinds" 384 170),
 (177,kC "pairs_either_way" 405 97 1 172 181 173 .none (.ref 174) (.ref 175) 176 412 413),
 (178,kF bQ "pairs_either_way" "archrow.kinds" 384 177),
 (182,kC "most_without" 415 103 2 179 181 180 .none .none .none 181 418 419),
 (183,kF cQ "most_without" "archrow.kinds" 384 182),
 (189,kC "most_beside" 421 105 3 184 181 185 .none (.ref 186) (.ref 187) 188 427 428),
 (190,kF dk "most_beside" "archrow.kinds" 384 189),
 (196,kC "_law_pot" 432 108 1 191 181 192 .none (.ref 193) (.ref 194) 195 436 437),
 (197,kF fS "_law_pot" "law_archrow_k31_best_kinds" 430 196),
 (203,kC "_law_take" 439 110 2 198 181 199 .none (.ref 200) (.ref 201) 202 446 447),
 (204,kF eM "_law_take" "law_archrow_k31_best_kinds" 430 203),
 (208,kC "_law_kinds" 449 120 1 205 181 206 .none .none .none 207 452 453),
 (209,kF fo "_law_kinds" "law_archrow_k31_best_kinds" 430 208),
 (215,kC "_law_pairs" 455 129 2 210 181 211 .none (.ref 212) (.ref 213) 214 463 464),
 (216,kF fm "_law_pairs" "law_archrow_k31_best_kinds" 430 215),
 (222,kC "_law_gap" 466 139 1 217 181 218 .none (.ref 219) (.ref 220) 221 470 471),
 (223,kF ij "_law_gap" "law_archrow_k31_best_kinds" 430 222),
 (227,kC "_law_ties" 473 141 3 224 181 225 .none .none .none 226 476 477),
 (228,kF gc "_law_ties" "law_archrow_k31_best_kinds" 430 227),
 (232,kC "_law_size" 479 150 2 229 181 230 .none .none .none 231 482 483),
 (233,kF gf "_law_size" "law_archrow_k31_best_kinds" 430 232),
 (237,kC "_law_same" 485 159 2 234 181 235 .none .none .none 236 488 489),
 (238,kF gg "_law_same" "law_archrow_k31_best_kinds" 430 237),
 (242,kC "_law_due" 491 169 4 239 181 240 .none .none .none 241 494 495),
 (243,kF ik "_law_due" "law_archrow_k31_best_kinds" 430 242),
 (249,kC "law" 497 176 1 244 181 245 .none (.ref 246) (.ref 247) 248 513 514),
 (250,kF mH "law" "law_archrow_k31_best_kinds" 430 249)]
noncomputable abbrev HK:PySem.W.Hook:=PySem.W.kHook KK [3,69,70,76,77,81,82,86,87,91,92,98,99,103,104,110,111,115,116,120,121,127,128,134,135,141,142,148,149,153,154,158,159,163,164,170,171,177,178,182,183,189,190,196,197,203,204,208,209,215,216,222,223,227,228,232,233,237,238,242,243,249,250] (λ_=>by kernel_rfl)
noncomputable def view:XX:={PySem.Challenge.pw_archrow_k31_best_kinds with main:={PySem.Challenge.pw_archrow_k31_best_kinds.main with body:=[top 1,top 2,top 3,top 4,top 6,top 7,top 8,top 10,top 11,top 12,top 13,top 14,top 15,top 16,top 17,top 19,top 20,top 21,top 22,top 24,top 25,top 26,top 27,top 28,top 29,top 31,top 32,top 33,top 34,top 35,top 36,top 37,top 38,top 39,top 40]}}
theorem left:PySem.W.LeftO PySem.Challenge.pw_archrow_k31_best_kinds view [] (λs=>PySem.W.xlAt view [] s&&PySem.W.recOk (PySem.W.RowW.records PySem.Challenge.rw_archrow_k31_best_kinds.row.toRowW) s) HK.obs HK.val 3690:=L2.Hd.zJ (by kernel_rfl) (by kernel_rfl) (λ_=>rfl) (λw os=>by kernel_rfl)
end oz
namespace L2
open PySem PySem.Spec PyProof.Rows
abbrev Key:=Sum Int Str
def nj:Key->XO->Bool
 |.inl k,v=>Z8 k v
 |.inr x,v=>Value.isStrOf x v
def RL (w:X6):Key->Int
 |.inl k=>Y2 k
 |.inr x=>hashStr w x
theorem bc:∀{k:Key} {v:XO},nj k v=true->(∃i t,k=ZO i/\v=Value.int i t)\/(∃x t,k=Sum.inr x/\v=Value.str x t)
 |.inl i,v,h=>by
  obtain⟨t,e⟩:=Value.isInt_shape (k:=i) (v:=v) h;exact .inl ⟨i,t,rfl,e⟩
 |.inr x,v,h=>by
  obtain⟨t,e⟩:=Value.isStrOf_shape (x:=x) (v:=v) h;exact .inr ⟨x,t,rfl,e⟩
theorem zL (i:Int)(t:Tok):nj (.inl i) (.int i t)=true:=by simp[nj,Z8]
theorem zK (x:Str)(t:Tok):nj (.inr x) (.str x t)=true:=by simp[nj,Value.isStrOf]
theorem KL (a b:Int):decide ((ZO a:Key)=ZO b)=(a==b):=by
 by_cases e:a=b
 ·subst e;simp
 ·have h:¬ (ZO a:Key)=ZO b:=λq=>e (Sum.inl.inj q);rw[decide_eq_false h];exact(beq_eq_false_iff_ne.mpr e).symm
theorem KH (a b:Str):decide ((Sum.inr a:Key)=Sum.inr b)=decide (a=b):=by
 by_cases e:a=b
 ·subst e;simp
 ·have h:¬ (Sum.inr a:Key)=Sum.inr b:=λq=>e (Sum.inr.inj q);rw[decide_eq_false h,decide_eq_false e]
theorem KJ (a:Int)(b:Str):decide ((ZO a:Key)=Sum.inr b)=false:=decide_eq_false (λq=>nomatch q)
theorem KI (a:Str)(b:Int):decide ((Sum.inr a:Key)=ZO b)=false:=decide_eq_false (λq=>nomatch q)
def aX (prog:XX)(w:X6):PySem.KeyKind prog w Key where
 is:=nj
 hash:=RL w
 inj:=λv a b ha hb=>by
  rcases bc ha with⟨i,t,rfl,rfl⟩|⟨x,t,rfl,rfl⟩
  ·rcases bc hb with⟨j,u,rfl,e⟩|⟨y,u,rfl,e⟩
   ·injection e with e1 _;rw[e1]
   ·exact nomatch e
  ·rcases bc hb with⟨j,u,rfl,e⟩|⟨y,u,rfl,e⟩
   ·exact nomatch e
   ·injection e with e1 _;rw[e1]
 byValue:=λk v h=>by
  rcases bc h with⟨i,t,rfl,rfl⟩|⟨x,t,rfl,rfl⟩ <;> rfl
 pyHash:=λhv h=>by
  rcases bc hv with⟨i,t,rfl,rfl⟩|⟨x,t,rfl,rfl⟩
  ·exact wpAny_pyHash_int h
  ·exact wpAny_pyHash_str h
 eqBool:=λhu hv h=>by
  rcases bc hu with⟨i,t,rfl,rfl⟩|⟨x,t,rfl,rfl⟩
  ·rcases bc hv with⟨j,u,rfl,rfl⟩|⟨y,u,rfl,rfl⟩
   ·rw[KL]at h;exact wpAny_eqBool_int h
   ·rw[KJ]at h;exact SeqAt.EqAt.int_str i t y u _ _ _ _ h
  ·rcases bc hv with⟨j,u,rfl,rfl⟩|⟨y,u,rfl,rfl⟩
   ·rw[KI]at h;exact SeqAt.EqAt.str_int x t j u _ _ _ _ h
   ·rw[KH]at h;exact wpAny_eqBool_str h
 «strs»:=λk x t v h=>by
  rcases bc h with⟨i,u,rfl,e⟩|⟨y,u,rfl,e⟩
  ·exact nomatch e
  ·injection e with e1 _
   subst e1;cases v <;> rfl
theorem ua (prog:XX)(w:X6)(i:Int)(t:Tok):(aX prog w).is (.inl i) (.int i t)=true:=zL i t
theorem t_ (prog:XX)(w:X6)(x:Str)(t:Tok):(aX prog w).is (.inr x) (.str x t)=true:=zK x t
inductive V where
 |cj|bl (b:Bool)|int (i:Int)|str (x:Str)|Pf (b:Array UInt8)|Lw (b:UInt64)|ref (a:Addr)|ty (n:String)
 deriving DecidableEq
def RelV:V->XO->Prop
 |.cj,u=>u=Value.none
 |.bl b,u=>u=Value.bool b
 |.int i,u=>∃t,u=Value.int i t
 |.str x,u=>∃t,u=Value.str x t
 |.Pf b,u=>∃t,u=Value.bytes b t
 |.Lw b,u=>∃t,u=Value.float b t
 |.ref a,u=>u=Value.ref a
 |.ty n,u=>u=Value.type n
abbrev Vals:List V->List XO->Prop:=Paired RelV
theorem Vals.length {xs:List V}{us:List XO}(r:Vals xs us):xs.length=us.length:=Paired.length r
theorem Vals.get:∀{xs:List V} {us:List XO} {i:Nat} {x:V},Vals xs us->xs[i]?=some x->∃u,us[i]?=some u/\RelV x u
 |_,_,_,_,.nil,e=>by simp at e
 |_,_,0,_,.cons r _,e=>by simp at e;subst e;exact⟨_,rfl,r⟩
 |_,_,i+1,x,.cons _ t,e=>by
  obtain⟨u,h1,h2⟩:=Vals.get (i:=i) (x:=x) t (by simpa using e)
  exact⟨u,by simpa using h1,h2⟩
theorem Vals.set {x:V}{u:XO}(r:RelV x u):∀{xs:List V} {us:List XO} (i:Nat),Vals xs us->Vals (xs.set i x) (us.set i u)
 |_,_,_,.nil=>.nil
 |_,_,0,.cons _ t=>.cons r t
 |_,_,i+1,.cons q t=>.cons q (Vals.set r i t)
theorem Vals.append:∀{xs ys:List V} {us ws:List XO},Vals xs us->Vals ys ws->Vals (xs++ys) (us++ws)
 |_,_,_,_,.nil,s=>s
 |_,_,_,_,.cons r t,s=>.cons r (Vals.append t s)
theorem Vals.take:∀{xs:List V} {us:List XO} (n:Nat),Vals xs us->Vals (xs.take n) (us.take n)
 |_,_,0,_=>.nil
 |_,_,_+1,.nil=>.nil
 |_,_,n+1,.cons r t=>.cons r (Vals.take n t)
theorem Vals.drop:∀{xs:List V} {us:List XO} (n:Nat),Vals xs us->Vals (xs.drop n) (us.drop n)
 |_,_,0,r=>r
 |_,_,_+1,.nil=>.nil
 |_,_,n+1,.cons _ t=>Vals.drop n t
theorem Vals.none_of:∀{xs:List V} {us:List XO} {i:Nat},Vals xs us->xs[i]?=none->us[i]?=none:=λ{xs us i} r e=>by
 have h1:=r.length;have h2:xs.length<=i:=List.getElem?_eq_none_iff.mp e;exact List.getElem?_eq_none_iff.mpr (by lia)
def om:Option V->Option XO->Prop
 |some v,some u=>RelV v u
 |none,none=>True
 |_,_=>False
def KV {κ:Type}:List (κ×V)->List (κ×XO)->Prop:=Paired λ(p:κ×V) (q:κ×XO)=>p.1=q.1/\RelV p.2 q.2
def kV:Key->V
 |.inl i=>.int i
 |.inr x=>.str x
inductive HO where
 |lst (xs:List V)
 |tup (xs:List V)
 |dK (kvs:List (Key×V))|dT (kvs:List (List Key×V))
 |set (S:Int->Bool) (n:Nat)
 |ins (C dx:Addr) (fs:List (Str×V))
 |own (x:Addr)
 |xd (fs:List (Str×V))
 |met (f x:Addr)
 |Q6 (lo hi:Int)
 |rM (o:Obj) (u:HO)
 |Je (ps:Array XO)
 |ext (φ:Heap->Prop)
abbrev Hp:=Addr->Option HO
def upd (H:Hp)(a:Addr)(o:HO):Hp:=λb=>if b=a then some o else H b
theorem ai {H:Hp}{a:Addr}{o:HO}:upd H a o a=some o:=by unfold upd;rw[if_pos rfl]
theorem ao {H:Hp}{a b:Addr}{o:HO}(h:b≠a):upd H a o b=H b:=by unfold upd;rw[if_neg h]
theorem t7 {H:Hp}{a b:Addr}{o u:HO}(h:H a=some o)(h':H b=some u)(d:o≠u):a≠b:=by
 intro e;subst e;rw[h]at h';exact d (Yv h')
theorem cG {H:Hp}{a b:Addr}{o:HO}(h:H a=some o)(h':H b=none):a≠b:=by
 intro e;subst e;rw[h]at h';cases h'
section
variable (P:XX)(w:X6)
def aO (H:Hp)(h:Heap)(a:Addr):HO->Prop
 |.lst xs=>xs.length<=X3/\∃(its:List XO) (n:Nat),Vals xs its/\h.get? a=some {cls:=.type "list",data:=.seq its.toArray n}
 |.tup xs=>xs.length<=X3/\∃its:List XO,Vals xs its/\IsTup h a its.toArray
 |.dK kvs=>kvs.length<=X3/\(a==ZM)=false/\∃vs,KV kvs vs/\h.DictOf (aX P w) a vs
 |.dT kvs=>kvs.length<=X3/\(a==ZM)=false/\∃xs:List (List Key×Addr×XO),
   Paired (λ(p:List Key×V) (q:List Key×Addr×XO)=>p.1=q.1/\H q.2.1=some (.tup (p.1.map kV))/\RelV p.2 q.2.2) kvs xs /\
   ∃o es ep,h.get? a=some o/\o.ExactDict/\o.data=.dict es ep/\es.toList=xs.map (entryOfKey (aau (aX P w)))/\(xs.map (·.1)).Nodup
 |.set S n=>h.SetOf (aaE P w) a S n
 |.ins C dx fs=>H dx=some (.own a)/\fs.length<=1000/\dx≠a/\h.get? a=some (PySem.W.instObj C dx) /\
   ∃mA,h.Ns1 dx mA/\(∀f,om (fs.lookup f) (mA f))/\PySem.Within mA (fs.map (·.1))
 |.own _=>∃o,h.get? a=some o
 |.xd fs=>∃mA,h.Ns1 a mA/\∀f,om (fs.lookup f) (mA f)
 |.Q6 lo hi=>∃t u v,h.get? a=some {cls:=.type "range",data:=.fields #[.int lo t,.int hi u,.int 1 v]}
 |.rM o u=>h.get? a=some o/\aO H h a u
 |.Je ps=>h.get? a=some {cls:=.none,data:=.fields ps}
 |.met f x=>h.get? a=some (PySem.W.methodObj (.ref f) (.ref x))
 |.ext φ=>φ h/\(∃o,h.get? a=some o)/\∀h1 h2:Heap,φ h1->(∀o,h1.get? a=some o->h2.get? a=some o)->φ h2
def jz (H:Hp)(h:Heap):Prop:=∀a o,H a=some o->aO P w H h a o
end
section
variable {P:XX}{w:X6}{H H':Hp}{h h':Heap}{a:Addr}{o:HO}
theorem aO.lt (x:aO P w H h a o):a<h.objs.size:=by
 cases o with
 |lst xs=>obtain⟨_,_,_,_,e⟩:=x;exact X8 e
 |tup xs=>obtain⟨_,_,_,p⟩:=x;exact p.lt
 |dK kvs=>obtain⟨_,_,_,_,o,_,_,e,_⟩:=x;exact X8 e
 |dT kvs=>obtain⟨_,_,_,_,o,_,_,e,_⟩:=x;exact X8 e
 |set S n=>obtain⟨o,_,_,_,e,_⟩:=x;exact X8 e
 |ins C dx fs=>obtain⟨_,_,_,e,_⟩:=x;exact X8 e
 |own y=>obtain⟨_,e⟩:=x;exact X8 e
 |xd fs=>obtain⟨_,⟨_,_,_,e,_⟩,_⟩:=x;exact X8 e
 |Q6 lo hi=>obtain⟨_,_,_,e⟩:=x;exact X8 e
 |rM ob u=>obtain⟨e,_⟩:=x;exact X8 e
 |Je ps=>exact X8 (show h.get? a=some _ from x)
 |met f y=>exact X8 (show h.get? a=some _ from x)
 |ext φ=>obtain⟨_,⟨_,e⟩,_⟩:=x;exact X8 e
theorem Paired.Kk {α β:Type}{F G:α->β->Prop}:∀{l₁:List α} {l₂:List β},Paired F l₁ l₂->(∀a b,F a b->G a b)->Paired G l₁ l₂
 |_,_,.nil,_=>.nil
 |_,_,.cons r t,f=>.cons (f _ _ r) (Paired.Kk t f)
theorem aO.oE (x:aO P w H h a o)(k:∀b u,(b=a\/H b=some (.own a))->h.get? b=some u->h'.get? b=some u)
  (ho:∀b,H b=some (.own a)->H' b=some (.own a)) (ht:∀b xs,H b=some (.tup xs)->H' b=some (.tup xs)):aO P w H' h' a o:=by
 induction o with
 |lst xs=>obtain⟨z,its,n,r,e⟩:=x;exact⟨z,its,n,r,k _ _ (.inl rfl) e⟩
 |tup xs=>obtain⟨z,its,r,ob,e,c⟩:=x;exact⟨z,its,r,ob,k _ _ (.inl rfl) e,c⟩
 |dK kvs=>obtain⟨z,y,vs,r,ob,es,ep,e,c⟩:=x;exact⟨z,y,vs,r,ob,es,ep,k _ _ (.inl rfl) e,c⟩
 |dT kvs =>
  obtain⟨z,y,xs,r,ob,es,ep,e,c⟩:=x;exact⟨z,y,xs,Paired.Kk r λp q z=>⟨z.1,ht _ _ z.2.1,z.2.2⟩,ob,es,ep,k _ _ (.inl rfl) e,c⟩
 |set S n=>obtain⟨ob,es,ep,t,e,c⟩:=x;exact⟨ob,es,ep,t,k _ _ (.inl rfl) e,c⟩
 |ins C dx fs =>
  obtain⟨d,z,ne,e,mA,⟨od,es,ep,e2,c⟩,r⟩:=x;exact⟨ho _ d,z,ne,k _ _ (.inl rfl) e,mA,⟨od,es,ep,k _ _ (.inr d) e2,c⟩,r⟩
 |own y=>obtain⟨ob,e⟩:=x;exact⟨ob,k _ _ (.inl rfl) e⟩
 |xd fs=>obtain⟨mA,⟨od,es,ep,e,c⟩,r⟩:=x;exact⟨mA,⟨od,es,ep,k _ _ (.inl rfl) e,c⟩,r⟩
 |Q6 lo hi=>obtain⟨t,u,v,e⟩:=x;exact⟨t,u,v,k _ _ (.inl rfl) e⟩
 |rM ob u ih=>obtain⟨e,q⟩:=x;exact⟨k _ _ (.inl rfl) e,ih q⟩
 |Je ps =>
  have e:h.get? a=some {cls:=.none,data:=.fields ps}:=x;show h'.get? a=some {cls:=.none,data:=.fields ps};exact k a _ (.inl rfl) e
 |met f y =>
  have e:h.get? a=some (PySem.W.methodObj (.ref f) (.ref y)):=x;show h'.get? a=some (PySem.W.methodObj (.ref f) (.ref y));exact k a _ (.inl rfl) e
 |ext φ=>obtain⟨p,⟨o,e⟩,st⟩:=x;exact⟨st _ _ p λo q=>k _ _ (.inl rfl) q,⟨o,k _ _ (.inl rfl) e⟩,st⟩
theorem jz.lt (x:jz P w H h)(e:H a=some o):a<h.objs.size:=(x a o e).lt
theorem jz.fresh (x:jz P w H h)(e:h.objs.size<=a):H a=none:=by
 cases q:H a with
 |none=>rfl
 |some u=>exact absurd (Yo (x.lt q) e) (Z4 _)
theorem jz.kept (x:jz P w H h)(k:∀b u,h.get? b=some u->h'.get? b=some u):jz P w H h':=λa o e =>
 (x a o e).oE (λb u _ q=>k b u q) (λ_ q=>q) λ_ _ q=>q
theorem jz.laid (x:jz P w H h)(k:∀b u,h.get? b=some u->h'.get? b=some u)(hp:h.objs.size<=a)(new:aO P w (upd H a o) h' a o):jz P w (upd H a o) h':=λb u e=>by
 have hn:=x.fresh hp
 by_cases hb:b=a
 ·subst hb;rw[ai]at e;cases e;exact new
 ·rw[ao hb]at e;exact(x b u e).oE (λc v _ q=>k c v q) (λc q=>by rw[ao (cG q hn)];exact q) λc xs q=>by rw[ao (cG q hn)];exact q
end
def Rd (H:Hp)(a:Addr)(u:HO):Prop:=H a=some u\/∃o,H a=some (.rM o u)
theorem Rd.ok {P:XX}{w:X6}{H:Hp}{h:Heap}{a:Addr}{u:HO}(r:Rd H a u)(x:jz P w H h):aO P w H h a u:=by
 rcases r with r|⟨o,r⟩
 ·exact x a u r
 ·obtain⟨_,q⟩:=x a _ r;exact q
def Pr:Option HO->Prop
 |some (.lst _)=>True
 |some (.dK _)=>True
 |some (.dT _)=>True
 |some (.set _ _)=>True
 |some (.ins _ _ _)=>True
 |some (.ext _)=>True
 |_=>False
section
variable {P:XX}{w:X6}{H:Hp}{h h':Heap}{x e:Addr}{o':HO}
theorem jz.write (ok:jz P w H h)(mu:Pr (H x))(he:e=x\/H e=some (.own x))(k:∀b u,b≠e->h.get? b=some u->h'.get? b=some u)(Me:∃u,h'.get? e=some u)
  (new:aO P w (upd H x o') h' x o'):jz P w (upd H x o') h':=λb u q=>by
 have Nn:∀c y,H c=some (.own y)->c≠x:=λc y r z=>by subst z;rw[r]at mu;exact mu
 have Rx:∀c xs,H c=some (.tup xs)->c≠x:=λc xs r z=>by subst z;rw[r]at mu;exact mu
 by_cases hb:b=x
 ·subst hb;rw[ai]at q;cases q;exact new
 ·rw[ao hb]at q
  by_cases Lq:b=e
  ·have q':H b=some (.own x):=by
    rcases he with z|z
    ·exact absurd (Lq.trans z) hb
    ·rw[Lq];exact z
   rw[q]at q';cases q';obtain⟨v,hv⟩:=Me;exact⟨v,by rw[Lq];exact hv⟩
  ·refine(ok b u q).oE (λc v hc r=>k c v ?_ r) (λc r=>by rw[ao (Nn c b r)];exact r) λc xs r=>by rw[ao (Rx c xs r)];exact r
   rcases hc with rfl|hc
   ·exact Lq
   ·rintro rfl;rcases he with z|z
    ·exact Nn c b hc z
    ·rw[hc]at z;cases z;exact hb rfl
end
structure Un (fs ex:List Addr)(H H':Hp)(h h':Heap):Prop where
 keep:∀b o,h.get? b=some o->H b=none->b∉fs->b∉ex->h'.get? b=some o
 slot:∀b o,h.get? b=some o->H b=none->b∈fs->b∉ex->∃sl,h'.get? b=some {o with slots:=sl}
 free:∀b o,h.get? b=some o->H b=none->b∉ex->H' b=none
 there:∀b o,h.get? b=some o->b∉ex->∃o',h'.get? b=some o'
 oB:∀b xs,H b=some (.tup xs)->H' b=some (.tup xs)
 nD:∀b o u,H b=some (.rM o u)->H' b=some (.rM o u)
 oC:∀b ps,H b=some (.Je ps)->∃more,H' b=some (.Je (ps++more))
section
variable {fs ex:List Addr}{H H1:Hp}{h h1 h':Heap}{a x e:Addr}{o:HO}
theorem Un.any (u:Un fs ex H H1 h h1){b:Addr}{ob:Obj}(q:h.get? b=some ob)(n:H b=none)(hx:b∉ex):∃sl,h1.get? b=some {ob with slots:=sl}:=by
 by_cases hb:b∈fs
 ·exact u.slot b ob q n hb hx
 ·exact⟨ob.slots,u.keep b ob q n hb hx⟩
theorem Un.kept (k:∀b u,h.get? b=some u->h'.get? b=some u):Un fs ex H H h h' :=
 ⟨λb ob q _ _ _=>k b ob q,λb ob q _ _ _=>⟨ob.slots,k b ob q⟩,λ_ _ _ n _=>n,λb ob q _=>⟨ob,k b ob q⟩,λ_ _ q=>q,λ_ _ _ q=>q,λ_ ps q=>⟨#[],by rw[q];simp⟩⟩
theorem Un.refl:Un fs ex H H h h:=Un.kept λ_ _ q=>q
theorem Un.laid (k:∀b u,h.get? b=some u->h'.get? b=some u)(hp:h.objs.size<=a)(hn:H a=none):Un fs ex H (upd H a o) h h' where
 keep:=λb u q _ _ _=>k b u q
 slot:=λb u q _ _ _=>⟨u.slots,k b u q⟩
 free:=λb u q n _=>by rw[ao (Yk (Yo (X8 q) hp))];exact n
 there:=λb u q _=>⟨u,k b u q⟩
 oB:=λb xs q=>by rw[ao (cG q hn)];exact q
 nD:=λb u xs q=>by rw[ao (cG q hn)];exact q
 oC:=λb ps q=>⟨#[],by rw[ao (cG q hn),q];simp⟩
theorem Un.write (mu:Pr (H x))(he:e=x\/H e=some (.own x))(k:∀b u,b≠e->h.get? b=some u->h'.get? b=some u)(Me:∃u,h'.get? e=some u):Un fs ex H (upd H x o) h h':=by
 have hx:∀b,H b=none->b≠x:=λb n z=>by subst z;rw[n]at mu;exact mu
 have hb:∀b,H b=none->b≠e:=λb n z=>by
  subst z;rcases he with r|r
  ·exact hx b n r
  ·rw[n]at r;cases r
 have hm:∀b u,H b=some u->¬ Pr (some u)->b≠x:=λb u q nm z=>by subst z;rw[q]at mu;exact nm mu
 refine⟨λb u q n _ _=>k b u (hb b n) q,λb u q n _ _=>⟨u.slots,k b u (hb b n) q⟩,λb u q n _=>by rw[ao (hx b n)];exact n,λb u q _=>?_,
  λb xs q=>by rw[ao (hm b _ q λz=>z)];exact q,λb u xs q=>by rw[ao (hm b _ q λz=>z)];exact q,λb ps q=>⟨#[],by rw[ao (hm b _ q λz=>z),q];simp⟩⟩
 by_cases Lq:b=e
 ·subst Lq;exact Me
 ·exact⟨u,k b u Lq q⟩
end
def PF (h:Heap)(H:Hp):List Addr:=(X7 h.objs.size).filter λa=>(H a).isSome
def rH (h:Heap)(H:Hp):Heap:=PySem.W.hideAll h (PF h H)
theorem zT (h:Heap)(H:Hp):(rH h H).objs.size=h.objs.size:=PySem.W.hideAll_size _ _
theorem Dy {h:Heap}{H:Hp}{b:Addr}{o:Obj}(e:h.get? b=some o)(n:H b=none):(rH h H).get? b=some o :=
 PySem.W.hideAll_get _ e λhm=>by
  have q:(H b).isSome=true:=(Ym.mp hm).2;rw[n]at q;simp at q
theorem F5 {h:Heap}{H:Hp}{b:Addr}{o:Obj}(e:(rH h H).get? b=some o):h.get? b=some o/\H b=none:=by
 have e':h.get? b=some o:=PySem.W.of_hideAll (PF h H) e;refine⟨e',?_⟩;cases q:H b with
 |none=>rfl
 |some x =>
  have hm:b∈PF h H:=Ym.mpr ⟨YH.mpr (X8 e'),by simp[q]⟩
  have z:(rH h H).get? b=none:=PySem.W.hideAll_none (PF h H) hm;rw[z]at e;cases e
structure Mod (K:PySem.W.Frag)(mg:Str->Option XO)(base:Heap):Prop where
 RK:K.In base
 glob:base.Ns Zy mg
 blt:∃mb,base.Ns builtinsNs mb/\∀x:Str,x≠"__name__" -> mb x=YG x
 nolimit:base.NoLimit
structure Cx where
 prog:XX
 w:X6
 K:PySem.W.Frag
 mg:Str->Option XO
 base:Heap
 A:YX
 N:List Str
 s₀:XQ
 H₀:Hp
 env:Env
 outer:List Env
 stack:List Env
 ex:List Addr
 fn:Str->Bool
 calm:Bool
 pn:List (Addr×Obj)
 xe:XO->XQ->Prop
def DD (l:List Env):List Addr:=l.filterMap (·.frame)
abbrev Cx.fs (X:Cx):List Addr:=DD X.outer
def LV (sc:ZE)(x:Str):Prop:=sc.names.lookup x=some .local\/sc.names.lookup x=some .cell\/sc.names.lookup x=some .free
def Loc (sc:ZE)(x:Str):Prop:=sc.names.lookup x=some .local\/sc.names.lookup x=some .cell
def Look (env:Env)(h:Heap)(m:Str->Option XO)(x:Str)(u:XO):Prop :=
 (env.kindOf x=some .local/\m x=some u)\/((env.kindOf x=some .cell\/env.kindOf x=some .free)/\∃c,env.cells.lookup x=some c/\h.IsCell c (some u))
structure Cx.Ok (X:Cx):Prop where
 mod:Mod X.K X.mg X.base
 kind:X.env.scope.kind=.function
 glob:X.env.globals=Zy
 blt:X.env.builtins=builtinsNs
 above:X.s₀.heap.objs.size<=X.env.locals
 inj:∀x y c,X.env.cells.lookup x=some c->X.env.cells.lookup y=some c->x=y
 has:∀x,(X.env.kindOf x=some .cell\/X.env.kindOf x=some .free)->∃c,X.env.cells.lookup x=some c
 Pe:∀x c,X.fn x=true->X.env.cells.lookup x=some c->X.s₀.heap.objs.size<=c
 hd:X.calm=true->X.A.handled=none
 frames:X.A.frames=some X.stack
 PY:X.stack=X.outer\/(X.stack=X.env::X.outer/\X.env.frame=some X.env.locals)
 Mg:∀b∈X.ex,b≠X.env.locals/\∀x c,X.env.cells.lookup x=some c->c≠b
 bs:∀b o,X.base.get? b=some o->X.s₀.heap.get? b=some o/\X.H₀ b=none
 EX:X.base.objs.size<=X.s₀.heap.objs.size
 zw:∀b o,X.base.get? b=some o->b∉X.ex
 zZ:∀b∈X.ex,b∉X.fs
 nC:X.s₀.heap.FunFrames X.base X.outer
 Mf:∀b∈X.fs,X.H₀ b=none
structure Inv (X:Cx)(pins:List (Addr×Obj))(σ:List (Option V))(H:Hp)(s:XQ):Prop where
 ok:X.Ok
 os:s.os=X.s₀.os
 bare:AllBare s.gens
 base:Un X.fs X.ex X.H₀ H X.s₀.heap s.heap
 loc:∃m,s.heap.Ns X.env.locals m/\∀(i:Nat) (x:Str) (v:V),X.N[i]?=some x->σ[i]?=some (some v)->LV X.env.scope x->∃u,RelV v u/\Look X.env s.heap m x u
 cell:∀x c,X.env.cells.lookup x=some c->∃v,s.heap.IsCell c v
 free:H X.env.locals=none
 g_:∀x c,X.env.cells.lookup x=some c->H c=none
 pin:∀p∈X.pn++pins,s.heap.get? p.1=some p.2/\H p.1=none/\p.1≠X.env.locals/\p.1∉X.fs/\∀v,p.2.data≠.cell v
 a5:jz X.prog X.w H s.heap
 len:σ.length=X.N.length
section
variable {X:Cx}{pins:List (Addr×Obj)}{σ:List (Option V)}{H H':Hp}{s:XQ}{h':Heap}
theorem Cx.Ok.Kc (ok:X.Ok){b:Addr}{o:Obj}(e:X.base.get? b=some o):b∉X.fs:=λhb=>by
 have:=(ok.nC.mem hb).1;rw[e]at this;cases this
theorem Inv.bs (I:Inv X pins σ H s):∀b o,X.base.get? b=some o->s.heap.get? b=some o/\H b=none:=λb o e =>
 ⟨I.base.keep b o (I.ok.bs b o e).1 (I.ok.bs b o e).2 (I.ok.Kc e) (I.ok.zw b o e),I.base.free b o (I.ok.bs b o e).1 (I.ok.bs b o e).2 (I.ok.zw b o e)⟩
theorem Inv.bk (I:Inv X pins σ H s):∀b o,X.base.get? b=some o->s.heap.get? b=some o:=λb o e=>(I.bs b o e).1
theorem Inv.mod (I:Inv X pins σ H s):Mod X.K X.mg X.base:=I.ok.mod
theorem Inv.kT (I:Inv X pins σ H s):X.K.In s.heap:=I.ok.mod.RK.keeps I.bk
theorem Inv.lt (I:Inv X pins σ H s):X.env.locals<s.heap.objs.size:=let ⟨_,hn,_⟩:=I.loc;hn.lt
theorem Inv.sz (I:Inv X pins σ H s):X.s₀.heap.objs.size<=s.heap.objs.size:=Yz I.ok.above (Nat.le_of_lt I.lt)
theorem Inv.Ry (I:Inv X pins σ H s){a:Addr}(h:s.heap.objs.size<=a):a∉X.fs:=λhb=>by
 obtain⟨_,o,ho,_⟩:=I.ok.nC.mem hb;exact absurd (Yo (X8 ho) (Yz I.sz h)) (Z4 _)
theorem Inv.LL (I:Inv X pins σ H s):∀x c,X.env.cells.lookup x=some c->c≠X.env.locals:=λx c e z=>by
 obtain⟨v,o,ho,hd⟩:=I.cell x c e;obtain⟨m,⟨o',es,ep,rZ,O1,_⟩,_⟩:=I.loc;rw[z,rZ]at ho;cases ho;rw[O1]at hd;cases hd
theorem Inv.nC (I:Inv X pins σ H s):s.heap.FunFrames X.base X.outer:=by
 have all:∀(l:List Env),(∀b∈DD l,b∈X.fs)->X.s₀.heap.FunFrames X.base l->s.heap.FunFrames X.base l:=by
  intro l
  induction l with
  |nil=>intro _ _;trivial
  |cons env r ih =>
   intro hs hl;obtain⟨hk,⟨L,o,hf,hn,ho,hd⟩,hr⟩:=hl;have hL:L∈X.fs:=hs L (by unfold DD;rw[YV,hf];exact Yr)
   obtain⟨sl,e⟩:=I.base.slot L o ho (I.ok.Mf L hL) hL λz=>I.ok.zZ L z hL;exact⟨hk,⟨L,_,hf,hn,e,hd⟩,ih (λb hb=>hs b (by unfold DD;rw[YV,hf];exact Yd _ hb)) hr⟩
 exact all X.outer (λ_ hb=>hb) I.ok.nC
theorem Inv.stack (I:Inv X pins σ H s):s.heap.FunFrames X.base X.stack:=by
 rcases I.ok.PY with e|⟨e,hf⟩
 ·rw[e];exact I.nC
 ·rw[e];obtain⟨m,hn,_⟩:=I.loc;refine .cons (by rw[I.ok.kind];decide) hf hn ?_ I.nC
  exact Heap.get?_none_of_le (Yz I.ok.EX I.ok.above)
theorem Inv.qH (I:Inv X pins σ H s):∀b∈DD X.stack,b∈X.env.locals::X.fs:=λb hb=>by
 rcases I.ok.PY with e|⟨e,hf⟩
 ·rw[e]at hb;exact Yd _ hb
 ·rw[e]at hb;unfold DD at hb;rw[YV,hf]at hb;exact hb
theorem Inv.qI (I:Inv X pins σ H s):∀b∈DD X.stack,H b=none:=λb hb=>by
 rcases XU.mp (I.qH b hb)with e|hb
 ·rw[e];exact I.free
 ·obtain⟨_,o,ho,_⟩:=I.ok.nC.mem hb;exact I.base.free b o ho (I.ok.Mf b hb) λz=>I.ok.zZ b z hb
theorem Inv.step {g':Array GenState}{t':Nat}{d':Drawn}{ch:List Addr}(I:Inv X pins σ H s)
  (yf:∀b∈ch,(b∈X.ex\/X.s₀.heap.objs.size<=b)/\b≠X.env.locals/\(∀x c,X.env.cells.lookup x=some c->c≠b)/\∀p∈X.pn++pins,p.1≠b)
  (keep:∀b o,b≠X.env.locals->b∉X.fs->b∉ch->s.heap.get? b=some o->H b=none->h'.get? b=some o)
  (slot:∀b o,b≠X.env.locals->b∈X.fs->b∉ch->s.heap.get? b=some o->H b=none->∃sl,h'.get? b=some {o with slots:=sl}) (free:∀b o,b∉ch->s.heap.get? b=some o->H b=none->H' b=none)
  (there:∀b o,b∉ch->s.heap.get? b=some o->∃o',h'.get? b=some o')
  (oB:∀b xs,H b=some (.tup xs)->H' b=some (.tup xs)) (nD:∀b o u,H b=some (.rM o u)->H' b=some (.rM o u)) (oC:∀b ps,H b=some (.Je ps)->∃more,H' b=some (.Je (ps++more)))
  (ns:∀m,s.heap.Ns X.env.locals m->h'.Ns X.env.locals m) (a5:jz X.prog X.w H' h') (hg:AllBare g') :
  Inv X pins σ H' {s with heap:=h',gens:=g',drawn:=d',toks:=t'}:=by
 have Uy:∀b o,X.s₀.heap.get? b=some o->b≠X.env.locals:=λb o e=>Yk (Yo (X8 e) I.ok.above);have P9:∀b o,X.s₀.heap.get? b=some o->b∉X.ex->b∉ch:=λb o e hx hb=>by
  rcases (yf b hb).1 with z|z
  ·exact hx z
  ·exact absurd (Yo (X8 e) z) (Z4 _)
 have cellK:∀x c,X.env.cells.lookup x=some c->∀v,s.heap.IsCell c v->h'.IsCell c v:=λx c e v fy=>by
  obtain⟨o,ho,hd⟩:=fy;have Nt:c∉ch:=λz=>(yf c z).2.2.1 x c e rfl
  by_cases hc:c∈X.fs
  ·obtain⟨sl,q⟩:=slot c o (I.LL x c e) hc Nt ho (I.g_ x c e);exact⟨_,q,hd⟩
  ·exact⟨o,keep c o (I.LL x c e) hc Nt ho (I.g_ x c e),hd⟩
 refine⟨I.ok,I.os,hg,⟨λb o e n hb hx=>?_,λb o e n hb hx=>?_,λb o e n hx=>?_,λb o e hx=>?_,λb xs e=>oB b xs (I.base.oB b xs e),λb o xs e=>nD b o xs (I.base.nD b o xs e),λb ps e=>?_⟩,?_,λx c e=>?_,?_,λx c e=>?_,λp hp=>?_,a5,I.len⟩
 ·exact keep b o (Uy b o e) hb (P9 b o e hx) (I.base.keep b o e n hb hx) (I.base.free b o e n hx)
 ·obtain⟨sl,e1⟩:=I.base.slot b o e n hb hx;obtain⟨Jp,e2⟩:=slot b _ (Uy b o e) hb (P9 b o e hx) e1 (I.base.free b o e n hx);exact⟨Jp,e2⟩
 ·obtain⟨o',e1⟩:=I.base.there b o e hx;exact free b o' (P9 b o e hx) e1 (I.base.free b o e n hx)
 ·obtain⟨o',e1⟩:=I.base.there b o e hx;exact there b o' (P9 b o e hx) e1
 ·obtain⟨m1,e1⟩:=I.base.oC b ps e;obtain⟨m2,e2⟩:=oC b _ e1;exact⟨m1++m2,by rw[e2,Array.append_assoc]⟩
 ·obtain⟨m,hn,hl⟩:=I.loc;refine⟨m,ns m hn,λi x v e1 e2 e3=>?_⟩;obtain⟨u,r,l⟩:=hl i x v e1 e2 e3;refine⟨u,r,?_⟩;rcases l with l|⟨k,c,e,z⟩
  ·exact .inl l
  ·exact .inr ⟨k,c,e,cellK x c e _ z⟩
 ·obtain⟨v,z⟩:=I.cell x c e;exact⟨v,cellK x c e v z⟩
 ·obtain⟨m,⟨o,_,_,ho,_⟩,_⟩:=I.loc;exact free _ o (λz=>(yf _ z).2.1 rfl) ho I.free
 ·obtain⟨v,o,ho,hd⟩:=I.cell x c e;exact free c o (λz=>(yf c z).2.2.1 x c e rfl) ho (I.g_ x c e)
 ·obtain⟨e,n,ne,nf,d⟩:=I.pin p hp;have Nt:p.1∉ch:=λz=>(yf p.1 z).2.2.2 p hp rfl;exact⟨keep p.1 p.2 ne nf Nt e n,free p.1 p.2 Nt e n,ne,nf,d⟩
theorem Inv.un {t':Nat}(I:Inv X pins σ H s)(u:Un X.fs [] H H' s.heap h')(a5:jz X.prog X.w H' h'):Inv X pins σ H' {s with heap:=h',toks:=t'}:=by
 obtain⟨m,⟨o,es,ep,ho,r⟩,_⟩:=id I.loc;obtain⟨sl,hL⟩:=u.any ho I.free (by simp)
 exact I.step (g':=s.gens) (d':=s.drawn) (ch:=[]) (λ_ z=>nomatch z) (λb o _ hb _ e n=>u.keep b o e n hb (by simp)) (λb o _ hb _ e n=>u.slot b o e n hb (by simp)) (λb o _ e n=>u.free b o e n (by simp)) (λb o _ e=>u.there b o e (by simp)) u.oB u.nD u.oC (λm' hm=>by
  obtain⟨o',dC,jw,rZ,r'⟩:=hm;rw[ho]at rZ;cases rZ;exact⟨_,dC,jw,hL,r'⟩) a5 I.bare
theorem Inv.call {g':Array GenState}{t':Nat}{d':Drawn}{ch:List Addr}(I:Inv X pins σ H s)(u:Un (DD X.stack) ch H H' s.heap h')(a5:jz X.prog X.w H' h')(hg:AllBare g')
  (yf:∀b∈ch,(b∈X.ex\/X.s₀.heap.objs.size<=b)/\b≠X.env.locals/\(∀x c,X.env.cells.lookup x=some c->c≠b)/\∀p∈X.pn++pins,p.1≠b) :
  Inv X pins σ H' {s with heap:=h',gens:=g',drawn:=d',toks:=t'}:=by
 obtain⟨m,⟨o,es,ep,ho,r⟩,_⟩:=id I.loc;obtain⟨sl,hL⟩:=u.any ho I.free λz=>(yf _ z).2.1 rfl;exact I.step (ch:=ch) yf (λb o hL hb hc e n=>u.keep b o e n (λz=>(XU.mp (I.qH b z)).elim hL hb) hc) (λb o _ _ hc e n=>u.any e n hc) (λb o hc e n=>u.free b o e n hc) (λb o hc e=>u.there b o e hc) u.oB u.nD u.oC (λm' hm=>by
  obtain⟨o',dC,jw,rZ,r'⟩:=hm;rw[ho]at rZ;cases rZ;exact⟨_,dC,jw,hL,r'⟩) a5 hg
theorem Inv.turned {t':Nat}{it:Addr}(I:Inv X pins σ H s)(k:∀b o,b≠it->s.heap.get? b=some o->h'.get? b=some o)(hn:H it=none)(hL:it≠X.env.locals)
  (h1:it∈X.ex\/X.s₀.heap.objs.size<=it) (h2:∀x c,X.env.cells.lookup x=some c->c≠it) (h3:∀p∈X.pn++pins,p.1≠it):Inv X pins σ H {s with heap:=h',toks:=t'}:=by
 have Ux:∀b u,H b=some u->b≠it:=λb u e z=>by rw[z,hn]at e;cases e
 refine I.step (g':=s.gens) (d':=s.drawn) (ch:=[it]) (λb hb=>?_) (λb o _ _ hc e _=>k b o (λz=>hc (by simp[z])) e) (λb o _ _ hc e _=>⟨o.slots,k b o (λz=>hc (by simp[z])) e⟩) (λ_ _ _ _ n=>n)
  (λb o hc e=>⟨o,k b o (λz=>hc (by simp[z])) e⟩) (λ_ _ e=>e) (λ_ _ _ e=>e) (λb ps e=>⟨#[],by rw[e];simp⟩) (λm hm=>?_) (λb u e=>?_) I.bare
 ·have e:b=it:=by simpa using hb
  subst e;exact⟨h1,hL,h2,h3⟩
 ·obtain⟨o,es,ep,ho,r⟩:=hm;exact⟨o,es,ep,k _ o (YW hL) ho,r⟩
 ·refine(I.a5 b u e).oE (λc v hc q=>k c v ?_ q) (λ_ q=>q) λ_ _ q=>q;rcases hc with z|z
  ·rw[z];exact Ux b u e
  ·exact Ux c _ z
theorem Inv.tok (I:Inv X pins σ H s)(t:Nat):Inv X pins σ H {s with toks:=t}:=I.un (h':=s.heap) (t':=t) Un.refl I.a5
theorem Inv.kept {t':Nat}(I:Inv X pins σ H s)(k:∀b u,s.heap.get? b=some u->h'.get? b=some u):Inv X pins σ H {s with heap:=h',toks:=t'}:=I.un (Un.kept k) (I.a5.kept k)
theorem Inv.laid {a:Addr}{o:HO}{t':Nat}(I:Inv X pins σ H s)(k:∀b u,s.heap.get? b=some u->h'.get? b=some u)(hp:s.heap.objs.size<=a)(new:aO X.prog X.w (upd H a o) h' a o):
  Inv X pins σ (upd H a o) {s with heap:=h',toks:=t'}:=I.un (Un.laid k hp (I.a5.fresh hp)) (I.a5.laid k hp new)
theorem Inv.write {x e:Addr}{o:HO}{t':Nat}(I:Inv X pins σ H s)(mu:Pr (H x))(he:e=x\/H e=some (.own x))(k:∀b u,b≠e->s.heap.get? b=some u->h'.get? b=some u)(Me:∃u,h'.get? e=some u)
  (new:aO X.prog X.w (upd H x o) h' x o):Inv X pins σ (upd H x o) {s with heap:=h',toks:=t'}:=I.un (Un.write mu he k Me) (I.a5.write mu he k Me new)
theorem Inv.xy {HR:List (Addr×Obj)}(I:Inv X pins σ H s)(h:∀p∈HR,s.heap.get? p.1=some p.2/\H p.1=none/\p.1≠X.env.locals/\p.1∉X.fs/\∀v,p.2.data≠.cell v):Inv X HR σ H s :=
 ⟨I.ok,I.os,I.bare,I.base,I.loc,I.cell,I.free,I.g_,λp hp=>(XZ.mp hp).elim (λz=>I.pin p (Yq _ z)) (h p),I.a5,I.len⟩
theorem tY {N:List Str}(hN:N.Nodup){i j:Nat}{x:Str}(a:N[i]?=some x)(b:N[j]?=some x):i=j:=by
 obtain⟨h1,e1⟩:=X0.mp a;obtain⟨h2,e2⟩:=X0.mp b;exact(List.getElem_inj hN).mp (e1.trans e2.symm)
theorem kq {M:Model}{A:YX}{E:XO->XQ->Prop}{i:Nat}{x:Str}{v:V}{u:XO}{Q:Unit->XQ->Prop}(I:Inv X pins σ H s)(hN:X.N.Nodup)(hi:X.N[i]?=some x)(hx:Loc X.env.scope x)(r:RelV v u)
  (h:∀s',Inv X pins (σ.set i (some v)) H s'->(∃a,Zh a s.heap s'.heap/\(a=X.env.locals\/X.env.cells.lookup x=some a))->Q () s') (hf:X.fn x=true\/X.env.scope.names.lookup x=some .local:=by first|exact .inl rfl|exact .inr rfl|assumption):Ye M A (storeName X.env x u) Q E s:=by
 obtain⟨m,hn,hl⟩:=id I.loc;have SX:(X.env.scope.kind==.class || (X.env.scope.kind==.module&&X.env.locals != X.env.globals))=false:=by rw[I.ok.kind];rfl
 have OX:i<σ.length:=by rw[I.len];exact(X0.mp hi).1
 have LL:=I.LL;have tracked:∀{a:Addr} {h':Heap},(∃o,s.heap.get? a=some o/\H a=none)->Zh a s.heap h'->jz X.prog X.w H h':=λ{a h'} ha hs b ob e=>by
  obtain⟨_,_,ye⟩:=ha;refine(I.a5 b ob e).oE (λc w' hc q=>(hs.2 c ?_).trans q) (λ_ q=>q) λ_ _ q=>q;rintro rfl;rcases hc with rfl|hc
  ·rw[ye]at e;cases e
  ·rw[ye]at hc;cases hc
 rcases hx with hk|hk
 ·refine wpAny_storeName_local hk hn (λh' OP hs=>?_) SX;obtain⟨oL,_,_,Wk,_⟩:=id hn;refine h _ ⟨I.ok,I.os,I.bare,⟨λb o e n hb hx=>?_,λb o e n hb hx=>?_,I.base.free,λb o e hx=>?_,I.base.oB,I.base.nD,I.base.oC⟩,⟨_,OP,λj y v' e1 e2 e3=>?_⟩,λy c e=>?_,I.free,I.g_,λp hp=>?_,tracked ⟨oL,Wk,I.free⟩ hs,by simpa using I.len⟩ ⟨_,hs,.inl rfl⟩
  ·exact(hs.2 b (Yk (Yo (X8 e) I.ok.above))).trans (I.base.keep b o e n hb hx)
  ·obtain⟨sl,e1⟩:=I.base.slot b o e n hb hx;exact⟨sl,(hs.2 b (Yk (Yo (X8 e) I.ok.above))).trans e1⟩
  ·obtain⟨o',e1⟩:=I.base.there b o e hx;exact⟨o',(hs.2 b (Yk (Yo (X8 e) I.ok.above))).trans e1⟩
  ·by_cases hj:j=i
   ·subst hj;rw[hi]at e1;cases e1;rw[List.getElem?_set_self OX]at e2;cases e2;exact⟨u,r,.inl ⟨hk,by simp⟩⟩
   ·rw[List.getElem?_set_ne (YW hj)]at e2;obtain⟨u',r',q⟩:=hl j y v' e1 e2 e3;refine⟨u',r',?_⟩;rcases q with⟨k,e⟩|⟨k,c,e,z⟩
    ·refine .inl ⟨k,?_⟩;have:y≠x:=λe=>hj (tY hN e1 (e▸hi));simp[this,e]
    ·exact .inr ⟨k,c,e,z.sameBut hs (LL y c e)⟩
  ·obtain⟨w',z⟩:=I.cell y c e;exact⟨w',z.sameBut hs (LL y c e)⟩
  ·obtain⟨e,n,ne,nf,d⟩:=I.pin p hp;exact⟨(hs.2 p.1 ne).trans e,n,ne,nf,d⟩
 ·have SO:X.fn x=true:=by
   rcases hf with z|z
   ·exact z
   ·rw[z]at hk;cases hk
  obtain⟨c,hc⟩:=I.ok.has x (.inl hk);obtain⟨w',z⟩:=I.cell x c hc;refine wpAny_storeName_cell I.ok.kind hk hc z (λh' uv hs=>?_);obtain⟨oc,GG,Sr⟩:=id z;refine h {s with heap:=h'} ⟨I.ok,I.os,I.bare,⟨λb o e n hb hx=>?_,λb o e n hb hx=>?_,I.base.free,λb o e hx=>?_,I.base.oB,I.base.nD,I.base.oC⟩,⟨m,hn.sameBut hs (YW (LL x c hc)),λj y v' e1 e2 e3=>?_⟩,λy c' e=>?_,I.free,I.g_,λp hp=>?_,tracked ⟨oc,GG,I.g_ x c hc⟩ hs,by simpa using I.len⟩ ⟨c,hs,.inr hc⟩
  ·exact(hs.2 b (Yk (Yo (X8 e) (I.ok.Pe x c SO hc)))).trans (I.base.keep b o e n hb hx)
  ·obtain⟨sl,e1⟩:=I.base.slot b o e n hb hx;exact⟨sl,(hs.2 b (Yk (Yo (X8 e) (I.ok.Pe x c SO hc)))).trans e1⟩
  ·obtain⟨o',e1⟩:=I.base.there b o e hx;exact⟨o',(hs.2 b (Yk (Yo (X8 e) (I.ok.Pe x c SO hc)))).trans e1⟩
  ·by_cases hj:j=i
   ·subst hj;rw[hi]at e1;cases e1;rw[List.getElem?_set_self OX]at e2;cases e2;exact⟨u,r,.inr ⟨.inl hk,c,hc,uv⟩⟩
   ·rw[List.getElem?_set_ne (YW hj)]at e2;obtain⟨u',r',q⟩:=hl j y v' e1 e2 e3;refine⟨u',r',?_⟩;rcases q with q|⟨k,c',e,z'⟩
    ·exact .inl q
    ·refine .inr ⟨k,c',e,z'.sameBut hs ?_⟩;rintro rfl;exact hj (tY hN e1 (I.ok.inj _ _ _ e hc▸hi))
  ·by_cases Iq:c'=c
   ·subst Iq;exact⟨_,uv⟩
   ·obtain⟨w2,z2⟩:=I.cell y c' e;exact⟨w2,z2.sameBut hs Iq⟩
  ·obtain⟨e,n,ne,nf,d⟩:=I.pin p hp;refine⟨(hs.2 p.1 ?_).trans e,n,ne,nf,d⟩;intro q;rw[q,GG]at e;have q':oc=p.2:=Yv e;exact d w' (by rw[<- q'];exact Sr)
theorem sQ {M:Model}{A:YX}{E:XO->XQ->Prop}{i:Nat}{x:Str}{v:V}{u:XO}{Q:Unit->XQ->Prop}(I:Inv X pins σ H s)(hN:X.N.Nodup)(hi:X.N[i]?=some x)(hx:Loc X.env.scope x)(r:RelV v u)
  (h:∀s',Inv X pins (σ.set i (some v)) H s'->Q () s') (hf:X.fn x=true\/X.env.scope.names.lookup x=some .local:=by first|exact .inl rfl|exact .inr rfl|assumption):Ye M A (storeName X.env x u) Q E s :=
 kq I hN hi hx r (λs' I' _=>h s' I') hf
theorem Inv.IF {s':XQ}{ch:List Addr}(I:Inv X pins σ H s)(ho:s'.os=s.os)(u:Un (DD X.stack) ch H H' s.heap s'.heap)(a5:jz X.prog X.w H' s'.heap)(hg:AllBare s'.gens)
  (yf:∀b∈ch,(b∈X.ex\/X.s₀.heap.objs.size<=b)/\b≠X.env.locals/\(∀x c,X.env.cells.lookup x=some c->c≠b)/\∀p∈X.pn++pins,p.1≠b):Inv X pins σ H' s':=by
 obtain⟨h',g',d',t',o'⟩:=s';have e:o'=s.os:=ho;subst e;exact I.call (g':=g') (t':=t') (d':=d') u a5 hg yf
end
abbrev XK:=XO->Option Addr->Hp->Prop
abbrev St:=List (Option V)
abbrev VK:=V->Hp->Prop
abbrev TE:=St->Hp->VK->Prop
abbrev TT:=St->Hp->(Bool->Hp->Prop)->Prop
abbrev TA:=St->Hp->(List V->Hp->Prop)->Prop
structure Ends where
 nx:St->Hp->Prop
 rt:VK
 bk:St->Hp->Prop:=λ_ _=>False
 ct:St->Hp->Prop:=λ_ _=>False
abbrev TS:=Ends->St->Hp->Prop
def EP (X:Cx)(pins:List (Addr×Obj))(σ:St)(Q:VK)(u:XO)(s':XQ):Prop:=∃v H',Inv X pins σ H' s'/\RelV v u/\Q v H'
def TP (X:Cx)(pins:List (Addr×Obj))(σ:St)(Q:Bool->Hp->Prop)(b:Bool)(s':XQ):Prop:=∃H',Inv X pins σ H' s'/\Q b H'
def AP (X:Cx)(pins:List (Addr×Obj))(σ:St)(Q:List V->Hp->Prop)(us:List XO)(s':XQ):Prop:=∃vs H',Inv X pins σ H' s'/\Vals vs us/\Q vs H'
def SP (X:Cx)(pins:List (Addr×Obj))(D:Ends)(f:Flow)(s':XQ):Prop :=
 match f with
 |.next=>∃σ' H',Inv X pins σ' H' s'/\D.nx σ' H'
 |.brk=>∃σ' H',Inv X pins σ' H' s'/\D.bk σ' H'
 |.cont=>∃σ' H',Inv X pins σ' H' s'/\D.ct σ' H'
 |.ret u=>∃v σ' H',Inv X pins σ' H' s'/\RelV v u/\D.rt v H'
def PE (X:Cx)(e:Expr)(t:TE):Prop :=
 ∀(pins:List (Addr×Obj)) (s:XQ) (σ:St) (H:Hp) (Q:VK),Inv X pins σ H s->t σ H Q->Ye (model X.prog X.w) X.A (eval e X.env) (EP X pins σ Q) X.xe s
def PT (X:Cx)(e:Expr)(t:TT):Prop :=
 ∀(pins:List (Addr×Obj)) (s:XQ) (σ:St) (H:Hp) (Q:Bool->Hp->Prop),Inv X pins σ H s->t σ H Q->Ye (model X.prog X.w) X.A (isTrue e X.env (eval e X.env)) (TP X pins σ Q) X.xe s
def PW (X:Cx)(e:Expr)(t:TT):Prop :=
 ∀(whole:Sem XO) (pins:List (Addr×Obj)) (s:XQ) (σ:St) (H:Hp) (Q:Bool->Hp->Prop),Inv X pins σ H s->t σ H Q->Ye (model X.prog X.w) X.A (isTrue e X.env whole) (TP X pins σ Q) X.xe s
theorem PW.pt {X:Cx}{e:Expr}{t:TT}(h:PW X e t):PT X e t:=h _
def PA (X:Cx)(es:List Expr)(t:TA):Prop :=
 ∀(pos:Pos) (pins:List (Addr×Obj)) (s:XQ) (σ:St) (H:Hp) (Q:List V->Hp->Prop),Inv X pins σ H s->t σ H Q->Ye (model X.prog X.w) X.A (spliced (ZA pos (X2 es X.env))) (AP X pins σ Q) X.xe s
def PS (X:Cx)(st:Stmt)(t:TS):Prop :=
 ∀(pins:List (Addr×Obj)) (s:XQ) (σ:St) (H:Hp) (D:Ends),Inv X pins σ H s->t D σ H->Ye (model X.prog X.w) X.A (exec st X.env) (SP X pins D) X.xe s
def sf (X:Cx)(st:List Stmt)(t:TS):Prop :=
 ∀(pins:List (Addr×Obj)) (s:XQ) (σ:St) (H:Hp) (D:Ends),Inv X pins σ H s->t D σ H->Ye (model X.prog X.w) X.A (execs st X.env) (SP X pins D) X.xe s
theorem bu {α:Type}{t:Sem α}{Q Q':α->XQ->Prop}{M:Model}{A:YX}{E:XO->XQ->Prop}{s:XQ}(h:Ye M A t Q E s)(hQ:∀a s,Q a s->Q' a s):Ye M A t Q' E s:=wpAny_mono h hQ λ_ _ x=>x
section
variable {X:Cx}
def Jh (i:Nat):TE:=λσ H Q=>∃v,σ[i]?=some (some v)/\Q v H
def tC (v:V):TE:=λ_ H Q=>Q v H
theorem BY {i:Nat} {x:Str} {pos:Pos} (hN:X.N[i]?=some x) (hv:LV X.env.scope x) (hd:(x==("__debug__" : Str))=false:=by decide) (ES:(x==("__classdict__" : Str))=false:=by decide):PE X (.Name x pos) (Jh i):=by
 intro pins s σ H Q I h;obtain⟨v,e,h⟩:=h;obtain⟨m,hn,hl⟩:=I.loc;obtain⟨u,r,l⟩:=hl i x v hN e hv;have fin:EP X pins σ Q u s:=⟨v,H,I,r,h⟩;rcases l with⟨hk,hm⟩|⟨hk,c,hc,lx⟩
 ·exact wpAny_Name (wpAny_loadName_local I.ok.kind hk hn hm fin) hd
 ·rcases hk with hk|hk
  ·exact wpAny_Name (wpAny_loadName_cell I.ok.kind hk hc lx fin) hd
  ·exact wpAny_Name (wpAny_loadName_free I.ok.kind hk hc lx fin ES) hd
theorem bb {i j pos}:PE X (.Constant (.int i) j pos) (tC (.int i)):=λ_ _ _ H _ I h=>wpAny_Constant_int ⟨.int i,H,I.tok _,⟨_,rfl⟩,h⟩
theorem B6 {b j pos}:PE X (.Constant (.bool b) j pos) (tC (.bl b)):=λ_ _ _ H _ I h=>Constant_bool ⟨.bl b,H,I,rfl,h⟩
theorem JR {j pos}:PE X (.Constant .none j pos) (tC .cj):=λ_ _ _ H _ I h=>Constant_none ⟨.cj,H,I,rfl,h⟩
def Gl (X:Cx)(x:Str):Prop:=X.env.kindOf x=some .globalImplicit
theorem Gn {E:XO->XQ->Prop}{pins:List (Addr×Obj)}{s:XQ}{σ:St}{H:Hp}{x:Str}{u:XO}{pos:Pos}{Q:XO->XQ->Prop}(I:Inv X pins σ H s)(hg:Gl X x)(hm:X.mg x=some u)(h:Q u s)
  (hd:(x==("__debug__" : Str))=false:=by decide):Ye (model X.prog X.w) X.A (eval (.Name x pos) X.env) Q E s :=
 Calls.Name_function_global I.ok.kind hg (Calls.loadGlobal_global (by rw[I.ok.glob];exact I.mod.glob.keeps I.bk) hm h) hd
theorem fH {E:XO->XQ->Prop}{pins:List (Addr×Obj)}{s:XQ}{σ:St}{H:Hp}{x:Str}{u:XO}{pos:Pos}{Q:XO->XQ->Prop}(I:Inv X pins σ H s)(hg:Gl X x)(hm:X.mg x=none)(hv:YG x=some u)(h:Q u s)
  (hn:x≠"__name__" := by decide) (hd:(x==("__debug__" : Str))=false:=by decide):Ye (model X.prog X.w) X.A (eval (.Name x pos) X.env) Q E s:=by
 obtain⟨mb,h1,h2⟩:=I.mod.blt;exact Calls.Name_function_global I.ok.kind hg (Calls.loadGlobal_builtin (by rw[I.ok.glob];exact I.mod.glob.keeps I.bk) hm (by rw[I.ok.blt];exact h1.keeps I.bk) ((h2 x hn).trans hv) h) hd
theorem qZ {x:Str} {v:V} {u:XO} {pos:Pos} (hg:Gl X x) (hm:X.mg x=none) (hv:YG x=some u) (r:RelV v u) (hn:x≠"__name__" := by decide) (hd:(x==("__debug__" : Str))=false:=by decide):PE X (.Name x pos) (tC v) :=
 λ_ _ _ H _ I h=>fH I hg hm hv ⟨v,H,I,r,h⟩ hn hd
variable {a b:Expr}{ta tb:TE}{pos:Pos}
theorem tZ (b:Expr){op:aaz}(h:op≠.In)(h2:op≠.NotIn):Z2 op b=false:=by
 have e1:(op==CmpOp.In)=false:=by cases op <;> first|rfl|exact absurd rfl h
 have e2:(op==CmpOp.NotIn)=false:=by cases op <;> first|rfl|exact absurd rfl h2
 cases b <;> simp[Z2,e1,e2]
def tB (t:TE):TT:=λσ H Q=>t σ H λx H1=>∃c,x=.bl c/\Q c H1
theorem JG {e:Expr}{t:TE}(h:PE X e t)(he:∀whole,isTrue e X.env whole=(do let v <- whole;aaO e.pos;holding [v] (truthy v)):=by intro _;rfl):PT X e (tB t):=by
 intro pins s σ H Q I hw;refine isTrue_plain (bu (h pins s σ H _ I hw) λv s1 ⟨x,H1,I1,r1,q1⟩=>?_) (he _);obtain⟨d,rfl,q⟩:=q1;cases r1;exact Zo ⟨H1,I1,q⟩
variable {tA PX:TT}{rest:List Expr}
def QO (t u:TT):TT:=λσ H Q=>t σ H λc H1=>if c=true then u σ H1 Q else Q false H1
def Vp (t u:TT):TT:=λσ H Q=>t σ H λc H1=>if c=true then Q true H1 else u σ H1 Q
def QI (t:TT):TT:=λσ H Q=>t σ H λc H1=>Q (!c) H1
theorem pw_and1 (ha:PT X a tA):PW X (.BoolOp .And [a] pos) tA:=by
 intro wh pins s σ H Q I h;refine isTrue_and (bu (ha pins s σ H Q I h) λc s1 e=>?_);cases c with
 |true=>exact isTrue_and_nil e
 |false=>exact e
theorem pw_or1 (ha:PT X a tA):PW X (.BoolOp .Or [a] pos) tA:=by
 intro wh pins s σ H Q I h;refine isTrue_or (bu (ha pins s σ H Q I h) λc s1 e=>?_);cases c with
 |false=>exact isTrue_or_nil e
 |true=>exact e
theorem pw_and (ha:PT X a tA)(hb:PW X (.BoolOp .And (b::rest) pos) PX):PW X (.BoolOp .And (a::b::rest) pos) (QO tA PX):=by
 intro wh pins s σ H Q I h;refine isTrue_and (bu (ha pins s σ H _ I h) λc s1 ⟨H1,I1,q1⟩=>?_);cases c with
 |true=>exact hb wh pins s1 σ H1 Q I1 q1
 |false=>exact⟨H1,I1,q1⟩
theorem pw_or (ha:PT X a tA)(hb:PW X (.BoolOp .Or (b::rest) pos) PX):PW X (.BoolOp .Or (a::b::rest) pos) (Vp tA PX):=by
 intro wh pins s σ H Q I h;refine isTrue_or (bu (ha pins s σ H _ I h) λc s1 ⟨H1,I1,q1⟩=>?_);cases c with
 |true=>exact⟨H1,I1,q1⟩
 |false=>exact hb wh pins s1 σ H1 Q I1 q1
theorem JH (ha:PT X a tA):PT X (.UnaryOp .Not a pos) (QI tA):=by
 intro pins s σ H Q I h;exact isTrue_not (ha pins s σ H (λc H1=>Q (!c) H1) I h)
def MM (ta tb:TE):TE:=λσ H Q=>ta σ H λx H1=>∃c,x=.bl c/\if c=true then tb σ H1 Q else Q (.bl false) H1
def QH (ta tb:TE):TE:=λσ H Q=>ta σ H λx H1=>∃c,x=.bl c/\if c=true then Q (.bl true) H1 else tb σ H1 Q
def MD (ta:TE):TE:=λσ H Q=>ta σ H λx H1=>∃c,x=.bl c/\Q (.bl (!c)) H1
theorem JP {op}{t:TE}(h:PE X a t):PE X (.BoolOp op [a] pos) t:=λpins s σ H Q I hw=>BoolOp_one (h pins s σ H Q I hw)
theorem JS (ha:PE X a ta)(hb:PE X (.BoolOp .And (b::rest) pos) tb):PE X (.BoolOp .And (a::b::rest) pos) (MM ta tb):=by
 intro pins s σ H Q I h;refine BoolOp_and (bu (ha pins s σ H _ I h) λv s1 ⟨x,H1,I1,r1,q1⟩=>?_);obtain⟨c,rfl,q1⟩:=q1;cases r1;refine Zo ?_;cases c with
 |true=>exact hb pins s1 σ H1 Q I1 q1
 |false=>exact⟨.bl false,H1,I1,rfl,q1⟩
theorem Nd (ha:PE X a ta)(hb:PE X (.BoolOp .Or (b::rest) pos) tb):PE X (.BoolOp .Or (a::b::rest) pos) (QH ta tb):=by
 intro pins s σ H Q I h;refine BoolOp_or (bu (ha pins s σ H _ I h) λv s1 ⟨x,H1,I1,r1,q1⟩=>?_);obtain⟨c,rfl,q1⟩:=q1;cases r1;refine Zo ?_;cases c with
 |false=>exact hb pins s1 σ H1 Q I1 q1
 |true=>exact⟨.bl true,H1,I1,rfl,q1⟩
theorem JQ (ha:PE X a ta):PE X (.UnaryOp .Not a pos) (MD ta):=by
 intro pins s σ H Q I h;refine UnaryOp_ (bu (ha pins s σ H _ I h) λv s1 ⟨x,H1,I1,r1,q1⟩=>?_);obtain⟨c,rfl,q1⟩:=q1;cases r1;exact not_of (Zo ⟨.bl (!c),H1,I1,rfl,q1⟩)
end
def dv (K:PySem.W.Frag)(H:Hp)(a:Addr)(xs:List V):Prop :=
 Rd H a (.lst xs) \/
  ∃(o:Obj) (its:Array XO) (n:Nat),K.lookup a=some o/\o.cls=.type "list" /\ o.dict=none/\o.data=.seq its n/\its.size<=X3/\Vals xs its.toList
def kh (K:PySem.W.Frag)(H:Hp)(a:Addr)(xs:List V):Prop :=
 Rd H a (.tup xs) \/
  ∃(o:Obj) (its:Array XO) (n:Nat),K.lookup a=some o/\o.cls=.type "tuple" /\ o.data=.seq its n/\its.size<=X3/\Vals xs its.toList
noncomputable def TB:XO->Option V
 |.none=>some .cj
 |.bool b=>some (.bl b)
 |.int i _=>some (.int i)
 |.str x _=>some (.str x)
 |.bytes b _=>some (.Pf b)
 |.float b _=>some (.Lw b)
 |.ref a=>some (.ref a)
 |.type n=>some (.ty n)
 |_=>none
theorem RelV.abs {x:V}{u:XO}(r:RelV x u):TB u=some x:=by
 cases x with
 |cj=>cases r;rfl
 |bl _=>cases r;rfl
 |int _=>obtain⟨t,rfl⟩:=r;rfl
 |str _=>obtain⟨t,rfl⟩:=r;rfl
 |Pf _=>obtain⟨t,rfl⟩:=r;rfl
 |Lw _=>obtain⟨t,rfl⟩:=r;rfl
 |ref _=>cases r;rfl
 |ty _=>cases r;rfl
theorem RelV.inj {x y:V}{u:XO}(r:RelV x u)(q:RelV y u):x=y:=Yv (r.abs.symm.trans q.abs)
theorem Vals.inj:∀{xs ys:List V} {us:List XO},Vals xs us->Vals ys us->xs=ys
 |_,_,_,.nil,.nil=>rfl
 |_,_,_,.cons r t,.cons r' t'=>by rw[r.inj r',Vals.inj t t']
section
variable {X:Cx}{pins:List (Addr×Obj)}{σ:St}{H:Hp}{s:XQ}{a:Addr}{xs ys:List V}
theorem dv.of {K:PySem.W.Frag}(h:H a=some (.lst xs)):dv K H a xs:=.inl (.inl h)
theorem kh.of {K:PySem.W.Frag}(h:H a=some (.tup xs)):kh K H a xs:=.inl (.inl h)
theorem Inv.list (I:Inv X pins σ H s)(h:dv X.K H a xs):∃its:List XO,Vals xs its/\PlainL s.heap a its.toArray/\xs.length<=X3:=by
 rcases h with h|⟨o,its,n,hk,hc,hd,hs,hz,r⟩
 ·obtain⟨z,its,n,r,e⟩:=h.ok I.a5;exact⟨its,r,⟨_,n,e,rfl,rfl,rfl⟩,z⟩
 ·refine⟨its.toList,r,⟨o,n,I.kT a o hk,hc,hd,by simpa using hs⟩,?_⟩
  have e:=r.length;simp only[Yc]at e;lia
theorem Inv.tuple (I:Inv X pins σ H s)(h:kh X.K H a xs):∃its:List XO,Vals xs its/\IsTup s.heap a its.toArray/\xs.length<=X3:=by
 rcases h with h|⟨o,its,n,hk,hc,hs,hz,r⟩
 ·obtain⟨z,its,r,p⟩:=h.ok I.a5;exact⟨its,r,p,z⟩
 ·refine⟨its.toList,r,⟨o,I.kT a o hk,hc,n,by simpa using hs⟩,?_⟩
  have e:=r.length;simp only[Yc]at e;lia
theorem Inv.CQ (I:Inv X pins σ H s)(h:dv X.K H a xs)(h':dv X.K H a ys):xs=ys:=by
 obtain⟨its,r,⟨o,n,e,_,_,d⟩,_⟩:=I.list h;obtain⟨its',r',⟨o',n',e',_,_,d'⟩,_⟩:=I.list h';rw[e]at e';cases e';rw[d]at d';injection d' with d1 _
 have:its=its':=by simpa using congrArg Array.toList d1
 subst this;exact r.inj r'
theorem Inv.yO (I:Inv X pins σ H s)(h:kh X.K H a xs)(h':kh X.K H a ys):xs=ys:=by
 obtain⟨its,r,⟨o,e,_,n,d⟩,_⟩:=I.tuple h;obtain⟨its',r',⟨o',e',_,n',d'⟩,_⟩:=I.tuple h';rw[e]at e';cases e';rw[d]at d';injection d' with d1 _
 have:its=its':=by simpa using congrArg Array.toList d1
 subst this;exact r.inj r'
end
noncomputable abbrev Cx.oA (X:Cx)(E:XO->XQ->Prop):Cx:={X with xe:=E}
abbrev Cx.HY (X:Cx):Cx:=X.oA λ_ _=>False
theorem Cx.Ok.oA {X:Cx}(ok:X.Ok)(E:XO->XQ->Prop):(X.oA E).Ok :=
 ⟨ok.mod,ok.kind,ok.glob,ok.blt,ok.above,ok.inj,ok.has,ok.Pe,ok.hd,ok.frames,ok.PY,ok.Mg,ok.bs,ok.EX,ok.zw,ok.zZ,ok.nC,ok.Mf⟩
theorem Cx.Ok.gS {X:Cx}{E:XO->XQ->Prop}(ok:(X.oA E).Ok):X.Ok :=
 ⟨ok.mod,ok.kind,ok.glob,ok.blt,ok.above,ok.inj,ok.has,ok.Pe,ok.hd,ok.frames,ok.PY,ok.Mg,ok.bs,ok.EX,ok.zw,ok.zZ,ok.nC,ok.Mf⟩
section
variable {X:Cx}{pins:List (Addr×Obj)}{σ:St}{H:Hp}{s:XQ}{E:XO->XQ->Prop}
theorem Inv.oA (I:Inv X pins σ H s)(E:XO->XQ->Prop):Inv (X.oA E) pins σ H s:=⟨I.ok.oA E,I.os,I.bare,I.base,I.loc,I.cell,I.free,I.g_,I.pin,I.a5,I.len⟩
theorem Inv.gS (I:Inv (X.oA E) pins σ H s):Inv X pins σ H s:=⟨I.ok.gS,I.os,I.bare,I.base,I.loc,I.cell,I.free,I.g_,I.pin,I.a5,I.len⟩
theorem SP.gS {D:Ends}{f:Flow}{s':XQ}(h:SP (X.oA E) pins D f s'):SP X pins D f s':=by
 cases f with
 |next=>obtain⟨σ',H',I,q⟩:=h;exact⟨σ',H',I.gS,q⟩
 |brk=>obtain⟨σ',H',I,q⟩:=h;exact⟨σ',H',I.gS,q⟩
 |cont=>obtain⟨σ',H',I,q⟩:=h;exact⟨σ',H',I.gS,q⟩
 |ret u=>obtain⟨v,σ',H',I,r,q⟩:=h;exact⟨v,σ',H',I.gS,r,q⟩
theorem sf.HY {st:List Stmt}{t:TS}(h:sf X.HY st t):sf X st t:=λpins s σ H D I hw =>
 wpAny_mono (h pins s σ H D (I.oA _) hw) (λ_ _ q=>q.gS) λ_ _ z=>aaa z
end
section
variable {X:Cx}{st:Stmt}{rest:List Stmt}{t u:TS}{e:Expr}{te:TE}{pos:Pos}
def MF:TS:=λD σ H=>D.nx σ H
def QF (t u:TS):TS:=λD σ H=>t {D with nx:=u D} σ H
theorem xq:sf X [] MF:=λ_ _ σ H _ I h=>wpAny_execs_nil ⟨σ,H,I,h⟩
theorem cz (h1:PS X st t)(h2:sf X rest u):sf X (st::rest) (QF t u):=by
 intro pins s σ H D I h;refine wpAny_execs_cons (bu (h1 pins s σ H {D with nx:=u D} I h) λf s1 q=>?_)
 cases f with
 |next =>
  obtain⟨σ',H',I',q⟩:=q;exact h2 pins s1 σ' H' D I' q
 |ret v=>exact q
 |brk=>exact q
 |cont=>exact q
theorem jD (h1:PS X st t):sf X [st] t:=by
 intro pins s σ H D I h;refine wpAny_execs_cons (bu (h1 pins s σ H D I h) λf s1 q=>?_);cases f with
 |next=>exact wpAny_execs_nil q
 |ret v=>exact q
 |brk=>exact q
 |cont=>exact q
theorem Inv.quiet {pins:List (Addr×Obj)}{σ:St}{H:Hp}{s:XQ}(I:Inv X pins σ H s):interactive X.env=false:=by simp[interactive,I.ok.kind]
def MJ (te:TE):TS:=λD σ H=>te σ H λ_ H1=>D.nx σ H1
theorem lT (he:PE X e te)(hs:Zj e none pos.line X.env=pure false:=by rfl):PS X (.Expr e pos) (MJ te):=by
 intro pins s σ H D I h;exact wpAny_Expr_any (bu (he pins s σ H _ I h) λv s1 Dq=>by obtain⟨x,H1,I1,r1,q1⟩:=Dq;exact⟨σ,H1,I1,q1⟩) I.quiet hs
def QG (te:TE):TS:=λD σ H=>te σ H D.rt
theorem i8 (he:PE X e te):PS X (.Return (some e) pos) (QG te):=by
 intro pins s σ H D I h;exact wpAny_Return_some (bu (he pins s σ H _ I h) λv s1 Dl=>by obtain⟨x,H1,I1,r1,q1⟩:=Dl;exact⟨x,σ,H1,I1,r1,q1⟩)
def QK (c:TT)(t u:TS):TS:=λD σ H=>c σ H λb H1=>if b=true then t D σ H1 else u D σ H1
theorem HM {c:Expr}{a b:List Stmt}{tc:TT}(hc:PT X c tc)(ha:sf X a t)(hb:sf X b u):PS X (.If c a b pos) (QK tc t u):=by
 intro pins s σ H D I h;refine wpAny_If (bu (hc pins s σ H _ I h) λd s1 ⟨H1,I1,q1⟩=>?_);cases d with
 |true=>exact ha pins s1 σ H1 D I1 q1
 |false=>exact hb pins s1 σ H1 D I1 q1
def Ji:TS:=λ_ _ _=>False
theorem zg {Vy:List Stmt}:sf X Vy Ji:=λ_ _ _ _ _ _ h=>h.elim
end
abbrev TG:=V->St->Hp->(St->Hp->Prop)->Prop
abbrev IH:=List V->St->Hp->(St->Hp->Prop)->Prop
def PG (X:Cx)(target:Expr)(t:TG):Prop :=
 ∀(pins:List (Addr×Obj)) (s:XQ) (σ:St) (H:Hp) (v:V) (u:XO) (Q:St->Hp->Prop),Inv X pins σ H s->RelV v u->t v σ H Q ->
  Ye (model X.prog X.w) X.A (assign target X.env u) (λ_ s'=>∃σ' H',Inv X pins σ' H' s'/\Q σ' H') X.xe s
def IJ (X:Cx)(ts:List Expr)(t:IH):Prop :=
 ∀(pins:List (Addr×Obj)) (s:XQ) (σ:St) (H:Hp) (vs:List V) (us:List XO) (Q:St->Hp->Prop),Inv X pins σ H s->Vals vs us->t vs σ H Q ->
  Ye (model X.prog X.w) X.A (assignInOrder ((ZX ts X.env).map (·.2)) us) (λ_ s'=>∃σ' H',Inv X pins σ' H' s'/\Q σ' H') X.xe s
abbrev LW:=V->V->V->Hp->(Hp->Prop)->Prop
def Po (X:Cx)(t:LW):Prop :=
 ∀(pins:List (Addr×Obj)) (s:XQ) (σ:St) (H:Hp) (o i v:V) (ov iv u:XO) (Q:Hp->Prop),Inv X pins σ H s->RelV o ov->RelV i iv->RelV v u->t o i v H Q ->
  Ye (model X.prog X.w) X.A (setItem ov iv u) (λ_ s'=>∃H',Inv X pins σ H' s'/\Q H') X.xe s
section
variable {X:Cx}{pos:Pos}
def Iu (i:Nat):TG:=λv σ H Q=>Q (σ.set i (some v)) H
theorem FJ {i:Nat}{x:Str}(hN:X.N.Nodup)(hi:X.N[i]?=some x)(hx:Loc X.env.scope x)(hf:X.fn x=true\/X.env.scope.names.lookup x=some .local:=by first|exact .inl rfl|exact .inr rfl|assumption):PG X (.Name x pos) (Iu i):=by
 intro pins s σ H v u Q I r h;exact wpAny_assign_Name (sQ I hN hi hx r (λs' I'=>⟨_,H,I',h⟩) hf)
def Lu:IH:=λvs σ H Q=>vs=[]/\Q σ H
def DA (t:TG)(u:IH):IH:=λvs σ H Q=>∃v r,vs=v::r/\t v σ H λσ' H'=>u r σ' H' Q
theorem FI:IJ X [] Lu:=by
 intro pins s σ H vs us Q I r h;obtain⟨e,h⟩:=h;subst e;cases r;exact assignInOrder_nil ⟨σ,H,I,h⟩
theorem BV {e:Expr}{es:List Expr}{t:TG}{u:IH}(h1:PG X e t)(h2:IJ X es u)
  (hs:(ZX (e::es) X.env).map (·.2)=assign e X.env::(ZX es X.env).map (·.2):=by rfl):IJ X (e::es) (DA t u):=by
 intro pins s σ H vs us Q I r h;obtain⟨v,vr,e1,h⟩:=h;subst e1;cases r with
 |cons r rr =>
  rw[hs];refine assignInOrder_cons (bu (h1 pins s σ H _ _ _ I r h) λ_ s1 ⟨σ1,H1,I1,q1⟩=>?_);exact h2 pins s1 σ1 H1 _ _ Q I1 rr q1
def S_ (K:PySem.W.Frag)(n:Nat)(t:IH):TG:=λv σ H Q=>∃a xs,v=.ref a/\kh K H a xs/\xs.length=n/\t xs σ H Q
theorem JN {es:List Expr}{k:Nat}{t:IH}{n:Nat}(hc:X.calm=true)(h:IJ X es t)
  (hn:(ZX es X.env).length=n:=by rfl) (K1:(ZX es X.env).findIdx? (·.1)=none:=by rfl):PG X (.Tuple es k pos) (S_ X.K n t):=by
 intro pins s σ H v u Q I r hw;obtain⟨a,xs,e1,hq,hl,hw⟩:=hw;subst e1;cases r;obtain⟨its,rv,ht,hz⟩:=I.tuple hq;refine assign_Tuple_tuple (I.ok.hd hc) ht (by simp[hn,<- hl,rv.length]) K1 λh' hx=>?_
 have I1:Inv X pins σ H {s with heap:=h'}:=I.kept (t':=s.toks) λb o e=>hx b o (Yk (X8 e)) e
 exact h pins _ σ H xs _ Q I1 (by simpa using rv) hw
def Ta (to ti:TE)(t:LW):TG:=λv σ H Q=>to σ H λo H1=>ti σ H1 λi H2=>t o i v H2 λH3=>Q σ H3
theorem BW {o i:Expr}{to ti:TE}{t:LW}(ho:PE X o to)(hi:PE X i ti)(hs:Po X t)
  (ha:∀v,assign (.Subscript o i pos) X.env v=(do
   let ov <- holding [v] (eval o X.env)
   let iv <- holding [v,ov] (eval i X.env)
   aaO pos
   holding [v,ov,iv] (setItem ov iv v)
   release [v,ov,iv] []):=by intro _;rfl):PG X (.Subscript o i pos) (Ta to ti t):=by
 intro pins s σ H v u Q I r h;rw[ha];refine XM (YU (bu (ho pins s σ H _ I h) λov s1 ⟨x,H1,I1,r1,q1⟩=>?_));refine XM (YU (bu (hi pins s1 σ H1 _ I1 q1) λiv s2 ⟨y,H2,I2,r2,q2⟩=>?_));refine XM (Zw (XM (YU (bu (hs pins s2 σ H2 x y v ov iv u _ I2 r1 r2 r q2) λ_ s3 ⟨H3,I3,q3⟩=>?_))));exact wpAny_release ⟨σ,H3,I3,q3⟩
def ML (te:TE)(g:TG):TS:=λD σ H=>te σ H λx H1=>g x σ H1 D.nx
theorem vM {tg e:Expr}{te:TE}{g:TG}(he:PE X e te)(hg:PG X tg g)(hs:swapsWithSole [tg] e pos.line X.env=pure false:=by rfl)(hw:swappedStores [tg] e X.env=pure none:=by rfl)
  (h1:(ZX [tg] X.env).map (·.2)=[assign tg X.env]:=by rfl):PS X (.Assign [tg] e pos) (ML te g):=by
 intro pins s σ H D I h;refine wpAny_Assign_stores (bu (he pins s σ H _ I h) λv s1 ⟨x,H1,I1,r1,q1⟩=>?_) hs hw;rw[h1];exact bu (hg pins s1 σ H1 x v _ I1 r1 q1) λ_ s2 q=>q
theorem i7 {i:Nat}{x:Str}{e:Expr}{te:TE}{pos':Pos}(hN:X.N.Nodup)(hi:X.N[i]?=some x)(hx:Loc X.env.scope x)(he:PE X e te)(hs:Zj e (some (.Name x pos')) pos.line X.env=pure false:=by rfl)(hf:X.fn x=true\/X.env.scope.names.lookup x=some .local:=by first|exact .inl rfl|exact .inr rfl|assumption):
  PS X (.Assign [.Name x pos'] e pos) (ML te (Iu i)):=by
 intro pins s σ H D I h;refine wpAny_Assign_Name (bu (he pins s σ H _ I h) λv s1 ⟨y,H1,I1,r1,q1⟩=>?_) hs;exact sQ I1 hN hi hx r1 (λs2 I2=>⟨_,H1,I2,q1⟩) hf
end
section
variable {X:Cx}{pos:Pos}
def Jf (c:TT)(tb:TS):TS:=λD σ H=>∃W:Nat->St->Hp->Prop,(∃m,W m σ H)/\∀m σ H,W m σ H ->
 c σ H λb H1=>if b=true then ∃N:St->Hp->Prop,(∀σ' H',N σ' H'->∃m',m'<m/\W m' σ' H')/\tb {D with nx:=N,ct:=N,bk:=D.nx} σ H1 else D.nx σ H1
theorem BG {c:Expr}{body:List Stmt}{tc:TT}{tb:TS}(hp:PassesOwn (model X.prog X.w) X.A X.env X.xe)(hc:PT X c tc)(hb:sf X body tb):PS X (.While c body [] pos) (Jf tc tb):=by
 intro pins s σ H D I h;obtain⟨W,⟨m0,w0⟩,turn⟩:=h;refine wpAny_While (codeAny_whileLoop (λn s'=>∃σ' H',Inv X pins σ' H' s'/\W n σ' H') ?_ m0 ⟨σ,H,I,w0⟩);rintro n s1 ⟨σ1,H1,I1,w1⟩;refine Z1 hp (bu (hc pins s1 σ1 H1 _ I1 (turn n σ1 H1 w1)) λb s2 ⟨H2,I2,q2⟩=>?_);cases b with
 |true =>
  obtain⟨N,hN,q2⟩:=q2;rw[if_pos rfl];refine Z1 hp (bu (hb pins s2 σ1 H2 _ I2 q2) λf s3 q3=>?_);cases f with
  |next =>
   obtain⟨σ3,H3,I3,n3⟩:=q3;obtain⟨m',hm,w3⟩:=hN σ3 H3 n3;exact⟨m',hm,σ3,H3,I3,w3⟩
  |cont =>
   obtain⟨σ3,H3,I3,n3⟩:=q3;obtain⟨m',hm,w3⟩:=hN σ3 H3 n3;exact⟨m',hm,σ3,H3,I3,w3⟩
  |brk=>exact q3
  |ret v=>exact q3
 |false =>
  rw[if_neg aak];exact wpAny_execs_nil ⟨σ1,H2,I2,q2⟩
end
structure It where
 go:Nat->Hp->Prop
 Mt:Nat->Hp->V->Hp->Prop
 stop:Nat->Hp->Prop
def fc (X:Cx)(pins:List (Addr×Obj))(H:Hp)(b:Addr):Prop :=
 H b=none/\b≠X.env.locals/\b∉X.fs/\(b∈X.ex\/X.s₀.heap.objs.size<=b)/\(∀x c,X.env.cells.lookup x=some c->c≠b)/\∀p∈X.pn++pins,p.1≠b
theorem Inv.rN {X:Cx}{pins:List (Addr×Obj)}{σ:St}{H H':Hp}{s:XQ}{b:Addr}(I:Inv X pins σ H s)(hb:s.heap.objs.size<=b)(hn:H' b=none):fc X pins H' b:=by
 refine⟨hn,aaG (Yo I.lt hb),I.Ry hb,.inr (Yz I.sz hb),λx c e z=>?_,λp hp z=>?_⟩
 ·obtain⟨v,q⟩:=I.cell x c e;exact absurd (Yo q.lt (by rw[z];exact hb)) (Z4 _)
 ·exact absurd (Yo (X8 (I.pin p hp).1) (by rw[z];exact hb)) (Z4 _)
structure Turn (P:XX)(w:X6)(K:PySem.W.Frag)(tg:Expr)(J:It)(fp:List Addr)(it:Addr)(tn:Nat->Heap->Prop):Prop where
 mem:it∈fp
 obj:∀i h,tn i h->∀b∈fp,∃o,h.get? b=some o/\∀v,o.data≠.cell v
 keep:∀i h h',tn i h->(∀b∈fp,∀o,h.get? b=some o->h'.get? b=some o)->tn i h'
 item:∀(X:Cx),X.prog=P->X.w=w->X.K=K->X.calm=true->∀(i:Nat) (pins:List (Addr×Obj)) (s:XQ) (σ:St) (H:Hp) (E:XO->XQ->Prop),Inv X pins σ H s->(∀b∈fp,fc X pins H b)->tn i s.heap->J.go i H ->
  Ye (model P w) X.A (aav (.ref it)) (λr s1=>∃u,r=some u /\
   Ye (model P w) X.A (letOwnedTupleGo tg (.ref it) u) (λ_ s2=>∃x H',Inv X pins σ H' s2/\RelV x u/\J.Mt i H x H'/\tn (i+1) s2.heap/\∀b∈fp,H' b=none) E s1) E s
 done:∀(X:Cx),X.prog=P->X.w=w->X.K=K->X.calm=true->∀(i:Nat) (pins:List (Addr×Obj)) (s:XQ) (σ:St) (H:Hp) (E:XO->XQ->Prop),Inv X pins σ H s->(∀b∈fp,fc X pins H b)->tn i s.heap->J.stop i H ->
  Ye (model P w) X.A (aav (.ref it)) (λr s1=>r=none/\Inv X pins σ H s1) E s
 self:∀(A:YX) (i:Nat) (s:XQ) (Q:XO->XQ->Prop) (E:XO->XQ->Prop),tn i s.heap->Q (.ref it) s->Ye (model P w) A (pyIter (.ref it)) Q E s
abbrev TI:=St->Hp->(It->Hp->Prop)->Prop
def LZ (X:Cx)(pins:List (Addr×Obj))(σ:St)(tg:Expr)(R:It->Hp->Prop)(AF:XO)(s2:XQ):Prop :=
 ∃(it:Addr) (fp:List Addr) (tn:Nat->Heap->Prop) (J:It) (H':Hp),AF=.ref it/\Inv X pins σ H' s2/\Turn X.prog X.w X.K tg J fp it tn/\tn 0 s2.heap/\(∀b∈fp,fc X pins H' b)/\R J H'
def PI (X:Cx)(tg iter:Expr)(wi:TI):Prop :=
 ∀(pins:List (Addr×Obj)) (s:XQ) (σ:St) (H:Hp) (R:It->Hp->Prop),Inv X pins σ H s->wi σ H R ->
  Ye (model X.prog X.w) X.A (eval iter X.env) (λv s1=>Ye (model X.prog X.w) X.A (pyIter v) (LZ X pins σ tg R) X.xe s1) X.xe s
theorem ux {M:Model}{A:YX}{E:XO->XQ->Prop}{s:XQ}{tg:Expr}{it:Addr}{u:XO}{o:Obj}{n:String}{vs:Array XO}{Q:Unit->XQ->Prop}(ho:s.heap.get? it=some o)(hc:o.cls=.type n)(hd:o.data=.fields vs)
  (hn:["enumerate","zip","dict_itemiterator","dict_reverseitemiterator","odict_iterator","itertools.zip_longest","itertools.pairwise"].contains n=false) (hQ:Q () s):Ye M A (letOwnedTupleGo tg (.ref it) u) Q E s:=by
 unfold letOwnedTupleGo;cases tg <;> first
  |exact XT hQ
  | (cases u <;> first
    |exact XT hQ
    | (refine XM (wpAny_load ho ?_)
       rw[hc,hd];show Ye M A (if (["enumerate","zip","dict_itemiterator","dict_reverseitemiterator","odict_iterator","itertools.zip_longest","itertools.pairwise"].contains n&&vs[0]?==some (rawInt _))=true then _ else _) Q E s
       rw[if_neg (by intro h;rw[hn,Bool.false_and]at h;cases h)]
       exact XT hQ))
def Qx (K:PySem.W.Frag)(a:Addr):It :=
 ⟨λi H=>∃xs x,dv K H a xs/\xs[i]?=some x,λi H x H'=>H'=H/\∀xs,dv K H a xs->xs[i]?=some x,λi H=>∃xs,dv K H a xs/\xs.length<=i⟩
def TR (K:PySem.W.Frag)(a:Addr):It :=
 ⟨λi H=>∃xs x,kh K H a xs/\xs[i]?=some x,λi H x H'=>H'=H/\∀xs,kh K H a xs->xs[i]?=some x,λi H=>∃xs,kh K H a xs/\xs.length<=i⟩
def Pt (lo:Int)(n:Nat):It:=⟨λi _=>i<n,λi H x H'=>H'=H/\x=.int (lo+i),λi _=>n<=i⟩
theorem yN {P:XX}{w:X6}{K:PySem.W.Frag}{tg:Expr}(a it:Addr):Turn P w K tg (Qx K a) [it] it (λi h=>h.IsListIter it a i) where
 mem:=by simp
 obj:=λi h st b hb=>by
  have e:b=it:=by simpa using hb
  subst e;obtain⟨o,e,c,d⟩:=st;exact⟨o,e,λv z=>by rw[d]at z;cases z⟩
 keep:=λi h h' st k=>st.at λo e=>k it (by simp) o e
 item:=by
  intro X hP hw hK hc i pins s σ H E I hf st hg;subst hP hw hK;obtain⟨xs,x,hq,hx⟩:=hg;obtain⟨its,rv,p,hz⟩:=I.list hq;obtain⟨u,hu,ru⟩:=rv.get hx;obtain⟨f0,f1,f2,f3,f4,f5⟩:=hf it (by simp)
  refine wpAny_pyNext_list_item st p.isList (x:=u) (by simpa using hu) λh' vh sb=>?_
  have I1:Inv X pins σ H {s with heap:=h'}:=I.turned (t':=s.toks) (λb o hb e=>(sb.2 b hb).trans e) f0 f1 f3 f4 f5
  obtain⟨o,e,c,d⟩:=id vh;exact⟨u,rfl,ux (s:={s with heap:=h'}) e c d (by decide) ⟨x,H,I1,ru,⟨rfl,λys hy=>by rw[I.CQ hy hq];exact hx⟩,vh,λb hb=>(hf b hb).1⟩⟩
 done:=by
  intro X hP hw hK hc i pins s σ H E I hf st hg;subst hP hw hK;obtain⟨xs,hq,hx⟩:=hg;obtain⟨its,rv,p,hz⟩:=I.list hq;obtain⟨f0,f1,f2,f3,f4,f5⟩:=hf it (by simp)
  have hl:=rv.length;exact wpAny_pyNext_list_end (I.ok.hd hc) st p.isList (by simp;lia) λh' eb=>⟨rfl,I.turned (t':=s.toks) (λb o hb e=>eb b o hb e) f0 f1 f3 f4 f5⟩
 self:=λ_ _ _ _ _ st h=>wpAny_pyIter_listiter st h
theorem vB {P:XX}{w:X6}{K:PySem.W.Frag}{tg:Expr}(a it:Addr):Turn P w K tg (TR K a) [it] it (λi h=>h.IsTupleIter it a i) where
 mem:=by simp
 obj:=λi h st b hb=>by
  have e:b=it:=by simpa using hb
  subst e;obtain⟨o,e,c,d⟩:=st;exact⟨o,e,λv z=>by rw[d]at z;cases z⟩
 keep:=λi h h' st k=>st.at λo e=>k it (by simp) o e
 item:=by
  intro X hP hw hK hc i pins s σ H E I hf st hg;subst hP hw hK;obtain⟨xs,x,hq,hx⟩:=hg;obtain⟨its,rv,p,hz⟩:=I.tuple hq;obtain⟨u,hu,ru⟩:=rv.get hx;obtain⟨f0,f1,f2,f3,f4,f5⟩:=hf it (by simp)
  refine wpAny_pyNext_tuple_item st (show s.heap.IsTuple a its.toArray from p) (x:=u) (by simpa using hu) λh' vh sb=>?_
  have I1:Inv X pins σ H {s with heap:=h'}:=I.turned (t':=s.toks) (λb o hb e=>(sb.2 b hb).trans e) f0 f1 f3 f4 f5
  obtain⟨o,e,c,d⟩:=id vh;exact⟨u,rfl,ux (s:={s with heap:=h'}) e c d (by decide) ⟨x,H,I1,ru,⟨rfl,λys hy=>by rw[I.yO hy hq];exact hx⟩,vh,λb hb=>(hf b hb).1⟩⟩
 done:=by
  intro X hP hw hK hc i pins s σ H E I hf st hg;subst hP hw hK;obtain⟨xs,hq,hx⟩:=hg;obtain⟨its,rv,p,hz⟩:=I.tuple hq;obtain⟨f0,f1,f2,f3,f4,f5⟩:=hf it (by simp)
  have hl:=rv.length;exact wpAny_pyNext_tuple_end (I.ok.hd hc) st (show s.heap.IsTuple a its.toArray from p) (by simp;lia) λh' eb=>⟨rfl,I.turned (t':=s.toks) (λb o hb e=>eb b o hb e) f0 f1 f3 f4 f5⟩
 self:=λ_ _ _ _ _ st h=>wpAny_pyIter_tupleiter st h
theorem vC {P:XX}{w:X6}{K:PySem.W.Frag}{tg:Expr}(it:Addr)(lo:Int)(n:Nat):Turn P w K tg (Pt lo n) [it] it (λi h=>IsRangeIter h it (lo+(i:Nat)*1) ((n:Int)-(i:Nat)) 1) where
 mem:=by simp
 obj:=λi h st b hb=>by
  have e:b=it:=by simpa using hb
  subst e;exact⟨_,st,λv z=>by
   have z':Data.fields _=Data.cell v:=z;cases z'⟩
 keep:=λi h h' st k=>k it (by simp) _ st
 item:=by
  intro X hP hw hK hc i pins s σ H E I hf st hg;subst hP hw hK;obtain⟨f0,f1,f2,f3,f4,f5⟩:=hf it (by simp)
  have W:=Walks.range (prog:=X.prog) (w:=X.w) (I.ok.hd hc) it lo 1 n;refine W.item i s _ _ hg st λv h' tk hv vh kk=>?_;obtain⟨t,rfl⟩:=hv;have I1:Inv X pins σ H {s with heap:=h',toks:=tk}:=I.turned (λb o hb e=>kk b o (by simpa using hb) e) f0 f1 f3 f4 f5
  refine⟨_,rfl,ux (s:={s with heap:=h',toks:=tk}) (n:="range_iterator") vh rfl rfl (by decide) ⟨.int (lo+i),H,I1,⟨t,?_⟩,⟨rfl,rfl⟩,vh,λb hb=>(hf b hb).1⟩⟩
  rw[Int.mul_one]
 done:=by
  intro X hP hw hK hc i pins s σ H E I hf st hg;subst hP hw hK;obtain⟨f0,f1,f2,f3,f4,f5⟩:=hf it (by simp)
  exact wpAny_pyNext_range_end (I.ok.hd hc) st (by have:n<=i:=hg;lia) λh' eb=>⟨rfl,I.turned (t':=s.toks) (λb o hb e=>eb b o hb e) f0 f1 f3 f4 f5⟩
 self:=λ_ _ _ _ _ st h=>wpAny_pyIter_rangeiter st h
section
variable {X:Cx}{tg:Expr}
def NX (K:PySem.W.Frag)(tl:TE):TI:=λσ H R=>tl σ H λx H1=>∃a,x=.ref a/\(∃xs,dv K H1 a xs)/\R (Qx K a) H1
def RT (K:PySem.W.Frag)(tl:TE):TI:=λσ H R=>tl σ H λx H1=>∃a,x=.ref a/\(∃xs,kh K H1 a xs)/\R (TR K a) H1
theorem xB {l:Expr}{tl:TE}(hl:PE X l tl):PI X tg l (NX X.K tl):=by
 intro pins s σ H R I h;refine bu (hl pins s σ H _ I h) λv s1 ⟨x,H1,I1,r1,q1⟩=>?_;obtain⟨a,e,⟨xs,hq⟩,q⟩:=q1;subst e;cases r1;obtain⟨its,rv,p,hz⟩:=I1.list hq;refine wpAny_pyIter_list p.isList ?_;refine⟨s1.heap.objs.size,[s1.heap.objs.size],_,_,H1,rfl,I1.kept (t':=s1.toks) λb o e=>XR _ e,yN a _,⟨_,X_ _ rfl,rfl,rfl⟩,λb hb=>?_,q⟩;have e:b=s1.heap.objs.size:=by simpa using hb
 subst e;exact I1.rN (XS _) (I1.a5.fresh (XS _))
theorem JM {l:Expr}{tl:TE}(hl:PE X l tl):PI X tg l (RT X.K tl):=by
 intro pins s σ H R I h;refine bu (hl pins s σ H _ I h) λv s1 ⟨x,H1,I1,r1,q1⟩=>?_;obtain⟨a,e,⟨xs,hq⟩,q⟩:=q1;subst e;cases r1;obtain⟨its,rv,p,hz⟩:=I1.tuple hq;refine wpAny_pyIter_tuple (show s1.heap.IsTuple a its.toArray from p) ?_
 refine⟨s1.heap.objs.size,[s1.heap.objs.size],_,_,H1,rfl,I1.kept (t':=s1.toks) λb o e=>XR _ e,vB a _,⟨_,X_ _ rfl,rfl,rfl⟩,λb hb=>?_,q⟩;have e:b=s1.heap.objs.size:=by simpa using hb
 subst e;exact I1.rN (XS _) (I1.a5.fresh (XS _))
theorem tj {pins:List (Addr×Obj)}{σ:St}{H:Hp}{s:XQ}{R:It->Hp->Prop}{E:XO->XQ->Prop}{lo hi:Int}{t u v:Tok}{tk:Nat}(I:Inv X pins σ H s)(h1:-(2 ^ 62)<=lo)(h2:lo<2 ^ 62)(h3:-(2 ^ 62)<=hi)(h4:hi<2 ^ 62)
  (q:R (Pt lo (hi-lo).toNat) H):Ye (model X.prog X.w) X.A (pyIter (.ref s.heap.objs.size)) (LZ X pins σ tg R) E {s with heap:=s.heap.push {cls:=.type "range",data:=.fields #[.int lo t,.int hi u,.int 1 v]},toks:=tk}:=by
 refine wpAny_pyIter_range (IsRange.new ..) (small_one h1 h2 h3 h4) ?_;have I1:Inv X pins σ H {s with heap:=s.heap.push {cls:=.type "range",data:=.fields #[.int lo t,.int hi u,.int 1 v]},toks:=tk}:=I.kept λb o e=>XR _ e
 refine⟨(s.heap.push {cls:=.type "range",data:=.fields #[.int lo t,.int hi u,.int 1 v]}).objs.size,[(s.heap.push {cls:=.type "range",data:=.fields #[.int lo t,.int hi u,.int 1 v]}).objs.size],_,_,H,rfl,
  I1.kept (t':=tk) λb o e=>XR _ e,vC _ lo (hi-lo).toNat,?_,λb hb=>?_,q⟩
 ·have e1:lo+((0:Nat):Int)*1=lo:=by simp
  have e2:(((hi-lo).toNat:Nat):Int)-((0:Nat):Int)=ZV lo hi 1:=by rw[rangeSize_one];split <;> lia
  show IsRangeIter _ _ (lo+((0:Nat):Int)*1) ((((hi-lo).toNat:Nat):Int)-((0:Nat):Int)) 1;rw[e1,e2];exact X_ _ rfl
 ·have e:b=(s.heap.push {cls:=.type "range",data:=.fields #[.int lo t,.int hi u,.int 1 v]}).objs.size:=by simpa using hb
  subst e;exact I1.rN (XS _) (I1.a5.fresh (XS _))
def NW (ta:TA):TI:=λσ H R=>ta σ H λvs H1=>∃j:Int,vs=[.int j]/\-(2 ^ 62)<=j/\j<2 ^ 62/\R (Pt 0 j.toNat) H1
def NV (ta:TA):TI:=λσ H R=>ta σ H λvs H1=>∃i j:Int,vs=[.int i,.int j]/\(-(2 ^ 62)<=i/\i<2 ^ 62/\-(2 ^ 62)<=j/\j<2 ^ 62)/\R (Pt i (j-i).toNat) H1
theorem zm {a:Expr} {ta:TA} {p pos:Pos} (hg:Gl X "range") (hm:X.mg "range" = none) (ha:PA X [a] ta) (hs:X2 [a] X.env=[(false,eval a X.env)]:=by rfl):PI X tg (.Call (.Name "range" p) [a] [] pos) (NW ta):=by
 intro pins s σ H R I h;refine Call_ (fH I hg hm boot_range (Y0 (bu (ha pos pins s σ H _ I h) λus s1 ⟨vs,H1,I1,r1,q1⟩=>?_) hs rfl));obtain⟨j,e,q1,q2,q⟩:=q1;subst e;cases r1 with
 |cons r rr =>
  cases rr;obtain⟨t,rfl⟩:=r;exact call_range_1 (tj I1 (by lia) (by lia) q1 q2 (by simpa using q))
theorem pF {a b:Expr} {ta:TA} {p pos:Pos} (hg:Gl X "range") (hm:X.mg "range" = none) (ha:PA X [a,b] ta) (hs:X2 [a,b] X.env=[(false,eval a X.env),(false,eval b X.env)]:=by rfl) (jT:X2 [b] X.env=[(false,eval b X.env)]:=by rfl) :
  PI X tg (.Call (.Name "range" p) [a,b] [] pos) (NV ta):=by
 intro pins s σ H R I h;refine Call_ (fH I hg hm boot_range (Y0 (bu (ha pos pins s σ H _ I h) λus s1 ⟨vs,H1,I1,r1,q1⟩=>?_) (by rw[hs,jT]) (by rw[jT];rfl)))
 obtain⟨i,j,e,⟨q1,q2,q3,q4⟩,q⟩:=q1;subst e;cases r1 with
 |cons r rr =>
  cases rr with
  |cons r' rr =>
   cases rr;obtain⟨t,rfl⟩:=r;obtain⟨t',rfl⟩:=r';exact call_range_2 (tj I1 q1 q2 q3 q4 q)
def QL (wi:TI)(g:TG)(tb:TS):TS:=λD σ H=>wi σ H λJ H1=>∃W:Nat->Nat->St->Hp->Prop,(∃m,W 0 m σ H1)/\∀i m σ H,W i m σ H ->
 (J.stop i H/\D.nx σ H)\/(J.go i H/\∃N:St->Hp->Prop,(∀σ' H',N σ' H'->∃m',m'<m/\W (i+1) m' σ' H')/\∀x H',J.Mt i H x H'->g x σ H' λσ2 H2=>tb {D with nx:=N,ct:=N,bk:=D.nx} σ2 H2)
def mR (fp:List Addr)(h:Heap):List (Addr×Obj):=fp.filterMap λb=>(h.get? b).map λo=>(b,o)
theorem gq {fp:List Addr}{h:Heap}{b:Addr}{o:Obj}(hb:b∈fp)(e:h.get? b=some o):(b,o)∈mR fp h:=aaL.mpr ⟨b,hb,by rw[e];rfl⟩
theorem zu {fp:List Addr}{h:Heap}{p:Addr×Obj}(hp:p∈mR fp h):p.1∈fp/\h.get? p.1=some p.2:=by
 obtain⟨b,hb,e⟩:=aaL.mp hp;cases q:h.get? b with
 |none=>rw[q]at e;cases e
 |some o =>
  rw[q]at e;have e':(b,o)=p:=Yv e;subst e';exact⟨hb,q⟩
theorem Inv.pinned {pins:List (Addr×Obj)}{σ:St}{H:Hp}{s:XQ}{fp:List Addr}(I:Inv X pins σ H s)(hf:∀b∈fp,fc X pins H b)(ho:∀b∈fp,∃o,s.heap.get? b=some o/\∀v,o.data≠.cell v):Inv X (pins++mR fp s.heap) σ H s :=
 I.xy λp hp=>(XZ.mp hp).elim (λz=>I.pin p (Yn _ z)) λz=>by
  obtain⟨hb,e⟩:=zu z;obtain⟨f0,f1,f2,_⟩:=hf p.1 hb;obtain⟨o,e',d⟩:=ho p.1 hb;rw[e]at e';cases e';exact⟨e,f0,f1,f2,d⟩
theorem Inv.jA {pins pl:List (Addr×Obj)}{σ:St}{H:Hp}{s:XQ}(I:Inv X (pins++pl) σ H s):Inv X pins σ H s:=I.xy λp hp=>I.pin p (Yn _ (Yq _ hp))
theorem BH {iter:Expr}{body:List Stmt}{wi:TI}{g:TG}{tb:TS}{pos:Pos}(hp:PassesOwn (model X.prog X.w) X.A X.env X.xe)(hc:X.calm=true)(hi:PI X tg iter wi)(hg:PG X tg g)(hb:sf X body tb)
  (hs:∀x,Yp iter X.env x=pure x:=by intro _;rfl):PS X (.For tg iter body [] pos) (QL wi g tb):=by
 intro pins s σ H D I h;refine wpAny_For (bu (hi pins s σ H _ I h) λv s1 h1=>bu h1 λAF s2 h2=>?_) hs;obtain⟨it,fp,tn,J,H2,e,I2,T,Be,f2,W,⟨m0,w0⟩,turn⟩:=h2;subst e;have vE:∀{H':Hp},(∀b∈fp,H' b=none)->∀b∈fp,fc X pins H' b:=λhn b hb=>⟨hn b hb,(f2 b hb).2⟩;refine codeAny_forLoop_any (λn s'=>∃i σ' H',Inv X pins σ' H' s'/\tn i s'.heap/\(∀b∈fp,H' b=none)/\W i n σ' H') ?_ m0 ⟨0,σ,H2,I2,Be,λb hb=>(f2 b hb).1,w0⟩;rintro n s3 ⟨i,σ3,H3,I3,MN,O6,w3⟩;rcases turn i n σ3 H3 w3 with⟨stop,qn⟩|⟨go,N,hN,step⟩
 ·refine Z1 hp (bu (T.done X rfl rfl rfl hc i pins s3 σ3 H3 X.xe I3 (vE O6) MN stop) λr s4 ⟨hr,I4⟩=>?_);subst hr;exact wpAny_execs_nil ⟨σ3,H3,I4,qn⟩
 ·refine Z1 hp (bu (T.item X rfl rfl rfl hc i pins s3 σ3 H3 X.xe I3 (vE O6) MN go) λr s4 ⟨u,hr,h4⟩=>?_);subst hr;refine Z1 hp (bu h4 λ_ s5 ⟨x,H5,I5,r5,y5,Jn,Tb⟩=>?_);have TU:=I5.pinned (vE Tb) (T.obj _ _ Jn);refine Z1 hp (bu (hg _ s5 σ3 H5 x u _ TU r5 (step x H5 y5)) λ_ s6 ⟨σ6,H6,I6,q6⟩=>?_);refine Z1 hp (bu (hb _ s6 σ6 H6 _ I6 q6) λf s7 q7=>?_);have again:∀{σ7:St} {H7:Hp},Inv X (pins++mR fp s5.heap) σ7 H7 s7->N σ7 H7->∃m,m<n/\∃i σ' H',Inv X pins σ' H' s7/\tn i s7.heap/\(∀b∈fp,H' b=none)/\W i m σ' H':=λ{σ7 H7} I7 n7=>by
   obtain⟨m',hm,w7⟩:=hN σ7 H7 n7;refine⟨m',hm,i+1,σ7,H7,I7.jA,T.keep _ _ _ Jn λb hb o e=>(I7.pin (b,o) (Yn _ (Yn _ (gq hb e)))).1,λb hb=>?_,w7⟩;obtain⟨o,e,d⟩:=T.obj _ _ Jn b hb;exact(I7.pin (b,o) (Yn _ (Yn _ (gq hb e)))).2.1
  cases f with
  |next=>obtain⟨σ7,H7,I7,n7⟩:=q7;exact again I7 n7
  |cont=>obtain⟨σ7,H7,I7,n7⟩:=q7;exact again I7 n7
  |brk=>obtain⟨σ7,H7,I7,q7⟩:=q7;exact⟨σ7,H7,I7.jA,q7⟩
  |ret v=>obtain⟨x7,σ7,H7,I7,r7,q7⟩:=q7;exact⟨x7,σ7,H7,I7.jA,r7,q7⟩
end
abbrev R2:=V->V->Hp->VK->Prop
def jy (X:Cx)(f:XO->XO->Sem XO)(r:R2):Prop :=
 ∀(pins:List (Addr×Obj)) (s:XQ) (σ:St) (H:Hp) (x y:V) (v u:XO) (Q:VK),Inv X pins σ H s->RelV x v->RelV y u->r x y H Q ->
  Ye (model X.prog X.w) X.A (f v u) (EP X pins σ Q) X.xe s
def Pk (X:Cx)(f:XO->Sem XO)(r:V->Hp->VK->Prop):Prop :=
 ∀(pins:List (Addr×Obj)) (s:XQ) (σ:St) (H:Hp) (x:V) (v:XO) (Q:VK),Inv X pins σ H s->RelV x v->r x H Q ->
  Ye (model X.prog X.w) X.A (f v) (EP X pins σ Q) X.xe s
def dW (X:Cx)(f:XO)(r:List V->Hp->VK->Prop):Prop :=
 ∀(pins:List (Addr×Obj)) (s:XQ) (σ:St) (H:Hp) (xs:List V) (us:List XO) (Q:VK),Inv X pins σ H s->Vals xs us->r xs H Q ->
  Ye (model X.prog X.w) X.A (call f us) (EP X pins σ Q) X.xe s
def TC (X:Cx)(r:V->Hp->(Bool->Hp->Prop)->Prop):Prop :=
 ∀(pins:List (Addr×Obj)) (s:XQ) (σ:St) (H:Hp) (x:V) (v:XO) (Q:Bool->Hp->Prop),Inv X pins σ H s->RelV x v->r x H Q ->
  Ye (model X.prog X.w) X.A (truthy v) (TP X pins σ Q) X.xe s
def MC (r:R2)(ta tb:TE):TE:=λσ H Q=>ta σ H λx H1=>tb σ H1 λy H2=>r x y H2 Q
def Vn (r:V->Hp->VK->Prop)(ta:TE):TE:=λσ H Q=>ta σ H λx H1=>r x H1 Q
def rI (C:Int->Int->Prop)(g:Int->Int->V):R2:=λx y H Q=>∃i j,x=.int i/\y=.int j/\C i j/\Q (g i j) H
def EK (g:Int->Int->V):R2:=λx y H Q=>∃i j,x=.int i/\y=.int j/\Q (g i j) H
def rU (g:Int->V):V->Hp->VK->Prop:=λx H Q=>∃i,x=.int i/\Q (g i) H
section
variable {X:Cx}{a b:Expr}{ta tb:TE}{pos:Pos}
theorem LS (ha:PE X a ta)(hb:PE X b tb){pins:List (Addr×Obj)}{s:XQ}{σ:St}{H:Hp}{R:V->V->Hp->Prop}(I:Inv X pins σ H s)
  (h:ta σ H λx H1=>tb σ H1 λy H2=>R x y H2) {Q:XO->XQ->Prop} {f:XO->XO->Sem XO}
  (hf:∀v u s2 x y H2,Inv X pins σ H2 s2->RelV x v->RelV y u->R x y H2->Ye (model X.prog X.w) X.A (f v u) Q X.xe s2) :
  Ye (model X.prog X.w) X.A (eval a X.env) (λv s₁=>Ye (model X.prog X.w) X.A (eval b X.env) (λu s₂=>Ye (model X.prog X.w) X.A (f v u) Q X.xe s₂) X.xe s₁) X.xe s:=by
 refine bu (ha pins s σ H _ I h) λv s1 ⟨x,H1,I1,r1,q1⟩=>?_;refine bu (hb pins s1 σ H1 _ I1 q1) λu s2 ⟨y,H2,I2,r2,q2⟩=>?_;exact hf v u s2 x y H2 I2 r1 r2 q2
theorem cT {op:Operator}{r:R2}(ho:jy X (ZR op) r)(ha:PE X a ta)(hb:PE X b tb):PE X (.BinOp a op b pos) (MC r ta tb):=by
 intro pins s σ H Q I h;exact wpAny_BinOp (LS ha hb I h λv u s2 x y H2 I2 rx ry q=>ho pins s2 σ H2 x y v u Q I2 rx ry q)
theorem BZ {op:UnaryOp}{r:V->Hp->VK->Prop}(ho:Pk X (unaryOp op) r)(ha:PE X a ta):PE X (.UnaryOp op a pos) (Vn r ta):=by
 intro pins s σ H Q I h;exact UnaryOp_ (bu (ha pins s σ H _ I h) λv s1 R8=>by obtain⟨x,H1,I1,r1,q1⟩:=R8;exact ho pins s1 σ H1 x v Q I1 r1 q1)
theorem P6 {f:XO->XO->Sem XO}{C:Int->Int->Prop}{g:Int->Int->Int}
  (rule:∀(i j:Int) (t u:Tok) (s:XQ) (Q:XO->XQ->Prop) (E:XO->XQ->Prop),C i j->Q (.int (g i j) s.toks) {s with toks:=s.toks+1}->Ye (model X.prog X.w) X.A (f (.int i t) (.int j u)) Q E s) :
  jy X f (rI C λi j=>.int (g i j)):=by
 intro pins s σ H x y v u Q I rx ry h;obtain⟨i,j,rfl,rfl,hc,q⟩:=h;obtain⟨t,rfl⟩:=rx;obtain⟨t',rfl⟩:=ry;exact rule i j t t' s _ _ hc ⟨.int (g i j),H,I.tok _,⟨_,rfl⟩,q⟩
theorem Nj {f:XO->XO->Sem XO}{g:Int->Int->Int}
  (rule:∀(i j:Int) (t u:Tok) (s:XQ) (Q:XO->XQ->Prop) (E:XO->XQ->Prop),Q (.int (g i j) s.toks) {s with toks:=s.toks+1}->Ye (model X.prog X.w) X.A (f (.int i t) (.int j u)) Q E s) :
  jy X f (EK λi j=>.int (g i j)):=by
 intro pins s σ H x y v u Q I rx ry h;obtain⟨i,j,rfl,rfl,q⟩:=h;obtain⟨t,rfl⟩:=rx;obtain⟨t',rfl⟩:=ry;exact rule i j t t' s _ _ ⟨.int (g i j),H,I.tok _,⟨_,rfl⟩,q⟩
theorem FX {f:XO->XO->Sem XO}{g:Int->Int->Bool}
  (rule:∀(i j:Int) (t u:Tok) (s:XQ) (Q:XO->XQ->Prop) (E:XO->XQ->Prop),Q (.bool (g i j)) s->Ye (model X.prog X.w) X.A (f (.int i t) (.int j u)) Q E s) :
  jy X f (EK λi j=>.bl (g i j)):=by
 intro pins s σ H x y v u Q I rx ry h;obtain⟨i,j,rfl,rfl,q⟩:=h;obtain⟨t,rfl⟩:=rx;obtain⟨t',rfl⟩:=ry;exact rule i j t t' s _ _ ⟨.bl (g i j),H,I,rfl,q⟩
def w_ (i j:Int):Prop:=0<=j/\j<=1000000/\i.natAbs<2 ^ 64
def Ax (i j:Int):Prop:=(-(2 ^ 64)<i/\i<2 ^ 64)\/(-(2 ^ 64)<j/\j<2 ^ 64)
theorem Ax.ok {i j:Int}(h:Ax i j):IntMulOk i j:=by
 rcases h with⟨h1,h2⟩|⟨h1,h2⟩
 ·exact .of_left (intBits_le_64 h1 h2)
 ·exact .of_right (intBits_le_64 h1 h2)
theorem rl:jy X (ZR .Add) (EK λi j=>.int (i+j)):=Nj λ_ _ _ _ _ _ _ q=>add_int q
theorem Cf:jy X (ZR .Sub) (EK λi j=>.int (i-j)):=Nj λ_ _ _ _ _ _ _ q=>sub_int q
theorem rf:jy X (ZR .Mult) (rI Ax λi j=>.int (i*j)):=P6 λ_ _ _ _ _ _ _ hc q=>mul_int q hc.ok
theorem kM:jy X (ZR .Mod) (rI (λ_ j=>0<j) λi j=>.int (i % j)):=P6 λi j _ _ _ _ _ hc q=>by
 have h1:(0:Int)<j:=hc;exact mod_int' (by lia) (by rw[Int.fmod_eq_emod_of_nonneg i (by lia)];exact q)
theorem Cg:jy X (ZR .Pow) (rI w_ λi j=>.int (i ^ j.toNat)):=P6 λ_ _ _ _ _ _ _ hc q=>pow_int_small hc.1 hc.2.1 hc.2.2 q
theorem Vj {f:XO->Sem XO}{g:Int->Int}
  (rule:∀(i:Int) (t:Tok) (s:XQ) (Q:XO->XQ->Prop) (E:XO->XQ->Prop),Q (.int (g i) s.toks) {s with toks:=s.toks+1}->Ye (model X.prog X.w) X.A (f (.int i t)) Q E s) :
  Pk X f (rU λi=>.int (g i)):=by
 intro pins s σ H x v Q I rx h;obtain⟨i,rfl,q⟩:=h;obtain⟨t,rfl⟩:=rx;exact rule i t s _ _ ⟨.int (g i),H,I.tok _,⟨_,rfl⟩,q⟩
theorem vA:Pk X (unaryOp .USub) (rU λi=>.int (-i)):=Vj λ_ _ _ _ _ q=>neg_int q
end
section
variable {X:Cx}{a b c:Expr}{ta tb:TE}{pos:Pos}
theorem DI {pins:List (Addr×Obj)}{σ:St}{H:Hp}{s:XQ}{Q:VK}{k k':Bool}(I:Inv X pins σ H s)(q:Q (.bl k) H)(e:k=k'):EP X pins σ Q (.bool k') s:=by
 subst e;exact⟨.bl k,H,I,rfl,q⟩
theorem Ng:jy X (YS .Lt) (EK λi j=>.bl (decide (i<j))):=FX λ_ _ _ _ _ _ _ q=>lt_int q
theorem Nh:jy X (YS .LtE) (EK λi j=>.bl (decide (i<=j))):=FX λ_ _ _ _ _ _ _ q=>le_int q
theorem HV:jy X (YS .Gt) (EK λi j=>.bl (decide (j<i))):=FX λ_ _ _ _ _ _ _ q=>gt_int q
theorem Ni:jy X (YS .GtE) (EK λi j=>.bl (decide (j<=i))):=FX λ_ _ _ _ _ _ _ q=>ge_int q
theorem J1:jy X (YS .Is) (λx y H Q=>y=.cj/\Q (.bl (decide (x=.cj))) H):=by
 intro pins s σ H x y v u Q I rx ry h;obtain⟨rfl,q⟩:=h;cases ry;refine is_none_gen (DI I q ?_);cases x <;> first
  | (cases rx;rfl)
  | (obtain⟨t,rfl⟩:=rx;rfl)
theorem FV:jy X (YS .IsNot) (λx y H Q=>y=.cj/\Q (.bl (!decide (x=.cj))) H):=by
 intro pins s σ H x y v u Q I rx ry h;obtain⟨rfl,q⟩:=h;cases ry;refine isnot_none_gen (DI I q ?_);cases x <;> first
  | (cases rx;rfl)
  | (obtain⟨t,rfl⟩:=rx;rfl)
theorem Ka (b:Expr){op:aaz}(h:op≠.In:=by decide)(h2:op≠.NotIn:=by decide):Z2 op b=false:=by
 have e1:(op==CmpOp.In)=false:=by cases op <;> first|rfl|exact absurd rfl h
 have e2:(op==CmpOp.NotIn)=false:=by cases op <;> first|rfl|exact absurd rfl h2
 cases b <;> simp[Z2,e1,e2]
theorem FL {op:aaz}{r:R2}(ho:jy X (YS op) r)(ha:PE X a ta)(hb:PE X b tb)(hm:Z2 op b=false):PE X (.Compare a [op] [b] pos) (MC r ta tb):=by
 intro pins s σ H Q I h;exact wpAny_Compare1 (LS ha hb I h λv u s2 x y H2 I2 rx ry q=>ho pins s2 σ H2 x y v u Q I2 rx ry q) hm
def MA (t:TE):TT:=λσ H Q=>t σ H λx H'=>∃k,x=.bl k/\Q k H'
theorem xp {op:aaz}{r:R2}(ho:jy X (YS op) r)(ha:PE X a ta)(hb:PE X b tb)(hm:Z2 op b=false):PT X (.Compare a [op] [b] pos) (MA (MC r ta tb)):=by
 intro pins s σ H Q I h;refine wpAny_isTrue_Compare1 (bu (ha pins s σ H _ I h) λv s1 ⟨x,H1,I1,r1,q1⟩=>bu (hb pins s1 σ H1 _ I1 q1) λu s2 ⟨y,H2,I2,r2,q2⟩ =>
  bu (ho pins s2 σ H2 x y v u _ I2 r1 r2 q2) λc s3 ⟨z,H3,I3,r3,k,e,q3⟩=>?_) hm
 subst e;cases r3;exact Zo ⟨H3,I3,q3⟩
def Pl (K:PySem.W.Frag)(x:V)(H:Hp)(k:Bool):Prop :=
 match x with
 |.cj=>k=false
 |.bl b=>k=b
 |.int i=>k=(i != 0)
 |.str y=>y.length<=X3/\k=((y.length:Int) != 0)
 |.Pf y=>y.size<=X3/\k=((y.size:Int) != 0)
 |.ref p=>(∃xs,dv K H p xs/\k=!xs.isEmpty)\/(∃xs,kh K H p xs/\k=!xs.isEmpty)\/∃kvs,H p=some (.dK kvs)/\k=!kvs.isEmpty
 |_=>False
theorem wg {κ:Type}{kvs:List (κ×V)}{vs:List (κ×XO)}(r:KV kvs vs):(!vs.isEmpty)=!kvs.isEmpty:=by
 cases r <;> rfl
theorem nv {xs:List V}{its:List XO}(r:Vals xs its):(!its.toArray.isEmpty)=!xs.isEmpty:=by
 cases r <;> simp
theorem ng:(X3:Nat)<2 ^ 63:=by rw[Y1];decide
theorem Jc:TC X (λx H Q=>∃k,Pl X.K x H k/\Q k H):=by
 intro pins s σ H x v Q I rx h;obtain⟨k,e,q⟩:=h;have hl:=ng;have hs:X3=16777216:=Y1;cases x with
 |cj =>
  cases rx;have e':k=false:=e;subst e';exact truthy_none ⟨H,I,q⟩
 |bl b =>
  cases rx;have e':k=b:=e;subst e';exact Zo ⟨H,I,q⟩
 |int i =>
  obtain⟨t,rfl⟩:=rx;have e':k=(i != 0):=e;subst e';exact PySem.P.truthy_int ⟨H,I,q⟩
 |str y =>
  obtain⟨t,rfl⟩:=rx;obtain⟨hy,e'⟩:y.length<=X3/\k=((y.length:Int) != 0):=e;subst e';exact PySem.P.truthy_str (by lia) ⟨H,I.tok _,q⟩
 |Pf y =>
  obtain⟨t,rfl⟩:=rx;obtain⟨hy,e'⟩:y.size<=X3/\k=((y.size:Int) != 0):=e;subst e';exact PySem.W.truthy_bytes (by lia) ⟨H,I.tok _,q⟩
 |ref p =>
  cases rx;have e':(∃xs,dv X.K H p xs/\k=!xs.isEmpty)\/(∃xs,kh X.K H p xs/\k=!xs.isEmpty)\/∃kvs,H p=some (.dK kvs)/\k=!kvs.isEmpty:=e;rcases e' with⟨xs,hx,e'⟩|⟨xs,hx,e'⟩|⟨kvs,hx,e'⟩
  ·subst e';obtain⟨its,r,pl,hz⟩:=I.list hx;have hlen:=r.length;exact wpAny_truthy_list pl.isList (by simp only[Yb];lia) ⟨H,I.tok _,by rw[nv r];exact q⟩
  ·subst e';obtain⟨its,r,pl,hz⟩:=I.tuple hx;have hlen:=r.length;exact truthy_tuple pl (by simp only[Yb];lia) ⟨H,I.tok _,by rw[nv r];exact q⟩
  ·subst e';obtain⟨hz,hS,vs,r,m⟩:kvs.length<=X3/\(p==ZM)=false/\∃vs,KV kvs vs/\s.heap.DictOf (aX X.prog X.w) p vs:=I.a5 p _ hx;have hlen:kvs.length=vs.length:=Paired.length r;exact wpAny_truthy_dict hS m (by lia) ⟨H,I.tok _,by rw[wg r];exact q⟩
 |_=>exact(show False from e).elim
theorem BF (ha:PE X a ta)(he:∀whole,isTrue a X.env whole=(do let v <- whole;aaO a.pos;holding [v] (truthy v))):
  PT X a (λσ H Q=>ta σ H λx H'=>∃k,Pl X.K x H' k/\Q k H'):=by
 intro pins s σ H Q I h;exact isTrue_plain (bu (ha pins s σ H _ I h) λv s1 R7=>by obtain⟨x,H1,I1,r1,q1⟩:=R7;exact Jc pins s1 σ H1 x v Q I1 r1 q1) (he _)
theorem vals1 {x:V}{us:List XO}(r:Vals [x] us):∃u,us=[u]/\RelV x u:=by
 cases r with
 |cons r1 r2=>cases r2;exact⟨_,rfl,r1⟩
theorem vals2 {x y:V}{us:List XO}(r:Vals [x,y] us):∃u w',us=[u,w']/\RelV x u/\RelV y w':=by
 cases r with
 |cons r1 r2 =>
  cases r2 with
  |cons r3 r4=>cases r4;exact⟨_,_,rfl,r1,r3⟩
theorem Ep:dW X (.builtin "abs") (λxs H Q=>∃i,xs=[.int i]/\Q (.int (if i<0 then -i else i)) H):=by
 intro pins s σ H xs us Q I r h;obtain⟨i,rfl,q⟩:=h;obtain⟨u,rfl,t,rfl⟩:=vals1 r;exact call_abs_int λu tk=>⟨.int (if i<0 then -i else i),H,I.tok _,⟨_,rfl⟩,q⟩
theorem qi (hc:X.calm=true):dW X (.builtin "max") (λxs H Q=>∃i j,xs=[.int i,.int j]/\Q (.int (if j>i then j else i)) H):=by
 intro pins s σ H xs us Q I r h;obtain⟨i,j,rfl,q⟩:=h;obtain⟨u,w',rfl,⟨t,rfl⟩,⟨t',rfl⟩⟩:=vals2 r;refine max_two_ints (I.ok.hd hc) λh' tk k=>⟨_,H,I.kept k,?_,q⟩
 by_cases hj:j>i
 ·rw[if_pos hj,if_pos hj];exact⟨_,rfl⟩
 ·rw[if_neg hj,if_neg hj];exact⟨_,rfl⟩
theorem An (hc:X.calm=true):dW X (.builtin "min") (λxs H Q=>∃i j,xs=[.int i,.int j]/\Q (.int (if j<i then j else i)) H):=by
 intro pins s σ H xs us Q I r h;obtain⟨i,j,rfl,q⟩:=h;obtain⟨u,w',rfl,⟨t,rfl⟩,⟨t',rfl⟩⟩:=vals2 r;refine min_two_ints (I.ok.hd hc) λh' tk k=>⟨_,H,I.kept k,?_,q⟩
 by_cases hj:j<i
 ·rw[if_pos hj,if_pos hj];exact⟨_,rfl⟩
 ·rw[if_neg hj,if_neg hj];exact⟨_,rfl⟩
theorem qj:dW X (.type "int") (λxs H Q=>(∃i,xs=[.int i]/\Q (.int i) H)\/∃k,xs=[.bl k]/\Q (.int (if k then 1 else 0)) H):=by
 intro pins s σ H xs us Q I r h;rcases h with⟨i,rfl,q⟩|⟨k,rfl,q⟩
 ·obtain⟨u,rfl,t,rfl⟩:=vals1 r;exact call_int_int ⟨.int i,H,I,⟨_,rfl⟩,q⟩
 ·obtain⟨u,rfl,r1⟩:=vals1 r;cases r1;exact call_int_bool ⟨.int (if k then 1 else 0),H,I.tok _,⟨_,rfl⟩,q⟩
end
structure L1 (h:Heap)(x dx C:Addr)(mA:Str->Option XO):Prop where
 obj:h.get? x=some (PySem.W.instObj C dx)
 ns:h.Ns1 dx mA
 ne:dx≠x
theorem zG {h:Heap}{dx:Addr}{mA:Str->Option XO}(n:h.Ns1 dx mA):∃od,h.get? dx=some od/\∀name,PySem.W.lookIn name od=some (mA name):=by
 obtain⟨o,es,ep,ho,hd,hk,_,hm⟩:=n;refine⟨o,ho,λname=>?_⟩;have e:=hm name;unfold nsFind findBy at e;rw[<- Array.find?_toList]at e;unfold PySem.W.lookIn;rw[hd];dsimp only
 split
 ·rename_i y q
  rw[q]at e;exact congrArg some e
 ·rename_i q
  rw[q]at e;have a:es.toList.any (·.refKey)=false:=by
   rw[List.any_eq_false];intro y hy;obtain⟨z,t,Dx⟩:=hk y (Array.mem_toList_iff.mp hy);simp[DictEntry.refKey,Dx]
  have a':¬ es.toList.any (·.refKey)=true:=by rw[a];exact aak
  rw[if_neg a'];exact congrArg some e
theorem L1.look {h:Heap}{x dx C:Addr}{mA:Str->Option XO}(I:L1 h x dx C mA):∃od,PySem.W.InstAt h x (PySem.W.instObj C dx) C (some od)/\∀name,PySem.W.lookIn name od=some (mA name) :=
 let ⟨od,ho,hl⟩:=zG I.ns
 ⟨od,⟨I.obj,rfl,rfl,ho⟩,hl⟩
section
end
theorem om.some_of {v:V}{o:Option XO}(r:om (some v) o):∃u,o=some u/\RelV v u:=by
 cases o with
 |none=>exact(show False from r).elim
 |some u=>exact⟨u,rfl,r⟩
section
variable {P:XX}{w:X6}{H:Hp}{h:Heap}{a C dx:Addr}{fs:List (Str×V)}
theorem el (a5:jz P w H h)(e:H a=some (.ins C dx fs)):∃mA,L1 h a dx C mA/\(∀f,om (fs.lookup f) (mA f))/\PySem.Within mA (fs.map (·.1))/\fs.length<=1000/\H dx=some (.own a):=by
 obtain⟨d,z,ne,ob,mA,n,r,q⟩:=(show aO P w H h a (.ins C dx fs) from a5 a _ e)
 exact⟨mA,⟨ob,n,ne⟩,r,q,z,d⟩
end
structure T6 (K:PySem.W.Frag)(C:Addr):Prop where
 pg:PySem.W.plainGet K C Str.empty=true
 hd:PySem.W.hasDictIn K C=true
 po:PySem.W.plainOver K C=true
 sa:PySem.W.findIn K (.ref C) "__setattr__" = some (some (.builtin "object.__setattr__"))
theorem T6.get {K:PySem.W.Frag}{C:Addr}(c:T6 K C)(f:Str):PySem.W.plainGet K C f=true:=c.pg
section
end
section
end
section
variable {X:Cx}{pins:List (Addr×Obj)}{σ:St}{H:Hp}{s:XQ}{A:YX}{E:XO->XQ->Prop}{Q:XO->XQ->Prop}{c:XO}{b:Bool}
inductive jq (K:PySem.W.Frag) (H:Hp):V->XO->Prop where
 |cj:jq K H .cj (.type "NoneType")
 |bl (x:Bool):jq K H (.bl x) (.type "bool")
 |int (i:Int):jq K H (.int i) (.type "int")
 |str (x:Str):jq K H (.str x) (.type "str")
 |Lw (x:UInt64):jq K H (.Lw x) (.type "float")
 |lst {a:Addr} {xs:List V} (e:H a=some (.lst xs)):jq K H (.ref a) (.type "list")
 |rM {a:Addr} {o:Obj} {xs:List V} (e:H a=some (.rM o (.lst xs))):jq K H (.ref a) (.type "list")
 |tup {a:Addr} {xs:List V} (e:H a=some (.tup xs)):jq K H (.ref a) (.type "tuple")
 |dK {a:Addr} {kvs:List (Key×V)} (e:H a=some (.dK kvs)):jq K H (.ref a) (.type "dict")
 |dT {a:Addr} {kvs:List (List Key×V)} (e:H a=some (.dT kvs)):jq K H (.ref a) (.type "dict")
 |ins {a C dx:Addr} {fs:List (Str×V)} (e:H a=some (.ins C dx fs)) (cl:T6 K C) (ha:PySem.W.findIn K (.ref C) "__class__" = some (some (.builtin "object.__class__")))
   (hn:PySem.W.specialIn K (.builtin "object.__class__") "__get__" = some (some (.builtin "getset_descriptor.__get__"))) (K0:PySem.W.takesIn K (.builtin "object.__class__")=some true)
   (hm:PySem.W.mroIn K C (.type "object")=some true):jq K H (.ref a) (.ref C)
theorem zO {x:V}{u t:XO}(I:Inv X pins σ H s)(rx:RelV x u)(ty:jq X.K H x t)(e:PySem.W.kitOne X.K t c=some b)(h:∀tk,Q (.bool b) {s with toks:=tk}):
  Ye (model X.prog X.w) A (call (.builtin "isinstance") [u,c]) Q E s:=by
 cases ty with
 |cj=>cases (show u=Value.none from rx);exact PySem.W.kia_one PySem.W.kitx_none I.kT Zk e (λz=>nomatch z) h
 |bl y=>cases (show u=Value.bool y from rx);exact PySem.W.kia_one PySem.W.kitx_bool I.kT Zk e (λz=>nomatch z) h
 |int i=>obtain⟨t,q⟩:=(show ∃t,u=Value.int i t from rx);cases q;exact PySem.W.kia_one PySem.W.kitx_int I.kT Zk e (λz=>nomatch z) h
 |str y=>obtain⟨t,q⟩:=(show ∃t,u=Value.str y t from rx);cases q;exact PySem.W.kia_one PySem.W.kitx_str I.kT Zk e (λz=>nomatch z) h
 |Lw y=>obtain⟨t,q⟩:=(show ∃t,u=Value.float y t from rx);cases q;exact PySem.W.kia_one PySem.W.kitx_float I.kT Zk e (λz=>nomatch z) h
 | @lst a xs ea =>
  cases (show u=Value.ref a from rx)
  obtain⟨_,_,n,_,h1⟩:=(show aO X.prog X.w H s.heap a (.lst xs) from I.a5 a _ ea)
  exact PySem.W.kia_one PySem.W.kitx_list I.kT ⟨_,h1,rfl⟩ e (λz=>nomatch z) h
 | @rM a ob xs ea =>
  cases (show u=Value.ref a from rx)
  obtain⟨_,_,_,n,_,h1⟩:=(show aO X.prog X.w H s.heap a (.rM ob (.lst xs)) from I.a5 a _ ea)
  exact PySem.W.kia_one PySem.W.kitx_list I.kT ⟨_,h1,rfl⟩ e (λz=>nomatch z) h
 | @tup a xs ea =>
  cases (show u=Value.ref a from rx)
  obtain⟨_,_,_,p⟩:=(show aO X.prog X.w H s.heap a (.tup xs) from I.a5 a _ ea)
  obtain⟨o,h1,h2,_⟩:=p;exact PySem.W.kia_one PySem.W.kitx_tuple I.kT ⟨o,h1,h2⟩ e (λz=>nomatch z) h
 | @dK a kvs ea =>
  cases (show u=Value.ref a from rx)
  obtain⟨_,_,vs,_,p⟩:=(show aO X.prog X.w H s.heap a (.dK kvs) from I.a5 a _ ea)
  obtain⟨o,es,ep,h1,h2,_⟩:=p;exact PySem.W.kia_one PySem.W.kitx_dict I.kT ⟨o,h1,h2.1⟩ e (λz=>nomatch z) h
 | @dT a kvs ea =>
  cases (show u=Value.ref a from rx)
  obtain⟨_,_,xs,_,o,es,ep,h1,h2,_⟩:=(show aO X.prog X.w H s.heap a (.dT kvs) from I.a5 a _ ea)
  exact PySem.W.kia_one PySem.W.kitx_dict I.kT ⟨o,h1,h2.1⟩ e (λz=>nomatch z) h
 | @ins a C dx fs ea cl ha hn K0 hm =>
  cases (show u=Value.ref a from rx)
  obtain⟨mA,O,_⟩:=el I.a5 ea;obtain⟨od,J,_⟩:=O.look;exact PySem.W.kia_one (PySem.W.kitx_own (cl.get _) cl.hd ha hn K0 hm) I.kT J e (λz=>nomatch z) h
end
structure dg (k:Nat)(A:YX):Prop where
 hd:A.handled=none
 dp:A.depth+3*k+5<recursionLimit
 un:A.units+16*k+200<Z7
theorem dg.mono {j k:Nat}{A:YX}(r:dg k A)(h:j<=k):dg j A:=⟨r.hd,by have:=r.dp;lia,by have:=r.un;lia⟩
theorem dg.deeper {k:Nat}{A:YX}(r:dg (k+1) A)(env:Env):dg k (A.deeper env) :=
 ⟨r.hd,by have:=r.dp;show A.depth+1+3*k+5<_;lia,by have:=r.un;show A.units+3+16*k+200<_;lia⟩
theorem dg.depth {k:Nat}{A:YX}(r:dg k A):A.depth<recursionLimit:=by have:=r.dp;lia
theorem dg.units {k:Nat}{A:YX}(r:dg k A):A.units+64<Z7:=by have:=r.un;lia
def ME:TA:=λ_ H Q=>Q [] H
def HI (ta:TE)(tr:TA):TA:=λσ H Q=>ta σ H λx H1=>tr σ H1 λxs H2=>Q (x::xs) H2
section
variable {X:Cx}{e:Expr}{es:List Expr}{te:TE}{t:TA}{pos:Pos}
theorem b_:PA X [] ME:=λ_ _ _ _ H Q I h=>Calls.spliced_nil ⟨[],H,I,.nil,h⟩
theorem aW (ha:PE X e te)(hr:PA X es t)(hs:X2 (e::es) X.env=(false,eval e X.env)::X2 es X.env:=by rfl):PA X (e::es) (HI te t):=by
 intro pos pins s σ H Q I h;rw[hs];show Ye _ _ (spliced ((false,eval e X.env)::ZA pos (X2 es X.env))) _ _ s;refine Calls.spliced_cons (bu (ha pins s σ H _ I h) λu s1 ⟨x,H1,I1,r1,q1⟩=>?_);exact bu (hr pos pins s1 σ H1 _ I1 q1) λus s2 ⟨xs,H2,I2,r2,q2⟩=>⟨x::xs,H2,I2,.cons r1 r2,q2⟩
def QE (t:TA):TE:=λσ H Q=>t σ H λxs H1=>xs.length<=X3/\∀p,H1 p=none->Q (.ref p) (upd H1 p (.tup xs))
def QJ (t:TA):TE:=λσ H Q=>t σ H λxs H1=>xs.length<=X3/\∀p,H1 p=none->Q (.ref p) (upd H1 p (.lst xs))
theorem vP {x1}(h:PA X es t):PE X (.Tuple es x1 pos) (QE t):=by
 intro pins s σ H Q I hq;refine wpAny_Tuple_spliced (bu (h pos pins s σ H _ I hq) λus s1 ⟨xs,H1,I1,r,z,q⟩=>⟨by rw[<- r.length];exact z,?_⟩)
 have hf:H1 s1.heap.objs.size=none:=I1.a5.fresh (XS _);refine⟨.ref s1.heap.objs.size,upd H1 s1.heap.objs.size (.tup xs),I1.laid (t':=s1.toks) (λb u e=>XR _ e) (XS _) ?_,rfl,q _ hf⟩;exact⟨z,us,r,⟨_,X_ _ rfl,rfl,_,rfl⟩⟩
theorem vQ (h:PA X es t):PE X (.List es pos) (QJ t):=by
 intro pins s σ H Q I hq;refine wpAny_List_spliced (bu (h pos pins s σ H _ I hq) λus s1 ⟨xs,H1,I1,r,z,q⟩=>⟨by rw[<- r.length];exact z,?_⟩)
 have hf:H1 s1.heap.objs.size=none:=I1.a5.fresh (XS _);refine⟨.ref s1.heap.objs.size,upd H1 s1.heap.objs.size (.lst xs),I1.laid (t':=s1.toks) (λb u e=>XR _ e) (XS _) ?_,rfl,q _ hf⟩;exact⟨z,us,0,r,X_ _ rfl⟩
end
abbrev Sp:=List V->Hp->VK->XK->Prop
abbrev E3:=List Env->Hp->XQ->XK->XO->XQ->Prop
structure HB (P:XX)(w:X6)(K:PySem.W.Frag)(mg:Str->Option XO)(base:Heap)(A:YX)(outer:List Env)(s:XQ)(H:Hp):Prop where
 frames:A.frames=some outer
 mod:Mod K mg base
 bs:∀b o,base.get? b=some o->s.heap.get? b=some o/\H b=none
 EX:base.objs.size<=s.heap.objs.size
 nC:s.heap.FunFrames base outer
 Mf:∀b∈DD outer,H b=none
 a5:jz P w H s.heap
 bare:AllBare s.gens
def CE (outer:List Env)(P:XX)(w:X6)(H:Hp)(s:XQ)(Q:VK)(u:XO)(s':XQ):Prop :=
 ∃v H',s'.os=s.os/\AllBare s'.gens/\Un (DD outer) [] H H' s.heap s'.heap/\jz P w H' s'.heap/\RelV v u/\Q v H'
def CR (CX:E3)(outer:List Env)(P:XX)(w:X6)(H:Hp)(s:XQ)(Q:VK)(E:XK)(r:Result)(s':XQ):Prop :=
 match r with
 |.ok (.ret u)=>CE outer P w H s Q u s'
 |.ok _=>False
 |.error e=>CX outer H s E e s'
structure aJ (P:XX)(w:X6)(K:PySem.W.Frag)(mg:Str->Option XO)(base:Heap)(CX:E3)(k:Nat)(f:Addr)(fd:YB)(ps:List Str)(sp:Sp):Prop where
 len:∀vs H Q E,sp vs H Q E->vs.length=ps.length
 run:∀(A:YX) (outer:List Env) (s:XQ) (H:Hp) (args:Args) (us:List XO) (vs:List V) (Q:VK) (E:XK),dg k A->HB P w K mg base A outer s H->BindsTo s fd args (ps.zip us)->Vals vs us->sp vs H Q E ->
  aax (model P w) A (.call (.ref f) args) (CR CX outer P w H s Q E) s
section
variable {X:Cx}{pins:List (Addr×Obj)}{σ:St}{H:Hp}{s s':XQ}
theorem Inv.Tj (I:Inv X pins σ H s):HB X.prog X.w X.K X.mg X.base X.A X.stack s H :=
 ⟨I.ok.frames,I.ok.mod,I.bs,Yz I.ok.EX I.sz,I.stack,I.qI,I.a5,I.bare⟩
theorem Inv.after {Q:VK}{u:XO}(I:Inv X pins σ H s)(h:CE X.stack X.prog X.w H s Q u s'):EP X pins σ Q u s':=by
 obtain⟨v,H',os,bare,un,a5,r,q⟩:=h;obtain⟨hh,g,d,t,Rv⟩:=s';obtain rfl:Rv=s.os:=os;exact⟨v,H',I.call (h':=hh) (g':=g) (d':=d) (t':=t) (ch:=[]) un a5 bare (λb z=>absurd z (by simp)),r,q⟩
end
def MK (sp:Sp)(Iw:List V)(E:XK)(t:TA):TE:=λσ H Q=>t σ H λvs H1=>sp (vs++Iw) H1 Q E
def Binds (K:PySem.W.Frag)(fd:YB)(ps:List Str)(ds:List XO):Prop :=
 ∀(s:XQ) (us:List XO),K.In s.heap->(us++ds).length=ps.length->BindsTo s fd ⟨us,[]⟩ (ps.zip (us++ds))
theorem Binds.all {K:PySem.W.Frag}{fd:YB}{ps:List Str}(h:∀us:List XO,us.length=ps.length->bindArgs fd ⟨us,[]⟩=pure (ps.zip us)):Binds K fd ps []:=λs us _ hl=>by
 rw[ZJ]at hl ⊢
 exact .of_eq (h us hl)
def Passes (CX:E3)(X:Cx)(E:XK):Prop:=∀(pins:List (Addr×Obj)) (σ:St) (H:Hp) (s:XQ) (e:XO) (s':XQ),Inv X pins σ H s->CX X.stack H s E e s'->X.xe e s'
section
variable {X:Cx}{CX:E3}{k:Nat}{f:Addr}{fd:YB}{ps:List Str}{sp:Sp}{Iw:List V}{ds:List XO}{E:XK}{x:Str}{p pos:Pos}{e:Expr}{es:List Expr}{t:TA}
theorem Jv {pins:List (Addr×Obj)}{σ:St}{H:Hp}{s:XQ}{Q:VK}{us:List XO}{vs:List V}(F:aJ X.prog X.w X.K X.mg X.base CX k f fd ps sp)(hr:dg k X.A)(hb:Binds X.K fd ps ds)(hd:Vals Iw ds)(hx:Passes CX X E)
  (I:Inv X pins σ H s) (r:Vals vs us) (h:sp (vs++Iw) H Q E):Ye (model X.prog X.w) X.A (call (.ref f) us) (EP X pins σ Q) X.xe s:=by
 have r2:Vals (vs++Iw) (us++ds):=r.append hd;have hl:(us++ds).length=ps.length:=by rw[<- r2.length];exact F.len _ _ _ _ h
 refine wpAny_call (aac (F.run X.A X.stack s H ⟨us,[]⟩ (us++ds) (vs++Iw) Q E hr I.Tj (hb s us I.kT hl) r2 h) λr s' hq=>?_);cases r with
 |error e=>exact hx pins σ H s e s' I hq
 |ok fl =>
  cases fl with
  |ret u=>exact I.after hq
  |next=>exact aaa hq
  |brk=>exact aaa hq
  |cont=>exact aaa hq
theorem xC (F:aJ X.prog X.w X.K X.mg X.base CX k f fd ps sp)(hr:dg k X.A)(hg:Gl X x)(hm:X.mg x=some (.ref f))(hk:PySem.W.keepIn X.K (.ref f)=true)(hb:Binds X.K fd ps ds)(hd:Vals Iw ds)(hx:Passes CX X E)
  (ha:PA X (e::es) t) (hdb:(x==("__debug__" : Str))=false:=by decide) (he:X2 (e::es) X.env=(false,eval e X.env)::X2 es X.env:=by rfl) (hpl:(ZA pos (X2 es X.env)).any (·.1)=false:=by rfl) :
  PE X (.Call (.Name x p) (e::es) [] pos) (MK sp Iw E t):=by
 intro pins s σ H Q I h;refine aaj (Gn I hg hm ?_ hdb);refine PySem.W.callWith_K (h₀:=X.base) I.ok.mod.RK hk (bu (ha pos pins s σ H _ I h) λus s1 ⟨vs,H1,I1,r,q⟩=>⟨I1.kT,?_⟩) he hpl;exact Jv F hr hb hd hx I1 r q
end
section
end
structure aG (N P:List Str)(sc:ZE):Prop where
 kind:sc.kind=.function
 co:sc.isCoroutine=false
 gen:sc.isGenerator=false
 nd:N.Nodup
 pre:N.take P.length=P
 par:∀x∈P,sc.names.lookup x=some .local\/sc.names.lookup x=some .cell
 Kb:∀y∈sc.names,y.2≠.free
theorem mkS{N P:List Str}{sc:ZE}(h0:sc.kind=.function:=by rfl)(h1:sc.isCoroutine=false:=by rfl)(h2:sc.isGenerator=false:=by rfl)(h3:N.Nodup:=by decide +kernel)(h4:N.take P.length=P:=by rfl)(h5:∀x∈P,sc.names.lookup x=some .local\/sc.names.lookup x=some .cell:=by decide +kernel)(h6:∀y∈sc.names,y.2≠.free:=by decide +kernel):aG N P sc:=⟨h0,h1,h2,h3,h4,h5,h6⟩
theorem qm {kindOf:Str->Option ZS}{x:Str}:∀{binds:List (Str×XO)} {m:Str->Option XO},(∀v,(x,v)∉binds)->bindL kindOf binds m x=m x
 |[],_,_=>rfl
 | (n,v)::r,m,h=>by
  unfold bindL;rw[qm λw hw=>h w (Yd _ hw)]
  split
  ·have:x≠n:=by rintro rfl;exact h v Yr
   simp[this]
  ·rfl
theorem qp {kindOf:Str->Option ZS}{x:Str}:∀{binds:List (Str×XO)} {m:Str->Option XO},(∀v,(x,v)∉binds)->bindC kindOf binds m x=m x
 |[],_,_=>rfl
 | (n,v)::r,m,h=>by
  unfold bindC;rw[qp λw hw=>h w (Yd _ hw)]
  split
  ·rfl
  ·have:x≠n:=by rintro rfl;exact h v Yr
   simp[this]
theorem qo {kindOf:Str->Option ZS}{x:Str}{v:XO}:∀{P:List Str} {vs:List XO} {i:Nat} {m:Str->Option XO},P.Nodup->P[i]?=some x->vs[i]?=some v->kindOf x=some .local ->
  bindL kindOf (P.zip vs) m x=some v
 |[],_,_,_,_,h,_,_=>by simp at h
 |_::_,[],_,_,_,_,h,_=>by simp at h
 |p::P,w::vs,0,m,nd,h1,h2,hk=>by
  simp at h1 h2;subst h1;subst h2;show bindL kindOf ((p,w)::P.zip vs) m p=_;unfold bindL;rw[qm λv hv=>(Yj.mp nd).1 (List.of_mem_zip hv).1,if_pos hk];simp
 |p::P,w::vs,i+1,m,nd,h1,h2,hk=>by
  show bindL kindOf ((p,w)::P.zip vs) m x=_;unfold bindL;exact qo (i:=i) (Yj.mp nd).2 (by simpa using h1) (by simpa using h2) hk
theorem qq {kindOf:Str->Option ZS}{x:Str}{v:XO}:∀{P:List Str} {vs:List XO} {i:Nat} {m:Str->Option XO},P.Nodup->P[i]?=some x->vs[i]?=some v->kindOf x≠some .local ->
  bindC kindOf (P.zip vs) m x=some v
 |[],_,_,_,_,h,_,_=>by simp at h
 |_::_,[],_,_,_,_,h,_=>by simp at h
 |p::P,w::vs,0,m,nd,h1,h2,hk=>by
  simp at h1 h2;subst h1;subst h2;show bindC kindOf ((p,w)::P.zip vs) m p=_;unfold bindC;rw[qp λv hv=>(Yj.mp nd).1 (List.of_mem_zip hv).1,if_neg hk];simp
 |p::P,w::vs,i+1,m,nd,h1,h2,hk=>by
  show bindC kindOf ((p,w)::P.zip vs) m x=_;unfold bindC;exact qq (i:=i) (Yj.mp nd).2 (by simpa using h1) (by simpa using h2) hk
def start (N:List Str)(vs:List V):St:=vs.map some++YY (N.length-vs.length) none
noncomputable def oZ (CX:E3)(P:XX)(w:X6)(K:PySem.W.Frag)(mg:Str->Option XO)(base:Heap)(N:List Str)(qual:Str)(scope:ZE)(f:Addr)(cd:XO)(A:YX)(outer:List Env)(s:XQ)(H:Hp)(E:XK):Cx where
 prog:=P
 w:=w
 K:=K
 mg:=mg
 base:=base
 A:=A.deeper (envOfC qual scope s.heap.objs.size f cd)
 N:=N
 s₀:=s
 H₀:=H
 env:=envOfC qual scope s.heap.objs.size f cd
 outer:=outer
 stack:=envOfC qual scope s.heap.objs.size f cd::outer
 ex:=[]
 calm:=true
 fn:=λ_=>true
 pn:=[]
 xe:=λe s'=>Ye (model P w) (A.deeper (envOfC qual scope s.heap.objs.size f cd)) (leaving (envOfC qual scope s.heap.objs.size f cd) e) (λ_ Q5=>CX outer H s E e Q5) (λe' Q5=>CX outer H s E e' Q5) s'
theorem uX {sc:ZE}{n:Nat}{x:Str}(h:sc.names.lookup x=some .cell):∃c,(aa2 n sc.names []).lookup x=some c:=by
 have q:=PySem.W.cellsFrom_some sc.names n [] (.inl h);exact Option.isSome_iff_exists.mp q
theorem zP {CX:E3}{P:XX}{w:X6}{K:PySem.W.Frag}{mg:Str->Option XO}{base:Heap}{N ps:List Str}{qual:Str}{scope:ZE}{f:Addr}{cd:XO}{A:YX}{outer:List Env}{s s1:XQ}{H:Hp}{E:XK}{us:List XO}{vs:List V}
  (S:aG N ps scope) (hd:A.handled=none) (e0:HB P w K mg base A outer s H) (hl:vs.length=ps.length) (r:Vals vs us)
  (x:InCallC s s.heap.objs.size (bindL (envOfC qual scope s.heap.objs.size f cd).kindOf (ps.zip us) λ_=>none) (aa2 (s.heap.objs.size+1) scope.names []) (bindC (envOfC qual scope s.heap.objs.size f cd).kindOf (ps.zip us) λ_=>none) s1) :
  Inv (oZ CX P w K mg base N qual scope f cd A outer s H E) [] (start N vs) H s1:=by
 have hpl:ps.length<=N.length:=by have:=congrArg List.length S.pre;rw[Yy]at this;lia
 obtain⟨h1,tk,rfl,hk⟩:=x.done;have Nr:∀b:Addr,b∉(oZ CX P w K mg base N qual scope f cd A outer s H E).ex:=λb z=>absurd (show b∈([]:List Addr) from z) (by simp)
 refine⟨⟨e0.mod,S.kind,rfl,rfl,XS _,λy z c h1 h2=>?_,λy hy=>?_,λy c _ h=>?_,λ_=>hd,Around.frames_deeper e0.frames,.inr ⟨rfl,rfl⟩,λb z=>absurd z (Nr b),e0.bs,e0.EX,λb _ _=>Nr b,λb z=>absurd z (Nr b),e0.nC,e0.Mf⟩,
  rfl,e0.bare,Un.kept hk,⟨_,x.toInCall.ns,λi y v h1 h2 h3=>?_⟩,λy c h=>⟨_,x.cell y c h⟩,e0.a5.fresh (XS _),λy c h=>?_,λp hp=>absurd (show p∈([]:List (Addr×Obj)) from hp) (by simp),e0.a5.kept hk,?_⟩
 ·exact name_of_addr x.apart (PySem.mem_of_lookup h1) (PySem.mem_of_lookup h2)
 ·have hy:scope.names.lookup y=some .cell\/scope.names.lookup y=some .free:=hy;rcases hy with hy|hy
  ·exact uX hy
  ·exact absurd rfl (S.Kb _ (PySem.mem_of_lookup hy))
 ·exact Nat.le_of_lt (x.above y c (PySem.mem_of_lookup h))
 ·have hi:i<vs.length:=by
   unfold start at h2
   by_cases hi:i<vs.length
   ·exact hi
   ·rw[Z_ (by simpa using hi)]at h2
    rw[List.getElem?_replicate]at h2
    split at h2 <;> cases h2
  have ha:vs[i]?=some v:=by
   unfold start at h2;rw[ZH (by simpa using hi),X5]at h2
   cases e:vs[i]? with
   |none=>rw[e]at h2;cases h2
   |some a=>rw[e]at h2;cases h2;rfl
  obtain⟨u,hu,rv⟩:=r.get ha;have hp:ps[i]?=some y:=by
   rw[<- S.pre,aaZ (by lia)];exact h1
  have Uz:ps.Nodup:=by rw[<- S.pre];exact S.nd.sublist (List.take_sublist _ _)
  refine⟨u,rv,?_⟩;rcases S.par y (YJ hp)with k|k
  ·exact .inl ⟨k,qo Uz hp hu k⟩
  ·obtain⟨c,e⟩:=uX (n:=s.heap.objs.size+1) k;refine .inr ⟨.inl k,c,e,?_⟩;have q:=x.cell y c e;rw[qq Uz hp hu (by show scope.names.lookup y≠_;rw[k];decide)]at q
   exact q
 ·exact e0.a5.fresh (Nat.le_of_lt (x.above y c (PySem.mem_of_lookup h)))
 ·unfold start;show _=N.length;rw[Yg,XN,List.length_replicate];lia
theorem O7 {CX:E3}{P:XX}{w:X6}{K:PySem.W.Frag}{mg:Str->Option XO}{base:Heap}{k:Nat}{f:Addr}{name qual:Str}{params:Arguments}{body:List Stmt}{scope:ZE}{dV kV doc pm cF ct oc:XO}{an od:Option Addr}
  {JY:Array (Option XO)} {N ps:List Str} {sp:Sp} (lk:K.lookup f=some ⟨oc,od,.func (PySem.W.fnOf name qual params body scope dV kV doc pm an cF ct),JY⟩) (ES:PySem.W.codeIn K cF qual=true) (S:aG N ps scope)
  (len:∀vs H Q E,sp vs H Q E->vs.length=ps.length)
  (nB:∀(A:YX) (outer:List Env) (s:XQ) (H:Hp) (vs:List V) (Q:VK) (E:XK),dg k (A.deeper (envOfC qual scope s.heap.objs.size f cF))->sp vs H Q E ->
   ∃t,sf (oZ CX P w K mg base N qual scope f cF A outer s H E) body t/\t {nx:=λ_ H'=>Q .cj H',rt:=Q} (start N vs) H) :
  aJ P w K mg base CX (k+1) f (PySem.W.fnOf name qual params body scope dV kV doc pm an cF ct) ps sp:=by
 refine⟨len,λA outer s H args us vs Q E hr e0 hb r nz=>?_⟩;have hl:=len _ _ _ _ nz;have KX:K.In s.heap:=e0.mod.RK.keeps λb o e=>(e0.bs b o e).1;have lim:s.heap.NoLimit:=e0.mod.nolimit.keeps λb o e=>(e0.bs b o e).1;have OU:∀y∈ps.zip us,scope.names.lookup y.1=some .local\/(scope.names.lookup y.1=some .cell/\((aa2 (s.heap.objs.size+1) scope.names []).lookup y.1).isSome=true):=λR6 hy=>by
  obtain⟨n,v⟩:=R6;rcases S.par n (List.of_mem_zip hy).1 with q|q
  ·exact .inl q
  ·exact .inr ⟨q,PySem.W.cellsFrom_some _ _ _ (.inl q)⟩
 refine codeAny_call_function hr.depth (KX _ _ lk) rfl S.co S.gen rfl (PySem.W.codeRec_of KX ES) (hb _ _ _ _ ?_);refine wpAny_newFunctionEnv_cells S.kind OU λenv he s1 x=>?_;subst he;refine⟨lim.keeps x.toInCall.keep,codeAny_func ?_⟩;obtain⟨t,ht,hq⟩:=nB A outer s H vs Q E (hr.deeper _) nz;have I:Inv (oZ CX P w K mg base N qual scope f cF A outer s H E) [] (start N vs) H s1:=zP S hr.hd e0 hl r x;refine wpAny_mono (ht [] s1 (start N vs) H _ I hq) (λfl s' hs=>?_) λe s' hs=>hs;have fin:∀{σ':St} {H':Hp} {v:V} {u:XO},Inv (oZ CX P w K mg base N qual scope f cF A outer s H E) [] σ' H' s'->RelV v u->Q v H'->CE outer P w H s Q u s' :=
  λ{σ' H' v u} J rv q=>⟨v,H',J.os,J.bare,J.base,J.a5,rv,q⟩
 cases fl with
 |ret u =>
  obtain⟨v,σ',H',J,rv,q⟩:=hs;exact fin J rv q
 |next =>
  obtain⟨σ',H',J,q⟩:=hs;exact fin (v:=V.cj) (u:=Value.none) J rfl q
 |brk =>
  obtain⟨_,_,_,q⟩:=hs;exact aaa q
 |cont =>
  obtain⟨_,_,_,q⟩:=hs;exact aaa q
section
variable {X:Cx}{x:Str}{p pos:Pos}{e:Expr}{es:List Expr}{t:TA}{id T:String}{r:List V->Hp->VK->Prop}
def QM (r:List V->Hp->VK->Prop)(t:TA):TE:=λσ H Q=>t σ H λvs H1=>r vs H1 Q
theorem eS (hc:dW X (.builtin id) r) (hg:Gl X x) (hm:X.mg x=none) (hv:YG x=some (.builtin id)) (ha:PA X (e::es) t) (hn:x≠"__name__" := by decide) (hdb:(x==("__debug__" : Str))=false:=by decide)
  (he:X2 (e::es) X.env=(false,eval e X.env)::X2 es X.env:=by rfl) (hpl:(ZA pos (X2 es X.env)).any (·.1)=false:=by rfl):PE X (.Call (.Name x p) (e::es) [] pos) (QM r t):=by
 intro pins s σ H Q I h;refine aaj (fH I hg hm hv ?_ hn hdb);exact PyProof.Rows.callWith_builtin1 (bu (ha pos pins s σ H _ I h) λus s1 R5=>by obtain⟨vs,H1,I1,r1,q1⟩:=R5;exact hc pins s1 σ H1 vs us Q I1 r1 q1) he hpl
theorem pG (hc:dW X (.type T) r) (hg:Gl X x) (hm:X.mg x=none) (hv:YG x=some (.type T)) (ha:PA X (e::es) t) (hn:x≠"__name__" := by decide) (hdb:(x==("__debug__" : Str))=false:=by decide)
  (he:X2 (e::es) X.env=(false,eval e X.env)::X2 es X.env:=by rfl) (hpl:(ZA pos (X2 es X.env)).any (·.1)=false:=by rfl):PE X (.Call (.Name x p) (e::es) [] pos) (QM r t):=by
 intro pins s σ H Q I h;refine aaj (fH I hg hm hv ?_ hn hdb);exact Y0 (bu (ha pos pins s σ H _ I h) λus s1 R4=>by obtain⟨vs,H1,I1,r1,q1⟩:=R4;exact hc pins s1 σ H1 vs us Q I1 r1 q1) he hpl
end
end L2
namespace HT
open PySem PyProof.Rows
def lexLt:List Int->List Int->Bool
 |[],[]=>false
 |[],_::_=>true
 |_::_,[]=>false
 |x::xs,y::ys=>if x=y then lexLt xs ys else decide (x<y)
theorem jf (x y:Int)(xs ys:List Int):lexLt (x::xs) (y::ys)=if x=y then lexLt xs ys else decide (x<y):=rfl
section
open PySem.SeqAt
open PySem.AutoSeq1 (wpAny_loadPart')
open PySem.MeetsSeq PySem.MeetsSeq2 PySem.MeetsSeq3
end
section
def mI (n d:Nat):Option Int->Nat
 |none=>d
 |some v=>if v<0 then (v+(n:Int)).toNat else min v.toNat n
theorem lR (n d k:Nat):mI n d (some (k:Int))=min k n:=by
 show (if (k:Int)<0 then ((k:Int)+(n:Int)).toNat else min (k:Int).toNat n)=min k n
 rw[if_neg (by lia),Zq]
end
end HT
namespace L2
open PySem PySem.Spec PyProof.Rows
abbrev TO:=St->Hp->(Option Int->Hp->Prop)->Prop
def PO (X:Cx)(e:Option Expr)(t:TO):Prop :=
 ∀(pins:List (Addr×Obj)) (s:XQ) (σ:St) (H:Hp) (Q:Option Int->Hp->Prop),Inv X pins σ H s->t σ H Q ->
  Ye (model X.prog X.w) X.A (evalPart e X.env) (λu s'=>∃o H',Inv X pins σ H' s'/\IsPart u o/\Q o H') X.xe s
def E_:TO:=λ_ H Q=>Q none H
def MB (t:TE):TO:=λσ H Q=>t σ H λx H1=>∃i,x=.int i/\Q (some i) H1
section
variable {X:Cx}{e:Expr}{te:TE}{lo hi:Option Expr}{tl th:TO}{pos p2:Pos}
theorem xx:PO X none E_:=by
 intro pins s σ H Q I h;rw[evalPart_none];exact XT ⟨none,H,I,.none,h⟩
theorem xw (h:PE X e te):PO X (some e) (MB te):=by
 intro pins s σ H Q I hw;rw[evalPart_some];refine bu (h pins s σ H _ I hw) λu s1 ⟨x,H1,I1,r1,q1⟩=>?_;obtain⟨i,rfl,q⟩:=q1;obtain⟨t,rfl⟩:=r1;exact⟨some i,H1,I1,.int i t,q⟩
def TH (X:Cx)(r:V->Option Int->Option Int->Hp->VK->Prop):Prop :=
 ∀(pins:List (Addr×Obj)) (s:XQ) (σ:St) (H:Hp) (x:V) (v vl vu:XO) (lo hi:Option Int) (sl:Addr) (Q:VK),Inv X pins σ H s->RelV x v->s.heap.IsSliceOf sl vl vu .none->IsPart vl lo->IsPart vu hi->r x lo hi H Q ->
  ∃T id,typeLookup (.type T) "__getitem__" = pure (some (.builtin id))/\s.TypeIs v T/\Ye (model X.prog X.w) X.A (getItem v (.ref sl)) (EP X pins σ Q) X.xe s
def Vo (r:V->Option Int->Option Int->Hp->VK->Prop)(te:TE)(tl th:TO):TE:=λσ H Q=>te σ H λx H1=>tl σ H1 λl H2=>th σ H2 λu H3=>r x l u H3 Q
theorem tN {r:V->Option Int->Option Int->Hp->VK->Prop}(hr:TH X r)(he:PE X e te)(hl:PO X lo tl)(hu:PO X hi th):PE X (.Subscript e (.Slice lo hi none p2) pos) (Vo r te tl th):=by
 intro pins s σ H Q I h;refine Subscript_ (bu (he pins s σ H _ I h) λv s1 ⟨x,H1,I1,r1,q1⟩=>?_);refine wpAny_Slice (bu (hl pins s1 σ H1 _ I1 q1) λvl s2 ⟨l,H2,I2,pl,q2⟩=>bu (hu pins s2 σ H2 _ I2 q2) λvu s3 ⟨u,H3,I3,pu,q3⟩=>?_);rw[evalPart_none];refine XT ?_;have I4:Inv X pins σ H3 {s3 with heap:=s3.heap.push {cls:=.type "slice",data:=.fields #[vl,vu,.none]}}:=I3.kept (t':=s3.toks) λb ob q=>XR _ q
 obtain⟨T,id,hT,ht,hg⟩:=hr pins {s3 with heap:=s3.heap.push {cls:=.type "slice",data:=.fields #[vl,vu,.none]}} σ H3 x v vl vu l u s3.heap.objs.size Q I4 r1 (Heap.IsSliceOf.new ..) pl pu q3
 show Ye (model X.prog X.w) X.A (subscriptTail e (.Slice lo hi none p2) v (.ref s3.heap.objs.size)) (EP X pins σ Q) X.xe {s3 with heap:=s3.heap.push {cls:=.type "slice",data:=.fields #[vl,vu,.none]}}
 exact tail_any (ops:=[.ref s3.heap.objs.size,v]) ht hT hg (by with_unfolding_all rfl)
def uV (xs:List V)(lo hi:Option Int):List V:=(xs.drop (HT.mI xs.length 0 lo)).take (HT.mI xs.length xs.length hi-HT.mI xs.length 0 lo)
theorem uU (xs:List V)(lo hi:Option Int):(uV xs lo hi).length<=xs.length:=by
 unfold uV;rw[Yy,aaw];lia
end
def zM (n:Nat)(i:Int):Option Nat:=if 0<=i then (if i<n then some i.toNat else none) else if -(n:Int)<=i then some (i+n).toNat else none
def r_ {α:Type}(xs:List α)(i:Int):Option α:=(zM xs.length i).bind λj=>xs[j]?
theorem ya {n:Nat}{i:Int}{j:Nat}(h:zM n i=some j):seqIndex? i n=some j/\j<n/\-(n:Int)<=i/\i<n:=by
 unfold zM at h
 by_cases h0:0<=i
 ·rw[if_pos h0]at h
  by_cases h1:i<n
  ·rw[if_pos h1]at h;have e:i.toNat=j:=Yv h;exact⟨by rw[seqIndex_of h0 h1,e],by lia,by lia,h1⟩
  ·rw[if_neg h1]at h;cases h
 ·rw[if_neg h0]at h
  by_cases h1:-(n:Int)<=i
  ·rw[if_pos h1]at h;have e:(i+n).toNat=j:=Yv h;exact⟨by rw[seqIndex_neg (by lia) h1,e],by lia,h1,by lia⟩
  ·rw[if_neg h1]at h;cases h
theorem yF {α:Type}{xs:List α}{i:Int}{v:α}(h:r_ xs i=some v):∃j,seqIndex? i xs.length=some j/\xs[j]?=some v/\j<xs.length/\-(xs.length:Int)<=i/\i<xs.length:=by
 unfold r_ at h;cases e:zM xs.length i with
 |none=>rw[e]at h;cases h
 |some j =>
  rw[e]at h;obtain⟨h1,h2,h3,h4⟩:=ya e;exact⟨j,h1,h,h2,h3,h4⟩
def ma (b:Expr):Prop:=∀o i,subscripted b false o i=operate [o,i] (getItem o i)
def HA (X:Cx)(r:R2):Prop :=
 ∀(value slice:Expr) (pins:List (Addr×Obj)) (s:XQ) (σ:St) (H:Hp) (x y:V) (v u:XO) (Q:VK),Inv X pins σ H s->RelV x v->RelV y u->r x y H Q ->
  subscripted slice false v u=operate [v,u] (getItem v u)->Ye (model X.prog X.w) X.A (subscriptTail value slice v u) (EP X pins σ Q) X.xe s
def TQ (X:Cx)(id:String)(r:V->List V->Hp->VK->Prop):Prop :=
 ∀(pins:List (Addr×Obj)) (s:XQ) (σ:St) (H:Hp) (x:V) (xs:List V) (v:XO) (us:List XO) (Q:VK),Inv X pins σ H s->RelV x v->Vals xs us->r x xs H Q ->
  Ye (model X.prog X.w) X.A (call (.builtin id) (v::us)) (EP X pins σ Q) X.xe s
section
variable {X:Cx}{a b:Expr}{ta tb:TE}{pos:Pos}
theorem jH {r:R2}(hr:HA X r)(ha:PE X a ta)(hb:PE X b tb)(hs:ma b):PE X (.Subscript a b pos) (MC r ta tb):=by
 intro pins s σ H Q I h;exact Subscript_ (LS ha hb I h λv u s2 x y H2 I2 rx ry q=>hr a b pins s2 σ H2 x y v u Q I2 rx ry q (hs _ _))
def MW (K:PySem.W.Frag):R2:=λx y H Q=>∃p xs i v,x=.ref p/\y=.int i/\dv K H p xs/\r_ xs i=some v/\Q v H
def MV (K:PySem.W.Frag):R2:=λx y H Q=>∃p xs i v,x=.ref p/\y=.int i/\kh K H p xs/\r_ xs i=some v/\Q v H
theorem fx:HA X (MW X.K):=by
 intro value slice pins s σ H x y v u Q I rx ry h hs;obtain⟨p,xs,i,z,rfl,rfl,hq,he,q⟩:=h;cases rx;obtain⟨t,rfl⟩:=ry;obtain⟨its,r,pl,hz⟩:=I.list hq;obtain⟨j,h1,h2,h3,h4,h5⟩:=yF he;obtain⟨w,ew,Az⟩:=r.get h2;have hl:=r.length;have hn:=ng;have fin:EP X pins σ Q w s:=⟨z,H,I,Az,q⟩
 by_cases h0:0<=i
 ·have hj:i.toNat=j:=by
   rw[seqIndex_of h0 h5]at h1;exact Yv h1
  exact item_listR pl.isList h0 (by lia) (by rw[hj];simpa using ew) fin hs
 ·have hj:(i+(its.toArray.size:Int)).toNat=j:=by
   rw[seqIndex_neg (by lia) h4]at h1
   rw[Yb,<- hl];exact Yv h1
  exact subscriptTail_builtinR (x:=w) pl.isList.typeIs aaP.lookup
   (wpAny_getItem_list_neg (Q:=λr s'=>r=w/\EP X pins σ Q r s') pl.isList (by lia) (by rw[Yb] <;> lia) (by lia) (by rw[hj];simpa using ew) ⟨rfl,fin⟩) hs
theorem C9:HA X (MV X.K):=by
 intro value slice pins s σ H x y v u Q I rx ry h hs;obtain⟨p,xs,i,z,rfl,rfl,hq,he,q⟩:=h;cases rx;obtain⟨t,rfl⟩:=ry;obtain⟨its,r,pl,hz⟩:=I.tuple hq;obtain⟨j,h1,h2,h3,h4,h5⟩:=yF he;obtain⟨w,ew,Az⟩:=r.get h2;have hl:=r.length;have hn:=ng;have fin:EP X pins σ Q w s:=⟨z,H,I,Az,q⟩;exact subscriptTail_builtinR (x:=w) pl.typeIs slot_tuple_getitem.lookup
  (getItem_tuple (j:=j) (Q:=λr s'=>r=w/\EP X pins σ Q r s') pl (by lia) (by lia) (by rw[Yb,<- hl];exact h1) (by simpa using ew) ⟨rfl,fin⟩) hs
theorem v8 (its:List XO)(n j:Nat)(u:XO):Obj.mapSeq (·.setIfInBounds j u) {cls:=.type "list",data:=.seq its.toArray n}={cls:=.type "list",data:=.seq (its.set j u).toArray n}:=by
 simp[Obj.mapSeq]
theorem Inv.lst {pins:List (Addr×Obj)}{σ:St}{H:Hp}{s:XQ}{p:Addr}{xs:List V}(I:Inv X pins σ H s)(h:H p=some (.lst xs)):
  ∃(its:List XO) (n:Nat),Vals xs its/\s.heap.get? p=some {cls:=.type "list",data:=.seq its.toArray n}/\xs.length<=X3:=by
 obtain⟨z,its,n,r,e⟩:=I.a5 p _ h;exact⟨its,n,r,e,z⟩
theorem Inv.Kn {pins:List (Addr×Obj)}{σ:St}{H:Hp}{s:XQ}{p:Addr}{xs ys:List V}{its its':List XO}{n n':Nat}{f:Obj->Obj}(I:Inv X pins σ H s)(h:H p=some (.lst xs))
  (ho:s.heap.get? p=some {cls:=.type "list",data:=.seq its.toArray n}) (hf:f {cls:=.type "list",data:=.seq its.toArray n}={cls:=.type "list",data:=.seq its'.toArray n'}) (r:Vals ys its') (hz:ys.length<=X3) (t:Nat) :
  Inv X pins σ (upd H p (.lst ys)) {s with heap:=s.heap.update p f,toks:=t}:=by
 have e:(s.heap.update p f).get? p=some {cls:=.type "list",data:=.seq its'.toArray n'}:=by
  rw[Heap.get?_update_self f ho (by rw[hf] <;> rfl),hf]
 refine I.write (x:=p) (e:=p) (by rw[h];trivial) (.inl rfl) (λb u hb q=>(Heap.get?_update_other _ _ (YW hb)).trans q) ⟨_,e⟩ ?_
 exact⟨hz,its',n',r,e⟩
def MU:V->V->V->Hp->(Hp->Prop)->Prop:=λo i v H Q=>∃p xs k j,o=.ref p/\i=.int k/\H p=some (.lst xs)/\zM xs.length k=some j/\Q (upd H p (.lst (xs.set j v)))
theorem set_list:Po X MU:=by
 intro pins s σ H o i v ov iv u Q I ro ri rv h;obtain⟨p,xs,k,j,rfl,rfl,hp,hj,q⟩:=h;cases ro;obtain⟨t,rfl⟩:=ri;obtain⟨its,n,r,ho,hz⟩:=I.lst hp;obtain⟨h1,h2,h3,h4⟩:=ya hj;have hl:=r.length;have hn:=ng;have I':Inv X pins σ (upd H p (.lst (xs.set j v))) {s with heap:=s.heap.update p (Obj.mapSeq (·.setIfInBounds j u))} :=
  I.Kn hp ho (v8 its n j u) (r.set rv j) (by rw[List.length_set];exact hz) s.toks
 by_cases h0:0<=k
 ·have hk:k.toNat=j:=by
   rw[seqIndex_of h0 h4]at h1;exact Yv h1
  exact PySem.W.ki_setAt ho h0 (by lia) (by rw[Yb,<- hl];exact h4) (by rw[hk];exact⟨_,I',q⟩)
 ·have hk:(k+(its.toArray.size:Int)).toNat=j:=by
   rw[seqIndex_neg (by lia) h3]at h1
   rw[Yb,<- hl];exact Yv h1
  exact PySem.W.ki_setBack ho (by lia) (by rw[Yb,<- hl];exact h3) (by lia) (by rw[hk];exact⟨_,I',q⟩)
theorem qK (lo hi:Option Int)(n:Nat):(ZW lo hi none n).1=((HT.mI n 0 lo:Nat):Int)/\(ZW lo hi none n).2.1=((HT.mI n n hi:Nat):Int)/\(ZW lo hi none n).2.2=1:=by
 refine⟨?_,?_,rfl⟩
 ·cases lo with
  |none=>simp[ZW,HT.mI]
  |some i =>
   simp only[ZW,HT.mI,Option.getD_none,show (1:Int)>0 by decide,if_true]
   by_cases h:i<0
   ·simp only[h,if_true] <;> lia
   ·simp only[h,if_false] <;> lia
 ·cases hi with
  |none=>simp[ZW,HT.mI]
  |some i =>
   simp only[ZW,HT.mI,Option.getD_none,show (1:Int)>0 by decide,if_true]
   by_cases h:i<0
   ·simp only[h,if_true] <;> lia
   ·simp only[h,if_false] <;> lia
theorem oF (its:List XO)(lo hi:Option Int):slicePick its.toArray lo hi none=((its.drop (HT.mI its.length 0 lo)).take (HT.mI its.length its.length hi-HT.mI its.length 0 lo)).toArray:=by
 obtain⟨h1,h2,h3⟩:=qK lo hi its.toArray.size;unfold slicePick;rw[h1,h2,h3];simp only[sliceRange_one,pick_run,Yb] <;> rfl
def Q8 (K:PySem.W.Frag):V->Option Int->Option Int->Hp->VK->Prop:=λx lo hi H Q=>∃a xs,x=.ref a/\dv K H a xs/\∀p,H p=none->Q (.ref p) (upd H p (.lst (uV xs lo hi)))
theorem xk:TH X (Q8 X.K):=by
 intro pins s σ H x v vl vu lo hi sl Q I rx hs pl pu h;obtain⟨a,xs,rfl,hx,q⟩:=h;cases rx;obtain⟨its,r,ht,hz⟩:=I.list hx;have hlen:=r.length;refine⟨"list",_,aaP.lookup,ht.isList.typeIs,?_⟩;refine aaW ht.isList hs pl pu .none (by simp) ?_ (by rw[Yb] <;> lia)
 rw[oF,<- hlen];refine⟨.ref s.heap.objs.size,_,I.laid (t':=s.toks) (o:=.lst (uV xs lo hi)) (λb ob q=>XR _ q) (XS _) ?_,rfl,q _ (I.a5.fresh (XS _))⟩;exact⟨Yz (uU xs lo hi) hz,_,0,(r.drop (HT.mI xs.length 0 lo)).take (HT.mI xs.length xs.length hi-HT.mI xs.length 0 lo),X_ _ rfl⟩
theorem kg:dW X (.builtin "len") (λxs H Q=>∃p ys,xs=[.ref p]/\(dv X.K H p ys\/kh X.K H p ys)/\Q (.int ys.length) H):=by
 intro pins s σ H xs us Q I r h;obtain⟨p,ys,rfl,hq,q⟩:=h;obtain⟨u,rfl,rx⟩:=vals1 r;cases rx;have hn:=ng;rcases hq with hq|hq
 ·obtain⟨its,r',pl,hz⟩:=I.list hq;have hlen:=r'.length;exact Calls.call_len_list pl.isList (by simp only[Yb] <;> lia) ⟨.int ys.length,H,I.tok _,⟨s.toks+1,by rw[Yb,hlen]⟩,q⟩
 ·obtain⟨its,r',pl,hz⟩:=I.tuple hq;have hlen:=r'.length;exact len_tuple pl (by simp only[Yb] <;> lia) ⟨.int ys.length,H,I.tok _,⟨s.toks+1,by rw[Yb,hlen]⟩,q⟩
theorem kf:dW X (.type "list") (λxs H Q=>∃p ys,xs=[.ref p]/\(dv X.K H p ys\/kh X.K H p ys)/\∀l,H l=none->Q (.ref l) (upd H l (.lst ys))):=by
 intro pins s σ H xs us Q I r h;obtain⟨p,ys,rfl,hq,q⟩:=h;obtain⟨u,rfl,rx⟩:=vals1 r;cases rx;have fin:∀(its:List XO),Vals ys its->ys.length<=X3->∀(h':Heap) (c':Nat),(∀b o',s.heap.get? b=some o'->h'.get? b=some o') ->
   h'.get? s.heap.objs.size=some {cls:=.type "list",dict:=none,data:=.seq its.toArray c',slots:=#[]}->EP X pins σ Q (.ref s.heap.objs.size) {s with heap:=h'}:=λits r' hz h' c' kp e =>
  ⟨.ref s.heap.objs.size,_,I.laid (t':=s.toks) kp (XS _) (show aO X.prog X.w _ h' _ (.lst ys) from ⟨hz,its,c',r',e⟩),rfl,q _ (I.a5.fresh (XS _))⟩
 rcases hq with hq|hq
 ·obtain⟨its,r',pl,hz⟩:=I.list hq;have hlen:=r'.length;obtain⟨o,ho,hc,n,hd⟩:=pl.isList;exact call_list_seq p (.inl rfl) ho hc hd (λh' c' kp e=>fin its r' hz h' c' kp e) (by simp only[Yb] <;> lia)
 ·obtain⟨its,r',pl,hz⟩:=I.tuple hq;have hlen:=r'.length;obtain⟨o,ho,hc,n,hd⟩:=pl;exact call_list_seq p (.inr rfl) ho hc hd (λh' c' kp e=>fin its r' hz h' c' kp e) (by simp only[Yb] <;> lia)
def PD (K:PySem.W.Frag)(T:String)(x:V)(H:Hp):Prop:=match x with
 |.str _=>T="str"
 |.int _=>T="int"
 |.ref p=>(T="list" /\ ∃xs,dv K H p xs)\/(T="tuple" /\ ∃o,K.lookup p=some o/\o.cls=.type "tuple" /\ o.dict=none) \/
   (T="dict" /\ ((∃kvs,H p=some (.dK kvs))\/∃kvs,H p=some (.dT kvs)))\/(T="set" /\ ∃S n,H p=some (.set S n))
 |_=>False
theorem A_ {pins:List (Addr×Obj)}{σ:St}{H:Hp}{s:XQ}{T:String}{x:V}{v:XO}(I:Inv X pins σ H s)(r:RelV x v)(ty:PD X.K T x H):
  s.TypeIs v T/\∀a,v=.ref a->∃ob,s.heap.get? a=some ob/\ob.dict=none:=by
 cases x with
 |str z =>
  obtain⟨t,rfl⟩:=r;cases (show T="str" from ty)
  exact⟨typeIs_str s z t,λ_ e=>nomatch e⟩
 |int i =>
  obtain⟨t,rfl⟩:=r;cases (show T="int" from ty)
  exact⟨typeIs_int s i t,λ_ e=>nomatch e⟩
 |ref p =>
  cases r;rcases ty with⟨rfl,xs,hq⟩|⟨rfl,o,hk,hc,hd⟩|⟨rfl,hk⟩|⟨rfl,S,n,hk⟩
  ·obtain⟨its,_,pl,_⟩:=I.list hq;refine⟨pl.isList.typeIs,λa e=>?_⟩;cases e;obtain⟨o,n,e,c,hd,_⟩:=pl;exact⟨o,e,hd⟩
  ·refine⟨⟨o,I.kT p o hk,hc⟩,λa e=>?_⟩;cases e;exact⟨o,I.kT _ o hk,hd⟩
  ·have z:∃o,s.heap.get? p=some o/\o.ExactDict:=by
    rcases hk with⟨kvs,hk⟩|⟨kvs,hk⟩
    ·obtain⟨_,_,_,_,o,_,_,e,ex,_⟩:=I.a5 p _ hk;exact⟨o,e,ex⟩
    ·obtain⟨_,_,_,_,o,_,_,e,ex,_⟩:=I.a5 p _ hk;exact⟨o,e,ex⟩
   obtain⟨o,e,ex⟩:=z;refine⟨⟨o,e,ex.1⟩,λa e2=>?_⟩;cases e2;exact⟨o,e,ex.2.1⟩
  ·obtain⟨o,_,_,_,e,ex,_⟩:=I.a5 p _ hk;refine⟨⟨o,e,ex.1⟩,λa e2=>?_⟩;cases e2;exact⟨o,e,ex.2.1⟩
 |_=>exact aaa ty
def QN (K:PySem.W.Frag)(T:String)(r:V->List V->Hp->VK->Prop)(to:TE):TE:=λσ H Q=>to σ H λx H1=>PD K T x H1/\r x [] H1 Q
def Vq (K:PySem.W.Frag)(T:String)(r:V->List V->Hp->VK->Prop)(to:TE)(t:TA):TE:=λσ H Q=>to σ H λx H1=>PD K T x H1/\t σ H1 λxs H2=>r x xs H2 Q
variable {o e:Expr}{es:List Expr}{to:TE}{t:TA}{name:Str}{apos cpos:Pos}{T id:String}{r:V->List V->Hp->VK->Prop}
theorem B4 (pa:PlainAttrs T) (slot:Slot T name id) (RZ:typeOf (.builtin id)=pure (.type "method_descriptor")) (hm:TQ X id r) (ho:PE X o to)
  (e9:Z3 o name X.env (eval o X.env)=eval o X.env:=by rfl) (eZ:(apos.endLine==cpos.line)=true:=by rfl):PE X (.Call (.Attribute o name apos) [] [] cpos) (QN X.K T r to):=by
 intro pins s σ H Q I h;refine wpAny_Call_method0_late e9 eZ (bu (ho pins s σ H _ I h) λv s1 ⟨x,H1,I1,r1,ty,q1⟩=>?_);obtain⟨h1,h2⟩:=A_ I1 r1 ty;exact⟨T,id,pa,slot,RZ,h1,h2,Calls.callWith_builtin rfl (PySem.evalArgs_none (hm pins s1 σ H1 x [] v [] Q I1 r1 .nil q1))⟩
theorem xD (pa:PlainAttrs T) (slot:Slot T name id) (RZ:typeOf (.builtin id)=pure (.type "method_descriptor")) (hm:TQ X id r) (ho:PE X o to) (ha:PA X (e::es) t)
  (e9:Z3 o name X.env (eval o X.env)=eval o X.env:=by rfl)
  (rJ:((ZA cpos (X2 (e::es) X.env)).all (λx=>!x.1)&&(backToKw cpos (keywordEach [] X.env)).all (λx=>x.1.isSome)
   && decide ((e::es).length+([]:List aaV).length+(if ([]:List aaV).isEmpty then 0 else 1)<30))=true:=by rfl)
  (eZ:(apos.endLine==cpos.line)=true:=by rfl) (hs:X2 (e::es) X.env=(false,eval e X.env)::X2 es X.env:=by rfl) (gx:(ZA cpos (X2 es X.env)).any (·.1)=false:=by rfl) :
  PE X (.Call (.Attribute o name apos) (e::es) [] cpos) (Vq X.K T r to t):=by
 intro pins s σ H Q I h;refine wpAny_Call_method_late e9 rJ eZ rfl (bu (ho pins s σ H _ I h) λv s1 ⟨x,H1,I1,r1,ty,q1⟩=>?_);obtain⟨h1,h2⟩:=A_ I1 r1 ty;refine⟨T,id,pa,slot,RZ,h1,h2,?_⟩;have hA:=ha cpos pins s1 σ H1 _ I1 q1;rw[hs]at hA ⊢
 refine Calls.callWith_builtin (by show (false || (ZA cpos (X2 es X.env)).any (·.1))=false;rw[gx] <;> rfl) (Calls.evalArgs_plain ?_)
 exact bu hA λus s2 ⟨vs,H2,I2,r2,q2⟩=>hm pins s2 σ H2 x vs v us Q I2 r1 r2 q2
end
def Qv (X:Cx)(id:String)(r:V->List V->Hp->VK->Prop):Prop :=
 ∀(pins:List (Addr×Obj)) (s:XQ) (σ:St) (H:Hp) (x:V) (xs:List V) (v:XO) (us:List XO) (Q:VK),Inv X pins σ H s->RelV x v->Vals xs us->r x xs H Q ->
  Ye (model X.prog X.w) X.A (call (.builtin id) (v::us)) (EP X pins σ Q) X.xe s
theorem Vals.one:∀{x:V} {us:List XO},Vals [x] us->∃u,us=[u]/\RelV x u
 |_,_,.cons r .nil=>⟨_,rfl,r⟩
theorem Vals.zero:∀{us:List XO},Vals [] us->us=[]
 |_,.nil=>rfl
theorem Vals.dropLast {xs:List V}{us:List XO}(h:Vals xs us):Vals xs.dropLast us.dropLast:=by
 induction h with
 |nil=>exact .nil
 |cons r t ih =>
  cases t with
  |nil=>exact .nil
  |cons q t'=>exact .cons r ih
theorem Vals.eraseIdx:∀{xs:List V} {us:List XO} (i:Nat),Vals xs us->Vals (xs.eraseIdx i) (us.eraseIdx i)
 |_,_,_,.nil=>.nil
 |_,_,0,.cons _ t=>t
 |_,_,i+1,.cons r t=>.cons r (Vals.eraseIdx i t)
theorem wG {α:Type}(l:List α):l.eraseIdx (l.length-1)=l.dropLast:=by
 induction l with
 |nil=>rfl
 |cons a r ih =>
  cases r with
  |nil=>rfl
  |cons b r =>
   have e:(a::b::r).length-1=((b::r).length-1)+1:=by
    have h1:(a::b::r).length=r.length+2:=rfl;have h2:(b::r).length=r.length+1:=rfl;lia
   rw[e,List.eraseIdx_cons_succ,ih]
   all_goals rfl
theorem pO {α:Type}:∀(l:List α) (i:Nat),(l.eraseIdx i).length<=l.length
 |[],_=>XS _
 |_::_,0=>Nat.le_succ _
 |_::r,i+1=>Nat.succ_le_succ (pO r i)
section
variable {X:Cx}{pins:List (Addr×Obj)}{σ:St}{H:Hp}{s:XQ}{l:Addr}{xs ys:List V}
theorem Inv.Gj {its its':List XO}{n:Nat}{f:Array XO->Array XO}{t':Nat}(I:Inv X pins σ H s)(hH:H l=some (.lst xs))
  (e:s.heap.get? l=some {cls:=.type "list",data:=.seq its.toArray n}) (hf:f its.toArray=its'.toArray) (hv:Vals ys its') (hz:ys.length<=X3) :
  Inv X pins σ (upd H l (.lst ys)) {s with heap:=s.heap.update l (Obj.mapSeq f),toks:=t'}:=by
 have q:=PySem.IsL.update e f;rw[hf]at q;refine I.write (x:=l) (e:=l) (by rw[hH];exact trivial) (.inl rfl) (λb' u hb hu=>(Heap.get?_update_other s.heap (Obj.mapSeq f) (YW hb)).trans hu) ⟨_,q⟩ ?_
 exact⟨hz,its',_,hv,q⟩
theorem Inv.NK {its:List XO}{t':Nat}(I:Inv X pins σ H s)(hv:Vals ys its)(hz:ys.length<=X3):
  Inv X pins σ (upd H s.heap.objs.size (.lst ys)) {s with heap:=s.heap.push {cls:=.type "list",data:=.seq its.toArray},toks:=t'} :=
 I.laid (λ_ _ q=>XR _ q) (XS _) ⟨hz,its,0,hv,X_ _ rfl⟩
theorem Inv.fresh (I:Inv X pins σ H s):H s.heap.objs.size=none:=I.a5.fresh (XS _)
theorem Inv.v9 (I:Inv X pins σ H s)(hH:H l=some (.lst xs)):xs.length<=X3/\∃(its:List XO) (n:Nat),Vals xs its/\xs.length=its.length/\s.heap.get? l=some {cls:=.type "list",data:=.seq its.toArray n}:=by
 obtain⟨z,its,n,r,e⟩:=I.a5 l _ hH;exact⟨z,its,n,r,r.length,e⟩
theorem CB {n:Nat}(h:n<=X3):aa1 n=false:=by
 unfold aa1;exact decide_eq_false (by lia)
end
section
variable {X:Cx}
def xn:V->List V->Hp->VK->Prop:=λx vs H Q=>∃l xs y,x=.ref l/\vs=[y]/\H l=some (.lst xs)/\xs.length<X3/\Q .cj (upd H l (.lst (xs++[y])))
theorem kP:Qv X "list.append" xn:=by
 intro pins s σ H x vs v us Q I rx rv h;obtain⟨l,xs,y,rfl,rfl,hH,hz,q⟩:=h;cases rx;obtain⟨u,rfl,ru⟩:=rv.one;obtain⟨z,its,n,r,hl,e⟩:=I.v9 hH;refine call_meets F.slot_list_append ⟨_,e,rfl⟩ F.entry_list_append (F.args_list_append_2 _ _) (PySem.list_append l its.toArray n u (by rw[Yb];lia)) ⟨e,?_⟩
 refine⟨.cj,_,I.Gj (its':=its++[u]) hH e (by simp) (r.append (.cons ru .nil)) ?_,rfl,q⟩
 rw[Yg,List.length_singleton];lia
def Fo:V->List V->Hp->VK->Prop:=λx vs H Q=>∃l b xs zs,x=.ref l/\vs=[.ref b]/\H l=some (.lst xs)/\H b=some (.lst zs)/\xs.length+zs.length<=X3/\Q .cj (upd H l (.lst (xs++zs)))
theorem zB:Qv X "list.extend" Fo:=by
 intro pins s σ H x vs v us Q I rx rv h;obtain⟨l,b,xs,zs,rfl,rfl,hH,hB,hz,q⟩:=h;cases rx;obtain⟨u,rfl,ru⟩:=rv.one;cases ru;obtain⟨z,its,n,r,hl,e⟩:=I.v9 hH;obtain⟨z2,nr,n2,r2,OT,e2⟩:=I.v9 hB;have hsz:its.toArray.size+nr.toArray.size<=X3:=by rw[Yb,Yb];lia
 have OS:¬ (!its.toArray.isEmpty&&aa1 (its.toArray.size+nr.toArray.size))=true:=by
  rw[CB hsz,Bool.and_false];exact aak
 refine call_meets F.slot_list_extend ⟨_,e,rfl⟩ F.entry_list_extend (F.args_list_extend_2 _ _)
  (AutoSeq1.list_extend_list_list_0 l its.toArray n b nr.toArray n2 OS (by rw[Yb];lia) (by lia)) ⟨e,e2,?_⟩
 refine⟨.cj,_,I.Gj (its':=its++nr) hH e (by simp) (r.append r2) ?_,rfl,q⟩
 rw[Yg];lia
def Q9:V->List V->Hp->VK->Prop:=λx vs H Q=>∃l xs y,x=.ref l/\vs=[]/\H l=some (.lst xs)/\xs[xs.length-1]?=some y/\Q y (upd H l (.lst xs.dropLast))
theorem Kh:Qv X "list.pop" Q9:=by
 intro pins s σ H x vs v us Q I rx rv h;obtain⟨l,xs,y,rfl,rfl,hH,hy,q⟩:=h;cases rx;have KZ:=rv.zero;subst KZ;obtain⟨z,its,n,r,hl,e⟩:=I.v9 hH;obtain⟨u,hu,ru⟩:=r.get hy;have RV:its.toArray[its.toArray.size-1]?=some u:=by
  show its.toArray[its.length-1]?=some u;rw[<- YR,<- hl];exact hu
 refine call_meets F.slot_list_pop ⟨_,e,rfl⟩ F.entry_list_pop (F.args_list_pop_1 _) (MeetsSeq.list_pop_last l its.toArray n u RV (by rw[Yb];lia)) ⟨e,?_⟩
 refine⟨y,_,I.Gj (its':=its.dropLast) hH e ?_ r.dropLast ?_,ru,q⟩
 ·show its.toArray.eraseIdxIfInBounds (its.toArray.size-1)=its.dropLast.toArray;rw[Yb,List.eraseIdxIfInBounds_toArray,wG]
 ·rw[List.length_dropLast];lia
def Jx:V->List V->Hp->VK->Prop:=λx vs H Q=>∃l xs i k y,x=.ref l/\vs=[.int i]/\H l=some (.lst xs)/\-(2 ^ 63)<=i/\i<2 ^ 63/\seqIndex? i xs.length=some k/\xs[k]?=some y/\Q y (upd H l (.lst (xs.eraseIdx k)))
theorem CJ:Qv X "list.pop" Jx:=by
 intro pins s σ H x vs v us Q I rx rv h;obtain⟨l,xs,i,k,y,rfl,rfl,hH,h1,h2,hk,hy,q⟩:=h;cases rx;obtain⟨u,rfl,ru⟩:=rv.one;obtain⟨t,rfl⟩:=ru;obtain⟨z,its,n,r,hl,e⟩:=I.v9 hH;obtain⟨w,hw,Az⟩:=r.get hy;refine call_meets F.slot_list_pop ⟨_,e,rfl⟩ F.entry_list_pop (F.args_list_pop_2 _ _)
  (MeetsSeq.list_pop_at l its.toArray n i t k w (fitsIndex_both h1 h2) (by rw[Yb,<- hl];exact hk) (by rw[<- YR];exact hw) (by rw[Yb];lia)) ⟨e,?_⟩
 refine⟨y,_,I.Gj (its':=its.eraseIdx k) hH e ?_ (r.eraseIdx k) ?_,Az,q⟩
 ·show its.toArray.eraseIdxIfInBounds k=(its.eraseIdx k).toArray;rw[List.eraseIdxIfInBounds_toArray]
 ·have:=pO xs k;lia
def Rb:R2:=λx y H Q=>∃l b xs zs,x=.ref l/\y=.ref b/\H l=some (.lst xs)/\H b=some (.lst zs)/\xs.length+zs.length<=X3/\∀p,H p=none->Q (.ref p) (upd H p (.lst (xs++zs)))
theorem Cn:jy X (ZR .Add) Rb:=by
 intro pins s σ H x y v u Q I rx ry h;obtain⟨l,b,xs,zs,rfl,rfl,hH,hB,hz,q⟩:=h;cases rx;cases ry;obtain⟨z,its,n,r,hl,e⟩:=I.v9 hH;obtain⟨z2,nr,n2,r2,OT,e2⟩:=I.v9 hB;refine PySem.P.add_list e e2 ?_ (by rw[Yb,Yb];lia)
 have ea:its.toArray++nr.toArray=(its++nr).toArray:=by simp
 rw[ea];exact⟨.ref _,_,I.NK (t':=s.toks) (r.append r2) (by rw[Yg];lia),rfl,q _ I.fresh⟩
end
section
end
section
end
end L2
namespace Vb
open PySem PySem.W PySem.Calls PyProof.Rows
theorem lI {P:Params}{h:Heap}:∀(ns:List Int) (vs:List XO),WellAll P h vs (ns.map WData.int)->aaq vs ns:=by
 intro ns
 induction ns with
 |nil =>
  intro vs w;rw[List.map_nil]at w;cases w;exact .nil
 |cons n ns ih =>
  intro vs w;rw[X4]at w;cases w with
  |cons a b =>
   cases a;exact .cons _ _ (ih _ b)
theorem za {l:OpenLaw}{n:Nat}(hn:l.most=some n){P:Params}{h:Heap}{args:List WData}{vals:List XO}
  (GF:l.row.toRowW.claim.pre args=true) (RW:WellAll P h vals args) :
  ∃a vs ns,vals=[Value.ref a]/\args=[WData.list (ns.map WData.int)]/\h.get? a=some {cls:=.type "list",data:=.seq vs.toArray}/\aaq vs ns/\ns.length<=n:=by
 have Wf:WShape.hasAll [] args [.list .int]=true:=(pre_splitW GF).1;have hc:l.pre.holds [] {args:=args}=true:=(pre_splitW GF).2;obtain⟨d,r,rfl,h1,h2⟩:=hasAllW_cons Wf;obtain rfl:=hasAllW_nil h2;obtain⟨xs,rfl,h3⟩:=hasW_list h1;obtain⟨ns,rfl⟩:=items_int h3;have hlen:ns.length<=n:=by
  unfold OpenLaw.pre at hc;have h4:(WTm.not (.lt (.lit (.int (n:Int))) (.len (.arg 0)))).holds [] {args:=[.list (ns.map .int)]}=true:=by
   have h4:=(holds_andW hc).1;rw[hn]at h4;exact h4
  have h5:=condW_of h4 (w_not (w_lt w_lit (w_len_list (w_arg rfl))));rw[XN]at h5;refine Nat.le_of_not_lt λq=>?_;have q':(n:Int)<((ns.length:Nat):Int):=by lia
  first
   | (rw[decide_eq_true q']at h5;exact absurd h5 (by decide))
   | (simp at h5;lia)
 cases RW with
 |cons w1 w2 =>
  cases w2;cases w1 with
  |list ho wy=>exact⟨_,_,ns,rfl,rfl,ho,lI ns _ wy,hlen⟩
theorem zi (l:OpenLaw)(args:List WData):l.row.toRowW.claim.post args (.bool true) args=true :=
 postW_of (r:=l.row.toRowW) (X:=(true==true))
  (show WShape.has [] (.bool true) .bool=true by first|rfl|decide|simp[WShape.has,WShape.arms,WShape.armsAll])
  (show (WTm.eq .res (.lit (.bool true))).value [] {args:=args,res:=some (.bool true),after:=args}=some (.bool (true==true)) from w_eq_bool (w_res rfl) w_lit) rfl
theorem u7 {l:OpenLaw}{n:Nat}{q:XX}{loose:List Str}{XP:(Str->Option XO)->Heap->Prop}{YP:X6->Heap->Prop}{d:DefRec}
  (hn:l.most=some n) (SS:d.params.defaults=[])
  (call:∀(w:X6) (s₀ s₁:XQ) (mg mb:Str->Option XO) (fa:Addr) (o:Obj) (pm cd doc:XO) (a:Addr) (vs:List XO) (ns:List Int),
   Ground q loose [] XP w s₀ mg mb s₁.heap->YP w s₁.heap ->
   s₁.heap.get? fa=some o->o.data=.func (docDef d.name d.params d.body d.scope pm cd doc)->s₁.heap.CodeRec cd d.name->mg d.name=some (.ref fa) ->
   s₁.heap.get? a=some {cls:=.type "list",data:=.seq vs.toArray}->aaq vs ns->ns.length<=n->s₁.gens=#[] ->
   aax (model l.prog w) callerA (.call (.ref fa) ⟨[.ref a],[]⟩) (λr s'=>r=.ok (.ret (.bool true))/\OldK s₁.heap s'.heap/\s'.os=s₁.os/\AllBare s'.gens) s₁) :
  WalkO q loose XP YP l.row.toRowW d [] (λf vs=>PySem.call f vs):=by
 intro w s₀ s₁ mg mb G Y fa o pm cd doc dV kV ho hd ES hD Sx hg args vals as GF Wr UJ RW XD;obtain rfl:dV=.none:=Dflts.none hD SS;obtain rfl:kV=.none:=Dflts.noKw hD;obtain⟨a,vs,ns,rfl,rfl,Ll,hints,hlen⟩:=za hn GF RW;refine enter_call (aac (call w s₀ s₁ mg mb fa o pm cd doc a vs ns G Y ho (fd_plain hd) ES Sx Ll hints hlen hg) λr s' hq=>?_);obtain⟨rfl,h2,h3,h4⟩:=hq;exact⟨.inl ⟨.bool true,.bool true,[],rfl,λ_=>rfl,.bool true,zi l _,λ_=>⟨List.Pairwise.nil,λ_ hm=>(nomatch hm)⟩⟩,h2,h3,h4⟩
section
end
end Vb
namespace L2
open PySem PySem.Spec PyProof.Rows
theorem ph:∀{vs:List XO} {ns:List Int},aaq vs ns->Vals (ns.map V.int) vs
 |_,_,.nil=>.nil
 |_,_,.cons n t h=>.cons ⟨t,rfl⟩ (ph h)
def L0 (H:Hp):Prop:=∀b,H b=none\/∃o xs,H b=some (.rM o (.lst xs))
theorem CV {P:XX}{w:X6}{K:PySem.W.Frag}{mg mb:Str->Option XO}{CX:E3}{k:Nat}{fa a:Addr}{fd:YB}{x:Str}{sp:Sp}{s₁:XQ}{vs:List XO}{ns:List Int}
  (KX:K.In s₁.heap) (Mc:s₁.heap.Ns Zy mg) (hb:s₁.heap.Ns builtinsNs mb) (WB:∀x:Str,x≠"__name__" -> mb x=YG x) (Sz:s₁.heap.NoLimit) (hg:s₁.gens=#[])
  (ha:s₁.heap.get? a=some {cls:=.type "list",data:=.seq vs.toArray}) (hi:aaq vs ns) (hl:ns.length<=X3) (hr:dg k callerA)
  (F:∀base:Heap,K.In base->base.Ns Zy mg->aJ P w K mg base CX k fa fd [x] sp) (O2:∀(s:XQ) (u:XO),BindsTo s fd ⟨[u],[]⟩ [(x,u)])
  (nz:∀H:Hp,L0 H->dv K H a (ns.map V.int)->sp [.ref a] H (λv _=>v=.bl true) λ_ _ _=>False)
  (S8:∀H e s',CX [] H s₁ (λ_ _ _=>False) e s'->False) :
  aax (model P w) callerA (.call (.ref fa) ⟨[.ref a],[]⟩) (λr s'=>r=.ok (.ret (.bool true))/\OldK s₁.heap s'.heap/\s'.os=s₁.os/\AllBare s'.gens) s₁:=by
 have rv:=ph hi;have RG:=hi.length;have core:∀H:Hp,L0 H->dv K H a (ns.map V.int)->jz P w H s₁.heap->(∀b,H b≠none->b=a)->(H a≠none->K.lookup a=none) ->
   aax (model P w) callerA (.call (.ref fa) ⟨[.ref a],[]⟩) (λr s'=>r=.ok (.ret (.bool true))/\OldK s₁.heap s'.heap/\s'.os=s₁.os/\AllBare s'.gens) s₁:=by
  intro H hO hS a5 hA hK;have yD:∀{b:Addr} {o:Obj},s₁.heap.get? b=some o->H b=none->(rH s₁.heap H).get? b=some o:=λe n=>Dy e n;have Nr:∀{b:Addr} {o:Obj} {es:Array DictEntry} {ep:Nat},s₁.heap.get? b=some o->o.data=.dict es ep->H b=none:=λ{b o es ep} e d=>by
   cases q:H b with
   |none=>rfl
   |some u =>
    have e':b=a:=hA b (by rw[q];simp)
    subst e';rw[ha]at e;cases e;have d':Data.seq vs.toArray _=Data.dict es ep:=d;cases d'
  have P7:∀{b:Addr} {m:Str->Option XO},s₁.heap.Ns b m->(rH s₁.heap H).Ns b m:=λ{b m} ⟨o,es,ep,e,d,r⟩=>⟨o,es,ep,yD e (Nr e d),d,r⟩;have UW:K.In (rH s₁.heap H):=λb o e=>yD (KX b o e) (by
   cases q:H b with
   |none=>rfl
   |some u =>
    have e':b=a:=hA b (by rw[q];simp)
    subst e';rw[hK (by rw[q];simp)]at e;cases e)
  have hM:Mod K mg (rH s₁.heap H):=⟨UW,P7 Mc,⟨mb,P7 hb,WB⟩,let ⟨mc,h1,h2⟩:=Sz;⟨mc,P7 h1,h2⟩⟩
  have e0:HB P w K mg (rH s₁.heap H) callerA [] s₁ H:=⟨rfl,hM,λb o e=>F5 e,Nat.le_of_eq (zT _ _),trivial,λb hb=>absurd (show b∈([]:List Addr) from hb) (by simp),a5,.of_eq hg⟩
  refine aac ((F _ UW (P7 Mc)).run callerA [] s₁ H ⟨[.ref a],[]⟩ [.ref a] [.ref a] _ _ hr e0 (O2 s₁ (.ref a)) (.cons rfl .nil) (nz H hO hS)) λr s' h=>?_;cases r with
  |error e=>exact(S8 H e s' h).elim
  |ok fl =>
   cases fl with
   |next=>exact aaa h
   |brk=>exact aaa h
   |cont=>exact aaa h
   |ret u =>
    obtain⟨v,H',os,bare,un,Sq,r',q⟩:=h;have q':v=.bl true:=q;subst q';obtain rfl:u=Value.bool true:=r';refine⟨rfl,OldK.of_keep λb o e=>?_,os,bare⟩;cases q:H b with
    |none=>exact un.keep b o e q (by intro z;exact absurd (show b∈([]:List Addr) from z) (by simp)) (by simp)
    |some u =>
     rcases hO b with z|⟨ob,xs,z⟩
     ·rw[q]at z;cases z
     ·have z2:=un.nD b ob _ z;obtain⟨e1,_⟩:=a5 b _ z;obtain⟨e2,_⟩:=Sq b _ z2;rw[e]at e1;cases e1;exact e2
 cases hk:K.lookup a with
 |some o =>
  have e:=KX a o hk;rw[ha]at e;cases e;refine core (λ_=>none) (λ_=>.inl rfl) (.inr ⟨_,vs.toArray,_,hk,rfl,rfl,rfl,by rw[Yb,RG];exact hl,by simpa using rv⟩) (λb u z=>by have z':(none:Option HO)=some u:=z;cases z') (λb z=>absurd rfl z) λz=>absurd rfl z
 |none =>
  refine core (λb=>if b=a then some (.rM {cls:=.type "list",data:=.seq vs.toArray} (.lst (ns.map V.int))) else none) (λb=>?_) (.inl (.inr ⟨{cls:=.type "list",data:=.seq vs.toArray},if_pos rfl⟩)) (λb u z=>?_) (λb z=>?_) λ_=>hk
  ·by_cases hb:b=a
   ·exact .inr ⟨_,_,if_pos hb⟩
   ·exact .inl (if_neg hb)
  ·by_cases hb:b=a
   ·have z':=(if_pos hb).symm.trans z;cases z';subst hb;exact⟨ha,by rw[XN];exact hl,vs,_,rv,ha⟩
   ·have z':=(if_neg hb).symm.trans z;cases z'
  ·by_cases hb:b=a
   ·exact hb
   ·exact absurd (if_neg hb) z
theorem E8 {l:PySem.W.OpenLaw}{n k:Nat}{q:XX}{loose:List Str}{XP:(Str->Option XO)->Heap->Prop}{YP:X6->Heap->Prop}{d:DefRec}{K:Params->PySem.W.Frag}{CX:X6->E3}{sp:X6->Sp}{x:Str}
  (hn:l.most=some n) (Qh:n<=X3) (SS:d.params.defaults=[]) (hr:dg k callerA)
  (hY:∀(w:X6) (h:Heap),YP w h->(K w.params).In h)
  (F:∀(w:X6) (mg:Str->Option XO) (fa:Addr) (h:Heap),(K w.params).In h->h.Ns Zy mg->mg d.name=some (.ref fa) ->
   ∃fd:YB,(∀(s:XQ) (u:XO),BindsTo s fd ⟨[u],[]⟩ [(x,u)]) /\
    ∀base:Heap,(K w.params).In base->base.Ns Zy mg->aJ l.prog w (K w.params) mg base (CX w) k fa fd [x] (sp w))
  (nz:∀(w:X6) (H:Hp) (a:Addr) (ns:List Int),ns.length<=n->L0 H->dv (K w.params) H a (ns.map V.int)->sp w [.ref a] H (λv _=>v=.bl true) λ_ _ _=>False)
  (S8:∀(w:X6) (H:Hp) (s:XQ) (e:XO) (s':XQ),CX w [] H s (λ_ _ _=>False) e s'->False) :
  PySem.W.WalkO q loose XP YP l.row.toRowW d [] (λf vs=>PySem.call f vs):=by
 refine Vb.u7 hn SS λw s₀ s₁ mg mb fa o pm cd doc a vs ns G Y ho hd ES Sx Ll hints hlen hg=>?_;have KX:=hY w _ Y;obtain⟨fd,hb,hF⟩:=F w mg fa _ KX G.T.g Sx;exact CV KX G.T.g G.T.b G.T.builtins G.T.nolimit hg Ll hints (Yz hlen Qh) hr hF hb (λH hO hS=>nz w H a ns hlen hO hS) λH e s'=>S8 w H s₁ e s'
abbrev bN:E3:=λ_ _ _ _ _ _=>False
abbrev E0:XK:=λ_ _ _=>False
theorem HS {X:Cx}:Passes bN X E0:=λ_ _ _ _ _ _ _ h=>h.elim
structure EZ (K:PySem.W.Frag)(x qual:Str)(st:Stmt)(f:Addr)(fd:YB):Prop where
 ex:∃(oc:XO) (od:Option Addr) (kV doc pm:XO) (an:Option Addr) (cF ct:XO) (JY:Array (Option XO)),
  fd=PySem.W.fnOf x qual (l9 st) (fC st) (ay st) .none kV doc pm an cF ct/\K.lookup f=some ⟨oc,od,.func fd,JY⟩/\PySem.W.codeIn K cF qual=true
 kp:PySem.W.keepIn K (.ref f)=true
section
variable {P:XX}{w:X6}{K:PySem.W.Frag}{mg:Str->Option XO}{base:Heap}
theorem EZ.ok {x qual:Str}{st:Stmt}{f:Addr}{fd:YB}{N ps:List Str}{k:Nat}{sp:Sp}(F:EZ K x qual st f fd)(S:aG N ps (ay st))(len:∀vs H Q E,sp vs H Q E->vs.length=ps.length)
  (nB:∀(cF:XO) (A:YX) (outer:List Env) (s:XQ) (H:Hp) (vs:List V) (Q:VK) (E:XK),dg k (A.deeper (envOfC qual (ay st) s.heap.objs.size f cF))->sp vs H Q E ->
   ∃t,sf (oZ bN P w K mg base N qual (ay st) f cF A outer s H E).HY (fC st) t/\t {nx:=λ_ H'=>Q .cj H',rt:=Q} (start N vs) H):aJ P w K mg base bN (k+1) f fd ps sp:=by
 obtain⟨oc,od,kV,doc,pm,an,cF,ct,JY,rfl,lk,ES⟩:=F.ex;refine O7 lk ES S len λA outer s H vs Q E hr nz=>?_;obtain⟨t,h,q⟩:=nB cF A outer s H vs Q E hr nz;exact⟨t,h.HY,q⟩
theorem Lv {x qual:Str}{st:Stmt}{f:Addr}{oc:XO}{od an:Option Addr}{JY:Array (Option XO)}{kV doc pm cF ct:XO}(l:K.lookup f=some ⟨oc,od,.func (PySem.W.fnOf x qual (l9 st) (fC st) (ay st) .none kV doc pm an cF ct),JY⟩)
  (c:PySem.W.codeIn K cF qual=true) (k:PySem.W.keepIn K (.ref f)=true):EZ K x qual st f (PySem.W.fnOf x qual (l9 st) (fC st) (ay st) .none kV doc pm an cF ct):=⟨⟨oc,od,kV,doc,pm,an,cF,ct,JY,rfl,l,c⟩,k⟩
end
section
variable {X:Cx}
theorem pv (i:Nat){x:Str}{pos:Pos}(hN:X.N[i]?=some x:=by rfl)(hv:LV X.env.scope x:=by first|exact Or.inl rfl|exact Or.inr (Or.inl rfl)|exact Or.inr (Or.inr rfl))(hd:(x==("__debug__" : Str))=false:=by decide)
  (ES:(x==("__classdict__" : Str))=false:=by decide):PE X (.Name x pos) (Jh i):=BY hN hv hd ES
end
def ar (H H':Hp):Prop:=∀b o,H b=some o->H' b=some o
theorem ar.refl (H:Hp):ar H H:=λ_ _ h=>h
theorem ar.trans {H H1 H2:Hp}(a:ar H H1)(b:ar H1 H2):ar H H2:=λc o h=>b c o (a c o h)
theorem ar.free {H H':Hp}(e:ar H H'){l:Addr}(h:H' l=Option.none):H l=Option.none:=by
 cases q:H l with
 |none=>rfl
 |some o =>
  rw[e l o q]at h;cases h
theorem ar.seq {K:PySem.W.Frag}{H H':Hp}{a:Addr}{xs:List V}(e:ar H H')(h:dv K H a xs):dv K H' a xs:=by
 rcases h with (h|⟨o,h⟩)|h
 ·exact .inl (.inl (e _ _ h))
 ·exact .inl (.inr ⟨o,e _ _ h⟩)
 ·exact .inr h
structure Nm (X:Cx)(i:Nat)(x:Str):Prop where
 a:X.N[i]?=some x
 b:LV X.env.scope x
 c:(x==("__debug__" : Str))=false
 d:(x==("__classdict__" : Str))=false
theorem vY {X:Cx}{i:Nat}{x:Str}(a:X.N[i]?=some x:=by rfl)(b:LV X.env.scope x:=by first|exact .inl rfl|exact .inr (.inl rfl)|exact .inr (.inr rfl))(c:(x==("__debug__" : Str))=false:=by decide)(d:(x==("__classdict__" : Str))=false:=by decide):Nm X i x:=⟨a,b,c,d⟩
theorem eR {X:Cx}{i:Nat}{x:Str}{pos:Pos}(h:Nm X i x):PE X (.Name x pos) (Jh i):=BY h.a h.b h.c h.d
section
variable {X:Cx}{a b c:Expr}{ta tb:TE}{pos:Pos}
def ve (i j:Int):Prop:=0<j/\j.natAbs.log2<9000
theorem ve.of {i j:Int}(h0:0<j)(h:j<2 ^ 200):ve i j:=by
 refine⟨h0,?_⟩;have h2:j.natAbs<2 ^ 200:=by lia
 have:=(Nat.log2_lt (n:=j.natAbs) (k:=200) (by lia)).mpr h2
 lia
theorem tV:jy X (ZR .FloorDiv) (rI ve λi j=>.int (i / j)):=P6 λi j _ _ _ _ _ hc q=>by
 have h1:(0:Int)<j:=hc.1;exact floordiv_int (by lia) (by rw[Int.fdiv_eq_ediv_of_nonneg i (by lia)];exact q) (.inl (PyProof.noPylong_of_log2 hc.2))
def IK (X:Cx)(ops:List aaz)(rs:List Expr)(t:V->TE):Prop :=
 ∀(pos:Pos) (pins:List (Addr×Obj)) (s:XQ) (σ:St) (H:Hp) (x:V) (v:XO) (Q:VK),Inv X pins σ H s->RelV x v->t x σ H Q ->
  Ye (model X.prog X.w) X.A (compareChain pos v ops (evalEach rs X.env)) (EP X pins σ Q) X.xe s
def vb (X:Cx)(ops:List aaz)(rs:List Expr)(t:V->TT):Prop :=
 ∀(pos:Pos) (pins:List (Addr×Obj)) (s:XQ) (σ:St) (H:Hp) (x:V) (v:XO) (Q:Bool->Hp->Prop),Inv X pins σ H s->RelV x v->t x σ H Q ->
  Ye (model X.prog X.w) X.A (testChain pos v ops (evalEach rs X.env)) (TP X pins σ Q) X.xe s
variable {op J2:aaz}{ops:List aaz}{rs:List Expr}{r:R2}{t:V->TE}{tt:V->TT}
theorem LM (ho:jy X (YS op) r)(hb:PE X b tb):IK X [op] [b] (λx σ H Q=>tb σ H λy H2=>r x y H2 Q):=by
 intro pos pins s σ H x v Q I rx h;exact chain_last (bu (hb pins s σ H _ I h) λu s1 fy=>by obtain⟨y,H1,I1,r1,q1⟩:=fy;exact ho pins s1 σ H1 x y v u Q I1 rx r1 q1)
theorem Hj (ho:jy X (YS op) r)(hb:PE X b tb)(hc:IK X (J2::ops) (c::rs) t):
  IK X (op::J2::ops) (b::c::rs) (λx σ H Q=>tb σ H λy H2=>r x y H2 λz H3=>∃k,z=.bl k/\(if k=true then t y σ H3 Q else Q (.bl false) H3)):=by
 intro pos pins s σ H x v Q I rx h;refine chain_link (bu (hb pins s σ H _ I h) λu s1 ⟨y,H1,I1,r1,q1⟩=>bu (ho pins s1 σ H1 x y v u _ I1 rx r1 q1) λd s3 fJ=>?_);obtain⟨z,H3,I3,r3,k,e,q3⟩:=fJ;subst e;cases r3;refine Zo ?_;cases k with
 |false=>exact ite_ff ⟨.bl false,H3,I3,rfl,q3⟩
 |true=>exact ite_tt (hc pos pins s3 σ H3 y u Q I3 r1 q3)
theorem zo {eU eT:aaz}(ha:PE X a ta)(hc:IK X (eU::eT::ops) (b::c::rs) t)(hm:lastMarks (eU::eT::ops) (b::c::rs)=false:=by with_unfolding_all rfl):
  PE X (.Compare a (eU::eT::ops) (b::c::rs) pos) (λσ H Q=>ta σ H λx H1=>t x σ H1 Q):=by
 intro pins s σ H Q I h;exact Compare_chain (bu (ha pins s σ H _ I h) λv s1 uo=>by obtain⟨x,H1,I1,r1,q1⟩:=uo;exact hc pos pins s1 σ H1 x v Q I1 r1 q1) hm
theorem Hi (ho:jy X (YS op) r)(hb:PE X b tb):vb X [op] [b] (λx σ H Q=>tb σ H λy H2=>r x y H2 λz H3=>∃k,z=.bl k/\Q k H3):=by
 intro pos pins s σ H x v Q I rx h;refine test_last (bu (hb pins s σ H _ I h) λu s1 ⟨y,H1,I1,r1,q1⟩=>bu (ho pins s1 σ H1 x y v u _ I1 rx r1 q1) λd s3 iG=>?_);obtain⟨z,H3,I3,r3,k,e,q3⟩:=iG;subst e;cases r3;exact Zo ⟨H3,I3,q3⟩
theorem Ei (ho:jy X (YS op) r)(hb:PE X b tb)(hc:vb X (J2::ops) (c::rs) tt):
  vb X (op::J2::ops) (b::c::rs) (λx σ H Q=>tb σ H λy H2=>r x y H2 λz H3=>∃k,z=.bl k/\(if k=true then tt y σ H3 Q else Q false H3)):=by
 intro pos pins s σ H x v Q I rx h;refine test_link (bu (hb pins s σ H _ I h) λu s1 ⟨y,H1,I1,r1,q1⟩=>bu (ho pins s1 σ H1 x y v u _ I1 rx r1 q1) λd s3 oK=>?_);obtain⟨z,H3,I3,r3,k,e,q3⟩:=oK;subst e;cases r3;refine Zo ?_;cases k with
 |false=>exact ite_ff ⟨H3,I3,q3⟩
 |true=>exact ite_tt (hc pos pins s3 σ H3 y u Q I3 r1 q3)
theorem zf {eU eT:aaz}(ha:PE X a ta)(hc:vb X (eU::eT::ops) (b::c::rs) tt)(hm:lastMarks (eU::eT::ops) (b::c::rs)=false:=by with_unfolding_all rfl):
  PT X (.Compare a (eU::eT::ops) (b::c::rs) pos) (λσ H Q=>ta σ H λx H1=>tt x σ H1 Q):=by
 intro pins s σ H Q I h;exact isTrue_chain (bu (ha pins s σ H _ I h) λv s1 GC=>by obtain⟨x,H1,I1,r1,q1⟩:=GC;exact hc pos pins s1 σ H1 x v Q I1 r1 q1) hm
theorem Eo:dW X (.builtin "isinstance") (λxs H Q=>∃x n t k,xs=[x,.ty n]/\jq X.K H x t/\PySem.W.kitOne X.K t (.type n)=some k/\Q (.bl k) H):=by
 intro pins s σ H xs us Q I r h;obtain⟨x,n,t,k,rfl,ty,e,q⟩:=h;obtain⟨u,w',rfl,r1,r2⟩:=vals2 r;cases r2;exact zO I r1 ty e λtk=>⟨.bl k,H,I.tok _,rfl,q⟩
end
theorem h_:YG "max" = some (.builtin "max"):=by decide +kernel
theorem LQ:YG "min" = some (.builtin "min"):=by decide +kernel
theorem rT:YG "int" = some (.type "int"):=by decide +kernel
theorem yA:YG "bool" = some (.type "bool"):=by decide +kernel
theorem n9:YG "tuple" = some (.type "tuple"):=by decide +kernel
theorem fE:YG "list" = some (.type "list"):=by decide +kernel
theorem ql:YG "sorted" = some (.builtin "sorted"):=by decide +kernel
theorem Et:YG "isinstance" = some (.builtin "isinstance"):=by decide +kernel
theorem cY:YG "len" = some (.builtin "len"):=by decide +kernel
theorem NQ {c A B:Prop}[Decidable c](hc:c)(h:A):if decide c=true then A else B:=by
 rw[if_pos (decide_eq_true hc)];exact h
theorem NR {c A B:Prop}[Decidable c](hc:¬ c)(h:B):if decide c=true then A else B:=by
 rw[if_neg (by simp[hc])]
 exact h
theorem RO {c A B:Prop}[Decidable c](h1:c->A)(h2:¬ c->B):if decide c=true then A else B:=by
 by_cases h:c
 ·exact NQ h (h1 h)
 ·exact NR h (h2 h)
theorem ar.new {H:Hp}{p:Addr}{o:HO}(n:H p=none):ar H (L2.upd H p o):=λb u e=>by rw[ao (cG e n)];exact e
section
end
theorem Nc:w_ 10 18:=⟨by decide,by decide,by decide⟩
section
theorem l4 {a:Int}{b:Int}(h:0<b):0<=a % b/\a % b<b:=⟨Int.emod_nonneg a (by lia),Int.emod_lt_of_pos a h⟩
end
noncomputable def aq (X:Cx)(scope:ZE)(N':List Str)(cl:List (Str×Addr))(C:Addr)(s:XQ)(H:Hp)(ex:List Addr):Cx :=
 {X with N:=N',s₀:=s,H₀:=H,env:=compEnvC scope cl C X.env,outer:=X.stack,stack:=X.stack,ex:=ex,fn:=λ_=>false,pn:=[],xe:=λ_ _=>False}
theorem jn {env:Env}:∀(names:List (Str×ZS)) (cs:List (Str×Addr)),(∀x,(x,Yw)∈names->∃c,env.cells.lookup x=some c) ->
  (∀x c,cs.lookup x=some c->env.cells.lookup x=some c) ->
  ∃cl,(forIn names cs λ(p:Str×ZS) (cs:List (Str×Addr))=>do
   if p.2==.free then do
    let a <- cellOf env p.1
    pure (ForInStep.yield ((p.1,a)::cs))
   else pure (ForInStep.yield cs):Sem (List (Str×Addr)))=pure cl /\
   (∀x,((x,Yw)∈names\/(∃c,cs.lookup x=some c))->∃c,cl.lookup x=some c)/\∀x c,cl.lookup x=some c->env.cells.lookup x=some c
 |[],cs,_,Lp=>⟨cs,rfl,λx h=>h.elim (λz=>nomatch z) id,Lp⟩
 | (n,k)::names,cs,hf,Lp=>by
  by_cases hk:k=.free
  ·subst hk;obtain⟨c,hc⟩:=hf n (Yr ..);obtain⟨cl,e,h1,h2⟩:=jn names ((n,c)::cs) (λx hx=>hf x (Yd _ hx)) (λx c' hx=>by
    rw[YL]at hx;cases q:x==n with
    |true=>rw[q]at hx;cases hx;rw[eq_of_beq q];exact hc
    |false=>rw[q]at hx;exact Lp x c' hx)
   refine⟨cl,?_,λx hx=>h1 x ?_,h2⟩
   ·rw[List.forIn_cons];have ec:cellOf env n=pure c:=by unfold cellOf;rw[hc]
    simp only[beq_self_eq_true,if_true,ec];exact e
   ·rcases hx with hx|⟨c',hx⟩
    ·rcases XU.mp hx with z|z
     ·cases z;exact .inr ⟨c,by simp⟩
     ·exact .inl z
    ·right
     rw[YL];cases q:x==n with
     |true=>exact⟨c,rfl⟩
     |false=>exact⟨c',hx⟩
  ·obtain⟨cl,e,h1,h2⟩:=jn names cs (λx hx=>hf x (Yd _ hx)) Lp;refine⟨cl,?_,λx hx=>h1 x ?_,h2⟩
   ·rw[List.forIn_cons];have hb:(k==Yw)=false:=by simpa using hk
    simp only[hb,Bool.false_eq_true,if_false];exact e
   ·rcases hx with hx|hx
    ·rcases XU.mp hx with z|z
     ·cases z;exact absurd rfl hk
     ·exact .inl z
    ·exact .inr hx
theorem fK {env:Env}{scope:ZE}(h:∀x,(x,Yw)∈scope.names->∃c,env.cells.lookup x=some c):
  ∃cl,closureFor scope env=pure cl/\(∀x,(x,Yw)∈scope.names->∃c,cl.lookup x=some c)/\∀x c,cl.lookup x=some c->env.cells.lookup x=some c:=by
 obtain⟨cl,e,h1,h2⟩:=jn scope.names [] h (λx c z=>by simp at z)
 refine⟨cl,?_,λx hx=>h1 x (.inl hx),h2⟩;unfold closureFor;refine Eq.trans ?_ (congrArg (· >>= pure) e);rfl
structure Links (X:Cx)(scope:ZE)(N':List Str)(lk:List (Option Nat)):Prop where
 kind:scope.kind=.function
 vX:∀x∈scope.names,x.2≠.cell
 names:∀x∈scope.names,x.2=.local->scope.names.lookup x.1=some .local
 free:∀x,(x,Yw)∈scope.names->X.env.kindOf x=some .cell\/X.env.kindOf x=some .free
 len:lk.length=N'.length
 link:∀(i j:Nat),lk[i]?=some (some j)->∃x,N'[i]?=some x/\X.N[j]?=some x/\(x,Yw)∈scope.names/\scope.names.lookup x=some .free
noncomputable def eY (outer:List (Str×ZS))(N:List Str)(scope:ZE)(N':List Str)(lk:List (Option Nat)):Bool :=
 (scope.kind==.function)&&scope.names.all (λx=>x.2 != .cell&&(x.2 != .local || scope.names.lookup x.1==some .local)&&(x.2 != .free || outer.lookup x.1==some .cell || outer.lookup x.1==some .free)) &&
 lk.length==N'.length&&(X7 lk.length).all λi=>match lk[i]? with
  |some (some j)=>match N'[i]? with
   |some x=>N[j]?==some x&&scope.names.contains (x,.free)&&scope.names.lookup x==some .free
   |none=>false
  |_=>true
theorem Links.of {X:Cx}{scope:ZE}{N':List Str}{lk:List (Option Nat)}(h:eY X.env.scope.names X.N scope N' lk=true):Links X scope N' lk:=by
 simp only[eY,Yu]at h;obtain⟨⟨⟨h1,h2⟩,h3⟩,h4⟩:=h;rw[Zg]at h2 h4;refine⟨by simpa using h1,λx hx=>?_,λx hx hl=>?_,λx hx=>?_,by simpa using h3,λi j aA=>?_⟩
 ·have:=h2 x hx;simp only[Yu]at this;simpa using this.1.1
 ·have:=h2 x hx;simp only[Yu]at this;have q:=this.1.2;rw[hl]at q;simpa using q
 ·have:=h2 _ hx;simp only[Yu]at this;have q:=this.2;simp only[aaC]at q;rcases q with (q|q)|q
  ·simp at q
  ·exact .inl (show X.env.scope.names.lookup x=some .cell by simpa using q)
  ·exact .inr (show X.env.scope.names.lookup x=some .free by simpa using q)
 ·have hi:i<lk.length:=(X0.mp aA).1;have q:=h4 i (YH.mpr hi);rw[aA]at q;simp only at q;cases e:N'[i]? with
  |none=>rw[e]at q;simp at q
  |some x =>
   rw[e]at q;simp only[Yu]at q;obtain⟨⟨q1,q2⟩,q3⟩:=q;exact⟨x,rfl,by simpa using q1,by simpa using q2,by simpa using q3⟩
noncomputable def b8 (lk:List (Option Nat))(σ:St):St:=lk.map λl=>match l with|some j=>(match σ[j]? with|some v=>v|none=>none)|none=>none
theorem cu {env:Env}:∀{names:List (Str×ZS)} {x:Str},names.lookup x=some .free ->
  (names.map λ(n,k)=>if (k==Yw&&env.scope.kind==.function&&env.kindOf n==some .cell) then (n,YN) else (n,k)).lookup x=some .cell \/
  (names.map λ(n,k)=>if (k==Yw&&env.scope.kind==.function&&env.kindOf n==some .cell) then (n,YN) else (n,k)).lookup x=some .free
 |[],_,h=>by simp at h
 | (n,k)::r,x,h=>by
  have ih:=@cu env r x;show List.lookup x ((if (k==Yw&&env.scope.kind==.function&&env.kindOf n==some .cell)=true then (n,YN) else (n,k))::_)=_ \/
   List.lookup x ((if (k==Yw&&env.scope.kind==.function&&env.kindOf n==some .cell)=true then (n,YN) else (n,k))::_)=_
  cases hx:x==n with
  |true =>
   simp only[YL,hx]at h;cases h
   by_cases hc:(Yw==Yw&&env.scope.kind==.function&&env.kindOf n==some .cell)=true
   ·rw[if_pos hc];left;simp[YL,hx]
   ·rw[if_neg hc];right;simp[YL,hx]
  |false =>
   simp only[YL,hx]at h
   by_cases hc:(k==Yw&&env.scope.kind==.function&&env.kindOf n==some .cell)=true
   ·rw[if_pos hc];simp only[YL,hx];exact ih h
   ·rw[if_neg hc];simp only[YL,hx];exact ih h
theorem dH {env:Env}:∀{names:List (Str×ZS)} {x:Str} {k:ZS},(k=.cell\/k=.free)->(∀y∈names,y.2≠.cell) ->
  (names.map λ(n,k)=>if (k==Yw&&env.scope.kind==.function&&env.kindOf n==some .cell) then (n,YN) else (n,k)).lookup x=some k->(x,Yw)∈names
 |[],_,_,_,_,h=>by simp at h
 | (n,k')::r,x,k,hk,hc,h=>by
  have ih:=@dH env r x k hk (λy hy=>hc y (Yd _ hy));have h':List.lookup x ((if (k'==Yw&&env.scope.kind==.function&&env.kindOf n==some .cell)=true then (n,YN) else (n,k'))::(r.map λ(n,k)=>if (k==Yw&&env.scope.kind==.function&&env.kindOf n==some .cell) then (n,YN) else (n,k)))=some k:=h
  have GI:=hc (n,k') (Yr ..)
  by_cases GL:(k'==Yw&&env.scope.kind==.function&&env.kindOf n==some .cell)=true
  ·rw[if_pos GL]at h';simp only[Yu,beq_iff_eq]at GL;cases hx:x==n with
   |true=>rw[eq_of_beq hx,GL.1.1];exact Yr ..
   |false=>rw[YL,hx]at h';exact Yd _ (ih h')
  ·rw[if_neg GL]at h';cases hx:x==n with
   |true =>
    rw[YL,hx]at h';have e:k'=k:=by simpa using h'
    subst e;rcases hk with hk|hk
    ·exact absurd hk GI
    ·rw[eq_of_beq hx,hk];exact Yr ..
   |false=>rw[YL,hx]at h';exact Yd _ (ih h')
section
variable {X:Cx}{pins:List (Addr×Obj)}{σ:St}{H:Hp}{s:XQ}{scope:ZE}{N':List Str}{lk:List (Option Nat)}{cl:List (Str×Addr)}{ex:List Addr}
theorem Dh {h':Heap}{t':Nat}(I:Inv X pins σ H s)(L:Links X scope N' lk)(hex:∀b∈ex,fc X pins H b)(GH:∀b∈ex,∃o,s.heap.get? b=some o)
  (kl:∀x,(x,Yw)∈scope.names->∃c,cl.lookup x=some c) (rK:∀x c,cl.lookup x=some c->X.env.cells.lookup x=some c)
  (hn:h'.Ns s.heap.objs.size (λ_=>none)) (hk:∀b o,s.heap.get? b=some o->h'.get? b=some o) :
  Inv (aq X scope N' cl s.heap.objs.size s H ex) [] (b8 lk σ) H {s with heap:=h',toks:=t'}:=by
 obtain⟨m,hm,hl⟩:=I.loc;have Qo:∀b∈ex,b≠s.heap.objs.size:=λb hb=>by
  obtain⟨o,e⟩:=GH b hb;exact Yk (X8 e)
 refine⟨⟨I.ok.mod,L.kind,I.ok.glob,I.ok.blt,XS _,λx y c h1 h2=>I.ok.inj x y c (rK _ _ h1) (rK _ _ h2),λx hx=>?_,λx c z=>(nomatch z),I.ok.hd,I.ok.frames,.inl rfl,
  λb hb=>⟨Qo b hb,λx c e=>(hex b hb).2.2.2.2.1 x c (rK _ _ e)⟩,I.bs,Yz I.ok.EX I.sz,λb o e z=>?_,λb hb z=>?_,I.stack,I.qI⟩,
  rfl,I.bare,Un.kept hk,⟨_,hn,λi x v h1 h2 h3=>?_⟩,λx c e=>?_,I.a5.fresh (XS _),λx c e=>I.g_ x c (rK _ _ e),λp hp=>absurd (show p∈([]:List (Addr×Obj)) from hp) (by simp),I.a5.kept hk,?_⟩
 ·have wq:(relabel scope X.env).names.lookup x=some .cell\/(relabel scope X.env).names.lookup x=some .free:=hx;rcases wq with q|q
  ·exact kl x (dH (.inl rfl) L.vX q)
  ·exact kl x (dH (.inr rfl) L.vX q)
 ·obtain⟨f0,f1,f2,f3,_⟩:=hex b z;rcases f3 with q|q
  ·exact I.ok.zw b o e q
  ·have h1:=X8 e;have h2:=I.ok.EX;exact absurd (Yo h1 (Yz h2 q)) (Z4 _)
 ·obtain⟨f0,f1,f2,f3,_⟩:=hex b hb;rcases XU.mp (I.qH b z)with q|q
  ·exact f1 q
  ·exact f2 q
 ·have hi:∃j,lk[i]?=some (some j)/\σ[j]?=some (some v):=by
   have oQ:(b8 lk σ)[i]?=some (some v):=h2;unfold b8 at oQ;rw[X5]at oQ;cases e:lk[i]? with
   |none=>rw[e]at oQ;cases oQ
   |some l =>
    cases l with
    |none=>rw[e]at oQ;cases oQ
    |some j =>
     rw[e]at oQ;cases e2:σ[j]? with
     |none=>simp[e2]at oQ
     |some w' =>
      simp only[ZI,e2,aaR]at oQ;subst oQ;exact⟨j,rfl,e2⟩
  obtain⟨j,hj,hσ⟩:=hi;obtain⟨y,e1,e2,e3,e4⟩:=L.link i j hj;have Tf:x=y:=by
   have GN:N'[i]?=some x:=h1;rw[e1]at GN;exact(Yv GN).symm
  subst Tf;have KY:LV X.env.scope x:=by
   rcases L.free x e3 with q|q
   ·exact .inr (.inl q)
   ·exact .inr (.inr q)
  obtain⟨u,ru,lu⟩:=hl j x v e2 hσ KY;refine⟨u,ru,.inr ⟨?_,?_⟩⟩
  ·exact cu e4
  ·rcases lu with⟨k,_⟩|⟨_,c,hc,z⟩
   ·rcases L.free x e3 with q|q <;> (rw[k]at q;cases q)
   ·obtain⟨c',uv⟩:=kl x e3;have:=rK x c' uv;rw[hc]at this;cases this;obtain⟨o,ho,hd⟩:=z;exact⟨c,uv,o,hk _ _ ho,hd⟩
 ·obtain⟨v,o,ho,hd⟩:=I.cell x c (rK _ _ e);exact⟨v,o,hk _ _ ho,hd⟩
 ·show (b8 lk σ).length=N'.length;unfold b8;rw[XN,L.len]
theorem Di {s':XQ}{σ':St}{H':Hp}{pl:List (Addr×Obj)}{C:Addr}{h'':Heap}(I:Inv X pins σ H s)(hex:∀b∈ex,fc X pins H b)
  (J:Inv (aq X scope N' cl s.heap.objs.size s H ex) pl σ' H' s') (hs:Zh s.heap.objs.size s'.heap h''):Inv X pins σ H' {s' with heap:=h''}:=by
 have hC:H' s.heap.objs.size=none:=J.free;have u:=J.base;refine I.IF (ch:=ex) (s':={s' with heap:=h''}) J.os ?_ ?_ J.bare (λb hb=>?_)
 ·have kk:∀b o,b≠s.heap.objs.size->s'.heap.get? b=some o->h''.get? b=some o:=λb o hb e=>(hs.2 b hb).trans e;have ne:∀b o,s.heap.get? b=some o->b≠s.heap.objs.size:=λb o e=>Yk (X8 e);refine⟨λb o e n hb hx=>kk b _ (ne b o e) (u.keep b o e n hb hx),λb o e n hb hx=>?_,u.free,λb o e hx=>?_,u.oB,u.nD,u.oC⟩
  ·obtain⟨sl,q⟩:=u.slot b o e n hb hx;exact⟨sl,kk b _ (ne b o e) q⟩
  ·obtain⟨o',q⟩:=u.there b o e hx;exact⟨o',kk b _ (ne b o e) q⟩
 ·intro b o e;have hb:b≠s.heap.objs.size:=λz=>by rw[z]at e;rw[hC]at e;cases e
  refine(J.a5 b o e).oE (λc v hc q=>(hs.2 c ?_).trans q) (λ_ q=>q) λ_ _ q=>q;rcases hc with z|z
  ·rw[z];exact hb
  ·intro z';rw[z']at z;rw[hC]at z;cases z
 ·obtain⟨f0,f1,f2,f3,f4,f5⟩:=hex b hb;exact⟨f3,f1,f4,f5⟩
end
noncomputable def mq (g:ZN)(after:Sem Fin->Sem Fin)(e:Expr)(d:Nat)(it acc:XO)(env:Env):Sem Fin:=do
 aaO g.iter.pos
 match <- aav it with
 |none=>pure (.done .next)
 |some v =>
  letOwnedTupleGo g.target it v
  assign g.target env v
  let mut ok:=true
  for c in g.ifs do
   if ok then ok <- isTrue c env (eval c env)
  if ok then after (again (.compLoop e d it acc env)) else again (.compLoop e d it acc env)
noncomputable def l3 (e:Expr)(d:Nat)(g':ZN)(acc:XO)(env:Env)(k:Sem Fin):Sem Fin:=do
 let x <- eval g'.iter env
 aaO g'.iter.pos
 let x <- Yp g'.iter env x
 let _ <- runOwn (.compStart e (d+1) (<- holding [x] (pyIter x)) acc env) env
 k
def gD (t:Sem Unit)(k:Sem Fin):Sem Fin:=do
 t
 k
def yq (elt:Expr)(acc:XO)(env:Env):Sem Unit:=do let _ <- call (.builtin "list.append") [acc,<- eval elt env]
def DU (elt:Expr)(acc:XO)(env:Env):Sem Unit:=do let v <- eval elt env;aaO elt.pos;let _ <- call (.builtin "set.add") [acc,v]
noncomputable def uM (k v:Expr)(acc:XO)(env:Env):Sem Unit:=do
    let kv <- eval k env
    let vv <- holding [kv] (eval v env)
    match acc with
    |.ref d=>do
     aaO {k.pos with endLine:=v.pos.endLine,endCol:=v.pos.endCol}
     holding [kv,vv] (dictSet d kv vv)
    |_=>unsupported "internal:dictcomp"
structure ff (e:Expr)(d:Nat)(g:ZN)(acc:XO)(env:Env)(after:Sem Fin->Sem Fin):Prop where
 turn:∀it,compTurn e d it acc env=mq g after e d it acc env
 cl:(clausesOf e)[d]?=some g
 sync:g.is_async=0
 quiet:∀it,(aa0 e d it acc env).quiet=true
 under:∀(A:YX) it,A.under (aa0 e d it acc env)=A
 I_:∀(A:YX) it,A.under (Code.compStart e d it acc env)=A
 Kc:∀it,(aa0 e d it acc env).isFrame=false
 Nq:∀it,(Code.compStart e d it acc env).isFrame=false
section
variable {elt tg iQ br fM k v:Expr}{ifs cW:List Expr}{sc:ZE}{pos:Pos}{acc:XO}{env:Env}
theorem yz:ff (.ListComp elt [⟨tg,br,ifs,0⟩] sc pos) 0 ⟨tg,br,ifs,0⟩ acc env (gD (yq elt acc env)) :=
 ⟨λ_=>rfl,rfl,rfl,λ_=>rfl,λ_ _=>rfl,λ_ _=>rfl,λ_=>rfl,λ_=>rfl⟩
theorem IE:ff (.DictComp k v [⟨tg,br,ifs,0⟩] sc pos) 0 ⟨tg,br,ifs,0⟩ acc env (gD (uM k v acc env)) :=
 ⟨λ_=>rfl,rfl,rfl,λ_=>rfl,λ_ _=>rfl,λ_ _=>rfl,λ_=>rfl,λ_=>rfl⟩
theorem El:ff (.ListComp elt [⟨tg,br,ifs,0⟩,⟨iQ,fM,cW,0⟩] sc pos) 0 ⟨tg,br,ifs,0⟩ acc env (l3 (.ListComp elt [⟨tg,br,ifs,0⟩,⟨iQ,fM,cW,0⟩] sc pos) 0 ⟨iQ,fM,cW,0⟩ acc env) :=
 ⟨λ_=>rfl,rfl,rfl,λ_=>rfl,λ_ _=>rfl,λ_ _=>rfl,λ_=>rfl,λ_=>rfl⟩
theorem Ek:ff (.ListComp elt [⟨tg,br,ifs,0⟩,⟨iQ,fM,cW,0⟩] sc pos) 1 ⟨iQ,fM,cW,0⟩ acc env (gD (yq elt acc env)) :=
 ⟨λ_=>rfl,rfl,rfl,λ_=>rfl,λ_ _=>rfl,λ_ _=>rfl,λ_=>rfl,λ_=>rfl⟩
theorem LO:ff (.SetComp elt [⟨tg,br,ifs,0⟩,⟨iQ,fM,cW,0⟩] sc pos) 0 ⟨tg,br,ifs,0⟩ acc env (l3 (.SetComp elt [⟨tg,br,ifs,0⟩,⟨iQ,fM,cW,0⟩] sc pos) 0 ⟨iQ,fM,cW,0⟩ acc env) :=
 ⟨λ_=>rfl,rfl,rfl,λ_=>rfl,λ_ _=>rfl,λ_ _=>rfl,λ_=>rfl,λ_=>rfl⟩
theorem LN:ff (.SetComp elt [⟨tg,br,ifs,0⟩,⟨iQ,fM,cW,0⟩] sc pos) 1 ⟨iQ,fM,cW,0⟩ acc env (gD (DU elt acc env)) :=
 ⟨λ_=>rfl,rfl,rfl,λ_=>rfl,λ_ _=>rfl,λ_ _=>rfl,λ_=>rfl,λ_=>rfl⟩
end
def Mz:TT:=λ_ H Q=>Q true H
def qu (X:Cx)(ifs:List Expr)(t:TT):Prop :=
 ∀(pins:List (Addr×Obj)) (s:XQ) (σ:St) (H:Hp) (Q:Bool->Hp->Prop),Inv X pins σ H s->t σ H Q ->
  Ye (model X.prog X.w) X.A (forIn ifs true λc r=>if r=true then do let ok <- isTrue c X.env (eval c X.env);pure (ForInStep.yield ok) else pure (ForInStep.yield r)) (TP X pins σ Q) X.xe s
theorem Fx {X:Cx}:qu X [] Mz:=λ_ _ _ H _ I h=>wpAny_tests_nil ⟨H,I,h⟩
theorem Fw {X:Cx}{c:Expr}{t:TT}(h:PT X c t):qu X [c] t:=λpins s σ H Q I q=>wpAny_tests_one (h pins s σ H Q I q)
abbrev iN:=(St->Hp->Prop)->St->Hp->Prop
def ki (X:Cx)(after:Sem Fin->Sem Fin)(t:iN):Prop :=
 ∀(pins:List (Addr×Obj)) (s:XQ) (σ:St) (H:Hp) (N:St->Hp->Prop) (k:Sem Fin) (Q:Fin->XQ->Prop) (E:XO->XQ->Prop),Inv X pins σ H s->t N σ H ->
  (∀σ' H' s',Inv X pins σ' H' s'->N σ' H'->Ye (model X.prog X.w) X.A k Q E s')->Ye (model X.prog X.w) X.A (after k) Q E s
theorem cV {X:Cx}(hx:X.xe=λ_ _=>False){α:Type}{t:Sem α}{Q:α->XQ->Prop}{E:XO->XQ->Prop}{s:XQ}(h:Ye (model X.prog X.w) X.A t Q X.xe s):Ye (model X.prog X.w) X.A t Q E s :=
 wpAny_mono h (λ_ _ q=>q) λe s q=>by rw[hx]at q;exact q.elim
def dw (J:It)(g:TG)(tt:TT)(ta:iN)(End:St->Hp->Prop):St->Hp->Prop:=λσ H =>
 ∃W:Nat->Nat->St->Hp->Prop,(∃m,W 0 m σ H)/\∀i m σ H,W i m σ H->(J.stop i H/\End σ H) \/
  (J.go i H/\∃N:St->Hp->Prop,(∀σ' H',N σ' H'->∃m',m'<m/\W (i+1) m' σ' H')/\∀x H',J.Mt i H x H'->g x σ H' λσ2 H2=>tt σ2 H2 λb H3=>if b=true then ta N σ2 H3 else N σ2 H3)
section
variable {X:Cx}{e:Expr}{d:Nat}{g:ZN}{acc:XO}{after:Sem Fin->Sem Fin}{tg:TG}{tt:TT}{ta:iN}
theorem Aj (hx:X.xe=λ_ _=>False)(hc:X.calm=true)(F:ff e d g acc X.env after)(hg:PG X g.target tg)(ht:qu X g.ifs tt)(ha:ki X after ta)
  {it:Addr} {fp:List Addr} {tn:Nat->Heap->Prop} {J:It} (T:Turn X.prog X.w X.K g.target J fp it tn) {pins:List (Addr×Obj)} {σ:St} {H:Hp} {s:XQ} {End:St->Hp->Prop}
  (I:Inv X pins σ H s) (st:tn 0 s.heap) (hf:∀b∈fp,fc X pins H b) (h:dw J tg tt ta End σ H) :
  aax (model X.prog X.w) X.A (.compLoop e d (.ref it) acc X.env) (λr s'=>r=.ok .next/\∃σ' H',Inv X pins σ' H' s'/\End σ' H') s:=by
 obtain⟨W,⟨m0,w0⟩,turn⟩:=h;have vE:∀{H':Hp},(∀b∈fp,H' b=none)->∀b∈fp,fc X pins H' b:=λhn b hb=>⟨hn b hb,(hf b hb).2⟩;refine codeAny_loop (F.quiet _) (λn s'=>∃i σ' H',Inv X pins σ' H' s'/\tn i s'.heap/\(∀b∈fp,H' b=none)/\W i n σ' H') (λn s3 hI=>?_) m0 ⟨0,σ,H,I,st,λb hb=>(hf b hb).1,w0⟩;obtain⟨i,σ3,H3,I3,MN,O6,w3⟩:=hI;rw[F.under];have Lo:(model X.prog X.w).den (.compLoop e d (.ref it) acc X.env)=(mq g after e d (.ref it) acc X.env).onRaise (λx=>do noteFrame x X.env;theTreesLotGoes x):=by
  rw[<- F.turn];show (if (aa0 e d (.ref it) acc X.env).isFrame then _ else _)=_
  rw[F.Kc];rfl
 rw[Lo];refine wpAny_noted ?_;unfold mq;rcases turn i n σ3 H3 w3 with⟨stop,qn⟩|⟨go,N,hN,step⟩
 ·refine XM (Zw (XM (bu (T.done X rfl rfl rfl hc i pins s3 σ3 H3 _ I3 (vE O6) MN stop) λr s4 fJ=>?_)));obtain⟨hr,I4⟩:=fJ;subst hr;exact XT ⟨rfl,σ3,H3,I4,qn⟩
 ·refine XM (Zw (XM (bu (T.item X rfl rfl rfl hc i pins s3 σ3 H3 _ I3 (vE O6) MN go) λr s4 iG=>?_)));obtain⟨u,hr,h4⟩:=iG;subst hr;refine XM (bu h4 λ_ s5 oK=>?_);obtain⟨x,H5,I5,r5,y5,Jn,Tb⟩:=oK;have TU:=I5.pinned (vE Tb) (T.obj _ _ Jn);refine XM (bu (cV hx (hg _ s5 σ3 H5 x u _ TU r5 (step x H5 y5))) λ_ s6 RX=>?_);obtain⟨σ6,H6,I6,q6⟩:=RX;refine XM (bu (cV hx (ht _ s6 σ6 H6 _ I6 q6)) λok s7 Wd=>?_);obtain⟨H7,I7,q7⟩:=Wd;have Ez:∀{σ8:St} {H8:Hp} {s8:XQ},Inv X (pins++mR fp s5.heap) σ8 H8 s8->N σ8 H8->∃m,m<n/\∃i σ' H',Inv X pins σ' H' s8/\tn i s8.heap/\(∀b∈fp,H' b=none)/\W i m σ' H':=λ{σ8 H8 s8} I8 n8=>by
   obtain⟨m',hm,w8⟩:=hN σ8 H8 n8;refine⟨m',hm,i+1,σ8,H8,I8.jA,T.keep _ _ _ Jn λb hb o e=>(I8.pin (b,o) (Yn _ (Yn _ (gq hb e)))).1,λb hb=>?_,w8⟩;obtain⟨o,e,d⟩:=T.obj _ _ Jn b hb;exact(I8.pin (b,o) (Yn _ (Yn _ (gq hb e)))).2.1
  cases ok with
  |false=>exact XT ⟨rfl,Ez I7 (by simpa using q7)⟩
  |true =>
   exact ha _ s7 σ6 H7 N _ _ _ I7 (by simpa using q7) λσ8 H8 s8 I8 n8=>XT ⟨rfl,Ez I8 n8⟩
theorem jm (hx:X.xe=λ_ _=>False)(hc:X.calm=true)(F:ff e d g acc X.env after)(hg:PG X g.target tg)(ht:qu X g.ifs tt)(ha:ki X after ta)
  {it:Addr} {fp:List Addr} {tn:Nat->Heap->Prop} {J:It} (T:Turn X.prog X.w X.K g.target J fp it tn) {pins:List (Addr×Obj)} {σ:St} {H:Hp} {s:XQ} {End:St->Hp->Prop}
  (I:Inv X pins σ H s) (st:tn 0 s.heap) (hf:∀b∈fp,fc X pins H b) (h:dw J tg tt ta End σ H) :
  aax (model X.prog X.w) X.A (.compStart e d (.ref it) acc X.env) (λr s'=>r=.ok .next/\∃σ' H',Inv X pins σ' H' s'/\End σ' H') s:=by
 have lp:=Aj hx hc F hg ht ha T I st hf h;refine codeAny_of_tree ?_;rw[F.I_];have Lo:(model X.prog X.w).den (.compStart e d (.ref it) acc X.env)=(compStart e d (.ref it) acc X.env).onRaise (λx=>do noteFrame x X.env;aaO theWindowsPlace):=by
  show (if (Code.compStart e d (.ref it) acc X.env).isFrame then _ else _)=_
  rw[F.Nq];rfl
 rw[Lo];refine wpAny_notedAt ?_;unfold compStart;rw[F.cl];simp only[Option.elim_some,F.sync];show Ye _ _ (ask >>= _) _ _ s;refine XM (aat (wpAny_ite ?_))
 split
 ·first
   |exact XM (XT (XT (And.intro (F.quiet _) lp)))
   |exact XT (And.intro (F.quiet _) lp)
 ·have h2:∀(E:XO->XQ->Prop),Ye (model X.prog X.w) X.A (pyIter (.ref it)) (λQc s'=>(aa0 e d Qc acc X.env).quiet=true/\aax (model X.prog X.w) X.A (.compLoop e d Qc acc X.env) (λr s'=>r=.ok .next/\∃σ' H',Inv X pins σ' H' s'/\End σ' H') s') E s :=
   λE=>T.self X.A 0 s _ E st ⟨F.quiet _,lp⟩
  first
   |exact XM (aaI (XM (Zw (XM (wpAny_mono (h2 _) (λQc s' h'=>XT h') λ_ _ x=>x)))))
   | (refine XM (aaI ?_);exact XM (Zw (XM (wpAny_mono (h2 _) (λQc s' h'=>XT h') λ_ _ x=>x))))
theorem q_ {g':ZN}{wi:TI}(hx:X.xe=λ_ _=>False)(hc:X.calm=true)(F:ff e (d+1) g' acc X.env after)(hi:PI X g'.target g'.iter wi)(hg:PG X g'.target tg)(ht:qu X g'.ifs tt)(ha:ki X after ta)
  (hs:∀x,Yp g'.iter X.env x=pure x:=by intro _;rfl) :
  ki X (l3 e d g' acc X.env) (λN σ H=>wi σ H λJ H1=>dw J tg tt ta N σ H1):=by
 intro pins s σ H N k Q E I h hk;unfold l3;refine XM (bu (cV hx (hi pins s σ H _ I h)) λx s1 h1=>?_);refine XM (Zw (XM (wpAny_of_eq (hs x) ?_)));refine XM (YU (bu (cV hx h1) λAF s2 h2=>?_));obtain⟨it,fp,tn,J,H2,e1,I2,T,Be,f2,hl⟩:=h2;subst e1;refine XM (wpAny_runOwn (aac (jm hx hc F hg ht ha T I2 Be f2 hl) λr s' hr=>?_));obtain⟨rfl,σ',H',I',q⟩:=hr;exact hk σ' H' s' I' q
theorem fU {elt:Expr}{te:TE}{a:Addr}(hx:X.xe=λ_ _=>False)(he:PE X elt te):
  ki X (gD (yq elt (.ref a) X.env)) (λN σ H=>te σ H λv H1=>∃xs,H1 a=some (.lst xs)/\xs.length<X3/\N σ (upd H1 a (.lst (xs++[v])))):=by
 intro pins s σ H N k Q E I h hk;unfold gD yq;refine XM (XM (bu (cV hx (he pins s σ H _ I h)) λu s1 Wc=>?_));obtain⟨v,H1,I1,r1,xs,hH,hz,q⟩:=Wc;refine XM (bu (cV hx <| kP (X:=X) pins s1 σ H1 (.ref a) [v] (.ref a) [u] (λw' H'=>N σ H') I1 rfl (.cons r1 .nil) ⟨a,xs,v,rfl,rfl,hH,hz,q⟩) λ_ s2 Wa=>?_)
 obtain⟨_,H2,I2,_,q2⟩:=Wa;exact XT (hk σ H2 s2 I2 q2)
end
section
variable {X:Cx}{e:Expr}
structure jt (X:Cx)(bS:Sem XO)(o:HO):Prop where
 ok:∀(pins:List (Addr×Obj)) (s:XQ) (σ:St) (H:Hp) (Q:XO->XQ->Prop) (E:XO->XQ->Prop),Inv X pins σ H s ->
  (∀a s',s.heap.objs.size<=a->H a=none->(∀b o,s.heap.get? b=some o->s'.heap.get? b=some o)->Inv X pins σ (upd H a o) s'->Q (.ref a) s')->Ye (model X.prog X.w) X.A bS Q E s
theorem fV:jt X (newList []) (.lst []) :=
 ⟨λpins s σ H Q E I h=>Y8 (h _ _ (XS _) I.fresh (λb o e=>XR _ e) (I.NK (its:=[]) (t':=s.toks) .nil (Yh _)))⟩
theorem Inv.sameBut {pins:List (Addr×Obj)}{σ:St}{H:Hp}{s:XQ}{C:Addr}{h':Heap}(I:Inv X pins σ H s)(f:fc X pins H C)(hs:Zh C s.heap h'):Inv X pins σ H {s with heap:=h'}:=by
 obtain⟨f0,f1,f2,f3,f4,f5⟩:=f;exact I.turned (t':=s.toks) (λb o hb e=>(hs.2 b hb).trans e) f0 f1 f3 f4 f5
end
end L2
namespace ST
open PySem PySem.SetTable
def it:Nat->Nat->Nat
 |0,x=>x
 |n+1,x=>5*it n x+1
theorem we (a:Nat):∀(b x:Nat),it (a+b) x=it b (it a x)
 |0,x=>rfl
 |b+1,x=>by
  show 5*it (a+b) x+1=5*it b (it a x)+1;rw[we a b x]
theorem Dc:∀j:Nat,∃a b:Nat,∀x,it (2 ^ j) x=(1+4*2 ^ j*a)*x+2 ^ j*(1+2*b)
 |0=>⟨1,0,λx=>by show 5*x+1=_;simp⟩
 |j+1=>by
  obtain⟨a,b,h⟩:=Dc j;refine⟨a+2*2 ^ j*a*a,b+2 ^ j*a*(1+2*b),λx=>?_⟩;rw[show 2 ^ (j+1)=2 ^ j+2 ^ j by rw[Nat.pow_succ];lia,we,h,h]
  generalize 2 ^ j=P
  grind
theorem lift:∀(j x t:Nat),∃k,k<2 ^ j/\it k x % 2 ^ j=t % 2 ^ j
 |0,x,t=>⟨0,by decide,by rw[Nat.pow_zero,Nat.mod_one,Nat.mod_one]⟩
 |j+1,x,t=>by
  obtain⟨k,hk,e⟩:=lift j x t;obtain⟨a,b,h⟩:=Dc j;have hP:0<2 ^ j:=Nat.pow_pos (by decide)
  rw[Nat.pow_succ]
  by_cases q:it k x % (2 ^ j*2)=t % (2 ^ j*2)
  ·exact⟨k,by lia,q⟩
  ·refine⟨k+2 ^ j,by lia,?_⟩
   rw[we,h];generalize it k x=y at *
   generalize 2 ^ j=P at *
   have e1:((1+4*P*a)*y+P*(1+2*b))=(y+P)+(P*2)*(2*a*y+b):=by grind
   rw[e1,Nat.add_mul_mod_self_left,Nat.mod_mul,Nat.mod_mul];rw[Nat.mod_mul,Nat.mod_mul,e]at q;rw[Nat.add_mod_right,Nat.add_div_right _ hP,e];have u1:y / P % 2<2:=aaK _ (by decide)
   have u2:t / P % 2<2:=aaK _ (by decide)
   have u3:y / P % 2≠t / P % 2:=λz=>q (by rw[z])
   have u4:(y / P).succ % 2=t / P % 2:=by lia
   rw[u4]
def EI (m:Nat)(p:Probe):Probe:=advance {mask:=m,place:=#[],dummies:=#[],finger:=0,led:=true,moves:=0,plain:=true} p
def Vz (m:Nat)(h:Int):Probe:=probeStart {mask:=m,place:=#[],dummies:=#[],finger:=0,led:=true,moves:=0,plain:=true} h
noncomputable def iD (m:Nat)(h:Int):Nat->Probe
 |0=>Vz m h
 |n+1=>EI m (iD m h n)
def cL (m:Nat)(h:Int)(n:Nat):Nat:=(iD m h n).j
def lp (m:Nat)(h:Int):Nat->Nat×Nat
 |0=>(bits h % (m+1),bits h)
 |k+1=>leap m (lp m h k).1 (lp m h k).2
def Mp (m:Nat)(x:Nat×Nat):Probe:={j:=x.1,more:=runEnd m x.1-x.1,i:=x.1,perturb:=x.2,dummy:=none}
theorem Ju (m i:Nat):runEnd m i-i<=9:=by
 unfold runEnd
 split <;> lia
theorem wm (m:Nat)(h:Int)(x:Nat×Nat)(n:Nat)(e:iD m h n=Mp m x):∀d,d<=runEnd m x.1-x.1->iD m h (n+d)={Mp m x with j:=x.1+d,more:=runEnd m x.1-x.1-d}
 |0,_=>by rw[Nat.add_zero,e];rfl
 |d+1,hd=>by
  show EI m (iD m h (n+d))=_;rw[wm m h x n e d (by lia)]
  unfold EI advance;rw[if_pos (by show runEnd m x.1-x.1-d>0;lia)]
  rfl
theorem u5 (m:Nat)(h:Int)(x:Nat×Nat)(n:Nat)(e:iD m h n=Mp m x):iD m h (n+(runEnd m x.1-x.1)+1)=Mp m (leap m x.1 x.2):=by
 show EI m (iD m h (n+(runEnd m x.1-x.1)))=_;rw[wm m h x n e _ (XS _)];unfold EI advance;rw[if_neg (by show ¬ runEnd m x.1-x.1-(runEnd m x.1-x.1)>0;lia)]
 rfl
theorem Ex (m:Nat)(h:Int):∀k,∃n,n<=10*k/\iD m h n=Mp m (lp m h k)
 |0=>⟨0,XS _,rfl⟩
 |k+1=>by
  obtain⟨n,h1,h2⟩:=Ex m h k;refine⟨n+(runEnd m (lp m h k).1-(lp m h k).1)+1,?_,u5 m h _ n h2⟩;have:=Ju m (lp m h k).1;lia
theorem CO (m:Nat)(h:Int):∀k,(lp m h k).2=bits h / 32 ^ k
 |0=>by rw[Nat.pow_zero,Nat.div_one];rfl
 |k+1=>by
  show (lp m h k).2 / 32=_;rw[CO m h k,Nat.div_div_eq_div_mul,Nat.pow_succ]
theorem Hm (h:Int):bits h<2 ^ 64:=by
 unfold bits;have h1:=Int.emod_lt_of_pos h (show (0:Int)<2 ^ 64 by decide)
 have h2:=Int.emod_nonneg h (show (2 ^ 64:Int)≠0 by decide)
 lia
theorem Gk (m:Nat)(h:Int){k:Nat}(hk:13<=k):(lp m h k).2=0:=by
 rw[CO];refine Nat.div_eq_of_lt (Yo (Hm h) ?_);have:32 ^ 13<=32 ^ k:=Z9 (by decide) hk
 exact Yz (by decide) this
theorem Ib {j:Nat}(h:Int):∀d,(lp (2 ^ j-1) h (13+d)).1=it d (lp (2 ^ j-1) h 13).1 % 2 ^ j:=by
 have hP:2 ^ j-1+1=2 ^ j:=by have:0<2 ^ j:=Nat.pow_pos (by decide);lia
 have lt:∀k,(lp (2 ^ j-1) h k).1<2 ^ j:=λk=>by
  cases k with
  |zero=>show bits h % (2 ^ j-1+1)<_;rw[hP];exact aaK _ (by lia)
  |succ k=>show (_*5+1+_ / 32) % (2 ^ j-1+1)<_;rw[hP];exact aaK _ (by lia)
 intro d
 induction d with
 |zero=>exact(Nat.mod_eq_of_lt (lt 13)).symm
 |succ d ih =>
  show ((lp (2 ^ j-1) h (13+d)).1*5+1+(lp (2 ^ j-1) h (13+d)).2 / 32) % (2 ^ j-1+1)=(5*it d _+1) % 2 ^ j;rw[hP,Gk _ h (by lia),ih,Nat.zero_div,Nat.add_zero,Nat.mul_comm]
  conv=>rhs;rw[Nat.add_mod,Nat.mul_mod]
  rw[Nat.add_mod,Nat.mul_mod,Nat.mod_mod]
theorem WX (j:Nat)(h:Int){t:Nat}(ht:t<2 ^ j):∃n,n<10*turns (2 ^ j-1)/\cL (2 ^ j-1) h n=t:=by
 obtain⟨k,hk,e⟩:=lift j (lp (2 ^ j-1) h 13).1 t;obtain⟨n,h1,h2⟩:=Ex (2 ^ j-1) h (13+k);refine⟨n,by unfold turns;lia,?_⟩
 unfold cL;rw[h2];show (lp (2 ^ j-1) h (13+k)).1=t;rw[Ib,e,Nat.mod_eq_of_lt ht]
abbrev g (xs:Array Nat)(i:Nat):Nat:=xs.getD i 0
theorem wz {xs:Array Nat}{i:Nat}(h:i<xs.size):xs[i]?=some (g xs i):=by
 rw[getElem?_pos xs i h,g,Ys,getElem?_pos xs i h];rfl
def II (xs:Array Nat):Prop:=∀i j,i<j->j<xs.size->g xs i<g xs j
theorem II.inj {xs:Array Nat}(r:II xs){i j:Nat}(hi:i<xs.size)(hj:j<xs.size)(e:g xs i=g xs j):i=j:=by
 rcases aaS i j with h|h|h
 ·have:=r i j h hj;lia
 ·exact h
 ·have:=r j i h hi;lia
theorem og {xs:Array Nat}{j:Nat}(r:II xs):∀(f lo hi:Nat),hi<=xs.size->lo<=hi->hi-lo<=f->(∀k,k<lo->g xs k<j)->(∀k,hi<=k->k<xs.size->j<=g xs k) ->
  below.go xs j f lo hi<=xs.size/\(∀k,k<below.go xs j f lo hi->g xs k<j)/\(∀k,below.go xs j f lo hi<=k->k<xs.size->j<=g xs k)
 |0,lo,hi,h1,h2,h3,h4,h5=>by
  obtain rfl:lo=hi:=by omega
  exact⟨h1,h4,h5⟩
 |f+1,lo,hi,h1,h2,h3,h4,h5=>by
  unfold below.go
  by_cases hl:lo<hi
  ·rw[if_pos hl];dsimp only;have hm:(lo+hi) / 2<xs.size:=by omega
   have e:xs.getD ((lo+hi) / 2) j=g xs ((lo+hi) / 2):=by
    rw[g,Ys,Ys,getElem?_pos xs _ hm];rfl
   rw[e]
   by_cases hc:g xs ((lo+hi) / 2)<j
   ·rw[if_pos hc];refine og r f _ _ h1 (by omega) (by omega) (λk hk=>?_) h5
    by_cases SF:k=(lo+hi) / 2
    ·rw[SF];exact hc
    ·have:=r k ((lo+hi) / 2) (by omega) hm;omega
   ·rw[if_neg hc];refine og r f _ _ (by omega) (by omega) (by omega) h4 (λk hk GI=>?_)
    by_cases SF:k=(lo+hi) / 2
    ·rw[SF];omega
    ·have:=r ((lo+hi) / 2) k (by omega) GI;omega
  ·rw[if_neg hl];obtain rfl:lo=hi:=by omega
   exact⟨h1,h4,h5⟩
theorem gA {xs:Array Nat}(r:II xs)(j:Nat):below xs j<=xs.size/\(∀k,k<below xs j->g xs k<j)/\(∀k,below xs j<=k->k<xs.size->j<=g xs k) :=
 og r xs.size 0 xs.size (XS _) (Yh _) (XS _) (λk hk=>by lia) (λk h1 h2=>by lia)
theorem below_at {xs:Array Nat}(r:II xs){i:Nat}(hi:i<xs.size):below xs (g xs i)=i:=by
 obtain⟨h1,h2,h3⟩:=gA r (g xs i);rcases aaS (below xs (g xs i)) i with h|h|h
 ·have:=h3 (below xs (g xs i)) (XS _) (by omega)
  have:=r _ _ h hi;omega
 ·exact h
 ·have:=h2 i h;omega
def va (t:SetTable)(x:Nat):Prop:=∃i,i<t.place.size/\g t.place i=x
theorem yW {t:SetTable}(r:II t.place){i:Nat}(hi:i<t.place.size):t.slot (g t.place i)=.live i:=by
 unfold slot;dsimp only;rw[below_at r hi,if_pos (by rw[wz hi];exact beq_self_eq_true _)]
theorem yX {t:SetTable}(r:II t.place)(d:t.dummies=#[]){x:Nat}(h:¬ va t x):t.slot x=.empty:=by
 unfold slot;dsimp only;rw[if_neg ?_,if_neg ?_]
 ·rw[d];unfold has;simp
 ·intro q;have q:=eq_of_beq q;have hl:below t.place x<t.place.size:=by
   rcases Zx (below t.place x) t.place.size with z|z
   ·exact z
   ·rw[Z0 z]at q;cases q
  rw[wz hl]at q;exact h ⟨_,hl,Yv q⟩
structure WF (t:SetTable)(hs:List Int):Prop where
 G_:t.dummies=#[]
 sz:t.place.size=hs.length
 Bu:II t.place
 U4:∀i,i<t.place.size->g t.place i<=t.mask
 Gh:∃j,3<=j/\t.mask=2 ^ j-1
 room:t.place.size<=t.mask
 VF:∀i h,hs[i]?=some h->∃n,cL t.mask h n=g t.place i/\∀k,k<n->va t (cL t.mask h k)
theorem least {p:Nat->Prop}[DecidablePred p]:∀n,p n->∃m,m<=n/\p m/\∀k,k<m->¬ p k:=by
 intro n
 induction n using Nat.strongRecOn with
 |_ n ih =>
  intro hn
  by_cases h:∃k,k<n/\p k
  ·obtain⟨k,hk,hp⟩:=h;obtain⟨m,h1,h2,h3⟩:=ih k hk hp;exact⟨m,by lia,h2,h3⟩
  ·exact⟨n,XS _,hn,λk hk hp=>h ⟨k,hk,hp⟩⟩
instance (t:SetTable):DecidablePred (va t):=λx=>decidable_of_iff (∃i,i<t.place.size/\g t.place i=x) Iff.rfl
theorem WF.hole {t:SetTable}{hs:List Int}(w:WF t hs):∃x,x<=t.mask/\¬ va t x:=by
 refine aae λON=>?_;have all:∀x,x<=t.mask->va t x:=λx hx=>aae λq=>ON ⟨x,hx,q⟩;have up:∀x,x<=t.mask->∃i,i<t.place.size/\g t.place i=x/\x<=i:=by
  intro x
  induction x with
  |zero =>
   intro hx;obtain⟨i,h1,h2⟩:=all 0 hx;exact⟨i,h1,h2,Yh _⟩
  |succ x ih =>
   intro hx;obtain⟨i,h1,h2,h3⟩:=ih (by lia)
   obtain⟨i',h4,h5⟩:=all (x+1) hx;refine⟨i',h4,h5,?_⟩;rcases Zx i i' with q|q
   ·lia
   ·rcases Zx i' i with q2|q2
    ·have:=w.Bu i' i q2 h1;lia
    ·obtain rfl:i=i':=by lia
     lia
 obtain⟨i,h1,h2,h3⟩:=up t.mask (XS _);have:=w.room;lia
theorem WF.first {t:SetTable}{hs:List Int}(w:WF t hs)(h:Int):∃n,n<10*turns t.mask/\¬ va t (cL t.mask h n)/\∀k,k<n->va t (cL t.mask h k):=by
 obtain⟨x,hx,hf⟩:=w.hole;obtain⟨j,_,hj⟩:=w.Gh;have wq:x<2 ^ j:=by have:0<2 ^ j:=Nat.pow_pos (by decide);lia
 obtain⟨n,h1,h2⟩:=WX j h wq;rw[<- hj]at h1 h2;obtain⟨m,g1,g2,g3⟩:=least (p:=λn=>¬ va t (cL t.mask h n)) n (by rw[h2];exact hf)
 exact⟨m,by lia,g2,λk hk=>aae λq=>g3 k hk q⟩
theorem kJ (m:Nat)(h:Int):∀n,(iD m h n).dummy=none
 |0=>rfl
 |n+1=>by
  show (EI m (iD m h n)).dummy=none;unfold EI advance
  split
  ·exact kJ m h n
  ·exact kJ m h n
theorem tF {t:SetTable}{hs:List Int}(w:WF t hs)(ha:Nat->Int)(h:Int){N:Nat}(hN:¬ va t (cL t.mask h N))(hO:∀k,k<N->va t (cL t.mask h k)):∀(d n f:Nat),n+d=N->d<f ->
  (probe.go t ha h f (iD t.mask h n)=some (.empty (cL t.mask h N) none)/\∀k,n<=k->k<N->∀i,i<t.place.size->g t.place i=cL t.mask h k->ha i≠h) \/
  ∃m i,n<=m/\m<N/\i<t.place.size/\g t.place i=cL t.mask h m/\ha i=h/\probe.go t ha h f (iD t.mask h n)=some (.candidate (cL t.mask h m) i (iD t.mask h (m+1)))/\∀k,n<=k->k<m->∀i,i<t.place.size->g t.place i=cL t.mask h k->ha i≠h
 |0,n,f,e,hf=>by
  obtain rfl:n=N:=by lia
  obtain⟨f,rfl⟩:∃f',f=f'+1:=⟨f-1,by lia⟩
  refine .inl ⟨?_,λk h1 h2=>by lia⟩
  unfold probe.go;rw[show t.slot (iD t.mask h n).j=.empty from yX w.Bu w.G_ hN]
  dsimp only;rw[kJ];rfl
 |d+1,n,f,e,hf=>by
  obtain⟨f,rfl⟩:∃f',f=f'+1:=⟨f-1,by lia⟩
  obtain⟨i,hi,hg⟩:=hO n (by lia)
  have Ij:t.slot (iD t.mask h n).j=.live i:=by
   show t.slot (cL t.mask h n)=.live i;rw[<- hg];exact yW w.Bu hi
  by_cases hh:ha i=h
  ·refine .inr ⟨n,i,XS _,by lia,hi,hg,hh,?_,λk h1 h2=>by lia⟩
   unfold probe.go;rw[Ij];dsimp only;rw[if_pos (by rw[hh];exact beq_self_eq_true _)]
   rfl
  ·have st:probe.go t ha h (f+1) (iD t.mask h n)=probe.go t ha h f (iD t.mask h (n+1)):=by
    conv=>lhs;unfold probe.go
    rw[Ij];dsimp only;rw[if_neg (by simpa using hh)]
    rfl
   rw[st];have here:∀i',i'<t.place.size->g t.place i'=cL t.mask h n->ha i'≠h:=λi' h1 h2=>by
    rw[w.Bu.inj h1 hi (h2.trans hg.symm)];exact hh
   rcases tF w ha h hN hO d (n+1) f (by lia) (by lia)with⟨q1,q2⟩|⟨m,i',q1,q2,q3,q4,q5,q6,q7⟩
   ·refine .inl ⟨q1,λk h1 h2=>?_⟩
    by_cases hk:k=n
    ·subst hk;exact here
    ·exact q2 k (by lia) h2
   ·refine .inr ⟨m,i',by lia,q2,q3,q4,q5,q6,λk h1 h2=>?_⟩
    by_cases hk:k=n
    ·subst hk;exact here
    ·exact q7 k (by lia) h2
theorem ny {α:Type}(xs:Array α)(p:Nat)(x:α):(insertAt xs p x).toList=xs.toList.take p++x::xs.toList.drop p:=by
 unfold insertAt;rw[Array.toList_append,Array.toList_push,Array.toList_extract,Array.toList_extract,List.extract_eq_take_drop,List.extract_eq_take_drop,ZL];simp[Zf]
theorem Dj {α:Type}{xs:Array α}{p:Nat}{x:α}(h:p<=xs.size):(insertAt xs p x).size=xs.size+1:=by
 rw[<- Yc,ny,Yg,Yt,Yy,aaw,Yc];lia
theorem el {xs:Array Nat}{p x:Nat}(h:p<=xs.size)(k:Nat):g (insertAt xs p x) k=if k<p then g xs k else if k=p then x else g xs (k-1):=by
 have e:∀(ys:Array Nat) (k:Nat),g ys k=(ys.toList[k]?).getD 0:=λys k=>by rw[g,Ys,YR]
 rw[e,e,e,ny]
 by_cases h1:k<p
 ·rw[if_pos h1,ZH (by rw[Yy,Yc];lia),aaZ h1]
 ·rw[if_neg h1,Z_ (by rw[Yy];lia),Yy,Yc,show min p xs.size=p by lia]
  by_cases h2:k=p
  ·rw[if_pos h2,h2,Nat.sub_self];rfl
  ·rw[if_neg h2,show k-p=k-p-1+1 by lia,ZT,List.getElem?_drop,show p+(k-p-1)=k-1 by lia]
theorem WF.put {t:SetTable}{hs:List Int}(w:WF t hs){h:Int}{N:Nat}(hb:cL t.mask h N<=t.mask)(hN:¬ va t (cL t.mask h N))(hO:∀k,k<N->va t (cL t.mask h k))(hr:t.place.size+1<=t.mask):
  WF (t.put (cL t.mask h N)).1 (hs.take (t.put (cL t.mask h N)).2++h::hs.drop (t.put (cL t.mask h N)).2)/\(t.put (cL t.mask h N)).2<=t.place.size:=by
 obtain⟨b1,b2,b3⟩:=gA w.Bu (cL t.mask h N);have hp:(t.put (cL t.mask h N)).2=below t.place (cL t.mask h N):=rfl;rw[hp];generalize hx:cL t.mask h N=x at *
 generalize hq:below t.place x=p at *
 have e:(t.put x).1={t with place:=insertAt t.place p x}:=by
  unfold SetTable.put;dsimp only;rw[w.G_,hq];unfold has;simp
 have ne:∀k,p<=k->k<t.place.size->x<g t.place k:=λk h1 h2=>by
  have:=b3 k h1 h2;rcases Zx x (g t.place k)with q|q
  ·exact q
  ·exact absurd ⟨k,h2,by lia⟩ hN
 have QP:(insertAt t.place p x).size=t.place.size+1:=Dj b1;have Uu:∀y,va t y->va {t with place:=insertAt t.place p x} y:=by
  rintro y ⟨i,h1,h2⟩
  by_cases hi:i<p
  ·exact⟨i,by show i<(insertAt t.place p x).size;lia,by show g (insertAt t.place p x) i=y;rw[el b1,if_pos hi];exact h2⟩
  ·exact⟨i+1,by show i+1<(insertAt t.place p x).size;lia,by show g (insertAt t.place p x) (i+1)=y;rw[el b1,if_neg (by lia),if_neg (by lia)];exact h2⟩
 rw[e];refine⟨⟨w.G_,?_,?_,?_,w.Gh,?_,?_⟩,b1⟩
 ·show (insertAt t.place p x).size=_;rw[QP,Yg,Yt,Yy,aaw,<- w.sz];lia
 ·intro i j aA hj;have hj:j<t.place.size+1:=by rw[<- QP];exact hj
  show g (insertAt t.place p x) i<g (insertAt t.place p x) j;rw[el b1,el b1]
  by_cases h1:i<p
  ·rw[if_pos h1]
   by_cases h2:j<p
   ·rw[if_pos h2];exact w.Bu i j aA (by lia)
   ·rw[if_neg h2]
    by_cases h3:j=p
    ·rw[if_pos h3];exact b2 i h1
    ·rw[if_neg h3];exact w.Bu i (j-1) (by lia) (by lia)
  ·rw[if_neg h1,if_neg (show ¬ j<p by lia)]
   by_cases h3:i=p
   ·rw[if_pos h3,if_neg (show ¬ j=p by lia)];exact ne _ (by lia) (by lia)
   ·rw[if_neg h3,if_neg (show ¬ j=p by lia)];exact w.Bu (i-1) (j-1) (by lia) (by lia)
 ·intro i hi;have hi:i<t.place.size+1:=by rw[<- QP];exact hi
  show g (insertAt t.place p x) i<=t.mask;rw[el b1]
  split
  ·exact w.U4 i (by lia)
  ·split
   ·exact hb
   ·exact w.U4 _ (by lia)
 ·show (insertAt t.place p x).size<=t.mask;lia
 ·intro i h' oO;show ∃n,cL t.mask h' n=g (insertAt t.place p x) i/\_;have old:∀i h',hs[i]?=some h'->∃n,cL t.mask h' n=g t.place i/\∀k,k<n->va {t with place:=insertAt t.place p x} (cL t.mask h' k):=λi h' q=>by
   obtain⟨n,h1,h2⟩:=w.VF i h' q;exact⟨n,h1,λk hk=>Uu _ (h2 k hk)⟩
  have hpl:p<=hs.length:=by rw[<- w.sz];exact b1
  by_cases h1:i<p
  ·rw[ZH (by rw[Yy];lia),aaZ h1]at oO
   rw[el b1,if_pos h1];exact old i h' oO
  ·rw[Z_ (by rw[Yy];lia),Yy,show min p hs.length=p by lia]at oO
   rw[el b1,if_neg h1]
   by_cases h2:i=p
   ·rw[h2,Nat.sub_self]at oO;rw[if_pos h2];obtain rfl:h=h':=Yv oO;exact⟨N,hx,λk hk=>Uu _ (hO k hk)⟩
   ·rw[show i-p=i-p-1+1 by lia,ZT,List.getElem?_drop,show p+(i-p-1)=i-1 by lia]at oO
    rw[if_neg h2];exact old (i-1) h' oO
theorem il {m i:Nat}(h:i<=m):i<=runEnd m i/\runEnd m i<=m:=by
 unfold runEnd
 split <;> lia
theorem BE (m:Nat)(h:Int):∀n,(iD m h n).j+(iD m h n).more<=m
 |0=>by
  show bits h % (m+1)+(runEnd m (bits h % (m+1))-bits h % (m+1))<=m;have hl:bits h % (m+1)<=m:=Nat.le_of_lt_succ (aaK _ (Nat.succ_pos _));have:=il hl;lia
 |n+1=>by
  have ih:=BE m h n;show (EI m (iD m h n)).j+(EI m (iD m h n)).more<=m;unfold EI advance
  split
  ·show (iD m h n).j+1+((iD m h n).more-1)<=m;lia
  ·show (leap m (iD m h n).i (iD m h n).perturb).1+(runEnd m (leap m (iD m h n).i (iD m h n).perturb).1-(leap m (iD m h n).i (iD m h n).perturb).1)<=m;have hl:(leap m (iD m h n).i (iD m h n).perturb).1<=m:=Nat.le_of_lt_succ (aaK _ (Nat.succ_pos _));have:=il hl;lia
theorem lN (m:Nat)(h:Int)(n:Nat):cL m h n<=m:=by
 have:=BE m h n;unfold cL;lia
abbrev Ow:=Array (Option Nat)
def gF (o:Ow)(j:Nat):Bool:=(o.getD j (some 0)).isNone
theorem pW {m:Nat}{o:Ow}(h:Int):∀(f b n:Nat) (j:Nat),iD m h n=Mp m (lp m h b)->layClean.free m o f (lp m h b).1 (lp m h b).2=some j->∃N,n<=N/\cL m h N=j/\gF o j=true/\∀k,n<=k->k<N->gF o (cL m h k)=false
 |0,b,n,j,_,e=>by cases e
 |f+1,b,n,j,hb,e=>by
  unfold layClean.free at e;have RP:∀d,d<=runEnd m (lp m h b).1-(lp m h b).1->cL m h (n+d)=(lp m h b).1+d:=λd hd=>by
   unfold cL;rw[wm m h _ n hb d hd]
  have hl:(lp m h b).1<=m:=by
   have:=lN m h n;unfold cL at this;rw[hb]at this;exact this
  have hr:=il hl;cases hf:(X7 (runEnd m (lp m h b).1+1-(lp m h b).1)).find? (λk=>(o.getD ((lp m h b).1+k) (some 0)).isNone)with
  |some k =>
   rw[hf]at e;dsimp only at e;obtain⟨h1,h2,h3⟩:=List.find?_range_eq_some.mp hf;have h2:=YH.mp h2;refine⟨n+k,by lia,?_,?_,λx g1 g2=>?_⟩
   ·rw[RP k (by lia)]
    exact Yv e
   ·rw[<- Yv e];exact h1
   ·have:=h3 (x-n) (by lia)
    rw[show x=n+(x-n) by lia,RP (x-n) (by lia)]
    unfold gF;simpa using this
  |none =>
   rw[hf]at e;dsimp only at e;have h3:=List.find?_range_eq_none.mp hf;obtain⟨N,q1,q2,q3,q4⟩:=pW h f (b+1) (n+(runEnd m (lp m h b).1-(lp m h b).1)+1) j (u5 m h _ n hb) e;refine⟨N,by lia,q2,q3,λx g1 g2=>?_⟩
   by_cases hx:n+(runEnd m (lp m h b).1-(lp m h b).1)+1<=x
   ·exact q4 x hx g2
   ·have:=h3 (x-n) (by lia)
    rw[show x=n+(x-n) by lia,RP (x-n) (by lia)]
    unfold gF;simpa using this
theorem pX {m:Nat}{o:Ow}(h:Int):∀(f b:Nat),layClean.free m o f (lp m h b).1 (lp m h b).2=none->∀d,d<f->(lp m h (b+d)).1<=m->gF o (lp m h (b+d)).1=false
 |0,b,_,d,hd,_=>by lia
 |f+1,b,e,d,hd,hl=>by
  unfold layClean.free at e;cases hf:(X7 (runEnd m (lp m h b).1+1-(lp m h b).1)).find? (λk=>(o.getD ((lp m h b).1+k) (some 0)).isNone)with
  |some k =>
   rw[hf]at e;cases e
  |none =>
   rw[hf]at e;dsimp only at e;cases d with
   |zero =>
    have:=List.find?_range_eq_none.mp hf 0 (by have:=il hl;rw[Nat.add_zero]at this;lia)
    unfold gF;simpa using this
   |succ d =>
    have:=pX h f (b+1) e d (by lia) (by rw[show b+1+d=b+(d+1) by lia];exact hl)
    rw[show b+1+d=b+(d+1) by lia]at this
    exact this
theorem Kr (j:Nat)(h:Int){t:Nat}(ht:t<2 ^ j):∃k,k<turns (2 ^ j-1)/\(lp (2 ^ j-1) h k).1=t:=by
 obtain⟨k,hk,e⟩:=lift j (lp (2 ^ j-1) h 13).1 t;refine⟨13+k,by unfold turns;lia,?_⟩
 rw[Ib,e,Nat.mod_eq_of_lt ht]
def ow (o:Ow)(j:Nat):Option Nat:=o.getD j none
theorem fb {α:Type}{f f':Nat->Option α}:∀(l:List Nat),(∀k∈l,f' k=f k)->l.filterMap f'=l.filterMap f
 |[],_=>rfl
 |x::l,h=>by
  rw[YV,YV,h x Yr,fb l λk hk=>h k (Yd _ hk)]
theorem uB {α:Type}{f f':Nat->Option α}(l:List Nat)(h:∀k∈l,f' k=f k):l.filterMap f'=l.filterMap f:=fb l h
theorem uA {α:Type}(f f':Nat->Option α)(j:Nat)(v:α)(h1:f j=none)(h2:f' j=some v)(h3:∀k,k≠j->f' k=f k):∀N,j<N->((X7 N).filterMap f').Perm (v::(X7 N).filterMap f)
 |0,h=>by lia
 |N+1,h=>by
  rw[aaB,List.filterMap_append,List.filterMap_append]
  by_cases e:j=N
  ·subst e;have e1:(X7 j).filterMap f'=(X7 j).filterMap f:=by
    exact fb _ λk hk=>h3 k (Yk (YH.mp hk))
   rw[e1,YV,h2,YV,h1,List.filterMap_nil,List.filterMap_nil];show ((X7 j).filterMap f++[v]).Perm (v::((X7 j).filterMap f++[]));rw[ZJ];exact List.perm_append_comm
  ·have ih:=uA f f' j v h1 h2 h3 N (by lia)
   have e2:[N].filterMap f'=[N].filterMap f:=fb _ λk hk=>by
    rw[XW.mp hk];exact h3 N (λz=>e z.symm)
   rw[e2];exact ih.append_right _
theorem uC {α:Type}(f:Nat->Option α):∀N,(∀k,k<N->(f k).isSome=true)->((X7 N).filterMap f).length=N
 |0,_=>rfl
 |N+1,h=>by
  rw[aaB,List.filterMap_append,Yg,uC f N λk hk=>h k (by lia)]
  have:=h N (by lia)
  cases e:f N with
  |none=>rw[e]at this;cases this
  |some x=>rw[YV,e];rfl
structure Ld (m:Nat)(hs:Array Int)(o:Ow)(k:Nat):Prop where
 sz:o.size=m+1
 Rt:((X7 (m+1)).filterMap (ow o)).Perm (X7 k)
 way:∀j a,ow o j=some a->a<k/\∃n,cL m (hs.getD a 0) n=j/\∀x,x<n->gF o (cL m (hs.getD a 0) x)=false
theorem mU {o:Ow}{j:Nat}(h:j<o.size):gF o j=true↔ow o j=none:=by
 unfold gF ow;rw[Ys,Ys,getElem?_pos o j h];show (o[j]).isNone=true↔o[j]=none;exact aaM
theorem Ld.next {j0:Nat}{hs:Array Int}{o:Ow}{k:Nat}(L:Ld (2 ^ j0-1) hs o k)(hk:k<=2 ^ j0-1)(h:Int)(hh:hs.getD k 0=h):
  ∃j,layClean.free (2 ^ j0-1) o (turns (2 ^ j0-1)) (bits h % (2 ^ j0-1+1)) (bits h)=some j/\Ld (2 ^ j0-1) hs (o.setIfInBounds j (some k)) (k+1):=by
 have hP:0<2 ^ j0:=Nat.pow_pos (by decide)
 generalize hm:2 ^ j0-1=m at *
 obtain⟨x,hx,Wj⟩:∃x,x<=m/\ow o x=none:=by
  refine aae λON=>?_;have:=uC (ow o) (m+1) λx hx=>by
   cases e:ow o x with
   |none=>exact absurd ⟨x,by lia,e⟩ ON
   |some _=>rfl
  rw[L.Rt.length_eq,Yx]at this;lia
 cases hf:layClean.free m o (turns m) (bits h % (m+1)) (bits h)with
 |none =>
  exfalso
  obtain⟨c,hc,he⟩:=Kr j0 h (t:=x) (by lia)
  rw[hm]at hc he;have:=pX (m:=m) (o:=o) h (turns m) 0 hf c hc (by rw[aaF,he];exact hx)
  rw[aaF,he]at this;have q:=(mU (o:=o) (j:=x) (by rw[L.sz];lia)).mpr Wj
  rw[q]at this;cases this
 |some j =>
  refine⟨j,rfl,?_⟩;obtain⟨N,_,q2,q3,q4⟩:=pW (m:=m) (o:=o) h (turns m) 0 0 j rfl hf;have hj:j<=m:=by rw[<- q2];exact lN m h N
  have SG:j<o.size:=by rw[L.sz];lia
  have OM:ow o j=none:=(mU SG).mp q3;have same:∀i,i≠j->ow (o.setIfInBounds j (some k)) i=ow o i:=λi hi=>by
   unfold ow;rw[Ys,Ys,Array.getElem?_setIfInBounds_ne (λz=>hi z.symm)]
  have here:ow (o.setIfInBounds j (some k)) j=some k:=by
   unfold ow;rw[Ys,Array.getElem?_setIfInBounds_self_of_lt SG];rfl
  have shut:∀i,gF o i=false->gF (o.setIfInBounds j (some k)) i=false:=λi hi=>by
   unfold gF at *
   rw[Ys]at *
   by_cases e:i=j
   ·subst e;rw[Array.getElem?_setIfInBounds_self_of_lt SG];rfl
   ·rw[Array.getElem?_setIfInBounds_ne (λz=>e z.symm)];exact hi
  refine⟨by rw[Array.size_setIfInBounds];exact L.sz,?_,λi a Qj=>?_⟩
  ·refine(uA (ow o) _ j k OM here same (m+1) (by lia)).trans ?_
   refine(L.Rt.cons k).trans ?_;rw[aaB];exact(List.perm_append_singleton k _).symm
  ·by_cases e:i=j
   ·subst e;rw[here]at Qj;obtain rfl:=Yv Qj;refine⟨Nat.lt_succ_self _,N,by rw[hh];exact q2,λx hx=>shut _ ?_⟩
    rw[hh];exact q4 x (Yh _) hx
   ·rw[same i e]at Qj;obtain⟨g1,n,g2,g3⟩:=L.way i a Qj;exact⟨by lia,n,g2,λx hx=>shut _ (g3 x hx)⟩
theorem nZ {j0:Nat}{hs:Array Int}(hk:hs.size<=2 ^ j0-1):∀(l:List Int) (k:Nat) (o:Ow),hs.toList.drop k=l->k+l.length=hs.size->Ld (2 ^ j0-1) hs o k ->
  ∃o',(l.foldl (λ(acc:Option (Ow×Nat)) h=>do
   let (owner,k) <- acc
   let j <- layClean.free (2 ^ j0-1) owner (turns (2 ^ j0-1)) (bits h % (2 ^ j0-1+1)) (bits h)
   pure (owner.setIfInBounds j (some k),k+1)) (some (o,k)))=some (o',hs.size)/\Ld (2 ^ j0-1) hs o' hs.size
 |[],k,o,e,z,L=>by
  obtain rfl:k=hs.size:=z;exact⟨o,rfl,L⟩
 |h::l,k,o,e,z,L=>by
  rw[Yt]at z;have iH:k<hs.toList.length:=by rw[Yc];lia
  rw[Zi iH]at e;injection e with e1 e2
  have hh:hs.getD k 0=h:=by
   rw[Ys,<- YR,XY iH,e1];rfl
  obtain⟨j,q1,q2⟩:=L.next (by lia) h hh
  rw[Zt];show ∃o',(l.foldl _ (do
   let j <- layClean.free (2 ^ j0-1) o (turns (2 ^ j0-1)) (bits h % (2 ^ j0-1+1)) (bits h)
   pure (o.setIfInBounds j (some k),k+1)))=_/\_
  rw[q1];exact nZ hk l (k+1) _ e2 (by lia) q2
theorem Ld.start (m:Nat)(hs:Array Int):Ld m hs (Array.replicate (m+1) none) 0:=by
 have e:∀j,ow (Array.replicate (m+1) none) j=none:=λj=>by
  unfold ow;rw[Ys,Array.getElem?_replicate]
  split <;> rfl
 refine⟨Array.size_replicate,?_,λj a h=>by rw[e]at h;cases h⟩
 rw[fb (f:=λ_=>(none:Option Nat)) _ λk _=>e k];have:∀l:List Nat,l.filterMap (λ_=>(none:Option Nat))=[]:=λl=>by
  induction l with
  |nil=>rfl
  |cons x l ih=>rw[YV];exact ih
 rw[this];exact .refl _
theorem Gp {j0:Nat}{hs:Array Int}(h3:3<=j0)(hk:hs.size<=2 ^ j0-1)(finger moves:Nat)(led plain:Bool):
  ∃t order,laid (2 ^ j0-1) finger moves led plain hs=some (t,order)/\t.mask=2 ^ j0-1/\t.led=led/\t.plain=plain/\t.moves=moves/\order.toList.Perm (X7 hs.size)/\WF t (order.toList.map λa=>hs.getD a 0)/\t.place.size=hs.size:=by
 obtain⟨o,e1,L⟩:=nZ hk hs.toList 0 _ rfl (by rw[aaF,Yc]) (Ld.start _ hs)
 have e2:layClean (2 ^ j0-1) hs=some o:=by
  unfold layClean;rw[<- Array.foldl_toList];exact congrArg (Option.map (·.1)) e1
 generalize hm:2 ^ j0-1=m at *
 have NM:∀(l:List Nat),((l.filterMap λj=>(o.getD j none).map (j,·)).map (·.2))=l.filterMap (ow o):=λl=>by
  rw[List.map_filterMap];refine uB l λj _=>?_;rw[Option.map_map];show ((o.getD j none).map λa=>a)=_;rw[Option.map_id'];rfl
 generalize OR:((X7 (m+1)).filterMap λj=>(o.getD j none).map (j,·))=live at *
 have pw:live.Pairwise (λx y=>x.1<y.1):=by
  rw[<- OR,List.pairwise_filterMap];refine List.pairwise_lt_range.imp λ{a b} oP x hx y hy=>?_;obtain⟨_,_,rfl⟩:=X9.mp hx;obtain⟨_,_,rfl⟩:=X9.mp hy;exact oP
 have mem:∀x∈live,x.1<m+1/\ow o x.1=some x.2:=λx hx=>by
  rw[<- OR]at hx;obtain⟨j,hj,e⟩:=aaL.mp hx;obtain⟨a,ha,rfl⟩:=X9.mp e;exact⟨YH.mp hj,ha⟩
 have ord:(live.map (·.2)).Perm (X7 hs.size):=by
  rw[<- OR,NM];exact L.Rt
 have len:live.length=hs.size:=by
  have:=ord.length_eq;rw[XN,Yx]at this;exact this
 have gp:∀i (hi:i<live.length),g (live.map (·.1)).toArray i=(live[i]).1:=λi hi=>by
  rw[g,Ys,List.getElem?_toArray,X5,XY hi];rfl
 refine⟨{mask:=m,place:=(live.map (·.1)).toArray,dummies:=#[],finger,led,moves,plain},(live.map (·.2)).toArray,?_,rfl,rfl,rfl,rfl,ord,?_,?_⟩
 ·unfold laid;rw[e2,<- OR];rfl
 ·have Rr:(live.map (·.1)).toArray.size=live.length:=by rw[Yb,XN]
  refine⟨rfl,?_,?_,?_,⟨j0,h3,hm.symm⟩,?_,?_⟩
  ·show (live.map (·.1)).toArray.size=_;rw[Rr,XN,XN]
  ·intro i j aA hj;have hj:j<live.length:=by rw[<- Rr];exact hj
   show g (live.map (·.1)).toArray i<g (live.map (·.1)).toArray j;rw[gp i (by lia),gp j hj]
   exact List.pairwise_iff_getElem.mp pw i j (by lia) hj aA
  ·intro i hi;have hi:i<live.length:=by rw[<- Rr];exact hi
   show g (live.map (·.1)).toArray i<=m;rw[gp i hi];have:=(mem _ (Y7 hi)).1;lia
  ·show (live.map (·.1)).toArray.size<=m;lia
  ·intro i h hi;show ∃n,cL m h n=g (live.map (·.1)).toArray i/\_;rw[X5,X5]at hi;have Md:i<live.length:=by
    rcases Zx i live.length with q|q
    ·exact q
    ·rw[YQ q]at hi;cases hi
   rw[XY Md]at hi;have hi:hs.getD (live[i]).2 0=h:=Yv hi;obtain⟨_,n,g2,g3⟩:=L.way _ _ (mem _ (Y7 Md)).2;rw[hi]at g2 g3;refine⟨n,by rw[gp i Md];exact g2,λk hk=>?_⟩
   have hv:=lN m h k;have K5:cL m h k<o.size:=by rw[L.sz];lia
   have:=g3 k hk;cases eo:ow o (cL m h k)with
   |none =>
    rw[(mU K5).mpr eo]at this;cases this
   |some a =>
    have lJ:(cL m h k,a)∈live:=by
     rw[<- OR];exact aaL.mpr ⟨cL m h k,YH.mpr (by lia),by show (ow o (cL m h k)).map _=_;rw[eo];rfl⟩
    obtain⟨i',oO,e'⟩:=List.getElem_of_mem lJ;exact⟨i',by show i'<(live.map (·.1)).toArray.size;lia,by show g (live.map (·.1)).toArray i'=_;rw[gp i' oO,e']⟩
 ·show (live.map (·.1)).toArray.size=hs.size;rw[Yb,XN];exact len
open PyProof.Rows
section
variable {prog:XX}{w:X6}
abbrev TK (prog:XX)(w:X6):=aau (aaE prog w)
abbrev kH (prog:XX)(w:X6)(k:List Int):Int:=(TK prog w).hash k
abbrev ent (prog:XX)(w:X6)(x:Addr×List Int):Int×XO:=(kH prog w x.2,.ref x.1)
structure fL {α β:Type}(w:X6)(en:α->Int×XO)(hk:α->Int)(ky:α->β)(o:Obj)(ts:List α)(es:Array (Int×XO))(ep:Nat)(t:SetTable):Prop where
 ex:o.ExactSet
 dat:o.data=.set es ep t
 AJ:es.toList=ts.map en
 wf:WF t (ts.map hk)
 P4:t.place.size*5<t.mask*3
 Gh:t.mask<=8191
 led:t.led=!w.params.followText "set-order"
 zj:t.plain=true
 AE:(ts.map ky).Nodup
abbrev TJ (prog:XX)(w:X6):=fL w (ent prog w) (λx=>kH prog w x.2) (λx=>x.2)
section
variable {α β:Type}{en:α->Int×XO}{hk:α->Int}{ky:α->β}{ts:List α}{o:Obj}{es:Array (Int×XO)}{ep:Nat}{t:SetTable}
theorem fL.fits (S:fL w en hk ky o ts es ep t):t.fits es.size=true:=by
 have h1:=S.wf.sz;have h2:es.size=ts.length:=by rw[<- Yc,S.AJ,XN]
 rw[XN]at h1;unfold SetTable.fits SetTable.fill;rw[S.wf.G_,h2,h1];have:=S.P4;simp;lia
theorem fL.size (S:fL w en hk ky o ts es ep t):es.size=ts.length/\t.place.size=ts.length:=by
 have h1:=S.wf.sz;rw[XN]at h1;exact⟨by rw[<- Yc,S.AJ,XN],h1⟩
end
end
end ST
namespace L2
open PySem PySem.Spec PyProof.Rows
inductive D where
 |cj|bl (b:Bool)|int (i:Int)|str (x:Str)|obj (a:Addr)
 |tup (ds:List D)|lst (ds:List D)
 |dT (ks:List (List Key)) (ds:List D)|dK (ks:List Key) (ds:List D)
 |sT (ts:List (List Int))
 |ob (φ:Addr->HO)
def Jt (P:XX)(w:X6)(a:Addr)(ts:List (Addr×List Int))(h:Heap):Prop:=∃o es ep t,h.get? a=some o/\ST.TJ P w o ts es ep t
abbrev Pm (P:XX)(w:X6)(a:Addr)(ts:List (Addr×List Int)):HO:=.ext (Jt P w a ts)
def Hu (P:XX)(w:X6)(H:Hp)(a:Addr)(ts:List (List Int)):Prop :=
 ∃b7:List (Addr×List Int),H a=some (Pm P w a b7)/\(∀x∈b7,H x.1=some (.tup (x.2.map V.int)))/\(b7.map (·.2)).Perm ts
section
variable (P:XX)(w:X6)(W:Addr->Prop)(H:Hp)
mutual
def az:D->V->Prop
 |.cj,v=>v=.cj
 |.bl b,v=>v=.bl b
 |.int i,v=>v=.int i
 |.str x,v=>v=.str x
 |.obj a,v=>v=.ref a
 |.tup ds,v=>∃a vs,v=.ref a/\H a=some (.tup vs)/\ag ds vs
 |.lst ds,v=>∃a vs,v=.ref a/\H a=some (.lst vs)/\¬ W a/\ag ds vs
 |.dT ks ds,v=>∃a vs,v=.ref a/\H a=some (.dT (ks.zip vs))/\ks.length=vs.length/\¬ W a/\ag ds vs
 |.dK ks ds,v=>∃a vs,v=.ref a/\H a=some (.dK (ks.zip vs))/\ks.length=vs.length/\¬ W a/\ag ds vs
 |.sT ts,v=>∃a,v=.ref a/\Hu P w H a ts/\¬ W a
 |.ob φ,v=>∃a,v=.ref a/\(H a=some (φ a)/\∀xs,φ a≠.tup xs)/\¬ W a
def ag:List D->List V->Prop
 |[],vs=>vs=[]
 |d::ds,vs=>∃v r,vs=v::r/\az d v/\ag ds r
end
end
mutual
def D.flat:D->Bool
 |.tup ds=>D.cf ds
 |.lst _=>false
 |.dT _ _=>false
 |.dK _ _=>false
 |.sT _=>false
 |.ob _=>false
 |_=>true
def D.cf:List D->Bool
 |[]=>true
 |d::ds=>D.flat d&&D.cf ds
end
structure Kp (W:Addr->Prop)(H H':Hp):Prop where
 out:∀b o,H b=some o->¬ W b->H' b=some o
 tup:∀b xs,H b=some (.tup xs)->H' b=some (.tup xs)
theorem Kp.refl {W:Addr->Prop}{H:Hp}:Kp W H H:=⟨λ_ _ e _=>e,λ_ _ e=>e⟩
theorem Kp.trans {W:Addr->Prop}{H H1 H2:Hp}(a:Kp W H H1)(b:Kp W H1 H2):Kp W H H2:=⟨λc o e n=>b.out c o (a.out c o e n) n,λc xs e=>b.tup c xs (a.tup c xs e)⟩
theorem ar.kp {W:Addr->Prop}{H H':Hp}(h:ar H H'):Kp W H H':=⟨λb o e _=>h b o e,λb xs e=>h b _ e⟩
theorem Kp.mono {W W':Addr->Prop}{H H':Hp}(h:Kp W H H')(s:∀a,W a->W' a):Kp W' H H':=⟨λb o e n=>h.out b o e λz=>n (s b z),h.tup⟩
section
variable {P:XX}{w:X6}{W W':Addr->Prop}{H H':Hp}
mutual
theorem az.keep (k:Kp W H H'):∀{d:D} {v:V},az P w W H d v->az P w W H' d v
 |.cj,_,h=>h
 |.bl _,_,h=>h
 |.int _,_,h=>h
 |.str _,_,h=>h
 |.obj _,_,h=>h
 |.tup ds,_,⟨a,vs,e,t,r⟩=>⟨a,vs,e,k.tup a vs t,ag.keep k r⟩
 |.lst ds,_,⟨a,vs,e,t,n,r⟩=>⟨a,vs,e,k.out a _ t n,n,ag.keep k r⟩
 |.dT ks ds,_,⟨a,vs,e,t,l,n,r⟩=>⟨a,vs,e,k.out a _ t n,l,n,ag.keep k r⟩
 |.dK ks ds,_,⟨a,vs,e,t,l,n,r⟩=>⟨a,vs,e,k.out a _ t n,l,n,ag.keep k r⟩
 |.sT ts,_,⟨a,e,⟨b7,t,r,z⟩,n⟩=>⟨a,e,⟨b7,k.out a _ t n,λx hx=>k.tup _ _ (r x hx),z⟩,n⟩
 |.ob φ,_,⟨a,e,⟨t,z⟩,n⟩=>⟨a,e,⟨k.out a _ t n,z⟩,n⟩
theorem ag.keep (k:Kp W H H'):∀{ds:List D} {vs:List V},ag P w W H ds vs->ag P w W H' ds vs
 |[],_,h=>h
 |d::ds,_,⟨v,r,e,h1,h2⟩=>⟨v,r,e,az.keep k h1,ag.keep k h2⟩
end
mutual
theorem az.aQ (s:∀a,W' a->W a):∀{d:D} {v:V},az P w W H d v->az P w W' H d v
 |.cj,_,h=>h
 |.bl _,_,h=>h
 |.int _,_,h=>h
 |.str _,_,h=>h
 |.obj _,_,h=>h
 |.tup ds,_,⟨a,vs,e,t,r⟩=>⟨a,vs,e,t,ag.aQ s r⟩
 |.lst ds,_,⟨a,vs,e,t,n,r⟩=>⟨a,vs,e,t,λz=>n (s a z),ag.aQ s r⟩
 |.dT ks ds,_,⟨a,vs,e,t,l,n,r⟩=>⟨a,vs,e,t,l,λz=>n (s a z),ag.aQ s r⟩
 |.dK ks ds,_,⟨a,vs,e,t,l,n,r⟩=>⟨a,vs,e,t,l,λz=>n (s a z),ag.aQ s r⟩
 |.sT ts,_,⟨a,e,t,n⟩=>⟨a,e,t,λz=>n (s a z)⟩
 |.ob φ,_,⟨a,e,t,n⟩=>⟨a,e,t,λz=>n (s a z)⟩
theorem ag.aQ (s:∀a,W' a->W a):∀{ds:List D} {vs:List V},ag P w W H ds vs->ag P w W' H ds vs
 |[],_,h=>h
 |d::ds,_,⟨v,r,e,h1,h2⟩=>⟨v,r,e,az.aQ s h1,ag.aQ s h2⟩
end
mutual
theorem az.flat:∀{d:D} {v:V},d.flat=true->az P w W H d v->az P w W' H d v
 |.cj,_,_,h=>h
 |.bl _,_,_,h=>h
 |.int _,_,_,h=>h
 |.str _,_,_,h=>h
 |.obj _,_,_,h=>h
 |.tup ds,_,f,⟨a,vs,e,t,r⟩=>⟨a,vs,e,t,ag.flat (by simpa[D.flat] using f) r⟩
 |.lst ds,_,f,_=>by simp[D.flat]at f
 |.dT ks ds,_,f,_=>by simp[D.flat]at f
 |.dK ks ds,_,f,_=>by simp[D.flat]at f
 |.sT ts,_,f,_=>by simp[D.flat]at f
 |.ob φ,_,f,_=>by simp[D.flat]at f
theorem ag.flat:∀{ds:List D} {vs:List V},D.cf ds=true->ag P w W H ds vs->ag P w W' H ds vs
 |[],_,_,h=>h
 |d::ds,_,f,⟨v,r,e,h1,h2⟩=>by
  have f':(d.flat&&D.cf ds)=true:=f;rw[Yu]at f';exact⟨v,r,e,az.flat f'.1 h1,ag.flat f'.2 h2⟩
end
theorem az.same (s:ar H H'){d:D}{v:V}(h:az P w W H d v):az P w W H' d v:=h.keep s.kp
theorem ag.same (s:ar H H'){ds:List D}{vs:List V}(h:ag P w W H ds vs):ag P w W H' ds vs:=h.keep s.kp
theorem ag.length:∀{ds:List D} {vs:List V},ag P w W H ds vs->vs.length=ds.length
 |[],_,h=>by rw[show _=[] from h];rfl
 |d::ds,_,⟨v,r,e,h1,h2⟩=>by rw[e,Yt,Yt,ag.length h2]
theorem ag.get:∀{ds:List D} {vs:List V} {i:Nat} {d:D},ag P w W H ds vs->ds[i]?=some d->∃v,vs[i]?=some v/\az P w W H d v
 |[],_,_,_,_,e=>by simp at e
 |d::ds,_,0,_,⟨v,r,e,h1,h2⟩,e'=>by simp at e';subst e' e;exact⟨v,by simp,h1⟩
 |d::ds,_,i+1,_,⟨v,r,e,h1,h2⟩,e'=>by
  subst e;obtain⟨u,e1,e2⟩:=ag.get (i:=i) h2 (by simpa using e')
  exact⟨u,by simpa using e1,e2⟩
theorem ag.append:∀{ds ds':List D} {vs vs':List V},ag P w W H ds vs->ag P w W H ds' vs'->ag P w W H (ds++ds') (vs++vs')
 |[],_,_,_,h,h'=>by rw[show _=[] from h];exact h'
 |d::ds,_,_,_,⟨v,r,e,h1,h2⟩,h'=>by subst e;exact⟨v,_,rfl,h1,ag.append h2 h'⟩
theorem ag.one {d:D}{v:V}(h:az P w W H d v):ag P w W H [d] [v]:=⟨v,[],rfl,h,rfl⟩
theorem ag.take:∀{ds:List D} {vs:List V} (n:Nat),ag P w W H ds vs->ag P w W H (ds.take n) (vs.take n)
 |[],_,n,h=>by rw[show _=[] from h];simp[ag]
 |d::ds,_,0,_=>by simp[ag]
 |d::ds,_,n+1,⟨v,r,e,h1,h2⟩=>by subst e;exact⟨v,_,rfl,h1,ag.take n h2⟩
theorem ag.drop:∀{ds:List D} {vs:List V} (n:Nat),ag P w W H ds vs->ag P w W H (ds.drop n) (vs.drop n)
 |[],_,n,h=>by rw[show _=[] from h];simp[ag]
 |d::ds,_,0,h=>h
 |d::ds,_,n+1,⟨v,r,e,h1,h2⟩=>by subst e;exact ag.drop n h2
end
open PySem.SeqAt
abbrev Dm (W:Addr->Prop)(H:Hp):Prop:=∀a,W a->H a≠none
theorem Dm.same {W:Addr->Prop}{H H':Hp}(d:Dm W H)(s:ar H H'):Dm W H':=λa h e=>d a h (s.free e)
abbrev Rp (X:Cx)(W:Addr->Prop)(H:Hp)(d:D)(v:V):Prop:=az X.prog X.w W H d v
abbrev jx (X:Cx)(W:Addr->Prop)(H:Hp)(ds:List D)(vs:List V):Prop:=ag X.prog X.w W H ds vs
def Up (X:Cx)(f:D->Option D):V->Hp->VK->Prop:=λx H Q=>∃W d1 d,Dm W H/\Rp X W H d1 x/\f d1=some d/\∀v H',ar H H'->Rp X W H' d v->Q v H'
def Uo (X:Cx)(f:D->D->Option D):R2:=λx y H Q=>∃W d1 d2 d,Dm W H/\Rp X W H d1 x/\Rp X W H d2 y/\f d1 d2=some d/\∀v H',ar H H'->Rp X W H' d v->Q v H'
def VG (X:Cx)(f:List D->Option D):List V->Hp->VK->Prop:=λxs H Q=>∃W ds d,Dm W H/\jx X W H ds xs/\f ds=some d/\∀v H',ar H H'->Rp X W H' d v->Q v H'
abbrev bH (X:Cx)(f:XO->XO->Sem XO)(g:D->D->Option D):Prop:=jy X f (Uo X g)
abbrev bo (X:Cx)(f:XO)(g:List D->Option D):Prop:=dW X f (VG X g)
section
variable {X:Cx}{W:Addr->Prop}{H:Hp}
theorem F8 {p:Addr}(d:Dm W H)(n:H p=none):¬ W p:=λz=>d p z n
theorem Rp.rB {p:Addr}{vs:List V}{ds:List D}(d:Dm W H)(n:H p=none)(r:jx X W H ds vs):Rp X W (upd H p (.lst vs)) (.lst ds) (.ref p) :=
 ⟨p,vs,rfl,ai,F8 d n,r.same (ar.new n)⟩
theorem Rp.Ja {p:Addr}{vs:List V}{ds:List D}(n:H p=none)(r:jx X W H ds vs):Rp X W (upd H p (.tup vs)) (.tup ds) (.ref p) :=
 ⟨p,vs,rfl,ai,r.same (ar.new n)⟩
theorem jx.nil:jx X W H [] []:=rfl
theorem jx.cons {d:D}{ds:List D}{v:V}{vs:List V}(h:Rp X W H d v)(r:jx X W H ds vs):jx X W H (d::ds) (v::vs):=⟨v,vs,rfl,h,r⟩
end
def D.KR:D->Option Int
 |.int i=>some i
 |_=>none
def D.KQ:D->Option (List D)
 |.lst a=>some a
 |_=>none
def D.KP:D->Option (List D)
 |.tup a=>some a
 |_=>none
def D.EM:D->Bool
 |.cj=>true
 |_=>false
theorem D.jS {d:D}{i:Int}(h:d.KR=some i):d=.int i:=by cases d <;> first|(cases h;rfl)|cases h
theorem D.nu {d:D}{i:List D}(h:d.KQ=some i):d=.lst i:=by cases d <;> first|(cases h;rfl)|cases h
theorem D.Dg {d:D}{i:List D}(h:d.KP=some i):d=.tup i:=by cases d <;> first|(cases h;rfl)|cases h
theorem D.uh {d:D}(h:d.EM=true):d=.cj:=by cases d <;> first|rfl|cases h
theorem D.Gw {d:D}:d=.cj↔d.EM=true:=⟨λe=>by rw[e];rfl,D.uh⟩
def rE (f:Int->Int->Option D)(a b:D):Option D:=match a.KR,b.KR with
 |some i,some j=>f i j
 |_,_=>none
theorem kY {f:Int->Int->Option D}{a b d:D}(h:rE f a b=some d):∃i j,a=.int i/\b=.int j/\f i j=some d:=by
 unfold rE at h;cases ha:a.KR with
 |none=>rw[ha]at h;cases h
 |some i =>
  cases hb:b.KR with
  |none=>rw[ha,hb]at h;cases h
  |some j=>rw[ha,hb]at h;exact⟨i,j,D.jS ha,D.jS hb,h⟩
def Kq (f:D->D->Option D)(g:List D->List D->Option D)(a b:D):Option D:=match a.KQ,b.KQ with
 |some i,some j=>g i j
 |_,_=>f a b
theorem zF {f:D->D->Option D}{g:List D->List D->Option D}{a b d:D}(h:Kq f g a b=some d):(∃i j,a=.lst i/\b=.lst j/\g i j=some d)\/f a b=some d:=by
 unfold Kq at h;cases ha:a.KQ with
 |none=>rw[ha]at h;exact .inr h
 |some i =>
  cases hb:b.KQ with
  |none=>rw[ha,hb]at h;exact .inr h
  |some j=>rw[ha,hb]at h;exact .inl ⟨i,j,D.nu ha,D.nu hb,h⟩
def Hh:D->D->Option D:=Kq (rE λi j=>some (.int (i+j))) λa b=>if a.length+b.length<=X3 then some (.lst (a++b)) else none
def Tp:D->D->Option D:=rE λi j=>some (.int (i-j))
instance (i j:Int):Decidable (Ax i j):=by unfold Ax;infer_instance
instance (i j:Int):Decidable (w_ i j):=by unfold w_;infer_instance
def Ts:D->D->Option D:=rE λi j=>if Ax i j then some (.int (i*j)) else none
def LF:D->D->Option D:=rE λi j=>if w_ i j then some (.int (i ^ j.toNat)) else none
def Tr:D->Option D
 |.int i=>some (.int (-i))
 |_=>none
section
variable {X:Cx}
theorem gw {c:Prop}[Decidable c]{α:Type}{a b:α}(h:(if c then some a else none)=some b):c/\b=a:=by
 by_cases hc:c
 ·rw[if_pos hc]at h;cases h;exact⟨hc,rfl⟩
 ·rw[if_neg hc]at h;cases h
theorem HW {f:XO->XO->Sem XO}{C:Int->Int->Prop}{g:Int->Int->V}{h:Int->Int->D}{F:Int->Int->Option D}(ho:jy X f (rI C g))(hF:∀i j d,F i j=some d->C i j/\d=h i j)
  (hg:∀(W:Addr->Prop) (H:Hp) i j,Rp X W H (h i j) (g i j)):bH X f (rE F):=by
 intro pins s σ H x y v u Q I rx ry hh;obtain⟨W,d1,d2,d,hd,r1,r2,e,q⟩:=hh;obtain⟨i,j,rfl,rfl,e⟩:=kY e;obtain⟨c,rfl⟩:=hF _ _ _ e;cases r1;cases r2;exact ho pins s σ H _ _ v u Q I rx ry ⟨i,j,rfl,rfl,c,q _ _ (ar.refl _) (hg W H i j)⟩
theorem Ck {f:XO->XO->Sem XO}{g:Int->Int->V}{h:Int->Int->D}(ho:jy X f (EK g))
  (hg:∀(W:Addr->Prop) (H:Hp) i j,Rp X W H (h i j) (g i j)):bH X f (rE λi j=>some (h i j)):=by
 intro pins s σ H x y v u Q I rx ry hh;obtain⟨W,d1,d2,d,hd,r1,r2,e,q⟩:=hh;obtain⟨i,j,rfl,rfl,e⟩:=kY e;cases e;cases r1;cases r2;exact ho pins s σ H _ _ v u Q I rx ry ⟨i,j,rfl,rfl,q _ _ (ar.refl _) (hg W H i j)⟩
theorem a7:bH X (ZR .Sub) Tp:=Ck (h:=λi j=>.int (i-j)) Cf λ_ _ _ _=>rfl
theorem FW:bH X (ZR .Mult) Ts:=HW (h:=λi j=>.int (i*j)) rf (λ_ _ _ e=>gw e) λ_ _ _ _=>rfl
theorem lY:bH X (ZR .Pow) LF:=HW (h:=λi j=>.int (i ^ j.toNat)) Cg (λ_ _ _ e=>gw e) λ_ _ _ _=>rfl
theorem jB:Pk X (unaryOp .USub) (Up X Tr):=by
 intro pins s σ H x v Q I rx h;obtain⟨W,d1,d,hd,r1,e,q⟩:=h;cases d1 with
 |int i=>cases e;cases r1;exact vA pins s σ H _ v Q I rx ⟨i,rfl,q _ _ (ar.refl _) rfl⟩
 |_=>cases e
end
def Eh (p:Int->Int->Bool):D->D->Option D:=rE λi j=>some (.bl (p i j))
abbrev Qq:D->D->Option D:=Eh λi j=>decide (i<j)
abbrev WV:D->D->Option D:=Eh λi j=>decide (i<=j)
abbrev oY:D->D->Option D:=Eh λi j=>decide (j<i)
abbrev WW:D->D->Option D:=Eh λi j=>decide (j<=i)
section
variable {X:Cx}
theorem lZ {p:Int->Int->Bool}{f:XO->XO->Sem XO}(ho:jy X f (EK λi j=>.bl (p i j))):bH X f (Eh p):=Ck (h:=λi j=>.bl (p i j)) ho λ_ _ _ _=>rfl
theorem eV:bH X (YS .Lt) Qq:=lZ Ng
theorem rg:bH X (YS .LtE) WV:=lZ Nh
theorem vW:bH X (YS .Gt) oY:=lZ HV
theorem Cm:bH X (YS .GtE) WW:=lZ Ni
end
mutual
def D.pd:D->PyData
 |.cj=>.none
 |.bl b=>.bool b
 |.int i=>.int i
 |.str x=>.str x
 |.tup ds=>.tuple (D.gQ ds)
 |.lst ds=>.list (D.gQ ds)
 |_=>.dict []
def D.gQ:List D->List PyData
 |[]=>[]
 |d::ds=>d.pd::D.gQ ds
end
abbrev D.vF (d:D):Bool:=shaped d.pd
mutual
theorem bL {X:Cx}{pins:List (Addr×Obj)}{σ:St}{H:Hp}{s:XQ}(I:Inv X pins σ H s){W:Addr->Prop}:∀{d:D} {v:V} {u:XO},Rp X W H d v->RelV v u->d.pd.canLay0=true->∃as,Reads s.heap u d.pd as
 |.cj,_,_,h,r,_=>by cases h;cases r;exact⟨_,.none⟩
 |.bl b,_,_,h,r,_=>by cases h;cases r;exact⟨_,.bool b⟩
 |.int i,_,_,h,r,_=>by cases h;obtain⟨t,rfl⟩:=r;exact⟨_,.int i t⟩
 |.str x,_,_,h,r,_=>by cases h;obtain⟨t,rfl⟩:=r;exact⟨_,.str x t⟩
 |.tup ds,_,_,h,r,c=>by
  obtain⟨a,vs,rfl,e,q⟩:=h;cases r;obtain⟨its,rv,⟨o,ho,hc,n,hd⟩,hz⟩:=I.tuple (kh.of e);obtain⟨as,ha⟩:=gX I q rv (by simpa[D.pd,Y6] using c)
  exact⟨_,.tuple ho hc hd (by simpa using ha)⟩
 |.lst ds,_,_,h,r,c=>by
  obtain⟨a,vs,rfl,e,_,q⟩:=h;cases r;obtain⟨z,its,n,rv,e'⟩:=I.a5 a _ e;obtain⟨as,ha⟩:=gX I q rv (by simpa[D.pd,Y6] using c)
  exact⟨_,.list e' rfl rfl (by simpa using ha)⟩
 |.obj _,_,_,_,_,c=>by simp[D.pd,Y6]at c
 |.dT _ _,_,_,_,_,c=>by simp[D.pd,Y6]at c
 |.dK _ _,_,_,_,_,c=>by simp[D.pd,Y6]at c
 |.sT _,_,_,_,_,c=>by simp[D.pd,Y6]at c
 |.ob _,_,_,_,_,c=>by simp[D.pd,Y6]at c
theorem gX {X:Cx}{pins:List (Addr×Obj)}{σ:St}{H:Hp}{s:XQ}(I:Inv X pins σ H s){W:Addr->Prop}:∀{ds:List D} {vs:List V} {us:List XO},jx X W H ds vs->Vals vs us->Z5 (D.gQ ds)=true->∃as,ReadsAll s.heap us (D.gQ ds) as
 |[],_,_,h,r,_=>by
  rw[show _=[] from h]at r
  cases r;exact⟨_,.nil⟩
 |d::ds,_,_,⟨v,vr,e,h1,h2⟩,r,c=>by
  subst e;have c':(d.pd.canLay0&&Z5 (D.gQ ds))=true:=c;rw[Yu]at c';cases r with
  |cons r1 r2 =>
   obtain⟨as,ha⟩:=bL I h1 r1 c'.1;obtain⟨bs,hb⟩:=gX I h2 r2 c'.2;exact⟨_,.cons ha hb⟩
end
def Pd (a b:D):Option D:=if a.vF=true/\b.vF=true then some (.bl (Y5 a.pd b.pd)) else none
def Mk (a b:D):Option D:=if a.vF=true/\b.vF=true then some (.bl (!Y5 a.pd b.pd)) else none
section
variable {X:Cx}
theorem dc (hu:X.A.units+64<Z7):bH X (YS .Eq) Pd:=by
 intro pins s σ H x y v u Q I rx ry h;obtain⟨W,d1,d2,d,hd,r1,r2,e,q⟩:=h;obtain⟨⟨s1,s2⟩,rfl⟩:=gw e;obtain⟨as,ra⟩:=bL I r1 rx (YI s1);obtain⟨bs,rb⟩:=bL I r2 ry (YI s2);exact compareEq_shaped ra rb s1 s2 hu ⟨.bl _,H,I,rfl,q _ _ (ar.refl _) rfl⟩
theorem mV (hu:X.A.units+64<Z7):bH X (YS .NotEq) Mk:=by
 intro pins s σ H x y v u Q I rx ry h;obtain⟨W,d1,d2,d,hd,r1,r2,e,q⟩:=h;obtain⟨⟨s1,s2⟩,rfl⟩:=gw e;obtain⟨as,ra⟩:=bL I r1 rx (YI s1);obtain⟨bs,rb⟩:=bL I r2 ry (YI s2);exact compareNe_shaped ra rb s1 s2 hu ⟨.bl _,H,I,rfl,q _ _ (ar.refl _) rfl⟩
def Tu (a b:D):Option D:=match b.EM with
 |true=>some (.bl a.EM)
 |false=>none
def Pb (a b:D):Option D:=match b.EM with
 |true=>some (.bl (!a.EM))
 |false=>none
theorem Rp.F7 {W:Addr->Prop}{H:Hp}{d:D}{v:V}(h:Rp X W H d v):v=.cj↔d=.cj:=by
 cases d with
 |cj=>cases h;simp
 |bl b=>cases h;simp
 |int i=>cases h;simp
 |str x=>cases h;simp
 |obj a=>cases h;simp
 |tup ds=>obtain⟨a,vs,rfl,_⟩:=h;simp
 |lst ds=>obtain⟨a,vs,rfl,_⟩:=h;simp
 |dT ks ds=>obtain⟨a,vs,rfl,_⟩:=h;simp
 |dK ks ds=>obtain⟨a,vs,rfl,_⟩:=h;simp
 |sT ts=>obtain⟨a,rfl,_⟩:=h;simp
 |ob φ=>obtain⟨a,rfl,_⟩:=h;simp
theorem ui {b d e:D}(h:(match b.EM with|true=>some d|false=>none)=some e):b=.cj/\e=d:=by
 cases q:b.EM with
 |true=>rw[q]at h;cases h;exact⟨D.uh q,rfl⟩
 |false=>rw[q]at h;cases h
theorem Rp.xQ {W:Addr->Prop}{H:Hp}{d:D}{v:V}(h:Rp X W H d v):decide (v=.cj)=d.EM:=by
 have q:=h.F7.trans D.Gw;cases e:d.EM with
 |true=>exact decide_eq_true (q.mpr e)
 |false=>exact decide_eq_false λz=>by rw[q.mp z]at e;cases e
theorem rh:bH X (YS .Is) Tu:=by
 intro pins s σ H x y v u Q I rx ry h;obtain⟨W,d1,d2,d,hd,r1,r2,e,q⟩:=h;obtain⟨rfl,rfl⟩:=ui e;cases r2;exact J1 pins s σ H _ _ v u Q I rx ry ⟨rfl,q _ _ (ar.refl _) (congrArg V.bl r1.xQ)⟩
theorem Ci:bH X (YS .IsNot) Pb:=by
 intro pins s σ H x y v u Q I rx ry h;obtain⟨W,d1,d2,d,hd,r1,r2,e,q⟩:=h;obtain⟨rfl,rfl⟩:=ui e;cases r2;exact FV pins s σ H _ _ v u Q I rx ry ⟨rfl,q _ _ (ar.refl _) (congrArg (λb=>V.bl (!b)) r1.xQ)⟩
end
noncomputable def LI:D->D->Option Bool
 |a,.lst ds=>if a.vF=true/\(D.lst ds).vF=true then some ((D.gQ ds).any λy=>Y5 y a.pd) else none
 |a,.tup ds=>if a.vF=true/\(D.tup ds).vF=true then some ((D.gQ ds).any λy=>Y5 y a.pd) else none
 |_,_=>none
def Tw (a b:D):Option D:=(LI a b).map .bl
def wL (a b:D):Option D:=(LI a b).map λc=>.bl (!c)
theorem lQ {ds:List D}{n:PyData}(hn:n=.list (D.gQ ds)\/n=.tuple (D.gQ ds))(h:shaped n=true):Z5 (D.gQ ds)=true/\Ze (D.gQ ds)<=64:=by
 have h1:=YI h;have h2:=depth_of_shaped h;rcases hn with rfl|rfl
 ·refine⟨by simpa[Y6] using h1,?_⟩
  have:ZK (.list (D.gQ ds))=Ze (D.gQ ds)+1:=by simp[ZK]
  lia
 ·refine⟨by simpa[Y6] using h1,?_⟩
  have:ZK (.tuple (D.gQ ds))=Ze (D.gQ ds)+1:=by simp[ZK]
  lia
section
variable {X:Cx}
theorem Cj (hu:X.A.units+64+1<Z7):bH X (YS .In) Tw:=by
 intro pins s σ H x y v u Q I rx ry h;obtain⟨W,d1,d2,d,hd,r1,r2,e,q⟩:=h;cases d2 with
 |lst ds =>
  obtain⟨b,e1,rfl⟩:=X9.mp e;obtain⟨⟨s1,s2⟩,rfl⟩:=gw e1;obtain⟨as,ra⟩:=bL I r1 rx (YI s1);obtain⟨bs,rb⟩:=bL I r2 ry (YI s2);obtain⟨c1,c2⟩:=lQ (.inl rfl) s2;exact in_list_reads rb ra c1 (YI s1) (by have:=aaA (Ze (D.gQ ds)) d1.pd.depth;lia) ⟨.bl _,H,I,rfl,q _ _ (ar.refl _) rfl⟩
 |tup ds =>
  obtain⟨b,e1,rfl⟩:=X9.mp e;obtain⟨⟨s1,s2⟩,rfl⟩:=gw e1;obtain⟨as,ra⟩:=bL I r1 rx (YI s1);obtain⟨bs,rb⟩:=bL I r2 ry (YI s2);obtain⟨c1,c2⟩:=lQ (.inr rfl) s2;exact in_tuple_reads rb ra c1 (YI s1) (by have:=aaA (Ze (D.gQ ds)) d1.pd.depth;lia) ⟨.bl _,H,I,rfl,q _ _ (ar.refl _) rfl⟩
 |_=>cases e
theorem zq (hu:X.A.units+64+1<Z7):bH X (YS .NotIn) wL:=by
 intro pins s σ H x y v u Q I rx ry h;obtain⟨W,d1,d2,d,hd,r1,r2,e,q⟩:=h;cases d2 with
 |lst ds =>
  obtain⟨b,e1,rfl⟩:=X9.mp e;obtain⟨⟨s1,s2⟩,rfl⟩:=gw e1;obtain⟨as,ra⟩:=bL I r1 rx (YI s1);obtain⟨bs,rb⟩:=bL I r2 ry (YI s2);obtain⟨c1,c2⟩:=lQ (.inl rfl) s2;exact notIn_list_reads rb ra c1 (YI s1) (by have:=aaA (Ze (D.gQ ds)) d1.pd.depth;lia) ⟨.bl _,H,I,rfl,q _ _ (ar.refl _) rfl⟩
 |tup ds =>
  obtain⟨b,e1,rfl⟩:=X9.mp e;obtain⟨⟨s1,s2⟩,rfl⟩:=gw e1;obtain⟨as,ra⟩:=bL I r1 rx (YI s1);obtain⟨bs,rb⟩:=bL I r2 ry (YI s2);obtain⟨c1,c2⟩:=lQ (.inr rfl) s2;exact notIn_tuple_reads rb ra c1 (YI s1) (by have:=aaA (Ze (D.gQ ds)) d1.pd.depth;lia) ⟨.bl _,H,I,rfl,q _ _ (ar.refl _) rfl⟩
 |_=>cases e
def Ae (a b:D):Option D:=match b.KR with
 |some i=>match a.KQ with
  |some ds=>r_ ds i
  |none=>match a.KP with
   |some ds=>r_ ds i
   |none=>none
 |none=>none
theorem Ee {a b d:D}(h:Ae a b=some d):∃ds i,(a=.lst ds\/a=.tup ds)/\b=.int i/\r_ ds i=some d:=by
 unfold Ae at h;cases hb:b.KR with
 |none=>rw[hb]at h;cases h
 |some i =>
  rw[hb]at h;cases ha:a.KQ with
  |some ds=>rw[ha]at h;exact⟨ds,i,.inl (D.nu ha),D.jS hb,h⟩
  |none =>
   rw[ha]at h;cases ht:a.KP with
   |some ds=>rw[ht]at h;exact⟨ds,i,.inr (D.Dg ht),D.jS hb,h⟩
   |none=>rw[ht]at h;cases h
theorem jx.r_ {W:Addr->Prop}{H:Hp}{ds:List D}{vs:List V}{i:Int}{d:D}(h:jx X W H ds vs)(e:L2.r_ ds i=some d):∃v,L2.r_ vs i=some v/\Rp X W H d v:=by
 unfold L2.r_ at *
 rw[h.length];cases q:zM ds.length i with
 |none=>rw[q]at e;cases e
 |some j =>
  rw[q]at e;exact ag.get h e
theorem KN:HA X (Uo X Ae):=by
 intro value slice pins s σ H x y v u Q I rx ry h hs;obtain⟨W,d1,d2,d,hd,r1,r2,e,q⟩:=h;obtain⟨ds,i,h,rfl,e⟩:=Ee e;cases r2;rcases h with rfl|rfl
 ·obtain⟨p,vs,rfl,h1,n1,q1⟩:=r1;obtain⟨z,hz,rz⟩:=jx.r_ (X:=X) q1 e;exact fx value slice pins s σ H _ _ v u Q I rx ry ⟨p,vs,i,z,rfl,rfl,dv.of h1,hz,q _ _ (ar.refl _) rz⟩ hs
 ·obtain⟨p,vs,rfl,h1,q1⟩:=r1;obtain⟨z,hz,rz⟩:=jx.r_ (X:=X) q1 e;exact C9 value slice pins s σ H _ _ v u Q I rx ry ⟨p,vs,i,z,rfl,rfl,kh.of h1,hz,q _ _ (ar.refl _) rz⟩ hs
def cutD (xs:List D)(lo hi:Option Int):List D:=(xs.drop (HT.mI xs.length 0 lo)).take (HT.mI xs.length xs.length hi-HT.mI xs.length 0 lo)
def Qp:D->Option Int->Option Int->Option D
 |.lst ds,lo,hi=>some (.lst (cutD ds lo hi))
 |_,_,_=>none
def Tt:List D->Option D
 |[.lst ds]=>some (.int ds.length)
 |[.tup ds]=>some (.int ds.length)
 |_=>none
theorem bj:bo X (.builtin "len") Tt:=by
 intro pins s σ H xs us Q I r h;obtain⟨W,ds,d,hd,r1,e,q⟩:=h
 match ds,e with
 |[.lst es],e =>
  cases e;obtain⟨v,r',rfl,⟨p,vs,rfl,h1,n1,q1⟩,hr⟩:=r1;cases hr;refine kg pins s σ H _ us Q I r ⟨p,vs,rfl,.inl (dv.of h1),?_⟩;rw[q1.length];exact q _ _ (ar.refl _) rfl
 |[.tup es],e =>
  cases e;obtain⟨v,r',rfl,⟨p,vs,rfl,h1,q1⟩,hr⟩:=r1;cases hr;refine kg pins s σ H _ us Q I r ⟨p,vs,rfl,.inr (kh.of h1),?_⟩;rw[q1.length];exact q _ _ (ar.refl _) rfl
def dList:List D->Option D
 |[.lst ds]=>some (.lst ds)
 |[.tup ds]=>some (.lst ds)
 |_=>none
def Ed:List D->Option D
 |[.int i,.int j]=>some (.int (if j>i then j else i))
 |_=>none
def yu:List D->Option D
 |[.int i,.int j]=>some (.int (if j<i then j else i))
 |_=>none
theorem oh {W:Addr->Prop}{H:Hp}{a b:D}{xs:List V}(h:jx X W H [a,b] xs):∃x y,xs=[x,y]/\Rp X W H a x/\Rp X W H b y:=by
 obtain⟨x,r,rfl,hx,y,r',rfl,hy,hr⟩:=h;cases hr;exact⟨x,y,rfl,hx,hy⟩
theorem qr {W:Addr->Prop}{H:Hp}{a:D}{xs:List V}(h:jx X W H [a] xs):∃x,xs=[x]/\Rp X W H a x:=by
 obtain⟨x,r,rfl,hx,hr⟩:=h;cases hr;exact⟨x,rfl,hx⟩
theorem wW (hc:X.calm=true):bo X (.builtin "max") Ed:=by
 intro pins s σ H xs us Q I r h;obtain⟨W,ds,d,hd,r1,e,q⟩:=h
 match ds,e with
 |[.int i,.int j],e =>
  cases e;obtain⟨x,y,rfl,hx,hy⟩:=oh r1;cases hx;cases hy;exact qi hc pins s σ H _ us Q I r ⟨i,j,rfl,q _ _ (ar.refl _) rfl⟩
theorem wV (hc:X.calm=true):bo X (.builtin "min") yu:=by
 intro pins s σ H xs us Q I r h;obtain⟨W,ds,d,hd,r1,e,q⟩:=h
 match ds,e with
 |[.int i,.int j],e =>
  cases e;obtain⟨x,y,rfl,hx,hy⟩:=oh r1;cases hx;cases hy;exact An hc pins s σ H _ us Q I r ⟨i,j,rfl,q _ _ (ar.refl _) rfl⟩
def Tv:List D->Option D
 |[.int i]=>some (.int i)
 |[.bl k]=>some (.int (if k then 1 else 0))
 |_=>none
theorem qk:bo X (.type "int") Tv:=by
 intro pins s σ H xs us Q I r h;obtain⟨W,ds,d,hd,r1,e,q⟩:=h
 match ds,e with
 |[.int i],e =>
  cases e;obtain⟨x,rfl,hx⟩:=qr r1;cases hx;exact qj pins s σ H _ us Q I r (.inl ⟨i,rfl,q _ _ (ar.refl _) rfl⟩)
 |[.bl k],e =>
  cases e;obtain⟨x,rfl,hx⟩:=qr r1;cases hx;exact qj pins s σ H _ us Q I r (.inr ⟨k,rfl,q _ _ (ar.refl _) rfl⟩)
def Tx:List D->Option D
 |[.int i]=>some (.int (if i<0 then -i else i))
 |_=>none
theorem Aq:bo X (.builtin "abs") Tx:=by
 intro pins s σ H xs us Q I r h;obtain⟨W,ds,d,hd,r1,e,q⟩:=h
 match ds,e with
 |[.int i],e =>
  cases e;obtain⟨x,rfl,hx⟩:=qr r1;cases hx;exact Ep pins s σ H _ us Q I r ⟨i,rfl,q _ _ (ar.refl _) rfl⟩
end
abbrev AL:=List (Option D)
abbrev LY:=AL->(D->Prop)->Prop
abbrev u_:=AL->(List D->Prop)->Prop
def w9 (P:XX)(w:X6)(W:Addr->Prop)(H:Hp)(σ:St)(ρ:AL):Prop:=∀(i:Nat) (d:D),ρ[i]?=some (some d)->∃v,σ[i]?=some (some v)/\az P w W H d v
theorem w9.keep {P:XX}{w:X6}{W:Addr->Prop}{H H':Hp}{σ:St}{ρ:AL}(e:w9 P w W H σ ρ)(k:Kp W H H'):w9 P w W H' σ ρ:=λi d h=>by
 obtain⟨v,h1,h2⟩:=e i d h;exact⟨v,h1,h2.keep k⟩
theorem w9.same {P:XX}{w:X6}{W:Addr->Prop}{H H':Hp}{σ:St}{ρ:AL}(e:w9 P w W H σ ρ)(s:ar H H'):w9 P w W H' σ ρ:=e.keep s.kp
theorem PE.pre {X:Cx}{e:Expr}{t t':TE}(h:PE X e t)(k:∀σ H Q,t' σ H Q->t σ H Q):PE X e t':=λpins s σ H Q I q=>h pins s σ H Q I (k σ H Q q)
theorem PT.pre {X:Cx}{e:Expr}{t t':TT}(h:PT X e t)(k:∀σ H Q,t' σ H Q->t σ H Q):PT X e t':=λpins s σ H Q I q=>h pins s σ H Q I (k σ H Q q)
theorem PA.pre {X:Cx}{es:List Expr}{t t':TA}(h:PA X es t)(k:∀σ H Q,t' σ H Q->t σ H Q):PA X es t':=λpos pins s σ H Q I q=>h pos pins s σ H Q I (k σ H Q q)
structure Mr (P:XX)(w:X6)(W:Addr->Prop)(σ:St)(H:Hp)(ρ:AL):Prop where
 dm:Dm W H
 env:w9 P w W H σ ρ
abbrev SE (X:Cx):(Addr->Prop)->St->Hp->AL->Prop:=Mr X.prog X.w
theorem Mr.same {P:XX}{w:X6}{W:Addr->Prop}{σ:St}{H H':Hp}{ρ:AL}(e:Mr P w W σ H ρ)(s:ar H H'):Mr P w W σ H' ρ:=⟨e.dm.same s,e.env.same s⟩
def tD (X:Cx)(φ:LY):TE:=λσ H Q=>∃W ρ,SE X W σ H ρ/\φ ρ λd=>∀v H',ar H H'->Rp X W H' d v->Q v H'
def MI (X:Cx)(φ:u_):TA:=λσ H Q=>∃W ρ,SE X W σ H ρ/\φ ρ λds=>∀vs H',ar H H'->jx X W H' ds vs->Q vs H'
structure PV (X:Cx)(e:Expr)(φ:LY):Prop where
 mono:∀ρ R R',(∀d,R d->R' d)->φ ρ R->φ ρ R'
 pe:PE X e (tD X φ)
structure Pn (X:Cx)(es:List Expr)(φ:u_):Prop where
 mono:∀ρ R R',(∀d,R d->R' d)->φ ρ R->φ ρ R'
 pa:PA X es (MI X φ)
section
variable {X:Cx}{a e:Expr}{es:List Expr}{φ:LY}{φs:u_}{pos:Pos}{W:Addr->Prop}{σ:St}{H:Hp}{ρ:AL}
theorem tD.of (h:PV X e φ)(se:SE X W σ H ρ){R:D->Prop}{Q:VK}(hr:φ ρ R)(k:∀d v H',R d->ar H H'->Rp X W H' d v->Q v H'):tD X φ σ H Q :=
 ⟨W,ρ,se,h.mono ρ _ _ (λd hd v H' s r=>k d v H' hd s r) hr⟩
theorem MI.of (h:Pn X es φs)(se:SE X W σ H ρ){R:List D->Prop}{Q:List V->Hp->Prop}(hr:φs ρ R)(k:∀ds vs H',R ds->ar H H'->jx X W H' ds vs->Q vs H'):MI X φs σ H Q :=
 ⟨W,ρ,se,h.mono ρ _ _ (λd hd v H' s r=>k d v H' hd s r) hr⟩
def Td (i:Nat):LY:=λρ R=>∃d,ρ[i]?=some (some d)/\R d
theorem da {i:Nat}{x:Str}(hn:Nm X i x:=by exact vY):
  PV X (.Name x pos) (Td i):=⟨λρ R R' k fy=>by obtain⟨d,e,h⟩:=fy;exact⟨d,e,k d h⟩,(eR hn).pre λσ H Q jU=>by
 obtain⟨W,ρ,se,d,e,q⟩:=jU;obtain⟨v,h1,h2⟩:=se.env i d e;exact⟨v,h1,q v H (ar.refl _) h2⟩⟩
theorem PW.pre {t t':TT}(h:PW X e t)(k:∀σ H Q,t' σ H Q->t σ H Q):PW X e t':=λw pins s σ H Q I q=>h w pins s σ H Q I (k σ H Q q)
def Te:u_:=λ_ R=>R []
def O9 (φ:LY)(φs:u_):u_:=λρ R=>φ ρ λd=>φs ρ λds=>R (d::ds)
theorem Fs:Pn X [] Te:=⟨λρ R R' k h=>k _ h,b_.pre λσ H Q K7=>by obtain⟨W,ρ,se,q⟩:=K7;exact q [] H (ar.refl _) rfl⟩
theorem tu (ha:PV X a φ)(hr:Pn X es φs)(hs:X2 (a::es) X.env=(false,eval a X.env)::X2 es X.env:=by rfl):Pn X (a::es) (O9 φ φs) :=
 ⟨λρ R R' k h=>ha.mono ρ _ _ (λd q=>hr.mono ρ _ _ (λds q2=>k _ q2) q) h,(aW ha.pe hr.pa hs).pre λσ H Q ⟨W,ρ,se,h⟩ =>
  tD.of ha se h λd1 v1 H1 h1 s1 r1=>MI.of hr (se.same s1) h1 λds vs H2 q s2 r2=>q (v1::vs) H2 (s1.trans s2) (.cons (r1.same s2) r2)⟩
end
abbrev FD:=List D->(D->Prop)->Prop
def cA (F:FD):Prop:=∀ds R R',(∀d,R d->R' d)->F ds R->F ds R'
section
end
section
variable {X:Cx}{e:Expr}{pos:Pos}{σ:St}{H:Hp}
theorem IK.pre {ops:List aaz}{rs:List Expr}{t t':V->TE}(h:IK X ops rs t)(k:∀x σ H Q,t' x σ H Q->t x σ H Q):IK X ops rs t':=λpos pins s σ H x v Q I r q=>h pos pins s σ H x v Q I r (k x σ H Q q)
theorem vb.pre {ops:List aaz}{rs:List Expr}{t t':V->TT}(h:vb X ops rs t)(k:∀x σ H Q,t' x σ H Q->t x σ H Q):vb X ops rs t':=λpos pins s σ H x v Q I r q=>h pos pins s σ H x v Q I r (k x σ H Q q)
theorem PO.pre {e:Option Expr}{t t':TO}(h:PO X e t)(k:∀σ H Q,t' σ H Q->t σ H Q):PO X e t':=λpins s σ H Q I q=>h pins s σ H Q I (k σ H Q q)
end
abbrev NF:D->Prop:=λd=>d.flat=true
section
abbrev NL:D->Prop:=λd=>match d with | .lst ds=>D.cf ds=true|d=>d.flat=true
end
section
variable {P:XX}{w:X6}{W W':Addr->Prop}{H:Hp}
mutual
theorem az.grow (s:∀a,W' a->W a\/H a=none):∀{d:D} {v:V},az P w W H d v->az P w W' H d v
 |.cj,_,h=>h
 |.bl _,_,h=>h
 |.int _,_,h=>h
 |.str _,_,h=>h
 |.obj _,_,h=>h
 |.tup ds,_,⟨a,vs,e,t,r⟩=>⟨a,vs,e,t,ag.grow s r⟩
 |.lst ds,_,⟨a,vs,e,t,n,r⟩=>⟨a,vs,e,t,λz=>(s a z).elim n λq=>(by rw[t]at q;cases q),ag.grow s r⟩
 |.dT ks ds,_,⟨a,vs,e,t,l,n,r⟩=>⟨a,vs,e,t,l,λz=>(s a z).elim n λq=>(by rw[t]at q;cases q),ag.grow s r⟩
 |.dK ks ds,_,⟨a,vs,e,t,l,n,r⟩=>⟨a,vs,e,t,l,λz=>(s a z).elim n λq=>(by rw[t]at q;cases q),ag.grow s r⟩
 |.sT ts,_,⟨a,e,⟨b7,t,r,z⟩,n⟩=>⟨a,e,⟨b7,t,r,z⟩,λz=>(s a z).elim n λq=>(by rw[t]at q;cases q)⟩
 |.ob φ,_,⟨a,e,⟨t,z⟩,n⟩=>⟨a,e,⟨t,z⟩,λz=>(s a z).elim n λq=>(by rw[t]at q;cases q)⟩
theorem ag.grow (s:∀a,W' a->W a\/H a=none):∀{ds:List D} {vs:List V},ag P w W H ds vs->ag P w W' H ds vs
 |[],_,h=>h
 |d::ds,_,⟨v,r,e,h1,h2⟩=>⟨v,r,e,az.grow s h1,ag.grow s h2⟩
end
end
def W4 (X:Cx)(W:Addr->Prop)(J:It)(ds:List D)(H0:Hp):Prop:=∀(i:Nat) (H:Hp),Kp W H0 H ->
 (∀d,ds[i]?=some d->J.go i H/\∀x H1,J.Mt i H x H1->ar H H1/\Rp X W H1 d x)/\(ds.length<=i->J.stop i H)
def rW (X:Cx)(W:Addr->Prop)(J:It)(ds:List D)(H0:Hp):Prop:=∀W':Addr->Prop,(∀b,W' b->W b\/H0 b=none)->W4 X W' J ds H0
abbrev LX:=AL->(List D->Prop)->Prop
structure U7 (X:Cx)(tg iter:Expr)(ι:LX):Prop where
 mono:∀ρ R R',(∀d,R d->R' d)->ι ρ R->ι ρ R'
 pi:PI X tg iter λσ H R=>∃W ρ,SE X W σ H ρ/\ι ρ λds=>∀J H',ar H H'->rW X W J ds H'->R J H'
section
variable {X:Cx}{tg e:Expr}
theorem PI.pre {iter:Expr}{t t':TI}(h:PI X tg iter t)(k:∀σ H R,t' σ H R->t σ H R):PI X tg iter t':=λpins s σ H R I q=>h pins s σ H R I (k σ H R q)
theorem ug {W:Addr->Prop}{H:Hp}{p:Addr}{vs:List V}{ds:List D}(h1:H p=some (.lst vs))(n1:¬ W p)(q1:jx X W H ds vs):rW X W (Qx X.K p) ds H:=λW' hW i H' k=>by
 have h2:=k.out p _ h1 λz=>(hW p z).elim n1 λq=>by rw[h1]at q;cases q
 replace q1:=ag.grow hW q1;constructor
 ·intro d hd;obtain⟨v,hv,rv⟩:=ag.get q1 hd;refine⟨⟨vs,v,dv.of h2,hv⟩,λx H1 y=>?_⟩;obtain⟨rfl,y⟩:=y;have e:=y vs (dv.of h2);rw[hv]at e;cases e;exact⟨ar.refl _,rv.keep k⟩
 ·intro hl;exact⟨vs,dv.of h2,by rw[q1.length];exact hl⟩
def mL (lo:Int)(n:Nat):List D:=(X7 n).map λ(k:Nat)=>D.int (lo+(k:Int))
theorem kU {W:Addr->Prop}{H:Hp}{lo:Int}{n:Nat}:rW X W (Pt lo n) (mL lo n) H:=λ_ _ i H' k=>by
 constructor
 ·intro d hd;unfold mL at hd;rw[X5]at hd;have hi:i<n:=by
   by_cases h:i<n
   ·exact h
   ·rw[YQ (by simpa using h)]at hd;cases hd
  rw[Y3 hi]at hd;cases hd;refine⟨hi,λx H1 y=>?_⟩;obtain⟨rfl,rfl⟩:=y;exact⟨ar.refl _,rfl⟩
 ·intro hl;unfold mL at hl;rw[XN,Yx]at hl;exact hl
end
section
variable {X:Cx}{tg:Expr}{yQ:List Expr}
theorem PG.pre {t t':TG}(h:PG X tg t)(k:∀v σ H Q,t' v σ H Q->t v σ H Q):PG X tg t':=λpins s σ H v u Q I r q=>h pins s σ H v u Q I r (k v σ H Q q)
theorem IJ.pre {t t':IH}(h:IJ X yQ t)(k:∀v σ H Q,t' v σ H Q->t v σ H Q):IJ X yQ t':=λpins s σ H v u Q I r q=>h pins s σ H v u Q I r (k v σ H Q q)
end
theorem jh {H:Hp}{a:Addr}{o o':HO}(h:H a=some o)(ht:∀xs,o≠.tup xs):Kp (·=a) H (upd H a o') :=
 ⟨λb u e n=>by rw[ao n];exact e,λb xs e=>by rw[ao (t7 e h (λz=>ht xs z.symm))];exact e⟩
section
end
section
end
section
end
section
variable {σ:St}{β:aL}{own:Nat->List Addr}
def aC (own:Nat->List Addr)(i:Nat)(as:List Addr):Nat->List Addr:=λj=>if j=i then as else own j
theorem bR {own:Nat->List Addr}{i j:Nat}{a:Addr}(h:a∈aC own i [] j):a∈own j/\j≠i:=by
 unfold aC at h
 by_cases e:j=i
 ·rw[if_pos e]at h;cases h
 ·rw[if_neg e]at h;exact⟨h,e⟩
theorem aS {α:Type}{β:List α}{i j:Nat}{x:α}(h:i≠j):(β.set i x)[j]?=β[j]?:=by rw[Zz,if_neg h]
theorem aT {α:Type}{β:List α}{i:Nat}{x y:α}(h:(β.set i x)[i]?=some y):y=x/\i<β.length:=by
 rw[Zz,if_pos rfl]at h
 by_cases hi:i<β.length
 ·rw[if_pos hi]at h;cases h;exact⟨rfl,hi⟩
 ·rw[if_neg hi]at h;cases h
theorem get_set {α:Type}{σ:List α}{i:Nat}{x:α}(h:i<σ.length):(σ.set i x)[i]?=some x:=by rw[Zz,if_pos rfl,if_pos h]
end
structure Sn (Z:Hp×(Addr->Prop))(H:Hp)(W:Addr->Prop):Prop where
 w:∀b,W b->Z.2 b\/Z.1 b=none
 k:Kp (λb=>Z.2 b\/Z.1 b=none) Z.1 H
 d:∀b,Z.1 b≠none->H b≠none
theorem Sn.refl {H:Hp}{W:Addr->Prop}:Sn (H,W) H W:=⟨λ_ z=>.inl z,Kp.refl,λ_ z=>z⟩
theorem Sn.same {Z:Hp×(Addr->Prop)}{H H':Hp}{W:Addr->Prop}(n:Sn Z H W)(s:ar H H'):Sn Z H' W:=⟨n.w,n.k.trans s.kp,λb z e=>n.d b z (s.free e)⟩
theorem Sn.free {Z:Hp×(Addr->Prop)}{H:Hp}{W:Addr->Prop}(n:Sn Z H W){a:Addr}(h:H a=none):Z.1 a=none:=by
 cases q:Z.1 a with
 |none=>rfl
 |some o=>exact absurd h (n.d a (by rw[q];intro z;cases z))
theorem Sn.upd {Z:Hp×(Addr->Prop)}{H:Hp}{W:Addr->Prop}(n:Sn Z H W){a:Addr}{o o':HO}(h:H a=some o)(ht:∀xs,o≠.tup xs)(wa:W a):Sn Z (L2.upd H a o') W :=
 ⟨n.w,n.k.trans ((jh h ht).mono λb z=>by rw[z];exact n.w a wa),λb z e=>by
  by_cases hb:b=a
  ·subst hb;rw[ai]at e;cases e
  ·rw[ao hb]at e;exact n.d b z e⟩
theorem Sn.trans {Z:Hp×(Addr->Prop)}{H1 H:Hp}{W1 W:Addr->Prop}(n1:Sn Z H1 W1)(n:Sn (H1,W1) H W):Sn Z H W:=by
 have big:∀b,W1 b\/H1 b=none->Z.2 b\/Z.1 b=none:=λb z=>z.elim (n1.w b) λq=>.inr (n1.free q);exact⟨λb z=>big b (n.w b z),n1.k.trans (n.k.mono big),λb z=>n.d b (n1.d b z)⟩
section
variable {X:Cx}{st:Stmt}{rest:List Stmt}{σ:St}{H:Hp}
theorem PS.pre {t t':TS}(h:PS X st t)(k:∀D σ H,t' D σ H->t D σ H):PS X st t':=λpins s σ H D I q=>h pins s σ H D I (k D σ H q)
theorem sf.pre {t t':TS}(h:sf X rest t)(k:∀D σ H,t' D σ H->t D σ H):sf X rest t':=λpins s σ H D I q=>h pins s σ H D I (k D σ H q)
end
section
variable {b:Expr}{H:Hp}
theorem held {P:XX}{w:X6}{W W2:Addr->Prop}{H2:Hp}{d:D}{v:V}(r:az P w W H d v)(n:Sn (H,W) H2 W2):az P w W2 H2 d v :=
 az.aQ n.w (az.keep n.k (az.grow (λb z=>z) r))
end
theorem Sn.kp {Z:Hp×(Addr->Prop)}{H H':Hp}{W:Addr->Prop}(n:Sn Z H W)(k:Kp W H H')(dn:∀c,H c≠none->H' c≠none):Sn Z H' W:=⟨n.w,n.k.trans (k.mono n.w),λb z=>dn b (n.d b z)⟩
section
end
section
end
end L2
namespace W5
open PySem PySem.Spec PyProof.Rows
section
open PySem.SeqAt
open PySem.AutoSeq1 (wpAny_loadPart')
open PySem.MeetsSeq PySem.MeetsSeq2 PySem.MeetsSeq3
end
section
end
section
open PySem.SeqAt
open PySem.AutoSeq1 (wpAny_loadPart')
open PySem.MeetsSeq PySem.MeetsSeq2 PySem.MeetsSeq3
end
section
end
end W5
namespace L2
open PySem PySem.Spec PySem.SeqAt PyProof.Rows
theorem bY {P:XX}{w:X6}{W:Addr->Prop}{H:Hp}:∀{ns:List Int} {vs:List V},ag P w W H (ns.map D.int) vs->vs=ns.map V.int
 |[],_,h=>h
 |n::ns,_,⟨v,r,e,h1,h2⟩=>by rw[e,bY h2,show v=V.int n from h1];rfl
section
end
end L2
namespace ST
open PySem PyProof.Rows
theorem u9 (n:Nat):∀(f j:Nat),n<2 ^ (j+f)->∃j',j<=j'/\SetTable.sizeAbove.go n f (2 ^ j)=2 ^ j'/\n<2 ^ j'/\(j'=j\/2 ^ (j' - 1)<=n)
 |0,j,h=>⟨j,XS _,rfl,h,.inl rfl⟩
 |f+1,j,h=>by
  unfold SetTable.sizeAbove.go
  by_cases hc:2 ^ j<=n
  ·rw[if_pos hc,<- Nat.pow_succ];obtain⟨j',h1,h2,h3,h4⟩:=u9 n f (j+1) (by rw[show j+1+f=j+(f+1) by lia];exact h)
   refine⟨j',by lia,h2,h3,.inr ?_⟩
   rcases h4 with rfl|h4
   ·exact hc
   ·exact h4
  ·rw[if_neg hc];exact⟨j,XS _,rfl,by lia,.inl rfl⟩
theorem EC {n:Nat}(h:n<=4000):∃j,3<=j/\SetTable.sizeAbove n=2 ^ j/\n<2 ^ j/\2 ^ j<=8192:=by
 obtain⟨j,h1,h2,h3,h4⟩:=u9 n 64 3 (Zd h (by decide))
 refine⟨j,h1,h2,h3,?_⟩;rcases h4 with rfl|h4
 ·decide
 ·have:j-1<12:=by
   rcases Zx (j-1) 12 with z|z
   ·exact z
   ·have:2 ^ 12<=2 ^ (j-1):=Z9 (by decide) z
    lia
  have:2 ^ j<=2 ^ 12:=Z9 (by decide) (by lia)
  lia
section
variable {w:X6}{s:XQ}
variable {a:Addr}{o:Obj}{ts:List (Addr×List Int)}{es:Array (Int×XO)}{ep:Nat}{t:SetTable}
theorem jW {h:Heap}(ho:h.get? a=some o)(hd:o.data=.set es ep t)(dC:Array (Int×XO))(t':SetTable):(h.update a (Obj.putSet dC t')).get? a=some {o with data:=.set dC (ep+1) t'}:=by
 have e:=Heap.get?_update_self (Obj.putSet dC t') ho (by rw[putSet_of dC t' hd];rfl)
 rw[e,putSet_of dC t' hd]
theorem BX {α:Type}(l:List α)(p:Nat)(x:α):(l.take p++x::l.drop p).Perm (x::l):=by
 refine List.perm_middle.trans (List.Perm.cons x ?_);rw[List.take_append_drop]
theorem CU {α:Type}{en:α->Int×XO}{hk:α->Int}(hh:∀x,(en x).1=hk x)(x0:α){ts:List α}(he:es.toList=ts.map en){j:Nat}(j3:3<=j)(hj:ts.length<=2 ^ j-1)(fi mo:Nat)(le pl:Bool):
  ∃(order:Array Nat) (t':SetTable) (b7:List α),SetTable.laid (2 ^ j-1) fi mo le pl (es.map (·.1))=some (t',order)/\order.toList.Perm (X7 ts.length)/\(order.filterMap (es[·]?)).toList=b7.map en/\b7.Perm ts /\
   WF t' (b7.map hk)/\t'.mask=2 ^ j-1/\t'.led=le/\t'.plain=pl/\t'.place.size=ts.length:=by
 have hz:es.size=ts.length:=by rw[<- Yc,he,XN]
 have hs:(es.map (·.1)).size=ts.length:=by rw[Array.size_map,hz]
 obtain⟨t',order,e1,e2,e3,e4,e5,e6,e7,e8⟩:=Gp (hs:=es.map (·.1)) j3 (by lia) fi mo le pl
 rw[hs]at e6 e8;have gd:∀i,i<ts.length->es[i]?=some (en (ts.getD i x0)):=λi hi=>by
  rw[<- YR,he,X5,XY hi,YE,XY hi];rfl
 have dJ:(order.filterMap (es[·]?)).toList=(order.toList.map λi=>ts.getD i x0).map en:=by
  rw[Array.toList_filterMap,Y_];have:∀l:List Nat,(∀i∈l,i<ts.length)->l.filterMap (es[·]?)=l.map (en ∘ λi=>ts.getD i x0):=λl=>by
   induction l with
   |nil=>intro _;rfl
   |cons i l ih =>
    intro h;rw[YV,gd i (h i Yr),X4,ih λy hy=>h y (Yd _ hy)];rfl
  exact this _ λi hi=>YH.mp (e6.mem_iff.mp hi)
 have fz:(order.toList.map λi=>ts.getD i x0).Perm ts:=by
  refine(e6.map _).trans (List.Perm.of_eq ?_);apply Z6;intro i;rw[X5]
  by_cases hi:i<ts.length
  ·rw[Y3 hi,XY hi];show some (ts.getD i x0)=_;rw[YE,XY hi];rfl
  ·rw[YQ (by rw[Yx];lia),YQ (by lia)]
   rfl
 refine⟨order,t',_,e1,e6,dJ,fz,?_,e2,e3,e4,e8⟩;rw[Y_];have:(order.toList.map λi=>(es.map (·.1)).getD i 0)=order.toList.map (hk ∘ λi=>ts.getD i x0):=by
  refine Zr λi hi=>?_;rw[Ys,Array.getElem?_map,gd i (YH.mp (e6.mem_iff.mp hi))];exact hh _
 rw[<- this];exact e7
theorem pD {α:Type}{en:α->Int×XO}{hk:α->Int}(hh:∀x,(en x).1=hk x)(x0:α){ts:List α}(he:es.toList=ts.map en){m:Nat}(XB:ts.length*2<=m)(Sy:m<=4000):
  ∃(j:Nat) (order:Array Nat) (t':SetTable) (b7:List α),SetTable.sizeAbove m=2 ^ j/\2 ^ j<=8192/\t.relaid (es.map (·.1)) m=some (t',order)/\order.toList.Perm (X7 ts.length)/\(order.filterMap (es[·]?)).toList=b7.map en/\b7.Perm ts /\
   WF t' (b7.map hk)/\(t'.place.size*5<t'.mask*3/\m<=t'.mask)/\t'.mask<=8191/\t'.led=t.led/\t'.plain=t.plain/\t'.place.size=ts.length:=by
 obtain⟨j,j3,ja,jb,jc⟩:=EC (n:=m) Sy;have:2 ^ 3<=2 ^ j:=Z9 (by decide) j3
 obtain⟨order,t',b7,e1,e6,dJ,fz,e7,e2,e3,e4,e8⟩:=CU hh x0 he j3 (by lia) t.finger (t.movedTo (2 ^ j-1)) t.led t.plain
 exact⟨j,order,t',b7,ja,jc,by unfold SetTable.relaid;rw[ja];exact e1,e6,dJ,fz,e7,⟨by rw[e8,e2];lia,by rw[e2];lia⟩,by lia,e3,e4,e8⟩
abbrev L8 {α β:Type}(w:X6)(en:α->Int×XO)(hk:α->Int)(ky:α->β)(a:Addr)(s:XQ)(ts:List α)(x:α)(Q:Bool->XQ->Prop):Prop :=
 ∀(h':Heap) (o':Obj) (b7:List α) (dC:Array (Int×XO)) (jw:Nat) (t':SetTable) (added:Bool) (tk:Nat),s.toks<=tk->Zh a s.heap h'->h'.get? a=some o'->fL w en hk ky o' b7 dC jw t' ->
  ((∃y∈ts,ky y=ky x)->b7=ts)->((∀y∈ts,ky y≠ky x)->b7.Perm (x::ts))->Q added {s with heap:=h',toks:=tk}
end
theorem nY {α:Type}:∀{l:List α} {i:Nat} (h:i<l.length),(l[i]::l.eraseIdx i).Perm l
 |[],_,h=>absurd h (Nat.not_lt_zero _)
 |x::l,0,_=>.refl _
 |x::l,i+1,h=>by
  have h':i<l.length:=by rw[Yt]at h;lia
  show (l[i]::x::l.eraseIdx i).Perm (x::l);exact(List.Perm.swap _ _ _).trans ((nY h').cons x)
theorem xA {α:Type}(next:Nat->Nat):∀(f k:Nat) (left:List α) (out:Array α),f=left.length->(pickOrder.go next f k left out).toList.Perm (out.toList++left)
 |0,k,left,out,e=>by
  obtain rfl:left=[]:=aam.mp e.symm;unfold pickOrder.go;rw[ZJ]
 |f+1,k,left,out,e=>by
  unfold pickOrder.go;have hi:next k % left.length<left.length:=aaK _ (by lia)
  rw[XY hi];dsimp only;refine(xA next f (k+1) _ _ (by rw[List.length_eraseIdx_of_lt hi];lia)).trans ?_
  rw[Array.toList_push,ZL];exact List.Perm.append_left _ (nY hi)
theorem zk {α:Type}(next:Nat->Nat)(xs:Array α):(pickOrder next xs).toList.Perm xs.toList:=by
 have:=xA next xs.size 0 xs.toList #[] (by rw[Yc])
 exact this
theorem bX:Slot "set_iterator" "__next__" "set_iterator.__next__" :=
 .of (owner:="set_iterator") (n:="__next__") (by rw[typeLookup_type,builtinLookup_eq_fast];kernel_rfl) (by decide +kernel) (by decide +kernel) (by decide +kernel)
  (by first|exact .inl (by decide +kernel)|exact .inr (by decide +kernel)) (by rw[aaJ];kernel_rfl)
theorem iR:Slot "set_iterator" "__iter__" "set_iterator.__iter__" :=
 .of (owner:="set_iterator") (n:="__iter__") (by rw[typeLookup_type,builtinLookup_eq_fast];kernel_rfl) (by decide +kernel) (by decide +kernel) (by decide +kernel)
  (by first|exact .inl (by decide +kernel)|exact .inr (by decide +kernel)) (by rw[aaJ];kernel_rfl)
theorem hG:entryFor table "set_iterator.__next__" = some ZZ.«set_iterator.__next__»:=entryFor_of_tree (by kernel_rfl)
theorem nP:entryFor table "set_iterator.__iter__" = some ZZ.«dict_keyiterator.__iter__» :=
 entryFor_alias (id':="dict_keyiterator.__iter__") (by kernel_rfl) rfl (by decide +kernel) (by kernel_rfl)
theorem nQ:entryFor table "set.__iter__" = some ZZ.«frozenset.__iter__» :=
 entryFor_alias (id':="frozenset.__iter__") (by kernel_rfl) rfl (by decide +kernel) (by kernel_rfl)
theorem iW (a:XO):argsOk "set_iterator.__next__" ⟨[a],[]⟩:=by unfold argsOk;kernel_rfl
theorem o4 (a:XO):argsOk "set_iterator.__iter__" ⟨[a],[]⟩:=by unfold argsOk;kernel_rfl
section
variable {prog:XX}{w:X6}{A:YX}{E:XO->XQ->Prop}{s:XQ}
variable {a:Addr}{o:Obj}{es:Array (Int×XO)}{ep:Nat}{t:SetTable}
variable {α β:Type}{en:α->Int×XO}{hk:α->Int}{ky:α->β}{ts:List α}
abbrev uY (w:X6):Bool:=w.params.followText "set-order"
theorem eD {Q:Bool->XQ->Prop}(q:Q (uY w) s):Ye (model prog w) A setsByText Q E s:=by
 unfold setsByText;exact XM (aat (XT q))
def bx (w:X6)(a:Addr)(ep:Nat)(es:Array (Int×XO)):Array (Int×XO):=if uY w=true then pickOrder (w.params.setOrder a ep) es else es
theorem fO (w:X6)(a:Addr)(ep:Nat)(es:Array (Int×XO)):(bx w a ep es).toList.Perm es.toList:=by
 unfold bx
 split
 ·exact zk _ _
 ·exact .refl _
theorem zv (S:fL w en hk ky o ts es ep t){Q:Bool->XQ->Prop}(ho:s.heap.get? a=some o)(q:Q false s):Ye (model prog w) A (setDrawn a) Q E s:=by
 unfold setDrawn;refine XM (Zc ho S.dat S.fits ?_);dsimp only;refine XM (eD (XT ?_));have:(!uY w&&(!t.plain&&decide (es.size>1)))=false:=by rw[S.zj];simp
 show Q (!uY w&&(!t.plain&&decide (es.size>1))) s;rw[this];exact q
theorem me (ho:s.heap.get? a=some o)(S:fL w en hk ky o ts es ep t){sl i:Nat}{Q:Option (XO×Nat)->XQ->Prop}(Ij:uY w=false->SetTable.below t.place sl=i)
  (q1:∀e,(bx w a ep es)[i]?=some e->∀Jp:Nat,(uY w=false->SetTable.below t.place Jp=i+1)->Q (some (e.2,Jp)) s) (q2:(bx w a ep es)[i]?=none->Q none s) :
  Ye (model prog w) A (setNext a sl i ep) Q E s:=by
 unfold setNext;refine XM (Zc ho S.dat S.fits ?_);dsimp only;refine XM (eD ?_);cases hb:uY w with
 |true =>
  rw[if_pos rfl,if_neg (by simp)]
  unfold setWalk;refine XM (XM (Zc ho S.dat S.fits ?_));dsimp only;refine XM (eD ?_);rw[hb,if_pos rfl];refine XM (aat (XT (XT ?_)));have e:bx w a ep es=pickOrder (w.params.setOrder a ep) es:=by unfold bx;rw[hb,if_pos rfl]
  rw[e]at q1 q2;show Q (((pickOrder (w.params.setOrder a ep) es)[i]?).map λe=>(e.2,sl)) s;cases hx:(pickOrder (w.params.setOrder a ep) es)[i]? with
  |none=>exact q2 hx
  |some x=>exact q1 x hx sl (λz=>by rw[hb]at z;cases z)
 |false =>
  rw[if_neg (by simp)]
  have e:bx w a ep es=es:=by unfold bx;rw[hb,if_neg (by simp)]
  rw[e]at q1 q2;have hd:(!t.plain&&decide (es.size>1))=false:=by rw[S.zj];rfl
  show Ye _ _ (if (!t.plain&&decide (es.size>1))=true then _ else _) _ _ _
  rw[hd,if_neg (by simp)]
  have hl:t.led=true:=by
   rw[S.led];show (!uY w)=true;rw[hb];rfl
  refine XM ?_;show Ye _ _ (if (!t.led&&!es.isEmpty)=true then _ else _) _ _ _
  rw[hl,if_neg (by simp)]
  refine XT (XT ?_);rw[Ij hb];have hz:=S.size
  by_cases hi:i<t.place.size
  ·have h1:es[i]?=some es[i]:=getElem?_pos es i (by omega)
   rw[h1,wz hi];refine q1 _ h1 _ λ_=>?_;obtain⟨b1,b2,b3⟩:=gA S.wf.Bu (g t.place i+1);rcases aaS (SetTable.below t.place (g t.place i+1)) (i+1)with z|z|z
   ·have:=b3 i (by omega) hi
    omega
   ·exact z
   ·have:=b2 (i+1) z;have:=S.wf.Bu i (i+1) (by omega) (by omega)
    omega
  ·have h1:es[i]?=none:=Z0 (by omega)
   rw[h1];exact q2 h1
end
section
variable {prog:XX}{w:X6}{A:YX}{E:XO->XQ->Prop}{s:XQ}
variable {a b it:Addr}{o:Obj}{es:Array (Int×XO)}{ep:Nat}{t:SetTable}
variable {α β:Type}{en:α->Int×XO}{hk:α->Int}{ky:α->β}{ts:List α}
def qL (sl i:Nat)(a:Addr)(n ep:Nat):Obj:={cls:=.type "set_iterator",dict:=none,data:=.fields #[.int sl 0,.int i 0,.ref a,.int n 0,.int ep 0],slots:=#[]}
theorem mz {sl i n:Nat} (h:s.heap.get? it=some (qL sl i a n ep)):s.TypeIs (.ref it) "set_iterator" := ⟨_,h,rfl⟩
def Mq (w:X6)(en:α->Int×XO)(hk:α->Int)(ky:α->β)(it a:Addr)(ts:List α)(es:Array (Int×XO))(ep:Nat)(i:Nat)(h:Heap):Prop :=
 ∃sl o t,h.get? it=some (qL sl i a es.size ep)/\h.get? a=some o/\fL w en hk ky o ts es ep t/\(uY w=false->SetTable.below t.place sl=i)
theorem Bl (oN:a≠it){i:Nat}{e:Int×XO}{Q:Option XO->XQ->Prop}(st:Mq w en hk ky it a ts es ep i s.heap)(he:(bx w a ep es)[i]?=some e)
  (q:∀h',Mq w en hk ky it a ts es ep (i+1) h'->Zh it s.heap h'->Q (some e.2) {s with heap:=h'}):Ye (model prog w) A (aav (.ref it)) Q E s:=by
 obtain⟨sl,o,t,hi,ho,S,hb⟩:=st;have hT:=mz hi;unfold aav;refine XM (wpAny_attempt (Zm (name:=aao "__next__") hT bX (Za bX hT hG ?_ (iW _))));unfold ZZ.«set_iterator.__next__»
 refine XM (XT ?_);refine XM (wpAny_fieldsOf hi rfl ?_);dsimp only;refine XM (wpAny_setEntries_of ho S.dat S.fits ?_);rw[if_neg (by simp)]
 refine XM (me (i:=i) ho S (λz=>by simpa using hb z) (λe' OZ Jp N2=>?_) λhn=>?_)
 ·rw[he]at OZ;obtain rfl:=Yv OZ;dsimp only;refine XM (Zu hi (by simp) λh1 g1 EJ=>?_)
  refine XM (Zu (s:={s with heap:=h1}) g1 (by simp) λh2 g2 Ul=>?_)
  refine XT ⟨_,rfl,XT (q h2 ⟨Jp,o,t,?_,?_,S,N2⟩ (EJ.trans Ul))⟩
  ·rw[g2];rfl
  ·rw[(EJ.trans Ul).2 a oN];exact ho
 ·rw[he]at hn;cases hn
theorem Fi (hh:A.handled=none)(oN:a≠it){i:Nat}{Q:Option XO->XQ->Prop}(st:Mq w en hk ky it a ts es ep i s.heap)(he:(bx w a ep es)[i]?=none)
  (q:∀h',Heap.ExtBut it s.heap h'->Q none {s with heap:=h'}):Ye (model prog w) A (aav (.ref it)) Q E s:=by
 obtain⟨sl,o,t,hi,ho,S,hb⟩:=st;have hT:=mz hi;unfold aav;refine XM (wpAny_attempt (Zm (name:=aao "__next__") hT bX (Za bX hT hG ?_ (iW _))));unfold ZZ.«set_iterator.__next__»
 refine XM (XT ?_);refine XM (wpAny_fieldsOf hi rfl ?_);dsimp only;refine XM (wpAny_setEntries_of ho S.dat S.fits ?_);rw[if_neg (by simp)]
 refine XM (me (i:=i) ho S (λz=>by simpa using hb z) (λe' OZ Jp N2=>?_) λhn=>?_)
 ·rw[he]at OZ;cases OZ
 ·dsimp only;refine XM (wpAny_setField hi rfl (by simp) ?_)
  refine XM ?_;simp only[newExc,newTuple];refine XM (Y8 ?_ (by size_fits))
  refine XM (m:=firstArgMember _ _) (wpAny_of_eq (a:=Value.none) (by first|rfl|(simp only[firstArgMember];rfl)) ?_)
  refine Y8 ?_ (by size_fits)
  simp only[raiseNew];refine XM (wpAny_handled ?_);rw[show A.in1.handled=none from hh]
  refine XM (XT (wpAny_throw ?_));refine XM (aas (T:="StopIteration") (b:=true) ⟨_,X_ _ rfl,rfl⟩ isSubtype_stop ?_);exact XT (q _ (((Zs ..).extBut.push _).push _))
theorem Bk {i:Nat}{Q:XO->XQ->Prop}(st:Mq w en hk ky it a ts es ep i s.heap)(q:Q (.ref it) s):Ye (model prog w) A (pyIter (.ref it)) Q E s:=by
 obtain⟨sl,o,t,hi,ho,S,hb⟩:=st;have hT:=mz hi;refine wpAny_pyIter_slot hT iR (Za iR hT nP ?_ (o4 _));show Ye _ _ (ret (.ref it)) _ _ s;exact XT ⟨_,rfl,"set_iterator",_,hT,bX.lookup,q⟩
theorem yY (hh:A.handled=none)(oN:a≠it):Walks prog w A it [it,a] [it] es.size (λi v=>∃e,(bx w a ep es)[i]?=some e/\v=e.2) (Mq w en hk ky it a ts es ep) where
 sub:=λb hb=>by rw[XW.mp hb];exact Yr
 frame:=λi h h' ⟨sl,o,t,h1,h2,h3⟩ hk=>⟨sl,o,t,hk it Yr _ h1,hk a (Yd _ Yr) _ h2,h3⟩
 item:=λi s Q E hi st hQ=>by
  have hz:(bx w a ep es).size=es.size:=by
   have:=(fO w a ep es).length_eq;rw[Yc,Yc]at this;exact this
  have he:(bx w a ep es)[i]?=some (bx w a ep es)[i]:=getElem?_pos _ i (by lia)
  exact Bl oN st he λh' vh sb=>hQ _ h' s.toks ⟨_,he,rfl⟩ vh λb o hb e=>sb.extBut b o (λz=>hb (by rw[z];exact XW.mpr rfl)) e
 done:=λs Q E st hQ=>by
  have hz:(bx w a ep es).size=es.size:=by
   have:=(fO w a ep es).length_eq;rw[Yc,Yc]at this;exact this
  exact Fi hh oN st (Z0 (by lia)) λh' eb=>hQ h' s.toks λb o hb e=>eb b o (λz=>hb (by rw[z];exact XW.mpr rfl)) e
 self:=λi s Q E st hQ=>Bk st hQ
theorem fQ (ho:s.heap.get? a=some o) (S:fL w en hk ky o ts es ep t):s.TypeIs (.ref a) "set" := ⟨o,ho,S.ex.1⟩
theorem E5 (ho:s.heap.get? a=some o)(S:fL w en hk ky o ts es ep t){Q:XO->XQ->Prop}(q:Q (.ref s.heap.objs.size) {s with heap:=s.heap.push (qL 0 0 a es.size ep)}):
  Ye (model prog w) A (pyIter (.ref a)) Q E s:=by
 have hT:=fQ ho S;refine wpAny_pyIter_slot hT F.slot_set_iter (Za F.slot_set_iter hT nQ ?_ (F.args_set_iter_1 _));unfold ZZ.«frozenset.__iter__» Builtin.Frozenset.slot0 Builtin.Frozenset.sizeOf;refine XM (XM (XT (XT ?_)));refine XM (XM (wpAny_setEntries_of ho S.dat S.fits (XT ?_)));refine XM (zv S ho ?_);rw[if_neg (by simp)]
 refine XM (XT ?_);refine XM (wpAny_setEpoch_of ho S.dat S.fits ?_);unfold newFields;refine XM (Y8 (XT ⟨_,rfl,"set_iterator",_,⟨_,X_ _ rfl,rfl⟩,bX.lookup,?_⟩) (by size_fits))
 exact q
theorem E6 (ho:s.heap.get? a=some o)(S:fL w en hk ky o ts es ep t){Q:Bool->XQ->Prop}(q:Q false s):Ye (model prog w) A (Builtin.List.listLengthHint (.ref a)) Q E s:=by
 have hT:=fQ ho S;unfold Builtin.List.listLengthHint;refine XM (wpAny_specialOf hT PySem.F.slot_set_len.lookup ?_);generalize UO:("set.__len__" : String)=V7
 wp_delta
 rw[show splitId V7=some ("set","__len__") from by subst UO;decide +kernel]
 subst UO;refine XM (aas (T:="set") (b:=true) hT (by rw[aaJ];kernel_rfl) ?_)
 refine wpAny_ite_split (λoP=>absurd oP (by decide)) (λ_=>?_)
 refine wpAny_ite_split (λ_=>?_) (λoP=>absurd (by decide +kernel) oP)
 refine XM (wpAny_typeOf hT ?_);exact XT q
theorem Fl (prog:XX)(S:fL w en hk ky o ts es ep t):
  PySem.W.KdlSrc prog w "set" a a es.size (λi v=>∃e,(bx w a ep es)[i]?=some e/\v=e.2) (λh=>h.get? a=some o) where
 type:=λs ho=>fQ ho S
 there:=λh ho=>⟨X8 ho,X8 ho⟩
 keep:=λh h' ho hk=>hk a (.inl rfl) _ ho
 notList:=by decide
 notTuple:=by decide
 hint:=λA E s Q ho q=>E6 ho S q
 iter:=λA s hh ho=>⟨qL 0 0 a es.size ep,Mq w en hk ky s.heap.objs.size a ts es ep,λE Q q=>E5 ho S q,yY hh (Yk (X8 ho)),
  0,o,t,X_ _ rfl,XR _ ho,S,λ_=>by
   obtain⟨b1,b2,b3⟩:=gA S.wf.Bu 0;rcases Nat.eq_zero_or_pos (SetTable.below t.place 0)with z|z
   ·exact z
   ·have:=b2 0 z;lia⟩
theorem jG {α β:Type}{f:α->β}:∀{ts:List α} {l:List β},l.Perm (ts.map f)->∃us:List α,us.Perm ts/\l=us.map f
 |[],l,h=>⟨[],.refl _,List.perm_nil.mp h⟩
 |x::ts,l,h=>by
  obtain⟨l1,l2,rfl⟩:=List.append_of_mem (h.mem_iff.mpr (show f x∈(x::ts).map f from Yr))
  have h':(l1++l2).Perm (ts.map f):=(List.perm_middle.symm.trans h).cons_inv;obtain⟨us,h1,h2⟩:=jG h';obtain⟨u1,u2,rfl,e1,e2⟩:=List.map_eq_append_iff.mp h2.symm;refine⟨u1++x::u2,List.perm_middle.trans (h1.cons x),?_⟩;rw[X1,X4,e1,e2]
theorem su (ho:s.heap.get? a=some o)(S:fL w en hk ky o ts es ep t)(hn:ts.length<=1000):
  ∃us:List α,us.Perm ts/\∀(A:YX) (E:XO->XQ->Prop) (R:List XO->XQ->Prop),A.handled=none->(∀(h':Heap) (tk:Nat),(∀b o,s.heap.get? b=some o->h'.get? b=some o)->R (us.map λx=>(en x).2) {s with heap:=h',toks:=tk}) ->
  Ye (model prog w) A (collect (.ref a)) R E s:=by
 have hw:=fO w a ep es;rw[S.AJ]at hw;obtain⟨us,h1,h2⟩:=jG hw;refine⟨us,h1,λA E R hh q=>?_⟩;refine PySem.W.kdu_collect (Fl prog S) hh ho (by rw[S.size.1,Y1];lia) λh' tk acc hk O4=>?_
 have e:acc.toList=us.map λx=>(en x).2:=by
  have hz:(bx w a ep es).size=es.size:=by
   have:=(fO w a ep es).length_eq;rw[Yc,Yc]at this;exact this
  have e2:us.map (λx=>(en x).2)=(bx w a ep es).toList.map (·.2):=by
   rw[h2,Y_];rfl
  rw[e2];apply Z6;intro i;rw[X5,YR,YR]
  by_cases hi:i<acc.size
  ·obtain⟨x,g1,g2⟩:=O4.2 i acc[i] (getElem?_pos acc i hi);rw[getElem?_pos acc i hi,g1,g2];rfl
  ·have:=O4.1;rw[Z0 (by lia),Z0 (by lia)]
   rfl
 rw[e];exact q h' tk hk
end
section
variable {prog:XX}{w:X6}{A:YX}{E:XO->XQ->Prop}{s:XQ}
variable {o:Obj}{ts:List (Addr×List Int)}{es:Array (Int×XO)}{ep:Nat}{t:SetTable}
def iF (w:X6):Obj:={cls:=.type "set",dict:=none,data:=.set #[] 0 (.fresh 0 0 (!uY w))}
theorem rm {α β:Type}{en:α->Int×XO}{hk:α->Int}{ky:α->β}(w:X6):fL w en hk ky (iF w) [] #[] 0 (.fresh 0 0 (!uY w)) where
 ex:=⟨rfl,rfl,rfl⟩
 dat:=rfl
 AJ:=rfl
 wf:=⟨rfl,rfl,λi j _ hj=>absurd hj (Nat.not_lt_zero _),λi hi=>absurd hi (Nat.not_lt_zero _),⟨3,XS _,rfl⟩,Yh _,λi h hi=>by simp at hi⟩
 P4:=by show 0*5<7*3;decide
 Gh:=by show 7<=8191;decide
 led:=rfl
 zj:=rfl
 AE:=YA
theorem CL {xs:List XO} {R:XO->XQ->Prop} (hc:checkBuiltinCall "set.__new__" ⟨.type "set" :: xs,[]⟩=pure ()) (hx:xs=[]\/∃v,xs=[v]) (q:R (.ref s.heap.objs.size) {s with heap:=s.heap.push (iF w)}) :
  aax (model prog w) A (.call (.builtin "set.__new__") ⟨.type "set" :: xs,[]⟩) (wants R E) s:=by
 refine codeAny_of_tree ?_;show Ye _ A.in1 (checkBuiltinCall "set.__new__" ⟨.type "set" :: xs,[]⟩ >>= λ_=>again (.builtin "set.__new__" ⟨.type "set" :: xs,[]⟩)) _ _ s;refine XM (wpAny_of_eq hc (XT ⟨plainId_quiet F.plain_set_new _,aai F.entry_set_new ?_⟩));rw[aab F.plain_set_new _];unfold ZZ.«set.__new__» Builtin.Frozenset.newClass;have Vw:=sub_set_self;obtain⟨hp,gs,dr,tk,os⟩:=s;rcases hx with rfl|⟨v,rfl⟩
 all_goals
  dsimp only
  wp_walk
  refine aat (XT ?_);dsimp only;simp only[newObj];exact XM (wpAny_alloc (XT (XT q)))
section
variable {α β:Type}{en:α->Int×XO}{hk:α->Int}{ky:α->β}
theorem CP {X:Nat->α->Prop}{J:Heap->Prop}{I:Addr}{fp wr:List Addr}{G:Array GenState->Array GenState->Prop}{St:Nat->XQ->Prop}{R:Result->XQ->Prop}
  {n:Nat} {P:Nat->XO->Prop} (W:WalksS prog w A.in1 I fp wr G n P St) (hP:∀(i:Nat) (v:XO),P i v->∃x,X i x/\v=(en x).2) (hX:∀i x y,X i x->X i y->ky x=ky y) (sa:Addr) (UI:sa∉fp)
  (hJ:∀h h':Heap,J h->(∀c oc,c∉sa::wr->h.get? c=some oc->h'.get? c=some oc)->J h')
  (add:∀(s:XQ) (E:XO->XQ->Prop) (Q:Bool->XQ->Prop) (o:Obj) (ts:List α) (es:Array (Int×XO)) (ep:Nat) (t:SetTable) (x:α),J s.heap->s.heap.get? sa=some o->fL w en hk ky o ts es ep t->(∀y∈ts,∃m,X m y)->(∃m,X m x)->ts.length<n ->
   L8 w en hk ky sa s ts x Q->Ye (model prog w) A.in1 (setAdd sa (en x).2) Q E s) :
  ∀(d i:Nat) (s:XQ) (o:Obj) (ts:List α) (es:Array (Int×XO)) (ep:Nat) (t:SetTable),n-i=d->i<=n->St i s->J s.heap->s.heap.get? sa=some o->fL w en hk ky o ts es ep t ->
   (∀y∈ts,∃m,X m y)->(∀m x,m<i->X m x->∃y∈ts,ky y=ky x)->ts.length<=i ->
   (∀s' o' b7 dC jw t',Moved (sa::wr) G s s'->s'.heap.get? sa=some o'->fL w en hk ky o' b7 dC jw t'->(∀y∈b7,∃m,X m y)->(∀m x,m<n->X m x->∃y∈b7,ky y=ky x)->b7.length<=n->R (.ok (.ret .none)) s') ->
   aax (model prog w) A (.builtin "set.update.loop" ⟨[.ref sa,.ref I],[]⟩) R s:=by
 have oq:sa∉wr:=λz=>UI (W.sub _ z);have up:∀x∈wr,x∈sa::wr:=λx hx=>Yd _ hx;intro d
 induction d with
 |zero =>
  intro i s o ts es ep t hd hi st T ho S k1 k2 k3 hR;obtain rfl:i=n:=by lia
  refine aai F.entry_set_update_loop ?_;rw[aab F.plain_set_update_loop _];show Ye _ A.in1 (aav (.ref I) >>= _) _ _ s;refine XM (W.done s _ _ st λs' mv=>?_);exact XT (hR s' o ts es ep t (mv.mono up) (mv.heap sa _ oq ho) S k1 k2 k3)
 |succ d ih =>
  intro i s o ts es ep t hd hi st T ho S k1 k2 k3 hR;refine aai F.entry_set_update_loop ?_;rw[aab F.plain_set_update_loop _];show Ye _ A.in1 (aav (.ref I) >>= _) _ _ s;refine XM (W.item i s _ _ (by lia) st λv s1 hv VA mv=>?_)
  obtain⟨x,hx,rfl⟩:=hP i v hv;refine XM (YU (add s1 _ _ o ts es ep t x (hJ _ _ T λc oc hc e=>mv.heap c oc (λz=>hc (up c z)) e) (mv.heap sa _ oq ho) S k1 ⟨i,hx⟩ (by lia) λh' o' b7 dC jw t' added tk r0 r1 r2 r3 r4 r5=>?_))
  have keep:∀c oc,c≠sa->s1.heap.get? c=some oc->h'.get? c=some oc:=λc oc hc e=>by rw[r1.2 c hc];exact e
  have step:(∀y∈b7,∃m,X m y)/\(∀m z,m<i+1->X m z->∃y∈b7,ky y=ky z)/\b7.length<=i+1:=by
   by_cases lK:∃y∈ts,ky y=ky x
   ·rw[r4 lK];refine⟨k1,λm z hm hz=>?_,by lia⟩
    rcases Zx m i with q|q
    ·exact k2 m z q hz
    ·obtain rfl:m=i:=by lia
     rw[hX m z x hz hx];exact lK
   ·have pm:=r5 λy hy e=>lK ⟨y,hy,e⟩;refine⟨λy hy=>?_,λm z hm hz=>?_,by rw[pm.length_eq,Yt];lia⟩
    ·rcases XU.mp (pm.mem_iff.mp hy)with rfl|q
     ·exact⟨i,hx⟩
     ·exact k1 y q
    ·rcases Zx m i with q|q
     ·obtain⟨u,hu,e⟩:=k2 m z q hz;exact⟨u,pm.mem_iff.mpr (Yd _ hu),e⟩
     ·obtain rfl:m=i:=by lia
      exact⟨x,pm.mem_iff.mpr Yr,hX m x z hx hz⟩
  have UB:Moved (sa::wr) G s {s1 with heap:=h',toks:=tk} :=
   (mv.mono up).then_heap r0 λc oc hc e=>keep c oc (λz=>hc (by rw[z];exact Yr)) e
  exact XT ⟨plainId_quiet F.plain_set_update_loop _,ih (i+1) _ o' b7 dC jw t' (by lia) (by lia) (W.frame _ s1 _ _ VA r0 λc hc oc e=>keep c oc (λz=>UI (by rw[<- z];exact hc)) e) (hJ _ _ T λc oc hc e=>UB.heap c oc hc e) r2 r3 step.1 step.2.1 step.2.2 λs' o2 mr qc Mh t2 m1=>hR s' o2 mr qc Mh t2 (Moved.trans W.gtrans UB m1)⟩
end
end
section
variable {prog:XX}{w:X6}{A:YX}{E:XO->XQ->Prop}{s:XQ}
theorem Am {α β:Type}{en:α->Int×XO}{hk:α->Int}{ky:α->β}{X:Nat->α->Prop}{l:Addr}{its:Array XO}{Q:XO->XQ->Prop}(hh:A.handled=none)(hl:s.heap.IsList l its)
  (hP:∀(i:Nat) (v:XO),its[i]?=some v->∃x,X i x/\v=(en x).2) (hX:∀i x y,X i x->X i y->ky x=ky y)
  (add:∀(B:YX) (s1:XQ) (E:XO->XQ->Prop) (Q:Bool->XQ->Prop) (a:Addr) (o:Obj) (ts:List α) (es:Array (Int×XO)) (ep:Nat) (t:SetTable) (x:α),B.units<=A.units+3->(∀c oc,s.heap.get? c=some oc->s1.heap.get? c=some oc)->s1.heap.get? a=some o->fL w en hk ky o ts es ep t->(∀y∈ts,∃m,X m y)->(∃m,X m x)->ts.length<its.size ->
   L8 w en hk ky a s1 ts x Q->Ye (model prog w) B (setAdd a (en x).2) Q E s1)
  (q:∀(h':Heap) (tk:Nat) (o':Obj) (ts:List α) (es:Array (Int×XO)) (ep:Nat) (t:SetTable),(∀c oc,s.heap.get? c=some oc->h'.get? c=some oc)->h'.get? s.heap.objs.size=some o'->fL w en hk ky o' ts es ep t ->
   (∀y∈ts,∃m,X m y)->(∀m x,m<its.size->X m x->∃y∈ts,ky y=ky x)->ts.length<=its.size->Q (.ref s.heap.objs.size) {s with heap:=h',toks:=tk}) :
  Ye (model prog w) A (call (.type "set") [.ref l]) Q E s:=by
 obtain⟨cx,Xu,VY⟩:=F.called_set.mro;have UC:=F.called_set.made;have Vv:=F.called_set.sub;refine wpAny_call (codeAny_of_tree ?_);show Ye _ _ (callAny (.type "set") _) _ _ _;refine XT ⟨Code.quiet_builtin _ (by decide +kernel),aai F.entry_type_call ?_⟩
 rw[Around.under_plain (weight_type_call_type "set" [.ref l] []) rfl];have t1:=F.called_set.notType;have t2:=F.called_set.canCreate;have t3:=F.typeCall_set_1 (.ref l)
 repeat (any_goals (first|assumption|wp_step))
 have ls:l<s.heap.objs.size:=by obtain⟨ol,So,_⟩:=hl;exact X8 So
 refine aac (CL (w:=w) (E:=E) (xs:=[.ref l]) (R:=λob sx=>ob=.ref s.heap.objs.size/\sx={s with heap:=s.heap.push (iF w)}) (F.newCall_set_1 _) (.inr ⟨_,rfl⟩) ⟨rfl,rfl⟩) λr sx hr=>?_
 cases r with
 |error e=>exact hr
 |ok fl =>
  cases fl with
  |ret ob =>
   obtain⟨rfl,rfl⟩:=hr;have hS:(s.heap.push (iF w)).get? s.heap.objs.size=some (iF w):=X_ _ rfl;have hT:Shared.TypeIs {s with heap:=s.heap.push (iF w)} (.ref s.heap.objs.size) "set" := ⟨_,hS,rfl⟩
   have i1:=F.called_set.init.lookup;have i2:=F.called_set.init.bind (.ref s.heap.objs.size)
   repeat (any_goals (first|assumption|wp_step))
   refine aac (codeAny_call_builtin (R:=wants (λr s2=>r=.none/\Q (.ref s.heap.objs.size) s2) E) F.called_set.init.plain F.entry_set_init (check_set_init_1 hT ?_)) λr2 s2 R3=>?_
   ·obtain⟨ol,So,ER,nl,UT⟩:=hl;obtain⟨c1,c2,c3,c4⟩:=ol;simp only at ER UT;subst ER UT;have Sm:(s.heap.push (iF w)).get? l=some {cls:=.type "list",dict:=c2,data:=.seq its nl,slots:=c4}:=XR _ So;have u1:=F.sub_list_set;have u2:=F.sub_list_frozenset;have u3:(Value.type "list" == Value.type "dict")=false:=by decide
    have SA:(s.heap.push (iF w)).IsList l its:=⟨_,Sm,rfl,nl,rfl⟩;unfold ZZ.«set.__init__» noKeywords Builtin.Frozenset.updateFrom;generalize WI:pyIter=PI
    wp_walk
    subst WI;refine wpAny_pyIter_list SA ?_;refine XM (wpAny_runValue ?_);have V9:A.in1.in1.in1.handled=none:=by simp[hh]
    have nI:l≠(s.heap.push (iF w)).objs.size:=by rw[ZG];exact Yk (aaT ls)
    have hf:s.heap.objs.size∉[(s.heap.push (iF w)).objs.size,l]:=by
     rw[ZG];simp only[XU,YC,or_false,not_or];exact⟨Yk (Nat.lt_succ_self _),aaG ls⟩
    have nw:∀c oc,s.heap.get? c=some oc->c∉s.heap.objs.size::[(s.heap.push (iF w)).objs.size]:=λc oc e z=>by
     have hc:=X8 e;rcases XU.mp z with z|z
     ·exact absurd z (Yk hc)
     ·have z:=XW.mp z;rw[ZG]at z;exact absurd z (Yk (aaT hc))
    refine CP (J:=λh=>∀c oc,s.heap.get? c=some oc->h.get? c=some oc) ((Walks.list V9 _ l nI _).toS) hP hX s.heap.objs.size hf (λh h' k kp c oc e=>kp c oc (nw c oc e) (k c oc e)) (λs1 E Q o ts es ep t x=>add _ s1 E Q s.heap.objs.size o ts es ep t x (XS _)) its.size 0 _ (iF w) [] #[] 0 _ rfl (Yh _) ⟨⟨_,X_ _ rfl,rfl,rfl⟩,SA.push _⟩ (λc oc e=>XR _ (XR _ e)) (XR _ hS) (rm w) (λx hx=>by cases hx) (λm x hm=>by lia) (Yh _) λs' o' b7 dC jw t' m1 m2 m3 m4 m5 m6=>?_
    obtain⟨h',g',d',PJ,Rv⟩:=s';have eg:g'=s.gens:=m1.gens;have ed:d'=s.drawn:=m1.drawn;have eo:Rv=s.os:=m1.os;subst eg ed eo;exact XT (XT ⟨rfl,q h' PJ o' b7 dC jw t' (λc oc e=>m1.heap c oc (nw c oc e) (XR _ (XR _ e))) m2 m3 m4 m5 m6⟩)
   ·cases r2 with
    |error e=>exact R3
    |ok WM =>
     cases WM with
     |ret r =>
      obtain⟨rfl,hq⟩:=R3
      repeat (any_goals (first|assumption|wp_step))
     |_=>exact R3.elim
  |_=>exact hr.elim
end
end ST
namespace TS
open PySem PyProof.Rows
section
end
end TS
namespace L2
open PySem PySem.Spec PySem.SeqAt PyProof.Rows HT
theorem ni:∀{a b:List Int},lexLt a b=false->lexLt b a=false->a=b
 |[],[],_,_=>rfl
 |[],_::_,h,_=>by cases h
 |_::_,[],_,h=>by cases h
 |x::xs,y::ys,h1,h2=>by
  rw[jf]at h1 h2
  by_cases e:x=y
  ·subst e;rw[if_pos rfl]at h1 h2;rw[ni h1 h2]
  ·rw[if_neg e]at h1;rw[if_neg (λz=>e z.symm)]at h2;have:=of_decide_eq_false h1;have:=of_decide_eq_false h2;omega
theorem nh:∀{a b:List Int},lexLt a b=true->lexLt b a=false
 |[],[],h=>by cases h
 |[],_::_,_=>rfl
 |_::_,[],h=>by cases h
 |x::xs,y::ys,h=>by
  rw[jf]at h ⊢
  by_cases e:x=y
  ·subst e;rw[if_pos rfl]at h ⊢
   exact nh h
  ·rw[if_neg e]at h;rw[if_neg (λz=>e z.symm)];have:=of_decide_eq_true h;exact decide_eq_false (by lia)
theorem lr:∀{a b c:List Int},lexLt a b=true->lexLt b c=true->lexLt a c=true
 |[],[],_,h,_=>by cases h
 |[],_::_,[],_,h=>by cases h
 |[],_::_,_::_,_,_=>rfl
 |_::_,[],_,h,_=>by cases h
 |x::xs,y::ys,[],_,h=>by cases h
 |x::xs,y::ys,z::zs,h1,h2=>by
  rw[jf]at h1 h2 ⊢
  by_cases e:x=y
  ·subst e;rw[if_pos rfl]at h1
   by_cases e2:x=z
   ·subst e2;rw[if_pos rfl]at h2 ⊢
    exact lr h1 h2
   ·rw[if_neg e2]at h2 ⊢
    exact h2
  ·rw[if_neg e]at h1;have q1:=of_decide_eq_true h1
   by_cases e2:y=z
   ·subst e2;rw[if_neg e];exact h1
   ·rw[if_neg e2]at h2;have q2:=of_decide_eq_true h2;rw[if_neg (by omega)]
    exact decide_eq_true (by omega)
noncomputable def wj (k:List Int):List (List Int)->List (List Int)
 |[]=>[k]
 |x::xs=>if lexLt x k=true then x::wj k xs else k::x::xs
def PZ:List (List Int)->List (List Int)
 |[]=>[]
 |k::ks=>wj k (PZ ks)
theorem kZ (k:List Int):∀xs,(wj k xs).Perm (k::xs)
 |[]=>.refl _
 |x::xs=>by
  unfold wj
  split
  ·exact((kZ k xs).cons x).trans (List.Perm.swap _ _ _)
  ·exact .refl _
theorem sS:∀ks,(PZ ks).Perm ks
 |[]=>.refl _
 |k::ks=>(kZ k (PZ ks)).trans ((sS ks).cons k)
abbrev Ht (ks:List (List Int)):Prop:=ks.Pairwise λx y=>HT.lexLt y x=false
theorem le_trans' {a b c:List Int}(h1:lexLt b a=false)(h2:lexLt c b=false):lexLt c a=false:=by
 cases h:lexLt c a with
 |false=>rfl
 |true =>
  cases hb:lexLt a b with
  |true=>rw[lr h hb]at h2;cases h2
  |false =>
   have:=ni hb h1;subst this;rw[h]at h2;cases h2
theorem pS (k:List Int):∀xs,Ht xs->Ht (wj k xs)
 |[],_=>by simp[wj]
 |x::xs,h=>by
  obtain⟨h1,h2⟩:=Y9.mp h;unfold wj
  split
  ·rename_i hx
   refine Y9.mpr ⟨λy hy=>?_,pS k xs h2⟩;rcases XU.mp ((kZ k xs).mem_iff.mp hy)with rfl|hy
   ·exact nh hx
   ·exact h1 y hy
  ·rename_i hx
   have wq:lexLt x k=false:=by cases q:lexLt x k <;> simp_all
   refine Y9.mpr ⟨λy hy=>?_,h⟩;rcases XU.mp hy with rfl|hy
   ·exact wq
   ·exact le_trans' wq (h1 y hy)
theorem sR:∀ks,Ht (PZ ks)
 |[]=>.nil
 |k::ks=>pS k _ (sR ks)
abbrev kD (k:List Int):D:=.tup (k.map D.int)
section
end
section
end
def bV:FD:=λds R=>∃n:Int,ds=[.int n]/\0<n/\n<2 ^ 200/\∀r:Int,0<=r->r<n->R (.int r)
theorem bV.mono:cA bV:=λds R R' k ⟨n,e,h1,h2,q⟩=>⟨n,e,h1,h2,λr a b=>k _ (q r a b)⟩
section
end
section
variable {X:Cx}{W:Addr->Prop}{H:Hp}
theorem F_ {p:Addr}{vs:List V}{ds:List D}(n:H p=none)(f:NL (.lst ds))(r:jx X W H ds vs):Rp X (λa=>H a≠none) (upd H p (.lst vs)) (.lst ds) (.ref p) :=
 ⟨p,vs,rfl,ai,λz=>z n,ag.flat f (r.same (ar.new n))⟩
def Ra (X:Cx)(f:D->D->Option D):R2:=λx y H Q=>∃W d1 d2 d,Dm W H/\Rp X W H d1 x/\Rp X W H d2 y/\f d1 d2=some d/\∀v H',ar H H'->Rp X W H' d v->(NL d->Rp X (λa=>H a≠none) H' d v)->Q v H'
def Q_ (X:Cx)(f:List D->Option D):List V->Hp->VK->Prop:=λxs H Q=>∃W ds d,Dm W H/\jx X W H ds xs/\f ds=some d/\∀v H',ar H H'->Rp X W H' d v->(NL d->Rp X (λa=>H a≠none) H' d v)->Q v H'
def MY (X:Cx)(f:D->Option Int->Option Int->Option D):V->Option Int->Option Int->Hp->VK->Prop:=λx lo hi H Q=>∃W d1 d,Dm W H/\Rp X W H d1 x/\f d1 lo hi=some d/\∀v H',ar H H'->Rp X W H' d v->(NL d->Rp X (λa=>H a≠none) H' d v)->Q v H'
abbrev TN (X:Cx)(f:XO->XO->Sem XO)(g:D->D->Option D):Prop:=jy X f (Ra X g)
abbrev L7 (X:Cx)(f:XO)(g:List D->Option D):Prop:=dW X f (Q_ X g)
theorem aF:TN X (ZR .Add) Hh:=by
 intro pins s σ H x y v u Q I rx ry h;obtain⟨W,d1,d2,d,hd,r1,r2,e,q⟩:=h;rcases zF e with⟨a,b,rfl,rfl,e⟩|e
 ·obtain⟨hl,rfl⟩:=gw e;obtain⟨p,vs,rfl,h1,n1,q1⟩:=r1;obtain⟨p',vs',rfl,h2,n2,q2⟩:=r2;exact Cn pins s σ H _ _ v u Q I rx ry ⟨p,p',vs,vs',rfl,rfl,h1,h2,by rw[q1.length,q2.length];exact hl,λl wu=>q _ _ (ar.new wu) (Rp.rB hd wu (q1.append q2)) λf=>F_ wu f (q1.append q2)⟩
 ·obtain⟨i,j,rfl,rfl,e⟩:=kY e;cases e;cases r1;cases r2;exact rl pins s σ H _ _ v u Q I rx ry ⟨i,j,rfl,rfl,q _ _ (ar.refl _) rfl λ_=>rfl⟩
theorem Fh:TH X (MY X Qp):=by
 intro pins s σ H x v vl vu lo hi sl Q I rx hs pl pu h;obtain⟨W,d1,d,hd,r1,e,q⟩:=h;cases d1 with
 |lst ds =>
  cases e;obtain⟨p,vs,rfl,h1,n1,q1⟩:=r1;have rr:jx X W H (cutD ds lo hi) (uV vs lo hi):=by
   unfold uV cutD;rw[q1.length];exact(ag.drop _ q1).take _
  exact xk pins s σ H _ v vl vu lo hi sl Q I rx hs pl pu ⟨p,vs,rfl,dv.of h1,λl hl=>q _ _ (ar.new hl) (Rp.rB hd hl rr) λf=>F_ hl f rr⟩
 |_=>cases e
theorem lE:L7 X (.type "list") dList:=by
 intro pins s σ H xs us Q I r h;obtain⟨W,ds,d,hd,r1,e,q⟩:=h
 match ds,e with
 |[.lst es],e =>
  cases e;obtain⟨v,r',rfl,⟨p,vs,rfl,h1,n1,q1⟩,hr⟩:=r1;cases hr;exact kf pins s σ H _ us Q I r ⟨p,vs,rfl,.inl (dv.of h1),λl hl=>q _ _ (ar.new hl) (Rp.rB hd hl q1) λf=>F_ hl f q1⟩
 |[.tup es],e =>
  cases e;obtain⟨v,r',rfl,⟨p,vs,rfl,h1,q1⟩,hr⟩:=r1;cases hr;exact kf pins s σ H _ us Q I r ⟨p,vs,rfl,.inr (kh.of h1),λl hl=>q _ _ (ar.new hl) (Rp.rB hd hl q1) λf=>F_ hl f q1⟩
end
section
end
end L2
namespace L2.Q
open PySem PySem.Spec PySem.SeqAt PyProof.Rows
section
variable (P:XX)(w:X6)(H:Hp)
mutual
def Own:D->V->List Addr->Prop
 |.tup ds,v,A=>∃a vs,v=.ref a/\H a=some (.tup vs)/\aE ds vs A
 |.lst ds,v,A=>∃a vs A',v=.ref a/\H a=some (.lst vs)/\A=a::A'/\aE ds vs A'
 |.dT ks ds,v,A=>∃a vs A',v=.ref a/\H a=some (.dT (ks.zip vs))/\ks.length=vs.length/\A=a::A'/\aE ds vs A'
 |.dK ks ds,v,A=>∃a vs A',v=.ref a/\H a=some (.dK (ks.zip vs))/\ks.length=vs.length/\A=a::A'/\aE ds vs A'
 |.sT ts,v,A=>∃a,v=.ref a/\Hu P w H a ts/\A=[a]
 |.ob φ,v,A=>∃a,v=.ref a/\(H a=some (φ a)/\∀xs,φ a≠.tup xs)/\A=[a]
 |.cj,v,A=>v=.cj/\A=[]
 |.bl b,v,A=>v=.bl b/\A=[]
 |.int i,v,A=>v=.int i/\A=[]
 |.str x,v,A=>v=.str x/\A=[]
 |.obj a,v,A=>v=.ref a/\A=[]
def aE:List D->List V->List Addr->Prop
 |[],vs,A=>vs=[]/\A=[]
 |d::ds,vs,A=>∃v r A1 A2,vs=v::r/\A=A1++A2/\Own d v A1/\aE ds r A2
end
end
section
variable {P:XX}{w:X6}{W:Addr->Prop}{H H':Hp}
theorem yZ {a:Addr}{ts:List (List Int)}(k:∀b xs,H b=some (.tup xs)->H' b=some (.tup xs))(ha:∀o,H a=some o->H' a=some o)(h:Hu P w H a ts):Hu P w H' a ts :=
 let ⟨b7,e,r,z⟩:=h;⟨b7,ha _ e,λx hx=>k _ _ (r x hx),z⟩
mutual
theorem Own.keep (k:∀b xs,H b=some (.tup xs)->H' b=some (.tup xs)):∀{d:D} {v:V} {A:List Addr},(∀c∈A,∀o,H c=some o->H' c=some o)->Own P w H d v A->Own P w H' d v A
 |.tup ds,_,_,ha,⟨a,vs,e,t,r⟩=>⟨a,vs,e,k a vs t,aE.keep k ha r⟩
 |.lst ds,_,_,ha,⟨a,vs,A',e,t,eA,r⟩=>⟨a,vs,A',e,ha a (by rw[eA];simp) _ t,eA,aE.keep k (λc hc=>ha c (by rw[eA];simp[hc])) r⟩
 |.dT ks ds,_,_,ha,⟨a,vs,A',e,t,l,eA,r⟩=>⟨a,vs,A',e,ha a (by rw[eA];simp) _ t,l,eA,aE.keep k (λc hc=>ha c (by rw[eA];simp[hc])) r⟩
 |.dK ks ds,_,_,ha,⟨a,vs,A',e,t,l,eA,r⟩=>⟨a,vs,A',e,ha a (by rw[eA];simp) _ t,l,eA,aE.keep k (λc hc=>ha c (by rw[eA];simp[hc])) r⟩
 |.sT ts,_,_,ha,⟨a,e,r,eA⟩=>⟨a,e,yZ k (λo ho=>ha a (by rw[eA];simp) o ho) r,eA⟩
 |.ob φ,_,_,ha,⟨a,e,r,eA⟩=>⟨a,e,⟨ha a (by rw[eA];simp) _ r.1,r.2⟩,eA⟩
 |.cj,_,_,_,h=>h
 |.bl _,_,_,_,h=>h
 |.int _,_,_,_,h=>h
 |.str _,_,_,_,h=>h
 |.obj _,_,_,_,h=>h
theorem aE.keep (k:∀b xs,H b=some (.tup xs)->H' b=some (.tup xs)):∀{ds:List D} {vs:List V} {A:List Addr},(∀c∈A,∀o,H c=some o->H' c=some o)->aE P w H ds vs A->aE P w H' ds vs A
 |[],_,_,_,h=>h
 |d::ds,_,_,ha,⟨v,r,A1,A2,e,eA,h1,h2⟩=>⟨v,r,A1,A2,e,eA,Own.keep k (λc hc=>ha c (by rw[eA];simp[hc])) h1,aE.keep k (λc hc=>ha c (by rw[eA];simp[hc])) h2⟩
end
mutual
theorem Own.rep:∀{d:D} {v:V} {A:List Addr},(∀c∈A,¬ W c)->Own P w H d v A->az P w W H d v
 |.tup ds,_,_,ha,⟨a,vs,e,t,r⟩=>⟨a,vs,e,t,aE.rep ha r⟩
 |.lst ds,_,_,ha,⟨a,vs,A',e,t,eA,r⟩=>⟨a,vs,e,t,ha a (by rw[eA];simp),aE.rep (λc hc=>ha c (by rw[eA];simp[hc])) r⟩
 |.dT ks ds,_,_,ha,⟨a,vs,A',e,t,l,eA,r⟩=>⟨a,vs,e,t,l,ha a (by rw[eA];simp),aE.rep (λc hc=>ha c (by rw[eA];simp[hc])) r⟩
 |.dK ks ds,_,_,ha,⟨a,vs,A',e,t,l,eA,r⟩=>⟨a,vs,e,t,l,ha a (by rw[eA];simp),aE.rep (λc hc=>ha c (by rw[eA];simp[hc])) r⟩
 |.sT ts,_,_,ha,⟨a,e,r,eA⟩=>⟨a,e,r,ha a (by rw[eA];simp)⟩
 |.ob φ,_,_,ha,⟨a,e,r,eA⟩=>⟨a,e,r,ha a (by rw[eA];simp)⟩
 |.cj,_,_,_,h=>h.1
 |.bl _,_,_,_,h=>h.1
 |.int _,_,_,_,h=>h.1
 |.str _,_,_,_,h=>h.1
 |.obj _,_,_,_,h=>h.1
theorem aE.rep:∀{ds:List D} {vs:List V} {A:List Addr},(∀c∈A,¬ W c)->aE P w H ds vs A->ag P w W H ds vs
 |[],_,_,_,h=>h.1
 |d::ds,_,_,ha,⟨v,r,A1,A2,e,eA,h1,h2⟩=>⟨v,r,e,Own.rep (λc hc=>ha c (by rw[eA];simp[hc])) h1,aE.rep (λc hc=>ha c (by rw[eA];simp[hc])) h2⟩
end
mutual
theorem Own.nS:∀{d:D} {v:V} {A:List Addr},Own P w H d v A->∀c∈A,H c≠none/\∀xs,H c≠some (.tup xs)
 |.tup ds,_,_,⟨a,vs,e,t,r⟩,c,hc=>aE.nS r c hc
 |.lst ds,_,_,⟨a,vs,A',e,t,eA,r⟩,c,hc=>by
  rw[eA]at hc;rcases XU.mp hc with rfl|hc
  ·rw[t];exact⟨λz=>(nomatch z),λxs z=>by cases z⟩
  ·exact aE.nS r c hc
 |.dT ks ds,_,_,⟨a,vs,A',e,t,l,eA,r⟩,c,hc=>by
  rw[eA]at hc;rcases XU.mp hc with rfl|hc
  ·rw[t];exact⟨λz=>(nomatch z),λxs z=>by cases z⟩
  ·exact aE.nS r c hc
 |.dK ks ds,_,_,⟨a,vs,A',e,t,l,eA,r⟩,c,hc=>by
  rw[eA]at hc;rcases XU.mp hc with rfl|hc
  ·rw[t];exact⟨λz=>(nomatch z),λxs z=>by cases z⟩
  ·exact aE.nS r c hc
 |.sT ts,_,_,⟨a,e,⟨b7,t,r,z⟩,eA⟩,c,hc=>by
  rw[eA]at hc;rw[XW.mp hc,t];exact⟨λz=>(nomatch z),λxs z=>by cases z⟩
 |.ob φ,_,_,⟨a,e,⟨t,z⟩,eA⟩,c,hc=>by
  rw[eA]at hc;rw[XW.mp hc,t];exact⟨λz=>(nomatch z),λxs q=>z xs (Yv q)⟩
 |.cj,_,_,h,c,hc=>by rw[h.2]at hc;cases hc
 |.bl _,_,_,h,c,hc=>by rw[h.2]at hc;cases hc
 |.int _,_,_,h,c,hc=>by rw[h.2]at hc;cases hc
 |.str _,_,_,h,c,hc=>by rw[h.2]at hc;cases hc
 |.obj _,_,_,h,c,hc=>by rw[h.2]at hc;cases hc
theorem aE.nS:∀{ds:List D} {vs:List V} {A:List Addr},aE P w H ds vs A->∀c∈A,H c≠none/\∀xs,H c≠some (.tup xs)
 |[],_,_,h,c,hc=>by rw[h.2]at hc;cases hc
 |d::ds,_,_,⟨v,r,A1,A2,e,eA,h1,h2⟩,c,hc=>by
  rw[eA]at hc;rcases XZ.mp hc with hc|hc
  ·exact Own.nS h1 c hc
  ·exact aE.nS h2 c hc
end
mutual
theorem cU:∀{d:D} {v:V},d.flat=true->az P w W H d v->Own P w H d v []
 |.tup ds,_,f,⟨a,vs,e,t,r⟩=>⟨a,vs,e,t,iq (by simpa[D.flat] using f) r⟩
 |.lst ds,_,f,_=>by simp[D.flat]at f
 |.dT ks ds,_,f,_=>by simp[D.flat]at f
 |.dK ks ds,_,f,_=>by simp[D.flat]at f
 |.sT ts,_,f,_=>by simp[D.flat]at f
 |.ob φ,_,f,_=>by simp[D.flat]at f
 |.cj,_,_,h=>⟨h,rfl⟩
 |.bl _,_,_,h=>⟨h,rfl⟩
 |.int _,_,_,h=>⟨h,rfl⟩
 |.str _,_,_,h=>⟨h,rfl⟩
 |.obj _,_,_,h=>⟨h,rfl⟩
theorem iq:∀{ds:List D} {vs:List V},D.cf ds=true->ag P w W H ds vs->aE P w H ds vs []
 |[],_,_,h=>⟨h,rfl⟩
 |d::ds,_,f,⟨v,r,e,h1,h2⟩=>by
  have f':(d.flat&&D.cf ds)=true:=f;rw[Yu]at f';exact⟨v,r,[],[],e,rfl,cU f'.1 h1,iq f'.2 h2⟩
end
theorem aE.length:∀{ds:List D} {vs:List V} {A:List Addr},aE P w H ds vs A->vs.length=ds.length
 |[],_,_,h=>by rw[h.1];rfl
 |d::ds,_,_,⟨v,r,A1,A2,e,eA,h1,h2⟩=>by rw[e,Yt,Yt,aE.length h2]
theorem aE.append:∀{ds ds':List D} {vs vs':List V} {A A':List Addr},aE P w H ds vs A->aE P w H ds' vs' A'->aE P w H (ds++ds') (vs++vs') (A++A')
 |[],_,_,_,_,_,h,h'=>by rw[h.1,h.2];exact h'
 |d::ds,_,_,_,_,_,⟨v,r,A1,A2,e,eA,h1,h2⟩,h'=>by
  subst e eA;exact⟨v,_,A1,_,rfl,by rw[ZL],h1,aE.append h2 h'⟩
theorem aE.one {d:D}{v:V}{A:List Addr}(h:Own P w H d v A):aE P w H [d] [v] A:=⟨v,[],A,[],rfl,by simp,h,rfl,rfl⟩
theorem aE.split:∀{ds:List D} {vs:List V} {A:List Addr} {i:Nat} {d:D},aE P w H ds vs A->ds[i]?=some d->∃v A1 A2 A3,vs[i]?=some v/\A=A1++(A2++A3)/\aE P w H (ds.take i) (vs.take i) A1/\Own P w H d v A2/\aE P w H (ds.drop (i+1)) (vs.drop (i+1)) A3
 |[],_,_,_,_,_,e=>by simp at e
 |d::ds,_,_,0,_,⟨v,r,A1,A2,e,eA,h1,h2⟩,e'=>by
  simp at e';subst e' e eA;exact⟨v,[],A1,A2,by simp,by simp,⟨rfl,rfl⟩,h1,by simpa using h2⟩
 |d::ds,_,_,i+1,_,⟨v,r,A1,A2,e,eA,h1,h2⟩,e'=>by
  subst e eA;obtain⟨u,B1,B2,B3,g1,g2,g3,g4,g5⟩:=aE.split (i:=i) h2 (by simpa using e')
  exact⟨u,A1++B1,B2,B3,by simpa using g1,by rw[g2];simp[ZL],by simpa using ⟨v,_,A1,B1,rfl,rfl,h1,g3⟩,g4,by simpa using g5⟩
end
inductive Kd where
 |own|dY|old|bor
inductive Sk where
 |one|two|at (h:Addr)
inductive B where
 |val (y:Bool) (d:D)|own (d:D)|hand (ok:List Int->Prop)|shl (y:Sk) (d:D)
abbrev aL:=List (Option B)
structure Cfg where
 H0:Hp
 IO:Addr->Prop
 ro:Bool
 U:Addr->Prop:=λ_=>False
abbrev Wn (own:Nat->List Addr):Addr->Prop:=λa=>∃i,a∈own i
def av (C:Cfg)(W:Addr->Prop):Kd->Addr->Prop
 |.own,a=>W a\/C.H0 a≠none
 |.dY,a=>W a\/C.H0 a≠none
 |.old,a=>W a
 |.bor,_=>False
def dD (C:Cfg)(W:Addr->Prop)(k:Kd)(a:Addr):Prop:=av C W k a\/C.U a
abbrev yk (y:Bool):Kd:=match y with|true=>.dY|false=>.old
def HJ:D->HO->List V->Prop
 |.lst _,o,vs=>o=.lst vs
 |.dT ks _,o,vs=>o=.dT (ks.zip vs)/\ks.length=vs.length
 |.dK ks _,o,vs=>o=.dK (ks.zip vs)/\ks.length=vs.length
 |_,_,_=>False
def Jr:D->List D
 |.lst ds=>ds
 |.dT _ ds=>ds
 |.dK _ ds=>ds
 |_=>[]
def Hv (P:XX)(w:X6)(W:Addr->Prop)(H:Hp):List D->List V->List Addr->Prop
 |[],vs,A=>vs=[]/\A=[]
 |d::ds,vs,A=>∃b us r A',vs=.ref b::r/\A=b::A'/\H b=some (.lst us)/\(∃es,d=.lst es/\ag P w W H es us)/\Hv P w W H ds r A'
def lg (P:XX)(w:X6)(W:Addr->Prop)(H:Hp)(d:D)(v:V)(A:List Addr):Prop:=∃a o vs,v=.ref a/\A=[a]/\H a=some o/\HJ d o vs/\ag P w W H (Jr d) vs
def Au (P:XX)(w:X6)(W:Addr->Prop)(H:Hp)(y:Sk)(d:D)(v:V)(A:List Addr):Prop:=match y with
 |.one=>lg P w W H d v A
 |.at h=>lg P w W H d v A/\v=.ref h
 |.two=>∃a vs A' ds,v=.ref a/\A=a::A'/\H a=some (.lst vs)/\d=.lst ds/\Hv P w W H ds vs A'
theorem Hv.map {P:XX}{w:X6}{W W':Addr->Prop}{H H':Hp}(hr:∀ds vs,ag P w W H ds vs->ag P w W' H' ds vs):∀{ds:List D} {vs:List V} {A:List Addr},(∀c∈A,∀o,H c=some o->H' c=some o)->Hv P w W H ds vs A->Hv P w W' H' ds vs A
 |[],_,_,_,h=>h
 |_::_,_,_,ha,⟨b,us,r,A',e1,e2,e3,⟨es,e4,e5⟩,h⟩=>⟨b,us,r,A',e1,e2,ha b (by rw[e2];simp) _ e3,⟨es,e4,hr _ _ e5⟩,Hv.map hr (λc hc=>ha c (by rw[e2];simp[hc])) h⟩
theorem Hv.rep {P:XX}{w:X6}{W W':Addr->Prop}{H:Hp}(hs:∀ds vs,ag P w W H ds vs->ag P w W' H ds vs):∀{ds:List D} {vs:List V} {A:List Addr},(∀c∈A,¬ W' c)->Hv P w W H ds vs A->ag P w W' H ds vs
 |[],_,_,_,h=>h.1
 |_::_,_,_,ha,⟨b,us,r,A',e1,e2,e3,⟨es,e4,e5⟩,h⟩=>by
  subst e1 e2 e4;exact⟨.ref b,r,rfl,⟨b,us,rfl,e3,ha b (by simp),hs _ _ e5⟩,Hv.rep hs (λc hc=>ha c (by simp[hc])) h⟩
theorem lg.map {P:XX}{w:X6}{W W':Addr->Prop}{H H':Hp}{d:D}{v:V}{A:List Addr}(h:lg P w W H d v A)(ha:∀c∈A,∀o,H c=some o->H' c=some o)(hr:∀ds vs,ag P w W H ds vs->ag P w W' H' ds vs):lg P w W' H' d v A :=
 let ⟨a,o,vs,e1,e2,e3,e4,r⟩:=h;⟨a,o,vs,e1,e2,ha a (by rw[e2];simp) o e3,e4,hr _ _ r⟩
theorem Au.map {P:XX}{w:X6}{W W':Addr->Prop}{H H':Hp}{y:Sk}{d:D}{v:V}{A:List Addr}(h:Au P w W H y d v A)(ha:∀c∈A,∀o,H c=some o->H' c=some o)(hr:∀ds vs,ag P w W H ds vs->ag P w W' H' ds vs):Au P w W' H' y d v A:=by
 cases y with
 |one=>exact lg.map h ha hr
 | «at» b=>exact⟨lg.map h.1 ha hr,h.2⟩
 |two =>
  obtain⟨a,vs,A',ds,e1,e2,e3,e4,r⟩:=h;exact⟨a,vs,A',ds,e1,e2,ha a (by rw[e2];simp) _ e3,e4,r.map hr λc hc=>ha c (by rw[e2];simp[hc])⟩
theorem lg.rep {P:XX}{w:X6}{W W':Addr->Prop}{H:Hp}{d:D}{v:V}{A:List Addr}(h:lg P w W H d v A)(ha:∀c∈A,¬ W' c)(hs:∀ds vs,ag P w W H ds vs->ag P w W' H ds vs):az P w W' H d v:=by
 obtain⟨a,o,vs,rfl,rfl,e,sh,r⟩:=h;have na:=ha a (by simp)
 replace r:=hs _ _ r;cases d with
 |lst ds=>cases sh;exact⟨a,vs,rfl,e,na,r⟩
 |dT ks ds=>obtain⟨rfl,l⟩:=sh;exact⟨a,vs,rfl,e,l,na,r⟩
 |dK ks ds=>obtain⟨rfl,l⟩:=sh;exact⟨a,vs,rfl,e,l,na,r⟩
 |_=>exact sh.elim
theorem Au.rep {P:XX}{w:X6}{W W':Addr->Prop}{H:Hp}{y:Sk}{d:D}{v:V}{A:List Addr}(h:Au P w W H y d v A)(ha:∀c∈A,¬ W' c)(hs:∀ds vs,ag P w W H ds vs->ag P w W' H ds vs):az P w W' H d v:=by
 cases y with
 |one=>exact lg.rep h ha hs
 | «at» b=>exact lg.rep h.1 ha hs
 |two =>
  obtain⟨a,vs,A',ds,rfl,rfl,e3,rfl,r⟩:=h;exact⟨a,vs,rfl,e3,ha a (by simp),r.rep hs λc hc=>ha c (by simp[hc])⟩
structure bf (P:XX)(w:X6)(C:Cfg)(σ:St)(H:Hp)(β:aL)(own:Nat->List Addr):Prop where
 len:β.length=σ.length
 val:∀(i:Nat) (y:Bool) (d:D),β[i]?=some (some (.val y d))->∃v,σ[i]?=some (some v)/\az P w (dD C (Wn own) (yk y)) H d v
 ow:∀(i:Nat) (d:D),β[i]?=some (some (.own d))->∃v,σ[i]?=some (some v)/\Own P w H d v (own i)/\∀c∈own i,C.H0 c=none
 jV:∀(i:Nat) (ok:List Int->Prop),β[i]?=some (some (.hand ok))->∃a ns,σ[i]?=some (some (.ref a))/\H a=some (.lst (ns.map V.int))/\ok ns/\own i=[a]/\((∀b,¬ C.IO b)\/C.IO a)
 dm:∀(i:Nat) (a:Addr),a∈own i->H a≠none/\(∀xs,H a≠some (.tup xs))/\(C.H0 a=none\/C.IO a)/\¬ C.U a
 hV:∀(i j:Nat) (a:Addr),a∈own i->a∈own j->i=j
 i_:∀i,(own i).Nodup
 kp:Kp C.IO C.H0 H
 fj:∀a,C.H0 a≠none->H a≠none
 shl:∀(i:Nat) (y:Sk) (d:D),β[i]?=some (some (.shl y d))->∃v,σ[i]?=some (some v)/\Au P w (dD C (Wn own) (yk true)) H y d v (own i)/\∀c∈own i,C.H0 c=none
abbrev SQ (X:Cx):=bf X.prog X.w
section
variable {P:XX}{w:X6}{C:Cfg}{σ:St}{H H':Hp}{β:aL}{own:Nat->List Addr}{W W':Addr->Prop}
theorem bf.r9 (b:bf P w C σ H β own):Dm (Wn own) H:=λa ⟨i,h⟩=>(b.dm i a h).1
theorem bf.AK (b:bf P w C σ H β own)(k:Kd):Dm (av C (Wn own) k) H:=λa h=>by
 cases k with
 |own=>exact h.elim (b.r9 a) (b.fj a)
 |dY=>exact h.elim (b.r9 a) (b.fj a)
 |old=>exact b.r9 a h
 |bor=>exact h.elim
theorem gB (s:∀a,W' a->W a)(k:Kd):∀a,av C W' k a->av C W k a:=λa h=>by
 cases k with
 |own=>exact h.imp (s a) id
 |dY=>exact h.imp (s a) id
 |old=>exact s a h
 |bor=>exact h
theorem dB (s:∀a,W' a->W a)(k:Kd):∀a,dD C W' k a->dD C W k a:=λa h=>h.imp (gB s k a) id
theorem bf.keep (b:bf P w C σ H β own)(k:Kp (λa=>H a=none) H H')(kp:Kp C.IO H H')(dn:∀a,H a≠none->H' a≠none):bf P w C σ H' β own:=by
 have ko:∀c o,H c=some o->H' c=some o:=λc o e=>k.out c o e (by rw[e];exact λz=>(nomatch z))
 have same:ar H H':=ko;exact⟨b.len,λi y d e=>let ⟨v,h1,h2⟩:=b.val i y d e;⟨v,h1,h2.same same⟩,λi d e=>let ⟨v,h1,h2,h3⟩:=b.ow i d e;⟨v,h1,h2.keep (λ_ _ e=>same _ _ e) (λc _ o e=>same c o e),h3⟩,
  λi ok e=>let ⟨a,ns,h1,h2,h3⟩:=b.jV i ok e;⟨a,ns,h1,same _ _ h2,h3⟩,λi a h=>by
   obtain⟨h1,h2,h3⟩:=b.dm i a h;cases q:H a with
   |none=>exact absurd q h1
   |some o=>rw[same a o q];exact⟨λz=>(nomatch z),λxs z=>h2 xs (by rw[q];exact z),h3⟩,b.hV,b.i_,b.kp.trans kp,λa z=>dn a (b.fj a z),λi y d e=>let ⟨v,h1,h2,h3⟩:=b.shl i y d e;⟨v,h1,h2.map (λc _ o e=>same c o e) (λ_ _ r=>r.same same),h3⟩⟩
theorem bf.same (b:bf P w C σ H β own)(s:ar H H'):bf P w C σ H' β own:=b.keep s.kp s.kp λa z e=>z (s.free e)
theorem gR {own:Nat->List Addr}{i:Nat}{a:Addr}(h:Wn (aC own i []) a):Wn own a:=let ⟨j,q⟩:=h;⟨j,(bR q).1⟩
theorem aZ {own:Nat->List Addr}{i j:Nat}{A:List Addr}(h:i≠j):aC own i A j=own j:=by unfold aC;rw[if_neg (YW h)]
theorem os_eq {own:Nat->List Addr}{i:Nat}{A:List Addr}:aC own i A i=A:=by unfold aC;rw[if_pos rfl]
theorem bf.eJ {i:Nat}{d:D}{v:V}{y:Bool}(b:bf P w C σ H β own)(r:az P w (dD C (Wn own) (yk y)) H d v):bf P w C (σ.set i (some v)) H (β.set i (some (.val y d))) (aC own i []):=by
 have sub:∀y a,dD C (Wn (aC own i [])) (yk y) a->dD C (Wn own) (yk y) a:=λy=>dB (λa h=>gR h) _;refine⟨by simp[b.len],λj y' d' e=>?_,λj d' e=>?_,λj ok e=>?_,λj a h=>b.dm j a (bR h).1,λj k a h1 h2=>b.hV j k a (bR h1).1 (bR h2).1,λj=>?_,b.kp,b.fj,λj y' d' e=>?_⟩
 ·by_cases aA:i=j
  ·subst aA;obtain⟨e',hl⟩:=aT e;cases e';exact⟨v,get_set (by rw[<- b.len];exact hl),r.aQ (sub _)⟩
  ·rw[aS aA]at e ⊢
   obtain⟨u,h1,h2⟩:=b.val j y' d' e;exact⟨u,h1,h2.aQ (sub _)⟩
 ·by_cases aA:i=j
  ·subst aA;obtain⟨e',hl⟩:=aT e;cases e'
  ·rw[aS aA]at e ⊢
   rw[aZ aA];exact b.ow j d' e
 ·by_cases aA:i=j
  ·subst aA;obtain⟨e',hl⟩:=aT e;cases e'
  ·rw[aS aA]at e ⊢
   rw[aZ aA];exact b.jV j ok e
 ·by_cases aA:i=j
  ·rw[aA,os_eq];exact YA
  ·rw[aZ aA];exact b.i_ j
 ·by_cases aA:i=j
  ·subst aA;obtain⟨e',hl⟩:=aT e;cases e'
  ·rw[aS aA]at e ⊢
   rw[aZ aA];obtain⟨u,h1,h2,h3⟩:=b.shl j y' d' e;exact⟨u,h1,h2.map (λ_ _ _ z=>z) (λ_ _ r=>ag.aQ (sub _) r),h3⟩
theorem bf.mC {i:Nat}{d:D}{v:V}{A:List Addr}(b:bf P w C σ H β own)(r:Own P w H d v A)(nd:A.Nodup)(nw:∀c∈A,C.H0 c=none/\¬ Wn own c/\C.U c):
  bf P w {C with U:=λ_=>False} (σ.set i (some v)) H (β.set i (some (.own d))) (aC own i A):=by
 have sub:∀y a,dD {C with U:=λ_=>False} (Wn (aC own i A)) (yk y) a->dD C (Wn own) (yk y) a:=λy a h=>by
  have q:∀a,Wn (aC own i A) a->Wn own a\/a∈A:=λa jU=>by
   obtain⟨j,q⟩:=jU
   by_cases aA:i=j
   ·rw[aA,os_eq]at q;exact .inr q
   ·rw[aZ aA]at q;exact .inl ⟨j,q⟩
  have q':∀a,Wn (aC own i A) a->Wn own a\/C.U a:=λa z=>(q a z).imp id λz=>(nw a z).2.2;rcases h with h|h
  ·cases y with
   |true=>exact h.elim (λz=>(q' a z).imp .inl id) λz=>.inl (.inr z)
   |false=>exact q' a h
  ·exact h.elim
 have mem:∀{j c},c∈aC own i A j->(i=j/\c∈A)\/(i≠j/\c∈own j):=λ{j c} h=>by
  by_cases aA:i=j
  ·subst aA;rw[os_eq]at h;exact .inl ⟨rfl,h⟩
  ·rw[aZ aA]at h;exact .inr ⟨aA,h⟩
 refine⟨by simp[b.len],λj y' d' e=>?_,λj d' e=>?_,λj ok e=>?_,λj a h=>?_,λj k a h1 h2=>?_,λj=>?_,b.kp,b.fj,λj y' d' e=>?_⟩
 ·by_cases aA:i=j
  ·subst aA;obtain⟨e',hl⟩:=aT e;cases e'
  ·rw[aS aA]at e ⊢
   obtain⟨u,h1,h2⟩:=b.val j y' d' e;exact⟨u,h1,h2.aQ (sub _)⟩
 ·by_cases aA:i=j
  ·subst aA;obtain⟨e',hl⟩:=aT e;cases e';rw[os_eq];exact⟨v,get_set (by rw[<- b.len];exact hl),r,λc hc=>(nw c hc).1⟩
  ·rw[aS aA]at e ⊢
   rw[aZ aA];exact b.ow j d' e
 ·by_cases aA:i=j
  ·subst aA;obtain⟨e',hl⟩:=aT e;cases e'
  ·rw[aS aA]at e ⊢
   rw[aZ aA];exact b.jV j ok e
 ·rcases mem h with⟨_,h⟩|⟨_,h⟩
  ·exact⟨(r.nS a h).1,(r.nS a h).2,.inl (nw a h).1,λz=>z⟩
  ·exact⟨(b.dm j a h).1,(b.dm j a h).2.1,(b.dm j a h).2.2.1,λz=>z⟩
 ·rcases mem h1 with⟨e1,h1⟩|⟨n1,h1⟩
  ·rcases mem h2 with⟨e2,h2⟩|⟨n2,h2⟩
   ·rw[<- e1,<- e2]
   ·exact absurd ⟨k,h2⟩ (nw a h1).2.1
  ·rcases mem h2 with⟨e2,h2⟩|⟨n2,h2⟩
   ·exact absurd ⟨j,h1⟩ (nw a h2).2.1
   ·exact b.hV j k a h1 h2
 ·by_cases aA:i=j
  ·rw[<- aA,os_eq];exact nd
  ·rw[aZ aA];exact b.i_ j
 ·by_cases aA:i=j
  ·subst aA;obtain⟨e',hl⟩:=aT e;cases e'
  ·rw[aS aA]at e ⊢
   rw[aZ aA];obtain⟨u,h1,h2,h3⟩:=b.shl j y' d' e;exact⟨u,h1,h2.map (λ_ _ _ z=>z) (λ_ _ r=>ag.aQ (sub _) r),h3⟩
theorem bf.freeze {i:Nat}{d:D}(b:bf P w C σ H β own)(h:β[i]?=some (some (.own d))):bf P w C σ H (β.set i (some (.val true d))) (aC own i []):=by
 obtain⟨v,h1,h2,h3⟩:=b.ow i d h;have e:σ.set i (some v)=σ:=by
  apply Z6;intro j;rw[Zz]
  by_cases aA:i=j
  ·subst aA;rw[if_pos rfl,h1];have:i<σ.length:=(X0.mp h1).1;rw[if_pos this]
  ·rw[if_neg aA]
 have q:=bf.eJ (i:=i) (d:=d) (v:=v) (y:=true) (own:=aC own i []) (C:=C) (P:=P) (w:=w) (σ:=σ) (H:=H) (β:=β.set i none);have b':bf P w C σ H (β.set i none) (aC own i []):=by
  have sub:∀y a,dD C (Wn (aC own i [])) (yk y) a->dD C (Wn own) (yk y) a:=λy=>dB (λa h=>gR h) _;refine⟨by simp[b.len],λj y' d' e=>?_,λj d' e=>?_,λj ok e=>?_,λj a h=>b.dm j a (bR h).1,λj k a h1 h2=>b.hV j k a (bR h1).1 (bR h2).1,λj=>?_,b.kp,b.fj,λj y' d' e=>?_⟩
  ·by_cases aA:i=j
   ·subst aA;obtain⟨e',hl⟩:=aT e;cases e'
   ·rw[aS aA]at e;obtain⟨u,h1,h2⟩:=b.val j y' d' e;exact⟨u,h1,h2.aQ (sub _)⟩
  ·by_cases aA:i=j
   ·subst aA;obtain⟨e',hl⟩:=aT e;cases e'
   ·rw[aS aA]at e;rw[aZ aA];exact b.ow j d' e
  ·by_cases aA:i=j
   ·subst aA;obtain⟨e',hl⟩:=aT e;cases e'
   ·rw[aS aA]at e;rw[aZ aA];exact b.jV j ok e
  ·by_cases aA:i=j
   ·rw[aA,os_eq];exact YA
   ·rw[aZ aA];exact b.i_ j
  ·by_cases aA:i=j
   ·subst aA;obtain⟨e',hl⟩:=aT e;cases e'
   ·rw[aS aA]at e;rw[aZ aA];obtain⟨u,h1,h2,h3⟩:=b.shl j y' d' e;exact⟨u,h1,h2.map (λ_ _ _ z=>z) (λ_ _ r=>ag.aQ (sub _) r),h3⟩
 have q:=bf.eJ (i:=i) (d:=d) (v:=v) (y:=true) b' (h2.rep λc hc z=>by
  rcases z with (z|z)|z
  ·obtain⟨j,hj⟩:=z;obtain⟨hj,ne⟩:=bR hj;exact ne (b.hV j i c hj hc)
  ·exact z (h3 c hc)
  ·exact(b.dm i c hc).2.2.2 z)
 rw[e,ZY]at q;have eo:aC (aC own i []) i []=aC own i []:=by
  funext j
  by_cases aA:i=j
  ·rw[<- aA,os_eq,os_eq]
  ·rw[aZ aA,aZ aA]
 rwa [eo]at q
abbrev Cfg.u (C:Cfg)(U:Addr->Prop):Cfg:={C with U:=U}
theorem bf.iP {U:Addr->Prop}(b:bf P w C σ H β own)(hU:∀a,U a->H a=none):bf P w (C.u U) σ H β own :=
 ⟨b.len,λi y d e=>let ⟨v,h1,h2⟩:=b.val i y d e;⟨v,h1,az.grow (λa z=>z.elim (λz=>.inl (.inl z)) λz=>.inr (hU a z)) h2⟩,b.ow,b.jV,λi a h=>let ⟨h1,h2,h3,_⟩:=b.dm i a h;⟨h1,h2,h3,λz=>h1 (hU a z)⟩,b.hV,b.i_,b.kp,b.fj,λi y d e=>let ⟨v,h1,h2,h3⟩:=b.shl i y d e;⟨v,h1,h2.map (λ_ _ _ z=>z) (λ_ _ r=>ag.grow (λa z=>z.elim (λz=>.inl (.inl z)) λz=>.inr (hU a z)) r),h3⟩⟩
theorem bf.Rz {U:Addr->Prop}(b:bf P w (C.u U) σ H β own):bf P w (C.u λ_=>False) σ H β own :=
 ⟨b.len,λi y d e=>let ⟨v,h1,h2⟩:=b.val i y d e;⟨v,h1,az.aQ (λa z=>z.elim .inl λz=>z.elim) h2⟩,b.ow,b.jV,λi a h=>let ⟨h1,h2,h3,_⟩:=b.dm i a h;⟨h1,h2,h3,λz=>z⟩,b.hV,b.i_,b.kp,b.fj,λi y d e=>let ⟨v,h1,h2,h3⟩:=b.shl i y d e;⟨v,h1,h2.map (λ_ _ _ z=>z) (λ_ _ r=>ag.aQ (λa z=>z.elim .inl λz=>z.elim) r),h3⟩⟩
theorem bf.fg {i:Nat}{y:Bool}{d:D}(b:bf P w C σ H β own)(e:β[i]?=some (some (.val y d))):∃v,σ[i]?=some (some v)/\az P w (av C (Wn own) (yk y)) H d v:=let ⟨v,h1,h2⟩:=b.val i y d e;⟨v,h1,az.aQ (λa z=>.inl z) h2⟩
end
def KV (P:XX)(w:X6)(C:Cfg)(Z:Hp×(Addr->Prop))(own:Nat->List Addr)(H:Hp):Kd->D->V->Prop
 |.own,d,v=>∃A,Own P w H d v A/\A.Nodup/\∀c∈A,Z.1 c=none/\¬ Wn own c/\C.H0 c=none
 |.dY,d,v=>az P w (av C (Wn own) .dY) H d v
 |.old,d,v=>az P w (av C (Wn own) .old) H d v
 |.bor,d,v=>az P w (av C (Wn own) .bor) H d v
structure TM (P:XX)(w:X6)(C:Cfg)(σ:St)(H:Hp)(own:Nat->List Addr)(p:Bool)(β':aL)(H':Hp)(aK:Nat->List Addr):Prop where
 sq:bf P w C σ H' β' aK
 sn:Sn (H,Wn own) H' (Wn aK)
 pu:p=true->ar H H'/\aK=own
 le:∀a,Wn aK a->Wn own a
abbrev Out (X:Cx):=TM X.prog X.w
section
variable {X:Cx}{C:Cfg}{σ:St}{H H1 H2 H':Hp}{own au aU:Nat->List Addr}{p p':Bool}{β β1 β2 β':aL}{Z:Hp×(Addr->Prop)}{d:D}{v:V}{k:Kd}{P:XX}{w:X6}
theorem Out.refl (s:SQ X C σ H β own)(p:Bool):Out X C σ H own p β H own:=⟨s,Sn.refl,λ_=>⟨ar.refl _,rfl⟩,λ_ z=>z⟩
theorem Out.trans (a:Out X C σ H own p β1 H1 au)(b:Out X C σ H1 au p' β2 H2 aU):Out X C σ H own (p&&p') β2 H2 aU:=⟨b.sq,a.sn.trans b.sn,λh=>by
 rw[Yu]at h;obtain⟨s1,e1⟩:=a.pu h.1;obtain⟨s2,e2⟩:=b.pu h.2;exact⟨s1.trans s2,e2.trans e1⟩,λc z=>a.le c (b.le c z)⟩
theorem Out.same (a:Out X C σ H own p β1 H1 au)(s:ar H1 H2):Out X C σ H own p β1 H2 au:=⟨a.sq.same s,a.sn.same s,λh=>let ⟨s1,e1⟩:=a.pu h;⟨s1.trans s,e1⟩,a.le⟩
theorem Out.wk (a:Out X C σ H own p β1 H1 au)(h:p'=true->p=true):Out X C σ H own p' β1 H1 au:=⟨a.sq,a.sn,λz=>a.pu (h z),a.le⟩
theorem Out.Vl {q:Bool}(a:Out X C σ H own p β1 H1 au)(b:Out X C σ H1 au p' β2 H2 aU)(h:q=true->p=true/\p'=true):Out X C σ H own q β2 H2 aU:=(a.trans b).wk λz=>by rw[(h z).1,(h z).2];rfl
theorem KV.rep (h:KV P w C Z own H k d v):az P w (av C (Wn own) k) H d v:=by
 cases k with
 |own=>obtain⟨A,h1,h2,h3⟩:=h;exact h1.rep λc hc z=>z.elim (h3 c hc).2.1 λz=>z (h3 c hc).2.2
 |_=>exact h
theorem KV.dY (h:KV P w C Z own H .own d v):KV P w C Z own H .dY d v:=KV.rep (k:=.own) h
theorem KV.flat {W:Addr->Prop}(f:d.flat=true)(h:az P w W H d v):KV P w C Z own H .own d v:=⟨[],cU f h,YA,λc hc=>(nomatch hc)⟩
noncomputable abbrev Kd.wk:Kd->Kd
 |.own=>.dY
 |.dY=>.dY
 |.old=>.old
 |.bor=>.bor
abbrev Kd.max:Kd->Kd->Kd
 |.bor,_=>.bor
 |_,.bor=>.bor
 |.old,_=>.old
 |_,.old=>.old
 |_,_=>.dY
theorem du {W:Addr->Prop}{a b:Kd}:∀c,av C W (a.max b) c->av C W a c:=λc h=>by
 cases a <;> cases b <;> first|exact h|exact h.elim|exact .inl h
theorem gC {W:Addr->Prop}{a b:Kd}:∀c,av C W (a.max b) c->av C W b c:=λc h=>by
 cases a <;> cases b <;> first|exact h|exact h.elim|exact .inl h
theorem KV.of (h:az P w (av C (Wn own) k.wk) H d v):KV P w C Z own H k.wk d v:=by
 cases k <;> exact h
theorem KV.MQ (h:KV P w C Z own H k d v)(s:ar H H'):KV P w C Z own H' k d v:=by
 cases k with
 |own=>obtain⟨A,h1,h2⟩:=h;exact⟨A,h1.keep (λb xs e=>s _ _ e) (λc _ o e=>s c o e),h2⟩
 |dY=>exact az.same s h
 |old=>exact az.same s h
 |bor=>exact az.same s h
theorem KV.held (hk:k≠.bor)(h:KV P w C Z own H k d v)(n:Sn (H,Wn own) H2 (Wn aU)):KV P w C Z aU H2 k d v:=by
 cases k with
 |own =>
  obtain⟨A,h1,h2,h3⟩:=h;refine⟨A,h1.keep n.k.tup (λc hc o e=>n.k.out c o e λz=>z.elim (h3 c hc).2.1 λz=>(h1.nS c hc).1 z),h2,λc hc=>⟨(h3 c hc).1,λz=>(n.w c z).elim (h3 c hc).2.1 λz=>(h1.nS c hc).1 z,(h3 c hc).2.2⟩⟩
 |dY =>
  have g:az P w (λa=>av C (Wn own) .dY a\/H a=none) H d v:=az.grow (λb z=>z) h;exact az.aQ (λb z=>z.elim (λz=>(n.w b z).imp .inl id) λz=>.inl (.inr z)) (az.keep (n.k.mono λb z=>z.imp .inl id) g)
 |old=>exact held (W:=Wn own) h n
 |bor=>exact absurd rfl hk
theorem KV.OY (h:KV P w C Z own H k d v)(s:ar H H2)(e:aU=own):KV P w C Z aU H2 k d v:=by rw[e];exact h.MQ s
abbrev hold (k:Kd)(p:Bool):Prop:=match k,p with
 |.bor,false=>False
 |_,_=>True
theorem KV.ho (h:KV P w C Z own H k d v)(o:Out X C σ H own p β' H2 aU)(hh:hold k p):KV P w C Z aU H2 k d v:=by
 cases p with
 |true=>obtain⟨s,e⟩:=o.pu rfl;exact h.OY s e
 |false=>exact h.held (by rintro rfl;exact hh) o.sn
theorem KV.later (h:KV P w C (H1,Wn au) own H k d v)(n:Sn Z H1 (Wn au)):KV P w C Z own H k d v:=by
 cases k with
 |own=>obtain⟨A,h1,h2,h3⟩:=h;exact⟨A,h1,h2,λc hc=>⟨n.free (h3 c hc).1,(h3 c hc).2⟩⟩
 |_=>exact h
end
abbrev aB:=aL->(D->Kd->aL->Prop)->Prop
abbrev aN:=aL->(Bool->aL->Prop)->Prop
abbrev cg:=aL->(List D->List Kd->aL->Prop)->Prop
def tQ (X:Cx)(C:Cfg)(p:Bool)(φ:aB):TE:=λσ H Q=>∃β own,SQ X C σ H β own/\φ β λd k β'=>∀v H' aK,Out X C σ H own p β' H' aK->KV X.prog X.w C (H,Wn own) aK H' k d v->Q v H'
def ib (X:Cx)(C:Cfg)(p:Bool)(φ:aN):TT:=λσ H Q=>∃β own,SQ X C σ H β own/\φ β λb β'=>∀H' aK,Out X C σ H own p β' H' aK->Q b H'
def KF (P:XX)(w:X6)(C:Cfg)(own:Nat->List Addr)(H:Hp):List Kd->List D->List V->List Addr->Prop
 |[],ds,vs,A=>ds=[]/\vs=[]/\A=[]
 |k::ks,ds,vs,A=>∃d dr v vr A1 A2,ds=d::dr/\vs=v::vr/\A=A1++A2/\(match k with | .own=>Own P w H d v A1|k=>A1=[]/\az P w (av C (Wn own) k) H d v)/\KF P w C own H ks dr vr A2
def vc (P:XX)(w:X6)(C:Cfg)(Z:Hp×(Addr->Prop))(own:Nat->List Addr)(H:Hp)(ks:List Kd)(ds:List D)(vs:List V):Prop :=
 ∃A,KF P w C own H ks ds vs A/\A.Nodup/\∀c∈A,Z.1 c=none/\¬ Wn own c/\C.H0 c=none
def vg (X:Cx)(C:Cfg)(p:Bool)(φ:cg):TA:=λσ H Q=>∃β own,SQ X C σ H β own/\φ β λds ks β'=>∀vs H' aK,Out X C σ H own p β' H' aK->vc X.prog X.w C (H,Wn own) aK H' ks ds vs->Q vs H'
section
variable {C:Cfg}{H H1:Hp}{own au:Nat->List Addr}{Z:Hp×(Addr->Prop)}{d:D}{v:V}{k:Kd}{P:XX}{w:X6}{ks:List Kd}{ds:List D}{vs:List V}
theorem vc.nil:vc P w C Z own H [] [] []:=⟨[],⟨rfl,rfl,rfl⟩,YA,λc hc=>(nomatch hc)⟩
theorem KF.nS:∀{ks:List Kd} {ds:List D} {vs:List V} {A:List Addr},KF P w C own H ks ds vs A->∀c∈A,H c≠none
 |[],_,_,_,⟨_,_,e⟩,c,hc=>by rw[e]at hc;cases hc
 |k::ks,_,_,_,⟨d,dr,v,vr,A1,A2,rfl,rfl,rfl,h1,h2⟩,c,hc=>by
  rcases XZ.mp hc with hc|hc
  ·cases k with
   |own=>exact(Own.nS h1 c hc).1
   |_=>rw[h1.1]at hc;cases hc
  ·exact KF.nS h2 c hc
theorem vc.cons (h1:KV P w C Z au H1 k d v)(n:Sn (H1,Wn au) H (Wn own))(GN:KV P w C Z own H k d v)(h2:vc P w C (H1,Wn au) own H ks ds vs)(n0:Sn Z H1 (Wn au)):vc P w C Z own H (k::ks) (d::ds) (v::vs):=by
 obtain⟨A2,f2,Gb,q2⟩:=h2;have z2:∀c∈A2,Z.1 c=none/\¬ Wn own c/\C.H0 c=none:=λc hc=>⟨n0.free (q2 c hc).1,(q2 c hc).2⟩;cases k with
 |own =>
  obtain⟨A1,o1,CH,q1⟩:=h1;obtain⟨XJ,Xx,VU,P5⟩:=(show KV P w C Z own H .own d v from KV.held (k:=.own) (λz=>(nomatch z)) (⟨A1,o1,CH,q1⟩:KV P w C Z au H1 .own d v) n)
  have Rw:Own P w H d v A1:=o1.keep n.k.tup (λc hc o e=>n.k.out c o e λz=>z.elim (q1 c hc).2.1 λz=>(o1.nS c hc).1 z);refine⟨A1++A2,⟨d,ds,v,vs,A1,A2,rfl,rfl,rfl,Rw,f2⟩,YK.mpr ⟨CH,Gb,λa ha b hb e=>?_⟩,λc hc=>?_⟩
  ·subst e;exact(o1.nS a ha).1 (q2 a hb).1
  ·rcases XZ.mp hc with hc|hc
   ·exact⟨(q1 c hc).1,λz=>(n.w c z).elim (q1 c hc).2.1 λz=>(o1.nS c hc).1 z,(q1 c hc).2.2⟩
   ·exact z2 c hc
 |dY=>exact⟨A2,⟨d,ds,v,vs,[],A2,rfl,rfl,rfl,⟨rfl,GN⟩,f2⟩,Gb,z2⟩
 |old=>exact⟨A2,⟨d,ds,v,vs,[],A2,rfl,rfl,rfl,⟨rfl,GN⟩,f2⟩,Gb,z2⟩
 |bor=>exact⟨A2,⟨d,ds,v,vs,[],A2,rfl,rfl,rfl,⟨rfl,GN⟩,f2⟩,Gb,z2⟩
abbrev gM:List Kd->Kd
 |[]=>.dY
 |k::ks=>Kd.max k (gM ks)
theorem KF.i6:∀{ks:List Kd} {ds:List D} {vs:List V} {A:List Addr},KF P w C own H ks ds vs A->(∀c∈A,¬ Wn own c/\C.H0 c=none)->ag P w (av C (Wn own) (gM ks)) H ds vs
 |[],_,_,_,⟨e1,e2,e⟩,_=>by rw[e1,e2];rfl
 |k::ks,_,_,_,⟨d,dr,v,vr,A1,A2,rfl,rfl,rfl,h1,h2⟩,hA=>by
  refine⟨v,vr,rfl,?_,ag.aQ gC (KF.i6 h2 λc hc=>hA c (Yn _ hc))⟩;cases k with
  |own=>exact az.aQ du (Own.rep (W:=av C (Wn own) .own) (λc hc z=>z.elim (hA c (Yq _ hc)).1 λz=>z (hA c (Yq _ hc)).2) h1)
  |dY=>exact az.aQ (du (a:=.dY)) h1.2
  |old=>exact az.aQ (du (a:=.old)) h1.2
  |bor=>exact az.aQ (du (a:=.bor)) h1.2
theorem vc.i6 (h:vc P w C Z own H ks ds vs):ag P w (av C (Wn own) (gM ks)) H ds vs:=let ⟨A,h1,_,h3⟩:=h;h1.i6 λc hc=>(h3 c hc).2
theorem vc.bor (h:vc P w C Z own H ks ds vs):ag P w (λ_=>False) H ds vs:=ag.aQ (λ_ z=>z.elim) h.i6
def yJ:List Kd->List D->Prop
 |k::ks,d::ds=>(match k with | .own=>True|_=>d.flat=true)/\yJ ks ds
 |_,_=>True
theorem KF.JV:∀{ks:List Kd} {ds:List D} {vs:List V} {A:List Addr},KF P w C own H ks ds vs A->yJ ks ds->aE P w H ds vs A
 |[],_,_,_,⟨e1,e2,e⟩,_=>by rw[e1,e2,e];exact⟨rfl,rfl⟩
 |k::ks,_,_,_,⟨d,dr,v,vr,A1,A2,rfl,rfl,rfl,h1,h2⟩,⟨f1,f2⟩=>by
  refine⟨v,vr,A1,A2,rfl,rfl,?_,KF.JV h2 f2⟩;cases k with
  |own=>exact h1
  |dY=>rw[h1.1];exact cU f1 h1.2
  |old=>rw[h1.1];exact cU f1 h1.2
  |bor=>rw[h1.1];exact cU f1 h1.2
theorem jQ:∀{ks:List Kd},(gM ks).wk=gM ks
 |[]=>rfl
 |k::ks=>by cases k <;> cases h:gM ks <;> simp[gM,Kd.max,h]
def C7 (ks:List Kd)(ds:List D)(K:Kd->Prop):Prop:=match ks.all (λk=>match k with | .own=>true|_=>false)with
 |true=>K .own
 |false=>(yJ ks ds/\K .own)\/K (gM ks)
theorem C7.mono {ks:List Kd}{ds:List D}{K K':Kd->Prop}(k:∀x,K x->K' x)(h:C7 ks ds K):C7 ks ds K':=by
 unfold C7 at *
 split
 ·next e=>rw[e]at h;exact k _ h
 ·next e=>rw[e]at h;exact h.imp (λz=>⟨z.1,k _ z.2⟩) (k _)
theorem C7.of {ks:List Kd}{ds:List D}{K:Kd->Prop}(h:C7 ks ds K):(yJ ks ds/\K .own)\/K (gM ks):=by
 unfold C7 at h
 split at h
 ·next e =>
  refine .inl ⟨?_,h⟩
  clear h
  induction ks generalizing ds with
  |nil=>cases ds <;> trivial
  |cons k ks ih =>
   cases ds with
   |nil=>trivial
   |cons d ds =>
    rw[List.all_cons,Yu]at e;refine⟨?_,ih e.2⟩;have e1:=e.1;cases k <;> first|trivial|cases e1
 ·exact h
end
structure PQ (X:Cx)(C:Cfg)(p:Bool)(e:Expr)(φ:aB):Prop where
 mono:∀β R R',(∀d k β,R d k β->R' d k β)->φ β R->φ β R'
 pe:PE X e (tQ X C p φ)
structure vp (X:Cx)(C:Cfg)(p:Bool)(e:Expr)(φ:aN):Prop where
 mono:∀β R R',(∀d β,R d β->R' d β)->φ β R->φ β R'
 pt:PT X e (ib X C p φ)
structure vo (X:Cx)(C:Cfg)(p:Bool)(e:Expr)(φ:aN):Prop where
 mono:∀β R R',(∀d β,R d β->R' d β)->φ β R->φ β R'
 pw:PW X e (ib X C p φ)
structure sg (X:Cx)(C:Cfg)(p:Bool)(es:List Expr)(φ:cg):Prop where
 mono:∀β R R',(∀d k β,R d k β->R' d k β)->φ β R->φ β R'
 pa:PA X es (vg X C p φ)
section
variable {X:Cx}{C:Cfg}{a b c e:Expr}{es:List Expr}{φ φa φb:aB}{τ τa τb:aN}{φs:cg}{pos:Pos}{σ:St}{H H':Hp}{β:aL}{own:Nat->List Addr}{p p':Bool}
theorem tQ.of (h:PQ X C p e φ)(s:SQ X C σ H β own){R:D->Kd->aL->Prop}{Q:VK}(hr:φ β R)(k:∀d kd β' v H' aK,R d kd β'->Out X C σ H own p β' H' aK->KV X.prog X.w C (H,Wn own) aK H' kd d v->Q v H'):tQ X C p φ σ H Q :=
 ⟨β,own,s,h.mono β _ _ (λd kd β' hd v H' aK o r=>k d kd β' v H' aK hd o r) hr⟩
theorem ib.of (h:vp X C p e τ)(s:SQ X C σ H β own){R:Bool->aL->Prop}{Q:Bool->Hp->Prop}(hr:τ β R)(k:∀t β' H' aK,R t β'->Out X C σ H own p β' H' aK->Q t H'):ib X C p τ σ H Q :=
 ⟨β,own,s,h.mono β _ _ (λt β' hd H' aK o=>k t β' H' aK hd o) hr⟩
theorem vg.of (h:sg X C p es φs)(s:SQ X C σ H β own){R:List D->List Kd->aL->Prop}{Q:List V->Hp->Prop}(hr:φs β R)(k:∀ds ks β' vs H' aK,R ds ks β'->Out X C σ H own p β' H' aK->vc X.prog X.w C (H,Wn own) aK H' ks ds vs->Q vs H'):vg X C p φs σ H Q :=
 ⟨β,own,s,h.mono β _ _ (λd kd β' hd v H' aK o r=>k d kd β' v H' aK hd o r) hr⟩
theorem vo.t (h:vo X C p e τ):vp X C p e τ:=⟨h.mono,h.pw.pt⟩
noncomputable abbrev vk (y:Bool):D->Kd
 |.int _=>.own
 |.bl _=>.own
 |.cj=>.own
 |.str _=>.own
 |_=>yk y
def qB:B->(D->Kd->Prop)->Prop
 |.val y d,K=>K d (vk y d)
 |.own d,K=>K d .bor
 |.hand _,_=>False
 |.shl _ _,_=>False
def Bx (i:Nat):aB:=λβ R=>∃b,β[i]?=some (some b)/\qB b λd k=>R d k β
theorem Kx {P:XX}{w:X6}{Z:Hp×(Addr->Prop)}{y:Bool}{d:D}{v:V}(h:az P w (av C (Wn own) (yk y)) H d v):KV P w C Z own H (vk y d) d v:=by
 cases d with
 |int i=>exact KV.flat rfl h
 |bl i=>exact KV.flat rfl h
 |cj=>exact KV.flat rfl h
 |str i=>exact KV.flat rfl h
 |_=>cases y <;> exact h
theorem ab {i:Nat}{x:Str}(hn:Nm X i x:=by exact vY):
  PQ X C true (.Name x pos) (Bx i):=⟨λβ R R' k jU=>by obtain⟨b,e,h⟩:=jU;exact⟨b,e,by cases b <;> first|exact k _ _ _ h|exact h⟩,(eR hn).pre λσ H Q rG=>by
 obtain⟨β,own,s,b,e,q⟩:=rG;cases b with
 |val y d=>obtain⟨v,h1,h2⟩:=s.fg e;exact⟨v,h1,q v H own (Out.refl s _) (Kx h2)⟩
 |own d=>obtain⟨v,h1,h2,h3⟩:=s.ow i d e;exact⟨v,h1,q v H own (Out.refl s _) (h2.rep λ_ _ z=>z)⟩
 |hand ok=>exact q.elim
 |shl _ _=>exact q.elim⟩
def qC (d:D):aB:=λβ R=>R d .own β
theorem aj {i j}:PQ X C true (.Constant (.int i) j pos) (qC (.int i)):=⟨λρ R R' k h=>k _ _ _ h,bb.pre λσ H Q GD=>by obtain⟨β,own,s,q⟩:=GD;exact q _ H own (Out.refl s _) (KV.flat (W:=λ_=>False) rfl rfl)⟩
theorem xv {b j}:PQ X C true (.Constant (.bool b) j pos) (qC (.bl b)):=⟨λρ R R' k h=>k _ _ _ h,B6.pre λσ H Q N8=>by obtain⟨β,own,s,q⟩:=N8;exact q _ H own (Out.refl s _) (KV.flat (W:=λ_=>False) rfl rfl)⟩
theorem mQ {j}:PQ X C true (.Constant .none j pos) (qC .cj):=⟨λρ R R' k h=>k _ _ _ h,JR.pre λσ H Q Dk=>by obtain⟨β,own,s,q⟩:=Dk;exact q _ H own (Out.refl s _) (KV.flat (W:=λ_=>False) rfl rfl)⟩
def Bw (X:Cx)(f:D->D->Option D)(N:D->Prop):R2:=λx y H Q=>∃W d1 d2 d,Dm W H/\Rp X W H d1 x/\Rp X W H d2 y/\f d1 d2=some d/\∀v H',ar H H'->Rp X W H' d v->(N d->Rp X (λa=>H a≠none) H' d v)->Q v H'
abbrev Qu (X:Cx)(f:XO->XO->Sem XO)(g:D->D->Option D)(N:D->Prop):Prop:=jy X f (Bw X g N)
theorem bH.m {f:XO->XO->Sem XO}{g:D->D->Option D}(h:bH X f g):Qu X f g NF:=λpins s σ H x y v u Q I rx ry ⟨W,d1,d2,d,hd,r1,r2,e,q⟩ =>
 h pins s σ H x y v u Q I rx ry ⟨W,d1,d2,d,hd,r1,r2,e,λv H' s r=>q v H' s r λf=>az.flat f r⟩
noncomputable def kN (N:D->Prop)(d:D)(k:Kd)(K:Kd->Prop):Prop:=match d with
 |.int _=>K .own
 |.bl _=>K .own
 |.cj=>K .own
 |.str _=>K .own
 |.tup _=>K k
 |_=>(N d/\K .own)\/K k
theorem kN.mono {N:D->Prop}{d:D}{k:Kd}{K K':Kd->Prop}(h:∀x,K x->K' x)(q:kN N d k K):kN N d k K':=by
 cases d <;> first|exact h _ q|exact q.imp (λz=>⟨z.1,h _ z.2⟩) (h _)
theorem ir {P:XX}{w:X6}{Z:Hp×(Addr->Prop)}{d:D}{v:V}(hd:Dm (Wn own) H)(h0:∀a,C.H0 a≠none->H a≠none)(hz:∀a,Z.1 a≠none->H a≠none)(f:NL d)(r:az P w (λa=>H a≠none) H' d v):KV P w C Z own H' .own d v:=by
 have nn:∀{a:Addr},¬ (H a≠none)->H a=none:=λ{a} h=>Yi λz=>h z;have cl:∀{a:Addr},H a=none->Z.1 a=none/\¬ Wn own a/\C.H0 a=none:=λ{a} h=>⟨Yi λz=>hz a z h,λz=>hd a z h,Yi λz=>h0 a z h⟩;cases d with
 |lst ds =>
  obtain⟨a,vs,rfl,e,n,q⟩:=r;exact⟨[a],⟨a,vs,[],rfl,e,rfl,iq f q⟩,by simp,λc hc=>by rw[XW.mp hc];exact cl (nn n)⟩
 |_=>exact KV.flat f r
theorem KV.kN {N:D->Prop}{P:XX}{w:X6}{Z:Hp×(Addr->Prop)}{d:D}{v:V}{k:Kd}{K:Kd->Prop}(hk:k.wk=k)(r:az P w (av C (Wn own) k) H' d v)(ro:N d->KV P w C Z own H' .own d v)(q:kN N d k K):∃k',K k'/\KV P w C Z own H' k' d v:=by
 have rk:KV P w C Z own H' k d v:=by rw[<- hk];exact KV.of (by rw[hk];exact r)
 cases d with
 |int i=>exact⟨_,q,KV.flat rfl r⟩
 |bl i=>exact⟨_,q,KV.flat rfl r⟩
 |cj=>exact⟨_,q,KV.flat rfl r⟩
 |str i=>exact⟨_,q,KV.flat rfl r⟩
 |tup ds=>exact⟨_,q,rk⟩
 |_=>exact q.elim (λz=>⟨_,z.2,ro z.1⟩) λz=>⟨_,z,rk⟩
structure EY (N:D->Prop):Prop where
 nl:∀d,N d->NL d
theorem aV:EY NL:=⟨λ_ h=>h⟩
theorem af:EY NF:=⟨λd h=>by cases d <;> first|exact h|cases h⟩
theorem H_ {a b:Kd}:(a.max b).wk=a.max b:=by cases a <;> cases b <;> rfl
def AA (g:D->D->Option D)(N:D->Prop)(pb:Bool)(φa φb:aB):aB:=λβ R=>φa β λx ka β1=>hold ka pb/\φb β1 λy kb β2=>∃d,g x y=some d/\kN N d (ka.max kb) λk=>R d k β2
variable {g:D->D->Option D}{N:D->Prop}
theorem AA.mono (ha:PQ X C p a φa)(hb:PQ X C p' b φb):∀β R R',(∀d k β,R d k β->R' d k β)->AA g N p' φa φb β R->AA g N p' φa φb β R':=λβ R R' k h =>
 ha.mono β _ _ (λx ka β1 hx=>⟨hx.1,hb.mono β1 _ _ (λy kb β2 Dt=>by obtain⟨d,e,q⟩:=Dt;exact⟨d,e,q.mono λ_ z=>k _ _ _ z⟩) hx.2⟩) h
theorem vK (hn:EY N)(ha:PQ X C p a φa)(hb:PQ X C p' b φb):∀σ H Q,tQ X C (p&&p') (AA g N p' φa φb) σ H Q->MC (Bw X g N) (tQ X C p φa) (tQ X C p' φb) σ H Q:=λσ H Q ⟨β,own,s,h⟩ =>
 tQ.of ha s h λd1 k1 β1 v1 H1 au ⟨hh,h1⟩ o1 r1=>tQ.of hb o1.sq h1 λd2 k2 β2 v2 H2 aU Ds o2 r2=>by
  obtain⟨d,e,q⟩:=Ds;have Jz:=r1.ho o2 hh;refine⟨av C (Wn aU) (k1.max k2),d1,d2,d,o2.sq.AK _,az.aQ du Jz.rep,az.aQ gC r2.rep,e,λv H' s3 r3 n3=>?_⟩;have o:=(o1.trans o2).same s3;obtain⟨k,q,r⟩:=KV.kN (Z:=(H,Wn own)) H_ r3 (λn=>ir (H:=H2) o2.sq.r9 o2.sq.fj (λa z=>o2.sn.d a (o1.sn.d a z)) (hn.nl _ n) (n3 n)) q;exact q v H' aU o r
theorem aH {op:Operator}(hn:EY N)(ho:Qu X (ZR op) g N)(ha:PQ X C p a φa)(hb:PQ X C p' b φb):PQ X C (p&&p') (.BinOp a op b pos) (AA g N p' φa φb):=⟨AA.mono ha hb,(cT ho ha.pe hb.pe).pre (vK hn ha hb)⟩
theorem gj {op:aaz}(hn:EY N)(ho:Qu X (YS op) g N)(ha:PQ X C p a φa)(hb:PQ X C p' b φb)(hm:Z2 op b=false:=by first|exact tZ _ (by decide) (by decide)|rfl):PQ X C (p&&p') (.Compare a [op] [b] pos) (AA g N p' φa φb) :=
 ⟨AA.mono ha hb,(FL ho ha.pe hb.pe hm).pre (vK hn ha hb)⟩
theorem aM (hn:EY N)(ho:HA X (Bw X g N))(ha:PQ X C p a φa)(hb:PQ X C p' b φb)(hs:ma b:=by exact λ_ _=>rfl):PQ X C (p&&p') (.Subscript a b pos) (AA g N p' φa φb):=⟨AA.mono ha hb,(jH ho ha.pe hb.pe hs).pre (vK hn ha hb)⟩
def By (φ:aB):aN:=λβ R=>φ β λd k β'=>∃b,d=.bl b/\R b β'
theorem aP {op:aaz}(hn:EY N)(ho:Qu X (YS op) g N)(ha:PQ X C p a φa)(hb:PQ X C p' b φb)(hm:Z2 op b=false:=by first|exact tZ _ (by decide) (by decide)|rfl):vp X C (p&&p') (.Compare a [op] [b] pos) (By (AA g N p' φa φb)) :=
 ⟨λβ R R' k h=>AA.mono ha hb β _ _ (λd kd β Dr=>by obtain⟨t,e,q⟩:=Dr;exact⟨t,e,k _ _ q⟩) h,(xp ho ha.pe hb.pe hm).pre λσ H Q ⟨β,own,s,h⟩ =>
  tQ.of ha s h λd1 k1 β1 v1 H1 au ⟨hh,h1⟩ o1 r1=>tQ.of hb o1.sq h1 λd2 k2 β2 v2 H2 aU Lh o2 r2=>by
   obtain⟨d,e,q⟩:=Lh;have Jz:=r1.ho o2 hh;refine⟨av C (Wn aU) (k1.max k2),d1,d2,d,o2.sq.AK _,az.aQ du Jz.rep,az.aQ gC r2.rep,e,λv H' s3 r3 n3=>?_⟩;obtain⟨k,⟨t,et,q'⟩,r⟩:=KV.kN (Z:=(H,Wn own)) H_ r3 (λn=>ir (H:=H2) o2.sq.r9 o2.sq.fj (λa z=>o2.sn.d a (o1.sn.d a z)) (hn.nl _ n) (n3 n)) q;subst et;cases r3;exact⟨t,rfl,q' H' aU ((o1.trans o2).same s3)⟩⟩
theorem d9 (ha:PQ X C p a φa)(he:∀whole,isTrue a X.env whole=(do let v <- whole;aaO a.pos;holding [v] (truthy v)):=by intro _;rfl):vp X C p a (By φa) :=
 ⟨λβ R R' k h=>ha.mono β _ _ (λd kd β' Lg=>by obtain⟨b,e,q⟩:=Lg;exact⟨b,e,k _ _ q⟩) h,(JG ha.pe he).pre λσ H Q ⟨β,own,s,h⟩=>tQ.of ha s h λd k β' v H1 au Lc o1 r1=>by
  obtain⟨b,e,q⟩:=Lc;subst e;cases r1.rep;exact⟨b,rfl,q H1 au o1⟩⟩
def M1 (τ:aN):aN:=λβ R=>τ β λb β'=>R (!b) β'
theorem gh (ha:vp X C p a τ):vp X C p (.UnaryOp .Not a pos) (M1 τ) :=
 ⟨λβ R R' k h=>ha.mono β _ _ (λb β' q=>k _ _ q) h,(JH ha.pt).pre λσ H Q Lb=>by obtain⟨β,own,s,h⟩:=Lb;exact ib.of ha s h λb β' H1 au q o=>q H1 au o⟩
variable {rest:List Expr}
def M8 (τa τb:aN):aN:=λβ R=>τa β λt β1=>if t=true then τb β1 R else R false β1
def Rj (τa τb:aN):aN:=λβ R=>τa β λt β1=>if t=true then R true β1 else τb β1 R
theorem jF (ha:vp X C p a τ):vo X C p (.BoolOp .And [a] pos) τ:=⟨ha.mono,pw_and1 ha.pt⟩
theorem lU (ha:vp X C p a τ):vo X C p (.BoolOp .Or [a] pos) τ:=⟨ha.mono,pw_or1 ha.pt⟩
theorem As {p q:Bool}(z:(p&&q)=true):p=true:=by cases p <;> first|rfl|cases z
theorem Pj {p q:Bool}(z:(p&&q)=true):q=true:=by cases p <;> first|exact z|cases z
theorem lV (ha:vp X C p a τa)(hb:vo X C p' (.BoolOp .And (b::rest) pos) τb):vo X C (p&&p') (.BoolOp .And (a::b::rest) pos) (M8 τa τb) :=
 ⟨λβ R R' k h=>ha.mono β _ _ (λt β1 q=>by
   cases t
   ·exact k _ _ q
   ·exact hb.mono β1 _ _ k q) h,(pw_and ha.pt hb.pw).pre λσ H Q ⟨β,own,s,h⟩=>ib.of ha s h λt β1 H1 au q o1=>by
  cases t
  ·exact q H1 au (o1.wk As)
  ·exact ib.of hb.t o1.sq q λt' β2 H2 aU q2 o2=>q2 H2 aU (o1.trans o2)⟩
theorem qU (ha:vp X C p a τa)(hb:vo X C p' (.BoolOp .Or (b::rest) pos) τb):vo X C (p&&p') (.BoolOp .Or (a::b::rest) pos) (Rj τa τb) :=
 ⟨λβ R R' k h=>ha.mono β _ _ (λt β1 q=>by
   cases t
   ·exact hb.mono β1 _ _ k q
   ·exact k _ _ q) h,(pw_or ha.pt hb.pw).pre λσ H Q ⟨β,own,s,h⟩=>ib.of ha s h λt β1 H1 au q o1=>by
  cases t
  ·exact ib.of hb.t o1.sq q λt' β2 H2 aU q2 o2=>q2 H2 aU (o1.trans o2)
  ·exact q H1 au (o1.wk As)⟩
def Rn (φa φb:aB):aB:=λβ R=>φa β λx _ β1=>∃c,x=.bl c/\if c=true then φb β1 R else R (.bl false) .own β1
def VM (φa φb:aB):aB:=λβ R=>φa β λx _ β1=>∃c,x=.bl c/\if c=true then R (.bl true) .own β1 else φb β1 R
def Rk (φa:aB):aB:=λβ R=>φa β λx _ β1=>∃c,x=.bl c/\R (.bl (!c)) .own β1
theorem qV {op}(h:PQ X C p a φ):PQ X C p (.BoolOp op [a] pos) φ:=⟨h.mono,JP h.pe⟩
theorem xU {P:XX}{w:X6}{Z:Hp×(Addr->Prop)}{b:Bool}:KV P w C Z own H .own (.bl b) (.bl b):=KV.flat (W:=λ_=>False) rfl rfl
theorem qX (ha:PQ X C p a φa)(hb:PQ X C p' (.BoolOp .And (b::rest) pos) φb):PQ X C (p&&p') (.BoolOp .And (a::b::rest) pos) (Rn φa φb) :=
 ⟨λβ R R' k h=>ha.mono β _ _ (λd kd β1 ⟨c,e,q⟩=>⟨c,e,by
   cases c
   ·exact k _ _ _ q
   ·exact hb.mono β1 _ _ k q⟩) h,(JS ha.pe hb.pe).pre λσ H Q ⟨β,own,s,h⟩=>tQ.of ha s h λd kd β1 v H1 au La o1 r1=>by
  obtain⟨c,e,q⟩:=La;subst e;cases r1.rep;refine⟨c,rfl,?_⟩;cases c
  ·exact q _ H1 au (o1.wk As) xU
  ·exact tQ.of hb o1.sq q λd2 k2 β2 v2 H2 aU q2 o2 r2=>q2 v2 H2 aU (o1.trans o2) (r2.later o1.sn)⟩
theorem HP (ha:PQ X C p a φa)(hb:PQ X C p' (.BoolOp .Or (b::rest) pos) φb):PQ X C (p&&p') (.BoolOp .Or (a::b::rest) pos) (VM φa φb) :=
 ⟨λβ R R' k h=>ha.mono β _ _ (λd kd β1 ⟨c,e,q⟩=>⟨c,e,by
   cases c
   ·exact hb.mono β1 _ _ k q
   ·exact k _ _ _ q⟩) h,(Nd ha.pe hb.pe).pre λσ H Q ⟨β,own,s,h⟩=>tQ.of ha s h λd kd β1 v H1 au K9 o1 r1=>by
  obtain⟨c,e,q⟩:=K9;subst e;cases r1.rep;refine⟨c,rfl,?_⟩;cases c
  ·exact tQ.of hb o1.sq q λd2 k2 β2 v2 H2 aU q2 o2 r2=>q2 v2 H2 aU (o1.trans o2) (r2.later o1.sn)
  ·exact q _ H1 au (o1.wk As) xU⟩
theorem BQ (ha:PQ X C p a φa):PQ X C p (.UnaryOp .Not a pos) (Rk φa) :=
 ⟨λβ R R' k h=>ha.mono β _ _ (λd kd β1 K8=>by obtain⟨c,e,q⟩:=K8;exact⟨c,e,k _ _ _ q⟩) h,(JQ ha.pe).pre λσ H Q ⟨β,own,s,h⟩=>tQ.of ha s h λd kd β1 v H1 au K6 o1 r1=>by
  obtain⟨c,e,q⟩:=K6;subst e;cases r1.rep;exact⟨c,rfl,q _ H1 au o1 xU⟩⟩
def VJ (g:D->Option D)(φa:aB):aB:=λβ R=>φa β λx _ β1=>∃d,g x=some d/\d.flat=true/\R d .own β1
theorem tL {op:UnaryOp}{g:D->Option D}(ho:Pk X (unaryOp op) (Up X g))(ha:PQ X C p a φa):PQ X C p (.UnaryOp op a pos) (VJ g φa) :=
 ⟨λβ R R' k h=>ha.mono β _ _ (λx _ β1 Se=>by obtain⟨d,e,f,q⟩:=Se;exact⟨d,e,f,k _ _ _ q⟩) h,(BZ ho ha.pe).pre λσ H Q ⟨β,own,s,h⟩ =>
  tQ.of ha s h λd1 k1 β1 v1 H1 au Sd o1 r1=>by obtain⟨d,e,f,q⟩:=Sd;exact⟨_,d1,d,o1.sq.AK _,r1.rep,e,λv H' s2 r2=>q v H' au (o1.same s2) (KV.flat f r2)⟩⟩
def Rl:cg:=λβ R=>R [] [] β
def M6 (pr:Bool)(φ:aB)(φs:cg):cg:=λβ R=>φ β λd k β1=>hold k pr/\φs β1 λds ks β2=>R (d::ds) (k::ks) β2
theorem ae:sg X C true [] Rl:=⟨λβ R R' k h=>k _ _ _ h,b_.pre λσ H Q Sb=>by obtain⟨β,own,s,q⟩:=Sb;exact q [] H own (Out.refl s _) vc.nil⟩
theorem aa (ha:PQ X C p a φ)(hr:sg X C p' es φs)(hs:X2 (a::es) X.env=(false,eval a X.env)::X2 es X.env:=by rfl):sg X C (p&&p') (a::es) (M6 p' φ φs) :=
 ⟨λβ R R' k h=>ha.mono β _ _ (λd kd β1 q=>⟨q.1,hr.mono β1 _ _ (λds ks β2 q2=>k _ _ _ q2) q.2⟩) h,(aW ha.pe hr.pa hs).pre λσ H Q ⟨β,own,s,h⟩ =>
  tQ.of ha s h λd1 k1 β1 v1 H1 au Sa o1 r1=>by obtain⟨hh,h1⟩:=Sa;exact vg.of hr o1.sq h1 λds ks β2 vs H2 aU q o2 r2=>q (v1::vs) H2 aU (o1.trans o2) (vc.cons r1 o2.sn (r1.ho o2 hh) r2 o1.sn)⟩
def Rf (φs:cg):aB:=λβ R=>φs β λds ks β1=>ds.length<=X3/\C7 ks ds λk=>R (.tup ds) k β1
def Rm (φs:cg):aB:=λβ R=>φs β λds ks β1=>ds.length<=X3/\C7 ks ds λk=>R (.lst ds) k β1
theorem aE.same {P:XX}{w:X6}{ds:List D}{vs:List V}{A:List Addr}(s:ar H H')(h:aE P w H ds vs A):aE P w H' ds vs A:=h.keep (λb xs e=>s _ _ e) λc _ o e=>s c o e
theorem Ky {P:XX}{w:X6}{Z:Hp×(Addr->Prop)}{ks:List Kd}{ds:List D}{vs:List V}{K:Kd->Prop}{q:Addr}(hq:H q=none)(h:vc P w C Z own H ks ds vs)(m:C7 ks ds K):∃k,K k/\KV P w C Z own (upd H q (.tup vs)) k (.tup ds) (.ref q):=by
 rcases m.of with⟨f,k⟩|k
 ·obtain⟨A,h1,h2,h3⟩:=h;exact⟨_,k,A,⟨q,vs,rfl,ai,(h1.JV f).same (ar.new hq)⟩,h2,h3⟩
 ·refine⟨_,k,?_⟩;rw[<- jQ];exact KV.of (by rw[jQ];exact⟨q,vs,rfl,ai,h.i6.same (ar.new hq)⟩)
theorem Kz {P:XX}{w:X6}{Z:Hp×(Addr->Prop)}{ks:List Kd}{ds:List D}{vs:List V}{K:Kd->Prop}{q:Addr}(hq:H q=none)(hd:Dm (Wn own) H)(h0:∀a,C.H0 a≠none->H a≠none)(hz:∀a,Z.1 a≠none->H a≠none)(h:vc P w C Z own H ks ds vs)(m:C7 ks ds K):∃k,K k/\KV P w C Z own (upd H q (.lst vs)) k (.lst ds) (.ref q):=by
 rcases m.of with⟨f,k⟩|k
 ·obtain⟨A,h1,h2,h3⟩:=h;refine⟨_,k,q::A,⟨q,vs,A,rfl,ai,rfl,(h1.JV f).same (ar.new hq)⟩,Yj.mpr ⟨λz=>h1.nS q z hq,h2⟩,λc hc=>?_⟩;rcases XU.mp hc with rfl|hc
  ·exact⟨Yi λz=>hz c z hq,λz=>hd c z hq,Yi λz=>h0 c z hq⟩
  ·exact h3 c hc
 ·refine⟨_,k,?_⟩;have nq:¬ av C (Wn own) (gM ks) q:=λz=>by
   cases e:gM ks <;> rw[e]at z <;> first|exact z.elim (λz=>hd q z hq) λz=>h0 q z hq|exact hd q z hq|exact z
  rw[<- jQ];exact KV.of (by rw[jQ];exact⟨q,vs,rfl,ai,nq,h.i6.same (ar.new hq)⟩)
theorem vc.length {P:XX}{w:X6}{Z:Hp×(Addr->Prop)}{ks:List Kd}{ds:List D}{vs:List V}(h:vc P w C Z own H ks ds vs):vs.length=ds.length:=h.i6.length
theorem aY {x1}(h:sg X C p es φs):PQ X C p (.Tuple es x1 pos) (Rf φs) :=
 ⟨λβ R R' k q=>h.mono β _ _ (λds ks β1 R_=>by obtain⟨l,q⟩:=R_;exact⟨l,q.mono λ_ z=>k _ _ _ z⟩) q,(vP h.pa).pre λσ H Q ⟨β,own,s,q⟩=>vg.of h s q λds ks β1 vs H1 au ⟨l,q1⟩ o1 r1 =>
  ⟨by rw[r1.length];exact l,λq hq=>let ⟨k,q1,r⟩:=Ky hq r1 q1;q1 _ _ au (o1.same (ar.new hq)) r⟩⟩
theorem bq (h:sg X C p es φs):PQ X C p (.List es pos) (Rm φs) :=
 ⟨λβ R R' k q=>h.mono β _ _ (λds ks β1 R9=>by obtain⟨l,q⟩:=R9;exact⟨l,q.mono λ_ z=>k _ _ _ z⟩) q,(vQ h.pa).pre λσ H Q ⟨β,own,s,q⟩=>vg.of h s q λds ks β1 vs H1 au ⟨l,q1⟩ o1 r1 =>
  ⟨by rw[r1.length];exact l,λq hq=>let ⟨k,q1,r⟩:=Kz hq o1.sq.r9 o1.sq.fj (λa z=>o1.sn.d a z) r1 q1;q1 _ _ au (o1.same (ar.new hq)) r⟩⟩
end
section
variable {X:Cx}{C:Cfg}{a b c e:Expr}{es:List Expr}{φ φa φb:aB}{φs:cg}{pos:Pos}{σ:St}{H H':Hp}{β:aL}{own:Nat->List Addr}{p:Bool}{g:D->D->Option D}{N:D->Prop}
abbrev qt:=D->Kd->aB
structure Pq (X:Cx)(C:Cfg)(ops:List aaz)(es:List Expr)(φ:qt):Prop where
 mono:∀x k β R R',(∀d k β,R d k β->R' d k β)->φ x k β R->φ x k β R'
 ch:IK X ops es λx σ H Q=>∃β own d k,SQ X C σ H β own/\Rp X (av C (Wn own) k) H d x/\φ d k β λd' k' β'=>∀v H',ar H H'->SQ X C σ H' β' own->KV X.prog X.w C (H,Wn own) own H' k' d' v->Q v H'
 U3:vb X ops es λx σ H Q=>∃β own d k,SQ X C σ H β own/\Rp X (av C (Wn own) k) H d x/\φ d k β λd' k' β'=>∃b,d'=.bl b/\∀H',ar H H'->SQ X C σ H' β' own->Q b H'
def M7 (g:D->D->Option D)(φb:aB):qt:=λx _ β R=>φb β λy _ β1=>∃b,g x y=some (.bl b)/\R (.bl b) .own β1
def JF (g:D->D->Option D)(φb:aB)(φr:qt):qt:=λx _ β R=>φb β λy ky β1=>∃k,g x y=some (.bl k)/\if k=true then φr y ky β1 R else R (.bl false) .own β1
variable {op J2:aaz}{ops:List aaz}{rs:List Expr}{φr:qt}
theorem lW (ho:bH X (YS op) g)(hb:PQ X C true b φb):Pq X C [op] [b] (M7 g φb) :=
 ⟨λx k β R R' h q=>hb.mono β _ _ (λy _ β1 fy=>by obtain⟨d,e,q⟩:=fy;exact⟨d,e,h _ _ _ q⟩) q,
  (LM ho hb.pe).pre λx σ H Q ⟨β,own,d,k,s,r,h⟩=>tQ.of hb s h λd2 k2 β2 v2 H2 aU rG o2 r2=>by
    obtain⟨d',e,q⟩:=rG;obtain⟨s2,rfl⟩:=o2.pu rfl;exact⟨av C (Wn aU) (k.max k2),d,d2,.bl d',o2.sq.AK _,az.aQ du (r.same s2),az.aQ gC r2.rep,e,λv H' s3 r3=>q v H' (s2.trans s3) (o2.sq.same s3) (KV.flat rfl r3)⟩,
  (Hi ho hb.pe).pre λx σ H Q ⟨β,own,d,k,s,r,h⟩=>tQ.of hb s h λd2 k2 β2 v2 H2 aU zS o2 r2=>by
    obtain⟨d',e,b,eb,q⟩:=zS;obtain⟨s2,rfl⟩:=o2.pu rfl;cases eb;exact⟨av C (Wn aU) (k.max k2),d,d2,.bl d',o2.sq.AK _,az.aQ du (r.same s2),az.aQ gC r2.rep,e,λv H' s3 r3=>by
      cases r3;exact⟨_,rfl,q H' (s2.trans s3) (o2.sq.same s3)⟩⟩⟩
theorem eO (ho:bH X (YS op) g)(hb:PQ X C true b φb)(hc:Pq X C (J2::ops) (c::rs) φr):Pq X C (op::J2::ops) (b::c::rs) (JF g φb φr) :=
 ⟨λx k β R R' h q=>hb.mono β _ _ (λy ky β1 ⟨d,e,q⟩=>⟨d,e,by
   cases d
   ·exact h _ _ _ q
   ·exact hc.mono y ky β1 _ _ h q⟩) q,
  (Hj ho hb.pe hc.ch).pre λx σ H Q ⟨β,own,d,k,s,r,h⟩=>tQ.of hb s h λd2 k2 β2 v2 H2 aU Dk o2 r2=>by
    obtain⟨t,e,q⟩:=Dk;obtain⟨s2,rfl⟩:=o2.pu rfl;refine⟨av C (Wn aU) (k.max k2),d,d2,.bl t,o2.sq.AK _,az.aQ du (r.same s2),az.aQ gC r2.rep,e,λv H' s3 r3=>?_⟩;cases r3;refine⟨t,rfl,?_⟩;cases t
    · exact q _ H' (s2.trans s3) (o2.sq.same s3) xU
    · exact⟨β2,aU,d2,k2,o2.sq.same s3,r2.rep.same s3,hc.mono d2 k2 β2 _ _ (λd' k' β' q' v Aw s4 sq r4=>q' v Aw ((s2.trans s3).trans s4) sq (r4.later ((o2.same s3).sn))) q⟩,
  (Ei ho hb.pe hc.U3).pre λx σ H Q ⟨β,own,d,k,s,r,h⟩=>tQ.of hb s h λd2 k2 β2 v2 H2 aU wt o2 r2=>by
    obtain⟨t,e,q⟩:=wt;obtain⟨s2,rfl⟩:=o2.pu rfl;refine⟨av C (Wn aU) (k.max k2),d,d2,.bl t,o2.sq.AK _,az.aQ du (r.same s2),az.aQ gC r2.rep,e,λv H' s3 r3=>?_⟩;cases r3;refine⟨t,rfl,?_⟩;cases t
    · obtain⟨b,eb,q⟩:=q;cases eb;exact q H' (s2.trans s3) (o2.sq.same s3)
    · exact⟨β2,aU,d2,k2,o2.sq.same s3,r2.rep.same s3,hc.mono d2 k2 β2 _ _ (λd' k' β' Dt=>by obtain⟨b,eb,q'⟩:=Dt;exact⟨b,eb,λAw s4 sq=>q' Aw ((s2.trans s3).trans s4) sq⟩) q⟩⟩
def vL (φa:aB)(φr:qt):aB:=λβ R=>φa β λx k β1=>φr x k β1 R
theorem tM {eU eT:aaz}(ha:PQ X C true a φa)(hc:Pq X C (eU::eT::ops) (b::c::rs) φr)(hm:lastMarks (eU::eT::ops) (b::c::rs)=false:=by with_unfolding_all rfl):
  PQ X C true (.Compare a (eU::eT::ops) (b::c::rs) pos) (vL φa φr) :=
 ⟨λβ R R' k h=>ha.mono β _ _ (λx kx β1 q=>hc.mono x kx β1 _ _ k q) h,(zo ha.pe hc.ch hm).pre λσ H Q ⟨β,own,s,h⟩=>tQ.of ha s h λd k β1 v H1 au q o1 r1=>by
  obtain⟨s1,rfl⟩:=o1.pu rfl;exact⟨β1,au,d,k,o1.sq,r1.rep,hc.mono d k β1 _ _ (λd' k' β' q' v Aw s4 sq r4=>q' v Aw au ⟨sq,o1.sn.same s4,λ_=>⟨s1.trans s4,rfl⟩,o1.le⟩ (r4.later o1.sn)) q⟩⟩
theorem pE {eU eT:aaz}(ha:PQ X C true a φa)(hc:Pq X C (eU::eT::ops) (b::c::rs) φr)(hm:lastMarks (eU::eT::ops) (b::c::rs)=false:=by with_unfolding_all rfl):
  vp X C true (.Compare a (eU::eT::ops) (b::c::rs) pos) (By (vL φa φr)) :=
 ⟨λβ R R' k h=>ha.mono β _ _ (λx kx β1 q=>hc.mono x kx β1 _ _ (λd kd β' Li=>by obtain⟨b,e,q⟩:=Li;exact⟨b,e,k _ _ q⟩) q) h,(zf ha.pe hc.U3 hm).pre λσ H Q ⟨β,own,s,h⟩=>tQ.of ha s h λd k β1 v H1 au q o1 r1=>by
  obtain⟨s1,rfl⟩:=o1.pu rfl;exact⟨β1,au,d,k,o1.sq,r1.rep,hc.mono d k β1 _ _ (λd' k' β' Dr=>by obtain⟨b,e,q'⟩:=Dr;exact⟨b,e,λAw s4 sq=>q' Aw au ⟨sq,o1.sn.same s4,λ_=>⟨s1.trans s4,rfl⟩,o1.le⟩⟩) q⟩⟩
abbrev EE:=aL->(Option Int->aL->Prop)->Prop
structure Qt (X:Cx)(C:Cfg)(e:Option Expr)(φ:EE):Prop where
 mono:∀β R R',(∀d β,R d β->R' d β)->φ β R->φ β R'
 po:PO X e λσ H Q=>∃β own,SQ X C σ H β own/\φ β λo β'=>∀H',ar H H'->SQ X C σ H' β' own->Q o H'
theorem tH:Qt X C none (λβ R=>R none β):=⟨λβ R R' k h=>k _ _ h,xx.pre λσ H Q Dq=>by obtain⟨β,own,s,q⟩:=Dq;exact q H (ar.refl _) s⟩
theorem tG (ha:PQ X C true a φ):Qt X C (some a) (λβ R=>φ β λd _ β1=>∃i,d=.int i/\R (some i) β1) :=
 ⟨λβ R R' k h=>ha.mono β _ _ (λd _ β1 Dl=>by obtain⟨i,e,q⟩:=Dl;exact⟨i,e,k _ _ q⟩) h,(xw ha.pe).pre λσ H Q ⟨β,own,s,h⟩=>tQ.of ha s h λd k β1 v H1 au Lg o1 r1=>by
  obtain⟨i,e,q⟩:=Lg;subst e;cases r1.rep;obtain⟨s1,rfl⟩:=o1.pu rfl;exact⟨i,rfl,q H1 s1 o1.sq⟩⟩
def VL (φ:aB)(φl φh:EE):aB:=λβ R=>φ β λx k β1=>φl β1 λl β2=>φh β2 λh β3=>∃d,Qp x l h=some d/\kN NL d k.wk λk'=>R d k' β3
theorem A4 {k:Kd}:k.wk.wk=k.wk:=by cases k <;> rfl
theorem yE {W:Addr->Prop}{k:Kd}:∀c,av C W k.wk c->av C W k c:=λc h=>by cases k <;> exact h
theorem HN {lo hi:Option Expr}{φl φh:EE}{p2:Pos}(ha:PQ X C p a φ)(hl:Qt X C lo φl)(hh:Qt X C hi φh):PQ X C p (.Subscript a (.Slice lo hi none p2) pos) (VL φ φl φh) :=
 ⟨λβ R R' k h=>ha.mono β _ _ (λx kx β1 q=>hl.mono β1 _ _ (λl β2 q=>hh.mono β2 _ _ (λu β3 Lf=>by obtain⟨d,e,q⟩:=Lf;exact⟨d,e,q.mono λ_ z=>k _ _ _ z⟩) q) q) h,
  (tN Fh ha.pe hl.po hh.po).pre λσ H Q ⟨β,own,s,h⟩=>tQ.of ha s h λd k β1 v H1 au q o1 r1 =>
    ⟨β1,au,o1.sq,hl.mono β1 _ _ (λl β2 q H2 s2 VC=>⟨β2,au,VC,hh.mono β2 _ _ (λu β3 Lb H3 s3 P0=>by
      obtain⟨d',e,q⟩:=Lb;refine⟨av C (Wn au) k.wk,d,d',P0.AK _,((az.aQ yE r1.rep).same s2).same s3,e,λv H' s4 r4 n4=>?_⟩;obtain⟨k',q,r⟩:=KV.kN (Z:=(H,Wn own)) A4 r4 (λn=>ir (H:=H3) P0.r9 P0.fj (λa z e=>o1.sn.d a z (s2.free (s3.free e))) n (n4 n)) q;exact q v H' au ⟨P0.same s4,o1.sn.same ((s2.trans s3).trans s4),λz=>⟨(o1.pu z).1.trans ((s2.trans s3).trans s4),(o1.pu z).2⟩,o1.le⟩ r) q⟩) q⟩⟩
def MX (X:Cx)(f:List D->Option D)(N:D->Prop):List V->Hp->VK->Prop:=λxs H Q=>∃W ds d,Dm W H/\jx X W H ds xs/\f ds=some d/\∀v H',ar H H'->Rp X W H' d v->(N d->Rp X (λa=>H a≠none) H' d v)->Q v H'
abbrev EG (X:Cx)(f:XO)(g:List D->Option D)(N:D->Prop):Prop:=dW X f (MX X g N)
theorem bo.m {f:XO}{g:List D->Option D}(h:bo X f g):EG X f g NF:=λpins s σ H xs us Q I r ⟨W,ds,d,hd,r1,e,q⟩ =>
 h pins s σ H xs us Q I r ⟨W,ds,d,hd,r1,e,λv H' s r=>q v H' s r λf=>az.flat f r⟩
def lj (g:List D->Option D)(N:D->Prop)(φs:cg):aB:=λβ R=>φs β λds ks β1=>∃d,g ds=some d/\kN N d (gM ks) λk=>R d k β1
variable {x:Str}{pp:Pos}{id T:String}{gs:List D->Option D}
theorem lj.mono (h:sg X C p es φs):∀β R R',(∀d k β,R d k β->R' d k β)->lj gs N φs β R->lj gs N φs β R':=λβ R R' k q=>h.mono β _ _ (λds ks β1 Si=>by obtain⟨d,e,q⟩:=Si;exact⟨d,e,q.mono λ_ z=>k _ _ _ z⟩) q
theorem tq (hn:EY N)(h:sg X C p es φs):∀σ H Q,tQ X C p (lj gs N φs) σ H Q->QM (MX X gs N) (vg X C p φs) σ H Q:=λσ H Q ⟨β,own,s,q⟩=>vg.of h s q λds ks β1 vs H1 au Sg o1 r1=>by
 obtain⟨d,e,q1⟩:=Sg;refine⟨av C (Wn au) (gM ks),ds,d,o1.sq.AK _,r1.i6,e,λv H' s2 r2 n2=>?_⟩;obtain⟨k',q,r⟩:=KV.kN (Z:=(H,Wn own)) jQ r2 (λn=>ir (H:=H1) o1.sq.r9 o1.sq.fj (λa z=>o1.sn.d a z) (hn.nl _ n) (n2 n)) q1;exact q v H' au (o1.same s2) r
theorem aR (OP:EY N)(hc:EG X (.builtin id) gs N)(hm:X.mg x=none)(hv:YG x=some (.builtin id))(ha:sg X C p (e::es) φs)(hg:Gl X x:=by rfl)(hn:x≠"__name__" := by decide)(hdb:(x==("__debug__" : Str))=false:=by decide)
  (nz:X2 (e::es) X.env=(false,eval e X.env)::X2 es X.env:=by rfl) (hpl:(ZA pos (X2 es X.env)).any (·.1)=false:=by rfl) :
  PQ X C p (.Call (.Name x pp) (e::es) [] pos) (lj gs N φs):=⟨lj.mono ha,(eS hc hg hm hv ha.pa hn hdb (he:=nz) (hpl:=hpl)).pre (tq OP ha)⟩
theorem fT (OP:EY N)(hc:EG X (.type T) gs N)(hm:X.mg x=none)(hv:YG x=some (.type T))(ha:sg X C p (e::es) φs)(hg:Gl X x:=by rfl)(hn:x≠"__name__" := by decide)(hdb:(x==("__debug__" : Str))=false:=by decide)
  (nz:X2 (e::es) X.env=(false,eval e X.env)::X2 es X.env:=by rfl) (hpl:(ZA pos (X2 es X.env)).any (·.1)=false:=by rfl) :
  PQ X C p (.Call (.Name x pp) (e::es) [] pos) (lj gs N φs):=⟨lj.mono ha,(pG hc hg hm hv ha.pa hn hdb (he:=nz) (hpl:=hpl)).pre (tq OP ha)⟩
end
def rV (P:XX)(w:X6)(ro:Bool)(H H':Hp)(d:D)(v:V):Prop:=match ro with
 |true=>∃A,Own P w H' d v A/\A.Nodup/\∀c∈A,H c=none
 |false=>az P w (λa=>H a≠none) H' d v
abbrev rk (ro:Bool):Kd:=match ro with|true=>.own|false=>.dY
def cM (P:XX)(w:X6)(ro:Bool)(F:FD):Sp:=λvs H Q _=>∃ds,ag P w (λ_=>False) H ds vs/\F ds λd=>∀v H',ar H H'->rV P w ro H H' d v->Q v H'
def kz (P:XX)(w:X6)(ok:List Int->Prop)(ro:Bool)(F:FD):Sp:=λvs H Q _=>∃h vs' ds ns,vs=.ref h::vs'/\H h=some (.lst (ns.map V.int))/\ok ns/\ag P w (λa=>a=h) H ds vs' /\
 F ds λd=>∀v H' lH,Kp (·=h) H H'->(∀c,H c≠none->H' c≠none)->H' h=some (.lst (lH.map V.int))->ok lH->rV P w ro H H' d v->Q v H'
section
variable {X:Cx}{C:Cfg}{k ih:Nat}{f:Addr}{fd:YB}{ps:List Str}{F:FD}{ro p:Bool}{x hx:Str}{pp pos px:Pos}{e:Expr}{es:List Expr}{φs:cg}{ok:List Int->Prop}{σ:St}{H H':Hp}{β:aL}{own:Nat->List Addr}{P:XX}{w:X6}
theorem rV.kv {Z:Hp×(Addr->Prop)}{d:D}{v:V}(hd:Dm (Wn own) H)(h0:∀a,C.H0 a≠none->H a≠none)(hz:∀a,Z.1 a≠none->H a≠none)(h:rV P w ro H H' d v):KV P w C Z own H' (rk ro) d v:=by
 cases ro with
 |true =>
  obtain⟨A,h1,h2,h3⟩:=h;exact⟨A,h1,h2,λc hc=>⟨Yi λz=>hz c z (h3 c hc),λz=>hd c z (h3 c hc),Yi λz=>h0 c z (h3 c hc)⟩⟩
 |false=>exact az.aQ (λa z=>z.elim (hd a) (h0 a)) h
def Ri (ro:Bool)(F:FD)(φs:cg):aB:=λβ R=>φs β λds _ β1=>F ds λd=>R d (rk ro) β1
theorem aI (mF:cA F)(G:aJ X.prog X.w X.K X.mg X.base bN k f fd ps (cM X.prog X.w ro F))(hr:dg k X.A)(hm:X.mg x=some (.ref f))(hk:PySem.W.keepIn X.K (.ref f)=true)(hb:Binds X.K fd ps [])(ha:sg X C p (e::es) φs)(hg:Gl X x:=by rfl)
  (hdb:(x==("__debug__" : Str))=false:=by decide)
  (nz:X2 (e::es) X.env=(false,eval e X.env)::X2 es X.env:=by rfl) (hpl:(ZA pos (X2 es X.env)).any (·.1)=false:=by rfl) :
  PQ X C p (.Call (.Name x pp) (e::es) [] pos) (Ri ro F φs) :=
 ⟨λβ R R' k h=>ha.mono β _ _ (λds ks β1 q=>mF ds _ _ (λd q=>k _ _ _ q) q) h,(xC G hr hg hm hk hb .nil HS ha.pa (hdb:=hdb) (he:=nz) (hpl:=hpl)).pre λσ H Q ⟨β,own,s,h⟩=>vg.of ha s h λds ks β1 vs H1 au q o1 r1=>by
  rw[ZJ];exact⟨ds,r1.bor,mF ds _ _ (λd q2 v H' s2 r2=>q2 v H' au (o1.same s2) (r2.kv o1.sq.r9 o1.sq.fj λa z=>o1.sn.d a z)) q⟩⟩
theorem bf.drawn {i:Nat}{h:Addr}{lH:List Int}(b:bf P w C σ H β own)(e:β[i]?=some (some (.hand ok)))(hσ:σ[i]?=some (some (.ref h)))(k:Kp (·=h) H H')(e':H' h=some (.lst (lH.map V.int)))(o':ok lH)(dn:∀c,H c≠none->H' c≠none):bf P w C σ H' β own:=by
 obtain⟨a,ns,h1,h2,h3,h4,h5⟩:=b.jV i ok e;rw[hσ]at h1;cases h1;have wh:Wn own h:=⟨i,by rw[h4];simp⟩
 have kW:∀y,Kp (dD C (Wn own) (yk y)) H H':=λy=>k.mono λc z=>by rw[z];cases y <;> first|exact .inl wh|exact .inl (.inl wh)
 have ne:∀j,j≠i->∀c∈own j,c≠h:=λj hj c hc z=>hj (b.hV j i c hc (by rw[h4,z];simp))
 refine⟨b.len,λj y d e=>let ⟨v,g1,g2⟩:=b.val j y d e;⟨v,g1,g2.keep (kW y)⟩,λj d ej=>?_,λj AD ej=>?_,λj c hc=>?_,b.hV,b.i_,⟨λc o z n=>?_,λc xs z=>k.tup c xs (b.kp.tup c xs z)⟩,λc z=>dn c (b.fj c z),λj y d ej=>by
  obtain⟨v,g1,g2,g3⟩:=b.shl j y d ej;have hj:j≠i:=λz=>by rw[z,e]at ej;cases ej
  exact⟨v,g1,g2.map (λc hc o eo=>k.out c o eo (ne j hj c hc)) (λ_ _ r=>r.keep (kW true)),g3⟩⟩
 ·obtain⟨v,g1,g2,g3⟩:=b.ow j d ej;have hj:j≠i:=λz=>by rw[z,e]at ej;cases ej
  exact⟨v,g1,g2.keep k.tup (λc hc o eo=>k.out c o eo (ne j hj c hc)),g3⟩
 ·by_cases hj:j=i
  ·subst hj;rw[e]at ej;cases ej;exact⟨h,lH,hσ,e',o',h4,h5⟩
  ·obtain⟨a,ms,g1,g2,g3,g4,g5⟩:=b.jV j AD ej;exact⟨a,ms,g1,k.out a _ g2 (ne j hj a (by rw[g4];simp)),g3,g4,g5⟩
 ·obtain⟨g1,g2,g3⟩:=b.dm j c hc
  by_cases yf:c=h
  ·rw[yf,e'];rw[yf]at g3;exact⟨λz=>(nomatch z),λxs z=>(by cases z),g3⟩
  ·cases q:H c with
   |none=>exact absurd q g1
   |some o=>rw[k.out c o q yf];exact⟨λz=>(nomatch z),λxs z=>g2 xs (by rw[q];exact z),g3⟩
 ·refine k.out c o (b.kp.out c o z n) λq=>?_;subst q;rcases (b.dm i c (by rw[h4];simp)).2.2.1 with z0|z0
  ·rw[z0]at z;cases z
  ·exact n z0
def M5 (ih:Nat)(ok:List Int->Prop)(ro:Bool)(F:FD)(φs:cg):aB:=λβ R=>β[ih]?=some (some (.hand ok))/\φs β λds ks β1=>β1[ih]?=some (some (.hand ok))/\hold (gM ks) false/\F ds λd=>R d (rk ro) β1
theorem a_ (mF:cA F)(G:aJ X.prog X.w X.K X.mg X.base bN k f fd ps (kz X.prog X.w ok ro F))(hr:dg k X.A)(hm:X.mg x=some (.ref f))(hk:PySem.W.keepIn X.K (.ref f)=true)(hb:Binds X.K fd ps [])(ha:sg X C p es φs)(hn:Nm X ih hx:=by exact vY)(hg:Gl X x:=by rfl)(hdb:(x==("__debug__" : Str))=false:=by decide)
  (nz:X2 (.Name hx px::es) X.env=(false,eval (.Name hx px) X.env)::X2 es X.env:=by rfl) (hpl:(ZA pos (X2 es X.env)).any (·.1)=false:=by rfl) :
  PQ X C false (.Call (.Name x pp) (.Name hx px::es) [] pos) (M5 ih ok ro F φs) :=
 ⟨λβ R R' k Sf=>by obtain⟨e,h⟩:=Sf;exact⟨e,ha.mono β _ _ (λds ks β1 K_=>by obtain⟨e,hh,q⟩:=K_;exact⟨e,hh,mF ds _ _ (λd q=>k _ _ _ q) q⟩) h⟩,
  (xC G hr hg hm hk hb .nil HS (aW (eR (pos:=px) hn) ha.pa nz) (hdb:=hdb) (he:=nz) (hpl:=hpl)).pre λσ H Q K9=>by
  obtain⟨β,own,s,e,h⟩:=K9;obtain⟨hh,ns,h1,h2,h3,h4⟩:=s.jV ih ok e;refine⟨.ref hh,h1,vg.of ha s h λds ks β1 vs H1 au fJ o1 r1=>?_⟩;obtain⟨e1,ho,q⟩:=fJ;obtain⟨UP,VT,g1,g2,g3,g4,g5⟩:=o1.sq.jV ih ok e1;rw[h1]at g1;cases g1;have wh:Wn au hh:=⟨ih,by rw[g4];simp⟩
  rw[ZJ];refine⟨hh,vs,ds,VT,rfl,g2,g3,ag.aQ (λa z=>?_) r1.i6,mF ds _ _ (λd q v H' lH kp dn e' AD r=>?_) q⟩
  ·subst z;cases hk:gM ks with
   |own=>exact .inl wh
   |dY=>exact .inl wh
   |old=>exact wh
   |bor=>rw[hk]at ho;exact ho.elim
  ·exact q v H' au ⟨o1.sq.drawn e1 h1 kp e' AD dn,o1.sn.kp (kp.mono λb z=>by rw[z];exact wh) dn,λz=>(nomatch z),o1.le⟩ (r.kv o1.sq.r9 o1.sq.fj λa z=>o1.sn.d a z)⟩
end
abbrev Cfg.z (C:Cfg):Cfg:=C.u λ_=>False
def SB (X:Cx)(C:Cfg)(Z:Hp×(Addr->Prop))(σ:St)(H:Hp)(β:aL):Prop:=∃own,SQ X C.z σ H β own/\Sn Z H (Wn own)
structure cB where
 nx:aL->Prop
 rt:D->aL->Prop
 bk:aL->Prop:=λ_=>False
 ct:aL->Prop:=λ_=>False
def cB.up (E:cB)(n:aL->Prop):cB:=⟨n,E.rt,E.bk,E.ct⟩
def cB.lp (E:cB)(n:aL->Prop):cB:=⟨n,E.rt,E.nx,n⟩
structure Xp (X:Cx)(C:Cfg)(Z:Hp×(Addr->Prop))(E:cB)(D:Ends):Prop where
 nx:∀σ H β,SB X C Z σ H β->E.nx β->D.nx σ H
 rt:∀σ H β d v,SB X C Z σ H β->rV X.prog X.w C.ro C.H0 H d v->E.rt d β->D.rt v H
 bk:∀σ H β,SB X C Z σ H β->E.bk β->D.bk σ H
 ct:∀σ H β,SB X C Z σ H β->E.ct β->D.ct σ H
structure Le (E E':cB):Prop where
 nx:∀β,E.nx β->E'.nx β
 rt:∀d β,E.rt d β->E'.rt d β
 bk:∀β,E.bk β->E'.bk β
 ct:∀β,E.ct β->E'.ct β
abbrev yI:=cB->aL->Prop
def ap (ψ:yI)(E:cB)(β:aL):Prop:=ψ E β
def eN (R:D->Prop):cB:={nx:=λ_=>R .cj,rt:=λd _=>R d}
def eH (ok:List Int->Prop)(R:D->Prop):cB:={nx:=λ_=>False,rt:=λd β=>β[0]?=some (some (.hand ok))/\R d}
def Uj (X:Cx)(C:Cfg)(ψ:yI):TS:=λD σ H=>∃Z E β,SB X C Z σ H β/\ψ E β/\Xp X C Z E D
structure PB (X:Cx)(C:Cfg)(st:Stmt)(ψ:yI):Prop where
 mono:∀E E' β,Le E E'->ψ E β->ψ E' β
 ps:PS X st (Uj X C ψ)
structure si (X:Cx)(C:Cfg)(st:List Stmt)(ψ:yI):Prop where
 mono:∀E E' β,Le E E'->ψ E β->ψ E' β
 ps:sf X st (Uj X C ψ)
section
variable {X:Cx}{C:Cfg}{st:Stmt}{rest a b:List Stmt}{ψ ψ1 ψ2:yI}{Z:Hp×(Addr->Prop)}{σ:St}{H H':Hp}{β β':aL}{pos pos':Pos}{e c:Expr}{φ:aB}{τ:aN}{p:Bool}{own aK:Nat->List Addr}{i:Nat}{x:Str}
theorem Out.sb (n:Sn Z H (Wn own))(o:Out X C.z σ H own p β' H' aK):SB X C Z σ H' β':=⟨aK,o.sq,n.trans o.sn⟩
theorem bA:si X C [] (λE β=>E.nx β):=⟨λE E' β l h=>l.nx β h,xq.pre λD σ H fy=>by obtain⟨Z,E,β,sb,h,ok⟩:=fy;exact ok.nx σ H β sb h⟩
theorem ah (h1:PB X C st ψ1)(h2:si X C rest ψ2):si X C (st::rest) (λE β=>ψ1 (E.up (ap ψ2 E)) β) :=
 ⟨λE E' β l h=>h1.mono {E with nx:=ψ2 E} {E' with nx:=ψ2 E'} β ⟨λβ' q=>h2.mono E E' β' l q,l.rt,l.bk,l.ct⟩ h,(cz h1.ps h2.ps).pre λD σ H ⟨Z,E,β,sb,h,ok⟩ =>
  ⟨Z,{E with nx:=ψ2 E},β,sb,h,⟨λσ' H' β' vI h'=>⟨Z,E,β',vI,h',ok⟩,ok.rt,ok.bk,ok.ct⟩⟩⟩
theorem aw (h1:PB X C st ψ):si X C [st] ψ:=⟨h1.mono,jD h1.ps⟩
theorem jI (h1:PB X C st ψ1)(h2:si X C rest ψ2):si X C (st::rest) (λE β=>∃J:aL->Prop,ψ1 (E.up J) β/\∀β',J β'->ap ψ2 E β') :=
 ⟨λE E' β l rG=>by obtain⟨J,h,k⟩:=rG;exact⟨J,h1.mono {E with nx:=J} {E' with nx:=J} β ⟨λ_ q=>q,l.rt,l.bk,l.ct⟩ h,λβ' q=>h2.mono E E' β' l (k β' q)⟩,(cz h1.ps h2.ps).pre λD σ H ⟨Z,E,β,sb,⟨J,h,k⟩,ok⟩ =>
  ⟨Z,{E with nx:=J},β,sb,h,⟨λσ' H' β' vI h'=>⟨Z,E,β',vI,k β' h',ok⟩,ok.rt,ok.bk,ok.ct⟩⟩⟩
theorem ip:si X C a (λ_ _=>False):=⟨λ_ _ _ _ h=>h.elim,zg.pre λD σ H Dk=>by obtain⟨Z,E,β,sb,h,ok⟩:=Dk;exact h.elim⟩
theorem c5 (hc:vp X C.z p c τ)(ha:si X C a ψ1)(hb:si X C b ψ2):PB X C (.If c a b pos) (λE β=>τ β λt β'=>if t=true then ap ψ1 E β' else ap ψ2 E β') :=
 ⟨λE E' β l h=>hc.mono _ _ _ (λt β' q=>by
   cases t
   ·exact hb.mono E E' β' l q
   ·exact ha.mono E E' β' l q) h,(HM hc.pt ha.ps hb.ps).pre λD σ H GC=>by
  obtain⟨Z,E,β,⟨own,s,n⟩,h,ok⟩:=GC;refine ib.of hc s h λt β' H1 au q o1=>?_;cases t
  ·exact⟨Z,E,β',o1.sb n,q,ok⟩
  ·exact⟨Z,E,β',o1.sb n,q,ok⟩⟩
abbrev Ic (d:D)(k:Kd)(K:B->Prop):Prop:=match k with
 |.own=>K (.val true d)
 |.dY=>K (.val true d)
 |.old=>K (.val false d)
 |.bor=>d.flat=true/\K (.val true d)
theorem Ic.mono {d:D}{k:Kd}{K K':B->Prop}(h:∀b,K b->K' b)(q:Ic d k K):Ic d k K':=by
 cases k <;> first|exact h _ q|exact⟨q.1,h _ q.2⟩
theorem Ic.of {P:XX}{w:X6}{d:D}{v:V}{k:Kd}{K:B->Prop}(r:KV P w C Z own H k d v)(q:Ic d k K):∃y,K (.val y d)/\az P w (av C (Wn own) (yk y)) H d v:=by
 cases k with
 |own=>exact⟨true,q,r.dY⟩
 |dY=>exact⟨true,q,r⟩
 |old=>exact⟨false,q,r⟩
 |bor=>exact⟨true,q.2,az.flat q.1 r⟩
theorem iZ {own:Nat->List Addr}{i:Nat}(n:Sn Z H (Wn own)):Sn Z H (Wn (aC own i [])):=⟨λb z=>n.w b (gR z),n.k,n.d⟩
theorem a8 (he:PQ X C.z p e φ)(hN:X.N.Nodup)(hi:X.N[i]?=some x:=by rfl)(hx:Loc X.env.scope x:=by first|exact .inl rfl|exact .inr rfl)
  (hs:Zj e (some (.Name x pos')) pos.line X.env=pure false:=by rfl) (hf:X.fn x=true\/X.env.scope.names.lookup x=some .local:=by first|exact .inl rfl|exact .inr rfl|assumption) :
  PB X C (.Assign [.Name x pos'] e pos) (λE β=>φ β λd k β'=>Ic d k λb=>E.nx (β'.set i (some b))) :=
 ⟨λE E' β l q=>he.mono _ _ _ (λd k β' q=>q.mono λ_=>l.nx _) q,(i7 hN hi hx he.pe hs hf).pre λD σ H ⟨Z,E,β,⟨own,s,n⟩,q,ok⟩=>tQ.of he s q λd k β' v H' aK q o r=>by
  obtain⟨y,q,r⟩:=q.of r;exact ok.nx _ _ _ ⟨_,o.sq.eJ (az.aQ (λa z=>z.elim id λz=>z.elim) r),iZ (n.trans o.sn)⟩ q⟩
abbrev C8 (k:Kd)(d:D):Prop:=match k with
 |.own=>True
 |_=>d.flat=true
theorem KV.fl {P:XX}{w:X6}{d:D}{v:V}{k:Kd}(f:C8 k d)(r:KV P w C Z own H k d v):KV P w C Z own H .own d v:=by
 cases k with
 |own=>exact r
 |dY=>exact KV.flat f r.rep
 |old=>exact KV.flat f r.rep
 |bor=>exact KV.flat f r.rep
theorem cE (he:∀U,PQ X (C.u U) p e φ)(hN:X.N.Nodup)(hi:X.N[i]?=some x:=by rfl)(hx:Loc X.env.scope x:=by first|exact .inl rfl|exact .inr rfl)
  (hs:Zj e (some (.Name x pos')) pos.line X.env=pure false:=by rfl) (hf:X.fn x=true\/X.env.scope.names.lookup x=some .local:=by first|exact .inl rfl|exact .inr rfl|assumption) :
  PB X C (.Assign [.Name x pos'] e pos) (λE β=>φ β λd k β'=>C8 k d/\E.nx (β'.set i (some (.own d)))) :=
 ⟨λE E' β l q=>(he λ_=>False).mono _ _ _ (λd k β' q=>⟨q.1,l.nx _ q.2⟩) q,λpins s σ H D I ⟨Z,E,β,⟨own,sq,n⟩,q,ok⟩ =>
  i7 hN hi hx (he λa=>H a=none).pe hs hf pins s σ H D I (tQ.of (he λa=>H a=none) (sq.iP (C:=C.z) (U:=λa=>H a=none) λa z=>z) q λd k β' v H' aK Lj o r=>by
   obtain⟨f,q⟩:=Lj;obtain⟨A,h1,h2,h3⟩:=r.fl f;refine ok.nx _ _ _ ⟨_,o.sq.mC h1 h2 λc hc=>⟨(h3 c hc).2.2,(h3 c hc).2.1,(h3 c hc).1⟩,?_⟩ q;have m:=n.trans o.sn;exact⟨λb Li=>by
    obtain⟨j,hj⟩:=Li
    by_cases aA:i=j
    ·rw[<- aA,os_eq]at hj;exact .inr (n.free (h3 b hj).1)
    ·rw[aZ aA]at hj;exact m.w b ⟨j,hj⟩,m.k,m.d⟩)⟩
theorem bf.Fu {P:XX}{w:X6}{U U2:Addr->Prop}{d d':D}{v:V}{A':List Addr}{c:Addr}{o:HO}(b:bf P w (C.u U) σ H β own)(e:β[i]?=some (some (.own d)))(hσ:σ[i]?=some (some v))(hc:c∈own i)
  (r:Own P w (upd H c o) d' v A') (nd:A'.Nodup) (hA:∀a∈A',a∈own i\/(C.H0 a=none/\¬ Wn own a/\U a)) (hU:∀a,U2 a->U a) (S9:∀a∈A',¬ U2 a):bf P w (C.u U2) σ (upd H c o) (β.set i (some (.own d'))) (aC own i A'):=by
 obtain⟨g1,g2,g3,g4⟩:=b.dm i c hc;obtain⟨oc,GG⟩:∃oc,H c=some oc:=by
  cases q:H c with
  |none=>exact absurd q g1
  |some oc=>exact⟨oc,rfl⟩
 have ht:∀xs,oc≠.tup xs:=λxs z=>g2 xs (by rw[GG,z])
 have k:Kp (·=c) H (upd H c o):=jh GG ht;have h0:∀a∈own i,C.H0 a=none:=by obtain⟨_,_,_,h⟩:=b.ow i d e;exact h
 have wc:Wn own c:=⟨i,hc⟩;have sub:∀y a,dD (C.u U2) (Wn (aC own i A')) (yk y) a->dD (C.u U) (Wn own) (yk y) a:=λy a h=>by
  have q:∀a,Wn (aC own i A') a->Wn own a\/U a:=λa Ds=>by
   obtain⟨j,q⟩:=Ds
   by_cases aA:i=j
   ·rw[aA,os_eq]at q;rcases hA a q with z|z
    ·exact .inl ⟨i,z⟩
    ·exact .inr z.2.2
   ·rw[aZ aA]at q;exact .inl ⟨j,q⟩
  rcases h with h|h
  ·cases y with
   |true=>exact h.elim (λz=>(q a z).imp .inl id) λz=>.inl (.inr z)
   |false=>exact q a h
  ·exact .inr (hU a h)
 have mem:∀{j c},c∈aC own i A' j->(i=j/\c∈A')\/(i≠j/\c∈own j):=λ{j c} h=>by
  by_cases aA:i=j
  ·subst aA;rw[os_eq]at h;exact .inl ⟨rfl,h⟩
  ·rw[aZ aA]at h;exact .inr ⟨aA,h⟩
 have P8:∀j,i≠j->∀a∈own j,a≠c:=λj aA a ha z=>aA (b.hV i j c hc (by rw[<- z];exact ha))
 refine⟨by simp[b.len],λj y' d2 e2=>?_,λj d2 e2=>?_,λj ok e2=>?_,λj a h=>?_,λj k2 a h1 h2=>?_,λj=>?_,⟨λa oa z n=>?_,λa xs z=>k.tup a xs (b.kp.tup a xs z)⟩,λa z=>?_,λj y' d2 e2=>by
  by_cases aA:i=j
  ·subst aA;obtain⟨e',hl⟩:=aT e2;cases e'
  ·rw[aS aA]at e2;rw[aZ aA];obtain⟨u,h1,h2,h3⟩:=b.shl j y' d2 e2;exact⟨u,h1,h2.map (λa ha oa ea=>k.out a oa ea (P8 j aA a ha)) (λ_ _ r=>ag.aQ (sub _) (r.keep (k.mono λa z=>by rw[z];cases y' <;> first|exact .inl wc|exact .inl (.inl wc)))),h3⟩⟩
 ·by_cases aA:i=j
  ·subst aA;obtain⟨e',hl⟩:=aT e2;cases e'
  ·rw[aS aA]at e2;obtain⟨u,h1,h2⟩:=b.val j y' d2 e2;exact⟨u,h1,(h2.keep (k.mono λa z=>by rw[z];cases y' <;> first|exact .inl wc|exact .inl (.inl wc))).aQ (sub _)⟩
 ·by_cases aA:i=j
  ·subst aA;obtain⟨e',hl⟩:=aT e2;cases e';rw[os_eq];exact⟨v,hσ,r,λa ha=>(hA a ha).elim (h0 a) λz=>z.1⟩
  ·rw[aS aA]at e2;rw[aZ aA];obtain⟨u,h1,h2,h3⟩:=b.ow j d2 e2;exact⟨u,h1,h2.keep k.tup (λa ha oa ea=>k.out a oa ea (P8 j aA a ha)),h3⟩
 ·by_cases aA:i=j
  ·subst aA;obtain⟨e',hl⟩:=aT e2;cases e'
  ·rw[aS aA]at e2;rw[aZ aA];obtain⟨a,ns,h1,h2,h3,h4,h5⟩:=b.jV j ok e2;exact⟨a,ns,h1,k.out a _ h2 (P8 j aA a (by rw[h4];simp)),h3,h4,h5⟩
 ·rcases mem h with⟨_,h⟩|⟨aA,h⟩
  ·exact⟨(r.nS a h).1,(r.nS a h).2,.inl ((hA a h).elim (h0 a) λz=>z.1),S9 a h⟩
  ·obtain⟨q1,q2,q3,q4⟩:=b.dm j a h;rw[ao (P8 j aA a h)];exact⟨q1,q2,q3,λz=>q4 (hU a z)⟩
 ·rcases mem h1 with⟨e1,h1⟩|⟨n1,h1⟩
  ·rcases mem h2 with⟨e2,h2⟩|⟨n2,h2⟩
   ·rw[<- e1,<- e2]
   ·rcases hA a h1 with z|z
    ·exact absurd (b.hV i k2 a z h2) n2
    ·exact absurd ⟨k2,h2⟩ z.2.1
  ·rcases mem h2 with⟨e2,h2⟩|⟨n2,h2⟩
   ·rcases hA a h2 with z|z
    ·exact absurd (b.hV i j a z h1) n1
    ·exact absurd ⟨j,h1⟩ z.2.1
   ·exact b.hV j k2 a h1 h2
 ·by_cases aA:i=j
  ·rw[<- aA,os_eq];exact nd
  ·rw[aZ aA];exact b.i_ j
 ·refine k.out a oa (b.kp.out a oa z n) λq=>?_;subst q;rw[h0 a hc]at z;cases z
 ·by_cases UU:a=c
  ·rw[UU,ai];exact λz=>(nomatch z)
  ·rw[ao UU];exact b.fj a z
theorem bf.putIn {P:XX}{w:X6}{U:Addr->Prop}{d d':D}{v:V}{A':List Addr}{c:Addr}{o:HO}(b:bf P w (C.u U) σ H β own)(e:β[i]?=some (some (.own d)))(hσ:σ[i]?=some (some v))(hc:c∈own i)
  (r:Own P w (upd H c o) d' v A') (nd:A'.Nodup) (hA:∀a∈A',a∈own i\/(C.H0 a=none/\¬ Wn own a/\U a)):bf P w C.z σ (upd H c o) (β.set i (some (.own d'))) (aC own i A') :=
 b.Fu (U2:=λ_=>False) e hσ hc r nd hA (λ_ z=>z.elim) λ_ _ z=>z
theorem iX {A':List Addr}{c:Addr}{o:HO}{U:Addr->Prop}(n:Sn Z H (Wn own))(m:∀a,U a->Z.1 a=none)(hc:Wn own c)(GG:∃oc,H c=some oc/\∀xs,oc≠.tup xs)(hA:∀a∈A',a∈own i\/(C.H0 a=none/\¬ Wn own a/\U a)):Sn Z (upd H c o) (Wn (aC own i A')):=by
 obtain⟨oc,h1,h2⟩:=GG;have u:=Sn.upd (o':=o) n h1 h2 hc;exact⟨λb Dr=>by
  obtain⟨j,hj⟩:=Dr
  by_cases aA:i=j
  ·rw[<- aA,os_eq]at hj;rcases hA b hj with z|z
   ·exact n.w b ⟨i,z⟩
   ·exact .inr (m b z.2.2)
  ·rw[aZ aA]at hj;exact n.w b ⟨j,hj⟩,u.k,u.d⟩
theorem bf.m8 {P:XX}{w:X6}{ds:List D}(b:bf P w C σ H β own)(e:β[i]?=some (some (.own (.lst ds)))):∃a vs A',σ[i]?=some (some (.ref a))/\H a=some (.lst vs)/\own i=a::A'/\aE P w H ds vs A':=by
 obtain⟨v,h1,⟨a,vs,A',rfl,h2,h3,h4⟩,_⟩:=b.ow i _ e;exact⟨a,vs,A',h1,h2,h3,h4⟩
variable {px ap cp:Pos}
theorem eE (he:∀U,PQ X (C.u U) p e φ)(hn:Nm X i x:=by exact vY)
  (e9:Z3 (.Name x px) "append" X.env (eval (.Name x px) X.env)=eval (.Name x px) X.env:=by rfl)
  (rJ:((ZA cp (X2 [e] X.env)).all (λx=>!x.1)&&(backToKw cp (keywordEach [] X.env)).all (λx=>x.1.isSome)&&decide ([e].length+([]:List aaV).length+(if ([]:List aaV).isEmpty then 0 else 1)<30))=true:=by rfl)
  (eZ:(ap.endLine==cp.line)=true:=by rfl) (hs:X2 [e] X.env=(false,eval e X.env)::X2 [] X.env:=by rfl) (gx:(ZA cp (X2 [] X.env)).any (·.1)=false:=by rfl)
  (oq:Zj (.Call (.Attribute (.Name x px) "append" ap) [e] [] cp) none pos.line X.env=pure false:=by rfl) :
  PB X C (.Expr (.Call (.Attribute (.Name x px) "append" ap) [e] [] cp) pos) (λE β=>(∃ds,β[i]?=some (some (.own (.lst ds))))/\φ β λd k β'=>C8 k d/\∃ds,β'[i]?=some (some (.own (.lst ds)))/\ds.length<X3/\E.nx (β'.set i (some (.own (.lst (ds++[d])))))):=by
 refine⟨λE E' β l Dq=>by obtain⟨h1,q⟩:=Dq;exact⟨h1,(he λ_=>False).mono _ _ _ (λd k β' Dl=>by obtain⟨f,ds,h1,h2,q⟩:=Dl;exact⟨f,ds,h1,h2,l.nx _ q⟩) q⟩,λpins s σ H D I fJ=>?_⟩
 obtain⟨Z,E,β,⟨own,sq,n⟩,⟨⟨U1,hb⟩,q⟩,ok⟩:=fJ;refine lT (pos:=pos) (xD (apos:=ap) (cpos:=cp) PySem.F.plainAttrs_list PySem.F.slot_list_append PySem.F.type_list_append kP (eR (pos:=px) hn) (aW (he λa=>H a=none).pe b_ hs) e9 rJ eZ hs gx) oq pins s σ H D I ?_;obtain⟨a,vs,A',h1,h2,h3,h4⟩:=sq.m8 hb;refine⟨.ref a,h1,.inl ⟨rfl,vs,dv.of h2⟩,tQ.of (he λa=>H a=none) (sq.iP (C:=C.z) (U:=λa=>H a=none) λa z=>z) q λd k β' v H1 au iG o r=>?_⟩;obtain⟨f,ds,pV,hl,q⟩:=iG;obtain⟨a',vs',A1,g1,g2,g3,g4⟩:=o.sq.m8 pV;rw[h1]at g1;cases g1;obtain⟨A,r1,r2,r3⟩:=r.fl f;have ha:a∈au i:=by rw[g3];simp
 have nd:(a::(A1++A)).Nodup:=by
  have q:=o.sq.i_ i;rw[g3]at q;refine Yj.mpr ⟨λz=>?_,YK.mpr ⟨(Yj.mp q).2,r2,λx hx y hy e=>?_⟩⟩
  ·rcases XZ.mp z with z|z
   ·exact(Yj.mp q).1 z
   ·exact(r3 a z).2.1 ⟨i,ha⟩
  ·subst e;exact(r3 x hy).2.1 ⟨i,by rw[g3];simp[hx]⟩
 have hA:∀b∈a::(A1++A),b∈au i\/(C.H0 b=none/\¬ Wn au b/\H b=none):=λb hb=>by
  rcases XU.mp hb with rfl|hb
  ·exact .inl ha
  ·rcases XZ.mp hb with hb|hb
   ·exact .inl (by rw[g3];simp[hb])
   ·exact .inr ⟨(r3 b hb).2.2,(r3 b hb).2.1,(r3 b hb).1⟩
 have kt:∀b xs,H1 b=some (.tup xs)->upd H1 a (.lst (vs'++[v])) b=some (.tup xs):=λb xs z=>by
  rw[ao (λz'=>by rw[z',g2]at z;cases z)];exact z
 have ne1:∀c∈A1,c≠a:=λc hc z=>by
  have q:=o.sq.i_ i;rw[g3]at q;exact(Yj.mp q).1 (by rw[<- z];exact hc)
 have ne2:∀c∈A,c≠a:=λc hc z=>(r3 c hc).2.1 ⟨i,by rw[z];exact ha⟩
 have r':Own X.prog X.w (upd H1 a (.lst (vs'++[v]))) (.lst (ds++[d])) (.ref a) (a::(A1++A)) :=
  ⟨a,vs'++[v],A1++A,rfl,ai,rfl,(g4.keep kt λc hc oc ec=>by rw[ao (ne1 c hc)];exact ec).append (aE.one (r1.keep kt λc hc oc ec=>by rw[ao (ne2 c hc)];exact ec))⟩
 exact⟨a,vs',v,rfl,rfl,g2,by rw[g4.length];exact hl,ok.nx _ _ _ ⟨_,o.sq.putIn pV h1 ha r' nd hA,iX (n.trans o.sn) (λb z=>n.free z) ⟨i,ha⟩ ⟨_,g2,λxs z=>by cases z⟩ hA⟩ q⟩
end
abbrev bW:=D->Kd->aL->(aL->Prop)->Prop
abbrev qv:=List D->Kd->aL->(aL->Prop)->Prop
structure o9 (X:Cx)(C:Cfg)(tg:Expr)(T:List Nat)(γ:bW):Prop where
 mono:∀d k β R R',(∀r,R r->R' r)->γ d k β R->γ d k β R'
 pg:PG X tg λv σ H Q=>∃own β d k,SQ X C σ H β own/\Rp X (dD C (Wn own) k) H d v/\γ d k β λβ'=>∀σ' aK,SQ X C σ' H β' aK->(∀a,Wn aK a->Wn own a)->(∀j,j∉T->σ'[j]?=σ[j]?)->Q σ' H
structure Hw (X:Cx)(C:Cfg)(yQ:List Expr)(T:List Nat)(γ:qv):Prop where
 mono:∀d k β R R',(∀r,R r->R' r)->γ d k β R->γ d k β R'
 Ur:IJ X yQ λvs σ H Q=>∃own β ds k,SQ X C σ H β own/\jx X (dD C (Wn own) k) H ds vs/\γ ds k β λβ'=>∀σ' aK,SQ X C σ' H β' aK->(∀a,Wn aK a->Wn own a)->(∀j,j∉T->σ'[j]?=σ[j]?)->Q σ' H
section
variable {X:Cx}{C:Cfg}{tg:Expr}{yQ:List Expr}{γ:bW}{γs:qv}{T T':List Nat}{pos:Pos}{e:Expr}{φ:aB}{p:Bool}
def WL (i:Nat):bW:=λd k β R=>Ic d k λb=>R (β.set i (some b))
theorem ak {i:Nat}{x:Str}(hN:X.N.Nodup)(hi:X.N[i]?=some x:=by rfl)(hx:Loc X.env.scope x:=by first|exact .inl rfl|exact .inr rfl)
  (hf:X.fn x=true\/X.env.scope.names.lookup x=some .local:=by first|exact .inl rfl|exact .inr rfl|assumption):o9 X C (.Name x pos) [i] (WL i) :=
 ⟨λd k β R R' h q=>Ic.mono (d:=d) (k:=k) (K:=λb=>R (β.set i (some b))) (K':=λb=>R' (β.set i (some b))) (λ_=>h _) q,(FJ hN hi hx hf).pre λv σ H Q fy=>by
  obtain⟨own,β,d,k,s,r,q⟩:=fy;have P2:∀(v:V) (j:Nat),j∉[i]->(σ.set i (some v))[j]?=σ[j]?:=λv j hj=>aS (YW (by simpa using hj))
  cases k with
  |own=>exact q _ _ (s.eJ (y:=true) r) (λa h=>gR h) (P2 v)
  |dY=>exact q _ _ (s.eJ (y:=true) r) (λa h=>gR h) (P2 v)
  |old=>exact q _ _ (s.eJ (y:=false) r) (λa h=>gR h) (P2 v)
  |bor=>exact q.2 _ _ (s.eJ (y:=true) (az.flat q.1 r)) (λa h=>gR h) (P2 v)⟩
abbrev sk (k:Kd):D->Kd
 |.int _=>.own
 |.bl _=>.own
 |.cj=>.own
 |.str _=>.own
 |_=>k.wk
theorem my {P:XX}{w:X6}{W:Addr->Prop}{H:Hp}{k:Kd}{d:D}{v:V}(r:az P w (dD C W k) H d v):az P w (dD C W (sk k d)) H d v:=by
 cases d with
 |int i=>exact az.flat rfl r
 |bl i=>exact az.flat rfl r
 |cj=>exact az.flat rfl r
 |str i=>exact az.flat rfl r
 |_=>exact az.aQ (λa z=>z.imp (yE a) id) r
def Lu:qv:=λds _ β R=>ds=[]/\R β
def DA (γ:bW)(γs:qv):qv:=λds k β R=>∃d r,ds=d::r/\γ d (sk k d) β λβ'=>γs r k β' R
theorem bC:Hw X C [] [] Lu:=⟨λd k β R R' h q=>⟨q.1,h _ q.2⟩,FI.pre λvs σ H Q jU=>by
 obtain⟨own,β,ds,k,s,r,e,q⟩:=jU;subst e;exact⟨r,q σ own s (λ_ z=>z) λ_ _=>rfl⟩⟩
theorem aD (h1:o9 X C tg T γ)(h2:Hw X C yQ T' γs)(hs:(ZX (tg::yQ) X.env).map (·.2)=assign tg X.env::(ZX yQ X.env).map (·.2):=by rfl):Hw X C (tg::yQ) (T++T') (DA γ γs) :=
 ⟨λds k β R R' h rG=>by obtain⟨d,r,e,q⟩:=rG;exact⟨d,r,e,h1.mono _ _ β _ _ (λβ' q=>h2.mono r k β' _ _ h q) q⟩,
  (BV h1.pg h2.Ur hs).pre λvs σ H Q uo=>by
    obtain⟨own,β,ds,k,s,rr,d,r,e,q⟩:=uo;subst e;obtain⟨v,vr,rfl,rv,VE⟩:=rr;exact⟨v,vr,rfl,own,β,d,_,s,my rv,h1.mono _ _ β _ _ (λβ' q σ' aK s' w' t'=>⟨aK,β',r,k,s',ag.aQ (dB w' k) VE,h2.mono r k β' _ _ (λβ2 q2 σ2 aU s2 w2 t2=>q2 σ2 aU s2 (λa z=>w' a (w2 a z)) λj hj=>(t2 j λz=>hj (Yn _ z)).trans (t' j λz=>hj (Yq _ z))) q⟩) q⟩⟩
def WK (n:Nat)(γs:qv):bW:=λd k β R=>∃ds,d=.tup ds/\ds.length=n/\γs ds k β R
theorem bZ {k:Nat}{n:Nat}(hc:X.calm=true)(h:Hw X C yQ T γs)(hn:(ZX yQ X.env).length=n:=by rfl)(K1:(ZX yQ X.env).findIdx? (·.1)=none:=by rfl):o9 X C (.Tuple yQ k pos) T (WK n γs) :=
 ⟨λd k β R R' hh zS=>by obtain⟨ds,e,l,q⟩:=zS;exact⟨ds,e,l,h.mono ds k β _ _ hh q⟩,(JN hc h.Ur hn K1).pre λv σ H Q GD=>by
  obtain⟨own,β,d,k,s,r,ds,e,l,q⟩:=GD;subst e;obtain⟨a,vs,rfl,ha,rs⟩:=r;exact⟨a,vs,rfl,kh.of ha,by rw[rs.length];exact l,own,β,ds,k,s,rs,q⟩⟩
theorem f9 {Z:Hp×(Addr->Prop)}{H:Hp}{own aK:Nat->List Addr}(n:Sn Z H (Wn own))(h:∀a,Wn aK a->Wn own a):Sn Z H (Wn aK):=⟨λb z=>n.w b (h b z),n.k,n.d⟩
theorem kK (he:PQ X C.z p e φ)(hg:o9 X C.z tg T γ)(hs:swapsWithSole [tg] e pos.line X.env=pure false:=by rfl)(hw:swappedStores [tg] e X.env=pure none:=by rfl)
  (h1:(ZX [tg] X.env).map (·.2)=[assign tg X.env]:=by rfl):PB X C (.Assign [tg] e pos) (λE β=>φ β λd k β'=>γ d k β' E.nx) :=
 ⟨λE E' β l q=>he.mono _ _ _ (λd k β' q=>hg.mono _ _ _ _ _ l.nx q) q,(vM he.pe hg.pg hs hw h1).pre λD σ H ⟨Z,E,β,⟨own,s,n⟩,q,ok⟩=>tQ.of he s q λd k β' v H' aK q o r =>
  ⟨aK,β',d,k,o.sq,az.aQ (λa z=>z.elim id λz=>z.elim) r.rep,hg.mono _ _ _ _ _ (λβ2 q σ2 aU s2 w2 _=>ok.nx _ _ _ ⟨aU,s2,f9 (n.trans o.sn) w2⟩ q) q⟩⟩
theorem FQ (he:PQ X C.z p e φ)(oq:Zj e none pos.line X.env=pure false:=by rfl):PB X C (.Expr e pos) (λE β=>φ β λ_ _ β'=>E.nx β') :=
 ⟨λE E' β l q=>he.mono _ _ _ (λd k β' q=>l.nx _ q) q,(lT he.pe oq).pre λD σ H Dk=>by obtain⟨Z,E,β,⟨own,s,n⟩,q,ok⟩:=Dk;exact tQ.of he s q λd k β' v H' aK q o r=>ok.nx _ _ _ (o.sb n) q⟩
abbrev RM (ro:Bool)(k:Kd)(d:D):Prop:=match k,ro with
 |.own,_=>True
 |.dY,false=>True
 |_,_=>d.flat=true
theorem fW {P:XX}{w:X6}{W:Addr->Prop}{ro:Bool}{H H':Hp}{d:D}{v:V}(f:d.flat=true)(r:az P w W H' d v):rV P w ro H H' d v:=by
 cases ro with
 |true=>exact⟨[],cU f r,YA,λc hc=>(nomatch hc)⟩
 |false=>exact az.flat f r
theorem F9 {P:XX}{w:X6}{Z:Hp×(Addr->Prop)}{own:Nat->List Addr}{ro:Bool}{H':Hp}{k:Kd}{d:D}{v:V}(f:RM ro k d)(r:KV P w C Z own H' k d v):rV P w ro C.H0 H' d v:=by
 cases k with
 |own =>
  cases ro with
  |true=>obtain⟨A,h1,h2,h3⟩:=r;exact⟨A,h1,h2,λc hc=>(h3 c hc).2.2⟩
  |false=>exact az.aQ (λa z=>.inr z) r.rep
 |dY =>
  cases ro with
  |true=>exact fW f r.rep
  |false=>exact az.aQ (λa z=>.inr z) r.rep
 |old=>cases ro <;> exact fW f r.rep
 |bor=>cases ro <;> exact fW f r.rep
theorem FP (he:PQ X C.z p e φ):PB X C (.Return (some e) pos) (λE β=>φ β λd k β'=>RM C.ro k d/\E.rt d β') :=
 ⟨λE E' β l q=>he.mono _ _ _ (λd k β' q=>⟨q.1,l.rt _ _ q.2⟩) q,(i8 he.pe).pre λD σ H GC=>by obtain⟨Z,E,β,⟨own,s,n⟩,q,ok⟩:=GC;exact tQ.of he s q λd k β' v H' aK q o r=>ok.rt _ _ _ _ _ (o.sb n) (F9 (C:=C.z) q.1 r) q.2⟩
theorem a9 {ro:Bool}(he:PQ X C.z p e φ)(N5:C.ro=ro:=by first|exact(rfl:_=true)|exact(rfl:_=false)):PB X C (.Return (some e) pos) (λE β=>φ β λd k β'=>RM ro k d/\E.rt d β'):=by
 subst N5;exact FP he
theorem gm {i:Nat}{x:Str}{px:Pos}(hn:Nm X i x:=by exact vY):
  PB X C (.Return (some (.Name x px)) pos) (λE β=>∃d,β[i]?=some (some (.own d))/\E.rt d β) :=
 ⟨λE E' β l wt=>by obtain⟨d,h1,q⟩:=wt;exact⟨d,h1,l.rt _ _ q⟩,(i8 (eR (pos:=px) hn)).pre λD σ H Dt=>by
  obtain⟨Z,E,β,⟨own,s,n⟩,⟨d,h1,q⟩,ok⟩:=Dt;obtain⟨v,e1,r,h0⟩:=s.ow i d h1;refine⟨_,e1,ok.rt _ _ _ _ _ ⟨own,s,n⟩ ?_ q⟩;cases hr:C.ro with
  |true=>exact⟨_,r,s.i_ i,h0⟩
  |false=>exact r.rep λc hc z=>z (h0 c hc)⟩
end
abbrev bz:=aL->(List D->Kd->aL->Prop)->Prop
structure o8 (X:Cx)(C:Cfg)(p:Bool)(tg iter:Expr)(ι:bz):Prop where
 mono:∀β R R',(∀d k β,R d k β->R' d k β)->ι β R->ι β R'
 pi:PI X tg iter λσ H R=>∃β own,SQ X C σ H β own/\ι β λds k β'=>∀J H' aK,Out X C σ H own p β' H' aK->rW X (av C (Wn aK) k) J ds H'->R J H'
section
variable {X:Cx}{C:Cfg}{tg e a b:Expr}{φ:aB}{φs:cg}{p:Bool}{pp pos:Pos}
def RU (φ:aB):bz:=λβ R=>φ β λd k β'=>∃ds,d=.lst ds/\R ds k β'
theorem ba (h:PQ X C p e φ):o8 X C p tg e (RU φ) :=
 ⟨λβ R R' k q=>h.mono β _ _ (λd kd β' Lj=>by obtain⟨ds,e,q⟩:=Lj;exact⟨ds,e,k _ _ _ q⟩) q,(xB h.pe).pre λσ H R ⟨β,own,s,q⟩=>tQ.of h s q λd k β' v H1 au Ds o1 r1=>by
  obtain⟨ds,e,q1⟩:=Ds;subst e;obtain⟨a,vs,rfl,h1,n1,q2⟩:=r1.rep;exact⟨a,rfl,⟨vs,dv.of h1⟩,q1 _ _ au o1 (ug h1 n1 q2)⟩⟩
theorem Gv {W:Addr->Prop}{H:Hp}{a:Addr}{vs:List V}{ds:List D}(h1:H a=some (.tup vs))(q2:jx X W H ds vs):rW X W (TR X.K a) ds H:=λW' hW i H' k=>by
 have h2:=k.tup a _ h1;replace q2:=ag.grow hW q2;constructor
 ·intro d hd;obtain⟨v,hv,rv⟩:=ag.get q2 hd;refine⟨⟨vs,v,kh.of h2,hv⟩,λx H1 y=>?_⟩;obtain⟨rfl,y⟩:=y;have e:=y vs (kh.of h2);rw[hv]at e;cases e;exact⟨ar.refl _,rv.keep k⟩
 ·intro hl;exact⟨vs,kh.of h2,by rw[q2.length];exact hl⟩
def GA (φs:cg):bz:=λβ R=>φs β λds _ β'=>∃j:Int,ds=[.int j]/\-(2 ^ 62)<=j/\j<2 ^ 62/\R (mL 0 j.toNat) .dY β'
def yc (φs:cg):bz:=λβ R=>φs β λds _ β'=>∃i j:Int,ds=[.int i,.int j]/\(-(2 ^ 62)<=i/\i<2 ^ 62/\-(2 ^ 62)<=j/\j<2 ^ 62)/\R (mL i (j-i).toNat) .dY β'
theorem bp (hm:X.mg "range" = none) (ha:sg X C p [a] φs) (hg:Gl X "range" := by rfl) (hs:X2 [a] X.env=[(false,eval a X.env)]:=by rfl):o8 X C p tg (.Call (.Name "range" pp) [a] [] pos) (GA φs) :=
 ⟨λβ R R' k q=>ha.mono β _ _ (λd kd β' Lh=>by obtain⟨j,e,h1,h2,q⟩:=Lh;exact⟨j,e,h1,h2,k _ _ _ q⟩) q,(zm hg hm ha.pa hs).pre λσ H R ⟨β,own,s,q⟩=>vg.of ha s q λds ks β' vs H1 au Lf o1 r1=>by
  obtain⟨j,e,h1,h2,q1⟩:=Lf;subst e;obtain⟨x,rfl,hx⟩:=qr r1.i6;cases hx;exact⟨j,rfl,h1,h2,q1 _ _ au o1 kU⟩⟩
theorem vN (hm:X.mg "range" = none) (ha:sg X C p [a,b] φs) (hg:Gl X "range" := by rfl) (hs:X2 [a,b] X.env=[(false,eval a X.env),(false,eval b X.env)]:=by rfl) (jT:X2 [b] X.env=[(false,eval b X.env)]:=by rfl) :
  o8 X C p tg (.Call (.Name "range" pp) [a,b] [] pos) (yc φs) :=
 ⟨λβ R R' k q=>ha.mono β _ _ (λd kd β' Lc=>by obtain⟨i,j,e,h1,q⟩:=Lc;exact⟨i,j,e,h1,k _ _ _ q⟩) q,(pF hg hm ha.pa hs jT).pre λσ H R ⟨β,own,s,q⟩=>vg.of ha s q λds ks β' vs H1 au Sj o1 r1=>by
  obtain⟨i,j,e,h1,q1⟩:=Sj;subst e;obtain⟨x,y,rfl,hx,hy⟩:=oh r1.i6;cases hx;cases hy;exact⟨i,j,rfl,h1,q1 _ _ au o1 kU⟩⟩
end
def DE (γ:bW)(ψ:yI)(E:cB)(ds:List D)(k:Kd)(β:aL):Prop:=∃I:Nat->aL->Prop,I 0 β/\(∀i d β,ds[i]?=some d->I i β->γ d (sk k d) β λβ1=>ψ (E.lp (I (i+1))) β1)/\∀β,I ds.length β->E.nx β
section
variable {X:Cx}{C:Cfg}{tg iter c:Expr}{γ:bW}{T:List Nat}{ψ:yI}{ι:bz}{τ:aN}{body:List Stmt}{pos:Pos}{p:Bool}
theorem DE.mono {E E':cB}{ds:List D}{k:Kd}{β:aL}(hγ:∀d k β R R',(∀r,R r->R' r)->γ d k β R->γ d k β R')(hψ:∀E E' β,Le E E'->ψ E β->ψ E' β)(l:Le E E'):DE γ ψ E ds k β->DE γ ψ E' ds k β:=λ⟨I,h0,h1,h2⟩ =>
 ⟨I,h0,λi d β e q=>hγ d _ β _ _ (λβ1 q=>hψ {nx:=I (i+1),rt:=E.rt,bk:=E.nx,ct:=I (i+1)} {nx:=I (i+1),rt:=E'.rt,bk:=E'.nx,ct:=I (i+1)} β1 ⟨λ_ q=>q,l.rt,l.nx,λ_ q=>q⟩ q) (h1 i d β e q),λβ q=>l.nx _ (h2 β q)⟩
theorem Ho {own aU:Nat->List Addr}{H H2:Hp}{k:Kd}(n:Sn (H,Wn own) H2 (Wn aU)):∀b,av C (Wn aU) k b->av C (Wn own) k b\/H b=none:=λb z=>by
 cases k with
 |own=>exact z.elim (λz=>(n.w b z).imp .inl id) λz=>.inl (.inr z)
 |dY=>exact z.elim (λz=>(n.w b z).imp .inl id) λz=>.inl (.inr z)
 |old=>exact n.w b z
 |bor=>exact z.elim
theorem dG (hp:PassesOwn (model X.prog X.w) X.A X.env X.xe)(hc:X.calm=true)(hi:o8 X C.z p tg iter ι)(hg:o9 X C.z tg T γ)(hb:si X C body ψ)(hs:∀x,Yp iter X.env x=pure x:=by intro _;rfl):
  PB X C (.For tg iter body [] pos) (λE β=>ι β λds k β1=>hold k false/\DE γ ψ E ds k β1) :=
 ⟨λE E' β l q=>hi.mono _ _ _ (λds k β1 q=>⟨q.1,q.2.mono hg.mono hb.mono l⟩) q,(BH hp hc hi.pi hg.pg hb.ps hs).pre λD σ H Sh=>by
  obtain⟨Z,E,β,⟨own,s,n⟩,q,ok⟩:=Sh;refine⟨β,own,s,hi.mono _ _ _ (λds k β1 fJ J H1 au o1 it=>?_) q⟩;obtain⟨hk,I,i0,i1,i2⟩:=fJ;have n':=n.trans o1.sn;have ig:∀b,Wn au b\/H1 b=none->av C.z (Wn au) k b\/H1 b=none:=λb z=>by
   cases k with
   |own=>exact z.imp .inl id
   |dY=>exact z.imp .inl id
   |old=>exact z
   |bor=>exact hk.elim
  have Ie:=it (λb=>av C.z (Wn au) k b\/H1 b=none) λb z=>z;refine⟨λi m σ H=>i<=ds.length/\m=ds.length-i/\∃β,SB X C (H1,Wn au) σ H β/\I i β,⟨_,Yh _,rfl,β1,⟨au,o1.sq,Sn.refl⟩,i0⟩,?_⟩;rintro i m σ2 H2 ⟨hi,rfl,β2,⟨aU,s2,n2⟩,hl⟩;obtain⟨br,fM⟩:=Ie i H2 (n2.k.mono ig)
  by_cases iH:i<ds.length
  ·right
   have hd:ds[i]?=some ds[i]:=XY iH;obtain⟨go,yl⟩:=br _ hd;refine⟨go,λσ' H'=>∃β,SB X C (H1,Wn au) σ' H' β/\I (i+1) β,λσ' H' La=>by obtain⟨β',vI,wu⟩:=La;exact⟨_,by lia,iH,rfl,β',vI,wu⟩,λx H3 y=>?_⟩
   obtain⟨s3,r3⟩:=yl x H3 y;refine⟨aU,β2,_,_,s2.same s3,my (C:=C.z) (az.aQ (λb z=>Ho (C:=C) n2 b (z.elim id λz=>z.elim)) r3),hg.mono _ _ _ _ _ (λβ4 q σ4 mT s4 w4 _=>?_) (i1 i _ β2 hd hl)⟩;refine⟨(H1,Wn au),_,β4,⟨mT,s4,f9 (n2.same s3) w4⟩,q,⟨λσ5 H5 β5 zb q5=>⟨β5,zb,q5⟩,λσ5 H5 β5 d5 v5 zb r5 q5=>?_,λσ5 H5 β5 zb q5=>?_,λσ5 H5 β5 zb q5=>⟨β5,zb,q5⟩⟩⟩
   ·obtain⟨iE,s5,n5⟩:=zb;exact ok.rt _ _ _ _ _ ⟨iE,s5,n'.trans n5⟩ r5 q5
   ·obtain⟨iE,s5,n5⟩:=zb;exact ok.nx _ _ _ ⟨iE,s5,n'.trans n5⟩ q5
  ·left
   have e:i=ds.length:=by lia
   subst e;exact⟨fM (XS _),ok.nx _ _ _ ⟨aU,s2,n'.trans n2⟩ (i2 β2 hl)⟩⟩
def A5 (τ:aN)(ψ:yI):yI:=λE β=>∃V:Nat->aL->Prop,(∃m,V m β)/\∀m β,V m β->τ β λt β1=>if t=true then ψ {nx:=λβ'=>∃m',m'<m/\V m' β',rt:=E.rt,bk:=E.nx,ct:=λβ'=>∃m',m'<m/\V m' β'} β1 else E.nx β1
theorem B7 (hp:PassesOwn (model X.prog X.w) X.A X.env X.xe)(hc:vp X C.z p c τ)(hb:si X C body ψ):PB X C (.While c body [] pos) (A5 τ ψ) :=
 ⟨λE E' β l ⟨V,h0,h⟩=>⟨V,h0,λm β v=>hc.mono _ _ _ (λt β1 q=>by
   cases t
   ·exact l.nx _ q
   ·exact hb.mono {nx:=λβ'=>∃m',m'<m/\V m' β',rt:=E.rt,bk:=E.nx,ct:=λβ'=>∃m',m'<m/\V m' β'} {nx:=λβ'=>∃m',m'<m/\V m' β',rt:=E'.rt,bk:=E'.nx,ct:=λβ'=>∃m',m'<m/\V m' β'} β1 ⟨λ_ q=>q,l.rt,l.nx,λ_ q=>q⟩ q) (h m β v)⟩,(BG hp hc.pt hb.ps).pre λD σ H K_=>by
  obtain⟨Z,E,β,sb,⟨V,⟨m0,v0⟩,h⟩,ok⟩:=K_;refine⟨λm σ H=>∃β,SB X C Z σ H β/\V m β,⟨m0,β,sb,v0⟩,λm σ H iG=>?_⟩;obtain⟨β,⟨own,s,n⟩,v⟩:=iG;refine ib.of hc s (h m β v) λt β1 H1 au q o1=>?_;cases t
  ·exact ok.nx _ _ _ (o1.sb n) q
  ·exact⟨λσ' H'=>∃β',SB X C Z σ' H' β'/\∃m',m'<m/\V m' β',λσ' H' K8=>by obtain⟨β',vI,m',hm,v'⟩:=K8;exact⟨m',hm,β',vI,v'⟩,Z,_,β1,o1.sb n,q,λσ' H' β' vI q'=>⟨β',vI,q'⟩,ok.rt,ok.nx,λσ' H' β' vI q'=>⟨β',vI,q'⟩⟩⟩
end
def startB (N:List Str)(ds:List D):aL:=ds.map (λd=>some (.val false d))++YY (N.length-ds.length) none
def ku (N:List Str)(ok:List Int->Prop)(ds:List D):aL:=some (.hand ok)::(ds.map (λd=>some (.val false d))++YY (N.length-(ds.length+1)) none)
section
variable {P:XX}{w:X6}{K:PySem.W.Frag}{mg:Str->Option XO}{base:Heap}
theorem gW {i n:Nat}{b:B}(h:(YY n (none:Option B))[i]?=some (some b)):False:=by
 rw[List.getElem?_replicate]at h
 split at h <;> cases h
theorem fP {ds:List D}{n i:Nat}{b:B}(h:(ds.map (λd=>some (B.val false d))++YY n none)[i]?=some (some b)):∃d,ds[i]?=some d/\b=.val false d:=by
 by_cases hi:i<ds.length
 ·rw[ZH (by simpa using hi),X5]at h
  cases q:ds[i]? with
  |none=>rw[q]at h;cases h
  |some d=>rw[q]at h;cases h;exact⟨d,rfl,rfl⟩
 ·rw[Z_ (by simpa using hi)]at h
  exact(gW h).elim
theorem kr {N:List Str}{vs:List V}{i:Nat}{v:V}(h:vs[i]?=some v):(start N vs)[i]?=some (some v):=by
 unfold start;rw[ZH (by simpa using (X0.mp h).1),X5,h]
 rfl
theorem Bg {N:List Str}{vs:List V}{ds:List D}{H:Hp}{ro:Bool}(r:ag P w (λ_=>False) H ds vs):bf P w ⟨H,λ_=>False,ro,λ_=>False⟩ (start N vs) H (startB N ds) (λ_=>[]):=by
 refine⟨?_,λi y d h=>?_,λi d h=>?_,λi ok h=>?_,λi a h=>(nomatch h),λi j a h=>(nomatch h),λi=>YA,Kp.refl,λ_ z=>z,λi y d h=>by obtain⟨d',e,e'⟩:=fP h;cases e'⟩
 ·unfold startB start;simp[r.length]
 ·obtain⟨d',e,e'⟩:=fP h;cases e';obtain⟨v,e1,e2⟩:=ag.get r e;exact⟨v,kr e1,az.aQ (λa z=>z.elim (λK7=>by obtain⟨_,q⟩:=K7;exact(nomatch q)) λz=>z) e2⟩
 ·obtain⟨d',e,e'⟩:=fP h;cases e'
 ·obtain⟨d',e,e'⟩:=fP h;cases e'
theorem lq {x qual:Str}{st:Stmt}{f:Addr}{fd:YB}{N ps:List Str}{k:Nat}{F:FD}{ro:Bool}(G:EZ K x qual st f fd)(S:aG N ps (ay st))(len:∀ds R,F ds R->ds.length=ps.length)
  (nB:∀(cF:XO) (A:YX) (outer:List Env) (s:XQ) (H:Hp) (E:XK),dg k (A.deeper (envOfC qual (ay st) s.heap.objs.size f cF)) ->
   ∃ψ,si (oZ bN P w K mg base N qual (ay st) f cF A outer s H E).HY ⟨H,λ_=>False,ro,λ_=>False⟩ (fC st) ψ/\∀ds R,F ds R->ψ (eN R) (startB N ds)) :
  aJ P w K mg base bN (k+1) f fd ps (cM P w ro F):=by
 refine G.ok S (λvs H Q E h=>?_) (λcF A outer s H vs Q E hr h=>?_)
 ·obtain⟨ds,r,h⟩:=h;rw[r.length];exact len ds _ h
 ·obtain⟨ds,r,h⟩:=h;obtain⟨ψ,hb,hF⟩:=nB cF A outer s H E hr;refine⟨_,hb.ps,(H,Wn λ_=>[]),_,startB N ds,⟨λ_=>[],Bg r,Sn.refl⟩,hF ds _ h,λσ H' β sb q=>?_,λσ H' β d v sb rr q=>?_,λ_ _ _ _ z=>z.elim,λ_ _ _ _ z=>z.elim⟩
  ·obtain⟨own,s',n'⟩:=sb;exact q _ H' (λb o e=>s'.kp.out b o e (λz=>z)) (fW (W:=λ_=>False) rfl rfl)
  ·obtain⟨own,s',n'⟩:=sb;exact q _ H' (λb o e=>s'.kp.out b o e (λz=>z)) rr
theorem yS {N:List Str}{ok:List Int->Prop}{h:Addr}{ns:List Int}{vs:List V}{ds:List D}{H:Hp}{ro:Bool}(hh:H h=some (.lst (ns.map V.int)))(ho:ok ns)(r:ag P w (λa=>a=h) H ds vs):
  bf P w ⟨H,(·=h),ro,λ_=>False⟩ (start N (.ref h::vs)) H (ku N ok ds) (λi=>if i=0 then [h] else []):=by
 have FT:∀{i:Nat} {a:Addr},a∈(if i=0 then [h] else ([]:List Addr))->i=0/\a=h:=λ{i a} q=>by
  by_cases e:i=0
  ·rw[if_pos e]at q;exact⟨e,by simpa using q⟩
  ·rw[if_neg e]at q;cases q
 have GO:∀{i:Nat} {b:B},(ku N ok ds)[i]?=some (some b)->(i=0/\b=.hand ok)\/∃j d,i=j+1/\ds[j]?=some d/\b=.val false d:=λ{i b} q=>by
  unfold ku at q;cases i with
  |zero=>simp at q;exact .inl ⟨rfl,q.symm⟩
  |succ i =>
   rw[ZT]at q;obtain⟨d,e,e'⟩:=fP q;exact .inr ⟨i,d,rfl,e,e'⟩
 refine⟨?_,λi y d q=>?_,λi d q=>?_,λi AD q=>?_,λi a q=>?_,λi j a h1 h2=>?_,λi=>?_,Kp.refl,λ_ z=>z,λi y d q=>(GO q).elim (λDk=>by obtain⟨_,e⟩:=Dk;cases e) (λGC=>by obtain⟨j,d',_,_,e'⟩:=GC;cases e')⟩
 ·unfold ku start;simp[r.length]
 ·rcases GO q with⟨_,e⟩|⟨j,d',rfl,e,e'⟩
  ·cases e
  ·cases e';obtain⟨v,e1,e2⟩:=ag.get r e;exact⟨v,kr (by simpa using e1),az.aQ (λa z=>z.elim (λK6=>by obtain⟨j,q⟩:=K6;exact(FT q).2) λz=>z.elim) e2⟩
 ·rcases GO q with⟨_,e⟩|⟨j,d',_,_,e'⟩
  ·cases e
  ·cases e'
 ·rcases GO q with⟨e0,e⟩|⟨j,d',_,_,e'⟩
  ·cases e;subst e0;exact⟨h,ns,kr rfl,hh,ho,rfl,.inr rfl⟩
  ·cases e'
 ·obtain⟨_,rfl⟩:=FT q;exact⟨by rw[hh];exact λz=>(nomatch z),λxs z=>(by rw[hh]at z;cases z),.inr rfl,λz=>z⟩
 ·rw[(FT h1).1,(FT h2).1]
 ·by_cases e:i=0
  ·simp[e]
  ·simp[e]
theorem J9 {x qual:Str}{st:Stmt}{f:Addr}{fd:YB}{N ps:List Str}{k:Nat}{F:FD}{ok:List Int->Prop}{ro:Bool}(G:EZ K x qual st f fd)(S:aG N ps (ay st))(len:∀ds R,F ds R->ds.length+1=ps.length)
  (nB:∀(cF:XO) (A:YX) (outer:List Env) (s:XQ) (H:Hp) (E:XK) (IO:Addr->Prop),dg k (A.deeper (envOfC qual (ay st) s.heap.objs.size f cF)) ->
   ∃ψ,si (oZ bN P w K mg base N qual (ay st) f cF A outer s H E).HY ⟨H,IO,ro,λ_=>False⟩ (fC st) ψ/\∀ds R,F ds R->ψ (eH ok R) (ku N ok ds)) :
  aJ P w K mg base bN (k+1) f fd ps (kz P w ok ro F):=by
 refine G.ok S (λvs H Q E h=>?_) (λcF A outer s H vs Q E hr h=>?_)
 ·obtain⟨h,vs',ds,ns,rfl,hh,ho,r,q⟩:=h;rw[Yt,r.length];exact len ds _ q
 ·obtain⟨h,vs',ds,ns,rfl,hh,ho,r,q⟩:=h;obtain⟨ψ,hb,hF⟩:=nB cF A outer s H E (·=h) hr;refine⟨_,hb.ps,(H,_),_,ku N ok ds,⟨_,yS hh ho r,Sn.refl⟩,hF ds _ q,λσ H' β sb z=>z.elim,λσ H' β d v sb rr oK=>?_,λ_ _ _ _ z=>z.elim,λ_ _ _ _ z=>z.elim⟩;obtain⟨b0,q⟩:=oK;obtain⟨own,s',n'⟩:=sb;obtain⟨a,lH,g1,g2,g3,g4,g5⟩:=s'.jV 0 ok b0;have ea:a=h:=g5.elim (λz=>(z h rfl).elim) λz=>z;subst ea;exact q v H' lH s'.kp s'.fj g2 g3 rr
end
end L2.Q
namespace L2
open PySem PySem.Spec PySem.SeqAt PyProof.Rows
theorem qu.pre {X:Cx}{ifs:List Expr}{t t':TT}(h:qu X ifs t)(k:∀σ H Q,t' σ H Q->t σ H Q):qu X ifs t':=λpins s σ H Q I q=>h pins s σ H Q I (k σ H Q q)
section
end
section
end
section
variable {X:Cx}{e:Expr}{g:ZN}{gs:List ZN}{scope:ZE}{N':List Str}{lk:List (Option Nat)}{tg:Addr->TG}{tt:Addr->TT}{wi:TI}
theorem lD {bS:Sem XO}{o:Addr->HO}{after:XO->Env->Sem Fin->Sem Fin}{ta:Addr->iN}(L:Links X scope N' lk)(hc:X.calm=true)(hA:∀(pins:List (Addr×Obj)) (s:XQ) (σ:St) (H:Hp) (Q:XO->XQ->Prop) (E:XO->XQ->Prop),Inv X pins σ H s->(∀a s',s.heap.objs.size<=a->H a=none->(∀b o,s.heap.get? b=some o->s'.heap.get? b=some o)->Inv X pins σ (upd H a (o a)) s'->Q (.ref a) s')->Ye (model X.prog X.w) X.A bS Q E s)
  (F:∀acc env,ff e 0 g acc env (after acc env))
  (lK:∀a cl C s H ex,PG (aq X scope N' cl C s H ex) g.target (tg a)/\qu (aq X scope N' cl C s H ex) g.ifs (tt a)/\ki (aq X scope N' cl C s H ex) (after (.ref a) (aq X scope N' cl C s H ex).env) (ta a))
  {cl:List (Str×Addr)} (kl:∀x,(x,Yw)∈scope.names->∃c,cl.lookup x=some c) (rK:∀x c,cl.lookup x=some c->X.env.cells.lookup x=some c)
  {pins:List (Addr×Obj)} {σ:St} {s:XQ} {Q:V->Hp->Prop} {AF:XO} {E:XO->XQ->Prop} {RR:XO->Addr->Result->XQ->Prop}
  (h:LZ X pins σ g.target (λJ H1=>∀a,H1 a=none->dw J (tg a) (tt a) (ta a) (λ_ H'=>Q (.ref a) H') (b8 lk σ) (upd H1 a (o a))) AF s)
  (hR:∀a H' C s',Inv X pins σ H' s'->fc X pins H' C->(∃m,s'.heap.Ns C m)->Q (.ref a) H'->RR (.ref a) C (.ok .next) s') :
  Ye (model X.prog X.w) X.A bS (λacc s₃=>Ye (model X.prog X.w) X.A (newFunctionEnv scope X.env.globals cl [] X.env.qual none .none (some X.env)) (λEm s₄ =>
   aax (model X.prog X.w) X.A (.compStart e 0 AF acc {Em with scope:=relabel scope X.env}) (RR acc Em.locals) s₄) E s₃) E s:=by
 obtain⟨it,fp,tn,J,H2,e1,I2,T,Be,f2,hl⟩:=h;subst e1;refine hA pins s σ H2 _ E I2 λa s3 ha hn hk I3=>?_;refine wpAny_newFunctionEnv L.vX (by intro y hy;simp at hy) (λh₁ Lm K4=>?_) L.kind
 have GH:∀b∈fp,∃o,s3.heap.get? b=some o:=λb hb=>by
  obtain⟨ob,q,_⟩:=T.obj _ _ Be b hb;exact⟨ob,hk b ob q⟩
 have SY:∀b∈fp,b≠a:=λb hb=>by
  obtain⟨ob,q,_⟩:=T.obj _ _ Be b hb;exact Yk (Yo (X8 q) ha)
 have f3:∀b∈fp,fc X pins (upd H2 a (o a)) b:=λb hb=>⟨by rw[ao (SY b hb)];exact(f2 b hb).1,(f2 b hb).2⟩
 have OW:∀b ob,s3.heap.get? b=some ob->h₁.get? b=some ob:=λb ob q=>K4.extBut b ob (Yk (X8 q)) (XR _ q);have Mc:h₁.Ns s3.heap.objs.size (λ_=>none):=Lm;have I4:=Dh (t':=s3.toks+([]:List (Str×XO)).length) I3 L f3 GH kl rK Mc OW;obtain⟨g1,g2,g3⟩:=lK a cl s3.heap.objs.size s3 (upd H2 a (o a)) fp;have f4:∀b∈fp,fc (aq X scope N' cl s3.heap.objs.size s3 (upd H2 a (o a)) fp) [] (upd H2 a (o a)) b:=λb hb =>
  ⟨(f3 b hb).1,(I4.ok.Mg b hb).1,I4.ok.zZ b hb,.inl hb,(I4.ok.Mg b hb).2,λp hp=>absurd (show p∈([]:List (Addr×Obj)) from hp) (by simp)⟩
 have Fc:tn 0 h₁:=T.keep 0 _ _ Be λb hb ob q=>OW b ob (hk b ob q);refine aac (jm (X:=aq X scope N' cl s3.heap.objs.size s3 (upd H2 a (o a)) fp) rfl hc (F (.ref a) _) g1 g2 g3 T I4 Fc f4 (hl a hn)) λr s' hr=>?_;obtain⟨rfl,σ',H',J',q⟩:=hr;have I5:Inv X pins σ H' s':=Di (C:=s3.heap.objs.size) (h'':=s'.heap) I3 f3 J' (.refl ..);refine hR a H' s3.heap.objs.size s' I5 (I3.rN (XS _) J'.free) ?_ q;obtain⟨m,hm,_⟩:=J'.loc;exact⟨m,hm⟩
theorem tP {bS:Sem XO}{o:Addr->HO}{after:XO->Env->Sem Fin->Sem Fin}{ta:Addr->iN}{pos:Pos}(L:Links X scope N' lk)(hc:X.calm=true)(hA:∀(pins:List (Addr×Obj)) (s:XQ) (σ:St) (H:Hp) (Q:XO->XQ->Prop) (E:XO->XQ->Prop),Inv X pins σ H s->(∀a s',s.heap.objs.size<=a->H a=none->(∀b o,s.heap.get? b=some o->s'.heap.get? b=some o)->Inv X pins σ (upd H a (o a)) s'->Q (.ref a) s')->Ye (model X.prog X.w) X.A bS Q E s)
  (wx:eval e X.env=comprehension e scope X.env pos bS false (eval g.iter X.env)) (ER:clausesOf e=g::gs)
  (F:∀acc env,ff e 0 g acc env (after acc env)) (hi:PI X g.target g.iter wi)
  (lK:∀a cl C s H ex,PG (aq X scope N' cl C s H ex) g.target (tg a)/\qu (aq X scope N' cl C s H ex) g.ifs (tt a)/\ki (aq X scope N' cl C s H ex) (after (.ref a) (aq X scope N' cl C s H ex).env) (ta a))
  (hs:∀x,Yp g.iter X.env x=pure x) :
  PE X e (λσ H Q=>wi σ H λJ H1=>∀a,H1 a=none->dw J (tg a) (tt a) (ta a) (λ_ H'=>Q (.ref a) H') (b8 lk σ) (upd H1 a (o a))):=by
 intro pins s σ H Q I h;rw[wx];obtain⟨cl,uu,kl,rK⟩:=fK (env:=X.env) (scope:=scope) λx hx=>I.ok.has x (L.free x hx);refine aaX (use:=none) ER hs uu L.kind L.names (bu (hi pins s σ H _ I h) λv s1 h1=>bu h1 λAF s2 h2=>?_);refine lD (RR:=λacc C=>compPost (model X.prog X.w) X.A X.xe none (EP X pins σ Q) acc C) L hc hA F lK kl rK h2 λa H' C s' I' f oK q=>?_;obtain⟨m,hm⟩:=oK;exact⟨m,hm,λh' N4=>⟨.ref a,H',I'.sameBut f N4,rfl,q⟩⟩
theorem gY {bS:Sem XO}{o:HO}{after:XO->Env->Sem Fin->Sem Fin}{ta:Addr->iN}{pos:Pos}(L:Links X scope N' lk)(hc:X.calm=true)(hA:jt X bS o)
  (wx:eval e X.env=comprehension e scope X.env pos bS false (eval g.iter X.env)) (ER:clausesOf e=g::gs)
  (F:∀acc env,ff e 0 g acc env (after acc env)) (hi:PI X g.target g.iter wi)
  (lK:∀a cl C s H ex,PG (aq X scope N' cl C s H ex) g.target (tg a)/\qu (aq X scope N' cl C s H ex) g.ifs (tt a)/\ki (aq X scope N' cl C s H ex) (after (.ref a) (aq X scope N' cl C s H ex).env) (ta a))
  (hs:∀x,Yp g.iter X.env x=pure x) :
  PE X e (λσ H Q=>wi σ H λJ H1=>∀a,H1 a=none->dw J (tg a) (tt a) (ta a) (λ_ H'=>Q (.ref a) H') (b8 lk σ) (upd H1 a o)):=tP (o:=λ_=>o) L hc hA.ok wx ER F hi lK hs
theorem tx {bS:Sem XO}{o:HO}{after:XO->Env->Sem Fin->Sem Fin}{ta:Addr->iN}{pos pos' gT:Pos}{y:Str}{i:Nat}(L:Links X scope N' lk)(hc:X.calm=true)(hA:jt X bS o)
  (oq:Zj e (some (.Name y pos')) gT.line X.env=pure true)
  (wx:aaQ e X.env (assign (.Name y pos') X.env)=(do let _ <- comprehension e scope X.env pos bS false (eval g.iter X.env) (some (assign (.Name y pos') X.env));pure ())) (ER:clausesOf e=g::gs)
  (hN:X.N.Nodup) (hy:X.N[i]?=some y) (hx:Loc X.env.scope y) (hf:X.fn y=true\/X.env.scope.names.lookup y=some .local)
  (F:∀acc env,ff e 0 g acc env (after acc env)) (hi:PI X g.target g.iter wi)
  (lK:∀a cl C s H ex,PG (aq X scope N' cl C s H ex) g.target (tg a)/\qu (aq X scope N' cl C s H ex) g.ifs (tt a)/\ki (aq X scope N' cl C s H ex) (after (.ref a) (aq X scope N' cl C s H ex).env) (ta a))
  (hs:∀x,Yp g.iter X.env x=pure x) :
  PS X (.Assign [.Name y pos'] e gT) (λD σ H=>wi σ H λJ H1=>∀a,H1 a=none->dw J (tg a) (tt a) (ta a) (λ_ H'=>D.nx (σ.set i (some (.ref a))) H') (b8 lk σ) (upd H1 a o)):=by
 intro pins s σ H D I h;rw[exec_Assign_Name_used _ _ _ _ oq,wx];refine XM (Zw (XM (XM ?_)));obtain⟨cl,uu,kl,rK⟩:=fK (env:=X.env) (scope:=scope) λx hx=>I.ok.has x (L.free x hx);refine bu (aaX (use:=some (assign (.Name y pos') X.env)) (Q:=λ_ s'=>SP X pins D .next s') ER hs uu L.kind L.names (bu (hi pins s σ H _ I h) λv s1 h1=>bu h1 λAF s2 h2=>?_)) λ_ s' q=>XT (XT q)
 refine lD (o:=λ_=>o) (Q:=λv H'=>D.nx (σ.set i (some v)) H') (RR:=λacc C=>compPost (model X.prog X.w) X.A X.xe (some (assign (.Name y pos') X.env)) (λ_ s'=>SP X pins D .next s') acc C) L hc hA.ok F lK kl rK h2 λa H' C s' I' f iG q=>?_
 obtain⟨m,hm⟩:=iG;show Ye _ _ (assign (.Name y pos') X.env (.ref a)) _ _ s';have WJ:∃o,s'.heap.get? C=some o:=by obtain⟨o,_,_,ho,_⟩:=hm;exact⟨o,ho⟩
 refine wpAny_assign_Name (kq I' hN hy hx (v:=.ref a) (u:=.ref a) rfl (λs4 I4 k4=>?_) hf);obtain⟨a4,Q0,S0⟩:=k4;have oN:C≠a4:=by
  rcases S0 with z|z
  ·rw[z];exact f.2.1
  ·exact(f.2.2.2.2.1 y a4 z).symm
 exact⟨m,hm.at' (λo e=>(Q0.2 C oN).trans e),λh' N4=>⟨_,H',I4.sameBut f N4,q⟩⟩
end
end L2
namespace L2.Q
open PySem PySem.Spec PySem.SeqAt PyProof.Rows
noncomputable def UE:Option B->Option B
 |some (.own d)=>some (.val false d)
 |some (.shl _ d)=>some (.val false d)
 |b=>b
def b5 (lk:List (Option Nat))(β:aL):aL:=lk.map λl=>match l with|some j=>(match β[j]? with|some b=>UE b|none=>none)|none=>none
def Qd:Option (Option B)->Bool
 |some (some (.hand _))=>true
 |_=>false
def bF (lk:List (Option Nat))(β:aL)(own:Nat->List Addr)(i:Nat):List Addr:=match lk[i]? with
 |some (some j)=>if Qd β[j]?=true then own j else []
 |_=>[]
def dN:aL->aL->Prop
 |[],_=>True
 |some (.hand ok)::a,c=>c.head?=some (some (.hand ok))/\dN a c.tail
 |_::a,c=>dN a c.tail
theorem dN.get:∀{a c:aL} {i:Nat} {ok:List Int->Prop},dN a c->a[i]?=some (some (.hand ok))->c[i]?=some (some (.hand ok))
 |[],_,_,_,_,e=>by simp at e
 |x::a,c,0,ok,h,e=>by
  simp at e;subst e;rw[<- List.head?_eq_getElem?];exact h.1
 |x::a,c,i+1,ok,h,e=>by
  have h':dN a c.tail:=by
   cases x with
   |none=>exact h
   |some x=>cases x <;> first|exact h|exact h.2
  have:=dN.get (i:=i) h' (by simpa using e)
  rwa [List.getElem?_tail]at this
section
variable {P:XX}{w:X6}{C:Cfg}{σ σ':St}{H H' H1:Hp}{β βi:aL}{own bM:Nat->List Addr}{lk:List (Option Nat)}{a:Addr}
theorem cq {i:Nat}{c:Addr}(h:c∈bF lk β own i):∃j,lk[i]?=some (some j)/\Qd β[j]?=true/\c∈own j:=by
 unfold bF at h
 split at h
 ·next j e =>
  by_cases q:Qd β[j]?=true
  ·rw[if_pos q]at h;exact⟨j,e,q,h⟩
  ·rw[if_neg q]at h;cases h
 ·cases h
theorem bE:∀c,Wn (bF lk β own) c->Wn own c:=λc ⟨i,h⟩=>let ⟨j,_,_,h⟩:=cq h;⟨j,h⟩
theorem cb {i j:Nat}{v:V}(h:lk[i]?=some (some j))(e:σ[j]?=some (some v)):(b8 lk σ)[i]?=some (some v):=by
 unfold b8;rw[X5,h];simp only[ZI];rw[e]
theorem iw {i:Nat}{b:B}(h:(b5 lk β)[i]?=some (some b)):∃j b',lk[i]?=some (some j)/\β[j]?=some (some b')/\UE (some b')=some b:=by
 unfold b5 at h;rw[X5]at h;cases q:lk[i]? with
 |none=>rw[q]at h;cases h
 |some l =>
  rw[q]at h;cases l with
  |none=>cases h
  |some j =>
   simp only[ZI]at h;cases q2:β[j]? with
   |none=>rw[q2]at h;cases h
   |some b2 =>
    rw[q2]at h;simp only[aaR]at h;cases b2 with
    |none=>cases h
    |some b'=>exact⟨j,b',rfl,q2,h⟩
theorem bf.enter (s:bf P w C σ H β own)(ha:H a=none)(inj:∀(i i' j:Nat),lk[i]?=some (some j)->lk[i']?=some (some j)->i=i'):
  bf P w (C.u λc=>c=a) (b8 lk σ) (upd H a (.lst [])) (b5 lk β) (bF lk β own):=by
 have sm:ar H (upd H a (.lst [])):=ar.new ha;have na:∀{i c},c∈own i->c≠a:=λ{i c} hc z=>(s.dm i c hc).1 (by rw[z];exact ha)
 have gr:∀k,∀c,dD (C.u λc=>c=a) (Wn (bF lk β own)) k c->dD C (Wn own) k c\/H c=none:=λk c z=>by
  rcases z with z|z
  ·exact .inl (.inl (gB bE k c z))
  ·exact .inr (by rw[z];exact ha)
 refine⟨by unfold b5 b8;simp,λi y d e=>?_,λi d e=>?_,λi ok e=>?_,λi c h=>?_,λi i' c h1 h2=>?_,λi=>?_,s.kp.trans sm.kp,λc z e=>s.fj c z (sm.free e),λi y d e=>by
  obtain⟨j,b',e1,e2,e3⟩:=iw e;cases b' <;> cases e3⟩
 ·obtain⟨j,b',e1,e2,e3⟩:=iw e;cases b' with
  |val y' d' =>
   cases e3;obtain⟨v,h1,h2⟩:=s.val j y d e2;exact⟨v,cb e1 h1,(az.grow (gr _) h2).same sm⟩
  |own d' =>
   cases e3;obtain⟨v,h1,h2,h3⟩:=s.ow j d e2;refine⟨v,cb e1 h1,az.same sm (h2.rep λc hc z=>?_)⟩;rcases z with z|z
   ·obtain⟨i',oO⟩:=z;obtain⟨j',q1,q2,q3⟩:=cq oO;have:=s.hV j j' c hc q3;subst this;rw[e2]at q2;cases q2
   ·exact na hc z
  |hand ok=>cases e3
  |shl y' d' =>
   cases e3;obtain⟨v,h1,h2,h3⟩:=s.shl j y' d e2;refine⟨v,cb e1 h1,az.same sm (h2.rep (λc hc z=>?_) λds vs r=>ag.grow (λc z=>?_) r)⟩
   ·rcases z with z|z
    ·obtain⟨i',oO⟩:=z;obtain⟨j',q1,q2,q3⟩:=cq oO;have:=s.hV j j' c hc q3;subst this;rw[e2]at q2;cases q2
    ·exact na hc z
   ·rcases gr _ c z with z|z
    ·refine .inl ?_;rcases z with z|z
     ·exact .inl (.inl z)
     ·exact .inr z
    ·exact .inr z
 ·obtain⟨j,b',e1,e2,e3⟩:=iw e;cases b' <;> cases e3
 ·obtain⟨j,b',e1,e2,e3⟩:=iw e;cases b' with
  |val y' d'=>cases e3
  |own d'=>cases e3
  |shl y d=>cases e3
  |hand AD =>
   cases e3;obtain⟨h,ns,h1,h2,h3,h4,h5⟩:=s.jV j ok e2;refine⟨h,ns,cb e1 h1,sm _ _ h2,h3,?_,h5⟩;unfold bF;rw[e1];simp only;rw[e2];exact(if_pos rfl).trans h4
 ·obtain⟨j,q1,q2,q3⟩:=cq h;obtain⟨g1,g2,g3,g4⟩:=s.dm j c q3;rw[ao (na q3)];exact⟨g1,g2,g3,na q3⟩
 ·obtain⟨j,q1,q2,q3⟩:=cq h1;obtain⟨j',P5,VN,Ro⟩:=cq h2;have:=s.hV j j' c q3 Ro;subst this;exact inj _ _ _ q1 P5
 ·unfold bF
  split
  ·next j e =>
   split
   ·exact s.i_ j
   ·exact YA
  ·exact YA
theorem bf.Fm {o:HO}(s:bf P w (C.u λc=>c=a) σ H β own){oa:HO}(ha:H a=some oa)(ht:∀xs,oa≠.tup xs)(h0:C.H0 a=none):bf P w (C.u λc=>c=a) σ (upd H a o) β own:=by
 have k:Kp (·=a) H (upd H a o):=jh ha ht;have na:∀{i c},c∈own i->c≠a:=λ{i c} hc=>(s.dm i c hc).2.2.2;refine⟨s.len,λi y d e=>let ⟨v,h1,h2⟩:=s.val i y d e;⟨v,h1,h2.keep (k.mono λc z=>.inr z)⟩,λi d e=>let ⟨v,h1,h2,h3⟩:=s.ow i d e;⟨v,h1,h2.keep k.tup (λc hc oc ec=>k.out c oc ec (na hc)),h3⟩,
  λi ok e=>?_,λi c h=>?_,s.hV,s.i_,⟨λc oc z n=>k.out c oc (s.kp.out c oc z n) λq=>?_,λc xs z=>k.tup c xs (s.kp.tup c xs z)⟩,λc z=>?_,λi y d e=>let ⟨v,h1,h2,h3⟩:=s.shl i y d e;⟨v,h1,h2.map (λc hc oc ec=>k.out c oc ec (na hc)) (λ_ _ r=>r.keep (k.mono λc z=>.inr z)),h3⟩⟩
 ·obtain⟨h,ns,h1,h2,h3,h4,h5⟩:=s.jV i ok e;exact⟨h,ns,h1,k.out h _ h2 (na (by rw[h4];simp)),h3,h4,h5⟩
 ·rw[ao (na h)];exact s.dm i c h
 ·rw[q,h0]at z;cases z
 ·by_cases q:c=a
  ·rw[q,ai];exact λz=>(nomatch z)
  ·rw[ao q];exact s.fj c z
theorem bf.leave (s:bf P w C σ H1 β own)(i:bf P w (C.u λc=>c=a) σ' H' βi bM)(n:Sn (H1,Wn (bF lk β own)) H' (Wn bM))(le:∀c,Wn bM c->Wn (bF lk β own) c)
  (hh:dN (b5 lk β) βi) (hσ:∀(j:Nat) (ok:List Int->Prop) (i:Nat),β[j]?=some (some (B.hand ok))->lk[i]?=some (some j)->σ'[i]?=(b8 lk σ)[i]?):bf P w C σ H' β own:=by
 have off:∀{j c},c∈own j->¬ Wn (bF lk β own) c->∀o,H1 c=some o->H' c=some o:=λ{j c} hc nw o e=>n.k.out c o e λz=>z.elim nw λz=>(s.dm j c hc).1 z;have N3:∀{j c},c∈own j->Qd β[j]?=false->¬ Wn (bF lk β own) c:=λ{j c} hc q jU=>by
  obtain⟨i',oO⟩:=jU;obtain⟨j',q1,q2,q3⟩:=cq oO;have:=s.hV j j' c hc q3;subst this;rw[q]at q2;cases q2
 have hN:∀(j:Nat) (ok:List Int->Prop),β[j]?=some (some (B.hand ok))->∃a ns,σ[j]?=some (some (V.ref a))/\H' a=some (.lst (ns.map V.int))/\ok ns/\own j=[a]/\((∀b,¬ C.IO b)\/C.IO a):=λj ok e=>by
  obtain⟨h,ns,h1,h2,h3,h4,h5⟩:=s.jV j ok e
  by_cases q:Wn (bF lk β own) h
  ·obtain⟨i',oO⟩:=q;obtain⟨j',q1,q2,q3⟩:=cq oO;have:=s.hV j j' h (by rw[h4];simp) q3
   subst this;have eB:(b5 lk β)[i']?=some (some (.hand ok)):=by
    unfold b5;rw[X5,q1];simp only[ZI];rw[e];rfl
   obtain⟨h',lH,g1,g2,g3,g4,g5⟩:=i.jV i' ok (hh.get eB);rw[hσ j ok i' e q1,cb q1 h1]at g1;cases g1;exact⟨h,lH,h1,g2,g3,h4,h5⟩
  ·exact⟨h,ns,h1,off (by rw[h4];simp) q _ h2,h3,h4,h5⟩
 refine⟨s.len,λj y d e=>?_,λj d e=>?_,hN,λj c hc=>?_,s.hV,s.i_,i.kp,i.fj,λj y d e=>by
  obtain⟨v,h1,h2,h3⟩:=s.shl j y d e;refine⟨v,h1,h2.map (λc hc o eo=>off hc (N3 hc (by rw[e];rfl)) o eo) (λds vs r=>?_),h3⟩
  have g:ag P w (λc=>dD C (Wn own) (yk true) c\/H1 c=none) H1 ds vs:=ag.grow (λc z=>z) r;refine ag.aQ (λc z=>.inl z) (g.keep (n.k.mono λc z=>z.imp (λz=>?_) id));exact .inl (.inl (bE c z))⟩
 ·obtain⟨v,h1,h2⟩:=s.val j y d e;have g:az P w (λc=>dD C (Wn own) (yk y) c\/H1 c=none) H1 d v:=az.grow (λc z=>z) h2;refine⟨v,h1,az.aQ (λc z=>.inl z) (g.keep (n.k.mono λc z=>z.imp (λz=>?_) id))⟩;cases y with
  |true=>exact .inl (.inl (bE c z))
  |false=>exact .inl (bE c z)
 ·obtain⟨v,h1,h2,h3⟩:=s.ow j d e;exact⟨v,h1,h2.keep n.k.tup (λc hc o eo=>off hc (N3 hc (by rw[e];rfl)) o eo),h3⟩
 ·obtain⟨g1,g2,g3,g4⟩:=s.dm j c hc
  by_cases q:Wn (bF lk β own) c
  ·obtain⟨i',oO⟩:=q;obtain⟨j',q1,q2,q3⟩:=cq oO;have:=s.hV j j' c hc q3;subst this;cases e:β[j]? with
   |none=>rw[e]at q2;cases q2
   |some b =>
    rw[e]at q2;cases b with
    |none=>cases q2
    |some b =>
     cases b with
     |val y d=>cases q2
     |own d=>cases q2
     |shl y d=>cases q2
     |hand ok =>
      obtain⟨h,ns,k1,k2,k3,k4,k5⟩:=hN j ok e;rw[k4]at hc;rw[XW.mp hc]at g3 g4 ⊢
      rw[k2];exact⟨λz=>(nomatch z),λxs z=>(by cases z),g3,g4⟩
  ·cases e:H1 c with
   |none=>exact absurd e g1
   |some o=>rw[off hc q o e];exact⟨λz=>(nomatch z),λxs z=>g2 xs (by rw[e];exact z),g3,g4⟩
end
def My:aN:=λβ R=>R true β
theorem BM {X:Cx}{C:Cfg}:qu X [] (ib X C true My):=Fx.pre λσ H Q ⟨β,own,s,q⟩=>q H own (Out.refl s _)
theorem BL {X:Cx}{C:Cfg}{p:Bool}{c:Expr}{τ:aN}(h:vp X C p c τ):qu X [c] (ib X C p τ):=Fw h.pt
def m9 (γ:bW)(τ:aN)(φ:aB)(ds:List D)(k:Kd)(β0:aL)(K:List D->Prop):Prop:=∃I:Nat->aL->List D->Prop,I 0 β0 [] /\
 (∀i d β o,ds[i]?=some d->I i β o->γ d (sk k d) β λβ1=>τ β1 λt β2=>if t=true then φ β2 λx kx β3=>C8 kx x/\o.length<X3/\I (i+1) β3 (o++[x]) else I (i+1) β2 o)/\∀β o,I ds.length β o->dN β0 β/\K o
theorem m9.mono {γ:bW}{τ:aN}{φ:aB}{ds:List D}{k:Kd}{β0:aL}{K K':List D->Prop}(h:∀o,K o->K' o)(q:m9 γ τ φ ds k β0 K):m9 γ τ φ ds k β0 K':=let ⟨I,h0,h1,h2⟩:=q;⟨I,h0,h1,λβ o z=>⟨(h2 β o z).1,h _ (h2 β o z).2⟩⟩
section
variable {X:Cx}{C:Cfg}{lk:List (Option Nat)}{γ:bW}{τ:aN}{φ:aB}{T:List Nat}{pc pe:Bool}
theorem qg {σ:St}{H1:Hp}{β:aL}{own:Nat->List Addr}{a:Addr}{J:It}{ds:List D}{k:Kd}{K:List D->Prop}{End:Hp->Prop}
  (γm:∀d k β R R',(∀r,R r->R' r)->γ d k β R->γ d k β R') (τm:∀β R R',(∀d β,R d β->R' d β)->τ β R->τ β R') (φm:∀β R R',(∀d k β,R d k β->R' d k β)->φ β R->φ β R')
  (inj:∀(i i' j:Nat),lk[i]?=some (some j)->lk[i']?=some (some j)->i=i') (hT:∀i∈T,∀j,lk[i]?≠some (some j))
  (s1:SQ X C σ H1 β own) (ha:H1 a=none) {hp:Bool} (Wh:hp=true->(pc&&pe)=true) (hk:hold k hp) (it:rW X (av C (Wn own) k) J ds H1) (q:m9 γ τ φ ds k (b5 lk β) K)
  (fin:∀o H',K o->Out X C σ H1 own (pc&&pe) β H' own->KV X.prog X.w C (H1,Wn own) own H' .own (.lst o) (.ref a)->End H') :
  dw J (λv σ H Q=>∃own β d k,SQ X (C.u λc=>c=a) σ H β own/\Rp X (dD (C.u λc=>c=a) (Wn own) k) H d v/\γ d k β λβ'=>∀σ' aK,SQ X (C.u λc=>c=a) σ' H β' aK->(∀a,Wn aK a->Wn own a)->(∀j,j∉T->σ'[j]?=σ[j]?)->Q σ' H)
   (ib X (C.u λc=>c=a) pc τ) (λN σ H=>tQ X (C.u λc=>c=a) pe φ σ H λv H1=>∃xs,H1 a=some (.lst xs)/\xs.length<X3/\N σ (upd H1 a (.lst (xs++[v]))))
   (λ_ H'=>End H') (b8 lk σ) (upd H1 a (.lst [])):=by
 obtain⟨I,i0,i1,i2⟩:=q;have h0:C.H0 a=none:=Yi λz=>s1.fj a z ha;have sm:ar H1 (upd H1 a (.lst [])):=ar.new ha;have NI:∀c,Wn (bF lk β own) c->c≠a:=λc z e=>by
  obtain⟨j,hj⟩:=bE c z;exact(s1.dm j c hj).1 (by rw[e];exact ha)
 let S:Nat->St->Hp->Prop:=λi σ' H'=>∃βi bM vs o A,SQ X (C.u λc=>c=a) σ' H' βi bM/\Sn (H1,Wn (bF lk β own)) H' (Wn bM)/\(∀c,Wn bM c->Wn (bF lk β own) c)/\H' a=some (.lst vs)/\aE X.prog X.w H' o vs A/\A.Nodup/\(∀c∈A,H1 c=none/\c≠a) /\
  ((pc&&pe)=true->ar H1 H')/\(∀j,j∉T->σ'[j]?=(b8 lk σ)[j]?)/\I i βi o
 have W':Addr->Prop:=λb=>av C (Wn own) k b\/H1 b=none;have Ie:=it (λb=>av C (Wn own) k b\/H1 b=none) λb z=>z;have kI:∀{H':Hp} {bM:Nat->List Addr},Sn (H1,Wn (bF lk β own)) H' (Wn bM)->((pc&&pe)=true->ar H1 H')->Kp (λb=>av C (Wn own) k b\/H1 b=none) H1 H':=λn pu=>by
  cases k with
  |own=>exact n.k.mono λb z=>z.imp (λz=>.inl (bE b z)) id
  |dY=>exact n.k.mono λb z=>z.imp (λz=>.inl (bE b z)) id
  |old=>exact n.k.mono λb z=>z.imp (bE b) id
  |bor =>
   cases hp with
   |false=>exact hk.elim
   |true=>exact(pu (Wh rfl)).kp.mono λb z=>.inr z
 refine⟨λi m σ' H'=>i<=ds.length/\m=ds.length-i/\S i σ' H',⟨_,Yh _,rfl,b5 lk β,bF lk β own,[],[],[],s1.enter ha inj,⟨λb z=>.inl z,sm.kp,λb z e=>z (sm.free e)⟩,λ_ z=>z,ai,⟨rfl,rfl⟩,YA,λc hc=>(nomatch hc),λ_=>sm,λ_ _=>rfl,i0⟩,?_⟩;rintro i m σ2 H2 ⟨hi,rfl,βi,bM,vs,o,A,sq,sn,le,Lr,os,nd,nw,pu,st,hl⟩;obtain⟨br,fM⟩:=Ie i H2 (kI sn pu)
 by_cases iH:i<ds.length
 ·right
  have hd:ds[i]?=some ds[i]:=XY iH;obtain⟨go,yl⟩:=br _ hd;refine⟨go,λσ' H'=>S (i+1) σ' H',λσ' H' h=>⟨_,by omega,iH,rfl,h⟩,λx H3 y=>?_⟩
  obtain⟨s3,r3⟩:=yl x H3 y;have Tz:∀{bM:Nat->List Addr},(∀c,Wn bM c->Wn (bF lk β own) c)->∀c,dD (C.u λc=>c=a) (Wn bM) k c->av C (Wn own) k c\/H1 c=none:=λle c z=>z.elim (λz=>.inl (gB (λc z=>bE c (le c z)) k c z)) λz=>.inr (by rw[z];exact ha)
  refine⟨bM,βi,_,_,sq.same s3,my (az.aQ (Tz le) r3),γm _ _ _ _ _ (λβ4 q σ4 mT s4 w4 t4=>?_) (i1 i _ βi o hd hl)⟩;have Kw:∀c,Wn mT c->Wn (bF lk β own) c:=λc z=>le c (w4 c z);refine⟨β4,mT,s4,τm _ _ _ (λt β5 q H5 iE o5=>?_) q⟩;have Ge:∀c,Wn iE c->Wn (bF lk β own) c:=λc z=>Kw c (o5.le c z);have nk:∀c,c∈a::A->∀oc,H2 c=some oc->H5 c=some oc:=λc hc oc e=>by
   refine o5.sn.k.out c oc (s3 c oc e) λz=>?_;rcases z with z|z
   ·rcases XU.mp hc with rfl|hc
    ·exact NI _ (Kw _ z) rfl
    ·obtain⟨j,hj⟩:=bE c (Kw c z);exact(s1.dm j c hj).1 (nw c hc).1
   ·exact absurd ((s3 c oc e).symm.trans z) (λz=>(nomatch z))
  have RJ:∀b xs,H2 b=some (.tup xs)->H5 b=some (.tup xs):=λb xs e=>o5.sn.k.tup b xs (s3 b _ e);have JZ:aE X.prog X.w H5 o vs A:=os.keep RJ λc hc oc e=>nk c (by simp[hc]) oc e
  have Jo:Sn (H1,Wn (bF lk β own)) H5 (Wn iE):=(f9 (sn.same s3) w4).trans o5.sn;have M_:(pc&&pe)=true->ar H1 H5:=λz=>((pu z).trans s3).trans (o5.pu (As z)).1;have Fc:∀j,j∉T->σ4[j]?=(b8 lk σ)[j]?:=λj hj=>(t4 j hj).trans (st j hj);cases t with
  |false=>exact⟨β5,iE,vs,o,A,o5.sq,Jo,Ge,nk a (by simp) _ Lr,JZ,nd,nw,M_,Fc,q⟩
  |true =>
   refine⟨β5,iE,o5.sq,φm _ _ _ (λxd kx β6 fJ v H6 tU o6 r6=>?_) q⟩;obtain⟨f,hz,q⟩:=fJ;obtain⟨B',r1,r2,Jy⟩:=r6.fl f;have Dz:H5 a=some (.lst vs):=nk a (by simp) _ Lr
   have ud:∀c,c∈a::A->∀oc,H5 c=some oc->H6 c=some oc:=λc hc oc e=>by
    refine o6.sn.k.out c oc e λz=>?_;rcases z with z|z
    ·rcases XU.mp hc with rfl|hc
     ·exact NI _ (Ge _ z) rfl
     ·obtain⟨j,hj⟩:=bE c (Ge c z);exact(s1.dm j c hj).1 (nw c hc).1
    ·exact absurd (e.symm.trans z) (λz=>(nomatch z))
   have k7:H6 a=some (.lst vs):=ud a (by simp) _ Dz
   have Nf:aE X.prog X.w H6 o vs A:=JZ.keep o6.sn.k.tup λc hc oc e=>ud c (by simp[hc]) oc e
   have RB:∀c∈A,c≠a:=λc hc=>(nw c hc).2;have HZ:∀c∈B',c≠a:=λc hc z=>by rw[z]at hc;exact absurd (Dz.symm.trans (Jy a hc).1) (λz=>(nomatch z))
   have kt:∀b xs,H6 b=some (.tup xs)->upd H6 a (.lst (vs++[v])) b=some (.tup xs):=λb xs z=>by rw[ao (λz'=>by rw[z',k7]at z;cases z)];exact z
   refine⟨vs,k7,by rw[Nf.length];exact hz,β6,tU,vs++[v],o++[xd],A++B',o6.sq.Fm k7 (λxs z=>by cases z) h0,?_,λc z=>Ge c (o6.le c z),ai,?_,?_,λc hc=>?_,λz=>?_,Fc,q⟩
   ·have m:=Jo.trans o6.sn;refine⟨m.w,m.k.trans ((jh k7 (λxs z=>by cases z)).mono λb z=>.inr (by rw[z];exact ha)),λb z e=>?_⟩
    by_cases hb:b=a
    ·rw[hb,ai]at e;cases e
    ·rw[ao hb]at e;exact m.d b z e
   ·exact(Nf.keep kt λc hc oc e=>by rw[ao (RB c hc)];exact e).append (aE.one (r1.keep kt λc hc oc e=>by rw[ao (HZ c hc)];exact e))
   ·refine YK.mpr ⟨nd,r2,λx hx y hy e=>?_⟩;subst e;have:=(Jy x hy).1;exact(JZ.nS x hx).1 this
   ·rcases XZ.mp hc with hc|hc
    ·exact nw c hc
    ·exact⟨Jo.free (Jy c hc).1,HZ c hc⟩
   ·refine λb ob e=>?_;rw[ao (λz'=>by rw[z',ha]at e;cases e)]
    exact(o6.pu (Pj z)).1 b ob (M_ z b ob e)
 ·left
  have e:i=ds.length:=by omega
  subst e;obtain⟨hh,q⟩:=i2 βi o hl;have lv:SQ X C σ H2 β own:=s1.leave sq sn le hh λj ok i' e1 e2=>st i' λz=>hT i' z j e2;refine⟨fM (XS _),fin o H2 q ⟨lv,⟨λb z=>.inl z,sn.k.mono λb z=>z.imp (bE b) id,sn.d⟩,λz=>⟨pu z,rfl⟩,λ_ z=>z⟩ ⟨a::A,⟨a,vs,A,rfl,Lr,rfl,os⟩,Yj.mpr ⟨λz=>(nw a z).2 rfl,nd⟩,λc hc=>?_⟩⟩;have kl:H1 c=none:=by
   rcases XU.mp hc with rfl|hc
   ·exact ha
   ·exact(nw c hc).1
  exact⟨kl,λzS=>by obtain⟨j,hj⟩:=zS;exact(s1.dm j c hj).1 kl,Yi λz=>s1.fj c z kl⟩
theorem bw {scope:ZE}{N':List Str}(L:Links X scope N' lk)(hN:N'.Nodup):∀(i i' j:Nat),lk[i]?=some (some j)->lk[i']?=some (some j)->i=i':=λi i' j h1 h2=>by
 obtain⟨x,a1,a2,_⟩:=L.link i j h1;obtain⟨y,b1,b2,_⟩:=L.link i' j h2;rw[a2]at b2;cases b2;exact(List.getElem?_inj (X0.mp a1).1 hN).mp (a1.trans b1.symm)
def tm (lk:List (Option Nat))(ι:bz)(γ:bW)(τ:aN)(φ:aB):aB:=λβ R=>ι β λds k β1=>hold k false/\m9 γ τ φ ds k (b5 lk β1) λo=>R (.lst o) .own β1
variable {scope:ZE}{N':List Str}{tg br elt:Expr}{ifs:List Expr}{ι:bz}{pi:Bool}{pos pos' gT:Pos}{y:Str}{i:Nat}
theorem HQ (L:Links X scope N' lk)(ji:N'.Nodup)(hT:T.all (λi=>match lk[i]? with|some (some _)=>false|_=>true)=true)(hc:X.calm=true)(hi:o8 X C pi tg br ι)
  (g9:∀a cl c s H ex,o9 (aq X scope N' cl c s H ex) (C.u λc=>c=a) tg T γ) (gI:∀a cl c s H ex,qu (aq X scope N' cl c s H ex) ifs (ib (aq X scope N' cl c s H ex) (C.u λc=>c=a) pc τ)) (τm:∀β R R',(∀d β,R d β->R' d β)->τ β R->τ β R')
  (dJ:∀a cl c s H ex,PQ (aq X scope N' cl c s H ex) (C.u λc=>c=a) pe elt φ) (γm:∀d k β R R',(∀r,R r->R' r)->γ d k β R->γ d k β R') (φm:∀β R R',(∀d k β,R d k β->R' d k β)->φ β R->φ β R')
  (hs:∀x,Yp br X.env x=pure x:=by intro _;rfl):PQ X C (pi&&(pc&&pe)) (.ListComp elt [⟨tg,br,ifs,0⟩] scope pos) (tm lk ι γ τ φ):=by
 have uw:∀i∈T,∀j,lk[i]?≠some (some j):=λi hi j e=>by
  have:=Zg.mp hT i hi;rw[e]at this;cases this
 refine⟨λβ R R' k h=>hi.mono β _ _ (λds kd β1 q=>⟨q.1,q.2.mono λo z=>k _ _ _ z⟩) h,?_⟩;refine(gY (g:=⟨tg,br,ifs,0⟩) (gs:=[]) (tg:=λa v σ H Q=>∃own β d k,SQ X (C.u λc=>c=a) σ H β own/\Rp X (dD (C.u λc=>c=a) (Wn own) k) H d v/\γ d k β λβ'=>∀σ' aK,SQ X (C.u λc=>c=a) σ' H β' aK->(∀a,Wn aK a->Wn own a)->(∀j,j∉T->σ'[j]?=σ[j]?)->Q σ' H)
  (tt:=λa=>ib X (C.u λc=>c=a) pc τ) (ta:=λa N σ H=>tQ X (C.u λc=>c=a) pe φ σ H λv H1=>∃xs,H1 a=some (.lst xs)/\xs.length<X3/\N σ (upd H1 a (.lst (xs++[v]))))
  L hc fV rfl rfl (λ_ _=>yz) hi.pi (λa cl c s H ex=>⟨(g9 a cl c s H ex).pg,gI a cl c s H ex,fU rfl (dJ a cl c s H ex).pe⟩) hs).pre λσ H Q ⟨β,own,s,h⟩=>?_
 refine⟨β,own,s,hi.mono β _ _ (λds k β1 iG J H1 au o1 it a ha=>?_) h⟩;obtain⟨hk,q⟩:=iG;exact qg γm τm φm (bw L ji) uw o1.sq ha (hp:=false) (λz=>by cases z) hk it q λo H' q o2 r=>q _ _ au (o1.trans o2) (r.later o1.sn)
theorem Na {K:D->aL->cB->Prop}(L:Links X scope N' lk)(ji:N'.Nodup)(hT:T.all (λi=>match lk[i]? with|some (some _)=>false|_=>true)=true)(hc:X.calm=true)(hi:∀U,o8 X (C.u U) pi tg br ι)
  (g9:∀U cl c s H ex,o9 (aq X scope N' cl c s H ex) (C.u U) tg T γ) (gI:∀U cl c s H ex,qu (aq X scope N' cl c s H ex) ifs (ib (aq X scope N' cl c s H ex) (C.u U) pc τ)) (τm:∀β R R',(∀d β,R d β->R' d β)->τ β R->τ β R')
  (dJ:∀U cl c s H ex,PQ (aq X scope N' cl c s H ex) (C.u U) pe elt φ) (γm:∀d k β R R',(∀r,R r->R' r)->γ d k β R->γ d k β R') (φm:∀β R R',(∀d k β,R d k β->R' d k β)->φ β R->φ β R') (o:Bool)
  (hN:X.N.Nodup) (hy:X.N[i]?=some y:=by rfl) (hx:Loc X.env.scope y:=by first|exact .inl rfl|exact .inr rfl) (hf:X.fn y=true\/X.env.scope.names.lookup y=some .local:=by first|exact .inl rfl|exact .inr rfl|assumption)
  (oq:Zj (.ListComp elt [⟨tg,br,ifs,0⟩] scope pos) (some (.Name y pos')) gT.line X.env=pure true:=by rfl)
  (wx:aaQ (.ListComp elt [⟨tg,br,ifs,0⟩] scope pos) X.env (assign (.Name y pos') X.env)=(do let _ <- comprehension (.ListComp elt [⟨tg,br,ifs,0⟩] scope pos) scope X.env (firstIterPos [⟨tg,br,ifs,0⟩] pos) (newList []) false (eval br X.env) (some (assign (.Name y pos') X.env));pure ()):=by first|rfl|exact aag ..)
  (hs:∀x,Yp br X.env x=pure x:=by intro _;rfl) :
  PB X C (.Assign [.Name y pos'] (.ListComp elt [⟨tg,br,ifs,0⟩] scope pos) gT) (λE β=>tm lk ι γ τ φ β λd _ β'=>E.nx (β'.set i (some (match o with|true=>.own d|false=>.val true d)))):=by
 have uw:∀i∈T,∀j,lk[i]?≠some (some j):=λi hi j e=>by
  have:=Zg.mp hT i hi;rw[e]at this;cases this
 refine⟨λE E' β l h=>(hi λ_=>False).mono β _ _ (λds kd β1 q=>⟨q.1,q.2.mono λo z=>l.nx _ z⟩) h,λpins s σ H D I0 oK=>?_⟩;obtain⟨Z,E,β,⟨own,sq,n⟩,h,ok⟩:=oK;refine tx (g:=⟨tg,br,ifs,0⟩) (gs:=[]) (tg:=λa v σ H Q=>∃own β d k,SQ X (C.u λc=>c=a) σ H β own/\Rp X (dD (C.u λc=>c=a) (Wn own) k) H d v/\γ d k β λβ'=>∀σ' aK,SQ X (C.u λc=>c=a) σ' H β' aK->(∀a,Wn aK a->Wn own a)->(∀j,j∉T->σ'[j]?=σ[j]?)->Q σ' H)
  (tt:=λa=>ib X (C.u λc=>c=a) pc τ) (ta:=λa N σ H=>tQ X (C.u λc=>c=a) pe φ σ H λv H1=>∃xs,H1 a=some (.lst xs)/\xs.length<X3/\N σ (upd H1 a (.lst (xs++[v]))))
  L hc fV oq wx rfl hN hy hx hf (λ_ _=>yz) (hi λa=>H a=none).pi (λa cl c s H ex=>⟨(g9 _ cl c s H ex).pg,gI _ cl c s H ex,fU rfl (dJ _ cl c s H ex).pe⟩) hs pins s σ H D I0 ?_
 refine⟨β,own,sq.iP (C:=C.z) (U:=λa=>H a=none) λa z=>z,(hi λ_=>False).mono β _ _ (λds k β1 RX J H1 au o1 it a ha=>?_) h⟩;obtain⟨hk,q⟩:=RX;refine qg (C:=C.u λa=>H a=none) γm τm φm (bw L ji) uw o1.sq ha (hp:=false) (λz=>by cases z) hk it q λol H' q o2 r=>?_
 have r':=r.later o1.sn;have oo:=o1.trans o2;have m:=n.trans oo.sn;cases o with
 |false=>exact ok.nx _ _ _ ⟨_,(bf.Rz oo.sq).eJ (az.aQ (λa z=>z.elim id λz=>z.elim) (KV.rep r')),iZ m⟩ q
 |true =>
  obtain⟨A,h1,h2,h3⟩:=r';refine ok.nx _ _ _ ⟨_,oo.sq.mC h1 h2 λc hc=>⟨(h3 c hc).2.2,(h3 c hc).2.1,(h3 c hc).1⟩,?_⟩ q;exact⟨λb wt=>by
   obtain⟨j,hj⟩:=wt
   by_cases aA:i=j
   ·rw[<- aA,os_eq]at hj;exact .inr (n.free (h3 b hj).1)
   ·rw[aZ aA]at hj;exact m.w b ⟨j,hj⟩,m.k,m.d⟩
end
end L2.Q
namespace Zp
open PySem PySem.Spec PyProof.Rows
structure L4 (prog:XX)(w:X6)(i l:Addr)(vs:List XO)(St:Nat->Heap->Prop)(Ct:Heap->Prop):Prop where
 obj:∀k h,St k h->∃o,h.get? i=some o/\∀v,o.data≠.cell v
 keep:∀k h h',St k h->(∀o,h.get? i=some o->h'.get? i=some o)->St k h'
 kept:∀h h',Ct h->(∀o,h.get? l=some o->h'.get? l=some o)->Ct h'
 item:∀(A:YX) (E:XO->XQ->Prop) (s:XQ) (k:Nat) (x:XO) (Q:XO->XQ->Prop),St k s.heap->Ct s.heap->vs[k]?=some x ->
  (∀h',St (k+1) h'->Zh i s.heap h'->Q x {s with heap:=h'})->Ye (model prog w) A (YM (.ref i)) Q E s
 done:∀(A:YX) (E:XO->XQ->Prop) (s:XQ) (k:Nat) (Q:XO->XQ->Prop),A.handled=none->St k s.heap->Ct s.heap->vs[k]?=none ->
  (∀h' e,Heap.ExtBut i s.heap h'->(∃o,h'.get? e=some o/\o.cls=.type "StopIteration")->E (.ref e) {s with heap:=h'})->Ye (model prog w) A (YM (.ref i)) Q E s
variable {prog:XX}{w:X6}
theorem DZ {i l:Addr}{vs:List XO}:L4 prog w i l vs (λk h=>h.IsListIter i l k) (λh=>h.IsList l vs.toArray) where
 obj:=λk h ⟨o,a,_,d⟩=>⟨o,a,λv z=>by rw[d]at z;cases z⟩
 keep:=λk h h' a k1=>a.at k1
 kept:=λh h' b k2=>b.at k2
 item:=λA E s k x Q a b hx q=>wpAny_nextOf_list_item a b (by simpa using hx) λh' a' sb=>q h' a' sb
 done:=λA E s k Q hh a b hx q=>wpAny_nextOf_list_end hh a b (by simpa using hx) q
theorem CC {A:YX}{E:XO->XQ->Prop}{s:XQ}{i l:Addr}{k:Nat}{its:Array XO}{x:XO}{Q:XO->XQ->Prop}(a:s.heap.IsTupleIter i l k)(b:s.heap.IsTuple l its)(hx:its[k]?=some x)
  (q:∀h',h'.IsTupleIter i l (k+1)->Zh i s.heap h'->Q x {s with heap:=h'}):Ye (model prog w) A (YM (.ref i)) Q E s:=by
 have hT:=a.typeIs;obtain⟨oi,gi,ci,di⟩:=a;obtain⟨ol,gl,cl,nl,dl⟩:=b;unfold YM;apply XM;apply Zm (name:=aao "__next__") hT F.slot_tuple_iterator_next;apply Za F.slot_tuple_iterator_next hT F.entry_tuple_iterator_next _ (F.args_tuple_iterator_next_1 _)
 change Ye (model prog w) _ (field (.ref i) 0 >>= _) _ _ s
 apply XM;apply Zl gi di (x:=.ref l) rfl;rw[if_neg (by intro z;cases z)]
 change Ye (model prog w) _ (field (.ref i) 1 >>= _) _ _ s
 apply XM;apply Zl gi di (x:=.int k 0) rfl
 change Ye (model prog w) _ (seqItems? (.ref l) >>= _) _ _ s
 apply XM;apply ZD gl dl;simp only[Zq,hx];apply XM;apply wpAny_setField gi di (by simp)
 refine XT ⟨x,rfl,?_⟩;refine XT (q _ ⟨_,Heap.get?_update_self _ gi (Obj.isFreed_of_fields (Obj.data_mapFields di _)),?_,?_⟩ (Zs ..))
 ·rw[Obj.cls_mapFields];exact ci
 ·rw[Obj.data_mapFields di];simp[rawInt]
theorem G7 {A:YX}{E:XO->XQ->Prop}{s:XQ}{i l:Addr}{k:Nat}{its:Array XO}{Q:XO->XQ->Prop}(hh:A.handled=none)(a:s.heap.IsTupleIter i l k)(b:s.heap.IsTuple l its)(hx:its[k]?=none)
  (q:∀h' e,Heap.ExtBut i s.heap h'->(∃o,h'.get? e=some o/\o.cls=.type "StopIteration")->E (.ref e) {s with heap:=h'}):Ye (model prog w) A (YM (.ref i)) Q E s:=by
 have hT:=a.typeIs;obtain⟨oi,gi,ci,di⟩:=a;obtain⟨ol,gl,cl,nl,dl⟩:=b;unfold YM;apply XM;apply Zm (name:=aao "__next__") hT F.slot_tuple_iterator_next;apply Za F.slot_tuple_iterator_next hT F.entry_tuple_iterator_next _ (F.args_tuple_iterator_next_1 _)
 change Ye (model prog w) _ (field (.ref i) 0 >>= _) _ _ s
 apply XM;apply Zl gi di (x:=.ref l) rfl;rw[if_neg (by intro z;cases z)]
 change Ye (model prog w) _ (field (.ref i) 1 >>= _) _ _ s
 apply XM;apply Zl gi di (x:=.int k 0) rfl
 change Ye (model prog w) _ (seqItems? (.ref l) >>= _) _ _ s
 apply XM;apply ZD gl dl;simp only[Zq,hx];apply XM;apply aaI;apply XM;apply wpAny_setField gi di (by simp)
 change Ye (model prog w) _ (newExc (.type "StopIteration") [] >>= _) _ _ _
 apply XM;simp only[newExc,newTuple];apply XM;refine Y8 ?_ (by size_fits)
 apply XM (m:=firstArgMember _ _);apply wpAny_of_eq (a:=Value.none)
 ·first|rfl|(simp only[firstArgMember];rfl)
 refine Y8 ?_ (by size_fits);simp only[raiseNew]
 apply XM;apply wpAny_handled;have Io:A.in1.handled=none:=hh
 first|rw[Io]|rw[hh]
 refine XM (XT (wpAny_throw (q _ _ (((Zs ..).extBut.push _).push _) ⟨_,X_ _ rfl,rfl⟩)))
theorem Ha {i l:Addr}{vs:List XO}:L4 prog w i l vs (λk h=>h.IsTupleIter i l k) (λh=>h.IsTuple l vs.toArray) where
 obj:=λk h ⟨o,a,_,d⟩=>⟨o,a,λv z=>by rw[d]at z;cases z⟩
 keep:=λk h h' ⟨o,a1,a2⟩ k1=>⟨o,k1 o a1,a2⟩
 kept:=λh h' ⟨o',b1,b2⟩ k2=>⟨o',k2 o' b1,b2⟩
 item:=λA E s k x Q a b hx q=>CC a b (by simpa using hx) λh' a' sb=>q h' a' sb
 done:=λA E s k Q hh a b hx q=>G7 hh a b (by simpa using hx) q
structure Apart (z TI TO i1 i2 l1 l2:Addr):Prop where
 nd:[z,TI,TO,i1,i2].Nodup
 o1:∀c∈[z,TO,i1,i2],l1≠c
 o2:∀c∈[z,TO,i1,i2],l2≠c
section
variable {A:YX}{E:XO->XQ->Prop}{s:XQ}{z TI TO i1 i2 l1 l2:Addr}{vs us:List XO}{S1 S2:Nat->Heap->Prop}{C1 C2:Heap->Prop}
theorem AV (P:Apart z TI TO i1 i2 l1 l2)(D1:L4 prog w i1 l1 vs S1 C1)(D2:L4 prog w i2 l2 us S2 C2){k:Nat}{x y a b:XO}{Q:Option XO->XQ->Prop}(hz:aa3 s.heap z TI TO .none)(S6:ZU s.heap TI (.ref i1) (.ref i2))(S5:ZU s.heap TO a b)
  (h1:S1 k s.heap) (h2:S2 k s.heap) (c1:C1 s.heap) (c2:C2 s.heap) (hx:vs[k]?=some x) (hy:us[k]?=some y)
  (q:∀h',aa3 h' z TI TO (rawInt s.heap.objs.size)->ZU h' TO x y->S1 (k+1) h'->S2 (k+1) h'->ZU h' s.heap.objs.size x y->(∀c o,c∉[z,TO,i1,i2]->s.heap.get? c=some o->h'.get? c=some o)->Q (some (.ref s.heap.objs.size)) {s with heap:=h'}) :
  Ye (model prog w) A (aav (.ref z)) Q E s:=by
 have hT:s.TypeIs (.ref z) "zip" := ⟨_,hz,rfl⟩;obtain⟨nd,o1,o2⟩:=P;simp only[Yj,XU,YC,or_false,not_or,YA,not_false_eq_true,and_true]at nd;obtain⟨⟨Vc,IU,IT,L9⟩,⟨TITO,TIi1,TIi2⟩,⟨TOi1,TOi2⟩,i12⟩:=nd;have a1:=o1 z (by simp);have a2:=o1 TO (by simp);have a3:=o1 i1 (by simp);have a4:=o1 i2 (by simp)
 have b1:=o2 z (by simp);have b2:=o2 TO (by simp);have b3:=o2 i1 (by simp);have b4:=o2 i2 (by simp)
 unfold aav;apply XM;apply wpAny_attempt;apply Zm (name:=aao "__next__") hT F.slot_zip_next;refine Za F.slot_zip_next hT F.entry_zip_next ?_ (F.args_zip_next_1 _)
 change Ye (model prog w) _ (field (.ref z) 2 >>= _) _ _ _
 apply XM;apply Zl hz rfl (x:=.bool false) rfl
 change Ye (model prog w) _ (field (.ref z) 3 >>= _) _ _ _
 apply XM;apply Zl hz rfl (x:=.ref TI) rfl;apply XM;apply ZD S6 rfl
 change Ye (model prog w) _ (ZC (.ref z) >>= _) _ _ _
 apply XM;unfold ZC;apply XM;apply Zl hz rfl (x:=.none) rfl;apply XT;simp only[if_true];apply XM;apply aaI;apply XM;apply Zl hz rfl (x:=.ref TO) rfl;apply XM;refine Zu hz (by simp) λg1 y1 e1=>?_
 have z1:aa3 g1 z TI TO .ellipsis:=y1;apply XM;simp only[List.zipIdx_cons,List.zipIdx_nil,List.forIn_cons,List.forIn_nil];apply XM;apply XM;apply wpAny_onRaise
 change Ye (model prog w) _ (YM (.ref i1) >>= _) _ _ _
 apply XM;refine D1.item _ _ _ k x _ (D1.keep k _ _ h1 (λo e=>e1.extBut _ _ (YW IT) e)) (D1.kept _ _ c1 λo e=>e1.extBut _ _ a1 e) hx λg2 s2 e2=>XT ?_;have t2:ZU g2 TO a b:=e2.extBut _ _ TOi1 (e1.extBut _ _ (YW IU) S5);apply XM;apply ZD t2 rfl;apply XM;refine wpAny_updateSeq_pair t2 λg3 y3 e3=>?_;have t3:ZU g3 TO x b:=y3;apply XM;refine wpAny_letGo (XT ?_);apply XM;apply XM;apply wpAny_onRaise
 change Ye (model prog w) _ (YM (.ref i2) >>= _) _ _ _
 apply XM;have k2:S2 k g3:=D2.keep k _ _ h2 λo e=>e3.extBut _ _ (YW TOi2) (e2.extBut _ _ (YW i12) (e1.extBut _ _ (YW L9) e));have k3:C2 g3:=D2.kept _ _ c2 λo e=>e3.extBut _ _ b2 (e2.extBut _ _ b3 (e1.extBut _ _ b1 e));refine D2.item _ _ _ k y _ k2 k3 hy λg4 s4 e4=>XT ?_;have t4:ZU g4 TO x b:=e4.extBut _ _ TOi2 t3;apply XM;apply ZD t4 rfl;apply XM;refine wpAny_updateSeq_pair t4 λg5 y5 e5=>?_;have t5:ZU g5 TO x y:=y5;apply XM;refine wpAny_letGo (XT (XT ?_));apply XM;apply ZD t5 rfl;apply XM;refine wpAny_newTuple ?_;have hsz:g5.objs.size=s.heap.objs.size:=by rw[e5.1,e4.1,e3.1,e2.1,e1.1]
 have z5:aa3 g5 z TI TO .ellipsis:=e5.extBut _ _ IU (e4.extBut _ _ L9 (e3.extBut _ _ IU (e2.extBut _ _ IT z1)));have old:∀c o,c∉[z,TO,i1,i2]->s.heap.get? c=some o->g5.get? c=some o:=λc o hc e=>by
  simp only[XU,YC,or_false,not_or]at hc;obtain⟨c1,c2,c3,c4⟩:=hc;exact e5.extBut _ _ c2 (e4.extBut _ _ c4 (e3.extBut _ _ c2 (e2.extBut _ _ c3 (e1.extBut _ _ c1 e))))
 have n1:S1 (k+1) g5:=D1.keep _ _ _ s2 λo e=>e5.extBut _ _ (YW TOi1) (e4.extBut _ _ i12 (e3.extBut _ _ (YW TOi1) e));have n2:S2 (k+1) g5:=D2.keep _ _ _ s4 λo e=>e5.extBut _ _ (YW TOi2) e;have Ua:=X8 z5
 change Ye (model prog w) _ (Builtin.SmallTypes.ownedTupleHandOut (.ref z) (.ref g5.objs.size) >>= _) _ _ _
 apply XM;unfold Builtin.SmallTypes.ownedTupleHandOut;have z6:aa3 (g5.push {cls:=.type "tuple",data:=.seq #[x,y]}) z TI TO .ellipsis:=XR _ z5;apply XM;refine Zu z6 (by simp) λg7 y7 e7=>?_
 have z7:aa3 g7 z TI TO (rawInt g5.objs.size):=y7;refine Zu z7 (by simp) λg8 y8 e8=>?_
 have z8:aa3 g8 z TI TO (rawInt g5.objs.size):=y8;have up:∀c o,c≠z->g5.get? c=some o->g8.get? c=some o:=λc o c1 e=>e8.extBut _ _ c1 (e7.extBut _ _ c1 (XR _ e));have t8:ZU g8 g5.objs.size x y:=e8.extBut _ _ (aaG Ua) (e7.extBut _ _ (aaG Ua) (X_ _ rfl));rw[hsz]at z8 t8;refine XT ⟨_,rfl,XT ?_⟩;show Q (some (.ref g5.objs.size)) _;rw[hsz];exact q g8 z8 (up _ _ (YW IU) t5) (D1.keep _ _ _ n1 λo e=>up _ _ (YW IT) e) (D2.keep _ _ _ n2 λo e=>up _ _ (YW L9) e) t8 λc o hc e=>up c o (λw=>hc (by simp[w])) (old c o hc e)
theorem E4 (P:Apart z TI TO i1 i2 l1 l2)(D1:L4 prog w i1 l1 vs S1 C1)(D2:L4 prog w i2 l2 us S2 C2)(hh:A.handled=none){k:Nat}{a b:XO}{Q:Option XO->XQ->Prop}(hz:aa3 s.heap z TI TO .none)(S6:ZU s.heap TI (.ref i1) (.ref i2))(S5:ZU s.heap TO a b)
  (h1:S1 k s.heap) (h2:S2 k s.heap) (c1:C1 s.heap) (c2:C2 s.heap) (hx:vs[k]?=none\/us[k]?=none)
  (q:∀h',(∀c o,c∉[z,TO,i1,i2]->s.heap.get? c=some o->h'.get? c=some o)->Q none {s with heap:=h'}) :
  Ye (model prog w) A (aav (.ref z)) Q E s:=by
 have hT:s.TypeIs (.ref z) "zip" := ⟨_,hz,rfl⟩;obtain⟨nd,o1,o2⟩:=P;simp only[Yj,XU,YC,or_false,not_or,YA,not_false_eq_true,and_true]at nd;obtain⟨⟨Vc,IU,IT,L9⟩,⟨TITO,TIi1,TIi2⟩,⟨TOi1,TOi2⟩,i12⟩:=nd;have a1:=o1 z (by simp);have b1:=o2 z (by simp);have b2:=o2 TO (by simp);have b3:=o2 i1 (by simp)
 have oc:∀{c:Addr},c∉[z,TO,i1,i2]->c≠z/\c≠TO/\c≠i1/\c≠i2:=λhc=>by simpa[not_or] using hc
 have Io:A.in1.handled=none:=hh;unfold aav;apply XM;apply wpAny_attempt;apply Zm (name:=aao "__next__") hT F.slot_zip_next;refine Za F.slot_zip_next hT F.entry_zip_next ?_ (F.args_zip_next_1 _);have fin:∀(h':Heap) (e:Addr),(∀c o,c∉[z,TO,i1,i2]->s.heap.get? c=some o->h'.get? c=some o)->(∃o,h'.get? e=some o/\o.cls=.type "StopIteration") ->
   Ye (model prog w) A (do if <- isInstance (.ref e) (.type "StopIteration") then pure none else throw (.ref e)) Q E {s with heap:=h'}:=λh' e hk zS=>by
  obtain⟨o,ho,hc⟩:=zS;apply XM;refine aas (T:="StopIteration") (b:=true) ⟨o,ho,hc⟩ isSubtype_stop ?_;exact XT (q h' hk)
 change Ye (model prog w) _ (field (.ref z) 2 >>= _) _ _ _
 apply XM;apply Zl hz rfl (x:=.bool false) rfl
 change Ye (model prog w) _ (field (.ref z) 3 >>= _) _ _ _
 apply XM;apply Zl hz rfl (x:=.ref TI) rfl;apply XM;apply ZD S6 rfl
 change Ye (model prog w) _ (ZC (.ref z) >>= _) _ _ _
 apply XM;unfold ZC;apply XM;apply Zl hz rfl (x:=.none) rfl;apply XT;simp only[if_true];apply XM;apply aaI;apply XM;apply Zl hz rfl (x:=.ref TO) rfl;apply XM;refine Zu hz (by simp) λg1 y1 e1=>?_
 have z1:aa3 g1 z TI TO .ellipsis:=y1;apply XM;simp only[List.zipIdx_cons,List.zipIdx_nil,List.forIn_cons,List.forIn_nil];apply XM;apply XM;apply wpAny_onRaise
 change Ye (model prog w) _ (YM (.ref i1) >>= _) _ _ _
 apply XM;have f1:S1 k g1:=D1.keep k _ _ h1 λo e=>e1.extBut _ _ (YW IT) e;have f2:C1 g1:=D1.kept _ _ c1 λo e=>e1.extBut _ _ a1 e;cases ex:vs[k]? with
 |none =>
  refine D1.done _ _ _ k _ Io f1 f2 ex λg2 e e2 he=>?_;obtain⟨oe,ge,ce⟩:=he;have z2:aa3 g2 z TI TO .ellipsis:=e2 _ _ IT z1;have ez:e≠z:=λw=>by subst w;rw[z2]at ge;cases ge;simp at ce
  refine Zu z2 (by simp) λg3 _ e3=>fin g3 e (λc o hc x=>?_) ⟨oe,e3.extBut _ _ ez ge,ce⟩
  obtain⟨q1,q2,q3,q4⟩:=oc hc;exact e3.extBut _ _ q1 (e2 _ _ q3 (e1.extBut _ _ q1 x))
 |some x =>
  have ey:us[k]?=none:=hx.resolve_left (by rw[ex];intro z;cases z)
  refine D1.item _ _ _ k x _ f1 f2 ex λg2 s2 e2=>XT ?_;have t2:ZU g2 TO a b:=e2.extBut _ _ TOi1 (e1.extBut _ _ (YW IU) S5);apply XM;apply ZD t2 rfl;apply XM;refine wpAny_updateSeq_pair t2 λg3 y3 e3=>?_;apply XM;refine wpAny_letGo (XT ?_);apply XM;apply XM;apply wpAny_onRaise
  change Ye (model prog w) _ (YM (.ref i2) >>= _) _ _ _
  apply XM;have k2:S2 k g3:=D2.keep k _ _ h2 λo e=>e3.extBut _ _ (YW TOi2) (e2.extBut _ _ (YW i12) (e1.extBut _ _ (YW L9) e));have k3:C2 g3:=D2.kept _ _ c2 λo e=>e3.extBut _ _ b2 (e2.extBut _ _ b3 (e1.extBut _ _ b1 e));refine D2.done _ _ _ k _ Io k2 k3 ey λg4 e e4 he=>?_;obtain⟨oe,ge,ce⟩:=he;have z4:aa3 g4 z TI TO .ellipsis:=e4 _ _ L9 (e3.extBut _ _ IU (e2.extBut _ _ IT z1));have ez:e≠z:=λw=>by subst w;rw[z4]at ge;cases ge;simp at ce
  refine Zu z4 (by simp) λg5 _ e5=>fin g5 e (λc o hc x=>?_) ⟨oe,e5.extBut _ _ ez ge,ce⟩
  obtain⟨q1,q2,q3,q4⟩:=oc hc;exact e5.extBut _ _ q1 (e4 _ _ q4 (e3.extBut _ _ q2 (e2.extBut _ _ q3 (e1.extBut _ _ q1 x))))
end
section
variable {prog:XX}{w:X6}{A:YX}{E:XO->XQ->Prop}{s:XQ}
abbrev PU (h:Heap)(l1:Addr):Heap:=h.push {cls:=.type "tuple_iterator",data:=.fields #[.ref l1,.int 0 0]}
abbrev PR (h:Heap)(l1 l2:Addr):Heap:=(PU h l1).push {cls:=.type "tuple_iterator",data:=.fields #[.ref l2,.int 0 0]}
abbrev PM (h:Heap)(l1 l2:Addr):Heap:=(PR h l1 l2).push {cls:=.type "tuple",data:=.seq #[.ref h.objs.size,.ref (PU h l1).objs.size]}
abbrev PL (h:Heap)(l1 l2:Addr):Heap:=(PM h l1 l2).push {cls:=.type "tuple",data:=.seq #[.none,.none]}
noncomputable abbrev L_ (h:Heap)(l1 l2:Addr):Heap:=(PL h l1 l2).push {cls:=.type "zip",data:=.fields #[.none,.bool false,.bool false,.ref (PR h l1 l2).objs.size,.ref (PM h l1 l2).objs.size]}
theorem yL (l1 l2:Addr)(xs ys:Array XO):
  Meets (ZZ.«zip.__new__» ⟨[.type "zip",.ref l1,.ref l2],[]⟩) (λ_ R s=>s.heap.IsTuple l1 xs/\s.heap.IsTuple l2 ys/\R (.ok (.ret (.ref (PL s.heap l1 l2).objs.size))) {s with heap:=L_ s.heap l1 l2}) :=
 .of_wp λprog w A R s h=>by
  obtain⟨hp,g,d,tk,os⟩:=s;obtain⟨u1,u2,h⟩:=h;have Vx:=sub_zip;have m1:Heap.IsTuple (Shared.heap ⟨hp,g,d,tk,os⟩) l1 xs:=u1;have m2:Heap.IsTuple (Shared.heap ⟨hp.push {cls:=.type "tuple_iterator",data:=.fields #[.ref l1,.int 0 0]},g,d,tk,os⟩) l2 ys:=Heap.IsTuple.push u2 _
  wp_walk using wpAny_pyIter_tuple m1,wpAny_pyIter_tuple m2
  exact⟨_,rfl,h⟩
theorem AS {l1 l2:Addr}{xs ys:Array XO}{Q:XO->XQ->Prop}(u1:s.heap.IsTuple l1 xs)(u2:s.heap.IsTuple l2 ys)
  (q:∀h',aa3 h' (s.heap.objs.size+4) (s.heap.objs.size+2) (s.heap.objs.size+3) .none->ZU h' (s.heap.objs.size+2) (.ref s.heap.objs.size) (.ref (s.heap.objs.size+1))->ZU h' (s.heap.objs.size+3) .none .none ->
   h'.IsTupleIter s.heap.objs.size l1 0->h'.IsTupleIter (s.heap.objs.size+1) l2 0->(∀c o,s.heap.get? c=some o->h'.get? c=some o)->Q (.ref (s.heap.objs.size+4)) {s with heap:=h'}) :
  Ye (model prog w) A (call (.type "zip") [.ref l1,.ref l2]) Q E s:=by
 refine callType_new F.called_zip (by decide) (F.typeCall_zip_2 _ _) (F.newCall_zip_2 _ _) (λobj=>F.args_object_init_3 obj _ _) F.entry_zip_new (yL l1 l2 xs ys) ⟨u1,u2,?_⟩
 have n1:(PU s.heap l1).objs.size=s.heap.objs.size+1:=ZG ..
 have n2:(PR s.heap l1 l2).objs.size=s.heap.objs.size+2:=by rw[ZG,n1]
 have n3:(PM s.heap l1 l2).objs.size=s.heap.objs.size+3:=by rw[ZG,n2]
 have n4:(PL s.heap l1 l2).objs.size=s.heap.objs.size+4:=by rw[ZG,n3]
 have up:∀{h:Heap} {o:Obj} {c:Addr} {u:Obj},h.get? c=some u->(h.push o).get? c=some u:=λe=>XR _ e;have w5:(L_ s.heap l1 l2).get? (PL s.heap l1 l2).objs.size=some _:=X_ _ rfl;have w4:(L_ s.heap l1 l2).get? (PM s.heap l1 l2).objs.size=some _:=up (X_ _ rfl);have w3:(L_ s.heap l1 l2).get? (PR s.heap l1 l2).objs.size=some _:=up (up (X_ _ rfl));have w2:(L_ s.heap l1 l2).get? (PU s.heap l1).objs.size=some _:=up (up (up (X_ _ rfl)));have w1:(L_ s.heap l1 l2).get? s.heap.objs.size=some _:=up (up (up (up (X_ _ rfl))));show _/\_;rw[n2,n3,n4]at w5;rw[n1,n2]at w3;rw[n3]at w4;rw[n1]at w2;rw[n4];exact⟨⟨_,w5,rfl⟩,q _ w5 w3 w4 ⟨_,w1,rfl,rfl⟩ ⟨_,w2,rfl,rfl⟩ λc o e=>up (up (up (up (up e))))⟩
end
end Zp
namespace L2
open PySem PySem.Spec PySem.SeqAt PyProof.Rows Zp
abbrev Qs:=Hp->List V->Prop
def U8 (c1 c2:Qs):It :=
 ⟨λi H=>∃xs ys x y,c1 H xs/\c2 H ys/\xs[i]?=some x/\ys[i]?=some y,
  λi H x H'=>∃T,H T=none/\x=.ref T/\∀xs ys,c1 H xs->c2 H ys->∃a b,xs[i]?=some a/\ys[i]?=some b/\H'=upd H T (.tup [a,b]),
  λi H=>∃xs ys,c1 H xs/\c2 H ys/\(xs[i]?=none\/ys[i]?=none)⟩
structure Src (P:XX)(w:X6)(K:PySem.W.Frag)(i l:Addr)(c:Qs)(S:Nat->Heap->Prop):Prop where
 «at»:∀(X:Cx) (pins:List (Addr×Obj)) (σ:St) (H:Hp) (s:XQ) (xs:List V),X.prog=P->X.w=w->X.K=K->Inv X pins σ H s->c H xs->∃vs Ct,Vals xs vs/\L4 P w i l vs S Ct/\Ct s.heap
 obj:∀k h,S k h->∃o,h.get? i=some o/\∀v,o.data≠.cell v
 keep:∀k h h',S k h->(∀o,h.get? i=some o->h'.get? i=some o)->S k h'
 inj:∀(H:Hp) (xs ys:List V),c H xs->c H ys->xs=ys
 old:∀(H:Hp) (xs:List V),c H xs->H l≠none
theorem src_list {P:XX}{w:X6}{K:PySem.W.Frag}{i l:Addr}:Src P w K i l (λH xs=>H l=some (.lst xs)) (λk h=>h.IsListIter i l k) where
 «at»:=λX pins σ H s xs hp hw hk I h=>by
  obtain⟨its,r',pl,_⟩:=I.list (dv.of h);exact⟨its,_,r',DZ,pl.isList⟩
 obj:=λk h ⟨o,a,_,d⟩=>⟨o,a,λv z=>by rw[d]at z;cases z⟩
 keep:=λk h h' a k1=>a.at k1
 inj:=λH xs ys h h'=>by rw[h]at h';cases h';rfl
 old:=λH xs h z=>by rw[h]at z;cases z
theorem Fe {P:XX}{w:X6}{K:PySem.W.Frag}{i l:Addr}:Src P w K i l (λH xs=>H l=some (.tup xs)) (λk h=>h.IsTupleIter i l k) where
 «at»:=λX pins σ H s xs hp hw hk I h=>by
  obtain⟨its,r',pl,_⟩:=I.tuple (kh.of h);exact⟨its,_,r',Ha,(show s.heap.IsTuple l its.toArray from pl)⟩
 obj:=λk h ⟨o,a,_,d⟩=>⟨o,a,λv z=>by rw[d]at z;cases z⟩
 keep:=λk h h' ⟨o,a1,a2⟩ k1=>⟨o,k1 o a1,a2⟩
 inj:=λH xs ys h h'=>by rw[h]at h';cases h';rfl
 old:=λH xs h z=>by rw[h]at z;cases z
theorem Inv.E9 {X:Cx}{pins:List (Addr×Obj)}{σ:St}{H:Hp}{s:XQ}{fp:List Addr}{h':Heap}{x y:V}{u v:XO}(I:Inv X pins σ H s)(hf:∀b∈fp,fc X pins H b)(k:∀c o,c∉fp->s.heap.get? c=some o->h'.get? c=some o)
  (rx:RelV x u) (ry:RelV y v) (hT:ZU h' s.heap.objs.size u v):Inv X pins σ (upd H s.heap.objs.size (.tup [x,y])) {s with heap:=h'}:=by
 have hn:H s.heap.objs.size=none:=I.a5.fresh (XS _);have ne:∀{b:Addr} {o:Obj},s.heap.get? b=some o->b≠s.heap.objs.size:=λe=>Yk (X8 e);have nt:∀{b:Addr} {o:HO},H b=some o->b≠s.heap.objs.size:=λe z=>by rw[z,hn]at e;cases e
 have nf:∀{b:Addr} {o:HO},H b=some o->b∉fp:=λe z=>by rw[(hf _ z).1]at e;cases e
 refine I.call (g':=s.gens) (t':=s.toks) (d':=s.drawn) (ch:=fp) ⟨λb o e n _ hc=>k b o hc e,λb o e n _ hc=>⟨o.slots,k b o hc e⟩,λb o e n _=>by rw[ao (ne e)];exact n,λb o e hc=>⟨o,k b o hc e⟩,
  λb xs e=>by rw[ao (nt e)];exact e,λb o u e=>by rw[ao (nt e)];exact e,λb ps e=>⟨#[],by rw[ao (nt e),e];simp⟩⟩ (λb u e=>?_) I.bare λb hb=>?_
 ·by_cases hb:b=s.heap.objs.size
  ·subst hb;rw[ai]at e;cases e;exact⟨by show 2<=X3;decide,[_,_],.cons rx (.cons ry .nil),⟨_,hT,rfl,_,rfl⟩⟩
  ·rw[ao hb]at e;refine(I.a5 b u e).oE (λc v hc q=>k c v ?_ q) (λc q=>by rw[ao (nt q)];exact q) λc xs q=>by rw[ao (nt q)];exact q
   rcases hc with z|z
   ·rw[z];exact nf e
   ·exact nf z
 ·obtain⟨f0,f1,f2,f3,f4,f5⟩:=hf b hb;exact⟨f3,f1,f4,f5⟩
theorem Inv.xh {X:Cx}{pins:List (Addr×Obj)}{σ:St}{H:Hp}{s:XQ}{fp:List Addr}{h':Heap}(I:Inv X pins σ H s)(hf:∀b∈fp,fc X pins H b)(k:∀c o,c∉fp->s.heap.get? c=some o->h'.get? c=some o):Inv X pins σ H {s with heap:=h'}:=by
 have nf:∀{b:Addr} {o:HO},H b=some o->b∉fp:=λe z=>by rw[(hf _ z).1]at e;cases e
 refine I.call (g':=s.gens) (t':=s.toks) (d':=s.drawn) (ch:=fp) ⟨λb o e n _ hc=>k b o hc e,λb o e n _ hc=>⟨o.slots,k b o hc e⟩,λb o e n _=>n,λb o e hc=>⟨o,k b o hc e⟩,λb xs e=>e,λb o u e=>e,λb ps e=>⟨#[],by rw[e];simp⟩⟩ (λb u e=>?_) I.bare λb hb=>?_
 ·refine(I.a5 b u e).oE (λc v hc q=>k c v ?_ q) (λc q=>q) λc xs q=>q;rcases hc with z|z
  ·rw[z];exact nf e
  ·exact nf z
 ·obtain⟨f0,f1,f2,f3,f4,f5⟩:=hf b hb;exact⟨f3,f1,f4,f5⟩
theorem sH {P:XX}{w:X6}{K:PySem.W.Frag}{elts:List Expr}{kk:Nat}{pos:Pos}{z TI TO i1 i2 l1 l2:Addr}{c1 c2:Qs}{S1 S2:Nat->Heap->Prop}(Ap:Apart z TI TO i1 i2 l1 l2)(s1:Src P w K i1 l1 c1 S1)(s2:Src P w K i2 l2 c2 S2):
  Turn P w K (.Tuple elts kk pos) (U8 c1 c2) [z,TI,TO,i1,i2] z (λk h=>aa3 h z TI TO .none/\ZU h TI (.ref i1) (.ref i2)/\(∃a b,ZU h TO a b)/\S1 k h/\S2 k h) where
 mem:=by simp
 obj:=λk h uo c hc=>by
  obtain⟨h1,h2,⟨a,b,h3⟩,h4,h5⟩:=uo;simp only[XU,YC,or_false]at hc;rcases hc with rfl|rfl|rfl|rfl|rfl
  ·exact⟨_,h1,λv z=>by cases (show Data.fields _=Data.cell v from z)⟩
  ·exact⟨_,h2,λv z=>by cases (show Data.seq _ _=Data.cell v from z)⟩
  ·exact⟨_,h3,λv z=>by cases (show Data.seq _ _=Data.cell v from z)⟩
  ·exact s1.obj k h h4
  ·exact s2.obj k h h5
 keep:=λk h h' ⟨h1,h2,⟨a,b,h3⟩,h4,h5⟩ kp=>⟨kp z (by simp) _ h1,kp TI (by simp) _ h2,⟨a,b,kp TO (by simp) _ h3⟩,s1.keep k h h' h4 (λo e=>kp i1 (by simp) o e),s2.keep k h h' h5 λo e=>kp i2 (by simp) o e⟩
 item:=by
  intro X hP hw hK hc i pins s σ H E I hf st hg;obtain⟨g1,g2,⟨a,b,g3⟩,g4,g5⟩:=st;obtain⟨xs,ys,x,y,hx,hy,ex,ey⟩:=hg;obtain⟨vs,C1,r1,D1,k1⟩:=s1.at X pins σ H s xs hP hw hK I hx;obtain⟨us,C2,r2,D2,k2⟩:=s2.at X pins σ H s ys hP hw hK I hy;obtain⟨u,eu,ru⟩:=r1.get ex;obtain⟨v,ev,rv⟩:=r2.get ey;have sub:∀c∈[z,TO,i1,i2],c∈[z,TI,TO,i1,i2]:=λc hc=>by simp at hc ⊢;rcases hc with h|h|h|h <;> simp[h]
  refine AV Ap D1 D2 g1 g2 g3 g4 g5 k1 k2 eu ev λh' y1 y2 y3 y4 y5 y6=>?_;have I1:=I.E9 (fp:=[z,TI,TO,i1,i2]) hf (λc o Iq e=>y6 c o (λq=>Iq (sub c q)) e) ru rv y5;have nT:∀b∈[z,TI,TO,i1,i2],upd H s.heap.objs.size (.tup [x,y]) b=none:=λb hb=>by
   have:b≠s.heap.objs.size:=by
    have:=(show (∃o,s.heap.get? b=some o) from by
     simp only[XU,YC,or_false]at hb;rcases hb with rfl|rfl|rfl|rfl|rfl
     ·exact⟨_,g1⟩
     ·exact⟨_,g2⟩
     ·exact⟨_,g3⟩
     ·exact⟨_,(s1.obj i _ g4).choose_spec.1⟩
     ·exact⟨_,(s2.obj i _ g5).choose_spec.1⟩)
    obtain⟨o,e⟩:=this;exact Yk (X8 e)
   rw[ao this];exact(hf b hb).1
  have WZ:ZU h' TI (.ref i1) (.ref i2):=y6 TI _ (by
   have:=Ap.nd;simp only[Yj,XU,YC,or_false,not_or]at this ⊢
   obtain⟨⟨q1,_⟩,⟨q2,q3,q4⟩,_⟩:=this;exact⟨YW q1,q2,q3,q4⟩) g2
  refine⟨_,rfl,wpAny_letOwnedTupleGo_zip y1 λh'' z' sb=>?_⟩;have I2:Inv X pins σ (upd H s.heap.objs.size (.tup [x,y])) {s with heap:=h''}:=by
   refine I1.xh (fp:=[z]) (λb hb=>?_) λc o Iq e=>sb.extBut _ _ (by simpa using Iq) e
   have e:b=z:=by simpa using hb
   subst e;exact⟨nT b (by simp),(hf b (by simp)).2⟩
  have PC:∀c∈[TI,TO,i1,i2],c≠z:=λc hc q=>by
   have:=Ap.nd;rw[Yj]at this;exact this.1 (by rw[<- q];exact hc)
  refine⟨.ref s.heap.objs.size,_,I2,rfl,⟨s.heap.objs.size,I.a5.fresh (XS _),rfl,λUb Vd wq RV=>?_⟩,⟨z',sb.extBut _ _ (PC TI (by simp)) WZ,⟨_,_,sb.extBut _ _ (PC TO (by simp)) y2⟩,s1.keep _ _ _ y3 (λo e=>sb.extBut _ _ (PC i1 (by simp)) e),s2.keep _ _ _ y4 λo e=>sb.extBut _ _ (PC i2 (by simp)) e⟩,nT⟩
  rw[s1.inj H Ub xs wq hx,s2.inj H Vd ys RV hy];exact⟨x,y,ex,ey,rfl⟩
 done:=by
  intro X hP hw hK hc i pins s σ H E I hf st hg;obtain⟨g1,g2,⟨a,b,g3⟩,g4,g5⟩:=st;obtain⟨xs,ys,hx,hy,ex⟩:=hg;obtain⟨vs,C1,r1,D1,k1⟩:=s1.at X pins σ H s xs hP hw hK I hx;obtain⟨us,C2,r2,D2,k2⟩:=s2.at X pins σ H s ys hP hw hK I hy;have sub:∀c∈[z,TO,i1,i2],c∈[z,TI,TO,i1,i2]:=λc hc=>by simp at hc ⊢;rcases hc with h|h|h|h <;> simp[h]
  refine E4 Ap D1 D2 (I.ok.hd hc) g1 g2 g3 g4 g5 k1 k2 (ex.imp (λq=>r1.none_of q) λq=>r2.none_of q) λh' y6=>?_;exact⟨rfl,I.xh (fp:=[z,TI,TO,i1,i2]) hf λc o Iq e=>y6 c o (λq=>Iq (sub c q)) e⟩
 self:=λA i s Q E ⟨h1,_⟩ q=>wpAny_pyIter_zip h1 q
theorem Er:YG "zip" = some (.type "zip"):=by decide +kernel
noncomputable def gL:List D->List D->List D
 |a::as,b::bs=>.tup [a,b]::gL as bs
 |_,_=>[]
theorem md:∀{as bs:List D} {i:Nat} {d:D},(gL as bs)[i]?=some d->∃a b,as[i]?=some a/\bs[i]?=some b/\d=.tup [a,b]
 |[],_,_,_,h=>by simp[gL]at h
 |_::_,[],_,_,h=>by simp[gL]at h
 |a::as,b::bs,0,_,h=>by simp[gL]at h;exact⟨a,b,rfl,rfl,h.symm⟩
 |a::as,b::bs,i+1,_,h=>by
  obtain⟨x,y,h1,h2,h3⟩:=md (as:=as) (bs:=bs) (i:=i) (by simpa[gL] using h)
  exact⟨x,y,by simpa using h1,by simpa using h2,h3⟩
theorem sj:∀(as bs:List D),(gL as bs).length=min as.length bs.length
 |[],_=>by simp[gL]
 |_::_,[]=>by simp[gL]
 |a::as,b::bs=>by simp[gL,sj as bs]
section
variable {X:Cx}{W:Addr->Prop}{H:Hp}{l1 l2:Addr}{xs ys:List V}{ds es:List D}
def wY (t:Bool)(l:Addr):Qs:=λH xs=>if t=true then H l=some (.tup xs) else H l=some (.lst xs)
theorem yb (t:Bool)(h1:wY t l1 H xs)(h2:wY t l2 H ys)(n1:t=false->¬ W l1)(n2:t=false->¬ W l2)(r1:jx X W H ds xs)(r2:jx X W H es ys):rW X W (U8 (wY t l1) (wY t l2)) (gL ds es) H:=λW' hW i H' k=>by
 have st:∀{l:Addr} {xs:List V},wY t l H xs->(t=false->¬ W l)->wY t l H' xs:=λ{l xs} h n=>by
  unfold wY at h ⊢
  cases t with
  |true=>exact k.tup l xs h
  |false=>exact k.out l _ h λz=>(hW l z).elim (n rfl) λq=>by rw[show H l=some (HO.lst xs) from h]at q;cases q
 have inj:∀{l:Addr} {xs ys:List V},wY t l H' xs->wY t l H' ys->xs=ys:=λ{l xs ys} a b=>by
  unfold wY at a b;cases t with
  |true=>rw[show H' l=some (HO.tup xs) from a]at b;cases b;rfl
  |false=>rw[show H' l=some (HO.lst xs) from a]at b;cases b;rfl
 have q1:=(ag.grow hW r1).keep k;have q2:=(ag.grow hW r2).keep k;constructor
 ·intro d hd;obtain⟨a,b,ha,hb,rfl⟩:=md hd;obtain⟨x,ex,rx⟩:=ag.get q1 ha;obtain⟨y,ey,ry⟩:=ag.get q2 hb;refine⟨⟨xs,ys,x,y,st h1 n1,st h2 n2,ex,ey⟩,λv H1 fJ=>?_⟩;obtain⟨T,hT,e,yl⟩:=fJ;obtain⟨x',y',UZ,UY,eH⟩:=yl xs ys (st h1 n1) (st h2 n2);rw[ex]at UZ;rw[ey]at UY;cases UZ;cases UY;subst e eH;exact⟨ar.new hT,Rp.Ja hT (.cons rx (.cons ry .nil))⟩
 ·intro hl;rw[sj]at hl;have z1:=q1.length;have z2:=q2.length;refine⟨xs,ys,st h1 n1,st h2 n2,?_⟩
  by_cases h:ds.length<=i
  ·exact .inl (YQ (by lia))
  ·exact .inr (YQ (by lia))
variable {φs:u_}{elts:List Expr}{kk:Nat}{Ba:Pos}
def RS (φs:u_):LX:=λρ R=>φs ρ λl=>∃as bs,(l=[.lst as,.lst bs]\/l=[.tup as,.tup bs])/\R (gL as bs)
theorem Bf {P:XX}{w:X6}{K:PySem.W.Frag}{i l:Addr}(t:Bool):∃S:Nat->Heap->Prop,Src P w K i l (wY t l) S/\∀h,(t=true->h.IsTupleIter i l 0)->(t=false->h.IsListIter i l 0)->S 0 h:=by
 cases t with
 |true=>exact⟨_,Fe,λh a b=>a rfl⟩
 |false=>exact⟨_,src_list,λh a b=>b rfl⟩
theorem Fq {a b:Expr} {p pos:Pos} (hm:X.mg "zip" = none) (ha:Pn X [a,b] φs) (hg:Gl X "zip" := by rfl) (hs:X2 [a,b] X.env=[(false,eval a X.env),(false,eval b X.env)]:=by rfl) (jT:X2 [b] X.env=[(false,eval b X.env)]:=by rfl) :
  U7 X (.Tuple elts kk Ba) (.Call (.Name "zip" p) [a,b] [] pos) (RS φs):=by
 refine⟨λρ R R' k q=>ha.mono ρ _ _ (λl fy=>by obtain⟨as,bs,e,q⟩:=fy;exact⟨as,bs,e,k _ q⟩) q,λpins s σ H R I iG=>?_⟩
 obtain⟨W,ρ,se,q⟩:=iG;refine Call_ (fH I hg hm Er (Y0 (bu (ha.pa pos pins s σ H _ I (MI.of ha se q λds vs H1 h s1 r1=>(⟨ds,h,s1,r1⟩:∃ds,(∃as bs,(ds=[.lst as,.lst bs]\/ds=[.tup as,.tup bs])/\∀J H',ar H H'->rW X W J (gL as bs) H'->R J H')/\ar H H1/\jx X W H1 ds vs)))
  λus s1 ⟨vs,H1,I1,rv,h⟩=>?_) (by rw[hs,jT]) (by rw[jT];rfl)))
 obtain⟨ds,⟨as,bs,e,q⟩,sm,r1⟩:=h;have main:∀(t:Bool) (l1 l2:Addr) (xs ys:List V),vs=[.ref l1,.ref l2]->wY t l1 H1 xs->wY t l2 H1 ys->(t=false->¬ W l1)->(t=false->¬ W l2)->jx X W H1 as xs->jx X W H1 bs ys ->
   Ye (model X.prog X.w) X.A (call (.type "zip") us) (λv s1=>Ye (model X.prog X.w) X.A (pyIter v) (LZ X pins σ (.Tuple elts kk Ba) R) X.xe s1) X.xe s1:=by
  intro t l1 l2 xs ys ev g1 g2 n1 n2 w1 w2;subst ev;have it:=yb t g1 g2 n1 n2 w1 w2;obtain⟨v1,v2,rfl,e1,e2⟩:∃v1 v2,us=[v1,v2]/\RelV (.ref l1) v1/\RelV (.ref l2) v2:=by
   cases rv with
   |cons a rr=>cases rr with
    |cons b rr=>cases rr;exact⟨_,_,rfl,a,b⟩
  cases e1;cases e2;have Km:l1<s1.heap.objs.size:=I1.a5.lt (o:=if t=true then .tup xs else .lst xs) (by unfold wY at g1;cases t <;> exact g1)
  have Kl:l2<s1.heap.objs.size:=I1.a5.lt (o:=if t=true then .tup ys else .lst ys) (by unfold wY at g2;cases t <;> exact g2)
  have Ap:Apart (s1.heap.objs.size+4) (s1.heap.objs.size+2) (s1.heap.objs.size+3) s1.heap.objs.size (s1.heap.objs.size+1) l1 l2:=by
   generalize s1.heap.objs.size=n at Km Kl
   change (l1:Nat)<n at Km
   change (l2:Nat)<n at Kl
   refine⟨?_,λc hc=>?_,λc hc=>?_⟩
   ·have q:∀(i j:Nat),i≠j->(n+i:Nat)≠n+j:=λi j h z=>h (Nat.add_left_cancel z);simp only[Yj,XU,YC,or_false,not_or,YA,not_false_eq_true,and_true];exact⟨⟨q 4 2 (by decide),q 4 3 (by decide),q 4 0 (by decide),q 4 1 (by decide)⟩,⟨q 2 3 (by decide),q 2 0 (by decide),q 2 1 (by decide)⟩,⟨q 3 0 (by decide),q 3 1 (by decide)⟩,q 0 1 (by decide)⟩
   ·simp only[XU,YC,or_false]at hc;rcases hc with rfl|rfl|rfl|rfl <;> exact Yk (Yo Km (by first|exact aad _ _|exact XS _))
   ·simp only[XU,YC,or_false]at hc;rcases hc with rfl|rfl|rfl|rfl <;> exact Yk (Yo Kl (by first|exact aad _ _|exact XS _))
  obtain⟨S1,QS,z1⟩:=Bf (P:=X.prog) (w:=X.w) (K:=X.K) (i:=s1.heap.objs.size) (l:=l1) t;obtain⟨S2,QR,z2⟩:=Bf (P:=X.prog) (w:=X.w) (K:=X.K) (i:=s1.heap.objs.size+1) (l:=l2) t;have fin:∀h',aa3 h' (s1.heap.objs.size+4) (s1.heap.objs.size+2) (s1.heap.objs.size+3) .none->ZU h' (s1.heap.objs.size+2) (.ref s1.heap.objs.size) (.ref (s1.heap.objs.size+1))->ZU h' (s1.heap.objs.size+3) .none .none ->
    S1 0 h'->S2 0 h'->(∀c o,s1.heap.get? c=some o->h'.get? c=some o)->Ye (model X.prog X.w) X.A (pyIter (.ref (s1.heap.objs.size+4))) (LZ X pins σ (.Tuple elts kk Ba) R) X.xe {s1 with heap:=h'}:=λh' y1 y2 y3 y4 y5 y6=>by
   refine wpAny_pyIter_zip y1 ?_;have I2:Inv X pins σ H1 {s1 with heap:=h'}:=I1.kept (t':=s1.toks) y6
   refine⟨_,_,_,_,H1,rfl,I2,sH Ap QS QR,⟨y1,y2,⟨_,_,y3⟩,y4,y5⟩,λb hb=>?_,q _ _ sm it⟩;have pV:s1.heap.objs.size<=b:=by
    simp only[XU,YC,or_false]at hb;rcases hb with rfl|rfl|rfl|rfl|rfl <;> first|exact aad _ _|exact XS _
   exact I1.rN pV (I1.a5.fresh pV)
  cases t with
  |true =>
   obtain⟨KO,_,p1,_⟩:=I1.tuple (kh.of (show H1 l1=some (.tup xs) from g1))
   obtain⟨nr,_,p2,_⟩:=I1.tuple (kh.of (show H1 l2=some (.tup ys) from g2))
   exact AS (show s1.heap.IsTuple l1 KO.toArray from p1) (show s1.heap.IsTuple l2 nr.toArray from p2) λh' y1 y2 y3 y4 y5 y6=>fin h' y1 y2 y3 (z1 h' (λ_=>y4) λz=>by cases z) (z2 h' (λ_=>y5) λz=>by cases z) y6
  |false =>
   obtain⟨KO,_,p1,_⟩:=I1.list (dv.of (show H1 l1=some (.lst xs) from g1))
   obtain⟨nr,_,p2,_⟩:=I1.list (dv.of (show H1 l2=some (.lst ys) from g2))
   exact call_zip_2 p1.isList p2.isList λh' y1 y2 y3 y4 y5 y6 y7=>fin h' y1 y2 y3 (z1 h' (λz=>by cases z) λ_=>y4) (z2 h' (λz=>by cases z) λ_=>y5) y7
 rcases e with rfl|rfl
 ·obtain⟨x,y,rfl,⟨l1,xs,rfl,g1,n1,w1⟩,⟨l2,ys,rfl,g2,n2,w2⟩⟩:=oh r1;exact main false l1 l2 xs ys rfl g1 g2 (λ_=>n1) (λ_=>n2) w1 w2
 ·obtain⟨x,y,rfl,⟨l1,xs,rfl,g1,w1⟩,⟨l2,ys,rfl,g2,w2⟩⟩:=oh r1;exact main true l1 l2 xs ys rfl g1 g2 (λz=>by cases z) (λz=>by cases z) w1 w2
end
section
end
theorem bU {lo:Int}{n i:Nat}{d:D}(h:(mL lo n)[i]?=some d):i<n/\d=.int (lo+i):=by
 unfold mL at h;rw[X5]at h;have hi:i<n:=by
  by_cases hi:i<n
  ·exact hi
  ·rw[YQ (by simpa using hi)]at h;cases h
 rw[Y3 hi]at h;cases h;exact⟨hi,rfl⟩
theorem cy {lo:Int}{n:Nat}:(mL lo n).length=n:=by unfold mL;simp
section
end
structure Df (K:PySem.W.Frag)(mg:Str->Option XO)(x:Str)(st:Stmt)(ps:List Str)(f:Addr)(fd:YB):Prop where
 F:EZ K x x st f fd
 b:Binds K fd ps []
 m:mg x=some (.ref f)
structure Bs (mg:Str->Option XO):Prop where
 max:mg "max" = none
 min:mg "min" = none
 int:mg "int" = none
 range:mg "range" = none
 sorted:mg "sorted" = none
 set:mg "set" = none
 len:mg "len" = none
 list:mg "list" = none
theorem LP:YG "set" = some (.type "set"):=by decide +kernel
theorem dg.qE {k:Nat}{A:YX}(r:dg k A):A.units+64+1<Z7:=by have:=r.un;lia
theorem uy (ts:List (List Int)):D.cf (ts.map kD)=true:=by
 have fi:∀k:List Int,D.cf (k.map D.int)=true:=λk=>by
  induction k with
  |nil=>rfl
  |cons i k ih=>show (D.flat (.int i)&&D.cf (k.map D.int))=true;rw[ih];rfl
 induction ts with
 |nil=>rfl
 |cons t ts ih =>
  show (D.flat (kD t)&&D.cf (ts.map kD))=true;rw[ih];show (D.cf (t.map D.int)&&true)=true;rw[fi];rfl
theorem qJ {fs:List (List Int)}{t:List Int}:(fs++[t]).map kD=fs.map kD++[kD t]:=by simp
theorem sU {fs:List Int}{t:Int}:(fs++[t]).map D.int=fs.map D.int++[D.int t]:=by simp
theorem f7 {a b:D}:[a,b].length<=X3:=by show 2<=X3;decide
theorem Vu {a b c:D}:[a,b,c].length<=X3:=by show 3<=X3;decide
theorem EH {a:D}:[a].length<=X3:=by show 1<=X3;decide
theorem l7 {b:Bool}{p q:Prop}(hb:b=true)(h:p):(if b=true then p else q):=by rw[if_pos hb];exact h
theorem fN {b:Bool}{p q:Prop}(hb:b=false)(h:q):(if b=true then p else q):=by rw[hb,if_neg (by simp)];exact h
theorem rF {c:Prop}[Decidable c]{p q:Prop}(h1:c->p)(h2:¬ c->q):(if decide c=true then p else q):=by
 by_cases h:c
 ·exact l7 (by simp[h]) (h1 h)
 ·exact fN (by simp[h]) (h2 h)
theorem V6 {c:Prop}[Decidable c]{p q:Prop}(h1:¬ c->p)(h2:c->q):(if (!decide c)=true then p else q):=by
 by_cases h:c
 ·exact fN (by simp[h]) (h2 h)
 ·exact l7 (by simp[h]) (h1 h)
theorem d_ {α:Type}(f:α->D):∀l:List α,D.gQ (l.map f)=l.map λa=>(f a).pd
 |[]=>rfl
 |a::l=>by
  show (f a).pd::D.gQ (l.map f)=_;rw[d_ f l];rfl
theorem la {n:Nat}:∀{xs:List PyData},(∀x∈xs,x.canLay0=true/\x.depth<=n)->Z5 xs=true/\Ze xs<=n
 |[],_=>⟨by simp[Z5],by simp[Ze]⟩
 |x::xs,h=>by
  obtain⟨h1,h2⟩:=la (n:=n) (xs:=xs) λy hy=>h y (by simp[hy])
  obtain⟨g1,g2⟩:=h x (by simp)
  refine⟨by simp[Z5,h1,g1],?_⟩
  simp only[Ze];lia
theorem yU {n:Nat}{ds:List D}(h:∀d∈ds,d.pd.canLay0=true/\d.pd.depth<=n):(D.tup ds).pd.canLay0=true/\(D.tup ds).pd.depth<=n+1:=by
 have e:D.gQ ds=ds.map λd=>d.pd:=by
  have:=d_ (λd:D=>d) ds;simpa using this
 obtain⟨h1,h2⟩:=la (n:=n) (xs:=D.gQ ds) λx hx=>by
  rw[e]at hx;obtain⟨d,hd,rfl⟩:=Yl.mp hx;exact h d hd
 refine⟨by simpa[D.pd,Y6] using h1,?_⟩
 have:(D.tup ds).pd.depth=Ze (D.gQ ds)+1:=by simp[D.pd,ZK]
 lia
theorem kA {n:Nat}{ds:List D}(h:∀d∈ds,d.pd.canLay0=true/\d.pd.depth<=n):(D.lst ds).pd.canLay0=true/\(D.lst ds).pd.depth<=n+1:=by
 have e:D.gQ ds=ds.map λd=>d.pd:=by
  have:=d_ (λd:D=>d) ds;simpa using this
 obtain⟨h1,h2⟩:=la (n:=n) (xs:=D.gQ ds) λx hx=>by
  rw[e]at hx;obtain⟨d,hd,rfl⟩:=Yl.mp hx;exact h d hd
 refine⟨by simpa[D.pd,Y6] using h1,?_⟩
 have:(D.lst ds).pd.depth=Ze (D.gQ ds)+1:=by simp[D.pd,ZK]
 lia
theorem ck (i:Int):(D.int i).pd.canLay0=true/\(D.int i).pd.depth<=1:=⟨by simp[D.pd,Y6],by simp[D.pd,ZK]⟩
theorem pB:D.cj.pd.canLay0=true/\D.cj.pd.depth<=1:=⟨by simp[D.pd,Y6],by simp[D.pd,ZK]⟩
theorem sW (b:Bool):(D.bl b).pd.canLay0=true/\(D.bl b).pd.depth<=1:=⟨by simp[D.pd,Y6],by simp[D.pd,ZK]⟩
theorem sV (t:List Int):(kD t).pd.canLay0=true/\(kD t).pd.depth<=2:=yU λd hd=>by
 obtain⟨i,_,rfl⟩:=Yl.mp hd;exact ck i
theorem i4 (ts:List (List Int)):(D.lst (ts.map kD)).pd.canLay0=true/\(D.lst (ts.map kD)).pd.depth<=3:=kA λd hd=>by
 obtain⟨i,_,rfl⟩:=Yl.mp hd;exact sV i
theorem c9 (ts:List Int):(D.lst (ts.map D.int)).pd.canLay0=true/\(D.lst (ts.map D.int)).pd.depth<=2:=kA λd hd=>by
 obtain⟨i,_,rfl⟩:=Yl.mp hd;exact ck i
theorem dE {d:D}{n:Nat}(h:d.pd.canLay0=true/\d.pd.depth<=n)(hn:n<=64:=by decide):d.vF=true:=by
 show (d.pd.canLay0&&decide (d.pd.depth<=64))=true;rw[h.1,decide_eq_true (by lia)]
 rfl
theorem gy {α:Type}[DecidableEq α]{f:α->PyData}(hf:∀a b,Y5 (f a) (f b)=decide (a=b)):∀xs ys:List α,aaY (xs.map f) (ys.map f)=decide (xs=ys)
 |[],[]=>by simp[aaY]
 |[],_::_=>by simp[aaY]
 |_::_,[]=>by simp[aaY]
 |x::xs,y::ys=>by
  simp only[X4,aaY];rw[hf,gy hf xs ys]
  by_cases h1:x=y
  ·by_cases h2:xs=ys <;> simp[h1,h2]
  ·simp[h1]
theorem l8 (i j:Int):Y5 (D.int i).pd (D.int j).pd=decide (i=j):=by
 simp only[D.pd,Y5]
 by_cases h:i=j <;> simp[h]
theorem LA (t u:List Int):Y5 (kD t).pd (kD u).pd=decide (t=u):=by
 show Y5 (.tuple (D.gQ (t.map D.int))) (.tuple (D.gQ (u.map D.int)))=_;rw[d_,d_];simp only[Y5];exact gy l8 t u
theorem DR (ts us:List (List Int)):Y5 (D.lst (ts.map kD)).pd (D.lst (us.map kD)).pd=decide (ts=us):=by
 show Y5 (.list (D.gQ (ts.map kD))) (.list (D.gQ (us.map kD)))=_;rw[d_,d_];simp only[Y5];exact gy LA ts us
theorem DS (ts us:List Int):Y5 (D.lst (ts.map D.int)).pd (D.lst (us.map D.int)).pd=decide (ts=us):=by
 show Y5 (.list (D.gQ (ts.map D.int))) (.list (D.gQ (us.map D.int)))=_;rw[d_,d_];simp only[Y5];exact gy l8 ts us
theorem Eg {a b:D}{c:Bool}(h1:a.vF=true)(h2:b.vF=true)(e:Y5 a.pd b.pd=c):Pd a b=some (.bl c):=by
 unfold Pd;rw[if_pos ⟨h1,h2⟩,e]
theorem wM {a b:D}{c:Bool}(h1:a.vF=true)(h2:b.vF=true)(e:Y5 a.pd b.pd=c):Mk a b=some (.bl (!c)):=by
 unfold Mk;rw[if_pos ⟨h1,h2⟩,e]
theorem fD (i j:Int):Pd (.int i) (.int j)=some (.bl (decide (i=j))):=Eg (dE (ck i)) (dE (ck j)) (l8 i j)
theorem Ea (ts us:List (List Int)):Mk (.lst (ts.map kD)) (.lst (us.map kD))=some (.bl (!decide (ts=us))):=wM (dE (i4 ts)) (dE (i4 us)) (DR ts us)
theorem Eb (ts us:List Int):Mk (.lst (ts.map D.int)) (.lst (us.map D.int))=some (.bl (!decide (ts=us))):=wM (dE (c9 ts)) (dE (c9 us)) (DS ts us)
theorem any_map {α:Type}[DecidableEq α]{f:α->D}(hf:∀a b,Y5 (f a).pd (f b).pd=decide (a=b))(t:α):∀xs:List α,((D.gQ (xs.map f)).any λy=>Y5 y (f t).pd)=decide (t∈xs)
 |[]=>rfl
 |x::xs=>by
  show (Y5 (f x).pd (f t).pd || (D.gQ (xs.map f)).any λy=>Y5 y (f t).pd)=_
  rw[any_map hf t xs,hf]
  by_cases h:x=t
  ·simp[h]
  ·have h':¬ t=x:=λz=>h z.symm;simp[h,h']
theorem yv (i:Int)(t:List Int):LI (.int i) (kD t)=some (decide (i∈t)):=by
 show (if (D.int i).vF=true/\(D.tup (t.map D.int)).vF=true then some _ else none)=_
 rw[if_pos ⟨dE (ck i),dE (sV t)⟩,any_map l8]
theorem Ef (i:Int)(t:List Int):Tw (.int i) (kD t)=some (.bl (decide (i∈t))):=by unfold Tw;rw[yv];rfl
theorem Ab (i:Int)(t:List Int):wL (.int i) (kD t)=some (.bl (!decide (i∈t))):=by unfold wL;rw[yv];rfl
theorem U5 {α:Type}{ds:List α}{i:Nat}{d:α}(h:ds[i]?=some d):r_ ds (i:Int)=some d:=by
 have hl:i<ds.length:=(X0.mp h).1;unfold r_ zM;rw[if_pos (by lia),if_pos (by lia),Zq]
 exact h
theorem LU {α:Type}{ds:List α}{i:Int}(h0:0<=i)(h1:i<ds.length):∃d∈ds,r_ ds i=some d/\ds[i.toNat]?=some d:=by
 have hl:i.toNat<ds.length:=by lia
 refine⟨ds[i.toNat],Y7 hl,?_,XY hl⟩;have:=U5 (ds:=ds) (i:=i.toNat) (XY hl)
 rwa [show ((i.toNat:Nat):Int)=i by lia]at this
theorem Hg {ds:List D}{i:Nat}{d:D}(h:ds[i]?=some d):Ae (.lst ds) (.int (i:Int))=some d:=U5 h
theorem pick {ds:List D}{r:Int}{p:D->Prop}(h0:0<=r)(h1:r<ds.length)(h:∀d∈ds,p d):∃d,Ae (.lst ds) (.int r)=some d/\p d:=by
 obtain⟨d,hd,e,_⟩:=LU h0 h1;exact⟨d,e,h d hd⟩
theorem Ec {i j:Int}:yu [.int i,.int j]=some (.int (if j<i then j else i)):=by
 first|rfl|(simp[yu])
def QB:D->Option String
 |.cj=>some "NoneType"
 |.bl _=>some "bool"
 |.int _=>some "int"
 |.str _=>some "str"
 |.tup _=>some "tuple"
 |.lst _=>some "list"
 |_=>none
section
variable {X:Cx}{W:Addr->Prop}{H:Hp}{pins:List (Addr×Obj)}{σ:St}{s:XQ}
theorem Rp.ty {d:D}{v:V}{T:String}(h:Rp X W H d v)(e:QB d=some T):jq X.K H v (.type T):=by
 cases d with
 |cj=>cases h;cases e;exact .cj
 |bl b=>cases h;cases e;exact .bl _
 |int b=>cases h;cases e;exact .int _
 |str b=>cases h;cases e;exact .str _
 |tup ds=>obtain⟨a,vs,rfl,h1,_⟩:=h;cases e;exact .tup h1
 |lst ds=>obtain⟨a,vs,rfl,h1,_⟩:=h;cases e;exact .lst h1
 |_=>cases e
theorem Ao:dW X (.builtin "isinstance") (λxs H Q=>∃x p n1 n2 T k,xs=[x,.ref p]/\H p=some (.tup [.ty n1,.ty n2])/\jq X.K H x (.type T)/\PySem.W.kitAny X.K (.type T) [.type n1,.type n2]=some k/\Q (.bl k) H):=by
 intro pins s σ H xs us Q I r h;obtain⟨x,p,n1,n2,T,k,rfl,hp,ty,e,q⟩:=h;obtain⟨u,w',rfl,r1,r2⟩:=vals2 r;cases (show w'=Value.ref p from r2)
 obtain⟨_,its,rv,o,ho,hc,n,hd⟩:=(show aO X.prog X.w H s.heap p (.tup [.ty n1,.ty n2]) from I.a5 p _ hp)
 obtain⟨u1,u2,rfl,e1,e2⟩:∃u1 u2,its=[u1,u2]/\RelV (.ty n1) u1/\RelV (.ty n2) u2:=by
  cases rv with
  |cons a rr=>cases rr with
   |cons b rr=>cases rr;exact⟨_,_,rfl,a,b⟩
 cases (show u1=Value.type n1 from e1)
 cases (show u2=Value.type n2 from e2)
 obtain⟨c,dd,dt,sl⟩:=o;simp only at hc hd;subst hc hd;have fin:∀tk,EP X pins σ Q (.bool k) {s with toks:=tk}:=λtk=>⟨.bl k,H,I.tok _,rfl,q⟩
 cases ty with
 |cj=>cases (show u=Value.none from r1);exact PySem.W.kia_tup PySem.W.kitx_none I.kT Zk ho e (λz=>nomatch z) fin
 |bl y=>cases (show u=Value.bool y from r1);exact PySem.W.kia_tup PySem.W.kitx_bool I.kT Zk ho e (λz=>nomatch z) fin
 |int i=>obtain⟨t,q⟩:=(show ∃t,u=Value.int i t from r1);cases q;exact PySem.W.kia_tup PySem.W.kitx_int I.kT Zk ho e (λz=>nomatch z) fin
 |str y=>obtain⟨t,q⟩:=(show ∃t,u=Value.str y t from r1);cases q;exact PySem.W.kia_tup PySem.W.kitx_str I.kT Zk ho e (λz=>nomatch z) fin
 |Lw y=>obtain⟨t,q⟩:=(show ∃t,u=Value.float y t from r1);cases q;exact PySem.W.kia_tup PySem.W.kitx_float I.kT Zk ho e (λz=>nomatch z) fin
 | @lst a xs ea =>
  cases (show u=Value.ref a from r1)
  obtain⟨_,_,n,_,h1⟩:=(show aO X.prog X.w H s.heap a (.lst xs) from I.a5 a _ ea)
  exact PySem.W.kia_tup PySem.W.kitx_list I.kT ⟨_,h1,rfl⟩ ho e (λz=>nomatch z) fin
 | @rM a ob xs ea =>
  cases (show u=Value.ref a from r1)
  obtain⟨_,_,_,n,_,h1⟩:=(show aO X.prog X.w H s.heap a (.rM ob (.lst xs)) from I.a5 a _ ea)
  exact PySem.W.kia_tup PySem.W.kitx_list I.kT ⟨_,h1,rfl⟩ ho e (λz=>nomatch z) fin
 | @tup a xs ea =>
  cases (show u=Value.ref a from r1)
  obtain⟨_,_,_,p⟩:=(show aO X.prog X.w H s.heap a (.tup xs) from I.a5 a _ ea)
  obtain⟨o,h1,h2,_⟩:=p;exact PySem.W.kia_tup PySem.W.kitx_tuple I.kT ⟨o,h1,h2⟩ ho e (λz=>nomatch z) fin
 | @dK a kvs ea =>
  cases (show u=Value.ref a from r1)
  obtain⟨_,_,vs,_,p⟩:=(show aO X.prog X.w H s.heap a (.dK kvs) from I.a5 a _ ea)
  obtain⟨o,es,ep,h1,h2,_⟩:=p;exact PySem.W.kia_tup PySem.W.kitx_dict I.kT ⟨o,h1,h2.1⟩ ho e (λz=>nomatch z) fin
 | @dT a kvs ea =>
  cases (show u=Value.ref a from r1)
  obtain⟨_,_,xs,_,o,es,ep,h1,h2,_⟩:=(show aO X.prog X.w H s.heap a (.dT kvs) from I.a5 a _ ea)
  exact PySem.W.kia_tup PySem.W.kitx_dict I.kT ⟨o,h1,h2.1⟩ ho e (λz=>nomatch z) fin
end
section
variable {X:Cx}{a:Expr}{φ:LY}{T T2:Str}{n n2:String}{p p2 p3 tp pos:Pos}{x1:Nat}
theorem fu (hm:X.mg "isinstance" = none) (ha:PV X a φ) (hT:X.mg T=none) (bT:YG T=some (.type n)) (hg:Gl X "isinstance" := by rfl) (SN:Gl X T:=by rfl) (Su:T≠"__name__" := by decide) (SV:(T==("__debug__" : Str))=false:=by decide)
  (nz:X2 [a,.Name T p2] X.env=(false,eval a X.env)::X2 [.Name T p2] X.env:=by rfl) (K2:X2 [.Name T p2] X.env=(false,eval (.Name T p2) X.env)::X2 [] X.env:=by rfl) (hpl:(ZA pos (X2 [.Name T p2] X.env)).any (·.1)=false:=by rfl) :
  PV X (.Call (.Name "isinstance" p) [a,.Name T p2] [] pos) (λρ R=>φ ρ λd=>∃t k,QB d=some t/\PySem.W.kitOne X.K (.type t) (.type n)=some k/\R (.bl k)) :=
 ⟨λρ R R' k h=>ha.mono ρ _ _ (λd fy=>by obtain⟨t,b,h1,h2,q⟩:=fy;exact⟨t,b,h1,h2,k _ q⟩) h,
  (eS Eo hg hm Et (aW ha.pe (aW (qZ (v:=.ty n) SN hT bT rfl Su SV) b_ K2) nz) (he:=nz) (hpl:=hpl)).pre λσ H Q ⟨W,ρ,se,h⟩=>tD.of ha se h λd v H1 ⟨t,k,h1,h2,q⟩ s1 r1 =>
    ⟨v,n,_,k,rfl,r1.ty h1,h2,q _ H1 s1 rfl⟩⟩
theorem qS (hm:X.mg "isinstance" = none) (ha:PV X a φ) (hT:X.mg T=none) (bT:YG T=some (.type n)) (Ql:X.mg T2=none) (WY:YG T2=some (.type n2)) (hg:Gl X "isinstance" := by rfl) (SN:Gl X T:=by rfl) (Su:T≠"__name__" := by decide) (SV:(T==("__debug__" : Str))=false:=by decide) (SM:Gl X T2:=by rfl) (Ss:T2≠"__name__" := by decide) (SU:(T2==("__debug__" : Str))=false:=by decide)
  (nz:X2 [a,.Tuple [.Name T p2,.Name T2 p3] x1 tp] X.env=(false,eval a X.env)::X2 [.Tuple [.Name T p2,.Name T2 p3] x1 tp] X.env:=by rfl) (K2:X2 [.Tuple [.Name T p2,.Name T2 p3] x1 tp] X.env=(false,eval (.Tuple [.Name T p2,.Name T2 p3] x1 tp) X.env)::X2 [] X.env:=by rfl) (hpl:(ZA pos (X2 [.Tuple [.Name T p2,.Name T2 p3] x1 tp] X.env)).any (·.1)=false:=by rfl)
  (fy:X2 [.Name T p2,.Name T2 p3] X.env=(false,eval (.Name T p2) X.env)::X2 [.Name T2 p3] X.env:=by rfl) (jU:X2 [.Name T2 p3] X.env=(false,eval (.Name T2 p3) X.env)::X2 [] X.env:=by rfl) :
  PV X (.Call (.Name "isinstance" p) [a,.Tuple [.Name T p2,.Name T2 p3] x1 tp] [] pos) (λρ R=>φ ρ λd=>∃t k,QB d=some t/\PySem.W.kitAny X.K (.type t) [.type n,.type n2]=some k/\R (.bl k)) :=
 ⟨λρ R R' k h=>ha.mono ρ _ _ (λd uo=>by obtain⟨t,b,h1,h2,q⟩:=uo;exact⟨t,b,h1,h2,k _ q⟩) h,
  (eS Ao hg hm Et (aW ha.pe (aW (vP (aW (qZ (v:=.ty n) SN hT bT rfl Su SV) (aW (qZ (v:=.ty n2) SM Ql WY rfl Ss SU) b_ jU) fy)) b_ K2) nz) (he:=nz) (hpl:=hpl)).pre λσ H Q ⟨W,ρ,se,h⟩=>tD.of ha se h λd v H1 ⟨t,k,h1,h2,q⟩ s1 r1 =>
    ⟨by show 2<=X3;decide,λp hp=>⟨v,p,n,n2,t,k,rfl,ai,Rp.ty (X:=X) (r1.same (ar.new hp)) h1,h2,q _ _ (s1.trans (ar.new hp)) rfl⟩⟩⟩
end
theorem C0 {K:PySem.W.Frag}:PySem.W.kitOne K (.type "list") (.type "list")=some true:=rfl
theorem CY {K:PySem.W.Frag}:PySem.W.kitOne K (.type "tuple") (.type "list")=some false:=rfl
theorem kit_is {K:PySem.W.Frag}:PySem.W.kitOne K (.type "int") (.type "str")=some false:=rfl
theorem CZ {K:PySem.W.Frag}:PySem.W.kitOne K (.type "str") (.type "str")=some true:=rfl
theorem C3 {K:PySem.W.Frag}:PySem.W.kitOne K (.type "int") (.type "int")=some true:=rfl
theorem C4 {K:PySem.W.Frag}:PySem.W.kitOne K (.type "int") (.type "bool")=some false:=rfl
theorem x_ {K:PySem.W.Frag}:PySem.W.kitAny K (.type "int") [.type "list",.type "tuple"]=some false:=rfl
theorem xX {K:PySem.W.Frag}:PySem.W.kitAny K (.type "str") [.type "list",.type "tuple"]=some false:=rfl
theorem xY {K:PySem.W.Frag}:PySem.W.kitAny K (.type "NoneType") [.type "list",.type "tuple"]=some false:=rfl
theorem xW {K:PySem.W.Frag}:PySem.W.kitAny K (.type "tuple") [.type "list",.type "tuple"]=some true:=rfl
theorem xZ {K:PySem.W.Frag}:PySem.W.kitAny K (.type "list") [.type "list",.type "tuple"]=some true:=rfl
end L2
namespace HT
open PySem PySem.Spec PyProof.Rows
theorem j4 {α β:Type}{f g:α->Option β}:∀{l:List α},(∀x∈l,f x=g x)->l.filterMap f=l.filterMap g
 |[],_=>rfl
 |x::l,h=>by
  rw[YV,YV,h x (by simp),j4 λy hy=>h y (by simp[hy])]
theorem s_ {α:Type}(xs:List α):((X7 xs.length).filterMap λk=>xs[xs.length-1-k]?)=xs.reverse:=by
 have h:=pick_run xs.reverse.toArray 0 xs.length;rw[List.filterMap_map]at h;have e:((X7 xs.length).filterMap λk=>xs[xs.length-1-k]?)=(X7 xs.length).filterMap ((λx=>xs.reverse.toArray[x]?) ∘ λx=>0+x):=by
  refine j4 λk hk=>?_;have GI:=YH.mp hk;show _=xs.reverse.toArray[0+k]?;rw[List.getElem?_toArray,aaF,List.getElem?_reverse GI]
 rw[e,h];simp only[List.drop_zero];exact Zf (by simp)
theorem iS (items:Array XO):slicePick items none none (some (-1))=items.toList.reverse.toArray:=by
 have e:(sliceRange (ZW none none (some (-1)) items.size).1 (ZW none none (some (-1)) items.size).2.1 (ZW none none (some (-1)) items.size).2.2)=(X7 items.size).map λk=>items.size-1-k:=by
  show sliceRange ((items.size:Int)-1) (-1) (-1)=_;unfold sliceRange;have c:(if (-1:Int)>0 then (if (items.size:Int)-1 < -1 then ((-1)-((items.size:Int)-1)+-1-1) / -1 else 0) else (if (items.size:Int)-1 > -1 then ((items.size:Int)-1-(-1)-(-1)-1) / (-(-1)) else 0)).toNat=items.size:=by
   rw[if_neg (by lia)]
   split
   ·rw[show (-(-1):Int)=1 by rfl,Int.ediv_one];lia
   ·lia
  simp only[c];refine Zr λk hk=>?_;have:=YH.mp hk;lia
 unfold slicePick;rw[e,List.filterMap_map]
 congr 1
 have:=s_ items.toList;rw[Yc]at this;rw[<- this];refine j4 λk hk=>?_;show items[items.size-1-k]?=_;rw[YR]
section
variable {prog:XX}{w:X6}{A:YX}{E:XO->XQ->Prop}{s:XQ}
theorem kB {sl:Addr}{n:Nat}{t:Tok}{Q:Int×Int×Nat->XQ->Prop}(hs:s.heap.IsSliceOf sl .none .none (.int (-1) t))
  (h:Q ((n:Int)-1,-1,n) s):Ye (model prog w) A (Builtin.Slice.sliceApplied (.ref sl) (pure (n:Int))) Q E s:=by
 obtain⟨os,OL,Lp,Ip⟩:=id hs;unfold Builtin.Slice.sliceApplied Builtin.Slice.sliceFields;refine XM (XM (Zl OL Ip (x:=.none) rfl (XM (Zl OL Ip (x:=.none) rfl (XM (Zl OL Ip (x:=.int (-1) t) rfl (XT ?_)))))));refine XM (slicePart_int ?_);show Ye _ _ (if ((-1:Int)==0)=true then _ else _) _ _ s
 rw[if_neg (by decide)]
 refine XM (slicePart_none (XM (slicePart_none (XM (XT ?_)))));show Ye _ _ (match aaN none none (-1) (n:Int)with|(lo,hi)=>pure (lo,(-1:Int),aaf lo hi (-1))) _ _ s
 have e1:aaN none none (-1) (n:Int)=((n:Int)-1,-1):=by
  unfold aaN;simp
 rw[e1];show Ye _ _ (pure ((n:Int)-1,(-1:Int),aaf ((n:Int)-1) (-1) (-1))) _ _ s;have e2:aaf ((n:Int)-1) (-1) (-1)=n:=by
  unfold aaf;rw[if_neg (by lia)]
  split
  ·simp
  ·lia
 rw[e2];exact XT h
theorem jX {t sl:Addr}{items:Array XO}{tk:Tok}{Q:XO->XQ->Prop}(ht:IsTup s.heap t items)(hs:s.heap.IsSliceOf sl .none .none (.int (-1) tk))
  (h:Q (.ref s.heap.objs.size) {s with heap:=s.heap.push {cls:=.type "tuple",data:=.seq items.toList.reverse.toArray}})
  (hsz:items.size<=X3):Ye (model prog w) A (getItem (.ref t) (.ref sl)) Q E s:=by
 have yd:sizeOk (.seq items.toList.reverse.toArray):=by
  show items.toList.reverse.toArray.size<=X3;rw[Yb,aaD,Yc];exact hsz
 obtain⟨os,OL,Lp,Ip⟩:=id hs;have WG:s.TypeIs (.ref sl) "slice" := ⟨os,OL,Lp⟩;unfold getItem
 try with_reducible refine YU ?_
 first|refine XM (XT ?_)|skip
 refine XM (wpAny_sequenceKey ht.typeIs (by decide) ?_)
 refine XM (Zm (name:=aao "__getitem__") ht.typeIs aar
  (Za aar ht.typeIs entry_tuple_getitem ?_ (args_tuple_getitem _ _)))
 show Ye _ _ (Builtin.Tuple.tupleItemsOf (.ref t) >>= _) _ _ s;refine XM (tupleItemsOf_ ht ?_);refine XM (wpAny_typeOf WG ?_);rw[if_pos (by decide)]
 refine XM (kB hs ?_);show Ye _ _ (if (((items.size:Int)-1)==0&&(-1:Int)==1&&items.size==items.size)=true then _ else _) _ _ s
 rw[if_neg (by simp)]
 have ep:((X7 items.size).filterMap λ(m:Nat)=>items[(((items.size:Int)-1)+(m:Int)*(-1)).toNat]?).toArray=items.toList.reverse.toArray:=by
  congr 1
  have:=s_ items.toList;rw[Yc]at this;rw[<- this];refine j4 λk hk=>?_;have GI:=YH.mp hk;rw[YR,show (((items.size:Int)-1)+(k:Int)*(-1)).toNat=items.size-1-k by lia]
 rw[ep]
 first
  |exact XM (m:=aah _) (Y8 (XT ⟨_,rfl,XT h⟩) yd)
  |exact XM (m:=aah _) (Y8 (XM (XT (XT ⟨_,rfl,XT h⟩))) yd)
  |exact XM (XM (m:=aah _) (Y8 (XT (XT ⟨_,rfl,XT h⟩)) yd))
  |exact XM (XM (m:=aah _) (Y8 (XT ⟨_,rfl,XT h⟩) yd))
end
end HT
namespace L2
open PySem PySem.Spec PySem.SeqAt PyProof.Rows
def Tq:D->Option D
 |.lst ds=>some (.lst ds.reverse)
 |.tup ds=>some (.tup ds.reverse)
 |_=>none
theorem ag.rev {P:XX}{w:X6}{W:Addr->Prop}{H:Hp}:∀{ds:List D} {vs:List V},ag P w W H ds vs->ag P w W H ds.reverse vs.reverse
 |[],_,h=>by rw[show _=[] from h];rfl
 |d::ds,_,⟨v,r,e,h1,h2⟩=>by
  subst e;rw[aaU,aaU];exact(ag.rev h2).append (.one h1)
theorem Vals.rev:∀{xs:List V} {us:List XO},Vals xs us->Vals xs.reverse us.reverse
 |_,_,.nil=>.nil
 |_,_,.cons r t=>by
  rw[aaU,aaU];exact(Vals.rev t).append (.cons r .nil)
section
variable {X:Cx}{e:Expr}{pos p2 p3 p4:Pos}{j:Nat}
theorem JO {te:TE}(he:PE X e te):PE X (.Subscript e (.Slice none none (some (.UnaryOp .USub (.Constant (.int 1) j p3) p4)) p2) pos) (λσ H Q=>te σ H λx H1=>(∃a xs,x=.ref a/\H1 a=some (.lst xs)/\∀p,H1 p=none->Q (.ref p) (upd H1 p (.lst xs.reverse)))\/(∃a xs,x=.ref a/\H1 a=some (.tup xs)/\∀p,H1 p=none->Q (.ref p) (upd H1 p (.tup xs.reverse)))):=by
 intro pins s σ H Q I h;refine Subscript_ (bu (he pins s σ H _ I h) λv s1 fJ=>?_);obtain⟨x,H1,I1,r1,q1⟩:=fJ;refine wpAny_Slice ?_;rw[evalPart_none];refine XT (XT ?_);rw[evalPart_some];refine bu (BZ (X:=X) (pos:=p4) vA (bb (i:=1) (j:=j) (pos:=p3)) pins s1 σ H1 (λv H'=>v=.int (-1)/\H'=H1) I1 ⟨1,rfl,rfl,rfl⟩) λu s3 iG=>?_;obtain⟨y,H3,I3,r3,ey,eH⟩:=iG;subst ey eH;obtain⟨tk,rfl⟩:=(show ∃t,u=Value.int (-1) t from r3)
 have I4:Inv X pins σ H3 {s3 with heap:=s3.heap.push {cls:=.type "slice",data:=.fields #[.none,.none,.int (-1) tk]}}:=I3.kept (t':=s3.toks) λb ob q=>XR _ q
 have Ij:(s3.heap.push {cls:=.type "slice",data:=.fields #[.none,.none,.int (-1) tk]}).IsSliceOf s3.heap.objs.size .none .none (.int (-1) tk):=Heap.IsSliceOf.new ..
 generalize R1:({s3 with heap:=s3.heap.push {cls:=.type "slice",data:=.fields #[.none,.none,.int (-1) tk]}}:XQ)=s4 at I4 ⊢
 have GB:s4.heap.IsSliceOf s3.heap.objs.size .none .none (.int (-1) tk):=by rw[<- R1];exact Ij
 have main:∃T id,typeLookup (.type T) "__getitem__" = pure (some (.builtin id))/\s4.TypeIs v T/\Ye (model X.prog X.w) X.A (getItem v (.ref s3.heap.objs.size)) (EP X pins σ Q) X.xe s4:=by
  rcases q1 with⟨a,xs,rfl,hx,q⟩|⟨a,xs,rfl,hx,q⟩
  ·cases (show v=Value.ref a from r1)
   obtain⟨its,r,ht,hz⟩:=I4.list (dv.of hx);have hlen:=r.length;refine⟨"list",_,aaP.lookup,ht.isList.typeIs,?_⟩;refine aaW ht.isList GB .none .none (.int (-1) tk) (by simp) ?_ (by rw[Yb] <;> lia)
   rw[HT.iS];refine⟨.ref s4.heap.objs.size,_,I4.laid (t':=s4.toks) (o:=.lst xs.reverse) (λb ob q=>XR _ q) (XS _) ?_,rfl,q _ (I4.a5.fresh (XS _))⟩;exact⟨by rw[aaD];lia,_,0,by simpa using Vals.rev r,X_ _ rfl⟩
  ·cases (show v=Value.ref a from r1)
   obtain⟨its,r,ht,hz⟩:=I4.tuple (kh.of hx);have hlen:=r.length;refine⟨"tuple",_,aar.lookup,ht.typeIs,?_⟩;refine HT.jX ht GB ?_ (by rw[Yb] <;> lia)
   refine⟨.ref s4.heap.objs.size,_,I4.laid (t':=s4.toks) (o:=.tup xs.reverse) (λb ob q=>XR _ q) (XS _) ?_,rfl,q _ (I4.a5.fresh (XS _))⟩;exact⟨by rw[aaD];lia,_,by simpa using Vals.rev r,IsTup.new _ _⟩
 obtain⟨T,id,hT,ht,hg⟩:=main;show Ye (model X.prog X.w) X.A (subscriptTail e (.Slice none none (some (.UnaryOp .USub (.Constant (.int 1) j p3) p4)) p2) v (.ref s3.heap.objs.size)) (EP X pins σ Q) X.xe s4;exact tail_any (ops:=[v,.ref s3.heap.objs.size]) ht hT hg (by with_unfolding_all rfl)
end
end L2
namespace L2.Q
open PySem PySem.Spec PySem.SeqAt PyProof.Rows
def allB (β:aL):AL:=β.map λb=>match b with|some (.val _ d)=>some d|some (.own d)=>some d|_=>none
def IZ (β:aL):AL:=β.map λb=>match b with|some (.val _ d)=>some d|_=>none
section
variable {P:XX}{w:X6}{C:Cfg}{σ:St}{H:Hp}{β:aL}{own:Nat->List Addr}{i:Nat}
theorem bf.QX (s:bf P w C σ H β own):Mr P w (λ_=>False) σ H (allB β):=⟨λa z=>z.elim,λi d e=>by
 unfold allB at e;rw[X5]at e;cases q:β[i]? with
 |none=>rw[q]at e;cases e
 |some x =>
  rw[q]at e;cases x with
  |none=>cases e
  |some x =>
   cases x with
   |val y d'=>cases e;obtain⟨v,h1,h2⟩:=s.val i y d q;exact⟨v,h1,h2.aQ λ_ z=>z.elim⟩
   |own d'=>cases e;obtain⟨v,h1,h2,_⟩:=s.ow i d q;exact⟨v,h1,h2.rep λ_ _ z=>z⟩
   |hand ok=>cases e
   |shl y d=>cases e⟩
theorem bf.QW (s:bf P w C σ H β own):Mr P w (av C (Wn own) .old) σ H (IZ β):=⟨s.AK .old,λi d e=>by
 unfold IZ at e;rw[X5]at e;cases q:β[i]? with
 |none=>rw[q]at e;cases e
 |some x =>
  rw[q]at e;cases x with
  |none=>cases e
  |some x =>
   cases x with
   |val y d'=>cases e;obtain⟨v,h1,h2⟩:=s.val i y d q;exact⟨v,h1,h2.aQ λa z=>by cases y <;> first|exact .inl z|exact .inl (.inl z)⟩
   |own d'=>cases e
   |hand ok=>cases e
   |shl y d=>cases e⟩
end
section
variable {X:Cx}{C:Cfg}{e tg it:Expr}{φ:LY}{ι:LX}
theorem eQ (h:PV X e φ):PQ X C true e (λβ R=>φ (allB β) λd=>d.flat=true/\R d .own β) :=
 ⟨λβ R R' k q=>h.mono _ _ _ (λd q=>⟨q.1,k _ _ _ q.2⟩) q,h.pe.pre λσ H Q fy=>by obtain⟨β,own,s,q⟩:=fy;exact tD.of h s.QX q λd v H1 jU s1 r1=>by obtain⟨f,q⟩:=jU;exact q v H1 own ((Out.refl s true).same s1) (KV.flat f r1)⟩
theorem FF (h:U7 X tg it ι):o8 X C true tg it (λβ R=>ι (IZ β) λds=>R ds .old β) :=
 ⟨λβ R R' k q=>h.mono _ _ _ (λd q=>k _ _ _ q) q,h.pi.pre λσ H R rG=>by obtain⟨β,own,s,q⟩:=rG;exact⟨_,_,s.QW,h.mono _ _ _ (λds q J H' s1 it=>q J H' own ((Out.refl s true).same s1) it) q⟩⟩
end
section
variable {P:XX}{w:X6}{C:Cfg}{σ:St}{H:Hp}{β:aL}{own:Nat->List Addr}{i:Nat}{ok:List Int->Prop}{ns:List Int}
theorem pH:∀{ns:List Int} {vs:List V} {A:List Addr},aE P w H (ns.map D.int) vs A->vs=ns.map V.int/\A=[]
 |[],_,_,h=>h
 |n::ns,_,_,⟨v,r,A1,A2,e,eA,h1,h2⟩=>by
  obtain⟨rfl,rfl⟩:=pH h2;obtain⟨rfl,rfl⟩:=h1;exact⟨e,by rw[eA];rfl⟩
theorem bf.toHand (s:bf P w C σ H β own)(e:β[i]?=some (some (.own (.lst (ns.map D.int)))))(ho:ok ns)(io:∀b,¬ C.IO b):bf P w C σ H (β.set i (some (.hand ok))) own:=by
 obtain⟨v,h1,⟨a,vs,A',rfl,h2,h3,h4⟩,h5⟩:=s.ow i _ e;obtain⟨rfl,rfl⟩:=pH h4;refine⟨by simp[s.len],λj y d q=>?_,λj d q=>?_,λj AD q=>?_,s.dm,s.hV,s.i_,s.kp,s.fj,λj y d q=>by
  by_cases aA:i=j
  ·subst aA;obtain⟨e',_⟩:=aT q;cases e'
  ·rw[aS aA]at q;exact s.shl j y d q⟩
 ·by_cases aA:i=j
  ·subst aA;obtain⟨e',_⟩:=aT q;cases e'
  ·rw[aS aA]at q;exact s.val j y d q
 ·by_cases aA:i=j
  ·subst aA;obtain⟨e',_⟩:=aT q;cases e'
  ·rw[aS aA]at q;exact s.ow j d q
 ·by_cases aA:i=j
  ·subst aA;obtain⟨e',_⟩:=aT q;cases e';exact⟨a,ns,h1,h2,ho,h3,.inl io⟩
  ·rw[aS aA]at q;exact s.jV j AD q
end
section
variable {X:Cx}{C:Cfg}{e:Expr}{φ:aB}{p:Bool}{i:Nat}{x:Str}{pos pos' px ap cp:Pos}{ok:List Int->Prop}
theorem FN (ok:List Int->Prop)(SH:∀b,¬ C.IO b)(he:∀U,PQ X (C.u U) p e φ)(hN:X.N.Nodup)(hi:X.N[i]?=some x:=by rfl)(hx:Loc X.env.scope x:=by first|exact .inl rfl|exact .inr rfl)
  (hs:Zj e (some (.Name x pos')) pos.line X.env=pure false:=by rfl) (hf:X.fn x=true\/X.env.scope.names.lookup x=some .local:=by first|exact .inl rfl|exact .inr rfl|assumption) :
  PB X C (.Assign [.Name x pos'] e pos) (λE β=>φ β λd k β'=>C8 k d/\i<β'.length/\∃ns:List Int,d=.lst (ns.map D.int)/\ok ns/\E.nx (β'.set i (some (.hand ok)))):=by
 have B:=cE (C:=C) (i:=i) (pos:=pos) (pos':=pos') he hN hi hx hs hf;refine⟨λE E' β l q=>(he λ_=>False).mono _ _ _ (λd k β' uo=>by obtain⟨f,h,ns,e,o,q⟩:=uo;exact⟨f,h,ns,e,o,l.nx _ q⟩) q,B.ps.pre λDe σ H fJ=>?_⟩
 obtain⟨Z,E,β,sb,q,AD⟩:=fJ;refine⟨Z,{E with nx:=λβ'=>∃(ns:List Int) (β2:aL),i<β2.length/\β'=β2.set i (some (.own (.lst (ns.map D.int))))/\ok ns/\E.nx (β2.set i (some (.hand ok)))},β,sb,(he λ_=>False).mono _ _ _ (λd k β' GD=>by obtain⟨f,h,ns,e,o,q⟩:=GD;exact⟨f,ns,β',h,by rw[e],o,q⟩) q,⟨λσ' H' β' vI iG=>?_,AD.rt,AD.bk,AD.ct⟩⟩
 obtain⟨ns,β2,hl,e,o,q⟩:=iG;subst e;obtain⟨own,s,n⟩:=vI;have:=s.toHand (i:=i) (ok:=ok) (get_set hl) o SH;rw[ZY]at this;exact AD.nx _ _ _ ⟨own,this,n⟩ q
theorem bf.putL {P:XX}{w:X6}{σ:St}{H:Hp}{β:aL}{own:Nat->List Addr}{U U2:Addr->Prop}{ds ds':List D}{vs':List V}{a:Addr}{vs:List V}{A A':List Addr}(s:bf P w (C.u U) σ H β own)(e:β[i]?=some (some (.own (.lst ds))))(h1:σ[i]?=some (some (.ref a)))(h2:H a=some (.lst vs))(h3:own i=a::A)
  (r:aE P w H ds' vs' A') (nd:A'.Nodup) (hA:∀c∈A',c∈A\/(C.H0 c=none/\¬ Wn own c/\U c)) (hU:∀a,U2 a->U a) (S9:∀c∈A',c∉A->¬ U2 c) :
  bf P w (C.u U2) σ (upd H a (.lst vs')) (β.set i (some (.own (.lst ds')))) (aC own i (a::A'))/\∀c∈a::A',c∈own i\/(C.H0 c=none/\¬ Wn own c/\U c):=by
 have ha:a∈own i:=by rw[h3];simp
 have nA:a∉A:=by have:=s.i_ i;rw[h3]at this;exact(Yj.mp this).1
 have na:∀c∈A',c≠a:=λc hc z=>by
  subst z;rcases hA c hc with z|z
  ·exact nA z
  ·exact z.2.1 ⟨i,ha⟩
 have kt:∀b xs,H b=some (.tup xs)->upd H a (.lst vs') b=some (.tup xs):=λb xs z=>by rw[ao (λz'=>by rw[z',h2]at z;cases z)];exact z
 have UX:∀c∈a::A',c∈own i\/(C.H0 c=none/\¬ Wn own c/\U c):=λc hc=>by
  rcases XU.mp hc with rfl|hc
  ·exact .inl ha
  ·exact(hA c hc).imp (λz=>by rw[h3];simp[z]) id
 refine⟨s.Fu e h1 ha ⟨a,vs',A',rfl,ai,rfl,r.keep kt λc hc oc ec=>by rw[ao (na c hc)];exact ec⟩ (Yj.mpr ⟨λz=>na a z rfl,nd⟩) UX hU (λc hc z=>?_),UX⟩
 rcases XU.mp hc with rfl|hc
 ·exact(s.dm i c ha).2.2.2 (hU c z)
 ·by_cases q:c∈A
  ·exact(s.dm i c (by rw[h3];simp[q])).2.2.2 (hU c z)
  ·exact S9 c hc q z
theorem tS {own:Nat->List Addr}{i:Nat}{A':List Addr}(h:∀c∈A',c∈own i):∀c,Wn (aC own i A') c->Wn own c:=λc Dk=>by
 obtain⟨j,hj⟩:=Dk
 by_cases aA:i=j
 ·rw[<- aA,os_eq]at hj;exact⟨i,h c hj⟩
 ·rw[aZ aA]at hj;exact⟨j,hj⟩
theorem BS {P:XX}{w:X6}{H:Hp}{own:Nat->List Addr}{Z:Hp×(Addr->Prop)}{d:D}{v:V}{A:List Addr}(r:Own P w H d v A)(h:∀c∈A,¬ Wn own c/\C.H0 c=none):KV P w C Z own H (sk .dY d) d v:=by
 have q:az P w (av C (Wn own) .dY) H d v:=r.rep λc hc z=>z.elim (h c hc).1 λz=>z (h c hc).2;cases d with
 |int i=>exact KV.flat rfl q
 |bl i=>exact KV.flat rfl q
 |cj=>exact KV.flat rfl q
 |str i=>exact KV.flat rfl q
 |_=>exact q
theorem aE.concat {P:XX}{w:X6}{H:Hp}{ds:List D}{d:D}{vs:List V}{A:List Addr}(h:aE P w H (ds++[d]) vs A):∃us v A1 A2,vs=us++[v]/\A=A1++A2/\aE P w H ds us A1/\Own P w H d v A2:=by
 obtain⟨v,A1,A2,A3,g1,g2,g3,g4,g5⟩:=h.split (i:=ds.length) (d:=d) (by simp)
 rw[List.take_left]at g3;have e3:aE P w H [] (vs.drop (ds.length+1)) A3:=by simpa using g5
 have hl:=h.length;rw[Yg,List.length_singleton]at hl;refine⟨vs.take ds.length,v,A1,A2,?_,by rw[g2,e3.2,ZJ],g3,g4⟩
 have iH:ds.length<vs.length:=by lia
 have e1:vs=vs.take ds.length++vs.drop ds.length:=(List.take_append_drop _ _).symm;rw[Zi iH,e3.1]at e1;have:vs[ds.length]=v:=by
  have:=XY iH;rw[g1]at this;exact(Yv this).symm
 rw[this]at e1;exact e1
theorem JJ (hn:Nm X i x:=by exact vY)
  (e9:Z3 (.Name x px) "pop" X.env (eval (.Name x px) X.env)=eval (.Name x px) X.env:=by rfl) (eZ:(ap.endLine==cp.line)=true:=by rfl) :
  PQ X C false (.Call (.Attribute (.Name x px) "pop" ap) [] [] cp) (λβ R=>∃ds d,β[i]?=some (some (.own (.lst (ds++[d]))))/\R d (sk .dY d) (β.set i (some (.own (.lst ds))))) :=
 ⟨λβ R R' k GC=>by obtain⟨ds,d,h1,q⟩:=GC;exact⟨ds,d,h1,k _ _ _ q⟩,(B4 (apos:=ap) (cpos:=cp) PySem.F.plainAttrs_list PySem.F.slot_list_pop PySem.F.type_list_pop Kh (eR (pos:=px) hn) e9 eZ).pre λσ H Q wt=>by
  obtain⟨β,own,s,ds,d,hb,q⟩:=wt;obtain⟨a,vs,A,h1,h2,h3,h4⟩:=s.m8 hb;obtain⟨us,v,A1,A2,rfl,rfl,g3,g4⟩:=h4.concat;have nd:=s.i_ i;rw[h3]at nd;obtain⟨CH,Gb,H9⟩:=YK.mp (Yj.mp nd).2;obtain⟨s2,hA⟩:=s.putL (C:=C) (U:=C.U) (U2:=C.U) (ds':=ds) (vs':=us) (A':=A1) hb h1 h2 h3 g3 CH (λc hc=>.inl (by simp[hc])) (λ_ z=>z) (λc hc n=>absurd (by simp[hc]) n)
  have h0:∀c∈own i,C.H0 c=none:=by obtain⟨_,_,_,h⟩:=s.ow i _ hb;exact h
  have kt:∀b xs,H b=some (.tup xs)->upd H a (.lst us) b=some (.tup xs):=λb xs z=>by rw[ao (λz'=>by rw[z',h2]at z;cases z)];exact z
  have na:∀c∈A2,c≠a:=λc hc z=>(Yj.mp nd).1 (by rw[<- z];simp[hc])
  have le:∀c,Wn (aC own i (a::A1)) c->Wn own c:=tS λc hc=>by rw[h3];rcases XU.mp hc with rfl|hc <;> simp[*]
  refine⟨.ref a,h1,.inl ⟨rfl,_,dv.of h2⟩,a,_,v,rfl,rfl,h2,by simp,?_⟩
  rw[List.dropLast_concat];refine q v _ _ ⟨s2,?_,λz=>(nomatch z),le⟩ (BS (C:=C) (g4.keep kt λc hc oc ec=>by rw[ao (na c hc)];exact ec) λc hc=>⟨λ⟨j,hj⟩=>?_,h0 c (by rw[h3];simp[hc])⟩)
  ·have u:=Sn.upd (Z:=(H,Wn own)) (o':=.lst us) (Sn.refl (H:=H) (W:=Wn own)) h2 (λxs z=>by cases z) ⟨i,by rw[h3];simp⟩
   exact⟨λb z=>.inl (le b z),u.k,u.d⟩
  ·by_cases aA:i=j
   ·rw[<- aA,os_eq]at hj;rcases XU.mp hj with rfl|hj
    ·exact na _ hc rfl
    ·exact H9 _ hj _ hc rfl
   ·rw[aZ aA]at hj;exact aA (s.hV i j c (by rw[h3];simp[hc]) hj)⟩
end
section
variable {X:Cx}{C:Cfg}{e k:Expr}{φ:aB}{p:Bool}{i:Nat}{x:Str}{pos px ap cp:Pos}
theorem y_ {n:Nat}{j:Int}{k:Nat}(h:zM n j=some k):seqIndex? j n=some k:=by
 unfold zM at h;unfold seqIndex?
 by_cases h0:0<=j
 ·rw[if_pos h0]at h
  by_cases h1:j<n
  ·rw[if_pos h1]at h;cases h;have e:(if j<0 then j+n else j)=j:=if_neg (by lia)
   simp only[e];simp[h0,h1]
  ·rw[if_neg h1]at h;cases h
 ·rw[if_neg h0]at h
  by_cases h1:-(n:Int)<=j
  ·rw[if_pos h1]at h;cases h;have e:(if j<0 then j+n else j)=j+n:=if_pos (by lia)
   simp only[e];have:0<=j+n/\j+n<n:=by lia
   simp[this]
  ·rw[if_neg h1]at h;cases h
theorem lB {α:Type}:∀(l:List α) (j:Nat),l.eraseIdx j=l.take j++l.drop (j+1):=λl j=>List.eraseIdx_eq_take_drop_succ l j
theorem BP (he:PQ X C p e φ)(hn:Nm X i x:=by exact vY)
  (e9:Z3 (.Name x px) "pop" X.env (eval (.Name x px) X.env)=eval (.Name x px) X.env:=by rfl)
  (rJ:((ZA cp (X2 [e] X.env)).all (λx=>!x.1)&&(backToKw cp (keywordEach [] X.env)).all (λx=>x.1.isSome)&&decide ([e].length+([]:List aaV).length+(if ([]:List aaV).isEmpty then 0 else 1)<30))=true:=by rfl)
  (eZ:(ap.endLine==cp.line)=true:=by rfl) (hs:X2 [e] X.env=(false,eval e X.env)::X2 [] X.env:=by rfl) (gx:(ZA cp (X2 [] X.env)).any (·.1)=false:=by rfl) :
  PQ X C false (.Call (.Attribute (.Name x px) "pop" ap) [e] [] cp) (λβ R=>(∃ds,β[i]?=some (some (.own (.lst ds))))/\φ β λkd _ β'=>∃(ds:List D) (j:Int) (m:Nat) (d:D),kd=.int j/\β'[i]?=some (some (.own (.lst ds)))/\-(2 ^ 63)<=j/\j<2 ^ 63/\zM ds.length j=some m/\ds[m]?=some d/\R d (sk .dY d) (β'.set i (some (.own (.lst (ds.eraseIdx m)))))) :=
 ⟨λβ R R' k fy=>by obtain⟨h0,q⟩:=fy;exact⟨h0,he.mono _ _ _ (λkd _ β' jU=>by obtain⟨ds,j,m,d,h1,h2,h3,h4,h5,h6,q⟩:=jU;exact⟨ds,j,m,d,h1,h2,h3,h4,h5,h6,k _ _ _ q⟩) q⟩,
  (xD (apos:=ap) (cpos:=cp) PySem.F.plainAttrs_list PySem.F.slot_list_pop PySem.F.type_list_pop CJ (eR (pos:=px) hn) (aW he.pe b_ hs) e9 rJ eZ hs gx).pre λσ H Q rG=>by
  obtain⟨β,own,s0,⟨U1,AH⟩,q⟩:=rG;obtain⟨a0,Ve,A0,z1,z2,z3,z4⟩:=s0.m8 AH;refine⟨.ref a0,z1,.inl ⟨rfl,_,dv.of z2⟩,tQ.of he s0 q λkd kk β' kv H1 au fJ o r=>?_⟩;obtain⟨ds,j,m,d,e1,hb,j1,j2,hj,hm,q⟩:=fJ;subst e1;cases r.rep;have s:=o.sq;obtain⟨a,vs,A,h1,h2,h3,h4⟩:=s.m8 hb;rw[z1]at h1;cases h1;obtain⟨v,A1,A2,A3,g1,rfl,g3,g4,g5⟩:=h4.split hm;have nd:=s.i_ i;rw[h3]at nd;obtain⟨CH,Gb,H9⟩:=YK.mp (Yj.mp nd).2;obtain⟨RE,RD,P_⟩:=YK.mp Gb;have ow:aE X.prog X.w H1 (ds.eraseIdx m) (vs.eraseIdx m) (A1++A3):=by rw[lB,lB];exact g3.append g5
  have RC:(A1++A3).Nodup:=YK.mpr ⟨CH,RD,λx hx y hy=>H9 x hx y (Yn _ hy)⟩;obtain⟨s2,hA⟩:=s.putL (C:=C) (U:=C.U) (U2:=C.U) (ds':=ds.eraseIdx m) (vs':=vs.eraseIdx m) (A':=A1++A3) hb z1 h2 h3 ow RC (λc hc=>.inl (by rcases XZ.mp hc with hc|hc <;> simp[hc])) (λ_ z=>z) (λc hc n=>absurd (by rcases XZ.mp hc with hc|hc <;> simp[hc]) n)
  have h0:∀c∈au i,C.H0 c=none:=by obtain⟨_,_,_,h⟩:=s.ow i _ hb;exact h
  have kt:∀b xs,H1 b=some (.tup xs)->upd H1 a0 (.lst (vs.eraseIdx m)) b=some (.tup xs):=λb xs z=>by rw[ao (λz'=>by rw[z',h2]at z;cases z)];exact z
  have na:∀c∈A2,c≠a0:=λc hc z=>(Yj.mp nd).1 (by rw[<- z];simp[hc])
  have le:∀c,Wn (aC au i (a0::(A1++A3))) c->Wn au c:=tS λc hc=>by
   rw[h3];rcases XU.mp hc with rfl|hc
   ·simp
   ·rcases XZ.mp hc with hc|hc <;> simp[hc]
  refine⟨a0,vs,j,m,v,rfl,rfl,h2,j1,j2,by rw[h4.length];exact y_ hj,g1,?_⟩
  have u:=Sn.upd (Z:=(H1,Wn au)) (o':=.lst (vs.eraseIdx m)) (Sn.refl (H:=H1) (W:=Wn au)) h2 (λxs z=>by cases z) ⟨i,by rw[h3];simp⟩
  refine q v _ _ ⟨s2,o.sn.trans ⟨λb z=>.inl (le b z),u.k,u.d⟩,λz=>(nomatch z),λc z=>o.le c (le c z)⟩ (BS (C:=C) (g4.keep kt λc hc oc ec=>by rw[ao (na c hc)];exact ec) λc hc=>⟨λiG=>?_,h0 c (by rw[h3];simp[hc])⟩)
  obtain⟨j',AG⟩:=iG
  by_cases aA:i=j'
  ·rw[<- aA,os_eq]at AG;rcases XU.mp AG with rfl|AG
   ·exact na _ hc rfl
   ·rcases XZ.mp AG with AG|AG
    ·exact H9 _ AG _ (Yq _ hc) rfl
    ·exact P_ _ hc _ AG rfl
  ·rw[aZ aA]at AG;exact aA (s.hV i j' c (by rw[h3];simp[hc]) AG)⟩
theorem Fg {Z:Hp×(Addr->Prop)}{H:Hp}{own:Nat->List Addr}{a:Addr}{o oa:HO}{A':List Addr}{U:Addr->Prop}(n:Sn Z H (Wn own))(m:∀a,U a->Z.1 a=none)(h2:H a=some oa)(ht:∀xs,oa≠.tup xs)(ha:Wn own a)(hA:∀c∈A',c∈own i\/(C.H0 c=none/\¬ Wn own c/\U c)):Sn Z (upd H a o) (Wn (aC own i A')) :=
 iX n m ha ⟨oa,h2,ht⟩ hA
theorem zp (he:PQ X C.z p e φ)(hn:Nm X i x:=by exact vY)
  (e9:Z3 (.Name x px) "extend" X.env (eval (.Name x px) X.env)=eval (.Name x px) X.env:=by rfl)
  (rJ:((ZA cp (X2 [e] X.env)).all (λx=>!x.1)&&(backToKw cp (keywordEach [] X.env)).all (λx=>x.1.isSome)&&decide ([e].length+([]:List aaV).length+(if ([]:List aaV).isEmpty then 0 else 1)<30))=true:=by rfl)
  (eZ:(ap.endLine==cp.line)=true:=by rfl) (hs:X2 [e] X.env=(false,eval e X.env)::X2 [] X.env:=by rfl) (gx:(ZA cp (X2 [] X.env)).any (·.1)=false:=by rfl)
  (oq:Zj (.Call (.Attribute (.Name x px) "extend" ap) [e] [] cp) none pos.line X.env=pure false:=by rfl) :
  PB X C (.Expr (.Call (.Attribute (.Name x px) "extend" ap) [e] [] cp) pos) (λE β=>(∃ds,β[i]?=some (some (.own (.lst ds))))/\φ β λd _ β'=>∃ds es,d=.lst es/\D.cf es=true/\β'[i]?=some (some (.own (.lst ds)))/\ds.length+es.length<=X3/\E.nx (β'.set i (some (.own (.lst (ds++es)))))):=by
 refine⟨λE E' β l GD=>by obtain⟨h1,q⟩:=GD;exact⟨h1,he.mono _ _ _ (λd k β' N8=>by obtain⟨ds,es,h1,h2,h3,h4,q⟩:=N8;exact⟨ds,es,h1,h2,h3,h4,l.nx _ q⟩) q⟩,
  (lT (pos:=pos) (xD (apos:=ap) (cpos:=cp) PySem.F.plainAttrs_list PySem.F.slot_list_extend PySem.F.type_list_extend zB (eR (pos:=px) hn) (aW he.pe b_ hs) e9 rJ eZ hs gx) oq).pre λD σ H ⟨Z,E,β,⟨own,s0,n⟩,⟨⟨U1,AH⟩,q⟩,ok⟩=>?_⟩
 obtain⟨a0,Ve,A0,z1,z2,z3,z4⟩:=s0.m8 AH;refine⟨.ref a0,z1,.inl ⟨rfl,_,dv.of z2⟩,tQ.of he s0 q λd kk β' v H1 au oK o r=>?_⟩;obtain⟨ds,es,e1,f,hb,hl,q⟩:=oK;subst e1;obtain⟨b,us,rfl,Ir,_,rb⟩:=r.rep;obtain⟨a,vs,A,h1,h2,h3,h4⟩:=o.sq.m8 hb;rw[z1]at h1;cases h1;have nd:=o.sq.i_ i;rw[h3]at nd;obtain⟨s2,hA⟩:=o.sq.putL (C:=C) (U:=λ_=>False) (U2:=λ_=>False) (ds':=ds++es) (vs':=vs++us) (A':=A) hb z1 h2 h3 (by simpa using h4.append (iq f rb)) (Yj.mp nd).2 (λc hc=>.inl hc) (λ_ z=>z) (λc hc n=>absurd hc n)
 exact⟨a0,b,vs,us,rfl,rfl,h2,Ir,by rw[h4.length,rb.length];exact hl,ok.nx _ _ _ ⟨_,s2,Fg (n.trans o.sn) (λ_ z=>z.elim) h2 (λxs z=>by cases z) ⟨i,by rw[h3];simp⟩ hA⟩ q⟩
end
end L2.Q
namespace L2
open PySem PySem.Spec PySem.SeqAt PyProof.Rows
section
end
namespace Q
section
variable {P:XX}{w:X6}{C:Cfg}{σ:St}{H:Hp}{β:aL}{own:Nat->List Addr}{lk:List (Option Nat)}{a:Addr}
theorem bf.wH {o:HO}(ho:∀xs,o≠.tup xs)(s:bf P w C σ H β own)(ha:H a=none)(inj:∀(i i' j:Nat),lk[i]?=some (some j)->lk[i']?=some (some j)->i=i'):
  bf P w (C.u λc=>c=a) (b8 lk σ) (upd H a o) (b5 lk β) (bF lk β own):=by
 have h0:C.H0 a=none:=Yi λz=>s.fj a z ha;have q:=(s.enter ha inj).Fm (o:=o) ai (λxs z=>by cases z) h0
 have e:upd (upd H a (.lst [])) a o=upd H a o:=by
  funext b
  by_cases hb:b=a
  ·rw[hb,ai,ai]
  ·rw[ao hb,ao hb,ao hb]
 rwa [e]at q
end
section
end
end Q
end L2
namespace L2.Q
open PySem PySem.Spec PySem.SeqAt PyProof.Rows
abbrev NJ (l:Bool)(ds:List D):D:=match l with|true=>.lst ds|false=>.tup ds
section
variable {P:XX}{w:X6}{H:Hp}{A:List Addr}{v:V}{ds:List D}{l:Bool}
theorem tT {m:Nat}{es:List D}(r:Own P w H (NJ l ds) v A)(nd:A.Nodup)(hm:ds[m]?=some (.lst es)):∃a vs c us B,v=.ref a/\H a=some (match l with|true=>.lst vs|false=>.tup vs)/\vs.length=ds.length/\vs[m]?=some (.ref c)/\H c=some (.lst us)/\c∈A/\aE P w H es us B/\(∀x∈B,x∈A/\x≠c)/\B.Nodup /\
  ∀dC xf B',aE P w H dC xf B'->B'.Nodup->(∀x∈B',x∈B\/x∉A)->(∀x∈B',x≠c)->∃A',Own P w (upd H c (.lst xf)) (NJ l (ds.set m (.lst dC))) v A'/\A'.Nodup/\∀x∈A',x∈A\/x∈B':=by
 have core:∀{vs:List V} {A:List Addr},A.Nodup->aE P w H ds vs A->∃c us B,vs[m]?=some (.ref c)/\H c=some (.lst us)/\c∈A/\aE P w H es us B/\(∀x∈B,x∈A/\x≠c)/\B.Nodup /\
   ∀dC xf B',aE P w H dC xf B'->B'.Nodup->(∀x∈B',x∈B\/x∉A)->(∀x∈B',x≠c)->∃A',aE P w (upd H c (.lst xf)) (ds.set m (.lst dC)) vs A'/\A'.Nodup/\(∀x∈A',x∈A\/x∈B'):=λ{vs A} nd os=>by
  have hl:=os.length;have Wl:m<ds.length:=(X0.mp hm).1;obtain⟨u,A1,A2,A3,g1,rfl,g3,⟨c,us,B,rfl,h2,rfl,h4⟩,g5⟩:=os.split hm;obtain⟨CH,Gb,H9⟩:=YK.mp nd;obtain⟨RE,RD,P_⟩:=YK.mp Gb;have VW:=(Yj.mp RE).1;refine⟨c,us,B,g1,h2,by simp,h4,λx hx=>⟨by simp[hx],λz=>VW (by rw[<- z];exact hx)⟩,(Yj.mp RE).2,λdC xf B' o' n' pV uv=>?_⟩
  have kt:∀b xs,H b=some (.tup xs)->upd H c (.lst xf) b=some (.tup xs):=λb xs z=>by rw[ao (λz'=>by rw[z',h2]at z;cases z)];exact z
  have n1:∀x∈A1,x≠c:=λx hx z=>H9 x hx c (by simp) z
  have n3:∀x∈A3,x≠c:=λx hx z=>P_ c (by simp) x hx z.symm
  have off:∀x∈B',x∉A1/\x∉A3:=λx hx=>by
   rcases pV x hx with z|z
   ·exact⟨λq=>H9 x q x (by simp[z]) rfl,λq=>P_ x (by simp[z]) x q rfl⟩
   ·exact⟨λq=>z (by simp[q]),λq=>z (by simp[q])⟩
  have UL:m<vs.length:=by lia
  have ev:vs=vs.take m++V.ref c::vs.drop (m+1):=by
   have e1:vs=vs.take m++vs.drop m:=(List.take_append_drop _ _).symm;rw[Zi UL]at e1;have:vs[m]=V.ref c:=by
    have:=XY UL;rw[g1]at this;exact(Yv this).symm
   rwa [this]at e1
  refine⟨A1++((c::B')++A3),?_,YK.mpr ⟨CH,YK.mpr ⟨Yj.mpr ⟨λz=>uv c z rfl,n'⟩,RD,λx hx y hy=>?_⟩,λx hx y hy z=>?_⟩,λx hx=>?_⟩
  ·rw[List.set_eq_take_append_cons_drop,if_pos Wl];have q:aE P w (upd H c (.lst xf)) (ds.take m++.lst dC::ds.drop (m+1)) (vs.take m++.ref c::vs.drop (m+1)) (A1++((c::B')++A3)) :=
    (g3.keep kt λx hx oc ec=>by rw[ao (n1 x hx)];exact ec).append ⟨.ref c,_,c::B',A3,rfl,rfl,⟨c,xf,B',rfl,ai,rfl,o'.keep kt λx hx oc ec=>by rw[ao (uv x hx)];exact ec⟩,g5.keep kt λx hx oc ec=>by rw[ao (n3 x hx)];exact ec⟩
   rw[<- ev]at q;exact q
  ·intro z;subst z;rcases XU.mp hx with rfl|hx
   ·exact n3 _ hy rfl
   ·exact(off x hx).2 hy
  ·subst z;rcases XZ.mp hy with hy|hy
   ·rcases XU.mp hy with rfl|hy
    ·exact n1 _ hx rfl
    ·exact(off x hy).1 hx
   ·exact H9 x hx x (by simp[hy]) rfl
  ·rcases XZ.mp hx with hx|hx
   ·exact .inl (by simp[hx])
   ·rcases XZ.mp hx with hx|hx
    ·rcases XU.mp hx with rfl|hx
     ·exact .inl (by simp)
     ·exact .inr hx
    ·exact .inl (by simp[hx])
 cases l with
 |true =>
  obtain⟨a,vs,A',rfl,h2,rfl,h4⟩:=r;obtain⟨na,VV⟩:=Yj.mp nd;obtain⟨c,us,B,q1,q2,q3,q4,q5,q6,q7⟩:=core VV h4;have ca:c≠a:=λz=>na (by rw[<- z];exact q3)
  refine⟨a,vs,c,us,B,rfl,h2,h4.length,q1,q2,by simp[q3],q4,λx hx=>⟨by simp[(q5 x hx).1],(q5 x hx).2⟩,q6,λdC xf B' o' n' pV uv=>?_⟩
  obtain⟨A2,g1,g2,g3⟩:=q7 dC xf B' o' n' (λx hx=>(pV x hx).imp id λz q=>z (by simp[q])) uv
  refine⟨a::A2,⟨a,vs,A2,rfl,by rw[ao ca.symm];exact h2,rfl,g1⟩,Yj.mpr ⟨λz=>?_,g2⟩,λx hx=>?_⟩
  ·rcases g3 a z with z|z
   ·exact na z
   ·rcases pV a z with z|z
    ·exact na (q5 a z).1
    ·exact z (by simp)
  ·rcases XU.mp hx with rfl|hx
   ·exact .inl (by simp)
   ·exact(g3 x hx).imp (λz=>by simp[z]) id
 |false =>
  obtain⟨a,vs,rfl,h2,h4⟩:=r;obtain⟨c,us,B,q1,q2,q3,q4,q5,q6,q7⟩:=core nd h4;have ca:a≠c:=λz=>by rw[z,q2]at h2;cases h2
  refine⟨a,vs,c,us,B,rfl,h2,h4.length,q1,q2,q3,q4,q5,q6,λdC xf B' o' n' pV uv=>?_⟩;obtain⟨A2,g1,g2,g3⟩:=q7 dC xf B' o' n' pV uv;exact⟨A2,⟨a,vs,rfl,by rw[ao ca];exact h2,g1⟩,g2,g3⟩
end
section
variable {X:Cx}{C:Cfg}{e k:Expr}{φ φk:aB}{i:Nat}{x:Str}{pos px kp ap cp:Pos}
theorem gZ (l:Bool)(he:∀U,PQ X (C.u U) true e φ)(hk:∀U,PQ X (C.u U) true k φk)(hn:Nm X i x:=by exact vY)
  (Wu:ma k:=by exact λ_ _=>rfl)
  (e9:Z3 (.Subscript (.Name x px) k kp) "append" X.env (eval (.Subscript (.Name x px) k kp) X.env)=eval (.Subscript (.Name x px) k kp) X.env:=by rfl)
  (rJ:((ZA cp (X2 [e] X.env)).all (λx=>!x.1)&&(backToKw cp (keywordEach [] X.env)).all (λx=>x.1.isSome)&&decide ([e].length+([]:List aaV).length+(if ([]:List aaV).isEmpty then 0 else 1)<30))=true:=by rfl)
  (eZ:(ap.endLine==cp.line)=true:=by rfl) (hs:X2 [e] X.env=(false,eval e X.env)::X2 [] X.env:=by rfl) (gx:(ZA cp (X2 [] X.env)).any (·.1)=false:=by rfl)
  (oq:Zj (.Call (.Attribute (.Subscript (.Name x px) k kp) "append" ap) [e] [] cp) none pos.line X.env=pure false:=by rfl) :
  PB X C (.Expr (.Call (.Attribute (.Subscript (.Name x px) k kp) "append" ap) [e] [] cp) pos) (λE β=>(∃d0,β[i]?=some (some (.own d0)))/\φk β λjd _ β1=>∃ds j m es,jd=.int j/\β1[i]?=some (some (.own (NJ l ds)))/\zM ds.length j=some m/\ds[m]?=some (.lst es)/\φ β1 λd kd β2=>C8 kd d/\β2[i]?=some (some (.own (NJ l ds)))/\es.length<X3/\E.nx (β2.set i (some (.own (NJ l (ds.set m (.lst (es++[d]))))))) ):=by
 refine⟨λE E' β l fy=>by obtain⟨q0,q⟩:=fy;exact⟨q0,(hk λ_=>False).mono _ _ _ (λjd _ β1 jU=>by obtain⟨ds,j,m,es,h1,h2,h3,h4,q⟩:=jU;exact⟨ds,j,m,es,h1,h2,h3,h4,(he λ_=>False).mono _ _ _ (λd kd β2 rG=>by obtain⟨g1,g2,g3,q⟩:=rG;exact⟨g1,g2,g3,l.nx _ q⟩) q⟩) q⟩,λpins s σ H De I fJ=>?_⟩
 obtain⟨Z,E,β,⟨own,sq,n⟩,⟨⟨d0,WA⟩,q⟩,ok⟩:=fJ;have ix:HA X (λx y H Q=>MW X.K x y H Q\/MV X.K x y H Q):=λvalue slice pins s σ H x y v u Q I rx ry h hs=>h.elim (λh=>fx value slice pins s σ H x y v u Q I rx ry h hs) λh=>C9 value slice pins s σ H x y v u Q I rx ry h hs;refine lT (pos:=pos) (xD (apos:=ap) (cpos:=cp) PySem.F.plainAttrs_list PySem.F.slot_list_append PySem.F.type_list_append kP (jH (pos:=kp) ix (eR (pos:=px) hn) (hk λa=>H a=none).pe Wu) (aW (he λa=>H a=none).pe b_ hs) e9 rJ eZ hs gx) oq pins s σ H De I ?_;have VB:=sq.iP (C:=C.z) (U:=λa=>H a=none) λa z=>z;obtain⟨v0,vj,_,_⟩:=sq.ow i d0 WA;refine⟨v0,vj,tQ.of (hk λa=>H a=none) VB q λjd kk β1 kv H1 au iG o r=>?_⟩;obtain⟨ds,j,m,es,e1,hb,hj,hm,q⟩:=iG;subst e1;cases r.rep;obtain⟨v,Ih,ow,h0⟩:=o.sq.ow i _ hb;rw[vj]at Ih;cases Ih;obtain⟨a,vs,c,us,B,rfl,q1,q2,q3,q4,q5,q6,q7,q8,q9⟩:=tT ow (o.sq.i_ i) hm;have U6:r_ vs j=some (.ref c):=by unfold r_;rw[q2,hj];exact q3
 have Uw:PD X.K "list" (.ref c) H1/\HI (tQ X (C.u λa=>H a=none) true φ) ME σ H1 λxs H2=>xn (.ref c) xs H2 λ_ H1=>De.nx σ H1:=by
  refine⟨.inl ⟨rfl,us,dv.of q4⟩,tQ.of (he λa=>H a=none) o.sq q λd kd β2 v2 H2 aU oK o2 r2=>?_⟩;obtain⟨f,O3,hl,q⟩:=oK;obtain⟨s2,e2⟩:=o2.pu rfl;obtain⟨v',UG,VP,XF⟩:=o2.sq.ow i _ O3;rw[vj]at UG;cases UG;obtain⟨a',vs',c',xf,B',ea,p1,p2,p3,p4,p5,p6,p7,p8,p9⟩:=tT VP (o2.sq.i_ i) hm;cases ea;have e3:=s2 _ _ q1;rw[p1]at e3;have ev:vs'=vs:=by cases l <;> (cases e3;rfl)
  subst ev;rw[q3]at p3;cases p3;have e4:=s2 _ _ q4;rw[p4]at e4;cases e4;obtain⟨A,r1,rn,r3⟩:=r2.fl f;have J_:∀x∈A,x∉aU i:=λx hx z=>(r3 x hx).2.1 ⟨i,z⟩;obtain⟨A',g1,g2,g3⟩:=p9 (es++[d]) (us++[v2]) (B'++A) (p6.append (aE.one r1)) (YK.mpr ⟨p8,rn,λx hx y hy z=>J_ y hy (by rw[<- z];exact(p7 x hx).1)⟩)
   (λx hx=>(XZ.mp hx).imp id (J_ x)) (λx hx z=>by
    rcases XZ.mp hx with hx|hx
    ·exact(p7 x hx).2 z
    ·exact J_ x hx (by rw[z];exact p5))
  have hA:∀x∈A',x∈aU i\/(C.H0 x=none/\¬ Wn aU x/\H x=none):=λx hx=>by
   rcases g3 x hx with z|z
   ·exact .inl z
   ·rcases XZ.mp z with z|z
    ·exact .inl (p7 x z).1
    ·exact .inr ⟨(r3 x z).2.2,(r3 x z).2.1,o.sn.free (r3 x z).1⟩
  exact⟨c,us,v2,rfl,rfl,p4,by rw[p6.length];exact hl,ok.nx _ _ _ ⟨_,o2.sq.putIn (C:=C) (U:=λa=>H a=none) O3 vj p5 g1 g2 hA,iX ((n.trans o.sn).trans o2.sn) (λb z=>n.free z) ⟨i,p5⟩ ⟨_,p4,λxs z=>by cases z⟩ hA⟩ q⟩
 cases l with
 |true=>exact .inl ⟨a,vs,j,.ref c,rfl,rfl,dv.of q1,U6,Uw⟩
 |false=>exact .inr ⟨a,vs,j,.ref c,rfl,rfl,kh.of q1,U6,Uw⟩
end
end L2.Q
namespace L2
open PySem PySem.Spec PySem.SeqAt PyProof.Rows
theorem RQ {b:Bool}{p q:Prop}(h1:b=true->p)(h2:b=false->q):(if b=true then p else q):=by
 cases b
 ·exact fN rfl (h2 rfl)
 ·exact l7 rfl (h1 rfl)
def k_ (a b c d:Int):Bool:=(decide (a<c)&&(decide (c<b)&&decide (b<d))) || (decide (c<a)&&(decide (a<d)&&decide (d<b)))
def k9:List Int->List Int->Bool
 |[a,b],[c,d]=>k_ a b c d
 |_,_=>false
def Pair (t:List Int):Prop:=∃a b,t=[a,b]
def nO:FD:=λds R=>∃t u,ds=[kD t,kD u]/\Pair t/\Pair u/\R (.bl (k9 t u))
theorem nO.mono:cA nO:=λds R R' k ⟨t,u,e,h1,h2,q⟩=>⟨t,u,e,h1,h2,k _ q⟩
def gU (t u:List Int):Bool:=t.any λi=>decide (i∈u)
def nG:FD:=λds R=>∃t u,ds=[kD t,kD u]/\Pair t/\R (.bl (gU t u))
theorem nG.mono:cA nG:=λds R R' k ⟨t,u,e,h1,q⟩=>⟨t,u,e,h1,k _ q⟩
def Pairs (ts:List (List Int)):Prop:=∀t∈ts,Pair t
structure Bs2 (mg:Str->Option XO):Prop extends Bs mg where
 Dd:mg "isinstance" = none
 tuple:mg "tuple" = none
 str:mg "str" = none
 bool:mg "bool" = none
 zip:mg "zip" = none
 enumerate:mg "enumerate" = none
theorem Es:YG "str" = some (.type "str"):=by decide +kernel
theorem o_ {ds:List D}{d:D}(h:d∈gL ds ds):∃a∈ds,d=.tup [a,a]:=by
 obtain⟨i,hi⟩:=List.mem_iff_getElem?.mp h;obtain⟨a,b,h1,h2,rfl⟩:=md hi;rw[h1]at h2;cases h2;exact⟨a,YJ h1,rfl⟩
inductive Hz:D->Prop
 |int (i:Int):Hz (.int i)
 |str (s:Str) (h:PyData.strOk s=true):Hz (.str s)
 |cj:Hz .cj
theorem pA (x:Str)(h:PyData.strOk x=true):(D.str x).pd.canLay0=true/\(D.str x).pd.depth<=1:=⟨by simp[D.pd,Y6,h],by simp[D.pd,ZK]⟩
theorem dz {d:D}{n:Nat}(h:d.pd.canLay0=true/\d.pd.depth<=n)(hn:n<=64:=by decide):Pd d d=some (.bl true):=Eg (dE h hn) (dE h hn) (eqv_refl _ h.1)
theorem hZ {d:D}{n:Nat}(h:d.pd.canLay0=true/\d.pd.depth<=n)(hn:n<=64:=by decide):Mk d d=some (.bl false):=wM (dE h hn) (dE h hn) (eqv_refl _ h.1)
end L2
namespace L2.Q
open PySem PySem.Spec PySem.SeqAt PyProof.Rows
structure js (X:Cx)(C:Cfg)(p:Bool)(ifs:List Expr)(τ:aN):Prop where
 mono:∀β R R',(∀d β,R d β->R' d β)->τ β R->τ β R'
 pt:qu X ifs (ib X C p τ)
theorem cN {X:Cx}{C:Cfg}:js X C true [] My:=⟨λ_ _ _ k h=>k _ _ h,BM⟩
theorem c8 {X:Cx}{C:Cfg}{p:Bool}{c:Expr}{τ:aN}(h:vp X C p c τ):js X C p [c] τ:=⟨h.mono,BL h⟩
section
variable {X:Cx}{C:Cfg}{lk:List (Option Nat)}{γ:bW}{τ:aN}{φ:aB}{T:List Nat}{pc pe pi:Bool}{scope:ZE}{N':List Str}{tg br elt:Expr}{ifs:List Expr}{ι:bz}{pos pos' gT:Pos}{y:Str}{i:Nat}
theorem CT (N':List Str)(lk:List (Option Nat))(L:eY X.env.scope.names X.N scope N' lk=true)(ji:N'.Nodup)(hc:X.calm=true)(hi:o8 X C pi tg br ι)
  (g9:∀U cl c s H ex,o9 (aq X scope N' cl c s H ex) (C.u U) tg T γ) (gI:∀U cl c s H ex,js (aq X scope N' cl c s H ex) (C.u U) pc ifs τ) (dJ:∀U cl c s H ex,PQ (aq X scope N' cl c s H ex) (C.u U) pe elt φ)
  (hT:T.all (λi=>match lk[i]? with|some (some _)=>false|_=>true)=true:=by rfl) (hs:∀x,Yp br X.env x=pure x:=by intro _;rfl):PQ X C (pi&&(pc&&pe)) (.ListComp elt [⟨tg,br,ifs,0⟩] scope pos) (tm lk ι γ τ φ) :=
 HQ (Links.of L) ji hT hc hi (λa=>g9 _) (λa cl c s H ex=>(gI _ cl c s H ex).pt) (gI (λ_=>False) [] 0 X.s₀ X.H₀ []).mono (λa=>dJ _) (g9 (λ_=>False) [] 0 X.s₀ X.H₀ []).mono (dJ (λ_=>False) [] 0 X.s₀ X.H₀ []).mono hs
theorem Bq (o:Bool)(N':List Str)(lk:List (Option Nat))(L:eY X.env.scope.names X.N scope N' lk=true)(ji:N'.Nodup)(hc:X.calm=true)(hi:∀U,o8 X (C.u U) pi tg br ι)
  (g9:∀U cl c s H ex,o9 (aq X scope N' cl c s H ex) (C.u U) tg T γ) (gI:∀U cl c s H ex,js (aq X scope N' cl c s H ex) (C.u U) pc ifs τ) (dJ:∀U cl c s H ex,PQ (aq X scope N' cl c s H ex) (C.u U) pe elt φ)
  (hN:X.N.Nodup) (hT:T.all (λi=>match lk[i]? with|some (some _)=>false|_=>true)=true:=by rfl) (hy:X.N[i]?=some y:=by rfl) (hx:Loc X.env.scope y:=by first|exact .inl rfl|exact .inr rfl) (hf:X.fn y=true\/X.env.scope.names.lookup y=some .local:=by first|exact .inl rfl|exact .inr rfl|assumption)
  (oq:Zj (.ListComp elt [⟨tg,br,ifs,0⟩] scope pos) (some (.Name y pos')) gT.line X.env=pure true:=by rfl)
  (wx:aaQ (.ListComp elt [⟨tg,br,ifs,0⟩] scope pos) X.env (assign (.Name y pos') X.env)=(do let _ <- comprehension (.ListComp elt [⟨tg,br,ifs,0⟩] scope pos) scope X.env (firstIterPos [⟨tg,br,ifs,0⟩] pos) (newList []) false (eval br X.env) (some (assign (.Name y pos') X.env));pure ()):=by first|rfl|exact aag ..)
  (hs:∀x,Yp br X.env x=pure x:=by intro _;rfl) :
  PB X C (.Assign [.Name y pos'] (.ListComp elt [⟨tg,br,ifs,0⟩] scope pos) gT) (λE β=>tm lk ι γ τ φ β λd _ β'=>E.nx (β'.set i (some (match o with|true=>.own d|false=>.val true d)))) :=
 Na (K:=λ_ _ _=>True) (Links.of L) ji hT hc hi g9 (λU cl c s H ex=>(gI U cl c s H ex).pt) (gI (λ_=>False) [] 0 X.s₀ X.H₀ []).mono dJ (g9 (λ_=>False) [] 0 X.s₀ X.H₀ []).mono (dJ (λ_=>False) [] 0 X.s₀ X.H₀ []).mono o hN hy hx hf oq wx hs
theorem bD:HA X (Bw X Ae NF):=λvalue slice pins s σ H x y v u Q I rx ry ⟨W,d1,d2,d,hd,r1,r2,e,q⟩ hs =>
 KN value slice pins s σ H x y v u Q I rx ry ⟨W,d1,d2,d,hd,r1,r2,e,λv H' s r=>q v H' s r λf=>az.flat f r⟩ hs
end
section
end
inductive Dp:Nat->D->Prop
 |leaf {n:Nat} {d:D} (h:Hz d):Dp n d
 |tup {n:Nat} {es:List D} (l:es.length<=1000) (h:∀x∈es,Dp n x):Dp (n+1) (.tup es)
 |lst {n:Nat} {es:List D} (l:es.length<=1000) (h:∀x∈es,Dp n x):Dp (n+1) (.lst es)
theorem Dp.int {n:Nat}{i:Int}:Dp n (.int i):=.leaf (.int i)
def jj (n:Nat):FD:=λds R=>∃d,ds=[d,d]/\Dp n d/\R (.bl true)
theorem jj.mono {n:Nat}:cA (jj n):=λds R R' k ⟨d,e,h,q⟩=>⟨d,e,h,k _ q⟩
theorem Ai (ns:List Int)(lo hi:Option Int):∃ms:List Int,uV (ns.map V.int) lo hi=ms.map V.int/\ms.length<=ns.length:=by
 refine⟨(ns.drop (HT.mI (ns.map V.int).length 0 lo)).take (HT.mI (ns.map V.int).length (ns.map V.int).length hi-HT.mI (ns.map V.int).length 0 lo),?_,?_⟩
 ·unfold uV;rw[List.map_take,List.map_drop]
 ·rw[Yy,aaw];lia
section
variable {P:XX}{w:X6}
theorem bY {W:Addr->Prop}{H:Hp}:∀ns:List Int,ag P w W H (ns.map D.int) (ns.map V.int)
 |[]=>rfl
 |n::ns=>⟨_,_,rfl,rfl,bY ns⟩
theorem Ff {N:List Str}{vs:List V}{H H':Hp}{n:Nat}{ro:Bool}{U:Addr->Prop}(hl:(L2.start N vs).length=n)(sm:ar H H'):bf P w ⟨H,λ_=>False,ro,U⟩ (L2.start N vs) H' (YY n none) (λ_=>[]) :=
 ⟨by rw[hl,List.length_replicate],λi y d h=>(gW h).elim,λi d h=>(gW h).elim,λi ok h=>(gW h).elim,λi a h=>(nomatch h),λi j a h=>(nomatch h),λi=>YA,sm.kp,λa z e=>z (sm.free e),λi y d h=>(gW h).elim⟩
theorem MS {ro:Bool}{H H':Hp}{b:Bool}{v:V}(h:rV P w ro H H' (.bl b) v):v=.bl b:=by
 cases ro with
 |true=>obtain⟨A,h1,_⟩:=h;exact h1.1
 |false=>exact h
end
theorem Ej {β:aL}{i j k l:Nat}{y1 y2 y3 y4:Bool}{a b c d:Int}{R:D->Kd->aL->Prop}(h1:β[i]?=some (some (.val y1 (.int a))))(h2:β[j]?=some (some (.val y2 (.int b))))(h3:β[k]?=some (some (.val y3 (.int c))))(h4:β[l]?=some (some (.val y4 (.int d))))
  (q:R (.bl (decide (a<b)&&(decide (b<c)&&decide (c<d)))) .own β):vL (Bx i) (JF Qq (Bx j) (JF Qq (Bx k) (M7 Qq (Bx l)))) β R:=by
 refine⟨_,h1,_,h2,_,rfl,rF (λz1=>⟨_,h3,_,rfl,rF (λz2=>⟨_,h4,_,rfl,?_⟩) (λz2=>?_)⟩) (λz1=>?_)⟩
 ·simpa[z1,z2] using q
 ·simpa[z1,z2] using q
 ·simpa[z1] using q
section
variable {X:Cx}{C:Cfg}{pos p2 p3 p4:Pos}{e a:Expr}{φ:aB}{p:Bool}
def Rh (φ:aB):aB:=λβ R=>φ β λx k β1=>∃d,Tq x=some d/\kN NL d k.wk λk'=>R d k' β1
theorem JI {j:Nat}(ha:PQ X C p a φ):PQ X C p (.Subscript a (.Slice none none (some (.UnaryOp .USub (.Constant (.int 1) j p3) p4)) p2) pos) (Rh φ) :=
 ⟨λβ R R' k h=>ha.mono β _ _ (λx kx β1 rG=>by obtain⟨d,e,q⟩:=rG;exact⟨d,e,q.mono λ_ z=>k _ _ _ z⟩) h,
  (JO ha.pe).pre λσ H Q ⟨β,own,s,h⟩=>tQ.of ha s h λd k β1 v H1 au zS o1 r1=>by
    obtain⟨d',e,q⟩:=zS;have rr:=az.aQ yE r1.rep
    match d,e with
    |.lst ds,e =>
      cases e;obtain⟨c,vs,rfl,h1,n1,rs⟩:=rr;refine .inl ⟨c,vs,rfl,h1,λp hp=>?_⟩;have sm:ar H1 (upd H1 p (.lst vs.reverse)):=ar.new hp;have hw:¬ av C (Wn au) k.wk p:=λz=>o1.sq.AK _ p z hp;have r2:az X.prog X.w (av C (Wn au) k.wk) (upd H1 p (.lst vs.reverse)) (.lst ds.reverse) (.ref p):=⟨p,_,rfl,ai,hw,(ag.rev rs).same sm⟩;obtain⟨k',q,r⟩:=KV.kN (Z:=(H,Wn own)) A4 r2 (λn=>ir (H:=H1) o1.sq.r9 o1.sq.fj (λa z e=>o1.sn.d a z e) n ⟨p,_,rfl,ai,λz=>z hp,ag.flat n ((ag.rev rs).same sm)⟩) q;exact q _ _ au (o1.same sm) r
    |.tup ds,e =>
      cases e;obtain⟨c,vs,rfl,h1,rs⟩:=rr;refine .inr ⟨c,vs,rfl,h1,λp hp=>?_⟩;have sm:ar H1 (upd H1 p (.tup vs.reverse)):=ar.new hp;exact q _ _ au (o1.same sm) (by
        have r2:az X.prog X.w (av C (Wn au) k.wk) (upd H1 p (.tup vs.reverse)) (.tup ds.reverse) (.ref p):=⟨p,_,rfl,ai,(ag.rev rs).same sm⟩;cases k <;> exact r2)⟩
end
def pL (ns:List Int):Prop:=∃x y z:Int,ns=[x,y,z]/\0<=x
def DM:FD:=λds R=>∃c:Int,ds=[.int c]/\∀ns,pL ns->R (.lst (ns.map D.int))
theorem DM.mono:cA DM:=λds R R' k ⟨c,e,q⟩=>⟨c,e,λns o=>k _ (q ns o)⟩
section
variable {P:XX}{w:X6}{H:Hp}{h:Addr}
theorem jJ {H:Hp}:∀ns:List Int,aE P w H (ns.map D.int) (ns.map V.int) []
 |[]=>⟨rfl,rfl⟩
 |n::ns=>⟨_,_,[],[],rfl,rfl,⟨rfl,rfl⟩,jJ ns⟩
theorem BC {xs ys:List V}(e:H h=some (.lst xs)):Kp (·=h) H (upd H h (.lst ys)):=⟨λb u hb nb=>by rw[ao nb];exact hb,λb Ub hb=>by rw[ao λz=>by rw[z,e]at hb;cases hb];exact hb⟩
theorem BD {ys:List V}:∀c,H c≠none->upd H h (.lst ys) c≠none:=λc hc=>by
 by_cases z:c=h
 ·rw[z,ai];exact λz=>(nomatch z)
 ·rw[ao z];exact hc
theorem xR {H':Hp}{r:Int}:rV P w true H H' (.int r) (.int r):=fW (W:=λ_=>False) rfl rfl
end
end L2.Q
namespace oz
open PySem L2 L2.Q
section
variable (K:PySem.W.Frag)(mg:Str->Option XO)(f:Addr)(fd:YB)
abbrev D0:Prop:=Df K mg "_law_kinds" fo ["pot"] f fd
abbrev D1:Prop:=Df K mg "_law_take" eM ["pot","many"] f fd
abbrev D2:Prop:=Df K mg "_law_pairs" fm ["pot","few"] f fd
abbrev D3:Prop:=Df K mg "_law_gap" ij ["pot"] f fd
abbrev D4:Prop:=Df K mg "check_gap" fq ["gap"] f fd
abbrev D5:Prop:=Df K mg "pairs_either_way" bQ ["pairs"] f fd
abbrev D6:Prop:=Df K mg "row_of_kinds" cP ["kinds","pairs","gap"] f fd
abbrev D7:Prop:=Df K mg "_law_ties" gc ["kinds","pairs","gap"] f fd
abbrev D8:Prop:=Df K mg "stretches_rising" bP ["many"] f fd
abbrev D9:Prop:=Df K mg "partners_of" dh ["row"] f fd
abbrev AM:Prop:=Df K mg "number_with" dj ["worth","table","i","k","j"] f fd
abbrev HC:Prop:=Df K mg "least_number" cR ["partners","worth","table","i","j"] f fd
abbrev IS:Prop:=Df K mg "greatest_table" cm ["row","worth"] f fd
abbrev IQ:Prop:=Df K mg "one_each" gb ["row"] f fd
abbrev L6:Prop:=Df K mg "table_of" f_ ["row"] f fd
abbrev IP:Prop:=Df K mg "parts_left" d4 ["i","k","j"] f fd
abbrev IM:Prop:=Df K mg "best_choices" cS ["partners","worth","table","i","j"] f fd
abbrev L5:Prop:=Df K mg "first_greatest" cn ["row","worth","table","i","j"] f fd
abbrev Ms:Prop:=Df K mg "most_of" ie ["row","i","j"] f fd
abbrev Pz:Prop:=Df K mg "most_ties" fk ["row"] f fd
abbrev T5:Prop:=Df K mg "_law_size" gf ["many","ties"] f fd
abbrev Py:Prop:=Df K mg "arcs_cross" d7 ["one","other"] f fd
abbrev Px:Prop:=Df K mg "share_a_point" cD ["one","other"] f fd
abbrev Qy:Prop:=Df K mg "row_beside" d3 ["row","tie"] f fd
abbrev T4:Prop:=Df K mg "most_without" cQ ["row","point"] f fd
abbrev T3:Prop:=Df K mg "most_beside" dk ["row","point","other"] f fd
abbrev Va:Prop:=Df K mg "best_kinds" d6 ["kinds","pairs","gap","place"] f fd
abbrev U_:Prop:=Df K mg "_law_same" gg ["found","due"] f fd
abbrev U9:Prop:=Df K mg "_law_due" ik ["kinds","pairs","gap","place"] f fd
abbrev Xq:Prop:=Df K mg "_law_pot" fS ["cell"] f fd
end
section
variable {P:XX}{w:X6}{K:PySem.W.Frag}{mg:Str->Option XO}{base:Heap}
theorem vG:aG ["cell"] ["cell"] (ay fS):=mkS
theorem J4 {f:Addr} {fd:YB} (F:EZ K "_law_pot" "_law_pot" fS f fd) (B:Bs mg):aJ P w K mg base bN 1 f fd ["cell"] (cM P w true DM):=by
 refine F.ok vG (λvs H Q E h=>?_) (λcF A outer s H vs Q E hr h=>?_)
 ·obtain⟨ds,r,c,rfl,_⟩:=h;obtain⟨x,rr,rfl,_,hr⟩:=r;cases (show rr=[] from hr)
  rfl
 ·obtain⟨ds,r,c,rfl,q⟩:=h;obtain⟨x,rr,rfl,hx,N7⟩:=r;cases (show rr=[] from N7)
  cases (show x=V.int c from hx)
  refine⟨_,jD (i8 (vQ (aW (eS (qi rfl) (by rfl) B.max h_ (aW bb (aW (cT Cf (pv 0) (cT Cg bb bb)) b_)))
   (aW (cT kM (pv 0) bb) (aW bb b_))))),?_⟩
  refine⟨_,rfl,_,_,rfl,rfl,Nc,_,_,rfl,rfl,_,_,rfl,?_⟩;refine⟨_,rfl,_,_,rfl,rfl,(by show (0:Int)<99999999977;decide),(by show 3<=X3;decide),λp hp=>?_⟩
  refine q [_,_,_] ⟨_,_,_,rfl,?_⟩ _ _ (ar.new hp) ⟨[p],⟨p,_,[],rfl,ai,rfl,jJ [_,_,_]⟩,by simp,λc hc=>by rw[XW.mp hc];exact hp⟩
  split <;> lia
theorem dy:aG ["pot","many","found","number"] ["pot","many"] (ay eM):=mkS
theorem l0 {f:Addr} {fd:YB} (F:EZ K "_law_take" "_law_take" eM f fd):aJ P w K mg base bN 1 f fd ["pot","many"] (kz P w pL true bV):=by
 refine F.ok dy (λvs H Q E h=>?_) (λcF A outer s H vs Q E hr h=>?_)
 ·obtain⟨h,vs',ds,ns,rfl,_,_,r,n,rfl,_⟩:=h;obtain⟨x,rr,rfl,_,hr⟩:=r;cases (show rr=[] from hr)
  rfl
 ·obtain⟨h,vs',ds,ns,rfl,e,⟨x,y,z,rfl,x0⟩,r,n,rfl,n0,n1,q⟩:=h;obtain⟨x',rr,rfl,wq,N7⟩:=r;cases (show rr=[] from N7)
  cases (show x'=V.int n from wq)
  have hx:H h=some (.lst [.int x,.int y,.int z]):=e;refine⟨_,cz (HM (xp HV (jH fx (pv 0) bb (λ_ _=>rfl)) bb (Ka _))
    (cz (i7 (i:=2) dy.nd rfl (Or.inl rfl) (cT kM (jH fx (pv 0) bb (λ_ _=>rfl)) (pv 1)))
    (cz (vM (cT tV (jH fx (pv 0) bb (λ_ _=>rfl)) (pv 1)) (BW (pv 0) bb set_list))
    (jD (i8 (pv 2))))) xq)
   (cz (vM (cT rl (jH fx (pv 0) bb (λ_ _=>rfl)) bb) (BW (pv 0) bb set_list))
   (cz (i7 (i:=3) dy.nd rfl (Or.inl rfl) (cT kM (cT rl (jH fx (pv 0) bb (λ_ _=>rfl)) (cT rf bb (jH fx (pv 0) bb (λ_ _=>rfl)))) bb))
   (cz (i7 (i:=3) dy.nd rfl (Or.inl rfl) (cT kM (cT rf (pv 3) (pv 3)) bb))
   (cz (i7 (i:=3) dy.nd rfl (Or.inl rfl) (cT kM (cT rf (pv 3) (cT rl (pv 3) bb)) bb))
   (jD (i8 (cT kM (cT tV (pv 3) bb) (pv 1)))))))),?_⟩
  refine⟨_,rfl,h,_,_,_,rfl,rfl,dv.of hx,rfl,_,_,rfl,rfl,_,rfl,?_⟩;refine RO (λhp=>?_) (λhp=>?_)
  ·refine⟨_,rfl,h,_,_,_,rfl,rfl,dv.of hx,rfl,_,rfl,_,_,rfl,rfl,n0,?_⟩;refine⟨_,rfl,h,_,_,_,rfl,rfl,dv.of hx,rfl,_,rfl,_,_,rfl,rfl,ve.of n0 n1,?_⟩;refine⟨_,rfl,h,_,_,0,rfl,rfl,hx,rfl,?_⟩;have m:=l4 (a:=x) n0;exact⟨_,rfl,q _ m.1 m.2 _ _ [x / n,y,z] (BC hx) BD ai ⟨_,_,_,rfl,Int.ediv_nonneg x0 (Int.le_of_lt n0)⟩ xR⟩
  ·refine⟨_,rfl,h,_,_,_,rfl,rfl,dv.of hx,rfl,_,_,rfl,rfl,?_⟩;refine⟨_,rfl,h,_,_,2,rfl,rfl,hx,rfl,?_⟩;have hy:upd H h (.lst ([V.int x,V.int y,V.int z].set 2 (V.int (z+1)))) h=some (.lst [V.int x,V.int y,V.int (z+1)]):=ai;refine⟨_,rfl,h,_,_,_,rfl,rfl,dv.of hy,rfl,_,rfl,h,_,_,_,rfl,rfl,dv.of hy,rfl,_,_,rfl,rfl,.inl ⟨by decide,by decide⟩,_,_,rfl,rfl,_,_,rfl,rfl,(by show (0:Int)<99999999947;decide),?_⟩
   have m1:=l4 (a:=y+700001*(z+1)) (b:=99999999947) (by decide)
   refine⟨_,rfl,_,rfl,_,_,rfl,rfl,.inl ⟨Int.lt_of_lt_of_le (by decide) m1.1,Int.lt_trans m1.2 (by decide)⟩,_,_,rfl,rfl,(by show (0:Int)<99999999821;decide),?_⟩
   have m2:=l4 (a:=(y+700001*(z+1)) % 99999999947*((y+700001*(z+1)) % 99999999947)) (b:=99999999821) (by decide)
   refine⟨_,rfl,_,rfl,_,_,rfl,rfl,_,_,rfl,rfl,.inl ⟨Int.lt_of_lt_of_le (by decide) m2.1,Int.lt_trans m2.2 (by decide)⟩,_,_,rfl,rfl,(by show (0:Int)<9999999967;decide),?_⟩
   refine⟨_,rfl,_,_,rfl,rfl,ve.of (by decide) (by decide),_,rfl,_,_,rfl,rfl,n0,?_⟩
   have m:=λa:Int=>l4 (a:=a) n0;exact q _ (m _).1 (m _).2 _ _ [x,y,z+1] (BC hx) BD ai ⟨_,_,_,rfl,x0⟩ xR
end
end oz
namespace L2
open PySem PySem.Spec PyProof.Rows
section
variable {κ:Type}[DecidableEq κ]
def dZ (kvs:List (κ×V))(k:κ):Option V:=(kvs.find? λkv=>decide (kv.1=k)).map (·.2)
def putK (kvs:List (κ×V))(k:κ)(v:V):List (κ×V) :=
 if (kvs.any λkv=>decide (kv.1=k))=true then kvs.map (λkv=>if kv.1=k then (kv.1,v) else kv) else kvs++[(k,v)]
theorem mi {p:κ×V}{r:List (κ×V)}{k:κ}(e:p.1=k):dZ (p::r) k=some p.2:=by simp[dZ,YF,e]
theorem mj {p:κ×V}{r:List (κ×V)}{k:κ}(e:¬ p.1=k):dZ (p::r) k=dZ r k:=by simp[dZ,YF,e]
theorem ml (k:κ):∀kvs:List (κ×V),(kvs.any λkv=>decide (kv.1=k))=(dZ kvs k).isSome
 |[]=>rfl
 |p::r=>by
  rw[aay]
  by_cases e:p.1=k
  ·simp only[mi e,decide_eq_true e,Bool.true_or,Option.isSome_some]
  ·rw[mj e,decide_eq_false e,Bool.false_or];exact ml k r
theorem fv (kvs:List (κ×V))(k:κ)(v:V):(putK kvs k v).length<=kvs.length+1:=by
 unfold putK
 split
 ·rw[XN];lia
 ·rw[Yg,Yt,List.length_nil];lia
theorem mM {kvs:List (κ×V)}{k:κ}(v:V)(h:dZ kvs k=none):putK kvs k v=kvs++[(k,v)]:=by
 unfold putK;rw[ml,h];exact if_neg (by decide)
theorem om.kX {o:Option V}{u:Option XO}(r:om o u):o.isSome=u.isSome:=by
 cases o with
 |none=>cases u with
  |none=>rfl
  |some _=>exact(show False from r).elim
 |some _=>cases u with
  |none=>exact(show False from r).elim
  |some _=>rfl
theorem KV.val {kvs:List (κ×V)}{vs:List (κ×XO)}(r:KV kvs vs)(k:κ):om (dZ kvs k) (valueAt vs k):=by
 unfold KV at r
 induction r with
 |nil=>exact Zk
 | @cons p q ps qs h t ih =>
  obtain⟨h1,h2⟩:=h
  by_cases e:p.1=k
  ·have e':q.1=k:=h1.symm.trans e;have b:valueAt (q::qs) k=some q.2:=by simp[valueAt,YF,e']
   rw[mi e,b];exact h2
  ·have e':¬ q.1=k:=λz=>e (h1.trans z);have b:valueAt (q::qs) k=valueAt qs k:=by simp[valueAt,YF,e']
   rw[mj e,b];exact ih
theorem KV.any {kvs:List (κ×V)}{vs:List (κ×XO)}(r:KV kvs vs)(k:κ):(kvs.any λkv=>decide (kv.1=k))=vs.any λkv=>decide (kv.1=k):=by
 unfold KV at r
 induction r with
 |nil=>rfl
 |cons h t ih=>rw[aay,aay,ih,h.1]
theorem KV.Jw {kvs:List (κ×V)}{vs:List (κ×XO)}(r:KV kvs vs)(k:κ){y:V}{u:XO}(ry:RelV y u):
  KV (kvs.map λkv=>if kv.1=k then (kv.1,y) else kv) (vs.map λkv=>if kv.1=k then (kv.1,u) else kv):=by
 unfold KV at r ⊢
 induction r with
 |nil=>exact .nil
 | @cons p q ps qs h t ih =>
  rw[X4,X4];refine .cons ?_ ih;obtain⟨h1,h2⟩:=h
  by_cases e:p.1=k
  ·rw[if_pos e,if_pos (h1.symm.trans e)];exact⟨h1,ry⟩
  ·rw[if_neg e,if_neg (λz=>e (h1.trans z))];exact⟨h1,h2⟩
theorem KV.put {kvs:List (κ×V)}{vs:List (κ×XO)}(r:KV kvs vs)(k:κ){y:V}{u:XO}(ry:RelV y u):KV (putK kvs k y) (stored vs k u):=by
 unfold putK stored;rw[r.any k]
 by_cases e:(vs.any λkv=>decide (kv.1=k))=true
 ·rw[if_pos e,if_pos e];exact r.Jw k ry
 ·rw[if_neg e,if_neg e];exact Paired.snoc r ⟨rfl,ry⟩
theorem KV.length {kvs:List (κ×V)}{vs:List (κ×XO)}(r:KV kvs vs):kvs.length=vs.length:=Paired.length r
end
theorem ue {P:XX}{w:X6}{k:Key}{u:XO}(r:RelV (kV k) u):(aX P w).is k u=true:=by
 cases k with
 |inl i=>obtain⟨t,e⟩:=(show ∃t,u=Value.int i t from r);subst e;exact ua P w i t
 |inr x=>obtain⟨t,e⟩:=(show ∃t,u=Value.str x t from r);subst e;exact t_ P w x t
theorem pR {P:XX}{w:X6}:∀{ks:List Key} {us:List XO},Vals (ks.map kV) us->ItemsAre (aX P w) ks us
 |[],_,r=>by rw[List.map_nil]at r;cases r;exact .nil
 |k::ks,_,r=>by
  rw[X4]at r;cases r with
  |cons h t=>exact .cons (ue h) (pR t)
abbrev KT (H:Hp):List (List Key×V)->List (List Key×Addr×XO)->Prop:=Paired λp q=>p.1=q.1/\H q.2.1=some (.tup (p.1.map kV))/\RelV p.2 q.2.2
theorem KT.val {H:Hp}{kvs:List (List Key×V)}{xs:List (List Key×Addr×XO)}(r:KT H kvs xs)(k:List Key):om (dZ kvs k) ((atKey xs k).map (·.2)):=by
 induction r with
 |nil=>exact Zk
 | @cons p q ps qs h t ih =>
  obtain⟨h1,_,h2⟩:=h
  by_cases e:p.1=k
  ·have e':q.1=k:=h1.symm.trans e;have b:atKey (q::qs) k=some q.2:=by simp[atKey,YF,e']
   rw[mi e,b];exact h2
  ·have e':¬ q.1=k:=λz=>e (h1.trans z);have b:atKey (q::qs) k=atKey qs k:=by simp[atKey,YF,e']
   rw[mj e,b];exact ih
theorem KT.Jw {H:Hp}{kvs:List (List Key×V)}{xs:List (List Key×Addr×XO)}(r:KT H kvs xs)(k:List Key){y:V}{u:XO}(ry:RelV y u):
  KT H (kvs.map λkv=>if kv.1=k then (kv.1,y) else kv) (xs.map (putAt k u)):=by
 induction r with
 |nil=>exact .nil
 | @cons p q ps qs h t ih =>
  rw[X4,X4];refine .cons ?_ ih;obtain⟨h1,h2,h3⟩:=h;unfold putAt
  by_cases e:p.1=k
  ·rw[if_pos e,if_pos (h1.symm.trans e)];exact⟨h1,h2,ry⟩
  ·rw[if_neg e,if_neg (λz=>e (h1.trans z))];exact⟨h1,h2,h3⟩
theorem KT.put {H:Hp}{kvs:List (List Key×V)}{xs:List (List Key×Addr×XO)}(r:KT H kvs xs)(k:List Key){b:Addr}{y:V}{u:XO}(hb:H b=some (.tup (k.map kV)))(ry:RelV y u):
  KT H (putK kvs k y) (storedH xs k b u):=by
 have e:(kvs.any λkv=>decide (kv.1=k))=(atKey xs k).isSome:=by
  rw[ml,(r.val k).kX,Option.isSome_map]
 unfold putK storedH;rw[e]
 by_cases q:(atKey xs k).isSome=true
 ·rw[if_pos q,if_pos q];exact r.Jw k ry
 ·rw[if_neg q,if_neg q];exact Paired.snoc r ⟨rfl,hb,ry⟩
theorem KT.keeps {H H':Hp}{kvs:List (List Key×V)}{xs:List (List Key×Addr×XO)}(r:KT H kvs xs)(ht:∀b ys,H b=some (.tup ys)->H' b=some (.tup ys)):KT H' kvs xs :=
 Paired.Kk r λ_ _ z=>⟨z.1,ht _ _ z.2.1,z.2.2⟩
section
variable {P:XX}{w:X6}{H:Hp}{h:Heap}{a:Addr}
theorem HL {u:HO}(ok:jz P w H h)(e:Rd H a u):aO P w H h a u:=e.ok ok
theorem yt {kvs:List (Key×V)}(ok:jz P w H h)(e:Rd H a (.dK kvs)):kvs.length<=X3/\(a==ZM)=false/\∃vs,KV kvs vs/\h.DictOf (aX P w) a vs :=
 show aO P w H h a (.dK kvs) from HL ok e
theorem uP {kvs:List (Key×V)}(ok:jz P w H h)(e:H a=some (.dK kvs)):kvs.length<=X3/\(a==ZM)=false/\∃vs,KV kvs vs/\h.DictOf (aX P w) a vs:=yt ok (.inl e)
theorem kS {ks:List Key}(ok:jz P w H h)(e:H a=some (.tup (ks.map kV))):(aau (aX P w)).is h ks a:=by
 obtain⟨_,its,r,o,h1,h2,n,h3⟩:=(show aO P w H h a (.tup (ks.map kV)) from ok a _ e)
 exact⟨o,its.toArray,n,h1,h2,h3,by simpa using pR r⟩
theorem yr {kvs:List (List Key×V)}(ok:jz P w H h)(e:Rd H a (.dT kvs)):kvs.length<=X3/\(a==ZM)=false /\
  ∃xs,KT H kvs xs/\h.DictOfH (aau (aX P w)) a xs:=by
 obtain⟨z,y,xs,r,o,es,ep,h1,h2,h3,h4,h5⟩:=(show aO P w H h a (.dT kvs) from HL ok e)
 refine⟨z,y,xs,r,o,es,ep,h1,h2,h3,h4,λx hx=>?_,h5⟩;have all:∀{l:List (List Key×V)} {m:List (List Key×Addr×XO)},KT H l m->∀x∈m,(aau (aX P w)).is h x.1 x.2.1:=by
  intro l m q
  induction q with
  |nil=>intro x hx;exact nomatch hx
  | @cons p q ps qs hq t ih =>
   intro x hx;rcases XU.mp hx with e|hx
   ·subst e;exact kS ok (by rw[<- hq.1];exact hq.2.1)
   ·exact ih x hx
 exact all r x hx
theorem Iy {kvs:List (List Key×V)}(ok:jz P w H h)(e:H a=some (.dT kvs)):kvs.length<=X3/\(a==ZM)=false /\
  ∃xs,KT H kvs xs/\h.DictOfH (aau (aX P w)) a xs:=yr ok (.inl e)
end
def vd (H:Hp)(a:Addr)(y:V)(r:Option V):Prop :=
 (∃kvs k,Rd H a (.dK kvs)/\y=kV k/\r=dZ kvs k)\/∃kvs k b,Rd H a (.dT kvs)/\y=.ref b/\H b=some (.tup (k.map kV))/\r=dZ kvs k
def Pw (H:Hp)(a:Addr)(y v:V)(H':Hp):Prop :=
 (∃kvs k,H a=some (.dK kvs)/\y=kV k/\kvs.length<X3/\H'=upd H a (.dK (putK kvs k v))) \/
 ∃kvs k b,H a=some (.dT kvs)/\y=.ref b/\H b=some (.tup (k.map kV))/\kvs.length<X3/\H'=upd H a (.dT (putK kvs k v))
theorem vd.t {H:Hp}{a b:Addr}{kvs:List (List Key×V)}{k:List Key}(e:H a=some (.dT kvs))(eb:H b=some (.tup (k.map kV))):vd H a (.ref b) (dZ kvs k):=.inr ⟨kvs,k,b,.inl e,rfl,eb,rfl⟩
section
variable {X:Cx}{pins:List (Addr×Obj)}{σ:St}{H:Hp}{s:XQ}{a:Addr}{y v:V}{u r:XO}{o:Option V}{A:YX}{E:XO->XQ->Prop}
theorem Inv.big (I:Inv X pins σ H s):ZM<s.heap.objs.size:=by
 have h:Zy<s.heap.objs.size:=(I.mod.glob.keeps I.bk).lt;exact aaH (by decide) h
theorem qf {Q:XO->XQ->Prop}(hu:A.units+1<Z7)(I:Inv X pins σ H s)(g:vd H a y (some v))(ry:RelV y u)(h:∀w' s',Inv X pins σ H s'->RelV v w'->Q w' s'):
  Ye (model X.prog X.w) A (getItem (.ref a) u) Q E s:=by
 rcases g with⟨kvs,k,e,ey,l⟩|⟨kvs,k,b,e,ey,eb,l⟩
 ·subst ey;obtain⟨z,hd,vs,rel,dd⟩:=yt I.a5 e;obtain⟨w',hw,Az⟩:=om.some_of (v:=v) (o:=valueAt vs k) (by rw[l];exact rel.val k)
  exact wpAny_getItem_of (ue ry) dd.mapOf hw (h w' _ (I.tok _) Az)
 ·subst ey;cases (show u=Value.ref b from ry)
  obtain⟨z,hd,xs,rel,dd⟩:=yr I.a5 e;obtain⟨w',hw,Az⟩:=om.some_of (v:=v) (o:=(atKey xs k).map (·.2)) (by rw[l];exact rel.val k)
  obtain⟨p,hp,Qg⟩:=X9.mp hw;refine wpAny_getItem_heap (tupleKind_room_in1 hu) (kS I.a5 eb) dd hp ?_;rw[Qg];exact h w' _ (I.tok _) Az
theorem To {Q:XO->XQ->Prop}(hu:A.units+1<Z7)(I:Inv X pins σ H s)(g:vd H a y o)(ry:RelV y u)(h:∀s',Inv X pins σ H s'->Q (.bool o.isSome) s'):
  Ye (model X.prog X.w) A (YS .In u (.ref a)) Q E s:=by
 rcases g with⟨kvs,k,e,ey,l⟩|⟨kvs,k,b,e,ey,eb,l⟩
 ·subst ey;obtain⟨z,hd,vs,rel,dd⟩:=yt I.a5 e;refine wpAny_in_of (ue ry) hd dd.mapOf ?_;rw[<- (rel.val k).kX,<- l];exact h _ (I.tok _)
 ·subst ey;cases (show u=Value.ref b from ry)
  obtain⟨z,hd,xs,rel,dd⟩:=yr I.a5 e;refine wpAny_in_heap (tupleKind_room_in1 hu) (kS I.a5 eb) hd dd ?_;have q:=(rel.val k).kX;rw[Option.isSome_map]at q;rw[<- q,<- l];exact h _ (I.tok _)
theorem l_ {h':Heap}{t':Nat}{ob:HO}(I:Inv X pins σ H s)(mu:Pr (H a))(hs:Zh a s.heap h')(he:∃q,h'.get? a=some q)(new:aO X.prog X.w (upd H a ob) h' a ob):
  Inv X pins σ (upd H a ob) {s with heap:=h',toks:=t'} :=
 I.write (x:=a) (e:=a) mu (.inl rfl) (λb q hb z=>(hs.2 b hb).trans z) he new
theorem D_ {P:XX}{w:X6}{H':Hp}{h':Heap}{kvs:List (Key×V)}{vs:List (Key×XO)}(z:kvs.length<=X3)(hd:(a==ZM)=false)(rel:KV kvs vs)(dd:h'.DictOf (aX P w) a vs):
  aO P w H' h' a (.dK kvs):=⟨z,hd,vs,rel,dd⟩
theorem Aa {H':Hp}{Q:Unit->XQ->Prop}(hu:A.units+1<Z7)(I:Inv X pins σ H s)(g:Pw H a y v H')(ry:RelV y u)(rv:RelV v r)(h:∀s',Inv X pins σ H' s'->Q () s'):
  Ye (model X.prog X.w) A (setItem (.ref a) u r) Q E s:=by
 rcases g with⟨kvs,k,e,ey,l,eH⟩|⟨kvs,k,b,e,ey,eb,l,eH⟩
 ·subst ey eH;obtain⟨z,hd,vs,rel,dd⟩:=uP I.a5 e;have hz:vs.length<=X3:=by rw[<- rel.length];exact z
  have hl:(putK kvs k v).length<=X3:=by have:=fv kvs k v;lia
  refine wpAny_setItem_pairs (hsz:=hz) (ue ry) dd λh' Hc hs=>h _ ?_;have he:∃q,h'.get? a=some q:=let ⟨q,_,_,hq,_⟩:=Hc;⟨q,hq⟩
  exact l_ I (by rw[e];exact Zk) hs he (D_ hl hd (rel.put k rv) Hc)
 ·subst ey eH;cases (show u=Value.ref b from ry)
  obtain⟨z,hd,xs,rel,dd⟩:=Iy I.a5 e;have hz:xs.length<=X3:=by rw[<- Paired.length rel];exact z
  have hl:(putK kvs k v).length<=X3:=by have:=fv kvs k v;lia
  refine wpAny_setItem_heap (hsz:=hz) (tupleKind_room_in1 hu) (kS I.a5 eb) dd λh' Hc hs=>h _ ?_;obtain⟨q,es,ep,hq,h2,h3,h4,_,h5⟩:=Hc;refine l_ I (by rw[e];exact Zk) hs ⟨q,hq⟩ ⟨hl,hd,_,(rel.put k eb rv).keeps λc ys ec=>?_,q,es,ep,hq,h2,h3,h4,h5⟩
  rw[ao (t7 ec e (λz=>nomatch z))];exact ec
end
section
end
theorem lC {X:Cx} {pins:List (Addr×Obj)} {σ:St} {H:Hp} {s:XQ} {a:Addr} {y:V} {o:Option V} (I:Inv X pins σ H s) (g:vd H a y o):s.TypeIs (.ref a) "dict" := by
 rcases g with⟨kvs,k,e,_,_⟩|⟨kvs,k,b,e,_,_,_⟩
 ·obtain⟨_,_,vs,_,dd⟩:=yt I.a5 e;exact dd.typeIs
 ·obtain⟨_,_,xs,_,dd⟩:=yr I.a5 e;exact dd.typeIs
def MR (td ty tv:TE):TS:=λD σ H=>tv σ H λv H1=>td σ H1 λx H2=>ty σ H2 λy H3=>∃a H4,x=.ref a/\Pw H3 a y v H4/\D.nx σ H4
section
variable {X:Cx}{o i value:Expr}{pos pos':Pos}{td ty tv:TE}
theorem qT (hu:X.A.units+1<Z7)(ho:PE X o td)(hi:PE X i ty)(hv:PE X value tv)(hs:Zj value (some (.Subscript o i pos')) pos.line X.env=pure false):
  PS X (.Assign [.Subscript o i pos'] value pos) (MR td ty tv):=by
 intro pins s σ H D I h;refine wpAny_Assign_Subscript (bu (hv pins s σ H _ I h) λr s1 ⟨v,H1,I1,rv,q1⟩=>bu (ho pins s1 σ H1 _ I1 q1) λu s2 ⟨x,H2,I2,rx,q2⟩=>bu (hi pins s2 σ H2 _ I2 q2) λiv s3 ⟨y,H3,I3,ry,a,H4,ex,g,q3⟩=>?_) hs;subst ex;obtain rfl:u=Value.ref a:=rx;exact Aa hu I3 g ry rv λs4 I4=>⟨σ,H4,I4,q3⟩
end
theorem uQ {P:XX}{w:X6}{H:Hp}(h:Heap)(hb:ZM<h.objs.size):aO P w H (h.push {cls:=.type "dict",data:=.dict #[]}) h.objs.size (.dK []) :=
 ⟨Yh _,beq_eq_false_iff_ne.mpr (YW (Yk hb)),[],.nil,Heap.DictOf.new h⟩
theorem uN {P:XX}{w:X6}{H:Hp}(h:Heap)(hb:ZM<h.objs.size):aO P w H (h.push {cls:=.type "dict",data:=.dict #[]}) h.objs.size (.dT []) :=
 ⟨Yh _,beq_eq_false_iff_ne.mpr (YW (Yk hb)),[],.nil,_,#[],0,X_ _ rfl,⟨rfl,rfl,rfl⟩,rfl,rfl,YA⟩
def Jk:TE:=λ_ H Q=>∀p,H p=none->Q (.ref p) (upd H p (.dK []))
def Jj:TE:=λ_ H Q=>∀p,H p=none->Q (.ref p) (upd H p (.dT []))
section
variable {X:Cx}{pos:Pos}
theorem B0:PE X (.Dict [] [] pos) Jk:=λpins s σ H Q I h =>
 wpAny_Dict_empty ⟨.ref s.heap.objs.size,_,I.laid (a:=s.heap.objs.size) (o:=.dK []) (t':=s.toks) (λ_ _ q=>XR _ q) (XS _) (uQ s.heap I.big),rfl,h _ (I.a5.fresh (XS _))⟩
theorem tO:PE X (.Dict [] [] pos) Jj:=λpins s σ H Q I h =>
 wpAny_Dict_empty ⟨.ref s.heap.objs.size,_,I.laid (a:=s.heap.objs.size) (o:=.dT []) (t':=s.toks) (λ_ _ q=>XR _ q) (XS _) (uN s.heap I.big),rfl,h _ (I.a5.fresh (XS _))⟩
end
section
end
section
end
section
end
section
end
section
end
section
variable {κ:Type}[DecidableEq κ]
end
end L2
namespace L2.Q
open PySem PySem.Spec PySem.SeqAt PyProof.Rows
theorem _root_.L2.dg.b9 {k:Nat}{A:YX}(r:dg k A):A.units+1<Z7:=by have:=r.un;lia
def iK (t:List Int):List Key:=t.map ZO
theorem wo {t u:List Int}(h:iK t=iK u):t=u:=by
 unfold iK at h
 induction t generalizing u with
 |nil=>cases u with|nil=>rfl|cons _ _=>cases h
 |cons a t ih =>
  cases u with
  |nil=>cases h
  |cons b u =>
   rw[X4,X4]at h;injection h with h1 h2
   injection h1 with h1
   rw[h1,ih h2]
theorem pU (t:List Int):(iK t).map kV=t.map V.int:=by
 unfold iK;rw[Y_];rfl
def dP (ts:List (List Int))(b:Bool):D:=.dT (ts.map iK) (YY ts.length (.bl b))
def cK (ts:List (List Int))(t:List Int):List (List Int):=if t∈ts then ts else ts++[t]
theorem qR {v:V}:∀{ks:List (List Key)} {n:Nat},ks.length=n->ks.zip (YY n v)=ks.map λk=>(k,v)
 |[],_,_=>by simp
 |k::ks,0,h=>by cases h
 |k::ks,n+1,h=>by
  rw[List.replicate_succ,YZ,qR (aap h)];rfl
theorem xo {v:V}{ts:List (List Int)}{t:List Int}:putK ((ts.map iK).map λk=>(k,v)) (iK t) v=((cK ts t).map iK).map λk=>(k,v):=by
 unfold putK cK;have any:(((ts.map iK).map λk=>(k,v)).any λkv=>decide (kv.1=iK t))=decide (t∈ts):=by
  rw[Bool.eq_iff_iff,List.any_eq_true,decide_eq_true_eq];constructor
  ·rintro⟨kv,h1,h2⟩;obtain⟨k,h3,rfl⟩:=Yl.mp h1;obtain⟨u,h4,rfl⟩:=Yl.mp h3;have:=wo (of_decide_eq_true h2);rw[<- this];exact h4
  ·intro h;exact⟨(iK t,v),Yl.mpr ⟨iK t,Yl.mpr ⟨t,h,rfl⟩,rfl⟩,by simp⟩
 rw[any]
 by_cases h:t∈ts
 ·rw[if_pos (by simpa using h),if_pos h,Y_]
  refine Zr λk _=>?_;show (if k=iK t then (k,v) else (k,v))=(k,v)
  split <;> rfl
 ·rw[if_neg (by simpa using h),if_neg h,X1,X1]
  rfl
section
variable {P:XX}{w:X6}{H:Hp}{a:Addr}
theorem xK {b:Bool}:∀{n:Nat},aE P w H (YY n (.bl b)) (YY n (V.bl b)) []
 |0=>⟨rfl,rfl⟩
 |n+1=>⟨_,_,[],[],rfl,rfl,⟨rfl,rfl⟩,xK⟩
theorem yB {b:Bool}:∀{n:Nat} {vs:List V} {A:List Addr},aE P w H (YY n (.bl b)) vs A->vs=YY n (V.bl b)/\A=[]
 |0,_,_,h=>h
 |n+1,_,_,⟨v,r,A1,A2,e,eA,h1,h2⟩=>by
  obtain⟨e1,e2⟩:=h1;obtain⟨e3,e4⟩:=yB h2;rw[e,eA,e1,e2,e3,e4];exact⟨rfl,rfl⟩
theorem vT {ts:List (List Int)}{b:Bool}(h:H a=some (.dT ((ts.map iK).map λk=>(k,V.bl b)))):Own P w H (dP ts b) (.ref a) [a] :=
 ⟨a,YY ts.length (V.bl b),[],rfl,by rw[qR (by simp)];exact h,by simp,rfl,xK⟩
theorem LG {ts:List (List Int)}{b:Bool}{v:V}{A:List Addr}(h:Own P w H (dP ts b) v A):∃a,v=.ref a/\A=[a]/\H a=some (.dT ((ts.map iK).map λk=>(k,V.bl b))):=by
 obtain⟨a,vs,A',e,h1,l,eA,h2⟩:=h;obtain⟨e3,e4⟩:=yB h2;rw[e3,qR (by simp)]at h1
 exact⟨a,e,by rw[eA,e4],h1⟩
end
section
variable {X:Cx}{C:Cfg}{k:Expr}{φk:aB}{i:Nat}{x:Str}{pos pos' px pc:Pos}{b:Bool}
theorem FH (b:Bool):PQ X C true (.Dict [] [] pos) (λβ R=>R (dP [] b) .own β) :=
 ⟨λβ R R' k h=>k _ _ _ h,tO.pre λσ H Q h p hp=>by
  obtain⟨β,own,s,q⟩:=h;refine q _ _ own ((Out.refl s _).same (ar.new hp)) ⟨[p],vT ai,by simp,λc hc=>?_⟩
  rw[XW.mp hc];exact⟨hp,λz=>s.r9 p z hp,Yi λz=>s.fj p z hp⟩⟩
theorem xF {j}(hu:X.A.units+1<Z7)(hk:PQ X C.z true k φk)(hn:Nm X i x:=by exact vY)
  (hs:Zj (.Constant (.bool b) j pc) (some (.Subscript (.Name x px) k pos')) pos.line X.env=pure false:=by rfl) :
  PB X C (.Assign [.Subscript (.Name x px) k pos'] (.Constant (.bool b) j pc) pos) (λE β=>(∃ts,β[i]?=some (some (.own (dP ts b))))/\φk β λjd _ β2=>∃ts t,jd=kD t/\β2[i]?=some (some (.own (dP ts b)))/\ts.length<X3/\E.nx (β2.set i (some (.own (dP (cK ts t) b))))):=by
 refine⟨λE E' β l h=>⟨h.1,hk.mono _ _ _ (λjd _ β2 h=>by obtain⟨ts,t,h1,h2,h3,q⟩:=h;exact⟨ts,t,h1,h2,h3,l.nx _ q⟩) h.2⟩,(qT hu (eR (pos:=px) hn) hk.pe (B6 (j:=j) (pos:=pc)) hs).pre λDe σ H h=>?_⟩
 obtain⟨Z,E,β,⟨own,s0,n⟩,⟨⟨Xs,AH⟩,q⟩,ok⟩:=h;obtain⟨v0,vj,VQ,_⟩:=s0.ow i _ AH;refine⟨v0,vj,tQ.of hk s0 q λjd kk β2 v H1 au h o r=>?_⟩;obtain⟨ts,t,e1,hb,hl,q⟩:=h;subst e1;obtain⟨v1,Ih,ow,h0⟩:=o.sq.ow i _ hb;rw[vj]at Ih;cases Ih;obtain⟨a,rfl,eA,ha⟩:=LG ow;obtain⟨p,vs,rfl,hp,rv⟩:=r.rep;have ev:vs=(iK t).map kV:=by
  rw[pU];have key:∀(t:List Int) (vs:List V),ag X.prog X.w (av C.z (Wn au) kk) H1 (t.map D.int) vs->vs=t.map V.int:=λt=>by
   induction t with
   |nil=>intro vs h;exact h
   |cons y t ih =>
    intro vs h;obtain⟨z,r',e1,e2,e3⟩:=h;rw[e1,ih r' e3,show z=V.int y from e2]
    rfl
  exact key t vs rv
 have Ik:a∈au i:=by rw[eA];simp
 refine⟨a,_,rfl,.inr ⟨_,iK t,p,ha,rfl,by rw[<- ev];exact hp,by rw[XN,XN];exact hl,rfl⟩,?_⟩
 have hA:∀c∈[a],c∈au i\/(C.H0 c=none/\¬ Wn au c/\(λ_=>False) c):=λc hc=>.inl (by rw[XW.mp hc];exact Ik)
 have r':Own X.prog X.w (upd H1 a (.dT (putK ((ts.map iK).map λk=>(k,V.bl b)) (iK t) (V.bl b)))) (dP (cK ts t) b) (.ref a) [a]:=vT (by rw[xo];exact ai)
 exact ok.nx _ _ _ ⟨_,o.sq.Fu (C:=C) (U:=λ_=>False) (U2:=λ_=>False) hb vj Ik r' (by simp) hA (λ_ z=>z) (λ_ _ z=>z),iX (C:=C) (n.trans o.sn) (λ_ z=>z.elim) ⟨i,Ik⟩ ⟨_,ha,λxs z=>by cases z⟩ hA⟩ q
end
end L2.Q
namespace L2
open PySem PySem.Spec PySem.SeqAt PyProof.Rows
def D.int?:D->Option Int
 |.int i=>some i
 |_=>none
def D.Ko:D->Option (List D)
 |.lst ds=>some ds
 |_=>none
theorem D.Gy {d:D}{i:Int}(h:d.int?=some i):d=.int i:=by
 cases d <;> first|(cases h;rfl)|cases h
theorem D.xT {d:D}{ds:List D}(h:d.Ko=some ds):d=.lst ds:=by
 cases d <;> first|(cases h;rfl)|cases h
noncomputable def h7:List D->Option (List Int)
 |[]=>some []
 |d::ds=>d.int?.bind λi=>(h7 ds).map (i::·)
theorem kc:∀{ds:List D} {ns:List Int},h7 ds=some ns->ds=ns.map D.int
 |[],_,h=>by cases h;rfl
 |d::ds,ns,h=>by
  obtain⟨i,h1,h2⟩:=YT.mp h;obtain⟨ms,h3,rfl⟩:=X9.mp h2;rw[D.Gy h1,kc h3];rfl
theorem fZ:∀ns:List Int,h7 (ns.map D.int)=some ns
 |[]=>rfl
 |n::ns=>by
  show (some n).bind (λi=>(h7 (ns.map D.int)).map (i::·))=_;rw[fZ ns];rfl
noncomputable def gz (f:List Int->Option Int):List D->Option D
 |[d]=>d.Ko.bind λds=>(h7 ds).bind λns=>(f ns).map D.int
 |_=>none
theorem wK {f:List Int->Option Int}{ds:List D}{d:D}(h:gz f ds=some d):∃ns i,ds=[.lst (ns.map D.int)]/\f ns=some i/\d=.int i:=by
 cases ds with
 |nil=>cases h
 |cons x r =>
  cases r with
  |cons _ _=>cases h
  |nil =>
   obtain⟨es,h1,h2⟩:=YT.mp h;obtain⟨ns,h3,h4⟩:=YT.mp h2;obtain⟨i,h5,rfl⟩:=X9.mp h4;exact⟨ns,i,by rw[D.xT h1,kc h3],h5,rfl⟩
theorem nU {f:List Int->Option Int}{ns:List Int}{i:Int}(h:f ns=some i):gz f [.lst (ns.map D.int)]=some (.int i):=by
 show (some (ns.map D.int)).bind (λds=>(h7 ds).bind λns=>(f ns).map D.int)=_;rw[Zn,fZ,Zn,h];rfl
def ek:List Int->Option Int
 |[]=>none
 |n::ns=>some (ns.foldl max n)
theorem cc:∀(ns:List Int) (n:Int),(ns.foldl max n∈n::ns)/\∀x∈n::ns,x<=ns.foldl max n
 |[],n=>⟨by simp,λx hx=>by simp at hx;rw[hx];exact Int.le_refl _⟩
 |m::ns,n=>by
  obtain⟨h1,h2⟩:=cc ns (max n m);have hm:max n m<=ns.foldl max (max n m):=h2 _ (by simp)
  refine⟨?_,λx hx=>?_⟩
  ·rw[Zt];rcases XU.mp h1 with h|h
   ·rw[h]
    by_cases q:n<=m
    ·rw[show max n m=m by lia];simp
    ·rw[show max n m=n by lia];simp
   ·simp[h]
  ·rw[Zt];rcases XU.mp hx with rfl|hx
   ·lia
   ·rcases XU.mp hx with rfl|hx
    ·lia
    ·exact h2 x (by simp[hx])
section
variable {X:Cx}
theorem mf:∀{ns:List Int} {us:List XO},Vals (ns.map V.int) us->∃xs:Array (Int×Tok),us.toArray=intItems xs/\xs.toList.map (·.1)=ns
 |[],_,h=>by cases h;exact⟨#[],by simp[intItems],rfl⟩
 |n::ns,_,h=>by
  cases h with
  |cons h1 h2 =>
   obtain⟨t,rfl⟩:=h1;obtain⟨xs,e1,e2⟩:=mf h2;refine⟨⟨(n,t)::xs.toList⟩,?_,by simp[e2]⟩
   have:=congrArg Array.toList e1;simp[intItems]at this ⊢
   exact this
theorem kO {xs:Array (Int×Tok)}{ns:List Int}(e:xs.toList.map (·.1)=ns)(i:Nat):numAt xs i=ns.getD i 0:=by
 subst e;unfold numAt;rw[YE,X5,YR]
theorem Hq {xs:Array (Int×Tok)}{ns:List Int}(e:xs.toList.map (·.1)=ns){i:Nat}{v:XO}(h:(intItems xs)[i]?=some v):RelV (.int (ns.getD i 0)) v:=by
 obtain⟨t,rfl⟩:=intItems_at h;exact⟨t,by rw[kO e]⟩
theorem ints_size {xs:Array (Int×Tok)}{ns:List Int}(e:xs.toList.map (·.1)=ns):xs.size=ns.length:=by rw[<- e];simp
theorem f6 (hc:X.calm=true):bo X (.builtin "max") (gz ek):=by
 intro pins s σ H xs us Q I r h;obtain⟨W,ds,d,hd,r1,e,q⟩:=h;obtain⟨ns,i,rfl,e1,rfl⟩:=wK e;obtain⟨x,rfl,p,vs,rfl,h1,n1,q1⟩:=qr r1;obtain⟨u,rfl,ru⟩:=vals1 r;cases ru;rw[bY q1]at h1;obtain⟨its,r2,ht,hz⟩:=I.list (dv.of h1);obtain⟨ys,WS,e2⟩:=mf r2;have hs:=ints_size e2;cases ns with
 |nil=>cases e1
 |cons n ns =>
  rw[Yt]at hs;refine max_intList (I.ok.hd hc) (xs:=ys) (by rw[<- WS];exact ht.isList) (by lia) λv h' tk hv k=>⟨.int i,H,I.kept k,?_,q _ _ (ar.refl _) rfl⟩
  have hr:=Hq e2 hv;obtain⟨g1,g2⟩:=argBest_gt (numAt ys) (ys.size-1);generalize argBest (λi j=>decide (numAt ys i>numAt ys j)) (ys.size-1)=b at *
  have hb:b<(n::ns).length:=by rw[Yt];lia
  have:(n::ns).getD b 0=i:=by
   cases e1;obtain⟨f1,f2⟩:=cc ns n;have hle:∀x∈n::ns,x<=(n::ns).getD b 0:=λx hx=>by
    obtain⟨j,hj,rfl⟩:=List.getElem_of_mem hx;have:=g2 j (by rw[Yt]at hj;lia)
    rw[kO e2,kO e2]at this;rw[YE,XY hj]at this;exact this
   have lJ:(n::ns).getD b 0∈n::ns:=by
    rw[YE,XY hb];exact Y7 hb
   have:=hle _ f1;have:=f2 _ lJ;lia
  rw[<- this];exact hr
end
end L2
namespace L2.Q
open PySem PySem.Spec PySem.SeqAt PyProof.Rows
def dA (kvs:List (List Int×D)):D:=.dT (kvs.map λp=>iK p.1) (kvs.map (·.2))
def fg (kvs:List (List Int×D))(t:List Int):Option D:=(kvs.find? λp=>decide (p.1=t)).map (·.2)
def _root_.L2.D.NS:D->Option (List (List Key)×List D)
 |.dT ks ds=>some (ks,ds)
 |_=>none
theorem Gx {d:D}{ks:List (List Key)}{ds:List D}(h:d.NS=some (ks,ds)):d=.dT ks ds:=by
 cases d <;> first|(cases h;rfl)|cases h
def mn (ks:List (List Key))(ds:List D)(k:List Key):Option D:=((ks.zip ds).find? λp=>decide (p.1=k)).map (·.2)
theorem rD {d:D}{es:List D}(h:d.KP=some es):d=.tup es:=by
 cases d <;> first|(cases h;rfl)|cases h
def Ad (a b:D):Option ((List (List Key)×List D)×List Int):=a.NS.bind λp=>b.KP.bind λes=>(h7 es).map λt=>(p,t)
theorem Hf {a b:D}{ks:List (List Key)}{ds:List D}{t:List Int}(h:Ad a b=some ((ks,ds),t)):a=.dT ks ds/\b=.tup (t.map D.int):=by
 obtain⟨p,h1,h2⟩:=YT.mp h;obtain⟨es,h3,h4⟩:=YT.mp h2;obtain⟨t',h5,h6⟩:=X9.mp h4;cases h6;exact⟨Gx h1,by rw[rD h3,kc h5]⟩
theorem He {kvs:List (List Int×D)}{t:List Int}:Ad (dA kvs) (.tup (t.map D.int))=some ((kvs.map λp=>iK p.1,kvs.map (·.2)),t):=by
 show (some _).bind (λp=>(some (t.map D.int)).bind λes=>(h7 es).map λt=>(p,t))=_;rw[Zn,Zn,fZ];rfl
theorem vz {t:List Int}:∀{kvs:List (List Int×D)},mn (kvs.map λp=>iK p.1) (kvs.map (·.2)) (iK t)=fg kvs t
 |[]=>rfl
 |p::kvs=>by
  have ih:=vz (t:=t) (kvs:=kvs);unfold mn fg at *
  rw[X4,X4,YZ,YF,YF]
  by_cases h:p.1=t
  ·rw[decide_eq_true (congrArg iK h),decide_eq_true h];rfl
  ·rw[decide_eq_false (λz=>h (wo z)),decide_eq_false h];exact ih
def uS (a b:D):Option D:=(Ad a b).bind λz=>mn z.1.1 z.1.2 (iK z.2)
theorem yw {kvs:List (List Int×D)}{t:List Int}:uS (dA kvs) (.tup (t.map D.int))=fg kvs t:=by
 unfold uS;rw[He,Zn];exact vz
noncomputable def LH (b a:D):Option D:=(Ad a b).map λz=>.bl (mn z.1.1 z.1.2 (iK z.2)).isSome
section
variable {P:XX}{w:X6}{W:Addr->Prop}{H:Hp}
theorem lS {k:List Key}:∀{ks:List (List Key)} {ds:List D} {vs:List V},ks.length=vs.length->ag P w W H ds vs->(dZ (ks.zip vs) k).isSome=(mn ks ds k).isSome/\∀d,mn ks ds k=some d->∃v,dZ (ks.zip vs) k=some v/\az P w W H d v
 |[],ds,vs,_,_=>by
  unfold dZ mn;rw[List.zip_nil_left,List.zip_nil_left];exact⟨rfl,λd h=>by cases h⟩
 |k'::ks,[],_,l,h=>by rw[show _=([]:List V) from h]at l;cases l
 |k'::ks,d::ds,_,l,⟨v,r,e,h1,h2⟩=>by
  subst e;obtain⟨i1,i2⟩:=lS (k:=k) (ks:=ks) (aap l) h2;unfold dZ mn at *
  rw[YZ,YZ,YF,YF]
  by_cases hk:k'=k
  ·rw[decide_eq_true hk];exact⟨rfl,λd' e=>by cases e;exact⟨v,rfl,h1⟩⟩
  ·rw[decide_eq_false hk];exact⟨i1,i2⟩
end
section
variable {X:Cx}
theorem C6 {W:Addr->Prop}{H:Hp}{a b:D}{x y:V}{ks:List (List Key)}{ds:List D}{t:List Int}(h:Ad a b=some ((ks,ds),t))(r1:Rp X W H a x)(r2:Rp X W H b y):∃p vs,x=.ref p/\vd H p y (dZ (ks.zip vs) (iK t))/\ks.length=vs.length/\ag X.prog X.w W H ds vs:=by
 obtain⟨rfl,rfl⟩:=Hf h;obtain⟨p,vs,rfl,e1,l,n,rs⟩:=r1;obtain⟨q,us,rfl,e2,rt⟩:=r2;rw[L2.bY rt]at e2;exact⟨p,vs,rfl,vd.t e1 (by rw[pU];exact e2),l,rs⟩
theorem uf (hu:X.A.units+1<Z7):HA X (Bw X uS NF):=by
 intro value slice pins s σ H x y v u Q I rx ry h hs;obtain⟨W,d1,d2,d,hd,r1,r2,e,q⟩:=h;obtain⟨⟨⟨ks,ds⟩,t⟩,h1,h2⟩:=YT.mp e;obtain⟨p,vs,rfl,g,l,rs⟩:=C6 h1 r1 r2;obtain⟨w',hw,Az⟩:=(lS l rs).2 d h2;rw[hw]at g;cases (show v=Value.ref p from rx)
 exact tail_any (lC I g) PySem.F.slot_dict_getitem.lookup (qf hu I g ry λu' s' I' r'=>⟨w',H,I',r',q w' H (ar.refl _) Az λf=>az.flat f Az⟩) hs
theorem rj (hu:X.A.units+1<Z7):bH X (YS .In) LH:=by
 intro pins s σ H x y v u Q I rx ry h;obtain⟨W,d1,d2,d,hd,r1,r2,e,q⟩:=h;obtain⟨⟨⟨ks,ds⟩,t⟩,h1,rfl⟩:=X9.mp e;obtain⟨p,vs,rfl,g,l,rs⟩:=C6 h1 r2 r1;cases (show u=Value.ref p from ry)
 refine To hu I g rx λs' I'=>⟨.bl _,H,I',rfl,q _ _ (ar.refl _) ?_⟩;rw[(lS l rs).1];rfl
end
theorem vU {P:XX}{w:X6}{H:Hp}{kvs:List (List Int×D)}{a:Addr}{vs:List V}{A:List Addr}(h:H a=some (.dT ((kvs.map λp=>iK p.1).zip vs)))(o:aE P w H (kvs.map (·.2)) vs A):Own P w H (dA kvs) (.ref a) (a::A) :=
 ⟨a,vs,A,rfl,h,by rw[XN,o.length,XN],rfl,o⟩
theorem A7 {P:XX}{w:X6}{H:Hp}{kvs:List (List Int×D)}{vs:List V}{A:List Addr}{t:List Int}(o:aE P w H (kvs.map (·.2)) vs A)(h:fg kvs t=none):dZ ((kvs.map λp=>iK p.1).zip vs) (iK t)=none:=by
 have:=(lS (k:=iK t) (ks:=kvs.map λp=>iK p.1) (W:=λ_=>False) (by rw[XN,o.length,XN]) (o.rep λc _ z=>z)).1
 rw[vz,h]at this;exact aaM.mp (by rw[<- Option.not_isSome,this];rfl)
section
variable {X:Cx}{C:Cfg}{k e:Expr}{φ φk:aB}{i:Nat}{x:Str}{pos pos' px:Pos}{p pk:Bool}
theorem BR:PQ X C true (.Dict [] [] pos) (λβ R=>R (dA []) .own β) :=
 ⟨λβ R R' k h=>k _ _ _ h,tO.pre λσ H Q h p hp=>by
  obtain⟨β,own,s,q⟩:=h;refine q _ _ own ((Out.refl s _).same (ar.new hp)) ⟨[p],vU (kvs:=[]) (vs:=[]) ai ⟨rfl,rfl⟩,by simp,λc hc=>?_⟩
  rw[XW.mp hc];exact⟨hp,λz=>s.r9 p z hp,Yi λz=>s.fj p z hp⟩⟩
theorem xE (hu:X.A.units+1<Z7)(he:∀U,PQ X (C.u U) p e φ)(hk:∀U,PQ X (C.u U) pk k φk)(hn:Nm X i x:=by exact vY)
  (hs:Zj e (some (.Subscript (.Name x px) k pos')) pos.line X.env=pure false:=by rfl) :
  PB X C (.Assign [.Subscript (.Name x px) k pos'] e pos) (λE β=>φ β λd kd β1=>C8 kd d/\(∃kvs,β1[i]?=some (some (.own (dA kvs))))/\φk β1 λjd _ β2=>∃kvs t,jd=.tup (t.map D.int)/\β2[i]?=some (some (.own (dA kvs)))/\fg kvs t=none/\kvs.length<X3/\E.nx (β2.set i (some (.own (dA (kvs++[(t,d)])))))):=by
 refine⟨λE E' β l q=>(he λ_=>False).mono _ _ _ (λd kd β1 h=>by obtain⟨f,h0,q⟩:=h;exact⟨f,h0,(hk λ_=>False).mono _ _ _ (λjd _ β2 h=>by obtain⟨kvs,t,h1,h2,h3,h4,q⟩:=h;exact⟨kvs,t,h1,h2,h3,h4,l.nx _ q⟩) q⟩) q,λpins s σ H De I fJ=>?_⟩
 obtain⟨Z,E,β,⟨own,sq,n⟩,q,ok⟩:=fJ;refine qT hu (eR (pos:=px) hn) (hk λa=>H a=none).pe (he λa=>H a=none).pe hs pins s σ H De I ?_;refine tQ.of (he λa=>H a=none) (sq.iP (C:=C.z) (U:=λa=>H a=none) λa z=>z) q λd kd β1 v H1 au iG o r=>?_;obtain⟨f,⟨RI,AH⟩,q⟩:=iG;obtain⟨v0,vj,VQ,_⟩:=o.sq.ow i _ AH;refine⟨v0,vj,tQ.of (hk λa=>H a=none) o.sq q λjd kj β2 jv H2 aU oK o2 r2=>?_⟩;obtain⟨kvs,t,e1,hb,hn,hl,q⟩:=oK;subst e1;obtain⟨A,r1,rn,r3⟩:=(r.fl f).held (by intro z;cases z) o2.sn
 obtain⟨v1,Ih,ow,h0⟩:=o2.sq.ow i _ hb;rw[vj]at Ih;cases Ih;obtain⟨a,vs,A',rfl,ha,l,eA,os⟩:=ow;obtain⟨b,us,rfl,Ir,rt⟩:=r2.rep;rw[L2.bY rt]at Ir;have Ik:a∈aU i:=by rw[eA];simp
 have nd:=o2.sq.i_ i;rw[eA]at nd;have oM:putK ((kvs.map λp=>iK p.1).zip vs) (iK t) v=((kvs++[(t,d)]).map λp=>iK p.1).zip (vs++[v]):=by
  rw[mM v (A7 os hn),X1,List.zip_append l];rfl
 refine⟨a,_,rfl,.inr ⟨_,iK t,b,ha,rfl,by rw[pU];exact Ir,by rw[List.length_zip,<- l,Nat.min_self,XN];exact hl,rfl⟩,?_⟩
 have kt:∀c xs,H2 c=some (.tup xs)->upd H2 a (.dT (putK ((kvs.map λp=>iK p.1).zip vs) (iK t) v)) c=some (.tup xs):=λc xs z=>by rw[ao (λz'=>by rw[z',ha]at z;cases z)];exact z
 have UA:∀c∈A',c≠a:=λc hc z=>(Yj.mp nd).1 (z▸hc);have nA:∀c∈A,c≠a:=λc hc z=>(r3 c hc).2.1 ⟨i,by rw[z];exact Ik⟩
 have r':Own X.prog X.w (upd H2 a (.dT (putK ((kvs.map λp=>iK p.1).zip vs) (iK t) v))) (dA (kvs++[(t,d)])) (.ref a) (a::(A'++A)):=by
  refine vU (vs:=vs++[v]) (by rw[ai,oM]) ?_
  rw[X1];exact(os.keep kt λc hc oc z=>by rw[ao (UA c hc)];exact z).append (aE.one (r1.keep kt λc hc oc z=>by rw[ao (nA c hc)];exact z))
 have RC:(a::(A'++A)).Nodup:=by
  refine Yj.mpr ⟨λz=>?_,YK.mpr ⟨(Yj.mp nd).2,rn,λc hc c' uv z=>(r3 c' uv).2.1 ⟨i,by rw[eA,<- z];simp[hc]⟩⟩⟩
  rcases XZ.mp z with z|z
  ·exact UA a z rfl
  ·exact nA a z rfl
 have hA:∀c∈a::(A'++A),c∈aU i\/(C.H0 c=none/\¬ Wn aU c/\(λa=>H a=none) c):=λc hc=>by
  rcases XU.mp hc with rfl|hc
  ·exact .inl Ik
  ·rcases XZ.mp hc with hc|hc
   ·exact .inl (by rw[eA];simp[hc])
   ·exact .inr ⟨(r3 c hc).2.2,(r3 c hc).2.1,(r3 c hc).1⟩
 exact ok.nx _ _ _ ⟨_,o2.sq.Fu (C:=C) (U:=λa=>H a=none) (U2:=λ_=>False) hb vj Ik r' RC hA (λ_ z=>z.elim) (λ_ _ z=>z),iX (C:=C) ((n.trans o.sn).trans o2.sn) (λb z=>n.free z) ⟨i,Ik⟩ ⟨_,ha,λxs z=>by cases z⟩ hA⟩ q
end
end L2.Q
namespace L2
open PySem PySem.Spec PySem.SeqAt PyProof.Rows
def Qw (lo:Int)(n:Nat):It:=⟨λi _=>i<n,λi H x H'=>H'=H/\x=.int (lo-i),λi _=>n<=i⟩
theorem sJ {P:XX}{w:X6}{K:PySem.W.Frag}{tg:Expr}(it:Addr)(lo:Int)(n:Nat):Turn P w K tg (Qw lo n) [it] it (λi h=>IsRangeIter h it (lo+(i:Nat)*(-1)) ((n:Int)-(i:Nat)) (-1)) where
 mem:=by simp
 obj:=λi h st b hb=>by
  have e:b=it:=by simpa using hb
  subst e;exact⟨_,st,λv z=>by
   have z':Data.fields _=Data.cell v:=z;cases z'⟩
 keep:=λi h h' st k=>k it (by simp) _ st
 item:=by
  intro X hP hw hK hc i pins s σ H E I hf st hg;subst hP hw hK;obtain⟨f0,f1,f2,f3,f4,f5⟩:=hf it (by simp)
  have W:=Walks.range (prog:=X.prog) (w:=X.w) (I.ok.hd hc) it lo (-1) n;refine W.item i s _ _ hg st λv h' tk hv vh kk=>?_;obtain⟨t,rfl⟩:=hv;have I1:Inv X pins σ H {s with heap:=h',toks:=tk}:=I.turned (λb o hb e=>kk b o (by simpa using hb) e) f0 f1 f3 f4 f5
  refine⟨_,rfl,ux (s:={s with heap:=h',toks:=tk}) (n:="range_iterator") vh rfl rfl (by decide) ⟨.int (lo-i),H,I1,⟨t,?_⟩,⟨rfl,rfl⟩,vh,λb hb=>(hf b hb).1⟩⟩
  rw[Int.mul_neg,Int.mul_one];rfl
 done:=by
  intro X hP hw hK hc i pins s σ H E I hf st hg;subst hP hw hK;obtain⟨f0,f1,f2,f3,f4,f5⟩:=hf it (by simp)
  exact wpAny_pyNext_range_end (I.ok.hd hc) st (by have:n<=i:=hg;lia) λh' eb=>⟨rfl,I.turned (t':=s.toks) (λb o hb e=>eb b o hb e) f0 f1 f3 f4 f5⟩
 self:=λ_ _ _ _ _ st h=>wpAny_pyIter_rangeiter st h
theorem iT (a b:Int):ZV a b (-1)=if b<a then a-b else 0:=by
 unfold ZV;rw[if_neg (by decide)]
 by_cases h:b<a
 ·rw[if_pos h,if_pos h,show -(-1:Int)=1 by decide,Int.ediv_one];lia
 ·rw[if_neg h,if_neg h]
theorem yV {a b:Int}(ha:-(2 ^ 62)<=a)(vm:a<2 ^ 62)(hb:-(2 ^ 62)<=b)(pV:b<2 ^ 62):Builtin.Range.small a b (-1)=true:=by
 unfold Builtin.Range.small;rw[iT];simp only[Builtin.Range.rangeFitsLong,Yu,aaC,decide_eq_true_eq,beq_iff_eq,show ¬ ((-1:Int)>0) by decide,if_false]
 split <;> lia
section
variable {X:Cx}{tg:Expr}
theorem ze {pins:List (Addr×Obj)}{σ:St}{H:Hp}{s:XQ}{R:It->Hp->Prop}{E:XO->XQ->Prop}{lo hi:Int}{t u v:Tok}{tk:Nat}(I:Inv X pins σ H s)(h1:-(2 ^ 62)<=lo)(h2:lo<2 ^ 62)(h3:-(2 ^ 62)<=hi)(h4:hi<2 ^ 62)
  (q:R (Qw lo (lo-hi).toNat) H):Ye (model X.prog X.w) X.A (pyIter (.ref s.heap.objs.size)) (LZ X pins σ tg R) E {s with heap:=s.heap.push {cls:=.type "range",data:=.fields #[.int lo t,.int hi u,.int (-1) v]},toks:=tk}:=by
 refine wpAny_pyIter_range (IsRange.new ..) (yV h1 h2 h3 h4) ?_;have I1:Inv X pins σ H {s with heap:=s.heap.push {cls:=.type "range",data:=.fields #[.int lo t,.int hi u,.int (-1) v]},toks:=tk}:=I.kept λb o e=>XR _ e
 refine⟨(s.heap.push {cls:=.type "range",data:=.fields #[.int lo t,.int hi u,.int (-1) v]}).objs.size,[(s.heap.push {cls:=.type "range",data:=.fields #[.int lo t,.int hi u,.int (-1) v]}).objs.size],_,_,H,rfl,
  I1.kept (t':=tk) λb o e=>XR _ e,sJ _ lo (lo-hi).toNat,?_,λb hb=>?_,q⟩
 ·have e1:lo+((0:Nat):Int)*(-1)=lo:=by simp
  have e2:(((lo-hi).toNat:Nat):Int)-((0:Nat):Int)=ZV lo hi (-1):=by rw[iT];split <;> lia
  show IsRangeIter _ _ (lo+((0:Nat):Int)*(-1)) ((((lo-hi).toNat:Nat):Int)-((0:Nat):Int)) (-1);rw[e1,e2];exact X_ _ rfl
 ·have e:b=(s.heap.push {cls:=.type "range",data:=.fields #[.int lo t,.int hi u,.int (-1) v]}).objs.size:=by simpa using hb
  subst e;exact I1.rN (XS _) (I1.a5.fresh (XS _))
def NU (ta:TA):TI:=λσ H R=>ta σ H λvs H1=>∃i j:Int,vs=[.int i,.int j,.int (-1)]/\(-(2 ^ 62)<=i/\i<2 ^ 62/\-(2 ^ 62)<=j/\j<2 ^ 62)/\R (Qw i (i-j).toNat) H1
theorem zl {a b c:Expr} {ta:TA} {p pos:Pos} (hg:Gl X "range") (hm:X.mg "range" = none) (ha:PA X [a,b,c] ta) (hs:X2 [a,b,c] X.env=[(false,eval a X.env),(false,eval b X.env),(false,eval c X.env)]:=by rfl) (jT:X2 [b,c] X.env=[(false,eval b X.env),(false,eval c X.env)]:=by rfl) :
  PI X tg (.Call (.Name "range" p) [a,b,c] [] pos) (NU ta):=by
 intro pins s σ H R I h;refine Call_ (fH I hg hm boot_range (Y0 (bu (ha pos pins s σ H _ I h) λus s1 fJ=>?_) (by rw[hs,jT]) (by rw[jT];rfl)))
 obtain⟨vs,H1,I1,r1,q1⟩:=fJ;obtain⟨i,j,e,⟨q1,q2,q3,q4⟩,q⟩:=q1;subst e;cases r1 with
 |cons r rr =>
  cases rr with
  |cons r' rr =>
   cases rr with
   |cons Uq rr =>
    cases rr;obtain⟨t,rfl⟩:=r;obtain⟨t',rfl⟩:=r';obtain⟨Xv,rfl⟩:=Uq;exact call_range_3 (by decide) (ze I1 q1 q2 q3 q4 q) (.inl (PyProof.noPylong_of_log2 (by decide +kernel)))
def zd (hi:Int)(n:Nat):List D:=(X7 n).map λ(k:Nat)=>D.int (hi-(k:Int))
theorem mK {hi:Int}{n i:Nat}{d:D}(h:(zd hi n)[i]?=some d):i<n/\d=.int (hi-i):=by
 unfold zd at h;rw[X5]at h
 by_cases hi:i<n
 ·rw[Y3 hi]at h;cases h;exact⟨hi,rfl⟩
 ·rw[YQ (by simpa using hi)]at h;cases h
theorem mJ {hi:Int}{n:Nat}:(zd hi n).length=n:=by unfold zd;simp
theorem wd {W:Addr->Prop}{H:Hp}{lo:Int}{n:Nat}:rW X W (Qw lo n) (zd lo n) H:=λ_ _ i H' k=>by
 constructor
 ·intro d hd;obtain⟨hi,rfl⟩:=mK hd;refine⟨hi,λx H1 y=>?_⟩;obtain⟨rfl,rfl⟩:=y;exact⟨ar.refl _,rfl⟩
 ·intro hl;rw[mJ]at hl;exact hl
end
end L2
namespace L2.Q
open PySem PySem.Spec PySem.SeqAt PyProof.Rows
section
variable {X:Cx}{C:Cfg}{tg a b c:Expr}{φs:cg}{p:Bool}{pp pos:Pos}
def Gz (φs:cg):bz:=λβ R=>φs β λds _ β'=>∃i j:Int,ds=[.int i,.int j,.int (-1)]/\(-(2 ^ 62)<=i/\i<2 ^ 62/\-(2 ^ 62)<=j/\j<2 ^ 62)/\R (zd i (i-j).toNat) .dY β'
theorem Ph {W:Addr->Prop}{H:Hp}{a b c:D}{xs:List V}(h:jx X W H [a,b,c] xs):∃x y z,xs=[x,y,z]/\Rp X W H a x/\Rp X W H b y/\Rp X W H c z:=by
 obtain⟨x,r,rfl,hx,y,r',rfl,hy,z,Uq,rfl,hz,hr⟩:=h;cases hr;exact⟨x,y,z,rfl,hx,hy,hz⟩
theorem mP (hm:X.mg "range" = none) (ha:sg X C p [a,b,c] φs) (hg:Gl X "range" := by rfl) (hs:X2 [a,b,c] X.env=[(false,eval a X.env),(false,eval b X.env),(false,eval c X.env)]:=by rfl) (jT:X2 [b,c] X.env=[(false,eval b X.env),(false,eval c X.env)]:=by rfl) :
  o8 X C p tg (.Call (.Name "range" pp) [a,b,c] [] pos) (Gz φs) :=
 ⟨λβ R R' k q=>ha.mono β _ _ (λd kd β' h=>by obtain⟨i,j,e,h1,q⟩:=h;exact⟨i,j,e,h1,k _ _ _ q⟩) q,(zl hg hm ha.pa hs jT).pre λσ H R h=>by
  obtain⟨β,own,s,q⟩:=h;refine vg.of ha s q λds ks β' vs H1 au h o1 r1=>?_;obtain⟨i,j,e,h1,q1⟩:=h;subst e;obtain⟨x,y,z,rfl,hx,hy,hz⟩:=Ph r1.i6;cases hx;cases hy;cases hz;exact⟨i,j,rfl,h1,q1 _ _ au o1 wd⟩⟩
end
structure Pp (X:Cx)(C:Cfg)(tg iter:Expr)(ι:bz):Prop where
 mono:∀β R R',(∀d k β,R d k β->R' d k β)->ι β R->ι β R'
 pi:PI X tg iter λσ H R=>∃β own,SQ X C σ H β own/\ι β λds k β'=>∀J H',ar H H'->SQ X C σ H' β' own->rW X (dD C (Wn own) k) J ds H'->R J H'
section
variable {X:Cx}{C:Cfg}{tg a b:Expr}{φs:cg}{pp pos:Pos}{i:Nat}{x:Str}
theorem mO (hm:X.mg "range" = none) (ha:sg X C true [a,b] φs) (hg:Gl X "range" := by rfl) (hs:X2 [a,b] X.env=[(false,eval a X.env),(false,eval b X.env)]:=by rfl) (jT:X2 [b] X.env=[(false,eval b X.env)]:=by rfl) :
  Pp X C tg (.Call (.Name "range" pp) [a,b] [] pos) (yc φs) :=
 ⟨λβ R R' k q=>ha.mono β _ _ (λd kd β' h=>by obtain⟨i,j,e,h1,q⟩:=h;exact⟨i,j,e,h1,k _ _ _ q⟩) q,(pF hg hm ha.pa hs jT).pre λσ H R h=>by
  obtain⟨β,own,s,q⟩:=h;refine vg.of ha s q λds ks β' vs H1 au h o1 r1=>?_;obtain⟨i,j,e,h1,q1⟩:=h;subst e;obtain⟨s1,rfl⟩:=o1.pu rfl;obtain⟨x,y,rfl,hx,hy⟩:=oh r1.i6;cases hx;cases hy;exact⟨i,j,rfl,h1,q1 _ _ s1 o1.sq kU⟩⟩
def KU (i:Nat):bz:=λβ R=>∃y ds,β[i]?=some (some (.val y (.tup ds)))/\R ds (yk y) β
theorem zh (hn:Nm X i x:=by exact vY):Pp X C tg (.Name x pos) (KU i) :=
 ⟨λβ R R' k h=>by obtain⟨y,ds,e,q⟩:=h;exact⟨y,ds,e,k _ _ _ q⟩,(JM (eR (pos:=pos) hn)).pre λσ H R h=>by
  obtain⟨β,own,s,y,ds,e,q⟩:=h;obtain⟨v,hv,p,vs,rfl,h1,rs⟩:=s.val i y _ e;exact⟨_,hv,p,rfl,⟨vs,kh.of h1⟩,q _ _ (ar.refl _) s (Gv h1 rs)⟩⟩
end
structure SC (X:Cx)(C:Cfg)(W0:Addr->Prop)(T:List Nat)(σ0:St)(H1:Hp)(a:Addr)(Hb:Hp)(Wb:Addr->Prop)(Ac:Hp->Prop)(β:aL)(σ':St)(H':Hp)(own:Nat->List Addr):Prop where
 sq:SQ X (C.u λc=>c=a) σ' H' β own
 sn:Sn (H1,W0) H' (Wn own)
 le:∀c,Wn own c->Wb c
 ac:Ac H'
 pu:ar H1 H'
 bs:∀b ob,b≠a->Hb b=some ob->H' b=some ob
 st:∀j,j∉T->σ'[j]?=σ0[j]?
abbrev o7 {α:Type}(X:Cx)(C:Cfg)(W0:Addr->Prop)(T:List Nat)(σ0:St)(H1:Hp)(a:Addr)(Hb:Hp)(Wb:Addr->Prop)(Ac:α->Hp->Prop)(β:aL)(o:α)(σ':St)(H':Hp):Prop:=∃own,SC X C W0 T σ0 H1 a Hb Wb (Ac o) β σ' H' own
structure vf {α:Type}(a:Addr)(Ac:α->Hp->Prop):Prop where
 same:∀o H H',ar H H'->Ac o H->Ac o H'
 Np:∀o H xs,Ac o H->H a≠some (.tup xs)
abbrev Ay (X:Cx)(C:Cfg)(a:Addr)(T:List Nat)(γ:bW):TG:=λv σ H Q=>∃own β d k,SQ X (C.u λc=>c=a) σ H β own/\Rp X (dD (C.u λc=>c=a) (Wn own) k) H d v/\γ d k β λβ'=>∀σ' aK,SQ X (C.u λc=>c=a) σ' H β' aK->(∀a,Wn aK a->Wn own a)->(∀j,j∉T->σ'[j]?=σ[j]?)->Q σ' H
abbrev PK (X:Cx)(C:Cfg)(a:Addr)(φ:aB):iN:=λN σ H=>tQ X (C.u λc=>c=a) true φ σ H λv H1=>∃xs,H1 a=some (.lst xs)/\xs.length<X3/\N σ (upd H1 a (.lst (xs++[v])))
section
variable {α:Type}{X:Cx}{C:Cfg}{W0:Addr->Prop}{T Tg:List Nat}{σ0:St}{H1:Hp}{a:Addr}{Hb:Hp}{Wb:Addr->Prop}{γ:bW}{τ:aN}{φ:aB}{Ac:α->Hp->Prop}
theorem SC.next {o:α}(hA:vf a Ac){β β':aL}{σ σ':St}{H H':Hp}{own aK:Nat->List Addr}(s:SC X C W0 T σ0 H1 a Hb Wb (Ac o) β σ H own)(sq:SQ X (C.u λc=>c=a) σ' H' β' aK)(w:∀c,Wn aK c->Wn own c)(sm:ar H H')(t:∀j,j∉T->σ'[j]?=σ[j]?):
  SC X C W0 T σ0 H1 a Hb Wb (Ac o) β' σ' H' aK :=
 ⟨sq,f9 (s.sn.same sm) w,λc z=>s.le c (w c z),hA.same o _ _ sm s.ac,s.pu.trans sm,λb ob n e=>sm _ _ (s.bs b ob n e),λj hj=>(t j hj).trans (s.st j hj)⟩
theorem SC.put {A:Hp->Prop}{A':Hp->Prop}(h0:C.H0 a=none)(ha:H1 a=none){β:aL}{σ:St}{H:Hp}{own:Nat->List Addr}{oa ob:HO}(s:SC X C W0 T σ0 H1 a Hb Wb A β σ H own)(e:H a=some oa)(nt:∀xs,oa≠.tup xs)(q:A' (upd H a ob)):
  SC X C W0 T σ0 H1 a Hb Wb A' β σ (upd H a ob) own:=by
 refine⟨s.sq.Fm e nt h0,⟨s.sn.w,s.sn.k.trans ((jh e nt).mono λb z=>.inr (by rw[z];exact ha)),λb z e=>?_⟩,s.le,q,λb o e=>?_,λb o n e=>?_,s.st⟩
 ·by_cases hb:b=a
  ·rw[hb,ai]at e;cases e
  ·rw[ao hb]at e;exact s.sn.d b z e
 ·rw[ao (λz'=>by rw[z',ha]at e;cases e)]
  exact s.pu b o e
 ·rw[ao n];exact s.bs b o n e
def Qz (P:XX)(w:X6)(H1:Hp)(a:Addr)(o:List D)(H:Hp):Prop:=∃vs A,H a=some (.lst vs)/\aE P w H o vs A/\A.Nodup/\∀c∈A,H1 c=none/\c≠a
theorem lb {P:XX}{w:X6}:vf a (Qz P w H1 a):=⟨λo H H' s h=>by
  obtain⟨vs,A,h1,h2,h3,h4⟩:=h;exact⟨vs,A,s _ _ h1,h2.keep (λb xs e=>s _ _ e) λc _ oc e=>s _ _ e,h3,h4⟩,λo H xs h z=>by
  obtain⟨vs,A,h1,_⟩:=h;rw[h1]at z;cases z⟩
def DV (φ:aB)(o:List D)(β:aL)(N:aL->List D->Prop):Prop:=φ β λx kx β3=>C8 kx x/\o.length<X3/\N β3 (o++[x])
theorem qO (h0:C.H0 a=none)(ha:H1 a=none)(φm:∀β R R',(∀d k β,R d k β->R' d k β)->φ β R->φ β R'){β:aL}{o:List D}{σ:St}{H:Hp}{N:aL->List D->Prop}(s:o7 X C W0 T σ0 H1 a Hb Wb (Qz X.prog X.w H1 a) β o σ H)(q:DV φ o β N):
  PK X C a φ (λσ' H'=>∃β' o',o7 X C W0 T σ0 H1 a Hb Wb (Qz X.prog X.w H1 a) β' o' σ' H'/\N β' o') σ H:=by
 obtain⟨own,s⟩:=s;refine⟨β,own,s.sq,φm _ _ _ (λxd kx β6 fJ v H6 tU o6 r6=>?_) q⟩;obtain⟨f,hz,q⟩:=fJ;obtain⟨sm,rfl⟩:=o6.pu rfl;have s6:=s.next lb (o6.sq) (λ_ z=>z) sm (λ_ _=>rfl)
 obtain⟨B',r1,r2,r3⟩:=r6.fl f;obtain⟨vs,A,at',os,nd,nw⟩:=s.ac;have k7:H6 a=some (.lst vs):=sm _ _ at';have HZ:∀c∈B',c≠a:=λc hc z=>by rw[z]at hc;exact absurd (at'.symm.trans (r3 a hc).1) (λz=>(nomatch z))
 have kt:∀b xs,H6 b=some (.tup xs)->upd H6 a (.lst (vs++[v])) b=some (.tup xs):=λb xs z=>by rw[ao (λz'=>by rw[z',k7]at z;cases z)];exact z
 refine⟨vs,k7,by rw[os.length];exact hz,β6,o++[xd],⟨tU,s6.put h0 ha k7 (λxs z=>by cases z) ⟨vs++[v],A++B',ai,?_,?_,λc hc=>?_⟩⟩,q⟩
 ·exact(os.keep (λb xs e=>kt b xs (sm _ _ e)) λc hc oc e=>by rw[ao (nw c hc).2];exact sm _ _ e).append (aE.one (r1.keep kt λc hc oc e=>by rw[ao (HZ c hc)];exact e))
 ·refine YK.mpr ⟨nd,r2,λx hx y hy e=>?_⟩;subst e;exact(os.nS x hx).1 (r3 x hy).1
 ·rcases XZ.mp hc with hc|hc
  ·exact nw c hc
  ·exact⟨s.sn.free (r3 c hc).1,HZ c hc⟩
def gG {α:Type}(γ:bW)(τ:aN)(Af:α->aL->(aL->α->Prop)->Prop)(ds:List D)(k:Kd)(β0:aL)(o0:α)(F:aL->α->Prop):Prop:=∃I:Nat->aL->α->Prop,I 0 β0 o0 /\
 (∀i d β o,ds[i]?=some d->I i β o->γ d (sk k d) β λβ1=>τ β1 λt β2=>if t=true then Af o β2 (I (i+1)) else I (i+1) β2 o)/\∀β o,I ds.length β o->F β o
theorem gG.mono {Af:α->aL->(aL->α->Prop)->Prop}{ds:List D}{k:Kd}{β0:aL}{o0:α}{F F':aL->α->Prop}(h:∀β o,F β o->F' β o)(q:gG γ τ Af ds k β0 o0 F):gG γ τ Af ds k β0 o0 F':=by
 obtain⟨I,h0,h1,h2⟩:=q;exact⟨I,h0,h1,λβ o z=>h _ _ (h2 β o z)⟩
theorem xm (hA:vf a Ac)(hT:∀j∈Tg,j∈T)(γm:∀d k β R R',(∀r,R r->R' r)->γ d k β R->γ d k β R')(τm:∀β R R',(∀d β,R d β->R' d β)->τ β R->τ β R'){J:It}{ds:List D}{k:Kd}{Af:α->aL->(aL->α->Prop)->Prop}{ta:iN}{F:aL->α->Prop}{End:St->Hp->Prop}{β0:aL}{o0:α}{σ1:St}{Hs:Hp}
  (it:∀i β o σ' H',o7 X C W0 T σ0 H1 a Hb Wb Ac β o σ' H'->(∀d,ds[i]?=some d->J.go i H'/\∀x H3,J.Mt i H' x H3->ar H' H3/\∀own,(∀c,Wn own c->Wb c)->az X.prog X.w (dD (C.u λc=>c=a) (Wn own) k) H3 d x)/\(ds.length<=i->J.stop i H'))
  (N1:∀β o σ' H' N,o7 X C W0 T σ0 H1 a Hb Wb Ac β o σ' H'->Af o β N->ta (λAQ Aw=>∃β' o',o7 X C W0 T σ0 H1 a Hb Wb Ac β' o' AQ Aw/\N β' o') σ' H')
  (s0:o7 X C W0 T σ0 H1 a Hb Wb Ac β0 o0 σ1 Hs) (q:gG γ τ Af ds k β0 o0 F) (fin:∀β o σ' H',o7 X C W0 T σ0 H1 a Hb Wb Ac β o σ' H'->F β o->End σ' H') :
  dw J (Ay X C a Tg γ) (ib X (C.u λc=>c=a) true τ) ta End σ1 Hs:=by
 obtain⟨I,i0,i1,i2⟩:=q;refine⟨λi m σ' H'=>i<=ds.length/\m=ds.length-i/\∃β o,o7 X C W0 T σ0 H1 a Hb Wb Ac β o σ' H'/\I i β o,⟨_,Yh _,rfl,β0,o0,s0,i0⟩,?_⟩;rintro i m σ2 H2 ⟨hi,rfl,β,o,sE,hl⟩;obtain⟨br,fM⟩:=it i β o σ2 H2 sE
 by_cases iH:i<ds.length
 ·right
  have hd:ds[i]?=some ds[i]:=XY iH;obtain⟨go,yl⟩:=br _ hd;refine⟨go,λσ' H'=>∃β' o',o7 X C W0 T σ0 H1 a Hb Wb Ac β' o' σ' H'/\I (i+1) β' o',λσ' H' h=>⟨_,by omega,iH,rfl,h⟩,λx H3 y=>?_⟩
  obtain⟨s3,r3⟩:=yl x H3 y;obtain⟨own,s⟩:=sE;refine⟨own,β,_,_,s.sq.same s3,my (r3 own s.le),γm _ _ _ _ _ (λβ4 q σ4 mT s4 w4 t4=>?_) (i1 i _ β o hd hl)⟩;have VD:=s.next hA s4 w4 s3 λj hj=>t4 j λz=>hj (hT j z)
  refine⟨β4,mT,s4,τm _ _ _ (λt β5 q H5 iE o5=>?_) q⟩;obtain⟨MO,rfl⟩:=o5.pu rfl;have Uk:=VD.next hA o5.sq (λ_ z=>z) MO λ_ _=>rfl
  cases t with
  |false=>exact⟨β5,o,⟨_,Uk⟩,q⟩
  |true=>exact N1 β5 o σ4 H5 _ ⟨_,Uk⟩ q
 ·left
  have e:i=ds.length:=by omega
  subst e;exact⟨fM (XS _),fin β o σ2 H2 sE (i2 β o hl)⟩
def CF {α:Type}(ι:bz)(γ:bW)(τ:aN)(Af:α->aL->(aL->α->Prop)->Prop)(o:α)(β:aL)(N:aL->α->Prop):Prop:=ι β λds k β1=>gG γ τ Af ds k β1 o N
theorem qM (hA:vf a Ac){ι:bz}(hT:∀j∈Tg,j∈T)(γm:∀d k β R R',(∀r,R r->R' r)->γ d k β R->γ d k β R')(τm:∀β R R',(∀d β,R d β->R' d β)->τ β R->τ β R'){Af:α->aL->(aL->α->Prop)->Prop}{ta:iN}
  (N1:∀Hb Wb β o σ' H' N,o7 X C W0 T σ0 H1 a Hb Wb Ac β o σ' H'->Af o β N->ta (λAQ Aw=>∃β' o',o7 X C W0 T σ0 H1 a Hb Wb Ac β' o' AQ Aw/\N β' o') σ' H')
  (ιm:∀β R R',(∀d k β,R d k β->R' d k β)->ι β R->ι β R') {β:aL} {o:α} {σ:St} {H:Hp} {N:aL->α->Prop} (s:o7 X C W0 T σ0 H1 a Hb Wb Ac β o σ H) (q:CF ι γ τ Af o β N) :
  ∃β own,SQ X (C.u λc=>c=a) σ H β own/\ι β λds k β'=>∀J H',ar H H'->SQ X (C.u λc=>c=a) σ H' β' own->rW X (dD (C.u λc=>c=a) (Wn own) k) J ds H' ->
   dw J (Ay X C a Tg γ) (ib X (C.u λc=>c=a) true τ) ta (λσ' H'=>∃β' o',o7 X C W0 T σ0 H1 a Hb Wb Ac β' o' σ' H'/\N β' o') σ H':=by
 obtain⟨own,s⟩:=s;refine⟨β,own,s.sq,ιm _ _ _ (λds k β1 q J H' sm sq V5=>?_) q⟩;have s1:=s.next hA sq (λ_ z=>z) sm λ_ _=>rfl
 have hu:dD (C.u λc=>c=a) (Wn own) k a:=.inr rfl;refine xm (Hb:=H') (Wb:=Wn own) hA hT γm τm (λi βx ox σx Hx sx=>?_) (λβx ox σx Hx Nx sx qx=>N1 _ _ _ _ _ _ _ sx qx) ⟨own,⟨s1.sq,s1.sn,λ_ z=>z,s1.ac,s1.pu,λ_ _ _ e=>e,s1.st⟩⟩ q λβx ox σx Hx sx hx=>?_
 ·obtain⟨FR,sx⟩:=sx;have kp:Kp (λb=>dD (C.u λc=>c=a) (Wn own) k b\/H' b=none) H' Hx:=⟨λb ob e n=>sx.bs b ob (λz=>n (.inl (by rw[z];exact hu))) e,λb xs e=>sx.bs b _ (λz=>hA.Np _ _ _ s1.ac (by rw[<- z];exact e)) e⟩
  obtain⟨g1,g2⟩:=V5 (λb=>dD (C.u λc=>c=a) (Wn own) k b\/H' b=none) (λb z=>z) i Hx kp;refine⟨λd hd=>?_,g2⟩;obtain⟨go,yl⟩:=g1 d hd;refine⟨go,λx H3 y=>?_⟩;obtain⟨s3,r3⟩:=yl x H3 y;exact⟨s3,λaK RH=>az.aQ (λb z=>.inl (dB RH k b z)) r3⟩
 ·obtain⟨FR,sx⟩:=sx;exact⟨βx,ox,⟨FR,⟨sx.sq,sx.sn,λc z=>s.le c (sx.le c z),sx.ac,sx.pu,λb ob n e=>sx.bs b ob n (s1.bs b ob n e),sx.st⟩⟩,hx⟩
theorem fR {lk:List (Option Nat)}{σ:St}{β:aL}{own:Nat->List Addr}{oa:HO}(hA:vf a Ac){Af:α->aL->(aL->α->Prop)->Prop}{ta:iN}{J:It}{ds:List D}{k:Kd}{o0:α}{K:α->Prop}{End:Hp->Prop}
  (γm:∀d k β R R',(∀r,R r->R' r)->γ d k β R->γ d k β R') (τm:∀β R R',(∀d β,R d β->R' d β)->τ β R->τ β R') (WH:∀j∈Tg,j∈T)
  (inj:∀(i i' j:Nat),lk[i]?=some (some j)->lk[i']?=some (some j)->i=i') (hT:∀i∈T,∀j,lk[i]?≠some (some j))
  (s1:SQ X C σ H1 β own) (ha:H1 a=none) (hk:hold k false) (it:rW X (av C (Wn own) k) J ds H1) (a0:Ac o0 (upd H1 a oa)) (ent:SQ X (C.u λc=>c=a) (b8 lk σ) (upd H1 a oa) (b5 lk β) (bF lk β own))
  (N1:∀Hb Wb β' o σ' H' N,C.H0 a=none->o7 X C (Wn (bF lk β own)) T (b8 lk σ) H1 a Hb Wb Ac β' o σ' H'->Af o β' N->ta (λAQ Aw=>∃β' o',o7 X C (Wn (bF lk β own)) T (b8 lk σ) H1 a Hb Wb Ac β' o' AQ Aw/\N β' o') σ' H')
  (q:gG γ τ Af ds k (b5 lk β) o0 λβf o=>dN (b5 lk β) βf/\K o)
  (fin:∀o H',K o->Out X C σ H1 own true β H' own->Ac o H'->End H') :
  dw J (Ay X C a Tg γ) (ib X (C.u λc=>c=a) true τ) ta (λ_ H'=>End H') (b8 lk σ) (upd H1 a oa):=by
 have h0:C.H0 a=none:=Yi λz=>s1.fj a z ha;have sm:ar H1 (upd H1 a oa):=ar.new ha;refine xm (W0:=Wn (bF lk β own)) (T:=T) (σ0:=b8 lk σ) (H1:=H1) (Hb:=H1) (Wb:=Wn (bF lk β own)) hA WH γm τm (λi βx ox σx Hx sx=>?_) (λβx ox σx Hx Nx sx qx=>N1 _ _ _ _ _ _ _ h0 sx qx)
  ⟨bF lk β own,⟨ent,⟨λb z=>.inl z,sm.kp,λb z e=>z (sm.free e)⟩,λ_ z=>z,a0,sm,λb ob n e=>sm _ _ e,λ_ _=>rfl⟩⟩ q λβx ox σx Hx sx hx=>?_
 ·obtain⟨FR,sx⟩:=sx;have kI:Kp (λb=>av C (Wn own) k b\/H1 b=none) H1 Hx:=sx.pu.kp;obtain⟨g1,g2⟩:=it (λb=>av C (Wn own) k b\/H1 b=none) (λb z=>z) i Hx kI;refine⟨λd hd=>?_,g2⟩;obtain⟨go,yl⟩:=g1 d hd;refine⟨go,λx H3 y=>?_⟩;obtain⟨s3,r3⟩:=yl x H3 y;exact⟨s3,λaK RH=>az.aQ (λc z=>z.elim (λz=>.inl (gB (λc z=>bE c (RH c z)) k c z)) λz=>.inr (by rw[z];exact ha)) r3⟩
 ·obtain⟨FR,sx⟩:=sx;obtain⟨hh,hK⟩:=hx;have lv:SQ X C σ Hx β own:=s1.leave sx.sq sx.sn sx.le hh λj ok i' e1 e2=>sx.st i' λz=>hT i' z j e2;exact fin ox Hx hK ⟨lv,⟨λb z=>.inl z,sx.sn.k.mono λb z=>z.imp (bE b) id,sx.sn.d⟩,λz=>⟨sx.pu,rfl⟩,λ_ z=>z⟩ sx.ac
end
theorem w6 {X:Cx}{C:Cfg}{σ:St}{H1 H':Hp}{β:aL}{own:Nat->List Addr}{a:Addr}{o:List D}(s1:SQ X C σ H1 β own)(ha:H1 a=none)(h:Qz X.prog X.w H1 a o H'):KV X.prog X.w C (H1,Wn own) own H' .own (.lst o) (.ref a):=by
 obtain⟨vs,A,at',os,nd,nw⟩:=h;refine⟨a::A,⟨a,vs,A,rfl,at',rfl,os⟩,Yj.mpr ⟨λz=>(nw a z).2 rfl,nd⟩,λc hc=>?_⟩;have kl:H1 c=none:=by
  rcases XU.mp hc with rfl|hc
  ·exact ha
  ·exact(nw c hc).1
 exact⟨kl,λh=>by obtain⟨j,hj⟩:=h;exact(s1.dm j c hj).1 kl,Yi λz=>s1.fj c z kl⟩
def BB (lk:List (Option Nat))(ι:bz)(γ:bW)(τ:aN)(ι2:bz)(γ2:bW)(τ2:aN)(φ:aB):aB:=λβ R=>ι β λds k β1=>hold k false/\gG γ τ (CF ι2 γ2 τ2 (DV φ)) ds k (b5 lk β1) [] λβf o=>dN (b5 lk β1) βf/\R (.lst o) .own β1
section
variable {X:Cx}{C:Cfg}{lk:List (Option Nat)}{γ γ2:bW}{τ τ2:aN}{φ:aB}{T T2:List Nat}
variable {scope:ZE}{tg br iQ fM elt:Expr}{ifs cW:List Expr}{ι ι2:bz}{pi:Bool}{pos:Pos}{i:Nat}
theorem V2 (N':List Str)(lk:List (Option Nat))(L:eY X.env.scope.names X.N scope N' lk=true)(ji:N'.Nodup)(hc:X.calm=true)(hi:o8 X C pi tg br ι)
  (g9:∀a cl c s H ex,o9 (aq X scope N' cl c s H ex) (C.u λc=>c=a) tg T γ) (gI:∀a cl c s H ex,js (aq X scope N' cl c s H ex) (C.u λc=>c=a) true ifs τ)
  (Im:∀a cl c s H ex,Pp (aq X scope N' cl c s H ex) (C.u λc=>c=a) iQ fM ι2)
  (um:∀a cl c s H ex,o9 (aq X scope N' cl c s H ex) (C.u λc=>c=a) iQ T2 γ2) (uk:∀a cl c s H ex,js (aq X scope N' cl c s H ex) (C.u λc=>c=a) true cW τ2)
  (dJ:∀a cl c s H ex,PQ (aq X scope N' cl c s H ex) (C.u λc=>c=a) true elt φ) (hT:(T++T2).all (λi=>match lk[i]? with|some (some _)=>false|_=>true)=true:=by rfl)
  (hs:∀x,Yp br X.env x=pure x:=by intro _;rfl) (jT:∀cl c s H ex x,Yp fM (aq X scope N' cl c s H ex).env x=pure x:=by intro _ _ _ _ _ _;rfl):PQ X C pi (.ListComp elt [⟨tg,br,ifs,0⟩,⟨iQ,fM,cW,0⟩] scope pos) (BB lk ι γ τ ι2 γ2 τ2 φ):=by
 have L:=Links.of L;have uw:∀i∈T++T2,∀j,lk[i]?≠some (some j):=λi hi j e=>by
  have:=Zg.mp hT i hi;rw[e]at this;cases this
 have ax:Addr:=0;have XH:List (Str×Addr):=[];have γm:=(g9 0 [] 0 X.s₀ X.H₀ []).mono;have τm:=(gI 0 [] 0 X.s₀ X.H₀ []).mono;have AR:=(um 0 [] 0 X.s₀ X.H₀ []).mono;have AO:=(uk 0 [] 0 X.s₀ X.H₀ []).mono;have φm:=(dJ 0 [] 0 X.s₀ X.H₀ []).mono;have ιm:=(Im 0 [] 0 X.s₀ X.H₀ []).mono;refine⟨λβ R R' k h=>hi.mono β _ _ (λds kd β1 q=>⟨q.1,q.2.mono λ_ _ z=>⟨z.1,k _ _ _ z.2⟩⟩) h,?_⟩;refine(gY (g:=⟨tg,br,ifs,0⟩) (gs:=[⟨iQ,fM,cW,0⟩]) (tg:=λa=>Ay X C a T γ) (tt:=λa=>ib X (C.u λc=>c=a) true τ)
  (ta:=λa N σ H=>∃β own,SQ X (C.u λc=>c=a) σ H β own/\ι2 β λds k β'=>∀J H',ar H H'->SQ X (C.u λc=>c=a) σ H' β' own->rW X (dD (C.u λc=>c=a) (Wn own) k) J ds H' ->
   dw J (Ay X C a T2 γ2) (ib X (C.u λc=>c=a) true τ2) (PK X C a φ) N σ H')
  L hc fV rfl rfl (λ_ _=>El) hi.pi (λa cl c s H ex=>⟨(g9 a cl c s H ex).pg,(gI a cl c s H ex).pt,q_ (X:=aq X scope N' cl c s H ex) (g':=⟨iQ,fM,cW,0⟩) rfl hc Ek (Im a cl c s H ex).pi (um a cl c s H ex).pg (uk a cl c s H ex).pt (fU (X:=aq X scope N' cl c s H ex) rfl (dJ a cl c s H ex).pe) (jT cl c s H ex)⟩) hs).pre λσ H Q h=>?_
 obtain⟨β,own,s,h⟩:=h;refine⟨β,own,s,hi.mono β _ _ (λds k β1 h J H1 au o1 it a ha=>?_) h⟩;obtain⟨hk,q⟩:=h;refine fR (T:=T++T2) (lb (P:=X.prog) (w:=X.w) (H1:=H1)) γm τm (λj hj=>Yq _ hj) (bw L ji) uw o1.sq ha hk it ⟨[],[],ai,(show aE _ _ _ [] [] [] from ⟨rfl,rfl⟩),YA,λc hc=>(nomatch hc)⟩ (o1.sq.enter ha (bw L ji))
  (λHb Wb βx ox σx Hx Nx h0 sx qx=>qM lb (λj hj=>Yn _ hj) AR AO (λHb Wb βy oy σy Hy Ny sy qy=>qO h0 ha φm sy qy) ιm sx qx) q λo H' q o2 r=>?_
 refine q _ _ au ⟨o2.sq,o1.sn.trans o2.sn,λz=>⟨(o1.pu z).1.trans (o2.pu rfl).1,(o1.pu z).2⟩,o1.le⟩ ((w6 o1.sq ha r).later o1.sn)
end
end L2.Q
namespace L2
open PySem PySem.Spec PySem.SeqAt PyProof.Rows
section
variable {X:Cx}
theorem zx:jt X newDict (.dT []) :=
 ⟨λpins s σ H Q E I h=>Y8 (h _ _ (XS _) I.fresh (λb o e=>XR _ e) (I.laid (t':=s.toks) (λ_ _ q=>XR _ q) (XS _) (uN _ I.big)))⟩
theorem Cb {k v:Expr}{tk tv:TE}{a:Addr}(hx:X.xe=λ_ _=>False)(hu:X.A.units<Z7)(hk:PE X k tk)(hv:PE X v tv):
  ki X (gD (uM k v (.ref a) X.env)) (λN σ H=>tk σ H λy H1=>tv σ H1 λv H2=>∃kvs key b,H2 a=some (.dT kvs)/\y=.ref b/\H2 b=some (.tup (key.map kV))/\kvs.length<X3/\N σ (upd H2 a (.dT (putK kvs key v)))):=by
 intro pins s σ H N kk Q E I h hN;unfold gD uM;refine XM (XM (bu (cV hx (hk pins s σ H _ I h)) λu s1 fJ=>?_));obtain⟨y,H1,I1,r1,q⟩:=fJ;refine XM (YU (bu (cV hx (hv pins s1 σ H1 _ I1 q)) λw' s2 iG=>?_));obtain⟨v,H2,I2,r2,kvs,key,b,e,ey,eb,l,q2⟩:=iG;subst ey;cases (show u=Value.ref b from r1)
 refine XM (Zw (YU ?_));obtain⟨z,hd,xs,rel,dd⟩:=Iy I2.a5 e;have hz:xs.length<=X3:=by rw[<- Paired.length rel];exact z
 have hl:(putK kvs key v).length<=X3:=by have:=fv kvs key v;lia
 refine wpAny_dictSet_heap (hsz:=hz) (knd:=aau (aX X.prog X.w)) hu (kS I2.a5 eb) dd λh' Hc hs=>hN σ _ _ ?_ q2;obtain⟨q,es,ep,hq,h2,h3,h4,_,h5⟩:=Hc;refine l_ I2 (by rw[e];exact Zk) hs ⟨q,hq⟩ ⟨hl,hd,_,(rel.put key eb r2).keeps λc ys ec=>?_,q,es,ep,hq,h2,h3,h4,h5⟩
 rw[ao (t7 ec e (λz=>nomatch z))];exact ec
end
end L2
namespace L2.Q
open PySem PySem.Spec PySem.SeqAt PyProof.Rows
def T_ (P:XX)(w:X6)(a:Addr)(o:List (List Int×D))(H:Hp):Prop:=∃vs,H a=some (.dT ((o.map λp=>iK p.1).zip vs))/\aE P w H (o.map (·.2)) vs []
theorem EB {P:XX}{w:X6}{a:Addr}:vf a (T_ P w a):=⟨λo H H' s h=>by
  obtain⟨vs,h1,h2⟩:=h;exact⟨vs,s _ _ h1,h2.keep (λb xs e=>s _ _ e) λc hc=>(nomatch hc)⟩,λo H xs h z=>by
  obtain⟨vs,h1,_⟩:=h;rw[h1]at z;cases z⟩
abbrev Ui (X:Cx)(C:Cfg)(a:Addr)(φk φ:aB):iN:=λN σ H=>tQ X (C.u λc=>c=a) true φk σ H λy H1=>tQ X (C.u λc=>c=a) true φ σ H1 λv H2=>∃kvs key b,H2 a=some (.dT kvs)/\y=.ref b/\H2 b=some (.tup (key.map kV))/\kvs.length<X3/\N σ (upd H2 a (.dT (putK kvs key v)))
def DX (φk φ:aB)(o:List (List Int×D))(β:aL)(N:aL->List (List Int×D)->Prop):Prop:=φk β λkd _ β2=>φ β2 λx _ β3=>∃t,kd=.tup (t.map D.int)/\x.flat=true/\fg o t=none/\o.length<X3/\N β3 (o++[(t,x)])
section
variable {X:Cx}{C:Cfg}{W0:Addr->Prop}{T:List Nat}{σ0:St}{H1:Hp}{a:Addr}{Hb:Hp}{Wb:Addr->Prop}{φ φk:aB}
theorem Bp (h0:C.H0 a=none)(ha:H1 a=none)(vt:∀β R R',(∀d k β,R d k β->R' d k β)->φk β R->φk β R')(φm:∀β R R',(∀d k β,R d k β->R' d k β)->φ β R->φ β R'){β:aL}{o:List (List Int×D)}{σ:St}{H:Hp}{N:aL->List (List Int×D)->Prop}(s:o7 X C W0 T σ0 H1 a Hb Wb (T_ X.prog X.w a) β o σ H)(q:DX φk φ o β N):
  Ui X C a φk φ (λσ' H'=>∃β' o',o7 X C W0 T σ0 H1 a Hb Wb (T_ X.prog X.w a) β' o' σ' H'/\N β' o') σ H:=by
 obtain⟨own,s⟩:=s;refine⟨β,own,s.sq,vt _ _ _ (λkd kk β5 q v5 H5 iE o5 r5=>?_) q⟩;obtain⟨MO,rfl⟩:=o5.pu rfl;refine⟨β5,_,o5.sq,φm _ _ _ (λxd kx β6 oK v H6 tU o6 r6=>?_) q⟩;obtain⟨t,e1,f,hn,hz,q2⟩:=oK;obtain⟨sm,rfl⟩:=o6.pu rfl;have s6:=s.next EB o6.sq (λ_ z=>z) (MO.trans sm) (λ_ _=>rfl)
 subst e1;obtain⟨b,us,rfl,hb,rt⟩:=r5.rep;rw[L2.bY rt]at hb;obtain⟨vs,at',os⟩:=s6.ac;have Rc:Own X.prog X.w H6 xd v []:=cU f r6.rep;have l:(o.map λp=>iK p.1).length=vs.length:=by rw[XN,os.length,XN]
 have oM:putK ((o.map λp=>iK p.1).zip vs) (iK t) v=((o++[(t,xd)]).map λp=>iK p.1).zip (vs++[v]):=by
  rw[mM v (A7 os hn),X1,List.zip_append l];rfl
 have kt:∀c xs,H6 c=some (.tup xs)->upd H6 a (.dT (putK ((o.map λp=>iK p.1).zip vs) (iK t) v)) c=some (.tup xs):=λc xs z=>by rw[ao (λz'=>by rw[z',at']at z;cases z)];exact z
 refine⟨_,iK t,b,at',rfl,by rw[pU];exact sm _ _ hb,by rw[List.length_zip,<- l,Nat.min_self,XN];exact hz,β6,o++[(t,xd)],⟨_,s6.put h0 ha at' (λxs z=>by cases z) ⟨vs++[v],by rw[ai,oM],?_⟩⟩,q2⟩
 rw[X1];exact(os.keep kt (A:=[]) λc hc=>by cases hc).append (aE.one (Rc.keep kt (A:=[]) λc hc=>by cases hc))
end
def JE (lk:List (Option Nat))(ι:bz)(γ:bW)(τ:aN)(φk φ:aB):aB:=λβ R=>ι β λds k β1=>hold k false/\gG γ τ (DX φk φ) ds k (b5 lk β1) [] λβf o=>dN (b5 lk β1) βf/\R (dA o) .own β1
section
variable {X:Cx}{C:Cfg}{lk:List (Option Nat)}{γ:bW}{τ:aN}{φ φk:aB}{T:List Nat}
variable {scope:ZE}{tg br ke elt:Expr}{ifs:List Expr}{ι:bz}{pi:Bool}{pos:Pos}{i:Nat}
theorem WU (hu:X.A.units<Z7)(N':List Str)(lk:List (Option Nat))(L:eY X.env.scope.names X.N scope N' lk=true)(ji:N'.Nodup)(hc:X.calm=true)(hi:o8 X C pi tg br ι)
  (g9:∀a cl c s H ex,o9 (aq X scope N' cl c s H ex) (C.u λc=>c=a) tg T γ) (gI:∀a cl c s H ex,js (aq X scope N' cl c s H ex) (C.u λc=>c=a) true ifs τ)
  (OV:∀a cl c s H ex,PQ (aq X scope N' cl c s H ex) (C.u λc=>c=a) true ke φk) (dJ:∀a cl c s H ex,PQ (aq X scope N' cl c s H ex) (C.u λc=>c=a) true elt φ) (hT:T.all (λi=>match lk[i]? with|some (some _)=>false|_=>true)=true:=by rfl)
  (hs:∀x,Yp br X.env x=pure x:=by intro _;rfl):PQ X C pi (.DictComp ke elt [⟨tg,br,ifs,0⟩] scope pos) (JE lk ι γ τ φk φ):=by
 have L:=Links.of L;have uw:∀i∈T,∀j,lk[i]?≠some (some j):=λi hi j e=>by
  have:=Zg.mp hT i hi;rw[e]at this;cases this
 have γm:=(g9 0 [] 0 X.s₀ X.H₀ []).mono;have τm:=(gI 0 [] 0 X.s₀ X.H₀ []).mono;have φm:=(dJ 0 [] 0 X.s₀ X.H₀ []).mono;have vt:=(OV 0 [] 0 X.s₀ X.H₀ []).mono;refine⟨λβ R R' k h=>hi.mono β _ _ (λds kd β1 q=>⟨q.1,q.2.mono λ_ _ z=>⟨z.1,k _ _ _ z.2⟩⟩) h,?_⟩;refine(gY (g:=⟨tg,br,ifs,0⟩) (gs:=[]) (tg:=λa=>Ay X C a T γ) (tt:=λa=>ib X (C.u λc=>c=a) true τ) (ta:=λa=>Ui X C a φk φ)
  L hc zx rfl rfl (λ_ _=>IE) hi.pi (λa cl c s H ex=>⟨(g9 a cl c s H ex).pg,(gI a cl c s H ex).pt,Cb (X:=aq X scope N' cl c s H ex) rfl hu (OV a cl c s H ex).pe (dJ a cl c s H ex).pe⟩) hs).pre λσ H Q h=>?_
 obtain⟨β,own,s,h⟩:=h;refine⟨β,own,s,hi.mono β _ _ (λds k β1 h J H1 au o1 it a ha=>?_) h⟩;obtain⟨hk,q⟩:=h;refine fR (T:=T) (EB (P:=X.prog) (w:=X.w)) γm τm (λj hj=>hj) (bw L ji) uw o1.sq ha hk it ⟨[],ai,(show aE _ _ _ [] [] [] from ⟨rfl,rfl⟩)⟩ (o1.sq.wH (λxs z=>by cases z) ha (bw L ji))
  (λHb Wb βx ox σx Hx Nx h0 sx qx=>Bp h0 ha vt φm sx qx) q λo H' q o2 r=>?_
 refine q _ _ au ⟨o2.sq,o1.sn.trans o2.sn,λz=>⟨(o1.pu z).1.trans (o2.pu rfl).1,(o1.pu z).2⟩,o1.le⟩ ?_;obtain⟨vs,at',os⟩:=r;refine⟨[a],vU at' os,by simp,λc hc=>?_⟩
 rw[XW.mp hc];exact⟨Yi λz=>o1.sn.d a z ha,λh=>by obtain⟨j,hj⟩:=h;exact(o1.sq.dm j a hj).1 ha,Yi λz=>o1.sq.fj a z ha⟩
end
end L2.Q
namespace L2
open PySem PySem.Spec PyProof.Rows
def bJ (X:Cx)(x0:Str)(scope:ZE)(N':List Str)(cl:List (Str×Addr))(C:Addr)(s:XQ)(H:Hp)(ex:List Addr):Cx :=
 {X with N:=N',s₀:=s,H₀:=H,env:=compEnvC scope ((x0,C+1)::cl) C X.env,outer:=X.stack,stack:=X.stack,ex:=ex,fn:=λx=>x==x0,pn:=[],xe:=λ_ _=>False}
structure ju (X:Cx)(x0:Str)(scope:ZE)(N':List Str)(lk:List (Option Nat)):Prop where
 kind:scope.kind=.function
 one:scope.names.filter (λx=>x.2==YN)=[(x0,.cell)]
 names:∀x∈scope.names,x.2=.local->scope.names.lookup x.1=some .local
 free:∀x,(x,Yw)∈scope.names->x≠x0/\(X.env.kindOf x=some .cell\/X.env.kindOf x=some .free)
 len:lk.length=N'.length
 link:∀(i j:Nat),lk[i]?=some (some j)->∃x,N'[i]?=some x/\X.N[j]?=some x/\(x,Yw)∈scope.names/\scope.names.lookup x=some .free
def v_ (outer:List (Str×ZS))(N:List Str)(x0:Str)(scope:ZE)(N':List Str)(lk:List (Option Nat)):Bool :=
 (scope.kind==.function)&&(scope.names.filter (λx=>x.2==YN)==[(x0,.cell)])&&scope.names.all (λx=>(x.2 != .local || scope.names.lookup x.1==some .local)&&(x.2 != .free || x.1 != x0&&(outer.lookup x.1==some .cell || outer.lookup x.1==some .free))) &&
 lk.length==N'.length&&(X7 lk.length).all λi=>match lk[i]? with
  |some (some j)=>match N'[i]? with
   |some x=>N[j]?==some x&&scope.names.contains (x,.free)&&scope.names.lookup x==some .free
   |none=>false
  |_=>true
theorem ju.of {X:Cx}{x0:Str}{scope:ZE}{N':List Str}{lk:List (Option Nat)}(h:v_ X.env.scope.names X.N x0 scope N' lk=true):ju X x0 scope N' lk:=by
 simp only[v_,Yu]at h;obtain⟨⟨⟨⟨h1,h0⟩,h2⟩,h3⟩,h4⟩:=h;rw[Zg]at h2 h4;refine⟨by simpa using h1,by simpa using h0,λx hx hl=>?_,λx hx=>?_,by simpa using h3,λi j aA=>?_⟩
 ·have:=h2 x hx;simp only[Yu]at this;have q:=this.1;rw[hl]at q;simpa using q
 ·have:=h2 _ hx;simp only[Yu]at this;have q:=this.2;simp only[aaC,Yu]at q;rcases q with q|⟨q1,q⟩
  ·simp at q
  ·refine⟨by simpa using q1,?_⟩
   rcases q with q|q
   ·exact .inl (show X.env.scope.names.lookup x=some .cell by simpa using q)
   ·exact .inr (show X.env.scope.names.lookup x=some .free by simpa using q)
 ·have hi:i<lk.length:=(X0.mp aA).1;have q:=h4 i (YH.mpr hi);rw[aA]at q;simp only at q;cases e:N'[i]? with
  |none=>rw[e]at q;simp at q
  |some x =>
   rw[e]at q;simp only[Yu]at q;obtain⟨⟨q1,q2⟩,q3⟩:=q;exact⟨x,rfl,by simpa using q1,by simpa using q2,by simpa using q3⟩
theorem fG {env:Env}{k:ZS}(hk:k=.cell\/k=.free):∀{names:List (Str×ZS)} {x:Str},
  (names.map λ(n,k)=>if (k==Yw&&env.scope.kind==.function&&env.kindOf n==some .cell) then (n,YN) else (n,k)).lookup x=some k->(x,Yw)∈names\/(x,YN)∈names
 |[],_,h=>by simp at h
 | (n,k')::r,x,h=>by
  have ih:=@fG env k hk r x;rw[X4]at h
  by_cases hc:(k'==Yw&&env.scope.kind==.function&&env.kindOf n==some .cell)=true
  ·simp only[hc,if_true]at h;rw[YL]at h;cases q:x==n with
   |true =>
    rw[eq_of_beq q];simp only[Yu]at hc;have:k'=.free:=by simpa using hc.1.1
    rw[this];simp
   |false =>
    rw[q]at h;exact(ih h).imp (λz=>Yd _ z) λz=>Yd _ z
  ·simp only[hc]at h;simp only[Bool.false_eq_true,if_false]at h;rw[YL]at h;cases q:x==n with
   |true =>
    rw[q]at h;cases h;rw[eq_of_beq q];rcases hk with rfl|rfl
    ·exact .inr (by simp)
    ·exact .inl (by simp)
   |false =>
    rw[q]at h;exact(ih h).imp (λz=>Yd _ z) λz=>Yd _ z
theorem En {x0:Str}:∀{names:List (Str×ZS)} {n:Nat} {cl:List (Str×Addr)} {h:Heap},names.filter (λx=>x.2==YN)=[(x0,.cell)]->aa2 n names cl=(x0,n)::cl/\pushCells h names=h.push {cls:=.type "cell",data:=.cell none}
 |[],_,_,_,e=>by cases e
 | (y,k)::r,n,cl,h,e=>by
  have no:∀{r:List (Str×ZS)} {n:Nat} {cl:List (Str×Addr)} {h:Heap},r.filter (λx=>x.2==YN)=[]->aa2 n r cl=cl/\pushCells h r=h:=λ{r}=>by
   induction r with
   |nil=>intro n cl h _;exact⟨rfl,rfl⟩
   |cons p r ih =>
    intro n cl h e;obtain⟨y,k⟩:=p;rw[Zb]at e
    by_cases hk:(k==YN)=true
    ·rw[if_pos hk]at e;cases e
    ·rw[if_neg hk]at e;unfold aa2 pushCells;rw[if_neg hk,if_neg hk];exact ih e
  rw[Zb]at e;unfold aa2 pushCells
  by_cases hk:(k==YN)=true
  ·rw[if_pos hk]at e;rw[if_pos hk,if_pos hk];injection e with e1 e2
   injection e1 with e1 _
   subst e1;exact no e2
  ·rw[if_neg hk]at e;rw[if_neg hk,if_neg hk];exact En e
section
variable {X:Cx}{x0:Str}{scope:ZE}{N':List Str}{lk:List (Option Nat)}{cl:List (Str×Addr)}{pins:List (Addr×Obj)}{σ:St}{H:Hp}{s:XQ}{ex:List Addr}
theorem zQ {h':Heap}{t':Nat}(I:Inv X pins σ H s)(L:ju X x0 scope N' lk)(hex:∀b∈ex,fc X pins H b)(GH:∀b∈ex,∃o,s.heap.get? b=some o)
  (kl:∀x,(x,Yw)∈scope.names->∃c,cl.lookup x=some c) (rK:∀x c,cl.lookup x=some c->X.env.cells.lookup x=some c)
  (hn:h'.Ns s.heap.objs.size (λ_=>none)) (hk:∀b o,s.heap.get? b=some o->h'.get? b=some o) (h0:h'.IsCell (s.heap.objs.size+1) none) :
  Inv (bJ X x0 scope N' cl s.heap.objs.size s H ex) [] (b8 lk σ) H {s with heap:=h',toks:=t'}:=by
 obtain⟨m,hm,hl⟩:=I.loc;have Qo:∀b∈ex,b<s.heap.objs.size:=λb hb=>by
  obtain⟨o,e⟩:=GH b hb;exact X8 e
 have two:∀x c,(((x0,s.heap.objs.size+1)::cl).lookup x=some c)->(x=x0/\c=s.heap.objs.size+1)\/(x≠x0/\X.env.cells.lookup x=some c):=λx c e=>by
  rw[YL]at e;cases q:x==x0 with
  |true=>rw[q]at e;cases e;exact .inl ⟨eq_of_beq q,rfl⟩
  |false=>rw[q]at e;exact .inr ⟨λz=>by rw[z]at q;simp at q,rK _ _ e⟩
 have old:∀x c,X.env.cells.lookup x=some c->c<s.heap.objs.size:=λx c e=>by
  obtain⟨v,o,ho,_⟩:=I.cell x c e;exact X8 ho
 have skip:∀x c,x≠x0->cl.lookup x=some c->((x0,s.heap.objs.size+1)::cl).lookup x=some c:=λx c n e=>by
  rw[YL];have:(x==x0)=false:=beq_eq_false_iff_ne.mpr n;rw[this];exact e
 refine⟨⟨I.ok.mod,L.kind,I.ok.glob,I.ok.blt,XS _,λx y c h1 h2=>?_,λx hx=>?_,λx c z e=>?_,I.ok.hd,I.ok.frames,.inl rfl,
  λb hb=>⟨Yk (Qo b hb),λx c e=>?_⟩,I.bs,Yz I.ok.EX I.sz,λb o e z=>?_,λb hb z=>?_,I.stack,I.qI⟩,
  rfl,I.bare,Un.kept hk,⟨_,hn,λi x v h1 h2 h3=>?_⟩,λx c e=>?_,I.a5.fresh (XS _),λx c e=>?_,λp hp=>absurd (show p∈([]:List (Addr×Obj)) from hp) (by simp),I.a5.kept hk,?_⟩
 ·rcases two x c h1 with⟨rfl,e1⟩|⟨n1,e1⟩ <;> rcases two y c h2 with⟨rfl,e2⟩|⟨n2,e2⟩
  ·rfl
  ·exact absurd (show s.heap.objs.size+1<s.heap.objs.size from e1▸old _ _ e2) (Nat.not_lt.mpr (Nat.le_succ _))
  ·exact absurd (show s.heap.objs.size+1<s.heap.objs.size from e2▸old _ _ e1) (Nat.not_lt.mpr (Nat.le_succ _))
  ·exact I.ok.inj x y c e1 e2
 ·have wq:(relabel scope X.env).names.lookup x=some .cell\/(relabel scope X.env).names.lookup x=some .free:=hx;have key:(x,Yw)∈scope.names\/(x,YN)∈scope.names:=wq.elim (λq=>fG (.inl rfl) q) λq=>fG (.inr rfl) q;rcases key with q|q
  ·obtain⟨c,hc⟩:=kl x q;exact⟨c,skip x c (L.free x q).1 hc⟩
  ·have:(x,YN)∈scope.names.filter (λx=>x.2==YN):=Ym.mpr ⟨q,rfl⟩;rw[L.one]at this;have e:=congrArg Prod.fst (XW.mp this);exact⟨s.heap.objs.size+1,by show ((x0,_)::cl).lookup x=_;rw[show x=x0 from e,YL];simp⟩
 ·rcases two x c e with⟨_,e1⟩|⟨n1,_⟩
  ·show s.heap.objs.size<=c;lia
  ·exact absurd (eq_of_beq z) n1
 ·rcases two x c e with⟨_,e1⟩|⟨_,e1⟩
  ·intro q;exact absurd (show s.heap.objs.size+1<s.heap.objs.size from (e1▸q:s.heap.objs.size+1=b)▸Qo b hb) (Nat.not_lt.mpr (Nat.le_succ _))
  ·exact(hex b hb).2.2.2.2.1 x c e1
 ·obtain⟨f0,f1,f2,f3,_⟩:=hex b z;rcases f3 with q|q
  ·exact I.ok.zw b o e q
  ·have h1:=X8 e;have h2:=I.ok.EX;exact absurd (Yo h1 (Yz h2 q)) (Z4 _)
 ·obtain⟨f0,f1,f2,f3,_⟩:=hex b hb;rcases XU.mp (I.qH b z)with q|q
  ·exact f1 q
  ·exact f2 q
 ·have hi:∃j,lk[i]?=some (some j)/\σ[j]?=some (some v):=by
   have oQ:(b8 lk σ)[i]?=some (some v):=h2;unfold b8 at oQ;rw[X5]at oQ;cases e:lk[i]? with
   |none=>rw[e]at oQ;cases oQ
   |some l =>
    cases l with
    |none=>rw[e]at oQ;cases oQ
    |some j =>
     rw[e]at oQ;cases e2:σ[j]? with
     |none=>simp[e2]at oQ
     |some w' =>
      simp only[ZI,e2,aaR]at oQ;subst oQ;exact⟨j,rfl,e2⟩
  obtain⟨j,hj,hσ⟩:=hi;obtain⟨y,e1,e2,e3,e4⟩:=L.link i j hj;have Tf:x=y:=by
   have GN:N'[i]?=some x:=h1;rw[e1]at GN;exact(Yv GN).symm
  subst Tf;have KY:LV X.env.scope x:=by
   rcases (L.free x e3).2 with q|q
   ·exact .inr (.inl q)
   ·exact .inr (.inr q)
  obtain⟨u,ru,lu⟩:=hl j x v e2 hσ KY;refine⟨u,ru,.inr ⟨?_,?_⟩⟩
  ·exact cu e4
  ·rcases lu with⟨k,_⟩|⟨_,c,hc,z⟩
   ·rcases (L.free x e3).2 with q|q <;> (rw[k]at q;cases q)
   ·obtain⟨c',uv⟩:=kl x e3;have:=rK x c' uv;rw[hc]at this;cases this;obtain⟨o,ho,hd⟩:=z;exact⟨c,skip x c (L.free x e3).1 uv,o,hk _ _ ho,hd⟩
 ·rcases two x c e with⟨_,e1⟩|⟨_,e1⟩
  ·exact⟨none,by rw[e1];exact h0⟩
  ·obtain⟨v,o,ho,hd⟩:=I.cell x c e1;exact⟨v,o,hk _ _ ho,hd⟩
 ·rcases two x c e with⟨_,e1⟩|⟨_,e1⟩
  ·rw[e1];exact I.a5.fresh (by lia)
  ·exact I.g_ x c e1
 ·show (b8 lk σ).length=N'.length;unfold b8;rw[XN,L.len]
theorem zR {s':XQ}{σ':St}{H':Hp}{pl:List (Addr×Obj)}{h'':Heap}(I:Inv X pins σ H s)(hex:∀b∈ex,fc X pins H b)
  (J:Inv (bJ X x0 scope N' cl s.heap.objs.size s H ex) pl σ' H' s') (hs:Zh s.heap.objs.size s'.heap h''):Inv X pins σ H' {s' with heap:=h''}:=by
 have hC:H' s.heap.objs.size=none:=J.free;have u:=J.base;refine I.IF (ch:=ex) (s':={s' with heap:=h''}) J.os ?_ ?_ J.bare (λb hb=>?_)
 ·have kk:∀b o,b≠s.heap.objs.size->s'.heap.get? b=some o->h''.get? b=some o:=λb o hb e=>(hs.2 b hb).trans e;have ne:∀b o,s.heap.get? b=some o->b≠s.heap.objs.size:=λb o e=>Yk (X8 e);refine⟨λb o e n hb hx=>kk b _ (ne b o e) (u.keep b o e n hb hx),λb o e n hb hx=>?_,u.free,λb o e hx=>?_,u.oB,u.nD,u.oC⟩
  ·obtain⟨sl,q⟩:=u.slot b o e n hb hx;exact⟨sl,kk b _ (ne b o e) q⟩
  ·obtain⟨o',q⟩:=u.there b o e hx;exact⟨o',kk b _ (ne b o e) q⟩
 ·intro b o e;have hb:b≠s.heap.objs.size:=λz=>by rw[z]at e;rw[hC]at e;cases e
  refine(J.a5 b o e).oE (λc v hc q=>(hs.2 c ?_).trans q) (λ_ q=>q) λ_ _ q=>q;rcases hc with z|z
  ·rw[z];exact hb
  ·intro z';rw[z']at z;rw[hC]at z;cases z
 ·obtain⟨f0,f1,f2,f3,f4,f5⟩:=hex b hb;exact⟨f3,f1,f4,f5⟩
end
section
variable {X:Cx}{x0:Str}{e:Expr}{g:ZN}{gs:List ZN}{scope:ZE}{N':List Str}{lk:List (Option Nat)}{tg:Addr->TG}{tt:Addr->TT}{wi:TI}
theorem uW {bS:Sem XO}{o:HO}{after:XO->Env->Sem Fin->Sem Fin}{ta:Addr->iN}(L:ju X x0 scope N' lk)(hc:X.calm=true)(hA:jt X bS o)
  (F:∀acc env,ff e 0 g acc env (after acc env))
  (lK:∀a cl C s H ex,PG (bJ X x0 scope N' cl C s H ex) g.target (tg a)/\qu (bJ X x0 scope N' cl C s H ex) g.ifs (tt a)/\ki (bJ X x0 scope N' cl C s H ex) (after (.ref a) (bJ X x0 scope N' cl C s H ex).env) (ta a))
  {cl:List (Str×Addr)} (kl:∀x,(x,Yw)∈scope.names->∃c,cl.lookup x=some c) (rK:∀x c,cl.lookup x=some c->X.env.cells.lookup x=some c)
  {pins:List (Addr×Obj)} {σ:St} {s:XQ} {Q:V->Hp->Prop} {AF:XO} {E:XO->XQ->Prop} {RR:XO->Addr->Result->XQ->Prop}
  (h:LZ X pins σ g.target (λJ H1=>∀a,H1 a=none->dw J (tg a) (tt a) (ta a) (λ_ H'=>Q (.ref a) H') (b8 lk σ) (upd H1 a o)) AF s)
  (hR:∀a H' C s',Inv X pins σ H' s'->fc X pins H' C->(∃m,s'.heap.Ns C m)->Q (.ref a) H'->RR (.ref a) C (.ok .next) s') :
  Ye (model X.prog X.w) X.A bS (λacc s₃=>Ye (model X.prog X.w) X.A (newFunctionEnv scope X.env.globals cl [] X.env.qual none .none (some X.env)) (λEm s₄ =>
   aax (model X.prog X.w) X.A (.compStart e 0 AF acc {Em with scope:=relabel scope X.env}) (RR acc Em.locals) s₄) E s₃) E s:=by
 obtain⟨it,fp,tn,J,H2,e1,I2,T,Be,f2,hl⟩:=h;subst e1;refine hA.ok pins s σ H2 _ E I2 λa s3 ha hn hk I3=>?_;simp only[newFunctionEnv,Option.isSome_some,if_true];refine XM (wpAny_alloc ?_);refine XM (wpAny_layCells _ (λname kind cells=>by cases Wt:kind==YN <;> simp[Wt]) _ _ _ _ ?_)
 obtain⟨c1,c2⟩:=En (n:=s3.heap.objs.size+1) (cl:=cl) (h:=s3.heap.push {cls:=.type "dict",data:=.dict #[]}) L.one;have hsz:(s3.heap.push {cls:=.type "dict",data:=.dict #[]}).objs.size=s3.heap.objs.size+1:=ZG ..
 dsimp only;rw[hsz,c1,c2];refine XM ?_;rw[List.forIn_nil];refine XT (XT ?_);generalize Io:(s3.heap.push {cls:=.type "dict",data:=.dict #[]}).push {cls:=.type "cell",data:=.cell none}=h₁;have GH:∀b∈fp,∃o,s3.heap.get? b=some o:=λb hb=>by
  obtain⟨ob,q,_⟩:=T.obj _ _ Be b hb;exact⟨ob,hk b ob q⟩
 have SY:∀b∈fp,b≠a:=λb hb=>by
  obtain⟨ob,q,_⟩:=T.obj _ _ Be b hb;exact Yk (Yo (X8 q) ha)
 have f3:∀b∈fp,fc X pins (upd H2 a o) b:=λb hb=>⟨by rw[ao (SY b hb)];exact(f2 b hb).1,(f2 b hb).2⟩
 have OW:∀b ob,s3.heap.get? b=some ob->h₁.get? b=some ob:=λb ob q=>by rw[<- Io];exact XR _ (XR _ q)
 have Mc:h₁.Ns s3.heap.objs.size (λ_=>none):=by rw[<- Io];exact(Heap.Ns.new s3.heap (.type "dict")).keeps λb ob q=>XR _ q
 have lx:h₁.IsCell (s3.heap.objs.size+1) none:=by rw[<- Io,<- hsz];exact⟨_,X_ _ rfl,rfl⟩
 have I4:=zQ (t':=s3.toks) I3 L f3 GH kl rK Mc OW lx;obtain⟨g1,g2,g3⟩:=lK a cl s3.heap.objs.size s3 (upd H2 a o) fp;have f4:∀b∈fp,fc (bJ X x0 scope N' cl s3.heap.objs.size s3 (upd H2 a o) fp) [] (upd H2 a o) b:=λb hb =>
  ⟨(f3 b hb).1,(I4.ok.Mg b hb).1,I4.ok.zZ b hb,.inl hb,(I4.ok.Mg b hb).2,λp hp=>absurd (show p∈([]:List (Addr×Obj)) from hp) (by simp)⟩
 have Fc:tn 0 h₁:=T.keep 0 _ _ Be λb hb ob q=>OW b ob (hk b ob q);refine aac (jm (X:=bJ X x0 scope N' cl s3.heap.objs.size s3 (upd H2 a o) fp) rfl hc (F (.ref a) _) g1 g2 g3 T I4 Fc f4 (hl a hn)) λr s' hr=>?_;obtain⟨rfl,σ',H',J',q⟩:=hr;have I5:Inv X pins σ H' s':=zR (h'':=s'.heap) I3 f3 J' (.refl ..);refine hR a H' s3.heap.objs.size s' I5 (I3.rN (XS _) J'.free) ?_ q;obtain⟨m,hm,_⟩:=J'.loc;exact⟨m,hm⟩
theorem BI {bS:Sem XO}{o:HO}{after:XO->Env->Sem Fin->Sem Fin}{ta:Addr->iN}{pos pos' gT:Pos}{y:Str}{i:Nat}(L:ju X x0 scope N' lk)(hc:X.calm=true)(hA:jt X bS o)
  (oq:Zj e (some (.Name y pos')) gT.line X.env=pure true)
  (wx:aaQ e X.env (assign (.Name y pos') X.env)=(do let _ <- comprehension e scope X.env pos bS false (eval g.iter X.env) (some (assign (.Name y pos') X.env));pure ())) (ER:clausesOf e=g::gs)
  (hN:X.N.Nodup) (hy:X.N[i]?=some y) (hx:Loc X.env.scope y) (hf:X.fn y=true\/X.env.scope.names.lookup y=some .local)
  (F:∀acc env,ff e 0 g acc env (after acc env)) (hi:PI X g.target g.iter wi)
  (lK:∀a cl C s H ex,PG (bJ X x0 scope N' cl C s H ex) g.target (tg a)/\qu (bJ X x0 scope N' cl C s H ex) g.ifs (tt a)/\ki (bJ X x0 scope N' cl C s H ex) (after (.ref a) (bJ X x0 scope N' cl C s H ex).env) (ta a))
  (hs:∀x,Yp g.iter X.env x=pure x) :
  PS X (.Assign [.Name y pos'] e gT) (λD σ H=>wi σ H λJ H1=>∀a,H1 a=none->dw J (tg a) (tt a) (ta a) (λ_ H'=>D.nx (σ.set i (some (.ref a))) H') (b8 lk σ) (upd H1 a o)):=by
 intro pins s σ H D I h;rw[exec_Assign_Name_used _ _ _ _ oq,wx];refine XM (Zw (XM (XM ?_)));obtain⟨cl,uu,kl,rK⟩:=fK (env:=X.env) (scope:=scope) λx hx=>I.ok.has x (L.free x hx).2;refine bu (aaX (use:=some (assign (.Name y pos') X.env)) (Q:=λ_ s'=>SP X pins D .next s') ER hs uu L.kind L.names (bu (hi pins s σ H _ I h) λv s1 h1=>bu h1 λAF s2 h2=>?_)) λ_ s' q=>XT (XT q)
 refine uW (Q:=λv H'=>D.nx (σ.set i (some v)) H') (RR:=λacc C=>compPost (model X.prog X.w) X.A X.xe (some (assign (.Name y pos') X.env)) (λ_ s'=>SP X pins D .next s') acc C) L hc hA F lK kl rK h2 λa H' C s' I' f hm q=>?_
 obtain⟨m,hm⟩:=hm;show Ye _ _ (assign (.Name y pos') X.env (.ref a)) _ _ s';have WJ:∃o,s'.heap.get? C=some o:=by obtain⟨o,_,_,ho,_⟩:=hm;exact⟨o,ho⟩
 refine wpAny_assign_Name (kq I' hN hy hx (v:=.ref a) (u:=.ref a) rfl (λs4 I4 k4=>?_) hf);obtain⟨a4,Q0,S0⟩:=k4;have oN:C≠a4:=by
  rcases S0 with z|z
  ·rw[z];exact f.2.1
  ·exact(f.2.2.2.2.1 y a4 z).symm
 exact⟨m,hm.at' (λo e=>(Q0.2 C oN).trans e),λh' N4=>⟨_,H',I4.sameBut f N4,q⟩⟩
end
end L2
namespace L2.Q
open PySem PySem.Spec PySem.SeqAt PyProof.Rows
def JC (lk:List (Option Nat))(ι:bz)(γ:bW)(τ:aN)(φ:aB):aB:=λβ R=>ι β λds k β1=>hold k false/\gG γ τ (DV φ) ds k (b5 lk β1) [] λβf o=>dN (b5 lk β1) βf/\R (.lst o) .own β1
section
variable {X:Cx}{C:Cfg}{γ:bW}{τ:aN}{φ:aB}{T:List Nat}{scope:ZE}{tg br elt:Expr}{ifs:List Expr}{ι:bz}{pi:Bool}{pos pos' gT:Pos}{y:Str}{i:Nat}
theorem nc {x0:Str}{N':List Str}{lk:List (Option Nat)}(L:ju X x0 scope N' lk)(hN:N'.Nodup):∀(i i' j:Nat),lk[i]?=some (some j)->lk[i']?=some (some j)->i=i':=λi i' j h1 h2=>by
 obtain⟨x,a1,a2,_⟩:=L.link i j h1;obtain⟨y,b1,b2,_⟩:=L.link i' j h2;rw[a2]at b2;cases b2;exact(List.getElem?_inj (X0.mp a1).1 hN).mp (a1.trans b1.symm)
theorem Q3 (x0:Str)(o:Bool)(N':List Str)(lk:List (Option Nat))(L:v_ X.env.scope.names X.N x0 scope N' lk=true)(ji:N'.Nodup)(hc:X.calm=true)(hi:∀U,o8 X (C.u U) pi tg br ι)
  (g9:∀U cl c s H ex,o9 (bJ X x0 scope N' cl c s H ex) (C.u U) tg T γ) (gI:∀U cl c s H ex,js (bJ X x0 scope N' cl c s H ex) (C.u U) true ifs τ)
  (dJ:∀U cl c s H ex,PQ (bJ X x0 scope N' cl c s H ex) (C.u U) true elt φ)
  (hN:X.N.Nodup) (hT:T.all (λi=>match lk[i]? with|some (some _)=>false|_=>true)=true:=by rfl) (hy:X.N[i]?=some y:=by rfl) (hx:Loc X.env.scope y:=by first|exact .inl rfl|exact .inr rfl) (hf:X.fn y=true\/X.env.scope.names.lookup y=some .local:=by first|exact .inl rfl|exact .inr rfl|assumption)
  (oq:Zj (.ListComp elt [⟨tg,br,ifs,0⟩] scope pos) (some (.Name y pos')) gT.line X.env=pure true:=by rfl)
  (wx:aaQ (.ListComp elt [⟨tg,br,ifs,0⟩] scope pos) X.env (assign (.Name y pos') X.env)=(do let _ <- comprehension (.ListComp elt [⟨tg,br,ifs,0⟩] scope pos) scope X.env (firstIterPos [⟨tg,br,ifs,0⟩] pos) (newList []) false (eval br X.env) (some (assign (.Name y pos') X.env));pure ()):=by first|rfl|exact aag ..)
  (hs:∀x,Yp br X.env x=pure x:=by intro _;rfl) :
  PB X C (.Assign [.Name y pos'] (.ListComp elt [⟨tg,br,ifs,0⟩] scope pos) gT) (λE β=>JC lk ι γ τ φ β λd _ β'=>E.nx (β'.set i (some (match o with|true=>.own d|false=>.val true d)))):=by
 have L:=ju.of L;have uw:∀i∈T,∀j,lk[i]?≠some (some j):=λi hi j e=>by
  have:=Zg.mp hT i hi;rw[e]at this;cases this
 have γm:=(g9 (λ_=>False) [] 0 X.s₀ X.H₀ []).mono;have τm:=(gI (λ_=>False) [] 0 X.s₀ X.H₀ []).mono;have φm:=(dJ (λ_=>False) [] 0 X.s₀ X.H₀ []).mono;refine⟨λE E' β l h=>(hi λ_=>False).mono β _ _ (λds kd β1 q=>⟨q.1,q.2.mono λ_ _ z=>⟨z.1,l.nx _ z.2⟩⟩) h,λpins s σ H D I0 hh=>?_⟩;obtain⟨Z,E,β,⟨own,sq,n⟩,h,ok⟩:=hh;refine BI (g:=⟨tg,br,ifs,0⟩) (gs:=[]) (tg:=λa=>Ay X C a T γ) (tt:=λa=>ib X (C.u λc=>c=a) true τ) (ta:=λa=>PK X C a φ)
  L hc fV oq wx rfl hN hy hx hf (λ_ _=>yz) (hi λa=>H a=none).pi (λa cl c s H ex=>⟨(g9 _ cl c s H ex).pg,(gI _ cl c s H ex).pt,fU (X:=bJ X x0 scope N' cl c s H ex) rfl (dJ _ cl c s H ex).pe⟩) hs pins s σ H D I0 ?_
 refine⟨β,own,sq.iP (C:=C.z) (U:=λa=>H a=none) λa z=>z,(hi λ_=>False).mono β _ _ (λds k β1 h J H1 au o1 it a ha=>?_) h⟩;obtain⟨hk,q⟩:=h;refine fR (C:=C.u λa=>H a=none) (T:=T) (lb (P:=X.prog) (w:=X.w) (H1:=H1)) γm τm (λj hj=>hj) (nc L ji) uw o1.sq ha hk it ⟨[],[],ai,(show aE _ _ _ [] [] [] from ⟨rfl,rfl⟩),YA,λc hc=>(nomatch hc)⟩ (o1.sq.enter ha (nc L ji))
  (λHb Wb βx ox σx Hx Nx h0 sx qx=>qO h0 ha φm sx qx) q λol H' q o2 r=>?_
 have r':=(w6 o1.sq ha r).later o1.sn;have QT:=o1.sn.trans o2.sn;have m:=n.trans QT;cases o with
 |false=>exact ok.nx _ _ _ ⟨_,(bf.Rz o2.sq).eJ (az.aQ (λa z=>z.elim id λz=>z.elim) (KV.rep r')),iZ m⟩ q
 |true =>
  obtain⟨A,h1,h2,h3⟩:=r';refine ok.nx _ _ _ ⟨_,o2.sq.mC h1 h2 λc hc=>⟨(h3 c hc).2.2,(h3 c hc).2.1,(h3 c hc).1⟩,?_⟩ q;exact⟨λb hq=>by
   obtain⟨j,hj⟩:=hq
   by_cases aA:i=j
   ·rw[<- aA,os_eq]at hj;exact .inr (n.free (h3 b hj).1)
   ·rw[aZ aA]at hj;exact m.w b ⟨j,hj⟩,m.k,m.d⟩
end
section
end
section
end
section
variable {X:Cx}{C:Cfg}{γ:bW}{τ:aN}{φ:aB}{T:List Nat}{scope:ZE}{tg br elt:Expr}{ifs:List Expr}{ι:bz}{pos:Pos}
theorem V0 (N':List Str)(lk:List (Option Nat))(L:eY X.env.scope.names X.N scope N' lk=true)(ji:N'.Nodup)(hc:X.calm=true)(hi:o8 X C true tg br ι)
  (g9:∀a cl c s H ex,o9 (aq X scope N' cl c s H ex) (C.u λc=>c=a) tg T γ) (gI:∀a cl c s H ex,js (aq X scope N' cl c s H ex) (C.u λc=>c=a) true ifs τ)
  (dJ:∀a cl c s H ex,PQ (aq X scope N' cl c s H ex) (C.u λc=>c=a) true elt φ) (hT:T.all (λi=>match lk[i]? with|some (some _)=>false|_=>true)=true:=by rfl)
  (hs:∀x,Yp br X.env x=pure x:=by intro _;rfl):PQ X C true (.ListComp elt [⟨tg,br,ifs,0⟩] scope pos) (tm lk ι γ τ φ) :=
 HQ (pi:=true) (pc:=true) (pe:=true) (Links.of L) ji hT hc hi g9 (λa cl c s H ex=>(gI a cl c s H ex).pt) (gI 0 [] 0 X.s₀ X.H₀ []).mono dJ (g9 0 [] 0 X.s₀ X.H₀ []).mono (dJ 0 [] 0 X.s₀ X.H₀ []).mono hs
end
section
variable {X:Cx}{C:Cfg}{e a:Expr}{φ:aB}{p:Bool}{pos p2 p3 p4:Pos}{j:Nat}
theorem FK {te:TE}(he:PE X e te):PE X (.Subscript e (.Slice none none (some (.UnaryOp .USub (.Constant (.int 1) j p3) p4)) p2) pos) (λσ H Q=>te σ H λx H1=>∃a xs,x=.ref a/\H1 a=some (.lst xs)/\∀p,H1 p=none->Q (.ref p) (upd H1 p (.lst xs.reverse))):=by
 intro pins s σ H Q I h;refine Subscript_ (bu (he pins s σ H _ I h) λv s1 fJ=>?_);obtain⟨x,H1,I1,r1,q1⟩:=fJ;refine wpAny_Slice ?_;rw[evalPart_none];refine XT (XT ?_);rw[evalPart_some];refine bu (BZ (X:=X) (pos:=p4) vA (bb (i:=1) (j:=j) (pos:=p3)) pins s1 σ H1 (λv H'=>v=.int (-1)/\H'=H1) I1 ⟨1,rfl,rfl,rfl⟩) λu s3 iG=>?_;obtain⟨y,H3,I3,r3,ey,eH⟩:=iG;subst ey eH;obtain⟨tk,rfl⟩:=(show ∃t,u=Value.int (-1) t from r3)
 have I4:Inv X pins σ H3 {s3 with heap:=s3.heap.push {cls:=.type "slice",data:=.fields #[.none,.none,.int (-1) tk]}}:=I3.kept (t':=s3.toks) λb ob q=>XR _ q
 have Ij:(s3.heap.push {cls:=.type "slice",data:=.fields #[.none,.none,.int (-1) tk]}).IsSliceOf s3.heap.objs.size .none .none (.int (-1) tk):=Heap.IsSliceOf.new ..
 generalize R1:({s3 with heap:=s3.heap.push {cls:=.type "slice",data:=.fields #[.none,.none,.int (-1) tk]}}:XQ)=s4 at I4 ⊢
 have GB:s4.heap.IsSliceOf s3.heap.objs.size .none .none (.int (-1) tk):=by rw[<- R1];exact Ij
 have main:∃T id,typeLookup (.type T) "__getitem__" = pure (some (.builtin id))/\s4.TypeIs v T/\Ye (model X.prog X.w) X.A (getItem v (.ref s3.heap.objs.size)) (EP X pins σ Q) X.xe s4:=by
  obtain⟨a,xs,rfl,hx,q⟩:=q1;cases (show v=Value.ref a from r1)
  obtain⟨its,r,ht,hz⟩:=I4.list (dv.of hx);have hlen:=r.length;refine⟨"list",_,aaP.lookup,ht.isList.typeIs,?_⟩;refine aaW ht.isList GB .none .none (.int (-1) tk) (by simp) ?_ (by rw[Yb] <;> lia)
  rw[HT.iS];refine⟨.ref s4.heap.objs.size,_,I4.laid (t':=s4.toks) (o:=.lst xs.reverse) (λb ob q=>XR _ q) (XS _) ?_,rfl,q _ (I4.a5.fresh (XS _))⟩;exact⟨by rw[aaD];lia,_,0,by simpa using Vals.rev r,X_ _ rfl⟩
 obtain⟨T,id,hT,ht,hg⟩:=main;show Ye (model X.prog X.w) X.A (subscriptTail e (.Slice none none (some (.UnaryOp .USub (.Constant (.int 1) j p3) p4)) p2) v (.ref s3.heap.objs.size)) (EP X pins σ Q) X.xe s4;exact tail_any (ops:=[v,.ref s3.heap.objs.size]) ht hT hg (by with_unfolding_all rfl)
def Pa:D->Option D
 |.lst ds=>some (.lst ds.reverse)
 |_=>none
def M0 (φ:aB):aB:=λβ R=>φ β λx k β1=>∃d,Pa x=some d/\kN NL d k.wk λk'=>R d k' β1
theorem FG {j:Nat}(ha:PQ X C p a φ):PQ X C p (.Subscript a (.Slice none none (some (.UnaryOp .USub (.Constant (.int 1) j p3) p4)) p2) pos) (M0 φ) :=
 ⟨λβ R R' k h=>ha.mono β _ _ (λx kx β1 h=>by obtain⟨d,e,q⟩:=h;exact⟨d,e,q.mono λ_ z=>k _ _ _ z⟩) h,
  (FK ha.pe).pre λσ H Q h=>by
    obtain⟨β,own,s,h⟩:=h;refine tQ.of ha s h λd k β1 v H1 au h o1 r1=>?_;obtain⟨d',e,q⟩:=h;have rr:=az.aQ yE r1.rep;cases d with
    |lst ds =>
      cases e;obtain⟨c,vs,rfl,h1,n1,rs⟩:=rr;refine⟨c,vs,rfl,h1,λp hp=>?_⟩;have sm:ar H1 (upd H1 p (.lst vs.reverse)):=ar.new hp;have hw:¬ av C (Wn au) k.wk p:=λz=>o1.sq.AK _ p z hp;have r2:az X.prog X.w (av C (Wn au) k.wk) (upd H1 p (.lst vs.reverse)) (.lst ds.reverse) (.ref p):=⟨p,_,rfl,ai,hw,(ag.rev rs).same sm⟩;obtain⟨k',q,r⟩:=KV.kN (Z:=(H,Wn own)) A4 r2 (λn=>ir (H:=H1) o1.sq.r9 o1.sq.fj (λa z e=>o1.sn.d a z e) n ⟨p,_,rfl,ai,λz=>z hp,ag.flat n ((ag.rev rs).same sm)⟩) q;exact q _ _ au (o1.same sm) r
    |_=>cases e⟩
end
section
variable {X:Cx}{C:Cfg}{a:Expr}{φ:aB}{p:Bool}
def Rg (φ:aB):aN:=λβ R=>φ β λd _ β'=>∃ds,d=.lst ds/\R (!ds.isEmpty) β'
theorem FC (ha:PQ X C p a φ)(he:∀whole,isTrue a X.env whole=(do let v <- whole;aaO a.pos;holding [v] (truthy v)):=by intro _;rfl):vp X C p a (Rg φ) :=
 ⟨λβ R R' k h=>ha.mono β _ _ (λd kd β' h=>by obtain⟨b,e,q⟩:=h;exact⟨b,e,k _ _ q⟩) h,(BF ha.pe he).pre λσ H Q h=>by
  obtain⟨β,own,s,h⟩:=h;refine tQ.of ha s h λd k β' v H1 au h o1 r1=>?_;obtain⟨ds,e,q⟩:=h;subst e;obtain⟨c,vs,rfl,h1,n1,rs⟩:=r1.rep;refine⟨!ds.isEmpty,.inl ⟨vs,dv.of h1,?_⟩,q H1 au o1⟩;have:=rs.length;cases ds <;> cases vs <;> first|rfl|cases this⟩
end
def RA:Option B->Option B
 |some (.shl _ _)=>none
 |b=>b
def fI (lk:List (Option Nat))(β:aL):aL:=lk.map λl=>match l with|some j=>(match β[j]? with|some b=>RA b|none=>none)|none=>none
def Ig:Option (Option B)->Bool
 |some (some (.hand _))=>true
 |some (some (.own _))=>true
 |_=>false
def bG (lk:List (Option Nat))(β:aL)(own:Nat->List Addr)(i:Nat):List Addr:=match lk[i]? with
 |some (some j)=>if Ig β[j]?=true then own j else []
 |_=>[]
def xP:aL->aL->Prop
 |[],_=>True
 |some (.hand ok)::a,c=>c.head?=some (some (.hand ok))/\xP a c.tail
 |some (.own _)::a,c=>(∃d,c.head?=some (some (.own d)))/\xP a c.tail
 |_::a,c=>xP a c.tail
theorem xP.tl {x:Option B}{a c:aL}(h:xP (x::a) c):xP a c.tail:=by
 cases x with
 |none=>exact h
 |some x=>cases x <;> first|exact h|exact h.2
theorem xP.jV:∀{a c:aL} {i:Nat} {ok:List Int->Prop},xP a c->a[i]?=some (some (.hand ok))->c[i]?=some (some (.hand ok))
 |[],_,_,_,_,e=>by simp at e
 |x::a,c,0,ok,h,e=>by
  simp at e;subst e;rw[<- List.head?_eq_getElem?];exact h.1
 |x::a,c,i+1,ok,h,e=>by
  have:=xP.jV (i:=i) h.tl (by simpa using e)
  rwa [List.getElem?_tail]at this
theorem xP.own:∀{a c:aL} {i:Nat} {d:D},xP a c->a[i]?=some (some (.own d))->∃d',c[i]?=some (some (.own d'))
 |[],_,_,_,_,e=>by simp at e
 |x::a,c,0,d,h,e=>by
  simp at e;subst e;rw[<- List.head?_eq_getElem?];exact h.1
 |x::a,c,i+1,d,h,e=>by
  obtain⟨d',e'⟩:=xP.own (i:=i) h.tl (by simpa using e)
  rw[List.getElem?_tail]at e';exact⟨d',e'⟩
def FU (lk:List (Option Nat))(βi:aL)(j:Nat):Option B->Option B
 |some (.own d)=>(match lk.findIdx? (·==some j)with|some i=>(match βi[i]? with|some x=>x|none=>none)|none=>some (.own d))
 |b=>b
def ll (lk:List (Option Nat))(βi:aL):Nat->aL->aL
 |_,[]=>[]
 |j,b::r=>FU lk βi j b::ll lk βi (j+1) r
def i9 (lk:List (Option Nat))(β βi:aL):aL:=ll lk βi 0 β
theorem pI {lk:List (Option Nat)}{βi:aL}:∀{j:Nat} {β:aL},(ll lk βi j β).length=β.length
 |_,[]=>rfl
 |j,b::r=>by show (ll lk βi (j+1) r).length+1=_;rw[pI];rfl
theorem pJ {lk:List (Option Nat)}{βi:aL}:∀{j i:Nat} {β:aL},(ll lk βi j β)[i]?=(β[i]?).map (FU lk βi (j+i))
 |_,_,[]=>by simp[ll]
 |j,0,b::r=>by simp[ll]
 |j,i+1,b::r=>by
  show (ll lk βi (j+1) r)[i]?=_;rw[pJ,ZT,show j+1+i=j+(i+1) by lia]
theorem vV {lk:List (Option Nat)}{β βi:aL}{j:Nat}:(i9 lk β βi)[j]?=(β[j]?).map (FU lk βi j):=by
 unfold i9;rw[pJ,aaF]
def jo (lk:List (Option Nat))(j:Nat):Option Nat:=lk.findIdx? (·==some j)
theorem eI {lk:List (Option Nat)}{j i:Nat}(h:jo lk j=some i):lk[i]?=some (some j):=by
 obtain⟨hi,h1,_⟩:=List.findIdx?_eq_some_iff_getElem.mp h;rw[XY hi,eq_of_beq h1]
theorem qh {lk:List (Option Nat)}{j i:Nat}(h:jo lk j=none):lk[i]?≠some (some j):=λe=>by
 have:=List.findIdx?_eq_none_iff.mp h (some j) (YJ e);simp at this
theorem Ce {lk:List (Option Nat)}{βi:aL}{j:Nat}{d:D}:FU lk βi j (some (.own d))=(match jo lk j with|some i=>(match βi[i]? with|some x=>x|none=>none)|none=>some (.own d)):=rfl
section
variable {P:XX}{w:X6}{C:Cfg}{σ σ':St}{H H' H1:Hp}{β βi:aL}{own bM:Nat->List Addr}{lk:List (Option Nat)}{a:Addr}
theorem de {i:Nat}{c:Addr}(h:c∈bG lk β own i):∃j,lk[i]?=some (some j)/\Ig β[j]?=true/\c∈own j:=by
 unfold bG at h
 split at h
 ·next j e =>
  by_cases q:Ig β[j]?=true
  ·rw[if_pos q]at h;exact⟨j,e,q,h⟩
  ·rw[if_neg q]at h;cases h
 ·cases h
theorem bh:∀c,Wn (bG lk β own) c->Wn own c:=λc ⟨i,h⟩=>let ⟨j,_,_,h⟩:=de h;⟨j,h⟩
theorem pT {i j:Nat}(e:lk[i]?=some (some j))(h:Ig β[j]?=true):bG lk β own i=own j:=by
 unfold bG;rw[e];exact if_pos h
theorem gv {i:Nat}{b:B}(h:(fI lk β)[i]?=some (some b)):∃j,lk[i]?=some (some j)/\β[j]?=some (some b)/\RA (some b)=some b:=by
 unfold fI at h;rw[X5]at h;cases q:lk[i]? with
 |none=>rw[q]at h;cases h
 |some l =>
  rw[q]at h;cases l with
  |none=>cases h
  |some j =>
   simp only[ZI]at h;cases q2:β[j]? with
   |none=>rw[q2]at h;cases h
   |some b2 =>
    rw[q2]at h;simp only[aaR]at h;cases b2 with
    |none=>cases h
    |some b2 =>
     cases b2 with
     |shl y d=>cases h
     |_=>cases h;exact⟨j,rfl,q2,rfl⟩
theorem k6 {i j:Nat}{b:B}(e:lk[i]?=some (some j))(h:β[j]?=some (some b))(hb:RA (some b)=some b:=by rfl):(fI lk β)[i]?=some (some b):=by
 unfold fI;rw[X5,e];simp only[ZI];rw[h];exact congrArg some hb
theorem bf.LB (s:bf P w C σ H β own)(ha:H a=none)(inj:∀(i i' j:Nat),lk[i]?=some (some j)->lk[i']?=some (some j)->i=i'):
  bf P w (C.u λc=>c=a) (b8 lk σ) (upd H a (.lst [])) (fI lk β) (bG lk β own):=by
 have sm:ar H (upd H a (.lst [])):=ar.new ha;have na:∀{i c},c∈own i->c≠a:=λ{i c} hc z=>(s.dm i c hc).1 (by rw[z];exact ha)
 have gr:∀k,∀c,dD (C.u λc=>c=a) (Wn (bG lk β own)) k c->dD C (Wn own) k c\/H c=none:=λk c z=>by
  rcases z with z|z
  ·exact .inl (.inl (gB bh k c z))
  ·exact .inr (by rw[z];exact ha)
 refine⟨by unfold fI b8;simp,λi y d e=>?_,λi d e=>?_,λi ok e=>?_,λi c h=>?_,λi i' c h1 h2=>?_,λi=>?_,s.kp.trans sm.kp,λc z e=>s.fj c z (sm.free e),λi y d e=>by
  obtain⟨j,e1,e2,e3⟩:=gv e;cases e3⟩
 ·obtain⟨j,e1,e2,e3⟩:=gv e;obtain⟨v,h1,h2⟩:=s.val j y d e2;exact⟨v,cb e1 h1,(az.grow (gr _) h2).same sm⟩
 ·obtain⟨j,e1,e2,e3⟩:=gv e;obtain⟨v,h1,h2,h3⟩:=s.ow j d e2;rw[pT e1 (by rw[e2];rfl)]
  exact⟨v,cb e1 h1,h2.keep (λ_ _ e=>sm _ _ e) (λc _ o e=>sm c o e),h3⟩
 ·obtain⟨j,e1,e2,e3⟩:=gv e;obtain⟨h,ns,h1,h2,h3,h4,h5⟩:=s.jV j ok e2;exact⟨h,ns,cb e1 h1,sm _ _ h2,h3,by rw[pT e1 (by rw[e2];rfl)];exact h4,h5⟩
 ·obtain⟨j,q1,q2,q3⟩:=de h;obtain⟨g1,g2,g3,g4⟩:=s.dm j c q3;rw[ao (na q3)];exact⟨g1,g2,g3,na q3⟩
 ·obtain⟨j,q1,q2,q3⟩:=de h1;obtain⟨j',P5,VN,Ro⟩:=de h2;have:=s.hV j j' c q3 Ro;subst this;exact inj _ _ _ q1 P5
 ·unfold bG
  split
  ·next j e =>
   split
   ·exact s.i_ j
   ·exact YA
  ·exact YA
def kL (lk:List (Option Nat))(β:aL)(own bM:Nat->List Addr)(j:Nat):List Addr:=match β[j]? with
 |some (some (.own _))=>(match jo lk j with|some i=>bM i|none=>own j)
 |_=>own j
theorem bf.Kv (s:bf P w C σ H1 β own)(i:bf P w (C.u λc=>c=a) σ' H' βi bM)(n:Sn (H1,Wn (bG lk β own)) H' (Wn bM))(le:∀c,Wn bM c->Wn (bG lk β own) c)
  (inj:∀(i i' j:Nat),lk[i]?=some (some j)->lk[i']?=some (some j)->i=i')
  (hh:xP (fI lk β) βi) (hσ:∀(j i:Nat),lk[i]?=some (some j)->σ'[i]?=(b8 lk σ)[i]?):bf P w C σ H' (i9 lk β βi) (kL lk β own bM)/\∀c,Wn (kL lk β own bM) c->Wn own c:=by
 have off:∀{j c},c∈own j->¬ Wn (bG lk β own) c->∀o,H1 c=some o->H' c=some o:=λ{j c} hc nw o e=>n.k.out c o e λz=>z.elim nw λz=>(s.dm j c hc).1 z;have sep:∀{j c},c∈own j->jo lk j=none\/Ig β[j]?=false->¬ Wn (bG lk β own) c:=λ{j c} hc q hq=>by
  obtain⟨i',oO⟩:=hq;obtain⟨j',q1,q2,q3⟩:=de oO;have:=s.hV j j' c hc q3;subst this;rcases q with q|q
  ·exact qh q q1
  ·rw[q]at q2;cases q2
 have at_:∀{j c},c∈kL lk β own bM j->(∃d i',β[j]?=some (some (.own d))/\jo lk j=some i'/\c∈bM i')\/(c∈own j/\((∃d,β[j]?=some (some (.own d)))->jo lk j=none)):=λ{j c} h=>by
  unfold kL at h
  split at h
  ·next d e =>
   cases q:jo lk j with
   |none=>rw[q]at h;exact .inr ⟨h,λ_=>rfl⟩
   |some i'=>rw[q]at h;exact .inl ⟨d,i',e,rfl,h⟩
  ·next e =>
   refine .inr ⟨h,λjU=>by obtain⟨d,z⟩:=jU;exact(e d z).elim⟩
 have lo:∀c,Wn (kL lk β own bM) c->Wn own c:=λc rG=>by
  obtain⟨j,h⟩:=rG;rcases at_ h with⟨d,i',e,q,h⟩|⟨h,_⟩
  ·exact bh c (le c ⟨i',h⟩)
  ·exact⟨j,h⟩
 have hN:∀(j:Nat) (ok:List Int->Prop),β[j]?=some (some (B.hand ok))->∃a ns,σ[j]?=some (some (V.ref a))/\H' a=some (.lst (ns.map V.int))/\ok ns/\own j=[a]/\((∀b,¬ C.IO b)\/C.IO a):=λj ok e=>by
  obtain⟨h,ns,h1,h2,h3,h4,h5⟩:=s.jV j ok e;cases q:jo lk j with
  |none=>exact⟨h,ns,h1,off (j:=j) (by rw[h4];simp) (sep (by rw[h4];simp) (.inl q)) _ h2,h3,h4,h5⟩
  |some i' =>
   have q1:=eI q;obtain⟨h',lH,g1,g2,g3,g4,g5⟩:=i.jV i' ok (hh.jV (k6 q1 e));rw[hσ j i' q1,cb q1 h1]at g1;cases g1;exact⟨h,lH,h1,g2,g3,h4,h5⟩
 have ho:∀{j:Nat} {b:B},(i9 lk β βi)[j]?=some (some b)->(∃d d' i',β[j]?=some (some (.own d))/\jo lk j=some i'/\βi[i']?=some (some (.own d'))/\b=.own d')\/(β[j]?=some (some b)/\((∃d,b=.own d)->jo lk j=none)):=λ{j b} e=>by
  rw[vV]at e;obtain⟨b0,e0,e1⟩:=X9.mp e;cases b0 with
  |none=>cases e1
  |some b0 =>
   cases b0 with
   |own d =>
    rw[Ce]at e1;cases q:jo lk j with
    |none=>rw[q]at e1;cases e1;exact .inr ⟨e0,λ_=>rfl⟩
    |some i' =>
     obtain⟨d',e2⟩:=hh.own (k6 (eI q) e0);rw[q]at e1;dsimp only at e1;rw[e2]at e1;cases e1;exact .inl ⟨d,d',i',e0,rfl,e2,rfl⟩
   |val y d=>cases e1;exact .inr ⟨e0,λuo=>by obtain⟨_,z⟩:=uo;cases z⟩
   |hand ok=>cases e1;exact .inr ⟨e0,λzS=>by obtain⟨_,z⟩:=zS;cases z⟩
   |shl y d=>cases e1;exact .inr ⟨e0,λGD=>by obtain⟨_,z⟩:=GD;cases z⟩
 refine⟨⟨by rw[show (i9 lk β βi).length=β.length from pI];exact s.len,λj y d e=>?_,λj d e=>?_,λj ok e=>?_,λj c hc=>?_,λj j' c h1 h2=>?_,λj=>?_,i.kp,i.fj,λj y d e=>by
  rcases ho e with⟨_,_,_,_,_,_,z⟩|⟨e,_⟩
  ·cases z
  obtain⟨v,h1,h2,h3⟩:=s.shl j y d e;have eo:kL lk β own bM j=own j:=by unfold kL;rw[e]
  rw[eo];refine⟨v,h1,h2.map (λc hc o eo=>off hc (sep hc (.inr (by rw[e];rfl))) o eo) (λds vs r=>?_),h3⟩
  have g:ag P w (λc=>dD C (Wn own) (yk true) c\/H1 c=none) H1 ds vs:=ag.grow (λc z=>z) r;refine ag.aQ (λc z=>.inl (dB lo _ c z)) (g.keep (n.k.mono λc z=>z.imp (λz=>?_) id));exact .inl (.inl (bh c z))⟩,lo⟩
 ·rcases ho e with⟨_,_,_,_,_,_,z⟩|⟨e,_⟩
  ·cases z
  obtain⟨v,h1,h2⟩:=s.val j y d e;have g:az P w (λc=>dD C (Wn own) (yk y) c\/H1 c=none) H1 d v:=az.grow (λc z=>z) h2;refine⟨v,h1,az.aQ (λc z=>.inl (dB lo _ c z)) (g.keep (n.k.mono λc z=>z.imp (λz=>?_) id))⟩;cases y with
  |true=>exact .inl (.inl (bh c z))
  |false=>exact .inl (bh c z)
 ·rcases ho e with⟨d0,d',i',e0,q,e1,z⟩|⟨e,q⟩
  ·cases z;have q1:=eI q;obtain⟨v,h1,h2,h3⟩:=i.ow i' d e1;obtain⟨v0,g1,_,_⟩:=s.ow j d0 e0;rw[hσ j i' q1,cb q1 g1]at h1;cases h1;refine⟨v,g1,?_⟩;unfold kL;rw[e0];simp only[q];exact⟨h2,h3⟩
  ·have q:=q ⟨d,rfl⟩;obtain⟨v,h1,h2,h3⟩:=s.ow j d e;refine⟨v,h1,?_⟩;unfold kL;rw[e];simp only[q];exact⟨h2.keep n.k.tup (λc hc o eo=>off hc (sep hc (.inl q)) o eo),h3⟩
 ·rcases ho e with⟨_,_,_,_,_,_,z⟩|⟨e,_⟩
  ·cases z
  obtain⟨h,ns,h1,h2,h3,h4,h5⟩:=hN j ok e;refine⟨h,ns,h1,h2,h3,?_,h5⟩;unfold kL;rw[e];exact h4
 ·rcases at_ hc with⟨d,i',e,q,h⟩|⟨h,hq⟩
  ·obtain⟨g1,g2,g3,g4⟩:=i.dm i' c h;obtain⟨j',AG⟩:=bh c (le c ⟨i',h⟩);exact⟨g1,g2,g3,(s.dm j' c AG).2.2.2⟩
  ·obtain⟨g1,g2,g3,g4⟩:=s.dm j c h
   by_cases q:jo lk j=none\/Ig β[j]?=false
   ·cases e:H1 c with
    |none=>exact absurd e g1
    |some o=>rw[off h (sep h q) o e];exact⟨λz=>(nomatch z),λxs z=>g2 xs (by rw[e];exact z),g3,g4⟩
   ·have q1:Ig β[j]?=true:=by cases z:Ig β[j]? with|true=>rfl|false=>exact(q (.inr z)).elim
    cases e:β[j]? with
    |none=>rw[e]at q1;cases q1
    |some b =>
     rw[e]at q1;cases b with
     |none=>cases q1
     |some b =>
      cases b with
      |val y d=>cases q1
      |shl y d=>cases q1
      |own d=>exact(q (.inl (hq ⟨d,e⟩))).elim
      |hand ok =>
       obtain⟨h',ns,k1,k2,k3,k4,k5⟩:=hN j ok e;rw[k4]at h;rw[XW.mp h]at g3 g4 ⊢
       rw[k2];exact⟨λz=>(nomatch z),λxs z=>(by cases z),g3,g4⟩
 ·have key:∀{j j' c},c∈kL lk β own bM j->c∈kL lk β own bM j'->(∃d i',β[j]?=some (some (.own d))/\jo lk j=some i'/\c∈bM i')->j=j':=λ{j j' c} h1 h2 N8=>by
   obtain⟨d,i',e,q,h⟩:=N8;rcases at_ h2 with⟨d2,i2,e2,q2,h2⟩|⟨h2,jU⟩
   ·have:=i.hV i' i2 c h h2;subst this;have a1:=eI q;rw[eI q2]at a1;cases a1;rfl
   ·obtain⟨i3,SJ⟩:=le c ⟨i',h⟩;obtain⟨j3,p1,p2,p3⟩:=de SJ;have:=s.hV j' j3 c h2 p3;subst this;cases e3:β[j']? with
    |none=>rw[e3]at p2;cases p2
    |some b =>
     rw[e3]at p2;cases b with
     |none=>cases p2
     |some b =>
      cases b with
      |val y d=>cases p2
      |shl y d=>cases p2
      |own d=>exact(qh (jU ⟨d,e3⟩) p1).elim
      |hand ok =>
       have e4:=hh.jV (k6 p1 e3);obtain⟨h',ns,k1,k2,k3,k4,k5⟩:=s.jV j' ok e3;obtain⟨h'',lH,g1,g2,g3,g4,g5⟩:=i.jV i3 ok e4;rw[hσ j' i3 p1,cb p1 k1]at g1;cases g1;have:c∈bM i3:=by rw[g4,<- k4];exact h2
       have:=i.hV i' i3 c h this;subst this;have a1:=eI q;rw[p1]at a1;cases a1;rfl
  rcases at_ h1 with z1|⟨z1,_⟩
  ·exact key h1 h2 z1
  ·rcases at_ h2 with z2|⟨z2,_⟩
   ·exact(key h2 h1 z2).symm
   ·exact s.hV j j' c z1 z2
 ·unfold kL
  split
  ·cases jo lk j with
   |none=>exact s.i_ j
   |some i'=>exact i.i_ i'
  ·exact s.i_ j
end
def uc (γ:bW)(τ:aN)(φ:aB)(ds:List D)(k:Kd)(β0:aL)(K:List D->aL->Prop):Prop:=∃I:Nat->aL->List D->Prop,I 0 β0 [] /\
 (∀i d β o,ds[i]?=some d->I i β o->γ d (sk k d) β λβ1=>τ β1 λt β2=>if t=true then φ β2 λx kx β3=>C8 kx x/\o.length<X3/\I (i+1) β3 (o++[x]) else I (i+1) β2 o)/\∀β o,I ds.length β o->xP β0 β/\K o β
theorem uc.mono {γ:bW}{τ:aN}{φ:aB}{ds:List D}{k:Kd}{β0:aL}{K K':List D->aL->Prop}(h:∀o β,K o β->K' o β)(q:uc γ τ φ ds k β0 K):uc γ τ φ ds k β0 K':=let ⟨I,h0,h1,h2⟩:=q;⟨I,h0,h1,λβ o z=>⟨(h2 β o z).1,h _ _ (h2 β o z).2⟩⟩
def BA (lk:List (Option Nat))(ι:bz)(γ:bW)(τ:aN)(φ:aB):aB:=λβ R=>ι β λds k β1=>hold k false/\uc γ τ φ ds k (fI lk β1) λo βi=>R (.lst o) .own (i9 lk β1 βi)
section
variable {X:Cx}{C:Cfg}{lk:List (Option Nat)}{γ:bW}{τ:aN}{φ:aB}{T:List Nat}{pc pe:Bool}
theorem wR {σ:St}{H1:Hp}{β:aL}{own:Nat->List Addr}{a:Addr}{J:It}{ds:List D}{k:Kd}{K:List D->aL->Prop}{End:Hp->Prop}
  (γm:∀d k β R R',(∀r,R r->R' r)->γ d k β R->γ d k β R') (τm:∀β R R',(∀d β,R d β->R' d β)->τ β R->τ β R') (φm:∀β R R',(∀d k β,R d k β->R' d k β)->φ β R->φ β R')
  (inj:∀(i i' j:Nat),lk[i]?=some (some j)->lk[i']?=some (some j)->i=i') (hT:∀i∈T,∀j,lk[i]?≠some (some j))
  (s1:SQ X C σ H1 β own) (ha:H1 a=none) (hk:hold k false) (it:rW X (av C (Wn own) k) J ds H1) (q:uc γ τ φ ds k (fI lk β) K)
  (fin:∀o H' βi aK,K o βi->Out X C σ H1 own false (i9 lk β βi) H' aK->KV X.prog X.w C (H1,Wn own) aK H' .own (.lst o) (.ref a)->End H') :
  dw J (λv σ H Q=>∃own β d k,SQ X (C.u λc=>c=a) σ H β own/\Rp X (dD (C.u λc=>c=a) (Wn own) k) H d v/\γ d k β λβ'=>∀σ' aK,SQ X (C.u λc=>c=a) σ' H β' aK->(∀a,Wn aK a->Wn own a)->(∀j,j∉T->σ'[j]?=σ[j]?)->Q σ' H)
   (ib X (C.u λc=>c=a) pc τ) (λN σ H=>tQ X (C.u λc=>c=a) pe φ σ H λv H1=>∃xs,H1 a=some (.lst xs)/\xs.length<X3/\N σ (upd H1 a (.lst (xs++[v]))))
   (λ_ H'=>End H') (b8 lk σ) (upd H1 a (.lst [])):=by
 obtain⟨I,i0,i1,i2⟩:=q;have h0:C.H0 a=none:=Yi λz=>s1.fj a z ha;have sm:ar H1 (upd H1 a (.lst [])):=ar.new ha;have NI:∀c,Wn (bG lk β own) c->c≠a:=λc z e=>by
  obtain⟨j,hj⟩:=bh c z;exact(s1.dm j c hj).1 (by rw[e];exact ha)
 let S:Nat->St->Hp->Prop:=λi σ' H'=>∃βi bM vs o A,SQ X (C.u λc=>c=a) σ' H' βi bM/\Sn (H1,Wn (bG lk β own)) H' (Wn bM)/\(∀c,Wn bM c->Wn (bG lk β own) c)/\H' a=some (.lst vs)/\aE X.prog X.w H' o vs A/\A.Nodup/\(∀c∈A,H1 c=none/\c≠a) /\
  ((pc&&pe)=true->ar H1 H')/\(∀j,j∉T->σ'[j]?=(b8 lk σ)[j]?)/\I i βi o
 have W':Addr->Prop:=λb=>av C (Wn own) k b\/H1 b=none;have Ie:=it (λb=>av C (Wn own) k b\/H1 b=none) λb z=>z;have kI:∀{H':Hp} {bM:Nat->List Addr},Sn (H1,Wn (bG lk β own)) H' (Wn bM)->((pc&&pe)=true->ar H1 H')->Kp (λb=>av C (Wn own) k b\/H1 b=none) H1 H':=λn pu=>by
  cases k with
  |own=>exact n.k.mono λb z=>z.imp (λz=>.inl (bh b z)) id
  |dY=>exact n.k.mono λb z=>z.imp (λz=>.inl (bh b z)) id
  |old=>exact n.k.mono λb z=>z.imp (bh b) id
  |bor=>exact hk.elim
 refine⟨λi m σ' H'=>i<=ds.length/\m=ds.length-i/\S i σ' H',⟨_,Yh _,rfl,fI lk β,bG lk β own,[],[],[],s1.LB ha inj,⟨λb z=>.inl z,sm.kp,λb z e=>z (sm.free e)⟩,λ_ z=>z,ai,⟨rfl,rfl⟩,YA,λc hc=>(nomatch hc),λ_=>sm,λ_ _=>rfl,i0⟩,?_⟩;rintro i m σ2 H2 ⟨hi,rfl,βi,bM,vs,o,A,sq,sn,le,Lr,os,nd,nw,pu,st,hl⟩;obtain⟨br,fM⟩:=Ie i H2 (kI sn pu)
 by_cases iH:i<ds.length
 ·right
  have hd:ds[i]?=some ds[i]:=XY iH;obtain⟨go,yl⟩:=br _ hd;refine⟨go,λσ' H'=>S (i+1) σ' H',λσ' H' h=>⟨_,by lia,iH,rfl,h⟩,λx H3 y=>?_⟩
  obtain⟨s3,r3⟩:=yl x H3 y;have Tz:∀{bM:Nat->List Addr},(∀c,Wn bM c->Wn (bG lk β own) c)->∀c,dD (C.u λc=>c=a) (Wn bM) k c->av C (Wn own) k c\/H1 c=none:=λle c z=>z.elim (λz=>.inl (gB (λc z=>bh c (le c z)) k c z)) λz=>.inr (by rw[z];exact ha)
  refine⟨bM,βi,_,_,sq.same s3,my (az.aQ (Tz le) r3),γm _ _ _ _ _ (λβ4 q σ4 mT s4 w4 t4=>?_) (i1 i _ βi o hd hl)⟩;have Kw:∀c,Wn mT c->Wn (bG lk β own) c:=λc z=>le c (w4 c z);refine⟨β4,mT,s4,τm _ _ _ (λt β5 q H5 iE o5=>?_) q⟩;have Ge:∀c,Wn iE c->Wn (bG lk β own) c:=λc z=>Kw c (o5.le c z);have nk:∀c,c∈a::A->∀oc,H2 c=some oc->H5 c=some oc:=λc hc oc e=>by
   refine o5.sn.k.out c oc (s3 c oc e) λz=>?_;rcases z with z|z
   ·rcases XU.mp hc with rfl|hc
    ·exact NI _ (Kw _ z) rfl
    ·obtain⟨j,hj⟩:=bh c (Kw c z);exact(s1.dm j c hj).1 (nw c hc).1
   ·exact absurd ((s3 c oc e).symm.trans z) (λz=>(nomatch z))
  have RJ:∀b xs,H2 b=some (.tup xs)->H5 b=some (.tup xs):=λb xs e=>o5.sn.k.tup b xs (s3 b _ e);have JZ:aE X.prog X.w H5 o vs A:=os.keep RJ λc hc oc e=>nk c (by simp[hc]) oc e
  have Jo:Sn (H1,Wn (bG lk β own)) H5 (Wn iE):=(f9 (sn.same s3) w4).trans o5.sn;have M_:(pc&&pe)=true->ar H1 H5:=λz=>((pu z).trans s3).trans (o5.pu (As z)).1;have Fc:∀j,j∉T->σ4[j]?=(b8 lk σ)[j]?:=λj hj=>(t4 j hj).trans (st j hj);cases t with
  |false=>exact⟨β5,iE,vs,o,A,o5.sq,Jo,Ge,nk a (by simp) _ Lr,JZ,nd,nw,M_,Fc,q⟩
  |true =>
   refine⟨β5,iE,o5.sq,φm _ _ _ (λxd kx β6 fJ v H6 tU o6 r6=>?_) q⟩;obtain⟨f,hz,q⟩:=fJ;obtain⟨B',r1,r2,Jy⟩:=r6.fl f;have Dz:H5 a=some (.lst vs):=nk a (by simp) _ Lr
   have ud:∀c,c∈a::A->∀oc,H5 c=some oc->H6 c=some oc:=λc hc oc e=>by
    refine o6.sn.k.out c oc e λz=>?_;rcases z with z|z
    ·rcases XU.mp hc with rfl|hc
     ·exact NI _ (Ge _ z) rfl
     ·obtain⟨j,hj⟩:=bh c (Ge c z);exact(s1.dm j c hj).1 (nw c hc).1
    ·exact absurd (e.symm.trans z) (λz=>(nomatch z))
   have k7:H6 a=some (.lst vs):=ud a (by simp) _ Dz
   have Nf:aE X.prog X.w H6 o vs A:=JZ.keep o6.sn.k.tup λc hc oc e=>ud c (by simp[hc]) oc e
   have RB:∀c∈A,c≠a:=λc hc=>(nw c hc).2;have HZ:∀c∈B',c≠a:=λc hc z=>by rw[z]at hc;exact absurd (Dz.symm.trans (Jy a hc).1) (λz=>(nomatch z))
   have kt:∀b xs,H6 b=some (.tup xs)->upd H6 a (.lst (vs++[v])) b=some (.tup xs):=λb xs z=>by rw[ao (λz'=>by rw[z',k7]at z;cases z)];exact z
   refine⟨vs,k7,by rw[Nf.length];exact hz,β6,tU,vs++[v],o++[xd],A++B',o6.sq.Fm k7 (λxs z=>by cases z) h0,?_,λc z=>Ge c (o6.le c z),ai,?_,?_,λc hc=>?_,λz=>?_,Fc,q⟩
   ·have m:=Jo.trans o6.sn;refine⟨m.w,m.k.trans ((jh k7 (λxs z=>by cases z)).mono λb z=>.inr (by rw[z];exact ha)),λb z e=>?_⟩
    by_cases hb:b=a
    ·rw[hb,ai]at e;cases e
    ·rw[ao hb]at e;exact m.d b z e
   ·exact(Nf.keep kt λc hc oc e=>by rw[ao (RB c hc)];exact e).append (aE.one (r1.keep kt λc hc oc e=>by rw[ao (HZ c hc)];exact e))
   ·refine YK.mpr ⟨nd,r2,λx hx y hy e=>?_⟩;subst e;have:=(Jy x hy).1;exact(JZ.nS x hx).1 this
   ·rcases XZ.mp hc with hc|hc
    ·exact nw c hc
    ·exact⟨Jo.free (Jy c hc).1,HZ c hc⟩
   ·refine λb ob e=>?_;rw[ao (λz'=>by rw[z',ha]at e;cases e)]
    exact(o6.pu (Pj z)).1 b ob (M_ z b ob e)
 ·left
  have e:i=ds.length:=by lia
  subst e;obtain⟨hh,q⟩:=i2 βi o hl;obtain⟨lv,lo⟩:=s1.Kv sq sn le inj hh λj i' e2=>st i' λz=>hT i' z j e2;refine⟨fM (XS _),fin o H2 βi _ q ⟨lv,⟨λb z=>.inl (lo b z),sn.k.mono λb z=>z.imp (bh b) id,sn.d⟩,λz=>(nomatch z),lo⟩ ⟨a::A,⟨a,vs,A,rfl,Lr,rfl,os⟩,Yj.mpr ⟨λz=>(nw a z).2 rfl,nd⟩,λc hc=>?_⟩⟩;have kl:H1 c=none:=by
   rcases XU.mp hc with rfl|hc
   ·exact ha
   ·exact(nw c hc).1
  exact⟨kl,λzS=>by obtain⟨j,hj⟩:=lo c zS;exact(s1.dm j c hj).1 kl,Yi λz=>s1.fj c z kl⟩
variable {scope:ZE}{N':List Str}{tg br elt:Expr}{ifs:List Expr}{ι:bz}{pi:Bool}{pos:Pos}{i:Nat}
theorem JK (L:Links X scope N' lk)(ji:N'.Nodup)(hT:T.all (λi=>match lk[i]? with|some (some _)=>false|_=>true)=true)(hc:X.calm=true)(hi:o8 X C pi tg br ι)
  (g9:∀a cl c s H ex,o9 (aq X scope N' cl c s H ex) (C.u λc=>c=a) tg T γ) (gI:∀a cl c s H ex,qu (aq X scope N' cl c s H ex) ifs (ib (aq X scope N' cl c s H ex) (C.u λc=>c=a) pc τ)) (τm:∀β R R',(∀d β,R d β->R' d β)->τ β R->τ β R')
  (dJ:∀a cl c s H ex,PQ (aq X scope N' cl c s H ex) (C.u λc=>c=a) pe elt φ) (γm:∀d k β R R',(∀r,R r->R' r)->γ d k β R->γ d k β R') (φm:∀β R R',(∀d k β,R d k β->R' d k β)->φ β R->φ β R')
  (hs:∀x,Yp br X.env x=pure x:=by intro _;rfl):PQ X C false (.ListComp elt [⟨tg,br,ifs,0⟩] scope pos) (BA lk ι γ τ φ):=by
 have uw:∀i∈T,∀j,lk[i]?≠some (some j):=λi hi j e=>by
  have:=Zg.mp hT i hi;rw[e]at this;cases this
 refine⟨λβ R R' k h=>hi.mono β _ _ (λds kd β1 q=>⟨q.1,q.2.mono λo β z=>k _ _ _ z⟩) h,?_⟩;refine(gY (g:=⟨tg,br,ifs,0⟩) (gs:=[]) (tg:=λa v σ H Q=>∃own β d k,SQ X (C.u λc=>c=a) σ H β own/\Rp X (dD (C.u λc=>c=a) (Wn own) k) H d v/\γ d k β λβ'=>∀σ' aK,SQ X (C.u λc=>c=a) σ' H β' aK->(∀a,Wn aK a->Wn own a)->(∀j,j∉T->σ'[j]?=σ[j]?)->Q σ' H)
  (tt:=λa=>ib X (C.u λc=>c=a) pc τ) (ta:=λa N σ H=>tQ X (C.u λc=>c=a) pe φ σ H λv H1=>∃xs,H1 a=some (.lst xs)/\xs.length<X3/\N σ (upd H1 a (.lst (xs++[v]))))
  L hc fV rfl rfl (λ_ _=>yz) hi.pi (λa cl c s H ex=>⟨(g9 a cl c s H ex).pg,gI a cl c s H ex,fU rfl (dJ a cl c s H ex).pe⟩) hs).pre λσ H Q ⟨β,own,s,h⟩=>?_
 refine⟨β,own,s,hi.mono β _ _ (λds k β1 iG J H1 au o1 it a ha=>?_) h⟩;obtain⟨hk,q⟩:=iG;exact wR γm τm φm (bw L ji) uw o1.sq ha hk it q λo H' βi aU q o2 r=>q _ _ aU (o1.Vl o2 λz=>(nomatch z)) (r.later o1.sn)
theorem V1 (N':List Str)(lk:List (Option Nat))(L:eY X.env.scope.names X.N scope N' lk=true)(ji:N'.Nodup)(hc:X.calm=true)(hi:o8 X C pi tg br ι)
  (g9:∀U cl c s H ex,o9 (aq X scope N' cl c s H ex) (C.u U) tg T γ) (gI:∀U cl c s H ex,js (aq X scope N' cl c s H ex) (C.u U) pc ifs τ) (dJ:∀U cl c s H ex,PQ (aq X scope N' cl c s H ex) (C.u U) pe elt φ)
  (hT:T.all (λi=>match lk[i]? with|some (some _)=>false|_=>true)=true:=by rfl) (hs:∀x,Yp br X.env x=pure x:=by intro _;rfl):PQ X C false (.ListComp elt [⟨tg,br,ifs,0⟩] scope pos) (BA lk ι γ τ φ) :=
 JK (Links.of L) ji hT hc hi (λa=>g9 _) (λa cl c s H ex=>(gI _ cl c s H ex).pt) (gI (λ_=>False) [] 0 X.s₀ X.H₀ []).mono (λa=>dJ _) (g9 (λ_=>False) [] 0 X.s₀ X.H₀ []).mono (dJ (λ_=>False) [] 0 X.s₀ X.H₀ []).mono hs
end
end L2.Q
namespace Dp
open PySem PySem.Spec PyProof.Rows
theorem nR:entryFor table "dict.update.loop" = some ZZ.«dict.update.loop»:=entryFor_of_tree (by kernel_rfl)
theorem gk:plainId "dict.update.loop" = true:=by decide +kernel
theorem zC:typeLookup (.type "list") "keys" = pure none:=am_miss_of_fast (by decide +kernel)
section
variable {prog:XX}{w:X6}{A:YX}{E:XO->XQ->Prop}{s:XQ}
theorem oR {a:Addr}{o:Obj}{xs:Array XO}{k:Nat}{name:Str}{Q:Option XO->XQ->Prop}
  (hx:s.heap.get? a=some o) (hc:o.cls=.type "list") (O0:o.data=.seq xs k) (hd:o.dict=none) (OQ:typeLookup (.type "list") name=pure none) (OO:(["__module__","__name__","__qualname__","__doc__","__annotations__"]:List Str).contains name=false) (hA:A.handled=none)
  (h:∀h' tk,(∀b ob,s.heap.get? b=some ob->h'.get? b=some ob)->Q none {s with heap:=h',toks:=tk}) (hsz:name.length+100<=X3:=by size_fits) :
  Ye (model prog w) A (getAttr? (.ref a) name) Q E s:=by
 obtain⟨c,XG,dat,sl⟩:=o;simp only at hc O0 hd;subst hc O0 hd;obtain⟨hp,g,d,tk,os⟩:=s;have hT:∀PJ,(⟨hp,g,d,PJ,os⟩:XQ).TypeIs (.ref a) "list" := λ_=>⟨_,hx,rfl⟩;have f1:=sub_AttributeError;have f3:=F.slot_list_getattribute.lookup;have f4:=F.slot_list_getattribute.bind (.ref a);have f5:=am_list_getattr_none;unfold getAttr? getAttrBy? getAttrBy
 repeat (any_goals (first|assumption|exact hT _|((with_reducible show Ye _ _ (call (Value.builtin "list.__getattribute__") _ _) _ _ _);refine call_meets F.slot_list_getattribute (hT _) am_entry_list_getattribute (F.args_list_getattribute_2 _ _) (meets_getattribute_miss_list a xs k sl name _ OQ OO hsz) ⟨hx,hA,λh' PJ e wq=>?_⟩)|wp_step))
 obtain⟨t',u',he⟩:=wq.there;show Ye _ _ (getattributeRaised _ _ _ _ _ _ _) _ _ _;unfold getattributeRaised
 repeat (any_goals (first|assumption|wp_step))
 exact h _ _ wq.keeps
end
section
variable {prog:XX}{w:X6}{A:YX}{R:Result->XQ->Prop}{I l d:Addr}{K:Type}[DecidableEq K]{knd:HeapKind prog w K}{ps:List (Addr×K×Addr×XO)}
def jr (knd:HeapKind prog w K)(h:Heap)(p:Addr×K×Addr×XO):Prop:=IsTup h p.1 #[.ref p.2.2.1,p.2.2.2]/\knd.is h p.2.1 p.2.2.1
def put (xs:List (K×Addr×XO))(p:Addr×K×Addr×XO):List (K×Addr×XO):=storedH xs p.2.1 p.2.2.1 p.2.2.2
def EF (ps:List (Addr×K×Addr×XO))(xs:List (K×Addr×XO)):Prop:=∀x∈xs,∃p∈ps,x.1=p.2.1/\x.2.1=p.2.2.1
theorem EF.put {xs:List (K×Addr×XO)}{p:Addr×K×Addr×XO}(f:EF ps xs)(hp:p∈ps):EF ps (Dp.put xs p):=λx hx=>by
 unfold Dp.put storedH at hx
 split at hx
 ·obtain⟨y,hy,rfl⟩:=Yl.mp hx;obtain⟨q,hq,e1,e2⟩:=f y hy;refine⟨q,hq,?_⟩;unfold putAt
  split
  ·exact⟨e1,e2⟩
  ·exact⟨e1,e2⟩
 ·rcases XZ.mp hx with h|h
  ·exact f x h
  ·rw[XW.mp h];exact⟨p,hp,rfl,rfl⟩
theorem Ft {xs:List (K×Addr×XO)}{p:Addr×K×Addr×XO}:(Dp.put xs p).length<=xs.length+1:=by
 unfold Dp.put storedH
 split
 ·rw[XN];lia
 ·simp
theorem qe {h h':Heap}{xs:List (K×Addr×XO)}(m:h.DictOfH knd d xs)(f:EF ps xs)(k:∀o,h.get? d=some o->h'.get? d=some o)(hP:∀p∈ps,jr knd h' p):h'.DictOfH knd d xs:=by
 obtain⟨o,es,ep,h1,h2,h3,h4,h5,h6⟩:=m;refine⟨o,es,ep,k o h1,h2,h3,h4,λx hx=>?_,h6⟩;obtain⟨p,hp,e1,e2⟩:=f x hx;rw[e1,e2];exact(hP p hp).2
theorem loop (hh:A.handled=none)(hu:knd.room A.in1)(nI:l≠I)(nd:d≠I)(nl:l≠d)(hP:∀h h',(∀p∈ps,jr knd h p)->(∀b o,b≠I->b≠d->h.get? b=some o->h'.get? b=some o)->∀p∈ps,jr knd h' p):
  ∀(r j:Nat) (s:XQ) (xs:List (K×Addr×XO)),ps.length=j+r->xs.length+r<=X3->EF ps xs->(∀p∈ps,jr knd s.heap p)->s.heap.IsListIter I l j->s.heap.IsList l (ps.map λx=>Value.ref x.1).toArray->s.heap.DictOfH knd d xs ->
  (∀h' tk,(∀b o,b≠I->b≠d->s.heap.get? b=some o->h'.get? b=some o)->h'.DictOfH knd d ((ps.drop j).foldl put xs)->R (.ok (.ret .none)) {s with heap:=h',toks:=tk}) ->
  aax (model prog w) A (.builtin "dict.update.loop" ⟨[.ref d,.ref I,rawInt j,.none],[]⟩) R s:=by
 have W:=Walks.list (prog:=prog) (w:=w) (A:=A.in1) hh I l nI (ps.map λx=>Value.ref x.1).toArray;intro r
 induction r with
 |zero =>
  intro j s xs e1 ez ef eP e2 e3 e4 k;have ej:j=(ps.map λx=>Value.ref x.1).toArray.size:=by simp;lia
  rw[List.drop_of_length_le (by lia)]at k
  refine aai nR ?_;rw[aab gk _];show Ye _ _ (aav (.ref I) >>= _) _ _ s;refine XM (W.done s _ _ (by rw[<- ej];exact⟨e2,e3⟩) λh' tk g=>?_)
  have gP:=hP _ h' eP λb o b1 b2 e=>g b o (by simpa using b1) e
  exact XM (XT (XT (k _ tk (λb o b1 b2 e=>g b o (by simpa using b1) e) (qe e4 ef (λo e=>g d o (by simpa using nd) e) gP))))
 |succ r ih =>
  intro j s xs e1 ez ef eP e2 e3 e4 k;have hj:j<ps.length:=by lia
  have hd:ps.drop j=ps[j]::ps.drop (j+1):=Zi hj;rw[hd,Zt]at k;have hm:ps[j]∈ps:=Y7 hj;refine aai nR ?_;rw[aab gk _];show Ye _ _ (aav (.ref I) >>= _) _ _ s;refine XM (W.item j s _ _ (by simpa using hj) ⟨e2,e3⟩ λv h' tk hv g2 g=>?_)
  have ev:v=.ref ps[j].1:=by
   rw[show (ps.map λx=>Value.ref x.1).toArray[j]?=some (.ref ps[j].1) by simp[hj]]at hv
   exact(Yv hv).symm
  subst ev;have gP:=hP _ h' eP λb o b1 b2 e=>g b o (by simpa using b1) e
  have g4:=qe e4 ef (λo e=>g d o (by simpa using nd) e) gP
  obtain⟨⟨o,t1,t2,n,t3⟩,hk⟩:=gP ps[j] hm;show Ye _ _ (holding [.ref ps[j].1] (tryCatch (Builtin.Dict.pairItems (.ref ps[j].1)) _ >>= _) >>= _) _ _ _;refine XM (YU (XM (wpAny_tryCatch ?_)));unfold Builtin.Dict.pairItems;refine XM (wpAny_typeOf ⟨o,t1,t2⟩ ?_);rw[if_pos (by decide)]
  refine XM (ZD t1 t3 (XT ?_));show Ye _ _ (holding [.ref ps[j].2.2.1,ps[j].2.2.2] (dictSet d (.ref ps[j].2.2.1) ps[j].2.2.2)) _ _ _;refine YU (wpAny_dictSet_heap hu hk g4 (λh2 m2 sb=>?_) (hsz:=by lia))
  have kp:∀b ob,b≠I->b≠d->s.heap.get? b=some ob->h2.get? b=some ob:=λb ob b1 b2 e=>(sb.2 b b2).trans (g b ob (by simpa using b1) e)
  have sI:∀ob,h'.get? I=some ob->h2.get? I=some ob:=λob e=>(sb.2 I (YW nd)).trans e;have sl:∀ob,h'.get? l=some ob->h2.get? l=some ob:=λob e=>(sb.2 l nl).trans e;refine XT ⟨plainId_quiet gk _,?_⟩;have:=ih (j+1) {s with heap:=h2,toks:=tk+knd.draws ps[j].2.1} (put xs ps[j]) (by lia) (by have:=Ft (xs:=xs) (p:=ps[j]);lia) (ef.put hm) (hP _ _ eP kp) (g2.1.at sI) (g2.2.at sl) m2 λh3 QD q3 m3=>k h3 QD (λb ob b1 b2 e=>q3 b ob b1 b2 (kp b ob b1 b2 e)) m3
  rw[show (((j+1:Nat):Int))=(j:Int)+1 from rfl]at this
  exact this
end
section
variable {prog:XX}{w:X6}{A:YX}{E:XO->XQ->Prop}{s:XQ}{l:Addr}{K:Type}[DecidableEq K]{knd:HeapKind prog w K}{ps:List (Addr×K×Addr×XO)}
theorem wU {Q:XO->XQ->Prop} {o:Obj} {n:Nat} (hh:A.handled=none) (hu:knd.room A.in1.in1) (ho:s.heap.get? l=some o) (hc:o.cls=.type "list") (US:o.data=.seq (ps.map λx=>Value.ref x.1).toArray n) (Wz:o.dict=none) (hz:ps.length<=X3)
  (hP:∀p∈ps,jr knd s.heap p) (hi:∀(h h':Heap) (k:K) (a:Addr),knd.is h k a->(∀o,h.get? a=some o->h'.get? a=some o)->knd.is h' k a) (hb:∀p∈ps,∃o,s.heap.get? p.2.2.1=some o)
  (h:∀h' tk,(∀b o,s.heap.get? b=some o->h'.get? b=some o)->h'.DictOfH knd s.heap.objs.size (ps.foldl put [])->Q (.ref s.heap.objs.size) {s with heap:=h',toks:=tk}) :
  Ye (model prog w) A (call (.type "dict") [.ref l]) Q E s:=by
 have lt:l<s.heap.objs.size:=X8 ho;refine callType_codes (Q₁:=λobj s₁=>obj=.ref s.heap.objs.size/\s₁={s with heap:=s.heap.push {cls:=.type "dict",data:=.dict #[]}}) F.kt_called_dict (F.kt_typeCall_dict_1 _) F.entry_dict_init (kt_code_dict_new _ ⟨rfl,rfl⟩) ?_
 rintro obj s₁ ⟨rfl,rfl⟩;have oM:(s.heap.push {cls:=.type "dict",data:=.dict #[]}).DictOfH knd s.heap.objs.size []:=Heap.DictOfH.new s.heap;have up:∀b o,s.heap.get? b=some o->(s.heap.push {cls:=.type "dict",data:=.dict #[]}).get? b=some o:=λb o e=>XR _ e;refine⟨oM.typeIs,F.args_dict_init_2 _ _,?_⟩;unfold ZZ.«dict.__init__»
 refine XM ?_;unfold Builtin.Dict.selfAndRest;refine XM (wpAny_notOrdered_dict oM.typeIs ?_);show Ye _ _ (pure (s.heap.objs.size,[Value.ref l])) _ _ _;refine XT ?_;show Ye _ _ (Builtin.Dict.updateFrom "dict.__init__" s.heap.objs.size (.ref l) [] .none) _ _ _;unfold Builtin.Dict.updateFrom;refine XM (wpAny_typeOf ⟨o,up _ _ ho,hc⟩ ?_);rw[if_pos (by decide)]
 refine XM (oR (up _ _ ho) hc US Wz zC (by decide) (by exact hh) λh1 PH k1=>?_)
 rw[if_pos (show (none:Option XO).isNone=true from rfl)]
 refine XM (aaI ?_);have lo:h1.get? l=some o:=k1 _ _ (up _ _ ho);have hl:h1.IsList l (ps.map λx=>Value.ref x.1).toArray:=⟨o,lo,hc,n,US⟩;refine XM (wpAny_pyIter_list hl ?_);have O_:s.heap.objs.size<h1.objs.size:=by
  obtain⟨od,_,_,g,_⟩:=oM;exact X8 (k1 _ _ g)
 have u1:∀b ob,s.heap.get? b=some ob->h1.get? b=some ob:=λb ob e=>k1 _ _ (up _ _ e);have u2:∀b ob,s.heap.get? b=some ob->(h1.push {cls:=.type "list_iterator",data:=.fields #[.ref l,.int 0 0]}).get? b=some ob:=λb ob e=>XR _ (u1 b ob e);have P1:∀p∈ps,jr knd (h1.push {cls:=.type "list_iterator",data:=.fields #[.ref l,.int 0 0]}) p:=λp hp=>by
  obtain⟨⟨o,t1,t2⟩,Qi⟩:=hP p hp;exact⟨⟨o,u2 _ _ t1,t2⟩,hi _ _ _ _ Qi λo e=>u2 _ _ e⟩
 have pl:∀p∈ps,p.1<s.heap.objs.size/\p.2.2.1<s.heap.objs.size:=λp hp=>by
  obtain⟨⟨o,t1,t2⟩,Qi⟩:=hP p hp;obtain⟨o',Vt⟩:=hb p hp;exact⟨X8 t1,X8 Vt⟩
 refine XT ⟨plainId_quiet gk _,?_⟩;refine loop (A:=A.in1) (ps:=ps) (knd:=knd) (I:=h1.objs.size) (d:=s.heap.objs.size) (l:=l) hh hu (Yk (aaH lt O_)) (Yk O_) (Yk lt) (λh h' UP kp=>?_) ps.length 0 _ [] (by lia) (by simpa using hz) (λx hx=>by cases hx) P1
  ⟨_,X_ _ rfl,rfl,rfl⟩ (hl.push _) ?_ λh' tk q m=>?_
 ·intro p hp;obtain⟨⟨o,t1,t2⟩,Qi⟩:=UP p hp;obtain⟨l1,l2⟩:=pl p hp;exact⟨⟨o,kp _ _ (Yk (aaH l1 O_)) (Yk l1) t1,t2⟩,hi _ _ _ _ Qi λo e=>kp _ _ (Yk (aaH l2 O_)) (Yk l2) e⟩
 ·obtain⟨od,es,ep,g1,g2,g3,g4,g5,g6⟩:=oM;exact⟨od,es,ep,XR _ (k1 _ _ g1),g2,g3,g4,(λx hx=>by cases hx),g6⟩
 ·exact⟨rfl,h h' tk (λb ob e=>q b ob (Yk (aaH (X8 e) O_)) (Yk (X8 e)) (u2 b ob e)) m⟩
end
end Dp
namespace L2.Q
open PySem PySem.Spec PySem.SeqAt PyProof.Rows
def mN (t:List Int):D:=.tup [kD t,.bl true]
def FA (e:D):Option (List Int):=e.KP.bind λl=>match l with
 |[k,.bl true]=>k.KP.bind h7
 |_=>none
def Nb:List D->Option (List (List Int))
 |[]=>some []
 |e::es=>(FA e).bind λt=>(Nb es).map (t::·)
theorem Fz {e:D}{t:List Int}(h:FA e=some t):e=mN t:=by
 obtain⟨l,h1,h2⟩:=YT.mp h;rw[rD h1]
 split at h2
 ·obtain⟨es,h3,h4⟩:=YT.mp h2;rw[rD h3,kc h4];rfl
 ·cases h2
theorem BJ:∀{es:List D} {ts:List (List Int)},Nb es=some ts->es=ts.map mN
 |[],_,h=>by cases h;rfl
 |e::es,ts,h=>by
  obtain⟨t,h1,h2⟩:=YT.mp h;obtain⟨r,h3,rfl⟩:=X9.mp h2;rw[Fz h1,BJ h3];rfl
theorem xr:∀ts:List (List Int),Nb (ts.map mN)=some ts
 |[]=>rfl
 |t::ts=>by
  have e:FA (mN t)=some t:=by
   show (some (t.map D.int)).bind h7=some t;rw[Zn,fZ]
  show (FA (mN t)).bind _=_;rw[e,Zn,xr ts];rfl
def wQ:List D->Option D
 |[d]=>d.Ko.bind λes=>(Nb es).map λts=>dP (ts.foldl cK []) true
 |_=>none
theorem Ag (ts:List (List Int)):wQ [.lst (ts.map mN)]=some (dP (ts.foldl cK []) true):=by
 show (some (ts.map mN)).bind (λes=>(Nb es).map λts=>dP (ts.foldl cK []) true)=_;rw[Zn,xr];rfl
theorem Ah {ds:List D}{d:D}(h:wQ ds=some d):∃ts:List (List Int),ds=[.lst (ts.map mN)]/\d=dP (ts.foldl cK []) true:=by
 cases ds with
 |nil=>cases h
 |cons x r =>
  cases r with
  |cons _ _=>cases h
  |nil =>
   obtain⟨es,h1,h2⟩:=YT.mp h;obtain⟨ts,h3,rfl⟩:=X9.mp h2;exact⟨ts,by rw[D.xT h1,BJ h3],rfl⟩
section
variable {P:XX}{w:X6}{W:Addr->Prop}{H:Hp}
theorem tE:∀{ts:List (List Int)} {vs:List V},ag P w W H (ts.map mN) vs->∃qs:List (Addr×List Int×Addr),vs=qs.map (λq=>V.ref q.1)/\ts=qs.map (·.2.1)/\∀q∈qs,H q.1=some (.tup [.ref q.2.2,.bl true])/\H q.2.2=some (.tup (q.2.1.map V.int))
 |[],_,h=>⟨[],h,rfl,λ_ z=>(nomatch z)⟩
 |t::ts,_,h=>by
  obtain⟨v,r,rfl,h1,h2⟩:=h;obtain⟨qs,e1,e2,e3⟩:=tE h2;obtain⟨a,us,rfl,ha,x,r1,rfl,hx,y,r2,rfl,hy,hr⟩:=h1;obtain⟨b,ws,rfl,hb,hw⟩:=hx;rw[L2.bY hw]at hb;cases (show y=V.bl true from hy)
  cases (show r2=[] from hr)
  refine⟨(a,t,b)::qs,by rw[e1];rfl,by rw[e2];rfl,λq hq=>?_⟩
  rcases XU.mp hq with rfl|hq
  ·exact⟨ha,hb⟩
  ·exact e3 q hq
end
abbrev Mb (q:Addr×List Int×Addr):Addr×List Key×Addr×XO:=(q.1,iK q.2.1,q.2.2,Value.bool true)
theorem xV {H:Hp}:∀(qs:List (Addr×List Int×Addr)) {acc:List (List Int)} {xs:List (List Key×Addr×XO)},(∀q∈qs,H q.2.2=some (.tup (q.2.1.map V.int)))->KT H ((acc.map iK).map λk=>(k,V.bl true)) xs ->
  KT H ((((qs.map (·.2.1)).foldl cK acc).map iK).map λk=>(k,V.bl true)) ((qs.map Mb).foldl Dp.put xs)
 |[],_,_,_,r=>r
 |q::qs,acc,xs,h,r=>by
  rw[X4,X4,Zt,Zt];refine xV qs (λq' hq=>h q' (Yd _ hq)) ?_;have:=r.put (iK q.2.1) (b:=q.2.2) (y:=V.bl true) (u:=Value.bool true) (by rw[pU];exact h q (by simp)) rfl
  rw[xo]at this;exact this
theorem jZ:∀(ts:List (List Int)) (acc:List (List Int)),(ts.foldl cK acc).length<=acc.length+ts.length
 |[],acc=>by simp
 |t::ts,acc=>by
  rw[Zt,Yt];have h1:=jZ ts (cK acc t);have h2:(cK acc t).length<=acc.length+1:=by unfold cK;split <;> simp
  lia
variable {X:Cx}
theorem wX (hc:X.calm=true) (hu:X.A.units+2<Z7):bo X (.type "dict") wQ:=by
 intro pins s σ H xs us Q I r h;obtain⟨W,ds,d,hd,r1,e,q⟩:=h;obtain⟨ts,rfl,rfl⟩:=Ah e;obtain⟨x,rfl,p,vs,rfl,h1,n1,q1⟩:=qr r1;obtain⟨u,rfl,ru⟩:=vals1 r;cases ru;obtain⟨qs,rfl,rfl,T⟩:=tE q1;obtain⟨hz,its,n,r2,hl⟩:aO X.prog X.w H s.heap p (.lst _):=I.a5 p _ h1;have ei:its=(qs.map Mb).map λx=>Value.ref x.1:=by
  have key:∀(qs:List (Addr×List Int×Addr)) (its:List XO),Vals (qs.map λq=>V.ref q.1) its->its=(qs.map Mb).map λx=>Value.ref x.1:=λqs=>by
   induction qs with
   |nil=>intro its r;cases r;rfl
   |cons q qs ih =>
    intro its r;cases r with
    |cons a b=>cases a;rw[ih _ b];rfl
  exact key qs its r2
 subst ei;have hlen:qs.length<=X3:=by rw[XN]at hz;exact hz
 have hP:∀x∈qs.map Mb,Dp.jr (aau (aX X.prog X.w)) s.heap x:=λx hx=>by
  obtain⟨q,hq,rfl⟩:=Yl.mp hx;obtain⟨t1,t2⟩:=T q hq;refine⟨?_,kS I.a5 (by rw[pU];exact t2)⟩
  obtain⟨_,its,r,hi⟩:aO X.prog X.w H s.heap q.1 (.tup _):=I.a5 q.1 _ t1;obtain⟨u1,u2,rfl,e1,e2⟩:=vals2 r;cases e1;cases e2;exact hi
 have hb:∀x∈qs.map Mb,∃o,s.heap.get? x.2.2.1=some o:=λx hx=>by
  obtain⟨q,hq,rfl⟩:=Yl.mp hx;obtain⟨_,its,r,o,hi,_⟩:aO X.prog X.w H s.heap q.2.2 (.tup _):=I.a5 q.2.2 _ (T q hq).2;exact⟨o,hi⟩
 refine Dp.wU (ps:=qs.map Mb) (knd:=aau (aX X.prog X.w)) (I.ok.hd hc) hu hl rfl rfl rfl (by rw[XN];exact hlen) hP (λh h' k a hk kp=>?_) hb λh' tk kp m=>?_
 ·obtain⟨o,items,n,g1,g2⟩:=hk;exact⟨o,items,n,kp o g1,g2⟩
 ·have fr:H s.heap.objs.size=none:=I.a5.fresh (XS _);have kt:=xV (H:=H) qs (acc:=[]) (xs:=[]) (λq hq=>(T q hq).2) .nil;obtain⟨o,es,ep,g1,g2,g3,g4,_,g6⟩:=m;have le:=jZ (qs.map (·.2.1)) [];rw[XN,List.length_nil]at le;have new:aO X.prog X.w (upd H s.heap.objs.size (.dT ((((qs.map (·.2.1)).foldl cK []).map iK).map λk=>(k,V.bl true)))) h' s.heap.objs.size (.dT ((((qs.map (·.2.1)).foldl cK []).map iK).map λk=>(k,V.bl true))):=by
   refine⟨by rw[XN,XN];lia,beq_eq_false_iff_ne.mpr (YW (Yk I.big)),_,kt.keeps λb ys eb=>?_,o,es,ep,g1,g2,g3,g4,g6⟩
   rw[ao (λz=>by rw[z,fr]at eb;cases eb)]
   exact eb
  refine⟨.ref s.heap.objs.size,_,I.laid kp (XS _) new,rfl,q _ _ (ar.new fr) ?_⟩;exact(vT (P:=X.prog) (w:=X.w) (H:=upd H s.heap.objs.size _) ai).rep λc hc z=>by
   rw[XW.mp hc]at z;exact hd _ z fr
section
variable {X:Cx}{C:Cfg}{lk:List (Option Nat)}{γ γ2:bW}{τ τ2:aN}{φ:aB}{T T2:List Nat}
variable {scope:ZE}{tg br iQ fM elt:Expr}{ifs cW:List Expr}{ι ι2:bz}{pi:Bool}{pos pos' gT:Pos}{y:Str}{i:Nat}
theorem Q4 (o:Bool)(N':List Str)(lk:List (Option Nat))(L:eY X.env.scope.names X.N scope N' lk=true)(ji:N'.Nodup)(hc:X.calm=true)(hi:∀U,o8 X (C.u U) pi tg br ι)
  (g9:∀U cl c s H ex,o9 (aq X scope N' cl c s H ex) (C.u U) tg T γ) (gI:∀U cl c s H ex,js (aq X scope N' cl c s H ex) (C.u U) true ifs τ)
  (Im:∀U cl c s H ex,Pp (aq X scope N' cl c s H ex) (C.u U) iQ fM ι2)
  (um:∀U cl c s H ex,o9 (aq X scope N' cl c s H ex) (C.u U) iQ T2 γ2) (uk:∀U cl c s H ex,js (aq X scope N' cl c s H ex) (C.u U) true cW τ2)
  (dJ:∀U cl c s H ex,PQ (aq X scope N' cl c s H ex) (C.u U) true elt φ)
  (hN:X.N.Nodup) (hT:(T++T2).all (λi=>match lk[i]? with|some (some _)=>false|_=>true)=true:=by rfl) (hy:X.N[i]?=some y:=by rfl) (hx:Loc X.env.scope y:=by first|exact .inl rfl|exact .inr rfl) (hf:X.fn y=true\/X.env.scope.names.lookup y=some .local:=by first|exact .inl rfl|exact .inr rfl|assumption)
  (oq:Zj (.ListComp elt [⟨tg,br,ifs,0⟩,⟨iQ,fM,cW,0⟩] scope pos) (some (.Name y pos')) gT.line X.env=pure true:=by rfl)
  (wx:aaQ (.ListComp elt [⟨tg,br,ifs,0⟩,⟨iQ,fM,cW,0⟩] scope pos) X.env (assign (.Name y pos') X.env)=(do let _ <- comprehension (.ListComp elt [⟨tg,br,ifs,0⟩,⟨iQ,fM,cW,0⟩] scope pos) scope X.env (firstIterPos [⟨tg,br,ifs,0⟩,⟨iQ,fM,cW,0⟩] pos) (newList []) false (eval br X.env) (some (assign (.Name y pos') X.env));pure ()):=by first|rfl|exact aag ..)
  (hs:∀x,Yp br X.env x=pure x:=by intro _;rfl) (jT:∀cl c s H ex x,Yp fM (aq X scope N' cl c s H ex).env x=pure x:=by intro _ _ _ _ _ _;rfl) :
  PB X C (.Assign [.Name y pos'] (.ListComp elt [⟨tg,br,ifs,0⟩,⟨iQ,fM,cW,0⟩] scope pos) gT) (λE β=>BB lk ι γ τ ι2 γ2 τ2 φ β λd _ β'=>E.nx (β'.set i (some (match o with|true=>.own d|false=>.val true d)))):=by
 have L:=Links.of L;have uw:∀i∈T++T2,∀j,lk[i]?≠some (some j):=λi hi j e=>by
  have:=Zg.mp hT i hi;rw[e]at this;cases this
 have γm:=(g9 (λ_=>False) [] 0 X.s₀ X.H₀ []).mono;have τm:=(gI (λ_=>False) [] 0 X.s₀ X.H₀ []).mono;have φm:=(dJ (λ_=>False) [] 0 X.s₀ X.H₀ []).mono;have AR:=(um (λ_=>False) [] 0 X.s₀ X.H₀ []).mono;have AO:=(uk (λ_=>False) [] 0 X.s₀ X.H₀ []).mono;have ιm:=(Im (λ_=>False) [] 0 X.s₀ X.H₀ []).mono;refine⟨λE E' β l h=>(hi λ_=>False).mono β _ _ (λds kd β1 q=>⟨q.1,q.2.mono λ_ _ z=>⟨z.1,l.nx _ z.2⟩⟩) h,λpins s σ H D I0 hh=>?_⟩;obtain⟨Z,E,β,⟨own,sq,n⟩,h,ok⟩:=hh;refine tx (g:=⟨tg,br,ifs,0⟩) (gs:=[⟨iQ,fM,cW,0⟩]) (tg:=λa=>Ay X C a T γ) (tt:=λa=>ib X (C.u λc=>c=a) true τ) (ta:=λa N σ H=>∃β own,SQ X (C.u λc=>c=a) σ H β own/\ι2 β λds k β'=>∀J H',ar H H'->SQ X (C.u λc=>c=a) σ H' β' own->rW X (dD (C.u λc=>c=a) (Wn own) k) J ds H' ->
   dw J (Ay X C a T2 γ2) (ib X (C.u λc=>c=a) true τ2) (PK X C a φ) N σ H')
  L hc fV oq wx rfl hN hy hx hf (λ_ _=>El) (hi λa=>H a=none).pi (λa cl c s H ex=>⟨(g9 _ cl c s H ex).pg,(gI _ cl c s H ex).pt,q_ (X:=aq X scope N' cl c s H ex) (g':=⟨iQ,fM,cW,0⟩) rfl hc Ek (Im _ cl c s H ex).pi (um _ cl c s H ex).pg (uk _ cl c s H ex).pt (fU (X:=aq X scope N' cl c s H ex) rfl (dJ _ cl c s H ex).pe) (jT cl c s H ex)⟩) hs pins s σ H D I0 ?_
 refine⟨β,own,sq.iP (C:=C.z) (U:=λa=>H a=none) λa z=>z,(hi λ_=>False).mono β _ _ (λds k β1 h J H1 au o1 it a ha=>?_) h⟩;obtain⟨hk,q⟩:=h;refine fR (C:=C.u λa=>H a=none) (T:=T++T2) (lb (P:=X.prog) (w:=X.w) (H1:=H1)) γm τm (λj hj=>Yq _ hj) (bw L ji) uw o1.sq ha hk it ⟨[],[],ai,(show aE _ _ _ [] [] [] from ⟨rfl,rfl⟩),YA,λc hc=>(nomatch hc)⟩ (o1.sq.enter ha (bw L ji))
  (λHb Wb βx ox σx Hx Nx h0 sx qx=>qM lb (λj hj=>Yn _ hj) AR AO (λHb Wb βy oy σy Hy Ny sy qy=>qO h0 ha φm sy qy) ιm sx qx) q λol H' q o2 r=>?_
 have r':=(w6 o1.sq ha r).later o1.sn;have QT:=o1.sn.trans o2.sn;have m:=n.trans QT;cases o with
 |false=>exact ok.nx _ _ _ ⟨_,(bf.Rz o2.sq).eJ (az.aQ (λa z=>z.elim id λz=>z.elim) (KV.rep r')),iZ m⟩ q
 |true =>
  obtain⟨A,h1,h2,h3⟩:=r';refine ok.nx _ _ _ ⟨_,o2.sq.mC h1 h2 λc hc=>⟨(h3 c hc).2.2,(h3 c hc).2.1,(h3 c hc).1⟩,?_⟩ q;exact⟨λb hq=>by
   obtain⟨j,hj⟩:=hq
   by_cases aA:i=j
   ·rw[<- aA,os_eq]at hj;exact .inr (n.free (h3 b hj).1)
   ·rw[aZ aA]at hj;exact m.w b ⟨j,hj⟩,m.k,m.d⟩
end
section
variable {X:Cx}{C:Cfg}{a b:Expr}{p p' pos pos':Pos}
theorem Gu {i:Int}{n:Nat}{acc:Array XO}(h:ItemsOf (λk v=>∃t,v=Value.int (i+k*1) t) acc n):Vals ((X7 n).map λk:Nat=>V.int (i+(k:Int))) acc.toList:=by
 have key:∀(l:List XO) (i:Int),(∀j v,l[j]?=some v->∃t,v=Value.int (i+((j:Nat):Int)) t)->Vals ((X7 l.length).map λk:Nat=>V.int (i+(k:Int))) l:=λl=>by
  induction l with
  |nil=>intro i _;exact .nil
  |cons x r ih =>
   intro i h;rw[Yt,List.range_succ_eq_map,X4,Y_];obtain⟨t,rfl⟩:=h 0 x rfl;refine .cons ⟨t,rfl⟩ ?_;have:=ih (i+1) λj v e=>by
    obtain⟨t,e'⟩:=h (j+1) v (by simpa using e)
    exact⟨t,by rw[e'];congr 1;lia⟩
   refine(show (λk:Nat=>V.int (i+(k:Int))) ∘ Nat.succ=λk:Nat=>V.int (i+1+(k:Int)) from ?_)▸this
   funext k
   show V.int (i+((k+1:Nat):Int))=_
   congr 1
   lia
 have:=key acc.toList i λj v e=>by
  obtain⟨t,e'⟩:=h.2 j v (by simpa using e)
  exact⟨t,by rw[e',Int.mul_one]⟩
 rwa [Yc,h.1]at this
theorem qY {ta:TA} (hc:X.calm=true) (SK:Gl X "list") (Sw:X.mg "list" = none) (hg:Gl X "range") (hm:X.mg "range" = none) (ha:PA X [a,b] ta) (hs:X2 [a,b] X.env=[(false,eval a X.env),(false,eval b X.env)]:=by rfl) (jT:X2 [b] X.env=[(false,eval b X.env)]:=by rfl)
  (hl:X2 [.Call (.Name "range" p) [a,b] [] pos] X.env=[(false,eval (.Call (.Name "range" p) [a,b] [] pos) X.env)]:=by rfl) :
  PE X (.Call (.Name "list" p') [.Call (.Name "range" p) [a,b] [] pos] [] pos') (λσ H Q=>ta σ H λvs H1=>∃i j:Int,vs=[.int i,.int j]/\(-(2 ^ 62)<=i/\i<2 ^ 62/\-(2 ^ 62)<=j/\j<2 ^ 62)/\(j-i).toNat<=2 ^ 24/\∀p,H1 p=none->Q (.ref p) (upd H1 p (.lst ((X7 (j-i).toNat).map λk:Nat=>V.int (i+(k:Int)))))):=by
 intro pins s σ H Q I h;refine aaj (fH I SK Sw fE ?_ (by decide) (by decide))
 refine Y0 ?_ hl rfl;rw[hl];show Ye _ _ (spliced ((false,eval (.Call (.Name "range" p) [a,b] [] pos) X.env)::[])) _ _ s;refine Calls.spliced_cons ?_;refine aaj (fH I hg hm boot_range ?_ (by decide) (by decide))
 refine Y0 (bu (ha pos pins s σ H _ I h) λus s1 h1=>?_) (by rw[hs,jT]) (by rw[jT];rfl)
 obtain⟨vs,H1,I1,r1,i,j,rfl,⟨q1,q2,q3,q4⟩,hz,q⟩:=h1;obtain⟨u1,u2,rfl,⟨t1,rfl⟩,⟨t2,rfl⟩⟩:=vals2 r1;refine call_range_2 (Calls.spliced_nil ?_);have up:∀b o,s1.heap.get? b=some o->(s1.heap.push {cls:=.type "range",data:=.fields #[.int i t1,.int j t2,.int 1 s1.toks]}).get? b=some o:=λb o e=>XR _ e;have e2:ZV i j 1=(((j-i).toNat:Nat):Int):=by rw[rangeSize_one];split <;> lia
 refine call_list_range (n:=(j-i).toNat) (I.ok.hd hc) (IsRange.new ..) (small_one q1 q2 q3 q4) e2 hz λh' tk acc c kp hS ha=>?_;have I2:Inv X pins σ H1 {s1 with heap:=s1.heap.push {cls:=.type "range",data:=.fields #[.int i t1,.int j t2,.int 1 s1.toks]},toks:=s1.toks+1}:=I1.kept up
 have fr:H1 (s1.heap.push {cls:=.type "range",data:=.fields #[.int i t1,.int j t2,.int 1 s1.toks]}).objs.size=none:=I2.a5.fresh (XS _);refine⟨.ref (s1.heap.push {cls:=.type "range",data:=.fields #[.int i t1,.int j t2,.int 1 s1.toks]}).objs.size,_,I2.laid (o:=.lst _) kp (XS _) ⟨?_,acc.toList,c,Gu ha,?_⟩,rfl,q _ fr⟩
 ·rw[XN,Yx];exact hz
 ·simpa using hS
def Bz (φs:cg):aB:=λβ R=>φs β λds _ β1=>∃i j:Int,ds=[.int i,.int j]/\(-(2 ^ 62)<=i/\i<2 ^ 62/\-(2 ^ 62)<=j/\j<2 ^ 62)/\(j-i).toNat<=2 ^ 24/\R (.lst (mL i (j-i).toNat)) .own β1
theorem s9 {P:XX}{w:X6}{H:Hp}{i:Int}:∀(l:List Nat),aE P w H (l.map λk:Nat=>D.int (i+(k:Int))) (l.map λk:Nat=>V.int (i+(k:Int))) []
 |[]=>⟨rfl,rfl⟩
 |k::l=>⟨_,_,[],[],rfl,rfl,⟨rfl,rfl⟩,s9 l⟩
theorem qW {φs:cg} {q:Bool} (hc:X.calm=true) (Sw:X.mg "list" = none) (hm:X.mg "range" = none) (ha:sg X C q [a,b] φs) (SK:Gl X "list" := by rfl) (hg:Gl X "range" := by rfl) (hs:X2 [a,b] X.env=[(false,eval a X.env),(false,eval b X.env)]:=by rfl) (jT:X2 [b] X.env=[(false,eval b X.env)]:=by rfl)
  (hl:X2 [.Call (.Name "range" p) [a,b] [] pos] X.env=[(false,eval (.Call (.Name "range" p) [a,b] [] pos) X.env)]:=by rfl):PQ X C q (.Call (.Name "list" p') [.Call (.Name "range" p) [a,b] [] pos] [] pos') (Bz φs) :=
 ⟨λβ R R' k h=>ha.mono β _ _ (λds ks β1 h=>by obtain⟨i,j,e,h1,h2,q⟩:=h;exact⟨i,j,e,h1,h2,k _ _ _ q⟩) h,(qY hc SK Sw hg hm ha.pa hs jT hl).pre λσ H Q h=>by
  obtain⟨β,own,s,h⟩:=h;refine vg.of ha s h λds ks β1 vs H1 au h o1 r1=>?_;obtain⟨i,j,rfl,h1,h2,q⟩:=h;obtain⟨x,r,rfl,rx,y,r',rfl,ry,rr⟩:=r1.i6;cases (show x=V.int i from rx)
  cases (show y=V.int j from ry)
  cases (show r'=[] from rr)
  refine⟨i,j,rfl,h1,h2,λp hp=>q _ _ au (o1.same (ar.new hp)) ⟨[p],⟨p,_,[],rfl,ai,rfl,s9 _⟩,by simp,λc hc=>?_⟩⟩
  rw[XW.mp hc];exact⟨Yi λz=>o1.sn.d p z hp,λz=>o1.sq.r9 p z hp,Yi λz=>o1.sq.fj p z hp⟩⟩
end
section
variable {X:Cx}{C:Cfg}{p:Bool}{e:Expr}{φ:aB}{i:Nat}{x:Str}{px tp pos:Pos}
theorem FO {j}(he:PQ X C.z p e φ)(hn:Nm X i x:=by exact vY)
  (Wg:X2 [e,.Name x px] X.env=(false,eval e X.env)::X2 [.Name x px] X.env:=by rfl) (jT:X2 [.Name x px] X.env=(false,eval (.Name x px) X.env)::X2 [] X.env:=by rfl) :
  PB X C (.Return (some (.Tuple [e,.Name x px] j tp)) pos) (λE β=>φ β λd0 _ β1=>d0.flat=true/\∃d,β1[i]?=some (some (.own d))/\E.rt (.tup [d0,d]) β1) :=
 ⟨λE E' β l q=>he.mono _ _ _ (λd0 k β1 h=>by obtain⟨f,d,h1,q⟩:=h;exact⟨f,d,h1,l.rt _ _ q⟩) q,(i8 (vP (aW he.pe (aW (eR (pos:=px) hn) b_ jT) Wg))).pre λD σ H hq=>by
  obtain⟨Z,E,β,⟨own,s,n⟩,q,ok⟩:=hq;refine tQ.of he s q λd0 k β1 v0 H1 au h o1 r1=>?_;obtain⟨f,d,hb,q⟩:=h;obtain⟨v,e1,r,h0⟩:=o1.sq.ow i d hb;refine⟨v,e1,(by show 2<=X3;decide),λp hp=>ok.rt _ _ _ _ _ ((o1.same (ar.new hp)).sb n) ?_ q⟩
  have sm:ar H1 (upd H1 p (.tup [v0,v])):=ar.new hp;have r':Own X.prog X.w (upd H1 p (.tup [v0,v])) d v (au i):=r.keep (λb xs e=>sm _ _ e) (λc _ o e=>sm c o e);have oo:Own X.prog X.w (upd H1 p (.tup [v0,v])) (.tup [d0,d]) (.ref p) (au i):=⟨p,_,rfl,ai,v0,[v],[],au i,rfl,rfl,cU f (az.same sm r1.rep),v,[],au i,[],rfl,by simp,r',rfl,rfl⟩
  cases hr:C.ro with
  |true=>exact⟨_,oo,o1.sq.i_ i,h0⟩
  |false=>exact oo.rep λc hc z=>z (h0 c hc)⟩
end
def Ma:Option Addr->Sk
 |none=>.one
 |some h=>.at h
def O8:V->D
 |.cj=>.cj
 |.bl b=>.bl b
 |.int i=>.int i
 |.str x=>.str x
 |.ref a=>.obj a
 |_=>.cj
def QA:D->List V->D
 |.lst _,vs=>.lst (vs.map O8)
 |.dT ks _,vs=>.dT ks (vs.map O8)
 |.dK ks _,vs=>.dK ks (vs.map O8)
 |d,_=>d
section
variable {P:XX}{w:X6}{C:Cfg}{σ:St}{H:Hp}{β:aL}{own:Nat->List Addr}{i:Nat}
theorem JW {W:Addr->Prop}{H':Hp}{d:D}{v:V}(r:az P w W H' d v):Own P w H (O8 v) v []:=by
 cases d with
 |tup ds=>obtain⟨a,vs,rfl,_⟩:=r;exact⟨rfl,rfl⟩
 |lst ds=>obtain⟨a,vs,rfl,_⟩:=r;exact⟨rfl,rfl⟩
 |dT ks ds=>obtain⟨a,vs,rfl,_⟩:=r;exact⟨rfl,rfl⟩
 |dK ks ds=>obtain⟨a,vs,rfl,_⟩:=r;exact⟨rfl,rfl⟩
 |sT ts=>obtain⟨a,rfl,_⟩:=r;exact⟨rfl,rfl⟩
 |ob φ=>obtain⟨a,rfl,_⟩:=r;exact⟨rfl,rfl⟩
 |cj=>cases (show v=_ from r);exact⟨rfl,rfl⟩
 |bl b=>cases (show v=_ from r);exact⟨rfl,rfl⟩
 |int b=>cases (show v=_ from r);exact⟨rfl,rfl⟩
 |str b=>cases (show v=_ from r);exact⟨rfl,rfl⟩
 |obj b=>cases (show v=_ from r);exact⟨rfl,rfl⟩
theorem lX {W:Addr->Prop}{H':Hp}:∀{ds:List D} {vs:List V},ag P w W H' ds vs->aE P w H (vs.map O8) vs []
 |[],_,e=>by cases e;exact⟨rfl,rfl⟩
 |_::_,_,⟨v,vs,rfl,h1,h2⟩=>⟨v,vs,[],[],rfl,rfl,JW h1,lX h2⟩
theorem rd {W:Addr->Prop}{H':Hp}{d:D}{o:HO}{vs:List V}{a:Addr}(r:ag P w W H' (Jr d) vs)(sh:HJ d o vs)(h:H a=some o):Own P w H (QA d vs) (.ref a) [a]:=by
 cases d with
 |lst ds=>cases sh;exact⟨a,vs,[],rfl,h,rfl,lX r⟩
 |dT ks ds=>obtain⟨rfl,l⟩:=sh;exact⟨a,vs,[],rfl,h,l,rfl,lX r⟩
 |dK ks ds=>obtain⟨rfl,l⟩:=sh;exact⟨a,vs,[],rfl,h,l,rfl,lX r⟩
 |_=>exact sh.elim
theorem MP {d:D}{o:HO}{vs:List V}(sh:HJ d o vs):∀xs,o≠.tup xs:=λxs z=>by
 cases d with
 |lst ds=>cases sh;cases z
 |dT ks ds=>obtain⟨rfl,l⟩:=sh;cases z
 |dK ks ds=>obtain⟨rfl,l⟩:=sh;cases z
 |_=>exact sh.elim
theorem bf.toShl {d0 d:D}{v:V}{y:Sk}(s:bf P w C σ H β own)(e:β[i]?=some (some (.own d0)))(hσ:σ[i]?=some (some v))(r:Au P w (dD C (Wn own) (yk true)) H y d v (own i)):bf P w C σ H (β.set i (some (.shl y d))) own:=by
 refine⟨by simp[s.len],λj y' d' q=>?_,λj d' q=>?_,λj ok q=>?_,s.dm,s.hV,s.i_,s.kp,s.fj,λj y' d' q=>?_⟩
 ·by_cases aA:i=j
  ·subst aA;obtain⟨e',_⟩:=aT q;cases e'
  ·rw[aS aA]at q;exact s.val j y' d' q
 ·by_cases aA:i=j
  ·subst aA;obtain⟨e',_⟩:=aT q;cases e'
  ·rw[aS aA]at q;exact s.ow j d' q
 ·by_cases aA:i=j
  ·subst aA;obtain⟨e',_⟩:=aT q;cases e'
  ·rw[aS aA]at q;exact s.jV j ok q
 ·by_cases aA:i=j
  ·subst aA;obtain⟨e',_⟩:=aT q;cases e';obtain⟨_,_,_,h0⟩:=s.ow i d0 e;exact⟨v,hσ,r,h0⟩
  ·rw[aS aA]at q;exact s.shl j y' d' q
theorem Au.at {W:Addr->Prop}{t:Option Addr}{d:D}{v:V}{A:List Addr}(h:Au P w W H (Ma t) d v A):lg P w W H d v A/\∀b,t=some b->v=.ref b:=by
 cases t with
 |none=>exact⟨h,λ_ z=>(nomatch z)⟩
 |some b=>exact⟨h.1,λ_ z=>by cases z;exact h.2⟩
theorem Au.to {W:Addr->Prop}{t:Option Addr}{d:D}{v:V}{A:List Addr}(h:lg P w W H d v A)(e:∀b,t=some b->v=.ref b):Au P w W H (Ma t) d v A:=by
 cases t with
 |none=>exact h
 |some b=>exact⟨h,e b rfl⟩
theorem bf.A9 {d:D}(t:Option Addr)(s:bf P w C σ H β own)(e:β[i]?=some (some (.shl (Ma t) d))):∃a o vs,(σ[i]?=some (some (.ref a))/\∀b,t=some b->a=b)/\own i=[a]/\H a=some o/\HJ d o vs/\ag P w (dD C (Wn own) (yk true)) H (Jr d) vs/\C.H0 a=none/\bf P w C σ H (β.set i (some (.own (QA d vs)))) own:=by
 obtain⟨v,h1,hs,h6⟩:=s.shl i _ d e;obtain⟨⟨a,o,vs,rfl,h2,h3,h4,h5⟩,ht⟩:=hs.at
 refine⟨a,o,vs,⟨h1,λb z=>by cases ht b z;rfl⟩,h2,h3,h4,h5,h6 a (by rw[h2];simp),by simp[s.len],λj y' d' q=>?_,λj d' q=>?_,λj ok q=>?_,s.dm,s.hV,s.i_,s.kp,s.fj,λj y' d' q=>?_⟩
 ·by_cases aA:i=j
  ·subst aA;obtain⟨e',_⟩:=aT q;cases e'
  ·rw[aS aA]at q;exact s.val j y' d' q
 ·by_cases aA:i=j
  ·subst aA;obtain⟨e',_⟩:=aT q;cases e';exact⟨.ref a,h1,by rw[h2];exact rd h5 h4 h3,h6⟩
  ·rw[aS aA]at q;exact s.ow j d' q
 ·by_cases aA:i=j
  ·subst aA;obtain⟨e',_⟩:=aT q;cases e'
  ·rw[aS aA]at q;exact s.jV j ok q
 ·by_cases aA:i=j
  ·subst aA;obtain⟨e',_⟩:=aT q;cases e'
  ·rw[aS aA]at q;exact s.shl j y' d' q
theorem bf.sG {d:D}(s:bf P w C σ H β own)(e:β[i]?=some (some (.shl .one d))):∃a o vs,σ[i]?=some (some (.ref a))/\own i=[a]/\H a=some o/\HJ d o vs/\ag P w (dD C (Wn own) (yk true)) H (Jr d) vs/\C.H0 a=none/\bf P w C σ H (β.set i (some (.own (QA d vs)))) own :=
 let ⟨a,o,vs,h1,h⟩:=s.A9 none e;⟨a,o,vs,h1.1,h⟩
theorem Jq {W:Addr->Prop}{d:D}{o:HO}{vs:List V}{a:Addr}(sh:HJ d o vs)(h:H a=some o)(nw:¬ W a)(r:ag P w W H (Jr d) vs):az P w W H d (.ref a):=by
 cases d with
 |lst ds=>cases sh;exact⟨a,vs,rfl,h,nw,r⟩
 |dT ks ds=>obtain⟨rfl,l⟩:=sh;exact⟨a,vs,rfl,h,l,nw,r⟩
 |dK ks ds=>obtain⟨rfl,l⟩:=sh;exact⟨a,vs,rfl,h,l,nw,r⟩
 |_=>exact sh.elim
theorem bf.GV {d:D}(s:bf P w C σ H β own)(e:β[i]?=some (some (.shl .one d))):bf P w C σ H (β.set i (some (.val true d))) (aC own i []):=by
 obtain⟨a,o,vs,h1,h2,h3,h4,h5,h6,s'⟩:=s.sG e;have hl:i<β.length:=(X0.mp e).1;have f:=s'.freeze (get_set hl);have sub:∀c,dD C (Wn (aC own i [])) (yk true) c->dD C (Wn own) (yk true) c:=dB (λc z=>gR z) _;have q:=bf.eJ (i:=i) (d:=d) (v:=.ref a) (y:=true) f (Jq h4 h3 (λz=>?_) (ag.aQ sub h5))
 ·have es:σ.set i (some (.ref a))=σ:=by
   apply Z6;intro j;rw[Zz]
   by_cases aA:i=j
   ·subst aA;rw[if_pos rfl,h1,if_pos (X0.mp h1).1]
   ·rw[if_neg aA]
  have eo:aC (aC own i []) i []=aC own i []:=by
   funext j
   by_cases aA:i=j
   ·rw[<- aA,os_eq,os_eq]
   ·rw[aZ aA,aZ aA]
  rw[es,ZY,ZY,eo]at q;exact q
 ·have nW:¬ Wn (aC own i []) a:=λfy=>by
   obtain⟨j,hj⟩:=fy;obtain⟨hj,ne⟩:=bR hj;exact ne (s.hV j i a hj (by rw[h2];simp))
  rcases z with z|z
  ·exact z.elim nW λz=>z h6
  ·exact(s.dm i a (by rw[h2];simp)).2.2.2 z
end
abbrev UD (k:Kd)(d:D):Prop:=match k with
 |.own=>True
 |.dY=>True
 |_=>d.flat=true
theorem KV.yg {P:XX}{w:X6}{C:Cfg}{Z:Hp×(Addr->Prop)}{own:Nat->List Addr}{H:Hp}{d:D}{v:V}{k:Kd}(f:UD k d)(r:KV P w C Z own H k d v):az P w (av C (Wn own) .dY) H d v:=by
 cases k with
 |own=>exact r.dY
 |dY=>exact r
 |old=>exact az.flat f r
 |bor=>exact az.flat f r
theorem ag.snoc {P:XX}{w:X6}{W:Addr->Prop}{H:Hp}{d:D}{v:V}(h:az P w W H d v):∀{ds:List D} {vs:List V},ag P w W H ds vs->ag P w W H (ds++[d]) (vs++[v])
 |[],_,e=>by cases e;exact⟨v,[],rfl,h,rfl⟩
 |_::_,_,⟨u,r,rfl,h1,h2⟩=>⟨u,r++[v],rfl,h1,ag.snoc h h2⟩
section
variable {C:Cfg}{e:Expr}{i:Nat}
theorem Jl {own:Nat->List Addr}{i:Nat}{a:Addr}(h:own i=[a]):∀c,Wn (aC own i [a]) c->Wn own c:=λc jU=>by
 obtain⟨j,hj⟩:=jU
 by_cases aA:i=j
 ·rw[<- aA,os_eq]at hj;exact⟨i,by rw[h];exact hj⟩
 ·rw[aZ aA]at hj;exact⟨j,hj⟩
theorem bf.M9 {P:XX}{w:X6}{U:Addr->Prop}{σ:St}{H:Hp}{β:aL}{own:Nat->List Addr}{d d':D}{a:Addr}{o:HO}{vs':List V}(t:Option Addr)(b:bf P w (C.u U) σ H β own)(e:β[i]?=some (some (.shl (Ma t) d)))(hσ:σ[i]?=some (some (.ref a)))
  (sh:HJ d' o vs') (r:ag P w (av (C.u U) (Wn own) .dY) (upd H a o) (Jr d') vs'):bf P w C.z σ (upd H a o) (β.set i (some (.shl (Ma t) d'))) (aC own i [a])/\(∀c∈[a],c∈own i\/(C.H0 c=none/\¬ Wn own c/\U c))/\Wn own a/\∃oc,H a=some oc/\∀xs,oc≠.tup xs:=by
 obtain⟨a',o1,vs,h1,h2,h3,h4,h5,h6,s'⟩:=b.A9 t e;rw[hσ]at h1;have ea:a=a':=by cases h1.1;rfl
 subst ea;have hl:i<β.length:=(X0.mp e).1;have ha:a∈own i:=by rw[h2];simp
 have hA:∀c∈[a],c∈own i\/(C.H0 c=none/\¬ Wn own c/\U c):=λc hc=>.inl (by rw[h2];exact hc)
 have q:=s'.putIn (get_set hl) hσ ha (rd r sh ai) (by simp) hA
 rw[ZY]at q;have q2:=q.toShl (d:=d') (y:=Ma t) (get_set (by simpa using hl)) hσ (Au.to ⟨a,o,vs',rfl,by rw[os_eq],ai,sh,ag.aQ (λc z=>?_) r⟩ λb z=>by rw[h1.2 b z])
 ·rw[ZY]at q2;exact⟨q2,hA,⟨i,ha⟩,o1,h3,MP h4⟩
 ·rcases z with z|z
  ·exact gB (C:=C) (Jl h2) .dY c z
  ·exact z.elim
theorem bf.Rq {P:XX}{w:X6}{U:Addr->Prop}{σ:St}{H:Hp}{β:aL}{own:Nat->List Addr}{d d':D}{a:Addr}{o:HO}{vs':List V}(b:bf P w (C.u U) σ H β own)(e:β[i]?=some (some (.shl .one d)))(hσ:σ[i]?=some (some (.ref a)))
  (sh:HJ d' o vs') (r:ag P w (av (C.u U) (Wn own) .dY) (upd H a o) (Jr d') vs'):bf P w C.z σ (upd H a o) (β.set i (some (.shl .one d'))) (aC own i [a])/\(∀c∈[a],c∈own i\/(C.H0 c=none/\¬ Wn own c/\U c))/\Wn own a/\∃oc,H a=some oc/\∀xs,oc≠.tup xs:=b.M9 none e hσ sh r
theorem KC {H:Hp}{a:Addr}{o oc:HO}{W:Addr->Prop}(h:H a=some oc)(ht:∀xs,oc≠.tup xs)(hw:W a):Kp W H (upd H a o):=(jh h ht).mono λc z=>by rw[z];exact hw
end
end L2.Q
namespace SI
open PySem PyProof.Rows ST
section
variable {w:X6}
abbrev rP (x:Int×Tok):Int×XO:=(Y2 x.1,.int x.1 x.2)
abbrev iO (w:X6):=fL w rP (λx=>Y2 x.1) (λx=>x.1)
end
section
variable {prog:XX}{w:X6}{A:YX}{E:XO->XQ->Prop}{s:XQ}
variable {a:Addr}{o:Obj}{ts:List (Int×Tok)}{es:Array (Int×XO)}{ep:Nat}{t:SetTable}{k:Int}
theorem GY {hs:List Int}(W:WF t hs)(h:Int){N:Nat}(h1:N<10*SetTable.turns t.mask)(h2:¬ va t (cL t.mask h N))(h3:∀x,x<N->va t (cL t.mask h x)):t.freeSlot h=some (cL t.mask h N,false):=by
 have e:t.probe (λ_=>h+1) h (t.probeStart h)=some (.empty (cL t.mask h N) none):=by
  rcases tF W (λ_=>h+1) h h2 h3 N 0 (10*SetTable.turns t.mask) (aaF N) h1 with⟨q,_⟩|⟨m,i,_,_,_,_,q,_⟩
  ·exact q
  ·lia
 unfold SetTable.freeSlot;rw[e];rfl
theorem elems (S:iO w o ts es ep t):ElemsOf (aaE prog w) es.toList:=λe he=>by
 rw[S.AJ]at he;obtain⟨x,_,rfl⟩:=Yl.mp he;exact⟨⟨x.1,by show Z8 x.1 (.int x.1 x.2)=true;simp[Z8],rfl⟩,rfl⟩
theorem Bv {t1:SetTable}{z9:Array (Int×XO)}{yP:List (Int×Tok)}(he:z9.toList=yP.map rP)(XA:0<yP.length)(hn:yP.length<=1000):
  ∃(mr:List (Int×Tok)) (qc:Array (Int×XO)) (t2:SetTable),relayAll t1 z9 (SetTable.grown z9.size)=(qc,t2,false)/\mr.Perm yP/\qc.toList=mr.map rP/\WF t2 (mr.map λx=>Y2 x.1)/\t2.place.size*5<t2.mask*3/\t2.mask<=8191/\t2.led=t1.led/\t2.plain=t1.plain:=by
 have hz:z9.size=yP.length:=by rw[<- Yc,he,XN]
 have hg:SetTable.grown z9.size=yP.length*4:=by rw[hz];unfold SetTable.grown;rw[if_neg (by lia)]
 obtain⟨j,order,t',b7,ja,jc,er,e6,dJ,fz,hW,N5,Sv,e3,e4,e8⟩:=pD (t:=t1) (hk:=λx=>Y2 x.1) (λ_=>rfl) (0,0) (m:=yP.length*4) he (by lia) (by lia)
 refine⟨b7,order.filterMap (z9[·]?),t',?_,fz,dJ,hW,N5.1,Sv,e3,e4⟩;have hsz:(order.filterMap (z9[·]?)).size=z9.size:=by
  rw[<- Yc,dJ,XN,fz.length_eq,hz]
 unfold relayAll;rw[hg,er];dsimp only;have c1:coversAll order z9.size=true:=by
  unfold coversAll;rw[hz];exact List.isPerm_iff.mpr e6
 have c2:t'.fits (order.filterMap (z9[·]?)).size=true:=by
  unfold SetTable.fits SetTable.fill;rw[hW.G_,hsz,e8,hz];simp;lia
 rw[c1,c2];rfl
theorem qw (ho:s.heap.get? a=some o)(S:iO w o ts es ep t)(hn:ts.length<60){tk:Tok}{Q:Bool->XQ->Prop}
  (q:L8 w rP (λx=>Y2 x.1) (λx=>x.1) a s ts (k,tk) Q):/-Xr-/
  Ye (model prog w) A (setAddHashed a (.int k tk) (Y2 k)) Q E s:=by
 have hz:=S.size;have hb:es.size<scanBound:=by rw[hz.1];exact Yo hn (by decide)
 have dJ:ElemsOf (aaE prog w) es.toList:=elems S;have Dx:(aaE prog w).is k (.int k tk)=true:=by show Z8 k (.int k tk)=true;simp[Z8]
 unfold setAddHashed setAddHashedIn;refine YU (XM (Zc ho S.dat S.fits ?_));dsimp only;rw[byScan_of (x:=.int k tk) rfl hb dJ];simp only[↓reduceIte];unfold setAddByScan;refine XM ?_;refine XM (aaI ?_);refine XM (wpAny_setScan_of (knd:=aaE prog w) Dx ho S.dat S.fits dJ ?_);have lJ:∀e∈es.toList,(aaE prog w).is k e.2=true->∃x∈ts,x.1=k:=λe he hp=>by
  rw[S.AJ]at he;obtain⟨x,hx,rfl⟩:=Yl.mp he;obtain⟨t',e'⟩:=Value.isInt_shape (show Z8 k (.int x.1 x.2)=true from hp)
  injection e' with e1
  exact⟨x,hx,e1⟩
 cases hr:List.findIdx? (λe=>(aaE prog w).is k e.2) es.toList with
 |some j =>
  dsimp only;obtain⟨hj,Wi,_⟩:=List.findIdx?_eq_some_iff_getElem.mp hr;have lK:=lJ _ (Y7 hj) Wi;exact XT (XT (q s.heap o ts es ep t false _ (XS _) (Heap.SameBut.refl _ _) ho S (λ_=>rfl) λg=>absurd lK λfy=>by obtain⟨x,hx,e⟩:=fy;exact g x hx e))
 |none =>
  dsimp only;have g1:∀x∈ts,x.1≠k:=λx hx e=>by
   have:=List.findIdx?_eq_none_iff.mp hr (rP x) (by rw[S.AJ];exact ZP hx)
   have h2:(aaE prog w).is k (rP x).2=true:=by show Z8 k (.int x.1 x.2)=true;rw[e];simp[Z8]
   rw[h2]at this;cases this
  obtain⟨N,n1,n2,n3⟩:=S.wf.first (Y2 k)
  have ye:=GY S.wf (Y2 k) n1 n2 n3;have N7:t.place.size+1<=t.mask:=by
   have:=S.P4;obtain⟨j,hj,e⟩:=S.wf.Gh;have:2 ^ 3<=2 ^ j:=Z9 (by decide) hj
   lia
  obtain⟨W,hp⟩:=S.wf.put (lN _ _ _) n2 n3 N7;have pe:(t.put (cL t.mask (Y2 k) N)).1.plain=t.plain/\(t.put (cL t.mask (Y2 k) N)).1.led=t.led/\(t.put (cL t.mask (Y2 k) N)).1.mask=t.mask:=⟨rfl,rfl,rfl⟩;have pf:(t.put (cL t.mask (Y2 k) N)).1.dummies=#[]:=W.G_;have hL:layNew t es (Y2 k) (.int k tk)=(SetTable.insertAt es (t.put (cL t.mask (Y2 k) N)).2 (Y2 k,.int k tk),(t.put (cL t.mask (Y2 k) N)).1.orStandIn (SetTable.insertAt es (t.put (cL t.mask (Y2 k) N)).2 (Y2 k,.int k tk)).size,false,!(t.put (cL t.mask (Y2 k) N)).1.fits (SetTable.insertAt es (t.put (cL t.mask (Y2 k) N)).2 (Y2 k,.int k tk)).size):=by
   unfold layNew;rw[ye]
  rw[hL];generalize (t.put (cL t.mask (Y2 k) N)).1=t1 at *
  generalize (t.put (cL t.mask (Y2 k) N)).2=p at *
  obtain⟨Ru,Ut,Us⟩:=pe;have LC:(SetTable.insertAt es p (Y2 k,Value.int k tk)).toList=(ts.take p++(k,tk)::ts.drop p).map rP:=by
   rw[ny,S.AJ,X1,X4,List.map_take,List.map_drop]
  have W1:WF t1 ((ts.take p++(k,tk)::ts.drop p).map λx=>Y2 x.1):=by
   rw[X1,X4,List.map_take,List.map_drop];exact W
  have pm:(ts.take p++(k,tk)::ts.drop p).Perm ((k,tk)::ts):=BX ts p (k,tk);have jg:(ts.take p++(k,tk)::ts.drop p).length=ts.length+1:=pm.length_eq;have CH:((ts.take p++(k,tk)::ts.drop p).map (·.1)).Nodup:=by
   refine((pm.map (·.1)).nodup_iff).mpr ?_;rw[X4,Yj];exact⟨λhm=>by
    obtain⟨x,hx,e⟩:=Yl.mp hm;exact g1 x hx e,S.AE⟩
  have EH:(SetTable.insertAt es p (Y2 k,Value.int k tk)).size=ts.length+1:=by rw[<- Yc,LC,XN,jg]
  have VO:t1.place.size=ts.length+1:=by have:=W1.sz;rw[XN,jg]at this;exact this
  have UR:t1.fits (SetTable.insertAt es p (Y2 k,Value.int k tk)).size=true:=by
   unfold SetTable.fits SetTable.fill;rw[pf,EH,VO,Us];simp;lia
  have K1:t1.orStandIn (SetTable.insertAt es p (Y2 k,Value.int k tk)).size=t1:=by
   unfold SetTable.orStandIn;rw[UR];rfl
  rw[K1,UR];dsimp only;refine XM (XT ?_);rw[Ru,S.zj,if_pos rfl];refine XM ?_;rw[hashByValue_scannable 8 rfl];refine XT ?_;rw[if_pos (by rfl)]
  refine XM (aan ho S.dat ?_ (by rw[EH,Y1];lia))
  have EO:=jW ho S.dat (SetTable.insertAt es p (Y2 k,Value.int k tk)) t1;have EJ:Zh a s.heap (s.heap.update a (Obj.putSet (SetTable.insertAt es p (Y2 k,Value.int k tk)) t1)):=Zs _ _ _;have fin:∀(h':Heap) (o':Obj) (b7:List (Int×Tok)) (dC:Array (Int×XO)) (jw:Nat) (t':SetTable),Zh a s.heap h'->h'.get? a=some o'->iO w o' b7 dC jw t'->b7.Perm (ts.take p++(k,tk)::ts.drop p)->Q true {s with heap:=h'} :=
   λh' o' b7 dC jw t' q1 q2 q3 q4=>q h' o' b7 dC jw t' true _ (XS _) q1 q2 q3 (λjU=>by obtain⟨x,hx,e⟩:=jU;exact absurd e (g1 x hx)) λ_=>q4.trans pm
  by_cases uq:t1.tooFull=true
  ·rw[uq,if_pos (by rfl)]
   obtain⟨mr,qc,t2,r1,r2,r3,r4,r5,r6,r7,r8⟩:=Bv LC (by lia) (by lia)
   rw[r1];dsimp only;have f7:qc.size=ts.length+1:=by rw[<- Yc,r3,XN,r2.length_eq,jg]
   refine XM (XT ?_);refine XM (aan (s:={s with heap:=s.heap.update a (Obj.putSet (SetTable.insertAt es p (Y2 k,Value.int k tk)) t1)}) EO rfl (XT (XT ?_)) (by rw[f7,Y1];lia))
   have Dv:=jW EO rfl qc t2;exact fin _ _ mr qc _ t2 (EJ.trans (Zs _ _ _)) Dv ⟨S.ex,rfl,r3,r4,r5,r6,r7.trans (Ut.trans S.led),r8.trans (Ru.trans S.zj),((r2.map (·.1)).nodup_iff).mpr CH⟩ r2
  ·rw[if_neg (by simpa using uq)]
   refine XT (XT (fin _ _ _ _ _ _ EJ EO ⟨S.ex,rfl,LC,W1,?_,by rw[Us];exact S.Gh,Ut.trans S.led,Ru.trans S.zj,CH⟩ (.refl _)))
   unfold SetTable.tooFull SetTable.fill at uq;rw[pf]at uq;simp at uq;lia
end
section
variable {prog:XX}{w:X6}{A:YX}{E:XO->XQ->Prop}{s:XQ}
theorem CG {α:Type}:∀{l m:List α},l.Nodup->(∀x∈l,x∈m)->l.length<=m.length
 |[],_,_,_=>Yh _
 |x::l,m,h,s=>by
  obtain⟨a,b,rfl⟩:=List.append_of_mem (s x Yr);have h:=Yj.mp h;have:=CG (l:=l) (m:=a++b) h.2 λy hy=>by
   have:=s y (Yd _ hy);simp only[XZ,XU]at this ⊢
   rcases this with z|rfl|z
   ·exact .inl z
   ·exact absurd hy h.1
   ·exact .inr z
  simp at this ⊢
  lia
def uD (ns:List Int):Prop:=∀l:List Int,l.Nodup->(∀x∈l,x∈ns)->l.length<60
theorem DJ {ns:List Int}(h:ns.length<60):uD ns:=λl h1 h2=>Zd (CG h1 h2) h
theorem Al {l:Addr}{its:Array XO}{vs:List Int}{Q:XO->XQ->Prop}(hh:A.handled=none)(hl:s.heap.IsList l its)(hI:aaq its.toList vs)(hn:uD vs)
  (q:∀(h':Heap) (tk:Nat) (o':Obj) (ts:List (Int×Tok)) (es:Array (Int×XO)) (ep:Nat) (t:SetTable),(∀c oc,s.heap.get? c=some oc->h'.get? c=some oc)->h'.get? s.heap.objs.size=some o'->iO w o' ts es ep t ->
   (∀x∈ts,x.1∈vs)->(∀x∈vs,∃y∈ts,y.1=x)->ts.length<60->Q (.ref s.heap.objs.size) {s with heap:=h',toks:=tk}) :
  Ye (model prog w) A (call (.type "set") [.ref l]) Q E s:=by
 have hlen:its.size=vs.length:=by
  have:=hI.length;rw[Yc]at this;exact this
 have sm:∀ts:List (Int×Tok),(ts.map λx=>x.1).Nodup->(∀y∈ts,∃m:Nat,vs[m]?=some y.1)->ts.length<60:=λts h1 h2=>by
  have:=hn _ h1 λx hx=>by
   obtain⟨y,hy,rfl⟩:=Yl.mp hx;obtain⟨m,hm⟩:=h2 y hy;exact YJ hm
  rwa [XN]at this
 refine Am (en:=rP) (hk:=λx=>Y2 x.1) (ky:=λx=>x.1) (X:=λi x=>vs[i]?=some x.1) hh hl (λi v hv=>?_) (λi x y h1 h2=>Yv (h1.symm.trans h2)) (λB s1 E Q a o ts es ep t x hB kp ho S h1 h2 h3 q=>?_) λh' tk o' ts es ep t k m2 m3 m4 m5 m6=>?_
 ·obtain⟨t,e⟩:=hI.int_at i v (by rw[YR];exact hv)
  have hi:i<vs.length:=by rw[<- hlen];exact(Array.getElem?_eq_some_iff.mp hv).1
  refine⟨(vs.getD i 0,t),?_,e⟩;rw[YE,XY hi];rfl
 ·unfold setAdd;refine YU ?_;refine XM ((aaE prog w).pyHash (k:=x.1) (intKind_is _ _ _ _) ?_);exact qw (s:={s1 with toks:=s1.toks+1}) ho S (sm ts S.AE h1) λh' o' b7 dC jw t' added tk r0=>q h' o' b7 dC jw t' added tk (Nat.le_of_succ_le r0)
 ·refine q h' tk o' ts es ep t k m2 m3 (λx hx=>?_) (λx hx=>?_) (sm ts m3.AE m4)
  ·obtain⟨m,hm⟩:=m4 x hx;exact YJ hm
  ·obtain⟨m,hm⟩:=List.getElem?_of_mem hx;exact m5 m (x,0) (by have:=(X0.mp hm).1;lia) hm
end
end SI
namespace L2.Q
open PySem PySem.Spec PySem.SeqAt PyProof.Rows
def cv (w:X6)(a:Addr)(ns:List Int)(h:Heap):Prop:=∃o ts es ep t,h.get? a=some o/\SI.iO w o ts es ep t/\(∀x,x∈ts.map (·.1)↔x∈ns)/\ts.length<60
theorem ints_of:∀{ns:List Int} {its:List XO},Vals (ns.map V.int) its->aaq its ns
 |[],_,.nil=>.nil
 |n::ns,_,.cons r t=>by
  obtain⟨tk,rfl⟩:=r;exact .cons _ _ (ints_of t)
theorem mh:∀{ns:List Int} {its:List XO},aaq its ns->Vals (ns.map V.int) its
 |[],_,.nil=>.nil
 |n::ns,_,.cons _ _ t=>.cons ⟨_,rfl⟩ (mh t)
section
variable {X:Cx}
theorem Ak (hc:X.calm=true):dW X (.type "set") (λxs H Q=>∃p ns,xs=[V.ref p]/\dv X.K H p (ns.map V.int)/\SI.uD ns/\∀a,H a=none->Q (.ref a) (upd H a (.ext (cv X.w a ns)))):=by
 intro pins s σ H xs us Q I r h;obtain⟨p,ns,rfl,hp,hl,q⟩:=h;obtain⟨u,rfl,rx⟩:=vals1 r;cases rx;obtain⟨its,r',pl,hz⟩:=I.list hp;refine SI.Al (w:=X.w) (I.ok.hd hc) pl.isList (by simpa using ints_of r') hl λh' tk o' b7 es ep t kp ho S m1 m2 m3=>?_
 have Ln:H s.heap.objs.size=none:=I.a5.fresh (XS _);refine⟨.ref s.heap.objs.size,_,I.laid (t':=tk) (o:=.ext (cv X.w s.heap.objs.size ns)) kp (XS _) ?_,rfl,q _ Ln⟩;refine⟨⟨o',b7,es,ep,t,ho,S,λx=>⟨λz=>?_,λz=>?_⟩,by lia⟩,⟨o',ho⟩,λh1 h2 z k=>?_⟩
 ·obtain⟨y,hy,rfl⟩:=Yl.mp z;exact m1 y hy
 ·obtain⟨y,hy,rfl⟩:=m2 x z;exact ZP hy
 ·obtain⟨o1,t1,e1,Mi,QC,g1,g2⟩:=z;exact⟨o1,t1,e1,Mi,QC,k _ g1,g2⟩
theorem yT {x:XO}{vs:List XO}{ns:List Int}{s:XQ}{A:YX}{E:XO->XQ->Prop}{P:XX}{w:X6}{Q:XO->XQ->Prop}(hI:aaq vs ns)(hz:vs.length<64)
  (col:∀(R:List XO->XQ->Prop),(∀(h':Heap) (tk:Nat),(∀b o,s.heap.get? b=some o->h'.get? b=some o)->R vs {s with heap:=h',toks:=tk})->Ye (model P w) A.in1 (collect x) R E s)
  (h:∀(out:Array XO) (lH:List Int) (h1 h':Heap) (tk:Nat) (n:Nat),aaq out.toList lH->lH.Perm ns->lH.Pairwise (·<=·)->(∀b o,s.heap.get? b=some o->h1.get? b=some o)->(∀b o,h1.get? b=some o->h'.get? b=some o)->h'.get? h1.objs.size=some (seqObj "list" out n)->Q (.ref h1.objs.size) {s with heap:=h',toks:=tk}) :
  Ye (model P w) A (call (.builtin "sorted") [x]) Q E s:=by
 refine Calls.call_function_entry kind_sorted plain_sorted entry_sorted (args_sorted1 _) ?_;unfold ZZ.«sorted»
 refine XM (m:=checkCount "sorted" 1 1 _) (XT ?_);refine XM (col _ λh' tk kp=>?_);have nl:vs.length<=X3:=by rw[Y1];lia
 refine XM (wpAny_newList ?_ nl);have hl:(h'.push (seqObj "list" vs.toArray 0)).get? h'.objs.size=some (seqObj "list" vs.toArray 0):=X_ _ rfl;refine XM (YU (Za slot_list_sort ⟨_,hl,rfl⟩ entry_list_sort (list_sort_tree (s:={s with heap:=h'.push (seqObj "list" vs.toArray 0),toks:=tk}) hl hI hz λout lH a1 a2 a3=>⟨_,rfl,?_⟩) (args_list_sort _)))
 obtain⟨n,hn⟩:=sortedHeap_at (out:=out) hl;refine XT ⟨_,rfl,h out lH h' _ tk n a1 a2 a3 kp (λb o e=>?_) hn⟩;have hb:=X8 e;rw[sortedHeap_old (Yk hb) (by rw[size_push'];exact aaT hb)]
 exact XR _ e
theorem uj:∀(us:List (Int×Tok)),aaq (us.map λx=>Value.int x.1 x.2) (us.map (·.1))
 |[]=>.nil
 |x::us=>.cons _ _ (uj us)
theorem iV (hc:X.calm=true):dW X (.builtin "sorted") (λxs H Q=>∃p ns,xs=[V.ref p]/\H p=some (.ext (cv X.w p ns))/\∀ms:List Int,ms.Pairwise (· < ·)->(∀x,x∈ms↔x∈ns)->ms.length<=60->∀a,H a=none->Q (.ref a) (upd H a (.lst (ms.map V.int)))):=by
 intro pins s σ H xs us Q I r h;obtain⟨p,ns,rfl,hp,q⟩:=h;obtain⟨u,rfl,rx⟩:=vals1 r;cases rx;obtain⟨⟨o,ts,es,ep,t,ho,S,hm,hl⟩,_,_⟩:=(show aO X.prog X.w H s.heap p (.ext (cv X.w p ns)) from I.a5 p _ hp)
 obtain⟨us,KZ,col⟩:=ST.su (prog:=X.prog) (s:=s) ho S (by lia)
 refine yT (uj us) (by rw[XN,KZ.length_eq];lia) (λR hR=>col _ _ R (by simp[I.ok.hd hc]) λh' tk kp=>hR h' tk kp) λout lH h1 h' tk n a1 a2 a3 k1 k2 hn=>?_
 have nd:lH.Nodup:=(a2.nodup_iff).mpr (((KZ.map (·.1)).nodup_iff).mpr S.AE);have K1:lH.Pairwise (· < ·):=(List.Pairwise.and a3 nd).imp λ⟨x,y⟩=>by lia
 have I1:Inv X pins σ H {s with heap:=h1,toks:=s.toks}:=I.kept k1
 have Ln:H h1.objs.size=none:=I1.a5.fresh (XS _);refine⟨.ref h1.objs.size,_,I1.laid (t':=tk) (o:=.lst (lH.map V.int)) k2 (XS _) ?_,rfl,q lH K1 (λx=>?_) ?_ _ Ln⟩
 ·refine⟨?_,out.toList,n,mh a1,?_⟩
  ·rw[XN,a2.length_eq,XN,KZ.length_eq,Y1];lia
  ·simpa using hn
 ·rw[a2.mem_iff,<- hm x];exact(KZ.map (·.1)).mem_iff
 ·rw[a2.length_eq,XN,KZ.length_eq];lia
end
section
end
end L2.Q
namespace L2
open PySem PySem.Spec PySem.SeqAt PyProof.Rows Zp
section
variable {X:Cx}
theorem AU {A:YX}{E:XO->XQ->Prop}{pins:List (Addr×Obj)}{σ:St}{H1:Hp}{s1:XQ}{l1 l2:Addr}{xs ys:List V}{us:List XO}{Q:XO->XQ->Prop}(I1:Inv X pins σ H1 s1)(rv:Vals [.ref l1,.ref l2] us)(g1:H1 l1=some (.lst xs))(g2:H1 l2=some (.lst ys))
  (q:∀h' z TI TO i1 i2,Zp.Apart z TI TO i1 i2 l1 l2->aa3 h' z TI TO .none->ZU h' TI (.ref i1) (.ref i2)->ZU h' TO .none .none->h'.IsListIter i1 l1 0->h'.IsListIter i2 l2 0->Inv X pins σ H1 {s1 with heap:=h'}->(∀b∈[z,TI,TO,i1,i2],fc X pins H1 b)->Q (.ref z) {s1 with heap:=h'}) :
  Ye (model X.prog X.w) A (call (.type "zip") us) Q E s1:=by
 obtain⟨v1,v2,rfl,e1,e2⟩:∃v1 v2,us=[v1,v2]/\RelV (.ref l1) v1/\RelV (.ref l2) v2:=by
  cases rv with
  |cons a rr=>cases rr with
   |cons b rr=>cases rr;exact⟨_,_,rfl,a,b⟩
 cases e1;cases e2;have Km:l1<s1.heap.objs.size:=I1.a5.lt g1;have Kl:l2<s1.heap.objs.size:=I1.a5.lt g2;obtain⟨KO,_,p1,_⟩:=I1.list (dv.of g1);obtain⟨nr,_,p2,_⟩:=I1.list (dv.of g2);refine call_zip_2 p1.isList p2.isList λh' y1 y2 y3 y4 y5 y6 y7=>?_;have I2:Inv X pins σ H1 {s1 with heap:=h'}:=I1.kept (t':=s1.toks) y7
 refine q h' _ _ _ _ _ ?_ y1 y2 y3 y4 y5 I2 λb hb=>?_
 ·generalize s1.heap.objs.size=n at Km Kl
  change (l1:Nat)<n at Km
  change (l2:Nat)<n at Kl
  refine⟨?_,λc hc=>?_,λc hc=>?_⟩
  ·have q:∀(i j:Nat),i≠j->(n+i:Nat)≠n+j:=λi j h z=>h (Nat.add_left_cancel z);simp only[Yj,XU,YC,or_false,not_or,YA,not_false_eq_true,and_true];exact⟨⟨q 4 2 (by decide),q 4 3 (by decide),q 4 0 (by decide),q 4 1 (by decide)⟩,⟨q 2 3 (by decide),q 2 0 (by decide),q 2 1 (by decide)⟩,⟨q 3 0 (by decide),q 3 1 (by decide)⟩,q 0 1 (by decide)⟩
  ·simp only[XU,YC,or_false]at hc;rcases hc with rfl|rfl|rfl|rfl <;> exact Yk (Yo Km (by first|exact aad _ _|exact XS _))
  ·simp only[XU,YC,or_false]at hc;rcases hc with rfl|rfl|rfl|rfl <;> exact Yk (Yo Kl (by first|exact aad _ _|exact XS _))
 ·have pV:s1.heap.objs.size<=b:=by
   simp only[XU,YC,or_false]at hb;rcases hb with rfl|rfl|rfl|rfl|rfl <;> first|exact aad _ _|exact XS _
  exact I1.rN pV (I1.a5.fresh pV)
end
namespace Q
section
variable {X:Cx}{C:Cfg}{p:Bool}{a b:Expr}{φs:cg}{pp pos:Pos}{elts:List Expr}{kk:Nat}{Ba:Pos}
def NT (φs:cg):bz:=λβ R=>φs β λl ks β1=>∃as bs,l=[.lst as,.lst bs]/\R (gL as bs) (gM ks) β1
theorem FE (hm:X.mg "zip" = none) (ha:sg X C p [a,b] φs) (hg:Gl X "zip" := by rfl) (hs:X2 [a,b] X.env=(false,eval a X.env)::X2 [b] X.env:=by rfl) (jT:(ZA pos (X2 [b] X.env)).any (·.1)=false:=by rfl) :
  o8 X C p (.Tuple elts kk Ba) (.Call (.Name "zip" pp) [a,b] [] pos) (NT φs):=by
 refine⟨λβ R R' k q=>ha.mono β _ _ (λl ks β1 fy=>by obtain⟨as,bs,e,q⟩:=fy;exact⟨as,bs,e,k _ _ _ q⟩) q,λpins s σ H R I h=>?_⟩
 obtain⟨β,own,sq,h⟩:=h;refine Call_ (fH I hg hm Er (Y0 (bu (ha.pa pos pins s σ H _ I (vg.of ha sq h λds ks β' vs H1 au h o1 r1=>(⟨ds,ks,β',au,h,o1,r1.i6⟩:∃ds ks β' au,(∃as bs,ds=[.lst as,.lst bs]/\∀J H' aK,Out X C σ H own p β' H' aK->rW X (av C (Wn aK) (gM ks)) J (gL as bs) H'->R J H')/\Out X C σ H own p β' H1 au/\ag X.prog X.w (av C (Wn au) (gM ks)) H1 ds vs)))
  λus s1 ⟨vs,H1,I1,rv,h⟩=>?_) hs jT))
 obtain⟨ds,ks,β',au,⟨as,bs,rfl,q⟩,o1,r1⟩:=h;obtain⟨x,y,rfl,⟨l1,xs,rfl,g1,n1,w1⟩,⟨l2,ys,rfl,g2,n2,w2⟩⟩:=oh r1;refine AU I1 rv g1 g2 λh' z TI TO i1 i2 Ap y1 y2 y3 y4 y5 I2 fp=>?_;refine wpAny_pyIter_zip y1 ⟨_,_,_,_,H1,rfl,I2,sH Ap src_list src_list,⟨y1,y2,⟨_,_,y3⟩,y4,y5⟩,fp,?_⟩;exact q _ _ au o1 (yb false g1 g2 (λ_=>n1) (λ_=>n2) w1 w2)
end
end Q
theorem mB {t u:List Int}:gU t u=true↔∃i∈t,i∈u:=by
 unfold gU;rw[List.any_eq_true];simp
theorem nX {a b c d:Int}:k_ a b c d=true↔(a<c/\c<b/\b<d)\/(c<a/\a<d/\d<b):=by
 unfold k_;simp[aaC,Yu]
theorem yh (t:List Int):(kD t).flat=true:=by
 have:=uy [t];show D.cf (t.map D.int)=true;have h:(D.cf (t.map D.int)&&true)=true:=this
 rwa [Bool.and_true]at h
end L2
namespace L2.Q
open PySem PySem.Spec PySem.SeqAt PyProof.Rows
structure Bs3 (mg:Str->Option XO):Prop extends Bs2 mg where
 sum:mg "sum" = none
def tI (p:Nat×Nat):List Int:=[(p.1:Int),(p.2:Int)]
theorem qF {p q:Nat×Nat}(h:tI p=tI q):p=q:=by
 unfold tI at h;injection h with h1 h2
 injection h2 with h2 _
 exact Prod.ext (Int.ofNat.inj h1) (Int.ofNat.inj h2)
def sL (ps:List (Nat×Nat)):D:=.lst (ps.map λp=>kD (tI p))
def qQ (n:Nat)(ps:List (Nat×Nat)):D:=.tup [.int n,sL ps]
structure vq (n:Nat)(ps:List (Nat×Nat)):Prop where
 lt:∀p∈ps,p.1<p.2/\p.2<n
 nd:ps.Nodup
 le:n<=80
 sm:ps.length<=400
noncomputable def gH (l:List Nat):List D:=l.map λ(k:Nat)=>D.int (k:Int)
def lG (ps:List (Nat×Nat))(i:Nat):List Nat:=(ps.filter λp=>decide (p.1=i)).map (·.2)
theorem eh {ps:List (Nat×Nat)}{i k:Nat}:k∈lG ps i↔(i,k)∈ps:=by
 unfold lG;rw[Yl];constructor
 ·rintro⟨p,hp,rfl⟩;obtain⟨h1,h2⟩:=Ym.mp hp;rw[<- of_decide_eq_true h2];exact h1
 ·intro h;exact⟨(i,k),Ym.mpr ⟨h,by simp⟩,rfl⟩
def EL (n:Nat)(ps:List (Nat×Nat)):D:=.lst ((X7 n).map λi=>.lst (gH (lG ps i)))
def wD (ps:List (Nat×Nat))(w:Nat×Nat->Int):D:=dA (ps.map λp=>(tI p,.int (w p)))
theorem IX {ps:List (Nat×Nat)}{w:Nat×Nat->Int}{p:Nat×Nat}(h:p∈ps):fg (ps.map λp=>(tI p,.int (w p))) (tI p)=some (.int (w p)):=by
 unfold fg
 induction ps with
 |nil=>cases h
 |cons q ps ih =>
  rw[X4,YF]
  by_cases e:q=p
  ·rw[e,decide_eq_true rfl];rfl
  ·rw[decide_eq_false λz=>e (qF z)];exact ih ((XU.mp h).resolve_left λz=>e z.symm)
theorem F6 {ps:List (Nat×Nat)}{w:Nat×Nat->Int}{p:Nat×Nat}(h:p∉ps):fg (ps.map λp=>(tI p,.int (w p))) (tI p)=none:=by
 unfold fg;rw[Option.map_eq_none_iff,List.find?_eq_none];intro x hx;obtain⟨q,hq,rfl⟩:=Yl.mp hx;simp only[decide_eq_true_eq];intro e;exact h (qF e▸hq)
theorem Ls {ps:List (Nat×Nat)}{w:Nat×Nat->Int}{i k:Nat}(h:(i,k)∈ps):uS (wD ps w) (.tup [.int (i:Int),.int (k:Int)])=some (.int (w (i,k))):=by
 have:=yw (kvs:=ps.map λp=>(tI p,D.int (w p))) (t:=tI (i,k));rw[IX h]at this;exact this
theorem d8 {α:Type}{n i:Nat}{f:Nat->α}(h:i<n):((X7 n).map f)[i]?=some (f i):=by
 rw[X5,Y3 h];rfl
theorem jR {ds:List D}{x:Int}{i:Nat}{d:D}(hx:x=(i:Int))(h:ds[i]?=some d):Ae (.lst ds) (.int x)=some d:=by rw[hx];exact Hg h
theorem NP {n:Nat}{ps:List (Nat×Nat)}{x:Int}{i:Nat}(hx:x=(i:Int))(h:i<n):Ae (EL n ps) (.int x)=some (.lst (gH (lG ps i))):=jR hx (d8 h)
def sN (L:Nat)(T:Nat->Int):List D:=(X7 L).map λl=>.int (T l)
def mx (n:Nat)(L:Nat->Nat)(T:Nat->Nat->Int):D:=.lst ((X7 (n+1)).map λi=>.lst (sN (L i) λl=>T l i))
theorem pQ {L:Nat}{T:Nat->Int}{x:Int}{l:Nat}(hx:x=(l:Int))(h:l<L):Ae (.lst (sN L T)) (.int x)=some (.int (T l)):=jR hx (d8 h)
theorem pP {n:Nat}{L:Nat->Nat}{T:Nat->Nat->Int}{x:Int}{i:Nat}(hx:x=(i:Int))(h:i<=n):Ae (mx n L T) (.int x)=some (.lst (sN (L i) λl=>T l i)):=jR hx (d8 (by lia))
def jP (ps:List (Nat×Nat))(w:Nat×Nat->Int)(T:Nat->Nat->Int)(i j:Nat):Int:=(ek ((((lG ps i).filter λk=>decide (k<j)).map λk=>w (i,k)+T (k-i-1) (i+1)+T (j-k-1) (k+1))++[T (j-i-1) (i+1)])).getD 0
theorem pM {l:List Int}{x:Int}:ek (l++[x])=some ((ek (l++[x])).getD 0):=by
 cases l with
 |nil=>rfl
 |cons a l=>rfl
theorem m_ {ps:List (Nat×Nat)}{w:Nat×Nat->Int}{T T':Nat->Nat->Int}{i j:Nat}(hp:∀p∈ps,p.1<p.2)(hj:i<j)(h:∀l,l<j-i->∀a,T l a=T' l a):jP ps w T i j=jP ps w T' i j:=by
 unfold jP;have e:((lG ps i).filter λk=>decide (k<j)).map (λk=>w (i,k)+T (k-i-1) (i+1)+T (j-k-1) (k+1))=((lG ps i).filter λk=>decide (k<j)).map λk=>w (i,k)+T' (k-i-1) (i+1)+T' (j-k-1) (k+1):=by
  refine Zr λk hk=>?_;obtain⟨h1,h2⟩:=Ym.mp hk;have h3:=hp _ (eh.mp h1);have h4:=of_decide_eq_true h2;dsimp only at h3;rw[h _ (by lia),h _ (by lia)]
 rw[e,h (j-i-1) (by lia)]
def Jg (ps:List (Nat×Nat))(w:Nat×Nat->Int):Nat->Nat->Nat->Int
 |0,_,_=>0
 |_+1,0,_=>0
 |n+1,l+1,i=>jP ps w (Jg ps w n) i (i+l+1)
theorem sM {ps:List (Nat×Nat)}{w:Nat×Nat->Int}(hp:∀p∈ps,p.1<p.2):∀{n m l i:Nat},l<=n->l<=m->Jg ps w n l i=Jg ps w m l i
 |0,0,_,_,_,_=>rfl
 |0,m+1,0,_,_,_=>rfl
 |0,m+1,l+1,_,h,_=>by lia
 |n+1,0,0,_,_,_=>rfl
 |n+1,0,l+1,_,_,h=>by lia
 |n+1,m+1,0,_,_,_=>rfl
 |n+1,m+1,l+1,i,h1,h2=>by
  unfold Jg;exact m_ hp (by lia) λl' hl a=>sM hp (by lia) (by lia)
def tW (ps:List (Nat×Nat))(w:Nat×Nat->Int)(l i:Nat):Int:=Jg ps w l l i
theorem lO {ps:List (Nat×Nat)}{w:Nat×Nat->Int}(hp:∀p∈ps,p.1<p.2){l i:Nat}:tW ps w (l+1) i=jP ps w (tW ps w) i (i+l+1):=by
 show Jg ps w (l+1) (l+1) i=_;unfold Jg;exact m_ hp (by lia) λl' hl a=>sM hp (by lia) (by lia)
def fh (n a:Nat):List (Nat×Nat):=(X7 (a+1)).map λb=>(n-1-a,n-a+b)
def qG (n:Nat):List (Nat×Nat):=(X7 n).flatMap (fh n)
def AB (p:Nat×Nat):D:=.tup [.int (p.1:Int),.int (p.2:Int)]
def ft (n a b:Nat):List (Nat×Nat):=(fh n a).drop b++((X7 n).drop (a+1)).flatMap (fh n)
theorem i5 {n a b:Nat}(h:b<=a):ft n a b=(n-1-a,n-a+b)::ft n a (b+1):=by
 unfold ft fh;rw[Zi (by rw[XN,Yx];lia)]
 simp
theorem qd {n a:Nat}(h:a<n):((X7 n).drop a).flatMap (fh n)=ft n a 0:=by
 unfold ft;rw[Zi (by rw[Yx];exact h)]
 simp
theorem pC {n a:Nat}(h:a+1<n):ft n a (a+1)=ft n (a+1) 0:=by
 rw[<- qd h];unfold ft fh;simp
theorem vJ {n a:Nat}(h:n<=a+1):ft n a (a+1)=[]:=by
 unfold ft fh;rw[List.drop_eq_nil_of_le (by simp),List.drop_eq_nil_of_le (by simpa using h)]
 rfl
theorem yR {n:Nat}(h:0<n):qG n=ft n 0 0:=by rw[<- qd h];rfl
theorem eX {α:Type}{γ:bW}{τ:aN}{φ:aB}{l:List α}{f:α->D}{k:Kd}{n6:aL}{K:List D->Prop}(t:α->Bool)(g:α->D)(h0:dN n6 n6)(hl:l.length<=X3)
  (h:∀x∈l,∀(x0:Option B) (o:List D) (J:aL->List D->Prop),o.length<X3->(t x=true->∀x0,J (x0::n6) (o++[g x]))->(t x=false->∀x0,J (x0::n6) o)->γ (f x) (sk k (f x)) (x0::n6) λβ1=>τ β1 λt β2=>if t=true then φ β2 λx kx β3=>C8 kx x/\o.length<X3/\J β3 (o++[x]) else J β2 o)
  (q:K ((l.filter t).map g)):m9 γ τ φ (l.map f) k (none::n6) K:=by
 refine⟨λi β o=>i<=l.length/\(∃x0,β=x0::n6)/\o=((l.take i).filter t).map g,⟨Yh _,⟨_,rfl⟩,rfl⟩,?_,?_⟩
 ·rintro i d β o hd ⟨hi,⟨x0,rfl⟩,rfl⟩;rw[X5]at hd;obtain⟨x,hx,rfl⟩:=X9.mp hd;have iH:i<l.length:=(X0.mp hx).1;have hle:(((l.take i).filter t).map g).length<X3:=by
   rw[XN];have:=YD t (l.take i);rw[Yy]at this;lia
  have e:l.take (i+1)=l.take i++[x]:=by rw[YO,hx];rfl
  refine h x (YJ hx) x0 _ (λβ o=>i+1<=l.length/\(∃x0,β=x0::n6)/\o=((l.take (i+1)).filter t).map g) hle (λht x0=>?_) λht x0=>?_
  ·exact⟨iH,⟨_,rfl⟩,by rw[e,ZF,X1,Zb,if_pos ht];rfl⟩
  ·exact⟨iH,⟨_,rfl⟩,by rw[e,ZF,X1,Zb,if_neg (by rw[ht];simp)];simp⟩
 ·rintro β o ⟨_,⟨x0,rfl⟩,rfl⟩;rw[XN,Zv];exact⟨h0,q⟩
theorem rC {α:Type}{γ:bW}{τ:aN}{φ:aB}{l:List α}{f:α->D}{k:Kd}{n6:aL}{K:List D->Prop}(t:α->Bool)(g:α->D)(h0:dN n6 n6)(hl:l.length<=X3)
  (h:∀x∈l,∀(x0 x1:Option B) (o:List D) (J:aL->List D->Prop),o.length<X3->(t x=true->∀x0 x1,J (x0::x1::n6) (o++[g x]))->(t x=false->∀x0 x1,J (x0::x1::n6) o)->γ (f x) (sk k (f x)) (x0::x1::n6) λβ1=>τ β1 λt β2=>if t=true then φ β2 λx kx β3=>C8 kx x/\o.length<X3/\J β3 (o++[x]) else J β2 o)
  (q:K ((l.filter t).map g)):m9 γ τ φ (l.map f) k (none::none::n6) K:=by
 refine⟨λi β o=>i<=l.length/\(∃x0 x1,β=x0::x1::n6)/\o=((l.take i).filter t).map g,⟨Yh _,⟨_,_,rfl⟩,rfl⟩,?_,?_⟩
 ·rintro i d β o hd ⟨hi,⟨x0,x1,rfl⟩,rfl⟩;rw[X5]at hd;obtain⟨x,hx,rfl⟩:=X9.mp hd;have iH:i<l.length:=(X0.mp hx).1;have hle:(((l.take i).filter t).map g).length<X3:=by
   rw[XN];have:=YD t (l.take i);rw[Yy]at this;lia
  have e:l.take (i+1)=l.take i++[x]:=by rw[YO,hx];rfl
  refine h x (YJ hx) x0 x1 _ (λβ o=>i+1<=l.length/\(∃x0 x1,β=x0::x1::n6)/\o=((l.take (i+1)).filter t).map g) hle (λht x0 x1=>?_) λht x0 x1=>?_
  ·exact⟨iH,⟨_,_,rfl⟩,by rw[e,ZF,X1,Zb,if_pos ht];rfl⟩
  ·exact⟨iH,⟨_,_,rfl⟩,by rw[e,ZF,X1,Zb,if_neg (by rw[ht];simp)];simp⟩
 ·rintro β o ⟨_,⟨x0,x1,rfl⟩,rfl⟩;rw[XN,Zv];exact⟨h0,q⟩
theorem hE {α:Type}{l:List α}:l.filter (λ_=>true)=l:=List.filter_eq_self.mpr λ_ _=>rfl
theorem h8 {a b:List D}(h:a.length+b.length<=1000000):Hh (.lst a) (.lst b)=some (.lst (a++b)):=by
 show (if a.length+b.length<=X3 then _ else _)=_
 rw[if_pos (Yz h (by decide))]
theorem iA {α:Type}{f:α->Int}:∀{l:List α},D.cf (l.map λx=>D.int (f x))=true
 |[]=>rfl
 |_::l=>iA (l:=l)
theorem pY:∀{a b:List D},D.cf a=true->D.cf b=true->D.cf (a++b)=true
 |[],_,_,h=>h
 |d::a,b,h,h'=>by
  have f':(d.flat&&D.cf a)=true:=h;rw[Yu]at f';show (d.flat&&D.cf (a++b))=true;rw[f'.1,pY f'.2 h'];rfl
theorem CK {α:Type}{f:α->Int}{l:List α}{x:Int}:gz ek [.lst ((l.map λk=>D.int (f k))++[D.int x])]=some (.int ((ek (l.map f++[x])).getD 0)):=by
 have e:(l.map λk=>D.int (f k))++[D.int x]=(l.map f++[x]).map D.int:=by simp
 rw[e];exact nU pM
theorem Ga {α:Type}{l:List α}{m:Nat}{x:α}(h:l.Nodup)(hx:l[m]?=some x):x∉l.take m:=λz=>by
 obtain⟨i,hi⟩:=List.mem_iff_getElem?.mp z;rw[List.getElem?_take]at hi
 split at hi
 ·next iH =>
  have:=(List.getElem?_inj (X0.mp hi).1 h).mp (hi.trans hx.symm);lia
 ·cases hi
def DK:FD:=λds R=>∃n:Nat,ds=[.int n]/\n<=80/\R (.lst ((qG n).map AB))
theorem DK.mono:cA DK:=λds R R' k h=>by obtain⟨n,e,h1,q⟩:=h;exact⟨n,e,h1,k _ q⟩
def nJ:FD:=λds R=>∃n ps,ds=[qQ n ps]/\vq n ps/\R (EL n ps)
theorem nJ.mono:cA nJ:=λds R R' k h=>by obtain⟨n,ps,e,h1,q⟩:=h;exact⟨n,ps,e,h1,k _ q⟩
def nK:FD:=λds R=>∃(n:Nat) (ps:List (Nat×Nat)) (w:Nat×Nat->Int) (L:Nat->Nat) (T:Nat->Nat->Int) (i k j:Nat),ds=[wD ps w,mx n L T,.int i,.int k,.int j]/\(i,k)∈ps/\i<k/\k<j/\j<=n/\k-i-1<L (i+1)/\j-k-1<L (k+1) /\
 R (.int (w (i,k)+T (k-i-1) (i+1)+T (j-k-1) (k+1)))
theorem nK.mono:cA nK:=λds R R' k h=>by obtain⟨n,ps,w,L,T,i,k',j,e,h1,h2,h3,h4,h5,h6,q⟩:=h;exact⟨n,ps,w,L,T,i,k',j,e,h1,h2,h3,h4,h5,h6,k _ q⟩
def nM:FD:=λds R=>∃(n:Nat) (ps:List (Nat×Nat)) (w:Nat×Nat->Int) (L:Nat->Nat) (T:Nat->Nat->Int) (i j:Nat),ds=[EL n ps,wD ps w,mx n L T,.int i,.int j]/\vq n ps/\i<j/\j<=n/\(∀a,i<a->a<=n->n+1-a<=L a)/\R (.int (jP ps w T i j))
theorem nM.mono:cA nM:=λds R R' k h=>by obtain⟨n,ps,w,L,T,i,j,e,h1,h2,h3,h4,q⟩:=h;exact⟨n,ps,w,L,T,i,j,e,h1,h2,h3,h4,k _ q⟩
abbrev jY (n:Nat)(T:Nat->Nat->Int):D:=mx n (λi=>n+1-i) T
def nN:FD:=λds R=>∃(n:Nat) (ps:List (Nat×Nat)) (w:Nat×Nat->Int),ds=[qQ n ps,wD ps w]/\vq n ps/\R (jY n (tW ps w))
theorem nN.mono:cA nN:=λds R R' k h=>by obtain⟨n,ps,w,e,h1,q⟩:=h;exact⟨n,ps,w,e,h1,k _ q⟩
def w1:Nat×Nat->Int:=λ_=>1
def wF:FD:=λds R=>∃(n:Nat) (ps:List (Nat×Nat)),ds=[qQ n ps]/\vq n ps/\R (wD ps w1)
theorem wF.mono:cA wF:=λds R R' k h=>by obtain⟨n,ps,e,h1,q⟩:=h;exact⟨n,ps,e,h1,k _ q⟩
def nF:FD:=λds R=>∃(n:Nat) (ps:List (Nat×Nat)),ds=[qQ n ps]/\vq n ps/\R (jY n (tW ps w1))
theorem nF.mono:cA nF:=λds R R' k h=>by obtain⟨n,ps,e,h1,q⟩:=h;exact⟨n,ps,e,h1,k _ q⟩
theorem cZ {n:Nat}(h:n<=1000):n<=X3:=Yz h (by decide)
theorem pz {n:Nat}(h:n<=1000):n<X3:=Zd h (by decide)
theorem Gs {n i:Nat}{x:Int}(hx:x=(i:Int))(h:i<n):zM n x=some i:=by
 subst hx;unfold zM;rw[if_pos (by lia),if_pos (by lia)]
 simp
theorem xl {α:Type}{n i:Nat}{f:Nat->α}{y:α}(h:i<n):((X7 n).map f).set i y=(X7 n).map λk=>if k=i then y else f k:=by
 refine Z6 λk=>?_;rw[Zz]
 by_cases hk:k<n
 ·rw[d8 hk,d8 hk,XN,Yx]
  by_cases e:i=k
  ·rw[if_pos e,if_pos (e▸hk),if_pos e.symm]
  ·rw[if_neg e,if_neg (YW e)]
 ·rw[YQ (l:=(X7 n).map f) (by simpa using hk),YQ (l:=(X7 n).map λk=>if k=i then y else f k) (by simpa using hk),if_neg (by lia)]
theorem Js {n i k:Nat}{ps:List (Nat×Nat)}(h:i<n):((X7 n).map λj=>D.lst (gH (lG ps j))).set i (.lst (gH (lG ps i)++[D.int k]))=(X7 n).map λj=>D.lst (gH (lG (ps++[(i,k)]) j)):=by
 rw[xl h];refine Zr λj _=>?_;unfold lG gH;rw[ZF,X1,X1]
 by_cases e:j=i
 ·rw[if_pos e,e];simp
 ·rw[if_neg e,Zb,if_neg (by simpa using YW e)];simp
theorem jE {ps:List (Nat×Nat)}{i:Nat}:(lG ps i).length<=ps.length:=by
 unfold lG;rw[XN];exact YD _ _
def gu (n a b:Nat)(i:Nat):Nat:=if n-1-a<i then n+1-i else if i=n-1-a then b+1 else 1
theorem Fj {n a b:Nat}{T:Nat->Nat->Int}(ha:a<n)(hb:b<=a):
  ((X7 (n+1)).map λi=>D.lst (sN (gu n a b i) λl=>T l i)).set (n-1-a) (.lst (sN (b+1) (λl=>T l (n-1-a))++[D.int (T (b+1) (n-1-a))]))=(X7 (n+1)).map λi=>D.lst (sN (gu n a (b+1) i) λl=>T l i):=by
 rw[xl (by lia)]
 refine Zr λi _=>?_;unfold gu
 by_cases e:i=n-1-a
 ·rw[if_pos e,e,if_neg (by lia),if_pos rfl]
  unfold sN;rw[aaB (n:=b+1),X1];rfl
 ·rw[if_neg e,if_neg e,if_neg e]
theorem zH {n a:Nat}(h:a+1<n)(i:Nat)(hi:i<=n):gu n a (a+1) i=gu n (a+1) 0 i:=by
 unfold gu
 by_cases h1:n-1-a<i
 ·rw[if_pos h1,if_pos (by omega)]
 ·rw[if_neg h1]
  by_cases h2:i=n-1-a
  ·rw[if_pos h2,if_pos (by omega)];omega
  ·rw[if_neg h2,if_neg (by omega)]
   split <;> rfl
theorem CS {n a:Nat}(h:n=a+1)(i:Nat)(hi:i<=n):gu n a (a+1) i=n+1-i:=by
 unfold gu
 split
 ·rfl
 ·split <;> lia
theorem wb {n:Nat}(h:0<n)(i:Nat)(hi:i<=n):gu n 0 0 i=1:=by
 unfold gu
 split
 ·lia
 ·split <;> rfl
theorem pq {n:Nat}{L L':Nat->Nat}{T:Nat->Nat->Int}(h:∀i,i<=n->L i=L' i):mx n L T=mx n L' T:=by
 unfold mx
 congr 1
 refine Zr λi hi=>?_;rw[h i (by have:=YH.mp hi;lia)]
def yK (n idx:Nat)(L:Nat->Nat):Prop:=(n=0/\L 0=1)\/∃a b,a<n/\b<=a+1/\(∀i,i<=n->L i=gu n a b i)/\(qG n).drop idx=ft n a b
theorem uO {n:Nat}:yK n 0 λ_=>1:=by
 rcases Nat.eq_zero_or_pos n with h|h
 ·exact .inl ⟨h,rfl⟩
 ·exact .inr ⟨0,0,h,Yh _,λi hi=>(wb h i hi).symm,yR h⟩
theorem z_ {n:Nat}{L:Nat->Nat}(h:yK n (qG n).length L):∀i,i<=n->L i=n+1-i:=by
 rcases h with⟨rfl,h⟩|⟨a,b,h1,h2,h3,h4⟩
 ·intro i hi;rw[show i=0 by lia,h]
 ·intro i hi;rw[List.drop_length]at h4;have hb:b=a+1:=by
   rcases Zx a b with q|q
   ·lia
   ·rw[i5 q]at h4;cases h4
  have ha:n=a+1:=by
   rcases Zx (a+1) n with q|q
   ·rw[hb,pC q,i5 (Yh _)]at h4;cases h4
   ·lia
  rw[h3 i hi,hb];exact CS ha i hi
theorem wI {n idx:Nat}{L:Nat->Nat}{p:Nat×Nat}(h:yK n idx L)(hp:(qG n)[idx]?=some p):∃a b,a<n/\b<=a/\p=(n-1-a,n-a+b)/\(∀i,i<=n->L i=gu n a b i)/\(qG n).drop (idx+1)=ft n a (b+1):=by
 have hd:(qG n).drop idx=p::(qG n).drop (idx+1):=by
  obtain⟨h1,h2⟩:=X0.mp hp;rw[Zi h1,h2]
 rcases h with⟨rfl,h⟩|⟨a,b,h1,h2,h3,h4⟩
 ·cases hp
 ·have key:∃a b,a<n/\b<=a/\(∀i,i<=n->L i=gu n a b i)/\(qG n).drop idx=ft n a b:=by
   rcases Zx a b with q|q
   ·have e:b=a+1:=by lia
    rcases Zx (a+1) n with q2|q2
    ·exact⟨a+1,0,q2,Yh _,λi hi=>by rw[h3 i hi,e,zH q2 i hi],by rw[h4,e,pC q2]⟩
    ·rw[h4,e,vJ q2]at hd;cases hd
   ·exact⟨a,b,h1,q,h3,h4⟩
  obtain⟨a,b,h1,h2,h3,h4⟩:=key;rw[h4,i5 h2]at hd;injection hd with e1 e2
  exact⟨a,b,h1,h2,e1.symm,h3,e2.symm⟩
theorem sZ {n a:Nat}:(fh n a).length=a+1:=by unfold fh;simp
theorem zc {n a b:Nat}(h:b<a+1):(fh n a).take (b+1)=(fh n a).take b++[(n-1-a,n-a+b)]:=by
 rw[YO];unfold fh;rw[d8 h];rfl
theorem Br {n a:Nat}:(fh n a).take (a+1)=fh n a:=Zf (by rw[sZ];exact XS _)
theorem uz {n:Nat}:∀a:Nat,a<=n->(((X7 n).take a).flatMap (fh n)).length<=a*a
 |0,_=>by simp
 |a+1,h=>by
  have:=uz (n:=n) a (by lia)
  rw[YO,Y3 (show a<n by lia),ZQ,Yg]
  have e:((some a).toList.flatMap (fh n)).length=a+1:=by simp[sZ]
  rw[e,Nat.mul_add,Nat.add_mul];lia
theorem Bd {n a b:Nat}(hn:n<=80)(ha:a<n)(hb:b<a+1):(((X7 n).take a).flatMap (fh n)).length+((fh n a).take b).length<X3:=by
 have h1:=uz (n:=n) a (by lia)
 have h2:((fh n a).take b).length<=b:=by rw[Yy];exact aaA _ _
 have h3:a*a<=80*80:=Nat.mul_le_mul (by lia) (by lia)
 have h4:80*80+80<X3:=by decide
 lia
theorem zD {l:List Int}{x:Int}:(ek (l++[x])).getD 0∈l++[x]/\∀y∈l++[x],y<=(ek (l++[x])).getD 0:=by
 cases l with
 |nil=>exact cc [] x
 |cons a l=>exact cc (l++[x]) a
theorem pN {ps:List (Nat×Nat)}{w:Nat×Nat->Int}{T:Nat->Nat->Int}{i j:Nat}:
  (jP ps w T i j=T (j-i-1) (i+1)\/∃k,(i,k)∈ps/\k<j/\jP ps w T i j=w (i,k)+T (k-i-1) (i+1)+T (j-k-1) (k+1)) /\
  T (j-i-1) (i+1)<=jP ps w T i j/\∀k,(i,k)∈ps->k<j->w (i,k)+T (k-i-1) (i+1)+T (j-k-1) (k+1)<=jP ps w T i j:=by
 obtain⟨h1,h2⟩:=zD (l:=((lG ps i).filter λk=>decide (k<j)).map λk=>w (i,k)+T (k-i-1) (i+1)+T (j-k-1) (k+1)) (x:=T (j-i-1) (i+1));refine⟨?_,h2 _ (by simp),λk hk hj=>h2 _ (Yq _ (Yl.mpr ⟨k,Ym.mpr ⟨eh.mpr hk,decide_eq_true hj⟩,rfl⟩))⟩
 rcases XZ.mp h1 with h|h
 ·obtain⟨k,hk,e⟩:=Yl.mp h;obtain⟨q1,q2⟩:=Ym.mp hk;exact .inr ⟨k,eh.mp q1,of_decide_eq_true q2,e.symm⟩
 ·exact .inl (XW.mp h)
def near (ps:List (Nat×Nat))(b:Nat):List Nat:=(ps.filter λp=>decide (p.2=b)).map (·.1)
theorem zz {ps:List (Nat×Nat)}{b:Nat}:gH (near ps b)=(ps.filter λp=>decide (p.2=b)).map λp=>D.int (p.1:Int):=by
 unfold gH near;rw[Y_];rfl
theorem mW {ps:List (Nat×Nat)}{a b:Nat}:a∈near ps b↔(a,b)∈ps:=by
 unfold near;rw[Yl];constructor
 ·rintro⟨p,hp,rfl⟩;obtain⟨h1,h2⟩:=Ym.mp hp;rw[<- of_decide_eq_true h2];exact h1
 ·intro h;exact⟨(a,b),Ym.mpr ⟨h,by simp⟩,rfl⟩
theorem t6 {ps:List (Nat×Nat)}{b:Nat}:(near ps b).length<=ps.length:=by
 unfold near;rw[XN];exact YD _ _
theorem pj {kvs:List (List Int×D)}{t u:List Int}{d:D}(h:fg kvs t=none):fg (kvs++[(t,d)]) u=if u=t then some d else fg kvs u:=by
 unfold fg at *
 rw[List.find?_append]
 by_cases e:u=t
 ·subst e;rw[if_pos rfl,Option.map_eq_none_iff.mp h];simp
 ·rw[if_neg e];cases q:kvs.find? λp=>decide (p.1=u)with
  |some p=>rfl
  |none=>simp[YW e]
def Dn (J m i j:Nat):Prop:=j<J\/(j=J/\J<i+m)
theorem rL {kvs:List (List Int×D)}{x y:Int}{i j:Nat}{d:D}(hx:x=(i:Int))(hy:y=(j:Int))(h:fg kvs (tI (i,j))=some d):uS (dA kvs) (.tup [.int x,.int y])=some d:=by
 subst hx hy;rw[<- h];exact yw (t:=tI (i,j))
def oD:Option Nat->D
 |none=>.cj
 |some k=>.int (k:Int)
def parts (i:Nat)(k:Option Nat)(j:Nat):List (Nat×Nat):=match k with
 |none=>[(i+1,j)]
 |some k=>[(i+1,k),(k+1,j)]
def gK (ps:List (Nat×Nat))(w:Nat×Nat->Int)(T:Nat->Nat->Int)(i j:Nat):List (Option Nat) :=
 ((lG ps i).filter λk=>decide (k<j)&&decide (w (i,k)+T (k-i-1) (i+1)+T (j-k-1) (k+1)=T (j-i) i)).map some++(if T (j-i-1) (i+1)=T (j-i) i then [none] else [])
def VR (ps:List (Nat×Nat))(w:Nat×Nat->Int)(T:Nat->Nat->Int)(i j:Nat):Option Nat->Prop
 |none=>T (j-i-1) (i+1)=T (j-i) i
 |some k=>(i,k)∈ps/\k<j/\w (i,k)+T (k-i-1) (i+1)+T (j-k-1) (k+1)=T (j-i) i
theorem eF {ps:List (Nat×Nat)}{w:Nat×Nat->Int}{T:Nat->Nat->Int}{i j:Nat}{c:Option Nat}(h:c∈gK ps w T i j):VR ps w T i j c:=by
 unfold gK at h;rcases XZ.mp h with h|h
 ·obtain⟨k,hk,rfl⟩:=Yl.mp h;obtain⟨h1,h2⟩:=Ym.mp hk;rw[Yu,decide_eq_true_eq,decide_eq_true_eq]at h2;exact⟨eh.mp h1,h2.1,h2.2⟩
 ·split at h
  ·next e=>rw[XW.mp h];exact e
  ·cases h
theorem u6 {ps:List (Nat×Nat)}{w:Nat×Nat->Int}(hp:∀p∈ps,p.1<p.2){i j:Nat}(h:i<j):gK ps w (tW ps w) i j≠[]:=by
 have e:tW ps w (j-i) i=jP ps w (tW ps w) i j:=by rw[show j-i=(j-i-1)+1 by lia,lO hp,show i+(j-i-1)+1=j by lia]
 obtain⟨h1,_,_⟩:=pN (ps:=ps) (w:=w) (T:=tW ps w) (i:=i) (j:=j);rw[<- e]at h1;unfold gK;intro z;obtain⟨z1,z2⟩:=List.append_eq_nil_iff.mp z;rcases h1 with q|⟨k,hk,hj,q⟩
 ·rw[if_pos q.symm]at z2;cases z2
 ·have:k∈(lG ps i).filter λk=>decide (k<j)&&decide (w (i,k)+tW ps w (k-i-1) (i+1)+tW ps w (j-k-1) (k+1)=tW ps w (j-i) i):=Ym.mpr ⟨eh.mpr hk,by rw[Yu,decide_eq_true_eq,decide_eq_true_eq];exact⟨hj,q.symm⟩⟩
  rw[List.map_eq_nil_iff.mp z1]at this;cases this
def cX (ps:List (Nat×Nat))(w:Nat×Nat->Int)(i j:Nat):Option Nat:=(gK ps w (tW ps w) i j).headD none
theorem df {ps:List (Nat×Nat)}{w:Nat×Nat->Int}(hp:∀p∈ps,p.1<p.2){i j:Nat}(h:i<j):cX ps w i j∈gK ps w (tW ps w) i j:=by
 have:=u6 (w:=w) hp h;unfold cX;cases q:gK ps w (tW ps w) i j with
 |nil=>exact absurd q this
 |cons a l=>simp
noncomputable def oS (ps:List (Nat×Nat))(w:Nat×Nat->Int):Nat->Nat->Nat->List (Nat×Nat)
 |0,_,_=>[]
 |n+1,i,j=>if i<j then match cX ps w i j with
   |none=>oS ps w n (i+1) j
   |some k=>(i,k)::(oS ps w n (i+1) k++oS ps w n (k+1) j)
  else []
theorem eG {ps:List (Nat×Nat)}{w:Nat×Nat->Int}(hp:∀p∈ps,p.1<p.2):∀{n m i j:Nat},j-i<=n->j-i<=m->oS ps w n i j=oS ps w m i j
 |0,0,_,_,_,_=>rfl
 |0,m+1,i,j,h,_=>by unfold oS;rw[if_neg (by omega)]
 |n+1,0,i,j,_,h=>by unfold oS;rw[if_neg (by omega)]
 |n+1,m+1,i,j,h1,h2=>by
  unfold oS
  by_cases h:i<j
  ·rw[if_pos h,if_pos h];have hm:=eF (df (w:=w) hp h);cases q:cX ps w i j with
   |none=>exact eG hp (by omega) (by omega)
   |some k =>
    rw[q]at hm;have:=hp _ hm.1;dsimp only at this;have h3:=hm.2.1;dsimp only;rw[eG hp (n:=n) (m:=m) (i:=i+1) (j:=k) (by omega) (by omega),eG hp (n:=n) (m:=m) (i:=k+1) (j:=j) (by omega) (by omega)]
  ·rw[if_neg h,if_neg h]
def fX (ps:List (Nat×Nat))(w:Nat×Nat->Int)(i j:Nat):List (Nat×Nat):=oS ps w (j-i) i j
theorem e_ {ps:List (Nat×Nat)}{w:Nat×Nat->Int}{i j:Nat}(h:¬ i<j):fX ps w i j=[]:=by
 unfold fX;rw[show j-i=0 by lia]
 rfl
theorem iz {ps:List (Nat×Nat)}{w:Nat×Nat->Int}(hp:∀p∈ps,p.1<p.2){i j:Nat}(h:i<j):fX ps w i j=match cX ps w i j with
  |none=>fX ps w (i+1) j
  |some k=>(i,k)::(fX ps w (i+1) k++fX ps w (k+1) j):=by
 unfold fX;rw[show j-i=(j-i-1)+1 by lia]
 conv=>lhs;unfold oS
 rw[if_pos h];have hm:=eF (df (w:=w) hp h);cases q:cX ps w i j with
 |none=>exact eG hp (by lia) (by lia)
 |some k =>
  rw[q]at hm;have:=hp _ hm.1;dsimp only at this;have h3:=hm.2.1;dsimp only;rw[eG hp (n:=j-i-1) (m:=k-(i+1)) (i:=i+1) (j:=k) (by lia) (by lia),eG hp (n:=j-i-1) (m:=j-(k+1)) (i:=k+1) (j:=j) (by lia) (by lia)]
def ur (i:Nat):Option Nat->List (Nat×Nat)
 |none=>[]
 |some k=>[(i,k)]
theorem wA {ps:List (Nat×Nat)}{w:Nat×Nat->Int}(hp:∀p∈ps,p.1<p.2){i j:Nat}(h:i<j):fX ps w i j=ur i (cX ps w i j)++(parts i (cX ps w i j) j).flatMap λp=>fX ps w p.1 p.2:=by
 rw[iz hp h];cases cX ps w i j with
 |none=>simp[parts,ur]
 |some k=>simp[parts,ur]
theorem DC {ps:List (Nat×Nat)}{w:Nat×Nat->Int}(hp:∀p∈ps,p.1<p.2):∀l i j,j-i<=l->2*(fX ps w i j).length<=j-i:=by
 intro l
 induction l with
 |zero=>intro i j h;rw[e_ (by lia)];exact Yh _
 |succ l ih =>
  intro i j h
  by_cases aA:i<j
  ·rw[iz hp aA];have hm:=eF (df (w:=w) hp aA);cases q:cX ps w i j with
   |none=>have:=ih (i+1) j (by lia);dsimp only;lia
   |some k =>
    rw[q]at hm;have h1:=hp _ hm.1;dsimp only at h1;have h3:=hm.2.1;have a1:=ih (i+1) k (by lia)
    have a2:=ih (k+1) j (by lia)
    dsimp only;rw[Yt,Yg];lia
  ·rw[e_ aA];exact Yh _
def nH:FD:=λds R=>∃(i:Nat) (k:Option Nat) (j:Nat),ds=[.int i,oD k,.int j]/\R (.lst ((parts i k j).map AB))
theorem nH.mono:cA nH:=λds R R' k h=>by obtain⟨i,c,j,e,q⟩:=h;exact⟨i,c,j,e,k _ q⟩
def uL:FD:=λds R=>∃(n:Nat) (ps:List (Nat×Nat)) (w:Nat×Nat->Int) (T:Nat->Nat->Int) (i j:Nat),ds=[EL n ps,wD ps w,jY n T,.int i,.int j]/\vq n ps/\i<j/\j<=n/\R (.lst ((gK ps w T i j).map oD))
theorem uL.mono:cA uL:=λds R R' k h=>by obtain⟨n,ps,w,T,i,j,e,h1,h2,h3,q⟩:=h;exact⟨n,ps,w,T,i,j,e,h1,h2,h3,k _ q⟩
def uI:FD:=λds R=>∃(n:Nat) (ps:List (Nat×Nat)) (w:Nat×Nat->Int) (i j:Nat),ds=[qQ n ps,wD ps w,jY n (tW ps w),.int i,.int j]/\vq n ps/\i<=j/\j<=n/\R (sL (fX ps w i j))
theorem uI.mono:cA uI:=λds R R' k h=>by obtain⟨n,ps,w,i,j,e,h1,h2,h3,q⟩:=h;exact⟨n,ps,w,i,j,e,h1,h2,h3,k _ q⟩
def Ia (ps:List (Nat×Nat))(i j:Nat):D:=.tup [.int (tW ps w1 (j-i) i),sL (fX ps w1 i j)]
def j8:FD:=λds R=>∃(n:Nat) (ps:List (Nat×Nat)) (i j:Nat),ds=[qQ n ps,.int i,.int j]/\vq n ps/\i<=j/\j<=n/\R (Ia ps i j)
theorem j8.mono:cA j8:=λds R R' k h=>by obtain⟨n,ps,i,j,e,h1,h2,h3,q⟩:=h;exact⟨n,ps,i,j,e,h1,h2,h3,k _ q⟩
def nL:FD:=λds R=>∃(n:Nat) (ps:List (Nat×Nat)),ds=[qQ n ps]/\vq n ps/\R (Ia ps 0 n)
theorem nL.mono:cA nL:=λds R R' k h=>by obtain⟨n,ps,e,h1,q⟩:=h;exact⟨n,ps,e,h1,k _ q⟩
def xc (ws:List (Nat×Nat)):Nat:=(ws.map λp=>2*(p.2-p.1)+1).sum
theorem qz {a b:List (Nat×Nat)}:xc (a++b)=xc a+xc b:=by unfold xc;rw[X1,List.sum_append]
theorem E7 {a:List (Nat×Nat)}:xc a.reverse=xc a:=by
 unfold xc;rw[List.map_reverse];exact(List.reverse_perm _).sum_nat
theorem jL {α β:Type}{f:α->β}:∀(l:List α) (m:Nat),(l.eraseIdx m).map f=(l.map f).eraseIdx m
 |[],_=>rfl
 |_::_,0=>rfl
 |x::l,m+1=>by
  show f x::(l.eraseIdx m).map f=f x::(l.map f).eraseIdx m;rw[jL l m]
end L2.Q
namespace L2
open PySem
structure HD (mg:Str->Option XO):Prop extends Bs2 mg where
 dict:mg "dict" = none
theorem Hk:YG "dict" = some (.type "dict"):=by decide +kernel
theorem dg.I9 {k:Nat}{A:YX}(r:dg k A):A.units+2<Z7:=by have:=r.un;lia
theorem wJ:LF (.int 10) (.int 30)=some (.int (10 ^ 30)):=by
 show (if w_ 10 30 then _ else none)=_
 rw[if_pos (by decide)]
 rfl
theorem LD:LF (.int 10) (.int 29)=some (.int (10 ^ 29)):=by
 show (if w_ 10 29 then _ else none)=_
 rw[if_pos (by decide)]
 rfl
end L2
namespace L2.Q
open PySem
def DQ:FD:=λds R=>ds=[]/\∀g:Int,0<=g->R (.int g)
theorem DQ.mono:cA DQ:=λds R R' k h=>by obtain⟨e,q⟩:=h;exact⟨e,λg a=>k _ (q g a)⟩
theorem sA {b:Bool}{t:List Int}:∀{ts:List (List Int)},(mn (ts.map iK) (YY ts.length (.bl b)) (iK t)).isSome=decide (t∈ts)
 |[]=>by simp[mn]
 |u::ts=>by
  have ih:=sA (b:=b) (t:=t) (ts:=ts);unfold mn at *
  rw[X4,Yt,List.replicate_succ,YZ,YF]
  by_cases h:u=t
  ·rw[decide_eq_true (congrArg iK h)];simp[h]
  ·rw[decide_eq_false (λz=>h (wo z))];simp only[ih];have:(t∈u::ts)↔t∈ts:=by simp[YW h]
   exact decide_eq_decide.mpr this.symm
theorem wO {ts:List (List Int)}{b:Bool}{t:List Int}:LH (kD t) (dP ts b)=some (.bl (decide (t∈ts))):=by
 unfold LH;have e:Ad (dP ts b) (kD t)=some ((ts.map iK,YY ts.length (.bl b)),t):=by
  show (some _).bind (λp=>(some (t.map D.int)).bind λes=>(h7 es).map λt=>(p,t))=_;rw[Zn,Zn,fZ];rfl
 rw[e,ZI,sA]
theorem mZ {ts:List (List Int)}{t u:List Int}:u∈cK ts t↔u∈ts\/u=t:=by
 unfold cK
 split
 ·next h=>exact⟨.inl,λz=>z.elim id λz=>by rw[z];exact h⟩
 ·rw[XZ,XW]
theorem ub {t:List Int}:∀{ts acc:List (List Int)},t∈ts.foldl cK acc↔t∈acc\/t∈ts
 |[],acc=>by simp
 |u::ts,acc=>by
  rw[Zt,ub,mZ,XU];constructor
  ·rintro ((h|h)|h)
   ·exact .inl h
   ·exact .inr (.inl h)
   ·exact .inr (.inr h)
  ·rintro (h|h|h)
   ·exact .inl (.inl h)
   ·exact .inl (.inr h)
   ·exact .inr h
def Iv (acc:List (List Int))(t:List Int):List (List Int):=cK (cK acc t) t.reverse
def eW (ps:List (List Int)):List (List Int):=ps.foldl Iv []
theorem G9 {ps:List (List Int)}{t:List Int}:eW (ps++[t])=Iv (eW ps) t:=by unfold eW;rw[List.foldl_append];rfl
theorem oj {ts:List (List Int)}{t:List Int}:(cK ts t).length<=ts.length+1:=by unfold cK;split <;> simp
theorem DY:∀{ps acc:List (List Int)},(ps.foldl Iv acc).length<=acc.length+2*ps.length
 |[],acc=>by simp
 |t::ps,acc=>by
  rw[Zt,Yt];have h1:=DY (ps:=ps) (acc:=Iv acc t);have h2:(Iv acc t).length<=acc.length+2:=by
   unfold Iv;have h3:=oj (ts:=cK acc t) (t:=t.reverse);have h4:=oj (ts:=acc) (t:=t);lia
  lia
theorem xS {u:List Int}:∀{ps acc:List (List Int)},u∈ps.foldl Iv acc↔u∈acc\/u∈ps\/u.reverse∈ps
 |[],acc=>by simp
 |t::ps,acc=>by
  rw[Zt,xS,XU,XU];unfold Iv;rw[mZ,mZ];have e:u=t.reverse↔u.reverse=t:=⟨λh=>by rw[h,List.reverse_reverse],λh=>by rw[<- h,List.reverse_reverse]⟩
  rw[e];constructor
  ·rintro (((h|h)|h)|h|h)
   ·exact .inl h
   ·exact .inr (.inl (.inl h))
   ·exact .inr (.inr (.inl h))
   ·exact .inr (.inl (.inr h))
   ·exact .inr (.inr (.inr h))
  ·rintro (h|(h|h)|(h|h))
   ·exact .inl (.inl (.inl h))
   ·exact .inl (.inl (.inr h))
   ·exact .inr (.inl h)
   ·exact .inl (.inr h)
   ·exact .inr (.inr h)
theorem Kj {ps:List (List Int)}{a b:Int}:[a,b]∈eW ps↔[a,b]∈ps\/[b,a]∈ps:=by
 unfold eW;rw[xS];simp
def lL (ks:List Int)(ps:List (List Int))(a b:Nat):Bool:=decide ([ks.getD a 0,ks.getD b 0]∈ps) || decide ([ks.getD b 0,ks.getD a 0]∈ps)
theorem wB {ks:List Int}{ps:List (List Int)}{a b:Nat}:decide ([ks.getD a 0,ks.getD b 0]∈eW ps)=lL ks ps a b:=by
 unfold lL;rw[<- Bool.decide_or];exact decide_eq_decide.mpr Kj
def tX (ks:List Int)(ps:List (List Int))(g:Int)(a b:Nat):Bool:=decide (g<(b:Int)-(a:Int))&&lL ks ps a b
def gV (n:Nat)(ok:Nat->Nat->Bool)(a:Nat):List (Nat×Nat):=((X7 (n-(a+1))).filter λk=>ok a (a+1+k)).map λk=>(a,a+1+k)
def tK (ks:List Int)(ps:List (List Int))(g:Int):List (Nat×Nat):=(X7 ks.length).flatMap (gV ks.length (tX ks ps g))
theorem Bt {n:Nat}{ok:Nat->Nat->Bool}{a:Nat}:(gV n ok a).length<=n:=by
 unfold gV;rw[XN];exact Yz (YD _ _) (by rw[Yx];lia)
theorem sO {n m:Nat}{ok:Nat->Nat->Bool}:(((X7 n).take m).flatMap (gV n ok)).length<=m*n:=by
 induction m with
 |zero=>simp
 |succ m ih =>
  rw[YO,ZQ,Yg,Nat.succ_mul];refine Nat.add_le_add ih ?_;cases h:(X7 n)[m]? with
  |none=>simp
  |some x=>simp[Bt]
def pK (n:Nat)(ok:Nat->Nat->Bool)(a b:Nat):List (Nat×Nat):=((X7 n).take a).flatMap (gV n ok)++(((X7 (n-(a+1))).take b).filter λk=>ok a (a+1+k)).map λk=>(a,a+1+k)
theorem xG {n:Nat}{ok:Nat->Nat->Bool}{a:Nat}:pK n ok a 0=((X7 n).take a).flatMap (gV n ok):=by unfold pK;simp
theorem xH {n:Nat}{ok:Nat->Nat->Bool}{a b:Nat}(hb:b<n-(a+1)):pK n ok a (b+1)=pK n ok a b++(if ok a (a+1+b)=true then [(a,a+1+b)] else []):=by
 unfold pK;have et:(X7 (n-(a+1))).take (b+1)=(X7 (n-(a+1))).take b++[b]:=by rw[YO,Y3 hb];rfl
 rw[et,ZF,X1,ZL,Zb]
 by_cases h:ok a (a+1+b)=true
 ·rw[if_pos h,if_pos h];rfl
 ·rw[if_neg h,if_neg h];rfl
theorem Cc {n:Nat}{ok:Nat->Nat->Bool}{a b:Nat}(hb:b<n-(a+1))(h:ok a (a+1+b)=true):pK n ok a (b+1)=pK n ok a b++[(a,a+1+b)]:=by rw[xH hb,if_pos h]
theorem xJ {n:Nat}{ok:Nat->Nat->Bool}{a b:Nat}(hb:b<n-(a+1))(h:ok a (a+1+b)=false):pK n ok a (b+1)=pK n ok a b:=by rw[xH hb,if_neg (by rw[h];exact aak),ZJ]
theorem Cd {n:Nat}{ok:Nat->Nat->Bool}{a:Nat}(ha:a<n):pK n ok a (n-(a+1))=((X7 n).take (a+1)).flatMap (gV n ok):=by
 unfold pK;rw[Zf (l:=X7 (n-(a+1))) (by simp),YO,Y3 ha,ZQ]
 simp[gV]
theorem JU {n:Nat}{ok:Nat->Nat->Bool}{a b:Nat}:(pK n ok a b).length<=a*n+b:=by
 unfold pK;rw[Yg,XN];have l1:=sO (n:=n) (m:=a) (ok:=ok);have l2:=YD (λk=>ok a (a+1+k)) ((X7 (n-(a+1))).take b);rw[Yy,Yx]at l2;lia
theorem xI {n:Nat}{ok:Nat->Nat->Bool}{a b:Nat}(hn:n<=30)(ha:a<n)(hb:b<n-(a+1)):(pK n ok a b).length<=1000:=by
 have h1:=JU (n:=n) (ok:=ok) (a:=a) (b:=b);have h2:a*n<=30*30:=Nat.mul_le_mul (by lia) hn
 lia
theorem vR {ks:List Int}{ps:List (List Int)}{g:Int}:((X7 ks.length).take ks.length).flatMap (gV ks.length (tX ks ps g))=tK ks ps g:=by rw[Zf (by simp)];rfl
theorem xj {l:List (Nat×Nat)}{p:Nat×Nat}:(l++[p]).map (λp=>kD (tI p))=l.map (λp=>kD (tI p))++[kD (tI p)]:=by rw[X1];rfl
theorem GZ {t:List Int}:(mN t).flat=true:=by
 show D.cf [kD t,.bl true]=true;show (D.flat (kD t)&&D.cf [.bl true])=true;rw[yh];rfl
theorem uZ {ks:List Int}{ps:List (List Int)}{a b:Nat}:(([[ks.getD a 0,ks.getD b 0],[ks.getD b 0,ks.getD a 0]].filter λt=>decide (t∈ps.foldl cK []))=[])↔lL ks ps a b=false:=by
 rw[List.filter_eq_nil_iff];unfold lL;simp[ub]
def Lz:FD:=λds R=>∃ps:List (List Int),ds=[.lst (ps.map kD)]/\ps.length<=300/\Pairs ps/\R (dP (eW ps) true)
theorem Lz.mono:cA Lz:=λds R R' k h=>by obtain⟨ps,e,h1,h2,q⟩:=h;exact⟨ps,e,h1,h2,k _ q⟩
def uK:FD:=λds R=>∃g:Int,ds=[.int g]/\0<=g/\R .cj
theorem uK.mono:cA uK:=λds R R' k h=>by obtain⟨g,e,h1,q⟩:=h;exact⟨g,e,h1,k _ q⟩
def DL:FD:=λds R=>∃(ks:List Int) (ps:List (List Int)) (g:Int),ds=[.lst (ks.map D.int),.lst (ps.map kD),.int g]/\ks.length<=30/\ps.length<=300/\Pairs ps/\0<=g/\R (qQ ks.length (tK ks ps g))
theorem DL.mono:cA DL:=λds R R' k h=>by obtain⟨ks,ps,g,e,h1,h2,h3,h4,q⟩:=h;exact⟨ks,ps,g,e,h1,h2,h3,h4,k _ q⟩
def nE:FD:=λds R=>∃(ks:List Int) (ps:List (List Int)) (g:Int),ds=[.lst (ks.map D.int),.lst (ps.map kD),.int g]/\ks.length<=30/\ps.length<=300/\Pairs ps/\0<=g/\R (sL (tK ks ps g))
theorem nE.mono:cA nE:=λds R R' k h=>by obtain⟨ks,ps,g,e,h1,h2,h3,h4,q⟩:=h;exact⟨ks,ps,g,e,h1,h2,h3,h4,k _ q⟩
theorem C_ {ks:List Int}{a:Nat}{x:Int}(hx:x=(a:Int))(h:a<ks.length):Ae (.lst (ks.map D.int)) (.int x)=some (.int (ks.getD a 0)) :=
 jR (i:=a) hx (by rw[X5,XY h,YE,XY h];rfl)
theorem Bj (ks:List Int)(ps:List (List Int)):(D.lst [.lst (ks.map D.int),.lst (ps.map kD)]).pd.canLay0=true/\(D.lst [.lst (ks.map D.int),.lst (ps.map kD)]).pd.depth<=4:=kA λd hd=>by
 rcases XU.mp hd with rfl|hd
 ·exact⟨(c9 ks).1,Yz (c9 ks).2 (by decide)⟩
 ·rw[XW.mp hd];exact i4 ps
section
variable {ps:List (Nat×Nat)}
def mX (ps:List (Nat×Nat))(i j:Nat):Int:=tW ps w1 (j-i) i
theorem dq {i j:Nat}(h:j<=i):mX ps i j=0:=by unfold mX;rw[show j-i=0 by lia];rfl
theorem l5 {l:List Int}{m:Int}(h:ek l=some m):m∈l/\∀x∈l,x<=m:=by
 cases l with
 |nil=>cases h
 |cons a l=>cases h;exact cc l a
theorem rq {l:List Int}{m:Int}(h1:m∈l)(h2:∀x∈l,x<=m):ek l=some m:=by
 cases h:ek l with
 |none=>cases l with|nil=>cases h1|cons a l=>cases h
 |some k =>
  obtain⟨g1,g2⟩:=l5 h;have:=h2 _ g1;have:=g2 _ h1;rw[show k=m by lia]
theorem rA (hp:∀p∈ps,p.1<p.2){i j:Nat}(h:i<j):ek ((((lG ps i).filter λk=>decide (k<j)).map λk=>1+mX ps (i+1) k+mX ps (k+1) j)++[mX ps (i+1) j])=some (mX ps i j):=by
 have e:mX ps i j=jP ps w1 (tW ps w1) i j:=by
  unfold mX;rw[show j-i=(j-i-1)+1 by lia,lO hp,show i+(j-i-1)+1=j by lia]
 rw[e];unfold jP;rw[<- pM];have e2:(((lG ps i).filter λk=>decide (k<j)).map λk=>1+mX ps (i+1) k+mX ps (k+1) j)=((lG ps i).filter λk=>decide (k<j)).map λk=>w1 (i,k)+tW ps w1 (k-i-1) (i+1)+tW ps w1 (j-k-1) (k+1):=by
  refine Zr λk _=>?_;unfold mX;rw[show k-(i+1)=k-i-1 by lia,show j-(k+1)=j-k-1 by lia]
  rfl
 rw[e2];unfold mX;rw[show j-(i+1)=j-i-1 by lia]
theorem jM (hp:∀p∈ps,p.1<p.2){i j:Nat}(h:i<j):mX ps (i+1) j<=mX ps i j:=(l5 (rA hp h)).2 _ (by simp)
theorem kQ (hp:∀p∈ps,p.1<p.2){i j k:Nat}(h:(i,k)∈ps)(hk:k<j):1+mX ps (i+1) k+mX ps (k+1) j<=mX ps i j:=by
 have GJ:=hp _ h;dsimp only at GJ;refine(l5 (rA hp (show i<j by lia))).2 _ (Yq _ (Yl.mpr ⟨k,Ym.mpr ⟨eh.mpr h,decide_eq_true hk⟩,rfl⟩))
theorem m7 (hp:∀p∈ps,p.1<p.2){i j:Nat}(h:i<j):mX ps i j=mX ps (i+1) j\/∃k,(i,k)∈ps/\k<j/\mX ps i j=1+mX ps (i+1) k+mX ps (k+1) j:=by
 rcases XZ.mp (l5 (rA hp h)).1 with z|z
 ·obtain⟨k,hk,e⟩:=Yl.mp z;obtain⟨h1,h2⟩:=Ym.mp hk;exact .inr ⟨k,eh.mp h1,of_decide_eq_true h2,e.symm⟩
 ·exact .inl (XW.mp z)
theorem HG (hp:∀p∈ps,p.1<p.2):∀len i,0<=tW ps w1 len i
 |0,_=>Int.le_refl 0
 |l+1,i=>by
  rw[lO hp];have h:=(pN (ps:=ps) (w:=w1) (T:=tW ps w1) (i:=i) (j:=i+l+1)).2.1;rw[show i+l+1-i-1=l by lia]at h
  exact Int.le_trans (HG hp l (i+1)) h
theorem CN (hp:∀p∈ps,p.1<p.2){i j:Nat}:0<=mX ps i j:=HG hp (j-i) i
theorem jO (hp:∀p∈ps,p.1<p.2):∀(n i j:Nat),j-i<=n->i<j->mX ps i (j-1)<=mX ps i j
 |0,i,j,h,aA=>by lia
 |n+1,i,j,h,aA=>by
  by_cases e:i=j-1
  ·rw[dq (by lia)];exact CN hp
  ·have s:=jM hp aA;rcases m7 hp (show i<j-1 by lia)with z|⟨k,h1,h2,z⟩
   ·have:=jO hp n (i+1) j (by lia) (by lia)
    lia
   ·have GJ:=hp _ h1;dsimp only at GJ;have:=jO hp n (k+1) j (by lia) (by lia)
    have:=kQ hp h1 (show k<j by lia)
    lia
theorem jN (hp:∀p∈ps,p.1<p.2){a j:Nat}(ha:(a,j-1)∈ps)(hj:0<j):∀(n i:Nat),j-i<=n->i<=a->mX ps i a+1+mX ps (a+1) (j-1)<=mX ps i j
 |0,i,h,hi=>by have:=hp _ ha;dsimp only at this;lia
 |n+1,i,h,hi=>by
  have WC:=hp _ ha;dsimp only at WC
  by_cases e:i=a
  ·subst e;have t:=kQ hp ha (show j-1<j by lia)
   rw[dq (XS i)];rw[dq (i:=j-1+1) (by lia)]at t
   lia
  ·have s:=jM hp (show i<j by lia)
   rcases m7 hp (show i<a by lia)with z|⟨k,h1,h2,z⟩
   ·have:=jN hp ha hj n (i+1) (by lia) (by lia)
    lia
   ·have GJ:=hp _ h1;dsimp only at GJ;have:=jN hp ha hj n (k+1) (by lia) (by lia)
    have:=kQ hp h1 (show k<j by lia)
    lia
theorem kR (hp:∀p∈ps,p.1<p.2):∀(n i j:Nat),j-i<=n->i<j->mX ps i j=mX ps i (j-1)\/∃a,(a,j-1)∈ps/\i<=a/\mX ps i j=mX ps i a+1+mX ps (a+1) (j-1)
 |0,i,j,h,aA=>by lia
 |n+1,i,j,h,aA=>by
  have rs:=jO hp (j-i) i j (XS _) aA;rcases m7 hp aA with z|⟨k,h1,h2,z⟩
  ·by_cases e:i+1=j
   ·left
    rw[dq (i:=i+1) (by lia)]at z
    rw[dq (i:=i) (j:=j-1) (by lia)]
    exact z
   ·have s:=jM hp (show i<j-1 by lia)
    rcases kR hp n (i+1) j (by lia) (by lia)with y|⟨a,h1,h2,y⟩
    ·left;lia
    ·right
     have s2:=jM hp (show i<a by lia)
     have t:=jN hp h1 (by lia) (j-i) i (XS _) (by lia)
     exact⟨a,h1,by lia,by lia⟩
  ·have GJ:=hp _ h1;dsimp only at GJ
   by_cases e:k=j-1
   ·right
    subst e;refine⟨i,h1,XS _,?_⟩;rw[dq (i:=j-1+1) (by lia)]at z
    rw[dq (XS i)];lia
   ·rcases kR hp n (k+1) j (by lia) (by lia)with y|⟨a,g1,g2,y⟩
    ·left
     have:=kQ hp h1 (show k<j-1 by lia)
     lia
    ·right
     have:=kQ hp h1 (show k<a by lia)
     have t:=jN hp g1 (by lia) (j-i) i (XS _) (by lia)
     exact⟨a,g1,by lia,by lia⟩
theorem CM (hp:∀p∈ps,p.1<p.2){i j:Nat}(h:i<j):ek ([mX ps i (j-1)]++(((near ps (j-1)).filter λa=>decide (i<=a)).map λa=>mX ps i a+1+mX ps (a+1) (j-1)))=some (mX ps i j):=by
 refine rq ?_ λx hx=>?_
 ·rcases kR hp (j-i) i j (XS _) h with z|⟨a,h1,h2,z⟩
  ·rw[z];simp
  ·exact Yn _ (Yl.mpr ⟨a,Ym.mpr ⟨mW.mpr h1,decide_eq_true h2⟩,z.symm⟩)
 ·rcases XZ.mp hx with z|z
  ·rw[XW.mp z];exact jO hp (j-i) i j (XS _) h
  ·obtain⟨a,ha,rfl⟩:=Yl.mp z;obtain⟨h1,h2⟩:=Ym.mp ha;exact jN hp (mW.mp h1) (by lia) (j-i) i (XS _) (of_decide_eq_true h2)
end
structure IL (V:Nat->Nat->Int)(kvs:List (List Int×D))(J m:Nat):Prop where
 ge:∀i j,i<=j->Dn J m i j->fg kvs (tI (i,j))=some (.int (V i j))
 no:∀i j,i<=j->¬ Dn J m i j->fg kvs (tI (i,j))=none
 len:kvs.length<=J*100+m
section
variable {V:Nat->Nat->Int}{kvs:List (List Int×D)}{J m i:Nat}
theorem KD:IL V [] 0 0:=⟨λi j h d=>by unfold Dn at d;lia,λ_ _ _ _=>rfl,Yh _⟩
theorem C5 (k:IL V kvs J m)(h:i+m=J):fg kvs (tI (i,J))=none/\IL V (kvs++[(tI (i,J),.int (V i J))]) J (m+1):=by
 have hn:fg kvs (tI (i,J))=none:=k.no i J (by lia) (by unfold Dn;lia)
 refine⟨hn,λa b oP d=>?_,λa b oP d=>?_,by rw[Yg];have:=k.len;show _+1<=_;lia⟩
 ·rw[pj hn]
  by_cases e:tI (a,b)=tI (i,J)
  ·have e2:=qF e;injection e2 with e3 e4
   rw[if_pos e,e3,e4]
  ·rw[if_neg e];refine k.ge a b oP ?_;unfold Dn at d ⊢
   have:¬ (a=i/\b=J):=λz=>e (by rw[z.1,z.2])
   lia
 ·rw[pj hn,if_neg (λe=>?_)]
  ·exact k.no a b oP (by unfold Dn at d ⊢;lia)
  ·have e2:=qF e;injection e2 with e3 e4
   unfold Dn at d;lia
theorem Gq (h:J<=90)(k:IL V kvs J (J+1)):IL V kvs (J+1) 0 :=
 ⟨λi j aA d=>k.ge i j aA (by unfold Dn at d ⊢;lia),λi j aA d=>k.no i j aA (by unfold Dn at d ⊢;lia),by have:=k.len;lia⟩
theorem KG {n:Nat}(k:IL V kvs (n+1) 0):∀i j,i<=j->j<=n->fg kvs (tI (i,j))=some (.int (V i j)):=λi j h1 h2=>k.ge i j h1 (by unfold Dn;lia)
end
def uH:FD:=λds R=>∃(n:Nat) (ps:List (Nat×Nat)),ds=[.int n,sL ps]/\vq n ps/\n<=40/\R (.int (tW ps w1 n 0))
theorem uH.mono:cA uH:=λds R R' k h=>by obtain⟨n,ps,e,h1,h2,q⟩:=h;exact⟨n,ps,e,h1,h2,k _ q⟩
theorem iu {l:List Int}{m:Int}(h:ek l=some m):gz ek [.lst (l.map D.int)]=some (.int m):=nU h
theorem Ki {ks:List Int}{ps:List (List Int)}{g:Int}{p:Nat×Nat}(h:p∈tK ks ps g):p.1<p.2/\p.2<ks.length:=by
 obtain⟨a,ha,hp⟩:=List.mem_flatMap.mp h;obtain⟨k,hk,rfl⟩:=Yl.mp hp;have:=YH.mp (Ym.mp hk).1;exact⟨by show a<a+1+k;lia,by show a+1+k<_;lia⟩
theorem MG {ks:List Int}{ps:List (List Int)}{g:Int}:(tK ks ps g).Pairwise λp q=>p.1<q.1\/(p.1=q.1/\p.2<q.2):=by
 unfold tK;rw[List.pairwise_flatMap];refine⟨λa _=>?_,List.pairwise_lt_range.imp λ{a b} h x hx y hy=>?_⟩
 ·unfold gV;rw[List.pairwise_map];exact(List.pairwise_lt_range.filter _).imp λ{x y} h=>.inr ⟨rfl,by show a+1+x<a+1+y;lia⟩
 ·obtain⟨k,_,rfl⟩:=Yl.mp hx;obtain⟨k',_,rfl⟩:=Yl.mp hy;exact .inl h
theorem MH {ks:List Int}{ps:List (List Int)}{g:Int}:(tK ks ps g).Nodup:=by
 have key:=MG (ks:=ks) (ps:=ps) (g:=g);exact key.imp λ{p q} h e=>by subst e;lia
theorem Fb {n m:Nat}{ok:Nat->Nat->Bool}(h:m<=n):2*(((X7 n).take m).flatMap (gV n ok)).length+m*(m+1)<=2*(m*n):=by
 induction m with
 |zero=>simp
 |succ m ih =>
  have:=ih (by lia)
  rw[YO,ZQ,Yg,Y3 (by lia)]
  have hr:(gV n ok m).length<=n-(m+1):=by
   unfold gV;rw[XN];exact Yz (YD _ _) (by rw[Yx];exact XS _)
  have e1:((some m).toList.flatMap (gV n ok)).length=(gV n ok m).length:=by simp
  rw[e1,Nat.succ_mul m n];have e2:(m+1)*(m+1+1)=m*(m+1)+2*(m+1):=by rw[Nat.add_mul,Nat.mul_add m (m+1) 1,Nat.mul_add,Nat.mul_add];lia
  rw[e2];lia
theorem HH {ks:List Int}{ps:List (List Int)}{g:Int}(h:ks.length<=28):vq ks.length (tK ks ps g):=by
 refine⟨λp hp=>Ki hp,MH,by lia,?_⟩
 have h1:=Fb (n:=ks.length) (m:=ks.length) (ok:=tX ks ps g) (XS _);rw[vR]at h1;have h2:ks.length*ks.length<=28*ks.length:=Nat.mul_le_mul_right _ h;rw[Nat.mul_add,Nat.mul_one]at h1;lia
theorem lR {n d p:Nat}{x:Int}(hx:x=(p:Int))(h:p<=n):HT.mI n d (some x)=p:=by
 subst hx;rw[HT.lR];lia
theorem LK {ds:List D}{p:Nat}{x:Int}(hx:x=(p:Int))(h:p<=ds.length):cutD ds none (some x)=ds.take p:=by
 unfold cutD;rw[lR hx h];show (ds.drop 0).take (p-0)=_;simp
theorem LJ {ds:List D}{p:Nat}{x:Int}(hx:x=(p:Int))(h:p<=ds.length):cutD ds (some x) none=ds.drop p:=by
 unfold cutD;rw[lR hx h];show (ds.drop p).take (ds.length-p)=_;rw[Zf (by simp)]
theorem QV {ks:List Int}{p:Nat}{x:Int}(hx:x=(p:Int))(h:p<=ks.length):Qp (.lst (ks.map D.int)) none (some x)=some (.lst ((ks.take p).map D.int)):=by
 show some (D.lst (cutD _ _ _))=_;rw[LK hx (by rw[XN];exact h),List.map_take]
theorem QU {ks:List Int}{p:Nat}{x:Int}(hx:x=(p:Int))(h:p<=ks.length):Qp (.lst (ks.map D.int)) (some x) none=some (.lst ((ks.drop p).map D.int)):=by
 show some (D.lst (cutD _ _ _))=_;rw[LJ hx (by rw[XN];exact h),List.map_drop]
theorem iB {a b:List Int}(h:a.length+b.length<=1000000):Hh (.lst (a.map D.int)) (.lst (b.map D.int))=some (.lst ((a++b).map D.int)):=by
 rw[X1];exact h8 (by rw[XN,XN];exact h)
open PySem.Spec PySem.SeqAt PyProof.Rows
structure Bs4 (mg:Str->Option XO):Prop extends Bs3 mg where
 any:mg "any" = none
abbrev kI (kvs:List (Int×D)):List Key:=kvs.map λp=>.inl p.1
def dI (kvs:List (Int×D)):D:=.dK (kI kvs) (kvs.map (·.2))
def qD (kvs:List (Int×D))(k:Int):Option D:=(kvs.find? λp=>decide (p.1=k)).map (·.2)
section
variable {P:XX}{w:X6}{W:Addr->Prop}{H:Hp}
theorem tf {k:Int}:∀{kvs:List (Int×D)} {vs:List V},ag P w W H (kvs.map (·.2)) vs->(dZ ((kI kvs).zip vs) (.inl k)).isSome=(qD kvs k).isSome/\∀d,qD kvs k=some d->∃v,dZ ((kI kvs).zip vs) (.inl k)=some v/\az P w W H d v
 |[],_,h=>by cases h;exact⟨rfl,λd z=>by cases z⟩
 |p::kvs,_,⟨v,r,rfl,h1,h2⟩=>by
  obtain⟨i1,i2⟩:=tf (k:=k) (kvs:=kvs) h2;unfold dZ qD kI at *
  rw[X4,YZ,YF,YF]
  by_cases hk:p.1=k
  ·rw[decide_eq_true (show (ZO p.1:Key)=.inl k by rw[hk]),decide_eq_true hk]
   exact⟨rfl,λd' e=>by cases e;exact⟨v,rfl,h1⟩⟩
  ·rw[decide_eq_false (show ¬ (ZO p.1:Key)=.inl k from λz=>hk (by cases z;rfl)),decide_eq_false hk]
   exact⟨i1,i2⟩
theorem Kt {kvs:List (Int×D)}{vs:List V}(r:ag P w W H (kvs.map (·.2)) vs):(kI kvs).length=vs.length:=by rw[XN,r.length,XN]
end
section
end
section
end
inductive Cv:Option B->Option B->Prop
 |rfl {b:Option B}:Cv b b
 |ov {d:D}:Cv (some (.own d)) (some (.val true d))
 |os {ds:List D}:Cv (some (.own (.lst ds))) (some (.shl .one (.lst ds)))
 |sv {d:D}:Cv (some (.shl .one d)) (some (.val true d))
section
variable {P:XX}{w:X6}{C:Cfg}{σ:St}{H:Hp}{β:aL}{own:Nat->List Addr}{i:Nat}
theorem AZ {own:Nat->List Addr}{i:Nat}{R:List Addr}(h:∀c∈R,c∈own i):∀c,Wn (aC own i R) c->Wn own c:=λc fy=>by
 obtain⟨j,hj⟩:=fy
 by_cases aA:i=j
 ·rw[<- aA,os_eq]at hj;exact⟨i,h c hj⟩
 ·rw[aZ aA]at hj;exact⟨j,hj⟩
theorem bf.NO {y:Sk}{d0 d:D}{v:V}{R:List Addr}(s:bf P w C σ H β own)(e:β[i]?=some (some (.own d0)))(h1:σ[i]?=some (some v))(hR:∀c∈R,c∈own i)(nd:R.Nodup)(r:Au P w (dD C (Wn (aC own i R)) (yk true)) H y d v R):bf P w C σ H (β.set i (some (.shl y d))) (aC own i R):=by
 have sub:∀y c,dD C (Wn (aC own i R)) (yk y) c->dD C (Wn own) (yk y) c:=λy=>dB (AZ hR) _;have m:∀{j c},c∈aC own i R j->c∈own j:=λ{j c} hc=>by
  by_cases aA:i=j
  ·rw[<- aA,os_eq]at hc;rw[<- aA];exact hR c hc
  ·rw[aZ aA]at hc;exact hc
 refine⟨by simp[s.len],λj y' d' q=>?_,λj d' q=>?_,λj ok q=>?_,λj c hc=>s.dm j c (m hc),λj k c c1 c2=>s.hV j k c (m c1) (m c2),λj=>?_,s.kp,s.fj,λj y' d' q=>?_⟩
 ·by_cases aA:i=j
  ·subst aA;obtain⟨e',_⟩:=aT q;cases e'
  ·rw[aS aA]at q;obtain⟨u,g1,g2⟩:=s.val j y' d' q;exact⟨u,g1,g2.aQ (sub _)⟩
 ·by_cases aA:i=j
  ·subst aA;obtain⟨e',_⟩:=aT q;cases e'
  ·rw[aS aA]at q;rw[aZ aA];exact s.ow j d' q
 ·by_cases aA:i=j
  ·subst aA;obtain⟨e',_⟩:=aT q;cases e'
  ·rw[aS aA]at q;rw[aZ aA];exact s.jV j ok q
 ·by_cases aA:i=j
  ·rw[<- aA,os_eq];exact nd
  ·rw[aZ aA];exact s.i_ j
 ·by_cases aA:i=j
  ·subst aA;obtain⟨e',_⟩:=aT q;cases e';rw[os_eq];obtain⟨_,_,_,h5⟩:=s.ow i _ e;exact⟨v,h1,r,λc hc=>h5 c (hR c hc)⟩
  ·rw[aS aA]at q;rw[aZ aA];obtain⟨u,g1,g2,g3⟩:=s.shl j y' d' q;exact⟨u,g1,g2.map (λ_ _ _ z=>z) (λ_ _ r=>ag.aQ (sub _) r),g3⟩
theorem bf.off {d0:D}{R:List Addr}{c:Addr}(s:bf P w C σ H β own)(e:β[i]?=some (some (.own d0)))(SW:c∈own i)(na:c∉R):¬ dD C (Wn (aC own i R)) (yk true) c:=λz=>by
 rcases z with (⟨j,hj⟩|z)|z
 ·by_cases aA:i=j
  ·rw[<- aA,os_eq]at hj;exact na hj
  ·rw[aZ aA]at hj;exact aA (s.hV i j c SW hj)
 ·obtain⟨_,_,_,h5⟩:=s.ow i _ e;exact z (h5 c SW)
 ·exact(s.dm i c SW).2.2.2 z
theorem bf.shell {ds:List D}(s:bf P w C σ H β own)(e:β[i]?=some (some (.own (.lst ds)))):∃a,bf P w C σ H (β.set i (some (.shl .one (.lst ds)))) (aC own i [a])/\∀c,Wn (aC own i [a]) c->Wn own c:=by
 obtain⟨v,h1,⟨a,vs,A',rfl,h2,h3,h4⟩,h5⟩:=s.ow i _ e;have nd:=s.i_ i;rw[h3]at nd;have hR:∀c∈[a],c∈own i:=λc hc=>by rw[h3,XW.mp hc];simp
 refine⟨a,s.NO e h1 hR (by simp) ⟨a,.lst vs,vs,rfl,rfl,h2,rfl,h4.rep λc hc=>s.off e (by rw[h3];simp[hc]) λz=>?_⟩,AZ hR⟩
 exact(Yj.mp nd).1 (by rw[<- XW.mp z];exact hc)
theorem JT {X:Cx}{C:Cfg}{a:List Stmt}{ψ:yI}(i:Nat)(h:si X C a ψ):si X C a (λE β=>∃b b',β[i]?=some b/\Cv b b'/\ap ψ E (β.set i b')) :=
 ⟨λE E' β l q=>by obtain⟨b,b',e,c,q⟩:=q;exact⟨b,b',e,c,h.mono E E' _ l q⟩,h.ps.pre λD σ H z=>by
  obtain⟨Z,E,β,⟨own,s,n⟩,⟨b,b',e,c,q⟩,ok⟩:=z;cases c with
  |rfl =>
   have:β.set i b=β:=by
    apply Z6;intro j;rw[Zz]
    by_cases aA:i=j
    ·subst aA;rw[if_pos rfl,e,if_pos (X0.mp e).1]
    ·rw[if_neg aA]
   rw[this]at q;exact⟨Z,E,_,⟨own,s,n⟩,q,ok⟩
  |ov=>exact⟨Z,E,_,⟨_,s.freeze e,iZ n⟩,q,ok⟩
  |sv=>exact⟨Z,E,_,⟨_,s.GV e,iZ n⟩,q,ok⟩
  |os =>
   obtain⟨a,s2,le⟩:=s.shell e;exact⟨Z,E,_,⟨_,s2,f9 n le⟩,q,ok⟩⟩
end
section
end
section
theorem LR:YG "abs" = some (.builtin "abs"):=by decide +kernel
end
def tw (kvs:List (Int×D))(t:Int)(d:D):List (Int×D):=if (kvs.any λp=>decide (p.1=t))=true then kvs.map (λp=>if p.1=t then (p.1,d) else p) else kvs++[(t,d)]
section
variable {kvs:List (Int×D)}{t:Int}
theorem A8:(kvs.any λp=>decide (p.1=t))=(qD kvs t).isSome:=by
 unfold qD;rw[Option.isSome_map]
 induction kvs with
 |nil=>rfl
 |cons p kvs ih =>
  rw[aay,YF]
  by_cases h:p.1=t
  ·rw[decide_eq_true h];rfl
  ·rw[decide_eq_false h];exact ih
end
section
variable {P:XX}{w:X6}{W:Addr->Prop}{H:Hp}
theorem xb {t:Int}:∀{kvs:List (Int×D)} {vs:List V},(kI kvs).length=vs.length->(((kI kvs).zip vs).any λkv=>decide (kv.1=.inl t))=kvs.any λp=>decide (p.1=t)
 |[],_,_=>rfl
 |p::kvs,[],l=>by cases l
 |p::kvs,v::vs,l=>by
  unfold kI at l ⊢
  rw[X4,YZ,aay,aay];have:=xb (t:=t) (kvs:=kvs) (vs:=vs) (aap l);unfold kI at this;rw[this]
  by_cases h:p.1=t
  ·rw[decide_eq_true h,decide_eq_true (show (ZO p.1:Key)=.inl t by rw[h])]
  ·rw[decide_eq_false h,decide_eq_false (show ¬ (ZO p.1:Key)=.inl t from λz=>h (by cases z;rfl))]
theorem xa {t:Int}{d:D}{v:V}(hv:az P w W H d v):∀{kvs:List (Int×D)} {vs:List V},ag P w W H (kvs.map (·.2)) vs->∃vs',((kI kvs).zip vs).map (λkv=>if kv.1=.inl t then (kv.1,v) else kv)=(kI (kvs.map λp=>if p.1=t then (p.1,d) else p)).zip vs'/\ag P w W H ((kvs.map λp=>if p.1=t then (p.1,d) else p).map (·.2)) vs'
 |[],_,h=>by cases h;exact⟨[],rfl,rfl⟩
 |p::kvs,_,⟨u,r,rfl,h1,h2⟩=>by
  obtain⟨vs',e,r'⟩:=xa hv h2;unfold kI at e ⊢
  by_cases h:p.1=t
  ·refine⟨v::vs',?_,?_⟩
   ·rw[X4,YZ,X4,if_pos (show (ZO p.1:Key)=.inl t by rw[h]),X4,if_pos h,X4,YZ,e]
   ·rw[X4,if_pos h,X4];exact⟨v,vs',rfl,hv,r'⟩
  ·refine⟨u::vs',?_,?_⟩
   ·rw[X4,YZ,X4,if_neg (show ¬ (ZO p.1:Key)=.inl t from λz=>h (by cases z;rfl)),X4,if_neg h,X4,YZ,e]
   ·rw[X4,if_neg h,X4];exact⟨u,vs',rfl,h1,r'⟩
theorem Fn {t:Int}{d:D}{v:V}{kvs:List (Int×D)}{vs:List V}(hv:az P w W H d v)(r:ag P w W H (kvs.map (·.2)) vs):∃vs',putK ((kI kvs).zip vs) (.inl t) v=(kI (tw kvs t d)).zip vs'/\ag P w W H ((tw kvs t d).map (·.2)) vs':=by
 unfold putK tw;rw[xb (Kt r)]
 by_cases h:(kvs.any λp=>decide (p.1=t))=true
 ·rw[if_pos h,if_pos h];exact xa hv r
 ·rw[if_neg h,if_neg h];refine⟨vs++[v],?_,by rw[X1];exact ag.snoc hv r⟩
  have l:=Kt r;unfold kI at l ⊢
  rw[X1,List.zip_append l];rfl
end
section
theorem mS {P:XX}{w:X6}:∀{es:List DictEntry} {vs:List (Key×XO)} {ts:List Int},PySem.Pairs (aX P w) es vs->vs.map (·.1)=ts.map ZO->aaq (es.map (·.key)) ts
 |_,_,[],.nil,_=>.nil
 |_,_,_::_,.nil,e=>by cases e
 |_,_,[],.cons _ _ _,e=>by cases e
 |_,_,t::ts,.cons h1 h2 h3,e=>by
  injection e with e1 e2
  rcases bc h1 with⟨i,tk,q1,q2⟩|⟨x,tk,q1,q2⟩
  ·rw[X4,q2];have e1:=q1.symm.trans e1;cases e1;exact .cons _ _ (mS h3 e2)
  ·have e1:=q1.symm.trans e1;cases e1
theorem KA {κ:Type}{kvs:List (κ×V)}{vs:List (κ×XO)}(h:Paired (λ(p:κ×V) (q:κ×XO)=>p.1=q.1/\RelV p.2 q.2) kvs vs):vs.map (·.1)=kvs.map (·.1):=by
 induction h with
 |nil=>rfl
 |cons h _ ih=>rw[X4,X4,ih,h.1]
end
section
variable {X:Cx}{C:Cfg}{k e:Expr}{φ φk:aB}{i:Nat}{x:Str}{pos pos' px pc:Pos}{p pk:Bool}
theorem B8 (hu:X.A.units+1<Z7)(he:∀U,PQ X (C.u U) p e φ)(hk:∀U,PQ X (C.u U) pk k φk)(hn:Nm X i x:=by exact vY)
  (hs:Zj e (some (.Subscript (.Name x px) k pos')) pos.line X.env=pure false:=by rfl) :
  PB X C (.Assign [.Subscript (.Name x px) k pos'] e pos) (λE β=>φ β λd kd β1=>(UD kd d/\kd≠.bor)/\(∃kvs,β1[i]?=some (some (.shl .one (dI kvs))))/\φk β1 λjd _ β2=>∃kvs t,jd=.int t/\β2[i]?=some (some (.shl .one (dI kvs)))/\kvs.length<X3/\E.nx (β2.set i (some (.shl .one (dI (tw kvs t d)))))):=by
 refine⟨λE E' β l q=>(he λ_=>False).mono _ _ _ (λd kd β1 h=>by obtain⟨f,h0,q⟩:=h;exact⟨f,h0,(hk λ_=>False).mono _ _ _ (λjd _ β2 h=>by obtain⟨kvs,t,h1,h2,h4,q⟩:=h;exact⟨kvs,t,h1,h2,h4,l.nx _ q⟩) q⟩) q,λpins s σ H De I fJ=>?_⟩
 obtain⟨Z,E,β,⟨own,sq,n⟩,q,ok⟩:=fJ;refine qT hu (eR (pos:=px) hn) (hk λa=>H a=none).pe (he λa=>H a=none).pe hs pins s σ H De I ?_;refine tQ.of (he λa=>H a=none) (sq.iP (C:=C.z) (U:=λa=>H a=none) λa z=>z) q λd kd β1 v H1 au iG o r=>?_;obtain⟨⟨f,nb⟩,⟨RI,AH⟩,q⟩:=iG;obtain⟨a0,_,_,vj,_⟩:=o.sq.sG AH;refine⟨_,vj,tQ.of (hk λa=>H a=none) o.sq q λjd kj β2 jv H2 aU oK o2 r2=>?_⟩;obtain⟨kvs,t,e1,hb,hl,q⟩:=oK;subst e1;have rv:=(KV.held (Z:=(H,Wn own)) nb r o2.sn).yg f;obtain⟨a,o1,vs,g1,g2,g3,g4,g5,_,_⟩:=o2.sq.sG hb;rw[vj]at g1;cases g1;obtain⟨rfl,l⟩:=g4;cases (show jv=.int t from r2.rep)
 refine⟨a0,_,rfl,.inl ⟨_,.inl t,g3,rfl,by rw[List.length_zip,<- l,Nat.min_self,XN];exact hl,rfl⟩,?_⟩
 have wa:av (C.u λa=>H a=none) (Wn aU) .dY a0:=.inl ⟨i,by rw[g2];simp⟩
 have kp:Kp (av (C.u λa=>H a=none) (Wn aU) .dY) H2 (upd H2 a0 (.dK (putK ((kI kvs).zip vs) (.inl t) v))):=KC g3 (λxs z=>by cases z) wa
 obtain⟨vs',ev,Um⟩:=Fn (t:=t) (rv.keep kp) ((ag.aQ (λc z=>.inl z) g5).keep kp);obtain⟨s2,hA,hw,GG⟩:=o2.sq.Rq (d':=dI (tw kvs t d)) (o:=.dK (putK ((kI kvs).zip vs) (.inl t) v)) (vs':=vs') hb vj ⟨by rw[ev],Kt Um⟩ Um
 exact ok.nx _ _ _ ⟨_,s2,iX (C:=C) ((n.trans o.sn).trans o2.sn) (λb z=>n.free z) hw GG hA⟩ q
theorem B9 (hN:X.N.Nodup)(hi:X.N[i]?=some x:=by rfl)(hx:Loc X.env.scope x:=by first|exact .inl rfl|exact .inr rfl)
  (hs:Zj (.Dict [] [] pc) (some (.Name x pos')) pos.line X.env=pure false:=by rfl) (hf:X.fn x=true\/X.env.scope.names.lookup x=some .local:=by first|exact .inl rfl|exact .inr rfl|assumption) :
  PB X C (.Assign [.Name x pos'] (.Dict [] [] pc) pos) (λE β=>i<β.length/\E.nx (β.set i (some (.shl .one (dI []))))) :=
 ⟨λE E' β l h=>⟨h.1,l.nx _ h.2⟩,λpins s σ H D I rG=>by
  obtain⟨Z,E,β,⟨own,sq,n⟩,⟨Md,q⟩,ok⟩:=rG;refine i7 hN hi hx B0 hs hf pins s σ H D I λa ha=>?_;have h0:C.H0 a=none:=Yi λz=>sq.fj a z ha;have nw:¬ Wn own a:=λz=>sq.r9 a z ha;have s1:=(sq.iP (C:=C.z) (U:=λc=>c=a) λc z=>by rw[z];exact ha).same (ar.new (o:=.dK []) ha)
  have s2:=s1.mC (i:=i) (rd (d:=dI []) (vs:=[]) (W:=λ_=>False) (H':=H) (by rfl) ⟨rfl,rfl⟩ ai) (by simp) λc hc=>⟨by rw[XW.mp hc];exact h0,by rw[XW.mp hc];exact nw,XW.mp hc⟩
  have s3:=s2.toShl (d:=dI []) (y:=.one) (get_set Md) (get_set (by rw[<- sq.len];exact Md)) ⟨a,.dK [],[],rfl,by rw[os_eq],ai,⟨rfl,rfl⟩,rfl⟩
  rw[ZY]at s3;refine ok.nx _ _ _ ⟨_,s3,?_⟩ q;have m:=n.same (ar.new (o:=.dK []) ha);exact⟨λb uo=>by
   obtain⟨j,hj⟩:=uo
   by_cases aA:i=j
   ·rw[<- aA,os_eq]at hj;rw[XW.mp hj];exact .inr (n.free ha)
   ·rw[aZ aA]at hj;exact m.w b ⟨j,hj⟩,m.k,m.d⟩⟩
end
end L2.Q
namespace L2
open PySem PySem.Spec PySem.SeqAt PyProof.Rows
section
variable {X:Cx}
theorem zy:jt X newDict (.dK []) :=
 ⟨λpins s σ H Q E I h=>Y8 (h _ _ (XS _) I.fresh (λb o e=>XR _ e) (I.laid (t':=s.toks) (λ_ _ q=>XR _ q) (XS _) (uQ _ I.big)))⟩
theorem Ca {k v:Expr}{tk tv:TE}{a:Addr}(hx:X.xe=λ_ _=>False)(hu:X.A.units<Z7)(hk:PE X k tk)(hv:PE X v tv):
  ki X (gD (uM k v (.ref a) X.env)) (λN σ H=>tk σ H λy H1=>tv σ H1 λv H2=>∃kvs t,H2 a=some (.dK kvs)/\y=.int t/\kvs.length<X3/\N σ (upd H2 a (.dK (putK kvs (.inl t) v)))):=by
 intro pins s σ H N kk Q E I h hN;unfold gD uM;refine XM (XM (bu (cV hx (hk pins s σ H _ I h)) λu s1 fJ=>?_));obtain⟨y,H1,I1,r1,q⟩:=fJ;refine XM (YU (bu (cV hx (hv pins s1 σ H1 _ I1 q)) λw' s2 iG=>?_));obtain⟨v,H2,I2,r2,kvs,t,e,ey,l,q2⟩:=iG;subst ey;refine XM (Zw (YU ?_));obtain⟨z,hd,xs,rel,dd⟩:=uP I2.a5 e;have hz:xs.length<=X3:=by rw[<- rel.length];exact z
 have hl:(putK kvs (.inl t) v).length<=X3:=by have:=fv kvs (.inl t) v;lia
 refine wpAny_dictSet_pairs (hsz:=hz) (knd:=aX X.prog X.w) (ue (k:=.inl t) r1) dd λh' Hc hs=>hN σ _ _ ?_ q2;have he:∃q,h'.get? a=some q:=let ⟨q,_,_,hq,_⟩:=Hc;⟨q,hq⟩
 exact l_ I2 (by rw[e];exact Zk) hs he (D_ hl hd (rel.put (.inl t) r2) Hc)
end
end L2
namespace L2.Q
open PySem PySem.Spec PySem.SeqAt PyProof.Rows
theorem JX {P:XX}{w:X6}{H:Hp}{kvs:List (Int×D)}{a:Addr}{vs:List V}{A:List Addr}(h:H a=some (.dK ((kI kvs).zip vs)))(o:aE P w H (kvs.map (·.2)) vs A):Own P w H (dI kvs) (.ref a) (a::A):=⟨a,vs,A,rfl,h,by unfold kI;rw[XN,o.length,XN],rfl,o⟩
theorem IY {P:XX}{w:X6}{H:Hp}{kvs:List (Int×D)}{t:Int}{vs:List V}{A:List Addr}(o:aE P w H (kvs.map (·.2)) vs A)(hn:qD kvs t=none):dZ ((kI kvs).zip vs) (.inl t)=none:=by
 have:=(tf (k:=t) (kvs:=kvs) (o.rep (W:=λ_=>False) λ_ _ z=>z)).1;rw[hn]at this;exact aaM.mp (by rw[<- Option.not_isSome,this];rfl)
def T9 (P:XX)(w:X6)(a:Addr)(o:List (Int×D))(H:Hp):Prop:=∃vs,H a=some (.dK ((kI o).zip vs))/\aE P w H (o.map (·.2)) vs []
theorem EA {P:XX}{w:X6}{a:Addr}:vf a (T9 P w a):=⟨λo H H' s h=>by
  obtain⟨vs,h1,h2⟩:=h;exact⟨vs,s _ _ h1,h2.keep (λb xs e=>s _ _ e) λc hc=>(nomatch hc)⟩,λo H xs h z=>by
  obtain⟨vs,h1,_⟩:=h;rw[h1]at z;cases z⟩
abbrev Uh (X:Cx)(C:Cfg)(a:Addr)(φk φ:aB):iN:=λN σ H=>tQ X (C.u λc=>c=a) true φk σ H λy H1=>tQ X (C.u λc=>c=a) true φ σ H1 λv H2=>∃kvs t,H2 a=some (.dK kvs)/\y=.int t/\kvs.length<X3/\N σ (upd H2 a (.dK (putK kvs (.inl t) v)))
def DW (φk φ:aB)(o:List (Int×D))(β:aL)(N:aL->List (Int×D)->Prop):Prop:=φk β λkd _ β2=>φ β2 λx _ β3=>∃t,kd=.int t/\x.flat=true/\qD o t=none/\o.length<X3/\N β3 (o++[(t,x)])
section
variable {X:Cx}{C:Cfg}{W0:Addr->Prop}{T:List Nat}{σ0:St}{H1:Hp}{a:Addr}{Hb:Hp}{Wb:Addr->Prop}{φ φk:aB}
theorem Bo (h0:C.H0 a=none)(ha:H1 a=none)(vt:∀β R R',(∀d k β,R d k β->R' d k β)->φk β R->φk β R')(φm:∀β R R',(∀d k β,R d k β->R' d k β)->φ β R->φ β R'){β:aL}{o:List (Int×D)}{σ:St}{H:Hp}{N:aL->List (Int×D)->Prop}(s:o7 X C W0 T σ0 H1 a Hb Wb (T9 X.prog X.w a) β o σ H)(q:DW φk φ o β N):
  Uh X C a φk φ (λσ' H'=>∃β' o',o7 X C W0 T σ0 H1 a Hb Wb (T9 X.prog X.w a) β' o' σ' H'/\N β' o') σ H:=by
 obtain⟨own,s⟩:=s;refine⟨β,own,s.sq,vt _ _ _ (λkd kk β5 q v5 H5 iE o5 r5=>?_) q⟩;obtain⟨MO,rfl⟩:=o5.pu rfl;refine⟨β5,_,o5.sq,φm _ _ _ (λxd kx β6 oK v H6 tU o6 r6=>?_) q⟩;obtain⟨t,e1,f,hn,hz,q2⟩:=oK;obtain⟨sm,rfl⟩:=o6.pu rfl;have s6:=s.next EA o6.sq (λ_ z=>z) (MO.trans sm) (λ_ _=>rfl)
 subst e1;cases (show v5=.int t from r5.rep)
 obtain⟨vs,at',os⟩:=s6.ac;have Rc:Own X.prog X.w H6 xd v []:=cU f r6.rep;have l:(kI o).length=vs.length:=by unfold kI;rw[XN,os.length,XN]
 have oM:putK ((kI o).zip vs) (.inl t) v=(kI (o++[(t,xd)])).zip (vs++[v]):=by
  have hv:=IY os hn;unfold kI at l hv ⊢
  rw[mM v hv,X1,List.zip_append l];rfl
 have kt:∀c xs,H6 c=some (.tup xs)->upd H6 a (.dK (putK ((kI o).zip vs) (.inl t) v)) c=some (.tup xs):=λc xs z=>by rw[ao (λz'=>by rw[z',at']at z;cases z)];exact z
 refine⟨_,t,at',rfl,by rw[List.length_zip,<- l,Nat.min_self];unfold kI;rw[XN];exact hz,β6,o++[(t,xd)],⟨_,s6.put h0 ha at' (λxs z=>by cases z) ⟨vs++[v],by rw[ai,oM],?_⟩⟩,q2⟩
 rw[X1];exact(os.keep kt (A:=[]) λc hc=>by cases hc).append (aE.one (Rc.keep kt (A:=[]) λc hc=>by cases hc))
end
def JD (lk:List (Option Nat))(ι:bz)(γ:bW)(τ:aN)(φk φ:aB):aB:=λβ R=>ι β λds k β1=>hold k false/\gG γ τ (DW φk φ) ds k (b5 lk β1) [] λβf o=>dN (b5 lk β1) βf/\R (dI o) .own β1
section
variable {X:Cx}{C:Cfg}{lk:List (Option Nat)}{γ:bW}{τ:aN}{φ φk:aB}{T:List Nat}
variable {scope:ZE}{tg br ke elt:Expr}{ifs:List Expr}{ι:bz}{pi:Bool}{pos:Pos}{i:Nat}
theorem WT (hu:X.A.units<Z7)(N':List Str)(lk:List (Option Nat))(L:eY X.env.scope.names X.N scope N' lk=true)(ji:N'.Nodup)(hc:X.calm=true)(hi:o8 X C pi tg br ι)
  (g9:∀a cl c s H ex,o9 (aq X scope N' cl c s H ex) (C.u λc=>c=a) tg T γ) (gI:∀a cl c s H ex,js (aq X scope N' cl c s H ex) (C.u λc=>c=a) true ifs τ)
  (OV:∀a cl c s H ex,PQ (aq X scope N' cl c s H ex) (C.u λc=>c=a) true ke φk) (dJ:∀a cl c s H ex,PQ (aq X scope N' cl c s H ex) (C.u λc=>c=a) true elt φ) (hT:T.all (λi=>match lk[i]? with|some (some _)=>false|_=>true)=true:=by rfl)
  (hs:∀x,Yp br X.env x=pure x:=by intro _;rfl):PQ X C pi (.DictComp ke elt [⟨tg,br,ifs,0⟩] scope pos) (JD lk ι γ τ φk φ):=by
 have L:=Links.of L;have uw:∀i∈T,∀j,lk[i]?≠some (some j):=λi hi j e=>by
  have:=Zg.mp hT i hi;rw[e]at this;cases this
 have γm:=(g9 0 [] 0 X.s₀ X.H₀ []).mono;have τm:=(gI 0 [] 0 X.s₀ X.H₀ []).mono;have φm:=(dJ 0 [] 0 X.s₀ X.H₀ []).mono;have vt:=(OV 0 [] 0 X.s₀ X.H₀ []).mono;refine⟨λβ R R' k h=>hi.mono β _ _ (λds kd β1 q=>⟨q.1,q.2.mono λ_ _ z=>⟨z.1,k _ _ _ z.2⟩⟩) h,?_⟩;refine(gY (g:=⟨tg,br,ifs,0⟩) (gs:=[]) (tg:=λa=>Ay X C a T γ) (tt:=λa=>ib X (C.u λc=>c=a) true τ) (ta:=λa=>Uh X C a φk φ)
  L hc zy rfl rfl (λ_ _=>IE) hi.pi (λa cl c s H ex=>⟨(g9 a cl c s H ex).pg,(gI a cl c s H ex).pt,Ca (X:=aq X scope N' cl c s H ex) rfl hu (OV a cl c s H ex).pe (dJ a cl c s H ex).pe⟩) hs).pre λσ H Q h=>?_
 obtain⟨β,own,s,h⟩:=h;refine⟨β,own,s,hi.mono β _ _ (λds k β1 h J H1 au o1 it a ha=>?_) h⟩;obtain⟨hk,q⟩:=h;refine fR (T:=T) (EA (P:=X.prog) (w:=X.w)) γm τm (λj hj=>hj) (bw L ji) uw o1.sq ha hk it ⟨[],ai,(show aE _ _ _ [] [] [] from ⟨rfl,rfl⟩)⟩ (o1.sq.wH (λxs z=>by cases z) ha (bw L ji))
  (λHb Wb βx ox σx Hx Nx h0 sx qx=>Bo h0 ha vt φm sx qx) q λo H' q o2 r=>?_
 refine q _ _ au ⟨o2.sq,o1.sn.trans o2.sn,λz=>⟨(o1.pu z).1.trans (o2.pu rfl).1,(o1.pu z).2⟩,o1.le⟩ ?_;obtain⟨vs,at',os⟩:=r;refine⟨[a],JX at' os,by simp,λc hc=>?_⟩
 rw[XW.mp hc];exact⟨Yi λz=>o1.sn.d a z ha,λh=>by obtain⟨j,hj⟩:=h;exact(o1.sq.dm j a hj).1 ha,Yi λz=>o1.sq.fj a z ha⟩
end
end L2.Q
namespace SI
open PySem PyProof.Rows ST
section
variable {prog:XX}{w:X6}{A:YX}{E:XO->XQ->Prop}{s:XQ}
variable {a b:Addr}{o o2:Obj}{ts mr:List (Int×Tok)}{es qc:Array (Int×XO)}{ep Mh:Nat}{t t2:SetTable}
theorem yM (ho:s.heap.get? a=some o)(S:iO w o ts es ep t){l:List Addr}{f:Option Addr}{Q:Array (Int×XO)->XQ->Prop}(q:Q (bx w a ep es) s):Ye (model prog w) A (setWalkUnseen a l f) Q E s:=by
 unfold setWalkUnseen;refine XM (Zc ho S.dat S.fits ?_);dsimp only;refine XM (eD ?_);have hc:(uY w || (t.led&&t.plain) || decide (es.size<=1))=true:=by
  rw[S.zj,S.led];show (uY w || (!uY w&&true) || decide (es.size<=1))=true
  cases uY w <;> rfl
 rw[if_pos hc];unfold setWalk;refine XM (Zc ho S.dat S.fits ?_);dsimp only;refine XM (eD ?_);cases hb:uY w with
 |true =>
  rw[if_pos rfl];refine XM (aat (XT ?_));have e:bx w a ep es=pickOrder (w.params.setOrder a ep) es:=by unfold bx;rw[hb,if_pos rfl]
  rw[e]at q;exact q
 |false =>
  rw[if_neg (by simp)]
  have e:bx w a ep es=es:=by unfold bx;rw[hb,if_neg (by simp)]
  have hd:(!t.plain&&decide (es.size>1))=false:=by rw[S.zj];rfl
  show Ye _ _ (if (!t.plain&&decide (es.size>1))=true then _ else _) _ _ _
  rw[hd,if_neg (by simp)]
  have hl:t.led=true:=by
   rw[S.led];show (!uY w)=true;rw[hb];rfl
  refine XM ?_;show Ye _ _ (if (!t.led&&decide (es.size>1))=true then _ else _) _ _ _
  rw[hl,if_neg (by simp)]
  refine XT (XT ?_);rw[<- e];exact q
theorem vx (ho:s.heap.get? a=some o)(S:iO w o ts es ep t){m:Nat}(hm:ts.length+m<=200){Q:Unit->XQ->Prop}
  (q:∀(h':Heap) (o':Obj) (b7:List (Int×Tok)) (dC:Array (Int×XO)) (jw:Nat) (t':SetTable),Zh a s.heap h'->h'.get? a=some o'->iO w o' b7 dC jw t'->b7.Perm ts->(ts.length+m)*5<t'.mask*3->Q () {s with heap:=h'}) :
  Ye (model prog w) A (setRoomFor a m) Q E s:=by
 have hz:=S.size;unfold setRoomFor;refine XM (Zc ho S.dat S.fits ?_);dsimp only;have hr:t.roomFor m=if (ts.length+m)*5 >= t.mask*3 then some ((ts.length+m)*2) else none:=by
  unfold SetTable.roomFor SetTable.fill;rw[S.wf.G_,hz.2];rfl
 rw[hr]
 by_cases hc:(ts.length+m)*5 >= t.mask*3
 ·rw[if_pos hc];dsimp only;unfold setRelay;refine XM (Zc ho S.dat S.fits ?_);dsimp only;obtain⟨j,order,t',b7,ja,jc,er,e6,dJ,fz,hW,N5,Sv,e3,e4,e8⟩:=pD (t:=t) (hk:=λx:Int×Tok=>Y2 x.1) (λ_=>rfl) (0,0) (m:=(ts.length+m)*2) S.AJ (by lia) (by lia)
  rw[ja,if_neg (by rw[Y1];lia)]
  rw[er];have hsz:(order.filterMap (es[·]?)).size=es.size:=by
   rw[<- Yc,dJ,XN,fz.length_eq,hz.1]
  refine XM ?_;show Ye _ _ (if (order.filterMap (es[·]?)).size != es.size then _ else _) _ _ _
  rw[hsz,if_neg (by simp)]
  refine XT ?_;dsimp only;exact aan ho S.dat (q _ _ b7 _ _ t' (Zs _ _ _) (jW ho S.dat _ _) ⟨S.ex,rfl,dJ,hW,N5.1,Sv,e3.trans S.led,e4.trans S.zj,((fz.map (·.1)).nodup_iff).mpr S.AE⟩ fz (by lia)) (by rw[hsz,hz.1,Y1];lia)
 ·rw[if_neg hc];exact XT (q s.heap o ts es ep t (Heap.SameBut.refl _ _) ho S (.refl _) (by lia))
theorem sr (ho:s.heap.get? a=some o)(S:iO w o ts es ep t)(Dv:s.heap.get? b=some o2)(S2:iO w o2 mr qc Mh t2)(oP:a≠b)(hf:uD ((ts++mr).map (·.1))){each:Sem Unit}
  (Wy:∀(s':XQ) (Q:Unit->XQ->Prop),s'.heap.get? b=some o2->Q () s'->Ye (model prog w) A each Q E s') {Q:Unit->XQ->Prop}
  (q:∀(h':Heap) (tk:Nat) (o':Obj) (b7:List (Int×Tok)) (dC:Array (Int×XO)) (jw:Nat) (t':SetTable),s.toks<=tk->Zh a s.heap h'->h'.get? a=some o'->iO w o' b7 dC jw t'->(∀x,x∈b7.map (·.1)↔x∈ts.map (·.1)\/x∈mr.map (·.1))->Q () {s with heap:=h',toks:=tk}) :
  Ye (model prog w) A (setMerge a b each) Q E s:=by
 have Qe:=S2.size;have l1:ts.length<60:=by
  have:=hf (ts.map (·.1)) S.AE λx hx=>by rw[X1];exact Yq _ hx
  rwa [XN]at this
 have l2:mr.length<60:=by
  have:=hf (mr.map (·.1)) S2.AE λx hx=>by rw[X1];exact Yn _ hx
  rwa [XN]at this
 unfold setMerge;rw[if_neg (by simpa using oP)]
 refine XM (Zc Dv S2.dat S2.fits ?_);dsimp only
 by_cases SR:qc.isEmpty=true
 ·rw[if_pos SR];have:mr=[]:=aam.mp (by rw[<- Qe.1];simpa using SR)
  exact XT (q s.heap _ o ts es ep t (XS _) (Heap.SameBut.refl _ _) ho S λx=>by rw[this];simp)
 ·rw[if_neg SR];refine XM (vx ho S (m:=qc.size) (by lia) λh1 o1 yP z9 Mi t1 EJ EO S1 p1 Xw=>?_)
  have V8:=S1.size;have SA:=p1.length_eq;have Du:h1.get? b=some o2:=by rw[EJ.2 b (YW oP)];exact Dv
  refine XM (Zc (s:={s with heap:=h1}) EO S1.dat S1.fits ?_)
  dsimp only;have UJ:t1.road t2=if yP.length != 0 then .oneByOne else if t1.mask==t2.mask then .slotForSlot else .clean:=by
   unfold SetTable.road SetTable.fill;rw[S1.wf.G_,S2.wf.G_,V8.2];simp
  rw[UJ]
  by_cases h0:yP.length=0
  ·rw[if_neg (by simpa using h0)]
   have We:yP=[]:=aam.mp h0;have gI:ts=[]:=aam.mp (by lia)
   by_cases UN:t1.mask=t2.mask
   ·rw[if_pos (by simpa using UN)]
    dsimp only;refine aan (s:={s with heap:=h1}) EO S1.dat (q _ _ _ mr qc _ _ (XS _) (EJ.trans (Zs _ _ _)) (jW EO S1.dat _ _) ⟨S1.ex,rfl,S2.AJ,⟨S2.wf.1,S2.wf.2,S2.wf.3,S2.wf.4,S2.wf.5,S2.wf.6,S2.wf.7⟩,S2.P4,S2.Gh,?_,?_,S2.AE⟩ λx=>by rw[gI];simp) (by rw[Qe.1,Y1];lia)
    ·show (t1.led&&t2.led)=_;rw[S1.led,S2.led,Bool.and_self]
    ·show (t1.plain&&t2.plain)=true;rw[S1.zj,S2.zj];rfl
   ·rw[if_neg (by simpa using UN)]
    dsimp only;obtain⟨j,j3,je⟩:=S1.wf.Gh;obtain⟨order,t',b7,e1,e6,dJ,fz,e7,e2,e3,e4,e8⟩:=CU (hk:=λx:Int×Tok=>Y2 x.1) (λ_=>rfl) (0,0) S2.AJ j3 (by lia) t1.finger t1.moves (t1.led&&t2.led) (t1.plain&&t2.plain)
    rw[<- je]at e1;rw[e1];have hsz:(order.filterMap (qc[·]?)).size=qc.size:=by
     rw[<- Yc,dJ,XN,fz.length_eq,Qe.1]
    refine XM ?_;show Ye _ _ (if (order.filterMap (qc[·]?)).size != qc.size then _ else _) _ _ _
    rw[hsz,if_neg (by simp)]
    refine XT ?_;dsimp only;refine aan (s:={s with heap:=h1}) EO S1.dat (q _ _ _ b7 _ _ t' (XS _) (EJ.trans (Zs _ _ _)) (jW EO S1.dat _ _) ⟨S1.ex,rfl,dJ,e7,by lia,by have:=S1.Gh;lia,?_,?_,((fz.map (·.1)).nodup_iff).mpr S2.AE⟩ λx=>by rw[gI,(fz.map (·.1)).mem_iff];simp) (by rw[hsz,Qe.1,Y1];lia)
    ·rw[e3,S1.led,S2.led,Bool.and_self]
    ·rw[e4,S1.zj,S2.zj];rfl
  ·rw[if_pos (by simpa using h0)]
   dsimp only;refine XM (yM (s:={s with heap:=h1}) Du S2 ?_)
   have hw:=fO w b Mh qc;rw[S2.AJ]at hw;obtain⟨us,u1,u2⟩:=jG hw;rw[<- Array.forIn_toList,u2];refine XM (wpAny_forIn_list _ (λrest r s'=>∃(h':Heap) (tk:Nat) (o':Obj) (b7:List (Int×Tok)) (dC:Array (Int×XO)) (jw:Nat) (t':SetTable) (vs:List (Int×Tok)),s'={s with heap:=h',toks:=tk}/\rest=vs.map rP/\(∀x∈vs,x∈us)/\s.toks<=tk/\Zh a s.heap h'/\h'.get? a=some o'/\iO w o' b7 dC jw t'/\(∀x∈b7,x.1∈(ts++mr).map (·.1))/\(∀x,x∈b7.map (·.1)\/x∈vs.map (·.1)↔x∈ts.map (·.1)\/x∈us.map (·.1))) _ ?_ ?_ _ _ ?_)
   ·rintro v rest r s' ⟨h',tk,o',b7,dC,jw,t',vs,rfl,hv,RY,K0,sb,rZ,S',k1,k2⟩;cases vs with
    |nil=>cases hv
    |cons x vs =>
     rw[X4]at hv;obtain⟨rfl,rfl⟩:=List.cons.inj hv;have lt:b7.length<60:=by
      have:=hf (b7.map (·.1)) S'.AE λy hy=>by
       obtain⟨z,hz,rfl⟩:=Yl.mp hy;exact k1 z hz
      rwa [XN]at this
     dsimp only;refine XM (YU (qw (s:={s with heap:=h',toks:=tk}) rZ S' lt λh2 VS Jb Th Ti Vr ad Ue r0 r1 r2 r3 r4 r5=>?_))
     have O3:h2.get? b=some o2:=by rw[r1.2 b (YW oP),sb.2 b (YW oP)];exact Dv
     refine XM (Wy _ _ O3 ?_);refine XM (Zc (s:={s with heap:=h2,toks:=Ue}) O3 S2.dat S2.fits ?_)
     dsimp only;rw[if_neg (by simp)]
     have V_:x.1∈(ts++mr).map (·.1):=by rw[X1];exact Yn _ (ZP (u1.mem_iff.mp (RY x Yr)))
     have hm:(∀y∈Jb,y.1∈(ts++mr).map (·.1))/\∀y,y∈Jb.map (·.1)↔y∈b7.map (·.1)\/y=x.1:=by
      by_cases lK:∃y∈b7,y.1=x.1
      ·rw[r4 lK];refine⟨k1,λy=>⟨.inl,λz=>z.elim id λz=>?_⟩⟩;obtain⟨u,hu,e⟩:=lK;rw[z,<- e];exact ZP hu
      ·have pm:=r5 λy hy e=>lK ⟨y,hy,e⟩;refine⟨λy hy=>?_,λy=>?_⟩
       ·rcases XU.mp (pm.mem_iff.mp hy)with rfl|z
        ·exact V_
        ·exact k1 y z
       ·rw[(pm.map (·.1)).mem_iff,X4,XU];exact Or.comm
     refine XT ⟨h2,Ue,VS,Jb,Th,Ti,Vr,vs,rfl,rfl,λy hy=>RY y (Yd _ hy),Yz K0 r0,sb.trans r1,r2,r3,hm.1,λy=>?_⟩;rw[hm.2,<- k2 y,X4,XU,or_assoc]
   ·rintro r s' ⟨h',tk,o',b7,dC,jw,t',vs,rfl,hv,RY,K0,sb,rZ,S',k1,k2⟩;obtain rfl:vs=[]:=List.map_eq_nil_iff.mp hv.symm;refine XT (q h' tk o' b7 dC jw t' K0 sb rZ S' λx=>?_);rw[<- (u1.map (·.1)).mem_iff,<- k2 x];simp
   ·exact⟨h1,s.toks,o1,yP,z9,Mi,t1,us,rfl,rfl,λ_ z=>z,XS _,EJ,EO,S1,λx hx=>by rw[X1];exact Yq _ (ZP (p1.mem_iff.mp hx)),λx=>by rw[(p1.map (·.1)).mem_iff]⟩
theorem rO:entryFor table "set.__or__" = some ZZ.«frozenset.__or__» :=
 entryFor_alias (id':="frozenset.__or__") (by kernel_rfl) rfl (by decide +kernel) (by kernel_rfl)
theorem AY {Q:XO->XQ->Prop}(q:Q (.ref s.heap.objs.size) {s with heap:=s.heap.push (iF w)}):Ye (model prog w) A (newSet (.type "set")) Q E s:=by
 unfold newSet;refine XM (eD ?_);simp only[newObj];exact XM (wpAny_alloc (XT q))
theorem vy {v:XO} (hT:s.TypeIs v "set") {Q:Bool->XQ->Prop} (q:Q true s):Ye (model prog w) A (Builtin.Frozenset.isAnySet v) Q E s:=by
 unfold Builtin.Frozenset.isAnySet;exact XM (aas (T:="set") (b:=true) hT (by rw[aaJ];kernel_rfl) (XT q))
theorem Mu (ho:s.heap.get? a=some o)(S:iO w o ts es ep t)(Dv:s.heap.get? b=some o2)(S2:iO w o2 mr qc Mh t2)(oP:a≠b)(hf:uD ((ts++mr).map (·.1))){Q:XO->XQ->Prop}
  (q:∀(h':Heap) (tk:Nat) (o':Obj) (b7:List (Int×Tok)) (dC:Array (Int×XO)) (jw:Nat) (t':SetTable),s.toks<=tk->(∀c oc,s.heap.get? c=some oc->h'.get? c=some oc)->h'.get? s.heap.objs.size=some o'->iO w o' b7 dC jw t'->(∀x,x∈b7.map (·.1)↔x∈ts.map (·.1)\/x∈mr.map (·.1))->Q (.ref s.heap.objs.size) {s with heap:=h',toks:=tk}) :
  Ye (model prog w) A (ZR .BitOr (.ref a) (.ref b)) Q E s:=by
 have hT:=fQ ho S;have Ql:=fQ Dv S2;refine wpAny_binaryOp_same hT Ql F.fills_set_or F.slot_set_or (Za F.slot_set_or hT rO ?_ (F.args_set_or_2 _ _));unfold ZZ.«frozenset.__or__»
 wp_delta
 unfold Builtin.Frozenset.slot1;refine XM (XM (XT (XT ?_)));dsimp only;rw[if_neg (by simp)]
 refine XM (XM (vy hT ?_));refine vy Ql ?_;rw[if_neg (by simp)]
 refine XM (XT ?_);refine XM ?_
 wp_delta
 have ha:=X8 ho;have hb:=X8 Dv;unfold Builtin.Frozenset.copyOf Builtin.Frozenset.baseOf;refine XM (XM (XM (aas (T:="set") (b:=true) hT (by rw[aaJ];kernel_rfl) (XT ?_))))
 rw[if_pos rfl];refine XM (AY ?_);refine XM (XT ?_);refine XM (sr (s:={s with heap:=s.heap.push (iF w)}) (X_ _ rfl) (rm w) (XR _ ho) S (aaG ha) (λl h1 h2=>hf l h1 λx hx=>?_) (λs' Q _ q=>XT q) λh1 PH o1 yP z9 Mi t1 k0 k1 k2 S1 k4=>XT ?_)
 ·rw[X1];exact Yq _ (h2 x hx)
 dsimp only;have Du:h1.get? b=some o2:=by rw[k1.2 b (Yk hb)];exact XR _ Dv
 have S7:Shared.TypeIs {s with heap:=h1,toks:=PH} (.ref b) "set" := ⟨o2,Du,S2.ex.1⟩
 rw[if_pos (by simpa using YW oP)]
 refine XM (XT ?_);refine XM (YU ?_);unfold Builtin.Frozenset.updateFrom;refine XM (vy S7 ?_);rw[if_pos rfl];refine XM (XT ?_);unfold Builtin.Frozenset.merge;refine XM (wpAny_setEpoch_of (s:={s with heap:=h1,toks:=PH}) Du S2.dat S2.fits ?_)
 refine sr (s:={s with heap:=h1,toks:=PH}) k2 S1 Du S2 (aaG hb) (λl h1 h2=>hf l h1 λx hx=>?_) (λs' Q e q=>?_) λh3 QD o3 Vk WO WQ t3 m0 m1 m2 S3 m4=>?_
 ·have:=h2 x hx;rw[X1]at this ⊢
  exact XZ.mpr ((XZ.mp this).imp (λz=>by simpa using (k4 x).mp z) id)
 ·unfold Builtin.Frozenset.unchanged;refine XM (wpAny_setEpoch_of e S2.dat S2.fits ?_);rw[if_neg (by simp)]
  exact XT q
 ·refine XT (XT ⟨_,rfl,by simp,q h3 QD o3 Vk WO WQ t3 (Yz k0 m0) (λc oc e=>?_) m2 S3 λx=>by rw[m4,k4];simp⟩)
  have hc:=Yk (X8 e);rw[m1.2 c hc,k1.2 c hc];exact XR _ e
end
end SI
namespace L2.Q
open PySem PySem.Spec PySem.SeqAt PyProof.Rows
def iY (w:X6)(ns:List Int):D:=.ob λa=>.ext (cv w a ns)
theorem Bm {P:XX}{w:X6}{H:Hp}{h:Heap}{a:Addr}{o:Obj}{ts:List (Int×Tok)}{es:Array (Int×XO)}{ep:Nat}{t:SetTable}{ns:List Int}(ho:h.get? a=some o)(S:SI.iO w o ts es ep t)(hm:∀x,x∈ts.map (·.1)↔x∈ns)(hf:SI.uD ns):aO P w H h a (.ext (cv w a ns)):=by
 refine⟨⟨o,ts,es,ep,t,ho,S,hm,?_⟩,⟨_,ho⟩,λh1 h2 fy k=>?_⟩
 ·have:=hf (ts.map (·.1)) S.AE λx hx=>(hm x).mp hx
  rwa [XN]at this
 ·obtain⟨o1,t1,e1,Mi,QC,g1,g2⟩:=fy;exact⟨o1,t1,e1,Mi,QC,k _ g1,g2⟩
theorem yi {ns ms:List Int}(h:SI.uD ns)(s:∀x∈ms,x∈ns):SI.uD ms:=λl h1 h2=>h l h1 λx hx=>s x (h2 x hx)
section
variable {X:Cx}
theorem J0:jy X (ZR .BitOr) (λx y H Q=>∃p q ns ms,x=V.ref p/\y=V.ref q/\p≠q/\H p=some (.ext (cv X.w p ns))/\H q=some (.ext (cv X.w q ms))/\SI.uD (ns++ms)/\∀a,H a=none->Q (.ref a) (upd H a (.ext (cv X.w a (ns++ms))))):=by
 intro pins s σ H x y v u Q I rx ry h;obtain⟨p,q,ns,ms,rfl,rfl,oN,hp,hq,hf,k⟩:=h;cases rx;cases ry;obtain⟨⟨o,ts,es,ep,t,ho,S,hm,hl⟩,_,_⟩:=(show aO X.prog X.w H s.heap p (.ext (cv X.w p ns)) from I.a5 p _ hp)
 obtain⟨⟨o2,mr,qc,Mh,t2,Dv,S2,Sy,OT⟩,_,_⟩:=(show aO X.prog X.w H s.heap q (.ext (cv X.w q ms)) from I.a5 q _ hq)
 have mm:∀x,x∈ts.map (·.1)\/x∈mr.map (·.1)↔x∈ns++ms:=λx=>by rw[hm,Sy,XZ]
 refine SI.Mu ho S Dv S2 oN (yi hf λx hx=>by rw[X1]at hx;exact(mm x).mp (XZ.mp hx)) λh' tk o' b7 dC jw t' K0 kp rZ S' m=>?_
 have Ln:H s.heap.objs.size=none:=I.a5.fresh (XS _);exact⟨.ref s.heap.objs.size,_,I.laid (t':=tk) (o:=.ext (cv X.w s.heap.objs.size (ns++ms))) kp (XS _) (Bm rZ S' (λx=>(m x).trans (mm x)) hf),rfl,k _ Ln⟩
theorem CD:∀(pins:List (Addr×Obj)) (s:XQ) (σ:St) (H:Hp) (Q:XO->XQ->Prop) (E:XO->XQ->Prop),Inv X pins σ H s ->
  (∀a s',s.heap.objs.size<=a->H a=none->(∀b o,s.heap.get? b=some o->s'.heap.get? b=some o)->Inv X pins σ (upd H a (.ext (cv X.w a []))) s'->Q (.ref a) s')->Ye (model X.prog X.w) X.A (newSet (.type "set")) Q E s:=λpins s σ H Q E I h=>by
 have hS:(s.heap.push (ST.iF X.w)).get? s.heap.objs.size=some (ST.iF X.w):=X_ _ rfl;exact SI.AY (h _ _ (XS _) I.fresh (λb o e=>XR _ e) (I.laid (t':=s.toks) (λ_ _ q=>XR _ q) (XS _) (Bm hS (ST.rm X.w) (λx=>Iff.rfl) (SI.DJ (by decide)))))
theorem B_ {elt:Expr}{te:TE}{a:Addr}(hx:X.xe=λ_ _=>False)(he:PE X elt te):
  ki X (gD (DU elt (.ref a) X.env)) (λN σ H=>te σ H λv H1=>∃o t,v=.int t/\H1 a=some (.ext (cv X.w a o))/\SI.uD (o++[t])/\N σ (upd H1 a (.ext (cv X.w a (o++[t]))))):=by
 intro pins s σ H N k Q E I h hk;unfold gD DU;refine XM (XM (bu (cV hx (he pins s σ H _ I h)) λu s1 fJ=>?_));obtain⟨v,H1,I1,r1,ns,t,rfl,hH,hf,q⟩:=fJ;obtain⟨tk,rfl⟩:=r1;obtain⟨⟨o,ts,es,ep,tb,ho,S,hm,hl⟩,_,_⟩:=(show aO X.prog X.w H1 s1.heap a (.ext (cv X.w a ns)) from I1.a5 a _ hH)
 refine XM (Zw (XM (Za PySem.F.slot_set_add (ST.fQ ho S) PySem.F.entry_set_add ?_ (PySem.F.args_set_add_2 _ _))));unfold ZZ.«set.add» Builtin.Frozenset.oneOther;simp only[List.isEmpty_nil,bind_assoc];unfold Builtin.Frozenset.addrOf setAdd;refine XM (XT ?_)
 try dsimp only
 refine XM (XT ?_)
 try dsimp only
 refine XM ?_;refine YU ?_;refine XM ((aaE X.prog X.w).pyHash (k:=t) (intKind_is _ _ _ _) ?_);refine SI.qw (s:={s1 with toks:=s1.toks+1}) ho S hl λh' o' b7 dC jw t' added tk r0 sb rZ S' m1 m2=>?_
 show Ye _ _ (ret Value.none) _ _ _;refine XT ⟨_,rfl,XT (hk σ _ _ ?_ q)⟩;refine I1.write (x:=a) (e:=a) (by rw[hH];exact trivial) (.inl rfl) (λb u hb hu=>(sb.2 b hb).trans hu) ⟨_,rZ⟩ (Bm rZ S' (λx=>?_) hf)
 rw[XZ,XW,<- hm x]
 by_cases lK:∃y∈ts,y.1=t
 ·rw[m1 lK];refine⟨.inl,λz=>z.elim id λz=>?_⟩;obtain⟨y,hy,e⟩:=lK;rw[z,<- e];exact ZP hy
 ·rw[((m2 λy hy e=>lK ⟨y,hy,e⟩).map (·.1)).mem_iff,X4,XU];exact Or.comm
end
def T8 (w:X6)(a:Addr)(o:List Int)(H:Hp):Prop:=H a=some (.ext (cv w a o))
theorem wZ {w:X6}{a:Addr}:vf a (T8 w a):=⟨λo H H' s h=>s _ _ h,λo H xs h z=>by
  rw[show H a=_ from h]at z;cases z⟩
abbrev Ug (X:Cx)(C:Cfg)(a:Addr)(φ:aB):iN:=λN σ H=>tQ X (C.u λc=>c=a) true φ σ H λv H1=>∃o t,v=.int t/\H1 a=some (.ext (cv X.w a o))/\SI.uD (o++[t])/\N σ (upd H1 a (.ext (cv X.w a (o++[t]))))
def DT (φ:aB)(o:List Int)(β:aL)(N:aL->List Int->Prop):Prop:=φ β λx _ β3=>∃t,x=.int t/\SI.uD (o++[t])/\N β3 (o++[t])
theorem HU {X:Cx}{C:Cfg}{σ:St}{H1 H':Hp}{β:aL}{own:Nat->List Addr}{a:Addr}{ns:List Int}(s1:SQ X C σ H1 β own)(ha:H1 a=none)(h:H' a=some (.ext (cv X.w a ns))):KV X.prog X.w C (H1,Wn own) own H' .own (iY X.w ns) (.ref a):=by
 refine⟨[a],⟨a,rfl,⟨h,λxs z=>by cases z⟩,rfl⟩,by simp,λc hc=>?_⟩
 rw[XW.mp hc];exact⟨ha,λh=>by obtain⟨j,hj⟩:=h;exact(s1.dm j a hj).1 ha,Yi λz=>s1.fj a z ha⟩
theorem Bn {X:Cx}{C:Cfg}{W0:Addr->Prop}{T:List Nat}{σ0:St}{H1:Hp}{a:Addr}{Hb:Hp}{Wb:Addr->Prop}{φ:aB}(h0:C.H0 a=none)(ha:H1 a=none)(φm:∀β R R',(∀d k β,R d k β->R' d k β)->φ β R->φ β R'){β:aL}{o:List Int}{σ:St}{H:Hp}{N:aL->List Int->Prop}(s:o7 X C W0 T σ0 H1 a Hb Wb (T8 X.w a) β o σ H)(q:DT φ o β N):
  Ug X C a φ (λσ' H'=>∃β' o',o7 X C W0 T σ0 H1 a Hb Wb (T8 X.w a) β' o' σ' H'/\N β' o') σ H:=by
 obtain⟨own,s⟩:=s;refine⟨β,own,s.sq,φm _ _ _ (λxd kx β6 fJ v H6 tU o6 r6=>?_) q⟩;obtain⟨t,e,hz,q⟩:=fJ;subst e;obtain⟨sm,rfl⟩:=o6.pu rfl;have s6:=s.next wZ o6.sq (λ_ z=>z) sm (λ_ _=>rfl)
 cases (show v=.int t from r6.rep)
 exact⟨_,t,rfl,s6.ac,hz,β6,o++[t],⟨_,s6.put h0 ha s6.ac (λxs z=>by cases z) ai⟩,q⟩
def Fp (w:X6)(lk:List (Option Nat))(ι:bz)(γ:bW)(τ:aN)(ι2:bz)(γ2:bW)(τ2:aN)(φ:aB):aB:=λβ R=>ι β λds k β1=>hold k false/\gG γ τ (CF ι2 γ2 τ2 (DT φ)) ds k (b5 lk β1) [] λβf o=>dN (b5 lk β1) βf/\R (iY w o) .own β1
section
variable {X:Cx}{C:Cfg}{lk:List (Option Nat)}{γ γ2:bW}{τ τ2:aN}{φ:aB}{T T2:List Nat}
variable {scope:ZE}{tg br iQ fM elt:Expr}{ifs cW:List Expr}{ι ι2:bz}{pi:Bool}{pos:Pos}
theorem QZ (N':List Str)(lk:List (Option Nat))(L:eY X.env.scope.names X.N scope N' lk=true)(ji:N'.Nodup)(hc:X.calm=true)(hi:o8 X C pi tg br ι)
  (g9:∀a cl c s H ex,o9 (aq X scope N' cl c s H ex) (C.u λc=>c=a) tg T γ) (gI:∀a cl c s H ex,js (aq X scope N' cl c s H ex) (C.u λc=>c=a) true ifs τ)
  (Im:∀a cl c s H ex,Pp (aq X scope N' cl c s H ex) (C.u λc=>c=a) iQ fM ι2)
  (um:∀a cl c s H ex,o9 (aq X scope N' cl c s H ex) (C.u λc=>c=a) iQ T2 γ2) (uk:∀a cl c s H ex,js (aq X scope N' cl c s H ex) (C.u λc=>c=a) true cW τ2)
  (dJ:∀a cl c s H ex,PQ (aq X scope N' cl c s H ex) (C.u λc=>c=a) true elt φ) (hT:(T++T2).all (λi=>match lk[i]? with|some (some _)=>false|_=>true)=true:=by rfl)
  (hs:∀x,Yp br X.env x=pure x:=by intro _;rfl) (jT:∀cl c s H ex x,Yp fM (aq X scope N' cl c s H ex).env x=pure x:=by intro _ _ _ _ _ _;rfl):PQ X C pi (.SetComp elt [⟨tg,br,ifs,0⟩,⟨iQ,fM,cW,0⟩] scope pos) (Fp X.w lk ι γ τ ι2 γ2 τ2 φ):=by
 have L:=Links.of L;have uw:∀i∈T++T2,∀j,lk[i]?≠some (some j):=λi hi j e=>by
  have:=Zg.mp hT i hi;rw[e]at this;cases this
 have γm:=(g9 0 [] 0 X.s₀ X.H₀ []).mono;have τm:=(gI 0 [] 0 X.s₀ X.H₀ []).mono;have AR:=(um 0 [] 0 X.s₀ X.H₀ []).mono;have AO:=(uk 0 [] 0 X.s₀ X.H₀ []).mono;have φm:=(dJ 0 [] 0 X.s₀ X.H₀ []).mono;have ιm:=(Im 0 [] 0 X.s₀ X.H₀ []).mono;refine⟨λβ R R' k h=>hi.mono β _ _ (λds kd β1 q=>⟨q.1,q.2.mono λ_ _ z=>⟨z.1,k _ _ _ z.2⟩⟩) h,?_⟩;refine(tP (g:=⟨tg,br,ifs,0⟩) (gs:=[⟨iQ,fM,cW,0⟩]) (tg:=λa=>Ay X C a T γ) (tt:=λa=>ib X (C.u λc=>c=a) true τ)
  (ta:=λa N σ H=>∃β own,SQ X (C.u λc=>c=a) σ H β own/\ι2 β λds k β'=>∀J H',ar H H'->SQ X (C.u λc=>c=a) σ H' β' own->rW X (dD (C.u λc=>c=a) (Wn own) k) J ds H' ->
   dw J (Ay X C a T2 γ2) (ib X (C.u λc=>c=a) true τ2) (Ug X C a φ) N σ H')
  L hc CD rfl rfl (λ_ _=>LO) hi.pi (λa cl c s H ex=>⟨(g9 a cl c s H ex).pg,(gI a cl c s H ex).pt,q_ (X:=aq X scope N' cl c s H ex) (g':=⟨iQ,fM,cW,0⟩) rfl hc LN (Im a cl c s H ex).pi (um a cl c s H ex).pg (uk a cl c s H ex).pt (B_ (X:=aq X scope N' cl c s H ex) rfl (dJ a cl c s H ex).pe) (jT cl c s H ex)⟩) hs).pre λσ H Q h=>?_
 obtain⟨β,own,s,h⟩:=h;refine⟨β,own,s,hi.mono β _ _ (λds k β1 h J H1 au o1 it a ha=>?_) h⟩;obtain⟨hk,q⟩:=h;refine fR (T:=T++T2) wZ γm τm (λj hj=>Yq _ hj) (bw L ji) uw o1.sq ha hk it ai (o1.sq.wH (λxs z=>by cases z) ha (bw L ji))
  (λHb Wb βx ox σx Hx Nx h0 sx qx=>qM wZ (λj hj=>Yn _ hj) AR AO (λHb Wb βy oy σy Hy Ny sy qy=>Bn h0 ha φm sy qy) ιm sx qx) q λo H' q o2 r=>?_
 exact q _ _ au ⟨o2.sq,o1.sn.trans o2.sn,λz=>⟨(o1.pu z).1.trans (o2.pu rfl).1,(o1.pu z).2⟩,o1.le⟩ ((HU o1.sq ha r).later o1.sn)
end
section
variable {X:Cx}{C:Cfg}{e a b:Expr}{φ φa φb:aB}{p p':Bool}{pos pos' p1:Pos}
def MZ (w:X6)(φ:aB):aB:=λβ R=>φ β λd _ β1=>∃ns:List Int,d=.lst (ns.map D.int)/\SI.uD ns/\R (iY w ns) .own β1
theorem xt (hc:X.calm=true) (he:PQ X C p e φ) (hm:X.mg "set" = none) (hg:Gl X "set" := by rfl) (hs:X2 [e] X.env=(false,eval e X.env)::X2 [] X.env:=by rfl) (hpl:(ZA pos (X2 [] X.env)).any (·.1)=false:=by rfl) :
  PQ X C p (.Call (.Name "set" p1) [e] [] pos) (MZ X.w φ) :=
 ⟨λβ R R' k h=>he.mono β _ _ (λd kd β1 jU=>by obtain⟨ns,h1,h2,q⟩:=jU;exact⟨ns,h1,h2,k _ _ _ q⟩) h,
  (pG (Ak hc) hg hm LP (aW he.pe b_ hs) (by decide) (by decide) (he:=hs) (hpl:=hpl)).pre λσ H Q ⟨β,own,s,h⟩=>tQ.of he s h λd k β1 v H1 au uo o1 r1=>by
  obtain⟨ns,e1,hl,q⟩:=uo;subst e1;obtain⟨b,us,rfl,Ir,_,rb⟩:=r1.rep;cases _root_.L2.bY rb;exact⟨b,ns,rfl,dv.of Ir,hl,λl wu=>q _ _ au (o1.same (ar.new wu)) ((HU o1.sq wu ai).later o1.sn)⟩⟩
def JB (w:X6)(pb:Bool)(φa φb:aB):aB:=λβ R=>φa β λd1 k1 β1=>hold k1 pb/\φb β1 λd2 k2 β2=>∃ns ms:List Int,d1=iY w ns/\d2=iY w ms/\k2=.own/\SI.uD (ns++ms)/\∀l:List Int,l.Pairwise (· < ·)->(∀x,x∈l↔x∈ns++ms)->l.length<=60->R (.lst (l.map D.int)) .own β2
theorem BO (hc:X.calm=true) (ha:PQ X C p a φa) (hb:PQ X C p' b φb) (hm:X.mg "sorted" = none) (hg:Gl X "sorted" := by rfl)
  (hs:X2 [.BinOp a .BitOr b pos'] X.env=(false,eval (.BinOp a .BitOr b pos') X.env)::X2 [] X.env:=by rfl) (hpl:(ZA pos (X2 [] X.env)).any (·.1)=false:=by rfl) :
  PQ X C (p&&p') (.Call (.Name "sorted" p1) [.BinOp a .BitOr b pos'] [] pos) (JB X.w p' φa φb) :=
 ⟨λβ R R' k h=>ha.mono β _ _ (λd1 k1 β1 h=>⟨h.1,hb.mono β1 _ _ (λd2 k2 β2 h=>by obtain⟨ns,ms,e1,e2,e3,hf,q⟩:=h;exact⟨ns,ms,e1,e2,e3,hf,λl a b c=>k _ _ _ (q l a b c)⟩) h.2⟩) h,
  (eS (iV hc) hg hm ql (aW (cT J0 ha.pe hb.pe) b_ hs) (by decide) (by decide) (he:=hs) (hpl:=hpl)).pre λσ H Q ⟨β,own,s,h⟩ =>
  tQ.of ha s h λd1 k1 β1 v1 H1 au ⟨hh,h1⟩ o1 r1=>tQ.of hb o1.sq h1 λd2 k2 β2 v2 H2 aU hq o2 r2=>by
   obtain⟨ns,ms,rfl,rfl,rfl,hf,q⟩:=hq;have Jz:=r1.ho o2 hh;obtain⟨a1,ea,⟨WE,_⟩,_⟩:=r1.rep;obtain⟨XI,U0,⟨S4,_⟩,_⟩:=Jz.rep;rw[ea]at U0;cases U0;obtain⟨A,⟨a2,eb,⟨WD,_⟩,eA⟩,_,hA⟩:=r2;have Qh:H1 a2=none:=(hA a2 (by rw[eA];simp)).1
   subst ea eb;refine⟨a1,a2,ns,ms,rfl,rfl,(λz=>by rw[<- z,WE]at Qh;cases Qh),S4,WD,hf,λl hl=>⟨l,_,rfl,ai,λus u1 u2 u3 m hm=>?_⟩⟩
   have o:=o1.trans o2;have o3:=o.same (ar.new (o:=.ext (cv X.w l (ns++ms))) hl);refine q us u1 u2 u3 _ _ aU (o3.same (ar.new hm)) ⟨[m],⟨m,_,[],rfl,ai,rfl,jJ us⟩,by simp,λc hc=>?_⟩
   rw[XW.mp hc];exact⟨Yi λz=>o3.sn.d m z hm,λz=>o3.sq.r9 m z hm,Yi λz=>o3.sq.fj m z hm⟩⟩
end
end L2.Q
namespace L2
open PySem PySem.Spec PySem.SeqAt PyProof.Rows
section
variable {X:Cx}{pins:List (Addr×Obj)}{σ:St}{H:Hp}{s:XQ}{d:Addr}{ob:Obj}{kvs:List (Key×V)}
theorem Inv.GW (I:Inv X pins σ H s)(hd:H d=some (.dK kvs))(ho:s.heap.get? d=some ob):Inv X pins σ (upd H d (.rM ob (.dK kvs))) s:=by
 have hx:aO X.prog X.w H s.heap d (.dK kvs):=I.a5 d _ hd;have:=I.write (x:=d) (e:=d) (o:=.rM ob (.dK kvs)) (h':=s.heap) (t':=s.toks) (by rw[hd];exact Zk) (.inl rfl) (λb u _ z=>z) ⟨ob,ho⟩ ⟨ho,hx.oE (λb u _ z=>z) (λb z=>by rw[ao (t7 z hd (λz=>nomatch z))];exact z) λb xs z=>by rw[ao (t7 z hd (λz=>nomatch z))];exact z⟩
 exact this
end
def vi (kvs:List (Int×Int)):List (Key×V):=kvs.map λp=>(.inl p.1,.int p.2)
abbrev AI (ob:Obj)(kvs:List (Int×Int)):HO:=.rM ob (.dK (vi kvs))
def L3 (d:Addr)(ob:Obj)(kvs:List (Int×Int)):It:=⟨λi H=>i<kvs.length/\H d=some (AI ob kvs),λi H x H'=>H'=H/\∃u,kvs[i]?=some u/\x=.int u.1,λi H=>kvs.length<=i/\H d=some (AI ob kvs)⟩
structure Pu (P:XX)(w:X6)(h:Heap)(d:Addr)(ob:Obj)(kvs:List (Int×Int))(es:Array DictEntry)(ep:Nat)(vs:List (Key×XO)):Prop where
 nl:(d==ZM)=false
 at':h.get? d=some ob
 ex:ob.ExactDict
 dt:ob.data=.dict es ep
 keys:aaq (es.toList.map (·.key)) (kvs.map (·.1))
 rel:KV (vi kvs) vs
 Tn:h.DictAt (aX P w) d vs ep
theorem O5 {P:XX}{w:X6}{H:Hp}{h:Heap}{d:Addr}{ob:Obj}{kvs:List (Int×Int)}(hk:aO P w H h d (AI ob kvs)):∃es ep vs,Pu P w h d ob kvs es ep vs:=by
 obtain⟨g,z,y,vs,rel,o,es,ep,g1,g2,g3,g4,g5,nd⟩:=hk;rw[g]at g1;cases g1;have WR:vs.map (·.1)=(kvs.map (·.1)).map ZO:=(Q.KA rel).trans (by unfold vi;rw[Y_,Y_];rfl)
 exact⟨es,ep,vs,y,g,g2,g3,Q.mS g5 WR,rel,⟨ob,es,g,g2,g3,g4,g5,nd⟩⟩
theorem CW {kvs:List (Int×Int)}{vs:List (Key×XO)}(rel:KV (vi kvs) vs){i:Nat}{u:Int×Int}(h:kvs[i]?=some u):∃v,vs[i]?=some (.inl u.1,v)/\RelV (.int u.2) v:=by
 have key:∀(l:List (Int×Int)) (vs:List (Key×XO)) (i:Nat),KV (vi l) vs->l[i]?=some u->∃v,vs[i]?=some (.inl u.1,v)/\RelV (.int u.2) v:=λl=>by
  induction l with
  |nil=>intro vs i _ z;simp at z
  |cons p l ih =>
   intro vs i r z;unfold vi at r;rw[X4]at r;cases r with
   |cons h1 h2 =>
    cases i with
    |zero =>
     rw[List.getElem?_cons_zero]at z;cases z;obtain⟨e,rv⟩:=h1;refine⟨_,?_,rv⟩;rw[List.getElem?_cons_zero];exact congrArg some (Prod.ext e.symm rfl)
    |succ i =>
     rw[ZT]at z ⊢
     exact ih _ i h2 z
 exact key kvs vs i rel h
theorem Gr {t:Int}{v:XO}(h:nj (.inl t) v=true):RelV (.int t) v:=by
 rcases bc h with⟨i,tk,q1,q2⟩|⟨x,tk,q1,q2⟩
 ·cases q1;exact⟨tk,q2⟩
 ·cases q1
theorem vD {P:XX}{w:X6}{K:PySem.W.Frag}{tg:Expr}{ob:Obj}{kvs:List (Int×Int)}(d it:Addr)(oN:d≠it){vs:List (Key×XO)}{es:Array DictEntry}{ep:Nat}{h0:Heap}(F:Pu P w h0 d ob kvs es ep vs):
  Turn P w K tg (L3 d ob kvs) [it] it (λi h=>h.IsKeyIter it d i vs.length ep) where
 mem:=by simp
 obj:=λi h st b hb=>by
  have e:b=it:=by simpa using hb
  subst e;obtain⟨o,e,c,d⟩:=st;exact⟨o,e,λv z=>by rw[d]at z;cases z⟩
 keep:=λi h h' st k=>st.at λo e=>k it (by simp) o e
 item:=by
  intro X hP hw hK hc i pins s σ H E I hf st hg;subst hP hw hK;obtain⟨hi,O1⟩:=hg;obtain⟨f0,f1,f2,f3,f4,f5⟩:=hf it (by simp)
  have g:=(show aO X.prog X.w H s.heap d (AI ob kvs) from I.a5 d _ O1).1
  have D:s.heap.DictAt (aX X.prog X.w) d vs ep:=by
   obtain⟨o,dC,e1,e2⟩:=F.Tn;rw[F.at']at e1;cases e1;exact⟨ob,dC,g,e2⟩
  obtain⟨v,ev,_⟩:=CW F.rel (XY hi);refine wpAny_pyNext_dict_item st D ev λkey h' Dx vh sb=>?_;have I1:Inv X pins σ H {s with heap:=h'}:=I.turned (t':=s.toks) (λb o hb e=>(sb.2 b hb).trans e) f0 f1 f3 f4 f5
  obtain⟨o,e,c,dd⟩:=id vh;exact⟨_,rfl,ux (s:={s with heap:=h'}) e c dd (by decide) ⟨.int kvs[i].1,H,I1,Gr Dx,⟨rfl,kvs[i],XY hi,rfl⟩,vh,λb hb=>(hf b hb).1⟩⟩
 done:=by
  intro X hP hw hK hc i pins s σ H E I hf st hg;subst hP hw hK;obtain⟨hi,O1⟩:=hg;obtain⟨f0,f1,f2,f3,f4,f5⟩:=hf it (by simp)
  have g:=(show aO X.prog X.w H s.heap d (AI ob kvs) from I.a5 d _ O1).1
  have D:s.heap.DictAt (aX X.prog X.w) d vs ep:=by
   obtain⟨o,dC,e1,e2⟩:=F.Tn;rw[F.at']at e1;cases e1;exact⟨ob,dC,g,e2⟩
  have hl:vs.length=kvs.length:=by have:=F.rel.length;unfold vi at this;rw[XN]at this;exact this.symm
  exact wpAny_pyNext_dict_end (I.ok.hd hc) st D (YQ (by lia)) λh' eb=>⟨rfl,I.turned (t':=s.toks) (λb o hb e=>eb b o hb e) f0 f1 f3 f4 f5⟩
 self:=λ_ _ _ _ _ st h=>wpAny_pyIter_keyiter st h
end L2
namespace L2.Q
open PySem PySem.Spec PySem.SeqAt PyProof.Rows
abbrev Pc (ob:Obj)(kvs:List (Int×Int)):D:=.ob λ_=>AI ob kvs
section
variable {X:Cx}{C:Cfg}{tg e k:Expr}{φ φk:aB}{p pk:Bool}{pos apos cpos p1:Pos}
def KW (tl:TE):TI:=λσ H R=>tl σ H λx H1=>∃a ob kvs,x=.ref a/\H1 a=some (AI ob kvs)/\R (L3 a ob kvs) H1
theorem BU {l:Expr}{tl:TE}(hl:PE X l tl):PI X tg l (KW tl):=by
 intro pins s σ H R I h;refine bu (hl pins s σ H _ I h) λv s1 fJ=>?_;obtain⟨x,H1,I1,r1,a,ob,kvs,rfl,ha,q⟩:=fJ;cases r1;obtain⟨es,ep,vs,F⟩:=O5 (show aO X.prog X.w H1 s1.heap a (AI ob kvs) from I1.a5 a _ ha)
 have oN:a≠s1.heap.objs.size:=Yk (X8 F.at');refine wpAny_pyIter_dict F.nl F.Tn ?_;refine⟨s1.heap.objs.size,[s1.heap.objs.size],_,_,H1,rfl,I1.kept (t':=s1.toks) λb o e=>XR _ e,vD a _ oN F,⟨_,X_ _ rfl,rfl,rfl⟩,λb hb=>?_,q⟩;have e:b=s1.heap.objs.size:=by simpa using hb
 subst e;exact I1.rN (XS _) (I1.a5.fresh (XS _))
theorem zN {W:Addr->Prop}{H:Hp}{a:Addr}{ob:Obj}{kvs:List (Int×Int)}(h1:H a=some (AI ob kvs))(n1:¬ W a):rW X W (L3 a ob kvs) (kvs.map λu=>D.int u.1) H:=λW' hW i H' k=>by
 have h2:=k.out a _ h1 λz=>(hW a z).elim n1 λq=>by rw[h1]at q;cases q
 constructor
 ·intro d hd;rw[X5]at hd;obtain⟨u,hu,rfl⟩:=X9.mp hd;refine⟨⟨(X0.mp hu).1,h2⟩,λx H1 y=>?_⟩;obtain⟨rfl,u',UH,rfl⟩:=y;rw[hu]at UH;cases UH;exact⟨ar.refl _,rfl⟩
 ·intro hl;rw[XN]at hl;exact⟨hl,h2⟩
def NY (φ:aB):bz:=λβ R=>φ β λd k β'=>∃ob kvs,d=Pc ob kvs/\R (kvs.map λu=>D.int u.1) k β'
theorem tJ (h:PQ X C p e φ):o8 X C p tg e (NY φ) :=
 ⟨λβ R R' k q=>h.mono β _ _ (λd kd β1 fy=>by obtain⟨ob,kvs,e,q⟩:=fy;exact⟨ob,kvs,e,k _ _ _ q⟩) q,(BU h.pe).pre λσ H R ⟨β,own,s,q⟩=>tQ.of h s q λd k β1 v H1 au z o1 r1=>by
  obtain⟨ob,kvs,rfl,q⟩:=z;obtain⟨a,rfl,⟨ha,_⟩,hn⟩:=r1.rep;exact⟨a,ob,kvs,rfl,ha,q _ _ au o1 (zN ha hn)⟩⟩
def sF (kvs:List (Int×Int))(t:Int):Option Int:=(kvs.find? λp=>decide (p.1=t)).map (·.2)
theorem A6 {t:Int}:∀{kvs:List (Int×Int)},dZ (vi kvs) (.inl t)=(sF kvs t).map V.int
 |[]=>rfl
 |p::kvs=>by
  have ih:=A6 (t:=t) (kvs:=kvs);unfold dZ sF vi at *
  rw[X4,YF,YF]
  by_cases h:p.1=t
  ·rw[decide_eq_true h,decide_eq_true (show (ZO p.1:Key)=.inl t by rw[h])];rfl
  ·rw[decide_eq_false h,decide_eq_false (show ¬ (ZO p.1:Key)=.inl t from λz=>h (by cases z;rfl))]
   exact ih
theorem RN (hu:X.A.units+1<Z7):HA X (λx y H Q=>∃a ob kvs t m,x=.ref a/\y=.int t/\H a=some (AI ob kvs)/\sF kvs t=some m/\Q (.int m) H):=by
 intro value slice pins s σ H x y v u Q I rx ry h hs;obtain⟨a,ob,kvs,t,m,rfl,rfl,ha,hm,q⟩:=h;have g:vd H a (.int t) (some (.int m)):=.inl ⟨vi kvs,.inl t,.inr ⟨ob,ha⟩,rfl,by rw[A6,hm];rfl⟩
 cases (show v=Value.ref a from rx)
 exact tail_any (lC I g) PySem.F.slot_dict_getitem.lookup (qf hu I g ry λu' s' I' r'=>⟨.int m,H,I',r',q⟩) hs
def M4 (pk:Bool)(φ φk:aB):aB:=λβ R=>φ β λd kd β1=>hold kd pk/\φk β1 λjd _ β2=>∃ob kvs t m,d=Pc ob kvs/\jd=.int t/\sF kvs t=some m/\R (.int m) .own β2
theorem xu (hu:X.A.units+1<Z7)(he:PQ X C p e φ)(hk:PQ X C pk k φk)(hs:ma k:=by exact λ_ _=>rfl):PQ X C (p&&pk) (.Subscript e k pos) (M4 pk φ φk) :=
 ⟨λβ R R' kk h=>he.mono β _ _ (λd kd β1 h=>⟨h.1,hk.mono β1 _ _ (λjd _ β2 h=>by obtain⟨ob,kvs,t,m,h1,h2,h3,q⟩:=h;exact⟨ob,kvs,t,m,h1,h2,h3,kk _ _ _ q⟩) h.2⟩) h,
  (jH (RN hu) he.pe hk.pe hs).pre λσ H Q ⟨β,own,s,h⟩=>tQ.of he s h λd kd β1 v H1 au ⟨hh,h1⟩ o1 r1=>tQ.of hk o1.sq h1 λjd kj β2 jv H2 aU hq o2 r2=>by
  obtain⟨ob,kvs,t,m,rfl,rfl,hm,q⟩:=hq;obtain⟨a,rfl,⟨ha,_⟩,_⟩:=(r1.ho o2 hh).rep;cases (show jv=.int t from r2.rep)
  exact⟨a,ob,kvs,t,m,rfl,rfl,ha,hm,q _ _ aU (o1.trans o2) ⟨[],⟨rfl,rfl⟩,YA,λc hc=>(nomatch hc)⟩⟩⟩
theorem zA:TQ X "dict.values" (λx xs H Q=>∃d kvs,x=.ref d/\xs=[]/\H d=some (.dK kvs)/\∀v,H v=none->Q (.ref v) (upd H v (.ext λh=>h.IsValuesView v d))):=by
 intro pins s σ H x xs v us Q I rx rs h;obtain⟨d,kvs,rfl,rfl,hd,q⟩:=h;cases rx;cases rs;obtain⟨z,lo,vs,rel,dd⟩:=uP I.a5 hd;have Ln:H s.heap.objs.size=none:=I.a5.fresh (XS _);refine call_meetsIn PySem.F.slot_dict_values dd.typeIs PySem.F.entry_dict_values (PySem.F.args_dict_values_1 _) (meets_dict_values (aX X.prog X.w) d lo) ⟨⟨vs,dd⟩,?_⟩;refine⟨.ref s.heap.objs.size,_,I.laid (t':=s.toks) (o:=.ext λh=>h.IsValuesView s.heap.objs.size d) (λ_ _ q=>XR _ q) (XS _) ⟨⟨_,X_ _ rfl,rfl,rfl⟩,⟨_,X_ _ rfl⟩,λh1 h2 hq k=>?_⟩,rfl,q _ Ln⟩;obtain⟨o,g1,g2⟩:=hq;exact⟨o,k _ g1,g2⟩
theorem rS (hc:X.calm=true):dW X (.builtin "max") (λxs H Q=>∃v d kvs m,xs=[V.ref v]/\H v=some (.ext λh=>h.IsValuesView v d)/\H d=some (.dK (vi kvs))/\ek (kvs.map (·.2))=some m/\Q (.int m) H):=by
 intro pins s σ H xs us Q I r h;obtain⟨v,d,kvs,m,rfl,hv,hd,hm,q⟩:=h;obtain⟨u,rfl,rx⟩:=vals1 r;cases rx;obtain⟨NZ,_,_⟩:=(show aO X.prog X.w H s.heap v (.ext λh=>h.IsValuesView v d) from I.a5 v _ hv)
 obtain⟨z,lo,vs,rel,o,es,ep,g1,g2,g3,g4,g5,nd⟩:=uP I.a5 hd;have D:s.heap.DictAt (aX X.prog X.w) d vs ep:=⟨o,es,g1,g2,g3,g4,g5,nd⟩;have iH:d<s.heap.objs.size:=X8 g1;have hl:vs.length=kvs.length:=by have:=rel.length;unfold vi at this;rw[XN]at this;exact this.symm
 have h0:0<vs.length:=by
  rw[hl];cases kvs with
  |nil=>cases hm
  |cons _ _=>exact Nat.succ_pos _
 refine call_max_walk (wpAny_pyIter_values NZ D ?_);have N0:∀i v,(∃k,vs[i]?=some (k,v))->∃t,v=Value.int ((kvs.map (·.2)).getD i 0) t:=λi v hk=>by
  obtain⟨k,hk⟩:=hk;have hi:i<kvs.length:=by rw[<- hl];exact(X0.mp hk).1
  obtain⟨w',e1,r1⟩:=CW rel (XY hi);rw[hk]at e1;cases e1;obtain⟨t,e⟩:=r1;exact⟨t,by rw[e,YE,X5,XY hi];rfl⟩
 refine⟨_,_,_,_,_,_,_,rfl,Walks.dictValues (A:=X.A.in1) (knd:=aX X.prog X.w) (I.ok.hd hc) s.heap.objs.size d (Yk iH) vs ep,⟨⟨_,X_ _ rfl,rfl,rfl⟩,D.at' λo e=>XR _ e⟩,λb hb=>?_,h0,CmpOf.ints_gt (λi=>(kvs.map (·.2)).getD i 0) N0,λv' h' tk hP hk=>?_⟩
 ·show b<(s.heap.push _).objs.size;rw[ZG];rcases XU.mp hb with rfl|hb
  ·exact Nat.lt_succ_self _
  ·rw[XW.mp hb];exact aaT iH
 ·obtain⟨t,rfl⟩:=N0 _ _ hP;have hold:∀b o,s.heap.get? b=some o->h'.get? b=some o:=λb o e=>hk b o (λhb=>by rw[XW.mp hb]at e;exact absurd (X8 e) (Z4 _)) (XR _ e)
  refine⟨.int m,H,I.kept hold,⟨t,?_⟩,q⟩;obtain⟨b1,b2⟩:=argBest_gt (λi=>(kvs.map (·.2)).getD i 0) (vs.length-1);generalize argBest (λi j=>decide ((kvs.map (·.2)).getD i 0>(kvs.map (·.2)).getD j 0)) (vs.length-1)=b at *
  congr 1
  have hb:b<(kvs.map (·.2)).length:=by rw[XN];lia
  have lJ:(kvs.map (·.2)).getD b 0∈kvs.map (·.2):=by
   rw[YE,XY hb];exact Y7 hb
  have hle:∀x∈kvs.map (·.2),x<=(kvs.map (·.2)).getD b 0:=λx hx=>by
   obtain⟨j,hj,rfl⟩:=List.getElem_of_mem hx;have:=b2 j (by rw[XN]at hj;lia)
   rw[show (kvs.map (·.2)).getD j 0=(kvs.map (·.2))[j] by rw[YE,XY hj];rfl]at this
   exact this
  have:=rq lJ hle;rw[hm]at this;exact(Yv this).symm
def oJ (kvs:List (Int×Int)):List (Int×D):=kvs.map λp=>(p.1,.int p.2)
theorem l6 {P:XX}{w:X6}{W:Addr->Prop}{H:Hp}:∀{kvs:List (Int×Int)} {vs:List V},ag P w W H ((oJ kvs).map (·.2)) vs->(kI (oJ kvs)).zip vs=vi kvs
 |[],_,h=>by cases h;rfl
 |p::kvs,_,⟨v,r,rfl,h1,h2⟩=>by
  have:=l6 (kvs:=kvs) h2;unfold kI oJ vi at *
  rw[X4,X4,YZ,X4,this];cases (show v=.int p.2 from h1)
  rfl
variable {i:Nat}{x:Str}{px p2:Pos}
def M3 (i:Nat):aB:=λβ R=>∃kvs m,β[i]?=some (some (.shl .one (dI (oJ kvs))))/\ek (kvs.map (·.2))=some m/\R (.int m) .own β
theorem vO (hc:X.calm=true) (hm:X.mg "max" = none) (hn:Nm X i x:=by exact vY) (hg:Gl X "max" := by rfl)
  (e9:Z3 (.Name x px) "values" X.env (eval (.Name x px) X.env)=eval (.Name x px) X.env:=by rfl) (eZ:(apos.endLine==cpos.line)=true:=by rfl)
  (hs:X2 [.Call (.Attribute (.Name x px) "values" apos) [] [] cpos] X.env=(false,eval (.Call (.Attribute (.Name x px) "values" apos) [] [] cpos) X.env)::X2 [] X.env:=by rfl) (hpl:(ZA pos (X2 [] X.env)).any (·.1)=false:=by rfl) :
  PQ X C true (.Call (.Name "max" p1) [.Call (.Attribute (.Name x px) "values" apos) [] [] cpos] [] pos) (M3 i) :=
 ⟨λβ R R' k h=>by obtain⟨kvs,m,h1,h2,q⟩:=h;exact⟨kvs,m,h1,h2,k _ _ _ q⟩,
  (eS (rS hc) hg hm h_ (aW (B4 (apos:=apos) (cpos:=cpos) PySem.F.plainAttrs_dict PySem.F.slot_dict_values PySem.F.type_dict_values zA (eR (pos:=px) hn) e9 eZ) b_ hs) (by decide) (by decide) (he:=hs) (hpl:=hpl)).pre λσ H Q hq=>by
  obtain⟨β,own,s,kvs,m,hb,Wm,q⟩:=hq;obtain⟨a,o,vs,g1,g2,g3,g4,g5,_,_⟩:=s.sG hb;obtain⟨rfl,l⟩:=g4;have GQ:H a=some (.dK (vi kvs)):=by rw[g3];exact congrArg _ (congrArg _ (l6 g5))
  refine⟨.ref a,g1,.inr (.inr (.inl ⟨rfl,.inl ⟨_,GQ⟩⟩)),a,_,rfl,rfl,GQ,λv hv=>⟨v,a,kvs,m,rfl,ai,?_,Wm,?_⟩⟩
  ·rw[ao (λz=>by rw[z,hv]at GQ;cases GQ)]
   exact GQ
  ·exact q _ _ own ((Out.refl s true).same (ar.new hv)) ⟨[],⟨rfl,rfl⟩,YA,λc hc=>(nomatch hc)⟩⟩
theorem tR {a:List Stmt}{ψ:yI}(i:Nat)(h:si X C a ψ):si X C a (λE β=>∃kvs,(β[i]?=some (some (.shl .one (dI (oJ kvs))))\/β[i]?=some (some (.own (dI (oJ kvs)))))/\∀ob,ap ψ E (β.set i (some (.val true (Pc ob kvs))))) :=
 ⟨λE E' β l q=>by obtain⟨kvs,e,q⟩:=q;exact⟨kvs,e,λob=>h.mono E E' _ l (q ob)⟩,λpins s σ H De I hw=>by
  obtain⟨Z,E,β,⟨own,sq,n⟩,⟨kvs,hb,q⟩,ok⟩:=hw;obtain⟨d,d0,β0,g1,g2,GQ,s',AH,eb⟩:∃d d0 β0,σ[i]?=some (some (.ref d))/\own i=[d]/\H d=some (.dK (vi kvs))/\SQ X C.z σ H β0 own/\β0[i]?=some (some (.own d0))/\∀b,β0.set i b=β.set i b:=by
   rcases hb with hb|hb
   ·obtain⟨d,o,vs,g1,g2,g3,g4,g5,_,s'⟩:=sq.sG hb;obtain⟨rfl,l⟩:=g4;exact⟨d,_,_,g1,g2,by rw[g3];exact congrArg _ (congrArg _ (l6 g5)),s',get_set (X0.mp hb).1,λb=>ZY ..⟩
   ·obtain⟨v,h1,⟨d,vs,A',rfl,h2,l,h3,h4⟩,_⟩:=sq.ow i _ hb;have eA:A'=[]:=by
     have key:∀(ks:List (Int×Int)) (vs:List V) (A:List Addr),aE X.prog X.w H ((oJ ks).map (·.2)) vs A->A=[]:=λks=>by
      induction ks with
      |nil=>intro vs A h;exact h.2
      |cons p ks ih =>
       intro vs A h;obtain⟨v,r,A1,A2,_,rfl,h1,h2⟩:=h;rw[h1.2,ih _ _ h2];rfl
     exact key kvs vs A' h4
    subst eA;exact⟨d,_,β,h1,h3,by rw[h2];exact congrArg _ (congrArg _ (l6 (h4.rep (W:=λ_=>False) λ_ _ z=>z))),sq,hb,λ_=>rfl⟩
  obtain⟨ob,GH⟩:∃ob,s.heap.get? d=some ob:=by
   obtain⟨_,_,_,_,o,_,_,e,_⟩:=uP I.a5 GQ;exact⟨o,e⟩
  have hl:i<β0.length:=(X0.mp AH).1;have hd:d∈own i:=by rw[g2];simp
  have p1:=(s'.iP (C:=C.z) (U:=λa=>H a=none) λa z=>z).putIn (o:=AI ob kvs) AH g1 hd (A':=[d]) (d':=Pc ob kvs) ⟨d,rfl,⟨ai,λxs z=>by cases z⟩,rfl⟩ (by simp) (λc hc=>.inl (by rw[g2];exact hc))
  have p2:=p1.freeze (get_set hl);rw[ZY,eb]at p2;refine h.ps pins s σ (upd H d (AI ob kvs)) De (I.GW GQ GH) ⟨Z,E,_,⟨_,p2,iZ ?_⟩,q ob,ok⟩;exact iX (C:=C) n (λb z=>n.free z) ⟨i,hd⟩ ⟨_,GQ,λxs z=>by cases z⟩ (λc hc=>.inl (by rw[g2];exact hc))⟩
end
section
variable {ps:List (Nat×Nat)}(hp:∀p∈ps,p.1<p.2)
include hp
theorem iy:∀(l i j:Nat),j-i<=l->((fX ps w1 i j).length:Int)=mX ps i j
 |0,i,j,h=>by rw[e_ (by lia),dq (by lia)];rfl
 |l+1,i,j,h=>by
  by_cases aA:i<j
  ·rw[iz hp aA];have hm:=eF (df (w:=w1) hp aA);cases q:cX ps w1 i j with
   |none =>
    rw[q]at hm;dsimp only;rw[iy l (i+1) j (by lia)]
    unfold mX;rw[show j-(i+1)=j-i-1 by lia]
    exact hm
   |some k =>
    rw[q]at hm;obtain⟨h1,h2,h3⟩:=hm;have GJ:=hp _ h1;dsimp only at GJ ⊢
    rw[Yt,Yg];have e1:=iy l (i+1) k (by lia)
    have e2:=iy l (k+1) j (by lia)
    unfold mX at e1 e2 ⊢
    rw[show k-(i+1)=k-i-1 by lia]at e1
    rw[show j-(k+1)=j-k-1 by lia]at e2
    rw[<- h3,<- e1,<- e2];show _=(1:Int)+_+_;lia
  ·rw[e_ aA,dq (by lia)];rfl
theorem GU {i j:Nat}:((fX ps w1 i j).length:Int)=mX ps i j:=iy hp (j-i) i j (XS _)
end
section
variable {ps:List (Nat×Nat)}
variable (hp:∀p∈ps,p.1<p.2)
include hp
end
section
end
abbrev NN:=Nat×Nat
def sd (p q:NN):Prop:=p.1<q.1/\(p.2<q.1\/q.2<p.2)
structure ED (ps:List NN)(i j:Nat)(S:List NN):Prop where
 pw:S.Pairwise sd
 of:∀p∈S,p∈ps/\i<=p.1/\p.2<j
section
variable {ps:List NN}(hp:∀p∈ps,p.1<p.2){i j:Nat}{S A B:List NN}
theorem ED.nil:ED ps i j []:=⟨List.Pairwise.nil,λ_ z=>nomatch z⟩
include hp in
theorem sP (h:¬ i<j)(s:ED ps i j S):S=[]:=by
 cases S with
 |nil=>rfl
 |cons p S=>obtain⟨h1,h2,h3⟩:=s.of p Yr;have:=hp p h1;lia
theorem yy {k:Nat}:∀{T:List NN},T.Pairwise sd->(∀q∈T,q.1<q.2/\(q.2<k\/k<q.1))->T=T.filter (λq=>decide (q.2<k))++T.filter (λq=>decide (k<q.1))
 |[],_,_=>rfl
 |q::T,hw,h=>by
  obtain⟨w1,w2⟩:=Y9.mp hw;obtain⟨a1,a2⟩:=h q Yr;have ih:=yy w2 λx hx=>h x (Yd _ hx);rcases a2 with a2|a2
  ·rw[Zb,Zb,if_pos (decide_eq_true a2),if_neg (by rw[decide_eq_true_eq];lia),List.cons_append,<- ih]
  ·have e1:(q::T).filter (λq=>decide (q.2<k))=[]:=by
    rw[List.filter_eq_nil_iff];intro x hx;rw[decide_eq_true_eq];rcases XU.mp hx with rfl|hx
    ·lia
    ·have:=(w1 x hx).1;have:=(h x (Yd _ hx)).1;lia
   have e2:(q::T).filter (λq=>decide (k<q.1))=q::T:=by
    rw[List.filter_eq_self];intro x hx;rw[decide_eq_true_eq];rcases XU.mp hx with rfl|hx
    ·lia
    ·have:=(w1 x hx).1;lia
   rw[e1,e2,List.nil_append]
include hp in
theorem km (h:i<j):ED ps i j S↔ED ps (i+1) j S\/∃k A B,(i,k)∈ps/\k<j/\S=(i,k)::(A++B)/\ED ps (i+1) k A/\ED ps (k+1) j B:=by
 constructor
 ·intro s;cases S with
  |nil=>exact .inl .nil
  |cons p T =>
   obtain⟨w1,w2⟩:=Y9.mp s.pw;obtain⟨h1,h2,h3⟩:=s.of p Yr;have ot:∀q∈T,q∈ps/\i<=q.1/\q.2<j:=λq hq=>s.of q (Yd _ hq)
   by_cases e:p.1=i
   ·right
    obtain⟨a,k⟩:=p;dsimp only at e h2 h3;subst e;refine⟨k,T.filter (λq=>decide (q.2<k)),T.filter (λq=>decide (k<q.1)),h1,h3,?_,⟨w2.filter _,λq hq=>?_⟩,⟨w2.filter _,λq hq=>?_⟩⟩
    ·rw[<- yy w2 λq hq=>⟨hp q (ot q hq).1,(w1 q hq).2.symm⟩]
    ·obtain⟨g1,g2⟩:=Ym.mp hq;have:=(w1 q g1).1;dsimp only at this;exact⟨(ot q g1).1,by lia,of_decide_eq_true g2⟩
    ·obtain⟨g1,g2⟩:=Ym.mp hq;exact⟨(ot q g1).1,of_decide_eq_true g2,(ot q g1).2.2⟩
   ·left
    refine⟨s.pw,λq hq=>?_⟩;rcases XU.mp hq with rfl|hq
    ·exact⟨h1,by lia,h3⟩
    ·have:=(w1 q hq).1;exact⟨(ot q hq).1,by lia,(ot q hq).2.2⟩
 ·rintro (s|⟨k,A,B,h1,h2,rfl,a,b⟩)
  ·exact⟨s.pw,λp hp=>let ⟨a,b,c⟩:=s.of p hp;⟨a,by lia,c⟩⟩
  ·have hk:=hp _ h1;dsimp only at hk;refine⟨Y9.mpr ⟨λq hq=>?_,List.pairwise_append.mpr ⟨a.pw,b.pw,λx hx y hy=>?_⟩⟩,λq hq=>?_⟩
   ·rcases XZ.mp hq with z|z
    ·obtain⟨g1,g2,g3⟩:=a.of q z;exact⟨by dsimp only;lia,.inr g3⟩
    ·obtain⟨g1,g2,g3⟩:=b.of q z;exact⟨by dsimp only;lia,.inl g2⟩
   ·obtain⟨g1,g2,g3⟩:=a.of x hx;obtain⟨f1,f2,f3⟩:=b.of y hy;have:=hp x g1;exact⟨by lia,.inl (by lia)⟩
   ·rcases XU.mp hq with rfl|hq
    ·exact⟨h1,XS _,h2⟩
    ·rcases XZ.mp hq with z|z
     ·obtain⟨g1,g2,g3⟩:=a.of q z;exact⟨g1,by lia,by lia⟩
     ·obtain⟨g1,g2,g3⟩:=b.of q z;exact⟨g1,by lia,g3⟩
include hp in
theorem Jm:∀(l i j:Nat) (S:List NN),j-i<=l->ED ps i j S->(S.length:Int)<=mX ps i j:=by
 intro l
 induction l with
 |zero=>intro i j S hl s;rw[sP hp (by lia) s];exact CN hp
 |succ l ih =>
  intro i j S hl s
  by_cases h:i<j
  ·rcases (km hp h).mp s with s|⟨k,A,B,h1,h2,rfl,a,b⟩
   ·exact Int.le_trans (ih (i+1) j S (by lia) s) (jM hp h)
   ·have hk:=hp _ h1;dsimp only at hk;have g1:=ih (i+1) k A (by lia) a
    have g2:=ih (k+1) j B (by lia) b
    have g3:=kQ hp h1 h2;rw[Yt,Yg];lia
  ·rw[sP hp h s];exact CN hp
end
section
variable {ps:List NN}(hp:∀p∈ps,p.1<p.2){i j:Nat}
include hp in
theorem GR:∀(l i j:Nat),j-i<=l->ED ps i j (fX ps w1 i j):=by
 intro l
 induction l with
 |zero=>intro i j h;rw[e_ (by lia)];exact .nil
 |succ l ih =>
  intro i j h
  by_cases aA:i<j
  ·rw[iz hp aA];have hm:=eF (df (w:=w1) hp aA);cases hc:cX ps w1 i j with
   |none=>exact(km hp aA).mpr (.inl (ih _ _ (by lia)))
   |some k =>
    rw[hc]at hm;obtain⟨h1,h2,_⟩:=hm;have h3:=hp _ h1;dsimp only at h3;exact(km hp aA).mpr (.inr ⟨k,_,_,h1,h2,rfl,ih _ _ (by lia),ih _ _ (by lia)⟩)
  ·rw[e_ aA];exact .nil
end
def W3 (ps:List NN)(i j:Nat)(S:List NN):Prop:=ED ps i j S/\(S.length:Int)=mX ps i j
def Vm (p:Nat)(S:List NN):Prop:=∃t∈S,t.1=p\/t.2=p
section
variable {ps:List NN}{i j p:Nat}{S:List NN}
variable (hp:∀p∈ps,p.1<p.2)
include hp
theorem lP (s:ED ps i j S):(S.length:Int)<=mX ps i j:=Jm hp (j-i) i j S (XS _) s
theorem v7:∃S,W3 ps i j S:=⟨fX ps w1 i j,GR hp _ _ _ (XS _),GU hp⟩
omit hp
include hp
omit hp
include hp
end
abbrev TF (ps:List NN):Prop:=ps.Pairwise λp q=>p.1<q.1\/(p.1=q.1/\p.2<q.2)
section
end
section
end
theorem Fd {ps:List NN}(h:Ht (ps.map tI))(nd:ps.Nodup):TF ps:=by
 refine((List.pairwise_map.mp h).and nd).imp λ{p q} hh=>?_;obtain⟨z,ne⟩:=hh;have z:(if (q.1:Int)=p.1 then (if (q.2:Int)=p.2 then HT.lexLt [] [] else decide ((q.2:Int)<p.2)) else decide ((q.1:Int)<p.1))=false:=z
 by_cases e1:(q.1:Int)=p.1
 ·rw[if_pos e1]at z
  by_cases e2:(q.2:Int)=p.2
  ·exact absurd (Prod.ext (by lia) (by lia)) ne
  ·rw[if_neg e2]at z;have:=of_decide_eq_false z;lia
 ·rw[if_neg e1]at z;have:=of_decide_eq_false z;lia
theorem Bi {T:List NN}(h:T.Pairwise λa b=>sd a b\/sd b a):∃S:List NN,S.Perm T/\S.Pairwise sd:=by
 obtain⟨S,pm,e⟩:=ST.jG (sS (T.map tI));have hs:=sR (T.map tI);rw[e]at hs;have pw:S.Pairwise λa b=>sd a b\/sd b a:=(pm.pairwise_iff λ{a b} z=>z.symm).mpr h;have nd:S.Nodup:=pw.imp λ{a b} z e=>by subst e;unfold sd at z;lia
 refine⟨S,pm,((Fd hs nd).and pw).imp λ{a b} z=>z.2.resolve_right λq=>?_⟩;have:=q.1;have:=z.1;lia
section
end
def Fy (ps:List NN)(p:Nat):List NN:=ps.filter λt=>!(decide (t.1=p) || decide (t.2=p))
section
variable {ps:List NN}{p:Nat}
variable (hp:∀p∈ps,p.1<p.2)
include hp
end
abbrev PN:=Nat×Nat
section
end
def yH (t o:PN):Bool:=!gU (tI t) (tI o)&&!k9 (tI t) (tI o)
theorem yG {t o:PN}(ht:t.1<t.2)(ho:o.1<o.2):yH t o=true↔(o.2<t.1\/t.2<o.1\/(t.1<o.1/\o.2<t.2)\/(o.1<t.1/\t.2<o.2)):=by
 obtain⟨a,b⟩:=t;obtain⟨c,d⟩:=o;dsimp only at ht ho ⊢
 unfold yH;rw[Bool.and_eq_true_iff];constructor
 ·rintro⟨h1,h2⟩;have e1:∀x:Int,x∈tI (a,b)->x∈tI (c,d)->False:=λx g1 g2=>by
   rw[mB.mpr ⟨x,g1,g2⟩]at h1;cases h1
  have n1:a≠c:=λe=>e1 a (by simp[tI]) (by simp[tI,e])
  have n2:a≠d:=λe=>e1 a (by simp[tI]) (by simp[tI,e])
  have n3:b≠c:=λe=>e1 b (by simp[tI]) (by simp[tI,e])
  have n4:b≠d:=λe=>e1 b (by simp[tI]) (by simp[tI,e])
  have c':¬ ((((a:Nat):Int)<c/\((c:Nat):Int)<b/\((b:Nat):Int)<d)\/(((c:Nat):Int)<a/\((a:Nat):Int)<d/\((d:Nat):Int)<b)):=λz=>by
   have:k_ (a:Int) b c d=true:=nX.mpr z;have h2:(!k_ (a:Int) b c d)=true:=h2;rw[this]at h2;cases h2
  lia
 ·intro h;constructor
  ·have:gU (tI (a,b)) (tI (c,d))=false:=Bool.eq_false_iff.mpr λz=>by
    obtain⟨x,z1,z2⟩:=mB.mp z;simp only[tI,XU,YC,or_false]at z1 z2;lia
   rw[this];rfl
  ·have:k9 (tI (a,b)) (tI (c,d))=false:=Bool.eq_false_iff.mpr λz=>by
    have z:k_ (a:Int) b c d=true:=z;have:=nX.mp z;lia
   rw[this];rfl
section
end
section
variable {ps qs:List NN}{p n:Nat}
theorem MT {t u:NN}(ht:t.1<t.2)(hu:u.1<u.2)(h:sd t u\/sd u t):yH t u=true:=(yG ht hu).mpr (by unfold sd at h;lia)
theorem IG {t u:NN}(ht:t.1<t.2)(hu:u.1<u.2)(h:yH t u=true):(sd t u\/sd u t)/\∀p,t.1=p\/t.2=p->u.1≠p/\u.2≠p:=by
 have:=(yG ht hu).mp h;unfold sd;exact⟨by lia,λp hp=>by lia⟩
theorem jK {t:NN}:t∈Fy ps p↔t∈ps/\t.1≠p/\t.2≠p:=by
 unfold Fy;rw[Ym];simp
theorem zE (hp:∀t∈ps,t.1<t.2/\t.2<n)(hq:∀t∈qs,t.1<t.2/\t.2<n)(same:∀t:NN,t.1≠p->t.2≠p->(t∈qs↔t∈ps)):
  mX (Fy ps p) 0 n<=mX qs 0 n/\(∀t∈qs,t.1=p\/t.2=p->1+mX (ps.filter (yH t)) 0 n<=mX qs 0 n)/\(mX qs 0 n=mX (Fy ps p) 0 n\/∃t∈qs,(t.1=p\/t.2=p)/\mX qs 0 n=1+mX (ps.filter (yH t)) 0 n):=by
 have EN:∀t∈ps,t.1<t.2:=λt h=>(hp t h).1;have fy:∀t∈qs,t.1<t.2:=λt h=>(hq t h).1;have hf:∀{f:NN->Bool},∀t∈ps.filter f,t.1<t.2:=λt h=>EN t (Ym.mp h).1;have a1:mX (Fy ps p) 0 n<=mX qs 0 n:=by
  obtain⟨S,s,e⟩:=v7 (i:=0) (j:=n) (λt h=>EN t (jK.mp h).1:∀t∈Fy ps p,t.1<t.2);rw[<- e];exact lP fy ⟨s.pw,λt ht=>by
   obtain⟨h1,h2⟩:=s.of t ht;obtain⟨g1,g2,g3⟩:=jK.mp h1;exact⟨(same t g2 g3).mpr g1,h2⟩⟩
 have a2:∀t∈qs,t.1=p\/t.2=p->1+mX (ps.filter (yH t)) 0 n<=mX qs 0 n:=λt ht Ii=>by
  obtain⟨S,s,e⟩:=v7 (i:=0) (j:=n) (hf (f:=yH t));have hu:∀u∈S,u∈ps/\(sd t u\/sd u t)/\u.1≠p/\u.2≠p:=λu hu=>by
   obtain⟨g1,g2⟩:=Ym.mp (s.of u hu).1;obtain⟨g3,g4⟩:=IG (fy t ht) (EN u g1) g2;exact⟨g1,g3,g4 p Ii⟩
  obtain⟨S',pm,pw⟩:=Bi (T:=t::S) (Y9.mpr ⟨λu h=>(hu u h).2.1,s.pw.imp .inl⟩);have:=lP fy (i:=0) (j:=n) (S:=S') ⟨pw,λu h=>by
   rcases XU.mp (pm.mem_iff.mp h)with rfl|z
   ·exact⟨ht,Yh _,(hq u ht).2⟩
   ·exact⟨(same u (hu u z).2.2.1 (hu u z).2.2.2).mpr (hu u z).1,(s.of u z).2⟩⟩
  rw[pm.length_eq,Yt]at this;rw[<- e];lia
 refine⟨a1,a2,?_⟩;obtain⟨S,s,e⟩:=v7 (i:=0) (j:=n) fy
 by_cases hd:Vm p S
 ·obtain⟨t,ht,Ii⟩:=hd;obtain⟨A,B,rfl⟩:=List.append_of_mem ht;have Qf:=(s.of t ht).1;refine .inr ⟨t,Qf,Ii,Int.le_antisymm ?_ (a2 t Qf Ii)⟩;have pw:=List.pairwise_append.mp s.pw;have pb:=Y9.mp pw.2.1;have:=lP (hf (f:=yH t)) (i:=0) (j:=n) (S:=A++B) ⟨List.pairwise_append.mpr ⟨pw.1,pb.2,λa ha b hb=>pw.2.2 a ha b (Yd _ hb)⟩,λu hu=>by
   have hm:u∈A++t::B:=by
    rcases XZ.mp hu with z|z
    ·exact Yq _ z
    ·exact Yn _ (Yd _ z)
   have hr:sd t u\/sd u t:=by
    rcases XZ.mp hu with z|z
    ·exact .inr (pw.2.2 u z t Yr)
    ·exact .inl (pb.1 u z)
   have h1:=s.of u hm;have h2:=MT (fy t Qf) (fy u h1.1) hr;have h3:=(IG (fy t Qf) (fy u h1.1) h2).2 p Ii;exact⟨Ym.mpr ⟨(same u h3.1 h3.2).mp h1.1,h2⟩,h1.2⟩⟩
  rw[<- e];rw[Yg]at this;rw[Yg,Yt];lia
 ·refine .inl (Int.le_antisymm ?_ a1);rw[<- e];exact lP (λt h=>EN t (jK.mp h).1) ⟨s.pw,λt ht=>by
   have h1:=s.of t ht;have h2:t.1≠p/\t.2≠p:=⟨λz=>hd ⟨t,ht,.inl z⟩,λz=>hd ⟨t,ht,.inr z⟩⟩;exact⟨jK.mpr ⟨(same t h2.1 h2.2).mp h1.1,h2⟩,h1.2⟩⟩
end
section
variable {ks:List Int}{rs:List (List Int)}{g:Int}{p:Nat}{x:Int}
theorem gn {q:NN}:q∈tK ks rs g↔q.1<q.2/\q.2<ks.length/\tX ks rs g q.1 q.2=true:=by
 obtain⟨a,b⟩:=q;unfold tK;rw[List.mem_flatMap];constructor
 ·intro h;obtain⟨c,hc,h⟩:=h;obtain⟨k,hk,e⟩:=Yl.mp h;cases e;obtain⟨h1,h2⟩:=Ym.mp hk;have:=YH.mp h1;exact⟨by show a<a+1+k;lia,by show a+1+k<_;lia,h2⟩
 ·rintro⟨h1,h2,h3⟩;dsimp only at h1 h2 h3;refine⟨a,YH.mpr (by lia),Yl.mpr ⟨b-(a+1),Ym.mpr ⟨YH.mpr (by lia),?_⟩,?_⟩⟩
  ·rw[show a+1+(b-(a+1))=b by lia];exact h3
  ·rw[show a+1+(b-(a+1))=b by lia]
theorem DH {a b:Nat}:lL ks rs a b=lL ks rs b a:=by unfold lL;exact Bool.or_comm _ _
theorem ic {i:Nat}(h:p<ks.length):(ks.set p x).getD i 0=if i=p then x else ks.getD i 0:=by
 rw[YE,Zz]
 by_cases e:p=i
 ·rw[if_pos e,if_pos h,if_pos e.symm];rfl
 ·rw[if_neg e,if_neg (YW e),YE]
def mm (p o:Nat):NN:=(min p o,max p o)
def Qr (ks:List Int)(rs:List (List Int))(g:Int)(p:Nat):Int:=mX (Fy (tK ks rs g) p) 0 ks.length
def Mv (ks:List Int)(rs:List (List Int))(g:Int)(p o:Nat):Int:=1+mX ((tK ks rs g).filter (yH (mm p o))) 0 ks.length
def Ly (g:Int)(p o:Nat):Bool:=decide (g<(((o:Int)-(p:Int)).natAbs:Int))
def rY (ks:List Int)(rs:List (List Int))(g:Int)(p:Nat)(x:Int):Int:=mX (tK (ks.set p x) rs g) 0 ks.length
theorem Ey (g0:0<=g)(h:p<ks.length):ek ([Qr ks rs g p]++(((X7 ks.length).filter λo=>Ly g p o).filter λo=>decide ([x,ks.getD o 0]∈eW rs)).map λo=>Mv ks rs g p o)=some (rY ks rs g p x):=by
 have hl:(ks.set p x).length=ks.length:=List.length_set;have hp:∀t∈tK ks rs g,t.1<t.2/\t.2<ks.length:=λt ht=>⟨(gn.mp ht).1,(gn.mp ht).2.1⟩;have hq:∀t∈tK (ks.set p x) rs g,t.1<t.2/\t.2<ks.length:=λt ht=>⟨(gn.mp ht).1,by have:=(gn.mp ht).2.1;rwa [hl]at this⟩
 have same:∀t:NN,t.1≠p->t.2≠p->(t∈tK (ks.set p x) rs g↔t∈tK ks rs g):=λt h1 h2=>by
  rw[gn,gn,hl];unfold tX lL;rw[ic h,ic h,if_neg h1,if_neg h2]
 have key:∀o,o<ks.length->(mm p o∈tK (ks.set p x) rs g↔Ly g p o=true/\[x,ks.getD o 0]∈eW rs):=λo ho=>by
  rw[gn,hl];unfold mm Ly tX;dsimp only;rw[Yu,decide_eq_true_eq,decide_eq_true_eq];rcases aaS p o with z|z|z
  ·rw[Nat.min_eq_left (by lia),Nat.max_eq_right (by lia),<- wB,ic h,ic h,if_pos rfl,if_neg (by lia),decide_eq_true_eq]
   constructor
   ·rintro⟨_,_,h1,h2⟩;exact⟨by lia,h2⟩
   ·rintro⟨h1,h2⟩;exact⟨z,ho,by lia,h2⟩
  ·subst z;constructor
   ·rintro⟨h1,_⟩;lia
   ·rintro⟨h1,_⟩;lia
  ·rw[Nat.min_eq_right (by lia),Nat.max_eq_left (by lia),DH,<- wB,ic h,ic h,if_pos rfl,if_neg (by lia),decide_eq_true_eq]
   constructor
   ·rintro⟨_,_,h1,h2⟩;exact⟨by lia,h2⟩
   ·rintro⟨h1,h2⟩;exact⟨z,h,by lia,h2⟩
 obtain⟨c1,c2,c3⟩:=zE hp hq same;have VZ:∀o,(mm p o).1=p\/(mm p o).2=p:=λo=>by unfold mm;dsimp only;lia
 refine rq ?_ λy hy=>?_
 ·rcases c3 with e|⟨t,ht,Ii,e⟩
  ·exact Yq _ (by unfold rY;rw[e];exact XW.mpr rfl)
  ·have OT:=hq t ht;obtain⟨o,ho,rfl⟩:∃o,o<ks.length/\t=mm p o:=by
    obtain⟨a,b⟩:=t;dsimp only at Ii OT;rcases Ii with z|z
    ·exact⟨b,OT.2,by unfold mm;rw[Nat.min_eq_left (by lia),Nat.max_eq_right (by lia),z]⟩
    ·exact⟨a,by lia,by unfold mm;rw[Nat.min_eq_right (by lia),Nat.max_eq_left (by lia),z]⟩
   obtain⟨k1,k2⟩:=(key o ho).mp ht;refine Yn _ (Yl.mpr ⟨o,Ym.mpr ⟨Ym.mpr ⟨YH.mpr ho,k1⟩,decide_eq_true k2⟩,?_⟩);unfold Mv rY;exact e.symm
 ·rcases XZ.mp hy with z|z
  ·rw[XW.mp z];exact c1
  ·obtain⟨o,ho,rfl⟩:=Yl.mp z;obtain⟨h1,h2⟩:=Ym.mp ho;obtain⟨h3,h4⟩:=Ym.mp h1;have ho:=YH.mp h3;exact c2 (mm p o) ((key o ho).mpr ⟨h4,of_decide_eq_true h2⟩) (VZ o)
end
theorem Ks {α Acc:Type}{γ:bW}{τ:aN}{Af:Acc->aL->(aL->Acc->Prop)->Prop}{l:List α}{f:α->D}{k:Kd}{n6:aL}{o0:Acc}{F:aL->Acc->Prop}{ds:List D}(S:Nat->Acc->Prop)(Ip:ds=l.map f)(h0:S 0 o0)
  (h:∀i x,l[i]?=some x->∀(x0:Option B) (o:Acc) (J:aL->Acc->Prop),S i o->(∀x0 o',S (i+1) o'->J (x0::n6) o')->γ (f x) (sk k (f x)) (x0::n6) λβ1=>τ β1 λt β2=>if t=true then Af o β2 J else J β2 o)
  (q:∀x0 o,S l.length o->F (x0::n6) o) {y0:Option B}:gG γ τ Af ds k (y0::n6) o0 F:=by
 subst Ip;refine⟨λi β o=>(∃x0,β=x0::n6)/\S i o,⟨⟨_,rfl⟩,h0⟩,?_,?_⟩
 ·rintro i d β o hd ⟨⟨x0,rfl⟩,hs⟩;rw[X5]at hd;obtain⟨x,hx,rfl⟩:=X9.mp hd;exact h i x hx x0 o _ hs λx0 o' z=>⟨⟨_,rfl⟩,z⟩
 ·rintro β o ⟨⟨x0,rfl⟩,hs⟩;rw[XN]at hs;exact q x0 o hs
theorem Bc {α:Type}{l:List α}{i:Nat}{x y:α}(h:l[i]?=some x):y∈l.take (i+1)↔y∈l.take i\/y=x:=by
 rw[YO,h,XZ];simp
theorem take_snoc {α:Type}{l:List α}{i:Nat}{x:α}(h:l[i]?=some x):l.take (i+1)=l.take i++[x]:=by
 rw[YO,h];rfl
def j9:FD:=λds R=>ds=[]/\∀ks fs:List Int,ks.length<=24->fs≠[]->fs.length<=24->(∀x∈ks,x∈fs)->R (.tup [.lst (ks.map D.int),.lst (fs.map D.int)])
theorem j9.mono:cA j9:=λds R R' k h=>by obtain⟨e,q⟩:=h;exact⟨e,λks fs a b c d=>k _ (q ks fs a b c d)⟩
def TL (fs:List Int)(ps:List (List Int)):Prop:=∀t∈ps,∀x∈t,x∈fs++[5,6,7]
def j7:FD:=λds R=>∃fs:List Int,ds=[.lst (fs.map D.int)]/\fs≠[]/\fs.length<=24/\∀ps:List (List Int),ps.length<=300->Pairs ps->TL fs ps->R (.lst (ps.map kD))
theorem j7.mono:cA j7:=λds R R' k h=>by obtain⟨fs,e,h1,h2,q⟩:=h;exact⟨fs,e,h1,h2,λps a b c=>k _ (q ps a b c)⟩
structure HE (ks:List Int)(rs:List (List Int))(l:List Int):Prop where
 up:l.Pairwise (· < ·)
 mem:∀x,x∈l↔x∈ks\/∃t∈rs,x∈t
theorem HE.uniq {ks:List Int}{rs:List (List Int)}{l m:List Int}(a:HE ks rs l)(h1:m.Pairwise (· < ·))(h2:∀x,x∈m↔x∈ks\/∃t∈rs,x∈t):m=l :=
 List.Perm.eq_of_pairwise (le:=(·<=·)) (λx y _ _ p q=>Int.le_antisymm p q) (h1.imp Int.le_of_lt) (a.up.imp Int.le_of_lt) ((List.perm_ext_iff_of_nodup (h1.imp λz e=>by lia) (a.up.imp λz e=>by lia)).mpr λx=>(h2 x).trans (a.mem x).symm)
def insI (x:Int):List Int->List Int
 |[]=>[x]
 |y::l=>if x<y then x::y::l else if x=y then y::l else y::insI x l
theorem mY {x z:Int}:∀{l:List Int},z∈insI x l↔z=x\/z∈l
 |[]=>by simp[insI]
 |y::l=>by
  unfold insI
  split
  ·exact XU
  ·split
   ·rename_i h
    rw[XU,h];exact⟨.inr,λq=>q.elim .inl id⟩
   ·rw[XU,XU,mY];exact⟨λq=>q.elim (λe=>.inr (.inl e)) λq=>q.elim .inl λq=>.inr (.inr q),λq=>q.elim (λe=>.inr (.inl e)) λq=>q.elim .inl λq=>.inr (.inr q)⟩
theorem xg {x:Int}:∀{l:List Int},l.Pairwise (· < ·)->(insI x l).Pairwise (· < ·)
 |[],_=>List.pairwise_singleton _ _
 |y::l,h=>by
  have h':=Y9.mp h;unfold insI
  split
  ·rename_i z
   refine Y9.mpr ⟨λu hu=>?_,h⟩;rcases XU.mp hu with rfl|hu
   ·exact z
   ·have:=h'.1 u hu;lia
  ·split
   ·exact h
   ·refine Y9.mpr ⟨λu hu=>?_,xg h'.2⟩;rcases mY.mp hu with rfl|hu
    ·lia
    ·exact h'.1 u hu
theorem Hr (ks:List Int)(rs:List (List Int)):∃l,HE ks rs l:=by
 have key:∀m:List Int,∃l:List Int,l.Pairwise (· < ·)/\∀x,x∈l↔x∈m:=λm=>by
  induction m with
  |nil=>exact⟨[],List.Pairwise.nil,λ_=>Iff.rfl⟩
  |cons y m ih =>
   obtain⟨l,h1,h2⟩:=ih;exact⟨insI y l,xg h1,λx=>by rw[mY,h2,XU]⟩
 obtain⟨l,h1,h2⟩:=key (ks++rs.flatten);exact⟨l,h1,λx=>by rw[h2,XZ,List.mem_flatten]⟩
def ia (ks:List Int)(rs:List (List Int))(g:Int)(p:Nat)(l:List Int):Int:=(ek (l.map (rY ks rs g p))).getD 0
def yC (ks:List Int)(rs:List (List Int))(g:Int)(p:Nat)(l:List Int):D:=.tup [.int (ia ks rs g p l),.lst ((l.filter λx=>decide (rY ks rs g p x=ia ks rs g p l)).map D.int)]
theorem n_ {ks:List Int}{rs:List (List Int)}{g:Int}{p:Nat}{l:List Int}(h:l≠[]):ek (l.map (rY ks rs g p))=some (ia ks rs g p l):=by
 unfold ia;cases l with
 |nil=>exact absurd rfl h
 |cons _ _=>rfl
structure Av (ks:List Int)(rs:List (List Int))(g:Int)(p:Nat)(l:List Int):Prop where
 k:ks.length<=28
 r:rs.length<=300
 pr:Pairs rs
 g:0<=g
 p:p<ks.length
 all:HE ks rs l
 uD:∃fs:List Int,fs.length<=50/\(∀x∈ks,x∈fs)/\∀t∈rs,∀x∈t,x∈fs
theorem Av.fw {ks:List Int}{rs:List (List Int)}{g:Int}{p:Nat}{l:List Int}(h:Av ks rs g p l){ns:List Int}(s:∀x∈ns,x∈ks\/∃t∈rs,x∈t):SI.uD ns:=by
 obtain⟨fs,h1,h2,h3⟩:=h.uD;exact yi (SI.DJ (ns:=fs) (by lia)) λx hx=>(s x hx).elim (h2 x) λz=>by obtain⟨t,ht,z⟩:=z;exact h3 t ht x z
theorem Av.ne {ks:List Int}{rs:List (List Int)}{g:Int}{p:Nat}{l:List Int}(h:Av ks rs g p l):l≠[]:=λz=>by
 have hp:=h.p;have:=(h.all.mem ks[p]).mpr (.inl (Y7 hp));rw[z]at this;cases this
def rX (ks:List Int)(rs:List (List Int))(g:Int)(p m:Nat):List (Int×Int):=(((X7 ks.length).take m).filter λo=>Ly g p o).map λ(o:Nat)=>((o:Int),Mv ks rs g p o)
theorem Gi {ks:List Int}{rs:List (List Int)}{g:Int}{p m:Nat}{u:Int×Int}(h:u∈rX ks rs g p m):∃o:Nat,o<ks.length/\u=((o:Int),Mv ks rs g p o):=by
 obtain⟨o,ho,rfl⟩:=Yl.mp h;exact⟨o,YH.mp (List.mem_of_mem_take (Ym.mp ho).1),rfl⟩
theorem sC {f:Nat->Int}{o:Nat}:∀{l:List Nat},o∈l->sF (l.map λ(o:Nat)=>((o:Int),f o)) (o:Int)=some (f o)
 |[],h=>by cases h
 |y::l,h=>by
  unfold sF;rw[X4,YF]
  by_cases e:y=o
  ·rw[decide_eq_true (show (y:Int)=o by lia),e];rfl
  ·rw[decide_eq_false (show ¬ (y:Int)=o by lia)]
   exact sC ((XU.mp h).resolve_left λz=>e z.symm)
theorem sD {f:Int->Int}{x:Int}:∀{l:List Int},x∈l->sF (l.map λx=>(x,f x)) x=some (f x)
 |[],h=>by cases h
 |y::l,h=>by
  unfold sF;rw[X4,YF]
  by_cases e:y=x
  ·rw[decide_eq_true e,e];rfl
  ·rw[decide_eq_false e];exact sD ((XU.mp h).resolve_left λz=>e z.symm)
theorem qA {t:Int}:∀{l:List (Int×Int)},(∀u∈l,u.1≠t)->qD (oJ l) t=none
 |[],_=>rfl
 |y::l,h=>by
  have ih:=qA (t:=t) (l:=l) λu hu=>h u (Yd _ hu);unfold qD oJ at *
  rw[X4,YF,decide_eq_false (h y Yr)];exact ih
theorem Fv {t m:Int}{l:List (Int×Int)}(h:∀u∈l,u.1≠t):tw (oJ l) t (.int m)=oJ (l++[(t,m)]):=by
 unfold tw;rw[A8,qA h,if_neg (by decide)]
 unfold oJ;rw[X1];rfl
theorem Jd {ks:List Int}{rs:List (List Int)}{g:Int}{p m:Nat}(hm:m<ks.length):∀u∈rX ks rs g p m,u.1≠(m:Int):=λu hu=>by
 obtain⟨o,ho,rfl⟩:=Yl.mp hu;have h:=(Ym.mp ho).1;rw[List.take_range,Nat.min_eq_left (by lia)]at h
 have:=YH.mp h;show (o:Int)≠m;lia
theorem Bb {ks:List Int}{rs:List (List Int)}{g:Int}{p m:Nat}(hm:m<ks.length):rX ks rs g p (m+1)=if Ly g p m=true then rX ks rs g p m++[((m:Int),Mv ks rs g p m)] else rX ks rs g p m:=by
 unfold rX;rw[take_snoc (x:=m) (by rw[Y3 hm]),ZF,X1]
 split
 ·rename_i h;rw[Zb,if_pos h];rfl
 ·rename_i h;rw[Zb,if_neg h];simp
theorem xi {ks:List Int}{rs:List (List Int)}{g:Int}{p m:Nat}:(rX ks rs g p m).length<=ks.length:=by
 unfold rX;rw[XN];refine Yz (YD _ _) ?_;rw[Yy,Yx];lia
theorem Hn {ks:List Int}{rs:List (List Int)}{g:Int}{p:Nat}{x:Int}(g0:0<=g)(h:p<ks.length):ek ([Qr ks rs g p]++((rX ks rs g p ks.length).filter λu=>decide ([x,ks.getD u.1.toNat 0]∈eW rs)).map λu=>u.2)=some (rY ks rs g p x):=by
 rw[<- Ey g0 h];unfold rX;rw[List.filter_map,Y_,Zf (by rw[Yx];exact XS _)]
 rfl
def vZ (ks:List Int)(rs:List (List Int))(g:Int)(p:Nat)(l:List Int):List (Int×Int):=l.map λx=>(x,rY ks rs g p x)
theorem Gd {ks:List Int}{rs:List (List Int)}{g:Int}{p:Nat}{l:List Int}(h:l≠[]):ek ((vZ ks rs g p l).map (·.2))=some (ia ks rs g p l):=by
 unfold vZ;rw[Y_];exact n_ h
def jk:FD:=λds R=>∃ks rs g p l,ds=[.lst (List.map D.int ks),.lst (List.map kD rs),.int g,.int ((p:Nat):Int)]/\Av ks rs g p l/\R (yC ks rs g p l)
theorem jk.mono:cA jk:=λds R R' k h=>by obtain⟨ks,rs,g,p,l,e,h1,q⟩:=h;exact⟨ks,rs,g,p,l,e,h1,k _ q⟩
end L2.Q
namespace oz
open PySem L2 L2.Q
section
variable {P:XX}{w:X6}{K:PySem.W.Frag}{mg:Str->Option XO}{base:Heap}
theorem bO:aG ["pot","many","names","unlike","few","kinds"] ["pot"] (ay fo):=mkS
theorem Cy {G2 ym} (Ml:D0 K mg G2 ym) {Lx wC} (dT:D1 K mg Lx wC) (B:HD mg):aJ P w K mg base bN 2 G2 ym ["pot"] (kz P w pL false j9):=by
 have GT:aJ P w K mg base bN 1 _ _ _ (kz P w pL true bV):=l0 dT.F;refine J9 Ml.F bO (λds R OJ=> by obtain⟨e,_⟩ := OJ;subst e;rfl) λcF A outer s H E IO hr=>⟨_,(ah (a8 (i:=1) (a_ (ih:=0) bV.mono GT (hr.mono (by decide)) dT.m dT.F.kp dT.b (aa (aM af bD (bq (aa aj (aa aj ae))) (a_ (ih:=0) bV.mono GT (hr.mono (by decide)) dT.m dT.F.kp dT.b (aa aj ae))) ae)) bO.nd)
    (ah (cE (i:=2) (λ_=>(bq (aa aj (aa aj (aa (tL jB aj) (aa aj (aa (aH af (bH.m a7) (aH af (bH.m lY) aj aj) aj) (aa (aH af (bH.m a7) aj (aH af (bH.m lY) aj aj)) (aa (a_ (ih:=0) bV.mono GT (hr.mono (by decide)) dT.m dT.F.kp dT.b (aa (aH af (bH.m lY) aj aj) ae)) ae))))))))) bO.nd)
    (ah (a8 (i:=3) (aH aV aF aj (a_ (ih:=0) bV.mono GT (hr.mono (by decide)) dT.m dT.F.kp dT.b (aa (aM af bD (bq (aa aj (aa aj ae))) (fT af (bo.m qk) B.int rT (aa (gj af (bH.m (dc hr.units)) (a_ (ih:=0) bV.mono GT (hr.mono (by decide)) dT.m dT.F.kp dT.b (aa aj ae)) aj) ae))) ae))) bO.nd)
    (jI (c5 (aP af (bH.m vW) (ab (i:=3)) aj) (aw (cE (i:=2) (λ_=>(aH aV aF (ab (i:=2)) (qW rfl B.list B.range (aa aj (aa aj ae))))) bO.nd)) bA)
    (ah (a8 (i:=4) (V1 ["k","names","pot"] [none,some 2,some 0] (by rfl) (by decide:(["k","names","pot"]:List Str).Nodup) rfl (bp B.range (aa (ab (i:=3)) ae)) (λ_ _ _ _ _ _=>(ak (i:=0) (by decide:(["k","names","pot"]:List Str).Nodup))) (λ_ _ _ _ _ _=>cN) (λ_ _ _ _ _ _=>(BP (i:=1) (a_ (ih:=2) bV.mono GT (hr.mono (by decide)) dT.m dT.F.kp dT.b (aa (aR af (bo.m bj) B.len cY (aa (ab (i:=1)) ae)) ae))))) bO.nd)
    (ah (Bq (i:=5) false ["point","few","pot"] [none,some 4,some 0] (by rfl) (by decide:(["point","few","pot"]:List Str).Nodup) rfl (λ_=>(bp B.range (aa (ab (i:=1)) ae))) (λ_ _ _ _ _ _=>(ak (i:=0) (by decide:(["point","few","pot"]:List Str).Nodup))) (λ_ _ _ _ _ _=>cN) (λ_ _ _ _ _ _=>(aM af bD (ab (i:=1)) (a_ (ih:=2) bV.mono GT (hr.mono (by decide)) dT.m dT.F.kp dT.b (aa (aR af (bo.m bj) B.len cY (aa (ab (i:=1)) ae)) ae)))) bO.nd)
    (aw (a9 (aY (aa (ab (i:=5)) (aa (ab (i:=4)) ae))))))))))),λds R h=>?_⟩
 obtain⟨rfl,q⟩:=h;refine⟨rfl,trivial,trivial,f7,trivial,rfl,trivial,rfl,trivial,2,rfl,by lia,by lia,λr r0 r1=>pick r0 (by simpa using r1) λd hd=>?_⟩
 obtain⟨m,rfl,m0,m1⟩:∃m:Int,d=.int m/\0<m/\m<=25:=by
  simp only[XU,YC,or_false]at hd;rcases hd with rfl|rfl
  ·exact⟨9,rfl,by lia,by lia⟩
  ·exact⟨25,rfl,by lia,by lia⟩
 refine⟨trivial,rfl,trivial,m,rfl,m0,by lia,λn n0 n1=>?_⟩
 refine⟨trivial,trivial,_,rfl,rfl,trivial,trivial,trivial,_,wJ,trivial,_,rfl,trivial,trivial,trivial,_,wJ,_,rfl,trivial,?_⟩;refine⟨rfl,trivial,_,wJ,trivial,rfl,trivial,10 ^ 30,rfl,by decide,by decide,λx x0 x1=>⟨trivial,cZ (by show 7<=1000;decide),trivial,?_⟩⟩
 refine⟨trivial,rfl,trivial,trivial,f7,trivial,rfl,trivial,rfl,trivial,4,rfl,by lia,by lia,λr r0 r1=>⟨trivial,_,fD _ _,trivial,_,rfl,?_⟩⟩
 obtain⟨u,eu,u0,u1⟩:∃u:Int,Ae (.lst [.int 6,.int 24]) (.int (if decide (r=3)=true then 1 else 0))=some (.int u)/\0<u/\u<=24:=by
  by_cases h:r=3
  ·rw[if_pos (decide_eq_true h)];exact⟨24,rfl,by lia,by lia⟩
  ·rw[if_neg (by rw[decide_eq_false h];exact aak)];exact⟨6,rfl,by lia,by lia⟩
 refine⟨_,eu,trivial,rfl,trivial,u,rfl,u0,by lia,λv v0 v1=>⟨_,rfl,?_⟩⟩
 refine⟨λβ=>∃ns:List Int,β=[some (.hand pL),some (.val true (.int n)),some (.own (.lst (ns.map D.int))),some (.val true (.int (1+v))),none,none]/\1+v<=ns.length/\ns.length<=24,?_,?_⟩
 ·refine⟨_,rfl,trivial,_,rfl,_,rfl,rF (λh=>?_) (λh=>⟨[0,1,-1,7,10 ^ 30-1,1-10 ^ 30,x],rfl,by show 1+v<=7;lia,by show 7<=24;decide⟩)⟩
  refine⟨_,rfl,trivial,trivial,trivial,50,67,rfl,⟨by decide,by decide,by decide,by decide⟩,by decide,?_⟩
  have ea:Hh (.lst ([0,1,-1,7,10 ^ 30-1,1-10 ^ 30,x].map D.int)) (.lst (mL 50 (67-50:Int).toNat))=some (.lst (([0,1,-1,7,10 ^ 30-1,1-10 ^ 30,x]++(X7 17).map λk:Nat=>50+(k:Int)).map D.int)):=by
   rw[X1,Y_];exact h8 (by show 7+17<=1000000;decide)
  exact⟨_,ea,.inl ⟨iA (f:=id),trivial,_,rfl,by show 1+v<=24;lia,by show 24<=24;decide⟩⟩
 rintro β ⟨ns,rfl,hv,hl⟩;refine⟨_,rfl,trivial,1+v,rfl,by lia,by lia,trivial,?_⟩
 refine⟨λi β o=>i<=(1+v).toNat/\∃(ms fs:List Int) (y0:Option Q.B),β=[y0,some (.own (.lst (ms.map D.int))),some (.hand pL)]/\ms.length=ns.length-i/\o=fs.map D.int/\fs.length=i,⟨Yh _,ns,[],_,rfl,rfl,rfl,rfl⟩,?_,?_⟩
 ·rintro i d β o hd ⟨_,ms,fs,y0,rfl,h1,rfl,h2⟩;obtain⟨hi,rfl⟩:=bU hd;refine⟨⟨_,rfl⟩,rfl,_,rfl,trivial,_,rfl,trivial,rfl,trivial,_,rfl,by rw[XN];lia,by rw[XN];lia,λr r0 r1=>?_⟩
  rw[XN]at r1;obtain⟨k,rfl⟩:∃k:Nat,r=k:=⟨r.toNat,by lia⟩
  have hk:k<ms.length:=by lia
  refine⟨ms.map D.int,k,k,.int ms[k],rfl,rfl,by lia,by lia,by rw[XN];exact Gs rfl hk,by rw[X5,XY hk];rfl,?_⟩
  have ee:(ms.map D.int).eraseIdx k=(ms.eraseIdx k).map D.int:=(jL ms k).symm;refine⟨trivial,by rw[XN,Y1];lia,hi,ms.eraseIdx k,fs++[ms[k]],_,by rw[<- ee];rfl,by rw[List.length_eraseIdx,if_pos hk];lia,by rw[sU],by rw[Yg,h2];rfl⟩
 ·rintro β o ⟨_,ms,fs,y0,rfl,h1,rfl,h2⟩;rw[cy]at h2;refine⟨⟨⟨_,rfl⟩,rfl,trivial⟩,?_⟩;refine⟨_,rfl,trivial,n,rfl,by lia,by lia,trivial,?_⟩
  refine⟨λi β o=>i<=n.toNat/\∃(ks:List Int) (y0:Option Q.B),β=[y0,some (.val true (.lst (fs.map D.int))),some (.hand pL)]/\o=ks.map D.int/\ks.length=i/\∀x∈ks,x∈fs,⟨Yh _,[],_,rfl,rfl,rfl,λ_ z=>(nomatch z)⟩,?_,?_⟩
  ·rintro i d β o hd ⟨_,ks,y0,rfl,rfl,h3,hs⟩;obtain⟨hi,rfl⟩:=bU hd;refine⟨_,rfl,trivial,rfl,_,rfl,trivial,_,rfl,trivial,rfl,trivial,_,rfl,by rw[XN];lia,by rw[XN];lia,λr r0 r1=>?_⟩
   rw[XN]at r1;obtain⟨k,rfl⟩:∃k:Nat,r=k:=⟨r.toNat,by lia⟩
   have hk:k<fs.length:=by lia
   refine⟨.int fs[k],jR (i:=k) rfl (by rw[X5,XY hk];rfl),trivial,by rw[XN,Y1];lia,hi,ks++[fs[k]],_,rfl,by rw[sU],by rw[Yg,h3];rfl,λx hx=>(XZ.mp hx).elim (hs x) λz=>by rw[XW.mp z];exact Y7 hk⟩
  ·rintro β o ⟨_,ks,y0,rfl,rfl,h3,hs⟩;rw[cy]at h3;have hf:fs≠[]:=λz=>by rw[z]at h2;simp at h2;lia
   exact⟨⟨rfl,trivial⟩,_,rfl,trivial,_,rfl,trivial,f7,.inr ⟨trivial,rfl,q ks fs (by lia) hf (by lia) hs⟩⟩
theorem cO:aG ["pot","few","found","k","pair"] ["pot","few"] (ay fm):=mkS
theorem Cs {G1 yj} (Mj:D2 K mg G1 yj) {Lx wC} (dT:D1 K mg Lx wC) (B:HD mg):aJ P w K mg base bN 2 G1 yj ["pot","few"] (kz P w pL true j7):=by
 have GT:aJ P w K mg base bN 1 _ _ _ (kz P w pL true bV):=l0 dT.F;refine J9 Mj.F cO (λds R OI=> by obtain⟨fs,e,_⟩ := OI;subst e;rfl) λcF A outer s H E IO hr=>⟨_,(ah (cE (i:=2) (λ_=>(bq ae)) cO.nd)
    (ah (dG Y4 rfl (bp B.range (aa (a_ (ih:=0) bV.mono GT (hr.mono (by decide)) dT.m dT.F.kp dT.b (aa (aM af bD (bq (aa aj (aa aj (aa aj (aa aj ae))))) (a_ (ih:=0) bV.mono GT (hr.mono (by decide)) dT.m dT.F.kp dT.b (aa aj ae))) ae)) ae)) (ak (i:=3) cO.nd) (ah (a8 (i:=4) (aY (aa (aM af bD (ab (i:=1)) (a_ (ih:=0) bV.mono GT (hr.mono (by decide)) dT.m dT.F.kp dT.b (aa (aR af (bo.m bj) B.len cY (aa (ab (i:=1)) ae)) ae))) (aa (aM af bD (ab (i:=1)) (a_ (ih:=0) bV.mono GT (hr.mono (by decide)) dT.m dT.F.kp dT.b (aa (aR af (bo.m bj) B.len cY (aa (ab (i:=1)) ae)) ae))) ae))) cO.nd)
    (jI (c5 (aP af (bH.m (dc hr.units)) (a_ (ih:=0) bV.mono GT (hr.mono (by decide)) dT.m dT.F.kp dT.b (aa aj ae)) aj) (aw (a8 (i:=4) (aY (aa (aM af bD (ab (i:=4)) aj) (aa (aH aV aF aj (a_ (ih:=0) bV.mono GT (hr.mono (by decide)) dT.m dT.F.kp dT.b (aa aj ae))) ae))) cO.nd)) bA)
    (ah (eE (i:=2) (λ_=>(ab (i:=4))))
    (aw (c5 (aP af (bH.m (dc hr.units)) (a_ (ih:=0) bV.mono GT (hr.mono (by decide)) dT.m dT.F.kp dT.b (aa aj ae)) aj) (aw (eE (i:=2) (λ_=>(JI (ab (i:=4)))))) bA))))))
    (aw (gm (i:=2))))),λds R h=>?_⟩
 obtain⟨fs,rfl,hf,hl,q⟩:=h;have fl:0<fs.length:=List.length_pos_iff.mpr hf;refine⟨Yh _,trivial,?_⟩;refine⟨rfl,trivial,trivial,trivial,trivial,cZ (by show 4<=1000;decide),trivial,rfl,trivial,rfl,trivial,4,rfl,by lia,by lia,λr r0 r1=>pick r0 (by simpa using r1) λd hd=>?_⟩
 obtain⟨m,rfl,m0,m1⟩:∃m:Int,d=.int m/\0<m/\m<=150:=by
  simp only[XU,YC,or_false]at hd;rcases hd with rfl|rfl|rfl|rfl
  ·exact⟨3,rfl,by lia,by lia⟩
  ·exact⟨8,rfl,by lia,by lia⟩
  ·exact⟨41,rfl,by lia,by lia⟩
  ·exact⟨150,rfl,by lia,by lia⟩
 refine⟨trivial,rfl,trivial,m,rfl,m0,by lia,λc c0 c1=>⟨trivial,c,rfl,by lia,by lia,trivial,?_⟩⟩
 refine⟨λi β=>i<=c.toNat/\∃(ps:List (List Int)) (y3 y4:Option Q.B),β=[some (.hand pL),some (.val false (.lst (fs.map D.int))),some (.own (.lst (ps.map kD))),y3,y4]/\ps.length<=2*i/\Pairs ps/\TL fs ps,⟨Yh _,[],_,_,rfl,Yh _,λ_ z=>(nomatch z),λ_ z=>(nomatch z)⟩,?_,?_⟩
 ·rintro i d β hd ⟨_,ps,y3,y4,rfl,h1,h2,h9⟩;obtain⟨hi,rfl⟩:=bU hd;refine⟨_,rfl,trivial,rfl,_,rfl,trivial,_,rfl,trivial,rfl,trivial,_,rfl,by rw[XN];lia,by rw[XN];lia,λr r0 r1=>?_⟩
  rw[XN]at r1;obtain⟨k,rfl⟩:∃k:Nat,r=k:=⟨r.toNat,by lia⟩
  have hk:k<fs.length:=by lia
  refine⟨.int fs[k],jR (i:=k) rfl (by rw[X5,XY hk];rfl),trivial,?_⟩
  refine⟨_,rfl,trivial,rfl,_,rfl,trivial,_,rfl,trivial,rfl,trivial,_,rfl,by rw[XN];lia,by rw[XN];lia,λr r0 r1=>?_⟩
  rw[XN]at r1;obtain⟨k',rfl⟩:∃k:Nat,r=k:=⟨r.toNat,by lia⟩
  have GI:k'<fs.length:=by lia
  refine⟨.int fs[k'],jR (i:=k') rfl (by rw[X5,XY GI];rfl),trivial,f7,?_⟩
  refine⟨λβ=>∃(a b:Int) (y3:Option Q.B),β=[some (.hand pL),some (.val false (.lst (fs.map D.int))),some (.own (.lst (ps.map kD))),y3,some (.val true (kD [a,b]))]/\a∈fs++[5,6,7]/\b∈fs++[5,6,7],?_,?_⟩
  ·refine⟨rfl,trivial,rfl,trivial,8,rfl,by lia,by lia,λr r0 r1=>⟨trivial,_,fD _ _,_,rfl,rF (λ_=>?_) (λ_=>⟨_,_,_,rfl,Yq _ (Y7 hk),Yq _ (Y7 GI)⟩)⟩⟩
   exact⟨_,rfl,trivial,_,rfl,trivial,trivial,rfl,trivial,rfl,trivial,3,rfl,by lia,by lia,λr r0 r1=>⟨_,rfl,trivial,f7,_,_,_,rfl,Yq _ (Y7 hk),Yn _ (by simp only[XU,YC,or_false];lia)⟩⟩
  ·rintro β ⟨a,b,y3,rfl,ha,hb⟩;refine⟨⟨_,rfl⟩,_,rfl,rfl,ps.map kD,rfl,by rw[XN,Y1];lia,?_⟩
   have oP:∀x∈[a,b],x∈fs++[5,6,7]:=λx hx=>by
    rcases XU.mp hx with rfl|hx
    ·exact ha
    ·rw[XW.mp hx];exact hb
   have UK:TL fs (ps++[[a,b]]):=λu hu x hx=>by
    rcases XZ.mp hu with z|z
    ·exact h9 u z x hx
    ·rw[XW.mp z]at hx;exact oP x hx
   have EN:Pairs (ps++[[a,b]]):=λu hu=>by
    rcases XZ.mp hu with z|z
    ·exact h2 u z
    ·rw[XW.mp z];exact⟨_,_,rfl⟩
   refine⟨rfl,trivial,rfl,trivial,4,rfl,by lia,by lia,λr r0 r1=>⟨trivial,_,fD _ _,_,rfl,rF (λ_=>?_) (λ_=>⟨hi,ps++[[a,b]],_,_,by rw[qJ];rfl,by rw[Yg];show ps.length+1<=_;lia,EN,UK⟩)⟩⟩
   refine⟨⟨_,rfl⟩,_,rfl,kD [b,a],rfl,rfl,ps.map kD++[kD [a,b]],rfl,by rw[Yg,XN,Y1];show ps.length+1<_;lia,hi,ps++[[a,b]]++[[b,a]],_,_,by rw[qJ,qJ];rfl,by rw[Yg,Yg];show ps.length+1+1<=_;lia,λu hu=>?_,λu hu x hx=>?_⟩
   ·rcases XZ.mp hu with z|z
    ·exact EN u z
    ·rw[XW.mp z];exact⟨_,_,rfl⟩
   ·rcases XZ.mp hu with z|z
    ·exact UK u z x hx
    ·rw[XW.mp z]at hx;refine oP x ?_;rcases XU.mp hx with rfl|hx
     ·simp
     ·rw[XW.mp hx];simp
 ·rintro β ⟨_,ps,y3,y4,rfl,h1,h2,h9⟩;rw[cy]at h1;exact⟨_,rfl,rfl,q ps (by lia) h2 h9⟩
theorem vH:aG ["pot"] ["pot"] (ay ij):=mkS
theorem J8 {G3 yn} (Mm:D3 K mg G3 yn) {Lx wC} (dT:D1 K mg Lx wC) (B:HD mg):aJ P w K mg base bN 2 G3 yn ["pot"] (kz P w pL true DQ):=by
 have GT:aJ P w K mg base bN 1 _ _ _ (kz P w pL true bV):=l0 dT.F;refine J9 Mm.F vH (λds R OH=> by obtain⟨e,_⟩ := OH;subst e;rfl) λcF A outer s H E IO hr=>⟨_,(aw (a9 (aM af bD (bq (aa aj (aa aj (aa aj (aa (a_ (ih:=0) bV.mono GT (hr.mono (by decide)) dT.m dT.F.kp dT.b (aa aj ae)) (aa (a_ (ih:=0) bV.mono GT (hr.mono (by decide)) dT.m dT.F.kp dT.b (aa (aH af (bH.m lY) aj aj) ae)) (aa aj ae))))))) (a_ (ih:=0) bV.mono GT (hr.mono (by decide)) dT.m dT.F.kp dT.b (aa aj ae))))),λds R h=>?_⟩
 obtain⟨rfl,q⟩:=h;refine⟨trivial,trivial,trivial,rfl,trivial,rfl,trivial,26,rfl,by lia,by lia,λx x0 x1=>⟨trivial,?_⟩⟩
 refine⟨rfl,trivial,_,LD,trivial,rfl,trivial,10 ^ 29,rfl,by decide,by decide,λy y0 y1=>⟨trivial,trivial,cZ (by show 6<=1000;decide),trivial,?_⟩⟩
 refine⟨rfl,trivial,rfl,trivial,6,rfl,by lia,by lia,λr r0 r1=>pick r0 (by simpa using r1) λd hd=>?_⟩
 obtain⟨g,rfl,g0⟩:∃g:Int,d=.int g/\0<=g:=by
  simp only[XU,YC,or_false]at hd;rcases hd with rfl|rfl|rfl|rfl|rfl|rfl
  ·exact⟨0,rfl,by lia⟩
  ·exact⟨1,rfl,by lia⟩
  ·exact⟨2,rfl,by lia⟩
  ·exact⟨x,rfl,x0⟩
  ·exact⟨y,rfl,y0⟩
  ·exact⟨3,rfl,by lia⟩
 exact⟨trivial,rfl,q g g0⟩
end
section
variable {P:XX}{w:X6}{K:PySem.W.Frag}{mg:Str->Option XO}{base:Heap}
theorem qP:aG ["gap"] ["gap"] (ay fq):=mkS
theorem F3 {uG lA} (EW:D4 K mg uG lA):aJ P w K mg base bN 1 uG lA ["gap"] (cM P w true uK):=by
 refine lq EW.F qP (λds R OG=> by obtain⟨g,e,_⟩ := OG;subst e;rfl) λcF A outer s H E hr=>⟨_,(aw (c5 (aP af (bH.m eV) (ab (i:=0)) aj) ip bA)),λds R h=>?_⟩
 obtain⟨g,rfl,g0,q⟩:=h;exact⟨_,rfl,trivial,_,rfl,_,rfl,fN (decide_eq_false (by lia)) q⟩
theorem bI:aG ["pairs","fits","one","other"] ["pairs"] (ay bQ):=mkS
theorem HX {uF lz} (yx:D5 K mg uF lz):aJ P w K mg base bN 1 uF lz ["pairs"] (cM P w true Lz):=by
 refine lq yx.F bI (λds R OE=> by obtain⟨ps,e,_⟩ := OE;subst e;rfl) λcF A outer s H E hr=>⟨_,(ah (cE (i:=1) (λ_=>(FH true)) bI.nd)
    (ah (dG Y4 rfl (ba (ab (i:=0))) (bZ (n:=2) rfl (aD (ak (i:=2) bI.nd) (aD (ak (i:=3) bI.nd) bC))) (ah (xF (i:=1) hr.b9 (aY (aa (ab (i:=2)) (aa (ab (i:=3)) ae))))
    (aw (xF (i:=1) hr.b9 (aY (aa (ab (i:=3)) (aa (ab (i:=2)) ae)))))))
    (aw (gm (i:=1))))),λds R h=>?_⟩
 obtain⟨ps,rfl,hl,hp,q⟩:=h;refine⟨trivial,_,rfl,_,rfl,trivial,?_⟩;refine⟨λi β=>i<=ps.length/\∃y2 y3:Option Q.B,β=[some (.val false (.lst (ps.map kD))),some (.own (dP (eW (ps.take i)) true)),y2,y3],⟨Yh _,_,_,rfl⟩,?_,?_⟩
 ·rintro i d β hd ⟨_,y2,y3,rfl⟩;rw[X5]at hd;obtain⟨t,et,rfl⟩:=X9.mp hd;have hi:i<ps.length:=(X0.mp et).1;obtain⟨a,b,rfl⟩:=hp t (YJ et);have l1:=DY (ps:=ps.take i) (acc:=[]);rw[Yy]at l1;have l2:=oj (ts:=eW (ps.take i)) (t:=[a,b]);have e2:eW (ps.take (i+1))=cK (cK (eW (ps.take i)) [a,b]) [b,a]:=by
   rw[YO,et];exact G9
  refine⟨_,rfl,rfl,_,_,rfl,_,_,rfl,rfl,?_⟩;refine⟨⟨_,rfl⟩,_,rfl,trivial,_,rfl,trivial,f7,_,[a,b],rfl,rfl,Zd (show (eW (ps.take i)).length<=1000 by unfold eW;simp at l1;lia) (by decide),?_⟩
  exact⟨⟨_,rfl⟩,_,rfl,trivial,_,rfl,trivial,f7,_,[b,a],rfl,rfl,Zd (show (cK (eW (ps.take i)) [a,b]).length<=1000 by unfold eW at *;simp at l1;lia) (by decide),hi,_,_,by rw[e2];rfl⟩
 ·rintro β ⟨_,y2,y3,rfl⟩;rw[XN,Zv];exact⟨_,rfl,q⟩
theorem cC:aG ["kinds","pairs","gap","fits","many","ties"] ["kinds","pairs","gap"] (ay cP):=mkS
theorem J3 {zW p_} (IB:D6 K mg zW p_) {uG lA} (EW:D4 K mg uG lA) {uF lz} (yx:D5 K mg uF lz) (B:HD mg):aJ P w K mg base bN 2 zW p_ ["kinds","pairs","gap"] (cM P w true DL):=by
 have Xm:aJ P w K mg base bN 1 _ _ _ (cM P w true uK):=F3 EW;have T1:aJ P w K mg base bN 1 _ _ _ (cM P w true Lz):=HX yx;refine lq IB.F cC (λds R OD=> by obtain⟨ks,ps,g,e,_⟩ := OD;subst e;rfl) λcF A outer s H E hr=>⟨_,(ah (FQ (aI uK.mono Xm (hr.mono (by decide)) EW.m EW.F.kp EW.b (aa (ab (i:=2)) ae)))
    (ah (a8 (i:=3) (aI Lz.mono T1 (hr.mono (by decide)) yx.m yx.F.kp yx.b (aa (ab (i:=1)) ae)) cC.nd)
    (ah (a8 (i:=4) (aR af (bo.m bj) B.len cY (aa (ab (i:=0)) ae)) cC.nd)
    (ah (Q4 (i:=5) true ["a","b","gap","fits","kinds","many"] [none,none,some 2,some 3,some 0,some 4] (by rfl) (by decide:(["a","b","gap","fits","kinds","many"]:List Str).Nodup) rfl (λ_=>(bp B.range (aa (ab (i:=4)) ae))) (λ_ _ _ _ _ _=>(ak (i:=0) (by decide:(["a","b","gap","fits","kinds","many"]:List Str).Nodup))) (λ_ _ _ _ _ _=>cN) (λ_ _ _ _ _ _=>(mO B.range (aa (aH aV aF (ab (i:=0)) aj) (aa (ab (i:=5)) ae)))) (λ_ _ _ _ _ _=>(ak (i:=1) (by decide:(["a","b","gap","fits","kinds","many"]:List Str).Nodup))) (λ_ _ _ _ _ _=>(c8 (vo.t (lV (aP af (bH.m vW) (aH af (bH.m a7) (ab (i:=1)) (ab (i:=0))) (ab (i:=2))) (jF (aP af (bH.m (rj hr.b9)) (aY (aa (aM af bD (ab (i:=4)) (ab (i:=0))) (aa (aM af bD (ab (i:=4)) (ab (i:=1))) ae))) (ab (i:=3)))))))) (λ_ _ _ _ _ _=>(aY (aa (ab (i:=0)) (aa (ab (i:=1)) ae)))) cC.nd)
    (aw (FO (i:=5) (ab (i:=4)))))))),λds R h=>?_⟩
 obtain⟨ks,ps,g,rfl,hk,hl,hp,g0,q⟩:=h;refine⟨_,rfl,trivial,g,rfl,g0,_,rfl,trivial,ps,rfl,hl,hp,_,rfl,trivial,_,rfl,?_⟩;refine⟨_,rfl,trivial,_,rfl,by rw[XN];lia,by rw[XN];lia,trivial,?_⟩
 rw[XN,Zq];refine⟨λa β o=>a<=ks.length/\(∃y0 y1:Option Q.B,β=[y0,y1,some (.val false (.int g)),some (.val true (dP (eW ps) true)),some (.val false (.lst (ks.map D.int))),some (.val true (.int ks.length))])/\o=(((X7 ks.length).take a).flatMap (gV ks.length (tX ks ps g))).map λp=>kD (tI p),⟨Yh _,⟨_,_,rfl⟩,rfl⟩,?_,?_⟩
 ·rintro a d β o hd ⟨_,⟨y0,y1,rfl⟩,rfl⟩;obtain⟨ha,rfl⟩:=bU hd;rw[Int.zero_add];refine⟨_,rfl,trivial,_,rfl,trivial,_,rfl,trivial,(a:Int)+1,(ks.length:Int),rfl,⟨by lia,by lia,by lia,by lia⟩,?_⟩
  rw[show ((ks.length:Int)-((a:Int)+1)).toNat=ks.length-(a+1) by lia]
  refine⟨λb β o=>b<=ks.length-(a+1)/\(∃y1:Option Q.B,β=[some (.val true (.int (a:Int))),y1,some (.val false (.int g)),some (.val true (dP (eW ps) true)),some (.val false (.lst (ks.map D.int))),some (.val true (.int ks.length))])/\o=(pK ks.length (tX ks ps g) a b).map λp=>kD (tI p),⟨Yh _,⟨_,rfl⟩,by rw[xG]⟩,?_,?_⟩
  ·rintro b d β o hd ⟨_,⟨y1,rfl⟩,rfl⟩;obtain⟨hb,rfl⟩:=bU hd;have eb:(a:Int)+1+(b:Int)=((a+1+b:Nat):Int):=by lia
   rw[eb];refine⟨_,rfl,trivial,_,rfl,_,rfl,trivial,_,rfl,_,rfl,_,rfl,rF (λh1=>?_) (λh1=>fN rfl ⟨hb,⟨_,rfl⟩,by rw[xJ hb (by unfold tX;rw[decide_eq_false (by lia)];rfl)]⟩)⟩
   refine⟨_,rfl,trivial,_,rfl,_,C_ rfl ha,trivial,_,rfl,trivial,_,rfl,_,C_ rfl (by lia),trivial,f7,trivial,_,rfl,_,wO (t:=[ks.getD a 0,ks.getD (a+1+b) 0]),_,rfl,?_⟩
   rw[wB];refine RQ (λh2=>?_) (λh2=>⟨hb,⟨_,rfl⟩,by rw[xJ hb (by unfold tX;rw[h2,Bool.and_false])]⟩)
   refine⟨_,rfl,trivial,_,rfl,trivial,f7,trivial,by rw[XN];exact Zd (xI hk ha hb) (by decide),hb,⟨_,rfl⟩,?_⟩
   rw[Cc hb (by unfold tX;rw[h2,decide_eq_true (by lia)];rfl),xj]
   rfl
  ·rintro β o ⟨_,⟨y1,rfl⟩,rfl⟩;exact⟨ha,⟨_,_,rfl⟩,by rw[cy,Cd ha]⟩
 ·rintro β o ⟨_,⟨y0,y1,rfl⟩,rfl⟩;rw[cy,vR];exact⟨trivial,_,rfl,rfl,_,rfl,q⟩
theorem cH:aG ["kinds","pairs","gap","found","let","a","b","both"] ["kinds","pairs","gap"] (ay gc):=mkS
theorem Co {zU pZ} (Iz:D7 K mg zU pZ) (B:HD mg):aJ P w K mg base bN 1 zU pZ ["kinds","pairs","gap"] (cM P w true nE):=by
 refine lq Iz.F cH (λds R OC=> by obtain⟨ks,ps,g,e,_⟩ := OC;subst e;rfl) λcF A outer s H E hr=>⟨_,(ah (cE (i:=3) (λ_=>(bq ae)) cH.nd)
    (ah (a8 (i:=4) (fT af (bo.m (wX rfl hr.I9)) B.dict Hk (aa (CT ["pair"] [none] (by rfl) (by decide:(["pair"]:List Str).Nodup) rfl (ba (ab (i:=1))) (λ_ _ _ _ _ _=>(ak (i:=0) (by decide:(["pair"]:List Str).Nodup))) (λ_ _ _ _ _ _=>cN) (λ_ _ _ _ _ _=>(aY (aa (ab (i:=0)) (aa xv ae))))) ae)) cH.nd)
    (ah (dG Y4 rfl (bp B.range (aa (aR af (bo.m bj) B.len cY (aa (ab (i:=0)) ae)) ae)) (ak (i:=5) cH.nd) (aw (dG Y4 rfl (vN B.range (aa (aH aV aF (ab (i:=5)) aj) (aa (aR af (bo.m bj) B.len cY (aa (ab (i:=0)) ae)) ae))) (ak (i:=6) cH.nd) (ah (a8 (i:=7) (bq (aa (aY (aa (aM af bD (ab (i:=0)) (ab (i:=5))) (aa (aM af bD (ab (i:=0)) (ab (i:=6))) ae))) (aa (aY (aa (aM af bD (ab (i:=0)) (ab (i:=6))) (aa (aM af bD (ab (i:=0)) (ab (i:=5))) ae))) ae))) cH.nd)
    (aw (c5 (vo.t (lV (aP af (bH.m Cm) (aH af (bH.m a7) (aH af (bH.m a7) (ab (i:=6)) (ab (i:=5))) aj) (ab (i:=2))) (jF (aP af (bH.m (mV hr.units)) (CT ["pair","let"] [none,some 4] (by rfl) (by decide:(["pair","let"]:List Str).Nodup) rfl (ba (ab (i:=7))) (λ_ _ _ _ _ _=>(ak (i:=0) (by decide:(["pair","let"]:List Str).Nodup))) (λ_ _ _ _ _ _=>(c8 (aP af (bH.m (rj hr.b9)) (ab (i:=0)) (ab (i:=1))))) (λ_ _ _ _ _ _=>(ab (i:=0)))) (bq ae))))) (aw (eE (i:=3) (λ_=>(aY (aa (ab (i:=5)) (aa (ab (i:=6)) ae)))))) bA))))))
    (aw (gm (i:=3)))))),λds R h=>?_⟩
 obtain⟨ks,ps,g,rfl,hk,hl,hp,g0,q⟩:=h;refine⟨Yh _,trivial,?_⟩;refine⟨_,rfl,_,rfl,trivial,?_⟩;refine eX (λ_=>true) (λt=>mN t) trivial (by rw[Y1];lia) (λt ht x0 o J ho j1 j2=>?_) ?_
 ·exact⟨_,rfl,trivial,trivial,f7,.inr ⟨GZ,ho,j1 rfl _⟩⟩
 rw[hE];refine⟨trivial,_,Ag ps,.inr ?_⟩;refine⟨_,rfl,trivial,_,rfl,trivial,_,rfl,by rw[XN];lia,by rw[XN];lia,trivial,?_⟩
 rw[XN,Zq];refine⟨λa β=>a<=ks.length/\∃y5 y6 y7:Option Q.B,β=[some (.val false (.lst (ks.map D.int))),some (.val false (.lst (ps.map kD))),some (.val false (.int g)),some (.own (sL (((X7 ks.length).take a).flatMap (gV ks.length (tX ks ps g))))),some (.val true (dP (ps.foldl cK []) true)),y5,y6,y7],⟨Yh _,_,_,_,rfl⟩,?_,?_⟩
 ·rintro a d β hd ⟨_,y5,y6,y7,rfl⟩;obtain⟨ha,rfl⟩:=bU hd;rw[Int.zero_add];refine⟨_,rfl,trivial,_,rfl,trivial,_,rfl,trivial,_,rfl,trivial,(a:Int)+1,(ks.length:Int),by rw[XN],⟨by lia,by lia,by lia,by lia⟩,trivial,?_⟩
  rw[show ((ks.length:Int)-((a:Int)+1)).toNat=ks.length-(a+1) by lia]
  refine⟨λb β=>b<=ks.length-(a+1)/\∃y6 y7:Option Q.B,β=[some (.val false (.lst (ks.map D.int))),some (.val false (.lst (ps.map kD))),some (.val false (.int g)),some (.own (sL (pK ks.length (tX ks ps g) a b))),some (.val true (dP (ps.foldl cK []) true)),some (.val true (.int (a:Int))),y6,y7],⟨Yh _,_,_,by rw[xG];rfl⟩,?_,?_⟩
  ·rintro b d β hd ⟨_,y6,y7,rfl⟩;obtain⟨hb,rfl⟩:=bU hd;have eb:(a:Int)+1+(b:Int)=((a+1+b:Nat):Int):=by lia
   rw[eb];have i1:=C_ (x:=(a:Int)) rfl ha;have i2:=C_ (ks:=ks) (a:=a+1+b) (x:=((a+1+b:Nat):Int)) rfl (by lia)
   refine⟨_,rfl,trivial,_,rfl,_,i1,trivial,_,rfl,trivial,_,rfl,_,i2,trivial,f7,trivial,_,rfl,trivial,_,rfl,_,i2,trivial,_,rfl,trivial,_,rfl,_,i1,trivial,f7,trivial,f7,?_⟩;refine⟨_,rfl,trivial,_,rfl,_,rfl,trivial,_,rfl,trivial,_,rfl,_,rfl,_,rfl,rF (λh1=>?_) (λh1=>fN rfl ⟨hb,_,_,by rw[xJ hb (by unfold tX;rw[decide_eq_false (by lia)];rfl)];rfl⟩)⟩
   refine⟨_,rfl,_,rfl,trivial,?_⟩;refine eX (l:=[[ks.getD a 0,ks.getD (a+1+b) 0],[ks.getD (a+1+b) 0,ks.getD a 0]]) (f:=kD) (λt=>decide (t∈ps.foldl cK [])) (λt=>kD t) trivial (by show 2<=X3;decide) (λt ht x0 o J ho j1 j2=>?_) ?_
   ·exact⟨_,rfl,trivial,_,rfl,_,wO,_,rfl,rF (λh=>⟨_,rfl,yh _,ho,j1 (decide_eq_true h) _⟩) (λh=>j2 (decide_eq_false h) _)⟩
   ·refine⟨trivial,Yh _,_,Ea _ [],_,rfl,?_⟩;have ef:lL ks ps a (a+1+b)=true->tX ks ps g a (a+1+b)=true:=λh=>by unfold tX;rw[h,decide_eq_true (by lia)];rfl
    refine V6 (λoN=>?_) (λhe=>⟨hb,_,_,by rw[xJ hb (by unfold tX;rw[uZ.mp he,Bool.and_false])];rfl⟩)
    have hf:lL ks ps a (a+1+b)=true:=by
     cases h:lL ks ps a (a+1+b)with
     |true=>rfl
     |false=>exact absurd (uZ.mpr h) oN
    exact⟨⟨_,rfl⟩,_,rfl,trivial,_,rfl,trivial,f7,trivial,_,rfl,by rw[XN];exact Zd (xI hk ha hb) (by decide),hb,_,_,by rw[Cc hb (ef hf)];unfold sL;rw[xj];rfl⟩
  ·rintro β ⟨_,y6,y7,rfl⟩;exact⟨ha,_,_,_,by rw[cy,Cd ha]⟩
 ·rintro β ⟨_,y5,y6,y7,rfl⟩;rw[cy,vR];exact⟨_,rfl,q⟩
end
end oz
namespace L2.Q
open PySem PySem.Spec PySem.SeqAt PyProof.Rows
section
variable {ps:List PN}
theorem DG {n:Nat}(ok:vq n ps)(c:PN->Bool):vq n (ps.filter c):=⟨λp h=>ok.lt p (Ym.mp h).1,ok.nd.sublist List.filter_sublist,ok.le,Yz (YD _ _) ok.sm⟩
end
structure T7 (mg:Str->Option XO):Prop extends Bs4 mg where
 abs:mg "abs" = none
theorem DF {γ:bW}{ψ:yI}{E:cB}{ds:List D}{k:Kd}{β:aL}(I:Nat->aL->Prop)(h0:I 0 β)(h1:∀E':cB,(∀d β,E.rt d β->E'.rt d β)->∀i:Nat,(∀β,I (i+1) β->E'.nx β)->∀d β,ds[i]?=some d->I i β->γ d (sk k d) β λβ1=>ψ E' β1)
  (h2:∀β,I ds.length β->E.nx β):DE γ ψ E ds k β:=⟨I,h0,λi d β e q=>h1 (E.lp (I (i+1))) (λ_ _ q=>q) i (λ_ q=>q) d β e q,h2⟩
theorem Vi {E:cB}{ψ:yI}{E':cB}{β:aL}(h:ψ E' β):(E.up (ap ψ E')).nx β:=h
theorem IW {τ:aN}{ψ:yI}{E:cB}{β:aL}(V:Nat->aL->Prop)(h0:∃m,V m β)
  (h1:∀(E':cB) (Q:aL->Prop),(∀β,E.nx β->Q β)->∀m,(∀m' β,m'<m->V m' β->E'.nx β)->∀β,V m β->τ β λt β1=>if t=true then ψ E' β1 else Q β1):A5 τ ψ E β :=
 ⟨V,h0,λm β v=>h1 {nx:=λβ'=>∃m',m'<m/\V m' β',rt:=E.rt,bk:=E.nx,ct:=λβ'=>∃m',m'<m/\V m' β'} E.nx (λ_ q=>q) m (λm' _ l v=>⟨m',l,v⟩) β v⟩
end L2.Q
namespace oz
open PySem L2 L2.Q
section
variable {P:XX}{w:X6}{K:PySem.W.Frag}{mg:Str->Option XO}{base:Heap}
theorem iC:aG ["many"] ["many"] (ay bP):=mkS
theorem FY {gN c6} (oW:D8 K mg gN c6) (B:Bs3 mg):aJ P w K mg base bN 1 gN c6 ["many"] (cM P w true DK):=by
 refine lq oW.F iC (λds R OB=> by obtain⟨n,e,_⟩ := OB;subst e;rfl) λcF A outer s H E hr=>⟨_,(aw (a9 (V2 ["i","j","many"] [none,none,some 0] (by rfl) (by decide:(["i","j","many"]:List Str).Nodup) rfl (mP B.range (aa (aH af (bH.m a7) (ab (i:=0)) aj) (aa (tL jB aj) (aa (tL jB aj) ae)))) (λ_ _ _ _ _ _=>(ak (i:=0) (by decide:(["i","j","many"]:List Str).Nodup))) (λ_ _ _ _ _ _=>cN) (λ_ _ _ _ _ _=>(mO B.range (aa (aH aV aF (ab (i:=0)) aj) (aa (aH aV aF (ab (i:=2)) aj) ae)))) (λ_ _ _ _ _ _=>(ak (i:=1) (by decide:(["i","j","many"]:List Str).Nodup))) (λ_ _ _ _ _ _=>cN) (λ_ _ _ _ _ _=>(aY (aa (ab (i:=0)) (aa (ab (i:=1)) ae))))))),λds R h=>?_⟩
 obtain⟨n,rfl,hn,q⟩:=h;refine⟨_,rfl,trivial,_,rfl,trivial,_,rfl,rfl,trivial,_,rfl,rfl,trivial,(n:Int)-1,-1,rfl,⟨by lia,by lia,by lia,by lia⟩,trivial,?_⟩
 have en:((n:Int)-1 - -1).toNat=n:=by lia
 rw[en];refine⟨λa β o=>a<=n/\(∃x0 x1,β=[x0,x1,some (.val false (.int n))])/\o=(((X7 n).take a).flatMap (fh n)).map AB,⟨Yh _,⟨_,_,rfl⟩,rfl⟩,?_,?_⟩
 ·rintro a d β o hd ⟨ha,⟨x0,x1,rfl⟩,rfl⟩;obtain⟨vm,rfl⟩:=mK hd;have e1:(n:Int)-1-a=((n-1-a:Nat):Int):=by lia
  rw[e1];refine⟨_,rfl,trivial,_,rfl,trivial,_,rfl,trivial,_,rfl,trivial,((n-1-a:Nat):Int)+1,(n:Int)+1,rfl,⟨by lia,by lia,by lia,by lia⟩,?_⟩
  have e2:((n:Int)+1-(((n-1-a:Nat):Int)+1)).toNat=a+1:=by lia
  rw[e2];refine⟨λb β o=>b<=a+1/\(∃x1,β=[some (.val true (.int ((n-1-a:Nat):Int))),x1,some (.val false (.int n))])/\o=(((X7 n).take a).flatMap (fh n)++(fh n a).take b).map AB,⟨Yh _,⟨_,rfl⟩,by simp⟩,?_,?_⟩
  ·rintro b d β o hd ⟨hb,⟨x1,rfl⟩,rfl⟩;obtain⟨pV,rfl⟩:=bU hd;refine⟨_,rfl,trivial,_,rfl,trivial,f7,trivial,?_,pV,⟨_,rfl⟩,?_⟩
   ·rw[XN,Yg];exact Bd hn vm pV
   ·rw[show ((n-1-a:Nat):Int)+1+(b:Int)=((n-a+b:Nat):Int) by lia,zc pV,<- ZL,X1,X1,X1]
    rfl
  ·rintro β o ⟨_,⟨x1,rfl⟩,rfl⟩;refine⟨vm,⟨_,_,rfl⟩,?_⟩;rw[cy,Br,YO,Y3 vm,ZQ];simp
 ·rintro β o ⟨_,⟨x0,x1,rfl⟩,rfl⟩;rw[mJ,Zf (by simp)]
  exact⟨trivial,trivial,q⟩
theorem bK:aG ["row","many","ties","partners","a","b"] ["row"] (ay dh):=mkS
theorem xM {fY cJ} (k8:D9 K mg fY cJ) (B:Bs3 mg):aJ P w K mg base bN 1 fY cJ ["row"] (cM P w true nJ):=by
 refine lq k8.F bK (λds R OA=> by obtain⟨n,ps,e,_⟩ := OA;subst e;rfl) λcF A outer s H E hr=>⟨_,(ah (kK (ab (i:=0)) (bZ (n:=2) rfl (aD (ak (i:=1) bK.nd) (aD (ak (i:=2) bK.nd) bC))))
    (ah (Bq (i:=3) true ["point"] [none] (by rfl) (by decide:(["point"]:List Str).Nodup) rfl (λ_=>(bp B.range (aa (ab (i:=1)) ae))) (λ_ _ _ _ _ _=>(ak (i:=0) (by decide:(["point"]:List Str).Nodup))) (λ_ _ _ _ _ _=>cN) (λ_ _ _ _ _ _=>(bq ae)) bK.nd)
    (ah (dG Y4 rfl (ba (ab (i:=2))) (bZ (n:=2) rfl (aD (ak (i:=4) bK.nd) (aD (ak (i:=5) bK.nd) bC))) (aw (gZ (i:=3) true (λ_=>(ab (i:=5))) (λ_=>(ab (i:=4))))))
    (aw (gm (i:=3)))))),λds R h=>?_⟩
 obtain⟨n,ps,rfl,ok,q⟩:=h;have hn:=ok.le;refine⟨_,rfl,_,rfl,rfl,_,_,rfl,_,_,rfl,rfl,_,rfl,trivial,n,rfl,by lia,by lia,trivial,?_⟩
 rw[Zq];refine eX (λ_=>true) (λ_=>.lst []) trivial (by rw[Yx];exact cZ (by lia)) (λx hx x0 o J ho h1 _=>⟨Yh _,trivial,ho,h1 rfl _⟩) ?_
 rw[hE];refine⟨_,rfl,_,rfl,trivial,?_⟩;refine⟨λm β=>∃x4 x5,β=[some (.val false (qQ n ps)),some (.val true (.int n)),some (.val false (sL ps)),some (.own (EL n (ps.take m))),x4,x5],⟨_,_,rfl⟩,?_,?_⟩
 ·rintro m d β hd ⟨x4,x5,rfl⟩;rw[X5]at hd;obtain⟨p,hp,rfl⟩:=X9.mp hd;obtain⟨h1,h2⟩:=ok.lt p (YJ hp);refine⟨_,rfl,rfl,_,_,rfl,_,_,rfl,rfl,⟨_,rfl⟩,_,rfl,_,_,_,_,rfl,rfl,by rw[XN,Yx];exact Gs rfl (show p.1<n by lia),d8 (show p.1<n by lia),_,rfl,trivial,rfl,?_,?_⟩
  ·unfold Q.gH;rw[XN];have:=jE (ps:=ps.take m) (i:=p.1);rw[Yy]at this;have:=ok.sm;exact pz (by lia)
  ·refine⟨some (.val true (.int p.1)),some (.val true (.int p.2)),?_⟩;have e:ps.take (m+1)=ps.take m++[(p.1,p.2)]:=by rw[YO,hp];rfl
   rw[Js (show p.1<n by lia),e]
   rfl
 ·rintro β ⟨x4,x5,rfl⟩;rw[XN,Zv];exact⟨_,rfl,q⟩
theorem mD:aG ["worth","table","i","k","j"] ["worth","table","i","k","j"] (ay dj):=mkS
theorem xN {eC b6} (jl:AM K mg eC b6):aJ P w K mg base bN 1 eC b6 ["worth","table","i","k","j"] (cM P w true nK):=by
 refine lq jl.F mD (λds R Oz=> by obtain⟨n,ps,w,L,T,i,k,j,e,_⟩ := Oz;subst e;rfl) λcF A outer s H E hr=>⟨_,(aw (a9 (aH aV aF (aH aV aF (aM af (uf hr.b9) (ab (i:=0)) (aY (aa (ab (i:=2)) (aa (ab (i:=3)) ae)))) (aM af bD (aM af bD (ab (i:=1)) (aH aV aF (ab (i:=2)) aj)) (aH af (bH.m a7) (aH af (bH.m a7) (ab (i:=3)) (ab (i:=2))) aj))) (aM af bD (aM af bD (ab (i:=1)) (aH aV aF (ab (i:=3)) aj)) (aH af (bH.m a7) (aH af (bH.m a7) (ab (i:=4)) (ab (i:=3))) aj))))),λds R h=>?_⟩
 obtain⟨n,ps,w,L,T,i,k,j,rfl,hm,h1,h2,h3,h4,h5,q⟩:=h;exact⟨_,rfl,trivial,_,rfl,trivial,_,rfl,trivial,f7,_,Ls hm,trivial,_,rfl,trivial,_,rfl,trivial,_,rfl,_,pP (i:=i+1) (by lia) (by lia),.inr ⟨trivial,_,rfl,trivial,_,rfl,_,rfl,trivial,_,rfl,_,pQ (l:=k-i-1) (by lia) h4,_,rfl,trivial,
  _,rfl,trivial,_,rfl,trivial,_,rfl,_,pP (i:=k+1) (by lia) (by lia),.inr ⟨trivial,_,rfl,trivial,_,rfl,_,rfl,trivial,_,rfl,_,pQ (l:=j-k-1) (by lia) h5,_,rfl,trivial,q⟩⟩⟩
theorem gE:aG ["partners","worth","table","i","j","numbers"] ["partners","worth","table","i","j"] (ay cR):=mkS
theorem Cw {gO c7} (oX:HC K mg gO c7) {eC b6} (jl:AM K mg eC b6) (B:Bs3 mg):aJ P w K mg base bN 2 gO c7 ["partners","worth","table","i","j"] (cM P w true nM):=by
 have TY:aJ P w K mg base bN 1 _ _ _ (cM P w true nK):= xN jl;refine lq oX.F gE (λds R Oy=> by obtain⟨n,ps,w,L,T,i,j,e,_⟩ := Oy;subst e;rfl) λcF A outer s H E hr=>⟨_,(ah (Bq (i:=5) false ["k","worth","table","i","j"] [none,some 1,some 2,some 3,some 4] (by rfl) (by decide:(["k","worth","table","i","j"]:List Str).Nodup) rfl (λ_=>(ba (aM af bD (ab (i:=0)) (ab (i:=3))))) (λ_ _ _ _ _ _=>(ak (i:=0) (by decide:(["k","worth","table","i","j"]:List Str).Nodup))) (λ_ _ _ _ _ _=>(c8 (aP af (bH.m eV) (ab (i:=0)) (ab (i:=4))))) (λ_ _ _ _ _ _=>(aI nK.mono TY (hr.mono (by decide)) jl.m jl.F.kp jl.b (aa (ab (i:=1)) (aa (ab (i:=2)) (aa (ab (i:=3)) (aa (ab (i:=0)) (aa (ab (i:=4)) ae))))))) gE.nd)
    (aw (a9 (aR af (bo.m (f6 rfl)) B.max h_ (aa (aH aV aF (ab (i:=5)) (bq (aa (aM af bD (aM af bD (ab (i:=2)) (aH aV aF (ab (i:=3)) aj)) (aH af (bH.m a7) (aH af (bH.m a7) (ab (i:=4)) (ab (i:=3))) aj)) ae))) ae))))),λds R h=>?_⟩
 obtain⟨n,ps,w,L,T,i,j,rfl,ok,h1,h2,h3,q⟩:=h;have K3:=ok.sm;have hle:=ok.le;have hl:((lG ps i).filter λk=>decide (k<j)).length<=400:=Yz (YD _ _) (Yz jE K3);refine⟨_,rfl,trivial,_,rfl,_,NP rfl (by lia),.inr ⟨_,rfl,trivial,?_⟩⟩
 refine eX (λk=>decide (k<j)) (λk=>.int (w (i,k)+T (k-i-1) (i+1)+T (j-k-1) (k+1))) trivial (cZ (Yz jE (by lia))) (λk hk x0 o J ho j1 j2=>?_) ?_
 ·have hm:=eh.mp hk;obtain⟨g1,g2⟩:=ok.lt _ hm;dsimp only at g1 g2;refine⟨_,rfl,trivial,_,rfl,_,rfl,_,rfl,rF (λSD=>?_) (λSD=>j2 (by simp;lia) _)⟩
  have Dw:k<j:=by lia
  have a1:=h3 (i+1) (by lia) (by lia)
  have a2:=h3 (k+1) (by lia) (by lia)
  exact⟨_,rfl,trivial,_,rfl,trivial,_,rfl,trivial,_,rfl,trivial,_,rfl,trivial,n,ps,w,L,T,i,k,j,rfl,hm,g1,Dw,h2,by lia,by lia,trivial,ho,j1 (by simpa using Dw) _⟩
 ·have a1:=h3 (i+1) (by lia) (by lia)
  refine⟨_,rfl,trivial,_,rfl,trivial,_,rfl,trivial,_,rfl,_,pP (i:=i+1) (by lia) (by lia),.inr ⟨trivial,_,rfl,trivial,_,rfl,_,rfl,trivial,_,rfl,_,pQ (l:=j-i-1) (by lia) (by lia),trivial,EH,_,h8 (by rw[XN];show _+1<=_;lia),.inl ⟨pY iA rfl,trivial,_,CK,trivial,q⟩⟩⟩
theorem bg:aG ["row","worth","many","partners","table","i","j"] ["row","worth"] (ay cm):=mkS
theorem Cz {iL dR} (oY:IS K mg iL dR) {fY cJ} (k8:D9 K mg fY cJ) {gN c6} (oW:D8 K mg gN c6) {gO c7} (oX:HC K mg gO c7) {eC b6} (jl:AM K mg eC b6) (B:Bs3 mg):aJ P w K mg base bN 3 iL dR ["row","worth"] (cM P w true nN):=by
 have TV:aJ P w K mg base bN 1 _ _ _ (cM P w true nJ):= xM k8 B;have W9:aJ P w K mg base bN 1 _ _ _ (cM P w true DK):= FY oW B;have Xg:aJ P w K mg base bN 2 _ _ _ (cM P w true nM):= Cw oX jl B;refine lq oY.F bg (λds R Ox=> by obtain⟨n,ps,w,e,_⟩ := Ox;subst e;rfl) λcF A outer s H E hr=>⟨_,(ah (a8 (i:=2) (aM af bD (ab (i:=0)) aj) bg.nd)
    (ah (a8 (i:=3) (aI nJ.mono TV (hr.mono (by decide)) k8.m k8.F.kp k8.b (aa (ab (i:=0)) ae)) bg.nd)
    (ah (Bq (i:=4) true ["i"] [none] (by rfl) (by decide:(["i"]:List Str).Nodup) rfl (λ_=>(bp B.range (aa (aH aV aF (ab (i:=2)) aj) ae))) (λ_ _ _ _ _ _=>(ak (i:=0) (by decide:(["i"]:List Str).Nodup))) (λ_ _ _ _ _ _=>cN) (λ_ _ _ _ _ _=>(bq (aa aj ae))) bg.nd)
    (ah (dG Y4 rfl (ba (aI DK.mono W9 (hr.mono (by decide)) oW.m oW.F.kp oW.b (aa (ab (i:=2)) ae))) (bZ (n:=2) rfl (aD (ak (i:=5) bg.nd) (aD (ak (i:=6) bg.nd) bC))) (aw (gZ (i:=4) true (λ_=>(aI nM.mono Xg (hr.mono (by decide)) oX.m oX.F.kp oX.b (aa (ab (i:=3)) (aa (ab (i:=1)) (aa (ab (i:=4)) (aa (ab (i:=5)) (aa (ab (i:=6)) ae))))))) (λ_=>(ab (i:=5))))))
    (aw (gm (i:=4))))))),λds R h=>?_⟩
 obtain⟨n,ps,w,rfl,ok,q⟩:=h;have hn:=ok.le;have hp:∀p∈ps,p.1<p.2:=λp hp=>(ok.lt p hp).1;refine⟨_,rfl,trivial,_,rfl,_,rfl,trivial,n,ps,rfl,ok,_,rfl,trivial,_,rfl,trivial,(n:Int)+1,rfl,by lia,by lia,trivial,?_⟩
 rw[show ((n:Int)+1).toNat=n+1 by lia]
 refine eX (λ_=>true) (λ_=>.lst [.int 0]) trivial (by rw[Yx];exact cZ (by lia)) (λx hx x0 o J ho h1 _=>⟨trivial,EH,trivial,ho,h1 rfl _⟩) ?_
 rw[hE];refine⟨_,rfl,trivial,n,rfl,hn,_,rfl,trivial,?_⟩;refine DF (λidx β=>∃L x5 x6,β=[some (.val false (qQ n ps)),some (.val false (wD ps w)),some (.val true (.int n)),some (.val true (EL n ps)),some (.own (mx n L (tW ps w))),x5,x6]/\yK n idx L) ⟨λ_=>1,_,_,rfl,uO⟩ (λE1 r1 idx n1 d β hd h=>?_) ?_
 ·obtain⟨L,x5,x6,rfl,dn⟩:=h;rw[X5]at hd;obtain⟨p,OK,rfl⟩:=X9.mp hd;obtain⟨a,b,ha,hb,rfl,hL,N6⟩:=wI dn OK;have eL:mx n L (tW ps w)=mx n (gu n a b) (tW ps w):=pq hL;have e0:gu n a b (n-1-a)=b+1:=by unfold gu;rw[if_neg (by lia),if_pos rfl]
  rw[eL];refine⟨_,rfl,rfl,_,_,rfl,_,_,rfl,rfl,⟨_,rfl⟩,_,rfl,_,_,_,_,rfl,rfl,by rw[XN,Yx];exact Gs rfl (show n-1-a<n+1 by lia),d8 (show n-1-a<n+1 by lia),
   _,rfl,trivial,_,rfl,trivial,_,rfl,trivial,_,rfl,trivial,_,rfl,trivial,n,ps,w,gu n a b,tW ps w,n-1-a,n-a+b,rfl,ok,by lia,by lia,λa' h1 h2=>by unfold gu;rw[if_pos h1];exact XS _,trivial,rfl,?_,?_⟩
  ·rw[e0];unfold sN;rw[XN,Yx];exact pz (by lia)
  ·refine n1 _ ⟨gu n a (b+1),some (.val true (.int ((n-1-a:Nat):Int))),some (.val true (.int ((n-a+b:Nat):Int))),?_,.inr ⟨a,b+1,ha,by lia,λ_ _=>rfl,N6⟩⟩
   have ev:jP ps w (tW ps w) (n-1-a) (n-a+b)=tW ps w (b+1) (n-1-a):=by rw[lO hp,show n-1-a+b+1=n-a+b by lia]
   rw[ev,e0,Fj ha hb];rfl
 ·rintro β ⟨L,x5,x6,rfl,dn⟩;rw[XN]at dn;have e:mx n L (tW ps w)=jY n (tW ps w):=pq (z_ dn);rw[e];exact⟨_,rfl,q⟩
theorem sY:aG ["row"] ["row"] (ay gb):=mkS
theorem Cu {iJ dQ} (nV:IQ K mg iJ dQ):aJ P w K mg base bN 1 iJ dQ ["row"] (cM P w true wF):=by
 refine lq nV.F sY (λds R Ov=> by obtain⟨n,ps,e,_⟩ := Ov;subst e;rfl) λcF A outer s H E hr=>⟨_,(aw (a9 (WU (Nat.lt_of_succ_lt hr.b9) ["tie"] [none] (by rfl) (by decide:(["tie"]:List Str).Nodup) rfl (ba (aM af bD (ab (i:=0)) aj)) (λ_ _ _ _ _ _=>(ak (i:=0) (by decide:(["tie"]:List Str).Nodup))) (λ_ _ _ _ _ _=>cN) (λ_ _ _ _ _ _=>(ab (i:=0))) (λ_ _ _ _ _ _=>aj)))),λds R h=>?_⟩
 obtain⟨n,ps,rfl,ok,q⟩:=h;have K3:=ok.sm;refine⟨_,rfl,trivial,_,rfl,.inr ⟨_,rfl,trivial,?_⟩⟩;refine⟨λm β o=>m<=ps.length/\(∃x0,β=[x0])/\o=(ps.take m).map λp=>(tI p,D.int (w1 p)),⟨Yh _,⟨_,rfl⟩,rfl⟩,?_,?_⟩
 ·rintro m d β o hd ⟨hm,⟨x0,rfl⟩,rfl⟩;rw[X5]at hd;obtain⟨p,hp,rfl⟩:=X9.mp hd;have iH:=(X0.mp hp).1;refine⟨_,rfl,tI p,rfl,rfl,F6 (Ga ok.nd hp),?_,iH,⟨_,rfl⟩,?_⟩
  ·rw[XN,Yy];exact pz (by lia)
  ·rw[YO,hp,X1];rfl
 ·rintro β o ⟨_,⟨x0,rfl⟩,rfl⟩;rw[XN,Zv];exact⟨trivial,trivial,q⟩
theorem sX:aG ["row"] ["row"] (ay f_):=mkS
theorem Cp {j5 fA} (uR:L6 K mg j5 fA) {iL dR} (oY:IS K mg iL dR) {fY cJ} (k8:D9 K mg fY cJ) {gN c6} (oW:D8 K mg gN c6) {gO c7} (oX:HC K mg gO c7) {eC b6} (jl:AM K mg eC b6) {iJ dQ} (nV:IQ K mg iJ dQ) (B:Bs3 mg):aJ P w K mg base bN 4 j5 fA ["row"] (cM P w true nF):=by
 have Xi:aJ P w K mg base bN 3 _ _ _ (cM P w true nN):= Cz oY k8 oW oX jl B;have TX:aJ P w K mg base bN 1 _ _ _ (cM P w true wF):= Cu nV;refine lq uR.F sX (λds R Ou=> by obtain⟨n,ps,e,_⟩ := Ou;subst e;rfl) λcF A outer s H E hr=>⟨_,(aw (a9 (aI nN.mono Xi (hr.mono (by decide)) oY.m oY.F.kp oY.b (aa (ab (i:=0)) (aa (aI wF.mono TX (hr.mono (by decide)) nV.m nV.F.kp nV.b (aa (ab (i:=0)) ae)) ae))))),λds R h=>?_⟩
 obtain⟨n,ps,rfl,ok,q⟩:=h;exact⟨_,rfl,trivial,_,rfl,trivial,n,ps,rfl,ok,trivial,n,ps,w1,rfl,ok,trivial,q⟩
end
section
variable {P:XX}{w:X6}{K:PySem.W.Frag}{mg:Str->Option XO}{base:Heap}
theorem oG:aG ["i","k","j"] ["i","k","j"] (ay d4):=mkS
theorem Cr {iI dO} (rQ:IP K mg iI dO):aJ P w K mg base bN 1 iI dO ["i","k","j"] (cM P w true nH):=by
 refine lq rQ.F oG (λds R Ot=> by obtain⟨i,k,j,e,_⟩ := Ot;subst e;rfl) λcF A outer s H E hr=>⟨_,(jI (c5 (aP af (bH.m rh) (ab (i:=1)) mQ) (aw (a9 (bq (aa (aY (aa (aH aV aF (ab (i:=0)) aj) (aa (ab (i:=2)) ae))) ae)))) bA)
    (aw (a9 (bq (aa (aY (aa (aH aV aF (ab (i:=0)) aj) (aa (ab (i:=1)) ae))) (aa (aY (aa (aH aV aF (ab (i:=1)) aj) (aa (ab (i:=2)) ae))) ae)))))),λds R h=>?_⟩
 obtain⟨i,k,j,rfl,q⟩:=h;cases k with
 |none=>exact⟨λ_=>False,⟨_,rfl,trivial,_,rfl,_,rfl,l7 rfl ⟨_,rfl,trivial,_,rfl,trivial,_,rfl,trivial,f7,trivial,EH,trivial,q⟩⟩,λ_ z=>z.elim⟩
 |some k =>
  refine⟨λβ=>β=[some (.val false (.int i)),some (.val false (.int k)),some (.val false (.int j))],⟨_,rfl,trivial,_,rfl,_,rfl,fN rfl rfl⟩,?_⟩;rintro β rfl;exact⟨_,rfl,trivial,_,rfl,trivial,_,rfl,trivial,f7,trivial,_,rfl,trivial,_,rfl,trivial,_,rfl,trivial,f7,trivial,f7,trivial,q⟩
theorem dF:aG ["partners","worth","table","i","j","best","choices"] ["partners","worth","table","i","j"] (ay cS):=mkS
theorem F4 {iM dU} (rR:IM K mg iM dU) {eC b6} (jl:AM K mg eC b6) (B:Bs3 mg):aJ P w K mg base bN 2 iM dU ["partners","worth","table","i","j"] (cM P w true uL):=by
 have TY:aJ P w K mg base bN 1 _ _ _ (cM P w true nK):= xN jl;refine lq rR.F dF (λds R Oq=> by obtain⟨n,ps,w,T,i,j,e,_⟩ := Oq;subst e;rfl) λcF A outer s H E hr=>⟨_,(ah (a8 (i:=5) (aM af bD (aM af bD (ab (i:=2)) (ab (i:=3))) (aH af (bH.m a7) (ab (i:=4)) (ab (i:=3)))) dF.nd)
    (ah (Bq (i:=6) true ["k","j","best","worth","table","i"] [none,some 4,some 5,some 1,some 2,some 3] (by rfl) (by decide:(["k","j","best","worth","table","i"]:List Str).Nodup) rfl (λ_=>(ba (aM af bD (ab (i:=0)) (ab (i:=3))))) (λ_ _ _ _ _ _=>(ak (i:=0) (by decide:(["k","j","best","worth","table","i"]:List Str).Nodup))) (λ_ _ _ _ _ _=>(c8 (vo.t (lV (aP af (bH.m eV) (ab (i:=0)) (ab (i:=1))) (jF (aP af (bH.m (dc hr.units)) (aI nK.mono TY (hr.mono (by decide)) jl.m jl.F.kp jl.b (aa (ab (i:=3)) (aa (ab (i:=4)) (aa (ab (i:=5)) (aa (ab (i:=0)) (aa (ab (i:=1)) ae)))))) (ab (i:=2)))))))) (λ_ _ _ _ _ _=>(ab (i:=0))) dF.nd)
    (jI (c5 (aP af (bH.m (dc hr.units)) (aM af bD (aM af bD (ab (i:=2)) (aH aV aF (ab (i:=3)) aj)) (aH af (bH.m a7) (aH af (bH.m a7) (ab (i:=4)) (ab (i:=3))) aj)) (ab (i:=5))) (aw (eE (i:=6) (λ_=>mQ))) bA)
    (aw (gm (i:=6)))))),λds R h=>?_⟩
 obtain⟨n,ps,w,T,i,j,rfl,ok,h1,h2,q⟩:=h;have K3:=ok.sm;have hle:=ok.le;refine⟨_,rfl,trivial,_,rfl,_,pP rfl (by lia),.inr ⟨trivial,_,rfl,trivial,_,rfl,_,rfl,_,pQ (l:=j-i) (by lia) (by lia),?_⟩⟩
 refine⟨_,rfl,trivial,_,rfl,_,NP rfl (by lia),.inr ⟨_,rfl,trivial,?_⟩⟩
 refine eX (λk=>decide (k<j)&&decide (w (i,k)+T (k-i-1) (i+1)+T (j-k-1) (k+1)=T (j-i) i)) (λk=>.int (k:Int)) trivial (cZ (Yz jE (by lia))) (λk hk x0 o J ho j1 j2=>?_) ?_
 ·have hm:=eh.mp hk;obtain⟨g1,g2⟩:=ok.lt _ hm;dsimp only at g1 g2;refine⟨_,rfl,trivial,_,rfl,_,rfl,_,rfl,rF (λSD=>?_) (λSD=>fN rfl (j2 ?_ _))⟩
  ·have Dw:k<j:=by lia
   refine⟨_,rfl,trivial,_,rfl,trivial,_,rfl,trivial,_,rfl,trivial,_,rfl,trivial,n,ps,w,(λi=>n+1-i),T,i,k,j,rfl,hm,g1,Dw,h2,by show _<n+1-(i+1);lia,by show _<n+1-(k+1);lia,trivial,_,rfl,_,fD _ _,_,rfl,rF (λe=>?_) (λe=>j2 ?_ _)⟩
   ·exact⟨_,rfl,trivial,ho,j1 (by rw[Yu,decide_eq_true_eq,decide_eq_true_eq];exact⟨Dw,e⟩) _⟩
   ·rw[Bool.and_eq_false_iff];exact .inr (decide_eq_false e)
  ·rw[Bool.and_eq_false_iff];exact .inl (decide_eq_false (by lia))
 ·have eb:gK ps w T i j=((lG ps i).filter λk=>decide (k<j)&&decide (w (i,k)+T (k-i-1) (i+1)+T (j-k-1) (k+1)=T (j-i) i)).map some++(if T (j-i-1) (i+1)=T (j-i) i then [none] else []):=rfl
  have em:(((lG ps i).filter λk=>decide (k<j)&&decide (w (i,k)+T (k-i-1) (i+1)+T (j-k-1) (k+1)=T (j-i) i)).map λ(k:Nat)=>D.int (k:Int))=(((lG ps i).filter λk=>decide (k<j)&&decide (w (i,k)+T (k-i-1) (i+1)+T (j-k-1) (k+1)=T (j-i) i)).map some).map oD:=by rw[Y_];rfl
  have hl:(((lG ps i).filter λk=>decide (k<j)&&decide (w (i,k)+T (k-i-1) (i+1)+T (j-k-1) (k+1)=T (j-i) i)).map some).length<=400:=by rw[XN];exact Yz (YD _ _) (Yz jE K3)
  rw[em];generalize ((lG ps i).filter λk=>decide (k<j)&&decide (w (i,k)+T (k-i-1) (i+1)+T (j-k-1) (k+1)=T (j-i) i)).map some=cs at eb hl ⊢
  refine⟨λβ=>β[6]?=some (some (.own (.lst ((gK ps w T i j).map oD)))),?_,λβ hβ=>⟨_,hβ,q⟩⟩;refine⟨_,rfl,trivial,_,rfl,trivial,_,rfl,_,pP (i:=i+1) (by lia) (by lia),.inr ⟨trivial,_,rfl,trivial,_,rfl,_,rfl,trivial,_,rfl,_,pQ (l:=j-i-1) (by lia) (by lia),trivial,_,rfl,_,fD _ _,_,rfl,rF (λe=>?_) (λe=>?_)⟩⟩
  ·rw[if_pos e]at eb;refine⟨⟨_,rfl⟩,trivial,_,rfl,by rw[XN];exact pz (by lia),?_⟩
   rw[eb,X1];rfl
  ·rw[if_neg e,ZJ]at eb;rw[eb];rfl
theorem a6:aG ["row","worth","table","i","j","partners","found","waiting","low","high","k"] ["row","worth","table","i","j"] (ay cn):=mkS
theorem F1 {j6 fB} (uT:L5 K mg j6 fB) {fY cJ} (k8:D9 K mg fY cJ) {iM dU} (rR:IM K mg iM dU) {eC b6} (jl:AM K mg eC b6) {iI dO} (rQ:IP K mg iI dO) (B:Bs3 mg):aJ P w K mg base bN 3 j6 fB ["row","worth","table","i","j"] (cM P w true uI):=by
 have TV:aJ P w K mg base bN 1 _ _ _ (cM P w true nJ):= xM k8 B;have Xo:aJ P w K mg base bN 2 _ _ _ (cM P w true uL):= F4 rR jl B;have Xc:aJ P w K mg base bN 1 _ _ _ (cM P w true nH):= Cr rQ;refine lq uT.F a6 (λds R Oo=> by obtain⟨n,ps,w,i,j,e,_⟩ := Oo;subst e;rfl) λcF A outer s H E hr=>⟨_,(ah (a8 (i:=5) (aI nJ.mono TV (hr.mono (by decide)) k8.m k8.F.kp k8.b (aa (ab (i:=0)) ae)) a6.nd)
    (ah (cE (i:=6) (λ_=>(bq ae)) a6.nd)
    (ah (cE (i:=7) (λ_=>(bq (aa (aY (aa (ab (i:=3)) (aa (ab (i:=4)) ae))) ae))) a6.nd)
    (ah (B7 Y4 (FC (ab (i:=7))) (ah (kK (JJ (i:=7)) (bZ (n:=2) rfl (aD (ak (i:=8) a6.nd) (aD (ak (i:=9) a6.nd) bC))))
    (aw (c5 (aP af (bH.m eV) (ab (i:=8)) (ab (i:=9))) (ah (a8 (i:=10) (aM af bD (aI uL.mono Xo (hr.mono (by decide)) rR.m rR.F.kp rR.b (aa (ab (i:=5)) (aa (ab (i:=1)) (aa (ab (i:=2)) (aa (ab (i:=8)) (aa (ab (i:=9)) ae)))))) aj) a6.nd)
    (jI (c5 (aP af (bH.m Ci) (ab (i:=10)) mQ) (aw (eE (i:=6) (λ_=>(aY (aa (ab (i:=8)) (aa (ab (i:=10)) ae)))))) bA)
    (aw (zp (i:=7) (FG (aI nH.mono Xc (hr.mono (by decide)) rQ.m rQ.F.kp rQ.b (aa (ab (i:=8)) (aa (ab (i:=10)) (aa (ab (i:=9)) ae))))))))) bA))))
    (aw (gm (i:=6))))))),λds R h=>?_⟩
 obtain⟨n,ps,w,i,j,rfl,ok,h1,h2,q⟩:=h;have hn:=ok.le;have hp:∀p∈ps,p.1<p.2:=λp hp=>(ok.lt p hp).1;have Ww:(fX ps w i j).length<=40:=by have:=DC (w:=w) hp (j-i) i j (XS _);lia
 refine⟨_,rfl,trivial,n,ps,rfl,ok,Yh _,trivial,_,rfl,trivial,_,rfl,trivial,f7,trivial,EH,trivial,?_⟩;refine Vi (IW (λm β=>∃(ws:List (Nat×Nat)) (fs:List (Nat×Nat)) (x8 x9 HF:Option Q.B),β=[some (.val false (qQ n ps)),some (.val false (wD ps w)),some (.val false (jY n (tW ps w))),some (.val false (.int i)),some (.val false (.int j)),some (.val true (EL n ps)),some (.own (sL fs)),some (.own (.lst (ws.map AB))),x8,x9,HF]/\(∀p∈ws,p.2<=n)/\xc ws=m/\m<=200/\fs++(ws.reverse.flatMap λp=>fX ps w p.1 p.2)=fX ps w i j) ⟨_,[(i,j)],[],_,_,_,rfl,λp hp=>by rw[XW.mp hp];exact h2,rfl,by show 2*(j-i)+1+0<=200;lia,by simp⟩ λE1 Q1 q1 m n1 β hv=>?_)
 obtain⟨ws,fs,x8,x9,HF,rfl,hw,hm,hl,hf⟩:=hv;rcases List.eq_nil_or_concat ws with rfl|⟨vw,⟨l,h⟩,rfl⟩
 ·refine⟨_,rfl,_,rfl,fN rfl ?_⟩;have hf:fs=fX ps w i j:=by simpa using hf
  rw[<- hf]at q;exact q1 _ ⟨_,rfl,q⟩
 ·rw[List.concat_eq_append]at hw hm hf ⊢
  rw[qz]at hm;have XC:vw.length<=xc vw:=by
   unfold xc
   clear hw hm hf
   induction vw with
   |nil=>exact XS _
   |cons a l ih=>rw[X4,List.sum_cons,Yt];lia
  have hm:xc vw+(2*(h-l)+1)=m:=hm;have hh:h<=n:=hw (l,h) (by simp)
  rw[List.reverse_append,List.reverse_singleton,List.singleton_append,List.flatMap_cons]at hf;refine⟨_,rfl,_,rfl,l7 (by rw[X1];cases vw <;> rfl) ?_⟩
  rw[X1];refine⟨vw.map AB,AB (l,h),rfl,_,rfl,rfl,_,_,rfl,_,_,rfl,rfl,?_⟩;refine⟨_,rfl,trivial,_,rfl,_,rfl,_,rfl,rF (λIl=>?_) (λIl=>?_)⟩
  ·have Il:l<h:=by lia
   have oN:=u6 (w:=w) hp Il;have UQ:=wA (w:=w) hp Il;have lJ:=eF (df (w:=w) hp Il);have GK:cX ps w l h=(gK ps w (tW ps w) l h).headD none:=rfl;cases hb:gK ps w (tW ps w) l h with
   |nil=>exact absurd hb oN
   |cons c cs =>
    rw[hb]at GK;have GK:cX ps w l h=c:=GK;rw[GK]at UQ lJ;rw[UQ]at hf;have fin:∀(Qm:List (Nat×Nat)) (HF:Option Q.B),Qm=fs++ur l c->E1.nx [some (Q.B.val false (qQ n ps)),some (.val false (wD ps w)),some (.val false (jY n (tW ps w))),some (.val false (.int i)),some (.val false (.int j)),some (.val true (EL n ps)),some (.own (sL Qm)),some (.own (.lst (vw.map AB++(parts l c h).reverse.map AB))),some (.val true (.int l)),some (.val true (.int h)),HF]:=λQm HF e=>by
     have Xy:xc (parts l c h).reverse<2*(h-l)+1:=by
      rw[E7];cases c with
      |none=>show 2*(h-(l+1))+1+0<_;lia
      |some k =>
       have:=hp _ lJ.1;dsimp only at this;have h3:=lJ.2.1;show 2*(k-(l+1))+1+(2*(h-(k+1))+1+0)<_;lia
     refine n1 (xc (vw++(parts l c h).reverse)) _ (by rw[qz];lia) ⟨vw++(parts l c h).reverse,Qm,_,_,_,by rw[X1],λp OK=>?_,rfl,by rw[qz];lia,?_⟩
     ·rcases XZ.mp OK with z|z
      ·exact hw p (by simp[z])
      ·have z:=List.mem_reverse.mp z;cases c with
       |none=>rw[XW.mp z];exact hh
       |some k =>
        have h3:=lJ.2.1;rcases XU.mp z with rfl|z
        ·show k<=n;lia
        ·rw[XW.mp z];exact hh
     ·rw[<- hf,e,List.reverse_append,List.reverse_reverse,ZQ];simp only[ZL]
    refine⟨_,rfl,trivial,_,rfl,trivial,_,rfl,trivial,_,rfl,trivial,_,rfl,trivial,n,ps,w,tW ps w,l,h,rfl,ok,Il,hh,trivial,oD c,jR (i:=0) rfl (by rw[hb];rfl),?_⟩
    cases c with
    |none =>
     refine⟨λβ=>β=[some (Q.B.val false (qQ n ps)),some (.val false (wD ps w)),some (.val false (jY n (tW ps w))),some (.val false (.int i)),some (.val false (.int j)),some (.val true (EL n ps)),some (.own (sL fs)),some (.own (.lst (vw.map AB))),some (.val true (.int l)),some (.val true (.int h)),some (.val true .cj)],⟨_,rfl,trivial,_,rfl,_,rfl,fN rfl rfl⟩,?_⟩;rintro β rfl;exact⟨⟨_,rfl⟩,_,rfl,trivial,_,rfl,trivial,_,rfl,trivial,l,none,h,rfl,_,rfl,.inl ⟨rfl,_,_,rfl,rfl,rfl,by rw[XN];exact cZ (show vw.length+1<=1000 by lia),fin fs _ (by simp[ur])⟩⟩
    |some k =>
     refine⟨λβ=>β=[some (Q.B.val false (qQ n ps)),some (.val false (wD ps w)),some (.val false (jY n (tW ps w))),some (.val false (.int i)),some (.val false (.int j)),some (.val true (EL n ps)),some (.own (sL (fs++[(l,k)]))),some (.own (.lst (vw.map AB))),some (.val true (.int l)),some (.val true (.int h)),some (.val true (.int k))],⟨_,rfl,trivial,_,rfl,_,rfl,l7 rfl ⟨⟨_,rfl⟩,_,rfl,trivial,_,rfl,trivial,f7,trivial,_,rfl,?_,?_⟩⟩,?_⟩
     ·rw[XN];have:=congrArg List.length hf;rw[Yg]at this;exact pz (by lia)
     ·unfold sL;rw[X1];rfl
     ·rintro β rfl;exact⟨⟨_,rfl⟩,_,rfl,trivial,_,rfl,trivial,_,rfl,trivial,l,some k,h,rfl,_,rfl,.inl ⟨rfl,_,_,rfl,rfl,rfl,by rw[XN];exact cZ (show vw.length+2<=1000 by lia),fin (fs++[(l,k)]) _ rfl⟩⟩
  ·have Il:¬ l<h:=by lia
   rw[e_ Il]at hf;exact n1 (xc vw) _ (by lia) ⟨vw,fs,_,_,_,rfl,λp OK=>hw p (by simp[OK]),rfl,by lia,by simpa using hf⟩
theorem mE:aG ["row","i","j","table"] ["row","i","j"] (ay ie):=mkS
theorem zr {lM gJ} (wN:Ms K mg lM gJ) {j5 fA} (uR:L6 K mg j5 fA) {iL dR} (oY:IS K mg iL dR) {fY cJ} (k8:D9 K mg fY cJ) {gN c6} (oW:D8 K mg gN c6) {gO c7} (oX:HC K mg gO c7) {eC b6} (jl:AM K mg eC b6) {iJ dQ} (nV:IQ K mg iJ dQ) {j6 fB} (uT:L5 K mg j6 fB) {iM dU} (rR:IM K mg iM dU) {iI dO} (rQ:IP K mg iI dO) (B:Bs3 mg):aJ P w K mg base bN 5 lM gJ ["row","i","j"] (cM P w true j8):=by
 have W7:aJ P w K mg base bN 4 _ _ _ (cM P w true nF):= Cp uR oY k8 oW oX jl nV B;have Xk:aJ P w K mg base bN 3 _ _ _ (cM P w true uI):= F1 uT k8 rR jl rQ B;have TX:aJ P w K mg base bN 1 _ _ _ (cM P w true wF):= Cu nV;refine lq wN.F mE (λds R Om=> by obtain⟨n,ps,i,j,e,_⟩ := Om;subst e;rfl) λcF A outer s H E hr=>⟨_,(ah (c5 (gh (pE aj (eO rg (ab (i:=1)) (eO rg (ab (i:=2)) (lW rg (aM af bD (ab (i:=0)) aj)))))) ip bA)
    (ah (a8 (i:=3) (aI nF.mono W7 (hr.mono (by decide)) uR.m uR.F.kp uR.b (aa (ab (i:=0)) ae)) mE.nd)
    (aw (a9 (aY (aa (aM af bD (aM af bD (ab (i:=3)) (ab (i:=1))) (aH af (bH.m a7) (ab (i:=2)) (ab (i:=1)))) (aa (aI uI.mono Xk (hr.mono (by decide)) uT.m uT.F.kp uT.b (aa (ab (i:=0)) (aa (aI wF.mono TX (hr.mono (by decide)) nV.m nV.F.kp nV.b (aa (ab (i:=0)) ae)) (aa (ab (i:=3)) (aa (ab (i:=1)) (aa (ab (i:=2)) ae)))))) ae))))))),λds R h=>?_⟩
 obtain⟨n,ps,i,j,rfl,ok,h1,h2,q⟩:=h;have ej:(j:Int)-(i:Int)=((j-i:Nat):Int):=by lia
 refine⟨_,rfl,_,rfl,l7 (decide_eq_true (by lia)) ⟨_,rfl,_,rfl,l7 (decide_eq_true (by lia)) ⟨_,rfl,trivial,_,rfl,_,rfl,_,rfl,fN (by show (!decide _)=false;rw[decide_eq_true (show (j:Int)<=(n:Int) by lia)];rfl) ?_⟩⟩⟩
 exact⟨_,rfl,trivial,n,ps,rfl,ok,_,rfl,trivial,_,rfl,_,pP rfl (by lia),.inr ⟨trivial,_,rfl,trivial,_,rfl,_,rfl,_,pQ (l:=j-i) ej (by lia),trivial,_,rfl,trivial,_,rfl,trivial,n,ps,rfl,ok,trivial,_,rfl,trivial,_,rfl,trivial,_,rfl,trivial,n,ps,w1,i,j,rfl,ok,h1,h2,trivial,f7,trivial,q⟩⟩
theorem qN:aG ["row"] ["row"] (ay fk):=mkS
theorem xO {oV iU} (vn:Pz K mg oV iU) {lM gJ} (wN:Ms K mg lM gJ) {j5 fA} (uR:L6 K mg j5 fA) {iL dR} (oY:IS K mg iL dR) {fY cJ} (k8:D9 K mg fY cJ) {gN c6} (oW:D8 K mg gN c6) {gO c7} (oX:HC K mg gO c7) {eC b6} (jl:AM K mg eC b6) {iJ dQ} (nV:IQ K mg iJ dQ) {j6 fB} (uT:L5 K mg j6 fB) {iM dU} (rR:IM K mg iM dU) {iI dO} (rQ:IP K mg iI dO) (B:Bs3 mg):aJ P w K mg base bN 6 oV iU ["row"] (cM P w true nL):=by
 have Xe:aJ P w K mg base bN 5 _ _ _ (cM P w true j8):= zr wN uR oY k8 oW oX jl nV uT rR rQ B;refine lq vn.F qN (λds R Ol=> by obtain⟨n,ps,e,_⟩ := Ol;subst e;rfl) λcF A outer s H E hr=>⟨_,(aw (a9 (aI j8.mono Xe (hr.mono (by decide)) wN.m wN.F.kp wN.b (aa (ab (i:=0)) (aa aj (aa (aM af bD (ab (i:=0)) aj) ae)))))),λds R h=>?_⟩
 obtain⟨n,ps,rfl,ok,q⟩:=h;exact⟨_,rfl,trivial,trivial,_,rfl,trivial,_,rfl,trivial,n,ps,0,n,rfl,ok,Yh _,XS _,trivial,q⟩
end
section
variable {P:XX}{w:X6}{K:PySem.W.Frag}{mg:Str->Option XO}{base:Heap}
theorem cI:aG ["many","ties","near","best","j","i","some"] ["many","ties"] (ay gf):=mkS
theorem FZ {zV p0} (IA:T5 K mg zV p0) (B:Bs3 mg):aJ P w K mg base bN 1 zV p0 ["many","ties"] (cM P w true uH):=by
 refine lq IA.F cI (λds R Oj=> by obtain⟨n,ps,e,_⟩ := Oj;subst e;rfl) λcF A outer s H E hr=>⟨_,(ah (Q3 (i:=2) "point" false ["point","ties"] [none,some 1] (by rfl) (by decide:(["point","ties"]:List Str).Nodup) rfl (λ_=>(bp B.range (aa (ab (i:=0)) ae))) (λ_ _ _ _ _ _=>(ak (i:=0) (by decide:(["point","ties"]:List Str).Nodup))) (λ_ _ _ _ _ _=>cN) (λ_ _ _ _ _ _=>(V0 ["a","b","point"] [none,none,some 0] (by rfl) (by decide:(["a","b","point"]:List Str).Nodup) rfl (ba (ab (i:=1))) (λ_ _ _ _ _ _=>(bZ (n:=2) rfl (aD (ak (i:=0) (by decide:(["a","b","point"]:List Str).Nodup)) (aD (ak (i:=1) (by decide:(["a","b","point"]:List Str).Nodup)) bC)))) (λ_ _ _ _ _ _=>(c8 (aP af (bH.m (dc hr.units)) (ab (i:=1)) (ab (i:=2))))) (λ_ _ _ _ _ _=>(ab (i:=0))))) cI.nd)
    (ah (cE (i:=3) (λ_=>BR) cI.nd)
    (ah (dG Y4 rfl (bp B.range (aa (aH aV aF (ab (i:=0)) aj) ae)) (ak (i:=4) cI.nd) (ah (xE (i:=3) hr.b9 (λ_=>aj) (λ_=>(aY (aa (ab (i:=4)) (aa (ab (i:=4)) ae)))))
    (aw (dG Y4 rfl (mP B.range (aa (aH af (bH.m a7) (ab (i:=4)) aj) (aa (tL jB aj) (aa (tL jB aj) ae)))) (ak (i:=5) cI.nd) (ah (a8 (i:=6) (aH aV aF (bq (aa (aM af (uf hr.b9) (ab (i:=3)) (aY (aa (ab (i:=5)) (aa (aH af (bH.m a7) (ab (i:=4)) aj) ae)))) ae)) (CT ["a","best","i","j"] [none,some 3,some 5,some 4] (by rfl) (by decide:(["a","best","i","j"]:List Str).Nodup) rfl (ba (aM af bD (ab (i:=2)) (aH af (bH.m a7) (ab (i:=4)) aj))) (λ_ _ _ _ _ _=>(ak (i:=0) (by decide:(["a","best","i","j"]:List Str).Nodup))) (λ_ _ _ _ _ _=>(c8 (aP af (bH.m Cm) (ab (i:=0)) (ab (i:=2))))) (λ_ _ _ _ _ _=>(aH aV aF (aH aV aF (aM af (uf hr.b9) (ab (i:=1)) (aY (aa (ab (i:=2)) (aa (ab (i:=0)) ae)))) aj) (aM af (uf hr.b9) (ab (i:=1)) (aY (aa (aH aV aF (ab (i:=0)) aj) (aa (aH af (bH.m a7) (ab (i:=3)) aj) ae)))))))) cI.nd)
    (aw (xE (i:=3) hr.b9 (λ_=>(aR af (bo.m (f6 rfl)) B.max h_ (aa (ab (i:=6)) ae))) (λ_=>(aY (aa (ab (i:=5)) (aa (ab (i:=4)) ae)))))))))))
    (aw (a9 (aM af (uf hr.b9) (ab (i:=3)) (aY (aa aj (aa (ab (i:=0)) ae))))))))),λds R h=>?_⟩
 obtain⟨n,ps,rfl,ok,hn,q⟩:=h;have K3:=ok.sm;have hp:∀p∈ps,p.1<p.2:=λp hp=>(ok.lt p hp).1;refine⟨_,rfl,trivial,n,rfl,by lia,by lia,trivial,?_⟩
 rw[Zq];refine⟨λa β o=>a<=n/\(∃x0,β=[x0,some (.val false (sL ps))])/\o=(X7 a).map λi=>D.lst (Q.gH (near ps i)),⟨Yh _,⟨_,rfl⟩,rfl⟩,?_,?_⟩
 ·rintro a d β o hd ⟨ha,⟨x0,rfl⟩,rfl⟩;obtain⟨vm,rfl⟩:=bU hd;refine⟨_,rfl,_,rfl,trivial,rC (λp=>decide (p.2=a)) (λp=>.int (p.1:Int)) trivial (cZ (by lia)) (λp hp x0 x1 o J ho j1 j2=>?_) ⟨trivial,by rw[XN,Yx];exact pz (by lia),vm,⟨_,rfl⟩,?_⟩⟩
  ·refine⟨_,rfl,rfl,_,_,rfl,_,_,rfl,rfl,_,rfl,trivial,_,rfl,_,fD _ _,_,rfl,rF (λh=>?_) (λh=>j2 (by simp;lia) _ _)⟩
   exact⟨_,rfl,trivial,ho,j1 (by simp;lia) _ _⟩
  ·rw[aaB,X1,<- zz];rfl
 ·rintro β o ⟨_,⟨x0,rfl⟩,rfl⟩;rw[cy];refine⟨trivial,trivial,_,rfl,trivial,_,rfl,trivial,(n:Int)+1,rfl,by lia,by lia,trivial,?_⟩
  rw[show ((n:Int)+1).toNat=n+1 by lia]
  refine⟨λJ β=>J<=n+1/\∃kvs x4 x5 x6,β=[some (.val false (.int n)),some (.val false (sL ps)),some (.val true (.lst ((X7 n).map λi=>D.lst (Q.gH (near ps i))))),some (.own (dA kvs)),x4,x5,x6]/\IL (mX ps) kvs J 0,⟨Yh _,[],_,_,_,rfl,KD⟩,?_,?_⟩
  ·rintro J d β hd ⟨_,kvs,x4,x5,x6,rfl,kn⟩;obtain⟨hJ,rfl⟩:=bU hd;rw[Int.zero_add];obtain⟨v0,k0⟩:=C5 (i:=J) kn (by lia)
   rw[dq (XS J)]at k0;have hlen:=kn.len;refine⟨trivial,⟨_,rfl⟩,_,rfl,trivial,_,rfl,trivial,f7,kvs,tI (J,J),rfl,rfl,v0,Zd (show kvs.length<=4200 by lia) (by decide),?_⟩
   refine⟨_,rfl,trivial,_,rfl,trivial,_,rfl,rfl,trivial,_,rfl,rfl,trivial,(J:Int)-1,-1,rfl,⟨by lia,by lia,by lia,by lia⟩,trivial,?_⟩
   rw[show ((J:Int)-1 - -1).toNat=J by lia]
   refine⟨λm β=>m<=J/\∃kvs x5 x6,β=[some (.val false (.int n)),some (.val false (sL ps)),some (.val true (.lst ((X7 n).map λi=>D.lst (Q.gH (near ps i))))),some (.own (dA kvs)),some (.val true (.int J)),x5,x6]/\IL (mX ps) kvs J (m+1),⟨Yh _,_,_,_,rfl,k0⟩,?_,?_⟩
   ·rintro m d β hd ⟨_,kvs,x5,x6,rfl,kn⟩;obtain⟨hm,rfl⟩:=mK hd;have hlen:=kn.len;rw[show (J:Int)-1-(m:Int)=((J-1-m:Nat):Int) by lia]
    obtain⟨v0,k0⟩:=C5 (i:=J-1-m) kn (by lia)
    have em:gz ek [.lst ([D.int (mX ps (J-1-m) (J-1))]++((near ps (J-1)).filter λa=>decide (J-1-m<=a)).map λa=>D.int (mX ps (J-1-m) a+1+mX ps (a+1) (J-1)))]=some (.int (mX ps (J-1-m) J)):=by
     have:=iu (CM hp (show J-1-m<J by lia))
     rw[X1,Y_]at this;exact this
    refine⟨_,rfl,trivial,_,rfl,trivial,_,rfl,trivial,_,rfl,trivial,f7,_,rL (i:=J-1-m) (j:=J-1) rfl (by lia) (kn.ge (J-1-m) (J-1) (by lia) (.inl (by lia))),trivial,EH,trivial,?_⟩
    refine⟨_,rfl,trivial,_,rfl,trivial,_,rfl,_,jR (i:=J-1) (by lia) (d8 (by lia)),.inr ⟨_,rfl,trivial,?_⟩⟩
    refine eX (λa=>decide (J-1-m<=a)) (λa=>.int (mX ps (J-1-m) a+1+mX ps (a+1) (J-1))) trivial (cZ (Yz t6 (by lia))) (λa ha x0 o J' ho j1 j2=>?_) ?_
    ·have oP:=hp _ (mW.mp ha);dsimp only at oP;refine⟨_,rfl,trivial,_,rfl,_,rfl,_,rfl,rF (λh=>?_) (λh=>j2 (by simp;lia) _)⟩
     have h':J-1-m<=a:=by lia
     exact⟨_,rfl,trivial,_,rfl,trivial,_,rfl,trivial,f7,_,rL rfl rfl (kn.ge (J-1-m) a h' (.inl (by lia))),trivial,_,rfl,trivial,_,rfl,trivial,_,rfl,trivial,_,rfl,trivial,_,rfl,trivial,_,rfl,trivial,f7,_,rL (i:=a+1) (j:=J-1) (by lia) (by lia) (kn.ge (a+1) (J-1) (by lia) (.inl (by lia))),_,rfl,trivial,ho,j1 (decide_eq_true h') _⟩
    ·refine⟨_,h8 (by rw[XN];have:=YD (λa=>decide (J-1-m<=a)) (near ps (J-1));have:=t6 (ps:=ps) (b:=J-1);show 1+_<=_;lia),.inr ?_⟩
     exact⟨_,rfl,trivial,_,em,trivial,⟨_,rfl⟩,_,rfl,trivial,_,rfl,trivial,f7,kvs,tI (J-1-m,J),rfl,rfl,v0,Zd (show kvs.length<=4200 by lia) (by decide),hm,_,_,_,rfl,k0⟩
   ·rintro β ⟨_,kvs,x5,x6,rfl,kn⟩;rw[mJ]at kn;exact⟨hJ,kvs,_,_,_,rfl,Gq (by lia) kn⟩
  ·rintro β ⟨_,kvs,x4,x5,x6,rfl,kn⟩;rw[cy]at kn;exact⟨_,rfl,trivial,trivial,_,rfl,trivial,f7,_,rL (i:=0) (j:=n) rfl rfl (KG kn 0 n (Yh _) (XS _)),trivial,q⟩
end
section
variable {P:XX}{w:X6}{K:PySem.W.Frag}{mg:Str->Option XO}{base:Heap}
theorem cw:aG ["one","other","a","b","c","d"] ["one","other"] (ay d7):=mkS
theorem oH {ET oT} (dX:Py K mg ET oT):aJ P w K mg base bN 1 ET oT ["one","other"] (cM P w true nO):=by
 refine lq dX.F cw (λds R Oi=> by obtain⟨t,u,e,_⟩ := Oi;subst e;rfl) λcF A outer s H E hr=>⟨_,(ah (kK (ab (i:=0)) (bZ (n:=2) rfl (aD (ak (i:=2) cw.nd) (aD (ak (i:=3) cw.nd) bC))))
    (ah (kK (ab (i:=1)) (bZ (n:=2) rfl (aD (ak (i:=4) cw.nd) (aD (ak (i:=5) cw.nd) bC))))
    (aw (a9 (HP (tM (ab (i:=2)) (eO eV (ab (i:=4)) (eO eV (ab (i:=3)) (lW eV (ab (i:=5)))))) (qV (tM (ab (i:=4)) (eO eV (ab (i:=2)) (eO eV (ab (i:=5)) (lW eV (ab (i:=3)))))))))))),λds R h=>?_⟩
 obtain⟨t,u,rfl,⟨a,b,rfl⟩,⟨c,d,rfl⟩,q⟩:=h;refine⟨_,rfl,_,rfl,rfl,_,_,rfl,_,_,rfl,rfl,?_⟩;refine⟨_,rfl,_,rfl,rfl,_,_,rfl,_,_,rfl,rfl,?_⟩;refine Ej (a:=a) (b:=c) (c:=b) (d:=d) rfl rfl rfl rfl ⟨_,rfl,RQ (λh=>⟨trivial,?_⟩) (λh=>Ej (a:=c) (b:=a) (c:=d) (d:=b) rfl rfl rfl rfl ⟨trivial,?_⟩)⟩
 ·have:k9 [a,b] [c,d]=true:=by show (_ || _)=true;rw[h];rfl
  rw[<- this];exact q
 ·have:k9 [a,b] [c,d]=(decide (c<a)&&(decide (a<d)&&decide (d<b))):=by show (_ || _)=_;rw[h];rfl
  rw[<- this];exact q
theorem kG:aG ["one","other"] ["one","other"] (ay cD):=mkS
theorem Cq {EU oU} (dS:Px K mg EU oU):aJ P w K mg base bN 1 EU oU ["one","other"] (cM P w true nG):=by
 refine lq dS.F kG (λds R Oh=> by obtain⟨t,u,e,_⟩ := Oh;subst e;rfl) λcF A outer s H E hr=>⟨_,(aw (a9 (HP (gj af (bH.m (Cj hr.qE)) (aM af bD (ab (i:=0)) aj) (ab (i:=1))) (qV (gj af (bH.m (Cj hr.qE)) (aM af bD (ab (i:=0)) aj) (ab (i:=1))))))),λds R h=>?_⟩
 obtain⟨t,u,rfl,⟨a,b,rfl⟩,q⟩:=h;refine⟨_,rfl,trivial,_,rfl,trivial,_,rfl,_,Ef a u,_,rfl,rF (λh=>⟨trivial,?_⟩) (λh=>⟨_,rfl,trivial,_,rfl,trivial,_,rfl,_,Ef b u,trivial,?_⟩)⟩
 ·show R _;simpa[gU,h] using q
 ·show R _;simpa[gU,h] using q
theorem fF:aG ["row","tie","many","ties"] ["row","tie"] (ay d3):=mkS
def j_:FD:=λds R=>∃(n:Nat) (ps:List (Nat×Nat)) (t:Nat×Nat),ds=[qQ n ps,AB t]/\vq n ps/\R (qQ n (ps.filter (yH t)))
theorem j_.mono:cA j_:=λds R R' k ⟨n,ps,t,e,h,q⟩=>⟨n,ps,t,e,h,k _ q⟩
theorem zt {uE ly} (EV:Qy K mg uE ly) {EU oU} (dS:Px K mg EU oU) {ET oT} (dX:Py K mg ET oT) (B:Bs3 mg):aJ P w K mg base bN 2 uE ly ["row","tie"] (cM P w true j_):=by
 have GX:aJ P w K mg base bN 1 _ _ _ (cM P w true nO):=oH dX;have GS:aJ P w K mg base bN 1 _ _ _ (cM P w true nG):=Cq dS;refine lq EV.F fF (λds R Og=> by obtain⟨n,ps,t,e,_⟩ := Og;subst e;rfl) λcF A outer s H E hr=>⟨_,(ah (kK (ab (i:=0)) (bZ (n:=2) rfl (aD (ak (i:=2) fF.nd) (aD (ak (i:=3) fF.nd) bC))))
    (aw (a9 (aY (aa (ab (i:=2)) (aa (CT ["other","tie"] [none,some 1] (by rfl) (by decide:(["other","tie"]:List Str).Nodup) rfl (ba (ab (i:=3))) (λ_ _ _ _ _ _=>(ak (i:=0) (by decide:(["other","tie"]:List Str).Nodup))) (λ_ _ _ _ _ _=>(c8 (vo.t (lV (gh (d9 (aI nG.mono GS (hr.mono (by decide)) dS.m dS.F.kp dS.b (aa (ab (i:=1)) (aa (ab (i:=0)) ae))))) (jF (gh (d9 (aI nO.mono GX (hr.mono (by decide)) dX.m dX.F.kp dX.b (aa (ab (i:=1)) (aa (ab (i:=0)) ae)))))))))) (λ_ _ _ _ _ _=>(ab (i:=0)))) ae)))))),λds R h=>?_⟩
 obtain⟨n,ps,t,rfl,ok,q⟩:=h;refine⟨_,rfl,_,rfl,rfl,_,_,rfl,_,_,rfl,rfl,?_⟩;have K3:=ok.sm;refine⟨_,rfl,trivial,_,rfl,_,rfl,trivial,eX (yH t) (λp=>kD (tI p)) trivial (cZ (by lia)) (λo ho x0 ou J Lk j1 j2=>?_) ?_⟩
 ·refine⟨_,rfl,trivial,_,rfl,trivial,tI t,tI o,rfl,⟨_,_,rfl⟩,_,rfl,?_⟩;unfold yH at j1 j2;cases z1:gU (tI t) (tI o)with
  |true=>exact fN rfl (fN rfl (j2 (by rw[z1];rfl) _))
  |false =>
   refine l7 rfl ⟨_,rfl,trivial,_,rfl,trivial,tI t,tI o,rfl,⟨_,_,rfl⟩,⟨_,_,rfl⟩,_,rfl,?_⟩;cases z2:k9 (tI t) (tI o)with
   |true=>exact fN rfl (j2 (by rw[z1,z2];rfl) _)
   |false=>exact l7 rfl ⟨_,rfl,rfl,Lk,j1 (by rw[z1,z2];rfl) _⟩
 exact⟨trivial,f7,trivial,q⟩
theorem lF:aG ["row","point"] ["row","point"] (ay cQ):=mkS
def DO:FD:=λds R=>∃(n:Nat) (ps:List NN) (p:Nat),ds=[qQ n ps,.int p]/\vq n ps/\R (.int (mX (Fy ps p) 0 n))
theorem DO.mono:cA DO:=λds R R' k ⟨n,ps,p,e,h,q⟩=>⟨n,ps,p,e,h,k _ q⟩
theorem KS (p:Nat)(t:NN):decide ((p:Int)∈tI t)=(decide (t.1=p) || decide (t.2=p)):=by
 rw[Bool.eq_iff_iff,aaC,decide_eq_true_eq,decide_eq_true_eq,decide_eq_true_eq];unfold tI;rw[XU,XW];lia
theorem J5 {zX qa} (IC:T4 K mg zX qa) {oV iU} (vn:Pz K mg oV iU) {lM gJ} (wN:Ms K mg lM gJ) {j5 fA} (uR:L6 K mg j5 fA) {iL dR} (oY:IS K mg iL dR) {fY cJ} (k8:D9 K mg fY cJ) {gN c6} (oW:D8 K mg gN c6) {gO c7} (oX:HC K mg gO c7) {eC b6} (jl:AM K mg eC b6) {iJ dQ} (nV:IQ K mg iJ dQ) {j6 fB} (uT:L5 K mg j6 fB) {iM dU} (rR:IM K mg iM dU) {iI dO} (rQ:IP K mg iI dO) (B:Bs3 mg):aJ P w K mg base bN 7 zX qa ["row","point"] (cM P w true DO):=by
 have TZ:aJ P w K mg base bN 6 _ _ _ (cM P w true nL):=xO vn wN uR oY k8 oW oX jl nV uT rR rQ B;refine lq IC.F lF (λds R Of=> by obtain⟨n,ps,p,e,_⟩ := Of;subst e;rfl) λcF A outer s H E hr=>⟨_,(aw (a9 (aM af bD (aI nL.mono TZ (hr.mono (by decide)) vn.m vn.F.kp vn.b (aa (aY (aa (aM af bD (ab (i:=0)) aj) (aa (CT ["tie","point"] [none,some 1] (by rfl) (by decide:(["tie","point"]:List Str).Nodup) rfl (ba (aM af bD (ab (i:=0)) aj)) (λ_ _ _ _ _ _=>(ak (i:=0) (by decide:(["tie","point"]:List Str).Nodup))) (λ_ _ _ _ _ _=>(c8 (aP af (bH.m (zq hr.qE)) (ab (i:=1)) (ab (i:=0))))) (λ_ _ _ _ _ _=>(ab (i:=0)))) ae))) ae)) aj))),λds R h=>?_⟩
 obtain⟨n,ps,p,rfl,ok,q⟩:=h;have K3:=ok.sm;refine⟨_,rfl,trivial,_,rfl,trivial,_,rfl,trivial,_,rfl,.inr ⟨_,rfl,trivial,eX (λt=>!(decide (t.1=p) || decide (t.2=p))) (λp=>kD (tI p)) trivial (cZ (by lia)) (λo ho x0 ou J Lk j1 j2=>?_) ?_⟩⟩
 ·refine⟨_,rfl,trivial,_,rfl,_,Ab _ _,_,rfl,?_⟩;rw[KS];cases z:(!(decide (o.1=p) || decide (o.2=p)))with
  |true=>exact l7 rfl ⟨_,rfl,rfl,Lk,j1 z _⟩
  |false=>exact fN rfl (j2 z _)
 exact⟨trivial,f7,trivial,n,Fy ps p,rfl,DG ok _,trivial,_,rfl,trivial,q⟩
theorem mG:aG ["row","point","other"] ["row","point","other"] (ay dk):=mkS
def DP:FD:=λds R=>∃(n:Nat) (ps:List NN) (p o:Nat),ds=[qQ n ps,.int p,.int o]/\vq n ps/\R (.int (1+mX (ps.filter (yH (mm p o))) 0 n))
theorem DP.mono:cA DP:=λds R R' k ⟨n,ps,p,o,e,h,q⟩=>⟨n,ps,p,o,e,h,k _ q⟩
theorem J6 {zY qb} (ID:T3 K mg zY qb) {uE ly} (EV:Qy K mg uE ly) {EU oU} (dS:Px K mg EU oU) {ET oT} (dX:Py K mg ET oT) {oV iU} (vn:Pz K mg oV iU) {lM gJ} (wN:Ms K mg lM gJ) {j5 fA} (uR:L6 K mg j5 fA) {iL dR} (oY:IS K mg iL dR) {fY cJ} (k8:D9 K mg fY cJ) {gN c6} (oW:D8 K mg gN c6) {gO c7} (oX:HC K mg gO c7) {eC b6} (jl:AM K mg eC b6) {iJ dQ} (nV:IQ K mg iJ dQ) {j6 fB} (uT:L5 K mg j6 fB) {iM dU} (rR:IM K mg iM dU) {iI dO} (rQ:IP K mg iI dO) (B:Bs3 mg):aJ P w K mg base bN 7 zY qb ["row","point","other"] (cM P w true DP):=by
 have TZ:aJ P w K mg base bN 6 _ _ _ (cM P w true nL):=xO vn wN uR oY k8 oW oX jl nV uT rR rQ B;have Xa:aJ P w K mg base bN 2 _ _ _ (cM P w true j_):=zt EV dS dX B;refine lq ID.F mG (λds R Oe=> by obtain⟨n,ps,p,o,e,_⟩ := Oe;subst e;rfl) λcF A outer s H E hr=>⟨_,(aw (a9 (aH aV aF aj (aM af bD (aI nL.mono TZ (hr.mono (by decide)) vn.m vn.F.kp vn.b (aa (aI j_.mono Xa (hr.mono (by decide)) EV.m EV.F.kp EV.b (aa (ab (i:=0)) (aa (aY (aa (aR af (bo.m (wV rfl)) B.min LQ (aa (ab (i:=1)) (aa (ab (i:=2)) ae))) (aa (aR af (bo.m (wW rfl)) B.max h_ (aa (ab (i:=1)) (aa (ab (i:=2)) ae))) ae))) ae))) ae)) aj)))),λds R h=>?_⟩
 obtain⟨n,ps,p,o,rfl,ok,q⟩:=h;have e1:yu [.int (p:Int),.int (o:Int)]=some (.int ((min p o:Nat):Int)):=by
  rw[Ec]
  congr 2
  split <;> lia
 have e2:Ed [.int (p:Int),.int (o:Int)]=some (.int ((max p o:Nat):Int)):=by
  rw[show Ed [.int (p:Int),.int (o:Int)]=some (.int (if (o:Int)>p then (o:Int) else p)) from rfl]
  congr 2
  split <;> lia
 refine⟨trivial,_,rfl,trivial,_,rfl,trivial,_,rfl,trivial,_,e1,trivial,_,rfl,trivial,_,rfl,trivial,_,e2,trivial,f7,trivial,n,ps,mm p o,rfl,ok,trivial,n,_,rfl,DG ok _,trivial,_,rfl,_,rfl,trivial,q⟩
end
section
variable {P:XX}{w:X6}{K:PySem.W.Frag}{mg:Str->Option XO}{base:Heap}
theorem bt:aG ["kinds","pairs","gap","place","row","fits","alone","tied","numbers","kind","best"] ["kinds","pairs","gap","place"] (ay d6):=mkS
theorem CA {G6 yp} (Mo:Va K mg G6 yp) {zW p_} (IB:D6 K mg zW p_) {uG lA} (EW:D4 K mg uG lA) {uF lz} (yx:D5 K mg uF lz) {zX qa} (IC:T4 K mg zX qa) {zY qb} (ID:T3 K mg zY qb) {uE ly} (EV:Qy K mg uE ly) {EU oU} (dS:Px K mg EU oU) {ET oT} (dX:Py K mg ET oT) {oV iU} (vn:Pz K mg oV iU) {lM gJ} (wN:Ms K mg lM gJ) {j5 fA} (uR:L6 K mg j5 fA) {iL dR} (oY:IS K mg iL dR) {fY cJ} (k8:D9 K mg fY cJ) {gN c6} (oW:D8 K mg gN c6) {gO c7} (oX:HC K mg gO c7) {eC b6} (jl:AM K mg eC b6) {iJ dQ} (nV:IQ K mg iJ dQ) {j6 fB} (uT:L5 K mg j6 fB) {iM dU} (rR:IM K mg iM dU) {iI dO} (rQ:IP K mg iI dO) (B:T7 mg) (BK:HD mg):aJ P w K mg base bN 8 G6 yp ["kinds","pairs","gap","place"] (cM P w true jk):=by
 have W_:aJ P w K mg base bN 2 _ _ _ (cM P w true DL):=J3 IB EW yx BK;have T1:aJ P w K mg base bN 1 _ _ _ (cM P w true Lz):=HX yx;have Xd:aJ P w K mg base bN 7 _ _ _ (cM P w true DO):=J5 IC vn wN uR oY k8 oW oX jl nV uT rR rQ B.toBs3;have Xf:aJ P w K mg base bN 7 _ _ _ (cM P w true DP):=J6 ID EV dS dX vn wN uR oY k8 oW oX jl nV uT rR rQ B.toBs3;refine lq Mo.F bt (λds R Od=> by obtain⟨ks,rs,g,p,l,e,_⟩ := Od;subst e;rfl) λcF A outer s H E hr=>⟨_,(ah (a8 (i:=4) (aI DL.mono W_ (hr.mono (by decide)) IB.m IB.F.kp IB.b (aa (ab (i:=0)) (aa (ab (i:=1)) (aa (ab (i:=2)) ae)))) bt.nd)
    (ah (c5 (gh (pE aj (eO rg (ab (i:=3)) (lW eV (aR af (bo.m bj) B.len cY (aa (ab (i:=0)) ae)))))) ip bA)
    (ah (a8 (i:=5) (aI Lz.mono T1 (hr.mono (by decide)) yx.m yx.F.kp yx.b (aa (ab (i:=1)) ae)) bt.nd)
    (ah (a8 (i:=6) (aI DO.mono Xd (hr.mono (by decide)) IC.m IC.F.kp IC.b (aa (ab (i:=4)) (aa (ab (i:=3)) ae))) bt.nd)
    (ah (cE (i:=7) (λ_=>WT (Nat.lt_of_succ_lt hr.b9) ["other","row","place","gap"] [none,some 4,some 3,some 2] (by rfl) (by decide:(["other","row","place","gap"]:List Str).Nodup) rfl (bp B.range (aa (aR af (bo.m bj) B.len cY (aa (ab (i:=0)) ae)) ae)) (λ_ _ _ _ _ _=>(ak (i:=0) (by decide:(["other","row","place","gap"]:List Str).Nodup))) (λ_ _ _ _ _ _=>(c8 (aP af (bH.m vW) (aR af (bo.m Aq) B.abs LR (aa (aH af (bH.m a7) (ab (i:=0)) (ab (i:=2))) ae)) (ab (i:=3))))) (λ_ _ _ _ _ _=>(ab (i:=0))) (λ_ _ _ _ _ _=>(aI DP.mono Xf (hr.mono (by decide)) ID.m ID.F.kp ID.b (aa (ab (i:=1)) (aa (ab (i:=2)) (aa (ab (i:=0)) ae)))))) bt.nd)
    (ah (B9 (i:=8) bt.nd)
    (tR 7 (ah (dG Y4 rfl (ba (BO rfl (xt rfl (ab (i:=0)) B.set) (QZ ["pair","either"] [none,none] (by rfl) (by decide:(["pair","either"]:List Str).Nodup) rfl (ba (ab (i:=1))) (λ_ _ _ _ _ _=>(ak (i:=0) (by decide:(["pair","either"]:List Str).Nodup))) (λ_ _ _ _ _ _=>cN) (λ_ _ _ _ _ _=>(zh (i:=0))) (λ_ _ _ _ _ _=>(ak (i:=1) (by decide:(["pair","either"]:List Str).Nodup))) (λ_ _ _ _ _ _=>cN) (λ_ _ _ _ _ _=>(ab (i:=1)))) B.sorted)) (ak (i:=9) bt.nd) (aw (B8 (i:=8) hr.b9 (λ_=>(aR af (bo.m (f6 rfl)) B.max h_ (aa (aH aV aF (bq (aa (ab (i:=6)) ae)) (CT ["other","tied","fits","kind","kinds"] [none,some 7,some 5,some 9,some 0] (by rfl) (by decide:(["other","tied","fits","kind","kinds"]:List Str).Nodup) rfl (tJ (ab (i:=7))) (λ_ _ _ _ _ _=>(ak (i:=0) (by decide:(["other","tied","fits","kind","kinds"]:List Str).Nodup))) (λ_ _ _ _ _ _=>(c8 (aP af (bH.m (rj hr.b9)) (aY (aa (ab (i:=3)) (aa (aM af bD (ab (i:=4)) (ab (i:=0))) ae))) (ab (i:=2))))) (λ_ _ _ _ _ _=>(xu hr.b9 (ab (i:=1)) (ab (i:=0)))))) ae))) (λ_=>(ab (i:=9))))))
    (ah (a8 (i:=10) (vO (i:=8) rfl B.max) bt.nd)
    (tR 8 (aw (a9 (aY (aa (ab (i:=10)) (aa (CT ["kind","best","numbers"] [none,some 10,some 8] (by rfl) (by decide:(["kind","best","numbers"]:List Str).Nodup) rfl (tJ (ab (i:=8))) (λ_ _ _ _ _ _=>(ak (i:=0) (by decide:(["kind","best","numbers"]:List Str).Nodup))) (λ_ _ _ _ _ _=>(c8 (aP af (bH.m (dc hr.units)) (xu hr.b9 (ab (i:=2)) (ab (i:=0))) (ab (i:=1))))) (λ_ _ _ _ _ _=>(ab (i:=0)))) ae))))))))))))))),λds R h=>?_⟩
 obtain⟨ks,rs,g,p,l,rfl,ok,q⟩:=h;have hk:=ok.k;have hp:=ok.p;have tok:=HH (ks:=ks) (ps:=rs) (g:=g) (by lia)
 refine⟨_,rfl,trivial,_,rfl,trivial,_,rfl,trivial,ks,rs,g,rfl,by lia,ok.r,ok.pr,ok.g,?_⟩
 refine⟨_,rfl,_,rfl,l7 (decide_eq_true (by lia)) ⟨_,rfl,trivial,_,rfl,_,rfl,_,rfl,fN (by show (!decide _)=false;rw[decide_eq_true (by rw[XN];lia)];rfl) ?_⟩⟩
 refine⟨_,rfl,trivial,rs,rfl,ok.r,ok.pr,?_⟩;refine⟨_,rfl,trivial,_,rfl,trivial,ks.length,tK ks rs g,p,rfl,tok,?_⟩;refine⟨_,rfl,trivial,_,rfl,trivial,(ks.length:Int),by rw[XN],by lia,by lia,trivial,?_⟩
 rw[Zq];refine Ks (l:=X7 ks.length) (λi o=>o=oJ (rX ks rs g p i)) rfl rfl (λi x hx x0 o J hs j=>?_) λx0 o hs=>?_
 ·obtain⟨hi,rfl⟩:i<ks.length/\x=i:=by
   obtain⟨h1,h2⟩:=X0.mp hx;rw[Yx]at h1;rw[List.getElem_range]at h2;exact⟨h1,h2.symm⟩
  subst hs;rw[Int.zero_add];have hl:=xi (ks:=ks) (rs:=rs) (g:=g) (p:=p) (m:=x);have Wo:(oJ (rX ks rs g p x)).length<X3:=by
   unfold oJ;rw[XN,Y1];lia
  have nx:=Bb (ks:=ks) (rs:=rs) (g:=g) (p:=p) hi;have fe:g<(if (x:Int)-(p:Int)<0 then -((x:Int)-(p:Int)) else (x:Int)-(p:Int))↔Ly g p x=true:=by
   unfold Ly;rw[decide_eq_true_eq]
   split <;> lia
  refine⟨_,rfl,trivial,_,rfl,_,rfl,trivial,_,rfl,trivial,_,rfl,_,rfl,_,rfl,rF (λh=>?_) λh=>?_⟩
  ·refine⟨_,rfl,_,rfl,trivial,_,rfl,trivial,_,rfl,trivial,ks.length,tK ks rs g,p,x,rfl,tok,(x:Int),rfl,rfl,qA (Jd hi),Wo,j _ _ ?_⟩;rw[nx,fe.mp h,if_pos rfl];unfold oJ;rw[X1];rfl
  ·exact j _ _ (by rw[nx,if_neg (mt fe.mpr h)])
 ·subst hs;rw[Yx];refine⟨trivial,trivial,(by show 8<11;decide),rX ks rs g p ks.length,.inr rfl,λob=>?_⟩
  refine⟨_,rfl,ks,rfl,ok.fw λx h=>.inl h,trivial,_,rfl,_,rfl,trivial,?_⟩;refine⟨λi β o=>(∃x0 x1:Option Q.B,β=[x0,x1])/\∀x,x∈o↔∃t∈rs.take i,x∈t,⟨⟨_,_,rfl⟩,λx=>by simp⟩,?_,?_⟩
  ·rintro i d β o hd ⟨⟨x0,x1,rfl⟩,hs⟩;rw[X5]at hd;obtain⟨t,ht,rfl⟩:=X9.mp hd;have UM:=YJ ht;have R0:∀x,(∃t∈rs.take i,x∈t)->x∈ks\/∃t∈rs,x∈t:=λx h=>by
    obtain⟨t,h1,h2⟩:=h;exact .inr ⟨t,List.mem_of_mem_take h1,h2⟩
   refine⟨_,_,rfl,?_⟩;refine⟨λm β o=>(∃x1:Option Q.B,β=[some (.val false (kD t)),x1])/\∀x,x∈o↔(∃t∈rs.take i,x∈t)\/x∈t.take m,⟨⟨_,rfl⟩,λx=>by rw[hs];simp⟩,?_,?_⟩
   ·rintro m d β o hd ⟨⟨x1,rfl⟩,K5⟩;rw[X5]at hd;obtain⟨x,hx,rfl⟩:=X9.mp hd;refine⟨_,rfl,x,rfl,ok.fw λy hy=>?_,⟨_,rfl⟩,λy=>?_⟩
    ·rcases XZ.mp hy with z|z
     ·rcases (K5 y).mp z with z|z
      ·exact R0 y z
      ·exact .inr ⟨t,UM,List.mem_of_mem_take z⟩
     ·rw[XW.mp z];exact .inr ⟨t,UM,YJ hx⟩
    ·rw[XZ,K5,Bc hx,XW,or_assoc]
   ·rintro β o ⟨⟨x1,rfl⟩,K5⟩;rw[XN,Zv]at K5;refine⟨⟨_,_,rfl⟩,λx=>?_⟩;rw[K5,take_snoc ht];simp only[XZ,XW];constructor
    ·rintro (⟨u,hu,hx⟩|hx)
     ·exact⟨u,.inl hu,hx⟩
     ·exact⟨t,.inr rfl,hx⟩
    ·rintro⟨u,hu|rfl,hx⟩
     ·exact .inl ⟨u,hu,hx⟩
     ·exact .inr hx
  ·rintro β o ⟨⟨x0,x1,rfl⟩,hs⟩;rw[XN,Zv]at hs;have wy:∀x,x∈ks++o↔x∈ks\/∃t∈rs,x∈t:=λx=>by rw[XZ,hs]
   refine⟨trivial,ks,o,rfl,rfl,rfl,ok.fw λx h=>(wy x).mp h,λl' h1 h2 h3=>?_⟩;obtain rfl:=ok.all.uniq h1 λx=>(h2 x).trans (wy x);refine⟨_,rfl,trivial,?_⟩;refine DF (λi β=>i<=l'.length/\∃y9:Option Q.B,β=[some (.val false (.lst (ks.map D.int))),some (.val false (.lst (rs.map kD))),some (.val false (.int g)),some (.val false (.int (p:Int))),some (.val true (qQ ks.length (tK ks rs g))),some (.val true (dP (eW rs) true)),some (.val true (.int (Qr ks rs g p))),some (.val true (Pc ob (rX ks rs g p ks.length))),some (.shl .one (dI (oJ (vZ ks rs g p (l'.take i))))),y9,none]) ⟨Yh _,_,rfl⟩ (λE1 r1 i n1 d β hd hv=>?_) λβ hv=>?_
   ·obtain⟨_,y9,rfl⟩:=hv;rw[X5]at hd;obtain⟨x,hx,rfl⟩:=X9.mp hd;have hi:i<l'.length:=(X0.mp hx).1;have hl:=xi (ks:=ks) (rs:=rs) (g:=g) (p:=p) (m:=ks.length);have em:gz ek [.lst ([D.int (Qr ks rs g p)]++((rX ks rs g p ks.length).filter λu=>decide ([x,ks.getD u.1.toNat 0]∈eW rs)).map λu=>D.int u.2)]=some (.int (rY ks rs g p x)):=by
     have:=iu (Hn (rs:=rs) (x:=x) ok.g hp);rw[X1,Y_]at this;exact this
    refine⟨_,rfl,trivial,EH,trivial,_,rfl,ob,rX ks rs g p ks.length,rfl,trivial,eX (λu=>decide ([x,ks.getD u.1.toNat 0]∈eW rs)) (λu=>D.int u.2) trivial (cZ (by lia)) (λu hu x0 ou J Lk j1 j2=>?_) ?_⟩
    ·obtain⟨o,ho,rfl⟩:=Gi hu;have hm:=hu;unfold rX at hm;obtain⟨o',rZ,e⟩:=Yl.mp hm;cases (show o'=o by have:=congrArg Prod.fst e;dsimp only at this;lia)
     refine⟨_,rfl,trivial,_,rfl,trivial,_,rfl,_,C_ rfl ho,trivial,f7,trivial,_,rfl,_,wO (t:=[x,ks.getD o 0]),_,rfl,?_⟩;refine RQ (λh2=>⟨_,rfl,trivial,_,rfl,ob,_,_,_,rfl,rfl,sC rZ,trivial,Lk,j1 h2 _⟩) (λh2=>j2 h2 _)
    ·have Ww:=YD (λu:Int×Int=>decide ([x,ks.getD u.1.toNat 0]∈eW rs)) (rX ks rs g p ks.length);have ON:∀u∈vZ ks rs g p (l'.take i),u.1≠x:=λu hu=>by
      obtain⟨z,hz,rfl⟩:=Yl.mp hu;obtain⟨m,hm,rfl⟩:=List.mem_take_iff_getElem.mp hz;have:=(List.pairwise_iff_getElem.mp h1) m i (by lia) hi (by lia)
      rw[(X0.mp hx).2]at this;show l'[m]≠x;lia
     refine⟨_,h8 (by rw[XN];show 1+_<=_;lia),.inr ⟨trivial,_,em,⟨trivial,λz=>nomatch z⟩,⟨_,rfl⟩,_,rfl,oJ (vZ ks rs g p (l'.take i)),x,rfl,rfl,?_,?_⟩⟩
     ·unfold oJ vZ;rw[XN,XN,Yy,Y1];lia
     ·have ep:tw (oJ (vZ ks rs g p (l'.take i))) x (D.int (rY ks rs g p x))=oJ (vZ ks rs g p (l'.take (i+1))):=by
       rw[Fv ON,take_snoc hx];unfold vZ;rw[X1];rfl
      exact n1 _ ⟨hi,_,by rw[ep];rfl⟩
   ·obtain⟨_,y9,rfl⟩:=hv;rw[XN,Zv];have Xz:(vZ ks rs g p l').length=l'.length:=by unfold vZ;rw[XN]
    refine⟨_,_,rfl,Gd ok.ne,vZ ks rs g p l',.inl rfl,λUv=>?_⟩;refine⟨_,rfl,trivial,_,rfl,Uv,vZ ks rs g p l',rfl,trivial,eX (λu=>decide (u.2=ia ks rs g p l')) (λu=>D.int u.1) trivial (cZ (by lia)) (λu hu x0 ou J Lk j1 j2=>?_) ?_⟩
    ·obtain⟨x,hx,rfl⟩:=Yl.mp hu;exact⟨_,rfl,trivial,_,rfl,Uv,_,_,_,rfl,rfl,sD hx,trivial,_,rfl,_,fD _ _,_,rfl,rF (λh=>⟨_,rfl,trivial,Lk,j1 (decide_eq_true h) _⟩) λh=>j2 (decide_eq_false h) _⟩
    ·refine⟨trivial,f7,trivial,?_⟩;have:((vZ ks rs g p l').filter λu=>decide (u.2=ia ks rs g p l')).map (λu=>D.int u.1)=(l'.filter λx=>decide (rY ks rs g p x=ia ks rs g p l')).map D.int:=by
      unfold vZ;rw[List.filter_map,Y_];rfl
     rw[this];exact q
end
end oz
namespace L2.Q
open PySem PySem.Spec PySem.SeqAt PyProof.Rows
variable {X:Cx}{C:Cfg}{e:Expr}{φ:aB}{p:Bool}{pos p1:Pos}
def JA (w:X6)(φ:aB):aB:=λβ R=>φ β λd _ β1=>∃ns:List Int,d=iY w ns/\∀ms:List Int,ms.Pairwise (· < ·)->(∀x,x∈ms↔x∈ns)->ms.length<=60->R (.lst (ms.map D.int)) .own β1
theorem BN (hc:X.calm=true) (he:PQ X C p e φ) (hm:X.mg "sorted" = none) (hg:Gl X "sorted" := by rfl) (hs:X2 [e] X.env=(false,eval e X.env)::X2 [] X.env:=by rfl) (hpl:(ZA pos (X2 [] X.env)).any (·.1)=false:=by rfl) :
  PQ X C p (.Call (.Name "sorted" p1) [e] [] pos) (JA X.w φ) :=
 ⟨λβ R R' k h=>he.mono β _ _ (λd kd β1 jU=>by obtain⟨ns,h1,q⟩:=jU;exact⟨ns,h1,λms a b c=>k _ _ _ (q ms a b c)⟩) h,
  (eS (iV hc) hg hm ql (aW he.pe b_ hs) (by decide) (by decide) (he:=hs) (hpl:=hpl)).pre λσ H Q ⟨β,own,s,h⟩=>tQ.of he s h λd k β1 v H1 au uo o1 r1=>by
  obtain⟨ns,e1,q⟩:=uo;subst e1;obtain⟨b,rfl,⟨Ir,_⟩,_⟩:=r1.rep;refine⟨b,ns,rfl,Ir,λms a1 a2 a3 l wu=>q ms a1 a2 a3 _ _ au (o1.same (ar.new wu)) ⟨[l],⟨l,_,[],rfl,ai,rfl,jJ ms⟩,by simp,λc hc=>?_⟩⟩
  rw[XW.mp hc];exact⟨Yi λz=>o1.sn.d l z wu,λz=>o1.sq.r9 l z wu,Yi λz=>o1.sq.fj l z wu⟩⟩
end L2.Q
namespace oz
open PySem L2 L2.Q
section
variable {P:XX}{w:X6}{K:PySem.W.Frag}{mg:Str->Option XO}{base:Heap}
theorem lh:aG ["found","due"] ["found","due"] (ay gg):=mkS
theorem F0 {Qn G0} (dM:U_ K mg Qn G0) (B:Bs2 mg):∀n:Nat,aJ P w K mg base bN (n+1) Qn G0 ["found","due"] (cM P w true (jj n)):=by
 intro n
 induction n with
 |zero =>
  refine lq dM.F lh (λds R Oc=> by obtain⟨d,e,_⟩ := Oc;subst e;rfl) λcF A outer s H E hr=>⟨_,(ah (c5 (d9 (eQ (qS B.Dd (da (i:=1)) B.list fE B.tuple n9))) ip bA)
    (ah (c5 (vo.t (qU (aP af (bH.m rh) (ab (i:=1)) mQ) (lU (d9 (eQ (fu B.Dd (da (i:=1)) B.str Es)))))) (aw (a9 (gj af (bH.m (dc hr.units)) (ab (i:=0)) (ab (i:=1))))) bA)
    (aw (a9 (qX (eQ (fu B.Dd (da (i:=0)) B.int rT)) (qX (BQ (eQ (fu B.Dd (da (i:=0)) B.bool yA))) (qV (gj af (bH.m (dc hr.units)) (ab (i:=0)) (ab (i:=1)))))))))),λds R h=>?_⟩
  obtain⟨d,rfl,hl,q⟩:=h;cases hl with
  |leaf hl =>
   cases hl with
   |int i =>
    refine⟨_,rfl,_,_,rfl,x_,rfl,_,rfl,fN rfl ⟨_,rfl,trivial,_,rfl,_,rfl,fN rfl ⟨_,rfl,_,_,rfl,kit_is,rfl,_,rfl,fN rfl ?_⟩⟩⟩;exact⟨_,rfl,_,_,rfl,C3,rfl,_,rfl,l7 rfl ⟨_,rfl,_,_,rfl,C4,rfl,_,rfl,_,rfl,l7 rfl ⟨_,rfl,trivial,_,rfl,_,dz (ck i),trivial,q⟩⟩⟩
   |str x hx =>
    refine⟨_,rfl,_,_,rfl,xX,rfl,_,rfl,fN rfl ⟨_,rfl,trivial,_,rfl,_,rfl,fN rfl ⟨_,rfl,_,_,rfl,CZ,rfl,_,rfl,l7 rfl ?_⟩⟩⟩;exact⟨_,rfl,trivial,_,rfl,_,dz (pA x hx),trivial,q⟩
   |cj =>
    refine⟨_,rfl,_,_,rfl,xY,rfl,_,rfl,fN rfl ⟨_,rfl,trivial,_,rfl,_,rfl,l7 rfl (l7 rfl ?_)⟩⟩;exact⟨_,rfl,trivial,_,rfl,_,dz pB,trivial,q⟩
 |succ n ih =>
  have GM:aJ P w K mg base bN (n+1) _ _ _ (cM P w true (jj n)):=ih;refine lq dM.F lh (λds R Ob=> by obtain⟨d,e,_⟩ := Ob;subst e;rfl) λcF A outer s H E hr=>⟨_,(ah (c5 (d9 (eQ (qS B.Dd (da (i:=1)) B.list fE B.tuple n9))) (ah (c5 (vo.t (qU (aP af (bH.m (mV hr.units)) (eQ (fu B.Dd (da (i:=0)) B.list fE)) (eQ (fu B.Dd (da (i:=1)) B.list fE))) (lU (gh (d9 (eQ (qS B.Dd (da (i:=0)) B.list fE B.tuple n9))))))) (aw (a9 xv)) bA)
    (ah (c5 (aP af (bH.m (mV hr.units)) (aR af (bo.m bj) B.len cY (aa (ab (i:=0)) ae)) (aR af (bo.m bj) B.len cY (aa (ab (i:=1)) ae))) (aw (a9 xv)) bA)
    (aw (a9 (gj af (bH.m (dc hr.units)) (CT ["one","other"] [none,none] (by rfl) (by decide:(["one","other"]:List Str).Nodup) rfl (FF (Fq B.zip (tu (da (i:=0)) (tu (da (i:=1)) Fs)))) (λ_ _ _ _ _ _=>(bZ (n:=2) rfl (aD (ak (i:=0) (by decide:(["one","other"]:List Str).Nodup)) (aD (ak (i:=1) (by decide:(["one","other"]:List Str).Nodup)) bC)))) (λ_ _ _ _ _ _=>(c8 (gh (d9 (aI jj.mono GM (hr.mono (by lia)) dM.m dM.F.kp dM.b (aa (ab (i:=0)) (aa (ab (i:=1)) ae))))))) (λ_ _ _ _ _ _=>aj)) (bq ae)))))) bA)
    (ah (c5 (vo.t (qU (aP af (bH.m rh) (ab (i:=1)) mQ) (lU (d9 (eQ (fu B.Dd (da (i:=1)) B.str Es)))))) (aw (a9 (gj af (bH.m (dc hr.units)) (ab (i:=0)) (ab (i:=1))))) bA)
    (aw (a9 (qX (eQ (fu B.Dd (da (i:=0)) B.int rT)) (qX (BQ (eQ (fu B.Dd (da (i:=0)) B.bool yA))) (qV (gj af (bH.m (dc hr.units)) (ab (i:=0)) (ab (i:=1)))))))))),λds R h=>?_⟩
  obtain⟨d,rfl,hl,q⟩:=h;cases hl with
  |leaf hl =>
   cases hl with
   |int i =>
    refine⟨_,rfl,_,_,rfl,x_,rfl,_,rfl,fN rfl ⟨_,rfl,trivial,_,rfl,_,rfl,fN rfl ⟨_,rfl,_,_,rfl,kit_is,rfl,_,rfl,fN rfl ?_⟩⟩⟩;exact⟨_,rfl,_,_,rfl,C3,rfl,_,rfl,l7 rfl ⟨_,rfl,_,_,rfl,C4,rfl,_,rfl,_,rfl,l7 rfl ⟨_,rfl,trivial,_,rfl,_,dz (ck i),trivial,q⟩⟩⟩
   |str x hx =>
    refine⟨_,rfl,_,_,rfl,xX,rfl,_,rfl,fN rfl ⟨_,rfl,trivial,_,rfl,_,rfl,fN rfl ⟨_,rfl,_,_,rfl,CZ,rfl,_,rfl,l7 rfl ?_⟩⟩⟩;exact⟨_,rfl,trivial,_,rfl,_,dz (pA x hx),trivial,q⟩
   |cj =>
    refine⟨_,rfl,_,_,rfl,xY,rfl,_,rfl,fN rfl ⟨_,rfl,trivial,_,rfl,_,rfl,l7 rfl (l7 rfl ?_)⟩⟩;exact⟨_,rfl,trivial,_,rfl,_,dz pB,trivial,q⟩
  | @tup _ es l hl =>
   refine⟨_,rfl,_,_,rfl,xW,rfl,_,rfl,l7 rfl ?_⟩;refine⟨_,rfl,_,_,rfl,CY,rfl,trivial,_,rfl,_,_,rfl,CY,rfl,_,hZ (sW false),_,rfl,fN rfl ⟨_,rfl,_,_,rfl,xW,rfl,_,rfl,fN rfl ?_⟩⟩;refine⟨_,rfl,trivial,_,rfl,trivial,_,rfl,trivial,_,rfl,_,hZ (ck _),_,rfl,fN rfl ?_⟩;refine⟨_,rfl,_,rfl,es,es,.inr rfl,trivial,?_⟩;refine⟨λi β o=>o=[]/\∃x0 x1,β=[x0,x1],⟨rfl,_,_,rfl⟩,?_,?_⟩
   ·rintro i d β o hd ⟨rfl,x0,x1,rfl⟩;obtain⟨a,ha,rfl⟩:=o_ (YJ hd);have vm:=hl a ha;have hb:=vm
    clear ha hd
    cases hb with
    |leaf h=>cases h <;> exact⟨_,rfl,rfl,_,_,rfl,_,_,rfl,rfl,_,rfl,trivial,_,rfl,trivial,_,rfl,vm,_,rfl,fN rfl ⟨rfl,_,_,rfl⟩⟩
    |tup=>exact⟨_,rfl,rfl,_,_,rfl,_,_,rfl,rfl,_,rfl,trivial,_,rfl,trivial,_,rfl,vm,_,rfl,fN rfl ⟨rfl,_,_,rfl⟩⟩
    |lst=>exact⟨_,rfl,rfl,_,_,rfl,_,_,rfl,rfl,_,rfl,trivial,_,rfl,trivial,_,rfl,vm,_,rfl,fN rfl ⟨rfl,_,_,rfl⟩⟩
   ·rintro β o ⟨rfl,x0,x1,rfl⟩;exact⟨trivial,trivial,Yh _,_,dz (c9 []),trivial,q⟩
  | @lst _ es l hl =>
   refine⟨_,rfl,_,_,rfl,xZ,rfl,_,rfl,l7 rfl ?_⟩;refine⟨_,rfl,_,_,rfl,C0,rfl,trivial,_,rfl,_,_,rfl,C0,rfl,_,hZ (sW true),_,rfl,fN rfl ⟨_,rfl,_,_,rfl,xZ,rfl,_,rfl,fN rfl ?_⟩⟩;refine⟨_,rfl,trivial,_,rfl,trivial,_,rfl,trivial,_,rfl,_,hZ (ck _),_,rfl,fN rfl ?_⟩;refine⟨_,rfl,_,rfl,es,es,.inl rfl,trivial,?_⟩;refine⟨λi β o=>o=[]/\∃x0 x1,β=[x0,x1],⟨rfl,_,_,rfl⟩,?_,?_⟩
   ·rintro i d β o hd ⟨rfl,x0,x1,rfl⟩;obtain⟨a,ha,rfl⟩:=o_ (YJ hd);have vm:=hl a ha;have hb:=vm
    clear ha hd
    cases hb with
    |leaf h=>cases h <;> exact⟨_,rfl,rfl,_,_,rfl,_,_,rfl,rfl,_,rfl,trivial,_,rfl,trivial,_,rfl,vm,_,rfl,fN rfl ⟨rfl,_,_,rfl⟩⟩
    |tup=>exact⟨_,rfl,rfl,_,_,rfl,_,_,rfl,rfl,_,rfl,trivial,_,rfl,trivial,_,rfl,vm,_,rfl,fN rfl ⟨rfl,_,_,rfl⟩⟩
    |lst=>exact⟨_,rfl,rfl,_,_,rfl,_,_,rfl,rfl,_,rfl,trivial,_,rfl,trivial,_,rfl,vm,_,rfl,fN rfl ⟨rfl,_,_,rfl⟩⟩
   ·rintro β o ⟨rfl,x0,x1,rfl⟩;exact⟨trivial,trivial,Yh _,_,dz (c9 []),trivial,q⟩
theorem eK:aG ["kinds","pairs","gap","place","every","told","kind","other"] ["kinds","pairs","gap","place"] (ay ik):=mkS
def uJ:FD:=jk
theorem uJ.mono:cA uJ:=jk.mono
theorem F2 {G5 yo} (Mn:U9 K mg G5 yo) {zU pZ} (Iz:D7 K mg zU pZ) {zV p0} (IA:T5 K mg zV p0) (B3:Bs3 mg) (B:HD mg):aJ P w K mg base bN 2 G5 yo ["kinds","pairs","gap","place"] (cM P w true uJ):=by
 have W6:aJ P w K mg base bN 1 _ _ _ (cM P w true nE):=Co Iz B;have W8:aJ P w K mg base bN 1 _ _ _ (cM P w true uH):=FZ IA B3;refine lq Mn.F eK (λds R Oa=> by obtain⟨ks,rs,g,p,l,e,_⟩ := Oa;subst e;rfl) λcF A outer s H E hr=>⟨_,(ah (a8 (i:=4) (BN rfl (xt rfl (aH aV aF (aH aV aF (ab (i:=0)) (CT ["one","other"] [none,none] (by rfl) (by decide:(["one","other"]:List Str).Nodup) rfl (ba (ab (i:=1))) (λ_ _ _ _ _ _=>(bZ (n:=2) rfl (aD (ak (i:=0) (by decide:(["one","other"]:List Str).Nodup)) (aD (ak (i:=1) (by decide:(["one","other"]:List Str).Nodup)) bC)))) (λ_ _ _ _ _ _=>cN) (λ_ _ _ _ _ _=>(ab (i:=0))))) (CT ["one","other"] [none,none] (by rfl) (by decide:(["one","other"]:List Str).Nodup) rfl (ba (ab (i:=1))) (λ_ _ _ _ _ _=>(bZ (n:=2) rfl (aD (ak (i:=0) (by decide:(["one","other"]:List Str).Nodup)) (aD (ak (i:=1) (by decide:(["one","other"]:List Str).Nodup)) bC)))) (λ_ _ _ _ _ _=>cN) (λ_ _ _ _ _ _=>(ab (i:=1))))) B.set) B.sorted) eK.nd)
    (ah (cE (i:=5) (λ_=>(bq ae)) eK.nd)
    (ah (dG Y4 rfl (ba (ab (i:=4))) (ak (i:=6) eK.nd) (ah (a8 (i:=7) (aH aV aF (aH aV aF (HN (ab (i:=0)) tH (tG (ab (i:=3)))) (bq (aa (ab (i:=6)) ae))) (HN (ab (i:=0)) (tG (aH aV aF (ab (i:=3)) aj)) tH)) eK.nd)
    (aw (eE (i:=5) (λ_=>(aI uH.mono W8 (hr.mono (by decide)) IA.m IA.F.kp IA.b (aa (aR af (bo.m bj) B.len cY (aa (ab (i:=0)) ae)) (aa (aI nE.mono W6 (hr.mono (by decide)) Iz.m Iz.F.kp Iz.b (aa (ab (i:=7)) (aa (ab (i:=1)) (aa (ab (i:=2)) ae)))) ae))))))))
    (JT 5 (aw (a9 (aY (aa (aR af (bo.m (f6 rfl)) B.max h_ (aa (ab (i:=5)) ae)) (aa (CT ["kind","number","told"] [none,none,some 5] (by rfl) (by decide:(["kind","number","told"]:List Str).Nodup) rfl (FE B.zip (aa (ab (i:=4)) (aa (ab (i:=5)) ae))) (λ_ _ _ _ _ _=>(bZ (n:=2) rfl (aD (ak (i:=0) (by decide:(["kind","number","told"]:List Str).Nodup)) (aD (ak (i:=1) (by decide:(["kind","number","told"]:List Str).Nodup)) bC)))) (λ_ _ _ _ _ _=>(c8 (aP af (bH.m (dc hr.units)) (ab (i:=1)) (aR af (bo.m (f6 rfl)) B.max h_ (aa (ab (i:=2)) ae))))) (λ_ _ _ _ _ _=>(ab (i:=0)))) ae))))))))),λds R h=>?_⟩
 obtain⟨ks,rs,g,p,l,rfl,ok,q⟩:=h;have hk:=ok.k;have hp:=ok.p;have hr:=ok.r;have e2:∀(f:List Int->Int),(rs.filter λ_=>true).map (λt=>D.int (f t))=(rs.map f).map D.int:=λf=>by rw[List.filter_eq_self.mpr λ_ _=>rfl,Y_];rfl
 refine⟨_,rfl,trivial,_,rfl,_,rfl,trivial,rC (λ_=>true) (λt=>.int (t.getD 0 0)) trivial (cZ (by lia)) (λt ht x0 x1 o J ho j1 j2=>?_) ?_⟩
 ·obtain⟨a,b,rfl⟩:=ok.pr t ht;exact⟨_,rfl,rfl,_,_,rfl,_,_,rfl,rfl,_,rfl,trivial,ho,j1 rfl _ _⟩
 rw[e2];refine⟨_,iB (by rw[XN];lia),.inr ⟨trivial,_,rfl,_,rfl,trivial,rC (λ_=>true) (λt=>.int (t.getD 1 0)) trivial (cZ (by lia)) (λt ht x0 x1 o J ho j1 j2=>?_) ?_⟩⟩
 ·obtain⟨a,b,rfl⟩:=ok.pr t ht;exact⟨_,rfl,rfl,_,_,rfl,_,_,rfl,rfl,_,rfl,trivial,ho,j1 rfl _ _⟩
 rw[e2];have wy:∀x,x∈ks++rs.map (λt=>t.getD 0 0)++rs.map (λt=>t.getD 1 0)↔x∈ks\/∃t∈rs,x∈t:=λx=>by
  rw[XZ,XZ,Yl,Yl,or_assoc];refine or_congr Iff.rfl ⟨λh=>?_,λh=>?_⟩
  ·rcases h with⟨t,ht,rfl⟩|⟨t,ht,rfl⟩
   ·obtain⟨a,b,rfl⟩:=ok.pr t ht;exact⟨_,ht,by simp⟩
   ·obtain⟨a,b,rfl⟩:=ok.pr t ht;exact⟨_,ht,by simp⟩
  ·obtain⟨t,ht,hx⟩:=h;obtain⟨a,b,rfl⟩:=ok.pr t ht;rcases XU.mp hx with rfl|hx
   ·exact .inl ⟨_,ht,rfl⟩
   ·rw[XW.mp hx];exact .inr ⟨_,ht,rfl⟩
 refine⟨_,iB (by rw[Yg,XN,XN];lia),.inr ⟨_,rfl,ok.fw λx h=>(wy x).mp h,_,rfl,λl' h1 h2 h3=>?_⟩⟩
 obtain rfl:=ok.all.uniq h1 λx=>(h2 x).trans (wy x);refine⟨Yh _,trivial,?_⟩;refine⟨_,rfl,_,rfl,trivial,?_⟩;refine DF (λi β=>i<=l'.length/\∃y6 y7:Option Q.B,β=[some (.val false (.lst (ks.map D.int))),some (.val false (.lst (rs.map kD))),some (.val false (.int g)),some (.val false (.int (p:Int))),some (.val true (.lst (l'.map D.int))),some (.own (.lst (((l'.take i).map (rY ks rs g p)).map D.int))),y6,y7]) ⟨Yh _,_,_,rfl⟩ (λE1 r1 i n1 d β hd hv=>?_) λβ hv=>?_
 ·obtain⟨_,y6,y7,rfl⟩:=hv;rw[X5]at hd;obtain⟨x,hx,rfl⟩:=X9.mp hd;have hi:i<l'.length:=(X0.mp hx).1;have es:ks.take p++[x]++ks.drop (p+1)=ks.set p x:=by
   rw[List.set_eq_take_append_cons_drop,if_pos hp];simp
  have Wq:(ks.set p x).length=ks.length:=List.length_set;have l1:(ks.take p).length<=30:=by rw[Yy];lia
  have l2:(ks.drop (p+1)).length<=30:=by rw[aaw];lia
  refine⟨_,rfl,_,rfl,_,rfl,_,QV rfl (by lia),.inr ⟨trivial,_,rfl,trivial,EH,_,iB (a:=ks.take p) (b:=[x]) (by show _+1<=_;lia),.inr ⟨trivial,_,rfl,_,rfl,trivial,_,rfl,_,rfl,_,QU (p:=p+1) (by lia) (by lia),.inr ⟨_,iB (a:=ks.take p++[x]) (b:=ks.drop (p+1)) (by rw[Yg];show _+1+_<=_;lia),.inr ?_⟩⟩⟩⟩
  rw[es];have tok:=HH (ks:=ks.set p x) (ps:=rs) (g:=g) (by lia)
  refine⟨⟨_,rfl⟩,_,rfl,trivial,_,rfl,trivial,_,rfl,trivial,_,rfl,trivial,_,rfl,trivial,ks.set p x,rs,g,rfl,by lia,ok.r,ok.pr,ok.g,trivial,ks.length,tK (ks.set p x) rs g,by rw[XN],by rw[<- Wq];exact tok,by lia,?_⟩
  exact⟨trivial,_,rfl,by rw[XN,XN,Yy,Y1];lia,n1 _ ⟨hi,_,_,by rw[take_snoc hx,X1,X1];rfl⟩⟩
 ·obtain⟨_,y6,y7,rfl⟩:=hv;rw[XN,Zv];refine⟨_,_,rfl,.ov,?_⟩;refine⟨_,rfl,trivial,_,iu (n_ ok.ne),trivial,?_⟩;have ez:gL (l'.map D.int) ((l'.map (rY ks rs g p)).map D.int)=l'.map λx=>D.tup [.int x,.int (rY ks rs g p x)]:=by
   have key:∀l:List Int,gL (l.map D.int) ((l.map (rY ks rs g p)).map D.int)=l.map λx=>D.tup [.int x,.int (rY ks rs g p x)]:=λl=>by
    induction l with
    |nil=>rfl
    |cons x l ih =>
     rw[X4,X4,X4,X4,<- ih];rfl
   exact key l'
  refine⟨_,rfl,trivial,_,rfl,trivial,_,_,rfl,trivial,?_⟩;rw[ez];refine rC (λx=>decide (rY ks rs g p x=ia ks rs g p l')) D.int trivial (cZ (by lia)) (λx hx x0 x1 o J ho j1 j2=>?_) ⟨trivial,f7,trivial,q⟩
  refine⟨_,rfl,rfl,_,_,rfl,_,_,rfl,rfl,_,rfl,trivial,_,rfl,trivial,_,iu (n_ ok.ne),_,fD _ _,_,rfl,?_⟩;exact rF (λh=>⟨_,rfl,trivial,ho,j1 (decide_eq_true h) _ _⟩) λh=>j2 (decide_eq_false h) _ _
end
section
variable {P:XX}{w:X6}{K:PySem.W.Frag}{mg:Str->Option XO}{base:Heap}
theorem c_:aG ["script","cell","pot","kinds","few","pairs","gap","handed","k","place","due","again","told"] ["script"] (ay mH):=mkS
def Bh (K:PySem.W.Frag):Sp:=λvs H Q _=>∃(a:Addr) (ns:List Int),vs=[.ref a]/\dv K H a (ns.map V.int)/\ns.length<=63/\∀H',Q (.bl true) H'
def JL (β:Q.aL):Prop:=∃y0 y1 y2 y3 y4 y5 y6 y7 y8 y9 IV AX AW:Option Q.B,β=[y0,y1,y2,y3,y4,y5,y6,y7,y8,y9,IV,AX,AW]
theorem J7 {f:Addr} {fd:YB} (F:EZ K "law" "law" mH f fd) (B5:T7 mg) (B:HD mg) {zW p_} (IB:D6 K mg zW p_) {uG lA} (EW:D4 K mg uG lA) {uF lz} (yx:D5 K mg uF lz) {oV iU} (vn:Pz K mg oV iU) {lM gJ} (wN:Ms K mg lM gJ) {j5 fA} (uR:L6 K mg j5 fA) {iL dR} (oY:IS K mg iL dR) {fY cJ} (k8:D9 K mg fY cJ) {gN c6} (oW:D8 K mg gN c6) {gO c7} (oX:HC K mg gO c7) {eC b6} (jl:AM K mg eC b6) {iJ dQ} (nV:IQ K mg iJ dQ) {j6 fB} (uT:L5 K mg j6 fB) {iM dU} (rR:IM K mg iM dU) {iI dO} (rQ:IP K mg iI dO) {uE ly} (EV:Qy K mg uE ly) {EU oU} (dS:Px K mg EU oU) {ET oT} (dX:Py K mg ET oT) {zX qa} (IC:T4 K mg zX qa) {zY qb} (ID:T3 K mg zY qb) {G6 yp} (Mo:Va K mg G6 yp) {WN Tc} (dP:Xq K mg WN Tc) {Lx wC} (dT:D1 K mg Lx wC) {G2 ym} (Ml:D0 K mg G2 ym) {G1 yj} (Mj:D2 K mg G1 yj) {G3 yn} (Mm:D3 K mg G3 yn) {zU pZ} (Iz:D7 K mg zU pZ) {zV p0} (IA:T5 K mg zV p0) {G5 yo} (Mn:U9 K mg G5 yo) {Qn G0} (dM:U_ K mg Qn G0):aJ P w K mg base bN 9 f fd ["script"] (Bh K):=by
 have B3:=B5.toBs3;have GP:aJ P w K mg base bN 1 _ _ _ (cM P w true DM):=J4 dP.F B.toBs;have GT:aJ P w K mg base bN 1 _ _ _ (kz P w pL true bV):=l0 dT.F;have Xh:aJ P w K mg base bN 2 _ _ _ (kz P w pL false j9):=Cy Ml dT B;have Xb:aJ P w K mg base bN 2 _ _ _ (kz P w pL true j7):=Cs Mj dT B;have Xj:aJ P w K mg base bN 2 _ _ _ (kz P w pL true DQ):=J8 Mm dT B;have Xl:aJ P w K mg base bN 2 _ _ _ (cM P w true uJ):=F2 Mn Iz IA B3 B;have Xn:aJ P w K mg base bN 8 _ _ _ (cM P w true jk):=CA Mo IB EW yx IC ID EV dS dX vn wN uR oY k8 oW oX jl nV uT rR rQ B5 B;have GM:aJ P w K mg base bN 4 _ _ _ (cM P w true (jj 3)):=F0 dM B.toBs2 3;refine F.ok c_ (λvs H Q E h=>?_) (λcF A outer s H vs Qk E hr h=>?_)
 ·obtain⟨a,ns,rfl,_⟩:=h;rfl
 ·obtain⟨a,ns,rfl,hS,hlen,k⟩:=h;have SH:∀b:Addr,¬ (λ_=>False) b:=λb z=>z;obtain⟨ψ,hb,hψ⟩:∃ψ,Q.si (oZ bN P w K mg base _ "law" (ay mH) f cF A outer s H E).HY ⟨H,λ_=>False,true,λ_=>False⟩ (match (fC mH)with | .For _ _ b _ _::_=>b|_=>[]) ψ /\
    ∀(c:Int) (x0 x2 x3 x4 x5 x6 x7 x8 x9 HF Ud Uc:Option Q.B),ψ {nx:=JL,rt:=λd _=>d=.bl true,bk:=JL,ct:=JL} [x0,some (.val true (.int c)),x2,x3,x4,x5,x6,x7,x8,x9,HF,Ud,Uc]:=by
   refine⟨_,(ah (FN (i:=2) pL SH (λ_=>(aI DM.mono GP (hr.mono (by decide)) dP.m dP.F.kp dP.b (aa (ab (i:=1)) ae))) c_.nd)
    (ah (kK (a_ (ih:=2) j9.mono Xh (hr.mono (by decide)) Ml.m Ml.F.kp Ml.b ae) (bZ (n:=2) rfl (aD (ak (i:=3) c_.nd) (aD (ak (i:=4) c_.nd) bC))))
    (ah (a8 (i:=5) (a_ (ih:=2) j7.mono Xb (hr.mono (by decide)) Mj.m Mj.F.kp Mj.b (aa (ab (i:=4)) ae)) c_.nd)
    (ah (a8 (i:=6) (a_ (ih:=2) DQ.mono Xj (hr.mono (by decide)) Mm.m Mm.F.kp Mm.b ae) c_.nd)
    (ah (a8 (i:=7) (bq (aa (fT aV lE B.list fE (aa (ab (i:=3)) ae)) (aa (fT aV lE B.list fE (aa (ab (i:=5)) ae)) ae))) c_.nd)
    (aw (dG Y4 rfl (bp B.range (aa (aH af (bH.m FW) aj (fT af (bo.m qk) B.int rT (aa (gj af (bH.m (mV hr.units)) (ab (i:=3)) (bq ae)) ae))) ae)) (ak (i:=8) c_.nd) (ah (a8 (i:=9) (aM af bD (bq (aa aj (aa (aH af (bH.m a7) (aR af (bo.m bj) B.len cY (aa (ab (i:=3)) ae)) aj) (aa (a_ (ih:=2) bV.mono GT (hr.mono (by decide)) dT.m dT.F.kp dT.b (aa (aR af (bo.m bj) B.len cY (aa (ab (i:=3)) ae)) ae)) ae)))) (ab (i:=8))) c_.nd)
    (ah (a8 (i:=10) (aI uJ.mono Xl (hr.mono (by decide)) Mn.m Mn.F.kp Mn.b (aa (ab (i:=3)) (aa (ab (i:=5)) (aa (ab (i:=6)) (aa (ab (i:=9)) ae))))) c_.nd)
    (aw (dG Y4 rfl (bp B.range (aa aj ae)) (ak (i:=11) c_.nd) (ah (cE (i:=12) (λ_=>(aI jk.mono Xn (hr.mono (by decide)) Mo.m Mo.F.kp Mo.b (aa (aM af bD (ab (i:=7)) aj) (aa (aM af bD (ab (i:=7)) aj) (aa (ab (i:=6)) (aa (ab (i:=9)) ae)))))) c_.nd)
    (ah (c5 (vo.t (qU (gh (d9 (aI jj.mono GM (hr.mono (by decide)) dM.m dM.F.kp dM.b (aa (ab (i:=12)) (aa (ab (i:=10)) ae))))) (lU (aP af (bH.m (mV hr.units)) (ab (i:=7)) (bq (aa (ab (i:=3)) (aa (ab (i:=5)) ae))))))) (aw (a9 xv)) bA)
    (aw (gZ (i:=12) false (λ_=>aj) (λ_=>aj)))))))))))))))),λc x0 x2 x3 x4 x5 x6 x7 x8 x9 HF Ud Uc=>?_⟩
   refine⟨_,rfl,trivial,c,rfl,λns hk=>⟨trivial,(by show 2<13;decide),ns,rfl,hk,?_⟩⟩
   refine⟨rfl,rfl,trivial,rfl,λks fs XE hf Wv Ws=>?_⟩;refine⟨_,rfl,rfl,_,_,rfl,_,_,rfl,rfl,?_⟩;refine⟨rfl,_,rfl,trivial,rfl,trivial,fs,rfl,hf,Wv,λps pl pp pf=>?_⟩;refine⟨rfl,rfl,trivial,rfl,λg g0=>?_⟩;refine⟨_,rfl,trivial,_,rfl,.inl ⟨iA (f:=id),trivial,_,rfl,trivial,_,rfl,.inl ⟨uy _,trivial,f7,?_⟩⟩⟩;obtain⟨l,hl⟩:=Hr ks ps;have Qa:∀p,p<ks.length->Av ks ps g p l:=λp hp=>⟨by lia,pl,pp,g0,hp,hl,fs++[5,6,7],by rw[Yg];show _+3<=_;lia,λx hx=>Yq _ (Ws x hx),pf⟩
   refine⟨trivial,_,rfl,trivial,Yh _,_,Eb ks [],trivial,_,rfl,_,rfl,trivial,_,rfl,?_⟩;have hj:(3*(if (!decide (ks=[]))=true then 1 else 0):Int)=if ks=[] then 0 else 3:=by
    by_cases h:ks=[]
    ·rw[if_pos h,decide_eq_true h];rfl
    ·rw[if_neg h,decide_eq_false h];rfl
   refine⟨by lia,by lia,trivial,?_⟩
   refine DF (λ_ β=>∃y8 y9 IV AX AW:Option Q.B,β=[x0,some (.val true (.int c)),some (.hand pL),some (.val true (.lst (ks.map D.int))),some (.val true (.lst (fs.map D.int))),some (.val true (.lst (ps.map kD))),some (.val true (.int g)),some (.val true (.lst [.lst (ks.map D.int),.lst (ps.map kD)])),y8,y9,IV,AX,AW]) ⟨_,_,_,_,_,rfl⟩ (λE1 r1 i n1 d β hd hv=>?_) λβ hv=>?_
   ·obtain⟨y8,y9,IV,AX,AW,rfl⟩:=hv;obtain⟨hi,rfl⟩:=bU hd;have oN:ks≠[]:=λz=>by rw[hj,if_pos z]at hi;exact absurd hi (Nat.not_lt_zero _)
    have SJ:i<3:=by rw[hj,if_neg oN]at hi;exact hi
    have Sl:0<ks.length:=List.length_pos_iff.mpr oN;refine⟨trivial,_,rfl,trivial,_,rfl,trivial,_,rfl,trivial,rfl,_,rfl,trivial,_,rfl,trivial,rfl,trivial,_,rfl,by rw[XN];lia,by rw[XN];lia,λr r0 Jz=>?_⟩
    rw[XN]at Jz;obtain⟨p,hp,e⟩:∃p:Nat,p<ks.length/\Ae (.lst [.int 0,.int ((ks.map D.int).length-1),.int r]) (.int (0+(i:Int)))=some (.int (p:Int)):=by
     rw[XN,Int.zero_add]
     match i,SJ with
     |0,_=>exact⟨0,Sl,rfl⟩
     |1,_=>exact⟨ks.length-1,by lia,by rw[show ((ks.length:Int)-1)=((ks.length-1:Nat):Int) by lia];rfl⟩
     |2,_=>exact⟨r.toNat,by lia,by rw[show r=(r.toNat:Int) by lia];rfl⟩
    refine⟨trivial,Vu,trivial,_,rfl,_,e,?_⟩;refine⟨_,rfl,trivial,_,rfl,trivial,_,rfl,trivial,_,rfl,trivial,ks,ps,g,p,l,rfl,Qa p hp,?_⟩;refine⟨trivial,2,rfl,by decide,by decide,trivial,?_⟩
    have dp:Dp 3 (yC ks ps g p l):=.tup (by show 2<=1000;decide) λx hx=>by
     rcases XU.mp hx with rfl|hx
     ·exact .int
     ·rw[XW.mp hx];have hlen:=(Qa p hp).fw (ns:=l) (λx hx=>(hl.mem x).mp hx) l (hl.up.imp λz e=>by lia) λx hx=>hx
      refine .lst ?_ λy hy=>?_
      ·rw[XN];exact Yz (YD _ _) (by lia)
      ·obtain⟨z,_,rfl⟩:=Yl.mp hy;exact .int
    refine DF (λ_ β=>∃AX AW:Option Q.B,β=[x0,some (.val true (.int c)),some (.hand pL),some (.val true (.lst (ks.map D.int))),some (.val true (.lst (fs.map D.int))),some (.val true (.lst (ps.map kD))),some (.val true (.int g)),some (.val true (.lst [.lst (ks.map D.int),.lst (ps.map kD)])),some (.val true (.int (0+(i:Int)))),some (.val true (.int (p:Int))),some (.val true (yC ks ps g p l)),AX,AW]) ⟨_,_,rfl⟩ (λE2 r2 j n2 d β hd hv=>?_) λβ hv=>?_
    ·obtain⟨AX,AW,rfl⟩:=hv;obtain⟨_,rfl⟩:=bU hd;refine⟨_,rfl,trivial,_,rfl,.inr ⟨trivial,_,rfl,trivial,_,rfl,.inr ⟨trivial,_,rfl,trivial,_,rfl,trivial,ks,ps,g,p,l,rfl,Qa p hp,?_⟩⟩⟩;refine⟨trivial,_,rfl,trivial,_,rfl,trivial,yC ks ps g p l,rfl,dp,_,rfl,fN rfl ?_⟩;refine⟨_,rfl,trivial,_,rfl,trivial,_,rfl,trivial,f7,.inr ⟨_,hZ (Bj ks ps),_,rfl,fN rfl ?_⟩⟩;refine⟨⟨_,rfl⟩,[.int (ia ks ps g p l),.lst ((l.filter λx=>decide (rY ks ps g p x=ia ks ps g p l)).map D.int)],1,1,_,rfl,rfl,Gs (i:=1) rfl (by show 1<2;decide),rfl,trivial,rfl,?_,n2 _ ⟨_,_,rfl⟩⟩
     have hlen:=(Qa p hp).fw (ns:=l) (λx hx=>(hl.mem x).mp hx) l (hl.up.imp λz e=>by lia) λx hx=>hx
     rw[XN];exact Zd (YD _ _) (aaH hlen (by decide))
    ·obtain⟨AX,AW,rfl⟩:=hv;exact n1 _ ⟨_,_,_,_,_,rfl⟩
   ·obtain⟨y8,y9,IV,AX,AW,rfl⟩:=hv;exact⟨_,_,_,_,_,_,_,_,_,_,_,_,_,rfl⟩
  refine⟨_,cz (BH Y4 rfl (xB (cT Cn (vQ (aW bb b_)) (tN xk (pv 0) xx (xw bb)))) (Q.ak (C:=⟨H,λ_=>False,true,λ_=>False⟩) (i:=1) c_.nd).pg hb.ps) (jD (i8 B6)),?_⟩;obtain⟨ms,em,hm⟩:=Ai ns none (some 2);refine⟨(by show 1<=X3;decide),λp1 EN=>⟨_,rfl,_,rfl,a,_,rfl,(ar.new EN).seq hS,λp2 Qg=>?_⟩⟩
  have VX:p1≠p2:=cG ai Qg;refine⟨p1,p2,_,_,rfl,rfl,(by rw[ao VX];exact ai),ai,(by rw[em,XN,Y1,List.length_singleton];lia),λl hl=>⟨l,rfl,⟨_,dv.of ai⟩,?_⟩⟩
  rw[em];rw[em]at hl;have sm:ar H (upd (upd (upd H p1 (.lst [V.int 0])) p2 (.lst (ms.map V.int))) l (.lst ([V.int 0]++ms.map V.int))):=((ar.new EN).trans (ar.new (by rw[em]at *;exact Qg))).trans (ar.new hl)
  have lx:(upd (upd (upd H p1 (.lst [V.int 0])) p2 (.lst (ms.map V.int))) l (.lst ([V.int 0]++ms.map V.int))) l=some (.lst ((0::ms).map V.int)):=ai;generalize (upd (upd (upd H p1 (.lst [V.int 0])) p2 (.lst (ms.map V.int))) l (.lst ([V.int 0]++ms.map V.int)))=H1 at sm lx ⊢
  generalize (0::ms)=cs at lx;let X:Cx:=(oZ bN P w K mg base ["script","cell","pot","kinds","few","pairs","gap","handed","k","place","due","again","told"] "law" (ay mH) f cF A outer s H E).HY
  let C:Q.Cfg:=⟨H,λ_=>False,true,λ_=>False⟩
  have it:rW X (λ_=>False) (Qx K l) (cs.map D.int) H1:=ug lx (λz=>z) (bY cs);have Ie:=it (λb=>(λ_=>False) b\/H1 b=none) λb z=>z;have s':Q.bf P w C.z (L2.start ["script","cell","pot","kinds","few","pairs","gap","handed","k","place","due","again","told"] [.ref a]) H1 (YY 13 none) (λ_=>[]):=Ff (by rfl) sm
  generalize Ip:cs.map D.int=ds at Ie;have hint:∀d∈ds,∃c:Int,d=.int c:=λd hd=>by
   rw[<- Ip]at hd;obtain⟨c,_,rfl⟩:=Yl.mp hd;exact⟨c,rfl⟩
  refine⟨λi m σ H'=>i<=ds.length/\m=ds.length-i/\∃β,Q.SB X C (H1,Q.Wn λ_=>[]) σ H' β/\JL β,⟨_,Yh _,rfl,_,⟨_,s',Sn.refl⟩,⟨_,_,_,_,_,_,_,_,_,_,_,_,_,rfl⟩⟩,?_⟩;rintro i m σ2 H2 ⟨hi,rfl,β2,⟨aU,s2,n2⟩,⟨y0,y1,y2,y3,y4,y5,y6,y7,y8,y9,IV,AX,AW,rfl⟩⟩;obtain⟨br,fM⟩:=Ie i H2 (n2.k.mono λb z=>z.imp (λN_=> by obtain⟨_,q⟩ := N_;exact(nomatch q)) id)
  by_cases iH:i<ds.length
  ·right
   have hd:ds[i]?=some ds[i]:=XY iH;obtain⟨go,yl⟩:=br _ hd;obtain⟨c,hc⟩:=hint ds[i] (Y7 iH);refine⟨go,λσ' H'=>∃β,Q.SB X C (H1,Q.Wn λ_=>[]) σ' H' β/\JL β,λσ' H' N9=> by obtain⟨β',vI,wu⟩ := N9;exact⟨_,by lia,iH,rfl,β',vI,wu⟩,λx H3 y=>?_⟩
   obtain⟨s3,r3⟩:=yl x H3 y;rw[hc]at r3;refine⟨aU,_,.int c,.own,s2.same s3,az.flat rfl r3,λσ4 mT s4 w4 _=>?_⟩;exact⟨(H1,Q.Wn λ_=>[]),{nx:=JL,rt:=λd _=>d=.bl true,bk:=JL,ct:=JL},_,⟨mT,s4,Q.f9 (n2.same s3) w4⟩,hψ c y0 y2 y3 y4 y5 y6 y7 y8 y9 IV AX AW,⟨λσ5 H5 β5 zb q5=>⟨β5,zb,q5⟩,λσ5 H5 β5 d5 v5 zb r5 q5=>by
    subst q5;cases (show v5=V.bl true from MS r5)
    exact k _,λσ5 H5 β5 zb q5=>k _,λσ5 H5 β5 zb q5=>⟨β5,zb,q5⟩⟩⟩
  ·left
   have e:i=ds.length:=by lia
   subst e;exact⟨fM (XS _),k _⟩
end
theorem jg {α:Type}{P:List α->Prop}(h:∀a,P [a]):∀us:List α,us.length=1->P us:=λus e=>by
 obtain⟨a,rfl⟩:=List.length_eq_one_iff.mp e;exact h a
theorem oI {α:Type}{P:List α->Prop}(h:∀a b,P [a,b]):∀us:List α,us.length=2->P us:=λus e=>by
 cases us with
 |nil=>cases e
 |cons a us=>exact jg (P:=λus=>P (a::us)) (h a) us (aap e)
theorem zI {α:Type}{P:List α->Prop}(h:∀a b c,P [a,b,c]):∀us:List α,us.length=3->P us:=λus e=>by
 cases us with
 |nil=>cases e
 |cons a us=>exact oI (P:=λus=>P (a::us)) (h a) us (aap e)
theorem Ku {α:Type}{P:List α->Prop}(h:∀a b c d,P [a,b,c,d]):∀us:List α,us.length=4->P us:=λus e=>by
 cases us with
 |nil=>cases e
 |cons a us=>exact zI (P:=λus=>P (a::us)) (h a) us (aap e)
theorem Gm {α:Type}{P:List α->Prop}(h:∀a b c d e,P [a,b,c,d,e]):∀us:List α,us.length=5->P us:=λus e=>by
 cases us with
 |nil=>cases e
 |cons a us=>exact Ku (P:=λus=>P (a::us)) (h a) us (aap e)
theorem DB {K:PySem.W.Frag}{x m:Str}{st:Stmt}{t c f:Nat}(l:K.lookup f=some (kF st x m t c))(cd:PySem.W.codeIn K (.ref c) x=true)(k:PySem.W.keepIn K (.ref f)=true):EZ K x x st f (Qb st x m t c):=Lv l cd k
theorem bB {K:PySem.W.Frag}{h:Heap}{mg:Str->Option XO}{x m:Str}{st:Stmt}{t c f:Nat}{ps:List Str}(X:K.In h)(G:h.Ns Zy mg)(l:K.lookup f=some (kF st x m t c))(cd:PySem.W.codeIn K (.ref c) x=true)(k:PySem.W.keepIn K (.ref f)=true)
  (a:PySem.W.nsIn K Zy x=some (some (.ref f))) (b:∀us:List XO,us.length=ps.length->bindArgs (Qb st x m t c) ⟨us,[]⟩=pure (ps.zip us)):Df K mg x st ps f (Qb st x m t c):=⟨DB l cd k,.all b,PySem.W.mg_of X G a⟩
theorem all_mk {l:PySem.W.OpenLaw} (w:X6) (mg:Str->Option XO) (fa:Addr) (h:Heap) (X:(KK w.params).In h) (G:h.Ns Zy mg) (Wx:mg "law" = some (.ref fa))   :∃fd:YB,(∀(s:XQ) (v:XO),BindsTo s fd ⟨[v],[]⟩ [("script",v)])/\∀base:Heap,(KK w.params).In base->base.Ns Zy mg->aJ l.prog w (KK w.params) mg base bN 9 fa fd ["script"] (Bh (KK w.params)):=by
 have e:=Wx.symm.trans (PySem.W.mg_of X G (v:=.ref 250) (by kernel_rfl))
 cases e;have NB:=PySem.W.mg_none_of X G (n:="max") (by kernel_rfl)
 have NA:=PySem.W.mg_none_of X G (n:="min") (by kernel_rfl)
 have ND:=PySem.W.mg_none_of X G (n:="int") (by kernel_rfl)
 have Gg:=PySem.W.mg_none_of X G (n:="range") (by kernel_rfl)
 have CI:=PySem.W.mg_none_of X G (n:="sorted") (by kernel_rfl)
 have Nz:=PySem.W.mg_none_of X G (n:="set") (by kernel_rfl)
 have NC:=PySem.W.mg_none_of X G (n:="len") (by kernel_rfl)
 have Ke:=PySem.W.mg_none_of X G (n:="list") (by kernel_rfl)
 have rp:=PySem.W.mg_none_of X G (n:="isinstance") (by kernel_rfl)
 have Gf:=PySem.W.mg_none_of X G (n:="tuple") (by kernel_rfl)
 have Nw:=PySem.W.mg_none_of X G (n:="str") (by kernel_rfl)
 have Kg:=PySem.W.mg_none_of X G (n:="bool") (by kernel_rfl)
 have Nu:=PySem.W.mg_none_of X G (n:="zip") (by kernel_rfl)
 have t9:=PySem.W.mg_none_of X G (n:="enumerate") (by kernel_rfl)
 have Nv:=PySem.W.mg_none_of X G (n:="sum") (by kernel_rfl)
 have NG:=PySem.W.mg_none_of X G (n:="any") (by kernel_rfl)
 have NH:=PySem.W.mg_none_of X G (n:="abs") (by kernel_rfl)
 have Kf:=PySem.W.mg_none_of X G (n:="dict") (by kernel_rfl)
 have B:=(⟨⟨(⟨⟨⟨NB,NA,ND,Gg,CI,Nz,NC,Ke⟩,rp,Gf,Nw,Kg,Nu,t9⟩,Nv⟩:Bs3 mg),NG⟩,NH⟩:T7 mg);have BK:=(⟨B.toBs2,Kf⟩:HD mg);exact⟨_,λs v=>.of_eq rfl,λbase _ _=>J7 (DB (x:="law") (m:="law_archrow_k31_best_kinds") (st:=mH) (t:=430) (c:=249) (f:=250) (by kernel_rfl) (by kernel_rfl) (by kernel_rfl)) B BK (bB X G (x:="row_of_kinds") (m:="archrow.kinds") (st:=cP) (t:=384) (c:=158) (f:=159) (ps:=["kinds","pairs","gap"]) (by kernel_rfl) (by kernel_rfl) (by kernel_rfl) (by kernel_rfl) (zI λ_ _ _=>rfl))
  (bB X G (x:="check_gap") (m:="archrow.kinds") (st:=fq) (t:=384) (c:=170) (f:=171) (ps:=["gap"]) (by kernel_rfl) (by kernel_rfl) (by kernel_rfl) (by kernel_rfl) (jg λ_=>rfl))
  (bB X G (x:="pairs_either_way") (m:="archrow.kinds") (st:=bQ) (t:=384) (c:=177) (f:=178) (ps:=["pairs"]) (by kernel_rfl) (by kernel_rfl) (by kernel_rfl) (by kernel_rfl) (jg λ_=>rfl))
  (bB X G (x:="most_ties") (m:="archrow.kept") (st:=fk) (t:=352) (c:=134) (f:=135) (ps:=["row"]) (by kernel_rfl) (by kernel_rfl) (by kernel_rfl) (by kernel_rfl) (jg λ_=>rfl))
  (bB X G (x:="most_of") (m:="archrow.kept") (st:=ie) (t:=352) (c:=141) (f:=142) (ps:=["row","i","j"]) (by kernel_rfl) (by kernel_rfl) (by kernel_rfl) (by kernel_rfl) (zI λ_ _ _=>rfl))
  (bB X G (x:="table_of") (m:="archrow.kept") (st:=f_) (t:=352) (c:=148) (f:=149) (ps:=["row"]) (by kernel_rfl) (by kernel_rfl) (by kernel_rfl) (by kernel_rfl) (jg λ_=>rfl))
  (bB X G (x:="greatest_table") (m:="archrow.stretches") (st:=cm) (t:=283) (c:=103) (f:=104) (ps:=["row","worth"]) (by kernel_rfl) (by kernel_rfl) (by kernel_rfl) (by kernel_rfl) (oI λ_ _=>rfl))
  (bB X G (x:="partners_of") (m:="archrow.stretches") (st:=dh) (t:=283) (c:=91) (f:=92) (ps:=["row"]) (by kernel_rfl) (by kernel_rfl) (by kernel_rfl) (by kernel_rfl) (jg λ_=>rfl))
  (bB X G (x:="stretches_rising") (m:="archrow.stretches") (st:=bP) (t:=283) (c:=86) (f:=87) (ps:=["many"]) (by kernel_rfl) (by kernel_rfl) (by kernel_rfl) (by kernel_rfl) (jg λ_=>rfl))
  (bB X G (x:="least_number") (m:="archrow.stretches") (st:=cR) (t:=283) (c:=115) (f:=116) (ps:=["partners","worth","table","i","j"]) (by kernel_rfl) (by kernel_rfl) (by kernel_rfl) (by kernel_rfl) (Gm λ_ _ _ _ _=>rfl))
  (bB X G (x:="number_with") (m:="archrow.stretches") (st:=dj) (t:=283) (c:=110) (f:=111) (ps:=["worth","table","i","k","j"]) (by kernel_rfl) (by kernel_rfl) (by kernel_rfl) (by kernel_rfl) (Gm λ_ _ _ _ _=>rfl))
  (bB X G (x:="one_each") (m:="archrow.kept") (st:=gb) (t:=352) (c:=153) (f:=154) (ps:=["row"]) (by kernel_rfl) (by kernel_rfl) (by kernel_rfl) (by kernel_rfl) (jg λ_=>rfl))
  (bB X G (x:="first_greatest") (m:="archrow.stretches") (st:=cn) (t:=283) (c:=127) (f:=128) (ps:=["row","worth","table","i","j"]) (by kernel_rfl) (by kernel_rfl) (by kernel_rfl) (by kernel_rfl) (Gm λ_ _ _ _ _=>rfl))
  (bB X G (x:="best_choices") (m:="archrow.stretches") (st:=cS) (t:=283) (c:=120) (f:=121) (ps:=["partners","worth","table","i","j"]) (by kernel_rfl) (by kernel_rfl) (by kernel_rfl) (by kernel_rfl) (Gm λ_ _ _ _ _=>rfl))
  (bB X G (x:="parts_left") (m:="archrow.stretches") (st:=d4) (t:=283) (c:=98) (f:=99) (ps:=["i","k","j"]) (by kernel_rfl) (by kernel_rfl) (by kernel_rfl) (by kernel_rfl) (zI λ_ _ _=>rfl))
  (bB X G (x:="row_beside") (m:="archrow.arcs") (st:=d3) (t:=255) (c:=81) (f:=82) (ps:=["row","tie"]) (by kernel_rfl) (by kernel_rfl) (by kernel_rfl) (by kernel_rfl) (oI λ_ _=>rfl))
  (bB X G (x:="share_a_point") (m:="archrow.arcs") (st:=cD) (t:=255) (c:=76) (f:=77) (ps:=["one","other"]) (by kernel_rfl) (by kernel_rfl) (by kernel_rfl) (by kernel_rfl) (oI λ_ _=>rfl))
  (bB X G (x:="arcs_cross") (m:="archrow.arcs") (st:=d7) (t:=255) (c:=69) (f:=70) (ps:=["one","other"]) (by kernel_rfl) (by kernel_rfl) (by kernel_rfl) (by kernel_rfl) (oI λ_ _=>rfl))
  (bB X G (x:="most_without") (m:="archrow.kinds") (st:=cQ) (t:=384) (c:=182) (f:=183) (ps:=["row","point"]) (by kernel_rfl) (by kernel_rfl) (by kernel_rfl) (by kernel_rfl) (oI λ_ _=>rfl))
  (bB X G (x:="most_beside") (m:="archrow.kinds") (st:=dk) (t:=384) (c:=189) (f:=190) (ps:=["row","point","other"]) (by kernel_rfl) (by kernel_rfl) (by kernel_rfl) (by kernel_rfl) (zI λ_ _ _=>rfl))
  (bB X G (x:="best_kinds") (m:="archrow.kinds") (st:=d6) (t:=384) (c:=163) (f:=164) (ps:=["kinds","pairs","gap","place"]) (by kernel_rfl) (by kernel_rfl) (by kernel_rfl) (by kernel_rfl) (Ku λ_ _ _ _=>rfl))
  (bB X G (x:="_law_pot") (m:="law_archrow_k31_best_kinds") (st:=fS) (t:=430) (c:=196) (f:=197) (ps:=["cell"]) (by kernel_rfl) (by kernel_rfl) (by kernel_rfl) (by kernel_rfl) (jg λ_=>rfl))
  (bB X G (x:="_law_take") (m:="law_archrow_k31_best_kinds") (st:=eM) (t:=430) (c:=203) (f:=204) (ps:=["pot","many"]) (by kernel_rfl) (by kernel_rfl) (by kernel_rfl) (by kernel_rfl) (oI λ_ _=>rfl))
  (bB X G (x:="_law_kinds") (m:="law_archrow_k31_best_kinds") (st:=fo) (t:=430) (c:=208) (f:=209) (ps:=["pot"]) (by kernel_rfl) (by kernel_rfl) (by kernel_rfl) (by kernel_rfl) (jg λ_=>rfl))
  (bB X G (x:="_law_pairs") (m:="law_archrow_k31_best_kinds") (st:=fm) (t:=430) (c:=215) (f:=216) (ps:=["pot","few"]) (by kernel_rfl) (by kernel_rfl) (by kernel_rfl) (by kernel_rfl) (oI λ_ _=>rfl))
  (bB X G (x:="_law_gap") (m:="law_archrow_k31_best_kinds") (st:=ij) (t:=430) (c:=222) (f:=223) (ps:=["pot"]) (by kernel_rfl) (by kernel_rfl) (by kernel_rfl) (by kernel_rfl) (jg λ_=>rfl))
  (bB X G (x:="_law_ties") (m:="law_archrow_k31_best_kinds") (st:=gc) (t:=430) (c:=227) (f:=228) (ps:=["kinds","pairs","gap"]) (by kernel_rfl) (by kernel_rfl) (by kernel_rfl) (by kernel_rfl) (zI λ_ _ _=>rfl))
  (bB X G (x:="_law_size") (m:="law_archrow_k31_best_kinds") (st:=gf) (t:=430) (c:=232) (f:=233) (ps:=["many","ties"]) (by kernel_rfl) (by kernel_rfl) (by kernel_rfl) (by kernel_rfl) (oI λ_ _=>rfl))
  (bB X G (x:="_law_due") (m:="law_archrow_k31_best_kinds") (st:=ik) (t:=430) (c:=242) (f:=243) (ps:=["kinds","pairs","gap","place"]) (by kernel_rfl) (by kernel_rfl) (by kernel_rfl) (by kernel_rfl) (Ku λ_ _ _ _=>rfl))
  (bB X G (x:="_law_same") (m:="law_archrow_k31_best_kinds") (st:=gg) (t:=430) (c:=237) (f:=238) (ps:=["found","due"]) (by kernel_rfl) (by kernel_rfl) (by kernel_rfl) (by kernel_rfl) (oI λ_ _=>rfl))⟩
end oz
abbrev PySem.W.Fast.tw14789612379263154384:PySem.Program:=PySem.Challenge.pw_archrow_k31_best_kinds
theorem PySem.W.Fast.te14789612379263154384:PySem.Challenge.pw_archrow_k31_best_kinds=PySem.W.Fast.tw14789612379263154384:=rfl
open PySem PySem.W PyProof.Rows
set_option maxRecDepth 100000 in
set_option maxHeartbeats 0 in
theorem PySem.Challenge.cw_archrow_k31_best_kinds_holds : PySem.Challenge.rw_archrow_k31_best_kinds.Holds := by
 w_on;o_law
 refine holds_open (q:=oz.view) (loose:=[]) (Xt:=λs=>xlAt oz.view [] s&&recOk (RowW.records PySem.Challenge.rw_archrow_k31_best_kinds.row.toRowW) s) (XP:=XL oz.view []) (Yf:=oz.HK.obs) (Ya:=oz.HK.val) (YP:=λw h=>(oz.KK w.params).In h) (N:=3690) oz.left oz.HK.of oz.HK.keeps (λs e=>xl_of s (Bool.and_eq_true_iff.mp e).1) XL.keeps (by rfl) (by rfl) (by rfl) (λs e=>recFacts_of (Bool.and_eq_true_iff.mp e).2) (by rfl) (by first|assumption|decide +kernel) (by decide +kernel) ⟨rfl,rfl,rfl,rfl,rfl,by decide +kernel⟩ ?hw ?hc
 (case hw=>w_witness2)
 case hc =>
  exact L2.E8 (l:=PySem.Challenge.rw_archrow_k31_best_kinds) (K:=oz.KK) (n:=63) (k:=9) (x:="script") (CX:=λ_=>L2.bN) (sp:=λw=>oz.Bh (oz.KK w.params)) rfl (by decide) rfl ⟨rfl,by decide,by decide⟩ (λw h Y=>Y) oz.all_mk (λ_ _ a ns hl _ hS=>⟨a,ns,rfl,hS,hl,λ_=>rfl⟩) λ_ _ _ _ _ z=>z
#print axioms PySem.Challenge.cw_archrow_k31_best_kinds_holds
