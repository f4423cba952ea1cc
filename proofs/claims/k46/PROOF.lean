import PyProof.Rows.All
import Wide.All
import OpenK.AllK
import Wide.FinOn
import OpenK.KLine
import Lean
import PyProof.EqAt
import PyProof.EqKinds
import PyProof.TupleCall
import PyProof.Rows.SortShell
import PyProof.Rows.SortWalk
import PyProof.CompFree
import PyProof.Rows.SortRuns
import PyProof.EqLayable
import PyProof.NeData
import PyProof.P3In
import PyProof.ZipIter
import PyProof.EnumMake
import PyProof.EnumFor
import PyProof.Rows.Range3
import PyProof.AttrMissSeq
import KE.KDictOf
import PyProof.Rows.SeqMore
import PyProof.StrCalls6
import PyProof.MeetsStr
import PyProof.Rows.StrStrike
import PyProof.StrBlock2
import PyProof.Rows.StrRules
import PyProof.Draws
import PyProof.StrWalks
import KE.IntBitsLaws
import PyProof.ListNew
import PyProof.Rows.StrPartPair
import PyProof.Rows.StrSplitCount
import PyProof.FitsReplace
import PyProof.MeetsStr2
import KE.KIntText
import PyProof.CallStr
import PyProof.StrBlockL
import PyProof.Rows.FStr
import PyProof.CollectIter
import PyProof.Walks
import PyProof.ConsumeWalk
import PyProof.FitsBits
import PyProof.Rows.SeqMore2
import PyProof.Rows.CountFlat
import KE.KTryMore
import PyProof.NsDelKeeps
import PyProof.ExcBaseAll.ValueError
import KE.IntTextLaws
import KE.IntTextText
import KE.KxText
import PyProof.Rows.DictMod
import PyProof.Rows.DictRows
import PySem.Challenge.RW_archrow_k46_texts_there_and_back
set_option Elab.async false
set_option linter.all false
set_option maxRecDepth 100000
set_option maxHeartbeats 4000000
set_option compiler.extract_closed false
open PySem renaming Value->YU,wpAny_bind->YV,Shared->YW,wpAny_pure->YZ,Program->Y0,World->Zd,starEach->Ze,sizeLine->Zf,wpAny->Zr,sizeLine_eq->Zw,FuncData->ZF,Around->ZQ,compareOp->ZR,wpAny_holding->ZW,bootBuiltins->ZY,assignEach->aac,wpAny_newObj_type->aal,binaryOp->aas,wpAny_truthy_bool->aau,foldedSetIterable->aav,backTo->aaw,Builtin->aaz,wpAny_call_entry->aaB,wpAny_setState_of->aaD,mainGlobals->aaM,wpAny_standAt->aaT,sliceBounds->aaX,codeAny_mono->aaY,call_meets->aaZ,attributeBase->aa0,wpAny_mono->aa8,cLine->abk,wpAny_Call_Name_kw->abq,swapsWith->abx,Scope->abz,wpAny_rule->abJ,typeIs_str->abK,codeAny->abN,behindInMarks->abO,Keyword->abQ,NameKind->abR,CmpOp->abT,wpAny_passesOwn->abU,wpAny_loadPart'->abV,codeAny_builtin->abW,wpAny_call->ab7,wpAny_pyIter_list->acj,keywordEach->ack,wpAny_attempt->acp,Comprehension->acs,wpAny_forIn_list->acx,wpAny_callSpecial?_slot->acy,wpAny_askSetting->acz,checkBuiltinCall->acA
open List renaming length_map->YX,mem_singleton->Y1,getElem?_eq_getElem->Y2,mem_cons->Y4,mem_cons_of_mem->Y7,mem_cons_self->Y8,getElem?_eq_some_iff->Y_,mem_append->Zb,length_cons->Zc,size_toArray->Zh,range->Zi,getElem?_map->Zj,length_append->Zl,map_cons->Zx,mem_of_getElem?->Zz,nodup_cons->ZD,mem_map->ZE,length_take->ZH,mem_range->ZJ,mem_append_right->ZK,nodup_append->ZL,map_map->ZM,filterMap_cons->ZN,replicate->ZP,append_assoc->ZV,append_nil->ZX,pairwise_cons->ZZ,getElem?_append_right->Z0,map_congr_left->Z5,filter_eq_self->Z6,nodup_nil->Z7,mem_append_left->Z8,not_mem_nil->aaa,length_singleton->aad,lookup_cons->aag,getElem?_append_left->aah,drop_eq_getElem_cons->aai,length_range->aan,getElem?_eq_none->aao,map_append->aar,take_of_length_le->aay,take_append_drop->aaA,foldl_cons->aaH,replicate_succ->aaI,drop_of_length_le->aaK,getD_eq_getElem?_getD->aaO,flatten_cons->aaR,ext_getElem?->aaS,length_drop->aaW,mem_iff_getElem?->aa1,length_filter_le->aa2,pairwise_map->aa4,getElem?_set->aa5,any_eq_false->aa6,perm_ext_iff_of_nodup->aa_,pairwise_append->aba,getElem?_of_mem->abb,mem_reverse->abd,getElem_mem->abe,all_eq_true->abf,pairwise_iff_getElem->abh,getElem?_take_of_lt->abn,mem_filter->abp,mem_filterMap->abr,set_eq_take_append_cons_drop->abA,take_add_one->abD,getElem?_toArray->abI,take_length->abM,range'->abS,range_succ->abX,of_mem_zip->abY,dropLast_concat_getLast->abZ,reverse_append->ab1,length_reverse->ab2,getElem?_range->ab3,getElem?_drop->aca,findSome?_eq_none_iff->acb,filter_append->acd,extract_eq_take_drop->acf,reverse_cons->acm,sum_cons->acr,perm_middle->acB,getElem?_cons_succ->acC,filter_cons->acD,any_eq_true->acE
open Nat renaming le_refl->YY,zero_le->Zm,ne_of_lt->Zu,lt_of_lt_of_le->Zv,le_trans->ZO,lt_or_ge->aaq,zero_add->aaP,pow_le_pow_right->aaQ,lt_irrefl->aaU,succ_le_succ->aaV,lt_succ_of_lt->abC,mod_lt->ab9,lt_of_le_of_lt->ab_
open PySem.Heap renaming get?_push_of_some->Y3,lt_size->Za,get?_push_size->ZC,SameBut->abg,FlyingW->abE
open PyProof.Rows renaming Keyed->Y5,wpS_bind->Y9,wpS_pure->Zg,pendingOf->Zs,SortSt->Zy,arrOf->ZG,wpS_forRange->Z3,setArr->aab,wpS_mono->aaC,IntsAre->aaE,seqObj->aaJ,wpS_modify->aa7,SortKind->abl,failedOf->abB,slot_tuple_getitem->abH,setPending->abL,callWith_type1->ab5,envOfC->ab8,wpS_get->aci,AllBare->aco
open Array renaming length_toList->Y6,getElem?_toList->Zk,getD_eq_getD_getElem?->Zo,toList_append->aak,toList_push->aaG,getElem?_eq_none->aaL,perm_iff_toList_perm->abc,size_setIfInBounds->acw
open Option renaming map_eq_some_iff->Zn,bind_eq_some_iff->Zq
open Option.some renaming inj->Zt
open Bool renaming and_eq_true->ZI,not_eq_true'->aaF,not_eq_false'->abu,false_ne_true->abv,false_eq_true->abw,eq_false_iff->abG,eq_iff_iff->ab0
open PySem.SeqAt renaming canLay_of_shaped->ZS
open Decidable renaming by_contra->ZT
open PySem.NameKind renaming free->ZU,cell->abm
open PySem.Str renaming empty->Z1,length_append->aam,join->aat
open PySem.PyData renaming eqv->Z2,canLay0->Z9,depthAll->aaf,depth->aax,canLayAll0->aa3,strOk->ab6,eqvAll->acq
open Int renaming toNat_natCast->Z4,emod_lt_of_pos->ace
open PySem.Txt renaming partition->Z_,split->aaN
open PySem.Builtin.Str renaming occurrences->aae,strSub->abt,subAt->abF,strKind->ab4,glued->acn
open False renaming elim->aaj
open PySem.PassesOwn renaming never->aap
open PySem.Obj renaming mapSeq->aa9
open Classical renaming byContradiction->abi
open PySem.Builtin.Slice renaming slicePlaces->abj,sliceAdjust->ach
open PySem.Builtin.Tuple renaming tupleExact->abo
open PySem.W renaming boot_heap->aby
open Ne renaming symm->abP
open PySem.Calls renaming call_function_entry->acg
open PySem.Code renaming compLoop->acu
open PySem.Builtin.List renaming listTooLong->acv
noncomputable section
namespace L2
open PySem PySem.Spec PyProof.Rows
def lZ (s:Stmt):Arguments:=match s with
 |.FunctionDef _ a _ _ _ _ _ _ _ _=>a
 |_=>{posonlyargs:=[],args:=[],vararg:=none,kwonlyargs:=[],kw_defaults:=[],kwarg:=none,defaults:=[]}
def di (s:Stmt):List Stmt:=match s with
 |.FunctionDef _ _ b _ _ _ _ _ _ _=>b
 |_=>[]
def ar (s:Stmt):abz:=match s with
 |.FunctionDef _ _ _ _ _ _ sc _ _ _=>sc
 |_=>{kind:=.function,names:=[],isGenerator:=false,isCoroutine:=false}
end L2
namespace L2.Hd
open PySem PySem.W PySem.Spec PyProof.Rows
noncomputable def je (tb:String->Option aaz)(p:Y0)(w:Zd)(n₀:Nat)(ann:Option YU):Nat->SharedT->Thread->Option SharedT
 |0,_,_=>none
 |n+1,s,t=>match through t with
  |true=>some s
  |false=>match stepOk n₀ ann t with
   |false=>none
   |true=>match stepT (denote tb) p w s t with
    |some (s',t')=>je tb p w n₀ ann n s' t'
    |none=>none
theorem mq {tb:String->Option aaz}{p:Y0}{w:Zd}{n₀:Nat}{ann:Option YU}:∀{n:Nat} {s s':SharedT} {t:Thread},je tb p w n₀ ann n s t=some s'->topRun tb p w n₀ ann n s.abs t=some s'.abs
 |0,_,_,_,g=>by cases g
 |n+1,s,s',t,g=>by
  unfold je at g;unfold topRun;cases ht:through t with
  |true=>rw[ht]at g;cases g;rfl
  |false =>
   rw[ht]at g;cases hk:stepOk n₀ ann t with
   |false=>rw[hk]at g;cases g
   |true =>
    rw[hk]at g;cases hq:stepT (denote tb) p w s t with
    |none=>rw[hq]at g;cases g
    |some r=>obtain⟨s₂,t₂⟩:=r;rw[hq]at g;dsimp only;rw[stepT_spec hq];exact mq g
noncomputable def OJ (P:Params):BT:=((aby P).objs.toList.foldl (λ(x:BT×Nat) o=>(x.1.ins x.2 o,x.2+1)) (.nil,0)).1
noncomputable def DU (w:Zd)(os:OsState):SharedT:=⟨OJ w.params,11,(aby w.params).life,Array.mk [],boot_drawn,boot_toks,os⟩
theorem boot_abs (w:Zd)(os:OsState):(DU w os).abs=⟨aby w.params,Array.mk [],boot_drawn,boot_toks,os⟩:=by kernel_rfl
theorem G0 (P:Params):((aby P).isNs aaM&&((Array.mk []:Array GenState).size==0))=true:=by kernel_rfl
theorem Ar (P:Params):(aby P).objs.size=11:=by kernel_rfl
theorem DT (P:Params):(aby P).nsMap aaM "__annotations__" = some (.ref 6):=by kernel_rfl
def ends (p:Y0)(h0:Heap)(s₁:YW):Option YW:=match staticsOk (importedModules p.main.body) h0 s₁.heap&&namesBound p s₁.heap&&gensDone s₁&&laidKept h0 s₁.heap with
 |true=>some s₁
 |false=>none
theorem zL {p q:Y0}{loose:List Str}{Xt:YW->Bool}{α:Type}{Yf:YW->α}{Ya:Zd->α}{N:Nat}{g0:Bool}
  (g1:opening p=plainProg p.main.scope.names) (g2:Nat.ble 600 N=true) (g3:∀s,fenceModules? p s=some s)
  (g4:∀(w:Zd) (os:OsState),((je treeTable p w 11 (some (.ref 6)) N (DU w os) (topStub p)).bind λs₁=>ends p (aby w.params) s₁.abs).map (λs=>(openSeen q loose (importedModules p.main.body) Xt g0 s,Yf s))=some (openGood q loose,Ya w)) :
  LeftO p q loose Xt Yf Ya N g0:=λw=>by
 obtain⟨⟨hp,gs,dr,tk,os⟩,e,v⟩:=Zn.mp (boot_open (N:=N) g1 g2 g3 w);obtain⟨v1,v⟩:=Prod.mk.inj v;obtain⟨v2,v⟩:=Prod.mk.inj v;obtain⟨v3,v4⟩:=Prod.mk.inj v;dsimp only at v1 v2 v3 v4;subst v1 v2 v3 v4;have g:=g4 w os;unfold openEnds;rw[e];show (topFrom treeTable p w N _).map _=_;have t:topFrom treeTable p w N ⟨aby w.params,Array.mk [],boot_drawn,boot_toks,os⟩=(topRun treeTable p w 11 (some (.ref 6)) N ⟨aby w.params,Array.mk [],boot_drawn,boot_toks,os⟩ (topStub p)).bind (ends p (aby w.params)):=by
  unfold topFrom;rw[G0];dsimp only;rw[Ar,DT];rfl
 rw[t];cases hT:je treeTable p w 11 (some (.ref 6)) N (DU w os) (topStub p)with
 |none=>rw[hT]at g;cases g
 |some s₁ =>
  have r:=mq hT;rw[boot_abs]at r;rw[hT]at g;rw[r];exact g
end L2.Hd
namespace oO
open PySem L2
def top (i:Nat):Stmt:=PySem.Challenge.pw_archrow_k46_texts_there_and_back.main.body.getD i (.Pass ⟨0,0,0,0⟩)
abbrev jm:Stmt:=top 15
abbrev dQ:Stmt:=top 16
abbrev jn:Stmt:=top 17
abbrev df:Stmt:=top 18
abbrev fR:Stmt:=top 19
abbrev cz:Stmt:=top 20
abbrev dk:Stmt:=top 21
abbrev d9:Stmt:=top 25
abbrev cB:Stmt:=top 26
abbrev fN:Stmt:=top 27
abbrev fO:Stmt:=top 28
abbrev g9:Stmt:=top 29
abbrev dN:Stmt:=top 30
abbrev gY:Stmt:=top 31
abbrev e_:Stmt:=top 32
abbrev oW:Stmt:=top 34
abbrev fP:Stmt:=top 35
abbrev fb:Stmt:=top 36
abbrev g6:Stmt:=top 37
abbrev fQ:Stmt:=top 38
abbrev gZ:Stmt:=top 39
abbrev cR:Stmt:=top 40
abbrev fc:Stmt:=top 41
abbrev g8:Stmt:=top 42
abbrev de:Stmt:=top 43
abbrev dP:Stmt:=top 44
abbrev g7:Stmt:=top 45
abbrev b6:Stmt:=top 46
abbrev mL:Stmt:=top 47
noncomputable abbrev vS (x:Str)(t:Nat):YU:=.str x t
noncomputable abbrev kE (P:Params)(x:Str)(t:Nat)(v:YU):DictEntry:=⟨PyData.keyHash P x,.str x t,v⟩
noncomputable abbrev kC (n:Str)(t l p r8 WR Wr:Nat)(VY VX VW:YU)(Wq WQ V6:Nat):Obj:={cls:=.type "code",data:=.fields #[vS n t,vS n (t+1),vS "/claim/cut.py" (t+2),.int l 0,.int p 0,.int 0 0,.int 0 0,.int 3 0,.ref r8,.bool true,.int WR 0,.ref Wr,VY,VX,VW,.ref Wq,.int WQ 0,.int l 0,vS "/claim/cut.py" V6]}
noncomputable abbrev O_ (st:Stmt)(x m:Str)(t c:Nat):ZF:=PySem.W.fnOf x x (lZ st) (di st) (ar st) .none .none .none (vS m t) none (.ref c) .none
noncomputable abbrev kF (st:Stmt)(x m:Str)(t c:Nat):Obj:={cls:=.type "function",data:=.func (O_ st x m t c)}
noncomputable abbrev kX (x:Str)(a A t:Nat):Obj:={cls:=.type "type",data:=.cls {name:=x,bases:=[.ref A],mro:=[.ref a,.ref A,.type "ValueError",.type "Exception",.type "BaseException",.type "object"],ns:=a-1,qualname:=x},slots:=#[some (.ref (a-9)),none,some (vS x t),some (vS x (t+8)),some (.builtin "ValueError.__new__"),some (.bool true)]}
noncomputable abbrev kN (P:Params)(a t m l:Nat):Obj:={cls:=.type "dict",data:=.dict #[kE P "__module__" (t+7) (vS "archrow.errors" m),kE P "__firstlineno__" (t+11) (.int l (t+10)),kE P "__static_attributes__" (t+12) (.ref (a-2)),kE P "__doc__" (t+13) .none] 2}
noncomputable def KK:Params->PySem.W.Frag:=λP=>[(3,{cls:=.type "dict",data:=.dict #[kE P "__name__" 165 (vS "law_archrow_k46_texts_there_and_back" 533),kE P "__doc__" 166 .none,kE P "__package__" 167 .none,kE P "__loader__" 168 (.builtin "__main__.__loader__#opaque"),kE P "__spec__" 169 .none,kE P "__annotations__" 170 (.ref 6),kE P "__builtins__" 171 (.ref 4),kE P "__file__" 173 (vS "/claim/cut.py" 172),kE P "__cached__" 174 .none,kE P "ArchError" 206 (.ref 24),kE P "NoRow" 222 (.ref 37),kE P "NoTie" 238 (.ref 49),kE P "NoStretch" 254 (.ref 61),kE P "NoWeights" 270 (.ref 73),kE P "NoNumber" 286 (.ref 85),kE P "NoSet" 302 (.ref 97),kE P "NoGap" 318 (.ref 109),kE P "NoPlace" 334 (.ref 121),kE P "NoShape" 350 (.ref 133),kE P "NoText" 366 (.ref 145),kE P "NoForm" 382 (.ref 157),kE P "NoneYet" 398 (.ref 169),kE P "row_of" 406 (.ref 176),kE P "arcs_cross" 418 (.ref 183),kE P "is_set" 426 (.ref 190),kE P "first_fault" 436 (.ref 197),kE P "fault_at" 446 (.ref 204),kE P "share_a_point" 454 (.ref 211),kE P "check_set" 462 (.ref 218),kE P "FIGURES" 466 (vS "0123456789" 465),kE P "POINT_FIGURES" 468 (.int 3 467),kE P "brackets" 474 (.ref 223),kE P "read_brackets" 482 (.ref 230),kE P "show_row" 491 (.ref 237),kE P "read_row" 497 (.ref 242),kE P "arcs_in" 508 (.ref 249),kE P "ties_shown" 514 (.ref 254),kE P "pair_in" 526 (.ref 261),kE P "number_in" 532 (.ref 266),kE P "_law_cell_at" 542 (.ref 273),kE P "_law_stir" 551 (.ref 280),kE P "_law_digit" 560 (.ref 287),kE P "_law_row" 574 (.ref 294),kE P "_law_meet" 582 (.ref 301),kE P "_law_set" 588 (.ref 306),kE P "_law_brackets" 599 (.ref 313),kE P "_law_class" 607 (.ref 320),kE P "_law_due" 613 (.ref 325),kE P "_law_written" 623 (.ref 332),kE P "_law_spoilt" 629 (.ref 337),kE P "_law_met" 635 (.ref 342),kE P "_law_spoilt_good" 641 (.ref 347),kE P "law" 647 (.ref 352)] 53}),
 (175,kC "row_of" 401 29 2 172 181 173 .none .none .none 174 404 405),
 (176,kF jm "row_of" "archrow.arcs" 399 175),
 (182,kC "arcs_cross" 407 36 2 177 181 178 .none (.ref 179) (.ref 180) 181 416 417),
 (183,kF dQ "arcs_cross" "archrow.arcs" 399 182),
 (189,kC "is_set" 419 40 2 184 181 185 .none (.ref 186) (.ref 187) 188 424 425),
 (190,kF jn "is_set" "archrow.arcs" 399 189),
 (196,kC "first_fault" 427 42 2 191 181 192 .none (.ref 193) (.ref 194) 195 434 435),
 (197,kF df "first_fault" "archrow.arcs" 399 196),
 (203,kC "fault_at" 437 48 3 198 181 199 .none (.ref 200) (.ref 201) 202 444 445),
 (204,kF fR "fault_at" "archrow.arcs" 399 203),
 (210,kC "share_a_point" 447 60 2 205 181 206 .none (.ref 207) (.ref 208) 209 452 453),
 (211,kF cz "share_a_point" "archrow.arcs" 399 210),
 (217,kC "check_set" 455 62 2 212 181 213 .none (.ref 214) (.ref 215) 216 460 461),
 (218,kF dk "check_set" "archrow.arcs" 399 217),
 (222,kC "brackets" 469 68 2 219 181 220 .none .none .none 221 472 473),
 (223,kF d9 "brackets" "archrow.texts" 463 222),
 (229,kC "read_brackets" 475 79 1 224 181 225 .none (.ref 226) (.ref 227) 228 480 481),
 (230,kF cB "read_brackets" "archrow.texts" 463 229),
 (236,kC "show_row" 483 84 1 231 181 232 .none (.ref 233) (.ref 234) 235 489 490),
 (237,kF fN "show_row" "archrow.texts" 463 236),
 (241,kC "read_row" 492 87 1 238 181 239 .none .none .none 240 495 496),
 (242,kF fO "read_row" "archrow.texts" 463 241),
 (248,kC "arcs_in" 498 97 1 243 181 244 .none (.ref 245) (.ref 246) 247 506 507),
 (249,kF g9 "arcs_in" "archrow.texts" 463 248),
 (253,kC "ties_shown" 509 108 1 250 181 251 .none .none .none 252 512 513),
 (254,kF dN "ties_shown" "archrow.texts" 463 253),
 (260,kC "pair_in" 515 110 1 255 181 256 .none (.ref 257) (.ref 258) 259 524 525),
 (261,kF gY "pair_in" "archrow.texts" 463 260),
 (265,kC "number_in" 527 115 2 262 181 263 .none .none .none 264 530 531),
 (266,kF e_ "number_in" "archrow.texts" 463 265),
 (272,kC "_law_cell_at" 535 122 2 267 181 268 .none (.ref 269) (.ref 270) 271 540 541),
 (273,kF oW "_law_cell_at" "law_archrow_k46_texts_there_and_back" 533 272),
 (279,kC "_law_stir" 543 126 2 274 181 275 .none (.ref 276) (.ref 277) 278 549 550),
 (280,kF fP "_law_stir" "law_archrow_k46_texts_there_and_back" 533 279),
 (286,kC "_law_digit" 552 129 3 281 181 282 .none (.ref 283) (.ref 284) 285 558 559),
 (287,kF fb "_law_digit" "law_archrow_k46_texts_there_and_back" 533 286),
 (293,kC "_law_row" 561 133 3 288 181 289 .none (.ref 290) (.ref 291) 292 572 573),
 (294,kF g6 "_law_row" "law_archrow_k46_texts_there_and_back" 533 293),
 (300,kC "_law_meet" 575 143 2 295 181 296 .none (.ref 297) (.ref 298) 299 580 581),
 (301,kF fQ "_law_meet" "law_archrow_k46_texts_there_and_back" 533 300),
 (305,kC "_law_set" 583 147 3 302 181 303 .none .none .none 304 586 587),
 (306,kF gZ "_law_set" "law_archrow_k46_texts_there_and_back" 533 305),
 (312,kC "_law_brackets" 589 155 2 307 181 308 .none (.ref 309) (.ref 310) 311 597 598),
 (313,kF cR "_law_brackets" "law_archrow_k46_texts_there_and_back" 533 312),
 (319,kC "_law_class" 600 161 1 314 181 315 .none (.ref 316) (.ref 317) 318 605 606),
 (320,kF fc "_law_class" "law_archrow_k46_texts_there_and_back" 533 319),
 (324,kC "_law_due" 608 166 1 321 181 322 .none .none .none 323 611 612),
 (325,kF g8 "_law_due" "law_archrow_k46_texts_there_and_back" 533 324),
 (331,kC "_law_written" 614 169 2 326 181 327 .none (.ref 328) (.ref 329) 330 621 622),
 (332,kF de "_law_written" "law_archrow_k46_texts_there_and_back" 533 331),
 (336,kC "_law_spoilt" 624 176 3 333 181 334 .none .none .none 335 627 628),
 (337,kF dP "_law_spoilt" "law_archrow_k46_texts_there_and_back" 533 336),
 (341,kC "_law_met" 630 199 3 338 181 339 .none .none .none 340 633 634),
 (342,kF g7 "_law_met" "law_archrow_k46_texts_there_and_back" 533 341),
 (346,kC "_law_spoilt_good" 636 210 3 343 181 344 .none .none .none 345 639 640),
 (347,kF b6 "_law_spoilt_good" "law_archrow_k46_texts_there_and_back" 533 346),
 (351,kC "law" 642 227 1 348 181 349 .none .none .none 350 645 646),
 (352,kF mL "law" "law_archrow_k46_texts_there_and_back" 533 351),
 (24,{cls:=.type "type",data:=.cls {name:="ArchError",bases:=[(.type "ValueError")],mro:=[(.ref 24),(.type "ValueError"),(.type "Exception"),(.type "BaseException"),(.type "object")],ns:=23,qualname:="ArchError",subclasses:=[(.ref 37),(.ref 49),(.ref 61),(.ref 73),(.ref 85),(.ref 97),(.ref 109),(.ref 121),(.ref 133),(.ref 145),(.ref 157),(.ref 169)]},slots:=#[some ((.ref 15)),none,some ((vS "ArchError" 189)),some ((vS "ArchError" 197)),some ((.builtin "ValueError.__new__")),some (.bool true)]}),
 (23,{cls:=.type "dict",data:=.dict #[kE P "__module__" 196 (vS "archrow.errors" 187),kE P "__firstlineno__" 200 (.int 2 199),kE P "__static_attributes__" 201 (.ref 22),kE P "__weakref__" 203 (.ref 25),kE P "__doc__" 204 .none] 3}),
 (37,kX "NoRow" 37 24 207),
 (36,kN P 37 207 187 4),
 (49,kX "NoTie" 49 24 223),
 (48,kN P 49 223 187 6),
 (61,kX "NoStretch" 61 24 239),
 (60,kN P 61 239 187 8),
 (73,kX "NoWeights" 73 24 255),
 (72,kN P 73 255 187 10),
 (85,kX "NoNumber" 85 24 271),
 (84,kN P 85 271 187 12),
 (97,kX "NoSet" 97 24 287),
 (96,kN P 97 287 187 14),
 (109,kX "NoGap" 109 24 303),
 (108,kN P 109 303 187 16),
 (121,kX "NoPlace" 121 24 319),
 (120,kN P 121 319 187 18),
 (133,kX "NoShape" 133 24 335),
 (132,kN P 133 335 187 20),
 (145,kX "NoText" 145 24 351),
 (144,kN P 145 351 187 22),
 (157,kX "NoForm" 157 24 367),
 (156,kN P 157 367 187 24),
 (169,kX "NoneYet" 169 24 383),
 (168,kN P 169 383 187 26)]
noncomputable abbrev HK:PySem.W.Hook:=PySem.W.kHook KK [3,175,176,182,183,189,190,196,197,203,204,210,211,217,218,222,223,229,230,236,237,241,242,248,249,253,254,260,261,265,266,272,273,279,280,286,287,293,294,300,301,305,306,312,313,319,320,324,325,331,332,336,337,341,342,346,347,351,352,24,23,37,36,49,48,61,60,73,72,85,84,97,96,109,108,121,120,133,132,145,144,157,156,169,168] (λ_=>by kernel_rfl)
noncomputable def view:Y0:={PySem.Challenge.pw_archrow_k46_texts_there_and_back with main:={PySem.Challenge.pw_archrow_k46_texts_there_and_back.main with body:=[top 1,top 2,top 3,top 4,top 5,top 6,top 7,top 8,top 9,top 10,top 11,top 12,top 13,top 15,top 16,top 17,top 18,top 19,top 20,top 21,top 23,top 24,top 25,top 26,top 27,top 28,top 29,top 30,top 31,top 32,top 34,top 35,top 36,top 37,top 38,top 39,top 40,top 41,top 42,top 43,top 44,top 45,top 46,top 47]}}
theorem left:PySem.W.LeftO PySem.Challenge.pw_archrow_k46_texts_there_and_back view [] (λs=>PySem.W.xlAt view [] s&&PySem.W.recOk (PySem.W.RowW.records PySem.Challenge.rw_archrow_k46_texts_there_and_back.row.toRowW) s) HK.obs HK.val 7428:=L2.Hd.zL (by kernel_rfl) (by kernel_rfl) (λ_=>rfl) (λw os=>by kernel_rfl)
end oO
namespace L2
open PySem PySem.Spec PyProof.Rows
abbrev Key:=Sum Int Str
def HC:Key->YU->Bool
 |.inl k,v=>Value.isInt k v
 |.inr x,v=>Value.isStrOf x v
def QZ (w:Zd):Key->Int
 |.inl k=>hashInt k
 |.inr x=>hashStr w x
theorem bz:∀{k:Key} {v:YU},HC k v=true->(∃i t,k=Sum.inl i/\v=Value.int i t)\/(∃x t,k=Sum.inr x/\v=Value.str x t)
 |.inl i,v,h=>by
  obtain⟨t,e⟩:=Value.isInt_shape (k:=i) (v:=v) h;exact .inl ⟨i,t,rfl,e⟩
 |.inr x,v,h=>by
  obtain⟨t,e⟩:=Value.isStrOf_shape (x:=x) (v:=v) h;exact .inr ⟨x,t,rfl,e⟩
theorem J_ (a b:Int):decide ((Sum.inl a:Key)=Sum.inl b)=(a==b):=by
 by_cases e:a=b
 ·subst e;simp
 ·have h:¬ (Sum.inl a:Key)=Sum.inl b:=λq=>e (Sum.inl.inj q);rw[decide_eq_false h];exact(beq_eq_false_iff_ne.mpr e).symm
theorem J7 (a b:Str):decide ((Sum.inr a:Key)=Sum.inr b)=decide (a=b):=by
 by_cases e:a=b
 ·subst e;simp
 ·have h:¬ (Sum.inr a:Key)=Sum.inr b:=λq=>e (Sum.inr.inj q);rw[decide_eq_false h,decide_eq_false e]
theorem J9 (a:Int)(b:Str):decide ((Sum.inl a:Key)=Sum.inr b)=false:=decide_eq_false (λq=>nomatch q)
theorem J8 (a:Str)(b:Int):decide ((Sum.inr a:Key)=Sum.inl b)=false:=decide_eq_false (λq=>nomatch q)
def rq (prog:Y0)(w:Zd):PySem.KeyKind prog w Key where
 is:=HC
 hash:=QZ w
 inj:=λv a b ha hb=>by
  rcases bz ha with⟨i,t,rfl,rfl⟩|⟨x,t,rfl,rfl⟩
  ·rcases bz hb with⟨j,u,rfl,e⟩|⟨y,u,rfl,e⟩
   ·injection e with e1 _;rw[e1]
   ·exact nomatch e
  ·rcases bz hb with⟨j,u,rfl,e⟩|⟨y,u,rfl,e⟩
   ·exact nomatch e
   ·injection e with e1 _;rw[e1]
 byValue:=λk v h=>by
  rcases bz h with⟨i,t,rfl,rfl⟩|⟨x,t,rfl,rfl⟩ <;> rfl
 pyHash:=λhv h=>by
  rcases bz hv with⟨i,t,rfl,rfl⟩|⟨x,t,rfl,rfl⟩
  ·exact wpAny_pyHash_int h
  ·exact wpAny_pyHash_str h
 eqBool:=λhu hv h=>by
  rcases bz hu with⟨i,t,rfl,rfl⟩|⟨x,t,rfl,rfl⟩
  ·rcases bz hv with⟨j,u,rfl,rfl⟩|⟨y,u,rfl,rfl⟩
   ·rw[J_]at h;exact wpAny_eqBool_int h
   ·rw[J9]at h;exact SeqAt.EqAt.int_str i t y u _ _ _ _ h
  ·rcases bz hv with⟨j,u,rfl,rfl⟩|⟨y,u,rfl,rfl⟩
   ·rw[J8]at h;exact SeqAt.EqAt.str_int x t j u _ _ _ _ h
   ·rw[J7]at h;exact wpAny_eqBool_str h
 «strs»:=λk x t v h=>by
  rcases bz h with⟨i,u,rfl,e⟩|⟨y,u,rfl,e⟩
  ·exact nomatch e
  ·injection e with e1 _
   subst e1;cases v <;> rfl
inductive V where
 |b_|bl (b:Bool)|int (i:Int)|str (x:Str)|OI (b:Array UInt8)|TN (b:UInt64)|ref (a:Addr)|ty (n:String)
 deriving DecidableEq
def RelV:V->YU->Prop
 |.b_,u=>u=Value.none
 |.bl b,u=>u=Value.bool b
 |.int i,u=>∃t,u=Value.int i t
 |.str x,u=>∃t,u=Value.str x t
 |.OI b,u=>∃t,u=Value.bytes b t
 |.TN b,u=>∃t,u=Value.float b t
 |.ref a,u=>u=Value.ref a
 |.ty n,u=>u=Value.type n
abbrev Vals:List V->List YU->Prop:=Paired RelV
theorem Vals.length {xs:List V}{us:List YU}(r:Vals xs us):xs.length=us.length:=Paired.length r
theorem Vals.get:∀{xs:List V} {us:List YU} {i:Nat} {x:V},Vals xs us->xs[i]?=some x->∃u,us[i]?=some u/\RelV x u
 |_,_,_,_,.nil,e=>by simp at e
 |_,_,0,_,.cons r _,e=>by simp at e;subst e;exact⟨_,rfl,r⟩
 |_,_,i+1,x,.cons _ t,e=>by
  obtain⟨u,h1,h2⟩:=Vals.get (i:=i) (x:=x) t (by simpa using e)
  exact⟨u,by simpa using h1,h2⟩
theorem Vals.set {x:V}{u:YU}(r:RelV x u):∀{xs:List V} {us:List YU} (i:Nat),Vals xs us->Vals (xs.set i x) (us.set i u)
 |_,_,_,.nil=>.nil
 |_,_,0,.cons _ t=>.cons r t
 |_,_,i+1,.cons q t=>.cons q (Vals.set r i t)
theorem Vals.append:∀{xs ys:List V} {us ws:List YU},Vals xs us->Vals ys ws->Vals (xs++ys) (us++ws):=by
 intro xs ys us ws h s
 induction h with
 |nil=>exact s
 |cons r t ih=>exact .cons r ih
theorem Vals.take:∀{xs:List V} {us:List YU} (n:Nat),Vals xs us->Vals (xs.take n) (us.take n)
 |_,_,0,_=>.nil
 |_,_,_+1,.nil=>.nil
 |_,_,n+1,.cons r t=>.cons r (Vals.take n t)
theorem Vals.drop:∀{xs:List V} {us:List YU} (n:Nat),Vals xs us->Vals (xs.drop n) (us.drop n)
 |_,_,0,r=>r
 |_,_,_+1,.nil=>.nil
 |_,_,n+1,.cons _ t=>Vals.drop n t
def ON:Option V->Option YU->Prop
 |some v,some u=>RelV v u
 |none,none=>True
 |_,_=>False
def KV {κ:Type}:List (κ×V)->List (κ×YU)->Prop:=Paired λ(p:κ×V) (q:κ×YU)=>p.1=q.1/\RelV p.2 q.2
def kV:Key->V
 |.inl i=>.int i
 |.inr x=>.str x
inductive HO where
 |lst (xs:List V)
 |tup (xs:List V)
 |dK (iD:List (Key×V))|dT (iD:List (List Key×V))
 |set (S:Int->Bool) (n:Nat)
 |ins (C dx:Addr) (fs:List (Str×V))
 |own (x:Addr)
 |xd (fs:List (Str×V))
 |met (f x:Addr)
 |O4 (lo hi:Int)
 |Dg (o:Obj) (u:HO)
 |Hh (ps:Array YU)
 |ext (φ:Heap->Prop)
abbrev Hp:=Addr->Option HO
def upd (H:Hp)(a:Addr)(o:HO):Hp:=λb=>if b=a then some o else H b
theorem aE {H:Hp}{a:Addr}{o:HO}:upd H a o a=some o:=by unfold upd;rw[if_pos rfl]
theorem ay {H:Hp}{a b:Addr}{o:HO}(h:b≠a):upd H a o b=H b:=by unfold upd;rw[if_neg h]
theorem Na {H:Hp}{a b:Addr}{o u:HO}(h:H a=some o)(h':H b=some u)(d:o≠u):a≠b:=by
 intro e;subst e;rw[h]at h';exact d (Zt h')
theorem cJ {H:Hp}{a b:Addr}{o:HO}(h:H a=some o)(h':H b=none):a≠b:=by
 intro e;subst e;rw[h]at h';cases h'
section
variable (P:Y0)(w:Zd)
def dv (H:Hp)(h:Heap)(a:Addr):HO->Prop
 |.lst xs=>xs.length<=Zf/\∃(its:List YU) (n:Nat),Vals xs its/\h.get? a=some {cls:=.type "list",data:=.seq its.toArray n}
 |.tup xs=>xs.length<=Zf/\∃its:List YU,Vals xs its/\IsTup h a its.toArray
 |.dK iD=>iD.length<=Zf/\(a==sysModules)=false/\∃vs,KV iD vs/\h.DictOf (rq P w) a vs
 |.dT iD=>iD.length<=Zf/\(a==sysModules)=false/\∃xs:List (List Key×Addr×YU),
   Paired (λ(p:List Key×V) (q:List Key×Addr×YU)=>p.1=q.1/\H q.2.1=some (.tup (p.1.map kV))/\RelV p.2 q.2.2) iD xs /\
   ∃o es ep,h.get? a=some o/\o.ExactDict/\o.data=.dict es ep/\es.toList=xs.map (entryOfKey (tupleKind (rq P w)))/\(xs.map (·.1)).Nodup
 |.set S n=>h.SetOf (intKind P w) a S n
 |.ins C dx fs=>H dx=some (.own a)/\fs.length<=1000/\dx≠a/\h.get? a=some (PySem.W.instObj C dx) /\
   ∃mA,h.Ns1 dx mA/\(∀f,ON (fs.lookup f) (mA f))/\PySem.Within mA (fs.map (·.1))
 |.own _=>∃o,h.get? a=some o
 |.xd fs=>∃mA,h.Ns1 a mA/\∀f,ON (fs.lookup f) (mA f)
 |.O4 lo hi=>∃t u v,h.get? a=some {cls:=.type "range",data:=.fields #[.int lo t,.int hi u,.int 1 v]}
 |.Dg o u=>h.get? a=some o/\dv H h a u
 |.Hh ps=>h.get? a=some {cls:=.none,data:=.fields ps}
 |.met f x=>h.get? a=some (PySem.W.methodObj (.ref f) (.ref x))
 |.ext φ=>φ h/\(∃o,h.get? a=some o)/\∀h1 h2:Heap,φ h1->(∀o,h1.get? a=some o->h2.get? a=some o)->φ h2
def iI (H:Hp)(h:Heap):Prop:=∀a o,H a=some o->dv P w H h a o
end
section
variable {P:Y0}{w:Zd}{H H':Hp}{h h':Heap}{a:Addr}{o:HO}
theorem dv.lt (x:dv P w H h a o):a<h.objs.size:=by
 cases o with
 |lst xs=>obtain⟨_,_,_,_,e⟩:=x;exact Za e
 |tup xs=>obtain⟨_,_,_,p⟩:=x;exact p.lt
 |dK iD=>obtain⟨_,_,_,_,o,_,_,e,_⟩:=x;exact Za e
 |dT iD=>obtain⟨_,_,_,_,o,_,_,e,_⟩:=x;exact Za e
 |set S n=>obtain⟨o,_,_,_,e,_⟩:=x;exact Za e
 |ins C dx fs=>obtain⟨_,_,_,e,_⟩:=x;exact Za e
 |own y=>obtain⟨_,e⟩:=x;exact Za e
 |xd fs=>obtain⟨_,⟨_,_,_,e,_⟩,_⟩:=x;exact Za e
 |O4 lo hi=>obtain⟨_,_,_,e⟩:=x;exact Za e
 |Dg ob u=>obtain⟨e,_⟩:=x;exact Za e
 |Hh ps=>exact Za (show h.get? a=some _ from x)
 |met f y=>exact Za (show h.get? a=some _ from x)
 |ext φ=>obtain⟨_,⟨_,e⟩,_⟩:=x;exact Za e
theorem Paired.QU {α β:Type}{F G:α->β->Prop}:∀{l₁:List α} {l₂:List β},Paired F l₁ l₂->(∀a b,F a b->G a b)->Paired G l₁ l₂:=by
 intro l₁ l₂ h f
 induction h with
 |nil=>exact .nil
 |cons r t ih=>exact .cons (f _ _ r) ih
theorem dv.jh (x:dv P w H h a o)(k:∀b u,(b=a\/H b=some (.own a))->h.get? b=some u->h'.get? b=some u)
  (ho:∀b,H b=some (.own a)->H' b=some (.own a)) (ht:∀b xs,H b=some (.tup xs)->H' b=some (.tup xs)):dv P w H' h' a o:=by
 induction o with
 |lst xs=>obtain⟨z,its,n,r,e⟩:=x;exact⟨z,its,n,r,k _ _ (.inl rfl) e⟩
 |tup xs=>obtain⟨z,its,r,ob,e,c⟩:=x;exact⟨z,its,r,ob,k _ _ (.inl rfl) e,c⟩
 |dK iD=>obtain⟨z,y,vs,r,ob,es,ep,e,c⟩:=x;exact⟨z,y,vs,r,ob,es,ep,k _ _ (.inl rfl) e,c⟩
 |dT iD =>
  obtain⟨z,y,xs,r,ob,es,ep,e,c⟩:=x;exact⟨z,y,xs,Paired.QU r λp q z=>⟨z.1,ht _ _ z.2.1,z.2.2⟩,ob,es,ep,k _ _ (.inl rfl) e,c⟩
 |set S n=>obtain⟨ob,es,ep,t,e,c⟩:=x;exact⟨ob,es,ep,t,k _ _ (.inl rfl) e,c⟩
 |ins C dx fs =>
  obtain⟨d,z,ne,e,mA,⟨od,es,ep,e2,c⟩,r⟩:=x;exact⟨ho _ d,z,ne,k _ _ (.inl rfl) e,mA,⟨od,es,ep,k _ _ (.inr d) e2,c⟩,r⟩
 |own y=>obtain⟨ob,e⟩:=x;exact⟨ob,k _ _ (.inl rfl) e⟩
 |xd fs=>obtain⟨mA,⟨od,es,ep,e,c⟩,r⟩:=x;exact⟨mA,⟨od,es,ep,k _ _ (.inl rfl) e,c⟩,r⟩
 |O4 lo hi=>obtain⟨t,u,v,e⟩:=x;exact⟨t,u,v,k _ _ (.inl rfl) e⟩
 |Dg ob u ih=>obtain⟨e,q⟩:=x;exact⟨k _ _ (.inl rfl) e,ih q⟩
 |Hh ps =>
  have e:h.get? a=some {cls:=.none,data:=.fields ps}:=x;show h'.get? a=some {cls:=.none,data:=.fields ps};exact k a _ (.inl rfl) e
 |met f y =>
  have e:h.get? a=some (PySem.W.methodObj (.ref f) (.ref y)):=x;show h'.get? a=some (PySem.W.methodObj (.ref f) (.ref y));exact k a _ (.inl rfl) e
 |ext φ=>obtain⟨p,⟨o,e⟩,st⟩:=x;exact⟨st _ _ p λo q=>k _ _ (.inl rfl) q,⟨o,k _ _ (.inl rfl) e⟩,st⟩
theorem iI.lt (x:iI P w H h)(e:H a=some o):a<h.objs.size:=(x a o e).lt
theorem iI.fresh (x:iI P w H h)(e:h.objs.size<=a):H a=none:=by
 cases q:H a with
 |none=>rfl
 |some u=>exact absurd (Zv (x.lt q) e) (aaU _)
theorem iI.kept (x:iI P w H h)(k:∀b u,h.get? b=some u->h'.get? b=some u):iI P w H h':=λa o e =>
 (x a o e).jh (λb u _ q=>k b u q) (λ_ q=>q) λ_ _ q=>q
theorem iI.laid (x:iI P w H h)(k:∀b u,h.get? b=some u->h'.get? b=some u)(hp:h.objs.size<=a)(new:dv P w (upd H a o) h' a o):iI P w (upd H a o) h':=λb u e=>by
 have hn:=x.fresh hp
 by_cases hb:b=a
 ·subst hb;rw[aE]at e;cases e;exact new
 ·rw[ay hb]at e;exact(x b u e).jh (λc v _ q=>k c v q) (λc q=>by rw[ay (cJ q hn)];exact q) λc xs q=>by rw[ay (cJ q hn)];exact q
end
def Rd (H:Hp)(a:Addr)(u:HO):Prop:=H a=some u\/∃o,H a=some (.Dg o u)
theorem Rd.ok {P:Y0}{w:Zd}{H:Hp}{h:Heap}{a:Addr}{u:HO}(r:Rd H a u)(x:iI P w H h):dv P w H h a u:=by
 rcases r with r|⟨o,r⟩
 ·exact x a u r
 ·obtain⟨_,q⟩:=x a _ r;exact q
def PH:Option HO->Prop
 |some (.lst _)=>True
 |some (.dK _)=>True
 |some (.dT _)=>True
 |some (.set _ _)=>True
 |some (.ins _ _ _)=>True
 |some (.ext _)=>True
 |_=>False
section
variable {P:Y0}{w:Zd}{H:Hp}{h h':Heap}{x e:Addr}{o':HO}
theorem iI.write (ok:iI P w H h)(mu:PH (H x))(he:e=x\/H e=some (.own x))(k:∀b u,b≠e->h.get? b=some u->h'.get? b=some u)(L4:∃u,h'.get? e=some u)
  (new:dv P w (upd H x o') h' x o'):iI P w (upd H x o') h':=λb u q=>by
 have M8:∀c y,H c=some (.own y)->c≠x:=λc y r z=>by subst z;rw[r]at mu;exact mu
 have QP:∀c xs,H c=some (.tup xs)->c≠x:=λc xs r z=>by subst z;rw[r]at mu;exact mu
 by_cases hb:b=x
 ·subst hb;rw[aE]at q;cases q;exact new
 ·rw[ay hb]at q
  by_cases K2:b=e
  ·have q':H b=some (.own x):=by
    rcases he with z|z
    ·exact absurd (K2.trans z) hb
    ·rw[K2];exact z
   rw[q]at q';cases q';obtain⟨v,hv⟩:=L4;exact⟨v,by rw[K2];exact hv⟩
  ·refine(ok b u q).jh (λc v hc r=>k c v ?_ r) (λc r=>by rw[ay (M8 c b r)];exact r) λc xs r=>by rw[ay (QP c xs r)];exact r
   rcases hc with rfl|hc
   ·exact K2
   ·rintro rfl;rcases he with z|z
    ·exact M8 c b hc z
    ·rw[hc]at z;cases z;exact hb rfl
end
structure Un (fs ex:List Addr)(H H':Hp)(h h':Heap):Prop where
 keep:∀b o,h.get? b=some o->H b=none->b∉fs->b∉ex->h'.get? b=some o
 slot:∀b o,h.get? b=some o->H b=none->b∈fs->b∉ex->∃sl,h'.get? b=some {o with slots:=sl}
 free:∀b o,h.get? b=some o->H b=none->b∉ex->H' b=none
 there:∀b o,h.get? b=some o->b∉ex->∃o',h'.get? b=some o'
 iJ:∀b xs,H b=some (.tup xs)->H' b=some (.tup xs)
 iq:∀b o u,H b=some (.Dg o u)->H' b=some (.Dg o u)
 iK:∀b ps,H b=some (.Hh ps)->∃more,H' b=some (.Hh (ps++more))
section
variable {fs ex:List Addr}{H H1:Hp}{h h1 h':Heap}{a x e:Addr}{o:HO}
theorem Un.any (u:Un fs ex H H1 h h1){b:Addr}{ob:Obj}(q:h.get? b=some ob)(n:H b=none)(hx:b∉ex):∃sl,h1.get? b=some {ob with slots:=sl}:=by
 by_cases hb:b∈fs
 ·exact u.slot b ob q n hb hx
 ·exact⟨ob.slots,u.keep b ob q n hb hx⟩
theorem Un.kept (k:∀b u,h.get? b=some u->h'.get? b=some u):Un fs ex H H h h' :=
 ⟨λb ob q _ _ _=>k b ob q,λb ob q _ _ _=>⟨ob.slots,k b ob q⟩,λ_ _ _ n _=>n,λb ob q _=>⟨ob,k b ob q⟩,λ_ _ q=>q,λ_ _ _ q=>q,λ_ ps q=>⟨#[],by rw[q];simp⟩⟩
theorem Un.refl:Un fs ex H H h h:=Un.kept λ_ _ q=>q
theorem Un.laid (k:∀b u,h.get? b=some u->h'.get? b=some u)(hp:h.objs.size<=a)(hn:H a=none):Un fs ex H (upd H a o) h h' where
 keep:=λb u q _ _ _=>k b u q
 slot:=λb u q _ _ _=>⟨u.slots,k b u q⟩
 free:=λb u q n _=>by rw[ay (Zu (Zv (Za q) hp))];exact n
 there:=λb u q _=>⟨u,k b u q⟩
 iJ:=λb xs q=>by rw[ay (cJ q hn)];exact q
 iq:=λb u xs q=>by rw[ay (cJ q hn)];exact q
 iK:=λb ps q=>⟨#[],by rw[ay (cJ q hn),q];simp⟩
theorem Un.write (mu:PH (H x))(he:e=x\/H e=some (.own x))(k:∀b u,b≠e->h.get? b=some u->h'.get? b=some u)(L4:∃u,h'.get? e=some u):Un fs ex H (upd H x o) h h':=by
 have hx:∀b,H b=none->b≠x:=λb n z=>by subst z;rw[n]at mu;exact mu
 have hb:∀b,H b=none->b≠e:=λb n z=>by
  subst z;rcases he with r|r
  ·exact hx b n r
  ·rw[n]at r;cases r
 have hm:∀b u,H b=some u->¬ PH (some u)->b≠x:=λb u q nm z=>by subst z;rw[q]at mu;exact nm mu
 refine⟨λb u q n _ _=>k b u (hb b n) q,λb u q n _ _=>⟨u.slots,k b u (hb b n) q⟩,λb u q n _=>by rw[ay (hx b n)];exact n,λb u q _=>?_,
  λb xs q=>by rw[ay (hm b _ q λz=>z)];exact q,λb u xs q=>by rw[ay (hm b _ q λz=>z)];exact q,λb ps q=>⟨#[],by rw[ay (hm b _ q λz=>z),q];simp⟩⟩
 by_cases K2:b=e
 ·subst K2;exact L4
 ·exact⟨u,k b u K2 q⟩
end
def LP (h:Heap)(H:Hp):List Addr:=(Zi h.objs.size).filter λa=>(H a).isSome
def rE (h:Heap)(H:Hp):Heap:=PySem.W.hideAll h (LP h H)
theorem zX (h:Heap)(H:Hp):(rE h H).objs.size=h.objs.size:=PySem.W.hideAll_size _ _
theorem C6 {h:Heap}{H:Hp}{b:Addr}{o:Obj}(e:h.get? b=some o)(n:H b=none):(rE h H).get? b=some o :=
 PySem.W.hideAll_get _ e λhm=>by
  have q:(H b).isSome=true:=(abp.mp hm).2;rw[n]at q;simp at q
theorem FN {h:Heap}{H:Hp}{b:Addr}{o:Obj}(e:(rE h H).get? b=some o):h.get? b=some o/\H b=none:=by
 have e':h.get? b=some o:=PySem.W.of_hideAll (LP h H) e;refine⟨e',?_⟩;cases q:H b with
 |none=>rfl
 |some x =>
  have hm:b∈LP h H:=abp.mpr ⟨ZJ.mpr (Za e'),by simp[q]⟩
  have z:(rE h H).get? b=none:=PySem.W.hideAll_none (LP h H) hm;rw[z]at e;cases e
structure Mod (K:PySem.W.Frag)(mg:Str->Option YU)(base:Heap):Prop where
 LU:K.In base
 glob:base.Ns aaM mg
 blt:∃mb,base.Ns builtinsNs mb/\∀x:Str,x≠"__name__" -> mb x=ZY x
 nolimit:base.NoLimit
structure Cx where
 prog:Y0
 w:Zd
 K:PySem.W.Frag
 mg:Str->Option YU
 base:Heap
 A:ZQ
 N:List Str
 s₀:YW
 H₀:Hp
 env:Env
 outer:List Env
 stack:List Env
 ex:List Addr
 fn:Str->Bool
 calm:Bool
 pn:List (Addr×Obj)
 xe:YU->YW->Prop
def gx (l:List Env):List Addr:=l.filterMap (·.frame)
abbrev Cx.fs (X:Cx):List Addr:=gx X.outer
def Mc (sc:abz)(x:Str):Prop:=sc.names.lookup x=some .local\/sc.names.lookup x=some .cell\/sc.names.lookup x=some .free
def Loc (sc:abz)(x:Str):Prop:=sc.names.lookup x=some .local\/sc.names.lookup x=some .cell
def Look (env:Env)(h:Heap)(m:Str->Option YU)(x:Str)(u:YU):Prop :=
 (env.kindOf x=some .local/\m x=some u)\/((env.kindOf x=some .cell\/env.kindOf x=some .free)/\∃c,env.cells.lookup x=some c/\h.IsCell c (some u))
structure Cx.Ok (X:Cx):Prop where
 mod:Mod X.K X.mg X.base
 kind:X.env.scope.kind=.function
 glob:X.env.globals=aaM
 blt:X.env.builtins=builtinsNs
 above:X.s₀.heap.objs.size<=X.env.locals
 inj:∀x y c,X.env.cells.lookup x=some c->X.env.cells.lookup y=some c->x=y
 has:∀x,(X.env.kindOf x=some .cell\/X.env.kindOf x=some .free)->∃c,X.env.cells.lookup x=some c
 GW:∀x c,X.fn x=true->X.env.cells.lookup x=some c->X.s₀.heap.objs.size<=c
 hd:X.calm=true->X.A.handled=none
 frames:X.A.frames=some X.stack
 Hk:X.stack=X.outer\/(X.stack=X.env::X.outer/\X.env.frame=some X.env.locals)
 HS:∀b∈X.ex,b≠X.env.locals/\∀x c,X.env.cells.lookup x=some c->c≠b
 bs:∀b o,X.base.get? b=some o->X.s₀.heap.get? b=some o/\X.H₀ b=none
 Aq:X.base.objs.size<=X.s₀.heap.objs.size
 rj:∀b o,X.base.get? b=some o->b∉X.ex
 rJ:∀b∈X.ex,b∉X.fs
 ip:X.s₀.heap.FunFrames X.base X.outer
 Dh:∀b∈X.fs,X.H₀ b=none
structure Inv (X:Cx)(pins:List (Addr×Obj))(σ:List (Option V))(H:Hp)(s:YW):Prop where
 ok:X.Ok
 os:s.os=X.s₀.os
 bare:aco s.gens
 base:Un X.fs X.ex X.H₀ H X.s₀.heap s.heap
 loc:∃m,s.heap.Ns X.env.locals m/\∀(i:Nat) (x:Str) (v:V),X.N[i]?=some x->σ[i]?=some (some v)->Mc X.env.scope x->∃u,RelV v u/\Look X.env s.heap m x u
 cell:∀x c,X.env.cells.lookup x=some c->∃v,s.heap.IsCell c v
 free:H X.env.locals=none
 dq:∀x c,X.env.cells.lookup x=some c->H c=none
 pin:∀p∈X.pn++pins,s.heap.get? p.1=some p.2/\H p.1=none/\p.1≠X.env.locals/\p.1∉X.fs/\∀v,p.2.data≠.cell v
 bu:iI X.prog X.w H s.heap
 len:σ.length=X.N.length
section
variable {X:Cx}{pins:List (Addr×Obj)}{σ:List (Option V)}{H H':Hp}{s:YW}{h':Heap}
theorem Cx.Ok.JU (ok:X.Ok){b:Addr}{o:Obj}(e:X.base.get? b=some o):b∉X.fs:=λhb=>by
 have:=(ok.ip.mem hb).1;rw[e]at this;cases this
theorem Inv.bs (I:Inv X pins σ H s):∀b o,X.base.get? b=some o->s.heap.get? b=some o/\H b=none:=λb o e =>
 ⟨I.base.keep b o (I.ok.bs b o e).1 (I.ok.bs b o e).2 (I.ok.JU e) (I.ok.rj b o e),I.base.free b o (I.ok.bs b o e).1 (I.ok.bs b o e).2 (I.ok.rj b o e)⟩
theorem Inv.bk (I:Inv X pins σ H s):∀b o,X.base.get? b=some o->s.heap.get? b=some o:=λb o e=>(I.bs b o e).1
theorem Inv.mod (I:Inv X pins σ H s):Mod X.K X.mg X.base:=I.ok.mod
theorem Inv.zO (I:Inv X pins σ H s):X.K.In s.heap:=I.ok.mod.LU.keeps I.bk
theorem Inv.lt (I:Inv X pins σ H s):X.env.locals<s.heap.objs.size:=let ⟨_,hn,_⟩:=I.loc;hn.lt
theorem Inv.sz (I:Inv X pins σ H s):X.s₀.heap.objs.size<=s.heap.objs.size:=ZO I.ok.above (Nat.le_of_lt I.lt)
theorem Inv.QQ (I:Inv X pins σ H s){a:Addr}(h:s.heap.objs.size<=a):a∉X.fs:=λhb=>by
 obtain⟨_,o,ho,_⟩:=I.ok.ip.mem hb;exact absurd (Zv (Za ho) (ZO I.sz h)) (aaU _)
theorem Inv.DM (I:Inv X pins σ H s):∀x c,X.env.cells.lookup x=some c->c≠X.env.locals:=λx c e z=>by
 obtain⟨v,o,ho,hd⟩:=I.cell x c e;obtain⟨m,⟨o',es,ep,zV,XB,_⟩,_⟩:=I.loc;rw[z,zV]at ho;cases ho;rw[XB]at hd;cases hd
theorem Inv.ip (I:Inv X pins σ H s):s.heap.FunFrames X.base X.outer:=by
 have all:∀(l:List Env),(∀b∈gx l,b∈X.fs)->X.s₀.heap.FunFrames X.base l->s.heap.FunFrames X.base l:=by
  intro l
  induction l with
  |nil=>intro _ _;trivial
  |cons env r ih =>
   intro hs hl;obtain⟨hk,⟨L,o,hf,hn,ho,hd⟩,hr⟩:=hl;have hL:L∈X.fs:=hs L (by unfold gx;rw[ZN,hf];exact Y8)
   obtain⟨sl,e⟩:=I.base.slot L o ho (I.ok.Dh L hL) hL λz=>I.ok.rJ L z hL;exact⟨hk,⟨L,_,hf,hn,e,hd⟩,ih (λb hb=>hs b (by unfold gx;rw[ZN,hf];exact Y7 _ hb)) hr⟩
 exact all X.outer (λ_ hb=>hb) I.ok.ip
theorem Inv.stack (I:Inv X pins σ H s):s.heap.FunFrames X.base X.stack:=by
 rcases I.ok.Hk with e|⟨e,hf⟩
 ·rw[e];exact I.ip
 ·rw[e];obtain⟨m,hn,_⟩:=I.loc;refine .cons (by rw[I.ok.kind];decide) hf hn ?_ I.ip
  exact Heap.get?_none_of_le (ZO I.ok.Aq I.ok.above)
theorem Inv.vK (I:Inv X pins σ H s):∀b∈gx X.stack,b∈X.env.locals::X.fs:=λb hb=>by
 rcases I.ok.Hk with e|⟨e,hf⟩
 ·rw[e]at hb;exact Y7 _ hb
 ·rw[e]at hb;unfold gx at hb;rw[ZN,hf]at hb;exact hb
theorem Inv.qM (I:Inv X pins σ H s):∀b∈gx X.stack,H b=none:=λb hb=>by
 rcases Y4.mp (I.vK b hb)with e|hb
 ·rw[e];exact I.free
 ·obtain⟨_,o,ho,_⟩:=I.ok.ip.mem hb;exact I.base.free b o ho (I.ok.Dh b hb) λz=>I.ok.rJ b z hb
theorem Inv.step {g':Array GenState}{t':Nat}{d':Drawn}{ch:List Addr}(I:Inv X pins σ H s)
  (EA:∀b∈ch,(b∈X.ex\/X.s₀.heap.objs.size<=b)/\b≠X.env.locals/\(∀x c,X.env.cells.lookup x=some c->c≠b)/\∀p∈X.pn++pins,p.1≠b)
  (keep:∀b o,b≠X.env.locals->b∉X.fs->b∉ch->s.heap.get? b=some o->H b=none->h'.get? b=some o)
  (slot:∀b o,b≠X.env.locals->b∈X.fs->b∉ch->s.heap.get? b=some o->H b=none->∃sl,h'.get? b=some {o with slots:=sl}) (free:∀b o,b∉ch->s.heap.get? b=some o->H b=none->H' b=none)
  (there:∀b o,b∉ch->s.heap.get? b=some o->∃o',h'.get? b=some o')
  (iJ:∀b xs,H b=some (.tup xs)->H' b=some (.tup xs)) (iq:∀b o u,H b=some (.Dg o u)->H' b=some (.Dg o u)) (iK:∀b ps,H b=some (.Hh ps)->∃more,H' b=some (.Hh (ps++more)))
  (ns:∀m,s.heap.Ns X.env.locals m->h'.Ns X.env.locals m) (bu:iI X.prog X.w H' h') (hg:aco g') :
  Inv X pins σ H' {s with heap:=h',gens:=g',drawn:=d',toks:=t'}:=by
 have UU:∀b o,X.s₀.heap.get? b=some o->b≠X.env.locals:=λb o e=>Zu (Zv (Za e) I.ok.above);have O7:∀b o,X.s₀.heap.get? b=some o->b∉X.ex->b∉ch:=λb o e hx hb=>by
  rcases (EA b hb).1 with z|z
  ·exact hx z
  ·exact absurd (Zv (Za e) z) (aaU _)
 have cellK:∀x c,X.env.cells.lookup x=some c->∀v,s.heap.IsCell c v->h'.IsCell c v:=λx c e v lQ=>by
  obtain⟨o,ho,hd⟩:=lQ;have Nf:c∉ch:=λz=>(EA c z).2.2.1 x c e rfl
  by_cases hc:c∈X.fs
  ·obtain⟨sl,q⟩:=slot c o (I.DM x c e) hc Nf ho (I.dq x c e);exact⟨_,q,hd⟩
  ·exact⟨o,keep c o (I.DM x c e) hc Nf ho (I.dq x c e),hd⟩
 refine⟨I.ok,I.os,hg,⟨λb o e n hb hx=>?_,λb o e n hb hx=>?_,λb o e n hx=>?_,λb o e hx=>?_,λb xs e=>iJ b xs (I.base.iJ b xs e),λb o xs e=>iq b o xs (I.base.iq b o xs e),λb ps e=>?_⟩,?_,λx c e=>?_,?_,λx c e=>?_,λp hp=>?_,bu,I.len⟩
 ·exact keep b o (UU b o e) hb (O7 b o e hx) (I.base.keep b o e n hb hx) (I.base.free b o e n hx)
 ·obtain⟨sl,e1⟩:=I.base.slot b o e n hb hx;obtain⟨xr,e2⟩:=slot b _ (UU b o e) hb (O7 b o e hx) e1 (I.base.free b o e n hx);exact⟨xr,e2⟩
 ·obtain⟨o',e1⟩:=I.base.there b o e hx;exact free b o' (O7 b o e hx) e1 (I.base.free b o e n hx)
 ·obtain⟨o',e1⟩:=I.base.there b o e hx;exact there b o' (O7 b o e hx) e1
 ·obtain⟨m1,e1⟩:=I.base.iK b ps e;obtain⟨m2,e2⟩:=iK b _ e1;exact⟨m1++m2,by rw[e2,Array.append_assoc]⟩
 ·obtain⟨m,hn,hl⟩:=I.loc;refine⟨m,ns m hn,λi x v e1 e2 e3=>?_⟩;obtain⟨u,r,l⟩:=hl i x v e1 e2 e3;refine⟨u,r,?_⟩;rcases l with l|⟨k,c,e,z⟩
  ·exact .inl l
  ·exact .inr ⟨k,c,e,cellK x c e _ z⟩
 ·obtain⟨v,z⟩:=I.cell x c e;exact⟨v,cellK x c e v z⟩
 ·obtain⟨m,⟨o,_,_,ho,_⟩,_⟩:=I.loc;exact free _ o (λz=>(EA _ z).2.1 rfl) ho I.free
 ·obtain⟨v,o,ho,hd⟩:=I.cell x c e;exact free c o (λz=>(EA c z).2.2.1 x c e rfl) ho (I.dq x c e)
 ·obtain⟨e,n,ne,nf,d⟩:=I.pin p hp;have Nf:p.1∉ch:=λz=>(EA p.1 z).2.2.2 p hp rfl;exact⟨keep p.1 p.2 ne nf Nf e n,free p.1 p.2 Nf e n,ne,nf,d⟩
theorem Inv.un {t':Nat}(I:Inv X pins σ H s)(u:Un X.fs [] H H' s.heap h')(bu:iI X.prog X.w H' h'):Inv X pins σ H' {s with heap:=h',toks:=t'}:=by
 obtain⟨m,⟨o,es,ep,ho,r⟩,_⟩:=id I.loc;obtain⟨sl,hL⟩:=u.any ho I.free (by simp)
 exact I.step (g':=s.gens) (d':=s.drawn) (ch:=[]) (λ_ z=>nomatch z) (λb o _ hb _ e n=>u.keep b o e n hb (by simp)) (λb o _ hb _ e n=>u.slot b o e n hb (by simp)) (λb o _ e n=>u.free b o e n (by simp)) (λb o _ e=>u.there b o e (by simp)) u.iJ u.iq u.iK (λm' hm=>by
  obtain⟨o',fk,rL,zV,r'⟩:=hm;rw[ho]at zV;cases zV;exact⟨_,fk,rL,hL,r'⟩) bu I.bare
theorem Inv.call {g':Array GenState}{t':Nat}{d':Drawn}{ch:List Addr}(I:Inv X pins σ H s)(u:Un (gx X.stack) ch H H' s.heap h')(bu:iI X.prog X.w H' h')(hg:aco g')
  (EA:∀b∈ch,(b∈X.ex\/X.s₀.heap.objs.size<=b)/\b≠X.env.locals/\(∀x c,X.env.cells.lookup x=some c->c≠b)/\∀p∈X.pn++pins,p.1≠b) :
  Inv X pins σ H' {s with heap:=h',gens:=g',drawn:=d',toks:=t'}:=by
 obtain⟨m,⟨o,es,ep,ho,r⟩,_⟩:=id I.loc;obtain⟨sl,hL⟩:=u.any ho I.free λz=>(EA _ z).2.1 rfl;exact I.step (ch:=ch) EA (λb o hL hb hc e n=>u.keep b o e n (λz=>(Y4.mp (I.vK b z)).elim hL hb) hc) (λb o _ _ hc e n=>u.any e n hc) (λb o hc e n=>u.free b o e n hc) (λb o hc e=>u.there b o e hc) u.iJ u.iq u.iK (λm' hm=>by
  obtain⟨o',fk,rL,zV,r'⟩:=hm;rw[ho]at zV;cases zV;exact⟨_,fk,rL,hL,r'⟩) bu hg
theorem Inv.turned {t':Nat}{it:Addr}(I:Inv X pins σ H s)(k:∀b o,b≠it->s.heap.get? b=some o->h'.get? b=some o)(hn:H it=none)(hL:it≠X.env.locals)
  (h1:it∈X.ex\/X.s₀.heap.objs.size<=it) (h2:∀x c,X.env.cells.lookup x=some c->c≠it) (h3:∀p∈X.pn++pins,p.1≠it):Inv X pins σ H {s with heap:=h',toks:=t'}:=by
 have UT:∀b u,H b=some u->b≠it:=λb u e z=>by rw[z,hn]at e;cases e
 refine I.step (g':=s.gens) (d':=s.drawn) (ch:=[it]) (λb hb=>?_) (λb o _ _ hc e _=>k b o (λz=>hc (by simp[z])) e) (λb o _ _ hc e _=>⟨o.slots,k b o (λz=>hc (by simp[z])) e⟩) (λ_ _ _ _ n=>n)
  (λb o hc e=>⟨o,k b o (λz=>hc (by simp[z])) e⟩) (λ_ _ e=>e) (λ_ _ _ e=>e) (λb ps e=>⟨#[],by rw[e];simp⟩) (λm hm=>?_) (λb u e=>?_) I.bare
 ·have e:b=it:=by simpa using hb
  subst e;exact⟨h1,hL,h2,h3⟩
 ·obtain⟨o,es,ep,ho,r⟩:=hm;exact⟨o,es,ep,k _ o (abP hL) ho,r⟩
 ·refine(I.bu b u e).jh (λc v hc q=>k c v ?_ q) (λ_ q=>q) λ_ _ q=>q;rcases hc with z|z
  ·rw[z];exact UT b u e
  ·exact UT c _ z
theorem Inv.tok (I:Inv X pins σ H s)(t:Nat):Inv X pins σ H {s with toks:=t}:=I.un (h':=s.heap) (t':=t) Un.refl I.bu
theorem Inv.kept {t':Nat}(I:Inv X pins σ H s)(k:∀b u,s.heap.get? b=some u->h'.get? b=some u):Inv X pins σ H {s with heap:=h',toks:=t'}:=I.un (Un.kept k) (I.bu.kept k)
theorem Inv.laid {a:Addr}{o:HO}{t':Nat}(I:Inv X pins σ H s)(k:∀b u,s.heap.get? b=some u->h'.get? b=some u)(hp:s.heap.objs.size<=a)(new:dv X.prog X.w (upd H a o) h' a o):
  Inv X pins σ (upd H a o) {s with heap:=h',toks:=t'}:=I.un (Un.laid k hp (I.bu.fresh hp)) (I.bu.laid k hp new)
theorem Inv.write {x e:Addr}{o:HO}{t':Nat}(I:Inv X pins σ H s)(mu:PH (H x))(he:e=x\/H e=some (.own x))(k:∀b u,b≠e->s.heap.get? b=some u->h'.get? b=some u)(L4:∃u,h'.get? e=some u)
  (new:dv X.prog X.w (upd H x o) h' x o):Inv X pins σ (upd H x o) {s with heap:=h',toks:=t'}:=I.un (Un.write mu he k L4) (I.bu.write mu he k L4 new)
theorem Inv.xO {gH:List (Addr×Obj)}(I:Inv X pins σ H s)(h:∀p∈gH,s.heap.get? p.1=some p.2/\H p.1=none/\p.1≠X.env.locals/\p.1∉X.fs/\∀v,p.2.data≠.cell v):Inv X gH σ H s :=
 ⟨I.ok,I.os,I.bare,I.base,I.loc,I.cell,I.free,I.dq,λp hp=>(Zb.mp hp).elim (λz=>I.pin p (Z8 _ z)) (h p),I.bu,I.len⟩
theorem m9 {N:List Str}(hN:N.Nodup){i j:Nat}{x:Str}(a:N[i]?=some x)(b:N[j]?=some x):i=j:=by
 obtain⟨h1,e1⟩:=Y_.mp a;obtain⟨h2,e2⟩:=Y_.mp b;exact(List.getElem_inj hN).mp (e1.trans e2.symm)
theorem pG {M:Model}{A:ZQ}{E:YU->YW->Prop}{i:Nat}{x:Str}{v:V}{u:YU}{Q:Unit->YW->Prop}(I:Inv X pins σ H s)(hN:X.N.Nodup)(hi:X.N[i]?=some x)(hx:Loc X.env.scope x)(r:RelV v u)
  (h:∀s',Inv X pins (σ.set i (some v)) H s'->(∃a,abg a s.heap s'.heap/\(a=X.env.locals\/X.env.cells.lookup x=some a))->Q () s') (hf:X.fn x=true\/X.env.scope.names.lookup x=some .local:=by first|exact .inl rfl|exact .inr rfl|assumption):Zr M A (storeName X.env x u) Q E s:=by
 obtain⟨m,hn,hl⟩:=id I.loc;have K1:(X.env.scope.kind==.class || (X.env.scope.kind==.module&&X.env.locals != X.env.globals))=false:=by rw[I.ok.kind];rfl
 have N2:i<σ.length:=by rw[I.len];exact(Y_.mp hi).1
 have DM:=I.DM;have tracked:∀{a:Addr} {h':Heap},(∃o,s.heap.get? a=some o/\H a=none)->abg a s.heap h'->iI X.prog X.w H h':=λ{a h'} ha hs b ob e=>by
  obtain⟨_,_,HH⟩:=ha;refine(I.bu b ob e).jh (λc w' hc q=>(hs.2 c ?_).trans q) (λ_ q=>q) λ_ _ q=>q;rintro rfl;rcases hc with rfl|hc
  ·rw[HH]at e;cases e
  ·rw[HH]at hc;cases hc
 rcases hx with hk|hk
 ·refine wpAny_storeName_local hk hn (λh' Gk hs=>?_) K1;obtain⟨oL,_,_,Vf,_⟩:=id hn;refine h _ ⟨I.ok,I.os,I.bare,⟨λb o e n hb hx=>?_,λb o e n hb hx=>?_,I.base.free,λb o e hx=>?_,I.base.iJ,I.base.iq,I.base.iK⟩,⟨_,Gk,λj y v' e1 e2 e3=>?_⟩,λy c e=>?_,I.free,I.dq,λp hp=>?_,tracked ⟨oL,Vf,I.free⟩ hs,by simpa using I.len⟩ ⟨_,hs,.inl rfl⟩
  ·exact(hs.2 b (Zu (Zv (Za e) I.ok.above))).trans (I.base.keep b o e n hb hx)
  ·obtain⟨sl,e1⟩:=I.base.slot b o e n hb hx;exact⟨sl,(hs.2 b (Zu (Zv (Za e) I.ok.above))).trans e1⟩
  ·obtain⟨o',e1⟩:=I.base.there b o e hx;exact⟨o',(hs.2 b (Zu (Zv (Za e) I.ok.above))).trans e1⟩
  ·by_cases hj:j=i
   ·subst hj;rw[hi]at e1;cases e1;rw[List.getElem?_set_self N2]at e2;cases e2;exact⟨u,r,.inl ⟨hk,by simp⟩⟩
   ·rw[List.getElem?_set_ne (abP hj)]at e2;obtain⟨u',r',q⟩:=hl j y v' e1 e2 e3;refine⟨u',r',?_⟩;rcases q with⟨k,e⟩|⟨k,c,e,z⟩
    ·refine .inl ⟨k,?_⟩;have:y≠x:=λe=>hj (m9 hN e1 (e▸hi));simp[this,e]
    ·exact .inr ⟨k,c,e,z.sameBut hs (DM y c e)⟩
  ·obtain⟨w',z⟩:=I.cell y c e;exact⟨w',z.sameBut hs (DM y c e)⟩
  ·obtain⟨e,n,ne,nf,d⟩:=I.pin p hp;exact⟨(hs.2 p.1 ne).trans e,n,ne,nf,d⟩
 ·have Tp:X.fn x=true:=by
   rcases hf with z|z
   ·exact z
   ·rw[z]at hk;cases hk
  obtain⟨c,hc⟩:=I.ok.has x (.inl hk);obtain⟨w',z⟩:=I.cell x c hc;refine wpAny_storeName_cell I.ok.kind hk hc z (λh' rF hs=>?_);obtain⟨oc,KP,S5⟩:=id z;refine h {s with heap:=h'} ⟨I.ok,I.os,I.bare,⟨λb o e n hb hx=>?_,λb o e n hb hx=>?_,I.base.free,λb o e hx=>?_,I.base.iJ,I.base.iq,I.base.iK⟩,⟨m,hn.sameBut hs (abP (DM x c hc)),λj y v' e1 e2 e3=>?_⟩,λy c' e=>?_,I.free,I.dq,λp hp=>?_,tracked ⟨oc,KP,I.dq x c hc⟩ hs,by simpa using I.len⟩ ⟨c,hs,.inr hc⟩
  ·exact(hs.2 b (Zu (Zv (Za e) (I.ok.GW x c Tp hc)))).trans (I.base.keep b o e n hb hx)
  ·obtain⟨sl,e1⟩:=I.base.slot b o e n hb hx;exact⟨sl,(hs.2 b (Zu (Zv (Za e) (I.ok.GW x c Tp hc)))).trans e1⟩
  ·obtain⟨o',e1⟩:=I.base.there b o e hx;exact⟨o',(hs.2 b (Zu (Zv (Za e) (I.ok.GW x c Tp hc)))).trans e1⟩
  ·by_cases hj:j=i
   ·subst hj;rw[hi]at e1;cases e1;rw[List.getElem?_set_self N2]at e2;cases e2;exact⟨u,r,.inr ⟨.inl hk,c,hc,rF⟩⟩
   ·rw[List.getElem?_set_ne (abP hj)]at e2;obtain⟨u',r',q⟩:=hl j y v' e1 e2 e3;refine⟨u',r',?_⟩;rcases q with q|⟨k,c',e,z'⟩
    ·exact .inl q
    ·refine .inr ⟨k,c',e,z'.sameBut hs ?_⟩;rintro rfl;exact hj (m9 hN e1 (I.ok.inj _ _ _ e hc▸hi))
  ·by_cases Gp:c'=c
   ·subst Gp;exact⟨_,rF⟩
   ·obtain⟨w2,z2⟩:=I.cell y c' e;exact⟨w2,z2.sameBut hs Gp⟩
  ·obtain⟨e,n,ne,nf,d⟩:=I.pin p hp;refine⟨(hs.2 p.1 ?_).trans e,n,ne,nf,d⟩;intro q;rw[q,KP]at e;have q':oc=p.2:=Zt e;exact d w' (by rw[<- q'];exact S5)
theorem mB {M:Model}{A:ZQ}{E:YU->YW->Prop}{i:Nat}{x:Str}{v:V}{u:YU}{Q:Unit->YW->Prop}(I:Inv X pins σ H s)(hN:X.N.Nodup)(hi:X.N[i]?=some x)(hx:Loc X.env.scope x)(r:RelV v u)
  (h:∀s',Inv X pins (σ.set i (some v)) H s'->Q () s') (hf:X.fn x=true\/X.env.scope.names.lookup x=some .local:=by first|exact .inl rfl|exact .inr rfl|assumption):Zr M A (storeName X.env x u) Q E s :=
 pG I hN hi hx r (λs' I' _=>h s' I') hf
theorem Inv.Ii {s':YW}{ch:List Addr}(I:Inv X pins σ H s)(ho:s'.os=s.os)(u:Un (gx X.stack) ch H H' s.heap s'.heap)(bu:iI X.prog X.w H' s'.heap)(hg:aco s'.gens)
  (EA:∀b∈ch,(b∈X.ex\/X.s₀.heap.objs.size<=b)/\b≠X.env.locals/\(∀x c,X.env.cells.lookup x=some c->c≠b)/\∀p∈X.pn++pins,p.1≠b):Inv X pins σ H' s':=by
 obtain⟨h',g',d',t',o'⟩:=s';have e:o'=s.os:=ho;subst e;exact I.call (g':=g') (t':=t') (d':=d') u bu hg EA
end
abbrev XK:=YU->Option Addr->Hp->Prop
abbrev St:=List (Option V)
abbrev VK:=V->Hp->Prop
abbrev TE:=St->Hp->VK->Prop
abbrev TT:=St->Hp->(Bool->Hp->Prop)->Prop
abbrev TA:=St->Hp->(List V->Hp->Prop)->Prop
structure Ends where
 nx:St->Hp->Prop
 rt:VK
 bk:St->Hp->Prop:=λ_ _=>False
 ct:St->Hp->Prop:=λ_ _=>False
abbrev TS:=Ends->St->Hp->Prop
def EP (X:Cx)(pins:List (Addr×Obj))(σ:St)(Q:VK)(u:YU)(s':YW):Prop:=∃v H',Inv X pins σ H' s'/\RelV v u/\Q v H'
def TP (X:Cx)(pins:List (Addr×Obj))(σ:St)(Q:Bool->Hp->Prop)(b:Bool)(s':YW):Prop:=∃H',Inv X pins σ H' s'/\Q b H'
def AP (X:Cx)(pins:List (Addr×Obj))(σ:St)(Q:List V->Hp->Prop)(us:List YU)(s':YW):Prop:=∃vs H',Inv X pins σ H' s'/\Vals vs us/\Q vs H'
def SP (X:Cx)(pins:List (Addr×Obj))(D:Ends)(f:Flow)(s':YW):Prop :=
 match f with
 |.next=>∃σ' H',Inv X pins σ' H' s'/\D.nx σ' H'
 |.brk=>∃σ' H',Inv X pins σ' H' s'/\D.bk σ' H'
 |.cont=>∃σ' H',Inv X pins σ' H' s'/\D.ct σ' H'
 |.ret u=>∃v σ' H',Inv X pins σ' H' s'/\RelV v u/\D.rt v H'
def PE (X:Cx)(e:Expr)(t:TE):Prop :=
 ∀(pins:List (Addr×Obj)) (s:YW) (σ:St) (H:Hp) (Q:VK),Inv X pins σ H s->t σ H Q->Zr (model X.prog X.w) X.A (eval e X.env) (EP X pins σ Q) X.xe s
def PT (X:Cx)(e:Expr)(t:TT):Prop :=
 ∀(pins:List (Addr×Obj)) (s:YW) (σ:St) (H:Hp) (Q:Bool->Hp->Prop),Inv X pins σ H s->t σ H Q->Zr (model X.prog X.w) X.A (isTrue e X.env (eval e X.env)) (TP X pins σ Q) X.xe s
def PW (X:Cx)(e:Expr)(t:TT):Prop :=
 ∀(whole:Sem YU) (pins:List (Addr×Obj)) (s:YW) (σ:St) (H:Hp) (Q:Bool->Hp->Prop),Inv X pins σ H s->t σ H Q->Zr (model X.prog X.w) X.A (isTrue e X.env whole) (TP X pins σ Q) X.xe s
theorem PW.pt {X:Cx}{e:Expr}{t:TT}(h:PW X e t):PT X e t:=h _
def PA (X:Cx)(es:List Expr)(t:TA):Prop :=
 ∀(pos:Pos) (pins:List (Addr×Obj)) (s:YW) (σ:St) (H:Hp) (Q:List V->Hp->Prop),Inv X pins σ H s->t σ H Q->Zr (model X.prog X.w) X.A (spliced (aaw pos (Ze es X.env))) (AP X pins σ Q) X.xe s
def PS (X:Cx)(st:Stmt)(t:TS):Prop :=
 ∀(pins:List (Addr×Obj)) (s:YW) (σ:St) (H:Hp) (D:Ends),Inv X pins σ H s->t D σ H->Zr (model X.prog X.w) X.A (exec st X.env) (SP X pins D) X.xe s
def sv (X:Cx)(st:List Stmt)(t:TS):Prop :=
 ∀(pins:List (Addr×Obj)) (s:YW) (σ:St) (H:Hp) (D:Ends),Inv X pins σ H s->t D σ H->Zr (model X.prog X.w) X.A (execs st X.env) (SP X pins D) X.xe s
theorem bE {α:Type}{t:Sem α}{Q Q':α->YW->Prop}{M:Model}{A:ZQ}{E:YU->YW->Prop}{s:YW}(h:Zr M A t Q E s)(hQ:∀a s,Q a s->Q' a s):Zr M A t Q' E s:=aa8 h hQ λ_ _ x=>x
section
variable {X:Cx}
def II (i:Nat):TE:=λσ H Q=>∃v,σ[i]?=some (some v)/\Q v H
def tC (v:V):TE:=λ_ H Q=>Q v H
theorem BI {i:Nat} {x:Str} {pos:Pos} (hN:X.N[i]?=some x) (hv:Mc X.env.scope x) (hd:(x==("__debug__" : Str))=false:=by decide) (yj:(x==("__classdict__" : Str))=false:=by decide):PE X (.Name x pos) (II i):=by
 intro pins s σ H Q I h;obtain⟨v,e,h⟩:=h;obtain⟨m,hn,hl⟩:=I.loc;obtain⟨u,r,l⟩:=hl i x v hN e hv;have fin:EP X pins σ Q u s:=⟨v,H,I,r,h⟩;rcases l with⟨hk,hm⟩|⟨hk,c,hc,qd⟩
 ·exact wpAny_Name (wpAny_loadName_local I.ok.kind hk hn hm fin) hd
 ·rcases hk with hk|hk
  ·exact wpAny_Name (wpAny_loadName_cell I.ok.kind hk hc qd fin) hd
  ·exact wpAny_Name (wpAny_loadName_free I.ok.kind hk hc qd fin yj) hd
theorem mV {i j pos}:PE X (.Constant (.int i) j pos) (tC (.int i)):=λ_ _ _ H _ I h=>wpAny_Constant_int ⟨.int i,H,I.tok _,⟨_,rfl⟩,h⟩
theorem Ht {b j pos}:PE X (.Constant (.bool b) j pos) (tC (.bl b)):=λ_ _ _ H _ I h=>Constant_bool ⟨.bl b,H,I,rfl,h⟩
theorem Jq {j pos}:PE X (.Constant .none j pos) (tC .b_):=λ_ _ _ H _ I h=>Constant_none ⟨.b_,H,I,rfl,h⟩
theorem BK {x j pos}:PE X (.Constant (.str x) j pos) (tC (.str x)):=λ_ _ _ H _ I h=>Calls.Constant_str ⟨.str x,H,I.tok _,⟨_,rfl⟩,h⟩
def Gl (X:Cx)(x:Str):Prop:=X.env.kindOf x=some .globalImplicit
theorem h_ {E:YU->YW->Prop}{pins:List (Addr×Obj)}{s:YW}{σ:St}{H:Hp}{x:Str}{u:YU}{pos:Pos}{Q:YU->YW->Prop}(I:Inv X pins σ H s)(hg:Gl X x)(hm:X.mg x=some u)(h:Q u s)
  (hd:(x==("__debug__" : Str))=false:=by decide):Zr (model X.prog X.w) X.A (eval (.Name x pos) X.env) Q E s :=
 Calls.Name_function_global I.ok.kind hg (Calls.loadGlobal_global (by rw[I.ok.glob];exact I.mod.glob.keeps I.bk) hm h) hd
theorem nB {E:YU->YW->Prop}{pins:List (Addr×Obj)}{s:YW}{σ:St}{H:Hp}{x:Str}{u:YU}{pos:Pos}{Q:YU->YW->Prop}(I:Inv X pins σ H s)(hg:Gl X x)(hm:X.mg x=none)(hv:ZY x=some u)(h:Q u s)
  (hn:x≠"__name__" := by decide) (hd:(x==("__debug__" : Str))=false:=by decide):Zr (model X.prog X.w) X.A (eval (.Name x pos) X.env) Q E s:=by
 obtain⟨mb,h1,h2⟩:=I.mod.blt;exact Calls.Name_function_global I.ok.kind hg (Calls.loadGlobal_builtin (by rw[I.ok.glob];exact I.mod.glob.keeps I.bk) hm (by rw[I.ok.blt];exact h1.keeps I.bk) ((h2 x hn).trans hv) h) hd
theorem q_ {x:Str} {v:V} {u:YU} {pos:Pos} (hg:Gl X x) (hm:X.mg x=some u) (r:RelV v u) (hd:(x==("__debug__" : Str))=false:=by decide):PE X (.Name x pos) (tC v) :=
 λ_ _ _ H _ I h=>h_ I hg hm ⟨v,H,I,r,h⟩ hd
theorem Fp {x:Str} {v:V} {u:YU} {pos:Pos} (hg:Gl X x) (hm:X.mg x=none) (hv:ZY x=some u) (r:RelV v u) (hn:x≠"__name__" := by decide) (hd:(x==("__debug__" : Str))=false:=by decide):PE X (.Name x pos) (tC v) :=
 λ_ _ _ H _ I h=>nB I hg hm hv ⟨v,H,I,r,h⟩ hn hd
variable {a b:Expr}{ta tb:TE}{pos:Pos}
theorem tW (b:Expr){op:abT}(h:op≠.In)(h2:op≠.NotIn):abO op b=false:=by
 have e1:(op==CmpOp.In)=false:=by cases op <;> first|rfl|exact absurd rfl h
 have e2:(op==CmpOp.NotIn)=false:=by cases op <;> first|rfl|exact absurd rfl h2
 cases b <;> simp[abO,e1,e2]
def tB (t:TE):TT:=λσ H Q=>t σ H λx H1=>∃c,x=.bl c/\Q c H1
theorem Jf {e:Expr}{t:TE}(h:PE X e t)(he:∀whole,isTrue e X.env whole=(do let v <- whole;standAt e.pos;holding [v] (truthy v)):=by intro _;rfl):PT X e (tB t):=by
 intro pins s σ H Q I hw;refine isTrue_plain (bE (h pins s σ H _ I hw) λv s1 WY=>?_) (he _);obtain⟨x,H1,I1,r1,q1⟩:=WY;obtain⟨d,rfl,q⟩:=q1;cases r1;exact aau ⟨H1,I1,q⟩
variable {tA OZ:TT}{rest:List Expr}
def Qh (t u:TT):TT:=λσ H Q=>t σ H λc H1=>if c=true then u σ H1 Q else Q false H1
def V3 (t u:TT):TT:=λσ H Q=>t σ H λc H1=>if c=true then Q true H1 else u σ H1 Q
def Qa (t:TT):TT:=λσ H Q=>t σ H λc H1=>Q (!c) H1
theorem pw_and1 (ha:PT X a tA):PW X (.BoolOp .And [a] pos) tA:=by
 intro wh pins s σ H Q I h;refine isTrue_and (bE (ha pins s σ H Q I h) λc s1 e=>?_);cases c with
 |true=>exact isTrue_and_nil e
 |false=>exact e
theorem pw_or1 (ha:PT X a tA):PW X (.BoolOp .Or [a] pos) tA:=by
 intro wh pins s σ H Q I h;refine isTrue_or (bE (ha pins s σ H Q I h) λc s1 e=>?_);cases c with
 |false=>exact isTrue_or_nil e
 |true=>exact e
theorem pw_and (ha:PT X a tA)(hb:PW X (.BoolOp .And (b::rest) pos) OZ):PW X (.BoolOp .And (a::b::rest) pos) (Qh tA OZ):=by
 intro wh pins s σ H Q I h;refine isTrue_and (bE (ha pins s σ H _ I h) λc s1 WX=>?_);obtain⟨H1,I1,q1⟩:=WX;cases c with
 |true=>exact hb wh pins s1 σ H1 Q I1 q1
 |false=>exact⟨H1,I1,q1⟩
theorem pw_or (ha:PT X a tA)(hb:PW X (.BoolOp .Or (b::rest) pos) OZ):PW X (.BoolOp .Or (a::b::rest) pos) (V3 tA OZ):=by
 intro wh pins s σ H Q I h;refine isTrue_or (bE (ha pins s σ H _ I h) λc s1 WW=>?_);obtain⟨H1,I1,q1⟩:=WW;cases c with
 |true=>exact⟨H1,I1,q1⟩
 |false=>exact hb wh pins s1 σ H1 Q I1 q1
theorem Jg (ha:PT X a tA):PT X (.UnaryOp .Not a pos) (Qa tA):=by
 intro pins s σ H Q I h;exact isTrue_not (ha pins s σ H (λc H1=>Q (!c) H1) I h)
def P_ (ta tb:TE):TE:=λσ H Q=>ta σ H λx H1=>∃c,x=.bl c/\if c=true then Q (.bl true) H1 else tb σ H1 Q
def Mu (ta:TE):TE:=λσ H Q=>ta σ H λx H1=>∃c,x=.bl c/\Q (.bl (!c)) H1
theorem Jo {op}{t:TE}(h:PE X a t):PE X (.BoolOp op [a] pos) t:=λpins s σ H Q I hw=>BoolOp_one (h pins s σ H Q I hw)
theorem MY (ha:PE X a ta)(hb:PE X (.BoolOp .Or (b::rest) pos) tb):PE X (.BoolOp .Or (a::b::rest) pos) (P_ ta tb):=by
 intro pins s σ H Q I h;refine BoolOp_or (bE (ha pins s σ H _ I h) λv s1 RA=>?_);obtain⟨x,H1,I1,r1,q1⟩:=RA;obtain⟨c,rfl,q1⟩:=q1;cases r1;refine aau ?_;cases c with
 |false=>exact hb pins s1 σ H1 Q I1 q1
 |true=>exact⟨.bl true,H1,I1,rfl,q1⟩
theorem Jp (ha:PE X a ta):PE X (.UnaryOp .Not a pos) (Mu ta):=by
 intro pins s σ H Q I h;refine UnaryOp_ (bE (ha pins s σ H _ I h) λv s1 Rz=>?_);obtain⟨x,H1,I1,r1,q1⟩:=Rz;obtain⟨c,rfl,q1⟩:=q1;cases r1;exact not_of (aau ⟨.bl (!c),H1,I1,rfl,q1⟩)
def V4 (t:TT)(ta tb:TE):TE:=λσ H Q=>t σ H λc H1=>if c=true then ta σ H1 Q else tb σ H1 Q
theorem BN {c:Expr}(hc:PT X c tA)(ha:PE X a ta)(hb:PE X b tb):PE X (.IfExp c a b pos) (V4 tA ta tb):=by
 intro pins s σ H Q I h;refine wpAny_IfExp (bE (hc pins s σ H _ I h) λd s1 Ry=>?_);obtain⟨H1,I1,q1⟩:=Ry;cases d with
 |true=>exact ha pins s1 σ H1 Q I1 q1
 |false=>exact hb pins s1 σ H1 Q I1 q1
end
def dC (K:PySem.W.Frag)(H:Hp)(a:Addr)(xs:List V):Prop :=
 Rd H a (.lst xs) \/
  ∃(o:Obj) (its:Array YU) (n:Nat),K.lookup a=some o/\o.cls=.type "list" /\ o.dict=none/\o.data=.seq its n/\its.size<=Zf/\Vals xs its.toList
def su (K:PySem.W.Frag)(H:Hp)(a:Addr)(xs:List V):Prop :=
 Rd H a (.tup xs) \/
  ∃(o:Obj) (its:Array YU) (n:Nat),K.lookup a=some o/\o.cls=.type "tuple" /\ o.data=.seq its n/\its.size<=Zf/\Vals xs its.toList
noncomputable def T_:YU->Option V
 |.none=>some .b_
 |.bool b=>some (.bl b)
 |.int i _=>some (.int i)
 |.str x _=>some (.str x)
 |.bytes b _=>some (.OI b)
 |.float b _=>some (.TN b)
 |.ref a=>some (.ref a)
 |.type n=>some (.ty n)
 |_=>none
theorem RelV.abs {x:V}{u:YU}(r:RelV x u):T_ u=some x:=by
 cases x with
 |b_=>cases r;rfl
 |bl _=>cases r;rfl
 |int _=>obtain⟨t,rfl⟩:=r;rfl
 |str _=>obtain⟨t,rfl⟩:=r;rfl
 |OI _=>obtain⟨t,rfl⟩:=r;rfl
 |TN _=>obtain⟨t,rfl⟩:=r;rfl
 |ref _=>cases r;rfl
 |ty _=>cases r;rfl
theorem RelV.inj {x y:V}{u:YU}(r:RelV x u)(q:RelV y u):x=y:=Zt (r.abs.symm.trans q.abs)
theorem Vals.inj:∀{xs ys:List V} {us:List YU},Vals xs us->Vals ys us->xs=ys:=by
 intro xs ys us h
 induction h generalizing ys with
 |nil =>
  intro q;cases q;rfl
 |cons r t ih =>
  intro q;cases q with
  |cons r' t'=>rw[r.inj r',ih t']
section
variable {X:Cx}{pins:List (Addr×Obj)}{σ:St}{H:Hp}{s:YW}{a:Addr}{xs ys:List V}
theorem dC.of {K:PySem.W.Frag}(h:H a=some (.lst xs)):dC K H a xs:=.inl (.inl h)
theorem su.of {K:PySem.W.Frag}(h:H a=some (.tup xs)):su K H a xs:=.inl (.inl h)
theorem Inv.list (I:Inv X pins σ H s)(h:dC X.K H a xs):∃its:List YU,Vals xs its/\PlainL s.heap a its.toArray/\xs.length<=Zf:=by
 rcases h with h|⟨o,its,n,hk,hc,hd,hs,hz,r⟩
 ·obtain⟨z,its,n,r,e⟩:=h.ok I.bu;exact⟨its,r,⟨_,n,e,rfl,rfl,rfl⟩,z⟩
 ·refine⟨its.toList,r,⟨o,n,I.zO a o hk,hc,hd,by simpa using hs⟩,?_⟩
  have e:=r.length;simp only[Y6]at e;lia
theorem Inv.tuple (I:Inv X pins σ H s)(h:su X.K H a xs):∃its:List YU,Vals xs its/\IsTup s.heap a its.toArray/\xs.length<=Zf:=by
 rcases h with h|⟨o,its,n,hk,hc,hs,hz,r⟩
 ·obtain⟨z,its,r,p⟩:=h.ok I.bu;exact⟨its,r,p,z⟩
 ·refine⟨its.toList,r,⟨o,I.zO a o hk,hc,n,by simpa using hs⟩,?_⟩
  have e:=r.length;simp only[Y6]at e;lia
theorem Inv.Cw (I:Inv X pins σ H s)(h:dC X.K H a xs)(h':dC X.K H a ys):xs=ys:=by
 obtain⟨its,r,⟨o,n,e,_,_,d⟩,_⟩:=I.list h;obtain⟨its',r',⟨o',n',e',_,_,d'⟩,_⟩:=I.list h';rw[e]at e';cases e';rw[d]at d';injection d' with d1 _
 have:its=its':=by simpa using congrArg Array.toList d1
 subst this;exact r.inj r'
end
noncomputable abbrev Cx.me (X:Cx)(E:YU->YW->Prop):Cx:={X with xe:=E}
abbrev Cx.Cg (X:Cx):Cx:=X.me λ_ _=>False
theorem Cx.Ok.me {X:Cx}(ok:X.Ok)(E:YU->YW->Prop):(X.me E).Ok :=
 ⟨ok.mod,ok.kind,ok.glob,ok.blt,ok.above,ok.inj,ok.has,ok.GW,ok.hd,ok.frames,ok.Hk,ok.HS,ok.bs,ok.Aq,ok.rj,ok.rJ,ok.ip,ok.Dh⟩
theorem Cx.Ok.fJ {X:Cx}{E:YU->YW->Prop}(ok:(X.me E).Ok):X.Ok :=
 ⟨ok.mod,ok.kind,ok.glob,ok.blt,ok.above,ok.inj,ok.has,ok.GW,ok.hd,ok.frames,ok.Hk,ok.HS,ok.bs,ok.Aq,ok.rj,ok.rJ,ok.ip,ok.Dh⟩
section
variable {X:Cx}{pins:List (Addr×Obj)}{σ:St}{H:Hp}{s:YW}{E:YU->YW->Prop}
theorem Inv.me (I:Inv X pins σ H s)(E:YU->YW->Prop):Inv (X.me E) pins σ H s:=⟨I.ok.me E,I.os,I.bare,I.base,I.loc,I.cell,I.free,I.dq,I.pin,I.bu,I.len⟩
theorem Inv.fJ (I:Inv (X.me E) pins σ H s):Inv X pins σ H s:=⟨I.ok.fJ,I.os,I.bare,I.base,I.loc,I.cell,I.free,I.dq,I.pin,I.bu,I.len⟩
theorem SP.fJ {D:Ends}{f:Flow}{s':YW}(h:SP (X.me E) pins D f s'):SP X pins D f s':=by
 cases f with
 |next=>obtain⟨σ',H',I,q⟩:=h;exact⟨σ',H',I.fJ,q⟩
 |brk=>obtain⟨σ',H',I,q⟩:=h;exact⟨σ',H',I.fJ,q⟩
 |cont=>obtain⟨σ',H',I,q⟩:=h;exact⟨σ',H',I.fJ,q⟩
 |ret u=>obtain⟨v,σ',H',I,r,q⟩:=h;exact⟨v,σ',H',I.fJ,r,q⟩
theorem sv.Cg {st:List Stmt}{t:TS}(h:sv X.Cg st t):sv X st t:=λpins s σ H D I hw =>
 aa8 (h pins s σ H D (I.me _) hw) (λ_ _ q=>q.fJ) λ_ _ z=>aaj z
end
section
variable {X:Cx}{st:Stmt}{rest:List Stmt}{t u:TS}{e:Expr}{te:TE}{pos:Pos}
def Mw:TS:=λD σ H=>D.nx σ H
def P8 (t u:TS):TS:=λD σ H=>t {D with nx:=u D} σ H
theorem Fg:sv X [] Mw:=λ_ _ σ H _ I h=>wpAny_execs_nil ⟨σ,H,I,h⟩
theorem mR (h1:PS X st t)(h2:sv X rest u):sv X (st::rest) (P8 t u):=by
 intro pins s σ H D I h;refine wpAny_execs_cons (bE (h1 pins s σ H {D with nx:=u D} I h) λf s1 q=>?_)
 cases f with
 |next =>
  obtain⟨σ',H',I',q⟩:=q;exact h2 pins s1 σ' H' D I' q
 |ret v=>exact q
 |brk=>exact q
 |cont=>exact q
theorem qX (h1:PS X st t):sv X [st] t:=by
 intro pins s σ H D I h;refine wpAny_execs_cons (bE (h1 pins s σ H D I h) λf s1 q=>?_);cases f with
 |next=>exact wpAny_execs_nil q
 |ret v=>exact q
 |brk=>exact q
 |cont=>exact q
theorem Inv.quiet {pins:List (Addr×Obj)}{σ:St}{H:Hp}{s:YW}(I:Inv X pins σ H s):interactive X.env=false:=by simp[interactive,I.ok.kind]
def Mx (te:TE):TS:=λD σ H=>te σ H λ_ H1=>D.nx σ H1
theorem qY (he:PE X e te)(hs:abx e none pos.line X.env=pure false:=by rfl):PS X (.Expr e pos) (Mx te):=by
 intro pins s σ H D I h;exact wpAny_Expr_any (bE (he pins s σ H _ I h) λv s1 CZ=>by obtain⟨x,H1,I1,r1,q1⟩:=CZ;exact⟨σ,H1,I1,q1⟩) I.quiet hs
def P9 (te:TE):TS:=λD σ H=>te σ H D.rt
theorem vV (he:PE X e te):PS X (.Return (some e) pos) (P9 te):=by
 intro pins s σ H D I h;exact wpAny_Return_some (bE (he pins s σ H _ I h) λv s1 CY=>by obtain⟨x,H1,I1,r1,q1⟩:=CY;exact⟨x,σ,H1,I1,r1,q1⟩)
def Qc (c:TT)(t u:TS):TS:=λD σ H=>c σ H λb H1=>if b=true then t D σ H1 else u D σ H1
theorem MV {c:Expr}{a b:List Stmt}{tc:TT}(hc:PT X c tc)(ha:sv X a t)(hb:sv X b u):PS X (.If c a b pos) (Qc tc t u):=by
 intro pins s σ H D I h;refine wpAny_If (bE (hc pins s σ H _ I h) λd s1 Rx=>?_);obtain⟨H1,I1,q1⟩:=Rx;cases d with
 |true=>exact ha pins s1 σ H1 D I1 q1
 |false=>exact hb pins s1 σ H1 D I1 q1
def IJ:TS:=λ_ _ _=>False
theorem zt {V9:List Stmt}:sv X V9 IJ:=λ_ _ _ _ _ _ h=>h.elim
end
abbrev TG:=V->St->Hp->(St->Hp->Prop)->Prop
abbrev G7:=List V->St->Hp->(St->Hp->Prop)->Prop
def PG (X:Cx)(target:Expr)(t:TG):Prop :=
 ∀(pins:List (Addr×Obj)) (s:YW) (σ:St) (H:Hp) (v:V) (u:YU) (Q:St->Hp->Prop),Inv X pins σ H s->RelV v u->t v σ H Q ->
  Zr (model X.prog X.w) X.A (assign target X.env u) (λ_ s'=>∃σ' H',Inv X pins σ' H' s'/\Q σ' H') X.xe s
def Ha (X:Cx)(ts:List Expr)(t:G7):Prop :=
 ∀(pins:List (Addr×Obj)) (s:YW) (σ:St) (H:Hp) (vs:List V) (us:List YU) (Q:St->Hp->Prop),Inv X pins σ H s->Vals vs us->t vs σ H Q ->
  Zr (model X.prog X.w) X.A (assignInOrder ((aac ts X.env).map (·.2)) us) (λ_ s'=>∃σ' H',Inv X pins σ' H' s'/\Q σ' H') X.xe s
abbrev LH:=V->V->V->Hp->(Hp->Prop)->Prop
def OP (X:Cx)(t:LH):Prop :=
 ∀(pins:List (Addr×Obj)) (s:YW) (σ:St) (H:Hp) (o i v:V) (ov iv u:YU) (Q:Hp->Prop),Inv X pins σ H s->RelV o ov->RelV i iv->RelV v u->t o i v H Q ->
  Zr (model X.prog X.w) X.A (setItem ov iv u) (λ_ s'=>∃H',Inv X pins σ H' s'/\Q H') X.xe s
section
variable {X:Cx}{pos:Pos}
def HN (i:Nat):TG:=λv σ H Q=>Q (σ.set i (some v)) H
theorem qZ {i:Nat}{x:Str}(hN:X.N.Nodup)(hi:X.N[i]?=some x)(hx:Loc X.env.scope x)(hf:X.fn x=true\/X.env.scope.names.lookup x=some .local:=by first|exact .inl rfl|exact .inr rfl|assumption):PG X (.Name x pos) (HN i):=by
 intro pins s σ H v u Q I r h;exact wpAny_assign_Name (mB I hN hi hx r (λs' I'=>⟨_,H,I',h⟩) hf)
def K3:G7:=λvs σ H Q=>vs=[]/\Q σ H
def Dc (t:TG)(u:G7):G7:=λvs σ H Q=>∃v r,vs=v::r/\t v σ H λσ' H'=>u r σ' H' Q
theorem Fm:Ha X [] K3:=by
 intro pins s σ H vs us Q I r h;obtain⟨e,h⟩:=h;subst e;cases r;exact assignInOrder_nil ⟨σ,H,I,h⟩
theorem BG {e:Expr}{es:List Expr}{t:TG}{u:G7}(h1:PG X e t)(h2:Ha X es u)
  (hs:(aac (e::es) X.env).map (·.2)=assign e X.env::(aac es X.env).map (·.2):=by rfl):Ha X (e::es) (Dc t u):=by
 intro pins s σ H vs us Q I r h;obtain⟨v,vr,e1,h⟩:=h;subst e1;cases r with
 |cons r rr =>
  rw[hs];refine assignInOrder_cons (bE (h1 pins s σ H _ _ _ I r h) λ_ s1 Rv=>?_);obtain⟨σ1,H1,I1,q1⟩:=Rv;exact h2 pins s1 σ1 H1 _ _ Q I1 rr q1
def TF (K:PySem.W.Frag)(n:Nat)(t:G7):TG:=λv σ H Q=>∃a xs,v=.ref a/\su K H a xs/\xs.length=n/\t xs σ H Q
theorem Jk {es:List Expr}{k:Nat}{t:G7}{n:Nat}(hc:X.calm=true)(h:Ha X es t)
  (hn:(aac es X.env).length=n:=by rfl) (lP:(aac es X.env).findIdx? (·.1)=none:=by rfl):PG X (.Tuple es k pos) (TF X.K n t):=by
 intro pins s σ H v u Q I r hw;obtain⟨a,xs,e1,hq,hl,hw⟩:=hw;subst e1;cases r;obtain⟨its,rv,ht,hz⟩:=I.tuple hq;refine assign_Tuple_tuple (I.ok.hd hc) ht (by simp[hn,<- hl,rv.length]) lP λh' hx=>?_
 have I1:Inv X pins σ H {s with heap:=h'}:=I.kept (t':=s.toks) λb o e=>hx b o (Zu (Za e)) e
 exact h pins _ σ H xs _ Q I1 (by simpa using rv) hw
def TH (to ti:TE)(t:LH):TG:=λv σ H Q=>to σ H λo H1=>ti σ H1 λi H2=>t o i v H2 λH3=>Q σ H3
theorem Jl {o i:Expr}{to ti:TE}{t:LH}(ho:PE X o to)(hi:PE X i ti)(hs:OP X t)
  (ha:∀v,assign (.Subscript o i pos) X.env v=(do
   let ov <- holding [v] (eval o X.env)
   let iv <- holding [v,ov] (eval i X.env)
   standAt pos
   holding [v,ov,iv] (setItem ov iv v)
   release [v,ov,iv] []):=by intro _;rfl):PG X (.Subscript o i pos) (TH to ti t):=by
 intro pins s σ H v u Q I r h;rw[ha];refine YV (ZW (bE (ho pins s σ H _ I h) λov s1 Ru=>?_));obtain⟨x,H1,I1,r1,q1⟩:=Ru;refine YV (ZW (bE (hi pins s1 σ H1 _ I1 q1) λiv s2 Rt=>?_));obtain⟨y,H2,I2,r2,q2⟩:=Rt;refine YV (aaT (YV (ZW (bE (hs pins s2 σ H2 x y v ov iv u _ I2 r1 r2 r q2) λ_ s3 Rr=>?_))));obtain⟨H3,I3,q3⟩:=Rr;exact wpAny_release ⟨σ,H3,I3,q3⟩
def My (te:TE)(g:TG):TS:=λD σ H=>te σ H λx H1=>g x σ H1 D.nx
theorem vW {tg e:Expr}{te:TE}{g:TG}(he:PE X e te)(hg:PG X tg g)(hs:swapsWithSole [tg] e pos.line X.env=pure false:=by rfl)(hw:swappedStores [tg] e X.env=pure none:=by rfl)
  (h1:(aac [tg] X.env).map (·.2)=[assign tg X.env]:=by rfl):PS X (.Assign [tg] e pos) (My te g):=by
 intro pins s σ H D I h;refine wpAny_Assign_stores (bE (he pins s σ H _ I h) λv s1 Rq=>?_) hs hw;obtain⟨x,H1,I1,r1,q1⟩:=Rq;rw[h1];exact bE (hg pins s1 σ H1 x v _ I1 r1 q1) λ_ s2 q=>q
theorem vU {i:Nat}{x:Str}{e:Expr}{te:TE}{pos':Pos}(hN:X.N.Nodup)(hi:X.N[i]?=some x)(hx:Loc X.env.scope x)(he:PE X e te)(hs:abx e (some (.Name x pos')) pos.line X.env=pure false:=by rfl)(hf:X.fn x=true\/X.env.scope.names.lookup x=some .local:=by first|exact .inl rfl|exact .inr rfl|assumption):
  PS X (.Assign [.Name x pos'] e pos) (My te (HN i)):=by
 intro pins s σ H D I h;refine wpAny_Assign_Name (bE (he pins s σ H _ I h) λv s1 Ro=>?_) hs;obtain⟨y,H1,I1,r1,q1⟩:=Ro;exact mB I1 hN hi hx r1 (λs2 I2=>⟨_,H1,I2,q1⟩) hf
end
section
end
structure It where
 go:Nat->Hp->Prop
 Mi:Nat->Hp->V->Hp->Prop
 stop:Nat->Hp->Prop
def gS (X:Cx)(pins:List (Addr×Obj))(H:Hp)(b:Addr):Prop :=
 H b=none/\b≠X.env.locals/\b∉X.fs/\(b∈X.ex\/X.s₀.heap.objs.size<=b)/\(∀x c,X.env.cells.lookup x=some c->c≠b)/\∀p∈X.pn++pins,p.1≠b
theorem Inv.Di {X:Cx}{pins:List (Addr×Obj)}{σ:St}{H H':Hp}{s:YW}{b:Addr}(I:Inv X pins σ H s)(hb:s.heap.objs.size<=b)(hn:H' b=none):gS X pins H' b:=by
 refine⟨hn,Nat.ne_of_gt (Zv I.lt hb),I.QQ hb,.inr (ZO I.sz hb),λx c e z=>?_,λp hp z=>?_⟩
 ·obtain⟨v,q⟩:=I.cell x c e;exact absurd (Zv q.lt (by rw[z];exact hb)) (aaU _)
 ·exact absurd (Zv (Za (I.pin p hp).1) (by rw[z];exact hb)) (aaU _)
structure Turn (P:Y0)(w:Zd)(K:PySem.W.Frag)(tg:Expr)(J:It)(fp:List Addr)(it:Addr)(tn:Nat->Heap->Prop):Prop where
 mem:it∈fp
 obj:∀i h,tn i h->∀b∈fp,∃o,h.get? b=some o/\∀v,o.data≠.cell v
 keep:∀i h h',tn i h->(∀b∈fp,∀o,h.get? b=some o->h'.get? b=some o)->tn i h'
 item:∀(X:Cx),X.prog=P->X.w=w->X.K=K->X.calm=true->∀(i:Nat) (pins:List (Addr×Obj)) (s:YW) (σ:St) (H:Hp) (E:YU->YW->Prop),Inv X pins σ H s->(∀b∈fp,gS X pins H b)->tn i s.heap->J.go i H ->
  Zr (model P w) X.A (pyNext (.ref it)) (λr s1=>∃u,r=some u /\
   Zr (model P w) X.A (letOwnedTupleGo tg (.ref it) u) (λ_ s2=>∃x H',Inv X pins σ H' s2/\RelV x u/\J.Mi i H x H'/\tn (i+1) s2.heap/\∀b∈fp,H' b=none) E s1) E s
 done:∀(X:Cx),X.prog=P->X.w=w->X.K=K->X.calm=true->∀(i:Nat) (pins:List (Addr×Obj)) (s:YW) (σ:St) (H:Hp) (E:YU->YW->Prop),Inv X pins σ H s->(∀b∈fp,gS X pins H b)->tn i s.heap->J.stop i H ->
  Zr (model P w) X.A (pyNext (.ref it)) (λr s1=>r=none/\Inv X pins σ H s1) E s
 self:∀(A:ZQ) (i:Nat) (s:YW) (Q:YU->YW->Prop) (E:YU->YW->Prop),tn i s.heap->Q (.ref it) s->Zr (model P w) A (pyIter (.ref it)) Q E s
abbrev TI:=St->Hp->(It->Hp->Prop)->Prop
def Ud (X:Cx)(pins:List (Addr×Obj))(σ:St)(tg:Expr)(R:It->Hp->Prop)(Kc:YU)(s2:YW):Prop :=
 ∃(it:Addr) (fp:List Addr) (tn:Nat->Heap->Prop) (J:It) (H':Hp),Kc=.ref it/\Inv X pins σ H' s2/\Turn X.prog X.w X.K tg J fp it tn/\tn 0 s2.heap/\(∀b∈fp,gS X pins H' b)/\R J H'
def PI (X:Cx)(tg iter:Expr)(wi:TI):Prop :=
 ∀(pins:List (Addr×Obj)) (s:YW) (σ:St) (H:Hp) (R:It->Hp->Prop),Inv X pins σ H s->wi σ H R ->
  Zr (model X.prog X.w) X.A (eval iter X.env) (λv s1=>Zr (model X.prog X.w) X.A (pyIter v) (Ud X pins σ tg R) X.xe s1) X.xe s
theorem C9 {M:Model}{A:ZQ}{E:YU->YW->Prop}{s:YW}{tg:Expr}{it:Addr}{u:YU}{o:Obj}{n:String}{vs:Array YU}{Q:Unit->YW->Prop}(ho:s.heap.get? it=some o)(hc:o.cls=.type n)(hd:o.data=.fields vs)
  (hn:["enumerate","zip","dict_itemiterator","dict_reverseitemiterator","odict_iterator","itertools.zip_longest","itertools.pairwise"].contains n=false) (hQ:Q () s):Zr M A (letOwnedTupleGo tg (.ref it) u) Q E s:=by
 unfold letOwnedTupleGo;cases tg <;> first
  |exact YZ hQ
  | (cases u <;> first
    |exact YZ hQ
    | (refine YV (wpAny_load ho ?_)
       rw[hc,hd];show Zr M A (if (["enumerate","zip","dict_itemiterator","dict_reverseitemiterator","odict_iterator","itertools.zip_longest","itertools.pairwise"].contains n&&vs[0]?==some (rawInt _))=true then _ else _) Q E s
       rw[if_neg (by intro h;rw[hn,Bool.false_and]at h;cases h)]
       exact YZ hQ))
def PM (K:PySem.W.Frag)(a:Addr):It :=
 ⟨λi H=>∃xs x,dC K H a xs/\xs[i]?=some x,λi H x H'=>H'=H/\∀xs,dC K H a xs->xs[i]?=some x,λi H=>∃xs,dC K H a xs/\xs.length<=i⟩
def PL (lo:Int)(n:Nat):It:=⟨λi _=>i<n,λi H x H'=>H'=H/\x=.int (lo+i),λi _=>n<=i⟩
theorem yW {P:Y0}{w:Zd}{K:PySem.W.Frag}{tg:Expr}(a it:Addr):Turn P w K tg (PM K a) [it] it (λi h=>h.IsListIter it a i) where
 mem:=by simp
 obj:=λi h st b hb=>by
  have e:b=it:=by simpa using hb
  subst e;obtain⟨o,e,c,d⟩:=st;exact⟨o,e,λv z=>by rw[d]at z;cases z⟩
 keep:=λi h h' st k=>st.at λo e=>k it (by simp) o e
 item:=by
  intro X hP hw hK hc i pins s σ H E I hf st hg;subst hP hw hK;obtain⟨xs,x,hq,hx⟩:=hg;obtain⟨its,rv,p,hz⟩:=I.list hq;obtain⟨u,hu,ru⟩:=rv.get hx;obtain⟨f0,f1,f2,f3,f4,f5⟩:=hf it (by simp)
  refine wpAny_pyNext_list_item st p.isList (x:=u) (by simpa using hu) λh' aJ sb=>?_
  have I1:Inv X pins σ H {s with heap:=h'}:=I.turned (t':=s.toks) (λb o hb e=>(sb.2 b hb).trans e) f0 f1 f3 f4 f5
  obtain⟨o,e,c,d⟩:=id aJ;exact⟨u,rfl,C9 (s:={s with heap:=h'}) e c d (by decide) ⟨x,H,I1,ru,⟨rfl,λys hy=>by rw[I.Cw hy hq];exact hx⟩,aJ,λb hb=>(hf b hb).1⟩⟩
 done:=by
  intro X hP hw hK hc i pins s σ H E I hf st hg;subst hP hw hK;obtain⟨xs,hq,hx⟩:=hg;obtain⟨its,rv,p,hz⟩:=I.list hq;obtain⟨f0,f1,f2,f3,f4,f5⟩:=hf it (by simp)
  have hl:=rv.length;exact wpAny_pyNext_list_end (I.ok.hd hc) st p.isList (by simp;lia) λh' eb=>⟨rfl,I.turned (t':=s.toks) (λb o hb e=>eb b o hb e) f0 f1 f3 f4 f5⟩
 self:=λ_ _ _ _ _ st h=>wpAny_pyIter_listiter st h
theorem vF {P:Y0}{w:Zd}{K:PySem.W.Frag}{tg:Expr}(it:Addr)(lo:Int)(n:Nat):Turn P w K tg (PL lo n) [it] it (λi h=>IsRangeIter h it (lo+(i:Nat)*1) ((n:Int)-(i:Nat)) 1) where
 mem:=by simp
 obj:=λi h st b hb=>by
  have e:b=it:=by simpa using hb
  subst e;exact⟨_,st,λv z=>by
   have z':Data.fields _=Data.cell v:=z;cases z'⟩
 keep:=λi h h' st k=>k it (by simp) _ st
 item:=by
  intro X hP hw hK hc i pins s σ H E I hf st hg;subst hP hw hK;obtain⟨f0,f1,f2,f3,f4,f5⟩:=hf it (by simp)
  have W:=Walks.range (prog:=X.prog) (w:=X.w) (I.ok.hd hc) it lo 1 n;refine W.item i s _ _ hg st λv h' tk hv aJ kk=>?_;obtain⟨t,rfl⟩:=hv;have I1:Inv X pins σ H {s with heap:=h',toks:=tk}:=I.turned (λb o hb e=>kk b o (by simpa using hb) e) f0 f1 f3 f4 f5
  refine⟨_,rfl,C9 (s:={s with heap:=h',toks:=tk}) (n:="range_iterator") aJ rfl rfl (by decide) ⟨.int (lo+i),H,I1,⟨t,?_⟩,⟨rfl,rfl⟩,aJ,λb hb=>(hf b hb).1⟩⟩
  rw[Int.mul_one]
 done:=by
  intro X hP hw hK hc i pins s σ H E I hf st hg;subst hP hw hK;obtain⟨f0,f1,f2,f3,f4,f5⟩:=hf it (by simp)
  exact wpAny_pyNext_range_end (I.ok.hd hc) st (by have:n<=i:=hg;lia) λh' eb=>⟨rfl,I.turned (t':=s.toks) (λb o hb e=>eb b o hb e) f0 f1 f3 f4 f5⟩
 self:=λ_ _ _ _ _ st h=>wpAny_pyIter_rangeiter st h
section
variable {X:Cx}{tg:Expr}
def NC (K:PySem.W.Frag)(tl:TE):TI:=λσ H R=>tl σ H λx H1=>∃a,x=.ref a/\(∃xs,dC K H1 a xs)/\R (PM K a) H1
theorem xQ {l:Expr}{tl:TE}(hl:PE X l tl):PI X tg l (NC X.K tl):=by
 intro pins s σ H R I h;refine bE (hl pins s σ H _ I h) λv s1 Rm=>?_;obtain⟨x,H1,I1,r1,q1⟩:=Rm;obtain⟨a,e,⟨xs,hq⟩,q⟩:=q1;subst e;cases r1;obtain⟨its,rv,p,hz⟩:=I1.list hq;refine acj p.isList ?_;refine⟨s1.heap.objs.size,[s1.heap.objs.size],_,_,H1,rfl,I1.kept (t':=s1.toks) λb o e=>Y3 _ e,yW a _,⟨_,ZC _ rfl,rfl,rfl⟩,λb hb=>?_,q⟩;have e:b=s1.heap.objs.size:=by simpa using hb
 subst e;exact I1.Di (YY _) (I1.bu.fresh (YY _))
theorem Bh {pins:List (Addr×Obj)}{σ:St}{H:Hp}{s:YW}{R:It->Hp->Prop}{E:YU->YW->Prop}{lo hi:Int}{t u v:Tok}{tk:Nat}(I:Inv X pins σ H s)(h1:-(2 ^ 62)<=lo)(h2:lo<2 ^ 62)(h3:-(2 ^ 62)<=hi)(h4:hi<2 ^ 62)
  (q:R (PL lo (hi-lo).toNat) H):Zr (model X.prog X.w) X.A (pyIter (.ref s.heap.objs.size)) (Ud X pins σ tg R) E {s with heap:=s.heap.push {cls:=.type "range",data:=.fields #[.int lo t,.int hi u,.int 1 v]},toks:=tk}:=by
 refine wpAny_pyIter_range (IsRange.new ..) (small_one h1 h2 h3 h4) ?_;have I1:Inv X pins σ H {s with heap:=s.heap.push {cls:=.type "range",data:=.fields #[.int lo t,.int hi u,.int 1 v]},toks:=tk}:=I.kept λb o e=>Y3 _ e
 refine⟨(s.heap.push {cls:=.type "range",data:=.fields #[.int lo t,.int hi u,.int 1 v]}).objs.size,[(s.heap.push {cls:=.type "range",data:=.fields #[.int lo t,.int hi u,.int 1 v]}).objs.size],_,_,H,rfl,
  I1.kept (t':=tk) λb o e=>Y3 _ e,vF _ lo (hi-lo).toNat,?_,λb hb=>?_,q⟩
 ·have e1:lo+((0:Nat):Int)*1=lo:=by simp
  have e2:(((hi-lo).toNat:Nat):Int)-((0:Nat):Int)=Builtin.Range.rangeSize lo hi 1:=by rw[rangeSize_one];split <;> lia
  show IsRangeIter _ _ (lo+((0:Nat):Int)*1) ((((hi-lo).toNat:Nat):Int)-((0:Nat):Int)) 1;rw[e1,e2];exact ZC _ rfl
 ·have e:b=(s.heap.push {cls:=.type "range",data:=.fields #[.int lo t,.int hi u,.int 1 v]}).objs.size:=by simpa using hb
  subst e;exact I1.Di (YY _) (I1.bu.fresh (YY _))
def NA (ta:TA):TI:=λσ H R=>ta σ H λvs H1=>∃j:Int,vs=[.int j]/\-(2 ^ 62)<=j/\j<2 ^ 62/\R (PL 0 j.toNat) H1
theorem zA {a:Expr} {ta:TA} {p pos:Pos} (hg:Gl X "range") (hm:X.mg "range" = none) (ha:PA X [a] ta) (hs:Ze [a] X.env=[(false,eval a X.env)]:=by rfl):PI X tg (.Call (.Name "range" p) [a] [] pos) (NA ta):=by
 intro pins s σ H R I h;refine Call_ (nB I hg hm boot_range (ab5 (bE (ha pos pins s σ H _ I h) λus s1 Rl=>?_) hs rfl));obtain⟨vs,H1,I1,r1,q1⟩:=Rl;obtain⟨j,e,q1,q2,q⟩:=q1;subst e;cases r1 with
 |cons r rr =>
  cases rr;obtain⟨t,rfl⟩:=r;exact call_range_1 (Bh I1 (by lia) (by lia) q1 q2 (by simpa using q))
def Qd (wi:TI)(g:TG)(tb:TS):TS:=λD σ H=>wi σ H λJ H1=>∃W:Nat->Nat->St->Hp->Prop,(∃m,W 0 m σ H1)/\∀i m σ H,W i m σ H ->
 (J.stop i H/\D.nx σ H)\/(J.go i H/\∃N:St->Hp->Prop,(∀σ' H',N σ' H'->∃m',m'<m/\W (i+1) m' σ' H')/\∀x H',J.Mi i H x H'->g x σ H' λσ2 H2=>tb {D with nx:=N,ct:=N,bk:=D.nx} σ2 H2)
def mT (fp:List Addr)(h:Heap):List (Addr×Obj):=fp.filterMap λb=>(h.get? b).map λo=>(b,o)
theorem fX {fp:List Addr}{h:Heap}{b:Addr}{o:Obj}(hb:b∈fp)(e:h.get? b=some o):(b,o)∈mT fp h:=abr.mpr ⟨b,hb,by rw[e];rfl⟩
theorem zE {fp:List Addr}{h:Heap}{p:Addr×Obj}(hp:p∈mT fp h):p.1∈fp/\h.get? p.1=some p.2:=by
 obtain⟨b,hb,e⟩:=abr.mp hp;cases q:h.get? b with
 |none=>rw[q]at e;cases e
 |some o =>
  rw[q]at e;have e':(b,o)=p:=Zt e;subst e';exact⟨hb,q⟩
theorem Inv.pinned {pins:List (Addr×Obj)}{σ:St}{H:Hp}{s:YW}{fp:List Addr}(I:Inv X pins σ H s)(hf:∀b∈fp,gS X pins H b)(ho:∀b∈fp,∃o,s.heap.get? b=some o/\∀v,o.data≠.cell v):Inv X (pins++mT fp s.heap) σ H s :=
 I.xO λp hp=>(Zb.mp hp).elim (λz=>I.pin p (ZK _ z)) λz=>by
  obtain⟨hb,e⟩:=zE z;obtain⟨f0,f1,f2,_⟩:=hf p.1 hb;obtain⟨o,e',d⟩:=ho p.1 hb;rw[e]at e';cases e';exact⟨e,f0,f1,f2,d⟩
theorem Inv.i_ {pins pl:List (Addr×Obj)}{σ:St}{H:Hp}{s:YW}(I:Inv X (pins++pl) σ H s):Inv X pins σ H s:=I.xO λp hp=>I.pin p (ZK _ (Z8 _ hp))
theorem Bq {iter:Expr}{body:List Stmt}{wi:TI}{g:TG}{tb:TS}{pos:Pos}(hp:PassesOwn (model X.prog X.w) X.A X.env X.xe)(hc:X.calm=true)(hi:PI X tg iter wi)(hg:PG X tg g)(hb:sv X body tb)
  (hs:∀x,aav iter X.env x=pure x:=by intro _;rfl):PS X (.For tg iter body [] pos) (Qd wi g tb):=by
 intro pins s σ H D I h;refine wpAny_For (bE (hi pins s σ H _ I h) λv s1 h1=>bE h1 λKc s2 h2=>?_) hs;obtain⟨it,fp,tn,J,H2,e,I2,T,gq,f2,W,⟨m0,w0⟩,turn⟩:=h2;subst e;have vL:∀{H':Hp},(∀b∈fp,H' b=none)->∀b∈fp,gS X pins H' b:=λhn b hb=>⟨hn b hb,(f2 b hb).2⟩;refine codeAny_forLoop_any (λn s'=>∃i σ' H',Inv X pins σ' H' s'/\tn i s'.heap/\(∀b∈fp,H' b=none)/\W i n σ' H') ?_ m0 ⟨0,σ,H2,I2,gq,λb hb=>(f2 b hb).1,w0⟩;rintro n s3 ⟨i,σ3,H3,I3,mC,Oh,w3⟩;rcases turn i n σ3 H3 w3 with⟨stop,qn⟩|⟨go,N,hN,step⟩
 ·refine abU hp (bE (T.done X rfl rfl rfl hc i pins s3 σ3 H3 X.xe I3 (vL Oh) mC stop) λr s4 Rk=>?_);obtain⟨hr,I4⟩:=Rk;subst hr;exact wpAny_execs_nil ⟨σ3,H3,I4,qn⟩
 ·refine abU hp (bE (T.item X rfl rfl rfl hc i pins s3 σ3 H3 X.xe I3 (vL Oh) mC go) λr s4 Rj=>?_);obtain⟨u,hr,h4⟩:=Rj;subst hr;refine abU hp (bE h4 λ_ s5 Ri=>?_);obtain⟨x,H5,I5,r5,y5,IL,TJ⟩:=Ri;have Ui:=I5.pinned (vL TJ) (T.obj _ _ IL);refine abU hp (bE (hg _ s5 σ3 H5 x u _ Ui r5 (step x H5 y5)) λ_ s6 Rh=>?_);obtain⟨σ6,H6,I6,q6⟩:=Rh;refine abU hp (bE (hb _ s6 σ6 H6 _ I6 q6) λf s7 q7=>?_);have again:∀{σ7:St} {H7:Hp},Inv X (pins++mT fp s5.heap) σ7 H7 s7->N σ7 H7->∃m,m<n/\∃i σ' H',Inv X pins σ' H' s7/\tn i s7.heap/\(∀b∈fp,H' b=none)/\W i m σ' H':=λ{σ7 H7} I7 n7=>by
   obtain⟨m',hm,w7⟩:=hN σ7 H7 n7;refine⟨m',hm,i+1,σ7,H7,I7.i_,T.keep _ _ _ IL λb hb o e=>(I7.pin (b,o) (ZK _ (ZK _ (fX hb e)))).1,λb hb=>?_,w7⟩;obtain⟨o,e,d⟩:=T.obj _ _ IL b hb;exact(I7.pin (b,o) (ZK _ (ZK _ (fX hb e)))).2.1
  cases f with
  |next=>obtain⟨σ7,H7,I7,n7⟩:=q7;exact again I7 n7
  |cont=>obtain⟨σ7,H7,I7,n7⟩:=q7;exact again I7 n7
  |brk=>obtain⟨σ7,H7,I7,q7⟩:=q7;exact⟨σ7,H7,I7.i_,q7⟩
  |ret v=>obtain⟨x7,σ7,H7,I7,r7,q7⟩:=q7;exact⟨x7,σ7,H7,I7.i_,r7,q7⟩
end
abbrev R2:=V->V->Hp->VK->Prop
def ik (X:Cx)(f:YU->YU->Sem YU)(r:R2):Prop :=
 ∀(pins:List (Addr×Obj)) (s:YW) (σ:St) (H:Hp) (x y:V) (v u:YU) (Q:VK),Inv X pins σ H s->RelV x v->RelV y u->r x y H Q ->
  Zr (model X.prog X.w) X.A (f v u) (EP X pins σ Q) X.xe s
def OL (X:Cx)(f:YU->Sem YU)(r:V->Hp->VK->Prop):Prop :=
 ∀(pins:List (Addr×Obj)) (s:YW) (σ:St) (H:Hp) (x:V) (v:YU) (Q:VK),Inv X pins σ H s->RelV x v->r x H Q ->
  Zr (model X.prog X.w) X.A (f v) (EP X pins σ Q) X.xe s
def gk (X:Cx)(f:YU)(r:List V->Hp->VK->Prop):Prop :=
 ∀(pins:List (Addr×Obj)) (s:YW) (σ:St) (H:Hp) (xs:List V) (us:List YU) (Q:VK),Inv X pins σ H s->Vals xs us->r xs H Q ->
  Zr (model X.prog X.w) X.A (call f us) (EP X pins σ Q) X.xe s
def Ub (X:Cx)(r:V->Hp->(Bool->Hp->Prop)->Prop):Prop :=
 ∀(pins:List (Addr×Obj)) (s:YW) (σ:St) (H:Hp) (x:V) (v:YU) (Q:Bool->Hp->Prop),Inv X pins σ H s->RelV x v->r x H Q ->
  Zr (model X.prog X.w) X.A (truthy v) (TP X pins σ Q) X.xe s
def Mt (r:R2)(ta tb:TE):TE:=λσ H Q=>ta σ H λx H1=>tb σ H1 λy H2=>r x y H2 Q
def V1 (r:V->Hp->VK->Prop)(ta:TE):TE:=λσ H Q=>ta σ H λx H1=>r x H1 Q
def rI (C:Int->Int->Prop)(g:Int->Int->V):R2:=λx y H Q=>∃i j,x=.int i/\y=.int j/\C i j/\Q (g i j) H
def Bi (g:Int->Int->V):R2:=λx y H Q=>∃i j,x=.int i/\y=.int j/\Q (g i j) H
def rU (g:Int->V):V->Hp->VK->Prop:=λx H Q=>∃i,x=.int i/\Q (g i) H
section
variable {X:Cx}{a b:Expr}{ta tb:TE}{pos:Pos}
theorem Ly (ha:PE X a ta)(hb:PE X b tb){pins:List (Addr×Obj)}{s:YW}{σ:St}{H:Hp}{R:V->V->Hp->Prop}(I:Inv X pins σ H s)
  (h:ta σ H λx H1=>tb σ H1 λy H2=>R x y H2) {Q:YU->YW->Prop} {f:YU->YU->Sem YU}
  (hf:∀v u s2 x y H2,Inv X pins σ H2 s2->RelV x v->RelV y u->R x y H2->Zr (model X.prog X.w) X.A (f v u) Q X.xe s2) :
  Zr (model X.prog X.w) X.A (eval a X.env) (λv s₁=>Zr (model X.prog X.w) X.A (eval b X.env) (λu s₂=>Zr (model X.prog X.w) X.A (f v u) Q X.xe s₂) X.xe s₁) X.xe s:=by
 refine bE (ha pins s σ H _ I h) λv s1 Rf=>?_;obtain⟨x,H1,I1,r1,q1⟩:=Rf;refine bE (hb pins s1 σ H1 _ I1 q1) λu s2 Rc=>?_;obtain⟨y,H2,I2,r2,q2⟩:=Rc;exact hf v u s2 x y H2 I2 r1 r2 q2
theorem BL {op:Operator}{r:R2}(ho:ik X (aas op) r)(ha:PE X a ta)(hb:PE X b tb):PE X (.BinOp a op b pos) (Mt r ta tb):=by
 intro pins s σ H Q I h;exact wpAny_BinOp (Ly ha hb I h λv u s2 x y H2 I2 rx ry q=>ho pins s2 σ H2 x y v u Q I2 rx ry q)
theorem Hq {op:UnaryOp}{r:V->Hp->VK->Prop}(ho:OL X (unaryOp op) r)(ha:PE X a ta):PE X (.UnaryOp op a pos) (V1 r ta):=by
 intro pins s σ H Q I h;exact UnaryOp_ (bE (ha pins s σ H _ I h) λv s1 SA=>by obtain⟨x,H1,I1,r1,q1⟩:=SA;exact ho pins s1 σ H1 x v Q I1 r1 q1)
theorem LR {f:YU->YU->Sem YU}{C:Int->Int->Prop}{g:Int->Int->Int}
  (rule:∀(i j:Int) (t u:Tok) (s:YW) (Q:YU->YW->Prop) (E:YU->YW->Prop),C i j->Q (.int (g i j) s.toks) {s with toks:=s.toks+1}->Zr (model X.prog X.w) X.A (f (.int i t) (.int j u)) Q E s) :
  ik X f (rI C λi j=>.int (g i j)):=by
 intro pins s σ H x y v u Q I rx ry h;obtain⟨i,j,rfl,rfl,hc,q⟩:=h;obtain⟨t,rfl⟩:=rx;obtain⟨t',rfl⟩:=ry;exact rule i j t t' s _ _ hc ⟨.int (g i j),H,I.tok _,⟨_,rfl⟩,q⟩
theorem M4 {f:YU->YU->Sem YU}{g:Int->Int->Int}
  (rule:∀(i j:Int) (t u:Tok) (s:YW) (Q:YU->YW->Prop) (E:YU->YW->Prop),Q (.int (g i j) s.toks) {s with toks:=s.toks+1}->Zr (model X.prog X.w) X.A (f (.int i t) (.int j u)) Q E s) :
  ik X f (Bi λi j=>.int (g i j)):=by
 intro pins s σ H x y v u Q I rx ry h;obtain⟨i,j,rfl,rfl,q⟩:=h;obtain⟨t,rfl⟩:=rx;obtain⟨t',rfl⟩:=ry;exact rule i j t t' s _ _ ⟨.int (g i j),H,I.tok _,⟨_,rfl⟩,q⟩
theorem FG {f:YU->YU->Sem YU}{g:Int->Int->Bool}
  (rule:∀(i j:Int) (t u:Tok) (s:YW) (Q:YU->YW->Prop) (E:YU->YW->Prop),Q (.bool (g i j)) s->Zr (model X.prog X.w) X.A (f (.int i t) (.int j u)) Q E s) :
  ik X f (Bi λi j=>.bl (g i j)):=by
 intro pins s σ H x y v u Q I rx ry h;obtain⟨i,j,rfl,rfl,q⟩:=h;obtain⟨t,rfl⟩:=rx;obtain⟨t',rfl⟩:=ry;exact rule i j t t' s _ _ ⟨.bl (g i j),H,I,rfl,q⟩
def Er (i j:Int):Prop:=0<=j/\j<=1000000/\i.natAbs<2 ^ 64
def vo (i j:Int):Prop:=(-(2 ^ 64)<i/\i<2 ^ 64)\/(-(2 ^ 64)<j/\j<2 ^ 64)
theorem vo.ok {i j:Int}(h:vo i j):IntMulOk i j:=by
 rcases h with⟨h1,h2⟩|⟨h1,h2⟩
 ·exact .of_left (intBits_le_64 h1 h2)
 ·exact .of_right (intBits_le_64 h1 h2)
theorem vE (k:Nat):(0:Int)<=2 ^ k:=by
 rw[two_pow_cast];exact Int.natCast_nonneg _
theorem JD:ik X (aas .Add) (Bi λi j=>.int (i+j)):=M4 λ_ _ _ _ _ _ _ q=>add_int q
theorem Jw:ik X (aas .Sub) (Bi λi j=>.int (i-j)):=M4 λ_ _ _ _ _ _ _ q=>sub_int q
theorem Jz:ik X (aas .Mult) (rI vo λi j=>.int (i*j)):=LR λ_ _ _ _ _ _ _ hc q=>mul_int q hc.ok
theorem JA:ik X (aas .Mod) (rI (λ_ j=>0<j) λi j=>.int (i % j)):=LR λi j _ _ _ _ _ hc q=>by
 have h1:(0:Int)<j:=hc;exact mod_int' (by lia) (by rw[Int.fmod_eq_emod_of_nonneg i (by lia)];exact q)
theorem BU:ik X (aas .Pow) (rI Er λi j=>.int (i ^ j.toNat)):=LR λ_ _ _ _ _ _ _ hc q=>pow_int_small hc.1 hc.2.1 hc.2.2 q
theorem Jx:ik X (aas .RShift) (rI (λ_ j=>0<=j) λi j=>.int (i / 2 ^ j.toNat)):=LR λi j _ _ _ _ _ hc q =>
 rshift_int hc (by rw[Int.fdiv_eq_ediv_of_nonneg i (vE _)];exact q)
theorem VZ {f:YU->Sem YU}{g:Int->Int}
  (rule:∀(i:Int) (t:Tok) (s:YW) (Q:YU->YW->Prop) (E:YU->YW->Prop),Q (.int (g i) s.toks) {s with toks:=s.toks+1}->Zr (model X.prog X.w) X.A (f (.int i t)) Q E s) :
  OL X f (rU λi=>.int (g i)):=by
 intro pins s σ H x v Q I rx h;obtain⟨i,rfl,q⟩:=h;obtain⟨t,rfl⟩:=rx;exact rule i t s _ _ ⟨.int (g i),H,I.tok _,⟨_,rfl⟩,q⟩
theorem AO:OL X (unaryOp .USub) (rU λi=>.int (-i)):=VZ λ_ _ _ _ _ q=>neg_int q
end
section
variable {X:Cx}{a b c:Expr}{ta tb:TE}{pos:Pos}
theorem Dl {pins:List (Addr×Obj)}{σ:St}{H:Hp}{s:YW}{Q:VK}{k k':Bool}(I:Inv X pins σ H s)(q:Q (.bl k) H)(e:k=k'):EP X pins σ Q (.bool k') s:=by
 subst e;exact⟨.bl k,H,I,rfl,q⟩
theorem M0:ik X (ZR .Lt) (Bi λi j=>.bl (decide (i<j))):=FG λ_ _ _ _ _ _ _ q=>lt_int q
theorem Hv:ik X (ZR .LtE) (Bi λi j=>.bl (decide (i<=j))):=FG λ_ _ _ _ _ _ _ q=>le_int q
theorem M1:ik X (ZR .Gt) (Bi λi j=>.bl (decide (j<i))):=FG λ_ _ _ _ _ _ _ q=>gt_int q
theorem M3:ik X (ZR .GtE) (Bi λi j=>.bl (decide (j<=i))):=FG λ_ _ _ _ _ _ _ q=>ge_int q
theorem JB:ik X (ZR .Is) (λx y H Q=>y=.b_/\Q (.bl (decide (x=.b_))) H):=by
 intro pins s σ H x y v u Q I rx ry h;obtain⟨rfl,q⟩:=h;cases ry;refine is_none_gen (Dl I q ?_);cases x <;> first
  | (cases rx;rfl)
  | (obtain⟨t,rfl⟩:=rx;rfl)
theorem Fz:ik X (ZR .IsNot) (λx y H Q=>y=.b_/\Q (.bl (!decide (x=.b_))) H):=by
 intro pins s σ H x y v u Q I rx ry h;obtain⟨rfl,q⟩:=h;cases ry;refine isnot_none_gen (Dl I q ?_);cases x <;> first
  | (cases rx;rfl)
  | (obtain⟨t,rfl⟩:=rx;rfl)
theorem Fo {op:abT}{r:R2}(ho:ik X (ZR op) r)(ha:PE X a ta)(hb:PE X b tb)(hm:abO op b=false):PE X (.Compare a [op] [b] pos) (Mt r ta tb):=by
 intro pins s σ H Q I h;exact wpAny_Compare1 (Ly ha hb I h λv u s2 x y H2 I2 rx ry q=>ho pins s2 σ H2 x y v u Q I2 rx ry q) hm
def Mr (t:TE):TT:=λσ H Q=>t σ H λx H'=>∃k,x=.bl k/\Q k H'
theorem Ff {op:abT}{r:R2}(ho:ik X (ZR op) r)(ha:PE X a ta)(hb:PE X b tb)(hm:abO op b=false):PT X (.Compare a [op] [b] pos) (Mr (Mt r ta tb)):=by
 intro pins s σ H Q I h;refine wpAny_isTrue_Compare1 (bE (ha pins s σ H _ I h) λv s1 ⟨x,H1,I1,r1,q1⟩=>bE (hb pins s1 σ H1 _ I1 q1) λu s2 ⟨y,H2,I2,r2,q2⟩ =>
  bE (ho pins s2 σ H2 x y v u _ I2 r1 r2 q2) λc s3 ⟨z,H3,I3,r3,k,e,q3⟩=>?_) hm
 subst e;cases r3;exact aau ⟨H3,I3,q3⟩
def OM (K:PySem.W.Frag)(x:V)(H:Hp)(k:Bool):Prop :=
 match x with
 |.b_=>k=false
 |.bl b=>k=b
 |.int i=>k=(i != 0)
 |.str y=>y.length<=Zf/\k=((y.length:Int) != 0)
 |.OI y=>y.size<=Zf/\k=((y.size:Int) != 0)
 |.ref p=>(∃xs,dC K H p xs/\k=!xs.isEmpty)\/(∃xs,su K H p xs/\k=!xs.isEmpty)\/∃iD,H p=some (.dK iD)/\k=!iD.isEmpty
 |_=>False
theorem wq {κ:Type}{iD:List (κ×V)}{vs:List (κ×YU)}(r:KV iD vs):(!vs.isEmpty)=!iD.isEmpty:=by
 cases r <;> rfl
theorem nH {xs:List V}{its:List YU}(r:Vals xs its):(!its.toArray.isEmpty)=!xs.isEmpty:=by
 cases r <;> simp
theorem kA:(Zf:Nat)<2 ^ 63:=by rw[Zw];decide
theorem IG:Ub X (λx H Q=>∃k,OM X.K x H k/\Q k H):=by
 intro pins s σ H x v Q I rx h;obtain⟨k,e,q⟩:=h;have hl:=kA;have hs:Zf=16777216:=Zw;cases x with
 |b_ =>
  cases rx;have e':k=false:=e;subst e';exact truthy_none ⟨H,I,q⟩
 |bl b =>
  cases rx;have e':k=b:=e;subst e';exact aau ⟨H,I,q⟩
 |int i =>
  obtain⟨t,rfl⟩:=rx;have e':k=(i != 0):=e;subst e';exact PySem.P.truthy_int ⟨H,I,q⟩
 |str y =>
  obtain⟨t,rfl⟩:=rx;obtain⟨hy,e'⟩:y.length<=Zf/\k=((y.length:Int) != 0):=e;subst e';exact PySem.P.truthy_str (by lia) ⟨H,I.tok _,q⟩
 |OI y =>
  obtain⟨t,rfl⟩:=rx;obtain⟨hy,e'⟩:y.size<=Zf/\k=((y.size:Int) != 0):=e;subst e';exact PySem.W.truthy_bytes (by lia) ⟨H,I.tok _,q⟩
 |ref p =>
  cases rx;have e':(∃xs,dC X.K H p xs/\k=!xs.isEmpty)\/(∃xs,su X.K H p xs/\k=!xs.isEmpty)\/∃iD,H p=some (.dK iD)/\k=!iD.isEmpty:=e;rcases e' with⟨xs,hx,e'⟩|⟨xs,hx,e'⟩|⟨iD,hx,e'⟩
  ·subst e';obtain⟨its,r,pl,hz⟩:=I.list hx;have hlen:=r.length;exact wpAny_truthy_list pl.isList (by simp only[Zh];lia) ⟨H,I.tok _,by rw[nH r];exact q⟩
  ·subst e';obtain⟨its,r,pl,hz⟩:=I.tuple hx;have hlen:=r.length;exact truthy_tuple pl (by simp only[Zh];lia) ⟨H,I.tok _,by rw[nH r];exact q⟩
  ·subst e';obtain⟨hz,hS,vs,r,m⟩:iD.length<=Zf/\(p==sysModules)=false/\∃vs,KV iD vs/\s.heap.DictOf (rq X.prog X.w) p vs:=I.bu p _ hx;have hlen:iD.length=vs.length:=Paired.length r;exact wpAny_truthy_dict hS m (by lia) ⟨H,I.tok _,by rw[wq r];exact q⟩
 |_=>exact(show False from e).elim
theorem Bp (ha:PE X a ta)(he:∀whole,isTrue a X.env whole=(do let v <- whole;standAt a.pos;holding [v] (truthy v))):
  PT X a (λσ H Q=>ta σ H λx H'=>∃k,OM X.K x H' k/\Q k H'):=by
 intro pins s σ H Q I h;exact isTrue_plain (bE (ha pins s σ H _ I h) λv s1 KG=>by obtain⟨x,H1,I1,r1,q1⟩:=KG;exact IG pins s1 σ H1 x v Q I1 r1 q1) (he _)
theorem vals1 {x:V}{us:List YU}(r:Vals [x] us):∃u,us=[u]/\RelV x u:=by
 cases r with
 |cons r1 r2=>cases r2;exact⟨_,rfl,r1⟩
theorem vals2 {x y:V}{us:List YU}(r:Vals [x,y] us):∃u w',us=[u,w']/\RelV x u/\RelV y w':=by
 cases r with
 |cons r1 r2 =>
  cases r2 with
  |cons r3 r4=>cases r4;exact⟨_,_,rfl,r1,r3⟩
theorem An (hc:X.calm=true):gk X (.builtin "max") (λxs H Q=>∃i j,xs=[.int i,.int j]/\Q (.int (if j>i then j else i)) H):=by
 intro pins s σ H xs us Q I r h;obtain⟨i,j,rfl,q⟩:=h;obtain⟨u,w',rfl,⟨t,rfl⟩,⟨t',rfl⟩⟩:=vals2 r;refine max_two_ints (I.ok.hd hc) λh' tk k=>⟨_,H,I.kept k,?_,q⟩
 by_cases hj:j>i
 ·rw[if_pos hj,if_pos hj];exact⟨_,rfl⟩
 ·rw[if_neg hj,if_neg hj];exact⟨_,rfl⟩
theorem Am (hc:X.calm=true):gk X (.builtin "min") (λxs H Q=>∃i j,xs=[.int i,.int j]/\Q (.int (if j<i then j else i)) H):=by
 intro pins s σ H xs us Q I r h;obtain⟨i,j,rfl,q⟩:=h;obtain⟨u,w',rfl,⟨t,rfl⟩,⟨t',rfl⟩⟩:=vals2 r;refine min_two_ints (I.ok.hd hc) λh' tk k=>⟨_,H,I.kept k,?_,q⟩
 by_cases hj:j<i
 ·rw[if_pos hj,if_pos hj];exact⟨_,rfl⟩
 ·rw[if_neg hj,if_neg hj];exact⟨_,rfl⟩
end
section
end
section
end
section
end
section
end
section
end
structure cK (k:Nat)(A:ZQ):Prop where
 hd:A.handled=none
 dp:A.depth+3*k+5<recursionLimit
 un:A.units+16*k+200<abk
theorem cK.mono {j k:Nat}{A:ZQ}(r:cK k A)(h:j<=k):cK j A:=⟨r.hd,by have:=r.dp;lia,by have:=r.un;lia⟩
theorem cK.deeper {k:Nat}{A:ZQ}(r:cK (k+1) A)(env:Env):cK k (A.deeper env) :=
 ⟨r.hd,by have:=r.dp;show A.depth+1+3*k+5<_;lia,by have:=r.un;show A.units+3+16*k+200<_;lia⟩
theorem cK.depth {k:Nat}{A:ZQ}(r:cK k A):A.depth<recursionLimit:=by have:=r.dp;lia
theorem cK.units {k:Nat}{A:ZQ}(r:cK k A):A.units+64<abk:=by have:=r.un;lia
theorem cK.ID {k:Nat}{A:ZQ}(r:cK k A):A.units<abk:=by have:=r.un;lia
def Mv:TA:=λ_ H Q=>Q [] H
def Hi (ta:TE)(tr:TA):TA:=λσ H Q=>ta σ H λx H1=>tr σ H1 λxs H2=>Q (x::xs) H2
section
variable {X:Cx}{e:Expr}{es:List Expr}{te:TE}{t:TA}{pos:Pos}
theorem fW:PA X [] Mv:=λ_ _ _ _ H Q I h=>Calls.spliced_nil ⟨[],H,I,.nil,h⟩
theorem cT (ha:PE X e te)(hr:PA X es t)(hs:Ze (e::es) X.env=(false,eval e X.env)::Ze es X.env:=by rfl):PA X (e::es) (Hi te t):=by
 intro pos pins s σ H Q I h;rw[hs];show Zr _ _ (spliced ((false,eval e X.env)::aaw pos (Ze es X.env))) _ _ s;refine Calls.spliced_cons (bE (ha pins s σ H _ I h) λu s1 Rb=>?_);obtain⟨x,H1,I1,r1,q1⟩:=Rb;exact bE (hr pos pins s1 σ H1 _ I1 q1) λus s2 W5=>by obtain⟨xs,H2,I2,r2,q2⟩:=W5;exact⟨x::xs,H2,I2,.cons r1 r2,q2⟩
def P7 (t:TA):TE:=λσ H Q=>t σ H λxs H1=>xs.length<=Zf/\∀p,H1 p=none->Q (.ref p) (upd H1 p (.tup xs))
def Qb (t:TA):TE:=λσ H Q=>t σ H λxs H1=>xs.length<=Zf/\∀p,H1 p=none->Q (.ref p) (upd H1 p (.lst xs))
theorem BJ {x1}(h:PA X es t):PE X (.Tuple es x1 pos) (P7 t):=by
 intro pins s σ H Q I hq;refine wpAny_Tuple_spliced (bE (h pos pins s σ H _ I hq) λus s1 ⟨xs,H1,I1,r,z,q⟩=>⟨by rw[<- r.length];exact z,?_⟩)
 have hf:H1 s1.heap.objs.size=none:=I1.bu.fresh (YY _);refine⟨.ref s1.heap.objs.size,upd H1 s1.heap.objs.size (.tup xs),I1.laid (t':=s1.toks) (λb u e=>Y3 _ e) (YY _) ?_,rfl,q _ hf⟩;exact⟨z,us,r,⟨_,ZC _ rfl,rfl,_,rfl⟩⟩
theorem BM (h:PA X es t):PE X (.List es pos) (Qb t):=by
 intro pins s σ H Q I hq;refine wpAny_List_spliced (bE (h pos pins s σ H _ I hq) λus s1 ⟨xs,H1,I1,r,z,q⟩=>⟨by rw[<- r.length];exact z,?_⟩)
 have hf:H1 s1.heap.objs.size=none:=I1.bu.fresh (YY _);refine⟨.ref s1.heap.objs.size,upd H1 s1.heap.objs.size (.lst xs),I1.laid (t':=s1.toks) (λb u e=>Y3 _ e) (YY _) ?_,rfl,q _ hf⟩;exact⟨z,us,0,r,ZC _ rfl⟩
end
abbrev Sp:=List V->Hp->VK->XK->Prop
abbrev AB:=List Env->Hp->YW->XK->YU->YW->Prop
structure Eo (P:Y0)(w:Zd)(K:PySem.W.Frag)(mg:Str->Option YU)(base:Heap)(A:ZQ)(outer:List Env)(s:YW)(H:Hp):Prop where
 frames:A.frames=some outer
 mod:Mod K mg base
 bs:∀b o,base.get? b=some o->s.heap.get? b=some o/\H b=none
 Aq:base.objs.size<=s.heap.objs.size
 ip:s.heap.FunFrames base outer
 Dh:∀b∈gx outer,H b=none
 bu:iI P w H s.heap
 bare:aco s.gens
def CE (outer:List Env)(P:Y0)(w:Zd)(H:Hp)(s:YW)(Q:VK)(u:YU)(s':YW):Prop :=
 ∃v H',s'.os=s.os/\aco s'.gens/\Un (gx outer) [] H H' s.heap s'.heap/\iI P w H' s'.heap/\RelV v u/\Q v H'
def CR (CX:AB)(outer:List Env)(P:Y0)(w:Zd)(H:Hp)(s:YW)(Q:VK)(E:XK)(r:Result)(s':YW):Prop :=
 match r with
 |.ok (.ret u)=>CE outer P w H s Q u s'
 |.ok _=>False
 |.error e=>CX outer H s E e s'
structure aP (P:Y0)(w:Zd)(K:PySem.W.Frag)(mg:Str->Option YU)(base:Heap)(CX:AB)(k:Nat)(f:Addr)(fd:ZF)(ps:List Str)(sp:Sp):Prop where
 len:∀vs H Q E,sp vs H Q E->vs.length=ps.length
 run:∀(A:ZQ) (outer:List Env) (s:YW) (H:Hp) (args:Args) (us:List YU) (vs:List V) (Q:VK) (E:XK),cK k A->Eo P w K mg base A outer s H->BindsTo s fd args (ps.zip us)->Vals vs us->sp vs H Q E ->
  abN (model P w) A (.call (.ref f) args) (CR CX outer P w H s Q E) s
section
variable {X:Cx}{pins:List (Addr×Obj)}{σ:St}{H:Hp}{s s':YW}
theorem Inv.La (I:Inv X pins σ H s):Eo X.prog X.w X.K X.mg X.base X.A X.stack s H :=
 ⟨I.ok.frames,I.ok.mod,I.bs,ZO I.ok.Aq I.sz,I.stack,I.qM,I.bu,I.bare⟩
theorem Inv.after {Q:VK}{u:YU}(I:Inv X pins σ H s)(h:CE X.stack X.prog X.w H s Q u s'):EP X pins σ Q u s':=by
 obtain⟨v,H',os,bare,un,bu,r,q⟩:=h;obtain⟨hh,g,d,t,QM⟩:=s';obtain rfl:QM=s.os:=os;exact⟨v,H',I.call (h':=hh) (g':=g) (d':=d) (t':=t) (ch:=[]) un bu bare (λb z=>absurd z (by simp)),r,q⟩
end
def Hj (sp:Sp)(HU:List V)(E:XK)(t:TA):TE:=λσ H Q=>t σ H λvs H1=>sp (vs++HU) H1 Q E
def Binds (K:PySem.W.Frag)(fd:ZF)(ps:List Str)(ds:List YU):Prop :=
 ∀(s:YW) (us:List YU),K.In s.heap->(us++ds).length=ps.length->BindsTo s fd ⟨us,[]⟩ (ps.zip (us++ds))
theorem Binds.all {K:PySem.W.Frag}{fd:ZF}{ps:List Str}(h:∀us:List YU,us.length=ps.length->bindArgs fd ⟨us,[]⟩=pure (ps.zip us)):Binds K fd ps []:=λs us _ hl=>by
 rw[ZX]at hl ⊢
 exact .of_eq (h us hl)
def Passes (CX:AB)(X:Cx)(E:XK):Prop:=∀(pins:List (Addr×Obj)) (σ:St) (H:Hp) (s:YW) (e:YU) (s':YW),Inv X pins σ H s->CX X.stack H s E e s'->X.xe e s'
section
variable {X:Cx}{CX:AB}{k:Nat}{f:Addr}{fd:ZF}{ps:List Str}{sp:Sp}{HU:List V}{ds:List YU}{E:XK}{x:Str}{p pos:Pos}{e:Expr}{es:List Expr}{t:TA}
theorem I9 {pins:List (Addr×Obj)}{σ:St}{H:Hp}{s:YW}{Q:VK}{us:List YU}{vs:List V}(F:aP X.prog X.w X.K X.mg X.base CX k f fd ps sp)(hr:cK k X.A)(hb:Binds X.K fd ps ds)(hd:Vals HU ds)(hx:Passes CX X E)
  (I:Inv X pins σ H s) (r:Vals vs us) (h:sp (vs++HU) H Q E):Zr (model X.prog X.w) X.A (call (.ref f) us) (EP X pins σ Q) X.xe s:=by
 have r2:Vals (vs++HU) (us++ds):=r.append hd;have hl:(us++ds).length=ps.length:=by rw[<- r2.length];exact F.len _ _ _ _ h
 refine ab7 (aaY (F.run X.A X.stack s H ⟨us,[]⟩ (us++ds) (vs++HU) Q E hr I.La (hb s us I.zO hl) r2 h) λr s' hq=>?_);cases r with
 |error e=>exact hx pins σ H s e s' I hq
 |ok fl =>
  cases fl with
  |ret u=>exact I.after hq
  |next=>exact aaj hq
  |brk=>exact aaj hq
  |cont=>exact aaj hq
theorem xR (F:aP X.prog X.w X.K X.mg X.base CX k f fd ps sp)(hr:cK k X.A)(hg:Gl X x)(hm:X.mg x=some (.ref f))(hk:PySem.W.keepIn X.K (.ref f)=true)(hb:Binds X.K fd ps ds)(hd:Vals HU ds)(hx:Passes CX X E)
  (ha:PA X (e::es) t) (hdb:(x==("__debug__" : Str))=false:=by decide) (he:Ze (e::es) X.env=(false,eval e X.env)::Ze es X.env:=by rfl) (hpl:(aaw pos (Ze es X.env)).any (·.1)=false:=by rfl) :
  PE X (.Call (.Name x p) (e::es) [] pos) (Hj sp HU E t):=by
 intro pins s σ H Q I h;refine abq (h_ I hg hm ?_ hdb);refine PySem.W.callWith_K (h₀:=X.base) I.ok.mod.LU hk (bE (ha pos pins s σ H _ I h) λus s1 ⟨vs,H1,I1,r,q⟩=>⟨I1.zO,?_⟩) he hpl;exact I9 F hr hb hd hx I1 r q
end
section
end
structure aO (N P:List Str)(sc:abz):Prop where
 kind:sc.kind=.function
 co:sc.isCoroutine=false
 gen:sc.isGenerator=false
 nd:N.Nodup
 pre:N.take P.length=P
 par:∀x∈P,sc.names.lookup x=some .local\/sc.names.lookup x=some .cell
 JT:∀y∈sc.names,y.2≠.free
theorem mkS{N P:List Str}{sc:abz}(h0:sc.kind=.function:=by rfl)(h1:sc.isCoroutine=false:=by rfl)(h2:sc.isGenerator=false:=by rfl)(h3:N.Nodup:=by decide +kernel)(h4:N.take P.length=P:=by rfl)(h5:∀x∈P,sc.names.lookup x=some .local\/sc.names.lookup x=some .cell:=by decide +kernel)(h6:∀y∈sc.names,y.2≠.free:=by decide +kernel):aO N P sc:=⟨h0,h1,h2,h3,h4,h5,h6⟩
theorem qA {kindOf:Str->Option abR}{x:Str}:∀{binds:List (Str×YU)} {m:Str->Option YU},(∀v,(x,v)∉binds)->bindL kindOf binds m x=m x
 |[],_,_=>rfl
 | (n,v)::r,m,h=>by
  unfold bindL;rw[qA λw hw=>h w (Y7 _ hw)]
  split
  ·have:x≠n:=by rintro rfl;exact h v Y8
   simp[this]
  ·rfl
theorem qE {kindOf:Str->Option abR}{x:Str}:∀{binds:List (Str×YU)} {m:Str->Option YU},(∀v,(x,v)∉binds)->bindC kindOf binds m x=m x
 |[],_,_=>rfl
 | (n,v)::r,m,h=>by
  unfold bindC;rw[qE λw hw=>h w (Y7 _ hw)]
  split
  ·rfl
  ·have:x≠n:=by rintro rfl;exact h v Y8
   simp[this]
theorem qD {kindOf:Str->Option abR}{x:Str}{v:YU}:∀{P:List Str} {vs:List YU} {i:Nat} {m:Str->Option YU},P.Nodup->P[i]?=some x->vs[i]?=some v->kindOf x=some .local ->
  bindL kindOf (P.zip vs) m x=some v
 |[],_,_,_,_,h,_,_=>by simp at h
 |_::_,[],_,_,_,_,h,_=>by simp at h
 |p::P,w::vs,0,m,nd,h1,h2,hk=>by
  simp at h1 h2;subst h1;subst h2;show bindL kindOf ((p,w)::P.zip vs) m p=_;unfold bindL;rw[qA λv hv=>(ZD.mp nd).1 (abY hv).1,if_pos hk];simp
 |p::P,w::vs,i+1,m,nd,h1,h2,hk=>by
  show bindL kindOf ((p,w)::P.zip vs) m x=_;unfold bindL;exact qD (i:=i) (ZD.mp nd).2 (by simpa using h1) (by simpa using h2) hk
theorem qF {kindOf:Str->Option abR}{x:Str}{v:YU}:∀{P:List Str} {vs:List YU} {i:Nat} {m:Str->Option YU},P.Nodup->P[i]?=some x->vs[i]?=some v->kindOf x≠some .local ->
  bindC kindOf (P.zip vs) m x=some v
 |[],_,_,_,_,h,_,_=>by simp at h
 |_::_,[],_,_,_,_,h,_=>by simp at h
 |p::P,w::vs,0,m,nd,h1,h2,hk=>by
  simp at h1 h2;subst h1;subst h2;show bindC kindOf ((p,w)::P.zip vs) m p=_;unfold bindC;rw[qE λv hv=>(ZD.mp nd).1 (abY hv).1,if_neg hk];simp
 |p::P,w::vs,i+1,m,nd,h1,h2,hk=>by
  show bindC kindOf ((p,w)::P.zip vs) m x=_;unfold bindC;exact qF (i:=i) (ZD.mp nd).2 (by simpa using h1) (by simpa using h2) hk
def start (N:List Str)(vs:List V):St:=vs.map some++ZP (N.length-vs.length) none
noncomputable def lS (CX:AB)(P:Y0)(w:Zd)(K:PySem.W.Frag)(mg:Str->Option YU)(base:Heap)(N:List Str)(qual:Str)(scope:abz)(f:Addr)(cd:YU)(A:ZQ)(outer:List Env)(s:YW)(H:Hp)(E:XK):Cx where
 prog:=P
 w:=w
 K:=K
 mg:=mg
 base:=base
 A:=A.deeper (ab8 qual scope s.heap.objs.size f cd)
 N:=N
 s₀:=s
 H₀:=H
 env:=ab8 qual scope s.heap.objs.size f cd
 outer:=outer
 stack:=ab8 qual scope s.heap.objs.size f cd::outer
 ex:=[]
 calm:=true
 fn:=λ_=>true
 pn:=[]
 xe:=λe s'=>Zr (model P w) (A.deeper (ab8 qual scope s.heap.objs.size f cd)) (leaving (ab8 qual scope s.heap.objs.size f cd) e) (λ_ Bf=>CX outer H s E e Bf) (λe' Bf=>CX outer H s E e' Bf) s'
theorem u_ {sc:abz}{n:Nat}{x:Str}(h:sc.names.lookup x=some .cell):∃c,(cellsFrom n sc.names []).lookup x=some c:=by
 have q:=PySem.W.cellsFrom_some sc.names n [] (.inl h);exact Option.isSome_iff_exists.mp q
theorem p_ {CX:AB}{P:Y0}{w:Zd}{K:PySem.W.Frag}{mg:Str->Option YU}{base:Heap}{N ps:List Str}{qual:Str}{scope:abz}{f:Addr}{cd:YU}{A:ZQ}{outer:List Env}{s s1:YW}{H:Hp}{E:XK}{us:List YU}{vs:List V}
  (S:aO N ps scope) (hd:A.handled=none) (e0:Eo P w K mg base A outer s H) (hl:vs.length=ps.length) (r:Vals vs us)
  (x:InCallC s s.heap.objs.size (bindL (ab8 qual scope s.heap.objs.size f cd).kindOf (ps.zip us) λ_=>none) (cellsFrom (s.heap.objs.size+1) scope.names []) (bindC (ab8 qual scope s.heap.objs.size f cd).kindOf (ps.zip us) λ_=>none) s1) :
  Inv (lS CX P w K mg base N qual scope f cd A outer s H E) [] (start N vs) H s1:=by
 have hpl:ps.length<=N.length:=by have:=congrArg List.length S.pre;rw[ZH]at this;lia
 obtain⟨h1,tk,rfl,hk⟩:=x.done;have M_:∀b:Addr,b∉(lS CX P w K mg base N qual scope f cd A outer s H E).ex:=λb z=>absurd (show b∈([]:List Addr) from z) (by simp)
 refine⟨⟨e0.mod,S.kind,rfl,rfl,YY _,λy z c h1 h2=>?_,λy hy=>?_,λy c _ h=>?_,λ_=>hd,Around.frames_deeper e0.frames,.inr ⟨rfl,rfl⟩,λb z=>absurd z (M_ b),e0.bs,e0.Aq,λb _ _=>M_ b,λb z=>absurd z (M_ b),e0.ip,e0.Dh⟩,
  rfl,e0.bare,Un.kept hk,⟨_,x.toInCall.ns,λi y v h1 h2 h3=>?_⟩,λy c h=>⟨_,x.cell y c h⟩,e0.bu.fresh (YY _),λy c h=>?_,λp hp=>absurd (show p∈([]:List (Addr×Obj)) from hp) (by simp),e0.bu.kept hk,?_⟩
 ·exact name_of_addr x.apart (PySem.mem_of_lookup h1) (PySem.mem_of_lookup h2)
 ·have hy:scope.names.lookup y=some .cell\/scope.names.lookup y=some .free:=hy;rcases hy with hy|hy
  ·exact u_ hy
  ·exact absurd rfl (S.JT _ (PySem.mem_of_lookup hy))
 ·exact Nat.le_of_lt (x.above y c (PySem.mem_of_lookup h))
 ·have hi:i<vs.length:=by
   unfold start at h2
   by_cases hi:i<vs.length
   ·exact hi
   ·rw[Z0 (by simpa using hi)]at h2
    rw[List.getElem?_replicate]at h2
    split at h2 <;> cases h2
  have ha:vs[i]?=some v:=by
   unfold start at h2;rw[aah (by simpa using hi),Zj]at h2
   cases e:vs[i]? with
   |none=>rw[e]at h2;cases h2
   |some a=>rw[e]at h2;cases h2;rfl
  obtain⟨u,hu,rv⟩:=r.get ha;have hp:ps[i]?=some y:=by
   rw[<- S.pre,abn (by lia)];exact h1
  have UX:ps.Nodup:=by rw[<- S.pre];exact S.nd.sublist (List.take_sublist _ _)
  refine⟨u,rv,?_⟩;rcases S.par y (Zz hp)with k|k
  ·exact .inl ⟨k,qD UX hp hu k⟩
  ·obtain⟨c,e⟩:=u_ (n:=s.heap.objs.size+1) k;refine .inr ⟨.inl k,c,e,?_⟩;have q:=x.cell y c e;rw[qF UX hp hu (by show scope.names.lookup y≠_;rw[k];decide)]at q
   exact q
 ·exact e0.bu.fresh (Nat.le_of_lt (x.above y c (PySem.mem_of_lookup h)))
 ·unfold start;show _=N.length;rw[Zl,YX,List.length_replicate];lia
theorem HQ {CX:AB}{P:Y0}{w:Zd}{K:PySem.W.Frag}{mg:Str->Option YU}{base:Heap}{k:Nat}{f:Addr}{name qual:Str}{params:Arguments}{body:List Stmt}{scope:abz}{dV kV doc pm bR ct oc:YU}{an od:Option Addr}
  {Fx:Array (Option YU)} {N ps:List Str} {sp:Sp} (lk:K.lookup f=some ⟨oc,od,.func (PySem.W.fnOf name qual params body scope dV kV doc pm an bR ct),Fx⟩) (yj:PySem.W.codeIn K bR qual=true) (S:aO N ps scope)
  (len:∀vs H Q E,sp vs H Q E->vs.length=ps.length)
  (gM:∀(A:ZQ) (outer:List Env) (s:YW) (H:Hp) (vs:List V) (Q:VK) (E:XK),cK k (A.deeper (ab8 qual scope s.heap.objs.size f bR))->sp vs H Q E ->
   ∃t,sv (lS CX P w K mg base N qual scope f bR A outer s H E) body t/\t {nx:=λ_ H'=>Q .b_ H',rt:=Q} (start N vs) H) :
  aP P w K mg base CX (k+1) f (PySem.W.fnOf name qual params body scope dV kV doc pm an bR ct) ps sp:=by
 refine⟨len,λA outer s H args us vs Q E hr e0 hb r i6=>?_⟩;have hl:=len _ _ _ _ i6;have KX:K.In s.heap:=e0.mod.LU.keeps λb o e=>(e0.bs b o e).1;have lim:s.heap.NoLimit:=e0.mod.nolimit.keeps λb o e=>(e0.bs b o e).1;have C5:∀y∈ps.zip us,scope.names.lookup y.1=some .local\/(scope.names.lookup y.1=some .cell/\((cellsFrom (s.heap.objs.size+1) scope.names []).lookup y.1).isSome=true):=λSf hy=>by
  obtain⟨n,v⟩:=Sf;rcases S.par n (abY hy).1 with q|q
  ·exact .inl q
  ·exact .inr ⟨q,PySem.W.cellsFrom_some _ _ _ (.inl q)⟩
 refine codeAny_call_function hr.depth (KX _ _ lk) rfl S.co S.gen rfl (PySem.W.codeRec_of KX yj) (hb _ _ _ _ ?_);refine wpAny_newFunctionEnv_cells S.kind C5 λenv he s1 x=>?_;subst he;refine⟨lim.keeps x.toInCall.keep,codeAny_func ?_⟩;obtain⟨t,ht,hq⟩:=gM A outer s H vs Q E (hr.deeper _) i6;have I:Inv (lS CX P w K mg base N qual scope f bR A outer s H E) [] (start N vs) H s1:=p_ S hr.hd e0 hl r x;refine aa8 (ht [] s1 (start N vs) H _ I hq) (λfl s' hs=>?_) λe s' hs=>hs;have fin:∀{σ':St} {H':Hp} {v:V} {u:YU},Inv (lS CX P w K mg base N qual scope f bR A outer s H E) [] σ' H' s'->RelV v u->Q v H'->CE outer P w H s Q u s' :=
  λ{σ' H' v u} J rv q=>⟨v,H',J.os,J.bare,J.base,J.bu,rv,q⟩
 cases fl with
 |ret u =>
  obtain⟨v,σ',H',J,rv,q⟩:=hs;exact fin J rv q
 |next =>
  obtain⟨σ',H',J,q⟩:=hs;exact fin (v:=V.b_) (u:=Value.none) J rfl q
 |brk =>
  obtain⟨_,_,_,q⟩:=hs;exact aaj q
 |cont =>
  obtain⟨_,_,_,q⟩:=hs;exact aaj q
section
variable {X:Cx}{x:Str}{p pos:Pos}{e:Expr}{es:List Expr}{t:TA}{id T:String}{r:List V->Hp->VK->Prop}
def Qe (r:List V->Hp->VK->Prop)(t:TA):TE:=λσ H Q=>t σ H λvs H1=>r vs H1 Q
theorem mW (hc:gk X (.builtin id) r) (hg:Gl X x) (hm:X.mg x=none) (hv:ZY x=some (.builtin id)) (ha:PA X (e::es) t) (hn:x≠"__name__" := by decide) (hdb:(x==("__debug__" : Str))=false:=by decide)
  (he:Ze (e::es) X.env=(false,eval e X.env)::Ze es X.env:=by rfl) (hpl:(aaw pos (Ze es X.env)).any (·.1)=false:=by rfl):PE X (.Call (.Name x p) (e::es) [] pos) (Qe r t):=by
 intro pins s σ H Q I h;refine abq (nB I hg hm hv ?_ hn hdb);exact PyProof.Rows.callWith_builtin1 (bE (ha pos pins s σ H _ I h) λus s1 Se=>by obtain⟨vs,H1,I1,r1,q1⟩:=Se;exact hc pins s1 σ H1 vs us Q I1 r1 q1) he hpl
theorem zC (hc:gk X (.type T) r) (hg:Gl X x) (hm:X.mg x=none) (hv:ZY x=some (.type T)) (ha:PA X (e::es) t) (hn:x≠"__name__" := by decide) (hdb:(x==("__debug__" : Str))=false:=by decide)
  (he:Ze (e::es) X.env=(false,eval e X.env)::Ze es X.env:=by rfl) (hpl:(aaw pos (Ze es X.env)).any (·.1)=false:=by rfl):PE X (.Call (.Name x p) (e::es) [] pos) (Qe r t):=by
 intro pins s σ H Q I h;refine abq (nB I hg hm hv ?_ hn hdb);exact ab5 (bE (ha pos pins s σ H _ I h) λus s1 Sd=>by obtain⟨vs,H1,I1,r1,q1⟩:=Sd;exact hc pins s1 σ H1 vs us Q I1 r1 q1) he hpl
end
end L2
namespace HT
open PySem PyProof.Rows
def lexLt:List Int->List Int->Bool
 |[],[]=>false
 |[],_::_=>true
 |_::_,[]=>false
 |x::xs,y::ys=>if x=y then lexLt xs ys else decide (x<y)
theorem fY (x y:Int)(xs ys:List Int):lexLt (x::xs) (y::ys)=if x=y then lexLt xs ys else decide (x<y):=rfl
theorem Du (A:ZQ)(s:YW)(a:Int)(t:Tok)(c:Int)(u:Tok):∃e,SeqAt.EqAt A s (.int a t) (.int c u) e/\(e=true↔a=c) :=
 ⟨(a==c),SeqAt.EqAt.int_int a t c u,by simp⟩
section
open PySem.SeqAt
open PySem.AutoSeq1 (wpAny_loadPart')
open PySem.MeetsSeq PySem.MeetsSeq2 PySem.MeetsSeq3
end
section
def mM (n d:Nat):Option Int->Nat
 |none=>d
 |some v=>if v<0 then (v+(n:Int)).toNat else min v.toNat n
theorem sZ (n d:Nat):mM n d none=d:=rfl
theorem xD (n d k:Nat):mM n d (some (k:Int))=min k n:=by
 show (if (k:Int)<0 then ((k:Int)+(n:Int)).toNat else min (k:Int).toNat n)=min k n
 rw[if_neg (by lia),Z4]
end
end HT
namespace L2
open PySem PySem.Spec PyProof.Rows
abbrev TO:=St->Hp->(Option Int->Hp->Prop)->Prop
def PO (X:Cx)(e:Option Expr)(t:TO):Prop :=
 ∀(pins:List (Addr×Obj)) (s:YW) (σ:St) (H:Hp) (Q:Option Int->Hp->Prop),Inv X pins σ H s->t σ H Q ->
  Zr (model X.prog X.w) X.A (evalPart e X.env) (λu s'=>∃o H',Inv X pins σ H' s'/\IsPart u o/\Q o H') X.xe s
def ET:TO:=λ_ H Q=>Q none H
def Ms (t:TE):TO:=λσ H Q=>t σ H λx H1=>∃i,x=.int i/\Q (some i) H1
theorem intsAre_of {ns:List Int}:∀{us:List YU},Vals (ns.map V.int) us->aaE us ns:=by
 induction ns with
 |nil=>intro us r;rw[List.map_nil]at r;cases r;exact .nil
 |cons n ns ih =>
  intro us r;rw[Zx]at r;cases r with
  |cons r1 r2 =>
   obtain⟨t,e⟩:=r1;subst e;exact .cons n t (ih r2)
section
variable {X:Cx}{e:Expr}{te:TE}{lo hi:Option Expr}{tl th:TO}{pos p2:Pos}
theorem xN:PO X none ET:=by
 intro pins s σ H Q I h;rw[evalPart_none];exact YZ ⟨none,H,I,.none,h⟩
theorem xM (h:PE X e te):PO X (some e) (Ms te):=by
 intro pins s σ H Q I hw;rw[evalPart_some];refine bE (h pins s σ H _ I hw) λu s1 Ra=>?_;obtain⟨x,H1,I1,r1,q1⟩:=Ra;obtain⟨i,rfl,q⟩:=q1;obtain⟨t,rfl⟩:=r1;exact⟨some i,H1,I1,.int i t,q⟩
def Uc (X:Cx)(r:V->Option Int->Option Int->Hp->VK->Prop):Prop :=
 ∀(pins:List (Addr×Obj)) (s:YW) (σ:St) (H:Hp) (x:V) (v vl vu:YU) (lo hi:Option Int) (sl:Addr) (Q:VK),Inv X pins σ H s->RelV x v->s.heap.IsSliceOf sl vl vu .none->IsPart vl lo->IsPart vu hi->r x lo hi H Q ->
  ∃T id,typeLookup (.type T) "__getitem__" = pure (some (.builtin id))/\s.TypeIs v T/\Zr (model X.prog X.w) X.A (getItem v (.ref sl)) (EP X pins σ Q) X.xe s
def V2 (r:V->Option Int->Option Int->Hp->VK->Prop)(te:TE)(tl th:TO):TE:=λσ H Q=>te σ H λx H1=>tl σ H1 λl H2=>th σ H2 λu H3=>r x l u H3 Q
theorem tG {r:V->Option Int->Option Int->Hp->VK->Prop}(hr:Uc X r)(he:PE X e te)(hl:PO X lo tl)(hu:PO X hi th):PE X (.Subscript e (.Slice lo hi none p2) pos) (V2 r te tl th):=by
 intro pins s σ H Q I h;refine Subscript_ (bE (he pins s σ H _ I h) λv s1 Q_=>?_);obtain⟨x,H1,I1,r1,q1⟩:=Q_;refine wpAny_Slice (bE (hl pins s1 σ H1 _ I1 q1) λvl s2 ⟨l,H2,I2,pl,q2⟩=>bE (hu pins s2 σ H2 _ I2 q2) λvu s3 Q9=>?_);obtain⟨u,H3,I3,pu,q3⟩:=Q9;rw[evalPart_none];refine YZ ?_;have I4:Inv X pins σ H3 {s3 with heap:=s3.heap.push {cls:=.type "slice",data:=.fields #[vl,vu,.none]}}:=I3.kept (t':=s3.toks) λb ob q=>Y3 _ q
 obtain⟨T,id,hT,ht,hg⟩:=hr pins {s3 with heap:=s3.heap.push {cls:=.type "slice",data:=.fields #[vl,vu,.none]}} σ H3 x v vl vu l u s3.heap.objs.size Q I4 r1 (Heap.IsSliceOf.new ..) pl pu q3
 show Zr (model X.prog X.w) X.A (subscriptTail e (.Slice lo hi none p2) v (.ref s3.heap.objs.size)) (EP X pins σ Q) X.xe {s3 with heap:=s3.heap.push {cls:=.type "slice",data:=.fields #[vl,vu,.none]}}
 exact tail_any (ops:=[.ref s3.heap.objs.size,v]) ht hT hg (by with_unfolding_all rfl)
def uZ (xs:List V)(lo hi:Option Int):List V:=(xs.drop (HT.mM xs.length 0 lo)).take (HT.mM xs.length xs.length hi-HT.mM xs.length 0 lo)
theorem uY (xs:List V)(lo hi:Option Int):(uZ xs lo hi).length<=xs.length:=by
 unfold uZ;rw[ZH,aaW];lia
end
def ud (n:Nat)(i:Int):Option Nat:=if 0<=i then (if i<n then some i.toNat else none) else if -(n:Int)<=i then some (i+n).toNat else none
def l6 {α:Type}(xs:List α)(i:Int):Option α:=(ud xs.length i).bind λj=>xs[j]?
theorem ye {n:Nat}{i:Int}{j:Nat}(h:ud n i=some j):seqIndex? i n=some j/\j<n/\-(n:Int)<=i/\i<n:=by
 unfold ud at h
 by_cases h0:0<=i
 ·rw[if_pos h0]at h
  by_cases h1:i<n
  ·rw[if_pos h1]at h;have e:i.toNat=j:=Zt h;exact⟨by rw[seqIndex_of h0 h1,e],by lia,by lia,h1⟩
  ·rw[if_neg h1]at h;cases h
 ·rw[if_neg h0]at h
  by_cases h1:-(n:Int)<=i
  ·rw[if_pos h1]at h;have e:(i+n).toNat=j:=Zt h;exact⟨by rw[seqIndex_neg (by lia) h1,e],by lia,h1,by lia⟩
  ·rw[if_neg h1]at h;cases h
theorem rV {α:Type}{xs:List α}{i:Int}{v:α}(h:l6 xs i=some v):∃j,seqIndex? i xs.length=some j/\xs[j]?=some v/\j<xs.length/\-(xs.length:Int)<=i/\i<xs.length:=by
 unfold l6 at h;cases e:ud xs.length i with
 |none=>rw[e]at h;cases h
 |some j =>
  rw[e]at h;obtain⟨h1,h2,h3,h4⟩:=ye e;exact⟨j,h1,h,h2,h3,h4⟩
def rY (b:Expr):Prop:=∀o i,subscripted b false o i=operate [o,i] (getItem o i)
def Hc (X:Cx)(r:R2):Prop :=
 ∀(value slice:Expr) (pins:List (Addr×Obj)) (s:YW) (σ:St) (H:Hp) (x y:V) (v u:YU) (Q:VK),Inv X pins σ H s->RelV x v->RelV y u->r x y H Q ->
  subscripted slice false v u=operate [v,u] (getItem v u)->Zr (model X.prog X.w) X.A (subscriptTail value slice v u) (EP X pins σ Q) X.xe s
def PJ (X:Cx)(id:String)(r:V->List V->Hp->VK->Prop):Prop :=
 ∀(pins:List (Addr×Obj)) (s:YW) (σ:St) (H:Hp) (x:V) (xs:List V) (v:YU) (us:List YU) (Q:VK),Inv X pins σ H s->RelV x v->Vals xs us->r x xs H Q ->
  Zr (model X.prog X.w) X.A (call (.builtin id) (v::us)) (EP X pins σ Q) X.xe s
section
variable {X:Cx}{a b:Expr}{ta tb:TE}{pos:Pos}
theorem Hr {r:R2}(hr:Hc X r)(ha:PE X a ta)(hb:PE X b tb)(hs:rY b):PE X (.Subscript a b pos) (Mt r ta tb):=by
 intro pins s σ H Q I h;exact Subscript_ (Ly ha hb I h λv u s2 x y H2 I2 rx ry q=>hr a b pins s2 σ H2 x y v u Q I2 rx ry q (hs _ _))
def MJ (K:PySem.W.Frag):R2:=λx y H Q=>∃p xs i v,x=.ref p/\y=.int i/\dC K H p xs/\l6 xs i=some v/\Q v H
def MI (K:PySem.W.Frag):R2:=λx y H Q=>∃p xs i v,x=.ref p/\y=.int i/\su K H p xs/\l6 xs i=some v/\Q v H
def Qw:R2:=λx y H Q=>∃z i c,x=.str z/\y=.int i/\z.length<=Zf/\l6 z.cps.toList i=some c/\Q (.str ⟨#[c]⟩) H
theorem yd:Hc X (MJ X.K):=by
 intro value slice pins s σ H x y v u Q I rx ry h hs;obtain⟨p,xs,i,z,rfl,rfl,hq,he,q⟩:=h;cases rx;obtain⟨t,rfl⟩:=ry;obtain⟨its,r,pl,hz⟩:=I.list hq;obtain⟨j,h1,h2,h3,h4,h5⟩:=rV he;obtain⟨w,ew,MF⟩:=r.get h2;have hl:=r.length;have hn:=kA;have fin:EP X pins σ Q w s:=⟨z,H,I,MF,q⟩
 by_cases h0:0<=i
 ·have hj:i.toNat=j:=by
   rw[seqIndex_of h0 h5]at h1;exact Zt h1
  exact item_listR pl.isList h0 (by lia) (by rw[hj];simpa using ew) fin hs
 ·have hj:(i+(its.toArray.size:Int)).toNat=j:=by
   rw[seqIndex_neg (by lia) h4]at h1
   rw[Zh,<- hl];exact Zt h1
  exact subscriptTail_builtinR (x:=w) pl.isList.typeIs slot_list_getitem.lookup
   (wpAny_getItem_list_neg (Q:=λr s'=>r=w/\EP X pins σ Q r s') pl.isList (by lia) (by rw[Zh] <;> lia) (by lia) (by rw[hj];simpa using ew) ⟨rfl,fin⟩) hs
theorem CK:Hc X (MI X.K):=by
 intro value slice pins s σ H x y v u Q I rx ry h hs;obtain⟨p,xs,i,z,rfl,rfl,hq,he,q⟩:=h;cases rx;obtain⟨t,rfl⟩:=ry;obtain⟨its,r,pl,hz⟩:=I.tuple hq;obtain⟨j,h1,h2,h3,h4,h5⟩:=rV he;obtain⟨w,ew,MF⟩:=r.get h2;have hl:=r.length;have hn:=kA;have fin:EP X pins σ Q w s:=⟨z,H,I,MF,q⟩;exact subscriptTail_builtinR (x:=w) pl.typeIs slot_tuple_getitem.lookup
  (getItem_tuple (j:=j) (Q:=λr s'=>r=w/\EP X pins σ Q r s') pl (by lia) (by lia) (by rw[Zh,<- hl];exact h1) (by simpa using ew) ⟨rfl,fin⟩) hs
theorem Ka:Hc X Qw:=by
 intro value slice pins s σ H x y v u Q I rx ry h hs;obtain⟨z,i,c,rfl,rfl,hz,he,q⟩:=h;obtain⟨t,rfl⟩:=rx;obtain⟨t',rfl⟩:=ry;obtain⟨j,h1,h2,h3,h4,h5⟩:=rV he;have hl:z.cps.toList.length=z.length:=by simp[Str.length]
 rw[hl]at h1 h4 h5;have hn:=kA;exact tail_any (abK s z t) slot_str_getitem.lookup (getItem_str (c:=c) (by
  have e1:decide (i < -(2 ^ 63:Int))=false:=decide_eq_false (by lia)
  have e2:decide (i >= 2 ^ 63)=false:=decide_eq_false (by lia)
  rw[e1,e2,Bool.or_false]) (by rw[h1];simpa using h2) ⟨.str ⟨#[c]⟩,H,I.tok _,⟨_,rfl⟩,q⟩) hs
theorem v8 (its:List YU)(n j:Nat)(u:YU):aa9 (·.setIfInBounds j u) {cls:=.type "list",data:=.seq its.toArray n}={cls:=.type "list",data:=.seq (its.set j u).toArray n}:=by
 simp[aa9]
theorem Inv.lst {pins:List (Addr×Obj)}{σ:St}{H:Hp}{s:YW}{p:Addr}{xs:List V}(I:Inv X pins σ H s)(h:H p=some (.lst xs)):
  ∃(its:List YU) (n:Nat),Vals xs its/\s.heap.get? p=some {cls:=.type "list",data:=.seq its.toArray n}/\xs.length<=Zf:=by
 obtain⟨z,its,n,r,e⟩:=I.bu p _ h;exact⟨its,n,r,e,z⟩
theorem Inv.JZ {pins:List (Addr×Obj)}{σ:St}{H:Hp}{s:YW}{p:Addr}{xs ys:List V}{its its':List YU}{n n':Nat}{f:Obj->Obj}(I:Inv X pins σ H s)(h:H p=some (.lst xs))
  (ho:s.heap.get? p=some {cls:=.type "list",data:=.seq its.toArray n}) (hf:f {cls:=.type "list",data:=.seq its.toArray n}={cls:=.type "list",data:=.seq its'.toArray n'}) (r:Vals ys its') (hz:ys.length<=Zf) (t:Nat) :
  Inv X pins σ (upd H p (.lst ys)) {s with heap:=s.heap.update p f,toks:=t}:=by
 have e:(s.heap.update p f).get? p=some {cls:=.type "list",data:=.seq its'.toArray n'}:=by
  rw[Heap.get?_update_self f ho (by rw[hf] <;> rfl),hf]
 refine I.write (x:=p) (e:=p) (by rw[h];trivial) (.inl rfl) (λb u hb q=>(Heap.get?_update_other _ _ (abP hb)).trans q) ⟨_,e⟩ ?_
 exact⟨hz,its',n',r,e⟩
def MH:V->V->V->Hp->(Hp->Prop)->Prop:=λo i v H Q=>∃p xs k j,o=.ref p/\i=.int k/\H p=some (.lst xs)/\ud xs.length k=some j/\Q (upd H p (.lst (xs.set j v)))
theorem set_list:OP X MH:=by
 intro pins s σ H o i v ov iv u Q I ro ri rv h;obtain⟨p,xs,k,j,rfl,rfl,hp,hj,q⟩:=h;cases ro;obtain⟨t,rfl⟩:=ri;obtain⟨its,n,r,ho,hz⟩:=I.lst hp;obtain⟨h1,h2,h3,h4⟩:=ye hj;have hl:=r.length;have hn:=kA;have I':Inv X pins σ (upd H p (.lst (xs.set j v))) {s with heap:=s.heap.update p (aa9 (·.setIfInBounds j u))} :=
  I.JZ hp ho (v8 its n j u) (r.set rv j) (by rw[List.length_set];exact hz) s.toks
 by_cases h0:0<=k
 ·have hk:k.toNat=j:=by
   rw[seqIndex_of h0 h4]at h1;exact Zt h1
  exact PySem.W.ki_setAt ho h0 (by lia) (by rw[Zh,<- hl];exact h4) (by rw[hk];exact⟨_,I',q⟩)
 ·have hk:(k+(its.toArray.size:Int)).toNat=j:=by
   rw[seqIndex_neg (by lia) h3]at h1
   rw[Zh,<- hl];exact Zt h1
  exact PySem.W.ki_setBack ho (by lia) (by rw[Zh,<- hl];exact h3) (by lia) (by rw[hk];exact⟨_,I',q⟩)
theorem qQ (lo hi:Option Int)(n:Nat):(aaX lo hi none n).1=((HT.mM n 0 lo:Nat):Int)/\(aaX lo hi none n).2.1=((HT.mM n n hi:Nat):Int)/\(aaX lo hi none n).2.2=1:=by
 refine⟨?_,?_,rfl⟩
 ·cases lo with
  |none=>simp[aaX,HT.mM]
  |some i =>
   simp only[aaX,HT.mM,Option.getD_none,show (1:Int)>0 by decide,if_true]
   by_cases h:i<0
   ·simp only[h,if_true] <;> lia
   ·simp only[h,if_false] <;> lia
 ·cases hi with
  |none=>simp[aaX,HT.mM]
  |some i =>
   simp only[aaX,HT.mM,Option.getD_none,show (1:Int)>0 by decide,if_true]
   by_cases h:i<0
   ·simp only[h,if_true] <;> lia
   ·simp only[h,if_false] <;> lia
theorem oU (its:List YU)(lo hi:Option Int):slicePick its.toArray lo hi none=((its.drop (HT.mM its.length 0 lo)).take (HT.mM its.length its.length hi-HT.mM its.length 0 lo)).toArray:=by
 obtain⟨h1,h2,h3⟩:=qQ lo hi its.toArray.size;unfold slicePick;rw[h1,h2,h3];simp only[sliceRange_one,pick_run,Zh] <;> rfl
def Qr (K:PySem.W.Frag):V->Option Int->Option Int->Hp->VK->Prop:=λx lo hi H Q=>∃a xs,x=.ref a/\dC K H a xs/\∀p,H p=none->Q (.ref p) (upd H p (.lst (uZ xs lo hi)))
theorem xq:Uc X (Qr X.K):=by
 intro pins s σ H x v vl vu lo hi sl Q I rx hs pl pu h;obtain⟨a,xs,rfl,hx,q⟩:=h;cases rx;obtain⟨its,r,ht,hz⟩:=I.list hx;have hlen:=r.length;refine⟨"list",_,slot_list_getitem.lookup,ht.isList.typeIs,?_⟩;refine wpAny_getItem_list_slice ht.isList hs pl pu .none (by simp) ?_ (by rw[Zh] <;> lia)
 rw[oU,<- hlen];refine⟨.ref s.heap.objs.size,_,I.laid (t':=s.toks) (o:=.lst (uZ xs lo hi)) (λb ob q=>Y3 _ q) (YY _) ?_,rfl,q _ (I.bu.fresh (YY _))⟩;exact⟨ZO (uY xs lo hi) hz,_,0,(r.drop (HT.mM xs.length 0 lo)).take (HT.mM xs.length xs.length hi-HT.mM xs.length 0 lo),ZC _ rfl⟩
theorem rf:ik X (ZR .NotIn) (λx y H Q=>∃i j,x=.str i/\y=.str j/\Q (.bl (!(!(aae j i 0 j.length 1).isEmpty))) H):=by
 intro pins s σ H x y v u Q I rx ry h;obtain⟨i,j,rfl,rfl,q⟩:=h;obtain⟨t,rfl⟩:=rx;obtain⟨t',rfl⟩:=ry;exact notIn_str ⟨.bl _,H,I,rfl,q⟩
theorem jQ:gk X (.builtin "len") (λxs H Q=>∃p ys,xs=[.ref p]/\(dC X.K H p ys\/su X.K H p ys)/\Q (.int ys.length) H):=by
 intro pins s σ H xs us Q I r h;obtain⟨p,ys,rfl,hq,q⟩:=h;obtain⟨u,rfl,rx⟩:=vals1 r;cases rx;have hn:=kA;rcases hq with hq|hq
 ·obtain⟨its,r',pl,hz⟩:=I.list hq;have hlen:=r'.length;exact Calls.call_len_list pl.isList (by simp only[Zh] <;> lia) ⟨.int ys.length,H,I.tok _,⟨s.toks+1,by rw[Zh,hlen]⟩,q⟩
 ·obtain⟨its,r',pl,hz⟩:=I.tuple hq;have hlen:=r'.length;exact len_tuple pl (by simp only[Zh] <;> lia) ⟨.int ys.length,H,I.tok _,⟨s.toks+1,by rw[Zh,hlen]⟩,q⟩
theorem jP:gk X (.type "list") (λxs H Q=>∃p ys,xs=[.ref p]/\(dC X.K H p ys\/su X.K H p ys)/\∀l,H l=none->Q (.ref l) (upd H l (.lst ys))):=by
 intro pins s σ H xs us Q I r h;obtain⟨p,ys,rfl,hq,q⟩:=h;obtain⟨u,rfl,rx⟩:=vals1 r;cases rx;have fin:∀(its:List YU),Vals ys its->ys.length<=Zf->∀(h':Heap) (c':Nat),(∀b o',s.heap.get? b=some o'->h'.get? b=some o') ->
   h'.get? s.heap.objs.size=some {cls:=.type "list",dict:=none,data:=.seq its.toArray c',slots:=#[]}->EP X pins σ Q (.ref s.heap.objs.size) {s with heap:=h'}:=λits r' hz h' c' kp e =>
  ⟨.ref s.heap.objs.size,_,I.laid (t':=s.toks) kp (YY _) (show dv X.prog X.w _ h' _ (.lst ys) from ⟨hz,its,c',r',e⟩),rfl,q _ (I.bu.fresh (YY _))⟩
 rcases hq with hq|hq
 ·obtain⟨its,r',pl,hz⟩:=I.list hq;have hlen:=r'.length;obtain⟨o,ho,hc,n,hd⟩:=pl.isList;exact call_list_seq p (.inl rfl) ho hc hd (λh' c' kp e=>fin its r' hz h' c' kp e) (by simp only[Zh] <;> lia)
 ·obtain⟨its,r',pl,hz⟩:=I.tuple hq;have hlen:=r'.length;obtain⟨o,ho,hc,n,hd⟩:=pl;exact call_list_seq p (.inr rfl) ho hc hd (λh' c' kp e=>fin its r' hz h' c' kp e) (by simp only[Zh] <;> lia)
def OW (K:PySem.W.Frag)(T:String)(x:V)(H:Hp):Prop:=match x with
 |.str _=>T="str"
 |.int _=>T="int"
 |.ref p=>(T="list" /\ ∃xs,dC K H p xs)\/(T="tuple" /\ ∃o,K.lookup p=some o/\o.cls=.type "tuple" /\ o.dict=none) \/
   (T="dict" /\ ((∃iD,H p=some (.dK iD))\/∃iD,H p=some (.dT iD)))\/(T="set" /\ ∃S n,H p=some (.set S n))
 |_=>False
theorem AQ {pins:List (Addr×Obj)}{σ:St}{H:Hp}{s:YW}{T:String}{x:V}{v:YU}(I:Inv X pins σ H s)(r:RelV x v)(ty:OW X.K T x H):
  s.TypeIs v T/\∀a,v=.ref a->∃ob,s.heap.get? a=some ob/\ob.dict=none:=by
 cases x with
 |str z =>
  obtain⟨t,rfl⟩:=r;cases (show T="str" from ty)
  exact⟨abK s z t,λ_ e=>nomatch e⟩
 |int i =>
  obtain⟨t,rfl⟩:=r;cases (show T="int" from ty)
  exact⟨typeIs_int s i t,λ_ e=>nomatch e⟩
 |ref p =>
  cases r;rcases ty with⟨rfl,xs,hq⟩|⟨rfl,o,hk,hc,hd⟩|⟨rfl,hk⟩|⟨rfl,S,n,hk⟩
  ·obtain⟨its,_,pl,_⟩:=I.list hq;refine⟨pl.isList.typeIs,λa e=>?_⟩;cases e;obtain⟨o,n,e,c,hd,_⟩:=pl;exact⟨o,e,hd⟩
  ·refine⟨⟨o,I.zO p o hk,hc⟩,λa e=>?_⟩;cases e;exact⟨o,I.zO _ o hk,hd⟩
  ·have z:∃o,s.heap.get? p=some o/\o.ExactDict:=by
    rcases hk with⟨iD,hk⟩|⟨iD,hk⟩
    ·obtain⟨_,_,_,_,o,_,_,e,ex,_⟩:=I.bu p _ hk;exact⟨o,e,ex⟩
    ·obtain⟨_,_,_,_,o,_,_,e,ex,_⟩:=I.bu p _ hk;exact⟨o,e,ex⟩
   obtain⟨o,e,ex⟩:=z;refine⟨⟨o,e,ex.1⟩,λa e2=>?_⟩;cases e2;exact⟨o,e,ex.2.1⟩
  ·obtain⟨o,_,_,_,e,ex,_⟩:=I.bu p _ hk;refine⟨⟨o,e,ex.1⟩,λa e2=>?_⟩;cases e2;exact⟨o,e,ex.2.1⟩
 |_=>exact aaj ty
def Qg (K:PySem.W.Frag)(T:String)(r:V->List V->Hp->VK->Prop)(to:TE):TE:=λσ H Q=>to σ H λx H1=>OW K T x H1/\r x [] H1 Q
def V5 (K:PySem.W.Frag)(T:String)(r:V->List V->Hp->VK->Prop)(to:TE)(t:TA):TE:=λσ H Q=>to σ H λx H1=>OW K T x H1/\t σ H1 λxs H2=>r x xs H2 Q
variable {o e:Expr}{es:List Expr}{to:TE}{t:TA}{name:Str}{apos cpos:Pos}{T id:String}{r:V->List V->Hp->VK->Prop}
theorem Jr (pa:PlainAttrs T) (slot:Slot T name id) (NK:typeOf (.builtin id)=pure (.type "method_descriptor")) (hm:PJ X id r) (ho:PE X o to)
  (eM:aa0 o name X.env (eval o X.env)=eval o X.env:=by rfl) (eL:(apos.endLine==cpos.line)=true:=by rfl):PE X (.Call (.Attribute o name apos) [] [] cpos) (Qg X.K T r to):=by
 intro pins s σ H Q I h;refine wpAny_Call_method0_late eM eL (bE (ho pins s σ H _ I h) λv s1 Q8=>?_);obtain⟨x,H1,I1,r1,ty,q1⟩:=Q8;obtain⟨h1,h2⟩:=AQ I1 r1 ty;exact⟨T,id,pa,slot,NK,h1,h2,Calls.callWith_builtin rfl (PySem.evalArgs_none (hm pins s1 σ H1 x [] v [] Q I1 r1 .nil q1))⟩
theorem tI (pa:PlainAttrs T) (slot:Slot T name id) (NK:typeOf (.builtin id)=pure (.type "method_descriptor")) (hm:PJ X id r) (ho:PE X o to) (ha:PA X (e::es) t)
  (eM:aa0 o name X.env (eval o X.env)=eval o X.env:=by rfl)
  (nN:((aaw cpos (Ze (e::es) X.env)).all (λx=>!x.1)&&(backToKw cpos (ack [] X.env)).all (λx=>x.1.isSome)
   && decide ((e::es).length+([]:List abQ).length+(if ([]:List abQ).isEmpty then 0 else 1)<30))=true:=by rfl)
  (eL:(apos.endLine==cpos.line)=true:=by rfl) (hs:Ze (e::es) X.env=(false,eval e X.env)::Ze es X.env:=by rfl) (f9:(aaw cpos (Ze es X.env)).any (·.1)=false:=by rfl) :
  PE X (.Call (.Attribute o name apos) (e::es) [] cpos) (V5 X.K T r to t):=by
 intro pins s σ H Q I h;refine wpAny_Call_method_late eM nN eL rfl (bE (ho pins s σ H _ I h) λv s1 Q6=>?_);obtain⟨x,H1,I1,r1,ty,q1⟩:=Q6;obtain⟨h1,h2⟩:=AQ I1 r1 ty;refine⟨T,id,pa,slot,NK,h1,h2,?_⟩;have hA:=ha cpos pins s1 σ H1 _ I1 q1;rw[hs]at hA ⊢
 refine Calls.callWith_builtin (by show (false || (aaw cpos (Ze es X.env)).any (·.1))=false;rw[f9] <;> rfl) (Calls.evalArgs_plain ?_)
 exact bE hA λus s2 Kk=>by obtain⟨vs,H2,I2,r2,q2⟩:=Kk;exact hm pins s2 σ H2 x vs v us Q I2 r1 r2 q2
end
def Ug (X:Cx)(id:String)(r:V->List V->Hp->VK->Prop):Prop :=
 ∀(pins:List (Addr×Obj)) (s:YW) (σ:St) (H:Hp) (x:V) (xs:List V) (v:YU) (us:List YU) (Q:VK),Inv X pins σ H s->RelV x v->Vals xs us->r x xs H Q ->
  Zr (model X.prog X.w) X.A (call (.builtin id) (v::us)) (EP X pins σ Q) X.xe s
theorem Vals.one:∀{x:V} {us:List YU},Vals [x] us->∃u,us=[u]/\RelV x u:=by
 intro x us h;cases h with
 |cons r t =>
  cases t;exact⟨_,rfl,r⟩
theorem Vals.zero:∀{us:List YU},Vals [] us->us=[]
 |_,.nil=>rfl
theorem Vals.dropLast {xs:List V}{us:List YU}(h:Vals xs us):Vals xs.dropLast us.dropLast:=by
 induction h with
 |nil=>exact .nil
 |cons r t ih =>
  cases t with
  |nil=>exact .nil
  |cons q t'=>exact .cons r ih
theorem Vals.eraseIdx:∀{xs:List V} {us:List YU} (i:Nat),Vals xs us->Vals (xs.eraseIdx i) (us.eraseIdx i)
 |_,_,_,.nil=>.nil
 |_,_,0,.cons _ t=>t
 |_,_,i+1,.cons r t=>.cons r (Vals.eraseIdx i t)
theorem Vals.rep {xs:List V}{us:List YU}(h:Vals xs us):∀k:Nat,Vals (ZP k xs).flatten (ZP k us).flatten
 |0=>.nil
 |k+1=>by
  rw[aaI,aaI,aaR,aaR];exact Vals.append h (Vals.rep h k)
theorem wH {α:Type}(l:List α):l.eraseIdx (l.length-1)=l.dropLast:=by
 induction l with
 |nil=>rfl
 |cons a r ih =>
  cases r with
  |nil=>rfl
  |cons b r =>
   have e:(a::b::r).length-1=((b::r).length-1)+1:=by
    have h1:(a::b::r).length=r.length+2:=rfl;have h2:(b::r).length=r.length+1:=rfl;lia
   rw[e,List.eraseIdx_cons_succ,ih]
   all_goals rfl
theorem pW {α:Type}:∀(l:List α) (i:Nat),(l.eraseIdx i).length<=l.length
 |[],_=>YY _
 |_::_,0=>Nat.le_succ _
 |_::r,i+1=>aaV (pW r i)
theorem foldl_rep (its:List YU):∀(k:Nat) (acc:List YU),
  List.foldl (λx1 x2=>x1++x2) acc.toArray (ZP k its.toArray)=(acc++(ZP k its).flatten).toArray
 |0,acc=>by simp
 |k+1,acc=>by
  have e:acc.toArray++its.toArray=(acc++its).toArray:=by simp
  have e2:(acc++its)++(ZP k its).flatten=acc++(ZP (k+1) its).flatten:=by
   rw[aaI,aaR,ZV]
  rw[<- e2,<- foldl_rep its k (acc++its),<- e,aaI,aaH]
section
variable {X:Cx}{pins:List (Addr×Obj)}{σ:St}{H:Hp}{s:YW}{l:Addr}{xs ys:List V}
theorem Inv.J1 {its its':List YU}{n:Nat}{f:Array YU->Array YU}{t':Nat}(I:Inv X pins σ H s)(hH:H l=some (.lst xs))
  (e:s.heap.get? l=some {cls:=.type "list",data:=.seq its.toArray n}) (hf:f its.toArray=its'.toArray) (hv:Vals ys its') (hz:ys.length<=Zf) :
  Inv X pins σ (upd H l (.lst ys)) {s with heap:=s.heap.update l (aa9 f),toks:=t'}:=by
 have q:=PySem.IsL.update e f;rw[hf]at q;refine I.write (x:=l) (e:=l) (by rw[hH];exact trivial) (.inl rfl) (λb' u hb hu=>(Heap.get?_update_other s.heap (aa9 f) (abP hb)).trans hu) ⟨_,q⟩ ?_
 exact⟨hz,its',_,hv,q⟩
theorem Inv.Cv {its:List YU}{t':Nat}(I:Inv X pins σ H s)(hv:Vals ys its)(hz:ys.length<=Zf):
  Inv X pins σ (upd H s.heap.objs.size (.lst ys)) {s with heap:=s.heap.push {cls:=.type "list",data:=.seq its.toArray},toks:=t'} :=
 I.laid (λ_ _ q=>Y3 _ q) (YY _) ⟨hz,its,0,hv,ZC _ rfl⟩
theorem Inv.fresh (I:Inv X pins σ H s):H s.heap.objs.size=none:=I.bu.fresh (YY _)
theorem Inv.zI (I:Inv X pins σ H s)(hH:H l=some (.lst xs)):xs.length<=Zf/\∃(its:List YU) (n:Nat),Vals xs its/\xs.length=its.length/\s.heap.get? l=some {cls:=.type "list",data:=.seq its.toArray n}:=by
 obtain⟨z,its,n,r,e⟩:=I.bu l _ hH;exact⟨z,its,n,r,r.length,e⟩
theorem Cj {n:Nat}(h:n<=Zf):acv n=false:=by
 unfold acv;exact decide_eq_false (by lia)
end
section
variable {X:Cx}
def xF:V->List V->Hp->VK->Prop:=λx vs H Q=>∃l xs y,x=.ref l/\vs=[y]/\H l=some (.lst xs)/\xs.length<Zf/\Q .b_ (upd H l (.lst (xs++[y])))
theorem kq:Ug X "list.append" xF:=by
 intro pins s σ H x vs v us Q I rx rv h;obtain⟨l,xs,y,rfl,rfl,hH,hz,q⟩:=h;cases rx;obtain⟨u,rfl,ru⟩:=rv.one;obtain⟨z,its,n,r,hl,e⟩:=I.zI hH;refine aaZ F.slot_list_append ⟨_,e,rfl⟩ F.entry_list_append (F.args_list_append_2 _ _) (PySem.list_append l its.toArray n u (by rw[Zh];lia)) ⟨e,?_⟩
 refine⟨.b_,_,I.J1 (its':=its++[u]) hH e (by simp) (r.append (.cons ru .nil)) ?_,rfl,q⟩
 rw[Zl,aad];lia
def Qu:V->List V->Hp->VK->Prop:=λx vs H Q=>∃l xs y,x=.ref l/\vs=[]/\H l=some (.lst xs)/\xs[xs.length-1]?=some y/\Q y (upd H l (.lst xs.dropLast))
theorem JY:Ug X "list.pop" Qu:=by
 intro pins s σ H x vs v us Q I rx rv h;obtain⟨l,xs,y,rfl,rfl,hH,hy,q⟩:=h;cases rx;have HE:=rv.zero;subst HE;obtain⟨z,its,n,r,hl,e⟩:=I.zI hH;obtain⟨u,hu,ru⟩:=r.get hy;have WZ:its.toArray[its.toArray.size-1]?=some u:=by
  show its.toArray[its.length-1]?=some u;rw[<- Zk,<- hl];exact hu
 refine aaZ F.slot_list_pop ⟨_,e,rfl⟩ F.entry_list_pop (F.args_list_pop_1 _) (MeetsSeq.list_pop_last l its.toArray n u WZ (by rw[Zh];lia)) ⟨e,?_⟩
 refine⟨y,_,I.J1 (its':=its.dropLast) hH e ?_ r.dropLast ?_,ru,q⟩
 ·show its.toArray.eraseIdxIfInBounds (its.toArray.size-1)=its.dropLast.toArray;rw[Zh,List.eraseIdxIfInBounds_toArray,wH]
 ·rw[List.length_dropLast];lia
def Jb:V->List V->Hp->VK->Prop:=λx vs H Q=>∃l xs i k y,x=.ref l/\vs=[.int i]/\H l=some (.lst xs)/\-(2 ^ 63)<=i/\i<2 ^ 63/\seqIndex? i xs.length=some k/\xs[k]?=some y/\Q y (upd H l (.lst (xs.eraseIdx k)))
theorem Cr:Ug X "list.pop" Jb:=by
 intro pins s σ H x vs v us Q I rx rv h;obtain⟨l,xs,i,k,y,rfl,rfl,hH,h1,h2,hk,hy,q⟩:=h;cases rx;obtain⟨u,rfl,ru⟩:=rv.one;obtain⟨t,rfl⟩:=ru;obtain⟨z,its,n,r,hl,e⟩:=I.zI hH;obtain⟨w,hw,MF⟩:=r.get hy;refine aaZ F.slot_list_pop ⟨_,e,rfl⟩ F.entry_list_pop (F.args_list_pop_2 _ _)
  (MeetsSeq.list_pop_at l its.toArray n i t k w (fitsIndex_both h1 h2) (by rw[Zh,<- hl];exact hk) (by rw[<- Zk];exact hw) (by rw[Zh];lia)) ⟨e,?_⟩
 refine⟨y,_,I.J1 (its':=its.eraseIdx k) hH e ?_ (r.eraseIdx k) ?_,MF,q⟩
 ·show its.toArray.eraseIdxIfInBounds k=(its.eraseIdx k).toArray;rw[List.eraseIdxIfInBounds_toArray]
 ·have:=pW xs k;lia
def Qz:R2:=λx y H Q=>∃l b xs zs,x=.ref l/\y=.ref b/\H l=some (.lst xs)/\H b=some (.lst zs)/\xs.length+zs.length<=Zf/\∀p,H p=none->Q (.ref p) (upd H p (.lst (xs++zs)))
theorem B0:ik X (aas .Add) Qz:=by
 intro pins s σ H x y v u Q I rx ry h;obtain⟨l,b,xs,zs,rfl,rfl,hH,hB,hz,q⟩:=h;cases rx;cases ry;obtain⟨z,its,n,r,hl,e⟩:=I.zI hH;obtain⟨z2,Ke,n2,r2,YJ,e2⟩:=I.zI hB;refine PySem.P.add_list e e2 ?_ (by rw[Zh,Zh];lia)
 have ea:its.toArray++Ke.toArray=(its++Ke).toArray:=by simp
 rw[ea];exact⟨.ref _,_,I.Cv (t':=s.toks) (r.append r2) (by rw[Zl];lia),rfl,q _ I.fresh⟩
def Qs:R2:=λx y H Q=>∃l k xs,x=.ref l/\y=.int k/\H l=some (.lst xs)/\-(2 ^ 63)<=k/\k<2 ^ 63/\xs.length*k.toNat<=Zf /\
 ∀p,H p=none->Q (.ref p) (upd H p (.lst (ZP k.toNat xs).flatten))
theorem len_rep {α:Type}(xs:List α)(k:Nat):(ZP k xs).flatten.length=k*xs.length:=by
 induction k with
 |zero=>simp
 |succ k ih=>rw[aaI,aaR,Zl,ih,Nat.succ_mul,Nat.add_comm]
theorem Jy:ik X (aas .Mult) Qs:=by
 intro pins s σ H x y v u Q I rx ry h;obtain⟨l,k,xs,rfl,rfl,hH,h1,h2,hz,q⟩:=h;cases rx;obtain⟨t,rfl⟩:=ry;obtain⟨z,its,n,r,hl,e⟩:=I.zI hH;have hlen:its.toArray.size*k.toNat<=Zf:=by rw[Zh,<- hl];exact hz
 have Tu:¬ its.toArray.size*k.toNat>(2 ^ 63-1) / 8:=by
  have:(Zf:Nat)<=(2 ^ 63-1) / 8:=by decide
  lia
 have wy:¬ (!Builtin.List.listFitsIndex k)=true:=by
  rw[fitsIndex_both h1 h2];exact abv
 have NY:¬ acv (its.toArray.size*k.toNat)=true:=by
  rw[Cj hlen];exact abv
 have Gj:List.foldl (λx1 x2=>x1++x2) #[] (ZP (if its.toArray.isEmpty=true then 0 else k.toNat) its.toArray)=(ZP k.toNat its).flatten.toArray:=by
  have f0:∀m:Nat,List.foldl (λx1 x2=>x1++x2) #[] (ZP m its.toArray)=(ZP m its).flatten.toArray:=λm=>by
   have:=foldl_rep its m [];rw[List.nil_append]at this;exact this
  rw[f0];cases its with
  |nil=>simp
  |cons a r'=>rw[if_neg (by simp)]
 refine wpAny_binaryOp_repeat_ref (T:="list") (U:="int") (by decide) ⟨_,e,rfl⟩ (λs'=>typeIs_int s' k t) noFill_list_mul F.fills_int_mul F.slot_int_rmul repeat_list F.slot_int_index.lookup
  (aaZ F.slot_int_rmul (typeIs_int s k t) F.entry_int_rmul (F.args_int_rmul_2 _ _) (int___rmul___int_list k t l its.toArray n)
   ⟨e,rfl,⟨_,e,rfl⟩,aaZ F.slot_list_mul ⟨_,e,rfl⟩ F.entry_list_mul (F.args_list_mul_2 _ _) (AutoListH.list___mul___list_int_3 l its.toArray n k t wy Tu NY) ⟨e,?_⟩⟩)
 rw[Gj];exact⟨.ref _,_,I.Cv (t':=s.toks) (r.rep k.toNat) (by rw[len_rep,Nat.mul_comm];exact hz),rfl,q _ I.fresh⟩
end
section
end
section
end
end L2
namespace VS
open PySem PySem.W PySem.Calls PyProof.Rows
theorem lN {P:Params}{h:Heap}:∀(ns:List Int) (vs:List YU),WellAll P h vs (ns.map WData.int)->aaE vs ns:=by
 intro ns
 induction ns with
 |nil =>
  intro vs w;rw[List.map_nil]at w;cases w;exact .nil
 |cons n ns ih =>
  intro vs w;rw[Zx]at w;cases w with
  |cons a b =>
   cases a;exact .cons _ _ (ih _ b)
theorem zf {l:OpenLaw}{n:Nat}(hn:l.most=some n){P:Params}{h:Heap}{args:List WData}{vals:List YU}
  (Gh:l.row.toRowW.claim.pre args=true) (RE:WellAll P h vals args) :
  ∃a vs ns,vals=[Value.ref a]/\args=[WData.list (ns.map WData.int)]/\h.get? a=some {cls:=.type "list",data:=.seq vs.toArray}/\aaE vs ns/\ns.length<=n:=by
 have W8:WShape.hasAll [] args [.list .int]=true:=(pre_splitW Gh).1;have hc:l.pre.holds [] {args:=args}=true:=(pre_splitW Gh).2;obtain⟨d,r,rfl,h1,h2⟩:=hasAllW_cons W8;obtain rfl:=hasAllW_nil h2;obtain⟨xs,rfl,h3⟩:=hasW_list h1;obtain⟨ns,rfl⟩:=items_int h3;have hlen:ns.length<=n:=by
  unfold OpenLaw.pre at hc;have h4:(WTm.not (.lt (.lit (.int (n:Int))) (.len (.arg 0)))).holds [] {args:=[.list (ns.map .int)]}=true:=by
   have h4:=(holds_andW hc).1;rw[hn]at h4;exact h4
  have h5:=condW_of h4 (w_not (w_lt w_lit (w_len_list (w_arg rfl))));rw[YX]at h5;refine Nat.le_of_not_lt λq=>?_;have q':(n:Int)<((ns.length:Nat):Int):=by lia
  first
   | (rw[decide_eq_true q']at h5;exact absurd h5 (by decide))
   | (simp at h5;lia)
 cases RE with
 |cons w1 w2 =>
  cases w2;cases w1 with
  |list ho o9=>exact⟨_,_,ns,rfl,rfl,ho,lN ns _ o9,hlen⟩
theorem zv (l:OpenLaw)(args:List WData):l.row.toRowW.claim.post args (.bool true) args=true :=
 postW_of (r:=l.row.toRowW) (X:=(true==true))
  (show WShape.has [] (.bool true) .bool=true by first|rfl|decide|simp[WShape.has,WShape.arms,WShape.armsAll])
  (show (WTm.eq .res (.lit (.bool true))).value [] {args:=args,res:=some (.bool true),after:=args}=some (.bool (true==true)) from w_eq_bool (w_res rfl) w_lit) rfl
theorem vd {l:OpenLaw}{n:Nat}{q:Y0}{loose:List Str}{XP:(Str->Option YU)->Heap->Prop}{YP:Zd->Heap->Prop}{d:DefRec}
  (hn:l.most=some n) (Po:d.params.defaults=[])
  (call:∀(w:Zd) (s₀ s₁:YW) (mg mb:Str->Option YU) (fa:Addr) (o:Obj) (pm cd doc:YU) (a:Addr) (vs:List YU) (ns:List Int),
   Ground q loose [] XP w s₀ mg mb s₁.heap->YP w s₁.heap ->
   s₁.heap.get? fa=some o->o.data=.func (docDef d.name d.params d.body d.scope pm cd doc)->s₁.heap.CodeRec cd d.name->mg d.name=some (.ref fa) ->
   s₁.heap.get? a=some {cls:=.type "list",data:=.seq vs.toArray}->aaE vs ns->ns.length<=n->s₁.gens=#[] ->
   abN (model l.prog w) callerA (.call (.ref fa) ⟨[.ref a],[]⟩) (λr s'=>r=.ok (.ret (.bool true))/\OldK s₁.heap s'.heap/\s'.os=s₁.os/\aco s'.gens) s₁) :
  WalkO q loose XP YP l.row.toRowW d [] (λf vs=>PySem.call f vs):=by
 intro w s₀ s₁ mg mb G Y fa o pm cd doc dV kV ho hd yj hD S9 hg args vals as Gh Xr YE RE S_;obtain rfl:dV=.none:=Dflts.none hD Po;obtain rfl:kV=.none:=Dflts.noKw hD;obtain⟨a,vs,ns,rfl,rfl,KQ,hints,hlen⟩:=zf hn Gh RE;refine enter_call (aaY (call w s₀ s₁ mg mb fa o pm cd doc a vs ns G Y ho (fd_plain hd) yj S9 KQ hints hlen hg) λr s' hq=>?_);obtain⟨rfl,h2,h3,h4⟩:=hq;exact⟨.inl ⟨.bool true,.bool true,[],rfl,λ_=>rfl,.bool true,zv l _,λ_=>⟨List.Pairwise.nil,λ_ hm=>(nomatch hm)⟩⟩,h2,h3,h4⟩
section
end
end VS
namespace L2
open PySem PySem.Spec PyProof.Rows
theorem yV:∀{vs:List YU} {ns:List Int},aaE vs ns->Vals (ns.map V.int) vs:=by
 intro vs ns h
 induction h with
 |nil=>exact .nil
 |cons n t h ih=>exact .cons ⟨t,rfl⟩ ih
def LK (H:Hp):Prop:=∀b,H b=none\/∃o xs,H b=some (.Dg o (.lst xs))
theorem CG {P:Y0}{w:Zd}{K:PySem.W.Frag}{mg mb:Str->Option YU}{CX:AB}{k:Nat}{fa a:Addr}{fd:ZF}{x:Str}{sp:Sp}{s₁:YW}{vs:List YU}{ns:List Int}
  (KX:K.In s₁.heap) (Pj:s₁.heap.Ns aaM mg) (hb:s₁.heap.Ns builtinsNs mb) (XF:∀x:Str,x≠"__name__" -> mb x=ZY x) (Ta:s₁.heap.NoLimit) (hg:s₁.gens=#[])
  (ha:s₁.heap.get? a=some {cls:=.type "list",data:=.seq vs.toArray}) (hi:aaE vs ns) (hl:ns.length<=Zf) (hr:cK k callerA)
  (F:∀base:Heap,K.In base->base.Ns aaM mg->aP P w K mg base CX k fa fd [x] sp) (Ob:∀(s:YW) (u:YU),BindsTo s fd ⟨[u],[]⟩ [(x,u)])
  (i6:∀H:Hp,LK H->dC K H a (ns.map V.int)->sp [.ref a] H (λv _=>v=.bl true) λ_ _ _=>False)
  (Tz:∀H e s',CX [] H s₁ (λ_ _ _=>False) e s'->False) :
  abN (model P w) callerA (.call (.ref fa) ⟨[.ref a],[]⟩) (λr s'=>r=.ok (.ret (.bool true))/\OldK s₁.heap s'.heap/\s'.os=s₁.os/\aco s'.gens) s₁:=by
 have rv:=yV hi;have QY:=hi.length;have core:∀H:Hp,LK H->dC K H a (ns.map V.int)->iI P w H s₁.heap->(∀b,H b≠none->b=a)->(H a≠none->K.lookup a=none) ->
   abN (model P w) callerA (.call (.ref fa) ⟨[.ref a],[]⟩) (λr s'=>r=.ok (.ret (.bool true))/\OldK s₁.heap s'.heap/\s'.os=s₁.os/\aco s'.gens) s₁:=by
  intro H hO hS bu hA hK;have yL:∀{b:Addr} {o:Obj},s₁.heap.get? b=some o->H b=none->(rE s₁.heap H).get? b=some o:=λe n=>C6 e n;have M_:∀{b:Addr} {o:Obj} {es:Array DictEntry} {ep:Nat},s₁.heap.get? b=some o->o.data=.dict es ep->H b=none:=λ{b o es ep} e d=>by
   cases q:H b with
   |none=>rfl
   |some u =>
    have e':b=a:=hA b (by rw[q];simp)
    subst e';rw[ha]at e;cases e;have d':Data.seq vs.toArray _=Data.dict es ep:=d;cases d'
  have O5:∀{b:Addr} {m:Str->Option YU},s₁.heap.Ns b m->(rE s₁.heap H).Ns b m:=λ{b m} RV=>by obtain⟨o,es,ep,e,d,r⟩:=RV;exact⟨o,es,ep,yL e (M_ e d),d,r⟩
  have Vw:K.In (rE s₁.heap H):=λb o e=>yL (KX b o e) (by
   cases q:H b with
   |none=>rfl
   |some u =>
    have e':b=a:=hA b (by rw[q];simp)
    subst e';rw[hK (by rw[q];simp)]at e;cases e)
  have hM:Mod K mg (rE s₁.heap H):=⟨Vw,O5 Pj,⟨mb,O5 hb,XF⟩,let ⟨mc,h1,h2⟩:=Ta;⟨mc,O5 h1,h2⟩⟩
  have e0:Eo P w K mg (rE s₁.heap H) callerA [] s₁ H:=⟨rfl,hM,λb o e=>FN e,Nat.le_of_eq (zX _ _),trivial,λb hb=>absurd (show b∈([]:List Addr) from hb) (by simp),bu,.of_eq hg⟩
  refine aaY ((F _ Vw (O5 Pj)).run callerA [] s₁ H ⟨[.ref a],[]⟩ [.ref a] [.ref a] _ _ hr e0 (Ob s₁ (.ref a)) (.cons rfl .nil) (i6 H hO hS)) λr s' h=>?_;cases r with
  |error e=>exact(Tz H e s' h).elim
  |ok fl =>
   cases fl with
   |next=>exact aaj h
   |brk=>exact aaj h
   |cont=>exact aaj h
   |ret u =>
    obtain⟨v,H',os,bare,un,S4,r',q⟩:=h;have q':v=.bl true:=q;subst q';obtain rfl:u=Value.bool true:=r';refine⟨rfl,OldK.of_keep λb o e=>?_,os,bare⟩;cases q:H b with
    |none=>exact un.keep b o e q (by intro z;exact absurd (show b∈([]:List Addr) from z) (by simp)) (by simp)
    |some u =>
     rcases hO b with z|⟨ob,xs,z⟩
     ·rw[q]at z;cases z
     ·have z2:=un.iq b ob _ z;obtain⟨e1,_⟩:=bu b _ z;obtain⟨e2,_⟩:=S4 b _ z2;rw[e]at e1;cases e1;exact e2
 cases hk:K.lookup a with
 |some o =>
  have e:=KX a o hk;rw[ha]at e;cases e;refine core (λ_=>none) (λ_=>.inl rfl) (.inr ⟨_,vs.toArray,_,hk,rfl,rfl,rfl,by rw[Zh,QY];exact hl,by simpa using rv⟩) (λb u z=>by have z':(none:Option HO)=some u:=z;cases z') (λb z=>absurd rfl z) λz=>absurd rfl z
 |none =>
  refine core (λb=>if b=a then some (.Dg {cls:=.type "list",data:=.seq vs.toArray} (.lst (ns.map V.int))) else none) (λb=>?_) (.inl (.inr ⟨{cls:=.type "list",data:=.seq vs.toArray},if_pos rfl⟩)) (λb u z=>?_) (λb z=>?_) λ_=>hk
  ·by_cases hb:b=a
   ·exact .inr ⟨_,_,if_pos hb⟩
   ·exact .inl (if_neg hb)
  ·by_cases hb:b=a
   ·have z':=(if_pos hb).symm.trans z;cases z';subst hb;exact⟨ha,by rw[YX];exact hl,vs,_,rv,ha⟩
   ·have z':=(if_neg hb).symm.trans z;cases z'
  ·by_cases hb:b=a
   ·exact hb
   ·exact absurd (if_neg hb) z
theorem EM {l:PySem.W.OpenLaw}{n k:Nat}{q:Y0}{loose:List Str}{XP:(Str->Option YU)->Heap->Prop}{YP:Zd->Heap->Prop}{d:DefRec}{K:Params->PySem.W.Frag}{CX:Zd->AB}{sp:Zd->Sp}{x:Str}
  (hn:l.most=some n) (NW:n<=Zf) (Po:d.params.defaults=[]) (hr:cK k callerA)
  (hY:∀(w:Zd) (h:Heap),YP w h->(K w.params).In h)
  (F:∀(w:Zd) (mg:Str->Option YU) (fa:Addr) (h:Heap),(K w.params).In h->h.Ns aaM mg->mg d.name=some (.ref fa) ->
   ∃fd:ZF,(∀(s:YW) (u:YU),BindsTo s fd ⟨[u],[]⟩ [(x,u)]) /\
    ∀base:Heap,(K w.params).In base->base.Ns aaM mg->aP l.prog w (K w.params) mg base (CX w) k fa fd [x] (sp w))
  (i6:∀(w:Zd) (H:Hp) (a:Addr) (ns:List Int),ns.length<=n->LK H->dC (K w.params) H a (ns.map V.int)->sp w [.ref a] H (λv _=>v=.bl true) λ_ _ _=>False)
  (Tz:∀(w:Zd) (H:Hp) (s:YW) (e:YU) (s':YW),CX w [] H s (λ_ _ _=>False) e s'->False) :
  PySem.W.WalkO q loose XP YP l.row.toRowW d [] (λf vs=>PySem.call f vs):=by
 refine VS.vd hn Po λw s₀ s₁ mg mb fa o pm cd doc a vs ns G Y ho hd yj S9 KQ hints hlen hg=>?_;have KX:=hY w _ Y;obtain⟨fd,hb,hF⟩:=F w mg fa _ KX G.T.g S9;exact CG KX G.T.g G.T.b G.T.builtins G.T.nolimit hg KQ hints (ZO hlen NW) hr hF hb (λH hO hS=>i6 w H a ns hlen hO hS) λH e s'=>Tz w H s₁ e s'
abbrev bU:AB:=λ_ _ _ _ _ _=>False
abbrev E0:XK:=λ_ _ _=>False
theorem Hu {X:Cx}:Passes bU X E0:=λ_ _ _ _ _ _ _ h=>h.elim
structure En (K:PySem.W.Frag)(x qual:Str)(st:Stmt)(f:Addr)(fd:ZF):Prop where
 ex:∃(oc:YU) (od:Option Addr) (kV doc pm:YU) (an:Option Addr) (bR ct:YU) (Fx:Array (Option YU)),
  fd=PySem.W.fnOf x qual (lZ st) (di st) (ar st) .none kV doc pm an bR ct/\K.lookup f=some ⟨oc,od,.func fd,Fx⟩/\PySem.W.codeIn K bR qual=true
 kp:PySem.W.keepIn K (.ref f)=true
section
variable {P:Y0}{w:Zd}{K:PySem.W.Frag}{mg:Str->Option YU}{base:Heap}
theorem En.ok {x qual:Str}{st:Stmt}{f:Addr}{fd:ZF}{N ps:List Str}{k:Nat}{sp:Sp}(F:En K x qual st f fd)(S:aO N ps (ar st))(len:∀vs H Q E,sp vs H Q E->vs.length=ps.length)
  (gM:∀(bR:YU) (A:ZQ) (outer:List Env) (s:YW) (H:Hp) (vs:List V) (Q:VK) (E:XK),cK k (A.deeper (ab8 qual (ar st) s.heap.objs.size f bR))->sp vs H Q E ->
   ∃t,sv (lS bU P w K mg base N qual (ar st) f bR A outer s H E).Cg (di st) t/\t {nx:=λ_ H'=>Q .b_ H',rt:=Q} (start N vs) H):aP P w K mg base bU (k+1) f fd ps sp:=by
 obtain⟨oc,od,kV,doc,pm,an,bR,ct,Fx,rfl,lk,yj⟩:=F.ex;refine HQ lk yj S len λA outer s H vs Q E hr i6=>?_;obtain⟨t,h,q⟩:=gM bR A outer s H vs Q E hr i6;exact⟨t,h.Cg,q⟩
theorem K4 {x qual:Str}{st:Stmt}{f:Addr}{oc:YU}{od an:Option Addr}{Fx:Array (Option YU)}{kV doc pm bR ct:YU}(l:K.lookup f=some ⟨oc,od,.func (PySem.W.fnOf x qual (lZ st) (di st) (ar st) .none kV doc pm an bR ct),Fx⟩)
  (c:PySem.W.codeIn K bR qual=true) (k:PySem.W.keepIn K (.ref f)=true):En K x qual st f (PySem.W.fnOf x qual (lZ st) (di st) (ar st) .none kV doc pm an bR ct):=⟨⟨oc,od,kV,doc,pm,an,bR,ct,Fx,rfl,l,c⟩,k⟩
end
section
variable {X:Cx}
theorem pv (i:Nat){x:Str}{pos:Pos}(hN:X.N[i]?=some x:=by rfl)(hv:Mc X.env.scope x:=by first|exact Or.inl rfl|exact Or.inr (Or.inl rfl)|exact Or.inr (Or.inr rfl))(hd:(x==("__debug__" : Str))=false:=by decide)
  (yj:(x==("__classdict__" : Str))=false:=by decide):PE X (.Name x pos) (II i):=BI hN hv hd yj
end
def aD (H H':Hp):Prop:=∀b o,H b=some o->H' b=some o
theorem aD.refl (H:Hp):aD H H:=λ_ _ h=>h
theorem aD.trans {H H1 H2:Hp}(a:aD H H1)(b:aD H1 H2):aD H H2:=λc o h=>b c o (a c o h)
theorem aD.free {H H':Hp}(e:aD H H'){l:Addr}(h:H' l=Option.none):H l=Option.none:=by
 cases q:H l with
 |none=>rfl
 |some o =>
  rw[e l o q]at h;cases h
theorem aD.seq {K:PySem.W.Frag}{H H':Hp}{a:Addr}{xs:List V}(e:aD H H')(h:dC K H a xs):dC K H' a xs:=by
 rcases h with (h|⟨o,h⟩)|h
 ·exact .inl (.inl (e _ _ h))
 ·exact .inl (.inr ⟨o,e _ _ h⟩)
 ·exact .inr h
structure Nm (X:Cx)(i:Nat)(x:Str):Prop where
 a:X.N[i]?=some x
 b:Mc X.env.scope x
 c:(x==("__debug__" : Str))=false
 d:(x==("__classdict__" : Str))=false
theorem JV {X:Cx}{i:Nat}{x:Str}(a:X.N[i]?=some x:=by rfl)(b:Mc X.env.scope x:=by first|exact .inl rfl|exact .inr (.inl rfl)|exact .inr (.inr rfl))(c:(x==("__debug__" : Str))=false:=by decide)(d:(x==("__classdict__" : Str))=false:=by decide):Nm X i x:=⟨a,b,c,d⟩
theorem mU {X:Cx}{i:Nat}{x:Str}{pos:Pos}(h:Nm X i x):PE X (.Name x pos) (II i):=BI h.a h.b h.c h.d
section
variable {X:Cx}{a b c:Expr}{ta tb:TE}{pos:Pos}
def yS (i j:Int):Prop:=0<j/\j.natAbs.log2<9000
theorem yS.of {i j:Int}(h0:0<j)(h:j<2 ^ 200):yS i j:=by
 refine⟨h0,?_⟩;have h2:j.natAbs<2 ^ 200:=by lia
 have:=(Nat.log2_lt (n:=j.natAbs) (k:=200) (by lia)).mpr h2
 lia
theorem BV:ik X (aas .FloorDiv) (rI yS λi j=>.int (i / j)):=LR λi j _ _ _ _ _ hc q=>by
 have h1:(0:Int)<j:=hc.1;exact floordiv_int (by lia) (by rw[Int.fdiv_eq_ediv_of_nonneg i (by lia)];exact q) (.inl (PyProof.noPylong_of_log2 hc.2))
def Ip (X:Cx)(ops:List abT)(rs:List Expr)(t:V->TE):Prop :=
 ∀(pos:Pos) (pins:List (Addr×Obj)) (s:YW) (σ:St) (H:Hp) (x:V) (v:YU) (Q:VK),Inv X pins σ H s->RelV x v->t x σ H Q ->
  Zr (model X.prog X.w) X.A (compareChain pos v ops (evalEach rs X.env)) (EP X pins σ Q) X.xe s
def vm (X:Cx)(ops:List abT)(rs:List Expr)(t:V->TT):Prop :=
 ∀(pos:Pos) (pins:List (Addr×Obj)) (s:YW) (σ:St) (H:Hp) (x:V) (v:YU) (Q:Bool->Hp->Prop),Inv X pins σ H s->RelV x v->t x σ H Q ->
  Zr (model X.prog X.w) X.A (testChain pos v ops (evalEach rs X.env)) (TP X pins σ Q) X.xe s
variable {op JE:abT}{ops:List abT}{rs:List Expr}{r:R2}{t:V->TE}{tt:V->TT}
theorem Ln (ho:ik X (ZR op) r)(hb:PE X b tb):Ip X [op] [b] (λx σ H Q=>tb σ H λy H2=>r x y H2 Q):=by
 intro pos pins s σ H x v Q I rx h;exact chain_last (bE (hb pins s σ H _ I h) λu s1 lQ=>by obtain⟨y,H1,I1,r1,q1⟩:=lQ;exact ho pins s1 σ H1 x y v u Q I1 rx r1 q1)
theorem GV (ho:ik X (ZR op) r)(hb:PE X b tb)(hc:Ip X (JE::ops) (c::rs) t):
  Ip X (op::JE::ops) (b::c::rs) (λx σ H Q=>tb σ H λy H2=>r x y H2 λz H3=>∃k,z=.bl k/\(if k=true then t y σ H3 Q else Q (.bl false) H3)):=by
 intro pos pins s σ H x v Q I rx h;refine chain_link (bE (hb pins s σ H _ I h) λu s1 ⟨y,H1,I1,r1,q1⟩=>bE (ho pins s1 σ H1 x y v u _ I1 rx r1 q1) λd s3 kP=>?_);obtain⟨z,H3,I3,r3,k,e,q3⟩:=kP;subst e;cases r3;refine aau ?_;cases k with
 |false=>exact ite_ff ⟨.bl false,H3,I3,rfl,q3⟩
 |true=>exact ite_tt (hc pos pins s3 σ H3 y u Q I3 r1 q3)
theorem zB {eJ eG:abT}(ha:PE X a ta)(hc:Ip X (eJ::eG::ops) (b::c::rs) t)(hm:lastMarks (eJ::eG::ops) (b::c::rs)=false:=by with_unfolding_all rfl):
  PE X (.Compare a (eJ::eG::ops) (b::c::rs) pos) (λσ H Q=>ta σ H λx H1=>t x σ H1 Q):=by
 intro pins s σ H Q I h;exact Compare_chain (bE (ha pins s σ H _ I h) λv s1 NR=>by obtain⟨x,H1,I1,r1,q1⟩:=NR;exact hc pos pins s1 σ H1 x v Q I1 r1 q1) hm
theorem GU (ho:ik X (ZR op) r)(hb:PE X b tb):vm X [op] [b] (λx σ H Q=>tb σ H λy H2=>r x y H2 λz H3=>∃k,z=.bl k/\Q k H3):=by
 intro pos pins s σ H x v Q I rx h;refine test_last (bE (hb pins s σ H _ I h) λu s1 ⟨y,H1,I1,r1,q1⟩=>bE (ho pins s1 σ H1 x y v u _ I1 rx r1 q1) λd s3 ui=>?_);obtain⟨z,H3,I3,r3,k,e,q3⟩:=ui;subst e;cases r3;exact aau ⟨H3,I3,q3⟩
theorem DO (ho:ik X (ZR op) r)(hb:PE X b tb)(hc:vm X (JE::ops) (c::rs) tt):
  vm X (op::JE::ops) (b::c::rs) (λx σ H Q=>tb σ H λy H2=>r x y H2 λz H3=>∃k,z=.bl k/\(if k=true then tt y σ H3 Q else Q false H3)):=by
 intro pos pins s σ H x v Q I rx h;refine test_link (bE (hb pins s σ H _ I h) λu s1 ⟨y,H1,I1,r1,q1⟩=>bE (ho pins s1 σ H1 x y v u _ I1 rx r1 q1) λd s3 CS=>?_);obtain⟨z,H3,I3,r3,k,e,q3⟩:=CS;subst e;cases r3;refine aau ?_;cases k with
 |false=>exact ite_ff ⟨H3,I3,q3⟩
 |true=>exact ite_tt (hc pos pins s3 σ H3 y u Q I3 r1 q3)
theorem zr {eJ eG:abT}(ha:PE X a ta)(hc:vm X (eJ::eG::ops) (b::c::rs) tt)(hm:lastMarks (eJ::eG::ops) (b::c::rs)=false:=by with_unfolding_all rfl):
  PT X (.Compare a (eJ::eG::ops) (b::c::rs) pos) (λσ H Q=>ta σ H λx H1=>tt x σ H1 Q):=by
 intro pins s σ H Q I h;exact isTrue_chain (bE (ha pins s σ H _ I h) λv s1 Gf=>by obtain⟨x,H1,I1,r1,q1⟩:=Gf;exact hc pos pins s1 σ H1 x v Q I1 r1 q1) hm
end
theorem rT:ZY "max" = some (.builtin "max"):=by decide +kernel
theorem oA:ZY "min" = some (.builtin "min"):=by decide +kernel
theorem Lx:ZY "int" = some (.type "int"):=by decide +kernel
theorem jR:ZY "list" = some (.type "list"):=by decide +kernel
theorem bK:ZY "sorted" = some (.builtin "sorted"):=by decide +kernel
theorem Lw:ZY "isinstance" = some (.builtin "isinstance"):=by decide +kernel
theorem gb:ZY "len" = some (.builtin "len"):=by decide +kernel
theorem aD.new {H:Hp}{p:Addr}{o:HO}(n:H p=none):aD H (L2.upd H p o):=λb u e=>by rw[ay (cJ e n)];exact e
section
end
theorem MX:Er 10 18:=⟨by decide,by decide,by decide⟩
section
end
noncomputable def a8 (X:Cx)(scope:abz)(N':List Str)(cl:List (Str×Addr))(C:Addr)(s:YW)(H:Hp)(ex:List Addr):Cx :=
 {X with N:=N',s₀:=s,H₀:=H,env:=compEnvC scope cl C X.env,outer:=X.stack,stack:=X.stack,ex:=ex,fn:=λ_=>false,pn:=[],xe:=λ_ _=>False}
theorem iZ {env:Env}:∀(names:List (Str×abR)) (cs:List (Str×Addr)),(∀x,(x,ZU)∈names->∃c,env.cells.lookup x=some c) ->
  (∀x c,cs.lookup x=some c->env.cells.lookup x=some c) ->
  ∃cl,(forIn names cs λ(p:Str×abR) (cs:List (Str×Addr))=>do
   if p.2==.free then do
    let a <- cellOf env p.1
    pure (ForInStep.yield ((p.1,a)::cs))
   else pure (ForInStep.yield cs):Sem (List (Str×Addr)))=pure cl /\
   (∀x,((x,ZU)∈names\/(∃c,cs.lookup x=some c))->∃c,cl.lookup x=some c)/\∀x c,cl.lookup x=some c->env.cells.lookup x=some c
 |[],cs,_,K0=>⟨cs,rfl,λx h=>h.elim (λz=>nomatch z) id,K0⟩
 | (n,k)::names,cs,hf,K0=>by
  by_cases hk:k=.free
  ·subst hk;obtain⟨c,hc⟩:=hf n (Y8 ..);obtain⟨cl,e,h1,h2⟩:=iZ names ((n,c)::cs) (λx hx=>hf x (Y7 _ hx)) (λx c' hx=>by
    rw[aag]at hx;cases q:x==n with
    |true=>rw[q]at hx;cases hx;rw[eq_of_beq q];exact hc
    |false=>rw[q]at hx;exact K0 x c' hx)
   refine⟨cl,?_,λx hx=>h1 x ?_,h2⟩
   ·rw[List.forIn_cons];have ec:cellOf env n=pure c:=by unfold cellOf;rw[hc]
    simp only[beq_self_eq_true,if_true,ec];exact e
   ·rcases hx with hx|⟨c',hx⟩
    ·rcases Y4.mp hx with z|z
     ·cases z;exact .inr ⟨c,by simp⟩
     ·exact .inl z
    ·right
     rw[aag];cases q:x==n with
     |true=>exact⟨c,rfl⟩
     |false=>exact⟨c',hx⟩
  ·obtain⟨cl,e,h1,h2⟩:=iZ names cs (λx hx=>hf x (Y7 _ hx)) K0;refine⟨cl,?_,λx hx=>h1 x ?_,h2⟩
   ·rw[List.forIn_cons];have hb:(k==ZU)=false:=by simpa using hk
    simp only[hb,abw,if_false];exact e
   ·rcases hx with hx|hx
    ·rcases Y4.mp hx with z|z
     ·cases z;exact absurd rfl hk
     ·exact .inl z
    ·exact .inr hx
theorem iF {env:Env}{scope:abz}(h:∀x,(x,ZU)∈scope.names->∃c,env.cells.lookup x=some c):
  ∃cl,closureFor scope env=pure cl/\(∀x,(x,ZU)∈scope.names->∃c,cl.lookup x=some c)/\∀x c,cl.lookup x=some c->env.cells.lookup x=some c:=by
 obtain⟨cl,e,h1,h2⟩:=iZ scope.names [] h (λx c z=>by simp at z)
 refine⟨cl,?_,λx hx=>h1 x (.inl hx),h2⟩;unfold closureFor;refine Eq.trans ?_ (congrArg (· >>= pure) e);rfl
structure Links (X:Cx)(scope:abz)(N':List Str)(lk:List (Option Nat)):Prop where
 kind:scope.kind=.function
 vZ:∀x∈scope.names,x.2≠.cell
 names:∀x∈scope.names,x.2=.local->scope.names.lookup x.1=some .local
 free:∀x,(x,ZU)∈scope.names->X.env.kindOf x=some .cell\/X.env.kindOf x=some .free
 len:lk.length=N'.length
 link:∀(i j:Nat),lk[i]?=some (some j)->∃x,N'[i]?=some x/\X.N[j]?=some x/\(x,ZU)∈scope.names/\scope.names.lookup x=some .free
noncomputable def ny (outer:List (Str×abR))(N:List Str)(scope:abz)(N':List Str)(lk:List (Option Nat)):Bool :=
 (scope.kind==.function)&&scope.names.all (λx=>x.2 != .cell&&(x.2 != .local || scope.names.lookup x.1==some .local)&&(x.2 != .free || outer.lookup x.1==some .cell || outer.lookup x.1==some .free)) &&
 lk.length==N'.length&&(Zi lk.length).all λi=>match lk[i]? with
  |some (some j)=>match N'[i]? with
   |some x=>N[j]?==some x&&scope.names.contains (x,.free)&&scope.names.lookup x==some .free
   |none=>false
  |_=>true
theorem Links.of {X:Cx}{scope:abz}{N':List Str}{lk:List (Option Nat)}(h:ny X.env.scope.names X.N scope N' lk=true):Links X scope N' lk:=by
 simp only[ny,ZI]at h;obtain⟨⟨⟨h1,h2⟩,h3⟩,h4⟩:=h;rw[abf]at h2 h4;refine⟨by simpa using h1,λx hx=>?_,λx hx hl=>?_,λx hx=>?_,by simpa using h3,λi j aT=>?_⟩
 ·have:=h2 x hx;simp only[ZI]at this;simpa using this.1.1
 ·have:=h2 x hx;simp only[ZI]at this;have q:=this.1.2;rw[hl]at q;simpa using q
 ·have:=h2 _ hx;simp only[ZI]at this;have q:=this.2;simp only[Bool.or_eq_true]at q;rcases q with (q|q)|q
  ·simp at q
  ·exact .inl (show X.env.scope.names.lookup x=some .cell by simpa using q)
  ·exact .inr (show X.env.scope.names.lookup x=some .free by simpa using q)
 ·have hi:i<lk.length:=(Y_.mp aT).1;have q:=h4 i (ZJ.mpr hi);rw[aT]at q;simp only at q;cases e:N'[i]? with
  |none=>rw[e]at q;simp at q
  |some x =>
   rw[e]at q;simp only[ZI]at q;obtain⟨⟨q1,q2⟩,q3⟩:=q;exact⟨x,rfl,by simpa using q1,by simpa using q2,by simpa using q3⟩
noncomputable def dU (lk:List (Option Nat))(σ:St):St:=lk.map λl=>match l with|some j=>(match σ[j]? with|some v=>v|none=>none)|none=>none
theorem dD {env:Env}:∀{names:List (Str×abR)} {x:Str},names.lookup x=some .free ->
  (names.map λ(n,k)=>if (k==ZU&&env.scope.kind==.function&&env.kindOf n==some .cell) then (n,abm) else (n,k)).lookup x=some .cell \/
  (names.map λ(n,k)=>if (k==ZU&&env.scope.kind==.function&&env.kindOf n==some .cell) then (n,abm) else (n,k)).lookup x=some .free
 |[],_,h=>by simp at h
 | (n,k)::r,x,h=>by
  have ih:=@dD env r x;show List.lookup x ((if (k==ZU&&env.scope.kind==.function&&env.kindOf n==some .cell)=true then (n,abm) else (n,k))::_)=_ \/
   List.lookup x ((if (k==ZU&&env.scope.kind==.function&&env.kindOf n==some .cell)=true then (n,abm) else (n,k))::_)=_
  cases hx:x==n with
  |true =>
   simp only[aag,hx]at h;cases h
   by_cases hc:(ZU==ZU&&env.scope.kind==.function&&env.kindOf n==some .cell)=true
   ·rw[if_pos hc];left;simp[aag,hx]
   ·rw[if_neg hc];right;simp[aag,hx]
  |false =>
   simp only[aag,hx]at h
   by_cases hc:(k==ZU&&env.scope.kind==.function&&env.kindOf n==some .cell)=true
   ·rw[if_pos hc];simp only[aag,hx];exact ih h
   ·rw[if_neg hc];simp only[aag,hx];exact ih h
theorem dB {env:Env}:∀{names:List (Str×abR)} {x:Str} {k:abR},(k=.cell\/k=.free)->(∀y∈names,y.2≠.cell) ->
  (names.map λ(n,k)=>if (k==ZU&&env.scope.kind==.function&&env.kindOf n==some .cell) then (n,abm) else (n,k)).lookup x=some k->(x,ZU)∈names
 |[],_,_,_,_,h=>by simp at h
 | (n,k')::r,x,k,hk,hc,h=>by
  have ih:=@dB env r x k hk (λy hy=>hc y (Y7 _ hy));have h':List.lookup x ((if (k'==ZU&&env.scope.kind==.function&&env.kindOf n==some .cell)=true then (n,abm) else (n,k'))::(r.map λ(n,k)=>if (k==ZU&&env.scope.kind==.function&&env.kindOf n==some .cell) then (n,abm) else (n,k)))=some k:=h
  have LZ:=hc (n,k') (Y8 ..)
  by_cases Gn:(k'==ZU&&env.scope.kind==.function&&env.kindOf n==some .cell)=true
  ·rw[if_pos Gn]at h';simp only[ZI,beq_iff_eq]at Gn;cases hx:x==n with
   |true=>rw[eq_of_beq hx,Gn.1.1];exact Y8 ..
   |false=>rw[aag,hx]at h';exact Y7 _ (ih h')
  ·rw[if_neg Gn]at h';cases hx:x==n with
   |true =>
    rw[aag,hx]at h';have e:k'=k:=by simpa using h'
    subst e;rcases hk with hk|hk
    ·exact absurd hk LZ
    ·rw[eq_of_beq hx,hk];exact Y8 ..
   |false=>rw[aag,hx]at h';exact Y7 _ (ih h')
section
variable {X:Cx}{pins:List (Addr×Obj)}{σ:St}{H:Hp}{s:YW}{scope:abz}{N':List Str}{lk:List (Option Nat)}{cl:List (Str×Addr)}{ex:List Addr}
theorem CO {h':Heap}{t':Nat}(I:Inv X pins σ H s)(L:Links X scope N' lk)(hex:∀b∈ex,gS X pins H b)(S6:∀b∈ex,∃o,s.heap.get? b=some o)
  (uo:∀x,(x,ZU)∈scope.names->∃c,cl.lookup x=some c) (sf:∀x c,cl.lookup x=some c->X.env.cells.lookup x=some c)
  (hn:h'.Ns s.heap.objs.size (λ_=>none)) (hk:∀b o,s.heap.get? b=some o->h'.get? b=some o) :
  Inv (a8 X scope N' cl s.heap.objs.size s H ex) [] (dU lk σ) H {s with heap:=h',toks:=t'}:=by
 obtain⟨m,hm,hl⟩:=I.loc;have X1:∀b∈ex,b≠s.heap.objs.size:=λb hb=>by
  obtain⟨o,e⟩:=S6 b hb;exact Zu (Za e)
 refine⟨⟨I.ok.mod,L.kind,I.ok.glob,I.ok.blt,YY _,λx y c h1 h2=>I.ok.inj x y c (sf _ _ h1) (sf _ _ h2),λx hx=>?_,λx c z=>(nomatch z),I.ok.hd,I.ok.frames,.inl rfl,
  λb hb=>⟨X1 b hb,λx c e=>(hex b hb).2.2.2.2.1 x c (sf _ _ e)⟩,I.bs,ZO I.ok.Aq I.sz,λb o e z=>?_,λb hb z=>?_,I.stack,I.qM⟩,
  rfl,I.bare,Un.kept hk,⟨_,hn,λi x v h1 h2 h3=>?_⟩,λx c e=>?_,I.bu.fresh (YY _),λx c e=>I.dq x c (sf _ _ e),λp hp=>absurd (show p∈([]:List (Addr×Obj)) from hp) (by simp),I.bu.kept hk,?_⟩
 ·have LY:(relabel scope X.env).names.lookup x=some .cell\/(relabel scope X.env).names.lookup x=some .free:=hx;rcases LY with q|q
  ·exact uo x (dB (.inl rfl) L.vZ q)
  ·exact uo x (dB (.inr rfl) L.vZ q)
 ·obtain⟨f0,f1,f2,f3,_⟩:=hex b z;rcases f3 with q|q
  ·exact I.ok.rj b o e q
  ·have h1:=Za e;have h2:=I.ok.Aq;exact absurd (Zv h1 (ZO h2 q)) (aaU _)
 ·obtain⟨f0,f1,f2,f3,_⟩:=hex b hb;rcases Y4.mp (I.vK b z)with q|q
  ·exact f1 q
  ·exact f2 q
 ·have hi:∃j,lk[i]?=some (some j)/\σ[j]?=some (some v):=by
   have C8:(dU lk σ)[i]?=some (some v):=h2;unfold dU at C8;rw[Zj]at C8;cases e:lk[i]? with
   |none=>rw[e]at C8;cases C8
   |some l =>
    cases l with
    |none=>rw[e]at C8;cases C8
    |some j =>
     rw[e]at C8;cases e2:σ[j]? with
     |none=>simp[e2]at C8
     |some w' =>
      simp only[Option.map_some,e2,Option.some.injEq]at C8;subst C8;exact⟨j,rfl,e2⟩
  obtain⟨j,hj,hσ⟩:=hi;obtain⟨y,e1,e2,e3,e4⟩:=L.link i j hj;have X0:x=y:=by
   have Gu:N'[i]?=some x:=h1;rw[e1]at Gu;exact(Zt Gu).symm
  subst X0;have RN:Mc X.env.scope x:=by
   rcases L.free x e3 with q|q
   ·exact .inr (.inl q)
   ·exact .inr (.inr q)
  obtain⟨u,ru,lu⟩:=hl j x v e2 hσ RN;refine⟨u,ru,.inr ⟨?_,?_⟩⟩
  ·exact dD e4
  ·rcases lu with⟨k,_⟩|⟨_,c,hc,z⟩
   ·rcases L.free x e3 with q|q <;> (rw[k]at q;cases q)
   ·obtain⟨c',rF⟩:=uo x e3;have:=sf x c' rF;rw[hc]at this;cases this;obtain⟨o,ho,hd⟩:=z;exact⟨c,rF,o,hk _ _ ho,hd⟩
 ·obtain⟨v,o,ho,hd⟩:=I.cell x c (sf _ _ e);exact⟨v,o,hk _ _ ho,hd⟩
 ·show (dU lk σ).length=N'.length;unfold dU;rw[YX,L.len]
theorem CP {s':YW}{σ':St}{H':Hp}{pl:List (Addr×Obj)}{C:Addr}{h'':Heap}(I:Inv X pins σ H s)(hex:∀b∈ex,gS X pins H b)
  (J:Inv (a8 X scope N' cl s.heap.objs.size s H ex) pl σ' H' s') (hs:abg s.heap.objs.size s'.heap h''):Inv X pins σ H' {s' with heap:=h''}:=by
 have hC:H' s.heap.objs.size=none:=J.free;have u:=J.base;refine I.Ii (ch:=ex) (s':={s' with heap:=h''}) J.os ?_ ?_ J.bare (λb hb=>?_)
 ·have kk:∀b o,b≠s.heap.objs.size->s'.heap.get? b=some o->h''.get? b=some o:=λb o hb e=>(hs.2 b hb).trans e;have ne:∀b o,s.heap.get? b=some o->b≠s.heap.objs.size:=λb o e=>Zu (Za e);refine⟨λb o e n hb hx=>kk b _ (ne b o e) (u.keep b o e n hb hx),λb o e n hb hx=>?_,u.free,λb o e hx=>?_,u.iJ,u.iq,u.iK⟩
  ·obtain⟨sl,q⟩:=u.slot b o e n hb hx;exact⟨sl,kk b _ (ne b o e) q⟩
  ·obtain⟨o',q⟩:=u.there b o e hx;exact⟨o',kk b _ (ne b o e) q⟩
 ·intro b o e;have hb:b≠s.heap.objs.size:=λz=>by rw[z]at e;rw[hC]at e;cases e
  refine(J.bu b o e).jh (λc v hc q=>(hs.2 c ?_).trans q) (λ_ q=>q) λ_ _ q=>q;rcases hc with z|z
  ·rw[z];exact hb
  ·intro z';rw[z']at z;rw[hC]at z;cases z
 ·obtain⟨f0,f1,f2,f3,f4,f5⟩:=hex b hb;exact⟨f3,f1,f4,f5⟩
end
noncomputable def mh (g:acs)(after:Sem Fin->Sem Fin)(e:Expr)(d:Nat)(it acc:YU)(env:Env):Sem Fin:=do
 standAt g.iter.pos
 match <- pyNext it with
 |none=>pure (.done .next)
 |some v =>
  letOwnedTupleGo g.target it v
  assign g.target env v
  let mut ok:=true
  for c in g.ifs do
   if ok then ok <- isTrue c env (eval c env)
  if ok then after (again (.compLoop e d it acc env)) else again (.compLoop e d it acc env)
def pE (t:Sem Unit)(k:Sem Fin):Sem Fin:=do
 t
 k
def Dw (elt:Expr)(acc:YU)(env:Env):Sem Unit:=do let _ <- call (.builtin "list.append") [acc,<- eval elt env]
def Dv (elt:Expr)(acc:YU)(env:Env):Sem Unit:=do let v <- eval elt env;standAt elt.pos;let _ <- call (.builtin "set.add") [acc,v]
structure lK (e:Expr)(d:Nat)(g:acs)(acc:YU)(env:Env)(after:Sem Fin->Sem Fin):Prop where
 turn:∀it,compTurn e d it acc env=mh g after e d it acc env
 cl:(clausesOf e)[d]?=some g
 sync:g.is_async=0
 quiet:∀it,(acu e d it acc env).quiet=true
 under:∀(A:ZQ) it,A.under (acu e d it acc env)=A
 IE:∀(A:ZQ) it,A.under (Code.compStart e d it acc env)=A
 JU:∀it,(acu e d it acc env).isFrame=false
 M9:∀it,(Code.compStart e d it acc env).isFrame=false
section
variable {elt tg gJ:Expr}{ifs:List Expr}{sc:abz}{pos:Pos}{acc:YU}{env:Env}
theorem Ih:lK (.ListComp elt [⟨tg,gJ,ifs,0⟩] sc pos) 0 ⟨tg,gJ,ifs,0⟩ acc env (pE (Dw elt acc env)) :=
 ⟨λ_=>rfl,rfl,rfl,λ_=>rfl,λ_ _=>rfl,λ_ _=>rfl,λ_=>rfl,λ_=>rfl⟩
theorem OG:lK (.SetComp elt [⟨tg,gJ,ifs,0⟩] sc pos) 0 ⟨tg,gJ,ifs,0⟩ acc env (pE (Dv elt acc env)) :=
 ⟨λ_=>rfl,rfl,rfl,λ_=>rfl,λ_ _=>rfl,λ_ _=>rfl,λ_=>rfl,λ_=>rfl⟩
end
def Mq:TT:=λ_ H Q=>Q true H
def xf (X:Cx)(ifs:List Expr)(t:TT):Prop :=
 ∀(pins:List (Addr×Obj)) (s:YW) (σ:St) (H:Hp) (Q:Bool->Hp->Prop),Inv X pins σ H s->t σ H Q ->
  Zr (model X.prog X.w) X.A (forIn ifs true λc r=>if r=true then do let ok <- isTrue c X.env (eval c X.env);pure (ForInStep.yield ok) else pure (ForInStep.yield r)) (TP X pins σ Q) X.xe s
theorem Fe {X:Cx}:xf X [] Mq:=λ_ _ _ H _ I h=>wpAny_tests_nil ⟨H,I,h⟩
theorem Fd {X:Cx}{c:Expr}{t:TT}(h:PT X c t):xf X [c] t:=λpins s σ H Q I q=>wpAny_tests_one (h pins s σ H Q I q)
abbrev pz:=(St->Hp->Prop)->St->Hp->Prop
def vi (X:Cx)(after:Sem Fin->Sem Fin)(t:pz):Prop :=
 ∀(pins:List (Addr×Obj)) (s:YW) (σ:St) (H:Hp) (N:St->Hp->Prop) (k:Sem Fin) (Q:Fin->YW->Prop) (E:YU->YW->Prop),Inv X pins σ H s->t N σ H ->
  (∀σ' H' s',Inv X pins σ' H' s'->N σ' H'->Zr (model X.prog X.w) X.A k Q E s')->Zr (model X.prog X.w) X.A (after k) Q E s
theorem jx {X:Cx}(hx:X.xe=λ_ _=>False){α:Type}{t:Sem α}{Q:α->YW->Prop}{E:YU->YW->Prop}{s:YW}(h:Zr (model X.prog X.w) X.A t Q X.xe s):Zr (model X.prog X.w) X.A t Q E s :=
 aa8 h (λ_ _ q=>q) λe s q=>by rw[hx]at q;exact q.elim
def iy (J:It)(g:TG)(tt:TT)(ta:pz)(End:St->Hp->Prop):St->Hp->Prop:=λσ H =>
 ∃W:Nat->Nat->St->Hp->Prop,(∃m,W 0 m σ H)/\∀i m σ H,W i m σ H->(J.stop i H/\End σ H) \/
  (J.go i H/\∃N:St->Hp->Prop,(∀σ' H',N σ' H'->∃m',m'<m/\W (i+1) m' σ' H')/\∀x H',J.Mi i H x H'->g x σ H' λσ2 H2=>tt σ2 H2 λb H3=>if b=true then ta N σ2 H3 else N σ2 H3)
section
variable {X:Cx}{e:Expr}{d:Nat}{g:acs}{acc:YU}{after:Sem Fin->Sem Fin}{tg:TG}{tt:TT}{ta:pz}
theorem Ai (hx:X.xe=λ_ _=>False)(hc:X.calm=true)(F:lK e d g acc X.env after)(hg:PG X g.target tg)(ht:xf X g.ifs tt)(ha:vi X after ta)
  {it:Addr} {fp:List Addr} {tn:Nat->Heap->Prop} {J:It} (T:Turn X.prog X.w X.K g.target J fp it tn) {pins:List (Addr×Obj)} {σ:St} {H:Hp} {s:YW} {End:St->Hp->Prop}
  (I:Inv X pins σ H s) (st:tn 0 s.heap) (hf:∀b∈fp,gS X pins H b) (h:iy J tg tt ta End σ H) :
  abN (model X.prog X.w) X.A (.compLoop e d (.ref it) acc X.env) (λr s'=>r=.ok .next/\∃σ' H',Inv X pins σ' H' s'/\End σ' H') s:=by
 obtain⟨W,⟨m0,w0⟩,turn⟩:=h;have vL:∀{H':Hp},(∀b∈fp,H' b=none)->∀b∈fp,gS X pins H' b:=λhn b hb=>⟨hn b hb,(hf b hb).2⟩;refine codeAny_loop (F.quiet _) (λn s'=>∃i σ' H',Inv X pins σ' H' s'/\tn i s'.heap/\(∀b∈fp,H' b=none)/\W i n σ' H') (λn s3 hI=>?_) m0 ⟨0,σ,H,I,st,λb hb=>(hf b hb).1,w0⟩;obtain⟨i,σ3,H3,I3,mC,Oh,w3⟩:=hI;rw[F.under];have KZ:(model X.prog X.w).den (.compLoop e d (.ref it) acc X.env)=(mh g after e d (.ref it) acc X.env).onRaise (λx=>do noteFrame x X.env;theTreesLotGoes x):=by
  rw[<- F.turn];show (if (acu e d (.ref it) acc X.env).isFrame then _ else _)=_
  rw[F.JU];rfl
 rw[KZ];refine wpAny_noted ?_;unfold mh;rcases turn i n σ3 H3 w3 with⟨stop,qn⟩|⟨go,N,hN,step⟩
 ·refine YV (aaT (YV (bE (T.done X rfl rfl rfl hc i pins s3 σ3 H3 _ I3 (vL Oh) mC stop) λr s4 kP=>?_)));obtain⟨hr,I4⟩:=kP;subst hr;exact YZ ⟨rfl,σ3,H3,I4,qn⟩
 ·refine YV (aaT (YV (bE (T.item X rfl rfl rfl hc i pins s3 σ3 H3 _ I3 (vL Oh) mC go) λr s4 ui=>?_)));obtain⟨u,hr,h4⟩:=ui;subst hr;refine YV (bE h4 λ_ s5 CS=>?_);obtain⟨x,H5,I5,r5,y5,IL,TJ⟩:=CS;have Ui:=I5.pinned (vL TJ) (T.obj _ _ IL);refine YV (bE (jx hx (hg _ s5 σ3 H5 x u _ Ui r5 (step x H5 y5))) λ_ s6 RM=>?_);obtain⟨σ6,H6,I6,q6⟩:=RM;refine YV (bE (jx hx (ht _ s6 σ6 H6 _ I6 q6)) λok s7 RL=>?_);obtain⟨H7,I7,q7⟩:=RL;have Ed:∀{σ8:St} {H8:Hp} {s8:YW},Inv X (pins++mT fp s5.heap) σ8 H8 s8->N σ8 H8->∃m,m<n/\∃i σ' H',Inv X pins σ' H' s8/\tn i s8.heap/\(∀b∈fp,H' b=none)/\W i m σ' H':=λ{σ8 H8 s8} I8 n8=>by
   obtain⟨m',hm,w8⟩:=hN σ8 H8 n8;refine⟨m',hm,i+1,σ8,H8,I8.i_,T.keep _ _ _ IL λb hb o e=>(I8.pin (b,o) (ZK _ (ZK _ (fX hb e)))).1,λb hb=>?_,w8⟩;obtain⟨o,e,d⟩:=T.obj _ _ IL b hb;exact(I8.pin (b,o) (ZK _ (ZK _ (fX hb e)))).2.1
  cases ok with
  |false=>exact YZ ⟨rfl,Ed I7 (by simpa using q7)⟩
  |true =>
   exact ha _ s7 σ6 H7 N _ _ _ I7 (by simpa using q7) λσ8 H8 s8 I8 n8=>YZ ⟨rfl,Ed I8 n8⟩
theorem wW (hx:X.xe=λ_ _=>False)(hc:X.calm=true)(F:lK e d g acc X.env after)(hg:PG X g.target tg)(ht:xf X g.ifs tt)(ha:vi X after ta)
  {it:Addr} {fp:List Addr} {tn:Nat->Heap->Prop} {J:It} (T:Turn X.prog X.w X.K g.target J fp it tn) {pins:List (Addr×Obj)} {σ:St} {H:Hp} {s:YW} {End:St->Hp->Prop}
  (I:Inv X pins σ H s) (st:tn 0 s.heap) (hf:∀b∈fp,gS X pins H b) (h:iy J tg tt ta End σ H) :
  abN (model X.prog X.w) X.A (.compStart e d (.ref it) acc X.env) (λr s'=>r=.ok .next/\∃σ' H',Inv X pins σ' H' s'/\End σ' H') s:=by
 have lp:=Ai hx hc F hg ht ha T I st hf h;refine codeAny_of_tree ?_;rw[F.IE];have KZ:(model X.prog X.w).den (.compStart e d (.ref it) acc X.env)=(compStart e d (.ref it) acc X.env).onRaise (λx=>do noteFrame x X.env;standAt theWindowsPlace):=by
  show (if (Code.compStart e d (.ref it) acc X.env).isFrame then _ else _)=_
  rw[F.M9];rfl
 rw[KZ];refine wpAny_notedAt ?_;unfold compStart;rw[F.cl];simp only[Option.elim_some,F.sync];show Zr _ _ (ask >>= _) _ _ s;refine YV (acz (wpAny_ite ?_))
 split
 ·first
   |exact YV (YZ (YZ (And.intro (F.quiet _) lp)))
   |exact YZ (And.intro (F.quiet _) lp)
 ·have h2:∀(E:YU->YW->Prop),Zr (model X.prog X.w) X.A (pyIter (.ref it)) (λPa s'=>(acu e d Pa acc X.env).quiet=true/\abN (model X.prog X.w) X.A (.compLoop e d Pa acc X.env) (λr s'=>r=.ok .next/\∃σ' H',Inv X pins σ' H' s'/\End σ' H') s') E s :=
   λE=>T.self X.A 0 s _ E st ⟨F.quiet _,lp⟩
  first
   |exact YV (abJ (YV (aaT (YV (aa8 (h2 _) (λPa s' h'=>YZ h') λ_ _ x=>x)))))
   | (refine YV (abJ ?_);exact YV (aaT (YV (aa8 (h2 _) (λPa s' h'=>YZ h') λ_ _ x=>x))))
theorem tL {elt:Expr}{te:TE}{a:Addr}(hx:X.xe=λ_ _=>False)(he:PE X elt te):
  vi X (pE (Dw elt (.ref a) X.env)) (λN σ H=>te σ H λv H1=>∃xs,H1 a=some (.lst xs)/\xs.length<Zf/\N σ (upd H1 a (.lst (xs++[v])))):=by
 intro pins s σ H N k Q E I h hk;unfold pE Dw;refine YV (YV (bE (jx hx (he pins s σ H _ I h)) λu s1 RK=>?_));obtain⟨v,H1,I1,r1,xs,hH,hz,q⟩:=RK;refine YV (bE (jx hx <| kq (X:=X) pins s1 σ H1 (.ref a) [v] (.ref a) [u] (λw' H'=>N σ H') I1 rfl (.cons r1 .nil) ⟨a,xs,v,rfl,rfl,hH,hz,q⟩) λ_ s2 W4=>?_)
 obtain⟨_,H2,I2,_,q2⟩:=W4;exact YZ (hk σ H2 s2 I2 q2)
end
section
variable {X:Cx}{e:Expr}
structure xg (X:Cx)(c9:Sem YU)(o:HO):Prop where
 ok:∀(pins:List (Addr×Obj)) (s:YW) (σ:St) (H:Hp) (Q:YU->YW->Prop) (E:YU->YW->Prop),Inv X pins σ H s ->
  (∀a s',s.heap.objs.size<=a->H a=none->(∀b o,s.heap.get? b=some o->s'.heap.get? b=some o)->Inv X pins σ (upd H a o) s'->Q (.ref a) s')->Zr (model X.prog X.w) X.A c9 Q E s
theorem tX:xg X (newList []) (.lst []) :=
 ⟨λpins s σ H Q E I h=>aal (h _ _ (YY _) I.fresh (λb o e=>Y3 _ e) (I.Cv (its:=[]) (t':=s.toks) .nil (Zm _)))⟩
theorem Inv.sameBut {pins:List (Addr×Obj)}{σ:St}{H:Hp}{s:YW}{C:Addr}{h':Heap}(I:Inv X pins σ H s)(f:gS X pins H C)(hs:abg C s.heap h'):Inv X pins σ H {s with heap:=h'}:=by
 obtain⟨f0,f1,f2,f3,f4,f5⟩:=f;exact I.turned (t':=s.toks) (λb o hb e=>(hs.2 b hb).trans e) f0 f1 f3 f4 f5
end
end L2
namespace ST
open PySem PySem.SetTable
def it:Nat->Nat->Nat
 |0,x=>x
 |n+1,x=>5*it n x+1
theorem wo (a:Nat):∀(b x:Nat),it (a+b) x=it b (it a x)
 |0,x=>rfl
 |b+1,x=>by
  show 5*it (a+b) x+1=5*it b (it a x)+1;rw[wo a b x]
theorem CM:∀j:Nat,∃a b:Nat,∀x,it (2 ^ j) x=(1+4*2 ^ j*a)*x+2 ^ j*(1+2*b)
 |0=>⟨1,0,λx=>by show 5*x+1=_;simp⟩
 |j+1=>by
  obtain⟨a,b,h⟩:=CM j;refine⟨a+2*2 ^ j*a*a,b+2 ^ j*a*(1+2*b),λx=>?_⟩;rw[show 2 ^ (j+1)=2 ^ j+2 ^ j by rw[Nat.pow_succ];lia,wo,h,h]
  generalize 2 ^ j=P
  grind
theorem lift:∀(j x t:Nat),∃k,k<2 ^ j/\it k x % 2 ^ j=t % 2 ^ j
 |0,x,t=>⟨0,by decide,by rw[Nat.pow_zero,Nat.mod_one,Nat.mod_one]⟩
 |j+1,x,t=>by
  obtain⟨k,hk,e⟩:=lift j x t;obtain⟨a,b,h⟩:=CM j;have hP:0<2 ^ j:=Nat.pow_pos (by decide)
  rw[Nat.pow_succ]
  by_cases q:it k x % (2 ^ j*2)=t % (2 ^ j*2)
  ·exact⟨k,by lia,q⟩
  ·refine⟨k+2 ^ j,by lia,?_⟩
   rw[wo,h];generalize it k x=y at *
   generalize 2 ^ j=P at *
   have e1:((1+4*P*a)*y+P*(1+2*b))=(y+P)+(P*2)*(2*a*y+b):=by grind
   rw[e1,Nat.add_mul_mod_self_left,Nat.mod_mul,Nat.mod_mul];rw[Nat.mod_mul,Nat.mod_mul,e]at q;rw[Nat.add_mod_right,Nat.add_div_right _ hP,e];have u1:y / P % 2<2:=ab9 _ (by decide)
   have u2:t / P % 2<2:=ab9 _ (by decide)
   have u3:y / P % 2≠t / P % 2:=λz=>q (by rw[z])
   have u4:(y / P).succ % 2=t / P % 2:=by lia
   rw[u4]
def dy (m:Nat)(p:Probe):Probe:=advance {mask:=m,place:=#[],dummies:=#[],finger:=0,led:=true,moves:=0,plain:=true} p
def Ql (m:Nat)(h:Int):Probe:=probeStart {mask:=m,place:=#[],dummies:=#[],finger:=0,led:=true,moves:=0,plain:=true} h
theorem IK (t:SetTable)(h:Int):probeStart t h=Ql t.mask h:=rfl
noncomputable def gv (m:Nat)(h:Int):Nat->Probe
 |0=>Ql m h
 |n+1=>dy m (gv m h n)
def cL (m:Nat)(h:Int)(n:Nat):Nat:=(gv m h n).j
def lp (m:Nat)(h:Int):Nat->Nat×Nat
 |0=>(bits h % (m+1),bits h)
 |k+1=>leap m (lp m h k).1 (lp m h k).2
def Mb (m:Nat)(x:Nat×Nat):Probe:={j:=x.1,more:=runEnd m x.1-x.1,i:=x.1,perturb:=x.2,dummy:=none}
theorem IZ (m i:Nat):runEnd m i-i<=9:=by
 unfold runEnd
 split <;> lia
theorem wu (m:Nat)(h:Int)(x:Nat×Nat)(n:Nat)(e:gv m h n=Mb m x):∀d,d<=runEnd m x.1-x.1->gv m h (n+d)={Mb m x with j:=x.1+d,more:=runEnd m x.1-x.1-d}
 |0,_=>by rw[Nat.add_zero,e];rfl
 |d+1,hd=>by
  show dy m (gv m h (n+d))=_;rw[wu m h x n e d (by lia)]
  unfold dy advance;rw[if_pos (by show runEnd m x.1-x.1-d>0;lia)]
  rfl
theorem vb (m:Nat)(h:Int)(x:Nat×Nat)(n:Nat)(e:gv m h n=Mb m x):gv m h (n+(runEnd m x.1-x.1)+1)=Mb m (leap m x.1 x.2):=by
 show dy m (gv m h (n+(runEnd m x.1-x.1)))=_;rw[wu m h x n e _ (YY _)];unfold dy advance;rw[if_neg (by show ¬ runEnd m x.1-x.1-(runEnd m x.1-x.1)>0;lia)]
 rfl
theorem DV (m:Nat)(h:Int):∀k,∃n,n<=10*k/\gv m h n=Mb m (lp m h k)
 |0=>⟨0,YY _,rfl⟩
 |k+1=>by
  obtain⟨n,h1,h2⟩:=DV m h k;refine⟨n+(runEnd m (lp m h k).1-(lp m h k).1)+1,?_,vb m h _ n h2⟩;have:=IZ m (lp m h k).1;lia
theorem Ct (m:Nat)(h:Int):∀k,(lp m h k).2=bits h / 32 ^ k
 |0=>by rw[Nat.pow_zero,Nat.div_one];rfl
 |k+1=>by
  show (lp m h k).2 / 32=_;rw[Ct m h k,Nat.div_div_eq_div_mul,Nat.pow_succ]
theorem G3 (h:Int):bits h<2 ^ 64:=by
 unfold bits;have h1:=ace h (show (0:Int)<2 ^ 64 by decide)
 have h2:=Int.emod_nonneg h (show (2 ^ 64:Int)≠0 by decide)
 lia
theorem F1 (m:Nat)(h:Int){k:Nat}(hk:13<=k):(lp m h k).2=0:=by
 rw[Ct];refine Nat.div_eq_of_lt (Zv (G3 h) ?_);have:32 ^ 13<=32 ^ k:=aaQ (by decide) hk
 exact ZO (by decide) this
theorem Hz {j:Nat}(h:Int):∀d,(lp (2 ^ j-1) h (13+d)).1=it d (lp (2 ^ j-1) h 13).1 % 2 ^ j:=by
 have hP:2 ^ j-1+1=2 ^ j:=by have:0<2 ^ j:=Nat.pow_pos (by decide);lia
 have lt:∀k,(lp (2 ^ j-1) h k).1<2 ^ j:=λk=>by
  cases k with
  |zero=>show bits h % (2 ^ j-1+1)<_;rw[hP];exact ab9 _ (by lia)
  |succ k=>show (_*5+1+_ / 32) % (2 ^ j-1+1)<_;rw[hP];exact ab9 _ (by lia)
 intro d
 induction d with
 |zero=>exact(Nat.mod_eq_of_lt (lt 13)).symm
 |succ d ih =>
  show ((lp (2 ^ j-1) h (13+d)).1*5+1+(lp (2 ^ j-1) h (13+d)).2 / 32) % (2 ^ j-1+1)=(5*it d _+1) % 2 ^ j;rw[hP,F1 _ h (by lia),ih,Nat.zero_div,Nat.add_zero,Nat.mul_comm]
  conv=>rhs;rw[Nat.add_mod,Nat.mul_mod]
  rw[Nat.add_mod,Nat.mul_mod,Nat.mod_mod]
theorem X8 (j:Nat)(h:Int){t:Nat}(ht:t<2 ^ j):∃n,n<10*turns (2 ^ j-1)/\cL (2 ^ j-1) h n=t:=by
 obtain⟨k,hk,e⟩:=lift j (lp (2 ^ j-1) h 13).1 t;obtain⟨n,h1,h2⟩:=DV (2 ^ j-1) h (13+k);refine⟨n,by unfold turns;lia,?_⟩
 unfold cL;rw[h2];show (lp (2 ^ j-1) h (13+k)).1=t;rw[Hz,e,Nat.mod_eq_of_lt ht]
abbrev g (xs:Array Nat)(i:Nat):Nat:=xs.getD i 0
theorem wA {xs:Array Nat}{i:Nat}(h:i<xs.size):xs[i]?=some (g xs i):=by
 rw[getElem?_pos xs i h,g,Zo,getElem?_pos xs i h];rfl
def Io (xs:Array Nat):Prop:=∀i j,i<j->j<xs.size->g xs i<g xs j
theorem Io.inj {xs:Array Nat}(r:Io xs){i j:Nat}(hi:i<xs.size)(hj:j<xs.size)(e:g xs i=g xs j):i=j:=by
 rcases Nat.lt_trichotomy i j with h|h|h
 ·have:=r i j h hj;lia
 ·exact h
 ·have:=r j i h hi;lia
theorem oB {xs:Array Nat}{j:Nat}(r:Io xs):∀(f lo hi:Nat),hi<=xs.size->lo<=hi->hi-lo<=f->(∀k,k<lo->g xs k<j)->(∀k,hi<=k->k<xs.size->j<=g xs k) ->
  below.go xs j f lo hi<=xs.size/\(∀k,k<below.go xs j f lo hi->g xs k<j)/\(∀k,below.go xs j f lo hi<=k->k<xs.size->j<=g xs k)
 |0,lo,hi,h1,h2,h3,h4,h5=>by
  obtain rfl:lo=hi:=by omega
  exact⟨h1,h4,h5⟩
 |f+1,lo,hi,h1,h2,h3,h4,h5=>by
  unfold below.go
  by_cases hl:lo<hi
  ·rw[if_pos hl];dsimp only;have hm:(lo+hi) / 2<xs.size:=by omega
   have e:xs.getD ((lo+hi) / 2) j=g xs ((lo+hi) / 2):=by
    rw[g,Zo,Zo,getElem?_pos xs _ hm];rfl
   rw[e]
   by_cases hc:g xs ((lo+hi) / 2)<j
   ·rw[if_pos hc];refine oB r f _ _ h1 (by omega) (by omega) (λk hk=>?_) h5
    by_cases Td:k=(lo+hi) / 2
    ·rw[Td];exact hc
    ·have:=r k ((lo+hi) / 2) (by omega) hm;omega
   ·rw[if_neg hc];refine oB r f _ _ (by omega) (by omega) (by omega) h4 (λk hk LZ=>?_)
    by_cases Td:k=(lo+hi) / 2
    ·rw[Td];omega
    ·have:=r ((lo+hi) / 2) k (by omega) LZ;omega
  ·rw[if_neg hl];obtain rfl:lo=hi:=by omega
   exact⟨h1,h4,h5⟩
theorem gc {xs:Array Nat}(r:Io xs)(j:Nat):below xs j<=xs.size/\(∀k,k<below xs j->g xs k<j)/\(∀k,below xs j<=k->k<xs.size->j<=g xs k) :=
 oB r xs.size 0 xs.size (YY _) (Zm _) (YY _) (λk hk=>by lia) (λk h1 h2=>by lia)
theorem below_at {xs:Array Nat}(r:Io xs){i:Nat}(hi:i<xs.size):below xs (g xs i)=i:=by
 obtain⟨h1,h2,h3⟩:=gc r (g xs i);rcases Nat.lt_trichotomy (below xs (g xs i)) i with h|h|h
 ·have:=h3 (below xs (g xs i)) (YY _) (by omega)
  have:=r _ _ h hi;omega
 ·exact h
 ·have:=h2 i h;omega
def rZ (t:SetTable)(x:Nat):Prop:=∃i,i<t.place.size/\g t.place i=x
theorem pJ {t:SetTable}(r:Io t.place){i:Nat}(hi:i<t.place.size):t.slot (g t.place i)=.live i:=by
 unfold slot;dsimp only;rw[below_at r hi,if_pos (by rw[wA hi];exact beq_self_eq_true _)]
theorem zb {t:SetTable}(r:Io t.place)(d:t.dummies=#[]){x:Nat}(h:¬ rZ t x):t.slot x=.empty:=by
 unfold slot;dsimp only;rw[if_neg ?_,if_neg ?_]
 ·rw[d];unfold has;simp
 ·intro q;have q:=eq_of_beq q;have hl:below t.place x<t.place.size:=by
   rcases aaq (below t.place x) t.place.size with z|z
   ·exact z
   ·rw[aaL z]at q;cases q
  rw[wA hl]at q;exact h ⟨_,hl,Zt q⟩
structure WF (t:SetTable)(hs:List Int):Prop where
 L7:t.dummies=#[]
 sz:t.place.size=hs.length
 zi:Io t.place
 VG:∀i,i<t.place.size->g t.place i<=t.mask
 Hy:∃j,3<=j/\t.mask=2 ^ j-1
 room:t.place.size<=t.mask
 UH:∀i h,hs[i]?=some h->∃n,cL t.mask h n=g t.place i/\∀k,k<n->rZ t (cL t.mask h k)
theorem least {p:Nat->Prop}[DecidablePred p]:∀n,p n->∃m,m<=n/\p m/\∀k,k<m->¬ p k:=by
 intro n
 induction n using Nat.strongRecOn with
 |_ n ih =>
  intro hn
  by_cases h:∃k,k<n/\p k
  ·obtain⟨k,hk,hp⟩:=h;obtain⟨m,h1,h2,h3⟩:=ih k hk hp;exact⟨m,by lia,h2,h3⟩
  ·exact⟨n,YY _,hn,λk hk hp=>h ⟨k,hk,hp⟩⟩
instance (t:SetTable):DecidablePred (rZ t):=λx=>decidable_of_iff (∃i,i<t.place.size/\g t.place i=x) Iff.rfl
theorem WF.hole {t:SetTable}{hs:List Int}(w:WF t hs):∃x,x<=t.mask/\¬ rZ t x:=by
 refine abi λo7=>?_;have all:∀x,x<=t.mask->rZ t x:=λx hx=>abi λq=>o7 ⟨x,hx,q⟩;have up:∀x,x<=t.mask->∃i,i<t.place.size/\g t.place i=x/\x<=i:=by
  intro x
  induction x with
  |zero =>
   intro hx;obtain⟨i,h1,h2⟩:=all 0 hx;exact⟨i,h1,h2,Zm _⟩
  |succ x ih =>
   intro hx;obtain⟨i,h1,h2,h3⟩:=ih (by lia)
   obtain⟨i',h4,h5⟩:=all (x+1) hx;refine⟨i',h4,h5,?_⟩;rcases aaq i i' with q|q
   ·lia
   ·rcases aaq i' i with q2|q2
    ·have:=w.zi i' i q2 h1;lia
    ·obtain rfl:i=i':=by lia
     lia
 obtain⟨i,h1,h2,h3⟩:=up t.mask (YY _);have:=w.room;lia
theorem WF.first {t:SetTable}{hs:List Int}(w:WF t hs)(h:Int):∃n,n<10*turns t.mask/\¬ rZ t (cL t.mask h n)/\∀k,k<n->rZ t (cL t.mask h k):=by
 obtain⟨x,hx,hf⟩:=w.hole;obtain⟨j,_,hj⟩:=w.Hy;have LY:x<2 ^ j:=by have:0<2 ^ j:=Nat.pow_pos (by decide);lia
 obtain⟨n,h1,h2⟩:=X8 j h LY;rw[<- hj]at h1 h2;obtain⟨m,g1,g2,g3⟩:=least (p:=λn=>¬ rZ t (cL t.mask h n)) n (by rw[h2];exact hf)
 exact⟨m,by lia,g2,λk hk=>abi λq=>g3 k hk q⟩
theorem kh (m:Nat)(h:Int):∀n,(gv m h n).dummy=none
 |0=>rfl
 |n+1=>by
  show (dy m (gv m h n)).dummy=none;unfold dy advance
  split
  ·exact kh m h n
  ·exact kh m h n
theorem tx {t:SetTable}{hs:List Int}(w:WF t hs)(ha:Nat->Int)(h:Int){N:Nat}(hN:¬ rZ t (cL t.mask h N))(hO:∀k,k<N->rZ t (cL t.mask h k)):∀(d n f:Nat),n+d=N->d<f ->
  (probe.go t ha h f (gv t.mask h n)=some (.empty (cL t.mask h N) none)/\∀k,n<=k->k<N->∀i,i<t.place.size->g t.place i=cL t.mask h k->ha i≠h) \/
  ∃m i,n<=m/\m<N/\i<t.place.size/\g t.place i=cL t.mask h m/\ha i=h/\probe.go t ha h f (gv t.mask h n)=some (.candidate (cL t.mask h m) i (gv t.mask h (m+1)))/\∀k,n<=k->k<m->∀i,i<t.place.size->g t.place i=cL t.mask h k->ha i≠h
 |0,n,f,e,hf=>by
  obtain rfl:n=N:=by lia
  obtain⟨f,rfl⟩:∃f',f=f'+1:=⟨f-1,by lia⟩
  refine .inl ⟨?_,λk h1 h2=>by lia⟩
  unfold probe.go;rw[show t.slot (gv t.mask h n).j=.empty from zb w.zi w.L7 hN]
  dsimp only;rw[kh];rfl
 |d+1,n,f,e,hf=>by
  obtain⟨f,rfl⟩:∃f',f=f'+1:=⟨f-1,by lia⟩
  obtain⟨i,hi,hg⟩:=hO n (by lia)
  have Ey:t.slot (gv t.mask h n).j=.live i:=by
   show t.slot (cL t.mask h n)=.live i;rw[<- hg];exact pJ w.zi hi
  by_cases hh:ha i=h
  ·refine .inr ⟨n,i,YY _,by lia,hi,hg,hh,?_,λk h1 h2=>by lia⟩
   unfold probe.go;rw[Ey];dsimp only;rw[if_pos (by rw[hh];exact beq_self_eq_true _)]
   rfl
  ·have st:probe.go t ha h (f+1) (gv t.mask h n)=probe.go t ha h f (gv t.mask h (n+1)):=by
    conv=>lhs;unfold probe.go
    rw[Ey];dsimp only;rw[if_neg (by simpa using hh)]
    rfl
   rw[st];have here:∀i',i'<t.place.size->g t.place i'=cL t.mask h n->ha i'≠h:=λi' h1 h2=>by
    rw[w.zi.inj h1 hi (h2.trans hg.symm)];exact hh
   rcases tx w ha h hN hO d (n+1) f (by lia) (by lia)with⟨q1,q2⟩|⟨m,i',q1,q2,q3,q4,q5,q6,q7⟩
   ·refine .inl ⟨q1,λk h1 h2=>?_⟩
    by_cases hk:k=n
    ·subst hk;exact here
    ·exact q2 k (by lia) h2
   ·refine .inr ⟨m,i',by lia,q2,q3,q4,q5,q6,λk h1 h2=>?_⟩
    by_cases hk:k=n
    ·subst hk;exact here
    ·exact q7 k (by lia) h2
theorem nJ {α:Type}(xs:Array α)(p:Nat)(x:α):(insertAt xs p x).toList=xs.toList.take p++x::xs.toList.drop p:=by
 unfold insertAt;rw[aak,aaG,Array.toList_extract,Array.toList_extract,acf,acf,ZV];simp[aay]
theorem CQ {α:Type}{xs:Array α}{p:Nat}{x:α}(h:p<=xs.size):(insertAt xs p x).size=xs.size+1:=by
 rw[<- Y6,nJ,Zl,Zc,ZH,aaW,Y6];lia
theorem f7 {xs:Array Nat}{p x:Nat}(h:p<=xs.size)(k:Nat):g (insertAt xs p x) k=if k<p then g xs k else if k=p then x else g xs (k-1):=by
 have e:∀(ys:Array Nat) (k:Nat),g ys k=(ys.toList[k]?).getD 0:=λys k=>by rw[g,Zo,Zk]
 rw[e,e,e,nJ]
 by_cases h1:k<p
 ·rw[if_pos h1,aah (by rw[ZH,Y6];lia),abn h1]
 ·rw[if_neg h1,Z0 (by rw[ZH];lia),ZH,Y6,show min p xs.size=p by lia]
  by_cases h2:k=p
  ·rw[if_pos h2,h2,Nat.sub_self];rfl
  ·rw[if_neg h2,show k-p=k-p-1+1 by lia,acC,aca,show p+(k-p-1)=k-1 by lia]
theorem WF.put {t:SetTable}{hs:List Int}(w:WF t hs){h:Int}{N:Nat}(hb:cL t.mask h N<=t.mask)(hN:¬ rZ t (cL t.mask h N))(hO:∀k,k<N->rZ t (cL t.mask h k))(hr:t.place.size+1<=t.mask):
  WF (t.put (cL t.mask h N)).1 (hs.take (t.put (cL t.mask h N)).2++h::hs.drop (t.put (cL t.mask h N)).2)/\(t.put (cL t.mask h N)).2<=t.place.size:=by
 obtain⟨b1,b2,b3⟩:=gc w.zi (cL t.mask h N);have hp:(t.put (cL t.mask h N)).2=below t.place (cL t.mask h N):=rfl;rw[hp];generalize hx:cL t.mask h N=x at *
 generalize hq:below t.place x=p at *
 have e:(t.put x).1={t with place:=insertAt t.place p x}:=by
  unfold SetTable.put;dsimp only;rw[w.L7,hq];unfold has;simp
 have ne:∀k,p<=k->k<t.place.size->x<g t.place k:=λk h1 h2=>by
  have:=b3 k h1 h2;rcases aaq x (g t.place k)with q|q
  ·exact q
  ·exact absurd ⟨k,h2,by lia⟩ hN
 have Qi:(insertAt t.place p x).size=t.place.size+1:=CQ b1;have UP:∀y,rZ t y->rZ {t with place:=insertAt t.place p x} y:=by
  rintro y ⟨i,h1,h2⟩
  by_cases hi:i<p
  ·exact⟨i,by show i<(insertAt t.place p x).size;lia,by show g (insertAt t.place p x) i=y;rw[f7 b1,if_pos hi];exact h2⟩
  ·exact⟨i+1,by show i+1<(insertAt t.place p x).size;lia,by show g (insertAt t.place p x) (i+1)=y;rw[f7 b1,if_neg (by lia),if_neg (by lia)];exact h2⟩
 rw[e];refine⟨⟨w.L7,?_,?_,?_,w.Hy,?_,?_⟩,b1⟩
 ·show (insertAt t.place p x).size=_;rw[Qi,Zl,Zc,ZH,aaW,<- w.sz];lia
 ·intro i j aT hj;have hj:j<t.place.size+1:=by rw[<- Qi];exact hj
  show g (insertAt t.place p x) i<g (insertAt t.place p x) j;rw[f7 b1,f7 b1]
  by_cases h1:i<p
  ·rw[if_pos h1]
   by_cases h2:j<p
   ·rw[if_pos h2];exact w.zi i j aT (by lia)
   ·rw[if_neg h2]
    by_cases h3:j=p
    ·rw[if_pos h3];exact b2 i h1
    ·rw[if_neg h3];exact w.zi i (j-1) (by lia) (by lia)
  ·rw[if_neg h1,if_neg (show ¬ j<p by lia)]
   by_cases h3:i=p
   ·rw[if_pos h3,if_neg (show ¬ j=p by lia)];exact ne _ (by lia) (by lia)
   ·rw[if_neg h3,if_neg (show ¬ j=p by lia)];exact w.zi (i-1) (j-1) (by lia) (by lia)
 ·intro i hi;have hi:i<t.place.size+1:=by rw[<- Qi];exact hi
  show g (insertAt t.place p x) i<=t.mask;rw[f7 b1]
  split
  ·exact w.VG i (by lia)
  ·split
   ·exact hb
   ·exact w.VG _ (by lia)
 ·show (insertAt t.place p x).size<=t.mask;lia
 ·intro i h' gL;show ∃n,cL t.mask h' n=g (insertAt t.place p x) i/\_;have old:∀i h',hs[i]?=some h'->∃n,cL t.mask h' n=g t.place i/\∀k,k<n->rZ {t with place:=insertAt t.place p x} (cL t.mask h' k):=λi h' q=>by
   obtain⟨n,h1,h2⟩:=w.UH i h' q;exact⟨n,h1,λk hk=>UP _ (h2 k hk)⟩
  have hpl:p<=hs.length:=by rw[<- w.sz];exact b1
  by_cases h1:i<p
  ·rw[aah (by rw[ZH];lia),abn h1]at gL
   rw[f7 b1,if_pos h1];exact old i h' gL
  ·rw[Z0 (by rw[ZH];lia),ZH,show min p hs.length=p by lia]at gL
   rw[f7 b1,if_neg h1]
   by_cases h2:i=p
   ·rw[h2,Nat.sub_self]at gL;rw[if_pos h2];obtain rfl:h=h':=Zt gL;exact⟨N,hx,λk hk=>UP _ (hO k hk)⟩
   ·rw[show i-p=i-p-1+1 by lia,acC,aca,show p+(i-p-1)=i-1 by lia]at gL
    rw[if_neg h2];exact old (i-1) h' gL
theorem g_ {m i:Nat}(h:i<=m):i<=runEnd m i/\runEnd m i<=m:=by
 unfold runEnd
 split <;> lia
theorem Bo (m:Nat)(h:Int):∀n,(gv m h n).j+(gv m h n).more<=m
 |0=>by
  show bits h % (m+1)+(runEnd m (bits h % (m+1))-bits h % (m+1))<=m;have hl:bits h % (m+1)<=m:=Nat.le_of_lt_succ (ab9 _ (Nat.succ_pos _));have:=g_ hl;lia
 |n+1=>by
  have ih:=Bo m h n;show (dy m (gv m h n)).j+(dy m (gv m h n)).more<=m;unfold dy advance
  split
  ·show (gv m h n).j+1+((gv m h n).more-1)<=m;lia
  ·show (leap m (gv m h n).i (gv m h n).perturb).1+(runEnd m (leap m (gv m h n).i (gv m h n).perturb).1-(leap m (gv m h n).i (gv m h n).perturb).1)<=m;have hl:(leap m (gv m h n).i (gv m h n).perturb).1<=m:=Nat.le_of_lt_succ (ab9 _ (Nat.succ_pos _));have:=g_ hl;lia
theorem lV (m:Nat)(h:Int)(n:Nat):cL m h n<=m:=by
 have:=Bo m h n;unfold cL;lia
abbrev Ow:=Array (Option Nat)
def gh (o:Ow)(j:Nat):Bool:=(o.getD j (some 0)).isNone
theorem qe {m:Nat}{o:Ow}(h:Int):∀(f b n:Nat) (j:Nat),gv m h n=Mb m (lp m h b)->layClean.free m o f (lp m h b).1 (lp m h b).2=some j->∃N,n<=N/\cL m h N=j/\gh o j=true/\∀k,n<=k->k<N->gh o (cL m h k)=false
 |0,b,n,j,_,e=>by cases e
 |f+1,b,n,j,hb,e=>by
  unfold layClean.free at e;have Q3:∀d,d<=runEnd m (lp m h b).1-(lp m h b).1->cL m h (n+d)=(lp m h b).1+d:=λd hd=>by
   unfold cL;rw[wu m h _ n hb d hd]
  have hl:(lp m h b).1<=m:=by
   have:=lV m h n;unfold cL at this;rw[hb]at this;exact this
  have hr:=g_ hl;cases hf:(Zi (runEnd m (lp m h b).1+1-(lp m h b).1)).find? (λk=>(o.getD ((lp m h b).1+k) (some 0)).isNone)with
  |some k =>
   rw[hf]at e;dsimp only at e;obtain⟨h1,h2,h3⟩:=List.find?_range_eq_some.mp hf;have h2:=ZJ.mp h2;refine⟨n+k,by lia,?_,?_,λx g1 g2=>?_⟩
   ·rw[Q3 k (by lia)]
    exact Zt e
   ·rw[<- Zt e];exact h1
   ·have:=h3 (x-n) (by lia)
    rw[show x=n+(x-n) by lia,Q3 (x-n) (by lia)]
    unfold gh;simpa using this
  |none =>
   rw[hf]at e;dsimp only at e;have h3:=List.find?_range_eq_none.mp hf;obtain⟨N,q1,q2,q3,q4⟩:=qe h f (b+1) (n+(runEnd m (lp m h b).1-(lp m h b).1)+1) j (vb m h _ n hb) e;refine⟨N,by lia,q2,q3,λx g1 g2=>?_⟩
   by_cases hx:n+(runEnd m (lp m h b).1-(lp m h b).1)+1<=x
   ·exact q4 x hx g2
   ·have:=h3 (x-n) (by lia)
    rw[show x=n+(x-n) by lia,Q3 (x-n) (by lia)]
    unfold gh;simpa using this
theorem qf {m:Nat}{o:Ow}(h:Int):∀(f b:Nat),layClean.free m o f (lp m h b).1 (lp m h b).2=none->∀d,d<f->(lp m h (b+d)).1<=m->gh o (lp m h (b+d)).1=false
 |0,b,_,d,hd,_=>by lia
 |f+1,b,e,d,hd,hl=>by
  unfold layClean.free at e;cases hf:(Zi (runEnd m (lp m h b).1+1-(lp m h b).1)).find? (λk=>(o.getD ((lp m h b).1+k) (some 0)).isNone)with
  |some k =>
   rw[hf]at e;cases e
  |none =>
   rw[hf]at e;dsimp only at e;cases d with
   |zero =>
    have:=List.find?_range_eq_none.mp hf 0 (by have:=g_ hl;rw[Nat.add_zero]at this;lia)
    unfold gh;simpa using this
   |succ d =>
    have:=qf h f (b+1) e d (by lia) (by rw[show b+1+d=b+(d+1) by lia];exact hl)
    rw[show b+1+d=b+(d+1) by lia]at this
    exact this
theorem J2 (j:Nat)(h:Int){t:Nat}(ht:t<2 ^ j):∃k,k<turns (2 ^ j-1)/\(lp (2 ^ j-1) h k).1=t:=by
 obtain⟨k,hk,e⟩:=lift j (lp (2 ^ j-1) h 13).1 t;refine⟨13+k,by unfold turns;lia,?_⟩
 rw[Hz,e,Nat.mod_eq_of_lt ht]
def ow (o:Ow)(j:Nat):Option Nat:=o.getD j none
theorem eO {α:Type}{f f':Nat->Option α}:∀(l:List Nat),(∀k∈l,f' k=f k)->l.filterMap f'=l.filterMap f
 |[],_=>rfl
 |x::l,h=>by
  rw[ZN,ZN,h x Y8,eO l λk hk=>h k (Y7 _ hk)]
theorem uE {α:Type}{f f':Nat->Option α}(l:List Nat)(h:∀k∈l,f' k=f k):l.filterMap f'=l.filterMap f:=eO l h
theorem uC {α:Type}(f f':Nat->Option α)(j:Nat)(v:α)(h1:f j=none)(h2:f' j=some v)(h3:∀k,k≠j->f' k=f k):∀N,j<N->((Zi N).filterMap f').Perm (v::(Zi N).filterMap f)
 |0,h=>by lia
 |N+1,h=>by
  rw[abX,List.filterMap_append,List.filterMap_append]
  by_cases e:j=N
  ·subst e;have e1:(Zi j).filterMap f'=(Zi j).filterMap f:=by
    exact eO _ λk hk=>h3 k (Zu (ZJ.mp hk))
   rw[e1,ZN,h2,ZN,h1,List.filterMap_nil,List.filterMap_nil];show ((Zi j).filterMap f++[v]).Perm (v::((Zi j).filterMap f++[]));rw[ZX];exact List.perm_append_comm
  ·have ih:=uC f f' j v h1 h2 h3 N (by lia)
   have e2:[N].filterMap f'=[N].filterMap f:=eO _ λk hk=>by
    rw[Y1.mp hk];exact h3 N (λz=>e z.symm)
   rw[e2];exact ih.append_right _
theorem uF {α:Type}(f:Nat->Option α):∀N,(∀k,k<N->(f k).isSome=true)->((Zi N).filterMap f).length=N
 |0,_=>rfl
 |N+1,h=>by
  rw[abX,List.filterMap_append,Zl,uF f N λk hk=>h k (by lia)]
  have:=h N (by lia)
  cases e:f N with
  |none=>rw[e]at this;cases this
  |some x=>rw[ZN,e];rfl
structure Ld (m:Nat)(hs:Array Int)(o:Ow)(k:Nat):Prop where
 sz:o.size=m+1
 QH:((Zi (m+1)).filterMap (ow o)).Perm (Zi k)
 way:∀j a,ow o j=some a->a<k/\∃n,cL m (hs.getD a 0) n=j/\∀x,x<n->gh o (cL m (hs.getD a 0) x)=false
theorem mY {o:Ow}{j:Nat}(h:j<o.size):gh o j=true↔ow o j=none:=by
 unfold gh ow;rw[Zo,Zo,getElem?_pos o j h];show (o[j]).isNone=true↔o[j]=none;exact Option.isNone_iff_eq_none
theorem Ld.next {j0:Nat}{hs:Array Int}{o:Ow}{k:Nat}(L:Ld (2 ^ j0-1) hs o k)(hk:k<=2 ^ j0-1)(h:Int)(hh:hs.getD k 0=h):
  ∃j,layClean.free (2 ^ j0-1) o (turns (2 ^ j0-1)) (bits h % (2 ^ j0-1+1)) (bits h)=some j/\Ld (2 ^ j0-1) hs (o.setIfInBounds j (some k)) (k+1):=by
 have hP:0<2 ^ j0:=Nat.pow_pos (by decide)
 generalize hm:2 ^ j0-1=m at *
 obtain⟨x,hx,Xg⟩:∃x,x<=m/\ow o x=none:=by
  refine abi λo7=>?_;have:=uF (ow o) (m+1) λx hx=>by
   cases e:ow o x with
   |none=>exact absurd ⟨x,by lia,e⟩ o7
   |some _=>rfl
  rw[L.QH.length_eq,aan]at this;lia
 cases hf:layClean.free m o (turns m) (bits h % (m+1)) (bits h)with
 |none =>
  exfalso
  obtain⟨c,hc,he⟩:=J2 j0 h (t:=x) (by lia)
  rw[hm]at hc he;have:=qf (m:=m) (o:=o) h (turns m) 0 hf c hc (by rw[aaP,he];exact hx)
  rw[aaP,he]at this;have q:=(mY (o:=o) (j:=x) (by rw[L.sz];lia)).mpr Xg
  rw[q]at this;cases this
 |some j =>
  refine⟨j,rfl,?_⟩;obtain⟨N,_,q2,q3,q4⟩:=qe (m:=m) (o:=o) h (turns m) 0 0 j rfl hf;have hj:j<=m:=by rw[<- q2];exact lV m h N
  have Te:j<o.size:=by rw[L.sz];lia
  have NU:ow o j=none:=(mY Te).mp q3;have same:∀i,i≠j->ow (o.setIfInBounds j (some k)) i=ow o i:=λi hi=>by
   unfold ow;rw[Zo,Zo,Array.getElem?_setIfInBounds_ne (λz=>hi z.symm)]
  have here:ow (o.setIfInBounds j (some k)) j=some k:=by
   unfold ow;rw[Zo,Array.getElem?_setIfInBounds_self_of_lt Te];rfl
  have shut:∀i,gh o i=false->gh (o.setIfInBounds j (some k)) i=false:=λi hi=>by
   unfold gh at *
   rw[Zo]at *
   by_cases e:i=j
   ·subst e;rw[Array.getElem?_setIfInBounds_self_of_lt Te];rfl
   ·rw[Array.getElem?_setIfInBounds_ne (λz=>e z.symm)];exact hi
  refine⟨by rw[acw];exact L.sz,?_,λi a Pn=>?_⟩
  ·refine(uC (ow o) _ j k NU here same (m+1) (by lia)).trans ?_
   refine(L.QH.cons k).trans ?_;rw[abX];exact(List.perm_append_singleton k _).symm
  ·by_cases e:i=j
   ·subst e;rw[here]at Pn;obtain rfl:=Zt Pn;refine⟨Nat.lt_succ_self _,N,by rw[hh];exact q2,λx hx=>shut _ ?_⟩
    rw[hh];exact q4 x (Zm _) hx
   ·rw[same i e]at Pn;obtain⟨g1,n,g2,g3⟩:=L.way i a Pn;exact⟨by lia,n,g2,λx hx=>shut _ (g3 x hx)⟩
theorem ou {j0:Nat}{hs:Array Int}(hk:hs.size<=2 ^ j0-1):∀(l:List Int) (k:Nat) (o:Ow),hs.toList.drop k=l->k+l.length=hs.size->Ld (2 ^ j0-1) hs o k ->
  ∃o',(l.foldl (λ(acc:Option (Ow×Nat)) h=>do
   let (owner,k) <- acc
   let j <- layClean.free (2 ^ j0-1) owner (turns (2 ^ j0-1)) (bits h % (2 ^ j0-1+1)) (bits h)
   pure (owner.setIfInBounds j (some k),k+1)) (some (o,k)))=some (o',hs.size)/\Ld (2 ^ j0-1) hs o' hs.size
 |[],k,o,e,z,L=>by
  obtain rfl:k=hs.size:=z;exact⟨o,rfl,L⟩
 |h::l,k,o,e,z,L=>by
  rw[Zc]at z;have ic:k<hs.toList.length:=by rw[Y6];lia
  rw[aai ic]at e;injection e with e1 e2
  have hh:hs.getD k 0=h:=by
   rw[Zo,<- Zk,Y2 ic,e1];rfl
  obtain⟨j,q1,q2⟩:=L.next (by lia) h hh
  rw[aaH];show ∃o',(l.foldl _ (do
   let j <- layClean.free (2 ^ j0-1) o (turns (2 ^ j0-1)) (bits h % (2 ^ j0-1+1)) (bits h)
   pure (o.setIfInBounds j (some k),k+1)))=_/\_
  rw[q1];exact ou hk l (k+1) _ e2 (by lia) q2
theorem Ld.start (m:Nat)(hs:Array Int):Ld m hs (Array.replicate (m+1) none) 0:=by
 have e:∀j,ow (Array.replicate (m+1) none) j=none:=λj=>by
  unfold ow;rw[Zo,Array.getElem?_replicate]
  split <;> rfl
 refine⟨Array.size_replicate,?_,λj a h=>by rw[e]at h;cases h⟩
 rw[eO (f:=λ_=>(none:Option Nat)) _ λk _=>e k];have:∀l:List Nat,l.filterMap (λ_=>(none:Option Nat))=[]:=λl=>by
  induction l with
  |nil=>rfl
  |cons x l ih=>rw[ZN];exact ih
 rw[this];exact .refl _
theorem F3 {j0:Nat}{hs:Array Int}(h3:3<=j0)(hk:hs.size<=2 ^ j0-1)(finger moves:Nat)(led plain:Bool):
  ∃t order,laid (2 ^ j0-1) finger moves led plain hs=some (t,order)/\t.mask=2 ^ j0-1/\t.led=led/\t.plain=plain/\t.moves=moves/\order.toList.Perm (Zi hs.size)/\WF t (order.toList.map λa=>hs.getD a 0)/\t.place.size=hs.size:=by
 obtain⟨o,e1,L⟩:=ou hk hs.toList 0 _ rfl (by rw[aaP,Y6]) (Ld.start _ hs)
 have e2:layClean (2 ^ j0-1) hs=some o:=by
  unfold layClean;rw[<- Array.foldl_toList];exact congrArg (Option.map (·.1)) e1
 generalize hm:2 ^ j0-1=m at *
 have Ny:∀(l:List Nat),((l.filterMap λj=>(o.getD j none).map (j,·)).map (·.2))=l.filterMap (ow o):=λl=>by
  rw[List.map_filterMap];refine uE l λj _=>?_;rw[Option.map_map];show ((o.getD j none).map λa=>a)=_;rw[Option.map_id'];rfl
 generalize NX:((Zi (m+1)).filterMap λj=>(o.getD j none).map (j,·))=live at *
 have pw:live.Pairwise (λx y=>x.1<y.1):=by
  rw[<- NX,List.pairwise_filterMap];refine List.pairwise_lt_range.imp λ{a b} Of x hx y hy=>?_;obtain⟨_,_,rfl⟩:=Zn.mp hx;obtain⟨_,_,rfl⟩:=Zn.mp hy;exact Of
 have mem:∀x∈live,x.1<m+1/\ow o x.1=some x.2:=λx hx=>by
  rw[<- NX]at hx;obtain⟨j,hj,e⟩:=abr.mp hx;obtain⟨a,ha,rfl⟩:=Zn.mp e;exact⟨ZJ.mp hj,ha⟩
 have ord:(live.map (·.2)).Perm (Zi hs.size):=by
  rw[<- NX,Ny];exact L.QH
 have len:live.length=hs.size:=by
  have:=ord.length_eq;rw[YX,aan]at this;exact this
 have gp:∀i (hi:i<live.length),g (live.map (·.1)).toArray i=(live[i]).1:=λi hi=>by
  rw[g,Zo,abI,Zj,Y2 hi];rfl
 refine⟨{mask:=m,place:=(live.map (·.1)).toArray,dummies:=#[],finger,led,moves,plain},(live.map (·.2)).toArray,?_,rfl,rfl,rfl,rfl,ord,?_,?_⟩
 ·unfold laid;rw[e2,<- NX];rfl
 ·have QG:(live.map (·.1)).toArray.size=live.length:=by rw[Zh,YX]
  refine⟨rfl,?_,?_,?_,⟨j0,h3,hm.symm⟩,?_,?_⟩
  ·show (live.map (·.1)).toArray.size=_;rw[QG,YX,YX]
  ·intro i j aT hj;have hj:j<live.length:=by rw[<- QG];exact hj
   show g (live.map (·.1)).toArray i<g (live.map (·.1)).toArray j;rw[gp i (by lia),gp j hj]
   exact abh.mp pw i j (by lia) hj aT
  ·intro i hi;have hi:i<live.length:=by rw[<- QG];exact hi
   show g (live.map (·.1)).toArray i<=m;rw[gp i hi];have:=(mem _ (abe hi)).1;lia
  ·show (live.map (·.1)).toArray.size<=m;lia
  ·intro i h hi;show ∃n,cL m h n=g (live.map (·.1)).toArray i/\_;rw[Zj,Zj]at hi;have HG:i<live.length:=by
    rcases aaq i live.length with q|q
    ·exact q
    ·rw[aao q]at hi;cases hi
   rw[Y2 HG]at hi;have hi:hs.getD (live[i]).2 0=h:=Zt hi;obtain⟨_,n,g2,g3⟩:=L.way _ _ (mem _ (abe HG)).2;rw[hi]at g2 g3;refine⟨n,by rw[gp i HG];exact g2,λk hk=>?_⟩
   have hv:=lV m h k;have Xa:cL m h k<o.size:=by rw[L.sz];lia
   have:=g3 k hk;cases eo:ow o (cL m h k)with
   |none =>
    rw[(mY Xa).mpr eo]at this;cases this
   |some a =>
    have KU:(cL m h k,a)∈live:=by
     rw[<- NX];exact abr.mpr ⟨cL m h k,ZJ.mpr (by lia),by show (ow o (cL m h k)).map _=_;rw[eo];rfl⟩
    obtain⟨i',gL,e'⟩:=List.getElem_of_mem KU;exact⟨i',by show i'<(live.map (·.1)).toArray.size;lia,by show g (live.map (·.1)).toArray i'=_;rw[gp i' gL,e']⟩
 ·show (live.map (·.1)).toArray.size=hs.size;rw[Zh,YX];exact len
end ST
namespace TS
open PySem PyProof.Rows
def cC:Bool->Y5->Array Y5->Nat->Nat->Nat->StateT Zy Sem (Option Nat):=sortPriv% PySem.Builtin.gallop
def jz:Array Y5->Array Y5->StateT Zy Sem (Array Y5):=sortPriv% PySem.Builtin.mergeLo
def jA:Array Y5->Array Y5->StateT Zy Sem (Array Y5):=sortPriv% PySem.Builtin.mergeHi
abbrev cG (st:Zy)(g:Nat):Zy:=SortSt.mk' (kindOf st) (ZG st) (Zs st) g (abB st)
theorem wz (left:Bool)(key:Y5)(arr:Array Y5)(base n hint:Nat):cC left key arr base n hint=(do
  let ask:=λ(at_:Nat)=>(do
   let z <- elem' arr (base+at_)
   if left then lt' z key else return (<- lt' key z).map (!·):StateT Zy Sem (Option Bool))
  let mut before:=0
  let mut step:=1
  let mut u:=0
  let mut v:=0
  let some up <- ask hint|return none
  if up then
   let room:=n-hint
   for _ in [0:n] do
    if step >= room then break
    let some on <- ask (hint+step)|return none
    if !on then break
    before:=step
    step:=2*step+1
   u:=hint+before+1
   v:=hint+min step room
  else
   let room:=hint+1
   for _ in [0:n] do
    if step >= room then break
    let some hit <- ask (hint-step)|return none
    if hit then break
    before:=step
    step:=2*step+1
   u:=hint+1-min step room
   v:=hint-before
  for _ in [0:n] do
   if u >= v then break
   let mid:=u+(v-u) / 2
   let some on <- ask mid|return none
   if on then u:=mid+1 else v:=mid
  return some v):=rfl
theorem t5 (p q:Array Y5):jz p q=(do
  rule "list.sort.merge-lo"
  let all:=p.size+q.size
  let rest:=λ(to:Array Y5) (i j:Nat)=>to++p.extract i p.size++q.extract j q.size
  let tail:=λ(to:Array Y5) (i j:Nat)=>to++q.extract j q.size++p.extract i p.size
  let mut to:Array Y5:=#[<- elem' q 0]
  let mut i:=0
  let mut j:=1
  if j==q.size then return rest to i j
  if i+1==p.size then return tail to i j
  let mut mg:=gallopOf (<- get)
  for _ in [0:all] do
   let mut m:=0
   let mut n:=0
   for _ in [0:all] do
    let some IC <- lt' (<- elem' q j) (<- elem' p i)|return rest to i j
    if IC then
     to:=to.push (<- elem' q j);j:=j+1;n:=n+1;m:=0
     if j==q.size then return rest to i j
     if n >= mg then break
    else
     to:=to.push (<- elem' p i);i:=i+1;m:=m+1;n:=0
     if i+1==p.size then return tail to i j
     if m >= mg then break
   rule "list.sort.gallop"
   mg:=mg+1
   for _ in [0:all] do
    if mg>1 then mg:=mg-1
    modify λst=>cG st mg
    let some k <- cC false (<- elem' q j) p i (p.size-i) 0|return rest to i j
    m:=k
    if k>0 then
     to:=to++p.extract i (i+k);i:=i+k
     if i+1==p.size then return tail to i j
     if i==p.size then return rest to i j
    to:=to.push (<- elem' q j);j:=j+1
    if j==q.size then return rest to i j
    let some k <- cC true (<- elem' p i) q j (q.size-j) 0|return rest to i j
    n:=k
    if k>0 then
     to:=to++q.extract j (j+k);j:=j+k
     if j==q.size then return rest to i j
    to:=to.push (<- elem' p i);i:=i+1
    if i+1==p.size then return tail to i j
    if m<7&&n<7 then break
   mg:=mg+1
   modify λst=>cG st mg
  unsupported "internal:list.sort.merge-bound"):=rfl
theorem t7 (p q:Array Y5):jA p q=(do
  rule "list.sort.merge-hi"
  let all:=p.size+q.size
  let rest:=λ(to:Array Y5) (i j:Nat)=>p.extract 0 i++q.extract 0 j++to.reverse
  let tail:=λ(to:Array Y5) (i j:Nat)=>q.extract 0 j++p.extract 0 i++to.reverse
  let mut i:=p.size-1
  let mut j:=q.size
  let mut to:Array Y5:=#[<- elem' p i]
  if i==0 then return rest to i j
  if j==1 then return tail to i j
  let mut mg:=gallopOf (<- get)
  for _ in [0:all] do
   let mut m:=0
   let mut n:=0
   for _ in [0:all] do
    let some IC <- lt' (<- elem' q (j-1)) (<- elem' p (i-1))|return rest to i j
    if IC then
     i:=i-1;to:=to.push (<- elem' p i);m:=m+1;n:=0
     if i==0 then return rest to i j
     if m >= mg then break
    else
     j:=j-1;to:=to.push (<- elem' q j);n:=n+1;m:=0
     if j==1 then return tail to i j
     if n >= mg then break
   rule "list.sort.gallop"
   mg:=mg+1
   for _ in [0:all] do
    if mg>1 then mg:=mg-1
    modify λst=>cG st mg
    let some h <- cC false (<- elem' q (j-1)) p 0 i (i-1)|return rest to i j
    let k:=i-h
    m:=k
    if k>0 then
     to:=to++(p.extract h i).reverse;i:=h
     if i==0 then return rest to i j
    j:=j-1;to:=to.push (<- elem' q j)
    if j==1 then return tail to i j
    let some h <- cC true (<- elem' p (i-1)) q 0 j (j-1)|return rest to i j
    let k:=j-h
    n:=k
    if k>0 then
     to:=to++(q.extract h j).reverse;j:=h
     if j==1 then return tail to i j
     if j==0 then return rest to i j
    i:=i-1;to:=to.push (<- elem' p i)
    if i==0 then return rest to i j
    if m<7&&n<7 then break
   mg:=mg+1
   modify λst=>cG st mg
  unsupported "internal:list.sort.merge-bound"):=rfl
theorem t9 (i:Nat):mergeAt' i=(do
  let st <- get
  let (some (sa,na,pw),some (sb,nb,_)):=((Zs st)[i]?,(Zs st)[i+1]?)|unsupported "internal:list.sort.pending"
  set (abL st (((Zs st).setIfInBounds i (sa,na+nb,pw)).eraseIdxIfInBounds (i+1)))
  let some k <- cC false (<- elem' (ZG st) sb) (ZG st) sa na 0|return false
  let (sa,na):=(sa+k,na-k)
  if na==0 then return true
  let some nb <- cC true (<- elem' (ZG st) (sa+na-1)) (ZG st) sb nb (nb-1)|return false
  if nb==0 then return true
  let x:=(ZG st).extract sa sb
  let y:=(ZG st).extract sb (sb+nb)
  let got <- if na<=nb then jz x y else jA x y
  modify λs2=>aab s2 (got.toList.zipIdx.foldl (λa (p,j)=>a.setIfInBounds (sa+j) p) (ZG s2))
  return (abB (<- get)).isNone):=rfl
structure cw (c:Y5->Y5->Bool):Prop where
 OK:∀x y,c x y=true->c y x=false
 UR:∀x y z,c x z=true->c x y=true\/c y z=true
def le (c:Y5->Y5->Bool)(x y:Y5):Prop:=c y x=false
section
variable {c:Y5->Y5->Bool}
theorem cw.refl (O:cw c)(x:Y5):le c x x:=by
 cases h:c x x
 ·exact h
 ·exact O.OK _ _ h
theorem cw.trans (O:cw c){x y z:Y5}(h1:le c x y)(h2:le c y z):le c x z:=by
 cases h:c z x
 ·exact h
 ·rcases O.UR _ y _ h with q|q
  ·exact absurd (q.symm.trans h2) (by simp)
  ·exact absurd (q.symm.trans h1) (by simp)
theorem cw.of_lt (O:cw c){x y:Y5}(h:c x y=true):le c x y:=O.OK _ _ h
def el (a:Array Y5)(i:Nat):Y5:=a.getD i (Value.none,Value.none)
theorem jL {a:Array Y5}{i:Nat}(h:i<a.size):a[i]?=some (el a i):=by
 rw[getElem?_pos a i h,el,Zo,getElem?_pos a i h];rfl
theorem yw {a:Array Y5}{i:Nat}{x:Y5}(h:a[i]?=some x):el a i=x:=by
 rw[el,Zo,h];rfl
theorem eR {a b:Array Y5}{i j:Nat}(h:a[i]?=b[j]?):el a i=el b j:=by
 rw[el,el,Zo,Zo,h]
def SR (c:Y5->Y5->Bool)(a:Array Y5)(lo hi:Nat):Prop:=∀i j,lo<=i->i<=j->j<hi->le c (el a i) (el a j)
def gf (prog:Y0)(w:Zd)(A:ZQ)(E:YU->YW->Prop)(s:YW)(κ:abl)(c:Y5->Y5->Bool)(S:Y5->Prop):Prop :=
 ∀(x y:Y5) (st:Zy) (Q:Option Bool->Zy->Prop),S x->S y->kindOf st=κ->Q (some (c x y)) st->wpS (model prog w) A E s (lt' x y) Q st
end
section
variable {prog:Y0}{w:Zd}{A:ZQ}{E:YU->YW->Prop}{s:YW}{κ:abl}{c:Y5->Y5->Bool}{S:Y5->Prop}
theorem aZ {a:Array Y5}{i:Nat}{Q:Y5->Zy->Prop}{st:Zy}(h:i<a.size)(q:Q (el a i) st):wpS (model prog w) A E s (elem' a i) Q st:=by
 rw[elem'_eq,jL h];exact Zg q
def eW (c:Y5->Y5->Bool)(left:Bool)(key:Y5)(a:Array Y5)(base i:Nat):Bool:=if left=true then c (el a (base+i)) key else !c key (el a (base+i))
theorem GY (O:cw c){left:Bool}{key:Y5}{a:Array Y5}{base n i j:Nat}(hs:SR c a base (base+n))(aT:i<=j)(hj:j<n)(h:eW c left key a base j=true):eW c left key a base i=true:=by
 have hl:=hs (base+i) (base+j) (by lia) (by lia) (by lia)
 unfold eW at *
 cases left with
 |true =>
  rw[if_pos rfl]at *
  rcases O.UR _ (el a (base+i)) _ h with q|q
  ·exact absurd (q.symm.trans hl) (by simp)
  ·exact q
 |false =>
  rw[if_neg (by simp)]at *
  rw[aaF]at *
  exact O.trans hl h
theorem i9 (L:gf prog w A E s κ c S){left:Bool}{key:Y5}{a:Array Y5}{base n i:Nat}{Q:Option Bool->Zy->Prop}{st:Zy}(hk:kindOf st=κ)(hK:S key)(hA:∀i,i<n->S (el a (base+i)))(hn:base+n<=a.size)(hi:i<n)
  (h:Q (some (eW c left key a base i)) st):wpS (model prog w) A E s (do
   let z <- elem' a (base+i)
   if left then lt' z key else return (<- lt' key z).map (!·):StateT Zy Sem (Option Bool)) Q st:=by
 refine Y9 (aZ (by lia) ?_)
 unfold eW at h;cases left with
 |true =>
  rw[if_pos rfl]at *
  exact L _ _ st Q (hA i hi) hK hk h
 |false =>
  rw[if_neg (by simp)]at *
  exact Y9 (L _ _ st _ hK (hA i hi) hk (Zg h))
theorem dY (O:cw c)(L:gf prog w A E s κ c S){left:Bool}{key:Y5}{a:Array Y5}{base n hint:Nat}{Q:Option Nat->Zy->Prop}{st:Zy}(hk:kindOf st=κ)(hK:S key)(hA:∀i,i<n->S (el a (base+i)))(hn:base+n<=a.size)
  (hs:SR c a base (base+n)) (hh:hint<n) (h:∀k,k<=n->(∀i,i<k->eW c left key a base i=true)->(∀i,k<=i->i<n->eW c left key a base i=false)->Q (some k) st) :
  wpS (model prog w) A E s (cC left key a base n hint) Q st:=by
 rw[wz];dsimp only;have up:∀{i j},i<=j->j<n->eW c left key a base j=true->eW c left key a base i=true:=λh1 h2 h3=>GY O hs h1 h2 h3;refine Y9 (i9 L hk hK hA hn hh ?_);dsimp only;have dn:∀{i j},i<=j->j<n->eW c left key a base i=false->eW c left key a base j=false:=λ{i j} h1 h2 h3=>by
  cases q:eW c left key a base j
  ·rfl
  ·rw[up h1 h2 q]at h3;exact absurd h3 (by simp)
 cases L6:eW c left key a base hint with
 |true =>
  rw[if_pos rfl];refine Y9 (aaC (Z3 (I:=λx r aJ=>aJ=st/\∃be dy,r=(none,be,dy)/\hint+be<n/\be<dy/\x+1<=dy/\eW c left key a base (hint+be)=true)
   (Q:=λr aJ=>aJ=st/\∃be dy,r=(none,be,dy)/\hint+be<n/\be<dy/\eW c left key a base (hint+be)=true/\(n-hint<=dy\/(hint+dy<n/\eW c left key a base (hint+dy)=false))) ?_ ?_ ?_) ?_)
  ·rintro x r aJ _ hx ⟨rfl,be,dy,rfl,h1,h2,h3,h4⟩;dsimp only
   by_cases hr:dy >= n-hint
   ·rw[if_pos hr];exact Zg ⟨rfl,be,dy,rfl,h1,h2,h4,.inl hr⟩
   ·rw[if_neg hr];refine Y9 (i9 L hk hK hA hn (by omega) ?_)
    dsimp only;cases hb:eW c left key a base (hint+dy)with
    |true =>
     rw[if_neg (by simp)]
     exact Zg ⟨rfl,dy,_,rfl,by omega,by omega,by omega,hb⟩
    |false =>
     rw[if_pos (by simp)]
     exact Zg ⟨rfl,be,dy,rfl,h1,h2,h4,.inr ⟨by omega,hb⟩⟩
  ·rintro r aJ ⟨rfl,be,dy,rfl,h1,h2,h3,h4⟩;exact⟨rfl,be,dy,rfl,h1,h2,h4,.inl (by omega)⟩
  ·exact⟨rfl,0,1,rfl,by omega,by omega,by omega,L6⟩
  rintro r aJ ⟨e0,be,dy,rfl,h1,h2,h4,h5⟩;rw[e0];dsimp only;have g1:∀i,i<hint+be+1->eW c left key a base i=true:=λi hi=>up (j:=hint+be) (by omega) h1 h4
  have g2:∀i,hint+min dy (n-hint)<=i->i<n->eW c left key a base i=false:=λi hi gL=>by
   rcases h5 with q|⟨q1,q2⟩
   ·omega
   ·exact dn (i:=hint+dy) (by omega) gL q2
  refine Y9 (aaC (Z3 (I:=λx r aJ=>aJ=st/\∃u v,r=(none,u,v)/\u<=v/\v<=n/\v-u<=n-x/\(∀i,i<u->eW c left key a base i=true)/\(∀i,v<=i->i<n->eW c left key a base i=false))
   (Q:=λr aJ=>aJ=st/\∃v,r=(none,v,v)/\v<=n/\(∀i,i<v->eW c left key a base i=true)/\(∀i,v<=i->i<n->eW c left key a base i=false)) ?_ ?_ ?_) ?_)
  ·rintro x r aJ _ hx ⟨rfl,u,v,rfl,h1,h2,h3,h4,h5⟩;dsimp only
   by_cases NG:u >= v
   ·rw[if_pos NG];obtain rfl:u=v:=by omega
    exact Zg ⟨rfl,u,rfl,h2,h4,h5⟩
   ·rw[if_neg NG];refine Y9 (i9 L hk hK hA hn (by omega) ?_)
    dsimp only;cases hb:eW c left key a base (u+(v-u) / 2)with
    |true =>
     rw[if_pos rfl];exact Zg ⟨rfl,_,v,rfl,by omega,h2,by omega,λi hi=>up (j:=u+(v-u) / 2) (by omega) (by omega) hb,h5⟩
    |false =>
     rw[if_neg (by simp)]
     exact Zg ⟨rfl,u,_,rfl,by omega,by omega,by omega,h4,λi hi gL=>dn (i:=u+(v-u) / 2) (by omega) (by omega) hb⟩
  ·rintro r aJ ⟨rfl,u,v,rfl,h1,h2,h3,h4,h5⟩;obtain rfl:u=v:=by omega
   exact⟨rfl,u,rfl,h2,h4,h5⟩
  ·exact⟨rfl,_,_,rfl,by omega,by omega,by omega,by assumption,by assumption⟩
  ·rintro r aJ ⟨rfl,v,rfl,h2,h4,h5⟩;exact Zg (h v h2 h4 h5)
 |false =>
  rw[if_neg (by simp)]
  refine Y9 (aaC (Z3 (I:=λx r aJ=>aJ=st/\∃be dy,r=(none,be,dy)/\be<=hint/\be<dy/\x+1<=dy/\eW c left key a base (hint-be)=false)
   (Q:=λr aJ=>aJ=st/\∃be dy,r=(none,be,dy)/\be<=hint/\be<dy/\eW c left key a base (hint-be)=false/\(hint+1<=dy\/(dy<=hint/\eW c left key a base (hint-dy)=true))) ?_ ?_ ?_) ?_)
  ·rintro x r aJ _ hx ⟨rfl,be,dy,rfl,h1,h2,h3,h4⟩;dsimp only
   by_cases hr:dy >= hint+1
   ·rw[if_pos hr];exact Zg ⟨rfl,be,dy,rfl,h1,h2,h4,.inl hr⟩
   ·rw[if_neg hr];refine Y9 (i9 L hk hK hA hn (by omega) ?_)
    dsimp only;cases hb:eW c left key a base (hint-dy)with
    |true =>
     rw[if_pos rfl];exact Zg ⟨rfl,be,dy,rfl,h1,h2,h4,.inr ⟨by omega,hb⟩⟩
    |false =>
     rw[if_neg (by simp)]
     exact Zg ⟨rfl,dy,_,rfl,by omega,by omega,by omega,hb⟩
  ·rintro r aJ ⟨rfl,be,dy,rfl,h1,h2,h3,h4⟩;exact⟨rfl,be,dy,rfl,h1,h2,h4,.inl (by omega)⟩
  ·exact⟨rfl,0,1,rfl,by omega,by omega,by omega,L6⟩
  rintro r aJ ⟨e0,be,dy,rfl,h1,h2,h4,h5⟩;rw[e0];dsimp only;have g1:∀i,i<hint+1-min dy (hint+1)->eW c left key a base i=true:=λi hi=>by
   rcases h5 with q|⟨q1,q2⟩
   ·omega
   ·exact up (j:=hint-dy) (by omega) (by omega) q2
  have g2:∀i,hint-be<=i->i<n->eW c left key a base i=false:=λi hi gL=>dn (i:=hint-be) hi gL h4;refine Y9 (aaC (Z3 (I:=λx r aJ=>aJ=st/\∃u v,r=(none,u,v)/\u<=v/\v<=n/\v-u<=n-x/\(∀i,i<u->eW c left key a base i=true)/\(∀i,v<=i->i<n->eW c left key a base i=false))
   (Q:=λr aJ=>aJ=st/\∃v,r=(none,v,v)/\v<=n/\(∀i,i<v->eW c left key a base i=true)/\(∀i,v<=i->i<n->eW c left key a base i=false)) ?_ ?_ ?_) ?_)
  ·rintro x r aJ _ hx ⟨rfl,u,v,rfl,h1,h2,h3,h4,h5⟩;dsimp only
   by_cases NG:u >= v
   ·rw[if_pos NG];obtain rfl:u=v:=by omega
    exact Zg ⟨rfl,u,rfl,h2,h4,h5⟩
   ·rw[if_neg NG];refine Y9 (i9 L hk hK hA hn (by omega) ?_)
    dsimp only;cases hb:eW c left key a base (u+(v-u) / 2)with
    |true =>
     rw[if_pos rfl];exact Zg ⟨rfl,_,v,rfl,by omega,h2,by omega,λi hi=>up (j:=u+(v-u) / 2) (by omega) (by omega) hb,h5⟩
    |false =>
     rw[if_neg (by simp)]
     exact Zg ⟨rfl,u,_,rfl,by omega,by omega,by omega,h4,λi hi gL=>dn (i:=u+(v-u) / 2) (by omega) (by omega) hb⟩
  ·rintro r aJ ⟨rfl,u,v,rfl,h1,h2,h3,h4,h5⟩;obtain rfl:u=v:=by omega
   exact⟨rfl,u,rfl,h2,h4,h5⟩
  ·exact⟨rfl,_,_,rfl,by omega,by omega,by omega,by assumption,by assumption⟩
  ·rintro r aJ ⟨rfl,v,rfl,h2,h4,h5⟩;exact Zg (h v h2 h4 h5)
end
section
variable {c:Y5->Y5->Bool}{p q:Array Y5}{t:List Y5}{i j:Nat}
theorem xo {a:Array Y5}{i:Nat}(h:i<a.size):a.toList.take (i+1)=a.toList.take i++[el a i]:=by
 have e:a.toList[i]?=some (el a i):=by rw[Zk];exact jL h
 rw[List.take_succ,e];rfl
theorem yx {a:Array Y5}{i:Nat}(h:i<a.size):a.toList.drop i=el a i::a.toList.drop (i+1):=by
 have hl:i<a.toList.length:=by rw[Y6];exact h
 have e:a.toList[i]=el a i:=by
  have h1:=Y2 hl;rw[Zk,jL h]at h1;exact(Zt h1).symm
 rw[aai hl,e]
structure Mg (c:Y5->Y5->Bool)(p q:Array Y5)(t:List Y5)(i j:Nat):Prop where
 hi:i<=p.size
 hj:j<=q.size
 perm:t.Perm (p.toList.take i++q.toList.take j)
 cM:t.Pairwise (le c)
 ap:∀x∈t,∀k,i<=k->k<p.size->le c x (el p k)
 aq:∀x∈t,∀k,j<=k->k<q.size->le c x (el q k)
def Gd (c:Y5->Y5->Bool)(p q:Array Y5)(t:List Y5):Prop:=t.Perm (p.toList++q.toList)/\t.Pairwise (le c)
theorem sW {x:Y5}(h:t.Pairwise (le c))(hx:∀y∈t,le c y x):(t++[x]).Pairwise (le c):=by
 rw[aba];exact⟨h,List.pairwise_singleton _ _,λy hy z hz=>by rw[Y1.mp hz];exact hx y hy⟩
theorem Mg.lh (m:Mg c p q t i j)(hj:j<q.size)(sq:SR c q 0 q.size)(hle:∀k,i<=k->k<p.size->le c (el q j) (el p k)):Mg c p q (t++[el q j]) i (j+1) where
 hi:=m.hi
 hj:=hj
 perm:=by
  rw[xo hj,<- ZV];exact m.perm.append_right _
 cM:=sW m.cM λy hy=>m.aq y hy j (YY _) hj
 ap:=λx hx k h1 h2=>by
  rcases Zb.mp hx with h|h
  ·exact m.ap x h k h1 h2
  ·rw[Y1.mp h];exact hle k h1 h2
 aq:=λx hx k h1 h2=>by
  rcases Zb.mp hx with h|h
  ·exact m.aq x h k (by lia) h2
  ·rw[Y1.mp h];exact sq j k (by lia) (by lia) h2
theorem Mg.lj (m:Mg c p q t i j)(hi:i<p.size)(sp:SR c p 0 p.size)(hle:∀k,j<=k->k<q.size->le c (el p i) (el q k)):Mg c p q (t++[el p i]) (i+1) j where
 hi:=hi
 hj:=m.hj
 perm:=by
  rw[xo hi];refine(m.perm.append_right _).trans ?_;rw[ZV,ZV];exact List.Perm.append_left _ List.perm_append_comm
 cM:=sW m.cM λy hy=>m.ap y hy i (YY _) hi
 ap:=λx hx k h1 h2=>by
  rcases Zb.mp hx with h|h
  ·exact m.ap x h k (by lia) h2
  ·rw[Y1.mp h];exact sp i k (by lia) (by lia) h2
 aq:=λx hx k h1 h2=>by
  rcases Zb.mp hx with h|h
  ·exact m.aq x h k h1 h2
  ·rw[Y1.mp h];exact hle k h1 h2
theorem gP {a:Array Y5}{i k:Nat}(h:i+k<a.size):(a.toList.drop i).take (k+1)=(a.toList.drop i).take k++[el a (i+k)]:=by
 have e:(a.toList.drop i)[k]?=some (el a (i+k)):=by rw[aca,Zk];exact jL h
 rw[List.take_succ,e];rfl
theorem Mg.jg (m:Mg c p q t i j)(sp:SR c p 0 p.size):∀(k:Nat),i+k<=p.size->(∀x,x<k->∀y,j<=y->y<q.size->le c (el p (i+x)) (el q y))->Mg c p q (t++(p.toList.drop i).take k) (i+k) j
 |0,_,_=>by simpa using m
 |k+1,h,hle=>by
  have m':=Mg.jg m sp k (by lia) λx hx=>hle x (by lia)
  rw[gP (by lia),<- ZV,<- Nat.add_assoc]
  exact m'.lj (by lia) sp (hle k (by lia))
theorem Mg.jf (m:Mg c p q t i j)(sq:SR c q 0 q.size):∀(k:Nat),j+k<=q.size->(∀x,x<k->∀y,i<=y->y<p.size->le c (el q (j+x)) (el p y))->Mg c p q (t++(q.toList.drop j).take k) i (j+k)
 |0,_,_=>by simpa using m
 |k+1,h,hle=>by
  have m':=Mg.jf m sq k (by lia) λx hx=>hle x (by lia)
  rw[gP (by lia),<- ZV,<- Nat.add_assoc]
  exact m'.lh (by lia) sq (hle k (by lia))
theorem Mg.full (m:Mg c p q t p.size q.size):Gd c p q t:=by
 refine⟨?_,m.cM⟩;have h:=m.perm;rw[aay (by rw[Y6];lia),aay (by rw[Y6];lia)]at h
 exact h
theorem cu (a:Array Y5)(i j:Nat):(a.extract i j).toList=(a.toList.drop i).take (j-i):=by
 rw[Array.toList_extract,acf]
theorem uP {a:Array Y5}{i j:Nat}(h:a.size<=i):(a.toList.drop i).take (j-i)=[]:=by
 rw[aaK (by rw[Y6];exact h)]
 simp
theorem Mg.done {to:Array Y5}(m:Mg c p q to.toList i j)(sp:SR c p 0 p.size)(sq:SR c q 0 q.size)(h:i=p.size\/j=q.size):Gd c p q (to++p.extract i p.size++q.extract j q.size).toList:=by
 rw[aak,aak,cu,cu];rcases h with rfl|rfl
 ·rw[uP (YY _),ZX];have m':=m.jf sq (q.size-j) (by have:=m.hj;lia) λx hx y h1 h2=>by lia
  rw[show j+(q.size-j)=q.size by have:=m.hj;lia]at m'
  exact m'.full
 ·rw[uP (a:=q) (YY _),ZX];have m':=m.jg sp (p.size-i) (by have:=m.hi;lia) λx hx y h1 h2=>by lia
  rw[show i+(p.size-i)=p.size by have:=m.hi;lia]at m'
  exact m'.full
theorem Mg.tail {to:Array Y5}(O:cw c)(m:Mg c p q to.toList i j)(sp:SR c p 0 p.size)(sq:SR c q 0 q.size)(h:i+1=p.size)(hl:∀y,y<q.size->c (el q y) (el p (p.size-1))=true):Gd c p q (to++q.extract j q.size++p.extract i p.size).toList:=by
 rw[aak,aak,cu,cu];have m':=m.jf sq (q.size-j) (by have:=m.hj;lia) λx hx y h1 h2=>by
  rw[show y=p.size-1 by lia]
  exact O.of_lt (hl _ (by lia))
 rw[show j+(q.size-j)=q.size by have:=m.hj;lia]at m'
 have m2:=m'.jg sp (p.size-i) (by have:=m.hi;lia) λx hx y h1 h2=>by lia
 rw[show i+(p.size-i)=p.size by have:=m.hi;lia]at m2
 exact m2.full
theorem yO (to a:Array Y5)(i k:Nat):(to++a.extract i (i+k)).toList=to.toList++(a.toList.drop i).take k:=by
 rw[aak,cu,show i+k-i=k by lia]
theorem Mg.start (O:cw c)(sp:SR c p 0 p.size)(sq:SR c q 0 q.size)(hq:0<q.size)(hp:0<p.size)(h:c (el q 0) (el p 0)=true):Mg c p q [el q 0] 0 1:=by
 have m:Mg c p q [] 0 0:=⟨Zm _,Zm _,(by simp),.nil,(λx hx=>by cases hx),(λx hx=>by cases hx)⟩
 exact m.lh hq sq λk _ hk=>O.trans (O.of_lt h) (sp 0 k (by lia) (by lia) hk)
end
structure k7 (st aJ:Zy):Prop where
 kind:kindOf aJ=kindOf st
 arr:ZG aJ=ZG st
 pend:Zs aJ=Zs st
 fail:abB aJ=abB st
theorem k7.refl (st:Zy):k7 st st:=⟨rfl,rfl,rfl,rfl⟩
theorem k7.HL {st aJ:Zy}(e:k7 st aJ)(g:Nat):k7 st (cG aJ g):=⟨e.kind,e.arr,e.pend,e.fail⟩
abbrev RI:=Array Y5×Nat×Nat×Nat×Nat
abbrev RG:=Array Y5×Nat×Nat×Nat×Nat×Nat
abbrev RO:=Array Y5×Nat×Nat×Nat
noncomputable def QW (p q t:Array Y5)(i j mg m n:Nat):StateT Zy Sem (ForInStep (Option (Array Y5)×RG)):=do
 let z <- elem' p i
 if (i+1+1==p.size)=true then pure (.done (some (t.push z++q.extract j++p.extract (i+1)),t.push z,i+1,j,mg,m,n))
 else if (decide (m<7)&&decide (n<7))=true then pure (.done (none,t.push z,i+1,j,mg,m,n)) else pure (.yield (none,t.push z,i+1,j,mg,m,n))
noncomputable def QX (p q t:Array Y5)(i j mg m n:Nat):StateT Zy Sem (ForInStep (Option (Array Y5)×RG)):=do
 let y <- elem' q j
 if (j+1==q.size)=true then pure (.done (some (t.push y++p.extract i++q.extract (j+1)),t.push y,i,j+1,mg,m,n))
 else do
  let x <- elem' p i
  let r <- cC true x q (j+1) (q.size-(j+1)) 0
  match r with
  |some k=>if k>0 then (if (j+1+k==q.size)=true then pure (.done (some (t.push y++q.extract (j+1) (j+1+k)++p.extract i++q.extract (j+1+k)),t.push y++q.extract (j+1) (j+1+k),i,j+1+k,mg,m,k))
    else QW p q (t.push y++q.extract (j+1) (j+1+k)) i (j+1+k) mg m k) else QW p q (t.push y) i (j+1) mg m k
  |_=>pure (.done (some (t.push y++p.extract i++q.extract (j+1)),t.push y,i,j+1,mg,m,n))
noncomputable def Nw (p q t:Array Y5)(i j mg m n:Nat):StateT Zy Sem (ForInStep (Option (Array Y5)×RG)):=do
 modify λst=>cG st mg
 let y <- elem' q j
 let r <- cC false y p i (p.size-i) 0
 match r with
 |some k=>if k>0 then (if (i+k+1==p.size)=true then pure (.done (some (t++p.extract i (i+k)++q.extract j++p.extract (i+k)),t++p.extract i (i+k),i+k,j,mg,k,n))
   else if (i+k==p.size)=true then pure (.done (some (t++p.extract i (i+k)++p.extract (i+k)++q.extract j),t++p.extract i (i+k),i+k,j,mg,k,n))
   else QX p q (t++p.extract i (i+k)) (i+k) j mg k n) else QX p q t i j mg k n
 |_=>pure (.done (some (t++p.extract i++q.extract j),t,i,j,mg,m,n))
def WL (p q:Array Y5)(s:Option (Array Y5)×RG):StateT Zy Sem (ForInStep (Option (Array Y5)×RG)):=if s.2.2.2.2.1>1 then Nw p q s.2.1 s.2.2.1 s.2.2.2.1 (s.2.2.2.2.1-1) s.2.2.2.2.2.1 s.2.2.2.2.2.2 else Nw p q s.2.1 s.2.2.1 s.2.2.2.1 s.2.2.2.2.1 s.2.2.2.2.2.1 s.2.2.2.2.2.2
noncomputable def Nv (p q:Array Y5)(mg:Nat)(s:Option (Array Y5)×RI):StateT Zy Sem (ForInStep (Option (Array Y5)×RI)):=do
 let y <- elem' q s.2.2.2.1
 if (s.2.2.2.1+1==q.size)=true then pure (.done (some (s.2.1.push y++p.extract s.2.2.1++q.extract (s.2.2.2.1+1)),s.2.1.push y,s.2.2.1,s.2.2.2.1+1,0,s.2.2.2.2.2+1))
 else if s.2.2.2.2.2+1 >= mg then pure (.done (none,s.2.1.push y,s.2.2.1,s.2.2.2.1+1,0,s.2.2.2.2.2+1)) else pure (.yield (none,s.2.1.push y,s.2.2.1,s.2.2.2.1+1,0,s.2.2.2.2.2+1))
noncomputable def Nu (p q:Array Y5)(mg:Nat)(s:Option (Array Y5)×RI):StateT Zy Sem (ForInStep (Option (Array Y5)×RI)):=do
 let x <- elem' p s.2.2.1
 if (s.2.2.1+1+1==p.size)=true then pure (.done (some (s.2.1.push x++q.extract s.2.2.2.1++p.extract (s.2.2.1+1)),s.2.1.push x,s.2.2.1+1,s.2.2.2.1,s.2.2.2.2.1+1,0))
 else if s.2.2.2.2.1+1 >= mg then pure (.done (none,s.2.1.push x,s.2.2.1+1,s.2.2.2.1,s.2.2.2.2.1+1,0)) else pure (.yield (none,s.2.1.push x,s.2.2.1+1,s.2.2.2.1,s.2.2.2.2.1+1,0))
noncomputable def QV (p q:Array Y5)(mg:Nat)(s:Option (Array Y5)×RI):StateT Zy Sem (ForInStep (Option (Array Y5)×RI)):=do
 let y <- elem' q s.2.2.2.1
 let x <- elem' p s.2.2.1
 let r <- lt' y x
 match r with
 |some IC=>if IC=true then Nv p q mg s else Nu p q mg s
 |_=>pure (.done (some (s.2.1++p.extract s.2.2.1++q.extract s.2.2.2.1),s.2.1,s.2.2.1,s.2.2.2.1,s.2.2.2.2.1,s.2.2.2.2.2))
noncomputable def U5 (p q:Array Y5)(s:Option (Array Y5)×RO):StateT Zy Sem (ForInStep (Option (Array Y5)×RO)):=do
 let s1 <- forIn [:p.size+q.size] ((none,s.2.1,s.2.2.1,s.2.2.2.1,0,0):Option (Array Y5)×RI) λ_ r=>QV p q s.2.2.2.2 r
 match s1.1 with
 |some r=>pure (.done (some r,s1.2.1,s1.2.2.1,s1.2.2.2.1,s.2.2.2.2))
 |none=>do
  liftM (rule "list.sort.gallop")
  let s2 <- forIn [:p.size+q.size] ((none,s1.2.1,s1.2.2.1,s1.2.2.2.1,s.2.2.2.2+1,s1.2.2.2.2.1,s1.2.2.2.2.2):Option (Array Y5)×RG) λ_ r=>WL p q r
  match s2.1 with
  |some r=>pure (.done (some r,s2.2.1,s2.2.2.1,s2.2.2.2.1,s2.2.2.2.2.1))
  |none=>do
   modify λst=>cG st (s2.2.2.2.2.1+1)
   pure (.yield (none,s2.2.1,s2.2.2.1,s2.2.2.2.1,s2.2.2.2.2.1+1))
theorem t6 (p q:Array Y5):jz p q=(do
  liftM (rule "list.sort.merge-lo")
  let y <- elem' q 0
  if (1==q.size)=true then pure (#[y]++p.extract 0++q.extract 1)
  else if (0+1==p.size)=true then pure (#[y]++q.extract 1++p.extract 0)
  else do
   let st <- get
   let s <- forIn [:p.size+q.size] ((none,#[y],0,1,gallopOf st):Option (Array Y5)×RO) λ_ s=>U5 p q s
   match s.1 with
   |some r=>pure r
   |none=>liftM (unsupported "internal:list.sort.merge-bound" : Sem (Array Y5))):=by
 rw[t5];dsimp only;refine congrArg (bind _) (funext λ_=>?_);refine congrArg (bind _) (funext λy=>?_);refine congrArg (ite _ _) (congrArg (ite _ _) ?_);refine congrArg (bind _) (funext λy=>?_);refine congr (congrArg bind (congrArg _ (funext λ_=>funext λs=>?_))) (funext λs=>?_)
 ·refine congr (congrArg bind (congrArg _ (funext λ_=>funext λs=>?_))) (funext λs=>?_)
  ·rfl
  ·cases s.1
   ·refine congrArg (bind _) (funext λ_=>?_);refine congr (congrArg bind (congrArg _ (funext λ_=>funext λs=>?_))) (funext λs=>?_)
    ·rfl
    ·cases s.1 <;> rfl
   ·rfl
 ·cases s.1 <;> rfl
section
variable {prog:Y0}{w:Zd}{A:ZQ}{E:YU->YW->Prop}{s:YW}{κ:abl}{c:Y5->Y5->Bool}{S:Y5->Prop}{p q:Array Y5}
theorem AG {st:Zy}{Q:ForInStep (Option (Array Y5)×RG)->Zy->Prop}{t:Array Y5}{i j mg m n:Nat}(O:cw c)(sp:SR c p 0 p.size)(sq:SR c q 0 q.size)(hl:∀y,y<q.size->c (el q y) (el p (p.size-1))=true)(m3:Mg c p q t.toList i j)(hi:i+1<p.size)(g3:∀y,j<=y->y<q.size->le c (el p i) (el q y))
  (hd:∀out r,Gd c p q out.toList->Q (.done (some out,r)) st) (hn:∀t' m n,Mg c p q t'.toList (i+1) j->i+1+1<p.size->Q (.done (none,t',i+1,j,mg,m,n)) st/\Q (.yield (none,t',i+1,j,mg,m,n)) st):wpS (model prog w) A E s (QW p q t i j mg m n) Q st:=by
 refine Y9 (aZ (by lia) ?_)
 have m4:Mg c p q (t.push (el p i)).toList (i+1) j:=by
  rw[aaG];exact m3.lj (by lia) sp g3
 by_cases e5:(i+1+1==p.size)=true
 ·rw[if_pos e5];exact Zg (hd _ _ (m4.tail O sp sq (by simpa using e5) hl))
 rw[if_neg e5];have h5:i+1+1≠p.size:=by simpa using e5
 obtain⟨h6,h7⟩:=hn (t.push (el p i)) m n m4 (by lia)
 split
 ·exact Zg h6
 ·exact Zg h7
theorem AH {st:Zy}{Q:ForInStep (Option (Array Y5)×RG)->Zy->Prop}{t:Array Y5}{i j mg m n:Nat}(O:cw c)(L:gf prog w A E s κ c S)(hk:kindOf st=κ)(Sp:∀i,i<p.size->S (el p i))(Sq:∀i,i<q.size->S (el q i))(sp:SR c p 0 p.size)(sq:SR c q 0 q.size)(hl:∀y,y<q.size->c (el q y) (el p (p.size-1))=true)(m1:Mg c p q t.toList i j)(hi:i+1<p.size)(hj:j<q.size)(g1:∀y,i<=y->y<p.size->le c (el q j) (el p y))
  (hd:∀out r,Gd c p q out.toList->Q (.done (some out,r)) st) (hn:∀t' j' m n,Mg c p q t'.toList (i+1) j'->i+1+1<p.size->j<j'->j'<q.size->Q (.done (none,t',i+1,j',mg,m,n)) st/\Q (.yield (none,t',i+1,j',mg,m,n)) st):wpS (model prog w) A E s (QX p q t i j mg m n) Q st:=by
 refine Y9 (aZ hj ?_);have m2:Mg c p q (t.push (el q j)).toList i (j+1):=by
  rw[aaG];exact m1.lh hj sq g1
 by_cases e3:(j+1==q.size)=true
 ·rw[if_pos e3];exact Zg (hd _ _ (m2.done sp sq (.inr (by simpa using e3))))
 rw[if_neg e3];have h3:j+1≠q.size:=by simpa using e3
 refine Y9 (aZ (by lia) (Y9 (dY O L hk (Sp _ (by lia)) (λx hx=>Sq _ (by lia)) (by lia) (λa b h1 h2 h3=>sq a b (by lia) h2 (by lia)) (by lia) λk k1 k2 k3=>?_)))
 have g3:∀y,j+1+k<=y->y<q.size->le c (el p i) (el q y):=λy h1 h2=>by
  have:=k3 (y-(j+1)) (by lia) (by lia)
  unfold eW at this;rw[if_pos rfl,show j+1+(y-(j+1))=y by lia]at this
  exact this
 dsimp only
 by_cases zW:k>0
 ·rw[if_pos zW];have m3:Mg c p q (t.push (el q j)++q.extract (j+1) (j+1+k)).toList i (j+1+k):=by
   rw[yO];exact m2.jf sq k (by lia) λx hx y h1 h2=>O.trans (O.of_lt (show c (el q (j+1+x)) (el p i)=true from k2 x hx)) (sp _ y (by lia) h1 h2)
  by_cases e4:(j+1+k==q.size)=true
  ·rw[if_pos e4];exact Zg (hd _ _ (m3.done sp sq (.inr (by simpa using e4))))
  rw[if_neg e4];have h4:j+1+k≠q.size:=by simpa using e4
  exact AG O sp sq hl m3 hi g3 hd λt' m n h1 h2=>hn t' _ m n h1 h2 (by lia) (by lia)
 ·rw[if_neg zW];exact AG O sp sq hl m2 hi (λy h1 h2=>g3 y (by lia) h2) hd λt' m n h1 h2=>hn t' _ m n h1 h2 (by lia) (by lia)
theorem Iw {st:Zy}{Q:ForInStep (Option (Array Y5)×RG)->Zy->Prop}{t:Array Y5}{i j mg m n:Nat}(O:cw c)(L:gf prog w A E s κ c S)(hk:kindOf st=κ)(Sp:∀i,i<p.size->S (el p i))(Sq:∀i,i<q.size->S (el q i))(sp:SR c p 0 p.size)(sq:SR c q 0 q.size)(hl:∀y,y<q.size->c (el q y) (el p (p.size-1))=true)(m0:Mg c p q t.toList i j)(hi:i+1<p.size)(hj:j<q.size)
  (hd:∀out r,Gd c p q out.toList->Q (.done (some out,r)) (cG st mg)) (hn:∀t' i' j' m n,Mg c p q t'.toList i' j'->i'+1<p.size->j'<q.size->i+j<i'+j'->Q (.done (none,t',i',j',mg,m,n)) (cG st mg)/\Q (.yield (none,t',i',j',mg,m,n)) (cG st mg)):wpS (model prog w) A E s (Nw p q t i j mg m n) Q st:=by
 refine Y9 (aa7 (Y9 (aZ hj (Y9 (dY O L hk (Sq _ hj) (λx hx=>Sp _ (by lia)) (by lia) (λa b h1 h2 h3=>sp a b (by lia) h2 (by lia)) (by lia) λk k1 k2 k3=>?_)))))
 have g0:∀x,x<k->le c (el p (i+x)) (el q j):=λx hx=>by
  have:=k2 x hx;unfold eW at this;rw[if_neg (by simp),aaF]at this
  exact this
 have g1:∀y,i+k<=y->y<p.size->le c (el q j) (el p y):=λy h1 h2=>by
  have:=k3 (y-i) (by lia) (by lia)
  unfold eW at this;rw[if_neg (by simp),abu,show i+(y-i)=y by lia]at this
  exact O.of_lt this
 have YK:i+k<p.size:=by
  rcases aaq (i+k) p.size with ic|YN
  ·exact ic
  ·have h1:=g0 (p.size-1-i) (by lia)
   rw[show i+(p.size-1-i)=p.size-1 by lia]at h1
   exact absurd ((hl j hj).symm.trans h1) (by simp)
 dsimp only
 by_cases zW:k>0
 ·rw[if_pos zW];have m1:Mg c p q (t++p.extract i (i+k)).toList (i+k) j:=by
   rw[yO];exact m0.jg sp k (by lia) λx hx y h1 h2=>O.trans (g0 x hx) (sq j y (by lia) h1 h2)
  by_cases e1:(i+k+1==p.size)=true
  ·rw[if_pos e1];exact Zg (hd _ _ (m1.tail O sp sq (by simpa using e1) hl))
  rw[if_neg e1];have Gu:i+k+1≠p.size:=by simpa using e1
  rw[if_neg (by simp;lia)]
  exact AH O L hk Sp Sq sp sq hl m1 (by lia) hj g1 hd λt' j' m n h1 h2 h3 h4=>hn t' _ j' m n h1 h2 h4 (by lia)
 ·rw[if_neg zW];exact AH O L hk Sp Sq sp sq hl m0 hi hj (λy h1 h2=>g1 y (by lia) h2) hd λt' j' m n h1 h2 h3 h4=>hn t' _ j' m n h1 h2 h4 (by lia)
theorem Iv {st:Zy}{Q:ForInStep (Option (Array Y5)×RI)->Zy->Prop}{t:Array Y5}{i j mg ma na:Nat}(O:cw c)(L:gf prog w A E s κ c S)(hk:kindOf st=κ)(Sp:∀i,i<p.size->S (el p i))(Sq:∀i,i<q.size->S (el q i))(sp:SR c p 0 p.size)(sq:SR c q 0 q.size)(hl:∀y,y<q.size->c (el q y) (el p (p.size-1))=true)(m:Mg c p q t.toList i j)(hi:i+1<p.size)(hj:j<q.size)
  (hd:∀out r,Gd c p q out.toList->Q (.done (some out,r)) st) (hn:∀t' i' j' m n,Mg c p q t'.toList i' j'->i'+1<p.size->j'<q.size->i+j<i'+j'->Q (.done (none,t',i',j',m,n)) st/\Q (.yield (none,t',i',j',m,n)) st):wpS (model prog w) A E s (QV p q mg (none,t,i,j,ma,na)) Q st:=by
 unfold QV Nv Nu;dsimp only;refine Y9 (aZ hj (Y9 (aZ (by lia) (Y9 (L _ _ st _ (Sq _ hj) (Sp _ (by lia)) hk ?_)))))
 dsimp only;cases hc:c (el q j) (el p i)with
 |true =>
  rw[if_pos rfl];refine Y9 (aZ hj ?_);have m1:Mg c p q (t.push (el q j)).toList i (j+1):=by
   rw[aaG];exact m.lh hj sq λk h1 h2=>O.trans (O.of_lt hc) (sp i k (by lia) h1 h2)
  by_cases e3:(j+1==q.size)=true
  ·rw[if_pos e3];exact Zg (hd _ _ (m1.done sp sq (.inr (by simpa using e3))))
  rw[if_neg e3];have h3:j+1≠q.size:=by simpa using e3
  obtain⟨h6,h7⟩:=hn _ _ _ 0 (na+1) m1 hi (by lia) (by lia)
  split
  ·exact Zg h6
  ·exact Zg h7
 |false =>
  rw[if_neg (by simp)]
  refine Y9 (aZ (by lia) ?_)
  have m1:Mg c p q (t.push (el p i)).toList (i+1) j:=by
   rw[aaG];exact m.lj (by lia) sp λk h1 h2=>O.trans (show le c (el p i) (el q j) from hc) (sq j k (by lia) h1 h2)
  by_cases e3:(i+1+1==p.size)=true
  ·rw[if_pos e3];exact Zg (hd _ _ (m1.tail O sp sq (by simpa using e3) hl))
  rw[if_neg e3];have h3:i+1+1≠p.size:=by simpa using e3
  obtain⟨h6,h7⟩:=hn _ _ _ (ma+1) 0 m1 (by lia) hj (by lia)
  split
  ·exact Zg h6
  ·exact Zg h7
theorem vA (O:cw c)(L:gf prog w A E s κ c S){Q:Array Y5->Zy->Prop}{st:Zy}(hk:kindOf st=κ)(Sp:∀i,i<p.size->S (el p i))(Sq:∀i,i<q.size->S (el q i))(sp:SR c p 0 p.size)(sq:SR c q 0 q.size)
  (hp:0<p.size) (hq:0<q.size) (hf:c (el q 0) (el p 0)=true) (hl:∀y,y<q.size->c (el q y) (el p (p.size-1))=true) (h:∀to aJ,k7 st aJ->Gd c p q to.toList->Q to aJ) :
  wpS (model prog w) A E s (jz p q) Q st:=by
 rw[t6];refine Y9 (wpS_lift (abJ ⟨rfl,?_⟩));refine Y9 (aZ hq ?_);have m0:Mg c p q (#[el q 0]:Array Y5).toList 0 1:=Mg.start O sp sq hq hp hf
 by_cases h1:(1==q.size)=true
 ·rw[if_pos h1];exact Zg (h _ st (k7.refl st) (m0.done sp sq (.inr (by simpa using h1))))
 rw[if_neg h1]
 by_cases h2:(0+1==p.size)=true
 ·rw[if_pos h2];exact Zg (h _ st (k7.refl st) (m0.tail O sp sq (by simpa using h2) hl))
 rw[if_neg h2];refine Y9 (aci ?_);refine Y9 (aaC (Z3
  (I:=λx r aJ=>k7 st aJ/\∃to i j mg,r=(none,to,i,j,mg)/\Mg c p q to.toList i j/\i+1<p.size/\j<q.size/\x<i+j)
  (Q:=λr aJ=>k7 st aJ/\∃out r',r=(some out,r')/\Gd c p q out.toList) ?_ ?_ ?_) ?_)
 ·rintro x r aJ _ hx ⟨e,to,i,j,mg,rfl,m,hi,hj,hb⟩;unfold U5;dsimp only;refine Y9 (aaC (Z3
   (I:=λy r aJ=>k7 st aJ/\∃to i j m n,r=(none,to,i,j,m,n)/\Mg c p q to.toList i j/\i+1<p.size/\j<q.size/\x+min y 1<i+j)
   (Q:=λr aJ=>k7 st aJ/\((∃out r',r=(some out,r')/\Gd c p q out.toList)\/∃to i j m n,r=(none,to,i,j,m,n)/\Mg c p q to.toList i j/\i+1<p.size/\j<q.size/\x+1<i+j)) ?_ ?_ ?_) ?_)
  ·rintro y r gq _ hy ⟨e2,to,i,j,ma,na,rfl,m,hi,hj,hb⟩;exact Iv O L (e2.kind.trans hk) Sp Sq sp sq hl m hi hj (λout r h=>⟨e2,.inl ⟨_,_,rfl,h⟩⟩) λt' i' j' m n h1 h2 h3 h4=>⟨⟨e2,.inr ⟨_,_,_,_,_,rfl,h1,h2,h3,by lia⟩⟩,⟨e2,_,_,_,_,_,rfl,h1,h2,h3,by lia⟩⟩
  ·rintro r gq ⟨e2,to,i,j,ma,na,rfl,m,hi,hj,hb⟩;exact⟨e2,.inr ⟨_,_,_,_,_,rfl,m,hi,hj,by lia⟩⟩
  ·exact⟨e,_,_,_,_,_,rfl,m,hi,hj,by lia⟩
  rintro r gq ⟨e2,⟨out,r',rfl,g⟩|⟨to,i,j,ma,na,rfl,m,hi,hj,hb⟩⟩
  ·exact Zg ⟨e2,_,_,rfl,g⟩
  dsimp only;refine Y9 (wpS_lift (abJ ⟨rfl,?_⟩));refine Y9 (aaC (Z3
   (I:=λy r aJ=>k7 st aJ/\∃to i j mg m n,r=(none,to,i,j,mg,m,n)/\Mg c p q to.toList i j/\i+1<p.size/\j<q.size/\x+1<i+j)
   (Q:=λr aJ=>k7 st aJ/\((∃out r',r=(some out,r')/\Gd c p q out.toList)\/∃to i j mg m n,r=(none,to,i,j,mg,m,n)/\Mg c p q to.toList i j/\i+1<p.size/\j<q.size/\x+1<i+j)) ?_ ?_ ?_) ?_)
  ·rintro y r gq _ hy ⟨e2,to,i,j,mg,ma,na,rfl,m,hi,hj,hb⟩;show wpS (model prog w) A E s (if mg>1 then Nw p q to i j (mg-1) ma na else Nw p q to i j mg ma na) _ gq
   split <;> exact Iw O L (e2.kind.trans hk) Sp Sq sp sq hl m hi hj (λout r h=>⟨e2.HL _,.inl ⟨_,_,rfl,h⟩⟩) λt' i' j' m n h1 h2 h3 h4=>⟨⟨e2.HL _,.inr ⟨_,_,_,_,_,_,rfl,h1,h2,h3,by lia⟩⟩,⟨e2.HL _,_,_,_,_,_,_,rfl,h1,h2,h3,by lia⟩⟩
  ·rintro r gq ⟨e2,to,i,j,mg,ma,na,rfl,m,hi,hj,hb⟩;exact⟨e2,.inr ⟨_,_,_,_,_,_,rfl,m,hi,hj,hb⟩⟩
  ·exact⟨e2,_,_,_,_,_,_,rfl,m,hi,hj,hb⟩
  rintro r gq ⟨e2,⟨out,r',rfl,g⟩|⟨to,i,j,mg,ma,na,rfl,m,hi,hj,hb⟩⟩
  ·exact Zg ⟨e2,_,_,rfl,g⟩
  dsimp only;refine Y9 (aa7 (Zg ⟨e2.HL _,_,_,_,_,rfl,m,hi,hj,by lia⟩))
 ·rintro r aJ ⟨e,to,i,j,mg,rfl,m,hi,hj,hb⟩
  exfalso
  rw[show max 0 (p.size+q.size)=p.size+q.size by lia]at hb
  lia
 ·exact⟨k7.refl st,_,_,_,_,rfl,m0,by simp at h2;lia,by simp at h1;lia,by lia⟩
 ·rintro r aJ ⟨e,out,r',rfl,g⟩;exact Zg (h _ aJ e g)
end
section
variable {c:Y5->Y5->Bool}{p q:Array Y5}{t:List Y5}{i j:Nat}
structure Mh (c:Y5->Y5->Bool)(p q:Array Y5)(t:List Y5)(i j:Nat):Prop where
 hi:i<=p.size
 hj:j<=q.size
 perm:t.Perm (p.toList.drop i++q.toList.drop j)
 cM:t.Pairwise (le c)
 ap:∀x∈t,∀k,k<i->le c (el p k) x
 aq:∀x∈t,∀k,k<j->le c (el q k) x
theorem qy {a:Array Y5}{i:Nat}(h0:0<i)(h:i<=a.size):a.toList.drop (i-1)=el a (i-1)::a.toList.drop i:=by
 rw[yx (by lia),show i-1+1=i by lia]
theorem Mh.lj (m:Mh c p q t i j)(h0:0<i)(sp:SR c p 0 p.size)(hle:∀k,k<j->le c (el q k) (el p (i-1))):Mh c p q (el p (i-1)::t) (i-1) j where
 hi:=by have:=m.hi;lia
 hj:=m.hj
 perm:=by
  rw[qy h0 m.hi];exact m.perm.cons _
 cM:=ZZ.mpr ⟨λx hx=>m.ap x hx _ (by lia),m.cM⟩
 ap:=λx hx k hk=>by
  rcases Y4.mp hx with rfl|h
  ·exact sp k (i-1) (by lia) (by lia) (by have:=m.hi;lia)
  ·exact m.ap x h k (by lia)
 aq:=λx hx k hk=>by
  rcases Y4.mp hx with rfl|h
  ·exact hle k hk
  ·exact m.aq x h k hk
theorem Mh.lh (m:Mh c p q t i j)(h0:0<j)(sq:SR c q 0 q.size)(hle:∀k,k<i->le c (el p k) (el q (j-1))):Mh c p q (el q (j-1)::t) i (j-1) where
 hi:=m.hi
 hj:=by have:=m.hj;lia
 perm:=by
  rw[qy h0 m.hj];exact(m.perm.cons _).trans acB.symm
 cM:=ZZ.mpr ⟨λx hx=>m.aq x hx _ (by lia),m.cM⟩
 ap:=λx hx k hk=>by
  rcases Y4.mp hx with rfl|h
  ·exact hle k hk
  ·exact m.ap x h k hk
 aq:=λx hx k hk=>by
  rcases Y4.mp hx with rfl|h
  ·exact sq k (j-1) (by lia) (by lia) (by have:=m.hj;lia)
  ·exact m.aq x h k (by lia)
theorem pF {a:Array Y5}{i k:Nat}(h0:k<i)(h:i<=a.size):(a.toList.drop (i-(k+1))).take (k+1)=el a (i-(k+1))::(a.toList.drop (i-k)).take k:=by
 rw[yx (by lia),show i-(k+1)+1=i-k by lia,List.take_succ_cons]
theorem Mh.AV (m:Mh c p q t i j)(sp:SR c p 0 p.size):∀(k:Nat),k<=i->(∀x,i-k<=x->x<i->∀y,y<j->le c (el q y) (el p x))->Mh c p q ((p.toList.drop (i-k)).take k++t) (i-k) j
 |0,_,_=>by simpa using m
 |k+1,h,hle=>by
  have m':=Mh.AV m sp k (by lia) λx h1 h2=>hle x (by lia) h2
  rw[pF (by lia) m.hi,List.cons_append]
  exact m'.lj (by lia) sp λy hy=>hle _ (by lia) (by lia) y hy
theorem Mh.AU (m:Mh c p q t i j)(sq:SR c q 0 q.size):∀(k:Nat),k<=j->(∀x,j-k<=x->x<j->∀y,y<i->le c (el p y) (el q x))->Mh c p q ((q.toList.drop (j-k)).take k++t) i (j-k)
 |0,_,_=>by simpa using m
 |k+1,h,hle=>by
  have m':=Mh.AU m sq k (by lia) λx h1 h2=>hle x (by lia) h2
  rw[pF (by lia) m.hj,List.cons_append]
  exact m'.lh (by lia) sq λy hy=>hle _ (by lia) (by lia) y hy
theorem Mh.jg (m:Mh c p q t i j)(sp:SR c p 0 p.size){h:Nat}(hh:h<=i)(hle:∀x,h<=x->x<i->∀y,y<j->le c (el q y) (el p x)):Mh c p q ((p.toList.drop h).take (i-h)++t) h j:=by
 have m':=m.AV sp (i-h) (by lia) λx h1 h2=>hle x (by lia) h2
 rw[show i-(i-h)=h by lia]at m'
 exact m'
theorem Mh.jf (m:Mh c p q t i j)(sq:SR c q 0 q.size){h:Nat}(hh:h<=j)(hle:∀x,h<=x->x<j->∀y,y<i->le c (el p y) (el q x)):Mh c p q ((q.toList.drop h).take (j-h)++t) i h:=by
 have m':=m.AU sq (j-h) (by lia) λx h1 h2=>hle x (by lia) h2
 rw[show j-(j-h)=h by lia]at m'
 exact m'
theorem Mh.full (m:Mh c p q t 0 0):Gd c p q t:=⟨m.perm,m.cM⟩
theorem MZ (a b to:Array Y5)(i j:Nat):(a.extract 0 i++b.extract 0 j++to.reverse).toList=(a.toList.drop 0).take (i-0)++((b.toList.drop 0).take (j-0)++to.toList.reverse):=by
 rw[aak,aak,cu,cu,Array.toList_reverse,ZV]
theorem Mh.done {to:Array Y5}(m:Mh c p q to.toList.reverse i j)(sp:SR c p 0 p.size)(sq:SR c q 0 q.size)(h:i=0\/j=0):Gd c p q (p.extract 0 i++q.extract 0 j++to.reverse).toList:=by
 rw[MZ];rcases h with rfl|rfl
 ·have m':=m.jf sq (h:=0) (Zm _) λx _ _ y hy=>by lia
  exact(m'.jg sp (h:=0) (Zm _) λx _ hx=>by lia).full
 ·have m':=m.jf sq (h:=0) (Zm _) λx _ hx=>by lia
  exact(m'.jg sp (h:=0) (Zm _) λx _ hx y hy=>by lia).full
theorem Mh.tail {to:Array Y5}(O:cw c)(m:Mh c p q to.toList.reverse i j)(sp:SR c p 0 p.size)(sq:SR c q 0 q.size)(h:j=1)(hf:c (el q 0) (el p 0)=true):Gd c p q (q.extract 0 j++p.extract 0 i++to.reverse).toList:=by
 rw[MZ];subst h;have m':=m.jg sp (h:=0) (Zm _) λx _ hx y hy=>by
  obtain rfl:y=0:=by lia
  exact O.trans (O.of_lt hf) (sp 0 x (by lia) (by lia) (by have:=m.hi;lia))
 exact(m'.jf sq (h:=0) (Zm _) λx _ _ y hy=>by lia).full
theorem jo (to:Array Y5)(x:Y5):(to.push x).toList.reverse=x::to.toList.reverse:=by
 rw[aaG,ab1];rfl
theorem yN (to a:Array Y5)(h i:Nat):(to++(a.extract h i).reverse).toList.reverse=(a.toList.drop h).take (i-h)++to.toList.reverse:=by
 rw[aak,ab1,Array.toList_reverse,List.reverse_reverse,cu]
theorem Mh.start (sp:SR c p 0 p.size)(O:cw c)(hp:0<p.size)(hl:∀y,y<q.size->c (el q y) (el p (p.size-1))=true):Mh c p q [el p (p.size-1)] (p.size-1) q.size:=by
 have m:Mh c p q [] p.size q.size:=⟨YY _,YY _,by rw[aaK (by simp),aaK (by simp)];exact .refl _,.nil,(λx hx=>by cases hx),(λx hx=>by cases hx)⟩
 exact m.lj hp sp λk hk=>O.of_lt (hl k hk)
end
abbrev RJ:=Nat×Nat×Array Y5×Nat×Nat
abbrev RH:=Nat×Nat×Array Y5×Nat×Nat×Nat
abbrev RP:=Nat×Nat×Array Y5×Nat
noncomputable def Tj (p q t:Array Y5)(i j mg m n:Nat):StateT Zy Sem (ForInStep (Option (Array Y5)×RH)):=do
 let z <- elem' p (i-1)
 if (i-1==0)=true then pure (.done (some (p.extract 0 (i-1)++q.extract 0 j++(t.push z).reverse),i-1,j,t.push z,mg,m,n))
 else if (decide (m<7)&&decide (n<7))=true then pure (.done (none,i-1,j,t.push z,mg,m,n)) else pure (.yield (none,i-1,j,t.push z,mg,m,n))
noncomputable def Tn (p q t:Array Y5)(i j mg m n:Nat):StateT Zy Sem (ForInStep (Option (Array Y5)×RH)):=do
 let y <- elem' q (j-1)
 if (j-1==1)=true then pure (.done (some (q.extract 0 (j-1)++p.extract 0 i++(t.push y).reverse),i,j-1,t.push y,mg,m,n))
 else do
  let x <- elem' p (i-1)
  let r <- cC true x q 0 (j-1) (j-1-1)
  match r with
  |some h=>if j-1-h>0 then (if (h==1)=true then pure (.done (some (q.extract 0 h++p.extract 0 i++(t.push y++(q.extract h (j-1)).reverse).reverse),i,h,t.push y++(q.extract h (j-1)).reverse,mg,m,j-1-h))
    else if (h==0)=true then pure (.done (some (p.extract 0 i++q.extract 0 h++(t.push y++(q.extract h (j-1)).reverse).reverse),i,h,t.push y++(q.extract h (j-1)).reverse,mg,m,j-1-h))
    else Tj p q (t.push y++(q.extract h (j-1)).reverse) i h mg m (j-1-h)) else Tj p q (t.push y) i (j-1) mg m (j-1-h)
  |_=>pure (.done (some (p.extract 0 i++q.extract 0 (j-1)++(t.push y).reverse),i,j-1,t.push y,mg,m,n))
noncomputable def N5 (p q t:Array Y5)(i j mg m n:Nat):StateT Zy Sem (ForInStep (Option (Array Y5)×RH)):=do
 modify λst=>cG st mg
 let y <- elem' q (j-1)
 let r <- cC false y p 0 i (i-1)
 match r with
 |some h=>if i-h>0 then (if (h==0)=true then pure (.done (some (p.extract 0 h++q.extract 0 j++(t++(p.extract h i).reverse).reverse),h,j,t++(p.extract h i).reverse,mg,i-h,n))
   else Tn p q (t++(p.extract h i).reverse) h j mg (i-h) n) else Tn p q t i j mg (i-h) n
 |_=>pure (.done (some (p.extract 0 i++q.extract 0 j++t.reverse),i,j,t,mg,m,n))
def Xu (p q:Array Y5)(s:Option (Array Y5)×RH):StateT Zy Sem (ForInStep (Option (Array Y5)×RH)):=if s.2.2.2.2.1>1 then N5 p q s.2.2.2.1 s.2.1 s.2.2.1 (s.2.2.2.2.1-1) s.2.2.2.2.2.1 s.2.2.2.2.2.2 else N5 p q s.2.2.2.1 s.2.1 s.2.2.1 s.2.2.2.2.1 s.2.2.2.2.2.1 s.2.2.2.2.2.2
noncomputable def Ti (p q t:Array Y5)(mg i j m:Nat):StateT Zy Sem (ForInStep (Option (Array Y5)×RJ)):=do
 let x <- elem' p (i-1)
 if (i-1==0)=true then pure (.done (some (p.extract 0 (i-1)++q.extract 0 j++(t.push x).reverse),i-1,j,t.push x,m+1,0))
 else if m+1 >= mg then pure (.done (none,i-1,j,t.push x,m+1,0)) else pure (.yield (none,i-1,j,t.push x,m+1,0))
noncomputable def Th (p q t:Array Y5)(mg i j n:Nat):StateT Zy Sem (ForInStep (Option (Array Y5)×RJ)):=do
 let y <- elem' q (j-1)
 if (j-1==1)=true then pure (.done (some (q.extract 0 (j-1)++p.extract 0 i++(t.push y).reverse),i,j-1,t.push y,0,n+1))
 else if n+1 >= mg then pure (.done (none,i,j-1,t.push y,0,n+1)) else pure (.yield (none,i,j-1,t.push y,0,n+1))
noncomputable def Vo (p q t:Array Y5)(mg i j m n:Nat):StateT Zy Sem (ForInStep (Option (Array Y5)×RJ)):=do
 let y <- elem' q (j-1)
 let x <- elem' p (i-1)
 let r <- lt' y x
 match r with
 |some IC=>if IC=true then Ti p q t mg i j m else Th p q t mg i j n
 |_=>pure (.done (some (p.extract 0 i++q.extract 0 j++t.reverse),i,j,t,m,n))
noncomputable def Vn (p q:Array Y5)(s:Option (Array Y5)×RP):StateT Zy Sem (ForInStep (Option (Array Y5)×RP)):=do
 let s1 <- forIn [:p.size+q.size] ((none,s.2.1,s.2.2.1,s.2.2.2.1,0,0):Option (Array Y5)×RJ) λ_ r=>Vo p q r.2.2.2.1 s.2.2.2.2 r.2.1 r.2.2.1 r.2.2.2.2.1 r.2.2.2.2.2
 match s1.1 with
 |some r=>pure (.done (some r,s1.2.1,s1.2.2.1,s1.2.2.2.1,s.2.2.2.2))
 |none=>do
  liftM (rule "list.sort.gallop")
  let s2 <- forIn [:p.size+q.size] ((none,s1.2.1,s1.2.2.1,s1.2.2.2.1,s.2.2.2.2+1,s1.2.2.2.2.1,s1.2.2.2.2.2):Option (Array Y5)×RH) λ_ r=>Xu p q r
  match s2.1 with
  |some r=>pure (.done (some r,s2.2.1,s2.2.2.1,s2.2.2.2.1,s2.2.2.2.2.1))
  |none=>do
   modify λst=>cG st (s2.2.2.2.2.1+1)
   pure (.yield (none,s2.2.1,s2.2.2.1,s2.2.2.2.1,s2.2.2.2.2.1+1))
theorem t8 (p q:Array Y5):jA p q=(do
  liftM (rule "list.sort.merge-hi")
  let y <- elem' p (p.size-1)
  if (p.size-1==0)=true then pure (p.extract 0 (p.size-1)++q.extract 0++#[y].reverse)
  else if (q.size==1)=true then pure (q.extract 0++p.extract 0 (p.size-1)++#[y].reverse)
  else do
   let st <- get
   let s <- forIn [:p.size+q.size] ((none,p.size-1,q.size,#[y],gallopOf st):Option (Array Y5)×RP) λ_ s=>Vn p q s
   match s.1 with
   |some r=>pure r
   |none=>liftM (unsupported "internal:list.sort.merge-bound" : Sem (Array Y5))):=by
 rw[t7];dsimp only;refine congrArg (bind _) (funext λ_=>?_);refine congrArg (bind _) (funext λy=>?_);refine congrArg (ite _ _) (congrArg (ite _ _) ?_);refine congrArg (bind _) (funext λy=>?_);refine congr (congrArg bind (congrArg _ (funext λ_=>funext λs=>?_))) (funext λs=>?_)
 ·refine congr (congrArg bind (congrArg _ (funext λ_=>funext λs=>?_))) (funext λs=>?_)
  ·rfl
  ·cases s.1
   ·refine congrArg (bind _) (funext λ_=>?_);refine congr (congrArg bind (congrArg _ (funext λ_=>funext λs=>?_))) (funext λs=>?_)
    ·rfl
    ·cases s.1 <;> rfl
   ·rfl
 ·cases s.1 <;> rfl
section
variable {prog:Y0}{w:Zd}{A:ZQ}{E:YU->YW->Prop}{s:YW}{κ:abl}{c:Y5->Y5->Bool}{S:Y5->Prop}{p q:Array Y5}
theorem AI {st:Zy}{Q:ForInStep (Option (Array Y5)×RH)->Zy->Prop}{t:Array Y5}{i j mg m n:Nat}(sp:SR c p 0 p.size)(sq:SR c q 0 q.size)(m3:Mh c p q t.toList.reverse i j)(hi:0<i)(g3:∀k,k<j->le c (el q k) (el p (i-1)))
  (hd:∀out r,Gd c p q out.toList->Q (.done (some out,r)) st) (hn:∀t' m n,Mh c p q t'.toList.reverse (i-1) j->0<i-1->Q (.done (none,i-1,j,t',mg,m,n)) st/\Q (.yield (none,i-1,j,t',mg,m,n)) st):wpS (model prog w) A E s (Tj p q t i j mg m n) Q st:=by
 have gL:=m3.hi;refine Y9 (aZ (by lia) ?_)
 have m4:Mh c p q (t.push (el p (i-1))).toList.reverse (i-1) j:=by
  rw[jo];exact m3.lj hi sp g3
 by_cases e5:(i-1==0)=true
 ·rw[if_pos e5];exact Zg (hd _ _ (m4.done sp sq (.inl (by simpa using e5))))
 rw[if_neg e5];have h5:i-1≠0:=by simpa using e5
 obtain⟨h6,h7⟩:=hn (t.push (el p (i-1))) m n m4 (by lia)
 split
 ·exact Zg h6
 ·exact Zg h7
theorem AJ {st:Zy}{Q:ForInStep (Option (Array Y5)×RH)->Zy->Prop}{t:Array Y5}{i j mg m n:Nat}(O:cw c)(L:gf prog w A E s κ c S)(hk:kindOf st=κ)(Sp:∀i,i<p.size->S (el p i))(Sq:∀i,i<q.size->S (el q i))(sp:SR c p 0 p.size)(sq:SR c q 0 q.size)(hf:c (el q 0) (el p 0)=true)(m1:Mh c p q t.toList.reverse i j)(hi:0<i)(hj:1<j)(g1:∀x,x<i->le c (el p x) (el q (j-1)))
  (hd:∀out r,Gd c p q out.toList->Q (.done (some out,r)) st) (hn:∀t' j' m n,Mh c p q t'.toList.reverse (i-1) j'->0<i-1->1<j'->j'<j->Q (.done (none,i-1,j',t',mg,m,n)) st/\Q (.yield (none,i-1,j',t',mg,m,n)) st):wpS (model prog w) A E s (Tn p q t i j mg m n) Q st:=by
 have mi:=m1.hi;have mj:=m1.hj;refine Y9 (aZ (by lia) ?_)
 have m2:Mh c p q (t.push (el q (j-1))).toList.reverse i (j-1):=by
  rw[jo];exact m1.lh (by lia) sq g1
 by_cases e3:(j-1==1)=true
 ·rw[if_pos e3];exact Zg (hd _ _ (m2.tail O sp sq (by simpa using e3) hf))
 rw[if_neg e3];have h3:j-1≠1:=by simpa using e3
 refine Y9 (aZ (by lia) (Y9 (dY O L hk (Sp _ (by lia)) (λx hx=>Sq _ (by lia)) (by lia) (λa b h1 h2 h3=>sq a b (by lia) h2 (by lia)) (by lia) λh k1 k2 k3=>?_)))
 have g2:∀x,x<h->c (el q x) (el p (i-1))=true:=λx hx=>by
  have:=k2 x hx;unfold eW at this;rw[if_pos rfl,aaP]at this;exact this
 have g4:∀x,h<=x->x<j-1->le c (el p (i-1)) (el q x):=λx h1 h2=>by
  have:=k3 x h1 h2;unfold eW at this;rw[if_pos rfl,aaP]at this;exact this
 have hh:0<h:=by
  rcases Nat.eq_zero_or_pos h with z|z
  ·subst z;have h2:=O.trans (sp 0 (i-1) (by lia) (by lia) (by lia)) (g4 0 (YY _) (by lia))
   exact absurd (hf.symm.trans h2) (by simp)
  ·exact z
 dsimp only
 by_cases zW:j-1-h>0
 ·rw[if_pos zW];have m3:Mh c p q (t.push (el q (j-1))++(q.extract h (j-1)).reverse).toList.reverse i h:=by
   rw[yN];exact m2.jf sq k1 λx h1 h2 y hy=>O.trans (sp y (i-1) (by lia) (by lia) (by lia)) (g4 x h1 h2)
  by_cases e4:(h==1)=true
  ·rw[if_pos e4];exact Zg (hd _ _ (m3.tail O sp sq (by simpa using e4) hf))
  rw[if_neg e4];have h4:h≠1:=by simpa using e4
  rw[if_neg (by simp;lia)]
  exact AI sp sq m3 hi (λk hk=>O.of_lt (g2 k hk)) hd λt' m n h1 h2=>hn t' _ m n h1 h2 (by lia) (by lia)
 ·rw[if_neg zW];exact AI sp sq m2 hi (λk hk=>O.of_lt (g2 k (by lia))) hd λt' m n h1 h2=>hn t' _ m n h1 h2 (by lia) (by lia)
theorem Iz {st:Zy}{Q:ForInStep (Option (Array Y5)×RH)->Zy->Prop}{t:Array Y5}{i j mg m n:Nat}(O:cw c)(L:gf prog w A E s κ c S)(hk:kindOf st=κ)(Sp:∀i,i<p.size->S (el p i))(Sq:∀i,i<q.size->S (el q i))(sp:SR c p 0 p.size)(sq:SR c q 0 q.size)(hf:c (el q 0) (el p 0)=true)(m0:Mh c p q t.toList.reverse i j)(hi:0<i)(hj:1<j)
  (hd:∀out r,Gd c p q out.toList->Q (.done (some out,r)) (cG st mg)) (hn:∀t' i' j' m n,Mh c p q t'.toList.reverse i' j'->0<i'->1<j'->i'+j'<i+j->Q (.done (none,i',j',t',mg,m,n)) (cG st mg)/\Q (.yield (none,i',j',t',mg,m,n)) (cG st mg)):wpS (model prog w) A E s (N5 p q t i j mg m n) Q st:=by
 have mi:=m0.hi;have mj:=m0.hj;refine Y9 (aa7 (Y9 (aZ (by lia) (Y9 (dY O L hk (Sq _ (by lia)) (λx hx=>Sp _ (by lia)) (by lia) (λa b h1 h2 h3=>sp a b (by lia) h2 (by lia)) (by lia) λh k1 k2 k3=>?_)))))
 have g0:∀x,x<h->le c (el p x) (el q (j-1)):=λx hx=>by
  have:=k2 x hx;unfold eW at this;rw[if_neg (by simp),aaF,aaP]at this
  exact this
 have g5:∀x,h<=x->x<i->le c (el q (j-1)) (el p x):=λx h1 h2=>by
  have:=k3 x h1 h2;unfold eW at this;rw[if_neg (by simp),abu,aaP]at this
  exact O.of_lt this
 dsimp only
 by_cases zW:i-h>0
 ·rw[if_pos zW];have m1:Mh c p q (t++(p.extract h i).reverse).toList.reverse h j:=by
   rw[yN];exact m0.jg sp k1 λx h1 h2 y hy=>O.trans (sq y (j-1) (by lia) (by lia) (by lia)) (g5 x h1 h2)
  by_cases e1:(h==0)=true
  ·rw[if_pos e1];exact Zg (hd _ _ (m1.done sp sq (.inl (by simpa using e1))))
  rw[if_neg e1];have Gu:h≠0:=by simpa using e1
  exact AJ O L hk Sp Sq sp sq hf m1 (by lia) hj g0 hd λt' j' m n h1 h2 h3 h4=>hn t' _ j' m n h1 h2 h3 (by lia)
 ·rw[if_neg zW];exact AJ O L hk Sp Sq sp sq hf m0 hi hj (λx hx=>g0 x (by lia)) hd λt' j' m n h1 h2 h3 h4=>hn t' _ j' m n h1 h2 h3 (by lia)
theorem Iy {st:Zy}{Q:ForInStep (Option (Array Y5)×RJ)->Zy->Prop}{t:Array Y5}{i j mg ma na:Nat}(O:cw c)(L:gf prog w A E s κ c S)(hk:kindOf st=κ)(Sp:∀i,i<p.size->S (el p i))(Sq:∀i,i<q.size->S (el q i))(sp:SR c p 0 p.size)(sq:SR c q 0 q.size)(hf:c (el q 0) (el p 0)=true)(m:Mh c p q t.toList.reverse i j)(hi:0<i)(hj:1<j)
  (hd:∀out r,Gd c p q out.toList->Q (.done (some out,r)) st) (hn:∀t' i' j' m n,Mh c p q t'.toList.reverse i' j'->0<i'->1<j'->i'+j'<i+j->Q (.done (none,i',j',t',m,n)) st/\Q (.yield (none,i',j',t',m,n)) st):wpS (model prog w) A E s (Vo p q t mg i j ma na) Q st:=by
 have gL:=m.hi;have o8:=m.hj;refine Y9 (aZ (by lia) (Y9 (aZ (by lia) (Y9 (L _ _ st _ (Sq _ (by lia)) (Sp _ (by lia)) hk ?_)))))
 dsimp only;cases hc:c (el q (j-1)) (el p (i-1))with
 |true =>
  rw[if_pos rfl];refine Y9 (aZ (by lia) ?_)
  have m1:Mh c p q (t.push (el p (i-1))).toList.reverse (i-1) j:=by
   rw[jo];exact m.lj hi sp λk hk=>O.trans (sq k (j-1) (by lia) (by lia) (by lia)) (O.of_lt hc)
  by_cases e3:(i-1==0)=true
  ·rw[if_pos e3];exact Zg (hd _ _ (m1.done sp sq (.inl (by simpa using e3))))
  rw[if_neg e3];have h3:i-1≠0:=by simpa using e3
  obtain⟨h6,h7⟩:=hn _ _ _ (ma+1) 0 m1 (by lia) hj (by lia)
  split
  ·exact Zg h6
  ·exact Zg h7
 |false =>
  rw[if_neg (by simp)]
  refine Y9 (aZ (by lia) ?_)
  have m1:Mh c p q (t.push (el q (j-1))).toList.reverse i (j-1):=by
   rw[jo];exact m.lh (by lia) sq λk hk=>O.trans (sp k (i-1) (by lia) (by lia) (by lia)) (show le c (el p (i-1)) (el q (j-1)) from hc)
  by_cases e3:(j-1==1)=true
  ·rw[if_pos e3];exact Zg (hd _ _ (m1.tail O sp sq (by simpa using e3) hf))
  rw[if_neg e3];have h3:j-1≠1:=by simpa using e3
  obtain⟨h6,h7⟩:=hn _ _ _ 0 (na+1) m1 hi (by lia) (by lia)
  split
  ·exact Zg h6
  ·exact Zg h7
theorem vB (O:cw c)(L:gf prog w A E s κ c S){Q:Array Y5->Zy->Prop}{st:Zy}(hk:kindOf st=κ)(Sp:∀i,i<p.size->S (el p i))(Sq:∀i,i<q.size->S (el q i))(sp:SR c p 0 p.size)(sq:SR c q 0 q.size)
  (hp:0<p.size) (hq:0<q.size) (hf:c (el q 0) (el p 0)=true) (hl:∀y,y<q.size->c (el q y) (el p (p.size-1))=true) (h:∀to aJ,k7 st aJ->Gd c p q to.toList->Q to aJ) :
  wpS (model prog w) A E s (jA p q) Q st:=by
 rw[t8];refine Y9 (wpS_lift (abJ ⟨rfl,?_⟩));refine Y9 (aZ (by lia) ?_)
 have m0:Mh c p q (#[el p (p.size-1)]:Array Y5).toList.reverse (p.size-1) q.size:=Mh.start sp O hp hl
 by_cases h1:(p.size-1==0)=true
 ·rw[if_pos h1];exact Zg (h _ st (k7.refl st) (m0.done sp sq (.inl (by simpa using h1))))
 rw[if_neg h1];have Gu:p.size-1≠0:=by simpa using h1
 by_cases h2:(q.size==1)=true
 ·rw[if_pos h2];exact Zg (h _ st (k7.refl st) (m0.tail O sp sq (by simpa using h2) hf))
 rw[if_neg h2];have C8:q.size≠1:=by simpa using h2
 refine Y9 (aci ?_);refine Y9 (aaC (Z3
  (I:=λx r aJ=>k7 st aJ/\∃i j to mg,r=(none,i,j,to,mg)/\Mh c p q to.toList.reverse i j/\0<i/\1<j/\i+j+x<p.size+q.size)
  (Q:=λr aJ=>k7 st aJ/\∃out r',r=(some out,r')/\Gd c p q out.toList) ?_ ?_ ?_) ?_)
 ·rintro x r aJ _ hx ⟨e,i,j,to,mg,rfl,m,hi,hj,hb⟩;unfold Vn;dsimp only;refine Y9 (aaC (Z3
   (I:=λy r aJ=>k7 st aJ/\∃i j to m n,r=(none,i,j,to,m,n)/\Mh c p q to.toList.reverse i j/\0<i/\1<j/\i+j+x+min y 1<p.size+q.size)
   (Q:=λr aJ=>k7 st aJ/\((∃out r',r=(some out,r')/\Gd c p q out.toList)\/∃i j to m n,r=(none,i,j,to,m,n)/\Mh c p q to.toList.reverse i j/\0<i/\1<j/\i+j+x+1<p.size+q.size)) ?_ ?_ ?_) ?_)
  ·rintro y r gq _ hy ⟨e2,i,j,to,ma,na,rfl,m,hi,hj,hb⟩;exact Iy O L (e2.kind.trans hk) Sp Sq sp sq hf m hi hj (λout r h=>⟨e2,.inl ⟨_,_,rfl,h⟩⟩) λt' i' j' m n h1 h2 h3 h4=>⟨⟨e2,.inr ⟨_,_,_,_,_,rfl,h1,h2,h3,by lia⟩⟩,⟨e2,_,_,_,_,_,rfl,h1,h2,h3,by lia⟩⟩
  ·rintro r gq ⟨e2,i,j,to,ma,na,rfl,m,hi,hj,hb⟩;exact⟨e2,.inr ⟨_,_,_,_,_,rfl,m,hi,hj,by lia⟩⟩
  ·exact⟨e,_,_,_,_,_,rfl,m,hi,hj,by lia⟩
  rintro r gq ⟨e2,⟨out,r',rfl,g⟩|⟨i,j,to,ma,na,rfl,m,hi,hj,hb⟩⟩
  ·exact Zg ⟨e2,_,_,rfl,g⟩
  dsimp only;refine Y9 (wpS_lift (abJ ⟨rfl,?_⟩));refine Y9 (aaC (Z3
   (I:=λy r aJ=>k7 st aJ/\∃i j to mg m n,r=(none,i,j,to,mg,m,n)/\Mh c p q to.toList.reverse i j/\0<i/\1<j/\i+j+x+1<p.size+q.size)
   (Q:=λr aJ=>k7 st aJ/\((∃out r',r=(some out,r')/\Gd c p q out.toList)\/∃i j to mg m n,r=(none,i,j,to,mg,m,n)/\Mh c p q to.toList.reverse i j/\0<i/\1<j/\i+j+x+1<p.size+q.size)) ?_ ?_ ?_) ?_)
  ·rintro y r gq _ hy ⟨e2,i,j,to,mg,ma,na,rfl,m,hi,hj,hb⟩;show wpS (model prog w) A E s (if mg>1 then N5 p q to i j (mg-1) ma na else N5 p q to i j mg ma na) _ gq
   split <;> exact Iz O L (e2.kind.trans hk) Sp Sq sp sq hf m hi hj (λout r h=>⟨e2.HL _,.inl ⟨_,_,rfl,h⟩⟩) λt' i' j' m n h1 h2 h3 h4=>⟨⟨e2.HL _,.inr ⟨_,_,_,_,_,_,rfl,h1,h2,h3,by lia⟩⟩,⟨e2.HL _,_,_,_,_,_,_,rfl,h1,h2,h3,by lia⟩⟩
  ·rintro r gq ⟨e2,i,j,to,mg,ma,na,rfl,m,hi,hj,hb⟩;exact⟨e2,.inr ⟨_,_,_,_,_,_,rfl,m,hi,hj,hb⟩⟩
  ·exact⟨e2,_,_,_,_,_,_,rfl,m,hi,hj,hb⟩
  rintro r gq ⟨e2,⟨out,r',rfl,g⟩|⟨i,j,to,mg,ma,na,rfl,m,hi,hj,hb⟩⟩
  ·exact Zg ⟨e2,_,_,rfl,g⟩
  dsimp only;refine Y9 (aa7 (Zg ⟨e2.HL _,_,_,_,_,rfl,m,hi,hj,by lia⟩))
 ·rintro r aJ ⟨e,i,j,to,mg,rfl,m,hi,hj,hb⟩
  exfalso
  rw[show max 0 (p.size+q.size)=p.size+q.size by lia]at hb
  lia
 ·exact⟨k7.refl st,_,_,_,_,rfl,m0,by lia,by lia,by lia⟩
 ·rintro r aJ ⟨e,out,r',rfl,g⟩;exact Zg (h _ aJ e g)
end
section
variable {c:Y5->Y5->Bool}{a b:Array Y5}
structure Rg (a b:Array Y5)(lo hi:Nat):Prop where
 perm:b.Perm a
 out:∀k,(k<lo\/hi<=k)->el b k=el a k
theorem Rg.refl {lo hi:Nat}:Rg a a lo hi:=⟨Array.Perm.refl _,λ_ _=>rfl⟩
theorem Rg.trans {d:Array Y5}{lo hi:Nat}(x:Rg a b lo hi)(y:Rg b d lo hi):Rg a d lo hi:=⟨y.perm.trans x.perm,λk h=>(y.out k h).trans (x.out k h)⟩
theorem Rg.mono {lo hi HB gL:Nat}(x:Rg a b lo hi)(h1:HB<=lo)(h2:hi<=gL):Rg a b HB gL:=⟨x.perm,λk h=>x.out k (by lia)⟩
theorem Rg.size {lo hi:Nat}(x:Rg a b lo hi):b.size=a.size:=x.perm.size_eq
theorem SR.congr {lo hi:Nat}(h:SR c a lo hi)(e:∀k,lo<=k->k<hi->el b k=el a k):SR c b lo hi:=λi j h1 h2 h3=>by
 rw[e i h1 (by lia),e j (by lia) h3]
 exact h i j h1 h2 h3
def NI (c:Y5->Y5->Bool)(a:Array Y5)(lo hi:Nat):Prop:=∀i j,lo<=i->i<=j->j<hi->le c (el a j) (el a i)
theorem ck {i j:Nat}(hj:j<=a.size)(k:Nat):el (mirror a i j ((j-i) / 2)) k=if i<=k/\k<j then el a (i+j-1-k) else el a k:=by
 have e:=getElem?_mirror_all (i:=i) hj k
 by_cases h:i<=k/\k<j
 ·rw[if_pos h]at e ⊢
  exact eR e
 ·rw[if_neg h]at e ⊢
  exact eR e
theorem fD {i j:Nat}(hj:j<=a.size):Rg a (mirror a i j ((j-i) / 2)) i j:=⟨mirror_perm _ _ _ _,λk h=>by rw[ck hj,if_neg (by lia)]⟩
theorem pU {i j:Nat}(hj:j<=a.size)(h:NI c a i j):SR c (mirror a i j ((j-i) / 2)) i j:=λx y h1 h2 h3=>by
 rw[ck hj,ck hj,if_pos (by lia),if_pos (by lia)]
 exact h _ _ (by lia) (by lia) (by lia)
theorem ku {lo i j:Nat}(S_:lo<=i)(hj:j<=a.size)(h:NI c a lo j)(he:∀x y,i<=x->x<j->i<=y->y<j->le c (el a x) (el a y)):NI c (mirror a i j ((j-i) / 2)) lo j:=λx y h1 h2 h3=>by
 rw[ck hj,ck hj]
 by_cases hx:i<=x/\x<j
 ·rw[if_pos hx,if_pos (by lia)]
  exact he _ _ (by lia) (by lia) (by lia) (by lia)
 ·rw[if_neg hx]
  by_cases hy:i<=y/\y<j
  ·rw[if_pos hy];exact h _ _ (by lia) (by lia) (by lia)
  ·rw[if_neg hy];exact h _ _ h1 h2 h3
theorem SR.snoc {lo n:Nat}(O:cw c)(h:SR c a lo (lo+n))(h1:0<n)(hn:le c (el a (lo+n-1)) (el a (lo+n))):SR c a lo (lo+(n+1)):=λi j h2 h3 h4=>by
 by_cases hj:j<lo+n
 ·exact h i j h2 h3 hj
 ·obtain rfl:j=lo+n:=by lia
  by_cases hi:i<lo+n
  ·exact O.trans (h i (lo+n-1) h2 (by lia) (by lia)) hn
  ·obtain rfl:i=lo+n:=by lia
   exact O.refl _
theorem NI.snoc {lo n:Nat}(O:cw c)(h:NI c a lo (lo+n))(h1:0<n)(hn:le c (el a (lo+n)) (el a (lo+n-1))):NI c a lo (lo+(n+1)):=λi j h2 h3 h4=>by
 by_cases hj:j<lo+n
 ·exact h i j h2 h3 hj
 ·obtain rfl:j=lo+n:=by lia
  by_cases hi:i<lo+n
  ·exact O.trans hn (h i (lo+n-1) h2 (by lia) (by lia))
  ·obtain rfl:i=lo+n:=by lia
   exact O.refl _
theorem SR.one {lo:Nat}(O:cw c):SR c a lo (lo+1):=λi j h1 h2 h3=>by
 obtain rfl:i=j:=by lia
 exact O.refl _
end
structure k6 (κ:abl)(a₀:Array Y5)(st:Zy):Prop where
 kind:kindOf st=κ
 fail:abB st=none
 perm:(ZG st).Perm a₀
section
variable {prog:Y0}{w:Zd}{A:ZQ}{E:YU->YW->Prop}{s:YW}{κ:abl}{c:Y5->Y5->Bool}{a₀:Array Y5}
theorem k6.size {st:Zy}(h:k6 κ a₀ st):(ZG st).size=a₀.size:=h.perm.size_eq
theorem k6.mem {st:Zy}(h:k6 κ a₀ st){i:Nat}(hi:i<a₀.size):el (ZG st) i∈a₀.toList:=by
 have h1:i<(ZG st).size:=by rw[h.size];exact hi
 refine(abc.mp h.perm).mem_iff.mp ?_;have:=jL h1;rw[<- Zk]at this;exact Zz this
theorem k6.set {st:Zy}{b:Array Y5}{lo hi:Nat}(h:k6 κ a₀ st)(r:Rg (ZG st) b lo hi):k6 κ a₀ (aab st b):=⟨h.kind,h.fail,r.perm.trans h.perm⟩
theorem qK (L:gf prog w A E s κ c (·∈a₀.toList)){st:Zy}{i j:Nat}{Q:Option Bool->Zy->Prop}(h:k6 κ a₀ st)(hi:i<a₀.size)(hj:j<a₀.size)(q:Q (some (c (el (ZG st) i) (el (ZG st) j))) st):
  wpS (model prog w) A E s (ltAt' i j) Q st:=by
 rw[ltAt'_eq];refine Y9 (aci ?_);exact Y9 (aZ (by rw[h.size];exact hi) (Y9 (aZ (by rw[h.size];exact hj) (L _ _ st Q (h.mem hi) (h.mem hj) h.kind q))))
theorem i8 (L:gf prog w A E s κ c (·∈a₀.toList)){st:Zy}{b:Array Y5}{i j lo hi:Nat}{Q:Option Bool->Zy->Prop}(h:k6 κ a₀ st)(R:Rg (ZG st) b lo hi)(hi:i<a₀.size)(hj:j<a₀.size)(q:Q (some (c (el b i) (el b j))) (aab st b)):
  wpS (model prog w) A E s (ltAt' i j) Q (aab st b):=qK L (h.set R) hi hj q
theorem i7 {st:Zy}{i j:Nat}{Q:Unit->Zy->Prop}(q:Q () (aab st (mirror (ZG st) i j ((j-i) / 2)))):wpS (model prog w) A E s (reverseSlice' i j) Q st:=by
 rw[reverseSlice'_eq];exact aa7 q
theorem AK (O:cw c)(L:gf prog w A E s κ c (·∈a₀.toList)){st:Zy}{lo fC:Nat}{Q:Option Nat->Zy->Prop}(h0:k6 κ a₀ st)(h1:1<=fC)(hn:lo+fC<=a₀.size)
  (h:∀n b,1<=n->n<=fC->Rg (ZG st) b lo (lo+fC)->SR c b lo (lo+n)->Q (some n) (aab st b)):wpS (model prog w) A E s (countRun' lo fC) Q st:=by
 rw[countRun'_eq];dsimp only;refine Y9 (aaC (Z3 (I:=λx r aJ=>aJ=st/\∃n,r=(none,n)/\n=x/\SR c (ZG st) lo (lo+n))
  (Q:=λr aJ=>aJ=st/\∃n,r=(none,n)/\1<=n/\n<=fC/\SR c (ZG st) lo (lo+n)/\(n=fC\/(n<fC/\c (el (ZG st) (lo+n)) (el (ZG st) (lo+n-1))=true))) ?_ ?_ ?_) ?_)
 ·rintro x r aJ Ew hx ⟨rfl,n,rfl,rfl,hs⟩;dsimp only;refine Y9 (qK L h0 (by lia) (by lia) ?_)
  dsimp only;cases hc:c (el (ZG aJ) (lo+n)) (el (ZG aJ) (lo+n-1))with
  |true =>
   rw[if_pos rfl];exact Zg ⟨rfl,n,rfl,Ew,by lia,hs,.inr ⟨by lia,hc⟩⟩
  |false =>
   rw[if_neg (by simp)]
   exact Zg ⟨rfl,n+1,rfl,rfl,hs.snoc O Ew hc⟩
 ·rintro r aJ ⟨rfl,n,rfl,hx,hs⟩;exact⟨rfl,n,rfl,by lia,by lia,hs,.inl (by lia)⟩
 ·exact⟨rfl,1,rfl,rfl,SR.one O⟩
 rintro r aJ ⟨e0,n,rfl,Vh,NW,hs,hc⟩;rw[e0];dsimp only
 by_cases S8:(n==fC)=true
 ·rw[if_pos S8];exact Zg (h n (ZG st) Vh NW Rg.refl hs)
 rw[if_neg S8];have Xh:n≠fC:=by simpa using S8
 have hc:c (el (ZG st) (lo+n)) (el (ZG st) (lo+n-1))=true:=by
  rcases hc with q|q
  ·lia
  ·exact q.2
 refine(λ(key:∀b,Rg (ZG st) b lo (lo+fC)->NI c b lo (lo+(n+1))->wpS (model prog w) A E s ?cont Q (aab st b))=>?main) ?key
 case main =>
  by_cases h2:n>1
  ·rw[if_pos h2];refine Y9 (qK L h0 (by lia) (by lia) ?_)
   dsimp only;cases hr:c (el (ZG st) lo) (el (ZG st) (lo+n-1))with
   |true =>
    rw[if_pos rfl];exact Zg (h n (ZG st) Vh NW Rg.refl hs)
   |false =>
    rw[if_neg (by simp)]
    refine Y9 (i7 ?_);have hz:lo+n<=(ZG st).size:=by have:=h0.size;lia
    have R0:Rg (ZG st) (mirror (ZG st) lo (lo+n) ((lo+n-lo) / 2)) lo (lo+fC):=(fD hz).mono (YY _) (by lia)
    have all:∀u v,lo<=u->u<lo+n->lo<=v->v<lo+n->le c (el (ZG st) u) (el (ZG st) v):=λu v h1 h2 h3 h4 =>
     O.trans (hs u (lo+n-1) h1 (by lia) (by lia)) (O.trans hr (hs lo v (YY _) h3 h4))
    have N0:NI c (mirror (ZG st) lo (lo+n) ((lo+n-lo) / 2)) lo (lo+(n+1)):=by
     refine NI.snoc O (ku (YY _) hz (λu v h1 h2 h3=>all v u (by lia) (by lia) h1 (by lia)) λu v h1 h2 h3 h4=>all u v h1 h2 h3 h4) (by lia) ?_
     rw[ck hz,ck hz,if_neg (by lia),if_pos (by lia)]
     exact O.trans (O.of_lt hc) (all _ _ (by lia) (by lia) (by lia) (by lia))
    exact key _ R0 N0
  ·rw[if_neg h2];have N0:NI c (ZG st) lo (lo+(n+1)):=NI.snoc O (λu v h1 h2 h3=>by
    obtain rfl:u=v:=by lia
    exact O.refl _) (by lia) (O.of_lt hc)
   show wpS _ _ _ _ _ Q (aab st (ZG st));exact key _ Rg.refl N0
 case key =>
  intro b0 R0 N0;refine Y9 (wpS_lift (abJ ⟨rfl,?_⟩));refine Y9 (aaC (Z3 (I:=λx r aJ=>∃b n lz,aJ=aab st b/\r=(none,n,lz)/\n=x/\Rg (ZG st) b lo (lo+fC)/\NI c b lo (lo+n)/\lz<n/\(∀u v,lo+n-1-lz<=u->u<lo+n->lo+n-1-lz<=v->v<lo+n->le c (el b u) (el b v)))
   (Q:=λr aJ=>∃b n lz,aJ=aab st b/\r=(none,n,lz)/\1<=n/\n<=fC/\Rg (ZG st) b lo (lo+fC)/\NI c b lo (lo+n)/\lz<n/\(∀u v,lo+n-1-lz<=u->u<lo+n->lo+n-1-lz<=v->v<lo+n->le c (el b u) (el b v))) ?_ ?_ ?_) ?_)
  ·rintro x r aJ Ew hx ⟨b,n',lz,rfl,rfl,rfl,R,N,hq,he⟩;dsimp only;refine Y9 (i8 L h0 R (by lia) (by lia) ?_)
   dsimp only;cases uo:c (el b (lo+n')) (el b (lo+n' - 1))with
   |true =>
    rw[if_pos rfl]
    by_cases C4:lz>0
    ·rw[if_pos C4];refine Y9 (i7 (Zg ?_));have hz:lo+n'<=b.size:=by have:=R.size;have:=h0.size;lia
     refine⟨mirror b (lo+n' - (lz+1)) (lo+n') ((lo+n' - (lo+n' - (lz+1))) / 2),n'+1,0,rfl,rfl,rfl,R.trans ((fD hz).mono (by lia) (by lia)),?_,by lia,?_⟩
     ·refine NI.snoc O (ku (by lia) hz N λu v h1 h2 h3 h4=>he u v (by lia) h2 (by lia) h4) (by lia) ?_
      rw[ck hz,ck hz,if_neg (by lia),if_pos (by lia)]
      exact O.trans (O.of_lt uo) (he _ _ (by lia) (by lia) (by lia) (by lia))
     ·intro u v h1 h2 h3 h4;obtain rfl:u=v:=by lia
      exact O.refl _
    ·rw[if_neg C4];refine Zg ⟨b,n'+1,0,rfl,rfl,rfl,R,N.snoc O (by lia) (O.of_lt uo),by lia,?_⟩
     intro u v h1 h2 h3 h4;obtain rfl:u=v:=by lia
     exact O.refl _
   |false =>
    rw[if_neg (by simp)]
    refine Y9 (i8 L h0 R (by lia) (by lia) ?_)
    dsimp only;cases sf:c (el b (lo+n' - 1)) (el b (lo+n'))with
    |true =>
     rw[if_pos rfl];exact Zg ⟨b,n',lz,rfl,rfl,by lia,by lia,R,N,hq,he⟩
    |false =>
     rw[if_neg (by simp)]
     refine Zg ⟨b,n'+1,lz+1,rfl,rfl,rfl,R,N.snoc O (by lia) sf,by lia,?_⟩
     have hl:∀u,lo+n' - 1-lz<=u->u<lo+(n'+1)->le c (el b u) (el b (lo+n'))/\le c (el b (lo+n')) (el b u):=λu h1 h2=>by
      by_cases hu:u<lo+n'
      ·exact⟨O.trans (he u (lo+n' - 1) h1 hu (by lia) (by lia)) uo,O.trans sf (he (lo+n' - 1) u (by lia) (by lia) h1 hu)⟩
      ·obtain rfl:u=lo+n':=by lia
       exact⟨O.refl _,O.refl _⟩
     intro u v h1 h2 h3 h4;exact O.trans (hl u (by lia) h2).1 (hl v (by lia) h4).2
  ·rintro r aJ ⟨b,n',lz,rfl,rfl,hx,R,N,hq,he⟩;exact⟨b,n',lz,rfl,rfl,by lia,by lia,R,N,hq,he⟩
  ·refine⟨_,n+1,0,rfl,rfl,rfl,R0,N0,by lia,?_⟩
   intro u v h1 h2 h3 h4;obtain rfl:u=v:=by lia
   exact O.refl _
  rintro r aJ ⟨b,n',lz,rfl,rfl,Xl,Xj,RB,NB,hq,he⟩;dsimp only
  by_cases C4:lz>0
  ·rw[if_pos C4];refine Y9 (i7 ?_);have hz:lo+n'<=b.size:=by have:=RB.size;have:=h0.size;lia
   have NB:=ku (c:=c) (i:=lo+n' - (lz+1)) (by lia) hz NB λu v h1 h2 h3 h4=>he u v (by lia) h2 (by lia) h4
   have RB:=RB.trans ((fD (i:=lo+n' - (lz+1)) hz).mono (by lia) (by lia:lo+n'<=lo+fC))
   show wpS _ _ _ _ _ Q (aab st (mirror b (lo+n' - (lz+1)) (lo+n') ((lo+n' - (lo+n' - (lz+1))) / 2)));generalize mirror b (lo+n' - (lz+1)) (lo+n') ((lo+n' - (lo+n' - (lz+1))) / 2)=b1 at NB RB;refine Y9 (i7 ?_);have R2:Rg (ZG st) (mirror b1 lo (lo+n') ((lo+n' - lo) / 2)) lo (lo+fC):=RB.trans ((fD (by have:=RB.size;have:=h0.size;lia)).mono (YY _) (by lia))
   have S2:SR c (mirror b1 lo (lo+n') ((lo+n' - lo) / 2)) lo (lo+n'):=pU (by have:=RB.size;have:=h0.size;lia) NB
   show wpS _ _ _ _ _ Q (aab st (mirror b1 lo (lo+n') ((lo+n' - lo) / 2)));generalize mirror b1 lo (lo+n') ((lo+n' - lo) / 2)=b2 at R2 S2;refine Y9 (aaC (Z3 (I:=λx r aJ=>aJ=aab st b2/\∃m,r=(none,m)/\m=x/\SR c b2 lo (lo+m))
    (Q:=λr aJ=>aJ=aab st b2/\∃m,r=(none,m)/\1<=m/\m<=fC/\SR c b2 lo (lo+m)) ?_ ?_ ?_) ?_)
   ·rintro x r aJ Ew hx ⟨rfl,m,rfl,rfl,hs⟩;dsimp only;refine Y9 (i8 L h0 R2 (by lia) (by lia) ?_)
    dsimp only;cases hc:c (el b2 (lo+m)) (el b2 (lo+m-1))with
    |true =>
     rw[if_pos rfl];exact Zg ⟨rfl,m,rfl,by lia,by lia,hs⟩
    |false =>
     rw[if_neg (by simp)]
     exact Zg ⟨rfl,m+1,rfl,rfl,hs.snoc O (by lia) hc⟩
   ·rintro r aJ ⟨rfl,m,rfl,hx,hs⟩;exact⟨rfl,m,rfl,by lia,by lia,hs⟩
   ·exact⟨rfl,n',rfl,rfl,S2⟩
   rintro r aJ ⟨rfl,m,rfl,Pm,KW,hs⟩;exact Zg (h m b2 Pm KW R2 hs)
  ·rw[if_neg C4];refine Y9 (i7 ?_);have R2:Rg (ZG st) (mirror b lo (lo+n') ((lo+n' - lo) / 2)) lo (lo+fC):=RB.trans ((fD (by have:=RB.size;have:=h0.size;lia)).mono (YY _) (by lia))
   have S2:SR c (mirror b lo (lo+n') ((lo+n' - lo) / 2)) lo (lo+n'):=pU (by have:=RB.size;have:=h0.size;lia) NB
   show wpS _ _ _ _ _ Q (aab st (mirror b lo (lo+n') ((lo+n' - lo) / 2)));generalize mirror b lo (lo+n') ((lo+n' - lo) / 2)=b2 at R2 S2;refine Y9 (aaC (Z3 (I:=λx r aJ=>aJ=aab st b2/\∃m,r=(none,m)/\m=x/\SR c b2 lo (lo+m))
    (Q:=λr aJ=>aJ=aab st b2/\∃m,r=(none,m)/\1<=m/\m<=fC/\SR c b2 lo (lo+m)) ?_ ?_ ?_) ?_)
   ·rintro x r aJ Ew hx ⟨rfl,m,rfl,rfl,hs⟩;dsimp only;refine Y9 (i8 L h0 R2 (by lia) (by lia) ?_)
    dsimp only;cases hc:c (el b2 (lo+m)) (el b2 (lo+m-1))with
    |true =>
     rw[if_pos rfl];exact Zg ⟨rfl,m,rfl,by lia,by lia,hs⟩
    |false =>
     rw[if_neg (by simp)]
     exact Zg ⟨rfl,m+1,rfl,rfl,hs.snoc O (by lia) hc⟩
   ·rintro r aJ ⟨rfl,m,rfl,hx,hs⟩;exact⟨rfl,m,rfl,by lia,by lia,hs⟩
   ·exact⟨rfl,n',rfl,rfl,S2⟩
   rintro r aJ ⟨rfl,m,rfl,Pm,KW,hs⟩;exact Zg (h m b2 Pm KW R2 hs)
end
section
variable {c:Y5->Y5->Bool}{a:Array Y5}
theorem kT {src d:Nat}(hs:src<a.size)(hd:d<=src)(k:Nat):el (bubble a src d) k=if k=src-d then el a src else if src-d<k/\k<=src then el a (k-1) else el a k:=by
 have e:=getElem?_bubble hs d hd k
 by_cases h1:k=src-d
 ·rw[if_pos h1]at e ⊢
  exact eR e
 ·rw[if_neg h1]at e ⊢
  by_cases h2:src-d<k/\k<=src
  ·rw[if_pos h2]at e ⊢
   exact eR e
  ·rw[if_neg h2]at e ⊢
   exact eR e
theorem Ao {lo k l:Nat}(O:cw c)(hk:lo+k<a.size)(hl:l<=k)(h:SR c a lo (lo+k))(h1:∀i,i<l->le c (el a (lo+i)) (el a (lo+k)))(h2:∀i,l<=i->i<k->le c (el a (lo+k)) (el a (lo+i))):
  SR c (bubble a (lo+k) (lo+k-(lo+l))) lo (lo+(k+1)):=λi j g1 g2 g3=>by
 rw[kT hk (by lia),kT hk (by lia),show lo+k-(lo+k-(lo+l))=lo+l by lia]
 have q1:∀i,lo<=i->i<lo+l->le c (el a i) (el a (lo+k)):=λi x y=>by
  have:=h1 (i-lo) (by lia)
  rwa [show lo+(i-lo)=i by lia]at this
 have q2:∀i,lo+l<=i->i<lo+k->le c (el a (lo+k)) (el a i):=λi x y=>by
  have:=h2 (i-lo) (by lia) (by lia)
  rwa [show lo+(i-lo)=i by lia]at this
 by_cases ei:i=lo+l
 ·rw[if_pos ei]
  by_cases ej:j=lo+l
  ·rw[if_pos ej];exact O.refl _
  ·rw[if_neg ej,if_pos (by lia)]
   exact q2 _ (by lia) (by lia)
 ·rw[if_neg ei]
  by_cases ej:j=lo+l
  ·rw[if_pos ej,if_neg (by lia)]
   exact q1 _ (by lia) (by lia)
  ·rw[if_neg ej]
   by_cases fi:lo+l<i/\i<=lo+k
   ·rw[if_pos fi,if_pos (by lia)]
    exact h _ _ (by lia) (by lia) (by lia)
   ·rw[if_neg fi]
    by_cases fj:lo+l<j/\j<=lo+k
    ·rw[if_pos fj];exact h _ _ (by lia) (by lia) (by lia)
    ·rw[if_neg fj];exact h _ _ (by lia) (by lia) (by lia)
theorem Ap {src d:Nat}(hs:src<a.size)(hd:d<=src):Rg a (bubble a src d) (src-d) (src+1):=⟨bubble_perm _ _ _,λk h=>by
 rw[kT hs hd,if_neg (by lia),if_neg (by lia)]⟩
end
section
variable {prog:Y0}{w:Zd}{A:ZQ}{E:YU->YW->Prop}{s:YW}{κ:abl}{c:Y5->Y5->Bool}{a₀:Array Y5}
theorem IB (O:cw c)(L:gf prog w A E s κ c (·∈a₀.toList)){st:Zy}{lo n ok:Nat}{Q:Bool->Zy->Prop}(h0:k6 κ a₀ st)(bu:ok<=n)(h1:1<=n)(hn:lo+n<=a₀.size)(hs:SR c (ZG st) lo (lo+ok))
  (h:∀b,Rg (ZG st) b lo (lo+n)->SR c b lo (lo+n)->Q true (aab st b)):wpS (model prog w) A E s (binarySort' lo n ok) Q st:=by
 rw[binarySort'_eq];refine Y9 (aaC (Z3 (I:=λk r aJ=>r=(none,())/\k<=n/\∃b,aJ=aab st b/\Rg (ZG st) b lo (lo+n)/\SR c b lo (lo+k))
  (Q:=λr aJ=>r=(none,())/\∃b,aJ=aab st b/\Rg (ZG st) b lo (lo+n)/\SR c b lo (lo+n)) ?_ ?_ ?_) ?_)
 ·rintro k r aJ N1 hk ⟨rfl,_,b,rfl,R,zU⟩;dsimp only;have hz:b.size=a₀.size:=R.size.trans h0.size;refine Y9 (aaC (Z3 (I:=λx r aJ=>aJ=aab st b/\∃l u,r=(none,l,u)/\l<=u/\u<=k/\u-l<=k-x/\(∀i,i<l->le c (el b (lo+i)) (el b (lo+k)))/\(∀i,u<=i->i<k->le c (el b (lo+k)) (el b (lo+i))))
   (Q:=λr aJ=>aJ=aab st b/\∃l,r=(none,l,l)/\l<=k/\(∀i,i<l->le c (el b (lo+i)) (el b (lo+k)))/\(∀i,l<=i->i<k->le c (el b (lo+k)) (el b (lo+i)))) ?_ ?_ ?_) ?_)
  ·rintro x r aJ _ hx ⟨rfl,l,u,rfl,g1,g2,g3,g4,g5⟩;dsimp only
   by_cases Vi:l >= u
   ·rw[if_pos Vi];obtain rfl:l=u:=by lia
    exact Zg ⟨rfl,l,rfl,g2,g4,g5⟩
   ·rw[if_neg Vi];refine Y9 (i8 L h0 R (by lia) (by lia) ?_)
    dsimp only;cases hc:c (el b (lo+k)) (el b (lo+(l+u) / 2))with
    |true =>
     rw[if_pos rfl];exact Zg ⟨rfl,l,_,rfl,by lia,by lia,by lia,g4,λi h1 h2=>O.trans (O.of_lt hc) (zU _ _ (by lia) (by lia) (by lia))⟩
    |false =>
     rw[if_neg (by simp)]
     exact Zg ⟨rfl,_,u,rfl,by lia,by lia,by lia,λi h1=>O.trans (zU _ _ (by lia) (by lia) (by lia)) (show le c (el b (lo+(l+u) / 2)) (el b (lo+k)) from hc),g5⟩
  ·rintro r aJ ⟨rfl,l,u,rfl,g1,g2,g3,g4,g5⟩;obtain rfl:l=u:=by lia
   exact⟨rfl,l,rfl,g2,g4,g5⟩
  ·exact⟨rfl,0,k,rfl,Zm _,YY _,by lia,λi hi=>by lia,λi h1 h2=>by lia⟩
  rintro r aJ ⟨rfl,l,rfl,g2,g4,g5⟩;dsimp only;rw[moveDown'_eq];refine Y9 (aa7 (Zg ⟨rfl,by lia,_,rfl,R.trans ((Ap (a:=b) (by lia) (by lia)).mono (by lia) (by lia)),Ao (a:=b) O (by lia) g2 zU g4 g5⟩))
 ·rintro r aJ ⟨rfl,hx,b,rfl,R,zU⟩;rw[show max (max ok 1) n=n by lia]at zU
  exact⟨rfl,b,rfl,R,zU⟩
 ·refine⟨rfl,by lia,ZG st,rfl,Rg.refl,?_⟩
  by_cases h2:ok=0
  ·subst h2;exact SR.one O
  ·rw[show max ok 1=ok by lia]
   exact hs
 ·rintro r aJ ⟨rfl,b,rfl,R,zU⟩;exact Zg (h b R zU)
theorem ux (base:Nat):∀(l:List Y5) (off:Nat) (a:Array Y5),base+off+l.length<=a.size->∀k:Nat,
  ((l.zipIdx off).foldl (λx (z:Y5×Nat)=>x.setIfInBounds (base+z.2) z.1) a)[k]?=if base+off<=k/\k<base+off+l.length then l[k-(base+off)]? else a[k]?
 |[],off,a,_,k=>by
  rw[if_neg (by rw[List.length_nil];lia)]
  rfl
 |x::l,off,a,h,k=>by
  rw[Zc]at h;rw[List.zipIdx_cons,aaH,ux base l (off+1) _ (by rw[acw];lia)]
  by_cases h1:base+(off+1)<=k/\k<base+(off+1)+l.length
  ·rw[if_pos h1,if_pos (by rw[Zc];lia),show k-(base+off)=k-(base+(off+1))+1 by lia,acC]
  ·rw[if_neg h1,Array.getElem?_setIfInBounds]
   by_cases h2:base+off=k
   ·subst h2;rw[if_pos rfl,if_pos (by lia),if_pos (by rw[Zc];lia),Nat.sub_self]
    rfl
   ·rw[if_neg h2,if_neg (by rw[Zc];lia)]
def EH (a:Array Y5)(base:Nat)(l:List Y5):Array Y5:=l.zipIdx.foldl (λx (z:Y5×Nat)=>x.setIfInBounds (base+z.2) z.1) a
theorem qJ {a:Array Y5}{base:Nat}{l:List Y5}(h:base+l.length<=a.size)(k:Nat):(EH a base l)[k]?=if base<=k/\k<base+l.length then l[k-base]? else a[k]?:=ux base l 0 a h k
theorem AE {a:Array Y5}{base:Nat}{l:List Y5}(h:base+l.length<=a.size):(EH a base l).toList=a.toList.take base++(l++a.toList.drop (base+l.length)):=by
 apply aaS;intro k;rw[Zk,qJ h];have hz:a.toList.length=a.size:=Y6
 by_cases h1:base<=k/\k<base+l.length
 ·rw[if_pos h1,Z0 (by rw[ZH];lia),ZH,aah (by lia)]
  congr 1
  lia
 ·rw[if_neg h1]
  by_cases h2:k<base
  ·rw[aah (by rw[ZH];lia),abn h2,Zk]
  ·rw[Z0 (by rw[ZH];lia),ZH,Z0 (by lia),aca,Zk]
   congr 1
   lia
theorem IQ (a:Array Y5)(base m:Nat):a.toList=a.toList.take base++((a.toList.drop base).take m++a.toList.drop (base+m)):=by
 have h1:=(aaA base a.toList).symm;have h2:=(aaA m (a.toList.drop base)).symm;rw[List.drop_drop]at h2;rw[<- h2];exact h1
theorem Iu {a:Array Y5}{base:Nat}{l:List Y5}(h:base+l.length<=a.size)(hp:l.Perm ((a.toList.drop base).take l.length)):Rg a (EH a base l) base (base+l.length) where
 perm:=by
  rw[abc,AE h];refine List.Perm.trans ?_ (List.Perm.of_eq (IQ a base l.length).symm);exact List.Perm.append_left _ (hp.append_right _)
 out:=λk hk=>eR (by rw[qJ h,if_neg (by lia)])
end
section
variable {prog:Y0}{w:Zd}{A:ZQ}{E:YU->YW->Prop}{s:YW}{κ:abl}{c:Y5->Y5->Bool}{a₀:Array Y5}
theorem EL {σ:Type}{M:Model}{Q:PUnit->σ->Prop}{st aJ:σ}(h:Q ⟨⟩ aJ):wpS M A E s (set aJ:StateT σ Sem PUnit) Q st:=by
 unfold wpS;rw[StateT.run_set];exact YZ ⟨rfl,h⟩
theorem wJ {a:Array Y5}{lo hi i:Nat}(h:i<hi-lo)(hh:hi<=a.size):el (a.extract lo hi) i=el a (lo+i) :=
 eR (by rw[Array.getElem?_extract,if_pos (by lia)])
theorem n9 {a:Array Y5}{lo hi:Nat}(hh:hi<=a.size):(a.extract lo hi).size=hi-lo:=by
 rw[Array.size_extract];lia
theorem x_ {a:Array Y5}{lo hi:Nat}(hh:hi<=a.size){z:Y5}(h:z∈(a.extract lo hi).toList):∃u,lo<=u/\u<hi/\z=el a u:=by
 obtain⟨i,gL⟩:=abb h;rw[Zk]at gL;have ic:i<(a.extract lo hi).size:=by
  rcases aaq i (a.extract lo hi).size with q|q
  ·exact q
  ·rw[aaL q]at gL;cases gL
 rw[n9 hh]at ic;exact⟨lo+i,by lia,by lia,by rw[<- wJ ic hh,yw gL]⟩
theorem vC (O:cw c)(L:gf prog w A E s κ c (·∈a₀.toList)){st:Zy}{i sa na pw sb nb QF:Nat}{Q:Bool->Zy->Prop}(h0:k6 κ a₀ st)(p1:(Zs st)[i]?=some (sa,na,pw))(p2:(Zs st)[i+1]?=some (sb,nb,QF))
  (zU:sb=sa+na) (YG:1<=na) (YF:1<=nb) (hz:sb+nb<=a₀.size) (s1:SR c (ZG st) sa sb) (s2:SR c (ZG st) sb (sb+nb))
  (h:∀aJ,kindOf aJ=κ->abB aJ=none->Zs aJ=((Zs st).setIfInBounds i (sa,na+nb,pw)).eraseIdxIfInBounds (i+1)->Rg (ZG st) (ZG aJ) sa (sb+nb)->SR c (ZG aJ) sa (sb+nb)->Q true aJ) :
  wpS (model prog w) A E s (mergeAt' i) Q st:=by
 rw[t9];refine Y9 (aci ?_);rw[p1,p2];dsimp only;refine Y9 (EL ?_);have NM:=h0.size;have hm:∀{j},j<a₀.size->el (ZG st) j∈a₀.toList:=λhj=>h0.mem hj;generalize ha:ZG st=a at *
 have y_:kindOf (abL st (((Zs st).setIfInBounds i (sa,na+nb,pw)).eraseIdxIfInBounds (i+1)))=κ:=h0.kind;have IM:abB (abL st (((Zs st).setIfInBounds i (sa,na+nb,pw)).eraseIdxIfInBounds (i+1)))=none:=h0.fail;have IP:ZG (abL st (((Zs st).setIfInBounds i (sa,na+nb,pw)).eraseIdxIfInBounds (i+1)))=a:=ha;have MA:Zs (abL st (((Zs st).setIfInBounds i (sa,na+nb,pw)).eraseIdxIfInBounds (i+1)))=((Zs st).setIfInBounds i (sa,na+nb,pw)).eraseIdxIfInBounds (i+1):=rfl;generalize hP:((Zs st).setIfInBounds i (sa,na+nb,pw)).eraseIdxIfInBounds (i+1)=P at *
 generalize abL st P=MB at *
 refine Y9 (aZ (by lia) ?_)
 refine Y9 (dY O L y_ (hm (by lia)) (λx hx=>hm (by lia)) (by lia) (λx y h1 h2 h3=>s1 x y h1 h2 (by lia)) (by lia) λk k1 k2 k3=>?_)
 dsimp only;have g0:∀x,sa<=x->x<sa+k->le c (el a x) (el a sb):=λx h1 h2=>by
  have:=k2 (x-sa) (by lia)
  unfold eW at this;rw[if_neg (by simp),aaF,show sa+(x-sa)=x by lia]at this
  exact this
 by_cases e1:(na-k==0)=true
 ·rw[if_pos e1];have e1:na-k=0:=by simpa using e1
  refine Zg (h MB y_ IM MA (by rw[IP];exact Rg.refl) ?_)
  rw[IP];intro x y h1 h2 h3
  by_cases hx:x<sb
  ·by_cases hy:y<sb
   ·exact s1 x y h1 h2 hy
   ·exact O.trans (g0 x h1 (by lia)) (s2 sb y (YY _) (by lia) h3)
  ·exact s2 x y (by lia) h2 h3
 rw[if_neg e1];have e1:na-k≠0:=by simpa using e1
 have g1:c (el a sb) (el a (sa+k))=true:=by
  have:=k3 k (YY _) (by lia)
  unfold eW at this;rw[if_neg (by simp),abu]at this
  exact this
 refine Y9 (aZ (by lia) ?_)
 refine Y9 (dY O L y_ (hm (by lia)) (λx hx=>hm (by lia)) (by lia) (λx y h1 h2 h3=>s2 x y h1 h2 (by lia)) (by lia) λm m1 m2 m3=>?_)
 dsimp only;rw[show sa+k+(na-k)-1=sb-1 by lia]at m2 m3
 have g2:∀x,sb<=x->x<sb+m->c (el a x) (el a (sb-1))=true:=λx h1 h2=>by
  have:=m2 (x-sb) (by lia)
  unfold eW at this;rw[if_pos rfl,show sb+(x-sb)=x by lia]at this
  exact this
 have g3:∀x,sb+m<=x->x<sb+nb->le c (el a (sb-1)) (el a x):=λx h1 h2=>by
  have:=m3 (x-sb) (by lia) (by lia)
  unfold eW at this;rw[if_pos rfl,show sb+(x-sb)=x by lia]at this
  exact this
 by_cases e2:(m==0)=true
 ·exfalso
  have e2:m=0:=by simpa using e2
  have:=O.trans (s1 (sa+k) (sb-1) (by lia) (by lia) (by lia)) (g3 sb (by lia) (by lia))
  exact absurd (g1.symm.trans this) (by simp)
 rw[if_neg e2];have e2:m≠0:=by simpa using e2
 have zx:(a.extract (sa+k) sb).size=sb-(sa+k):=n9 (by lia)
 have zy:(a.extract sb (sb+m)).size=m:=by rw[n9 (by lia)];lia
 have ex:∀{t},t<sb-(sa+k)->el (a.extract (sa+k) sb) t=el a (sa+k+t):=λht=>wJ ht (by lia)
 have ey:∀{t},t<m->el (a.extract sb (sb+m)) t=el a (sb+t):=λht=>wJ (by lia) (by lia)
 have fin:∀(out:Array Y5) (gq:Zy),k7 MB gq->Gd c (a.extract (sa+k) sb) (a.extract sb (sb+m)) out.toList ->
   wpS (model prog w) A E s (do
    modify λs2=>aab s2 (out.toList.zipIdx.foldl (λx z=>match z with|(p,j)=>x.setIfInBounds (sa+k+j) p) (ZG s2))
    let y <- get
    pure (abB y).isNone:StateT Zy Sem Bool) Q gq:=by
  rintro out gq e ⟨gp,gs⟩;refine Y9 (aa7 (Y9 (aci (Zg ?_))));show Q (abB gq).isNone (aab gq (EH (ZG gq) (sa+k) out.toList));rw[e.fail,IM,e.arr,IP];have zo:out.toList.length=sb-(sa+k)+m:=by
   rw[gp.length_eq,Zl,Y6,Y6,zx,zy]
  have hb:sa+k+out.toList.length<=a.size:=by lia
  have xy:(a.toList.drop (sa+k)).take out.toList.length=(a.extract (sa+k) sb).toList++(a.extract sb (sb+m)).toList:=by
   rw[cu,cu,zo,show sb+m-sb=m by lia,List.take_add,List.drop_drop,show sa+k+(sb-(sa+k))=sb by lia]
  have R:Rg a (EH a (sa+k) out.toList) (sa+k) (sa+k+out.toList.length):=Iu hb (by rw[xy];exact gp)
  refine h _ (e.kind.trans y_) (e.fail.trans IM) (e.pend.trans MA) (R.mono (by lia) (by lia)) ?_
  show SR c (EH a (sa+k) out.toList) sa (sb+nb);have KS:∀t,sa+k<=t->t<sb+m->∃z,out.toList[t-(sa+k)]?=some z/\el (EH a (sa+k) out.toList) t=z/\((∃u,sa+k<=u/\u<sb/\z=el a u)\/∃u,sb<=u/\u<sb+m/\z=el a u):=by
   intro t h1 h2;have hl:t-(sa+k)<out.toList.length:=by lia
   refine⟨out.toList[t-(sa+k)],Y2 hl,yw (by rw[qJ hb,if_pos (by lia)];exact Y2 hl),?_⟩
   have KU:=gp.mem_iff.mp (abe hl);rcases Zb.mp KU with q|q
   ·exact .inl (x_ (by lia) q)
   ·exact .inr (x_ (by lia) q)
  have VD:∀t,t<sa+k->el (EH a (sa+k) out.toList) t=el a t:=λt ht=>R.out t (.inl ht);have Pr:∀t,sb+m<=t->el (EH a (sa+k) out.toList) t=el a t:=λt ht=>R.out t (.inr (by lia))
  intro x y h1 h2 h3
  by_cases hx:x<sa+k
  ·rw[VD x hx]
   by_cases hy:y<sa+k
   ·rw[VD y hy];exact s1 x y h1 h2 (by lia)
   ·by_cases Rn:y<sb+m
    ·obtain⟨z,_,ez,LX⟩:=KS y (by lia) Rn
     rw[ez];rcases LX with⟨u,u1,u2,rfl⟩|⟨u,u1,u2,rfl⟩
     ·exact s1 x u h1 (by lia) u2
     ·exact O.trans (g0 x h1 hx) (s2 sb u (YY _) u1 (by lia))
    ·rw[Pr y (by lia)]
     exact O.trans (g0 x h1 hx) (s2 sb y (YY _) (by lia) h3)
  ·by_cases Kj:x<sb+m
   ·obtain⟨z,iz,ez,LX⟩:=KS x (by lia) Kj
    rw[ez]
    by_cases Rn:y<sb+m
    ·obtain⟨z',WS,TU,_⟩:=KS y (by lia) Rn
     rw[TU]
     by_cases RC:x=y
     ·subst RC;rw[ez]at TU;rw[TU];exact O.refl _
     ·obtain⟨q1,q2⟩:=Y_.mp iz;obtain⟨q3,q4⟩:=Y_.mp WS;have:=abh.mp gs _ _ q1 q3 (by lia)
      rw[q2,q4]at this;exact this
    ·rw[Pr y (by lia)]
     rcases LX with⟨u,u1,u2,rfl⟩|⟨u,u1,u2,rfl⟩
     ·exact O.trans (s1 u (sb-1) (by lia) (by lia) (by lia)) (g3 y (by lia) h3)
     ·exact s2 u y (by lia) (by lia) h3
   ·rw[Pr x (by lia),Pr y (by lia)]
    exact s2 x y (by lia) h2 h3
 have go:∀(out:Array Y5) (gq:Zy),k7 MB gq->Gd c (a.extract (sa+k) sb) (a.extract sb (sb+m)) out.toList->wpS (model prog w) A E s (do
    modify λs2=>aab s2 (out.toList.zipIdx.foldl (λx z=>match z with|(p,j)=>x.setIfInBounds (sa+k+j) p) (ZG s2))
    let y <- get
    pure (abB y).isNone:StateT Zy Sem Bool) Q gq:=fin
 have U9:0<(a.extract (sa+k) sb).size:=by lia
 have U8:0<(a.extract sb (sb+m)).size:=by lia
 have Sx:∀t,t<(a.extract (sa+k) sb).size->el (a.extract (sa+k) sb) t∈a₀.toList:=λt ht=>by rw[ex (by lia)];exact hm (by lia)
 have Sy:∀t,t<(a.extract sb (sb+m)).size->el (a.extract sb (sb+m)) t∈a₀.toList:=λt ht=>by rw[ey (by lia)];exact hm (by lia)
 have Uz:SR c (a.extract (sa+k) sb) 0 (a.extract (sa+k) sb).size:=λx y h1 h2 h3=>by
  rw[ex (by lia),ex (by lia)]
  exact s1 _ _ (by lia) (by lia) (by lia)
 have Uy:SR c (a.extract sb (sb+m)) 0 (a.extract sb (sb+m)).size:=λx y h1 h2 h3=>by
  rw[ey (by lia),ey (by lia)]
  exact s2 _ _ (by lia) (by lia) (by lia)
 have hf:c (el (a.extract sb (sb+m)) 0) (el (a.extract (sa+k) sb) 0)=true:=by
  rw[ex (by lia),ey (by lia)]
  exact g1
 have hl:∀y,y<(a.extract sb (sb+m)).size->c (el (a.extract sb (sb+m)) y) (el (a.extract (sa+k) sb) ((a.extract (sa+k) sb).size-1))=true:=λy hy=>by
  rw[ey (by lia),ex (by lia),show sa+k+((a.extract (sa+k) sb).size-1)=sb-1 by lia]
  exact g2 _ (by lia) (by lia)
 by_cases e3:na-k<=m
 ·rw[if_pos e3];exact Y9 (vA O L y_ Sx Sy Uz Uy U9 U8 hf hl go)
 ·rw[if_neg e3];exact Y9 (vB O L y_ Sx Sy Uz Uy U9 U8 hf hl go)
end
section
variable {c:Y5->Y5->Bool}{a b:Array Y5}
def Runs (c:Y5->Y5->Bool)(a:Array Y5):List (Nat×Nat×Nat)->Nat->Nat->Prop
 |[],lo,hi=>lo=hi
 |z::r,lo,hi=>z.1=lo/\1<=z.2.1/\SR c a lo (lo+z.2.1)/\Runs c a r (lo+z.2.1) hi
theorem Runs.app:∀{l r:List (Nat×Nat×Nat)} {lo hi:Nat},Runs c a (l++r) lo hi->∃m,Runs c a l lo m/\Runs c a r m hi
 |[],r,lo,hi,h=>⟨lo,rfl,h⟩
 |z::l,r,lo,hi,lO=>by
  obtain⟨h1,h2,h3,h4⟩:=lO;obtain⟨m,g1,g2⟩:=Runs.app h4;exact⟨m,⟨h1,h2,h3,g1⟩,g2⟩
theorem Runs.join:∀{l r:List (Nat×Nat×Nat)} {lo m hi:Nat},Runs c a l lo m->Runs c a r m hi->Runs c a (l++r) lo hi
 |[],r,lo,m,hi,h,g=>by
  obtain rfl:lo=m:=h;exact g
 |z::l,r,lo,m,hi,CU,g=>by obtain⟨h1,h2,h3,h4⟩:=CU;exact⟨h1,h2,h3,Runs.join h4 g⟩
theorem Runs.len:∀{l:List (Nat×Nat×Nat)} {lo hi:Nat},Runs c a l lo hi->lo+l.length<=hi
 |[],lo,hi,h=>Nat.le_of_eq h
 |z::l,lo,hi,CT=>by
  obtain⟨h1,h2,h3,h4⟩:=CT;have:=Runs.len h4;rw[Zc];lia
theorem Runs.congr:∀{l:List (Nat×Nat×Nat)} {lo hi:Nat},Runs c a l lo hi->(∀k,lo<=k->k<hi->el b k=el a k)->Runs c b l lo hi
 |[],lo,hi,h,_=>h
 |z::l,lo,hi,Gb,e=>by
  obtain⟨h1,h2,h3,h4⟩:=Gb;have hl:=Runs.len h4;exact⟨h1,h2,h3.congr λk g1 g2=>e k g1 (by lia),Runs.congr h4 λk g1 g2=>e k (by lia) g2⟩
theorem Runs.pow:∀{l l':List (Nat×Nat×Nat)} {lo hi:Nat},Runs c a l lo hi->l'.map (λz=>(z.1,z.2.1))=l.map (λz=>(z.1,z.2.1))->Runs c a l' lo hi
 |[],[],_,_,h,_=>h
 |[],z::l',_,_,_,e=>by cases e
 |z::l,[],_,_,_,e=>by cases e
 |z::l,z'::l',lo,hi,Kl,e=>by
  obtain⟨h1,h2,h3,h4⟩:=Kl;rw[Zx,Zx]at e;injection e with e1 e2
  injection e1 with e3 e4
  exact⟨e3.trans h1,by rw[e4];exact h2,by rw[e4];exact h3,by rw[e4];exact Runs.pow h4 e2⟩
end
section
variable {prog:Y0}{w:Zd}{A:ZQ}{E:YU->YW->Prop}{s:YW}{κ:abl}{c:Y5->Y5->Bool}{a₀:Array Y5}
theorem IS {α:Type}{l:List α}{i:Nat}(h:i+1<l.length):∃l1 x y l2,l=l1++x::y::l2/\l1.length=i:=by
 refine⟨l.take i,l[i],l[i+1],l.drop (i+2),?_,by rw[ZH];lia⟩
 rw[<- aai h,<- aai (by lia),aaA]
theorem pA (O:cw c)(L:gf prog w A E s κ c (·∈a₀.toList)){st:Zy}{i hi:Nat}{Q:Bool->Zy->Prop}(h0:k6 κ a₀ st)(hr:Runs c (ZG st) (Zs st).toList 0 hi)(hh:hi<=a₀.size)(Vp:i+1<(Zs st).size)
  (h:∀aJ,k6 κ a₀ aJ->Rg (ZG st) (ZG aJ) 0 hi->Runs c (ZG aJ) (Zs aJ).toList 0 hi->(Zs aJ).size+1=(Zs st).size->Q true aJ) :
  wpS (model prog w) A E s (mergeAt' i) Q st:=by
 obtain⟨l1,⟨sa,na,pw⟩,⟨sb,nb,QF⟩,l2,el,hl⟩:=IS (l:=(Zs st).toList) (i:=i) (by rw[Y6];exact Vp)
 rw[el]at hr;obtain⟨m,r1,r2⟩:=hr.app;obtain⟨x1,x2,x3,y1,y2,y3,r3⟩:=r2;dsimp only at x1 x2 x3 y1 y2 y3 r3;have hlen:=r3.len;have Vk:=r1.len;have p1:(Zs st)[i]?=some (sa,na,pw):=by
  rw[<- Zk,el,Z0 (by lia),hl,Nat.sub_self]
  rfl
 have p2:(Zs st)[i+1]?=some (sb,nb,QF):=by
  rw[<- Zk,el,Z0 (by lia),hl,show i+1-i=1 by lia]
  rfl
 subst x1;refine vC O L h0 p1 p2 y1 x2 y2 (by lia) (by rw[y1];exact x3) (by rw[y1];exact y3) λaJ k1 k2 k3 R S=>?_
 have ep:(Zs aJ).toList=l1++(sa,na+nb,pw)::l2:=by
  rw[k3];have hz:i+1<((Zs st).setIfInBounds i (sa,na+nb,pw)).size:=by rw[acw];exact Vp
  have e1:(((Zs st).setIfInBounds i (sa,na+nb,pw)).eraseIdxIfInBounds (i+1)).toList=((Zs st).toList.set i (sa,na+nb,pw)).eraseIdx (i+1):=by
   unfold Array.eraseIdxIfInBounds;rw[dif_pos hz,Array.toList_eraseIdx,Array.toList_setIfInBounds]
  rw[e1,el,<- hl,List.set_append_right _ _ (YY _),Nat.sub_self,List.set_cons_zero,List.eraseIdx_append_of_length_le (by lia),show l1.length+1-l1.length=1 by lia]
  rfl
 have out:∀k,(k<sa\/sb+nb<=k)->TS.el (ZG aJ) k=TS.el (ZG st) k:=R.out;refine h aJ ⟨k1,k2,R.perm.trans h0.perm⟩ (R.mono (Zm _) (by lia)) ?_ ?_
 ·rw[ep];refine Runs.join (r1.congr λk g1 g2=>out k (.inl (by lia))) ⟨rfl,by show 1<=na+nb;lia,?_,?_⟩
  ·show SR c (ZG aJ) sa (sa+(na+nb));rw[show sa+(na+nb)=sb+nb by lia]
   exact S
  ·show Runs c (ZG aJ) l2 (sa+(na+nb)) hi;rw[show sa+(na+nb)=sa+na+nb by lia]
   exact r3.congr λk g1 g2=>out k (.inr (by lia))
 ·have e2:(Zs aJ).size=l1.length+(l2.length+1):=by rw[<- Y6,ep,Zl,Zc]
  have e3:(Zs st).size=l1.length+(l2.length+1+1):=by rw[<- Y6,el,Zl,Zc,Zc]
  lia
theorem ng:∀(f n r:Nat),1<=n->1<=minRun' f n r
 |0,n,r,h=>by show 1<=n+r;lia
 |f+1,n,r,h=>by
  rw[minRun'_succ]
  split
  ·lia
  ·exact ng f _ _ (by lia)
theorem Fi (p:Array (Nat×Nat×Nat))(i w:Nat):(p.modify i λx=>(x.1,x.2.1,w)).toList.map (λz=>(z.1,z.2.1))=p.toList.map (λz=>(z.1,z.2.1)):=by
 apply aaS;intro k;rw[Zj,Zj,Zk,Zk,Array.getElem?_modify]
 split
 ·rw[Option.map_map];rfl
 ·rfl
theorem sD (O:cw c)(L:gf prog w A E s κ c (·∈a₀.toList)){st:Zy}{Q:Unit->Zy->Prop}(h0:k6 κ a₀ st)(hp:Zs st=#[])(h2:2<=a₀.size)
  (h:∀aJ,k6 κ a₀ aJ->SR c (ZG aJ) 0 a₀.size->Q () aJ):wpS (model prog w) A E s sortRuns' Q st:=by
 rw[sortRuns'_eq];refine Y9 (aci ?_);dsimp only;rw[h0.size];have Xn:=ng a₀.size a₀.size 0 (by lia)
 generalize minRun' a₀.size a₀.size 0=mr at Xn;refine Y9 (aaC (Z3 (I:=λx r aJ=>k6 κ a₀ aJ/\∃lo,r=(none,lo)/\lo<=a₀.size/\(a₀.size<=lo\/x<=lo)/\Runs c (ZG aJ) (Zs aJ).toList 0 lo)
  (Q:=λr aJ=>k6 κ a₀ aJ/\r=(none,a₀.size)/\Runs c (ZG aJ) (Zs aJ).toList 0 a₀.size) ?_ ?_ ?_) ?_)
 ·rintro x r aJ _ hx ⟨hS,lo,rfl,S_,Xq,hr⟩;dsimp only
  by_cases hl:lo >= a₀.size
  ·rw[if_pos hl];obtain rfl:lo=a₀.size:=by lia
   exact Zg ⟨hS,rfl,hr⟩
  rw[if_neg hl];refine Y9 (AK O L hS (by lia) (by lia) λn b n1 n2 R Sb=>?_)
  dsimp only;have vw:k6 κ a₀ (aab aJ b):=hS.set R;have rC:Runs c (ZG (aab aJ b)) (Zs (aab aJ b)).toList 0 lo:=Runs.congr (b:=b) hr λk q1 q2=>R.out k (.inl q2);refine(λ(key:∀(N:Nat) (stx:Zy),1<=N->lo+N<=a₀.size->Runs c (ZG stx) (Zs stx).toList 0 lo->k6 κ a₀ stx->SR c (ZG stx) lo (lo+N)->(?G:Nat->Zy->Prop) N stx)=>?main) ?key
  case main =>
   by_cases Vg:n<mr
   ·rw[if_pos Vg];refine Y9 (wpS_lift (abJ ⟨rfl,?_⟩));refine Y9 (IB O L vw (by lia) (by lia) (by lia) Sb λb' R' Yd=>?_)
    rw[if_neg (by simp)]
    have Pq:1<=min (a₀.size-lo) mr:=by lia
    have Tx:lo+min (a₀.size-lo) mr<=a₀.size:=by lia
    have rC:Runs c (ZG (aab (aab aJ b) b')) (Zs (aab (aab aJ b) b')).toList 0 lo:=Runs.congr (b:=b') rC λk q1 q2=>R'.out k (.inl q2);have vw:k6 κ a₀ (aab (aab aJ b) b'):=vw.set R';have Im:SR c (ZG (aab (aab aJ b) b')) lo (lo+(min (a₀.size-lo) mr)):=Yd;generalize aab (aab aJ b) b'=stx at rC vw Im ⊢
    generalize min (a₀.size-lo) mr=N at Pq Tx Im ⊢
    exact key N stx Pq Tx rC vw Im
   ·rw[if_neg Vg];have Im:SR c (ZG (aab aJ b)) lo (lo+n):=Sb;exact key n _ n1 (by lia) rC vw Im
  case key =>
   intro N stx Pq Tx rC vw Im;refine Y9 (aci ?_);have OO:∀(mC:Zy),k6 κ a₀ mC->SR c (ZG mC) lo (lo+N)->Runs c (ZG mC) (Zs mC).toList 0 lo->k6 κ a₀ (abL mC ((Zs mC).push (lo,N,0)))/\∃HB,((none,lo+N):Option Unit×Nat)=(none,HB)/\HB<=a₀.size/\(a₀.size<=HB\/x+1<=HB)/\Runs c (ZG mC) ((Zs mC).push (lo,N,0)).toList 0 HB:=λmC g1 g2 g3 =>
    ⟨⟨g1.kind,g1.fail,g1.perm⟩,_,rfl,by lia,by lia,by rw[aaG];exact g3.join ⟨rfl,Pq,g2,rfl⟩⟩
   cases hb:(Zs stx).back? with
   |none =>
    dsimp only;exact Y9 (aa7 (Zg (OO stx vw Im rC)))
   |some z =>
    obtain⟨s1,n1,p1⟩:=z;dsimp only;refine Y9 (aaC (Z3 (I:=λx r aJ=>r=(none,())/\k6 κ a₀ aJ/\SR c (ZG aJ) lo (lo+N)/\Runs c (ZG aJ) (Zs aJ).toList 0 lo)
     (Q:=λr aJ=>r=(none,())/\k6 κ a₀ aJ/\SR c (ZG aJ) lo (lo+N)/\Runs c (ZG aJ) (Zs aJ).toList 0 lo) ?_ ?_ ?_) ?_)
    ·rintro y r mC _ _ ⟨rfl,g1,g2,g3⟩;refine Y9 (aci ?_)
     by_cases NS:(Zs mC).size>1
     ·rw[if_pos NS];cases hq:(Zs mC)[(Zs mC).size-2]? with
      |none =>
       dsimp only;exact Zg ⟨rfl,g1,g2,g3⟩
      |some z =>
       obtain⟨u,v,UO⟩:=z;dsimp only
       split
       ·exact Zg ⟨rfl,g1,g2,g3⟩
       ·refine Y9 (pA O L g1 g3 (by lia) (by lia) λMz f1 f2 f3 f4=>?_)
        exact Zg ⟨rfl,f1,g2.congr λk q1 q2=>f2.out k (.inr q1),f3⟩
     ·rw[if_neg NS];dsimp only;exact Zg ⟨rfl,g1,g2,g3⟩
    ·rintro r mC ⟨rfl,g1,g2,g3⟩;exact⟨rfl,g1,g2,g3⟩
    ·exact⟨rfl,vw,Im,rC⟩
    rintro r mC ⟨rfl,g1,g2,g3⟩;dsimp only;refine Y9 (aa7 (Y9 (aa7 (Zg ?_))));exact OO (abL mC _) ⟨g1.kind,g1.fail,g1.perm⟩ g2 (g3.pow (Fi _ _ _))
 ·rintro r aJ ⟨hS,lo,rfl,S_,Xq,hr⟩;obtain rfl:lo=a₀.size:=by lia
  exact⟨hS,rfl,hr⟩
 ·exact⟨h0,0,rfl,Zm _,.inr (YY _),by rw[hp];rfl⟩
 rintro r aJ ⟨hS,rfl,hr⟩;dsimp only;refine Y9 (aaC (Z3 (I:=λx r aJ=>r=(none,())/\k6 κ a₀ aJ/\Runs c (ZG aJ) (Zs aJ).toList 0 a₀.size/\((Zs aJ).size<=1\/(Zs aJ).size+x<=a₀.size))
  (Q:=λr aJ=>r=(none,())/\k6 κ a₀ aJ/\Runs c (ZG aJ) (Zs aJ).toList 0 a₀.size/\(Zs aJ).size<=1) ?_ ?_ ?_) ?_)
 ·rintro x r gq _ hx ⟨rfl,vw,rC,hz⟩;refine Y9 (aci ?_)
  by_cases h1:(Zs gq).size<=1
  ·rw[if_pos h1];exact Zg ⟨rfl,vw,rC,h1⟩
  rw[if_neg h1];refine Y9 (pA O L vw rC (YY _) ?_ λmC XM R3 Xd YC=>?_)
  ·split
   ·split <;> lia
   ·rw[if_neg (by simp)]
    lia
  ·exact Zg ⟨rfl,XM,Xd,.inr (by lia)⟩
 ·rintro r gq ⟨rfl,vw,rC,hz⟩;exact⟨rfl,vw,rC,by lia⟩
 ·refine⟨rfl,hS,hr,.inr ?_⟩;have:=hr.len;rw[Y6]at this;lia
 ·rintro r gq ⟨rfl,vw,rC,hz⟩;refine Zg (h gq vw ?_)
  match hq:(Zs gq).toList,rC with
  |[],e=>
   have:(0:Nat)=a₀.size:=e;lia
  |[z],e =>
   obtain⟨e1,e2,e3,e4⟩:=e;have e4:0+z.2.1=a₀.size:=e4;rw[e4]at e3;exact e3
  |z::y::l,e =>
   have:(Zs gq).toList.length<=1:=by rw[Y6];exact hz
   rw[hq]at this;simp at this
end
theorem lex_nil {y:List Int}:HT.lexLt [] y=decide (0<y.length):=by cases y <;> rfl
theorem jC {a b:Int}{x y:List Int}:HT.lexLt (a::x) (b::y)=if a=b then HT.lexLt x y else decide (a<b):=rfl
theorem ub:∀{x y:List Int},HT.lexLt x y=true->HT.lexLt y x=false
 |[],[],_=>rfl
 |[],_::_,_=>rfl
 |_::_,[],h=>by cases h
 |a::x,b::y,h=>by
  rw[jC]at h ⊢
  by_cases e:a=b
  ·rw[if_pos e]at h;rw[if_pos e.symm];exact ub h
  ·rw[if_neg e]at h;rw[if_neg λz=>e z.symm];have:=of_decide_eq_true h;exact decide_eq_false (by lia)
theorem ya:∀{x z:List Int} (y:List Int),HT.lexLt x z=true->HT.lexLt x y=true\/HT.lexLt y z=true
 |[],[],_,h=>by cases h
 |[],_::_,[],h=>.inr rfl
 |[],_::_,_::_,h=>.inl rfl
 |_::_,[],_,h=>by cases h
 |a::x,b::z,[],h=>.inr rfl
 |a::x,b::z,d::y,h=>by
  rw[jC]at h ⊢
  rw[jC]
  by_cases e:a=b
  ·subst e;rw[if_pos rfl]at h
   by_cases e2:a=d
   ·subst e2;rw[if_pos rfl,if_pos rfl];exact ya y h
   ·rw[if_neg e2,if_neg λq=>e2 q.symm]
    by_cases e3:a<d
    ·exact .inl (decide_eq_true e3)
    ·exact .inr (decide_eq_true (by lia))
  ·rw[if_neg e]at h;have h:=of_decide_eq_true h
   by_cases e2:a=d
   ·subst e2;rw[if_neg e];exact .inr (decide_eq_true h)
   ·rw[if_neg e2]
    by_cases e3:a<d
    ·exact .inl (decide_eq_true e3)
    ·rw[if_neg (by lia)]
     exact .inr (decide_eq_true (by lia))
def byKey (kf:YU->List Int)(x y:Y5):Bool:=HT.lexLt (kf x.1) (kf y.1)
theorem Fy (kf:YU->List Int):cw (byKey kf):=⟨λ_ _ h=>ub h,λ_ y _ h=>ya (kf y.1) h⟩
section
variable {prog:Y0}{w:Zd}{A:ZQ}{E:YU->YW->Prop}{s:YW}
theorem ua {b:Bool}{Q:Bool->YW->Prop}:∀{ns ms:List Int} {us vs:List YU} (i:Nat),aaE us ns->aaE vs ms->Q (HT.lexLt ns ms) s->PySem.W.KatLex prog w A b (decide (ns.length<ms.length)) Q (us.zip vs) i s
 |[],ms,us,vs,i,hu,hv,q=>by
  cases hu;rw[List.zip_nil_left];rw[lex_nil]at q;exact PySem.W.kat_nil q
 |n::ns,[],us,vs,i,hu,hv,q=>by
  cases hv;rw[List.zip_nil_right];exact PySem.W.kat_nil q
 |n::ns,m::ms,us,vs,i,hu,hv,q=>by
  cases hu with
  |cons _ t hu =>
   cases hv with
   |cons _ t' hv =>
    rw[List.zip_cons_cons];refine PySem.W.kat_cons (wpAny_eqBool_int ?_);rw[jC]at q
    by_cases e:n=m
    ·subst e;rw[if_pos rfl]at q;rw[beq_self_eq_true];have:=ua (b:=b) (Q:=Q) (i+1) hu hv q;rw[show decide ((n::ns).length<(n::ms).length)=decide (ns.length<ms.length) by rw[Zc,Zc];congr 1;simp]
     exact PySem.W.kat_yes this
    ·rw[if_neg e]at q;rw[show (n==m)=false from beq_eq_false_iff_ne.mpr e]
     refine PySem.W.kat_no ?_;cases b&&i==0 with
     |true=>exact oneLt_int q
     |false=>exact PySem.W.kat_one _ _ (lt_int q)
def pq (h:Heap)(kf:YU->List Int)(a:Addr)(vs:List YU):Prop :=
 ∀v∈vs,∃t o xs k,v=.ref t/\t≠a/\h.get? t=some o/\o.cls=.type "tuple" /\ o.data=.seq xs k/\aaE xs.toList (kf v)/\kf v≠[]
theorem zH {kf:YU->List Int}{a:Addr}{vs:List YU}{b:Bool}{a₀:Array Y5}(T:pq s.heap kf a vs)(hm:∀z∈a₀.toList,z.1∈vs):gf prog w A E s (tuples' b) (byKey kf) (·∈a₀.toList):=by
 intro x y st Q hx hy hk q;obtain⟨t,o,xs,n,e1,_,e2,_,e3,e4,_⟩:=T _ (hm _ hx);obtain⟨t',o',VT,n',f1,_,f2,_,f3,f4,_⟩:=T _ (hm _ hy);rw[lt'_eq];refine Y9 (aci ?_);rw[hk,e1,f1];have z1:xs.size=(kf x.1).length:=by rw[<- Y6];exact e4.length
 have z2:VT.size=(kf y.1).length:=by rw[<- Y6];exact f4.length
 refine Y9 (wpS_lift (acp (PySem.W.kat_lt e2 e3 f2 f3 ?_)));rw[z1,z2];exact ua 0 e4 f4 ⟨rfl,Zg q⟩
theorem mm {kf:YU->List Int}{a:Addr}{h:Heap}:∀{vs:List YU},pq h kf a vs->∃fs:List YU,PySem.W.KatTups h vs fs/\fs.length=vs.length/\∀f∈fs,∃n t,f=Value.int n t
 |[],_=>⟨[],trivial,rfl,λf hf=>by cases hf⟩
 |v::vs,T=>by
  obtain⟨fs,h1,h2,h3⟩:=mm (vs:=vs) λu hu=>T u (Y7 _ hu);obtain⟨t,o,xs,k,rfl,_,e2,e3,e4,e5,e6⟩:=T v Y8;obtain⟨f,r,ef,n,tk,hn⟩:∃f r,xs.toList=f::r/\∃n tk,f=Value.int n tk:=by
   generalize kf (.ref t)=ks at e5 e6;generalize xs.toList=us at e5;cases e5 with
   |nil=>exact absurd rfl e6
   |cons n tk r=>exact⟨_,_,rfl,_,_,rfl⟩
  have e:xs[0]?=some f:=by rw[<- Zk,ef];rfl
  exact⟨f::fs,PySem.W.KatTups.cons e2 e3 e4 e h1,by rw[Zc,Zc,h2],λg hg=>by
   rcases Y4.mp hg with rfl|hg
   ·exact⟨_,_,hn⟩
   ·exact h3 g hg⟩
theorem zN {kf:YU->List Int}{a:Addr}{vs:List YU}{Q:abl->YW->Prop}(T:pq s.heap kf a vs)(h0:0<vs.length)(q:Q (tuples' true) s):Zr (model prog w) A (keyKind' vs.toArray) Q E s:=by
 obtain⟨fs,h1,h2,h3⟩:=mm T;refine PySem.W.kat_kind (T:=.type "int") h1 (by lia) (λv hv=>?_) (by decide) q
 obtain⟨n,t,rfl⟩:=h3 v hv;exact .now
theorem Bc {α:Type}{R:α->α->Prop}:∀{l:List α},l.length<2->l.Pairwise R
 |[],_=>.nil
 |[x],_=>List.pairwise_singleton _ _
 |_::_::_,h=>by
  rw[Zc,Zc]at h;lia
theorem v9 {a:Addr} {vs:List YU} {n:Nat} {κ:abl} {c:YU->YU->Bool} {P:PySem.Fin->YW->Prop} (ho:s.heap.get? a=some (aaJ "list" vs.toArray n)) (hz:vs.length<=1000000) (O:cw λx y=>c x.1 y.1)
  (T:∀s':YW,(∀t o,t≠a->s.heap.get? t=some o->s'.heap.get? t=some o)->(2<=vs.length->∀(Q:abl->YW->Prop),Q κ s'->Zr (model prog w) A (keyKind' vs.toArray) Q E s')/\gf prog w A E s' κ (λx y=>c x.1 y.1) (·∈(vs.toArray.zip vs.toArray).toList))
  (h:∀out:List YU,out.Perm vs->out.Pairwise (λx y=>c y x=false)->P (.done (.ret .none)) {s with heap:=sortedHeap s.heap a vs out.toArray}) :
  Zr (model prog w) A (aaz.«list.sort» ⟨[.ref a],[]⟩) P E s:=by
 have la:a<s.heap.objs.size:=Za ho;obtain⟨ep,hc⟩:∃ep,(s.heap.update a (aa9 λ_=>#[])).get? a=some (aaJ "list" #[] ep):=⟨_,get?_update_seq ho (λ_=>#[])⟩;have old:∀t o,t≠a->s.heap.get? t=some o->(((s.heap.update a (aa9 λ_=>#[])).push (aaJ "tuple" vs.toArray 0)).push (aaJ "list" #[] 0)).get? t=some o:=λt o ht e =>
  Y3 _ (Y3 _ (by rw[Heap.get?_update_ne _ _ _ _ ht];exact e))
 have rF:(((s.heap.update a (aa9 λ_=>#[])).push (aaJ "tuple" vs.toArray 0)).push (aaJ "list" #[] 0)).get? a=some (aaJ "list" #[] ep):=Y3 _ (Y3 _ hc);have big:∀m:Nat,m<=vs.length->m<=Zf:=λm hm=>by rw[Zw];lia
 have zz:vs.toArray.size=vs.length:=by simp
 rw[list_sort_plain];refine YV (listItems_at ho rfl ?_);refine YV (listUpdate_at ho rfl ?_ (big _ (Nat.le_of_eq zz)) (Zm _));refine YV (seqEpoch_at hc rfl ?_);refine YV (wpAny_newTuple ?_ (big _ (YY _)));refine YV (wpAny_newList ?_ (Zm _));refine ZW ?_;show Zr (model prog w) A _ P E {s with heap:=((s.heap.update a (aa9 λ_=>#[])).push (aaJ "tuple" vs.toArray 0)).push (aaJ "list" #[] 0)}
 dsimp only;have done:∀aJ:Zy,(ZG aJ).Perm (vs.toArray.zip vs.toArray)->(ZG aJ).toList.Pairwise (le λx y=>c x.1 y.1)->P (.done (.ret .none)) {s with heap:=sortedHeap s.heap a vs ((ZG aJ).map (·.2))}:=λaJ hp hs=>by
  have h1:∀z∈(ZG aJ).toList,z.1=z.2:=λz hz=>by
   have:=(abc.mp hp).mem_iff.mp hz;rw[Array.toList_zip]at this;obtain⟨i,hi⟩:=abb this;rw[List.getElem?_zip_eq_some]at hi;exact Zt (hi.1.symm.trans hi.2)
  have e2:(ZG aJ).map (·.2)=((ZG aJ).toList.map (·.2)).toArray:=by
   apply Array.toList_inj.mp;rw[Array.toList_map]
  rw[e2];refine h _ ?_ ?_
  ·have:=(abc.mp hp).map (λz:Y5=>z.2);rw[Array.toList_zip]at this;refine this.trans (List.Perm.of_eq ?_);exact List.map_snd_zip (by simp)
  ·rw[aa4];refine hs.imp_of_mem λ{x y} hx hy hl=>?_;rw[<- h1 x hx,<- h1 y hy];exact hl
 by_cases h2:vs.toArray.size<2
 ·rw[if_pos h2,if_pos h2];refine YV (YZ ?_);rw[StateT.run_pure];refine YV (YZ ?_);dsimp only;refine YV (seqEpoch_at rF rfl ?_);refine YV (listUpdate_at rF rfl ?_ (Zm _) (by rw[Array.size_map,Array.size_zip];exact ZO (big _ (by lia)) (Nat.le_succ _)))
  simp only[bne_self_eq_false,abw,if_false];refine YZ (done (SortSt.mk' general' (vs.toArray.zip vs.toArray) #[] 7 none) (Array.Perm.refl _) ?_);refine Bc ?_;show (vs.toArray.zip vs.toArray).toList.length<2;rw[Y6,Array.size_zip];lia
 ·rw[if_neg h2,if_neg h2];obtain⟨hK,L⟩:=T {s with heap:=((s.heap.update a (aa9 λ_=>#[])).push (aaJ "tuple" vs.toArray 0)).push (aaJ "list" #[] 0)} old
  refine YV (hK (by lia) _ ?_)
  have zp:(vs.toArray.zip vs.toArray).size=vs.length:=by rw[Array.size_zip];lia
  refine YV (aa8 (sD (Q:=λ_ aJ=>(ZG aJ).Perm (vs.toArray.zip vs.toArray)/\abB aJ=none/\SR (λx y=>c x.1 y.1) (ZG aJ) 0 vs.length) O L
   (st:=SortSt.mk' κ (vs.toArray.zip vs.toArray) #[] 7 none) ⟨rfl,rfl,Array.Perm.refl _⟩ rfl (by lia) λaJ g1 g2=>⟨g1.perm,g1.fail,by rw[zp]at g2;exact g2⟩) ?_ λ_ _ e=>e)
  rintro⟨⟨⟩,aJ⟩ s' ⟨rfl,hp,hf,hs⟩;dsimp only;have zs:(ZG aJ).size=vs.length:=hp.size_eq.trans zp;refine YV (seqEpoch_at rF rfl ?_);refine YV (listUpdate_at rF rfl ?_ (Zm _) (by rw[Array.size_map,zs];exact ZO (big _ (YY _)) (Nat.le_succ _)))
  rw[hf];simp only[bne_self_eq_false,abw,if_false];refine YZ (done aJ hp ?_);rw[abh];intro i j hi hj aT;rw[Y6]at hi hj;have:=hs i j (Zm _) (by lia) (by lia)
  have ei:el (ZG aJ) i=(ZG aJ).toList[i]:=yw (by rw[<- Zk];exact Y2 _)
  have ej:el (ZG aJ) j=(ZG aJ).toList[j]:=yw (by rw[<- Zk];exact Y2 _)
  rw[ei,ej]at this;exact this
theorem nr {a:Addr} {vs:List YU} {n:Nat} {kf:YU->List Int} {P:PySem.Fin->YW->Prop} (ho:s.heap.get? a=some (aaJ "list" vs.toArray n)) (hz:vs.length<=1000000) (T:pq s.heap kf a vs)
  (h:∀out:List YU,out.Perm vs->out.Pairwise (λx y=>HT.lexLt (kf y) (kf x)=false)->P (.done (.ret .none)) {s with heap:=sortedHeap s.heap a vs out.toArray}) :
  Zr (model prog w) A (aaz.«list.sort» ⟨[.ref a],[]⟩) P E s:=by
 refine v9 (κ:=tuples' true) (c:=λx y=>HT.lexLt (kf x) (kf y)) ho hz (Fy kf) (λs' kp=>?_) h;have T':pq s'.heap kf a vs:=λv hv=>by
  obtain⟨t,o,xs,k,e1,e2,e3,r⟩:=T v hv;exact⟨t,o,xs,k,e1,e2,kp t o e2 e3,r⟩
 exact⟨λh2 Q q=>zN T' (by lia) q,zH T' λz hz=>by
  rw[Array.toList_zip]at hz;exact(abY hz).1⟩
end
end TS
namespace ST
open PySem PyProof.Rows
section
variable {prog:Y0}{w:Zd}{A:ZQ}{E:YU->YW->Prop}{s:YW}
abbrev TK (prog:Y0)(w:Zd):=tupleKind (intKind prog w)
abbrev kH (prog:Y0)(w:Zd)(k:List Int):Int:=(TK prog w).hash k
abbrev ent (prog:Y0)(w:Zd)(x:Addr×List Int):Int×YU:=(kH prog w x.2,.ref x.1)
structure fI {α β:Type}(w:Zd)(en:α->Int×YU)(hk:α->Int)(ky:α->β)(o:Obj)(ts:List α)(es:Array (Int×YU))(ep:Nat)(t:SetTable):Prop where
 ex:o.ExactSet
 dat:o.data=.set es ep t
 Lf:es.toList=ts.map en
 wf:WF t (ts.map hk)
 Qq:t.place.size*5<t.mask*3
 Hy:t.mask<=8191
 led:t.led=!w.params.followText "set-order"
 LQ:t.plain=true
 Nb:(ts.map ky).Nodup
abbrev lT (prog:Y0)(w:Zd):=fI w (ent prog w) (λx=>kH prog w x.2) (λx=>x.2)
def LI (prog:Y0)(w:Zd)(h:Heap)(ts:List (Addr×List Int)):Prop:=∀x∈ts,(TK prog w).is h x.2 x.1
section
variable {α β:Type}{en:α->Int×YU}{hk:α->Int}{ky:α->β}{ts:List α}{o:Obj}{es:Array (Int×YU)}{ep:Nat}{t:SetTable}
theorem fI.fits (S:fI w en hk ky o ts es ep t):t.fits es.size=true:=by
 have h1:=S.wf.sz;have h2:es.size=ts.length:=by rw[<- Y6,S.Lf,YX]
 rw[YX]at h1;unfold SetTable.fits SetTable.fill;rw[S.wf.L7,h2,h1];have:=S.Qq;simp;lia
theorem fI.size (S:fI w en hk ky o ts es ep t):es.size=ts.length/\t.place.size=ts.length:=by
 have h1:=S.wf.sz;rw[YX]at h1;exact⟨by rw[<- Y6,S.Lf,YX],h1⟩
end
theorem Aj (d:Nat)(n:Int)(tk:Tok):ofAClassStatement d (.int n tk)=pure false:=by
 cases d <;> rfl
theorem sG {k:List Int}{b:Addr}{Q:Bool->YW->Prop}(hk:(TK prog w).is s.heap k b)(q:Q false s):Zr (model prog w) A (ofAClassStatement 8 (.ref b)) Q E s:=by
 obtain⟨o,items,n,ho,hc,hd,hi⟩:=hk;have hT:s.TypeIs (.ref b) "tuple" := ⟨o,ho,hc⟩;unfold ofAClassStatement;refine YV (wpAny_typeOf hT ?_);dsimp only;rw[if_pos (by rfl)]
 refine YV (YZ ?_);rw[if_neg (by simp)]
 refine YV (wpAny_seqItems ho hd ?_);dsimp only;rw[<- Array.forIn_toList];refine YV (acx _ (λrest r s'=>r=(none,())/\s'=s/\∀v∈rest,∃n tk,v=Value.int n tk) _ ?_ ?_ _ _ ⟨rfl,rfl,?_⟩)
 ·rintro v rest r s' ⟨rfl,rfl,o9⟩;obtain⟨n,tk,rfl⟩:=o9 v Y8;rw[Aj];refine YV (YZ ?_);rw[if_neg (by simp)]
  exact YZ ⟨rfl,rfl,λu hu=>o9 u (Y7 _ hu)⟩
 ·rintro r s' ⟨rfl,rfl,_⟩;exact YZ q
 ·generalize items.toList=vs at hi
  induction hi with
  |nil=>intro v hv;cases hv
  | @cons k v ks vs h1 h2 ih =>
   intro u hu;rcases Y4.mp hu with rfl|hu
   ·obtain⟨t,rfl⟩:=Value.isInt_shape h1;exact⟨_,_,rfl⟩
   ·exact ih u hu
theorem EI {k:List Int}{b:Addr}(hk:(TK prog w).is s.heap k b)(l:List (Addr×List Int)){Q:Bool->YW->Prop}(T:LI prog w s.heap l)(q:Q false s):Zr (model prog w) A (searchCouldBeSeen (.ref b) (l.map λx=>Value.ref x.1)) Q E s:=by
 unfold searchCouldBeSeen;refine YV (acx _ (λrest r s'=>r=(none,())/\s'=s/\∀v∈rest,∃x∈l,v=Value.ref x.1) _ ?_ ?_ _ _ ⟨rfl,rfl,?_⟩)
 ·rintro v rest r s' ⟨rfl,rfl,o9⟩;obtain⟨x,hx,rfl⟩:=o9 v Y8;have HJ:∀v∈rest,∃x∈l,v=Value.ref x.1:=λu hu=>o9 u (Y7 _ hu);dsimp only
  split
  ·exact YZ ⟨rfl,rfl,HJ⟩
  ·refine YV ((TK prog w).quiet hk ?_);rw[if_neg (by simp)]
   refine YV ((TK prog w).quiet (T x hx) ?_);rw[if_neg (by simp)]
   refine YV (sG hk ?_);rw[if_neg (by simp)]
   refine YV (sG (T x hx) ?_);rw[if_neg (by simp)]
   exact YZ ⟨rfl,rfl,HJ⟩
 ·rintro r s' ⟨rfl,rfl,_⟩;exact YZ q
 ·intro v hv;obtain⟨x,hx,rfl⟩:=ZE.mp hv;exact⟨x,hx,rfl⟩
end
end ST
namespace L2
open PySem PySem.Spec PyProof.Rows
inductive D where
 |b_|bl (b:Bool)|int (i:Int)|str (x:Str)|obj (a:Addr)
 |tup (ds:List D)|lst (ds:List D)
 |dT (ks:List (List Key)) (ds:List D)|dK (ks:List Key) (ds:List D)
 |sT (ts:List (List Int))
 |ob (φ:Addr->HO)
def IW (P:Y0)(w:Zd)(a:Addr)(ts:List (Addr×List Int))(h:Heap):Prop:=∃o es ep t,h.get? a=some o/\ST.lT P w o ts es ep t
abbrev gQ (P:Y0)(w:Zd)(a:Addr)(ts:List (Addr×List Int)):HO:=.ext (IW P w a ts)
def G8 (P:Y0)(w:Zd)(H:Hp)(a:Addr)(ts:List (List Int)):Prop :=
 ∃bF:List (Addr×List Int),H a=some (gQ P w a bF)/\(∀x∈bF,H x.1=some (.tup (x.2.map V.int)))/\(bF.map (·.2)).Perm ts
section
variable (P:Y0)(w:Zd)(W:Addr->Prop)(H:Hp)
mutual
def aF:D->V->Prop
 |.b_,v=>v=.b_
 |.bl b,v=>v=.bl b
 |.int i,v=>v=.int i
 |.str x,v=>v=.str x
 |.obj a,v=>v=.ref a
 |.tup ds,v=>∃a vs,v=.ref a/\H a=some (.tup vs)/\ao ds vs
 |.lst ds,v=>∃a vs,v=.ref a/\H a=some (.lst vs)/\¬ W a/\ao ds vs
 |.dT ks ds,v=>∃a vs,v=.ref a/\H a=some (.dT (ks.zip vs))/\ks.length=vs.length/\¬ W a/\ao ds vs
 |.dK ks ds,v=>∃a vs,v=.ref a/\H a=some (.dK (ks.zip vs))/\ks.length=vs.length/\¬ W a/\ao ds vs
 |.sT ts,v=>∃a,v=.ref a/\G8 P w H a ts/\¬ W a
 |.ob φ,v=>∃a,v=.ref a/\(H a=some (φ a)/\∀xs,φ a≠.tup xs)/\¬ W a
def ao:List D->List V->Prop
 |[],vs=>vs=[]
 |d::ds,vs=>∃v r,vs=v::r/\aF d v/\ao ds r
end
end
mutual
def D.flat:D->Bool
 |.tup ds=>D.bP ds
 |.lst _=>false
 |.dT _ _=>false
 |.dK _ _=>false
 |.sT _=>false
 |.ob _=>false
 |_=>true
def D.bP:List D->Bool
 |[]=>true
 |d::ds=>D.flat d&&D.bP ds
end
structure Kp (W:Addr->Prop)(H H':Hp):Prop where
 out:∀b o,H b=some o->¬ W b->H' b=some o
 tup:∀b xs,H b=some (.tup xs)->H' b=some (.tup xs)
theorem Kp.refl {W:Addr->Prop}{H:Hp}:Kp W H H:=⟨λ_ _ e _=>e,λ_ _ e=>e⟩
theorem Kp.trans {W:Addr->Prop}{H H1 H2:Hp}(a:Kp W H H1)(b:Kp W H1 H2):Kp W H H2:=⟨λc o e n=>b.out c o (a.out c o e n) n,λc xs e=>b.tup c xs (a.tup c xs e)⟩
theorem aD.kp {W:Addr->Prop}{H H':Hp}(h:aD H H'):Kp W H H':=⟨λb o e _=>h b o e,λb xs e=>h b _ e⟩
theorem Kp.mono {W W':Addr->Prop}{H H':Hp}(h:Kp W H H')(s:∀a,W a->W' a):Kp W' H H':=⟨λb o e n=>h.out b o e λz=>n (s b z),h.tup⟩
section
variable {P:Y0}{w:Zd}{W W':Addr->Prop}{H H':Hp}
mutual
theorem aF.keep (k:Kp W H H'):∀{d:D} {v:V},aF P w W H d v->aF P w W H' d v
 |.b_,_,h=>h
 |.bl _,_,h=>h
 |.int _,_,h=>h
 |.str _,_,h=>h
 |.obj _,_,h=>h
 |.tup ds,_,lO=>by obtain⟨a,vs,e,t,r⟩:=lO;exact⟨a,vs,e,k.tup a vs t,ao.keep k r⟩
 |.lst ds,_,CU=>by obtain⟨a,vs,e,t,n,r⟩:=CU;exact⟨a,vs,e,k.out a _ t n,n,ao.keep k r⟩
 |.dT ks ds,_,CT=>by obtain⟨a,vs,e,t,l,n,r⟩:=CT;exact⟨a,vs,e,k.out a _ t n,l,n,ao.keep k r⟩
 |.dK ks ds,_,Gb=>by obtain⟨a,vs,e,t,l,n,r⟩:=Gb;exact⟨a,vs,e,k.out a _ t n,l,n,ao.keep k r⟩
 |.sT ts,_,Kl=>by obtain⟨a,e,⟨bF,t,r,z⟩,n⟩:=Kl;exact⟨a,e,⟨bF,k.out a _ t n,λx hx=>k.tup _ _ (r x hx),z⟩,n⟩
 |.ob φ,_,NJ=>by obtain⟨a,e,⟨t,z⟩,n⟩:=NJ;exact⟨a,e,⟨k.out a _ t n,z⟩,n⟩
theorem ao.keep (k:Kp W H H'):∀{ds:List D} {vs:List V},ao P w W H ds vs->ao P w W H' ds vs
 |[],_,h=>h
 |d::ds,_,NH=>by obtain⟨v,r,e,h1,h2⟩:=NH;exact⟨v,r,e,aF.keep k h1,ao.keep k h2⟩
end
mutual
theorem aF.bb (s:∀a,W' a->W a):∀{d:D} {v:V},aF P w W H d v->aF P w W' H d v
 |.b_,_,h=>h
 |.bl _,_,h=>h
 |.int _,_,h=>h
 |.str _,_,h=>h
 |.obj _,_,h=>h
 |.tup ds,_,RY=>by obtain⟨a,vs,e,t,r⟩:=RY;exact⟨a,vs,e,t,ao.bb s r⟩
 |.lst ds,_,RX=>by obtain⟨a,vs,e,t,n,r⟩:=RX;exact⟨a,vs,e,t,λz=>n (s a z),ao.bb s r⟩
 |.dT ks ds,_,Kz=>by obtain⟨a,vs,e,t,l,n,r⟩:=Kz;exact⟨a,vs,e,t,l,λz=>n (s a z),ao.bb s r⟩
 |.dK ks ds,_,Ky=>by obtain⟨a,vs,e,t,l,n,r⟩:=Ky;exact⟨a,vs,e,t,l,λz=>n (s a z),ao.bb s r⟩
 |.sT ts,_,Kx=>by obtain⟨a,e,t,n⟩:=Kx;exact⟨a,e,t,λz=>n (s a z)⟩
 |.ob φ,_,Kw=>by obtain⟨a,e,t,n⟩:=Kw;exact⟨a,e,t,λz=>n (s a z)⟩
theorem ao.bb (s:∀a,W' a->W a):∀{ds:List D} {vs:List V},ao P w W H ds vs->ao P w W' H ds vs
 |[],_,h=>h
 |d::ds,_,Kv=>by obtain⟨v,r,e,h1,h2⟩:=Kv;exact⟨v,r,e,aF.bb s h1,ao.bb s h2⟩
end
mutual
theorem aF.flat:∀{d:D} {v:V},d.flat=true->aF P w W H d v->aF P w W' H d v
 |.b_,_,_,h=>h
 |.bl _,_,_,h=>h
 |.int _,_,_,h=>h
 |.str _,_,_,h=>h
 |.obj _,_,_,h=>h
 |.tup ds,_,f,Ku=>by obtain⟨a,vs,e,t,r⟩:=Ku;exact⟨a,vs,e,t,ao.flat (by simpa[D.flat] using f) r⟩
 |.lst ds,_,f,_=>by simp[D.flat]at f
 |.dT ks ds,_,f,_=>by simp[D.flat]at f
 |.dK ks ds,_,f,_=>by simp[D.flat]at f
 |.sT ts,_,f,_=>by simp[D.flat]at f
 |.ob φ,_,f,_=>by simp[D.flat]at f
theorem ao.flat:∀{ds:List D} {vs:List V},D.bP ds=true->ao P w W H ds vs->ao P w W' H ds vs
 |[],_,_,h=>h
 |d::ds,_,f,Kt=>by
  obtain⟨v,r,e,h1,h2⟩:=Kt;have f':(d.flat&&D.bP ds)=true:=f;rw[ZI]at f';exact⟨v,r,e,aF.flat f'.1 h1,ao.flat f'.2 h2⟩
end
theorem aF.same (s:aD H H'){d:D}{v:V}(h:aF P w W H d v):aF P w W H' d v:=h.keep s.kp
theorem ao.same (s:aD H H'){ds:List D}{vs:List V}(h:ao P w W H ds vs):ao P w W H' ds vs:=h.keep s.kp
theorem ao.length:∀{ds:List D} {vs:List V},ao P w W H ds vs->vs.length=ds.length
 |[],_,h=>by rw[show _=[] from h];rfl
 |d::ds,_,Ks=>by obtain⟨v,r,e,h1,h2⟩:=Ks;rw[e,Zc,Zc,ao.length h2]
theorem ao.get:∀{ds:List D} {vs:List V} {i:Nat} {d:D},ao P w W H ds vs->ds[i]?=some d->∃v,vs[i]?=some v/\aF P w W H d v
 |[],_,_,_,_,e=>by simp at e
 |d::ds,_,0,_,Kr,e'=>by obtain⟨v,r,e,h1,h2⟩:=Kr;simp at e';subst e' e;exact⟨v,by simp,h1⟩
 |d::ds,_,i+1,_,Kq,e'=>by
  obtain⟨v,r,e,h1,h2⟩:=Kq;subst e;obtain⟨u,e1,e2⟩:=ao.get (i:=i) h2 (by simpa using e')
  exact⟨u,by simpa using e1,e2⟩
theorem ao.append:∀{ds ds':List D} {vs vs':List V},ao P w W H ds vs->ao P w W H ds' vs'->ao P w W H (ds++ds') (vs++vs')
 |[],_,_,_,h,h'=>by rw[show _=[] from h];exact h'
 |d::ds,_,_,_,Ko,h'=>by obtain⟨v,r,e,h1,h2⟩:=Ko;subst e;exact⟨v,_,rfl,h1,ao.append h2 h'⟩
theorem ao.one {d:D}{v:V}(h:aF P w W H d v):ao P w W H [d] [v]:=⟨v,[],rfl,h,rfl⟩
theorem ao.take:∀{ds:List D} {vs:List V} (n:Nat),ao P w W H ds vs->ao P w W H (ds.take n) (vs.take n)
 |[],_,n,h=>by rw[show _=[] from h];simp[ao]
 |d::ds,_,0,_=>by simp[ao]
 |d::ds,_,n+1,Kn=>by obtain⟨v,r,e,h1,h2⟩:=Kn;subst e;exact⟨v,_,rfl,h1,ao.take n h2⟩
theorem ao.drop:∀{ds:List D} {vs:List V} (n:Nat),ao P w W H ds vs->ao P w W H (ds.drop n) (vs.drop n)
 |[],_,n,h=>by rw[show _=[] from h];simp[ao]
 |d::ds,_,0,h=>h
 |d::ds,_,n+1,Km=>by obtain⟨v,r,e,h1,h2⟩:=Km;subst e;exact ao.drop n h2
end
open PySem.SeqAt
abbrev Dm (W:Addr->Prop)(H:Hp):Prop:=∀a,W a->H a≠none
abbrev Rp (X:Cx)(W:Addr->Prop)(H:Hp)(d:D)(v:V):Prop:=aF X.prog X.w W H d v
abbrev oN (X:Cx)(W:Addr->Prop)(H:Hp)(ds:List D)(vs:List V):Prop:=ao X.prog X.w W H ds vs
def UJ (X:Cx)(f:D->Option D):V->Hp->VK->Prop:=λx H Q=>∃W d1 d,Dm W H/\Rp X W H d1 x/\f d1=some d/\∀v H',aD H H'->Rp X W H' d v->Q v H'
def UI (X:Cx)(f:D->D->Option D):R2:=λx y H Q=>∃W d1 d2 d,Dm W H/\Rp X W H d1 x/\Rp X W H d2 y/\f d1 d2=some d/\∀v H',aD H H'->Rp X W H' d v->Q v H'
def Wo (X:Cx)(f:List D->Option D):List V->Hp->VK->Prop:=λxs H Q=>∃W ds d,Dm W H/\oN X W H ds xs/\f ds=some d/\∀v H',aD H H'->Rp X W H' d v->Q v H'
abbrev bf (X:Cx)(f:YU->YU->Sem YU)(g:D->D->Option D):Prop:=ik X f (UI X g)
abbrev a_ (X:Cx)(f:YU)(g:List D->Option D):Prop:=gk X f (Wo X g)
section
variable {X:Cx}{W:Addr->Prop}{H:Hp}
theorem xY {p:Addr}(d:Dm W H)(n:H p=none):¬ W p:=λz=>d p z n
theorem Rp.iO {p:Addr}{vs:List V}{ds:List D}(d:Dm W H)(n:H p=none)(r:oN X W H ds vs):Rp X W (upd H p (.lst vs)) (.lst ds) (.ref p) :=
 ⟨p,vs,rfl,aE,xY d n,r.same (aD.new n)⟩
theorem Rp.IF {p:Addr}{vs:List V}{ds:List D}(n:H p=none)(r:oN X W H ds vs):Rp X W (upd H p (.tup vs)) (.tup ds) (.ref p) :=
 ⟨p,vs,rfl,aE,r.same (aD.new n)⟩
theorem oN.nil:oN X W H [] []:=rfl
theorem oN.cons {d:D}{ds:List D}{v:V}{vs:List V}(h:Rp X W H d v)(r:oN X W H ds vs):oN X W H (d::ds) (v::vs):=⟨v,vs,rfl,h,r⟩
end
def D.Ki:D->Option Int
 |.int i=>some i
 |_=>none
def D.Kh:D->Option (List D)
 |.lst a=>some a
 |_=>none
def D.Kg:D->Option (List D)
 |.tup a=>some a
 |_=>none
def D.Eu:D->Bool
 |.b_=>true
 |_=>false
theorem D.jE {d:D}{i:Int}(h:d.Ki=some i):d=.int i:=by cases d <;> first|(cases h;rfl)|cases h
theorem D.nG {d:D}{i:List D}(h:d.Kh=some i):d=.lst i:=by cases d <;> first|(cases h;rfl)|cases h
theorem D.nF {d:D}{i:List D}(h:d.Kg=some i):d=.tup i:=by cases d <;> first|(cases h;rfl)|cases h
theorem D.uf {d:D}(h:d.Eu=true):d=.b_:=by cases d <;> first|rfl|cases h
theorem D.F8 {d:D}:d=.b_↔d.Eu=true:=⟨λe=>by rw[e];rfl,D.uf⟩
def kM (f:Int->Int->Option D)(a b:D):Option D:=match a.Ki,b.Ki with
 |some i,some j=>f i j
 |_,_=>none
theorem kL {f:Int->Int->Option D}{a b d:D}(h:kM f a b=some d):∃i j,a=.int i/\b=.int j/\f i j=some d:=by
 unfold kM at h;cases ha:a.Ki with
 |none=>rw[ha]at h;cases h
 |some i =>
  cases hb:b.Ki with
  |none=>rw[ha,hb]at h;cases h
  |some j=>rw[ha,hb]at h;exact⟨i,j,D.jE ha,D.jE hb,h⟩
def J0 (f:D->D->Option D)(g:List D->List D->Option D)(a b:D):Option D:=match a.Kh,b.Kh with
 |some i,some j=>g i j
 |_,_=>f a b
theorem zK {f:D->D->Option D}{g:List D->List D->Option D}{a b d:D}(h:J0 f g a b=some d):(∃i j,a=.lst i/\b=.lst j/\g i j=some d)\/f a b=some d:=by
 unfold J0 at h;cases ha:a.Kh with
 |none=>rw[ha]at h;exact .inr h
 |some i =>
  cases hb:b.Kh with
  |none=>rw[ha,hb]at h;exact .inr h
  |some j=>rw[ha,hb]at h;exact .inl ⟨i,j,D.nG ha,D.nG hb,h⟩
def ph:D->D->Option D:=J0 (kM λi j=>some (.int (i+j))) λa b=>if a.length+b.length<=Zf then some (.lst (a++b)) else none
def T3:D->D->Option D:=kM λi j=>some (.int (i-j))
instance (i j:Int):Decidable (vo i j):=by unfold vo;infer_instance
instance (i j:Int):Decidable (Er i j):=by unfold Er;infer_instance
def Lk:D->D->Option D:=kM λi j=>if vo i j then some (.int (i*j)) else none
def Oy:D->D->Option D:=kM λi j=>if 0<j then some (.int (i % j)) else none
def OB:D->D->Option D:=kM λi j=>if 0<j/\j<2 ^ 200 then some (.int (i / j)) else none
def Ov:D->D->Option D:=kM λi j=>if Er i j then some (.int (i ^ j.toNat)) else none
def T4:D->Option D
 |.int i=>some (.int (-i))
 |_=>none
section
variable {X:Cx}
theorem cb {c:Prop}[Decidable c]{α:Type}{a b:α}(h:(if c then some a else none)=some b):c/\b=a:=by
 by_cases hc:c
 ·rw[if_pos hc]at h;cases h;exact⟨hc,rfl⟩
 ·rw[if_neg hc]at h;cases h
theorem pQ {f:YU->YU->Sem YU}{C:Int->Int->Prop}{g:Int->Int->V}{h:Int->Int->D}{F:Int->Int->Option D}(ho:ik X f (rI C g))(hF:∀i j d,F i j=some d->C i j/\d=h i j)
  (hg:∀(W:Addr->Prop) (H:Hp) i j,Rp X W H (h i j) (g i j)):bf X f (kM F):=by
 intro pins s σ H x y v u Q I rx ry hh;obtain⟨W,d1,d2,d,hd,r1,r2,e,q⟩:=hh;obtain⟨i,j,rfl,rfl,e⟩:=kL e;obtain⟨c,rfl⟩:=hF _ _ _ e;cases r1;cases r2;exact ho pins s σ H _ _ v u Q I rx ry ⟨i,j,rfl,rfl,c,q _ _ (aD.refl _) (hg W H i j)⟩
theorem BY {f:YU->YU->Sem YU}{g:Int->Int->V}{h:Int->Int->D}(ho:ik X f (Bi g))
  (hg:∀(W:Addr->Prop) (H:Hp) i j,Rp X W H (h i j) (g i j)):bf X f (kM λi j=>some (h i j)):=by
 intro pins s σ H x y v u Q I rx ry hh;obtain⟨W,d1,d2,d,hd,r1,r2,e,q⟩:=hh;obtain⟨i,j,rfl,rfl,e⟩:=kL e;cases e;cases r1;cases r2;exact ho pins s σ H _ _ v u Q I rx ry ⟨i,j,rfl,rfl,q _ _ (aD.refl _) (hg W H i j)⟩
theorem rg:bf X (aas .Sub) T3:=BY (h:=λi j=>.int (i-j)) Jw λ_ _ _ _=>rfl
theorem jt:bf X (aas .Mult) Lk:=pQ (h:=λi j=>.int (i*j)) Jz (λ_ _ _ e=>cb e) λ_ _ _ _=>rfl
theorem h9:bf X (aas .Mod) Oy:=pQ (h:=λi j=>.int (i % j)) JA (λ_ _ _ e=>cb e) λ_ _ _ _=>rfl
theorem FF:bf X (aas .FloorDiv) OB:=pQ (h:=λi j=>.int (i / j)) BV (λ_ _ _ e=>let ⟨c,e⟩:=cb e;⟨yS.of c.1 c.2,e⟩) λ_ _ _ _=>rfl
theorem rh:bf X (aas .Pow) Ov:=pQ (h:=λi j=>.int (i ^ j.toNat)) BU (λ_ _ _ e=>cb e) λ_ _ _ _=>rfl
theorem xj:OL X (unaryOp .USub) (UJ X T4):=by
 intro pins s σ H x v Q I rx h;obtain⟨W,d1,d,hd,r1,e,q⟩:=h;cases d1 with
 |int i=>cases e;cases r1;exact AO pins s σ H _ v Q I rx ⟨i,rfl,q _ _ (aD.refl _) rfl⟩
 |_=>cases e
end
def wU (p:Int->Int->Bool):D->D->Option D:=kM λi j=>some (.bl (p i j))
abbrev Ma:D->D->Option D:=wU λi j=>decide (i<j)
abbrev T5:D->D->Option D:=wU λi j=>decide (i<=j)
abbrev X6:D->D->Option D:=wU λi j=>decide (j<i)
abbrev X7:D->D->Option D:=wU λi j=>decide (j<=i)
section
variable {X:Cx}
theorem jw {p:Int->Int->Bool}{f:YU->YU->Sem YU}(ho:ik X f (Bi λi j=>.bl (p i j))):bf X f (wU p):=BY (h:=λi j=>.bl (p i j)) ho λ_ _ _ _=>rfl
theorem bw:bf X (ZR .Lt) Ma:=jw M0
theorem mZ:bf X (ZR .LtE) T5:=jw Hv
theorem km:bf X (ZR .Gt) X6:=jw M1
theorem JC:bf X (ZR .GtE) X7:=jw M3
end
mutual
def D.pd:D->PyData
 |.b_=>.none
 |.bl b=>.bool b
 |.int i=>.int i
 |.str x=>.str x
 |.tup ds=>.tuple (D.gw ds)
 |.lst ds=>.list (D.gw ds)
 |_=>.dict []
def D.gw:List D->List PyData
 |[]=>[]
 |d::ds=>d.pd::D.gw ds
end
abbrev D.iB (d:D):Bool:=shaped d.pd
mutual
theorem bH {X:Cx}{pins:List (Addr×Obj)}{σ:St}{H:Hp}{s:YW}(I:Inv X pins σ H s){W:Addr->Prop}:∀{d:D} {v:V} {u:YU},Rp X W H d v->RelV v u->d.pd.canLay0=true->∃as,Reads s.heap u d.pd as
 |.b_,_,_,h,r,_=>by cases h;cases r;exact⟨_,.none⟩
 |.bl b,_,_,h,r,_=>by cases h;cases r;exact⟨_,.bool b⟩
 |.int i,_,_,h,r,_=>by cases h;obtain⟨t,rfl⟩:=r;exact⟨_,.int i t⟩
 |.str x,_,_,h,r,_=>by cases h;obtain⟨t,rfl⟩:=r;exact⟨_,.str x t⟩
 |.tup ds,_,_,h,r,c=>by
  obtain⟨a,vs,rfl,e,q⟩:=h;cases r;obtain⟨its,rv,⟨o,ho,hc,n,hd⟩,hz⟩:=I.tuple (su.of e);obtain⟨as,ha⟩:=gE I q rv (by simpa[D.pd,Z9] using c)
  exact⟨_,.tuple ho hc hd (by simpa using ha)⟩
 |.lst ds,_,_,h,r,c=>by
  obtain⟨a,vs,rfl,e,_,q⟩:=h;cases r;obtain⟨z,its,n,rv,e'⟩:=I.bu a _ e;obtain⟨as,ha⟩:=gE I q rv (by simpa[D.pd,Z9] using c)
  exact⟨_,.list e' rfl rfl (by simpa using ha)⟩
 |.obj _,_,_,_,_,c=>by simp[D.pd,Z9]at c
 |.dT _ _,_,_,_,_,c=>by simp[D.pd,Z9]at c
 |.dK _ _,_,_,_,_,c=>by simp[D.pd,Z9]at c
 |.sT _,_,_,_,_,c=>by simp[D.pd,Z9]at c
 |.ob _,_,_,_,_,c=>by simp[D.pd,Z9]at c
theorem gE {X:Cx}{pins:List (Addr×Obj)}{σ:St}{H:Hp}{s:YW}(I:Inv X pins σ H s){W:Addr->Prop}:∀{ds:List D} {vs:List V} {us:List YU},oN X W H ds vs->Vals vs us->aa3 (D.gw ds)=true->∃as,ReadsAll s.heap us (D.gw ds) as
 |[],_,_,h,r,_=>by
  rw[show _=[] from h]at r
  cases r;exact⟨_,.nil⟩
 |d::ds,_,_,lO,r,c=>by
  obtain⟨v,vr,e,h1,h2⟩:=lO;subst e;have c':(d.pd.canLay0&&aa3 (D.gw ds))=true:=c;rw[ZI]at c';cases r with
  |cons r1 r2 =>
   obtain⟨as,ha⟩:=bH I h1 r1 c'.1;obtain⟨bs,hb⟩:=gE I h2 r2 c'.2;exact⟨_,.cons ha hb⟩
end
def yF (a b:D):Option D:=if a.iB=true/\b.iB=true then some (.bl (Z2 a.pd b.pd)) else none
def oK (a b:D):Option D:=if a.iB=true/\b.iB=true then some (.bl (!Z2 a.pd b.pd)) else none
section
variable {X:Cx}
theorem cI (hu:X.A.units+64<abk):bf X (ZR .Eq) yF:=by
 intro pins s σ H x y v u Q I rx ry h;obtain⟨W,d1,d2,d,hd,r1,r2,e,q⟩:=h;obtain⟨⟨s1,s2⟩,rfl⟩:=cb e;obtain⟨as,ra⟩:=bH I r1 rx (ZS s1);obtain⟨bs,rb⟩:=bH I r2 ry (ZS s2);exact compareEq_shaped ra rb s1 s2 hu ⟨.bl _,H,I,rfl,q _ _ (aD.refl _) rfl⟩
theorem bD (hu:X.A.units+64<abk):bf X (ZR .NotEq) oK:=by
 intro pins s σ H x y v u Q I rx ry h;obtain⟨W,d1,d2,d,hd,r1,r2,e,q⟩:=h;obtain⟨⟨s1,s2⟩,rfl⟩:=cb e;obtain⟨as,ra⟩:=bH I r1 rx (ZS s1);obtain⟨bs,rb⟩:=bH I r2 ry (ZS s2);exact compareNe_shaped ra rb s1 s2 hu ⟨.bl _,H,I,rfl,q _ _ (aD.refl _) rfl⟩
def T6 (a b:D):Option D:=match b.Eu with
 |true=>some (.bl a.Eu)
 |false=>none
def Ox (a b:D):Option D:=match b.Eu with
 |true=>some (.bl (!a.Eu))
 |false=>none
theorem Rp.FT {W:Addr->Prop}{H:Hp}{d:D}{v:V}(h:Rp X W H d v):v=.b_↔d=.b_:=by
 cases d with
 |b_=>cases h;simp
 |bl b=>cases h;simp
 |int i=>cases h;simp
 |str x=>cases h;simp
 |obj a=>cases h;simp
 |tup ds=>obtain⟨a,vs,rfl,_⟩:=h;simp
 |lst ds=>obtain⟨a,vs,rfl,_⟩:=h;simp
 |dT ks ds=>obtain⟨a,vs,rfl,_⟩:=h;simp
 |dK ks ds=>obtain⟨a,vs,rfl,_⟩:=h;simp
 |sT ts=>obtain⟨a,rfl,_⟩:=h;simp
 |ob φ=>obtain⟨a,rfl,_⟩:=h;simp
theorem ug {b d e:D}(h:(match b.Eu with|true=>some d|false=>none)=some e):b=.b_/\e=d:=by
 cases q:b.Eu with
 |true=>rw[q]at h;cases h;exact⟨D.uf q,rfl⟩
 |false=>rw[q]at h;cases h
theorem Rp.xX {W:Addr->Prop}{H:Hp}{d:D}{v:V}(h:Rp X W H d v):decide (v=.b_)=d.Eu:=by
 have q:=h.FT.trans D.F8;cases e:d.Eu with
 |true=>exact decide_eq_true (q.mpr e)
 |false=>exact decide_eq_false λz=>by rw[q.mp z]at e;cases e
theorem ju:bf X (ZR .Is) T6:=by
 intro pins s σ H x y v u Q I rx ry h;obtain⟨W,d1,d2,d,hd,r1,r2,e,q⟩:=h;obtain⟨rfl,rfl⟩:=ug e;cases r2;exact JB pins s σ H _ _ v u Q I rx ry ⟨rfl,q _ _ (aD.refl _) (congrArg V.bl r1.xX)⟩
theorem BX:bf X (ZR .IsNot) Ox:=by
 intro pins s σ H x y v u Q I rx ry h;obtain⟨W,d1,d2,d,hd,r1,r2,e,q⟩:=h;obtain⟨rfl,rfl⟩:=ug e;cases r2;exact Fz pins s σ H _ _ v u Q I rx ry ⟨rfl,q _ _ (aD.refl _) (congrArg (λb=>V.bl (!b)) r1.xX)⟩
end
noncomputable def DH:D->D->Option Bool
 |a,.lst ds=>if a.iB=true/\(D.lst ds).iB=true then some ((D.gw ds).any λy=>Z2 y a.pd) else none
 |a,.tup ds=>if a.iB=true/\(D.tup ds).iB=true then some ((D.gw ds).any λy=>Z2 y a.pd) else none
 |_,_=>none
def Pw (a b:D):Option D:=(DH a b).map .bl
def om (a b:D):Option D:=(DH a b).map λc=>.bl (!c)
theorem lX {ds:List D}{n:PyData}(hn:n=.list (D.gw ds)\/n=.tuple (D.gw ds))(h:shaped n=true):aa3 (D.gw ds)=true/\aaf (D.gw ds)<=64:=by
 have h1:=ZS h;have h2:=depth_of_shaped h;rcases hn with rfl|rfl
 ·refine⟨by simpa[Z9] using h1,?_⟩
  have:aax (.list (D.gw ds))=aaf (D.gw ds)+1:=by simp[aax]
  lia
 ·refine⟨by simpa[Z9] using h1,?_⟩
  have:aax (.tuple (D.gw ds))=aaf (D.gw ds)+1:=by simp[aax]
  lia
section
variable {X:Cx}
theorem m7 (hu:X.A.units+64+1<abk):bf X (ZR .In) Pw:=by
 intro pins s σ H x y v u Q I rx ry h;obtain⟨W,d1,d2,d,hd,r1,r2,e,q⟩:=h;cases d2 with
 |lst ds =>
  obtain⟨b,e1,rfl⟩:=Zn.mp e;obtain⟨⟨s1,s2⟩,rfl⟩:=cb e1;obtain⟨as,ra⟩:=bH I r1 rx (ZS s1);obtain⟨bs,rb⟩:=bH I r2 ry (ZS s2);obtain⟨c1,c2⟩:=lX (.inl rfl) s2;exact in_list_reads rb ra c1 (ZS s1) (by have:=Nat.min_le_left (aaf (D.gw ds)) d1.pd.depth;lia) ⟨.bl _,H,I,rfl,q _ _ (aD.refl _) rfl⟩
 |tup ds =>
  obtain⟨b,e1,rfl⟩:=Zn.mp e;obtain⟨⟨s1,s2⟩,rfl⟩:=cb e1;obtain⟨as,ra⟩:=bH I r1 rx (ZS s1);obtain⟨bs,rb⟩:=bH I r2 ry (ZS s2);obtain⟨c1,c2⟩:=lX (.inr rfl) s2;exact in_tuple_reads rb ra c1 (ZS s1) (by have:=Nat.min_le_left (aaf (D.gw ds)) d1.pd.depth;lia) ⟨.bl _,H,I,rfl,q _ _ (aD.refl _) rfl⟩
 |_=>cases e
theorem pP (hu:X.A.units+64+1<abk):bf X (ZR .NotIn) om:=by
 intro pins s σ H x y v u Q I rx ry h;obtain⟨W,d1,d2,d,hd,r1,r2,e,q⟩:=h;cases d2 with
 |lst ds =>
  obtain⟨b,e1,rfl⟩:=Zn.mp e;obtain⟨⟨s1,s2⟩,rfl⟩:=cb e1;obtain⟨as,ra⟩:=bH I r1 rx (ZS s1);obtain⟨bs,rb⟩:=bH I r2 ry (ZS s2);obtain⟨c1,c2⟩:=lX (.inl rfl) s2;exact notIn_list_reads rb ra c1 (ZS s1) (by have:=Nat.min_le_left (aaf (D.gw ds)) d1.pd.depth;lia) ⟨.bl _,H,I,rfl,q _ _ (aD.refl _) rfl⟩
 |tup ds =>
  obtain⟨b,e1,rfl⟩:=Zn.mp e;obtain⟨⟨s1,s2⟩,rfl⟩:=cb e1;obtain⟨as,ra⟩:=bH I r1 rx (ZS s1);obtain⟨bs,rb⟩:=bH I r2 ry (ZS s2);obtain⟨c1,c2⟩:=lX (.inr rfl) s2;exact notIn_tuple_reads rb ra c1 (ZS s1) (by have:=Nat.min_le_left (aaf (D.gw ds)) d1.pd.depth;lia) ⟨.bl _,H,I,rfl,q _ _ (aD.refl _) rfl⟩
 |_=>cases e
def yD (a b:D):Option D:=match b.Ki with
 |some i=>match a.Kh with
  |some ds=>l6 ds i
  |none=>match a.Kg with
   |some ds=>l6 ds i
   |none=>none
 |none=>none
theorem DE {a b d:D}(h:yD a b=some d):∃ds i,(a=.lst ds\/a=.tup ds)/\b=.int i/\l6 ds i=some d:=by
 unfold yD at h;cases hb:b.Ki with
 |none=>rw[hb]at h;cases h
 |some i =>
  rw[hb]at h;cases ha:a.Kh with
  |some ds=>rw[ha]at h;exact⟨ds,i,.inl (D.nG ha),D.jE hb,h⟩
  |none =>
   rw[ha]at h;cases ht:a.Kg with
   |some ds=>rw[ht]at h;exact⟨ds,i,.inr (D.nF ht),D.jE hb,h⟩
   |none=>rw[ht]at h;cases h
theorem oN.l6 {W:Addr->Prop}{H:Hp}{ds:List D}{vs:List V}{i:Int}{d:D}(h:oN X W H ds vs)(e:L2.l6 ds i=some d):∃v,L2.l6 vs i=some v/\Rp X W H d v:=by
 unfold L2.l6 at *
 rw[h.length];cases q:ud ds.length i with
 |none=>rw[q]at e;cases e
 |some j =>
  rw[q]at e;exact ao.get h e
theorem Kb:Hc X (UI X yD):=by
 intro value slice pins s σ H x y v u Q I rx ry h hs;obtain⟨W,d1,d2,d,hd,r1,r2,e,q⟩:=h;obtain⟨ds,i,h,rfl,e⟩:=DE e;cases r2;rcases h with rfl|rfl
 ·obtain⟨p,vs,rfl,h1,n1,q1⟩:=r1;obtain⟨z,hz,rz⟩:=oN.l6 (X:=X) q1 e;exact yd value slice pins s σ H _ _ v u Q I rx ry ⟨p,vs,i,z,rfl,rfl,dC.of h1,hz,q _ _ (aD.refl _) rz⟩ hs
 ·obtain⟨p,vs,rfl,h1,q1⟩:=r1;obtain⟨z,hz,rz⟩:=oN.l6 (X:=X) q1 e;exact CK value slice pins s σ H _ _ v u Q I rx ry ⟨p,vs,i,z,rfl,rfl,su.of h1,hz,q _ _ (aD.refl _) rz⟩ hs
def cutD (xs:List D)(lo hi:Option Int):List D:=(xs.drop (HT.mM xs.length 0 lo)).take (HT.mM xs.length xs.length hi-HT.mM xs.length 0 lo)
def Pt:D->Option Int->Option Int->Option D
 |.lst ds,lo,hi=>some (.lst (cutD ds lo hi))
 |_,_,_=>none
def GI:List D->Option D
 |[.lst ds]=>some (.int ds.length)
 |[.tup ds]=>some (.int ds.length)
 |_=>none
theorem dc:a_ X (.builtin "len") GI:=by
 intro pins s σ H xs us Q I r h;obtain⟨W,ds,d,hd,r1,e,q⟩:=h
 match ds,e with
 |[.lst es],e =>
  cases e;obtain⟨v,r',rfl,⟨p,vs,rfl,h1,n1,q1⟩,hr⟩:=r1;cases hr;refine jQ pins s σ H _ us Q I r ⟨p,vs,rfl,.inl (dC.of h1),?_⟩;rw[q1.length];exact q _ _ (aD.refl _) rfl
 |[.tup es],e =>
  cases e;obtain⟨v,r',rfl,⟨p,vs,rfl,h1,q1⟩,hr⟩:=r1;cases hr;refine jQ pins s σ H _ us Q I r ⟨p,vs,rfl,.inr (su.of h1),?_⟩;rw[q1.length];exact q _ _ (aD.refl _) rfl
def dList:List D->Option D
 |[.lst ds]=>some (.lst ds)
 |[.tup ds]=>some (.lst ds)
 |_=>none
def Ia:List D->Option D
 |[.int i,.int j]=>some (.int (if j>i then j else i))
 |_=>none
def H_:List D->Option D
 |[.int i,.int j]=>some (.int (if j<i then j else i))
 |_=>none
theorem Ik {W:Addr->Prop}{H:Hp}{a b:D}{xs:List V}(h:oN X W H [a,b] xs):∃x y,xs=[x,y]/\Rp X W H a x/\Rp X W H b y:=by
 obtain⟨x,r,rfl,hx,y,r',rfl,hy,hr⟩:=h;cases hr;exact⟨x,y,rfl,hx,hy⟩
theorem qG {W:Addr->Prop}{H:Hp}{a:D}{xs:List V}(h:oN X W H [a] xs):∃x,xs=[x]/\Rp X W H a x:=by
 obtain⟨x,r,rfl,hx,hr⟩:=h;cases hr;exact⟨x,rfl,hx⟩
theorem f_ (hc:X.calm=true):a_ X (.builtin "max") Ia:=by
 intro pins s σ H xs us Q I r h;obtain⟨W,ds,d,hd,r1,e,q⟩:=h
 match ds,e with
 |[.int i,.int j],e =>
  cases e;obtain⟨x,y,rfl,hx,hy⟩:=Ik r1;cases hx;cases hy;exact An hc pins s σ H _ us Q I r ⟨i,j,rfl,q _ _ (aD.refl _) rfl⟩
theorem eU (hc:X.calm=true):a_ X (.builtin "min") H_:=by
 intro pins s σ H xs us Q I r h;obtain⟨W,ds,d,hd,r1,e,q⟩:=h
 match ds,e with
 |[.int i,.int j],e =>
  cases e;obtain⟨x,y,rfl,hx,hy⟩:=Ik r1;cases hx;cases hy;exact Am hc pins s σ H _ us Q I r ⟨i,j,rfl,q _ _ (aD.refl _) rfl⟩
end
theorem PE.pre {X:Cx}{e:Expr}{t t':TE}(h:PE X e t)(k:∀σ H Q,t' σ H Q->t σ H Q):PE X e t':=λpins s σ H Q I q=>h pins s σ H Q I (k σ H Q q)
theorem PT.pre {X:Cx}{e:Expr}{t t':TT}(h:PT X e t)(k:∀σ H Q,t' σ H Q->t σ H Q):PT X e t':=λpins s σ H Q I q=>h pins s σ H Q I (k σ H Q q)
theorem PA.pre {X:Cx}{es:List Expr}{t t':TA}(h:PA X es t)(k:∀σ H Q,t' σ H Q->t σ H Q):PA X es t':=λpos pins s σ H Q I q=>h pos pins s σ H Q I (k σ H Q q)
section
variable {X:Cx}{e:Expr}{σ:St}{H:Hp}
theorem PW.pre {t t':TT}(h:PW X e t)(k:∀σ H Q,t' σ H Q->t σ H Q):PW X e t':=λw pins s σ H Q I q=>h w pins s σ H Q I (k σ H Q q)
end
abbrev FD:=List D->(D->Prop)->Prop
def cN (F:FD):Prop:=∀ds R R',(∀d,R d->R' d)->F ds R->F ds R'
section
end
section
variable {X:Cx}{e:Expr}{pos:Pos}{σ:St}{H:Hp}
theorem Ip.pre {ops:List abT}{rs:List Expr}{t t':V->TE}(h:Ip X ops rs t)(k:∀x σ H Q,t' x σ H Q->t x σ H Q):Ip X ops rs t':=λpos pins s σ H x v Q I r q=>h pos pins s σ H x v Q I r (k x σ H Q q)
theorem vm.pre {ops:List abT}{rs:List Expr}{t t':V->TT}(h:vm X ops rs t)(k:∀x σ H Q,t' x σ H Q->t x σ H Q):vm X ops rs t':=λpos pins s σ H x v Q I r q=>h pos pins s σ H x v Q I r (k x σ H Q q)
theorem PO.pre {e:Option Expr}{t t':TO}(h:PO X e t)(k:∀σ H Q,t' σ H Q->t σ H Q):PO X e t':=λpins s σ H Q I q=>h pins s σ H Q I (k σ H Q q)
end
abbrev NF:D->Prop:=λd=>d.flat=true
section
abbrev NL:D->Prop:=λd=>match d with | .lst ds=>D.bP ds=true|d=>d.flat=true
end
section
variable {P:Y0}{w:Zd}{W W':Addr->Prop}{H:Hp}
mutual
theorem aF.grow (s:∀a,W' a->W a\/H a=none):∀{d:D} {v:V},aF P w W H d v->aF P w W' H d v
 |.b_,_,h=>h
 |.bl _,_,h=>h
 |.int _,_,h=>h
 |.str _,_,h=>h
 |.obj _,_,h=>h
 |.tup ds,_,lO=>by obtain⟨a,vs,e,t,r⟩:=lO;exact⟨a,vs,e,t,ao.grow s r⟩
 |.lst ds,_,CU=>by obtain⟨a,vs,e,t,n,r⟩:=CU;exact⟨a,vs,e,t,λz=>(s a z).elim n λq=>(by rw[t]at q;cases q),ao.grow s r⟩
 |.dT ks ds,_,CT=>by obtain⟨a,vs,e,t,l,n,r⟩:=CT;exact⟨a,vs,e,t,l,λz=>(s a z).elim n λq=>(by rw[t]at q;cases q),ao.grow s r⟩
 |.dK ks ds,_,Gb=>by obtain⟨a,vs,e,t,l,n,r⟩:=Gb;exact⟨a,vs,e,t,l,λz=>(s a z).elim n λq=>(by rw[t]at q;cases q),ao.grow s r⟩
 |.sT ts,_,Kl=>by obtain⟨a,e,⟨bF,t,r,z⟩,n⟩:=Kl;exact⟨a,e,⟨bF,t,r,z⟩,λz=>(s a z).elim n λq=>(by rw[t]at q;cases q)⟩
 |.ob φ,_,NJ=>by obtain⟨a,e,⟨t,z⟩,n⟩:=NJ;exact⟨a,e,⟨t,z⟩,λz=>(s a z).elim n λq=>(by rw[t]at q;cases q)⟩
theorem ao.grow (s:∀a,W' a->W a\/H a=none):∀{ds:List D} {vs:List V},ao P w W H ds vs->ao P w W' H ds vs
 |[],_,h=>h
 |d::ds,_,NH=>by obtain⟨v,r,e,h1,h2⟩:=NH;exact⟨v,r,e,aF.grow s h1,ao.grow s h2⟩
end
end
def Ye (X:Cx)(W:Addr->Prop)(J:It)(ds:List D)(H0:Hp):Prop:=∀(i:Nat) (H:Hp),Kp W H0 H ->
 (∀d,ds[i]?=some d->J.go i H/\∀x H1,J.Mi i H x H1->aD H H1/\Rp X W H1 d x)/\(ds.length<=i->J.stop i H)
def EG (X:Cx)(W:Addr->Prop)(J:It)(ds:List D)(H0:Hp):Prop:=∀W':Addr->Prop,(∀b,W' b->W b\/H0 b=none)->Ye X W' J ds H0
section
variable {X:Cx}{tg e:Expr}
theorem PI.pre {iter:Expr}{t t':TI}(h:PI X tg iter t)(k:∀σ H R,t' σ H R->t σ H R):PI X tg iter t':=λpins s σ H R I q=>h pins s σ H R I (k σ H R q)
theorem ue {W:Addr->Prop}{H:Hp}{p:Addr}{vs:List V}{ds:List D}(h1:H p=some (.lst vs))(n1:¬ W p)(q1:oN X W H ds vs):EG X W (PM X.K p) ds H:=λW' hW i H' k=>by
 have h2:=k.out p _ h1 λz=>(hW p z).elim n1 λq=>by rw[h1]at q;cases q
 replace q1:=ao.grow hW q1;constructor
 ·intro d hd;obtain⟨v,hv,rv⟩:=ao.get q1 hd;refine⟨⟨vs,v,dC.of h2,hv⟩,λx H1 y=>?_⟩;obtain⟨rfl,y⟩:=y;have e:=y vs (dC.of h2);rw[hv]at e;cases e;exact⟨aD.refl _,rv.keep k⟩
 ·intro hl;exact⟨vs,dC.of h2,by rw[q1.length];exact hl⟩
def qW (lo:Int)(n:Nat):List D:=(Zi n).map λ(k:Nat)=>D.int (lo+(k:Int))
theorem zQ {W:Addr->Prop}{H:Hp}{lo:Int}{n:Nat}:EG X W (PL lo n) (qW lo n) H:=λ_ _ i H' k=>by
 constructor
 ·intro d hd;unfold qW at hd;rw[Zj]at hd;have hi:i<n:=by
   by_cases h:i<n
   ·exact h
   ·rw[aao (by simpa using h)]at hd;cases hd
  rw[ab3 hi]at hd;cases hd;refine⟨hi,λx H1 y=>?_⟩;obtain⟨rfl,rfl⟩:=y;exact⟨aD.refl _,rfl⟩
 ·intro hl;unfold qW at hl;rw[YX,aan]at hl;exact hl
end
section
variable {X:Cx}{tg:Expr}{r_:List Expr}
theorem PG.pre {t t':TG}(h:PG X tg t)(k:∀v σ H Q,t' v σ H Q->t v σ H Q):PG X tg t':=λpins s σ H v u Q I r q=>h pins s σ H v u Q I r (k v σ H Q q)
theorem Ha.pre {t t':G7}(h:Ha X r_ t)(k:∀v σ H Q,t' v σ H Q->t v σ H Q):Ha X r_ t':=λpins s σ H v u Q I r q=>h pins s σ H v u Q I r (k v σ H Q q)
end
theorem nC {H:Hp}{a:Addr}{o o':HO}(h:H a=some o)(ht:∀xs,o≠.tup xs):Kp (·=a) H (upd H a o') :=
 ⟨λb u e n=>by rw[ay n];exact e,λb xs e=>by rw[ay (Na e h (λz=>ht xs z.symm))];exact e⟩
section
end
section
end
section
end
section
variable {σ:St}{β:ba}{own:Nat->List Addr}
def aY (own:Nat->List Addr)(i:Nat)(as:List Addr):Nat->List Addr:=λj=>if j=i then as else own j
theorem br {own:Nat->List Addr}{i j:Nat}{a:Addr}(h:a∈aY own i [] j):a∈own j/\j≠i:=by
 unfold aY at h
 by_cases e:j=i
 ·rw[if_pos e]at h;cases h
 ·rw[if_neg e]at h;exact⟨h,e⟩
theorem bB {α:Type}{β:List α}{i j:Nat}{x:α}(h:i≠j):(β.set i x)[j]?=β[j]?:=by rw[aa5,if_neg h]
theorem bG {α:Type}{β:List α}{i:Nat}{x y:α}(h:(β.set i x)[i]?=some y):y=x/\i<β.length:=by
 rw[aa5,if_pos rfl]at h
 by_cases hi:i<β.length
 ·rw[if_pos hi]at h;cases h;exact⟨rfl,hi⟩
 ·rw[if_neg hi]at h;cases h
theorem get_set {α:Type}{σ:List α}{i:Nat}{x:α}(h:i<σ.length):(σ.set i x)[i]?=some x:=by rw[aa5,if_pos rfl,if_pos h]
end
structure Sn (Z:Hp×(Addr->Prop))(H:Hp)(W:Addr->Prop):Prop where
 w:∀b,W b->Z.2 b\/Z.1 b=none
 k:Kp (λb=>Z.2 b\/Z.1 b=none) Z.1 H
 d:∀b,Z.1 b≠none->H b≠none
theorem Sn.refl {H:Hp}{W:Addr->Prop}:Sn (H,W) H W:=⟨λ_ z=>.inl z,Kp.refl,λ_ z=>z⟩
theorem Sn.same {Z:Hp×(Addr->Prop)}{H H':Hp}{W:Addr->Prop}(n:Sn Z H W)(s:aD H H'):Sn Z H' W:=⟨n.w,n.k.trans s.kp,λb z e=>n.d b z (s.free e)⟩
theorem Sn.free {Z:Hp×(Addr->Prop)}{H:Hp}{W:Addr->Prop}(n:Sn Z H W){a:Addr}(h:H a=none):Z.1 a=none:=by
 cases q:Z.1 a with
 |none=>rfl
 |some o=>exact absurd h (n.d a (by rw[q];intro z;cases z))
theorem Sn.upd {Z:Hp×(Addr->Prop)}{H:Hp}{W:Addr->Prop}(n:Sn Z H W){a:Addr}{o o':HO}(h:H a=some o)(ht:∀xs,o≠.tup xs)(wa:W a):Sn Z (L2.upd H a o') W :=
 ⟨n.w,n.k.trans ((nC h ht).mono λb z=>by rw[z];exact n.w a wa),λb z e=>by
  by_cases hb:b=a
  ·subst hb;rw[aE]at e;cases e
  ·rw[ay hb]at e;exact n.d b z e⟩
theorem Sn.trans {Z:Hp×(Addr->Prop)}{H1 H:Hp}{W1 W:Addr->Prop}(n1:Sn Z H1 W1)(n:Sn (H1,W1) H W):Sn Z H W:=by
 have big:∀b,W1 b\/H1 b=none->Z.2 b\/Z.1 b=none:=λb z=>z.elim (n1.w b) λq=>.inr (n1.free q);exact⟨λb z=>big b (n.w b z),n1.k.trans (n.k.mono big),λb z=>n.d b (n1.d b z)⟩
section
variable {X:Cx}{st:Stmt}{rest:List Stmt}{σ:St}{H:Hp}
theorem PS.pre {t t':TS}(h:PS X st t)(k:∀D σ H,t' D σ H->t D σ H):PS X st t':=λpins s σ H D I q=>h pins s σ H D I (k D σ H q)
theorem sv.pre {t t':TS}(h:sv X rest t)(k:∀D σ H,t' D σ H->t D σ H):sv X rest t':=λpins s σ H D I q=>h pins s σ H D I (k D σ H q)
end
section
variable {b:Expr}{H:Hp}
theorem held {P:Y0}{w:Zd}{W W2:Addr->Prop}{H2:Hp}{d:D}{v:V}(r:aF P w W H d v)(n:Sn (H,W) H2 W2):aF P w W2 H2 d v :=
 aF.bb n.w (aF.keep n.k (aF.grow (λb z=>z) r))
end
section
end
section
end
end L2
namespace LL
open PySem PySem.Spec PyProof.Rows
def lexLe:List Int->List Int->Bool
 |[],_=>true
 |_::_,[]=>false
 |x::xs,y::ys=>if x=y then lexLe xs ys else decide (x<=y)
theorem CC (x y:Int)(xs ys:List Int):lexLe (x::xs) (y::ys)=if x=y then lexLe xs ys else decide (x<=y):=rfl
theorem Cy:lexLe [] []=true:=rfl
theorem Cz (y:Int)(ys:List Int):lexLe [] (y::ys)=true:=rfl
theorem CB (x:Int)(xs:List Int):lexLe (x::xs) []=false:=rfl
theorem Bg (A:ZQ)(s:YW)(a:Int)(t:Tok)(c:Int)(u:Tok)(prog:Y0)(w:Zd)(E:YU->YW->Prop)(Q:YU->YW->Prop)(h:Q (.bool (decide (a<=c))) s):
  Zr (model prog w) A (richCompare .LtE (.int a t) (.int c u)) Q E s :=
 (PyProof.Rows.le_int h:Zr (model prog w) A (ZR .LtE (.int a t) (.int c u)) Q E s)
section
open PySem.SeqAt
open PySem.AutoSeq1 (wpAny_loadPart')
open PySem.MeetsSeq PySem.MeetsSeq2 PySem.MeetsSeq3
theorem oQ (l b:Addr)(items cU:Array YU)(n n2:Nat)(dd T1:Option Addr)(sl Qo:Array (Option YU))(ns ms:List Int)(hi:aaE items.toList ns)(hj:aaE cU.toList ms):
  Meets (aaz.«tuple.__le__» ⟨[.ref l,.ref b],[]⟩)
   (λ_ R s=>s.heap.get? l=some {cls:=.type "tuple",dict:=dd,data:=.seq items n,slots:=sl}/\s.heap.get? b=some {cls:=.type "tuple",dict:=T1,data:=.seq cU n2,slots:=Qo} /\
    R (.ok (.ret (.bool (lexLe ns ms)))) s) :=
 .of_wp λprog w A R s h=>by
  obtain⟨hp,g,d,tk,os⟩:=s;obtain⟨hl,hb,h⟩:=h;have f2:=AutoSeq1.sub_tuple_tuple;have z1:items.size=ns.length:=by rw[<- hi.length];simp
  have z2:cU.size=ms.length:=by rw[<- hj.length];simp
  wp_walk using abV hl,abV hb,acx _ (λrest b s'=>b.1=none/\s'=⟨hp,g,d,tk,os⟩/\∃(vs ws:List YU) (tV LS:List Int),rest=vs.zip ws /\
   aaE vs tV/\aaE ws LS/\tV.length+cU.size=LS.length+items.size/\R (.ok (.ret (.bool (lexLe tV LS)))) ⟨hp,g,d,tk,os⟩) _
  case turn =>
   rintro⟨y,x⟩ rest b s' ⟨sg,rfl,vs,ws,tV,LS,hz,RS,Pd,hlen,hR⟩;cases RS with
   |nil=>rw[List.zip_nil_left]at hz;cases hz
   |cons a t RQ =>
    cases Pd with
    |nil=>rw[List.zip_nil_right]at hz;cases hz
    |cons c u RF =>
     rw[List.zip_cons_cons]at hz;injection hz with WV NQ
     injection WV with hy hx
     subst hy hx;rw[CC]at hR;simp only[Zc]at hlen;obtain⟨e,he,N4⟩:=HT.Du A.in1 ⟨hp,g,d,tk,os⟩ a t c u;refine YV (he prog w _ _ ?_);cases e with
     |true =>
      rw[if_pos (N4.mp rfl)]at hR
      wp_walk
      exact⟨rfl,rfl,_,_,_,_,NQ,RQ,RF,by lia,hR⟩
     |false =>
      rw[if_neg (λq=>absurd (N4.mpr q) abv)]at hR;have Xb:=Bg A.in1 ⟨hp,g,d,tk,os⟩ a t c u prog w
      wp_walk using Xb
      exact⟨_,rfl,by simpa using hR⟩
  case fin =>
   rintro⟨b1,b2⟩ s' ⟨sg,rfl,vs,ws,tV,LS,hz,RS,Pd,hlen,hR⟩;simp only at sg;subst sg;have hv:lexLe tV LS=decide (items.size<=cU.size):=by
    cases RS with
    |nil =>
     cases Pd with
     |nil =>
      simp only[List.length_nil]at hlen;rw[Cy];exact(decide_eq_true (by lia)).symm
     |cons c u hw =>
      simp only[List.length_nil,Zc]at hlen;rw[Cz];exact(decide_eq_true (by lia)).symm
    |cons a t hv =>
     cases Pd with
     |nil =>
      simp only[List.length_nil,Zc]at hlen;rw[CB];exact(decide_eq_false (by lia)).symm
     |cons c u hw =>
      rw[List.zip_cons_cons]at hz;cases hz
   rw[hv]at hR
   wp_walk
   exact⟨_,rfl,by simpa[Builtin.Tuple.tupleCompareSizes] using hR⟩
  case h =>
   exact⟨rfl,rfl,items.toList,cU.toList,ns,ms,rfl,hi,hj,by lia,h⟩
end
section
variable {prog:Y0}{w:Zd}{A:ZQ}{E:YU->YW->Prop}{s:YW}
theorem wd {l b:Addr}{items cU:Array YU}{ns ms:List Int}{Q:YU->YW->Prop}(hl:IsTup s.heap l items)(hb:IsTup s.heap b cU)(hi:aaE items.toList ns)(hj:aaE cU.toList ms)
  (hu:A.units<abk) (h:Q (.bool (lexLe ns ms)) s):Zr (model prog w) A (ZR .LtE (.ref l) (.ref b)) Q E s:=by
 obtain⟨⟨cls,dd,data,sl⟩,ho,hc,n,hd⟩:=id hl;obtain⟨⟨X9,T1,data2,Qo⟩,Ph,sf,n2,hd2⟩:=id hb;simp only at hc hd sf hd2;subst hc hd sf hd2;exact richCompare_meets_room (op:=.LtE) ⟨_,ho,rfl⟩ ⟨_,Ph,rfl⟩ PySem.F.slot_tuple_le PySem.F.entry_tuple_le (PySem.F.args_tuple_le_2 _ _) (oQ l b items cU n n2 dd T1 sl Qo ns ms hi hj)
  ⟨ho,Ph,show Value.bool (lexLe ns ms)≠Value.notImplemented/\Q (.bool (lexLe ns ms)) s from ⟨(λx=>nomatch x),h⟩⟩ hu
end
section
open PySem.SeqAt
open PySem.AutoSeq1 (wpAny_loadPart')
open PySem.MeetsSeq PySem.MeetsSeq2 PySem.MeetsSeq3
end
section
end
end LL
namespace L2
open PySem PySem.Spec PySem.SeqAt PyProof.Rows
noncomputable def dG:List D->Option (List Int)
 |[]=>some []
 |.int i::ds=>(dG ds).map (i::·)
 |_::_=>none
theorem jF:∀{ds:List D} {ns:List Int},dG ds=some ns->ds=ns.map D.int
 |[],_,h=>by cases h;rfl
 |.int i::ds,_,h=>by
  obtain⟨ns,h1,rfl⟩:=Zn.mp h;rw[Zx,<- jF h1]
 |.b_::_,_,h=>by cases h
 |.bl _::_,_,h=>by cases h
 |.str _::_,_,h=>by cases h
 |.obj _::_,_,h=>by cases h
 |.tup _::_,_,h=>by cases h
 |.lst _::_,_,h=>by cases h
 |.dT _ _::_,_,h=>by cases h
 |.dK _ _::_,_,h=>by cases h
 |.sT _::_,_,h=>by cases h
 |.ob _::_,_,h=>by cases h
theorem ia:∀(ns:List Int),dG (ns.map D.int)=some ns
 |[]=>rfl
 |n::ns=>by rw[Zx];show (dG (ns.map D.int)).map _=_;rw[ia ns];rfl
theorem cf {P:Y0}{w:Zd}{W:Addr->Prop}{H:Hp}:∀{ns:List Int} {vs:List V},ao P w W H (ns.map D.int) vs->vs=ns.map V.int
 |[],_,h=>h
 |n::ns,_,lO=>by obtain⟨v,r,e,h1,h2⟩:=lO;rw[e,cf h2,show v=V.int n from h1];rfl
theorem qa {P:Y0}{w:Zd}{W:Addr->Prop}{H:Hp}:∀(ns:List Int),ao P w W H (ns.map D.int) (ns.map V.int)
 |[]=>rfl
 |n::ns=>⟨_,_,rfl,rfl,qa ns⟩
noncomputable def yH (p:Int->Int->Bool)(lex:List Int->List Int->Bool)(a b:D):Option D:=match a.Kg,b.Kg with
 |some a,some b=>match dG a,dG b with
  |some ns,some ms=>some (.bl (lex ns ms))
  |_,_=>none
 |_,_=>wU p a b
theorem yX {p:Int->Int->Bool}{lex:List Int->List Int->Bool}{a b d:D}(h:yH p lex a b=some d):(∃i j ns ms,a=.tup i/\b=.tup j/\dG i=some ns/\dG j=some ms/\d=.bl (lex ns ms))\/wU p a b=some d:=by
 unfold yH at h;cases ha:a.Kg with
 |none=>rw[ha]at h;exact .inr h
 |some i =>
  cases hb:b.Kg with
  |none=>rw[ha,hb]at h;exact .inr h
  |some j =>
   rw[ha,hb]at h;cases ea:dG i with
   |none=>simp only[ea]at h;cases h
   |some ns =>
    cases eb:dG j with
    |none=>simp only[ea,eb]at h;cases h
    |some ms=>simp only[ea,eb]at h;cases h;exact .inl ⟨i,j,ns,ms,D.nF ha,D.nF hb,ea,eb,rfl⟩
abbrev Oz:D->D->Option D:=yH (λi j=>decide (i<=j)) LL.lexLe
section
variable {X:Cx}
theorem BZ {p:Int->Int->Bool}{lex:List Int->List Int->Bool}{op:abT}(ho:ik X (ZR op) (Bi λi j=>.bl (p i j)))
  (ht:∀(s:YW) (E:YU->YW->Prop) (l b:Addr) (items cU:Array YU) (ns ms:List Int) (Q:YU->YW->Prop),IsTup s.heap l items->IsTup s.heap b cU->aaE items.toList ns->aaE cU.toList ms->Q (.bool (lex ns ms)) s->Zr (model X.prog X.w) X.A (ZR op (.ref l) (.ref b)) Q E s) :
  bf X (ZR op) (yH p lex):=by
 intro pins s σ H x y v u Q I rx ry h;obtain⟨W,d1,d2,d,hd,r1,r2,e,q⟩:=h;rcases yX e with⟨a,b,ns,ms,rfl,rfl,ea,eb,rfl⟩|e
 ·rw[jF ea]at r1;rw[jF eb]at r2;obtain⟨pa,vs,rfl,ha,ra⟩:=r1;obtain⟨pb,us,rfl,hb,rb⟩:=r2;rw[cf ra]at ha;rw[cf rb]at hb;cases rx;cases ry;obtain⟨its,q1,p1,_⟩:=I.tuple (su.of ha);obtain⟨Ke,q2,p2,_⟩:=I.tuple (su.of hb);exact ht s _ pa pb _ _ ns ms _ p1 p2 (by simpa using intsAre_of q1) (by simpa using intsAre_of q2) ⟨.bl _,H,I,rfl,q _ _ (aD.refl _) rfl⟩
 ·exact jw ho pins s σ H x y v u Q I rx ry ⟨W,_,_,d,hd,r1,r2,e,q⟩
theorem FE (hu:X.A.units<abk):bf X (ZR .LtE) Oz:=BZ Hv λs E l b items cU ns ms Q h1 h2 h3 h4 h5=>LL.wd h1 h2 h3 h4 hu h5
end
end L2
namespace TS
open PySem PyProof.Rows
section
variable {prog:Y0}{w:Zd}{A:ZQ}{E:YU->YW->Prop}{s:YW}
theorem vN {x:YU}{vs:List YU}{kf:YU->List Int}{Q:YU->YW->Prop}(hz:vs.length<=1000000)
  (col:∀(B:ZQ) (R:List YU->YW->Prop),B.units<=A.units+1->(∀(h':Heap) (tk:Nat),(∀b o,s.heap.get? b=some o->h'.get? b=some o)->s.heap.objs.size<=h'.objs.size->R vs {s with heap:=h',toks:=tk})->Zr (model prog w) B (collect x) R E s)
  (T:pq s.heap kf s.heap.objs.size vs)
  (h:∀(out:List YU) (l:Addr) (h':Heap) (tk:Nat) (n:Nat),out.Perm vs->out.Pairwise (λx y=>HT.lexLt (kf y) (kf x)=false)->s.heap.objs.size<=l->(∀b o,s.heap.get? b=some o->h'.get? b=some o)->h'.get? l=some (aaJ "list" out.toArray n)->Q (.ref l) {s with heap:=h',toks:=tk}) :
  Zr (model prog w) A (call (.builtin "sorted") [x]) Q E s:=by
 refine acg kind_sorted plain_sorted entry_sorted (args_sorted1 _) ?_;unfold aaz.«sorted»
 refine YV (m:=checkCount "sorted" 1 1 _) (YZ ?_);refine YV (col A.in1 _ (YY _) λh' tk kp WM=>?_);have nl:vs.length<=Zf:=by rw[Zw];lia
 refine YV (wpAny_newList ?_ nl);have hl:(h'.push (aaJ "list" vs.toArray 0)).get? h'.objs.size=some (aaJ "list" vs.toArray 0):=ZC _ rfl;have T':pq (h'.push (aaJ "list" vs.toArray 0)) kf h'.objs.size vs:=λv hv=>by
  obtain⟨t,o,xs,k,e1,_,e3,r⟩:=T v hv;exact⟨t,o,xs,k,e1,Zu (Za (kp _ _ e3)),Y3 _ (kp _ _ e3),r⟩
 refine YV (ZW (aaB slot_list_sort ⟨_,hl,rfl⟩ entry_list_sort (nr (s:={s with heap:=h'.push (aaJ "list" vs.toArray 0),toks:=tk}) hl hz T' λout hp hs=>⟨_,rfl,?_⟩) (args_list_sort _)))
 obtain⟨n,hn⟩:=sortedHeap_at (out:=out.toArray) hl;refine YZ ⟨_,rfl,h out h'.objs.size _ tk n hp hs WM (λb o e=>?_) hn⟩;have hb:=Za (kp _ _ e);rw[sortedHeap_old (Zu hb) (by rw[size_push'];exact abC hb)]
 exact Y3 _ (kp _ _ e)
end
end TS
namespace L2
open PySem PySem.Spec PyProof.Rows
def wg (H:Hp):YU->List Int
 |.ref t=>match H t with
  |some (.tup xs)=>xs.filterMap fun
   |.int i=>some i
   |_=>none
  |_=>[]
 |_=>[]
theorem uD:∀ns:List Int,((ns.map V.int).filterMap fun
   |.int i=>some i
   |_=>none)=ns
 |[]=>rfl
 |n::ns=>by
  rw[Zx,ZN];dsimp only;rw[uD ns]
theorem nD {H:Hp}{t:Addr}{ns:List Int}(h:H t=some (.tup (ns.map V.int))):wg H (.ref t)=ns:=by
 unfold wg;dsimp only;rw[h];exact uD ns
def HM (H:Hp):YU->Addr×List Int
 |.ref t=>(t,wg H (.ref t))
 |_=>(0,[])
abbrev Au (H:Hp)(ts:List (Addr×List Int)):Prop:=∀t∈ts,H t.1=some (.tup (t.2.map V.int))/\t.2≠[]
abbrev sM (t:Addr×List Int):V:=.ref t.1
theorem jY:∀{ts:List (Addr×List Int)} {us:List YU},Vals (ts.map sM) us->us=ts.map λt=>Value.ref t.1
 |[],_,.nil=>rfl
 |t::ts,_,.cons r q=>by
  rw[Zx,<- jY q];cases r;rfl
theorem ke:∀(ts:List (Addr×List Int)),Vals (ts.map sM) (ts.map λt=>Value.ref t.1)
 |[]=>.nil
 |t::ts=>.cons rfl (ke ts)
theorem pN {H:Hp}{ts:List (Addr×List Int)}(T:Au H ts){out:List YU}(hp:out.Perm (ts.map λt=>Value.ref t.1)):out=(out.map (HM H)).map (λt=>Value.ref t.1)/\(out.map (HM H)).Perm ts:=by
 constructor
 ·rw[ZM];refine(Z5 (g:=id) λv hv=>?_).trans (List.map_id _) |>.symm
  obtain⟨t,ht,rfl⟩:=ZE.mp (hp.mem_iff.mp hv);rfl
 ·refine(hp.map (HM H)).trans (List.Perm.of_eq ?_);rw[ZM];refine(Z5 (g:=id) λt ht=>?_).trans (List.map_id _);show (t.1,wg H (.ref t.1))=t;rw[nD (T t ht).1]
theorem xl {P:Y0}{w:Zd}{H:Hp}{h:Heap}{ts:List (Addr×List Int)}(ok:iI P w H h)(T:Au H ts){a:Addr}(ha:h.objs.size<=a):TS.pq h (wg H) a (ts.map λt=>Value.ref t.1):=λv hv=>by
 obtain⟨t,ht,rfl⟩:=ZE.mp hv;obtain⟨h1,h2⟩:=T t ht;obtain⟨_,its,r,o,ho,hc,n,hd⟩:=(show dv P w H h t.1 (.tup (t.2.map V.int)) from ok _ _ h1)
 exact⟨t.1,o,_,n,rfl,Zu (Zv (Za ho) ha),ho,hc,hd,by rw[nD h1];exact intsAre_of (by simpa using r),by rw[nD h1];exact h2⟩
section
variable {X:Cx}
theorem rS:gk X (.builtin "sorted") (λxs H Q=>∃(p:Addr) (ts:List (Addr×List Int)),xs=[.ref p]/\dC X.K H p (ts.map sM)/\Au H ts/\ts.length<=1000000 /\
  ∀(l:Addr) (bF:List (Addr×List Int)),H l=none->bF.Perm ts->bF.Pairwise (λx y=>HT.lexLt y.2 x.2=false)->Q (.ref l) (upd H l (.lst (bF.map sM)))):=by
 intro pins s σ H xs us Q I r h;obtain⟨p,ts,rfl,hq,T,hz,q⟩:=h;obtain⟨u,rfl,rx⟩:=vals1 r;cases rx;obtain⟨its,r',pl,hl⟩:=I.list hq;obtain rfl:=jY r';have nl:(ts.map λt=>Value.ref t.1).length<=Zf:=by rw[YX,Zw];lia
 refine TS.vN (kf:=wg H) (by rw[YX];exact hz) (λB R _ hR=>?_) (xl I.bu T (YY _)) λout l h' tk n hp hs hle kp ho=>?_
 ·refine collect_list pl.isList (hR _ s.toks (λb o e=>?_) ?_) nl
  ·have hb:=Za e;rw[Heap.get?_update_ne _ _ _ _ (Zu hb)];exact Y3 _ e
  ·rw[Heap.size_update,size_push'];exact Nat.le_succ _
 ·obtain⟨e1,e2⟩:=pN T hp;have zl:out.length=ts.length:=by rw[hp.length_eq,YX]
  refine⟨.ref l,_,I.laid (t':=tk) (o:=.lst ((out.map (HM H)).map sM)) kp hle ?_,rfl,q l _ (I.bu.fresh hle) e2 ?_⟩
  ·refine⟨by rw[YX,YX,zl,Zw];lia,out,n,?_,ho⟩
   have:=ke (out.map (HM H));rw[<- e1]at this;exact this
  ·rw[aa4];refine hs.imp_of_mem λ{x y} hx hy hh=>?_;obtain⟨t,ht,rfl⟩:=ZE.mp (hp.mem_iff.mp hx);obtain⟨t',Ge,rfl⟩:=ZE.mp (hp.mem_iff.mp hy);exact hh
end
end L2
namespace ST
open PySem PyProof.Rows
section
variable {prog:Y0}{w:Zd}{A:ZQ}{E:YU->YW->Prop}{s:YW}
variable {a b:Addr}{o:Obj}{ts:List (Addr×List Int)}{es:Array (Int×YU)}{ep:Nat}{t:SetTable}{k:List Int}
theorem lT.at (S:lT prog w o ts es ep t){i:Nat}(hi:i<t.place.size):∃x,ts[i]?=some x/\es[i]?=some (ent prog w x):=by
 have hl:i<ts.length:=by rw[<- S.size.2];exact hi
 exact⟨ts[i],Y2 hl,by rw[<- Zk,S.Lf,Zj,Y2 hl];rfl⟩
theorem Cd (S:lT prog w o ts es ep t):t.gaveWay=false:=by
 obtain⟨j,hj,e⟩:=S.wf.Hy;unfold SetTable.gaveWay;rw[e];obtain⟨i,rfl⟩:∃i,j=i+1:=⟨j-1,by lia⟩
 have:0<2 ^ i:=Nat.pow_pos (by decide)
 rw[Nat.pow_succ];have:(2 ^ i*2-1) % 2=1:=by lia
 rw[this];rfl
theorem oP (ho:s.heap.get? a=some o)(S:lT prog w o ts es ep t)(T:LI prog w s.heap ts)(hk:(TK prog w).is s.heap k b)(hu:A.units<abk){kZ:Bool}{N:Nat}{Q:SetFound->YW->Prop}
  (hN:¬ rZ t (cL t.mask (kH prog w k) N)) (hO:∀x,x<N->rZ t (cL t.mask (kH prog w k) x)) (YO:N<10*SetTable.turns t.mask)
  (Qf:(∀x∈ts,x.2≠k)->Q (.free (cL t.mask (kH prog w k) N) false) s) (Qt:∀i:Option Nat,(∃x∈ts,x.2=k)->(kZ=false->i.isSome=true)->Q (.there i) s) :
  ∀(d n f:Nat) (AX:Option SetTable.Probe),AX.getD (Ql t.mask (kH prog w k))=gv t.mask (kH prog w k) n->n+d=N->d<f ->
   (∀m,m<n->∀i x,i<t.place.size->g t.place i=cL t.mask (kH prog w k) m->ts[i]?=some x->x.2≠k) ->
   Zr (model prog w) A (setSearchFrom a (.ref b) (kH prog w k) kZ f AX) Q E s:=by
 intro d
 induction d using Nat.strongRecOn with
 |_ d ih =>
  intro n f AX lP vv Po Oc;obtain⟨f,rfl⟩:∃f',f=f'+1:=⟨f-1,by lia⟩
  unfold setSearchFrom;refine YV (aaD ho S.dat S.fits ?_);dsimp only;rw[Cd S,if_neg (by simp)]
  rw[IK,lP];generalize Vc:SetTable.probe t _ (kH prog w k) (gv t.mask (kH prog w k) n)=pr;have hash:∀i x,i<t.place.size->ts[i]?=some x->(es[i]?.map (·.1)).getD 0=kH prog w x.2:=λi x hi hx=>by
   obtain⟨y,h1,h2⟩:=S.at hi;rw[hx]at h1;obtain rfl:=Zt h1;rw[h2];rfl
  rcases tx S.wf (λi=>(es[i]?.map (·.1)).getD 0) (kH prog w k) hN hO d n (10*SetTable.turns t.mask) vv (by lia)with⟨q1,q2⟩|⟨m,i,q1,q2,q3,q4,q5,q6,q7⟩
  ·have e:pr=some (.empty (cL t.mask (kH prog w k) N) none):=Vc.symm.trans q1;rw[e];dsimp only;refine YZ (Qf λx hx Ga=>?_);obtain⟨i,hi⟩:=abb hx;have HG:i<t.place.size:=by
    rw[S.size.2];exact(Y_.mp hi).1
   obtain⟨n',g1,g2⟩:=S.wf.UH i (kH prog w x.2) (by rw[Zj,hi];rfl)
   rw[Ga]at g1 g2;have Gk:n'<N:=by
    rcases aaq n' N with z|z
    ·exact z
    ·rcases aaq N n' with z2|z2
     ·exact absurd (g2 N z2) hN
     ·obtain rfl:N=n':=by lia
      exact absurd ⟨i,HG,g1.symm⟩ hN
   rcases aaq n' n with z|z
   ·exact Oc n' z i x HG g1.symm hi Ga
   ·exact q2 n' z Gk i HG g1.symm (by rw[hash i x HG hi,Ga])
  ·have e:pr=some (.candidate (cL t.mask (kH prog w k) m) i (gv t.mask (kH prog w k) (m+1))):=Vc.symm.trans q6;rw[e];dsimp only;obtain⟨x,Ew,Kj⟩:=S.at q3;have RD:x∈ts:=Zz Ew;have HF:t.slot (cL t.mask (kH prog w k) m)=.live i:=by rw[<- q4];exact pJ S.wf.zi q3
   refine(λ(key:?G)=>?main) ?key
   case main =>
    cases hl:t.led with
    |true =>
     rw[if_neg (by simp)]
     exact key
    |false =>
     rw[if_pos (by simp)]
     have R_:(es.filter (·.1==kH prog w k)).toList.map (·.2)=(ts.filter λx=>kH prog w x.2==kH prog w k).map λx=>Value.ref x.1:=by
      rw[Array.toList_filter,S.Lf,List.filter_map,ZM];rfl
     rw[R_];refine YV (EI hk _ (λy hy=>T y (abp.mp hy).1) ?_);rw[if_neg (by simp)]
     exact key
   case key =>
    rw[Kj];dsimp only;refine YV (ZW ((TK prog w).eqBool hu (T x RD) hk ?_));refine YV (aaD ho S.dat S.fits ?_);dsimp only;have Va:t.sameMemory t.moves t.mask=some true:=by
     unfold SetTable.sameMemory;rw[if_pos (beq_self_eq_true _)]
    by_cases Ga:x.2=k
    ·rw[decide_eq_true Ga];cases kZ with
     |true =>
      rw[if_pos (by rfl)]
      exact YZ (Qt none ⟨x,RD,Ga⟩ (λz=>by cases z))
     |false =>
      rw[if_neg (by simp),Va]
      dsimp only;rw[if_pos rfl,HF];dsimp only;rw[Kj];dsimp only;refine YV (wpAny_isSame_ref_self ?_);rw[if_pos rfl];refine YV (YZ ?_);exact YZ (Qt (some i) ⟨x,RD,Ga⟩ (λ_=>rfl))
    ·rw[decide_eq_false Ga,if_neg (by simp),Va]
     dsimp only;rw[if_pos rfl,HF];dsimp only;rw[Kj];dsimp only;refine YV (wpAny_isSame_ref_self ?_);rw[if_pos rfl];refine YV (YZ ?_);dsimp only;rw[if_neg (by simp)]
     refine ih (N-(m+1)) (by lia) (m+1) f _ rfl (by lia) (by lia) λm' YI i' x' h1 h2 h3=>?_
     rcases aaq m' n with z|z
     ·exact Oc m' z i' x' h1 h2 h3
     ·by_cases e2:m'=m
      ·subst e2;obtain rfl:=S.wf.zi.inj h1 q3 (h2.trans q4.symm);rw[Ew]at h3;obtain rfl:=Zt h3;exact Ga
      ·intro z2;exact q7 m' z (by lia) i' h1 h2 (by rw[hash i' x' h1 h3,z2])
end
theorem ve (n:Nat):∀(f j:Nat),n<2 ^ (j+f)->∃j',j<=j'/\SetTable.sizeAbove.go n f (2 ^ j)=2 ^ j'/\n<2 ^ j'/\(j'=j\/2 ^ (j' - 1)<=n)
 |0,j,h=>⟨j,YY _,rfl,h,.inl rfl⟩
 |f+1,j,h=>by
  unfold SetTable.sizeAbove.go
  by_cases hc:2 ^ j<=n
  ·rw[if_pos hc,<- Nat.pow_succ];obtain⟨j',h1,h2,h3,h4⟩:=ve n f (j+1) (by rw[show j+1+f=j+(f+1) by lia];exact h)
   refine⟨j',by lia,h2,h3,.inr ?_⟩
   rcases h4 with rfl|h4
   ·exact hc
   ·exact h4
  ·rw[if_neg hc];exact⟨j,YY _,rfl,by lia,.inl rfl⟩
theorem Ef {n:Nat}(h:n<=4000):∃j,3<=j/\SetTable.sizeAbove n=2 ^ j/\n<2 ^ j/\2 ^ j<=8192:=by
 obtain⟨j,h1,h2,h3,h4⟩:=ve n 64 3 (ab_ h (by decide))
 refine⟨j,h1,h2,h3,?_⟩;rcases h4 with rfl|h4
 ·decide
 ·have:j-1<12:=by
   rcases aaq (j-1) 12 with z|z
   ·exact z
   ·have:2 ^ 12<=2 ^ (j-1):=aaQ (by decide) z
    lia
  have:2 ^ j<=2 ^ 12:=aaQ (by decide) (by lia)
  lia
theorem Gq (d:Nat)(n:Int)(tk:Tok):hashByValue d (.int n tk)=pure true:=by
 cases d <;> rfl
section
variable {prog:Y0}{w:Zd}{A:ZQ}{E:YU->YW->Prop}{s:YW}
variable {a b:Addr}{o:Obj}{ts:List (Addr×List Int)}{es:Array (Int×YU)}{ep:Nat}{t:SetTable}{k:List Int}
theorem IA {Q:Bool->YW->Prop}(hk:(TK prog w).is s.heap k b)(q:Q true s):Zr (model prog w) A (hashByValue 8 (.ref b)) Q E s:=by
 obtain⟨o,items,n,ho,hc,hd,hi⟩:=hk;have hT:s.TypeIs (.ref b) "tuple" := ⟨o,ho,hc⟩;unfold hashByValue;refine YV (wpAny_specialOf hT F.slot_tuple_hash.lookup ?_);dsimp only;refine YV (wpAny_seqItems ho hd ?_);dsimp only[Option.getD_some];rw[<- Array.forIn_toList];refine YV (acx _ (λrest r s'=>r=(none,())/\s'=s/\∀v∈rest,∃n tk,v=Value.int n tk) _ ?_ ?_ _ _ ⟨rfl,rfl,?_⟩)
 ·rintro v rest r s' ⟨rfl,rfl,o9⟩;obtain⟨n,tk,rfl⟩:=o9 v Y8;rw[Gq];refine YV (YZ ?_);rw[if_neg (by simp)]
  exact YZ ⟨rfl,rfl,λu hu=>o9 u (Y7 _ hu)⟩
 ·rintro r s' ⟨rfl,rfl,_⟩;exact YZ q
 ·generalize items.toList=vs at hi
  induction hi with
  |nil=>intro v hv;cases hv
  | @cons k v ks vs h1 h2 ih =>
   intro u hu;rcases Y4.mp hu with rfl|hu
   ·obtain⟨t,rfl⟩:=Value.isInt_shape h1;exact⟨_,_,rfl⟩
   ·exact ih u hu
theorem yU (ho:s.heap.get? a=some o)(S:lT prog w o ts es ep t)(T:LI prog w s.heap ts)(hk:(TK prog w).is s.heap k b)(hu:A.units<abk){kZ:Bool}{Q:SetFound->YW->Prop}
  (Qf:∀N,(∀x∈ts,x.2≠k)->¬ rZ t (cL t.mask (kH prog w k) N)->(∀x,x<N->rZ t (cL t.mask (kH prog w k) x))->Q (.free (cL t.mask (kH prog w k) N) false) s)
  (Qt:∀i:Option Nat,(∃x∈ts,x.2=k)->(kZ=false->i.isSome=true)->Q (.there i) s) :
  Zr (model prog w) A (setSearch a (.ref b) (kH prog w k) kZ) Q E s:=by
 obtain⟨N,h1,h2,h3⟩:=S.wf.first (kH prog w k)
 have hm:=S.Hy;unfold setSearch;exact oP ho S T hk hu h2 h3 h1 (λq=>Qf N q h2 h3) Qt N 0 100000 none rfl (aaP N) (by unfold SetTable.turns at h1;lia) λm hm=>by lia
theorem yo {h:Heap}(ho:h.get? a=some o)(hd:o.data=.set es ep t)(fk:Array (Int×YU))(t':SetTable):(h.update a (Obj.putSet fk t')).get? a=some {o with data:=.set fk (ep+1) t'}:=by
 have e:=Heap.get?_update_self (Obj.putSet fk t') ho (by rw[putSet_of fk t' hd];rfl)
 rw[e,putSet_of fk t' hd]
theorem BH {α:Type}(l:List α)(p:Nat)(x:α):(l.take p++x::l.drop p).Perm (x::l):=by
 refine acB.trans (List.Perm.cons x ?_);rw[aaA]
theorem J3 {α:Type}{en:α->Int×YU}{hk:α->Int}(hh:∀x,(en x).1=hk x)(x0:α){ts:List α}(he:es.toList=ts.map en){j:Nat}(j3:3<=j)(hj:ts.length<=2 ^ j-1)(fi mo:Nat)(le pl:Bool):
  ∃(order:Array Nat) (t':SetTable) (bF:List α),SetTable.laid (2 ^ j-1) fi mo le pl (es.map (·.1))=some (t',order)/\order.toList.Perm (Zi ts.length)/\(order.filterMap (es[·]?)).toList=bF.map en/\bF.Perm ts /\
   WF t' (bF.map hk)/\t'.mask=2 ^ j-1/\t'.led=le/\t'.plain=pl/\t'.place.size=ts.length:=by
 have hz:es.size=ts.length:=by rw[<- Y6,he,YX]
 have hs:(es.map (·.1)).size=ts.length:=by rw[Array.size_map,hz]
 obtain⟨t',order,e1,e2,e3,e4,e5,e6,e7,e8⟩:=F3 (hs:=es.map (·.1)) j3 (by lia) fi mo le pl
 rw[hs]at e6 e8;have gd:∀i,i<ts.length->es[i]?=some (en (ts.getD i x0)):=λi hi=>by
  rw[<- Zk,he,Zj,Y2 hi,aaO,Y2 hi];rfl
 have um:(order.filterMap (es[·]?)).toList=(order.toList.map λi=>ts.getD i x0).map en:=by
  rw[Array.toList_filterMap,ZM];have:∀l:List Nat,(∀i∈l,i<ts.length)->l.filterMap (es[·]?)=l.map (en ∘ λi=>ts.getD i x0):=λl=>by
   induction l with
   |nil=>intro _;rfl
   |cons i l ih =>
    intro h;rw[ZN,gd i (h i Y8),Zx,ih λy hy=>h y (Y7 _ hy)];rfl
  exact this _ λi hi=>ZJ.mp (e6.mem_iff.mp hi)
 have nM:(order.toList.map λi=>ts.getD i x0).Perm ts:=by
  refine(e6.map _).trans (List.Perm.of_eq ?_);apply aaS;intro i;rw[Zj]
  by_cases hi:i<ts.length
  ·rw[ab3 hi,Y2 hi];show some (ts.getD i x0)=_;rw[aaO,Y2 hi];rfl
  ·rw[aao (by rw[aan];lia),aao (by lia)]
   rfl
 refine⟨order,t',_,e1,e6,um,nM,?_,e2,e3,e4,e8⟩;rw[ZM];have:(order.toList.map λi=>(es.map (·.1)).getD i 0)=order.toList.map (hk ∘ λi=>ts.getD i x0):=by
  refine Z5 λi hi=>?_;rw[Zo,Array.getElem?_map,gd i (ZJ.mp (e6.mem_iff.mp hi))];exact hh _
 rw[<- this];exact e7
theorem zj {α:Type}{en:α->Int×YU}{hk:α->Int}(hh:∀x,(en x).1=hk x)(x0:α){ts:List α}(he:es.toList=ts.map en){m:Nat}(Pm:ts.length*2<=m)(KW:m<=4000):
  ∃(j:Nat) (order:Array Nat) (t':SetTable) (bF:List α),SetTable.sizeAbove m=2 ^ j/\2 ^ j<=8192/\t.relaid (es.map (·.1)) m=some (t',order)/\order.toList.Perm (Zi ts.length)/\(order.filterMap (es[·]?)).toList=bF.map en/\bF.Perm ts /\
   WF t' (bF.map hk)/\(t'.place.size*5<t'.mask*3/\m<=t'.mask)/\t'.mask<=8191/\t'.led=t.led/\t'.plain=t.plain/\t'.place.size=ts.length:=by
 obtain⟨j,j3,ja,jb,jc⟩:=Ef (n:=m) KW;have:2 ^ 3<=2 ^ j:=aaQ (by decide) j3
 obtain⟨order,t',bF,e1,e6,um,nM,e7,e2,e3,e4,e8⟩:=J3 hh x0 he j3 (by lia) t.finger (t.movedTo (2 ^ j-1)) t.led t.plain
 exact⟨j,order,t',bF,ja,jc,by unfold SetTable.relaid;rw[ja];exact e1,e6,um,nM,e7,⟨by rw[e8,e2];lia,by rw[e2];lia⟩,by lia,e3,e4,e8⟩
theorem AF (ho:s.heap.get? a=some o)(hx:o.ExactSet)(hd:o.data=.set es ep t)(he:es.toList=ts.map (ent prog w))(hw:WF t (ts.map λx=>kH prog w x.2))(YH:0<ts.length)(hn:ts.length<=1000)
  (Tb:t.led=!w.params.followText "set-order") (hpl:t.plain=true) (vv:(ts.map (·.2)).Nodup) {Q:Unit->YW->Prop}
  (q:∀(bF:List (Addr×List Int)) (fk:Array (Int×YU)) (t':SetTable),bF.Perm ts->lT prog w {o with data:=.set fk (ep+1) t'} bF fk (ep+1) t'->Q () {s with heap:=s.heap.update a (Obj.putSet fk t')}) :
  Zr (model prog w) A (setRelay a (SetTable.grown ts.length)) Q E s:=by
 have hz:es.size=ts.length:=by rw[<- Y6,he,YX]
 have hp:t.place.size=ts.length:=by have:=hw.sz;rw[YX]at this;exact this
 have hf:t.fits es.size=true:=by
  unfold SetTable.fits SetTable.fill;rw[hw.L7,hz,hp];have:=hw.room;simp;lia
 unfold setRelay;refine YV (aaD ho hd hf ?_);dsimp only;have hg:SetTable.grown ts.length=ts.length*4:=by unfold SetTable.grown;rw[if_neg (by lia)]
 rw[hg];obtain⟨j,order,t',bF,ja,jc,er,e6,um,nM,hW,Sa,Xm,e3,e4,e8⟩:=zj (t:=t) (hk:=λx=>kH prog w x.2) (λ_=>rfl) (0,[]) (m:=ts.length*4) he (by lia) (by lia)
 rw[ja,if_neg (by rw[Zw];lia)]
 rw[er];have NM:(order.filterMap (es[·]?)).size=es.size:=by
  rw[<- Y6,um,YX,nM.length_eq,hz]
 refine YV ?_;show Zr _ _ (if (order.filterMap (es[·]?)).size != es.size then _ else _) _ _ _
 rw[NM,if_neg (by simp)]
 refine YZ ?_;dsimp only;exact wpAny_storeSet_of ho hd (q _ _ t' nM ⟨hx,rfl,um,hW,Sa.1,Xm,e3.trans Tb,e4.trans hpl,((nM.map (·.2)).nodup_iff).mpr vv⟩) (by rw[NM,hz,Zw];lia)
abbrev LO {α β:Type}(w:Zd)(en:α->Int×YU)(hk:α->Int)(ky:α->β)(a:Addr)(s:YW)(ts:List α)(x:α)(Q:Bool->YW->Prop):Prop :=
 ∀(h':Heap) (o':Obj) (bF:List α) (fk:Array (Int×YU)) (rL:Nat) (t':SetTable) (added:Bool) (tk:Nat),s.toks<=tk->abg a s.heap h'->h'.get? a=some o'->fI w en hk ky o' bF fk rL t' ->
  ((∃y∈ts,ky y=ky x)->bF=ts)->((∀y∈ts,ky y≠ky x)->bF.Perm (x::ts))->Q added {s with heap:=h',toks:=tk}
abbrev OV (prog:Y0)(w:Zd):=LO w (ent prog w) (λx=>kH prog w x.2) (λx=>x.2)
theorem AL (ho:s.heap.get? a=some o)(S:lT prog w o ts es ep t)(T:LI prog w s.heap ts)(hk:(TK prog w).is s.heap k b)(hu:A.units<abk)(hn:ts.length<1000)(f:Nat){Q:Bool->YW->Prop}
  (q:OV prog w a s ts (b,k) Q) :
  Zr (model prog w) A (setAddHashedIn a (.ref b) (kH prog w k) (f+1)) Q E s:=by
 unfold setAddHashedIn;refine YV (aaD ho S.dat S.fits ?_);dsimp only;rw[if_neg (by simp[byScan,Value.scannable])]
 refine YV (yU ho S T hk hu (λN g1 g2 g3=>?_) λi g1 g2=>?_)
 ·dsimp only;refine YV (aaD ho S.dat S.fits ?_);dsimp only;have hr:t.place.size+1<=t.mask:=by
   have:=S.Qq;obtain⟨j,hj,e⟩:=S.wf.Hy;have:2 ^ 3<=2 ^ j:=aaQ (by decide) hj
   lia
  obtain⟨W,hp⟩:=S.wf.put (lV _ _ _) g2 g3 hr;have pe:(t.put (cL t.mask (kH prog w k) N)).1.plain=t.plain/\(t.put (cL t.mask (kH prog w k) N)).1.led=t.led/\(t.put (cL t.mask (kH prog w k) N)).1.mask=t.mask:=⟨rfl,rfl,rfl⟩;have pf:(t.put (cL t.mask (kH prog w k) N)).1.dummies=#[]:=W.L7;generalize (t.put (cL t.mask (kH prog w k) N)).1=t1 at *
  generalize (t.put (cL t.mask (kH prog w k) N)).2=p at *
  obtain⟨QJ,UM,WB⟩:=pe;rw[QJ,S.LQ,if_pos rfl];refine YV (IA hk ?_);rw[if_pos rfl];have hz:=S.size;have Lc:(SetTable.insertAt es p (kH prog w k,Value.ref b)).toList=(ts.take p++(b,k)::ts.drop p).map (ent prog w):=by
   rw[nJ,S.Lf,aar,Zx,List.map_take,List.map_drop]
  have W1:WF t1 ((ts.take p++(b,k)::ts.drop p).map λx=>kH prog w x.2):=by
   rw[aar,Zx,List.map_take,List.map_drop];exact W
  have pm:(ts.take p++(b,k)::ts.drop p).Perm ((b,k)::ts):=BH ts p (b,k);have kG:(ts.take p++(b,k)::ts.drop p).length=ts.length+1:=pm.length_eq;have zG:((ts.take p++(b,k)::ts.drop p).map (·.2)).Nodup:=by
   refine((pm.map (·.2)).nodup_iff).mpr ?_;rw[Zx,ZD];exact⟨λhm=>by
    obtain⟨x,hx,e⟩:=ZE.mp hm;exact g1 x hx e,S.Nb⟩
  have vJ:(SetTable.insertAt es p (kH prog w k,Value.ref b)).size=ts.length+1:=by rw[<- Y6,Lc,YX,kG]
  have Yw:t1.place.size=ts.length+1:=by have:=W1.sz;rw[YX,kG]at this;exact this
  refine YV (wpAny_storeSet_of ho S.dat ?_ (by rw[vJ,Zw];lia))
  have S7:=yo ho S.dat (SetTable.insertAt es p (kH prog w k,Value.ref b)) t1;have MD:abg a s.heap (s.heap.update a (Obj.putSet (SetTable.insertAt es p (kH prog w k,Value.ref b)) t1)):=Heap.SameBut.update _ _ _;have fin:∀(h':Heap) (o':Obj) (bF:List (Addr×List Int)) (fk:Array (Int×YU)) (rL:Nat) (t':SetTable),abg a s.heap h'->h'.get? a=some o'->lT prog w o' bF fk rL t'->bF.Perm (ts.take p++(b,k)::ts.drop p)->Q true {s with heap:=h'} :=
   λh' o' bF fk rL t' q1 q2 q3 q4=>q h' o' bF fk rL t' true _ (YY _) q1 q2 q3 (λrD=>by obtain⟨x,hx,e⟩:=rD;exact absurd e (g1 x hx)) λ_=>q4.trans pm
  by_cases uk:t1.tooFull=true
  ·rw[uk,if_pos (by rfl)]
   have Xv:SetTable.grown (es.size+1)=SetTable.grown (ts.take p++(b,k)::ts.drop p).length:=by rw[kG,hz.1]
   rw[Xv];refine YV (AF (s:={s with heap:=s.heap.update a (Obj.putSet (SetTable.insertAt es p (kH prog w k,Value.ref b)) t1)}) S7 S.ex rfl Lc W1 (by lia) (by lia) (UM.trans S.led) (QJ.trans S.LQ) zG λbF fk t' r1 r2=>YZ ?_)
   have Ph:=yo S7 rfl fk t';exact fin _ _ bF fk _ t' (MD.trans (Heap.SameBut.update _ _ _)) Ph r2 r1
  ·rw[if_neg (by simpa using uk)]
   refine YZ (fin _ _ _ _ _ _ MD S7 ⟨S.ex,rfl,Lc,W1,?_,by rw[WB];exact S.Hy,UM.trans S.led,QJ.trans S.LQ,zG⟩ (.refl _))
   unfold SetTable.tooFull SetTable.fill at uk;rw[pf]at uk;simp at uk;lia
 ·dsimp only;exact YZ (q s.heap o ts es ep t false _ (YY _) (Heap.SameBut.refl _ _) ho S (λ_=>rfl) λg=>absurd g1 λuj=>by obtain⟨x,hx,e⟩:=uj;exact g x hx e)
theorem AM (ho:s.heap.get? a=some o)(S:lT prog w o ts es ep t)(T:LI prog w s.heap ts)(hk:(TK prog w).is s.heap k b)(hu:A.units<abk)(hn:ts.length<1000){Q:Bool->YW->Prop}
  (q:OV prog w a s ts (b,k) Q) :
  Zr (model prog w) A (setAdd a (.ref b)) Q E s:=by
 unfold setAdd;refine ZW ?_;refine YV ((TK prog w).pyHash hu hk ?_);unfold setAddHashed;refine ZW ?_;exact AL (s:={s with toks:=s.toks+(TK prog w).draws k}) ho S T hk hu hn 99999 λh' o' bF fk rL t' added tk r0 r1 r2 r3 r4 r5=>q h' o' bF fk rL t' added tk (ZO (Nat.le_add_right _ _) r0) r1 r2 r3 r4 r5
end
theorem ot {α:Type}:∀{l:List α} {i:Nat} (h:i<l.length),(l[i]::l.eraseIdx i).Perm l
 |[],_,h=>absurd h (Nat.not_lt_zero _)
 |x::l,0,_=>.refl _
 |x::l,i+1,h=>by
  have h':i<l.length:=by rw[Zc]at h;lia
  show (l[i]::x::l.eraseIdx i).Perm (x::l);exact(List.Perm.swap _ _ _).trans ((ot h').cons x)
theorem xP {α:Type}(next:Nat->Nat):∀(f k:Nat) (left:List α) (out:Array α),f=left.length->(pickOrder.go next f k left out).toList.Perm (out.toList++left)
 |0,k,left,out,e=>by
  obtain rfl:left=[]:=List.length_eq_zero_iff.mp e.symm;unfold pickOrder.go;rw[ZX]
 |f+1,k,left,out,e=>by
  unfold pickOrder.go;have hi:next k % left.length<left.length:=ab9 _ (by lia)
  rw[Y2 hi];dsimp only;refine(xP next f (k+1) _ _ (by rw[List.length_eraseIdx_of_lt hi];lia)).trans ?_
  rw[aaG,ZV];exact List.Perm.append_left _ (ot hi)
theorem zw {α:Type}(next:Nat->Nat)(xs:Array α):(pickOrder next xs).toList.Perm xs.toList:=by
 have:=xP next xs.size 0 xs.toList #[] (by rw[Y6])
 exact this
theorem bX:Slot "set_iterator" "__next__" "set_iterator.__next__" :=
 .of (owner:="set_iterator") (n:="__next__") (by rw[typeLookup_type,builtinLookup_eq_fast];kernel_rfl) (by decide +kernel) (by decide +kernel) (by decide +kernel)
  (by first|exact .inl (by decide +kernel)|exact .inr (by decide +kernel)) (by rw[isSubtype_type];kernel_rfl)
theorem iA:Slot "set_iterator" "__iter__" "set_iterator.__iter__" :=
 .of (owner:="set_iterator") (n:="__iter__") (by rw[typeLookup_type,builtinLookup_eq_fast];kernel_rfl) (by decide +kernel) (by decide +kernel) (by decide +kernel)
  (by first|exact .inl (by decide +kernel)|exact .inr (by decide +kernel)) (by rw[isSubtype_type];kernel_rfl)
theorem gO:entryFor table "set_iterator.__next__" = some aaz.«set_iterator.__next__»:=entryFor_of_tree (by kernel_rfl)
theorem n_:entryFor table "set_iterator.__iter__" = some aaz.«dict_keyiterator.__iter__» :=
 entryFor_alias (id':="dict_keyiterator.__iter__") (by kernel_rfl) rfl (by decide +kernel) (by kernel_rfl)
theorem og:entryFor table "set.__iter__" = some aaz.«frozenset.__iter__» :=
 entryFor_alias (id':="frozenset.__iter__") (by kernel_rfl) rfl (by decide +kernel) (by kernel_rfl)
theorem iG (a:YU):argsOk "set_iterator.__next__" ⟨[a],[]⟩:=by unfold argsOk;kernel_rfl
theorem pj (a:YU):argsOk "set_iterator.__iter__" ⟨[a],[]⟩:=by unfold argsOk;kernel_rfl
section
variable {prog:Y0}{w:Zd}{A:ZQ}{E:YU->YW->Prop}{s:YW}
variable {a:Addr}{o:Obj}{es:Array (Int×YU)}{ep:Nat}{t:SetTable}
variable {α β:Type}{en:α->Int×YU}{hk:α->Int}{ky:α->β}{ts:List α}
abbrev Az (w:Zd):Bool:=w.params.followText "set-order"
theorem gT {Q:Bool->YW->Prop}(q:Q (Az w) s):Zr (model prog w) A setsByText Q E s:=by
 unfold setsByText;exact YV (acz (YZ q))
def bZ (w:Zd)(a:Addr)(ep:Nat)(es:Array (Int×YU)):Array (Int×YU):=if Az w=true then pickOrder (w.params.setOrder a ep) es else es
theorem gU (w:Zd)(a:Addr)(ep:Nat)(es:Array (Int×YU)):(bZ w a ep es).toList.Perm es.toList:=by
 unfold bZ
 split
 ·exact zw _ _
 ·exact .refl _
theorem zF (S:fI w en hk ky o ts es ep t){Q:Bool->YW->Prop}(ho:s.heap.get? a=some o)(q:Q false s):Zr (model prog w) A (setDrawn a) Q E s:=by
 unfold setDrawn;refine YV (aaD ho S.dat S.fits ?_);dsimp only;refine YV (gT (YZ ?_));have:(!Az w&&(!t.plain&&decide (es.size>1)))=false:=by rw[S.LQ];simp
 show Q (!Az w&&(!t.plain&&decide (es.size>1))) s;rw[this];exact q
theorem md (ho:s.heap.get? a=some o)(S:fI w en hk ky o ts es ep t){sl i:Nat}{Q:Option (YU×Nat)->YW->Prop}(Ey:Az w=false->SetTable.below t.place sl=i)
  (q1:∀e,(bZ w a ep es)[i]?=some e->∀xr:Nat,(Az w=false->SetTable.below t.place xr=i+1)->Q (some (e.2,xr)) s) (q2:(bZ w a ep es)[i]?=none->Q none s) :
  Zr (model prog w) A (setNext a sl i ep) Q E s:=by
 unfold setNext;refine YV (aaD ho S.dat S.fits ?_);dsimp only;refine YV (gT ?_);cases hb:Az w with
 |true =>
  rw[if_pos rfl,if_neg (by simp)]
  unfold setWalk;refine YV (YV (aaD ho S.dat S.fits ?_));dsimp only;refine YV (gT ?_);rw[hb,if_pos rfl];refine YV (acz (YZ (YZ ?_)));have e:bZ w a ep es=pickOrder (w.params.setOrder a ep) es:=by unfold bZ;rw[hb,if_pos rfl]
  rw[e]at q1 q2;show Q (((pickOrder (w.params.setOrder a ep) es)[i]?).map λe=>(e.2,sl)) s;cases hx:(pickOrder (w.params.setOrder a ep) es)[i]? with
  |none=>exact q2 hx
  |some x=>exact q1 x hx sl (λz=>by rw[hb]at z;cases z)
 |false =>
  rw[if_neg (by simp)]
  have e:bZ w a ep es=es:=by unfold bZ;rw[hb,if_neg (by simp)]
  rw[e]at q1 q2;have hd:(!t.plain&&decide (es.size>1))=false:=by rw[S.LQ];rfl
  show Zr _ _ (if (!t.plain&&decide (es.size>1))=true then _ else _) _ _ _
  rw[hd,if_neg (by simp)]
  have hl:t.led=true:=by
   rw[S.led];show (!Az w)=true;rw[hb];rfl
  refine YV ?_;show Zr _ _ (if (!t.led&&!es.isEmpty)=true then _ else _) _ _ _
  rw[hl,if_neg (by simp)]
  refine YZ (YZ ?_);rw[Ey hb];have hz:=S.size
  by_cases hi:i<t.place.size
  ·have h1:es[i]?=some es[i]:=getElem?_pos es i (by omega)
   rw[h1,wA hi];refine q1 _ h1 _ λ_=>?_;obtain⟨b1,b2,b3⟩:=gc S.wf.zi (g t.place i+1);rcases Nat.lt_trichotomy (SetTable.below t.place (g t.place i+1)) (i+1)with z|z|z
   ·have:=b3 i (by omega) hi
    omega
   ·exact z
   ·have:=b2 (i+1) z;have:=S.wf.zi i (i+1) (by omega) (by omega)
    omega
  ·have h1:es[i]?=none:=aaL (by omega)
   rw[h1];exact q2 h1
end
section
variable {prog:Y0}{w:Zd}{A:ZQ}{E:YU->YW->Prop}{s:YW}
variable {a b it:Addr}{o:Obj}{es:Array (Int×YU)}{ep:Nat}{t:SetTable}
variable {α β:Type}{en:α->Int×YU}{hk:α->Int}{ky:α->β}{ts:List α}
def qS (sl i:Nat)(a:Addr)(n ep:Nat):Obj:={cls:=.type "set_iterator",dict:=none,data:=.fields #[.int sl 0,.int i 0,.ref a,.int n 0,.int ep 0],slots:=#[]}
theorem mH {sl i n:Nat} (h:s.heap.get? it=some (qS sl i a n ep)):s.TypeIs (.ref it) "set_iterator" := ⟨_,h,rfl⟩
def Md (w:Zd)(en:α->Int×YU)(hk:α->Int)(ky:α->β)(it a:Addr)(ts:List α)(es:Array (Int×YU))(ep:Nat)(i:Nat)(h:Heap):Prop :=
 ∃sl o t,h.get? it=some (qS sl i a es.size ep)/\h.get? a=some o/\fI w en hk ky o ts es ep t/\(Az w=false->SetTable.below t.place sl=i)
theorem Ba (vt:a≠it){i:Nat}{e:Int×YU}{Q:Option YU->YW->Prop}(st:Md w en hk ky it a ts es ep i s.heap)(he:(bZ w a ep es)[i]?=some e)
  (q:∀h',Md w en hk ky it a ts es ep (i+1) h'->abg it s.heap h'->Q (some e.2) {s with heap:=h'}):Zr (model prog w) A (pyNext (.ref it)) Q E s:=by
 obtain⟨sl,o,t,hi,ho,S,hb⟩:=st;have hT:=mH hi;unfold pyNext;refine YV (acp (acy (name:=Str.ofString "__next__") hT bX (aaB bX hT gO ?_ (iG _))));unfold aaz.«set_iterator.__next__»
 refine YV (YZ ?_);refine YV (wpAny_fieldsOf hi rfl ?_);dsimp only;refine YV (wpAny_setEntries_of ho S.dat S.fits ?_);rw[if_neg (by simp)]
 refine YV (md (i:=i) ho S (λz=>by simpa using hb z) (λe' N_ xr NO=>?_) λhn=>?_)
 ·rw[he]at N_;obtain rfl:=Zt N_;dsimp only;refine YV (wpAny_setField_rec hi (by simp) λh1 g1 MD=>?_)
  refine YV (wpAny_setField_rec (s:={s with heap:=h1}) g1 (by simp) λh2 g2 UE=>?_)
  refine YZ ⟨_,rfl,YZ (q h2 ⟨xr,o,t,?_,?_,S,NO⟩ (MD.trans UE))⟩
  ·rw[g2];rfl
  ·rw[(MD.trans UE).2 a vt];exact ho
 ·rw[he]at hn;cases hn
theorem EY (hh:A.handled=none)(vt:a≠it){i:Nat}{Q:Option YU->YW->Prop}(st:Md w en hk ky it a ts es ep i s.heap)(he:(bZ w a ep es)[i]?=none)
  (q:∀h',Heap.ExtBut it s.heap h'->Q none {s with heap:=h'}):Zr (model prog w) A (pyNext (.ref it)) Q E s:=by
 obtain⟨sl,o,t,hi,ho,S,hb⟩:=st;have hT:=mH hi;unfold pyNext;refine YV (acp (acy (name:=Str.ofString "__next__") hT bX (aaB bX hT gO ?_ (iG _))));unfold aaz.«set_iterator.__next__»
 refine YV (YZ ?_);refine YV (wpAny_fieldsOf hi rfl ?_);dsimp only;refine YV (wpAny_setEntries_of ho S.dat S.fits ?_);rw[if_neg (by simp)]
 refine YV (md (i:=i) ho S (λz=>by simpa using hb z) (λe' N_ xr NO=>?_) λhn=>?_)
 ·rw[he]at N_;cases N_
 ·dsimp only;refine YV (wpAny_setField hi rfl (by simp) ?_)
  refine YV ?_;simp only[newExc,newTuple];refine YV (aal ?_ (by size_fits))
  refine YV (m:=firstArgMember _ _) (wpAny_of_eq (a:=Value.none) (by first|rfl|(simp only[firstArgMember];rfl)) ?_)
  refine aal ?_ (by size_fits)
  simp only[raiseNew];refine YV (wpAny_handled ?_);rw[show A.in1.handled=none from hh]
  refine YV (YZ (wpAny_throw ?_));refine YV (wpAny_isInstance (T:="StopIteration") (b:=true) ⟨_,ZC _ rfl,rfl⟩ isSubtype_stop ?_);exact YZ (q _ (((Heap.SameBut.update ..).extBut.push _).push _))
theorem A_ {i:Nat}{Q:YU->YW->Prop}(st:Md w en hk ky it a ts es ep i s.heap)(q:Q (.ref it) s):Zr (model prog w) A (pyIter (.ref it)) Q E s:=by
 obtain⟨sl,o,t,hi,ho,S,hb⟩:=st;have hT:=mH hi;refine wpAny_pyIter_slot hT iA (aaB iA hT n_ ?_ (pj _));show Zr _ _ (ret (.ref it)) _ _ s;exact YZ ⟨_,rfl,"set_iterator",_,hT,bX.lookup,q⟩
theorem zc (hh:A.handled=none)(vt:a≠it):Walks prog w A it [it,a] [it] es.size (λi v=>∃e,(bZ w a ep es)[i]?=some e/\v=e.2) (Md w en hk ky it a ts es ep) where
 sub:=λb hb=>by rw[Y1.mp hb];exact Y8
 frame:=λi h h' i5 hk=>by obtain⟨sl,o,t,h1,h2,h3⟩:=i5;exact⟨sl,o,t,hk it Y8 _ h1,hk a (Y7 _ Y8) _ h2,h3⟩
 item:=λi s Q E hi st hQ=>by
  have hz:(bZ w a ep es).size=es.size:=by
   have:=(gU w a ep es).length_eq;rw[Y6,Y6]at this;exact this
  have he:(bZ w a ep es)[i]?=some (bZ w a ep es)[i]:=getElem?_pos _ i (by lia)
  exact Ba vt st he λh' aJ sb=>hQ _ h' s.toks ⟨_,he,rfl⟩ aJ λb o hb e=>sb.extBut b o (λz=>hb (by rw[z];exact Y1.mpr rfl)) e
 done:=λs Q E st hQ=>by
  have hz:(bZ w a ep es).size=es.size:=by
   have:=(gU w a ep es).length_eq;rw[Y6,Y6]at this;exact this
  exact EY hh vt st (aaL (by lia)) λh' eb=>hQ h' s.toks λb o hb e=>eb b o (λz=>hb (by rw[z];exact Y1.mpr rfl)) e
 self:=λi s Q E st hQ=>A_ st hQ
theorem jk (ho:s.heap.get? a=some o) (S:fI w en hk ky o ts es ep t):s.TypeIs (.ref a) "set" := ⟨o,ho,S.ex.1⟩
theorem EJ (ho:s.heap.get? a=some o)(S:fI w en hk ky o ts es ep t){Q:YU->YW->Prop}(q:Q (.ref s.heap.objs.size) {s with heap:=s.heap.push (qS 0 0 a es.size ep)}):
  Zr (model prog w) A (pyIter (.ref a)) Q E s:=by
 have hT:=jk ho S;refine wpAny_pyIter_slot hT F.slot_set_iter (aaB F.slot_set_iter hT og ?_ (F.args_set_iter_1 _));unfold aaz.«frozenset.__iter__» Builtin.Frozenset.slot0 Builtin.Frozenset.sizeOf;refine YV (YV (YZ (YZ ?_)));refine YV (YV (wpAny_setEntries_of ho S.dat S.fits (YZ ?_)));refine YV (zF S ho ?_);rw[if_neg (by simp)]
 refine YV (YZ ?_);refine YV (wpAny_setEpoch_of ho S.dat S.fits ?_);unfold newFields;refine YV (aal (YZ ⟨_,rfl,"set_iterator",_,⟨_,ZC _ rfl,rfl⟩,bX.lookup,?_⟩) (by size_fits))
 exact q
theorem EK (ho:s.heap.get? a=some o)(S:fI w en hk ky o ts es ep t){Q:Bool->YW->Prop}(q:Q false s):Zr (model prog w) A (Builtin.List.listLengthHint (.ref a)) Q E s:=by
 have hT:=jk ho S;unfold Builtin.List.listLengthHint;refine YV (wpAny_specialOf hT PySem.F.slot_set_len.lookup ?_);generalize Vm:("set.__len__" : String)=WU
 wp_delta
 rw[show splitId WU=some ("set","__len__") from by subst Vm;decide +kernel]
 subst Vm;refine YV (wpAny_isInstance (T:="set") (b:=true) hT (by rw[isSubtype_type];kernel_rfl) ?_)
 refine wpAny_ite_split (λOf=>absurd Of (by decide)) (λ_=>?_)
 refine wpAny_ite_split (λ_=>?_) (λOf=>absurd (by decide +kernel) Of)
 refine YV (wpAny_typeOf hT ?_);exact YZ q
theorem E5 (prog:Y0)(S:fI w en hk ky o ts es ep t):
  PySem.W.KdlSrc prog w "set" a a es.size (λi v=>∃e,(bZ w a ep es)[i]?=some e/\v=e.2) (λh=>h.get? a=some o) where
 type:=λs ho=>jk ho S
 there:=λh ho=>⟨Za ho,Za ho⟩
 keep:=λh h' ho hk=>hk a (.inl rfl) _ ho
 notList:=by decide
 notTuple:=by decide
 hint:=λA E s Q ho q=>EK ho S q
 iter:=λA s hh ho=>⟨qS 0 0 a es.size ep,Md w en hk ky s.heap.objs.size a ts es ep,λE Q q=>EJ ho S q,zc hh (Zu (Za ho)),
  0,o,t,ZC _ rfl,Y3 _ ho,S,λ_=>by
   obtain⟨b1,b2,b3⟩:=gc S.wf.zi 0;rcases Nat.eq_zero_or_pos (SetTable.below t.place 0)with z|z
   ·exact z
   ·have:=b2 0 z;lia⟩
theorem tE {α β:Type}{f:α->β}:∀{ts:List α} {l:List β},l.Perm (ts.map f)->∃us:List α,us.Perm ts/\l=us.map f
 |[],l,h=>⟨[],.refl _,List.perm_nil.mp h⟩
 |x::ts,l,h=>by
  obtain⟨l1,l2,rfl⟩:=List.append_of_mem (h.mem_iff.mpr (show f x∈(x::ts).map f from Y8))
  have h':(l1++l2).Perm (ts.map f):=(acB.symm.trans h).cons_inv;obtain⟨us,h1,h2⟩:=tE h';obtain⟨u1,u2,rfl,e1,e2⟩:=List.map_eq_append_iff.mp h2.symm;refine⟨u1++x::u2,acB.trans (h1.cons x),?_⟩;rw[aar,Zx,e1,e2]
theorem sF (ho:s.heap.get? a=some o)(S:fI w en hk ky o ts es ep t)(hn:ts.length<=1000):
  ∃us:List α,us.Perm ts/\∀(A:ZQ) (E:YU->YW->Prop) (R:List YU->YW->Prop),A.handled=none->(∀(h':Heap) (tk:Nat),(∀b o,s.heap.get? b=some o->h'.get? b=some o)->R (us.map λx=>(en x).2) {s with heap:=h',toks:=tk}) ->
  Zr (model prog w) A (collect (.ref a)) R E s:=by
 have hw:=gU w a ep es;rw[S.Lf]at hw;obtain⟨us,h1,h2⟩:=tE hw;refine⟨us,h1,λA E R hh q=>?_⟩;refine PySem.W.kdu_collect (E5 prog S) hh ho (by rw[S.size.1,Zw];lia) λh' tk acc hk Oe=>?_
 have e:acc.toList=us.map λx=>(en x).2:=by
  have hz:(bZ w a ep es).size=es.size:=by
   have:=(gU w a ep es).length_eq;rw[Y6,Y6]at this;exact this
  have e2:us.map (λx=>(en x).2)=(bZ w a ep es).toList.map (·.2):=by
   rw[h2,ZM];rfl
  rw[e2];apply aaS;intro i;rw[Zj,Zk,Zk]
  by_cases hi:i<acc.size
  ·obtain⟨x,g1,g2⟩:=Oe.2 i acc[i] (getElem?_pos acc i hi);rw[getElem?_pos acc i hi,g1,g2];rfl
  ·have:=Oe.1;rw[aaL (by lia),aaL (by lia)]
   rfl
 rw[e];exact q h' tk hk
end
section
variable {prog:Y0}{w:Zd}{A:ZQ}{E:YU->YW->Prop}{s:YW}
variable {o:Obj}{ts:List (Addr×List Int)}{es:Array (Int×YU)}{ep:Nat}{t:SetTable}
def iM (w:Zd):Obj:={cls:=.type "set",dict:=none,data:=.set #[] 0 (.fresh 0 0 (!Az w))}
theorem xZ {α β:Type}{en:α->Int×YU}{hk:α->Int}{ky:α->β}(w:Zd):fI w en hk ky (iM w) [] #[] 0 (.fresh 0 0 (!Az w)) where
 ex:=⟨rfl,rfl,rfl⟩
 dat:=rfl
 Lf:=rfl
 wf:=⟨rfl,rfl,λi j _ hj=>absurd hj (Nat.not_lt_zero _),λi hi=>absurd hi (Nat.not_lt_zero _),⟨3,YY _,rfl⟩,Zm _,λi h hi=>by simp at hi⟩
 Qq:=by show 0*5<7*3;decide
 Hy:=by show 7<=8191;decide
 led:=rfl
 LQ:=rfl
 Nb:=Z7
theorem FW (prog:Y0)(w:Zd):lT prog w (iM w) [] #[] 0 (.fresh 0 0 (!Az w)):=xZ w
theorem Cs {xs:List YU} {R:YU->YW->Prop} (hc:acA "set.__new__" ⟨.type "set" :: xs,[]⟩=pure ()) (hx:xs=[]\/∃v,xs=[v]) (q:R (.ref s.heap.objs.size) {s with heap:=s.heap.push (iM w)}) :
  abN (model prog w) A (.call (.builtin "set.__new__") ⟨.type "set" :: xs,[]⟩) (wants R E) s:=by
 refine codeAny_of_tree ?_;show Zr _ A.in1 (acA "set.__new__" ⟨.type "set" :: xs,[]⟩ >>= λ_=>again (.builtin "set.__new__" ⟨.type "set" :: xs,[]⟩)) _ _ s;refine YV (wpAny_of_eq hc (YZ ⟨plainId_quiet F.plain_set_new _,abW F.entry_set_new ?_⟩));rw[Around.under_plainId F.plain_set_new _];unfold aaz.«set.__new__» Builtin.Frozenset.newClass;have V8:=sub_set_self;obtain⟨hp,gs,dr,tk,os⟩:=s;rcases hx with rfl|⟨v,rfl⟩
 all_goals
  dsimp only
  wp_walk
  refine acz (YZ ?_);dsimp only;simp only[newObj];exact YV (wpAny_alloc (YZ (YZ q)))
section
variable {α β:Type}{en:α->Int×YU}{hk:α->Int}{ky:α->β}
theorem Cu {X:Nat->α->Prop}{J:Heap->Prop}{I:Addr}{fp wr:List Addr}{G:Array GenState->Array GenState->Prop}{St:Nat->YW->Prop}{R:Result->YW->Prop}
  {n:Nat} {P:Nat->YU->Prop} (W:WalksS prog w A.in1 I fp wr G n P St) (hP:∀(i:Nat) (v:YU),P i v->∃x,X i x/\v=(en x).2) (hX:∀i x y,X i x->X i y->ky x=ky y) (sa:Addr) (Vb:sa∉fp)
  (hJ:∀h h':Heap,J h->(∀c oc,c∉sa::wr->h.get? c=some oc->h'.get? c=some oc)->J h')
  (add:∀(s:YW) (E:YU->YW->Prop) (Q:Bool->YW->Prop) (o:Obj) (ts:List α) (es:Array (Int×YU)) (ep:Nat) (t:SetTable) (x:α),J s.heap->s.heap.get? sa=some o->fI w en hk ky o ts es ep t->(∀y∈ts,∃m,X m y)->(∃m,X m x)->ts.length<n ->
   LO w en hk ky sa s ts x Q->Zr (model prog w) A.in1 (setAdd sa (en x).2) Q E s) :
  ∀(d i:Nat) (s:YW) (o:Obj) (ts:List α) (es:Array (Int×YU)) (ep:Nat) (t:SetTable),n-i=d->i<=n->St i s->J s.heap->s.heap.get? sa=some o->fI w en hk ky o ts es ep t ->
   (∀y∈ts,∃m,X m y)->(∀m x,m<i->X m x->∃y∈ts,ky y=ky x)->ts.length<=i ->
   (∀s' o' bF fk rL t',Moved (sa::wr) G s s'->s'.heap.get? sa=some o'->fI w en hk ky o' bF fk rL t'->(∀y∈bF,∃m,X m y)->(∀m x,m<n->X m x->∃y∈bF,ky y=ky x)->bF.length<=n->R (.ok (.ret .none)) s') ->
   abN (model prog w) A (.builtin "set.update.loop" ⟨[.ref sa,.ref I],[]⟩) R s:=by
 have yi:sa∉wr:=λz=>Vb (W.sub _ z);have up:∀x∈wr,x∈sa::wr:=λx hx=>Y7 _ hx;intro d
 induction d with
 |zero =>
  intro i s o ts es ep t hd hi st T ho S k1 k2 k3 hR;obtain rfl:i=n:=by lia
  refine abW F.entry_set_update_loop ?_;rw[Around.under_plainId F.plain_set_update_loop _];show Zr _ A.in1 (pyNext (.ref I) >>= _) _ _ s;refine YV (W.done s _ _ st λs' mv=>?_);exact YZ (hR s' o ts es ep t (mv.mono up) (mv.heap sa _ yi ho) S k1 k2 k3)
 |succ d ih =>
  intro i s o ts es ep t hd hi st T ho S k1 k2 k3 hR;refine abW F.entry_set_update_loop ?_;rw[Around.under_plainId F.plain_set_update_loop _];show Zr _ A.in1 (pyNext (.ref I) >>= _) _ _ s;refine YV (W.item i s _ _ (by lia) st λv s1 hv MB mv=>?_)
  obtain⟨x,hx,rfl⟩:=hP i v hv;refine YV (ZW (add s1 _ _ o ts es ep t x (hJ _ _ T λc oc hc e=>mv.heap c oc (λz=>hc (up c z)) e) (mv.heap sa _ yi ho) S k1 ⟨i,hx⟩ (by lia) λh' o' bF fk rL t' added tk r0 r1 r2 r3 r4 r5=>?_))
  have keep:∀c oc,c≠sa->s1.heap.get? c=some oc->h'.get? c=some oc:=λc oc hc e=>by rw[r1.2 c hc];exact e
  have step:(∀y∈bF,∃m,X m y)/\(∀m z,m<i+1->X m z->∃y∈bF,ky y=ky z)/\bF.length<=i+1:=by
   by_cases se:∃y∈ts,ky y=ky x
   ·rw[r4 se];refine⟨k1,λm z hm hz=>?_,by lia⟩
    rcases aaq m i with q|q
    ·exact k2 m z q hz
    ·obtain rfl:m=i:=by lia
     rw[hX m z x hz hx];exact se
   ·have pm:=r5 λy hy e=>se ⟨y,hy,e⟩;refine⟨λy hy=>?_,λm z hm hz=>?_,by rw[pm.length_eq,Zc];lia⟩
    ·rcases Y4.mp (pm.mem_iff.mp hy)with rfl|q
     ·exact⟨i,hx⟩
     ·exact k1 y q
    ·rcases aaq m i with q|q
     ·obtain⟨u,hu,e⟩:=k2 m z q hz;exact⟨u,pm.mem_iff.mpr (Y7 _ hu),e⟩
     ·obtain rfl:m=i:=by lia
      exact⟨x,pm.mem_iff.mpr Y8,hX m x z hx hz⟩
  have U1:Moved (sa::wr) G s {s1 with heap:=h',toks:=tk} :=
   (mv.mono up).then_heap r0 λc oc hc e=>keep c oc (λz=>hc (by rw[z];exact Y8)) e
  exact YZ ⟨plainId_quiet F.plain_set_update_loop _,ih (i+1) _ o' bF fk rL t' (by lia) (by lia) (W.frame _ s1 _ _ MB r0 λc hc oc e=>keep c oc (λz=>Vb (by rw[<- z];exact hc)) e) (hJ _ _ T λc oc hc e=>U1.heap c oc hc e) r2 r3 step.1 step.2.1 step.2.2 λs' o2 V0 X2 X3 t2 m1=>hR s' o2 V0 X2 X3 t2 (Moved.trans W.gtrans U1 m1)⟩
end
end
section
variable {prog:Y0}{w:Zd}{A:ZQ}{E:YU->YW->Prop}{s:YW}
theorem Al {α β:Type}{en:α->Int×YU}{hk:α->Int}{ky:α->β}{X:Nat->α->Prop}{l:Addr}{its:Array YU}{Q:YU->YW->Prop}(hh:A.handled=none)(hl:s.heap.IsList l its)
  (hP:∀(i:Nat) (v:YU),its[i]?=some v->∃x,X i x/\v=(en x).2) (hX:∀i x y,X i x->X i y->ky x=ky y)
  (add:∀(B:ZQ) (s1:YW) (E:YU->YW->Prop) (Q:Bool->YW->Prop) (a:Addr) (o:Obj) (ts:List α) (es:Array (Int×YU)) (ep:Nat) (t:SetTable) (x:α),B.units<=A.units+3->(∀c oc,s.heap.get? c=some oc->s1.heap.get? c=some oc)->s1.heap.get? a=some o->fI w en hk ky o ts es ep t->(∀y∈ts,∃m,X m y)->(∃m,X m x)->ts.length<its.size ->
   LO w en hk ky a s1 ts x Q->Zr (model prog w) B (setAdd a (en x).2) Q E s1)
  (q:∀(h':Heap) (tk:Nat) (o':Obj) (ts:List α) (es:Array (Int×YU)) (ep:Nat) (t:SetTable),(∀c oc,s.heap.get? c=some oc->h'.get? c=some oc)->h'.get? s.heap.objs.size=some o'->fI w en hk ky o' ts es ep t ->
   (∀y∈ts,∃m,X m y)->(∀m x,m<its.size->X m x->∃y∈ts,ky y=ky x)->ts.length<=its.size->Q (.ref s.heap.objs.size) {s with heap:=h',toks:=tk}) :
  Zr (model prog w) A (call (.type "set") [.ref l]) Q E s:=by
 obtain⟨cx,Yu,WK⟩:=F.called_set.mro;have U3:=F.called_set.made;have V7:=F.called_set.sub;refine ab7 (codeAny_of_tree ?_);show Zr _ _ (callAny (.type "set") _) _ _ _;refine YZ ⟨Code.quiet_builtin _ (by decide +kernel),abW F.entry_type_call ?_⟩
 rw[Around.under_plain (weight_type_call_type "set" [.ref l] []) rfl];have t1:=F.called_set.notType;have t2:=F.called_set.canCreate;have t3:=F.typeCall_set_1 (.ref l)
 repeat (any_goals (first|assumption|wp_step))
 have ls:l<s.heap.objs.size:=by obtain⟨ol,S1,_⟩:=hl;exact Za S1
 refine aaY (Cs (w:=w) (E:=E) (xs:=[.ref l]) (R:=λob sx=>ob=.ref s.heap.objs.size/\sx={s with heap:=s.heap.push (iM w)}) (F.newCall_set_1 _) (.inr ⟨_,rfl⟩) ⟨rfl,rfl⟩) λr sx hr=>?_
 cases r with
 |error e=>exact hr
 |ok fl =>
  cases fl with
  |ret ob =>
   obtain⟨rfl,rfl⟩:=hr;have hS:(s.heap.push (iM w)).get? s.heap.objs.size=some (iM w):=ZC _ rfl;have hT:Shared.TypeIs {s with heap:=s.heap.push (iM w)} (.ref s.heap.objs.size) "set" := ⟨_,hS,rfl⟩
   have i1:=F.called_set.init.lookup;have i2:=F.called_set.init.bind (.ref s.heap.objs.size)
   repeat (any_goals (first|assumption|wp_step))
   refine aaY (codeAny_call_builtin (R:=wants (λr s2=>r=.none/\Q (.ref s.heap.objs.size) s2) E) F.called_set.init.plain F.entry_set_init (check_set_init_1 hT ?_)) λr2 s2 rC=>?_
   ·obtain⟨ol,S1,Ez,nl,Vt⟩:=hl;obtain⟨c1,c2,c3,c4⟩:=ol;simp only at Ez Vt;subst Ez Vt;have S0:(s.heap.push (iM w)).get? l=some {cls:=.type "list",dict:=c2,data:=.seq its nl,slots:=c4}:=Y3 _ S1;have u1:=F.sub_list_set;have u2:=F.sub_list_frozenset;have u3:(Value.type "list" == Value.type "dict")=false:=by decide
    have NZ:(s.heap.push (iM w)).IsList l its:=⟨_,S0,rfl,nl,rfl⟩;unfold aaz.«set.__init__» noKeywords Builtin.Frozenset.updateFrom;generalize XN:pyIter=PI
    wp_walk
    subst XN;refine acj NZ ?_;refine YV (wpAny_runValue ?_);have W3:A.in1.in1.in1.handled=none:=by simp[hh]
    have nI:l≠(s.heap.push (iM w)).objs.size:=by rw[Heap.size_push];exact Zu (abC ls)
    have hf:s.heap.objs.size∉[(s.heap.push (iM w)).objs.size,l]:=by
     rw[Heap.size_push];simp only[Y4,aaa,or_false,not_or];exact⟨Zu (Nat.lt_succ_self _),Nat.ne_of_gt ls⟩
    have nw:∀c oc,s.heap.get? c=some oc->c∉s.heap.objs.size::[(s.heap.push (iM w)).objs.size]:=λc oc e z=>by
     have hc:=Za e;rcases Y4.mp z with z|z
     ·exact absurd z (Zu hc)
     ·have z:=Y1.mp z;rw[Heap.size_push]at z;exact absurd z (Zu (abC hc))
    refine Cu (J:=λh=>∀c oc,s.heap.get? c=some oc->h.get? c=some oc) ((Walks.list W3 _ l nI _).toS) hP hX s.heap.objs.size hf (λh h' k kp c oc e=>kp c oc (nw c oc e) (k c oc e)) (λs1 E Q o ts es ep t x=>add _ s1 E Q s.heap.objs.size o ts es ep t x (YY _)) its.size 0 _ (iM w) [] #[] 0 _ rfl (Zm _) ⟨⟨_,ZC _ rfl,rfl,rfl⟩,NZ.push _⟩ (λc oc e=>Y3 _ (Y3 _ e)) (Y3 _ hS) (xZ w) (λx hx=>by cases hx) (λm x hm=>by lia) (Zm _) λs' o' bF fk rL t' m1 m2 m3 m4 m5 m6=>?_
    obtain⟨h',g',d',OX,QM⟩:=s';have eg:g'=s.gens:=m1.gens;have ed:d'=s.drawn:=m1.drawn;have eo:QM=s.os:=m1.os;subst eg ed eo;exact YZ (YZ ⟨rfl,q h' OX o' bF fk rL t' (λc oc e=>m1.heap c oc (nw c oc e) (Y3 _ (Y3 _ e))) m2 m3 m4 m5 m6⟩)
   ·cases r2 with
    |error e=>exact rC
    |ok XW =>
     cases XW with
     |ret r =>
      obtain⟨rfl,hq⟩:=rC
      repeat (any_goals (first|assumption|wp_step))
     |_=>exact rC.elim
  |_=>exact hr.elim
theorem Ak {l:Addr}{vs:List (Addr×List Int)}{Q:YU->YW->Prop}(hh:A.handled=none)(hu:A.units+16<abk)(hl:s.heap.IsList l (vs.map λx=>Value.ref x.1).toArray)(hn:vs.length<1000)(T:LI prog w s.heap vs)
  (q:∀(h':Heap) (tk:Nat) (o':Obj) (ts:List (Addr×List Int)) (es:Array (Int×YU)) (ep:Nat) (t:SetTable),(∀c oc,s.heap.get? c=some oc->h'.get? c=some oc)->h'.get? s.heap.objs.size=some o'->lT prog w o' ts es ep t ->
   (∀x∈ts,x∈vs)->(∀x∈vs,∃y∈ts,y.2=x.2)->Q (.ref s.heap.objs.size) {s with heap:=h',toks:=tk}) :
  Zr (model prog w) A (call (.type "set") [.ref l]) Q E s:=by
 refine Al (en:=ent prog w) (hk:=λx=>kH prog w x.2) (ky:=λx=>x.2) (X:=λi x=>vs[i]?=some x) hh hl (λi v hv=>?_) (λi x y h1 h2=>by rw[Zt (h1.symm.trans h2)]) (λB s1 E Q a o ts es ep t x hB kp ho S h1 h2 h3 q=>?_) λh' tk o' ts es ep t k m2 m3 m4 m5 m6=>?_
 ·rw[abI,Zj]at hv;obtain⟨x,e1,e2⟩:=Zn.mp hv;exact⟨x,e1,e2.symm⟩
 ·have old:∀y,(∃m:Nat,vs[m]?=some y)->(TK prog w).is s1.heap y.2 y.1:=λy h=>by
   obtain⟨m,hm⟩:=h;obtain⟨oy,its,n,g1,g2⟩:=T y (Zz hm);exact⟨oy,its,n,kp _ _ g1,g2⟩
  exact AM ho S (λy hy=>old y (h1 y hy)) (old x h2) (by lia) (by simp at h3;lia) q
 ·refine q h' tk o' ts es ep t k m2 m3 (λx hx=>?_) λx hx=>?_
  ·obtain⟨m,hm⟩:=m4 x hx;exact Zz hm
  ·obtain⟨m,hm⟩:=abb hx;exact m5 m x (by simpa using (Y_.mp hm).1) hm
end
end ST
namespace TS
open PySem PyProof.Rows
section
variable {prog:Y0}{w:Zd}{A:ZQ}{E:YU->YW->Prop}{s:YW}
theorem vM {x:YU}{vs:List YU}{kf:YU->List Int}{Q:YU->YW->Prop}(hz:vs.length<=1000000)
  (col:∀(R:List YU->YW->Prop),(∀(h':Heap) (tk:Nat),(∀b o,s.heap.get? b=some o->h'.get? b=some o)->R vs {s with heap:=h',toks:=tk})->Zr (model prog w) A.in1 (collect x) R E s)
  (T:pq s.heap kf s.heap.objs.size vs)
  (h:∀(out:List YU) (h1 h':Heap) (tk:Nat) (n:Nat),out.Perm vs->out.Pairwise (λx y=>HT.lexLt (kf y) (kf x)=false)->(∀b o,s.heap.get? b=some o->h1.get? b=some o)->(∀b o,h1.get? b=some o->h'.get? b=some o)->h'.get? h1.objs.size=some (aaJ "list" out.toArray n)->Q (.ref h1.objs.size) {s with heap:=h',toks:=tk}) :
  Zr (model prog w) A (call (.builtin "sorted") [x]) Q E s:=by
 refine acg kind_sorted plain_sorted entry_sorted (args_sorted1 _) ?_;unfold aaz.«sorted»
 refine YV (m:=checkCount "sorted" 1 1 _) (YZ ?_);refine YV (col _ λh' tk kp=>?_);have nl:vs.length<=Zf:=by rw[Zw];lia
 refine YV (wpAny_newList ?_ nl);have hl:(h'.push (aaJ "list" vs.toArray 0)).get? h'.objs.size=some (aaJ "list" vs.toArray 0):=ZC _ rfl;have T':pq (h'.push (aaJ "list" vs.toArray 0)) kf h'.objs.size vs:=λv hv=>by
  obtain⟨t,o,xs,k,e1,_,e3,r⟩:=T v hv;exact⟨t,o,xs,k,e1,Zu (Za (kp _ _ e3)),Y3 _ (kp _ _ e3),r⟩
 refine YV (ZW (aaB slot_list_sort ⟨_,hl,rfl⟩ entry_list_sort (nr (s:={s with heap:=h'.push (aaJ "list" vs.toArray 0),toks:=tk}) hl hz T' λout hp hs=>⟨_,rfl,?_⟩) (args_list_sort _)))
 obtain⟨n,hn⟩:=sortedHeap_at (out:=out.toArray) hl;refine YZ ⟨_,rfl,h out h' _ tk n hp hs kp (λb o e=>?_) hn⟩;have hb:=Za e;rw[sortedHeap_old (Zu hb) (by rw[size_push'];exact abC hb)]
 exact Y3 _ e
end
end TS
namespace L2
open PySem PySem.Spec PySem.SeqAt PyProof.Rows HT
theorem fZ:∀{a b:List Int},lexLt a b=false->lexLt b a=false->a=b
 |[],[],_,_=>rfl
 |[],_::_,h,_=>by cases h
 |_::_,[],_,h=>by cases h
 |x::xs,y::ys,h1,h2=>by
  rw[fY]at h1 h2
  by_cases e:x=y
  ·subst e;rw[if_pos rfl]at h1 h2;rw[fZ h1 h2]
  ·rw[if_neg e]at h1;rw[if_neg (λz=>e z.symm)]at h2;have:=of_decide_eq_false h1;have:=of_decide_eq_false h2;omega
theorem iP:∀{a b:List Int},lexLt a b=true->lexLt b a=false
 |[],[],h=>by cases h
 |[],_::_,_=>rfl
 |_::_,[],h=>by cases h
 |x::xs,y::ys,h=>by
  rw[fY]at h ⊢
  by_cases e:x=y
  ·subst e;rw[if_pos rfl]at h ⊢
   exact iP h
  ·rw[if_neg e]at h;rw[if_neg (λz=>e z.symm)];have:=of_decide_eq_true h;exact decide_eq_false (by lia)
theorem gI:∀{a b c:List Int},lexLt a b=true->lexLt b c=true->lexLt a c=true
 |[],[],_,h,_=>by cases h
 |[],_::_,[],_,h=>by cases h
 |[],_::_,_::_,_,_=>rfl
 |_::_,[],_,h,_=>by cases h
 |x::xs,y::ys,[],_,h=>by cases h
 |x::xs,y::ys,z::zs,h1,h2=>by
  rw[fY]at h1 h2 ⊢
  by_cases e:x=y
  ·subst e;rw[if_pos rfl]at h1
   by_cases e2:x=z
   ·subst e2;rw[if_pos rfl]at h2 ⊢
    exact gI h1 h2
   ·rw[if_neg e2]at h2 ⊢
    exact h2
  ·rw[if_neg e]at h1;have q1:=of_decide_eq_true h1
   by_cases e2:y=z
   ·subst e2;rw[if_neg e];exact h1
   ·rw[if_neg e2]at h2;have q2:=of_decide_eq_true h2;rw[if_neg (by omega)]
    exact decide_eq_true (by omega)
noncomputable def wt (k:List Int):List (List Int)->List (List Int)
 |[]=>[k]
 |x::xs=>if lexLt x k=true then x::wt k xs else k::x::xs
def cM:List (List Int)->List (List Int)
 |[]=>[]
 |k::ks=>wt k (cM ks)
theorem kO (k:List Int):∀xs,(wt k xs).Perm (k::xs)
 |[]=>.refl _
 |x::xs=>by
  unfold wt
  split
  ·exact((kO k xs).cons x).trans (List.Perm.swap _ _ _)
  ·exact .refl _
theorem aX:∀ks,(cM ks).Perm ks
 |[]=>.refl _
 |k::ks=>(kO k (cM ks)).trans ((aX ks).cons k)
abbrev rX (ks:List (List Int)):Prop:=ks.Pairwise λx y=>HT.lexLt y x=false
theorem le_trans' {a b c:List Int}(h1:lexLt b a=false)(h2:lexLt c b=false):lexLt c a=false:=by
 cases h:lexLt c a with
 |false=>rfl
 |true =>
  cases hb:lexLt a b with
  |true=>rw[gI h hb]at h2;cases h2
  |false =>
   have:=fZ hb h1;subst this;rw[h]at h2;cases h2
theorem qb (k:List Int):∀xs,rX xs->rX (wt k xs)
 |[],_=>by simp[wt]
 |x::xs,h=>by
  obtain⟨h1,h2⟩:=ZZ.mp h;unfold wt
  split
  ·rename_i hx
   refine ZZ.mpr ⟨λy hy=>?_,qb k xs h2⟩;rcases Y4.mp ((kO k xs).mem_iff.mp hy)with rfl|hy
   ·exact iP hx
   ·exact h1 y hy
  ·rename_i hx
   have LY:lexLt x k=false:=by cases q:lexLt x k <;> simp_all
   refine ZZ.mpr ⟨λy hy=>?_,h⟩;rcases Y4.mp hy with rfl|hy
   ·exact LY
   ·exact le_trans' LY (h1 y hy)
theorem gy:∀ks,rX (cM ks)
 |[]=>.nil
 |k::ks=>qb k _ (gy ks)
theorem k8:∀{a b:List (List Int)},a.Perm b->rX a->rX b->a=b
 |[],b,p,_,_=>by rw[List.nil_perm.mp p]
 |x::a,[],p,_,_=>by have:=p.length_eq;simp at this
 |x::a,y::b,p,ha,hb=>by
  obtain⟨a1,a2⟩:=ZZ.mp ha;obtain⟨b1,b2⟩:=ZZ.mp hb;have RC:x=y:=by
   rcases Y4.mp (p.mem_iff.mp (Y8 (a:=x) (l:=a)))with h|h
   ·exact h
   ·rcases Y4.mp (p.mem_iff.mpr (Y8 (a:=y) (l:=b)))with h' | h'
    ·exact h'.symm
    ·exact fZ (b1 x h) (a1 y h')
  subst RC;rw[k8 (List.perm_cons x |>.mp p) a2 b2]
theorem qN {a b:List (List Int)}(p:a.Perm b)(h:rX a):a=cM b:=k8 (p.trans (aX b).symm) h (gy b)
def jW:List (List Int)->List (List Int)
 |[]=>[]
 |k::ks=>if k∈jW ks then jW ks else k::jW ks
theorem dt:∀l:List (List Int),(jW l).Nodup/\∀x,x∈jW l↔x∈l
 |[]=>⟨Z7,λ_=>Iff.rfl⟩
 |k::ks=>by
  obtain⟨h1,h2⟩:=dt ks;unfold jW
  split
  ·rename_i h
   refine⟨h1,λx=>?_⟩;rw[h2 x,Y4];exact⟨.inr,λz=>z.elim (λe=>by rw[e];exact(h2 k).mp h) id⟩
  ·rename_i h
   refine⟨ZD.mpr ⟨h,h1⟩,λx=>?_⟩;rw[Y4,Y4,h2 x]
theorem l0:∀l:List (List Int),(jW l).length<=l.length
 |[]=>YY _
 |k::ks=>by
  have:=l0 ks;unfold jW
  split
  ·exact Nat.le_succ_of_le this
  ·simpa using this
abbrev kD (k:List Int):D:=.tup (k.map D.int)
noncomputable def fg:List D->Option (List (List Int))
 |[]=>some []
 |.tup a::ds=>match dG a,fg ds with
  |some k,some ks=>if k=[] then none else some (k::ks)
  |_,_=>none
 |_::_=>none
theorem nE:∀{ds:List D} {ks:List (List Int)},fg ds=some ks->ds=ks.map kD/\∀k∈ks,k≠[]
 |[],_,h=>by cases h;exact⟨rfl,λ_ z=>nomatch z⟩
 |.tup a::ds,ks,h=>by
  have h':(match dG a,fg ds with|some k,some ks=>if k=[] then none else some (k::ks)|_,_=>none)=some ks:=h
  cases ea:dG a with
  |none=>rw[ea]at h';cases h'
  |some k =>
   cases eb:fg ds with
   |none=>rw[ea,eb]at h';cases h'
   |some kr =>
    rw[ea,eb]at h'
    by_cases hk:k=[]
    ·simp[hk]at h'
    ·simp only[hk,if_false,Option.some.injEq]at h';subst h';obtain⟨h1,h2⟩:=nE eb;rw[Zx,<- h1,jF ea];refine⟨rfl,λx hx=>?_⟩;rcases Y4.mp hx with rfl|hx
     ·exact hk
     ·exact h2 x hx
 |.b_::_,_,h=>by cases h
 |.bl _::_,_,h=>by cases h
 |.str _::_,_,h=>by cases h
 |.obj _::_,_,h=>by cases h
 |.int _::_,_,h=>by cases h
 |.lst _::_,_,h=>by cases h
 |.dT _ _::_,_,h=>by cases h
 |.dK _ _::_,_,h=>by cases h
 |.sT _::_,_,h=>by cases h
 |.ob _::_,_,h=>by cases h
theorem kK:∀{ks:List (List Int)},(∀k∈ks,k≠[])->fg (ks.map kD)=some ks
 |[],_=>rfl
 |k::ks,h=>by
  show (match dG (k.map D.int),fg (ks.map kD)with|some k,some ks=>if k=[] then none else some (k::ks)|_,_=>none)=_
  rw[ia,kK λx hx=>h x (Y7 _ hx)];simp[h k (Y8 ..)]
section
variable {P:Y0}{w:Zd}{W:Addr->Prop}{H:Hp}
theorem kJ:∀{ks:List (List Int)} {vs:List V},(∀k∈ks,k≠[])->ao P w W H (ks.map kD) vs->∃ts:List (Addr×List Int),vs=ts.map sM/\Au H ts/\ts.map (·.2)=ks
 |[],_,_,h=>⟨[],h,(λ_ z=>nomatch z),rfl⟩
 |k::ks,_,hk,lO=>by
  obtain⟨v,r,e,⟨a,us,e1,e2,e3⟩,h2⟩:=lO;obtain⟨ts,q1,q2,q3⟩:=kJ (λx hx=>hk x (Y7 _ hx)) h2;refine⟨(a,k)::ts,by rw[e,e1,q1];rfl,λt ht=>?_,by rw[Zx,q3]⟩
  rcases Y4.mp ht with rfl|ht
  ·rw[cf e3]at e2;exact⟨e2,hk k (Y8 ..)⟩
  ·exact q2 t ht
theorem hG:∀{ts:List (Addr×List Int)},(∀t∈ts,H t.1=some (.tup (t.2.map V.int)))->ao P w W H ((ts.map (·.2)).map kD) (ts.map sM)
 |[],_=>rfl
 |t::ts,h=>⟨_,_,rfl,⟨t.1,_,rfl,h t (Y8 ..),qa t.2⟩,hG λx hx=>h x (Y7 _ hx)⟩
noncomputable def rN:List D->Option D
 |[.lst ds]=>match fg ds with
  |some ks=>if ks.length<=1000000 then some (.lst ((cM ks).map kD)) else none
  |none=>none
 |[.sT ts]=>if ts.length<=1000/\(∀k∈ts,k≠[]) then some (.lst ((cM ts).map kD)) else none
 |_=>none
theorem CN:∀{ns:List Int} {its:List YU},Vals (ns.map V.int) its->ItemsAre (intKind P w) ns its
 |[],_,.nil=>.nil
 |n::ns,_,.cons r t=>by
  obtain⟨tk,rfl⟩:=r;exact .cons (by show Value.isInt n (.int n tk)=true;simp[Value.isInt]) (CN t)
theorem vI {h:Heap}{ts:List (Addr×List Int)}(ok:iI P w H h)(T:∀t∈ts,H t.1=some (.tup (t.2.map V.int))):ST.LI P w h ts:=λt ht=>by
 obtain⟨_,its,r,o,ho,hc,n,hd⟩:=(show dv P w H h t.1 (.tup (t.2.map V.int)) from ok _ _ (T t ht))
 refine⟨o,its.toArray,n,ho,hc,hd,?_⟩;exact CN r
def HX:List D->Option D
 |[.lst ds]=>match fg ds with
  |some ks=>if ks.length<1000 then some (.sT (jW ks)) else none
  |none=>none
 |_=>none
end
section
end
theorem kU {X:Cx} (hc:X.calm=true) (hu:X.A.units+16<abk):a_ X (.type "set") HX:=by
 intro pins s σ H xs us Q I r h;obtain⟨W,ds,d,hd,r1,e,q⟩:=h
 match ds,e with
 |[.lst es],e =>
  have e':(match fg es with|some ks=>if ks.length<1000 then some (D.sT (jW ks)) else none|none=>none)=some d:=e
  cases ek:fg es with
  |none=>rw[ek]at e';cases e'
  |some ks =>
   rw[ek]at e';obtain⟨hl,rfl⟩:=cb e';obtain⟨rfl,hk⟩:=nE ek;obtain⟨x,rfl,p,vs,rfl,hp,n1,q1⟩:=qG r1;obtain⟨ts,rfl,T,rfl⟩:=kJ hk q1;obtain⟨u,rfl,rx⟩:=vals1 r;cases rx;obtain⟨its,r',pl,hz⟩:=I.list (dC.of hp);obtain rfl:=jY r';refine ST.Ak (w:=X.w) (I.ok.hd hc) hu pl.isList (by simpa using hl) (vI I.bu λt ht=>(T t ht).1) λh' tk o' bF es ep t kp ho S m1 m2=>?_
   have Gm:H s.heap.objs.size=none:=I.bu.fresh (YY _);have nd:=dt (ts.map (·.2));refine⟨.ref s.heap.objs.size,_,I.laid (t':=tk) (o:=gQ X.prog X.w s.heap.objs.size bF) kp (YY _) ?_,rfl,q _ _ (aD.new Gm) ⟨_,rfl,⟨bF,aE,λx hx=>?_,?_⟩,xY hd Gm⟩⟩
   ·refine⟨⟨o',es,ep,t,ho,S⟩,⟨o',ho⟩,λh1 h2 lQ k=>by obtain⟨o1,e1,Ol,t1,g1,g2⟩:=lQ;exact⟨o1,e1,Ol,t1,k _ g1,g2⟩⟩
   ·exact(aD.new Gm) _ _ (T x (m1 x hx)).1
   ·refine(aa_ S.Nb nd.1).mpr λk=>?_;rw[nd.2 k,ZE,ZE];constructor
    ·rintro⟨x,hx,rfl⟩;exact⟨x,m1 x hx,rfl⟩
    ·rintro⟨x,hx,rfl⟩;obtain⟨y,hy,e⟩:=m2 x hx;exact⟨y,hy,e⟩
section
variable {X:Cx}{W:Addr->Prop}{H:Hp}
theorem v7 {p:Addr}{vs:List V}{ds:List D}(n:H p=none)(f:NL (.lst ds))(r:oN X W H ds vs):Rp X (λa=>H a≠none) (upd H p (.lst vs)) (.lst ds) (.ref p) :=
 ⟨p,vs,rfl,aE,λz=>z n,ao.flat f (r.same (aD.new n))⟩
def Qy (X:Cx)(f:D->D->Option D):R2:=λx y H Q=>∃W d1 d2 d,Dm W H/\Rp X W H d1 x/\Rp X W H d2 y/\f d1 d2=some d/\∀v H',aD H H'->Rp X W H' d v->(NL d->Rp X (λa=>H a≠none) H' d v)->Q v H'
def Qx (X:Cx)(f:List D->Option D):List V->Hp->VK->Prop:=λxs H Q=>∃W ds d,Dm W H/\oN X W H ds xs/\f ds=some d/\∀v H',aD H H'->Rp X W H' d v->(NL d->Rp X (λa=>H a≠none) H' d v)->Q v H'
def ML (X:Cx)(f:D->Option Int->Option Int->Option D):V->Option Int->Option Int->Hp->VK->Prop:=λx lo hi H Q=>∃W d1 d,Dm W H/\Rp X W H d1 x/\f d1 lo hi=some d/\∀v H',aD H H'->Rp X W H' d v->(NL d->Rp X (λa=>H a≠none) H' d v)->Q v H'
abbrev OR (X:Cx)(f:YU->YU->Sem YU)(g:D->D->Option D):Prop:=ik X f (Qy X g)
abbrev xh (X:Cx)(f:YU)(g:List D->Option D):Prop:=gk X f (Qx X g)
theorem aG:OR X (aas .Add) ph:=by
 intro pins s σ H x y v u Q I rx ry h;obtain⟨W,d1,d2,d,hd,r1,r2,e,q⟩:=h;rcases zK e with⟨a,b,rfl,rfl,e⟩|e
 ·obtain⟨hl,rfl⟩:=cb e;obtain⟨p,vs,rfl,h1,n1,q1⟩:=r1;obtain⟨p',vs',rfl,h2,n2,q2⟩:=r2;exact B0 pins s σ H _ _ v u Q I rx ry ⟨p,p',vs,vs',rfl,rfl,h1,h2,by rw[q1.length,q2.length];exact hl,λl oG=>q _ _ (aD.new oG) (Rp.iO hd oG (q1.append q2)) λf=>v7 oG f (q1.append q2)⟩
 ·obtain⟨i,j,rfl,rfl,e⟩:=kL e;cases e;cases r1;cases r2;exact JD pins s σ H _ _ v u Q I rx ry ⟨i,j,rfl,rfl,q _ _ (aD.refl _) rfl λ_=>rfl⟩
theorem EW:Uc X (ML X Pt):=by
 intro pins s σ H x v vl vu lo hi sl Q I rx hs pl pu h;obtain⟨W,d1,d,hd,r1,e,q⟩:=h;cases d1 with
 |lst ds =>
  cases e;obtain⟨p,vs,rfl,h1,n1,q1⟩:=r1;have rr:oN X W H (cutD ds lo hi) (uZ vs lo hi):=by
   unfold uZ cutD;rw[q1.length];exact(ao.drop _ q1).take _
  exact xq pins s σ H _ v vl vu lo hi sl Q I rx hs pl pu ⟨p,vs,rfl,dC.of h1,λl hl=>q _ _ (aD.new hl) (Rp.iO hd hl rr) λf=>v7 hl f rr⟩
 |_=>cases e
theorem du:xh X (.type "list") dList:=by
 intro pins s σ H xs us Q I r h;obtain⟨W,ds,d,hd,r1,e,q⟩:=h
 match ds,e with
 |[.lst es],e =>
  cases e;obtain⟨v,r',rfl,⟨p,vs,rfl,h1,n1,q1⟩,hr⟩:=r1;cases hr;exact jP pins s σ H _ us Q I r ⟨p,vs,rfl,.inl (dC.of h1),λl hl=>q _ _ (aD.new hl) (Rp.iO hd hl q1) λf=>v7 hl f q1⟩
 |[.tup es],e =>
  cases e;obtain⟨v,r',rfl,⟨p,vs,rfl,h1,q1⟩,hr⟩:=r1;cases hr;exact jP pins s σ H _ us Q I r ⟨p,vs,rfl,.inr (su.of h1),λl hl=>q _ _ (aD.new hl) (Rp.iO hd hl q1) λf=>v7 hl f q1⟩
theorem cm:xh X (.builtin "sorted") (λds=>match ds with | [.lst ds]=>rN [.lst ds]|_=>none):=by
 intro pins s σ H xs us Q I r h;obtain⟨W,ds,d,hd,r1,e,q⟩:=h
 match ds,e with
 |[.lst es],e =>
  have e':(match fg es with|some ks=>if ks.length<=1000000 then some (D.lst ((cM ks).map kD)) else none|none=>none)=some d:=e
  cases ek:fg es with
  |none=>rw[ek]at e';cases e'
  |some ks =>
   rw[ek]at e';obtain⟨hl,rfl⟩:=cb e';obtain⟨rfl,hk⟩:=nE ek;obtain⟨x,rfl,p,vs,rfl,hp,n1,q1⟩:=qG r1;obtain⟨ts,rfl,T,rfl⟩:=kJ hk q1;refine rS pins s σ H _ us Q I r ⟨p,ts,rfl,dC.of hp,T,by simpa using hl,λl bF oG Vd Xf=>?_⟩
   have eq:bF.map (·.2)=cM (ts.map (·.2)):=qN (Vd.map _) (aa4.mpr Xf);rw[<- eq]at q;have rk:=hG (P:=X.prog) (w:=X.w) (W:=W) (H:=H) (ts:=bF) λt ht=>(T t (Vd.mem_iff.mp ht)).1;exact q _ _ (aD.new oG) (Rp.iO hd oG rk) λf=>v7 oG f rk
theorem dW (hc:X.calm=true):xh X (.builtin "sorted") (λds=>match ds with | [.sT ts]=>rN [.sT ts]|_=>none):=by
 intro pins s σ H xs us Q I r h;obtain⟨W,ds,d,hd,r1,e,q⟩:=h
 match ds,e with
 |[.sT ks],e =>
  obtain⟨⟨hl,hk⟩,rfl⟩:=cb (show (if ks.length<=1000/\(∀k∈ks,k≠[]) then some (D.lst ((cM ks).map kD)) else none)=some d from e)
  obtain⟨x,rfl,p,rfl,⟨ts,hp,T,pm⟩,nW⟩:=qG r1;obtain⟨u,rfl,rx⟩:=vals1 r;cases rx;obtain⟨⟨o,es,ep,t,ho,S⟩,_,_⟩:=(show dv X.prog X.w H s.heap p (gQ X.prog X.w p ts) from I.bu p _ hp)
  have tl:ts.length=ks.length:=by rw[<- pm.length_eq,YX]
  have T':Au H ts:=λt ht=>⟨T t ht,hk _ (pm.mem_iff.mp (ZE.mpr ⟨t,ht,rfl⟩))⟩;obtain⟨us,HE,col⟩:=ST.sF (s:=s) ho S (by omega)
  have T2:Au H us:=λt ht=>T' t (HE.mem_iff.mp ht);refine TS.vM (vs:=us.map λx=>Value.ref x.1) (kf:=wg H) (by rw[YX,HE.length_eq];omega) (λR hR=>col _ _ R (by simp[I.ok.hd hc]) λh' tk kp=>hR h' tk kp) (xl I.bu T2 (YY _)) λout h1 h' tk n Pg hs k1 kp zV=>?_
  ·obtain⟨e1,e2⟩:=pN T2 Pg;have zl:out.length=us.length:=by rw[Pg.length_eq,YX]
   have eq:(out.map (HM H)).map (·.2)=cM ks:=by
    refine qN ((e2.trans HE).map _ |>.trans pm) ?_
    refine aa4.mpr (aa4.mpr ?_);refine hs.imp_of_mem λ{x y} hx hy hh=>?_;obtain⟨t,ht,rfl⟩:=ZE.mp (Pg.mem_iff.mp hx);obtain⟨t',Ge,rfl⟩:=ZE.mp (Pg.mem_iff.mp hy);exact hh
   have I1:Inv X pins σ H {s with heap:=h1,toks:=s.toks}:=I.kept k1
   have Gm:H h1.objs.size=none:=I1.bu.fresh (YY _);refine⟨.ref h1.objs.size,_,I1.laid (t':=tk) (o:=.lst ((out.map (HM H)).map sM)) kp (YY _) ?_,rfl,q _ _ (aD.new Gm) ?_ ?_⟩
   ·refine⟨by rw[YX,YX,zl,HE.length_eq,Zw];omega,out,n,?_,zV⟩
    have:=ke (out.map (HM H));rw[<- e1]at this;exact this
   ·rw[<- eq];exact Rp.iO hd Gm (hG λt ht=>(T2 t (e2.mem_iff.mp ht)).1)
   ·rw[<- eq];exact λf=>v7 (W:=W) Gm f (hG λt ht=>(T2 t (e2.mem_iff.mp ht)).1)
end
section
end
end L2
namespace L2.Q
open PySem PySem.Spec PySem.SeqAt PyProof.Rows
section
variable (P:Y0)(w:Zd)(H:Hp)
mutual
def Own:D->V->List Addr->Prop
 |.tup ds,v,A=>∃a vs,v=.ref a/\H a=some (.tup vs)/\a9 ds vs A
 |.lst ds,v,A=>∃a vs A',v=.ref a/\H a=some (.lst vs)/\A=a::A'/\a9 ds vs A'
 |.dT ks ds,v,A=>∃a vs A',v=.ref a/\H a=some (.dT (ks.zip vs))/\ks.length=vs.length/\A=a::A'/\a9 ds vs A'
 |.dK ks ds,v,A=>∃a vs A',v=.ref a/\H a=some (.dK (ks.zip vs))/\ks.length=vs.length/\A=a::A'/\a9 ds vs A'
 |.sT ts,v,A=>∃a,v=.ref a/\G8 P w H a ts/\A=[a]
 |.ob φ,v,A=>∃a,v=.ref a/\(H a=some (φ a)/\∀xs,φ a≠.tup xs)/\A=[a]
 |.b_,v,A=>v=.b_/\A=[]
 |.bl b,v,A=>v=.bl b/\A=[]
 |.int i,v,A=>v=.int i/\A=[]
 |.str x,v,A=>v=.str x/\A=[]
 |.obj a,v,A=>v=.ref a/\A=[]
def a9:List D->List V->List Addr->Prop
 |[],vs,A=>vs=[]/\A=[]
 |d::ds,vs,A=>∃v r A1 A2,vs=v::r/\A=A1++A2/\Own d v A1/\a9 ds r A2
end
end
section
variable {P:Y0}{w:Zd}{W:Addr->Prop}{H H':Hp}
theorem zd {a:Addr}{ts:List (List Int)}(k:∀b xs,H b=some (.tup xs)->H' b=some (.tup xs))(ha:∀o,H a=some o->H' a=some o)(h:G8 P w H a ts):G8 P w H' a ts :=
 let ⟨bF,e,r,z⟩:=h;⟨bF,ha _ e,λx hx=>k _ _ (r x hx),z⟩
mutual
theorem Own.keep (k:∀b xs,H b=some (.tup xs)->H' b=some (.tup xs)):∀{d:D} {v:V} {A:List Addr},(∀c∈A,∀o,H c=some o->H' c=some o)->Own P w H d v A->Own P w H' d v A
 |.tup ds,_,_,ha,lO=>by obtain⟨a,vs,e,t,r⟩:=lO;exact⟨a,vs,e,k a vs t,a9.keep k ha r⟩
 |.lst ds,_,_,ha,CU=>by obtain⟨a,vs,A',e,t,eA,r⟩:=CU;exact⟨a,vs,A',e,ha a (by rw[eA];simp) _ t,eA,a9.keep k (λc hc=>ha c (by rw[eA];simp[hc])) r⟩
 |.dT ks ds,_,_,ha,CT=>by obtain⟨a,vs,A',e,t,l,eA,r⟩:=CT;exact⟨a,vs,A',e,ha a (by rw[eA];simp) _ t,l,eA,a9.keep k (λc hc=>ha c (by rw[eA];simp[hc])) r⟩
 |.dK ks ds,_,_,ha,Gb=>by obtain⟨a,vs,A',e,t,l,eA,r⟩:=Gb;exact⟨a,vs,A',e,ha a (by rw[eA];simp) _ t,l,eA,a9.keep k (λc hc=>ha c (by rw[eA];simp[hc])) r⟩
 |.sT ts,_,_,ha,Kl=>by obtain⟨a,e,r,eA⟩:=Kl;exact⟨a,e,zd k (λo ho=>ha a (by rw[eA];simp) o ho) r,eA⟩
 |.ob φ,_,_,ha,NJ=>by obtain⟨a,e,r,eA⟩:=NJ;exact⟨a,e,⟨ha a (by rw[eA];simp) _ r.1,r.2⟩,eA⟩
 |.b_,_,_,_,h=>h
 |.bl _,_,_,_,h=>h
 |.int _,_,_,_,h=>h
 |.str _,_,_,_,h=>h
 |.obj _,_,_,_,h=>h
theorem a9.keep (k:∀b xs,H b=some (.tup xs)->H' b=some (.tup xs)):∀{ds:List D} {vs:List V} {A:List Addr},(∀c∈A,∀o,H c=some o->H' c=some o)->a9 P w H ds vs A->a9 P w H' ds vs A
 |[],_,_,_,h=>h
 |d::ds,_,_,ha,NH=>by obtain⟨v,r,A1,A2,e,eA,h1,h2⟩:=NH;exact⟨v,r,A1,A2,e,eA,Own.keep k (λc hc=>ha c (by rw[eA];simp[hc])) h1,a9.keep k (λc hc=>ha c (by rw[eA];simp[hc])) h2⟩
end
mutual
theorem Own.rep:∀{d:D} {v:V} {A:List Addr},(∀c∈A,¬ W c)->Own P w H d v A->aF P w W H d v
 |.tup ds,_,_,ha,RY=>by obtain⟨a,vs,e,t,r⟩:=RY;exact⟨a,vs,e,t,a9.rep ha r⟩
 |.lst ds,_,_,ha,RX=>by obtain⟨a,vs,A',e,t,eA,r⟩:=RX;exact⟨a,vs,e,t,ha a (by rw[eA];simp),a9.rep (λc hc=>ha c (by rw[eA];simp[hc])) r⟩
 |.dT ks ds,_,_,ha,Kz=>by obtain⟨a,vs,A',e,t,l,eA,r⟩:=Kz;exact⟨a,vs,e,t,l,ha a (by rw[eA];simp),a9.rep (λc hc=>ha c (by rw[eA];simp[hc])) r⟩
 |.dK ks ds,_,_,ha,Ky=>by obtain⟨a,vs,A',e,t,l,eA,r⟩:=Ky;exact⟨a,vs,e,t,l,ha a (by rw[eA];simp),a9.rep (λc hc=>ha c (by rw[eA];simp[hc])) r⟩
 |.sT ts,_,_,ha,Kx=>by obtain⟨a,e,r,eA⟩:=Kx;exact⟨a,e,r,ha a (by rw[eA];simp)⟩
 |.ob φ,_,_,ha,Kw=>by obtain⟨a,e,r,eA⟩:=Kw;exact⟨a,e,r,ha a (by rw[eA];simp)⟩
 |.b_,_,_,_,h=>h.1
 |.bl _,_,_,_,h=>h.1
 |.int _,_,_,_,h=>h.1
 |.str _,_,_,_,h=>h.1
 |.obj _,_,_,_,h=>h.1
theorem a9.rep:∀{ds:List D} {vs:List V} {A:List Addr},(∀c∈A,¬ W c)->a9 P w H ds vs A->ao P w W H ds vs
 |[],_,_,_,h=>h.1
 |d::ds,_,_,ha,Kv=>by obtain⟨v,r,A1,A2,e,eA,h1,h2⟩:=Kv;exact⟨v,r,e,Own.rep (λc hc=>ha c (by rw[eA];simp[hc])) h1,a9.rep (λc hc=>ha c (by rw[eA];simp[hc])) h2⟩
end
mutual
theorem Own.o_:∀{d:D} {v:V} {A:List Addr},Own P w H d v A->∀c∈A,H c≠none/\∀xs,H c≠some (.tup xs)
 |.tup ds,_,_,Ku,c,hc=>by obtain⟨a,vs,e,t,r⟩:=Ku;exact a9.o_ r c hc
 |.lst ds,_,_,Kt,c,hc=>by
  obtain⟨a,vs,A',e,t,eA,r⟩:=Kt;rw[eA]at hc;rcases Y4.mp hc with rfl|hc
  ·rw[t];exact⟨λz=>(nomatch z),λxs z=>by cases z⟩
  ·exact a9.o_ r c hc
 |.dT ks ds,_,_,Ks,c,hc=>by
  obtain⟨a,vs,A',e,t,l,eA,r⟩:=Ks;rw[eA]at hc;rcases Y4.mp hc with rfl|hc
  ·rw[t];exact⟨λz=>(nomatch z),λxs z=>by cases z⟩
  ·exact a9.o_ r c hc
 |.dK ks ds,_,_,Kr,c,hc=>by
  obtain⟨a,vs,A',e,t,l,eA,r⟩:=Kr;rw[eA]at hc;rcases Y4.mp hc with rfl|hc
  ·rw[t];exact⟨λz=>(nomatch z),λxs z=>by cases z⟩
  ·exact a9.o_ r c hc
 |.sT ts,_,_,Kq,c,hc=>by
  obtain⟨a,e,⟨bF,t,r,z⟩,eA⟩:=Kq;rw[eA]at hc;rw[Y1.mp hc,t];exact⟨λz=>(nomatch z),λxs z=>by cases z⟩
 |.ob φ,_,_,Ko,c,hc=>by
  obtain⟨a,e,⟨t,z⟩,eA⟩:=Ko;rw[eA]at hc;rw[Y1.mp hc,t];exact⟨λz=>(nomatch z),λxs q=>z xs (Zt q)⟩
 |.b_,_,_,h,c,hc=>by rw[h.2]at hc;cases hc
 |.bl _,_,_,h,c,hc=>by rw[h.2]at hc;cases hc
 |.int _,_,_,h,c,hc=>by rw[h.2]at hc;cases hc
 |.str _,_,_,h,c,hc=>by rw[h.2]at hc;cases hc
 |.obj _,_,_,h,c,hc=>by rw[h.2]at hc;cases hc
theorem a9.o_:∀{ds:List D} {vs:List V} {A:List Addr},a9 P w H ds vs A->∀c∈A,H c≠none/\∀xs,H c≠some (.tup xs)
 |[],_,_,h,c,hc=>by rw[h.2]at hc;cases hc
 |d::ds,_,_,Kn,c,hc=>by
  obtain⟨v,r,A1,A2,e,eA,h1,h2⟩:=Kn;rw[eA]at hc;rcases Zb.mp hc with hc|hc
  ·exact Own.o_ h1 c hc
  ·exact a9.o_ h2 c hc
end
mutual
theorem eF:∀{d:D} {v:V},d.flat=true->aF P w W H d v->Own P w H d v []
 |.tup ds,_,f,Km=>by obtain⟨a,vs,e,t,r⟩:=Km;exact⟨a,vs,e,t,hZ (by simpa[D.flat] using f) r⟩
 |.lst ds,_,f,_=>by simp[D.flat]at f
 |.dT ks ds,_,f,_=>by simp[D.flat]at f
 |.dK ks ds,_,f,_=>by simp[D.flat]at f
 |.sT ts,_,f,_=>by simp[D.flat]at f
 |.ob φ,_,f,_=>by simp[D.flat]at f
 |.b_,_,_,h=>⟨h,rfl⟩
 |.bl _,_,_,h=>⟨h,rfl⟩
 |.int _,_,_,h=>⟨h,rfl⟩
 |.str _,_,_,h=>⟨h,rfl⟩
 |.obj _,_,_,h=>⟨h,rfl⟩
theorem hZ:∀{ds:List D} {vs:List V},D.bP ds=true->ao P w W H ds vs->a9 P w H ds vs []
 |[],_,_,h=>⟨h,rfl⟩
 |d::ds,_,f,R8=>by
  obtain⟨v,r,e,h1,h2⟩:=R8;have f':(d.flat&&D.bP ds)=true:=f;rw[ZI]at f';exact⟨v,r,[],[],e,rfl,eF f'.1 h1,hZ f'.2 h2⟩
end
theorem a9.length:∀{ds:List D} {vs:List V} {A:List Addr},a9 P w H ds vs A->vs.length=ds.length
 |[],_,_,h=>by rw[h.1];rfl
 |d::ds,_,_,R7=>by obtain⟨v,r,A1,A2,e,eA,h1,h2⟩:=R7;rw[e,Zc,Zc,a9.length h2]
theorem a9.append:∀{ds ds':List D} {vs vs':List V} {A A':List Addr},a9 P w H ds vs A->a9 P w H ds' vs' A'->a9 P w H (ds++ds') (vs++vs') (A++A')
 |[],_,_,_,_,_,h,h'=>by rw[h.1,h.2];exact h'
 |d::ds,_,_,_,_,_,R6,h'=>by
  obtain⟨v,r,A1,A2,e,eA,h1,h2⟩:=R6;subst e eA;exact⟨v,_,A1,_,rfl,by rw[ZV],h1,a9.append h2 h'⟩
theorem a9.one {d:D}{v:V}{A:List Addr}(h:Own P w H d v A):a9 P w H [d] [v] A:=⟨v,[],A,[],rfl,by simp,h,rfl,rfl⟩
theorem a9.split:∀{ds:List D} {vs:List V} {A:List Addr} {i:Nat} {d:D},a9 P w H ds vs A->ds[i]?=some d->∃v A1 A2 A3,vs[i]?=some v/\A=A1++(A2++A3)/\a9 P w H (ds.take i) (vs.take i) A1/\Own P w H d v A2/\a9 P w H (ds.drop (i+1)) (vs.drop (i+1)) A3
 |[],_,_,_,_,_,e=>by simp at e
 |d::ds,_,_,0,_,R5,e'=>by
  obtain⟨v,r,A1,A2,e,eA,h1,h2⟩:=R5;simp at e';subst e' e eA;exact⟨v,[],A1,A2,by simp,by simp,⟨rfl,rfl⟩,h1,by simpa using h2⟩
 |d::ds,_,_,i+1,_,R4,e'=>by
  obtain⟨v,r,A1,A2,e,eA,h1,h2⟩:=R4;subst e eA;obtain⟨u,B1,B2,B3,g1,g2,g3,g4,g5⟩:=a9.split (i:=i) h2 (by simpa using e')
  exact⟨u,A1++B1,B2,B3,by simpa using g1,by rw[g2];simp[ZV],by simpa using ⟨v,_,A1,B1,rfl,rfl,h1,g3⟩,g4,by simpa using g5⟩
end
inductive Kd where
 |own|gm|old|bor
inductive Sk where
 |one|two|at (h:Addr)
inductive B where
 |val (y:Bool) (d:D)|own (d:D)|hand (ok:List Int->Prop)|shl (y:Sk) (d:D)
abbrev ba:=List (Option B)
structure Cfg where
 H0:Hp
 IO:Addr->Prop
 ro:Bool
 U:Addr->Prop:=λ_=>False
abbrev Wn (own:Nat->List Addr):Addr->Prop:=λa=>∃i,a∈own i
def av (C:Cfg)(W:Addr->Prop):Kd->Addr->Prop
 |.own,a=>W a\/C.H0 a≠none
 |.gm,a=>W a\/C.H0 a≠none
 |.old,a=>W a
 |.bor,_=>False
def jT (C:Cfg)(W:Addr->Prop)(k:Kd)(a:Addr):Prop:=av C W k a\/C.U a
abbrev yk (y:Bool):Kd:=match y with|true=>.gm|false=>.old
def Wf:D->HO->List V->Prop
 |.lst _,o,vs=>o=.lst vs
 |.dT ks _,o,vs=>o=.dT (ks.zip vs)/\ks.length=vs.length
 |.dK ks _,o,vs=>o=.dK (ks.zip vs)/\ks.length=vs.length
 |_,_,_=>False
def Wg:D->List D
 |.lst ds=>ds
 |.dT _ ds=>ds
 |.dK _ ds=>ds
 |_=>[]
def G9 (P:Y0)(w:Zd)(W:Addr->Prop)(H:Hp):List D->List V->List Addr->Prop
 |[],vs,A=>vs=[]/\A=[]
 |d::ds,vs,A=>∃b us r A',vs=.ref b::r/\A=b::A'/\H b=some (.lst us)/\(∃es,d=.lst es/\ao P w W H es us)/\G9 P w W H ds r A'
def oC (P:Y0)(w:Zd)(W:Addr->Prop)(H:Hp)(d:D)(v:V)(A:List Addr):Prop:=∃a o vs,v=.ref a/\A=[a]/\H a=some o/\Wf d o vs/\ao P w W H (Wg d) vs
def Me (P:Y0)(w:Zd)(W:Addr->Prop)(H:Hp)(y:Sk)(d:D)(v:V)(A:List Addr):Prop:=match y with
 |.one=>oC P w W H d v A
 |.at h=>oC P w W H d v A/\v=.ref h
 |.two=>∃a vs A' ds,v=.ref a/\A=a::A'/\H a=some (.lst vs)/\d=.lst ds/\G9 P w W H ds vs A'
theorem G9.map {P:Y0}{w:Zd}{W W':Addr->Prop}{H H':Hp}(hr:∀ds vs,ao P w W H ds vs->ao P w W' H' ds vs):∀{ds:List D} {vs:List V} {A:List Addr},(∀c∈A,∀o,H c=some o->H' c=some o)->G9 P w W H ds vs A->G9 P w W' H' ds vs A
 |[],_,_,_,h=>h
 |_::_,_,_,ha,R1=>by obtain⟨b,us,r,A',e1,e2,e3,⟨es,e4,e5⟩,h⟩:=R1;exact⟨b,us,r,A',e1,e2,ha b (by rw[e2];simp) _ e3,⟨es,e4,hr _ _ e5⟩,G9.map hr (λc hc=>ha c (by rw[e2];simp[hc])) h⟩
theorem G9.rep {P:Y0}{w:Zd}{W W':Addr->Prop}{H:Hp}(hs:∀ds vs,ao P w W H ds vs->ao P w W' H ds vs):∀{ds:List D} {vs:List V} {A:List Addr},(∀c∈A,¬ W' c)->G9 P w W H ds vs A->ao P w W' H ds vs
 |[],_,_,_,h=>h.1
 |_::_,_,_,ha,RZ=>by
  obtain⟨b,us,r,A',e1,e2,e3,⟨es,e4,e5⟩,h⟩:=RZ;subst e1 e2 e4;exact⟨.ref b,r,rfl,⟨b,us,rfl,e3,ha b (by simp),hs _ _ e5⟩,G9.rep hs (λc hc=>ha c (by simp[hc])) h⟩
theorem oC.map {P:Y0}{w:Zd}{W W':Addr->Prop}{H H':Hp}{d:D}{v:V}{A:List Addr}(h:oC P w W H d v A)(ha:∀c∈A,∀o,H c=some o->H' c=some o)(hr:∀ds vs,ao P w W H ds vs->ao P w W' H' ds vs):oC P w W' H' d v A :=
 let ⟨a,o,vs,e1,e2,e3,e4,r⟩:=h;⟨a,o,vs,e1,e2,ha a (by rw[e2];simp) o e3,e4,hr _ _ r⟩
theorem Me.map {P:Y0}{w:Zd}{W W':Addr->Prop}{H H':Hp}{y:Sk}{d:D}{v:V}{A:List Addr}(h:Me P w W H y d v A)(ha:∀c∈A,∀o,H c=some o->H' c=some o)(hr:∀ds vs,ao P w W H ds vs->ao P w W' H' ds vs):Me P w W' H' y d v A:=by
 cases y with
 |one=>exact oC.map h ha hr
 | «at» b=>exact⟨oC.map h.1 ha hr,h.2⟩
 |two =>
  obtain⟨a,vs,A',ds,e1,e2,e3,e4,r⟩:=h;exact⟨a,vs,A',ds,e1,e2,ha a (by rw[e2];simp) _ e3,e4,r.map hr λc hc=>ha c (by rw[e2];simp[hc])⟩
theorem oC.rep {P:Y0}{w:Zd}{W W':Addr->Prop}{H:Hp}{d:D}{v:V}{A:List Addr}(h:oC P w W H d v A)(ha:∀c∈A,¬ W' c)(hs:∀ds vs,ao P w W H ds vs->ao P w W' H ds vs):aF P w W' H d v:=by
 obtain⟨a,o,vs,rfl,rfl,e,sh,r⟩:=h;have na:=ha a (by simp)
 replace r:=hs _ _ r;cases d with
 |lst ds=>cases sh;exact⟨a,vs,rfl,e,na,r⟩
 |dT ks ds=>obtain⟨rfl,l⟩:=sh;exact⟨a,vs,rfl,e,l,na,r⟩
 |dK ks ds=>obtain⟨rfl,l⟩:=sh;exact⟨a,vs,rfl,e,l,na,r⟩
 |_=>exact sh.elim
theorem Me.rep {P:Y0}{w:Zd}{W W':Addr->Prop}{H:Hp}{y:Sk}{d:D}{v:V}{A:List Addr}(h:Me P w W H y d v A)(ha:∀c∈A,¬ W' c)(hs:∀ds vs,ao P w W H ds vs->ao P w W' H ds vs):aF P w W' H d v:=by
 cases y with
 |one=>exact oC.rep h ha hs
 | «at» b=>exact oC.rep h.1 ha hs
 |two =>
  obtain⟨a,vs,A',ds,rfl,rfl,e3,rfl,r⟩:=h;exact⟨a,vs,rfl,e3,ha a (by simp),r.rep hs λc hc=>ha c (by simp[hc])⟩
structure cD (P:Y0)(w:Zd)(C:Cfg)(σ:St)(H:Hp)(β:ba)(own:Nat->List Addr):Prop where
 len:β.length=σ.length
 val:∀(i:Nat) (y:Bool) (d:D),β[i]?=some (some (.val y d))->∃v,σ[i]?=some (some v)/\aF P w (jT C (Wn own) (yk y)) H d v
 ow:∀(i:Nat) (d:D),β[i]?=some (some (.own d))->∃v,σ[i]?=some (some v)/\Own P w H d v (own i)/\∀c∈own i,C.H0 c=none
 vv:∀(i:Nat) (ok:List Int->Prop),β[i]?=some (some (.hand ok))->∃a ns,σ[i]?=some (some (.ref a))/\H a=some (.lst (ns.map V.int))/\ok ns/\own i=[a]/\((∀b,¬ C.IO b)\/C.IO a)
 dm:∀(i:Nat) (a:Addr),a∈own i->H a≠none/\(∀xs,H a≠some (.tup xs))/\(C.H0 a=none\/C.IO a)/\¬ C.U a
 oJ:∀(i j:Nat) (a:Addr),a∈own i->a∈own j->i=j
 pS:∀i,(own i).Nodup
 kp:Kp C.IO C.H0 H
 iW:∀a,C.H0 a≠none->H a≠none
 shl:∀(i:Nat) (y:Sk) (d:D),β[i]?=some (some (.shl y d))->∃v,σ[i]?=some (some v)/\Me P w (jT C (Wn own) (yk true)) H y d v (own i)/\∀c∈own i,C.H0 c=none
abbrev SQ (X:Cx):=cD X.prog X.w
section
variable {P:Y0}{w:Zd}{C:Cfg}{σ:St}{H H':Hp}{β:ba}{own:Nat->List Addr}{W W':Addr->Prop}
theorem cD.vy (b:cD P w C σ H β own):Dm (Wn own) H:=λa i5=>by obtain⟨i,h⟩:=i5;exact(b.dm i a h).1
theorem cD.Dx (b:cD P w C σ H β own)(k:Kd):Dm (av C (Wn own) k) H:=λa h=>by
 cases k with
 |own=>exact h.elim (b.vy a) (b.iW a)
 |gm=>exact h.elim (b.vy a) (b.iW a)
 |old=>exact b.vy a h
 |bor=>exact h.elim
theorem l5 (s:∀a,W' a->W a)(k:Kd):∀a,av C W' k a->av C W k a:=λa h=>by
 cases k with
 |own=>exact h.imp (s a) id
 |gm=>exact h.imp (s a) id
 |old=>exact s a h
 |bor=>exact h
theorem jS (s:∀a,W' a->W a)(k:Kd):∀a,jT C W' k a->jT C W k a:=λa h=>h.imp (l5 s k a) id
theorem cD.keep (b:cD P w C σ H β own)(k:Kp (λa=>H a=none) H H')(kp:Kp C.IO H H')(dn:∀a,H a≠none->H' a≠none):cD P w C σ H' β own:=by
 have ko:∀c o,H c=some o->H' c=some o:=λc o e=>k.out c o e (by rw[e];exact λz=>(nomatch z))
 have same:aD H H':=ko;exact⟨b.len,λi y d e=>let ⟨v,h1,h2⟩:=b.val i y d e;⟨v,h1,h2.same same⟩,λi d e=>let ⟨v,h1,h2,h3⟩:=b.ow i d e;⟨v,h1,h2.keep (λ_ _ e=>same _ _ e) (λc _ o e=>same c o e),h3⟩,
  λi ok e=>let ⟨a,ns,h1,h2,h3⟩:=b.vv i ok e;⟨a,ns,h1,same _ _ h2,h3⟩,λi a h=>by
   obtain⟨h1,h2,h3⟩:=b.dm i a h;cases q:H a with
   |none=>exact absurd q h1
   |some o=>rw[same a o q];exact⟨λz=>(nomatch z),λxs z=>h2 xs (by rw[q];exact z),h3⟩,b.oJ,b.pS,b.kp.trans kp,λa z=>dn a (b.iW a z),λi y d e=>let ⟨v,h1,h2,h3⟩:=b.shl i y d e;⟨v,h1,h2.map (λc _ o e=>same c o e) (λ_ _ r=>r.same same),h3⟩⟩
theorem cD.same (b:cD P w C σ H β own)(s:aD H H'):cD P w C σ H' β own:=b.keep s.kp s.kp λa z e=>z (s.free e)
theorem fq {own:Nat->List Addr}{i:Nat}{a:Addr}(h:Wn (aY own i []) a):Wn own a:=let ⟨j,q⟩:=h;⟨j,(br q).1⟩
theorem bp {own:Nat->List Addr}{i j:Nat}{A:List Addr}(h:i≠j):aY own i A j=own j:=by unfold aY;rw[if_neg (abP h)]
theorem os_eq {own:Nat->List Addr}{i:Nat}{A:List Addr}:aY own i A i=A:=by unfold aY;rw[if_pos rfl]
theorem cD.d4 {i:Nat}{d:D}{v:V}{y:Bool}(b:cD P w C σ H β own)(r:aF P w (jT C (Wn own) (yk y)) H d v):cD P w C (σ.set i (some v)) H (β.set i (some (.val y d))) (aY own i []):=by
 have sub:∀y a,jT C (Wn (aY own i [])) (yk y) a->jT C (Wn own) (yk y) a:=λy=>jS (λa h=>fq h) _;refine⟨by simp[b.len],λj y' d' e=>?_,λj d' e=>?_,λj ok e=>?_,λj a h=>b.dm j a (br h).1,λj k a h1 h2=>b.oJ j k a (br h1).1 (br h2).1,λj=>?_,b.kp,b.iW,λj y' d' e=>?_⟩
 ·by_cases aT:i=j
  ·subst aT;obtain⟨e',hl⟩:=bG e;cases e';exact⟨v,get_set (by rw[<- b.len];exact hl),r.bb (sub _)⟩
  ·rw[bB aT]at e ⊢
   obtain⟨u,h1,h2⟩:=b.val j y' d' e;exact⟨u,h1,h2.bb (sub _)⟩
 ·by_cases aT:i=j
  ·subst aT;obtain⟨e',hl⟩:=bG e;cases e'
  ·rw[bB aT]at e ⊢
   rw[bp aT];exact b.ow j d' e
 ·by_cases aT:i=j
  ·subst aT;obtain⟨e',hl⟩:=bG e;cases e'
  ·rw[bB aT]at e ⊢
   rw[bp aT];exact b.vv j ok e
 ·by_cases aT:i=j
  ·rw[aT,os_eq];exact Z7
  ·rw[bp aT];exact b.pS j
 ·by_cases aT:i=j
  ·subst aT;obtain⟨e',hl⟩:=bG e;cases e'
  ·rw[bB aT]at e ⊢
   rw[bp aT];obtain⟨u,h1,h2,h3⟩:=b.shl j y' d' e;exact⟨u,h1,h2.map (λ_ _ _ z=>z) (λ_ _ r=>ao.bb (sub _) r),h3⟩
theorem cD.vR {i:Nat}{d:D}{v:V}{A:List Addr}(b:cD P w C σ H β own)(r:Own P w H d v A)(nd:A.Nodup)(nw:∀c∈A,C.H0 c=none/\¬ Wn own c/\C.U c):
  cD P w {C with U:=λ_=>False} (σ.set i (some v)) H (β.set i (some (.own d))) (aY own i A):=by
 have sub:∀y a,jT {C with U:=λ_=>False} (Wn (aY own i A)) (yk y) a->jT C (Wn own) (yk y) a:=λy a h=>by
  have q:∀a,Wn (aY own i A) a->Wn own a\/a∈A:=λa rD=>by
   obtain⟨j,q⟩:=rD
   by_cases aT:i=j
   ·rw[aT,os_eq]at q;exact .inr q
   ·rw[bp aT]at q;exact .inl ⟨j,q⟩
  have q':∀a,Wn (aY own i A) a->Wn own a\/C.U a:=λa z=>(q a z).imp id λz=>(nw a z).2.2;rcases h with h|h
  ·cases y with
   |true=>exact h.elim (λz=>(q' a z).imp .inl id) λz=>.inl (.inr z)
   |false=>exact q' a h
  ·exact h.elim
 have mem:∀{j c},c∈aY own i A j->(i=j/\c∈A)\/(i≠j/\c∈own j):=λ{j c} h=>by
  by_cases aT:i=j
  ·subst aT;rw[os_eq]at h;exact .inl ⟨rfl,h⟩
  ·rw[bp aT]at h;exact .inr ⟨aT,h⟩
 refine⟨by simp[b.len],λj y' d' e=>?_,λj d' e=>?_,λj ok e=>?_,λj a h=>?_,λj k a h1 h2=>?_,λj=>?_,b.kp,b.iW,λj y' d' e=>?_⟩
 ·by_cases aT:i=j
  ·subst aT;obtain⟨e',hl⟩:=bG e;cases e'
  ·rw[bB aT]at e ⊢
   obtain⟨u,h1,h2⟩:=b.val j y' d' e;exact⟨u,h1,h2.bb (sub _)⟩
 ·by_cases aT:i=j
  ·subst aT;obtain⟨e',hl⟩:=bG e;cases e';rw[os_eq];exact⟨v,get_set (by rw[<- b.len];exact hl),r,λc hc=>(nw c hc).1⟩
  ·rw[bB aT]at e ⊢
   rw[bp aT];exact b.ow j d' e
 ·by_cases aT:i=j
  ·subst aT;obtain⟨e',hl⟩:=bG e;cases e'
  ·rw[bB aT]at e ⊢
   rw[bp aT];exact b.vv j ok e
 ·rcases mem h with⟨_,h⟩|⟨_,h⟩
  ·exact⟨(r.o_ a h).1,(r.o_ a h).2,.inl (nw a h).1,λz=>z⟩
  ·exact⟨(b.dm j a h).1,(b.dm j a h).2.1,(b.dm j a h).2.2.1,λz=>z⟩
 ·rcases mem h1 with⟨e1,h1⟩|⟨n1,h1⟩
  ·rcases mem h2 with⟨e2,h2⟩|⟨n2,h2⟩
   ·rw[<- e1,<- e2]
   ·exact absurd ⟨k,h2⟩ (nw a h1).2.1
  ·rcases mem h2 with⟨e2,h2⟩|⟨n2,h2⟩
   ·exact absurd ⟨j,h1⟩ (nw a h2).2.1
   ·exact b.oJ j k a h1 h2
 ·by_cases aT:i=j
  ·rw[<- aT,os_eq];exact nd
  ·rw[bp aT];exact b.pS j
 ·by_cases aT:i=j
  ·subst aT;obtain⟨e',hl⟩:=bG e;cases e'
  ·rw[bB aT]at e ⊢
   rw[bp aT];obtain⟨u,h1,h2,h3⟩:=b.shl j y' d' e;exact⟨u,h1,h2.map (λ_ _ _ z=>z) (λ_ _ r=>ao.bb (sub _) r),h3⟩
theorem cD.freeze {i:Nat}{d:D}(b:cD P w C σ H β own)(h:β[i]?=some (some (.own d))):cD P w C σ H (β.set i (some (.val true d))) (aY own i []):=by
 obtain⟨v,h1,h2,h3⟩:=b.ow i d h;have e:σ.set i (some v)=σ:=by
  apply aaS;intro j;rw[aa5]
  by_cases aT:i=j
  ·subst aT;rw[if_pos rfl,h1];have:i<σ.length:=(Y_.mp h1).1;rw[if_pos this]
  ·rw[if_neg aT]
 have q:=cD.d4 (i:=i) (d:=d) (v:=v) (y:=true) (own:=aY own i []) (C:=C) (P:=P) (w:=w) (σ:=σ) (H:=H) (β:=β.set i none);have b':cD P w C σ H (β.set i none) (aY own i []):=by
  have sub:∀y a,jT C (Wn (aY own i [])) (yk y) a->jT C (Wn own) (yk y) a:=λy=>jS (λa h=>fq h) _;refine⟨by simp[b.len],λj y' d' e=>?_,λj d' e=>?_,λj ok e=>?_,λj a h=>b.dm j a (br h).1,λj k a h1 h2=>b.oJ j k a (br h1).1 (br h2).1,λj=>?_,b.kp,b.iW,λj y' d' e=>?_⟩
  ·by_cases aT:i=j
   ·subst aT;obtain⟨e',hl⟩:=bG e;cases e'
   ·rw[bB aT]at e;obtain⟨u,h1,h2⟩:=b.val j y' d' e;exact⟨u,h1,h2.bb (sub _)⟩
  ·by_cases aT:i=j
   ·subst aT;obtain⟨e',hl⟩:=bG e;cases e'
   ·rw[bB aT]at e;rw[bp aT];exact b.ow j d' e
  ·by_cases aT:i=j
   ·subst aT;obtain⟨e',hl⟩:=bG e;cases e'
   ·rw[bB aT]at e;rw[bp aT];exact b.vv j ok e
  ·by_cases aT:i=j
   ·rw[aT,os_eq];exact Z7
   ·rw[bp aT];exact b.pS j
  ·by_cases aT:i=j
   ·subst aT;obtain⟨e',hl⟩:=bG e;cases e'
   ·rw[bB aT]at e;rw[bp aT];obtain⟨u,h1,h2,h3⟩:=b.shl j y' d' e;exact⟨u,h1,h2.map (λ_ _ _ z=>z) (λ_ _ r=>ao.bb (sub _) r),h3⟩
 have q:=cD.d4 (i:=i) (d:=d) (v:=v) (y:=true) b' (h2.rep λc hc z=>by
  rcases z with (z|z)|z
  ·obtain⟨j,hj⟩:=z;obtain⟨hj,ne⟩:=br hj;exact ne (b.oJ j i c hj hc)
  ·exact z (h3 c hc)
  ·exact(b.dm i c hc).2.2.2 z)
 rw[e,List.set_set]at q;have eo:aY (aY own i []) i []=aY own i []:=by
  funext j
  by_cases aT:i=j
  ·rw[<- aT,os_eq,os_eq]
  ·rw[bp aT,bp aT]
 rwa [eo]at q
abbrev Cfg.u (C:Cfg)(U:Addr->Prop):Cfg:={C with U:=U}
theorem cD.pB {U:Addr->Prop}(b:cD P w C σ H β own)(hU:∀a,U a->H a=none):cD P w (C.u U) σ H β own :=
 ⟨b.len,λi y d e=>let ⟨v,h1,h2⟩:=b.val i y d e;⟨v,h1,aF.grow (λa z=>z.elim (λz=>.inl (.inl z)) λz=>.inr (hU a z)) h2⟩,b.ow,b.vv,λi a h=>let ⟨h1,h2,h3,_⟩:=b.dm i a h;⟨h1,h2,h3,λz=>h1 (hU a z)⟩,b.oJ,b.pS,b.kp,b.iW,λi y d e=>let ⟨v,h1,h2,h3⟩:=b.shl i y d e;⟨v,h1,h2.map (λ_ _ _ z=>z) (λ_ _ r=>ao.grow (λa z=>z.elim (λz=>.inl (.inl z)) λz=>.inr (hU a z)) r),h3⟩⟩
theorem cD.WG {U:Addr->Prop}(b:cD P w (C.u U) σ H β own):cD P w (C.u λ_=>False) σ H β own :=
 ⟨b.len,λi y d e=>let ⟨v,h1,h2⟩:=b.val i y d e;⟨v,h1,aF.bb (λa z=>z.elim .inl λz=>z.elim) h2⟩,b.ow,b.vv,λi a h=>let ⟨h1,h2,h3,_⟩:=b.dm i a h;⟨h1,h2,h3,λz=>z⟩,b.oJ,b.pS,b.kp,b.iW,λi y d e=>let ⟨v,h1,h2,h3⟩:=b.shl i y d e;⟨v,h1,h2.map (λ_ _ _ z=>z) (λ_ _ r=>ao.bb (λa z=>z.elim .inl λz=>z.elim) r),h3⟩⟩
theorem cD.P2 {i:Nat}{y:Bool}{d:D}(b:cD P w C σ H β own)(e:β[i]?=some (some (.val y d))):∃v,σ[i]?=some (some v)/\aF P w (av C (Wn own) (yk y)) H d v:=let ⟨v,h1,h2⟩:=b.val i y d e;⟨v,h1,aF.bb (λa z=>.inl z) h2⟩
end
def KV (P:Y0)(w:Zd)(C:Cfg)(Z:Hp×(Addr->Prop))(own:Nat->List Addr)(H:Hp):Kd->D->V->Prop
 |.own,d,v=>∃A,Own P w H d v A/\A.Nodup/\∀c∈A,Z.1 c=none/\¬ Wn own c/\C.H0 c=none
 |.gm,d,v=>aF P w (av C (Wn own) .gm) H d v
 |.old,d,v=>aF P w (av C (Wn own) .old) H d v
 |.bor,d,v=>aF P w (av C (Wn own) .bor) H d v
structure Ue (P:Y0)(w:Zd)(C:Cfg)(σ:St)(H:Hp)(own:Nat->List Addr)(p:Bool)(β':ba)(H':Hp)(aU:Nat->List Addr):Prop where
 sq:cD P w C σ H' β' aU
 sn:Sn (H,Wn own) H' (Wn aU)
 pu:p=true->aD H H'/\aU=own
 le:∀a,Wn aU a->Wn own a
abbrev Out (X:Cx):=Ue X.prog X.w
section
variable {X:Cx}{C:Cfg}{σ:St}{H H1 H2 H':Hp}{own aC bg:Nat->List Addr}{p p':Bool}{β β1 β2 β':ba}{Z:Hp×(Addr->Prop)}{d:D}{v:V}{k:Kd}{P:Y0}{w:Zd}
theorem Out.refl (s:SQ X C σ H β own)(p:Bool):Out X C σ H own p β H own:=⟨s,Sn.refl,λ_=>⟨aD.refl _,rfl⟩,λ_ z=>z⟩
theorem Out.trans (a:Out X C σ H own p β1 H1 aC)(b:Out X C σ H1 aC p' β2 H2 bg):Out X C σ H own (p&&p') β2 H2 bg:=⟨b.sq,a.sn.trans b.sn,λh=>by
 rw[ZI]at h;obtain⟨s1,e1⟩:=a.pu h.1;obtain⟨s2,e2⟩:=b.pu h.2;exact⟨s1.trans s2,e2.trans e1⟩,λc z=>a.le c (b.le c z)⟩
theorem Out.same (a:Out X C σ H own p β1 H1 aC)(s:aD H1 H2):Out X C σ H own p β1 H2 aC:=⟨a.sq.same s,a.sn.same s,λh=>let ⟨s1,e1⟩:=a.pu h;⟨s1.trans s,e1⟩,a.le⟩
theorem Out.wk (a:Out X C σ H own p β1 H1 aC)(h:p'=true->p=true):Out X C σ H own p' β1 H1 aC:=⟨a.sq,a.sn,λz=>a.pu (h z),a.le⟩
theorem Out.xm {q:Bool}(a:Out X C σ H own p β1 H1 aC)(b:Out X C σ H1 aC p' β2 H2 bg)(h:q=true->p=true/\p'=true):Out X C σ H own q β2 H2 bg:=(a.trans b).wk λz=>by rw[(h z).1,(h z).2];rfl
theorem KV.rep (h:KV P w C Z own H k d v):aF P w (av C (Wn own) k) H d v:=by
 cases k with
 |own=>obtain⟨A,h1,h2,h3⟩:=h;exact h1.rep λc hc z=>z.elim (h3 c hc).2.1 λz=>z (h3 c hc).2.2
 |_=>exact h
theorem KV.gm (h:KV P w C Z own H .own d v):KV P w C Z own H .gm d v:=KV.rep (k:=.own) h
theorem KV.flat {W:Addr->Prop}(f:d.flat=true)(h:aF P w W H d v):KV P w C Z own H .own d v:=⟨[],eF f h,Z7,λc hc=>(nomatch hc)⟩
noncomputable abbrev Kd.wk:Kd->Kd
 |.own=>.gm
 |.gm=>.gm
 |.old=>.old
 |.bor=>.bor
abbrev Kd.max:Kd->Kd->Kd
 |.bor,_=>.bor
 |_,.bor=>.bor
 |.old,_=>.old
 |_,.old=>.old
 |_,_=>.gm
theorem cV {W:Addr->Prop}{a b:Kd}:∀c,av C W (a.max b) c->av C W a c:=λc h=>by
 cases a <;> cases b <;> first|exact h|exact h.elim|exact .inl h
theorem fo {W:Addr->Prop}{a b:Kd}:∀c,av C W (a.max b) c->av C W b c:=λc h=>by
 cases a <;> cases b <;> first|exact h|exact h.elim|exact .inl h
theorem KV.of (h:aF P w (av C (Wn own) k.wk) H d v):KV P w C Z own H k.wk d v:=by
 cases k <;> exact h
theorem KV.ME (h:KV P w C Z own H k d v)(s:aD H H'):KV P w C Z own H' k d v:=by
 cases k with
 |own=>obtain⟨A,h1,h2⟩:=h;exact⟨A,h1.keep (λb xs e=>s _ _ e) (λc _ o e=>s c o e),h2⟩
 |gm=>exact aF.same s h
 |old=>exact aF.same s h
 |bor=>exact aF.same s h
theorem KV.held (hk:k≠.bor)(h:KV P w C Z own H k d v)(n:Sn (H,Wn own) H2 (Wn bg)):KV P w C Z bg H2 k d v:=by
 cases k with
 |own =>
  obtain⟨A,h1,h2,h3⟩:=h;refine⟨A,h1.keep n.k.tup (λc hc o e=>n.k.out c o e λz=>z.elim (h3 c hc).2.1 λz=>(h1.o_ c hc).1 z),h2,λc hc=>⟨(h3 c hc).1,λz=>(n.w c z).elim (h3 c hc).2.1 λz=>(h1.o_ c hc).1 z,(h3 c hc).2.2⟩⟩
 |gm =>
  have g:aF P w (λa=>av C (Wn own) .gm a\/H a=none) H d v:=aF.grow (λb z=>z) h;exact aF.bb (λb z=>z.elim (λz=>(n.w b z).imp .inl id) λz=>.inl (.inr z)) (aF.keep (n.k.mono λb z=>z.imp .inl id) g)
 |old=>exact held (W:=Wn own) h n
 |bor=>exact absurd rfl hk
theorem KV.N8 (h:KV P w C Z own H k d v)(s:aD H H2)(e:bg=own):KV P w C Z bg H2 k d v:=by rw[e];exact h.ME s
abbrev hold (k:Kd)(p:Bool):Prop:=match k,p with
 |.bor,false=>False
 |_,_=>True
theorem KV.ho (h:KV P w C Z own H k d v)(o:Out X C σ H own p β' H2 bg)(hh:hold k p):KV P w C Z bg H2 k d v:=by
 cases p with
 |true=>obtain⟨s,e⟩:=o.pu rfl;exact h.N8 s e
 |false=>exact h.held (by rintro rfl;exact hh) o.sn
theorem KV.later (h:KV P w C (H1,Wn aC) own H k d v)(n:Sn Z H1 (Wn aC)):KV P w C Z own H k d v:=by
 cases k with
 |own=>obtain⟨A,h1,h2,h3⟩:=h;exact⟨A,h1,h2,λc hc=>⟨n.free (h3 c hc).1,(h3 c hc).2⟩⟩
 |_=>exact h
end
abbrev aR:=ba->(D->Kd->ba->Prop)->Prop
abbrev bt:=ba->(Bool->ba->Prop)->Prop
abbrev bS:=ba->(List D->List Kd->ba->Prop)->Prop
def tQ (X:Cx)(C:Cfg)(p:Bool)(φ:aR):TE:=λσ H Q=>∃β own,SQ X C σ H β own/\φ β λd k β'=>∀v H' aU,Out X C σ H own p β' H' aU->KV X.prog X.w C (H,Wn own) aU H' k d v->Q v H'
def oF (X:Cx)(C:Cfg)(p:Bool)(φ:bt):TT:=λσ H Q=>∃β own,SQ X C σ H β own/\φ β λb β'=>∀H' aU,Out X C σ H own p β' H' aU->Q b H'
def KF (P:Y0)(w:Zd)(C:Cfg)(own:Nat->List Addr)(H:Hp):List Kd->List D->List V->List Addr->Prop
 |[],ds,vs,A=>ds=[]/\vs=[]/\A=[]
 |k::ks,ds,vs,A=>∃d dr v vr A1 A2,ds=d::dr/\vs=v::vr/\A=A1++A2/\(match k with | .own=>Own P w H d v A1|k=>A1=[]/\aF P w (av C (Wn own) k) H d v)/\KF P w C own H ks dr vr A2
def vn (P:Y0)(w:Zd)(C:Cfg)(Z:Hp×(Addr->Prop))(own:Nat->List Addr)(H:Hp)(ks:List Kd)(ds:List D)(vs:List V):Prop :=
 ∃A,KF P w C own H ks ds vs A/\A.Nodup/\∀c∈A,Z.1 c=none/\¬ Wn own c/\C.H0 c=none
def vp (X:Cx)(C:Cfg)(p:Bool)(φ:bS):TA:=λσ H Q=>∃β own,SQ X C σ H β own/\φ β λds ks β'=>∀vs H' aU,Out X C σ H own p β' H' aU->vn X.prog X.w C (H,Wn own) aU H' ks ds vs->Q vs H'
section
variable {C:Cfg}{H H1:Hp}{own aC:Nat->List Addr}{Z:Hp×(Addr->Prop)}{d:D}{v:V}{k:Kd}{P:Y0}{w:Zd}{ks:List Kd}{ds:List D}{vs:List V}
theorem vn.nil:vn P w C Z own H [] [] []:=⟨[],⟨rfl,rfl,rfl⟩,Z7,λc hc=>(nomatch hc)⟩
theorem KF.o_:∀{ks:List Kd} {ds:List D} {vs:List V} {A:List Addr},KF P w C own H ks ds vs A->∀c∈A,H c≠none
 |[],_,_,_,lO,c,hc=>by obtain⟨_,_,e⟩:=lO;rw[e]at hc;cases hc
 |k::ks,_,_,_,lO,c,hc=>by
  obtain⟨d,dr,v,vr,A1,A2,rfl,rfl,rfl,h1,h2⟩:=lO;rcases Zb.mp hc with hc|hc
  ·cases k with
   |own=>exact(Own.o_ h1 c hc).1
   |_=>rw[h1.1]at hc;cases hc
  ·exact KF.o_ h2 c hc
theorem vn.cons (h1:KV P w C Z aC H1 k d v)(n:Sn (H1,Wn aC) H (Wn own))(Gu:KV P w C Z own H k d v)(h2:vn P w C (H1,Wn aC) own H ks ds vs)(n0:Sn Z H1 (Wn aC)):vn P w C Z own H (k::ks) (d::ds) (v::vs):=by
 obtain⟨A2,f2,Cn,q2⟩:=h2;have z2:∀c∈A2,Z.1 c=none/\¬ Wn own c/\C.H0 c=none:=λc hc=>⟨n0.free (q2 c hc).1,(q2 c hc).2⟩;cases k with
 |own =>
  obtain⟨A1,o1,zG,q1⟩:=h1;obtain⟨YT,Yy,WH,UK⟩:=(show KV P w C Z own H .own d v from KV.held (k:=.own) (λz=>(nomatch z)) (⟨A1,o1,zG,q1⟩:KV P w C Z aC H1 .own d v) n)
  have QO:Own P w H d v A1:=o1.keep n.k.tup (λc hc o e=>n.k.out c o e λz=>z.elim (q1 c hc).2.1 λz=>(o1.o_ c hc).1 z);refine⟨A1++A2,⟨d,ds,v,vs,A1,A2,rfl,rfl,rfl,QO,f2⟩,ZL.mpr ⟨zG,Cn,λa ha b hb e=>?_⟩,λc hc=>?_⟩
  ·subst e;exact(o1.o_ a ha).1 (q2 a hb).1
  ·rcases Zb.mp hc with hc|hc
   ·exact⟨(q1 c hc).1,λz=>(n.w c z).elim (q1 c hc).2.1 λz=>(o1.o_ c hc).1 z,(q1 c hc).2.2⟩
   ·exact z2 c hc
 |gm=>exact⟨A2,⟨d,ds,v,vs,[],A2,rfl,rfl,rfl,⟨rfl,Gu⟩,f2⟩,Cn,z2⟩
 |old=>exact⟨A2,⟨d,ds,v,vs,[],A2,rfl,rfl,rfl,⟨rfl,Gu⟩,f2⟩,Cn,z2⟩
 |bor=>exact⟨A2,⟨d,ds,v,vs,[],A2,rfl,rfl,rfl,⟨rfl,Gu⟩,f2⟩,Cn,z2⟩
abbrev il:List Kd->Kd
 |[]=>.gm
 |k::ks=>Kd.max k (il ks)
theorem KF.mP:∀{ks:List Kd} {ds:List D} {vs:List V} {A:List Addr},KF P w C own H ks ds vs A->(∀c∈A,¬ Wn own c/\C.H0 c=none)->ao P w (av C (Wn own) (il ks)) H ds vs
 |[],_,_,_,CU,_=>by obtain⟨e1,e2,e⟩:=CU;rw[e1,e2];rfl
 |k::ks,_,_,_,CU,hA=>by
  obtain⟨d,dr,v,vr,A1,A2,rfl,rfl,rfl,h1,h2⟩:=CU;refine⟨v,vr,rfl,?_,ao.bb fo (KF.mP h2 λc hc=>hA c (ZK _ hc))⟩;cases k with
  |own=>exact aF.bb cV (Own.rep (W:=av C (Wn own) .own) (λc hc z=>z.elim (hA c (Z8 _ hc)).1 λz=>z (hA c (Z8 _ hc)).2) h1)
  |gm=>exact aF.bb (cV (a:=.gm)) h1.2
  |old=>exact aF.bb (cV (a:=.old)) h1.2
  |bor=>exact aF.bb (cV (a:=.bor)) h1.2
theorem vn.mP (h:vn P w C Z own H ks ds vs):ao P w (av C (Wn own) (il ks)) H ds vs:=let ⟨A,h1,_,h3⟩:=h;h1.mP λc hc=>(h3 c hc).2
theorem vn.bor (h:vn P w C Z own H ks ds vs):ao P w (λ_=>False) H ds vs:=ao.bb (λ_ z=>z.elim) h.mP
def yQ:List Kd->List D->Prop
 |k::ks,d::ds=>(match k with | .own=>True|_=>d.flat=true)/\yQ ks ds
 |_,_=>True
theorem KF.Ju:∀{ks:List Kd} {ds:List D} {vs:List V} {A:List Addr},KF P w C own H ks ds vs A->yQ ks ds->a9 P w H ds vs A
 |[],_,_,_,CT,_=>by obtain⟨e1,e2,e⟩:=CT;rw[e1,e2,e];exact⟨rfl,rfl⟩
 |k::ks,_,_,_,CT,Gb=>by
  obtain⟨d,dr,v,vr,A1,A2,rfl,rfl,rfl,h1,h2⟩:=CT;obtain⟨f1,f2⟩:=Gb;refine⟨v,vr,A1,A2,rfl,rfl,?_,KF.Ju h2 f2⟩;cases k with
  |own=>exact h1
  |gm=>rw[h1.1];exact eF f1 h1.2
  |old=>rw[h1.1];exact eF f1 h1.2
  |bor=>rw[h1.1];exact eF f1 h1.2
theorem jD:∀{ks:List Kd},(il ks).wk=il ks
 |[]=>rfl
 |k::ks=>by cases k <;> cases h:il ks <;> simp[il,Kd.max,h]
def Av (ks:List Kd)(ds:List D)(K:Kd->Prop):Prop:=match ks.all (λk=>match k with | .own=>true|_=>false)with
 |true=>K .own
 |false=>(yQ ks ds/\K .own)\/K (il ks)
theorem Av.mono {ks:List Kd}{ds:List D}{K K':Kd->Prop}(k:∀x,K x->K' x)(h:Av ks ds K):Av ks ds K':=by
 unfold Av at *
 split
 ·next e=>rw[e]at h;exact k _ h
 ·next e=>rw[e]at h;exact h.imp (λz=>⟨z.1,k _ z.2⟩) (k _)
theorem Av.of {ks:List Kd}{ds:List D}{K:Kd->Prop}(h:Av ks ds K):(yQ ks ds/\K .own)\/K (il ks):=by
 unfold Av at h
 split at h
 ·next e =>
  refine .inl ⟨?_,h⟩
  clear h
  induction ks generalizing ds with
  |nil=>cases ds <;> trivial
  |cons k ks ih =>
   cases ds with
   |nil=>trivial
   |cons d ds =>
    rw[List.all_cons,ZI]at e;refine⟨?_,ih e.2⟩;have e1:=e.1;cases k <;> first|trivial|cases e1
 ·exact h
end
structure PQ (X:Cx)(C:Cfg)(p:Bool)(e:Expr)(φ:aR):Prop where
 mono:∀β R R',(∀d k β,R d k β->R' d k β)->φ β R->φ β R'
 pe:PE X e (tQ X C p φ)
structure vz (X:Cx)(C:Cfg)(p:Bool)(e:Expr)(φ:bt):Prop where
 mono:∀β R R',(∀d β,R d β->R' d β)->φ β R->φ β R'
 pt:PT X e (oF X C p φ)
structure l8 (X:Cx)(C:Cfg)(p:Bool)(e:Expr)(φ:bt):Prop where
 mono:∀β R R',(∀d β,R d β->R' d β)->φ β R->φ β R'
 pw:PW X e (oF X C p φ)
structure vg (X:Cx)(C:Cfg)(p:Bool)(es:List Expr)(φ:bS):Prop where
 mono:∀β R R',(∀d k β,R d k β->R' d k β)->φ β R->φ β R'
 pa:PA X es (vp X C p φ)
section
variable {X:Cx}{C:Cfg}{a b c e:Expr}{es:List Expr}{φ φa φb:aR}{τ τa τb:bt}{φs:bS}{pos:Pos}{σ:St}{H H':Hp}{β:ba}{own:Nat->List Addr}{p p':Bool}
theorem tQ.of (h:PQ X C p e φ)(s:SQ X C σ H β own){R:D->Kd->ba->Prop}{Q:VK}(hr:φ β R)(k:∀d kd β' v H' aU,R d kd β'->Out X C σ H own p β' H' aU->KV X.prog X.w C (H,Wn own) aU H' kd d v->Q v H'):tQ X C p φ σ H Q :=
 ⟨β,own,s,h.mono β _ _ (λd kd β' hd v H' aU o r=>k d kd β' v H' aU hd o r) hr⟩
theorem oF.of (h:vz X C p e τ)(s:SQ X C σ H β own){R:Bool->ba->Prop}{Q:Bool->Hp->Prop}(hr:τ β R)(k:∀t β' H' aU,R t β'->Out X C σ H own p β' H' aU->Q t H'):oF X C p τ σ H Q :=
 ⟨β,own,s,h.mono β _ _ (λt β' hd H' aU o=>k t β' H' aU hd o) hr⟩
theorem vp.of (h:vg X C p es φs)(s:SQ X C σ H β own){R:List D->List Kd->ba->Prop}{Q:List V->Hp->Prop}(hr:φs β R)(k:∀ds ks β' vs H' aU,R ds ks β'->Out X C σ H own p β' H' aU->vn X.prog X.w C (H,Wn own) aU H' ks ds vs->Q vs H'):vp X C p φs σ H Q :=
 ⟨β,own,s,h.mono β _ _ (λd kd β' hd v H' aU o r=>k d kd β' v H' aU hd o r) hr⟩
theorem l8.t (h:l8 X C p e τ):vz X C p e τ:=⟨h.mono,h.pw.pt⟩
noncomputable abbrev vk (y:Bool):D->Kd
 |.int _=>.own
 |.bl _=>.own
 |.b_=>.own
 |.str _=>.own
 |_=>yk y
def qB:B->(D->Kd->Prop)->Prop
 |.val y d,K=>K d (vk y d)
 |.own d,K=>K d .bor
 |.hand _,_=>False
 |.shl _ _,_=>False
def zk (i:Nat):aR:=λβ R=>∃b,β[i]?=some (some b)/\qB b λd k=>R d k β
theorem J4 {P:Y0}{w:Zd}{Z:Hp×(Addr->Prop)}{y:Bool}{d:D}{v:V}(h:aF P w (av C (Wn own) (yk y)) H d v):KV P w C Z own H (vk y d) d v:=by
 cases d with
 |int i=>exact KV.flat rfl h
 |bl i=>exact KV.flat rfl h
 |b_=>exact KV.flat rfl h
 |str i=>exact KV.flat rfl h
 |_=>cases y <;> exact h
theorem af {i:Nat}{x:Str}(hn:Nm X i x:=by exact JV):
  PQ X C true (.Name x pos) (zk i):=⟨λβ R R' k rD=>by obtain⟨b,e,h⟩:=rD;exact⟨b,e,by cases b <;> first|exact k _ _ _ h|exact h⟩,(mU hn).pre λσ H Q uj=>by
 obtain⟨β,own,s,b,e,q⟩:=uj;cases b with
 |val y d=>obtain⟨v,h1,h2⟩:=s.P2 e;exact⟨v,h1,q v H own (Out.refl s _) (J4 h2)⟩
 |own d=>obtain⟨v,h1,h2,h3⟩:=s.ow i d e;exact⟨v,h1,q v H own (Out.refl s _) (h2.rep λ_ _ z=>z)⟩
 |hand ok=>exact q.elim
 |shl _ _=>exact q.elim⟩
def qC (d:D):aR:=λβ R=>R d .own β
theorem aj {i j}:PQ X C true (.Constant (.int i) j pos) (qC (.int i)):=⟨λρ R R' k h=>k _ _ _ h,mV.pre λσ H Q Sj=>by obtain⟨β,own,s,q⟩:=Sj;exact q _ H own (Out.refl s _) (KV.flat (W:=λ_=>False) rfl rfl)⟩
theorem iC {b j}:PQ X C true (.Constant (.bool b) j pos) (qC (.bl b)):=⟨λρ R R' k h=>k _ _ _ h,Ht.pre λσ H Q Xe=>by obtain⟨β,own,s,q⟩:=Xe;exact q _ H own (Out.refl s _) (KV.flat (W:=λ_=>False) rfl rfl)⟩
theorem cH {j}:PQ X C true (.Constant .none j pos) (qC .b_):=⟨λρ R R' k h=>k _ _ _ h,Jq.pre λσ H Q Gg=>by obtain⟨β,own,s,q⟩:=Gg;exact q _ H own (Out.refl s _) (KV.flat (W:=λ_=>False) rfl rfl)⟩
theorem aQ {x j}:PQ X C true (.Constant (.str x) j pos) (qC (.str x)):=⟨λρ R R' k h=>k _ _ _ h,BK.pre λσ H Q Gf=>by obtain⟨β,own,s,q⟩:=Gf;exact q _ H own (Out.refl s _) (KV.flat (W:=λ_=>False) rfl rfl)⟩
def Bj (X:Cx)(f:D->D->Option D)(N:D->Prop):R2:=λx y H Q=>∃W d1 d2 d,Dm W H/\Rp X W H d1 x/\Rp X W H d2 y/\f d1 d2=some d/\∀v H',aD H H'->Rp X W H' d v->(N d->Rp X (λa=>H a≠none) H' d v)->Q v H'
abbrev PF (X:Cx)(f:YU->YU->Sem YU)(g:D->D->Option D)(N:D->Prop):Prop:=ik X f (Bj X g N)
theorem bf.m {f:YU->YU->Sem YU}{g:D->D->Option D}(h:bf X f g):PF X f g NF:=λpins s σ H x y v u Q I rx ry i5=>by
 obtain⟨W,d1,d2,d,hd,r1,r2,e,q⟩:=i5;exact h pins s σ H x y v u Q I rx ry ⟨W,d1,d2,d,hd,r1,r2,e,λv H' s r=>q v H' s r λf=>aF.flat f r⟩
noncomputable def kN (N:D->Prop)(d:D)(k:Kd)(K:Kd->Prop):Prop:=match d with
 |.int _=>K .own
 |.bl _=>K .own
 |.b_=>K .own
 |.str _=>K .own
 |.tup _=>K k
 |_=>(N d/\K .own)\/K k
theorem kN.mono {N:D->Prop}{d:D}{k:Kd}{K K':Kd->Prop}(h:∀x,K x->K' x)(q:kN N d k K):kN N d k K':=by
 cases d <;> first|exact h _ q|exact q.imp (λz=>⟨z.1,h _ z.2⟩) (h _)
theorem h8 {P:Y0}{w:Zd}{Z:Hp×(Addr->Prop)}{d:D}{v:V}(hd:Dm (Wn own) H)(h0:∀a,C.H0 a≠none->H a≠none)(hz:∀a,Z.1 a≠none->H a≠none)(f:NL d)(r:aF P w (λa=>H a≠none) H' d v):KV P w C Z own H' .own d v:=by
 have nn:∀{a:Addr},¬ (H a≠none)->H a=none:=λ{a} h=>ZT λz=>h z;have cl:∀{a:Addr},H a=none->Z.1 a=none/\¬ Wn own a/\C.H0 a=none:=λ{a} h=>⟨ZT λz=>hz a z h,λz=>hd a z h,ZT λz=>h0 a z h⟩;cases d with
 |lst ds =>
  obtain⟨a,vs,rfl,e,n,q⟩:=r;exact⟨[a],⟨a,vs,[],rfl,e,rfl,hZ f q⟩,by simp,λc hc=>by rw[Y1.mp hc];exact cl (nn n)⟩
 |_=>exact KV.flat f r
theorem KV.kN {N:D->Prop}{P:Y0}{w:Zd}{Z:Hp×(Addr->Prop)}{d:D}{v:V}{k:Kd}{K:Kd->Prop}(hk:k.wk=k)(r:aF P w (av C (Wn own) k) H' d v)(ro:N d->KV P w C Z own H' .own d v)(q:kN N d k K):∃k',K k'/\KV P w C Z own H' k' d v:=by
 have rk:KV P w C Z own H' k d v:=by rw[<- hk];exact KV.of (by rw[hk];exact r)
 cases d with
 |int i=>exact⟨_,q,KV.flat rfl r⟩
 |bl i=>exact⟨_,q,KV.flat rfl r⟩
 |b_=>exact⟨_,q,KV.flat rfl r⟩
 |str i=>exact⟨_,q,KV.flat rfl r⟩
 |tup ds=>exact⟨_,q,rk⟩
 |_=>exact q.elim (λz=>⟨_,z.2,ro z.1⟩) λz=>⟨_,z,rk⟩
structure El (N:D->Prop):Prop where
 nl:∀d,N d->NL d
theorem aK:El NL:=⟨λ_ h=>h⟩
theorem ah:El NF:=⟨λd h=>by cases d <;> first|exact h|cases h⟩
theorem Cp {a b:Kd}:(a.max b).wk=a.max b:=by cases a <;> cases b <;> rfl
def zm (g:D->D->Option D)(N:D->Prop)(pb:Bool)(φa φb:aR):aR:=λβ R=>φa β λx ka β1=>hold ka pb/\φb β1 λy kb β2=>∃d,g x y=some d/\kN N d (ka.max kb) λk=>R d k β2
variable {g:D->D->Option D}{N:D->Prop}
theorem zm.mono (ha:PQ X C p a φa)(hb:PQ X C p' b φb):∀β R R',(∀d k β,R d k β->R' d k β)->zm g N p' φa φb β R->zm g N p' φa φb β R':=λβ R R' k h =>
 ha.mono β _ _ (λx ka β1 hx=>⟨hx.1,hb.mono β1 _ _ (λy kb β2 C2=>by obtain⟨d,e,q⟩:=C2;exact⟨d,e,q.mono λ_ z=>k _ _ _ z⟩) hx.2⟩) h
theorem vT (hn:El N)(ha:PQ X C p a φa)(hb:PQ X C p' b φb):∀σ H Q,tQ X C (p&&p') (zm g N p' φa φb) σ H Q->Mt (Bj X g N) (tQ X C p φa) (tQ X C p' φb) σ H Q:=λσ H Q zT=>by
 obtain⟨β,own,s,h⟩:=zT;exact tQ.of ha s h λd1 k1 β1 v1 H1 aC RU o1 r1=>by
  obtain⟨hh,h1⟩:=RU;exact tQ.of hb o1.sq h1 λd2 k2 β2 v2 H2 bg wx o2 r2=>by
   obtain⟨d,e,q⟩:=wx;have MM:=r1.ho o2 hh;refine⟨av C (Wn bg) (k1.max k2),d1,d2,d,o2.sq.Dx _,aF.bb cV MM.rep,aF.bb fo r2.rep,e,λv H' s3 r3 n3=>?_⟩;have o:=(o1.trans o2).same s3;obtain⟨k,q,r⟩:=KV.kN (Z:=(H,Wn own)) Cp r3 (λn=>h8 (H:=H2) o2.sq.vy o2.sq.iW (λa z=>o2.sn.d a (o1.sn.d a z)) (hn.nl _ n) (n3 n)) q;exact q v H' bg o r
theorem aN {op:Operator}(hn:El N)(ho:PF X (aas op) g N)(ha:PQ X C p a φa)(hb:PQ X C p' b φb):PQ X C (p&&p') (.BinOp a op b pos) (zm g N p' φa φb):=⟨zm.mono ha hb,(BL ho ha.pe hb.pe).pre (vT hn ha hb)⟩
theorem gF {op:abT}(hn:El N)(ho:PF X (ZR op) g N)(ha:PQ X C p a φa)(hb:PQ X C p' b φb)(hm:abO op b=false:=by first|exact tW _ (by decide) (by decide)|rfl):PQ X C (p&&p') (.Compare a [op] [b] pos) (zm g N p' φa φb) :=
 ⟨zm.mono ha hb,(Fo ho ha.pe hb.pe hm).pre (vT hn ha hb)⟩
theorem bc (hn:El N)(ho:Hc X (Bj X g N))(ha:PQ X C p a φa)(hb:PQ X C p' b φb)(hs:rY b:=by exact λ_ _=>rfl):PQ X C (p&&p') (.Subscript a b pos) (zm g N p' φa φb):=⟨zm.mono ha hb,(Hr ho ha.pe hb.pe hs).pre (vT hn ha hb)⟩
def Bk (φ:aR):bt:=λβ R=>φ β λd k β'=>∃b,d=.bl b/\R b β'
theorem aw {op:abT}(hn:El N)(ho:PF X (ZR op) g N)(ha:PQ X C p a φa)(hb:PQ X C p' b φb)(hm:abO op b=false:=by first|exact tW _ (by decide) (by decide)|rfl):vz X C (p&&p') (.Compare a [op] [b] pos) (Bk (zm g N p' φa φb)) :=
 ⟨λβ R R' k h=>zm.mono ha hb β _ _ (λd kd β C0=>by obtain⟨t,e,q⟩:=C0;exact⟨t,e,k _ _ q⟩) h,(Ff ho ha.pe hb.pe hm).pre λσ H Q ⟨β,own,s,h⟩ =>
  tQ.of ha s h λd1 k1 β1 v1 H1 aC ND o1 r1=>by
   obtain⟨hh,h1⟩:=ND;exact tQ.of hb o1.sq h1 λd2 k2 β2 v2 H2 bg KN o2 r2=>by
    obtain⟨d,e,q⟩:=KN;have MM:=r1.ho o2 hh;refine⟨av C (Wn bg) (k1.max k2),d1,d2,d,o2.sq.Dx _,aF.bb cV MM.rep,aF.bb fo r2.rep,e,λv H' s3 r3 n3=>?_⟩;obtain⟨k,⟨t,et,q'⟩,r⟩:=KV.kN (Z:=(H,Wn own)) Cp r3 (λn=>h8 (H:=H2) o2.sq.vy o2.sq.iW (λa z=>o2.sn.d a (o1.sn.d a z)) (hn.nl _ n) (n3 n)) q;subst et;cases r3;exact⟨t,rfl,q' H' bg ((o1.trans o2).same s3)⟩⟩
theorem cS (ha:PQ X C p a φa)(he:∀whole,isTrue a X.env whole=(do let v <- whole;standAt a.pos;holding [v] (truthy v)):=by intro _;rfl):vz X C p a (Bk φa) :=
 ⟨λβ R R' k h=>ha.mono β _ _ (λd kd β' KL=>by obtain⟨b,e,q⟩:=KL;exact⟨b,e,k _ _ q⟩) h,(Jf ha.pe he).pre λσ H Q ⟨β,own,s,h⟩=>tQ.of ha s h λd k β' v H1 aC SY o1 r1=>by
  obtain⟨b,e,q⟩:=SY;subst e;cases r1.rep;exact⟨b,rfl,q H1 aC o1⟩⟩
def MP (τ:bt):bt:=λβ R=>τ β λb β'=>R (!b) β'
theorem fT (ha:vz X C p a τ):vz X C p (.UnaryOp .Not a pos) (MP τ) :=
 ⟨λβ R R' k h=>ha.mono β _ _ (λb β' q=>k _ _ q) h,(Jg ha.pt).pre λσ H Q KI=>by obtain⟨β,own,s,h⟩:=KI;exact oF.of ha s h λb β' H1 aC q o=>q H1 aC o⟩
variable {rest:List Expr}
def MT (τa τb:bt):bt:=λβ R=>τa β λt β1=>if t=true then τb β1 R else R false β1
def QD (τa τb:bt):bt:=λβ R=>τa β λt β1=>if t=true then R true β1 else τb β1 R
theorem eD (ha:vz X C p a τ):l8 X C p (.BoolOp .And [a] pos) τ:=⟨ha.mono,pw_and1 ha.pt⟩
theorem dR (ha:vz X C p a τ):l8 X C p (.BoolOp .Or [a] pos) τ:=⟨ha.mono,pw_or1 ha.pt⟩
theorem xb {p q:Bool}(z:(p&&q)=true):p=true:=by cases p <;> first|rfl|cases z
theorem G6 {p q:Bool}(z:(p&&q)=true):q=true:=by cases p <;> first|exact z|cases z
theorem fS (ha:vz X C p a τa)(hb:l8 X C p' (.BoolOp .And (b::rest) pos) τb):l8 X C (p&&p') (.BoolOp .And (a::b::rest) pos) (MT τa τb) :=
 ⟨λβ R R' k h=>ha.mono β _ _ (λt β1 q=>by
   cases t
   ·exact k _ _ q
   ·exact hb.mono β1 _ _ k q) h,(pw_and ha.pt hb.pw).pre λσ H Q ⟨β,own,s,h⟩=>oF.of ha s h λt β1 H1 aC q o1=>by
  cases t
  ·exact q H1 aC (o1.wk xb)
  ·exact oF.of hb.t o1.sq q λt' β2 H2 bg q2 o2=>q2 H2 bg (o1.trans o2)⟩
theorem c8 (ha:vz X C p a τa)(hb:l8 X C p' (.BoolOp .Or (b::rest) pos) τb):l8 X C (p&&p') (.BoolOp .Or (a::b::rest) pos) (QD τa τb) :=
 ⟨λβ R R' k h=>ha.mono β _ _ (λt β1 q=>by
   cases t
   ·exact hb.mono β1 _ _ k q
   ·exact k _ _ q) h,(pw_or ha.pt hb.pw).pre λσ H Q ⟨β,own,s,h⟩=>oF.of ha s h λt β1 H1 aC q o1=>by
  cases t
  ·exact oF.of hb.t o1.sq q λt' β2 H2 bg q2 o2=>q2 H2 bg (o1.trans o2)
  ·exact q H1 aC (o1.wk xb)⟩
def Wu (φa φb:aR):aR:=λβ R=>φa β λx _ β1=>∃c,x=.bl c/\if c=true then R (.bl true) .own β1 else φb β1 R
def QE (φa:aR):aR:=λβ R=>φa β λx _ β1=>∃c,x=.bl c/\R (.bl (!c)) .own β1
theorem Bz {op}(h:PQ X C p a φ):PQ X C p (.BoolOp op [a] pos) φ:=⟨h.mono,Jo h.pe⟩
theorem yc {P:Y0}{w:Zd}{Z:Hp×(Addr->Prop)}{b:Bool}:KV P w C Z own H .own (.bl b) (.bl b):=KV.flat (W:=λ_=>False) rfl rfl
theorem Hn (ha:PQ X C p a φa)(hb:PQ X C p' (.BoolOp .Or (b::rest) pos) φb):PQ X C (p&&p') (.BoolOp .Or (a::b::rest) pos) (Wu φa φb) :=
 ⟨λβ R R' k h=>ha.mono β _ _ (λd kd β1 ⟨c,e,q⟩=>⟨c,e,by
   cases c
   ·exact hb.mono β1 _ _ k q
   ·exact k _ _ _ q⟩) h,(MY ha.pe hb.pe).pre λσ H Q ⟨β,own,s,h⟩=>tQ.of ha s h λd kd β1 v H1 aC SS o1 r1=>by
  obtain⟨c,e,q⟩:=SS;subst e;cases r1.rep;refine⟨c,rfl,?_⟩;cases c
  ·exact tQ.of hb o1.sq q λd2 k2 β2 v2 H2 bg q2 o2 r2=>q2 v2 H2 bg (o1.trans o2) (r2.later o1.sn)
  ·exact q _ H1 aC (o1.wk xb) yc⟩
theorem vX (ha:PQ X C p a φa):PQ X C p (.UnaryOp .Not a pos) (QE φa) :=
 ⟨λβ R R' k h=>ha.mono β _ _ (λd kd β1 SO=>by obtain⟨c,e,q⟩:=SO;exact⟨c,e,k _ _ _ q⟩) h,(Jp ha.pe).pre λσ H Q ⟨β,own,s,h⟩=>tQ.of ha s h λd kd β1 v H1 aC SM o1 r1=>by
  obtain⟨c,e,q⟩:=SM;subst e;cases r1.rep;exact⟨c,rfl,q _ H1 aC o1 yc⟩⟩
def Wx (τ:bt)(φa φb:aR):aR:=λβ R=>τ β λc β1=>if c=true then φa β1 R else φb β1 R
theorem Ho {pc pa pb:Bool}(hc:vz X C pc c τ)(ha:PQ X C pa a φa)(hb:PQ X C pb b φb):PQ X C (pc&&(pa&&pb)) (.IfExp c a b pos) (Wx τ φa φb) :=
 ⟨λβ R R' k h=>hc.mono β _ _ (λc β1 q=>by
   cases c
   ·exact hb.mono β1 _ _ k q
   ·exact ha.mono β1 _ _ k q) h,(BN hc.pt ha.pe hb.pe).pre λσ H Q ⟨β,own,s,h⟩=>oF.of hc s h λc β1 H1 aC q o1=>by
  cases c
  ·exact tQ.of hb o1.sq q λd2 k2 β2 v2 H2 bg q2 o2 r2=>q2 v2 H2 bg (o1.xm o2 λz=>⟨xb z,G6 (G6 z)⟩) (r2.later o1.sn)
  ·exact tQ.of ha o1.sq q λd2 k2 β2 v2 H2 bg q2 o2 r2=>q2 v2 H2 bg (o1.xm o2 λz=>⟨xb z,xb (G6 z)⟩) (r2.later o1.sn)⟩
def Ws (g:D->Option D)(φa:aR):aR:=λβ R=>φa β λx _ β1=>∃d,g x=some d/\d.flat=true/\R d .own β1
theorem Hm {op:UnaryOp}{g:D->Option D}(ho:OL X (unaryOp op) (UJ X g))(ha:PQ X C p a φa):PQ X C p (.UnaryOp op a pos) (Ws g φa) :=
 ⟨λβ R R' k h=>ha.mono β _ _ (λx _ β1 SK=>by obtain⟨d,e,f,q⟩:=SK;exact⟨d,e,f,k _ _ _ q⟩) h,(Hq ho ha.pe).pre λσ H Q ⟨β,own,s,h⟩ =>
  tQ.of ha s h λd1 k1 β1 v1 H1 aC SJ o1 r1=>by obtain⟨d,e,f,q⟩:=SJ;exact⟨_,d1,d,o1.sq.Dx _,r1.rep,e,λv H' s2 r2=>q v H' aC (o1.same s2) (KV.flat f r2)⟩⟩
def MQ:bS:=λβ R=>R [] [] β
def Hl (pr:Bool)(φ:aR)(φs:bS):bS:=λβ R=>φ β λd k β1=>hold k pr/\φs β1 λds ks β2=>R (d::ds) (k::ks) β2
theorem ag:vg X C true [] MQ:=⟨λβ R R' k h=>k _ _ _ h,fW.pre λσ H Q SI=>by obtain⟨β,own,s,q⟩:=SI;exact q [] H own (Out.refl s _) vn.nil⟩
theorem aa (ha:PQ X C p a φ)(hr:vg X C p' es φs)(hs:Ze (a::es) X.env=(false,eval a X.env)::Ze es X.env:=by rfl):vg X C (p&&p') (a::es) (Hl p' φ φs) :=
 ⟨λβ R R' k h=>ha.mono β _ _ (λd kd β1 q=>⟨q.1,hr.mono β1 _ _ (λds ks β2 q2=>k _ _ _ q2) q.2⟩) h,(cT ha.pe hr.pa hs).pre λσ H Q ⟨β,own,s,h⟩ =>
  tQ.of ha s h λd1 k1 β1 v1 H1 aC SH o1 r1=>by obtain⟨hh,h1⟩:=SH;exact vp.of hr o1.sq h1 λds ks β2 vs H2 bg q o2 r2=>q (v1::vs) H2 bg (o1.trans o2) (vn.cons r1 o2.sn (r1.ho o2 hh) r2 o1.sn)⟩
def QA (φs:bS):aR:=λβ R=>φs β λds ks β1=>ds.length<=Zf/\Av ks ds λk=>R (.tup ds) k β1
def MR (φs:bS):aR:=λβ R=>φs β λds ks β1=>ds.length<=Zf/\Av ks ds λk=>R (.lst ds) k β1
theorem a9.same {P:Y0}{w:Zd}{ds:List D}{vs:List V}{A:List Addr}(s:aD H H')(h:a9 P w H ds vs A):a9 P w H' ds vs A:=h.keep (λb xs e=>s _ _ e) λc _ o e=>s c o e
theorem J5 {P:Y0}{w:Zd}{Z:Hp×(Addr->Prop)}{ks:List Kd}{ds:List D}{vs:List V}{K:Kd->Prop}{q:Addr}(hq:H q=none)(h:vn P w C Z own H ks ds vs)(m:Av ks ds K):∃k,K k/\KV P w C Z own (upd H q (.tup vs)) k (.tup ds) (.ref q):=by
 rcases m.of with⟨f,k⟩|k
 ·obtain⟨A,h1,h2,h3⟩:=h;exact⟨_,k,A,⟨q,vs,rfl,aE,(h1.Ju f).same (aD.new hq)⟩,h2,h3⟩
 ·refine⟨_,k,?_⟩;rw[<- jD];exact KV.of (by rw[jD];exact⟨q,vs,rfl,aE,h.mP.same (aD.new hq)⟩)
theorem J6 {P:Y0}{w:Zd}{Z:Hp×(Addr->Prop)}{ks:List Kd}{ds:List D}{vs:List V}{K:Kd->Prop}{q:Addr}(hq:H q=none)(hd:Dm (Wn own) H)(h0:∀a,C.H0 a≠none->H a≠none)(hz:∀a,Z.1 a≠none->H a≠none)(h:vn P w C Z own H ks ds vs)(m:Av ks ds K):∃k,K k/\KV P w C Z own (upd H q (.lst vs)) k (.lst ds) (.ref q):=by
 rcases m.of with⟨f,k⟩|k
 ·obtain⟨A,h1,h2,h3⟩:=h;refine⟨_,k,q::A,⟨q,vs,A,rfl,aE,rfl,(h1.Ju f).same (aD.new hq)⟩,ZD.mpr ⟨λz=>h1.o_ q z hq,h2⟩,λc hc=>?_⟩;rcases Y4.mp hc with rfl|hc
  ·exact⟨ZT λz=>hz c z hq,λz=>hd c z hq,ZT λz=>h0 c z hq⟩
  ·exact h3 c hc
 ·refine⟨_,k,?_⟩;have nq:¬ av C (Wn own) (il ks) q:=λz=>by
   cases e:il ks <;> rw[e]at z <;> first|exact z.elim (λz=>hd q z hq) λz=>h0 q z hq|exact hd q z hq|exact z
  rw[<- jD];exact KV.of (by rw[jD];exact⟨q,vs,rfl,aE,nq,h.mP.same (aD.new hq)⟩)
theorem vn.length {P:Y0}{w:Zd}{Z:Hp×(Addr->Prop)}{ks:List Kd}{ds:List D}{vs:List V}(h:vn P w C Z own H ks ds vs):vs.length=ds.length:=h.mP.length
theorem aV {x1}(h:vg X C p es φs):PQ X C p (.Tuple es x1 pos) (QA φs) :=
 ⟨λβ R R' k q=>h.mono β _ _ (λds ks β1 SG=>by obtain⟨l,q⟩:=SG;exact⟨l,q.mono λ_ z=>k _ _ _ z⟩) q,(BJ h.pa).pre λσ H Q ⟨β,own,s,q⟩=>vp.of h s q λds ks β1 vs H1 aC ⟨l,q1⟩ o1 r1 =>
  ⟨by rw[r1.length];exact l,λq hq=>let ⟨k,q1,r⟩:=J5 hq r1 q1;q1 _ _ aC (o1.same (aD.new hq)) r⟩⟩
theorem a7 (h:vg X C p es φs):PQ X C p (.List es pos) (MR φs) :=
 ⟨λβ R R' k q=>h.mono β _ _ (λds ks β1 SE=>by obtain⟨l,q⟩:=SE;exact⟨l,q.mono λ_ z=>k _ _ _ z⟩) q,(BM h.pa).pre λσ H Q ⟨β,own,s,q⟩=>vp.of h s q λds ks β1 vs H1 aC ⟨l,q1⟩ o1 r1 =>
  ⟨by rw[r1.length];exact l,λq hq=>let ⟨k,q1,r⟩:=J6 hq o1.sq.vy o1.sq.iW (λa z=>o1.sn.d a z) r1 q1;q1 _ _ aC (o1.same (aD.new hq)) r⟩⟩
end
section
variable {X:Cx}{C:Cfg}{a b c e:Expr}{es:List Expr}{φ φa φb:aR}{φs:bS}{pos:Pos}{σ:St}{H H':Hp}{β:ba}{own:Nat->List Addr}{p:Bool}{g:D->D->Option D}{N:D->Prop}
abbrev qI:=D->Kd->aR
structure OQ (X:Cx)(C:Cfg)(ops:List abT)(es:List Expr)(φ:qI):Prop where
 mono:∀x k β R R',(∀d k β,R d k β->R' d k β)->φ x k β R->φ x k β R'
 ch:Ip X ops es λx σ H Q=>∃β own d k,SQ X C σ H β own/\Rp X (av C (Wn own) k) H d x/\φ d k β λd' k' β'=>∀v H',aD H H'->SQ X C σ H' β' own->KV X.prog X.w C (H,Wn own) own H' k' d' v->Q v H'
 VF:vm X ops es λx σ H Q=>∃β own d k,SQ X C σ H β own/\Rp X (av C (Wn own) k) H d x/\φ d k β λd' k' β'=>∃b,d'=.bl b/\∀H',aD H H'->SQ X C σ H' β' own->Q b H'
def Fb (g:D->D->Option D)(φb:aR):qI:=λx _ β R=>φb β λy _ β1=>∃b,g x y=some (.bl b)/\R (.bl b) .own β1
def Bn (g:D->D->Option D)(φb:aR)(φr:qI):qI:=λx _ β R=>φb β λy ky β1=>∃k,g x y=some (.bl k)/\if k=true then φr y ky β1 R else R (.bl false) .own β1
variable {op JE:abT}{ops:List abT}{rs:List Expr}{φr:qI}
theorem fe (ho:bf X (ZR op) g)(hb:PQ X C true b φb):OQ X C [op] [b] (Fb g φb) :=
 ⟨λx k β R R' h q=>hb.mono β _ _ (λy _ β1 lQ=>by obtain⟨d,e,q⟩:=lQ;exact⟨d,e,h _ _ _ q⟩) q,
  (Ln ho hb.pe).pre λx σ H Q i5=>by
    obtain⟨β,own,d,k,s,r,h⟩:=i5;exact tQ.of hb s h λd2 k2 β2 v2 H2 bg uj o2 r2=>by
      obtain⟨d',e,q⟩:=uj;obtain⟨s2,rfl⟩:=o2.pu rfl;exact⟨av C (Wn bg) (k.max k2),d,d2,.bl d',o2.sq.Dx _,aF.bb cV (r.same s2),aF.bb fo r2.rep,e,λv H' s3 r3=>q v H' (s2.trans s3) (o2.sq.same s3) (KV.flat rfl r3)⟩,
  (GU ho hb.pe).pre λx σ H Q zT=>by
    obtain⟨β,own,d,k,s,r,h⟩:=zT;exact tQ.of hb s h λd2 k2 β2 v2 H2 bg KH o2 r2=>by
      obtain⟨d',e,b,eb,q⟩:=KH;obtain⟨s2,rfl⟩:=o2.pu rfl;cases eb;exact⟨av C (Wn bg) (k.max k2),d,d2,.bl d',o2.sq.Dx _,aF.bb cV (r.same s2),aF.bb fo r2.rep,e,λv H' s3 r3=>by
        cases r3;exact⟨_,rfl,q H' (s2.trans s3) (o2.sq.same s3)⟩⟩⟩
theorem bI (ho:bf X (ZR op) g)(hb:PQ X C true b φb)(hc:OQ X C (JE::ops) (c::rs) φr):OQ X C (op::JE::ops) (b::c::rs) (Bn g φb φr) :=
 ⟨λx k β R R' h q=>hb.mono β _ _ (λy ky β1 ⟨d,e,q⟩=>⟨d,e,by
   cases d
   ·exact h _ _ _ q
   ·exact hc.mono y ky β1 _ _ h q⟩) q,
  (GV ho hb.pe hc.ch).pre λx σ H Q RT=>by
    obtain⟨β,own,d,k,s,r,h⟩:=RT;exact tQ.of hb s h λd2 k2 β2 v2 H2 bg Gg o2 r2=>by
      obtain⟨t,e,q⟩:=Gg;obtain⟨s2,rfl⟩:=o2.pu rfl;refine⟨av C (Wn bg) (k.max k2),d,d2,.bl t,o2.sq.Dx _,aF.bb cV (r.same s2),aF.bb fo r2.rep,e,λv H' s3 r3=>?_⟩;cases r3;refine⟨t,rfl,?_⟩;cases t
      · exact q _ H' (s2.trans s3) (o2.sq.same s3) yc
      · exact⟨β2,bg,d2,k2,o2.sq.same s3,r2.rep.same s3,hc.mono d2 k2 β2 _ _ (λd' k' β' q' v Em s4 sq r4=>q' v Em ((s2.trans s3).trans s4) sq (r4.later ((o2.same s3).sn))) q⟩,
  (DO ho hb.pe hc.VF).pre λx σ H Q ND=>by
    obtain⟨β,own,d,k,s,r,h⟩:=ND;exact tQ.of hb s h λd2 k2 β2 v2 H2 bg C3 o2 r2=>by
      obtain⟨t,e,q⟩:=C3;obtain⟨s2,rfl⟩:=o2.pu rfl;refine⟨av C (Wn bg) (k.max k2),d,d2,.bl t,o2.sq.Dx _,aF.bb cV (r.same s2),aF.bb fo r2.rep,e,λv H' s3 r3=>?_⟩;cases r3;refine⟨t,rfl,?_⟩;cases t
      · obtain⟨b,eb,q⟩:=q;cases eb;exact q H' (s2.trans s3) (o2.sq.same s3)
      · exact⟨β2,bg,d2,k2,o2.sq.same s3,r2.rep.same s3,hc.mono d2 k2 β2 _ _ (λd' k' β' C2=>by obtain⟨b,eb,q'⟩:=C2;exact⟨b,eb,λEm s4 sq=>q' Em ((s2.trans s3).trans s4) sq⟩) q⟩⟩
def mQ (φa:aR)(φr:qI):aR:=λβ R=>φa β λx k β1=>φr x k β1 R
theorem fz {eJ eG:abT}(ha:PQ X C true a φa)(hc:OQ X C (eJ::eG::ops) (b::c::rs) φr)(hm:lastMarks (eJ::eG::ops) (b::c::rs)=false:=by with_unfolding_all rfl):
  PQ X C true (.Compare a (eJ::eG::ops) (b::c::rs) pos) (mQ φa φr) :=
 ⟨λβ R R' k h=>ha.mono β _ _ (λx kx β1 q=>hc.mono x kx β1 _ _ k q) h,(zB ha.pe hc.ch hm).pre λσ H Q ⟨β,own,s,h⟩=>tQ.of ha s h λd k β1 v H1 aC q o1 r1=>by
  obtain⟨s1,rfl⟩:=o1.pu rfl;exact⟨β1,aC,d,k,o1.sq,r1.rep,hc.mono d k β1 _ _ (λd' k' β' q' v Em s4 sq r4=>q' v Em aC ⟨sq,o1.sn.same s4,λ_=>⟨s1.trans s4,rfl⟩,o1.le⟩ (r4.later o1.sn)) q⟩⟩
theorem pL {eJ eG:abT}(ha:PQ X C true a φa)(hc:OQ X C (eJ::eG::ops) (b::c::rs) φr)(hm:lastMarks (eJ::eG::ops) (b::c::rs)=false:=by with_unfolding_all rfl):
  vz X C true (.Compare a (eJ::eG::ops) (b::c::rs) pos) (Bk (mQ φa φr)) :=
 ⟨λβ R R' k h=>ha.mono β _ _ (λx kx β1 q=>hc.mono x kx β1 _ _ (λd kd β' KO=>by obtain⟨b,e,q⟩:=KO;exact⟨b,e,k _ _ q⟩) q) h,(zr ha.pe hc.VF hm).pre λσ H Q ⟨β,own,s,h⟩=>tQ.of ha s h λd k β1 v H1 aC q o1 r1=>by
  obtain⟨s1,rfl⟩:=o1.pu rfl;exact⟨β1,aC,d,k,o1.sq,r1.rep,hc.mono d k β1 _ _ (λd' k' β' C0=>by obtain⟨b,e,q'⟩:=C0;exact⟨b,e,λEm s4 sq=>q' Em aC ⟨sq,o1.sn.same s4,λ_=>⟨s1.trans s4,rfl⟩,o1.le⟩⟩) q⟩⟩
abbrev Ei:=ba->(Option Int->ba->Prop)->Prop
structure PC (X:Cx)(C:Cfg)(e:Option Expr)(φ:Ei):Prop where
 mono:∀β R R',(∀d β,R d β->R' d β)->φ β R->φ β R'
 po:PO X e λσ H Q=>∃β own,SQ X C σ H β own/\φ β λo β'=>∀H',aD H H'->SQ X C σ H' β' own->Q o H'
theorem fy:PC X C none (λβ R=>R none β):=⟨λβ R R' k h=>k _ _ h,xN.pre λσ H Q CZ=>by obtain⟨β,own,s,q⟩:=CZ;exact q H (aD.refl _) s⟩
theorem fw (ha:PQ X C true a φ):PC X C (some a) (λβ R=>φ β λd _ β1=>∃i,d=.int i/\R (some i) β1) :=
 ⟨λβ R R' k h=>ha.mono β _ _ (λd _ β1 CY=>by obtain⟨i,e,q⟩:=CY;exact⟨i,e,k _ _ q⟩) h,(xM ha.pe).pre λσ H Q ⟨β,own,s,h⟩=>tQ.of ha s h λd k β1 v H1 aC KL o1 r1=>by
  obtain⟨i,e,q⟩:=KL;subst e;cases r1.rep;obtain⟨s1,rfl⟩:=o1.pu rfl;exact⟨i,rfl,q H1 s1 o1.sq⟩⟩
def Wt (φ:aR)(φl φh:Ei):aR:=λβ R=>φ β λx k β1=>φl β1 λl β2=>φh β2 λh β3=>∃d,Pt x l h=some d/\kN NL d k.wk λk'=>R d k' β3
theorem Hg {k:Kd}:k.wk.wk=k.wk:=by cases k <;> rfl
theorem DW {W:Addr->Prop}{k:Kd}:∀c,av C W k.wk c->av C W k c:=λc h=>by cases k <;> exact h
theorem pM {lo hi:Option Expr}{φl φh:Ei}{p2:Pos}(ha:PQ X C p a φ)(hl:PC X C lo φl)(hh:PC X C hi φh):PQ X C p (.Subscript a (.Slice lo hi none p2) pos) (Wt φ φl φh) :=
 ⟨λβ R R' k h=>ha.mono β _ _ (λx kx β1 q=>hl.mono β1 _ _ (λl β2 q=>hh.mono β2 _ _ (λu β3 KJ=>by obtain⟨d,e,q⟩:=KJ;exact⟨d,e,q.mono λ_ z=>k _ _ _ z⟩) q) q) h,
  (tG EW ha.pe hl.po hh.po).pre λσ H Q ⟨β,own,s,h⟩=>tQ.of ha s h λd k β1 v H1 aC q o1 r1 =>
    ⟨β1,aC,o1.sq,hl.mono β1 _ _ (λl β2 q H2 s2 Qn=>⟨β2,aC,Qn,hh.mono β2 _ _ (λu β3 KI H3 s3 O1=>by
      obtain⟨d',e,q⟩:=KI;refine⟨av C (Wn aC) k.wk,d,d',O1.Dx _,((aF.bb DW r1.rep).same s2).same s3,e,λv H' s4 r4 n4=>?_⟩;obtain⟨k',q,r⟩:=KV.kN (Z:=(H,Wn own)) Hg r4 (λn=>h8 (H:=H3) O1.vy O1.iW (λa z e=>o1.sn.d a z (s2.free (s3.free e))) n (n4 n)) q;exact q v H' aC ⟨O1.same s4,o1.sn.same ((s2.trans s3).trans s4),λz=>⟨(o1.pu z).1.trans ((s2.trans s3).trans s4),(o1.pu z).2⟩,o1.le⟩ r) q⟩) q⟩⟩
def MK (X:Cx)(f:List D->Option D)(N:D->Prop):List V->Hp->VK->Prop:=λxs H Q=>∃W ds d,Dm W H/\oN X W H ds xs/\f ds=some d/\∀v H',aD H H'->Rp X W H' d v->(N d->Rp X (λa=>H a≠none) H' d v)->Q v H'
abbrev Ep (X:Cx)(f:YU)(g:List D->Option D)(N:D->Prop):Prop:=gk X f (MK X g N)
theorem a_.m {f:YU}{g:List D->Option D}(h:a_ X f g):Ep X f g NF:=λpins s σ H xs us Q I r Kk=>by
 obtain⟨W,ds,d,hd,r1,e,q⟩:=Kk;exact h pins s σ H xs us Q I r ⟨W,ds,d,hd,r1,e,λv H' s r=>q v H' s r λf=>aF.flat f r⟩
def lg (g:List D->Option D)(N:D->Prop)(φs:bS):aR:=λβ R=>φs β λds ks β1=>∃d,g ds=some d/\kN N d (il ks) λk=>R d k β1
variable {x:Str}{pp:Pos}{id T:String}{gs:List D->Option D}
theorem lg.mono (h:vg X C p es φs):∀β R R',(∀d k β,R d k β->R' d k β)->lg gs N φs β R->lg gs N φs β R':=λβ R R' k q=>h.mono β _ _ (λds ks β1 SX=>by obtain⟨d,e,q⟩:=SX;exact⟨d,e,q.mono λ_ z=>k _ _ _ z⟩) q
theorem tv (hn:El N)(h:vg X C p es φs):∀σ H Q,tQ X C p (lg gs N φs) σ H Q->Qe (MK X gs N) (vp X C p φs) σ H Q:=λσ H Q RW=>by
 obtain⟨β,own,s,q⟩:=RW;exact vp.of h s q λds ks β1 vs H1 aC SV o1 r1=>by
  obtain⟨d,e,q1⟩:=SV;refine⟨av C (Wn aC) (il ks),ds,d,o1.sq.Dx _,r1.mP,e,λv H' s2 r2 n2=>?_⟩;obtain⟨k',q,r⟩:=KV.kN (Z:=(H,Wn own)) jD r2 (λn=>h8 (H:=H1) o1.sq.vy o1.sq.iW (λa z=>o1.sn.d a z) (hn.nl _ n) (n2 n)) q1;exact q v H' aC (o1.same s2) r
theorem aM (Gk:El N)(hc:Ep X (.builtin id) gs N)(hm:X.mg x=none)(hv:ZY x=some (.builtin id))(ha:vg X C p (e::es) φs)(hg:Gl X x:=by rfl)(hn:x≠"__name__" := by decide)(hdb:(x==("__debug__" : Str))=false:=by decide)
  (i6:Ze (e::es) X.env=(false,eval e X.env)::Ze es X.env:=by rfl) (hpl:(aaw pos (Ze es X.env)).any (·.1)=false:=by rfl) :
  PQ X C p (.Call (.Name x pp) (e::es) [] pos) (lg gs N φs):=⟨lg.mono ha,(mW hc hg hm hv ha.pa hn hdb (he:=i6) (hpl:=hpl)).pre (tv Gk ha)⟩
theorem bx (Gk:El N)(hc:Ep X (.type T) gs N)(hm:X.mg x=none)(hv:ZY x=some (.type T))(ha:vg X C p (e::es) φs)(hg:Gl X x:=by rfl)(hn:x≠"__name__" := by decide)(hdb:(x==("__debug__" : Str))=false:=by decide)
  (i6:Ze (e::es) X.env=(false,eval e X.env)::Ze es X.env:=by rfl) (hpl:(aaw pos (Ze es X.env)).any (·.1)=false:=by rfl) :
  PQ X C p (.Call (.Name x pp) (e::es) [] pos) (lg gs N φs):=⟨lg.mono ha,(zC hc hg hm hv ha.pa hn hdb (he:=i6) (hpl:=hpl)).pre (tv Gk ha)⟩
end
def vj (P:Y0)(w:Zd)(ro:Bool)(H H':Hp)(d:D)(v:V):Prop:=match ro with
 |true=>∃A,Own P w H' d v A/\A.Nodup/\∀c∈A,H c=none
 |false=>aF P w (λa=>H a≠none) H' d v
abbrev rk (ro:Bool):Kd:=match ro with|true=>.own|false=>.gm
def cc (P:Y0)(w:Zd)(ro:Bool)(F:FD):Sp:=λvs H Q _=>∃ds,ao P w (λ_=>False) H ds vs/\F ds λd=>∀v H',aD H H'->vj P w ro H H' d v->Q v H'
section
variable {X:Cx}{C:Cfg}{k:Nat}{f:Addr}{fd:ZF}{ps:List Str}{F:FD}{ro p:Bool}{x:Str}{pp pos:Pos}{e:Expr}{es:List Expr}{φs:bS}{σ:St}{H H':Hp}{β:ba}{own:Nat->List Addr}{P:Y0}{w:Zd}
theorem vj.kv {Z:Hp×(Addr->Prop)}{d:D}{v:V}(hd:Dm (Wn own) H)(h0:∀a,C.H0 a≠none->H a≠none)(hz:∀a,Z.1 a≠none->H a≠none)(h:vj P w ro H H' d v):KV P w C Z own H' (rk ro) d v:=by
 cases ro with
 |true =>
  obtain⟨A,h1,h2,h3⟩:=h;exact⟨A,h1,h2,λc hc=>⟨ZT λz=>hz c z (h3 c hc),λz=>hd c z (h3 c hc),ZT λz=>h0 c z (h3 c hc)⟩⟩
 |false=>exact aF.bb (λa z=>z.elim (hd a) (h0 a)) h
def MO (ro:Bool)(F:FD)(φs:bS):aR:=λβ R=>φs β λds _ β1=>F ds λd=>R d (rk ro) β1
theorem ax (mF:cN F)(G:aP X.prog X.w X.K X.mg X.base bU k f fd ps (cc X.prog X.w ro F))(hr:cK k X.A)(hm:X.mg x=some (.ref f))(hk:PySem.W.keepIn X.K (.ref f)=true)(hb:Binds X.K fd ps [])(ha:vg X C p (e::es) φs)(hg:Gl X x:=by rfl)
  (hdb:(x==("__debug__" : Str))=false:=by decide)
  (i6:Ze (e::es) X.env=(false,eval e X.env)::Ze es X.env:=by rfl) (hpl:(aaw pos (Ze es X.env)).any (·.1)=false:=by rfl) :
  PQ X C p (.Call (.Name x pp) (e::es) [] pos) (MO ro F φs) :=
 ⟨λβ R R' k h=>ha.mono β _ _ (λds ks β1 q=>mF ds _ _ (λd q=>k _ _ _ q) q) h,(xR G hr hg hm hk hb .nil Hu ha.pa (hdb:=hdb) (he:=i6) (hpl:=hpl)).pre λσ H Q ⟨β,own,s,h⟩=>vp.of ha s h λds ks β1 vs H1 aC q o1 r1=>by
  rw[ZX];exact⟨ds,r1.bor,mF ds _ _ (λd q2 v H' s2 r2=>q2 v H' aC (o1.same s2) (r2.kv o1.sq.vy o1.sq.iW λa z=>o1.sn.d a z)) q⟩⟩
end
abbrev Cfg.z (C:Cfg):Cfg:=C.u λ_=>False
def SB (X:Cx)(C:Cfg)(Z:Hp×(Addr->Prop))(σ:St)(H:Hp)(β:ba):Prop:=∃own,SQ X C.z σ H β own/\Sn Z H (Wn own)
structure dw where
 nx:ba->Prop
 rt:D->ba->Prop
 bk:ba->Prop:=λ_=>False
 ct:ba->Prop:=λ_=>False
def dw.up (E:dw)(n:ba->Prop):dw:=⟨n,E.rt,E.bk,E.ct⟩
def dw.lp (E:dw)(n:ba->Prop):dw:=⟨n,E.rt,E.nx,n⟩
structure VM (X:Cx)(C:Cfg)(Z:Hp×(Addr->Prop))(E:dw)(D:Ends):Prop where
 nx:∀σ H β,SB X C Z σ H β->E.nx β->D.nx σ H
 rt:∀σ H β d v,SB X C Z σ H β->vj X.prog X.w C.ro C.H0 H d v->E.rt d β->D.rt v H
 bk:∀σ H β,SB X C Z σ H β->E.bk β->D.bk σ H
 ct:∀σ H β,SB X C Z σ H β->E.ct β->D.ct σ H
structure Le (E E':dw):Prop where
 nx:∀β,E.nx β->E'.nx β
 rt:∀d β,E.rt d β->E'.rt d β
 bk:∀β,E.bk β->E'.bk β
 ct:∀β,E.ct β->E'.ct β
abbrev EE:=dw->ba->Prop
def ap (ψ:EE)(E:dw)(β:ba):Prop:=ψ E β
def eN (R:D->Prop):dw:={nx:=λ_=>R .b_,rt:=λd _=>R d}
def Uw (X:Cx)(C:Cfg)(ψ:EE):TS:=λD σ H=>∃Z E β,SB X C Z σ H β/\ψ E β/\VM X C Z E D
structure PB (X:Cx)(C:Cfg)(st:Stmt)(ψ:EE):Prop where
 mono:∀E E' β,Le E E'->ψ E β->ψ E' β
 ps:PS X st (Uw X C ψ)
structure vh (X:Cx)(C:Cfg)(st:List Stmt)(ψ:EE):Prop where
 mono:∀E E' β,Le E E'->ψ E β->ψ E' β
 ps:sv X st (Uw X C ψ)
section
variable {X:Cx}{C:Cfg}{st:Stmt}{rest a b:List Stmt}{ψ ψ1 ψ2:EE}{Z:Hp×(Addr->Prop)}{σ:St}{H H':Hp}{β β':ba}{pos pos':Pos}{e c:Expr}{φ:aR}{τ:bt}{p:Bool}{own aU:Nat->List Addr}{i:Nat}{x:Str}
theorem Out.sb (n:Sn Z H (Wn own))(o:Out X C.z σ H own p β' H' aU):SB X C Z σ H' β':=⟨aU,o.sq,n.trans o.sn⟩
theorem aH:vh X C [] (λE β=>E.nx β):=⟨λE E' β l h=>l.nx β h,Fg.pre λD σ H lQ=>by obtain⟨Z,E,β,sb,h,ok⟩:=lQ;exact ok.nx σ H β sb h⟩
theorem ai (h1:PB X C st ψ1)(h2:vh X C rest ψ2):vh X C (st::rest) (λE β=>ψ1 (E.up (ap ψ2 E)) β) :=
 ⟨λE E' β l h=>h1.mono {E with nx:=ψ2 E} {E' with nx:=ψ2 E'} β ⟨λβ' q=>h2.mono E E' β' l q,l.rt,l.bk,l.ct⟩ h,(mR h1.ps h2.ps).pre λD σ H ⟨Z,E,β,sb,h,ok⟩ =>
  ⟨Z,{E with nx:=ψ2 E},β,sb,h,⟨λσ' H' β' IX h'=>⟨Z,E,β',IX,h',ok⟩,ok.rt,ok.bk,ok.ct⟩⟩⟩
theorem ak (h1:PB X C st ψ):vh X C [st] ψ:=⟨h1.mono,qX h1.ps⟩
theorem lY (h1:PB X C st ψ1)(h2:vh X C rest ψ2):vh X C (st::rest) (λE β=>∃J:ba->Prop,ψ1 (E.up J) β/\∀β',J β'->ap ψ2 E β') :=
 ⟨λE E' β l uj=>by obtain⟨J,h,k⟩:=uj;exact⟨J,h1.mono {E with nx:=J} {E' with nx:=J} β ⟨λ_ q=>q,l.rt,l.bk,l.ct⟩ h,λβ' q=>h2.mono E E' β' l (k β' q)⟩,(mR h1.ps h2.ps).pre λD σ H ⟨Z,E,β,sb,⟨J,h,k⟩,ok⟩ =>
  ⟨Z,{E with nx:=J},β,sb,h,⟨λσ' H' β' IX h'=>⟨Z,E,β',IX,k β' h',ok⟩,ok.rt,ok.bk,ok.ct⟩⟩⟩
theorem cg:vh X C a (λ_ _=>False):=⟨λ_ _ _ _ h=>h.elim,zt.pre λD σ H Gg=>by obtain⟨Z,E,β,sb,h,ok⟩:=Gg;exact h.elim⟩
theorem a6 (hc:vz X C.z p c τ)(ha:vh X C a ψ1)(hb:vh X C b ψ2):PB X C (.If c a b pos) (λE β=>τ β λt β'=>if t=true then ap ψ1 E β' else ap ψ2 E β') :=
 ⟨λE E' β l h=>hc.mono _ _ _ (λt β' q=>by
   cases t
   ·exact hb.mono E E' β' l q
   ·exact ha.mono E E' β' l q) h,(MV hc.pt ha.ps hb.ps).pre λD σ H Gf=>by
  obtain⟨Z,E,β,⟨own,s,n⟩,h,ok⟩:=Gf;refine oF.of hc s h λt β' H1 aC q o1=>?_;cases t
  ·exact⟨Z,E,β',o1.sb n,q,ok⟩
  ·exact⟨Z,E,β',o1.sb n,q,ok⟩⟩
abbrev F4 (d:D)(k:Kd)(K:B->Prop):Prop:=match k with
 |.own=>K (.val true d)
 |.gm=>K (.val true d)
 |.old=>K (.val false d)
 |.bor=>d.flat=true/\K (.val true d)
theorem F4.mono {d:D}{k:Kd}{K K':B->Prop}(h:∀b,K b->K' b)(q:F4 d k K):F4 d k K':=by
 cases k <;> first|exact h _ q|exact⟨q.1,h _ q.2⟩
theorem F4.of {P:Y0}{w:Zd}{d:D}{v:V}{k:Kd}{K:B->Prop}(r:KV P w C Z own H k d v)(q:F4 d k K):∃y,K (.val y d)/\aF P w (av C (Wn own) (yk y)) H d v:=by
 cases k with
 |own=>exact⟨true,q,r.gm⟩
 |gm=>exact⟨true,q,r⟩
 |old=>exact⟨false,q,r⟩
 |bor=>exact⟨true,q.2,aF.flat q.1 r⟩
theorem j4 {own:Nat->List Addr}{i:Nat}(n:Sn Z H (Wn own)):Sn Z H (Wn (aY own i [])):=⟨λb z=>n.w b (fq z),n.k,n.d⟩
theorem aW (he:PQ X C.z p e φ)(hN:X.N.Nodup)(hi:X.N[i]?=some x:=by rfl)(hx:Loc X.env.scope x:=by first|exact .inl rfl|exact .inr rfl)
  (hs:abx e (some (.Name x pos')) pos.line X.env=pure false:=by rfl) (hf:X.fn x=true\/X.env.scope.names.lookup x=some .local:=by first|exact .inl rfl|exact .inr rfl|assumption) :
  PB X C (.Assign [.Name x pos'] e pos) (λE β=>φ β λd k β'=>F4 d k λb=>E.nx (β'.set i (some b))) :=
 ⟨λE E' β l q=>he.mono _ _ _ (λd k β' q=>q.mono λ_=>l.nx _) q,(vU hN hi hx he.pe hs hf).pre λD σ H ⟨Z,E,β,⟨own,s,n⟩,q,ok⟩=>tQ.of he s q λd k β' v H' aU q o r=>by
  obtain⟨y,q,r⟩:=q.of r;exact ok.nx _ _ _ ⟨_,o.sq.d4 (aF.bb (λa z=>z.elim id λz=>z.elim) r),j4 (n.trans o.sn)⟩ q⟩
abbrev F5 (k:Kd)(d:D):Prop:=match k with
 |.own=>True
 |_=>d.flat=true
theorem KV.fl {P:Y0}{w:Zd}{d:D}{v:V}{k:Kd}(f:F5 k d)(r:KV P w C Z own H k d v):KV P w C Z own H .own d v:=by
 cases k with
 |own=>exact r
 |gm=>exact KV.flat f r.rep
 |old=>exact KV.flat f r.rep
 |bor=>exact KV.flat f r.rep
theorem dh (he:∀U,PQ X (C.u U) p e φ)(hN:X.N.Nodup)(hi:X.N[i]?=some x:=by rfl)(hx:Loc X.env.scope x:=by first|exact .inl rfl|exact .inr rfl)
  (hs:abx e (some (.Name x pos')) pos.line X.env=pure false:=by rfl) (hf:X.fn x=true\/X.env.scope.names.lookup x=some .local:=by first|exact .inl rfl|exact .inr rfl|assumption) :
  PB X C (.Assign [.Name x pos'] e pos) (λE β=>φ β λd k β'=>F5 k d/\E.nx (β'.set i (some (.own d)))) :=
 ⟨λE E' β l q=>(he λ_=>False).mono _ _ _ (λd k β' q=>⟨q.1,l.nx _ q.2⟩) q,λpins s σ H D I ⟨Z,E,β,⟨own,sq,n⟩,q,ok⟩ =>
  vU hN hi hx (he λa=>H a=none).pe hs hf pins s σ H D I (tQ.of (he λa=>H a=none) (sq.pB (C:=C.z) (U:=λa=>H a=none) λa z=>z) q λd k β' v H' aU C1 o r=>by
   obtain⟨f,q⟩:=C1;obtain⟨A,h1,h2,h3⟩:=r.fl f;refine ok.nx _ _ _ ⟨_,o.sq.vR h1 h2 λc hc=>⟨(h3 c hc).2.2,(h3 c hc).2.1,(h3 c hc).1⟩,?_⟩ q;have m:=n.trans o.sn;exact⟨λb KO=>by
    obtain⟨j,hj⟩:=KO
    by_cases aT:i=j
    ·rw[<- aT,os_eq]at hj;exact .inr (n.free (h3 b hj).1)
    ·rw[bp aT]at hj;exact m.w b ⟨j,hj⟩,m.k,m.d⟩)⟩
theorem cD.MU {P:Y0}{w:Zd}{U U2:Addr->Prop}{d d':D}{v:V}{A':List Addr}{c:Addr}{o:HO}(b:cD P w (C.u U) σ H β own)(e:β[i]?=some (some (.own d)))(hσ:σ[i]?=some (some v))(hc:c∈own i)
  (r:Own P w (upd H c o) d' v A') (nd:A'.Nodup) (hA:∀a∈A',a∈own i\/(C.H0 a=none/\¬ Wn own a/\U a)) (hU:∀a,U2 a->U a) (TC:∀a∈A',¬ U2 a):cD P w (C.u U2) σ (upd H c o) (β.set i (some (.own d'))) (aY own i A'):=by
 obtain⟨g1,g2,g3,g4⟩:=b.dm i c hc;obtain⟨oc,KP⟩:∃oc,H c=some oc:=by
  cases q:H c with
  |none=>exact absurd q g1
  |some oc=>exact⟨oc,rfl⟩
 have ht:∀xs,oc≠.tup xs:=λxs z=>g2 xs (by rw[KP,z])
 have k:Kp (·=c) H (upd H c o):=nC KP ht;have h0:∀a∈own i,C.H0 a=none:=by obtain⟨_,_,_,h⟩:=b.ow i d e;exact h
 have wc:Wn own c:=⟨i,hc⟩;have sub:∀y a,jT (C.u U2) (Wn (aY own i A')) (yk y) a->jT (C.u U) (Wn own) (yk y) a:=λy a h=>by
  have q:∀a,Wn (aY own i A') a->Wn own a\/U a:=λa wx=>by
   obtain⟨j,q⟩:=wx
   by_cases aT:i=j
   ·rw[aT,os_eq]at q;rcases hA a q with z|z
    ·exact .inl ⟨i,z⟩
    ·exact .inr z.2.2
   ·rw[bp aT]at q;exact .inl ⟨j,q⟩
  rcases h with h|h
  ·cases y with
   |true=>exact h.elim (λz=>(q a z).imp .inl id) λz=>.inl (.inr z)
   |false=>exact q a h
  ·exact .inr (hU a h)
 have mem:∀{j c},c∈aY own i A' j->(i=j/\c∈A')\/(i≠j/\c∈own j):=λ{j c} h=>by
  by_cases aT:i=j
  ·subst aT;rw[os_eq]at h;exact .inl ⟨rfl,h⟩
  ·rw[bp aT]at h;exact .inr ⟨aT,h⟩
 have O6:∀j,i≠j->∀a∈own j,a≠c:=λj aT a ha z=>aT (b.oJ i j c hc (by rw[<- z];exact ha))
 refine⟨by simp[b.len],λj y' d2 e2=>?_,λj d2 e2=>?_,λj ok e2=>?_,λj a h=>?_,λj k2 a h1 h2=>?_,λj=>?_,⟨λa oa z n=>?_,λa xs z=>k.tup a xs (b.kp.tup a xs z)⟩,λa z=>?_,λj y' d2 e2=>by
  by_cases aT:i=j
  ·subst aT;obtain⟨e',hl⟩:=bG e2;cases e'
  ·rw[bB aT]at e2;rw[bp aT];obtain⟨u,h1,h2,h3⟩:=b.shl j y' d2 e2;exact⟨u,h1,h2.map (λa ha oa ea=>k.out a oa ea (O6 j aT a ha)) (λ_ _ r=>ao.bb (sub _) (r.keep (k.mono λa z=>by rw[z];cases y' <;> first|exact .inl wc|exact .inl (.inl wc)))),h3⟩⟩
 ·by_cases aT:i=j
  ·subst aT;obtain⟨e',hl⟩:=bG e2;cases e'
  ·rw[bB aT]at e2;obtain⟨u,h1,h2⟩:=b.val j y' d2 e2;exact⟨u,h1,(h2.keep (k.mono λa z=>by rw[z];cases y' <;> first|exact .inl wc|exact .inl (.inl wc))).bb (sub _)⟩
 ·by_cases aT:i=j
  ·subst aT;obtain⟨e',hl⟩:=bG e2;cases e';rw[os_eq];exact⟨v,hσ,r,λa ha=>(hA a ha).elim (h0 a) λz=>z.1⟩
  ·rw[bB aT]at e2;rw[bp aT];obtain⟨u,h1,h2,h3⟩:=b.ow j d2 e2;exact⟨u,h1,h2.keep k.tup (λa ha oa ea=>k.out a oa ea (O6 j aT a ha)),h3⟩
 ·by_cases aT:i=j
  ·subst aT;obtain⟨e',hl⟩:=bG e2;cases e'
  ·rw[bB aT]at e2;rw[bp aT];obtain⟨a,ns,h1,h2,h3,h4,h5⟩:=b.vv j ok e2;exact⟨a,ns,h1,k.out a _ h2 (O6 j aT a (by rw[h4];simp)),h3,h4,h5⟩
 ·rcases mem h with⟨_,h⟩|⟨aT,h⟩
  ·exact⟨(r.o_ a h).1,(r.o_ a h).2,.inl ((hA a h).elim (h0 a) λz=>z.1),TC a h⟩
  ·obtain⟨q1,q2,q3,q4⟩:=b.dm j a h;rw[ay (O6 j aT a h)];exact⟨q1,q2,q3,λz=>q4 (hU a z)⟩
 ·rcases mem h1 with⟨e1,h1⟩|⟨n1,h1⟩
  ·rcases mem h2 with⟨e2,h2⟩|⟨n2,h2⟩
   ·rw[<- e1,<- e2]
   ·rcases hA a h1 with z|z
    ·exact absurd (b.oJ i k2 a z h2) n2
    ·exact absurd ⟨k2,h2⟩ z.2.1
  ·rcases mem h2 with⟨e2,h2⟩|⟨n2,h2⟩
   ·rcases hA a h2 with z|z
    ·exact absurd (b.oJ i j a z h1) n1
    ·exact absurd ⟨j,h1⟩ z.2.1
   ·exact b.oJ j k2 a h1 h2
 ·by_cases aT:i=j
  ·rw[<- aT,os_eq];exact nd
  ·rw[bp aT];exact b.pS j
 ·refine k.out a oa (b.kp.out a oa z n) λq=>?_;subst q;rw[h0 a hc]at z;cases z
 ·by_cases Vv:a=c
  ·rw[Vv,aE];exact λz=>(nomatch z)
  ·rw[ay Vv];exact b.iW a z
theorem cD.putIn {P:Y0}{w:Zd}{U:Addr->Prop}{d d':D}{v:V}{A':List Addr}{c:Addr}{o:HO}(b:cD P w (C.u U) σ H β own)(e:β[i]?=some (some (.own d)))(hσ:σ[i]?=some (some v))(hc:c∈own i)
  (r:Own P w (upd H c o) d' v A') (nd:A'.Nodup) (hA:∀a∈A',a∈own i\/(C.H0 a=none/\¬ Wn own a/\U a)):cD P w C.z σ (upd H c o) (β.set i (some (.own d'))) (aY own i A') :=
 b.MU (U2:=λ_=>False) e hσ hc r nd hA (λ_ z=>z.elim) λ_ _ z=>z
theorem vO {A':List Addr}{c:Addr}{o:HO}{U:Addr->Prop}(n:Sn Z H (Wn own))(m:∀a,U a->Z.1 a=none)(hc:Wn own c)(KP:∃oc,H c=some oc/\∀xs,oc≠.tup xs)(hA:∀a∈A',a∈own i\/(C.H0 a=none/\¬ Wn own a/\U a)):Sn Z (upd H c o) (Wn (aY own i A')):=by
 obtain⟨oc,h1,h2⟩:=KP;have u:=Sn.upd (o':=o) n h1 h2 hc;exact⟨λb C0=>by
  obtain⟨j,hj⟩:=C0
  by_cases aT:i=j
  ·rw[<- aT,os_eq]at hj;rcases hA b hj with z|z
   ·exact n.w b ⟨i,z⟩
   ·exact .inr (m b z.2.2)
  ·rw[bp aT]at hj;exact n.w b ⟨j,hj⟩,u.k,u.d⟩
theorem cD.ni {P:Y0}{w:Zd}{ds:List D}(b:cD P w C σ H β own)(e:β[i]?=some (some (.own (.lst ds)))):∃a vs A',σ[i]?=some (some (.ref a))/\H a=some (.lst vs)/\own i=a::A'/\a9 P w H ds vs A':=by
 obtain⟨v,h1,⟨a,vs,A',rfl,h2,h3,h4⟩,_⟩:=b.ow i _ e;exact⟨a,vs,A',h1,h2,h3,h4⟩
variable {px ap cp:Pos}
theorem fA (he:∀U,PQ X (C.u U) p e φ)(hn:Nm X i x:=by exact JV)
  (eM:aa0 (.Name x px) "append" X.env (eval (.Name x px) X.env)=eval (.Name x px) X.env:=by rfl)
  (nN:((aaw cp (Ze [e] X.env)).all (λx=>!x.1)&&(backToKw cp (ack [] X.env)).all (λx=>x.1.isSome)&&decide ([e].length+([]:List abQ).length+(if ([]:List abQ).isEmpty then 0 else 1)<30))=true:=by rfl)
  (eL:(ap.endLine==cp.line)=true:=by rfl) (hs:Ze [e] X.env=(false,eval e X.env)::Ze [] X.env:=by rfl) (f9:(aaw cp (Ze [] X.env)).any (·.1)=false:=by rfl)
  (yi:abx (.Call (.Attribute (.Name x px) "append" ap) [e] [] cp) none pos.line X.env=pure false:=by rfl) :
  PB X C (.Expr (.Call (.Attribute (.Name x px) "append" ap) [e] [] cp) pos) (λE β=>(∃ds,β[i]?=some (some (.own (.lst ds))))/\φ β λd k β'=>F5 k d/\∃ds,β'[i]?=some (some (.own (.lst ds)))/\ds.length<Zf/\E.nx (β'.set i (some (.own (.lst (ds++[d])))))):=by
 refine⟨λE E' β l CZ=>by obtain⟨h1,q⟩:=CZ;exact⟨h1,(he λ_=>False).mono _ _ _ (λd k β' CY=>by obtain⟨f,ds,h1,h2,q⟩:=CY;exact⟨f,ds,h1,h2,l.nx _ q⟩) q⟩,λpins s σ H D I kP=>?_⟩
 obtain⟨Z,E,β,⟨own,sq,n⟩,⟨⟨VE,hb⟩,q⟩,ok⟩:=kP;refine qY (pos:=pos) (tI (apos:=ap) (cpos:=cp) PySem.F.plainAttrs_list PySem.F.slot_list_append PySem.F.type_list_append kq (mU (pos:=px) hn) (cT (he λa=>H a=none).pe fW hs) eM nN eL hs f9) yi pins s σ H D I ?_;obtain⟨a,vs,A',h1,h2,h3,h4⟩:=sq.ni hb;refine⟨.ref a,h1,.inl ⟨rfl,vs,dC.of h2⟩,tQ.of (he λa=>H a=none) (sq.pB (C:=C.z) (U:=λa=>H a=none) λa z=>z) q λd k β' v H1 aC ui o r=>?_⟩;obtain⟨f,ds,sg,hl,q⟩:=ui;obtain⟨a',vs',A1,g1,g2,g3,g4⟩:=o.sq.ni sg;rw[h1]at g1;cases g1;obtain⟨A,r1,r2,r3⟩:=r.fl f;have ha:a∈aC i:=by rw[g3];simp
 have nd:(a::(A1++A)).Nodup:=by
  have q:=o.sq.pS i;rw[g3]at q;refine ZD.mpr ⟨λz=>?_,ZL.mpr ⟨(ZD.mp q).2,r2,λx hx y hy e=>?_⟩⟩
  ·rcases Zb.mp z with z|z
   ·exact(ZD.mp q).1 z
   ·exact(r3 a z).2.1 ⟨i,ha⟩
  ·subst e;exact(r3 x hy).2.1 ⟨i,by rw[g3];simp[hx]⟩
 have hA:∀b∈a::(A1++A),b∈aC i\/(C.H0 b=none/\¬ Wn aC b/\H b=none):=λb hb=>by
  rcases Y4.mp hb with rfl|hb
  ·exact .inl ha
  ·rcases Zb.mp hb with hb|hb
   ·exact .inl (by rw[g3];simp[hb])
   ·exact .inr ⟨(r3 b hb).2.2,(r3 b hb).2.1,(r3 b hb).1⟩
 have kt:∀b xs,H1 b=some (.tup xs)->upd H1 a (.lst (vs'++[v])) b=some (.tup xs):=λb xs z=>by
  rw[ay (λz'=>by rw[z',g2]at z;cases z)];exact z
 have ne1:∀c∈A1,c≠a:=λc hc z=>by
  have q:=o.sq.pS i;rw[g3]at q;exact(ZD.mp q).1 (by rw[<- z];exact hc)
 have ne2:∀c∈A,c≠a:=λc hc z=>(r3 c hc).2.1 ⟨i,by rw[z];exact ha⟩
 have r':Own X.prog X.w (upd H1 a (.lst (vs'++[v]))) (.lst (ds++[d])) (.ref a) (a::(A1++A)) :=
  ⟨a,vs'++[v],A1++A,rfl,aE,rfl,(g4.keep kt λc hc oc ec=>by rw[ay (ne1 c hc)];exact ec).append (a9.one (r1.keep kt λc hc oc ec=>by rw[ay (ne2 c hc)];exact ec))⟩
 exact⟨a,vs',v,rfl,rfl,g2,by rw[g4.length];exact hl,ok.nx _ _ _ ⟨_,o.sq.putIn sg h1 ha r' nd hA,vO (n.trans o.sn) (λb z=>n.free z) ⟨i,ha⟩ ⟨_,g2,λxs z=>by cases z⟩ hA⟩ q⟩
end
abbrev eV:=D->Kd->ba->(ba->Prop)->Prop
abbrev lJ:=List D->Kd->ba->(ba->Prop)->Prop
structure EF (X:Cx)(C:Cfg)(tg:Expr)(T:List Nat)(γ:eV):Prop where
 mono:∀d k β R R',(∀r,R r->R' r)->γ d k β R->γ d k β R'
 pg:PG X tg λv σ H Q=>∃own β d k,SQ X C σ H β own/\Rp X (jT C (Wn own) k) H d v/\γ d k β λβ'=>∀σ' aU,SQ X C σ' H β' aU->(∀a,Wn aU a->Wn own a)->(∀j,j∉T->σ'[j]?=σ[j]?)->Q σ' H
structure Ek (X:Cx)(C:Cfg)(r_:List Expr)(T:List Nat)(γ:lJ):Prop where
 mono:∀d k β R R',(∀r,R r->R' r)->γ d k β R->γ d k β R'
 QI:Ha X r_ λvs σ H Q=>∃own β ds k,SQ X C σ H β own/\oN X (jT C (Wn own) k) H ds vs/\γ ds k β λβ'=>∀σ' aU,SQ X C σ' H β' aU->(∀a,Wn aU a->Wn own a)->(∀j,j∉T->σ'[j]?=σ[j]?)->Q σ' H
section
variable {X:Cx}{C:Cfg}{tg:Expr}{r_:List Expr}{γ:eV}{γs:lJ}{T T':List Nat}{pos:Pos}{e:Expr}{φ:aR}{p:Bool}
def XS (i:Nat):eV:=λd k β R=>F4 d k λb=>R (β.set i (some b))
theorem au {i:Nat}{x:Str}(hN:X.N.Nodup)(hi:X.N[i]?=some x:=by rfl)(hx:Loc X.env.scope x:=by first|exact .inl rfl|exact .inr rfl)
  (hf:X.fn x=true\/X.env.scope.names.lookup x=some .local:=by first|exact .inl rfl|exact .inr rfl|assumption):EF X C (.Name x pos) [i] (XS i) :=
 ⟨λd k β R R' h q=>F4.mono (d:=d) (k:=k) (K:=λb=>R (β.set i (some b))) (K':=λb=>R' (β.set i (some b))) (λ_=>h _) q,(qZ hN hi hx hf).pre λv σ H Q lQ=>by
  obtain⟨own,β,d,k,s,r,q⟩:=lQ;have O2:∀(v:V) (j:Nat),j∉[i]->(σ.set i (some v))[j]?=σ[j]?:=λv j hj=>bB (abP (by simpa using hj))
  cases k with
  |own=>exact q _ _ (s.d4 (y:=true) r) (λa h=>fq h) (O2 v)
  |gm=>exact q _ _ (s.d4 (y:=true) r) (λa h=>fq h) (O2 v)
  |old=>exact q _ _ (s.d4 (y:=false) r) (λa h=>fq h) (O2 v)
  |bor=>exact q.2 _ _ (s.d4 (y:=true) (aF.flat q.1 r)) (λa h=>fq h) (O2 v)⟩
abbrev sk (k:Kd):D->Kd
 |.int _=>.own
 |.bl _=>.own
 |.b_=>.own
 |.str _=>.own
 |_=>k.wk
theorem qR {P:Y0}{w:Zd}{W:Addr->Prop}{H:Hp}{k:Kd}{d:D}{v:V}(r:aF P w (jT C W k) H d v):aF P w (jT C W (sk k d)) H d v:=by
 cases d with
 |int i=>exact aF.flat rfl r
 |bl i=>exact aF.flat rfl r
 |b_=>exact aF.flat rfl r
 |str i=>exact aF.flat rfl r
 |_=>exact aF.bb (λa z=>z.imp (DW a) id) r
def K3:lJ:=λds _ β R=>ds=[]/\R β
def Dc (γ:eV)(γs:lJ):lJ:=λds k β R=>∃d r,ds=d::r/\γ d (sk k d) β λβ'=>γs r k β' R
theorem bj:Ek X C [] [] K3:=⟨λd k β R R' h q=>⟨q.1,h _ q.2⟩,Fm.pre λvs σ H Q rD=>by
 obtain⟨own,β,ds,k,s,r,e,q⟩:=rD;subst e;exact⟨r,q σ own s (λ_ z=>z) λ_ _=>rfl⟩⟩
theorem az (h1:EF X C tg T γ)(h2:Ek X C r_ T' γs)(hs:(aac (tg::r_) X.env).map (·.2)=assign tg X.env::(aac r_ X.env).map (·.2):=by rfl):Ek X C (tg::r_) (T++T') (Dc γ γs) :=
 ⟨λds k β R R' h uj=>by obtain⟨d,r,e,q⟩:=uj;exact⟨d,r,e,h1.mono _ _ β _ _ (λβ' q=>h2.mono r k β' _ _ h q) q⟩,
  (BG h1.pg h2.QI hs).pre λvs σ H Q NR=>by
    obtain⟨own,β,ds,k,s,rr,d,r,e,q⟩:=NR;subst e;obtain⟨v,vr,rfl,rv,Wl⟩:=rr;exact⟨v,vr,rfl,own,β,d,_,s,qR rv,h1.mono _ _ β _ _ (λβ' q σ' aU s' w' t'=>⟨aU,β',r,k,s',ao.bb (jS w' k) Wl,h2.mono r k β' _ _ (λβ2 q2 σ2 bg s2 w2 t2=>q2 σ2 bg s2 (λa z=>w' a (w2 a z)) λj hj=>(t2 j λz=>hj (ZK _ z)).trans (t' j λz=>hj (Z8 _ z))) q⟩) q⟩⟩
def XQ (n:Nat)(γs:lJ):eV:=λd k β R=>∃ds,d=.tup ds/\ds.length=n/\γs ds k β R
theorem bL {k:Nat}{n:Nat}(hc:X.calm=true)(h:Ek X C r_ T γs)(hn:(aac r_ X.env).length=n:=by rfl)(lP:(aac r_ X.env).findIdx? (·.1)=none:=by rfl):EF X C (.Tuple r_ k pos) T (XQ n γs) :=
 ⟨λd k β R R' hh KH=>by obtain⟨ds,e,l,q⟩:=KH;exact⟨ds,e,l,h.mono ds k β _ _ hh q⟩,(Jk hc h.QI hn lP).pre λv σ H Q Sj=>by
  obtain⟨own,β,d,k,s,r,ds,e,l,q⟩:=Sj;subst e;obtain⟨a,vs,rfl,ha,rs⟩:=r;exact⟨a,vs,rfl,su.of ha,by rw[rs.length];exact l,own,β,ds,k,s,rs,q⟩⟩
theorem ji {Z:Hp×(Addr->Prop)}{H:Hp}{own aU:Nat->List Addr}(n:Sn Z H (Wn own))(h:∀a,Wn aU a->Wn own a):Sn Z H (Wn aU):=⟨λb z=>n.w b (h b z),n.k,n.d⟩
theorem ki (he:PQ X C.z p e φ)(hg:EF X C.z tg T γ)(hs:swapsWithSole [tg] e pos.line X.env=pure false:=by rfl)(hw:swappedStores [tg] e X.env=pure none:=by rfl)
  (h1:(aac [tg] X.env).map (·.2)=[assign tg X.env]:=by rfl):PB X C (.Assign [tg] e pos) (λE β=>φ β λd k β'=>γ d k β' E.nx) :=
 ⟨λE E' β l q=>he.mono _ _ _ (λd k β' q=>hg.mono _ _ _ _ _ l.nx q) q,(vW he.pe hg.pg hs hw h1).pre λD σ H ⟨Z,E,β,⟨own,s,n⟩,q,ok⟩=>tQ.of he s q λd k β' v H' aU q o r =>
  ⟨aU,β',d,k,o.sq,aF.bb (λa z=>z.elim id λz=>z.elim) r.rep,hg.mono _ _ _ _ _ (λβ2 q σ2 bg s2 w2 _=>ok.nx _ _ _ ⟨bg,s2,ji (n.trans o.sn) w2⟩ q) q⟩⟩
theorem xT (he:PQ X C.z p e φ)(yi:abx e none pos.line X.env=pure false:=by rfl):PB X C (.Expr e pos) (λE β=>φ β λ_ _ β'=>E.nx β') :=
 ⟨λE E' β l q=>he.mono _ _ _ (λd k β' q=>l.nx _ q) q,(qY he.pe yi).pre λD σ H Gg=>by obtain⟨Z,E,β,⟨own,s,n⟩,q,ok⟩:=Gg;exact tQ.of he s q λd k β' v H' aU q o r=>ok.nx _ _ _ (o.sb n) q⟩
abbrev Q0 (ro:Bool)(k:Kd)(d:D):Prop:=match k,ro with
 |.own,_=>True
 |.gm,false=>True
 |_,_=>d.flat=true
theorem dZ {P:Y0}{w:Zd}{W:Addr->Prop}{ro:Bool}{H H':Hp}{d:D}{v:V}(f:d.flat=true)(r:aF P w W H' d v):vj P w ro H H' d v:=by
 cases ro with
 |true=>exact⟨[],eF f r,Z7,λc hc=>(nomatch hc)⟩
 |false=>exact aF.flat f r
theorem FV {P:Y0}{w:Zd}{Z:Hp×(Addr->Prop)}{own:Nat->List Addr}{ro:Bool}{H':Hp}{k:Kd}{d:D}{v:V}(f:Q0 ro k d)(r:KV P w C Z own H' k d v):vj P w ro C.H0 H' d v:=by
 cases k with
 |own =>
  cases ro with
  |true=>obtain⟨A,h1,h2,h3⟩:=r;exact⟨A,h1,h2,λc hc=>(h3 c hc).2.2⟩
  |false=>exact aF.bb (λa z=>.inr z) r.rep
 |gm =>
  cases ro with
  |true=>exact dZ f r.rep
  |false=>exact aF.bb (λa z=>.inr z) r.rep
 |old=>cases ro <;> exact dZ f r.rep
 |bor=>cases ro <;> exact dZ f r.rep
theorem Fv (he:PQ X C.z p e φ):PB X C (.Return (some e) pos) (λE β=>φ β λd k β'=>Q0 C.ro k d/\E.rt d β') :=
 ⟨λE E' β l q=>he.mono _ _ _ (λd k β' q=>⟨q.1,l.rt _ _ q.2⟩) q,(vV he.pe).pre λD σ H Gf=>by obtain⟨Z,E,β,⟨own,s,n⟩,q,ok⟩:=Gf;exact tQ.of he s q λd k β' v H' aU q o r=>ok.rt _ _ _ _ _ (o.sb n) (FV (C:=C.z) q.1 r) q.2⟩
theorem aL {ro:Bool}(he:PQ X C.z p e φ)(Sa:C.ro=ro:=by first|exact(rfl:_=true)|exact(rfl:_=false)):PB X C (.Return (some e) pos) (λE β=>φ β λd k β'=>Q0 ro k d/\E.rt d β'):=by
 subst Sa;exact Fv he
end
abbrev gR:=ba->(List D->Kd->ba->Prop)->Prop
structure G_ (X:Cx)(C:Cfg)(p:Bool)(tg iter:Expr)(ι:gR):Prop where
 mono:∀β R R',(∀d k β,R d k β->R' d k β)->ι β R->ι β R'
 pi:PI X tg iter λσ H R=>∃β own,SQ X C σ H β own/\ι β λds k β'=>∀J H' aU,Out X C σ H own p β' H' aU->EG X (av C (Wn aU) k) J ds H'->R J H'
section
variable {X:Cx}{C:Cfg}{tg e a:Expr}{φ:aR}{φs:bS}{p:Bool}{pp pos:Pos}
def Q5 (φ:aR):gR:=λβ R=>φ β λd k β'=>∃ds,d=.lst ds/\R ds k β'
theorem bq (h:PQ X C p e φ):G_ X C p tg e (Q5 φ) :=
 ⟨λβ R R' k q=>h.mono β _ _ (λd kd β' C1=>by obtain⟨ds,e,q⟩:=C1;exact⟨ds,e,k _ _ _ q⟩) q,(xQ h.pe).pre λσ H R ⟨β,own,s,q⟩=>tQ.of h s q λd k β' v H1 aC wx o1 r1=>by
  obtain⟨ds,e,q1⟩:=wx;subst e;obtain⟨a,vs,rfl,h1,n1,q2⟩:=r1.rep;exact⟨a,rfl,⟨vs,dC.of h1⟩,q1 _ _ aC o1 (ue h1 n1 q2)⟩⟩
def F9 (φs:bS):gR:=λβ R=>φs β λds _ β'=>∃j:Int,ds=[.int j]/\-(2 ^ 62)<=j/\j<2 ^ 62/\R (qW 0 j.toNat) .gm β'
theorem bC (hm:X.mg "range" = none) (ha:vg X C p [a] φs) (hg:Gl X "range" := by rfl) (hs:Ze [a] X.env=[(false,eval a X.env)]:=by rfl):G_ X C p tg (.Call (.Name "range" pp) [a] [] pos) (F9 φs) :=
 ⟨λβ R R' k q=>ha.mono β _ _ (λd kd β' KN=>by obtain⟨j,e,h1,h2,q⟩:=KN;exact⟨j,e,h1,h2,k _ _ _ q⟩) q,(zA hg hm ha.pa hs).pre λσ H R ⟨β,own,s,q⟩=>vp.of ha s q λds ks β' vs H1 aC KJ o1 r1=>by
  obtain⟨j,e,h1,h2,q1⟩:=KJ;subst e;obtain⟨x,rfl,hx⟩:=qG r1.mP;cases hx;exact⟨j,rfl,h1,h2,q1 _ _ aC o1 zQ⟩⟩
end
def Dj (γ:eV)(ψ:EE)(E:dw)(ds:List D)(k:Kd)(β:ba):Prop:=∃I:Nat->ba->Prop,I 0 β/\(∀i d β,ds[i]?=some d->I i β->γ d (sk k d) β λβ1=>ψ (E.lp (I (i+1))) β1)/\∀β,I ds.length β->E.nx β
section
variable {X:Cx}{C:Cfg}{tg iter:Expr}{γ:eV}{T:List Nat}{ψ:EE}{ι:gR}{body:List Stmt}{pos:Pos}{p:Bool}
theorem Dj.mono {E E':dw}{ds:List D}{k:Kd}{β:ba}(hγ:∀d k β R R',(∀r,R r->R' r)->γ d k β R->γ d k β R')(hψ:∀E E' β,Le E E'->ψ E β->ψ E' β)(l:Le E E'):Dj γ ψ E ds k β->Dj γ ψ E' ds k β:=λW6=>by
 obtain⟨I,h0,h1,h2⟩:=W6;exact⟨I,h0,λi d β e q=>hγ d _ β _ _ (λβ1 q=>hψ {nx:=I (i+1),rt:=E.rt,bk:=E.nx,ct:=I (i+1)} {nx:=I (i+1),rt:=E'.rt,bk:=E'.nx,ct:=I (i+1)} β1 ⟨λ_ q=>q,l.rt,l.nx,λ_ q=>q⟩ q) (h1 i d β e q),λβ q=>l.nx _ (h2 β q)⟩
theorem G5 {own bg:Nat->List Addr}{H H2:Hp}{k:Kd}(n:Sn (H,Wn own) H2 (Wn bg)):∀b,av C (Wn bg) k b->av C (Wn own) k b\/H b=none:=λb z=>by
 cases k with
 |own=>exact z.elim (λz=>(n.w b z).imp .inl id) λz=>.inl (.inr z)
 |gm=>exact z.elim (λz=>(n.w b z).imp .inl id) λz=>.inl (.inr z)
 |old=>exact n.w b z
 |bor=>exact z.elim
theorem ft (hp:PassesOwn (model X.prog X.w) X.A X.env X.xe)(hc:X.calm=true)(hi:G_ X C.z p tg iter ι)(hg:EF X C.z tg T γ)(hb:vh X C body ψ)(hs:∀x,aav iter X.env x=pure x:=by intro _;rfl):
  PB X C (.For tg iter body [] pos) (λE β=>ι β λds k β1=>hold k false/\Dj γ ψ E ds k β1) :=
 ⟨λE E' β l q=>hi.mono _ _ _ (λds k β1 q=>⟨q.1,q.2.mono hg.mono hb.mono l⟩) q,(Bq hp hc hi.pi hg.pg hb.ps hs).pre λD σ H SW=>by
  obtain⟨Z,E,β,⟨own,s,n⟩,q,ok⟩:=SW;refine⟨β,own,s,hi.mono _ _ _ (λds k β1 kP J H1 aC o1 it=>?_) q⟩;obtain⟨hk,I,i0,i1,i2⟩:=kP;have n':=n.trans o1.sn;have ig:∀b,Wn aC b\/H1 b=none->av C.z (Wn aC) k b\/H1 b=none:=λb z=>by
   cases k with
   |own=>exact z.imp .inl id
   |gm=>exact z.imp .inl id
   |old=>exact z
   |bor=>exact hk.elim
  have LV:=it (λb=>av C.z (Wn aC) k b\/H1 b=none) λb z=>z;refine⟨λi m σ H=>i<=ds.length/\m=ds.length-i/\∃β,SB X C (H1,Wn aC) σ H β/\I i β,⟨_,Zm _,rfl,β1,⟨aC,o1.sq,Sn.refl⟩,i0⟩,?_⟩;rintro i m σ2 H2 ⟨hi,rfl,β2,⟨bg,s2,n2⟩,hl⟩;obtain⟨gJ,Kf⟩:=LV i H2 (n2.k.mono ig)
  by_cases ic:i<ds.length
  ·right
   have hd:ds[i]?=some ds[i]:=Y2 ic;obtain⟨go,yl⟩:=gJ _ hd;refine⟨go,λσ' H'=>∃β,SB X C (H1,Wn aC) σ' H' β/\I (i+1) β,λσ' H' SU=>by obtain⟨β',IX,oG⟩:=SU;exact⟨_,by lia,ic,rfl,β',IX,oG⟩,λx H3 y=>?_⟩
   obtain⟨s3,r3⟩:=yl x H3 y;refine⟨bg,β2,_,_,s2.same s3,qR (C:=C.z) (aF.bb (λb z=>G5 (C:=C) n2 b (z.elim id λz=>z.elim)) r3),hg.mono _ _ _ _ _ (λβ4 q σ4 tR s4 w4 _=>?_) (i1 i _ β2 hd hl)⟩;refine⟨(H1,Wn aC),_,β4,⟨tR,s4,ji (n2.same s3) w4⟩,q,⟨λσ5 H5 β5 zh q5=>⟨β5,zh,q5⟩,λσ5 H5 β5 d5 v5 zh r5 q5=>?_,λσ5 H5 β5 zh q5=>?_,λσ5 H5 β5 zh q5=>⟨β5,zh,q5⟩⟩⟩
   ·obtain⟨rd,s5,n5⟩:=zh;exact ok.rt _ _ _ _ _ ⟨rd,s5,n'.trans n5⟩ r5 q5
   ·obtain⟨rd,s5,n5⟩:=zh;exact ok.nx _ _ _ ⟨rd,s5,n'.trans n5⟩ q5
  ·left
   have e:i=ds.length:=by lia
   subst e;exact⟨Kf (YY _),ok.nx _ _ _ ⟨bg,s2,n'.trans n2⟩ (i2 β2 hl)⟩⟩
end
def startB (N:List Str)(ds:List D):ba:=ds.map (λd=>some (.val false d))++ZP (N.length-ds.length) none
section
variable {P:Y0}{w:Zd}{K:PySem.W.Frag}{mg:Str->Option YU}{base:Heap}
theorem gD {i n:Nat}{b:B}(h:(ZP n (none:Option B))[i]?=some (some b)):False:=by
 rw[List.getElem?_replicate]at h
 split at h <;> cases h
theorem gV {ds:List D}{n i:Nat}{b:B}(h:(ds.map (λd=>some (B.val false d))++ZP n none)[i]?=some (some b)):∃d,ds[i]?=some d/\b=.val false d:=by
 by_cases hi:i<ds.length
 ·rw[aah (by simpa using hi),Zj]at h
  cases q:ds[i]? with
  |none=>rw[q]at h;cases h
  |some d=>rw[q]at h;cases h;exact⟨d,rfl,rfl⟩
 ·rw[Z0 (by simpa using hi)]at h
  exact(gD h).elim
theorem yZ {N:List Str}{vs:List V}{i:Nat}{v:V}(h:vs[i]?=some v):(start N vs)[i]?=some (some v):=by
 unfold start;rw[aah (by simpa using (Y_.mp h).1),Zj,h]
 rfl
theorem mD {N:List Str}{vs:List V}{ds:List D}{H:Hp}{ro:Bool}(r:ao P w (λ_=>False) H ds vs):cD P w ⟨H,λ_=>False,ro,λ_=>False⟩ (start N vs) H (startB N ds) (λ_=>[]):=by
 refine⟨?_,λi y d h=>?_,λi d h=>?_,λi ok h=>?_,λi a h=>(nomatch h),λi j a h=>(nomatch h),λi=>Z7,Kp.refl,λ_ z=>z,λi y d h=>by obtain⟨d',e,e'⟩:=gV h;cases e'⟩
 ·unfold startB start;simp[r.length]
 ·obtain⟨d',e,e'⟩:=gV h;cases e';obtain⟨v,e1,e2⟩:=ao.get r e;exact⟨v,yZ e1,aF.bb (λa z=>z.elim (λSN=>by obtain⟨_,q⟩:=SN;exact(nomatch q)) λz=>z) e2⟩
 ·obtain⟨d',e,e'⟩:=gV h;cases e'
 ·obtain⟨d',e,e'⟩:=gV h;cases e'
theorem ly {x qual:Str}{st:Stmt}{f:Addr}{fd:ZF}{N ps:List Str}{k:Nat}{F:FD}{ro:Bool}(G:En K x qual st f fd)(S:aO N ps (ar st))(len:∀ds R,F ds R->ds.length=ps.length)
  (gM:∀(bR:YU) (A:ZQ) (outer:List Env) (s:YW) (H:Hp) (E:XK),cK k (A.deeper (ab8 qual (ar st) s.heap.objs.size f bR)) ->
   ∃ψ,vh (lS bU P w K mg base N qual (ar st) f bR A outer s H E).Cg ⟨H,λ_=>False,ro,λ_=>False⟩ (di st) ψ/\∀ds R,F ds R->ψ (eN R) (startB N ds)) :
  aP P w K mg base bU (k+1) f fd ps (cc P w ro F):=by
 refine G.ok S (λvs H Q E h=>?_) (λbR A outer s H vs Q E hr h=>?_)
 ·obtain⟨ds,r,h⟩:=h;rw[r.length];exact len ds _ h
 ·obtain⟨ds,r,h⟩:=h;obtain⟨ψ,hb,hF⟩:=gM bR A outer s H E hr;refine⟨_,hb.ps,(H,Wn λ_=>[]),_,startB N ds,⟨λ_=>[],mD r,Sn.refl⟩,hF ds _ h,λσ H' β sb q=>?_,λσ H' β d v sb rr q=>?_,λ_ _ _ _ z=>z.elim,λ_ _ _ _ z=>z.elim⟩
  ·obtain⟨own,s',n'⟩:=sb;exact q _ H' (λb o e=>s'.kp.out b o e (λz=>z)) (dZ (W:=λ_=>False) rfl rfl)
  ·obtain⟨own,s',n'⟩:=sb;exact q _ H' (λb o e=>s'.kp.out b o e (λz=>z)) rr
end
end L2.Q
namespace L2
open PySem PySem.Spec PySem.SeqAt PyProof.Rows
theorem xf.pre {X:Cx}{ifs:List Expr}{t t':TT}(h:xf X ifs t)(k:∀σ H Q,t' σ H Q->t σ H Q):xf X ifs t':=λpins s σ H Q I q=>h pins s σ H Q I (k σ H Q q)
theorem uB {T:D->Prop}:∀{outs:List D},(∀d∈outs,T d/\d.flat=true)->D.bP outs=true
 |[],_=>rfl
 |d::ds,h=>by
  rw[D.bP,(h d (by simp)).2,uB λd' hd=>h d' (by simp[hd])]
  rfl
section
end
section
end
section
variable {X:Cx}{e:Expr}{g:acs}{gs:List acs}{scope:abz}{N':List Str}{lk:List (Option Nat)}{tg:Addr->TG}{tt:Addr->TT}{wi:TI}
theorem lI {c9:Sem YU}{o:Addr->HO}{after:YU->Env->Sem Fin->Sem Fin}{ta:Addr->pz}(L:Links X scope N' lk)(hc:X.calm=true)(hA:∀(pins:List (Addr×Obj)) (s:YW) (σ:St) (H:Hp) (Q:YU->YW->Prop) (E:YU->YW->Prop),Inv X pins σ H s->(∀a s',s.heap.objs.size<=a->H a=none->(∀b o,s.heap.get? b=some o->s'.heap.get? b=some o)->Inv X pins σ (upd H a (o a)) s'->Q (.ref a) s')->Zr (model X.prog X.w) X.A c9 Q E s)
  (F:∀acc env,lK e 0 g acc env (after acc env))
  (se:∀a cl C s H ex,PG (a8 X scope N' cl C s H ex) g.target (tg a)/\xf (a8 X scope N' cl C s H ex) g.ifs (tt a)/\vi (a8 X scope N' cl C s H ex) (after (.ref a) (a8 X scope N' cl C s H ex).env) (ta a))
  {cl:List (Str×Addr)} (uo:∀x,(x,ZU)∈scope.names->∃c,cl.lookup x=some c) (sf:∀x c,cl.lookup x=some c->X.env.cells.lookup x=some c)
  {pins:List (Addr×Obj)} {σ:St} {s:YW} {Q:V->Hp->Prop} {Kc:YU} {E:YU->YW->Prop} {RR:YU->Addr->Result->YW->Prop}
  (h:Ud X pins σ g.target (λJ H1=>∀a,H1 a=none->iy J (tg a) (tt a) (ta a) (λ_ H'=>Q (.ref a) H') (dU lk σ) (upd H1 a (o a))) Kc s)
  (hR:∀a H' C s',Inv X pins σ H' s'->gS X pins H' C->(∃m,s'.heap.Ns C m)->Q (.ref a) H'->RR (.ref a) C (.ok .next) s') :
  Zr (model X.prog X.w) X.A c9 (λacc s₃=>Zr (model X.prog X.w) X.A (newFunctionEnv scope X.env.globals cl [] X.env.qual none .none (some X.env)) (λOH s₄ =>
   abN (model X.prog X.w) X.A (.compStart e 0 Kc acc {OH with scope:=relabel scope X.env}) (RR acc OH.locals) s₄) E s₃) E s:=by
 obtain⟨it,fp,tn,J,H2,e1,I2,T,gq,f2,hl⟩:=h;subst e1;refine hA pins s σ H2 _ E I2 λa s3 ha hn hk I3=>?_;refine wpAny_newFunctionEnv L.vZ (by intro y hy;simp at hy) (λh₁ KR KD=>?_) L.kind
 have S6:∀b∈fp,∃o,s3.heap.get? b=some o:=λb hb=>by
  obtain⟨ob,q,_⟩:=T.obj _ _ gq b hb;exact⟨ob,hk b ob q⟩
 have XG:∀b∈fp,b≠a:=λb hb=>by
  obtain⟨ob,q,_⟩:=T.obj _ _ gq b hb;exact Zu (Zv (Za q) ha)
 have f3:∀b∈fp,gS X pins (upd H2 a (o a)) b:=λb hb=>⟨by rw[ay (XG b hb)];exact(f2 b hb).1,(f2 b hb).2⟩
 have N1:∀b ob,s3.heap.get? b=some ob->h₁.get? b=some ob:=λb ob q=>KD.extBut b ob (Zu (Za q)) (Y3 _ q);have Pj:h₁.Ns s3.heap.objs.size (λ_=>none):=KR;have I4:=CO (t':=s3.toks+([]:List (Str×YU)).length) I3 L f3 S6 uo sf Pj N1;obtain⟨g1,g2,g3⟩:=se a cl s3.heap.objs.size s3 (upd H2 a (o a)) fp;have f4:∀b∈fp,gS (a8 X scope N' cl s3.heap.objs.size s3 (upd H2 a (o a)) fp) [] (upd H2 a (o a)) b:=λb hb =>
  ⟨(f3 b hb).1,(I4.ok.HS b hb).1,I4.ok.rJ b hb,.inl hb,(I4.ok.HS b hb).2,λp hp=>absurd (show p∈([]:List (Addr×Obj)) from hp) (by simp)⟩
 have Mz:tn 0 h₁:=T.keep 0 _ _ gq λb hb ob q=>N1 b ob (hk b ob q);refine aaY (wW (X:=a8 X scope N' cl s3.heap.objs.size s3 (upd H2 a (o a)) fp) rfl hc (F (.ref a) _) g1 g2 g3 T I4 Mz f4 (hl a hn)) λr s' hr=>?_;obtain⟨rfl,σ',H',J',q⟩:=hr;have I5:Inv X pins σ H' s':=CP (C:=s3.heap.objs.size) (h'':=s'.heap) I3 f3 J' (.refl ..);refine hR a H' s3.heap.objs.size s' I5 (I3.Di (YY _) J'.free) ?_ q;obtain⟨m,hm,_⟩:=J'.loc;exact⟨m,hm⟩
theorem tH {c9:Sem YU}{o:Addr->HO}{after:YU->Env->Sem Fin->Sem Fin}{ta:Addr->pz}{pos:Pos}(L:Links X scope N' lk)(hc:X.calm=true)(hA:∀(pins:List (Addr×Obj)) (s:YW) (σ:St) (H:Hp) (Q:YU->YW->Prop) (E:YU->YW->Prop),Inv X pins σ H s->(∀a s',s.heap.objs.size<=a->H a=none->(∀b o,s.heap.get? b=some o->s'.heap.get? b=some o)->Inv X pins σ (upd H a (o a)) s'->Q (.ref a) s')->Zr (model X.prog X.w) X.A c9 Q E s)
  (KY:eval e X.env=comprehension e scope X.env pos c9 false (eval g.iter X.env)) (Ez:clausesOf e=g::gs)
  (F:∀acc env,lK e 0 g acc env (after acc env)) (hi:PI X g.target g.iter wi)
  (se:∀a cl C s H ex,PG (a8 X scope N' cl C s H ex) g.target (tg a)/\xf (a8 X scope N' cl C s H ex) g.ifs (tt a)/\vi (a8 X scope N' cl C s H ex) (after (.ref a) (a8 X scope N' cl C s H ex).env) (ta a))
  (hs:∀x,aav g.iter X.env x=pure x) :
  PE X e (λσ H Q=>wi σ H λJ H1=>∀a,H1 a=none->iy J (tg a) (tt a) (ta a) (λ_ H'=>Q (.ref a) H') (dU lk σ) (upd H1 a (o a))):=by
 intro pins s σ H Q I h;rw[KY];obtain⟨cl,C7,uo,sf⟩:=iF (env:=X.env) (scope:=scope) λx hx=>I.ok.has x (L.free x hx);refine wpAny_comprehension_free (use:=none) Ez hs C7 L.kind L.names (bE (hi pins s σ H _ I h) λv s1 h1=>bE h1 λKc s2 h2=>?_);refine lI (RR:=λacc C=>compPost (model X.prog X.w) X.A X.xe none (EP X pins σ Q) acc C) L hc hA F se uo sf h2 λa H' C s' I' f CS q=>?_;obtain⟨m,hm⟩:=CS;exact⟨m,hm,λh' zU=>⟨.ref a,H',I'.sameBut f zU,rfl,q⟩⟩
theorem BO {c9:Sem YU}{o:HO}{after:YU->Env->Sem Fin->Sem Fin}{ta:Addr->pz}{pos:Pos}(L:Links X scope N' lk)(hc:X.calm=true)(hA:xg X c9 o)
  (KY:eval e X.env=comprehension e scope X.env pos c9 false (eval g.iter X.env)) (Ez:clausesOf e=g::gs)
  (F:∀acc env,lK e 0 g acc env (after acc env)) (hi:PI X g.target g.iter wi)
  (se:∀a cl C s H ex,PG (a8 X scope N' cl C s H ex) g.target (tg a)/\xf (a8 X scope N' cl C s H ex) g.ifs (tt a)/\vi (a8 X scope N' cl C s H ex) (after (.ref a) (a8 X scope N' cl C s H ex).env) (ta a))
  (hs:∀x,aav g.iter X.env x=pure x) :
  PE X e (λσ H Q=>wi σ H λJ H1=>∀a,H1 a=none->iy J (tg a) (tt a) (ta a) (λ_ H'=>Q (.ref a) H') (dU lk σ) (upd H1 a o)):=tH (o:=λ_=>o) L hc hA.ok KY Ez F hi se hs
theorem Br {c9:Sem YU}{o:HO}{after:YU->Env->Sem Fin->Sem Fin}{ta:Addr->pz}{pos pos' A4:Pos}{y:Str}{i:Nat}(L:Links X scope N' lk)(hc:X.calm=true)(hA:xg X c9 o)
  (yi:abx e (some (.Name y pos')) A4.line X.env=pure true)
  (KY:evalThenUse e X.env (assign (.Name y pos') X.env)=(do let _ <- comprehension e scope X.env pos c9 false (eval g.iter X.env) (some (assign (.Name y pos') X.env));pure ())) (Ez:clausesOf e=g::gs)
  (hN:X.N.Nodup) (hy:X.N[i]?=some y) (hx:Loc X.env.scope y) (hf:X.fn y=true\/X.env.scope.names.lookup y=some .local)
  (F:∀acc env,lK e 0 g acc env (after acc env)) (hi:PI X g.target g.iter wi)
  (se:∀a cl C s H ex,PG (a8 X scope N' cl C s H ex) g.target (tg a)/\xf (a8 X scope N' cl C s H ex) g.ifs (tt a)/\vi (a8 X scope N' cl C s H ex) (after (.ref a) (a8 X scope N' cl C s H ex).env) (ta a))
  (hs:∀x,aav g.iter X.env x=pure x) :
  PS X (.Assign [.Name y pos'] e A4) (λD σ H=>wi σ H λJ H1=>∀a,H1 a=none->iy J (tg a) (tt a) (ta a) (λ_ H'=>D.nx (σ.set i (some (.ref a))) H') (dU lk σ) (upd H1 a o)):=by
 intro pins s σ H D I h;rw[exec_Assign_Name_used _ _ _ _ yi,KY];refine YV (aaT (YV (YV ?_)));obtain⟨cl,C7,uo,sf⟩:=iF (env:=X.env) (scope:=scope) λx hx=>I.ok.has x (L.free x hx);refine bE (wpAny_comprehension_free (use:=some (assign (.Name y pos') X.env)) (Q:=λ_ s'=>SP X pins D .next s') Ez hs C7 L.kind L.names (bE (hi pins s σ H _ I h) λv s1 h1=>bE h1 λKc s2 h2=>?_)) λ_ s' q=>YZ (YZ q)
 refine lI (o:=λ_=>o) (Q:=λv H'=>D.nx (σ.set i (some v)) H') (RR:=λacc C=>compPost (model X.prog X.w) X.A X.xe (some (assign (.Name y pos') X.env)) (λ_ s'=>SP X pins D .next s') acc C) L hc hA.ok F se uo sf h2 λa H' C s' I' f ui q=>?_
 obtain⟨m,hm⟩:=ui;show Zr _ _ (assign (.Name y pos') X.env (.ref a)) _ _ s';have YQ:∃o,s'.heap.get? C=some o:=by obtain⟨o,_,_,ho,_⟩:=hm;exact⟨o,ho⟩
 refine wpAny_assign_Name (pG I' hN hy hx (v:=.ref a) (u:=.ref a) rfl (λs4 I4 k4=>?_) hf);obtain⟨a4,Wj,XH⟩:=k4;have vt:C≠a4:=by
  rcases XH with z|z
  ·rw[z];exact f.2.1
  ·exact(f.2.2.2.2.1 y a4 z).symm
 exact⟨m,hm.at' (λo e=>(Wj.2 C vt).trans e),λh' zU=>⟨_,H',I4.sameBut f zU,q⟩⟩
end
end L2
namespace L2.Q
open PySem PySem.Spec PySem.SeqAt PyProof.Rows
noncomputable def U7:Option B->Option B
 |some (.own d)=>some (.val false d)
 |some (.shl _ d)=>some (.val false d)
 |b=>b
def dH (lk:List (Option Nat))(β:ba):ba:=lk.map λl=>match l with|some j=>(match β[j]? with|some b=>U7 b|none=>none)|none=>none
def Pb:Option (Option B)->Bool
 |some (some (.hand _))=>true
 |_=>false
def bA (lk:List (Option Nat))(β:ba)(own:Nat->List Addr)(i:Nat):List Addr:=match lk[i]? with
 |some (some j)=>if Pb β[j]?=true then own j else []
 |_=>[]
def gj:ba->ba->Prop
 |[],_=>True
 |some (.hand ok)::a,c=>c.head?=some (some (.hand ok))/\gj a c.tail
 |_::a,c=>gj a c.tail
theorem gj.get:∀{a c:ba} {i:Nat} {ok:List Int->Prop},gj a c->a[i]?=some (some (.hand ok))->c[i]?=some (some (.hand ok))
 |[],_,_,_,_,e=>by simp at e
 |x::a,c,0,ok,h,e=>by
  simp at e;subst e;rw[<- List.head?_eq_getElem?];exact h.1
 |x::a,c,i+1,ok,h,e=>by
  have h':gj a c.tail:=by
   cases x with
   |none=>exact h
   |some x=>cases x <;> first|exact h|exact h.2
  have:=gj.get (i:=i) h' (by simpa using e)
  rwa [List.getElem?_tail]at this
section
variable {P:Y0}{w:Zd}{C:Cfg}{σ σ':St}{H H' H1:Hp}{β βi:ba}{own jr:Nat->List Addr}{lk:List (Option Nat)}{a:Addr}
theorem cj {i:Nat}{c:Addr}(h:c∈bA lk β own i):∃j,lk[i]?=some (some j)/\Pb β[j]?=true/\c∈own j:=by
 unfold bA at h
 split at h
 ·next j e =>
  by_cases q:Pb β[j]?=true
  ·rw[if_pos q]at h;exact⟨j,e,q,h⟩
  ·rw[if_neg q]at h;cases h
 ·cases h
theorem bO:∀c,Wn (bA lk β own) c->Wn own c:=λc ⟨i,h⟩=>let ⟨j,_,_,h⟩:=cj h;⟨j,h⟩
theorem gK {i j:Nat}{v:V}(h:lk[i]?=some (some j))(e:σ[j]?=some (some v)):(dU lk σ)[i]?=some (some v):=by
 unfold dU;rw[Zj,h];simp only[Option.map_some];rw[e]
theorem ib {i:Nat}{b:B}(h:(dH lk β)[i]?=some (some b)):∃j b',lk[i]?=some (some j)/\β[j]?=some (some b')/\U7 (some b')=some b:=by
 unfold dH at h;rw[Zj]at h;cases q:lk[i]? with
 |none=>rw[q]at h;cases h
 |some l =>
  rw[q]at h;cases l with
  |none=>cases h
  |some j =>
   simp only[Option.map_some]at h;cases q2:β[j]? with
   |none=>rw[q2]at h;cases h
   |some b2 =>
    rw[q2]at h;simp only[Option.some.injEq]at h;cases b2 with
    |none=>cases h
    |some b'=>exact⟨j,b',rfl,q2,h⟩
theorem cD.enter (s:cD P w C σ H β own)(ha:H a=none)(inj:∀(i i' j:Nat),lk[i]?=some (some j)->lk[i']?=some (some j)->i=i'):
  cD P w (C.u λc=>c=a) (dU lk σ) (upd H a (.lst [])) (dH lk β) (bA lk β own):=by
 have sm:aD H (upd H a (.lst [])):=aD.new ha;have na:∀{i c},c∈own i->c≠a:=λ{i c} hc z=>(s.dm i c hc).1 (by rw[z];exact ha)
 have gr:∀k,∀c,jT (C.u λc=>c=a) (Wn (bA lk β own)) k c->jT C (Wn own) k c\/H c=none:=λk c z=>by
  rcases z with z|z
  ·exact .inl (.inl (l5 bO k c z))
  ·exact .inr (by rw[z];exact ha)
 refine⟨by unfold dH dU;simp,λi y d e=>?_,λi d e=>?_,λi ok e=>?_,λi c h=>?_,λi i' c h1 h2=>?_,λi=>?_,s.kp.trans sm.kp,λc z e=>s.iW c z (sm.free e),λi y d e=>by
  obtain⟨j,b',e1,e2,e3⟩:=ib e;cases b' <;> cases e3⟩
 ·obtain⟨j,b',e1,e2,e3⟩:=ib e;cases b' with
  |val y' d' =>
   cases e3;obtain⟨v,h1,h2⟩:=s.val j y d e2;exact⟨v,gK e1 h1,(aF.grow (gr _) h2).same sm⟩
  |own d' =>
   cases e3;obtain⟨v,h1,h2,h3⟩:=s.ow j d e2;refine⟨v,gK e1 h1,aF.same sm (h2.rep λc hc z=>?_)⟩;rcases z with z|z
   ·obtain⟨i',gL⟩:=z;obtain⟨j',q1,q2,q3⟩:=cj gL;have:=s.oJ j j' c hc q3;subst this;rw[e2]at q2;cases q2
   ·exact na hc z
  |hand ok=>cases e3
  |shl y' d' =>
   cases e3;obtain⟨v,h1,h2,h3⟩:=s.shl j y' d e2;refine⟨v,gK e1 h1,aF.same sm (h2.rep (λc hc z=>?_) λds vs r=>ao.grow (λc z=>?_) r)⟩
   ·rcases z with z|z
    ·obtain⟨i',gL⟩:=z;obtain⟨j',q1,q2,q3⟩:=cj gL;have:=s.oJ j j' c hc q3;subst this;rw[e2]at q2;cases q2
    ·exact na hc z
   ·rcases gr _ c z with z|z
    ·refine .inl ?_;rcases z with z|z
     ·exact .inl (.inl z)
     ·exact .inr z
    ·exact .inr z
 ·obtain⟨j,b',e1,e2,e3⟩:=ib e;cases b' <;> cases e3
 ·obtain⟨j,b',e1,e2,e3⟩:=ib e;cases b' with
  |val y' d'=>cases e3
  |own d'=>cases e3
  |shl y d=>cases e3
  |hand Yx =>
   cases e3;obtain⟨h,ns,h1,h2,h3,h4,h5⟩:=s.vv j ok e2;refine⟨h,ns,gK e1 h1,sm _ _ h2,h3,?_,h5⟩;unfold bA;rw[e1];simp only;rw[e2];exact(if_pos rfl).trans h4
 ·obtain⟨j,q1,q2,q3⟩:=cj h;obtain⟨g1,g2,g3,g4⟩:=s.dm j c q3;rw[ay (na q3)];exact⟨g1,g2,g3,na q3⟩
 ·obtain⟨j,q1,q2,q3⟩:=cj h1;obtain⟨j',UK,Yv,Wz⟩:=cj h2;have:=s.oJ j j' c q3 Wz;subst this;exact inj _ _ _ q1 UK
 ·unfold bA
  split
  ·next j e =>
   split
   ·exact s.pS j
   ·exact Z7
  ·exact Z7
theorem cD.IV {o:HO}(s:cD P w (C.u λc=>c=a) σ H β own){oa:HO}(ha:H a=some oa)(ht:∀xs,oa≠.tup xs)(h0:C.H0 a=none):cD P w (C.u λc=>c=a) σ (upd H a o) β own:=by
 have k:Kp (·=a) H (upd H a o):=nC ha ht;have na:∀{i c},c∈own i->c≠a:=λ{i c} hc=>(s.dm i c hc).2.2.2;refine⟨s.len,λi y d e=>let ⟨v,h1,h2⟩:=s.val i y d e;⟨v,h1,h2.keep (k.mono λc z=>.inr z)⟩,λi d e=>let ⟨v,h1,h2,h3⟩:=s.ow i d e;⟨v,h1,h2.keep k.tup (λc hc oc ec=>k.out c oc ec (na hc)),h3⟩,
  λi ok e=>?_,λi c h=>?_,s.oJ,s.pS,⟨λc oc z n=>k.out c oc (s.kp.out c oc z n) λq=>?_,λc xs z=>k.tup c xs (s.kp.tup c xs z)⟩,λc z=>?_,λi y d e=>let ⟨v,h1,h2,h3⟩:=s.shl i y d e;⟨v,h1,h2.map (λc hc oc ec=>k.out c oc ec (na hc)) (λ_ _ r=>r.keep (k.mono λc z=>.inr z)),h3⟩⟩
 ·obtain⟨h,ns,h1,h2,h3,h4,h5⟩:=s.vv i ok e;exact⟨h,ns,h1,k.out h _ h2 (na (by rw[h4];simp)),h3,h4,h5⟩
 ·rw[ay (na h)];exact s.dm i c h
 ·rw[q,h0]at z;cases z
 ·by_cases q:c=a
  ·rw[q,aE];exact λz=>(nomatch z)
  ·rw[ay q];exact s.iW c z
theorem cD.leave (s:cD P w C σ H1 β own)(i:cD P w (C.u λc=>c=a) σ' H' βi jr)(n:Sn (H1,Wn (bA lk β own)) H' (Wn jr))(le:∀c,Wn jr c->Wn (bA lk β own) c)
  (hh:gj (dH lk β) βi) (hσ:∀(j:Nat) (ok:List Int->Prop) (i:Nat),β[j]?=some (some (B.hand ok))->lk[i]?=some (some j)->σ'[i]?=(dU lk σ)[i]?):cD P w C σ H' β own:=by
 have off:∀{j c},c∈own j->¬ Wn (bA lk β own) c->∀o,H1 c=some o->H' c=some o:=λ{j c} hc nw o e=>n.k.out c o e λz=>z.elim nw λz=>(s.dm j c hc).1 z;have NP:∀{j c},c∈own j->Pb β[j]?=false->¬ Wn (bA lk β own) c:=λ{j c} hc q rD=>by
  obtain⟨i',gL⟩:=rD;obtain⟨j',q1,q2,q3⟩:=cj gL;have:=s.oJ j j' c hc q3;subst this;rw[q]at q2;cases q2
 have hN:∀(j:Nat) (ok:List Int->Prop),β[j]?=some (some (B.hand ok))->∃a ns,σ[j]?=some (some (V.ref a))/\H' a=some (.lst (ns.map V.int))/\ok ns/\own j=[a]/\((∀b,¬ C.IO b)\/C.IO a):=λj ok e=>by
  obtain⟨h,ns,h1,h2,h3,h4,h5⟩:=s.vv j ok e
  by_cases q:Wn (bA lk β own) h
  ·obtain⟨i',gL⟩:=q;obtain⟨j',q1,q2,q3⟩:=cj gL;have:=s.oJ j j' h (by rw[h4];simp) q3
   subst this;have eB:(dH lk β)[i']?=some (some (.hand ok)):=by
    unfold dH;rw[Zj,q1];simp only[Option.map_some];rw[e];rfl
   obtain⟨h',tV,g1,g2,g3,g4,g5⟩:=i.vv i' ok (hh.get eB);rw[hσ j ok i' e q1,gK q1 h1]at g1;cases g1;exact⟨h,tV,h1,g2,g3,h4,h5⟩
  ·exact⟨h,ns,h1,off (by rw[h4];simp) q _ h2,h3,h4,h5⟩
 refine⟨s.len,λj y d e=>?_,λj d e=>?_,hN,λj c hc=>?_,s.oJ,s.pS,i.kp,i.iW,λj y d e=>by
  obtain⟨v,h1,h2,h3⟩:=s.shl j y d e;refine⟨v,h1,h2.map (λc hc o eo=>off hc (NP hc (by rw[e];rfl)) o eo) (λds vs r=>?_),h3⟩
  have g:ao P w (λc=>jT C (Wn own) (yk true) c\/H1 c=none) H1 ds vs:=ao.grow (λc z=>z) r;refine ao.bb (λc z=>.inl z) (g.keep (n.k.mono λc z=>z.imp (λz=>?_) id));exact .inl (.inl (bO c z))⟩
 ·obtain⟨v,h1,h2⟩:=s.val j y d e;have g:aF P w (λc=>jT C (Wn own) (yk y) c\/H1 c=none) H1 d v:=aF.grow (λc z=>z) h2;refine⟨v,h1,aF.bb (λc z=>.inl z) (g.keep (n.k.mono λc z=>z.imp (λz=>?_) id))⟩;cases y with
  |true=>exact .inl (.inl (bO c z))
  |false=>exact .inl (bO c z)
 ·obtain⟨v,h1,h2,h3⟩:=s.ow j d e;exact⟨v,h1,h2.keep n.k.tup (λc hc o eo=>off hc (NP hc (by rw[e];rfl)) o eo),h3⟩
 ·obtain⟨g1,g2,g3,g4⟩:=s.dm j c hc
  by_cases q:Wn (bA lk β own) c
  ·obtain⟨i',gL⟩:=q;obtain⟨j',q1,q2,q3⟩:=cj gL;have:=s.oJ j j' c hc q3;subst this;cases e:β[j]? with
   |none=>rw[e]at q2;cases q2
   |some b =>
    rw[e]at q2;cases b with
    |none=>cases q2
    |some b =>
     cases b with
     |val y d=>cases q2
     |own d=>cases q2
     |shl y d=>cases q2
     |hand ok =>
      obtain⟨h,ns,k1,k2,k3,k4,k5⟩:=hN j ok e;rw[k4]at hc;rw[Y1.mp hc]at g3 g4 ⊢
      rw[k2];exact⟨λz=>(nomatch z),λxs z=>(by cases z),g3,g4⟩
  ·cases e:H1 c with
   |none=>exact absurd e g1
   |some o=>rw[off hc q o e];exact⟨λz=>(nomatch z),λxs z=>g2 xs (by rw[e];exact z),g3,g4⟩
end
def Mp:bt:=λβ R=>R true β
theorem Bu {X:Cx}{C:Cfg}:xf X [] (oF X C true Mp):=Fe.pre λσ H Q i5=>by obtain⟨β,own,s,q⟩:=i5;exact q H own (Out.refl s _)
theorem Bt {X:Cx}{C:Cfg}{p:Bool}{c:Expr}{τ:bt}(h:vz X C p c τ):xf X [c] (oF X C p τ):=Fd h.pt
def nj (γ:eV)(τ:bt)(φ:aR)(ds:List D)(k:Kd)(β0:ba)(K:List D->Prop):Prop:=∃I:Nat->ba->List D->Prop,I 0 β0 [] /\
 (∀i d β o,ds[i]?=some d->I i β o->γ d (sk k d) β λβ1=>τ β1 λt β2=>if t=true then φ β2 λx kx β3=>F5 kx x/\o.length<Zf/\I (i+1) β3 (o++[x]) else I (i+1) β2 o)/\∀β o,I ds.length β o->gj β0 β/\K o
theorem nj.mono {γ:eV}{τ:bt}{φ:aR}{ds:List D}{k:Kd}{β0:ba}{K K':List D->Prop}(h:∀o,K o->K' o)(q:nj γ τ φ ds k β0 K):nj γ τ φ ds k β0 K':=let ⟨I,h0,h1,h2⟩:=q;⟨I,h0,h1,λβ o z=>⟨(h2 β o z).1,h _ (h2 β o z).2⟩⟩
section
variable {X:Cx}{lk:List (Option Nat)}
theorem kz {scope:abz}{N':List Str}(L:Links X scope N' lk)(hN:N'.Nodup):∀(i i' j:Nat),lk[i]?=some (some j)->lk[i']?=some (some j)->i=i':=λi i' j h1 h2=>by
 obtain⟨x,a1,a2,_⟩:=L.link i j h1;obtain⟨y,b1,b2,_⟩:=L.link i' j h2;rw[a2]at b2;cases b2;exact(List.getElem?_inj (Y_.mp a1).1 hN).mp (a1.trans b1.symm)
end
end L2.Q
namespace Zp
open PySem PySem.Spec PyProof.Rows
section
end
end Zp
namespace L2
open PySem PySem.Spec PySem.SeqAt PyProof.Rows Zp
theorem Inv.EN {X:Cx}{pins:List (Addr×Obj)}{σ:St}{H:Hp}{s:YW}{fp:List Addr}{h':Heap}{x y:V}{u v:YU}(I:Inv X pins σ H s)(hf:∀b∈fp,gS X pins H b)(k:∀c o,c∉fp->s.heap.get? c=some o->h'.get? c=some o)
  (rx:RelV x u) (ry:RelV y v) (hT:IsPair h' s.heap.objs.size u v):Inv X pins σ (upd H s.heap.objs.size (.tup [x,y])) {s with heap:=h'}:=by
 have hn:H s.heap.objs.size=none:=I.bu.fresh (YY _);have ne:∀{b:Addr} {o:Obj},s.heap.get? b=some o->b≠s.heap.objs.size:=λe=>Zu (Za e);have nt:∀{b:Addr} {o:HO},H b=some o->b≠s.heap.objs.size:=λe z=>by rw[z,hn]at e;cases e
 have nf:∀{b:Addr} {o:HO},H b=some o->b∉fp:=λe z=>by rw[(hf _ z).1]at e;cases e
 refine I.call (g':=s.gens) (t':=s.toks) (d':=s.drawn) (ch:=fp) ⟨λb o e n _ hc=>k b o hc e,λb o e n _ hc=>⟨o.slots,k b o hc e⟩,λb o e n _=>by rw[ay (ne e)];exact n,λb o e hc=>⟨o,k b o hc e⟩,
  λb xs e=>by rw[ay (nt e)];exact e,λb o u e=>by rw[ay (nt e)];exact e,λb ps e=>⟨#[],by rw[ay (nt e),e];simp⟩⟩ (λb u e=>?_) I.bare λb hb=>?_
 ·by_cases hb:b=s.heap.objs.size
  ·subst hb;rw[aE]at e;cases e;exact⟨by show 2<=Zf;decide,[_,_],.cons rx (.cons ry .nil),⟨_,hT,rfl,_,rfl⟩⟩
  ·rw[ay hb]at e;refine(I.bu b u e).jh (λc v hc q=>k c v ?_ q) (λc q=>by rw[ay (nt q)];exact q) λc xs q=>by rw[ay (nt q)];exact q
   rcases hc with z|z
   ·rw[z];exact nf e
   ·exact nf z
 ·obtain⟨f0,f1,f2,f3,f4,f5⟩:=hf b hb;exact⟨f3,f1,f4,f5⟩
theorem Inv.xk {X:Cx}{pins:List (Addr×Obj)}{σ:St}{H:Hp}{s:YW}{fp:List Addr}{h':Heap}(I:Inv X pins σ H s)(hf:∀b∈fp,gS X pins H b)(k:∀c o,c∉fp->s.heap.get? c=some o->h'.get? c=some o):Inv X pins σ H {s with heap:=h'}:=by
 have nf:∀{b:Addr} {o:HO},H b=some o->b∉fp:=λe z=>by rw[(hf _ z).1]at e;cases e
 refine I.call (g':=s.gens) (t':=s.toks) (d':=s.drawn) (ch:=fp) ⟨λb o e n _ hc=>k b o hc e,λb o e n _ hc=>⟨o.slots,k b o hc e⟩,λb o e n _=>n,λb o e hc=>⟨o,k b o hc e⟩,λb xs e=>e,λb o u e=>e,λb ps e=>⟨#[],by rw[e];simp⟩⟩ (λb u e=>?_) I.bare λb hb=>?_
 ·refine(I.bu b u e).jh (λc v hc q=>k c v ?_ q) (λc q=>q) λc xs q=>q;rcases hc with z|z
  ·rw[z];exact nf e
  ·exact nf z
 ·obtain⟨f0,f1,f2,f3,f4,f5⟩:=hf b hb;exact⟨f3,f1,f4,f5⟩
noncomputable def l_:List D->List D->List D
 |a::as,b::bs=>.tup [a,b]::l_ as bs
 |_,_=>[]
theorem sA:∀{as bs:List D} {i:Nat} {d:D},(l_ as bs)[i]?=some d->∃a b,as[i]?=some a/\bs[i]?=some b/\d=.tup [a,b]
 |[],_,_,_,h=>by simp[l_]at h
 |_::_,[],_,_,h=>by simp[l_]at h
 |a::as,b::bs,0,_,h=>by simp[l_]at h;exact⟨a,b,rfl,rfl,h.symm⟩
 |a::as,b::bs,i+1,_,h=>by
  obtain⟨x,y,h1,h2,h3⟩:=sA (as:=as) (bs:=bs) (i:=i) (by simpa[l_] using h)
  exact⟨x,y,by simpa using h1,by simpa using h2,h3⟩
theorem sy:∀(as bs:List D),(l_ as bs).length=min as.length bs.length
 |[],_=>by simp[l_]
 |_::_,[]=>by simp[l_]
 |a::as,b::bs=>by simp[l_,sy as bs]
section
end
section
end
theorem eC {lo:Int}{n i:Nat}{d:D}(h:(qW lo n)[i]?=some d):i<n/\d=.int (lo+i):=by
 unfold qW at h;rw[Zj]at h;have hi:i<n:=by
  by_cases hi:i<n
  ·exact hi
  ·rw[aao (by simpa using hi)]at h;cases h
 rw[ab3 hi]at h;cases h;exact⟨hi,rfl⟩
theorem d_ {lo:Int}{n:Nat}:(qW lo n).length=n:=by unfold qW;simp
section
end
structure Df (K:PySem.W.Frag)(mg:Str->Option YU)(x:Str)(st:Stmt)(ps:List Str)(f:Addr)(fd:ZF):Prop where
 F:En K x x st f fd
 b:Binds K fd ps []
 m:mg x=some (.ref f)
structure Bs (mg:Str->Option YU):Prop where
 max:mg "max" = none
 min:mg "min" = none
 int:mg "int" = none
 range:mg "range" = none
 sorted:mg "sorted" = none
 set:mg "set" = none
 len:mg "len" = none
 list:mg "list" = none
theorem w_:ZY "set" = some (.type "set"):=by decide +kernel
theorem cK.fK {k:Nat}{A:ZQ}(r:cK k A):A.units+64+1<abk:=by have:=r.un;lia
theorem cK.lW {k:Nat}{A:ZQ}(r:cK k A):A.units+16<abk:=by have:=r.un;lia
def AA (n:Int)(t:List Int):Prop:=∃a b,t=[a,b]/\0<=a/\a<b/\b<n
theorem AA.ne {n:Int}{t:List Int}(h:AA n t):t≠[]:=by
 obtain⟨a,b,rfl,_⟩:=h;intro z;cases z
def b5 (n:Int)(ts:List (List Int)):Prop:=∀t∈ts,AA n t
theorem aI (ts:List (List Int)):D.bP (ts.map kD)=true:=by
 have fi:∀k:List Int,D.bP (k.map D.int)=true:=λk=>by
  induction k with
  |nil=>rfl
  |cons i k ih=>show (D.flat (.int i)&&D.bP (k.map D.int))=true;rw[ih];rfl
 induction ts with
 |nil=>rfl
 |cons t ts ih =>
  show (D.flat (kD t)&&D.bP (ts.map kD))=true;rw[ih];show (D.bP (t.map D.int)&&true)=true;rw[fi];rfl
theorem cY {ts:List (List Int)}(h:∀k∈ts,k≠[])(l:ts.length<=1000000):(match [D.lst (ts.map kD)]with | [.lst ds]=>rN [.lst ds]|_=>none)=some (.lst ((cM ts).map kD)):=by
 show (match fg (ts.map kD)with|some ks=>if ks.length<=1000000 then some (D.lst ((cM ks).map kD)) else none|none=>none)=_
 rw[kK h];show (if ts.length<=1000000 then some (D.lst ((cM ts).map kD)) else none)=_
 rw[if_pos l]
theorem AY {n:Int}{ts:List (List Int)}(h:b5 n ts):b5 n (cM ts):=λt ht=>h t ((aX ts).mem_iff.mp ht)
theorem mJ {ts:List (List Int)}(h:∀k∈ts,k≠[])(l:ts.length<1000):HX [.lst (ts.map kD)]=some (.sT (jW ts)):=by
 show (match fg (ts.map kD)with|some ks=>if ks.length<1000 then some (D.sT (jW ks)) else none|none=>none)=_
 rw[kK h];show (if ts.length<1000 then some (D.sT (jW ts)) else none)=_
 rw[if_pos l]
theorem fM {ts:List (List Int)}(h:∀k∈ts,k≠[])(l:ts.length<1000):(match [D.sT (jW ts)]with | [.sT ts]=>rN [.sT ts]|_=>none)=some (.lst ((cM (jW ts)).map kD)):=by
 show (if (jW ts).length<=1000/\(∀k∈jW ts,k≠[]) then some (D.lst ((cM (jW ts)).map kD)) else none)=_
 rw[if_pos ⟨by have:=l0 ts;lia,λk hk=>h k (((dt ts).2 k).mp hk)⟩]
theorem qO {fs:List (List Int)}{t:List Int}:(fs++[t]).map kD=fs.map kD++[kD t]:=by simp
theorem A9 {fs:List Int}{t:Int}:(fs++[t]).map D.int=fs.map D.int++[D.int t]:=by simp
theorem eX {a b:D}:[a,b].length<=Zf:=by show 2<=Zf;decide
theorem O0 {a b c:D}:[a,b,c].length<=Zf:=by show 3<=Zf;decide
theorem vJ {a:D}:[a].length<=Zf:=by show 1<=Zf;decide
theorem nK {b:Bool}{p q:Prop}(hb:b=true)(h:p):(if b=true then p else q):=by rw[if_pos hb];exact h
theorem dI {b:Bool}{p q:Prop}(hb:b=false)(h:q):(if b=true then p else q):=by rw[hb,if_neg (by simp)];exact h
theorem i4 {c:Prop}[Decidable c]{p q:Prop}(h1:c->p)(h2:¬ c->q):(if decide c=true then p else q):=by
 by_cases h:c
 ·exact nK (by simp[h]) (h1 h)
 ·exact dI (by simp[h]) (h2 h)
theorem LW {c:Prop}[Decidable c]{p q:Prop}(h1:¬ c->p)(h2:c->q):(if (!decide c)=true then p else q):=by
 by_cases h:c
 ·exact dI (by simp[h]) (h2 h)
 ·exact nK (by simp[h]) (h1 h)
theorem fU {α:Type}(f:α->D):∀l:List α,D.gw (l.map f)=l.map λa=>(f a).pd
 |[]=>rfl
 |a::l=>by
  show (f a).pd::D.gw (l.map f)=_;rw[fU f l];rfl
theorem kY {n:Nat}:∀{xs:List PyData},(∀x∈xs,x.canLay0=true/\x.depth<=n)->aa3 xs=true/\aaf xs<=n
 |[],_=>⟨by simp[aa3],by simp[aaf]⟩
 |x::xs,h=>by
  obtain⟨h1,h2⟩:=kY (n:=n) (xs:=xs) λy hy=>h y (by simp[hy])
  obtain⟨g1,g2⟩:=h x (by simp)
  refine⟨by simp[aa3,h1,g1],?_⟩
  simp only[aaf];lia
theorem pH {n:Nat}{ds:List D}(h:∀d∈ds,d.pd.canLay0=true/\d.pd.depth<=n):(D.tup ds).pd.canLay0=true/\(D.tup ds).pd.depth<=n+1:=by
 have e:D.gw ds=ds.map λd=>d.pd:=by
  have:=fU (λd:D=>d) ds;simpa using this
 obtain⟨h1,h2⟩:=kY (n:=n) (xs:=D.gw ds) λx hx=>by
  rw[e]at hx;obtain⟨d,hd,rfl⟩:=ZE.mp hx;exact h d hd
 refine⟨by simpa[D.pd,Z9] using h1,?_⟩
 have:(D.tup ds).pd.depth=aaf (D.gw ds)+1:=by simp[D.pd,aax]
 lia
theorem j6 {n:Nat}{ds:List D}(h:∀d∈ds,d.pd.canLay0=true/\d.pd.depth<=n):(D.lst ds).pd.canLay0=true/\(D.lst ds).pd.depth<=n+1:=by
 have e:D.gw ds=ds.map λd=>d.pd:=by
  have:=fU (λd:D=>d) ds;simpa using this
 obtain⟨h1,h2⟩:=kY (n:=n) (xs:=D.gw ds) λx hx=>by
  rw[e]at hx;obtain⟨d,hd,rfl⟩:=ZE.mp hx;exact h d hd
 refine⟨by simpa[D.pd,Z9] using h1,?_⟩
 have:(D.lst ds).pd.depth=aaf (D.gw ds)+1:=by simp[D.pd,aax]
 lia
theorem bW (i:Int):(D.int i).pd.canLay0=true/\(D.int i).pd.depth<=1:=⟨by simp[D.pd,Z9],by simp[D.pd,aax]⟩
theorem jj (b:Bool):(D.bl b).pd.canLay0=true/\(D.bl b).pd.depth<=1:=⟨by simp[D.pd,Z9],by simp[D.pd,aax]⟩
theorem gA (t:List Int):(kD t).pd.canLay0=true/\(kD t).pd.depth<=2:=pH λd hd=>by
 obtain⟨i,_,rfl⟩:=ZE.mp hd;exact bW i
theorem cE (ts:List (List Int)):(D.lst (ts.map kD)).pd.canLay0=true/\(D.lst (ts.map kD)).pd.depth<=3:=j6 λd hd=>by
 obtain⟨i,_,rfl⟩:=ZE.mp hd;exact gA i
theorem vP (ts:List Int):(D.lst (ts.map D.int)).pd.canLay0=true/\(D.lst (ts.map D.int)).pd.depth<=2:=j6 λd hd=>by
 obtain⟨i,_,rfl⟩:=ZE.mp hd;exact bW i
theorem bh {d:D}{n:Nat}(h:d.pd.canLay0=true/\d.pd.depth<=n)(hn:n<=64:=by decide):d.iB=true:=by
 show (d.pd.canLay0&&decide (d.pd.depth<=64))=true;rw[h.1,decide_eq_true (by lia)]
 rfl
theorem iV {α:Type}[DecidableEq α]{f:α->PyData}(hf:∀a b,Z2 (f a) (f b)=decide (a=b)):∀xs ys:List α,acq (xs.map f) (ys.map f)=decide (xs=ys)
 |[],[]=>by simp[acq]
 |[],_::_=>by simp[acq]
 |_::_,[]=>by simp[acq]
 |x::xs,y::ys=>by
  simp only[Zx,acq];rw[hf,iV hf xs ys]
  by_cases h1:x=y
  ·by_cases h2:xs=ys <;> simp[h1,h2]
  ·simp[h1]
theorem jK (i j:Int):Z2 (D.int i).pd (D.int j).pd=decide (i=j):=by
 simp only[D.pd,Z2]
 by_cases h:i=j <;> simp[h]
theorem wI (t u:List Int):Z2 (kD t).pd (kD u).pd=decide (t=u):=by
 show Z2 (.tuple (D.gw (t.map D.int))) (.tuple (D.gw (u.map D.int)))=_;rw[fU,fU];simp only[Z2];exact iV jK t u
theorem uQ (ts us:List (List Int)):Z2 (D.lst (ts.map kD)).pd (D.lst (us.map kD)).pd=decide (ts=us):=by
 show Z2 (.list (D.gw (ts.map kD))) (.list (D.gw (us.map kD)))=_;rw[fU,fU];simp only[Z2];exact iV wI ts us
theorem wQ {a b:D}{c:Bool}(h1:a.iB=true)(h2:b.iB=true)(e:Z2 a.pd b.pd=c):yF a b=some (.bl c):=by
 unfold yF;rw[if_pos ⟨h1,h2⟩,e]
theorem oq {a b:D}{c:Bool}(h1:a.iB=true)(h2:b.iB=true)(e:Z2 a.pd b.pd=c):oK a b=some (.bl (!c)):=by
 unfold oK;rw[if_pos ⟨h1,h2⟩,e]
theorem fm (i j:Int):yF (.int i) (.int j)=some (.bl (decide (i=j))):=wQ (bh (bW i)) (bh (bW j)) (jK i j)
theorem yA (i j:Int):oK (.int i) (.int j)=some (.bl (!decide (i=j))):=oq (bh (bW i)) (bh (bW j)) (jK i j)
theorem DI (ts us:List (List Int)):yF (.lst (ts.map kD)) (.lst (us.map kD))=some (.bl (decide (ts=us))):=wQ (bh (cE ts)) (bh (cE us)) (uQ ts us)
theorem jM (ts us:List (List Int)):oK (.lst (ts.map kD)) (.lst (us.map kD))=some (.bl (!decide (ts=us))):=oq (bh (cE ts)) (bh (cE us)) (uQ ts us)
theorem any_map {α:Type}[DecidableEq α]{f:α->D}(hf:∀a b,Z2 (f a).pd (f b).pd=decide (a=b))(t:α):∀xs:List α,((D.gw (xs.map f)).any λy=>Z2 y (f t).pd)=decide (t∈xs)
 |[]=>rfl
 |x::xs=>by
  show (Z2 (f x).pd (f t).pd || (D.gw (xs.map f)).any λy=>Z2 y (f t).pd)=_
  rw[any_map hf t xs,hf]
  by_cases h:x=t
  ·simp[h]
  ·have h':¬ t=x:=λz=>h z.symm;simp[h,h']
theorem DG (t:List Int)(ts:List (List Int)):DH (kD t) (.lst (ts.map kD))=some (decide (t∈ts)):=by
 show (if (kD t).iB=true/\(D.lst (ts.map kD)).iB=true then some _ else none)=_
 rw[if_pos ⟨bh (gA t),bh (cE ts)⟩,any_map wI];exact congrArg some (decide_eq_decide.mpr Iff.rfl)
theorem GQ (i:Int)(t:List Int):DH (.int i) (kD t)=some (decide (i∈t)):=by
 show (if (D.int i).iB=true/\(D.tup (t.map D.int)).iB=true then some _ else none)=_
 rw[if_pos ⟨bh (bW i),bh (gA t)⟩,any_map jK]
theorem wN (t:List Int)(ts:List (List Int)):om (kD t) (.lst (ts.map kD))=some (.bl (!decide (t∈ts))):=by unfold om;rw[DG];rfl
theorem rP (i:Int)(t:List Int):Pw (.int i) (kD t)=some (.bl (decide (i∈t))):=by unfold Pw;rw[GQ];rfl
theorem T8 {α:Type}{ds:List α}{i:Nat}{d:α}(h:ds[i]?=some d):l6 ds (i:Int)=some d:=by
 have hl:i<ds.length:=(Y_.mp h).1;unfold l6 ud;rw[if_pos (by lia),if_pos (by lia),Z4]
 exact h
theorem Lz {α:Type}{ds:List α}{i:Int}(h0:0<=i)(h1:i<ds.length):∃d∈ds,l6 ds i=some d/\ds[i.toNat]?=some d:=by
 have hl:i.toNat<ds.length:=by lia
 refine⟨ds[i.toNat],abe hl,?_,Y2 hl⟩;have:=T8 (ds:=ds) (i:=i.toNat) (Y2 hl)
 rwa [show ((i.toNat:Nat):Int)=i by lia]at this
theorem GL {ds:List D}{i:Nat}{d:D}(h:ds[i]?=some d):yD (.lst ds) (.int (i:Int))=some d:=T8 h
theorem GK {ds:List D}{i:Nat}{d:D}(h:ds[i]?=some d):yD (.tup ds) (.int (i:Int))=some d:=T8 h
theorem pick {ds:List D}{r:Int}{p:D->Prop}(h0:0<=r)(h1:r<ds.length)(h:∀d∈ds,p d):∃d,yD (.lst ds) (.int r)=some d/\p d:=by
 obtain⟨d,hd,e,_⟩:=Lz h0 h1;exact⟨d,e,h d hd⟩
theorem GZ:ZY "enumerate" = some (.type "enumerate"):=by decide +kernel
def qw (ds:List D):List D:=l_ (qW 0 ds.length) ds
section
variable {ds:List D}
theorem qv {i:Nat}{d:D}(h:(qw ds)[i]?=some d):∃b,ds[i]?=some b/\d=.tup [.int i,b]:=by
 obtain⟨a,b,h1,h2,rfl⟩:=sA h;obtain⟨_,rfl⟩:=eC h1;exact⟨b,h2,by simp⟩
theorem qu:(qw ds).length=ds.length:=by unfold qw;rw[sy,d_];simp
end
end L2
namespace HT
open PySem PySem.Spec PyProof.Rows
theorem jH {α β:Type}{f g:α->Option β}:∀{l:List α},(∀x∈l,f x=g x)->l.filterMap f=l.filterMap g
 |[],_=>rfl
 |x::l,h=>by
  rw[ZN,ZN,h x (by simp),jH λy hy=>h y (by simp[hy])]
theorem td {α:Type}(xs:List α):((Zi xs.length).filterMap λk=>xs[xs.length-1-k]?)=xs.reverse:=by
 have h:=pick_run xs.reverse.toArray 0 xs.length;rw[List.filterMap_map]at h;have e:((Zi xs.length).filterMap λk=>xs[xs.length-1-k]?)=(Zi xs.length).filterMap ((λx=>xs.reverse.toArray[x]?) ∘ λx=>0+x):=by
  refine jH λk hk=>?_;have LZ:=ZJ.mp hk;show _=xs.reverse.toArray[0+k]?;rw[abI,aaP,List.getElem?_reverse LZ]
 rw[e,h];simp only[List.drop_zero];exact aay (by simp)
theorem oS (items:Array YU):slicePick items none none (some (-1))=items.toList.reverse.toArray:=by
 have e:(sliceRange (aaX none none (some (-1)) items.size).1 (aaX none none (some (-1)) items.size).2.1 (aaX none none (some (-1)) items.size).2.2)=(Zi items.size).map λk=>items.size-1-k:=by
  show sliceRange ((items.size:Int)-1) (-1) (-1)=_;unfold sliceRange;have c:(if (-1:Int)>0 then (if (items.size:Int)-1 < -1 then ((-1)-((items.size:Int)-1)+-1-1) / -1 else 0) else (if (items.size:Int)-1 > -1 then ((items.size:Int)-1-(-1)-(-1)-1) / (-(-1)) else 0)).toNat=items.size:=by
   rw[if_neg (by lia)]
   split
   ·rw[show (-(-1):Int)=1 by rfl,Int.ediv_one];lia
   ·lia
  simp only[c];refine Z5 λk hk=>?_;have:=ZJ.mp hk;lia
 unfold slicePick;rw[e,List.filterMap_map]
 congr 1
 have:=td items.toList;rw[Y6]at this;rw[<- this];refine jH λk hk=>?_;show items[items.size-1-k]?=_;rw[Zk]
section
variable {prog:Y0}{w:Zd}{A:ZQ}{E:YU->YW->Prop}{s:YW}
theorem j7 {sl:Addr}{n:Nat}{t:Tok}{Q:Int×Int×Nat->YW->Prop}(hs:s.heap.IsSliceOf sl .none .none (.int (-1) t))
  (h:Q ((n:Int)-1,-1,n) s):Zr (model prog w) A (Builtin.Slice.sliceApplied (.ref sl) (pure (n:Int))) Q E s:=by
 obtain⟨os,NT,K0,L5⟩:=id hs;unfold Builtin.Slice.sliceApplied Builtin.Slice.sliceFields;refine YV (YV (wpAny_field NT L5 (x:=.none) rfl (YV (wpAny_field NT L5 (x:=.none) rfl (YV (wpAny_field NT L5 (x:=.int (-1) t) rfl (YZ ?_)))))));refine YV (slicePart_int ?_);show Zr _ _ (if ((-1:Int)==0)=true then _ else _) _ _ s
 rw[if_neg (by decide)]
 refine YV (slicePart_none (YV (slicePart_none (YV (YZ ?_)))));show Zr _ _ (match ach none none (-1) (n:Int)with|(lo,hi)=>pure (lo,(-1:Int),abj lo hi (-1))) _ _ s
 have e1:ach none none (-1) (n:Int)=((n:Int)-1,-1):=by
  unfold ach;simp
 rw[e1];show Zr _ _ (pure ((n:Int)-1,(-1:Int),abj ((n:Int)-1) (-1) (-1))) _ _ s;have e2:abj ((n:Int)-1) (-1) (-1)=n:=by
  unfold abj;rw[if_neg (by lia)]
  split
  ·simp
  ·lia
 rw[e2];exact YZ h
theorem jG {t sl:Addr}{items:Array YU}{tk:Tok}{Q:YU->YW->Prop}(ht:IsTup s.heap t items)(hs:s.heap.IsSliceOf sl .none .none (.int (-1) tk))
  (h:Q (.ref s.heap.objs.size) {s with heap:=s.heap.push {cls:=.type "tuple",data:=.seq items.toList.reverse.toArray}})
  (NM:items.size<=Zf):Zr (model prog w) A (getItem (.ref t) (.ref sl)) Q E s:=by
 have yh:sizeOk (.seq items.toList.reverse.toArray):=by
  show items.toList.reverse.toArray.size<=Zf;rw[Zh,ab2,Y6];exact NM
 obtain⟨os,NT,K0,L5⟩:=id hs;have XI:s.TypeIs (.ref sl) "slice" := ⟨os,NT,K0⟩;unfold getItem
 try with_reducible refine ZW ?_
 first|refine YV (YZ ?_)|skip
 refine YV (wpAny_sequenceKey ht.typeIs (by decide) ?_)
 refine YV (acy (name:=Str.ofString "__getitem__") ht.typeIs abH
  (aaB abH ht.typeIs entry_tuple_getitem ?_ (args_tuple_getitem _ _)))
 show Zr _ _ (Builtin.Tuple.tupleItemsOf (.ref t) >>= _) _ _ s;refine YV (tupleItemsOf_ ht ?_);refine YV (wpAny_typeOf XI ?_);rw[if_pos (by decide)]
 refine YV (j7 hs ?_);show Zr _ _ (if (((items.size:Int)-1)==0&&(-1:Int)==1&&items.size==items.size)=true then _ else _) _ _ s
 rw[if_neg (by simp)]
 have ep:((Zi items.size).filterMap λ(m:Nat)=>items[(((items.size:Int)-1)+(m:Int)*(-1)).toNat]?).toArray=items.toList.reverse.toArray:=by
  congr 1
  have:=td items.toList;rw[Y6]at this;rw[<- this];refine jH λk hk=>?_;have LZ:=ZJ.mp hk;rw[Zk,show (((items.size:Int)-1)+(k:Int)*(-1)).toNat=items.size-1-k by lia]
 rw[ep]
 first
  |exact YV (m:=abo _) (aal (YZ ⟨_,rfl,YZ h⟩) yh)
  |exact YV (m:=abo _) (aal (YV (YZ (YZ ⟨_,rfl,YZ h⟩))) yh)
  |exact YV (YV (m:=abo _) (aal (YZ (YZ ⟨_,rfl,YZ h⟩)) yh))
  |exact YV (YV (m:=abo _) (aal (YZ ⟨_,rfl,YZ h⟩) yh))
end
end HT
namespace L2
open PySem PySem.Spec PySem.SeqAt PyProof.Rows
def Ou:D->Option D
 |.lst ds=>some (.lst ds.reverse)
 |.tup ds=>some (.tup ds.reverse)
 |_=>none
theorem ao.rev {P:Y0}{w:Zd}{W:Addr->Prop}{H:Hp}:∀{ds:List D} {vs:List V},ao P w W H ds vs->ao P w W H ds.reverse vs.reverse
 |[],_,h=>by rw[show _=[] from h];rfl
 |d::ds,_,lO=>by
  obtain⟨v,r,e,h1,h2⟩:=lO;subst e;rw[acm,acm];exact(ao.rev h2).append (.one h1)
theorem Vals.rev:∀{xs:List V} {us:List YU},Vals xs us->Vals xs.reverse us.reverse
 |_,_,.nil=>.nil
 |_,_,.cons r t=>by
  rw[acm,acm];exact(Vals.rev t).append (.cons r .nil)
section
variable {X:Cx}{e:Expr}{pos p2 p3 p4:Pos}{j:Nat}
theorem Jn {te:TE}(he:PE X e te):PE X (.Subscript e (.Slice none none (some (.UnaryOp .USub (.Constant (.int 1) j p3) p4)) p2) pos) (λσ H Q=>te σ H λx H1=>(∃a xs,x=.ref a/\H1 a=some (.lst xs)/\∀p,H1 p=none->Q (.ref p) (upd H1 p (.lst xs.reverse)))\/(∃a xs,x=.ref a/\H1 a=some (.tup xs)/\∀p,H1 p=none->Q (.ref p) (upd H1 p (.tup xs.reverse)))):=by
 intro pins s σ H Q I h;refine Subscript_ (bE (he pins s σ H _ I h) λv s1 kP=>?_);obtain⟨x,H1,I1,r1,q1⟩:=kP;refine wpAny_Slice ?_;rw[evalPart_none];refine YZ (YZ ?_);rw[evalPart_some];refine bE (Hq (X:=X) (pos:=p4) AO (mV (i:=1) (j:=j) (pos:=p3)) pins s1 σ H1 (λv H'=>v=.int (-1)/\H'=H1) I1 ⟨1,rfl,rfl,rfl⟩) λu s3 ui=>?_;obtain⟨y,H3,I3,r3,ey,eH⟩:=ui;subst ey eH;obtain⟨tk,rfl⟩:=(show ∃t,u=Value.int (-1) t from r3)
 have I4:Inv X pins σ H3 {s3 with heap:=s3.heap.push {cls:=.type "slice",data:=.fields #[.none,.none,.int (-1) tk]}}:=I3.kept (t':=s3.toks) λb ob q=>Y3 _ q
 have Ey:(s3.heap.push {cls:=.type "slice",data:=.fields #[.none,.none,.int (-1) tk]}).IsSliceOf s3.heap.objs.size .none .none (.int (-1) tk):=Heap.IsSliceOf.new ..
 generalize W9:({s3 with heap:=s3.heap.push {cls:=.type "slice",data:=.fields #[.none,.none,.int (-1) tk]}}:YW)=s4 at I4 ⊢
 have NN:s4.heap.IsSliceOf s3.heap.objs.size .none .none (.int (-1) tk):=by rw[<- W9];exact Ey
 have main:∃T id,typeLookup (.type T) "__getitem__" = pure (some (.builtin id))/\s4.TypeIs v T/\Zr (model X.prog X.w) X.A (getItem v (.ref s3.heap.objs.size)) (EP X pins σ Q) X.xe s4:=by
  rcases q1 with⟨a,xs,rfl,hx,q⟩|⟨a,xs,rfl,hx,q⟩
  ·cases (show v=Value.ref a from r1)
   obtain⟨its,r,ht,hz⟩:=I4.list (dC.of hx);have hlen:=r.length;refine⟨"list",_,slot_list_getitem.lookup,ht.isList.typeIs,?_⟩;refine wpAny_getItem_list_slice ht.isList NN .none .none (.int (-1) tk) (by simp) ?_ (by rw[Zh] <;> lia)
   rw[HT.oS];refine⟨.ref s4.heap.objs.size,_,I4.laid (t':=s4.toks) (o:=.lst xs.reverse) (λb ob q=>Y3 _ q) (YY _) ?_,rfl,q _ (I4.bu.fresh (YY _))⟩;exact⟨by rw[ab2];lia,_,0,by simpa using Vals.rev r,ZC _ rfl⟩
  ·cases (show v=Value.ref a from r1)
   obtain⟨its,r,ht,hz⟩:=I4.tuple (su.of hx);have hlen:=r.length;refine⟨"tuple",_,abH.lookup,ht.typeIs,?_⟩;refine HT.jG ht NN ?_ (by rw[Zh] <;> lia)
   refine⟨.ref s4.heap.objs.size,_,I4.laid (t':=s4.toks) (o:=.tup xs.reverse) (λb ob q=>Y3 _ q) (YY _) ?_,rfl,q _ (I4.bu.fresh (YY _))⟩;exact⟨by rw[ab2];lia,_,by simpa using Vals.rev r,IsTup.new _ _⟩
 obtain⟨T,id,hT,ht,hg⟩:=main;show Zr (model X.prog X.w) X.A (subscriptTail e (.Slice none none (some (.UnaryOp .USub (.Constant (.int 1) j p3) p4)) p2) v (.ref s3.heap.objs.size)) (EP X pins σ Q) X.xe s4;exact tail_any (ops:=[v,.ref s3.heap.objs.size]) ht hT hg (by with_unfolding_all rfl)
end
end L2
namespace L2.Q
open PySem PySem.Spec PySem.SeqAt PyProof.Rows
section
end
section
end
section
end
section
variable {X:Cx}{C:Cfg}{e:Expr}{i:Nat}{x:Str}{pos px ap cp:Pos}
theorem cD.putL {P:Y0}{w:Zd}{σ:St}{H:Hp}{β:ba}{own:Nat->List Addr}{U U2:Addr->Prop}{ds ds':List D}{vs':List V}{a:Addr}{vs:List V}{A A':List Addr}(s:cD P w (C.u U) σ H β own)(e:β[i]?=some (some (.own (.lst ds))))(h1:σ[i]?=some (some (.ref a)))(h2:H a=some (.lst vs))(h3:own i=a::A)
  (r:a9 P w H ds' vs' A') (nd:A'.Nodup) (hA:∀c∈A',c∈A\/(C.H0 c=none/\¬ Wn own c/\U c)) (hU:∀a,U2 a->U a) (TC:∀c∈A',c∉A->¬ U2 c) :
  cD P w (C.u U2) σ (upd H a (.lst vs')) (β.set i (some (.own (.lst ds')))) (aY own i (a::A'))/\∀c∈a::A',c∈own i\/(C.H0 c=none/\¬ Wn own c/\U c):=by
 have ha:a∈own i:=by rw[h3];simp
 have nA:a∉A:=by have:=s.pS i;rw[h3]at this;exact(ZD.mp this).1
 have na:∀c∈A',c≠a:=λc hc z=>by
  subst z;rcases hA c hc with z|z
  ·exact nA z
  ·exact z.2.1 ⟨i,ha⟩
 have kt:∀b xs,H b=some (.tup xs)->upd H a (.lst vs') b=some (.tup xs):=λb xs z=>by rw[ay (λz'=>by rw[z',h2]at z;cases z)];exact z
 have Vx:∀c∈a::A',c∈own i\/(C.H0 c=none/\¬ Wn own c/\U c):=λc hc=>by
  rcases Y4.mp hc with rfl|hc
  ·exact .inl ha
  ·exact(hA c hc).imp (λz=>by rw[h3];simp[z]) id
 refine⟨s.MU e h1 ha ⟨a,vs',A',rfl,aE,rfl,r.keep kt λc hc oc ec=>by rw[ay (na c hc)];exact ec⟩ (ZD.mpr ⟨λz=>na a z rfl,nd⟩) Vx hU (λc hc z=>?_),Vx⟩
 rcases Y4.mp hc with rfl|hc
 ·exact(s.dm i c ha).2.2.2 (hU c z)
 ·by_cases q:c∈A
  ·exact(s.dm i c (by rw[h3];simp[q])).2.2.2 (hU c z)
  ·exact TC c hc q z
theorem tM {own:Nat->List Addr}{i:Nat}{A':List Addr}(h:∀c∈A',c∈own i):∀c,Wn (aY own i A') c->Wn own c:=λc Gg=>by
 obtain⟨j,hj⟩:=Gg
 by_cases aT:i=j
 ·rw[<- aT,os_eq]at hj;exact⟨i,h c hj⟩
 ·rw[bp aT]at hj;exact⟨j,hj⟩
theorem BE {P:Y0}{w:Zd}{H:Hp}{own:Nat->List Addr}{Z:Hp×(Addr->Prop)}{d:D}{v:V}{A:List Addr}(r:Own P w H d v A)(h:∀c∈A,¬ Wn own c/\C.H0 c=none):KV P w C Z own H (sk .gm d) d v:=by
 have q:aF P w (av C (Wn own) .gm) H d v:=r.rep λc hc z=>z.elim (h c hc).1 λz=>z (h c hc).2;cases d with
 |int i=>exact KV.flat rfl q
 |bl i=>exact KV.flat rfl q
 |b_=>exact KV.flat rfl q
 |str i=>exact KV.flat rfl q
 |_=>exact q
theorem a9.concat {P:Y0}{w:Zd}{H:Hp}{ds:List D}{d:D}{vs:List V}{A:List Addr}(h:a9 P w H (ds++[d]) vs A):∃us v A1 A2,vs=us++[v]/\A=A1++A2/\a9 P w H ds us A1/\Own P w H d v A2:=by
 obtain⟨v,A1,A2,A3,g1,g2,g3,g4,g5⟩:=h.split (i:=ds.length) (d:=d) (by simp)
 rw[List.take_left]at g3;have e3:a9 P w H [] (vs.drop (ds.length+1)) A3:=by simpa using g5
 have hl:=h.length;rw[Zl,aad]at hl;refine⟨vs.take ds.length,v,A1,A2,?_,by rw[g2,e3.2,ZX],g3,g4⟩
 have ic:ds.length<vs.length:=by lia
 have e1:vs=vs.take ds.length++vs.drop ds.length:=(aaA _ _).symm;rw[aai ic,e3.1]at e1;have:vs[ds.length]=v:=by
  have:=Y2 ic;rw[g1]at this;exact(Zt this).symm
 rw[this]at e1;exact e1
theorem Jh (hn:Nm X i x:=by exact JV)
  (eM:aa0 (.Name x px) "pop" X.env (eval (.Name x px) X.env)=eval (.Name x px) X.env:=by rfl) (eL:(ap.endLine==cp.line)=true:=by rfl) :
  PQ X C false (.Call (.Attribute (.Name x px) "pop" ap) [] [] cp) (λβ R=>∃ds d,β[i]?=some (some (.own (.lst (ds++[d]))))/\R d (sk .gm d) (β.set i (some (.own (.lst ds))))) :=
 ⟨λβ R R' k Gf=>by obtain⟨ds,d,h1,q⟩:=Gf;exact⟨ds,d,h1,k _ _ _ q⟩,(Jr (apos:=ap) (cpos:=cp) PySem.F.plainAttrs_list PySem.F.slot_list_pop PySem.F.type_list_pop JY (mU (pos:=px) hn) eM eL).pre λσ H Q C3=>by
  obtain⟨β,own,s,ds,d,hb,q⟩:=C3;obtain⟨a,vs,A,h1,h2,h3,h4⟩:=s.ni hb;obtain⟨us,v,A1,A2,rfl,rfl,g3,g4⟩:=h4.concat;have nd:=s.pS i;rw[h3]at nd;obtain⟨zG,Cn,Et⟩:=ZL.mp (ZD.mp nd).2;obtain⟨s2,hA⟩:=s.putL (C:=C) (U:=C.U) (U2:=C.U) (ds':=ds) (vs':=us) (A':=A1) hb h1 h2 h3 g3 zG (λc hc=>.inl (by simp[hc])) (λ_ z=>z) (λc hc n=>absurd (by simp[hc]) n)
  have h0:∀c∈own i,C.H0 c=none:=by obtain⟨_,_,_,h⟩:=s.ow i _ hb;exact h
  have kt:∀b xs,H b=some (.tup xs)->upd H a (.lst us) b=some (.tup xs):=λb xs z=>by rw[ay (λz'=>by rw[z',h2]at z;cases z)];exact z
  have na:∀c∈A2,c≠a:=λc hc z=>(ZD.mp nd).1 (by rw[<- z];simp[hc])
  have le:∀c,Wn (aY own i (a::A1)) c->Wn own c:=tM λc hc=>by rw[h3];rcases Y4.mp hc with rfl|hc <;> simp[*]
  refine⟨.ref a,h1,.inl ⟨rfl,_,dC.of h2⟩,a,_,v,rfl,rfl,h2,by simp,?_⟩
  rw[List.dropLast_concat];refine q v _ _ ⟨s2,?_,λz=>(nomatch z),le⟩ (BE (C:=C) (g4.keep kt λc hc oc ec=>by rw[ay (na c hc)];exact ec) λc hc=>⟨λ⟨j,hj⟩=>?_,h0 c (by rw[h3];simp[hc])⟩)
  ·have u:=Sn.upd (Z:=(H,Wn own)) (o':=.lst us) (Sn.refl (H:=H) (W:=Wn own)) h2 (λxs z=>by cases z) ⟨i,by rw[h3];simp⟩
   exact⟨λb z=>.inl (le b z),u.k,u.d⟩
  ·by_cases aT:i=j
   ·rw[<- aT,os_eq]at hj;rcases Y4.mp hj with rfl|hj
    ·exact na _ hc rfl
    ·exact Et _ hj _ hc rfl
   ·rw[bp aT]at hj;exact aT (s.oJ i j c (by rw[h3];simp[hc]) hj)⟩
end
section
variable {X:Cx}{C:Cfg}{e k:Expr}{φ φk:aR}{p pk:Bool}{i:Nat}{x:Str}{pos pos' px ap cp:Pos}
theorem ze {n:Nat}{j:Int}{k:Nat}(h:ud n j=some k):seqIndex? j n=some k:=by
 unfold ud at h;unfold seqIndex?
 by_cases h0:0<=j
 ·rw[if_pos h0]at h
  by_cases h1:j<n
  ·rw[if_pos h1]at h;cases h;have e:(if j<0 then j+n else j)=j:=if_neg (by lia)
   simp only[e];simp[h0,h1]
  ·rw[if_neg h1]at h;cases h
 ·rw[if_neg h0]at h
  by_cases h1:-(n:Int)<=j
  ·rw[if_pos h1]at h;cases h;have e:(if j<0 then j+n else j)=j+n:=if_pos (by lia)
   simp only[e];have:0<=j+n/\j+n<n:=by lia
   simp[this]
  ·rw[if_neg h1]at h;cases h
theorem wm {n:Nat}{j:Int}{k:Nat}(h:ud n j=some k):k<n:=by
 unfold ud at h
 by_cases h0:0<=j
 ·rw[if_pos h0]at h
  by_cases h1:j<n
  ·rw[if_pos h1]at h;cases h;lia
  ·rw[if_neg h1]at h;cases h
 ·rw[if_neg h0]at h
  by_cases h1:-(n:Int)<=j
  ·rw[if_pos h1]at h;cases h;lia
  ·rw[if_neg h1]at h;cases h
theorem lH {α:Type}:∀(l:List α) (j:Nat),l.eraseIdx j=l.take j++l.drop (j+1):=λl j=>List.eraseIdx_eq_take_drop_succ l j
theorem By (he:PQ X C p e φ)(hn:Nm X i x:=by exact JV)
  (eM:aa0 (.Name x px) "pop" X.env (eval (.Name x px) X.env)=eval (.Name x px) X.env:=by rfl)
  (nN:((aaw cp (Ze [e] X.env)).all (λx=>!x.1)&&(backToKw cp (ack [] X.env)).all (λx=>x.1.isSome)&&decide ([e].length+([]:List abQ).length+(if ([]:List abQ).isEmpty then 0 else 1)<30))=true:=by rfl)
  (eL:(ap.endLine==cp.line)=true:=by rfl) (hs:Ze [e] X.env=(false,eval e X.env)::Ze [] X.env:=by rfl) (f9:(aaw cp (Ze [] X.env)).any (·.1)=false:=by rfl) :
  PQ X C false (.Call (.Attribute (.Name x px) "pop" ap) [e] [] cp) (λβ R=>(∃ds,β[i]?=some (some (.own (.lst ds))))/\φ β λkd _ β'=>∃(ds:List D) (j:Int) (m:Nat) (d:D),kd=.int j/\β'[i]?=some (some (.own (.lst ds)))/\-(2 ^ 63)<=j/\j<2 ^ 63/\ud ds.length j=some m/\ds[m]?=some d/\R d (sk .gm d) (β'.set i (some (.own (.lst (ds.eraseIdx m)))))) :=
 ⟨λβ R R' k lQ=>by obtain⟨h0,q⟩:=lQ;exact⟨h0,he.mono _ _ _ (λkd _ β' rD=>by obtain⟨ds,j,m,d,h1,h2,h3,h4,h5,h6,q⟩:=rD;exact⟨ds,j,m,d,h1,h2,h3,h4,h5,h6,k _ _ _ q⟩) q⟩,
  (tI (apos:=ap) (cpos:=cp) PySem.F.plainAttrs_list PySem.F.slot_list_pop PySem.F.type_list_pop Cr (mU (pos:=px) hn) (cT he.pe fW hs) eM nN eL hs f9).pre λσ H Q uj=>by
  obtain⟨β,own,s0,⟨VE,L6⟩,q⟩:=uj;obtain⟨a0,VV,A0,z1,z2,z3,z4⟩:=s0.ni L6;refine⟨.ref a0,z1,.inl ⟨rfl,_,dC.of z2⟩,tQ.of he s0 q λkd kk β' kv H1 aC kP o r=>?_⟩;obtain⟨ds,j,m,d,e1,hb,j1,j2,hj,hm,q⟩:=kP;subst e1;cases r.rep;have s:=o.sq;obtain⟨a,vs,A,h1,h2,h3,h4⟩:=s.ni hb;rw[z1]at h1;cases h1;obtain⟨v,A1,A2,A3,g1,rfl,g3,g4,g5⟩:=h4.split hm;have nd:=s.pS i;rw[h3]at nd;obtain⟨zG,Cn,Et⟩:=ZL.mp (ZD.mp nd).2;obtain⟨O8,Nd,Nc⟩:=ZL.mp Cn;have ow:a9 X.prog X.w H1 (ds.eraseIdx m) (vs.eraseIdx m) (A1++A3):=by rw[lH,lH];exact g3.append g5
  have QR:(A1++A3).Nodup:=ZL.mpr ⟨zG,Nd,λx hx y hy=>Et x hx y (ZK _ hy)⟩;obtain⟨s2,hA⟩:=s.putL (C:=C) (U:=C.U) (U2:=C.U) (ds':=ds.eraseIdx m) (vs':=vs.eraseIdx m) (A':=A1++A3) hb z1 h2 h3 ow QR (λc hc=>.inl (by rcases Zb.mp hc with hc|hc <;> simp[hc])) (λ_ z=>z) (λc hc n=>absurd (by rcases Zb.mp hc with hc|hc <;> simp[hc]) n)
  have h0:∀c∈aC i,C.H0 c=none:=by obtain⟨_,_,_,h⟩:=s.ow i _ hb;exact h
  have kt:∀b xs,H1 b=some (.tup xs)->upd H1 a0 (.lst (vs.eraseIdx m)) b=some (.tup xs):=λb xs z=>by rw[ay (λz'=>by rw[z',h2]at z;cases z)];exact z
  have na:∀c∈A2,c≠a0:=λc hc z=>(ZD.mp nd).1 (by rw[<- z];simp[hc])
  have le:∀c,Wn (aY aC i (a0::(A1++A3))) c->Wn aC c:=tM λc hc=>by
   rw[h3];rcases Y4.mp hc with rfl|hc
   ·simp
   ·rcases Zb.mp hc with hc|hc <;> simp[hc]
  refine⟨a0,vs,j,m,v,rfl,rfl,h2,j1,j2,by rw[h4.length];exact ze hj,g1,?_⟩
  have u:=Sn.upd (Z:=(H1,Wn aC)) (o':=.lst (vs.eraseIdx m)) (Sn.refl (H:=H1) (W:=Wn aC)) h2 (λxs z=>by cases z) ⟨i,by rw[h3];simp⟩
  refine q v _ _ ⟨s2,o.sn.trans ⟨λb z=>.inl (le b z),u.k,u.d⟩,λz=>(nomatch z),λc z=>o.le c (le c z)⟩ (BE (C:=C) (g4.keep kt λc hc oc ec=>by rw[ay (na c hc)];exact ec) λc hc=>⟨λui=>?_,h0 c (by rw[h3];simp[hc])⟩)
  obtain⟨j',o8⟩:=ui
  by_cases aT:i=j'
  ·rw[<- aT,os_eq]at o8;rcases Y4.mp o8 with rfl|o8
   ·exact na _ hc rfl
   ·rcases Zb.mp o8 with o8|o8
    ·exact Et _ o8 _ (Z8 _ hc) rfl
    ·exact Nc _ hc _ o8 rfl
  ·rw[bp aT]at o8;exact aT (s.oJ i j' c (by rw[h3];simp[hc]) o8)⟩
theorem EV {Z:Hp×(Addr->Prop)}{H:Hp}{own:Nat->List Addr}{a:Addr}{o oa:HO}{A':List Addr}{U:Addr->Prop}(n:Sn Z H (Wn own))(m:∀a,U a->Z.1 a=none)(h2:H a=some oa)(ht:∀xs,oa≠.tup xs)(ha:Wn own a)(hA:∀c∈A',c∈own i\/(C.H0 c=none/\¬ Wn own c/\U c)):Sn Z (upd H a o) (Wn (aY own i A')) :=
 vO n m ha ⟨oa,h2,ht⟩ hA
theorem fV (he:∀U,PQ X (C.u U) p e φ)(hk:∀U,PQ X (C.u U) pk k φk)(hn:Nm X i x:=by exact JV)
  (ha:∀v,assign (.Subscript (.Name x px) k pos') X.env v=(do
   let ov <- holding [v] (eval (.Name x px) X.env)
   let iv <- holding [v,ov] (eval k X.env)
   standAt pos'
   holding [v,ov,iv] (setItem ov iv v)
   release [v,ov,iv] []):=by intro _;rfl) (hs:swapsWithSole [.Subscript (.Name x px) k pos'] e pos.line X.env=pure false:=by rfl) (hw:swappedStores [.Subscript (.Name x px) k pos'] e X.env=pure none:=by rfl)
  (h1:(aac [.Subscript (.Name x px) k pos'] X.env).map (·.2)=[assign (.Subscript (.Name x px) k pos') X.env]:=by rfl) :
  PB X C (.Assign [.Subscript (.Name x px) k pos'] e pos) (λE β=>φ β λd kd β1=>F5 kd d/\(∃ds,β1[i]?=some (some (.own (.lst ds))))/\φk β1 λjd _ β2=>∃ds j m,jd=.int j/\β2[i]?=some (some (.own (.lst ds)))/\ud ds.length j=some m/\E.nx (β2.set i (some (.own (.lst (ds.set m d)))))):=by
 refine⟨λE E' β l q=>(he λ_=>False).mono _ _ _ (λd kd β1 C3=>by obtain⟨f,h0,q⟩:=C3;exact⟨f,h0,(hk λ_=>False).mono _ _ _ (λjd _ β2 C2=>by obtain⟨ds,j,m,h1,h2,h3,q⟩:=C2;exact⟨ds,j,m,h1,h2,h3,l.nx _ q⟩) q⟩) q,λpins s σ H De I RM=>?_⟩
 obtain⟨Z,E,β,⟨own,sq,n⟩,q,ok⟩:=RM;refine vW (he λa=>H a=none).pe (Jl (mU (pos:=px) hn) (hk λa=>H a=none).pe set_list ha) hs hw h1 pins s σ H De I ?_;refine tQ.of (he λa=>H a=none) (sq.pB (C:=C.z) (U:=λa=>H a=none) λa z=>z) q λd kd β1 v H1 aC RL o r=>?_;obtain⟨f,⟨VE,L6⟩,q⟩:=RL;obtain⟨a0,VV,A0,z1,z2,z3,z4⟩:=o.sq.ni L6;refine⟨.ref a0,z1,tQ.of (hk λa=>H a=none) o.sq q λjd kj β2 jv H2 bg RK o2 r2=>?_⟩;obtain⟨ds,j,m,e1,hb,hj,q⟩:=RK;subst e1;cases r2.rep;obtain⟨A,r1,rn,r3⟩:=(r.fl f).held (by intro z;cases z) o2.sn
 obtain⟨a,vs,A',g1,g2,g3,g4⟩:=o2.sq.ni hb;rw[z1]at g1;cases g1;have Xo:m<ds.length:=wm hj;have hm:ds[m]?=some ds[m]:=Y2 Xo;obtain⟨v0,B1,B2,B3,k1,rfl,k3,k4,k5⟩:=g4.split hm;have nd:=o2.sq.pS i;rw[g3]at nd;obtain⟨zG,Cn,Et⟩:=ZL.mp (ZD.mp nd).2;obtain⟨O8,Nd,Nc⟩:=ZL.mp Cn;have Pl:m<vs.length:=by rw[g4.length];exact wm hj
 have ow:a9 X.prog X.w H2 (ds.set m d) (vs.set m v) (B1++(A++B3)):=by
  rw[abA,if_pos (wm hj),abA,if_pos Pl];exact k3.append ⟨v,_,A,B3,rfl,rfl,r1,k5⟩
 have off:∀c∈A,∀c'∈B1++(B2++B3),c≠c':=λc hc c' rF z=>(r3 c hc).2.1 ⟨i,by rw[g3,z];simp only[Y4];exact .inr rF⟩
 have QR:(B1++(A++B3)).Nodup:=ZL.mpr ⟨zG,ZL.mpr ⟨rn,Nd,λx hx y hy=>off x hx y (by simp[hy])⟩,λx hx y hy z=>by
  rcases Zb.mp hy with hy|hy
  ·exact off y hy x (by simp[hx]) z.symm
  ·exact Et x hx y (ZK _ hy) z⟩
 obtain⟨s2,hA⟩:=o2.sq.putL (C:=C) (U:=λa=>H a=none) (U2:=λ_=>False) (ds':=ds.set m d) (vs':=vs.set m v) (A':=B1++(A++B3)) hb z1 g2 g3 ow QR (λc hc=>by
  rcases Zb.mp hc with hc|hc
  ·exact .inl (by simp[hc])
  ·rcases Zb.mp hc with hc|hc
   ·exact .inr ⟨(r3 c hc).2.2,(r3 c hc).2.1,(r3 c hc).1⟩
   ·exact .inl (by simp[hc])) (λ_ z=>z.elim) (λc hc n z=>z)
 exact⟨a0,vs,j,m,rfl,rfl,g2,by rw[g4.length];exact hj,ok.nx _ _ _ ⟨_,s2,EV ((n.trans o.sn).trans o2.sn) (λb z=>n.free z) g2 (λxs z=>by cases z) ⟨i,by rw[g3];simp⟩ hA⟩ q⟩
end
end L2.Q
namespace L2
open PySem PySem.Spec PySem.SeqAt PyProof.Rows
theorem FU {X:Cx}:∀(pins:List (Addr×Obj)) (s:YW) (σ:St) (H:Hp) (Q:YU->YW->Prop) (E:YU->YW->Prop),Inv X pins σ H s ->
  (∀a s',s.heap.objs.size<=a->H a=none->(∀b o,s.heap.get? b=some o->s'.heap.get? b=some o)->Inv X pins σ (upd H a (gQ X.prog X.w a [])) s'->Q (.ref a) s')->Zr (model X.prog X.w) X.A (newSet (.type "set")) Q E s:=λpins s σ H Q E I h=>by
 unfold newSet;refine YV (ST.gT ?_);dsimp only;have hS:(s.heap.push (ST.iM X.w)).get? s.heap.objs.size=some (ST.iM X.w):=ZC _ rfl;refine aal (h _ _ (YY _) I.fresh (λb o e=>Y3 _ e) (I.laid (t':=s.toks) (λ_ _ q=>Y3 _ q) (YY _) ?_));exact⟨⟨_,_,_,_,hS,ST.FW _ _⟩,⟨_,hS⟩,λh1 h2 lQ k=>by obtain⟨o1,e1,Ol,t1,g1,g2⟩:=lQ;exact⟨o1,e1,Ol,t1,k _ g1,g2⟩⟩
section
variable {X:Cx}
theorem BS {elt:Expr}{te:TE}{a:Addr}(hx:X.xe=λ_ _=>False)(hu:X.A.units+16<abk)(he:PE X elt te):
  vi X (pE (Dv elt (.ref a) X.env)) (λN σ H=>te σ H λv H1=>∃ts t key,v=.ref t/\H1 a=some (gQ X.prog X.w a ts)/\H1 t=some (.tup (key.map V.int))/\(∀x∈ts,H1 x.1=some (.tup (x.2.map V.int)))/\ts.length<1000/\∀bF,(∀x∈bF,x∈ts\/x=(t,key))->(∀x,x∈bF.map (·.2)↔x∈ts.map (·.2)\/x=key)->bF.length<=ts.length+1->(bF.map (·.2)).Nodup->N σ (upd H1 a (gQ X.prog X.w a bF))):=by
 intro pins s σ H N k Q E I h hk;unfold pE Dv;refine YV (YV (bE (jx hx (he pins s σ H _ I h)) λu s1 kP=>?_));obtain⟨v,H1,I1,r1,ts,t,key,ev,hH,ht,Aw,hn,q⟩:=kP;subst ev;cases r1;refine YV (aaT (YV ?_));obtain⟨⟨o,es,ep,tb,ho,S⟩,_,_⟩:=(show dv X.prog X.w H1 s1.heap a (gQ X.prog X.w a ts) from I1.bu a _ hH)
 have T:=vI I1.bu Aw;have Tc:(ST.TK X.prog X.w).is s1.heap key t:=(vI (ts:=[(t,key)]) I1.bu λx hx=>by rw[Y1.mp hx];exact ht) (t,key) (Y1.mpr rfl)
 refine aaB PySem.F.slot_set_add (ST.jk ho S) PySem.F.entry_set_add ?_ (PySem.F.args_set_add_2 _ _);unfold aaz.«set.add» Builtin.Frozenset.oneOther;simp only[List.isEmpty_nil,bind_assoc];unfold Builtin.Frozenset.addrOf;refine YV (YZ ?_)
 try dsimp only
 refine YV (YZ ?_)
 try dsimp only
 have lO:X.A.in1.units<abk:=by show X.A.units+1<abk;lia
 refine YV (ST.AM ho S T Tc lO hn λh' o' bF fk rL t' added tk YD sb zV S' m1 m2=>?_);show Zr _ _ (ret Value.none) _ _ _;refine YZ ⟨_,rfl,YZ ?_⟩;have I2:Inv X pins σ (upd H1 a (gQ X.prog X.w a bF)) {s1 with heap:=h',toks:=tk}:=I1.write (x:=a) (e:=a) (by rw[hH];exact trivial) (.inl rfl) (λb u hb hu=>(sb.2 b hb).trans hu) ⟨_,zV⟩
  ⟨⟨o',fk,rL,t',zV,S'⟩,⟨_,zV⟩,λh1 h2 uj k=>by obtain⟨o1,e1,Ol,t1,g1,g2⟩:=uj;exact⟨o1,e1,Ol,t1,k _ g1,g2⟩⟩
 by_cases se:∃x∈ts,x.2=key
 ·obtain rfl:=m1 se;refine hk σ _ _ I2 (q bF (λx hx=>.inl hx) (λx=>⟨.inl,λz=>z.elim id λz=>?_⟩) (by lia) S'.Nb)
  obtain⟨y,hy,e⟩:=se;rw[z,<- e];exact List.mem_map_of_mem hy
 ·have pm:=m2 λx hx e=>se ⟨x,hx,e⟩;refine hk σ _ _ I2 (q bF (λx hx=>?_) (λx=>?_) (by rw[pm.length_eq];exact YY _) S'.Nb)
  ·rcases Y4.mp (pm.mem_iff.mp hx)with z|z
   ·exact .inr z
   ·exact .inl z
  ·rw[(pm.map _).mem_iff,Zx,Y4];exact⟨λz=>z.symm,λz=>z.symm⟩
end
namespace Q
section
variable {P:Y0}{w:Zd}{C:Cfg}{σ:St}{H:Hp}{β:ba}{own:Nat->List Addr}{lk:List (Option Nat)}{a:Addr}
theorem cD.Lb {o:HO}(ho:∀xs,o≠.tup xs)(s:cD P w C σ H β own)(ha:H a=none)(inj:∀(i i' j:Nat),lk[i]?=some (some j)->lk[i']?=some (some j)->i=i'):
  cD P w (C.u λc=>c=a) (dU lk σ) (upd H a o) (dH lk β) (bA lk β own):=by
 have h0:C.H0 a=none:=ZT λz=>s.iW a z ha;have q:=(s.enter ha inj).IV (o:=o) aE (λxs z=>by cases z) h0
 have e:upd (upd H a (.lst [])) a o=upd H a o:=by
  funext b
  by_cases hb:b=a
  ·rw[hb,aE,aE]
  ·rw[ay hb,ay hb,ay hb]
 rwa [e]at q
end
def t_ (γ:eV)(τ:bt)(φ:aR)(ds:List D)(k:Kd)(β0:ba)(K:List (List Int)->Prop):Prop:=∃I:Nat->ba->List (List Int)->Prop,I 0 β0 [] /\
 (∀i d β o,ds[i]?=some d->I i β o->γ d (sk k d) β λβ1=>τ β1 λt β2=>if t=true then φ β2 λx kx β3=>∃key,x=kD key/\o.length<1000/\I (i+1) β3 (o++[key]) else I (i+1) β2 o)/\∀β o,I ds.length β o->gj β0 β/\K o
theorem t_.mono {γ:eV}{τ:bt}{φ:aR}{ds:List D}{k:Kd}{β0:ba}{K K':List (List Int)->Prop}(h:∀o,K o->K' o)(q:t_ γ τ φ ds k β0 K):t_ γ τ φ ds k β0 K':=let ⟨I,h0,h1,h2⟩:=q;⟨I,h0,h1,λβ o z=>⟨(h2 β o z).1,h _ (h2 β o z).2⟩⟩
section
variable {X:Cx}{C:Cfg}{lk:List (Option Nat)}{γ:eV}{τ:bt}{φ:aR}{T:List Nat}{pc pe:Bool}
theorem wX {σ:St}{H1:Hp}{β:ba}{own:Nat->List Addr}{a:Addr}{J:It}{ds:List D}{k:Kd}{K:List (List Int)->Prop}{End:Hp->Prop}
  (γm:∀d k β R R',(∀r,R r->R' r)->γ d k β R->γ d k β R') (τm:∀β R R',(∀d β,R d β->R' d β)->τ β R->τ β R') (φm:∀β R R',(∀d k β,R d k β->R' d k β)->φ β R->φ β R')
  (inj:∀(i i' j:Nat),lk[i]?=some (some j)->lk[i']?=some (some j)->i=i') (hT:∀i∈T,∀j,lk[i]?≠some (some j))
  (s1:SQ X C σ H1 β own) (ha:H1 a=none) (hk:hold k false) (it:EG X (av C (Wn own) k) J ds H1) (q:t_ γ τ φ ds k (dH lk β) K)
  (fin:∀o H',K o->Out X C σ H1 own (pc&&pe) β H' own->KV X.prog X.w C (H1,Wn own) own H' .own (.sT (jW o)) (.ref a)->End H') :
  iy J (λv σ H Q=>∃own β d k,SQ X (C.u λc=>c=a) σ H β own/\Rp X (jT (C.u λc=>c=a) (Wn own) k) H d v/\γ d k β λβ'=>∀σ' aU,SQ X (C.u λc=>c=a) σ' H β' aU->(∀a,Wn aU a->Wn own a)->(∀j,j∉T->σ'[j]?=σ[j]?)->Q σ' H)
   (oF X (C.u λc=>c=a) pc τ) (λN σ H=>tQ X (C.u λc=>c=a) pe φ σ H λv H1=>∃ts t key,v=.ref t/\H1 a=some (gQ X.prog X.w a ts)/\H1 t=some (.tup (key.map V.int))/\(∀x∈ts,H1 x.1=some (.tup (x.2.map V.int)))/\ts.length<1000/\∀bF,(∀x∈bF,x∈ts\/x=(t,key))->(∀x,x∈bF.map (·.2)↔x∈ts.map (·.2)\/x=key)->bF.length<=ts.length+1->(bF.map (·.2)).Nodup->N σ (upd H1 a (gQ X.prog X.w a bF)))
   (λ_ H'=>End H') (dU lk σ) (upd H1 a (gQ X.prog X.w a [])):=by
 obtain⟨I,i0,i1,i2⟩:=q;have h0:C.H0 a=none:=ZT λz=>s1.iW a z ha;have sm:aD H1 (upd H1 a (gQ X.prog X.w a [])):=aD.new ha;have UY:∀c,Wn (bA lk β own) c->c≠a:=λc z e=>by
  obtain⟨j,hj⟩:=bO c z;exact(s1.dm j c hj).1 (by rw[e];exact ha)
 let S:Nat->St->Hp->Prop:=λi σ' H'=>∃βi jr ts o,SQ X (C.u λc=>c=a) σ' H' βi jr/\Sn (H1,Wn (bA lk β own)) H' (Wn jr)/\(∀c,Wn jr c->Wn (bA lk β own) c)/\H' a=some (gQ X.prog X.w a ts)/\(∀x∈ts,H' x.1=some (.tup (x.2.map V.int)))/\(ts.map (·.2)).Nodup/\(ts.length<=o.length/\∀x,x∈ts.map (·.2)↔x∈o) /\
  ((pc&&pe)=true->aD H1 H')/\(∀j,j∉T->σ'[j]?=(dU lk σ)[j]?)/\I i βi o
 have W':Addr->Prop:=λb=>av C (Wn own) k b\/H1 b=none;have LV:=it (λb=>av C (Wn own) k b\/H1 b=none) λb z=>z;have kI:∀{H':Hp} {jr:Nat->List Addr},Sn (H1,Wn (bA lk β own)) H' (Wn jr)->Kp (λb=>av C (Wn own) k b\/H1 b=none) H1 H':=λn=>n.k.mono λb z=>z.imp (λz=>by
  cases k with
  |own=>exact .inl (bO b z)
  |gm=>exact .inl (bO b z)
  |old=>exact bO b z
  |bor=>exact hk.elim) id
 refine⟨λi m σ' H'=>i<=ds.length/\m=ds.length-i/\S i σ' H',⟨_,Zm _,rfl,dH lk β,bA lk β own,[],[],s1.Lb (λxs z=>by cases z) ha inj,⟨λb z=>.inl z,sm.kp,λb z e=>z (sm.free e)⟩,λ_ z=>z,aE,λx hx=>(nomatch hx),Z7,⟨YY _,λx=>Iff.rfl⟩,λ_=>sm,λ_ _=>rfl,i0⟩,?_⟩
 rintro i m σ2 H2 ⟨hi,rfl,βi,jr,ts,o,sq,sn,le,Tv,os,nd,nw,pu,st,hl⟩;obtain⟨gJ,Kf⟩:=LV i H2 (kI sn)
 by_cases ic:i<ds.length
 ·right
  have hd:ds[i]?=some ds[i]:=Y2 ic;obtain⟨go,yl⟩:=gJ _ hd;refine⟨go,λσ' H'=>S (i+1) σ' H',λσ' H' h=>⟨_,by lia,ic,rfl,h⟩,λx H3 y=>?_⟩
  obtain⟨s3,r3⟩:=yl x H3 y;have Yc:∀{jr:Nat->List Addr},(∀c,Wn jr c->Wn (bA lk β own) c)->∀c,jT (C.u λc=>c=a) (Wn jr) k c->av C (Wn own) k c\/H1 c=none:=λle c z=>z.elim (λz=>.inl (l5 (λc z=>bO c (le c z)) k c z)) λz=>.inr (by rw[z];exact ha)
  refine⟨jr,βi,_,_,sq.same s3,qR (aF.bb (Yc le) r3),γm _ _ _ _ _ (λβ4 q σ4 tR s4 w4 t4=>?_) (i1 i _ βi o hd hl)⟩;have U6:∀c,Wn tR c->Wn (bA lk β own) c:=λc z=>le c (w4 c z);refine⟨β4,tR,s4,τm _ _ _ (λt β5 q H5 rd o5=>?_) q⟩;have QT:∀c,Wn rd c->Wn (bA lk β own) c:=λc z=>U6 c (o5.le c z);have HD:∀oc,H2 a=some oc->H5 a=some oc:=λoc e=>by
   refine o5.sn.k.out a oc (s3 a oc e) λz=>?_;rcases z with z|z
   ·exact UY _ (U6 _ z) rfl
   ·exact absurd ((s3 a oc e).symm.trans z) (λz=>(nomatch z))
  have UN:∀x∈ts,H5 x.1=some (.tup (x.2.map V.int)):=λx hx=>o5.sn.k.tup _ _ (s3 _ _ (os x hx));have UA:Sn (H1,Wn (bA lk β own)) H5 (Wn rd):=(ji (sn.same s3) w4).trans o5.sn;have UL:(pc&&pe)=true->aD H1 H5:=λz=>((pu z).trans s3).trans (o5.pu (xb z)).1;have Mz:∀j,j∉T->σ4[j]?=(dU lk σ)[j]?:=λj hj=>(t4 j hj).trans (st j hj);cases t with
  |false=>exact⟨β5,rd,ts,o,o5.sq,UA,QT,HD _ Tv,UN,nd,nw,UL,Mz,q⟩
  |true =>
   refine⟨β5,rd,o5.sq,φm _ _ _ (λxd kx β6 ui v H6 Jv o6 r6=>?_) q⟩;obtain⟨key,ek,hz,q⟩:=ui;subst ek;obtain⟨t,us,rfl,ht,HE⟩:=r6.rep;rw[cf HE]at ht;have Od:=HD _ Tv;have uq:H6 a=some (gQ X.prog X.w a ts):=by
    refine o6.sn.k.out a _ Od λz=>?_;rcases z with z|z
    ·exact UY _ (QT _ z) rfl
    ·exact absurd (Od.symm.trans z) (λz=>(nomatch z))
   have QL:∀x∈ts,H6 x.1=some (.tup (x.2.map V.int)):=λx hx=>o6.sn.k.tup _ _ (UN x hx);have nt:∀{b xs},H6 b=some (.tup xs)->b≠a:=λe z=>by rw[z,uq]at e;cases e
   refine⟨ts,t,key,rfl,uq,ht,QL,by lia,λbF m1 m2 m3 m4=>⟨β6,Jv,bF,o++[key],o6.sq.IV uq (λxs z=>by cases z) h0,?_,λc z=>QT c (o6.le c z),aE,λx hx=>?_,m4,⟨?_,λx=>?_⟩,λz=>?_,Mz,q⟩⟩
   ·have m:=UA.trans o6.sn;refine⟨m.w,m.k.trans ((nC uq (λxs z=>by cases z)).mono λb z=>.inr (by rw[z];exact ha)),λb z e=>?_⟩
    by_cases hb:b=a
    ·rw[hb,aE]at e;cases e
    ·rw[ay hb]at e;exact m.d b z e
   ·rcases m1 x hx with z|rfl
    ·rw[ay (nt (QL x z))];exact QL x z
    ·rw[ay (nt ht)];exact ht
   ·rw[Zl,aad];lia
   ·rw[m2,nw.2 x,Zb,Y1]
   ·refine λb ob e=>?_;rw[ay (λz'=>by rw[z',ha]at e;cases e)]
    exact(o6.pu (G6 z)).1 b ob (UL z b ob e)
 ·left
  have e:i=ds.length:=by lia
  subst e;obtain⟨hh,q⟩:=i2 βi o hl;have lv:SQ X C σ H2 β own:=s1.leave sq sn le hh λj ok i' e1 e2=>st i' λz=>hT i' z j e2;have O9:=dt o;refine⟨Kf (YY _),fin o H2 q ⟨lv,⟨λb z=>.inl z,sn.k.mono λb z=>z.imp (bO b) id,sn.d⟩,λz=>⟨pu z,rfl⟩,λ_ z=>z⟩ ⟨[a],⟨a,rfl,⟨ts,Tv,os,(aa_ nd O9.1).mpr λx=>by rw[nw.2 x,O9.2 x]⟩,rfl⟩,by simp,λc hc=>?_⟩⟩
  rw[Y1.mp hc];exact⟨ha,λKH=>by obtain⟨j,hj⟩:=KH;exact(s1.dm j a hj).1 ha,h0⟩
def Bl (lk:List (Option Nat))(ι:gR)(γ:eV)(τ:bt)(φ:aR):aR:=λβ R=>ι β λds k β1=>hold k false/\t_ γ τ φ ds k (dH lk β1) λo=>R (.sT (jW o)) .own β1
variable {scope:abz}{N':List Str}{tg gJ elt:Expr}{ifs:List Expr}{ι:gR}{pi:Bool}{pos:Pos}
theorem MW (hu:X.A.units+16<abk)(L:Links X scope N' lk)(EB:N'.Nodup)(hT:T.all (λi=>match lk[i]? with|some (some _)=>false|_=>true)=true)(hc:X.calm=true)(hi:G_ X C pi tg gJ ι)
  (Ex:∀a cl c s H ex,EF (a8 X scope N' cl c s H ex) (C.u λc=>c=a) tg T γ) (Aw:∀a cl c s H ex,xf (a8 X scope N' cl c s H ex) ifs (oF (a8 X scope N' cl c s H ex) (C.u λc=>c=a) pc τ)) (τm:∀β R R',(∀d β,R d β->R' d β)->τ β R->τ β R')
  (um:∀a cl c s H ex,PQ (a8 X scope N' cl c s H ex) (C.u λc=>c=a) pe elt φ) (γm:∀d k β R R',(∀r,R r->R' r)->γ d k β R->γ d k β R') (φm:∀β R R',(∀d k β,R d k β->R' d k β)->φ β R->φ β R')
  (hs:∀x,aav gJ X.env x=pure x:=by intro _;rfl):PQ X C (pi&&(pc&&pe)) (.SetComp elt [⟨tg,gJ,ifs,0⟩] scope pos) (Bl lk ι γ τ φ):=by
 have Tw:∀i∈T,∀j,lk[i]?≠some (some j):=λi hi j e=>by
  have:=abf.mp hT i hi;rw[e]at this;cases this
 refine⟨λβ R R' k h=>hi.mono β _ _ (λds kd β1 q=>⟨q.1,q.2.mono λo z=>k _ _ _ z⟩) h,?_⟩;refine(tH (g:=⟨tg,gJ,ifs,0⟩) (gs:=[]) (tg:=λa v σ H Q=>∃own β d k,SQ X (C.u λc=>c=a) σ H β own/\Rp X (jT (C.u λc=>c=a) (Wn own) k) H d v/\γ d k β λβ'=>∀σ' aU,SQ X (C.u λc=>c=a) σ' H β' aU->(∀a,Wn aU a->Wn own a)->(∀j,j∉T->σ'[j]?=σ[j]?)->Q σ' H)
  (tt:=λa=>oF X (C.u λc=>c=a) pc τ) (ta:=λa N σ H=>tQ X (C.u λc=>c=a) pe φ σ H λv H1=>∃ts t key,v=.ref t/\H1 a=some (gQ X.prog X.w a ts)/\H1 t=some (.tup (key.map V.int))/\(∀x∈ts,H1 x.1=some (.tup (x.2.map V.int)))/\ts.length<1000/\∀bF,(∀x∈bF,x∈ts\/x=(t,key))->(∀x,x∈bF.map (·.2)↔x∈ts.map (·.2)\/x=key)->bF.length<=ts.length+1->(bF.map (·.2)).Nodup->N σ (upd H1 a (gQ X.prog X.w a bF)))
  L hc FU rfl rfl (λ_ _=>OG) hi.pi (λa cl c s H ex=>⟨(Ex a cl c s H ex).pg,Aw a cl c s H ex,BS (X:=a8 X scope N' cl c s H ex) rfl hu (um a cl c s H ex).pe⟩) hs).pre λσ H Q ⟨β,own,s,h⟩=>?_
 refine⟨β,own,s,hi.mono β _ _ (λds k β1 CS J H1 aC o1 it a ha=>?_) h⟩;obtain⟨hk,q⟩:=CS;exact wX γm τm φm (kz L EB) Tw o1.sq ha hk it q λo H' q o2 r=>q _ _ aC (o1.trans o2) (r.later o1.sn)
end
end Q
end L2
namespace L2.Q
open PySem PySem.Spec PySem.SeqAt PyProof.Rows
abbrev Nr (l:Bool)(ds:List D):D:=match l with|true=>.lst ds|false=>.tup ds
section
variable {P:Y0}{w:Zd}{H:Hp}{A:List Addr}{v:V}{ds:List D}{l:Bool}
theorem tN {m:Nat}{es:List D}(r:Own P w H (Nr l ds) v A)(nd:A.Nodup)(hm:ds[m]?=some (.lst es)):∃a vs c us B,v=.ref a/\H a=some (match l with|true=>.lst vs|false=>.tup vs)/\vs.length=ds.length/\vs[m]?=some (.ref c)/\H c=some (.lst us)/\c∈A/\a9 P w H es us B/\(∀x∈B,x∈A/\x≠c)/\B.Nodup /\
  ∀fk xi B',a9 P w H fk xi B'->B'.Nodup->(∀x∈B',x∈B\/x∉A)->(∀x∈B',x≠c)->∃A',Own P w (upd H c (.lst xi)) (Nr l (ds.set m (.lst fk))) v A'/\A'.Nodup/\∀x∈A',x∈A\/x∈B':=by
 have core:∀{vs:List V} {A:List Addr},A.Nodup->a9 P w H ds vs A->∃c us B,vs[m]?=some (.ref c)/\H c=some (.lst us)/\c∈A/\a9 P w H es us B/\(∀x∈B,x∈A/\x≠c)/\B.Nodup /\
   ∀fk xi B',a9 P w H fk xi B'->B'.Nodup->(∀x∈B',x∈B\/x∉A)->(∀x∈B',x≠c)->∃A',a9 P w (upd H c (.lst xi)) (ds.set m (.lst fk)) vs A'/\A'.Nodup/\(∀x∈A',x∈A\/x∈B'):=λ{vs A} nd os=>by
  have hl:=os.length;have Xp:m<ds.length:=(Y_.mp hm).1;obtain⟨u,A1,A2,A3,g1,rfl,g3,⟨c,us,B,rfl,h2,rfl,h4⟩,g5⟩:=os.split hm;obtain⟨zG,Cn,Et⟩:=ZL.mp nd;obtain⟨O8,Nd,Nc⟩:=ZL.mp Cn;have WI:=(ZD.mp O8).1;refine⟨c,us,B,g1,h2,by simp,h4,λx hx=>⟨by simp[hx],λz=>WI (by rw[<- z];exact hx)⟩,(ZD.mp O8).2,λfk xi B' o' n' sg rF=>?_⟩
  have kt:∀b xs,H b=some (.tup xs)->upd H c (.lst xi) b=some (.tup xs):=λb xs z=>by rw[ay (λz'=>by rw[z',h2]at z;cases z)];exact z
  have n1:∀x∈A1,x≠c:=λx hx z=>Et x hx c (by simp) z
  have n3:∀x∈A3,x≠c:=λx hx z=>Nc c (by simp) x hx z.symm
  have off:∀x∈B',x∉A1/\x∉A3:=λx hx=>by
   rcases sg x hx with z|z
   ·exact⟨λq=>Et x q x (by simp[z]) rfl,λq=>Nc x (by simp[z]) x q rfl⟩
   ·exact⟨λq=>z (by simp[q]),λq=>z (by simp[q])⟩
  have Pl:m<vs.length:=by lia
  have ev:vs=vs.take m++V.ref c::vs.drop (m+1):=by
   have e1:vs=vs.take m++vs.drop m:=(aaA _ _).symm;rw[aai Pl]at e1;have:vs[m]=V.ref c:=by
    have:=Y2 Pl;rw[g1]at this;exact(Zt this).symm
   rwa [this]at e1
  refine⟨A1++((c::B')++A3),?_,ZL.mpr ⟨zG,ZL.mpr ⟨ZD.mpr ⟨λz=>rF c z rfl,n'⟩,Nd,λx hx y hy=>?_⟩,λx hx y hy z=>?_⟩,λx hx=>?_⟩
  ·rw[abA,if_pos Xp];have q:a9 P w (upd H c (.lst xi)) (ds.take m++.lst fk::ds.drop (m+1)) (vs.take m++.ref c::vs.drop (m+1)) (A1++((c::B')++A3)) :=
    (g3.keep kt λx hx oc ec=>by rw[ay (n1 x hx)];exact ec).append ⟨.ref c,_,c::B',A3,rfl,rfl,⟨c,xi,B',rfl,aE,rfl,o'.keep kt λx hx oc ec=>by rw[ay (rF x hx)];exact ec⟩,g5.keep kt λx hx oc ec=>by rw[ay (n3 x hx)];exact ec⟩
   rw[<- ev]at q;exact q
  ·intro z;subst z;rcases Y4.mp hx with rfl|hx
   ·exact n3 _ hy rfl
   ·exact(off x hx).2 hy
  ·subst z;rcases Zb.mp hy with hy|hy
   ·rcases Y4.mp hy with rfl|hy
    ·exact n1 _ hx rfl
    ·exact(off x hy).1 hx
   ·exact Et x hx x (by simp[hy]) rfl
  ·rcases Zb.mp hx with hx|hx
   ·exact .inl (by simp[hx])
   ·rcases Zb.mp hx with hx|hx
    ·rcases Y4.mp hx with rfl|hx
     ·exact .inl (by simp)
     ·exact .inr hx
    ·exact .inl (by simp[hx])
 cases l with
 |true =>
  obtain⟨a,vs,A',rfl,h2,rfl,h4⟩:=r;obtain⟨na,O9⟩:=ZD.mp nd;obtain⟨c,us,B,q1,q2,q3,q4,q5,q6,q7⟩:=core O9 h4;have ca:c≠a:=λz=>na (by rw[<- z];exact q3)
  refine⟨a,vs,c,us,B,rfl,h2,h4.length,q1,q2,by simp[q3],q4,λx hx=>⟨by simp[(q5 x hx).1],(q5 x hx).2⟩,q6,λfk xi B' o' n' sg rF=>?_⟩
  obtain⟨A2,g1,g2,g3⟩:=q7 fk xi B' o' n' (λx hx=>(sg x hx).imp id λz q=>z (by simp[q])) rF
  refine⟨a::A2,⟨a,vs,A2,rfl,by rw[ay ca.symm];exact h2,rfl,g1⟩,ZD.mpr ⟨λz=>?_,g2⟩,λx hx=>?_⟩
  ·rcases g3 a z with z|z
   ·exact na z
   ·rcases sg a z with z|z
    ·exact na (q5 a z).1
    ·exact z (by simp)
  ·rcases Y4.mp hx with rfl|hx
   ·exact .inl (by simp)
   ·exact(g3 x hx).imp (λz=>by simp[z]) id
 |false =>
  obtain⟨a,vs,rfl,h2,h4⟩:=r;obtain⟨c,us,B,q1,q2,q3,q4,q5,q6,q7⟩:=core nd h4;have ca:a≠c:=λz=>by rw[z,q2]at h2;cases h2
  refine⟨a,vs,c,us,B,rfl,h2,h4.length,q1,q2,q3,q4,q5,q6,λfk xi B' o' n' sg rF=>?_⟩;obtain⟨A2,g1,g2,g3⟩:=q7 fk xi B' o' n' sg rF;exact⟨A2,⟨a,vs,rfl,by rw[ay ca];exact h2,g1⟩,g2,g3⟩
end
section
variable {X:Cx}{C:Cfg}{e k:Expr}{φ φk:aR}{i:Nat}{x:Str}{pos px kp ap cp:Pos}
theorem lq (l:Bool)(he:∀U,PQ X (C.u U) true e φ)(hk:∀U,PQ X (C.u U) true k φk)(hn:Nm X i x:=by exact JV)
  (Xs:rY k:=by exact λ_ _=>rfl)
  (eM:aa0 (.Subscript (.Name x px) k kp) "append" X.env (eval (.Subscript (.Name x px) k kp) X.env)=eval (.Subscript (.Name x px) k kp) X.env:=by rfl)
  (nN:((aaw cp (Ze [e] X.env)).all (λx=>!x.1)&&(backToKw cp (ack [] X.env)).all (λx=>x.1.isSome)&&decide ([e].length+([]:List abQ).length+(if ([]:List abQ).isEmpty then 0 else 1)<30))=true:=by rfl)
  (eL:(ap.endLine==cp.line)=true:=by rfl) (hs:Ze [e] X.env=(false,eval e X.env)::Ze [] X.env:=by rfl) (f9:(aaw cp (Ze [] X.env)).any (·.1)=false:=by rfl)
  (yi:abx (.Call (.Attribute (.Subscript (.Name x px) k kp) "append" ap) [e] [] cp) none pos.line X.env=pure false:=by rfl) :
  PB X C (.Expr (.Call (.Attribute (.Subscript (.Name x px) k kp) "append" ap) [e] [] cp) pos) (λE β=>(∃d0,β[i]?=some (some (.own d0)))/\φk β λjd _ β1=>∃ds j m es,jd=.int j/\β1[i]?=some (some (.own (Nr l ds)))/\ud ds.length j=some m/\ds[m]?=some (.lst es)/\φ β1 λd kd β2=>F5 kd d/\β2[i]?=some (some (.own (Nr l ds)))/\es.length<Zf/\E.nx (β2.set i (some (.own (Nr l (ds.set m (.lst (es++[d]))))))) ):=by
 refine⟨λE E' β l lQ=>by obtain⟨q0,q⟩:=lQ;exact⟨q0,(hk λ_=>False).mono _ _ _ (λjd _ β1 rD=>by obtain⟨ds,j,m,es,h1,h2,h3,h4,q⟩:=rD;exact⟨ds,j,m,es,h1,h2,h3,h4,(he λ_=>False).mono _ _ _ (λd kd β2 uj=>by obtain⟨g1,g2,g3,q⟩:=uj;exact⟨g1,g2,g3,l.nx _ q⟩) q⟩) q⟩,λpins s σ H De I kP=>?_⟩
 obtain⟨Z,E,β,⟨own,sq,n⟩,⟨⟨d0,Xz⟩,q⟩,ok⟩:=kP;have ix:Hc X (λx y H Q=>MJ X.K x y H Q\/MI X.K x y H Q):=λvalue slice pins s σ H x y v u Q I rx ry h hs=>h.elim (λh=>yd value slice pins s σ H x y v u Q I rx ry h hs) λh=>CK value slice pins s σ H x y v u Q I rx ry h hs;refine qY (pos:=pos) (tI (apos:=ap) (cpos:=cp) PySem.F.plainAttrs_list PySem.F.slot_list_append PySem.F.type_list_append kq (Hr (pos:=kp) ix (mU (pos:=px) hn) (hk λa=>H a=none).pe Xs) (cT (he λa=>H a=none).pe fW hs) eM nN eL hs f9) yi pins s σ H De I ?_;have V_:=sq.pB (C:=C.z) (U:=λa=>H a=none) λa z=>z;obtain⟨v0,Pe,_,_⟩:=sq.ow i d0 Xz;refine⟨v0,Pe,tQ.of (hk λa=>H a=none) V_ q λjd kk β1 kv H1 aC ui o r=>?_⟩;obtain⟨ds,j,m,es,e1,hb,hj,hm,q⟩:=ui;subst e1;cases r.rep;obtain⟨v,i5,ow,h0⟩:=o.sq.ow i _ hb;rw[Pe]at i5;cases i5;obtain⟨a,vs,c,us,B,rfl,q1,q2,q3,q4,q5,q6,q7,q8,q9⟩:=tN ow (o.sq.pS i) hm;have VH:l6 vs j=some (.ref c):=by unfold l6;rw[q2,hj];exact q3
 have UQ:OW X.K "list" (.ref c) H1/\Hi (tQ X (C.u λa=>H a=none) true φ) Mv σ H1 λxs H2=>xF (.ref c) xs H2 λ_ H1=>De.nx σ H1:=by
  refine⟨.inl ⟨rfl,us,dC.of q4⟩,tQ.of (he λa=>H a=none) o.sq q λd kd β2 v2 H2 bg CS o2 r2=>?_⟩;obtain⟨f,Vu,hl,q⟩:=CS;obtain⟨s2,e2⟩:=o2.pu rfl;obtain⟨v',U_,WC,YR⟩:=o2.sq.ow i _ Vu;rw[Pe]at U_;cases U_;obtain⟨a',vs',c',xi,B',ea,p1,p2,p3,p4,p5,p6,p7,p8,p9⟩:=tN WC (o2.sq.pS i) hm;cases ea;have e3:=s2 _ _ q1;rw[p1]at e3;have ev:vs'=vs:=by cases l <;> (cases e3;rfl)
  subst ev;rw[q3]at p3;cases p3;have e4:=s2 _ _ q4;rw[p4]at e4;cases e4;obtain⟨A,r1,rn,r3⟩:=r2.fl f;have JR:∀x∈A,x∉bg i:=λx hx z=>(r3 x hx).2.1 ⟨i,z⟩;obtain⟨A',g1,g2,g3⟩:=p9 (es++[d]) (us++[v2]) (B'++A) (p6.append (a9.one r1)) (ZL.mpr ⟨p8,rn,λx hx y hy z=>JR y hy (by rw[<- z];exact(p7 x hx).1)⟩)
   (λx hx=>(Zb.mp hx).imp id (JR x)) (λx hx z=>by
    rcases Zb.mp hx with hx|hx
    ·exact(p7 x hx).2 z
    ·exact JR x hx (by rw[z];exact p5))
  have hA:∀x∈A',x∈bg i\/(C.H0 x=none/\¬ Wn bg x/\H x=none):=λx hx=>by
   rcases g3 x hx with z|z
   ·exact .inl z
   ·rcases Zb.mp z with z|z
    ·exact .inl (p7 x z).1
    ·exact .inr ⟨(r3 x z).2.2,(r3 x z).2.1,o.sn.free (r3 x z).1⟩
  exact⟨c,us,v2,rfl,rfl,p4,by rw[p6.length];exact hl,ok.nx _ _ _ ⟨_,o2.sq.putIn (C:=C) (U:=λa=>H a=none) Vu Pe p5 g1 g2 hA,vO ((n.trans o.sn).trans o2.sn) (λb z=>n.free z) ⟨i,p5⟩ ⟨_,p4,λxs z=>by cases z⟩ hA⟩ q⟩
 cases l with
 |true=>exact .inl ⟨a,vs,j,.ref c,rfl,rfl,dC.of q1,VH,UQ⟩
 |false=>exact .inr ⟨a,vs,j,.ref c,rfl,rfl,su.of q1,VH,UQ⟩
end
end L2.Q
namespace L2
open PySem PySem.Spec PySem.SeqAt PyProof.Rows
theorem Pc {b:Bool}{p q:Prop}(h1:b=true->p)(h2:b=false->q):(if b=true then p else q):=by
 cases b
 ·exact dI rfl (h2 rfl)
 ·exact nK rfl (h1 rfl)
def rR (a b c d:Int):Bool:=(decide (a<c)&&(decide (c<b)&&decide (b<d))) || (decide (c<a)&&(decide (a<d)&&decide (d<b)))
def da:List Int->List Int->Bool
 |[a,b],[c,d]=>rR a b c d
 |_,_=>false
def Pair (t:List Int):Prop:=∃a b,t=[a,b]
theorem AA.pair {n:Int}{t:List Int}(h:AA n t):Pair t:=let ⟨a,b,e,_⟩:=h;⟨a,b,e⟩
def n6:FD:=λds R=>∃t u,ds=[kD t,kD u]/\Pair t/\Pair u/\R (.bl (da t u))
theorem n6.mono:cN n6:=λds R R' k i5=>by obtain⟨t,u,e,h1,h2,q⟩:=i5;exact⟨t,u,e,h1,h2,k _ q⟩
def cZ (t u:List Int):Bool:=t.any λi=>decide (i∈u)
def nQ:FD:=λds R=>∃t u,ds=[kD t,kD u]/\Pair t/\R (.bl (cZ t u))
theorem nQ.mono:cN nQ:=λds R R' k zT=>by obtain⟨t,u,e,h1,q⟩:=zT;exact⟨t,u,e,h1,k _ q⟩
abbrev Flt:=Option (Str×List Nat)
def K5:Flt->D
 |none=>.b_
 |some (s,ks)=>.tup (.str s::ks.map λ(k:Nat)=>D.int (k:Int))
def sr (ts:List (List Int))(p:List Int->Bool)(j:Nat):Bool:=match ts[j]? with|some u=>p u|none=>false
noncomputable def jJ (rows ts:List (List Int))(k:Nat)(t:List Int):Flt:=if t∈rows then
   (if decide (0<k)&&sr ts (λu=>!HT.lexLt u t) (k-1) then some ("order",[k]) else
    match (Zi k).find? (sr ts λu=>cZ u t)with
    |some j=>some ("twice",[j,k])
    |none=>match (Zi k).find? (sr ts λu=>da u t)with
      |some j=>some ("cross",[j,k])
      |none=>none)
  else some ("none",[k])
def iT (rows ts:List (List Int))(k:Nat):Flt:=match ts[k]? with
 |none=>none
 |some t=>jJ rows ts k t
theorem kS {rows ts:List (List Int)}{k:Nat}{t:List Int}(h:ts[k]?=some t):iT rows ts k=jJ rows ts k t:=by unfold iT;rw[h]
def iR (rows ts:List (List Int)):Flt:=(Zi ts.length).findSome? (iT rows ts)
theorem iS {p:Nat->Bool}{j:Nat}:∀{k:Nat},j<k->p j=true->(∀i<j,p i=false)->(Zi k).find? p=some j
 |0,h,_,_=>by lia
 |k+1,h,hp,hb=>by
  rw[abX,List.find?_append]
  by_cases hj:j<k
  ·rw[iS hj hp hb];rfl
  ·have e:j=k:=by lia
   subst e;have:(Zi j).find? p=none:=List.find?_eq_none.mpr λi hi=>by simp[hb i (ZJ.mp hi)]
   rw[this];simp[hp]
theorem find_none {p:Nat->Bool}{k:Nat}(h:∀i<k,p i=false):(Zi k).find? p=none:=List.find?_eq_none.mpr λi hi=>by simp[h i (ZJ.mp hi)]
theorem uv {f:Nat->Flt}{j:Nat}{x:Str×List Nat}:∀{k:Nat},j<k->f j=some x->(∀i<j,f i=none)->(Zi k).findSome? f=some x
 |0,h,_,_=>by lia
 |k+1,h,hp,hb=>by
  rw[abX,List.findSome?_append]
  by_cases hj:j<k
  ·rw[uv hj hp hb];rfl
  ·have e:j=k:=by lia
   subst e;have:(Zi j).findSome? f=none:=acb.mpr λi hi=>hb i (ZJ.mp hi);rw[this];simp[hp]
theorem Gw {f:Nat->Flt}{k:Nat}(h:∀i<k,f i=none):(Zi k).findSome? f=none:=acb.mpr λi hi=>h i (ZJ.mp hi)
def Pairs (ts:List (List Int)):Prop:=∀t∈ts,Pair t
def nY:FD:=λds R=>∃(n:Int) (rows ts:List (List Int)) (k:Nat),ds=[.tup [.int n,.lst (rows.map kD)],.lst (ts.map kD),.int k]/\k<ts.length/\Pairs ts/\k<2 ^ 60/\R (K5 (iT rows ts k))
theorem nY.mono:cN nY:=λds R R' k RU=>by obtain⟨n,rows,ts,j,e,h1,h2,h3,q⟩:=RU;exact⟨n,rows,ts,j,e,h1,h2,h3,k _ q⟩
def nX:FD:=λds R=>∃(n:Int) (rows ts:List (List Int)),ds=[.tup [.int n,.lst (rows.map kD)],.lst (ts.map kD)]/\ts.length<=100000/\Pairs ts/\R (K5 (iR rows ts))
theorem nX.mono:cN nX:=λds R R' k RT=>by obtain⟨n,rows,ts,e,h1,h2,q⟩:=RT;exact⟨n,rows,ts,e,h1,h2,k _ q⟩
def iU:FD:=λds R=>∃(n:Int) (rows ts:List (List Int)),ds=[.tup [.int n,.lst (rows.map kD)],.lst (ts.map kD)]/\ts.length<=100000/\Pairs ts/\R (.bl (decide (iR rows ts=none)))
theorem iU.mono:cN iU:=λds R R' k ND=>by obtain⟨n,rows,ts,e,h1,h2,q⟩:=ND;exact⟨n,rows,ts,e,h1,h2,k _ q⟩
theorem pV:∀t u:List Int,LL.lexLe t u=!HT.lexLt u t
 |[],[]=>rfl
 |[],_::_=>rfl
 |_::_,[]=>rfl
 |x::xs,y::ys=>by
  show (if x=y then LL.lexLe xs ys else decide (x<=y))=!(if y=x then HT.lexLt ys xs else decide (y<x))
  by_cases h:x=y
  ·rw[if_pos h,if_pos h.symm,pV xs ys]
  ·rw[if_neg h,if_neg (abP h)]
   by_cases h2:x<=y
   ·have:¬ y<x:=by lia
    simp[h2,this]
   ·have:y<x:=by lia
    simp[h2,this]
theorem GJ (t u:List Int):Oz (kD t) (kD u)=some (.bl (!HT.lexLt u t)):=by
 show (match dG (t.map D.int),dG (u.map D.int)with|some ns,some ms=>some (D.bl (LL.lexLe ns ms))|_,_=>none)=_
 rw[ia,ia];show some (D.bl (LL.lexLe t u))=_;rw[pV]
theorem Dk:∀f:Flt,(K5 f).flat=true
 |none=>rfl
 |some (s,ks)=>by
  show (D.flat (.str s)&&D.bP (ks.map λ(k:Nat)=>D.int (k:Int)))=true;have:D.bP (ks.map λ(k:Nat)=>D.int (k:Int))=true:=uB (T:=λ_=>True) λd hd=>by
   obtain⟨k,_,rfl⟩:=ZE.mp hd;exact⟨trivial,rfl⟩
  rw[this];rfl
theorem iX {ts:List (List Int)}{k:Nat}{t:List Int}(h:ts[k]?=some t):yD (.lst (ts.map kD)) (.int (k:Int))=some (kD t):=GL (by rw[Zj,h];rfl)
structure Bs2 (mg:Str->Option YU):Prop extends Bs mg where
 zS:mg "isinstance" = none
 tuple:mg "tuple" = none
 str:mg "str" = none
 bool:mg "bool" = none
 zip:mg "zip" = none
 enumerate:mg "enumerate" = none
theorem w9:ZY "str" = some (.type "str"):=by decide +kernel
theorem j5 (x:Str)(h:ab6 x=true):(D.str x).pd.canLay0=true/\(D.str x).pd.depth<=1:=⟨by simp[D.pd,Z9,h],by simp[D.pd,aax]⟩
theorem uV {d:D}{n:Nat}(h:d.pd.canLay0=true/\d.pd.depth<=n)(hn:n<=64:=by decide):yF d d=some (.bl true):=wQ (bh h hn) (bh h hn) (eqv_refl _ h.1)
theorem fG {d:D}{n:Nat}(h:d.pd.canLay0=true/\d.pd.depth<=n)(hn:n<=64:=by decide):oK d d=some (.bl false):=oq (bh h hn) (bh h hn) (eqv_refl _ h.1)
end L2
namespace L2.Q
open PySem PySem.Spec PySem.SeqAt PyProof.Rows
structure Ej (X:Cx)(C:Cfg)(p:Bool)(ifs:List Expr)(τ:bt):Prop where
 mono:∀β R R',(∀d β,R d β->R' d β)->τ β R->τ β R'
 pt:xf X ifs (oF X C p τ)
theorem cO {X:Cx}{C:Cfg}:Ej X C true [] Mp:=⟨λ_ _ _ k h=>k _ _ h,Bu⟩
theorem vH {X:Cx}{C:Cfg}{p:Bool}{c:Expr}{τ:bt}(h:vz X C p c τ):Ej X C p [c] τ:=⟨h.mono,Bt h⟩
section
variable {X:Cx}{C:Cfg}{lk:List (Option Nat)}{γ:eV}{τ:bt}{φ:aR}{T:List Nat}{pc pe pi:Bool}{scope:abz}{N':List Str}{tg gJ elt:Expr}{ifs:List Expr}{ι:gR}{pos:Pos}{y:Str}{i:Nat}
theorem Wh (hu:X.A.units+16<abk)(N':List Str)(lk:List (Option Nat))(L:ny X.env.scope.names X.N scope N' lk=true)(EB:N'.Nodup)(hc:X.calm=true)(hi:G_ X C pi tg gJ ι)
  (Ex:∀U cl c s H ex,EF (a8 X scope N' cl c s H ex) (C.u U) tg T γ) (Aw:∀U cl c s H ex,Ej (a8 X scope N' cl c s H ex) (C.u U) pc ifs τ) (um:∀U cl c s H ex,PQ (a8 X scope N' cl c s H ex) (C.u U) pe elt φ)
  (hT:T.all (λi=>match lk[i]? with|some (some _)=>false|_=>true)=true:=by rfl) (hs:∀x,aav gJ X.env x=pure x:=by intro _;rfl):PQ X C (pi&&(pc&&pe)) (.SetComp elt [⟨tg,gJ,ifs,0⟩] scope pos) (Bl lk ι γ τ φ) :=
 MW hu (Links.of L) EB hT hc hi (λa=>Ex _) (λa cl c s H ex=>(Aw _ cl c s H ex).pt) (Aw (λ_=>False) [] 0 X.s₀ X.H₀ []).mono (λa=>um _) (Ex (λ_=>False) [] 0 X.s₀ X.H₀ []).mono (um (λ_=>False) [] 0 X.s₀ X.H₀ []).mono hs
theorem bN:Hc X (Bj X yD NF):=λvalue slice pins s σ H x y v u Q I rx ry i5 hs=>by
 obtain⟨W,d1,d2,d,hd,r1,r2,e,q⟩:=i5;exact Kb value slice pins s σ H x y v u Q I rx ry ⟨W,d1,d2,d,hd,r1,r2,e,λv H' s r=>q v H' s r λf=>aF.flat f r⟩ hs
end
section
end
theorem Ah (ns:List Int)(lo hi:Option Int):∃ms:List Int,uZ (ns.map V.int) lo hi=ms.map V.int/\ms.length<=ns.length:=by
 refine⟨(ns.drop (HT.mM (ns.map V.int).length 0 lo)).take (HT.mM (ns.map V.int).length (ns.map V.int).length hi-HT.mM (ns.map V.int).length 0 lo),?_,?_⟩
 ·unfold uZ;rw[List.map_take,List.map_drop]
 ·rw[ZH,aaW];lia
section
variable {P:Y0}{w:Zd}
theorem cf {W:Addr->Prop}{H:Hp}:∀ns:List Int,ao P w W H (ns.map D.int) (ns.map V.int)
 |[]=>rfl
 |n::ns=>⟨_,_,rfl,rfl,cf ns⟩
theorem EU {N:List Str}{vs:List V}{H H':Hp}{n:Nat}{ro:Bool}{U:Addr->Prop}(hl:(L2.start N vs).length=n)(sm:aD H H'):cD P w ⟨H,λ_=>False,ro,U⟩ (L2.start N vs) H' (ZP n none) (λ_=>[]) :=
 ⟨by rw[hl,List.length_replicate],λi y d h=>(gD h).elim,λi d h=>(gD h).elim,λi ok h=>(gD h).elim,λi a h=>(nomatch h),λi j a h=>(nomatch h),λi=>Z7,sm.kp,λa z e=>z (sm.free e),λi y d h=>(gD h).elim⟩
theorem MG {ro:Bool}{H H':Hp}{b:Bool}{v:V}(h:vj P w ro H H' (.bl b) v):v=.bl b:=by
 cases ro with
 |true=>obtain⟨A,h1,_⟩:=h;exact h1.1
 |false=>exact h
end
end L2.Q
namespace L2
open PySem PySem.Spec PySem.SeqAt PyProof.Rows
abbrev iL (n:Int)(rows:List (List Int)):D:=.tup [.int n,.lst (rows.map kD)]
theorem pI (n:Int)(rows:List (List Int)):(iL n rows).pd.canLay0=true/\(iL n rows).pd.depth<=4:=pH λd hd=>by
 rcases Y4.mp hd with rfl|hd
 ·exact⟨(bW n).1,ZO (bW n).2 (by decide)⟩
 ·rw[Y1.mp hd];exact cE rows
theorem c_ {us vs:List (List Int)}(h:us.length+vs.length<=1000000):ph (.lst (us.map kD)) (.lst (vs.map kD))=some (.lst ((us++vs).map kD)):=by
 show (if (us.map kD).length+(vs.map kD).length<=Zf then some (D.lst (us.map kD++vs.map kD)) else none)=_
 rw[if_pos (by rw[YX,YX,Zw];lia),aar]
theorem Pairs.ne {ts:List (List Int)}(h:Pairs ts):∀k∈ts,k≠[]:=λk hk=>by
 obtain⟨a,b,rfl⟩:=h k hk;intro z;cases z
end L2
namespace L2.Q
open PySem PySem.Spec PySem.SeqAt PyProof.Rows
theorem DQ {β:ba}{i j k l:Nat}{y1 y2 y3 y4:Bool}{a b c d:Int}{R:D->Kd->ba->Prop}(h1:β[i]?=some (some (.val y1 (.int a))))(h2:β[j]?=some (some (.val y2 (.int b))))(h3:β[k]?=some (some (.val y3 (.int c))))(h4:β[l]?=some (some (.val y4 (.int d))))
  (q:R (.bl (decide (a<b)&&(decide (b<c)&&decide (c<d)))) .own β):mQ (zk i) (Bn Ma (zk j) (Bn Ma (zk k) (Fb Ma (zk l)))) β R:=by
 refine⟨_,h1,_,h2,_,rfl,i4 (λz1=>⟨_,h3,_,rfl,i4 (λz2=>⟨_,h4,_,rfl,?_⟩) (λz2=>?_)⟩) (λz1=>?_)⟩
 ·simpa[z1,z2] using q
 ·simpa[z1,z2] using q
 ·simpa[z1] using q
section
variable {X:Cx}{C:Cfg}{r_:List Expr}{γs:lJ}{T:List Nat}{pos p2 p3 p4:Pos}{e a:Expr}{φ:aR}{p:Bool}
theorem Jm {es:List Expr}{k:Nat}{t:G7}{n:Nat}(hc:X.calm=true)(h:Ha X es t)
  (hn:(aac es X.env).length=n:=by rfl) (lP:(aac es X.env).findIdx? (·.1)=none:=by rfl):PG X (.Tuple es k pos) (λv σ H Q=>∃a xs,v=.ref a/\dC X.K H a xs/\xs.length=n/\t xs σ H Q):=by
 intro pins s σ H v u Q I r hw;obtain⟨a,xs,e1,hq,hl,hw⟩:=hw;subst e1;cases r;obtain⟨its,rv,⟨o,m,ho,Ez,hd,Xy⟩,hz⟩:=I.list hq;have hL:s.heap.IsList a its.toArray:=⟨o,ho,Ez,m,Xy⟩;rw[assign_Tuple];refine YV (aaT ?_);unfold unpack;rw[hn,lP,show n=its.toArray.size by simp[<- hl,rv.length]]
 refine YV (ZW (PySem.W.kun_itemsOf (I.ok.hd hc) hL λh' hx=>?_));have I1:Inv X pins σ H {s with heap:=h'}:=I.kept (t':=s.toks) λb o e=>hx b o (Zu (Za e)) e
 exact h pins _ σ H xs _ Q I1 (by simpa using rv) hw
def XT (n:Nat)(γs:lJ):eV:=λd k β R=>∃ds,d=.lst ds/\ds.length=n/\γs ds k β R
theorem Fs {k:Nat}{n:Nat}(hc:X.calm=true)(h:Ek X C r_ T γs)(hn:(aac r_ X.env).length=n:=by rfl)(lP:(aac r_ X.env).findIdx? (·.1)=none:=by rfl):EF X C (.Tuple r_ k pos) T (XT n γs) :=
 ⟨λd k β R R' hh lQ=>by obtain⟨ds,e,l,q⟩:=lQ;exact⟨ds,e,l,h.mono ds k β _ _ hh q⟩,(Jm hc h.QI hn lP).pre λv σ H Q rD=>by
  obtain⟨own,β,d,k,s,r,ds,e,l,q⟩:=rD;subst e;obtain⟨a,vs,rfl,ha,_,rs⟩:=r;exact⟨a,vs,rfl,dC.of ha,by rw[rs.length];exact l,own,β,ds,k,s,rs,q⟩⟩
def QC (φ:aR):aR:=λβ R=>φ β λx k β1=>∃d,Ou x=some d/\kN NL d k.wk λk'=>R d k' β1
theorem Bx {j:Nat}(ha:PQ X C p a φ):PQ X C p (.Subscript a (.Slice none none (some (.UnaryOp .USub (.Constant (.int 1) j p3) p4)) p2) pos) (QC φ) :=
 ⟨λβ R R' k h=>ha.mono β _ _ (λx kx β1 uj=>by obtain⟨d,e,q⟩:=uj;exact⟨d,e,q.mono λ_ z=>k _ _ _ z⟩) h,
  (Jn ha.pe).pre λσ H Q i5=>by
    obtain⟨β,own,s,h⟩:=i5;exact tQ.of ha s h λd k β1 v H1 aC KH o1 r1=>by
      obtain⟨d',e,q⟩:=KH;have rr:=aF.bb DW r1.rep
      match d,e with
      |.lst ds,e =>
        cases e;obtain⟨c,vs,rfl,h1,n1,rs⟩:=rr;refine .inl ⟨c,vs,rfl,h1,λp hp=>?_⟩;have sm:aD H1 (upd H1 p (.lst vs.reverse)):=aD.new hp;have hw:¬ av C (Wn aC) k.wk p:=λz=>o1.sq.Dx _ p z hp;have r2:aF X.prog X.w (av C (Wn aC) k.wk) (upd H1 p (.lst vs.reverse)) (.lst ds.reverse) (.ref p):=⟨p,_,rfl,aE,hw,(ao.rev rs).same sm⟩;obtain⟨k',q,r⟩:=KV.kN (Z:=(H,Wn own)) Hg r2 (λn=>h8 (H:=H1) o1.sq.vy o1.sq.iW (λa z e=>o1.sn.d a z e) n ⟨p,_,rfl,aE,λz=>z hp,ao.flat n ((ao.rev rs).same sm)⟩) q;exact q _ _ aC (o1.same sm) r
      |.tup ds,e =>
        cases e;obtain⟨c,vs,rfl,h1,rs⟩:=rr;refine .inr ⟨c,vs,rfl,h1,λp hp=>?_⟩;have sm:aD H1 (upd H1 p (.tup vs.reverse)):=aD.new hp;exact q _ _ aC (o1.same sm) (by
          have r2:aF X.prog X.w (av C (Wn aC) k.wk) (upd H1 p (.tup vs.reverse)) (.tup ds.reverse) (.ref p):=⟨p,_,rfl,aE,(ao.rev rs).same sm⟩;cases k <;> exact r2)⟩
end
end L2.Q
namespace L2
open PySem PySem.Spec PySem.SeqAt PyProof.Rows
def D.int?:D->Option Int
 |.int i=>some i
 |_=>none
def D.zJ:D->Option (List D)
 |.lst ds=>some ds
 |_=>none
theorem D.yg {d:D}{i:Int}(h:d.int?=some i):d=.int i:=by
 cases d <;> first|(cases h;rfl)|cases h
theorem D.rA {d:D}{ds:List D}(h:d.zJ=some ds):d=.lst ds:=by
 cases d <;> first|(cases h;rfl)|cases h
section
end
end L2
namespace L2.Q
open PySem PySem.Spec PySem.SeqAt PyProof.Rows
section
end
structure SC (X:Cx)(C:Cfg)(W0:Addr->Prop)(T:List Nat)(σ0:St)(H1:Hp)(a:Addr)(Hb:Hp)(Wb:Addr->Prop)(Ac:Hp->Prop)(β:ba)(σ':St)(H':Hp)(own:Nat->List Addr):Prop where
 sq:SQ X (C.u λc=>c=a) σ' H' β own
 sn:Sn (H1,W0) H' (Wn own)
 le:∀c,Wn own c->Wb c
 ac:Ac H'
 pu:aD H1 H'
 bs:∀b ob,b≠a->Hb b=some ob->H' b=some ob
 st:∀j,j∉T->σ'[j]?=σ0[j]?
abbrev Eg {α:Type}(X:Cx)(C:Cfg)(W0:Addr->Prop)(T:List Nat)(σ0:St)(H1:Hp)(a:Addr)(Hb:Hp)(Wb:Addr->Prop)(Ac:α->Hp->Prop)(β:ba)(o:α)(σ':St)(H':Hp):Prop:=∃own,SC X C W0 T σ0 H1 a Hb Wb (Ac o) β σ' H' own
structure He {α:Type}(a:Addr)(Ac:α->Hp->Prop):Prop where
 same:∀o H H',aD H H'->Ac o H->Ac o H'
 US:∀o H xs,Ac o H->H a≠some (.tup xs)
abbrev Mo (X:Cx)(C:Cfg)(a:Addr)(T:List Nat)(γ:eV):TG:=λv σ H Q=>∃own β d k,SQ X (C.u λc=>c=a) σ H β own/\Rp X (jT (C.u λc=>c=a) (Wn own) k) H d v/\γ d k β λβ'=>∀σ' aU,SQ X (C.u λc=>c=a) σ' H β' aU->(∀a,Wn aU a->Wn own a)->(∀j,j∉T->σ'[j]?=σ[j]?)->Q σ' H
abbrev OY (X:Cx)(C:Cfg)(a:Addr)(φ:aR):pz:=λN σ H=>tQ X (C.u λc=>c=a) true φ σ H λv H1=>∃xs,H1 a=some (.lst xs)/\xs.length<Zf/\N σ (upd H1 a (.lst (xs++[v])))
section
variable {α:Type}{X:Cx}{C:Cfg}{W0:Addr->Prop}{T Tg:List Nat}{σ0:St}{H1:Hp}{a:Addr}{Hb:Hp}{Wb:Addr->Prop}{γ:eV}{τ:bt}{φ:aR}{Ac:α->Hp->Prop}
theorem SC.next {o:α}(hA:He a Ac){β β':ba}{σ σ':St}{H H':Hp}{own aU:Nat->List Addr}(s:SC X C W0 T σ0 H1 a Hb Wb (Ac o) β σ H own)(sq:SQ X (C.u λc=>c=a) σ' H' β' aU)(w:∀c,Wn aU c->Wn own c)(sm:aD H H')(t:∀j,j∉T->σ'[j]?=σ[j]?):
  SC X C W0 T σ0 H1 a Hb Wb (Ac o) β' σ' H' aU :=
 ⟨sq,ji (s.sn.same sm) w,λc z=>s.le c (w c z),hA.same o _ _ sm s.ac,s.pu.trans sm,λb ob n e=>sm _ _ (s.bs b ob n e),λj hj=>(t j hj).trans (s.st j hj)⟩
theorem SC.put {A:Hp->Prop}{A':Hp->Prop}(h0:C.H0 a=none)(ha:H1 a=none){β:ba}{σ:St}{H:Hp}{own:Nat->List Addr}{oa ob:HO}(s:SC X C W0 T σ0 H1 a Hb Wb A β σ H own)(e:H a=some oa)(nt:∀xs,oa≠.tup xs)(q:A' (upd H a ob)):
  SC X C W0 T σ0 H1 a Hb Wb A' β σ (upd H a ob) own:=by
 refine⟨s.sq.IV e nt h0,⟨s.sn.w,s.sn.k.trans ((nC e nt).mono λb z=>.inr (by rw[z];exact ha)),λb z e=>?_⟩,s.le,q,λb o e=>?_,λb o n e=>?_,s.st⟩
 ·by_cases hb:b=a
  ·rw[hb,aE]at e;cases e
  ·rw[ay hb]at e;exact s.sn.d b z e
 ·rw[ay (λz'=>by rw[z',ha]at e;cases e)]
  exact s.pu b o e
 ·rw[ay n];exact s.bs b o n e
def PZ (P:Y0)(w:Zd)(H1:Hp)(a:Addr)(o:List D)(H:Hp):Prop:=∃vs A,H a=some (.lst vs)/\a9 P w H o vs A/\A.Nodup/\∀c∈A,H1 c=none/\c≠a
theorem Ee {P:Y0}{w:Zd}:He a (PZ P w H1 a):=⟨λo H H' s h=>by
  obtain⟨vs,A,h1,h2,h3,h4⟩:=h;exact⟨vs,A,s _ _ h1,h2.keep (λb xs e=>s _ _ e) λc _ oc e=>s _ _ e,h3,h4⟩,λo H xs h z=>by
  obtain⟨vs,A,h1,_⟩:=h;rw[h1]at z;cases z⟩
def Om (φ:aR)(o:List D)(β:ba)(N:ba->List D->Prop):Prop:=φ β λx kx β3=>F5 kx x/\o.length<Zf/\N β3 (o++[x])
theorem E8 (h0:C.H0 a=none)(ha:H1 a=none)(φm:∀β R R',(∀d k β,R d k β->R' d k β)->φ β R->φ β R'){β:ba}{o:List D}{σ:St}{H:Hp}{N:ba->List D->Prop}(s:Eg X C W0 T σ0 H1 a Hb Wb (PZ X.prog X.w H1 a) β o σ H)(q:Om φ o β N):
  OY X C a φ (λσ' H'=>∃β' o',Eg X C W0 T σ0 H1 a Hb Wb (PZ X.prog X.w H1 a) β' o' σ' H'/\N β' o') σ H:=by
 obtain⟨own,s⟩:=s;refine⟨β,own,s.sq,φm _ _ _ (λxd kx β6 kP v H6 Jv o6 r6=>?_) q⟩;obtain⟨f,hz,q⟩:=kP;obtain⟨sm,rfl⟩:=o6.pu rfl;have s6:=s.next Ee (o6.sq) (λ_ z=>z) sm (λ_ _=>rfl)
 obtain⟨B',r1,r2,r3⟩:=r6.fl f;obtain⟨vs,A,at',os,nd,nw⟩:=s.ac;have uq:H6 a=some (.lst vs):=sm _ _ at';have UW:∀c∈B',c≠a:=λc hc z=>by rw[z]at hc;exact absurd (at'.symm.trans (r3 a hc).1) (λz=>(nomatch z))
 have kt:∀b xs,H6 b=some (.tup xs)->upd H6 a (.lst (vs++[v])) b=some (.tup xs):=λb xs z=>by rw[ay (λz'=>by rw[z',uq]at z;cases z)];exact z
 refine⟨vs,uq,by rw[os.length];exact hz,β6,o++[xd],⟨Jv,s6.put h0 ha uq (λxs z=>by cases z) ⟨vs++[v],A++B',aE,?_,?_,λc hc=>?_⟩⟩,q⟩
 ·exact(os.keep (λb xs e=>kt b xs (sm _ _ e)) λc hc oc e=>by rw[ay (nw c hc).2];exact sm _ _ e).append (a9.one (r1.keep kt λc hc oc e=>by rw[ay (UW c hc)];exact e))
 ·refine ZL.mpr ⟨nd,r2,λx hx y hy e=>?_⟩;subst e;exact(os.o_ x hx).1 (r3 x hy).1
 ·rcases Zb.mp hc with hc|hc
  ·exact nw c hc
  ·exact⟨s.sn.free (r3 c hc).1,UW c hc⟩
def HA {α:Type}(γ:eV)(τ:bt)(Af:α->ba->(ba->α->Prop)->Prop)(ds:List D)(k:Kd)(β0:ba)(o0:α)(F:ba->α->Prop):Prop:=∃I:Nat->ba->α->Prop,I 0 β0 o0 /\
 (∀i d β o,ds[i]?=some d->I i β o->γ d (sk k d) β λβ1=>τ β1 λt β2=>if t=true then Af o β2 (I (i+1)) else I (i+1) β2 o)/\∀β o,I ds.length β o->F β o
theorem E7 (hA:He a Ac)(hT:∀j∈Tg,j∈T)(γm:∀d k β R R',(∀r,R r->R' r)->γ d k β R->γ d k β R')(τm:∀β R R',(∀d β,R d β->R' d β)->τ β R->τ β R'){J:It}{ds:List D}{k:Kd}{Af:α->ba->(ba->α->Prop)->Prop}{ta:pz}{F:ba->α->Prop}{End:St->Hp->Prop}{β0:ba}{o0:α}{σ1:St}{Hs:Hp}
  (it:∀i β o σ' H',Eg X C W0 T σ0 H1 a Hb Wb Ac β o σ' H'->(∀d,ds[i]?=some d->J.go i H'/\∀x H3,J.Mi i H' x H3->aD H' H3/\∀own,(∀c,Wn own c->Wb c)->aF X.prog X.w (jT (C.u λc=>c=a) (Wn own) k) H3 d x)/\(ds.length<=i->J.stop i H'))
  (R9:∀β o σ' H' N,Eg X C W0 T σ0 H1 a Hb Wb Ac β o σ' H'->Af o β N->ta (λIr Em=>∃β' o',Eg X C W0 T σ0 H1 a Hb Wb Ac β' o' Ir Em/\N β' o') σ' H')
  (s0:Eg X C W0 T σ0 H1 a Hb Wb Ac β0 o0 σ1 Hs) (q:HA γ τ Af ds k β0 o0 F) (fin:∀β o σ' H',Eg X C W0 T σ0 H1 a Hb Wb Ac β o σ' H'->F β o->End σ' H') :
  iy J (Mo X C a Tg γ) (oF X (C.u λc=>c=a) true τ) ta End σ1 Hs:=by
 obtain⟨I,i0,i1,i2⟩:=q;refine⟨λi m σ' H'=>i<=ds.length/\m=ds.length-i/\∃β o,Eg X C W0 T σ0 H1 a Hb Wb Ac β o σ' H'/\I i β o,⟨_,Zm _,rfl,β0,o0,s0,i0⟩,?_⟩;rintro i m σ2 H2 ⟨hi,rfl,β,o,sE,hl⟩;obtain⟨gJ,Kf⟩:=it i β o σ2 H2 sE
 by_cases ic:i<ds.length
 ·right
  have hd:ds[i]?=some ds[i]:=Y2 ic;obtain⟨go,yl⟩:=gJ _ hd;refine⟨go,λσ' H'=>∃β' o',Eg X C W0 T σ0 H1 a Hb Wb Ac β' o' σ' H'/\I (i+1) β' o',λσ' H' h=>⟨_,by omega,ic,rfl,h⟩,λx H3 y=>?_⟩
  obtain⟨s3,r3⟩:=yl x H3 y;obtain⟨own,s⟩:=sE;refine⟨own,β,_,_,s.sq.same s3,qR (r3 own s.le),γm _ _ _ _ _ (λβ4 q σ4 tR s4 w4 t4=>?_) (i1 i _ β o hd hl)⟩;have Wi:=s.next hA s4 w4 s3 λj hj=>t4 j λz=>hj (hT j z)
  refine⟨β4,tR,s4,τm _ _ _ (λt β5 q H5 rd o5=>?_) q⟩;obtain⟨O3,rfl⟩:=o5.pu rfl;have UD:=Wi.next hA o5.sq (λ_ z=>z) O3 λ_ _=>rfl
  cases t with
  |false=>exact⟨β5,o,⟨_,UD⟩,q⟩
  |true=>exact R9 β5 o σ4 H5 _ ⟨_,UD⟩ q
 ·left
  have e:i=ds.length:=by omega
  subst e;exact⟨Kf (YY _),fin β o σ2 H2 sE (i2 β o hl)⟩
theorem Be {lk:List (Option Nat)}{σ:St}{β:ba}{own:Nat->List Addr}{oa:HO}(hA:He a Ac){Af:α->ba->(ba->α->Prop)->Prop}{ta:pz}{J:It}{ds:List D}{k:Kd}{o0:α}{K:α->Prop}{End:Hp->Prop}
  (γm:∀d k β R R',(∀r,R r->R' r)->γ d k β R->γ d k β R') (τm:∀β R R',(∀d β,R d β->R' d β)->τ β R->τ β R') (XJ:∀j∈Tg,j∈T)
  (inj:∀(i i' j:Nat),lk[i]?=some (some j)->lk[i']?=some (some j)->i=i') (hT:∀i∈T,∀j,lk[i]?≠some (some j))
  (s1:SQ X C σ H1 β own) (ha:H1 a=none) (it:EG X (av C (Wn own) k) J ds H1) (a0:Ac o0 (upd H1 a oa)) (ent:SQ X (C.u λc=>c=a) (dU lk σ) (upd H1 a oa) (dH lk β) (bA lk β own))
  (R9:∀Hb Wb β' o σ' H' N,C.H0 a=none->Eg X C (Wn (bA lk β own)) T (dU lk σ) H1 a Hb Wb Ac β' o σ' H'->Af o β' N->ta (λIr Em=>∃β' o',Eg X C (Wn (bA lk β own)) T (dU lk σ) H1 a Hb Wb Ac β' o' Ir Em/\N β' o') σ' H')
  (q:HA γ τ Af ds k (dH lk β) o0 λβf o=>gj (dH lk β) βf/\K o)
  (fin:∀o H',K o->Out X C σ H1 own true β H' own->Ac o H'->End H') :
  iy J (Mo X C a Tg γ) (oF X (C.u λc=>c=a) true τ) ta (λ_ H'=>End H') (dU lk σ) (upd H1 a oa):=by
 have h0:C.H0 a=none:=ZT λz=>s1.iW a z ha;have sm:aD H1 (upd H1 a oa):=aD.new ha;refine E7 (W0:=Wn (bA lk β own)) (T:=T) (σ0:=dU lk σ) (H1:=H1) (Hb:=H1) (Wb:=Wn (bA lk β own)) hA XJ γm τm (λi βx ox σx Hx sx=>?_) (λβx ox σx Hx Nx sx qx=>R9 _ _ _ _ _ _ _ h0 sx qx)
  ⟨bA lk β own,⟨ent,⟨λb z=>.inl z,sm.kp,λb z e=>z (sm.free e)⟩,λ_ z=>z,a0,sm,λb ob n e=>sm _ _ e,λ_ _=>rfl⟩⟩ q λβx ox σx Hx sx hx=>?_
 ·obtain⟨QK,sx⟩:=sx;have kI:Kp (λb=>av C (Wn own) k b\/H1 b=none) H1 Hx:=sx.pu.kp;obtain⟨g1,g2⟩:=it (λb=>av C (Wn own) k b\/H1 b=none) (λb z=>z) i Hx kI;refine⟨λd hd=>?_,g2⟩;obtain⟨go,yl⟩:=g1 d hd;refine⟨go,λx H3 y=>?_⟩;obtain⟨s3,r3⟩:=yl x H3 y;exact⟨s3,λaU WN=>aF.bb (λc z=>z.elim (λz=>.inl (l5 (λc z=>bO c (WN c z)) k c z)) λz=>.inr (by rw[z];exact ha)) r3⟩
 ·obtain⟨QK,sx⟩:=sx;obtain⟨hh,hK⟩:=hx;have lv:SQ X C σ Hx β own:=s1.leave sx.sq sx.sn sx.le hh λj ok i' e1 e2=>sx.st i' λz=>hT i' z j e2;exact fin ox Hx hK ⟨lv,⟨λb z=>.inl z,sx.sn.k.mono λb z=>z.imp (bO b) id,sx.sn.d⟩,λz=>⟨sx.pu,rfl⟩,λ_ z=>z⟩ sx.ac
end
theorem LG {X:Cx}{C:Cfg}{σ:St}{H1 H':Hp}{β:ba}{own:Nat->List Addr}{a:Addr}{o:List D}(s1:SQ X C σ H1 β own)(ha:H1 a=none)(h:PZ X.prog X.w H1 a o H'):KV X.prog X.w C (H1,Wn own) own H' .own (.lst o) (.ref a):=by
 obtain⟨vs,A,at',os,nd,nw⟩:=h;refine⟨a::A,⟨a,vs,A,rfl,at',rfl,os⟩,ZD.mpr ⟨λz=>(nw a z).2 rfl,nd⟩,λc hc=>?_⟩;have uo:H1 c=none:=by
  rcases Y4.mp hc with rfl|hc
  ·exact ha
  ·exact(nw c hc).1
 exact⟨uo,λh=>by obtain⟨j,hj⟩:=h;exact(s1.dm j c hj).1 uo,ZT λz=>s1.iW c z uo⟩
section
end
section
variable {X:Cx}{C:Cfg}{a:Expr}{φ:aR}{p:Bool}
def QB (φ:aR):bt:=λβ R=>φ β λd _ β'=>∃ds,d=.lst ds/\R (!ds.isEmpty) β'
theorem xG (ha:PQ X C p a φ)(he:∀whole,isTrue a X.env whole=(do let v <- whole;standAt a.pos;holding [v] (truthy v)):=by intro _;rfl):vz X C p a (QB φ) :=
 ⟨λβ R R' k h=>ha.mono β _ _ (λd kd β' h=>by obtain⟨b,e,q⟩:=h;exact⟨b,e,k _ _ q⟩) h,(Bp ha.pe he).pre λσ H Q h=>by
  obtain⟨β,own,s,h⟩:=h;refine tQ.of ha s h λd k β' v H1 aC h o1 r1=>?_;obtain⟨ds,e,q⟩:=h;subst e;obtain⟨c,vs,rfl,h1,n1,rs⟩:=r1.rep;refine⟨!ds.isEmpty,.inl ⟨vs,dC.of h1,?_⟩,q H1 aC o1⟩;have:=rs.length;cases ds <;> cases vs <;> first|rfl|cases this⟩
end
section
variable {X:Cx}{C:Cfg}{p:Bool}{e:Expr}{φ:aR}{i:Nat}{x:Str}{px tp pos:Pos}
theorem Fu {j}(he:PQ X C.z p e φ)(hn:Nm X i x:=by exact JV)
  (Pf:Ze [e,.Name x px] X.env=(false,eval e X.env)::Ze [.Name x px] X.env:=by rfl) (W_:Ze [.Name x px] X.env=(false,eval (.Name x px) X.env)::Ze [] X.env:=by rfl) :
  PB X C (.Return (some (.Tuple [e,.Name x px] j tp)) pos) (λE β=>φ β λd0 _ β1=>d0.flat=true/\∃d,β1[i]?=some (some (.own d))/\E.rt (.tup [d0,d]) β1) :=
 ⟨λE E' β l q=>he.mono _ _ _ (λd0 k β1 h=>by obtain⟨f,d,h1,q⟩:=h;exact⟨f,d,h1,l.rt _ _ q⟩) q,(vV (BJ (cT he.pe (cT (mU (pos:=px) hn) fW W_) Pf))).pre λD σ H hq=>by
  obtain⟨Z,E,β,⟨own,s,n⟩,q,ok⟩:=hq;refine tQ.of he s q λd0 k β1 v0 H1 aC h o1 r1=>?_;obtain⟨f,d,hb,q⟩:=h;obtain⟨v,e1,r,h0⟩:=o1.sq.ow i d hb;refine⟨v,e1,(by show 2<=Zf;decide),λp hp=>ok.rt _ _ _ _ _ ((o1.same (aD.new hp)).sb n) ?_ q⟩
  have sm:aD H1 (upd H1 p (.tup [v0,v])):=aD.new hp;have r':Own X.prog X.w (upd H1 p (.tup [v0,v])) d v (aC i):=r.keep (λb xs e=>sm _ _ e) (λc _ o e=>sm c o e);have oo:Own X.prog X.w (upd H1 p (.tup [v0,v])) (.tup [d0,d]) (.ref p) (aC i):=⟨p,_,rfl,aE,v0,[v],[],aC i,rfl,rfl,eF f (aF.same sm r1.rep),v,[],aC i,[],rfl,by simp,r',rfl,rfl⟩
  cases hr:C.ro with
  |true=>exact⟨_,oo,o1.sq.pS i,h0⟩
  |false=>exact oo.rep λc hc z=>z (h0 c hc)⟩
end
end L2.Q
namespace L2
open PySem PySem.Spec PySem.SeqAt PyProof.Rows
section
variable {X:Cx}{a:Expr}{t:TA}{p2:Pos}
def bM (c:Nat):Str:=⟨#[c]⟩
def a5 (cs:List Nat):Str:=⟨cs.toArray⟩
theorem ym:∀(cs:List Nat) (acc:Array Nat),(cs.map bM).foldl (λacc p=>acc++(#[]:Array Nat)++p.cps) acc=acc++cs.toArray
 |[],acc=>by simp
 |c::cs,acc=>by
  rw[Zx,aaH,ym cs];simp[bM]
theorem C_ (cs:List Nat):acn ⟨#[]⟩ (cs.map bM)=a5 cs:=by
 unfold acn a5;cases cs with
 |nil=>rfl
 |cons c cs =>
  show (⟨((cs.map bM).foldl (λacc p=>acc++(#[]:Array Nat)++p.cps) (bM c).cps)⟩:Str)=_;rw[ym];simp[bM]
theorem jX:∀{xs:List Str} {us:List YU},Vals (xs.map V.str) us->∃l:List (Str×Tok),us=strValues l/\l.map (·.1)=xs
 |[],_,h=>by cases h;exact⟨[],rfl,rfl⟩
 |x::xs,_,h=>by
  cases h with
  |cons h1 h2 =>
   obtain⟨t,rfl⟩:=h1;obtain⟨l,rfl,rfl⟩:=jX h2;exact⟨(x,t)::l,rfl,rfl⟩
theorem yb:∀(xs:List Str) (n:Nat),(∀x∈xs,x.length=1)->xs.foldl (λa x=>a+x.length+(⟨#[]⟩:Str).length) n=n+xs.length
 |[],_,_=>rfl
 |x::xs,n,h=>by
  rw[aaH,yb xs _ λy hy=>h y (Y7 _ hy),h x Y8,Zc];show n+1+0+xs.length=_;lia
theorem FZ:PJ X "str.join" (λx xs H Q=>∃a cs,x=.str ⟨#[]⟩/\xs=[.ref a]/\dC X.K H a (cs.map λc=>V.str (bM c))/\cs.length<=1000/\Q (.str (a5 cs)) H):=by
 intro pins s σ H x xs v us Q I rx rs h;obtain⟨a,cs,rfl,rfl,hl,hc,q⟩:=h;obtain⟨t,rfl⟩:=rx;obtain⟨u,rfl,ru⟩:=vals1 rs;cases ru;obtain⟨its,r,ht,hz⟩:=I.list hl;rw[show (cs.map λc=>V.str (bM c))=(cs.map bM).map V.str by rw[ZM];rfl]at r
 obtain⟨l,rfl,el⟩:=jX r;have hlen:l.length=cs.length:=by have:=congrArg List.length el;rwa [YX,YX]at this
 have KA:Builtin.Str.tooLong ((l.map (·.1)).toArray.foldl (·+·.length+(⟨#[]⟩:Str).length) 0)=false:=by
  rw[el,List.foldl_toArray,yb _ _ (λx hx=>by obtain⟨c,_,rfl⟩:=ZE.mp hx;rfl),YX]
  exact decide_eq_false (by rw[Zw];lia)
 refine aaZ PySem.F.slot_str_join (abK _ _ _) PySem.F.entry_str_join (PySem.F.args_str_join_2 _ _) (meets_str_join_list ⟨#[]⟩ t a l KA) ⟨ht.isList,?_⟩;have eg:acn ⟨#[]⟩ (l.map (·.1))=a5 cs:=by rw[el];exact C_ cs
 have wy:(a5 cs).length<=Zf:=by
  show cs.toArray.size<=_;rw[Zh,Zw];lia
 have fin:∀tk,EP X pins σ Q (.str (a5 cs) tk) {s with toks:=s.toks+1}:=λtk=>⟨.str (a5 cs),H,I.tok _,⟨tk,rfl⟩,q⟩
 cases l with
 |nil =>
  refine⟨by rw[eg];exact wy,?_⟩
  rw[eg];exact fin _
 |cons p l =>
  cases l with
  |nil =>
   have e1:p.1=a5 cs:=by
    cases cs with
    |nil=>cases el
    |cons c cs =>
     cases cs with
     |nil=>exact(List.cons.inj el).1
     |cons _ _=>cases (List.cons.inj el).2
   show EP X pins σ Q (.str p.1 p.2) s;rw[e1];exact⟨.str (a5 cs),H,I,⟨_,rfl⟩,q⟩
  |cons p2 l =>
   refine⟨by rw[eg];exact wy,?_⟩
   rw[eg];exact fin _
end
end L2
namespace L2.Q
open PySem PySem.Spec PySem.SeqAt PyProof.Rows
theorem Lr:("(" : Str)=bM 40:=by decide +kernel
theorem Lq:(")" : Str)=bM 41:=by decide +kernel
theorem Lp:("." : Str)=bM 46:=by decide +kernel
theorem Uv:("" : Str)=a5 []:=by decide +kernel
theorem P4:("" : Str)=⟨#[]⟩:=by decide +kernel
theorem we {P:Y0}{w:Zd}{C:Cfg}{Z:Hp×(Addr->Prop)}{own:Nat->List Addr}{H:Hp}{x:Str}:KV P w C Z own H .own (.str x) (.str x):=⟨[],⟨rfl,rfl⟩,Z7,λc hc=>(nomatch hc)⟩
theorem pK {P:Y0}{w:Zd}{W:Addr->Prop}{H:Hp}{f:Nat->Str}:∀{cs:List Nat} {vs:List V},ao P w W H (cs.map λc=>D.str (f c)) vs->vs=cs.map λc=>V.str (f c)
 |[],_,h=>h
 |c::cs,_,lO=>by obtain⟨v,r,e,h1,h2⟩:=lO;rw[e,pK h2,show v=V.str (f c) from h1];rfl
section
variable {X:Cx}{C:Cfg}{e:Expr}{φ:aR}{p:Bool}{apos cpos p1:Pos}{j:Nat}
def MS (φ:aR):aR:=λβ R=>φ β λd _ β1=>∃cs,d=.lst (cs.map λc=>D.str (bM c))/\cs.length<=1000/\R (.str (a5 cs)) .own β1
theorem xI (he:PQ X C p e φ) (eM:aa0 (.Constant (.str "") j p1) "join" X.env (eval (.Constant (.str "") j p1) X.env)=eval (.Constant (.str "") j p1) X.env:=by rfl)
  (nN:((aaw cpos (Ze [e] X.env)).all (λx=>!x.1)&&(backToKw cpos (ack [] X.env)).all (λx=>x.1.isSome)&&decide ([e].length+([]:List abQ).length+(if ([]:List abQ).isEmpty then 0 else 1)<30))=true:=by rfl)
  (eL:(apos.endLine==cpos.line)=true:=by rfl) (hs:Ze [e] X.env=(false,eval e X.env)::Ze [] X.env:=by rfl) (hpl:(aaw cpos (Ze [] X.env)).any (·.1)=false:=by rfl) :
  PQ X C p (.Call (.Attribute (.Constant (.str "") j p1) "join" apos) [e] [] cpos) (MS φ) :=
 ⟨λβ R R' k h=>he.mono β _ _ (λd kd β1 h=>by obtain⟨cs,h1,h2,q⟩:=h;exact⟨cs,h1,h2,k _ _ _ q⟩) h,
  (tI (apos:=apos) (cpos:=cpos) PySem.F.plainAttrs_str PySem.F.slot_str_join PySem.F.type_str_join FZ BK (cT he.pe fW hs) eM nN eL hs hpl).pre λσ H Q i5=>by
  obtain⟨β,own,s,h⟩:=i5;exact⟨rfl,tQ.of he s h λd k β1 v H1 aC hq o1 r1=>by
   obtain⟨cs,rfl,hc,q⟩:=hq;obtain⟨b,us,rfl,Pp,_,rb⟩:=r1.rep;rw[pK rb]at Pp;exact⟨b,cs,by rw[P4],rfl,dC.of Pp,hc,q _ _ aC o1 we⟩⟩⟩
end
def D.lL:D->Option Str
 |.str x=>some x
 |_=>none
theorem D.cP {d:D}{x:Str}(h:D.lL d=some x):d=.str x:=by
 cases d <;> first|(cases h;rfl)|cases h
def Ie (a b:D):Option D:=(D.lL a).bind λx=>(D.lL b).bind λy=>if x.length+y.length<=1000000 then some (.str (x++y)) else none
section
variable {X:Cx}
theorem m8:bf X (aas .Add) Ie:=by
 intro pins s σ H x y v u Q I rx ry h;obtain⟨W,d1,d2,d,hd,r1,r2,e,q⟩:=h;obtain⟨a,h1,e⟩:=Zq.mp e;obtain⟨b,h2,e⟩:=Zq.mp e;rw[D.cP h1]at r1;rw[D.cP h2]at r2;cases (show x=.str a from r1)
 cases (show y=.str b from r2)
 obtain⟨t,rfl⟩:=rx;obtain⟨t2,rfl⟩:=ry
 by_cases hl:a.length+b.length<=1000000
 ·rw[if_pos hl]at e;cases e;exact PyProof.Rows.add_str (λt' tk=>⟨.str (a++b),H,I.tok _,⟨t',rfl⟩,q _ _ (aD.refl _) rfl⟩) (by rw[Zw];lia)
 ·rw[if_neg hl]at e;cases e
end
end L2.Q
namespace L2
open PySem PySem.Spec PySem.SeqAt PyProof.Rows
def pZ (x:Str):Prop:=x.cps.all (·<128)=true
theorem DX {x:Str} (h:pZ x):strIterType x="str_ascii_iterator" := by unfold strIterType;exact if_pos h
def OS (x:Str):It:=⟨λi H=>i<x.cps.size,λi H v H'=>∃T c,H T=none/\v=.ref T/\x.cps[i]?=some c/\H'=upd H T (.tup [.int i,.str ⟨#[c]⟩]),λi H=>x.cps.size<=i⟩
def Uh (x:Str):It:=⟨λi H=>i<x.cps.size,λi H v H'=>H'=H/\∃c,x.cps[i]?=some c/\v=.str ⟨#[c]⟩,λi H=>x.cps.size<=i⟩
theorem AS {P:Y0}{w:Zd}{K:PySem.W.Frag}{tg:Expr}{it:Addr}{x:Str}{t:Tok}:
  Turn P w K tg (Uh x) [it] it (λi h=>h.IsStrIter it "str_ascii_iterator" x t i) where
 mem:=by simp
 obj:=λi h st b hb=>by
  have e:b=it:=by simpa using hb
  subst e;obtain⟨o,e,c,d⟩:=st;exact⟨o,e,λv z=>by rw[d]at z;cases z⟩
 keep:=λi h h' st k=>let ⟨o,ho,r⟩:=st;⟨o,k it (by simp) o ho,r⟩
 item:=by
  intro X hP hw hK hc i pins s σ H E I hf st hg;subst hP hw hK;obtain⟨f0,f1,f2,f3,f4,f5⟩:=hf it (by simp)
  have hg:i<x.cps.size:=hg;refine wpAny_pyNext_ascii_item st (c:=x.cps[i]) (by simp[hg]) λh' aJ sb=>?_
  have I1:Inv X pins σ H {s with heap:=h',toks:=s.toks+1}:=I.turned (t':=s.toks+1) (λb o hb e=>(sb.2 b hb).trans e) f0 f1 f3 f4 f5
  obtain⟨o,e,c,dd⟩:=id aJ;exact⟨_,rfl,C9 (s:={s with heap:=h',toks:=s.toks+1}) e c dd (by decide) ⟨.str ⟨#[x.cps[i]]⟩,H,I1,⟨_,rfl⟩,⟨rfl,_,by simp[hg],rfl⟩,aJ,λb hb=>(hf b hb).1⟩⟩
 done:=by
  intro X hP hw hK hc i pins s σ H E I hf st hg;subst hP hw hK;obtain⟨f0,f1,f2,f3,f4,f5⟩:=hf it (by simp)
  have hg:x.cps.size<=i:=hg;exact wpAny_pyNext_ascii_end (I.ok.hd hc) st (by simp[hg]) λh' eb=>⟨rfl,I.turned (t':=s.toks) (λb o hb e=>eb b o hb e) f0 f1 f3 f4 f5⟩
 self:=λ_ _ _ _ _ st h=>wpAny_pyIter_striter_ascii st h
theorem vG {P:Y0}{w:Zd}{K:PySem.W.Frag}{elts:List Expr}{kk:Nat}{pos:Pos}{e it:Addr}{x:Str}{t:Tok}(ne:e≠it):
  Turn P w K (.Tuple elts kk pos) (OS x) [e,it] e (λk h=>k<=x.cps.size/\(∃old,IsEnum h e it (k:Int) old)/\h.IsStrIter it "str_ascii_iterator" x t k) where
 mem:=by simp
 obj:=λk h lQ c hc=>by
  obtain⟨_,⟨old,h1⟩,h2⟩:=lQ;simp only[Y4,aaa,or_false]at hc;rcases hc with rfl|rfl
  ·exact⟨_,h1,λv z=>by cases (show Data.fields _=Data.cell v from z)⟩
  ·obtain⟨o,a,_,d⟩:=h2;exact⟨o,a,λv z=>by rw[d]at z;cases z⟩
 keep:=λk h h' i5 kp=>by obtain⟨le,⟨old,h1⟩,h2⟩:=i5;exact⟨le,⟨old,kp e (by simp) _ h1⟩,let ⟨o,ho,r⟩:=h2;⟨o,kp it (by simp) o ho,r⟩⟩
 item:=by
  intro X hP hw hK hc i pins s σ H E I hf st hg;subst hP hw hK;obtain⟨le,⟨old,g1⟩,g2⟩:=st;have hg:i<x.cps.size:=hg;refine wpAny_pyNext_enum_itemD (Draws.strAscii (A:=X.A.in1) (I.ok.hd hc) it x t) g1 g2 hg ne (by simpa using ne) λy h' tk hP y1 y2 y3 y4 y5=>?_
  obtain⟨c,u,XD,rfl⟩:=hP;have I1:=(I.EN (fp:=[e,it]) (x:=.int i) (u:=.int i tk) (y:=.str ⟨#[c]⟩) (v:=.str ⟨#[c]⟩ u) hf (λc o Gp q=>y5 c o (λz=>Gp (by simp[z])) (λz=>Gp (by simp[z])) q) ⟨_,rfl⟩ ⟨_,rfl⟩ y3).tok (tk+1)
  have nT:∀b∈[e,it],upd H s.heap.objs.size (.tup [.int i,.str ⟨#[c]⟩]) b=none:=λb hb=>by
   have:b≠s.heap.objs.size:=by
    simp only[Y4,aaa,or_false]at hb;rcases hb with rfl|rfl
    ·exact Zu (Za g1)
    ·obtain⟨o,a,_⟩:=g2;exact Zu (Za a)
   rw[ay this];exact(hf b hb).1
  refine⟨_,rfl,wpAny_letOwnedTupleGo_enum y1 λh'' z' sb=>?_⟩;have I2:Inv X pins σ (upd H s.heap.objs.size (.tup [.int i,.str ⟨#[c]⟩])) {s with heap:=h'',toks:=tk+1}:=by
   refine I1.xk (fp:=[e]) (λb hb=>?_) λc o Gp q=>sb.extBut _ _ (by simpa using Gp) q
   have q:b=e:=by simpa using hb
   subst q;exact⟨nT b (by simp),(hf b (by simp)).2⟩
  exact⟨.ref s.heap.objs.size,_,I2,rfl,⟨s.heap.objs.size,c,I.bu.fresh (YY _),rfl,XD,rfl⟩,⟨hg,⟨_,z'⟩,y2.extBut sb.extBut (abP ne)⟩,nT⟩
 done:=by
  intro X hP hw hK hc i pins s σ H E I hf st hg;subst hP hw hK;obtain⟨le,⟨old,g1⟩,g2⟩:=st;have hg:i=x.cps.size:=Nat.le_antisymm le hg;subst hg;refine wpAny_pyNext_enum_endD (Draws.strAscii (A:=X.A.in1) (I.ok.hd hc) it x t) g1 g2 λh' y=>?_;exact⟨rfl,I.xk (fp:=[e,it]) hf λc o Gp q=>y c o (λz=>Gp (by simp[z])) q⟩
 self:=λA i s Q E zT q=>by obtain⟨_,⟨old,h1⟩,_⟩:=zT;exact wpAny_pyIter_enum h1 q
end L2
namespace L2.Q
open PySem PySem.Spec PySem.SeqAt PyProof.Rows
section
variable {P:Y0}{w:Zd}{H:Hp}
theorem tO {H:Hp}:∀ns:List Int,a9 P w H (ns.map D.int) (ns.map V.int) []
 |[]=>⟨rfl,rfl⟩
 |n::ns=>⟨_,_,[],[],rfl,rfl,⟨rfl,rfl⟩,tO ns⟩
end
theorem ints_of:∀{ns:List Int} {its:List YU},Vals (ns.map V.int) its->aaE its ns
 |[],_,.nil=>.nil
 |n::ns,_,.cons r t=>by
  obtain⟨tk,rfl⟩:=r;exact .cons _ _ (ints_of t)
theorem mf:∀{ns:List Int} {its:List YU},aaE its ns->Vals (ns.map V.int) its
 |[],_,.nil=>.nil
 |n::ns,_,.cons _ _ t=>.cons ⟨_,rfl⟩ (mf t)
section
variable {X:Cx}
theorem za {x:YU}{vs:List YU}{ns:List Int}{s:YW}{A:ZQ}{E:YU->YW->Prop}{P:Y0}{w:Zd}{Q:YU->YW->Prop}(hI:aaE vs ns)(hz:vs.length<64)
  (col:∀(R:List YU->YW->Prop),(∀(h':Heap) (tk:Nat),(∀b o,s.heap.get? b=some o->h'.get? b=some o)->R vs {s with heap:=h',toks:=tk})->Zr (model P w) A.in1 (collect x) R E s)
  (h:∀(out:Array YU) (tV:List Int) (h1 h':Heap) (tk:Nat) (n:Nat),aaE out.toList tV->tV.Perm ns->tV.Pairwise (·<=·)->(∀b o,s.heap.get? b=some o->h1.get? b=some o)->(∀b o,h1.get? b=some o->h'.get? b=some o)->h'.get? h1.objs.size=some (aaJ "list" out n)->Q (.ref h1.objs.size) {s with heap:=h',toks:=tk}) :
  Zr (model P w) A (call (.builtin "sorted") [x]) Q E s:=by
 refine acg kind_sorted plain_sorted entry_sorted (args_sorted1 _) ?_;unfold aaz.«sorted»
 refine YV (m:=checkCount "sorted" 1 1 _) (YZ ?_);refine YV (col _ λh' tk kp=>?_);have nl:vs.length<=Zf:=by rw[Zw];lia
 refine YV (wpAny_newList ?_ nl);have hl:(h'.push (aaJ "list" vs.toArray 0)).get? h'.objs.size=some (aaJ "list" vs.toArray 0):=ZC _ rfl;refine YV (ZW (aaB slot_list_sort ⟨_,hl,rfl⟩ entry_list_sort (list_sort_tree (s:={s with heap:=h'.push (aaJ "list" vs.toArray 0),toks:=tk}) hl hI hz λout tV a1 a2 a3=>⟨_,rfl,?_⟩) (args_list_sort _)))
 obtain⟨n,hn⟩:=sortedHeap_at (out:=out) hl;refine YZ ⟨_,rfl,h out tV h' _ tk n a1 a2 a3 kp (λb o e=>?_) hn⟩;have hb:=Za e;rw[sortedHeap_old (Zu hb) (by rw[size_push'];exact abC hb)]
 exact Y3 _ e
theorem wZ:gk X (.builtin "sorted") (λxs H Q=>∃p ns,xs=[V.ref p]/\dC X.K H p (ns.map V.int)/\ns.length<60/\∀ms:List Int,ms.Pairwise (·<=·)->ms.Perm ns->∀a,H a=none->Q (.ref a) (upd H a (.lst (ms.map V.int)))):=by
 intro pins s σ H xs us Q I r h;obtain⟨p,ns,rfl,hp,hl,q⟩:=h;obtain⟨u,rfl,rx⟩:=vals1 r;cases rx;obtain⟨its,r',pl,hz⟩:=I.list hp;have hI:aaE its ns:=ints_of r';have hlen:its.length=ns.length:=by have:=r'.length;rw[YX]at this;exact this.symm
 refine za hI (by lia) (λR hR=>collect_list pl.isList (hR _ s.toks λb o e=>?_)) λout tV h1 h' tk n a1 a2 a3 k1 k2 hn=>?_
 ·have hb:=Za e;rw[Heap.get?_update_ne _ _ _ _ (Zu hb)];exact Y3 _ e
 have I1:Inv X pins σ H {s with heap:=h1,toks:=s.toks}:=I.kept k1
 have Gm:H h1.objs.size=none:=I1.bu.fresh (YY _);refine⟨.ref h1.objs.size,_,I1.laid (t':=tk) (o:=.lst (tV.map V.int)) k2 (YY _) ?_,rfl,q tV a3 a2 _ Gm⟩;refine⟨?_,out.toList,n,mf a1,by simpa using hn⟩
 rw[YX,a2.length_eq,Zw];lia
end
section
variable {X:Cx}{C:Cfg}{e:Expr}{φ:aR}{p:Bool}{pos p1:Pos}
def Jc (φ:aR):aR:=λβ R=>φ β λd _ β1=>∃ns:List Int,d=.lst (ns.map D.int)/\ns.length<60/\∀ms:List Int,ms.Pairwise (·<=·)->ms.Perm ns->R (.lst (ms.map D.int)) .own β1
theorem Bw (he:PQ X C p e φ) (hm:X.mg "sorted" = none) (hg:Gl X "sorted" := by rfl) (hs:Ze [e] X.env=(false,eval e X.env)::Ze [] X.env:=by rfl) (hpl:(aaw pos (Ze [] X.env)).any (·.1)=false:=by rfl) :
  PQ X C p (.Call (.Name "sorted" p1) [e] [] pos) (Jc φ) :=
 ⟨λβ R R' k h=>he.mono β _ _ (λd kd β1 rD=>by obtain⟨ns,h1,h2,q⟩:=rD;exact⟨ns,h1,h2,λms a b=>k _ _ _ (q ms a b)⟩) h,
  (mW wZ hg hm bK (cT he.pe fW hs) (by decide) (by decide) (he:=hs) (hpl:=hpl)).pre λσ H Q zT=>by
  obtain⟨β,own,s,h⟩:=zT;exact tQ.of he s h λd k β1 v H1 aC NR o1 r1=>by
   obtain⟨ns,e1,hl,q⟩:=NR;subst e1;obtain⟨b,us,rfl,Pp,_,rb⟩:=r1.rep;cases _root_.L2.cf rb;refine⟨b,ns,rfl,dC.of Pp,hl,λms a1 a2 l oG=>q ms a1 a2 _ _ aC (o1.same (aD.new oG)) ⟨[l],⟨l,_,[],rfl,aE,rfl,tO ms⟩,by simp,λc hc=>?_⟩⟩
   rw[Y1.mp hc];exact⟨ZT λz=>o1.sn.d l z oG,λz=>o1.sq.vy l z oG,ZT λz=>o1.sq.iW l z oG⟩⟩
end
def Es (x:Str):List D:=x.cps.toList.map λc=>.str ⟨#[c]⟩
theorem xx (x:Str):(Es x).length=x.cps.size:=by simp[Es]
theorem xB {x:Str}{i:Nat}{d:D}(h:(Es x)[i]?=some d):∃c,x.cps[i]?=some c/\d=.str ⟨#[c]⟩:=by
 rw[Es,Zj]at h;obtain⟨c,e,rfl⟩:=Zn.mp h;exact⟨c,by simpa using e,rfl⟩
section
variable {X:Cx}{C:Cfg}{p:Bool}{a:Expr}{φs:bS}{pp pos:Pos}{elts:List Expr}{kk:Nat}{P6:Pos}
theorem zR {W:Addr->Prop}{x:Str}{H:Hp}:EG X W (OS x) (qw (Es x)) H:=λW' hW i H' k=>by
 constructor
 ·intro d hd;obtain⟨b,hb,rfl⟩:=qv hd;obtain⟨c,ec,rfl⟩:=xB hb;have hi:i<x.cps.size:=(Array.getElem?_eq_some_iff.mp ec).1;refine⟨hi,λv H1 kP=>?_⟩;obtain⟨T,c',hT,e,Oo,eH⟩:=kP;rw[ec]at Oo;cases Oo;subst e eH;exact⟨aD.new hT,Rp.IF hT (.cons rfl (.cons rfl .nil))⟩
 ·intro hl;rw[qu,xx]at hl;exact hl
theorem F7 {W:Addr->Prop}{x:Str}{H:Hp}:EG X W (Uh x) (Es x) H:=λW' hW i H' k=>by
 constructor
 ·intro d hd;obtain⟨c,ec,rfl⟩:=xB hd;have hi:i<x.cps.size:=(Array.getElem?_eq_some_iff.mp ec).1;refine⟨hi,λv H1 kP=>?_⟩;obtain⟨eH,c',Oo,rfl⟩:=kP;rw[ec]at Oo;cases Oo;subst eH;exact⟨aD.refl _,rfl⟩
 ·intro hl;rw[xx]at hl;exact hl
def F_ (φs:bS):gR:=λβ R=>φs β λl ks β1=>∃x,l=[.str x]/\pZ x/\R (qw (Es x)) .old β1
theorem zu (hm:X.mg "enumerate" = none) (ha:vg X C p [a] φs) (hg:Gl X "enumerate" := by rfl) (hs:Ze [a] X.env=[(false,eval a X.env)]:=by rfl) :
  G_ X C p (.Tuple elts kk P6) (.Call (.Name "enumerate" pp) [a] [] pos) (F_ φs):=by
 refine⟨λβ R R' k q=>ha.mono β _ _ (λl ks β1 lQ=>by obtain⟨x,e,ex,q⟩:=lQ;exact⟨x,e,ex,k _ _ _ q⟩) q,λpins s σ H R I h=>?_⟩
 obtain⟨β,own,sq,h⟩:=h;refine Call_ (nB I hg hm GZ (ab5 (bE (ha.pa pos pins s σ H _ I (vp.of ha sq h λds ks β' vs H1 aC h o1 r1=>(⟨ds,ks,β',aC,h,o1,r1.mP⟩:∃ds ks β' aC,(∃x,ds=[.str x]/\pZ x/\∀J H' aU,Out X C σ H own p β' H' aU->EG X (av C (Wn aU) .old) J (qw (Es x)) H'->R J H')/\Out X C σ H own p β' H1 aC/\ao X.prog X.w (av C (Wn aC) (il ks)) H1 ds vs)))
  λus s1 ⟨vs,H1,I1,rv,h⟩=>?_) hs rfl))
 obtain⟨ds,ks,β',aC,⟨x,rfl,ex,q⟩,o1,r1⟩:=h;obtain⟨y,rfl,ry⟩:=qG r1;cases (show y=.str x from ry)
 obtain⟨v1,rfl,e1⟩:=vals1 rv;obtain⟨t,rfl⟩:=e1;refine call_enumerate_str λh' y1 y2 y3 y4=>wpAny_pyIter_enum y1 ?_;have I2:Inv X pins σ H1 {s1 with heap:=h'}:=I1.kept (t':=s1.toks) y4
 rw[DX ex]at y2;refine⟨_,_,_,_,H1,rfl,I2,vG (Nat.succ_ne_self _),⟨Zm _,⟨_,y1⟩,y2⟩,λb hb=>?_,q _ _ aC o1 zR⟩;have sg:s1.heap.objs.size<=b:=by
  simp only[Y4,aaa,or_false]at hb;rcases hb with rfl|rfl <;> first|exact Nat.le_add_right _ _|exact YY _
 exact I1.Di sg (I1.bu.fresh sg)
def Q4 (φ:aR):gR:=λβ R=>φ β λd k β1=>∃x,d=.str x/\pZ x/\R (Es x) .old β1
theorem Jj {e tg:Expr}{te:TE}(h:PE X e te):PI X tg e (λσ H R=>te σ H λv H1=>∃x,v=.str x/\pZ x/\R (Uh x) H1):=by
 intro pins s σ H R I q;refine bE (h pins s σ H _ I q) λu s1 h=>?_;obtain⟨v,H1,I1,rv,x,rfl,ex,q⟩:=h;obtain⟨t,rfl⟩:=rv;refine wpAny_pyIter_strU ?_;rw[DX ex];refine⟨s1.heap.objs.size,[s1.heap.objs.size],_,_,H1,rfl,I1.kept (t':=s1.toks) λb o e=>Y3 _ e,AS,⟨_,ZC _ rfl,rfl,rfl⟩,λb hb=>?_,q⟩;have e:b=s1.heap.objs.size:=by simpa using hb
 subst e;exact I1.Di (YY _) (I1.bu.fresh (YY _))
theorem Fh {tg e:Expr}{φ:aR}(h:PQ X C p e φ):G_ X C p tg e (Q4 φ) :=
 ⟨λβ R R' k q=>h.mono β _ _ (λd kd β' C1=>by obtain⟨x,e,ex,q⟩:=C1;exact⟨x,e,ex,k _ _ _ q⟩) q,λpins s σ H R I ⟨β,own,sq,q⟩=>Jj h.pe pins s σ H R I (tQ.of h sq q λd k β' v H1 aC wx o1 r1=>by
  obtain⟨x,e,ex,q1⟩:=wx;subst e;cases (show v=.str x from r1.rep)
  exact⟨x,rfl,ex,q1 _ _ aC o1 F7⟩)⟩
end
def Ib:List D->Option D
 |[.str x]=>if x.length<1000000 then some (.int x.length) else none
 |_=>none
section
variable {X:Cx}
theorem oz:a_ X (.builtin "len") Ib:=by
 intro pins s σ H xs us Q I r h;obtain⟨W,ds,d,hd,r1,e,q⟩:=h
 match ds,e with
 |[.str x],e =>
  have e:(if x.length<1000000 then some (D.int x.length) else none)=some d:=e
  by_cases hl:x.length<1000000
  ·rw[if_pos hl]at e;cases e;obtain⟨v,r',rfl,h1,hr⟩:=r1;cases hr;cases (show v=.str x from h1)
   obtain⟨v1,rfl,e1⟩:=vals1 r;obtain⟨t,rfl⟩:=e1;exact len_str (by lia) ⟨.int _,H,I.tok _,⟨_,rfl⟩,q _ _ (aD.refl _) rfl⟩
  ·rw[if_neg hl]at e;cases e
def OA (a b:D):Option D:=(D.lL a).bind λx=>b.int?.bind λi=>if x.length<=Zf then (l6 x.cps.toList i).map λc=>.str (bM c) else none
theorem F6:Hc X (Bj X OA NF):=λvalue slice pins s σ H x y v u Q I rx ry h hs=>by
 obtain⟨W,d1,d2,d,hd,r1,r2,e,q⟩:=h;obtain⟨a,h1,e⟩:=Zq.mp e;obtain⟨i,h2,e⟩:=Zq.mp e;rw[D.cP h1]at r1;rw[D.yg h2]at r2;cases (show x=.str a from r1)
 cases (show y=.int i from r2)
 by_cases hl:a.length<=Zf
 ·rw[if_pos hl]at e;obtain⟨c,hc,rfl⟩:=Zn.mp e;exact Ka value slice pins s σ H _ _ v u Q I rx ry ⟨a,i,c,rfl,rfl,hl,hc,q _ _ (aD.refl _) rfl λ_=>rfl⟩ hs
 ·rw[if_neg hl]at e;cases e
end
def Qv (X:Cx)(g:D->List D->Option D)(N:D->Prop):V->List V->Hp->VK->Prop:=λx xs H Q=>∃W d0 ds d,Dm W H/\Rp X W H d0 x/\oN X W H ds xs/\g d0 ds=some d/\∀v H',aD H H'->Rp X W H' d v->(N d->Rp X (λa=>H a≠none) H' d v)->Q v H'
abbrev PK (X:Cx)(id:String)(g:D->List D->Option D)(N:D->Prop):Prop:=PJ X id (Qv X g N)
def Wv (g:D->List D->Option D)(N:D->Prop)(pb:Bool)(φo:aR)(φs:bS):aR:=λβ R=>φo β λd0 k0 β1=>hold k0 pb/\(∃x,d0=.str x)/\φs β1 λds ks β2=>∃d,g d0 ds=some d/\kN N d (k0.max (il ks)) λk=>R d k β2
section
variable {X:Cx}{C:Cfg}{o e:Expr}{es:List Expr}{φo:aR}{φs:bS}{p p':Bool}{apos cpos:Pos}{g:D->List D->Option D}{N:D->Prop}{name:Str}{id:String}
theorem tD (hn:El N) (hm:PK X id g N) (slot:Slot "str" name id) (NK:typeOf (.builtin id)=pure (.type "method_descriptor")) (ho:PQ X C p o φo) (ha:vg X C p' (e::es) φs)
  (eM:aa0 o name X.env (eval o X.env)=eval o X.env:=by rfl)
  (nN:((aaw cpos (Ze (e::es) X.env)).all (λx=>!x.1)&&(backToKw cpos (ack [] X.env)).all (λx=>x.1.isSome)
   && decide ((e::es).length+([]:List abQ).length+(if ([]:List abQ).isEmpty then 0 else 1)<30))=true:=by rfl)
  (eL:(apos.endLine==cpos.line)=true:=by rfl) (hs:Ze (e::es) X.env=(false,eval e X.env)::Ze es X.env:=by rfl) (f9:(aaw cpos (Ze es X.env)).any (·.1)=false:=by rfl) :
  PQ X C (p&&p') (.Call (.Attribute o name apos) (e::es) [] cpos) (Wv g N p' φo φs) :=
 ⟨λβ R R' k h=>ho.mono β _ _ (λd kd β1 q=>⟨q.1,q.2.1,ha.mono β1 _ _ (λds ks β2 z=>by obtain⟨d,e,q⟩:=z;exact⟨d,e,q.mono λ_ z=>k _ _ _ z⟩) q.2.2⟩) h,
  (tI (apos:=apos) (cpos:=cpos) PySem.F.plainAttrs_str slot NK hm ho.pe ha.pa eM nN eL hs f9).pre λσ H Q hv=>by
  obtain⟨β,own,s,h⟩:=hv;exact tQ.of ho s h λd0 k0 β1 v0 H1 aC hv o1 r1=>by
   obtain⟨hh,⟨x,rfl⟩,h1⟩:=hv;have ev:v0=V.str x:=r1.rep;refine⟨by rw[ev];rfl,vp.of ha o1.sq h1 λds ks β2 vs H2 bg hq o2 r2=>?_⟩
   obtain⟨d,e,q⟩:=hq;have MM:=r1.ho o2 hh;refine⟨av C (Wn bg) (k0.max (il ks)),.str x,ds,d,o2.sq.Dx _,aF.bb cV MM.rep,ao.bb fo r2.mP,e,λv H' s3 r3 n3=>?_⟩;have o:=(o1.trans o2).same s3;obtain⟨k,q,r⟩:=KV.kN (Z:=(H,Wn own)) Cp r3 (λn=>h8 (H:=H2) o2.sq.vy o2.sq.iW (λa z=>o2.sn.d a (o1.sn.d a z)) (hn.nl _ n) (n3 n)) q;exact q v H' bg o r⟩
end
def yz (d0:D)(ds:List D):Option D:=match ds with
 |[e]=>(D.lL d0).bind λx=>(D.lL e).bind λy=>if y.length=1/\x.length<=Zf then some (.tup [.str (Z_ x y).1,.str (Z_ x y).2.1,.str (Z_ x y).2.2]) else none
 |_=>none
theorem DB {d0 d:D}{ds:List D}(h:yz d0 ds=some d):∃x y,d0=.str x/\ds=[.str y]/\y.length=1/\x.length<=Zf/\d=.tup [.str (Z_ x y).1,.str (Z_ x y).2.1,.str (Z_ x y).2.2]:=by
 cases ds with
 |nil=>cases h
 |cons e r =>
  cases r with
  |cons _ _=>cases h
  |nil =>
   obtain⟨x,h1,h⟩:=Zq.mp h;obtain⟨y,h2,h⟩:=Zq.mp h
   by_cases hq:y.length=1/\x.length<=Zf
   ·rw[if_pos hq]at h;cases h;exact⟨x,y,D.cP h1,by rw[D.cP h2],hq.1,hq.2,rfl⟩
   ·rw[if_neg hq]at h;cases h
theorem mO {P:Y0}{w:Zd}{W:Addr->Prop}{H:Hp}{y:Str}{xs:List V}(h:ao P w W H [.str y] xs):xs=[.str y]:=by
 obtain⟨v,r,rfl,h1,h2⟩:=h;cases (show r=[] from h2)
 cases (show v=V.str y from h1)
 rfl
theorem x9 {X:Cx}:PK X "str.partition" yz NF:=by
 intro pins s σ H x xs v us Q I rx rs h;obtain⟨W,d0,ds,d,hd,r0,r1,e,q⟩:=h;obtain⟨a,b,rfl,rfl,hb,ha,rfl⟩:=DB e;cases (show x=V.str a from r0)
 cases mO r1;obtain⟨t,rfl⟩:=rx;obtain⟨u,rfl,t2,rfl⟩:=vals1 rs;refine aaZ PySem.F.slot_str_partition (abK _ _ _) PySem.F.entry_str_partition (PySem.F.args_str_partition_2 _ _) (meets_str_partition a b t t2 (by rw[hb];rfl) ha) ?_
 have hn:H s.heap.objs.size=none:=I.bu.fresh (YY _);have key:∀(p1 p2 p3:Str) (t1 t2 t3:Tok) (tk:Nat),Z_ a b=(p1,p2,p3)->EP X pins σ Q (.ref s.heap.objs.size) {s with toks:=tk,heap:=s.heap.push {cls:=.type "tuple",data:=.seq [Value.str p1 t1,.str p2 t2,.str p3 t3].toArray}}:=by
  intro p1 p2 p3 t1 t2 t3 tk ep;rw[ep]at q;have I2:Inv X pins σ (upd H s.heap.objs.size (.tup [.str p1,.str p2,.str p3])) {s with heap:=s.heap.push {cls:=.type "tuple",data:=.seq [Value.str p1 t1,.str p2 t2,.str p3 t3].toArray},toks:=tk} :=
   I.laid (λb o e=>Y3 _ e) (YY _) ⟨by show 3<=Zf;decide,[_,_,_],.cons ⟨_,rfl⟩ (.cons ⟨_,rfl⟩ (.cons ⟨_,rfl⟩ .nil)),⟨_,ZC _ rfl,rfl,_,rfl⟩⟩
  have rp:Rp X W (upd H s.heap.objs.size (.tup [.str p1,.str p2,.str p3])) (.tup [.str p1,.str p2,.str p3]) (.ref s.heap.objs.size):=⟨_,_,rfl,aE,_,_,rfl,rfl,_,_,rfl,rfl,_,_,rfl,rfl,rfl⟩;exact⟨.ref s.heap.objs.size,_,I2,rfl,q _ _ (aD.new hn) rp λf=>aF.flat f rp⟩
 have hp:Z_ a b=match aae a b 0 a.length 1 with
  |i::_=>(abt a 0 i,b,abt a (i+b.length) a.length)
  |[]=>(a,Z1,Z1):=rfl
 revert hp
 cases aae a b 0 a.length 1 with
 |nil=>exact λhp=>key _ _ _ _ _ _ _ hp
 |cons i r=>exact λhp=>key _ _ _ _ _ _ _ hp
def bo (c:Nat):List Nat->List Nat×List Nat×List Nat
 |[]=>([],[],[])
 |x::l=>if x=c then ([],[c],l) else (x::(bo c l).1,(bo c l).2.1,(bo c l).2.2)
theorem tJ {c:Nat}:∀{l:List Nat},c∉l->bo c l=(l,[],[])
 |[],_=>rfl
 |x::l,h=>by
  rw[bo,if_neg λz=>h (by rw[z];exact Y8),tJ λz=>h (Y7 _ z)]
theorem tK {c:Nat}:∀{l:List Nat} {i:Nat},l[i]?=some c->(∀k,k<i->l[k]?≠some c)->bo c l=(l.take i,[c],l.drop (i+1))
 |[],_,h,_=>by cases h
 |x::l,0,h,_=>by
  rw[bo,if_pos (Zt h)];rfl
 |x::l,i+1,h,n=>by
  rw[bo,if_neg λz=>n 0 (Nat.zero_lt_succ _) (congrArg some z),tK (l:=l) (i:=i) h λk hk=>n (k+1) (Nat.succ_lt_succ hk)];rfl
theorem xU {c:Nat}{cs:List Nat}:Z_ (a5 cs) (bM c)=(a5 (bo c cs).1,a5 (bo c cs).2.1,a5 (bo c cs).2.2):=by
 have at_:∀i,StrLaws.At (a5 cs) (bM c) (a5 cs).length i↔cs[i]?=some c:=λi=>(StrLaws.subAt_one (a5 cs) c i).trans (by show (cs.toArray.toList)[i]?=some c↔_;rw[List.toList_toArray])
 have sub:∀i j,abt (a5 cs) i j=a5 ((cs.drop i).take (j-i)):=λi j=>by
  have e:(abt (a5 cs) i j).cps=((cs.drop i).take (j-i)).toArray:=by
   rw[<- Array.toArray_toList (xs:=(abt (a5 cs) i j).cps),StrLaws.strSub_toList];rfl
  exact congrArg (λa=>(⟨a⟩:Str)) e
 rcases partition_whole (a5 cs) (bM c)with⟨hp,hn⟩|⟨i,hp,hi,hn⟩
 ·rw[hp,tJ λz=>by
   obtain⟨i,e⟩:=aa1.mp z;exact hn i ((at_ i).mpr e)]
  rfl
 ·rw[hp,tK ((at_ i).mp hi) λk hk z=>hn k hk ((at_ k).mpr z),sub,sub];show (_,bM c,_)=(_,a5 [c],_);have hl:(cs.drop (i+1)).take ((a5 cs).length-(i+1))=cs.drop (i+1):=aay (by rw[aaW];exact YY _)
  show (a5 ((cs.drop 0).take (i-0)),bM c,a5 ((cs.drop (i+1)).take ((a5 cs).length-(i+1))))=_;rw[hl];rfl
def cQ (c:Nat):List Nat->List (List Nat)
 |[]=>[[]]
 |x::l=>if x=c then []::cQ c l else match cQ c l with
  |p::r=>(x::p)::r
  |[]=>[[x]]
def iE (c:Nat):List (List Nat)->List Nat
 |[]=>[]
 |[p]=>p
 |p::q::r=>p++c::iE c (q::r)
theorem k9 {c:Nat}:∀{p:List Nat},c∉p->cQ c p=[p]
 |[],_=>rfl
 |x::p,h=>by
  rw[cQ,if_neg λz=>h (by rw[z];exact Y8),k9 λz=>h (Y7 _ z)]
theorem mE {c:Nat}{l:List Nat}:∀{p:List Nat},c∉p->cQ c (p++c::l)=p::cQ c l
 |[],_=>by
  show cQ c (c::l)=_;rw[cQ,if_pos rfl]
 |x::p,h=>by
  show cQ c (x::(p++c::l))=_;rw[cQ,if_neg λz=>h (by rw[z];exact Y8),mE λz=>h (Y7 _ z)]
theorem gz {c:Nat}:∀{L:List (List Nat)},L≠[]->(∀p∈L,c∉p)->cQ c (iE c L)=L
 |[],h,_=>absurd rfl h
 |[p],_,h=>k9 (h p Y8)
 |p::q::r,_,h=>by
  show cQ c (p++c::iE c (q::r))=_;rw[mE (h p Y8),gz (by simp) λa ha=>h a (Y7 _ ha)]
theorem rB {c:Nat}:∀(ps:List (List Nat)),aat (bM c) (ps.map a5)=a5 (iE c ps)
 |[]=>rfl
 |[p]=>rfl
 |p::q::r=>by
  show a5 p++bM c++aat (bM c) ((q::r).map a5)=_;rw[rB (q::r)];show (⟨(p.toArray++#[c])++(iE c (q::r)).toArray⟩:Str)=a5 (p++c::iE c (q::r));simp[a5]
theorem A6 (x y:Str):aaN x y≠[]:=by
 unfold aaN
 split
 ·simp
 ·split
  ·simp
  ·unfold Builtin.Str.partsBetween;intro z;have:=congrArg List.length z;simp at this
theorem A5 {c:Nat}{cs:List Nat}:aaN (a5 cs) (bM c)=(cQ c cs).map a5:=by
 have hf:∀p∈aaN (a5 cs) (bM c),c∉p.cps.toList:=StrLaws.split_free (a5 cs) c;have hj:=StrLaws.join_split (a5 cs) (bM c);have hn:=A6 (a5 cs) (bM c);generalize aaN (a5 cs) (bM c)=ps at hf hj hn ⊢
 have e:ps=(ps.map λp=>p.cps.toList).map a5:=by
  rw[ZM];exact(List.map_id' ps).symm
 rw[e,rB]at hj;have o8:iE c (ps.map λp=>p.cps.toList)=cs:=by
  have:=congrArg (λs:Str=>s.cps.toList) hj;simpa[a5] using this
 rw[<- o8,gz (by simpa using hn) λp hp=>by
  obtain⟨q,hq,rfl⟩:=ZE.mp hp;exact hf q hq]
 exact e
def wM (d0:D)(ds:List D):Option D:=match ds with
 |[e]=>(D.lL d0).bind λx=>(D.lL e).bind λy=>if y.length=1/\x.length<=1000000 then some (.lst ((aaN x y).map D.str)) else none
 |_=>none
theorem Ag {d0 d:D}{ds:List D}(h:wM d0 ds=some d):∃x y,d0=.str x/\ds=[.str y]/\y.length=1/\x.length<=1000000/\d=.lst ((aaN x y).map D.str):=by
 cases ds with
 |nil=>cases h
 |cons e r =>
  cases r with
  |cons _ _=>cases h
  |nil =>
   obtain⟨x,h1,h⟩:=Zq.mp h;obtain⟨y,h2,h⟩:=Zq.mp h
   by_cases hq:y.length=1/\x.length<=1000000
   ·rw[if_pos hq]at h;cases h;exact⟨x,y,D.cP h1,by rw[D.cP h2],hq.1,hq.2,rfl⟩
   ·rw[if_neg hq]at h;cases h
theorem s_ {P:Y0}{w:Zd}{W:Addr->Prop}{H:Hp}:∀ps:List Str,ao P w W H (ps.map D.str) (ps.map V.str)
 |[]=>rfl
 |_::ps=>⟨_,_,rfl,rfl,s_ ps⟩
theorem pD:∀(ps:List Str) (t:Nat),Vals (ps.map V.str) (strsFrom t ps)
 |[],_=>.nil
 |_::ps,t=>.cons ⟨_,rfl⟩ (pD ps (t+1))
theorem split_len {x y:Str}:(aaN x y).length<=x.length+2:=by
 unfold aaN
 split
 ·exact aaV (Zm _)
 ·split
  ·exact aaV (Zm _)
  ·rw[length_partsBetween];exact aaV (StrLaws.occ_length_le x y 0 x.length (x.length+1))
theorem Cq {X:Cx}:PK X "str.split" wM NL:=by
 intro pins s σ H x xs v us Q I rx rs h;obtain⟨W,d0,ds,d,hd,r0,r1,e,q⟩:=h;obtain⟨a,b,rfl,rfl,hb,ha,rfl⟩:=Ag e;cases (show x=V.str a from r0)
 cases mO r1;obtain⟨t,rfl⟩:=rx;obtain⟨u,rfl,t2,rfl⟩:=vals1 rs;have hn:H s.heap.objs.size=none:=I.bu.fresh (YY _);have hl:(aaN a b).length<=Zf:=ZO split_len (by rw[Zw];lia)
 have key:∀(us:List YU) (tk:Nat),Vals ((aaN a b).map V.str) us->EP X pins σ Q (.ref s.heap.objs.size) {s with toks:=tk,heap:=s.heap.push {cls:=.type "list",data:=.seq us.toArray}}:=by
  intro us tk hv;have I2:=I.Cv (t':=tk) hv (by rw[YX];exact hl)
  have rp:∀{W':Addr->Prop},¬ W' s.heap.objs.size->Rp X W' (upd H s.heap.objs.size (.lst ((aaN a b).map V.str))) (.lst ((aaN a b).map D.str)) (.ref s.heap.objs.size):=λnw=>⟨_,_,rfl,aE,nw,s_ _⟩;exact⟨.ref s.heap.objs.size,_,I2,rfl,q _ _ (aD.new hn) (rp λz=>hd _ z hn) λ_=>rp λz=>z hn⟩
 have et:aaN a b=if (decide (a.length<b.length) || decide (ab4 a<ab4 b))=true then [a] else if (aae a b 0 a.length (a.length+1)).isEmpty=true then [a] else Builtin.Str.partsBetween a (aae a b 0 a.length (a.length+1)) b.length:=rfl
 cases h1:(decide (a.length<b.length) || decide (ab4 a<ab4 b))with
 |true =>
  rw[if_pos h1]at et;exact aaZ PySem.F.slot_str_split (abK _ _ _) PySem.F.entry_str_split (PySem.F.args_str_split_2 _ _) (meets_str_split_cannot_occur a b t t2 h1) (key _ _ (by rw[et];exact .cons ⟨_,rfl⟩ .nil))
 |false =>
  rw[if_neg (by rw[h1];simp)]at et
  cases h2:(aae a b 0 a.length (a.length+1)).isEmpty with
  |true =>
   rw[if_pos h2]at et;exact aaZ PySem.F.slot_str_split (abK _ _ _) PySem.F.entry_str_split (PySem.F.args_str_split_2 _ _) (meets_str_split_not_found a b t t2 h1 (by rw[hb];rfl) h2) (key _ _ (by rw[et];exact .cons ⟨_,rfl⟩ .nil))
  |false =>
   rw[if_neg (by rw[h2];simp)]at et
   refine aaZ PySem.F.slot_str_split (abK _ _ _) PySem.F.entry_str_split (PySem.F.args_str_split_2 _ _) (meets_str_split_sep a b t t2 h1 (by rw[hb];rfl) h2 (by rw[Zw];lia) (by rw[<- et];exact hl)) (key _ _ ?_)
   rw[et];exact pD _ _
def tS (i:Int):Str:=(toString i:String)
def yy:List D->Option D
 |[.int i]=>if i.natAbs.log2<1920 then some (.str (tS i)) else none
 |_=>none
theorem DA {ds:List D}{d:D}(h:yy ds=some d):∃i:Int,ds=[.int i]/\i.natAbs.log2<1920/\d=.str (tS i):=by
 unfold yy at h
 split at h
 ·split at h
  ·cases h;exact⟨_,rfl,by assumption,rfl⟩
  ·cases h
 ·cases h
theorem i3 {X:Cx}:a_ X (.type "str") yy:=by
 intro pins s σ H xs us Q I r h;obtain⟨W,ds,d,hd,r1,e,q⟩:=h;obtain⟨i,rfl,hi,rfl⟩:=DA e;obtain⟨v,r',rfl,h1,hr⟩:=r1;cases hr;cases (show v=.int i from h1)
 obtain⟨v1,rfl,t,rfl⟩:=vals1 r;exact PySem.P.str_of_int hi ⟨.str (tS i),H,I.tok _,⟨_,rfl⟩,q _ _ (aD.refl _) rfl⟩
def yE:List D->Option D
 |[.str x]=>if x.length<=640 then (PySem.intText? x).map D.int else none
 |_=>none
theorem DF {ds:List D}{d:D}(h:yE ds=some d):∃x n,ds=[.str x]/\x.length<=640/\PySem.intText? x=some n/\d=.int n:=by
 unfold yE at h
 split at h
 ·split at h
  ·obtain⟨n,h1,rfl⟩:=Zn.mp h;exact⟨_,n,rfl,by assumption,h1,rfl⟩
  ·cases h
 ·cases h
theorem w6 {X:Cx}:a_ X (.type "int") yE:=by
 intro pins s σ H xs us Q I r h;obtain⟨W,ds,d,hd,r1,e,q⟩:=h;obtain⟨x,n,rfl,hl,hn,rfl⟩:=DF e;cases mO r1;obtain⟨v1,rfl,t,rfl⟩:=vals1 r;exact PySem.W.KIN.call_text hn hl ⟨.int n,H,I.tok _,⟨_,rfl⟩,q _ _ (aD.refl _) rfl⟩
def my:List D->Option (List Str)
 |[]=>some []
 |d::ds=>(D.lL d).bind λx=>(my ds).bind λxs=>some (x::xs)
theorem sP:∀{ds:List D} {xs:List Str},my ds=some xs->ds=xs.map D.str
 |[],_,h=>by cases h;rfl
 |d::ds,xs,h=>by
  obtain⟨x,h1,h⟩:=Zq.mp h;obtain⟨ys,h2,h⟩:=Zq.mp h;cases h;rw[D.cP h1,sP h2];rfl
def oY (sep:Str)(xs:List Str):Nat:=(xs.map (·.length)).sum+xs.length*sep.length
def yC (d0:D)(ds:List D):Option D:=match ds with
 |[e]=>(D.lL d0).bind λx=>(D.zJ e).bind λes=>(my es).bind λxs=>if oY x xs<=1000000 then some (.str (aat x xs)) else none
 |_=>none
theorem DD {d0 d:D}{ds:List D}(h:yC d0 ds=some d):∃x xs,d0=.str x/\ds=[.lst (xs.map D.str)]/\oY x xs<=1000000/\d=.str (aat x xs):=by
 cases ds with
 |nil=>cases h
 |cons e r =>
  cases r with
  |cons _ _=>cases h
  |nil =>
   obtain⟨x,h1,h⟩:=Zq.mp h;obtain⟨es,h2,h⟩:=Zq.mp h;obtain⟨xs,h3,h⟩:=Zq.mp h
   by_cases hq:oY x xs<=1000000
   ·rw[if_pos hq]at h;cases h;exact⟨x,xs,D.cP h1,by rw[D.rA h2,sP h3],hq,rfl⟩
   ·rw[if_neg hq]at h;cases h
theorem tj {P:Y0}{w:Zd}{W:Addr->Prop}{H:Hp}:∀{xs:List Str} {vs:List V},ao P w W H (xs.map D.str) vs->vs=xs.map V.str
 |[],_,h=>h
 |x::xs,_,h=>by
  obtain⟨v,r,e,h1,h2⟩:=h;rw[e,tj h2,show v=V.str x from h1]
  rfl
theorem uy (sep:Str):∀(xs:List Str) (n:Nat),xs.foldl (λa x=>a+x.length+sep.length) n=n+oY sep xs
 |[],_=>by simp[oY]
 |x::xs,n=>by
  rw[aaH,uy sep xs];unfold oY;rw[Zx,acr,Zc,Nat.succ_mul];lia
theorem tZ {X:Cx}:PK X "str.join" yC NF:=by
 intro pins s σ H x xs v us Q I rx rs h;obtain⟨W,d0,ds,d,hd,r0,r1,e,q⟩:=h;obtain⟨a,ts,rfl,rfl,hb,rfl⟩:=DD e;cases (show x=V.str a from r0)
 obtain⟨v',r',rfl,h1,hr⟩:=r1;cases (show r'=[] from hr)
 obtain⟨ad,ws,rfl,h2,_,h3⟩:=h1;rw[tj h3]at h2;obtain⟨t,rfl⟩:=rx;obtain⟨u,rfl,ru⟩:=vals1 rs;cases ru;obtain⟨its,r,ht,hz⟩:=I.list (dC.of h2);obtain⟨l,rfl,el⟩:=jX r;have KA:Builtin.Str.tooLong ((l.map (·.1)).toArray.foldl (·+·.length+a.length) 0)=false:=by
  rw[el,List.foldl_toArray,uy];exact decide_eq_false (by rw[Zw];lia)
 refine aaZ PySem.F.slot_str_join (abK _ _ _) PySem.F.entry_str_join (PySem.F.args_str_join_2 _ _) (meets_str_join_list a t ad l KA) ⟨ht.isList,?_⟩;have eg:acn a (l.map (·.1))=aat a ts:=by rw[el];exact StrLaws.glued_eq_join a ts
 have wy:(aat a ts).length<=Zf:=ZO (StrLaws.join_length_le a ts) (ZO hb (by rw[Zw];lia))
 have fin:∀tk OX,EP X pins σ Q (.str (aat a ts) tk) {s with toks:=OX}:=λtk OX=>⟨.str (aat a ts),H,I.tok _,⟨tk,rfl⟩,q _ _ (aD.refl _) rfl λf=>rfl⟩
 cases l with
 |nil =>
  refine⟨by rw[eg];exact wy,?_⟩
  rw[eg];exact fin _ _
 |cons p l =>
  cases l with
  |nil =>
   have e1:p.1=aat a ts:=by rw[<- el];rfl
   show EP X pins σ Q (.str p.1 p.2) s;rw[e1];exact fin _ s.toks
  |cons p2 l =>
   refine⟨by rw[eg];exact wy,?_⟩
   rw[eg];exact fin _ _
def Dz:D->Option Str
 |.int i=>if i.natAbs.log2<1920 then some (tS i) else none
 |.str x=>if x.length<=1000000 then some x else none
 |_=>none
theorem oi {i:Int}(h:i.natAbs.log2<1920):Dz (.int i)=some (tS i):=if_pos h
theorem Dy {x:Str}(h:x.length<=1000000):Dz (.str x)=some x:=if_pos h
def Wy (φ:aR):aR:=λβ R=>φ β λd _ β1=>∃y,Dz d=some y/\R (.str y) .own β1
section
variable {X:Cx}{C:Cfg}{e:Expr}{es:List Expr}{φ:aR}{p p':Bool}{pos:Pos}
theorem xJ (he:PQ X C p e φ):PQ X C p (.FormattedValue e (-1) none pos) (Wy φ) :=
 ⟨λβ R R' k h=>he.mono β _ _ (λd kd β1 h=>by obtain⟨y,h1,q⟩:=h;exact⟨y,h1,k _ _ _ q⟩) h,λpins s σ H Q I h=>by
  obtain⟨β,own,sq,h⟩:=h;refine FormattedValue_plain (bE (he.pe pins s σ H (λv H1=>∃d y,Dz d=some y/\(∃W,Rp X W H1 d v)/\Q (.str y) H1) I (tQ.of he sq h λd k β1 v H1 aC hq o1 r1=>?_)) λu s1 hz=>?_)
  ·obtain⟨y,h1,q⟩:=hq;exact⟨d,y,h1,⟨_,r1.rep⟩,q _ _ aC o1 we⟩
  ·obtain⟨v,H1,I1,r1,d,y,h1,⟨W,r2⟩,q⟩:=hz;unfold Dz at h1
   split at h1
   ·split at h1
    ·cases h1;cases (show v=.int _ from r2)
     obtain⟨t,rfl⟩:=r1;exact formatField_int_small (by assumption) ⟨.str (tS _),_,I1.tok _,⟨_,rfl⟩,q⟩
    ·cases h1
   ·split at h1
    ·cases h1;cases (show v=.str _ from r2)
     obtain⟨t,rfl⟩:=r1;exact formatField_str (λt' tk=>⟨.str _,_,I1.tok _,⟨_,rfl⟩,q⟩) (by rw[Zw];lia)
    ·cases h1
   ·cases h1⟩
structure PD (X:Cx)(C:Cfg)(p:Bool)(es:List Expr)(ψ:ba->(Str->ba->Prop)->Prop):Prop where
 mono:∀β R R',(∀y β,R y β->R' y β)->ψ β R->ψ β R'
 run:∀(pins:List (Addr×Obj)) (s:YW) (σ:St) (H:Hp) (Q:VK) (out:Str),Inv X pins σ H s->out.length+1000000*es.length<=Zf ->
  (∃β own,SQ X C σ H β own/\ψ β λy β'=>∀H' aU,Out X C σ H own p β' H' aU->Q (.str (out++y)) H')->Zr (model X.prog X.w) X.A (joinParts out (evalEach es X.env)) (EP X pins σ Q) X.xe s
def Q1:ba->(Str->ba->Prop)->Prop:=λβ R=>R Z1 β
theorem sR (a:Str):a++Z1=a:=by
 show (⟨a.cps++#[]⟩:Str)=a;rw[Array.append_empty]
theorem oR (a b c:Str):a++b++c=a++(b++c):=by
 show (⟨a.cps++b.cps++c.cps⟩:Str)=⟨a.cps++(b.cps++c.cps)⟩;rw[Array.append_assoc]
theorem xH:PD X C true [] Q1:=⟨λβ R R' k h=>k _ _ h,λpins s σ H Q out I hl h=>by
 obtain⟨β,own,sq,h⟩:=h;refine joinParts_nil ⟨.str out,H,I.tok _,⟨_,rfl⟩,?_⟩ (by simpa using hl)
 have:=h H own (Out.refl sq _)
 rwa [sR]at this⟩
def Nz (φ:aR)(ψ:ba->(Str->ba->Prop)->Prop):ba->(Str->ba->Prop)->Prop:=λβ R=>φ β λd _ β1=>∃y,d=.str y/\y.length<=1000000/\ψ β1 λz β2=>R (y++z) β2
theorem eE {ψ:ba->(Str->ba->Prop)->Prop}(he:PQ X C p e φ)(hr:PD X C p' es ψ):PD X C (p&&p') (e::es) (Nz φ ψ) :=
 ⟨λβ R R' k h=>he.mono β _ _ (λd kd β1 h=>by obtain⟨y,h1,h2,q⟩:=h;exact⟨y,h1,h2,hr.mono _ _ _ (λz β2=>k _ _) q⟩) h,λpins s σ H Q out I hl h=>by
  obtain⟨β,own,sq,h⟩:=h;rw[Zc,Nat.mul_succ]at hl;show Zr _ _ (joinParts out (eval e X.env::evalEach es X.env)) _ _ s;refine joinParts_cons (bE (he.pe pins s σ H (λv H1=>∃y β1 aC,v=V.str y/\y.length<=1000000/\Out X C σ H own p β1 H1 aC/\ψ β1 λz β2=>∀H' aU,Out X C σ H own (p&&p') β2 H' aU->Q (.str (out++(y++z))) H') I (tQ.of he sq h λd k β1 v H1 aC hq o1 r1=>?_)) λu s1 hz=>?_)
  ·obtain⟨y,rfl,h2,q⟩:=hq;exact⟨y,β1,aC,r1.rep,h2,o1,q⟩
  ·obtain⟨v,H1,I1,r1,y,β1,aC,rfl,h2,o1,q⟩:=hz;obtain⟨t,rfl⟩:=r1;have hy:(out++y).length=out.length+y.length:=strLen_append ..
   refine⟨by rw[hy];lia,hr.run pins s1 σ H1 Q (out++y) I1 (by rw[hy];lia) ⟨β1,aC,o1.sq,hr.mono _ _ _ (λz β2 q H' aU o2=>?_) q⟩⟩
   rw[oR];exact q H' aU (o1.trans o2)⟩
def Ww (ψ:ba->(Str->ba->Prop)->Prop):aR:=λβ R=>ψ β λy β1=>R (.str y) .own β1
theorem sQ (a:Str):Z1++a=a:=by
 show (⟨#[]++a.cps⟩:Str)=a;rw[Array.empty_append]
theorem xK {e1 e2:Expr}{ψ:ba->(Str->ba->Prop)->Prop}(h:PD X C p (e1::e2::es) ψ)(hl:(e1::e2::es).length<=16:=by decide):PQ X C p (.JoinedStr (e1::e2::es) pos) (Ww ψ) :=
 ⟨λβ R R' k q=>h.mono β _ _ (λy β1=>k _ _ _) q,λpins s σ H Q I hq=>by
  obtain⟨β,own,sq,hq⟩:=hq;refine JoinedStr_many (h.run pins s σ H Q Z1 I (by show 0+1000000*_<=_;rw[Zw];lia) ⟨β,own,sq,h.mono _ _ _ (λy β1 q H' aU o=>?_) hq⟩)
  rw[sQ];exact q _ H' aU o we⟩
end
theorem sH {prog:Y0}{w:Zd}{A:ZQ}{I:Addr}{fp wr:List Addr}{G:Array GenState->Array GenState->Prop}{n:Nat}{P:Nat->YU->Prop}{St:Nat->YW->Prop}
  (W:WalksS prog w A I fp wr G (n+1) P St):WalksS prog w A I fp wr G n (λi=>P (i+1)) (λi=>St (i+1)) :=
 ⟨W.sub,W.grefl,W.gtrans,λi=>W.frame (i+1),λi s Q E hi st hQ=>W.item (i+1) s Q E (Nat.succ_lt_succ hi) st hQ,W.done,λi=>W.self (i+1)⟩
theorem sJ {prog:Y0}{w:Zd}{A:ZQ}{E:YU->YW->Prop}{s:YW}{l:Addr}{x:YU}{r:List YU}{Q:List YU->YW->Prop}(hh:A.handled=none)(hl:s.heap.IsList l (x::r).toArray)(hz:r.length<=Zf)
  (q:∀(h1:Heap) (tk:Nat),(∀b o,s.heap.get? b=some o->h1.get? b=some o)->Q [x,.ref h1.objs.size] {s with heap:=h1.push {cls:=.type "list",data:=.seq r.toArray},toks:=tk}) :
  Zr (model prog w) A (unpackItems (.ref l) 2 (some 1)) Q E s:=by
 have ic:l≠s.heap.objs.size:=by obtain⟨o,ho,_⟩:=hl;exact Zu (Za ho)
 unfold unpackItems;refine YV ?_;unfold notIterableAtAll;refine YV (wpAny_specialOf hl.typeIs PySem.F.slot_list_iter.lookup ?_);refine YZ ?_;simp only[abw,if_false];refine YV (ZW (acj hl ?_));have hit:(s.heap.push {cls:=.type "list_iterator",data:=.fields #[.ref l,.int 0 0]}).IsListIter s.heap.objs.size l 0:=⟨_,ZC _ rfl,rfl,rfl⟩;have Vj:(s.heap.push {cls:=.type "list_iterator",data:=.fields #[.ref l,.int 0 0]}).IsList l (x::r).toArray:=by
  obtain⟨o,ho,h2⟩:=hl;exact⟨o,Y3 _ ho,h2⟩
 have kp:∀b o,s.heap.get? b=some o->(s.heap.push {cls:=.type "list_iterator",data:=.fields #[.ref l,.int 0 0]}).get? b=some o:=λb o e=>Y3 _ e;generalize hI:s.heap.objs.size=it at *
 have Gj:∀b o,s.heap.get? b=some o->b≠it:=λb o e z=>by
  have:=Za e;rw[hI,z]at this;exact aaU _ this
 generalize s.heap.push {cls:=.type "list_iterator",data:=.fields #[.ref l,.int 0 0]}=h0 at *
 refine YV (ZW ?_);show Zr _ _ (pyNext (.ref it) >>= _) _ _ _;refine YV (wpAny_pyNext_list_item hit Vj (x:=x) rfl λh1 N3 Pf=>?_);refine YV (ZW (YZ (YZ ?_)));rw[if_neg (by simp)]
 have NZ:h1.IsList l (x::r).toArray:=by
  obtain⟨o,ho,h2⟩:=Vj;exact⟨o,Pf.extBut _ _ ic ho,h2⟩
 have hb:∀b∈[it,l],b<h1.objs.size:=λb hb=>by
  rcases Y4.mp hb with rfl|hb
  ·obtain⟨o,ho,_⟩:=N3;exact Za ho
  ·rw[Y1.mp hb];obtain⟨o,ho,_⟩:=NZ;exact Za ho
 refine YV (ZW (wpAny_collect_iter (T:="list_iterator") (.inr (.inr (.inl rfl))) (sH (n:=r.length) (Walks.list (A:=A.in1) hh it l ic (x::r).toArray).toS) (λi s z=>z.1.typeIs) ⟨N3,NZ⟩ hb (by simp) (λs' acc mv hi=>?_) hz))
 obtain⟨e1,e2⟩:=hi;have er:acc.toList=r:=by
  refine aaS λj=>?_;rw[Zk];cases hj:acc[j]? with
  |some v =>
   have:=e2 j v hj;simpa using this.symm
  |none =>
   have:=Array.getElem?_eq_none_iff.mp hj;rw[e1]at this;exact(aao this).symm
 rw[er,if_neg (by simp)]
 obtain⟨m1,m2,m3,m4,m5⟩:=mv;have et:List.take (r.length-(2-1-1)) r=r:=aay (by simp)
 have ed:List.drop (r.length-(2-1-1)) r=[]:=aaK (by simp)
 rw[et,ed];refine YV (aal (YZ ?_) (by seq_fits))
 have es:s'={s with heap:=s'.heap,toks:=s'.toks}:=by
  obtain⟨a,b,c,d,e⟩:=s';cases m2;cases m3;cases m4;rfl
 have k2:∀b o,s.heap.get? b=some o->s'.heap.get? b=some o:=λb o e=>m1 b o (by
  intro z;exact Gj b o e (Y1.mp z)) (Pf.extBut b o (Gj b o e) (kp b o e))
 have:=q s'.heap s'.toks k2;rw[es];exact this
section
variable {X:Cx}{C:Cfg}{p:Bool}{e:Expr}{φ:aR}{i j kk:Nat}{x y:Str}{px py tp sp pos:Pos}
def Og (K:PySem.W.Frag)(i j:Nat):TG:=λv σ H Q=>∃a x0 xs,v=.ref a/\dC K H a (x0::xs)/\xs.length<=1000000/\∀S,H S=none->Q ((σ.set i (some x0)).set j (some (.ref S))) (upd H S (.lst xs))
theorem Fn (hc:X.calm=true)(hN:X.N.Nodup)(hi:X.N[i]?=some x)(hj:X.N[j]?=some y)(hx:Loc X.env.scope x)(hy:Loc X.env.scope y)
  (hf:X.fn x=true\/X.env.scope.names.lookup x=some .local) (Tr:X.fn y=true\/X.env.scope.names.lookup y=some .local)
  (hn:(aac [.Name x px,.Starred (.Name y py) sp] X.env).length=2:=by rfl) (lP:(aac [.Name x px,.Starred (.Name y py) sp] X.env).findIdx? (·.1)=some 1:=by rfl)
  (hs:(aac [.Name x px,.Starred (.Name y py) sp] X.env).map (·.2)=[assign (.Name x px) X.env,assign (.Name y py) X.env]:=by rfl) :
  PG X (.Tuple [.Name x px,.Starred (.Name y py) sp] kk tp) (Og X.K i j):=by
 intro pins s σ H v u Q I r hw;obtain⟨a,x0,xs,rfl,hq,hz,hw⟩:=hw;cases r;obtain⟨its,rv,ht,_⟩:=I.list hq;cases rv with
 |cons r0 rr =>
  have LX:xs.length<=Zf:=ZO hz (by rw[Zw];lia)
  rw[assign_Tuple];refine YV (aaT ?_);unfold unpack;rw[hn,lP];refine YV (ZW (sJ (I.ok.hd hc) ht.isList (by rw[<- rr.length];exact LX) λh1 tk k=>?_))
  have I1:Inv X pins σ H {s with heap:=h1,toks:=tk}:=I.kept k
  have I2:=I1.Cv (t':=tk) rr LX;have hS:H h1.objs.size=none:=I1.bu.fresh (YY _);rw[hs];refine assignInOrder_cons (bE (qZ hN hi hx hf pins _ σ _ x0 _ (λσ' H'=>Q (σ'.set j (some (.ref h1.objs.size))) H') I2 r0 (hw _ hS)) λ_ s1 hq=>?_);obtain⟨σ1,H1,I3,q3⟩:=hq;refine assignInOrder_cons (bE (qZ hN hj hy Tr pins s1 σ1 H1 (.ref h1.objs.size) _ Q I3 rfl q3) λ_ s2 hq=>?_);exact YZ hq
theorem Ft (he:∀U,PQ X (C.u U) p e φ)(hc:X.calm=true)(hN:X.N.Nodup)(hi:X.N[i]?=some x:=by rfl)(hj:X.N[j]?=some y:=by rfl)(hx:Loc X.env.scope x:=by first|exact .inl rfl|exact .inr rfl)(hy:Loc X.env.scope y:=by first|exact .inl rfl|exact .inr rfl)
  (hf:X.fn x=true\/X.env.scope.names.lookup x=some .local:=by first|exact .inl rfl|exact .inr rfl|assumption) (Tr:X.fn y=true\/X.env.scope.names.lookup y=some .local:=by first|exact .inl rfl|exact .inr rfl|assumption)
  (hs:swapsWithSole [.Tuple [.Name x px,.Starred (.Name y py) sp] kk tp] e pos.line X.env=pure false:=by rfl) (hw:swappedStores [.Tuple [.Name x px,.Starred (.Name y py) sp] kk tp] e X.env=pure none:=by rfl)
  (h1:(aac [.Tuple [.Name x px,.Starred (.Name y py) sp] kk tp] X.env).map (·.2)=[assign (.Tuple [.Name x px,.Starred (.Name y py) sp] kk tp) X.env]:=by rfl) :
  PB X C (.Assign [.Tuple [.Name x px,.Starred (.Name y py) sp] kk tp] e pos) (λE β=>φ β λd k β'=>∃d1 ds,d=.lst (d1::ds)/\D.bP (d1::ds)=true/\ds.length<=1000000/\E.nx ((β'.set i (some (.val true d1))).set j (some (.own (.lst ds))))) :=
 ⟨λE E' β l q=>(he λ_=>False).mono _ _ _ (λd k β' q=>by obtain⟨d1,ds,e,f,hl,q⟩:=q;exact⟨d1,ds,e,f,hl,l.nx _ q⟩) q,λpins s σ H D I SF=> by
  obtain⟨Z,E,β,⟨own,sq,n⟩,q,ok⟩ := SF;refine vW (he λa=>H a=none).pe (Fn hc hN hi hj hx hy hf Tr) hs hw h1 pins s σ H D I ?_;refine tQ.of (he λa=>H a=none) (sq.pB (C:=C.z) (U:=λa=>H a=none) λa z=>z) q λd k β' v H' aU hq o r=>?_;obtain⟨d1,ds,rfl,f,hl,q⟩:=hq;obtain⟨a,vs,rfl,ha,_,v0,vr,rfl,Wm,UG⟩:=r.rep;obtain⟨f1,f2⟩:=Bool.and_eq_true_iff.mp f;have ll:vr.length<=1000000:=by rw[UG.length];exact hl
  refine⟨a,v0,vr,rfl,dC.of ha,ll,λS hS=>?_⟩;have sm:aD H' (upd H' S (.lst vr)):=aD.new hS;have s0:=o.sq.same sm;have s1:=s0.d4 (i:=i) (y:=true) (aF.flat f1 (Wm.same sm));have ow:Own X.prog X.w (upd H' S (.lst vr)) (.lst ds) (.ref S) [S]:=⟨S,vr,[],rfl,aE,rfl,hZ (W:=λ_=>False) f2 (ao.flat f2 (UG.same sm))⟩;have nw:¬ Wn aU S:=λh=>by obtain⟨k,hk⟩:=h;exact(o.sq.dm k S hk).1 hS
  have s2:=s1.vR (i:=j) ow (by simp) λc hc=>by
   rw[Y1.mp hc];exact⟨ZT λz=>o.sq.iW S z hS,λz=>nw (fq z),o.sn.free hS⟩
  refine ok.nx _ _ _ ⟨_,s2,?_⟩ q;have m:=n.trans (o.sn.same sm);exact⟨λb hq=>by
   obtain⟨k,hk⟩:=hq
   by_cases Vl:j=k
   ·rw[<- Vl,os_eq]at hk;rw[Y1.mp hk];exact .inr (n.free (o.sn.free hS))
   ·rw[bp Vl]at hk;exact m.w b (fq ⟨k,hk⟩),m.k,m.d⟩⟩
end
end L2.Q
namespace L2
open PySem PySem.Spec PySem.SeqAt PyProof.Rows
def wV:List D->Option (List Bool)
 |[]=>some []
 |.bl b::ds=>(wV ds).map (b::·)
 |_::_=>none
theorem yJ:∀{ds:List D} {bs:List Bool},wV ds=some bs->ds=bs.map D.bl
 |[],_,h=>by cases h;rfl
 |d::ds,bs,h=>by
  cases d with
  |bl b =>
   obtain⟨r,h1,rfl⟩:=Zn.mp (show (wV ds).map (b::·)=some bs from h)
   rw[yJ h1];rfl
  |_=>cases h
theorem uW:∀bs:List Bool,wV (bs.map D.bl)=some bs
 |[]=>rfl
 |b::bs=>by show (wV (bs.map D.bl)).map (b::·)=_;rw[uW bs];rfl
def uX:List D->Option D
 |[d]=>d.zJ.bind λds=>(wV ds).map λbs=>.bl (bs.any id)
 |_=>none
theorem jO (bs:List Bool):uX [.lst (bs.map D.bl)]=some (.bl (bs.any id)):=by
 show (wV (bs.map D.bl)).map _=_;rw[uW];rfl
section
variable {P:Y0}{w:Zd}{W:Addr->Prop}{H:Hp}
theorem tq:∀{bs:List Bool} {vs:List V},ao P w W H (bs.map D.bl) vs->vs=bs.map V.bl
 |[],_,h=>h
 |b::bs,_,lO=>by obtain⟨v,r,e,h1,h2⟩:=lO;rw[e,show v=.bl b from h1,tq h2];rfl
end
theorem sI:∀{bs:List Bool} {us:List YU},Vals (bs.map V.bl) us->us=bs.map Value.bool
 |[],_,.nil=>rfl
 |b::bs,_,.cons r q=>by rw[Zx,<- sI q,show _=Value.bool b from r]
variable {X:Cx}
theorem d3 (hc:X.calm=true):a_ X (.builtin "any") uX:=by
 intro pins s σ H xs us Q I r h;obtain⟨W,ds,d,hd,r1,e,q⟩:=h
 match ds,e with
 |[x],e =>
  obtain⟨es,e1,e2⟩:=Zq.mp (show x.zJ.bind _=some d from e)
  obtain⟨bs,e3,rfl⟩:=Zn.mp e2;rw[D.rA e1,yJ e3]at r1;obtain⟨x,rfl,p,vs,rfl,h1,n1,q1⟩:=qG r1;obtain⟨u,rfl,ru⟩:=vals1 r;cases ru;rw[tq q1]at h1;obtain⟨its,r2,ht,hz⟩:=I.list (dC.of h1);obtain rfl:=sI r2;obtain⟨ol,gl,_⟩:=id ht.isList;have lt:p<s.heap.objs.size:=Za gl;have Wk:=Walks.list (prog:=X.prog) (w:=X.w) (A:=X.A.in1) (I.ok.hd hc) s.heap.objs.size p (Zu lt) (bs.map Value.bool).toArray;refine call_any_walk (acj ht.isList ⟨s.heap.objs.size,_,_,_,_,_,λj=>bs.getD j false,rfl,Wk,⟨⟨_,ZC _ rfl,rfl,rfl⟩,ht.isList.push _⟩,λj v s' Q' E' hv hq=>?_,λh' tk k=>?_⟩)
  ·have hv:((bs.map Value.bool).toArray)[j]?=some v:=hv;rw[abI,Zj]at hv;obtain⟨b,hb,rfl⟩:=Zn.mp hv;have hq:Q' (bs.getD j false) s':=hq;rw[aaO,hb]at hq;exact aau hq
  ·have ea:((Zi (bs.map Value.bool).toArray.size).any λj=>bs.getD j false)=bs.any id:=by
    rw[ab0,acE,acE];constructor
    ·rintro⟨j,hj,hb⟩;rw[aaO]at hb;cases hg:bs[j]? with
     |none=>rw[hg]at hb;cases hb
     |some b=>rw[hg]at hb;exact⟨b,Zz hg,hb⟩
    ·rintro⟨b,hb,ht⟩;obtain⟨j,hj⟩:=abb hb;refine⟨j,?_,by rw[aaO,hj];exact ht⟩
     rw[ZJ];have:=(Y_.mp hj).1;simpa using this
   rw[ea];exact⟨.bl (bs.any id),H,I.kept (t':=tk) λb o e=>k b o (by
    have:=Za e;simp only[Y1];exact Zu this) (Y3 _ e),rfl,q _ _ (aD.refl _) rfl⟩
namespace Q
section
end
end Q
def Apart (t u:List Int):Prop:=cZ t u=false/\da t u=false
def Good (rows ts:List (List Int)):Prop:=(∀t∈ts,t∈rows)/\ts.Pairwise (λa b=>HT.lexLt a b=true)/\ts.Pairwise Apart
theorem cF {t u:List Int}:cZ t u=true↔∃i∈t,i∈u:=by
 unfold cZ;rw[acE];simp
theorem sX (t u:List Int):cZ t u=cZ u t:=by
 rw[ab0,cF,cF];exact⟨λlQ=>by obtain⟨i,a,b⟩:=lQ;exact⟨i,b,a⟩,λrD=>by obtain⟨i,a,b⟩:=rD;exact⟨i,b,a⟩⟩
theorem iY {a b c d:Int}:rR a b c d=true↔(a<c/\c<b/\b<d)\/(c<a/\a<d/\d<b):=by
 unfold rR;simp[Bool.or_eq_true,ZI]
theorem u5 (t u:List Int):da t u=da u t:=by
 match t,u with
 |[a,b],[c,d] =>
  exact Bool.or_comm _ _
 |[],[]=>rfl
 |[],[_]=>rfl
 |[],[_,_]=>rfl
 |[],_::_::_::_=>rfl
 |[_],[]=>rfl
 |[_],[_]=>rfl
 |[_],[_,_]=>rfl
 |[_],_::_::_::_=>rfl
 |[_,_],[]=>rfl
 |[_,_],[_]=>rfl
 |[_,_],_::_::_::_=>rfl
 |_::_::_::_,[]=>rfl
 |_::_::_::_,[_]=>rfl
 |_::_::_::_,[_,_]=>rfl
 |_::_::_::_,_::_::_::_=>rfl
theorem Apart.symm {t u:List Int}(h:Apart t u):Apart u t:=⟨(sX u t).trans h.1,(u5 u t).trans h.2⟩
theorem Apart.ne {t u:List Int}(p:Pair t)(h:Apart t u):t≠u:=λe=>by
 obtain⟨a,b,rfl⟩:=p;have:=h.1;rw[<- e,abG]at this;exact this (cF.mpr ⟨a,by simp,by simp⟩)
theorem uA {rows ts:List (List Int)}{k:Nat}{t:List Int}(hk:k<ts.length):jJ rows ts k t=none↔t∈rows/\(∀u,0<k->ts[k-1]?=some u->HT.lexLt u t=true)/\∀j u,j<k->ts[j]?=some u->Apart u t:=by
 have Pz:∀(p:List Int->Bool) (j:Nat) (u:List Int),ts[j]?=some u->sr ts p j=p u:=λp j u e=>by unfold sr;rw[e]
 unfold jJ
 by_cases h1:t∈rows
 ·rw[if_pos h1]
  by_cases h2:(decide (0<k)&&sr ts (λu=>!HT.lexLt u t) (k-1))=true
  ·rw[if_pos h2];refine⟨λz=>(nomatch z),λkP=>?_⟩;obtain⟨_,z,_⟩:=kP;rw[ZI]at h2;have h0:0<k:=by simpa using h2.1
   have e:ts[k-1]?=some ts[k-1]:=Y2 (by lia)
   have:=h2.2;rw[Pz _ _ _ e,z _ h0 e]at this;exact absurd this (by simp)
  ·rw[if_neg h2];have o:∀u,0<k->ts[k-1]?=some u->HT.lexLt u t=true:=λu h0 e=>by
    rw[Pz _ _ _ e]at h2;cases q:HT.lexLt u t with
    |true=>rfl
    |false=>exact absurd (by rw[q];simp[h0]) h2
   have sh:∀p:List Int->Bool,(Zi k).find? (sr ts p)=none↔∀j u,j<k->ts[j]?=some u->p u=false:=λp=>by
    rw[List.find?_eq_none];refine⟨λz j u hj e=>?_,λz j hj=>?_⟩
    ·have:=z j (ZJ.mpr hj);rw[Pz p j u e]at this;simpa using this
    ·have o8:=ZJ.mp hj;have e:ts[j]?=some ts[j]:=Y2 (by lia)
     rw[Pz p j _ e,z j _ o8 e];simp
   cases q1:(Zi k).find? (sr ts λu=>cZ u t)with
   |some j =>
    refine⟨λz=>(nomatch z),λui=>?_⟩;obtain⟨_,_,z⟩:=ui;rw[(sh _).mpr λj u hj e=>(z j u hj e).1]at q1;cases q1
   |none =>
    cases q2:(Zi k).find? (sr ts λu=>da u t)with
    |some j =>
     refine⟨λz=>(nomatch z),λCS=>?_⟩;obtain⟨_,_,z⟩:=CS;rw[(sh _).mpr λj u hj e=>(z j u hj e).2]at q2;cases q2
    |none=>exact⟨λ_=>⟨h1,o,λj u hj e=>⟨(sh _).mp q1 j u hj e,(sh _).mp q2 j u hj e⟩⟩,λ_=>rfl⟩
 ·rw[if_neg h1];exact⟨λz=>(nomatch z),λz=>absurd z.1 h1⟩
theorem pw_iff {R:List Int->List Int->Prop}{ts:List (List Int)}:ts.Pairwise R↔∀(i j:Nat) (u t:List Int),i<j->ts[i]?=some u->ts[j]?=some t->R u t:=by
 rw[abh];refine⟨λh i j u t aT e1 e2=>?_,λh i j hi hj aT=>h i j _ _ aT (Y2 hi) (Y2 hj)⟩;obtain⟨hi,rfl⟩:=Y_.mp e1;obtain⟨hj,rfl⟩:=Y_.mp e2;exact h i j hi hj aT
theorem wD {rows ts:List (List Int)}:iR rows ts=none↔∀k<ts.length,iT rows ts k=none:=by
 unfold iR;rw[acb];exact⟨λh k hk=>h k (ZJ.mpr hk),λh k hk=>h k (ZJ.mp hk)⟩
theorem nP {rows ts:List (List Int)}:iR rows ts=none↔Good rows ts:=by
 rw[wD];constructor
 ·intro h;have h':∀k t,ts[k]?=some t->_:=λk t e=>(uA (Y_.mp e).1).mp ((kS e).symm.trans (h k (Y_.mp e).1));refine⟨λt ht=>?_,pw_iff.mpr ?_,pw_iff.mpr λi j u t aT e1 e2=>(h' j t e2).2.2 i u aT e1⟩
  ·obtain⟨k,e⟩:=aa1.mp ht;exact(h' k t e).1
  ·intro i j
   induction j with
   |zero=>intro u t aT;lia
   |succ j ih =>
    intro u t aT e1 e2;have hj:j<ts.length:=by have:=(Y_.mp e2).1;lia
    have e3:ts[j]?=some ts[j]:=Y2 hj;have l:=(h' (j+1) t e2).2.1 ts[j] (by lia) e3
    by_cases Tf:i<j
    ·exact gI (ih u ts[j] Tf e1 e3) l
    ·have:i=j:=by lia
     subst this;rw[e1]at e3;cases e3;exact l
 ·rintro⟨h1,h2,h3⟩ k hk;have e:ts[k]?=some ts[k]:=Y2 hk;rw[kS e];exact(uA hk).mpr ⟨h1 _ (abe hk),λu h0 eu=>pw_iff.mp h2 (k-1) k u _ (by lia) eu e,λj u hj eu=>pw_iff.mp h3 j k u _ hj eu e⟩
theorem ur {rows l:List (List Int)}(p:Pairs l):Good rows (cM l)↔(∀t∈l,t∈rows)/\l.Pairwise Apart:=by
 have pm:=aX l;have ps:Pairs (cM l):=λt ht=>p t (pm.mem_iff.mp ht);constructor
 ·rintro⟨h1,_,h3⟩;exact⟨λt ht=>h1 t (pm.mem_iff.mpr ht),(pm.pairwise_iff λh=>Apart.symm h).mp h3⟩
 ·rintro⟨h1,h3⟩;have VB:(cM l).Pairwise Apart:=(pm.pairwise_iff λh=>Apart.symm h).mpr h3;refine⟨λt ht=>h1 t (pm.mem_iff.mp ht),?_,VB⟩;have nd:(cM l).Pairwise (λa b=>a≠b):=VB.imp_of_mem λha _ h=>h.ne (ps _ ha);refine((gy l).and nd).imp λ{a b} ⟨h,n⟩=>?_;cases q:HT.lexLt a b with
  |true=>rfl
  |false=>exact absurd (fZ q h) n
def FQ:List Int->List Int
 |[a,b]=>[if b<a then b else a,if a<b then b else a]
 |t=>t
theorem FO {n:Int}{a b:Int}(h:AA n [a,b]):FQ [a,b]=[a,b]/\FQ [b,a]=[a,b]:=by
 obtain⟨a',b',e,h1,h2,h3⟩:=h;cases e;constructor
 ·show [if b<a then b else a,if a<b then b else a]=_
  rw[if_neg (by lia),if_pos h2]
 ·show [if a<b then a else b,if b<a then a else b]=_
  rw[if_neg (show ¬ b<a by lia),if_pos h2]
def VI (n:Int)(gs:List (List Int)):Prop:=∀g∈gs,∃a b,g=[a,b]/\AA n (FQ g)
def nU:FD:=λds R=>∃(n:Int) (gs:List (List Int)),ds=[.int n,.lst (gs.map kD)]/\0<=n/\gs.length<1000/\VI n gs/\R (.tup [.int n,.lst ((cM (jW (gs.map FQ))).map kD)])
theorem nU.mono:cN nU:=λds R R' k i5=>by obtain⟨n,gs,e,h1,h2,h3,q⟩:=i5;exact⟨n,gs,e,h1,h2,h3,k _ q⟩
theorem AZ {ts ks:List (List Int)}(hs:rX ts)(hn:ts.Nodup)(h:∀x,x∈ts↔x∈ks):cM (jW ks)=ts :=
 (qN ((aa_ hn (dt ks).1).mpr λx=>(h x).trans ((dt ks).2 x).symm) hs).symm
theorem rG (t:List Int):(kD t).flat=true:=by
 have:=aI [t];show D.bP (t.map D.int)=true;have h:(D.bP (t.map D.int)&&true)=true:=this
 rwa [Bool.and_true]at h
theorem Cf {n:Int}{t:List Int}(h:AA n t):FQ t=t:=by
 obtain⟨a,b,rfl,h'⟩:=h;exact(FO (n:=n) ⟨a,b,rfl,h'⟩).1
theorem FP {n:Int}{ts:List (List Int)}(h:b5 n ts):ts.map FQ=ts:=by
 conv=>rhs;rw[<- List.map_id ts]
 exact Z5 λt ht=>Cf (h t ht)
theorem b5.XO {n:Int}{ts:List (List Int)}(h:b5 n ts):VI n ts:=λt ht=>by
 obtain⟨a,b,e,_⟩:=id (h t ht);exact⟨a,b,e,by rw[Cf (h t ht)];exact h t ht⟩
end L2
namespace L2.Q
open PySem PySem.Spec PySem.SeqAt PyProof.Rows
structure Bs3 (mg:Str->Option YU):Prop extends Bs2 mg where
 sum:mg "sum" = none
theorem xE {α:Type}{n i:Nat}{f:Nat->α}(h:i<n):((Zi n).map f)[i]?=some (f i):=by
 rw[Zj,ab3 h];rfl
theorem eK {α:Type}{γ:eV}{τ:bt}{φ:aR}{l:List α}{f:α->D}{k:Kd}{va:ba}{K:List D->Prop}(t:α->Bool)(g:α->D)(h0:gj va va)(hl:l.length<=Zf)
  (h:∀x∈l,∀(x0:Option B) (o:List D) (J:ba->List D->Prop),o.length<Zf->(t x=true->∀x0,J (x0::va) (o++[g x]))->(t x=false->∀x0,J (x0::va) o)->γ (f x) (sk k (f x)) (x0::va) λβ1=>τ β1 λt β2=>if t=true then φ β2 λx kx β3=>F5 kx x/\o.length<Zf/\J β3 (o++[x]) else J β2 o)
  (q:K ((l.filter t).map g)):nj γ τ φ (l.map f) k (none::va) K:=by
 refine⟨λi β o=>i<=l.length/\(∃x0,β=x0::va)/\o=((l.take i).filter t).map g,⟨Zm _,⟨_,rfl⟩,rfl⟩,?_,?_⟩
 ·rintro i d β o hd ⟨hi,⟨x0,rfl⟩,rfl⟩;rw[Zj]at hd;obtain⟨x,hx,rfl⟩:=Zn.mp hd;have ic:i<l.length:=(Y_.mp hx).1;have hle:(((l.take i).filter t).map g).length<Zf:=by
   rw[YX];have:=aa2 t (l.take i);rw[ZH]at this;lia
  have e:l.take (i+1)=l.take i++[x]:=by rw[abD,hx];rfl
  refine h x (Zz hx) x0 _ (λβ o=>i+1<=l.length/\(∃x0,β=x0::va)/\o=((l.take (i+1)).filter t).map g) hle (λht x0=>?_) λht x0=>?_
  ·exact⟨ic,⟨_,rfl⟩,by rw[e,acd,aar,acD,if_pos ht];rfl⟩
  ·exact⟨ic,⟨_,rfl⟩,by rw[e,acd,aar,acD,if_neg (by rw[ht];simp)];simp⟩
 ·rintro β o ⟨_,⟨x0,rfl⟩,rfl⟩;rw[YX,abM];exact⟨h0,q⟩
theorem nk {α:Type}{γ:eV}{τ:bt}{φ:aR}{l:List α}{f:α->D}{k:Kd}{va:ba}{K:List D->Prop}(t:α->Bool)(g:α->D)(h0:gj va va)(hl:l.length<=Zf)
  (h:∀x∈l,∀(x0 x1:Option B) (o:List D) (J:ba->List D->Prop),o.length<Zf->(t x=true->∀x0 x1,J (x0::x1::va) (o++[g x]))->(t x=false->∀x0 x1,J (x0::x1::va) o)->γ (f x) (sk k (f x)) (x0::x1::va) λβ1=>τ β1 λt β2=>if t=true then φ β2 λx kx β3=>F5 kx x/\o.length<Zf/\J β3 (o++[x]) else J β2 o)
  (q:K ((l.filter t).map g)):nj γ τ φ (l.map f) k (none::none::va) K:=by
 refine⟨λi β o=>i<=l.length/\(∃x0 x1,β=x0::x1::va)/\o=((l.take i).filter t).map g,⟨Zm _,⟨_,_,rfl⟩,rfl⟩,?_,?_⟩
 ·rintro i d β o hd ⟨hi,⟨x0,x1,rfl⟩,rfl⟩;rw[Zj]at hd;obtain⟨x,hx,rfl⟩:=Zn.mp hd;have ic:i<l.length:=(Y_.mp hx).1;have hle:(((l.take i).filter t).map g).length<Zf:=by
   rw[YX];have:=aa2 t (l.take i);rw[ZH]at this;lia
  have e:l.take (i+1)=l.take i++[x]:=by rw[abD,hx];rfl
  refine h x (Zz hx) x0 x1 _ (λβ o=>i+1<=l.length/\(∃x0 x1,β=x0::x1::va)/\o=((l.take (i+1)).filter t).map g) hle (λht x0 x1=>?_) λht x0 x1=>?_
  ·exact⟨ic,⟨_,_,rfl⟩,by rw[e,acd,aar,acD,if_pos ht];rfl⟩
  ·exact⟨ic,⟨_,_,rfl⟩,by rw[e,acd,aar,acD,if_neg (by rw[ht];simp)];simp⟩
 ·rintro β o ⟨_,⟨x0,x1,rfl⟩,rfl⟩;rw[YX,abM];exact⟨h0,q⟩
theorem fH {a b:List D}(h:a.length+b.length<=1000000):ph (.lst a) (.lst b)=some (.lst (a++b)):=by
 show (if a.length+b.length<=Zf then _ else _)=_
 rw[if_pos (ZO h (by decide))]
theorem gg {n:Nat}(h:n<=1000):n<=Zf:=ZO h (by decide)
theorem wj {n i:Nat}{x:Int}(hx:x=(i:Int))(h:i<n):ud n x=some i:=by
 subst hx;unfold ud;rw[if_pos (by lia),if_pos (by lia)]
 simp
theorem xC {α:Type}{n i:Nat}{f:Nat->α}{y:α}(h:i<n):((Zi n).map f).set i y=(Zi n).map λk=>if k=i then y else f k:=by
 refine aaS λk=>?_;rw[aa5]
 by_cases hk:k<n
 ·rw[xE hk,xE hk,YX,aan]
  by_cases e:i=k
  ·rw[if_pos e,if_pos (e▸hk),if_pos e.symm]
  ·rw[if_neg e,if_neg (abP e)]
 ·rw[aao (l:=(Zi n).map f) (by simpa using hk),aao (l:=(Zi n).map λk=>if k=i then y else f k) (by simpa using hk),if_neg (by lia)]
end L2.Q
namespace L2
open PySem PySem.Spec PySem.SeqAt PyProof.Rows
theorem l4 {a b:Int}(h:vo a b):Lk (.int a) (.int b)=some (.int (a*b)):=by
 show (if vo a b then some (D.int (a*b)) else none)=_
 rw[if_pos h]
theorem DK {ts:List (List Int)}{k:Nat}:cutD (ts.map kD) none (some (k:Int))=(ts.take k).map kD:=by
 unfold cutD;rw[HT.sZ,HT.xD,List.drop_zero,List.map_take];simp
theorem DL {ts:List (List Int)}{k:Nat}:cutD (ts.map kD) (some (k:Int)) none=(ts.drop k).map kD:=by
 unfold cutD;rw[HT.sZ,HT.xD,List.map_drop]
 by_cases h:k<=(ts.map kD).length
 ·rw[Nat.min_eq_left h,aay (by rw[aaW];lia)]
 ·rw[Nat.min_eq_right (by lia),aaK (YY _),aaK (by lia)]
  exact List.take_nil
theorem Lh (t u:List Int):oK (kD t) (kD u)=some (.bl (!decide (t=u))):=oq (bh (gA t)) (bh (gA u)) (wI t u)
theorem qH {rows ch:List (List Int)}{t u:List Int}(g:Good rows ch)(ht:t∈ch)(hu:u∈ch)(hn:t≠u):Apart t u:=by
 obtain⟨i,hi⟩:=aa1.mp ht;obtain⟨j,hj⟩:=aa1.mp hu
 by_cases h:i<j
 ·exact pw_iff.mp g.2.2 i j t u h hi hj
 ·by_cases h2:j<i
  ·exact(pw_iff.mp g.2.2 j i u t h2 hj hi).symm
  ·have:i=j:=by lia
   subst this;rw[hi]at hj;cases hj;exact absurd rfl hn
end L2
namespace L2.Q
open PySem PySem.Spec PySem.SeqAt PyProof.Rows
def oD:Option Nat->D
 |none=>.b_
 |some k=>.int (k:Int)
def gi (a b c d:Int):Bool:=decide (a∈[c,d]) || decide (b∈[c,d]) || !decide ((decide (a<c)&&decide (c<b))=(decide (a<d)&&decide (d<b)))
def fE:List Int->List Int->Bool
 |[a,b],[c,d]=>gi a b c d
 |_,_=>false
theorem nh {a b c d:Int}(ab:a<b)(cd:c<d)(h:fE [a,b] [c,d]=false):Apart [a,b] [c,d]:=by
 have h:gi a b c d=false:=h;unfold gi at h;simp only[Bool.or_eq_false_iff,decide_eq_false_iff_not,abu,decide_eq_true_eq]at h;obtain⟨⟨h1,h2⟩,h3⟩:=h;have h4:(a<c/\c<b)↔(a<d/\d<b):=by
  have:=congrArg (·=true) h3;simpa using this
 have m1:=h1;have m2:=h2;simp only[Y4,aaa,or_false,not_or]at m1 m2;refine⟨abG.mpr λz=>?_,abG.mpr λz=>?_⟩
 ·obtain⟨i,hi,hj⟩:=cF.mp z;simp only[Y4,aaa,or_false]at hi;rcases hi with rfl|rfl
  ·exact h1 hj
  ·exact h2 hj
 ·have:=iY.mp (show rR a b c d=true from z)
  lia
theorem K_ (i j:Bool):Z2 (D.bl i).pd (D.bl j).pd=decide (i=j):=by
 cases i <;> cases j <;> rfl
theorem Lj (i j:Bool):oK (.bl i) (.bl j)=some (.bl (!decide (i=j))):=oq (bh (jj i)) (bh (jj j)) (K_ i j)
def nV:FD:=λds R=>∃a b c d:Int,ds=[kD [a,b],kD [c,d]]/\R (.bl (gi a b c d))
theorem nV.mono:cN nV:=λds R R' k i5=>by obtain⟨a,b,c,d,e,q⟩:=i5;exact⟨a,b,c,d,e,k _ q⟩
theorem jB {α β:Type}{f:α->β}:∀(l:List α) (m:Nat),(l.eraseIdx m).map f=(l.map f).eraseIdx m
 |[],_=>rfl
 |_::_,0=>rfl
 |x::l,m+1=>by
  show f x::(l.eraseIdx m).map f=f x::(l.map f).eraseIdx m;rw[jB l m]
structure yT (mg:Str->Option YU):Prop extends Bs3 mg where
 any:mg "any" = none
theorem kW:ZY "any" = some (.builtin "any"):=by decide +kernel
theorem uT {ds:List D}{n:Nat}(h:ds.length=n):GI [.lst ds]=some (.int (n:Int)):=by subst h;rfl
theorem Fq {X:Cx}{C:Cfg}{a:List Stmt}{ψ:EE}(i:Nat)(h:vh X C a ψ):vh X C a (λE β=>∃d,β[i]?=some (some (.own d))/\ap ψ E (β.set i (some (.val true d)))) :=
 ⟨λE E' β l q=>by obtain⟨d,e,q⟩:=q;exact⟨d,e,h.mono E E' _ l q⟩,h.ps.pre λD σ H z=>by
  obtain⟨Z,E,β,⟨own,s,n⟩,⟨d,e,q⟩,ok⟩:=z;exact⟨Z,E,_,⟨_,s.freeze e,j4 n⟩,q,ok⟩⟩
def yR (i j:Int):Prop:=i.natAbs<2 ^ 2000/\j.natAbs<2 ^ 2000
instance (i j:Int):Decidable (yR i j):=by unfold yR;infer_instance
theorem bits_le {i:Int}(h:i.natAbs<2 ^ 2000):Builtin.Int.intBits i<=2 ^ 20:=by
 unfold Builtin.Int.intBits
 split
 ·exact Zm _
 ·rename_i hz
  have h0:i.natAbs≠0:=λz=>hz (by rw[Int.natAbs_eq_zero.mp z];rfl)
  have:=(Nat.log2_lt h0).mpr h;exact ZO this (by decide)
def H9:D->D->Option D:=kM λi j=>if yR i j then some (.int (i*j)) else none
def Ot:D->D->Option D:=kM λi j=>if 0<=j then some (.int (i / 2 ^ j.toNat)) else none
section
variable {X:Cx}
theorem FA:ik X (aas .Mult) (rI yR λi j=>.int (i*j)):=LR λ_ _ _ _ _ _ _ hc q=>mul_int q (IntMulOk.of_bits (bits_le hc.1) (bits_le hc.2))
theorem js:bf X (aas .Mult) H9:=pQ (h:=λi j=>.int (i*j)) FA (λ_ _ _ e=>cb e) λ_ _ _ _=>rfl
theorem FC:bf X (aas .RShift) Ot:=pQ (h:=λi j=>.int (i / 2 ^ j.toNat)) Jx (λ_ _ _ e=>cb e) λ_ _ _ _=>rfl
def uS (a b:D):Option D:=(D.lL a).bind λx=>(D.lL b).bind λy=>some (.bl (!Txt.contains y x))
theorem tT:bf X (ZR .NotIn) uS:=by
 intro pins s σ H x y v u Q I rx ry h;obtain⟨W,d1,d2,d,hd,r1,r2,e,q⟩:=h;obtain⟨a,h1,e⟩:=Zq.mp e;obtain⟨b,h2,e⟩:=Zq.mp e;rw[D.cP h1]at r1;rw[D.cP h2]at r2;cases e;cases (show x=.str a from r1)
 cases (show y=.str b from r2)
 exact rf pins s σ H _ _ v u Q I rx ry ⟨a,b,rfl,rfl,q _ _ (aD.refl _) rfl⟩
variable {C:Cfg}{x:Str}{pos:Pos}
theorem mS {i:Int}{t:Tok}(hm:X.mg x=some (.int i t))(hg:Gl X x:=by rfl)(hd:(x==("__debug__" : Str))=false:=by decide):PQ X C true (.Name x pos) (λβ R=>R (.int i) .own β) :=
 ⟨λ_ _ _ k h=>k _ _ _ h,(q_ (v:=.int i) hg hm ⟨t,rfl⟩ hd).pre λσ H Q h=>by
  obtain⟨β,own,sq,q⟩:=h;exact q _ H own (Out.refl sq _) (KV.flat (W:=λ_=>False) rfl rfl)⟩
theorem BB {y:Str}{t:Tok}(hm:X.mg x=some (.str y t))(hg:Gl X x:=by rfl)(hd:(x==("__debug__" : Str))=false:=by decide):PQ X C true (.Name x pos) (λβ R=>R (.str y) .own β) :=
 ⟨λ_ _ _ k h=>k _ _ _ h,(q_ (v:=.str y) hg hm ⟨t,rfl⟩ hd).pre λσ H Q h=>by
  obtain⟨β,own,sq,q⟩:=h;exact q _ H own (Out.refl sq _) (KV.flat (W:=λ_=>False) rfl rfl)⟩
end
end L2.Q
namespace L2
open PySem PySem.Spec PySem.SeqAt PyProof.Rows
def Lg (a b:D):Option D:=a.zJ.bind λds=>b.int?.bind λk=>if 0<=k/\k<2 ^ 62/\ds.length*k.toNat<=Zf then some (.lst (ZP k.toNat ds).flatten) else none
theorem kc {P:Y0}{w:Zd}{W:Addr->Prop}{H:Hp}{ds:List D}{vs:List V}(h:ao P w W H ds vs):∀k:Nat,ao P w W H (ZP k ds).flatten (ZP k vs).flatten
 |0=>rfl
 |k+1=>by
  rw[aaI,aaR,aaI,aaR];exact h.append (kc h k)
theorem BW {X:Cx}:OR X (aas .Mult) Lg:=by
 intro pins s σ H x y v u Q I rx ry h;obtain⟨W,d1,d2,d,hd,r1,r2,e,q⟩:=h;obtain⟨ds,h1,e⟩:=Zq.mp e;obtain⟨k,h2,e⟩:=Zq.mp e;obtain⟨⟨k0,k1,hl⟩,rfl⟩:=cb e;rw[D.rA h1]at r1;rw[D.yg h2]at r2;obtain⟨p,vs,rfl,g1,n1,q1⟩:=r1;exact Jy pins s σ H _ _ v u Q I rx ry ⟨p,k,vs,rfl,r2,g1,by lia,by lia,by rw[q1.length];exact hl,λl oG=>q _ _ (aD.new oG) (Rp.iO hd oG (kc q1 _)) λf=>v7 oG f (kc q1 _)⟩
namespace Q
theorem kR {α:Type}{f:α->D}(h:∀x,(f x).flat=true):∀l:List α,D.bP (l.map f)=true
 |[]=>rfl
 |x::l=>by
  show ((f x).flat&&D.bP (l.map f))=true;rw[h x,kR h l];rfl
section
end
end Q
end L2
namespace L2.Q
open PySem
def p0 (t:List Int):Int:=t.getD 0 0
def p1 (t:List Int):Int:=t.getD 1 0
def sd:List (List Int)->Int->Nat
 |[],_=>46
 |t::us,k=>if k=p1 t then 41 else if k=p0 t then 40 else sd us k
def Iq (t u:List Int):Prop:=p0 t≠p0 u/\p0 t≠p1 u/\p1 t≠p0 u/\p1 t≠p1 u
def gX (us:List (List Int))(n:Nat):List Nat:=(Zi n).map λ(k:Nat)=>sd us (k:Int)
theorem xu {us:List (List Int)}{a b:Int}{n:Nat}{F:Nat->D}(a0:0<=a)(ab:a<b)(bn:b<n):(((gX us n).map F).set a.toNat (F 40)).set b.toNat (F 41)=(gX ([a,b]::us) n).map F:=by
 unfold gX;rw[ZM,xC (by lia),xC (by lia),ZM]
 refine Z5 λk _=>?_;show (if k=b.toNat then F 41 else if k=a.toNat then F 40 else F (sd us (k:Int)))=F (if (k:Int)=b then 41 else if (k:Int)=a then 40 else sd us (k:Int))
 by_cases h1:(k:Int)=b
 ·rw[if_pos h1,if_pos (by lia)]
 ·rw[if_neg h1,if_neg (by lia)]
  by_cases h2:(k:Int)=a
  ·rw[if_pos h2,if_pos (by lia)]
  ·rw[if_neg h2,if_neg (by lia)]
theorem e9 {us:List (List Int)}{n:Nat}:(gX us n).length=n:=by unfold gX;rw[YX,aan]
theorem xv {n:Nat}{F:Nat->D}:(gX [] n).map F=(Zi n).map λ_=>F 46:=by unfold gX;rw[ZM];rfl
theorem Ea {n:Int}{rows ks:List (List Int)}(tr:b5 n rows)(kg:Good rows ks):ks.reverse.Pairwise Iq/\∀u∈ks.reverse,p0 u≠p1 u:=by
 refine⟨List.pairwise_reverse.mpr ?_,λu hu=>?_⟩
 ·refine(List.Pairwise.and_mem.mp kg.2.2).imp λ{t u} h=>?_;obtain⟨ht,hu,ha,_⟩:=h;obtain⟨a,b,rfl,_⟩:=tr t (kg.1 t ht);obtain⟨c,d,rfl,_⟩:=tr u (kg.1 u hu);have hs:∀i∈[a,b],i∉[c,d]:=λi hi hj=>by
   rw[cF.mpr ⟨i,hi,hj⟩]at ha;cases ha
  have h1:=hs a (by simp)
  have h2:=hs b (by simp)
  simp only[Y4,aaa,or_false,not_or]at h1 h2;show c≠a/\c≠b/\d≠a/\d≠b;lia
 ·obtain⟨a,b,rfl,_,ab,_⟩:=tr u (kg.1 u (abd.mp hu));show a≠b;lia
theorem vQ {k:Int}:∀{us:List (List Int)},sd us k<=46
 |[]=>YY _
 |t::us=>by
  unfold sd
  split
  ·decide
  ·split
   ·decide
   ·exact vQ
open PySem.Spec PySem.SeqAt PyProof.Rows
def uK:FD:=λds R=>∃c k:Int,ds=[.int c,.int k]/\0<=k/\k<=1000000/\∀r,R (.int r)
theorem uK.mono:cN uK:=λds R R' k h=>by obtain⟨c,i,e,h1,h2,q⟩:=h;exact⟨c,i,e,h1,h2,λr=>k _ (q r)⟩
def cW:FD:=λds R=>∃c k m:Int,ds=[.int c,.int k,.int m]/\0<=k/\k<=1000000/\0<m/\∀r,0<=r->r<m->R (.int r)
theorem cW.mono:cN cW:=λds R R' k h=>by obtain⟨c,i,m,e,h1,h2,h3,q⟩:=h;exact⟨c,i,m,e,h1,h2,h3,λr a b=>k _ (q r a b)⟩
theorem pow10 (n:Nat)(h:n<=1000):Ov (.int 10) (.int (n:Int))=some (.int (10 ^ n)) :=
 if_pos ⟨Int.natCast_nonneg n,by lia,by decide⟩
theorem ie {i j:Int}(h:0<j):Oy (.int i) (.int j)=some (.int (i % j)):=if_pos h
theorem GR {i j:Int}(h:0<j)(h2:j<2 ^ 200):OB (.int i) (.int j)=some (.int (i / j)):=if_pos ⟨h,h2⟩
theorem jN {i j:Int}(h:i.natAbs<2 ^ 2000)(h2:j.natAbs<2 ^ 2000):H9 (.int i) (.int j)=some (.int (i*j)):=if_pos ⟨h,h2⟩
theorem GD {i j:Int}(h:0<=j):Ot (.int i) (.int j)=some (.int (i / 2 ^ j.toNat)):=if_pos h
theorem iN {i:Int}{a:Nat}(h:i.natAbs<2 ^ a)(ha:a<=2000):i.natAbs<2 ^ 2000:=Zv h (aaQ (by decide) ha)
def Rw (n:Int)(ts:List (List Int)):Prop:=b5 n ts/\rX ts/\ts.Nodup
theorem Rw.of {n:Int}{ts:List (List Int)}(h:b5 n ts):Rw n (cM (jW ts)) :=
 ⟨λt ht=>h t (((dt ts).2 t).mp ((aX (jW ts)).mem_iff.mp ht)),gy _,(aX (jW ts)).nodup_iff.mpr (dt ts).1⟩
def uM:FD:=λds R=>∃c b m:Int,ds=[.int c,.int b,.int m]/\0<=b/\b<=1000/\0<=m/\m<=1000/\∀n ts,0<=n->n<=m->Rw n ts->ts.length<=40->R (iL n ts)
theorem uM.mono:cN uM:=λds R R' k h=>by obtain⟨c,b,m,e,h1,h2,h3,h4,q⟩:=h;exact⟨c,b,m,e,h1,h2,h3,h4,λn ts a b c d=>k _ (q n ts a b c d)⟩
theorem yK {φa φb φc:aR}{β:ba}{a b c:Int}{R:D->Kd->ba->Prop}(ha:∀R:D->Kd->ba->Prop,R (.int a) .own β->φa β R)(hb:∀R:D->Kd->ba->Prop,R (.int b) .own β->φb β R)(hc:∀R:D->Kd->ba->Prop,R (.int c) .own β->φc β R)
  (q:R (.bl (decide (a<b)&&decide (b<c))) .own β):mQ φa (Bn Ma φb (Fb Ma φc)) β R:=by
 refine ha _ (hb _ ⟨_,rfl,i4 (λz1=>hc _ ⟨_,rfl,?_⟩) (λz1=>?_)⟩)
 ·simpa[z1] using q
 ·simpa[z1] using q
theorem pC {β:Q.ba}{i m:Nat}{x:Int}{t:List Int}(h1:β[i]?=some (some (.val false (kD t))))(h2:t[m]?=some x):∀R:D->Kd->Q.ba->Prop,R (.int x) .own β->zm yD NF true (zk i) (qC (.int (m:Int))) β R:=λR r =>
 ⟨_,h1,trivial,.int x,GK (by rw[Zj,h2];rfl),r⟩
def uL:FD:=λds R=>∃(c b n:Int) (rows:List (List Int)),ds=[.int c,.int b,iL n rows]/\0<=b/\b<=1000/\b5 n rows/\rows.length<=400/\∀ts,Good rows ts->ts.length<=30->R (.lst (ts.map kD))
theorem uL.mono:cN uL:=λds R R' k h=>by obtain⟨c,b,n,rows,e,h1,h2,h3,h4,q⟩:=h;exact⟨c,b,n,rows,e,h1,h2,h3,h4,λts a b=>k _ (q ts a b)⟩
theorem E_ {n:Nat} (h:n<=1000):Lg (.lst [.str "."]) (.int (n:Int))=some (.lst ((gX [] n).map λc=>D.str (bM c))):=by
 unfold Lg;rw[show D.zJ (.lst [.str "."])=some [.str "."] from rfl,show D.int? (.int (n:Int))=some (n:Int) from rfl,Option.bind_some,Option.bind_some]
 rw[if_pos ⟨Int.natCast_nonneg n,by lia,by rw[Z4,aad,Zw];lia⟩,Z4,Lp,xv]
 simp[List.map_const']
def wF:FD:=λds R=>∃(n:Nat) (ts:List (List Int)),ds=[.int (n:Int),.lst (ts.map kD)]/\n<=1000/\b5 n ts/\R (.str (a5 (gX ts.reverse n)))
theorem wF.mono:cN wF:=λds R R' k h=>by obtain⟨n,ts,e,h1,h2,q⟩:=h;exact⟨n,ts,e,h1,h2,k _ q⟩
theorem zY {γ:eV}{ψ:EE}{E:dw}{ds:List D}{k:Kd}{β:ba}(I:Nat->ba->Prop)(h0:I 0 β)(h1:∀E':dw,(∀d β,E.rt d β->E'.rt d β)->∀i:Nat,(∀β,I (i+1) β->E'.nx β)->∀d β,ds[i]?=some d->I i β->γ d (sk k d) β λβ1=>ψ E' β1)
  (h2:∀β,I ds.length β->E.nx β):Dj γ ψ E ds k β:=⟨I,h0,λi d β e q=>h1 (E.lp (I (i+1))) (λ_ _ q=>q) i (λ_ q=>q) d β e q,h2⟩
end L2.Q
namespace oO
open PySem L2 L2.Q
section
variable (K:PySem.W.Frag)(mg:Str->Option YU)(f:Addr)(fd:ZF)
abbrev D0:Prop:=Df K mg "_law_stir" fP ["cell","k"] f fd
abbrev D1:Prop:=Df K mg "_law_digit" fb ["cell","k","many"] f fd
abbrev D2:Prop:=Df K mg "_law_met" g7 ["many","cell","way"] f fd
abbrev D3:Prop:=Df K mg "_law_spoilt" dP ["many","ties","cell"] f fd
abbrev D4:Prop:=Df K mg "_law_row" g6 ["cell","begin","most"] f fd
abbrev D5:Prop:=Df K mg "arcs_cross" dQ ["one","other"] f fd
abbrev D6:Prop:=Df K mg "share_a_point" cz ["one","other"] f fd
abbrev D7:Prop:=Df K mg "fault_at" fR ["row","ties","k"] f fd
abbrev D8:Prop:=Df K mg "first_fault" df ["row","ties"] f fd
abbrev D9:Prop:=Df K mg "is_set" jn ["row","ties"] f fd
abbrev LN:Prop:=Df K mg "check_set" dk ["row","ties"] f fd
abbrev OU:Prop:=Df K mg "brackets" d9 ["many","ties"] f fd
abbrev PY:Prop:=Df K mg "_law_class" fc ["e"] f fd
abbrev Uu:Prop:=Df K mg "_law_due" g8 ["word"] f fd
abbrev Ut:Prop:=Df K mg "_law_written" de ["many","ties"] f fd
abbrev PX:Prop:=Df K mg "_law_meet" fQ ["one","other"] f fd
abbrev VR:Prop:=Df K mg "_law_set" gZ ["cell","begin","row"] f fd
abbrev Us:Prop:=Df K mg "_law_brackets" cR ["many","ties"] f fd
abbrev VQ:Prop:=Df K mg "_law_spoilt_good" b6 ["many","ties","cell"] f fd
abbrev Ur:Prop:=Df K mg "row_of" jm ["many","ties"] f fd
abbrev PV:Prop:=Df K mg "number_in" e_ ["text","longest"] f fd
abbrev Uq:Prop:=Df K mg "pair_in" gY ["text"] f fd
abbrev VP:Prop:=Df K mg "read_row" fO ["text"] f fd
abbrev Up:Prop:=Df K mg "arcs_in" g9 ["text"] f fd
abbrev VO:Prop:=Df K mg "read_brackets" cB ["text"] f fd
abbrev Uo:Prop:=Df K mg "ties_shown" dN ["ties"] f fd
abbrev VN:Prop:=Df K mg "show_row" fN ["row"] f fd
end
section
variable {P:Y0}{w:Zd}{K:PySem.W.Frag}{mg:Str->Option YU}{base:Heap}
theorem k_:aO ["cell","k","number"] ["cell","k"] (ar fP):=mkS
theorem FH {iu dJ} (oj:D0 K mg iu dJ):aP P w K mg base bU 1 iu dJ ["cell","k"] (cc P w true uK):=by
 refine ly oj.F k_ (λds R h=>by obtain⟨c,k,e,_⟩:=h;subst e;rfl) λbR A outer s H E hr=>⟨_,(ai (aW (i:=2) (aN aK aG (aN aK aG (aN ah (bf.m h9) (af (i:=0)) (aN ah (bf.m rh) aj aj)) (aN ah (bf.m js) aj (af (i:=1)))) aj) k_.nd)
    (ak (aL (aN ah (bf.m h9) (aN ah (bf.m FF) (aN ah (bf.m js) (aN ah (bf.m js) (af (i:=2)) (aN aK aG (af (i:=2)) (aN ah (bf.m js) aj (af (i:=1))))) (aN aK aG (af (i:=2)) aj)) aj) (aN ah (bf.m rh) aj aj))))),λds R h=>?_⟩
 obtain⟨c,k,rfl,k0,k1,q⟩:=h;have k2:k.natAbs<2 ^ 2000:=iN (a:=30) (by lia) (by decide)
 have c3:((3:Int)).natAbs<2 ^ 2000:=iN (a:=30) (by decide) (by decide)
 have c2:((2:Int)).natAbs<2 ^ 2000:=iN (a:=30) (by decide) (by decide)
 refine⟨_,rfl,trivial,trivial,_,pow10 60 (by decide),_,ie (by decide),trivial,trivial,_,rfl,_,jN c3 k2,_,rfl,trivial,_,rfl,?_⟩
 have x0:0<=c % 10 ^ 60:=Int.emod_nonneg _ (by decide)
 have x1:c % 10 ^ 60<10 ^ 60:=ace _ (by decide)
 generalize c % 10 ^ 60=x at x0 x1;have n1:(x+3*k+1).natAbs<2 ^ 200:=by lia
 have n2:(x+3*k+1+2*k).natAbs<2 ^ 201:=by lia
 have n3:(x+3*k+1+5).natAbs<2 ^ 201:=by lia
 generalize x+3*k+1=n at n1 n2 n3;have m1:(n*(n+2*k)).natAbs<2 ^ 401:=by
  rw[Int.natAbs_mul,show 401=200+201 from rfl,Nat.pow_add]
  exact Nat.mul_lt_mul'' n1 n2
 refine⟨_,rfl,trivial,_,rfl,trivial,trivial,_,rfl,_,jN c2 k2,_,rfl,_,jN (iN n1 (by decide)) (iN n2 (by decide)),trivial,_,rfl,trivial,_,rfl,_,jN (iN m1 (by decide)) (iN n3 (by decide)),trivial,_,GR (by decide) (by decide),trivial,trivial,_,pow10 40 (by decide),_,ie (by decide),trivial,q _⟩
theorem qV:aO ["cell","k","many"] ["cell","k","many"] (ar fb):=mkS
theorem fB {jI fh} (b4:D1 K mg jI fh) {iu dJ} (oj:D0 K mg iu dJ):aP P w K mg base bU 2 jI fh ["cell","k","many"] (cc P w true cW):=by
 have Yh:aP P w K mg base bU 1 _ _ _ (cc P w true uK):=FH oj;refine ly b4.F qV (λds R h=>by obtain⟨c,k,m,e,_⟩:=h;subst e;rfl) λbR A outer s H E hr=>⟨_,(ai (a6 (aw ah (bf.m JC) (af (i:=0)) (aN ah (bf.m rh) aj aj)) (ak (aL (aN ah (bf.m h9) (aN ah (bf.m h9) (aN ah (bf.m FC) (af (i:=0)) (aN ah (bf.m jt) aj (af (i:=1)))) aj) (af (i:=2))))) aH)
    (ak (aL (aN ah (bf.m h9) (ax uK.mono Yh (hr.mono (by decide)) oj.m oj.F.kp oj.b (aa (af (i:=0)) (aa (af (i:=1)) ag))) (af (i:=2)))))),λds R h=>?_⟩
 obtain⟨c,k,m,rfl,k0,k1,m0,q⟩:=h;have z:(0:Int)<=16*k:=by lia
 refine⟨_,rfl,trivial,trivial,_,pow10 18 (by decide),_,rfl,_,rfl,i4 (λh=>?_) (λh=>?_)⟩
 ·refine⟨_,rfl,trivial,trivial,_,rfl,_,l4 (.inl ⟨by decide,by decide⟩),_,GD z,trivial,_,ie (by decide),trivial,_,rfl,_,ie m0,trivial,q _ (Int.emod_nonneg _ (by lia)) (ace _ m0)⟩
 ·refine⟨_,rfl,trivial,_,rfl,trivial,c,k,rfl,k0,k1,λr=>⟨trivial,_,rfl,_,ie m0,trivial,q _ (Int.emod_nonneg _ (by lia)) (ace _ m0)⟩⟩
end
end oO
namespace L2.Q
open PySem PySem.Spec PySem.SeqAt PyProof.Rows
section
end
theorem rO (a b:Str)(ha:(D.str a).iB=true:=by decide +kernel)(hb:(D.str b).iB=true:=by decide +kernel):oK (.str a) (.str b)=some (.bl (!decide (a=b))):=by
 unfold oK;rw[if_pos ⟨ha,hb⟩];show some (D.bl (!(a==b)))=_;rw[show (a==b)=decide (a=b) from ab0.mpr (by rw[beq_iff_eq,decide_eq_true_iff])]
theorem rQ (a b:Str)(ha:(D.str a).iB=true:=by decide +kernel)(hb:(D.str b).iB=true:=by decide +kernel):yF (.str a) (.str b)=some (.bl (decide (a=b))):=by
 unfold yF;rw[if_pos ⟨ha,hb⟩];show some (D.bl (a==b))=_;rw[show (a==b)=decide (a=b) from ab0.mpr (by rw[beq_iff_eq,decide_eq_true_iff])]
end L2.Q
namespace L2.EX
open PySem PySem.W PySem.Spec PySem.Calls PyProof.Rows Builtin Builtin.ObjectAttr Builtin.Getset_descriptor
def ExcAt (a C:Addr)(h:Heap):Prop:=∃o vs,h.get? a=some o/\o.cls=.ref C/\o.data=.fields vs
theorem ExcAt.ty {a C:Addr}{h:Heap}{M:Model}(p:ExcAt a C h):Looks M h (typeOf (.ref a)) (.ref C):=by
 obtain⟨o,vs,h1,h2,_⟩:=p;exact h2▸(Looks.ld h1).andThen .now
section
variable {prog:Y0}{w:Zd}{A:ZQ}{E:YU->YW->Prop}{s:YW}{K:Frag}{x C:Addr}{R:Result->YW->Prop}
theorem class_get {tp:YU} (X:K.In s.heap) (I:ExcAt x C s.heap) (hm:mroIn K C (.type "object")=some true)
  (h:R (.ok (.ret (.ref C))) s):abN (model prog w) A (.call (.builtin "getset_descriptor.__get__") ⟨[.builtin "object.__class__",.ref x,tp],[]⟩) R s:=by
 obtain⟨hh,g,dr,t,os⟩:=s;have L0:=I.ty (M:=model prog w);have L1:=looks_mroIn (M:=model prog w) X hm;refine codeAny_call_builtin KF.slot_gs.plain KF.entry_gs (KF.slot_gs.check _ _ _ _ _ _ _ _ KF.type_class (KF.args_gs _ _ _) ?_);unfold aaz.«getset_descriptor.__get__» descrGet;rw[dga_obj];refine YV (YZ ?_);unfold descrGetter descrCheckInstance descrNameAndClass isInstance;simp only[KF.owner_class]
 repeat lk
 refine⟨Code.quiet_builtin _ (by decide +kernel),abW KF.entry_class ?_⟩
 unfold aaz.«object.__class__» shownTypeOf
 repeat lk
 exact h
structure XC (K:Frag)(C:Addr):Prop where
 obj:mroIn K C (.type "object")=some true
 base:mroIn K C (.type "BaseException")=some true
 ga:findIn K (.ref C) "__getattribute__" = some (some (.builtin "BaseException.__getattribute__"))
 hook:findIn K (.ref C) "__getattr__" = some none
 cls:findIn K (.ref C) "__class__" = some (some (.builtin "object.__class__"))
theorem DP {M:Model} {Hw:YU} {Q:Unit->YW->Prop} (X:K.In s.heap) (I:ExcAt x C s.heap) (Z:XC K C) (hq:Q () s):Zr M A (acA "BaseException.__getattribute__" ⟨[.ref x,Hw],[]⟩) Q E s:=by
 obtain⟨hh,g,dr,t,os⟩:=s;have hk:builtinKind "BaseException.__getattribute__" = some .slot:=by decide +kernel
 have KC:splitId "BaseException.__getattribute__" = some ("BaseException","__getattribute__"):=by decide +kernel
 have ha:=F.args_bexc_ga (.ref x) Hw;have L0:=I.ty (M:=M);have L1:=looks_mroIn (M:=M) X Z.base;simp only[acA,hk,KC];refine YV ?_;unfold isInstance
 repeat lk
 exact hq
theorem u7 {tk:Tok}{Q:Fin->YW->Prop}(X:K.In s.heap)(I:ExcAt x C s.heap)(Z:XC K C)(hq:Q (.done (.ret (.ref C))) s):
  Zr (model prog w) A (aaz.«object.__getattribute__» ⟨[.ref x,.str "__class__" tk],[]⟩) Q E s:=by
 obtain⟨hh,g,dr,t,os⟩:=s;have L0:=I.ty (M:=model prog w);have L1:=looks_findIn (M:=model prog w) X Z.cls;have L2:=looks_specialIn (M:=model prog w) (K:=K) X (v:=.builtin "object.__class__") (name:="__get__") (r:=some (.builtin "getset_descriptor.__get__")) (by kernel_rfl)
 have L3:=looks_takesIn (M:=model prog w) (K:=K) X (a:=.builtin "object.__class__") (r:=true) (by kernel_rfl)
 unfold aaz.«object.__getattribute__»
 repeat (first|(with_reducible refine YV (ab7 (class_get (s:=⟨hh,g,dr,t,os⟩) X I Z.obj ?_)))|(with_reducible refine ab7 (class_get (s:=⟨hh,g,dr,t,os⟩) X I Z.obj ?_))|lk)
 exact hq
theorem wY {Q:Option YU->YW->Prop}(X:K.In s.heap)(I:ExcAt x C s.heap)(Z:XC K C)(h:Q (some (.ref C)) {s with toks:=s.toks+1}):Zr (model prog w) A (getAttr? (.ref x) "__class__") Q E s:=by
 obtain⟨hh,g,dr,t,os⟩:=s;have L0:=I.ty (M:=model prog w);have L1:=looks_findIn (M:=model prog w) X Z.ga;have L2:=looks_findIn (M:=model prog w) X Z.hook;have f3:=F.attr_ValueError.ga.bind (.ref x);have Kj:(Value.builtin "BaseException.__getattribute__" == Value.builtin "object.__getattribute__")=false:=by decide +kernel
 have Ew:(onTheHeap (Value.ref C)&&Value.builtin "BaseException.__getattribute__" == Value.builtin "object.__getattribute__")=false:=by rw[Kj];rfl
 unfold getAttr? getAttrBy? getAttrBy;refine YV (wpAny_mkText (YV (acp (ZW (YV (L0.at (YV (L1.at ?_))))))));dsimp only;rw[if_neg (λq=>by rw[Ew]at q;cases q)]
 unfold getAttrByItsOwn hookBefore onTheHeap callGetattribute boundAndCalled;dsimp only;rw[if_pos rfl];refine YV (L2.at (YV (acp (ZW ?_))));simp only[Bool.false_and,abw,if_false];refine YV (wpAny_of_eq f3 ?_);refine ab7 (codeAny_call_builtin F.attr_ValueError.ga.plain F.entry_bexc_ga (DP (s:=⟨hh,g,dr,t+1,os⟩) X I Z (u7 (s:=⟨hh,g,dr,t+1,os⟩) X I Z ?_)));exact handed_on rfl (YZ h)
theorem CH (Z:XC K C):KitX K (.ref x) (.ref C) (ExcAt x C) where
 ty:=λ_ _ _ I=>I.ty
 it:=λ_ _ X _=>by
  obtain⟨cd,hc,_⟩:=Zq.mp Z.obj;unfold clsIn at hc
  split at hc
  ·rename_i c' d' Yb xr ho
   intro A' Q' E' s' k q;unfold isType loadHead;exact YV (wpAny_loadPart (k _ _ (X _ _ ho)) (YZ q))
  ·cases hc
 ne:=λh tp dd its n sl X W7=>by
  obtain⟨cd,hc,_⟩:=Zq.mp Z.obj;refine abG.mpr λq=>?_;have e:C=tp:=Value.ref.inj (beq_iff_eq.mp q);subst e;unfold clsIn at hc
  split at hc
  ·rename_i c' d' Yb xr ho
   have z:=(X _ _ ho).symm.trans W7;cases z
  ·cases hc
 ca:=λX I k=>wY X I Z k
end
end L2.EX
namespace L2
open PySem PySem.W PySem.Spec PyProof.Rows
abbrev lU (C a:Addr):HO:=.ext (EX.ExcAt a C)
def D.exc (C:Addr):D:=.ob (lU C)
structure LM (P:Y0)(w:Zd)(outer:List Env)(H:Hp)(s:YW)(a C:Addr)(H':Hp)(s':YW):Prop where
 os:s'.os=s.os
 bare:aco s'.gens
 un:Un (gx outer) [] H H' s.heap s'.heap
 bu:iI P w H' s'.heap
 fl:∃(B:Heap) (a0:YU),abE B outer a (.ref C) a0 s'.heap/\(∀b,H' b≠none->∃o,B.get? b=some o) /\
  ∀b o,s.heap.get? b=some o->b∉gx outer->∃o',B.get? b=some o'/\(H b=none->o'=o)
 nt:H' a=none
 nw:s.heap.get? a=none
def AD (P:Y0)(w:Zd):AB:=λouter H s E e s'=>∃(a C:Addr) (H':Hp),e=.ref a/\LM P w outer H s a C H' s'/\E (.ref C) none H'
section
variable {P:Y0}{w:Zd}{H:Hp}{h h' B:Heap}
theorem qc (x:iI P w H h){b:Addr}(e:H b≠none):∃o,h.get? b=some o:=by
 cases q:H b with
 |none=>exact absurd q e
 |some u =>
  have z:=x b u q;cases u with
  |lst xs=>obtain⟨_,_,_,_,e⟩:=z;exact⟨_,e⟩
  |tup xs=>obtain⟨_,_,_,o,e,_⟩:=z;exact⟨_,e⟩
  |dK iD=>obtain⟨_,_,_,_,o,_,_,e,_⟩:=z;exact⟨_,e⟩
  |dT iD=>obtain⟨_,_,_,_,o,_,_,e,_⟩:=z;exact⟨_,e⟩
  |set S n=>obtain⟨o,_,_,_,e,_⟩:=z;exact⟨_,e⟩
  |ins C dx fs=>obtain⟨_,_,_,e,_⟩:=z;exact⟨_,e⟩
  |own y=>obtain⟨_,e⟩:=z;exact⟨_,e⟩
  |xd fs=>obtain⟨_,⟨_,_,_,e,_⟩,_⟩:=z;exact⟨_,e⟩
  |O4 lo hi=>obtain⟨_,_,_,e⟩:=z;exact⟨_,e⟩
  |Dg ob u=>obtain⟨e,_⟩:=z;exact⟨_,e⟩
  |Hh ps=>exact⟨_,(show h.get? b=some _ from z)⟩
  |met f y=>exact⟨_,(show h.get? b=some _ from z)⟩
  |ext φ=>obtain⟨_,e,_⟩:=z;exact e
theorem kQ (x:iI P w H h)(st:B.StaysIn h)(aJ:B.StaysIn h')(tr:∀b,H b≠none->∃o,B.get? b=some o):iI P w H h':=λb u e =>
 (x b u e).jh (λc v hc q=>by
  have nc:H c≠none:=by
   rcases hc with rfl|z
   ·rw[e];exact λz=>(nomatch z)
   ·rw[z];exact λz=>(nomatch z)
  obtain⟨o,ho⟩:=tr c nc;rw[st c o ho]at q;cases q;exact aJ c _ ho) (λ_ q=>q) λ_ _ q=>q
end
section
variable {X:Cx}{pins:List (Addr×Obj)}{σ:St}{H H':Hp}{s s':YW}{e C:Addr}
theorem wB {B:Heap}{outer:List Env}{h0 h1 h2:Heap}{H0:Hp}(u:Un (gx outer) [] H0 H h0 h1)(ff:h1.FunFrames B outer)(st:B.StaysIn h2)(up:h1.UpToSlots h2)
  (tr:∀b o,h0.get? b=some o->b∉gx outer->∃o',B.get? b=some o'/\(H0 b=none->o'=o)):Un (gx outer) [] H0 H h0 h2 where
 keep:=λb o e n hb _=>by
  obtain⟨o',e1,e2⟩:=tr b o e hb;rw[<- e2 n];exact st b _ e1
 slot:=λb o e n hb hx=>by
  obtain⟨sl,e1⟩:=u.slot b o e n hb hx;obtain⟨_,o',e2,nf⟩:=ff.mem hb;rw[e1]at e2;cases e2;obtain⟨xr,e3⟩:=up b _ e1 nf;exact⟨xr,e3⟩
 free:=u.free
 there:=λb o e hx=>by
  by_cases hb:b∈gx outer
  ·obtain⟨_,o',e2,nf⟩:=ff.mem hb;obtain⟨xr,e3⟩:=up b _ e2 nf;exact⟨_,e3⟩
  ·obtain⟨o',e1,_⟩:=tr b o e hb;exact⟨o',st b _ e1⟩
 iJ:=u.iJ
 iq:=u.iq
 iK:=u.iK
theorem wb {vs:List YU}{hs:Heap}{M:Model}{E:YU->YW->Prop}{Q:Unit->YW->Prop}(I:Inv X pins σ H s)(hx:X.ex=[])(lP:X.stack=X.env::X.outer)(hf:X.env.frame=some X.env.locals)(m:Heap.MadeExcOf s.heap hs e (.ref C) vs)
  (k:∀Bf,LM X.prog X.w X.outer X.H₀ X.s₀ e C H Bf->Q () Bf):Zr M X.A (leaving X.env (.ref e)) Q E {s with heap:=hs}:=by
 have fr:X.A.frames=some (X.env::X.outer):=by rw[<- lP];exact I.ok.frames
 have ff:s.heap.FunFrames X.base (X.env::X.outer):=by rw[<- lP];exact I.stack
 have se:∀env∈(X.env::X.outer),∀b,env.frame=some b->b∈gx (X.env::X.outer):=λenv he b hb=>abr.mpr ⟨env,he,hb⟩;have nl:∀b o,X.s₀.heap.get? b=some o->b∉X.fs->b∉gx (X.env::X.outer):=λb o eb nb z=>by
  unfold gx at z;rw[ZN,hf]at z;rcases Y4.mp z with z|z
  ·exact absurd (Zv (Za eb) I.ok.above) (by rw[z];exact aaU _)
  ·exact nb z
 have I0:∀b,b∉X.ex:=λb z=>by rw[hx]at z;cases z
 have Ux:(hideAll s.heap (gx (X.env::X.outer))).StaysIn s.heap:=λb o q=>of_hideAll _ q;refine wpAny_leaves_madeW (h:=s.heap) (base:=hideAll s.heap (gx (X.env::X.outer))) fr hf Ux (funFrames_hide ff se) m λh' t f1 f2 f3 f4=>k _ ?_;have tr:∀b,H b≠none->∃o,(hideAll s.heap (gx (X.env::X.outer))).get? b=some o:=λb nb=>by
  obtain⟨o,ho⟩:=qc I.bu nb;exact⟨o,hideAll_get _ ho λz=>nb (I.qM b (by rw[lP];exact z))⟩
 have xm:∀b o,X.s₀.heap.get? b=some o->b∉gx X.outer->∃o',(hideAll s.heap (gx (X.env::X.outer))).get? b=some o'/\(X.H₀ b=none->o'=o):=λb o eb nb=>by
  obtain⟨o1,e1⟩:=I.base.there b o eb (I0 b);refine⟨o1,hideAll_get _ e1 (nl b o eb nb),λn=>?_⟩;rw[I.base.keep b o eb n nb (I0 b)]at e1;exact(Zt e1).symm
 have u0:Un (gx X.outer) [] X.H₀ H X.s₀.heap s.heap:=by
  have z:=I.base;rw[hx]at z;exact z
 have XY:s.heap.FunFrames (hideAll s.heap (gx (X.env::X.outer))) X.outer:=(funFrames_hide ff se).2.2;refine⟨I.os,I.bare,wB u0 XY f1.1 ((Heap.UpToSlots.of_keeps m.keeps).trans f4) xm,kQ I.bu Ux f1.1 tr,⟨_,_,f1,tr,xm⟩,?_,?_⟩
 ·cases q:H e with
  |none=>rfl
  |some u =>
   obtain⟨o,ho⟩:=qc I.bu (b:=e) (by rw[q];exact λz=>(nomatch z))
   rw[m.new]at ho;cases ho
 ·cases q:X.s₀.heap.get? e with
  |none=>rfl
  |some o =>
   obtain⟨o',e1⟩:=I.base.there e o q (I0 e);rw[m.new]at e1;cases e1
theorem CF {M:Model}{E:YU->YW->Prop}{Q:Unit->YW->Prop}(I:Inv X pins σ H s)(hx:X.ex=[])(lP:X.stack=X.env::X.outer)(hf:X.env.frame=some X.env.locals)(f:LM X.prog X.w X.stack H s e C H' s')
  (k:∀Bf,LM X.prog X.w X.outer X.H₀ X.s₀ e C H' Bf->Q () Bf):Zr M X.A (leaving X.env (.ref e)) Q E s':=by
 have fr:X.A.frames=some (X.env::X.outer):=by rw[<- lP];exact I.ok.frames
 have I0:∀b,b∉X.ex:=λb z=>by rw[hx]at z;cases z
 obtain⟨os,bare,un,bu,⟨B,a0,fl,tr,xm⟩,nt,nw⟩:=f;rw[lP]at fl un xm;have nl:∀b o,X.s₀.heap.get? b=some o->b∉X.fs->b∉gx (X.env::X.outer):=λb o eb nb z=>by
  unfold gx at z;rw[ZN,hf]at z;rcases Y4.mp z with z|z
  ·exact absurd (Zv (Za eb) I.ok.above) (by rw[z];exact aaU _)
  ·exact nb z
 refine wpAny_leaves_onW fr hf fl λh' f1 f4=>k _ ?_;have u0:Un (gx X.outer) [] X.H₀ H X.s₀.heap s.heap:=by
  have z:=I.base;rw[hx]at z;exact z
 have P5:∀b o,X.s₀.heap.get? b=some o->b∉gx X.outer->∃o',B.get? b=some o'/\(X.H₀ b=none->o'=o):=λb o eb nb=>by
  obtain⟨o1,e1⟩:=I.base.there b o eb (I0 b);obtain⟨o',e2,e3⟩:=xm b o1 e1 (nl b o eb nb);refine⟨o',e2,λn=>?_⟩;rw[I.base.keep b o eb n nb (I0 b)]at e1;cases e1;exact e3 (I.base.free b o eb n (I0 b))
 have u1:Un (gx X.outer) [] X.H₀ H' X.s₀.heap s'.heap:=by
  refine⟨λb o eb n nb _=>?_,λb o eb n hb hx=>?_,λb o eb n hx=>?_,λb o eb hx=>?_,λb xs q=>un.iJ b xs (u0.iJ b xs q),λb o q z=>un.iq b o q (u0.iq b o q z),λb ps q=>?_⟩
  ·obtain⟨o',e1,e2⟩:=P5 b o eb nb;rw[<- e2 n];exact fl.1 b _ e1
  ·obtain⟨sl,e1⟩:=u0.slot b o eb n hb hx;have sg:b∈gx (X.env::X.outer):=by unfold gx;rw[ZN,hf];exact Y7 _ hb
   obtain⟨xr,e2⟩:=un.slot b _ e1 (u0.free b o eb n hx) sg (by simp)
   exact⟨xr,e2⟩
  ·obtain⟨o',e1⟩:=u0.there b o eb hx;exact un.free b o' e1 (u0.free b o eb n hx) (by simp)
  ·obtain⟨o',e1⟩:=u0.there b o eb hx;exact un.there b o' e1 (by simp)
  ·obtain⟨m1,e1⟩:=u0.iK b ps q;obtain⟨m2,e2⟩:=un.iK b _ e1;exact⟨m1++m2,by rw[e2,Array.append_assoc]⟩
 refine⟨os.trans I.os,bare,wB u1 fl.2.2.1.2.2 f1.1 f4 P5,kQ bu fl.1 f1.1 tr,⟨B,a0,f1,tr,P5⟩,nt,?_⟩;cases q:X.s₀.heap.get? e with
 |none=>rfl
 |some o =>
  obtain⟨o',e1⟩:=I.base.there e o q (I0 e);rw[nw]at e1;cases e1
end
abbrev Cx.Ax (X:Cx)(e:Addr):Cx:={X with A:=X.A.mark (some (.ref e)),calm:=false,xe:=λ_ _=>False}
section
variable {X:Cx}{pins:List (Addr×Obj)}{σ:St}{H H':Hp}{s s':YW}{e C:Addr}
theorem Inv.Ax (I:Inv X pins σ H s):Inv (X.Ax e) pins σ H s :=
 ⟨⟨I.ok.mod,I.ok.kind,I.ok.glob,I.ok.blt,I.ok.above,I.ok.inj,I.ok.has,I.ok.GW,(λz=>by cases z),I.ok.frames,I.ok.Hk,I.ok.HS,I.ok.bs,I.ok.Aq,I.ok.rj,I.ok.rJ,I.ok.ip,I.ok.Dh⟩,I.os,I.bare,I.base,I.loc,I.cell,I.free,I.dq,I.pin,I.bu,I.len⟩
theorem Inv.Mk (ok:X.Ok)(I:Inv (X.Ax e) pins σ H s):Inv X pins σ H s:=⟨ok,I.os,I.bare,I.base,I.loc,I.cell,I.free,I.dq,I.pin,I.bu,I.len⟩
theorem Gv {M:Model}{A:ZQ}{E:YU->YW->Prop}{j:Nat}{n:Str}{pos:Pos}{Q:Unit->YW->Prop}(I:Inv X pins σ H s)(hN:X.N.Nodup)(hj:X.N[j]?=some n)(hl:X.env.scope.names.lookup n=some .local)
  (h:∀s',Inv X pins (σ.set j none) H s'->Q () s'):Zr M A (do bindName X.env n .none;unbindBehindTheSuite X.env n pos) Q E s:=by
 obtain⟨m,hn,oG⟩:=id I.loc;have K1:(X.env.scope.kind==.class || (X.env.scope.kind==.module&&X.env.locals != X.env.globals))=false:=by rw[I.ok.kind];rfl
 have DM:=I.DM;obtain⟨oL,_,_,Vf,_⟩:=id hn;refine wpAny_nameGoes_keeps hl hn K1 λh' v Gk hs=>h _ ?_;have LP:iI X.prog X.w H h':=λb ob eb=>by
  refine(I.bu b ob eb).jh (λc w' hc q=>(hs.2 c ?_).trans q) (λ_ q=>q) λ_ _ q=>q;rintro rfl;rcases hc with rfl|hc
  ·rw[I.free]at eb;cases eb
  ·rw[I.free]at hc;cases hc
 have nL:∀b o,X.s₀.heap.get? b=some o->b≠X.env.locals:=λb o eb=>Zu (Zv (Za eb) I.ok.above);refine⟨I.ok,I.os,I.bare,⟨λb o eb nb hb hx=>(hs.2 b (nL b o eb)).trans (I.base.keep b o eb nb hb hx),λb o eb nb hb hx=>?_,I.base.free,λb o eb hx=>?_,I.base.iJ,I.base.iq,I.base.iK⟩,⟨_,Gk,λi y v' e1 e2 e3=>?_⟩,λy c ec=>?_,I.free,I.dq,λp hp=>?_,LP,by simpa using I.len⟩
 ·obtain⟨sl,e1⟩:=I.base.slot b o eb nb hb hx;exact⟨sl,(hs.2 b (nL b o eb)).trans e1⟩
 ·obtain⟨o',e1⟩:=I.base.there b o eb hx;exact⟨o',(hs.2 b (nL b o eb)).trans e1⟩
 ·by_cases aT:i=j
  ·subst aT;rw[aa5]at e2;rw[if_pos rfl]at e2
   split at e2 <;> cases e2
  ·rw[List.getElem?_set_ne (abP aT)]at e2;obtain⟨u',r',q⟩:=oG i y v' e1 e2 e3;refine⟨u',r',?_⟩;rcases q with⟨k,z⟩|⟨k,c,z,z'⟩
   ·refine .inl ⟨k,?_⟩;have ne:y≠n:=λz=>aT (m9 hN e1 (z▸hj));simp[ne,z]
   ·exact .inr ⟨k,c,z,z'.sameBut hs (DM y c z)⟩
 ·obtain⟨w',z⟩:=I.cell y c ec;exact⟨w',z.sameBut hs (DM y c ec)⟩
 ·obtain⟨e1,n1,ne,nf,d⟩:=I.pin p hp;exact⟨(hs.2 p.1 ne).trans e1,n1,ne,nf,d⟩
theorem LM.land {B:Heap}{a0:YU}{h6:Heap}{t:Nat}(I:Inv X pins σ H s)(f:LM X.prog X.w X.stack H s e C H' s')(fl:abE B X.stack e (.ref C) a0 s'.heap)(tr:∀b,H' b≠none->∃o,B.get? b=some o)
  (xm:∀b o,s.heap.get? b=some o->b∉gx X.stack->∃o',B.get? b=some o'/\(H b=none->o'=o)) (f6:abE B X.stack e (.ref C) a0 h6) (up:s'.heap.UpToSlots h6) :
  Inv X pins σ (upd H' e (lU C e)) {s' with heap:=h6,toks:=t}:=by
 have u:=wB f.un fl.2.2.1 f6.1 up xm;obtain⟨oe,vs,g1,g2,g3,_⟩:=f6.first
 have ex:EX.ExcAt e C h6:=⟨oe,vs,g1,g2,g3⟩;have bu:iI X.prog X.w H' h6:=kQ f.bu fl.1 f6.1 tr;have ne:∀b u,H' b=some u->b≠e:=λb u q z=>by rw[z,f.nt]at q;cases q
 have S3:iI X.prog X.w (upd H' e (lU C e)) h6:=λb u q=>by
  by_cases hb:b=e
  ·subst hb;rw[aE]at q;cases q;exact⟨ex,⟨oe,g1⟩,λh1 h2 SD k=> by obtain⟨o,vs,z1,z2⟩ := SD;exact⟨o,vs,k o z1,z2⟩⟩
  ·rw[ay hb]at q;exact(bu b u q).jh (λc v _ q=>q) (λc q=>by rw[ay (ne c _ q)];exact q) λc xs q=>by rw[ay (ne c _ q)];exact q
 have u2:Un (gx X.stack) [] H (upd H' e (lU C e)) s.heap h6:=by
  refine⟨u.keep,u.slot,λb o eb nb hx=>?_,u.there,λb xs q=>?_,λb o q z=>?_,λb ps q=>?_⟩
  ·rw[ay (λz=>by rw[z,f.nw]at eb;cases eb)]
   exact u.free b o eb nb hx
  ·have z:=u.iJ b xs q;rw[ay (ne b _ z)];exact z
  ·have z':=u.iq b o q z;rw[ay (ne b _ z')];exact z'
  ·obtain⟨more,z⟩:=u.iK b ps q;exact⟨more,by rw[ay (ne b _ z)];exact z⟩
 exact I.Ii (s':={s' with heap:=h6,toks:=t}) f.os u2 S3 f.bare (λb z=>nomatch z)
theorem ExcAt.stays {B h:Heap}{l:List Env}{a0:YU}(f:abE B l e (.ref C) a0 h):EX.ExcAt e C h:=by
 obtain⟨oe,vs,g1,g2,g3,_⟩:=f.first
 exact⟨oe,vs,g1,g2,g3⟩
theorem Lu {xA n:Str}{CA:Addr}{j:Nat}{np Gi:Pos}{b₀:Stmt}{sO:List Stmt}{Q:Flow->YW->Prop}{E:YU->YW->Prop}(I:Inv X pins σ H s)(lP:X.stack=X.env::X.outer)(hf:X.env.frame=some X.env.locals)
  (f:LM X.prog X.w X.stack H s e C H' s') (hm:X.mg xA=some (.ref CA)) (hg:Gl X xA) (hx:exmOne X.K (.ref C) (.ref CA)=some true) (hN:X.N.Nodup) (hj:X.N[j]?=some n) (hl:X.env.scope.names.lookup n=some .local)
  (k:∀s1,Inv (X.Ax e) pins (σ.set j (some (.ref e))) (upd H' e (lU C e)) s1->Zr (model X.prog X.w) (X.Ax e).A (execs (b₀::sO) X.env)
   (λf s4=>Zr (model X.prog X.w) X.A (do bindName X.env n .none;unbindBehindTheSuite X.env n Gi) (λ_ s5=>Q f s5) E s4) (λ_ _=>False) s1) (hd:(xA==("__debug__" : Str))=false:=by decide) :
  Zr (model X.prog X.w) X.A (noteFrame (.ref e) X.env) (λ_ s₂=>Zr (model X.prog X.w) X.A (setFlight (.ref e) none) (λ_ s₃ =>
   Zr (model X.prog X.w) X.A (handleBy (.ref e) X.env [.ExceptHandler (some (.Name xA np)) (some n) (b₀::sO) Gi]) Q E s₃) E s₂) E s':=by
 have fr:X.A.frames=some (X.env::X.outer):=by rw[<- lP];exact I.ok.frames
 obtain⟨B,a0,fl,tr,xm⟩:=f.fl;have XX:abE B (X.env::X.outer) e (.ref C) a0 s'.heap:=by rw[<- lP];exact fl
 refine wpAny_looks_onW fr hf XX λh4 N9 UB=>?_;refine wpAny_landsW N9 λh5 N7 O3=>?_;have HI:abE B X.stack e (.ref C) a0 h5:=by rw[lP];exact N7
 have I5:Inv X pins σ (upd H' e (lU C e)) {s' with heap:=h5}:=f.land (t:=s'.toks) I fl tr xm HI (UB.trans O3)
 refine wpAny_handleBy_cons (codeAny_handlers_test ?_) (by intro q;cases q)
 refine h_ (X:=X.Ax e) (Inv.Ax I5) hg hm ?_ hd;refine(exm_one (M:=model X.prog X.w) I5.zO (ExcAt.stays HI).ty hx).here ?_;rw[if_pos rfl];refine codeAny_handlers_suite_as ?_;refine lands_againW N7 λh6 Tq We=>?_;have N6:abE B X.stack e (.ref C) a0 h6:=by rw[lP];exact Tq
 have I6:Inv X pins σ (upd H' e (lU C e)) {s' with heap:=h6}:=f.land (t:=s'.toks) I fl tr xm N6 ((UB.trans O3).trans We)
 refine mB (X:=X.Ax e) (Inv.Ax I6) hN hj (.inl hl) (v:=.ref e) rfl (λs7 I7=>?_) (.inr hl);exact aa8 (k s7 I7) (λf s8 z=>z) λ_ _ z=>z.elim
end
end L2
namespace L2.Q
open PySem PySem.W PySem.Spec PySem.SeqAt PyProof.Rows
abbrev Mf:=List D->(D->Prop)->(Addr->Prop)->Prop
def yP (F:Mf):Prop:=∀ds R R' T T',(∀d,R d->R' d)->(∀c,T c->T' c)->F ds R T->F ds R' T'
def sV (P:Y0)(w:Zd)(ro:Bool)(F:Mf):Sp:=λvs H Q E=>∃ds,ao P w (λ_=>False) H ds vs/\F ds (λd=>∀v H',aD H H'->vj P w ro H H' d v->Q v H') (λcl=>∀H',aD H H'->E (.ref cl) none H')
structure Ua (X:Cx)(H0:Hp)(IO:Addr->Prop)(T:Addr->Prop):Prop where
 made:∀pins σ H s e cl hs vs,Inv X pins σ H s->Kp IO H0 H->Heap.MadeExcOf s.heap hs e (.ref cl) vs->T cl->X.xe (.ref e) {s with heap:=hs}
 pass:Passes (AD X.prog X.w) X (λcv _ H'=>∃cl,cv=.ref cl/\T cl/\Kp IO H0 H')
 own:PassesOwn (model X.prog X.w) X.A X.env X.xe
abbrev XR (H:Hp)(E:XK)(cl:Addr):Prop:=∀H',aD H H'->E (.ref cl) none H'
theorem sC {P:Y0}{w:Zd}{K:Frag}{mg:Str->Option YU}{base:Heap}{N:List Str}{qual:Str}{scope:abz}{f:Addr}{cd:YU}{A:ZQ}{outer:List Env}{s:YW}{H:Hp}{E:XK}:
  Ua (lS (AD P w) P w K mg base N qual scope f cd A outer s H E) H (λ_=>False) (XR H E) where
 made:=λpins σ H1 s1 e cl hs vs I k m t=>wb I rfl rfl rfl m λBf fl=>⟨e,cl,H1,rfl,fl,t H1 λb o z=>k.out b o z λz=>z⟩
 pass:=λpins σ H1 s1 e s' I i5=>by
  obtain⟨a,cl,H',ea,fl,X_,TY,t,k⟩:=i5;cases ea;cases TY;exact CF I rfl rfl rfl fl λBf fl=>⟨a,cl,H',rfl,fl,t H' λb o z=>k.out b o z λz=>z⟩
 own:=PassesOwn.leaving
abbrev Py:List YU:=[.type "ValueError",.type "Exception",.type "BaseException",.type "object"]
structure Xc (K:Frag)(mg:Str->Option YU)(x:Str)(C:Addr):Prop where
 m:mg x=some (.ref C)
 exc:excIn K C Py "ValueError.__new__" = true
theorem Xc.own {K:Frag} {mg:Str->Option YU} {x:Str} {C:Addr} {h:Heap} (z:Xc K mg x C) (X:K.In h):OwnCls x C Py "ValueError.__new__" mg h:=by
 refine⟨z.m,?_⟩;have q:=z.exc;unfold excIn at q
 split at q
 ·rename_i dd cd sl ho
  split at q
  ·rename_i C' bm k0 k1 k2 k3 n k5 hm hs
   simp only[ZI,beq_iff_eq,aaF]at q;obtain⟨⟨⟨⟨⟨rfl,rfl⟩,Oa⟩,ht⟩,bu⟩,Pk⟩:=q;obtain⟨nm,bs,mro,ns,qn,hd,sn,sub,ab,col,del⟩:=cd;dsimp only at hm Oa bu Pk;subst hm Oa;have Ey:sl=#[k0,k1,k2,k3,some (.builtin "ValueError.__new__"),k5]:=by
    obtain⟨l⟩:=sl;simp only at hs;rw[hs]
   subst Ey;exact⟨bm,ns,nm,qn,bs,hd,sn,sub,ab,col,dd,k0,k1,k2,k3,k5,_,X _ _ ho,.of_isNs (isNs_of_in X bu),nsMap_none_of_in X bu Pk,tail_of_in X ht⟩
  ·cases q
 ·cases q
section
variable {X:Cx}{C:Cfg}{T:Addr->Prop}{x:Str}{cl:Addr}{np cpos pos OC:Pos}{m:Str}
theorem mX {j}(Z:Ua X C.H0 C.IO T)(hc:X.calm=true)(hx:Xc X.K X.mg x cl)(hg:Gl X x:=by rfl)(hd:(x==("__debug__" : Str))=false:=by decide)
  (he:Ze [.Constant (.str m) j OC] X.env=[(false,eval (.Constant (.str m) j OC) X.env)]:=by rfl) (hp:(aaw cpos (Ze [.Constant (.str m) j OC] X.env)).any (·.1)=false:=by rfl) :
  PB X C (.Raise (some (.Call (.Name x np) [.Constant (.str m) j OC] [] cpos)) none pos) (λ_ _=>T cl) :=
 ⟨λ_ _ _ _ h=>h,λpins s σ H D I zT=>by
  obtain⟨_,E,β,⟨own,sq,n⟩,t,_⟩:=zT;obtain⟨tl,N,nm,q,bs,hdct,sn,sub,ab,col,dd,k0,k1,k2,k3,k5,mN,hC,hN,Pk,TL⟩:=(hx.own I.zO).obj;have FB:=PySem.F.excBase_ValueError;refine wpAny_Raise_call_subT (C:=cl) (nm:=nm) (q:=q) (N:=N) (bs:=bs) (bm:=tl) (hdct:=hdct) (sn:=sn) (sub:=sub) (ab:=ab) (col:=col) (dd:=dd) (k0:=k0) (k1:=k1) (k2:=k2) (k3:=k3) (k5:=k5)
   FB (mN:=mN) (TL.hasType FB.hasBase) (I.ok.hd hc) hp Pk (h_ I hg hx.m ⟨rfl,?_⟩ hd)
  rw[he];refine Calls.evalArgs_plain ?_;show Zr _ _ (spliced ((false,eval (.Constant (.str m) j OC) X.env)::aaw cpos [])) _ _ _;refine Calls.spliced_cons (Calls.Constant_str (Calls.spliced_nil ⟨rfl,(by show 1<=Zf;decide),hC,hN,TL,λh' e mk=>?_⟩))
  exact Z.made pins σ H {s with toks:=s.toks+1} e cl h' _ (I.tok _) sq.kp mk t⟩
end
section
variable {X:Cx}{C:Cfg}{k:Nat}{f:Addr}{fd:ZF}{ps:List Str}{F:Mf}{ro p:Bool}{x:Str}{pp pos:Pos}{e:Expr}{es:List Expr}{φs:bS}{T:Addr->Prop}
def MN (ro:Bool)(F:Mf)(T:Addr->Prop)(φs:bS):aR:=λβ R=>φs β λds _ β1=>F ds (λd=>R d (rk ro) β1) T
theorem BC (Z:Ua X C.H0 C.IO T)(mF:yP F)(G:aP X.prog X.w X.K X.mg X.base (AD X.prog X.w) k f fd ps (sV X.prog X.w ro F))(hr:cK k X.A)(hm:X.mg x=some (.ref f))(hk:PySem.W.keepIn X.K (.ref f)=true)(hb:Binds X.K fd ps [])(ha:vg X C p (e::es) φs)(hg:Gl X x:=by rfl)
  (hdb:(x==("__debug__" : Str))=false:=by decide)
  (i6:Ze (e::es) X.env=(false,eval e X.env)::Ze es X.env:=by rfl) (hpl:(aaw pos (Ze es X.env)).any (·.1)=false:=by rfl) :
  PQ X C p (.Call (.Name x pp) (e::es) [] pos) (MN ro F T φs) :=
 ⟨λβ R R' k h=>ha.mono β _ _ (λds ks β1 q=>mF ds _ _ _ _ (λd q=>k _ _ _ q) (λ_ z=>z) q) h,(xR G hr hg hm hk hb .nil Z.pass ha.pa (hdb:=hdb) (he:=i6) (hpl:=hpl)).pre λσ H Q ⟨β,own,s,h⟩=>vp.of ha s h λds ks β1 vs H1 aC q o1 r1=>by
  rw[ZX];exact⟨ds,r1.bor,mF ds _ _ _ _ (λd q2 v H' s2 r2=>q2 v H' aC (o1.same s2) (r2.kv o1.sq.vy o1.sq.iW λa z=>o1.sn.d a z)) (λc t H' s2=>⟨c,rfl,t,o1.sq.kp.trans s2.kp⟩) q⟩⟩
end
section
variable {P:Y0}{w:Zd}{K:Frag}{mg:Str->Option YU}{base:Heap}
theorem M6 {x qual:Str}{st:Stmt}{f:Addr}{fd:ZF}{N ps:List Str}{k:Nat}{F:Mf}{ro:Bool}(G:En K x qual st f fd)(S:aO N ps (ar st))(len:∀ds R T,F ds R T->ds.length=ps.length)
  (gM:∀(bR:YU) (A:ZQ) (outer:List Env) (s:YW) (H:Hp) (E:XK),cK k (A.deeper (ab8 qual (ar st) s.heap.objs.size f bR)) ->
   ∃ψ,vh (lS (AD P w) P w K mg base N qual (ar st) f bR A outer s H E) ⟨H,λ_=>False,ro,λ_=>False⟩ (di st) ψ/\∀ds R,F ds R (XR H E)->ψ {nx:=λ_=>R .b_,rt:=λd _=>R d} (startB N ds)) :
  aP P w K mg base (AD P w) (k+1) f fd ps (sV P w ro F):=by
 obtain⟨oc,od,kV,doc,pm,an,bR,ct,Fx,rfl,lk,yj⟩:=G.ex;refine HQ lk yj S (λvs H Q E h=>?_) (λA outer s H vs Q E hr h=>?_)
 ·obtain⟨ds,r,h⟩:=h;rw[r.length];exact len ds _ _ h
 ·obtain⟨ds,r,h⟩:=h;obtain⟨ψ,hb,hF⟩:=gM bR A outer s H E hr;refine⟨_,hb.ps,(H,Wn λ_=>[]),_,startB N ds,⟨λ_=>[],mD r,Sn.refl⟩,hF ds _ h,λσ H' β sb q=>?_,λσ H' β d v sb rr q=>?_,λ_ _ _ _ z=>z.elim,λ_ _ _ _ z=>z.elim⟩
  ·obtain⟨own,s',n'⟩:=sb;exact q _ H' (λb o e=>s'.kp.out b o e (λz=>z)) (dZ (W:=λ_=>False) rfl rfl)
  ·obtain⟨own,s',n'⟩:=sb;exact q _ H' (λb o e=>s'.kp.out b o e (λz=>z)) rr
theorem aP.toX {k:Nat}{f:Addr}{fd:ZF}{ps:List Str}{F:FD}{ro:Bool}(G:aP P w K mg base bU k f fd ps (cc P w ro F)):aP P w K mg base (AD P w) k f fd ps (sV P w ro λds R _=>F ds R) :=
 ⟨λvs H Q E h=>G.len vs H Q E0 h,λA outer s H args us vs Q E hr e0 hb r hs=>aaY (G.run A outer s H args us vs Q E0 hr e0 hb r hs) λres s' q=>by
  cases res with
  |error e=>exact q.elim
  |ok fl=>cases fl <;> exact q⟩
end
abbrev _root_.L2.Cx.Fl (X:Cx)(pins:List (Addr×Obj))(Eh:YU->YW->Prop):Cx:={X with pn:=X.pn++pins,xe:=Eh}
section
variable {X:Cx}{pins gH:List (Addr×Obj)}{σ:St}{H:Hp}{s:YW}{Eh:YU->YW->Prop}
theorem JM (ok:X.Ok):(X.Fl pins Eh).Ok:=⟨ok.mod,ok.kind,ok.glob,ok.blt,ok.above,ok.inj,ok.has,ok.GW,ok.hd,ok.frames,ok.Hk,ok.HS,ok.bs,ok.Aq,ok.rj,ok.rJ,ok.ip,ok.Dh⟩
theorem yf (I:Inv X (pins++gH) σ H s):Inv (X.Fl pins Eh) gH σ H s:=⟨JM I.ok,I.os,I.bare,I.base,I.loc,I.cell,I.free,I.dq,λp hp=>I.pin p (by rw[<- ZV];exact hp),I.bu,I.len⟩
theorem BF (ok:(X.Fl pins Eh).Ok):X.Ok:=⟨ok.mod,ok.kind,ok.glob,ok.blt,ok.above,ok.inj,ok.has,ok.GW,ok.hd,ok.frames,ok.Hk,ok.HS,ok.bs,ok.Aq,ok.rj,ok.rJ,ok.ip,ok.Dh⟩
theorem Fj (I:Inv (X.Fl pins Eh) gH σ H s):Inv X (pins++gH) σ H s:=⟨BF I.ok,I.os,I.bare,I.base,I.loc,I.cell,I.free,I.dq,λp hp=>I.pin p (by rw[<- ZV]at hp;exact hp),I.bu,I.len⟩
theorem gG (I:Inv (X.Fl pins Eh) gH σ H s):Inv X pins σ H s:=⟨BF I.ok,I.os,I.bare,I.base,I.loc,I.cell,I.free,I.dq,λp hp=>I.pin p (Z8 _ hp),I.bu,I.len⟩
theorem Jt {es:List Expr}{t:TA}(h:PA X.Cg es t):PA (X.Fl pins Eh) es t:=λpos gH s σ H Q I q =>
 aa8 (h pos (pins++gH) s σ H Q ((Fj I).me _) q) (λ_ _ Sz=> by obtain⟨vs,H',I',r,q⟩ := Sz;exact⟨vs,H',yf I'.fJ,r,q⟩) λ_ _ z=>z.elim
theorem IT {D:Ends}{f:Flow}{s':YW}(h:SP (X.Fl pins Eh) [] D f s'):SP X pins D f s':=by
 cases f with
 |next=>obtain⟨σ',H',I,q⟩:=h;exact⟨σ',H',gG I,q⟩
 |brk=>obtain⟨σ',H',I,q⟩:=h;exact⟨σ',H',gG I,q⟩
 |cont=>obtain⟨σ',H',I,q⟩:=h;exact⟨σ',H',gG I,q⟩
 |ret u=>obtain⟨v,σ',H',I,r,q⟩:=h;exact⟨v,σ',H',gG I,r,q⟩
end
theorem BP {X:Cx}{CX:AB}{k:Nat}{f:Addr}{fd:ZF}{ps:List Str}{sp:Sp}{x:Str}{p pos:Pos}{e:Expr}{es:List Expr}{t:TA}(F:aP X.prog X.w X.K X.mg X.base CX k f fd ps sp)(hr:cK k X.A)(hg:Gl X x)(hm:X.mg x=some (.ref f))
  (hk:PySem.W.keepIn X.K (.ref f)=true) (hb:Binds X.K fd ps []) (ha:PA X (e::es) t) (hdb:(x==("__debug__" : Str))=false:=by decide) (he:Ze (e::es) X.env=(false,eval e X.env)::Ze es X.env:=by rfl)
  (hpl:(aaw pos (Ze es X.env)).any (·.1)=false:=by rfl) :
  PE X (.Call (.Name x p) (e::es) [] pos) (λσ H Q=>t σ H λvs H1=>∃E:XK,sp vs H1 Q E/\∀pins s e s',Inv X pins σ H1 s->CX X.stack H1 s E e s'->X.xe e s'):=by
 intro pins s σ H Q I h;refine abq (h_ I hg hm ?_ hdb);refine PySem.W.callWith_K (h₀:=X.base) I.ok.mod.LU hk (bE (ha pos pins s σ H _ I h) λus s1 ⟨vs,H1,I1,r,q⟩=>⟨I1.zO,?_⟩) he hpl;obtain⟨E,q,hx⟩:=q;have r2:Vals (vs++[]) (us++[]):=r.append .nil;have hl:(us++[]).length=ps.length:=by rw[<- r2.length,ZX];exact F.len _ _ _ _ q
 refine ab7 (aaY (F.run X.A X.stack s1 H1 ⟨us,[]⟩ (us++[]) (vs++[]) Q E hr I1.La (hb s1 us I1.zO hl) r2 (by rw[ZX];exact q)) λr s' hq=>?_)
 cases r with
 |error e=>exact hx pins s1 e s' I1 hq
 |ok fl =>
  cases fl with
  |ret u=>exact I1.after hq
  |next=>exact aaj hq
  |brk=>exact aaj hq
  |cont=>exact aaj hq
abbrev Il:=dw->(Addr->Prop)->ba->Prop
structure TB (X:Cx)(C:Cfg)(body:List Stmt)(θ:Il):Prop where
 mono:∀E E' T T' β,Le E E'->(∀c,T c->T' c)->θ E T β->θ E' T' β
 run:∀(pins:List (Addr×Obj)) (s:YW) (σ:St) (H:Hp) (D:Ends) (Eh:YU->YW->Prop) (Z:Hp×(Addr->Prop)) (E:dw) (β:ba) (own:Nat->List Addr) (T:Addr->Prop),Inv X pins σ H s->SQ X C.z σ H β own->Sn Z H (Wn own)->VM X C Z E D->θ E T β ->
  (∀s1 H1 e s',Inv X pins σ H1 s1->aD H H1->AD X.prog X.w X.stack H1 s1 (λcv _ H'=>∃cl,cv=.ref cl/\aD H1 H'/\T cl) e s'->Eh e s')->Zr (model X.prog X.w) X.A (execs body X.env) (SP X pins D) Eh s
section
variable {X:Cx}{C:Cfg}{k:Nat}{f:Addr}{fd:ZF}{ps:List Str}{F:Mf}{ro:Bool}{x y:Str}{pp pos cp py:Pos}{e:Expr}{es:List Expr}{φs:bS}{a b:List Stmt}{i:Nat}
theorem IH (mF:yP F)(G:aP X.prog X.w X.K X.mg X.base (AD X.prog X.w) k f fd ps (sV X.prog X.w ro F))(hr:cK k X.A)(hm:X.mg x=some (.ref f))(hk:PySem.W.keepIn X.K (.ref f)=true)(hb:Binds X.K fd ps [])(ha:vg X.Cg C.z true (e::es) φs)(hN:X.N.Nodup)(hi:X.N[i]?=some y:=by rfl)(hy:Loc X.env.scope y:=by first|exact .inl rfl|exact .inr rfl)
  (hg:Gl X x:=by rfl) (hdb:(x==("__debug__" : Str))=false:=by decide) (i6:Ze (e::es) X.env=(false,eval e X.env)::Ze es X.env:=by rfl) (hpl:(aaw cp (Ze es X.env)).any (·.1)=false:=by rfl)
  (yi:abx (.Call (.Name x pp) (e::es) [] cp) (some (.Name y py)) pos.line X.env=pure false:=by rfl) (hf:X.fn y=true\/X.env.scope.names.lookup y=some .local:=by first|exact .inl rfl|exact .inr rfl|assumption) :
  TB X C [.Assign [.Name y py] (.Call (.Name x pp) (e::es) [] cp) pos] (λE T β=>φs β λds _ β1=>F ds (λd=>F4 d (rk ro) λb=>E.nx (β1.set i (some b))) T) where
 mono:=λE E' T T' β l m h=>ha.mono _ _ _ (λds ks β1 q=>mF ds _ _ _ _ (λ_ q=>q.mono λ_=>l.nx _) m q) h
 run:=λpins s σ H D Eh Z E β own T I sq n ok h hE=>by
  have P:=qX (vU (X:=X.Fl pins Eh) (pos:=pos) (pos':=py) hN hi hy (BP (X:=X.Fl pins Eh) (p:=pp) (pos:=cp) G hr hg hm hk hb (Jt ha.pa) hdb i6 hpl) yi hf);refine bE (P [] s σ H D (yf (by rw[ZX];exact I)) ?_) λfl s' q=>IT q
  refine vp.of (X:=X.Cg) ha sq h λds ks β1 vs H1 aC q o1 r1=>?_;obtain⟨sm,rfl⟩:=o1.pu rfl;refine⟨λcv _ H'=>∃cl,cv=.ref cl/\aD H1 H'/\T cl,⟨ds,r1.bor,mF ds _ _ _ _ (λd q2 v H' s2 r2=>?_) (λcl t H' s2=>⟨cl,rfl,s2,t⟩) q⟩,λgH s1 e s' I1 q=>hE s1 H1 e s' (gG I1) sm q⟩;obtain⟨y',q3,r3⟩:=q2.of (C:=C.z) (Z:=(H,Wn aC)) (r2.kv o1.sq.vy o1.sq.iW λa z=>o1.sn.d a z);exact ok.nx _ _ _ ⟨_,(o1.sq.same s2).d4 (aF.bb (λa z=>z.elim id λz=>z.elim) r3),j4 ((n.same sm).same s2)⟩ q3
end
section
variable {P:Y0}{w:Zd}{C:Cfg}{σ:St}{H:Hp}{β:ba}{own:Nat->List Addr}
theorem cD.E6 {i:Nat}(b:cD P w C σ H β own):cD P w C (σ.set i none) H (β.set i none) (aY own i []):=by
 have sub:∀y a,jT C (Wn (aY own i [])) (yk y) a->jT C (Wn own) (yk y) a:=λy=>jS (λa h=>fq h) _;refine⟨by simp[b.len],λj y' d' e=>?_,λj d' e=>?_,λj ok e=>?_,λj a h=>b.dm j a (br h).1,λj k a h1 h2=>b.oJ j k a (br h1).1 (br h2).1,λj=>?_,b.kp,b.iW,λj y' d' e=>?_⟩
 ·by_cases aT:i=j
  ·subst aT;obtain⟨e',hl⟩:=bG e;cases e'
  ·rw[bB aT]at e ⊢
   obtain⟨u,h1,h2⟩:=b.val j y' d' e;exact⟨u,h1,h2.bb (sub _)⟩
 ·by_cases aT:i=j
  ·subst aT;obtain⟨e',hl⟩:=bG e;cases e'
  ·rw[bB aT]at e ⊢
   rw[bp aT];exact b.ow j d' e
 ·by_cases aT:i=j
  ·subst aT;obtain⟨e',hl⟩:=bG e;cases e'
  ·rw[bB aT]at e ⊢
   rw[bp aT];exact b.vv j ok e
 ·by_cases aT:i=j
  ·rw[aT,os_eq];exact Z7
  ·rw[bp aT];exact b.pS j
 ·by_cases aT:i=j
  ·subst aT;obtain⟨e',hl⟩:=bG e;cases e'
  ·rw[bB aT]at e ⊢
   rw[bp aT];obtain⟨u,h1,h2,h3⟩:=b.shl j y' d' e;exact⟨u,h1,h2.map (λ_ _ _ z=>z) (λ_ _ r=>ao.bb (sub _) r),h3⟩
end
section
variable {X:Cx}{C:Cfg}{body sO:List Stmt}{b₀:Stmt}{θ:Il}{ψ:EE}{j:Nat}{xA n:Str}{CA:Addr}{np Gi pos:Pos}
theorem E9 {P:Y0}{w:Zd}{σ:St}{H H':Hp}{β:ba}{own:Nat->List Addr}{e cl:Addr}(b:cD P w C.z σ H β own)(sm:aD H H')(nt:H' e=none):aF P w (jT C.z (Wn own) .gm) (upd H' e (lU cl e)) (.exc cl) (.ref e) :=
 ⟨e,rfl,⟨aE,λxs z=>(by cases z)⟩,λz=>by
  have b':=b.same sm;rcases z with (z|z)|z
  ·exact b'.vy e z nt
  ·exact b'.iW e z nt
  ·exact z⟩
theorem Js (lP:X.stack=X.env::X.outer)(hf:X.env.frame=some X.env.locals)(hb:TB X C body θ)(hs:∀e,vh (X.Ax e) C (b₀::sO) ψ)(hm:X.mg xA=some (.ref CA))(hN:X.N.Nodup)(hj:X.N[j]?=some n:=by rfl)(hl:X.env.scope.names.lookup n=some .local:=by rfl)(hg:Gl X xA:=by rfl)
  (hd:(xA==("__debug__" : Str))=false:=by decide) :
  PB X C (.Try body [.ExceptHandler (some (.Name xA np)) (some n) (b₀::sO) Gi] [] [] pos)
   (λE β=>∃T:Addr->Prop,θ E T β/\∀cl,T cl->exmOne X.K (.ref cl) (.ref CA)=some true/\ψ {nx:=λβ'=>E.nx (β'.set j none),rt:=λ_ _=>False} (β.set j (some (.val true (.exc cl))))) :=
 ⟨λE E' β l Sw=> by obtain⟨T,h,k⟩ := Sw;exact⟨T,hb.mono E E' T T β l (λ_ z=>z) h,λcl t=>⟨(k cl t).1,(hs 0).mono {nx:=λβ'=>E.nx (β'.set j none),rt:=λ_ _=>False} {nx:=λβ'=>E'.nx (β'.set j none),rt:=λ_ _=>False} _ ⟨λβ' q=>l.nx _ q,λ_ _ z=>z,λ_ z=>z,λ_ z=>z⟩ (k cl t).2⟩⟩,λpins s σ H D I i5=>by
  obtain⟨Z,E,β,⟨own,sq,sn⟩,⟨T,h,k⟩,ok⟩:=i5;refine wpAny_Try_except (bE (hb.run pins s σ H D _ Z E β own T I sq sn ok h λs1 H1 e s' I1 sm cx=>?_) λfl s1 q=>?_)
  ·obtain⟨a,cl,H',rfl,TM,X_,TY,UC,t⟩:=cx;cases TY;obtain⟨hx,hk⟩:=k cl t;refine Lu (X:=X) I1 lP hf TM hm hg hx hN hj hl (λs2 I2=>?_) hd;have s3:aD H (upd H' a (lU cl a)):=(sm.trans UC).trans (aD.new TM.nt);have Qn:SQ X C.z (σ.set j (some (.ref a))) (upd H' a (lU cl a)) (β.set j (some (.val true (.exc cl)))) (aY own j []):=(sq.same s3).d4 (E9 sq (sm.trans UC) TM.nt);refine bE ((hs a).ps pins s2 _ _ {nx:=λσ' H'=>D.nx (σ'.set j none) H',rt:=λ_ _=>False} I2 ⟨Z,_,_,⟨_,Qn,j4 (sn.same s3)⟩,hk,⟨λσ' H' β' sb q=>?_,λ_ _ _ _ _ _ _ z=>z.elim,λ_ _ _ _ z=>z.elim,λ_ _ _ _ z=>z.elim⟩⟩) λfl s4 q=>?_
   ·obtain⟨aU,Wa,Wc⟩:=sb;exact ok.nx _ _ _ ⟨_,Wa.E6,j4 Wc⟩ q
   ·cases fl with
    |next =>
     obtain⟨σ4,H4,I4,q4⟩:=q;exact Gv (X:=X) (I4.Mk I1.ok) hN hj hl λs5 I5=>⟨_,H4,I5,q4⟩
    |brk=>obtain⟨_,_,_,z⟩:=q;exact z.elim
    |cont=>obtain⟨_,_,_,z⟩:=q;exact z.elim
    |ret u=>obtain⟨_,_,_,_,_,z⟩:=q;exact z.elim
  ·cases fl with
   |next=>exact wpAny_execs_nil q
   |ret v=>exact q
   |brk=>exact q
   |cont=>exact q⟩
variable {e:Expr}{φ:aR}{p:Bool}{T:Str}{pp pT:Pos}{cA:Addr}
structure Xk (K:Frag)(cl:Addr)(c:YU)(b:Bool):Prop where
 xc:EX.XC K cl
 is:kitOne K (.ref cl) c=some b
def Jd (K:Frag)(c:YU)(φ:aR):aR:=λβ R=>φ β λd _ β1=>∃cl b,d=.exc cl/\Xk K cl c b/\R (.bl b) .own β1
inductive CV:V->YU->Prop where
 |own (a:Addr):CV (.ref a) (.ref a)
 |ty (n:String):CV (.ty n) (.type n)
theorem CV.rel {v:V}{c u:YU}(h:CV v c)(r:RelV v u):u=c:=by
 cases h with
 |own a=>exact r
 |ty n=>exact r
theorem DS {c:YU} {vc:V} (hc:CV vc c):gk X (.builtin "isinstance") (λxs H Q=>∃a cl b,xs=[.ref a,vc]/\H a=some (lU cl a)/\Xk X.K cl c b/\Q (.bl b) H):=by
 intro pins s σ H xs us Q I r h;obtain⟨a,cl,b,rfl,ha,z,q⟩:=h;obtain⟨u1,u2,rfl,r1,r2⟩:∃u1 u2,us=[u1,u2]/\RelV (.ref a) u1/\RelV vc u2:=by
  cases r with
  |cons r1 r =>
   cases r with
   |cons r2 r=>cases r;exact⟨_,_,rfl,r1,r2⟩
 cases r1;obtain⟨ex,_,_⟩:=I.bu a _ ha;have e2:=hc.rel r2;subst e2;exact kia_one (EX.CH z.xc) I.zO ex z.is (λz=>by cases z) λtk=>⟨.bl b,H,I.tok _,rfl,q⟩
theorem K9 {P:Y0}{w:Zd}{W:Addr->Prop}{H:Hp}{cl:Addr}{v:V}(h:aF P w W H (.exc cl) v):∃a,v=.ref a/\H a=some (lU cl a):=by
 obtain⟨a,rfl,⟨h1,_⟩,_⟩:=h;exact⟨a,rfl,h1⟩
theorem BA {c:YU} {vc:V} {ce:Expr} (hm:X.mg "isinstance" = none) (he:PQ X C p e φ) (hc:CV vc c) (XE:PE X ce (tC vc)) (hg:Gl X "isinstance" := by rfl)
  (i6:Ze [e,ce] X.env=(false,eval e X.env)::Ze [ce] X.env:=by rfl) (CW:Ze [ce] X.env=(false,eval ce X.env)::Ze [] X.env:=by rfl) (hpl:(aaw pos (Ze [ce] X.env)).any (·.1)=false:=by rfl) :
  PQ X C p (.Call (.Name "isinstance" pp) [e,ce] [] pos) (Jd X.K c φ) :=
 ⟨λβ R R' k h=>he.mono β _ _ (λd kd β1 Sv=> by obtain⟨cl,b,ed,z,q⟩ := Sv;exact⟨cl,b,ed,z,k _ _ _ q⟩) h,
  (mW (DS hc) hg hm Lw (cT he.pe (cT XE fW CW) i6) (by decide) (by decide) (he:=i6) (hpl:=hpl)).pre λσ H Q zT=>by
  obtain⟨β,own,s,h⟩:=zT;exact tQ.of he s h λd kd β1 v H1 aC hq o1 r1=>by
   obtain⟨cl,b,ed,z,q⟩:=hq;subst ed;obtain⟨a,rfl,ha⟩:=K9 r1.rep;exact⟨a,cl,b,rfl,ha,z,q _ H1 aC o1 yc⟩⟩
theorem dA (hm:X.mg "isinstance" = none) (he:PQ X C p e φ) (hT:X.mg T=some (.ref cA)) (hg:Gl X "isinstance" := by rfl) (To:Gl X T:=by rfl) (Tt:(T==("__debug__" : Str))=false:=by decide)
  (i6:Ze [e,.Name T pT] X.env=(false,eval e X.env)::Ze [.Name T pT] X.env:=by rfl) (CW:Ze [.Name T pT] X.env=(false,eval (.Name T pT) X.env)::Ze [] X.env:=by rfl) (hpl:(aaw pos (Ze [.Name T pT] X.env)).any (·.1)=false:=by rfl) :
  PQ X C p (.Call (.Name "isinstance" pp) [e,.Name T pT] [] pos) (Jd X.K (.ref cA) φ):=BA hm he (.own cA) (q_ To hT rfl Tt) hg i6 CW hpl
theorem Ji {n:String} (hm:X.mg "isinstance" = none) (he:PQ X C p e φ) (hT:X.mg T=none) (bT:ZY T=some (.type n)) (hg:Gl X "isinstance" := by rfl) (To:Gl X T:=by rfl) (Xi:T≠"__name__" := by decide) (Tt:(T==("__debug__" : Str))=false:=by decide)
  (i6:Ze [e,.Name T pT] X.env=(false,eval e X.env)::Ze [.Name T pT] X.env:=by rfl) (CW:Ze [.Name T pT] X.env=(false,eval (.Name T pT) X.env)::Ze [] X.env:=by rfl) (hpl:(aaw pos (Ze [.Name T pT] X.env)).any (·.1)=false:=by rfl) :
  PQ X C p (.Call (.Name "isinstance" pp) [e,.Name T pT] [] pos) (Jd X.K (.type n) φ):=BA hm he (.ty n) (Fp To hT bT rfl Xi Tt) hg i6 CW hpl
end
def Hf:List Str:=["NoRow","NoTie","NoStretch","NoWeights","NoNumber","NoSet","NoGap","NoPlace","NoShape","NoText","NoForm","NoneYet"]
structure XA (K:Frag)(mg:Str->Option YU)(cA:Addr)(c:Nat->Addr):Prop where
 T9:mg "ArchError" = some (.ref cA)
 nm:∀i x,Hf[i]?=some x->mg x=some (.ref (c i))
 exc:∀i,i<12->excIn K (c i) Py "ValueError.__new__" = true
 xc:∀i,i<12->EX.XC K (c i)
 is:∀i,i<12->∀j,j<12->kitOne K (.ref (c i)) (.ref (c j))=some (decide (i=j))
 val:∀i,i<12->kitOne K (.ref (c i)) (.type "ValueError")=some true
 VC:∀i,i<12->exmOne K (.ref (c i)) (.ref cA)=some true
def P0 (K:Frag)(cA:Addr)(c:Nat->Addr):Bool:=(Zi 12).all λi=>excIn K (c i) Py "ValueError.__new__" && (mroIn K (c i) (.type "object")==some true&&(mroIn K (c i) (.type "BaseException")==some true &&
 (findIn K (.ref (c i)) "__getattribute__" == some (some (.builtin "BaseException.__getattribute__"))&&(findIn K (.ref (c i)) "__getattr__" == some none&&(findIn K (.ref (c i)) "__class__" == some (some (.builtin "object.__class__")) &&
 (kitOne K (.ref (c i)) (.type "ValueError")==some true&&(exmOne K (.ref (c i)) (.ref cA)==some true&&(Zi 12).all λj=>kitOne K (.ref (c i)) (.ref (c j))==some (decide (i=j)))))))))
theorem Mj {K:Frag} {mg:Str->Option YU} {cA:Addr} {c:Nat->Addr} (h:P0 K cA c=true) (a:mg "ArchError" = some (.ref cA)) (n:∀i x,Hf[i]?=some x->mg x=some (.ref (c i))):XA K mg cA c:=by
 have q:∀i,i<12->_:=λi hi=>abf.mp h i (ZJ.mpr hi);simp only[ZI,beq_iff_eq,abf,ZJ]at q;exact⟨a,n,λi hi=>(q i hi).1,λi hi=>⟨(q i hi).2.1,(q i hi).2.2.1,(q i hi).2.2.2.1,(q i hi).2.2.2.2.1,(q i hi).2.2.2.2.2.1⟩,λi hi j hj=>(q i hi).2.2.2.2.2.2.2.2 j hj,λi hi=>(q i hi).2.2.2.2.2.2.1,λi hi=>(q i hi).2.2.2.2.2.2.2.1⟩
section
variable {K:Frag}{mg:Str->Option YU}{cA:Addr}{c:Nat->Addr}
theorem XA.x (Z:XA K mg cA c)(i:Nat){x:Str}(h:Hf[i]?=some x:=by rfl)(hi:i<12:=by decide):Xc K mg x (c i):=⟨Z.nm i x h,Z.exc i hi⟩
theorem XA.k (Z:XA K mg cA c){i j:Nat}(hi:i<12)(hj:j<12):Xk K (c i) (.ref (c j)) (decide (i=j)):=⟨Z.xc i hi,Z.is i hi j hj⟩
theorem XA.kv (Z:XA K mg cA c) {i:Nat} (hi:i<12):Xk K (c i) (.type "ValueError") true:=⟨Z.xc i hi,Z.val i hi⟩
end
theorem Lv:ZY "ValueError" = some (.type "ValueError"):=by decide +kernel
end L2.Q
namespace L2
open PySem PySem.Spec PyProof.Rows
structure vf (k:Nat)(A:ZQ):Prop where
 dp:A.depth+3*k+5<recursionLimit
 un:A.units+16*k+200<abk
theorem cK.Ax {j k:Nat}{A:ZQ}{e:Option YU}(r:cK k A)(h:j<=k):vf j (A.mark e):=⟨(r.mono h).dp,(r.mono h).un⟩
section
variable {P:Y0}{w:Zd}{K:PySem.W.Frag}{mg:Str->Option YU}{base:Heap}
abbrev Px (P:Y0)(w:Zd)(K:PySem.W.Frag)(mg:Str->Option YU)(base:Heap)(N:List Str)(qual:Str)(scope:abz)(f:Addr)(cd:YU)(A:ZQ)(outer:List Env)(s:YW)(H:Hp)(E:XK):Cx:={(lS bU P w K mg base N qual scope f cd A outer s H E).Cg with calm:=false}
structure PR (P:Y0)(w:Zd)(K:PySem.W.Frag)(mg:Str->Option YU)(base:Heap)(k:Nat)(f:Addr)(fd:ZF)(ps:List Str)(sp:Sp):Prop where
 len:∀vs H Q E,sp vs H Q E->vs.length=ps.length
 run:∀(A:ZQ) (outer:List Env) (s:YW) (H:Hp) (args:Args) (us:List YU) (vs:List V) (Q:VK) (E:XK),vf k A->Eo P w K mg base A outer s H->BindsTo s fd args (ps.zip us)->Vals vs us->sp vs H Q E ->
  abN (model P w) A (.call (.ref f) args) (CR bU outer P w H s Q E) s
theorem En.WD {x qual:Str}{st:Stmt}{f:Addr}{fd:ZF}{N ps:List Str}{k:Nat}{sp:Sp}(F:En K x qual st f fd)(S:aO N ps (ar st))(len:∀vs H Q E,sp vs H Q E->vs.length=ps.length)
  (gM:∀(bR:YU) (A:ZQ) (outer:List Env) (s:YW) (H:Hp) (vs:List V) (Q:VK) (E:XK),vf k (A.deeper (ab8 qual (ar st) s.heap.objs.size f bR))->sp vs H Q E ->
   ∃t,sv (Px P w K mg base N qual (ar st) f bR A outer s H E) (di st) t/\t {nx:=λ_ H'=>Q .b_ H',rt:=Q} (start N vs) H):PR P w K mg base (k+1) f fd ps sp:=by
 obtain⟨oc,od,kV,doc,pm,an,bR,ct,Fx,rfl,lk,yj⟩:=F.ex;refine⟨len,λA outer s H args us vs Q E hr e0 hb r i6=>?_⟩;have hl:=len _ _ _ _ i6;have KX:K.In s.heap:=e0.mod.LU.keeps λb o e=>(e0.bs b o e).1;have lim:s.heap.NoLimit:=e0.mod.nolimit.keeps λb o e=>(e0.bs b o e).1;have C5:∀y∈ps.zip us,(ar st).names.lookup y.1=some .local\/((ar st).names.lookup y.1=some .cell/\((cellsFrom (s.heap.objs.size+1) (ar st).names []).lookup y.1).isSome=true):=λy hy =>
  (S.par y.1 (abY hy).1).imp id λq=>⟨q,PySem.W.cellsFrom_some _ _ _ (.inl q)⟩
 refine codeAny_call_function (by have:=hr.dp;lia) (KX _ _ lk) rfl S.co S.gen rfl (PySem.W.codeRec_of KX yj) (hb _ _ _ _ ?_)
 refine wpAny_newFunctionEnv_cells S.kind C5 λenv he s1 x=>?_;subst he;refine⟨lim.keeps x.toInCall.keep,codeAny_func ?_⟩;obtain⟨t,ht,hq⟩:=gM bR A outer s H vs Q E ⟨by have:=hr.dp;show A.depth+1+3*k+5<_;lia,by have:=hr.un;show A.units+3+16*k+200<_;lia⟩ i6
 have J:=p_ (CX:=bU) (N:=N) (scope:=ar st) (A:={A with handled:=none}) (E:=E) (f:=f) (cd:=bR) (qual:=qual) S rfl ⟨e0.frames,e0.mod,e0.bs,e0.Aq,e0.ip,e0.Dh,e0.bu,e0.bare⟩ hl r x
 have I:Inv (Px P w K mg base N qual (ar st) f bR A outer s H E) [] (start N vs) H s1 :=
  ⟨⟨J.ok.mod,J.ok.kind,J.ok.glob,J.ok.blt,J.ok.above,J.ok.inj,J.ok.has,J.ok.GW,(λz=>by cases z),J.ok.frames,J.ok.Hk,J.ok.HS,J.ok.bs,J.ok.Aq,J.ok.rj,J.ok.rJ,J.ok.ip,J.ok.Dh⟩,J.os,J.bare,J.base,J.loc,J.cell,J.free,J.dq,J.pin,J.bu,J.len⟩
 refine aa8 (ht [] s1 (start N vs) H _ I hq) (λfl s' hs=>?_) λe s' hs=>hs.elim;have fin:∀{σ':St} {H':Hp} {v:V} {u:YU},Inv (Px P w K mg base N qual (ar st) f bR A outer s H E) [] σ' H' s'->RelV v u->Q v H'->CE outer P w H s Q u s' :=
  λ{σ' H' v u} J rv q=>⟨v,H',J.os,J.bare,J.base,J.bu,rv,q⟩
 cases fl with
 |ret u =>
  obtain⟨v,σ',H',J,rv,q⟩:=hs;exact fin J rv q
 |next =>
  obtain⟨σ',H',J,q⟩:=hs;exact fin (v:=V.b_) (u:=Value.none) J rfl q
 |brk =>
  obtain⟨_,_,_,q⟩:=hs;exact aaj q
 |cont =>
  obtain⟨_,_,_,q⟩:=hs;exact aaj q
end
namespace Q
open PySem.W
section
variable {P:Y0}{w:Zd}{K:PySem.W.Frag}{mg:Str->Option YU}{base:Heap}
theorem QN {x qual:Str}{st:Stmt}{f:Addr}{fd:ZF}{N ps:List Str}{k:Nat}{F:FD}{ro:Bool}(G:En K x qual st f fd)(S:aO N ps (ar st))(len:∀ds R,F ds R->ds.length=ps.length)
  (gM:∀(bR:YU) (A:ZQ) (outer:List Env) (s:YW) (H:Hp) (E:XK),vf k (A.deeper (ab8 qual (ar st) s.heap.objs.size f bR)) ->
   ∃ψ,vh (Px P w K mg base N qual (ar st) f bR A outer s H E) ⟨H,λ_=>False,ro,λ_=>False⟩ (di st) ψ/\∀ds R,F ds R->ψ (eN R) (startB N ds)) :
  PR P w K mg base (k+1) f fd ps (cc P w ro F):=by
 refine G.WD S (λvs H Q E h=>?_) (λbR A outer s H vs Q E hr h=>?_)
 ·obtain⟨ds,r,h⟩:=h;rw[r.length];exact len ds _ h
 ·obtain⟨ds,r,h⟩:=h;obtain⟨ψ,hb,hF⟩:=gM bR A outer s H E hr;refine⟨_,hb.ps,(H,Wn λ_=>[]),_,startB N ds,⟨λ_=>[],mD r,Sn.refl⟩,hF ds _ h,λσ H' β sb q=>?_,λσ H' β d v sb rr q=>?_,λ_ _ _ _ z=>z.elim,λ_ _ _ _ z=>z.elim⟩
  ·obtain⟨own,s',n'⟩:=sb;exact q _ H' (λb o e=>s'.kp.out b o e (λz=>z)) (dZ (W:=λ_=>False) rfl rfl)
  ·obtain⟨own,s',n'⟩:=sb;exact q _ H' (λb o e=>s'.kp.out b o e (λz=>z)) rr
theorem aP.Ij {k:Nat}{f:Addr}{fd:ZF}{ps:List Str}{ro:Bool}{F:FD}{F2:List D->(Addr->Prop)->Prop}(G1:aP P w K mg base bU k f fd ps (cc P w ro F))(G2:aP P w K mg base (AD P w) k f fd ps (sV P w ro λds _ T=>F2 ds T)):aP P w K mg base (AD P w) k f fd ps (sV P w ro λds R T=>F ds R\/F2 ds T):=by
 have G1:=aP.toX G1;refine⟨λvs H Q E h=>?_,λA outer s H args us vs Q E hr e0 hb r h=>?_⟩
 ·obtain⟨ds,r,h|h⟩:=h
  ·exact G1.len vs H Q E ⟨ds,r,h⟩
  ·exact G2.len vs H Q E ⟨ds,r,h⟩
 ·obtain⟨ds,rr,h|h⟩:=h
  ·exact G1.run A outer s H args us vs Q E hr e0 hb r ⟨ds,rr,h⟩
  ·exact G2.run A outer s H args us vs Q E hr e0 hb r ⟨ds,rr,h⟩
end
variable {X:Cx}{C:Cfg}{k:Nat}{f:Addr}{fd:ZF}{ps:List Str}{F:FD}{ro p:Bool}{x:Str}{pp pos:Pos}{e:Expr}{es:List Expr}{φs:bS}
theorem BD (mF:cN F)(G:PR X.prog X.w X.K X.mg X.base k f fd ps (cc X.prog X.w ro F))(hr:vf k X.A)(hm:X.mg x=some (.ref f))(hk:PySem.W.keepIn X.K (.ref f)=true)(hb:Binds X.K fd ps [])(ha:vg X C p (e::es) φs)(hg:Gl X x:=by rfl)
  (hdb:(x==("__debug__" : Str))=false:=by decide)
  (i6:Ze (e::es) X.env=(false,eval e X.env)::Ze es X.env:=by rfl) (hpl:(aaw pos (Ze es X.env)).any (·.1)=false:=by rfl) :
  PQ X C p (.Call (.Name x pp) (e::es) [] pos) (MO ro F φs):=by
 have call:PE X (.Call (.Name x pp) (e::es) [] pos) (Hj (cc X.prog X.w ro F) [] E0 (vp X C p φs)):=by
  intro pins s σ H Q I h;refine abq (h_ I hg hm ?_ hdb);refine PySem.W.callWith_K (h₀:=X.base) I.ok.mod.LU hk (bE (ha.pa pos pins s σ H _ I h) λus s1 hq=>?_) i6 hpl;obtain⟨vs,H1,I1,r,q⟩:=hq;have r2:Vals (vs++[]) (us++[]):=r.append .nil;have hl:(us++[]).length=ps.length:=by rw[<- r2.length];exact G.len _ _ _ _ q
  refine⟨I1.zO,ab7 (aaY (G.run X.A X.stack s1 H1 ⟨us,[]⟩ (us++[]) (vs++[]) Q E0 hr I1.La (hb s1 us I1.zO hl) r2 q) λr s' hq=>?_)⟩;cases r with
  |error e=>exact(Hu (X:=X) pins σ H1 s1 e s' I1 hq)
  |ok fl =>
   cases fl with
   |ret u=>exact I1.after hq
   |next=>exact aaj hq
   |brk=>exact aaj hq
   |cont=>exact aaj hq
 exact⟨λβ R R' k h=>ha.mono β _ _ (λds ks β1 q=>mF ds _ _ (λd q=>k _ _ _ q) q) h,call.pre λσ H Q ⟨β,own,s,h⟩=>vp.of ha s h λds ks β1 vs H1 aC q o1 r1=>by
  rw[ZX];exact⟨ds,r1.bor,mF ds _ _ (λd q2 v H' s2 r2=>q2 v H' aC (o1.same s2) (r2.kv o1.sq.vy o1.sq.iW λa z=>o1.sn.d a z)) q⟩⟩
end Q
end L2
namespace L2.Q
def Ev (φ:aR)(β:ba)(d:D)(k:Kd):Prop:=∀R:D->Kd->ba->Prop,R d k β->φ β R
def PU (φs:bS)(β:ba)(ds:List D)(ks:List Kd):Prop:=∀R:List D->List Kd->ba->Prop,R ds ks β->φs β R
theorem rK {β:ba}:PU MQ β [] []:=λ_ h=>h
theorem bQ {φ:aR}{φs:bS}{β:ba}{d:D}{k:Kd}{ds:List D}{ks:List Kd}{pr:Bool}(h:Ev φ β d k)(hk:hold k pr)(hs:PU φs β ds ks):PU (Hl pr φ φs) β (d::ds) (k::ks):=λ_ r=>h _ ⟨hk,hs _ r⟩
theorem wG {φs:bS}{β:ba}{ds:List D}{ks:List Kd}{k:Kd}(h:PU φs β ds ks)(hl:ds.length<=1000000)(m:∀K:Kd->Prop,K k->Av ks ds K):Ev (MR φs) β (.lst ds) k:=λ_ r=>h _ ⟨ZO hl (by decide),m _ r⟩
open PySem PySem.Spec PySem.SeqAt PyProof.Rows
def OD (i:Nat):List Bool:=([0,1,2,3,4,5,6,7,8,9,10,11].map λj=>decide (i=j))++[false]
def GC (c:Nat->Addr):FD:=λds R=>∃i,i<12/\ds=[.exc (c i)]/\R (.lst ((OD i).map D.bl))
theorem GC.mono {c:Nat->Addr}:cN (GC c):=λds R R' k h=>by obtain⟨i,hi,e,q⟩:=h;exact⟨i,hi,e,k _ q⟩
def wK (x:Str):List Bool:=(Hf.map λn=>decide (n=x))++[false]
def nZ:FD:=λds R=>∃x:Str,ds=[.str x]/\(D.str x).iB=true/\R (.lst ((wK x).map D.bl))
theorem nZ.mono:cN nZ:=λds R R' k h=>by obtain⟨x,e,h1,q⟩:=h;exact⟨x,e,h1,k _ q⟩
def G4 (c:Nat->Addr):List D->(Addr->Prop)->Prop:=λds T=>∃(n:Int) (rows ts:List (List Int)),ds=[iL n rows,.lst (ts.map kD)]/\ts.length<=600/\Pairs ts/\¬ Good rows ts/\T (c 5)
theorem G4.mono {c:Nat->Addr}(F:FD)(mF:cN F):yP λds R T=>F ds R\/G4 c ds T:=λds R R' T T' k l h=>by
 rcases h with h|h
 ·exact .inl (mF ds R R' k h)
 ·obtain⟨n,rows,ts,e,h1,h2,h3,q⟩:=h;exact .inr ⟨n,rows,ts,e,h1,h2,h3,l _ q⟩
def Ae:FD:=λds R=>∃(n:Nat) (ts:List (List Int)),ds=[.int (n:Int),.lst (ts.map kD)]/\n<=60/\ts.length<=600/\b5 n ts/\Good ts ts/\R (.str (a5 (gX ts.reverse n)))
theorem Ae.mono:cN Ae:=λds R R' k h=>by obtain⟨n,ts,e,h1,h2,h3,h4,q⟩:=h;exact⟨n,ts,e,h1,h2,h3,h4,k _ q⟩
def iH (m:Int)(ts:List (List Int)):Prop:=¬ (b5 m ts/\Good ts ts)
def yY (m:Int)(t:List Int):Bool:=decide (0<=t.getD 0 0)&&(decide (t.getD 0 0<t.getD 1 0)&&decide (t.getD 1 0<m))
theorem xn (m a b:Int):yY m [a,b]=(decide (0<=a)&&(decide (a<b)&&decide (b<m))):=rfl
theorem ER {m:Int}{ts:List (List Int)}(hp:Pairs ts)(h:(ts.any λt=>!yY m t)=false):b5 m ts:=λt ht=>by
 have h:=aa6.mp h t ht;obtain⟨a,b,rfl⟩:=hp t ht;rw[xn,aaF,Bool.not_eq_false,ZI,ZI,decide_eq_true_eq,decide_eq_true_eq,decide_eq_true_eq]at h;exact⟨a,b,rfl,h⟩
theorem Ec (f:List Int->Bool)(ts:List (List Int)):uX [.lst ((ts.filter λ_=>true).map λt=>D.bl (f t))]=some (.bl (ts.any f)):=by
 have:=jO (ts.map f);rw[ZM,List.any_map]at this;rw[Z6.mpr λ_ _=>rfl];exact this
theorem Eb (m:Int)(ts:List (List Int)):uX [.lst ((ts.filter λ_=>true).map λt=>D.bl (!yY m t))]=some (.bl (ts.any λt=>!yY m t)):=Ec _ ts
def yM (c:Nat->Addr):List D->(Addr->Prop)->Prop:=λds T=>∃(m:Int) (ts:List (List Int)),ds=[.int m,.lst (ts.map kD)]/\m<=60/\ts.length<=600/\Pairs ts/\((m<0/\T (c 0))\/(0<=m/\iH m ts/\T (c 5)))
theorem yM.mono {c:Nat->Addr}:yP λds R T=>Ae ds R\/yM c ds T:=λds R R' T T' k l h=>by
 rcases h with h|h
 ·exact .inl (Ae.mono ds R R' k h)
 ·obtain⟨m,ts,e,h1,h2,h3,q⟩:=h;exact .inr ⟨m,ts,e,h1,h2,h3,q.imp (λz=>⟨z.1,l _ z.2⟩) λz=>⟨z.1,z.2.1,l _ z.2.2⟩⟩
def cn:List Nat->Int->List Int->List (List Int)->Option (List Int×List (List Int))
 |[],_,ws,fs=>some (ws,fs)
 |c::cs,at_,ws,fs =>
  if c=40 then cn cs (at_+1) (ws++[at_]) fs
  else if c=41/\ws≠[] then cn cs (at_+1) ws.dropLast (fs++[[ws.getLastD 0,at_]])
  else if c≠46 then none
  else cn cs (at_+1) ws fs
def D_ (cs:List Nat):D :=
 match cn cs 0 [] []with
 |none=>.b_
 |some (ws,fs)=>if ws=[] then .lst ((cM fs).map kD) else .b_
theorem Bd (cs:List Nat):Es (a5 cs)=cs.map λc=>D.str (bM c):=by
 show (cs.toArray.toList.map _)=_;rw[List.toList_toArray];rfl
theorem uh {cs:List Nat}(h:∀c∈cs,c<128):pZ (a5 cs):=by
 show (cs.toArray.all λx=>decide (x<128))=true;simpa using h
theorem AW (a b:Nat):(bM a=bM b)↔a=b:=by
 constructor
 ·intro h;have:(#[a]:Array Nat)=#[b]:=congrArg Str.cps h;simpa using this
 ·rintro rfl;rfl
theorem sS {cs:List Nat}(h:∀c∈cs,c<128):ab6 (a5 cs)=true:=by
 unfold ab6 a5;rw[Array.all_eq_true'];intro x hx;have:=h x (List.mem_toArray.mp hx);exact decide_eq_true (by lia)
theorem j8 {cs:List Nat}(h:∀c∈cs,c<128):(D.str (a5 cs)).iB=true :=
 bh (n:=3) ⟨sS h,by show aax (.str _)<=3;simp[aax]⟩
theorem qT {c:Nat}(h:c<128):(D.str (bM c)).iB=true:=j8 (cs:=[c]) λx z=>by rw[Y1.mp z];exact h
theorem wR {a b:Nat}(ha:a<128)(hb:b<128):yF (.str (bM a)) (.str (bM b))=some (.bl (decide (a=b))):=by
 rw[rQ _ _ (qT ha) (qT hb),decide_eq_decide.mpr (AW a b)]
theorem Li {a b:Nat}(ha:a<128)(hb:b<128):oK (.str (bM a)) (.str (bM b))=some (.bl (!decide (a=b))):=by
 rw[rO _ _ (qT ha) (qT hb),decide_eq_decide.mpr (AW a b)]
theorem Lm {c:Nat} (h:c<128):yF (.str (bM c)) (.str "(")=some (.bl (decide (c=40))):=by rw[Lr];exact wR h (by decide)
theorem Ll {c:Nat} (h:c<128):yF (.str (bM c)) (.str ")")=some (.bl (decide (c=41))):=by rw[Lq];exact wR h (by decide)
theorem DC {c:Nat} (h:c<128):oK (.str (bM c)) (.str ".")=some (.bl (!decide (c=46))):=by rw[Lp];exact Li h (by decide)
def oE (m:Int)(f:List Int):Prop:=∃a b:Int,f=[a,b]/\0<=a/\a<b/\b<m
theorem oE.le {m m':Int}{f:List Int}(h:oE m f)(l:m<=m'):oE m' f:=let ⟨a,b,e,h1,h2,h3⟩:=h;⟨a,b,e,h1,h2,by lia⟩
theorem jU:∀{cs:List Nat} {t:Int} {ws:List Int} {fs:List (List Int)} {P1:List Int} {HP:List (List Int)},0<=t->cn cs t ws fs=some (P1,HP)->(∀x∈ws,0<=x/\x<t)->(∀f∈fs,oE t f)->∀f∈HP,oE (t+cs.length) f
 |[],t,ws,fs,P1,HP,_,h,_,hf=>by
  cases h;intro f z;exact(hf f z).le (by simp)
 |c::cs,t,ws,fs,P1,HP,h0,h,hw,hf=>by
  rw[cn]at h;have e:t+((c::cs).length:Int)=t+1+cs.length:=by rw[Zc];lia
  rw[e];have kP:∀x∈ws,0<=x/\x<t+1:=λx z=>by have:=hw x z;lia
  have Ts:∀f∈fs,oE (t+1) f:=λf z=>(hf f z).le (by lia)
  by_cases q1:c=40
  ·rw[if_pos q1]at h;refine jU (by lia) h (λx z=>?_) Ts
   rcases Zb.mp z with z|z
   ·exact kP x z
   ·rw[Y1.mp z];lia
  rw[if_neg q1]at h
  by_cases q2:c=41/\ws≠[]
  ·rw[if_pos q2]at h;refine jU (by lia) h (λx z=>kP x (List.dropLast_subset _ z)) λf z=>?_
   rcases Zb.mp z with z|z
   ·exact Ts f z
   ·rw[Y1.mp z];obtain⟨qs,p,rfl⟩:∃qs p,ws=qs++[p]:=⟨ws.dropLast,ws.getLast q2.2,(abZ q2.2).symm⟩;rw[List.getLastD_concat];have:=hw p (by simp)
    exact⟨p,t,rfl,by lia,by lia,by lia⟩
  rw[if_neg q2]at h
  by_cases q3:c≠46
  ·rw[if_pos q3]at h;cases h
  ·rw[if_neg q3]at h;exact jU (by lia) h kP Ts
theorem LB (cs:List Nat):D_ cs=.b_\/∃fs:List (List Int),D_ cs=.lst ((cM fs).map kD)/\∀f∈cM fs,oE cs.length f:=by
 unfold D_;cases h:cn cs 0 [] []with
 |none=>exact .inl rfl
 |some r =>
  obtain⟨ws,fs⟩:=r
  by_cases hw:ws=[]
  ·right
   refine⟨fs,if_pos hw,λf z=>?_⟩;have:=jU (Int.le_refl 0) h (λ_ z=>nomatch z) (λ_ z=>nomatch z) f ((aX fs).mem_iff.mp z)
   rwa [Int.zero_add]at this
  ·exact .inl (if_neg hw)
def mz (s sub:Str)(hi:Nat)(st:Array Nat×Nat)(i:Nat):Array Nat×Nat:=if (decide (st.1.size<1)&&decide (st.2<=i)&&decide (i+sub.length<=hi)&&abF s sub i)=true then (st.1.push i,i+sub.length) else st
theorem uw {σ:Type}{f:σ->Nat->σ}{g:Nat->σ->Id (ForInStep σ)}(h:∀i s,g i s=pure (.yield (f s i))):∀(l:List Nat) (st:σ),forIn l st g=(pure (l.foldl f st):Id σ)
 |[],st=>rfl
 |i::l,st=>by
  rw[List.forIn_cons,h];exact uw h l _
theorem Ce (s sub:Str)(hi:Nat):aae s sub 0 hi 1=((abS 0 (hi+1)).foldl (mz s sub hi) (#[],0)).1.toList:=by
 unfold aae;simp only[Std.Legacy.Range.forIn_eq_forIn_range',Std.Legacy.Range.size];rw[show (hi+1-0+1-1) / 1=hi+1 by lia]
 rw[uw (f:=mz s sub hi) (λi st=>by
  unfold mz
  split <;> rfl)]
 rfl
theorem qi {s sub:Str}{hi:Nat}:∀{l:List Nat},(∀i∈l,¬ (i+sub.length<=hi/\abF s sub i=true))->l.foldl (mz s sub hi) (#[],0)=(#[],0)
 |[],_=>rfl
 |i::l,h=>by
  rw[aaH,show mz s sub hi (#[],0) i=(#[],0) from if_neg λz=>?_]
  ·exact qi λj z=>h j (Y7 _ z)
  ·simp only[ZI,decide_eq_true_eq]at z;exact h i Y8 ⟨z.1.2,z.2⟩
theorem uz {s sub:Str}{hi:Nat}:∀{l:List Nat} {st:Array Nat×Nat},0<st.1.size->0<(l.foldl (mz s sub hi) st).1.size
 |[],_,h=>h
 |i::l,st,h=>by
  rw[aaH,show mz s sub hi st i=st from if_neg λz=>by simp only[ZI,decide_eq_true_eq]at z;lia]
  exact uz h
theorem qh {s sub:Str}{hi:Nat}:∀{l:List Nat},(∃i∈l,i+sub.length<=hi/\abF s sub i=true)->0<(l.foldl (mz s sub hi) (#[],0)).1.size
 |[],h=>by obtain⟨i,z,_⟩:=h;cases z
 |i::l,h=>by
  rw[aaH]
  by_cases hc:i+sub.length<=hi/\abF s sub i=true
  ·rw[show mz s sub hi (#[],0) i=(#[i],i+sub.length) from if_pos (by simp[hc.1,hc.2])]
   exact uz (by simp)
  ·rw[show mz s sub hi (#[],0) i=(#[],0) from if_neg λz=>?_]
   ·refine qh ?_;obtain⟨j,z,q⟩:=h;rcases Y4.mp z with rfl|z
    ·exact absurd q hc
    ·exact⟨j,z,q⟩
   ·simp only[ZI,decide_eq_true_eq]at z;exact hc ⟨z.1.2,z.2⟩
theorem u6 (cs:List Nat)(c:Nat):Txt.contains (a5 cs) (bM c)=decide (c∈cs):=by
 have hs:∀i,i+(bM c).length<=(a5 cs).length/\abF (a5 cs) (bM c) i=true↔cs[i]?=some c:=λi=>by
  show i+1<=cs.toArray.size/\(cs.toArray.extract i (i+1)==#[c])=true↔_;rw[Zh,beq_iff_eq];have e:∀h:i<cs.length,cs.toArray.extract i (i+1)=#[cs[i]]:=λh=>by
   apply Array.ext
   ·simp;lia
   ·intro j h1 h2;have:j=0:=by simp at h2;lia
    subst this;simp
  constructor
  ·rintro⟨h1,h2⟩;rw[e (by lia)]at h2
   rw[Y2 (by lia)]
   exact congrArg some (by simpa using h2)
  ·intro h;obtain⟨h1,h2⟩:=Y_.mp h;exact⟨by lia,by rw[e h1,h2]⟩
 unfold Txt.contains;rw[Ce]
 by_cases h:c∈cs
 ·obtain⟨i,hi⟩:=aa1.mp h;have:=qh (s:=a5 cs) (sub:=bM c) (hi:=(a5 cs).length) (l:=abS 0 ((a5 cs).length+1)) ⟨i,by
   have:=(Y_.mp hi).1;rw[List.mem_range'_1];show 0<=i/\i<0+(cs.toArray.size+1);rw[Zh];lia,(hs i).mpr hi⟩
  rw[decide_eq_true h];cases e:((abS 0 ((a5 cs).length+1)).foldl (mz (a5 cs) (bM c) (a5 cs).length) (#[],0)).1.toList with
  |nil=>rw[<- Y6,e]at this;cases this
  |cons _ _=>rfl
 ·rw[decide_eq_false h,qi λi _ z=>h (Zz ((hs i).mp z))];rfl
theorem uU {cs:List Nat}(h:cs.length<1000000):Ib [.str (a5 cs)]=some (.int cs.length):=by
 show (if (a5 cs).length<1000000 then some (D.int (a5 cs).length) else none)=_
 have e:(a5 cs).length=cs.length:=by show cs.toArray.size=_;rw[Zh]
 rw[e,if_pos h]
def oZ (c:Nat):Bool:=decide (48<=c)&&decide (c<=57)
def lM (cs:List Nat)(l:Nat):Option Nat:=if cs.length=0\/l<cs.length\/cs.any (λc=>!oZ c)=true then none else if cs.head?=some 48/\cs≠[48] then none else some (NumText.digitsVal cs)
def uN:FD:=λds R=>∃(cs:List Nat) (l:Nat),ds=[.str (a5 cs),.int (l:Int)]/\(∀c∈cs,c<128)/\cs.length<=100000/\l<=600/\R (oD (lM cs l))
theorem uN.mono:cN uN:=λds R R' k h=>by obtain⟨cs,l,e,h1,h2,h3,q⟩:=h;exact⟨cs,l,e,h1,h2,h3,k _ q⟩
theorem TQ:("0123456789" : Str)=a5 [48,49,50,51,52,53,54,55,56,57]:=by decide +kernel
theorem K8 (c:Nat):uS (.str (bM c)) (.str "0123456789")=some (.bl (!oZ c)):=by
 rw[TQ];show some (D.bl (!Txt.contains _ _))=_;rw[u6]
 congr 3
 unfold oZ;rw[<- Bool.decide_and];refine decide_eq_decide.mpr ?_;simp only[Y4,aaa,or_false];omega
theorem GN {cs:List Nat}(h:cs.any (λc=>!oZ c)=false)(h1:cs≠[])(h2:cs.length<=600):yE [.str (a5 cs)]=some (.int (NumText.digitsVal cs:Nat)):=by
 have e:(a5 cs).cps.toList=cs:=rfl;have hl:(a5 cs).length=cs.length:=rfl;have ad:NumText.AllDigits (a5 cs).cps.toList:=λc hc=>by
  rw[e]at hc;have:=aa6.mp h c hc;unfold oZ at this;simp only[aaF,Bool.and_eq_false_iff,decide_eq_false_iff_not,not_or,Decidable.not_not]at this;exact this
 show (if (a5 cs).length<=640 then (PySem.intText? (a5 cs)).map D.int else none)=_
 rw[if_pos (by rw[hl];lia),intText_digits ad (by rw[e];exact h1) (by rw[hl];lia),e]
 rfl
theorem CL (c:Nat)(cs:List Nat)(h:(c::cs).length<=1000000):OA (.str (a5 (c::cs))) (.int 0)=some (.str (bM c)):=by
 show (if (a5 (c::cs)).length<=Zf then (l6 (a5 (c::cs)).cps.toList 0).map λc=>D.str (bM c) else none)=_
 rw[if_pos (by rw[Zw];show (c::cs).length<=_;lia)]
 have e:l6 (a5 (c::cs)).cps.toList 0=some c:=by
  show l6 (c::cs) 0=_;unfold l6 ud;rw[if_pos (by lia),if_pos (by rw[Zc];lia)]
  rfl
 rw[e];rfl
theorem T7:("0" : Str)=bM 48:=by decide +kernel
theorem Ml {cs:List Nat}:a5 cs=("0" : Str)↔cs=[48]:=by
 rw[show ("0" : Str)=a5 [48] by decide +kernel]
 exact⟨λh=>congrArg (λx:Str=>x.cps.toList) h,λh=>by rw[h]⟩
theorem LC (cs:List Nat):uX [.lst ((cs.filter λ_=>true).map λc=>D.bl (!oZ c))]=some (.bl (cs.any λc=>!oZ c)):=by
 have:=jO (cs.map λc=>!oZ c);rw[ZM,List.any_map]at this;rw[Z6.mpr λ_ _=>rfl];exact this
theorem hV {c x:Nat}:∀{cs:List Nat},x∈(bo c cs).1\/x∈(bo c cs).2.2->x∈cs
 |[],h=>by rcases h with h|h <;> exact(by cases h)
 |y::l,h=>by
  unfold bo at h
  split at h
  ·rcases h with h|h
   ·cases h
   ·exact Y7 _ h
  ·rcases h with h|h
   ·rcases Y4.mp h with rfl|h
    ·exact Y8
    ·exact Y7 _ (hV (.inl h))
   ·exact Y7 _ (hV (.inr h))
theorem pO {c:Nat}:∀{cs:List Nat},(bo c cs).1.length<=cs.length/\(bo c cs).2.2.length<=cs.length
 |[]=>⟨YY _,YY _⟩
 |y::l=>by
  have:=@pO c l;unfold bo
  split
  ·exact⟨Zm _,Nat.le_succ _⟩
  ·exact⟨aaV this.1,Nat.le_succ_of_le this.2⟩
def xV (cs:List Nat):Option (Nat×Nat):=match lM (bo 45 cs).1 3,lM (bo 45 cs).2.2 3 with
 |some a,some b=>some (a,b)
 |_,_=>none
def WA:Option (Nat×Nat)->D
 |none=>.b_
 |some p=>kD [(p.1:Int),(p.2:Int)]
def Ds:FD:=λds R=>∃cs:List Nat,ds=[.str (a5 cs)]/\(∀c∈cs,c<128)/\cs.length<=100000/\R (WA (xV cs))
theorem Ds.mono:cN Ds:=λds R R' k h=>by obtain⟨cs,e,h1,h2,q⟩:=h;exact⟨cs,e,h1,h2,k _ q⟩
theorem DR {φa φb φc:aR}{β:ba}{a b c:Int}{R:D->Kd->ba->Prop}(ha:∀R:D->Kd->ba->Prop,R (.int a) .own β->φa β R)(hb:∀R:D->Kd->ba->Prop,R (.int b) .own β->φb β R)(hc:∀R:D->Kd->ba->Prop,R (.int c) .own β->φc β R)
  (q:R (.bl (decide (a<=b)&&decide (b<=c))) .own β):mQ φa (Bn T5 φb (Fb T5 φc)) β R:=by
 refine ha _ (hb _ ⟨_,rfl,i4 (λz1=>hc _ ⟨_,rfl,?_⟩) (λz1=>?_)⟩)
 ·simpa[z1] using q
 ·simpa[z1] using q
def fL (t:List Int):Str:=(" " : Str)++(tS (t.headD 0)++(("-" : Str)++(tS (t.getD 1 0)++Z1)))
def LJ (ts:List (List Int)):Prop:=∀t∈ts,∃a b:Int,t=[a,b]/\0<=a/\a<1000/\0<=b/\b<1000
def Dn:FD:=λds R=>∃ts:List (List Int),ds=[.lst (ts.map kD)]/\LJ ts/\ts.length<=600/\R (.str (aat Z1 (ts.map fL)))
theorem Dn.mono:cN Dn:=λds R R' k h=>by obtain⟨ts,e,h1,h2,q⟩:=h;exact⟨ts,e,h1,h2,k _ q⟩
theorem mw:∀xs:List Str,my (xs.map D.str)=some xs
 |[]=>rfl
 |x::xs=>by
  show (some x).bind (λx=>(my (xs.map D.str)).bind λxs=>some (x::xs))=_;rw[mw xs];rfl
theorem qP {a:Int}(h0:0<=a)(h:a<1000):a.natAbs.log2<1920:=ab_ (Nat.log2_le_self _) (by lia)
theorem jZ {a:Int}(h0:0<=a)(h:a<1000):(tS a).length<=10:=PySem.W.KT.len_num h0 (by lia)
theorem sL {a b:Int}(a0:0<=a)(a1:a<1000)(b0:0<=b)(b1:b<1000):(fL [a,b]).length<=22:=by
 show ((" " : Str)++(tS a++(("-" : Str)++(tS b++Z1)))).length<=22;rw[aam,aam,aam,aam];have h1:=jZ a0 a1;have h2:=jZ b0 b1;have h3:(" " : Str).length=1:=by decide +kernel
 have h4:("-" : Str).length=1:=by decide +kernel
 have h5:Z1.length=0:=rfl;lia
theorem zP {ts:List (List Int)} (sm:LJ ts) (hl:ts.length<=600):yC (.str "") [.lst ((ts.filter λ_=>true).map λt=>D.str (fL t))]=some (.str (aat Z1 (ts.map fL))):=by
 rw[Z6.mpr λ_ _=>rfl,show (ts.map λt=>D.str (fL t))=(ts.map fL).map D.str by rw[ZM];rfl]
 show (my ((ts.map fL).map D.str)).bind _=_;rw[mw];have h0:("" : Str)=Z1:=by decide +kernel
 have hs:∀{l:List (List Int)},LJ l->((l.map fL).map (·.length)).sum<=22*l.length:=λ{l} h=>by
  induction l with
  |nil=>exact YY _
  |cons t l ih =>
   have:=ih λu hu=>h u (Y7 _ hu);obtain⟨a,b,rfl,q0,q1,q2,q3⟩:=h t Y8;have h2:=sL q0 q1 q2 q3;rw[Zx,Zx,acr,Zc];lia
 have:=hs sm;show (if oY "" (ts.map fL)<=1000000 then some (D.str (aat "" (ts.map fL))) else none)=_
 rw[if_pos (by unfold oY;rw[h0,show Z1.length=0 from rfl];lia),h0]
theorem pY:∀l:List Str,(aat Z1 l).length<=(l.map (·.length)).sum
 |[]=>YY _
 |[x]=>by show x.length<=x.length+0;lia
 |x::y::r=>by
  have ih:=pY (y::r);show (x++Z1++aat Z1 (y::r)).length<=x.length+((y::r).map (·.length)).sum;rw[aam,aam,show Z1.length=0 from rfl]
  lia
theorem sN:∀{l:List (List Int)},LJ l->((l.map fL).map (·.length)).sum<=22*l.length
 |[],_=>YY _
 |t::l,h=>by
  have:=sN λu hu=>h u (Y7 _ hu);obtain⟨a,b,rfl,q0,q1,q2,q3⟩:=h t Y8;have h2:=sL q0 q1 q2 q3;rw[Zx,Zx,acr,Zc];lia
def MC (n:Int)(ts:List (List Int)):Str:=tS n++((":" : Str)++(aat Z1 (ts.map fL)++Z1))
def Dr:FD:=λds R=>∃(n:Int) (ts:List (List Int)),ds=[iL n ts]/\0<=n/\n<1000/\LJ ts/\ts.length<=600/\R (.str (MC n ts))
theorem Dr.mono:cN Dr:=λds R R' k h=>by obtain⟨n,ts,e,h0,h1,h2,h3,q⟩:=h;exact⟨n,ts,e,h0,h1,h2,h3,k _ q⟩
theorem pX {ts:List (List Int)}(sm:LJ ts)(hl:ts.length<=600):(aat Z1 (ts.map fL)).length<=1000000:=by
 have h1:=pY (ts.map fL);have h2:=sN sm;lia
def dg (n:Nat):List Nat:=if n<10 then [48+n] else [48+n / 10,48+n % 10]
theorem qz:∀n:Nat,n<41->tS (n:Int)=a5 (dg n):=by decide +kernel
theorem wL:∀n:Nat,n<41->lM (dg n) 3=some n:=by decide +kernel
theorem oh {n c:Nat}(h:n<100)(hc:c∈dg n):48<=c/\c<=57:=by
 unfold dg at hc
 split at hc
 ·rw[Y1.mp hc];lia
 ·simp only[Y4,aaa,or_false]at hc;lia
theorem rM (n:Nat):(dg n).length<=2:=by unfold dg;split <;> simp
def vq (t:List Int):List Nat:=dg (t.getD 0 0).toNat++45::dg (t.getD 1 0).toNat
def yp (ts:List (List Int)):List Nat:=(ts.map λt=>32::vq t).flatten
def s9 (n:Nat)(ts:List (List Int)):List Nat:=dg n++58::yp ts
theorem dz (a b:List Nat):a5 a++a5 b=a5 (a++b):=by
 show (⟨a.toArray++b.toArray⟩:Str)=⟨(a++b).toArray⟩;simp
theorem vD:Z1=a5 []:=rfl
theorem uc:∀ps:List (List Nat),aat Z1 (ps.map a5)=a5 ps.flatten
 |[]=>rfl
 |[p]=>by show a5 p=_;rw[aaR,List.flatten_nil,ZX]
 |p::q::r=>by
  show a5 p++Z1++aat Z1 ((q::r).map a5)=_;rw[uc (q::r),vD,dz,ZX,dz];rfl
theorem iQ {c:Nat}:∀{l:List (List Nat)} {p:List Nat},iE c (p::l)=p++(l.map λq=>c::q).flatten
 |[],p=>by rw[List.map_nil,List.flatten_nil,ZX];rfl
 |q::l,p=>by
  show p++c::iE c (q::l)=_;rw[iQ (l:=l) (p:=q)];rfl
def jV (ts:List (List Int)):Prop:=∀t∈ts,∃a b:Nat,t=[(a:Int),(b:Int)]/\a<b/\b<41
theorem jV.of {n:Nat}{ts:List (List Int)}(h:b5 (n:Int) ts)(hn:n<=41):jV ts:=λt ht=>by
 obtain⟨a,b,rfl,a0,ab,bn⟩:=h t ht;exact⟨a.toNat,b.toNat,by rw[Int.toNat_of_nonneg a0,Int.toNat_of_nonneg (by lia)],by lia,by lia⟩
theorem jV.Wd {ts:List (List Int)}(h:jV ts):LJ ts:=λt ht=>by
 obtain⟨a,b,rfl,h1,h2⟩:=h t ht;exact⟨a,b,rfl,by lia,by lia,by lia,by lia⟩
theorem xS (a b:Nat):vq [(a:Int),(b:Int)]=dg a++45::dg b:=by
 show dg (a:Int).toNat++45::dg (b:Int).toNat=_;rw[Z4,Z4]
theorem Ls:(" " : Str)=bM 32:=by decide +kernel
theorem OE:("-" : Str)=bM 45:=by decide +kernel
theorem Lo:(":" : Str)=bM 58:=by decide +kernel
theorem u9 (c:Nat):bM c=a5 [c]:=rfl
theorem ES {a b:Nat}(ha:a<41)(hb:b<41):fL [(a:Int),(b:Int)]=a5 (32::vq [(a:Int),(b:Int)]):=by
 show (" " : Str)++(tS (a:Int)++(("-" : Str)++(tS (b:Int)++Z1)))=_;rw[qz a ha,qz b hb,Ls,OE,u9,u9,vD,dz,dz,dz,dz,xS,ZX];rfl
theorem EO {ts:List (List Int)}(h:jV ts):aat Z1 (ts.map fL)=a5 (yp ts):=by
 have e:ts.map fL=(ts.map λt=>32::vq t).map a5:=by
  rw[ZM];refine Z5 λt ht=>?_;obtain⟨a,b,rfl,h1,h2⟩:=h t ht;exact ES (by lia) h2
 rw[e,uc];rfl
theorem IU {n:Nat}{ts:List (List Int)}(hn:n<41)(h:jV ts):MC (n:Int) ts=a5 (s9 n ts):=by
 show tS (n:Int)++((":" : Str)++(aat Z1 (ts.map fL)++Z1))=_;rw[qz n hn,EO h,Lo,u9,vD,dz,dz,dz,ZX];rfl
theorem kl {c:Nat}{l:List Nat}:∀{p:List Nat},c∉p->bo c (p++c::l)=(p,[c],l)
 |[],_=>by show bo c (c::l)=_;rw[bo,if_pos rfl]
 |x::p,h=>by
  show bo c (x::(p++c::l))=_;rw[bo,if_neg λz=>h (by rw[z];exact Y8),kl λz=>h (Y7 _ z)]
theorem Ci {n c:Nat}(h:n<100)(hc:c<48\/57<c):c∉dg n:=λz=>by have:=oh h z;lia
theorem BR {n:Nat}{ts:List (List Int)}(hn:n<41):bo 58 (s9 n ts)=(dg n,[58],yp ts):=kl (Ci (by lia) (.inr (by decide)))
theorem Fw {a b:Nat}(ha:a<41)(hb:b<41):xV (vq [(a:Int),(b:Int)])=some (a,b):=by
 unfold xV;rw[xS,kl (Ci (by lia) (.inl (by decide)))]
 show (match lM (dg a) 3,lM (dg b) 3 with|some a,some b=>some (a,b)|_,_=>none)=_
 rw[wL a ha,wL b hb]
theorem vY {a b c:Nat}(ha:a<41)(hb:b<41)(h:c∈vq [(a:Int),(b:Int)]):c=45\/(48<=c/\c<=57):=by
 rw[xS]at h;rcases Zb.mp h with h|h
 ·exact .inr (oh (by lia) h)
 ·rcases Y4.mp h with h|h
  ·exact .inl h
  ·exact .inr (oh (by lia) h)
theorem A7 {ts:List (List Int)}(h:jV ts):cQ 32 (yp ts)=[]::ts.map vq:=by
 have e:yp ts=iE 32 ([]::ts.map vq):=by
  rw[iQ,ZM];rfl
 rw[e,gz (by simp) λp hp=>?_]
 rcases Y4.mp hp with rfl|hp
 ·exact λz=>nomatch z
 ·obtain⟨t,ht,rfl⟩:=ZE.mp hp;obtain⟨a,b,rfl,h1,h2⟩:=h t ht;exact λz=>by have:=vY (by lia) h2 z;lia
theorem K6 {ts:List (List Int)}(h:jV ts):∀c∈yp ts,c<128:=λc hc=>by
 obtain⟨l,hl,hc⟩:=List.mem_flatten.mp hc;obtain⟨t,ht,rfl⟩:=ZE.mp hl;obtain⟨a,b,rfl,h1,h2⟩:=h t ht;rcases Y4.mp hc with rfl|hc
 ·decide
 ·have:=vY (by lia) h2 hc;lia
theorem I_ {n:Nat}{ts:List (List Int)}(hn:n<41)(h:jV ts):∀c∈s9 n ts,c<128:=λc hc=>by
 rcases Zb.mp hc with hc|hc
 ·have:=oh (by lia) hc;lia
 ·rcases Y4.mp hc with rfl|hc
  ·decide
  ·exact K6 h c hc
theorem BQ (t:List Int):(vq t).length<=5:=by
 unfold vq;have h1:=rM (t.getD 0 0).toNat;have h2:=rM (t.getD 1 0).toNat;rw[Zl,Zc];lia
theorem wC:∀ts:List (List Int),(yp ts).length<=6*ts.length
 |[]=>YY _
 |t::ts=>by
  have h1:=wC ts;have h2:=BQ t;show (32::vq t++yp ts).length<=_;rw[Zl,Zc,Zc];lia
theorem Ja (n:Nat)(ts:List (List Int)):(s9 n ts).length<=6*ts.length+3:=by
 have h1:=wC ts;have h2:=rM n;unfold s9;rw[Zl,Zc];lia
theorem CI {n:Nat} {ts:List (List Int)} (hn:n<41) (h:jV ts):aat (" " : Str) ((tS (n:Int)++(":" : Str))::ts.map λt=>tS (t.getD 0 0)++("-" : Str)++tS (t.getD 1 0))=a5 (s9 n ts):=by
 have e:((tS (n:Int)++(":" : Str))::ts.map λt=>tS (t.getD 0 0)++("-" : Str)++tS (t.getD 1 0))=((dg n++[58])::ts.map vq).map a5:=by
  rw[qz n hn,Lo,u9,dz,Zx,ZM]
  congr 1
  refine Z5 λt ht=>?_;obtain⟨a,b,rfl,h1,h2⟩:=h t ht;show tS (a:Int)++("-" : Str)++tS (b:Int)=a5 (vq _);rw[qz a (by lia),qz b h2,OE,u9,dz,dz,xS,ZV]
  rfl
 rw[e,Ls,rB,iQ,ZM];show a5 ((dg n++[58])++yp ts)=_;rw[ZV];rfl
theorem nO (x:Str){l:List (List Int)}{f:List Int->Str}:D.bP (D.str x::l.map λt=>D.str (f t))=true:=by
 show (true&&D.bP (l.map λt=>D.str (f t)))=true;rw[Bool.true_and]
 induction l with
 |nil=>rfl
 |cons t l ih=>exact ih
theorem GP (ts:List (List Int)):Pw .b_ (.lst (ts.map kD))=some (.bl false):=by
 show ((if D.b_.iB=true/\(D.lst (ts.map kD)).iB=true then some ((D.gw (ts.map kD)).any λy=>Z2 y D.b_.pd) else none).map D.bl)=_
 rw[if_pos ⟨bh (n:=3) ⟨rfl,by show aax .none<=3;simp[aax]⟩,bh (cE ts)⟩]
 have e:((D.gw (ts.map kD)).any λy=>Z2 y D.b_.pd)=false:=by
  induction ts with
  |nil=>rfl
  |cons t ts ih =>
   show (Z2 (kD t).pd D.b_.pd || _)=false
   rw[show Z2 (kD t).pd D.b_.pd=false from rfl,Bool.false_or]
   exact ih
 rw[e];rfl
def Ab:FD:=λds R=>∃(n:Nat) (ts:List (List Int)),ds=[.str (a5 (s9 n ts))]/\n<=40/\Rw (n:Int) ts/\ts.length<=60/\R (iL n ts)
theorem Ab.mono:cN Ab:=λds R R' k h=>by obtain⟨n,ts,e,h1,h2,h3,q⟩:=h;exact⟨n,ts,e,h1,h2,h3,k _ q⟩
def Ad:FD:=λds R=>∃cs:List Nat,ds=[.str (a5 cs)]/\(∀c∈cs,c<128)/\cs.length<=600/\D_ cs≠.b_/\R (.tup [.int (cs.length:Nat),D_ cs])
theorem Ad.mono:cN Ad:=λds R R' k h=>by obtain⟨cs,e,h1,h2,h3,q⟩:=h;exact⟨cs,e,h1,h2,h3,k _ q⟩
theorem DZ {cs:List Nat}{t:Int}{ws:List Int}{fs:List (List Int)}:cn (40::cs) t ws fs=cn cs (t+1) (ws++[t]) fs:=by rw[cn];exact if_pos rfl
theorem DY {cs:List Nat}{t p:Int}{qs:List Int}{fs:List (List Int)}:cn (41::cs) t (qs++[p]) fs=cn cs (t+1) qs (fs++[[p,t]]):=by
 rw[cn,if_neg (by decide),if_pos ⟨rfl,by simp⟩,List.dropLast_concat,List.getLastD_concat]
theorem E3 {k:Int}:∀{us:List (List Int)},us.Pairwise Iq->(∃u∈us,p1 u=k)->sd us k=41
 |[],_,h=>by obtain⟨u,z,_⟩:=h;cases z
 |t::us,h,hx=>by
  have h:=ZZ.mp h;obtain⟨u,hu,e⟩:=hx;unfold sd
  by_cases e1:k=p1 t
  ·exact if_pos e1
  ·rcases Y4.mp hu with rfl|hu
   ·exact absurd e.symm e1
   ·have:=h.1 u hu;unfold Iq at this;rw[if_neg e1,if_neg (by lia)]
    exact E3 h.2 ⟨u,hu,e⟩
theorem E4 {k:Int}:∀{us:List (List Int)},us.Pairwise Iq->(∀u∈us,p0 u≠p1 u)->(∃u∈us,p0 u=k)->sd us k=40
 |[],_,_,h=>by obtain⟨u,z,_⟩:=h;cases z
 |t::us,h,hn,hx=>by
  have h:=ZZ.mp h;obtain⟨u,hu,e⟩:=hx;unfold sd;rcases Y4.mp hu with rfl|hu
  ·have:=hn u Y8;rw[if_neg (by lia),if_pos e.symm]
  ·have:=h.1 u hu;unfold Iq at this;rw[if_neg (by lia),if_neg (by lia)]
   exact E4 h.2 (λv hv=>hn v (Y7 _ hv)) ⟨u,hu,e⟩
theorem E2 {k:Int}:∀{us:List (List Int)},(¬ ∃u∈us,p1 u=k)->(¬ ∃u∈us,p0 u=k)->sd us k=46
 |[],_,_=>rfl
 |t::us,h1,h0=>by
  unfold sd;rw[if_neg λz=>h1 ⟨t,Y8,z.symm⟩,if_neg λz=>h0 ⟨t,Y8,z.symm⟩];exact E2 (λz=>h1 (by obtain⟨u,a,b⟩:=z;exact⟨u,Y7 _ a,b⟩)) λz=>h0 (by obtain⟨u,a,b⟩:=z;exact⟨u,Y7 _ a,b⟩)
theorem EZ {n:Nat}{us vs:List (List Int)}(hu:us.Pairwise Iq)(nu:∀u∈us,p0 u≠p1 u)(hv:vs.Pairwise Iq)(h:∀x,x∈us↔x∈vs):gX us n=gX vs n:=by
 unfold gX;refine Z5 λk _=>?_;generalize (k:Int)=k;have nv:∀u∈vs,p0 u≠p1 u:=λu z=>nu u ((h u).mpr z);have ex:∀f:List Int->Int,(∃u∈us,f u=k)↔∃u∈vs,f u=k:=λf=>⟨λz=>by obtain⟨u,a,b⟩:=z;exact⟨u,(h u).mp a,b⟩,λz=>by obtain⟨u,a,b⟩:=z;exact⟨u,(h u).mpr a,b⟩⟩
 by_cases c1:∃u∈us,p1 u=k
 ·rw[E3 hu c1,E3 hv ((ex _).mp c1)]
 ·by_cases c0:∃u∈us,p0 u=k
  ·rw[E4 hu nu c0,E4 hv nv ((ex _).mp c0)]
  ·rw[E2 c1 c0,E2 (λz=>c1 ((ex _).mpr z)) λz=>c0 ((ex _).mpr z)]
theorem apart_at {a b c d:Int}(ab:a<b)(cd:c<d)(h:Apart [a,b] [c,d]):(a≠c/\a≠d/\b≠c/\b≠d)/\¬ ((a<c/\c<b/\b<d)\/(c<a/\a<d/\d<b)):=by
 have s:¬ ∃i∈[a,b],i∈[c,d]:=λz=>by
  have:=h.1;rw[cF.mpr z]at this;cases this
 have x:¬ ((a<c/\c<b/\b<d)\/(c<a/\a<d/\d<b)):=λz=>by
  have e:da [a,b] [c,d]=true:=iY.mpr z;have:=h.2;rw[e]at this;cases this
 have s1:a∉[c,d]:=λz=>s ⟨a,by simp,z⟩
 have s2:b∉[c,d]:=λz=>s ⟨b,by simp,z⟩
 simp only[Y4,aaa,or_false,not_or]at s1 s2;exact⟨⟨s1.1,s1.2,s2.1,s2.2⟩,x⟩
section
variable {n:Nat}{us ts:List (List Int)}(tr:b5 (n:Int) ts)(ap:∀u∈ts,∀v∈ts,u≠v->Apart u v)(Vz:∀k,(∃u∈ts,p1 u=k)->sd us k=41)(VA:∀k,(∃u∈ts,p0 u=k)->sd us k=40)(Vy:∀k,(¬ ∃u∈ts,p1 u=k)->(¬ ∃u∈ts,p0 u=k)->sd us k=46)
include tr ap Vz VA Vy
theorem l7:∀(m p:Nat) (ws:List Int) (fs:List (List Int)),p+m=n->ws.Pairwise (· < ·)->(∀x,x∈ws↔∃b,[x,b]∈ts/\x<p/\(p:Int)<=b)->fs.Nodup->(∀u,u∈fs↔u∈ts/\p1 u<p)->∃HP,cn ((abS p m).map λk:Nat=>sd us (k:Int)) p ws fs=some ([],HP)/\HP.Nodup/\∀u,u∈HP↔u∈ts
 |0,p,ws,fs,hp,hs,hw,nd,hf=>by
  have e:ws=[]:=List.eq_nil_iff_forall_not_mem.mpr λx z=>by
   obtain⟨b,hb,_,h2⟩:=(hw x).mp z;obtain⟨c,d,e,_,_,h3⟩:=tr _ hb;cases e;lia
  subst e;refine⟨fs,rfl,nd,λu=>⟨λz=>((hf u).mp z).1,λz=>(hf u).mpr ⟨z,?_⟩⟩⟩;obtain⟨c,d,e,_,_,h3⟩:=tr _ z;subst e;show d<_;lia
 |m+1,p,ws,fs,hp,hs,hw,nd,hf=>by
  rw[List.range'_succ,Zx];have ec:((p:Int)+1)=((p+1:Nat):Int):=by lia
  have same:∀{a b c d:Int},[a,b]∈ts->[c,d]∈ts->(a=c\/a=d\/b=c\/b=d)->a=c/\b=d:=λ{a b c d} h1 h2 h3=>by
   obtain⟨_,_,e,_,l1,_⟩:=tr _ h1;cases e;obtain⟨_,_,e,_,l2,_⟩:=tr _ h2;cases e
   by_cases hn:([a,b]:List Int)=[c,d]
   ·cases hn;exact⟨rfl,rfl⟩
   ·have:=apart_at l1 l2 (ap _ h1 _ h2 hn);lia
  by_cases c1:∃u∈ts,p1 u=p
  ·obtain⟨u,hu,e⟩:=c1;rw[Vz p ⟨u,hu,e⟩];obtain⟨a,b,rfl,a0,ab,bn⟩:=tr _ hu;have e:b=p:=e;subst e;have ha:a∈ws:=(hw a).mpr ⟨_,hu,ab,Int.le_refl _⟩;obtain⟨qs,l,rfl⟩:∃qs l,ws=qs++[l]:=⟨ws.dropLast,ws.getLast (List.ne_nil_of_mem ha),(abZ _).symm⟩;obtain⟨s1,_,s2⟩:=aba.mp hs;have el:l=a:=by
    obtain⟨b,hb,lp,pb⟩:=(hw l).mp (by simp)
    rcases Zb.mp ha with z|z
    ·have:=s2 a z l (by simp)
     by_cases hn:([a,(p:Int)]:List Int)=[l,b]
     ·cases hn;rfl
     ·have:=apart_at ab (by lia) (ap _ hu _ hb hn)
      lia
    ·exact(Y1.mp z).symm
   subst el;rw[DY,ec];refine l7 m (p+1) qs _ (by lia) s1 (λx=>⟨λz=>?_,λz=>?_⟩) ?_ λu=>⟨λz=>?_,λz=>?_⟩
   ·obtain⟨b,hb,xp,pb⟩:=(hw x).mp (Z8 _ z);have:=s2 x z l (by simp)
    refine⟨b,hb,by lia,?_⟩
    by_cases e:b=p
    ·have:=same hb hu (by lia);lia
    ·lia
   ·obtain⟨b,hb,xp,pb⟩:=z;have hx:x≠p:=λz=>by have:=same hb hu (by lia);lia
    rcases Zb.mp ((hw x).mpr ⟨b,hb,by lia,by lia⟩)with z|z
    ·exact z
    ·rw[Y1.mp z]at hb;have:=same hb hu (by lia);lia
   ·refine ZL.mpr ⟨nd,by simp,λu hu v hv e=>?_⟩
    rw[e,Y1.mp hv]at hu;have:=((hf _).mp hu).2;have:(p:Int)<p:=this;lia
   ·rcases Zb.mp z with z|z
    ·exact⟨((hf u).mp z).1,by have:=((hf u).mp z).2;lia⟩
    ·rw[Y1.mp z];exact⟨hu,by show (p:Int)<_;lia⟩
   ·obtain⟨z1,z2⟩:=z
    by_cases e:p1 u=p
    ·obtain⟨c,d,rfl,_⟩:=tr _ z1;have e:d=p:=e;obtain⟨rfl,rfl⟩:=same z1 hu (by lia)
     exact ZK _ (by simp)
    ·exact Z8 _ ((hf u).mpr ⟨z1,by lia⟩)
  ·have nc:∀{x b:Int},[x,b]∈ts->b≠p:=λ{x b} h e=>c1 ⟨_,h,e⟩;have Vq:∀u,u∈fs↔u∈ts/\p1 u<((p+1:Nat):Int):=λu=>(hf u).trans ⟨λz=>⟨z.1,by have:=z.2;lia⟩,λz=>⟨z.1,by
    have:p1 u≠p:=λe=>c1 ⟨u,z.1,e⟩;have:=z.2;lia⟩⟩
   by_cases c0:∃u∈ts,p0 u=p
   ·obtain⟨u,hu,e⟩:=c0;rw[VA p ⟨u,hu,e⟩];obtain⟨a,b,rfl,a0,ab,bn⟩:=tr _ hu;have e:a=p:=e;subst e;rw[DZ,ec];refine l7 m (p+1) _ _ (by lia) (aba.mpr ⟨hs,by simp,λx hx y hy=>?_⟩) (λx=>⟨λz=>?_,λz=>?_⟩) nd Vq
    ·rw[Y1.mp hy];obtain⟨_,_,h,_⟩:=(hw x).mp hx;exact h
    ·rcases Zb.mp z with z|z
     ·obtain⟨b,hb,h1,h2⟩:=(hw x).mp z;have:=nc hb;exact⟨b,hb,by lia,by lia⟩
     ·rw[Y1.mp z];exact⟨b,hu,by lia,by lia⟩
    ·obtain⟨b,hb,h1,h2⟩:=z
     by_cases e:x=p
     ·exact ZK _ (by simp[e])
     ·exact Z8 _ ((hw x).mpr ⟨b,hb,by lia,by lia⟩)
   ·rw[Vy p c1 c0];rw[show cn (46::(abS (p+1) m).map λk:Nat=>sd us (k:Int)) p ws fs=cn ((abS (p+1) m).map λk:Nat=>sd us (k:Int)) ((p:Int)+1) ws fs by rw[cn,if_neg (by decide),if_neg (λz=>absurd z.1 (by decide)),if_neg (by decide)],ec]
    refine l7 m (p+1) _ _ (by lia) hs (λx=>(hw x).trans ⟨λz=>?_,λz=>?_⟩) nd Vq
    ·obtain⟨b,hb,h1,h2⟩:=z;have:=nc hb;exact⟨b,hb,by lia,by lia⟩
    ·obtain⟨b,hb,h1,h2⟩:=z;have:x≠p:=λe=>c0 ⟨_,hb,e⟩;exact⟨b,hb,by lia,by lia⟩
end
theorem LA {n:Nat}{rows ts:List (List Int)}(tr:b5 (n:Int) rows)(g:Good rows ts):D_ (gX ts.reverse n)=.lst (ts.map kD):=by
 obtain⟨h1,h2⟩:=Ea tr g;have tt:b5 (n:Int) ts:=λu z=>tr u (g.1 u z);have pt:Pairs ts:=λu z=>(tt u z).pair;have nd:ts.Nodup:=g.2.2.imp_of_mem λ{a b} ha _ z=>z.ne (pt a ha);have ap:∀u∈ts,∀v∈ts,u≠v->Apart u v:=λu hu v hv hn=>qH g hu hv hn;have ex:∀{f:List Int->Int} {k:Int},(∃u∈ts.reverse,f u=k)↔∃u∈ts,f u=k:=λ{f k}=>by simp only[abd]
 obtain⟨fs,e,nf,hf⟩:=l7 tt ap (λk z=>E3 h1 (ex.mpr z)) (λk z=>E4 h1 h2 (ex.mpr z)) (λk z1 z0=>E2 (us:=ts.reverse) (λz=>z1 (ex.mp z)) λz=>z0 (ex.mp z)) n 0 [] [] (aaP _) .nil (λx=>⟨λz=>(nomatch z),λz=>by
   obtain⟨b,hb,h,_⟩:=z;obtain⟨_,_,e,a0,_⟩:=tt _ hb;cases e;lia⟩) .nil (λu=>⟨λz=>(nomatch z),λz=>by
   obtain⟨hb,h⟩:=z;obtain⟨a,b,rfl,a0,ab,_⟩:=tt _ hb;have h:b<0:=h;lia⟩)
 have er:abS 0 n=Zi n:=List.range_eq_range'.symm;rw[er]at e;unfold D_;rw[show cn (gX ts.reverse n) 0 [] []=_ from e]
 show D.lst ((cM fs).map kD)=_;have pm:ts.Perm fs:=(aa_ nd nf).mpr λx=>(hf x).symm;rw[<- qN pm (g.2.1.imp λ{a b} z=>iP z)]
def K7 (i:Nat):D:=.lst ((OD i).map D.bl)
def rH:FD:=λds R=>∃(m:Int) (ts:List (List Int)),ds=[.int m,.lst (ts.map kD)]/\m<=60/\ts.length<=600/\Pairs ts/\(m<0->R (K7 0))/\(0<=m->iH m ts->R (K7 5))/\(∀n:Nat,m=(n:Int)->b5 m ts->Good ts ts->R (.str (a5 (gX ts.reverse n))))
theorem rH.mono:cN rH:=λds R R' k h=>by obtain⟨m,ts,e,h1,h2,h3,q0,q5,qg⟩:=h;exact⟨m,ts,e,h1,h2,h3,λz=>k _ (q0 z),λz y=>k _ (q5 z y),λn a b c=>k _ (qg n a b c)⟩
def r9 (n:Int)(way:Int)(u v:List Int):Prop:=AA n u/\AA n v/\u≠v/\((way=7/\HT.lexLt u v=false)\/(way≠7/\¬ Apart u v))
def Dt:FD:=λds R=>∃(n:Nat) (c way:Int),ds=[.int (n:Int),.int c,.int way]/\4<=n/\n<=60/\5<=way/\way<=7/\∀u v,r9 n way u v->R (.lst [kD u,kD v])
theorem Dt.mono:cN Dt:=λds R R' k h=>by obtain⟨n,c,w,e,h1,h2,h3,h4,q⟩:=h;exact⟨n,c,w,e,h1,h2,h3,h4,λu v z=>k _ (q u v z)⟩
def Dp:FD:=λds R=>∃(n:Nat) (ts:List (List Int)) (c:Int),ds=[.int (n:Int),.lst (ts.map kD),.int c]/\n<=60/\b5 n ts/\Good ts ts/\ts.length<=50/\∀us,Pairs us->us.length<=53->iH n us->R (.lst (us.map kD))
theorem Dp.mono:cN Dp:=λds R R' k h=>by obtain⟨n,ts,c,e,h1,h2,h3,h4,q⟩:=h;exact⟨n,ts,c,e,h1,h2,h3,h4,λus a b d=>k _ (q us a b d)⟩
def Dq:FD:=λds R=>∃(n:Nat) (ts:List (List Int)) (c:Int),ds=[.int (n:Int),.lst (ts.map kD),.int c]/\n<=60/\b5 n ts/\Good ts ts/\ts.length<=50/\R (.bl true)
theorem Dq.mono:cN Dq:=λds R R' k h=>by obtain⟨n,ts,c,e,h1,h2,h3,h4,q⟩:=h;exact⟨n,ts,c,e,h1,h2,h3,h4,k _ q⟩
theorem iH.Mm {n:Int}{us:List (List Int)}{t:List Int}(h:t∈us)(b:¬ AA n t):iH n us:=λz=>b (z.1 t h)
theorem jy {n a b:Int}(h:¬ (0<=a/\a<b/\b<n)):¬ AA n [a,b]:=λz=>by
 obtain⟨c,d,e,h1⟩:=z;cases e;exact h h1
theorem iH.near {n:Int}{us:List (List Int)}{u v:List Int}(hu:u∈us)(hv:v∈us)(hn:u≠v)(b:¬ Apart u v):iH n us:=λz=>b (qH z.2 hu hv hn)
theorem iH.dup {n:Int}{us:List (List Int)}(h:¬ us.Nodup):iH n us:=λz=>h (z.2.2.2.imp_of_mem λ{a b} ha _ y=>y.ne ((z.1 a ha).pair))
theorem iH.two {n:Int}{u v:List Int}(h:HT.lexLt u v=false):iH n [u,v]:=λz=>by
 have:=(ZZ.mp z.2.2.1).1 v (by simp)
 rw[h]at this;cases this
theorem iH.rev {n:Int}{l:List (List Int)}(h:rX l)(h2:2<=l.length):iH n l.reverse:=λz=>by
 match l,h,h2 with
 |a::b::l,h,_ =>
  have h1:=(ZZ.mp h).1 b (by simp)
  have h3:=(List.pairwise_reverse.mp z.2.2.1);have h4:=(ZZ.mp h3).1 b (by simp)
  rw[h1]at h4;cases h4
theorem xa {a b c d:Int}(ab:a<b)(cd:c<d)(h:Apart [a,b] [c,d]):fE [a,b] [c,d]=false:=by
 show gi a b c d=false;have s:¬ ∃i∈[a,b],i∈[c,d]:=λz=>by
  have:=h.1;rw[cF.mpr z]at this;cases this
 have x:¬ ((a<c/\c<b/\b<d)\/(c<a/\a<d/\d<b)):=λz=>by
  have e:da [a,b] [c,d]=true:=iY.mpr z;have:=h.2;rw[e]at this;cases this
 have s1:a∉[c,d]:=λz=>s ⟨a,by simp,z⟩
 have s2:b∉[c,d]:=λz=>s ⟨b,by simp,z⟩
 unfold gi;rw[decide_eq_false s1,decide_eq_false s2];simp only[Y4,aaa,or_false,not_or]at s1 s2;have:(decide (a<c)&&decide (c<b))=(decide (a<d)&&decide (d<b)):=by
  rw[ab0,ZI,ZI,decide_eq_true_eq,decide_eq_true_eq,decide_eq_true_eq,decide_eq_true_eq];lia
 rw[decide_eq_true this];rfl
theorem CD {n:Nat}{ps:List Int}(pl:ps.length<n):0<((Zi n).filter λk:Nat=>!decide ((0+(k:Int))∈ps)).length:=by
 refine Nat.pos_of_ne_zero λz=>?_;have h:=List.filter_eq_nil_iff.mp (List.length_eq_zero_iff.mp z);have hs:((Zi n).map λk:Nat=>0+(k:Int)) ⊆ ps:=λx hx=>by
  obtain⟨k,hk,rfl⟩:=ZE.mp hx;have:=h k hk
  rwa [aaF,Bool.not_eq_false,decide_eq_true_eq]at this
 have nd:((Zi n).map λk:Nat=>0+(k:Int)).Nodup:=aa4.mpr (List.nodup_range.imp λh e=>h (by lia))
 have:=nd.length_le_of_subset hs;rw[YX,aan]at this;lia
theorem wO (i:Int)(t:List Int):om (.int i) (.lst (t.map D.int))=some (.bl (!decide (i∈t))):=by
 have e:DH (.int i) (.lst (t.map D.int))=some (decide (i∈t)):=by
  show (if (D.int i).iB=true/\(D.lst (t.map D.int)).iB=true then some _ else none)=_
  rw[if_pos ⟨bh (bW i),bh (vP t)⟩,any_map jK]
 unfold om;rw[e];rfl
theorem F0 {n w a b c d:Int}(h7:w≠7)(a0:0<=a)(ab:a<b)(bn:b<n)(c0:0<=c)(cd:c<d)(dn:d<n)(ne:a≠c\/b≠d)(h:a=c\/a=d\/b=c\/b=d\/(a<c/\c<b/\b<d)):r9 n w [a,b] [c,d] :=
 ⟨⟨a,b,rfl,a0,ab,bn⟩,⟨c,d,rfl,c0,cd,dn⟩,λz=>by cases z;lia,.inr ⟨h7,λz=>by have:=apart_at ab cd z;lia⟩⟩
theorem Nt {n w a b c d:Int}(h7:w=7)(a0:0<=a)(ab:a<b)(bn:b<n)(c0:0<=c)(cd:c<d)(dn:d<n)(h:c<a):r9 n w [a,b] [c,d] :=
 ⟨⟨a,b,rfl,a0,ab,bn⟩,⟨c,d,rfl,c0,cd,dn⟩,λz=>by cases z;lia,.inl ⟨h7,by rw[HT.fY,if_neg (by lia)];exact decide_eq_false (by lia)⟩⟩
theorem zq {ts:List (List Int)}{k:Nat}{x y:Int}(h:Pairs ts):Pairs ((ts.take k++[[x,y]])++ts.drop k):=λt z=>by
 rcases Zb.mp z with z|z
 ·rcases Zb.mp z with z|z
  ·exact h t (List.mem_of_mem_take z)
  ·rw[Y1.mp z];exact⟨x,y,rfl⟩
 ·exact h t (List.mem_of_mem_drop z)
theorem Fc {ts:List (List Int)}{k:Nat}{x y:Int}:((ts.take k++[[x,y]])++ts.drop k).length=ts.length+1:=by
 have:=congrArg List.length (aaA k ts);rw[Zl]at this;rw[Zl,Zl,aad];lia
theorem r9.WE {n w:Int}{u v:List Int}(h:r9 n w u v):iH n [u,v]:=by
 obtain⟨_,_,ne,h|h⟩:=h
 ·exact iH.two h.2
 ·exact iH.near (by simp) (by simp) ne h.2
theorem r9.pairs {n w:Int}{u v:List Int}(h:r9 n w u v):Pairs [u,v]:=λt z=>by
 rcases Y4.mp z with rfl|z
 ·exact h.1.pair
 ·rw[Y1.mp z];exact h.2.1.pair
theorem ij {a b:List (List Int)}(h:Pairs a)(k:Pairs b):Pairs (a++b):=λt z=>(Zb.mp z).elim (h t) (k t)
theorem gW {a:List (List Int)}(h:Pairs a):Pairs (cM a):=λt z=>h t ((aX a).mem_iff.mp z)
theorem jq {a:List (List Int)}(h:Pairs a):∀k∈a,k≠[]:=λk z e=>by
 obtain⟨x,y,rfl⟩:=h k z;cases e
theorem r9.XZ {n w:Int}{u v:List Int}{ts:List (List Int)}(h:r9 n w u v)(h7:w≠7):iH n (cM (ts++[u,v])):=by
 obtain⟨_,_,ne,z|z⟩:=h
 ·exact absurd z.1 h7
 ·exact iH.near ((aX _).mem_iff.mpr (by simp)) ((aX _).mem_iff.mpr (by simp)) ne z.2
theorem pR {n:Int}{ts:List (List Int)}{t:List Int}(h:t∈ts):iH n (cM (ts++[t])):=iH.dup λz=>by
 have:=(aX _).nodup_iff.mp z;exact(ZL.mp this).2.2 t h t (by simp) rfl
theorem FR {n:Int}{ts:List (List Int)}{u v:List Int}:iH n (cM (ts++[u,v])).reverse:=iH.rev (gy _) (by rw[(aX _).length_eq,Zl];exact Nat.le_add_left _ _)
section
variable {X:Cx}{C:Cfg}{lk:List (Option Nat)}{γ:eV}{τ:bt}{φ:aR}{T:List Nat}{pi pc pe:Bool}{scope:abz}{N':List Str}{tg gJ elt:Expr}{ifs:List Expr}{ι:gR}{pos pos' A4:Pos}{y:Str}{i:Nat}
def Bm (hp:Bool)(lk:List (Option Nat))(ι:gR)(γ:eV)(τ:bt)(φ:aR):aR:=λβ R=>ι β λds k β1=>hold k hp/\nj γ τ φ ds k (dH lk β1) λo=>R (.lst o) .own β1
theorem Ig {σ:St}{H1:Hp}{β:ba}{own:Nat->List Addr}{a:Addr}{J:It}{ds:List D}{k:Kd}{K:List D->Prop}{End:Hp->Prop}(L:Links X scope N' lk)(EB:N'.Nodup)(hT:T.all (λi=>match lk[i]? with|some (some _)=>false|_=>true)=true)
  (γm:∀d k β R R',(∀r,R r->R' r)->γ d k β R->γ d k β R') (τm:∀β R R',(∀d β,R d β->R' d β)->τ β R->τ β R') (φm:∀β R R',(∀d k β,R d k β->R' d k β)->φ β R->φ β R')
  (s1:SQ X C σ H1 β own) (ha:H1 a=none) (it:EG X (av C (Wn own) k) J ds H1) (q:nj γ τ φ ds k (dH lk β) K)
  (fin:∀o H',K o->Out X C σ H1 own true β H' own->KV X.prog X.w C (H1,Wn own) own H' .own (.lst o) (.ref a)->End H') :
  iy J (Mo X C a T γ) (oF X (C.u λc=>c=a) true τ) (OY X C a φ) (λ_ H'=>End H') (dU lk σ) (upd H1 a (.lst [])):=by
 have Tw:∀i∈T,∀j,lk[i]?≠some (some j):=λi hi j e=>by
  have:=abf.mp hT i hi;rw[e]at this;cases this
 exact Be (T:=T) (Ee (P:=X.prog) (w:=X.w) (H1:=H1)) γm τm (λj hj=>hj) (kz L EB) Tw s1 ha it ⟨[],[],aE,(show a9 _ _ _ [] [] [] from ⟨rfl,rfl⟩),Z7,λc hc=>(nomatch hc)⟩ (s1.enter ha (kz L EB))
  (λHb Wb βx ox σx Hx Nx h0 sx qx=>E8 h0 ha φm sx qx) q λo H' q o2 r=>fin o H' q o2 (LG s1 ha r)
theorem zM (hp:Bool)(N':List Str)(lk:List (Option Nat))(L:ny X.env.scope.names X.N scope N' lk=true)(EB:N'.Nodup)(hc:X.calm=true)(hi:G_ X C pi tg gJ ι)
  (Ex:∀U cl c s H ex,EF (a8 X scope N' cl c s H ex) (C.u U) tg T γ) (Aw:∀U cl c s H ex,Ej (a8 X scope N' cl c s H ex) (C.u U) pc ifs τ) (um:∀U cl c s H ex,PQ (a8 X scope N' cl c s H ex) (C.u U) pe elt φ) (h1:pc=true:=by rfl) (h2:pe=true:=by rfl)
  (hT:T.all (λi=>match lk[i]? with|some (some _)=>false|_=>true)=true:=by rfl) (hs:∀x,aav gJ X.env x=pure x:=by intro _;rfl):PQ X C pi (.ListComp elt [⟨tg,gJ,ifs,0⟩] scope pos) (Bm hp lk ι γ τ φ):=by
 subst h1 h2;have L':=Links.of L;have γm:=(Ex (λ_=>False) [] 0 X.s₀ X.H₀ []).mono;have τm:=(Aw (λ_=>False) [] 0 X.s₀ X.H₀ []).mono;have φm:=(um (λ_=>False) [] 0 X.s₀ X.H₀ []).mono;refine⟨λβ R R' k h=>hi.mono β _ _ (λds kd β1 q=>⟨q.1,q.2.mono λo z=>k _ _ _ z⟩) h,?_⟩;refine(BO (g:=⟨tg,gJ,ifs,0⟩) (gs:=[]) (tg:=λa=>Mo X C a T γ) (tt:=λa=>oF X (C.u λc=>c=a) true τ) (ta:=λa=>OY X C a φ)
  L' hc tX rfl rfl (λ_ _=>Ih) hi.pi (λa cl c s H ex=>⟨(Ex _ cl c s H ex).pg,(Aw _ cl c s H ex).pt,tL rfl (um _ cl c s H ex).pe⟩) hs).pre λσ H Q h=>?_
 obtain⟨β,own,s,h⟩:=h;refine⟨β,own,s,hi.mono β _ _ (λds k β1 h J H1 aC o1 it a ha=>?_) h⟩;obtain⟨hk,q⟩:=h;exact Ig L' EB hT γm τm φm o1.sq ha it q λo H' q o2 r=>q _ _ aC (o1.xm o2 λz=>⟨z,rfl⟩) (r.later o1.sn)
theorem IY (o:Bool)(N':List Str)(lk:List (Option Nat))(L:ny X.env.scope.names X.N scope N' lk=true)(EB:N'.Nodup)(hc:X.calm=true)(hi:∀U,G_ X (C.u U) pi tg gJ ι)
  (Ex:∀U cl c s H ex,EF (a8 X scope N' cl c s H ex) (C.u U) tg T γ) (Aw:∀U cl c s H ex,Ej (a8 X scope N' cl c s H ex) (C.u U) pc ifs τ) (um:∀U cl c s H ex,PQ (a8 X scope N' cl c s H ex) (C.u U) pe elt φ)
  (hN:X.N.Nodup) (h1:pc=true:=by rfl) (h2:pe=true:=by rfl) (hT:T.all (λi=>match lk[i]? with|some (some _)=>false|_=>true)=true:=by rfl) (hy:X.N[i]?=some y:=by rfl) (hx:Loc X.env.scope y:=by first|exact .inl rfl|exact .inr rfl) (hf:X.fn y=true\/X.env.scope.names.lookup y=some .local:=by first|exact .inl rfl|exact .inr rfl|assumption)
  (yi:abx (.ListComp elt [⟨tg,gJ,ifs,0⟩] scope pos) (some (.Name y pos')) A4.line X.env=pure true:=by rfl)
  (KY:evalThenUse (.ListComp elt [⟨tg,gJ,ifs,0⟩] scope pos) X.env (assign (.Name y pos') X.env)=(do let _ <- comprehension (.ListComp elt [⟨tg,gJ,ifs,0⟩] scope pos) scope X.env (firstIterPos [⟨tg,gJ,ifs,0⟩] pos) (newList []) false (eval gJ X.env) (some (assign (.Name y pos') X.env));pure ()):=by first|rfl|exact arm_evalThenUse_ListComp ..)
  (hs:∀x,aav gJ X.env x=pure x:=by intro _;rfl) :
  PB X C (.Assign [.Name y pos'] (.ListComp elt [⟨tg,gJ,ifs,0⟩] scope pos) A4) (λE β=>Bm false lk ι γ τ φ β λd _ β'=>E.nx (β'.set i (some (match o with|true=>.own d|false=>.val true d)))):=by
 subst h1 h2;have L':=Links.of L;have γm:=(Ex (λ_=>False) [] 0 X.s₀ X.H₀ []).mono;have τm:=(Aw (λ_=>False) [] 0 X.s₀ X.H₀ []).mono;have φm:=(um (λ_=>False) [] 0 X.s₀ X.H₀ []).mono;refine⟨λE E' β l h=>(hi λ_=>False).mono β _ _ (λds kd β1 q=>⟨q.1,q.2.mono λo z=>l.nx _ z⟩) h,λpins s σ H D I0 hh=>?_⟩;obtain⟨Z,E,β,⟨own,sq,n⟩,h,ok⟩:=hh;refine Br (g:=⟨tg,gJ,ifs,0⟩) (gs:=[]) (tg:=λa=>Mo X C a T γ) (tt:=λa=>oF X (C.u λc=>c=a) true τ) (ta:=λa=>OY X C a φ)
  L' hc tX yi KY rfl hN hy hx hf (λ_ _=>Ih) (hi λa=>H a=none).pi (λa cl c s H ex=>⟨(Ex _ cl c s H ex).pg,(Aw _ cl c s H ex).pt,tL rfl (um _ cl c s H ex).pe⟩) hs pins s σ H D I0 ?_
 refine⟨β,own,sq.pB (C:=C.z) (U:=λa=>H a=none) λa z=>z,(hi λ_=>False).mono β _ _ (λds k β1 h J H1 aC o1 it a ha=>?_) h⟩;obtain⟨hk,q⟩:=h;refine Ig (C:=C.u λa=>H a=none) L' EB hT γm τm φm o1.sq ha it q λol H' q o2 r=>?_;have r':=r.later o1.sn;have m:=n.trans (o1.sn.trans o2.sn);cases o with
 |false=>exact ok.nx _ _ _ ⟨_,(cD.WG o2.sq).d4 (aF.bb (λa z=>z.elim id λz=>z.elim) (KV.rep r')),j4 m⟩ q
 |true =>
  obtain⟨A,h1,h2,h3⟩:=r';refine ok.nx _ _ _ ⟨_,o2.sq.vR h1 h2 λc hc=>⟨(h3 c hc).2.2,(h3 c hc).2.1,(h3 c hc).1⟩,?_⟩ q;exact⟨λb hq=>by
   obtain⟨j,hj⟩:=hq
   by_cases aT:i=j
   ·rw[<- aT,os_eq]at hj;exact .inr (n.free (h3 b hj).1)
   ·rw[bp aT]at hj;exact m.w b ⟨j,hj⟩,m.k,m.d⟩
end
end L2.Q
namespace oO
open PySem L2 L2.Q
section
variable {P:Y0}{w:Zd}{K:PySem.W.Frag}{mg:Str->Option YU}{base:Heap}{c:Nat->Addr}
theorem b9:aO ["many","cell","way","points","k","left","a","b","c","d"] ["many","cell","way"] (ar g7):=mkS
theorem JN {uH lD} (ED:D2 K mg uH lD) {jI fh} (b4:D1 K mg jI fh) {iu dJ} (oj:D0 K mg iu dJ) (B:yT mg):aP P w K mg base bU 3 uH lD ["many","cell","way"] (cc P w false Dt):=by
 have l9:aP P w K mg base bU 2 _ _ _ (cc P w true cW):=fB b4 oj;refine ly ED.F b9 (λds R h=>by obtain⟨m,c,w,e,_⟩:=h;subst e;rfl) λbR A outer s H E hr=>⟨_,(ai (dh (i:=3) (λ_=>(a7 ag)) b9.nd)
    (ai (ft aap rfl (bC B.range (aa aj ag)) (au (i:=4) b9.nd) (ai (IY (i:=5) false ["point","points"] [none,some 3] (by rfl) (by decide:(["point","points"]:List Str).Nodup) rfl (λ_=>(bC B.range (aa (af (i:=0)) ag))) (λ_ _ _ _ _ _=>(au (i:=0) (by decide:(["point","points"]:List Str).Nodup))) (λ_ _ _ _ _ _=>(vH (aw ah (bf.m (pP hr.fK)) (af (i:=0)) (af (i:=1))))) (λ_ _ _ _ _ _=>(af (i:=0))) b9.nd)
    (ak (fA (i:=3) (λ_=>(bc ah bN (af (i:=5)) (ax cW.mono l9 (hr.mono (by decide)) b4.m b4.F.kp b4.b (aa (af (i:=1)) (aa (aN aK aG aj (af (i:=4))) (aa (aM ah (a_.m dc) B.len gb (aa (af (i:=5)) ag)) ag))))))))))
    (ai (ki (Bw (af (i:=3)) B.sorted) (Fs (n:=4) rfl (az (au (i:=6) b9.nd) (az (au (i:=7) b9.nd) (az (au (i:=8) b9.nd) (az (au (i:=9) b9.nd) bj))))))
    (ai (a6 (aw ah (bf.m (cI hr.units)) (af (i:=2)) aj) (ak (aL (a7 (aa (aV (aa (af (i:=6)) (aa (af (i:=8)) ag))) (aa (aV (aa (af (i:=7)) (aa (af (i:=9)) ag))) ag))))) aH)
    (ai (a6 (aw ah (bf.m (cI hr.units)) (af (i:=2)) aj) (ak (aL (bc ah bN (a7 (aa (a7 (aa (aV (aa (af (i:=6)) (aa (af (i:=7)) ag))) (aa (aV (aa (af (i:=7)) (aa (af (i:=9)) ag))) ag))) (aa (a7 (aa (aV (aa (af (i:=6)) (aa (af (i:=8)) ag))) (aa (aV (aa (af (i:=6)) (aa (af (i:=9)) ag))) ag))) (aa (a7 (aa (aV (aa (af (i:=6)) (aa (af (i:=9)) ag))) (aa (aV (aa (af (i:=7)) (aa (af (i:=9)) ag))) ag))) ag)))) (ax cW.mono l9 (hr.mono (by decide)) b4.m b4.F.kp b4.b (aa (af (i:=1)) (aa aj (aa aj ag))))))) aH)
    (ak (aL (bc ah bN (a7 (aa (a7 (aa (aV (aa (af (i:=8)) (aa (af (i:=9)) ag))) (aa (aV (aa (af (i:=6)) (aa (af (i:=7)) ag))) ag))) (aa (a7 (aa (aV (aa (af (i:=7)) (aa (af (i:=8)) ag))) (aa (aV (aa (af (i:=6)) (aa (af (i:=9)) ag))) ag))) ag))) (ax cW.mono l9 (hr.mono (by decide)) b4.m b4.F.kp b4.b (aa (af (i:=1)) (aa aj (aa aj ag)))))))))))),λds R h=>?_⟩
 obtain⟨n,c,way,rfl,hn,NW,w5,w7,q⟩:=h;refine⟨Zm _,trivial,trivial,4,rfl,by decide,by decide,trivial,?_⟩
 refine zY (λi β=>i<=4/\∃(ps:List Int) (y4 y5 y6 y7 y8 y9:Option Q.B),ps.length=i/\ps.Nodup/\(∀p∈ps,0<=p/\p<n)/\β=[some (.val false (.int (n:Int))),some (.val false (.int c)),some (.val false (.int way)),some (.own (.lst (ps.map D.int))),y4,y5,y6,y7,y8,y9]) ⟨by decide,[],_,_,_,_,_,_,rfl,.nil,λp z=>(nomatch z),rfl⟩ (λE1 r1 i n1 d β hd hv=>?_) λβ hv=>?_
 ·obtain⟨hi,ps,y4,y5,y6,y7,y8,y9,pl,pn,pb,rfl⟩:=hv;obtain⟨YM,rfl⟩:=eC hd;refine⟨_,rfl,trivial,(n:Int),rfl,by lia,by lia,trivial,?_⟩
  rw[Z4];refine eK (l:=Zi n) (f:=λk:Nat=>D.int (0+(k:Int))) (λk=>!decide ((0+(k:Int))∈ps)) (λk=>.int (0+(k:Int))) trivial (gg (by rw[aan];lia)) (λk hk x0 o J ho j1 j2=>?_) ?_
  ·refine⟨_,rfl,trivial,_,rfl,_,wO _ _,_,rfl,?_⟩;cases hx:decide (0+(k:Int)∈ps)with
   |true=>exact dI rfl (j2 (by rw[hx];rfl) _)
   |false=>exact nK rfl ⟨_,rfl,trivial,ho,j1 (by rw[hx];rfl) _⟩
  have lp:=CD (n:=n) (ps:=ps) (by have:Int.toNat 4=4:=rfl;lia)
  have ll:=aa2 (λk:Nat=>!decide ((0+(k:Int))∈ps)) (Zi n);rw[aan]at ll;have hm:∀k∈(Zi n).filter (λk:Nat=>!decide ((0+(k:Int))∈ps)),k<n/\(0+(k:Int))∉ps:=λk hk=>by
   obtain⟨h1,h2⟩:=abp.mp hk;exact⟨ZJ.mp h1,of_decide_eq_false (by simpa using h2)⟩
  generalize (Zi n).filter (λk:Nat=>!decide ((0+(k:Int))∈ps))=left at lp ll hm ⊢
  refine⟨⟨_,rfl⟩,_,rfl,trivial,?_⟩;have dl:GI [.lst (left.map λk:Nat=>D.int (0+(k:Int)))]=some (.int (left.length:Nat)):=uT (by rw[YX])
  refine⟨_,rfl,trivial,trivial,_,rfl,_,rfl,trivial,_,rfl,trivial,_,dl,trivial,c,204+(0+(i:Int)),(left.length:Nat),rfl,by lia,by lia,by lia,λr r0 r1=>pick r0 (by rw[YX];lia) λd hd=>?_⟩
  obtain⟨k,hk,rfl⟩:=ZE.mp hd;obtain⟨kn,kp⟩:=hm k hk;refine⟨trivial,_,rfl,by rw[YX,Zw];lia,n1 _ ⟨by have:Int.toNat 4=4:=rfl;lia,ps++[0+(k:Int)],_,_,_,_,_,_,by rw[Zl,aad,pl],ZL.mpr ⟨pn,by simp,λx hx y hy e=>?_⟩,λp hp=>?_,by rw[aar];rfl⟩⟩
  ·rw[Y1.mp hy]at e;exact kp (e▸hx)
  ·rcases Zb.mp hp with z|z
   ·exact pb p z
   ·rw[Y1.mp z];lia
 ·obtain⟨_,ps,y4,y5,y6,y7,y8,y9,pl,pn,pb,rfl⟩:=hv;rw[d_]at pl;refine⟨_,rfl,ps,rfl,by lia,λms ho hp=>?_⟩
  have nd:=hp.nodup_iff.mpr pn;have hb:∀p∈ms,0<=p/\p<n:=λp z=>pb p (hp.mem_iff.mp z);have ln:=hp.length_eq.trans pl
  match ms,ln with
  |[e,f,g,h],_ =>
   obtain⟨o1,o2,o3,o4,l1,l2,l3⟩:0<=e/\h<n/\0<=f/\0<=g/\e<f/\f<g/\g<h:=by
    simp only[ZZ,ZD,Y4,aaa,or_false,not_or,forall_eq_or_imp,forall_eq]at ho nd hb;lia
   refine⟨_,rfl,rfl,_,_,rfl,_,_,rfl,_,_,rfl,_,_,rfl,rfl,?_⟩;refine⟨_,rfl,trivial,_,fm _ _,_,rfl,i4 (λh5=>?_) λh5=>?_⟩
   ·exact⟨_,rfl,trivial,_,rfl,trivial,eX,trivial,_,rfl,trivial,_,rfl,trivial,eX,trivial,eX,trivial,q _ _ (F0 (by lia) (by lia) (by lia) (by lia) (by lia) (by lia) (by lia) (by lia) (by lia))⟩
   refine⟨_,rfl,trivial,_,fm _ _,_,rfl,i4 (λh6=>?_) λh6=>?_⟩
   ·refine⟨_,rfl,trivial,_,rfl,trivial,eX,trivial,_,rfl,trivial,_,rfl,trivial,eX,trivial,eX,trivial,_,rfl,trivial,_,rfl,trivial,eX,trivial,_,rfl,trivial,_,rfl,trivial,eX,trivial,eX,trivial,_,rfl,trivial,_,rfl,trivial,eX,trivial,_,rfl,trivial,_,rfl,trivial,eX,trivial,eX,trivial,O0,trivial,_,rfl,trivial,trivial,trivial,c,208,3,rfl,by decide,by decide,by decide,λr r0 r1=>?_⟩
    rcases (by lia:r=0\/r=1\/r=2)with rfl|rfl|rfl
    ·exact⟨_,rfl,.inr ⟨trivial,q _ _ (F0 (by lia) (by lia) (by lia) (by lia) (by lia) (by lia) (by lia) (by lia) (by lia))⟩⟩
    ·exact⟨_,rfl,.inr ⟨trivial,q _ _ (F0 (by lia) (by lia) (by lia) (by lia) (by lia) (by lia) (by lia) (by lia) (by lia))⟩⟩
    ·exact⟨_,rfl,.inr ⟨trivial,q _ _ (F0 (by lia) (by lia) (by lia) (by lia) (by lia) (by lia) (by lia) (by lia) (by lia))⟩⟩
   ·refine⟨_,rfl,trivial,_,rfl,trivial,eX,trivial,_,rfl,trivial,_,rfl,trivial,eX,trivial,eX,trivial,_,rfl,trivial,_,rfl,trivial,eX,trivial,_,rfl,trivial,_,rfl,trivial,eX,trivial,eX,trivial,eX,trivial,_,rfl,trivial,trivial,trivial,c,208,2,rfl,by decide,by decide,by decide,λr r0 r1=>?_⟩
    rcases (by lia:r=0\/r=1)with rfl|rfl
    ·exact⟨_,rfl,.inr ⟨trivial,q _ _ (Nt (by lia) (by lia) (by lia) (by lia) (by lia) (by lia) (by lia) (by lia))⟩⟩
    ·exact⟨_,rfl,.inr ⟨trivial,q _ _ (Nt (by lia) (by lia) (by lia) (by lia) (by lia) (by lia) (by lia) (by lia))⟩⟩
end
section
variable {P:Y0}{w:Zd}{K:PySem.W.Frag}{mg:Str->Option YU}{base:Heap}{c:Nat->Addr}
theorem bY:aO ["many","ties","cell","way","at","a","met","tie"] ["many","ties","cell"] (ar dP):=mkS
theorem JF {z6 ql} (HW:D3 K mg z6 ql) {uH lD} (ED:D2 K mg uH lD) {jI fh} (b4:D1 K mg jI fh) {iu dJ} (oj:D0 K mg iu dJ) (B:yT mg):aP P w K mg base bU 4 z6 ql ["many","ties","cell"] (cc P w false Dp):=by
 have l9:aP P w K mg base bU 2 _ _ _ (cc P w true cW):=fB b4 oj;have Yp:aP P w K mg base bU 3 _ _ _ (cc P w false Dt):=JN ED b4 oj B;refine ly HW.F bY (λds R h=>by obtain⟨m,ts,c,e,_⟩:=h;subst e;rfl) λbR A outer s H E hr=>⟨_,(ai (aW (i:=3) (ax cW.mono l9 (hr.mono (by decide)) b4.m b4.F.kp b4.b (aa (af (i:=2)) (aa aj (aa aj ag)))) bY.nd)
    (ai (aW (i:=4) (ax cW.mono l9 (hr.mono (by decide)) b4.m b4.F.kp b4.b (aa (af (i:=2)) (aa aj (aa (aN aK aG (aM ah (a_.m dc) B.len gb (aa (af (i:=1)) ag)) aj) ag)))) bY.nd)
    (ai (aW (i:=5) (ax cW.mono l9 (hr.mono (by decide)) b4.m b4.F.kp b4.b (aa (af (i:=2)) (aa aj (aa (aN aK aG (af (i:=0)) aj) ag)))) bY.nd)
    (ai (a6 (aw ah (bf.m (cI hr.units)) (af (i:=3)) aj) (ak (aL (aN aK aG (aN aK aG (pM (af (i:=1)) fy (fw (af (i:=4)))) (a7 (aa (aV (aa (af (i:=5)) (aa (af (i:=0)) ag))) ag))) (pM (af (i:=1)) (fw (af (i:=4))) fy)))) aH)
    (ai (a6 (aw ah (bf.m (cI hr.units)) (af (i:=3)) aj) (ak (aL (aN aK aG (aN aK aG (pM (af (i:=1)) fy (fw (af (i:=4)))) (a7 (aa (aV (aa (Hm xj aj) (aa (af (i:=5)) ag))) ag))) (pM (af (i:=1)) (fw (af (i:=4))) fy)))) aH)
    (ai (a6 (aw ah (bf.m (cI hr.units)) (af (i:=3)) aj) (ak (aL (aN aK aG (aN aK aG (pM (af (i:=1)) fy (fw (af (i:=4)))) (a7 (aa (aV (aa (af (i:=5)) (aa (af (i:=5)) ag))) ag))) (pM (af (i:=1)) (fw (af (i:=4))) fy)))) aH)
    (ai (a6 (l8.t (fS (aw ah (bf.m (cI hr.units)) (af (i:=3)) aj) (eD (aw ah (bf.m (bD hr.units)) (af (i:=1)) (a7 ag))))) (ak (aL (aM aK cm B.sorted bK (aa (aN aK aG (af (i:=1)) (a7 (aa (bc ah bN (af (i:=1)) (ax cW.mono l9 (hr.mono (by decide)) b4.m b4.F.kp b4.b (aa (af (i:=2)) (aa aj (aa (aM ah (a_.m dc) B.len gb (aa (af (i:=1)) ag)) ag))))) ag))) ag)))) aH)
    (ai (a6 (l8.t (fS (aw ah (bf.m km) (af (i:=3)) aj) (eD (aw ah (bf.m km) (af (i:=0)) aj)))) (ai (aW (i:=6) (ax Dt.mono Yp (hr.mono (by decide)) ED.m ED.F.kp ED.b (aa (af (i:=0)) (aa (af (i:=2)) (aa (af (i:=3)) ag)))) bY.nd)
    (ai (a6 (aw ah (bf.m (cI hr.units)) (ax cW.mono l9 (hr.mono (by decide)) b4.m b4.F.kp b4.b (aa (af (i:=2)) (aa aj (aa aj ag)))) aj) (ak (aL (af (i:=6)))) aH)
    (ai (a6 (aw ah (bf.m (cI hr.units)) (af (i:=3)) aj) (ak (aL (Bx (aM aK cm B.sorted bK (aa (aN aK aG (af (i:=1)) (af (i:=6))) ag))))) aH)
    (ak (aL (aM aK cm B.sorted bK (aa (aN aK aG (af (i:=1)) (af (i:=6))) ag))))))) aH)
    (ai (a6 (aw ah (bf.m (cI hr.units)) (af (i:=1)) (a7 ag)) (ak (aL (a7 (aa (aV (aa aj (aa aj ag))) ag)))) aH)
    (ai (aW (i:=7) (bc ah bN (af (i:=1)) (ax cW.mono l9 (hr.mono (by decide)) b4.m b4.F.kp b4.b (aa (af (i:=2)) (aa aj (aa (aM ah (a_.m dc) B.len gb (aa (af (i:=1)) ag)) ag))))) bY.nd)
    (ak (aL (aN aK aG (a7 (aa (Bx (af (i:=7))) ag)) (zM false ["one","tie"] [none,some 7] (by rfl) (by decide:(["one","tie"]:List Str).Nodup) rfl (bq (af (i:=1))) (λ_ _ _ _ _ _=>(au (i:=0) (by decide:(["one","tie"]:List Str).Nodup))) (λ_ _ _ _ _ _=>(vH (aw ah (bf.m (bD hr.units)) (af (i:=0)) (af (i:=1))))) (λ_ _ _ _ _ _=>(af (i:=0))))))))))))))))),λds R h=>?_⟩
 obtain⟨n,ts,c,rfl,hn,ht,hg,hl,q⟩:=h;have dl:GI [.lst (ts.map kD)]=some (.int (ts.length:Nat)):=uT (by rw[YX])
 refine⟨_,rfl,trivial,trivial,trivial,c,200,8,rfl,by decide,by decide,by decide,λway w0 w8=>?_⟩
 refine⟨_,rfl,trivial,trivial,_,rfl,trivial,_,dl,trivial,_,rfl,trivial,c,201,(ts.length:Nat)+1,rfl,by decide,by decide,by lia,λat_ a0 a1=>?_⟩
 refine⟨_,rfl,trivial,trivial,_,rfl,trivial,_,rfl,trivial,c,202,(n:Nat)+1,rfl,by decide,by decide,by lia,λa b0 b1=>?_⟩
 obtain⟨k,rfl⟩:∃k:Nat,at_=(k:Int):=⟨at_.toNat,by lia⟩
 have TX:Pt (.lst (ts.map kD)) none (some (k:Int))=some (.lst ((ts.take k).map kD)):=by show some (D.lst (cutD _ _ _))=_;rw[DK]
 have TV:Pt (.lst (ts.map kD)) (some (k:Int)) none=some (.lst ((ts.drop k).map kD)):=by show some (D.lst (cutD _ _ _))=_;rw[DL]
 have pt:Pairs ts:=λt h=>(ht t h).pair;have put:∀x y:Int,¬ (0<=x/\x<y/\y<n)->R (.lst (((ts.take k++[[x,y]])++ts.drop k).map kD)):=λx y h=>q _ (zq pt) (by rw[Fc];lia) (iH.Mm (t:=[x,y]) (by simp) (jy h))
 have LF:∀x y:Int,ph (.lst ((ts.take k).map kD)) (.lst [kD [x,y]])=some (.lst ((ts.take k++[[x,y]]).map kD)):=λx y=>c_ (vs:=[[x,y]]) (by rw[ZH];show _+1<=_;lia)
 have LD:∀x y:Int,ph (.lst ((ts.take k++[[x,y]]).map kD)) (.lst ((ts.drop k).map kD))=some (.lst (((ts.take k++[[x,y]])++ts.drop k).map kD)):=λx y=>c_ (by rw[Zl,ZH,aaW,aad];lia)
 refine⟨_,rfl,trivial,_,fm _ _,_,rfl,i4 (λh0=>?_) λh0=>?_⟩
 ·exact⟨_,rfl,_,rfl,(k:Int),rfl,_,TX,.inl ⟨aI _,trivial,_,rfl,trivial,_,rfl,trivial,eX,trivial,vJ,_,LF a n,.inl ⟨aI _,trivial,_,rfl,_,rfl,(k:Int),rfl,_,TV,.inl ⟨aI _,_,LD a n,.inl ⟨aI _,trivial,put a n (by lia)⟩⟩⟩⟩⟩
 refine⟨_,rfl,trivial,_,fm _ _,_,rfl,i4 (λh1=>?_) λh1=>?_⟩
 ·exact⟨_,rfl,_,rfl,(k:Int),rfl,_,TX,.inl ⟨aI _,trivial,_,rfl,rfl,trivial,_,rfl,trivial,eX,trivial,vJ,_,LF (-1) a,.inl ⟨aI _,trivial,_,rfl,_,rfl,(k:Int),rfl,_,TV,.inl ⟨aI _,_,LD (-1) a,.inl ⟨aI _,trivial,put (-1) a (by lia)⟩⟩⟩⟩⟩
 refine⟨_,rfl,trivial,_,fm _ _,_,rfl,i4 (λh2=>?_) λh2=>?_⟩
 ·exact⟨_,rfl,_,rfl,(k:Int),rfl,_,TX,.inl ⟨aI _,trivial,_,rfl,trivial,_,rfl,trivial,eX,trivial,vJ,_,LF a a,.inl ⟨aI _,trivial,_,rfl,_,rfl,(k:Int),rfl,_,TV,.inl ⟨aI _,_,LD a a,.inl ⟨aI _,trivial,put a a (by lia)⟩⟩⟩⟩⟩
 have tn:oK (.lst (ts.map kD)) (.lst [])=some (.bl (!decide (ts=[]))):=jM ts [];have te:yF (.lst (ts.map kD)) (.lst [])=some (.bl (decide (ts=[]))):=DI ts [];refine⟨_,rfl,trivial,_,fm _ _,_,rfl,?_⟩;refine i4 (λh3=>⟨_,rfl,trivial,Zm _,_,tn,_,rfl,LW (λvt=>?_) λNV=>?_⟩) λh3=>dI rfl ?_
 ·have lp:=List.length_pos_iff.mpr vt;refine⟨_,rfl,trivial,_,rfl,trivial,_,rfl,trivial,trivial,_,rfl,trivial,_,dl,trivial,c,203,(ts.length:Nat),rfl,by decide,by decide,by lia,λr r0 r1=>pick r0 (by rw[YX];lia) λd hd=>?_⟩
  obtain⟨t,tm,rfl⟩:=ZE.mp hd;obtain⟨x,y,rfl⟩:=pt t tm;have pp:=ij pt (b:=[[x,y]]) λt z=>by rw[Y1.mp z];exact⟨x,y,rfl⟩
  have ad:ph (.lst (ts.map kD)) (.lst [kD [x,y]])=some (.lst ((ts++[[x,y]]).map kD)):=c_ (vs:=[[x,y]]) (by show _+1<=_;lia)
  have ln:(ts++[[x,y]]).length<=53:=by rw[Zl];show _+1<=_;lia
  exact⟨trivial,vJ,.inl ⟨⟨rfl,trivial⟩,_,ad,.inl ⟨aI _,trivial,_,cY (jq pp) (by lia),.inl ⟨aI _,trivial,q _ (gW pp) (by rw[(aX _).length_eq];exact ln) (pR tm)⟩⟩⟩⟩
 ·subst h3 NV;refine⟨_,rfl,trivial,_,rfl,_,rfl,dI rfl (dI rfl ⟨_,rfl,trivial,Zm _,_,te,_,rfl,nK rfl ⟨trivial,trivial,eX,trivial,vJ,trivial,q [[1,0]] (λt z=>by rw[Y1.mp z];exact⟨1,0,rfl⟩) (by decide) (iH.Mm Y8 (jy (by lia)))⟩⟩)⟩
 refine(λkey=>⟨_,rfl,trivial,_,rfl,_,rfl,i4 (λh4=>⟨_,rfl,trivial,_,rfl,_,rfl,i4 (λh5=>?_) λh5=>key⟩) λh4=>dI rfl key⟩) ?_
 ·refine⟨_,rfl,trivial,Zm _,_,te,_,rfl,i4 (λNV=>⟨trivial,trivial,eX,trivial,vJ,trivial,q [[1,0]] (λt z=>by rw[Y1.mp z];exact⟨1,0,rfl⟩) (by decide) (iH.Mm Y8 (jy (by lia)))⟩) λvt=>?_⟩
  have lp:=List.length_pos_iff.mpr vt;refine⟨_,rfl,trivial,_,rfl,trivial,trivial,_,rfl,trivial,_,dl,trivial,c,203,(ts.length:Nat),rfl,by decide,by decide,by lia,λr r0 r1=>pick r0 (by rw[YX];lia) λd hd=>?_⟩
  obtain⟨t,tm,rfl⟩:=ZE.mp hd;obtain⟨x,y,rfl,x0,xy,yn⟩:=ht t tm;refine⟨_,rfl,_,rfl,trivial,vJ,.inl ⟨⟨rfl,trivial⟩,trivial,_,rfl,_,rfl,trivial,eK (l:=ts) (f:=kD) (λt=>!decide (t=[x,y])) kD trivial (gg (by lia)) (λt tm x0 o J ho j1 j2=>?_) ?_⟩⟩
  ·refine⟨_,rfl,trivial,_,rfl,_,Lh t [x,y],_,rfl,?_⟩;cases hx:decide (t=[x,y])with
   |true=>exact dI rfl (j2 (by rw[hx];rfl) _)
   |false=>exact nK rfl ⟨_,rfl,rG t,ho,j1 (by rw[hx];rfl) _⟩
  have lf:=aa2 (λt=>!decide (t=[x,y])) ts;have ad:ph (.lst [kD [y,x]]) (.lst ((ts.filter λt=>!decide (t=[x,y])).map kD))=some (.lst (([[y,x]]++ts.filter λt=>!decide (t=[x,y])).map kD)):=c_ (us:=[[y,x]]) (by show 1+_<=_;lia)
  refine⟨_,ad,.inl ⟨aI _,trivial,q _ (ij (λt z=>by rw[Y1.mp z];exact⟨y,x,rfl⟩) λt z=>pt t (abp.mp z).1) (by rw[Zl];show 1+_<=_;lia) (iH.Mm (t:=[y,x]) (by simp) (jy (by lia)))⟩⟩
 ·refine⟨_,rfl,trivial,_,rfl,trivial,_,rfl,trivial,n,c,way,rfl,by lia,by lia,by lia,by lia,λu v hm=>?_⟩
  refine⟨_,rfl,trivial,trivial,trivial,c,209,3,rfl,by decide,by decide,by decide,λr r0 r1=>⟨trivial,_,fm _ _,_,rfl,i4 (λ_=>⟨_,rfl,trivial,q [u,v] hm.pairs (by show 2<=_;decide) hm.WE⟩) λ_=>?_⟩⟩
  have pp:=ij pt hm.pairs;have ln:(ts++[u,v]).length<=53:=by rw[Zl];show _+2<=_;lia
  have ad:ph (.lst (ts.map kD)) (.lst [kD u,kD v])=some (.lst ((ts++[u,v]).map kD)):=c_ (vs:=[u,v]) (by show _+2<=_;lia)
  refine⟨_,rfl,trivial,_,fm _ _,_,rfl,i4 (λh7=>?_) λh7=>?_⟩
  ·refine⟨_,rfl,trivial,_,rfl,_,ad,.inl ⟨aI _,trivial,_,cY (jq pp) (by lia),.inl ⟨aI _,?_⟩⟩⟩
   have er:Ou (.lst ((cM (ts++[u,v])).map kD))=some (.lst ((cM (ts++[u,v])).reverse.map kD)):=by show some (D.lst _)=_;rw[List.map_reverse]
   exact⟨_,er,.inl ⟨aI _,trivial,q _ (λt z=>gW pp t (abd.mp z)) (by rw[ab2,(aX _).length_eq];exact ln) FR⟩⟩
  ·exact⟨_,rfl,trivial,_,rfl,_,ad,.inl ⟨aI _,trivial,_,cY (jq pp) (by lia),.inl ⟨aI _,trivial,q _ (gW pp) (by rw[(aX _).length_eq];exact ln) (hm.XZ h7)⟩⟩⟩
end
section
variable {P:Y0}{w:Zd}{K:PySem.W.Frag}{mg:Str->Option YU}{base:Heap}
theorem c6:aO ["cell","begin","most","many","ties","k","a","b"] ["cell","begin","most"] (ar g6):=mkS
theorem JI {Oj HR} (X5:D4 K mg Oj HR) {jI fh} (b4:D1 K mg jI fh) {iu dJ} (oj:D0 K mg iu dJ) (B:Bs mg):aP P w K mg base bU 3 Oj HR ["cell","begin","most"] (cc P w true uM):=by
 have l9:aP P w K mg base bU 2 _ _ _ (cc P w true cW):=fB b4 oj;refine ly X5.F c6 (λds R h=>by obtain⟨c,b,m,e,_⟩:=h;subst e;rfl) λbR A outer s H E hr=>⟨_,(ai (aW (i:=3) (ax cW.mono l9 (hr.mono (by decide)) b4.m b4.F.kp b4.b (aa (af (i:=0)) (aa (af (i:=1)) (aa (aN aK aG (af (i:=2)) aj) ag)))) c6.nd)
    (ai (dh (i:=4) (λ_=>(a7 ag)) c6.nd)
    (ai (ft aap rfl (bC B.range (aa (ax cW.mono l9 (hr.mono (by decide)) b4.m b4.F.kp b4.b (aa (af (i:=0)) (aa (aN aK aG (af (i:=1)) aj) (aa (bc ah bN (a7 (aa aj (aa aj (aa aj ag)))) (ax cW.mono l9 (hr.mono (by decide)) b4.m b4.F.kp b4.b (aa (af (i:=0)) (aa (aN aK aG (af (i:=1)) aj) (aa aj ag))))) ag)))) ag)) (au (i:=5) c6.nd) (ak (a6 (aw ah (bf.m km) (af (i:=3)) aj) (ai (aW (i:=6) (ax cW.mono l9 (hr.mono (by decide)) b4.m b4.F.kp b4.b (aa (af (i:=0)) (aa (aN aK aG (aN aK aG (af (i:=1)) aj) (aN ah (bf.m jt) aj (af (i:=5)))) (aa (af (i:=3)) ag)))) c6.nd)
    (ai (aW (i:=7) (ax cW.mono l9 (hr.mono (by decide)) b4.m b4.F.kp b4.b (aa (af (i:=0)) (aa (aN aK aG (aN aK aG (af (i:=1)) aj) (aN ah (bf.m jt) aj (af (i:=5)))) (aa (af (i:=3)) ag)))) c6.nd)
    (ak (a6 (aw ah (bf.m (bD hr.units)) (af (i:=6)) (af (i:=7))) (ak (fA (i:=4) (λ_=>(aV (aa (aM ah (a_.m (eU rfl)) B.min oA (aa (af (i:=6)) (aa (af (i:=7)) ag))) (aa (aM ah (a_.m (f_ rfl)) B.max rT (aa (af (i:=6)) (aa (af (i:=7)) ag))) ag)))))) aH)))) aH)))
    (ak (aL (aV (aa (af (i:=3)) (aa (aM aK (dW rfl) B.sorted bK (aa (bx ah (a_.m (kU rfl hr.lW)) B.set w_ (aa (af (i:=4)) ag)) ag)) ag)))))))),λds R h=>?_⟩
 obtain⟨c,b,m,rfl,b0,b1,m0,m1,q⟩:=h;have WT:∀r:Int,0<=r->r<3->∃x:Int,yD (.lst [.int 3,.int 9,.int 41]) (.int r)=some (.int x)/\0<x/\x<=41:=λr h0 h1=>by
  rcases (by lia:r=0\/r=1\/r=2)with rfl|rfl|rfl
  ·exact⟨3,rfl,by decide,by decide⟩
  ·exact⟨9,rfl,by decide,by decide⟩
  ·exact⟨41,rfl,by decide,by decide⟩
 refine⟨_,rfl,trivial,_,rfl,trivial,_,rfl,trivial,_,rfl,trivial,c,b,m+1,rfl,b0,by lia,by lia,λn n0 n1=>?_⟩
 refine⟨Zm _,trivial,_,rfl,trivial,_,rfl,trivial,_,rfl,trivial,trivial,trivial,trivial,O0,trivial,_,rfl,trivial,_,rfl,trivial,_,rfl,trivial,trivial,c,b+2,3,rfl,by lia,by lia,by decide,λr r0 r1=>?_⟩
 obtain⟨x,ex,x0,x1⟩:=WT r r0 r1;refine⟨_,ex,trivial,c,b+1,x,rfl,by lia,by lia,x0,λh h0 h1=>?_⟩
 refine⟨trivial,h,rfl,by lia,by lia,trivial,?_⟩
 refine zY (λi β=>∃(ts:List (List Int)) (x5 x6 x7:Option Q.B),β=[some (.val false (.int c)),some (.val false (.int b)),some (.val false (.int m)),some (.val true (.int n)),some (.own (.lst (ts.map kD))),x5,x6,x7]/\ts.length<=i/\b5 n ts)
  ⟨[],_,_,_,rfl,Zm _,λ_ z=>(nomatch z)⟩ (λE1 r1 i n2 d β hd hI=>?_) ?_
 ·obtain⟨ts,x5,x6,x7,rfl,hl,ht⟩:=hI;obtain⟨hi,rfl⟩:=eC hd;refine⟨_,rfl,trivial,_,rfl,_,rfl,i4 (λhn=>?_) (λ_=>n2 _ ⟨ts,_,_,_,rfl,by lia,ht⟩)⟩
  refine⟨_,rfl,trivial,_,rfl,trivial,_,rfl,trivial,trivial,_,rfl,_,l4 (.inl ⟨by decide,by decide⟩),_,rfl,trivial,_,rfl,trivial,c,b+3+2*(0+(i:Int)),n,rfl,by lia,by lia,by lia,λa a0 a1=>?_⟩
  refine⟨_,rfl,trivial,_,rfl,trivial,_,rfl,trivial,trivial,_,rfl,_,l4 (.inl ⟨by decide,by decide⟩),_,rfl,trivial,_,rfl,trivial,c,b+4+2*(0+(i:Int)),n,rfl,by lia,by lia,by lia,λe e0 e1=>?_⟩
  refine⟨_,rfl,trivial,_,rfl,_,yA a e,_,rfl,LW (λne=>?_) (λ_=>n2 _ ⟨ts,_,_,_,rfl,by lia,ht⟩)⟩
  refine⟨⟨_,rfl⟩,_,rfl,trivial,_,rfl,trivial,_,rfl,trivial,_,rfl,trivial,_,rfl,trivial,_,rfl,trivial,eX,trivial,_,rfl,by rw[YX,Zw];lia,?_⟩
  refine n2 _ ⟨ts++[[if e<a then e else a,if e>a then e else a]],_,_,_,by rw[qO];rfl,by rw[Zl];exact aaV hl,λu hu=>?_⟩
  rcases Zb.mp hu with z|z
  ·exact ht u z
  ·rw[Y1.mp z];exact⟨_,_,rfl,by split <;> lia,by split <;> split <;> lia,by split <;> lia⟩
 ·rintro β ⟨ts,x5,x6,x7,rfl,hl,ht⟩;rw[d_]at hl;have ne:∀t∈ts,t≠[]:=λt h=>by
   obtain⟨a,b,rfl,_⟩:=ht t h;exact λz=>(nomatch z)
  have WO:ts.length<=40:=by lia
  refine⟨_,rfl,trivial,_,rfl,trivial,_,mJ ne (by lia),.inr ⟨trivial,_,fM ne (by lia),.inl ⟨aI _,trivial,eX,trivial,q n _ n0 (by lia) (Rw.of ht) ?_⟩⟩⟩
  rw[(aX (jW ts)).length_eq];exact ZO (l0 ts) WO
end
def lG:FD:=λds R=>∃(n:Int) (rows ts:List (List Int)),ds=[iL n rows,.lst (ts.map kD)]/\ts.length<=600/\b5 n rows/\Good rows ts/\R .b_
theorem lG.mono:cN lG:=λds R R' k ⟨n,rows,ts,e,h1,h2,h3,q⟩=>⟨n,rows,ts,e,h1,h2,h3,k _ q⟩
section
variable {P:Y0}{w:Zd}{K:PySem.W.Frag}{mg:Str->Option YU}{base:Heap}
theorem cq:aO ["one","other","a","b","c","d"] ["one","other"] (ar dQ):=mkS
theorem oX {oH eY} (dX:D5 K mg oH eY):aP P w K mg base bU 1 oH eY ["one","other"] (cc P w true n6):=by
 refine ly dX.F cq (λds R Su=> by obtain⟨t,u,e,_⟩ := Su;subst e;rfl) λbR A outer s H E hr=>⟨_,(ai (ki (af (i:=0)) (bL (n:=2) rfl (az (au (i:=2) cq.nd) (az (au (i:=3) cq.nd) bj))))
    (ai (ki (af (i:=1)) (bL (n:=2) rfl (az (au (i:=4) cq.nd) (az (au (i:=5) cq.nd) bj))))
    (ak (aL (Hn (fz (af (i:=2)) (bI bw (af (i:=4)) (bI bw (af (i:=3)) (fe bw (af (i:=5)))))) (Bz (fz (af (i:=4)) (bI bw (af (i:=2)) (bI bw (af (i:=5)) (fe bw (af (i:=3)))))))))))),λds R h=>?_⟩
 obtain⟨t,u,rfl,⟨a,b,rfl⟩,⟨c,d,rfl⟩,q⟩:=h;refine⟨_,rfl,_,rfl,rfl,_,_,rfl,_,_,rfl,rfl,?_⟩;refine⟨_,rfl,_,rfl,rfl,_,_,rfl,_,_,rfl,rfl,?_⟩;refine DQ (a:=a) (b:=c) (c:=b) (d:=d) rfl rfl rfl rfl ⟨_,rfl,Pc (λh=>⟨trivial,?_⟩) (λh=>DQ (a:=c) (b:=a) (c:=d) (d:=b) rfl rfl rfl rfl ⟨trivial,?_⟩)⟩
 ·have:da [a,b] [c,d]=true:=by show (_ || _)=true;rw[h];rfl
  rw[<- this];exact q
 ·have:da [a,b] [c,d]=(decide (c<a)&&(decide (a<d)&&decide (d<b))):=by show (_ || _)=_;rw[h];rfl
  rw[<- this];exact q
theorem j9:aO ["one","other"] ["one","other"] (ar cz):=mkS
theorem B7 {oI eZ} (dS:D6 K mg oI eZ):aP P w K mg base bU 1 oI eZ ["one","other"] (cc P w true nQ):=by
 refine ly dS.F j9 (λds R Ss=> by obtain⟨t,u,e,_⟩ := Ss;subst e;rfl) λbR A outer s H E hr=>⟨_,(ak (aL (Hn (gF ah (bf.m (m7 hr.fK)) (bc ah bN (af (i:=0)) aj) (af (i:=1))) (Bz (gF ah (bf.m (m7 hr.fK)) (bc ah bN (af (i:=0)) aj) (af (i:=1))))))),λds R h=>?_⟩
 obtain⟨t,u,rfl,⟨a,b,rfl⟩,q⟩:=h;refine⟨_,rfl,trivial,_,rfl,trivial,_,rfl,_,rP a u,_,rfl,i4 (λh=>⟨trivial,?_⟩) (λh=>⟨_,rfl,trivial,_,rfl,trivial,_,rfl,_,rP b u,trivial,?_⟩)⟩
 ·show R _;simpa[cZ,h] using q
 ·show R _;simpa[cZ,h] using q
theorem gC:aO ["row","ties","k","j"] ["row","ties","k"] (ar fR):=mkS
theorem B_ {qt fF} (dF:D7 K mg qt fF) {oI eZ} (dS:D6 K mg oI eZ) {oH eY} (dX:D5 K mg oH eY) (B:Bs mg):aP P w K mg base bU 2 qt fF ["row","ties","k"] (cc P w true nY):=by
 have GS:aP P w K mg base bU 1 _ _ _ (cc P w true nQ):=B7 dS;have GX:aP P w K mg base bU 1 _ _ _ (cc P w true n6):=oX dX;refine ly dF.F gC (λds R Sr=> by obtain⟨n,rows,ts,k,e,_⟩ := Sr;subst e;rfl) λbR A outer s H E hr=>⟨_,(lY (a6 (aw ah (bf.m (pP hr.fK)) (bc ah bN (af (i:=1)) (af (i:=2))) (bc ah bN (af (i:=0)) aj)) (ak (aL (aV (aa aQ (aa (af (i:=2)) ag))))) aH)
    (lY (a6 (l8.t (fS (aw ah (bf.m km) (af (i:=2)) aj) (eD (aw ah (bf.m (FE hr.ID)) (bc ah bN (af (i:=1)) (af (i:=2))) (bc ah bN (af (i:=1)) (aN ah (bf.m rg) (af (i:=2)) aj)))))) (ak (aL (aV (aa aQ (aa (af (i:=2)) ag))))) aH)
    (ai (ft aap rfl (bC B.range (aa (af (i:=2)) ag)) (au (i:=3) gC.nd) (ak (a6 (cS (ax nQ.mono GS (hr.mono (by decide)) dS.m dS.F.kp dS.b (aa (bc ah bN (af (i:=1)) (af (i:=3))) (aa (bc ah bN (af (i:=1)) (af (i:=2))) ag)))) (ak (aL (aV (aa aQ (aa (af (i:=3)) (aa (af (i:=2)) ag)))))) aH)))
    (ai (ft aap rfl (bC B.range (aa (af (i:=2)) ag)) (au (i:=3) gC.nd) (ak (a6 (cS (ax n6.mono GX (hr.mono (by decide)) dX.m dX.F.kp dX.b (aa (bc ah bN (af (i:=1)) (af (i:=3))) (aa (bc ah bN (af (i:=1)) (af (i:=2))) ag)))) (ak (aL (aV (aa aQ (aa (af (i:=3)) (aa (af (i:=2)) ag)))))) aH)))
    (ak (aL cH)))))),λds R h=>?_⟩
 obtain⟨n,rows,ts,k,rfl,hk,hp,hb,q⟩:=h;obtain⟨t,et⟩:∃t,ts[k]?=some t:=⟨ts[k],Y2 hk⟩;have pt:Pair t:=hp t (Zz et);rw[kS et]at q;unfold jJ at q;refine⟨λβ=>β=[some (.val false (.tup [.int n,.lst (rows.map kD)])),some (.val false (.lst (ts.map kD))),some (.val false (.int (k:Int))),none]/\t∈rows,?_,?_⟩
 ·refine⟨_,rfl,trivial,_,rfl,_,iX et,trivial,_,rfl,trivial,_,rfl,.inr ⟨_,wN t rows,_,rfl,LW (λh=>?_) (λh=>⟨rfl,h⟩)⟩⟩;exact⟨trivial,_,rfl,trivial,eX,trivial,by rw[if_neg h]at q;exact q⟩
 ·rintro β ⟨rfl,ht⟩;rw[if_pos ht]at q;refine⟨λβ=>β=[some (.val false (.tup [.int n,.lst (rows.map kD)])),some (.val false (.lst (ts.map kD))),some (.val false (.int (k:Int))),none]/\(decide (0<k)&&sr ts (λu=>!HT.lexLt u t) (k-1))=false,?_,?_⟩
  ·refine⟨_,rfl,trivial,_,rfl,_,rfl,i4 (λzW=>?_) (λzW=>dI rfl ⟨rfl,?_⟩)⟩
   ·have N1:0<k:=by lia
    obtain⟨u,eu⟩:∃u,ts[k-1]?=some u:=⟨ts[k-1],Y2 (by lia)⟩
    have ei:yD (.lst (ts.map kD)) (.int ((k:Int)-1))=some (kD u):=by
     rw[show (k:Int)-1=((k-1:Nat):Int) by lia];exact iX eu
    have ea:sr ts (λu=>!HT.lexLt u t) (k-1)=!HT.lexLt u t:=by unfold sr;rw[eu]
    refine⟨_,rfl,trivial,_,rfl,_,iX et,trivial,_,rfl,trivial,_,rfl,trivial,_,rfl,_,ei,_,GJ t u,_,rfl,Pc (λh=>?_) (λh=>⟨rfl,?_⟩)⟩
    ·exact⟨trivial,_,rfl,trivial,eX,trivial,by rw[if_pos (by rw[ea,h];simp[N1])]at q;exact q⟩
    ·rw[ea,h];simp
   ·have:¬ 0<k:=by lia
    simp[this]
  ·rintro β ⟨rfl,ho⟩;rw[if_neg (by rw[ho];simp)]at q
   refine⟨_,rfl,trivial,k,rfl,by lia,by lia,trivial,?_⟩
   refine⟨λi β=>(∃x3,β=[some (.val false (.tup [.int n,.lst (rows.map kD)])),some (.val false (.lst (ts.map kD))),some (.val false (.int (k:Int))),x3])/\∀j<i,sr ts (λu=>cZ u t) j=false,⟨⟨_,rfl⟩,λj hj=>by lia⟩,?_,?_⟩
   ·rintro i d β hd ⟨⟨x3,rfl⟩,o7⟩;obtain⟨hi,rfl⟩:=eC hd;rw[Z4]at hi;obtain⟨u,eu⟩:∃u,ts[i]?=some u:=⟨ts[i],Y2 (by lia)⟩
    have ei:yD (.lst (ts.map kD)) (.int (0+(i:Int)))=some (kD u):=by
     rw[show 0+(i:Int)=(i:Int) by lia];exact iX eu
    have ea:sr ts (λu=>cZ u t) i=cZ u t:=by unfold sr;rw[eu]
    refine⟨_,rfl,trivial,_,rfl,_,ei,trivial,_,rfl,trivial,_,rfl,_,iX et,trivial,u,t,rfl,hp u (Zz eu),_,rfl,Pc (λh=>?_) (λh=>⟨⟨_,rfl⟩,λj hj=>?_⟩)⟩
    ·rw[iS hi (by rw[ea];exact h) o7]at q
     exact⟨trivial,_,rfl,trivial,_,rfl,trivial,O0,trivial,by rw[show (0+(i:Int))=(i:Int) by lia];exact q⟩
    ·by_cases o8:j<i
     ·exact o7 j o8
     ·rw[show j=i by lia,ea];exact h
   ·rintro β ⟨⟨x3,rfl⟩,o7⟩;rw[d_,Z4]at o7;rw[find_none o7]at q;refine⟨_,rfl,trivial,k,rfl,by lia,by lia,trivial,?_⟩
    refine⟨λi β=>(∃x3,β=[some (.val false (.tup [.int n,.lst (rows.map kD)])),some (.val false (.lst (ts.map kD))),some (.val false (.int (k:Int))),x3])/\∀j<i,sr ts (λu=>da u t) j=false,⟨⟨_,rfl⟩,λj hj=>by lia⟩,?_,?_⟩
    ·rintro i d β hd ⟨⟨x3,rfl⟩,o7⟩;obtain⟨hi,rfl⟩:=eC hd;rw[Z4]at hi;obtain⟨u,eu⟩:∃u,ts[i]?=some u:=⟨ts[i],Y2 (by lia)⟩
     have ei:yD (.lst (ts.map kD)) (.int (0+(i:Int)))=some (kD u):=by
      rw[show 0+(i:Int)=(i:Int) by lia];exact iX eu
     have ea:sr ts (λu=>da u t) i=da u t:=by unfold sr;rw[eu]
     refine⟨_,rfl,trivial,_,rfl,_,ei,trivial,_,rfl,trivial,_,rfl,_,iX et,trivial,u,t,rfl,hp u (Zz eu),pt,_,rfl,Pc (λh=>?_) (λh=>⟨⟨_,rfl⟩,λj hj=>?_⟩)⟩
     ·rw[iS hi (by rw[ea];exact h) o7]at q
      exact⟨trivial,_,rfl,trivial,_,rfl,trivial,O0,trivial,by rw[show (0+(i:Int))=(i:Int) by lia];exact q⟩
     ·by_cases o8:j<i
      ·exact o7 j o8
      ·rw[show j=i by lia,ea];exact h
    ·rintro β ⟨⟨x3,rfl⟩,o7⟩;rw[d_,Z4]at o7;rw[find_none o7]at q;exact⟨trivial,q⟩
theorem d7:aO ["row","ties","k","fault"] ["row","ties"] (ar df):=mkS
theorem B9 {si gn} (dO:D8 K mg si gn) {qt fF} (dF:D7 K mg qt fF) {oI eZ} (dS:D6 K mg oI eZ) {oH eY} (dX:D5 K mg oH eY) (B:Bs mg):aP P w K mg base bU 3 si gn ["row","ties"] (cc P w true nX):=by
 have GF:aP P w K mg base bU 2 _ _ _ (cc P w true nY):=B_ dF dS dX B;refine ly dO.F d7 (λds R So=> by obtain⟨n,rows,ts,e,_⟩ := So;subst e;rfl) λbR A outer s H E hr=>⟨_,(ai (ft aap rfl (bC B.range (aa (aM ah (a_.m dc) B.len gb (aa (af (i:=1)) ag)) ag)) (au (i:=2) d7.nd) (ai (aW (i:=3) (ax nY.mono GF (hr.mono (by decide)) dF.m dF.F.kp dF.b (aa (af (i:=0)) (aa (af (i:=1)) (aa (af (i:=2)) ag)))) d7.nd)
    (ak (a6 (aw ah (bf.m BX) (af (i:=3)) cH) (ak (aL (af (i:=3)))) aH))))
    (ak (aL cH))),λds R h=>?_⟩
 obtain⟨n,rows,ts,rfl,hl,hp,q⟩:=h;refine⟨_,rfl,trivial,_,rfl,trivial,_,rfl,by rw[YX];lia,by rw[YX];lia,trivial,?_⟩
 rw[YX];refine⟨λi β=>(∃x2 x3,β=[some (.val false (.tup [.int n,.lst (rows.map kD)])),some (.val false (.lst (ts.map kD))),x2,x3])/\∀j<i,iT rows ts j=none,⟨⟨_,_,rfl⟩,λj hj=>by lia⟩,?_,?_⟩
 ·rintro i d β hd ⟨⟨x2,x3,rfl⟩,o7⟩;obtain⟨hi,rfl⟩:=eC hd;rw[Z4]at hi;refine⟨_,rfl,trivial,_,rfl,trivial,_,rfl,trivial,n,rows,ts,i,by rw[Int.zero_add],hi,hp,by lia,?_⟩
  cases hf:iT rows ts i with
  |none =>
   refine⟨_,rfl,trivial,_,rfl,_,rfl,dI rfl ⟨⟨_,_,rfl⟩,λj hj=>?_⟩⟩
   by_cases o8:j<i
   ·exact o7 j o8
   ·rw[show j=i by lia];exact hf
  |some x =>
   refine⟨_,rfl,trivial,_,rfl,_,rfl,nK rfl ⟨_,rfl,Dk (some x),?_⟩⟩;rw[<- uv hi hf o7];exact q
 ·rintro β ⟨⟨x2,x3,rfl⟩,o7⟩;rw[d_,Z4]at o7;refine⟨trivial,?_⟩;have:iR rows ts=none:=Gw o7;rw[this]at q;exact q
theorem zg:aO ["row","ties"] ["row","ties"] (ar jn):=mkS
theorem tU {vx ir} (dE:D9 K mg vx ir) {si gn} (dO:D8 K mg si gn) {qt fF} (dF:D7 K mg qt fF) {oI eZ} (dS:D6 K mg oI eZ) {oH eY} (dX:D5 K mg oH eY) (B:Bs mg):aP P w K mg base bU 4 vx ir ["row","ties"] (cc P w true iU):=by
 have GO:aP P w K mg base bU 3 _ _ _ (cc P w true nX):=B9 dO dF dS dX B;refine ly dE.F zg (λds R Sm=> by obtain⟨n,rows,ts,e,_⟩ := Sm;subst e;rfl) λbR A outer s H E hr=>⟨_,(ak (aL (gF ah (bf.m ju) (ax nX.mono GO (hr.mono (by decide)) dO.m dO.F.kp dO.b (aa (af (i:=0)) (aa (af (i:=1)) ag))) cH))),λds R h=>?_⟩
 obtain⟨n,rows,ts,rfl,hl,hp,q⟩:=h;refine⟨_,rfl,trivial,_,rfl,trivial,n,rows,ts,rfl,hl,hp,trivial,?_⟩;cases hf:iR rows ts with
 |none=>rw[hf]at q;exact⟨_,rfl,trivial,q⟩
 |some x=>rw[hf]at q;exact⟨_,rfl,trivial,q⟩
theorem jl:aO ["row","ties"] ["row","ties"] (ar dk):=mkS
theorem lx {iw eQ} (oM:LN K mg iw eQ) {vx ir} (dE:D9 K mg vx ir) {si gn} (dO:D8 K mg si gn) {qt fF} (dF:D7 K mg qt fF) {oI eZ} (dS:D6 K mg oI eZ) {oH eY} (dX:D5 K mg oH eY) (B:Bs mg):aP P w K mg base bU 5 iw eQ ["row","ties"] (cc P w true lG):=by
 have GE:aP P w K mg base bU 4 _ _ _ (cc P w true iU):=tU dE dO dF dS dX B;refine ly oM.F jl (λds R Sl=> by obtain⟨n,rows,ts,e,_⟩ := Sl;subst e;rfl) λbR A outer s H E hr=>⟨_,(ak (a6 (fT (cS (ax iU.mono GE (hr.mono (by decide)) dE.m dE.F.kp dE.b (aa (af (i:=0)) (aa (af (i:=1)) ag))))) cg aH)),λds R h=>?_⟩
 obtain⟨n,rows,ts,rfl,hl,ht,hg,q⟩:=h;refine⟨_,rfl,trivial,_,rfl,trivial,n,rows,ts,rfl,by lia,λu hu=>(ht u (hg.1 u hu)).pair,_,rfl,dI (by rw[nP.mpr hg];rfl) q⟩
end
section
variable {P:Y0}{w:Zd}{K:PySem.W.Frag}{mg:Str->Option YU}{base:Heap}{cA:Addr}{c:Nat->Addr}
theorem dj:aO ["many","ties","signs","a","b"] ["many","ties"] (ar d9):=mkS
theorem JQ {lR gN} (yI:OU K mg lR gN) {iw eQ} (oM:LN K mg iw eQ) {vx ir} (dE:D9 K mg vx ir) {si gn} (dO:D8 K mg si gn) {qt fF} (dF:D7 K mg qt fF) {oI eZ} (dS:D6 K mg oI eZ) {oH eY} (dX:D5 K mg oH eY) (B:yT mg):aP P w K mg base bU 6 lR gN ["many","ties"] (cc P w true Ae):=by
 have Ul:aP P w K mg base bU 5 _ _ _ (cc P w true lG):=lx oM dE dO dF dS dX B.toBs;refine ly yI.F dj (λds R h=>by obtain⟨n,ts,e,_⟩:=h;subst e;rfl) λbR A outer s H E hr=>⟨_,(ai (a6 (aw ah (bf.m bw) (af (i:=0)) aj) cg aH)
    (ai (a6 (cS (aM ah (a_.m (d3 rfl)) B.any kW (aa (zM false ["a","b","many"] [none,none,some 0] (by rfl) (by decide:(["a","b","many"]:List Str).Nodup) rfl (bq (af (i:=1))) (λ_ _ _ _ _ _=>(bL (n:=2) rfl (az (au (i:=0) (by decide:(["a","b","many"]:List Str).Nodup)) (az (au (i:=1) (by decide:(["a","b","many"]:List Str).Nodup)) bj)))) (λ_ _ _ _ _ _=>cO) (λ_ _ _ _ _ _=>(vX (fz aj (bI mZ (af (i:=0)) (bI bw (af (i:=1)) (fe bw (af (i:=2))))))))) ag))) cg aH)
    (ai (xT (ax lG.mono Ul (hr.mono (by decide)) oM.m oM.F.kp oM.b (aa (aV (aa (af (i:=0)) (aa (af (i:=1)) ag))) (aa (af (i:=1)) ag))))
    (ai (IY (i:=2) true ["point"] [none] (by rfl) (by decide:(["point"]:List Str).Nodup) rfl (λ_=>(bC B.range (aa (af (i:=0)) ag))) (λ_ _ _ _ _ _=>(au (i:=0) (by decide:(["point"]:List Str).Nodup))) (λ_ _ _ _ _ _=>cO) (λ_ _ _ _ _ _=>aQ) dj.nd)
    (ai (ft aap rfl (bq (af (i:=1))) (bL (n:=2) rfl (az (au (i:=3) dj.nd) (az (au (i:=4) dj.nd) bj))) (ai (fV (i:=2) (λ_=>aQ) (λ_=>(af (i:=3))))
    (ak (fV (i:=2) (λ_=>aQ) (λ_=>(af (i:=4)))))))
    (ak (aL (xI (af (i:=2)))))))))),λds R h=>?_⟩
 obtain⟨n,ts,rfl,hn,hl,ht,hg,q⟩:=h;refine⟨_,rfl,trivial,_,rfl,_,rfl,dI (decide_eq_false (by lia)) ?_⟩
 refine⟨_,rfl,_,rfl,trivial,nk (λ_=>true) (λ_=>.bl false) trivial (gg (by lia)) (λt Ge x0 x1 o J ho j1 j2=>?_) ?_⟩
 ·obtain⟨a,b,rfl,a0,ab,bn⟩:=ht t Ge;refine⟨_,rfl,rfl,_,_,rfl,_,_,rfl,rfl,_,rfl,_,rfl,nK (decide_eq_true a0) ⟨_,rfl,_,rfl,nK (decide_eq_true ab) ⟨_,rfl,_,rfl,?_⟩⟩⟩;exact⟨decide (b<(n:Int)),rfl,trivial,ho,by rw[decide_eq_true bn];exact j1 rfl _ _⟩
 have ea:uX [.lst ((ts.filter λ_=>true).map λ_=>D.bl false)]=some (.bl false):=by
  have h:=jO ((ts.filter λ_=>true).map λ_=>false);rw[ZM,show (((ts.filter λ_=>true).map λ_=>false).any id)=false by rw[List.any_map];exact aa6.mpr λ_ _=>abv]at h
  exact h
 refine⟨trivial,_,ea,_,rfl,dI rfl ?_⟩;refine⟨_,rfl,trivial,_,rfl,trivial,eX,.inr ⟨trivial,_,rfl,trivial,(n:Int),ts,ts,rfl,hl,ht,hg,?_⟩⟩;refine⟨_,rfl,trivial,(n:Int),rfl,by lia,by lia,trivial,eK (l:=Zi n) (f:=λk:Nat=>D.int (0+(k:Int))) (λ_=>true) (λ_=>.str (bM 46)) trivial (gg (by rw[aan];lia)) (λk hk x0 o J ho j1 j2=>⟨trivial,ho,by rw[Lp];exact j1 rfl _⟩) ?_⟩
 rw[Z6.mpr λ_ _=>rfl];refine⟨_,rfl,_,rfl,trivial,?_⟩;refine zY (λi β=>i<=ts.length/\∃y3 y4:Option Q.B,β=[some (.val false (.int (n:Int))),some (.val false (.lst (ts.map kD))),some (.own (.lst ((gX (ts.take i).reverse n).map λc=>D.str (bM c)))),y3,y4]) ⟨Zm _,_,_,by rw[show (ts.take 0).reverse=[] from rfl,xv];rfl⟩ (λE1 r1 i n1 d β hd hv=>?_) λβ hv=>?_
 ·obtain⟨_,y3,y4,rfl⟩:=hv;rw[Zj]at hd;obtain⟨t,hx,rfl⟩:=Zn.mp hd;have hi:i<ts.length:=(Y_.mp hx).1;obtain⟨a,b,rfl,a0,ab,bn⟩:=ht t (Zz hx);have e1:ts.take (i+1)=ts.take i++[[a,b]]:=by rw[abD,hx];rfl
  refine⟨_,rfl,rfl,_,_,rfl,_,_,rfl,rfl,?_⟩;have Ey:((gX (ts.take i).reverse n).map λc=>D.str (bM c)).length=n:=by rw[YX,e9]
  have es:(gX (ts.take (i+1)).reverse n).map (λc=>D.str (bM c))=(((gX (ts.take i).reverse n).map λc=>D.str (bM c)).set a.toNat (.str "(")).set b.toNat (.str ")"):=by
   rw[e1,ab1,List.reverse_singleton,List.singleton_append,Lr,Lq];exact(xu (us:=(ts.take i).reverse) (F:=λc=>D.str (bM c)) a0 ab bn).symm
  refine⟨trivial,⟨_,rfl⟩,_,rfl,_,a,a.toNat,rfl,rfl,wj (i:=a.toNat) (by lia) (by lia),?_⟩
  exact⟨trivial,⟨_,rfl⟩,_,rfl,_,b,b.toNat,rfl,rfl,wj (i:=b.toNat) (by lia) (by rw[List.length_set];lia),n1 _ ⟨hi,_,_,by rw[es];rfl⟩⟩
 ·obtain⟨_,y3,y4,rfl⟩:=hv;rw[YX,abM];exact⟨_,rfl,_,rfl,by rw[e9];lia,trivial,q⟩
theorem Cb {iw eQ} (oM:LN K mg iw eQ) {vx ir} (dE:D9 K mg vx ir) {si gn} (dO:D8 K mg si gn) {qt fF} (dF:D7 K mg qt fF) {oI eZ} (dS:D6 K mg oI eZ) {oH eY} (dX:D5 K mg oH eY) (B:Bs mg) (ZA:XA K mg cA c):aP P w K mg base (AD P w) 5 iw eQ ["row","ties"] (sV P w true λds R T=>lG ds R\/G4 c ds T):=by
 have GE:aP P w K mg base bU 4 _ _ _ (cc P w true iU):=tU dE dO dF dS dX B;refine aP.Ij (lx oM dE dO dF dS dX B) ?_;refine M6 oM.F jl (λds R T h=>by obtain⟨n,rows,ts,e,_⟩:=h;subst e;rfl) λbR A outer s H E hr=>?_
 have Z:=sC (P:=P) (w:=w) (K:=K) (mg:=mg) (base:=base) (N:=["row","ties"]) (qual:="check_set") (scope:=ar dk) (f:=iw) (cd:=bR) (A:=A) (outer:=outer) (s:=s) (H:=H) (E:=E);refine⟨_,(ak (a6 (fT (cS (ax iU.mono GE (hr.mono (by decide)) dE.m dE.F.kp dE.b (aa (af (i:=0)) (aa (af (i:=1)) ag))))) (ak (mX Z rfl (XA.x ZA 5))) aH)),λds R h=>?_⟩
 obtain⟨n,rows,ts,rfl,hl,ht,hx,q⟩:=h;refine⟨_,rfl,trivial,_,rfl,trivial,n,rows,ts,rfl,by lia,ht,_,rfl,?_⟩
 exact nK (by rw[decide_eq_false λz=>hx (nP.mp z)];rfl) q
theorem FK {lR gN} (yI:OU K mg lR gN) {iw eQ} (oM:LN K mg iw eQ) {vx ir} (dE:D9 K mg vx ir) {si gn} (dO:D8 K mg si gn) {qt fF} (dF:D7 K mg qt fF) {oI eZ} (dS:D6 K mg oI eZ) {oH eY} (dX:D5 K mg oH eY) (B:yT mg) (ZA:XA K mg cA c):aP P w K mg base (AD P w) 6 lR gN ["many","ties"] (sV P w true λds R T=>Ae ds R\/yM c ds T):=by
 have Ul:=Cb (P:=P) (w:=w) (base:=base) oM dE dO dF dS dX B.toBs ZA;refine aP.Ij (JQ yI oM dE dO dF dS dX B) ?_;refine M6 yI.F dj (λds R T h=>by obtain⟨m,ts,e,_⟩:=h;subst e;rfl) λbR A outer s H E hr=>?_
 have Z:=sC (P:=P) (w:=w) (K:=K) (mg:=mg) (base:=base) (N:=["many","ties","signs","a","b"]) (qual:="brackets") (scope:=ar d9) (f:=lR) (cd:=bR) (A:=A) (outer:=outer) (s:=s) (H:=H) (E:=E);refine⟨_,(ai (a6 (aw ah (bf.m bw) (af (i:=0)) aj) (ak (mX Z rfl (XA.x ZA 0))) aH) (ai (a6 (cS (aM ah (a_.m (d3 rfl)) B.any kW (aa (zM false ["a","b","many"] [none,none,some 0] (by rfl) (by decide:(["a","b","many"]:List Str).Nodup) rfl (bq (af (i:=1))) (λ_ _ _ _ _ _=>(bL (n:=2) rfl (az (au (i:=0) (by decide:(["a","b","many"]:List Str).Nodup)) (az (au (i:=1) (by decide:(["a","b","many"]:List Str).Nodup)) bj)))) (λ_ _ _ _ _ _=>cO) (λ_ _ _ _ _ _=>(vX (fz aj (bI mZ (af (i:=0)) (bI bw (af (i:=1)) (fe bw (af (i:=2))))))))) ag))) (ak (mX Z rfl (XA.x ZA 5))) aH) (ai (xT (BC Z (G4.mono lG lG.mono) Ul (hr.mono (by decide)) oM.m oM.F.kp oM.b (aa (aV (aa (af (i:=0)) (aa (af (i:=1)) ag))) (aa (af (i:=1)) ag)))) cg))),λds R h=>?_⟩
 obtain⟨m,ts,rfl,hm,hl,hp,q⟩:=h;refine⟨_,rfl,trivial,_,rfl,_,rfl,i4 (λh1=>?_) λh1=>?_⟩
 ·rcases q with z|z
  ·exact z.2
  ·exact absurd h1 (by lia)
 rcases q with z|⟨m0,ns,q⟩
 ·exact absurd z.1 h1
 refine⟨_,rfl,_,rfl,trivial,nk (l:=ts) (f:=kD) (λ_=>true) (λt=>.bl (!yY m t)) trivial (gg (by lia)) (λt Ge x0 x1 o J ho j1 _=>?_) ?_⟩
 ·obtain⟨a,b,rfl⟩:=hp t Ge;have j1:=j1 rfl;rw[xn]at j1;refine⟨_,rfl,rfl,_,_,rfl,_,_,rfl,rfl,_,rfl,_,rfl,i4 (λa0=>?_) λa0=>?_⟩
  ·rw[decide_eq_true a0]at j1;refine⟨_,rfl,_,rfl,i4 (λab=>?_) λab=>?_⟩
   ·rw[decide_eq_true ab]at j1;exact⟨_,rfl,_,rfl,_,rfl,trivial,ho,j1 _ _⟩
   ·rw[decide_eq_false ab]at j1;exact⟨_,rfl,trivial,ho,j1 _ _⟩
  ·rw[decide_eq_false a0]at j1;exact⟨_,rfl,trivial,ho,j1 _ _⟩
 refine⟨trivial,_,Eb m ts,_,rfl,?_⟩;cases hx:ts.any λt=>!yY m t with
 |true=>exact nK rfl q
 |false =>
  have ht:=ER hp hx;exact dI rfl ⟨_,rfl,trivial,_,rfl,trivial,eX,.inr ⟨trivial,_,rfl,trivial,.inr ⟨m,ts,ts,rfl,hl,hp,λg=>ns ⟨ht,g⟩,q⟩⟩⟩
end
section
variable {P:Y0}{w:Zd}{K:PySem.W.Frag}{mg:Str->Option YU}{base:Heap}{cA:Addr}{c:Nat->Addr}
theorem dM:aO ["e","flags"] ["e"] (ar fc):=mkS
theorem Ca {uJ lF} (DJ:PY K mg uJ lF) (B:Bs3 mg) (bV:mg "ValueError" = none) (ZA:XA K mg cA c):PR P w K mg base 1 uJ lF ["e"] (cc P w true (GC c)):=by
 refine QN DJ.F dM (λds R h=>by obtain⟨i,_,e,_⟩:=h;subst e;rfl) λbR A outer s H E hr=>⟨_,(ai (aW (i:=1) (a7 (aa (dA B.zS (af (i:=0)) (XA.x ZA 0).m) (aa (dA B.zS (af (i:=0)) (XA.x ZA 1).m) (aa (dA B.zS (af (i:=0)) (XA.x ZA 2).m) (aa (dA B.zS (af (i:=0)) (XA.x ZA 3).m) ag))))) dM.nd)
    (ai (aW (i:=1) (aN aK aG (af (i:=1)) (a7 (aa (dA B.zS (af (i:=0)) (XA.x ZA 4).m) (aa (dA B.zS (af (i:=0)) (XA.x ZA 5).m) (aa (dA B.zS (af (i:=0)) (XA.x ZA 6).m) (aa (dA B.zS (af (i:=0)) (XA.x ZA 7).m) ag)))))) dM.nd)
    (ai (aW (i:=1) (aN aK aG (af (i:=1)) (a7 (aa (dA B.zS (af (i:=0)) (XA.x ZA 8).m) (aa (dA B.zS (af (i:=0)) (XA.x ZA 9).m) (aa (dA B.zS (af (i:=0)) (XA.x ZA 10).m) (aa (dA B.zS (af (i:=0)) (XA.x ZA 11).m) ag)))))) dM.nd)
    (ak (aL (aN aK aG (af (i:=1)) (a7 (aa (vX (Ji B.zS (af (i:=0)) bV Lv)) ag)))))))),λds R h=>?_⟩
 obtain⟨i,hi,rfl,q⟩:=h;refine(wG (bQ (λ_ r=>⟨_,rfl,c i,_,rfl,ZA.k hi (j:=0) (by decide),r⟩) trivial (bQ (λ_ r=>⟨_,rfl,c i,_,rfl,ZA.k hi (j:=1) (by decide),r⟩) trivial (bQ (λ_ r=>⟨_,rfl,c i,_,rfl,ZA.k hi (j:=2) (by decide),r⟩) trivial (bQ (λ_ r=>⟨_,rfl,c i,_,rfl,ZA.k hi (j:=3) (by decide),r⟩) trivial rK)))) (by show 4<=1000000;decide) (by intro _ z;exact z)) _ ?_
 refine⟨_,rfl,trivial,(wG (bQ (λ_ r=>⟨_,rfl,c i,_,rfl,ZA.k hi (j:=4) (by decide),r⟩) trivial (bQ (λ_ r=>⟨_,rfl,c i,_,rfl,ZA.k hi (j:=5) (by decide),r⟩) trivial (bQ (λ_ r=>⟨_,rfl,c i,_,rfl,ZA.k hi (j:=6) (by decide),r⟩) trivial (bQ (λ_ r=>⟨_,rfl,c i,_,rfl,ZA.k hi (j:=7) (by decide),r⟩) trivial rK)))) (by show 4<=1000000;decide) (by intro _ z;exact z)) _ ⟨_,fH (by show 4+4<=_;decide),.inl ⟨rfl,?_⟩⟩⟩
 refine⟨_,rfl,trivial,(wG (bQ (λ_ r=>⟨_,rfl,c i,_,rfl,ZA.k hi (j:=8) (by decide),r⟩) trivial (bQ (λ_ r=>⟨_,rfl,c i,_,rfl,ZA.k hi (j:=9) (by decide),r⟩) trivial (bQ (λ_ r=>⟨_,rfl,c i,_,rfl,ZA.k hi (j:=10) (by decide),r⟩) trivial (bQ (λ_ r=>⟨_,rfl,c i,_,rfl,ZA.k hi (j:=11) (by decide),r⟩) trivial rK)))) (by show 4<=1000000;decide) (by intro _ z;exact z)) _ ⟨_,fH (by show 8+4<=_;decide),.inl ⟨rfl,?_⟩⟩⟩
 exact⟨_,rfl,trivial,_,rfl,c i,_,rfl,ZA.kv hi,_,rfl,trivial,vJ,_,fH (by show 12+1<=_;decide),.inl ⟨rfl,trivial,q⟩⟩
theorem mK:aO ["word","names"] ["word"] (ar g8):=mkS
theorem JP {z9 qp} (yG:Uu K mg z9 qp) (B:Bs3 mg):aP P w K mg base bU 1 z9 qp ["word"] (cc P w true nZ):=by
 refine ly yG.F mK (λds R h=>by obtain⟨i,e,_⟩:=h;subst e;rfl) λbR A outer s H E hr=>⟨_,(ai (aW (i:=1) (a7 (aa aQ (aa aQ (aa aQ (aa aQ (aa aQ (aa aQ (aa aQ (aa aQ (aa aQ (aa aQ ag))))))))))) mK.nd)
    (ak (aL (aN aK aG (zM false ["name","word"] [none,some 0] (by rfl) (by decide:(["name","word"]:List Str).Nodup) rfl (bq (aN aK aG (af (i:=1)) (a7 (aa aQ (aa aQ ag))))) (λ_ _ _ _ _ _=>(au (i:=0) (by decide:(["name","word"]:List Str).Nodup))) (λ_ _ _ _ _ _=>cO) (λ_ _ _ _ _ _=>(gF ah (bf.m (cI hr.units)) (af (i:=0)) (af (i:=1))))) (a7 (aa iC ag)))))),λds R h=>?_⟩
 obtain⟨x,rfl,hx,q⟩:=h;have hs:∀n∈Hf,(D.str n).iB=true:=abf.mp (by decide +kernel:Hf.all (λn=>(D.str n).iB)=true)
 refine⟨trivial,trivial,trivial,trivial,trivial,trivial,trivial,trivial,trivial,trivial,by show 10<=Zf;decide,?_⟩
 refine⟨_,rfl,trivial,trivial,trivial,eX,_,fH (by show 10+2<=_;decide),.inl ⟨rfl,?_⟩⟩
 refine⟨_,rfl,trivial,eK (l:=Hf) (f:=D.str) (λ_=>true) (λn=>.bl (decide (n=x))) trivial (by decide) (λn hn x0 o J ho j1 j2=>?_) ?_⟩
 ·exact⟨_,rfl,trivial,_,rfl,_,rQ n x (hs n hn) hx,trivial,ho,j1 rfl _⟩
 ·rw[Z6.mpr λ_ _=>rfl];have e:(Hf.map λn=>D.bl (decide (n=x)))++[D.bl false]=(wK x).map D.bl:=by unfold wK;rw[aar,ZM];rfl
  refine⟨trivial,trivial,vJ,_,fH (by show 12+1<=_;decide),.inl ⟨?_,trivial,?_⟩⟩
  ·rw[e];exact kR (λ_=>rfl) _
  ·rw[e];exact q
end
section
variable {P:Y0}{w:Zd}{K:PySem.W.Frag}{mg:Str->Option YU}{base:Heap}{cA:Addr}{c:Nat->Addr}
theorem b8:aO ["many","ties","found","e"] ["many","ties"] (ar de):=mkS
theorem B5 {zZ qj} (sj:Ut K mg zZ qj) {uJ lF} (DJ:PY K mg uJ lF) {lR gN} (yI:OU K mg lR gN) {iw eQ} (oM:LN K mg iw eQ) {vx ir} (dE:D9 K mg vx ir) {si gn} (dO:D8 K mg si gn) {qt fF} (dF:D7 K mg qt fF) {oI eZ} (dS:D6 K mg oI eZ) {oH eY} (dX:D5 K mg oH eY) (B:yT mg) (bV:mg "ValueError" = none) (ZA:XA K mg cA c):aP P w K mg base bU 7 zZ qj ["many","ties"] (cc P w false rH):=by
 have Yr:=FK (P:=P) (w:=w) (base:=base) yI oM dE dO dF dS dX B ZA;have Yq:=Ca (P:=P) (w:=w) (base:=base) DJ B.toBs3 bV ZA;refine ly sj.F b8 (λds R h=>by obtain⟨m,ts,e,_⟩:=h;subst e;rfl) λbR A outer s H E hr=>⟨_,(ai (aW (i:=2) cH b8.nd)
    (ai (Js (j:=3) rfl rfl (IH (i:=2) yM.mono Yr (hr.mono (by decide)) yI.m yI.F.kp yI.b (aa (af (i:=0)) (aa (af (i:=1)) ag)) b8.nd) (λ_=>(ak (aW (i:=2) (BD (GC.mono (c:=c)) Yq (hr.Ax (by decide)) DJ.m DJ.F.kp DJ.b (aa (af (i:=3)) ag)) b8.nd))) ZA.T9 b8.nd)
    (ak (aL (af (i:=2)))))),λds R h=>?_⟩
 obtain⟨m,ts,rfl,hm,hl,hp,q0,q5,qg⟩:=h;refine⟨λcl=>(cl=c 0/\m<0)\/(cl=c 5/\0<=m/\iH m ts),⟨_,rfl,trivial,_,rfl,trivial,?_⟩,λcl h=>?_⟩
 ·by_cases m0:m<0
  ·exact .inr ⟨m,ts,rfl,hm,hl,hp,.inl ⟨m0,.inl ⟨rfl,m0⟩⟩⟩
  ·by_cases g:b5 m ts/\Good ts ts
   ·obtain⟨n,rfl⟩:∃n:Nat,m=(n:Int):=⟨m.toNat,by lia⟩
    exact .inl ⟨n,ts,rfl,by lia,hl,g.1,g.2,_,rfl,trivial,qg n rfl g.1 g.2⟩
   ·exact .inr ⟨m,ts,rfl,hm,hl,hp,.inr ⟨by lia,g,.inr ⟨rfl,by lia,g⟩⟩⟩
 ·rcases h with⟨rfl,m0⟩|⟨rfl,m0,g⟩
  ·exact⟨ZA.VC 0 (by decide),_,rfl,trivial,0,by decide,rfl,_,rfl,trivial,q0 m0⟩
  ·exact⟨ZA.VC 5 (by decide),_,rfl,trivial,5,by decide,rfl,_,rfl,trivial,q5 m0 g⟩
end
section
variable {P:Y0}{w:Zd}{K:PySem.W.Frag}{mg:Str->Option YU}{base:Heap}
theorem sY:aO ["one","other"] ["one","other"] (ar fQ):=mkS
theorem xW {uI lE} (yB:PX K mg uI lE):aP P w K mg base bU 1 uI lE ["one","other"] (cc P w true nV):=by
 refine ly yB.F sY (λds R h=>by obtain⟨a,b,c,d,e,_⟩:=h;subst e;rfl) λbR A outer s H E hr=>⟨_,(ai (a6 (l8.t (c8 (aw ah (bf.m (m7 hr.fK)) (bc ah bN (af (i:=0)) aj) (af (i:=1))) (dR (aw ah (bf.m (m7 hr.fK)) (bc ah bN (af (i:=0)) aj) (af (i:=1)))))) (ak (aL iC)) aH)
    (ak (aL (gF ah (bf.m (bD hr.units)) (fz (bc ah bN (af (i:=0)) aj) (bI bw (bc ah bN (af (i:=1)) aj) (fe bw (bc ah bN (af (i:=0)) aj)))) (fz (bc ah bN (af (i:=0)) aj) (bI bw (bc ah bN (af (i:=1)) aj) (fe bw (bc ah bN (af (i:=0)) aj)))))))),λds R h=>?_⟩
 obtain⟨a,b,c,d,rfl,q⟩:=h;refine⟨_,rfl,trivial,_,rfl,trivial,_,rfl,_,rP a [c,d],_,rfl,i4 (λh=>?_) (λh1=>⟨_,rfl,trivial,_,rfl,trivial,_,rfl,_,rP b [c,d],_,rfl,i4 (λh=>?_) (λh2=>?_)⟩)⟩
 ·rw[show gi a b c d=true by unfold gi;rw[decide_eq_true h];rfl]at q
  exact⟨trivial,q⟩
 ·rw[show gi a b c d=true by unfold gi;rw[decide_eq_true h,Bool.or_true];rfl]at q
  exact⟨trivial,q⟩
 ·rw[show gi a b c d=!decide ((decide (a<c)&&decide (c<b))=(decide (a<d)&&decide (d<b))) by unfold gi;rw[decide_eq_false h1,decide_eq_false h2];rfl]at q
  refine yK (pC (m:=0) rfl rfl) (pC (m:=0) rfl rfl) (pC (m:=1) rfl rfl) ⟨trivial,?_⟩;exact yK (pC (m:=0) rfl rfl) (pC (m:=1) rfl rfl) (pC (m:=1) rfl rfl) ⟨_,Lj _ _,trivial,q⟩
theorem d6:aO ["cell","begin","row","left","kept","k","tie"] ["cell","begin","row"] (ar gZ):=mkS
theorem JH {Gz yt} (L_:VR K mg Gz yt) {uI lE} (yB:PX K mg uI lE) {jI fh} (b4:D1 K mg jI fh) {iu dJ} (oj:D0 K mg iu dJ) (B:yT mg):aP P w K mg base bU 3 Gz yt ["cell","begin","row"] (cc P w true uL):=by
 have l9:aP P w K mg base bU 2 _ _ _ (cc P w true cW):=fB b4 oj;have Uj:aP P w K mg base bU 1 _ _ _ (cc P w true nV):=xW yB;refine ly L_.F d6 (λds R h=>by obtain⟨c,b,n,rows,e,_⟩:=h;subst e;rfl) λbR A outer s H E hr=>⟨_,(ai (dh (i:=3) (λ_=>(bx aK du B.list jR (aa (bc ah bN (af (i:=2)) aj) ag))) d6.nd)
    (ai (dh (i:=4) (λ_=>(a7 ag)) d6.nd)
    (ai (ft aap rfl (bC B.range (aa (aM ah (a_.m (eU rfl)) B.min oA (aa (aM ah (a_.m dc) B.len gb (aa (bc ah bN (af (i:=2)) aj) ag)) (aa aj ag))) ag)) (au (i:=5) d6.nd) (ai (aW (i:=6) (By (i:=3) (ax cW.mono l9 (hr.mono (by decide)) b4.m b4.F.kp b4.b (aa (af (i:=0)) (aa (aN aK aG (af (i:=1)) (af (i:=5))) (aa (aM ah (a_.m dc) B.len gb (aa (af (i:=3)) ag)) ag))))) d6.nd)
    (ak (a6 (l8.t (fS (fT (cS (aM ah (a_.m (d3 rfl)) B.any kW (aa (zM true ["one","tie"] [none,some 6] (by rfl) (by decide:(["one","tie"]:List Str).Nodup) rfl (bq (af (i:=4))) (λ_ _ _ _ _ _=>(au (i:=0) (by decide:(["one","tie"]:List Str).Nodup))) (λ_ _ _ _ _ _=>cO) (λ_ _ _ _ _ _=>(ax nV.mono Uj (hr.mono (by decide)) yB.m yB.F.kp yB.b (aa (af (i:=1)) (aa (af (i:=0)) ag))))) ag)))) (eD (aw ah (bf.m km) (ax cW.mono l9 (hr.mono (by decide)) b4.m b4.F.kp b4.b (aa (af (i:=0)) (aa (aN aK aG (aN aK aG (af (i:=1)) aj) (aN ah (bf.m h9) (af (i:=5)) aj)) (aa aj ag)))) aj)))) (ak (fA (i:=4) (λ_=>(af (i:=6))))) aH))))
    (ak (aL (aM aK cm B.sorted bK (aa (af (i:=4)) ag))))))),λds R h=>?_⟩
 obtain⟨c,b,n,rows,rfl,b0,b1,tr,lr,q⟩:=h;refine⟨_,rfl,trivial,_,rfl,.inr ⟨trivial,_,rfl,.inl ⟨aI _,trivial,?_⟩⟩⟩;refine⟨Zm _,trivial,_,rfl,trivial,_,rfl,.inr ⟨trivial,_,rfl,trivial,trivial,_,rfl,trivial,_,rfl,?_⟩⟩;rw[YX];obtain⟨h,eh,h0,h1,h2⟩:∃h:Int,h=(if (30:Int)<(rows.length:Int) then 30 else (rows.length:Int))/\0<=h/\h<=30/\h<=rows.length:=⟨_,rfl,by split <;> lia,by split <;> lia,by split <;> lia⟩
 rw[<- eh];refine⟨by lia,by lia,trivial,?_⟩
 refine zY (λi β=>∃(us fs:List (List Int)) (x5 x6:Option Q.B),β=[some (.val false (.int c)),some (.val false (.int b)),some (.val false (iL n rows)),some (.own (.lst (us.map kD))),some (.own (.lst (fs.map kD))),x5,x6]/\us.length=rows.length-i/\fs.length<=i/\(∀u∈us,u∈rows)/\(∀u∈fs,u∈rows)/\fs.Pairwise Apart)
  ⟨rows,[],_,_,rfl,rfl,Zm _,λ_ z=>z,λ_ z=>(nomatch z),List.Pairwise.nil⟩ (λE1 r1 i n2 d β hd hI=>?_) ?_
 ·obtain⟨us,fs,x5,x6,rfl,l1,l2,m1,m2,pw⟩:=hI;obtain⟨hi,rfl⟩:=eC hd;have lu:us.length=rows.length-i:=l1;refine⟨⟨_,rfl⟩,_,rfl,trivial,_,rfl,trivial,_,rfl,_,rfl,trivial,_,rfl,trivial,_,rfl,trivial,c,b+(0+(i:Int)),(us.map kD).length,rfl,by lia,by lia,by rw[YX];lia,λr r0 r1=>?_⟩
  rw[YX]at r1;obtain⟨m,rfl⟩:∃m:Nat,r=m:=⟨r.toNat,by lia⟩
  have hm:m<us.length:=by lia
  obtain⟨t,et⟩:∃t,us[m]?=some t:=⟨us[m],Y2 hm⟩;obtain⟨a,e,rfl,a0,ae,en⟩:=tr t (m1 t (Zz et));refine⟨us.map kD,m,m,kD [a,e],rfl,rfl,by lia,by lia,by rw[YX];exact wj rfl hm,by rw[Zj,et];rfl,?_⟩
  have ee:(us.map kD).eraseIdx m=(us.eraseIdx m).map kD:=(jB us m).symm;rw[ee];have Vs:(us.eraseIdx m).length=rows.length-(i+1):=by rw[List.length_eraseIdx,if_pos hm];lia
  have Vr:∀u∈us.eraseIdx m,u∈rows:=λu hu=>m1 u (List.mem_of_mem_eraseIdx hu);have jh:∀(x5 x6:Option Q.B),E1.nx [some (.val false (.int c)),some (.val false (.int b)),some (.val false (iL n rows)),some (.own (.lst ((us.eraseIdx m).map kD))),some (.own (.lst (fs.map kD))),x5,x6]:=λx5 x6=>n2 _ ⟨us.eraseIdx m,fs,x5,x6,rfl,Vs,by lia,Vr,m2,pw⟩
  refine⟨_,rfl,_,rfl,trivial,?_⟩;refine eK (l:=fs) (f:=kD) (λ_=>true) (λu=>.bl (fE [a,e] u)) trivial (by rw[Zw];lia) (λu hu x0 o J ho j1 j2=>?_) ?_
  ·obtain⟨x,y,rfl,VU,xy,yn⟩:=tr u (m2 u hu);exact⟨rfl,_,rfl,trivial,_,rfl,trivial,a,e,x,y,rfl,trivial,ho,j1 rfl _⟩
  rw[Z6.mpr λ_ _=>rfl];have ea:uX [.lst (fs.map λu=>D.bl (fE [a,e] u))]=some (.bl (fs.any λu=>fE [a,e] u)):=by
   have h:=jO (fs.map λu=>fE [a,e] u);rw[ZM,List.any_map]at h;exact h
  refine⟨trivial,_,ea,_,rfl,?_⟩;cases KW:(fs.any λu=>fE [a,e] u)with
  |true=>exact dI rfl (jh _ _)
  |false =>
   refine⟨_,rfl,trivial,_,rfl,trivial,_,rfl,trivial,_,rfl,trivial,_,ie (by decide),_,rfl,trivial,trivial,c,b+30+(0+(i:Int)) % 9,5,rfl,by lia,by lia,by decide,λr r0 r1=>⟨trivial,_,rfl,_,rfl,i4 (λ_=>?_) (λ_=>jh _ _)⟩⟩
   refine⟨⟨_,rfl⟩,_,rfl,rG _,fs.map kD,rfl,by rw[YX,Zw];lia,?_⟩
   refine n2 _ ⟨us.eraseIdx m,fs++[[a,e]],_,_,by rw[qO];rfl,Vs,by rw[Zl];exact aaV l2,Vr,λu hu=>(Zb.mp hu).elim (m2 u) λz=>by rw[Y1.mp z];exact m1 _ (Zz et),?_⟩
   rw[aba];refine⟨pw,by simp,λu hu x hx=>?_⟩
   rw[Y1.mp hx];obtain⟨x,y,rfl,VU,xy,yn⟩:=tr u (m2 u hu);have:=aa6.mp KW _ hu;exact(nh ae xy (abG.mpr this)).symm
 ·rintro β ⟨us,fs,x5,x6,rfl,l1,l2,m1,m2,pw⟩;rw[d_]at l2;have hp:Pairs fs:=λu hu=>(tr u (m2 u hu)).pair;exact⟨_,rfl,trivial,_,cY hp.ne (by lia),.inl ⟨aI _,trivial,q _ ((ur hp).mpr ⟨m2,pw⟩) (by rw[(aX fs).length_eq];lia)⟩⟩
theorem cy:aO ["many","ties","signs","a","b"] ["many","ties"] (ar cR):=mkS
theorem Cc {z_ qq} (Ay:Us K mg z_ qq):aP P w K mg base bU 1 z_ qq ["many","ties"] (cc P w true wF):=by
 refine ly Ay.F cy (λds R h=>by obtain⟨n,ts,e,_⟩:=h;subst e;rfl) λbR A outer s H E hr=>⟨_,(ai (dh (i:=2) (λ_=>(aN aK BW (a7 (aa aQ ag)) (af (i:=0)))) cy.nd)
    (ai (ft aap rfl (bq (af (i:=1))) (bL (n:=2) rfl (az (au (i:=3) cy.nd) (az (au (i:=4) cy.nd) bj))) (ai (fV (i:=2) (λ_=>aQ) (λ_=>(af (i:=3))))
    (ak (fV (i:=2) (λ_=>aQ) (λ_=>(af (i:=4)))))))
    (ak (aL (xI (af (i:=2))))))),λds R h=>?_⟩
 obtain⟨n,ts,rfl,hn,ht,q⟩:=h;refine⟨trivial,vJ,trivial,_,rfl,_,E_ hn,.inl ⟨?_,?_⟩⟩
 ·exact kR (λ_=>rfl) _
 refine⟨trivial,_,rfl,_,rfl,trivial,?_⟩;refine zY (λi β=>i<=ts.length/\∃y3 y4:Option Q.B,β=[some (.val false (.int (n:Int))),some (.val false (.lst (ts.map kD))),some (.own (.lst ((gX (ts.take i).reverse n).map λc=>D.str (bM c)))),y3,y4]) ⟨Zm _,_,_,rfl⟩ (λE1 r1 i n1 d β hd hv=>?_) (λβ hv=>?_)
 ·obtain⟨_,y3,y4,rfl⟩:=hv;rw[Zj]at hd;obtain⟨t,hx,rfl⟩:=Zn.mp hd;have hi:i<ts.length:=(Y_.mp hx).1;obtain⟨a,b,rfl,a0,ab,bn⟩:=ht t (Zz hx);have e1:ts.take (i+1)=ts.take i++[[a,b]]:=by rw[abD,hx];rfl
  refine⟨_,rfl,rfl,_,_,rfl,_,_,rfl,rfl,?_⟩;have Ey:((gX (ts.take i).reverse n).map λc=>D.str (bM c)).length=n:=by rw[YX,e9]
  have es:(gX (ts.take (i+1)).reverse n).map (λc=>D.str (bM c))=(((gX (ts.take i).reverse n).map λc=>D.str (bM c)).set a.toNat (.str "(")).set b.toNat (.str ")"):=by
   rw[e1,ab1,List.reverse_singleton,List.singleton_append,Lr,Lq];exact(xu (us:=(ts.take i).reverse) (F:=λc=>D.str (bM c)) a0 ab bn).symm
  refine⟨trivial,⟨_,rfl⟩,_,rfl,_,a,a.toNat,rfl,rfl,wj (i:=a.toNat) (by lia) (by lia),?_⟩
  exact⟨trivial,⟨_,rfl⟩,_,rfl,_,b,b.toNat,rfl,rfl,wj (i:=b.toNat) (by lia) (by rw[List.length_set];lia),n1 _ ⟨hi,_,_,by rw[es];rfl⟩⟩
 ·obtain⟨_,y3,y4,rfl⟩:=hv;rw[YX,abM];exact⟨_,rfl,_,rfl,by rw[e9];lia,trivial,q⟩
end
end oO
namespace L2.Q
open PySem
theorem mG (l:List Bool):(D.lst (l.map D.bl)).pd.canLay0=true/\(D.lst (l.map D.bl)).pd.depth<=4:=j6 λd hd=>by
 obtain⟨b,_,rfl⟩:=ZE.mp hd;exact⟨(jj b).1,ZO (jj b).2 (by decide)⟩
theorem sU {us:List (List Int)}{n:Nat}:ab6 (a5 (gX us n))=true:=by
 unfold ab6 a5;rw[Array.all_eq_true'];intro x hx;have hx:=List.mem_toArray.mp hx;obtain⟨k,_,rfl⟩:=ZE.mp hx;have:=vQ (us:=us) (k:=((k:Nat):Int));exact decide_eq_true (by lia)
theorem TZ:D.lst ((wK "NoRow").map D.bl)=K7 0:=congrArg (λl=>D.lst (List.map D.bl l)) (by decide +kernel)
theorem Oq:D.lst ((wK "NoSet").map D.bl)=K7 5:=congrArg (λl=>D.lst (List.map D.bl l)) (by decide +kernel)
theorem JS {n a:Int}{ts:List (List Int)}:iH n (cM (ts++[[a,a]])):=iH.Mm (t:=[a,a]) ((aX _).mem_iff.mpr (by simp)) (jy (by lia))
theorem Ck {n a b:Int}{ts:List (List Int)}(ht:b5 n ts)(ab:a<b)(h:(ts.any λu=>fE [a,b] u)=true):iH n (cM (ts++[[a,b]])):=by
 obtain⟨u,hu,hm⟩:=acE.mp h
 by_cases e:[a,b]∈ts
 ·exact pR e
 ·refine iH.near (u:=[a,b]) (v:=u) ((aX _).mem_iff.mpr (by simp)) ((aX _).mem_iff.mpr (by simp[hu])) (λz=>e (z▸hu)) λz=>?_
  obtain⟨c,d,rfl,_,cd,_⟩:=ht u hu;rw[xa ab cd z]at hm;cases hm
theorem uu {n a b:Int}{ts:List (List Int)}(ht:b5 n ts)(hg:Good ts ts)(ab:a<b)(h:(ts.any λu=>fE [a,b] u)=false):(ts++[[a,b]]).Pairwise Apart:=by
 refine aba.mpr ⟨hg.2.2,by simp,λu hu v hv=>?_⟩
 rw[Y1.mp hv];obtain⟨c,d,rfl,_,cd,_⟩:=ht u hu;have:=aa6.mp h _ hu;exact(nh ab cd (by simpa using this)).symm
theorem tw {n a b:Int}{ts:List (List Int)}(ht:b5 n ts)(hg:Good ts ts)(a0:0<=a)(ab:a<b)(bn:b<n)(h:(ts.any λu=>fE [a,b] u)=false):b5 n (ts++[[a,b]])/\b5 n (cM (ts++[[a,b]]))/\Good (cM (ts++[[a,b]])) (cM (ts++[[a,b]])):=by
 have t1:b5 n (ts++[[a,b]]):=λt z=>by
  rcases Zb.mp z with z|z
  ·exact ht t z
  ·rw[Y1.mp z];exact⟨a,b,rfl,a0,ab,bn⟩
 exact⟨t1,AY t1,(ur λt z=>(t1 t z).pair).mpr ⟨λt z=>(aX _).mem_iff.mpr z,uu ht hg ab h⟩⟩
theorem As {n:Int}{us:List (List Int)}(ht:b5 n us)(ap:us.Pairwise Apart):us.reverse.Pairwise Iq/\∀u∈us.reverse,p0 u≠p1 u:=by
 refine⟨List.pairwise_reverse.mpr ((List.Pairwise.and_mem.mp ap).imp λ{t u} h=>?_),λu hu=>?_⟩
 ·obtain⟨h1,h2,h⟩:=h;obtain⟨a,b,rfl,_,ab,_⟩:=ht t h1;obtain⟨c,d,rfl,_,cd,_⟩:=ht u h2;have:=apart_at ab cd h;show c≠a/\c≠b/\d≠a/\d≠b;lia
 ·obtain⟨a,b,rfl,_,ab,_⟩:=ht u (abd.mp hu);show a≠b;lia
theorem Je {n:Nat}{a b:Int}{ts:List (List Int)}(ht:b5 n ts)(hg:Good ts ts)(a0:0<=a)(ab:a<b)(bn:b<n)(h:(ts.any λu=>fE [a,b] u)=false):gX (cM (ts++[[a,b]])).reverse n=gX (ts++[[a,b]]).reverse n:=by
 obtain⟨t1,t2,g⟩:=tw ht hg a0 ab bn h;obtain⟨h1,h2⟩:=As t1 (uu ht hg ab h);obtain⟨h3,h4⟩:=Ea t2 g;exact EZ h3 h4 h1 λx=>by rw[abd,abd,(aX _).mem_iff]
end L2.Q
namespace oO
open PySem L2 L2.Q
section
variable {P:Y0}{w:Zd}{K:PySem.W.Frag}{mg:Str->Option YU}{base:Heap}{cA:Addr}{c:Nat->Addr}
theorem aS:aO ["many","ties","cell","handed","spoilt","a","b","more","due"] ["many","ties","cell"] (ar b6):=mkS
theorem JG {Gy yr} (L9:VQ K mg Gy yr) {z6 ql} (HW:D3 K mg z6 ql) {uH lD} (ED:D2 K mg uH lD) {jI fh} (b4:D1 K mg jI fh) {iu dJ} (oj:D0 K mg iu dJ) {zZ qj} (sj:Ut K mg zZ qj) {uJ lF} (DJ:PY K mg uJ lF) {lR gN} (yI:OU K mg lR gN) {iw eQ} (oM:LN K mg iw eQ) {vx ir} (dE:D9 K mg vx ir) {si gn} (dO:D8 K mg si gn) {qt fF} (dF:D7 K mg qt fF) {oI eZ} (dS:D6 K mg oI eZ) {oH eY} (dX:D5 K mg oH eY) {z9 qp} (yG:Uu K mg z9 qp) {uI lE} (yB:PX K mg uI lE) {z_ qq} (Ay:Us K mg z_ qq) (B:yT mg) (bV:mg "ValueError" = none) (ZA:XA K mg cA c):aP P w K mg base bU 8 Gy yr ["many","ties","cell"] (cc P w true Dq):=by
 have l9:aP P w K mg base bU 2 _ _ _ (cc P w true cW):=fB b4 oj;have Yi:aP P w K mg base bU 4 _ _ _ (cc P w false Dp):=JF HW ED b4 oj B;have OT:aP P w K mg base bU 7 _ _ _ (cc P w false rH):=B5 sj DJ yI oM dE dO dF dS dX B bV ZA;have Uk:aP P w K mg base bU 1 _ _ _ (cc P w true nZ):=JP yG B.toBs3;have Uj:aP P w K mg base bU 1 _ _ _ (cc P w true nV):=xW yB;have Um:aP P w K mg base bU 1 _ _ _ (cc P w true wF):=Cc Ay;refine ly L9.F aS (λds R h=>by obtain⟨m,ts,c,e,_⟩:=h;subst e;rfl) λbR A outer s H E hr=>⟨_,(ai (aW (i:=3) (bx aK du B.list jR (aa (af (i:=1)) ag)) aS.nd)
    (ai (a6 (l8.t (c8 (aw ah (bf.m (bD hr.units)) (ax rH.mono OT (hr.mono (by decide)) sj.m sj.F.kp sj.b (aa (aN ah (bf.m rg) (Hm xj aj) (af (i:=0))) (aa (af (i:=3)) ag))) (ax nZ.mono Uk (hr.mono (by decide)) yG.m yG.F.kp yG.b (aa aQ ag))) (dR (aw ah (bf.m (bD hr.units)) (af (i:=3)) (af (i:=1)))))) (ak (aL iC)) aH)
    (ai (aW (i:=4) (ax Dp.mono Yi (hr.mono (by decide)) HW.m HW.F.kp HW.b (aa (af (i:=0)) (aa (af (i:=1)) (aa (af (i:=2)) ag)))) aS.nd)
    (ai (aW (i:=3) (bx aK du B.list jR (aa (af (i:=4)) ag)) aS.nd)
    (ai (a6 (l8.t (c8 (aw ah (bf.m (bD hr.units)) (ax rH.mono OT (hr.mono (by decide)) sj.m sj.F.kp sj.b (aa (af (i:=0)) (aa (af (i:=3)) ag))) (ax nZ.mono Uk (hr.mono (by decide)) yG.m yG.F.kp yG.b (aa aQ ag))) (dR (aw ah (bf.m (bD hr.units)) (af (i:=3)) (af (i:=4)))))) (ak (aL iC)) aH)
    (ai (a6 (aw ah (bf.m bw) (af (i:=0)) aj) (ak (aL iC)) aH)
    (ai (aW (i:=5) (ax cW.mono l9 (hr.mono (by decide)) b4.m b4.F.kp b4.b (aa (af (i:=2)) (aa aj (aa (af (i:=0)) ag)))) aS.nd)
    (ai (aW (i:=6) (ax cW.mono l9 (hr.mono (by decide)) b4.m b4.F.kp b4.b (aa (af (i:=2)) (aa aj (aa (af (i:=0)) ag)))) aS.nd)
    (ai (aW (i:=7) (aV (aa (aM ah (a_.m (eU rfl)) B.min oA (aa (af (i:=5)) (aa (af (i:=6)) ag))) (aa (aM ah (a_.m (f_ rfl)) B.max rT (aa (af (i:=5)) (aa (af (i:=6)) ag))) ag))) aS.nd)
    (ai (aW (i:=8) (ax nZ.mono Uk (hr.mono (by decide)) yG.m yG.F.kp yG.b (aa aQ ag)) aS.nd)
    (lY (a6 (l8.t (fS (aw ah (bf.m (bD hr.units)) (af (i:=5)) (af (i:=6))) (eD (fT (cS (aM ah (a_.m (d3 rfl)) B.any kW (aa (zM false ["one","more"] [none,some 7] (by rfl) (by decide:(["one","more"]:List Str).Nodup) rfl (bq (af (i:=1))) (λ_ _ _ _ _ _=>(au (i:=0) (by decide:(["one","more"]:List Str).Nodup))) (λ_ _ _ _ _ _=>cO) (λ_ _ _ _ _ _=>(ax nV.mono Uj (hr.mono (by decide)) yB.m yB.F.kp yB.b (aa (af (i:=1)) (aa (af (i:=0)) ag))))) ag))))))) (ak (aW (i:=8) (ax wF.mono Um (hr.mono (by decide)) Ay.m Ay.F.kp Ay.b (aa (af (i:=0)) (aa (aN aK aG (af (i:=1)) (a7 (aa (af (i:=7)) ag))) ag))) aS.nd)) aH)
    (ak (aL (gF ah (bf.m (cI hr.units)) (ax rH.mono OT (hr.mono (by decide)) sj.m sj.F.kp sj.b (aa (af (i:=0)) (aa (aM aK cm B.sorted bK (aa (aN aK aG (af (i:=1)) (a7 (aa (af (i:=7)) ag))) ag)) ag))) (af (i:=8)))))))))))))))),λds R h=>?_⟩
 obtain⟨n,ts,c,rfl,hn,ht,hg,hl,q⟩:=h;have pt:Pairs ts:=λt h=>(ht t h).pair;have m0:oK (K7 0) (.lst ((wK "NoRow").map D.bl))=some (.bl false):=by rw[TZ];exact fG (mG _)
 have m5:oK (K7 5) (.lst ((wK "NoSet").map D.bl))=some (.bl false):=by rw[Oq];exact fG (mG _)
 have hh:∀us:List (List Int),oK (.lst (us.map kD)) (.lst (us.map kD))=some (.bl false):=λus=>by rw[jM,decide_eq_true rfl];rfl
 have s0:(D.str "NoRow").iB=true:=by decide +kernel
 have s5:(D.str "NoSet").iB=true:=by decide +kernel
 refine⟨_,rfl,trivial,_,rfl,.inl ⟨aI _,?_⟩⟩;refine⟨_,rfl,rfl,trivial,_,rfl,_,rfl,trivial,_,rfl,trivial,-1-(n:Int),ts,rfl,by lia,by lia,pt,λ_=>?_,λz=>absurd z (by lia),λk e=>by lia⟩
 refine⟨trivial,trivial,_,rfl,s0,_,m0,_,rfl,dI rfl ⟨_,rfl,trivial,_,rfl,_,hh ts,_,rfl,dI rfl ?_⟩⟩;refine⟨_,rfl,trivial,_,rfl,trivial,_,rfl,trivial,n,ts,c,rfl,hn,ht,hg,hl,λus pu lu ns=>?_⟩;refine⟨_,rfl,trivial,_,rfl,.inl ⟨aI _,?_⟩⟩;refine⟨_,rfl,trivial,_,rfl,trivial,(n:Int),us,rfl,by lia,by lia,pu,λz=>by lia,λ_ _=>⟨trivial,trivial,_,rfl,s5,_,m5,_,rfl,dI rfl ⟨_,rfl,trivial,_,rfl,_,hh us,_,rfl,dI rfl ?_⟩⟩,λk e t g=>absurd ⟨t,g⟩ ns⟩
 refine⟨_,rfl,trivial,_,rfl,_,rfl,i4 (λ_=>⟨trivial,q⟩) λh2=>?_⟩;refine⟨_,rfl,trivial,trivial,_,rfl,trivial,c,212,n,rfl,by decide,by decide,by lia,λa a0 a1=>?_⟩
 refine⟨_,rfl,trivial,trivial,_,rfl,trivial,c,213,n,rfl,by decide,by decide,by lia,λb b0 b1=>?_⟩
 obtain⟨mn,mx,e1,e2,hc⟩:∃mn mx:Int,H_ [.int a,.int b]=some (.int mn)/\Ia [.int a,.int b]=some (.int mx)/\((a=b/\mx=mn)\/(a≠b/\0<=mn/\mn<mx/\mx<n)) :=
  ⟨_,_,rfl,rfl,by split <;> split <;> lia⟩
 refine⟨_,rfl,trivial,_,rfl,trivial,_,e1,trivial,_,rfl,trivial,_,rfl,trivial,_,e2,trivial,eX,?_⟩;refine⟨trivial,_,rfl,s5,?_⟩;rw[Oq];have M:Pairs (ts++[[mn,mx]]):=ij pt λt z=>by rw[Y1.mp z];exact⟨mn,mx,rfl⟩
 have ml:(ts++[[mn,mx]]).length<=51:=by rw[Zl];show _+1<=_;lia
 have ad:ph (.lst (ts.map kD)) (.lst [kD [mn,mx]])=some (.lst ((ts++[[mn,mx]]).map kD)):=c_ (vs:=[[mn,mx]]) (by show _+1<=_;lia)
 refine⟨λβ=>∃x:D,β=[some (.val false (.int (n:Int))),some (.val false (.lst (ts.map kD))),some (.val false (.int c)),some (.val true (.lst (us.map kD))),some (.val true (.lst (us.map kD))),some (.val true (.int a)),some (.val true (.int b)),some (.val true (kD [mn,mx])),some (.val true x)]/\((x=K7 5/\iH n (cM (ts++[[mn,mx]])))\/(x=.str (a5 (gX (cM (ts++[[mn,mx]])).reverse n))/\b5 n (cM (ts++[[mn,mx]]))/\Good (cM (ts++[[mn,mx]])) (cM (ts++[[mn,mx]])))),?_,λβ h=>?_⟩
 ·refine⟨_,rfl,trivial,_,rfl,_,yA a b,_,rfl,LW (λne=>?_) λeq=>?_⟩
  ·obtain⟨_,U4,mlt,U0⟩:=hc.resolve_left λz=>ne z.1;refine⟨_,rfl,_,rfl,trivial,eK (l:=ts) (f:=kD) (λ_=>true) (λu=>.bl (fE [mn,mx] u)) trivial (gg (by lia)) (λu hu y0 o J ho j1 _=>?_) ?_⟩
   ·obtain⟨c',d',rfl⟩:=pt u hu;exact⟨_,rfl,trivial,_,rfl,trivial,mn,mx,c',d',rfl,trivial,ho,j1 rfl _⟩
   refine⟨trivial,_,Ec _ ts,_,rfl,?_⟩;cases hx:ts.any λu=>fE [mn,mx] u with
   |true=>exact dI rfl ⟨_,rfl,.inl ⟨rfl,Ck ht mlt hx⟩⟩
   |false =>
    obtain⟨t1,t2,g⟩:=tw ht hg U4 mlt U0 hx;exact nK rfl ⟨_,rfl,trivial,_,rfl,trivial,_,rfl,trivial,vJ,.inl ⟨⟨rfl,trivial⟩,_,ad,.inl ⟨aI _,trivial,n,_,rfl,by lia,t1,_,rfl,.inr ⟨by rw[Je ht hg U4 mlt U0 hx],t2,g⟩⟩⟩⟩
  ·obtain⟨_,rfl⟩:=hc.resolve_right λz=>z.1 eq;exact dI rfl ⟨_,rfl,.inl ⟨rfl,JS⟩⟩
 ·obtain⟨x,rfl,hx⟩:=h;have sl:(cM (ts++[[mn,mx]])).length<=600:=by rw[(aX _).length_eq];lia
  refine⟨_,rfl,trivial,_,rfl,trivial,_,rfl,trivial,vJ,.inl ⟨⟨rfl,trivial⟩,_,ad,.inl ⟨aI _,trivial,_,cY (jq M) (by lia),.inl ⟨aI _,trivial,(n:Int),_,rfl,by lia,sl,gW M,λz=>by lia,λ_ nz=>?_,λk e t g=>?_⟩⟩⟩⟩
  ·rcases hx with⟨rfl,_⟩|⟨_,t,g⟩
   ·exact⟨trivial,_,rfl,_,uV (mG _),trivial,q⟩
   ·exact absurd ⟨t,g⟩ nz
  ·obtain rfl:n=k:=by lia
   rcases hx with⟨_,nz⟩|⟨rfl,_⟩
   ·exact absurd ⟨t,g⟩ nz
   ·exact⟨trivial,_,rfl,_,uV (j5 _ sU),trivial,q⟩
end
section
variable {P:Y0}{w:Zd}{K:PySem.W.Frag}{mg:Str->Option YU}{base:Heap}
theorem j_:aO ["many","ties","a","b"] ["many","ties"] (ar jm):=mkS
theorem zD {z7 qm} (HY:Ur K mg z7 qm) (B:Bs mg):aP P w K mg base bU 1 z7 qm ["many","ties"] (cc P w true nU):=by
 refine ly HY.F j_ (λds R KG=> by obtain⟨n,gs,e,_⟩ := KG;subst e;rfl) λbR A outer s H E hr=>⟨_,(ai (a6 (aw ah (bf.m bw) (af (i:=0)) aj) cg aH)
    (ai (ft aap rfl (bq (af (i:=1))) (bL (n:=2) rfl (az (au (i:=2) j_.nd) (az (au (i:=3) j_.nd) bj))) (ak (a6 (fT (pL aj (bI mZ (aM ah (a_.m (eU rfl)) B.min oA (aa (af (i:=2)) (aa (af (i:=3)) ag))) (bI bw (aM ah (a_.m (f_ rfl)) B.max rT (aa (af (i:=2)) (aa (af (i:=3)) ag))) (fe bw (af (i:=0))))))) cg aH)))
    (ak (aL (aV (aa (af (i:=0)) (aa (aM aK (dW rfl) B.sorted bK (aa (Wh hr.lW ["a","b"] [none,none] (by rfl) (by decide:(["a","b"]:List Str).Nodup) rfl (bq (af (i:=1))) (λ_ _ _ _ _ _=>(bL (n:=2) rfl (az (au (i:=0) (by decide:(["a","b"]:List Str).Nodup)) (az (au (i:=1) (by decide:(["a","b"]:List Str).Nodup)) bj)))) (λ_ _ _ _ _ _=>cO) (λ_ _ _ _ _ _=>(aV (aa (aM ah (a_.m (eU rfl)) B.min oA (aa (af (i:=0)) (aa (af (i:=1)) ag))) (aa (aM ah (a_.m (f_ rfl)) B.max rT (aa (af (i:=0)) (aa (af (i:=1)) ag))) ag))))) ag)) ag))))))),λds R h=>?_⟩
 obtain⟨n,gs,rfl,n0,gl,hg,q⟩:=h;refine⟨_,rfl,trivial,_,rfl,_,rfl,dI (decide_eq_false (by lia)) ?_⟩
 refine⟨_,rfl,_,rfl,trivial,?_⟩;refine⟨λi β=>∃x2 x3,β=[some (.val false (.int n)),some (.val false (.lst (gs.map kD))),x2,x3],⟨_,_,rfl⟩,?_,?_⟩
 ·rintro i d β hd ⟨x2,x3,rfl⟩;rw[Zj]at hd;obtain⟨g,eg,rfl⟩:=Zn.mp hd;obtain⟨a,b,rfl,a',b',e1,t0,t1,t2⟩:=hg g (Zz eg);have X4:[if b<a then b else a,if a<b then b else a]=[a',b']:=e1
  injection X4 with m1 e2
  injection e2 with m2 _
  subst m1 m2;exact⟨_,rfl,rfl,_,_,rfl,_,_,rfl,rfl,_,rfl,trivial,_,rfl,trivial,_,rfl,_,rfl,nK (decide_eq_true t0) ⟨_,rfl,trivial,_,rfl,trivial,_,rfl,_,rfl,nK (decide_eq_true t1) ⟨_,rfl,_,rfl,_,rfl,dI (by show (!decide _)=false;rw[abu];exact decide_eq_true t2) ⟨_,_,rfl⟩⟩⟩⟩
 ·rintro β ⟨x2,x3,rfl⟩;refine⟨_,rfl,trivial,_,rfl,_,rfl,trivial,?_⟩;refine⟨λi β o=>(∃x0 x1,β=[x0,x1])/\i<=gs.length/\o=(gs.take i).map FQ,⟨⟨_,_,rfl⟩,Zm _,rfl⟩,?_,?_⟩
  ·rintro i d β o hd ⟨⟨x0,x1,rfl⟩,hi,rfl⟩;rw[Zj]at hd;obtain⟨g,eg,rfl⟩:=Zn.mp hd;obtain⟨a,b,rfl,_⟩:=hg g (Zz eg);have ic:i<gs.length:=(Y_.mp eg).1;refine⟨_,rfl,rfl,_,_,rfl,_,_,rfl,rfl,_,rfl,trivial,_,rfl,trivial,_,rfl,trivial,_,rfl,trivial,_,rfl,trivial,_,rfl,trivial,eX,FQ [a,b],rfl,by rw[YX,ZH];lia,⟨_,_,rfl⟩,ic,?_⟩
   rw[abD,eg,aar];rfl
  ·rintro β o ⟨⟨x0,x1,rfl⟩,_,rfl⟩;rw[YX,abM];have vt:∀k∈gs.map FQ,k≠[]:=λk hk=>by
    obtain⟨g,Xw,rfl⟩:=ZE.mp hk;obtain⟨a,b,rfl,ht⟩:=hg g Xw;exact ht.ne
   exact⟨trivial,trivial,_,fM vt (by rw[YX];exact gl),.inl ⟨aI _,trivial,eX,trivial,q⟩⟩
end
section
variable {P:Y0}{w:Zd}{K:PySem.W.Frag}{mg:Str->Option YU}{base:Heap}{c:Nat->Addr}{tF:Tok}
theorem qU:aO ["text","longest"] ["text","longest"] (ar e_):=mkS
theorem B8 {uG lC} (uR:PV K mg uG lC) (EC:mg "FIGURES" = some (.str "0123456789" tF)) (B:yT mg):aP P w K mg base bU 1 uG lC ["text","longest"] (cc P w true uN):=by
 refine ly uR.F qU (λds R h=>by obtain⟨cs,l,e,_⟩:=h;subst e;rfl) λbR A outer s H E hr=>⟨_,(ai (a6 (l8.t (c8 (fT (pL aj (bI mZ (aM ah (a_.m oz) B.len gb (aa (af (i:=0)) ag)) (fe mZ (af (i:=1)))))) (dR (cS (aM ah (a_.m (d3 rfl)) B.any kW (aa (zM false ["sign"] [none] (by rfl) (by decide:(["sign"]:List Str).Nodup) rfl (Fh (af (i:=0))) (λ_ _ _ _ _ _=>(au (i:=0) (by decide:(["sign"]:List Str).Nodup))) (λ_ _ _ _ _ _=>cO) (λ_ _ _ _ _ _=>(gF ah (bf.m tT) (af (i:=0)) (BB EC)))) ag)))))) (ak (aL cH)) aH)
    (ai (a6 (l8.t (fS (aw ah (bf.m (cI hr.units)) (bc ah F6 (af (i:=0)) aj) aQ) (eD (aw ah (bf.m (bD hr.units)) (af (i:=0)) aQ)))) (ak (aL cH)) aH)
    (ak (aL (bx ah (a_.m w6) B.int Lx (aa (af (i:=0)) ag)))))),λds R h=>?_⟩
 obtain⟨cs,l,rfl,asc,hl,h6,q⟩:=h;refine DR (a:=1) (b:=(cs.length:Int)) (c:=(l:Int)) (λR r=>r) (λR r=>⟨_,rfl,trivial,_,uU (by lia),r⟩) (λR r=>⟨_,rfl,r⟩) ⟨_,rfl,?_⟩
 by_cases h0:1<=cs.length/\cs.length<=l
 ·rw[show (decide ((1:Int)<=(cs.length:Int))&&decide ((cs.length:Int)<=(l:Int)))=true by rw[decide_eq_true (by lia),decide_eq_true (by lia)];rfl]
  refine dI rfl ?_;refine⟨_,rfl,_,rfl,uh asc,trivial,?_⟩;rw[Bd];refine eK (l:=cs) (f:=λc=>D.str (bM c)) (λ_=>true) (λc=>.bl (!oZ c)) trivial (by rw[Zw];lia) (λc hc z0 o J ho j1 _=>⟨_,rfl,trivial,_,K8 c,trivial,ho,j1 rfl _⟩) ?_
  refine⟨trivial,_,LC cs,_,rfl,?_⟩;cases ha:cs.any λc=>!oZ c with
  |true =>
   refine nK rfl ⟨trivial,?_⟩
   rwa [lM,if_pos (.inr (.inr ha))]at q
  |false =>
   obtain⟨c,cs,rfl⟩:∃c r,cs=c::r:=by cases cs with|nil=>exact absurd h0.1 (by decide)|cons c r=>exact⟨c,r,rfl⟩
   have hc:=asc c Y8;rw[lM,if_neg (λz=>by rcases z with z|z|z;exact absurd z (by simp);lia;rw[ha]at z;cases z)]at q
   have eI:=CL c cs (by lia)
   have e0:yF (.str (bM c)) (.str "0")=some (.bl (decide (c=48))):=by rw[T7];exact wR hc (by decide)
   have e1:oK (.str (a5 (c::cs))) (.str "0")=some (.bl (!decide (a5 (c::cs)="0"))):=rO _ _ (j8 asc) (by decide +kernel)
   have fin:(¬ ((c::cs).head?=some 48/\c::cs≠[48]))->R (.int (NumText.digitsVal (c::cs):Nat)):=λz=>by rw[if_neg z]at q;exact q
   have eT:=GN ha (List.cons_ne_nil _ _) (by lia)
   refine dI rfl ?_;refine⟨_,rfl,trivial,_,eI,trivial,_,e0,_,rfl,i4 (λz=>?_) λz=>dI rfl ?_⟩
   ·subst z
    by_cases z2:48::cs=[48]
    ·have eb:decide (a5 (48::cs)=("0" : Str))=true:=decide_eq_true (Ml.mpr z2);rw[eb]at e1;exact⟨_,rfl,trivial,_,e1,_,rfl,dI rfl ⟨_,rfl,trivial,_,eT,trivial,fin λy=>y.2 z2⟩⟩
    ·have eb:decide (a5 (48::cs)=("0" : Str))=false:=decide_eq_false λy=>z2 (Ml.mp y);rw[eb]at e1;rw[if_pos ⟨rfl,z2⟩]at q;exact⟨_,rfl,trivial,_,e1,_,rfl,nK rfl ⟨trivial,q⟩⟩
   ·exact⟨_,rfl,trivial,_,eT,trivial,fin λy=>z (Zt y.1)⟩
 ·rw[show (decide ((1:Int)<=(cs.length:Int))&&decide ((cs.length:Int)<=(l:Int)))=false by rw[Bool.and_eq_false_iff];by_cases z:1<=cs.length;exact .inr (decide_eq_false (by lia));exact .inl (decide_eq_false (by lia))]
  refine nK rfl (nK rfl ⟨trivial,?_⟩)
  rwa [lM,if_pos (by lia)]at q
end
section
variable {P:Y0}{w:Zd}{K:PySem.W.Frag}{mg:Str->Option YU}{base:Heap}{c:Nat->Addr}{tF tP:Tok}
theorem c5:aO ["text","ahead","dash","behind","a","b"] ["text"] (ar gY):=mkS
theorem FJ {z8 qo} (HZ:Uq K mg z8 qo) {uG lC} (uR:PV K mg uG lC) (EC:mg "FIGURES" = some (.str "0123456789" tF)) (Gr:mg "POINT_FIGURES" = some (.int 3 tP)) (B:yT mg):aP P w K mg base bU 2 z8 qo ["text"] (cc P w true Ds):=by
 have PN:aP P w K mg base bU 1 _ _ _ (cc P w true uN):=B8 uR EC B;refine ly HZ.F c5 (λds R h=>by obtain⟨cs,e,_⟩:=h;subst e;rfl) λbR A outer s H E hr=>⟨_,(ai (ki (tD ah x9 PySem.F.slot_str_partition PySem.F.type_str_partition (af (i:=0)) (aa aQ ag)) (bL (n:=3) rfl (az (au (i:=1) c5.nd) (az (au (i:=2) c5.nd) (az (au (i:=3) c5.nd) bj)))))
    (ai (aW (i:=4) (ax uN.mono PN (hr.mono (by decide)) uR.m uR.F.kp uR.b (aa (af (i:=1)) (aa (mS Gr) ag))) c5.nd)
    (ai (aW (i:=5) (ax uN.mono PN (hr.mono (by decide)) uR.m uR.F.kp uR.b (aa (af (i:=3)) (aa (mS Gr) ag))) c5.nd)
    (ak (aL (Ho (l8.t (c8 (aw ah (bf.m ju) (af (i:=4)) cH) (dR (aw ah (bf.m ju) (af (i:=5)) cH)))) cH (aV (aa (af (i:=4)) (aa (af (i:=5)) ag))))))))),λds R h=>?_⟩
 obtain⟨cs,rfl,asc,hl,q⟩:=h;have eP:yz (.str (a5 cs)) [.str "-"]=some (.tup [.str (a5 (bo 45 cs).1),.str (a5 (bo 45 cs).2.1),.str (a5 (bo 45 cs).2.2)]):=by
  rw[show ("-" : Str)=bM 45 by decide +kernel]
  show (if (bM 45).length=1/\(a5 cs).length<=Zf then some (D.tup [.str (Z_ (a5 cs) (bM 45)).1,.str (Z_ (a5 cs) (bM 45)).2.1,.str (Z_ (a5 cs) (bM 45)).2.2]) else none)=_
  rw[if_pos ⟨rfl,by rw[Zw];show cs.length<=_;lia⟩,xU]
 have aA:∀c∈(bo 45 cs).1,c<128:=λc h=>asc c (hV (.inl h));have aB:∀c∈(bo 45 cs).2.2,c<128:=λc h=>asc c (hV (.inr h));obtain⟨lA,lB⟩:=@pO 45 cs;unfold xV at q;generalize (bo 45 cs).1=A at *
 generalize (bo 45 cs).2.1=M at *
 generalize (bo 45 cs).2.2=Bv at *
 refine⟨_,rfl,trivial,⟨_,rfl⟩,trivial,_,eP,_,rfl,rfl,_,_,rfl,_,_,rfl,_,_,rfl,rfl,?_⟩;refine⟨_,rfl,trivial,trivial,A,3,rfl,aA,by lia,by lia,?_⟩
 refine⟨_,rfl,trivial,trivial,Bv,3,rfl,aB,by lia,by lia,?_⟩
 cases hA:lM A 3 with
 |none =>
  rw[hA]at q;cases lM Bv 3 <;> exact⟨_,rfl,trivial,_,rfl,_,rfl,nK rfl ⟨trivial,q⟩⟩
 |some a =>
  rw[hA]at q;cases hB:lM Bv 3 with
  |none =>
   rw[hB]at q;exact⟨_,rfl,trivial,_,rfl,_,rfl,dI rfl ⟨_,rfl,trivial,_,rfl,_,rfl,nK rfl ⟨trivial,q⟩⟩⟩
  |some b =>
   rw[hB]at q;refine⟨_,rfl,trivial,_,rfl,_,rfl,dI rfl ⟨_,rfl,trivial,_,rfl,_,rfl,dI rfl ?_⟩⟩;exact⟨_,rfl,trivial,_,rfl,trivial,eX,trivial,q⟩
end
section
variable {P:Y0}{w:Zd}{K:PySem.W.Frag}{mg:Str->Option YU}{base:Heap}{c:Nat->Addr}{tF tP:Tok}
theorem b7:aO ["text","head","colon","tail","many","ahead","ties","pairs"] ["text"] (ar fO):=mkS
theorem JJ {GA yu} (GG:VP K mg GA yu) {z8 qo} (HZ:Uq K mg z8 qo) {uG lC} (uR:PV K mg uG lC) {z7 qm} (HY:Ur K mg z7 qm) (EC:mg "FIGURES" = some (.str "0123456789" tF)) (Gr:mg "POINT_FIGURES" = some (.int 3 tP)) (B:yT mg):aP P w K mg base bU 3 GA yu ["text"] (cc P w true Ab):=by
 have PN:aP P w K mg base bU 1 _ _ _ (cc P w true uN):=B8 uR EC B;have Yo:aP P w K mg base bU 2 _ _ _ (cc P w true Ds):=FJ HZ uR EC Gr B;have Ym:aP P w K mg base bU 1 _ _ _ (cc P w true nU):=zD HY B.toBs;refine ly GG.F b7 (λds R h=>by obtain⟨n,ts,e,_⟩:=h;subst e;rfl) λbR A outer s H E hr=>⟨_,(ai (ki (tD ah x9 PySem.F.slot_str_partition PySem.F.type_str_partition (af (i:=0)) (aa aQ ag)) (bL (n:=3) rfl (az (au (i:=1) b7.nd) (az (au (i:=2) b7.nd) (az (au (i:=3) b7.nd) bj)))))
    (ai (aW (i:=4) (ax uN.mono PN (hr.mono (by decide)) uR.m uR.F.kp uR.b (aa (af (i:=1)) (aa (mS Gr) ag))) b7.nd)
    (ai (Ft (i:=5) (j:=7) (λ_=>(tD aK Cq PySem.F.slot_str_split PySem.F.type_str_split (af (i:=3)) (aa aQ ag))) rfl b7.nd)
    (Fq 7 (ai (IY (i:=6) false ["pair"] [none] (by rfl) (by decide:(["pair"]:List Str).Nodup) rfl (λ_=>(bq (af (i:=7)))) (λ_ _ _ _ _ _=>(au (i:=0) (by decide:(["pair"]:List Str).Nodup))) (λ_ _ _ _ _ _=>cO) (λ_ _ _ _ _ _=>(ax Ds.mono Yo (hr.mono (by decide)) HZ.m HZ.F.kp HZ.b (aa (af (i:=0)) ag))) b7.nd)
    (ai (a6 (l8.t (c8 (aw ah (bf.m ju) (af (i:=4)) cH) (c8 (aw ah (bf.m (cI hr.units)) (af (i:=2)) aQ) (c8 (aw ah (bf.m (bD hr.units)) (af (i:=5)) aQ) (dR (aw ah (bf.m (m7 hr.fK)) cH (af (i:=6)))))))) cg aH)
    (ai (a6 (l8.t (c8 (cS (aM ah (a_.m (d3 rfl)) B.any kW (aa (zM false ["a","b"] [none,none] (by rfl) (by decide:(["a","b"]:List Str).Nodup) rfl (bq (af (i:=6))) (λ_ _ _ _ _ _=>(bL (n:=2) rfl (az (au (i:=0) (by decide:(["a","b"]:List Str).Nodup)) (az (au (i:=1) (by decide:(["a","b"]:List Str).Nodup)) bj)))) (λ_ _ _ _ _ _=>cO) (λ_ _ _ _ _ _=>(gF ah (bf.m km) (af (i:=0)) (af (i:=1))))) ag))) (dR (aw ah (bf.m (bD hr.units)) (af (i:=6)) (aM aK (dW rfl) B.sorted bK (aa (bx ah (a_.m (kU rfl hr.lW)) B.set w_ (aa (af (i:=6)) ag)) ag)))))) cg aH)
    (ak (aL (ax nU.mono Ym (hr.mono (by decide)) HY.m HY.F.kp HY.b (aa (af (i:=4)) (aa (af (i:=6)) ag)))))))))))),λds R h=>?_⟩
 obtain⟨n,ts,rfl,hn,rw_,hl,q⟩:=h;obtain⟨ht,Qm,nd⟩:=rw_;have sm:=jV.of ht (by lia)
 have hlen:=Ja n ts;have XU:=wC ts;have eP:yz (.str (a5 (s9 n ts))) [.str ":"]=some (.tup [.str (a5 (dg n)),.str (a5 [58]),.str (a5 (yp ts))]):=by
  rw[Lo];show (if (bM 58).length=1/\(a5 (s9 n ts)).length<=Zf then some (D.tup [.str (Z_ (a5 (s9 n ts)) (bM 58)).1,.str (Z_ (a5 (s9 n ts)) (bM 58)).2.1,.str (Z_ (a5 (s9 n ts)) (bM 58)).2.2]) else none)=_
  rw[if_pos ⟨rfl,by rw[Zw];show (s9 n ts).length<=_;lia⟩,xU,BR (by lia)]
 refine⟨_,rfl,trivial,⟨_,rfl⟩,trivial,_,eP,_,rfl,rfl,_,_,rfl,_,_,rfl,_,_,rfl,rfl,?_⟩;refine⟨_,rfl,trivial,trivial,dg n,3,rfl,(λc h=>by have:=oh (by lia) h;lia),(by have:=rM n;lia),by lia,?_⟩
 rw[wL n (by lia)]
 have eS:wM (.str (a5 (yp ts))) [.str " "]=some (.lst (D.str (a5 [])::ts.map λt=>D.str (a5 (vq t)))):=by
  rw[Ls];show (if (bM 32).length=1/\(a5 (yp ts)).length<=1000000 then some (D.lst ((aaN (a5 (yp ts)) (bM 32)).map D.str)) else none)=_
  rw[if_pos ⟨rfl,by show (yp ts).length<=_;lia⟩,A5,A7 sm,ZM,Zx,ZM]
  rfl
 have fx:D.bP (D.str (a5 [])::ts.map λt=>D.str (a5 (vq t)))=true:=nO _;refine⟨_,rfl,trivial,⟨_,rfl⟩,trivial,_,eS,.inl ⟨fx,_,_,rfl,fx,by rw[YX];lia,?_⟩⟩
 refine⟨_,rfl,_,rfl,_,rfl,trivial,eK (l:=ts) (f:=λt=>D.str (a5 (vq t))) (λ_=>true) kD trivial (gg (by lia)) (λt Ge x0 o J ho j1 _=>?_) ?_⟩
 ·obtain⟨a,b,rfl,h1,h2⟩:=sm t Ge;refine⟨_,rfl,trivial,_,rfl,(λc h=>by have:=vY (by lia) h2 h;lia),(by have:=BQ [(a:Int),(b:Int)];lia),?_⟩
  rw[Fw (by lia) h2]
  exact⟨trivial,ho,j1 rfl _⟩
 rw[Z6.mpr λ_ _=>rfl];have e2:yF (.str (a5 [58])) (.str "")=some (.bl false):=by
  rw[Uv,rQ _ _ (j8 (by decide)) (j8 (by decide)),decide_eq_false (by decide +kernel)]
 have e5:oK (.str (a5 [])) (.str "")=some (.bl false):=by
  rw[Uv,rO _ _ (j8 (by decide)) (j8 (by decide)),decide_eq_true rfl]
  rfl
 refine⟨_,rfl,trivial,_,rfl,_,rfl,dI rfl ⟨_,rfl,trivial,_,e2,_,rfl,dI rfl ⟨_,rfl,trivial,_,e5,_,rfl,dI rfl ⟨trivial,_,rfl,_,GP ts,_,rfl,dI rfl ?_⟩⟩⟩⟩;refine⟨_,rfl,_,rfl,trivial,nk (l:=ts) (f:=kD) (λ_=>true) (λ_=>.bl false) trivial (gg (by lia)) (λt Ge x0 x1 o J ho j1 j2=>?_) ?_⟩
 ·obtain⟨a,b,rfl,a0,ab,bn⟩:=ht t Ge;refine⟨_,rfl,rfl,_,_,rfl,_,_,rfl,rfl,_,rfl,trivial,_,rfl,?_⟩;exact⟨.bl false,by show some (D.bl (decide (b<a)))=_;rw[decide_eq_false (show ¬ b<a by lia)],trivial,ho,j1 rfl _ _⟩
 have ea:uX [.lst ((ts.filter λ_=>true).map λ_=>D.bl false)]=some (.bl false):=by
  have h:=jO ((ts.filter λ_=>true).map λ_=>false);rw[ZM,show (((ts.filter λ_=>true).map λ_=>false).any id)=false by rw[List.any_map];exact aa6.mpr λ_ _=>abv]at h
  exact h
 refine⟨trivial,_,ea,_,rfl,dI rfl ?_⟩;have vt:∀k∈ts,k≠[]:=λk hk=>(ht k hk).ne;have es:cM (jW ts)=ts:=AZ Qm nd λ_=>Iff.rfl;refine⟨_,rfl,trivial,_,rfl,trivial,_,mJ vt (by lia),.inr ⟨trivial,_,fM vt (by lia),.inl ⟨aI _,_,jM _ _,_,rfl,dI (by rw[es,decide_eq_true rfl];rfl) ?_⟩⟩⟩
 refine⟨_,rfl,trivial,_,rfl,trivial,(n:Int),ts,rfl,by lia,by lia,ht.XO,?_⟩
 rw[FP ht,es];exact⟨trivial,q⟩
end
def uO:FD:=λds R=>∃cs:List Nat,ds=[.str (a5 cs)]/\(∀c∈cs,c<128)/\cs.length<=600/\R (D_ cs)
theorem uO.mono:cN uO:=λds R R' k ⟨cs,e,h1,h2,q⟩=>⟨cs,e,h1,h2,k _ q⟩
section
variable {P:Y0}{w:Zd}{K:PySem.W.Frag}{mg:Str->Option YU}{base:Heap}
theorem d8:aO ["text","waiting","arcs","at","sign"] ["text"] (ar g9):=mkS
theorem FL {Aa qr} (Ic:Up K mg Aa qr) (B:yT mg):aP P w K mg base bU 2 Aa qr ["text"] (cc P w true uO):=by
 refine ly Ic.F d8 (λds R Si=> by obtain⟨cs,e,_⟩ := Si;subst e;rfl) λbR A outer s H E hr=>⟨_,(ai (dh (i:=1) (λ_=>(a7 ag)) d8.nd)
    (ai (dh (i:=2) (λ_=>(a7 ag)) d8.nd)
    (ai (ft aap rfl (zu B.enumerate (aa (af (i:=0)) ag)) (bL (n:=2) rfl (az (au (i:=3) d8.nd) (az (au (i:=4) d8.nd) bj))) (ak (a6 (aw ah (bf.m (cI hr.units)) (af (i:=4)) aQ) (ak (fA (i:=1) (λ_=>(af (i:=3))))) (ak (a6 (l8.t (fS (aw ah (bf.m (cI hr.units)) (af (i:=4)) aQ) (eD (xG (af (i:=1)))))) (ak (fA (i:=2) (λ_=>(aV (aa (Jh (i:=1)) (aa (af (i:=3)) ag)))))) (ak (a6 (aw ah (bf.m (bD hr.units)) (af (i:=4)) aQ) (ak (aL cH)) aH)))))))
    (ak (aL (Ho (xG (af (i:=1))) cH (aM aK cm B.sorted bK (aa (af (i:=2)) ag)))))))),λds R h=>?_⟩
 obtain⟨cs,rfl,asc,hl,q⟩:=h;refine⟨Zm _,trivial,Zm _,trivial,_,rfl,trivial,_,rfl,uh asc,trivial,?_⟩;rw[Bd];refine zY (λi β=>∃(ws:List Int) (fs:List (List Int)) (x3 x4:Option Q.B),β=[some (.val false (.str (a5 cs))),some (.own (.lst (ws.map D.int))),some (.own (.lst (fs.map kD))),x3,x4]/\cn (cs.drop i) (i:Int) ws fs=cn cs 0 [] []/\ws.length<=i/\fs.length<=i/\i<=cs.length/\∀f∈fs,f≠[]) ⟨[],[],_,_,rfl,rfl,Zm _,Zm _,Zm _,λ_ z=>nomatch z⟩ (λE1 r1 i n1 d β hd hv=>?_) λβ hv=>?_
 ·obtain⟨ws,fs,x3,x4,rfl,h1,h2,h3,h4,h5⟩:=hv;obtain⟨b,hb,rfl⟩:=qv hd;rw[Zj]at hb;obtain⟨c,hc,rfl⟩:=Zn.mp hb;obtain⟨hi,ec⟩:=Y_.mp hc;have Gs:c<128:=asc c (Zz hc);rw[aai hi,ec,cn]at h1;refine⟨_,rfl,rfl,_,_,rfl,_,_,rfl,rfl,_,rfl,trivial,_,Lm Gs,_,rfl,i4 (λq1=>?_) λq1=>?_⟩
  ·rw[if_pos q1]at h1;refine⟨⟨_,rfl⟩,_,rfl,trivial,_,rfl,by rw[YX,Zw];omega,n1 _ ⟨ws++[(i:Int)],fs,_,_,by rw[A9];rfl,h1,by simp;omega,by omega,by omega,h5⟩⟩
  rw[if_neg q1]at h1;have rest:¬ (c=41/\ws≠[])->(¬ c=46->E1.rt .b_ [some (.val false (.str (a5 cs))),some (.own (.lst (ws.map D.int))),some (.own (.lst (fs.map kD))),some (.val true (.int i)),some (.val true (.str (bM c)))])/\(c=46->E1.nx [some (.val false (.str (a5 cs))),some (.own (.lst (ws.map D.int))),some (.own (.lst (fs.map kD))),some (.val true (.int i)),some (.val true (.str (bM c)))]):=λt=>by
   rw[if_neg t]at h1;refine⟨λq3=>?_,λq3=>?_⟩
   ·rw[if_pos q3]at h1;refine r1 _ _ ?_;show R .b_
    rwa [D_,<- h1]at q
   ·rw[if_neg (λz=>z q3)]at h1;exact n1 _ ⟨ws,fs,_,_,rfl,h1,by omega,by omega,by omega,h5⟩
  refine⟨_,rfl,trivial,_,Ll Gs,_,rfl,i4 (λq2=>?_) λq2=>?_⟩
  ·by_cases hw:ws=[]
   ·subst hw;refine⟨_,rfl,_,rfl,dI rfl ?_⟩;obtain⟨hA,hB⟩:=rest (λz=>z.2 rfl);exact⟨_,rfl,trivial,_,DC Gs,_,rfl,LW (λq3=>⟨trivial,hA q3⟩) λq3=>hB q3⟩
   ·rw[if_pos ⟨q2,hw⟩]at h1;obtain⟨qs,p,rfl⟩:∃qs p,ws=qs++[p]:=⟨ws.dropLast,ws.getLast hw,(abZ hw).symm⟩;rw[List.dropLast_concat,List.getLastD_concat]at h1;rw[Zl,aad]at h2;refine⟨_,rfl,_,rfl,nK (by simp) ?_⟩
    refine⟨⟨_,rfl⟩,qs.map D.int,.int p,by simp,trivial,_,rfl,trivial,eX,trivial,fs.map kD,rfl,by rw[YX,Zw];omega,n1 _ ⟨qs,fs++[[p,(i:Int)]],_,_,by rw[qO];rfl,h1,by omega,by simp;omega,by omega,λf hf=>?_⟩⟩
    rcases Zb.mp hf with z|z
    ·exact h5 f z
    ·rw[Y1.mp z];exact λz=>nomatch z
  ·obtain⟨hA,hB⟩:=rest (λz=>q2 z.1);exact dI rfl ⟨_,rfl,trivial,_,DC Gs,_,rfl,LW (λq3=>⟨trivial,hA q3⟩) λq3=>hB q3⟩
 ·obtain⟨ws,fs,x3,x4,rfl,h1,h2,h3,h4,h5⟩:=hv;rw[qu,YX]at h1 h3 h2;rw[List.drop_length,cn]at h1;unfold D_ at q;rw[<- h1]at q
  by_cases hw:ws=[]
  ·subst hw;refine⟨_,rfl,_,rfl,dI rfl ⟨_,rfl,trivial,_,cY h5 (by omega),.inl ⟨aI _,trivial,q⟩⟩⟩
  ·refine⟨_,rfl,_,rfl,nK (by cases ws <;> first|exact absurd rfl hw|rfl) ⟨trivial,?_⟩⟩
   show R .b_;have q:R (if ws=[] then .lst ((cM fs).map kD) else .b_):=q
   rwa [if_neg hw]at q
end
section
variable {P:Y0}{w:Zd}{K:PySem.W.Frag}{mg:Str->Option YU}{base:Heap}
theorem fv:aO ["text","ties"] ["text"] (ar cB):=mkS
theorem JK {GB yv} (GH:VO K mg GB yv) {Aa qr} (Ic:Up K mg Aa qr) (B:yT mg):aP P w K mg base bU 3 GB yv ["text"] (cc P w true Ad):=by
 have Ys:aP P w K mg base bU 2 _ _ _ (cc P w true uO):=FL Ic B;refine ly GH.F fv (λds R h=>by obtain⟨cs,e,_⟩:=h;subst e;rfl) λbR A outer s H E hr=>⟨_,(ai (dh (i:=1) (λ_=>(ax uO.mono Ys (hr.mono (by decide)) Ic.m Ic.F.kp Ic.b (aa (af (i:=0)) ag))) fv.nd)
    (ai (a6 (aw ah (bf.m ju) (af (i:=1)) cH) cg aH)
    (ak (Fu (i:=1) (aM ah (a_.m oz) B.len gb (aa (af (i:=0)) ag)))))),λds R h=>?_⟩
 obtain⟨cs,rfl,asc,hl,hn,q⟩:=h;refine⟨_,rfl,trivial,cs,rfl,asc,hl,?_⟩;obtain e|⟨fs,e,_⟩:=LB cs
 ·exact absurd e hn
 rw[e]at q ⊢
 refine⟨trivial,_,rfl,trivial,_,rfl,_,rfl,dI rfl ?_⟩;exact⟨_,rfl,trivial,_,uU (by lia),rfl,_,rfl,q⟩
end
section
variable {P:Y0}{w:Zd}{K:PySem.W.Frag}{mg:Str->Option YU}{base:Heap}
theorem oV:aO ["ties"] ["ties"] (ar dN):=mkS
theorem B6 {z5 qk} (HV:Uo K mg z5 qk):aP P w K mg base bU 1 z5 qk ["ties"] (cc P w true Dn):=by
 refine ly HV.F oV (λds R h=>by obtain⟨ts,e,_⟩:=h;subst e;rfl) λbR A outer s H E hr=>⟨_,(ak (aL (tD ah tZ PySem.F.slot_str_join PySem.F.type_str_join aQ (aa (zM false ["a","b"] [none,none] (by rfl) (by decide:(["a","b"]:List Str).Nodup) rfl (bq (af (i:=0))) (λ_ _ _ _ _ _=>(bL (n:=2) rfl (az (au (i:=0) (by decide:(["a","b"]:List Str).Nodup)) (az (au (i:=1) (by decide:(["a","b"]:List Str).Nodup)) bj)))) (λ_ _ _ _ _ _=>cO) (λ_ _ _ _ _ _=>(xK (eE aQ (eE (xJ (af (i:=0))) (eE aQ (eE (xJ (af (i:=1))) xH))))))) ag)))),λds R h=>?_⟩
 obtain⟨ts,rfl,sm,hl,q⟩:=h;refine⟨trivial,⟨_,rfl⟩,_,rfl,_,rfl,trivial,?_⟩;refine nk (l:=ts) (f:=kD) (λ_=>true) (λt=>.str (fL t)) trivial (by rw[Zw];lia) (λt ht x0 y0 o J ho j1 _=>?_) ⟨trivial,_,zP sm hl,trivial,q⟩
 obtain⟨a,b,rfl,a0,a1,b0,b1⟩:=sm t ht;have la:=jZ a0 a1;have lb:=jZ b0 b1;exact⟨_,rfl,rfl,_,_,rfl,_,_,rfl,rfl,_,rfl,by decide +kernel,_,rfl,_,oi (qP a0 a1),_,rfl,by lia,_,rfl,by decide +kernel,_,rfl,_,oi (qP b0 b1),_,rfl,by lia,trivial,ho,j1 rfl _ _⟩
end
section
variable {P:Y0}{w:Zd}{K:PySem.W.Frag}{mg:Str->Option YU}{base:Heap}
theorem gB:aO ["row","many","ties"] ["row"] (ar fN):=mkS
theorem FI {Gx yq} (L8:VN K mg Gx yq) {z5 qk} (HV:Uo K mg z5 qk):aP P w K mg base bU 2 Gx yq ["row"] (cc P w true Dr):=by
 have Yg:aP P w K mg base bU 1 _ _ _ (cc P w true Dn):=B6 HV;refine ly L8.F gB (λds R h=>by obtain⟨n,ts,e,_⟩:=h;subst e;rfl) λbR A outer s H E hr=>⟨_,(ai (ki (af (i:=0)) (bL (n:=2) rfl (az (au (i:=1) gB.nd) (az (au (i:=2) gB.nd) bj))))
    (ak (aL (xK (eE (xJ (af (i:=1))) (eE aQ (eE (xJ (ax Dn.mono Yg (hr.mono (by decide)) HV.m HV.F.kp HV.b (aa (af (i:=2)) ag))) xH))))))),λds R h=>?_⟩
 obtain⟨n,ts,rfl,n0,n1,sm,hl,q⟩:=h;have ln:=jZ n0 n1;refine⟨_,rfl,_,rfl,rfl,_,_,rfl,_,_,rfl,rfl,?_⟩;exact⟨_,rfl,_,oi (qP n0 n1),_,rfl,by lia,_,rfl,by decide +kernel,_,rfl,trivial,ts,rfl,sm,hl,_,Dy (pX sm hl),_,rfl,pX sm hl,trivial,q⟩
end
end oO
namespace L2.Q
open PySem
def m_:List (List Int):=(Zi 20).map λk:Nat=>[(k:Int),39-(k:Int)]
def mI:List (List Int):=(Zi 20).map λk:Nat=>[2*(k:Int),2*(k:Int)+1]
instance (t u:List Int):Decidable (Apart t u):=by unfold Apart;infer_instance
theorem x8:b5 40 m_/\Good m_ m_:=by
 refine⟨λt h=>?_,λt h=>h,by decide +kernel,by decide +kernel⟩
 obtain⟨k,hk,rfl⟩:=ZE.mp h;have:=ZJ.mp hk;exact⟨_,_,rfl,by lia,by lia,by lia⟩
theorem xt:b5 40 mI/\Good mI mI:=by
 refine⟨λt h=>?_,λt h=>h,by decide +kernel,by decide +kernel⟩
 obtain⟨k,hk,rfl⟩:=ZE.mp h;have:=ZJ.mp hk;exact⟨_,_,rfl,by lia,by lia,by lia⟩
theorem Cm:(((Zi 20).filter λ_=>true).map λk:Nat=>kD [0+(k:Int),39-(0+(k:Int))])=m_.map kD:=by
 rw[Z6.mpr λ_ _=>rfl];unfold m_;rw[ZM];refine Z5 λk _=>?_;rw[Int.zero_add];rfl
theorem Bb:(((Zi 20).filter λ_=>true).map λk:Nat=>kD [2*(0+(k:Int)),2*(0+(k:Int))+1])=mI.map kD:=by
 rw[Z6.mpr λ_ _=>rfl];unfold mI;rw[ZM];refine Z5 λk _=>?_;rw[Int.zero_add];rfl
theorem AR {w:Int}(h0:0<=w)(h2:w<2):∃us:List (List Int),yD (.lst [.lst (m_.map kD),.lst (mI.map kD)]) (.int w)=some (.lst (us.map kD))/\b5 40 us/\Good us us/\us.length<=20:=by
 rcases (by lia:w=0\/w=1)with rfl|rfl
 ·exact⟨m_,rfl,x8.1,x8.2,by decide⟩
 ·exact⟨mI,rfl,xt.1,xt.2,by decide⟩
theorem qL {n:Nat}(h:n<41):yy [.int (n:Int)]=some (.str (tS (n:Int))):=if_pos (qP (by lia) (by lia))
theorem rW {x y:Str}(h:x.length+y.length<=1000000):Ie (.str x) (.str y)=some (.str (x++y)):=by
 show (if x.length+y.length<=1000000 then some (D.str (x++y)) else none)=_
 rw[if_pos h]
theorem fu {n:Nat}(h:n<41):(tS (n:Int)).length<=10:=jZ (by lia) (by lia)
theorem CJ {n:Nat} {rows:List (List Int)} (hn:n<41) (h:jV rows) (hl:rows.length<=60):yC (.str " ") [.lst ([D.str (tS (n:Int)++(":" : Str))]++(rows.filter λ_=>true).map λt=>D.str (tS (t.getD 0 0)++("-" : Str)++tS (t.getD 1 0)))]=some (.str (a5 (s9 n rows))):=by
 rw[Z6.mpr λ_ _=>rfl,show ([D.str (tS (n:Int)++(":" : Str))]++rows.map λt=>D.str (tS (t.getD 0 0)++("-" : Str)++tS (t.getD 1 0)))=((tS (n:Int)++(":" : Str))::rows.map λt=>tS (t.getD 0 0)++("-" : Str)++tS (t.getD 1 0)).map D.str by rw[Zx,ZM];rfl]
 show (my (List.map D.str _)).bind _=_;rw[mw];have hs:∀{l:List (List Int)},jV l->((l.map λt=>tS (t.getD 0 0)++("-" : Str)++tS (t.getD 1 0)).map (·.length)).sum<=21*l.length:=λ{l} h=>by
  induction l with
  |nil=>exact YY _
  |cons t l ih =>
   have:=ih λu hu=>h u (Y7 _ hu);obtain⟨a,b,rfl,q0,q1⟩:=h t Y8;have h1:=fu (n:=a) (by lia)
   have h2:=fu (n:=b) (by lia)
   have h3:(tS (a:Int)++("-" : Str)++tS (b:Int)).length<=21:=by
    rw[aam,aam,show (("-" : Str)).length=1 by decide +kernel]
    lia
   rw[Zx,Zx,acr,Zc];show (tS (a:Int)++("-" : Str)++tS (b:Int)).length+_<=_;lia
 have h1:=hs h;have h2:=fu hn;have h3:(tS (n:Int)++(":" : Str)).length<=11:=by rw[aam,show ((":" : Str)).length=1 by decide +kernel];lia
 show (if oY " " ((tS (n:Int)++(":" : Str))::rows.map λt=>tS (t.getD 0 0)++("-" : Str)++tS (t.getD 1 0))<=1000000 then some (D.str (aat " " ((tS (n:Int)++(":" : Str))::rows.map λt=>tS (t.getD 0 0)++("-" : Str)++tS (t.getD 1 0)))) else none)=_
 rw[if_pos (by unfold oY;rw[Zx,acr,Zc,YX,show ((" " : Str)).length=1 by decide +kernel];lia),CI hn h]
theorem xw {us:List (List Int)}{n:Nat}:∀c∈gX us n,c<128:=λc h=>by
 obtain⟨k,_,rfl⟩:=ZE.mp h;have:=vQ (us:=us) (k:=((k:Nat):Int));lia
end L2.Q
namespace oO
open PySem L2 L2.Q
section
variable {P:Y0}{w:Zd}{K:PySem.W.Frag}{mg:Str->Option YU}{base:Heap}{cA:Addr}{c:Nat->Addr}{tF tP:Tok}
theorem c7:aO ["script","cell","row","ties","way","text","handed","told"] ["script"] (ar mL):=mkS
def A8 (K:PySem.W.Frag):Sp:=λvs H Q _=>∃(a:Addr) (ns:List Int),vs=[.ref a]/\dC K H a (ns.map V.int)/\ns.length<=63/\∀H',Q (.bl true) H'
def JL (β:Q.ba):Prop:=∃y0 y1 y2 y3 y4 y5 y6 y7:Option Q.B,β=[y0,y1,y2,y3,y4,y5,y6,y7]
theorem JO {f:Addr} {fd:ZF} (F:En K "law" "law" mL f fd) (B4:yT mg) (bV:mg "ValueError" = none) (ZA:XA K mg cA c) (EC:mg "FIGURES" = some (.str "0123456789" tF)) (Gr:mg "POINT_FIGURES" = some (.int 3 tP)) {TR Oi} (Pu:D4 K mg TR Oi) {Gz yt} (L_:VR K mg Gz yt) {jI fh} (b4:D1 K mg jI fh) {iu dJ} (oj:D0 K mg iu dJ) {uI lE} (yB:PX K mg uI lE) {z_ qq} (Ay:Us K mg z_ qq) {Gy yr} (L9:VQ K mg Gy yr) {z6 ql} (HW:D3 K mg z6 ql) {uH lD} (ED:D2 K mg uH lD) {zZ qj} (sj:Ut K mg zZ qj) {uJ lF} (DJ:PY K mg uJ lF) {z9 qp} (yG:Uu K mg z9 qp) {lR gN} (yI:OU K mg lR gN) {iw eQ} (oM:LN K mg iw eQ) {vx ir} (dE:D9 K mg vx ir) {si gn} (dO:D8 K mg si gn) {qt fF} (dF:D7 K mg qt fF) {oI eZ} (dS:D6 K mg oI eZ) {oH eY} (dX:D5 K mg oH eY) {Gx yq} (L8:VN K mg Gx yq) {z5 qk} (HV:Uo K mg z5 qk) {GA yu} (GG:VP K mg GA yu) {z8 qo} (HZ:Uq K mg z8 qo) {uG lC} (uR:PV K mg uG lC) {z7 qm} (HY:Ur K mg z7 qm) {GB yv} (GH:VO K mg GB yv) {Aa qr} (Ic:Up K mg Aa qr):aP P w K mg base bU 9 f fd ["script"] (A8 K):=by
 have B:=B4.toBs2;have Yn:aP P w K mg base bU 3 _ _ _ (cc P w true uM):=JI Pu b4 oj B.toBs;have Yl:aP P w K mg base bU 3 _ _ _ (cc P w true uL):=JH L_ yB b4 oj B4;have l9:aP P w K mg base bU 2 _ _ _ (cc P w true cW):=fB b4 oj;have Um:aP P w K mg base bU 1 _ _ _ (cc P w true wF):=Cc Ay;have Yk:aP P w K mg base bU 8 _ _ _ (cc P w true Dq):=JG L9 HW ED b4 oj sj DJ yI oM dE dO dF dS dX yG yB Ay B4 bV ZA;have OT:aP P w K mg base bU 7 _ _ _ (cc P w false rH):=B5 sj DJ yI oM dE dO dF dS dX B4 bV ZA;have Yj:aP P w K mg base bU 2 _ _ _ (cc P w true Dr):=FI L8 HV;have VJ:aP P w K mg base bU 3 _ _ _ (cc P w true Ab):=JJ GG HZ uR HY EC Gr B4;have VL:aP P w K mg base bU 3 _ _ _ (cc P w true Ad):=JK GH Ic B4;refine F.ok c7 (λvs H Q E h=>?_) (λbR A outer s H vs Qk E hr h=>?_)
 ·obtain⟨a,ns,rfl,_⟩:=h;rfl
 ·obtain⟨a,ns,rfl,hS,hlen,k⟩:=h;have YL:∀b:Addr,¬ (λ_=>False) b:=λb z=>z;obtain⟨ψ,hb,hψ⟩:∃ψ,Q.vh (lS bU P w K mg base _ "law" (ar mL) f bR A outer s H E).Cg ⟨H,λ_=>False,true,λ_=>False⟩ (match (di mL)with | .For _ _ b _ _::_=>b|_=>[]) ψ /\
    ∀(c:Int) (x0 x2 x3 x4 x5 x6 x7:Option Q.B),ψ {nx:=JL,rt:=λd _=>d=.bl true,bk:=JL,ct:=JL} [x0,some (.val true (.int c)),x2,x3,x4,x5,x6,x7]:=by
   refine⟨_,(ai (aW (i:=2) (ax uM.mono Yn (hr.mono (by decide)) Pu.m Pu.F.kp Pu.b (aa (af (i:=1)) (aa aj (aa aj ag)))) c7.nd)
    (ai (aW (i:=3) (ax uL.mono Yl (hr.mono (by decide)) L_.m L_.F.kp L_.b (aa (af (i:=1)) (aa aj (aa (af (i:=2)) ag)))) c7.nd)
    (ai (aW (i:=4) (ax cW.mono l9 (hr.mono (by decide)) b4.m b4.F.kp b4.b (aa (af (i:=1)) (aa aj (aa aj ag)))) c7.nd)
    (lY (a6 (aw ah (bf.m bw) (af (i:=4)) aj) (ai (aW (i:=3) (bc ah bN (a7 (aa (zM false ["k"] [none] (by rfl) (by decide:(["k"]:List Str).Nodup) rfl (bC B.range (aa aj ag)) (λ_ _ _ _ _ _=>(au (i:=0) (by decide:(["k"]:List Str).Nodup))) (λ_ _ _ _ _ _=>cO) (λ_ _ _ _ _ _=>(aV (aa (af (i:=0)) (aa (aN ah (bf.m rg) aj (af (i:=0))) ag))))) (aa (zM false ["k"] [none] (by rfl) (by decide:(["k"]:List Str).Nodup) rfl (bC B.range (aa aj ag)) (λ_ _ _ _ _ _=>(au (i:=0) (by decide:(["k"]:List Str).Nodup))) (λ_ _ _ _ _ _=>cO) (λ_ _ _ _ _ _=>(aV (aa (aN ah (bf.m jt) aj (af (i:=0))) (aa (aN aK aG (aN ah (bf.m jt) aj (af (i:=0))) aj) ag))))) ag))) (af (i:=4))) c7.nd)
    (ak (aW (i:=2) (aV (aa aj (aa (aM aK (dW rfl) B.sorted bK (aa (bx ah (a_.m (kU rfl hr.lW)) B.set w_ (aa (aN aK aG (af (i:=3)) (zM false ["tie"] [none] (by rfl) (by decide:(["tie"]:List Str).Nodup) rfl (bq (bc ah bN (af (i:=2)) aj)) (λ_ _ _ _ _ _=>(au (i:=0) (by decide:(["tie"]:List Str).Nodup))) (λ_ _ _ _ _ _=>(vH (aw ah (bf.m bw) (bc ah bN (af (i:=0)) aj) aj))) (λ_ _ _ _ _ _=>(af (i:=0))))) ag)) ag)) ag))) c7.nd))) aH)
    (ai (aW (i:=5) (tD ah tZ PySem.F.slot_str_join PySem.F.type_str_join aQ (aa (aN aK aG (a7 (aa (aN ah (bf.m m8) (bx ah (a_.m i3) B.str w9 (aa (bc ah bN (af (i:=2)) aj) ag)) aQ) ag)) (zM false ["a","b"] [none,none] (by rfl) (by decide:(["a","b"]:List Str).Nodup) rfl (bq (bc ah bN (af (i:=2)) aj)) (λ_ _ _ _ _ _=>(bL (n:=2) rfl (az (au (i:=0) (by decide:(["a","b"]:List Str).Nodup)) (az (au (i:=1) (by decide:(["a","b"]:List Str).Nodup)) bj)))) (λ_ _ _ _ _ _=>cO) (λ_ _ _ _ _ _=>(aN ah (bf.m m8) (aN ah (bf.m m8) (bx ah (a_.m i3) B.str w9 (aa (af (i:=0)) ag)) aQ) (bx ah (a_.m i3) B.str w9 (aa (af (i:=1)) ag)))))) ag)) c7.nd)
    (ai (aW (i:=6) (aV (aa (bc ah bN (af (i:=2)) aj) (aa (bx aK du B.list jR (aa (bc ah bN (af (i:=2)) aj) ag)) ag))) c7.nd)
    (ai (dh (i:=7) (λ_=>(ax Ab.mono VJ (hr.mono (by decide)) GG.m GG.F.kp GG.b (aa (af (i:=5)) ag))) c7.nd)
    (ai (a6 (l8.t (c8 (aw ah (bf.m (bD hr.units)) (ax Dr.mono Yj (hr.mono (by decide)) L8.m L8.F.kp L8.b (aa (af (i:=6)) ag)) (af (i:=5))) (c8 (aw ah (bf.m (bD hr.units)) (af (i:=6)) (af (i:=2))) (dR (aw ah (bf.m (bD hr.units)) (af (i:=7)) (af (i:=2))))))) (ak (aL iC)) aH)
    (ai (lq (i:=7) false (λ_=>(aV (aa aj (aa aj ag)))) (λ_=>aj))
    (ai (a6 (aw ah (bf.m (bD hr.units)) (ax Ab.mono VJ (hr.mono (by decide)) GG.m GG.F.kp GG.b (aa (af (i:=5)) ag)) (af (i:=2))) (ak (aL iC)) aH)
    (ai (aW (i:=5) (ax wF.mono Um (hr.mono (by decide)) Ay.m Ay.F.kp Ay.b (aa (bc ah bN (af (i:=2)) aj) (aa (af (i:=3)) ag))) c7.nd)
    (ai (aW (i:=6) (bx aK du B.list jR (aa (af (i:=3)) ag)) c7.nd)
    (ai (dh (i:=7) (λ_=>(ax Ad.mono VL (hr.mono (by decide)) GH.m GH.F.kp GH.b (aa (af (i:=5)) ag))) c7.nd)
    (ai (a6 (l8.t (c8 (aw ah (bf.m (bD hr.units)) (ax rH.mono OT (hr.mono (by decide)) sj.m sj.F.kp sj.b (aa (bc ah bN (af (i:=2)) aj) (aa (af (i:=6)) ag))) (af (i:=5))) (c8 (aw ah (bf.m (bD hr.units)) (af (i:=6)) (af (i:=3))) (dR (aw ah (bf.m (bD hr.units)) (af (i:=7)) (aV (aa (bc ah bN (af (i:=2)) aj) (aa (af (i:=3)) ag)))))))) (ak (aL iC)) aH)
    (ai (lq (i:=7) false (λ_=>(aV (aa aj (aa aj ag)))) (λ_=>aj))
    (ai (a6 (aw ah (bf.m (bD hr.units)) (ax Ad.mono VL (hr.mono (by decide)) GH.m GH.F.kp GH.b (aa (af (i:=5)) ag)) (aV (aa (bc ah bN (af (i:=2)) aj) (aa (af (i:=3)) ag)))) (ak (aL iC)) aH)
    (ak (a6 (fT (cS (ax Dq.mono Yk (hr.mono (by decide)) L9.m L9.F.kp L9.b (aa (bc ah bN (af (i:=2)) aj) (aa (af (i:=3)) (aa (af (i:=1)) ag)))))) (ak (aL iC)) aH)))))))))))))))))),λc x0 x2 x3 x4 x5 x6 x7=>?_⟩
   refine⟨_,rfl,trivial,trivial,trivial,c,0,40,rfl,by decide,by decide,by decide,by decide,λm rows m0 Yz hr hl=>?_⟩
   obtain⟨n,rfl⟩:∃n:Nat,m=(n:Int):=⟨m.toNat,by lia⟩
   refine⟨_,rfl,trivial,trivial,_,rfl,trivial,c,100,(n:Int),rows,rfl,by decide,by decide,hr.1,by lia,λts hg lt=>?_⟩
   refine⟨_,rfl,trivial,trivial,trivial,c,210,16,rfl,by decide,by decide,by decide,λway w0 Yt=>?_⟩
   refine⟨λβ=>∃(n:Nat) (rows ts:List (List Int)) (y5 y6 y7:Option Q.B),β=[x0,some (.val true (.int c)),some (.val true (iL (n:Int) rows)),some (.val true (.lst (ts.map kD))),some (.val true (.int way)),y5,y6,y7]/\n<=40/\Rw (n:Int) rows/\rows.length<=60/\b5 (n:Int) ts/\Good ts ts/\ts.length<=30,?_,λβ h=>?_⟩
   ·refine⟨_,rfl,trivial,_,rfl,_,rfl,i4 (λh2=>?_) λ_=>⟨n,rows,ts,_,_,_,rfl,by lia,hr,by lia,λt h=>hr.1 t (hg.1 t h),⟨λt h=>h,hg.2⟩,lt⟩⟩
    have mu:∀x:Int,Lk (.int 2) (.int x)=some (.int (2*x)):=λx=>l4 (.inl ⟨by decide,by decide⟩)
    refine⟨trivial,20,rfl,by decide,by decide,trivial,eK (l:=Zi 20) (f:=λk:Nat=>D.int (0+(k:Int))) (λ_=>true) (λk:Nat=>kD [0+(k:Int),39-(0+(k:Int))]) trivial (gg (by decide)) (λk hk z0 o J ho j1 _=>⟨_,rfl,trivial,trivial,_,rfl,_,rfl,trivial,eX,trivial,ho,j1 rfl _⟩) ?_⟩
    rw[Cm];refine⟨trivial,trivial,20,rfl,by decide,by decide,trivial,eK (l:=Zi 20) (f:=λk:Nat=>D.int (0+(k:Int))) (λ_=>true) (λk:Nat=>kD [2*(0+(k:Int)),2*(0+(k:Int))+1]) trivial (gg (by decide)) (λk hk z0 o J ho j1 _=>⟨trivial,_,rfl,_,mu _,trivial,trivial,_,rfl,_,mu _,trivial,_,rfl,trivial,eX,trivial,ho,j1 rfl _⟩) ?_⟩
    rw[Bb];obtain⟨us,eu,tu,gu,ul⟩:=AR w0 h2;refine⟨trivial,eX,trivial,_,rfl,_,eu,.inr ?_⟩;refine⟨trivial,_,rfl,trivial,_,rfl,trivial,_,rfl,.inr ⟨_,rfl,trivial,eK (l:=rows) (f:=kD) (λt=>decide (t.getD 1 0<40)) kD trivial (gg (by lia)) (λt tm z0 o J ho j1 j2=>?_) ?_⟩⟩
    ·obtain⟨a,b,rfl,a0,ab,bn⟩:=hr.1 t tm;exact⟨_,rfl,trivial,_,rfl,trivial,_,rfl,_,rfl,nK (decide_eq_true (show b<40 by lia)) ⟨_,rfl,rG _,ho,j1 (decide_eq_true (show b<40 by lia)) _⟩⟩
    have lf:=aa2 (λt:List Int=>decide (t.getD 1 0<40)) rows;have tf:b5 40 (us++rows.filter λt=>decide (t.getD 1 0<40)):=λt z=>by
     rcases Zb.mp z with z|z
     ·exact tu t z
     ·obtain⟨a,b,rfl,a0,ab,bn⟩:=hr.1 t (abp.mp z).1;exact⟨a,b,rfl,a0,ab,by lia⟩
    have lm:(us++rows.filter λt=>decide (t.getD 1 0<40)).length<=60:=by rw[Zl];lia
    have ad:ph (.lst (us.map kD)) (.lst ((rows.filter λt=>decide (t.getD 1 0<40)).map kD))=some (.lst ((us++rows.filter λt=>decide (t.getD 1 0<40)).map kD)):=c_ (by lia)
    generalize (us++rows.filter λt=>decide (t.getD 1 0<40))=M at tf lm ad;have ne:∀t∈M,t≠[]:=λt h=>(tf t h).ne;refine⟨_,ad,.inl ⟨aI _,trivial,_,mJ ne (by lia),.inr ⟨trivial,_,fM ne (by lia),.inl ⟨aI _,trivial,eX,40,cM (jW M),us,_,_,_,rfl,by lia,Rw.of tf,?_,tu,gu,by lia⟩⟩⟩⟩
    rw[(aX _).length_eq];exact ZO (l0 M) lm
   obtain⟨n,rows,ts,y5,y6,y7,rfl,hn,hr,hl,ht,hg,lt⟩:=h;have sm:=jV.of hr.1 (by lia)
   have YA:((":" : Str)).length=1:=by decide +kernel
   have YB:(("-" : Str)).length=1:=by decide +kernel
   have ln:=fu (n:=n) (by lia)
   refine⟨trivial,⟨_,rfl⟩,_,rfl,trivial,_,rfl,trivial,_,qL (by lia),trivial,_,rW (by lia),trivial,vJ,trivial,_,rfl,trivial,_,rfl,.inr ⟨_,rfl,trivial,nk (l:=rows) (f:=kD) (λ_=>true) (λt=>.str (tS (t.getD 0 0)++("-" : Str)++tS (t.getD 1 0))) trivial (gg (by lia)) (λt tm z0 z1 o J ho j1 _=>?_) ?_⟩⟩
   ·obtain⟨a,b,rfl,ab,YS⟩:=sm t tm;have la:=fu (n:=a) (by lia)
    have lb:=fu (n:=b) (by lia)
    exact⟨_,rfl,rfl,_,_,rfl,_,_,rfl,rfl,_,rfl,trivial,_,qL (by lia),trivial,_,rW (by lia),trivial,_,rfl,trivial,_,qL (by lia),_,rW (by rw[aam];lia),trivial,ho,j1 rfl _ _⟩
   have fs:D.bP ([D.str (tS (n:Int)++(":" : Str))]++(rows.filter λ_=>true).map λt=>D.str (tS (t.getD 0 0)++("-" : Str)++tS (t.getD 1 0)))=true:=nO _;refine⟨_,fH (by rw[YX,Z6.mpr λ_ _=>rfl];show 1+_<=_;lia),.inl ⟨fs,trivial,_,CJ (by lia) sm hl,?_⟩⟩
   have oT:ab6 (a5 (s9 n rows))=true:=sS (I_ (by lia) sm)
   have nT:oK (.str (a5 (s9 n rows))) (.str (a5 (s9 n rows)))=some (.bl false):=fG (j5 _ oT);have nR:oK (iL (n:Int) rows) (iL (n:Int) rows)=some (.bl false):=fG (pI (n:Int) rows);refine⟨_,rfl,trivial,_,rfl,trivial,_,rfl,trivial,_,rfl,.inr ⟨trivial,_,rfl,.inl ⟨aI _,trivial,eX,?_⟩⟩⟩;refine⟨_,rfl,trivial,n,rows,rfl,hn,hr,hl,?_⟩;refine⟨trivial,_,rfl,trivial,(n:Int),rows,rfl,by lia,by lia,sm.Wd,by lia,?_⟩
   rw[IU (by lia) sm]
   refine⟨trivial,_,rfl,_,nT,_,rfl,dI rfl ⟨_,rfl,trivial,_,rfl,_,nR,_,rfl,dI rfl ⟨_,rfl,trivial,_,rfl,_,nR,_,rfl,dI rfl ?_⟩⟩⟩;refine⟨⟨_,rfl⟩,[.int (n:Int),.lst (rows.map kD)],1,1,_,rfl,rfl,wj (i:=1) rfl (by show 1<2;decide),rfl,trivial,trivial,eX,trivial,rfl,by rw[YX];exact ab_ hl (by decide),?_⟩
   refine⟨_,rfl,trivial,n,rows,rfl,hn,hr,hl,trivial,_,rfl,_,nR,_,rfl,dI rfl ?_⟩;have pt:Pairs ts:=λt h=>(ht t h).pair;have nS:oK (.str (a5 (gX ts.reverse n))) (.str (a5 (gX ts.reverse n)))=some (.bl false):=fG (j5 _ sU);have UZ:oK (iL (n:Int) ts) (iL (n:Int) ts)=some (.bl false):=fG (pI (n:Int) ts);have eA:D_ (gX ts.reverse n)=.lst (ts.map kD):=LA ht hg;refine⟨_,rfl,trivial,_,rfl,trivial,_,rfl,trivial,n,ts,rfl,by lia,ht,?_⟩
   refine⟨_,rfl,trivial,_,rfl,.inl ⟨aI _,?_⟩⟩;refine⟨_,rfl,trivial,gX ts.reverse n,rfl,xw,by rw[e9];lia,(by rw[eA];intro z;cases z),?_⟩
   rw[e9,eA];refine⟨trivial,?_⟩;refine⟨_,rfl,trivial,_,rfl,trivial,_,rfl,trivial,(n:Int),ts,rfl,by lia,by lia,pt,λz=>by lia,λ_ z=>absurd ⟨ht,hg⟩ z,λk ek _ _=>?_⟩
   obtain rfl:n=k:=by lia
   refine⟨trivial,_,rfl,_,nS,_,rfl,dI rfl ⟨_,rfl,trivial,_,rfl,_,jM ts ts,_,rfl,dI (by rw[decide_eq_true rfl];rfl) ⟨_,rfl,trivial,_,rfl,trivial,_,rfl,trivial,_,rfl,trivial,eX,.inr ⟨_,UZ,_,rfl,dI rfl ?_⟩⟩⟩⟩
   refine⟨⟨_,rfl⟩,[.int (n:Int),.lst (ts.map kD)],1,1,_,rfl,rfl,wj (i:=1) rfl (by show 1<2;decide),rfl,trivial,trivial,eX,trivial,rfl,by rw[YX];exact ab_ lt (by decide),?_⟩
   refine⟨_,rfl,trivial,gX ts.reverse n,rfl,xw,by rw[e9];lia,(by rw[eA];intro z;cases z),?_⟩
   rw[e9,eA];refine⟨trivial,_,rfl,trivial,_,rfl,trivial,_,rfl,trivial,eX,.inr ⟨_,UZ,_,rfl,dI rfl ?_⟩⟩;exact⟨_,rfl,trivial,_,rfl,trivial,_,rfl,trivial,_,rfl,trivial,n,ts,c,rfl,by lia,ht,hg,by lia,_,rfl,dI rfl ⟨_,_,_,_,_,_,_,_,rfl⟩⟩
  refine⟨_,mR (Bq aap rfl (xQ (BL B0 (BM (cT (BL BU mV mV) fW)) (tG xq (pv 0) xN (xM mV)))) (Q.au (C:=⟨H,λ_=>False,true,λ_=>False⟩) (i:=1) c7.nd).pg hb.ps) (qX (vV Ht)),?_⟩;obtain⟨ms,em,hm⟩:=Ah ns none (some 4);refine⟨_,_,rfl,rfl,MX,(by show 1<=Zf;decide),λp1 NS=>⟨_,rfl,_,rfl,a,_,rfl,(aD.new NS).seq hS,λp2 Ve=>?_⟩⟩
  have WJ:p1≠p2:=cJ aE Ve;refine⟨p1,p2,_,_,rfl,rfl,(by rw[ay WJ];exact aE),aE,(by rw[em,YX,Zw,aad];lia),λl hl=>⟨l,rfl,⟨_,dC.of aE⟩,?_⟩⟩
  rw[em];rw[em]at hl;have sm:aD H (upd (upd (upd H p1 (.lst [V.int (10 ^ (18:Int).toNat)])) p2 (.lst (ms.map V.int))) l (.lst ([V.int (10 ^ (18:Int).toNat)]++ms.map V.int))):=((aD.new NS).trans (aD.new (by rw[em]at *;exact Ve))).trans (aD.new hl)
  have qd:(upd (upd (upd H p1 (.lst [V.int (10 ^ (18:Int).toNat)])) p2 (.lst (ms.map V.int))) l (.lst ([V.int (10 ^ (18:Int).toNat)]++ms.map V.int))) l=some (.lst (((10 ^ (18:Int).toNat)::ms).map V.int)):=aE;generalize (upd (upd (upd H p1 (.lst [V.int (10 ^ (18:Int).toNat)])) p2 (.lst (ms.map V.int))) l (.lst ([V.int (10 ^ (18:Int).toNat)]++ms.map V.int)))=H1 at sm qd ⊢
  generalize ((10 ^ (18:Int).toNat)::ms)=cs at qd;let X:Cx:=(lS bU P w K mg base ["script","cell","row","ties","way","text","handed","told"] "law" (ar mL) f bR A outer s H E).Cg
  let C:Q.Cfg:=⟨H,λ_=>False,true,λ_=>False⟩
  have it:EG X (λ_=>False) (PM K l) (cs.map D.int) H1:=ue qd (λz=>z) (cf cs);have LV:=it (λb=>(λ_=>False) b\/H1 b=none) λb z=>z;have s':Q.cD P w C.z (L2.start ["script","cell","row","ties","way","text","handed","told"] [.ref a]) H1 (ZP 8 none) (λ_=>[]):=EU (by rfl) sm
  generalize L5:cs.map D.int=ds at LV;have hint:∀d∈ds,∃c:Int,d=.int c:=λd hd=>by
   rw[<- L5]at hd;obtain⟨c,_,rfl⟩:=ZE.mp hd;exact⟨c,rfl⟩
  refine⟨λi m σ H'=>i<=ds.length/\m=ds.length-i/\∃β,Q.SB X C (H1,Q.Wn λ_=>[]) σ H' β/\JL β,⟨_,Zm _,rfl,_,⟨_,s',Sn.refl⟩,⟨_,_,_,_,_,_,_,_,rfl⟩⟩,?_⟩;rintro i m σ2 H2 ⟨hi,rfl,β2,⟨bg,s2,n2⟩,⟨y0,y1,y2,y3,y4,y5,y6,y7,rfl⟩⟩;obtain⟨gJ,Kf⟩:=LV i H2 (n2.k.mono λb z=>z.imp (λSh=> by obtain⟨_,q⟩ := Sh;exact(nomatch q)) id)
  by_cases ic:i<ds.length
  ·right
   have hd:ds[i]?=some ds[i]:=Y2 ic;obtain⟨go,yl⟩:=gJ _ hd;obtain⟨c,hc⟩:=hint ds[i] (abe ic);refine⟨go,λσ' H'=>∃β,Q.SB X C (H1,Q.Wn λ_=>[]) σ' H' β/\JL β,λσ' H' Sg=> by obtain⟨β',IX,oG⟩ := Sg;exact⟨_,by lia,ic,rfl,β',IX,oG⟩,λx H3 y=>?_⟩
   obtain⟨s3,r3⟩:=yl x H3 y;rw[hc]at r3;refine⟨bg,_,.int c,.own,s2.same s3,aF.flat rfl r3,λσ4 tR s4 w4 _=>?_⟩;exact⟨(H1,Q.Wn λ_=>[]),{nx:=JL,rt:=λd _=>d=.bl true,bk:=JL,ct:=JL},_,⟨tR,s4,Q.ji (n2.same s3) w4⟩,hψ c y0 y2 y3 y4 y5 y6 y7,⟨λσ5 H5 β5 zh q5=>⟨β5,zh,q5⟩,λσ5 H5 β5 d5 v5 zh r5 q5=>by
    subst q5;cases (show v5=V.bl true from MG r5)
    exact k _,λσ5 H5 β5 zh q5=>k _,λσ5 H5 β5 zh q5=>⟨β5,zh,q5⟩⟩⟩
  ·left
   have e:i=ds.length:=by lia
   subst e;exact⟨Kf (YY _),k _⟩
end
theorem kG {α:Type}{P:List α->Prop}(h:∀a,P [a]):∀us:List α,us.length=1->P us:=λus e=>by
 obtain⟨a,rfl⟩:=List.length_eq_one_iff.mp e;exact h a
theorem kB {α:Type}{P:List α->Prop}(h:∀a b,P [a,b]):∀us:List α,us.length=2->P us:=λus e=>by
 cases us with
 |nil=>cases e
 |cons a us=>exact kG (P:=λus=>P (a::us)) (h a) us (Nat.succ.inj e)
theorem v_ {α:Type}{P:List α->Prop}(h:∀a b c,P [a,b,c]):∀us:List α,us.length=3->P us:=λus e=>by
 cases us with
 |nil=>cases e
 |cons a us=>exact kB (P:=λus=>P (a::us)) (h a) us (Nat.succ.inj e)
theorem Dd {K:PySem.W.Frag}{x m:Str}{st:Stmt}{t c f:Nat}(l:K.lookup f=some (kF st x m t c))(cd:PySem.W.codeIn K (.ref c) x=true)(k:PySem.W.keepIn K (.ref f)=true):En K x x st f (O_ st x m t c):=K4 l cd k
theorem bJ {K:PySem.W.Frag}{h:Heap}{mg:Str->Option YU}{x m:Str}{st:Stmt}{t c f:Nat}{ps:List Str}(X:K.In h)(G:h.Ns aaM mg)(l:K.lookup f=some (kF st x m t c))(cd:PySem.W.codeIn K (.ref c) x=true)(k:PySem.W.keepIn K (.ref f)=true)
  (a:PySem.W.nsIn K aaM x=some (some (.ref f))) (b:∀us:List YU,us.length=ps.length->bindArgs (O_ st x m t c) ⟨us,[]⟩=pure (ps.zip us)):Df K mg x st ps f (O_ st x m t c):=⟨Dd l cd k,.all b,PySem.W.mg_of X G a⟩
abbrev cX (i:Nat):Addr:=[37,49,61,73,85,97,109,121,133,145,157,169].getD i 0
theorem all_mk {l:PySem.W.OpenLaw} (w:Zd) (mg:Str->Option YU) (fa:Addr) (h:Heap) (X:(KK w.params).In h) (G:h.Ns aaM mg) (Xx:mg "law" = some (.ref fa))   :∃fd:ZF,(∀(s:YW) (v:YU),BindsTo s fd ⟨[v],[]⟩ [("script",v)])/\∀base:Heap,(KK w.params).In base->base.Ns aaM mg->aP l.prog w (KK w.params) mg base bU 9 fa fd ["script"] (A8 (KK w.params)):=by
 have e:=Xx.symm.trans (PySem.W.mg_of X G (v:=.ref 352) (by kernel_rfl))
 cases e;have Nl:=PySem.W.mg_none_of X G (n:="max") (by kernel_rfl)
 have Nk:=PySem.W.mg_none_of X G (n:="min") (by kernel_rfl)
 have Np:=PySem.W.mg_none_of X G (n:="int") (by kernel_rfl)
 have FY:=PySem.W.mg_none_of X G (n:="range") (by kernel_rfl)
 have Co:=PySem.W.mg_none_of X G (n:="sorted") (by kernel_rfl)
 have Nj:=PySem.W.mg_none_of X G (n:="set") (by kernel_rfl)
 have Nn:=PySem.W.mg_none_of X G (n:="len") (by kernel_rfl)
 have JW:=PySem.W.mg_none_of X G (n:="list") (by kernel_rfl)
 have rl:=PySem.W.mg_none_of X G (n:="isinstance") (by kernel_rfl)
 have FX:=PySem.W.mg_none_of X G (n:="tuple") (by kernel_rfl)
 have Ni:=PySem.W.mg_none_of X G (n:="str") (by kernel_rfl)
 have JX:=PySem.W.mg_none_of X G (n:="bool") (by kernel_rfl)
 have Ng:=PySem.W.mg_none_of X G (n:="zip") (by kernel_rfl)
 have tY:=PySem.W.mg_none_of X G (n:="enumerate") (by kernel_rfl)
 have Nh:=PySem.W.mg_none_of X G (n:="sum") (by kernel_rfl)
 have Nq:=PySem.W.mg_none_of X G (n:="any") (by kernel_rfl)
 have rm:=PySem.W.mg_none_of X G (n:="ValueError") (by kernel_rfl)
 have B:=(⟨(⟨⟨⟨Nl,Nk,Np,FY,Co,Nj,Nn,JW⟩,rl,FX,Ni,JX,Ng,tY⟩,Nh⟩:Bs3 mg),Nq⟩:yT mg);have ZA:XA (KK w.params) mg 24 cX:=Mj (by kernel_rfl) (PySem.W.mg_of X G (v:=.ref 24) (by kernel_rfl)) λi x h=>by
  match i,h with
  |0,h=>cases h;exact PySem.W.mg_of X G (v:=.ref 37) (by kernel_rfl)
  |1,h=>cases h;exact PySem.W.mg_of X G (v:=.ref 49) (by kernel_rfl)
  |2,h=>cases h;exact PySem.W.mg_of X G (v:=.ref 61) (by kernel_rfl)
  |3,h=>cases h;exact PySem.W.mg_of X G (v:=.ref 73) (by kernel_rfl)
  |4,h=>cases h;exact PySem.W.mg_of X G (v:=.ref 85) (by kernel_rfl)
  |5,h=>cases h;exact PySem.W.mg_of X G (v:=.ref 97) (by kernel_rfl)
  |6,h=>cases h;exact PySem.W.mg_of X G (v:=.ref 109) (by kernel_rfl)
  |7,h=>cases h;exact PySem.W.mg_of X G (v:=.ref 121) (by kernel_rfl)
  |8,h=>cases h;exact PySem.W.mg_of X G (v:=.ref 133) (by kernel_rfl)
  |9,h=>cases h;exact PySem.W.mg_of X G (v:=.ref 145) (by kernel_rfl)
  |10,h=>cases h;exact PySem.W.mg_of X G (v:=.ref 157) (by kernel_rfl)
  |11,h=>cases h;exact PySem.W.mg_of X G (v:=.ref 169) (by kernel_rfl)
  |n+12,h=>cases h
 have EC:=PySem.W.mg_of X G (n:="FIGURES") (v:=.str "0123456789" 465) (by kernel_rfl)
 have Gr:=PySem.W.mg_of X G (n:="POINT_FIGURES") (v:=.int 3 467) (by kernel_rfl)
 exact⟨_,λs v=>.of_eq rfl,λbase _ _=>JO (Dd (x:="law") (m:="law_archrow_k46_texts_there_and_back") (st:=mL) (t:=533) (c:=351) (f:=352) (by kernel_rfl) (by kernel_rfl) (by kernel_rfl)) B rm ZA EC Gr (bJ X G (x:="_law_row") (m:="law_archrow_k46_texts_there_and_back") (st:=g6) (t:=533) (c:=293) (f:=294) (ps:=["cell","begin","most"]) (by kernel_rfl) (by kernel_rfl) (by kernel_rfl) (by kernel_rfl) (v_ λ_ _ _=>rfl))
  (bJ X G (x:="_law_set") (m:="law_archrow_k46_texts_there_and_back") (st:=gZ) (t:=533) (c:=305) (f:=306) (ps:=["cell","begin","row"]) (by kernel_rfl) (by kernel_rfl) (by kernel_rfl) (by kernel_rfl) (v_ λ_ _ _=>rfl))
  (bJ X G (x:="_law_digit") (m:="law_archrow_k46_texts_there_and_back") (st:=fb) (t:=533) (c:=286) (f:=287) (ps:=["cell","k","many"]) (by kernel_rfl) (by kernel_rfl) (by kernel_rfl) (by kernel_rfl) (v_ λ_ _ _=>rfl))
  (bJ X G (x:="_law_stir") (m:="law_archrow_k46_texts_there_and_back") (st:=fP) (t:=533) (c:=279) (f:=280) (ps:=["cell","k"]) (by kernel_rfl) (by kernel_rfl) (by kernel_rfl) (by kernel_rfl) (kB λ_ _=>rfl))
  (bJ X G (x:="_law_meet") (m:="law_archrow_k46_texts_there_and_back") (st:=fQ) (t:=533) (c:=300) (f:=301) (ps:=["one","other"]) (by kernel_rfl) (by kernel_rfl) (by kernel_rfl) (by kernel_rfl) (kB λ_ _=>rfl))
  (bJ X G (x:="_law_brackets") (m:="law_archrow_k46_texts_there_and_back") (st:=cR) (t:=533) (c:=312) (f:=313) (ps:=["many","ties"]) (by kernel_rfl) (by kernel_rfl) (by kernel_rfl) (by kernel_rfl) (kB λ_ _=>rfl))
  (bJ X G (x:="_law_spoilt_good") (m:="law_archrow_k46_texts_there_and_back") (st:=b6) (t:=533) (c:=346) (f:=347) (ps:=["many","ties","cell"]) (by kernel_rfl) (by kernel_rfl) (by kernel_rfl) (by kernel_rfl) (v_ λ_ _ _=>rfl))
  (bJ X G (x:="_law_spoilt") (m:="law_archrow_k46_texts_there_and_back") (st:=dP) (t:=533) (c:=336) (f:=337) (ps:=["many","ties","cell"]) (by kernel_rfl) (by kernel_rfl) (by kernel_rfl) (by kernel_rfl) (v_ λ_ _ _=>rfl))
  (bJ X G (x:="_law_met") (m:="law_archrow_k46_texts_there_and_back") (st:=g7) (t:=533) (c:=341) (f:=342) (ps:=["many","cell","way"]) (by kernel_rfl) (by kernel_rfl) (by kernel_rfl) (by kernel_rfl) (v_ λ_ _ _=>rfl))
  (bJ X G (x:="_law_written") (m:="law_archrow_k46_texts_there_and_back") (st:=de) (t:=533) (c:=331) (f:=332) (ps:=["many","ties"]) (by kernel_rfl) (by kernel_rfl) (by kernel_rfl) (by kernel_rfl) (kB λ_ _=>rfl))
  (bJ X G (x:="_law_class") (m:="law_archrow_k46_texts_there_and_back") (st:=fc) (t:=533) (c:=319) (f:=320) (ps:=["e"]) (by kernel_rfl) (by kernel_rfl) (by kernel_rfl) (by kernel_rfl) (kG λ_=>rfl))
  (bJ X G (x:="_law_due") (m:="law_archrow_k46_texts_there_and_back") (st:=g8) (t:=533) (c:=324) (f:=325) (ps:=["word"]) (by kernel_rfl) (by kernel_rfl) (by kernel_rfl) (by kernel_rfl) (kG λ_=>rfl))
  (bJ X G (x:="brackets") (m:="archrow.texts") (st:=d9) (t:=463) (c:=222) (f:=223) (ps:=["many","ties"]) (by kernel_rfl) (by kernel_rfl) (by kernel_rfl) (by kernel_rfl) (kB λ_ _=>rfl))
  (bJ X G (x:="check_set") (m:="archrow.arcs") (st:=dk) (t:=399) (c:=217) (f:=218) (ps:=["row","ties"]) (by kernel_rfl) (by kernel_rfl) (by kernel_rfl) (by kernel_rfl) (kB λ_ _=>rfl))
  (bJ X G (x:="is_set") (m:="archrow.arcs") (st:=jn) (t:=399) (c:=189) (f:=190) (ps:=["row","ties"]) (by kernel_rfl) (by kernel_rfl) (by kernel_rfl) (by kernel_rfl) (kB λ_ _=>rfl))
  (bJ X G (x:="first_fault") (m:="archrow.arcs") (st:=df) (t:=399) (c:=196) (f:=197) (ps:=["row","ties"]) (by kernel_rfl) (by kernel_rfl) (by kernel_rfl) (by kernel_rfl) (kB λ_ _=>rfl))
  (bJ X G (x:="fault_at") (m:="archrow.arcs") (st:=fR) (t:=399) (c:=203) (f:=204) (ps:=["row","ties","k"]) (by kernel_rfl) (by kernel_rfl) (by kernel_rfl) (by kernel_rfl) (v_ λ_ _ _=>rfl))
  (bJ X G (x:="share_a_point") (m:="archrow.arcs") (st:=cz) (t:=399) (c:=210) (f:=211) (ps:=["one","other"]) (by kernel_rfl) (by kernel_rfl) (by kernel_rfl) (by kernel_rfl) (kB λ_ _=>rfl))
  (bJ X G (x:="arcs_cross") (m:="archrow.arcs") (st:=dQ) (t:=399) (c:=182) (f:=183) (ps:=["one","other"]) (by kernel_rfl) (by kernel_rfl) (by kernel_rfl) (by kernel_rfl) (kB λ_ _=>rfl))
  (bJ X G (x:="show_row") (m:="archrow.texts") (st:=fN) (t:=463) (c:=236) (f:=237) (ps:=["row"]) (by kernel_rfl) (by kernel_rfl) (by kernel_rfl) (by kernel_rfl) (kG λ_=>rfl))
  (bJ X G (x:="ties_shown") (m:="archrow.texts") (st:=dN) (t:=463) (c:=253) (f:=254) (ps:=["ties"]) (by kernel_rfl) (by kernel_rfl) (by kernel_rfl) (by kernel_rfl) (kG λ_=>rfl))
  (bJ X G (x:="read_row") (m:="archrow.texts") (st:=fO) (t:=463) (c:=241) (f:=242) (ps:=["text"]) (by kernel_rfl) (by kernel_rfl) (by kernel_rfl) (by kernel_rfl) (kG λ_=>rfl))
  (bJ X G (x:="pair_in") (m:="archrow.texts") (st:=gY) (t:=463) (c:=260) (f:=261) (ps:=["text"]) (by kernel_rfl) (by kernel_rfl) (by kernel_rfl) (by kernel_rfl) (kG λ_=>rfl))
  (bJ X G (x:="number_in") (m:="archrow.texts") (st:=e_) (t:=463) (c:=265) (f:=266) (ps:=["text","longest"]) (by kernel_rfl) (by kernel_rfl) (by kernel_rfl) (by kernel_rfl) (kB λ_ _=>rfl))
  (bJ X G (x:="row_of") (m:="archrow.arcs") (st:=jm) (t:=399) (c:=175) (f:=176) (ps:=["many","ties"]) (by kernel_rfl) (by kernel_rfl) (by kernel_rfl) (by kernel_rfl) (kB λ_ _=>rfl))
  (bJ X G (x:="read_brackets") (m:="archrow.texts") (st:=cB) (t:=463) (c:=229) (f:=230) (ps:=["text"]) (by kernel_rfl) (by kernel_rfl) (by kernel_rfl) (by kernel_rfl) (kG λ_=>rfl))
  (bJ X G (x:="arcs_in") (m:="archrow.texts") (st:=g9) (t:=463) (c:=248) (f:=249) (ps:=["text"]) (by kernel_rfl) (by kernel_rfl) (by kernel_rfl) (by kernel_rfl) (kG λ_=>rfl))⟩
end oO
abbrev PySem.W.Fast.tw5481169644003930735:PySem.Program:=PySem.Challenge.pw_archrow_k46_texts_there_and_back
theorem PySem.W.Fast.te5481169644003930735:PySem.Challenge.pw_archrow_k46_texts_there_and_back=PySem.W.Fast.tw5481169644003930735:=rfl
open PySem PySem.W PyProof.Rows
set_option maxRecDepth 100000 in
set_option maxHeartbeats 0 in
theorem PySem.Challenge.cw_archrow_k46_texts_there_and_back_holds : PySem.Challenge.rw_archrow_k46_texts_there_and_back.Holds := by
 w_on;o_law
 refine holds_open (q:=oO.view) (loose:=[]) (Xt:=λs=>xlAt oO.view [] s&&recOk (RowW.records PySem.Challenge.rw_archrow_k46_texts_there_and_back.row.toRowW) s) (XP:=XL oO.view []) (Yf:=oO.HK.obs) (Ya:=oO.HK.val) (YP:=λw h=>(oO.KK w.params).In h) (N:=7428) oO.left oO.HK.of oO.HK.keeps (λs e=>xl_of s (Bool.and_eq_true_iff.mp e).1) XL.keeps (by rfl) (by rfl) (by rfl) (λs e=>recFacts_of (Bool.and_eq_true_iff.mp e).2) (by rfl) (by first|assumption|decide +kernel) (by decide +kernel) ⟨rfl,rfl,rfl,rfl,rfl,by decide +kernel⟩ ?hw ?hc
 (case hw=>w_witness2)
 case hc =>
  exact L2.EM (l:=PySem.Challenge.rw_archrow_k46_texts_there_and_back) (K:=oO.KK) (n:=63) (k:=9) (x:="script") (CX:=λ_=>L2.bU) (sp:=λw=>oO.A8 (oO.KK w.params)) rfl (by decide) rfl ⟨rfl,by decide,by decide⟩ (λw h Y=>Y) oO.all_mk (λ_ _ a ns hl _ hS=>⟨a,ns,rfl,hS,hl,λ_=>rfl⟩) λ_ _ _ _ _ z=>z
#print axioms PySem.Challenge.cw_archrow_k46_texts_there_and_back_holds
