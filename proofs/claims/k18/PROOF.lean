import PyProof.Rows.All
import Wide.All
import OpenK.AllK
import Wide.FinOn
import Lean
import PySem.Challenge.RW_archrow_k18_weights_refused
set_option Elab.async false
set_option linter.all false
set_option maxRecDepth 100000
local macro_rules
 |`({$x:term})=>`(⟨$x⟩)
 |`({$x:term,$y:term,*})=>`(⟨$x,$y,*⟩)
theorem tv:True:=.intro
set_option maxHeartbeats 4000000
set_option compiler.extract_closed false
open PySem renaming Value->Y1,wpAny_bind->Y2,Shared->Y4,Program->Y7,starEach->Y9,sizeLine->Zd,wpAny_pure->Zi,World->Zj,wpAny->Zy,FuncData->ZL,wpAny_loadPart'->ZO,Around->Z0,bootBuiltins->Z9,foldedSetIterable->aad,backTo->aag,wpAny_holding->aav,swapsWith->aaw,binaryOp->aax,compareOp->aaA,attributeBase->aaH,sizeLine_eq->aaK,mainGlobals->aaL,sysModules->aaQ,wpAny_newObj_type->aaV,Keyword->aa2,wpAny_seqItems->aa3,wpAny_typeNameOfWhole_keyiter->aa6,sliceBounds->aa7,wpAny_setField_rec->aa8,wpAny_Call_Name_kw->aa9,assignEach->aa_,Builtin->abb,wpAny_passesOwn->abc,cLine->abd,wpAny_standAt->abe,behindInMarks->abf,wpAny_rule->abm,wpAny_mono->abn,keywordEach->abo,wpAny_call_entry->abu,IsPair->abx,wpAny_typeNameOf_keyiter->aby,wpAny_attempt->abz,Scope->abB,Comprehension->abD,wpAny_execs_nil->abF,wpAny_field->abH,wpAny_callSpecial?_slot->abI,wpAny_truthy_bool->abL,codeAny_mono->abN,DictEntry->ab0,plainId_quiet->ab1,wpAny_letGo->ab2,NameKind->ab3,codeAny_builtin->ab5,pyNext->acd,call_meets->acf,backToKw->acg,standAt->acm,richCompare->acn,codeAny->aco,tupleKind->acz
open List renaming length_map->Y3,getElem?_eq_getElem->Y5,mem_cons->Y6,getElem?_eq_some_iff->Y_,length_cons->Zb,mem_singleton->Zc,getElem?_map->Zg,length_append->Zk,map_append->Zl,replicate->Zr,nodup_cons->Zs,mem_append->Zt,mem_cons_of_mem->Zu,range->Zv,size_toArray->Zw,getD_eq_getElem?_getD->Zx,map_cons->ZE,getElem?_eq_none->ZF,length_take->ZI,mem_cons_self->ZK,mem_map->ZN,take_add_one->ZS,mem_of_getElem?->ZT,map_congr_left->ZU,length_range->ZV,getElem?_append_right->ZY,mem_append_right->Z1,not_mem_nil->Z2,take_of_length_le->Z4,nodup_nil->Z5,drop_eq_getElem_cons->Z6,map_map->Z7,append_assoc->Z8,getElem?_append_left->aaa,mem_range->aae,zip_cons_cons->aaf,take_length->aai,replicate_succ->aaj,nodup_append->aam,pairwise_cons->aan,mem_append_left->aao,mem_filter->aap,find?_cons->aaq,append_nil->aar,lookup_cons->aas,filterMap_cons->aat,ext_getElem?->aau,drop_of_length_le->aaz,getElem_mem->aaD,filter_cons->aaE,all_eq_true->aaF,flatMap_append->aaO,filter_append->aaR,length_filter_le->aaT,length_nil->aaU,mem_of_mem_take->aaW,getElem?_set->aaX,flatten_cons->aaY,getElem?_range->aa1,cons_append->aa4,set_set->aba,take_append_drop->abg,zip_nil_left->abh,getElem?_set_ne->abq,getElem?_of_mem->abr,getElem?_eq_none_iff->abv,of_mem_zip->abG,getElem?_cons_succ->abK,getElem?_set_self->abQ,length_singleton->abW,length_drop->abZ,length_set->ab8,foldl_cons->ab9,reverse_append->ab_,getElem?_zip_eq_some->acj,reverse_cons->acq,pairwise_map->acr,length->acs,flatMap_cons->acu
open Nat renaming le_refl->Y8,zero_le->Zn,lt_of_lt_of_le->ZD,ne_of_lt->ZQ,le_trans->ZX,lt_succ_of_lt->aay,lt_irrefl->aa0,sub_self->aca,lt_or_ge->acb,lt_succ_self->acB,le_of_not_lt->acC
open PyProof.Rows renaming Keyed->Za,wpS_bind->Zf,wpS_pure->Zm,pendingOf->Zz,SortSt->ZM,arrOf->ZP,wpS_forRange->aac,setArr->aak,callWith_type1->aal,IntsAre->aaI,wpS_mono->aaJ,wpS_modify->abl,seqObj->abw,SortKind->abA,failedOf->abM,setPending->abY,envOfC->ace,wpS_get->ack,AllBare->acv
open PySem.Heap renaming get?_push_of_some->Ze,lt_size->Zo,get?_push_size->ZR,get?_update_other->abR,SameBut->abS,FlyingW->abT,get?_update_self->abX
open Option renaming map_eq_some_iff->Zh,bind_eq_some_iff->Zq,bind_some->aah,map_some->ab7
open Array renaming getElem?_toList->ZG,length_toList->ZJ,toList_append->aaB,toList_push->abj,getD_eq_getD_getElem?->abk,perm_iff_toList_perm->abt,getElem?_eq_none->abV
open Decidable renaming by_contra->ZH
open Bool renaming and_eq_true->ZW,false_ne_true->aaG,false_eq_true->aaS,not_eq_true'->abU
open Option.some renaming inj->ZZ
open PySem.NameKind renaming free->Z3,cell->abC
open Ne renaming symm->Z_
open PySem.PassesOwn renaming never->aab
open PySem.Builtin.SmallTypes renaming nextOf->aaC,ownedTupleIsFree->aaP
open PySem.PyData renaming canLay0->aaM,eqv->abp,canLayAll0->abO,depthAll->ab6,eqvAll->acx
open False renaming elim->aaN
open PySem.Obj renaming mapSeq->aaZ
open PySem.Builtin.Range renaming rangeSize->aa5
open Int renaming toNat_natCast->abi,eq_ofNat_of_zero_le->acD
open PySem.Builtin.List renaming listTooLong->abE
open PySem.W renaming boot_heap->abJ
open Nat.succ renaming inj->abP
open PySem.Around renaming under_plainId->ab4
open PySem.SeqAt.EqAt renaming of_refs->ach,int_int->aci
open Sum renaming inr->acp
open PyProof renaming noPylong_of_log2->acw
open PySem.Code renaming compLoop->acy
open PySem.SeqAt renaming canLay_of_shaped->acA
noncomputable section
namespace L2
open PySem PySem.Spec PyProof.Rows
def mx (s:Stmt):Arguments:=match s with
 |.FunctionDef _ a _ _ _ _ _ _ _ _=>a
 |_=>{posonlyargs:=[],args:=[],vararg:=none,kwonlyargs:=[],kw_defaults:=[],kwarg:=none,defaults:=[]}
def d3 (s:Stmt):List Stmt:=match s with
 |.FunctionDef _ _ b _ _ _ _ _ _ _=>b
 |_=>[]
def ao (s:Stmt):abB:=match s with
 |.FunctionDef _ _ _ _ _ _ sc _ _ _=>sc
 |_=>{kind:=.function,names:=[],isGenerator:=false,isCoroutine:=false}
end L2
namespace L2.Hd
open PySem PySem.W PySem.Spec PyProof.Rows
noncomputable def jA (tb:String->Option abb)(p:Y7)(w:Zj)(n₀:Nat)(ann:Option Y1):Nat->SharedT->Thread->Option SharedT
 |0,_,_=>none
 |n+1,s,t=>match through t with
  |true=>some s
  |false=>match stepOk n₀ ann t with
   |false=>none
   |true=>match stepT (denote tb) p w s t with
    |some (s',t')=>jA tb p w n₀ ann n s' t'
    |none=>none
theorem mO {tb:String->Option abb}{p:Y7}{w:Zj}{n₀:Nat}{ann:Option Y1}:∀{n:Nat} {s s':SharedT} {t:Thread},jA tb p w n₀ ann n s t=some s'->topRun tb p w n₀ ann n s.abs t=some s'.abs
 |0,_,_,_,g=>by cases g
 |n+1,s,s',t,g=>by
  unfold jA at g;unfold topRun;cases ht:through t with
  |true=>rw[ht]at g;cases g;rfl
  |false =>
   rw[ht]at g;cases hk:stepOk n₀ ann t with
   |false=>rw[hk]at g;cases g
   |true =>
    rw[hk]at g;cases hq:stepT (denote tb) p w s t with
    |none=>rw[hq]at g;cases g
    |some r=>obtain⟨s₂,t₂⟩:=r;rw[hq]at g;dsimp only;rw[stepT_spec hq];exact mO g
noncomputable def O6 (P:Params):BT:=((abJ P).objs.toList.foldl (λ(x:BT×Nat) o=>(x.1.ins x.2 o,x.2+1)) (.nil,0)).1
noncomputable def DO (w:Zj)(os:OsState):SharedT:={O6 w.params,11,(abJ w.params).life,Array.mk [],boot_drawn,boot_toks,os}
def boot_abs (w:Zj)(os:OsState):(DO w os).abs={abJ w.params,Array.mk [],boot_drawn,boot_toks,os}:=by kernel_rfl
def GS (P:Params):((abJ P).isNs aaL&&((Array.mk []:Array GenState).size==0))=true:=by kernel_rfl
def Av (P:Params):(abJ P).objs.size=11:=by kernel_rfl
def DM (P:Params):(abJ P).nsMap aaL "__annotations__" = some (.ref 6):=by kernel_rfl
def ends (p:Y7)(h0:Heap)(s₁:Y4):Option Y4:=match staticsOk (importedModules p.main.body) h0 s₁.heap&&namesBound p s₁.heap&&gensDone s₁&&laidKept h0 s₁.heap with
 |true=>some s₁
 |false=>none
def zE {p q:Y7}{loose:List Str}{Xt:Y4->Bool}{α:Type}{Yf:Y4->α}{Ya:Zj->α}{N:Nat}{g0:Bool}
  (g1:opening p=plainProg p.main.scope.names) (g2:Nat.ble 600 N=true) (g3:∀s,fenceModules? p s=some s)
  (g4:∀(w:Zj) (os:OsState),((jA treeTable p w 11 (some (.ref 6)) N (DO w os) (topStub p)).bind λs₁=>ends p (abJ w.params) s₁.abs).map (λs=>(openSeen q loose (importedModules p.main.body) Xt g0 s,Yf s))=some (openGood q loose,Ya w)) :
  LeftO p q loose Xt Yf Ya N g0:=λw=>by
 obtain⟨⟨hp,gs,dr,tk,os⟩,e,v⟩:=Zh.mp (boot_open (N:=N) g1 g2 g3 w);obtain⟨v1,v⟩:=Prod.mk.inj v;obtain⟨v2,v⟩:=Prod.mk.inj v;obtain⟨v3,v4⟩:=Prod.mk.inj v;dsimp only at v1 v2 v3 v4;subst v1 v2 v3 v4;have g:=g4 w os;unfold openEnds;rw[e];show (topFrom treeTable p w N _).map _=_;have t:topFrom treeTable p w N {abJ w.params,Array.mk [],boot_drawn,boot_toks,os}=(topRun treeTable p w 11 (some (.ref 6)) N {abJ w.params,Array.mk [],boot_drawn,boot_toks,os} (topStub p)).bind (ends p (abJ w.params)):=by
  unfold topFrom;rw[GS];dsimp only;rw[Av,DM];rfl
 rw[t];cases hT:jA treeTable p w 11 (some (.ref 6)) N (DO w os) (topStub p)with
 |none=>rw[hT]at g;cases g
 |some s₁ =>
  have r:=mO hT;rw[boot_abs]at r;rw[hT]at g;rw[r];exact g
end L2.Hd
namespace hJ
open PySem L2
def top (i:Nat):Stmt:=PySem.Challenge.pw_archrow_k18_weights_refused.main.body.getD i (.Pass {0,0,0,0})
abbrev bW:Stmt:=top 15
abbrev dS:Stmt:=top 16
abbrev eJ:Stmt:=top 17
abbrev fx:Stmt:=top 18
abbrev cC:Stmt:=top 19
abbrev dU:Stmt:=top 20
abbrev dW:Stmt:=top 21
abbrev dw:Stmt:=top 22
abbrev dy:Stmt:=top 23
abbrev cD:Stmt:=top 24
abbrev e9:Stmt:=top 26
abbrev cO:Stmt:=top 27
abbrev bE:Stmt:=top 28
abbrev cj:Stmt:=top 29
abbrev b5:Stmt:=top 30
abbrev cZ:Stmt:=top 31
abbrev dz:Stmt:=top 32
abbrev fv:Stmt:=top 33
abbrev eI:Stmt:=top 34
abbrev dY:Stmt:=top 36
abbrev eZ:Stmt:=top 37
abbrev eY:Stmt:=top 38
abbrev iN:Stmt:=top 39
abbrev eM:Stmt:=top 40
abbrev dX:Stmt:=top 41
abbrev gw:Stmt:=top 42
abbrev gv:Stmt:=top 43
abbrev iO:Stmt:=top 44
abbrev fw:Stmt:=top 45
abbrev mY:Stmt:=top 46
noncomputable abbrev vS (x:Str)(t:Nat):Y1:=.str x t
noncomputable abbrev kE (P:Params)(x:Str)(t:Nat)(v:Y1):ab0:={PyData.keyHash P x,.str x t,v}
noncomputable abbrev kC (n:Str)(t l p r8 WB Wc:Nat)(VT VS VR:Y1)(Wa WA V0:Nat):Obj:={cls:=.type "code",data:=.fields #[vS n t,vS n (t+1),vS "/claim/cut.py" (t+2),.int l 0,.int p 0,.int 0 0,.int 0 0,.int 3 0,.ref r8,.bool true,.int WB 0,.ref Wc,VT,VS,VR,.ref Wa,.int WA 0,.int l 0,vS "/claim/cut.py" V0]}
noncomputable abbrev PK (st:Stmt)(x m:Str)(t c:Nat):ZL:=PySem.W.fnOf x x (mx st) (d3 st) (ao st) .none .none .none (vS m t) none (.ref c) .none
noncomputable abbrev kF (st:Stmt)(x m:Str)(t c:Nat):Obj:={cls:=.type "function",data:=.func (PK st x m t c)}
noncomputable abbrev kX (x:Str)(a A t:Nat):Obj:={cls:=.type "type",data:=.cls {name:=x,bases:=[.ref A],mro:=[.ref a,.ref A,.type "ValueError",.type "Exception",.type "BaseException",.type "object"],ns:=a-1,qualname:=x},slots:=#[some (.ref (a-9)),none,some (vS x t),some (vS x (t+8)),some (.builtin "ValueError.__new__"),some (.bool true)]}
noncomputable abbrev kN (P:Params)(a t m l:Nat):Obj:={cls:=.type "dict",data:=.dict #[kE P "__module__" (t+7) (vS "archrow.errors" m),kE P "__firstlineno__" (t+11) (.int l (t+10)),kE P "__static_attributes__" (t+12) (.ref (a-2)),kE P "__doc__" (t+13) .none] 2}
noncomputable def KK:Params->PySem.W.Frag:=λP=>[(3,{cls:=.type "dict",data:=.dict #[kE P "__name__" 165 (vS "law_archrow_k18_weights_refused" 552),kE P "__doc__" 166 .none,kE P "__package__" 167 .none,kE P "__loader__" 168 (.builtin "__main__.__loader__#opaque"),kE P "__spec__" 169 .none,kE P "__annotations__" 170 (.ref 6),kE P "__builtins__" 171 (.ref 4),kE P "__file__" 173 (vS "/claim/cut.py" 172),kE P "__cached__" 174 .none,kE P "ArchError" 206 (.ref 24),kE P "NoRow" 222 (.ref 37),kE P "NoTie" 238 (.ref 49),kE P "NoStretch" 254 (.ref 61),kE P "NoWeights" 270 (.ref 73),kE P "NoNumber" 286 (.ref 85),kE P "NoSet" 302 (.ref 97),kE P "NoGap" 318 (.ref 109),kE P "NoPlace" 334 (.ref 121),kE P "NoShape" 350 (.ref 133),kE P "NoText" 366 (.ref 145),kE P "NoForm" 382 (.ref 157),kE P "NoneYet" 398 (.ref 169),kE P "stretches_rising" 406 (.ref 176),kE P "partners_of" 412 (.ref 181),kE P "parts_left" 421 (.ref 188),kE P "has_shape" 427 (.ref 193),kE P "greatest_table" 433 (.ref 198),kE P "paper_holds" 439 (.ref 203),kE P "number_with" 450 (.ref 210),kE P "least_number" 456 (.ref 215),kE P "best_choices" 462 (.ref 220),kE P "first_greatest" 479 (.ref 227),kE P "heaviest" 487 (.ref 232),kE P "heaviest_of" 499 (.ref 239),kE P "greatest_weights" 505 (.ref 244),kE P "weights_show" 514 (.ref 251),kE P "check_weights" 522 (.ref 258),kE P "weight_by_tie" 528 (.ref 263),kE P "best_by_size" 534 (.ref 268),kE P "sets_with" 540 (.ref 273),kE P "put_better" 551 (.ref 280),kE P "_law_cell_at" 561 (.ref 287),kE P "_law_deck" 568 (.ref 294),kE P "_law_take" 578 (.ref 301),kE P "_law_row" 594 (.ref 308),kE P "_law_copied" 601 (.ref 315),kE P "_law_weights" 615 (.ref 322),kE P "_law_kind" 624 (.ref 329),kE P "_law_word" 636 (.ref 336),kE P "_law_due" 646 (.ref 343),kE P "_law_right" 652 (.ref 348),kE P "law" 667 (.ref 355)] 52}),
 (175,kC "stretches_rising" 401 29 1 172 181 173 .none .none .none 174 404 405),
 (176,kF bW "stretches_rising" "archrow.stretches" 399 175),
 (180,kC "partners_of" 407 31 1 177 181 178 .none .none .none 179 410 411),
 (181,kF dS "partners_of" "archrow.stretches" 399 180),
 (187,kC "parts_left" 413 37 3 182 181 183 .none (.ref 184) (.ref 185) 186 419 420),
 (188,kF eJ "parts_left" "archrow.stretches" 399 187),
 (192,kC "has_shape" 422 41 2 189 181 190 .none .none .none 191 425 426),
 (193,kF fx "has_shape" "archrow.stretches" 399 192),
 (197,kC "greatest_table" 428 43 2 194 181 195 .none .none .none 196 431 432),
 (198,kF cC "greatest_table" "archrow.stretches" 399 197),
 (202,kC "paper_holds" 434 50 3 199 181 200 .none .none .none 201 437 438),
 (203,kF dU "paper_holds" "archrow.stretches" 399 202),
 (209,kC "number_with" 440 58 5 204 181 205 .none (.ref 206) (.ref 207) 208 448 449),
 (210,kF dW "number_with" "archrow.stretches" 399 209),
 (214,kC "least_number" 451 60 5 211 181 212 .none .none .none 213 454 455),
 (215,kF dw "least_number" "archrow.stretches" 399 214),
 (219,kC "best_choices" 457 63 5 216 181 217 .none .none .none 218 460 461),
 (220,kF dy "best_choices" "archrow.stretches" 399 219),
 (226,kC "first_greatest" 463 69 5 221 181 222 .none (.ref 223) (.ref 224) 225 477 478),
 (227,kF cD "first_greatest" "archrow.stretches" 399 226),
 (231,kC "heaviest" 482 82 2 228 181 229 .none .none .none 230 485 486),
 (232,kF e9 "heaviest" "archrow.weights" 480 231),
 (238,kC "heaviest_of" 488 89 3 233 181 234 .none (.ref 235) (.ref 236) 237 497 498),
 (239,kF cO "heaviest_of" "archrow.weights" 480 238),
 (243,kC "greatest_weights" 500 98 2 240 181 241 .none .none .none 242 503 504),
 (244,kF bE "greatest_weights" "archrow.weights" 480 243),
 (250,kC "weights_show" 506 101 3 245 181 246 .none (.ref 247) (.ref 248) 249 512 513),
 (251,kF cj "weights_show" "archrow.weights" 480 250),
 (257,kC "check_weights" 515 104 2 252 181 253 .none (.ref 254) (.ref 255) 256 520 521),
 (258,kF b5 "check_weights" "archrow.weights" 480 257),
 (262,kC "weight_by_tie" 523 107 2 259 181 260 .none .none .none 261 526 527),
 (263,kF cZ "weight_by_tie" "archrow.weights" 480 262),
 (267,kC "best_by_size" 529 109 2 264 181 265 .none .none .none 266 532 533),
 (268,kF dz "best_by_size" "archrow.weights" 480 267),
 (272,kC "sets_with" 535 121 4 269 181 270 .none .none .none 271 538 539),
 (273,kF fv "sets_with" "archrow.weights" 480 272),
 (279,kC "put_better" 541 124 2 274 181 275 .none (.ref 276) (.ref 277) 278 549 550),
 (280,kF eI "put_better" "archrow.weights" 480 279),
 (286,kC "_law_cell_at" 554 132 2 281 181 282 .none (.ref 283) (.ref 284) 285 559 560),
 (287,kF dY "_law_cell_at" "law_archrow_k18_weights_refused" 552 286),
 (293,kC "_law_deck" 562 136 1 288 181 289 .none (.ref 290) (.ref 291) 292 566 567),
 (294,kF eZ "_law_deck" "law_archrow_k18_weights_refused" 552 293),
 (300,kC "_law_take" 569 138 2 295 181 296 .none (.ref 297) (.ref 298) 299 576 577),
 (301,kF eY "_law_take" "law_archrow_k18_weights_refused" 552 300),
 (307,kC "_law_row" 579 147 2 302 181 303 .none (.ref 304) (.ref 305) 306 592 593),
 (308,kF iN "_law_row" "law_archrow_k18_weights_refused" 552 307),
 (314,kC "_law_copied" 595 166 1 309 181 310 .none (.ref 311) (.ref 312) 313 599 600),
 (315,kF eM "_law_copied" "law_archrow_k18_weights_refused" 552 314),
 (321,kC "_law_weights" 602 168 2 316 181 317 .none (.ref 318) (.ref 319) 320 613 614),
 (322,kF dX "_law_weights" "law_archrow_k18_weights_refused" 552 321),
 (328,kC "_law_kind" 616 183 1 323 181 324 .none (.ref 325) (.ref 326) 327 622 623),
 (329,kF gw "_law_kind" "law_archrow_k18_weights_refused" 552 328),
 (335,kC "_law_word" 625 190 4 330 181 331 .none (.ref 332) (.ref 333) 334 634 635),
 (336,kF gv "_law_word" "law_archrow_k18_weights_refused" 552 335),
 (342,kC "_law_due" 637 206 4 337 181 338 .none (.ref 339) (.ref 340) 341 644 645),
 (343,kF iO "_law_due" "law_archrow_k18_weights_refused" 552 342),
 (347,kC "_law_right" 647 212 3 344 181 345 .none .none .none 346 650 651),
 (348,kF fw "_law_right" "law_archrow_k18_weights_refused" 552 347),
 (354,kC "law" 653 221 1 349 181 350 .none (.ref 351) (.ref 352) 353 665 666),
 (355,kF mY "law" "law_archrow_k18_weights_refused" 552 354),
 (24,{cls:=.type "type",data:=.cls {name:="ArchError",bases:=[(.type "ValueError")],mro:=[(.ref 24),(.type "ValueError"),(.type "Exception"),(.type "BaseException"),(.type "object")],ns:=23,qualname:="ArchError",subclasses:=[(.ref 37),(.ref 49),(.ref 61),(.ref 73),(.ref 85),(.ref 97),(.ref 109),(.ref 121),(.ref 133),(.ref 145),(.ref 157),(.ref 169)]},slots:=#[some ((.ref 15)),none,some ((vS "ArchError" 189)),some ((vS "ArchError" 197)),some ((.builtin "ValueError.__new__")),some (.bool true)]}),
 (23,{cls:=.type "dict",data:=.dict #[kE P "__module__" 196 (vS "archrow.errors" 187),kE P "__firstlineno__" 200 (.int 2 199),kE P "__static_attributes__" 201 (.ref 22),kE P "__weakref__" 203 (.ref 25),kE P "__doc__" 204 .none] 3}),
 (37,kX "NoRow" 37 24 207),
 (36,kN P 37 207 187 4),
 (49,kX "NoTie" 49 24 223),
 (48,kN P 49 223 187 6),
 (61,kX "NoStretch" 61 24 239),
 (60,kN P 61 239 187 8),
 (73,kX "NoWeights" 73 24 255),
 (72,kN P 73 255 187 10),
 (85,kX "NoNumber" 85 24 271),
 (84,kN P 85 271 187 12),
 (97,kX "NoSet" 97 24 287),
 (96,kN P 97 287 187 14),
 (109,kX "NoGap" 109 24 303),
 (108,kN P 109 303 187 16),
 (121,kX "NoPlace" 121 24 319),
 (120,kN P 121 319 187 18),
 (133,kX "NoShape" 133 24 335),
 (132,kN P 133 335 187 20),
 (145,kX "NoText" 145 24 351),
 (144,kN P 145 351 187 22),
 (157,kX "NoForm" 157 24 367),
 (156,kN P 157 367 187 24),
 (169,kX "NoneYet" 169 24 383),
 (168,kN P 169 383 187 26)]
noncomputable abbrev HK:PySem.W.Hook:=PySem.W.kHook KK [3,175,176,180,181,187,188,192,193,197,198,202,203,209,210,214,215,219,220,226,227,231,232,238,239,243,244,250,251,257,258,262,263,267,268,272,273,279,280,286,287,293,294,300,301,307,308,314,315,321,322,328,329,335,336,342,343,347,348,354,355,24,23,37,36,49,48,61,60,73,72,85,84,97,96,109,108,121,120,133,132,145,144,157,156,169,168] (λ_=>by kernel_rfl)
noncomputable def view:Y7:={PySem.Challenge.pw_archrow_k18_weights_refused with main:={PySem.Challenge.pw_archrow_k18_weights_refused.main with body:=[top 1,top 2,top 3,top 4,top 5,top 6,top 7,top 8,top 9,top 10,top 11,top 12,top 13,top 15,top 16,top 17,top 18,top 19,top 20,top 21,top 22,top 23,top 24,top 26,top 27,top 28,top 29,top 30,top 31,top 32,top 33,top 34,top 36,top 37,top 38,top 39,top 40,top 41,top 42,top 43,top 44,top 45,top 46]}}
def left:PySem.W.LeftO PySem.Challenge.pw_archrow_k18_weights_refused view [] (λs=>PySem.W.xlAt view [] s&&PySem.W.recOk (PySem.W.RowW.records PySem.Challenge.rw_archrow_k18_weights_refused.row.toRowW) s) HK.obs HK.val 7476:=L2.Hd.zE (by kernel_rfl) (by kernel_rfl) (λ_=>rfl) (λw os=>by kernel_rfl)
end hJ
namespace L2
open PySem PySem.Spec PyProof.Rows
abbrev Key:=Sum Int Str
def qj:Key->Y1->Bool
 |.inl k,v=>Value.isInt k v
 |.inr x,v=>Value.isStrOf x v
def Ru (w:Zj):Key->Int
 |.inl k=>hashInt k
 |.inr x=>hashStr w x
theorem bK:∀{k:Key} {v:Y1},qj k v=true->(∃i t,k=Sum.inl i/\v=Value.int i t)\/(∃x t,k=acp x/\v=Value.str x t)
 |.inl i,v,h=>by
  obtain⟨t,e⟩:=Value.isInt_shape (k:=i) (v:=v) h;exact .inl {(i),t,rfl,e}
 |.inr x,v,h=>by
  obtain⟨t,e⟩:=Value.isStrOf_shape (x:=x) (v:=v) h;exact .inr {(x),t,rfl,e}
def zI (i:Int)(t:Tok):qj (.inl i) (.int i t)=true:=by simp[qj,Value.isInt]
def zH (x:Str)(t:Tok):qj (.inr x) (.str x t)=true:=by simp[qj,Value.isStrOf]
def Kh (a b:Int):decide ((Sum.inl a:Key)=Sum.inl b)=(a==b):=by
 by_cases e:a=b
 ·subst e;simp
 ·have h:¬ (Sum.inl a:Key)=Sum.inl b:=λq=>e (Sum.inl.inj q);rw[decide_eq_false h];exact(beq_eq_false_iff_ne.mpr e).symm
def Ke (a b:Str):decide ((acp a:Key)=acp b)=decide (a=b):=by
 by_cases e:a=b
 ·subst e;simp
 ·have h:¬ (acp a:Key)=acp b:=λq=>e (Sum.inr.inj q);rw[decide_eq_false h,decide_eq_false e]
def Kg (a:Int)(b:Str):decide ((Sum.inl a:Key)=acp b)=false:=decide_eq_false (λq=>nomatch q)
def Kf (a:Str)(b:Int):decide ((acp a:Key)=Sum.inl b)=false:=decide_eq_false (λq=>nomatch q)
def bZ (prog:Y7)(w:Zj):PySem.KeyKind prog w Key where
 is:=qj
 hash:=Ru w
 inj:=λv a b ha hb=>by
  rcases bK ha with⟨i,t,rfl,rfl⟩|⟨x,t,rfl,rfl⟩
  ·rcases bK hb with⟨j,u,rfl,e⟩|⟨y,u,rfl,e⟩
   ·injection e with e1 _;rw[e1]
   ·exact nomatch e
  ·rcases bK hb with⟨j,u,rfl,e⟩|⟨y,u,rfl,e⟩
   ·exact nomatch e
   ·injection e with e1 _;rw[e1]
 byValue:=λk v h=>by
  rcases bK h with⟨i,t,rfl,rfl⟩|⟨x,t,rfl,rfl⟩ <;> rfl
 pyHash:=λhv h=>by
  rcases bK hv with⟨i,t,rfl,rfl⟩|⟨x,t,rfl,rfl⟩
  ·exact wpAny_pyHash_int h
  ·exact wpAny_pyHash_str h
 eqBool:=λhu hv h=>by
  rcases bK hu with⟨i,t,rfl,rfl⟩|⟨x,t,rfl,rfl⟩
  ·rcases bK hv with⟨j,u,rfl,rfl⟩|⟨y,u,rfl,rfl⟩
   ·rw[Kh]at h;exact wpAny_eqBool_int h
   ·rw[Kg]at h;exact SeqAt.EqAt.int_str i t y u _ _ _ _ h
  ·rcases bK hv with⟨j,u,rfl,rfl⟩|⟨y,u,rfl,rfl⟩
   ·rw[Kf]at h;exact SeqAt.EqAt.str_int x t j u _ _ _ _ h
   ·rw[Ke]at h;exact wpAny_eqBool_str h
 «strs»:=λk x t v h=>by
  rcases bK h with⟨i,u,rfl,e⟩|⟨y,u,rfl,e⟩
  ·exact nomatch e
  ·injection e with e1 _
   subst e1;cases v <;> rfl
def t_ (prog:Y7)(w:Zj)(i:Int)(t:Tok):(bZ prog w).is (.inl i) (.int i t)=true:=zI i t
def t9 (prog:Y7)(w:Zj)(x:Str)(t:Tok):(bZ prog w).is (.inr x) (.str x t)=true:=zH x t
inductive V where
 |cN|bl (b:Bool)|int (i:Int)|str (x:Str)|O5 (b:Array UInt8)|TQ (b:UInt64)|ref (a:Addr)|ty (n:String)
 deriving DecidableEq
def RelV:V->Y1->Prop
 |.cN,u=>u=Value.none
 |.bl b,u=>u=Value.bool b
 |.int i,u=>∃t,u=Value.int i t
 |.str x,u=>∃t,u=Value.str x t
 |.O5 b,u=>∃t,u=Value.bytes b t
 |.TQ b,u=>∃t,u=Value.float b t
 |.ref a,u=>u=Value.ref a
 |.ty n,u=>u=Value.type n
abbrev Vals:List V->List Y1->Prop:=Paired RelV
def Vals.length {xs:List V}{us:List Y1}(r:Vals xs us):xs.length=us.length:=Paired.length r
theorem Vals.get:∀{xs:List V} {us:List Y1} {i:Nat} {x:V},Vals xs us->xs[i]?=some x->∃u,us[i]?=some u/\RelV x u
 |_,_,_,_,.nil,e=>by simp at e
 |_,_,0,_,.cons r _,e=>by simp at e;subst e;exact{_,rfl,r}
 |_,_,i+1,x,.cons _ t,e=>by
  obtain⟨u,h1,h2⟩:=Vals.get (i:=i) (x:=x) t (by simpa using e)
  exact{u,by simpa using h1,h2}
theorem Vals.set {x:V}{u:Y1}(r:RelV x u):∀{xs:List V} {us:List Y1} (i:Nat),Vals xs us->Vals (xs.set i x) (us.set i u)
 |_,_,_,.nil=>.nil
 |_,_,0,.cons _ t=>.cons r t
 |_,_,i+1,.cons q t=>.cons q (Vals.set r i t)
theorem Vals.append:∀{xs ys:List V} {us ws:List Y1},Vals xs us->Vals ys ws->Vals (xs++ys) (us++ws)
 |_,_,_,_,.nil,s=>s
 |_,_,_,_,.cons r t,s=>.cons r (Vals.append t s)
theorem Vals.take:∀{xs:List V} {us:List Y1} (n:Nat),Vals xs us->Vals (xs.take n) (us.take n)
 |_,_,0,_=>.nil
 |_,_,_+1,.nil=>.nil
 |_,_,n+1,.cons r t=>.cons r (Vals.take n t)
theorem Vals.drop:∀{xs:List V} {us:List Y1} (n:Nat),Vals xs us->Vals (xs.drop n) (us.drop n)
 |_,_,0,r=>r
 |_,_,_+1,.nil=>.nil
 |_,_,n+1,.cons _ t=>Vals.drop n t
def Vals.none_of:∀{xs:List V} {us:List Y1} {i:Nat},Vals xs us->xs[i]?=none->us[i]?=none:=λ{xs us i} r e=>by
 have h1:=r.length;have h2:xs.length<=i:=abv.mp e;exact abv.mpr (by lia)
def pj:Option V->Option Y1->Prop
 |some v,some u=>RelV v u
 |none,none=>True
 |_,_=>False
def KV {κ:Type}:List (κ×V)->List (κ×Y1)->Prop:=Paired λ(p:κ×V) (q:κ×Y1)=>p.1=q.1/\RelV p.2 q.2
def kV:Key->V
 |.inl i=>.int i
 |.inr x=>.str x
inductive HO where
 |lst (xs:List V)
 |tup (xs:List V)
 |dK (kvs:List (Key×V))|dT (kvs:List (List Key×V))
 |set (S:Int->Bool) (n:Nat)
 |ins (C dx:Addr) (fs:List (Str×V))
 |own (x:Addr)
 |xd (fs:List (Str×V))
 |met (f x:Addr)
 |Py (lo hi:Int)
 |C7 (o:Obj) (u:HO)
 |G7 (ps:Array Y1)
 |ext (φ:Heap->Prop)
abbrev Hp:=Addr->Option HO
def upd (H:Hp)(a:Addr)(o:HO):Hp:=λb=>if b=a then some o else H b
def ak {H:Hp}{a:Addr}{o:HO}:upd H a o a=some o:=by unfold upd;rw[if_pos rfl]
def au {H:Hp}{a b:Addr}{o:HO}(h:b≠a):upd H a o b=H b:=by unfold upd;rw[if_neg h]
def Ci {H:Hp}{a b:Addr}{o u:HO}(h:H a=some o)(h':H b=some u)(d:o≠u):a≠b:=by
 intro e;subst e;rw[h]at h';exact d (ZZ h')
def c8 {H:Hp}{a b:Addr}{o:HO}(h:H a=some o)(h':H b=none):a≠b:=by
 intro e;subst e;rw[h]at h';cases h'
section
variable (P:Y7)(w:Zj)
def cL (H:Hp)(h:Heap)(a:Addr):HO->Prop
 |.lst xs=>xs.length<=Zd/\∃(its:List Y1) (n:Nat),Vals xs its/\h.get? a=some {cls:=.type "list",data:=.seq its.toArray n}
 |.tup xs=>xs.length<=Zd/\∃its:List Y1,Vals xs its/\IsTup h a its.toArray
 |.dK kvs=>kvs.length<=Zd/\(a==aaQ)=false/\∃vs,KV kvs vs/\h.DictOf (bZ P w) a vs
 |.dT kvs=>kvs.length<=Zd/\(a==aaQ)=false/\∃xs:List (List Key×Addr×Y1),
   Paired (λ(p:List Key×V) (q:List Key×Addr×Y1)=>p.1=q.1/\H q.2.1=some (.tup (p.1.map kV))/\RelV p.2 q.2.2) kvs xs /\
   ∃o es ep,h.get? a=some o/\o.ExactDict/\o.data=.dict es ep/\es.toList=xs.map (entryOfKey (acz (bZ P w)))/\(xs.map (·.1)).Nodup
 |.set S n=>h.SetOf (intKind P w) a S n
 |.ins C dx fs=>H dx=some (.own a)/\fs.length<=1000/\dx≠a/\h.get? a=some (PySem.W.instObj C dx) /\
   ∃mA,h.Ns1 dx mA/\(∀f,pj (fs.lookup f) (mA f))/\PySem.Within mA (fs.map (·.1))
 |.own _=>∃o,h.get? a=some o
 |.xd fs=>∃mA,h.Ns1 a mA/\∀f,pj (fs.lookup f) (mA f)
 |.Py lo hi=>∃t u v,h.get? a=some {cls:=.type "range",data:=.fields #[.int lo t,.int hi u,.int 1 v]}
 |.C7 o u=>h.get? a=some o/\cL H h a u
 |.G7 ps=>h.get? a=some {cls:=.none,data:=.fields ps}
 |.met f x=>h.get? a=some (PySem.W.methodObj (.ref f) (.ref x))
 |.ext φ=>φ h/\(∃o,h.get? a=some o)/\∀h1 h2:Heap,φ h1->(∀o,h1.get? a=some o->h2.get? a=some o)->φ h2
def g9 (H:Hp)(h:Heap):Prop:=∀a o,H a=some o->cL P w H h a o
end
section
variable {P:Y7}{w:Zj}{H H':Hp}{h h':Heap}{a:Addr}{o:HO}
def cL.lt (x:cL P w H h a o):a<h.objs.size:=by
 cases o with
 |lst xs=>obtain⟨_,_,_,_,e⟩:=x;exact Zo e
 |tup xs=>obtain⟨_,_,_,p⟩:=x;exact p.lt
 |dK kvs=>obtain⟨_,_,_,_,o,_,_,e,_⟩:=x;exact Zo e
 |dT kvs=>obtain⟨_,_,_,_,o,_,_,e,_⟩:=x;exact Zo e
 |set S n=>obtain⟨o,_,_,_,e,_⟩:=x;exact Zo e
 |ins C dx fs=>obtain⟨_,_,_,e,_⟩:=x;exact Zo e
 |own y=>obtain⟨_,e⟩:=x;exact Zo e
 |xd fs=>obtain⟨_,⟨_,_,_,e,_⟩,_⟩:=x;exact Zo e
 |Py lo hi=>obtain⟨_,_,_,e⟩:=x;exact Zo e
 |C7 ob u=>obtain⟨e,_⟩:=x;exact Zo e
 |G7 ps=>exact Zo (show h.get? a=some _ from x)
 |met f y=>exact Zo (show h.get? a=some _ from x)
 |ext φ=>obtain⟨_,⟨_,e⟩,_⟩:=x;exact Zo e
theorem Paired.J0 {α β:Type}{F G:α->β->Prop}:∀{l₁:List α} {l₂:List β},Paired F l₁ l₂->(∀a b,F a b->G a b)->Paired G l₁ l₂
 |_,_,.nil,_=>.nil
 |_,_,.cons r t,f=>.cons (f _ _ r) (Paired.J0 t f)
def cL.mS (x:cL P w H h a o)(k:∀b u,(b=a\/H b=some (.own a))->h.get? b=some u->h'.get? b=some u)
  (ho:∀b,H b=some (.own a)->H' b=some (.own a)) (ht:∀b xs,H b=some (.tup xs)->H' b=some (.tup xs)):cL P w H' h' a o:=by
 induction o with
 |lst xs=>obtain⟨z,its,n,r,e⟩:=x;exact{z,its,n,r,k _ _ (.inl rfl) e}
 |tup xs=>obtain⟨z,its,r,ob,e,c⟩:=x;exact{z,its,r,ob,k _ _ (.inl rfl) e,c}
 |dK kvs=>obtain⟨z,y,vs,r,ob,es,ep,e,c⟩:=x;exact{z,y,vs,r,ob,es,ep,k _ _ (.inl rfl) e,c}
 |dT kvs =>
  obtain⟨z,y,xs,r,ob,es,ep,e,c⟩:=x;exact{z,y,xs,Paired.J0 r λp q z=>{z.1,ht _ _ z.2.1,z.2.2},ob,es,ep,k _ _ (.inl rfl) e,c}
 |set S n=>obtain⟨ob,es,ep,t,e,c⟩:=x;exact{ob,es,ep,t,k _ _ (.inl rfl) e,c}
 |ins C dx fs =>
  obtain⟨d,z,ne,e,mA,⟨od,es,ep,e2,c⟩,r⟩:=x;exact{ho _ d,z,ne,k _ _ (.inl rfl) e,mA,{od,es,ep,k _ _ (.inr d) e2,c},r}
 |own y=>obtain⟨ob,e⟩:=x;exact{ob,k _ _ (.inl rfl) e}
 |xd fs=>obtain⟨mA,⟨od,es,ep,e,c⟩,r⟩:=x;exact{mA,{od,es,ep,k _ _ (.inl rfl) e,c},r}
 |Py lo hi=>obtain⟨t,u,v,e⟩:=x;exact{t,u,v,k _ _ (.inl rfl) e}
 |C7 ob u ih=>obtain⟨e,q⟩:=x;exact{k _ _ (.inl rfl) e,ih q}
 |G7 ps =>
  have e:h.get? a=some {cls:=.none,data:=.fields ps}:=x;show h'.get? a=some {cls:=.none,data:=.fields ps};exact k a _ (.inl rfl) e
 |met f y =>
  have e:h.get? a=some (PySem.W.methodObj (.ref f) (.ref y)):=x;show h'.get? a=some (PySem.W.methodObj (.ref f) (.ref y));exact k a _ (.inl rfl) e
 |ext φ=>obtain⟨p,⟨o,e⟩,st⟩:=x;exact{st _ _ p λo q=>k _ _ (.inl rfl) q,{o,k _ _ (.inl rfl) e},st}
def g9.lt (x:g9 P w H h)(e:H a=some o):a<h.objs.size:=(x a o e).lt
def g9.fresh (x:g9 P w H h)(e:h.objs.size<=a):H a=none:=by
 cases q:H a with
 |none=>rfl
 |some u=>exact absurd (ZD (x.lt q) e) (aa0 _)
def g9.kept (x:g9 P w H h)(k:∀b u,h.get? b=some u->h'.get? b=some u):g9 P w H h':=λa o e =>
 (x a o e).mS (λb u _ q=>k b u q) (λ_ q=>q) λ_ _ q=>q
def g9.laid (x:g9 P w H h)(k:∀b u,h.get? b=some u->h'.get? b=some u)(hp:h.objs.size<=a)(new:cL P w (upd H a o) h' a o):g9 P w (upd H a o) h':=λb u e=>by
 have hn:=x.fresh hp
 by_cases hb:b=a
 ·subst hb;rw[ak]at e;cases e;exact new
 ·rw[au hb]at e;exact(x b u e).mS (λc v _ q=>k c v q) (λc q=>by rw[au (c8 q hn)];exact q) λc xs q=>by rw[au (c8 q hn)];exact q
end
def Rd (H:Hp)(a:Addr)(u:HO):Prop:=H a=some u\/∃o,H a=some (.C7 o u)
def Rd.ok {P:Y7}{w:Zj}{H:Hp}{h:Heap}{a:Addr}{u:HO}(r:Rd H a u)(x:g9 P w H h):cL P w H h a u:=by
 rcases r with r|⟨o,r⟩
 ·exact x a u r
 ·obtain⟨_,q⟩:=x a _ r;exact q
def Pf:Option HO->Prop
 |some (.lst _)=>True
 |some (.dK _)=>True
 |some (.dT _)=>True
 |some (.set _ _)=>True
 |some (.ins _ _ _)=>True
 |some (.ext _)=>True
 |_=>False
section
variable {P:Y7}{w:Zj}{H:Hp}{h h':Heap}{x e:Addr}{o':HO}
def g9.write (ok:g9 P w H h)(mu:Pf (H x))(he:e=x\/H e=some (.own x))(k:∀b u,b≠e->h.get? b=some u->h'.get? b=some u)(LS:∃u,h'.get? e=some u)
  (new:cL P w (upd H x o') h' x o'):g9 P w (upd H x o') h':=λb u q=>by
 have M4:∀c y,H c=some (.own y)->c≠x:=λc y r z=>by subst z;rw[r]at mu;exact mu
 have Rb:∀c xs,H c=some (.tup xs)->c≠x:=λc xs r z=>by subst z;rw[r]at mu;exact mu
 by_cases hb:b=x
 ·subst hb;rw[ak]at q;cases q;exact new
 ·rw[au hb]at q
  by_cases KY:b=e
  ·have q':H b=some (.own x):=by
    rcases he with z|z
    ·exact absurd (KY.trans z) hb
    ·rw[KY];exact z
   rw[q]at q';cases q';obtain⟨v,hv⟩:=LS;exact{v,by rw[KY];exact hv}
  ·refine(ok b u q).mS (λc v hc r=>k c v ?_ r) (λc r=>by rw[au (M4 c b r)];exact r) λc xs r=>by rw[au (Rb c xs r)];exact r
   rcases hc with rfl|hc
   ·exact KY
   ·rintro rfl;rcases he with z|z
    ·exact M4 c b hc z
    ·rw[hc]at z;cases z;exact hb rfl
end
structure Un (fs ex:List Addr)(H H':Hp)(h h':Heap):Prop where
 keep:∀b o,h.get? b=some o->H b=none->b∉fs->b∉ex->h'.get? b=some o
 slot:∀b o,h.get? b=some o->H b=none->b∈fs->b∉ex->∃sl,h'.get? b=some {o with slots:=sl}
 free:∀b o,h.get? b=some o->H b=none->b∉ex->H' b=none
 there:∀b o,h.get? b=some o->b∉ex->∃o',h'.get? b=some o'
 je:∀b xs,H b=some (.tup xs)->H' b=some (.tup xs)
 i6:∀b o u,H b=some (.C7 o u)->H' b=some (.C7 o u)
 jf:∀b ps,H b=some (.G7 ps)->∃more,H' b=some (.G7 (ps++more))
section
variable {fs ex:List Addr}{H H1:Hp}{h h1 h':Heap}{a x e:Addr}{o:HO}
def Un.any (u:Un fs ex H H1 h h1){b:Addr}{ob:Obj}(q:h.get? b=some ob)(n:H b=none)(hx:b∉ex):∃sl,h1.get? b=some {ob with slots:=sl}:=by
 by_cases hb:b∈fs
 ·exact u.slot b ob q n hb hx
 ·exact{ob.slots,u.keep b ob q n hb hx}
def Un.kept (k:∀b u,h.get? b=some u->h'.get? b=some u):Un fs ex H H h h' :=
 {λb ob q _ _ _=>k b ob q,λb ob q _ _ _=>{ob.slots,k b ob q},λ_ _ _ n _=>n,λb ob q _=>{ob,k b ob q},λ_ _ q=>q,λ_ _ _ q=>q,λ_ ps q=>{#[],by rw[q];simp}}
def Un.refl:Un fs ex H H h h:=Un.kept λ_ _ q=>q
def Un.laid (k:∀b u,h.get? b=some u->h'.get? b=some u)(hp:h.objs.size<=a)(hn:H a=none):Un fs ex H (upd H a o) h h' where
 keep:=λb u q _ _ _=>k b u q
 slot:=λb u q _ _ _=>{u.slots,k b u q}
 free:=λb u q n _=>by rw[au (ZQ (ZD (Zo q) hp))];exact n
 there:=λb u q _=>{u,k b u q}
 je:=λb xs q=>by rw[au (c8 q hn)];exact q
 i6:=λb u xs q=>by rw[au (c8 q hn)];exact q
 jf:=λb ps q=>{#[],by rw[au (c8 q hn),q];simp}
def Un.write (mu:Pf (H x))(he:e=x\/H e=some (.own x))(k:∀b u,b≠e->h.get? b=some u->h'.get? b=some u)(LS:∃u,h'.get? e=some u):Un fs ex H (upd H x o) h h':=by
 have hx:∀b,H b=none->b≠x:=λb n z=>by subst z;rw[n]at mu;exact mu
 have hb:∀b,H b=none->b≠e:=λb n z=>by
  subst z;rcases he with r|r
  ·exact hx b n r
  ·rw[n]at r;cases r
 have hm:∀b u,H b=some u->¬ Pf (some u)->b≠x:=λb u q nm z=>by subst z;rw[q]at mu;exact nm mu
 refine⟨λb u q n _ _=>k b u (hb b n) q,λb u q n _ _=>{u.slots,k b u (hb b n) q},λb u q n _=>by rw[au (hx b n)];exact n,λb u q _=>?_,
  λb xs q=>by rw[au (hm b _ q λz=>z)];exact q,λb u xs q=>by rw[au (hm b _ q λz=>z)];exact q,λb ps q=>{#[],by rw[au (hm b _ q λz=>z),q];simp}⟩
 by_cases KY:b=e
 ·subst KY;exact LS
 ·exact{u,k b u KY q}
end
def LF (h:Heap)(H:Hp):List Addr:=(Zv h.objs.size).filter λa=>(H a).isSome
def sj (h:Heap)(H:Hp):Heap:=PySem.W.hideAll h (LF h H)
def zS (h:Heap)(H:Hp):(sj h H).objs.size=h.objs.size:=PySem.W.hideAll_size _ _
def CY {h:Heap}{H:Hp}{b:Addr}{o:Obj}(e:h.get? b=some o)(n:H b=none):(sj h H).get? b=some o :=
 PySem.W.hideAll_get _ e λhm=>by
  have q:(H b).isSome=true:=(aap.mp hm).2;rw[n]at q;simp at q
def FJ {h:Heap}{H:Hp}{b:Addr}{o:Obj}(e:(sj h H).get? b=some o):h.get? b=some o/\H b=none:=by
 have e':h.get? b=some o:=PySem.W.of_hideAll (LF h H) e;refine{e',?_};cases q:H b with
 |none=>rfl
 |some x =>
  have hm:b∈LF h H:=aap.mpr {aae.mpr (Zo e'),by simp[q]}
  have z:(sj h H).get? b=none:=PySem.W.hideAll_none (LF h H) hm;rw[z]at e;cases e
structure Mod (K:PySem.W.Frag)(mg:Str->Option Y1)(base:Heap):Prop where
 PJ:K.In base
 glob:base.Ns aaL mg
 blt:∃mb,base.Ns builtinsNs mb/\∀x:Str,x≠"__name__" -> mb x=Z9 x
 nolimit:base.NoLimit
structure Cx where
 prog:Y7
 w:Zj
 K:PySem.W.Frag
 mg:Str->Option Y1
 base:Heap
 A:Z0
 N:List Str
 s₀:Y4
 H₀:Hp
 env:Env
 outer:List Env
 stack:List Env
 ex:List Addr
 fn:Str->Bool
 calm:Bool
 pn:List (Addr×Obj)
 xe:Y1->Y4->Prop
def hG (l:List Env):List Addr:=l.filterMap (·.frame)
abbrev Cx.fs (X:Cx):List Addr:=hG X.outer
def oK (sc:abB)(x:Str):Prop:=sc.names.lookup x=some .local\/sc.names.lookup x=some .cell\/sc.names.lookup x=some .free
def Loc (sc:abB)(x:Str):Prop:=sc.names.lookup x=some .local\/sc.names.lookup x=some .cell
def Look (env:Env)(h:Heap)(m:Str->Option Y1)(x:Str)(u:Y1):Prop :=
 (env.kindOf x=some .local/\m x=some u)\/((env.kindOf x=some .cell\/env.kindOf x=some .free)/\∃c,env.cells.lookup x=some c/\h.IsCell c (some u))
structure Cx.Ok (X:Cx):Prop where
 mod:Mod X.K X.mg X.base
 kind:X.env.scope.kind=.function
 glob:X.env.globals=aaL
 blt:X.env.builtins=builtinsNs
 above:X.s₀.heap.objs.size<=X.env.locals
 inj:∀x y c,X.env.cells.lookup x=some c->X.env.cells.lookup y=some c->x=y
 has:∀x,(X.env.kindOf x=some .cell\/X.env.kindOf x=some .free)->∃c,X.env.cells.lookup x=some c
 Ib:∀x c,X.fn x=true->X.env.cells.lookup x=some c->X.s₀.heap.objs.size<=c
 hd:X.calm=true->X.A.handled=none
 frames:X.A.frames=some X.stack
 IP:X.stack=X.outer\/(X.stack=X.env::X.outer/\X.env.frame=some X.env.locals)
 K4:∀b∈X.ex,b≠X.env.locals/\∀x c,X.env.cells.lookup x=some c->c≠b
 bs:∀b o,X.base.get? b=some o->X.s₀.heap.get? b=some o/\X.H₀ b=none
 DK:X.base.objs.size<=X.s₀.heap.objs.size
 tY:∀b o,X.base.get? b=some o->b∉X.ex
 uP:∀b∈X.ex,b∉X.fs
 j8:X.s₀.heap.FunFrames X.base X.outer
 Gs:∀b∈X.fs,X.H₀ b=none
structure Inv (X:Cx)(pins:List (Addr×Obj))(σ:List (Option V))(H:Hp)(s:Y4):Prop where
 ok:X.Ok
 os:s.os=X.s₀.os
 bare:acv s.gens
 base:Un X.fs X.ex X.H₀ H X.s₀.heap s.heap
 loc:∃m,s.heap.Ns X.env.locals m/\∀(i:Nat) (x:Str) (v:V),X.N[i]?=some x->σ[i]?=some (some v)->oK X.env.scope x->∃u,RelV v u/\Look X.env s.heap m x u
 cell:∀x c,X.env.cells.lookup x=some c->∃v,s.heap.IsCell c v
 free:H X.env.locals=none
 eG:∀x c,X.env.cells.lookup x=some c->H c=none
 pin:∀p∈X.pn++pins,s.heap.get? p.1=some p.2/\H p.1=none/\p.1≠X.env.locals/\p.1∉X.fs/\∀v,p.2.data≠.cell v
 bB:g9 X.prog X.w H s.heap
 len:σ.length=X.N.length
section
variable {X:Cx}{pins:List (Addr×Obj)}{σ:List (Option V)}{H H':Hp}{s:Y4}{h':Heap}
def Cx.Ok.JU (ok:X.Ok){b:Addr}{o:Obj}(e:X.base.get? b=some o):b∉X.fs:=λhb=>by
 have:=(ok.j8.mem hb).1;rw[e]at this;cases this
def Inv.bs (I:Inv X pins σ H s):∀b o,X.base.get? b=some o->s.heap.get? b=some o/\H b=none:=λb o e =>
 {I.base.keep b o (I.ok.bs b o e).1 (I.ok.bs b o e).2 (I.ok.JU e) (I.ok.tY b o e),I.base.free b o (I.ok.bs b o e).1 (I.ok.bs b o e).2 (I.ok.tY b o e)}
def Inv.bk (I:Inv X pins σ H s):∀b o,X.base.get? b=some o->s.heap.get? b=some o:=λb o e=>(I.bs b o e).1
def Inv.mod (I:Inv X pins σ H s):Mod X.K X.mg X.base:=I.ok.mod
def Inv.AH (I:Inv X pins σ H s):X.K.In s.heap:=I.ok.mod.PJ.keeps I.bk
def Inv.lt (I:Inv X pins σ H s):X.env.locals<s.heap.objs.size:=let ⟨_,hn,_⟩:=I.loc;hn.lt
def Inv.sz (I:Inv X pins σ H s):X.s₀.heap.objs.size<=s.heap.objs.size:=ZX I.ok.above (Nat.le_of_lt I.lt)
def Inv.Rc (I:Inv X pins σ H s){a:Addr}(h:s.heap.objs.size<=a):a∉X.fs:=λhb=>by
 obtain⟨_,o,ho,_⟩:=I.ok.j8.mem hb;exact absurd (ZD (Zo ho) (ZX I.sz h)) (aa0 _)
def Inv.DC (I:Inv X pins σ H s):∀x c,X.env.cells.lookup x=some c->c≠X.env.locals:=λx c e z=>by
 obtain⟨v,o,ho,hd⟩:=I.cell x c e;obtain⟨m,⟨o',es,ep,Gh,KU,_⟩,_⟩:=I.loc;rw[z,Gh]at ho;cases ho;rw[KU]at hd;cases hd
def Inv.j8 (I:Inv X pins σ H s):s.heap.FunFrames X.base X.outer:=by
 have all:∀(l:List Env),(∀b∈hG l,b∈X.fs)->X.s₀.heap.FunFrames X.base l->s.heap.FunFrames X.base l:=by
  intro l
  induction l with
  |nil=>intro _ _;trivial
  |cons env r ih =>
   intro hs hl;obtain⟨hk,⟨L,o,hf,hn,ho,hd⟩,hr⟩:=hl;have hL:L∈X.fs:=hs L (by unfold hG;rw[aat,hf];exact ZK)
   obtain⟨sl,e⟩:=I.base.slot L o ho (I.ok.Gs L hL) hL λz=>I.ok.uP L z hL;exact{hk,{L,_,hf,hn,e,hd},ih (λb hb=>hs b (by unfold hG;rw[aat,hf];exact Zu _ hb)) hr}
 exact all X.outer (λ_ hb=>hb) I.ok.j8
def Inv.stack (I:Inv X pins σ H s):s.heap.FunFrames X.base X.stack:=by
 rcases I.ok.IP with e|⟨e,hf⟩
 ·rw[e];exact I.j8
 ·rw[e];obtain⟨m,hn,_⟩:=I.loc;refine .cons (by rw[I.ok.kind];decide) hf hn ?_ I.j8
  exact Heap.get?_none_of_le (ZX I.ok.DK I.ok.above)
def Inv.vI (I:Inv X pins σ H s):∀b∈hG X.stack,b∈X.env.locals::X.fs:=λb hb=>by
 rcases I.ok.IP with e|⟨e,hf⟩
 ·rw[e]at hb;exact Zu _ hb
 ·rw[e]at hb;unfold hG at hb;rw[aat,hf]at hb;exact hb
def Inv.qX (I:Inv X pins σ H s):∀b∈hG X.stack,H b=none:=λb hb=>by
 rcases Y6.mp (I.vI b hb)with e|hb
 ·rw[e];exact I.free
 ·obtain⟨_,o,ho,_⟩:=I.ok.j8.mem hb;exact I.base.free b o ho (I.ok.Gs b hb) λz=>I.ok.uP b z hb
def Inv.step {g':Array GenState}{t':Nat}{d':Drawn}{ch:List Addr}(I:Inv X pins σ H s)
  (ye:∀b∈ch,(b∈X.ex\/X.s₀.heap.objs.size<=b)/\b≠X.env.locals/\(∀x c,X.env.cells.lookup x=some c->c≠b)/\∀p∈X.pn++pins,p.1≠b)
  (keep:∀b o,b≠X.env.locals->b∉X.fs->b∉ch->s.heap.get? b=some o->H b=none->h'.get? b=some o)
  (slot:∀b o,b≠X.env.locals->b∈X.fs->b∉ch->s.heap.get? b=some o->H b=none->∃sl,h'.get? b=some {o with slots:=sl}) (free:∀b o,b∉ch->s.heap.get? b=some o->H b=none->H' b=none)
  (there:∀b o,b∉ch->s.heap.get? b=some o->∃o',h'.get? b=some o')
  (je:∀b xs,H b=some (.tup xs)->H' b=some (.tup xs)) (i6:∀b o u,H b=some (.C7 o u)->H' b=some (.C7 o u)) (jf:∀b ps,H b=some (.G7 ps)->∃more,H' b=some (.G7 (ps++more)))
  (ns:∀m,s.heap.Ns X.env.locals m->h'.Ns X.env.locals m) (bB:g9 X.prog X.w H' h') (hg:acv g') :
  Inv X pins σ H' {s with heap:=h',gens:=g',drawn:=d',toks:=t'}:=by
 have U0:∀b o,X.s₀.heap.get? b=some o->b≠X.env.locals:=λb o e=>ZQ (ZD (Zo e) I.ok.above);have PF:∀b o,X.s₀.heap.get? b=some o->b∉X.ex->b∉ch:=λb o e hx hb=>by
  rcases (ye b hb).1 with z|z
  ·exact hx z
  ·exact absurd (ZD (Zo e) z) (aa0 _)
 have cellK:∀x c,X.env.cells.lookup x=some c->∀v,s.heap.IsCell c v->h'.IsCell c v:=λx c e v ux=>by
  obtain⟨o,ho,hd⟩:=ux;have M8:c∉ch:=λz=>(ye c z).2.2.1 x c e rfl
  by_cases hc:c∈X.fs
  ·obtain⟨sl,q⟩:=slot c o (I.DC x c e) hc M8 ho (I.eG x c e);exact{_,q,hd}
  ·exact{o,keep c o (I.DC x c e) hc M8 ho (I.eG x c e),hd}
 refine{I.ok,I.os,hg,{λb o e n hb hx=>?_,λb o e n hb hx=>?_,λb o e n hx=>?_,λb o e hx=>?_,λb xs e=>je b xs (I.base.je b xs e),λb o xs e=>i6 b o xs (I.base.i6 b o xs e),λb ps e=>?_},?_,λx c e=>?_,?_,λx c e=>?_,λp hp=>?_,bB,I.len}
 ·exact keep b o (U0 b o e) hb (PF b o e hx) (I.base.keep b o e n hb hx) (I.base.free b o e n hx)
 ·obtain⟨sl,e1⟩:=I.base.slot b o e n hb hx;obtain⟨Hc,e2⟩:=slot b _ (U0 b o e) hb (PF b o e hx) e1 (I.base.free b o e n hx);exact{(Hc),e2}
 ·obtain⟨o',e1⟩:=I.base.there b o e hx;exact free b o' (PF b o e hx) e1 (I.base.free b o e n hx)
 ·obtain⟨o',e1⟩:=I.base.there b o e hx;exact there b o' (PF b o e hx) e1
 ·obtain⟨m1,e1⟩:=I.base.jf b ps e;obtain⟨m2,e2⟩:=jf b _ e1;exact{m1++m2,by rw[e2,Array.append_assoc]}
 ·obtain⟨m,hn,hl⟩:=I.loc;refine{m,ns m hn,λi x v e1 e2 e3=>?_};obtain⟨u,r,l⟩:=hl i x v e1 e2 e3;refine{u,r,?_};rcases l with l|⟨k,c,e,z⟩
  ·exact .inl l
  ·exact .inr {k,c,e,cellK x c e _ z}
 ·obtain⟨v,z⟩:=I.cell x c e;exact{v,cellK x c e v z}
 ·obtain⟨m,⟨o,_,_,ho,_⟩,_⟩:=I.loc;exact free _ o (λz=>(ye _ z).2.1 rfl) ho I.free
 ·obtain⟨v,o,ho,hd⟩:=I.cell x c e;exact free c o (λz=>(ye c z).2.2.1 x c e rfl) ho (I.eG x c e)
 ·obtain⟨e,n,ne,nf,d⟩:=I.pin p hp;have M8:p.1∉ch:=λz=>(ye p.1 z).2.2.2 p hp rfl;exact{keep p.1 p.2 ne nf M8 e n,free p.1 p.2 M8 e n,ne,nf,d}
def Inv.un {t':Nat}(I:Inv X pins σ H s)(u:Un X.fs [] H H' s.heap h')(bB:g9 X.prog X.w H' h'):Inv X pins σ H' {s with heap:=h',toks:=t'}:=by
 obtain⟨m,⟨o,es,ep,ho,r⟩,_⟩:=id I.loc;obtain⟨sl,hL⟩:=u.any ho I.free (by simp)
 exact I.step (g':=s.gens) (d':=s.drawn) (ch:=[]) (λ_ z=>nomatch z) (λb o _ hb _ e n=>u.keep b o e n hb (by simp)) (λb o _ hb _ e n=>u.slot b o e n hb (by simp)) (λb o _ e n=>u.free b o e n (by simp)) (λb o _ e=>u.there b o e (by simp)) u.je u.i6 u.jf (λm' hm=>by
  obtain⟨o',es',TX,Gh,r'⟩:=hm;rw[ho]at Gh;cases Gh;exact{_,es',TX,hL,r'}) bB I.bare
def Inv.call {g':Array GenState}{t':Nat}{d':Drawn}{ch:List Addr}(I:Inv X pins σ H s)(u:Un (hG X.stack) ch H H' s.heap h')(bB:g9 X.prog X.w H' h')(hg:acv g')
  (ye:∀b∈ch,(b∈X.ex\/X.s₀.heap.objs.size<=b)/\b≠X.env.locals/\(∀x c,X.env.cells.lookup x=some c->c≠b)/\∀p∈X.pn++pins,p.1≠b) :
  Inv X pins σ H' {s with heap:=h',gens:=g',drawn:=d',toks:=t'}:=by
 obtain⟨m,⟨o,es,ep,ho,r⟩,_⟩:=id I.loc;obtain⟨sl,hL⟩:=u.any ho I.free λz=>(ye _ z).2.1 rfl;exact I.step (ch:=ch) ye (λb o hL hb hc e n=>u.keep b o e n (λz=>(Y6.mp (I.vI b z)).elim hL hb) hc) (λb o _ _ hc e n=>u.any e n hc) (λb o hc e n=>u.free b o e n hc) (λb o hc e=>u.there b o e hc) u.je u.i6 u.jf (λm' hm=>by
  obtain⟨o',es',TX,Gh,r'⟩:=hm;rw[ho]at Gh;cases Gh;exact{_,es',TX,hL,r'}) bB hg
def Inv.turned {t':Nat}{it:Addr}(I:Inv X pins σ H s)(k:∀b o,b≠it->s.heap.get? b=some o->h'.get? b=some o)(hn:H it=none)(hL:it≠X.env.locals)
  (h1:it∈X.ex\/X.s₀.heap.objs.size<=it) (h2:∀x c,X.env.cells.lookup x=some c->c≠it) (h3:∀p∈X.pn++pins,p.1≠it):Inv X pins σ H {s with heap:=h',toks:=t'}:=by
 have UZ:∀b u,H b=some u->b≠it:=λb u e z=>by rw[z,hn]at e;cases e
 refine I.step (g':=s.gens) (d':=s.drawn) (ch:=[it]) (λb hb=>?_) (λb o _ _ hc e _=>k b o (λz=>hc (by simp[z])) e) (λb o _ _ hc e _=>{o.slots,k b o (λz=>hc (by simp[z])) e}) (λ_ _ _ _ n=>n)
  (λb o hc e=>{o,k b o (λz=>hc (by simp[z])) e}) (λ_ _ e=>e) (λ_ _ _ e=>e) (λb ps e=>{#[],by rw[e];simp}) (λm hm=>?_) (λb u e=>?_) I.bare
 ·have e:b=it:=by simpa using hb
  subst e;exact{(h1),hL,h2,h3}
 ·obtain⟨o,es,ep,ho,r⟩:=hm;exact{o,es,ep,k _ o (Z_ hL) ho,r}
 ·refine(I.bB b u e).mS (λc v hc q=>k c v ?_ q) (λ_ q=>q) λ_ _ q=>q;rcases hc with z|z
  ·rw[z];exact UZ b u e
  ·exact UZ c _ z
def Inv.tok (I:Inv X pins σ H s)(t:Nat):Inv X pins σ H {s with toks:=t}:=I.un (h':=s.heap) (t':=t) Un.refl I.bB
def Inv.kept {t':Nat}(I:Inv X pins σ H s)(k:∀b u,s.heap.get? b=some u->h'.get? b=some u):Inv X pins σ H {s with heap:=h',toks:=t'}:=I.un (Un.kept k) (I.bB.kept k)
def Inv.laid {a:Addr}{o:HO}{t':Nat}(I:Inv X pins σ H s)(k:∀b u,s.heap.get? b=some u->h'.get? b=some u)(hp:s.heap.objs.size<=a)(new:cL X.prog X.w (upd H a o) h' a o):
  Inv X pins σ (upd H a o) {s with heap:=h',toks:=t'}:=I.un (Un.laid k hp (I.bB.fresh hp)) (I.bB.laid k hp new)
def Inv.write {x e:Addr}{o:HO}{t':Nat}(I:Inv X pins σ H s)(mu:Pf (H x))(he:e=x\/H e=some (.own x))(k:∀b u,b≠e->s.heap.get? b=some u->h'.get? b=some u)(LS:∃u,h'.get? e=some u)
  (new:cL X.prog X.w (upd H x o) h' x o):Inv X pins σ (upd H x o) {s with heap:=h',toks:=t'}:=I.un (Un.write mu he k LS) (I.bB.write mu he k LS new)
def Inv.xH {ie:List (Addr×Obj)}(I:Inv X pins σ H s)(h:∀p∈ie,s.heap.get? p.1=some p.2/\H p.1=none/\p.1≠X.env.locals/\p.1∉X.fs/\∀v,p.2.data≠.cell v):Inv X ie σ H s :=
 {I.ok,I.os,I.bare,I.base,I.loc,I.cell,I.free,I.eG,λp hp=>(Zt.mp hp).elim (λz=>I.pin p (aao _ z)) (h p),I.bB,I.len}
def ni {N:List Str}(hN:N.Nodup){i j:Nat}{x:Str}(a:N[i]?=some x)(b:N[j]?=some x):i=j:=by
 obtain⟨h1,e1⟩:=Y_.mp a;obtain⟨h2,e2⟩:=Y_.mp b;exact(List.getElem_inj hN).mp (e1.trans e2.symm)
def pH {M:Model}{A:Z0}{E:Y1->Y4->Prop}{i:Nat}{x:Str}{v:V}{u:Y1}{Q:Unit->Y4->Prop}(I:Inv X pins σ H s)(hN:X.N.Nodup)(hi:X.N[i]?=some x)(hx:Loc X.env.scope x)(r:RelV v u)
  (h:∀s',Inv X pins (σ.set i (some v)) H s'->(∃a,abS a s.heap s'.heap/\(a=X.env.locals\/X.env.cells.lookup x=some a))->Q () s') (hf:X.fn x=true\/X.env.scope.names.lookup x=some .local:=by first|exact .inl rfl|exact .inr rfl|assumption):Zy M A (storeName X.env x u) Q E s:=by
 obtain⟨m,hn,hl⟩:=id I.loc;have KW:(X.env.scope.kind==.class || (X.env.scope.kind==.module&&X.env.locals != X.env.globals))=false:=by rw[I.ok.kind];rfl
 have Ow:i<σ.length:=by rw[I.len];exact(Y_.mp hi).1
 have DC:=I.DC;have tracked:∀{a:Addr} {h':Heap},(∃o,s.heap.get? a=some o/\H a=none)->abS a s.heap h'->g9 X.prog X.w H h':=λ{a h'} ha hs b ob e=>by
  obtain⟨_,_,HF⟩:=ha;refine(I.bB b ob e).mS (λc w' hc q=>(hs.2 c ?_).trans q) (λ_ q=>q) λ_ _ q=>q;rintro rfl;rcases hc with rfl|hc
  ·rw[HF]at e;cases e
  ·rw[HF]at hc;cases hc
 rcases hx with hk|hk
 ·refine wpAny_storeName_local hk hn (λh' Gi hs=>?_) KW;obtain⟨oL,_,_,Vd,_⟩:=id hn;refine h _ {I.ok,I.os,I.bare,{λb o e n hb hx=>?_,λb o e n hb hx=>?_,I.base.free,λb o e hx=>?_,I.base.je,I.base.i6,I.base.jf},{_,Gi,λj y v' e1 e2 e3=>?_},λy c e=>?_,I.free,I.eG,λp hp=>?_,tracked {(oL),Vd,I.free} hs,by simpa using I.len} {_,hs,.inl rfl}
  ·exact(hs.2 b (ZQ (ZD (Zo e) I.ok.above))).trans (I.base.keep b o e n hb hx)
  ·obtain⟨sl,e1⟩:=I.base.slot b o e n hb hx;exact{sl,(hs.2 b (ZQ (ZD (Zo e) I.ok.above))).trans e1}
  ·obtain⟨o',e1⟩:=I.base.there b o e hx;exact{o',(hs.2 b (ZQ (ZD (Zo e) I.ok.above))).trans e1}
  ·by_cases hj:j=i
   ·subst hj;rw[hi]at e1;cases e1;rw[abQ Ow]at e2;cases e2;exact{u,r,.inl {hk,by simp}}
   ·rw[abq (Z_ hj)]at e2;obtain⟨u',r',q⟩:=hl j y v' e1 e2 e3;refine{u',r',?_};rcases q with⟨k,e⟩|⟨k,c,e,z⟩
    ·refine .inl {k,?_};have:y≠x:=λe=>hj (ni hN e1 (e▸hi));simp[this,e]
    ·exact .inr {k,c,e,z.sameBut hs (DC y c e)}
  ·obtain⟨w',z⟩:=I.cell y c e;exact{w',z.sameBut hs (DC y c e)}
  ·obtain⟨e,n,ne,nf,d⟩:=I.pin p hp;exact{(hs.2 p.1 ne).trans e,n,ne,nf,d}
 ·have Ti:X.fn x=true:=by
   rcases hf with z|z
   ·exact z
   ·rw[z]at hk;cases hk
  obtain⟨c,hc⟩:=I.ok.has x (.inl hk);obtain⟨w',z⟩:=I.cell x c hc;refine wpAny_storeName_cell I.ok.kind hk hc z (λh' jr hs=>?_);obtain⟨oc,zP,SJ⟩:=id z;refine h {s with heap:=h'} {I.ok,I.os,I.bare,{λb o e n hb hx=>?_,λb o e n hb hx=>?_,I.base.free,λb o e hx=>?_,I.base.je,I.base.i6,I.base.jf},{m,hn.sameBut hs (Z_ (DC x c hc)),λj y v' e1 e2 e3=>?_},λy c' e=>?_,I.free,I.eG,λp hp=>?_,tracked {oc,zP,I.eG x c hc} hs,by simpa using I.len} {c,hs,.inr hc}
  ·exact(hs.2 b (ZQ (ZD (Zo e) (I.ok.Ib x c Ti hc)))).trans (I.base.keep b o e n hb hx)
  ·obtain⟨sl,e1⟩:=I.base.slot b o e n hb hx;exact{sl,(hs.2 b (ZQ (ZD (Zo e) (I.ok.Ib x c Ti hc)))).trans e1}
  ·obtain⟨o',e1⟩:=I.base.there b o e hx;exact{o',(hs.2 b (ZQ (ZD (Zo e) (I.ok.Ib x c Ti hc)))).trans e1}
  ·by_cases hj:j=i
   ·subst hj;rw[hi]at e1;cases e1;rw[abQ Ow]at e2;cases e2;exact{u,r,.inr {.inl hk,c,hc,jr}}
   ·rw[abq (Z_ hj)]at e2;obtain⟨u',r',q⟩:=hl j y v' e1 e2 e3;refine{u',r',?_};rcases q with q|⟨k,c',e,z'⟩
    ·exact .inl q
    ·refine .inr {k,c',e,z'.sameBut hs ?_};rintro rfl;exact hj (ni hN e1 (I.ok.inj _ _ _ e hc▸hi))
  ·by_cases HH:c'=c
   ·subst HH;exact{_,jr}
   ·obtain⟨w2,z2⟩:=I.cell y c' e;exact{w2,z2.sameBut hs HH}
  ·obtain⟨e,n,ne,nf,d⟩:=I.pin p hp;refine{(hs.2 p.1 ?_).trans e,n,ne,nf,d};intro q;rw[q,zP]at e;have q':oc=p.2:=ZZ e;exact d w' (by rw[<- q'];exact SJ)
def mR {M:Model}{A:Z0}{E:Y1->Y4->Prop}{i:Nat}{x:Str}{v:V}{u:Y1}{Q:Unit->Y4->Prop}(I:Inv X pins σ H s)(hN:X.N.Nodup)(hi:X.N[i]?=some x)(hx:Loc X.env.scope x)(r:RelV v u)
  (h:∀s',Inv X pins (σ.set i (some v)) H s'->Q () s') (hf:X.fn x=true\/X.env.scope.names.lookup x=some .local:=by first|exact .inl rfl|exact .inr rfl|assumption):Zy M A (storeName X.env x u) Q E s :=
 pH I hN hi hx r (λs' I' _=>h s' I') hf
def Inv.Ia {s':Y4}{ch:List Addr}(I:Inv X pins σ H s)(ho:s'.os=s.os)(u:Un (hG X.stack) ch H H' s.heap s'.heap)(bB:g9 X.prog X.w H' s'.heap)(hg:acv s'.gens)
  (ye:∀b∈ch,(b∈X.ex\/X.s₀.heap.objs.size<=b)/\b≠X.env.locals/\(∀x c,X.env.cells.lookup x=some c->c≠b)/\∀p∈X.pn++pins,p.1≠b):Inv X pins σ H' s':=by
 obtain⟨h',g',d',t',o'⟩:=s';have e:o'=s.os:=ho;subst e;exact I.call (g':=g') (t':=t') (d':=d') u bB hg ye
end
abbrev XK:=Y1->Option Addr->Hp->Prop
abbrev St:=List (Option V)
abbrev VK:=V->Hp->Prop
abbrev TE:=St->Hp->VK->Prop
abbrev TT:=St->Hp->(Bool->Hp->Prop)->Prop
abbrev TA:=St->Hp->(List V->Hp->Prop)->Prop
structure Ends where
 nx:St->Hp->Prop
 rt:VK
 bk:St->Hp->Prop:=λ_ _=>False
 ct:St->Hp->Prop:=λ_ _=>False
abbrev TS:=Ends->St->Hp->Prop
def EP (X:Cx)(pins:List (Addr×Obj))(σ:St)(Q:VK)(u:Y1)(s':Y4):Prop:=∃v H',Inv X pins σ H' s'/\RelV v u/\Q v H'
def TP (X:Cx)(pins:List (Addr×Obj))(σ:St)(Q:Bool->Hp->Prop)(b:Bool)(s':Y4):Prop:=∃H',Inv X pins σ H' s'/\Q b H'
def AP (X:Cx)(pins:List (Addr×Obj))(σ:St)(Q:List V->Hp->Prop)(us:List Y1)(s':Y4):Prop:=∃vs H',Inv X pins σ H' s'/\Vals vs us/\Q vs H'
def SP (X:Cx)(pins:List (Addr×Obj))(D:Ends)(f:Flow)(s':Y4):Prop :=
 match f with
 |.next=>∃σ' H',Inv X pins σ' H' s'/\D.nx σ' H'
 |.brk=>∃σ' H',Inv X pins σ' H' s'/\D.bk σ' H'
 |.cont=>∃σ' H',Inv X pins σ' H' s'/\D.ct σ' H'
 |.ret u=>∃v σ' H',Inv X pins σ' H' s'/\RelV v u/\D.rt v H'
def PE (X:Cx)(e:Expr)(t:TE):Prop :=
 ∀(pins:List (Addr×Obj)) (s:Y4) (σ:St) (H:Hp) (Q:VK),Inv X pins σ H s->t σ H Q->Zy (model X.prog X.w) X.A (eval e X.env) (EP X pins σ Q) X.xe s
def PT (X:Cx)(e:Expr)(t:TT):Prop :=
 ∀(pins:List (Addr×Obj)) (s:Y4) (σ:St) (H:Hp) (Q:Bool->Hp->Prop),Inv X pins σ H s->t σ H Q->Zy (model X.prog X.w) X.A (isTrue e X.env (eval e X.env)) (TP X pins σ Q) X.xe s
def PW (X:Cx)(e:Expr)(t:TT):Prop :=
 ∀(whole:Sem Y1) (pins:List (Addr×Obj)) (s:Y4) (σ:St) (H:Hp) (Q:Bool->Hp->Prop),Inv X pins σ H s->t σ H Q->Zy (model X.prog X.w) X.A (isTrue e X.env whole) (TP X pins σ Q) X.xe s
def PW.pt {X:Cx}{e:Expr}{t:TT}(h:PW X e t):PT X e t:=h _
def PA (X:Cx)(es:List Expr)(t:TA):Prop :=
 ∀(pos:Pos) (pins:List (Addr×Obj)) (s:Y4) (σ:St) (H:Hp) (Q:List V->Hp->Prop),Inv X pins σ H s->t σ H Q->Zy (model X.prog X.w) X.A (spliced (aag pos (Y9 es X.env))) (AP X pins σ Q) X.xe s
def PS (X:Cx)(st:Stmt)(t:TS):Prop :=
 ∀(pins:List (Addr×Obj)) (s:Y4) (σ:St) (H:Hp) (D:Ends),Inv X pins σ H s->t D σ H->Zy (model X.prog X.w) X.A (exec st X.env) (SP X pins D) X.xe s
def sV (X:Cx)(st:List Stmt)(t:TS):Prop :=
 ∀(pins:List (Addr×Obj)) (s:Y4) (σ:St) (H:Hp) (D:Ends),Inv X pins σ H s->t D σ H->Zy (model X.prog X.w) X.A (execs st X.env) (SP X pins D) X.xe s
def bR {α:Type}{t:Sem α}{Q Q':α->Y4->Prop}{M:Model}{A:Z0}{E:Y1->Y4->Prop}{s:Y4}(h:Zy M A t Q E s)(hQ:∀a s,Q a s->Q' a s):Zy M A t Q' E s:=abn h hQ λ_ _ x=>x
section
variable {X:Cx}
def Mk (i:Nat):TE:=λσ H Q=>∃v,σ[i]?=some (some v)/\Q v H
def tC (v:V):TE:=λ_ H Q=>Q v H
def bY {i:Nat} {x:Str} {pos:Pos} (hN:X.N[i]?=some x) (hv:oK X.env.scope x) (hd:(x==("__debug__" : Str))=false:=by decide) (eU:(x==("__classdict__" : Str))=false:=by decide):PE X (.Name x pos) (Mk i):=by
 intro pins s σ H Q I h;obtain⟨v,e,h⟩:=h;obtain⟨m,hn,hl⟩:=I.loc;obtain⟨u,r,l⟩:=hl i x v hN e hv;have fin:EP X pins σ Q u s:={(v),H,I,r,h};rcases l with⟨hk,hm⟩|⟨hk,c,hc,qv⟩
 ·exact wpAny_Name (wpAny_loadName_local I.ok.kind hk hn hm fin) hd
 ·rcases hk with hk|hk
  ·exact wpAny_Name (wpAny_loadName_cell I.ok.kind hk hc qv fin) hd
  ·exact wpAny_Name (wpAny_loadName_free I.ok.kind hk hc qv fin eU) hd
def ba {i j pos}:PE X (.Constant (.int i) j pos) (tC (.int i)):=λ_ _ _ H _ I h=>wpAny_Constant_int {.int i,H,I.tok _,{_,rfl},h}
def BQ {b j pos}:PE X (.Constant (.bool b) j pos) (tC (.bl b)):=λ_ _ _ H _ I h=>Constant_bool {.bl b,H,I,rfl,h}
def Jq {j pos}:PE X (.Constant .none j pos) (tC .cN):=λ_ _ _ H _ I h=>Constant_none {.cN,H,I,rfl,h}
def Jp {x j pos}:PE X (.Constant (.str x) j pos) (tC (.str x)):=λ_ _ _ H _ I h=>Calls.Constant_str {.str x,H,I.tok _,{_,rfl},h}
def Gl (X:Cx)(x:Str):Prop:=X.env.kindOf x=some .globalImplicit
def j3 {E:Y1->Y4->Prop}{pins:List (Addr×Obj)}{s:Y4}{σ:St}{H:Hp}{x:Str}{u:Y1}{pos:Pos}{Q:Y1->Y4->Prop}(I:Inv X pins σ H s)(hg:Gl X x)(hm:X.mg x=some u)(h:Q u s)
  (hd:(x==("__debug__" : Str))=false:=by decide):Zy (model X.prog X.w) X.A (eval (.Name x pos) X.env) Q E s :=
 Calls.Name_function_global I.ok.kind hg (Calls.loadGlobal_global (by rw[I.ok.glob];exact I.mod.glob.keeps I.bk) hm h) hd
def gD {E:Y1->Y4->Prop}{pins:List (Addr×Obj)}{s:Y4}{σ:St}{H:Hp}{x:Str}{u:Y1}{pos:Pos}{Q:Y1->Y4->Prop}(I:Inv X pins σ H s)(hg:Gl X x)(hm:X.mg x=none)(hv:Z9 x=some u)(h:Q u s)
  (hn:x≠"__name__" := by decide) (hd:(x==("__debug__" : Str))=false:=by decide):Zy (model X.prog X.w) X.A (eval (.Name x pos) X.env) Q E s:=by
 obtain⟨mb,h1,h2⟩:=I.mod.blt;exact Calls.Name_function_global I.ok.kind hg (Calls.loadGlobal_builtin (by rw[I.ok.glob];exact I.mod.glob.keeps I.bk) hm (by rw[I.ok.blt];exact h1.keeps I.bk) ((h2 x hn).trans hv) h) hd
def xJ {x:Str} {v:V} {u:Y1} {pos:Pos} (hg:Gl X x) (hm:X.mg x=some u) (r:RelV v u) (hd:(x==("__debug__" : Str))=false:=by decide):PE X (.Name x pos) (tC v) :=
 λ_ _ _ H _ I h=>j3 I hg hm {(v),H,I,r,h} hd
def Ff {x:Str} {v:V} {u:Y1} {pos:Pos} (hg:Gl X x) (hm:X.mg x=none) (hv:Z9 x=some u) (r:RelV v u) (hn:x≠"__name__" := by decide) (hd:(x==("__debug__" : Str))=false:=by decide):PE X (.Name x pos) (tC v) :=
 λ_ _ _ H _ I h=>gD I hg hm hv {(v),H,I,r,h} hn hd
variable {a b:Expr}{pos:Pos}
def tZ (b:Expr){op:CmpOp}(h:op≠.In)(h2:op≠.NotIn):abf op b=false:=by
 have e1:(op==CmpOp.In)=false:=by cases op <;> first|rfl|exact absurd rfl h
 have e2:(op==CmpOp.NotIn)=false:=by cases op <;> first|rfl|exact absurd rfl h2
 cases b <;> simp[abf,e1,e2]
def tB (t:TE):TT:=λσ H Q=>t σ H λx H1=>∃c,x=.bl c/\Q c H1
def Ji {e:Expr}{t:TE}(h:PE X e t)(he:∀whole,isTrue e X.env whole=(do let v <- whole;acm e.pos;holding [v] (truthy v)):=by intro _;rfl):PT X e (tB t):=by
 intro pins s σ H Q I hw;refine isTrue_plain (bR (h pins s σ H _ I hw) λv s1 ⟨x,H1,I1,r1,q1⟩=>?_) (he _);obtain⟨d,rfl,q⟩:=q1;cases r1;exact abL {(H1),I1,q}
variable {tA Pr:TT}{rest:List Expr}
def QH (t u:TT):TT:=λσ H Q=>t σ H λc H1=>if c=true then u σ H1 Q else Q false H1
def VY (t u:TT):TT:=λσ H Q=>t σ H λc H1=>if c=true then Q true H1 else u σ H1 Q
def QB (t:TT):TT:=λσ H Q=>t σ H λc H1=>Q (!c) H1
def pw_and1 (ha:PT X a tA):PW X (.BoolOp .And [a] pos) tA:=by
 intro wh pins s σ H Q I h;refine isTrue_and (bR (ha pins s σ H Q I h) λc s1 e=>?_);cases c with
 |true=>exact isTrue_and_nil e
 |false=>exact e
def pw_or1 (ha:PT X a tA):PW X (.BoolOp .Or [a] pos) tA:=by
 intro wh pins s σ H Q I h;refine isTrue_or (bR (ha pins s σ H Q I h) λc s1 e=>?_);cases c with
 |false=>exact isTrue_or_nil e
 |true=>exact e
def pw_and (ha:PT X a tA)(hb:PW X (.BoolOp .And (b::rest) pos) Pr):PW X (.BoolOp .And (a::b::rest) pos) (QH tA Pr):=by
 intro wh pins s σ H Q I h;refine isTrue_and (bR (ha pins s σ H _ I h) λc s1 ⟨H1,I1,q1⟩=>?_);cases c with
 |true=>exact hb wh pins s1 σ H1 Q I1 q1
 |false=>exact{(H1),I1,q1}
def pw_or (ha:PT X a tA)(hb:PW X (.BoolOp .Or (b::rest) pos) Pr):PW X (.BoolOp .Or (a::b::rest) pos) (VY tA Pr):=by
 intro wh pins s σ H Q I h;refine isTrue_or (bR (ha pins s σ H _ I h) λc s1 ⟨H1,I1,q1⟩=>?_);cases c with
 |true=>exact{(H1),I1,q1}
 |false=>exact hb wh pins s1 σ H1 Q I1 q1
def Jj (ha:PT X a tA):PT X (.UnaryOp .Not a pos) (QB tA):=by
 intro pins s σ H Q I h;exact isTrue_not (ha pins s σ H (λc H1=>Q (!c) H1) I h)
end
def dj (K:PySem.W.Frag)(H:Hp)(a:Addr)(xs:List V):Prop :=
 Rd H a (.lst xs) \/
  ∃(o:Obj) (its:Array Y1) (n:Nat),K.lookup a=some o/\o.cls=.type "list" /\ o.dict=none/\o.data=.seq its n/\its.size<=Zd/\Vals xs its.toList
def u_ (K:PySem.W.Frag)(H:Hp)(a:Addr)(xs:List V):Prop :=
 Rd H a (.tup xs) \/
  ∃(o:Obj) (its:Array Y1) (n:Nat),K.lookup a=some o/\o.cls=.type "tuple" /\ o.data=.seq its n/\its.size<=Zd/\Vals xs its.toList
noncomputable def Ub:Y1->Option V
 |.none=>some .cN
 |.bool b=>some (.bl b)
 |.int i _=>some (.int i)
 |.str x _=>some (.str x)
 |.bytes b _=>some (.O5 b)
 |.float b _=>some (.TQ b)
 |.ref a=>some (.ref a)
 |.type n=>some (.ty n)
 |_=>none
def RelV.abs {x:V}{u:Y1}(r:RelV x u):Ub u=some x:=by
 cases x with
 |cN=>cases r;rfl
 |bl _=>cases r;rfl
 |int _=>obtain⟨t,rfl⟩:=r;rfl
 |str _=>obtain⟨t,rfl⟩:=r;rfl
 |O5 _=>obtain⟨t,rfl⟩:=r;rfl
 |TQ _=>obtain⟨t,rfl⟩:=r;rfl
 |ref _=>cases r;rfl
 |ty _=>cases r;rfl
def RelV.inj {x y:V}{u:Y1}(r:RelV x u)(q:RelV y u):x=y:=ZZ (r.abs.symm.trans q.abs)
theorem Vals.inj:∀{xs ys:List V} {us:List Y1},Vals xs us->Vals ys us->xs=ys
 |_,_,_,.nil,.nil=>rfl
 |_,_,_,.cons r t,.cons r' t'=>by rw[r.inj r',Vals.inj t t']
section
variable {X:Cx}{pins:List (Addr×Obj)}{σ:St}{H:Hp}{s:Y4}{a:Addr}{xs ys:List V}
def dj.of {K:PySem.W.Frag}(h:H a=some (.lst xs)):dj K H a xs:=.inl (.inl h)
def u_.of {K:PySem.W.Frag}(h:H a=some (.tup xs)):u_ K H a xs:=.inl (.inl h)
def Inv.list (I:Inv X pins σ H s)(h:dj X.K H a xs):∃its:List Y1,Vals xs its/\PlainL s.heap a its.toArray/\xs.length<=Zd:=by
 rcases h with h|⟨o,its,n,hk,hc,hd,hs,hz,r⟩
 ·obtain⟨z,its,n,r,e⟩:=h.ok I.bB;exact{its,r,{_,n,e,rfl,rfl,rfl},z}
 ·refine{its.toList,r,{o,n,I.AH a o hk,hc,hd,by simpa using hs},?_}
  have e:=r.length;simp only[ZJ]at e;lia
def Inv.tuple (I:Inv X pins σ H s)(h:u_ X.K H a xs):∃its:List Y1,Vals xs its/\IsTup s.heap a its.toArray/\xs.length<=Zd:=by
 rcases h with h|⟨o,its,n,hk,hc,hs,hz,r⟩
 ·obtain⟨z,its,r,p⟩:=h.ok I.bB;exact{(its),r,p,z}
 ·refine{its.toList,r,{o,I.AH a o hk,hc,n,by simpa using hs},?_}
  have e:=r.length;simp only[ZJ]at e;lia
def Inv.Cu (I:Inv X pins σ H s)(h:dj X.K H a xs)(h':dj X.K H a ys):xs=ys:=by
 obtain⟨its,r,⟨o,n,e,_,_,d⟩,_⟩:=I.list h;obtain⟨its',r',⟨o',n',e',_,_,d'⟩,_⟩:=I.list h';rw[e]at e';cases e';rw[d]at d';injection d' with d1 _
 have:its=its':=by simpa using congrArg Array.toList d1
 subst this;exact r.inj r'
end
noncomputable abbrev Cx.jx (X:Cx)(E:Y1->Y4->Prop):Cx:={X with xe:=E}
abbrev Cx.tV (X:Cx):Cx:=X.jx λ_ _=>False
noncomputable def Cx.Ok.jx {X:Cx}(ok:X.Ok)(E:Y1->Y4->Prop):(X.jx E).Ok :=
 {(ok.mod),ok.kind,ok.glob,ok.blt,ok.above,ok.inj,ok.has,ok.Ib,ok.hd,ok.frames,ok.IP,ok.K4,ok.bs,ok.DK,ok.tY,ok.uP,ok.j8,ok.Gs}
def Cx.Ok.ee {X:Cx}{E:Y1->Y4->Prop}(ok:(X.jx E).Ok):X.Ok :=
 {(ok.mod),ok.kind,ok.glob,ok.blt,ok.above,ok.inj,ok.has,ok.Ib,ok.hd,ok.frames,ok.IP,ok.K4,ok.bs,ok.DK,ok.tY,ok.uP,ok.j8,ok.Gs}
section
variable {X:Cx}{pins:List (Addr×Obj)}{σ:St}{H:Hp}{s:Y4}{E:Y1->Y4->Prop}
noncomputable def Inv.jx (I:Inv X pins σ H s)(E:Y1->Y4->Prop):Inv (X.jx E) pins σ H s:={I.ok.jx E,I.os,I.bare,I.base,I.loc,I.cell,I.free,I.eG,I.pin,I.bB,I.len}
def Inv.ee (I:Inv (X.jx E) pins σ H s):Inv X pins σ H s:={(I.ok.ee),I.os,I.bare,I.base,I.loc,I.cell,I.free,I.eG,I.pin,I.bB,I.len}
def SP.ee {D:Ends}{f:Flow}{s':Y4}(h:SP (X.jx E) pins D f s'):SP X pins D f s':=by
 cases f with
 |next=>obtain⟨σ',H',I,q⟩:=h;exact{(σ'),H',I.ee,q}
 |brk=>obtain⟨σ',H',I,q⟩:=h;exact{(σ'),H',I.ee,q}
 |cont=>obtain⟨σ',H',I,q⟩:=h;exact{(σ'),H',I.ee,q}
 |ret u=>obtain⟨v,σ',H',I,r,q⟩:=h;exact{(v),σ',H',I.ee,r,q}
def PT.tV {e:Expr}{t:TT}(h:PT X.tV e t):PT X e t:=λpins s σ H Q I hw =>
 abn (h pins s σ H Q (I.jx _) hw) (λ_ _ CP=>by obtain⟨H',I',q⟩:=CP;exact{(H'),I'.ee,q}) λ_ _ z=>aaN z
def sV.tV {st:List Stmt}{t:TS}(h:sV X.tV st t):sV X st t:=λpins s σ H D I hw =>
 abn (h pins s σ H D (I.jx _) hw) (λ_ _ q=>q.ee) λ_ _ z=>aaN z
end
section
variable {X:Cx}{st:Stmt}{rest:List Stmt}{t u:TS}{e:Expr}{te:TE}{pos:Pos}
def Mq:TS:=λD σ H=>D.nx σ H
def Qz (t u:TS):TS:=λD σ H=>t {D with nx:=u D} σ H
def rA:sV X [] Mq:=λ_ _ σ H _ I h=>abF {(σ),H,I,h}
def cP (h1:PS X st t)(h2:sV X rest u):sV X (st::rest) (Qz t u):=by
 intro pins s σ H D I h;refine wpAny_execs_cons (bR (h1 pins s σ H {D with nx:=u D} I h) λf s1 q=>?_)
 cases f with
 |next =>
  obtain⟨σ',H',I',q⟩:=q;exact h2 pins s1 σ' H' D I' q
 |ret v=>exact q
 |brk=>exact q
 |cont=>exact q
def fA (h1:PS X st t):sV X [st] t:=by
 intro pins s σ H D I h;refine wpAny_execs_cons (bR (h1 pins s σ H D I h) λf s1 q=>?_);cases f with
 |next=>exact abF q
 |ret v=>exact q
 |brk=>exact q
 |cont=>exact q
def Inv.quiet {pins:List (Addr×Obj)}{σ:St}{H:Hp}{s:Y4}(I:Inv X pins σ H s):interactive X.env=false:=by simp[interactive,I.ok.kind]
def Ms (te:TE):TS:=λD σ H=>te σ H λ_ H1=>D.nx σ H1
def fB (he:PE X e te)(hs:aaw e none pos.line X.env=pure false:=by rfl):PS X (.Expr e pos) (Ms te):=by
 intro pins s σ H D I h;exact wpAny_Expr_any (bR (he pins s σ H _ I h) λv s1 CO=>by obtain⟨x,H1,I1,r1,q1⟩:=CO;exact{(σ),H1,I1,q1}) I.quiet hs
def QA (te:TE):TS:=λD σ H=>te σ H D.rt
def gx (he:PE X e te):PS X (.Return (some e) pos) (QA te):=by
 intro pins s σ H D I h;exact wpAny_Return_some (bR (he pins s σ H _ I h) λv s1 CN=>by obtain⟨x,H1,I1,r1,q1⟩:=CN;exact{(x),σ,H1,I1,r1,q1})
def QD (c:TT)(t u:TS):TS:=λD σ H=>c σ H λb H1=>if b=true then t D σ H1 else u D σ H1
def BG {c:Expr}{a b:List Stmt}{tc:TT}(hc:PT X c tc)(ha:sV X a t)(hb:sV X b u):PS X (.If c a b pos) (QD tc t u):=by
 intro pins s σ H D I h;refine wpAny_If (bR (hc pins s σ H _ I h) λd s1 ⟨H1,I1,q1⟩=>?_);cases d with
 |true=>exact ha pins s1 σ H1 D I1 q1
 |false=>exact hb pins s1 σ H1 D I1 q1
def IJ:TS:=λ_ _ _=>False
def za {V1:List Stmt}:sV X V1 IJ:=λ_ _ _ _ _ _ h=>h.elim
end
abbrev TG:=V->St->Hp->(St->Hp->Prop)->Prop
abbrev Ie:=List V->St->Hp->(St->Hp->Prop)->Prop
def PG (X:Cx)(target:Expr)(t:TG):Prop :=
 ∀(pins:List (Addr×Obj)) (s:Y4) (σ:St) (H:Hp) (v:V) (u:Y1) (Q:St->Hp->Prop),Inv X pins σ H s->RelV v u->t v σ H Q ->
  Zy (model X.prog X.w) X.A (assign target X.env u) (λ_ s'=>∃σ' H',Inv X pins σ' H' s'/\Q σ' H') X.xe s
def Ij (X:Cx)(ts:List Expr)(t:Ie):Prop :=
 ∀(pins:List (Addr×Obj)) (s:Y4) (σ:St) (H:Hp) (vs:List V) (us:List Y1) (Q:St->Hp->Prop),Inv X pins σ H s->Vals vs us->t vs σ H Q ->
  Zy (model X.prog X.w) X.A (assignInOrder ((aa_ ts X.env).map (·.2)) us) (λ_ s'=>∃σ' H',Inv X pins σ' H' s'/\Q σ' H') X.xe s
abbrev Lv:=V->V->V->Hp->(Hp->Prop)->Prop
def Pd (X:Cx)(t:Lv):Prop :=
 ∀(pins:List (Addr×Obj)) (s:Y4) (σ:St) (H:Hp) (o i v:V) (ov iv u:Y1) (Q:Hp->Prop),Inv X pins σ H s->RelV o ov->RelV i iv->RelV v u->t o i v H Q ->
  Zy (model X.prog X.w) X.A (setItem ov iv u) (λ_ s'=>∃H',Inv X pins σ H' s'/\Q H') X.xe s
section
variable {X:Cx}{pos:Pos}
def HL (i:Nat):TG:=λv σ H Q=>Q (σ.set i (some v)) H
def Fc {i:Nat}{x:Str}(hN:X.N.Nodup)(hi:X.N[i]?=some x)(hx:Loc X.env.scope x)(hf:X.fn x=true\/X.env.scope.names.lookup x=some .local:=by first|exact .inl rfl|exact .inr rfl|assumption):PG X (.Name x pos) (HL i):=by
 intro pins s σ H v u Q I r h;exact wpAny_assign_Name (mR I hN hi hx r (λs' I'=>{_,H,I',h}) hf)
def K2:Ie:=λvs σ H Q=>vs=[]/\Q σ H
def C5 (t:TG)(u:Ie):Ie:=λvs σ H Q=>∃v r,vs=v::r/\t v σ H λσ' H'=>u r σ' H' Q
def Fb:Ij X [] K2:=by
 intro pins s σ H vs us Q I r h;obtain⟨e,h⟩:=h;subst e;cases r;exact assignInOrder_nil {(σ),H,I,h}
def BN {e:Expr}{es:List Expr}{t:TG}{u:Ie}(h1:PG X e t)(h2:Ij X es u)
  (hs:(aa_ (e::es) X.env).map (·.2)=assign e X.env::(aa_ es X.env).map (·.2):=by rfl):Ij X (e::es) (C5 t u):=by
 intro pins s σ H vs us Q I r h;obtain⟨v,vr,e1,h⟩:=h;subst e1;cases r with
 |cons r rr =>
  rw[hs];refine assignInOrder_cons (bR (h1 pins s σ H _ _ _ I r h) λ_ s1 ⟨σ1,H1,I1,q1⟩=>?_);exact h2 pins s1 σ1 H1 _ _ Q I1 rr q1
def TH (K:PySem.W.Frag)(n:Nat)(t:Ie):TG:=λv σ H Q=>∃a xs,v=.ref a/\u_ K H a xs/\xs.length=n/\t xs σ H Q
def Jo {es:List Expr}{k:Nat}{t:Ie}{n:Nat}(hc:X.calm=true)(h:Ij X es t)
  (hn:(aa_ es X.env).length=n:=by rfl) (si:(aa_ es X.env).findIdx? (·.1)=none:=by rfl):PG X (.Tuple es k pos) (TH X.K n t):=by
 intro pins s σ H v u Q I r hw;obtain⟨a,xs,e1,hq,hl,hw⟩:=hw;subst e1;cases r;obtain⟨its,rv,ht,hz⟩:=I.tuple hq;refine assign_Tuple_tuple (I.ok.hd hc) ht (by simp[hn,<- hl,rv.length]) si λh' hx=>?_
 have I1:Inv X pins σ H {s with heap:=h'}:=I.kept (t':=s.toks) λb o e=>hx b o (ZQ (Zo e)) e
 exact h pins _ σ H xs _ Q I1 (by simpa using rv) hw
def TJ (to ti:TE)(t:Lv):TG:=λv σ H Q=>to σ H λo H1=>ti σ H1 λi H2=>t o i v H2 λH3=>Q σ H3
def v7 {o i:Expr}{to ti:TE}{t:Lv}(ho:PE X o to)(hi:PE X i ti)(hs:Pd X t)
  (ha:∀v,assign (.Subscript o i pos) X.env v=(do
   let ov <- holding [v] (eval o X.env)
   let iv <- holding [v,ov] (eval i X.env)
   acm pos
   holding [v,ov,iv] (setItem ov iv v)
   release [v,ov,iv] []):=by intro _;rfl):PG X (.Subscript o i pos) (TJ to ti t):=by
 intro pins s σ H v u Q I r h;rw[ha];refine Y2 (aav (bR (ho pins s σ H _ I h) λov s1 ⟨x,H1,I1,r1,q1⟩=>?_));refine Y2 (aav (bR (hi pins s1 σ H1 _ I1 q1) λiv s2 ⟨y,H2,I2,r2,q2⟩=>?_));refine Y2 (abe (Y2 (aav (bR (hs pins s2 σ H2 x y v ov iv u _ I2 r1 r2 r q2) λ_ s3 ⟨H3,I3,q3⟩=>?_))));exact wpAny_release {(σ),H3,I3,q3}
def Mu (te:TE)(g:TG):TS:=λD σ H=>te σ H λx H1=>g x σ H1 D.nx
def rB {tg e:Expr}{te:TE}{g:TG}(he:PE X e te)(hg:PG X tg g)(hs:swapsWithSole [tg] e pos.line X.env=pure false:=by rfl)(hw:swappedStores [tg] e X.env=pure none:=by rfl)
  (h1:(aa_ [tg] X.env).map (·.2)=[assign tg X.env]:=by rfl):PS X (.Assign [tg] e pos) (Mu te g):=by
 intro pins s σ H D I h;refine wpAny_Assign_stores (bR (he pins s σ H _ I h) λv s1 ⟨x,H1,I1,r1,q1⟩=>?_) hs hw;rw[h1];exact bR (hg pins s1 σ H1 x v _ I1 r1 q1) λ_ s2 q=>q
def kO {i:Nat}{x:Str}{e:Expr}{te:TE}{pos':Pos}(hN:X.N.Nodup)(hi:X.N[i]?=some x)(hx:Loc X.env.scope x)(he:PE X e te)(hs:aaw e (some (.Name x pos')) pos.line X.env=pure false:=by rfl)(hf:X.fn x=true\/X.env.scope.names.lookup x=some .local:=by first|exact .inl rfl|exact .inr rfl|assumption):
  PS X (.Assign [.Name x pos'] e pos) (Mu te (HL i)):=by
 intro pins s σ H D I h;refine wpAny_Assign_Name (bR (he pins s σ H _ I h) λv s1 ⟨y,H1,I1,r1,q1⟩=>?_) hs;exact mR I1 hN hi hx r1 (λs2 I2=>{_,H1,I2,q1}) hf
end
section
variable {X:Cx}{pos:Pos}
def IH (c:TT)(tb:TS):TS:=λD σ H=>∃W:Nat->St->Hp->Prop,(∃m,W m σ H)/\∀m σ H,W m σ H ->
 c σ H λb H1=>if b=true then ∃N:St->Hp->Prop,(∀σ' H',N σ' H'->∃m',m'<m/\W m' σ' H')/\tb {D with nx:=N,ct:=N,bk:=D.nx} σ H1 else D.nx σ H1
def BF {c:Expr}{body:List Stmt}{tc:TT}{tb:TS}(hp:PassesOwn (model X.prog X.w) X.A X.env X.xe)(hc:PT X c tc)(hb:sV X body tb):PS X (.While c body [] pos) (IH tc tb):=by
 intro pins s σ H D I h;obtain⟨W,⟨m0,w0⟩,turn⟩:=h;refine wpAny_While (codeAny_whileLoop (λn s'=>∃σ' H',Inv X pins σ' H' s'/\W n σ' H') ?_ m0 {(σ),H,I,w0});rintro n s1 ⟨σ1,H1,I1,w1⟩;refine abc hp (bR (hc pins s1 σ1 H1 _ I1 (turn n σ1 H1 w1)) λb s2 ⟨H2,I2,q2⟩=>?_);cases b with
 |true =>
  obtain⟨N,hN,q2⟩:=q2;rw[if_pos rfl];refine abc hp (bR (hb pins s2 σ1 H2 _ I2 q2) λf s3 q3=>?_);cases f with
  |next =>
   obtain⟨σ3,H3,I3,n3⟩:=q3;obtain⟨m',hm,w3⟩:=hN σ3 H3 n3;exact{(m'),hm,σ3,H3,I3,w3}
  |cont =>
   obtain⟨σ3,H3,I3,n3⟩:=q3;obtain⟨m',hm,w3⟩:=hN σ3 H3 n3;exact{(m'),hm,σ3,H3,I3,w3}
  |brk=>exact q3
  |ret v=>exact q3
 |false =>
  rw[if_neg aaG];exact abF {(σ1),H2,I2,q2}
end
structure It where
 go:Nat->Hp->Prop
 L9:Nat->Hp->V->Hp->Prop
 stop:Nat->Hp->Prop
def g_ (X:Cx)(pins:List (Addr×Obj))(H:Hp)(b:Addr):Prop :=
 H b=none/\b≠X.env.locals/\b∉X.fs/\(b∈X.ex\/X.s₀.heap.objs.size<=b)/\(∀x c,X.env.cells.lookup x=some c->c≠b)/\∀p∈X.pn++pins,p.1≠b
def Inv.C8 {X:Cx}{pins:List (Addr×Obj)}{σ:St}{H H':Hp}{s:Y4}{b:Addr}(I:Inv X pins σ H s)(hb:s.heap.objs.size<=b)(hn:H' b=none):g_ X pins H' b:=by
 refine{hn,Nat.ne_of_gt (ZD I.lt hb),I.Rc hb,.inr (ZX I.sz hb),λx c e z=>?_,λp hp z=>?_}
 ·obtain⟨v,q⟩:=I.cell x c e;exact absurd (ZD q.lt (by rw[z];exact hb)) (aa0 _)
 ·exact absurd (ZD (Zo (I.pin p hp).1) (by rw[z];exact hb)) (aa0 _)
structure Turn (P:Y7)(w:Zj)(K:PySem.W.Frag)(tg:Expr)(J:It)(fp:List Addr)(it:Addr)(tn:Nat->Heap->Prop):Prop where
 mem:it∈fp
 obj:∀i h,tn i h->∀b∈fp,∃o,h.get? b=some o/\∀v,o.data≠.cell v
 keep:∀i h h',tn i h->(∀b∈fp,∀o,h.get? b=some o->h'.get? b=some o)->tn i h'
 item:∀(X:Cx),X.prog=P->X.w=w->X.K=K->X.calm=true->∀(i:Nat) (pins:List (Addr×Obj)) (s:Y4) (σ:St) (H:Hp) (E:Y1->Y4->Prop),Inv X pins σ H s->(∀b∈fp,g_ X pins H b)->tn i s.heap->J.go i H ->
  Zy (model P w) X.A (acd (.ref it)) (λr s1=>∃u,r=some u /\
   Zy (model P w) X.A (letOwnedTupleGo tg (.ref it) u) (λ_ s2=>∃x H',Inv X pins σ H' s2/\RelV x u/\J.L9 i H x H'/\tn (i+1) s2.heap/\∀b∈fp,H' b=none) E s1) E s
 done:∀(X:Cx),X.prog=P->X.w=w->X.K=K->X.calm=true->∀(i:Nat) (pins:List (Addr×Obj)) (s:Y4) (σ:St) (H:Hp) (E:Y1->Y4->Prop),Inv X pins σ H s->(∀b∈fp,g_ X pins H b)->tn i s.heap->J.stop i H ->
  Zy (model P w) X.A (acd (.ref it)) (λr s1=>r=none/\Inv X pins σ H s1) E s
 self:∀(A:Z0) (i:Nat) (s:Y4) (Q:Y1->Y4->Prop) (E:Y1->Y4->Prop),tn i s.heap->Q (.ref it) s->Zy (model P w) A (pyIter (.ref it)) Q E s
abbrev TI:=St->Hp->(It->Hp->Prop)->Prop
def Qi (X:Cx)(pins:List (Addr×Obj))(σ:St)(tg:Expr)(R:It->Hp->Prop)(HB:Y1)(s2:Y4):Prop :=
 ∃(it:Addr) (fp:List Addr) (tn:Nat->Heap->Prop) (J:It) (H':Hp),HB=.ref it/\Inv X pins σ H' s2/\Turn X.prog X.w X.K tg J fp it tn/\tn 0 s2.heap/\(∀b∈fp,g_ X pins H' b)/\R J H'
def PI (X:Cx)(tg iter:Expr)(wi:TI):Prop :=
 ∀(pins:List (Addr×Obj)) (s:Y4) (σ:St) (H:Hp) (R:It->Hp->Prop),Inv X pins σ H s->wi σ H R ->
  Zy (model X.prog X.w) X.A (eval iter X.env) (λv s1=>Zy (model X.prog X.w) X.A (pyIter v) (Qi X pins σ tg R) X.xe s1) X.xe s
def C4 {M:Model}{A:Z0}{E:Y1->Y4->Prop}{s:Y4}{tg:Expr}{it:Addr}{u:Y1}{o:Obj}{n:String}{vs:Array Y1}{Q:Unit->Y4->Prop}(ho:s.heap.get? it=some o)(hc:o.cls=.type n)(hd:o.data=.fields vs)
  (hn:["enumerate","zip","dict_itemiterator","dict_reverseitemiterator","odict_iterator","itertools.zip_longest","itertools.pairwise"].contains n=false) (hQ:Q () s):Zy M A (letOwnedTupleGo tg (.ref it) u) Q E s:=by
 unfold letOwnedTupleGo;cases tg <;> first
  |exact Zi hQ
  | (cases u <;> first
    |exact Zi hQ
    | (refine Y2 (wpAny_load ho ?_)
       rw[hc,hd];show Zy M A (if (["enumerate","zip","dict_itemiterator","dict_reverseitemiterator","odict_iterator","itertools.zip_longest","itertools.pairwise"].contains n&&vs[0]?==some (rawInt _))=true then _ else _) Q E s
       rw[if_neg (by intro h;rw[hn,Bool.false_and]at h;cases h)]
       exact Zi hQ))
def Qn (K:PySem.W.Frag)(a:Addr):It :=
 {λi H=>∃xs x,dj K H a xs/\xs[i]?=some x,λi H x H'=>H'=H/\∀xs,dj K H a xs->xs[i]?=some x,λi H=>∃xs,dj K H a xs/\xs.length<=i}
def Pg (lo:Int)(n:Nat):It:={λi _=>i<n,λi H x H'=>H'=H/\x=.int (lo+i),λi _=>n<=i}
def yH {P:Y7}{w:Zj}{K:PySem.W.Frag}{tg:Expr}(a it:Addr):Turn P w K tg (Qn K a) [it] it (λi h=>h.IsListIter it a i) where
 mem:=by simp
 obj:=λi h st b hb=>by
  have e:b=it:=by simpa using hb
  subst e;obtain⟨o,e,c,d⟩:=st;exact{o,e,λv z=>by rw[d]at z;cases z}
 keep:=λi h h' st k=>st.at λo e=>k it (by simp) o e
 item:=by
  intro X hP hw hK hc i pins s σ H E I hf st hg;subst hP hw hK;obtain⟨xs,x,hq,hx⟩:=hg;obtain⟨its,rv,p,hz⟩:=I.list hq;obtain⟨u,hu,ru⟩:=rv.get hx;obtain⟨f0,f1,f2,f3,f4,f5⟩:=hf it (by simp)
  refine wpAny_pyNext_list_item st p.isList (x:=u) (by simpa using hu) λh' aG sb=>?_
  have I1:Inv X pins σ H {s with heap:=h'}:=I.turned (t':=s.toks) (λb o hb e=>(sb.2 b hb).trans e) f0 f1 f3 f4 f5
  obtain⟨o,e,c,d⟩:=id aG;exact{u,rfl,C4 (s:={s with heap:=h'}) e c d (by decide) {x,H,I1,ru,{rfl,λys hy=>by rw[I.Cu hy hq];exact hx},aG,λb hb=>(hf b hb).1}}
 done:=by
  intro X hP hw hK hc i pins s σ H E I hf st hg;subst hP hw hK;obtain⟨xs,hq,hx⟩:=hg;obtain⟨its,rv,p,hz⟩:=I.list hq;obtain⟨f0,f1,f2,f3,f4,f5⟩:=hf it (by simp)
  have hl:=rv.length;exact wpAny_pyNext_list_end (I.ok.hd hc) st p.isList (by simp;lia) λh' eb=>{rfl,I.turned (t':=s.toks) (λb o hb e=>eb b o hb e) f0 f1 f3 f4 f5}
 self:=λ_ _ _ _ _ st h=>wpAny_pyIter_listiter st h
def vF {P:Y7}{w:Zj}{K:PySem.W.Frag}{tg:Expr}(it:Addr)(lo:Int)(n:Nat):Turn P w K tg (Pg lo n) [it] it (λi h=>IsRangeIter h it (lo+(i:Nat)*1) ((n:Int)-(i:Nat)) 1) where
 mem:=by simp
 obj:=λi h st b hb=>by
  have e:b=it:=by simpa using hb
  subst e;exact⟨_,st,λv z=>by
   have z':Data.fields _=Data.cell v:=z;cases z'⟩
 keep:=λi h h' st k=>k it (by simp) _ st
 item:=by
  intro X hP hw hK hc i pins s σ H E I hf st hg;subst hP hw hK;obtain⟨f0,f1,f2,f3,f4,f5⟩:=hf it (by simp)
  have W:=Walks.range (prog:=X.prog) (w:=X.w) (I.ok.hd hc) it lo 1 n;refine W.item i s _ _ hg st λv h' tk hv aG kk=>?_;obtain⟨t,rfl⟩:=hv;have I1:Inv X pins σ H {s with heap:=h',toks:=tk}:=I.turned (λb o hb e=>kk b o (by simpa using hb) e) f0 f1 f3 f4 f5
  refine{_,rfl,C4 (s:={s with heap:=h',toks:=tk}) (n:="range_iterator") aG rfl rfl (by decide) {.int (lo+i),H,I1,{t,?_},{(rfl),rfl},aG,λb hb=>(hf b hb).1}}
  rw[Int.mul_one]
 done:=by
  intro X hP hw hK hc i pins s σ H E I hf st hg;subst hP hw hK;obtain⟨f0,f1,f2,f3,f4,f5⟩:=hf it (by simp)
  exact wpAny_pyNext_range_end (I.ok.hd hc) st (by have:n<=i:=hg;lia) λh' eb=>{rfl,I.turned (t':=s.toks) (λb o hb e=>eb b o hb e) f0 f1 f3 f4 f5}
 self:=λ_ _ _ _ _ st h=>wpAny_pyIter_rangeiter st h
section
variable {X:Cx}{tg:Expr}
def Nz (K:PySem.W.Frag)(tl:TE):TI:=λσ H R=>tl σ H λx H1=>∃a,x=.ref a/\(∃xs,dj K H1 a xs)/\R (Qn K a) H1
def rH {l:Expr}{tl:TE}(hl:PE X l tl):PI X tg l (Nz X.K tl):=by
 intro pins s σ H R I h;refine bR (hl pins s σ H _ I h) λv s1 ⟨x,H1,I1,r1,q1⟩=>?_;obtain⟨a,e,⟨xs,hq⟩,q⟩:=q1;subst e;cases r1;obtain⟨its,rv,p,hz⟩:=I1.list hq;refine wpAny_pyIter_list p.isList ?_;refine{s1.heap.objs.size,[s1.heap.objs.size],_,_,H1,rfl,I1.kept (t':=s1.toks) λb o e=>Ze _ e,yH a _,{_,ZR _ rfl,rfl,rfl},λb hb=>?_,q};have e:b=s1.heap.objs.size:=by simpa using hb
 subst e;exact I1.C8 (Y8 _) (I1.bB.fresh (Y8 _))
def tJ {pins:List (Addr×Obj)}{σ:St}{H:Hp}{s:Y4}{R:It->Hp->Prop}{E:Y1->Y4->Prop}{lo hi:Int}{t u v:Tok}{tk:Nat}(I:Inv X pins σ H s)(h1:-(2 ^ 62)<=lo)(h2:lo<2 ^ 62)(h3:-(2 ^ 62)<=hi)(h4:hi<2 ^ 62)
  (q:R (Pg lo (hi-lo).toNat) H):Zy (model X.prog X.w) X.A (pyIter (.ref s.heap.objs.size)) (Qi X pins σ tg R) E {s with heap:=s.heap.push {cls:=.type "range",data:=.fields #[.int lo t,.int hi u,.int 1 v]},toks:=tk}:=by
 refine wpAny_pyIter_range (IsRange.new ..) (small_one h1 h2 h3 h4) ?_;have I1:Inv X pins σ H {s with heap:=s.heap.push {cls:=.type "range",data:=.fields #[.int lo t,.int hi u,.int 1 v]},toks:=tk}:=I.kept λb o e=>Ze _ e
 refine⟨(s.heap.push {cls:=.type "range",data:=.fields #[.int lo t,.int hi u,.int 1 v]}).objs.size,[(s.heap.push {cls:=.type "range",data:=.fields #[.int lo t,.int hi u,.int 1 v]}).objs.size],_,_,H,rfl,
  I1.kept (t':=tk) λb o e=>Ze _ e,vF _ lo (hi-lo).toNat,?_,λb hb=>?_,q⟩
 ·have e1:lo+((0:Nat):Int)*1=lo:=by simp
  have e2:(((hi-lo).toNat:Nat):Int)-((0:Nat):Int)=aa5 lo hi 1:=by rw[rangeSize_one];split <;> lia
  show IsRangeIter _ _ (lo+((0:Nat):Int)*1) ((((hi-lo).toNat:Nat):Int)-((0:Nat):Int)) 1;rw[e1,e2];exact ZR _ rfl
 ·have e:b=(s.heap.push {cls:=.type "range",data:=.fields #[.int lo t,.int hi u,.int 1 v]}).objs.size:=by simpa using hb
  subst e;exact I1.C8 (Y8 _) (I1.bB.fresh (Y8 _))
def Nw (ta:TA):TI:=λσ H R=>ta σ H λvs H1=>∃j:Int,vs=[.int j]/\-(2 ^ 62)<=j/\j<2 ^ 62/\R (Pg 0 j.toNat) H1
def Nv (ta:TA):TI:=λσ H R=>ta σ H λvs H1=>∃i j:Int,vs=[.int i,.int j]/\(-(2 ^ 62)<=i/\i<2 ^ 62/\-(2 ^ 62)<=j/\j<2 ^ 62)/\R (Pg i (j-i).toNat) H1
def zg {a:Expr} {ta:TA} {p pos:Pos} (hg:Gl X "range") (hm:X.mg "range" = none) (ha:PA X [a] ta) (hs:Y9 [a] X.env=[(false,eval a X.env)]:=by rfl):PI X tg (.Call (.Name "range" p) [a] [] pos) (Nw ta):=by
 intro pins s σ H R I h;refine Call_ (gD I hg hm boot_range (aal (bR (ha pos pins s σ H _ I h) λus s1 ⟨vs,H1,I1,r1,q1⟩=>?_) hs rfl));obtain⟨j,e,q1,q2,q⟩:=q1;subst e;cases r1 with
 |cons r rr =>
  cases rr;obtain⟨t,rfl⟩:=r;exact call_range_1 (tJ I1 (by lia) (by lia) q1 q2 (by simpa using q))
def pS {a b:Expr} {ta:TA} {p pos:Pos} (hg:Gl X "range") (hm:X.mg "range" = none) (ha:PA X [a,b] ta) (hs:Y9 [a,b] X.env=[(false,eval a X.env),(false,eval b X.env)]:=by rfl) (oJ:Y9 [b] X.env=[(false,eval b X.env)]:=by rfl) :
  PI X tg (.Call (.Name "range" p) [a,b] [] pos) (Nv ta):=by
 intro pins s σ H R I h;refine Call_ (gD I hg hm boot_range (aal (bR (ha pos pins s σ H _ I h) λus s1 ⟨vs,H1,I1,r1,q1⟩=>?_) (by rw[hs,oJ]) (by rw[oJ];rfl)))
 obtain⟨i,j,e,⟨q1,q2,q3,q4⟩,q⟩:=q1;subst e;cases r1 with
 |cons r rr =>
  cases rr with
  |cons r' rr =>
   cases rr;obtain⟨t,rfl⟩:=r;obtain⟨t',rfl⟩:=r';exact call_range_2 (tJ I1 q1 q2 q3 q4 q)
def QE (wi:TI)(g:TG)(tb:TS):TS:=λD σ H=>wi σ H λJ H1=>∃W:Nat->Nat->St->Hp->Prop,(∃m,W 0 m σ H1)/\∀i m σ H,W i m σ H ->
 (J.stop i H/\D.nx σ H)\/(J.go i H/\∃N:St->Hp->Prop,(∀σ' H',N σ' H'->∃m',m'<m/\W (i+1) m' σ' H')/\∀x H',J.L9 i H x H'->g x σ H' λσ2 H2=>tb {D with nx:=N,ct:=N,bk:=D.nx} σ2 H2)
def m8 (fp:List Addr)(h:Heap):List (Addr×Obj):=fp.filterMap λb=>(h.get? b).map λo=>(b,o)
def gB {fp:List Addr}{h:Heap}{b:Addr}{o:Obj}(hb:b∈fp)(e:h.get? b=some o):(b,o)∈m8 fp h:=List.mem_filterMap.mpr {b,hb,by rw[e];rfl}
def zm {fp:List Addr}{h:Heap}{p:Addr×Obj}(hp:p∈m8 fp h):p.1∈fp/\h.get? p.1=some p.2:=by
 obtain⟨b,hb,e⟩:=List.mem_filterMap.mp hp;cases q:h.get? b with
 |none=>rw[q]at e;cases e
 |some o =>
  rw[q]at e;have e':(b,o)=p:=ZZ e;subst e';exact{(hb),q}
def Inv.pinned {pins:List (Addr×Obj)}{σ:St}{H:Hp}{s:Y4}{fp:List Addr}(I:Inv X pins σ H s)(hf:∀b∈fp,g_ X pins H b)(ho:∀b∈fp,∃o,s.heap.get? b=some o/\∀v,o.data≠.cell v):Inv X (pins++m8 fp s.heap) σ H s :=
 I.xH λp hp=>(Zt.mp hp).elim (λz=>I.pin p (Z1 _ z)) λz=>by
  obtain⟨hb,e⟩:=zm z;obtain⟨f0,f1,f2,_⟩:=hf p.1 hb;obtain⟨o,e',d⟩:=ho p.1 hb;rw[e]at e';cases e';exact{(e),f0,f1,f2,d}
def Inv.jy {pins pl:List (Addr×Obj)}{σ:St}{H:Hp}{s:Y4}(I:Inv X (pins++pl) σ H s):Inv X pins σ H s:=I.xH λp hp=>I.pin p (Z1 _ (aao _ hp))
def BH {iter:Expr}{body:List Stmt}{wi:TI}{g:TG}{tb:TS}{pos:Pos}(hp:PassesOwn (model X.prog X.w) X.A X.env X.xe)(hc:X.calm=true)(hi:PI X tg iter wi)(hg:PG X tg g)(hb:sV X body tb)
  (hs:∀x,aad iter X.env x=pure x:=by intro _;rfl):PS X (.For tg iter body [] pos) (QE wi g tb):=by
 intro pins s σ H D I h;refine wpAny_For (bR (hi pins s σ H _ I h) λv s1 h1=>bR h1 λHB s2 h2=>?_) hs;obtain⟨it,fp,tn,J,H2,e,I2,T,gP,f2,W,⟨m0,w0⟩,turn⟩:=h2;subst e;have vJ:∀{H':Hp},(∀b∈fp,H' b=none)->∀b∈fp,g_ X pins H' b:=λhn b hb=>{hn b hb,(f2 b hb).2};refine codeAny_forLoop_any (λn s'=>∃i σ' H',Inv X pins σ' H' s'/\tn i s'.heap/\(∀b∈fp,H' b=none)/\W i n σ' H') ?_ m0 {0,σ,H2,I2,gP,λb hb=>(f2 b hb).1,w0};rintro n s3 ⟨i,σ3,H3,I3,mT,OO,w3⟩;rcases turn i n σ3 H3 w3 with⟨stop,qn⟩|⟨go,N,hN,step⟩
 ·refine abc hp (bR (T.done X rfl rfl rfl hc i pins s3 σ3 H3 X.xe I3 (vJ OO) mT stop) λr s4 ⟨hr,I4⟩=>?_);subst hr;exact abF {(σ3),H3,I4,qn}
 ·refine abc hp (bR (T.item X rfl rfl rfl hc i pins s3 σ3 H3 X.xe I3 (vJ OO) mT go) λr s4 ⟨u,hr,h4⟩=>?_);subst hr;refine abc hp (bR h4 λ_ s5 ⟨x,H5,I5,r5,y5,IQ,TM⟩=>?_);have Uo:=I5.pinned (vJ TM) (T.obj _ _ IQ);refine abc hp (bR (hg _ s5 σ3 H5 x u _ Uo r5 (step x H5 y5)) λ_ s6 ⟨σ6,H6,I6,q6⟩=>?_);refine abc hp (bR (hb _ s6 σ6 H6 _ I6 q6) λf s7 q7=>?_);have again:∀{σ7:St} {H7:Hp},Inv X (pins++m8 fp s5.heap) σ7 H7 s7->N σ7 H7->∃m,m<n/\∃i σ' H',Inv X pins σ' H' s7/\tn i s7.heap/\(∀b∈fp,H' b=none)/\W i m σ' H':=λ{σ7 H7} I7 n7=>by
   obtain⟨m',hm,w7⟩:=hN σ7 H7 n7;refine{m',hm,i+1,σ7,H7,I7.jy,T.keep _ _ _ IQ λb hb o e=>(I7.pin (b,o) (Z1 _ (Z1 _ (gB hb e)))).1,λb hb=>?_,w7};obtain⟨o,e,d⟩:=T.obj _ _ IQ b hb;exact(I7.pin (b,o) (Z1 _ (Z1 _ (gB hb e)))).2.1
  cases f with
  |next=>obtain⟨σ7,H7,I7,n7⟩:=q7;exact again I7 n7
  |cont=>obtain⟨σ7,H7,I7,n7⟩:=q7;exact again I7 n7
  |brk=>obtain⟨σ7,H7,I7,q7⟩:=q7;exact{(σ7),H7,I7.jy,q7}
  |ret v=>obtain⟨x7,σ7,H7,I7,r7,q7⟩:=q7;exact{(x7),σ7,H7,I7.jy,r7,q7}
end
abbrev R2:=V->V->Hp->VK->Prop
def lF (X:Cx)(f:Y1->Y1->Sem Y1)(r:R2):Prop :=
 ∀(pins:List (Addr×Obj)) (s:Y4) (σ:St) (H:Hp) (x y:V) (v u:Y1) (Q:VK),Inv X pins σ H s->RelV x v->RelV y u->r x y H Q ->
  Zy (model X.prog X.w) X.A (f v u) (EP X pins σ Q) X.xe s
def O_ (X:Cx)(f:Y1->Sem Y1)(r:V->Hp->VK->Prop):Prop :=
 ∀(pins:List (Addr×Obj)) (s:Y4) (σ:St) (H:Hp) (x:V) (v:Y1) (Q:VK),Inv X pins σ H s->RelV x v->r x H Q ->
  Zy (model X.prog X.w) X.A (f v) (EP X pins σ Q) X.xe s
def gW (X:Cx)(f:Y1)(r:List V->Hp->VK->Prop):Prop :=
 ∀(pins:List (Addr×Obj)) (s:Y4) (σ:St) (H:Hp) (xs:List V) (us:List Y1) (Q:VK),Inv X pins σ H s->Vals xs us->r xs H Q ->
  Zy (model X.prog X.w) X.A (call f us) (EP X pins σ Q) X.xe s
def Ue (X:Cx)(r:V->Hp->(Bool->Hp->Prop)->Prop):Prop :=
 ∀(pins:List (Addr×Obj)) (s:Y4) (σ:St) (H:Hp) (x:V) (v:Y1) (Q:Bool->Hp->Prop),Inv X pins σ H s->RelV x v->r x H Q ->
  Zy (model X.prog X.w) X.A (truthy v) (TP X pins σ Q) X.xe s
def Mo (r:R2)(ta tb:TE):TE:=λσ H Q=>ta σ H λx H1=>tb σ H1 λy H2=>r x y H2 Q
def VW (r:V->Hp->VK->Prop)(ta:TE):TE:=λσ H Q=>ta σ H λx H1=>r x H1 Q
def rI (C:Int->Int->Prop)(g:Int->Int->V):R2:=λx y H Q=>∃i j,x=.int i/\y=.int j/\C i j/\Q (g i j) H
def EK (g:Int->Int->V):R2:=λx y H Q=>∃i j,x=.int i/\y=.int j/\Q (g i j) H
def rU (g:Int->V):V->Hp->VK->Prop:=λx H Q=>∃i,x=.int i/\Q (g i) H
section
variable {X:Cx}{a b:Expr}{ta tb:TE}{pos:Pos}
def Ls (ha:PE X a ta)(hb:PE X b tb){pins:List (Addr×Obj)}{s:Y4}{σ:St}{H:Hp}{R:V->V->Hp->Prop}(I:Inv X pins σ H s)
  (h:ta σ H λx H1=>tb σ H1 λy H2=>R x y H2) {Q:Y1->Y4->Prop} {f:Y1->Y1->Sem Y1}
  (hf:∀v u s2 x y H2,Inv X pins σ H2 s2->RelV x v->RelV y u->R x y H2->Zy (model X.prog X.w) X.A (f v u) Q X.xe s2) :
  Zy (model X.prog X.w) X.A (eval a X.env) (λv s₁=>Zy (model X.prog X.w) X.A (eval b X.env) (λu s₂=>Zy (model X.prog X.w) X.A (f v u) Q X.xe s₂) X.xe s₁) X.xe s:=by
 refine bR (ha pins s σ H _ I h) λv s1 ⟨x,H1,I1,r1,q1⟩=>?_;refine bR (hb pins s1 σ H1 _ I1 q1) λu s2 ⟨y,H2,I2,r2,q2⟩=>?_;exact hf v u s2 x y H2 I2 r1 r2 q2
def cQ {op:Operator}{r:R2}(ho:lF X (aax op) r)(ha:PE X a ta)(hb:PE X b tb):PE X (.BinOp a op b pos) (Mo r ta tb):=by
 intro pins s σ H Q I h;exact wpAny_BinOp (Ls ha hb I h λv u s2 x y H2 I2 rx ry q=>ho pins s2 σ H2 x y v u Q I2 rx ry q)
def Hj {op:UnaryOp}{r:V->Hp->VK->Prop}(ho:O_ X (unaryOp op) r)(ha:PE X a ta):PE X (.UnaryOp op a pos) (VW r ta):=by
 intro pins s σ H Q I h;exact UnaryOp_ (bR (ha pins s σ H _ I h) λv s1 Sg=>by obtain⟨x,H1,I1,r1,q1⟩:=Sg;exact ho pins s1 σ H1 x v Q I1 r1 q1)
def LJ {f:Y1->Y1->Sem Y1}{C:Int->Int->Prop}{g:Int->Int->Int}
  (rule:∀(i j:Int) (t u:Tok) (s:Y4) (Q:Y1->Y4->Prop) (E:Y1->Y4->Prop),C i j->Q (.int (g i j) s.toks) {s with toks:=s.toks+1}->Zy (model X.prog X.w) X.A (f (.int i t) (.int j u)) Q E s) :
  lF X f (rI C λi j=>.int (g i j)):=by
 intro pins s σ H x y v u Q I rx ry h;obtain⟨i,j,rfl,rfl,hc,q⟩:=h;obtain⟨t,rfl⟩:=rx;obtain⟨t',rfl⟩:=ry;exact rule i j t t' s _ _ hc {.int (g i j),H,I.tok _,{_,rfl},q}
def MX {f:Y1->Y1->Sem Y1}{g:Int->Int->Int}
  (rule:∀(i j:Int) (t u:Tok) (s:Y4) (Q:Y1->Y4->Prop) (E:Y1->Y4->Prop),Q (.int (g i j) s.toks) {s with toks:=s.toks+1}->Zy (model X.prog X.w) X.A (f (.int i t) (.int j u)) Q E s) :
  lF X f (EK λi j=>.int (g i j)):=by
 intro pins s σ H x y v u Q I rx ry h;obtain⟨i,j,rfl,rfl,q⟩:=h;obtain⟨t,rfl⟩:=rx;obtain⟨t',rfl⟩:=ry;exact rule i j t t' s _ _ {.int (g i j),H,I.tok _,{_,rfl},q}
def JB {f:Y1->Y1->Sem Y1}{g:Int->Int->Bool}
  (rule:∀(i j:Int) (t u:Tok) (s:Y4) (Q:Y1->Y4->Prop) (E:Y1->Y4->Prop),Q (.bool (g i j)) s->Zy (model X.prog X.w) X.A (f (.int i t) (.int j u)) Q E s) :
  lF X f (EK λi j=>.bl (g i j)):=by
 intro pins s σ H x y v u Q I rx ry h;obtain⟨i,j,rfl,rfl,q⟩:=h;obtain⟨t,rfl⟩:=rx;obtain⟨t',rfl⟩:=ry;exact rule i j t t' s _ _ {.bl (g i j),H,I,rfl,q}
def pA (i j:Int):Prop:=0<=j/\j<=1000000/\i.natAbs<2 ^ 64
def pB (i j:Int):Prop:=(-(2 ^ 64)<i/\i<2 ^ 64)\/(-(2 ^ 64)<j/\j<2 ^ 64)
def pB.ok {i j:Int}(h:pB i j):IntMulOk i j:=by
 rcases h with⟨h1,h2⟩|⟨h1,h2⟩
 ·exact .of_left (intBits_le_64 h1 h2)
 ·exact .of_right (intBits_le_64 h1 h2)
def rO:lF X (aax .Add) (EK λi j=>.int (i+j)):=MX λ_ _ _ _ _ _ _ q=>add_int q
def BY:lF X (aax .Sub) (EK λi j=>.int (i-j)):=MX λ_ _ _ _ _ _ _ q=>sub_int q
def kQ:lF X (aax .Mult) (rI pB λi j=>.int (i*j)):=LJ λ_ _ _ _ _ _ _ hc q=>mul_int q hc.ok
def ik:lF X (aax .Mod) (rI (λ_ j=>0<j) λi j=>.int (i % j)):=LJ λi j _ _ _ _ _ hc q=>by
 have h1:(0:Int)<j:=hc;exact mod_int' (by lia) (by rw[Int.fmod_eq_emod_of_nonneg i (by lia)];exact q)
def BZ:lF X (aax .Pow) (rI pA λi j=>.int (i ^ j.toNat)):=LJ λ_ _ _ _ _ _ _ hc q=>pow_int_small hc.1 hc.2.1 hc.2.2 q
def Jw:lF X (aax .LShift) (rI pA λi j=>.int (i*2 ^ j.toNat)):=LJ λ_ _ _ _ _ _ _ hc q=>lshift_int_small hc.1 hc.2.1 hc.2.2 q
def VV {f:Y1->Sem Y1}{g:Int->Int}
  (rule:∀(i:Int) (t:Tok) (s:Y4) (Q:Y1->Y4->Prop) (E:Y1->Y4->Prop),Q (.int (g i) s.toks) {s with toks:=s.toks+1}->Zy (model X.prog X.w) X.A (f (.int i t)) Q E s) :
  O_ X f (rU λi=>.int (g i)):=by
 intro pins s σ H x v Q I rx h;obtain⟨i,rfl,q⟩:=h;obtain⟨t,rfl⟩:=rx;exact rule i t s _ _ {.int (g i),H,I.tok _,{_,rfl},q}
def A6:O_ X (unaryOp .USub) (rU λi=>.int (-i)):=VV λ_ _ _ _ _ q=>neg_int q
end
section
variable {X:Cx}{a b c:Expr}{ta tb:TE}{pos:Pos}
def C_ {pins:List (Addr×Obj)}{σ:St}{H:Hp}{s:Y4}{Q:VK}{k k':Bool}(I:Inv X pins σ H s)(q:Q (.bl k) H)(e:k=k'):EP X pins σ Q (.bool k') s:=by
 subst e;exact{.bl k,H,I,rfl,q}
def Hm:lF X (aaA .Lt) (EK λi j=>.bl (decide (i<j))):=JB λ_ _ _ _ _ _ _ q=>lt_int q
def Hn:lF X (aaA .Gt) (EK λi j=>.bl (decide (j<i))):=JB λ_ _ _ _ _ _ _ q=>gt_int q
def MW:lF X (aaA .GtE) (EK λi j=>.bl (decide (j<=i))):=JB λ_ _ _ _ _ _ _ q=>ge_int q
def Jy:lF X (aaA .Is) (λx y H Q=>y=.cN/\Q (.bl (decide (x=.cN))) H):=by
 intro pins s σ H x y v u Q I rx ry h;obtain⟨rfl,q⟩:=h;cases ry;refine is_none_gen (C_ I q ?_);cases x <;> first
  | (cases rx;rfl)
  | (obtain⟨t,rfl⟩:=rx;rfl)
def Fv:lF X (aaA .IsNot) (λx y H Q=>y=.cN/\Q (.bl (!decide (x=.cN))) H):=by
 intro pins s σ H x y v u Q I rx ry h;obtain⟨rfl,q⟩:=h;cases ry;refine isnot_none_gen (C_ I q ?_);cases x <;> first
  | (cases rx;rfl)
  | (obtain⟨t,rfl⟩:=rx;rfl)
def Cd (b:Expr){op:CmpOp}(h:op≠.In:=by decide)(h2:op≠.NotIn:=by decide):abf op b=false:=by
 have e1:(op==CmpOp.In)=false:=by cases op <;> first|rfl|exact absurd rfl h
 have e2:(op==CmpOp.NotIn)=false:=by cases op <;> first|rfl|exact absurd rfl h2
 cases b <;> simp[abf,e1,e2]
def Fe {op:CmpOp}{r:R2}(ho:lF X (aaA op) r)(ha:PE X a ta)(hb:PE X b tb)(hm:abf op b=false):PE X (.Compare a [op] [b] pos) (Mo r ta tb):=by
 intro pins s σ H Q I h;exact wpAny_Compare1 (Ls ha hb I h λv u s2 x y H2 I2 rx ry q=>ho pins s2 σ H2 x y v u Q I2 rx ry q) hm
def Mm (t:TE):TT:=λσ H Q=>t σ H λx H'=>∃k,x=.bl k/\Q k H'
def rq {op:CmpOp}{r:R2}(ho:lF X (aaA op) r)(ha:PE X a ta)(hb:PE X b tb)(hm:abf op b=false):PT X (.Compare a [op] [b] pos) (Mm (Mo r ta tb)):=by
 intro pins s σ H Q I h;refine wpAny_isTrue_Compare1 (bR (ha pins s σ H _ I h) λv s1 ⟨x,H1,I1,r1,q1⟩=>bR (hb pins s1 σ H1 _ I1 q1) λu s2 ⟨y,H2,I2,r2,q2⟩ =>
  bR (ho pins s2 σ H2 x y v u _ I2 r1 r2 q2) λc s3 ⟨z,H3,I3,r3,k,e,q3⟩=>?_) hm
 subst e;cases r3;exact abL {(H3),I3,q3}
def Pa (K:PySem.W.Frag)(x:V)(H:Hp)(k:Bool):Prop :=
 match x with
 |.cN=>k=false
 |.bl b=>k=b
 |.int i=>k=(i != 0)
 |.str y=>y.length<=Zd/\k=((y.length:Int) != 0)
 |.O5 y=>y.size<=Zd/\k=((y.size:Int) != 0)
 |.ref p=>(∃xs,dj K H p xs/\k=!xs.isEmpty)\/(∃xs,u_ K H p xs/\k=!xs.isEmpty)\/∃kvs,H p=some (.dK kvs)/\k=!kvs.isEmpty
 |_=>False
def wA {κ:Type}{kvs:List (κ×V)}{vs:List (κ×Y1)}(r:KV kvs vs):(!vs.isEmpty)=!kvs.isEmpty:=by
 cases r <;> rfl
def nK {xs:List V}{its:List Y1}(r:Vals xs its):(!its.toArray.isEmpty)=!xs.isEmpty:=by
 cases r <;> simp
def nz:(Zd:Nat)<2 ^ 63:=by rw[aaK];decide
def IG:Ue X (λx H Q=>∃k,Pa X.K x H k/\Q k H):=by
 intro pins s σ H x v Q I rx h;obtain⟨k,e,q⟩:=h;have hl:=nz;have hs:Zd=16777216:=aaK;cases x with
 |cN =>
  cases rx;have e':k=false:=e;subst e';exact truthy_none {(H),I,q}
 |bl b =>
  cases rx;have e':k=b:=e;subst e';exact abL {(H),I,q}
 |int i =>
  obtain⟨t,rfl⟩:=rx;have e':k=(i != 0):=e;subst e';exact PySem.P.truthy_int {(H),I,q}
 |str y =>
  obtain⟨t,rfl⟩:=rx;obtain⟨hy,e'⟩:y.length<=Zd/\k=((y.length:Int) != 0):=e;subst e';exact PySem.P.truthy_str (by lia) {H,I.tok _,q}
 |O5 y =>
  obtain⟨t,rfl⟩:=rx;obtain⟨hy,e'⟩:y.size<=Zd/\k=((y.size:Int) != 0):=e;subst e';exact PySem.W.truthy_bytes (by lia) {H,I.tok _,q}
 |ref p =>
  cases rx;have e':(∃xs,dj X.K H p xs/\k=!xs.isEmpty)\/(∃xs,u_ X.K H p xs/\k=!xs.isEmpty)\/∃kvs,H p=some (.dK kvs)/\k=!kvs.isEmpty:=e;rcases e' with⟨xs,hx,e'⟩|⟨xs,hx,e'⟩|⟨kvs,hx,e'⟩
  ·subst e';obtain⟨its,r,pl,hz⟩:=I.list hx;have hlen:=r.length;exact wpAny_truthy_list pl.isList (by simp only[Zw];lia) {H,I.tok _,by rw[nK r];exact q}
  ·subst e';obtain⟨its,r,pl,hz⟩:=I.tuple hx;have hlen:=r.length;exact truthy_tuple pl (by simp only[Zw];lia) {H,I.tok _,by rw[nK r];exact q}
  ·subst e';obtain⟨hz,hS,vs,r,m⟩:kvs.length<=Zd/\(p==aaQ)=false/\∃vs,KV kvs vs/\s.heap.DictOf (bZ X.prog X.w) p vs:=I.bB p _ hx;have hlen:kvs.length=vs.length:=Paired.length r;exact wpAny_truthy_dict hS m (by lia) {H,I.tok _,by rw[wA r];exact q}
 |_=>exact(show False from e).elim
def BE (ha:PE X a ta)(he:∀whole,isTrue a X.env whole=(do let v <- whole;acm a.pos;holding [v] (truthy v))):
  PT X a (λσ H Q=>ta σ H λx H'=>∃k,Pa X.K x H' k/\Q k H'):=by
 intro pins s σ H Q I h;exact isTrue_plain (bR (ha pins s σ H _ I h) λv s1 Sf=>by obtain⟨x,H1,I1,r1,q1⟩:=Sf;exact IG pins s1 σ H1 x v Q I1 r1 q1) (he _)
def vals1 {x:V}{us:List Y1}(r:Vals [x] us):∃u,us=[u]/\RelV x u:=by
 cases r with
 |cons r1 r2=>cases r2;exact{_,rfl,r1}
def vals2 {x y:V}{us:List Y1}(r:Vals [x,y] us):∃u w',us=[u,w']/\RelV x u/\RelV y w':=by
 cases r with
 |cons r1 r2 =>
  cases r2 with
  |cons r3 r4=>cases r4;exact{_,_,rfl,r1,r3}
def qI (hc:X.calm=true):gW X (.builtin "max") (λxs H Q=>∃i j,xs=[.int i,.int j]/\Q (.int (if j>i then j else i)) H):=by
 intro pins s σ H xs us Q I r h;obtain⟨i,j,rfl,q⟩:=h;obtain⟨u,w',rfl,⟨t,rfl⟩,⟨t',rfl⟩⟩:=vals2 r;refine max_two_ints (I.ok.hd hc) λh' tk k=>{_,H,I.kept k,?_,q}
 by_cases hj:j>i
 ·rw[if_pos hj,if_pos hj];exact{_,rfl}
 ·rw[if_neg hj,if_neg hj];exact{_,rfl}
def lA (hc:X.calm=true):gW X (.builtin "min") (λxs H Q=>∃i j,xs=[.int i,.int j]/\Q (.int (if j<i then j else i)) H):=by
 intro pins s σ H xs us Q I r h;obtain⟨i,j,rfl,q⟩:=h;obtain⟨u,w',rfl,⟨t,rfl⟩,⟨t',rfl⟩⟩:=vals2 r;refine min_two_ints (I.ok.hd hc) λh' tk k=>{_,H,I.kept k,?_,q}
 by_cases hj:j<i
 ·rw[if_pos hj,if_pos hj];exact{_,rfl}
 ·rw[if_neg hj,if_neg hj];exact{_,rfl}
def qJ:gW X (.type "int") (λxs H Q=>(∃i,xs=[.int i]/\Q (.int i) H)\/∃k,xs=[.bl k]/\Q (.int (if k then 1 else 0)) H):=by
 intro pins s σ H xs us Q I r h;rcases h with⟨i,rfl,q⟩|⟨k,rfl,q⟩
 ·obtain⟨u,rfl,t,rfl⟩:=vals1 r;exact call_int_int {.int i,H,I,{_,rfl},q}
 ·obtain⟨u,rfl,r1⟩:=vals1 r;cases r1;exact call_int_bool {.int (if k then 1 else 0),H,I.tok _,{_,rfl},q}
end
def pj.some_of {v:V}{o:Option Y1}(r:pj (some v) o):∃u,o=some u/\RelV v u:=by
 cases o with
 |none=>exact(show False from r).elim
 |some u=>exact{(u),rfl,r}
structure c_ (k:Nat)(A:Z0):Prop where
 hd:A.handled=none
 dp:A.depth+3*k+5<recursionLimit
 un:A.units+16*k+200<abd
def c_.mono {j k:Nat}{A:Z0}(r:c_ k A)(h:j<=k):c_ j A:={r.hd,by have:=r.dp;lia,by have:=r.un;lia}
def c_.deeper {k:Nat}{A:Z0}(r:c_ (k+1) A)(env:Env):c_ k (A.deeper env) :=
 {r.hd,by have:=r.dp;show A.depth+1+3*k+5<_;lia,by have:=r.un;show A.units+3+16*k+200<_;lia}
def c_.depth {k:Nat}{A:Z0}(r:c_ k A):A.depth<recursionLimit:=by have:=r.dp;lia
def c_.units {k:Nat}{A:Z0}(r:c_ k A):A.units+64<abd:=by have:=r.un;lia
def Mp:TA:=λ_ H Q=>Q [] H
def G_ (ta:TE)(tr:TA):TA:=λσ H Q=>ta σ H λx H1=>tr σ H1 λxs H2=>Q (x::xs) H2
section
variable {X:Cx}{e:Expr}{es:List Expr}{te:TE}{t:TA}{pos:Pos}
def cq:PA X [] Mp:=λ_ _ _ _ H Q I h=>Calls.spliced_nil {[],H,I,.nil,h}
def aZ (ha:PE X e te)(hr:PA X es t)(hs:Y9 (e::es) X.env=(false,eval e X.env)::Y9 es X.env:=by rfl):PA X (e::es) (G_ te t):=by
 intro pos pins s σ H Q I h;rw[hs];show Zy _ _ (spliced ((false,eval e X.env)::aag pos (Y9 es X.env))) _ _ s;refine Calls.spliced_cons (bR (ha pins s σ H _ I h) λu s1 ⟨x,H1,I1,r1,q1⟩=>?_);exact bR (hr pos pins s1 σ H1 _ I1 q1) λus s2 ⟨xs,H2,I2,r2,q2⟩=>{x::xs,H2,I2,.cons r1 r2,q2}
def Qy (t:TA):TE:=λσ H Q=>t σ H λxs H1=>xs.length<=Zd/\∀p,H1 p=none->Q (.ref p) (upd H1 p (.tup xs))
def QC (t:TA):TE:=λσ H Q=>t σ H λxs H1=>xs.length<=Zd/\∀p,H1 p=none->Q (.ref p) (upd H1 p (.lst xs))
def v8 {x1}(h:PA X es t):PE X (.Tuple es x1 pos) (Qy t):=by
 intro pins s σ H Q I hq;refine wpAny_Tuple_spliced (bR (h pos pins s σ H _ I hq) λus s1 ⟨xs,H1,I1,r,z,q⟩=>{by rw[<- r.length];exact z,?_})
 have hf:H1 s1.heap.objs.size=none:=I1.bB.fresh (Y8 _);refine{.ref s1.heap.objs.size,upd H1 s1.heap.objs.size (.tup xs),I1.laid (t':=s1.toks) (λb u e=>Ze _ e) (Y8 _) ?_,rfl,q _ hf};exact{z,us,r,{_,ZR _ rfl,rfl,_,rfl}}
def v9 (h:PA X es t):PE X (.List es pos) (QC t):=by
 intro pins s σ H Q I hq;refine wpAny_List_spliced (bR (h pos pins s σ H _ I hq) λus s1 ⟨xs,H1,I1,r,z,q⟩=>{by rw[<- r.length];exact z,?_})
 have hf:H1 s1.heap.objs.size=none:=I1.bB.fresh (Y8 _);refine{.ref s1.heap.objs.size,upd H1 s1.heap.objs.size (.lst xs),I1.laid (t':=s1.toks) (λb u e=>Ze _ e) (Y8 _) ?_,rfl,q _ hf};exact{z,us,0,r,ZR _ rfl}
end
abbrev Sp:=List V->Hp->VK->XK->Prop
abbrev AB:=List Env->Hp->Y4->XK->Y1->Y4->Prop
structure G3 (P:Y7)(w:Zj)(K:PySem.W.Frag)(mg:Str->Option Y1)(base:Heap)(A:Z0)(outer:List Env)(s:Y4)(H:Hp):Prop where
 frames:A.frames=some outer
 mod:Mod K mg base
 bs:∀b o,base.get? b=some o->s.heap.get? b=some o/\H b=none
 DK:base.objs.size<=s.heap.objs.size
 j8:s.heap.FunFrames base outer
 Gs:∀b∈hG outer,H b=none
 bB:g9 P w H s.heap
 bare:acv s.gens
def CE (outer:List Env)(P:Y7)(w:Zj)(H:Hp)(s:Y4)(Q:VK)(u:Y1)(s':Y4):Prop :=
 ∃v H',s'.os=s.os/\acv s'.gens/\Un (hG outer) [] H H' s.heap s'.heap/\g9 P w H' s'.heap/\RelV v u/\Q v H'
def CR (CX:AB)(outer:List Env)(P:Y7)(w:Zj)(H:Hp)(s:Y4)(Q:VK)(E:XK)(r:Result)(s':Y4):Prop :=
 match r with
 |.ok (.ret u)=>CE outer P w H s Q u s'
 |.ok _=>False
 |.error e=>CX outer H s E e s'
structure aE (P:Y7)(w:Zj)(K:PySem.W.Frag)(mg:Str->Option Y1)(base:Heap)(CX:AB)(k:Nat)(f:Addr)(fd:ZL)(ps:List Str)(sp:Sp):Prop where
 len:∀vs H Q E,sp vs H Q E->vs.length=ps.length
 run:∀(A:Z0) (outer:List Env) (s:Y4) (H:Hp) (args:Args) (us:List Y1) (vs:List V) (Q:VK) (E:XK),c_ k A->G3 P w K mg base A outer s H->BindsTo s fd args (ps.zip us)->Vals vs us->sp vs H Q E ->
  aco (model P w) A (.call (.ref f) args) (CR CX outer P w H s Q E) s
def aE.imp {P:Y7}{w:Zj}{K:PySem.W.Frag}{mg:Str->Option Y1}{base:Heap}{CX:AB}{k:Nat}{f:Addr}{fd:ZL}{ps:List Str}{sp UJ:Sp}(F:aE P w K mg base CX k f fd ps sp)
  (h:∀vs H Q E,UJ vs H Q E->sp vs H Q E):aE P w K mg base CX k f fd ps UJ :=
 {λvs H Q E q=>F.len vs H Q E (h _ _ _ _ q),λA outer s H args us vs Q E hr he hb hv hs=>F.run A outer s H args us vs Q E hr he hb hv (h _ _ _ _ hs)}
section
variable {X:Cx}{pins:List (Addr×Obj)}{σ:St}{H:Hp}{s s':Y4}
def Inv.OR (I:Inv X pins σ H s):G3 X.prog X.w X.K X.mg X.base X.A X.stack s H :=
 {I.ok.frames,I.ok.mod,I.bs,ZX I.ok.DK I.sz,I.stack,I.qX,I.bB,I.bare}
def Inv.after {Q:VK}{u:Y1}(I:Inv X pins σ H s)(h:CE X.stack X.prog X.w H s Q u s'):EP X pins σ Q u s':=by
 obtain⟨v,H',os,bare,un,bB,r,q⟩:=h;obtain⟨hh,g,d,t,Wh⟩:=s';obtain rfl:Wh=s.os:=os;exact{v,H',I.call (h':=hh) (g':=g) (d':=d) (t':=t) (ch:=[]) un bB bare (λb z=>absurd z (by simp)),r,q}
end
def Mt (sp:Sp)(HP:List V)(E:XK)(t:TA):TE:=λσ H Q=>t σ H λvs H1=>sp (vs++HP) H1 Q E
def Binds (K:PySem.W.Frag)(fd:ZL)(ps:List Str)(ds:List Y1):Prop :=
 ∀(s:Y4) (us:List Y1),K.In s.heap->(us++ds).length=ps.length->BindsTo s fd {us,[]} (ps.zip (us++ds))
def Binds.all {K:PySem.W.Frag}{fd:ZL}{ps:List Str}(h:∀us:List Y1,us.length=ps.length->bindArgs fd {us,[]}=pure (ps.zip us)):Binds K fd ps []:=λs us _ hl=>by
 rw[aar]at hl ⊢
 exact .of_eq (h us hl)
def Passes (CX:AB)(X:Cx)(E:XK):Prop:=∀(pins:List (Addr×Obj)) (σ:St) (H:Hp) (s:Y4) (e:Y1) (s':Y4),Inv X pins σ H s->CX X.stack H s E e s'->X.xe e s'
section
variable {X:Cx}{CX:AB}{k:Nat}{f:Addr}{fd:ZL}{ps:List Str}{sp:Sp}{HP:List V}{ds:List Y1}{E:XK}{x:Str}{p pos:Pos}{e:Expr}{es:List Expr}{t:TA}
def Jb {pins:List (Addr×Obj)}{σ:St}{H:Hp}{s:Y4}{Q:VK}{us:List Y1}{vs:List V}(F:aE X.prog X.w X.K X.mg X.base CX k f fd ps sp)(hr:c_ k X.A)(hb:Binds X.K fd ps ds)(hd:Vals HP ds)(hx:Passes CX X E)
  (I:Inv X pins σ H s) (r:Vals vs us) (h:sp (vs++HP) H Q E):Zy (model X.prog X.w) X.A (call (.ref f) us) (EP X pins σ Q) X.xe s:=by
 have r2:Vals (vs++HP) (us++ds):=r.append hd;have hl:(us++ds).length=ps.length:=by rw[<- r2.length];exact F.len _ _ _ _ h
 refine wpAny_call (abN (F.run X.A X.stack s H {us,[]} (us++ds) (vs++HP) Q E hr I.OR (hb s us I.AH hl) r2 h) λr s' hq=>?_);cases r with
 |error e=>exact hx pins σ H s e s' I hq
 |ok fl =>
  cases fl with
  |ret u=>exact I.after hq
  |next=>exact aaN hq
  |brk=>exact aaN hq
  |cont=>exact aaN hq
def jQ (F:aE X.prog X.w X.K X.mg X.base CX k f fd ps sp)(hr:c_ k X.A)(hg:Gl X x)(hm:X.mg x=some (.ref f))(hk:PySem.W.keepIn X.K (.ref f)=true)(hb:Binds X.K fd ps ds)(hd:Vals HP ds)(hx:Passes CX X E)
  (ha:PA X (e::es) t) (hdb:(x==("__debug__" : Str))=false:=by decide) (he:Y9 (e::es) X.env=(false,eval e X.env)::Y9 es X.env:=by rfl) (hpl:(aag pos (Y9 es X.env)).any (·.1)=false:=by rfl) :
  PE X (.Call (.Name x p) (e::es) [] pos) (Mt sp HP E t):=by
 intro pins s σ H Q I h;refine aa9 (j3 I hg hm ?_ hdb);refine PySem.W.callWith_K (h₀:=X.base) I.ok.mod.PJ hk (bR (ha pos pins s σ H _ I h) λus s1 ⟨vs,H1,I1,r,q⟩=>{I1.AH,?_}) he hpl;exact Jb F hr hb hd hx I1 r q
end
structure aJ (N P:List Str)(sc:abB):Prop where
 kind:sc.kind=.function
 co:sc.isCoroutine=false
 gen:sc.isGenerator=false
 nd:N.Nodup
 pre:N.take P.length=P
 par:∀x∈P,sc.names.lookup x=some .local\/sc.names.lookup x=some .cell
 JT:∀y∈sc.names,y.2≠.free
def mkS{N P:List Str}{sc:abB}(h0:sc.kind=.function:=by rfl)(h1:sc.isCoroutine=false:=by rfl)(h2:sc.isGenerator=false:=by rfl)(h3:N.Nodup:=by decide +kernel)(h4:N.take P.length=P:=by rfl)(h5:∀x∈P,sc.names.lookup x=some .local\/sc.names.lookup x=some .cell:=by decide +kernel)(h6:∀y∈sc.names,y.2≠.free:=by decide +kernel):aJ N P sc:={(h0),h1,h2,h3,h4,h5,h6}
theorem qL {kindOf:Str->Option ab3}{x:Str}:∀{binds:List (Str×Y1)} {m:Str->Option Y1},(∀v,(x,v)∉binds)->bindL kindOf binds m x=m x
 |[],_,_=>rfl
 | (n,v)::r,m,h=>by
  unfold bindL;rw[qL λw hw=>h w (Zu _ hw)]
  split
  ·have:x≠n:=by rintro rfl;exact h v ZK
   simp[this]
  ·rfl
theorem qN {kindOf:Str->Option ab3}{x:Str}:∀{binds:List (Str×Y1)} {m:Str->Option Y1},(∀v,(x,v)∉binds)->bindC kindOf binds m x=m x
 |[],_,_=>rfl
 | (n,v)::r,m,h=>by
  unfold bindC;rw[qN λw hw=>h w (Zu _ hw)]
  split
  ·rfl
  ·have:x≠n:=by rintro rfl;exact h v ZK
   simp[this]
theorem qM {kindOf:Str->Option ab3}{x:Str}{v:Y1}:∀{P:List Str} {vs:List Y1} {i:Nat} {m:Str->Option Y1},P.Nodup->P[i]?=some x->vs[i]?=some v->kindOf x=some .local ->
  bindL kindOf (P.zip vs) m x=some v
 |[],_,_,_,_,h,_,_=>by simp at h
 |_::_,[],_,_,_,_,h,_=>by simp at h
 |p::P,w::vs,0,m,nd,h1,h2,hk=>by
  simp at h1 h2;subst h1;subst h2;show bindL kindOf ((p,w)::P.zip vs) m p=_;unfold bindL;rw[qL λv hv=>(Zs.mp nd).1 (abG hv).1,if_pos hk];simp
 |p::P,w::vs,i+1,m,nd,h1,h2,hk=>by
  show bindL kindOf ((p,w)::P.zip vs) m x=_;unfold bindL;exact qM (i:=i) (Zs.mp nd).2 (by simpa using h1) (by simpa using h2) hk
theorem qO {kindOf:Str->Option ab3}{x:Str}{v:Y1}:∀{P:List Str} {vs:List Y1} {i:Nat} {m:Str->Option Y1},P.Nodup->P[i]?=some x->vs[i]?=some v->kindOf x≠some .local ->
  bindC kindOf (P.zip vs) m x=some v
 |[],_,_,_,_,h,_,_=>by simp at h
 |_::_,[],_,_,_,_,h,_=>by simp at h
 |p::P,w::vs,0,m,nd,h1,h2,hk=>by
  simp at h1 h2;subst h1;subst h2;show bindC kindOf ((p,w)::P.zip vs) m p=_;unfold bindC;rw[qN λv hv=>(Zs.mp nd).1 (abG hv).1,if_neg hk];simp
 |p::P,w::vs,i+1,m,nd,h1,h2,hk=>by
  show bindC kindOf ((p,w)::P.zip vs) m x=_;unfold bindC;exact qO (i:=i) (Zs.mp nd).2 (by simpa using h1) (by simpa using h2) hk
def start (N:List Str)(vs:List V):St:=vs.map some++Zr (N.length-vs.length) none
noncomputable def ly (CX:AB)(P:Y7)(w:Zj)(K:PySem.W.Frag)(mg:Str->Option Y1)(base:Heap)(N:List Str)(qual:Str)(scope:abB)(f:Addr)(cd:Y1)(A:Z0)(outer:List Env)(s:Y4)(H:Hp)(E:XK):Cx where
 prog:=P
 w:=w
 K:=K
 mg:=mg
 base:=base
 A:=A.deeper (ace qual scope s.heap.objs.size f cd)
 N:=N
 s₀:=s
 H₀:=H
 env:=ace qual scope s.heap.objs.size f cd
 outer:=outer
 stack:=ace qual scope s.heap.objs.size f cd::outer
 ex:=[]
 calm:=true
 fn:=λ_=>true
 pn:=[]
 xe:=λe s'=>Zy (model P w) (A.deeper (ace qual scope s.heap.objs.size f cd)) (leaving (ace qual scope s.heap.objs.size f cd) e) (λ_ Bq=>CX outer H s E e Bq) (λe' Bq=>CX outer H s E e' Bq) s'
def uZ {sc:abB}{n:Nat}{x:Str}(h:sc.names.lookup x=some .cell):∃c,(cellsFrom n sc.names []).lookup x=some c:=by
 have q:=PySem.W.cellsFrom_some sc.names n [] (.inl h);exact Option.isSome_iff_exists.mp q
def zN {CX:AB}{P:Y7}{w:Zj}{K:PySem.W.Frag}{mg:Str->Option Y1}{base:Heap}{N ps:List Str}{qual:Str}{scope:abB}{f:Addr}{cd:Y1}{A:Z0}{outer:List Env}{s s1:Y4}{H:Hp}{E:XK}{us:List Y1}{vs:List V}
  (S:aJ N ps scope) (hd:A.handled=none) (e0:G3 P w K mg base A outer s H) (hl:vs.length=ps.length) (r:Vals vs us)
  (x:InCallC s s.heap.objs.size (bindL (ace qual scope s.heap.objs.size f cd).kindOf (ps.zip us) λ_=>none) (cellsFrom (s.heap.objs.size+1) scope.names []) (bindC (ace qual scope s.heap.objs.size f cd).kindOf (ps.zip us) λ_=>none) s1) :
  Inv (ly CX P w K mg base N qual scope f cd A outer s H E) [] (start N vs) H s1:=by
 have hpl:ps.length<=N.length:=by have:=congrArg acs S.pre;rw[ZI]at this;lia
 obtain⟨h1,tk,rfl,hk⟩:=x.done;have M7:∀b:Addr,b∉(ly CX P w K mg base N qual scope f cd A outer s H E).ex:=λb z=>absurd (show b∈([]:List Addr) from z) (by simp)
 refine⟨{e0.mod,S.kind,rfl,rfl,Y8 _,λy z c h1 h2=>?_,λy hy=>?_,λy c _ h=>?_,λ_=>hd,Around.frames_deeper e0.frames,.inr {(rfl),rfl},λb z=>absurd z (M7 b),e0.bs,e0.DK,λb _ _=>M7 b,λb z=>absurd z (M7 b),e0.j8,e0.Gs},
  rfl,e0.bare,Un.kept hk,{_,x.toInCall.ns,λi y v h1 h2 h3=>?_},λy c h=>{_,x.cell y c h},e0.bB.fresh (Y8 _),λy c h=>?_,λp hp=>absurd (show p∈([]:List (Addr×Obj)) from hp) (by simp),e0.bB.kept hk,?_⟩
 ·exact name_of_addr x.apart (PySem.mem_of_lookup h1) (PySem.mem_of_lookup h2)
 ·have hy:scope.names.lookup y=some .cell\/scope.names.lookup y=some .free:=hy;rcases hy with hy|hy
  ·exact uZ hy
  ·exact absurd rfl (S.JT _ (PySem.mem_of_lookup hy))
 ·exact Nat.le_of_lt (x.above y c (PySem.mem_of_lookup h))
 ·have hi:i<vs.length:=by
   unfold start at h2
   by_cases hi:i<vs.length
   ·exact hi
   ·rw[ZY (by simpa using hi)]at h2
    rw[List.getElem?_replicate]at h2
    split at h2 <;> cases h2
  have ha:vs[i]?=some v:=by
   unfold start at h2;rw[aaa (by simpa using hi),Zg]at h2
   cases e:vs[i]? with
   |none=>rw[e]at h2;cases h2
   |some a=>rw[e]at h2;cases h2;rfl
  obtain⟨u,hu,rv⟩:=r.get ha;have hp:ps[i]?=some y:=by
   rw[<- S.pre,List.getElem?_take_of_lt (by lia)];exact h1
  have U3:ps.Nodup:=by rw[<- S.pre];exact S.nd.sublist (List.take_sublist _ _)
  refine{u,rv,?_};rcases S.par y (ZT hp)with k|k
  ·exact .inl {k,qM U3 hp hu k}
  ·obtain⟨c,e⟩:=uZ (n:=s.heap.objs.size+1) k;refine .inr {.inl k,c,e,?_};have q:=x.cell y c e;rw[qO U3 hp hu (by show scope.names.lookup y≠_;rw[k];decide)]at q
   exact q
 ·exact e0.bB.fresh (Nat.le_of_lt (x.above y c (PySem.mem_of_lookup h)))
 ·unfold start;show _=N.length;rw[Zk,Y3,List.length_replicate];lia
def HM {CX:AB}{P:Y7}{w:Zj}{K:PySem.W.Frag}{mg:Str->Option Y1}{base:Heap}{k:Nat}{f:Addr}{name qual:Str}{params:Arguments}{body:List Stmt}{scope:abB}{dV kV doc pm bQ ct oc:Y1}{an od:Option Addr}
  {Hl:Array (Option Y1)} {N ps:List Str} {sp:Sp} (lk:K.lookup f=some {oc,od,.func (PySem.W.fnOf name qual params body scope dV kV doc pm an bQ ct),Hl}) (eU:PySem.W.codeIn K bQ qual=true) (S:aJ N ps scope)
  (len:∀vs H Q E,sp vs H Q E->vs.length=ps.length)
  (iA:∀(A:Z0) (outer:List Env) (s:Y4) (H:Hp) (vs:List V) (Q:VK) (E:XK),c_ k (A.deeper (ace qual scope s.heap.objs.size f bQ))->sp vs H Q E ->
   ∃t,sV (ly CX P w K mg base N qual scope f bQ A outer s H E) body t/\t {nx:=λ_ H'=>Q .cN H',rt:=Q} (start N vs) H) :
  aE P w K mg base CX (k+1) f (PySem.W.fnOf name qual params body scope dV kV doc pm an bQ ct) ps sp:=by
 refine{len,λA outer s H args us vs Q E hr e0 hb r gF=>?_};have hl:=len _ _ _ _ gF;have KX:K.In s.heap:=e0.mod.PJ.keeps λb o e=>(e0.bs b o e).1;have lim:s.heap.NoLimit:=e0.mod.nolimit.keeps λb o e=>(e0.bs b o e).1;have Ou:∀y∈ps.zip us,scope.names.lookup y.1=some .local\/(scope.names.lookup y.1=some .cell/\((cellsFrom (s.heap.objs.size+1) scope.names []).lookup y.1).isSome=true):=λSd hy=>by
  obtain⟨n,v⟩:=Sd;rcases S.par n (abG hy).1 with q|q
  ·exact .inl q
  ·exact .inr {q,PySem.W.cellsFrom_some _ _ _ (.inl q)}
 refine codeAny_call_function hr.depth (KX _ _ lk) rfl S.co S.gen rfl (PySem.W.codeRec_of KX eU) (hb _ _ _ _ ?_);refine wpAny_newFunctionEnv_cells S.kind Ou λenv he s1 x=>?_;subst he;refine{lim.keeps x.toInCall.keep,codeAny_func ?_};obtain⟨t,ht,hq⟩:=iA A outer s H vs Q E (hr.deeper _) gF;have I:Inv (ly CX P w K mg base N qual scope f bQ A outer s H E) [] (start N vs) H s1:=zN S hr.hd e0 hl r x;refine abn (ht [] s1 (start N vs) H _ I hq) (λfl s' hs=>?_) λe s' hs=>hs;have fin:∀{σ':St} {H':Hp} {v:V} {u:Y1},Inv (ly CX P w K mg base N qual scope f bQ A outer s H E) [] σ' H' s'->RelV v u->Q v H'->CE outer P w H s Q u s' :=
  λ{σ' H' v u} J rv q=>{(v),H',J.os,J.bare,J.base,J.bB,rv,q}
 cases fl with
 |ret u =>
  obtain⟨v,σ',H',J,rv,q⟩:=hs;exact fin J rv q
 |next =>
  obtain⟨σ',H',J,q⟩:=hs;exact fin (v:=V.cN) (u:=Value.none) J rfl q
 |brk =>
  obtain⟨_,_,_,q⟩:=hs;exact aaN q
 |cont =>
  obtain⟨_,_,_,q⟩:=hs;exact aaN q
section
variable {X:Cx}{x:Str}{p pos:Pos}{e:Expr}{es:List Expr}{t:TA}{id T:String}{r:List V->Hp->VK->Prop}
def QF (r:List V->Hp->VK->Prop)(t:TA):TE:=λσ H Q=>t σ H λvs H1=>r vs H1 Q
def ij (hc:gW X (.builtin id) r) (hg:Gl X x) (hm:X.mg x=none) (hv:Z9 x=some (.builtin id)) (ha:PA X (e::es) t) (hn:x≠"__name__" := by decide) (hdb:(x==("__debug__" : Str))=false:=by decide)
  (he:Y9 (e::es) X.env=(false,eval e X.env)::Y9 es X.env:=by rfl) (hpl:(aag pos (Y9 es X.env)).any (·.1)=false:=by rfl):PE X (.Call (.Name x p) (e::es) [] pos) (QF r t):=by
 intro pins s σ H Q I h;refine aa9 (gD I hg hm hv ?_ hn hdb);exact PyProof.Rows.callWith_builtin1 (bR (ha pos pins s σ H _ I h) λus s1 Sa=>by obtain⟨vs,H1,I1,r1,q1⟩:=Sa;exact hc pins s1 σ H1 vs us Q I1 r1 q1) he hpl
def pU (hc:gW X (.type T) r) (hg:Gl X x) (hm:X.mg x=none) (hv:Z9 x=some (.type T)) (ha:PA X (e::es) t) (hn:x≠"__name__" := by decide) (hdb:(x==("__debug__" : Str))=false:=by decide)
  (he:Y9 (e::es) X.env=(false,eval e X.env)::Y9 es X.env:=by rfl) (hpl:(aag pos (Y9 es X.env)).any (·.1)=false:=by rfl):PE X (.Call (.Name x p) (e::es) [] pos) (QF r t):=by
 intro pins s σ H Q I h;refine aa9 (gD I hg hm hv ?_ hn hdb);exact aal (bR (ha pos pins s σ H _ I h) λus s1 R_=>by obtain⟨vs,H1,I1,r1,q1⟩:=R_;exact hc pins s1 σ H1 vs us Q I1 r1 q1) he hpl
end
end L2
namespace HT
open PySem PyProof.Rows
def lexLt:List Int->List Int->Bool
 |[],[]=>false
 |[],_::_=>true
 |_::_,[]=>false
 |x::xs,y::ys=>if x=y then lexLt xs ys else decide (x<y)
def gC (x y:Int)(xs ys:List Int):lexLt (x::xs) (y::ys)=if x=y then lexLt xs ys else decide (x<y):=rfl
def oZ:lexLt [] []=false:=rfl
def nC (y:Int)(ys:List Int):lexLt [] (y::ys)=true:=rfl
def nE (x:Int)(xs:List Int):lexLt (x::xs) []=false:=rfl
def Dn (A:Z0)(s:Y4)(a:Int)(t:Tok)(c:Int)(u:Tok):∃e,SeqAt.EqAt A s (.int a t) (.int c u) e/\(e=true↔a=c) :=
 {(a==c),aci a t c u,by simp}
def tH (A:Z0)(s:Y4)(a:Int)(t:Tok)(c:Int)(u:Tok)(prog:Y7)(w:Zj)(E:Y1->Y4->Prop)(Q:Y1->Y4->Prop)(h:Q (.bool (decide (a<c))) s):
  Zy (model prog w) A (acn .Lt (.int a t) (.int c u)) Q E s :=
 (PyProof.Rows.lt_int h:Zy (model prog w) A (aaA .Lt (.int a t) (.int c u)) Q E s)
section
open PySem.SeqAt
open PySem.AutoSeq1 (wpAny_loadPart')
open PySem.MeetsSeq PySem.MeetsSeq2 PySem.MeetsSeq3
def oN (l b:Addr)(items aF:Array Y1)(n n2:Nat)(dd wW:Option Addr)(sl vN:Array (Option Y1))(ns ms:List Int)(hi:aaI items.toList ns)(hj:aaI aF.toList ms):
  Meets (abb.«tuple.__lt__» {[.ref l,.ref b],[]})
   (λ_ R s=>s.heap.get? l=some {cls:=.type "tuple",dict:=dd,data:=.seq items n,slots:=sl}/\s.heap.get? b=some {cls:=.type "tuple",dict:=wW,data:=.seq aF n2,slots:=vN} /\
    R (.ok (.ret (.bool (lexLt ns ms)))) s) :=
 .of_wp λprog w A R s h=>by
  obtain⟨hp,g,d,tk,os⟩:=s;obtain⟨hl,hb,h⟩:=h;have f2:=AutoSeq1.sub_tuple_tuple;have z1:items.size=ns.length:=by rw[<- hi.length];simp
  have z2:aF.size=ms.length:=by rw[<- hj.length];simp
  wp_walk using ZO hl,ZO hb,wpAny_forIn_list _ (λrest b s'=>b.1=none/\s'={(hp),g,d,tk,os}/\∃(vs ws:List Y1) (sU LL:List Int),rest=vs.zip ws /\
   aaI vs sU/\aaI ws LL/\sU.length+aF.size=LL.length+items.size/\R (.ok (.ret (.bool (lexLt sU LL)))) {(hp),g,d,tk,os}) _
  case turn =>
   rintro⟨y,x⟩ rest b s' ⟨gY,rfl,vs,ws,sU,LL,hz,RQ,PN,hlen,hR⟩;cases RQ with
   |nil=>rw[abh]at hz;cases hz
   |cons a t RN =>
    cases PN with
    |nil=>rw[List.zip_nil_right]at hz;cases hz
    |cons c u RK =>
     rw[aaf]at hz;injection hz with NA lU
     injection NA with hy hx
     subst hy hx;rw[gC]at hR;simp only[Zb]at hlen;obtain⟨e,he,Oy⟩:=Dn A.in1 {(hp),g,d,tk,os} a t c u;refine Y2 (he prog w _ _ ?_);cases e with
     |true =>
      rw[if_pos (Oy.mp rfl)]at hR
      wp_walk
      exact{rfl,rfl,_,_,_,_,lU,RN,RK,by lia,hR}
     |false =>
      rw[if_neg (λq=>absurd (Oy.mpr q) aaG)]at hR;have NQ:=tH A.in1 {(hp),g,d,tk,os} a t c u prog w
      wp_walk using NQ
      exact{_,rfl,by simpa using hR}
  case fin =>
   rintro⟨b1,b2⟩ s' ⟨gY,rfl,vs,ws,sU,LL,hz,RQ,PN,hlen,hR⟩;simp only at gY;subst gY;have hv:lexLt sU LL=decide (items.size<aF.size):=by
    cases RQ with
    |nil =>
     cases PN with
     |nil =>
      simp only[aaU]at hlen;rw[oZ];exact(decide_eq_false (by lia)).symm
     |cons c u hw =>
      simp only[aaU,Zb]at hlen;rw[nC];exact(decide_eq_true (by lia)).symm
    |cons a t hv =>
     cases PN with
     |nil =>
      simp only[aaU,Zb]at hlen;rw[nE];exact(decide_eq_false (by lia)).symm
     |cons c u hw =>
      rw[aaf]at hz;cases hz
   rw[hv]at hR
   wp_walk
   exact{_,rfl,by simpa[Builtin.Tuple.tupleCompareSizes] using hR}
  case h =>
   exact{rfl,rfl,items.toList,aF.toList,ns,ms,rfl,hi,hj,by lia,h}
end
section
variable {prog:Y7}{w:Zj}{A:Z0}{E:Y1->Y4->Prop}{s:Y4}
def wg {l b:Addr}{items aF:Array Y1}{ns ms:List Int}{Q:Y1->Y4->Prop}(hl:IsTup s.heap l items)(hb:IsTup s.heap b aF)(hi:aaI items.toList ns)(hj:aaI aF.toList ms)
  (hu:A.units<abd) (h:Q (.bool (lexLt ns ms)) s):Zy (model prog w) A (aaA .Lt (.ref l) (.ref b)) Q E s:=by
 obtain⟨⟨cls,dd,data,sl⟩,ho,hc,n,hd⟩:=id hl;obtain⟨⟨Li,wW,data2,vN⟩,zQ,j7,n2,hd2⟩:=id hb;simp only at hc hd j7 hd2;subst hc hd j7 hd2;exact richCompare_meets_room (op:=.Lt) {_,ho,rfl} {_,zQ,rfl} PySem.F.slot_tuple_lt PySem.F.entry_tuple_lt (PySem.F.args_tuple_lt_2 _ _) (oN l b items aF n n2 dd wW sl vN ns ms hi hj)
  {ho,zQ,show Value.bool (lexLt ns ms)≠Value.notImplemented/\Q (.bool (lexLt ns ms)) s from {(λx=>nomatch x),h}} hu
def m5 (n d:Nat):Option Int->Nat
 |none=>d
 |some v=>if v<0 then (v+(n:Int)).toNat else min v.toNat n
def mZ (n d:Nat):m5 n d none=d:=rfl
def rf (n d k:Nat):m5 n d (some (k:Int))=min k n:=by
 show (if (k:Int)<0 then ((k:Int)+(n:Int)).toNat else min (k:Int).toNat n)=min k n
 rw[if_neg (by lia),abi]
end
end HT
namespace L2
open PySem PySem.Spec PyProof.Rows
abbrev TO:=St->Hp->(Option Int->Hp->Prop)->Prop
def PO (X:Cx)(e:Option Expr)(t:TO):Prop :=
 ∀(pins:List (Addr×Obj)) (s:Y4) (σ:St) (H:Hp) (Q:Option Int->Hp->Prop),Inv X pins σ H s->t σ H Q ->
  Zy (model X.prog X.w) X.A (evalPart e X.env) (λu s'=>∃o H',Inv X pins σ H' s'/\IsPart u o/\Q o H') X.xe s
def Ez:TO:=λ_ H Q=>Q none H
def Mn (t:TE):TO:=λσ H Q=>t σ H λx H1=>∃i,x=.int i/\Q (some i) H1
def intsAre_of {ns:List Int}:∀{us:List Y1},Vals (ns.map V.int) us->aaI us ns:=by
 induction ns with
 |nil=>intro us r;rw[List.map_nil]at r;cases r;exact .nil
 |cons n ns ih =>
  intro us r;rw[ZE]at r;cases r with
  |cons r1 r2 =>
   obtain⟨t,e⟩:=r1;subst e;exact .cons n t (ih r2)
section
variable {X:Cx}{e:Expr}{te:TE}{lo hi:Option Expr}{tl th:TO}{pos p2:Pos}
def xG:PO X none Ez:=by
 intro pins s σ H Q I h;rw[evalPart_none];exact Zi {none,H,I,.none,h}
def xF (h:PE X e te):PO X (some e) (Mn te):=by
 intro pins s σ H Q I hw;rw[evalPart_some];refine bR (h pins s σ H _ I hw) λu s1 ⟨x,H1,I1,r1,q1⟩=>?_;obtain⟨i,rfl,q⟩:=q1;obtain⟨t,rfl⟩:=r1;exact{some i,H1,I1,.int i t,q}
def Ug (X:Cx)(r:V->Option Int->Option Int->Hp->VK->Prop):Prop :=
 ∀(pins:List (Addr×Obj)) (s:Y4) (σ:St) (H:Hp) (x:V) (v vl vu:Y1) (lo hi:Option Int) (sl:Addr) (Q:VK),Inv X pins σ H s->RelV x v->s.heap.IsSliceOf sl vl vu .none->IsPart vl lo->IsPart vu hi->r x lo hi H Q ->
  ∃T id,typeLookup (.type T) "__getitem__" = pure (some (.builtin id))/\s.TypeIs v T/\Zy (model X.prog X.w) X.A (getItem v (.ref sl)) (EP X pins σ Q) X.xe s
def VX (r:V->Option Int->Option Int->Hp->VK->Prop)(te:TE)(tl th:TO):TE:=λσ H Q=>te σ H λx H1=>tl σ H1 λl H2=>th σ H2 λu H3=>r x l u H3 Q
def tO {r:V->Option Int->Option Int->Hp->VK->Prop}(hr:Ug X r)(he:PE X e te)(hl:PO X lo tl)(hu:PO X hi th):PE X (.Subscript e (.Slice lo hi none p2) pos) (VX r te tl th):=by
 intro pins s σ H Q I h;refine Subscript_ (bR (he pins s σ H _ I h) λv s1 ⟨x,H1,I1,r1,q1⟩=>?_);refine wpAny_Slice (bR (hl pins s1 σ H1 _ I1 q1) λvl s2 ⟨l,H2,I2,pl,q2⟩=>bR (hu pins s2 σ H2 _ I2 q2) λvu s3 ⟨u,H3,I3,pu,q3⟩=>?_);rw[evalPart_none];refine Zi ?_;have I4:Inv X pins σ H3 {s3 with heap:=s3.heap.push {cls:=.type "slice",data:=.fields #[vl,vu,.none]}}:=I3.kept (t':=s3.toks) λb ob q=>Ze _ q
 obtain⟨T,id,hT,ht,hg⟩:=hr pins {s3 with heap:=s3.heap.push {cls:=.type "slice",data:=.fields #[vl,vu,.none]}} σ H3 x v vl vu l u s3.heap.objs.size Q I4 r1 (Heap.IsSliceOf.new ..) pl pu q3
 show Zy (model X.prog X.w) X.A (subscriptTail e (.Slice lo hi none p2) v (.ref s3.heap.objs.size)) (EP X pins σ Q) X.xe {s3 with heap:=s3.heap.push {cls:=.type "slice",data:=.fields #[vl,vu,.none]}}
 exact tail_any (ops:=[.ref s3.heap.objs.size,v]) ht hT hg (by with_unfolding_all rfl)
def uX (xs:List V)(lo hi:Option Int):List V:=(xs.drop (HT.m5 xs.length 0 lo)).take (HT.m5 xs.length xs.length hi-HT.m5 xs.length 0 lo)
def uW (xs:List V)(lo hi:Option Int):(uX xs lo hi).length<=xs.length:=by
 unfold uX;rw[ZI,abZ];lia
end
def sd (n:Nat)(i:Int):Option Nat:=if 0<=i then (if i<n then some i.toNat else none) else if -(n:Int)<=i then some (i+n).toNat else none
def lB {α:Type}(xs:List α)(i:Int):Option α:=(sd xs.length i).bind λj=>xs[j]?
def x_ {n:Nat}{i:Int}{j:Nat}(h:sd n i=some j):seqIndex? i n=some j/\j<n/\-(n:Int)<=i/\i<n:=by
 unfold sd at h
 by_cases h0:0<=i
 ·rw[if_pos h0]at h
  by_cases h1:i<n
  ·rw[if_pos h1]at h;have e:i.toNat=j:=ZZ h;exact{by rw[seqIndex_of h0 h1,e],by lia,by lia,h1}
  ·rw[if_neg h1]at h;cases h
 ·rw[if_neg h0]at h
  by_cases h1:-(n:Int)<=i
  ·rw[if_pos h1]at h;have e:(i+n).toNat=j:=ZZ h;exact{by rw[seqIndex_neg (by lia) h1,e],by lia,h1,by lia}
  ·rw[if_neg h1]at h;cases h
def yz {α:Type}{xs:List α}{i:Int}{v:α}(h:lB xs i=some v):∃j,seqIndex? i xs.length=some j/\xs[j]?=some v/\j<xs.length/\-(xs.length:Int)<=i/\i<xs.length:=by
 unfold lB at h;cases e:sd xs.length i with
 |none=>rw[e]at h;cases h
 |some j =>
  rw[e]at h;obtain⟨h1,h2,h3,h4⟩:=x_ e;exact{(j),h1,h,h2,h3,h4}
def gM (b:Expr):Prop:=∀o i,subscripted b false o i=operate [o,i] (getItem o i)
def Il (X:Cx)(r:R2):Prop :=
 ∀(value slice:Expr) (pins:List (Addr×Obj)) (s:Y4) (σ:St) (H:Hp) (x y:V) (v u:Y1) (Q:VK),Inv X pins σ H s->RelV x v->RelV y u->r x y H Q ->
  subscripted slice false v u=operate [v,u] (getItem v u)->Zy (model X.prog X.w) X.A (subscriptTail value slice v u) (EP X pins σ Q) X.xe s
def Uk (X:Cx)(id:String)(r:V->List V->Hp->VK->Prop):Prop :=
 ∀(pins:List (Addr×Obj)) (s:Y4) (σ:St) (H:Hp) (x:V) (xs:List V) (v:Y1) (us:List Y1) (Q:VK),Inv X pins σ H s->RelV x v->Vals xs us->r x xs H Q ->
  Zy (model X.prog X.w) X.A (call (.builtin id) (v::us)) (EP X pins σ Q) X.xe s
section
variable {X:Cx}{a b:Expr}{ta tb:TE}{pos:Pos}
def fC {r:R2}(hr:Il X r)(ha:PE X a ta)(hb:PE X b tb)(hs:gM b):PE X (.Subscript a b pos) (Mo r ta tb):=by
 intro pins s σ H Q I h;exact Subscript_ (Ls ha hb I h λv u s2 x y H2 I2 rx ry q=>hr a b pins s2 σ H2 x y v u Q I2 rx ry q (hs _ _))
def MF (K:PySem.W.Frag):R2:=λx y H Q=>∃p xs i v,x=.ref p/\y=.int i/\dj K H p xs/\lB xs i=some v/\Q v H
def ME (K:PySem.W.Frag):R2:=λx y H Q=>∃p xs i v,x=.ref p/\y=.int i/\u_ K H p xs/\lB xs i=some v/\Q v H
def b_:Il X (MF X.K):=by
 intro value slice pins s σ H x y v u Q I rx ry h hs;obtain⟨p,xs,i,z,rfl,rfl,hq,he,q⟩:=h;cases rx;obtain⟨t,rfl⟩:=ry;obtain⟨its,r,pl,hz⟩:=I.list hq;obtain⟨j,h1,h2,h3,h4,h5⟩:=yz he;obtain⟨w,ew,xx⟩:=r.get h2;have hl:=r.length;have hn:=nz;have fin:EP X pins σ Q w s:={(z),H,I,xx,q}
 by_cases h0:0<=i
 ·have hj:i.toNat=j:=by
   rw[seqIndex_of h0 h5]at h1;exact ZZ h1
  exact item_listR pl.isList h0 (by lia) (by rw[hj];simpa using ew) fin hs
 ·have hj:(i+(its.toArray.size:Int)).toNat=j:=by
   rw[seqIndex_neg (by lia) h4]at h1
   rw[Zw,<- hl];exact ZZ h1
  exact subscriptTail_builtinR (x:=w) pl.isList.typeIs slot_list_getitem.lookup
   (wpAny_getItem_list_neg (Q:=λr s'=>r=w/\EP X pins σ Q r s') pl.isList (by lia) (by rw[Zw] <;> lia) (by lia) (by rw[hj];simpa using ew) {(rfl),fin}) hs
def CD:Il X (ME X.K):=by
 intro value slice pins s σ H x y v u Q I rx ry h hs;obtain⟨p,xs,i,z,rfl,rfl,hq,he,q⟩:=h;cases rx;obtain⟨t,rfl⟩:=ry;obtain⟨its,r,pl,hz⟩:=I.tuple hq;obtain⟨j,h1,h2,h3,h4,h5⟩:=yz he;obtain⟨w,ew,xx⟩:=r.get h2;have hl:=r.length;have hn:=nz;have fin:EP X pins σ Q w s:={(z),H,I,xx,q};exact subscriptTail_builtinR (x:=w) pl.typeIs slot_tuple_getitem.lookup
  (getItem_tuple (j:=j) (Q:=λr s'=>r=w/\EP X pins σ Q r s') pl (by lia) (by lia) (by rw[Zw,<- hl];exact h1) (by simpa using ew) {(rfl),fin}) hs
def we (its:List Y1)(n j:Nat)(u:Y1):aaZ (·.setIfInBounds j u) {cls:=.type "list",data:=.seq its.toArray n}={cls:=.type "list",data:=.seq (its.set j u).toArray n}:=by
 simp[aaZ]
def Inv.lst {pins:List (Addr×Obj)}{σ:St}{H:Hp}{s:Y4}{p:Addr}{xs:List V}(I:Inv X pins σ H s)(h:H p=some (.lst xs)):
  ∃(its:List Y1) (n:Nat),Vals xs its/\s.heap.get? p=some {cls:=.type "list",data:=.seq its.toArray n}/\xs.length<=Zd:=by
 obtain⟨z,its,n,r,e⟩:=I.bB p _ h;exact{(its),n,r,e,z}
def Inv.J3 {pins:List (Addr×Obj)}{σ:St}{H:Hp}{s:Y4}{p:Addr}{xs ys:List V}{its its':List Y1}{n n':Nat}{f:Obj->Obj}(I:Inv X pins σ H s)(h:H p=some (.lst xs))
  (ho:s.heap.get? p=some {cls:=.type "list",data:=.seq its.toArray n}) (hf:f {cls:=.type "list",data:=.seq its.toArray n}={cls:=.type "list",data:=.seq its'.toArray n'}) (r:Vals ys its') (hz:ys.length<=Zd) (t:Nat) :
  Inv X pins σ (upd H p (.lst ys)) {s with heap:=s.heap.update p f,toks:=t}:=by
 have e:(s.heap.update p f).get? p=some {cls:=.type "list",data:=.seq its'.toArray n'}:=by
  rw[abX f ho (by rw[hf] <;> rfl),hf]
 refine I.write (x:=p) (e:=p) (by rw[h];trivial) (.inl rfl) (λb u hb q=>(abR _ _ (Z_ hb)).trans q) {_,e} ?_
 exact{(hz),its',n',r,e}
def MD:V->V->V->Hp->(Hp->Prop)->Prop:=λo i v H Q=>∃p xs k j,o=.ref p/\i=.int k/\H p=some (.lst xs)/\sd xs.length k=some j/\Q (upd H p (.lst (xs.set j v)))
def set_list:Pd X MD:=by
 intro pins s σ H o i v ov iv u Q I ro ri rv h;obtain⟨p,xs,k,j,rfl,rfl,hp,hj,q⟩:=h;cases ro;obtain⟨t,rfl⟩:=ri;obtain⟨its,n,r,ho,hz⟩:=I.lst hp;obtain⟨h1,h2,h3,h4⟩:=x_ hj;have hl:=r.length;have hn:=nz;have I':Inv X pins σ (upd H p (.lst (xs.set j v))) {s with heap:=s.heap.update p (aaZ (·.setIfInBounds j u))} :=
  I.J3 hp ho (we its n j u) (r.set rv j) (by rw[ab8];exact hz) s.toks
 by_cases h0:0<=k
 ·have hk:k.toNat=j:=by
   rw[seqIndex_of h0 h4]at h1;exact ZZ h1
  exact PySem.W.ki_setAt ho h0 (by lia) (by rw[Zw,<- hl];exact h4) (by rw[hk];exact{_,I',q})
 ·have hk:(k+(its.toArray.size:Int)).toNat=j:=by
   rw[seqIndex_neg (by lia) h3]at h1
   rw[Zw,<- hl];exact ZZ h1
  exact PySem.W.ki_setBack ho (by lia) (by rw[Zw,<- hl];exact h3) (by lia) (by rw[hk];exact{_,I',q})
def qY (lo hi:Option Int)(n:Nat):(aa7 lo hi none n).1=((HT.m5 n 0 lo:Nat):Int)/\(aa7 lo hi none n).2.1=((HT.m5 n n hi:Nat):Int)/\(aa7 lo hi none n).2.2=1:=by
 refine{?_,?_,rfl}
 ·cases lo with
  |none=>simp[aa7,HT.m5]
  |some i =>
   simp only[aa7,HT.m5,Option.getD_none,show (1:Int)>0 by decide,if_true]
   by_cases h:i<0
   ·simp only[h,if_true] <;> lia
   ·simp only[h,if_false] <;> lia
 ·cases hi with
  |none=>simp[aa7,HT.m5]
  |some i =>
   simp only[aa7,HT.m5,Option.getD_none,show (1:Int)>0 by decide,if_true]
   by_cases h:i<0
   ·simp only[h,if_true] <;> lia
   ·simp only[h,if_false] <;> lia
def oS (its:List Y1)(lo hi:Option Int):slicePick its.toArray lo hi none=((its.drop (HT.m5 its.length 0 lo)).take (HT.m5 its.length its.length hi-HT.m5 its.length 0 lo)).toArray:=by
 obtain⟨h1,h2,h3⟩:=qY lo hi its.toArray.size;unfold slicePick;rw[h1,h2,h3];simp only[sliceRange_one,pick_run,Zw] <;> rfl
def QO (K:PySem.W.Frag):V->Option Int->Option Int->Hp->VK->Prop:=λx lo hi H Q=>∃a xs,x=.ref a/\dj K H a xs/\∀p,H p=none->Q (.ref p) (upd H p (.lst (uX xs lo hi)))
def xp:Ug X (QO X.K):=by
 intro pins s σ H x v vl vu lo hi sl Q I rx hs pl pu h;obtain⟨a,xs,rfl,hx,q⟩:=h;cases rx;obtain⟨its,r,ht,hz⟩:=I.list hx;have hlen:=r.length;refine{"list",_,slot_list_getitem.lookup,ht.isList.typeIs,?_};refine wpAny_getItem_list_slice ht.isList hs pl pu .none (by simp) ?_ (by rw[Zw] <;> lia)
 rw[oS,<- hlen];refine{.ref s.heap.objs.size,_,I.laid (t':=s.toks) (o:=.lst (uX xs lo hi)) (λb ob q=>Ze _ q) (Y8 _) ?_,rfl,q _ (I.bB.fresh (Y8 _))};exact{ZX (uW xs lo hi) hz,_,0,(r.drop (HT.m5 xs.length 0 lo)).take (HT.m5 xs.length xs.length hi-HT.m5 xs.length 0 lo),ZR _ rfl}
def gJ:gW X (.builtin "len") (λxs H Q=>∃p ys,xs=[.ref p]/\(dj X.K H p ys\/u_ X.K H p ys)/\Q (.int ys.length) H):=by
 intro pins s σ H xs us Q I r h;obtain⟨p,ys,rfl,hq,q⟩:=h;obtain⟨u,rfl,rx⟩:=vals1 r;cases rx;have hn:=nz;rcases hq with hq|hq
 ·obtain⟨its,r',pl,hz⟩:=I.list hq;have hlen:=r'.length;exact Calls.call_len_list pl.isList (by simp only[Zw] <;> lia) {.int ys.length,H,I.tok _,{s.toks+1,by rw[Zw,hlen]},q}
 ·obtain⟨its,r',pl,hz⟩:=I.tuple hq;have hlen:=r'.length;exact len_tuple pl (by simp only[Zw] <;> lia) {.int ys.length,H,I.tok _,{s.toks+1,by rw[Zw,hlen]},q}
def gI:gW X (.type "list") (λxs H Q=>∃p ys,xs=[.ref p]/\(dj X.K H p ys\/u_ X.K H p ys)/\∀l,H l=none->Q (.ref l) (upd H l (.lst ys))):=by
 intro pins s σ H xs us Q I r h;obtain⟨p,ys,rfl,hq,q⟩:=h;obtain⟨u,rfl,rx⟩:=vals1 r;cases rx;have fin:∀(its:List Y1),Vals ys its->ys.length<=Zd->∀(h':Heap) (c':Nat),(∀b o',s.heap.get? b=some o'->h'.get? b=some o') ->
   h'.get? s.heap.objs.size=some {cls:=.type "list",dict:=none,data:=.seq its.toArray c',slots:=#[]}->EP X pins σ Q (.ref s.heap.objs.size) {s with heap:=h'}:=λits r' hz h' c' kp e =>
  {.ref s.heap.objs.size,_,I.laid (t':=s.toks) kp (Y8 _) (show cL X.prog X.w _ h' _ (.lst ys) from {(hz),its,c',r',e}),rfl,q _ (I.bB.fresh (Y8 _))}
 rcases hq with hq|hq
 ·obtain⟨its,r',pl,hz⟩:=I.list hq;have hlen:=r'.length;obtain⟨o,ho,hc,n,hd⟩:=pl.isList;exact call_list_seq p (.inl rfl) ho hc hd (λh' c' kp e=>fin its r' hz h' c' kp e) (by simp only[Zw] <;> lia)
 ·obtain⟨its,r',pl,hz⟩:=I.tuple hq;have hlen:=r'.length;obtain⟨o,ho,hc,n,hd⟩:=pl;exact call_list_seq p (.inr rfl) ho hc hd (λh' c' kp e=>fin its r' hz h' c' kp e) (by simp only[Zw] <;> lia)
def Pq (K:PySem.W.Frag)(T:String)(x:V)(H:Hp):Prop:=match x with
 |.str _=>T="str"
 |.int _=>T="int"
 |.ref p=>(T="list" /\ ∃xs,dj K H p xs)\/(T="tuple" /\ ∃o,K.lookup p=some o/\o.cls=.type "tuple" /\ o.dict=none) \/
   (T="dict" /\ ((∃kvs,H p=some (.dK kvs))\/∃kvs,H p=some (.dT kvs)))\/(T="set" /\ ∃S n,H p=some (.set S n))
 |_=>False
def A_ {pins:List (Addr×Obj)}{σ:St}{H:Hp}{s:Y4}{T:String}{x:V}{v:Y1}(I:Inv X pins σ H s)(r:RelV x v)(ty:Pq X.K T x H):
  s.TypeIs v T/\∀a,v=.ref a->∃ob,s.heap.get? a=some ob/\ob.dict=none:=by
 cases x with
 |str z =>
  obtain⟨t,rfl⟩:=r;cases (show T="str" from ty)
  exact{typeIs_str s z t,λ_ e=>nomatch e}
 |int i =>
  obtain⟨t,rfl⟩:=r;cases (show T="int" from ty)
  exact{typeIs_int s i t,λ_ e=>nomatch e}
 |ref p =>
  cases r;rcases ty with⟨rfl,xs,hq⟩|⟨rfl,o,hk,hc,hd⟩|⟨rfl,hk⟩|⟨rfl,S,n,hk⟩
  ·obtain⟨its,_,pl,_⟩:=I.list hq;refine{pl.isList.typeIs,λa e=>?_};cases e;obtain⟨o,n,e,c,hd,_⟩:=pl;exact{(o),e,hd}
  ·refine{{o,I.AH p o hk,hc},λa e=>?_};cases e;exact{o,I.AH _ o hk,hd}
  ·have z:∃o,s.heap.get? p=some o/\o.ExactDict:=by
    rcases hk with⟨kvs,hk⟩|⟨kvs,hk⟩
    ·obtain⟨_,_,_,_,o,_,_,e,ex,_⟩:=I.bB p _ hk;exact{(o),e,ex}
    ·obtain⟨_,_,_,_,o,_,_,e,ex,_⟩:=I.bB p _ hk;exact{(o),e,ex}
   obtain⟨o,e,ex⟩:=z;refine{{(o),e,ex.1},λa e2=>?_};cases e2;exact{(o),e,ex.2.1}
  ·obtain⟨o,_,_,_,e,ex,_⟩:=I.bB p _ hk;refine{{(o),e,ex.1},λa e2=>?_};cases e2;exact{(o),e,ex.2.1}
 |_=>exact aaN ty
def QG (K:PySem.W.Frag)(T:String)(r:V->List V->Hp->VK->Prop)(to:TE):TE:=λσ H Q=>to σ H λx H1=>Pq K T x H1/\r x [] H1 Q
def VZ (K:PySem.W.Frag)(T:String)(r:V->List V->Hp->VK->Prop)(to:TE)(t:TA):TE:=λσ H Q=>to σ H λx H1=>Pq K T x H1/\t σ H1 λxs H2=>r x xs H2 Q
variable {o e:Expr}{es:List Expr}{to:TE}{t:TA}{name:Str}{apos cpos:Pos}{T id:String}{r:V->List V->Hp->VK->Prop}
def Jr (pa:PlainAttrs T) (slot:Slot T name id) (NJ:typeOf (.builtin id)=pure (.type "method_descriptor")) (hm:Uk X id r) (ho:PE X o to)
  (cS:aaH o name X.env (eval o X.env)=eval o X.env:=by rfl) (cR:(apos.endLine==cpos.line)=true:=by rfl):PE X (.Call (.Attribute o name apos) [] [] cpos) (QG X.K T r to):=by
 intro pins s σ H Q I h;refine wpAny_Call_method0_late cS cR (bR (ho pins s σ H _ I h) λv s1 ⟨x,H1,I1,r1,ty,q1⟩=>?_);obtain⟨h1,h2⟩:=A_ I1 r1 ty;exact{T,id,pa,slot,NJ,h1,h2,Calls.callWith_builtin rfl (PySem.evalArgs_none (hm pins s1 σ H1 x [] v [] Q I1 r1 .nil q1))}
def pV (pa:PlainAttrs T) (slot:Slot T name id) (NJ:typeOf (.builtin id)=pure (.type "method_descriptor")) (hm:Uk X id r) (ho:PE X o to) (ha:PA X (e::es) t)
  (cS:aaH o name X.env (eval o X.env)=eval o X.env:=by rfl)
  (iy:((aag cpos (Y9 (e::es) X.env)).all (λx=>!x.1)&&(acg cpos (abo [] X.env)).all (λx=>x.1.isSome)
   && decide ((e::es).length+([]:List aa2).length+(if ([]:List aa2).isEmpty then 0 else 1)<30))=true:=by rfl)
  (cR:(apos.endLine==cpos.line)=true:=by rfl) (hs:Y9 (e::es) X.env=(false,eval e X.env)::Y9 es X.env:=by rfl) (cw:(aag cpos (Y9 es X.env)).any (·.1)=false:=by rfl) :
  PE X (.Call (.Attribute o name apos) (e::es) [] cpos) (VZ X.K T r to t):=by
 intro pins s σ H Q I h;refine wpAny_Call_method_late cS iy cR rfl (bR (ho pins s σ H _ I h) λv s1 ⟨x,H1,I1,r1,ty,q1⟩=>?_);obtain⟨h1,h2⟩:=A_ I1 r1 ty;refine{T,id,pa,slot,NJ,h1,h2,?_};have hA:=ha cpos pins s1 σ H1 _ I1 q1;rw[hs]at hA ⊢
 refine Calls.callWith_builtin (by show (false || (aag cpos (Y9 es X.env)).any (·.1))=false;rw[cw] <;> rfl) (Calls.evalArgs_plain ?_)
 exact bR hA λus s2 ⟨vs,H2,I2,r2,q2⟩=>hm pins s2 σ H2 x vs v us Q I2 r1 r2 q2
end
def Ul (X:Cx)(id:String)(r:V->List V->Hp->VK->Prop):Prop :=
 ∀(pins:List (Addr×Obj)) (s:Y4) (σ:St) (H:Hp) (x:V) (xs:List V) (v:Y1) (us:List Y1) (Q:VK),Inv X pins σ H s->RelV x v->Vals xs us->r x xs H Q ->
  Zy (model X.prog X.w) X.A (call (.builtin id) (v::us)) (EP X pins σ Q) X.xe s
theorem Vals.one:∀{x:V} {us:List Y1},Vals [x] us->∃u,us=[u]/\RelV x u
 |_,_,.cons r .nil=>{_,rfl,r}
theorem Vals.zero:∀{us:List Y1},Vals [] us->us=[]
 |_,.nil=>rfl
def Vals.dropLast {xs:List V}{us:List Y1}(h:Vals xs us):Vals xs.dropLast us.dropLast:=by
 induction h with
 |nil=>exact .nil
 |cons r t ih =>
  cases t with
  |nil=>exact .nil
  |cons q t'=>exact .cons r ih
theorem Vals.rep {xs:List V}{us:List Y1}(h:Vals xs us):∀k:Nat,Vals (Zr k xs).flatten (Zr k us).flatten
 |0=>.nil
 |k+1=>by
  rw[aaj,aaj,aaY,aaY];exact Vals.append h (Vals.rep h k)
def wU {α:Type}(l:List α):l.eraseIdx (l.length-1)=l.dropLast:=by
 induction l with
 |nil=>rfl
 |cons a r ih =>
  cases r with
  |nil=>rfl
  |cons b r =>
   have e:(a::b::r).length-1=((b::r).length-1)+1:=by
    have h1:(a::b::r).length=r.length+2:=rfl;have h2:(b::r).length=r.length+1:=rfl;lia
   rw[e,List.eraseIdx_cons_succ,ih]
   all_goals rfl
theorem foldl_rep (its:List Y1):∀(k:Nat) (acc:List Y1),
  List.foldl (λx1 x2=>x1++x2) acc.toArray (Zr k its.toArray)=(acc++(Zr k its).flatten).toArray
 |0,acc=>by simp
 |k+1,acc=>by
  have e:acc.toArray++its.toArray=(acc++its).toArray:=by simp
  have e2:(acc++its)++(Zr k its).flatten=acc++(Zr (k+1) its).flatten:=by
   rw[aaj,aaY,Z8]
  rw[<- e2,<- foldl_rep its k (acc++its),<- e,aaj,ab9]
section
variable {X:Cx}{pins:List (Addr×Obj)}{σ:St}{H:Hp}{s:Y4}{l:Addr}{xs ys:List V}
def Inv.J5 {its its':List Y1}{n:Nat}{f:Array Y1->Array Y1}{t':Nat}(I:Inv X pins σ H s)(hH:H l=some (.lst xs))
  (e:s.heap.get? l=some {cls:=.type "list",data:=.seq its.toArray n}) (hf:f its.toArray=its'.toArray) (hv:Vals ys its') (hz:ys.length<=Zd) :
  Inv X pins σ (upd H l (.lst ys)) {s with heap:=s.heap.update l (aaZ f),toks:=t'}:=by
 have q:=PySem.IsL.update e f;rw[hf]at q;refine I.write (x:=l) (e:=l) (by rw[hH];exact tv) (.inl rfl) (λb' u hb hu=>(abR s.heap (aaZ f) (Z_ hb)).trans hu) {_,q} ?_
 exact{hz,its',_,hv,q}
def Inv.J8 {its:List Y1}{t':Nat}(I:Inv X pins σ H s)(hv:Vals ys its)(hz:ys.length<=Zd):
  Inv X pins σ (upd H s.heap.objs.size (.lst ys)) {s with heap:=s.heap.push {cls:=.type "list",data:=.seq its.toArray},toks:=t'} :=
 I.laid (λ_ _ q=>Ze _ q) (Y8 _) {hz,its,0,hv,ZR _ rfl}
def Inv.fresh (I:Inv X pins σ H s):H s.heap.objs.size=none:=I.bB.fresh (Y8 _)
def Inv.wj (I:Inv X pins σ H s)(hH:H l=some (.lst xs)):xs.length<=Zd/\∃(its:List Y1) (n:Nat),Vals xs its/\xs.length=its.length/\s.heap.get? l=some {cls:=.type "list",data:=.seq its.toArray n}:=by
 obtain⟨z,its,n,r,e⟩:=I.bB l _ hH;exact{(z),its,n,r,r.length,e}
def tX {n:Nat}(h:n<=Zd):abE n=false:=by
 unfold abE;exact decide_eq_false (by lia)
end
section
variable {X:Cx}
def xC:V->List V->Hp->VK->Prop:=λx vs H Q=>∃l xs y,x=.ref l/\vs=[y]/\H l=some (.lst xs)/\xs.length<Zd/\Q .cN (upd H l (.lst (xs++[y])))
def gb:Ul X "list.append" xC:=by
 intro pins s σ H x vs v us Q I rx rv h;obtain⟨l,xs,y,rfl,rfl,hH,hz,q⟩:=h;cases rx;obtain⟨u,rfl,ru⟩:=rv.one;obtain⟨z,its,n,r,hl,e⟩:=I.wj hH;refine acf F.slot_list_append {_,e,rfl} F.entry_list_append (F.args_list_append_2 _ _) (PySem.list_append l its.toArray n u (by rw[Zw];lia)) {e,?_}
 refine{.cN,_,I.J5 (its':=its++[u]) hH e (by simp) (r.append (.cons ru .nil)) ?_,rfl,q}
 rw[Zk,abW];lia
def EL:V->List V->Hp->VK->Prop:=λx vs H Q=>∃l b xs zs,x=.ref l/\vs=[.ref b]/\H l=some (.lst xs)/\H b=some (.lst zs)/\xs.length+zs.length<=Zd/\Q .cN (upd H l (.lst (xs++zs)))
def zt:Ul X "list.extend" EL:=by
 intro pins s σ H x vs v us Q I rx rv h;obtain⟨l,b,xs,zs,rfl,rfl,hH,hB,hz,q⟩:=h;cases rx;obtain⟨u,rfl,ru⟩:=rv.one;cases ru;obtain⟨z,its,n,r,hl,e⟩:=I.wj hH;obtain⟨z2,um,n2,r2,Ot,e2⟩:=I.wj hB;have hsz:its.toArray.size+um.toArray.size<=Zd:=by rw[Zw,Zw];lia
 have CT:¬ (!its.toArray.isEmpty&&abE (its.toArray.size+um.toArray.size))=true:=by
  rw[tX hsz,Bool.and_false];exact aaG
 refine acf F.slot_list_extend {_,e,rfl} F.entry_list_extend (F.args_list_extend_2 _ _)
  (AutoSeq1.list_extend_list_list_0 l its.toArray n b um.toArray n2 CT (by rw[Zw];lia) (by lia)) {e,e2,?_}
 refine{.cN,_,I.J5 (its':=its++um) hH e (by simp) (r.append r2) ?_,rfl,q}
 rw[Zk];lia
def QQ:V->List V->Hp->VK->Prop:=λx vs H Q=>∃l xs y,x=.ref l/\vs=[]/\H l=some (.lst xs)/\xs[xs.length-1]?=some y/\Q y (upd H l (.lst xs.dropLast))
def JX:Ul X "list.pop" QQ:=by
 intro pins s σ H x vs v us Q I rx rv h;obtain⟨l,xs,y,rfl,rfl,hH,hy,q⟩:=h;cases rx;have WT:=rv.zero;subst WT;obtain⟨z,its,n,r,hl,e⟩:=I.wj hH;obtain⟨u,hu,ru⟩:=r.get hy;have RC:its.toArray[its.toArray.size-1]?=some u:=by
  show its.toArray[its.length-1]?=some u;rw[<- ZG,<- hl];exact hu
 refine acf F.slot_list_pop {_,e,rfl} F.entry_list_pop (F.args_list_pop_1 _) (MeetsSeq.list_pop_last l its.toArray n u RC (by rw[Zw];lia)) {e,?_}
 refine{y,_,I.J5 (its':=its.dropLast) hH e ?_ r.dropLast ?_,ru,q}
 ·show its.toArray.eraseIdxIfInBounds (its.toArray.size-1)=its.dropLast.toArray;rw[Zw,List.eraseIdxIfInBounds_toArray,wU]
 ·rw[List.length_dropLast];lia
def QT:R2:=λx y H Q=>∃l b xs zs,x=.ref l/\y=.ref b/\H l=some (.lst xs)/\H b=some (.lst zs)/\xs.length+zs.length<=Zd/\∀p,H p=none->Q (.ref p) (upd H p (.lst (xs++zs)))
def B6:lF X (aax .Add) QT:=by
 intro pins s σ H x y v u Q I rx ry h;obtain⟨l,b,xs,zs,rfl,rfl,hH,hB,hz,q⟩:=h;cases rx;cases ry;obtain⟨z,its,n,r,hl,e⟩:=I.wj hH;obtain⟨z2,um,n2,r2,Ot,e2⟩:=I.wj hB;refine PySem.P.add_list e e2 ?_ (by rw[Zw,Zw];lia)
 have ea:its.toArray++um.toArray=(its++um).toArray:=by simp
 rw[ea];exact{.ref _,_,I.J8 (t':=s.toks) (r.append r2) (by rw[Zk];lia),rfl,q _ I.fresh}
def QP:R2:=λx y H Q=>∃l k xs,x=.ref l/\y=.int k/\H l=some (.lst xs)/\-(2 ^ 63)<=k/\k<2 ^ 63/\xs.length*k.toNat<=Zd /\
 ∀p,H p=none->Q (.ref p) (upd H p (.lst (Zr k.toNat xs).flatten))
def len_rep {α:Type}(xs:List α)(k:Nat):(Zr k xs).flatten.length=k*xs.length:=by
 induction k with
 |zero=>simp
 |succ k ih=>rw[aaj,aaY,Zk,ih,Nat.succ_mul,Nat.add_comm]
def Jx:lF X (aax .Mult) QP:=by
 intro pins s σ H x y v u Q I rx ry h;obtain⟨l,k,xs,rfl,rfl,hH,h1,h2,hz,q⟩:=h;cases rx;obtain⟨t,rfl⟩:=ry;obtain⟨z,its,n,r,hl,e⟩:=I.wj hH;have hlen:its.toArray.size*k.toNat<=Zd:=by rw[Zw,<- hl];exact hz
 have Tu:¬ its.toArray.size*k.toNat>(2 ^ 63-1) / 8:=by
  have:(Zd:Nat)<=(2 ^ 63-1) / 8:=by decide
  lia
 have Tn:¬ (!Builtin.List.listFitsIndex k)=true:=by
  rw[fitsIndex_both h1 h2];exact aaG
 have CT:¬ abE (its.toArray.size*k.toNat)=true:=by
  rw[tX hlen];exact aaG
 have KN:List.foldl (λx1 x2=>x1++x2) #[] (Zr (if its.toArray.isEmpty=true then 0 else k.toNat) its.toArray)=(Zr k.toNat its).flatten.toArray:=by
  have f0:∀m:Nat,List.foldl (λx1 x2=>x1++x2) #[] (Zr m its.toArray)=(Zr m its).flatten.toArray:=λm=>by
   have:=foldl_rep its m [];rw[List.nil_append]at this;exact this
  rw[f0];cases its with
  |nil=>simp
  |cons a r'=>rw[if_neg (by simp)]
 refine wpAny_binaryOp_repeat_ref (T:="list") (U:="int") (by decide) {_,e,rfl} (λs'=>typeIs_int s' k t) noFill_list_mul F.fills_int_mul F.slot_int_rmul repeat_list F.slot_int_index.lookup
  (acf F.slot_int_rmul (typeIs_int s k t) F.entry_int_rmul (F.args_int_rmul_2 _ _) (int___rmul___int_list k t l its.toArray n)
   {e,rfl,{_,e,rfl},acf F.slot_list_mul {_,e,rfl} F.entry_list_mul (F.args_list_mul_2 _ _) (AutoListH.list___mul___list_int_3 l its.toArray n k t Tn Tu CT) {e,?_}})
 rw[KN];exact{.ref _,_,I.J8 (t':=s.toks) (r.rep k.toNat) (by rw[len_rep,Nat.mul_comm];exact hz),rfl,q _ I.fresh}
end
end L2
namespace VO
open PySem PySem.W PySem.Calls PyProof.Rows
def l4 {P:Params}{h:Heap}:∀(ns:List Int) (vs:List Y1),WellAll P h vs (ns.map WData.int)->aaI vs ns:=by
 intro ns
 induction ns with
 |nil =>
  intro vs w;rw[List.map_nil]at w;cases w;exact .nil
 |cons n ns ih =>
  intro vs w;rw[ZE]at w;cases w with
  |cons a b =>
   cases a;exact .cons _ _ (ih _ b)
def yT {l:OpenLaw}{n:Nat}(hn:l.most=some n){P:Params}{h:Heap}{args:List WData}{vals:List Y1}
  (Gf:l.row.toRowW.claim.pre args=true) (ND:WellAll P h vals args) :
  ∃a vs ns,vals=[Value.ref a]/\args=[WData.list (ns.map WData.int)]/\h.get? a=some {cls:=.type "list",data:=.seq vs.toArray}/\aaI vs ns/\ns.length<=n:=by
 have Ks:WShape.hasAll [] args [.list .int]=true:=(pre_splitW Gf).1;have hc:l.pre.holds [] {args:=args}=true:=(pre_splitW Gf).2;obtain⟨d,r,rfl,h1,h2⟩:=hasAllW_cons Ks;obtain rfl:=hasAllW_nil h2;obtain⟨xs,rfl,h3⟩:=hasW_list h1;obtain⟨ns,rfl⟩:=items_int h3;have hlen:ns.length<=n:=by
  unfold OpenLaw.pre at hc;have h4:(WTm.not (.lt (.lit (.int (n:Int))) (.len (.arg 0)))).holds [] {args:=[.list (ns.map .int)]}=true:=by
   have h4:=(holds_andW hc).1;rw[hn]at h4;exact h4
  have h5:=condW_of h4 (w_not (w_lt w_lit (w_len_list (w_arg rfl))));rw[Y3]at h5;refine acC λq=>?_;have q':(n:Int)<((ns.length:Nat):Int):=by lia
  first
   | (rw[decide_eq_true q']at h5;exact absurd h5 (by decide))
   | (simp at h5;lia)
 cases ND with
 |cons w1 w2 =>
  cases w2;cases w1 with
  |list ho uC=>exact{_,_,ns,rfl,rfl,ho,l4 ns _ uC,hlen}
def ze (l:OpenLaw)(args:List WData):l.row.toRowW.claim.post args (.bool true) args=true :=
 postW_of (r:=l.row.toRowW) (X:=(true==true))
  (show WShape.has [] (.bool true) .bool=true by first|rfl|decide|simp[WShape.has,WShape.arms,WShape.armsAll])
  (show (WTm.eq .res (.lit (.bool true))).value [] {args:=args,res:=some (.bool true),after:=args}=some (.bool (true==true)) from w_eq_bool (w_res rfl) w_lit) rfl
def u5 {l:OpenLaw}{n:Nat}{q:Y7}{loose:List Str}{XP:(Str->Option Y1)->Heap->Prop}{YP:Zj->Heap->Prop}{d:DefRec}
  (hn:l.most=some n) (To:d.params.defaults=[])
  (call:∀(w:Zj) (s₀ s₁:Y4) (mg mb:Str->Option Y1) (fa:Addr) (o:Obj) (pm cd doc:Y1) (a:Addr) (vs:List Y1) (ns:List Int),
   Ground q loose [] XP w s₀ mg mb s₁.heap->YP w s₁.heap ->
   s₁.heap.get? fa=some o->o.data=.func (docDef d.name d.params d.body d.scope pm cd doc)->s₁.heap.CodeRec cd d.name->mg d.name=some (.ref fa) ->
   s₁.heap.get? a=some {cls:=.type "list",data:=.seq vs.toArray}->aaI vs ns->ns.length<=n->s₁.gens=#[] ->
   aco (model l.prog w) callerA (.call (.ref fa) {[.ref a],[]}) (λr s'=>r=.ok (.ret (.bool true))/\OldK s₁.heap s'.heap/\s'.os=s₁.os/\acv s'.gens) s₁) :
  WalkO q loose XP YP l.row.toRowW d [] (λf vs=>PySem.call f vs):=by
 intro w s₀ s₁ mg mb G Y fa o pm cd doc dV kV ho hd eU hD SW hg args vals as Gf Xd YH ND S5;obtain rfl:dV=.none:=Dflts.none hD To;obtain rfl:kV=.none:=Dflts.noKw hD;obtain⟨a,vs,ns,rfl,rfl,KJ,hints,hlen⟩:=yT hn Gf ND;refine enter_call (abN (call w s₀ s₁ mg mb fa o pm cd doc a vs ns G Y ho (fd_plain hd) eU SW KJ hints hlen hg) λr s' hq=>?_);obtain⟨rfl,h2,h3,h4⟩:=hq;exact{.inl {.bool true,.bool true,[],rfl,λ_=>rfl,.bool true,ze l _,λ_=>{List.Pairwise.nil,λ_ hm=>(nomatch hm)}},h2,h3,h4}
end VO
namespace L2
open PySem PySem.Spec PyProof.Rows
theorem pE:∀{vs:List Y1} {ns:List Int},aaI vs ns->Vals (ns.map V.int) vs
 |_,_,.nil=>.nil
 |_,_,.cons n t h=>.cons {(t),rfl} (pE h)
def Lw (H:Hp):Prop:=∀b,H b=none\/∃o xs,H b=some (.C7 o (.lst xs))
def Cy {P:Y7}{w:Zj}{K:PySem.W.Frag}{mg mb:Str->Option Y1}{CX:AB}{k:Nat}{fa a:Addr}{fd:ZL}{x:Str}{sp:Sp}{s₁:Y4}{vs:List Y1}{ns:List Int}
  (KX:K.In s₁.heap) (PV:s₁.heap.Ns aaL mg) (hb:s₁.heap.Ns builtinsNs mb) (Xm:∀x:Str,x≠"__name__" -> mb x=Z9 x) (S6:s₁.heap.NoLimit) (hg:s₁.gens=#[])
  (ha:s₁.heap.get? a=some {cls:=.type "list",data:=.seq vs.toArray}) (hi:aaI vs ns) (hl:ns.length<=Zd) (hr:c_ k callerA)
  (F:∀base:Heap,K.In base->base.Ns aaL mg->aE P w K mg base CX k fa fd [x] sp) (OK:∀(s:Y4) (u:Y1),BindsTo s fd {[u],[]} [(x,u)])
  (gF:∀H:Hp,Lw H->dj K H a (ns.map V.int)->sp [.ref a] H (λv _=>v=.bl true) λ_ _ _=>False)
  (TC:∀H e s',CX [] H s₁ (λ_ _ _=>False) e s'->False) :
  aco (model P w) callerA (.call (.ref fa) {[.ref a],[]}) (λr s'=>r=.ok (.ret (.bool true))/\OldK s₁.heap s'.heap/\s'.os=s₁.os/\acv s'.gens) s₁:=by
 have rv:=pE hi;have Ro:=hi.length;have core:∀H:Hp,Lw H->dj K H a (ns.map V.int)->g9 P w H s₁.heap->(∀b,H b≠none->b=a)->(H a≠none->K.lookup a=none) ->
   aco (model P w) callerA (.call (.ref fa) {[.ref a],[]}) (λr s'=>r=.ok (.ret (.bool true))/\OldK s₁.heap s'.heap/\s'.os=s₁.os/\acv s'.gens) s₁:=by
  intro H hO hS bB hA hK;have yy:∀{b:Addr} {o:Obj},s₁.heap.get? b=some o->H b=none->(sj s₁.heap H).get? b=some o:=λe n=>CY e n;have M7:∀{b:Addr} {o:Obj} {es:Array ab0} {ep:Nat},s₁.heap.get? b=some o->o.data=.dict es ep->H b=none:=λ{b o es ep} e d=>by
   cases q:H b with
   |none=>rfl
   |some u =>
    have e':b=a:=hA b (by rw[q];simp)
    subst e';rw[ha]at e;cases e;have d':Data.seq vs.toArray _=Data.dict es ep:=d;cases d'
  have PC:∀{b:Addr} {m:Str->Option Y1},s₁.heap.Ns b m->(sj s₁.heap H).Ns b m:=λ{b m} ⟨o,es,ep,e,d,r⟩=>{o,es,ep,yy e (M7 e d),d,r};have Vw:K.In (sj s₁.heap H):=λb o e=>yy (KX b o e) (by
   cases q:H b with
   |none=>rfl
   |some u =>
    have e':b=a:=hA b (by rw[q];simp)
    subst e';rw[hK (by rw[q];simp)]at e;cases e)
  have hM:Mod K mg (sj s₁.heap H):={Vw,PC PV,{mb,PC hb,Xm},let ⟨mc,h1,h2⟩:=S6;{mc,PC h1,h2}}
  have e0:G3 P w K mg (sj s₁.heap H) callerA [] s₁ H:={rfl,hM,λb o e=>FJ e,Nat.le_of_eq (zS _ _),tv,λb hb=>absurd (show b∈([]:List Addr) from hb) (by simp),bB,.of_eq hg}
  refine abN ((F _ Vw (PC PV)).run callerA [] s₁ H {[.ref a],[]} [.ref a] [.ref a] _ _ hr e0 (OK s₁ (.ref a)) (.cons rfl .nil) (gF H hO hS)) λr s' h=>?_;cases r with
  |error e=>exact(TC H e s' h).elim
  |ok fl =>
   cases fl with
   |next=>exact aaN h
   |brk=>exact aaN h
   |cont=>exact aaN h
   |ret u =>
    obtain⟨v,H',os,bare,un,SI,r',q⟩:=h;have q':v=.bl true:=q;subst q';obtain rfl:u=Value.bool true:=r';refine{rfl,OldK.of_keep λb o e=>?_,os,bare};cases q:H b with
    |none=>exact un.keep b o e q (by intro z;exact absurd (show b∈([]:List Addr) from z) (by simp)) (by simp)
    |some u =>
     rcases hO b with z|⟨ob,xs,z⟩
     ·rw[q]at z;cases z
     ·have z2:=un.i6 b ob _ z;obtain⟨e1,_⟩:=bB b _ z;obtain⟨e2,_⟩:=SI b _ z2;rw[e]at e1;cases e1;exact e2
 cases hk:K.lookup a with
 |some o =>
  have e:=KX a o hk;rw[ha]at e;cases e;refine core (λ_=>none) (λ_=>.inl rfl) (.inr {_,vs.toArray,_,hk,rfl,rfl,rfl,by rw[Zw,Ro];exact hl,by simpa using rv}) (λb u z=>by have z':(none:Option HO)=some u:=z;cases z') (λb z=>absurd rfl z) λz=>absurd rfl z
 |none =>
  refine core (λb=>if b=a then some (.C7 {cls:=.type "list",data:=.seq vs.toArray} (.lst (ns.map V.int))) else none) (λb=>?_) (.inl (.inr {{cls:=.type "list",data:=.seq vs.toArray},if_pos rfl})) (λb u z=>?_) (λb z=>?_) λ_=>hk
  ·by_cases hb:b=a
   ·exact .inr {_,_,if_pos hb}
   ·exact .inl (if_neg hb)
  ·by_cases hb:b=a
   ·have z':=(if_pos hb).symm.trans z;cases z';subst hb;exact{ha,by rw[Y3];exact hl,vs,_,rv,ha}
   ·have z':=(if_neg hb).symm.trans z;cases z'
  ·by_cases hb:b=a
   ·exact hb
   ·exact absurd (if_neg hb) z
def Es {l:PySem.W.OpenLaw}{n k:Nat}{q:Y7}{loose:List Str}{XP:(Str->Option Y1)->Heap->Prop}{YP:Zj->Heap->Prop}{d:DefRec}{K:Params->PySem.W.Frag}{CX:Zj->AB}{sp:Zj->Sp}{x:Str}
  (hn:l.most=some n) (PY:n<=Zd) (To:d.params.defaults=[]) (hr:c_ k callerA)
  (hY:∀(w:Zj) (h:Heap),YP w h->(K w.params).In h)
  (F:∀(w:Zj) (mg:Str->Option Y1) (fa:Addr) (h:Heap),(K w.params).In h->h.Ns aaL mg->mg d.name=some (.ref fa) ->
   ∃fd:ZL,(∀(s:Y4) (u:Y1),BindsTo s fd {[u],[]} [(x,u)]) /\
    ∀base:Heap,(K w.params).In base->base.Ns aaL mg->aE l.prog w (K w.params) mg base (CX w) k fa fd [x] (sp w))
  (gF:∀(w:Zj) (H:Hp) (a:Addr) (ns:List Int),ns.length<=n->Lw H->dj (K w.params) H a (ns.map V.int)->sp w [.ref a] H (λv _=>v=.bl true) λ_ _ _=>False)
  (TC:∀(w:Zj) (H:Hp) (s:Y4) (e:Y1) (s':Y4),CX w [] H s (λ_ _ _=>False) e s'->False) :
  PySem.W.WalkO q loose XP YP l.row.toRowW d [] (λf vs=>PySem.call f vs):=by
 refine VO.u5 hn To λw s₀ s₁ mg mb fa o pm cd doc a vs ns G Y ho hd eU SW KJ hints hlen hg=>?_;have KX:=hY w _ Y;obtain⟨fd,hb,hF⟩:=F w mg fa _ KX G.T.g SW;exact Cy KX G.T.g G.T.b G.T.builtins G.T.nolimit hg KJ hints (ZX hlen PY) hr hF hb (λH hO hS=>gF w H a ns hlen hO hS) λH e s'=>TC w H s₁ e s'
abbrev bI:AB:=λ_ _ _ _ _ _=>False
abbrev E0:XK:=λ_ _ _=>False
def xK {X:Cx}:Passes bI X E0:=λ_ _ _ _ _ _ _ h=>h.elim
structure AL (K:PySem.W.Frag)(x qual:Str)(st:Stmt)(f:Addr)(fd:ZL):Prop where
 ex:∃(oc:Y1) (od:Option Addr) (kV doc pm:Y1) (an:Option Addr) (bQ ct:Y1) (Hl:Array (Option Y1)),
  fd=PySem.W.fnOf x qual (mx st) (d3 st) (ao st) .none kV doc pm an bQ ct/\K.lookup f=some {oc,od,.func fd,Hl}/\PySem.W.codeIn K bQ qual=true
 kp:PySem.W.keepIn K (.ref f)=true
section
variable {P:Y7}{w:Zj}{K:PySem.W.Frag}{mg:Str->Option Y1}{base:Heap}
def AL.ok {x qual:Str}{st:Stmt}{f:Addr}{fd:ZL}{N ps:List Str}{k:Nat}{sp:Sp}(F:AL K x qual st f fd)(S:aJ N ps (ao st))(len:∀vs H Q E,sp vs H Q E->vs.length=ps.length)
  (iA:∀(bQ:Y1) (A:Z0) (outer:List Env) (s:Y4) (H:Hp) (vs:List V) (Q:VK) (E:XK),c_ k (A.deeper (ace qual (ao st) s.heap.objs.size f bQ))->sp vs H Q E ->
   ∃t,sV (ly bI P w K mg base N qual (ao st) f bQ A outer s H E).tV (d3 st) t/\t {nx:=λ_ H'=>Q .cN H',rt:=Q} (start N vs) H):aE P w K mg base bI (k+1) f fd ps sp:=by
 obtain⟨oc,od,kV,doc,pm,an,bQ,ct,Hl,rfl,lk,eU⟩:=F.ex;refine HM lk eU S len λA outer s H vs Q E hr gF=>?_;obtain⟨t,h,q⟩:=iA bQ A outer s H vs Q E hr gF;exact{(t),h.tV,q}
def K3 {x qual:Str}{st:Stmt}{f:Addr}{oc:Y1}{od an:Option Addr}{Hl:Array (Option Y1)}{kV doc pm bQ ct:Y1}(l:K.lookup f=some {oc,od,.func (PySem.W.fnOf x qual (mx st) (d3 st) (ao st) .none kV doc pm an bQ ct),Hl})
  (c:PySem.W.codeIn K bQ qual=true) (k:PySem.W.keepIn K (.ref f)=true):AL K x qual st f (PySem.W.fnOf x qual (mx st) (d3 st) (ao st) .none kV doc pm an bQ ct):={{(oc),od,kV,doc,pm,an,bQ,ct,Hl,rfl,l,c},k}
end
section
variable {X:Cx}
def pv (i:Nat){x:Str}{pos:Pos}(hN:X.N[i]?=some x:=by rfl)(hv:oK X.env.scope x:=by first|exact Or.inl rfl|exact Or.inr (Or.inl rfl)|exact Or.inr (Or.inr rfl))(hd:(x==("__debug__" : Str))=false:=by decide)
  (eU:(x==("__classdict__" : Str))=false:=by decide):PE X (.Name x pos) (Mk i):=bY hN hv hd eU
end
def aB (H H':Hp):Prop:=∀b o,H b=some o->H' b=some o
def aB.refl (H:Hp):aB H H:=λ_ _ h=>h
def aB.trans {H H1 H2:Hp}(a:aB H H1)(b:aB H1 H2):aB H H2:=λc o h=>b c o (a c o h)
def aB.free {H H':Hp}(e:aB H H'){l:Addr}(h:H' l=Option.none):H l=Option.none:=by
 cases q:H l with
 |none=>rfl
 |some o =>
  rw[e l o q]at h;cases h
def aB.seq {K:PySem.W.Frag}{H H':Hp}{a:Addr}{xs:List V}(e:aB H H')(h:dj K H a xs):dj K H' a xs:=by
 rcases h with (h|⟨o,h⟩)|h
 ·exact .inl (.inl (e _ _ h))
 ·exact .inl (.inr {o,e _ _ h})
 ·exact .inr h
section
variable {X:Cx}
def qR (i j:Int):Prop:=0<j/\j.natAbs.log2<9000
def qR.of {i j:Int}(h0:0<j)(h:j<2 ^ 200):qR i j:=by
 refine{h0,?_};have h2:j.natAbs<2 ^ 200:=by lia
 have:=(Nat.log2_lt (n:=j.natAbs) (k:=200) (by lia)).mpr h2
 lia
def m9:lF X (aax .FloorDiv) (rI qR λi j=>.int (i / j)):=LJ λi j _ _ _ _ _ hc q=>by
 have h1:(0:Int)<j:=hc.1;exact floordiv_int (by lia) (by rw[Int.fdiv_eq_ediv_of_nonneg i (by lia)];exact q) (.inl (acw hc.2))
end
def xa:Z9 "max" = some (.builtin "max"):=by decide +kernel
def sO:Z9 "min" = some (.builtin "min"):=by decide +kernel
def Lp:Z9 "int" = some (.type "int"):=by decide +kernel
def ku:Z9 "list" = some (.type "list"):=by decide +kernel
def Ar:Z9 "sorted" = some (.builtin "sorted"):=by decide +kernel
def DJ:Z9 "isinstance" = some (.builtin "isinstance"):=by decide +kernel
def dO:Z9 "len" = some (.builtin "len"):=by decide +kernel
def Np {c A B:Prop}[Decidable c](hc:c)(h:A):if decide c=true then A else B:=by
 rw[if_pos (decide_eq_true hc)];exact h
def Nq {c A B:Prop}[Decidable c](hc:¬ c)(h:B):if decide c=true then A else B:=by
 rw[if_neg (by simp[hc])]
 exact h
def Rx {c A B:Prop}[Decidable c](h1:c->A)(h2:¬ c->B):if decide c=true then A else B:=by
 by_cases h:c
 ·exact Np h (h1 h)
 ·exact Nq h (h2 h)
def aB.new {H:Hp}{p:Addr}{o:HO}(n:H p=none):aB H (L2.upd H p o):=λb u e=>by rw[au (c8 e n)];exact e
def MU:pA 10 18:={by decide,by decide,by decide}
section
def rV {a:Int}{b:Int}(h:0<b):0<=a % b/\a % b<b:={Int.emod_nonneg a (by lia),Int.emod_lt_of_pos a h}
end
noncomputable def aK (X:Cx)(scope:abB)(N':List Str)(cl:List (Str×Addr))(C:Addr)(s:Y4)(H:Hp)(ex:List Addr):Cx :=
 {X with N:=N',s₀:=s,H₀:=H,env:=compEnvC scope cl C X.env,outer:=X.stack,stack:=X.stack,ex:=ex,fn:=λ_=>false,pn:=[],xe:=λ_ _=>False}
theorem jn {env:Env}:∀(names:List (Str×ab3)) (cs:List (Str×Addr)),(∀x,(x,Z3)∈names->∃c,env.cells.lookup x=some c) ->
  (∀x c,cs.lookup x=some c->env.cells.lookup x=some c) ->
  ∃cl,(forIn names cs λ(p:Str×ab3) (cs:List (Str×Addr))=>do
   if p.2==.free then do
    let a <- cellOf env p.1
    pure (ForInStep.yield ((p.1,a)::cs))
   else pure (ForInStep.yield cs):Sem (List (Str×Addr)))=pure cl /\
   (∀x,((x,Z3)∈names\/(∃c,cs.lookup x=some c))->∃c,cl.lookup x=some c)/\∀x c,cl.lookup x=some c->env.cells.lookup x=some c
 |[],cs,_,P6=>{cs,rfl,λx h=>h.elim (λz=>nomatch z) id,P6}
 | (n,k)::names,cs,hf,P6=>by
  by_cases hk:k=.free
  ·subst hk;obtain⟨c,hc⟩:=hf n (ZK ..);obtain⟨cl,e,h1,h2⟩:=jn names ((n,c)::cs) (λx hx=>hf x (Zu _ hx)) (λx c' hx=>by
    rw[aas]at hx;cases q:x==n with
    |true=>rw[q]at hx;cases hx;rw[eq_of_beq q];exact hc
    |false=>rw[q]at hx;exact P6 x c' hx)
   refine{cl,?_,λx hx=>h1 x ?_,h2}
   ·rw[List.forIn_cons];have ec:cellOf env n=pure c:=by unfold cellOf;rw[hc]
    simp only[beq_self_eq_true,if_true,ec];exact e
   ·rcases hx with hx|⟨c',hx⟩
    ·rcases Y6.mp hx with z|z
     ·cases z;exact .inr {c,by simp}
     ·exact .inl z
    ·right
     rw[aas];cases q:x==n with
     |true=>exact{(c),rfl}
     |false=>exact{(c'),hx}
  ·obtain⟨cl,e,h1,h2⟩:=jn names cs (λx hx=>hf x (Zu _ hx)) P6;refine{cl,?_,λx hx=>h1 x ?_,h2}
   ·rw[List.forIn_cons];have hb:(k==Z3)=false:=by simpa using hk
    simp only[hb,aaS,if_false];exact e
   ·rcases hx with hx|hx
    ·rcases Y6.mp hx with z|z
     ·cases z;exact absurd rfl hk
     ·exact .inl z
    ·exact .inr hx
def i_ {env:Env}{scope:abB}(h:∀x,(x,Z3)∈scope.names->∃c,env.cells.lookup x=some c):
  ∃cl,closureFor scope env=pure cl/\(∀x,(x,Z3)∈scope.names->∃c,cl.lookup x=some c)/\∀x c,cl.lookup x=some c->env.cells.lookup x=some c:=by
 obtain⟨cl,e,h1,h2⟩:=jn scope.names [] h (λx c z=>by simp at z)
 refine{cl,?_,λx hx=>h1 x (.inl hx),h2};unfold closureFor;refine Eq.trans ?_ (congrArg (· >>= pure) e);rfl
structure Links (X:Cx)(scope:abB)(N':List Str)(lk:List (Option Nat)):Prop where
 kind:scope.kind=.function
 wd:∀x∈scope.names,x.2≠.cell
 names:∀x∈scope.names,x.2=.local->scope.names.lookup x.1=some .local
 free:∀x,(x,Z3)∈scope.names->X.env.kindOf x=some .cell\/X.env.kindOf x=some .free
 len:lk.length=N'.length
 link:∀(i j:Nat),lk[i]?=some (some j)->∃x,N'[i]?=some x/\X.N[j]?=some x/\(x,Z3)∈scope.names/\scope.names.lookup x=some .free
noncomputable def iq (outer:List (Str×ab3))(N:List Str)(scope:abB)(N':List Str)(lk:List (Option Nat)):Bool :=
 (scope.kind==.function)&&scope.names.all (λx=>x.2 != .cell&&(x.2 != .local || scope.names.lookup x.1==some .local)&&(x.2 != .free || outer.lookup x.1==some .cell || outer.lookup x.1==some .free)) &&
 lk.length==N'.length&&(Zv lk.length).all λi=>match lk[i]? with
  |some (some j)=>match N'[i]? with
   |some x=>N[j]?==some x&&scope.names.contains (x,.free)&&scope.names.lookup x==some .free
   |none=>false
  |_=>true
def Links.of {X:Cx}{scope:abB}{N':List Str}{lk:List (Option Nat)}(h:iq X.env.scope.names X.N scope N' lk=true):Links X scope N' lk:=by
 simp only[iq,ZW]at h;obtain⟨⟨⟨h1,h2⟩,h3⟩,h4⟩:=h;rw[aaF]at h2 h4;refine{by simpa using h1,λx hx=>?_,λx hx hl=>?_,λx hx=>?_,by simpa using h3,λi j aD=>?_}
 ·have:=h2 x hx;simp only[ZW]at this;simpa using this.1.1
 ·have:=h2 x hx;simp only[ZW]at this;have q:=this.1.2;rw[hl]at q;simpa using q
 ·have:=h2 _ hx;simp only[ZW]at this;have q:=this.2;simp only[Bool.or_eq_true]at q;rcases q with (q|q)|q
  ·simp at q
  ·exact .inl (show X.env.scope.names.lookup x=some .cell by simpa using q)
  ·exact .inr (show X.env.scope.names.lookup x=some .free by simpa using q)
 ·have hi:i<lk.length:=(Y_.mp aD).1;have q:=h4 i (aae.mpr hi);rw[aD]at q;simp only at q;cases e:N'[i]? with
  |none=>rw[e]at q;simp at q
  |some x =>
   rw[e]at q;simp only[ZW]at q;obtain⟨⟨q1,q2⟩,q3⟩:=q;exact{x,rfl,by simpa using q1,by simpa using q2,by simpa using q3}
noncomputable def fc (lk:List (Option Nat))(σ:St):St:=lk.map λl=>match l with|some j=>(match σ[j]? with|some v=>v|none=>none)|none=>none
theorem eF {env:Env}:∀{names:List (Str×ab3)} {x:Str},names.lookup x=some .free ->
  (names.map λ(n,k)=>if (k==Z3&&env.scope.kind==.function&&env.kindOf n==some .cell) then (n,abC) else (n,k)).lookup x=some .cell \/
  (names.map λ(n,k)=>if (k==Z3&&env.scope.kind==.function&&env.kindOf n==some .cell) then (n,abC) else (n,k)).lookup x=some .free
 |[],_,h=>by simp at h
 | (n,k)::r,x,h=>by
  have ih:=@eF env r x;show List.lookup x ((if (k==Z3&&env.scope.kind==.function&&env.kindOf n==some .cell)=true then (n,abC) else (n,k))::_)=_ \/
   List.lookup x ((if (k==Z3&&env.scope.kind==.function&&env.kindOf n==some .cell)=true then (n,abC) else (n,k))::_)=_
  cases hx:x==n with
  |true =>
   simp only[aas,hx]at h;cases h
   by_cases hc:(Z3==Z3&&env.scope.kind==.function&&env.kindOf n==some .cell)=true
   ·rw[if_pos hc];left;simp[aas,hx]
   ·rw[if_neg hc];right;simp[aas,hx]
  |false =>
   simp only[aas,hx]at h
   by_cases hc:(k==Z3&&env.scope.kind==.function&&env.kindOf n==some .cell)=true
   ·rw[if_pos hc];simp only[aas,hx];exact ih h
   ·rw[if_neg hc];simp only[aas,hx];exact ih h
theorem eh {env:Env}:∀{names:List (Str×ab3)} {x:Str} {k:ab3},(k=.cell\/k=.free)->(∀y∈names,y.2≠.cell) ->
  (names.map λ(n,k)=>if (k==Z3&&env.scope.kind==.function&&env.kindOf n==some .cell) then (n,abC) else (n,k)).lookup x=some k->(x,Z3)∈names
 |[],_,_,_,_,h=>by simp at h
 | (n,k')::r,x,k,hk,hc,h=>by
  have ih:=@eh env r x k hk (λy hy=>hc y (Zu _ hy));have h':List.lookup x ((if (k'==Z3&&env.scope.kind==.function&&env.kindOf n==some .cell)=true then (n,abC) else (n,k'))::(r.map λ(n,k)=>if (k==Z3&&env.scope.kind==.function&&env.kindOf n==some .cell) then (n,abC) else (n,k)))=some k:=h
  have S9:=hc (n,k') (ZK ..)
  by_cases Gp:(k'==Z3&&env.scope.kind==.function&&env.kindOf n==some .cell)=true
  ·rw[if_pos Gp]at h';simp only[ZW,beq_iff_eq]at Gp;cases hx:x==n with
   |true=>rw[eq_of_beq hx,Gp.1.1];exact ZK ..
   |false=>rw[aas,hx]at h';exact Zu _ (ih h')
  ·rw[if_neg Gp]at h';cases hx:x==n with
   |true =>
    rw[aas,hx]at h';have e:k'=k:=by simpa using h'
    subst e;rcases hk with hk|hk
    ·exact absurd hk S9
    ·rw[eq_of_beq hx,hk];exact ZK ..
   |false=>rw[aas,hx]at h';exact Zu _ (ih h')
section
variable {X:Cx}{pins:List (Addr×Obj)}{σ:St}{H:Hp}{s:Y4}{scope:abB}{N':List Str}{lk:List (Option Nat)}{cl:List (Str×Addr)}{ex:List Addr}
def CH {h':Heap}{t':Nat}(I:Inv X pins σ H s)(L:Links X scope N' lk)(hex:∀b∈ex,g_ X pins H b)(Ol:∀b∈ex,∃o,s.heap.get? b=some o)
  (uA:∀x,(x,Z3)∈scope.names->∃c,cl.lookup x=some c) (j7:∀x c,cl.lookup x=some c->X.env.cells.lookup x=some c)
  (hn:h'.Ns s.heap.objs.size (λ_=>none)) (hk:∀b o,s.heap.get? b=some o->h'.get? b=some o) :
  Inv (aK X scope N' cl s.heap.objs.size s H ex) [] (fc lk σ) H {s with heap:=h',toks:=t'}:=by
 obtain⟨m,hm,hl⟩:=I.loc;have XF:∀b∈ex,b≠s.heap.objs.size:=λb hb=>by
  obtain⟨o,e⟩:=Ol b hb;exact ZQ (Zo e)
 refine⟨⟨I.ok.mod,L.kind,I.ok.glob,I.ok.blt,Y8 _,λx y c h1 h2=>I.ok.inj x y c (j7 _ _ h1) (j7 _ _ h2),λx hx=>?_,λx c z=>(nomatch z),I.ok.hd,I.ok.frames,.inl rfl,
  λb hb=>{XF b hb,λx c e=>(hex b hb).2.2.2.2.1 x c (j7 _ _ e)},I.bs,ZX I.ok.DK I.sz,λb o e z=>?_,λb hb z=>?_,I.stack,I.qX⟩,
  rfl,I.bare,Un.kept hk,{_,hn,λi x v h1 h2 h3=>?_},λx c e=>?_,I.bB.fresh (Y8 _),λx c e=>I.eG x c (j7 _ _ e),λp hp=>absurd (show p∈([]:List (Addr×Obj)) from hp) (by simp),I.bB.kept hk,?_⟩
 ·have F_:(relabel scope X.env).names.lookup x=some .cell\/(relabel scope X.env).names.lookup x=some .free:=hx;rcases F_ with q|q
  ·exact uA x (eh (.inl rfl) L.wd q)
  ·exact uA x (eh (.inr rfl) L.wd q)
 ·obtain⟨f0,f1,f2,f3,_⟩:=hex b z;rcases f3 with q|q
  ·exact I.ok.tY b o e q
  ·have h1:=Zo e;have h2:=I.ok.DK;exact absurd (ZD h1 (ZX h2 q)) (aa0 _)
 ·obtain⟨f0,f1,f2,f3,_⟩:=hex b hb;rcases Y6.mp (I.vI b z)with q|q
  ·exact f1 q
  ·exact f2 q
 ·have hi:∃j,lk[i]?=some (some j)/\σ[j]?=some (some v):=by
   have C3:(fc lk σ)[i]?=some (some v):=h2;unfold fc at C3;rw[Zg]at C3;cases e:lk[i]? with
   |none=>rw[e]at C3;cases C3
   |some l =>
    cases l with
    |none=>rw[e]at C3;cases C3
    |some j =>
     rw[e]at C3;cases e2:σ[j]? with
     |none=>simp[e2]at C3
     |some w' =>
      simp only[ab7,e2,Option.some.injEq]at C3;subst C3;exact{(j),rfl,e2}
  obtain⟨j,hj,hσ⟩:=hi;obtain⟨y,e1,e2,e3,e4⟩:=L.link i j hj;have XD:x=y:=by
   have zT:N'[i]?=some x:=h1;rw[e1]at zT;exact(ZZ zT).symm
  subst XD;have RM:oK X.env.scope x:=by
   rcases L.free x e3 with q|q
   ·exact .inr (.inl q)
   ·exact .inr (.inr q)
  obtain⟨u,ru,lu⟩:=hl j x v e2 hσ RM;refine{u,ru,.inr {?_,?_}}
  ·exact eF e4
  ·rcases lu with⟨k,_⟩|⟨_,c,hc,z⟩
   ·rcases L.free x e3 with q|q <;> (rw[k]at q;cases q)
   ·obtain⟨c',jr⟩:=uA x e3;have:=j7 x c' jr;rw[hc]at this;cases this;obtain⟨o,ho,hd⟩:=z;exact{c,jr,o,hk _ _ ho,hd}
 ·obtain⟨v,o,ho,hd⟩:=I.cell x c (j7 _ _ e);exact{v,o,hk _ _ ho,hd}
 ·show (fc lk σ).length=N'.length;unfold fc;rw[Y3,L.len]
def CI {s':Y4}{σ':St}{H':Hp}{pl:List (Addr×Obj)}{C:Addr}{h'':Heap}(I:Inv X pins σ H s)(hex:∀b∈ex,g_ X pins H b)
  (J:Inv (aK X scope N' cl s.heap.objs.size s H ex) pl σ' H' s') (hs:abS s.heap.objs.size s'.heap h''):Inv X pins σ H' {s' with heap:=h''}:=by
 have hC:H' s.heap.objs.size=none:=J.free;have u:=J.base;refine I.Ia (ch:=ex) (s':={s' with heap:=h''}) J.os ?_ ?_ J.bare (λb hb=>?_)
 ·have kk:∀b o,b≠s.heap.objs.size->s'.heap.get? b=some o->h''.get? b=some o:=λb o hb e=>(hs.2 b hb).trans e;have ne:∀b o,s.heap.get? b=some o->b≠s.heap.objs.size:=λb o e=>ZQ (Zo e);refine{λb o e n hb hx=>kk b _ (ne b o e) (u.keep b o e n hb hx),λb o e n hb hx=>?_,u.free,λb o e hx=>?_,u.je,u.i6,u.jf}
  ·obtain⟨sl,q⟩:=u.slot b o e n hb hx;exact{sl,kk b _ (ne b o e) q}
  ·obtain⟨o',q⟩:=u.there b o e hx;exact{o',kk b _ (ne b o e) q}
 ·intro b o e;have hb:b≠s.heap.objs.size:=λz=>by rw[z]at e;rw[hC]at e;cases e
  refine(J.bB b o e).mS (λc v hc q=>(hs.2 c ?_).trans q) (λ_ q=>q) λ_ _ q=>q;rcases hc with z|z
  ·rw[z];exact hb
  ·intro z';rw[z']at z;rw[hC]at z;cases z
 ·obtain⟨f0,f1,f2,f3,f4,f5⟩:=hex b hb;exact{(f3),f1,f4,f5}
end
noncomputable def mL (g:abD)(after:Sem Fin->Sem Fin)(e:Expr)(d:Nat)(it acc:Y1)(env:Env):Sem Fin:=do
 acm g.iter.pos
 match <- acd it with
 |none=>pure (.done .next)
 |some v =>
  letOwnedTupleGo g.target it v
  assign g.target env v
  let mut ok:=true
  for c in g.ifs do
   if ok then ok <- isTrue c env (eval c env)
  if ok then after (again (.compLoop e d it acc env)) else again (.compLoop e d it acc env)
noncomputable def rR (e:Expr)(d:Nat)(g':abD)(acc:Y1)(env:Env)(k:Sem Fin):Sem Fin:=do
 let x <- eval g'.iter env
 acm g'.iter.pos
 let x <- aad g'.iter env x
 let _ <- runOwn (.compStart e (d+1) (<- holding [x] (pyIter x)) acc env) env
 k
def mP (t:Sem Unit)(k:Sem Fin):Sem Fin:=do
 t
 k
def ym (elt:Expr)(acc:Y1)(env:Env):Sem Unit:=do let _ <- call (.builtin "list.append") [acc,<- eval elt env]
noncomputable def Dr (k v:Expr)(acc:Y1)(env:Env):Sem Unit:=do
    let kv <- eval k env
    let vv <- holding [kv] (eval v env)
    match acc with
    |.ref d=>do
     acm {k.pos with endLine:=v.pos.endLine,endCol:=v.pos.endCol}
     holding [kv,vv] (dictSet d kv vv)
    |_=>unsupported "internal:dictcomp"
structure jb (e:Expr)(d:Nat)(g:abD)(acc:Y1)(env:Env)(after:Sem Fin->Sem Fin):Prop where
 turn:∀it,compTurn e d it acc env=mL g after e d it acc env
 cl:(clausesOf e)[d]?=some g
 sync:g.is_async=0
 quiet:∀it,(acy e d it acc env).quiet=true
 under:∀(A:Z0) it,A.under (acy e d it acc env)=A
 IE:∀(A:Z0) it,A.under (Code.compStart e d it acc env)=A
 JU:∀it,(acy e d it acc env).isFrame=false
 M6:∀it,(Code.compStart e d it acc env).isFrame=false
section
variable {elt tg Bd dJ se k v:Expr}{ifs o7:List Expr}{sc:abB}{pos:Pos}{acc:Y1}{env:Env}
def DE:jb (.ListComp elt [{tg,dJ,ifs,0}] sc pos) 0 {tg,dJ,ifs,0} acc env (mP (ym elt acc env)) :=
 {λ_=>rfl,rfl,rfl,λ_=>rfl,λ_ _=>rfl,λ_ _=>rfl,λ_=>rfl,λ_=>rfl}
def H_:jb (.DictComp k v [{tg,dJ,ifs,0}] sc pos) 0 {tg,dJ,ifs,0} acc env (mP (Dr k v acc env)) :=
 {λ_=>rfl,rfl,rfl,λ_=>rfl,λ_ _=>rfl,λ_ _=>rfl,λ_=>rfl,λ_=>rfl}
def Lk:jb (.ListComp elt [{tg,dJ,ifs,0},{Bd,se,o7,0}] sc pos) 0 {tg,dJ,ifs,0} acc env (rR (.ListComp elt [{tg,dJ,ifs,0},{Bd,se,o7,0}] sc pos) 0 {Bd,se,o7,0} acc env) :=
 {λ_=>rfl,rfl,rfl,λ_=>rfl,λ_ _=>rfl,λ_ _=>rfl,λ_=>rfl,λ_=>rfl}
def Lj:jb (.ListComp elt [{tg,dJ,ifs,0},{Bd,se,o7,0}] sc pos) 1 {Bd,se,o7,0} acc env (mP (ym elt acc env)) :=
 {λ_=>rfl,rfl,rfl,λ_=>rfl,λ_ _=>rfl,λ_ _=>rfl,λ_=>rfl,λ_=>rfl}
end
def Ml:TT:=λ_ H Q=>Q true H
def yD (X:Cx)(ifs:List Expr)(t:TT):Prop :=
 ∀(pins:List (Addr×Obj)) (s:Y4) (σ:St) (H:Hp) (Q:Bool->Hp->Prop),Inv X pins σ H s->t σ H Q ->
  Zy (model X.prog X.w) X.A (forIn ifs true λc r=>if r=true then do let ok <- isTrue c X.env (eval c X.env);pure (ForInStep.yield ok) else pure (ForInStep.yield r)) (TP X pins σ Q) X.xe s
def ET {X:Cx}:yD X [] Ml:=λ_ _ _ H _ I h=>wpAny_tests_nil {(H),I,h}
def ES {X:Cx}{c:Expr}{t:TT}(h:PT X c t):yD X [c] t:=λpins s σ H Q I q=>wpAny_tests_one (h pins s σ H Q I q)
abbrev oF:=(St->Hp->Prop)->St->Hp->Prop
def sS (X:Cx)(after:Sem Fin->Sem Fin)(t:oF):Prop :=
 ∀(pins:List (Addr×Obj)) (s:Y4) (σ:St) (H:Hp) (N:St->Hp->Prop) (k:Sem Fin) (Q:Fin->Y4->Prop) (E:Y1->Y4->Prop),Inv X pins σ H s->t N σ H ->
  (∀σ' H' s',Inv X pins σ' H' s'->N σ' H'->Zy (model X.prog X.w) X.A k Q E s')->Zy (model X.prog X.w) X.A (after k) Q E s
def fF {X:Cx}(hx:X.xe=λ_ _=>False){α:Type}{t:Sem α}{Q:α->Y4->Prop}{E:Y1->Y4->Prop}{s:Y4}(h:Zy (model X.prog X.w) X.A t Q X.xe s):Zy (model X.prog X.w) X.A t Q E s :=
 abn h (λ_ _ q=>q) λe s q=>by rw[hx]at q;exact q.elim
def gO (J:It)(g:TG)(tt:TT)(ta:oF)(End:St->Hp->Prop):St->Hp->Prop:=λσ H =>
 ∃W:Nat->Nat->St->Hp->Prop,(∃m,W 0 m σ H)/\∀i m σ H,W i m σ H->(J.stop i H/\End σ H) \/
  (J.go i H/\∃N:St->Hp->Prop,(∀σ' H',N σ' H'->∃m',m'<m/\W (i+1) m' σ' H')/\∀x H',J.L9 i H x H'->g x σ H' λσ2 H2=>tt σ2 H2 λb H3=>if b=true then ta N σ2 H3 else N σ2 H3)
section
variable {X:Cx}{e:Expr}{d:Nat}{g:abD}{acc:Y1}{after:Sem Fin->Sem Fin}{tg:TG}{tt:TT}{ta:oF}
def Ah (hx:X.xe=λ_ _=>False)(hc:X.calm=true)(F:jb e d g acc X.env after)(hg:PG X g.target tg)(ht:yD X g.ifs tt)(ha:sS X after ta)
  {it:Addr} {fp:List Addr} {tn:Nat->Heap->Prop} {J:It} (T:Turn X.prog X.w X.K g.target J fp it tn) {pins:List (Addr×Obj)} {σ:St} {H:Hp} {s:Y4} {End:St->Hp->Prop}
  (I:Inv X pins σ H s) (st:tn 0 s.heap) (hf:∀b∈fp,g_ X pins H b) (h:gO J tg tt ta End σ H) :
  aco (model X.prog X.w) X.A (.compLoop e d (.ref it) acc X.env) (λr s'=>r=.ok .next/\∃σ' H',Inv X pins σ' H' s'/\End σ' H') s:=by
 obtain⟨W,⟨m0,w0⟩,turn⟩:=h;have vJ:∀{H':Hp},(∀b∈fp,H' b=none)->∀b∈fp,g_ X pins H' b:=λhn b hb=>{hn b hb,(hf b hb).2};refine codeAny_loop (F.quiet _) (λn s'=>∃i σ' H',Inv X pins σ' H' s'/\tn i s'.heap/\(∀b∈fp,H' b=none)/\W i n σ' H') (λn s3 hI=>?_) m0 {0,σ,H,I,st,λb hb=>(hf b hb).1,w0};obtain⟨i,σ3,H3,I3,mT,OO,w3⟩:=hI;rw[F.under];have KS:(model X.prog X.w).den (.compLoop e d (.ref it) acc X.env)=(mL g after e d (.ref it) acc X.env).onRaise (λx=>do noteFrame x X.env;theTreesLotGoes x):=by
  rw[<- F.turn];show (if (acy e d (.ref it) acc X.env).isFrame then _ else _)=_
  rw[F.JU];rfl
 rw[KS];refine wpAny_noted ?_;unfold mL;rcases turn i n σ3 H3 w3 with⟨stop,qn⟩|⟨go,N,hN,step⟩
 ·refine Y2 (abe (Y2 (bR (T.done X rfl rfl rfl hc i pins s3 σ3 H3 _ I3 (vJ OO) mT stop) λr s4 i5=>?_)));obtain⟨hr,I4⟩:=i5;subst hr;exact Zi {(rfl),σ3,H3,I4,qn}
 ·refine Y2 (abe (Y2 (bR (T.item X rfl rfl rfl hc i pins s3 σ3 H3 _ I3 (vJ OO) mT go) λr s4 l5=>?_)));obtain⟨u,hr,h4⟩:=l5;subst hr;refine Y2 (bR h4 λ_ s5 wF=>?_);obtain⟨x,H5,I5,r5,y5,IQ,TM⟩:=wF;have Uo:=I5.pinned (vJ TM) (T.obj _ _ IQ);refine Y2 (bR (fF hx (hg _ s5 σ3 H5 x u _ Uo r5 (step x H5 y5))) λ_ s6 RL=>?_);obtain⟨σ6,H6,I6,q6⟩:=RL;refine Y2 (bR (fF hx (ht _ s6 σ6 H6 _ I6 q6)) λok s7 WN=>?_);obtain⟨H7,I7,q7⟩:=WN;have DW:∀{σ8:St} {H8:Hp} {s8:Y4},Inv X (pins++m8 fp s5.heap) σ8 H8 s8->N σ8 H8->∃m,m<n/\∃i σ' H',Inv X pins σ' H' s8/\tn i s8.heap/\(∀b∈fp,H' b=none)/\W i m σ' H':=λ{σ8 H8 s8} I8 n8=>by
   obtain⟨m',hm,w8⟩:=hN σ8 H8 n8;refine{m',hm,i+1,σ8,H8,I8.jy,T.keep _ _ _ IQ λb hb o e=>(I8.pin (b,o) (Z1 _ (Z1 _ (gB hb e)))).1,λb hb=>?_,w8};obtain⟨o,e,d⟩:=T.obj _ _ IQ b hb;exact(I8.pin (b,o) (Z1 _ (Z1 _ (gB hb e)))).2.1
  cases ok with
  |false=>exact Zi {rfl,DW I7 (by simpa using q7)}
  |true =>
   exact ha _ s7 σ6 H7 N _ _ _ I7 (by simpa using q7) λσ8 H8 s8 I8 n8=>Zi {rfl,DW I8 n8}
def ou (hx:X.xe=λ_ _=>False)(hc:X.calm=true)(F:jb e d g acc X.env after)(hg:PG X g.target tg)(ht:yD X g.ifs tt)(ha:sS X after ta)
  {it:Addr} {fp:List Addr} {tn:Nat->Heap->Prop} {J:It} (T:Turn X.prog X.w X.K g.target J fp it tn) {pins:List (Addr×Obj)} {σ:St} {H:Hp} {s:Y4} {End:St->Hp->Prop}
  (I:Inv X pins σ H s) (st:tn 0 s.heap) (hf:∀b∈fp,g_ X pins H b) (h:gO J tg tt ta End σ H) :
  aco (model X.prog X.w) X.A (.compStart e d (.ref it) acc X.env) (λr s'=>r=.ok .next/\∃σ' H',Inv X pins σ' H' s'/\End σ' H') s:=by
 have lp:=Ah hx hc F hg ht ha T I st hf h;refine codeAny_of_tree ?_;rw[F.IE];have KS:(model X.prog X.w).den (.compStart e d (.ref it) acc X.env)=(compStart e d (.ref it) acc X.env).onRaise (λx=>do noteFrame x X.env;acm theWindowsPlace):=by
  show (if (Code.compStart e d (.ref it) acc X.env).isFrame then _ else _)=_
  rw[F.M6];rfl
 rw[KS];refine wpAny_notedAt ?_;unfold compStart;rw[F.cl];simp only[Option.elim_some,F.sync];show Zy _ _ (ask >>= _) _ _ s;refine Y2 (wpAny_askSetting (wpAny_ite ?_))
 split
 ·first
   |exact Y2 (Zi (Zi (And.intro (F.quiet _) lp)))
   |exact Zi (And.intro (F.quiet _) lp)
 ·have h2:∀(E:Y1->Y4->Prop),Zy (model X.prog X.w) X.A (pyIter (.ref it)) (λPL s'=>(acy e d PL acc X.env).quiet=true/\aco (model X.prog X.w) X.A (.compLoop e d PL acc X.env) (λr s'=>r=.ok .next/\∃σ' H',Inv X pins σ' H' s'/\End σ' H') s') E s :=
   λE=>T.self X.A 0 s _ E st {F.quiet _,lp}
  first
   |exact Y2 (abm (Y2 (abe (Y2 (abn (h2 _) (λPL s' h'=>Zi h') λ_ _ x=>x)))))
   | (refine Y2 (abm ?_);exact Y2 (abe (Y2 (abn (h2 _) (λPL s' h'=>Zi h') λ_ _ x=>x))))
def Fp {g':abD}{wi:TI}(hx:X.xe=λ_ _=>False)(hc:X.calm=true)(F:jb e (d+1) g' acc X.env after)(hi:PI X g'.target g'.iter wi)(hg:PG X g'.target tg)(ht:yD X g'.ifs tt)(ha:sS X after ta)
  (hs:∀x,aad g'.iter X.env x=pure x:=by intro _;rfl) :
  sS X (rR e d g' acc X.env) (λN σ H=>wi σ H λJ H1=>gO J tg tt ta N σ H1):=by
 intro pins s σ H N k Q E I h hk;unfold rR;refine Y2 (bR (fF hx (hi pins s σ H _ I h)) λx s1 h1=>?_);refine Y2 (abe (Y2 (wpAny_of_eq (hs x) ?_)));refine Y2 (aav (bR (fF hx h1) λHB s2 h2=>?_));obtain⟨it,fp,tn,J,H2,e1,I2,T,gP,f2,hl⟩:=h2;subst e1;refine Y2 (wpAny_runOwn (abN (ou hx hc F hg ht ha T I2 gP f2 hl) λr s' hr=>?_));obtain⟨rfl,σ',H',I',q⟩:=hr;exact hk σ' H' s' I' q
def jT {elt:Expr}{te:TE}{a:Addr}(hx:X.xe=λ_ _=>False)(he:PE X elt te):
  sS X (mP (ym elt (.ref a) X.env)) (λN σ H=>te σ H λv H1=>∃xs,H1 a=some (.lst xs)/\xs.length<Zd/\N σ (upd H1 a (.lst (xs++[v])))):=by
 intro pins s σ H N k Q E I h hk;unfold mP ym;refine Y2 (Y2 (bR (fF hx (he pins s σ H _ I h)) λu s1 WM=>?_));obtain⟨v,H1,I1,r1,xs,hH,hz,q⟩:=WM;refine Y2 (bR (fF hx <| gb (X:=X) pins s1 σ H1 (.ref a) [v] (.ref a) [u] (λw' H'=>N σ H') I1 rfl (.cons r1 .nil) ⟨a,xs,v,rfl,rfl,hH,hz,q⟩) λ_ s2 WL=>?_)
 obtain⟨_,H2,I2,_,q2⟩:=WL;exact Zi (hk σ H2 s2 I2 q2)
end
section
variable {X:Cx}{e:Expr}
structure oG (X:Cx)(fP:Sem Y1)(o:HO):Prop where
 ok:∀(pins:List (Addr×Obj)) (s:Y4) (σ:St) (H:Hp) (Q:Y1->Y4->Prop) (E:Y1->Y4->Prop),Inv X pins σ H s ->
  (∀a s',s.heap.objs.size<=a->H a=none->(∀b o,s.heap.get? b=some o->s'.heap.get? b=some o)->Inv X pins σ (upd H a o) s'->Q (.ref a) s')->Zy (model X.prog X.w) X.A fP Q E s
def jX:oG X (newList []) (.lst []) :=
 {λpins s σ H Q E I h=>aaV (h _ _ (Y8 _) I.fresh (λb o e=>Ze _ e) (I.J8 (its:=[]) (t':=s.toks) .nil (Zn _)))}
def Inv.sameBut {pins:List (Addr×Obj)}{σ:St}{H:Hp}{s:Y4}{C:Addr}{h':Heap}(I:Inv X pins σ H s)(f:g_ X pins H C)(hs:abS C s.heap h'):Inv X pins σ H {s with heap:=h'}:=by
 obtain⟨f0,f1,f2,f3,f4,f5⟩:=f;exact I.turned (t':=s.toks) (λb o hb e=>(hs.2 b hb).trans e) f0 f1 f3 f4 f5
end
end L2
namespace ST
open PySem PySem.SetTable
def fL (m:Nat)(p:Probe):Probe:=advance {mask:=m,place:=#[],dummies:=#[],finger:=0,led:=true,moves:=0,plain:=true} p
def V2 (m:Nat)(h:Int):Probe:=probeStart {mask:=m,place:=#[],dummies:=#[],finger:=0,led:=true,moves:=0,plain:=true} h
noncomputable def UR (m:Nat)(h:Int):Nat->Probe
 |0=>V2 m h
 |n+1=>fL m (UR m h n)
def UB (m:Nat)(h:Int)(n:Nat):Nat:=(UR m h n).j
abbrev g (xs:Array Nat)(i:Nat):Nat:=xs.getD i 0
def XX (xs:Array Nat):Prop:=∀i j,i<j->j<xs.size->g xs i<g xs j
def VH (t:SetTable)(x:Nat):Prop:=∃i,i<t.place.size/\g t.place i=x
structure WF (t:SetTable)(hs:List Int):Prop where
 YX:t.dummies=#[]
 sz:t.place.size=hs.length
 Yr:XX t.place
 YZ:∀i,i<t.place.size->g t.place i<=t.mask
 Wu:∃j,3<=j/\t.mask=2 ^ j-1
 room:t.place.size<=t.mask
 Ys:∀i h,hs[i]?=some h->∃n,UB t.mask h n=g t.place i/\∀k,k<n->VH t (UB t.mask h k)
instance (t:SetTable):DecidablePred (VH t):=λx=>decidable_of_iff (∃i,i<t.place.size/\g t.place i=x) Iff.rfl
end ST
namespace TS
open PySem PyProof.Rows
def c6:Bool->Za->Array Za->Nat->Nat->Nat->StateT ZM Sem (Option Nat):=sortPriv% PySem.Builtin.gallop
def jY:Array Za->Array Za->StateT ZM Sem (Array Za):=sortPriv% PySem.Builtin.mergeLo
def jZ:Array Za->Array Za->StateT ZM Sem (Array Za):=sortPriv% PySem.Builtin.mergeHi
abbrev c7 (st:ZM)(g:Nat):ZM:=SortSt.mk' (kindOf st) (ZP st) (Zz st) g (abM st)
def wK (left:Bool)(key:Za)(arr:Array Za)(base n hint:Nat):c6 left key arr base n hint=(do
  let ask:=λ(at_:Nat)=>(do
   let z <- elem' arr (base+at_)
   if left then lt' z key else return (<- lt' key z).map (!·):StateT ZM Sem (Option Bool))
  let mut before:=0
  let mut step:=1
  let mut u:=0
  let mut v:=0
  let some up <- ask hint|return none
  if up then
   let room:=n-hint
   for _ in [0:n] do
    if step >= room then break
    let some on <- ask (hint+step)|return none
    if !on then break
    before:=step
    step:=2*step+1
   u:=hint+before+1
   v:=hint+min step room
  else
   let room:=hint+1
   for _ in [0:n] do
    if step >= room then break
    let some hit <- ask (hint-step)|return none
    if hit then break
    before:=step
    step:=2*step+1
   u:=hint+1-min step room
   v:=hint-before
  for _ in [0:n] do
   if u >= v then break
   let mid:=u+(v-u) / 2
   let some on <- ask mid|return none
   if on then u:=mid+1 else v:=mid
  return some v):=rfl
def ua (p q:Array Za):jY p q=(do
  rule "list.sort.merge-lo"
  let all:=p.size+q.size
  let rest:=λ(to:Array Za) (i j:Nat)=>to++p.extract i p.size++q.extract j q.size
  let tail:=λ(to:Array Za) (i j:Nat)=>to++q.extract j q.size++p.extract i p.size
  let mut to:Array Za:=#[<- elem' q 0]
  let mut i:=0
  let mut j:=1
  if j==q.size then return rest to i j
  if i+1==p.size then return tail to i j
  let mut mg:=gallopOf (<- get)
  for _ in [0:all] do
   let mut m:=0
   let mut n:=0
   for _ in [0:all] do
    let some IA <- lt' (<- elem' q j) (<- elem' p i)|return rest to i j
    if IA then
     to:=to.push (<- elem' q j);j:=j+1;n:=n+1;m:=0
     if j==q.size then return rest to i j
     if n >= mg then break
    else
     to:=to.push (<- elem' p i);i:=i+1;m:=m+1;n:=0
     if i+1==p.size then return tail to i j
     if m >= mg then break
   rule "list.sort.gallop"
   mg:=mg+1
   for _ in [0:all] do
    if mg>1 then mg:=mg-1
    modify λst=>c7 st mg
    let some k <- c6 false (<- elem' q j) p i (p.size-i) 0|return rest to i j
    m:=k
    if k>0 then
     to:=to++p.extract i (i+k);i:=i+k
     if i+1==p.size then return tail to i j
     if i==p.size then return rest to i j
    to:=to.push (<- elem' q j);j:=j+1
    if j==q.size then return rest to i j
    let some k <- c6 true (<- elem' p i) q j (q.size-j) 0|return rest to i j
    n:=k
    if k>0 then
     to:=to++q.extract j (j+k);j:=j+k
     if j==q.size then return rest to i j
    to:=to.push (<- elem' p i);i:=i+1
    if i+1==p.size then return tail to i j
    if m<7&&n<7 then break
   mg:=mg+1
   modify λst=>c7 st mg
  unsupported "internal:list.sort.merge-bound"):=rfl
def uc (p q:Array Za):jZ p q=(do
  rule "list.sort.merge-hi"
  let all:=p.size+q.size
  let rest:=λ(to:Array Za) (i j:Nat)=>p.extract 0 i++q.extract 0 j++to.reverse
  let tail:=λ(to:Array Za) (i j:Nat)=>q.extract 0 j++p.extract 0 i++to.reverse
  let mut i:=p.size-1
  let mut j:=q.size
  let mut to:Array Za:=#[<- elem' p i]
  if i==0 then return rest to i j
  if j==1 then return tail to i j
  let mut mg:=gallopOf (<- get)
  for _ in [0:all] do
   let mut m:=0
   let mut n:=0
   for _ in [0:all] do
    let some IA <- lt' (<- elem' q (j-1)) (<- elem' p (i-1))|return rest to i j
    if IA then
     i:=i-1;to:=to.push (<- elem' p i);m:=m+1;n:=0
     if i==0 then return rest to i j
     if m >= mg then break
    else
     j:=j-1;to:=to.push (<- elem' q j);n:=n+1;m:=0
     if j==1 then return tail to i j
     if n >= mg then break
   rule "list.sort.gallop"
   mg:=mg+1
   for _ in [0:all] do
    if mg>1 then mg:=mg-1
    modify λst=>c7 st mg
    let some h <- c6 false (<- elem' q (j-1)) p 0 i (i-1)|return rest to i j
    let k:=i-h
    m:=k
    if k>0 then
     to:=to++(p.extract h i).reverse;i:=h
     if i==0 then return rest to i j
    j:=j-1;to:=to.push (<- elem' q j)
    if j==1 then return tail to i j
    let some h <- c6 true (<- elem' p (i-1)) q 0 j (j-1)|return rest to i j
    let k:=j-h
    n:=k
    if k>0 then
     to:=to++(q.extract h j).reverse;j:=h
     if j==1 then return tail to i j
     if j==0 then return rest to i j
    i:=i-1;to:=to.push (<- elem' p i)
    if i==0 then return rest to i j
    if m<7&&n<7 then break
   mg:=mg+1
   modify λst=>c7 st mg
  unsupported "internal:list.sort.merge-bound"):=rfl
def ue (i:Nat):mergeAt' i=(do
  let st <- get
  let (some (sa,na,pw),some (sb,nb,_)):=((Zz st)[i]?,(Zz st)[i+1]?)|unsupported "internal:list.sort.pending"
  set (abY st (((Zz st).setIfInBounds i (sa,na+nb,pw)).eraseIdxIfInBounds (i+1)))
  let some k <- c6 false (<- elem' (ZP st) sb) (ZP st) sa na 0|return false
  let (sa,na):=(sa+k,na-k)
  if na==0 then return true
  let some nb <- c6 true (<- elem' (ZP st) (sa+na-1)) (ZP st) sb nb (nb-1)|return false
  if nb==0 then return true
  let x:=(ZP st).extract sa sb
  let y:=(ZP st).extract sb (sb+nb)
  let got <- if na<=nb then jY x y else jZ x y
  modify λs2=>aak s2 (got.toList.zipIdx.foldl (λa (p,j)=>a.setIfInBounds (sa+j) p) (ZP s2))
  return (abM (<- get)).isNone):=rfl
structure cW (c:Za->Za->Bool):Prop where
 O7:∀x y,c x y=true->c y x=false
 UX:∀x y z,c x z=true->c x y=true\/c y z=true
def le (c:Za->Za->Bool)(x y:Za):Prop:=c y x=false
section
variable {c:Za->Za->Bool}
def cW.refl (O:cW c)(x:Za):le c x x:=by
 cases h:c x x
 ·exact h
 ·exact O.O7 _ _ h
def cW.trans (O:cW c){x y z:Za}(h1:le c x y)(h2:le c y z):le c x z:=by
 cases h:c z x
 ·exact h
 ·rcases O.UX _ y _ h with q|q
  ·exact absurd (q.symm.trans h2) (by simp)
  ·exact absurd (q.symm.trans h1) (by simp)
def cW.of_lt (O:cW c){x y:Za}(h:c x y=true):le c x y:=O.O7 _ _ h
def el (a:Array Za)(i:Nat):Za:=a.getD i (Value.none,Value.none)
def kl {a:Array Za}{i:Nat}(h:i<a.size):a[i]?=some (el a i):=by
 rw[getElem?_pos a i h,el,abk,getElem?_pos a i h];rfl
def yn {a:Array Za}{i:Nat}{x:Za}(h:a[i]?=some x):el a i=x:=by
 rw[el,abk,h];rfl
def fh {a b:Array Za}{i j:Nat}(h:a[i]?=b[j]?):el a i=el b j:=by
 rw[el,el,abk,abk,h]
def SR (c:Za->Za->Bool)(a:Array Za)(lo hi:Nat):Prop:=∀i j,lo<=i->i<=j->j<hi->le c (el a i) (el a j)
def gN (prog:Y7)(w:Zj)(A:Z0)(E:Y1->Y4->Prop)(s:Y4)(κ:abA)(c:Za->Za->Bool)(S:Za->Prop):Prop :=
 ∀(x y:Za) (st:ZM) (Q:Option Bool->ZM->Prop),S x->S y->kindOf st=κ->Q (some (c x y)) st->wpS (model prog w) A E s (lt' x y) Q st
end
section
variable {prog:Y7}{w:Zj}{A:Z0}{E:Y1->Y4->Prop}{s:Y4}{κ:abA}{c:Za->Za->Bool}{S:Za->Prop}
def aX {a:Array Za}{i:Nat}{Q:Za->ZM->Prop}{st:ZM}(h:i<a.size)(q:Q (el a i) st):wpS (model prog w) A E s (elem' a i) Q st:=by
 rw[elem'_eq,kl h];exact Zm q
def fo (c:Za->Za->Bool)(left:Bool)(key:Za)(a:Array Za)(base i:Nat):Bool:=if left=true then c (el a (base+i)) key else !c key (el a (base+i))
def GP (O:cW c){left:Bool}{key:Za}{a:Array Za}{base n i j:Nat}(hs:SR c a base (base+n))(aD:i<=j)(hj:j<n)(h:fo c left key a base j=true):fo c left key a base i=true:=by
 have hl:=hs (base+i) (base+j) (by lia) (by lia) (by lia)
 unfold fo at *
 cases left with
 |true =>
  rw[if_pos rfl]at *
  rcases O.UX _ (el a (base+i)) _ h with q|q
  ·exact absurd (q.symm.trans hl) (by simp)
  ·exact q
 |false =>
  rw[if_neg (by simp)]at *
  rw[abU]at *
  exact O.trans hl h
def jw (L:gN prog w A E s κ c S){left:Bool}{key:Za}{a:Array Za}{base n i:Nat}{Q:Option Bool->ZM->Prop}{st:ZM}(hk:kindOf st=κ)(hK:S key)(hA:∀i,i<n->S (el a (base+i)))(hn:base+n<=a.size)(hi:i<n)
  (h:Q (some (fo c left key a base i)) st):wpS (model prog w) A E s (do
   let z <- elem' a (base+i)
   if left then lt' z key else return (<- lt' key z).map (!·):StateT ZM Sem (Option Bool)) Q st:=by
 refine Zf (aX (by lia) ?_)
 unfold fo at h;cases left with
 |true =>
  rw[if_pos rfl]at *
  exact L _ _ st Q (hA i hi) hK hk h
 |false =>
  rw[if_neg (by simp)]at *
  exact Zf (L _ _ st _ hK (hA i hi) hk (Zm h))
def eP (O:cW c)(L:gN prog w A E s κ c S){left:Bool}{key:Za}{a:Array Za}{base n hint:Nat}{Q:Option Nat->ZM->Prop}{st:ZM}(hk:kindOf st=κ)(hK:S key)(hA:∀i,i<n->S (el a (base+i)))(hn:base+n<=a.size)
  (hs:SR c a base (base+n)) (hh:hint<n) (h:∀k,k<=n->(∀i,i<k->fo c left key a base i=true)->(∀i,k<=i->i<n->fo c left key a base i=false)->Q (some k) st) :
  wpS (model prog w) A E s (c6 left key a base n hint) Q st:=by
 rw[wK];dsimp only;have up:∀{i j},i<=j->j<n->fo c left key a base j=true->fo c left key a base i=true:=λh1 h2 h3=>GP O hs h1 h2 h3;refine Zf (jw L hk hK hA hn hh ?_);dsimp only;have dn:∀{i j},i<=j->j<n->fo c left key a base i=false->fo c left key a base j=false:=λ{i j} h1 h2 h3=>by
  cases q:fo c left key a base j
  ·rfl
  ·rw[up h1 h2 q]at h3;exact absurd h3 (by simp)
 cases uB:fo c left key a base hint with
 |true =>
  rw[if_pos rfl];refine Zf (aaJ (aac (I:=λx r aG=>aG=st/\∃be fL,r=(none,be,fL)/\hint+be<n/\be<fL/\x+1<=fL/\fo c left key a base (hint+be)=true)
   (Q:=λr aG=>aG=st/\∃be fL,r=(none,be,fL)/\hint+be<n/\be<fL/\fo c left key a base (hint+be)=true/\(n-hint<=fL\/(hint+fL<n/\fo c left key a base (hint+fL)=false))) ?_ ?_ ?_) ?_)
  ·rintro x r aG _ hx ⟨rfl,be,fL,rfl,h1,h2,h3,h4⟩;dsimp only
   by_cases hr:fL >= n-hint
   ·rw[if_pos hr];exact Zm {rfl,be,fL,rfl,h1,h2,h4,.inl hr}
   ·rw[if_neg hr];refine Zf (jw L hk hK hA hn (by omega) ?_)
    dsimp only;cases hb:fo c left key a base (hint+fL)with
    |true =>
     rw[if_neg (by simp)]
     exact Zm {rfl,fL,_,rfl,by omega,by omega,by omega,hb}
    |false =>
     rw[if_pos (by simp)]
     exact Zm {rfl,be,fL,rfl,h1,h2,h4,.inr {by omega,hb}}
  ·rintro r aG ⟨rfl,be,fL,rfl,h1,h2,h3,h4⟩;exact{rfl,be,fL,rfl,h1,h2,h4,.inl (by omega)}
  ·exact{rfl,0,1,rfl,by omega,by omega,by omega,uB}
  rintro r aG ⟨e0,be,fL,rfl,h1,h2,h4,h5⟩;rw[e0];dsimp only;have g1:∀i,i<hint+be+1->fo c left key a base i=true:=λi hi=>up (j:=hint+be) (by omega) h1 h4
  have g2:∀i,hint+min fL (n-hint)<=i->i<n->fo c left key a base i=false:=λi hi fe=>by
   rcases h5 with q|⟨q1,q2⟩
   ·omega
   ·exact dn (i:=hint+fL) (by omega) fe q2
  refine Zf (aaJ (aac (I:=λx r aG=>aG=st/\∃u v,r=(none,u,v)/\u<=v/\v<=n/\v-u<=n-x/\(∀i,i<u->fo c left key a base i=true)/\(∀i,v<=i->i<n->fo c left key a base i=false))
   (Q:=λr aG=>aG=st/\∃v,r=(none,v,v)/\v<=n/\(∀i,i<v->fo c left key a base i=true)/\(∀i,v<=i->i<n->fo c left key a base i=false)) ?_ ?_ ?_) ?_)
  ·rintro x r aG _ hx ⟨rfl,u,v,rfl,h1,h2,h3,h4,h5⟩;dsimp only
   by_cases NH:u >= v
   ·rw[if_pos NH];obtain rfl:u=v:=by omega
    exact Zm {(rfl),u,rfl,h2,h4,h5}
   ·rw[if_neg NH];refine Zf (jw L hk hK hA hn (by omega) ?_)
    dsimp only;cases hb:fo c left key a base (u+(v-u) / 2)with
    |true =>
     rw[if_pos rfl];exact Zm {rfl,_,v,rfl,by omega,h2,by omega,λi hi=>up (j:=u+(v-u) / 2) (by omega) (by omega) hb,h5}
    |false =>
     rw[if_neg (by simp)]
     exact Zm {rfl,u,_,rfl,by omega,by omega,by omega,h4,λi hi fe=>dn (i:=u+(v-u) / 2) (by omega) (by omega) hb}
  ·rintro r aG ⟨rfl,u,v,rfl,h1,h2,h3,h4,h5⟩;obtain rfl:u=v:=by omega
   exact{(rfl),u,rfl,h2,h4,h5}
  ·exact{rfl,_,_,rfl,by omega,by omega,by omega,by assumption,by assumption}
  ·rintro r aG ⟨rfl,v,rfl,h2,h4,h5⟩;exact Zm (h v h2 h4 h5)
 |false =>
  rw[if_neg (by simp)]
  refine Zf (aaJ (aac (I:=λx r aG=>aG=st/\∃be fL,r=(none,be,fL)/\be<=hint/\be<fL/\x+1<=fL/\fo c left key a base (hint-be)=false)
   (Q:=λr aG=>aG=st/\∃be fL,r=(none,be,fL)/\be<=hint/\be<fL/\fo c left key a base (hint-be)=false/\(hint+1<=fL\/(fL<=hint/\fo c left key a base (hint-fL)=true))) ?_ ?_ ?_) ?_)
  ·rintro x r aG _ hx ⟨rfl,be,fL,rfl,h1,h2,h3,h4⟩;dsimp only
   by_cases hr:fL >= hint+1
   ·rw[if_pos hr];exact Zm {rfl,be,fL,rfl,h1,h2,h4,.inl hr}
   ·rw[if_neg hr];refine Zf (jw L hk hK hA hn (by omega) ?_)
    dsimp only;cases hb:fo c left key a base (hint-fL)with
    |true =>
     rw[if_pos rfl];exact Zm {rfl,be,fL,rfl,h1,h2,h4,.inr {by omega,hb}}
    |false =>
     rw[if_neg (by simp)]
     exact Zm {rfl,fL,_,rfl,by omega,by omega,by omega,hb}
  ·rintro r aG ⟨rfl,be,fL,rfl,h1,h2,h3,h4⟩;exact{rfl,be,fL,rfl,h1,h2,h4,.inl (by omega)}
  ·exact{rfl,0,1,rfl,by omega,by omega,by omega,uB}
  rintro r aG ⟨e0,be,fL,rfl,h1,h2,h4,h5⟩;rw[e0];dsimp only;have g1:∀i,i<hint+1-min fL (hint+1)->fo c left key a base i=true:=λi hi=>by
   rcases h5 with q|⟨q1,q2⟩
   ·omega
   ·exact up (j:=hint-fL) (by omega) (by omega) q2
  have g2:∀i,hint-be<=i->i<n->fo c left key a base i=false:=λi hi fe=>dn (i:=hint-be) hi fe h4;refine Zf (aaJ (aac (I:=λx r aG=>aG=st/\∃u v,r=(none,u,v)/\u<=v/\v<=n/\v-u<=n-x/\(∀i,i<u->fo c left key a base i=true)/\(∀i,v<=i->i<n->fo c left key a base i=false))
   (Q:=λr aG=>aG=st/\∃v,r=(none,v,v)/\v<=n/\(∀i,i<v->fo c left key a base i=true)/\(∀i,v<=i->i<n->fo c left key a base i=false)) ?_ ?_ ?_) ?_)
  ·rintro x r aG _ hx ⟨rfl,u,v,rfl,h1,h2,h3,h4,h5⟩;dsimp only
   by_cases NH:u >= v
   ·rw[if_pos NH];obtain rfl:u=v:=by omega
    exact Zm {(rfl),u,rfl,h2,h4,h5}
   ·rw[if_neg NH];refine Zf (jw L hk hK hA hn (by omega) ?_)
    dsimp only;cases hb:fo c left key a base (u+(v-u) / 2)with
    |true =>
     rw[if_pos rfl];exact Zm {rfl,_,v,rfl,by omega,h2,by omega,λi hi=>up (j:=u+(v-u) / 2) (by omega) (by omega) hb,h5}
    |false =>
     rw[if_neg (by simp)]
     exact Zm {rfl,u,_,rfl,by omega,by omega,by omega,h4,λi hi fe=>dn (i:=u+(v-u) / 2) (by omega) (by omega) hb}
  ·rintro r aG ⟨rfl,u,v,rfl,h1,h2,h3,h4,h5⟩;obtain rfl:u=v:=by omega
   exact{(rfl),u,rfl,h2,h4,h5}
  ·exact{rfl,_,_,rfl,by omega,by omega,by omega,by assumption,by assumption}
  ·rintro r aG ⟨rfl,v,rfl,h2,h4,h5⟩;exact Zm (h v h2 h4 h5)
end
section
variable {c:Za->Za->Bool}{p q:Array Za}{t:List Za}{i j:Nat}
def xn {a:Array Za}{i:Nat}(h:i<a.size):a.toList.take (i+1)=a.toList.take i++[el a i]:=by
 have e:a.toList[i]?=some (el a i):=by rw[ZG];exact kl h
 rw[List.take_succ,e];rfl
def yo {a:Array Za}{i:Nat}(h:i<a.size):a.toList.drop i=el a i::a.toList.drop (i+1):=by
 have hl:i<a.toList.length:=by rw[ZJ];exact h
 have e:a.toList[i]=el a i:=by
  have h1:=Y5 hl;rw[ZG,kl h]at h1;exact(ZZ h1).symm
 rw[Z6 hl,e]
structure Mg (c:Za->Za->Bool)(p q:Array Za)(t:List Za)(i j:Nat):Prop where
 hi:i<=p.size
 hj:j<=q.size
 perm:t.Perm (p.toList.take i++q.toList.take j)
 lM:t.Pairwise (le c)
 ap:∀x∈t,∀k,i<=k->k<p.size->le c x (el p k)
 aq:∀x∈t,∀k,j<=k->k<q.size->le c x (el q k)
def Gd (c:Za->Za->Bool)(p q:Array Za)(t:List Za):Prop:=t.Perm (p.toList++q.toList)/\t.Pairwise (le c)
def tw {x:Za}(h:t.Pairwise (le c))(hx:∀y∈t,le c y x):(t++[x]).Pairwise (le c):=by
 rw[List.pairwise_append];exact{h,List.pairwise_singleton _ _,λy hy z hz=>by rw[Zc.mp hz];exact hx y hy}
def Mg.lO (m:Mg c p q t i j)(hj:j<q.size)(sq:SR c q 0 q.size)(hle:∀k,i<=k->k<p.size->le c (el q j) (el p k)):Mg c p q (t++[el q j]) i (j+1) where
 hi:=m.hi
 hj:=hj
 perm:=by
  rw[xn hj,<- Z8];exact m.perm.append_right _
 lM:=tw m.lM λy hy=>m.aq y hy j (Y8 _) hj
 ap:=λx hx k h1 h2=>by
  rcases Zt.mp hx with h|h
  ·exact m.ap x h k h1 h2
  ·rw[Zc.mp h];exact hle k h1 h2
 aq:=λx hx k h1 h2=>by
  rcases Zt.mp hx with h|h
  ·exact m.aq x h k (by lia) h2
  ·rw[Zc.mp h];exact sq j k (by lia) (by lia) h2
def Mg.lP (m:Mg c p q t i j)(hi:i<p.size)(sp:SR c p 0 p.size)(hle:∀k,j<=k->k<q.size->le c (el p i) (el q k)):Mg c p q (t++[el p i]) (i+1) j where
 hi:=hi
 hj:=m.hj
 perm:=by
  rw[xn hi];refine(m.perm.append_right _).trans ?_;rw[Z8,Z8];exact List.Perm.append_left _ List.perm_append_comm
 lM:=tw m.lM λy hy=>m.ap y hy i (Y8 _) hi
 ap:=λx hx k h1 h2=>by
  rcases Zt.mp hx with h|h
  ·exact m.ap x h k (by lia) h2
  ·rw[Zc.mp h];exact sp i k (by lia) (by lia) h2
 aq:=λx hx k h1 h2=>by
  rcases Zt.mp hx with h|h
  ·exact m.aq x h k h1 h2
  ·rw[Zc.mp h];exact hle k h1 h2
def iJ {a:Array Za}{i k:Nat}(h:i+k<a.size):(a.toList.drop i).take (k+1)=(a.toList.drop i).take k++[el a (i+k)]:=by
 have e:(a.toList.drop i)[k]?=some (el a (i+k)):=by rw[List.getElem?_drop,ZG];exact kl h
 rw[List.take_succ,e];rfl
theorem Mg.jC (m:Mg c p q t i j)(sp:SR c p 0 p.size):∀(k:Nat),i+k<=p.size->(∀x,x<k->∀y,j<=y->y<q.size->le c (el p (i+x)) (el q y))->Mg c p q (t++(p.toList.drop i).take k) (i+k) j
 |0,_,_=>by simpa using m
 |k+1,h,hle=>by
  have m':=Mg.jC m sp k (by lia) λx hx=>hle x (by lia)
  rw[iJ (by lia),<- Z8,<- Nat.add_assoc]
  exact m'.lP (by lia) sp (hle k (by lia))
theorem Mg.jB (m:Mg c p q t i j)(sq:SR c q 0 q.size):∀(k:Nat),j+k<=q.size->(∀x,x<k->∀y,i<=y->y<p.size->le c (el q (j+x)) (el p y))->Mg c p q (t++(q.toList.drop j).take k) i (j+k)
 |0,_,_=>by simpa using m
 |k+1,h,hle=>by
  have m':=Mg.jB m sq k (by lia) λx hx=>hle x (by lia)
  rw[iJ (by lia),<- Z8,<- Nat.add_assoc]
  exact m'.lO (by lia) sq (hle k (by lia))
def Mg.full (m:Mg c p q t p.size q.size):Gd c p q t:=by
 refine{?_,m.lM};have h:=m.perm;rw[Z4 (by rw[ZJ];lia),Z4 (by rw[ZJ];lia)]at h
 exact h
def cU (a:Array Za)(i j:Nat):(a.extract i j).toList=(a.toList.drop i).take (j-i):=by
 rw[Array.toList_extract,List.extract_eq_take_drop]
def uO {a:Array Za}{i j:Nat}(h:a.size<=i):(a.toList.drop i).take (j-i)=[]:=by
 rw[aaz (by rw[ZJ];exact h)]
 simp
def Mg.done {to:Array Za}(m:Mg c p q to.toList i j)(sp:SR c p 0 p.size)(sq:SR c q 0 q.size)(h:i=p.size\/j=q.size):Gd c p q (to++p.extract i p.size++q.extract j q.size).toList:=by
 rw[aaB,aaB,cU,cU];rcases h with rfl|rfl
 ·rw[uO (Y8 _),aar];have m':=m.jB sq (q.size-j) (by have:=m.hj;lia) λx hx y h1 h2=>by lia
  rw[show j+(q.size-j)=q.size by have:=m.hj;lia]at m'
  exact m'.full
 ·rw[uO (a:=q) (Y8 _),aar];have m':=m.jC sp (p.size-i) (by have:=m.hi;lia) λx hx y h1 h2=>by lia
  rw[show i+(p.size-i)=p.size by have:=m.hi;lia]at m'
  exact m'.full
def Mg.tail {to:Array Za}(O:cW c)(m:Mg c p q to.toList i j)(sp:SR c p 0 p.size)(sq:SR c q 0 q.size)(h:i+1=p.size)(hl:∀y,y<q.size->c (el q y) (el p (p.size-1))=true):Gd c p q (to++q.extract j q.size++p.extract i p.size).toList:=by
 rw[aaB,aaB,cU,cU];have m':=m.jB sq (q.size-j) (by have:=m.hj;lia) λx hx y h1 h2=>by
  rw[show y=p.size-1 by lia]
  exact O.of_lt (hl _ (by lia))
 rw[show j+(q.size-j)=q.size by have:=m.hj;lia]at m'
 have m2:=m'.jC sp (p.size-i) (by have:=m.hi;lia) λx hx y h1 h2=>by lia
 rw[show i+(p.size-i)=p.size by have:=m.hi;lia]at m2
 exact m2.full
def yB (to a:Array Za)(i k:Nat):(to++a.extract i (i+k)).toList=to.toList++(a.toList.drop i).take k:=by
 rw[aaB,cU,show i+k-i=k by lia]
def Mg.start (O:cW c)(sp:SR c p 0 p.size)(sq:SR c q 0 q.size)(hq:0<q.size)(hp:0<p.size)(h:c (el q 0) (el p 0)=true):Mg c p q [el q 0] 0 1:=by
 have m:Mg c p q [] 0 0:={Zn _,Zn _,(by simp),.nil,(λx hx=>by cases hx),(λx hx=>by cases hx)}
 exact m.lO hq sq λk _ hk=>O.trans (O.of_lt h) (sp 0 k (by lia) (by lia) hk)
end
structure lH (st aG:ZM):Prop where
 kind:kindOf aG=kindOf st
 arr:ZP aG=ZP st
 pend:Zz aG=Zz st
 fail:abM aG=abM st
def lH.refl (st:ZM):lH st st:={(rfl),rfl,rfl,rfl}
def lH.HJ {st aG:ZM}(e:lH st aG)(g:Nat):lH st (c7 aG g):={(e.kind),e.arr,e.pend,e.fail}
abbrev RI:=Array Za×Nat×Nat×Nat×Nat
abbrev RG:=Array Za×Nat×Nat×Nat×Nat×Nat
abbrev RO:=Array Za×Nat×Nat×Nat
noncomputable def Rl (p q t:Array Za)(i j mg m n:Nat):StateT ZM Sem (ForInStep (Option (Array Za)×RG)):=do
 let z <- elem' p i
 if (i+1+1==p.size)=true then pure (.done (some (t.push z++q.extract j++p.extract (i+1)),t.push z,i+1,j,mg,m,n))
 else if (decide (m<7)&&decide (n<7))=true then pure (.done (none,t.push z,i+1,j,mg,m,n)) else pure (.yield (none,t.push z,i+1,j,mg,m,n))
noncomputable def Rm (p q t:Array Za)(i j mg m n:Nat):StateT ZM Sem (ForInStep (Option (Array Za)×RG)):=do
 let y <- elem' q j
 if (j+1==q.size)=true then pure (.done (some (t.push y++p.extract i++q.extract (j+1)),t.push y,i,j+1,mg,m,n))
 else do
  let x <- elem' p i
  let r <- c6 true x q (j+1) (q.size-(j+1)) 0
  match r with
  |some k=>if k>0 then (if (j+1+k==q.size)=true then pure (.done (some (t.push y++q.extract (j+1) (j+1+k)++p.extract i++q.extract (j+1+k)),t.push y++q.extract (j+1) (j+1+k),i,j+1+k,mg,m,k))
    else Rl p q (t.push y++q.extract (j+1) (j+1+k)) i (j+1+k) mg m k) else Rl p q (t.push y) i (j+1) mg m k
  |_=>pure (.done (some (t.push y++p.extract i++q.extract (j+1)),t.push y,i,j+1,mg,m,n))
noncomputable def Nm (p q t:Array Za)(i j mg m n:Nat):StateT ZM Sem (ForInStep (Option (Array Za)×RG)):=do
 modify λst=>c7 st mg
 let y <- elem' q j
 let r <- c6 false y p i (p.size-i) 0
 match r with
 |some k=>if k>0 then (if (i+k+1==p.size)=true then pure (.done (some (t++p.extract i (i+k)++q.extract j++p.extract (i+k)),t++p.extract i (i+k),i+k,j,mg,k,n))
   else if (i+k==p.size)=true then pure (.done (some (t++p.extract i (i+k)++p.extract (i+k)++q.extract j),t++p.extract i (i+k),i+k,j,mg,k,n))
   else Rm p q (t++p.extract i (i+k)) (i+k) j mg k n) else Rm p q t i j mg k n
 |_=>pure (.done (some (t++p.extract i++q.extract j),t,i,j,mg,m,n))
def Ww (p q:Array Za)(s:Option (Array Za)×RG):StateT ZM Sem (ForInStep (Option (Array Za)×RG)):=if s.2.2.2.2.1>1 then Nm p q s.2.1 s.2.2.1 s.2.2.2.1 (s.2.2.2.2.1-1) s.2.2.2.2.2.1 s.2.2.2.2.2.2 else Nm p q s.2.1 s.2.2.1 s.2.2.2.1 s.2.2.2.2.1 s.2.2.2.2.2.1 s.2.2.2.2.2.2
noncomputable def Nl (p q:Array Za)(mg:Nat)(s:Option (Array Za)×RI):StateT ZM Sem (ForInStep (Option (Array Za)×RI)):=do
 let y <- elem' q s.2.2.2.1
 if (s.2.2.2.1+1==q.size)=true then pure (.done (some (s.2.1.push y++p.extract s.2.2.1++q.extract (s.2.2.2.1+1)),s.2.1.push y,s.2.2.1,s.2.2.2.1+1,0,s.2.2.2.2.2+1))
 else if s.2.2.2.2.2+1 >= mg then pure (.done (none,s.2.1.push y,s.2.2.1,s.2.2.2.1+1,0,s.2.2.2.2.2+1)) else pure (.yield (none,s.2.1.push y,s.2.2.1,s.2.2.2.1+1,0,s.2.2.2.2.2+1))
noncomputable def Nk (p q:Array Za)(mg:Nat)(s:Option (Array Za)×RI):StateT ZM Sem (ForInStep (Option (Array Za)×RI)):=do
 let x <- elem' p s.2.2.1
 if (s.2.2.1+1+1==p.size)=true then pure (.done (some (s.2.1.push x++q.extract s.2.2.2.1++p.extract (s.2.2.1+1)),s.2.1.push x,s.2.2.1+1,s.2.2.2.1,s.2.2.2.2.1+1,0))
 else if s.2.2.2.2.1+1 >= mg then pure (.done (none,s.2.1.push x,s.2.2.1+1,s.2.2.2.1,s.2.2.2.2.1+1,0)) else pure (.yield (none,s.2.1.push x,s.2.2.1+1,s.2.2.2.1,s.2.2.2.2.1+1,0))
noncomputable def Rk (p q:Array Za)(mg:Nat)(s:Option (Array Za)×RI):StateT ZM Sem (ForInStep (Option (Array Za)×RI)):=do
 let y <- elem' q s.2.2.2.1
 let x <- elem' p s.2.2.1
 let r <- lt' y x
 match r with
 |some IA=>if IA=true then Nl p q mg s else Nk p q mg s
 |_=>pure (.done (some (s.2.1++p.extract s.2.2.1++q.extract s.2.2.2.1),s.2.1,s.2.2.1,s.2.2.2.1,s.2.2.2.2.1,s.2.2.2.2.2))
noncomputable def U6 (p q:Array Za)(s:Option (Array Za)×RO):StateT ZM Sem (ForInStep (Option (Array Za)×RO)):=do
 let s1 <- forIn [:p.size+q.size] ((none,s.2.1,s.2.2.1,s.2.2.2.1,0,0):Option (Array Za)×RI) λ_ r=>Rk p q s.2.2.2.2 r
 match s1.1 with
 |some r=>pure (.done (some r,s1.2.1,s1.2.2.1,s1.2.2.2.1,s.2.2.2.2))
 |none=>do
  liftM (rule "list.sort.gallop")
  let s2 <- forIn [:p.size+q.size] ((none,s1.2.1,s1.2.2.1,s1.2.2.2.1,s.2.2.2.2+1,s1.2.2.2.2.1,s1.2.2.2.2.2):Option (Array Za)×RG) λ_ r=>Ww p q r
  match s2.1 with
  |some r=>pure (.done (some r,s2.2.1,s2.2.2.1,s2.2.2.2.1,s2.2.2.2.2.1))
  |none=>do
   modify λst=>c7 st (s2.2.2.2.2.1+1)
   pure (.yield (none,s2.2.1,s2.2.2.1,s2.2.2.2.1,s2.2.2.2.2.1+1))
theorem ub (p q:Array Za):jY p q=(do
  liftM (rule "list.sort.merge-lo")
  let y <- elem' q 0
  if (1==q.size)=true then pure (#[y]++p.extract 0++q.extract 1)
  else if (0+1==p.size)=true then pure (#[y]++q.extract 1++p.extract 0)
  else do
   let st <- get
   let s <- forIn [:p.size+q.size] ((none,#[y],0,1,gallopOf st):Option (Array Za)×RO) λ_ s=>U6 p q s
   match s.1 with
   |some r=>pure r
   |none=>liftM (unsupported "internal:list.sort.merge-bound" : Sem (Array Za))):=by
 rw[ua];dsimp only;refine congrArg (bind _) (funext λ_=>?_);refine congrArg (bind _) (funext λy=>?_);refine congrArg (ite _ _) (congrArg (ite _ _) ?_);refine congrArg (bind _) (funext λy=>?_);refine congr (congrArg bind (congrArg _ (funext λ_=>funext λs=>?_))) (funext λs=>?_)
 ·refine congr (congrArg bind (congrArg _ (funext λ_=>funext λs=>?_))) (funext λs=>?_)
  ·rfl
  ·cases s.1
   ·refine congrArg (bind _) (funext λ_=>?_);refine congr (congrArg bind (congrArg _ (funext λ_=>funext λs=>?_))) (funext λs=>?_)
    ·rfl
    ·cases s.1 <;> rfl
   ·rfl
 ·cases s.1 <;> rfl
section
variable {prog:Y7}{w:Zj}{A:Z0}{E:Y1->Y4->Prop}{s:Y4}{κ:abA}{c:Za->Za->Bool}{S:Za->Prop}{p q:Array Za}
def AU {st:ZM}{Q:ForInStep (Option (Array Za)×RG)->ZM->Prop}{t:Array Za}{i j mg m n:Nat}(O:cW c)(sp:SR c p 0 p.size)(sq:SR c q 0 q.size)(hl:∀y,y<q.size->c (el q y) (el p (p.size-1))=true)(m3:Mg c p q t.toList i j)(hi:i+1<p.size)(g3:∀y,j<=y->y<q.size->le c (el p i) (el q y))
  (hd:∀out r,Gd c p q out.toList->Q (.done (some out,r)) st) (hn:∀t' m n,Mg c p q t'.toList (i+1) j->i+1+1<p.size->Q (.done (none,t',i+1,j,mg,m,n)) st/\Q (.yield (none,t',i+1,j,mg,m,n)) st):wpS (model prog w) A E s (Rl p q t i j mg m n) Q st:=by
 refine Zf (aX (by lia) ?_)
 have m4:Mg c p q (t.push (el p i)).toList (i+1) j:=by
  rw[abj];exact m3.lP (by lia) sp g3
 by_cases e5:(i+1+1==p.size)=true
 ·rw[if_pos e5];exact Zm (hd _ _ (m4.tail O sp sq (by simpa using e5) hl))
 rw[if_neg e5];have h5:i+1+1≠p.size:=by simpa using e5
 obtain⟨h6,h7⟩:=hn (t.push (el p i)) m n m4 (by lia)
 split
 ·exact Zm h6
 ·exact Zm h7
def AV {st:ZM}{Q:ForInStep (Option (Array Za)×RG)->ZM->Prop}{t:Array Za}{i j mg m n:Nat}(O:cW c)(L:gN prog w A E s κ c S)(hk:kindOf st=κ)(Sp:∀i,i<p.size->S (el p i))(Sq:∀i,i<q.size->S (el q i))(sp:SR c p 0 p.size)(sq:SR c q 0 q.size)(hl:∀y,y<q.size->c (el q y) (el p (p.size-1))=true)(m1:Mg c p q t.toList i j)(hi:i+1<p.size)(hj:j<q.size)(g1:∀y,i<=y->y<p.size->le c (el q j) (el p y))
  (hd:∀out r,Gd c p q out.toList->Q (.done (some out,r)) st) (hn:∀t' j' m n,Mg c p q t'.toList (i+1) j'->i+1+1<p.size->j<j'->j'<q.size->Q (.done (none,t',i+1,j',mg,m,n)) st/\Q (.yield (none,t',i+1,j',mg,m,n)) st):wpS (model prog w) A E s (Rm p q t i j mg m n) Q st:=by
 refine Zf (aX hj ?_);have m2:Mg c p q (t.push (el q j)).toList i (j+1):=by
  rw[abj];exact m1.lO hj sq g1
 by_cases e3:(j+1==q.size)=true
 ·rw[if_pos e3];exact Zm (hd _ _ (m2.done sp sq (.inr (by simpa using e3))))
 rw[if_neg e3];have h3:j+1≠q.size:=by simpa using e3
 refine Zf (aX (by lia) (Zf (eP O L hk (Sp _ (by lia)) (λx hx=>Sq _ (by lia)) (by lia) (λa b h1 h2 h3=>sq a b (by lia) h2 (by lia)) (by lia) λk k1 k2 k3=>?_)))
 have g3:∀y,j+1+k<=y->y<q.size->le c (el p i) (el q y):=λy h1 h2=>by
  have:=k3 (y-(j+1)) (by lia) (by lia)
  unfold fo at this;rw[if_pos rfl,show j+1+(y-(j+1))=y by lia]at this
  exact this
 dsimp only
 by_cases CW:k>0
 ·rw[if_pos CW];have m3:Mg c p q (t.push (el q j)++q.extract (j+1) (j+1+k)).toList i (j+1+k):=by
   rw[yB];exact m2.jB sq k (by lia) λx hx y h1 h2=>O.trans (O.of_lt (show c (el q (j+1+x)) (el p i)=true from k2 x hx)) (sp _ y (by lia) h1 h2)
  by_cases e4:(j+1+k==q.size)=true
  ·rw[if_pos e4];exact Zm (hd _ _ (m3.done sp sq (.inr (by simpa using e4))))
  rw[if_neg e4];have h4:j+1+k≠q.size:=by simpa using e4
  exact AU O sp sq hl m3 hi g3 hd λt' m n h1 h2=>hn t' _ m n h1 h2 (by lia) (by lia)
 ·rw[if_neg CW];exact AU O sp sq hl m2 hi (λy h1 h2=>g3 y (by lia) h2) hd λt' m n h1 h2=>hn t' _ m n h1 h2 (by lia) (by lia)
def Iv {st:ZM}{Q:ForInStep (Option (Array Za)×RG)->ZM->Prop}{t:Array Za}{i j mg m n:Nat}(O:cW c)(L:gN prog w A E s κ c S)(hk:kindOf st=κ)(Sp:∀i,i<p.size->S (el p i))(Sq:∀i,i<q.size->S (el q i))(sp:SR c p 0 p.size)(sq:SR c q 0 q.size)(hl:∀y,y<q.size->c (el q y) (el p (p.size-1))=true)(m0:Mg c p q t.toList i j)(hi:i+1<p.size)(hj:j<q.size)
  (hd:∀out r,Gd c p q out.toList->Q (.done (some out,r)) (c7 st mg)) (hn:∀t' i' j' m n,Mg c p q t'.toList i' j'->i'+1<p.size->j'<q.size->i+j<i'+j'->Q (.done (none,t',i',j',mg,m,n)) (c7 st mg)/\Q (.yield (none,t',i',j',mg,m,n)) (c7 st mg)):wpS (model prog w) A E s (Nm p q t i j mg m n) Q st:=by
 refine Zf (abl (Zf (aX hj (Zf (eP O L hk (Sq _ hj) (λx hx=>Sp _ (by lia)) (by lia) (λa b h1 h2 h3=>sp a b (by lia) h2 (by lia)) (by lia) λk k1 k2 k3=>?_)))))
 have g0:∀x,x<k->le c (el p (i+x)) (el q j):=λx hx=>by
  have:=k2 x hx;unfold fo at this;rw[if_neg (by simp),abU]at this
  exact this
 have g1:∀y,i+k<=y->y<p.size->le c (el q j) (el p y):=λy h1 h2=>by
  have:=k3 (y-i) (by lia) (by lia)
  unfold fo at this;rw[if_neg (by simp),Bool.not_eq_false',show i+(y-i)=y by lia]at this
  exact O.of_lt this
 have YL:i+k<p.size:=by
  rcases acb (i+k) p.size with dE|Vq
  ·exact dE
  ·have h1:=g0 (p.size-1-i) (by lia)
   rw[show i+(p.size-1-i)=p.size-1 by lia]at h1
   exact absurd ((hl j hj).symm.trans h1) (by simp)
 dsimp only
 by_cases CW:k>0
 ·rw[if_pos CW];have m1:Mg c p q (t++p.extract i (i+k)).toList (i+k) j:=by
   rw[yB];exact m0.jC sp k (by lia) λx hx y h1 h2=>O.trans (g0 x hx) (sq j y (by lia) h1 h2)
  by_cases e1:(i+k+1==p.size)=true
  ·rw[if_pos e1];exact Zm (hd _ _ (m1.tail O sp sq (by simpa using e1) hl))
  rw[if_neg e1];have zT:i+k+1≠p.size:=by simpa using e1
  rw[if_neg (by simp;lia)]
  exact AV O L hk Sp Sq sp sq hl m1 (by lia) hj g1 hd λt' j' m n h1 h2 h3 h4=>hn t' _ j' m n h1 h2 h4 (by lia)
 ·rw[if_neg CW];exact AV O L hk Sp Sq sp sq hl m0 hi hj (λy h1 h2=>g1 y (by lia) h2) hd λt' j' m n h1 h2 h3 h4=>hn t' _ j' m n h1 h2 h4 (by lia)
def Iu {st:ZM}{Q:ForInStep (Option (Array Za)×RI)->ZM->Prop}{t:Array Za}{i j mg ma na:Nat}(O:cW c)(L:gN prog w A E s κ c S)(hk:kindOf st=κ)(Sp:∀i,i<p.size->S (el p i))(Sq:∀i,i<q.size->S (el q i))(sp:SR c p 0 p.size)(sq:SR c q 0 q.size)(hl:∀y,y<q.size->c (el q y) (el p (p.size-1))=true)(m:Mg c p q t.toList i j)(hi:i+1<p.size)(hj:j<q.size)
  (hd:∀out r,Gd c p q out.toList->Q (.done (some out,r)) st) (hn:∀t' i' j' m n,Mg c p q t'.toList i' j'->i'+1<p.size->j'<q.size->i+j<i'+j'->Q (.done (none,t',i',j',m,n)) st/\Q (.yield (none,t',i',j',m,n)) st):wpS (model prog w) A E s (Rk p q mg (none,t,i,j,ma,na)) Q st:=by
 unfold Rk Nl Nk;dsimp only;refine Zf (aX hj (Zf (aX (by lia) (Zf (L _ _ st _ (Sq _ hj) (Sp _ (by lia)) hk ?_)))))
 dsimp only;cases hc:c (el q j) (el p i)with
 |true =>
  rw[if_pos rfl];refine Zf (aX hj ?_);have m1:Mg c p q (t.push (el q j)).toList i (j+1):=by
   rw[abj];exact m.lO hj sq λk h1 h2=>O.trans (O.of_lt hc) (sp i k (by lia) h1 h2)
  by_cases e3:(j+1==q.size)=true
  ·rw[if_pos e3];exact Zm (hd _ _ (m1.done sp sq (.inr (by simpa using e3))))
  rw[if_neg e3];have h3:j+1≠q.size:=by simpa using e3
  obtain⟨h6,h7⟩:=hn _ _ _ 0 (na+1) m1 hi (by lia) (by lia)
  split
  ·exact Zm h6
  ·exact Zm h7
 |false =>
  rw[if_neg (by simp)]
  refine Zf (aX (by lia) ?_)
  have m1:Mg c p q (t.push (el p i)).toList (i+1) j:=by
   rw[abj];exact m.lP (by lia) sp λk h1 h2=>O.trans (show le c (el p i) (el q j) from hc) (sq j k (by lia) h1 h2)
  by_cases e3:(i+1+1==p.size)=true
  ·rw[if_pos e3];exact Zm (hd _ _ (m1.tail O sp sq (by simpa using e3) hl))
  rw[if_neg e3];have h3:i+1+1≠p.size:=by simpa using e3
  obtain⟨h6,h7⟩:=hn _ _ _ (ma+1) 0 m1 (by lia) hj (by lia)
  split
  ·exact Zm h6
  ·exact Zm h7
def vA (O:cW c)(L:gN prog w A E s κ c S){Q:Array Za->ZM->Prop}{st:ZM}(hk:kindOf st=κ)(Sp:∀i,i<p.size->S (el p i))(Sq:∀i,i<q.size->S (el q i))(sp:SR c p 0 p.size)(sq:SR c q 0 q.size)
  (hp:0<p.size) (hq:0<q.size) (hf:c (el q 0) (el p 0)=true) (hl:∀y,y<q.size->c (el q y) (el p (p.size-1))=true) (h:∀to aG,lH st aG->Gd c p q to.toList->Q to aG) :
  wpS (model prog w) A E s (jY p q) Q st:=by
 rw[ub];refine Zf (wpS_lift (abm {rfl,?_}));refine Zf (aX hq ?_);have m0:Mg c p q (#[el q 0]:Array Za).toList 0 1:=Mg.start O sp sq hq hp hf
 by_cases h1:(1==q.size)=true
 ·rw[if_pos h1];exact Zm (h _ st (lH.refl st) (m0.done sp sq (.inr (by simpa using h1))))
 rw[if_neg h1]
 by_cases h2:(0+1==p.size)=true
 ·rw[if_pos h2];exact Zm (h _ st (lH.refl st) (m0.tail O sp sq (by simpa using h2) hl))
 rw[if_neg h2];refine Zf (ack ?_);refine Zf (aaJ (aac
  (I:=λx r aG=>lH st aG/\∃to i j mg,r=(none,to,i,j,mg)/\Mg c p q to.toList i j/\i+1<p.size/\j<q.size/\x<i+j)
  (Q:=λr aG=>lH st aG/\∃out r',r=(some out,r')/\Gd c p q out.toList) ?_ ?_ ?_) ?_)
 ·rintro x r aG _ hx ⟨e,to,i,j,mg,rfl,m,hi,hj,hb⟩;unfold U6;dsimp only;refine Zf (aaJ (aac
   (I:=λy r aG=>lH st aG/\∃to i j m n,r=(none,to,i,j,m,n)/\Mg c p q to.toList i j/\i+1<p.size/\j<q.size/\x+min y 1<i+j)
   (Q:=λr aG=>lH st aG/\((∃out r',r=(some out,r')/\Gd c p q out.toList)\/∃to i j m n,r=(none,to,i,j,m,n)/\Mg c p q to.toList i j/\i+1<p.size/\j<q.size/\x+1<i+j)) ?_ ?_ ?_) ?_)
  ·rintro y r gP _ hy ⟨e2,to,i,j,ma,na,rfl,m,hi,hj,hb⟩;exact Iu O L (e2.kind.trans hk) Sp Sq sp sq hl m hi hj (λout r h=>{e2,.inl {_,_,rfl,h}}) λt' i' j' m n h1 h2 h3 h4=>{{e2,.inr {_,_,_,_,_,rfl,h1,h2,h3,by lia}},{e2,_,_,_,_,_,rfl,h1,h2,h3,by lia}}
  ·rintro r gP ⟨e2,to,i,j,ma,na,rfl,m,hi,hj,hb⟩;exact{e2,.inr {_,_,_,_,_,rfl,m,hi,hj,by lia}}
  ·exact{e,_,_,_,_,_,rfl,m,hi,hj,by lia}
  rintro r gP ⟨e2,⟨out,r',rfl,g⟩|⟨to,i,j,ma,na,rfl,m,hi,hj,hb⟩⟩
  ·exact Zm {e2,_,_,rfl,g}
  dsimp only;refine Zf (wpS_lift (abm {rfl,?_}));refine Zf (aaJ (aac
   (I:=λy r aG=>lH st aG/\∃to i j mg m n,r=(none,to,i,j,mg,m,n)/\Mg c p q to.toList i j/\i+1<p.size/\j<q.size/\x+1<i+j)
   (Q:=λr aG=>lH st aG/\((∃out r',r=(some out,r')/\Gd c p q out.toList)\/∃to i j mg m n,r=(none,to,i,j,mg,m,n)/\Mg c p q to.toList i j/\i+1<p.size/\j<q.size/\x+1<i+j)) ?_ ?_ ?_) ?_)
  ·rintro y r gP _ hy ⟨e2,to,i,j,mg,ma,na,rfl,m,hi,hj,hb⟩;show wpS (model prog w) A E s (if mg>1 then Nm p q to i j (mg-1) ma na else Nm p q to i j mg ma na) _ gP
   split <;> exact Iv O L (e2.kind.trans hk) Sp Sq sp sq hl m hi hj (λout r h=>{e2.HJ _,.inl {_,_,rfl,h}}) λt' i' j' m n h1 h2 h3 h4=>{{e2.HJ _,.inr {_,_,_,_,_,_,rfl,h1,h2,h3,by lia}},{e2.HJ _,_,_,_,_,_,_,rfl,h1,h2,h3,by lia}}
  ·rintro r gP ⟨e2,to,i,j,mg,ma,na,rfl,m,hi,hj,hb⟩;exact{e2,.inr {_,_,_,_,_,_,rfl,m,hi,hj,hb}}
  ·exact{e2,_,_,_,_,_,_,rfl,m,hi,hj,hb}
  rintro r gP ⟨e2,⟨out,r',rfl,g⟩|⟨to,i,j,mg,ma,na,rfl,m,hi,hj,hb⟩⟩
  ·exact Zm {e2,_,_,rfl,g}
  dsimp only;refine Zf (abl (Zm {e2.HJ _,_,_,_,_,rfl,m,hi,hj,by lia}))
 ·rintro r aG ⟨e,to,i,j,mg,rfl,m,hi,hj,hb⟩
  exfalso
  rw[show max 0 (p.size+q.size)=p.size+q.size by lia]at hb
  lia
 ·exact{lH.refl st,_,_,_,_,rfl,m0,by simp at h2;lia,by simp at h1;lia,by lia}
 ·rintro r aG ⟨e,out,r',rfl,g⟩;exact Zm (h _ aG e g)
end
section
variable {c:Za->Za->Bool}{p q:Array Za}{t:List Za}{i j:Nat}
structure Mh (c:Za->Za->Bool)(p q:Array Za)(t:List Za)(i j:Nat):Prop where
 hi:i<=p.size
 hj:j<=q.size
 perm:t.Perm (p.toList.drop i++q.toList.drop j)
 lM:t.Pairwise (le c)
 ap:∀x∈t,∀k,k<i->le c (el p k) x
 aq:∀x∈t,∀k,k<j->le c (el q k) x
def qF {a:Array Za}{i:Nat}(h0:0<i)(h:i<=a.size):a.toList.drop (i-1)=el a (i-1)::a.toList.drop i:=by
 rw[yo (by lia),show i-1+1=i by lia]
def Mh.lP (m:Mh c p q t i j)(h0:0<i)(sp:SR c p 0 p.size)(hle:∀k,k<j->le c (el q k) (el p (i-1))):Mh c p q (el p (i-1)::t) (i-1) j where
 hi:=by have:=m.hi;lia
 hj:=m.hj
 perm:=by
  rw[qF h0 m.hi];exact m.perm.cons _
 lM:=aan.mpr {λx hx=>m.ap x hx _ (by lia),m.lM}
 ap:=λx hx k hk=>by
  rcases Y6.mp hx with rfl|h
  ·exact sp k (i-1) (by lia) (by lia) (by have:=m.hi;lia)
  ·exact m.ap x h k (by lia)
 aq:=λx hx k hk=>by
  rcases Y6.mp hx with rfl|h
  ·exact hle k hk
  ·exact m.aq x h k hk
def Mh.lO (m:Mh c p q t i j)(h0:0<j)(sq:SR c q 0 q.size)(hle:∀k,k<i->le c (el p k) (el q (j-1))):Mh c p q (el q (j-1)::t) i (j-1) where
 hi:=m.hi
 hj:=by have:=m.hj;lia
 perm:=by
  rw[qF h0 m.hj];exact(m.perm.cons _).trans List.perm_middle.symm
 lM:=aan.mpr {λx hx=>m.aq x hx _ (by lia),m.lM}
 ap:=λx hx k hk=>by
  rcases Y6.mp hx with rfl|h
  ·exact hle k hk
  ·exact m.ap x h k hk
 aq:=λx hx k hk=>by
  rcases Y6.mp hx with rfl|h
  ·exact sq k (j-1) (by lia) (by lia) (by have:=m.hj;lia)
  ·exact m.aq x h k (by lia)
def pF {a:Array Za}{i k:Nat}(h0:k<i)(h:i<=a.size):(a.toList.drop (i-(k+1))).take (k+1)=el a (i-(k+1))::(a.toList.drop (i-k)).take k:=by
 rw[yo (by lia),show i-(k+1)+1=i-k by lia,List.take_succ_cons]
theorem Mh.Bg (m:Mh c p q t i j)(sp:SR c p 0 p.size):∀(k:Nat),k<=i->(∀x,i-k<=x->x<i->∀y,y<j->le c (el q y) (el p x))->Mh c p q ((p.toList.drop (i-k)).take k++t) (i-k) j
 |0,_,_=>by simpa using m
 |k+1,h,hle=>by
  have m':=Mh.Bg m sp k (by lia) λx h1 h2=>hle x (by lia) h2
  rw[pF (by lia) m.hi,aa4]
  exact m'.lP (by lia) sp λy hy=>hle _ (by lia) (by lia) y hy
theorem Mh.Bf (m:Mh c p q t i j)(sq:SR c q 0 q.size):∀(k:Nat),k<=j->(∀x,j-k<=x->x<j->∀y,y<i->le c (el p y) (el q x))->Mh c p q ((q.toList.drop (j-k)).take k++t) i (j-k)
 |0,_,_=>by simpa using m
 |k+1,h,hle=>by
  have m':=Mh.Bf m sq k (by lia) λx h1 h2=>hle x (by lia) h2
  rw[pF (by lia) m.hj,aa4]
  exact m'.lO (by lia) sq λy hy=>hle _ (by lia) (by lia) y hy
def Mh.jC (m:Mh c p q t i j)(sp:SR c p 0 p.size){h:Nat}(hh:h<=i)(hle:∀x,h<=x->x<i->∀y,y<j->le c (el q y) (el p x)):Mh c p q ((p.toList.drop h).take (i-h)++t) h j:=by
 have m':=m.Bg sp (i-h) (by lia) λx h1 h2=>hle x (by lia) h2
 rw[show i-(i-h)=h by lia]at m'
 exact m'
def Mh.jB (m:Mh c p q t i j)(sq:SR c q 0 q.size){h:Nat}(hh:h<=j)(hle:∀x,h<=x->x<j->∀y,y<i->le c (el p y) (el q x)):Mh c p q ((q.toList.drop h).take (j-h)++t) i h:=by
 have m':=m.Bf sq (j-h) (by lia) λx h1 h2=>hle x (by lia) h2
 rw[show j-(j-h)=h by lia]at m'
 exact m'
def Mh.full (m:Mh c p q t 0 0):Gd c p q t:={(m.perm),m.lM}
def MV (a b to:Array Za)(i j:Nat):(a.extract 0 i++b.extract 0 j++to.reverse).toList=(a.toList.drop 0).take (i-0)++((b.toList.drop 0).take (j-0)++to.toList.reverse):=by
 rw[aaB,aaB,cU,cU,Array.toList_reverse,Z8]
def Mh.done {to:Array Za}(m:Mh c p q to.toList.reverse i j)(sp:SR c p 0 p.size)(sq:SR c q 0 q.size)(h:i=0\/j=0):Gd c p q (p.extract 0 i++q.extract 0 j++to.reverse).toList:=by
 rw[MV];rcases h with rfl|rfl
 ·have m':=m.jB sq (h:=0) (Zn _) λx _ _ y hy=>by lia
  exact(m'.jC sp (h:=0) (Zn _) λx _ hx=>by lia).full
 ·have m':=m.jB sq (h:=0) (Zn _) λx _ hx=>by lia
  exact(m'.jC sp (h:=0) (Zn _) λx _ hx y hy=>by lia).full
def Mh.tail {to:Array Za}(O:cW c)(m:Mh c p q to.toList.reverse i j)(sp:SR c p 0 p.size)(sq:SR c q 0 q.size)(h:j=1)(hf:c (el q 0) (el p 0)=true):Gd c p q (q.extract 0 j++p.extract 0 i++to.reverse).toList:=by
 rw[MV];subst h;have m':=m.jC sp (h:=0) (Zn _) λx _ hx y hy=>by
  obtain rfl:y=0:=by lia
  exact O.trans (O.of_lt hf) (sp 0 x (by lia) (by lia) (by have:=m.hi;lia))
 exact(m'.jB sq (h:=0) (Zn _) λx _ _ y hy=>by lia).full
def jK (to:Array Za)(x:Za):(to.push x).toList.reverse=x::to.toList.reverse:=by
 rw[abj,ab_];rfl
def yA (to a:Array Za)(h i:Nat):(to++(a.extract h i).reverse).toList.reverse=(a.toList.drop h).take (i-h)++to.toList.reverse:=by
 rw[aaB,ab_,Array.toList_reverse,List.reverse_reverse,cU]
def Mh.start (sp:SR c p 0 p.size)(O:cW c)(hp:0<p.size)(hl:∀y,y<q.size->c (el q y) (el p (p.size-1))=true):Mh c p q [el p (p.size-1)] (p.size-1) q.size:=by
 have m:Mh c p q [] p.size q.size:={Y8 _,Y8 _,by rw[aaz (by simp),aaz (by simp)];exact .refl _,.nil,(λx hx=>by cases hx),(λx hx=>by cases hx)}
 exact m.lP hp sp λk hk=>O.of_lt (hl k hk)
end
abbrev RJ:=Nat×Nat×Array Za×Nat×Nat
abbrev RH:=Nat×Nat×Array Za×Nat×Nat×Nat
abbrev RP:=Nat×Nat×Array Za×Nat
noncomputable def Td (p q t:Array Za)(i j mg m n:Nat):StateT ZM Sem (ForInStep (Option (Array Za)×RH)):=do
 let z <- elem' p (i-1)
 if (i-1==0)=true then pure (.done (some (p.extract 0 (i-1)++q.extract 0 j++(t.push z).reverse),i-1,j,t.push z,mg,m,n))
 else if (decide (m<7)&&decide (n<7))=true then pure (.done (none,i-1,j,t.push z,mg,m,n)) else pure (.yield (none,i-1,j,t.push z,mg,m,n))
noncomputable def Te (p q t:Array Za)(i j mg m n:Nat):StateT ZM Sem (ForInStep (Option (Array Za)×RH)):=do
 let y <- elem' q (j-1)
 if (j-1==1)=true then pure (.done (some (q.extract 0 (j-1)++p.extract 0 i++(t.push y).reverse),i,j-1,t.push y,mg,m,n))
 else do
  let x <- elem' p (i-1)
  let r <- c6 true x q 0 (j-1) (j-1-1)
  match r with
  |some h=>if j-1-h>0 then (if (h==1)=true then pure (.done (some (q.extract 0 h++p.extract 0 i++(t.push y++(q.extract h (j-1)).reverse).reverse),i,h,t.push y++(q.extract h (j-1)).reverse,mg,m,j-1-h))
    else if (h==0)=true then pure (.done (some (p.extract 0 i++q.extract 0 h++(t.push y++(q.extract h (j-1)).reverse).reverse),i,h,t.push y++(q.extract h (j-1)).reverse,mg,m,j-1-h))
    else Td p q (t.push y++(q.extract h (j-1)).reverse) i h mg m (j-1-h)) else Td p q (t.push y) i (j-1) mg m (j-1-h)
  |_=>pure (.done (some (p.extract 0 i++q.extract 0 (j-1)++(t.push y).reverse),i,j-1,t.push y,mg,m,n))
noncomputable def Oz (p q t:Array Za)(i j mg m n:Nat):StateT ZM Sem (ForInStep (Option (Array Za)×RH)):=do
 modify λst=>c7 st mg
 let y <- elem' q (j-1)
 let r <- c6 false y p 0 i (i-1)
 match r with
 |some h=>if i-h>0 then (if (h==0)=true then pure (.done (some (p.extract 0 h++q.extract 0 j++(t++(p.extract h i).reverse).reverse),h,j,t++(p.extract h i).reverse,mg,i-h,n))
   else Te p q (t++(p.extract h i).reverse) h j mg (i-h) n) else Te p q t i j mg (i-h) n
 |_=>pure (.done (some (p.extract 0 i++q.extract 0 j++t.reverse),i,j,t,mg,m,n))
def Xe (p q:Array Za)(s:Option (Array Za)×RH):StateT ZM Sem (ForInStep (Option (Array Za)×RH)):=if s.2.2.2.2.1>1 then Oz p q s.2.2.2.1 s.2.1 s.2.2.1 (s.2.2.2.2.1-1) s.2.2.2.2.2.1 s.2.2.2.2.2.2 else Oz p q s.2.2.2.1 s.2.1 s.2.2.1 s.2.2.2.2.1 s.2.2.2.2.2.1 s.2.2.2.2.2.2
noncomputable def Tc (p q t:Array Za)(mg i j m:Nat):StateT ZM Sem (ForInStep (Option (Array Za)×RJ)):=do
 let x <- elem' p (i-1)
 if (i-1==0)=true then pure (.done (some (p.extract 0 (i-1)++q.extract 0 j++(t.push x).reverse),i-1,j,t.push x,m+1,0))
 else if m+1 >= mg then pure (.done (none,i-1,j,t.push x,m+1,0)) else pure (.yield (none,i-1,j,t.push x,m+1,0))
noncomputable def Tb (p q t:Array Za)(mg i j n:Nat):StateT ZM Sem (ForInStep (Option (Array Za)×RJ)):=do
 let y <- elem' q (j-1)
 if (j-1==1)=true then pure (.done (some (q.extract 0 (j-1)++p.extract 0 i++(t.push y).reverse),i,j-1,t.push y,0,n+1))
 else if n+1 >= mg then pure (.done (none,i,j-1,t.push y,0,n+1)) else pure (.yield (none,i,j-1,t.push y,0,n+1))
noncomputable def Vo (p q t:Array Za)(mg i j m n:Nat):StateT ZM Sem (ForInStep (Option (Array Za)×RJ)):=do
 let y <- elem' q (j-1)
 let x <- elem' p (i-1)
 let r <- lt' y x
 match r with
 |some IA=>if IA=true then Tc p q t mg i j m else Tb p q t mg i j n
 |_=>pure (.done (some (p.extract 0 i++q.extract 0 j++t.reverse),i,j,t,m,n))
noncomputable def Vn (p q:Array Za)(s:Option (Array Za)×RP):StateT ZM Sem (ForInStep (Option (Array Za)×RP)):=do
 let s1 <- forIn [:p.size+q.size] ((none,s.2.1,s.2.2.1,s.2.2.2.1,0,0):Option (Array Za)×RJ) λ_ r=>Vo p q r.2.2.2.1 s.2.2.2.2 r.2.1 r.2.2.1 r.2.2.2.2.1 r.2.2.2.2.2
 match s1.1 with
 |some r=>pure (.done (some r,s1.2.1,s1.2.2.1,s1.2.2.2.1,s.2.2.2.2))
 |none=>do
  liftM (rule "list.sort.gallop")
  let s2 <- forIn [:p.size+q.size] ((none,s1.2.1,s1.2.2.1,s1.2.2.2.1,s.2.2.2.2+1,s1.2.2.2.2.1,s1.2.2.2.2.2):Option (Array Za)×RH) λ_ r=>Xe p q r
  match s2.1 with
  |some r=>pure (.done (some r,s2.2.1,s2.2.2.1,s2.2.2.2.1,s2.2.2.2.2.1))
  |none=>do
   modify λst=>c7 st (s2.2.2.2.2.1+1)
   pure (.yield (none,s2.2.1,s2.2.2.1,s2.2.2.2.1,s2.2.2.2.2.1+1))
theorem ud (p q:Array Za):jZ p q=(do
  liftM (rule "list.sort.merge-hi")
  let y <- elem' p (p.size-1)
  if (p.size-1==0)=true then pure (p.extract 0 (p.size-1)++q.extract 0++#[y].reverse)
  else if (q.size==1)=true then pure (q.extract 0++p.extract 0 (p.size-1)++#[y].reverse)
  else do
   let st <- get
   let s <- forIn [:p.size+q.size] ((none,p.size-1,q.size,#[y],gallopOf st):Option (Array Za)×RP) λ_ s=>Vn p q s
   match s.1 with
   |some r=>pure r
   |none=>liftM (unsupported "internal:list.sort.merge-bound" : Sem (Array Za))):=by
 rw[uc];dsimp only;refine congrArg (bind _) (funext λ_=>?_);refine congrArg (bind _) (funext λy=>?_);refine congrArg (ite _ _) (congrArg (ite _ _) ?_);refine congrArg (bind _) (funext λy=>?_);refine congr (congrArg bind (congrArg _ (funext λ_=>funext λs=>?_))) (funext λs=>?_)
 ·refine congr (congrArg bind (congrArg _ (funext λ_=>funext λs=>?_))) (funext λs=>?_)
  ·rfl
  ·cases s.1
   ·refine congrArg (bind _) (funext λ_=>?_);refine congr (congrArg bind (congrArg _ (funext λ_=>funext λs=>?_))) (funext λs=>?_)
    ·rfl
    ·cases s.1 <;> rfl
   ·rfl
 ·cases s.1 <;> rfl
section
variable {prog:Y7}{w:Zj}{A:Z0}{E:Y1->Y4->Prop}{s:Y4}{κ:abA}{c:Za->Za->Bool}{S:Za->Prop}{p q:Array Za}
def AW {st:ZM}{Q:ForInStep (Option (Array Za)×RH)->ZM->Prop}{t:Array Za}{i j mg m n:Nat}(sp:SR c p 0 p.size)(sq:SR c q 0 q.size)(m3:Mh c p q t.toList.reverse i j)(hi:0<i)(g3:∀k,k<j->le c (el q k) (el p (i-1)))
  (hd:∀out r,Gd c p q out.toList->Q (.done (some out,r)) st) (hn:∀t' m n,Mh c p q t'.toList.reverse (i-1) j->0<i-1->Q (.done (none,i-1,j,t',mg,m,n)) st/\Q (.yield (none,i-1,j,t',mg,m,n)) st):wpS (model prog w) A E s (Td p q t i j mg m n) Q st:=by
 have fe:=m3.hi;refine Zf (aX (by lia) ?_)
 have m4:Mh c p q (t.push (el p (i-1))).toList.reverse (i-1) j:=by
  rw[jK];exact m3.lP hi sp g3
 by_cases e5:(i-1==0)=true
 ·rw[if_pos e5];exact Zm (hd _ _ (m4.done sp sq (.inl (by simpa using e5))))
 rw[if_neg e5];have h5:i-1≠0:=by simpa using e5
 obtain⟨h6,h7⟩:=hn (t.push (el p (i-1))) m n m4 (by lia)
 split
 ·exact Zm h6
 ·exact Zm h7
def AX {st:ZM}{Q:ForInStep (Option (Array Za)×RH)->ZM->Prop}{t:Array Za}{i j mg m n:Nat}(O:cW c)(L:gN prog w A E s κ c S)(hk:kindOf st=κ)(Sp:∀i,i<p.size->S (el p i))(Sq:∀i,i<q.size->S (el q i))(sp:SR c p 0 p.size)(sq:SR c q 0 q.size)(hf:c (el q 0) (el p 0)=true)(m1:Mh c p q t.toList.reverse i j)(hi:0<i)(hj:1<j)(g1:∀x,x<i->le c (el p x) (el q (j-1)))
  (hd:∀out r,Gd c p q out.toList->Q (.done (some out,r)) st) (hn:∀t' j' m n,Mh c p q t'.toList.reverse (i-1) j'->0<i-1->1<j'->j'<j->Q (.done (none,i-1,j',t',mg,m,n)) st/\Q (.yield (none,i-1,j',t',mg,m,n)) st):wpS (model prog w) A E s (Te p q t i j mg m n) Q st:=by
 have mi:=m1.hi;have mj:=m1.hj;refine Zf (aX (by lia) ?_)
 have m2:Mh c p q (t.push (el q (j-1))).toList.reverse i (j-1):=by
  rw[jK];exact m1.lO (by lia) sq g1
 by_cases e3:(j-1==1)=true
 ·rw[if_pos e3];exact Zm (hd _ _ (m2.tail O sp sq (by simpa using e3) hf))
 rw[if_neg e3];have h3:j-1≠1:=by simpa using e3
 refine Zf (aX (by lia) (Zf (eP O L hk (Sp _ (by lia)) (λx hx=>Sq _ (by lia)) (by lia) (λa b h1 h2 h3=>sq a b (by lia) h2 (by lia)) (by lia) λh k1 k2 k3=>?_)))
 have g2:∀x,x<h->c (el q x) (el p (i-1))=true:=λx hx=>by
  have:=k2 x hx;unfold fo at this;rw[if_pos rfl,Nat.zero_add]at this;exact this
 have g4:∀x,h<=x->x<j-1->le c (el p (i-1)) (el q x):=λx h1 h2=>by
  have:=k3 x h1 h2;unfold fo at this;rw[if_pos rfl,Nat.zero_add]at this;exact this
 have hh:0<h:=by
  rcases Nat.eq_zero_or_pos h with z|z
  ·subst z;have h2:=O.trans (sp 0 (i-1) (by lia) (by lia) (by lia)) (g4 0 (Y8 _) (by lia))
   exact absurd (hf.symm.trans h2) (by simp)
  ·exact z
 dsimp only
 by_cases CW:j-1-h>0
 ·rw[if_pos CW];have m3:Mh c p q (t.push (el q (j-1))++(q.extract h (j-1)).reverse).toList.reverse i h:=by
   rw[yA];exact m2.jB sq k1 λx h1 h2 y hy=>O.trans (sp y (i-1) (by lia) (by lia) (by lia)) (g4 x h1 h2)
  by_cases e4:(h==1)=true
  ·rw[if_pos e4];exact Zm (hd _ _ (m3.tail O sp sq (by simpa using e4) hf))
  rw[if_neg e4];have h4:h≠1:=by simpa using e4
  rw[if_neg (by simp;lia)]
  exact AW sp sq m3 hi (λk hk=>O.of_lt (g2 k hk)) hd λt' m n h1 h2=>hn t' _ m n h1 h2 (by lia) (by lia)
 ·rw[if_neg CW];exact AW sp sq m2 hi (λk hk=>O.of_lt (g2 k (by lia))) hd λt' m n h1 h2=>hn t' _ m n h1 h2 (by lia) (by lia)
def Iy {st:ZM}{Q:ForInStep (Option (Array Za)×RH)->ZM->Prop}{t:Array Za}{i j mg m n:Nat}(O:cW c)(L:gN prog w A E s κ c S)(hk:kindOf st=κ)(Sp:∀i,i<p.size->S (el p i))(Sq:∀i,i<q.size->S (el q i))(sp:SR c p 0 p.size)(sq:SR c q 0 q.size)(hf:c (el q 0) (el p 0)=true)(m0:Mh c p q t.toList.reverse i j)(hi:0<i)(hj:1<j)
  (hd:∀out r,Gd c p q out.toList->Q (.done (some out,r)) (c7 st mg)) (hn:∀t' i' j' m n,Mh c p q t'.toList.reverse i' j'->0<i'->1<j'->i'+j'<i+j->Q (.done (none,i',j',t',mg,m,n)) (c7 st mg)/\Q (.yield (none,i',j',t',mg,m,n)) (c7 st mg)):wpS (model prog w) A E s (Oz p q t i j mg m n) Q st:=by
 have mi:=m0.hi;have mj:=m0.hj;refine Zf (abl (Zf (aX (by lia) (Zf (eP O L hk (Sq _ (by lia)) (λx hx=>Sp _ (by lia)) (by lia) (λa b h1 h2 h3=>sp a b (by lia) h2 (by lia)) (by lia) λh k1 k2 k3=>?_)))))
 have g0:∀x,x<h->le c (el p x) (el q (j-1)):=λx hx=>by
  have:=k2 x hx;unfold fo at this;rw[if_neg (by simp),abU,Nat.zero_add]at this
  exact this
 have g5:∀x,h<=x->x<i->le c (el q (j-1)) (el p x):=λx h1 h2=>by
  have:=k3 x h1 h2;unfold fo at this;rw[if_neg (by simp),Bool.not_eq_false',Nat.zero_add]at this
  exact O.of_lt this
 dsimp only
 by_cases CW:i-h>0
 ·rw[if_pos CW];have m1:Mh c p q (t++(p.extract h i).reverse).toList.reverse h j:=by
   rw[yA];exact m0.jC sp k1 λx h1 h2 y hy=>O.trans (sq y (j-1) (by lia) (by lia) (by lia)) (g5 x h1 h2)
  by_cases e1:(h==0)=true
  ·rw[if_pos e1];exact Zm (hd _ _ (m1.done sp sq (.inl (by simpa using e1))))
  rw[if_neg e1];have zT:h≠0:=by simpa using e1
  exact AX O L hk Sp Sq sp sq hf m1 (by lia) hj g0 hd λt' j' m n h1 h2 h3 h4=>hn t' _ j' m n h1 h2 h3 (by lia)
 ·rw[if_neg CW];exact AX O L hk Sp Sq sp sq hf m0 hi hj (λx hx=>g0 x (by lia)) hd λt' j' m n h1 h2 h3 h4=>hn t' _ j' m n h1 h2 h3 (by lia)
def Iw {st:ZM}{Q:ForInStep (Option (Array Za)×RJ)->ZM->Prop}{t:Array Za}{i j mg ma na:Nat}(O:cW c)(L:gN prog w A E s κ c S)(hk:kindOf st=κ)(Sp:∀i,i<p.size->S (el p i))(Sq:∀i,i<q.size->S (el q i))(sp:SR c p 0 p.size)(sq:SR c q 0 q.size)(hf:c (el q 0) (el p 0)=true)(m:Mh c p q t.toList.reverse i j)(hi:0<i)(hj:1<j)
  (hd:∀out r,Gd c p q out.toList->Q (.done (some out,r)) st) (hn:∀t' i' j' m n,Mh c p q t'.toList.reverse i' j'->0<i'->1<j'->i'+j'<i+j->Q (.done (none,i',j',t',m,n)) st/\Q (.yield (none,i',j',t',m,n)) st):wpS (model prog w) A E s (Vo p q t mg i j ma na) Q st:=by
 have fe:=m.hi;have P4:=m.hj;refine Zf (aX (by lia) (Zf (aX (by lia) (Zf (L _ _ st _ (Sq _ (by lia)) (Sp _ (by lia)) hk ?_)))))
 dsimp only;cases hc:c (el q (j-1)) (el p (i-1))with
 |true =>
  rw[if_pos rfl];refine Zf (aX (by lia) ?_)
  have m1:Mh c p q (t.push (el p (i-1))).toList.reverse (i-1) j:=by
   rw[jK];exact m.lP hi sp λk hk=>O.trans (sq k (j-1) (by lia) (by lia) (by lia)) (O.of_lt hc)
  by_cases e3:(i-1==0)=true
  ·rw[if_pos e3];exact Zm (hd _ _ (m1.done sp sq (.inl (by simpa using e3))))
  rw[if_neg e3];have h3:i-1≠0:=by simpa using e3
  obtain⟨h6,h7⟩:=hn _ _ _ (ma+1) 0 m1 (by lia) hj (by lia)
  split
  ·exact Zm h6
  ·exact Zm h7
 |false =>
  rw[if_neg (by simp)]
  refine Zf (aX (by lia) ?_)
  have m1:Mh c p q (t.push (el q (j-1))).toList.reverse i (j-1):=by
   rw[jK];exact m.lO (by lia) sq λk hk=>O.trans (sp k (i-1) (by lia) (by lia) (by lia)) (show le c (el p (i-1)) (el q (j-1)) from hc)
  by_cases e3:(j-1==1)=true
  ·rw[if_pos e3];exact Zm (hd _ _ (m1.tail O sp sq (by simpa using e3) hf))
  rw[if_neg e3];have h3:j-1≠1:=by simpa using e3
  obtain⟨h6,h7⟩:=hn _ _ _ 0 (na+1) m1 hi (by lia) (by lia)
  split
  ·exact Zm h6
  ·exact Zm h7
def vB (O:cW c)(L:gN prog w A E s κ c S){Q:Array Za->ZM->Prop}{st:ZM}(hk:kindOf st=κ)(Sp:∀i,i<p.size->S (el p i))(Sq:∀i,i<q.size->S (el q i))(sp:SR c p 0 p.size)(sq:SR c q 0 q.size)
  (hp:0<p.size) (hq:0<q.size) (hf:c (el q 0) (el p 0)=true) (hl:∀y,y<q.size->c (el q y) (el p (p.size-1))=true) (h:∀to aG,lH st aG->Gd c p q to.toList->Q to aG) :
  wpS (model prog w) A E s (jZ p q) Q st:=by
 rw[ud];refine Zf (wpS_lift (abm {rfl,?_}));refine Zf (aX (by lia) ?_)
 have m0:Mh c p q (#[el p (p.size-1)]:Array Za).toList.reverse (p.size-1) q.size:=Mh.start sp O hp hl
 by_cases h1:(p.size-1==0)=true
 ·rw[if_pos h1];exact Zm (h _ st (lH.refl st) (m0.done sp sq (.inl (by simpa using h1))))
 rw[if_neg h1];have zT:p.size-1≠0:=by simpa using h1
 by_cases h2:(q.size==1)=true
 ·rw[if_pos h2];exact Zm (h _ st (lH.refl st) (m0.tail O sp sq (by simpa using h2) hf))
 rw[if_neg h2];have C3:q.size≠1:=by simpa using h2
 refine Zf (ack ?_);refine Zf (aaJ (aac
  (I:=λx r aG=>lH st aG/\∃i j to mg,r=(none,i,j,to,mg)/\Mh c p q to.toList.reverse i j/\0<i/\1<j/\i+j+x<p.size+q.size)
  (Q:=λr aG=>lH st aG/\∃out r',r=(some out,r')/\Gd c p q out.toList) ?_ ?_ ?_) ?_)
 ·rintro x r aG _ hx ⟨e,i,j,to,mg,rfl,m,hi,hj,hb⟩;unfold Vn;dsimp only;refine Zf (aaJ (aac
   (I:=λy r aG=>lH st aG/\∃i j to m n,r=(none,i,j,to,m,n)/\Mh c p q to.toList.reverse i j/\0<i/\1<j/\i+j+x+min y 1<p.size+q.size)
   (Q:=λr aG=>lH st aG/\((∃out r',r=(some out,r')/\Gd c p q out.toList)\/∃i j to m n,r=(none,i,j,to,m,n)/\Mh c p q to.toList.reverse i j/\0<i/\1<j/\i+j+x+1<p.size+q.size)) ?_ ?_ ?_) ?_)
  ·rintro y r gP _ hy ⟨e2,i,j,to,ma,na,rfl,m,hi,hj,hb⟩;exact Iw O L (e2.kind.trans hk) Sp Sq sp sq hf m hi hj (λout r h=>{e2,.inl {_,_,rfl,h}}) λt' i' j' m n h1 h2 h3 h4=>{{e2,.inr {_,_,_,_,_,rfl,h1,h2,h3,by lia}},{e2,_,_,_,_,_,rfl,h1,h2,h3,by lia}}
  ·rintro r gP ⟨e2,i,j,to,ma,na,rfl,m,hi,hj,hb⟩;exact{e2,.inr {_,_,_,_,_,rfl,m,hi,hj,by lia}}
  ·exact{e,_,_,_,_,_,rfl,m,hi,hj,by lia}
  rintro r gP ⟨e2,⟨out,r',rfl,g⟩|⟨i,j,to,ma,na,rfl,m,hi,hj,hb⟩⟩
  ·exact Zm {e2,_,_,rfl,g}
  dsimp only;refine Zf (wpS_lift (abm {rfl,?_}));refine Zf (aaJ (aac
   (I:=λy r aG=>lH st aG/\∃i j to mg m n,r=(none,i,j,to,mg,m,n)/\Mh c p q to.toList.reverse i j/\0<i/\1<j/\i+j+x+1<p.size+q.size)
   (Q:=λr aG=>lH st aG/\((∃out r',r=(some out,r')/\Gd c p q out.toList)\/∃i j to mg m n,r=(none,i,j,to,mg,m,n)/\Mh c p q to.toList.reverse i j/\0<i/\1<j/\i+j+x+1<p.size+q.size)) ?_ ?_ ?_) ?_)
  ·rintro y r gP _ hy ⟨e2,i,j,to,mg,ma,na,rfl,m,hi,hj,hb⟩;show wpS (model prog w) A E s (if mg>1 then Oz p q to i j (mg-1) ma na else Oz p q to i j mg ma na) _ gP
   split <;> exact Iy O L (e2.kind.trans hk) Sp Sq sp sq hf m hi hj (λout r h=>{e2.HJ _,.inl {_,_,rfl,h}}) λt' i' j' m n h1 h2 h3 h4=>{{e2.HJ _,.inr {_,_,_,_,_,_,rfl,h1,h2,h3,by lia}},{e2.HJ _,_,_,_,_,_,_,rfl,h1,h2,h3,by lia}}
  ·rintro r gP ⟨e2,i,j,to,mg,ma,na,rfl,m,hi,hj,hb⟩;exact{e2,.inr {_,_,_,_,_,_,rfl,m,hi,hj,hb}}
  ·exact{e2,_,_,_,_,_,_,rfl,m,hi,hj,hb}
  rintro r gP ⟨e2,⟨out,r',rfl,g⟩|⟨i,j,to,mg,ma,na,rfl,m,hi,hj,hb⟩⟩
  ·exact Zm {e2,_,_,rfl,g}
  dsimp only;refine Zf (abl (Zm {e2.HJ _,_,_,_,_,rfl,m,hi,hj,by lia}))
 ·rintro r aG ⟨e,i,j,to,mg,rfl,m,hi,hj,hb⟩
  exfalso
  rw[show max 0 (p.size+q.size)=p.size+q.size by lia]at hb
  lia
 ·exact{lH.refl st,_,_,_,_,rfl,m0,by lia,by lia,by lia}
 ·rintro r aG ⟨e,out,r',rfl,g⟩;exact Zm (h _ aG e g)
end
section
variable {c:Za->Za->Bool}{a b:Array Za}
structure Rg (a b:Array Za)(lo hi:Nat):Prop where
 perm:b.Perm a
 out:∀k,(k<lo\/hi<=k)->el b k=el a k
def Rg.refl {lo hi:Nat}:Rg a a lo hi:={Array.Perm.refl _,λ_ _=>rfl}
def Rg.trans {d:Array Za}{lo hi:Nat}(x:Rg a b lo hi)(y:Rg b d lo hi):Rg a d lo hi:={y.perm.trans x.perm,λk h=>(y.out k h).trans (x.out k h)}
def Rg.mono {lo hi Hw fe:Nat}(x:Rg a b lo hi)(h1:Hw<=lo)(h2:hi<=fe):Rg a b Hw fe:={x.perm,λk h=>x.out k (by lia)}
def Rg.size {lo hi:Nat}(x:Rg a b lo hi):b.size=a.size:=x.perm.size_eq
def SR.congr {lo hi:Nat}(h:SR c a lo hi)(e:∀k,lo<=k->k<hi->el b k=el a k):SR c b lo hi:=λi j h1 h2 h3=>by
 rw[e i h1 (by lia),e j (by lia) h3]
 exact h i j h1 h2 h3
def NI (c:Za->Za->Bool)(a:Array Za)(lo hi:Nat):Prop:=∀i j,lo<=i->i<=j->j<hi->le c (el a j) (el a i)
def cJ {i j:Nat}(hj:j<=a.size)(k:Nat):el (mirror a i j ((j-i) / 2)) k=if i<=k/\k<j then el a (i+j-1-k) else el a k:=by
 have e:=getElem?_mirror_all (i:=i) hj k
 by_cases h:i<=k/\k<j
 ·rw[if_pos h]at e ⊢
  exact fh e
 ·rw[if_neg h]at e ⊢
  exact fh e
def gc {i j:Nat}(hj:j<=a.size):Rg a (mirror a i j ((j-i) / 2)) i j:={mirror_perm _ _ _ _,λk h=>by rw[cJ hj,if_neg (by lia)]}
def qa {i j:Nat}(hj:j<=a.size)(h:NI c a i j):SR c (mirror a i j ((j-i) / 2)) i j:=λx y h1 h2 h3=>by
 rw[cJ hj,cJ hj,if_pos (by lia),if_pos (by lia)]
 exact h _ _ (by lia) (by lia) (by lia)
def kT {lo i j:Nat}(S5:lo<=i)(hj:j<=a.size)(h:NI c a lo j)(he:∀x y,i<=x->x<j->i<=y->y<j->le c (el a x) (el a y)):NI c (mirror a i j ((j-i) / 2)) lo j:=λx y h1 h2 h3=>by
 rw[cJ hj,cJ hj]
 by_cases hx:i<=x/\x<j
 ·rw[if_pos hx,if_pos (by lia)]
  exact he _ _ (by lia) (by lia) (by lia) (by lia)
 ·rw[if_neg hx]
  by_cases hy:i<=y/\y<j
  ·rw[if_pos hy];exact h _ _ (by lia) (by lia) (by lia)
  ·rw[if_neg hy];exact h _ _ h1 h2 h3
def SR.snoc {lo n:Nat}(O:cW c)(h:SR c a lo (lo+n))(h1:0<n)(hn:le c (el a (lo+n-1)) (el a (lo+n))):SR c a lo (lo+(n+1)):=λi j h2 h3 h4=>by
 by_cases hj:j<lo+n
 ·exact h i j h2 h3 hj
 ·obtain rfl:j=lo+n:=by lia
  by_cases hi:i<lo+n
  ·exact O.trans (h i (lo+n-1) h2 (by lia) (by lia)) hn
  ·obtain rfl:i=lo+n:=by lia
   exact O.refl _
def NI.snoc {lo n:Nat}(O:cW c)(h:NI c a lo (lo+n))(h1:0<n)(hn:le c (el a (lo+n)) (el a (lo+n-1))):NI c a lo (lo+(n+1)):=λi j h2 h3 h4=>by
 by_cases hj:j<lo+n
 ·exact h i j h2 h3 hj
 ·obtain rfl:j=lo+n:=by lia
  by_cases hi:i<lo+n
  ·exact O.trans hn (h i (lo+n-1) h2 (by lia) (by lia))
  ·obtain rfl:i=lo+n:=by lia
   exact O.refl _
def SR.one {lo:Nat}(O:cW c):SR c a lo (lo+1):=λi j h1 h2 h3=>by
 obtain rfl:i=j:=by lia
 exact O.refl _
end
structure lD (κ:abA)(a₀:Array Za)(st:ZM):Prop where
 kind:kindOf st=κ
 fail:abM st=none
 perm:(ZP st).Perm a₀
section
variable {prog:Y7}{w:Zj}{A:Z0}{E:Y1->Y4->Prop}{s:Y4}{κ:abA}{c:Za->Za->Bool}{a₀:Array Za}
def lD.size {st:ZM}(h:lD κ a₀ st):(ZP st).size=a₀.size:=h.perm.size_eq
def lD.mem {st:ZM}(h:lD κ a₀ st){i:Nat}(hi:i<a₀.size):el (ZP st) i∈a₀.toList:=by
 have h1:i<(ZP st).size:=by rw[h.size];exact hi
 refine(abt.mp h.perm).mem_iff.mp ?_;have:=kl h1;rw[<- ZG]at this;exact ZT this
def lD.set {st:ZM}{b:Array Za}{lo hi:Nat}(h:lD κ a₀ st)(r:Rg (ZP st) b lo hi):lD κ a₀ (aak st b):={h.kind,h.fail,r.perm.trans h.perm}
def qT (L:gN prog w A E s κ c (·∈a₀.toList)){st:ZM}{i j:Nat}{Q:Option Bool->ZM->Prop}(h:lD κ a₀ st)(hi:i<a₀.size)(hj:j<a₀.size)(q:Q (some (c (el (ZP st) i) (el (ZP st) j))) st):
  wpS (model prog w) A E s (ltAt' i j) Q st:=by
 rw[ltAt'_eq];refine Zf (ack ?_);exact Zf (aX (by rw[h.size];exact hi) (Zf (aX (by rw[h.size];exact hj) (L _ _ st Q (h.mem hi) (h.mem hj) h.kind q))))
def ju (L:gN prog w A E s κ c (·∈a₀.toList)){st:ZM}{b:Array Za}{i j lo hi:Nat}{Q:Option Bool->ZM->Prop}(h:lD κ a₀ st)(R:Rg (ZP st) b lo hi)(hi:i<a₀.size)(hj:j<a₀.size)(q:Q (some (c (el b i) (el b j))) (aak st b)):
  wpS (model prog w) A E s (ltAt' i j) Q (aak st b):=qT L (h.set R) hi hj q
def jt {st:ZM}{i j:Nat}{Q:Unit->ZM->Prop}(q:Q () (aak st (mirror (ZP st) i j ((j-i) / 2)))):wpS (model prog w) A E s (reverseSlice' i j) Q st:=by
 rw[reverseSlice'_eq];exact abl q
def AY (O:cW c)(L:gN prog w A E s κ c (·∈a₀.toList)){st:ZM}{lo f_:Nat}{Q:Option Nat->ZM->Prop}(h0:lD κ a₀ st)(h1:1<=f_)(hn:lo+f_<=a₀.size)
  (h:∀n b,1<=n->n<=f_->Rg (ZP st) b lo (lo+f_)->SR c b lo (lo+n)->Q (some n) (aak st b)):wpS (model prog w) A E s (countRun' lo f_) Q st:=by
 rw[countRun'_eq];dsimp only;refine Zf (aaJ (aac (I:=λx r aG=>aG=st/\∃n,r=(none,n)/\n=x/\SR c (ZP st) lo (lo+n))
  (Q:=λr aG=>aG=st/\∃n,r=(none,n)/\1<=n/\n<=f_/\SR c (ZP st) lo (lo+n)/\(n=f_\/(n<f_/\c (el (ZP st) (lo+n)) (el (ZP st) (lo+n-1))=true))) ?_ ?_ ?_) ?_)
 ·rintro x r aG Kq hx ⟨rfl,n,rfl,rfl,hs⟩;dsimp only;refine Zf (qT L h0 (by lia) (by lia) ?_)
  dsimp only;cases hc:c (el (ZP aG) (lo+n)) (el (ZP aG) (lo+n-1))with
  |true =>
   rw[if_pos rfl];exact Zm {rfl,n,rfl,Kq,by lia,hs,.inr {by lia,hc}}
  |false =>
   rw[if_neg (by simp)]
   exact Zm {rfl,n+1,rfl,rfl,hs.snoc O Kq hc}
 ·rintro r aG ⟨rfl,n,rfl,hx,hs⟩;exact{rfl,n,rfl,by lia,by lia,hs,.inl (by lia)}
 ·exact{rfl,1,rfl,rfl,SR.one O}
 rintro r aG ⟨e0,n,rfl,SO,PY,hs,hc⟩;rw[e0];dsimp only
 by_cases SM:(n==f_)=true
 ·rw[if_pos SM];exact Zm (h n (ZP st) SO PY Rg.refl hs)
 rw[if_neg SM];have W4:n≠f_:=by simpa using SM
 have hc:c (el (ZP st) (lo+n)) (el (ZP st) (lo+n-1))=true:=by
  rcases hc with q|q
  ·lia
  ·exact q.2
 refine(λ(key:∀b,Rg (ZP st) b lo (lo+f_)->NI c b lo (lo+(n+1))->wpS (model prog w) A E s ?cont Q (aak st b))=>?main) ?key
 case main =>
  by_cases h2:n>1
  ·rw[if_pos h2];refine Zf (qT L h0 (by lia) (by lia) ?_)
   dsimp only;cases hr:c (el (ZP st) lo) (el (ZP st) (lo+n-1))with
   |true =>
    rw[if_pos rfl];exact Zm (h n (ZP st) SO PY Rg.refl hs)
   |false =>
    rw[if_neg (by simp)]
    refine Zf (jt ?_);have hz:lo+n<=(ZP st).size:=by have:=h0.size;lia
    have R0:Rg (ZP st) (mirror (ZP st) lo (lo+n) ((lo+n-lo) / 2)) lo (lo+f_):=(gc hz).mono (Y8 _) (by lia)
    have all:∀u v,lo<=u->u<lo+n->lo<=v->v<lo+n->le c (el (ZP st) u) (el (ZP st) v):=λu v h1 h2 h3 h4 =>
     O.trans (hs u (lo+n-1) h1 (by lia) (by lia)) (O.trans hr (hs lo v (Y8 _) h3 h4))
    have N0:NI c (mirror (ZP st) lo (lo+n) ((lo+n-lo) / 2)) lo (lo+(n+1)):=by
     refine NI.snoc O (kT (Y8 _) hz (λu v h1 h2 h3=>all v u (by lia) (by lia) h1 (by lia)) λu v h1 h2 h3 h4=>all u v h1 h2 h3 h4) (by lia) ?_
     rw[cJ hz,cJ hz,if_neg (by lia),if_pos (by lia)]
     exact O.trans (O.of_lt hc) (all _ _ (by lia) (by lia) (by lia) (by lia))
    exact key _ R0 N0
  ·rw[if_neg h2];have N0:NI c (ZP st) lo (lo+(n+1)):=NI.snoc O (λu v h1 h2 h3=>by
    obtain rfl:u=v:=by lia
    exact O.refl _) (by lia) (O.of_lt hc)
   show wpS _ _ _ _ _ Q (aak st (ZP st));exact key _ Rg.refl N0
 case key =>
  intro b0 R0 N0;refine Zf (wpS_lift (abm {rfl,?_}));refine Zf (aaJ (aac (I:=λx r aG=>∃b n lR,aG=aak st b/\r=(none,n,lR)/\n=x/\Rg (ZP st) b lo (lo+f_)/\NI c b lo (lo+n)/\lR<n/\(∀u v,lo+n-1-lR<=u->u<lo+n->lo+n-1-lR<=v->v<lo+n->le c (el b u) (el b v)))
   (Q:=λr aG=>∃b n lR,aG=aak st b/\r=(none,n,lR)/\1<=n/\n<=f_/\Rg (ZP st) b lo (lo+f_)/\NI c b lo (lo+n)/\lR<n/\(∀u v,lo+n-1-lR<=u->u<lo+n->lo+n-1-lR<=v->v<lo+n->le c (el b u) (el b v))) ?_ ?_ ?_) ?_)
  ·rintro x r aG Kq hx ⟨b,n',lR,rfl,rfl,rfl,R,N,hq,he⟩;dsimp only;refine Zf (ju L h0 R (by lia) (by lia) ?_)
   dsimp only;cases uA:c (el b (lo+n')) (el b (lo+n' - 1))with
   |true =>
    rw[if_pos rfl]
    by_cases CS:lR>0
    ·rw[if_pos CS];refine Zf (jt (Zm ?_));have hz:lo+n'<=b.size:=by have:=R.size;have:=h0.size;lia
     refine{mirror b (lo+n' - (lR+1)) (lo+n') ((lo+n' - (lo+n' - (lR+1))) / 2),n'+1,0,rfl,rfl,rfl,R.trans ((gc hz).mono (by lia) (by lia)),?_,by lia,?_}
     ·refine NI.snoc O (kT (by lia) hz N λu v h1 h2 h3 h4=>he u v (by lia) h2 (by lia) h4) (by lia) ?_
      rw[cJ hz,cJ hz,if_neg (by lia),if_pos (by lia)]
      exact O.trans (O.of_lt uA) (he _ _ (by lia) (by lia) (by lia) (by lia))
     ·intro u v h1 h2 h3 h4;obtain rfl:u=v:=by lia
      exact O.refl _
    ·rw[if_neg CS];refine Zm {b,n'+1,0,rfl,rfl,rfl,R,N.snoc O (by lia) (O.of_lt uA),by lia,?_}
     intro u v h1 h2 h3 h4;obtain rfl:u=v:=by lia
     exact O.refl _
   |false =>
    rw[if_neg (by simp)]
    refine Zf (ju L h0 R (by lia) (by lia) ?_)
    dsimp only;cases j7:c (el b (lo+n' - 1)) (el b (lo+n'))with
    |true =>
     rw[if_pos rfl];exact Zm {b,n',lR,rfl,rfl,by lia,by lia,R,N,hq,he}
    |false =>
     rw[if_neg (by simp)]
     refine Zm {b,n'+1,lR+1,rfl,rfl,rfl,R,N.snoc O (by lia) j7,by lia,?_}
     have hl:∀u,lo+n' - 1-lR<=u->u<lo+(n'+1)->le c (el b u) (el b (lo+n'))/\le c (el b (lo+n')) (el b u):=λu h1 h2=>by
      by_cases hu:u<lo+n'
      ·exact{O.trans (he u (lo+n' - 1) h1 hu (by lia) (by lia)) uA,O.trans j7 (he (lo+n' - 1) u (by lia) (by lia) h1 hu)}
      ·obtain rfl:u=lo+n':=by lia
       exact{O.refl _,O.refl _}
     intro u v h1 h2 h3 h4;exact O.trans (hl u (by lia) h2).1 (hl v (by lia) h4).2
  ·rintro r aG ⟨b,n',lR,rfl,rfl,hx,R,N,hq,he⟩;exact{b,n',lR,rfl,rfl,by lia,by lia,R,N,hq,he}
  ·refine{_,n+1,0,rfl,rfl,rfl,R0,N0,by lia,?_}
   intro u v h1 h2 h3 h4;obtain rfl:u=v:=by lia
   exact O.refl _
  rintro r aG ⟨b,n',lR,rfl,rfl,W8,W7,RB,NB,hq,he⟩;dsimp only
  by_cases CS:lR>0
  ·rw[if_pos CS];refine Zf (jt ?_);have hz:lo+n'<=b.size:=by have:=RB.size;have:=h0.size;lia
   have NB:=kT (c:=c) (i:=lo+n' - (lR+1)) (by lia) hz NB λu v h1 h2 h3 h4=>he u v (by lia) h2 (by lia) h4
   have RB:=RB.trans ((gc (i:=lo+n' - (lR+1)) hz).mono (by lia) (by lia:lo+n'<=lo+f_))
   show wpS _ _ _ _ _ Q (aak st (mirror b (lo+n' - (lR+1)) (lo+n') ((lo+n' - (lo+n' - (lR+1))) / 2)));generalize mirror b (lo+n' - (lR+1)) (lo+n') ((lo+n' - (lo+n' - (lR+1))) / 2)=b1 at NB RB;refine Zf (jt ?_);have R2:Rg (ZP st) (mirror b1 lo (lo+n') ((lo+n' - lo) / 2)) lo (lo+f_):=RB.trans ((gc (by have:=RB.size;have:=h0.size;lia)).mono (Y8 _) (by lia))
   have S2:SR c (mirror b1 lo (lo+n') ((lo+n' - lo) / 2)) lo (lo+n'):=qa (by have:=RB.size;have:=h0.size;lia) NB
   show wpS _ _ _ _ _ Q (aak st (mirror b1 lo (lo+n') ((lo+n' - lo) / 2)));generalize mirror b1 lo (lo+n') ((lo+n' - lo) / 2)=b2 at R2 S2;refine Zf (aaJ (aac (I:=λx r aG=>aG=aak st b2/\∃m,r=(none,m)/\m=x/\SR c b2 lo (lo+m))
    (Q:=λr aG=>aG=aak st b2/\∃m,r=(none,m)/\1<=m/\m<=f_/\SR c b2 lo (lo+m)) ?_ ?_ ?_) ?_)
   ·rintro x r aG Kq hx ⟨rfl,m,rfl,rfl,hs⟩;dsimp only;refine Zf (ju L h0 R2 (by lia) (by lia) ?_)
    dsimp only;cases hc:c (el b2 (lo+m)) (el b2 (lo+m-1))with
    |true =>
     rw[if_pos rfl];exact Zm {rfl,m,rfl,by lia,by lia,hs}
    |false =>
     rw[if_neg (by simp)]
     exact Zm {rfl,m+1,rfl,rfl,hs.snoc O (by lia) hc}
   ·rintro r aG ⟨rfl,m,rfl,hx,hs⟩;exact{rfl,m,rfl,by lia,by lia,hs}
   ·exact{(rfl),n',rfl,rfl,S2}
   rintro r aG ⟨rfl,m,rfl,PZ,Oo,hs⟩;exact Zm (h m b2 PZ Oo R2 hs)
  ·rw[if_neg CS];refine Zf (jt ?_);have R2:Rg (ZP st) (mirror b lo (lo+n') ((lo+n' - lo) / 2)) lo (lo+f_):=RB.trans ((gc (by have:=RB.size;have:=h0.size;lia)).mono (Y8 _) (by lia))
   have S2:SR c (mirror b lo (lo+n') ((lo+n' - lo) / 2)) lo (lo+n'):=qa (by have:=RB.size;have:=h0.size;lia) NB
   show wpS _ _ _ _ _ Q (aak st (mirror b lo (lo+n') ((lo+n' - lo) / 2)));generalize mirror b lo (lo+n') ((lo+n' - lo) / 2)=b2 at R2 S2;refine Zf (aaJ (aac (I:=λx r aG=>aG=aak st b2/\∃m,r=(none,m)/\m=x/\SR c b2 lo (lo+m))
    (Q:=λr aG=>aG=aak st b2/\∃m,r=(none,m)/\1<=m/\m<=f_/\SR c b2 lo (lo+m)) ?_ ?_ ?_) ?_)
   ·rintro x r aG Kq hx ⟨rfl,m,rfl,rfl,hs⟩;dsimp only;refine Zf (ju L h0 R2 (by lia) (by lia) ?_)
    dsimp only;cases hc:c (el b2 (lo+m)) (el b2 (lo+m-1))with
    |true =>
     rw[if_pos rfl];exact Zm {rfl,m,rfl,by lia,by lia,hs}
    |false =>
     rw[if_neg (by simp)]
     exact Zm {rfl,m+1,rfl,rfl,hs.snoc O (by lia) hc}
   ·rintro r aG ⟨rfl,m,rfl,hx,hs⟩;exact{rfl,m,rfl,by lia,by lia,hs}
   ·exact{(rfl),n',rfl,rfl,S2}
   rintro r aG ⟨rfl,m,rfl,PZ,Oo,hs⟩;exact Zm (h m b2 PZ Oo R2 hs)
end
section
variable {c:Za->Za->Bool}{a:Array Za}
def lr {src d:Nat}(hs:src<a.size)(hd:d<=src)(k:Nat):el (bubble a src d) k=if k=src-d then el a src else if src-d<k/\k<=src then el a (k-1) else el a k:=by
 have e:=getElem?_bubble hs d hd k
 by_cases h1:k=src-d
 ·rw[if_pos h1]at e ⊢
  exact fh e
 ·rw[if_neg h1]at e ⊢
  by_cases h2:src-d<k/\k<=src
  ·rw[if_pos h2]at e ⊢
   exact fh e
  ·rw[if_neg h2]at e ⊢
   exact fh e
def Ao {lo k l:Nat}(O:cW c)(hk:lo+k<a.size)(hl:l<=k)(h:SR c a lo (lo+k))(h1:∀i,i<l->le c (el a (lo+i)) (el a (lo+k)))(h2:∀i,l<=i->i<k->le c (el a (lo+k)) (el a (lo+i))):
  SR c (bubble a (lo+k) (lo+k-(lo+l))) lo (lo+(k+1)):=λi j g1 g2 g3=>by
 rw[lr hk (by lia),lr hk (by lia),show lo+k-(lo+k-(lo+l))=lo+l by lia]
 have q1:∀i,lo<=i->i<lo+l->le c (el a i) (el a (lo+k)):=λi x y=>by
  have:=h1 (i-lo) (by lia)
  rwa [show lo+(i-lo)=i by lia]at this
 have q2:∀i,lo+l<=i->i<lo+k->le c (el a (lo+k)) (el a i):=λi x y=>by
  have:=h2 (i-lo) (by lia) (by lia)
  rwa [show lo+(i-lo)=i by lia]at this
 by_cases ei:i=lo+l
 ·rw[if_pos ei]
  by_cases ej:j=lo+l
  ·rw[if_pos ej];exact O.refl _
  ·rw[if_neg ej,if_pos (by lia)]
   exact q2 _ (by lia) (by lia)
 ·rw[if_neg ei]
  by_cases ej:j=lo+l
  ·rw[if_pos ej,if_neg (by lia)]
   exact q1 _ (by lia) (by lia)
  ·rw[if_neg ej]
   by_cases fi:lo+l<i/\i<=lo+k
   ·rw[if_pos fi,if_pos (by lia)]
    exact h _ _ (by lia) (by lia) (by lia)
   ·rw[if_neg fi]
    by_cases fj:lo+l<j/\j<=lo+k
    ·rw[if_pos fj];exact h _ _ (by lia) (by lia) (by lia)
    ·rw[if_neg fj];exact h _ _ (by lia) (by lia) (by lia)
def Aq {src d:Nat}(hs:src<a.size)(hd:d<=src):Rg a (bubble a src d) (src-d) (src+1):=⟨bubble_perm _ _ _,λk h=>by
 rw[lr hs hd,if_neg (by lia),if_neg (by lia)]⟩
end
section
variable {prog:Y7}{w:Zj}{A:Z0}{E:Y1->Y4->Prop}{s:Y4}{κ:abA}{c:Za->Za->Bool}{a₀:Array Za}
def Iz (O:cW c)(L:gN prog w A E s κ c (·∈a₀.toList)){st:ZM}{lo n ok:Nat}{Q:Bool->ZM->Prop}(h0:lD κ a₀ st)(bB:ok<=n)(h1:1<=n)(hn:lo+n<=a₀.size)(hs:SR c (ZP st) lo (lo+ok))
  (h:∀b,Rg (ZP st) b lo (lo+n)->SR c b lo (lo+n)->Q true (aak st b)):wpS (model prog w) A E s (binarySort' lo n ok) Q st:=by
 rw[binarySort'_eq];refine Zf (aaJ (aac (I:=λk r aG=>r=(none,())/\k<=n/\∃b,aG=aak st b/\Rg (ZP st) b lo (lo+n)/\SR c b lo (lo+k))
  (Q:=λr aG=>r=(none,())/\∃b,aG=aak st b/\Rg (ZP st) b lo (lo+n)/\SR c b lo (lo+n)) ?_ ?_ ?_) ?_)
 ·rintro k r aG S8 hk ⟨rfl,_,b,rfl,R,zO⟩;dsimp only;have hz:b.size=a₀.size:=R.size.trans h0.size;refine Zf (aaJ (aac (I:=λx r aG=>aG=aak st b/\∃l u,r=(none,l,u)/\l<=u/\u<=k/\u-l<=k-x/\(∀i,i<l->le c (el b (lo+i)) (el b (lo+k)))/\(∀i,u<=i->i<k->le c (el b (lo+k)) (el b (lo+i))))
   (Q:=λr aG=>aG=aak st b/\∃l,r=(none,l,l)/\l<=k/\(∀i,i<l->le c (el b (lo+i)) (el b (lo+k)))/\(∀i,l<=i->i<k->le c (el b (lo+k)) (el b (lo+i)))) ?_ ?_ ?_) ?_)
  ·rintro x r aG _ hx ⟨rfl,l,u,rfl,g1,g2,g3,g4,g5⟩;dsimp only
   by_cases Vj:l >= u
   ·rw[if_pos Vj];obtain rfl:l=u:=by lia
    exact Zm {(rfl),l,rfl,g2,g4,g5}
   ·rw[if_neg Vj];refine Zf (ju L h0 R (by lia) (by lia) ?_)
    dsimp only;cases hc:c (el b (lo+k)) (el b (lo+(l+u) / 2))with
    |true =>
     rw[if_pos rfl];exact Zm {rfl,l,_,rfl,by lia,by lia,by lia,g4,λi h1 h2=>O.trans (O.of_lt hc) (zO _ _ (by lia) (by lia) (by lia))}
    |false =>
     rw[if_neg (by simp)]
     exact Zm {rfl,_,u,rfl,by lia,by lia,by lia,λi h1=>O.trans (zO _ _ (by lia) (by lia) (by lia)) (show le c (el b (lo+(l+u) / 2)) (el b (lo+k)) from hc),g5}
  ·rintro r aG ⟨rfl,l,u,rfl,g1,g2,g3,g4,g5⟩;obtain rfl:l=u:=by lia
   exact{(rfl),l,rfl,g2,g4,g5}
  ·exact{rfl,0,k,rfl,Zn _,Y8 _,by lia,λi hi=>by lia,λi h1 h2=>by lia}
  rintro r aG ⟨rfl,l,rfl,g2,g4,g5⟩;dsimp only;rw[moveDown'_eq];refine Zf (abl (Zm {rfl,by lia,_,rfl,R.trans ((Aq (a:=b) (by lia) (by lia)).mono (by lia) (by lia)),Ao (a:=b) O (by lia) g2 zO g4 g5}))
 ·rintro r aG ⟨rfl,hx,b,rfl,R,zO⟩;rw[show max (max ok 1) n=n by lia]at zO
  exact{(rfl),b,rfl,R,zO}
 ·refine{rfl,by lia,ZP st,rfl,Rg.refl,?_}
  by_cases h2:ok=0
  ·subst h2;exact SR.one O
  ·rw[show max ok 1=ok by lia]
   exact hs
 ·rintro r aG ⟨rfl,b,rfl,R,zO⟩;exact Zm (h b R zO)
theorem uD (base:Nat):∀(l:List Za) (off:Nat) (a:Array Za),base+off+l.length<=a.size->∀k:Nat,
  ((l.zipIdx off).foldl (λx (z:Za×Nat)=>x.setIfInBounds (base+z.2) z.1) a)[k]?=if base+off<=k/\k<base+off+l.length then l[k-(base+off)]? else a[k]?
 |[],off,a,_,k=>by
  rw[if_neg (by rw[aaU];lia)]
  rfl
 |x::l,off,a,h,k=>by
  rw[Zb]at h;rw[List.zipIdx_cons,ab9,uD base l (off+1) _ (by rw[Array.size_setIfInBounds];lia)]
  by_cases h1:base+(off+1)<=k/\k<base+(off+1)+l.length
  ·rw[if_pos h1,if_pos (by rw[Zb];lia),show k-(base+off)=k-(base+(off+1))+1 by lia,abK]
  ·rw[if_neg h1,Array.getElem?_setIfInBounds]
   by_cases h2:base+off=k
   ·subst h2;rw[if_pos rfl,if_pos (by lia),if_pos (by rw[Zb];lia),aca]
    rfl
   ·rw[if_neg h2,if_neg (by rw[Zb];lia)]
def Eo (a:Array Za)(base:Nat)(l:List Za):Array Za:=l.zipIdx.foldl (λx (z:Za×Nat)=>x.setIfInBounds (base+z.2) z.1) a
def qS {a:Array Za}{base:Nat}{l:List Za}(h:base+l.length<=a.size)(k:Nat):(Eo a base l)[k]?=if base<=k/\k<base+l.length then l[k-base]? else a[k]?:=uD base l 0 a h k
def AS {a:Array Za}{base:Nat}{l:List Za}(h:base+l.length<=a.size):(Eo a base l).toList=a.toList.take base++(l++a.toList.drop (base+l.length)):=by
 apply aau;intro k;rw[ZG,qS h];have hz:a.toList.length=a.size:=ZJ
 by_cases h1:base<=k/\k<base+l.length
 ·rw[if_pos h1,ZY (by rw[ZI];lia),ZI,aaa (by lia)]
  congr 1
  lia
 ·rw[if_neg h1]
  by_cases h2:k<base
  ·rw[aaa (by rw[ZI];lia),List.getElem?_take_of_lt h2,ZG]
  ·rw[ZY (by rw[ZI];lia),ZI,ZY (by lia),List.getElem?_drop,ZG]
   congr 1
   lia
def IV (a:Array Za)(base m:Nat):a.toList=a.toList.take base++((a.toList.drop base).take m++a.toList.drop (base+m)):=by
 have h1:=(abg base a.toList).symm;have h2:=(abg m (a.toList.drop base)).symm;rw[List.drop_drop]at h2;rw[<- h2];exact h1
def Ir {a:Array Za}{base:Nat}{l:List Za}(h:base+l.length<=a.size)(hp:l.Perm ((a.toList.drop base).take l.length)):Rg a (Eo a base l) base (base+l.length) where
 perm:=by
  rw[abt,AS h];refine List.Perm.trans ?_ (List.Perm.of_eq (IV a base l.length).symm);exact List.Perm.append_left _ (hp.append_right _)
 out:=λk hk=>fh (by rw[qS h,if_neg (by lia)])
end
section
variable {prog:Y7}{w:Zj}{A:Z0}{E:Y1->Y4->Prop}{s:Y4}{κ:abA}{c:Za->Za->Bool}{a₀:Array Za}
def Ep {σ:Type}{M:Model}{Q:PUnit->σ->Prop}{st aG:σ}(h:Q ⟨⟩ aG):wpS M A E s (set aG:StateT σ Sem PUnit) Q st:=by
 unfold wpS;rw[StateT.run_set];exact Zi {(rfl),h}
def wV {a:Array Za}{lo hi i:Nat}(h:i<hi-lo)(hh:hi<=a.size):el (a.extract lo hi) i=el a (lo+i) :=
 fh (by rw[Array.getElem?_extract,if_pos (by lia)])
def n6 {a:Array Za}{lo hi:Nat}(hh:hi<=a.size):(a.extract lo hi).size=hi-lo:=by
 rw[Array.size_extract];lia
def xT {a:Array Za}{lo hi:Nat}(hh:hi<=a.size){z:Za}(h:z∈(a.extract lo hi).toList):∃u,lo<=u/\u<hi/\z=el a u:=by
 obtain⟨i,fe⟩:=abr h;rw[ZG]at fe;have dE:i<(a.extract lo hi).size:=by
  rcases acb i (a.extract lo hi).size with q|q
  ·exact q
  ·rw[abV q]at fe;cases fe
 rw[n6 hh]at dE;exact{lo+i,by lia,by lia,by rw[<- wV dE hh,yn fe]}
def vC (O:cW c)(L:gN prog w A E s κ c (·∈a₀.toList)){st:ZM}{i sa na pw sb nb Q5:Nat}{Q:Bool->ZM->Prop}(h0:lD κ a₀ st)(p1:(Zz st)[i]?=some (sa,na,pw))(p2:(Zz st)[i+1]?=some (sb,nb,Q5))
  (zO:sb=sa+na) (YI:1<=na) (Vf:1<=nb) (hz:sb+nb<=a₀.size) (s1:SR c (ZP st) sa sb) (s2:SR c (ZP st) sb (sb+nb))
  (h:∀aG,kindOf aG=κ->abM aG=none->Zz aG=((Zz st).setIfInBounds i (sa,na+nb,pw)).eraseIdxIfInBounds (i+1)->Rg (ZP st) (ZP aG) sa (sb+nb)->SR c (ZP aG) sa (sb+nb)->Q true aG) :
  wpS (model prog w) A E s (mergeAt' i) Q st:=by
 rw[ue];refine Zf (ack ?_);rw[p1,p2];dsimp only;refine Zf (Ep ?_);have hsz:=h0.size;have hm:∀{j},j<a₀.size->el (ZP st) j∈a₀.toList:=λhj=>h0.mem hj;generalize ha:ZP st=a at *
 have yN:kindOf (abY st (((Zz st).setIfInBounds i (sa,na+nb,pw)).eraseIdxIfInBounds (i+1)))=κ:=h0.kind;have IS:abM (abY st (((Zz st).setIfInBounds i (sa,na+nb,pw)).eraseIdxIfInBounds (i+1)))=none:=h0.fail;have IT:ZP (abY st (((Zz st).setIfInBounds i (sa,na+nb,pw)).eraseIdxIfInBounds (i+1)))=a:=ha;have Mw:Zz (abY st (((Zz st).setIfInBounds i (sa,na+nb,pw)).eraseIdxIfInBounds (i+1)))=((Zz st).setIfInBounds i (sa,na+nb,pw)).eraseIdxIfInBounds (i+1):=rfl;generalize hP:((Zz st).setIfInBounds i (sa,na+nb,pw)).eraseIdxIfInBounds (i+1)=P at *
 generalize abY st P=QK at *
 refine Zf (aX (by lia) ?_)
 refine Zf (eP O L yN (hm (by lia)) (λx hx=>hm (by lia)) (by lia) (λx y h1 h2 h3=>s1 x y h1 h2 (by lia)) (by lia) λk k1 k2 k3=>?_)
 dsimp only;have g0:∀x,sa<=x->x<sa+k->le c (el a x) (el a sb):=λx h1 h2=>by
  have:=k2 (x-sa) (by lia)
  unfold fo at this;rw[if_neg (by simp),abU,show sa+(x-sa)=x by lia]at this
  exact this
 by_cases e1:(na-k==0)=true
 ·rw[if_pos e1];have e1:na-k=0:=by simpa using e1
  refine Zm (h QK yN IS Mw (by rw[IT];exact Rg.refl) ?_)
  rw[IT];intro x y h1 h2 h3
  by_cases hx:x<sb
  ·by_cases hy:y<sb
   ·exact s1 x y h1 h2 hy
   ·exact O.trans (g0 x h1 (by lia)) (s2 sb y (Y8 _) (by lia) h3)
  ·exact s2 x y (by lia) h2 h3
 rw[if_neg e1];have e1:na-k≠0:=by simpa using e1
 have g1:c (el a sb) (el a (sa+k))=true:=by
  have:=k3 k (Y8 _) (by lia)
  unfold fo at this;rw[if_neg (by simp),Bool.not_eq_false']at this
  exact this
 refine Zf (aX (by lia) ?_)
 refine Zf (eP O L yN (hm (by lia)) (λx hx=>hm (by lia)) (by lia) (λx y h1 h2 h3=>s2 x y h1 h2 (by lia)) (by lia) λm m1 m2 m3=>?_)
 dsimp only;rw[show sa+k+(na-k)-1=sb-1 by lia]at m2 m3
 have g2:∀x,sb<=x->x<sb+m->c (el a x) (el a (sb-1))=true:=λx h1 h2=>by
  have:=m2 (x-sb) (by lia)
  unfold fo at this;rw[if_pos rfl,show sb+(x-sb)=x by lia]at this
  exact this
 have g3:∀x,sb+m<=x->x<sb+nb->le c (el a (sb-1)) (el a x):=λx h1 h2=>by
  have:=m3 (x-sb) (by lia) (by lia)
  unfold fo at this;rw[if_pos rfl,show sb+(x-sb)=x by lia]at this
  exact this
 by_cases e2:(m==0)=true
 ·exfalso
  have e2:m=0:=by simpa using e2
  have:=O.trans (s1 (sa+k) (sb-1) (by lia) (by lia) (by lia)) (g3 sb (by lia) (by lia))
  exact absurd (g1.symm.trans this) (by simp)
 rw[if_neg e2];have e2:m≠0:=by simpa using e2
 have zx:(a.extract (sa+k) sb).size=sb-(sa+k):=n6 (by lia)
 have zy:(a.extract sb (sb+m)).size=m:=by rw[n6 (by lia)];lia
 have ex:∀{t},t<sb-(sa+k)->el (a.extract (sa+k) sb) t=el a (sa+k+t):=λht=>wV ht (by lia)
 have ey:∀{t},t<m->el (a.extract sb (sb+m)) t=el a (sb+t):=λht=>wV (by lia) (by lia)
 have fin:∀(out:Array Za) (gP:ZM),lH QK gP->Gd c (a.extract (sa+k) sb) (a.extract sb (sb+m)) out.toList ->
   wpS (model prog w) A E s (do
    modify λs2=>aak s2 (out.toList.zipIdx.foldl (λx z=>match z with|(p,j)=>x.setIfInBounds (sa+k+j) p) (ZP s2))
    let y <- get
    pure (abM y).isNone:StateT ZM Sem Bool) Q gP:=by
  rintro out gP e ⟨gp,gs⟩;refine Zf (abl (Zf (ack (Zm ?_))));show Q (abM gP).isNone (aak gP (Eo (ZP gP) (sa+k) out.toList));rw[e.fail,IS,e.arr,IT];have zo:out.toList.length=sb-(sa+k)+m:=by
   rw[gp.length_eq,Zk,ZJ,ZJ,zx,zy]
  have hb:sa+k+out.toList.length<=a.size:=by lia
  have xy:(a.toList.drop (sa+k)).take out.toList.length=(a.extract (sa+k) sb).toList++(a.extract sb (sb+m)).toList:=by
   rw[cU,cU,zo,show sb+m-sb=m by lia,List.take_add,List.drop_drop,show sa+k+(sb-(sa+k))=sb by lia]
  have R:Rg a (Eo a (sa+k) out.toList) (sa+k) (sa+k+out.toList.length):=Ir hb (by rw[xy];exact gp)
  refine h _ (e.kind.trans yN) (e.fail.trans IS) (e.pend.trans Mw) (R.mono (by lia) (by lia)) ?_
  show SR c (Eo a (sa+k) out.toList) sa (sb+nb);have KO:∀t,sa+k<=t->t<sb+m->∃z,out.toList[t-(sa+k)]?=some z/\el (Eo a (sa+k) out.toList) t=z/\((∃u,sa+k<=u/\u<sb/\z=el a u)\/∃u,sb<=u/\u<sb+m/\z=el a u):=by
   intro t h1 h2;have hl:t-(sa+k)<out.toList.length:=by lia
   refine{out.toList[t-(sa+k)],Y5 hl,yn (by rw[qS hb,if_pos (by lia)];exact Y5 hl),?_}
   have nO:=gp.mem_iff.mp (aaD hl);rcases Zt.mp nO with q|q
   ·exact .inl (xT (by lia) q)
   ·exact .inr (xT (by lia) q)
  have VE:∀t,t<sa+k->el (Eo a (sa+k) out.toList) t=el a t:=λt ht=>R.out t (.inl ht);have Qa:∀t,sb+m<=t->el (Eo a (sa+k) out.toList) t=el a t:=λt ht=>R.out t (.inr (by lia))
  intro x y h1 h2 h3
  by_cases hx:x<sa+k
  ·rw[VE x hx]
   by_cases hy:y<sa+k
   ·rw[VE y hy];exact s1 x y h1 h2 (by lia)
   ·by_cases RA:y<sb+m
    ·obtain⟨z,_,ez,Rz⟩:=KO y (by lia) RA
     rw[ez];rcases Rz with⟨u,u1,u2,rfl⟩|⟨u,u1,u2,rfl⟩
     ·exact s1 x u h1 (by lia) u2
     ·exact O.trans (g0 x h1 hx) (s2 sb u (Y8 _) u1 (by lia))
    ·rw[Qa y (by lia)]
     exact O.trans (g0 x h1 hx) (s2 sb y (Y8 _) (by lia) h3)
  ·by_cases RE:x<sb+m
   ·obtain⟨z,iz,ez,Rz⟩:=KO x (by lia) RE
    rw[ez]
    by_cases RA:y<sb+m
    ·obtain⟨z',WC,TU,_⟩:=KO y (by lia) RA
     rw[TU]
     by_cases RD:x=y
     ·subst RD;rw[ez]at TU;rw[TU];exact O.refl _
     ·obtain⟨q1,q2⟩:=Y_.mp iz;obtain⟨q3,q4⟩:=Y_.mp WC;have:=List.pairwise_iff_getElem.mp gs _ _ q1 q3 (by lia)
      rw[q2,q4]at this;exact this
    ·rw[Qa y (by lia)]
     rcases Rz with⟨u,u1,u2,rfl⟩|⟨u,u1,u2,rfl⟩
     ·exact O.trans (s1 u (sb-1) (by lia) (by lia) (by lia)) (g3 y (by lia) h3)
     ·exact s2 u y (by lia) (by lia) h3
   ·rw[Qa x (by lia),Qa y (by lia)]
    exact s2 x y (by lia) h2 h3
 have go:∀(out:Array Za) (gP:ZM),lH QK gP->Gd c (a.extract (sa+k) sb) (a.extract sb (sb+m)) out.toList->wpS (model prog w) A E s (do
    modify λs2=>aak s2 (out.toList.zipIdx.foldl (λx z=>match z with|(p,j)=>x.setIfInBounds (sa+k+j) p) (ZP s2))
    let y <- get
    pure (abM y).isNone:StateT ZM Sem Bool) Q gP:=fin
 have RF:0<(a.extract (sa+k) sb).size:=by lia
 have Va:0<(a.extract sb (sb+m)).size:=by lia
 have Sx:∀t,t<(a.extract (sa+k) sb).size->el (a.extract (sa+k) sb) t∈a₀.toList:=λt ht=>by rw[ex (by lia)];exact hm (by lia)
 have Sy:∀t,t<(a.extract sb (sb+m)).size->el (a.extract sb (sb+m)) t∈a₀.toList:=λt ht=>by rw[ey (by lia)];exact hm (by lia)
 have UI:SR c (a.extract (sa+k) sb) 0 (a.extract (sa+k) sb).size:=λx y h1 h2 h3=>by
  rw[ex (by lia),ex (by lia)]
  exact s1 _ _ (by lia) (by lia) (by lia)
 have UH:SR c (a.extract sb (sb+m)) 0 (a.extract sb (sb+m)).size:=λx y h1 h2 h3=>by
  rw[ey (by lia),ey (by lia)]
  exact s2 _ _ (by lia) (by lia) (by lia)
 have hf:c (el (a.extract sb (sb+m)) 0) (el (a.extract (sa+k) sb) 0)=true:=by
  rw[ex (by lia),ey (by lia)]
  exact g1
 have hl:∀y,y<(a.extract sb (sb+m)).size->c (el (a.extract sb (sb+m)) y) (el (a.extract (sa+k) sb) ((a.extract (sa+k) sb).size-1))=true:=λy hy=>by
  rw[ey (by lia),ex (by lia),show sa+k+((a.extract (sa+k) sb).size-1)=sb-1 by lia]
  exact g2 _ (by lia) (by lia)
 by_cases e3:na-k<=m
 ·rw[if_pos e3];exact Zf (vA O L yN Sx Sy UI UH RF Va hf hl go)
 ·rw[if_neg e3];exact Zf (vB O L yN Sx Sy UI UH RF Va hf hl go)
end
section
variable {c:Za->Za->Bool}{a b:Array Za}
def Runs (c:Za->Za->Bool)(a:Array Za):List (Nat×Nat×Nat)->Nat->Nat->Prop
 |[],lo,hi=>lo=hi
 |z::r,lo,hi=>z.1=lo/\1<=z.2.1/\SR c a lo (lo+z.2.1)/\Runs c a r (lo+z.2.1) hi
theorem Runs.app:∀{l r:List (Nat×Nat×Nat)} {lo hi:Nat},Runs c a (l++r) lo hi->∃m,Runs c a l lo m/\Runs c a r m hi
 |[],r,lo,hi,h=>{(lo),rfl,h}
 |z::l,r,lo,hi,⟨h1,h2,h3,h4⟩=>by
  obtain⟨m,g1,g2⟩:=Runs.app h4;exact{m,{(h1),h2,h3,g1},g2}
theorem Runs.join:∀{l r:List (Nat×Nat×Nat)} {lo m hi:Nat},Runs c a l lo m->Runs c a r m hi->Runs c a (l++r) lo hi
 |[],r,lo,m,hi,h,g=>by
  obtain rfl:lo=m:=h;exact g
 |z::l,r,lo,m,hi,⟨h1,h2,h3,h4⟩,g=>{h1,h2,h3,Runs.join h4 g}
theorem Runs.len:∀{l:List (Nat×Nat×Nat)} {lo hi:Nat},Runs c a l lo hi->lo+l.length<=hi
 |[],lo,hi,h=>Nat.le_of_eq h
 |z::l,lo,hi,⟨h1,h2,h3,h4⟩=>by
  have:=Runs.len h4;rw[Zb];lia
theorem Runs.congr:∀{l:List (Nat×Nat×Nat)} {lo hi:Nat},Runs c a l lo hi->(∀k,lo<=k->k<hi->el b k=el a k)->Runs c b l lo hi
 |[],lo,hi,h,_=>h
 |z::l,lo,hi,⟨h1,h2,h3,h4⟩,e=>by
  have hl:=Runs.len h4;exact{h1,h2,h3.congr λk g1 g2=>e k g1 (by lia),Runs.congr h4 λk g1 g2=>e k (by lia) g2}
theorem Runs.pow:∀{l l':List (Nat×Nat×Nat)} {lo hi:Nat},Runs c a l lo hi->l'.map (λz=>(z.1,z.2.1))=l.map (λz=>(z.1,z.2.1))->Runs c a l' lo hi
 |[],[],_,_,h,_=>h
 |[],z::l',_,_,_,e=>by cases e
 |z::l,[],_,_,_,e=>by cases e
 |z::l,z'::l',lo,hi,⟨h1,h2,h3,h4⟩,e=>by
  rw[ZE,ZE]at e;injection e with e1 e2
  injection e1 with e3 e4
  exact{e3.trans h1,by rw[e4];exact h2,by rw[e4];exact h3,by rw[e4];exact Runs.pow h4 e2}
end
section
variable {prog:Y7}{w:Zj}{A:Z0}{E:Y1->Y4->Prop}{s:Y4}{κ:abA}{c:Za->Za->Bool}{a₀:Array Za}
def IW {α:Type}{l:List α}{i:Nat}(h:i+1<l.length):∃l1 x y l2,l=l1++x::y::l2/\l1.length=i:=by
 refine{l.take i,l[i],l[i+1],l.drop (i+2),?_,by rw[ZI];lia}
 rw[<- Z6 h,<- Z6 (by lia),abg]
def pC (O:cW c)(L:gN prog w A E s κ c (·∈a₀.toList)){st:ZM}{i hi:Nat}{Q:Bool->ZM->Prop}(h0:lD κ a₀ st)(hr:Runs c (ZP st) (Zz st).toList 0 hi)(hh:hi<=a₀.size)(Gm:i+1<(Zz st).size)
  (h:∀aG,lD κ a₀ aG->Rg (ZP st) (ZP aG) 0 hi->Runs c (ZP aG) (Zz aG).toList 0 hi->(Zz aG).size+1=(Zz st).size->Q true aG) :
  wpS (model prog w) A E s (mergeAt' i) Q st:=by
 obtain⟨l1,⟨sa,na,pw⟩,⟨sb,nb,Q5⟩,l2,el,hl⟩:=IW (l:=(Zz st).toList) (i:=i) (by rw[ZJ];exact Gm)
 rw[el]at hr;obtain⟨m,r1,r2⟩:=hr.app;obtain⟨x1,x2,x3,y1,y2,y3,r3⟩:=r2;dsimp only at x1 x2 x3 y1 y2 y3 r3;have hlen:=r3.len;have Vk:=r1.len;have p1:(Zz st)[i]?=some (sa,na,pw):=by
  rw[<- ZG,el,ZY (by lia),hl,aca]
  rfl
 have p2:(Zz st)[i+1]?=some (sb,nb,Q5):=by
  rw[<- ZG,el,ZY (by lia),hl,show i+1-i=1 by lia]
  rfl
 subst x1;refine vC O L h0 p1 p2 y1 x2 y2 (by lia) (by rw[y1];exact x3) (by rw[y1];exact y3) λaG k1 k2 k3 R S=>?_
 have ep:(Zz aG).toList=l1++(sa,na+nb,pw)::l2:=by
  rw[k3];have hz:i+1<((Zz st).setIfInBounds i (sa,na+nb,pw)).size:=by rw[Array.size_setIfInBounds];exact Gm
  have e1:(((Zz st).setIfInBounds i (sa,na+nb,pw)).eraseIdxIfInBounds (i+1)).toList=((Zz st).toList.set i (sa,na+nb,pw)).eraseIdx (i+1):=by
   unfold Array.eraseIdxIfInBounds;rw[dif_pos hz,Array.toList_eraseIdx,Array.toList_setIfInBounds]
  rw[e1,el,<- hl,List.set_append_right _ _ (Y8 _),aca,List.set_cons_zero,List.eraseIdx_append_of_length_le (by lia),show l1.length+1-l1.length=1 by lia]
  rfl
 have out:∀k,(k<sa\/sb+nb<=k)->TS.el (ZP aG) k=TS.el (ZP st) k:=R.out;refine h aG {k1,k2,R.perm.trans h0.perm} (R.mono (Zn _) (by lia)) ?_ ?_
 ·rw[ep];refine Runs.join (r1.congr λk g1 g2=>out k (.inl (by lia))) {rfl,by show 1<=na+nb;lia,?_,?_}
  ·show SR c (ZP aG) sa (sa+(na+nb));rw[show sa+(na+nb)=sb+nb by lia]
   exact S
  ·show Runs c (ZP aG) l2 (sa+(na+nb)) hi;rw[show sa+(na+nb)=sa+na+nb by lia]
   exact r3.congr λk g1 g2=>out k (.inr (by lia))
 ·have e2:(Zz aG).size=l1.length+(l2.length+1):=by rw[<- ZJ,ep,Zk,Zb]
  have e3:(Zz st).size=l1.length+(l2.length+1+1):=by rw[<- ZJ,el,Zk,Zb,Zb]
  lia
theorem nr:∀(f n r:Nat),1<=n->1<=minRun' f n r
 |0,n,r,h=>by show 1<=n+r;lia
 |f+1,n,r,h=>by
  rw[minRun'_succ]
  split
  ·lia
  ·exact nr f _ _ (by lia)
def E8 (p:Array (Nat×Nat×Nat))(i w:Nat):(p.modify i λx=>(x.1,x.2.1,w)).toList.map (λz=>(z.1,z.2.1))=p.toList.map (λz=>(z.1,z.2.1)):=by
 apply aau;intro k;rw[Zg,Zg,ZG,ZG,Array.getElem?_modify]
 split
 ·rw[Option.map_map];rfl
 ·rfl
def sZ (O:cW c)(L:gN prog w A E s κ c (·∈a₀.toList)){st:ZM}{Q:Unit->ZM->Prop}(h0:lD κ a₀ st)(hp:Zz st=#[])(h2:2<=a₀.size)
  (h:∀aG,lD κ a₀ aG->SR c (ZP aG) 0 a₀.size->Q () aG):wpS (model prog w) A E s sortRuns' Q st:=by
 rw[sortRuns'_eq];refine Zf (ack ?_);dsimp only;rw[h0.size];have W_:=nr a₀.size a₀.size 0 (by lia)
 generalize minRun' a₀.size a₀.size 0=mr at W_;refine Zf (aaJ (aac (I:=λx r aG=>lD κ a₀ aG/\∃lo,r=(none,lo)/\lo<=a₀.size/\(a₀.size<=lo\/x<=lo)/\Runs c (ZP aG) (Zz aG).toList 0 lo)
  (Q:=λr aG=>lD κ a₀ aG/\r=(none,a₀.size)/\Runs c (ZP aG) (Zz aG).toList 0 a₀.size) ?_ ?_ ?_) ?_)
 ·rintro x r aG _ hx ⟨hS,lo,rfl,S5,S3,hr⟩;dsimp only
  by_cases hl:lo >= a₀.size
  ·rw[if_pos hl];obtain rfl:lo=a₀.size:=by lia
   exact Zm {(hS),rfl,hr}
  rw[if_neg hl];refine Zf (AY O L hS (by lia) (by lia) λn b n1 n2 R Sb=>?_)
  dsimp only;have vh:lD κ a₀ (aak aG b):=hS.set R;have wH:Runs c (ZP (aak aG b)) (Zz (aak aG b)).toList 0 lo:=Runs.congr (b:=b) hr λk q1 q2=>R.out k (.inl q2);refine(λ(key:∀(N:Nat) (stx:ZM),1<=N->lo+N<=a₀.size->Runs c (ZP stx) (Zz stx).toList 0 lo->lD κ a₀ stx->SR c (ZP stx) lo (lo+N)->(?G:Nat->ZM->Prop) N stx)=>?main) ?key
  case main =>
   by_cases Ve:n<mr
   ·rw[if_pos Ve];refine Zf (wpS_lift (abm {rfl,?_}));refine Zf (Iz O L vh (by lia) (by lia) (by lia) Sb λb' R' XW=>?_)
    rw[if_neg (by simp)]
    have P8:1<=min (a₀.size-lo) mr:=by lia
    have ON:lo+min (a₀.size-lo) mr<=a₀.size:=by lia
    have wH:Runs c (ZP (aak (aak aG b) b')) (Zz (aak (aak aG b) b')).toList 0 lo:=Runs.congr (b:=b') wH λk q1 q2=>R'.out k (.inl q2);have vh:lD κ a₀ (aak (aak aG b) b'):=vh.set R';have Ih:SR c (ZP (aak (aak aG b) b')) lo (lo+(min (a₀.size-lo) mr)):=XW;generalize aak (aak aG b) b'=stx at wH vh Ih ⊢
    generalize min (a₀.size-lo) mr=N at P8 ON Ih ⊢
    exact key N stx P8 ON wH vh Ih
   ·rw[if_neg Ve];have Ih:SR c (ZP (aak aG b)) lo (lo+n):=Sb;exact key n _ n1 (by lia) wH vh Ih
  case key =>
   intro N stx P8 ON wH vh Ih;refine Zf (ack ?_);have Pc:∀(mT:ZM),lD κ a₀ mT->SR c (ZP mT) lo (lo+N)->Runs c (ZP mT) (Zz mT).toList 0 lo->lD κ a₀ (abY mT ((Zz mT).push (lo,N,0)))/\∃Hw,((none,lo+N):Option Unit×Nat)=(none,Hw)/\Hw<=a₀.size/\(a₀.size<=Hw\/x+1<=Hw)/\Runs c (ZP mT) ((Zz mT).push (lo,N,0)).toList 0 Hw:=λmT g1 g2 g3 =>
    {{(g1.kind),g1.fail,g1.perm},_,rfl,by lia,by lia,by rw[abj];exact g3.join {(rfl),P8,g2,rfl}}
   cases hb:(Zz stx).back? with
   |none =>
    dsimp only;exact Zf (abl (Zm (Pc stx vh Ih wH)))
   |some z =>
    obtain⟨s1,n1,p1⟩:=z;dsimp only;refine Zf (aaJ (aac (I:=λx r aG=>r=(none,())/\lD κ a₀ aG/\SR c (ZP aG) lo (lo+N)/\Runs c (ZP aG) (Zz aG).toList 0 lo)
     (Q:=λr aG=>r=(none,())/\lD κ a₀ aG/\SR c (ZP aG) lo (lo+N)/\Runs c (ZP aG) (Zz aG).toList 0 lo) ?_ ?_ ?_) ?_)
    ·rintro y r mT _ _ ⟨rfl,g1,g2,g3⟩;refine Zf (ack ?_)
     by_cases LP:(Zz mT).size>1
     ·rw[if_pos LP];cases hq:(Zz mT)[(Zz mT).size-2]? with
      |none =>
       dsimp only;exact Zm {(rfl),g1,g2,g3}
      |some z =>
       obtain⟨u,v,UU⟩:=z;dsimp only
       split
       ·exact Zm {(rfl),g1,g2,g3}
       ·refine Zf (pC O L g1 g3 (by lia) (by lia) λUG f1 f2 f3 f4=>?_)
        exact Zm {rfl,f1,g2.congr λk q1 q2=>f2.out k (.inr q1),f3}
     ·rw[if_neg LP];dsimp only;exact Zm {(rfl),g1,g2,g3}
    ·rintro r mT ⟨rfl,g1,g2,g3⟩;exact{(rfl),g1,g2,g3}
    ·exact{(rfl),vh,Ih,wH}
    rintro r mT ⟨rfl,g1,g2,g3⟩;dsimp only;refine Zf (abl (Zf (abl (Zm ?_))));exact Pc (abY mT _) {(g1.kind),g1.fail,g1.perm} g2 (g3.pow (E8 _ _ _))
 ·rintro r aG ⟨hS,lo,rfl,S5,S3,hr⟩;obtain rfl:lo=a₀.size:=by lia
  exact{(hS),rfl,hr}
 ·exact{h0,0,rfl,Zn _,.inr (Y8 _),by rw[hp];rfl}
 rintro r aG ⟨hS,rfl,hr⟩;dsimp only;refine Zf (aaJ (aac (I:=λx r aG=>r=(none,())/\lD κ a₀ aG/\Runs c (ZP aG) (Zz aG).toList 0 a₀.size/\((Zz aG).size<=1\/(Zz aG).size+x<=a₀.size))
  (Q:=λr aG=>r=(none,())/\lD κ a₀ aG/\Runs c (ZP aG) (Zz aG).toList 0 a₀.size/\(Zz aG).size<=1) ?_ ?_ ?_) ?_)
 ·rintro x r gP _ hx ⟨rfl,vh,wH,hz⟩;refine Zf (ack ?_)
  by_cases h1:(Zz gP).size<=1
  ·rw[if_pos h1];exact Zm {(rfl),vh,wH,h1}
  rw[if_neg h1];refine Zf (pC O L vh wH (Y8 _) ?_ λmT Xu R3 W3 YD=>?_)
  ·split
   ·split <;> lia
   ·rw[if_neg (by simp)]
    lia
  ·exact Zm {rfl,Xu,W3,.inr (by lia)}
 ·rintro r gP ⟨rfl,vh,wH,hz⟩;exact{rfl,vh,wH,by lia}
 ·refine{rfl,hS,hr,.inr ?_};have:=hr.len;rw[ZJ]at this;lia
 ·rintro r gP ⟨rfl,vh,wH,hz⟩;refine Zm (h gP vh ?_)
  match hq:(Zz gP).toList,wH with
  |[],e=>
   have:(0:Nat)=a₀.size:=e;lia
  |[z],e =>
   obtain⟨e1,e2,e3,e4⟩:=e;have e4:0+z.2.1=a₀.size:=e4;rw[e4]at e3;exact e3
  |z::y::l,e =>
   have:(Zz gP).toList.length<=1:=by rw[ZJ];exact hz
   rw[hq]at this;simp at this
end
def lex_nil {y:List Int}:HT.lexLt [] y=decide (0<y.length):=by cases y <;> rfl
def ir {a b:Int}{x y:List Int}:HT.lexLt (a::x) (b::y)=if a=b then HT.lexLt x y else decide (a<b):=rfl
theorem nB:∀{x y:List Int},HT.lexLt x y=true->HT.lexLt y x=false
 |[],[],_=>rfl
 |[],_::_,_=>rfl
 |_::_,[],h=>by cases h
 |a::x,b::y,h=>by
  rw[ir]at h ⊢
  by_cases e:a=b
  ·rw[if_pos e]at h;rw[if_pos e.symm];exact nB h
  ·rw[if_neg e]at h;rw[if_neg λz=>e z.symm];have:=of_decide_eq_true h;exact decide_eq_false (by lia)
theorem rZ:∀{x z:List Int} (y:List Int),HT.lexLt x z=true->HT.lexLt x y=true\/HT.lexLt y z=true
 |[],[],_,h=>by cases h
 |[],_::_,[],h=>.inr rfl
 |[],_::_,_::_,h=>.inl rfl
 |_::_,[],_,h=>by cases h
 |a::x,b::z,[],h=>.inr rfl
 |a::x,b::z,d::y,h=>by
  rw[ir]at h ⊢
  rw[ir]
  by_cases e:a=b
  ·subst e;rw[if_pos rfl]at h
   by_cases e2:a=d
   ·subst e2;rw[if_pos rfl,if_pos rfl];exact rZ y h
   ·rw[if_neg e2,if_neg λq=>e2 q.symm]
    by_cases e3:a<d
    ·exact .inl (decide_eq_true e3)
    ·exact .inr (decide_eq_true (by lia))
  ·rw[if_neg e]at h;have h:=of_decide_eq_true h
   by_cases e2:a=d
   ·subst e2;rw[if_neg e];exact .inr (decide_eq_true h)
   ·rw[if_neg e2]
    by_cases e3:a<d
    ·exact .inl (decide_eq_true e3)
    ·rw[if_neg (by lia)]
     exact .inr (decide_eq_true (by lia))
theorem kZ:∀{x y:List Int},HT.lexLt x y=false->HT.lexLt y x=false->x=y
 |[],[],_,_=>rfl
 |[],_::_,h,_=>by cases h
 |_::_,[],_,h=>by cases h
 |a::x,b::y,h1,h2=>by
  rw[ir]at h1 h2
  by_cases e:a=b
  ·subst e;rw[if_pos rfl]at h1 h2;rw[kZ h1 h2]
  ·rw[if_neg e]at h1;rw[if_neg λq=>e q.symm]at h2;have h1:=of_decide_eq_false h1;have h2:=of_decide_eq_false h2;lia
def byKey (kf:Y1->List Int)(x y:Za):Bool:=HT.lexLt (kf x.1) (kf y.1)
def Fu (kf:Y1->List Int):cW (byKey kf):={λ_ _ h=>nB h,λ_ y _ h=>rZ (kf y.1) h}
section
variable {prog:Y7}{w:Zj}{A:Z0}{E:Y1->Y4->Prop}{s:Y4}
theorem uh {b:Bool}{Q:Bool->Y4->Prop}:∀{ns ms:List Int} {us vs:List Y1} (i:Nat),aaI us ns->aaI vs ms->Q (HT.lexLt ns ms) s->PySem.W.KatLex prog w A b (decide (ns.length<ms.length)) Q (us.zip vs) i s
 |[],ms,us,vs,i,hu,hv,q=>by
  cases hu;rw[abh];rw[lex_nil]at q;exact PySem.W.kat_nil q
 |n::ns,[],us,vs,i,hu,hv,q=>by
  cases hv;rw[List.zip_nil_right];exact PySem.W.kat_nil q
 |n::ns,m::ms,us,vs,i,hu,hv,q=>by
  cases hu with
  |cons _ t hu =>
   cases hv with
   |cons _ t' hv =>
    rw[aaf];refine PySem.W.kat_cons (wpAny_eqBool_int ?_);rw[ir]at q
    by_cases e:n=m
    ·subst e;rw[if_pos rfl]at q;rw[beq_self_eq_true];have:=uh (b:=b) (Q:=Q) (i+1) hu hv q;rw[show decide ((n::ns).length<(n::ms).length)=decide (ns.length<ms.length) by rw[Zb,Zb];congr 1;simp]
     exact PySem.W.kat_yes this
    ·rw[if_neg e]at q;rw[show (n==m)=false from beq_eq_false_iff_ne.mpr e]
     refine PySem.W.kat_no ?_;cases b&&i==0 with
     |true=>exact oneLt_int q
     |false=>exact PySem.W.kat_one _ _ (lt_int q)
def u9 (h:Heap)(kf:Y1->List Int)(a:Addr)(vs:List Y1):Prop :=
 ∀v∈vs,∃t o xs k,v=.ref t/\t≠a/\h.get? t=some o/\o.cls=.type "tuple" /\ o.data=.seq xs k/\aaI xs.toList (kf v)/\kf v≠[]
def zw {kf:Y1->List Int}{a:Addr}{vs:List Y1}{b:Bool}{a₀:Array Za}(T:u9 s.heap kf a vs)(hm:∀z∈a₀.toList,z.1∈vs):gN prog w A E s (tuples' b) (byKey kf) (·∈a₀.toList):=by
 intro x y st Q hx hy hk q;obtain⟨t,o,xs,n,e1,_,e2,_,e3,e4,_⟩:=T _ (hm _ hx);obtain⟨t',o',LD,n',f1,_,f2,_,f3,f4,_⟩:=T _ (hm _ hy);rw[lt'_eq];refine Zf (ack ?_);rw[hk,e1,f1];have z1:xs.size=(kf x.1).length:=by rw[<- ZJ];exact e4.length
 have z2:LD.size=(kf y.1).length:=by rw[<- ZJ];exact f4.length
 refine Zf (wpS_lift (abz (PySem.W.kat_lt e2 e3 f2 f3 ?_)));rw[z1,z2];exact uh 0 e4 f4 {rfl,Zm q}
theorem mM {kf:Y1->List Int}{a:Addr}{h:Heap}:∀{vs:List Y1},u9 h kf a vs->∃fs:List Y1,PySem.W.KatTups h vs fs/\fs.length=vs.length/\∀f∈fs,∃n t,f=Value.int n t
 |[],_=>{[],tv,rfl,λf hf=>by cases hf}
 |v::vs,T=>by
  obtain⟨fs,h1,h2,h3⟩:=mM (vs:=vs) λu hu=>T u (Zu _ hu);obtain⟨t,o,xs,k,rfl,_,e2,e3,e4,e5,e6⟩:=T v ZK;obtain⟨f,r,ef,n,tk,hn⟩:∃f r,xs.toList=f::r/\∃n tk,f=Value.int n tk:=by
   generalize kf (.ref t)=ks at e5 e6;generalize xs.toList=us at e5;cases e5 with
   |nil=>exact absurd rfl e6
   |cons n tk r=>exact{_,_,rfl,_,_,rfl}
  have e:xs[0]?=some f:=by rw[<- ZG,ef];rfl
  exact⟨f::fs,PySem.W.KatTups.cons e2 e3 e4 e h1,by rw[Zb,Zb,h2],λg hg=>by
   rcases Y6.mp hg with rfl|hg
   ·exact{_,_,hn}
   ·exact h3 g hg⟩
def zF {kf:Y1->List Int}{a:Addr}{vs:List Y1}{Q:abA->Y4->Prop}(T:u9 s.heap kf a vs)(h0:0<vs.length)(q:Q (tuples' true) s):Zy (model prog w) A (keyKind' vs.toArray) Q E s:=by
 obtain⟨fs,h1,h2,h3⟩:=mM T;refine PySem.W.kat_kind (T:=.type "int") h1 (by lia) (λv hv=>?_) (by decide) q
 obtain⟨n,t,rfl⟩:=h3 v hv;exact .now
theorem Bn {α:Type}{R:α->α->Prop}:∀{l:List α},l.length<2->l.Pairwise R
 |[],_=>.nil
 |[x],_=>List.pairwise_singleton _ _
 |_::_::_,h=>by
  rw[Zb,Zb]at h;lia
def wo {a:Addr} {vs:List Y1} {n:Nat} {κ:abA} {c:Y1->Y1->Bool} {P:PySem.Fin->Y4->Prop} (ho:s.heap.get? a=some (abw "list" vs.toArray n)) (hz:vs.length<=1000000) (O:cW λx y=>c x.1 y.1)
  (T:∀s':Y4,(∀t o,t≠a->s.heap.get? t=some o->s'.heap.get? t=some o)->(2<=vs.length->∀(Q:abA->Y4->Prop),Q κ s'->Zy (model prog w) A (keyKind' vs.toArray) Q E s')/\gN prog w A E s' κ (λx y=>c x.1 y.1) (·∈(vs.toArray.zip vs.toArray).toList))
  (h:∀out:List Y1,out.Perm vs->out.Pairwise (λx y=>c y x=false)->P (.done (.ret .none)) {s with heap:=sortedHeap s.heap a vs out.toArray}) :
  Zy (model prog w) A (abb.«list.sort» {[.ref a],[]}) P E s:=by
 have la:a<s.heap.objs.size:=Zo ho;obtain⟨ep,hc⟩:∃ep,(s.heap.update a (aaZ λ_=>#[])).get? a=some (abw "list" #[] ep):={_,get?_update_seq ho (λ_=>#[])};have old:∀t o,t≠a->s.heap.get? t=some o->(((s.heap.update a (aaZ λ_=>#[])).push (abw "tuple" vs.toArray 0)).push (abw "list" #[] 0)).get? t=some o:=λt o ht e =>
  Ze _ (Ze _ (by rw[Heap.get?_update_ne _ _ _ _ ht];exact e))
 have jr:(((s.heap.update a (aaZ λ_=>#[])).push (abw "tuple" vs.toArray 0)).push (abw "list" #[] 0)).get? a=some (abw "list" #[] ep):=Ze _ (Ze _ hc);have big:∀m:Nat,m<=vs.length->m<=Zd:=λm hm=>by rw[aaK];lia
 have zz:vs.toArray.size=vs.length:=by simp
 rw[list_sort_plain];refine Y2 (listItems_at ho rfl ?_);refine Y2 (listUpdate_at ho rfl ?_ (big _ (Nat.le_of_eq zz)) (Zn _));refine Y2 (seqEpoch_at hc rfl ?_);refine Y2 (wpAny_newTuple ?_ (big _ (Y8 _)));refine Y2 (wpAny_newList ?_ (Zn _));refine aav ?_;show Zy (model prog w) A _ P E {s with heap:=((s.heap.update a (aaZ λ_=>#[])).push (abw "tuple" vs.toArray 0)).push (abw "list" #[] 0)}
 dsimp only;have done:∀aG:ZM,(ZP aG).Perm (vs.toArray.zip vs.toArray)->(ZP aG).toList.Pairwise (le λx y=>c x.1 y.1)->P (.done (.ret .none)) {s with heap:=sortedHeap s.heap a vs ((ZP aG).map (·.2))}:=λaG hp hs=>by
  have h1:∀z∈(ZP aG).toList,z.1=z.2:=λz hz=>by
   have:=(abt.mp hp).mem_iff.mp hz;rw[Array.toList_zip]at this;obtain⟨i,hi⟩:=abr this;rw[acj]at hi;exact ZZ (hi.1.symm.trans hi.2)
  have e2:(ZP aG).map (·.2)=((ZP aG).toList.map (·.2)).toArray:=by
   apply Array.toList_inj.mp;rw[Array.toList_map]
  rw[e2];refine h _ ?_ ?_
  ·have:=(abt.mp hp).map (λz:Za=>z.2);rw[Array.toList_zip]at this;refine this.trans (List.Perm.of_eq ?_);exact List.map_snd_zip (by simp)
  ·rw[acr];refine hs.imp_of_mem λ{x y} hx hy hl=>?_;rw[<- h1 x hx,<- h1 y hy];exact hl
 by_cases h2:vs.toArray.size<2
 ·rw[if_pos h2,if_pos h2];refine Y2 (Zi ?_);rw[StateT.run_pure];refine Y2 (Zi ?_);dsimp only;refine Y2 (seqEpoch_at jr rfl ?_);refine Y2 (listUpdate_at jr rfl ?_ (Zn _) (by rw[Array.size_map,Array.size_zip];exact ZX (big _ (by lia)) (Nat.le_succ _)))
  simp only[bne_self_eq_false,aaS,if_false];refine Zi (done (SortSt.mk' general' (vs.toArray.zip vs.toArray) #[] 7 none) (Array.Perm.refl _) ?_);refine Bn ?_;show (vs.toArray.zip vs.toArray).toList.length<2;rw[ZJ,Array.size_zip];lia
 ·rw[if_neg h2,if_neg h2];obtain⟨hK,L⟩:=T {s with heap:=((s.heap.update a (aaZ λ_=>#[])).push (abw "tuple" vs.toArray 0)).push (abw "list" #[] 0)} old
  refine Y2 (hK (by lia) _ ?_)
  have zp:(vs.toArray.zip vs.toArray).size=vs.length:=by rw[Array.size_zip];lia
  refine Y2 (abn (sZ (Q:=λ_ aG=>(ZP aG).Perm (vs.toArray.zip vs.toArray)/\abM aG=none/\SR (λx y=>c x.1 y.1) (ZP aG) 0 vs.length) O L
   (st:=SortSt.mk' κ (vs.toArray.zip vs.toArray) #[] 7 none) {rfl,rfl,Array.Perm.refl _} rfl (by lia) λaG g1 g2=>{g1.perm,g1.fail,by rw[zp]at g2;exact g2}) ?_ λ_ _ e=>e)
  rintro⟨⟨⟩,aG⟩ s' ⟨rfl,hp,hf,hs⟩;dsimp only;have zs:(ZP aG).size=vs.length:=hp.size_eq.trans zp;refine Y2 (seqEpoch_at jr rfl ?_);refine Y2 (listUpdate_at jr rfl ?_ (Zn _) (by rw[Array.size_map,zs];exact ZX (big _ (Y8 _)) (Nat.le_succ _)))
  rw[hf];simp only[bne_self_eq_false,aaS,if_false];refine Zi (done aG hp ?_);rw[List.pairwise_iff_getElem];intro i j hi hj aD;rw[ZJ]at hi hj;have:=hs i j (Zn _) (by lia) (by lia)
  have ei:el (ZP aG) i=(ZP aG).toList[i]:=yn (by rw[<- ZG];exact Y5 _)
  have ej:el (ZP aG) j=(ZP aG).toList[j]:=yn (by rw[<- ZG];exact Y5 _)
  rw[ei,ej]at this;exact this
def wm {a:Addr} {vs:List Y1} {n:Nat} {kf:Y1->List Int} {P:PySem.Fin->Y4->Prop} (ho:s.heap.get? a=some (abw "list" vs.toArray n)) (hz:vs.length<=1000000) (T:u9 s.heap kf a vs)
  (h:∀out:List Y1,out.Perm vs->out.Pairwise (λx y=>HT.lexLt (kf y) (kf x)=false)->P (.done (.ret .none)) {s with heap:=sortedHeap s.heap a vs out.toArray}) :
  Zy (model prog w) A (abb.«list.sort» {[.ref a],[]}) P E s:=by
 refine wo (κ:=tuples' true) (c:=λx y=>HT.lexLt (kf x) (kf y)) ho hz (Fu kf) (λs' kp=>?_) h;have T':u9 s'.heap kf a vs:=λv hv=>by
  obtain⟨t,o,xs,k,e1,e2,e3,r⟩:=T v hv;exact{t,o,xs,k,e1,e2,kp t o e2 e3,r}
 exact⟨λh2 Q q=>zF T' (by lia) q,zw T' λz hz=>by
  rw[Array.toList_zip]at hz;exact(abG hz).1⟩
end
end TS
namespace ST
open PySem PyProof.Rows
section
variable {prog:Y7}{w:Zj}
abbrev TK (prog:Y7)(w:Zj):=acz (intKind prog w)
abbrev kH (prog:Y7)(w:Zj)(k:List Int):Int:=(TK prog w).hash k
abbrev ent (prog:Y7)(w:Zj)(x:Addr×List Int):Int×Y1:=(kH prog w x.2,.ref x.1)
structure Uh (prog:Y7)(w:Zj)(o:Obj)(ts:List (Addr×List Int))(es:Array (Int×Y1))(ep:Nat)(t:SetTable):Prop where
 ex:o.ExactSet
 dat:o.data=.set es ep t
 YV:es.toList=ts.map (ent prog w)
 wf:WF t (ts.map λx=>kH prog w x.2)
 Yq:t.place.size*5<t.mask*3
 Wu:t.mask<=8191
 led:t.led=!w.params.followText "set-order"
 Yv:t.plain=true
 Yy:(ts.map (·.2)).Nodup
end
end ST
namespace L2
open PySem PySem.Spec PyProof.Rows
inductive D where
 |cN|bl (b:Bool)|int (i:Int)|str (x:Str)|obj (a:Addr)
 |tup (ds:List D)|lst (ds:List D)
 |dT (ks:List (List Key)) (ds:List D)|dK (ks:List Key) (ds:List D)
 |sT (ts:List (List Int))
 |ob (φ:Addr->HO)
def Ja (P:Y7)(w:Zj)(a:Addr)(ts:List (Addr×List Int))(h:Heap):Prop:=∃o es ep t,h.get? a=some o/\ST.Uh P w o ts es ep t
abbrev Pb (P:Y7)(w:Zj)(a:Addr)(ts:List (Addr×List Int)):HO:=.ext (Ja P w a ts)
def GY (P:Y7)(w:Zj)(H:Hp)(a:Addr)(ts:List (List Int)):Prop :=
 ∃jz:List (Addr×List Int),H a=some (Pb P w a jz)/\(∀x∈jz,H x.1=some (.tup (x.2.map V.int)))/\(jz.map (·.2)).Perm ts
section
variable (P:Y7)(w:Zj)(W:Addr->Prop)(H:Hp)
mutual
def aC:D->V->Prop
 |.cN,v=>v=.cN
 |.bl b,v=>v=.bl b
 |.int i,v=>v=.int i
 |.str x,v=>v=.str x
 |.obj a,v=>v=.ref a
 |.tup ds,v=>∃a vs,v=.ref a/\H a=some (.tup vs)/\ai ds vs
 |.lst ds,v=>∃a vs,v=.ref a/\H a=some (.lst vs)/\¬ W a/\ai ds vs
 |.dT ks ds,v=>∃a vs,v=.ref a/\H a=some (.dT (ks.zip vs))/\ks.length=vs.length/\¬ W a/\ai ds vs
 |.dK ks ds,v=>∃a vs,v=.ref a/\H a=some (.dK (ks.zip vs))/\ks.length=vs.length/\¬ W a/\ai ds vs
 |.sT ts,v=>∃a,v=.ref a/\GY P w H a ts/\¬ W a
 |.ob φ,v=>∃a,v=.ref a/\(H a=some (φ a)/\∀xs,φ a≠.tup xs)/\¬ W a
def ai:List D->List V->Prop
 |[],vs=>vs=[]
 |d::ds,vs=>∃v r,vs=v::r/\aC d v/\ai ds r
end
end
mutual
def D.flat:D->Bool
 |.tup ds=>D.cK ds
 |.lst _=>false
 |.dT _ _=>false
 |.dK _ _=>false
 |.sT _=>false
 |.ob _=>false
 |_=>true
def D.cK:List D->Bool
 |[]=>true
 |d::ds=>D.flat d&&D.cK ds
end
structure Kp (W:Addr->Prop)(H H':Hp):Prop where
 out:∀b o,H b=some o->¬ W b->H' b=some o
 tup:∀b xs,H b=some (.tup xs)->H' b=some (.tup xs)
def Kp.refl {W:Addr->Prop}{H:Hp}:Kp W H H:={λ_ _ e _=>e,λ_ _ e=>e}
def Kp.trans {W:Addr->Prop}{H H1 H2:Hp}(a:Kp W H H1)(b:Kp W H1 H2):Kp W H H2:={λc o e n=>b.out c o (a.out c o e n) n,λc xs e=>b.tup c xs (a.tup c xs e)}
def aB.kp {W:Addr->Prop}{H H':Hp}(h:aB H H'):Kp W H H':={λb o e _=>h b o e,λb xs e=>h b _ e}
def Kp.mono {W W':Addr->Prop}{H H':Hp}(h:Kp W H H')(s:∀a,W a->W' a):Kp W' H H':={λb o e n=>h.out b o e λz=>n (s b z),h.tup}
section
variable {P:Y7}{w:Zj}{W W':Addr->Prop}{H H':Hp}
mutual
theorem aC.keep (k:Kp W H H'):∀{d:D} {v:V},aC P w W H d v->aC P w W H' d v
 |.cN,_,h=>h
 |.bl _,_,h=>h
 |.int _,_,h=>h
 |.str _,_,h=>h
 |.obj _,_,h=>h
 |.tup ds,_,⟨a,vs,e,t,r⟩=>{a,vs,e,k.tup a vs t,ai.keep k r}
 |.lst ds,_,⟨a,vs,e,t,n,r⟩=>{a,vs,e,k.out a _ t n,n,ai.keep k r}
 |.dT ks ds,_,⟨a,vs,e,t,l,n,r⟩=>{a,vs,e,k.out a _ t n,l,n,ai.keep k r}
 |.dK ks ds,_,⟨a,vs,e,t,l,n,r⟩=>{a,vs,e,k.out a _ t n,l,n,ai.keep k r}
 |.sT ts,_,⟨a,e,⟨jz,t,r,z⟩,n⟩=>{a,e,{jz,k.out a _ t n,λx hx=>k.tup _ _ (r x hx),z},n}
 |.ob φ,_,⟨a,e,⟨t,z⟩,n⟩=>{a,e,{k.out a _ t n,z},n}
theorem ai.keep (k:Kp W H H'):∀{ds:List D} {vs:List V},ai P w W H ds vs->ai P w W H' ds vs
 |[],_,h=>h
 |d::ds,_,⟨v,r,e,h1,h2⟩=>{v,r,e,aC.keep k h1,ai.keep k h2}
end
mutual
theorem aC.aY (s:∀a,W' a->W a):∀{d:D} {v:V},aC P w W H d v->aC P w W' H d v
 |.cN,_,h=>h
 |.bl _,_,h=>h
 |.int _,_,h=>h
 |.str _,_,h=>h
 |.obj _,_,h=>h
 |.tup ds,_,⟨a,vs,e,t,r⟩=>{a,vs,e,t,ai.aY s r}
 |.lst ds,_,⟨a,vs,e,t,n,r⟩=>{a,vs,e,t,λz=>n (s a z),ai.aY s r}
 |.dT ks ds,_,⟨a,vs,e,t,l,n,r⟩=>{a,vs,e,t,l,λz=>n (s a z),ai.aY s r}
 |.dK ks ds,_,⟨a,vs,e,t,l,n,r⟩=>{a,vs,e,t,l,λz=>n (s a z),ai.aY s r}
 |.sT ts,_,⟨a,e,t,n⟩=>{a,e,t,λz=>n (s a z)}
 |.ob φ,_,⟨a,e,t,n⟩=>{a,e,t,λz=>n (s a z)}
theorem ai.aY (s:∀a,W' a->W a):∀{ds:List D} {vs:List V},ai P w W H ds vs->ai P w W' H ds vs
 |[],_,h=>h
 |d::ds,_,⟨v,r,e,h1,h2⟩=>{v,r,e,aC.aY s h1,ai.aY s h2}
end
mutual
theorem aC.flat:∀{d:D} {v:V},d.flat=true->aC P w W H d v->aC P w W' H d v
 |.cN,_,_,h=>h
 |.bl _,_,_,h=>h
 |.int _,_,_,h=>h
 |.str _,_,_,h=>h
 |.obj _,_,_,h=>h
 |.tup ds,_,f,⟨a,vs,e,t,r⟩=>{a,vs,e,t,ai.flat (by simpa[D.flat] using f) r}
 |.lst ds,_,f,_=>by simp[D.flat]at f
 |.dT ks ds,_,f,_=>by simp[D.flat]at f
 |.dK ks ds,_,f,_=>by simp[D.flat]at f
 |.sT ts,_,f,_=>by simp[D.flat]at f
 |.ob φ,_,f,_=>by simp[D.flat]at f
theorem ai.flat:∀{ds:List D} {vs:List V},D.cK ds=true->ai P w W H ds vs->ai P w W' H ds vs
 |[],_,_,h=>h
 |d::ds,_,f,⟨v,r,e,h1,h2⟩=>by
  have f':(d.flat&&D.cK ds)=true:=f;rw[ZW]at f';exact{v,r,e,aC.flat f'.1 h1,ai.flat f'.2 h2}
end
def aC.same (s:aB H H'){d:D}{v:V}(h:aC P w W H d v):aC P w W H' d v:=h.keep s.kp
def ai.same (s:aB H H'){ds:List D}{vs:List V}(h:ai P w W H ds vs):ai P w W H' ds vs:=h.keep s.kp
theorem ai.length:∀{ds:List D} {vs:List V},ai P w W H ds vs->vs.length=ds.length
 |[],_,h=>by rw[show _=[] from h];rfl
 |d::ds,_,⟨v,r,e,h1,h2⟩=>by rw[e,Zb,Zb,ai.length h2]
theorem ai.get:∀{ds:List D} {vs:List V} {i:Nat} {d:D},ai P w W H ds vs->ds[i]?=some d->∃v,vs[i]?=some v/\aC P w W H d v
 |[],_,_,_,_,e=>by simp at e
 |d::ds,_,0,_,⟨v,r,e,h1,h2⟩,e'=>by simp at e';subst e' e;exact{v,by simp,h1}
 |d::ds,_,i+1,_,⟨v,r,e,h1,h2⟩,e'=>by
  subst e;obtain⟨u,e1,e2⟩:=ai.get (i:=i) h2 (by simpa using e')
  exact{u,by simpa using e1,e2}
theorem ai.append:∀{ds ds':List D} {vs vs':List V},ai P w W H ds vs->ai P w W H ds' vs'->ai P w W H (ds++ds') (vs++vs')
 |[],_,_,_,h,h'=>by rw[show _=[] from h];exact h'
 |d::ds,_,_,_,⟨v,r,e,h1,h2⟩,h'=>by subst e;exact{v,_,rfl,h1,ai.append h2 h'}
def ai.one {d:D}{v:V}(h:aC P w W H d v):ai P w W H [d] [v]:={v,[],rfl,h,rfl}
theorem ai.take:∀{ds:List D} {vs:List V} (n:Nat),ai P w W H ds vs->ai P w W H (ds.take n) (vs.take n)
 |[],_,n,h=>by rw[show _=[] from h];simp[ai]
 |d::ds,_,0,_=>by simp[ai]
 |d::ds,_,n+1,⟨v,r,e,h1,h2⟩=>by subst e;exact{v,_,rfl,h1,ai.take n h2}
theorem ai.drop:∀{ds:List D} {vs:List V} (n:Nat),ai P w W H ds vs->ai P w W H (ds.drop n) (vs.drop n)
 |[],_,n,h=>by rw[show _=[] from h];simp[ai]
 |d::ds,_,0,h=>h
 |d::ds,_,n+1,⟨v,r,e,h1,h2⟩=>by subst e;exact ai.drop n h2
theorem ai.set {d:D}{v:V}(hd:aC P w W H d v):∀{ds:List D} {vs:List V} (i:Nat),ai P w W H ds vs->ai P w W H (ds.set i d) (vs.set i v)
 |[],_,_,h=>by rw[show _=[] from h];simp[ai]
 |_::ds,_,0,⟨v,r,e,h1,h2⟩=>by subst e;exact{_,_,rfl,hd,h2}
 |_::ds,_,i+1,⟨v,r,e,h1,h2⟩=>by subst e;exact{_,_,rfl,h1,ai.set hd i h2}
end
open PySem.SeqAt
abbrev Dm (W:Addr->Prop)(H:Hp):Prop:=∀a,W a->H a≠none
abbrev Rp (X:Cx)(W:Addr->Prop)(H:Hp)(d:D)(v:V):Prop:=aC X.prog X.w W H d v
abbrev mD (X:Cx)(W:Addr->Prop)(H:Hp)(ds:List D)(vs:List V):Prop:=ai X.prog X.w W H ds vs
def UO (X:Cx)(f:D->Option D):V->Hp->VK->Prop:=λx H Q=>∃W d1 d,Dm W H/\Rp X W H d1 x/\f d1=some d/\∀v H',aB H H'->Rp X W H' d v->Q v H'
def UN (X:Cx)(f:D->D->Option D):R2:=λx y H Q=>∃W d1 d2 d,Dm W H/\Rp X W H d1 x/\Rp X W H d2 y/\f d1 d2=some d/\∀v H',aB H H'->Rp X W H' d v->Q v H'
def V_ (X:Cx)(f:List D->Option D):List V->Hp->VK->Prop:=λxs H Q=>∃W ds d,Dm W H/\mD X W H ds xs/\f ds=some d/\∀v H',aB H H'->Rp X W H' d v->Q v H'
abbrev bA (X:Cx)(f:Y1->Y1->Sem Y1)(g:D->D->Option D):Prop:=lF X f (UN X g)
abbrev bF (X:Cx)(f:Y1)(g:List D->Option D):Prop:=gW X f (V_ X g)
section
variable {X:Cx}{W:Addr->Prop}{H:Hp}
def FN {p:Addr}(d:Dm W H)(n:H p=none):¬ W p:=λz=>d p z n
def Rp.kY {p:Addr}{vs:List V}{ds:List D}(d:Dm W H)(n:H p=none)(r:mD X W H ds vs):Rp X W (upd H p (.lst vs)) (.lst ds) (.ref p) :=
 {p,vs,rfl,ak,FN d n,r.same (aB.new n)}
def Rp.IF {p:Addr}{vs:List V}{ds:List D}(n:H p=none)(r:mD X W H ds vs):Rp X W (upd H p (.tup vs)) (.tup ds) (.ref p) :=
 {p,vs,rfl,ak,r.same (aB.new n)}
def mD.nil:mD X W H [] []:=rfl
def mD.cons {d:D}{ds:List D}{v:V}{vs:List V}(h:Rp X W H d v)(r:mD X W H ds vs):mD X W H (d::ds) (v::vs):={(v),vs,rfl,h,r}
end
def D.Kn:D->Option Int
 |.int i=>some i
 |_=>none
def D.Km:D->Option (List D)
 |.lst a=>some a
 |_=>none
def D.Ed:D->Option (List D)
 |.tup a=>some a
 |_=>none
def D.Ee:D->Bool
 |.cN=>true
 |_=>false
def D.j6 {d:D}{i:Int}(h:d.Kn=some i):d=.int i:=by cases d <;> first|(cases h;rfl)|cases h
def D.nJ {d:D}{i:List D}(h:d.Km=some i):d=.lst i:=by cases d <;> first|(cases h;rfl)|cases h
def D.CG {d:D}{i:List D}(h:d.Ed=some i):d=.tup i:=by cases d <;> first|(cases h;rfl)|cases h
def D.uo {d:D}(h:d.Ee=true):d=.cN:=by cases d <;> first|rfl|cases h
def D.F6 {d:D}:d=.cN↔d.Ee=true:={λe=>by rw[e];rfl,D.uo}
def k_ (f:Int->Int->Option D)(a b:D):Option D:=match a.Kn,b.Kn with
 |some i,some j=>f i j
 |_,_=>none
def k9 {f:Int->Int->Option D}{a b d:D}(h:k_ f a b=some d):∃i j,a=.int i/\b=.int j/\f i j=some d:=by
 unfold k_ at h;cases ha:a.Kn with
 |none=>rw[ha]at h;cases h
 |some i =>
  cases hb:b.Kn with
  |none=>rw[ha,hb]at h;cases h
  |some j=>rw[ha,hb]at h;exact{i,j,D.j6 ha,D.j6 hb,h}
def J4 (f:D->D->Option D)(g:List D->List D->Option D)(a b:D):Option D:=match a.Km,b.Km with
 |some i,some j=>g i j
 |_,_=>f a b
def zA {f:D->D->Option D}{g:List D->List D->Option D}{a b d:D}(h:J4 f g a b=some d):(∃i j,a=.lst i/\b=.lst j/\g i j=some d)\/f a b=some d:=by
 unfold J4 at h;cases ha:a.Km with
 |none=>rw[ha]at h;exact .inr h
 |some i =>
  cases hb:b.Km with
  |none=>rw[ha,hb]at h;exact .inr h
  |some j=>rw[ha,hb]at h;exact .inl {i,j,D.nJ ha,D.nJ hb,h}
def Ae:D->D->Option D:=J4 (k_ λi j=>some (.int (i+j))) λa b=>if a.length+b.length<=Zd then some (.lst (a++b)) else none
def T4:D->D->Option D:=k_ λi j=>some (.int (i-j))
instance (i j:Int):Decidable (pB i j):=by unfold pB;infer_instance
instance (i j:Int):Decidable (pA i j):=by unfold pA;infer_instance
def Ld:D->D->Option D:=k_ λi j=>if pB i j then some (.int (i*j)) else none
def Lf:D->D->Option D:=k_ λi j=>if 0<j then some (.int (i % j)) else none
def OZ:D->D->Option D:=k_ λi j=>if 0<j/\j<2 ^ 200 then some (.int (i / j)) else none
def K9:D->D->Option D:=k_ λi j=>if pA i j then some (.int (i ^ j.toNat)) else none
def T5:D->Option D
 |.int i=>some (.int (-i))
 |_=>none
section
variable {X:Cx}
def eC {c:Prop}[Decidable c]{α:Type}{a b:α}(h:(if c then some a else none)=some b):c/\b=a:=by
 by_cases hc:c
 ·rw[if_pos hc]at h;cases h;exact{(hc),rfl}
 ·rw[if_neg hc]at h;cases h
def pX {f:Y1->Y1->Sem Y1}{C:Int->Int->Prop}{g:Int->Int->V}{h:Int->Int->D}{F:Int->Int->Option D}(ho:lF X f (rI C g))(hF:∀i j d,F i j=some d->C i j/\d=h i j)
  (hg:∀(W:Addr->Prop) (H:Hp) i j,Rp X W H (h i j) (g i j)):bA X f (k_ F):=by
 intro pins s σ H x y v u Q I rx ry hh;obtain⟨W,d1,d2,d,hd,r1,r2,e,q⟩:=hh;obtain⟨i,j,rfl,rfl,e⟩:=k9 e;obtain⟨c,rfl⟩:=hF _ _ _ e;cases r1;cases r2;exact ho pins s σ H _ _ v u Q I rx ry {i,j,rfl,rfl,c,q _ _ (aB.refl _) (hg W H i j)}
def B5 {f:Y1->Y1->Sem Y1}{g:Int->Int->V}{h:Int->Int->D}(ho:lF X f (EK g))
  (hg:∀(W:Addr->Prop) (H:Hp) i j,Rp X W H (h i j) (g i j)):bA X f (k_ λi j=>some (h i j)):=by
 intro pins s σ H x y v u Q I rx ry hh;obtain⟨W,d1,d2,d,hd,r1,r2,e,q⟩:=hh;obtain⟨i,j,rfl,rfl,e⟩:=k9 e;cases e;cases r1;cases r2;exact ho pins s σ H _ _ v u Q I rx ry {i,j,rfl,rfl,q _ _ (aB.refl _) (hg W H i j)}
def aW:bA X (aax .Sub) T4:=B5 (h:=λi j=>.int (i-j)) BY λ_ _ _ _=>rfl
def jW:bA X (aax .Mult) Ld:=pX (h:=λi j=>.int (i*j)) kQ (λ_ _ _ e=>eC e) λ_ _ _ _=>rfl
def xO:bA X (aax .Mod) Lf:=pX (h:=λi j=>.int (i % j)) ik (λ_ _ _ e=>eC e) λ_ _ _ _=>rfl
def Fy:bA X (aax .FloorDiv) OZ:=pX (h:=λi j=>.int (i / j)) m9 (λ_ _ _ e=>let ⟨c,e⟩:=eC e;{qR.of c.1 c.2,e}) λ_ _ _ _=>rfl
def xN:bA X (aax .Pow) K9:=pX (h:=λi j=>.int (i ^ j.toNat)) BZ (λ_ _ _ e=>eC e) λ_ _ _ _=>rfl
def du:O_ X (unaryOp .USub) (UO X T5):=by
 intro pins s σ H x v Q I rx h;obtain⟨W,d1,d,hd,r1,e,q⟩:=h;cases d1 with
 |int i=>cases e;cases r1;exact A6 pins s σ H _ v Q I rx {i,rfl,q _ _ (aB.refl _) rfl}
 |_=>cases e
end
def GK (p:Int->Int->Bool):D->D->Option D:=k_ λi j=>some (.bl (p i j))
abbrev XN:D->D->Option D:=GK λi j=>decide (i<j)
abbrev vp:D->D->Option D:=GK λi j=>decide (j<i)
abbrev XO:D->D->Option D:=GK λi j=>decide (j<=i)
section
variable {X:Cx}
def rN {p:Int->Int->Bool}{f:Y1->Y1->Sem Y1}(ho:lF X f (EK λi j=>.bl (p i j))):bA X f (GK p):=B5 (h:=λi j=>.bl (p i j)) ho λ_ _ _ _=>rfl
def fb:bA X (aaA .Lt) XN:=rN Hm
def Jz:bA X (aaA .Gt) vp:=rN Hn
def JA:bA X (aaA .GtE) XO:=rN MW
end
mutual
def D.pd:D->PyData
 |.cN=>.none
 |.bl b=>.bool b
 |.int i=>.int i
 |.str x=>.str x
 |.tup ds=>.tuple (D.ve ds)
 |.lst ds=>.list (D.ve ds)
 |_=>.dict []
def D.ve:List D->List PyData
 |[]=>[]
 |d::ds=>d.pd::D.ve ds
end
abbrev D.AF (d:D):Bool:=shaped d.pd
mutual
theorem h9 {X:Cx}{pins:List (Addr×Obj)}{σ:St}{H:Hp}{s:Y4}(I:Inv X pins σ H s){W:Addr->Prop}:∀{d:D} {v:V} {u:Y1},Rp X W H d v->RelV v u->d.pd.canLay0=true->∃as,Reads s.heap u d.pd as
 |.cN,_,_,h,r,_=>by cases h;cases r;exact{_,.none}
 |.bl b,_,_,h,r,_=>by cases h;cases r;exact{_,.bool b}
 |.int i,_,_,h,r,_=>by cases h;obtain⟨t,rfl⟩:=r;exact{_,.int i t}
 |.str x,_,_,h,r,_=>by cases h;obtain⟨t,rfl⟩:=r;exact{_,.str x t}
 |.tup ds,_,_,h,r,c=>by
  obtain⟨a,vs,rfl,e,q⟩:=h;cases r;obtain⟨its,rv,⟨o,ho,hc,n,hd⟩,hz⟩:=I.tuple (u_.of e);obtain⟨as,ha⟩:=h_ I q rv (by simpa[D.pd,aaM] using c)
  exact{_,.tuple ho hc hd (by simpa using ha)}
 |.lst ds,_,_,h,r,c=>by
  obtain⟨a,vs,rfl,e,_,q⟩:=h;cases r;obtain⟨z,its,n,rv,e'⟩:=I.bB a _ e;obtain⟨as,ha⟩:=h_ I q rv (by simpa[D.pd,aaM] using c)
  exact{_,.list e' rfl rfl (by simpa using ha)}
 |.obj _,_,_,_,_,c=>by simp[D.pd,aaM]at c
 |.dT _ _,_,_,_,_,c=>by simp[D.pd,aaM]at c
 |.dK _ _,_,_,_,_,c=>by simp[D.pd,aaM]at c
 |.sT _,_,_,_,_,c=>by simp[D.pd,aaM]at c
 |.ob _,_,_,_,_,c=>by simp[D.pd,aaM]at c
theorem h_ {X:Cx}{pins:List (Addr×Obj)}{σ:St}{H:Hp}{s:Y4}(I:Inv X pins σ H s){W:Addr->Prop}:∀{ds:List D} {vs:List V} {us:List Y1},mD X W H ds vs->Vals vs us->abO (D.ve ds)=true->∃as,ReadsAll s.heap us (D.ve ds) as
 |[],_,_,h,r,_=>by
  rw[show _=[] from h]at r
  cases r;exact{_,.nil}
 |d::ds,_,_,⟨v,vr,e,h1,h2⟩,r,c=>by
  subst e;have c':(d.pd.canLay0&&abO (D.ve ds))=true:=c;rw[ZW]at c';cases r with
  |cons r1 r2 =>
   obtain⟨as,ha⟩:=h9 I h1 r1 c'.1;obtain⟨bs,hb⟩:=h_ I h2 r2 c'.2;exact{_,.cons ha hb}
end
def Lg (a b:D):Option D:=if a.AF=true/\b.AF=true then some (.bl (abp a.pd b.pd)) else none
def Lc (a b:D):Option D:=if a.AF=true/\b.AF=true then some (.bl (!abp a.pd b.pd)) else none
section
variable {X:Cx}
def cu (hu:X.A.units+64<abd):bA X (aaA .Eq) Lg:=by
 intro pins s σ H x y v u Q I rx ry h;obtain⟨W,d1,d2,d,hd,r1,r2,e,q⟩:=h;obtain⟨⟨s1,s2⟩,rfl⟩:=eC e;obtain⟨as,ra⟩:=h9 I r1 rx (acA s1);obtain⟨bs,rb⟩:=h9 I r2 ry (acA s2);exact compareEq_shaped ra rb s1 s2 hu {.bl _,H,I,rfl,q _ _ (aB.refl _) rfl}
def m_ (hu:X.A.units+64<abd):bA X (aaA .NotEq) Lc:=by
 intro pins s σ H x y v u Q I rx ry h;obtain⟨W,d1,d2,d,hd,r1,r2,e,q⟩:=h;obtain⟨⟨s1,s2⟩,rfl⟩:=eC e;obtain⟨as,ra⟩:=h9 I r1 rx (acA s1);obtain⟨bs,rb⟩:=h9 I r2 ry (acA s2);exact compareNe_shaped ra rb s1 s2 hu {.bl _,H,I,rfl,q _ _ (aB.refl _) rfl}
def T6 (a b:D):Option D:=match b.Ee with
 |true=>some (.bl a.Ee)
 |false=>none
def OW (a b:D):Option D:=match b.Ee with
 |true=>some (.bl (!a.Ee))
 |false=>none
def Rp.FK {W:Addr->Prop}{H:Hp}{d:D}{v:V}(h:Rp X W H d v):v=.cN↔d=.cN:=by
 cases d with
 |cN=>cases h;simp
 |bl b=>cases h;simp
 |int i=>cases h;simp
 |str x=>cases h;simp
 |obj a=>cases h;simp
 |tup ds=>obtain⟨a,vs,rfl,_⟩:=h;simp
 |lst ds=>obtain⟨a,vs,rfl,_⟩:=h;simp
 |dT ks ds=>obtain⟨a,vs,rfl,_⟩:=h;simp
 |dK ks ds=>obtain⟨a,vs,rfl,_⟩:=h;simp
 |sT ts=>obtain⟨a,rfl,_⟩:=h;simp
 |ob φ=>obtain⟨a,rfl,_⟩:=h;simp
def uq {b d e:D}(h:(match b.Ee with|true=>some d|false=>none)=some e):b=.cN/\e=d:=by
 cases q:b.Ee with
 |true=>rw[q]at h;cases h;exact{D.uo q,rfl}
 |false=>rw[q]at h;cases h
def Rp.xR {W:Addr->Prop}{H:Hp}{d:D}{v:V}(h:Rp X W H d v):decide (v=.cN)=d.Ee:=by
 have q:=h.FK.trans D.F6;cases e:d.Ee with
 |true=>exact decide_eq_true (q.mpr e)
 |false=>exact decide_eq_false λz=>by rw[q.mp z]at e;cases e
def xP:bA X (aaA .Is) T6:=by
 intro pins s σ H x y v u Q I rx ry h;obtain⟨W,d1,d2,d,hd,r1,r2,e,q⟩:=h;obtain⟨rfl,rfl⟩:=uq e;cases r2;exact Jy pins s σ H _ _ v u Q I rx ry {rfl,q _ _ (aB.refl _) (congrArg V.bl r1.xR)}
def B0:bA X (aaA .IsNot) OW:=by
 intro pins s σ H x y v u Q I rx ry h;obtain⟨W,d1,d2,d,hd,r1,r2,e,q⟩:=h;obtain⟨rfl,rfl⟩:=uq e;cases r2;exact Fv pins s σ H _ _ v u Q I rx ry {rfl,q _ _ (aB.refl _) (congrArg (λb=>V.bl (!b)) r1.xR)}
end
section
variable {X:Cx}
def vn (a b:D):Option D:=match b.Kn with
 |some i=>match a.Km with
  |some ds=>lB ds i
  |none=>match a.Ed with
   |some ds=>lB ds i
   |none=>none
 |none=>none
def Dz {a b d:D}(h:vn a b=some d):∃ds i,(a=.lst ds\/a=.tup ds)/\b=.int i/\lB ds i=some d:=by
 unfold vn at h;cases hb:b.Kn with
 |none=>rw[hb]at h;cases h
 |some i =>
  rw[hb]at h;cases ha:a.Km with
  |some ds=>rw[ha]at h;exact{ds,i,.inl (D.nJ ha),D.j6 hb,h}
  |none =>
   rw[ha]at h;cases ht:a.Ed with
   |some ds=>rw[ht]at h;exact{ds,i,.inr (D.CG ht),D.j6 hb,h}
   |none=>rw[ht]at h;cases h
def mD.lB {W:Addr->Prop}{H:Hp}{ds:List D}{vs:List V}{i:Int}{d:D}(h:mD X W H ds vs)(e:L2.lB ds i=some d):∃v,L2.lB vs i=some v/\Rp X W H d v:=by
 unfold L2.lB at *
 rw[h.length];cases q:sd ds.length i with
 |none=>rw[q]at e;cases e
 |some j =>
  rw[q]at e;exact ai.get h e
def Kj:Il X (UN X vn):=by
 intro value slice pins s σ H x y v u Q I rx ry h hs;obtain⟨W,d1,d2,d,hd,r1,r2,e,q⟩:=h;obtain⟨ds,i,h,rfl,e⟩:=Dz e;cases r2;rcases h with rfl|rfl
 ·obtain⟨p,vs,rfl,h1,n1,q1⟩:=r1;obtain⟨z,hz,rz⟩:=mD.lB (X:=X) q1 e;exact b_ value slice pins s σ H _ _ v u Q I rx ry {p,vs,i,z,rfl,rfl,dj.of h1,hz,q _ _ (aB.refl _) rz} hs
 ·obtain⟨p,vs,rfl,h1,q1⟩:=r1;obtain⟨z,hz,rz⟩:=mD.lB (X:=X) q1 e;exact CD value slice pins s σ H _ _ v u Q I rx ry {p,vs,i,z,rfl,rfl,u_.of h1,hz,q _ _ (aB.refl _) rz} hs
def cutD (xs:List D)(lo hi:Option Int):List D:=(xs.drop (HT.m5 xs.length 0 lo)).take (HT.m5 xs.length xs.length hi-HT.m5 xs.length 0 lo)
def HU:D->Option Int->Option Int->Option D
 |.lst ds,lo,hi=>some (.lst (cutD ds lo hi))
 |_,_,_=>none
def kn:List D->Option D
 |[.lst ds]=>some (.int ds.length)
 |[.tup ds]=>some (.int ds.length)
 |_=>none
def bJ:bF X (.builtin "len") kn:=by
 intro pins s σ H xs us Q I r h;obtain⟨W,ds,d,hd,r1,e,q⟩:=h
 match ds,e with
 |[.lst es],e =>
  cases e;obtain⟨v,r',rfl,⟨p,vs,rfl,h1,n1,q1⟩,hr⟩:=r1;cases hr;refine gJ pins s σ H _ us Q I r {p,vs,rfl,.inl (dj.of h1),?_};rw[q1.length];exact q _ _ (aB.refl _) rfl
 |[.tup es],e =>
  cases e;obtain⟨v,r',rfl,⟨p,vs,rfl,h1,q1⟩,hr⟩:=r1;cases hr;refine gJ pins s σ H _ us Q I r {p,vs,rfl,.inr (u_.of h1),?_};rw[q1.length];exact q _ _ (aB.refl _) rfl
def dList:List D->Option D
 |[.lst ds]=>some (.lst ds)
 |[.tup ds]=>some (.lst ds)
 |_=>none
def OY:List D->Option D
 |[.int i,.int j]=>some (.int (if j>i then j else i))
 |_=>none
def uU:List D->Option D
 |[.int i,.int j]=>some (.int (if j<i then j else i))
 |_=>none
def u6 {W:Addr->Prop}{H:Hp}{a b:D}{xs:List V}(h:mD X W H [a,b] xs):∃x y,xs=[x,y]/\Rp X W H a x/\Rp X W H b y:=by
 obtain⟨x,r,rfl,hx,y,r',rfl,hy,hr⟩:=h;cases hr;exact{(x),y,rfl,hx,hy}
def oE {W:Addr->Prop}{H:Hp}{a:D}{xs:List V}(h:mD X W H [a] xs):∃x,xs=[x]/\Rp X W H a x:=by
 obtain⟨x,r,rfl,hx,hr⟩:=h;cases hr;exact{(x),rfl,hx}
def w_ (hc:X.calm=true):bF X (.builtin "max") OY:=by
 intro pins s σ H xs us Q I r h;obtain⟨W,ds,d,hd,r1,e,q⟩:=h
 match ds,e with
 |[.int i,.int j],e =>
  cases e;obtain⟨x,y,rfl,hx,hy⟩:=u6 r1;cases hx;cases hy;exact qI hc pins s σ H _ us Q I r {i,j,rfl,q _ _ (aB.refl _) rfl}
def jo (hc:X.calm=true):bF X (.builtin "min") uU:=by
 intro pins s σ H xs us Q I r h;obtain⟨W,ds,d,hd,r1,e,q⟩:=h
 match ds,e with
 |[.int i,.int j],e =>
  cases e;obtain⟨x,y,rfl,hx,hy⟩:=u6 r1;cases hx;cases hy;exact lA hc pins s σ H _ us Q I r {i,j,rfl,q _ _ (aB.refl _) rfl}
def T7:List D->Option D
 |[.int i]=>some (.int i)
 |[.bl k]=>some (.int (if k then 1 else 0))
 |_=>none
def Al:bF X (.type "int") T7:=by
 intro pins s σ H xs us Q I r h;obtain⟨W,ds,d,hd,r1,e,q⟩:=h
 match ds,e with
 |[.int i],e =>
  cases e;obtain⟨x,rfl,hx⟩:=oE r1;cases hx;exact qJ pins s σ H _ us Q I r (.inl {i,rfl,q _ _ (aB.refl _) rfl})
 |[.bl k],e =>
  cases e;obtain⟨x,rfl,hx⟩:=oE r1;cases hx;exact qJ pins s σ H _ us Q I r (.inr {k,rfl,q _ _ (aB.refl _) rfl})
end
def PE.pre {X:Cx}{e:Expr}{t t':TE}(h:PE X e t)(k:∀σ H Q,t' σ H Q->t σ H Q):PE X e t':=λpins s σ H Q I q=>h pins s σ H Q I (k σ H Q q)
def PT.pre {X:Cx}{e:Expr}{t t':TT}(h:PT X e t)(k:∀σ H Q,t' σ H Q->t σ H Q):PT X e t':=λpins s σ H Q I q=>h pins s σ H Q I (k σ H Q q)
def PA.pre {X:Cx}{es:List Expr}{t t':TA}(h:PA X es t)(k:∀σ H Q,t' σ H Q->t σ H Q):PA X es t':=λpos pins s σ H Q I q=>h pos pins s σ H Q I (k σ H Q q)
section
variable {X:Cx}{e:Expr}{σ:St}{H:Hp}
def PW.pre {t t':TT}(h:PW X e t)(k:∀σ H Q,t' σ H Q->t σ H Q):PW X e t':=λw pins s σ H Q I q=>h w pins s σ H Q I (k σ H Q q)
end
abbrev FD:=List D->(D->Prop)->Prop
def dq (F:FD):Prop:=∀ds R R',(∀d,R d->R' d)->F ds R->F ds R'
section
variable {X:Cx}{e:Expr}{σ:St}{H:Hp}
def PO.pre {e:Option Expr}{t t':TO}(h:PO X e t)(k:∀σ H Q,t' σ H Q->t σ H Q):PO X e t':=λpins s σ H Q I q=>h pins s σ H Q I (k σ H Q q)
end
abbrev NF:D->Prop:=λd=>d.flat=true
section
abbrev NL:D->Prop:=λd=>match d with | .lst ds=>D.cK ds=true|d=>d.flat=true
end
section
variable {P:Y7}{w:Zj}{W W':Addr->Prop}{H:Hp}
mutual
theorem aC.grow (s:∀a,W' a->W a\/H a=none):∀{d:D} {v:V},aC P w W H d v->aC P w W' H d v
 |.cN,_,h=>h
 |.bl _,_,h=>h
 |.int _,_,h=>h
 |.str _,_,h=>h
 |.obj _,_,h=>h
 |.tup ds,_,⟨a,vs,e,t,r⟩=>{a,vs,e,t,ai.grow s r}
 |.lst ds,_,⟨a,vs,e,t,n,r⟩=>{a,vs,e,t,λz=>(s a z).elim n λq=>(by rw[t]at q;cases q),ai.grow s r}
 |.dT ks ds,_,⟨a,vs,e,t,l,n,r⟩=>{a,vs,e,t,l,λz=>(s a z).elim n λq=>(by rw[t]at q;cases q),ai.grow s r}
 |.dK ks ds,_,⟨a,vs,e,t,l,n,r⟩=>{a,vs,e,t,l,λz=>(s a z).elim n λq=>(by rw[t]at q;cases q),ai.grow s r}
 |.sT ts,_,⟨a,e,⟨jz,t,r,z⟩,n⟩=>{a,e,{(jz),t,r,z},λz=>(s a z).elim n λq=>(by rw[t]at q;cases q)}
 |.ob φ,_,⟨a,e,⟨t,z⟩,n⟩=>{a,e,{(t),z},λz=>(s a z).elim n λq=>(by rw[t]at q;cases q)}
theorem ai.grow (s:∀a,W' a->W a\/H a=none):∀{ds:List D} {vs:List V},ai P w W H ds vs->ai P w W' H ds vs
 |[],_,h=>h
 |d::ds,_,⟨v,r,e,h1,h2⟩=>{v,r,e,aC.grow s h1,ai.grow s h2}
end
end
def XY (X:Cx)(W:Addr->Prop)(J:It)(ds:List D)(H0:Hp):Prop:=∀(i:Nat) (H:Hp),Kp W H0 H ->
 (∀d,ds[i]?=some d->J.go i H/\∀x H1,J.L9 i H x H1->aB H H1/\Rp X W H1 d x)/\(ds.length<=i->J.stop i H)
def Az (X:Cx)(W:Addr->Prop)(J:It)(ds:List D)(H0:Hp):Prop:=∀W':Addr->Prop,(∀b,W' b->W b\/H0 b=none)->XY X W' J ds H0
section
variable {X:Cx}{tg e:Expr}
def PI.pre {iter:Expr}{t t':TI}(h:PI X tg iter t)(k:∀σ H R,t' σ H R->t σ H R):PI X tg iter t':=λpins s σ H R I q=>h pins s σ H R I (k σ H R q)
def nH {W:Addr->Prop}{H:Hp}{p:Addr}{vs:List V}{ds:List D}(h1:H p=some (.lst vs))(n1:¬ W p)(q1:mD X W H ds vs):Az X W (Qn X.K p) ds H:=λW' hW i H' k=>by
 have h2:=k.out p _ h1 λz=>(hW p z).elim n1 λq=>by rw[h1]at q;cases q
 replace q1:=ai.grow hW q1;constructor
 ·intro d hd;obtain⟨v,hv,rv⟩:=ai.get q1 hd;refine{{vs,v,dj.of h2,hv},λx H1 y=>?_};obtain⟨rfl,y⟩:=y;have e:=y vs (dj.of h2);rw[hv]at e;cases e;exact{aB.refl _,rv.keep k}
 ·intro hl;exact{vs,dj.of h2,by rw[q1.length];exact hl}
def rh (lo:Int)(n:Nat):List D:=(Zv n).map λ(k:Nat)=>D.int (lo+(k:Int))
def k8 {W:Addr->Prop}{H:Hp}{lo:Int}{n:Nat}:Az X W (Pg lo n) (rh lo n) H:=λ_ _ i H' k=>by
 constructor
 ·intro d hd;unfold rh at hd;rw[Zg]at hd;have hi:i<n:=by
   by_cases h:i<n
   ·exact h
   ·rw[ZF (by simpa using h)]at hd;cases hd
  rw[aa1 hi]at hd;cases hd;refine{hi,λx H1 y=>?_};obtain⟨rfl,rfl⟩:=y;exact{aB.refl _,rfl}
 ·intro hl;unfold rh at hl;rw[Y3,ZV]at hl;exact hl
end
section
variable {X:Cx}{tg:Expr}{yK:List Expr}
def PG.pre {t t':TG}(h:PG X tg t)(k:∀v σ H Q,t' v σ H Q->t v σ H Q):PG X tg t':=λpins s σ H v u Q I r q=>h pins s σ H v u Q I r (k v σ H Q q)
def Ij.pre {t t':Ie}(h:Ij X yK t)(k:∀v σ H Q,t' v σ H Q->t v σ H Q):Ij X yK t':=λpins s σ H v u Q I r q=>h pins s σ H v u Q I r (k v σ H Q q)
end
def k7 {H:Hp}{a:Addr}{o o':HO}(h:H a=some o)(ht:∀xs,o≠.tup xs):Kp (·=a) H (upd H a o') :=
 {λb u e n=>by rw[au n];exact e,λb xs e=>by rw[au (Ci e h (λz=>ht xs z.symm))];exact e}
section
variable {σ:St}{β:bb}{own:Nat->List Addr}
def aH (own:Nat->List Addr)(i:Nat)(as:List Addr):Nat->List Addr:=λj=>if j=i then as else own j
def br {own:Nat->List Addr}{i j:Nat}{a:Addr}(h:a∈aH own i [] j):a∈own j/\j≠i:=by
 unfold aH at h
 by_cases e:j=i
 ·rw[if_pos e]at h;cases h
 ·rw[if_neg e]at h;exact{(h),e}
def aO {α:Type}{β:List α}{i j:Nat}{x:α}(h:i≠j):(β.set i x)[j]?=β[j]?:=by rw[aaX,if_neg h]
def aP {α:Type}{β:List α}{i:Nat}{x y:α}(h:(β.set i x)[i]?=some y):y=x/\i<β.length:=by
 rw[aaX,if_pos rfl]at h
 by_cases hi:i<β.length
 ·rw[if_pos hi]at h;cases h;exact{(rfl),hi}
 ·rw[if_neg hi]at h;cases h
def get_set {α:Type}{σ:List α}{i:Nat}{x:α}(h:i<σ.length):(σ.set i x)[i]?=some x:=by rw[aaX,if_pos rfl,if_pos h]
end
structure Sn (Z:Hp×(Addr->Prop))(H:Hp)(W:Addr->Prop):Prop where
 w:∀b,W b->Z.2 b\/Z.1 b=none
 k:Kp (λb=>Z.2 b\/Z.1 b=none) Z.1 H
 d:∀b,Z.1 b≠none->H b≠none
def Sn.refl {H:Hp}{W:Addr->Prop}:Sn (H,W) H W:={λ_ z=>.inl z,Kp.refl,λ_ z=>z}
def Sn.same {Z:Hp×(Addr->Prop)}{H H':Hp}{W:Addr->Prop}(n:Sn Z H W)(s:aB H H'):Sn Z H' W:={n.w,n.k.trans s.kp,λb z e=>n.d b z (s.free e)}
def Sn.free {Z:Hp×(Addr->Prop)}{H:Hp}{W:Addr->Prop}(n:Sn Z H W){a:Addr}(h:H a=none):Z.1 a=none:=by
 cases q:Z.1 a with
 |none=>rfl
 |some o=>exact absurd h (n.d a (by rw[q];intro z;cases z))
def Sn.upd {Z:Hp×(Addr->Prop)}{H:Hp}{W:Addr->Prop}(n:Sn Z H W){a:Addr}{o o':HO}(h:H a=some o)(ht:∀xs,o≠.tup xs)(wa:W a):Sn Z (L2.upd H a o') W :=
 ⟨n.w,n.k.trans ((k7 h ht).mono λb z=>by rw[z];exact n.w a wa),λb z e=>by
  by_cases hb:b=a
  ·subst hb;rw[ak]at e;cases e
  ·rw[au hb]at e;exact n.d b z e⟩
def Sn.trans {Z:Hp×(Addr->Prop)}{H1 H:Hp}{W1 W:Addr->Prop}(n1:Sn Z H1 W1)(n:Sn (H1,W1) H W):Sn Z H W:=by
 have big:∀b,W1 b\/H1 b=none->Z.2 b\/Z.1 b=none:=λb z=>z.elim (n1.w b) λq=>.inr (n1.free q);exact{λb z=>big b (n.w b z),n1.k.trans (n.k.mono big),λb z=>n.d b (n1.d b z)}
section
variable {X:Cx}{st:Stmt}{rest:List Stmt}{σ:St}{H:Hp}
def PS.pre {t t':TS}(h:PS X st t)(k:∀D σ H,t' D σ H->t D σ H):PS X st t':=λpins s σ H D I q=>h pins s σ H D I (k D σ H q)
def sV.pre {t t':TS}(h:sV X rest t)(k:∀D σ H,t' D σ H->t D σ H):sV X rest t':=λpins s σ H D I q=>h pins s σ H D I (k D σ H q)
end
section
variable {b:Expr}{H:Hp}
def held {P:Y7}{w:Zj}{W W2:Addr->Prop}{H2:Hp}{d:D}{v:V}(r:aC P w W H d v)(n:Sn (H,W) H2 W2):aC P w W2 H2 d v :=
 aC.aY n.w (aC.keep n.k (aC.grow (λb z=>z) r))
end
def Sn.kp {Z:Hp×(Addr->Prop)}{H H':Hp}{W:Addr->Prop}(n:Sn Z H W)(k:Kp W H H')(dn:∀c,H c≠none->H' c≠none):Sn Z H' W:={n.w,n.k.trans (k.mono n.w),λb z=>dn b (n.d b z)}
end L2
namespace XZ
open PySem PySem.Spec PyProof.Rows
end XZ
namespace L2
open PySem PySem.Spec PySem.SeqAt PyProof.Rows
noncomputable def dB:List D->Option (List Int)
 |[]=>some []
 |.int i::ds=>(dB ds).map (i::·)
 |_::_=>none
theorem ur:∀{ds:List D} {ns:List Int},dB ds=some ns->ds=ns.map D.int
 |[],_,h=>by cases h;rfl
 |.int i::ds,_,h=>by
  obtain⟨ns,h1,rfl⟩:=Zh.mp h;rw[ZE,<- ur h1]
 |.cN::_,_,h=>by cases h
 |.bl _::_,_,h=>by cases h
 |.str _::_,_,h=>by cases h
 |.obj _::_,_,h=>by cases h
 |.tup _::_,_,h=>by cases h
 |.lst _::_,_,h=>by cases h
 |.dT _ _::_,_,h=>by cases h
 |.dK _ _::_,_,h=>by cases h
 |.sT _::_,_,h=>by cases h
 |.ob _::_,_,h=>by cases h
theorem qr:∀(ns:List Int),dB (ns.map D.int)=some ns
 |[]=>rfl
 |n::ns=>by rw[ZE];show (dB (ns.map D.int)).map _=_;rw[qr ns];rfl
theorem cE {P:Y7}{w:Zj}{W:Addr->Prop}{H:Hp}:∀{ns:List Int} {vs:List V},ai P w W H (ns.map D.int) vs->vs=ns.map V.int
 |[],_,h=>h
 |n::ns,_,⟨v,r,e,h1,h2⟩=>by rw[e,cE h2,show v=V.int n from h1];rfl
theorem qp {P:Y7}{w:Zj}{W:Addr->Prop}{H:Hp}:∀(ns:List Int),ai P w W H (ns.map D.int) (ns.map V.int)
 |[]=>rfl
 |n::ns=>{_,_,rfl,rfl,qp ns}
end L2
namespace TS
open PySem PyProof.Rows
end TS
namespace L2
open PySem PySem.Spec PyProof.Rows
def zG (H:Hp):Y1->List Int
 |.ref t=>match H t with
  |some (.tup xs)=>xs.filterMap fun
   |.int i=>some i
   |_=>none
  |_=>[]
 |_=>[]
theorem uF:∀ns:List Int,((ns.map V.int).filterMap fun
   |.int i=>some i
   |_=>none)=ns
 |[]=>rfl
 |n::ns=>by
  rw[ZE,aat];dsimp only;rw[uF ns]
def nG {H:Hp}{t:Addr}{ns:List Int}(h:H t=some (.tup (ns.map V.int))):zG H (.ref t)=ns:=by
 unfold zG;dsimp only;rw[h];exact uF ns
def K1 (H:Hp):Y1->Addr×List Int
 |.ref t=>(t,zG H (.ref t))
 |_=>(0,[])
abbrev GW (H:Hp)(ts:List (Addr×List Int)):Prop:=∀t∈ts,H t.1=some (.tup (t.2.map V.int))/\t.2≠[]
abbrev yL (t:Addr×List Int):V:=.ref t.1
theorem pD:∀{ts:List (Addr×List Int)} {us:List Y1},Vals (ts.map yL) us->us=ts.map λt=>Value.ref t.1
 |[],_,.nil=>rfl
 |t::ts,_,.cons r q=>by
  rw[ZE,<- pD q];cases r;rfl
theorem pP:∀(ts:List (Addr×List Int)),Vals (ts.map yL) (ts.map λt=>Value.ref t.1)
 |[]=>.nil
 |t::ts=>.cons rfl (pP ts)
def zh {H:Hp}{ts:List (Addr×List Int)}(T:GW H ts){out:List Y1}(hp:out.Perm (ts.map λt=>Value.ref t.1)):out=(out.map (K1 H)).map (λt=>Value.ref t.1)/\(out.map (K1 H)).Perm ts:=by
 constructor
 ·rw[Z7];refine(ZU (g:=id) λv hv=>?_).trans (List.map_id _) |>.symm
  obtain⟨t,ht,rfl⟩:=ZN.mp (hp.mem_iff.mp hv);rfl
 ·refine(hp.map (K1 H)).trans (List.Perm.of_eq ?_);rw[Z7];refine(ZU (g:=id) λt ht=>?_).trans (List.map_id _);show (t.1,zG H (.ref t.1))=t;rw[nG (T t ht).1]
def Ey {P:Y7}{w:Zj}{H:Hp}{h:Heap}{ts:List (Addr×List Int)}(ok:g9 P w H h)(T:GW H ts){a:Addr}(ha:h.objs.size<=a):TS.u9 h (zG H) a (ts.map λt=>Value.ref t.1):=λv hv=>by
 obtain⟨t,ht,rfl⟩:=ZN.mp hv;obtain⟨h1,h2⟩:=T t ht;obtain⟨_,its,r,o,ho,hc,n,hd⟩:=(show cL P w H h t.1 (.tup (t.2.map V.int)) from ok _ _ h1)
 exact{t.1,o,_,n,rfl,ZQ (ZD (Zo ho) ha),ho,hc,hd,by rw[nG h1];exact intsAre_of (by simpa using r),by rw[nG h1];exact h2}
end L2
namespace TS
open PySem PyProof.Rows
section
variable {prog:Y7}{w:Zj}{A:Z0}{E:Y1->Y4->Prop}{s:Y4}
def vL {x:Y1}{vs:List Y1}{kf:Y1->List Int}{Q:Y1->Y4->Prop}(hz:vs.length<=1000000)
  (col:∀(R:List Y1->Y4->Prop),(∀(h':Heap) (tk:Nat),(∀b o,s.heap.get? b=some o->h'.get? b=some o)->R vs {s with heap:=h',toks:=tk})->Zy (model prog w) A.in1 (collect x) R E s)
  (T:u9 s.heap kf s.heap.objs.size vs)
  (h:∀(out:List Y1) (h1 h':Heap) (tk:Nat) (n:Nat),out.Perm vs->out.Pairwise (λx y=>HT.lexLt (kf y) (kf x)=false)->(∀b o,s.heap.get? b=some o->h1.get? b=some o)->(∀b o,h1.get? b=some o->h'.get? b=some o)->h'.get? h1.objs.size=some (abw "list" out.toArray n)->Q (.ref h1.objs.size) {s with heap:=h',toks:=tk}) :
  Zy (model prog w) A (call (.builtin "sorted") [x]) Q E s:=by
 refine Calls.call_function_entry kind_sorted plain_sorted entry_sorted (args_sorted1 _) ?_;unfold abb.«sorted»
 refine Y2 (m:=checkCount "sorted" 1 1 _) (Zi ?_);refine Y2 (col _ λh' tk kp=>?_);have nl:vs.length<=Zd:=by rw[aaK];lia
 refine Y2 (wpAny_newList ?_ nl);have hl:(h'.push (abw "list" vs.toArray 0)).get? h'.objs.size=some (abw "list" vs.toArray 0):=ZR _ rfl;have T':u9 (h'.push (abw "list" vs.toArray 0)) kf h'.objs.size vs:=λv hv=>by
  obtain⟨t,o,xs,k,e1,_,e3,r⟩:=T v hv;exact{t,o,xs,k,e1,ZQ (Zo (kp _ _ e3)),Ze _ (kp _ _ e3),r}
 refine Y2 (aav (abu slot_list_sort {_,hl,rfl} entry_list_sort (wm (s:={s with heap:=h'.push (abw "list" vs.toArray 0),toks:=tk}) hl hz T' λout hp hs=>{_,rfl,?_}) (args_list_sort _)))
 obtain⟨n,hn⟩:=sortedHeap_at (out:=out.toArray) hl;refine Zi {_,rfl,h out h' _ tk n hp hs kp (λb o e=>?_) hn};have hb:=Zo e;rw[sortedHeap_old (ZQ hb) (by rw[size_push'];exact aay hb)]
 exact Ze _ e
end
end TS
namespace ST
open PySem PyProof.Rows
end ST
namespace L2
open PySem PySem.Spec PySem.SeqAt PyProof.Rows HT
theorem jj:∀{a b:List Int},lexLt a b=false->lexLt b a=false->a=b
 |[],[],_,_=>rfl
 |[],_::_,h,_=>by cases h
 |_::_,[],_,h=>by cases h
 |x::xs,y::ys,h1,h2=>by
  rw[gC]at h1 h2
  by_cases e:x=y
  ·subst e;rw[if_pos rfl]at h1 h2;rw[jj h1 h2]
  ·rw[if_neg e]at h1;rw[if_neg (λz=>e z.symm)]at h2;have:=of_decide_eq_false h1;have:=of_decide_eq_false h2;omega
theorem nF:∀{a b:List Int},lexLt a b=true->lexLt b a=false
 |[],[],h=>by cases h
 |[],_::_,_=>rfl
 |_::_,[],h=>by cases h
 |x::xs,y::ys,h=>by
  rw[gC]at h ⊢
  by_cases e:x=y
  ·subst e;rw[if_pos rfl]at h ⊢
   exact nF h
  ·rw[if_neg e]at h;rw[if_neg (λz=>e z.symm)];have:=of_decide_eq_true h;exact decide_eq_false (by lia)
theorem lT:∀{a b c:List Int},lexLt a b=true->lexLt b c=true->lexLt a c=true
 |[],[],_,h,_=>by cases h
 |[],_::_,[],_,h=>by cases h
 |[],_::_,_::_,_,_=>rfl
 |_::_,[],_,h,_=>by cases h
 |x::xs,y::ys,[],_,h=>by cases h
 |x::xs,y::ys,z::zs,h1,h2=>by
  rw[gC]at h1 h2 ⊢
  by_cases e:x=y
  ·subst e;rw[if_pos rfl]at h1
   by_cases e2:x=z
   ·subst e2;rw[if_pos rfl]at h2 ⊢
    exact lT h1 h2
   ·rw[if_neg e2]at h2 ⊢
    exact h2
  ·rw[if_neg e]at h1;have q1:=of_decide_eq_true h1
   by_cases e2:y=z
   ·subst e2;rw[if_neg e];exact h1
   ·rw[if_neg e2]at h2;have q2:=of_decide_eq_true h2;rw[if_neg (by omega)]
    exact decide_eq_true (by omega)
noncomputable def wB (k:List Int):List (List Int)->List (List Int)
 |[]=>[k]
 |x::xs=>if lexLt x k=true then x::wB k xs else k::x::xs
def lM:List (List Int)->List (List Int)
 |[]=>[]
 |k::ks=>wB k (lM ks)
theorem lg (k:List Int):∀xs,(wB k xs).Perm (k::xs)
 |[]=>.refl _
 |x::xs=>by
  unfold wB
  split
  ·exact((lg k xs).cons x).trans (List.Perm.swap _ _ _)
  ·exact .refl _
theorem jG:∀ks,(lM ks).Perm ks
 |[]=>.refl _
 |k::ks=>(lg k (lM ks)).trans ((jG ks).cons k)
abbrev xf (ks:List (List Int)):Prop:=ks.Pairwise λx y=>HT.lexLt y x=false
def le_trans' {a b c:List Int}(h1:lexLt b a=false)(h2:lexLt c b=false):lexLt c a=false:=by
 cases h:lexLt c a with
 |false=>rfl
 |true =>
  cases hb:lexLt a b with
  |true=>rw[lT h hb]at h2;cases h2
  |false =>
   have:=jj hb h1;subst this;rw[h]at h2;cases h2
theorem qt (k:List Int):∀xs,xf xs->xf (wB k xs)
 |[],_=>by simp[wB]
 |x::xs,h=>by
  obtain⟨h1,h2⟩:=aan.mp h;unfold wB
  split
  ·rename_i hx
   refine aan.mpr {λy hy=>?_,qt k xs h2};rcases Y6.mp ((lg k xs).mem_iff.mp hy)with rfl|hy
   ·exact nF hx
   ·exact h1 y hy
  ·rename_i hx
   have F_:lexLt x k=false:=by cases q:lexLt x k <;> simp_all
   refine aan.mpr {λy hy=>?_,h};rcases Y6.mp hy with rfl|hy
   ·exact F_
   ·exact le_trans' F_ (h1 y hy)
theorem mU:∀ks,xf (lM ks)
 |[]=>.nil
 |k::ks=>qt k _ (mU ks)
theorem lL:∀{a b:List (List Int)},a.Perm b->xf a->xf b->a=b
 |[],b,p,_,_=>by rw[List.nil_perm.mp p]
 |x::a,[],p,_,_=>by have:=p.length_eq;simp at this
 |x::a,y::b,p,ha,hb=>by
  obtain⟨a1,a2⟩:=aan.mp ha;obtain⟨b1,b2⟩:=aan.mp hb;have RD:x=y:=by
   rcases Y6.mp (p.mem_iff.mp (ZK (a:=x) (l:=a)))with h|h
   ·exact h
   ·rcases Y6.mp (p.mem_iff.mpr (ZK (a:=y) (l:=b)))with h' | h'
    ·exact h'.symm
    ·exact jj (b1 x h) (a1 y h')
  subst RD;rw[lL (List.perm_cons x |>.mp p) a2 b2]
def IU {a b:List (List Int)}(p:a.Perm b)(h:xf a):a=lM b:=lL (p.trans (jG b).symm) h (mU b)
abbrev kD (k:List Int):D:=.tup (k.map D.int)
noncomputable def j4:List D->Option (List (List Int))
 |[]=>some []
 |.tup a::ds=>match dB a,j4 ds with
  |some k,some ks=>if k=[] then none else some (k::ks)
  |_,_=>none
 |_::_=>none
theorem uj:∀{ds:List D} {ks:List (List Int)},j4 ds=some ks->ds=ks.map kD/\∀k∈ks,k≠[]
 |[],_,h=>by cases h;exact{rfl,λ_ z=>nomatch z}
 |.tup a::ds,ks,h=>by
  have h':(match dB a,j4 ds with|some k,some ks=>if k=[] then none else some (k::ks)|_,_=>none)=some ks:=h
  cases ea:dB a with
  |none=>rw[ea]at h';cases h'
  |some k =>
   cases eb:j4 ds with
   |none=>rw[ea,eb]at h';cases h'
   |some kr =>
    rw[ea,eb]at h'
    by_cases hk:k=[]
    ·simp[hk]at h'
    ·simp only[hk,if_false,Option.some.injEq]at h';subst h';obtain⟨h1,h2⟩:=uj eb;rw[ZE,<- h1,ur ea];refine{rfl,λx hx=>?_};rcases Y6.mp hx with rfl|hx
     ·exact hk
     ·exact h2 x hx
 |.cN::_,_,h=>by cases h
 |.bl _::_,_,h=>by cases h
 |.str _::_,_,h=>by cases h
 |.obj _::_,_,h=>by cases h
 |.int _::_,_,h=>by cases h
 |.lst _::_,_,h=>by cases h
 |.dT _ _::_,_,h=>by cases h
 |.dK _ _::_,_,h=>by cases h
 |.sT _::_,_,h=>by cases h
 |.ob _::_,_,h=>by cases h
theorem qi:∀{ks:List (List Int)},(∀k∈ks,k≠[])->j4 (ks.map kD)=some ks
 |[],_=>rfl
 |k::ks,h=>by
  show (match dB (k.map D.int),j4 (ks.map kD)with|some k,some ks=>if k=[] then none else some (k::ks)|_,_=>none)=_
  rw[qr,qi λx hx=>h x (Zu _ hx)];simp[h k (ZK ..)]
section
variable {P:Y7}{w:Zj}{W:Addr->Prop}{H:Hp}
theorem qh:∀{ks:List (List Int)} {vs:List V},(∀k∈ks,k≠[])->ai P w W H (ks.map kD) vs->∃ts:List (Addr×List Int),vs=ts.map yL/\GW H ts/\ts.map (·.2)=ks
 |[],_,_,h=>{[],h,(λ_ z=>nomatch z),rfl}
 |k::ks,_,hk,⟨v,r,e,⟨a,us,e1,e2,e3⟩,h2⟩=>by
  obtain⟨ts,q1,q2,q3⟩:=qh (λx hx=>hk x (Zu _ hx)) h2;refine{(a,k)::ts,by rw[e,e1,q1];rfl,λt ht=>?_,by rw[ZE,q3]}
  rcases Y6.mp ht with rfl|ht
  ·rw[cE e3]at e2;exact{e2,hk k (ZK ..)}
  ·exact q2 t ht
theorem pO:∀{ts:List (Addr×List Int)},(∀t∈ts,H t.1=some (.tup (t.2.map V.int)))->ai P w W H ((ts.map (·.2)).map kD) (ts.map yL)
 |[],_=>rfl
 |t::ts,h=>{_,_,rfl,{t.1,_,rfl,h t (ZK ..),qp t.2},pO λx hx=>h x (Zu _ hx)}
end
def bw:FD:=λds R=>∃n:Int,ds=[.int n]/\0<n/\n<2 ^ 200/\∀r:Int,0<=r->r<n->R (.int r)
def bw.mono:dq bw:=λds R R' k ⟨n,e,h1,h2,q⟩=>{n,e,h1,h2,λr a b=>k _ (q r a b)}
section
variable {X:Cx}{W:Addr->Prop}{H:Hp}
def zq {p:Addr}{vs:List V}{ds:List D}(n:H p=none)(f:NL (.lst ds))(r:mD X W H ds vs):Rp X (λa=>H a≠none) (upd H p (.lst vs)) (.lst ds) (.ref p) :=
 {p,vs,rfl,ak,λz=>z n,ai.flat f (r.same (aB.new n))}
def QS (X:Cx)(f:D->D->Option D):R2:=λx y H Q=>∃W d1 d2 d,Dm W H/\Rp X W H d1 x/\Rp X W H d2 y/\f d1 d2=some d/\∀v H',aB H H'->Rp X W H' d v->(NL d->Rp X (λa=>H a≠none) H' d v)->Q v H'
def QR (X:Cx)(f:List D->Option D):List V->Hp->VK->Prop:=λxs H Q=>∃W ds d,Dm W H/\mD X W H ds xs/\f ds=some d/\∀v H',aB H H'->Rp X W H' d v->(NL d->Rp X (λa=>H a≠none) H' d v)->Q v H'
def MH (X:Cx)(f:D->Option Int->Option Int->Option D):V->Option Int->Option Int->Hp->VK->Prop:=λx lo hi H Q=>∃W d1 d,Dm W H/\Rp X W H d1 x/\f d1 lo hi=some d/\∀v H',aB H H'->Rp X W H' d v->(NL d->Rp X (λa=>H a≠none) H' d v)->Q v H'
abbrev Pe (X:Cx)(f:Y1->Y1->Sem Y1)(g:D->D->Option D):Prop:=lF X f (QS X g)
abbrev Ea (X:Cx)(f:Y1)(g:List D->Option D):Prop:=gW X f (QR X g)
def aA:Pe X (aax .Add) Ae:=by
 intro pins s σ H x y v u Q I rx ry h;obtain⟨W,d1,d2,d,hd,r1,r2,e,q⟩:=h;rcases zA e with⟨a,b,rfl,rfl,e⟩|e
 ·obtain⟨hl,rfl⟩:=eC e;obtain⟨p,vs,rfl,h1,n1,q1⟩:=r1;obtain⟨p',vs',rfl,h2,n2,q2⟩:=r2;exact B6 pins s σ H _ _ v u Q I rx ry {p,p',vs,vs',rfl,rfl,h1,h2,by rw[q1.length,q2.length];exact hl,λl zR=>q _ _ (aB.new zR) (Rp.kY hd zR (q1.append q2)) λf=>zq zR f (q1.append q2)}
 ·obtain⟨i,j,rfl,rfl,e⟩:=k9 e;cases e;cases r1;cases r2;exact rO pins s σ H _ _ v u Q I rx ry {i,j,rfl,rfl,q _ _ (aB.refl _) rfl λ_=>rfl}
def EE:Ug X (MH X HU):=by
 intro pins s σ H x v vl vu lo hi sl Q I rx hs pl pu h;obtain⟨W,d1,d,hd,r1,e,q⟩:=h;cases d1 with
 |lst ds =>
  cases e;obtain⟨p,vs,rfl,h1,n1,q1⟩:=r1;have rr:mD X W H (cutD ds lo hi) (uX vs lo hi):=by
   unfold uX cutD;rw[q1.length];exact(ai.drop _ q1).take _
  exact xp pins s σ H _ v vl vu lo hi sl Q I rx hs pl pu {p,vs,rfl,dj.of h1,λl hl=>q _ _ (aB.new hl) (Rp.kY hd hl rr) λf=>zq hl f rr}
 |_=>cases e
def iL:Ea X (.type "list") dList:=by
 intro pins s σ H xs us Q I r h;obtain⟨W,ds,d,hd,r1,e,q⟩:=h
 match ds,e with
 |[.lst es],e =>
  cases e;obtain⟨v,r',rfl,⟨p,vs,rfl,h1,n1,q1⟩,hr⟩:=r1;cases hr;exact gI pins s σ H _ us Q I r {p,vs,rfl,.inl (dj.of h1),λl hl=>q _ _ (aB.new hl) (Rp.kY hd hl q1) λf=>zq hl f q1}
 |[.tup es],e =>
  cases e;obtain⟨v,r',rfl,⟨p,vs,rfl,h1,q1⟩,hr⟩:=r1;cases hr;exact gI pins s σ H _ us Q I r {p,vs,rfl,.inr (u_.of h1),λl hl=>q _ _ (aB.new hl) (Rp.kY hd hl q1) λf=>zq hl f q1}
end
end L2
namespace L2.Q
open PySem PySem.Spec PySem.SeqAt PyProof.Rows
section
variable (P:Y7)(w:Zj)(H:Hp)
mutual
def Own:D->V->List Addr->Prop
 |.tup ds,v,A=>∃a vs,v=.ref a/\H a=some (.tup vs)/\aR ds vs A
 |.lst ds,v,A=>∃a vs A',v=.ref a/\H a=some (.lst vs)/\A=a::A'/\aR ds vs A'
 |.dT ks ds,v,A=>∃a vs A',v=.ref a/\H a=some (.dT (ks.zip vs))/\ks.length=vs.length/\A=a::A'/\aR ds vs A'
 |.dK ks ds,v,A=>∃a vs A',v=.ref a/\H a=some (.dK (ks.zip vs))/\ks.length=vs.length/\A=a::A'/\aR ds vs A'
 |.sT ts,v,A=>∃a,v=.ref a/\GY P w H a ts/\A=[a]
 |.ob φ,v,A=>∃a,v=.ref a/\(H a=some (φ a)/\∀xs,φ a≠.tup xs)/\A=[a]
 |.cN,v,A=>v=.cN/\A=[]
 |.bl b,v,A=>v=.bl b/\A=[]
 |.int i,v,A=>v=.int i/\A=[]
 |.str x,v,A=>v=.str x/\A=[]
 |.obj a,v,A=>v=.ref a/\A=[]
def aR:List D->List V->List Addr->Prop
 |[],vs,A=>vs=[]/\A=[]
 |d::ds,vs,A=>∃v r A1 A2,vs=v::r/\A=A1++A2/\Own d v A1/\aR ds r A2
end
end
section
variable {P:Y7}{w:Zj}{W:Addr->Prop}{H H':Hp}
def yS {a:Addr}{ts:List (List Int)}(k:∀b xs,H b=some (.tup xs)->H' b=some (.tup xs))(ha:∀o,H a=some o->H' a=some o)(h:GY P w H a ts):GY P w H' a ts :=
 let ⟨jz,e,r,z⟩:=h;{jz,ha _ e,λx hx=>k _ _ (r x hx),z}
mutual
theorem Own.keep (k:∀b xs,H b=some (.tup xs)->H' b=some (.tup xs)):∀{d:D} {v:V} {A:List Addr},(∀c∈A,∀o,H c=some o->H' c=some o)->Own P w H d v A->Own P w H' d v A
 |.tup ds,_,_,ha,⟨a,vs,e,t,r⟩=>{a,vs,e,k a vs t,aR.keep k ha r}
 |.lst ds,_,_,ha,⟨a,vs,A',e,t,eA,r⟩=>{a,vs,A',e,ha a (by rw[eA];simp) _ t,eA,aR.keep k (λc hc=>ha c (by rw[eA];simp[hc])) r}
 |.dT ks ds,_,_,ha,⟨a,vs,A',e,t,l,eA,r⟩=>{a,vs,A',e,ha a (by rw[eA];simp) _ t,l,eA,aR.keep k (λc hc=>ha c (by rw[eA];simp[hc])) r}
 |.dK ks ds,_,_,ha,⟨a,vs,A',e,t,l,eA,r⟩=>{a,vs,A',e,ha a (by rw[eA];simp) _ t,l,eA,aR.keep k (λc hc=>ha c (by rw[eA];simp[hc])) r}
 |.sT ts,_,_,ha,⟨a,e,r,eA⟩=>{a,e,yS k (λo ho=>ha a (by rw[eA];simp) o ho) r,eA}
 |.ob φ,_,_,ha,⟨a,e,r,eA⟩=>{a,e,{ha a (by rw[eA];simp) _ r.1,r.2},eA}
 |.cN,_,_,_,h=>h
 |.bl _,_,_,_,h=>h
 |.int _,_,_,_,h=>h
 |.str _,_,_,_,h=>h
 |.obj _,_,_,_,h=>h
theorem aR.keep (k:∀b xs,H b=some (.tup xs)->H' b=some (.tup xs)):∀{ds:List D} {vs:List V} {A:List Addr},(∀c∈A,∀o,H c=some o->H' c=some o)->aR P w H ds vs A->aR P w H' ds vs A
 |[],_,_,_,h=>h
 |d::ds,_,_,ha,⟨v,r,A1,A2,e,eA,h1,h2⟩=>{v,r,A1,A2,e,eA,Own.keep k (λc hc=>ha c (by rw[eA];simp[hc])) h1,aR.keep k (λc hc=>ha c (by rw[eA];simp[hc])) h2}
end
mutual
theorem Own.rep:∀{d:D} {v:V} {A:List Addr},(∀c∈A,¬ W c)->Own P w H d v A->aC P w W H d v
 |.tup ds,_,_,ha,⟨a,vs,e,t,r⟩=>{a,vs,e,t,aR.rep ha r}
 |.lst ds,_,_,ha,⟨a,vs,A',e,t,eA,r⟩=>{a,vs,e,t,ha a (by rw[eA];simp),aR.rep (λc hc=>ha c (by rw[eA];simp[hc])) r}
 |.dT ks ds,_,_,ha,⟨a,vs,A',e,t,l,eA,r⟩=>{a,vs,e,t,l,ha a (by rw[eA];simp),aR.rep (λc hc=>ha c (by rw[eA];simp[hc])) r}
 |.dK ks ds,_,_,ha,⟨a,vs,A',e,t,l,eA,r⟩=>{a,vs,e,t,l,ha a (by rw[eA];simp),aR.rep (λc hc=>ha c (by rw[eA];simp[hc])) r}
 |.sT ts,_,_,ha,⟨a,e,r,eA⟩=>{a,e,r,ha a (by rw[eA];simp)}
 |.ob φ,_,_,ha,⟨a,e,r,eA⟩=>{a,e,r,ha a (by rw[eA];simp)}
 |.cN,_,_,_,h=>h.1
 |.bl _,_,_,_,h=>h.1
 |.int _,_,_,_,h=>h.1
 |.str _,_,_,_,h=>h.1
 |.obj _,_,_,_,h=>h.1
theorem aR.rep:∀{ds:List D} {vs:List V} {A:List Addr},(∀c∈A,¬ W c)->aR P w H ds vs A->ai P w W H ds vs
 |[],_,_,_,h=>h.1
 |d::ds,_,_,ha,⟨v,r,A1,A2,e,eA,h1,h2⟩=>{v,r,e,Own.rep (λc hc=>ha c (by rw[eA];simp[hc])) h1,aR.rep (λc hc=>ha c (by rw[eA];simp[hc])) h2}
end
mutual
theorem Own.ph:∀{d:D} {v:V} {A:List Addr},Own P w H d v A->∀c∈A,H c≠none/\∀xs,H c≠some (.tup xs)
 |.tup ds,_,_,⟨a,vs,e,t,r⟩,c,hc=>aR.ph r c hc
 |.lst ds,_,_,⟨a,vs,A',e,t,eA,r⟩,c,hc=>by
  rw[eA]at hc;rcases Y6.mp hc with rfl|hc
  ·rw[t];exact{λz=>(nomatch z),λxs z=>by cases z}
  ·exact aR.ph r c hc
 |.dT ks ds,_,_,⟨a,vs,A',e,t,l,eA,r⟩,c,hc=>by
  rw[eA]at hc;rcases Y6.mp hc with rfl|hc
  ·rw[t];exact{λz=>(nomatch z),λxs z=>by cases z}
  ·exact aR.ph r c hc
 |.dK ks ds,_,_,⟨a,vs,A',e,t,l,eA,r⟩,c,hc=>by
  rw[eA]at hc;rcases Y6.mp hc with rfl|hc
  ·rw[t];exact{λz=>(nomatch z),λxs z=>by cases z}
  ·exact aR.ph r c hc
 |.sT ts,_,_,⟨a,e,⟨jz,t,r,z⟩,eA⟩,c,hc=>by
  rw[eA]at hc;rw[Zc.mp hc,t];exact{λz=>(nomatch z),λxs z=>by cases z}
 |.ob φ,_,_,⟨a,e,⟨t,z⟩,eA⟩,c,hc=>by
  rw[eA]at hc;rw[Zc.mp hc,t];exact{λz=>(nomatch z),λxs q=>z xs (ZZ q)}
 |.cN,_,_,h,c,hc=>by rw[h.2]at hc;cases hc
 |.bl _,_,_,h,c,hc=>by rw[h.2]at hc;cases hc
 |.int _,_,_,h,c,hc=>by rw[h.2]at hc;cases hc
 |.str _,_,_,h,c,hc=>by rw[h.2]at hc;cases hc
 |.obj _,_,_,h,c,hc=>by rw[h.2]at hc;cases hc
theorem aR.ph:∀{ds:List D} {vs:List V} {A:List Addr},aR P w H ds vs A->∀c∈A,H c≠none/\∀xs,H c≠some (.tup xs)
 |[],_,_,h,c,hc=>by rw[h.2]at hc;cases hc
 |d::ds,_,_,⟨v,r,A1,A2,e,eA,h1,h2⟩,c,hc=>by
  rw[eA]at hc;rcases Zt.mp hc with hc|hc
  ·exact Own.ph h1 c hc
  ·exact aR.ph h2 c hc
end
mutual
theorem d6:∀{d:D} {v:V},d.flat=true->aC P w W H d v->Own P w H d v []
 |.tup ds,_,f,⟨a,vs,e,t,r⟩=>{a,vs,e,t,f9 (by simpa[D.flat] using f) r}
 |.lst ds,_,f,_=>by simp[D.flat]at f
 |.dT ks ds,_,f,_=>by simp[D.flat]at f
 |.dK ks ds,_,f,_=>by simp[D.flat]at f
 |.sT ts,_,f,_=>by simp[D.flat]at f
 |.ob φ,_,f,_=>by simp[D.flat]at f
 |.cN,_,_,h=>{(h),rfl}
 |.bl _,_,_,h=>{(h),rfl}
 |.int _,_,_,h=>{(h),rfl}
 |.str _,_,_,h=>{(h),rfl}
 |.obj _,_,_,h=>{(h),rfl}
theorem f9:∀{ds:List D} {vs:List V},D.cK ds=true->ai P w W H ds vs->aR P w H ds vs []
 |[],_,_,h=>{(h),rfl}
 |d::ds,_,f,⟨v,r,e,h1,h2⟩=>by
  have f':(d.flat&&D.cK ds)=true:=f;rw[ZW]at f';exact{v,r,[],[],e,rfl,d6 f'.1 h1,f9 f'.2 h2}
end
theorem aR.length:∀{ds:List D} {vs:List V} {A:List Addr},aR P w H ds vs A->vs.length=ds.length
 |[],_,_,h=>by rw[h.1];rfl
 |d::ds,_,_,⟨v,r,A1,A2,e,eA,h1,h2⟩=>by rw[e,Zb,Zb,aR.length h2]
theorem aR.append:∀{ds ds':List D} {vs vs':List V} {A A':List Addr},aR P w H ds vs A->aR P w H ds' vs' A'->aR P w H (ds++ds') (vs++vs') (A++A')
 |[],_,_,_,_,_,h,h'=>by rw[h.1,h.2];exact h'
 |d::ds,_,_,_,_,_,⟨v,r,A1,A2,e,eA,h1,h2⟩,h'=>by
  subst e eA;exact{v,_,A1,_,rfl,by rw[Z8],h1,aR.append h2 h'}
def aR.one {d:D}{v:V}{A:List Addr}(h:Own P w H d v A):aR P w H [d] [v] A:={v,[],A,[],rfl,by simp,h,rfl,rfl}
theorem aR.split:∀{ds:List D} {vs:List V} {A:List Addr} {i:Nat} {d:D},aR P w H ds vs A->ds[i]?=some d->∃v A1 A2 A3,vs[i]?=some v/\A=A1++(A2++A3)/\aR P w H (ds.take i) (vs.take i) A1/\Own P w H d v A2/\aR P w H (ds.drop (i+1)) (vs.drop (i+1)) A3
 |[],_,_,_,_,_,e=>by simp at e
 |d::ds,_,_,0,_,⟨v,r,A1,A2,e,eA,h1,h2⟩,e'=>by
  simp at e';subst e' e eA;exact{v,[],A1,A2,by simp,by simp,{(rfl),rfl},h1,by simpa using h2}
 |d::ds,_,_,i+1,_,⟨v,r,A1,A2,e,eA,h1,h2⟩,e'=>by
  subst e eA;obtain⟨u,B1,B2,B3,g1,g2,g3,g4,g5⟩:=aR.split (i:=i) h2 (by simpa using e')
  exact{u,A1++B1,B2,B3,by simpa using g1,by rw[g2];simp[Z8],by simpa using {v,_,A1,B1,rfl,rfl,h1,g3},g4,by simpa using g5}
end
inductive Kd where
 |own|dt|old|bor
inductive Sk where
 |one|two|at (h:Addr)
inductive B where
 |val (y:Bool) (d:D)|own (d:D)|hand (ok:List Int->Prop)|shl (y:Sk) (d:D)
abbrev bb:=List (Option B)
structure Cfg where
 H0:Hp
 IO:Addr->Prop
 ro:Bool
 U:Addr->Prop:=λ_=>False
abbrev Wn (own:Nat->List Addr):Addr->Prop:=λa=>∃i,a∈own i
def av (C:Cfg)(W:Addr->Prop):Kd->Addr->Prop
 |.own,a=>W a\/C.H0 a≠none
 |.dt,a=>W a\/C.H0 a≠none
 |.old,a=>W a
 |.bor,_=>False
def eD (C:Cfg)(W:Addr->Prop)(k:Kd)(a:Addr):Prop:=av C W k a\/C.U a
abbrev yk (y:Bool):Kd:=match y with|true=>.dt|false=>.old
def He:D->HO->List V->Prop
 |.lst _,o,vs=>o=.lst vs
 |.dT ks _,o,vs=>o=.dT (ks.zip vs)/\ks.length=vs.length
 |.dK ks _,o,vs=>o=.dK (ks.zip vs)/\ks.length=vs.length
 |_,_,_=>False
def I9:D->List D
 |.lst ds=>ds
 |.dT _ ds=>ds
 |.dK _ ds=>ds
 |_=>[]
def kz (P:Y7)(w:Zj)(W:Addr->Prop)(H:Hp):List D->List V->List Addr->Prop
 |[],vs,A=>vs=[]/\A=[]
 |d::ds,vs,A=>∃b us r A',vs=.ref b::r/\A=b::A'/\H b=some (.lst us)/\(∃es,d=.lst es/\ai P w W H es us)/\kz P w W H ds r A'
def lE (P:Y7)(w:Zj)(W:Addr->Prop)(H:Hp)(d:D)(v:V)(A:List Addr):Prop:=∃a o vs,v=.ref a/\A=[a]/\H a=some o/\He d o vs/\ai P w W H (I9 d) vs
def Ax (P:Y7)(w:Zj)(W:Addr->Prop)(H:Hp)(y:Sk)(d:D)(v:V)(A:List Addr):Prop:=match y with
 |.one=>lE P w W H d v A
 |.at h=>lE P w W H d v A/\v=.ref h
 |.two=>∃a vs A' ds,v=.ref a/\A=a::A'/\H a=some (.lst vs)/\d=.lst ds/\kz P w W H ds vs A'
theorem kz.map {P:Y7}{w:Zj}{W W':Addr->Prop}{H H':Hp}(hr:∀ds vs,ai P w W H ds vs->ai P w W' H' ds vs):∀{ds:List D} {vs:List V} {A:List Addr},(∀c∈A,∀o,H c=some o->H' c=some o)->kz P w W H ds vs A->kz P w W' H' ds vs A
 |[],_,_,_,h=>h
 |_::_,_,_,ha,⟨b,us,r,A',e1,e2,e3,⟨es,e4,e5⟩,h⟩=>{b,us,r,A',e1,e2,ha b (by rw[e2];simp) _ e3,{es,e4,hr _ _ e5},kz.map hr (λc hc=>ha c (by rw[e2];simp[hc])) h}
theorem kz.rep {P:Y7}{w:Zj}{W W':Addr->Prop}{H:Hp}(hs:∀ds vs,ai P w W H ds vs->ai P w W' H ds vs):∀{ds:List D} {vs:List V} {A:List Addr},(∀c∈A,¬ W' c)->kz P w W H ds vs A->ai P w W' H ds vs
 |[],_,_,_,h=>h.1
 |_::_,_,_,ha,⟨b,us,r,A',e1,e2,e3,⟨es,e4,e5⟩,h⟩=>by
  subst e1 e2 e4;exact{.ref b,r,rfl,{b,us,rfl,e3,ha b (by simp),hs _ _ e5},kz.rep hs (λc hc=>ha c (by simp[hc])) h}
def lE.map {P:Y7}{w:Zj}{W W':Addr->Prop}{H H':Hp}{d:D}{v:V}{A:List Addr}(h:lE P w W H d v A)(ha:∀c∈A,∀o,H c=some o->H' c=some o)(hr:∀ds vs,ai P w W H ds vs->ai P w W' H' ds vs):lE P w W' H' d v A :=
 let ⟨a,o,vs,e1,e2,e3,e4,r⟩:=h;{a,o,vs,e1,e2,ha a (by rw[e2];simp) o e3,e4,hr _ _ r}
def Ax.map {P:Y7}{w:Zj}{W W':Addr->Prop}{H H':Hp}{y:Sk}{d:D}{v:V}{A:List Addr}(h:Ax P w W H y d v A)(ha:∀c∈A,∀o,H c=some o->H' c=some o)(hr:∀ds vs,ai P w W H ds vs->ai P w W' H' ds vs):Ax P w W' H' y d v A:=by
 cases y with
 |one=>exact lE.map h ha hr
 | «at» b=>exact{lE.map h.1 ha hr,h.2}
 |two =>
  obtain⟨a,vs,A',ds,e1,e2,e3,e4,r⟩:=h;exact{a,vs,A',ds,e1,e2,ha a (by rw[e2];simp) _ e3,e4,r.map hr λc hc=>ha c (by rw[e2];simp[hc])}
def lE.rep {P:Y7}{w:Zj}{W W':Addr->Prop}{H:Hp}{d:D}{v:V}{A:List Addr}(h:lE P w W H d v A)(ha:∀c∈A,¬ W' c)(hs:∀ds vs,ai P w W H ds vs->ai P w W' H ds vs):aC P w W' H d v:=by
 obtain⟨a,o,vs,rfl,rfl,e,sh,r⟩:=h;have na:=ha a (by simp)
 replace r:=hs _ _ r;cases d with
 |lst ds=>cases sh;exact{(a),vs,rfl,e,na,r}
 |dT ks ds=>obtain⟨rfl,l⟩:=sh;exact{(a),vs,rfl,e,l,na,r}
 |dK ks ds=>obtain⟨rfl,l⟩:=sh;exact{(a),vs,rfl,e,l,na,r}
 |_=>exact sh.elim
def Ax.rep {P:Y7}{w:Zj}{W W':Addr->Prop}{H:Hp}{y:Sk}{d:D}{v:V}{A:List Addr}(h:Ax P w W H y d v A)(ha:∀c∈A,¬ W' c)(hs:∀ds vs,ai P w W H ds vs->ai P w W' H ds vs):aC P w W' H d v:=by
 cases y with
 |one=>exact lE.rep h ha hs
 | «at» b=>exact lE.rep h.1 ha hs
 |two =>
  obtain⟨a,vs,A',ds,rfl,rfl,e3,rfl,r⟩:=h;exact{a,vs,rfl,e3,ha a (by simp),r.rep hs λc hc=>ha c (by simp[hc])}
structure bj (P:Y7)(w:Zj)(C:Cfg)(σ:St)(H:Hp)(β:bb)(own:Nat->List Addr):Prop where
 len:β.length=σ.length
 val:∀(i:Nat) (y:Bool) (d:D),β[i]?=some (some (.val y d))->∃v,σ[i]?=some (some v)/\aC P w (eD C (Wn own) (yk y)) H d v
 ow:∀(i:Nat) (d:D),β[i]?=some (some (.own d))->∃v,σ[i]?=some (some v)/\Own P w H d v (own i)/\∀c∈own i,C.H0 c=none
 nN:∀(i:Nat) (ok:List Int->Prop),β[i]?=some (some (.hand ok))->∃a ns,σ[i]?=some (some (.ref a))/\H a=some (.lst (ns.map V.int))/\ok ns/\own i=[a]/\((∀b,¬ C.IO b)\/C.IO a)
 dm:∀(i:Nat) (a:Addr),a∈own i->H a≠none/\(∀xs,H a≠some (.tup xs))/\(C.H0 a=none\/C.IO a)/\¬ C.U a
 jm:∀(i j:Nat) (a:Addr),a∈own i->a∈own j->i=j
 jq:∀i,(own i).Nodup
 kp:Kp C.IO C.H0 H
 fS:∀a,C.H0 a≠none->H a≠none
 shl:∀(i:Nat) (y:Sk) (d:D),β[i]?=some (some (.shl y d))->∃v,σ[i]?=some (some v)/\Ax P w (eD C (Wn own) (yk true)) H y d v (own i)/\∀c∈own i,C.H0 c=none
abbrev SQ (X:Cx):=bj X.prog X.w
section
variable {P:Y7}{w:Zj}{C:Cfg}{σ:St}{H H':Hp}{β:bb}{own:Nat->List Addr}{W W':Addr->Prop}
def bj.sD (b:bj P w C σ H β own):Dm (Wn own) H:=λa ⟨i,h⟩=>(b.dm i a h).1
def bj.HR (b:bj P w C σ H β own)(k:Kd):Dm (av C (Wn own) k) H:=λa h=>by
 cases k with
 |own=>exact h.elim (b.sD a) (b.fS a)
 |dt=>exact h.elim (b.sD a) (b.fS a)
 |old=>exact b.sD a h
 |bor=>exact h.elim
def mB (s:∀a,W' a->W a)(k:Kd):∀a,av C W' k a->av C W k a:=λa h=>by
 cases k with
 |own=>exact h.imp (s a) id
 |dt=>exact h.imp (s a) id
 |old=>exact s a h
 |bor=>exact h
def fm (s:∀a,W' a->W a)(k:Kd):∀a,eD C W' k a->eD C W k a:=λa h=>h.imp (mB s k a) id
def bj.keep (b:bj P w C σ H β own)(k:Kp (λa=>H a=none) H H')(kp:Kp C.IO H H')(dn:∀a,H a≠none->H' a≠none):bj P w C σ H' β own:=by
 have ko:∀c o,H c=some o->H' c=some o:=λc o e=>k.out c o e (by rw[e];exact λz=>(nomatch z))
 have same:aB H H':=ko;exact⟨b.len,λi y d e=>let ⟨v,h1,h2⟩:=b.val i y d e;{v,h1,h2.same same},λi d e=>let ⟨v,h1,h2,h3⟩:=b.ow i d e;{v,h1,h2.keep (λ_ _ e=>same _ _ e) (λc _ o e=>same c o e),h3},
  λi ok e=>let ⟨a,ns,h1,h2,h3⟩:=b.nN i ok e;{a,ns,h1,same _ _ h2,h3},λi a h=>by
   obtain⟨h1,h2,h3⟩:=b.dm i a h;cases q:H a with
   |none=>exact absurd q h1
   |some o=>rw[same a o q];exact{λz=>(nomatch z),λxs z=>h2 xs (by rw[q];exact z),h3},b.jm,b.jq,b.kp.trans kp,λa z=>dn a (b.fS a z),λi y d e=>let ⟨v,h1,h2,h3⟩:=b.shl i y d e;{v,h1,h2.map (λc _ o e=>same c o e) (λ_ _ r=>r.same same),h3}⟩
def bj.same (b:bj P w C σ H β own)(s:aB H H'):bj P w C σ H' β own:=b.keep s.kp s.kp λa z e=>z (s.free e)
def gm {own:Nat->List Addr}{i:Nat}{a:Addr}(h:Wn (aH own i []) a):Wn own a:=let ⟨j,q⟩:=h;{j,(br q).1}
def a5 {own:Nat->List Addr}{i j:Nat}{A:List Addr}(h:i≠j):aH own i A j=own j:=by unfold aH;rw[if_neg (Z_ h)]
def os_eq {own:Nat->List Addr}{i:Nat}{A:List Addr}:aH own i A i=A:=by unfold aH;rw[if_pos rfl]
def bj.eX {i:Nat}{d:D}{v:V}{y:Bool}(b:bj P w C σ H β own)(r:aC P w (eD C (Wn own) (yk y)) H d v):bj P w C (σ.set i (some v)) H (β.set i (some (.val y d))) (aH own i []):=by
 have sub:∀y a,eD C (Wn (aH own i [])) (yk y) a->eD C (Wn own) (yk y) a:=λy=>fm (λa h=>gm h) _;refine{by simp[b.len],λj y' d' e=>?_,λj d' e=>?_,λj ok e=>?_,λj a h=>b.dm j a (br h).1,λj k a h1 h2=>b.jm j k a (br h1).1 (br h2).1,λj=>?_,b.kp,b.fS,λj y' d' e=>?_}
 ·by_cases aD:i=j
  ·subst aD;obtain⟨e',hl⟩:=aP e;cases e';exact{v,get_set (by rw[<- b.len];exact hl),r.aY (sub _)}
  ·rw[aO aD]at e ⊢
   obtain⟨u,h1,h2⟩:=b.val j y' d' e;exact{u,h1,h2.aY (sub _)}
 ·by_cases aD:i=j
  ·subst aD;obtain⟨e',hl⟩:=aP e;cases e'
  ·rw[aO aD]at e ⊢
   rw[a5 aD];exact b.ow j d' e
 ·by_cases aD:i=j
  ·subst aD;obtain⟨e',hl⟩:=aP e;cases e'
  ·rw[aO aD]at e ⊢
   rw[a5 aD];exact b.nN j ok e
 ·by_cases aD:i=j
  ·rw[aD,os_eq];exact Z5
  ·rw[a5 aD];exact b.jq j
 ·by_cases aD:i=j
  ·subst aD;obtain⟨e',hl⟩:=aP e;cases e'
  ·rw[aO aD]at e ⊢
   rw[a5 aD];obtain⟨u,h1,h2,h3⟩:=b.shl j y' d' e;exact{u,h1,h2.map (λ_ _ _ z=>z) (λ_ _ r=>ai.aY (sub _) r),h3}
def bj.vP {i:Nat}{d:D}{v:V}{A:List Addr}(b:bj P w C σ H β own)(r:Own P w H d v A)(nd:A.Nodup)(nw:∀c∈A,C.H0 c=none/\¬ Wn own c/\C.U c):
  bj P w {C with U:=λ_=>False} (σ.set i (some v)) H (β.set i (some (.own d))) (aH own i A):=by
 have sub:∀y a,eD {C with U:=λ_=>False} (Wn (aH own i A)) (yk y) a->eD C (Wn own) (yk y) a:=λy a h=>by
  have q:∀a,Wn (aH own i A) a->Wn own a\/a∈A:=λa nM=>by
   obtain⟨j,q⟩:=nM
   by_cases aD:i=j
   ·rw[aD,os_eq]at q;exact .inr q
   ·rw[a5 aD]at q;exact .inl {(j),q}
  have q':∀a,Wn (aH own i A) a->Wn own a\/C.U a:=λa z=>(q a z).imp id λz=>(nw a z).2.2;rcases h with h|h
  ·cases y with
   |true=>exact h.elim (λz=>(q' a z).imp .inl id) λz=>.inl (.inr z)
   |false=>exact q' a h
  ·exact h.elim
 have mem:∀{j c},c∈aH own i A j->(i=j/\c∈A)\/(i≠j/\c∈own j):=λ{j c} h=>by
  by_cases aD:i=j
  ·subst aD;rw[os_eq]at h;exact .inl {(rfl),h}
  ·rw[a5 aD]at h;exact .inr {(aD),h}
 refine{by simp[b.len],λj y' d' e=>?_,λj d' e=>?_,λj ok e=>?_,λj a h=>?_,λj k a h1 h2=>?_,λj=>?_,b.kp,b.fS,λj y' d' e=>?_}
 ·by_cases aD:i=j
  ·subst aD;obtain⟨e',hl⟩:=aP e;cases e'
  ·rw[aO aD]at e ⊢
   obtain⟨u,h1,h2⟩:=b.val j y' d' e;exact{u,h1,h2.aY (sub _)}
 ·by_cases aD:i=j
  ·subst aD;obtain⟨e',hl⟩:=aP e;cases e';rw[os_eq];exact{v,get_set (by rw[<- b.len];exact hl),r,λc hc=>(nw c hc).1}
  ·rw[aO aD]at e ⊢
   rw[a5 aD];exact b.ow j d' e
 ·by_cases aD:i=j
  ·subst aD;obtain⟨e',hl⟩:=aP e;cases e'
  ·rw[aO aD]at e ⊢
   rw[a5 aD];exact b.nN j ok e
 ·rcases mem h with⟨_,h⟩|⟨_,h⟩
  ·exact{(r.ph a h).1,(r.ph a h).2,.inl (nw a h).1,λz=>z}
  ·exact{(b.dm j a h).1,(b.dm j a h).2.1,(b.dm j a h).2.2.1,λz=>z}
 ·rcases mem h1 with⟨e1,h1⟩|⟨n1,h1⟩
  ·rcases mem h2 with⟨e2,h2⟩|⟨n2,h2⟩
   ·rw[<- e1,<- e2]
   ·exact absurd {(k),h2} (nw a h1).2.1
  ·rcases mem h2 with⟨e2,h2⟩|⟨n2,h2⟩
   ·exact absurd {(j),h1} (nw a h2).2.1
   ·exact b.jm j k a h1 h2
 ·by_cases aD:i=j
  ·rw[<- aD,os_eq];exact nd
  ·rw[a5 aD];exact b.jq j
 ·by_cases aD:i=j
  ·subst aD;obtain⟨e',hl⟩:=aP e;cases e'
  ·rw[aO aD]at e ⊢
   rw[a5 aD];obtain⟨u,h1,h2,h3⟩:=b.shl j y' d' e;exact{u,h1,h2.map (λ_ _ _ z=>z) (λ_ _ r=>ai.aY (sub _) r),h3}
def bj.freeze {i:Nat}{d:D}(b:bj P w C σ H β own)(h:β[i]?=some (some (.own d))):bj P w C σ H (β.set i (some (.val true d))) (aH own i []):=by
 obtain⟨v,h1,h2,h3⟩:=b.ow i d h;have e:σ.set i (some v)=σ:=by
  apply aau;intro j;rw[aaX]
  by_cases aD:i=j
  ·subst aD;rw[if_pos rfl,h1];have:i<σ.length:=(Y_.mp h1).1;rw[if_pos this]
  ·rw[if_neg aD]
 have q:=bj.eX (i:=i) (d:=d) (v:=v) (y:=true) (own:=aH own i []) (C:=C) (P:=P) (w:=w) (σ:=σ) (H:=H) (β:=β.set i none);have b':bj P w C σ H (β.set i none) (aH own i []):=by
  have sub:∀y a,eD C (Wn (aH own i [])) (yk y) a->eD C (Wn own) (yk y) a:=λy=>fm (λa h=>gm h) _;refine{by simp[b.len],λj y' d' e=>?_,λj d' e=>?_,λj ok e=>?_,λj a h=>b.dm j a (br h).1,λj k a h1 h2=>b.jm j k a (br h1).1 (br h2).1,λj=>?_,b.kp,b.fS,λj y' d' e=>?_}
  ·by_cases aD:i=j
   ·subst aD;obtain⟨e',hl⟩:=aP e;cases e'
   ·rw[aO aD]at e;obtain⟨u,h1,h2⟩:=b.val j y' d' e;exact{u,h1,h2.aY (sub _)}
  ·by_cases aD:i=j
   ·subst aD;obtain⟨e',hl⟩:=aP e;cases e'
   ·rw[aO aD]at e;rw[a5 aD];exact b.ow j d' e
  ·by_cases aD:i=j
   ·subst aD;obtain⟨e',hl⟩:=aP e;cases e'
   ·rw[aO aD]at e;rw[a5 aD];exact b.nN j ok e
  ·by_cases aD:i=j
   ·rw[aD,os_eq];exact Z5
   ·rw[a5 aD];exact b.jq j
  ·by_cases aD:i=j
   ·subst aD;obtain⟨e',hl⟩:=aP e;cases e'
   ·rw[aO aD]at e;rw[a5 aD];obtain⟨u,h1,h2,h3⟩:=b.shl j y' d' e;exact{u,h1,h2.map (λ_ _ _ z=>z) (λ_ _ r=>ai.aY (sub _) r),h3}
 have q:=bj.eX (i:=i) (d:=d) (v:=v) (y:=true) b' (h2.rep λc hc z=>by
  rcases z with (z|z)|z
  ·obtain⟨j,hj⟩:=z;obtain⟨hj,ne⟩:=br hj;exact ne (b.jm j i c hj hc)
  ·exact z (h3 c hc)
  ·exact(b.dm i c hc).2.2.2 z)
 rw[e,aba]at q;have eo:aH (aH own i []) i []=aH own i []:=by
  funext j
  by_cases aD:i=j
  ·rw[<- aD,os_eq,os_eq]
  ·rw[a5 aD,a5 aD]
 rwa [eo]at q
abbrev Cfg.u (C:Cfg)(U:Addr->Prop):Cfg:={C with U:=U}
def bj.lJ {U:Addr->Prop}(b:bj P w C σ H β own)(hU:∀a,U a->H a=none):bj P w (C.u U) σ H β own :=
 {b.len,λi y d e=>let ⟨v,h1,h2⟩:=b.val i y d e;{v,h1,aC.grow (λa z=>z.elim (λz=>.inl (.inl z)) λz=>.inr (hU a z)) h2},b.ow,b.nN,λi a h=>let ⟨h1,h2,h3,_⟩:=b.dm i a h;{h1,h2,h3,λz=>h1 (hU a z)},b.jm,b.jq,b.kp,b.fS,λi y d e=>let ⟨v,h1,h2,h3⟩:=b.shl i y d e;{v,h1,h2.map (λ_ _ _ z=>z) (λ_ _ r=>ai.grow (λa z=>z.elim (λz=>.inl (.inl z)) λz=>.inr (hU a z)) r),h3}}
def bj.UY {U:Addr->Prop}(b:bj P w (C.u U) σ H β own):bj P w (C.u λ_=>False) σ H β own :=
 {b.len,λi y d e=>let ⟨v,h1,h2⟩:=b.val i y d e;{v,h1,aC.aY (λa z=>z.elim .inl λz=>z.elim) h2},b.ow,b.nN,λi a h=>let ⟨h1,h2,h3,_⟩:=b.dm i a h;{h1,h2,h3,λz=>z},b.jm,b.jq,b.kp,b.fS,λi y d e=>let ⟨v,h1,h2,h3⟩:=b.shl i y d e;{v,h1,h2.map (λ_ _ _ z=>z) (λ_ _ r=>ai.aY (λa z=>z.elim .inl λz=>z.elim) r),h3}}
def bj.mK {i:Nat}{y:Bool}{d:D}(b:bj P w C σ H β own)(e:β[i]?=some (some (.val y d))):∃v,σ[i]?=some (some v)/\aC P w (av C (Wn own) (yk y)) H d v:=let ⟨v,h1,h2⟩:=b.val i y d e;{v,h1,aC.aY (λa z=>.inl z) h2}
end
def KV (P:Y7)(w:Zj)(C:Cfg)(Z:Hp×(Addr->Prop))(own:Nat->List Addr)(H:Hp):Kd->D->V->Prop
 |.own,d,v=>∃A,Own P w H d v A/\A.Nodup/\∀c∈A,Z.1 c=none/\¬ Wn own c/\C.H0 c=none
 |.dt,d,v=>aC P w (av C (Wn own) .dt) H d v
 |.old,d,v=>aC P w (av C (Wn own) .old) H d v
 |.bor,d,v=>aC P w (av C (Wn own) .bor) H d v
structure Uj (P:Y7)(w:Zj)(C:Cfg)(σ:St)(H:Hp)(own:Nat->List Addr)(p:Bool)(β':bb)(H':Hp)(a8:Nat->List Addr):Prop where
 sq:bj P w C σ H' β' a8
 sn:Sn (H,Wn own) H' (Wn a8)
 pu:p=true->aB H H'/\a8=own
 le:∀a,Wn a8 a->Wn own a
abbrev Out (X:Cx):=Uj X.prog X.w
section
variable {X:Cx}{C:Cfg}{σ:St}{H H1 H2 H':Hp}{own ay bH:Nat->List Addr}{p p':Bool}{β β1 β2 β':bb}{Z:Hp×(Addr->Prop)}{d:D}{v:V}{k:Kd}{P:Y7}{w:Zj}
def Out.refl (s:SQ X C σ H β own)(p:Bool):Out X C σ H own p β H own:={s,Sn.refl,λ_=>{aB.refl _,rfl},λ_ z=>z}
def Out.trans (a:Out X C σ H own p β1 H1 ay)(b:Out X C σ H1 ay p' β2 H2 bH):Out X C σ H own (p&&p') β2 H2 bH:=⟨b.sq,a.sn.trans b.sn,λh=>by
 rw[ZW]at h;obtain⟨s1,e1⟩:=a.pu h.1;obtain⟨s2,e2⟩:=b.pu h.2;exact{s1.trans s2,e2.trans e1},λc z=>a.le c (b.le c z)⟩
def Out.same (a:Out X C σ H own p β1 H1 ay)(s:aB H1 H2):Out X C σ H own p β1 H2 ay:={a.sq.same s,a.sn.same s,λh=>let ⟨s1,e1⟩:=a.pu h;{s1.trans s,e1},a.le}
noncomputable def Out.wk (a:Out X C σ H own p β1 H1 ay)(h:p'=true->p=true):Out X C σ H own p' β1 H1 ay:={a.sq,a.sn,λz=>a.pu (h z),a.le}
def Out.yJ {q:Bool}(a:Out X C σ H own p β1 H1 ay)(b:Out X C σ H1 ay p' β2 H2 bH)(h:q=true->p=true/\p'=true):Out X C σ H own q β2 H2 bH:=(a.trans b).wk λz=>by rw[(h z).1,(h z).2];rfl
def KV.rep (h:KV P w C Z own H k d v):aC P w (av C (Wn own) k) H d v:=by
 cases k with
 |own=>obtain⟨A,h1,h2,h3⟩:=h;exact h1.rep λc hc z=>z.elim (h3 c hc).2.1 λz=>z (h3 c hc).2.2
 |_=>exact h
def KV.dt (h:KV P w C Z own H .own d v):KV P w C Z own H .dt d v:=KV.rep (k:=.own) h
def KV.flat {W:Addr->Prop}(f:d.flat=true)(h:aC P w W H d v):KV P w C Z own H .own d v:={[],d6 f h,Z5,λc hc=>(nomatch hc)}
noncomputable abbrev Kd.wk:Kd->Kd
 |.own=>.dt
 |.dt=>.dt
 |.old=>.old
 |.bor=>.bor
abbrev Kd.max:Kd->Kd->Kd
 |.bor,_=>.bor
 |_,.bor=>.bor
 |.old,_=>.old
 |_,.old=>.old
 |_,_=>.dt
def gL {W:Addr->Prop}{a b:Kd}:∀c,av C W (a.max b) c->av C W a c:=λc h=>by
 cases a <;> cases b <;> first|exact h|exact h.elim|exact .inl h
def mC {W:Addr->Prop}{a b:Kd}:∀c,av C W (a.max b) c->av C W b c:=λc h=>by
 cases a <;> cases b <;> first|exact h|exact h.elim|exact .inl h
def KV.of (h:aC P w (av C (Wn own) k.wk) H d v):KV P w C Z own H k.wk d v:=by
 cases k <;> exact h
def KV.MA (h:KV P w C Z own H k d v)(s:aB H H'):KV P w C Z own H' k d v:=by
 cases k with
 |own=>obtain⟨A,h1,h2⟩:=h;exact{A,h1.keep (λb xs e=>s _ _ e) (λc _ o e=>s c o e),h2}
 |dt=>exact aC.same s h
 |old=>exact aC.same s h
 |bor=>exact aC.same s h
def KV.held (hk:k≠.bor)(h:KV P w C Z own H k d v)(n:Sn (H,Wn own) H2 (Wn bH)):KV P w C Z bH H2 k d v:=by
 cases k with
 |own =>
  obtain⟨A,h1,h2,h3⟩:=h;refine{A,h1.keep n.k.tup (λc hc o e=>n.k.out c o e λz=>z.elim (h3 c hc).2.1 λz=>(h1.ph c hc).1 z),h2,λc hc=>{(h3 c hc).1,λz=>(n.w c z).elim (h3 c hc).2.1 λz=>(h1.ph c hc).1 z,(h3 c hc).2.2}}
 |dt =>
  have g:aC P w (λa=>av C (Wn own) .dt a\/H a=none) H d v:=aC.grow (λb z=>z) h;exact aC.aY (λb z=>z.elim (λz=>(n.w b z).imp .inl id) λz=>.inl (.inr z)) (aC.keep (n.k.mono λb z=>z.imp .inl id) g)
 |old=>exact held (W:=Wn own) h n
 |bor=>exact absurd rfl hk
def KV.OD (h:KV P w C Z own H k d v)(s:aB H H2)(e:bH=own):KV P w C Z bH H2 k d v:=by rw[e];exact h.MA s
abbrev hold (k:Kd)(p:Bool):Prop:=match k,p with
 |.bor,false=>False
 |_,_=>True
def KV.ho (h:KV P w C Z own H k d v)(o:Out X C σ H own p β' H2 bH)(hh:hold k p):KV P w C Z bH H2 k d v:=by
 cases p with
 |true=>obtain⟨s,e⟩:=o.pu rfl;exact h.OD s e
 |false=>exact h.held (by rintro rfl;exact hh) o.sn
def KV.later (h:KV P w C (H1,Wn ay) own H k d v)(n:Sn Z H1 (Wn ay)):KV P w C Z own H k d v:=by
 cases k with
 |own=>obtain⟨A,h1,h2,h3⟩:=h;exact{A,h1,h2,λc hc=>{n.free (h3 c hc).1,(h3 c hc).2}}
 |_=>exact h
end
abbrev aQ:=bb->(D->Kd->bb->Prop)->Prop
abbrev a_:=bb->(Bool->bb->Prop)->Prop
abbrev bP:=bb->(List D->List Kd->bb->Prop)->Prop
def tQ (X:Cx)(C:Cfg)(p:Bool)(φ:aQ):TE:=λσ H Q=>∃β own,SQ X C σ H β own/\φ β λd k β'=>∀v H' a8,Out X C σ H own p β' H' a8->KV X.prog X.w C (H,Wn own) a8 H' k d v->Q v H'
def kA (X:Cx)(C:Cfg)(p:Bool)(φ:a_):TT:=λσ H Q=>∃β own,SQ X C σ H β own/\φ β λb β'=>∀H' a8,Out X C σ H own p β' H' a8->Q b H'
def KF (P:Y7)(w:Zj)(C:Cfg)(own:Nat->List Addr)(H:Hp):List Kd->List D->List V->List Addr->Prop
 |[],ds,vs,A=>ds=[]/\vs=[]/\A=[]
 |k::ks,ds,vs,A=>∃d dr v vr A1 A2,ds=d::dr/\vs=v::vr/\A=A1++A2/\(match k with | .own=>Own P w H d v A1|k=>A1=[]/\aC P w (av C (Wn own) k) H d v)/\KF P w C own H ks dr vr A2
def vb (P:Y7)(w:Zj)(C:Cfg)(Z:Hp×(Addr->Prop))(own:Nat->List Addr)(H:Hp)(ks:List Kd)(ds:List D)(vs:List V):Prop :=
 ∃A,KF P w C own H ks ds vs A/\A.Nodup/\∀c∈A,Z.1 c=none/\¬ Wn own c/\C.H0 c=none
def qV (X:Cx)(C:Cfg)(p:Bool)(φ:bP):TA:=λσ H Q=>∃β own,SQ X C σ H β own/\φ β λds ks β'=>∀vs H' a8,Out X C σ H own p β' H' a8->vb X.prog X.w C (H,Wn own) a8 H' ks ds vs->Q vs H'
section
variable {C:Cfg}{H H1:Hp}{own ay:Nat->List Addr}{Z:Hp×(Addr->Prop)}{d:D}{v:V}{k:Kd}{P:Y7}{w:Zj}{ks:List Kd}{ds:List D}{vs:List V}
def vb.nil:vb P w C Z own H [] [] []:={[],{(rfl),rfl,rfl},Z5,λc hc=>(nomatch hc)}
theorem KF.ph:∀{ks:List Kd} {ds:List D} {vs:List V} {A:List Addr},KF P w C own H ks ds vs A->∀c∈A,H c≠none
 |[],_,_,_,⟨_,_,e⟩,c,hc=>by rw[e]at hc;cases hc
 |k::ks,_,_,_,⟨d,dr,v,vr,A1,A2,rfl,rfl,rfl,h1,h2⟩,c,hc=>by
  rcases Zt.mp hc with hc|hc
  ·cases k with
   |own=>exact(Own.ph h1 c hc).1
   |_=>rw[h1.1]at hc;cases hc
  ·exact KF.ph h2 c hc
def vb.cons (h1:KV P w C Z ay H1 k d v)(n:Sn (H1,Wn ay) H (Wn own))(zT:KV P w C Z own H k d v)(h2:vb P w C (H1,Wn ay) own H ks ds vs)(n0:Sn Z H1 (Wn ay)):vb P w C Z own H (k::ks) (d::ds) (v::vs):=by
 obtain⟨A2,f2,FP,q2⟩:=h2;have z2:∀c∈A2,Z.1 c=none/\¬ Wn own c/\C.H0 c=none:=λc hc=>{n0.free (q2 c hc).1,(q2 c hc).2};cases k with
 |own =>
  obtain⟨A1,o1,Hr,q1⟩:=h1;obtain⟨Y0,Yx,Wo,UP⟩:=(show KV P w C Z own H .own d v from KV.held (k:=.own) (λz=>(nomatch z)) ({(A1),o1,Hr,q1}:KV P w C Z ay H1 .own d v) n)
  have Ra:Own P w H d v A1:=o1.keep n.k.tup (λc hc o e=>n.k.out c o e λz=>z.elim (q1 c hc).2.1 λz=>(o1.ph c hc).1 z);refine{A1++A2,{(d),ds,v,vs,A1,A2,rfl,rfl,rfl,Ra,f2},aam.mpr {Hr,FP,λa ha b hb e=>?_},λc hc=>?_}
  ·subst e;exact(o1.ph a ha).1 (q2 a hb).1
  ·rcases Zt.mp hc with hc|hc
   ·exact{(q1 c hc).1,λz=>(n.w c z).elim (q1 c hc).2.1 λz=>(o1.ph c hc).1 z,(q1 c hc).2.2}
   ·exact z2 c hc
 |dt=>exact{A2,{d,ds,v,vs,[],A2,rfl,rfl,rfl,{(rfl),zT},f2},FP,z2}
 |old=>exact{A2,{d,ds,v,vs,[],A2,rfl,rfl,rfl,{(rfl),zT},f2},FP,z2}
 |bor=>exact{A2,{d,ds,v,vs,[],A2,rfl,rfl,rfl,{(rfl),zT},f2},FP,z2}
abbrev gE:List Kd->Kd
 |[]=>.dt
 |k::ks=>Kd.max k (gE ks)
theorem KF.iY:∀{ks:List Kd} {ds:List D} {vs:List V} {A:List Addr},KF P w C own H ks ds vs A->(∀c∈A,¬ Wn own c/\C.H0 c=none)->ai P w (av C (Wn own) (gE ks)) H ds vs
 |[],_,_,_,⟨e1,e2,e⟩,_=>by rw[e1,e2];rfl
 |k::ks,_,_,_,⟨d,dr,v,vr,A1,A2,rfl,rfl,rfl,h1,h2⟩,hA=>by
  refine{v,vr,rfl,?_,ai.aY mC (KF.iY h2 λc hc=>hA c (Z1 _ hc))};cases k with
  |own=>exact aC.aY gL (Own.rep (W:=av C (Wn own) .own) (λc hc z=>z.elim (hA c (aao _ hc)).1 λz=>z (hA c (aao _ hc)).2) h1)
  |dt=>exact aC.aY (gL (a:=.dt)) h1.2
  |old=>exact aC.aY (gL (a:=.old)) h1.2
  |bor=>exact aC.aY (gL (a:=.bor)) h1.2
def vb.iY (h:vb P w C Z own H ks ds vs):ai P w (av C (Wn own) (gE ks)) H ds vs:=let ⟨A,h1,_,h3⟩:=h;h1.iY λc hc=>(h3 c hc).2
def vb.bor (h:vb P w C Z own H ks ds vs):ai P w (λ_=>False) H ds vs:=ai.aY (λ_ z=>z.elim) h.iY
def yE:List Kd->List D->Prop
 |k::ks,d::ds=>(match k with | .own=>True|_=>d.flat=true)/\yE ks ds
 |_,_=>True
theorem KF.Ju:∀{ks:List Kd} {ds:List D} {vs:List V} {A:List Addr},KF P w C own H ks ds vs A->yE ks ds->aR P w H ds vs A
 |[],_,_,_,⟨e1,e2,e⟩,_=>by rw[e1,e2,e];exact{(rfl),rfl}
 |k::ks,_,_,_,⟨d,dr,v,vr,A1,A2,rfl,rfl,rfl,h1,h2⟩,⟨f1,f2⟩=>by
  refine{v,vr,A1,A2,rfl,rfl,?_,KF.Ju h2 f2};cases k with
  |own=>exact h1
  |dt=>rw[h1.1];exact d6 f1 h1.2
  |old=>rw[h1.1];exact d6 f1 h1.2
  |bor=>rw[h1.1];exact d6 f1 h1.2
theorem j5:∀{ks:List Kd},(gE ks).wk=gE ks
 |[]=>rfl
 |k::ks=>by cases k <;> cases h:gE ks <;> simp[gE,Kd.max,h]
def CB (ks:List Kd)(ds:List D)(K:Kd->Prop):Prop:=match ks.all (λk=>match k with | .own=>true|_=>false)with
 |true=>K .own
 |false=>(yE ks ds/\K .own)\/K (gE ks)
def CB.mono {ks:List Kd}{ds:List D}{K K':Kd->Prop}(k:∀x,K x->K' x)(h:CB ks ds K):CB ks ds K':=by
 unfold CB at *
 split
 ·next e=>rw[e]at h;exact k _ h
 ·next e=>rw[e]at h;exact h.imp (λz=>{z.1,k _ z.2}) (k _)
def CB.of {ks:List Kd}{ds:List D}{K:Kd->Prop}(h:CB ks ds K):(yE ks ds/\K .own)\/K (gE ks):=by
 unfold CB at h
 split at h
 ·next e =>
  refine .inl {?_,h}
  clear h
  induction ks generalizing ds with
  |nil=>cases ds <;> trivial
  |cons k ks ih =>
   cases ds with
   |nil=>trivial
   |cons d ds =>
    rw[List.all_cons,ZW]at e;refine{?_,ih e.2};have e1:=e.1;cases k <;> first|trivial|cases e1
 ·exact h
end
structure PQ (X:Cx)(C:Cfg)(p:Bool)(e:Expr)(φ:aQ):Prop where
 mono:∀β R R',(∀d k β,R d k β->R' d k β)->φ β R->φ β R'
 pe:PE X e (tQ X C p φ)
structure vw (X:Cx)(C:Cfg)(p:Bool)(e:Expr)(φ:a_):Prop where
 mono:∀β R R',(∀d β,R d β->R' d β)->φ β R->φ β R'
 pt:PT X e (kA X C p φ)
structure vt (X:Cx)(C:Cfg)(p:Bool)(e:Expr)(φ:a_):Prop where
 mono:∀β R R',(∀d β,R d β->R' d β)->φ β R->φ β R'
 pw:PW X e (kA X C p φ)
structure pq (X:Cx)(C:Cfg)(p:Bool)(es:List Expr)(φ:bP):Prop where
 mono:∀β R R',(∀d k β,R d k β->R' d k β)->φ β R->φ β R'
 pa:PA X es (qV X C p φ)
section
variable {X:Cx}{C:Cfg}{a b c e:Expr}{es:List Expr}{φ φa φb:aQ}{τ τa τb:a_}{φs:bP}{pos:Pos}{σ:St}{H H':Hp}{β:bb}{own:Nat->List Addr}{p p':Bool}
def tQ.of (h:PQ X C p e φ)(s:SQ X C σ H β own){R:D->Kd->bb->Prop}{Q:VK}(hr:φ β R)(k:∀d kd β' v H' a8,R d kd β'->Out X C σ H own p β' H' a8->KV X.prog X.w C (H,Wn own) a8 H' kd d v->Q v H'):tQ X C p φ σ H Q :=
 {β,own,s,h.mono β _ _ (λd kd β' hd v H' a8 o r=>k d kd β' v H' a8 hd o r) hr}
def kA.of (h:vw X C p e τ)(s:SQ X C σ H β own){R:Bool->bb->Prop}{Q:Bool->Hp->Prop}(hr:τ β R)(k:∀t β' H' a8,R t β'->Out X C σ H own p β' H' a8->Q t H'):kA X C p τ σ H Q :=
 {β,own,s,h.mono β _ _ (λt β' hd H' a8 o=>k t β' H' a8 hd o) hr}
def qV.of (h:pq X C p es φs)(s:SQ X C σ H β own){R:List D->List Kd->bb->Prop}{Q:List V->Hp->Prop}(hr:φs β R)(k:∀ds ks β' vs H' a8,R ds ks β'->Out X C σ H own p β' H' a8->vb X.prog X.w C (H,Wn own) a8 H' ks ds vs->Q vs H'):qV X C p φs σ H Q :=
 {β,own,s,h.mono β _ _ (λd kd β' hd v H' a8 o r=>k d kd β' v H' a8 hd o r) hr}
def vt.t (h:vt X C p e τ):vw X C p e τ:={(h.mono),h.pw.pt}
noncomputable abbrev vk (y:Bool):D->Kd
 |.int _=>.own
 |.bl _=>.own
 |.cN=>.own
 |.str _=>.own
 |_=>yk y
def qB:B->(D->Kd->Prop)->Prop
 |.val y d,K=>K d (vk y d)
 |.own d,K=>K d .bor
 |.hand _,_=>False
 |.shl _ _,_=>False
def QV (i:Nat):aQ:=λβ R=>∃b,β[i]?=some (some b)/\qB b λd k=>R d k β
def J_ {P:Y7}{w:Zj}{Z:Hp×(Addr->Prop)}{y:Bool}{d:D}{v:V}(h:aC P w (av C (Wn own) (yk y)) H d v):KV P w C Z own H (vk y d) d v:=by
 cases d with
 |int i=>exact KV.flat rfl h
 |bl i=>exact KV.flat rfl h
 |cN=>exact KV.flat rfl h
 |str i=>exact KV.flat rfl h
 |_=>cases y <;> exact h
def ae {i:Nat}{x:Str}(hN:X.N[i]?=some x:=by rfl)(hv:oK X.env.scope x:=by first|exact .inl rfl|exact .inr (.inl rfl)|exact .inr (.inr rfl))(hd:(x==("__debug__" : Str))=false:=by decide)(eU:(x==("__classdict__" : Str))=false:=by decide):
  PQ X C true (.Name x pos) (QV i):=⟨λβ R R' k nM=>by obtain⟨b,e,h⟩:=nM;exact{b,e,by cases b <;> first|exact k _ _ _ h|exact h},(bY hN hv hd eU).pre λσ H Q uw=>by
 obtain⟨β,own,s,b,e,q⟩:=uw;cases b with
 |val y d=>obtain⟨v,h1,h2⟩:=s.mK e;exact{v,h1,q v H own (Out.refl s _) (J_ h2)}
 |own d=>obtain⟨v,h1,h2,h3⟩:=s.ow i d e;exact{v,h1,q v H own (Out.refl s _) (h2.rep λ_ _ z=>z)}
 |hand ok=>exact q.elim
 |shl _ _=>exact q.elim⟩
def qC (d:D):aQ:=λβ R=>R d .own β
def ah {i j}:PQ X C true (.Constant (.int i) j pos) (qC (.int i)):={λρ R R' k h=>k _ _ _ h,ba.pre λσ H Q Ku=>by obtain⟨β,own,s,q⟩:=Ku;exact q _ H own (Out.refl s _) (KV.flat (W:=λ_=>False) rfl rfl)}
def m7 {b j}:PQ X C true (.Constant (.bool b) j pos) (qC (.bl b)):={λρ R R' k h=>k _ _ _ h,BQ.pre λσ H Q Se=>by obtain⟨β,own,s,q⟩:=Se;exact q _ H own (Out.refl s _) (KV.flat (W:=λ_=>False) rfl rfl)}
def kP {j}:PQ X C true (.Constant .none j pos) (qC .cN):={λρ R R' k h=>k _ _ _ h,Jq.pre λσ H Q Gb=>by obtain⟨β,own,s,q⟩:=Gb;exact q _ H own (Out.refl s _) (KV.flat (W:=λ_=>False) rfl rfl)}
def gz {x j}:PQ X C true (.Constant (.str x) j pos) (qC (.str x)):={λρ R R' k h=>k _ _ _ h,Jp.pre λσ H Q Ga=>by obtain⟨β,own,s,q⟩:=Ga;exact q _ H own (Out.refl s _) (KV.flat (W:=λ_=>False) rfl rfl)}
def yX (X:Cx)(f:D->D->Option D)(N:D->Prop):R2:=λx y H Q=>∃W d1 d2 d,Dm W H/\Rp X W H d1 x/\Rp X W H d2 y/\f d1 d2=some d/\∀v H',aB H H'->Rp X W H' d v->(N d->Rp X (λa=>H a≠none) H' d v)->Q v H'
abbrev Ql (X:Cx)(f:Y1->Y1->Sem Y1)(g:D->D->Option D)(N:D->Prop):Prop:=lF X f (yX X g N)
def bA.m {f:Y1->Y1->Sem Y1}{g:D->D->Option D}(h:bA X f g):Ql X f g NF:=λpins s σ H x y v u Q I rx ry ⟨W,d1,d2,d,hd,r1,r2,e,q⟩ =>
 h pins s σ H x y v u Q I rx ry {W,d1,d2,d,hd,r1,r2,e,λv H' s r=>q v H' s r λf=>aC.flat f r}
noncomputable def kN (N:D->Prop)(d:D)(k:Kd)(K:Kd->Prop):Prop:=match d with
 |.int _=>K .own
 |.bl _=>K .own
 |.cN=>K .own
 |.str _=>K .own
 |.tup _=>K k
 |_=>(N d/\K .own)\/K k
def kN.mono {N:D->Prop}{d:D}{k:Kd}{K K':Kd->Prop}(h:∀x,K x->K' x)(q:kN N d k K):kN N d k K':=by
 cases d <;> first|exact h _ q|exact q.imp (λz=>⟨z.1,h _ z.2⟩) (h _)
def iR {P:Y7}{w:Zj}{Z:Hp×(Addr->Prop)}{d:D}{v:V}(hd:Dm (Wn own) H)(h0:∀a,C.H0 a≠none->H a≠none)(hz:∀a,Z.1 a≠none->H a≠none)(f:NL d)(r:aC P w (λa=>H a≠none) H' d v):KV P w C Z own H' .own d v:=by
 have nn:∀{a:Addr},¬ (H a≠none)->H a=none:=λ{a} h=>ZH λz=>h z;have cl:∀{a:Addr},H a=none->Z.1 a=none/\¬ Wn own a/\C.H0 a=none:=λ{a} h=>{ZH λz=>hz a z h,λz=>hd a z h,ZH λz=>h0 a z h};cases d with
 |lst ds =>
  obtain⟨a,vs,rfl,e,n,q⟩:=r;exact{[a],{a,vs,[],rfl,e,rfl,f9 f q},by simp,λc hc=>by rw[Zc.mp hc];exact cl (nn n)}
 |_=>exact KV.flat f r
noncomputable def KV.kN {N:D->Prop}{P:Y7}{w:Zj}{Z:Hp×(Addr->Prop)}{d:D}{v:V}{k:Kd}{K:Kd->Prop}(hk:k.wk=k)(r:aC P w (av C (Wn own) k) H' d v)(ro:N d->KV P w C Z own H' .own d v)(q:kN N d k K):∃k',K k'/\KV P w C Z own H' k' d v:=by
 have rk:KV P w C Z own H' k d v:=by rw[<- hk];exact KV.of (by rw[hk];exact r)
 cases d with
 |int i=>exact{_,q,KV.flat rfl r}
 |bl i=>exact{_,q,KV.flat rfl r}
 |cN=>exact{_,q,KV.flat rfl r}
 |str i=>exact{_,q,KV.flat rfl r}
 |tup ds=>exact{_,q,rk}
 |_=>exact q.elim (λz=>{_,z.2,ro z.1}) λz=>{_,z,rk}
structure Ej (N:D->Prop):Prop where
 nl:∀d,N d->NL d
def aI:Ej NL:={λ_ h=>h}
def ag:Ej NF:={λd h=>by cases d <;> first|exact h|cases h}
def Cm {a b:Kd}:(a.max b).wk=a.max b:=by cases a <;> cases b <;> rfl
def AG (g:D->D->Option D)(N:D->Prop)(pb:Bool)(φa φb:aQ):aQ:=λβ R=>φa β λx ka β1=>hold ka pb/\φb β1 λy kb β2=>∃d,g x y=some d/\kN N d (ka.max kb) λk=>R d k β2
variable {g:D->D->Option D}{N:D->Prop}
def AG.mono (ha:PQ X C p a φa)(hb:PQ X C p' b φb):∀β R R',(∀d k β,R d k β->R' d k β)->AG g N p' φa φb β R->AG g N p' φa φb β R':=λβ R R' k h =>
 ha.mono β _ _ (λx ka β1 hx=>{hx.1,hb.mono β1 _ _ (λy kb β2 KD=>by obtain⟨d,e,q⟩:=KD;exact{d,e,q.mono λ_ z=>k _ _ _ z}) hx.2}) h
def vU (hn:Ej N)(ha:PQ X C p a φa)(hb:PQ X C p' b φb):∀σ H Q,tQ X C (p&&p') (AG g N p' φa φb) σ H Q->Mo (yX X g N) (tQ X C p φa) (tQ X C p' φb) σ H Q:=λσ H Q ⟨β,own,s,h⟩ =>
 tQ.of ha s h λd1 k1 β1 v1 H1 ay ⟨hh,h1⟩ o1 r1=>tQ.of hb o1.sq h1 λd2 k2 β2 v2 H2 bH CQ o2 r2=>by
  obtain⟨d,e,q⟩:=CQ;have LH:=r1.ho o2 hh;refine{av C (Wn bH) (k1.max k2),d1,d2,d,o2.sq.HR _,aC.aY gL LH.rep,aC.aY mC r2.rep,e,λv H' s3 r3 n3=>?_};have o:=(o1.trans o2).same s3;obtain⟨k,q,r⟩:=KV.kN (Z:=(H,Wn own)) Cm r3 (λn=>iR (H:=H2) o2.sq.sD o2.sq.fS (λa z=>o2.sn.d a (o1.sn.d a z)) (hn.nl _ n) (n3 n)) q;exact q v H' bH o r
def az {op:Operator}(hn:Ej N)(ho:Ql X (aax op) g N)(ha:PQ X C p a φa)(hb:PQ X C p' b φb):PQ X C (p&&p') (.BinOp a op b pos) (AG g N p' φa φb):={AG.mono ha hb,(cQ ho ha.pe hb.pe).pre (vU hn ha hb)}
def rG {op:CmpOp}(hn:Ej N)(ho:Ql X (aaA op) g N)(ha:PQ X C p a φa)(hb:PQ X C p' b φb)(hm:abf op b=false:=by first|exact tZ _ (by decide) (by decide)|rfl):PQ X C (p&&p') (.Compare a [op] [b] pos) (AG g N p' φa φb) :=
 {AG.mono ha hb,(Fe ho ha.pe hb.pe hm).pre (vU hn ha hb)}
def aT (hn:Ej N)(ho:Il X (yX X g N))(ha:PQ X C p a φa)(hb:PQ X C p' b φb)(hs:gM b:=by exact λ_ _=>rfl):PQ X C (p&&p') (.Subscript a b pos) (AG g N p' φa φb):={AG.mono ha hb,(fC ho ha.pe hb.pe hs).pre (vU hn ha hb)}
def Hg (φ:aQ):a_:=λβ R=>φ β λd k β'=>∃b,d=.bl b/\R b β'
def aL {op:CmpOp}(hn:Ej N)(ho:Ql X (aaA op) g N)(ha:PQ X C p a φa)(hb:PQ X C p' b φb)(hm:abf op b=false:=by first|exact tZ _ (by decide) (by decide)|rfl):vw X C (p&&p') (.Compare a [op] [b] pos) (Hg (AG g N p' φa φb)) :=
 ⟨λβ R R' k h=>AG.mono ha hb β _ _ (λd kd β CP=>by obtain⟨t,e,q⟩:=CP;exact{t,e,k _ _ q}) h,(rq ho ha.pe hb.pe hm).pre λσ H Q ⟨β,own,s,h⟩ =>
  tQ.of ha s h λd1 k1 β1 v1 H1 ay ⟨hh,h1⟩ o1 r1=>tQ.of hb o1.sq h1 λd2 k2 β2 v2 H2 bH KA o2 r2=>by
   obtain⟨d,e,q⟩:=KA;have LH:=r1.ho o2 hh;refine{av C (Wn bH) (k1.max k2),d1,d2,d,o2.sq.HR _,aC.aY gL LH.rep,aC.aY mC r2.rep,e,λv H' s3 r3 n3=>?_};obtain⟨k,⟨t,et,q'⟩,r⟩:=KV.kN (Z:=(H,Wn own)) Cm r3 (λn=>iR (H:=H2) o2.sq.sD o2.sq.fS (λa z=>o2.sn.d a (o1.sn.d a z)) (hn.nl _ n) (n3 n)) q;subst et;cases r3;exact{t,rfl,q' H' bH ((o1.trans o2).same s3)}⟩
def jN (ha:PQ X C p a φa)(he:∀whole,isTrue a X.env whole=(do let v <- whole;acm a.pos;holding [v] (truthy v)):=by intro _;rfl):vw X C p a (Hg φa) :=
 ⟨λβ R R' k h=>ha.mono β _ _ (λd kd β' Kz=>by obtain⟨b,e,q⟩:=Kz;exact{b,e,k _ _ q}) h,(Ji ha.pe he).pre λσ H Q ⟨β,own,s,h⟩=>tQ.of ha s h λd k β' v H1 ay Kx o1 r1=>by
  obtain⟨b,e,q⟩:=Kx;subst e;cases r1.rep;exact{b,rfl,q H1 ay o1}⟩
def ML (τ:a_):a_:=λβ R=>τ β λb β'=>R (!b) β'
def rE (ha:vw X C p a τ):vw X C p (.UnaryOp .Not a pos) (ML τ) :=
 {λβ R R' k h=>ha.mono β _ _ (λb β' q=>k _ _ q) h,(Jj ha.pt).pre λσ H Q Kw=>by obtain⟨β,own,s,h⟩:=Kw;exact kA.of ha s h λb β' H1 ay q o=>q H1 ay o}
variable {rest:List Expr}
def MR (τa τb:a_):a_:=λβ R=>τa β λt β1=>if t=true then τb β1 R else R false β1
def QZ (τa τb:a_):a_:=λβ R=>τa β λt β1=>if t=true then R true β1 else τb β1 R
def ia (ha:vw X C p a τ):vt X C p (.BoolOp .And [a] pos) τ:={ha.mono,pw_and1 ha.pt}
def rC (ha:vw X C p a τ):vt X C p (.BoolOp .Or [a] pos) τ:={ha.mono,pw_or1 ha.pt}
def O9 {p q:Bool}(z:(p&&q)=true):p=true:=by cases p <;> first|rfl|cases z
def jM (ha:vw X C p a τa)(hb:vt X C p' (.BoolOp .And (b::rest) pos) τb):vt X C (p&&p') (.BoolOp .And (a::b::rest) pos) (MR τa τb) :=
 ⟨λβ R R' k h=>ha.mono β _ _ (λt β1 q=>by
   cases t
   ·exact k _ _ q
   ·exact hb.mono β1 _ _ k q) h,(pw_and ha.pt hb.pw).pre λσ H Q ⟨β,own,s,h⟩=>kA.of ha s h λt β1 H1 ay q o1=>by
  cases t
  ·exact q H1 ay (o1.wk O9)
  ·exact kA.of hb.t o1.sq q λt' β2 H2 bH q2 o2=>q2 H2 bH (o1.trans o2)⟩
def rD (ha:vw X C p a τa)(hb:vt X C p' (.BoolOp .Or (b::rest) pos) τb):vt X C (p&&p') (.BoolOp .Or (a::b::rest) pos) (QZ τa τb) :=
 ⟨λβ R R' k h=>ha.mono β _ _ (λt β1 q=>by
   cases t
   ·exact hb.mono β1 _ _ k q
   ·exact k _ _ q) h,(pw_or ha.pt hb.pw).pre λσ H Q ⟨β,own,s,h⟩=>kA.of ha s h λt β1 H1 ay q o1=>by
  cases t
  ·exact kA.of hb.t o1.sq q λt' β2 H2 bH q2 o2=>q2 H2 bH (o1.trans o2)
  ·exact q H1 ay (o1.wk O9)⟩
def Hz {P:Y7}{w:Zj}{Z:Hp×(Addr->Prop)}{b:Bool}:KV P w C Z own H .own (.bl b) (.bl b):=KV.flat (W:=λ_=>False) rfl rfl
def Wd (g:D->Option D)(φa:aQ):aQ:=λβ R=>φa β λx _ β1=>∃d,g x=some d/\d.flat=true/\R d .own β1
def ib {op:UnaryOp}{g:D->Option D}(ho:O_ X (unaryOp op) (UO X g))(ha:PQ X C p a φa):PQ X C p (.UnaryOp op a pos) (Wd g φa) :=
 ⟨λβ R R' k h=>ha.mono β _ _ (λx _ β1 So=>by obtain⟨d,e,f,q⟩:=So;exact{d,e,f,k _ _ _ q}) h,(Hj ho ha.pe).pre λσ H Q ⟨β,own,s,h⟩ =>
  tQ.of ha s h λd1 k1 β1 v1 H1 ay Sm o1 r1=>by obtain⟨d,e,f,q⟩:=Sm;exact{_,d1,d,o1.sq.HR _,r1.rep,e,λv H' s2 r2=>q v H' ay (o1.same s2) (KV.flat f r2)}⟩
def Q0:bP:=λβ R=>R [] [] β
def MQ (pr:Bool)(φ:aQ)(φs:bP):bP:=λβ R=>φ β λd k β1=>hold k pr/\φs β1 λds ks β2=>R (d::ds) (k::ks) β2
def af:pq X C true [] Q0:={λβ R R' k h=>k _ _ _ h,cq.pre λσ H Q Sl=>by obtain⟨β,own,s,q⟩:=Sl;exact q [] H own (Out.refl s _) vb.nil}
def aa (ha:PQ X C p a φ)(hr:pq X C p' es φs)(hs:Y9 (a::es) X.env=(false,eval a X.env)::Y9 es X.env:=by rfl):pq X C (p&&p') (a::es) (MQ p' φ φs) :=
 ⟨λβ R R' k h=>ha.mono β _ _ (λd kd β1 q=>{q.1,hr.mono β1 _ _ (λds ks β2 q2=>k _ _ _ q2) q.2}) h,(aZ ha.pe hr.pa hs).pre λσ H Q ⟨β,own,s,h⟩ =>
  tQ.of ha s h λd1 k1 β1 v1 H1 ay Sj o1 r1=>by obtain⟨hh,h1⟩:=Sj;exact qV.of hr o1.sq h1 λds ks β2 vs H2 bH q o2 r2=>q (v1::vs) H2 bH (o1.trans o2) (vb.cons r1 o2.sn (r1.ho o2 hh) r2 o1.sn)⟩
def QW (φs:bP):aQ:=λβ R=>φs β λds ks β1=>ds.length<=Zd/\CB ks ds λk=>R (.tup ds) k β1
def Q4 (φs:bP):aQ:=λβ R=>φs β λds ks β1=>ds.length<=Zd/\CB ks ds λk=>R (.lst ds) k β1
def aR.same {P:Y7}{w:Zj}{ds:List D}{vs:List V}{A:List Addr}(s:aB H H')(h:aR P w H ds vs A):aR P w H' ds vs A:=h.keep (λb xs e=>s _ _ e) λc _ o e=>s c o e
def Ka {P:Y7}{w:Zj}{Z:Hp×(Addr->Prop)}{ks:List Kd}{ds:List D}{vs:List V}{K:Kd->Prop}{q:Addr}(hq:H q=none)(h:vb P w C Z own H ks ds vs)(m:CB ks ds K):∃k,K k/\KV P w C Z own (upd H q (.tup vs)) k (.tup ds) (.ref q):=by
 rcases m.of with⟨f,k⟩|k
 ·obtain⟨A,h1,h2,h3⟩:=h;exact{_,k,A,{q,vs,rfl,ak,(h1.Ju f).same (aB.new hq)},h2,h3}
 ·refine{_,k,?_};rw[<- j5];exact KV.of (by rw[j5];exact{q,vs,rfl,ak,h.iY.same (aB.new hq)})
def Kb {P:Y7}{w:Zj}{Z:Hp×(Addr->Prop)}{ks:List Kd}{ds:List D}{vs:List V}{K:Kd->Prop}{q:Addr}(hq:H q=none)(hd:Dm (Wn own) H)(h0:∀a,C.H0 a≠none->H a≠none)(hz:∀a,Z.1 a≠none->H a≠none)(h:vb P w C Z own H ks ds vs)(m:CB ks ds K):∃k,K k/\KV P w C Z own (upd H q (.lst vs)) k (.lst ds) (.ref q):=by
 rcases m.of with⟨f,k⟩|k
 ·obtain⟨A,h1,h2,h3⟩:=h;refine{_,k,q::A,{q,vs,A,rfl,ak,rfl,(h1.Ju f).same (aB.new hq)},Zs.mpr {λz=>h1.ph q z hq,h2},λc hc=>?_};rcases Y6.mp hc with rfl|hc
  ·exact{ZH λz=>hz c z hq,λz=>hd c z hq,ZH λz=>h0 c z hq}
  ·exact h3 c hc
 ·refine{_,k,?_};have nq:¬ av C (Wn own) (gE ks) q:=λz=>by
   cases e:gE ks <;> rw[e]at z <;> first|exact z.elim (λz=>hd q z hq) λz=>h0 q z hq|exact hd q z hq|exact z
  rw[<- j5];exact KV.of (by rw[j5];exact{q,vs,rfl,ak,nq,h.iY.same (aB.new hq)})
def vb.length {P:Y7}{w:Zj}{Z:Hp×(Addr->Prop)}{ks:List Kd}{ds:List D}{vs:List V}(h:vb P w C Z own H ks ds vs):vs.length=ds.length:=h.iY.length
def bX {x1}(h:pq X C p es φs):PQ X C p (.Tuple es x1 pos) (QW φs) :=
 ⟨λβ R R' k q=>h.mono β _ _ (λds ks β1 Si=>by obtain⟨l,q⟩:=Si;exact{l,q.mono λ_ z=>k _ _ _ z}) q,(v8 h.pa).pre λσ H Q ⟨β,own,s,q⟩=>qV.of h s q λds ks β1 vs H1 ay ⟨l,q1⟩ o1 r1 =>
  {by rw[r1.length];exact l,λq hq=>let ⟨k,q1,r⟩:=Ka hq r1 q1;q1 _ _ ay (o1.same (aB.new hq)) r}⟩
def aS (h:pq X C p es φs):PQ X C p (.List es pos) (Q4 φs) :=
 ⟨λβ R R' k q=>h.mono β _ _ (λds ks β1 Sh=>by obtain⟨l,q⟩:=Sh;exact{l,q.mono λ_ z=>k _ _ _ z}) q,(v9 h.pa).pre λσ H Q ⟨β,own,s,q⟩=>qV.of h s q λds ks β1 vs H1 ay ⟨l,q1⟩ o1 r1 =>
  {by rw[r1.length];exact l,λq hq=>let ⟨k,q1,r⟩:=Kb hq o1.sq.sD o1.sq.fS (λa z=>o1.sn.d a z) r1 q1;q1 _ _ ay (o1.same (aB.new hq)) r}⟩
end
section
variable {X:Cx}{C:Cfg}{a c e:Expr}{es:List Expr}{φ:aQ}{φs:bP}{pos:Pos}{σ:St}{H H':Hp}{β:bb}{own:Nat->List Addr}{p:Bool}{g:D->D->Option D}{N:D->Prop}
abbrev DZ:=bb->(Option Int->bb->Prop)->Prop
structure Qh (X:Cx)(C:Cfg)(e:Option Expr)(φ:DZ):Prop where
 mono:∀β R R',(∀d β,R d β->R' d β)->φ β R->φ β R'
 po:PO X e λσ H Q=>∃β own,SQ X C σ H β own/\φ β λo β'=>∀H',aB H H'->SQ X C σ H' β' own->Q o H'
def f7:Qh X C none (λβ R=>R none β):={λβ R R' k h=>k _ _ h,xG.pre λσ H Q CO=>by obtain⟨β,own,s,q⟩:=CO;exact q H (aB.refl _) s}
def fZ (ha:PQ X C true a φ):Qh X C (some a) (λβ R=>φ β λd _ β1=>∃i,d=.int i/\R (some i) β1) :=
 ⟨λβ R R' k h=>ha.mono β _ _ (λd _ β1 CN=>by obtain⟨i,e,q⟩:=CN;exact{i,e,k _ _ q}) h,(xF ha.pe).pre λσ H Q ⟨β,own,s,h⟩=>tQ.of ha s h λd k β1 v H1 ay Kz o1 r1=>by
  obtain⟨i,e,q⟩:=Kz;subst e;cases r1.rep;obtain⟨s1,rfl⟩:=o1.pu rfl;exact{i,rfl,q H1 s1 o1.sq}⟩
def We (φ:aQ)(φl φh:DZ):aQ:=λβ R=>φ β λx k β1=>φl β1 λl β2=>φh β2 λh β3=>∃d,HU x l h=some d/\kN NL d k.wk λk'=>R d k' β3
def G6 {k:Kd}:k.wk.wk=k.wk:=by cases k <;> rfl
def DU {W:Addr->Prop}{k:Kd}:∀c,av C W k.wk c->av C W k c:=λc h=>by cases k <;> exact h
def pR {lo hi:Option Expr}{φl φh:DZ}{p2:Pos}(ha:PQ X C p a φ)(hl:Qh X C lo φl)(hh:Qh X C hi φh):PQ X C p (.Subscript a (.Slice lo hi none p2) pos) (We φ φl φh) :=
 ⟨λβ R R' k h=>ha.mono β _ _ (λx kx β1 q=>hl.mono β1 _ _ (λl β2 q=>hh.mono β2 _ _ (λu β3 Ky=>by obtain⟨d,e,q⟩:=Ky;exact{d,e,q.mono λ_ z=>k _ _ _ z}) q) q) h,
  (tO EE ha.pe hl.po hh.po).pre λσ H Q ⟨β,own,s,h⟩=>tQ.of ha s h λd k β1 v H1 ay q o1 r1 =>
    ⟨β1,ay,o1.sq,hl.mono β1 _ _ (λl β2 q H2 s2 QL=>⟨β2,ay,QL,hh.mono β2 _ _ (λu β3 Kw H3 s3 Pu=>by
      obtain⟨d',e,q⟩:=Kw;refine{av C (Wn ay) k.wk,d,d',Pu.HR _,((aC.aY DU r1.rep).same s2).same s3,e,λv H' s4 r4 n4=>?_};obtain⟨k',q,r⟩:=KV.kN (Z:=(H,Wn own)) G6 r4 (λn=>iR (H:=H3) Pu.sD Pu.fS (λa z e=>o1.sn.d a z (s2.free (s3.free e))) n (n4 n)) q;exact q v H' ay {Pu.same s4,o1.sn.same ((s2.trans s3).trans s4),λz=>{(o1.pu z).1.trans ((s2.trans s3).trans s4),(o1.pu z).2},o1.le} r) q⟩) q⟩⟩
def MG (X:Cx)(f:List D->Option D)(N:D->Prop):List V->Hp->VK->Prop:=λxs H Q=>∃W ds d,Dm W H/\mD X W H ds xs/\f ds=some d/\∀v H',aB H H'->Rp X W H' d v->(N d->Rp X (λa=>H a≠none) H' d v)->Q v H'
abbrev D_ (X:Cx)(f:Y1)(g:List D->Option D)(N:D->Prop):Prop:=gW X f (MG X g N)
def bF.m {f:Y1}{g:List D->Option D}(h:bF X f g):D_ X f g NF:=λpins s σ H xs us Q I r ⟨W,ds,d,hd,r1,e,q⟩ =>
 h pins s σ H xs us Q I r {W,ds,d,hd,r1,e,λv H' s r=>q v H' s r λf=>aC.flat f r}
def lN (g:List D->Option D)(N:D->Prop)(φs:bP):aQ:=λβ R=>φs β λds ks β1=>∃d,g ds=some d/\kN N d (gE ks) λk=>R d k β1
variable {x:Str}{pp:Pos}{id T:String}{gs:List D->Option D}
def lN.mono (h:pq X C p es φs):∀β R R',(∀d k β,R d k β->R' d k β)->lN gs N φs β R->lN gs N φs β R':=λβ R R' k q=>h.mono β _ _ (λds ks β1 SE=>by obtain⟨d,e,q⟩:=SE;exact{d,e,q.mono λ_ z=>k _ _ _ z}) q
def tK (hn:Ej N)(h:pq X C p es φs):∀σ H Q,tQ X C p (lN gs N φs) σ H Q->QF (MG X gs N) (qV X C p φs) σ H Q:=λσ H Q ⟨β,own,s,q⟩=>qV.of h s q λds ks β1 vs H1 ay SA o1 r1=>by
 obtain⟨d,e,q1⟩:=SA;refine{av C (Wn ay) (gE ks),ds,d,o1.sq.HR _,r1.iY,e,λv H' s2 r2 n2=>?_};obtain⟨k',q,r⟩:=KV.kN (Z:=(H,Wn own)) j5 r2 (λn=>iR (H:=H1) o1.sq.sD o1.sq.fS (λa z=>o1.sn.d a z) (hn.nl _ n) (n2 n)) q1;exact q v H' ay (o1.same s2) r
def a7 (Gi:Ej N)(hc:D_ X (.builtin id) gs N)(hm:X.mg x=none)(hv:Z9 x=some (.builtin id))(ha:pq X C p (e::es) φs)(hg:Gl X x:=by rfl)(hn:x≠"__name__" := by decide)(hdb:(x==("__debug__" : Str))=false:=by decide)
  (gF:Y9 (e::es) X.env=(false,eval e X.env)::Y9 es X.env:=by rfl) (hpl:(aag pos (Y9 es X.env)).any (·.1)=false:=by rfl) :
  PQ X C p (.Call (.Name x pp) (e::es) [] pos) (lN gs N φs):={lN.mono ha,(ij hc hg hm hv ha.pa hn hdb (he:=gF) (hpl:=hpl)).pre (tK Gi ha)}
def iP (Gi:Ej N)(hc:D_ X (.type T) gs N)(hm:X.mg x=none)(hv:Z9 x=some (.type T))(ha:pq X C p (e::es) φs)(hg:Gl X x:=by rfl)(hn:x≠"__name__" := by decide)(hdb:(x==("__debug__" : Str))=false:=by decide)
  (gF:Y9 (e::es) X.env=(false,eval e X.env)::Y9 es X.env:=by rfl) (hpl:(aag pos (Y9 es X.env)).any (·.1)=false:=by rfl) :
  PQ X C p (.Call (.Name x pp) (e::es) [] pos) (lN gs N φs):={lN.mono ha,(pU hc hg hm hv ha.pa hn hdb (he:=gF) (hpl:=hpl)).pre (tK Gi ha)}
end
def me (P:Y7)(w:Zj)(ro:Bool)(H H':Hp)(d:D)(v:V):Prop:=match ro with
 |true=>∃A,Own P w H' d v A/\A.Nodup/\∀c∈A,H c=none
 |false=>aC P w (λa=>H a≠none) H' d v
abbrev rk (ro:Bool):Kd:=match ro with|true=>.own|false=>.dt
def cY (P:Y7)(w:Zj)(ro:Bool)(F:FD):Sp:=λvs H Q _=>∃ds,ai P w (λ_=>False) H ds vs/\F ds λd=>∀v H',aB H H'->me P w ro H H' d v->Q v H'
def oQ (P:Y7)(w:Zj)(ok:List Int->Prop)(ro:Bool)(F:FD):Sp:=λvs H Q _=>∃h vs' ds ns,vs=.ref h::vs'/\H h=some (.lst (ns.map V.int))/\ok ns/\ai P w (λa=>a=h) H ds vs' /\
 F ds λd=>∀v H' sU,Kp (·=h) H H'->(∀c,H c≠none->H' c≠none)->H' h=some (.lst (sU.map V.int))->ok sU->me P w ro H H' d v->Q v H'
section
variable {X:Cx}{C:Cfg}{k ih:Nat}{f:Addr}{fd:ZL}{ps:List Str}{F:FD}{ro p:Bool}{x hx:Str}{pp pos px:Pos}{e:Expr}{es:List Expr}{φs:bP}{ok:List Int->Prop}{σ:St}{H H':Hp}{β:bb}{own:Nat->List Addr}{P:Y7}{w:Zj}
def me.kv {Z:Hp×(Addr->Prop)}{d:D}{v:V}(hd:Dm (Wn own) H)(h0:∀a,C.H0 a≠none->H a≠none)(hz:∀a,Z.1 a≠none->H a≠none)(h:me P w ro H H' d v):KV P w C Z own H' (rk ro) d v:=by
 cases ro with
 |true =>
  obtain⟨A,h1,h2,h3⟩:=h;exact{A,h1,h2,λc hc=>{ZH λz=>hz c z (h3 c hc),λz=>hd c z (h3 c hc),ZH λz=>h0 c z (h3 c hc)}}
 |false=>exact aC.aY (λa z=>z.elim (hd a) (h0 a)) h
def QY (ro:Bool)(F:FD)(φs:bP):aQ:=λβ R=>φs β λds _ β1=>F ds λd=>R d (rk ro) β1
def aN (mF:dq F)(G:aE X.prog X.w X.K X.mg X.base bI k f fd ps (cY X.prog X.w ro F))(hr:c_ k X.A)(hm:X.mg x=some (.ref f))(hk:PySem.W.keepIn X.K (.ref f)=true)(hb:Binds X.K fd ps [])(ha:pq X C p (e::es) φs)(hg:Gl X x:=by rfl)
  (hdb:(x==("__debug__" : Str))=false:=by decide)
  (gF:Y9 (e::es) X.env=(false,eval e X.env)::Y9 es X.env:=by rfl) (hpl:(aag pos (Y9 es X.env)).any (·.1)=false:=by rfl) :
  PQ X C p (.Call (.Name x pp) (e::es) [] pos) (QY ro F φs) :=
 ⟨λβ R R' k h=>ha.mono β _ _ (λds ks β1 q=>mF ds _ _ (λd q=>k _ _ _ q) q) h,(jQ G hr hg hm hk hb .nil xK ha.pa (hdb:=hdb) (he:=gF) (hpl:=hpl)).pre λσ H Q ⟨β,own,s,h⟩=>qV.of ha s h λds ks β1 vs H1 ay q o1 r1=>by
  rw[aar];exact{ds,r1.bor,mF ds _ _ (λd q2 v H' s2 r2=>q2 v H' ay (o1.same s2) (r2.kv o1.sq.sD o1.sq.fS λa z=>o1.sn.d a z)) q}⟩
def bj.drawn {i:Nat}{h:Addr}{sU:List Int}(b:bj P w C σ H β own)(e:β[i]?=some (some (.hand ok)))(hσ:σ[i]?=some (some (.ref h)))(k:Kp (·=h) H H')(e':H' h=some (.lst (sU.map V.int)))(o':ok sU)(dn:∀c,H c≠none->H' c≠none):bj P w C σ H' β own:=by
 obtain⟨a,ns,h1,h2,h3,h4,h5⟩:=b.nN i ok e;rw[hσ]at h1;cases h1;have wh:Wn own h:={i,by rw[h4];simp}
 have kW:∀y,Kp (eD C (Wn own) (yk y)) H H':=λy=>k.mono λc z=>by rw[z];cases y <;> first|exact .inl wh|exact .inl (.inl wh)
 have ne:∀j,j≠i->∀c∈own j,c≠h:=λj hj c hc z=>hj (b.jm j i c hc (by rw[h4,z];simp))
 refine⟨b.len,λj y d e=>let ⟨v,g1,g2⟩:=b.val j y d e;{v,g1,g2.keep (kW y)},λj d ej=>?_,λj zk ej=>?_,λj c hc=>?_,b.jm,b.jq,{λc o z n=>?_,λc xs z=>k.tup c xs (b.kp.tup c xs z)},λc z=>dn c (b.fS c z),λj y d ej=>by
  obtain⟨v,g1,g2,g3⟩:=b.shl j y d ej;have hj:j≠i:=λz=>by rw[z,e]at ej;cases ej
  exact{v,g1,g2.map (λc hc o eo=>k.out c o eo (ne j hj c hc)) (λ_ _ r=>r.keep (kW true)),g3}⟩
 ·obtain⟨v,g1,g2,g3⟩:=b.ow j d ej;have hj:j≠i:=λz=>by rw[z,e]at ej;cases ej
  exact{v,g1,g2.keep k.tup (λc hc o eo=>k.out c o eo (ne j hj c hc)),g3}
 ·by_cases hj:j=i
  ·subst hj;rw[e]at ej;cases ej;exact{(h),sU,hσ,e',o',h4,h5}
  ·obtain⟨a,ms,g1,g2,g3,g4,g5⟩:=b.nN j zk ej;exact{a,ms,g1,k.out a _ g2 (ne j hj a (by rw[g4];simp)),g3,g4,g5}
 ·obtain⟨g1,g2,g3⟩:=b.dm j c hc
  by_cases ye:c=h
  ·rw[ye,e'];rw[ye]at g3;exact{λz=>(nomatch z),λxs z=>(by cases z),g3}
  ·cases q:H c with
   |none=>exact absurd q g1
   |some o=>rw[k.out c o q ye];exact{λz=>(nomatch z),λxs z=>g2 xs (by rw[q];exact z),g3}
 ·refine k.out c o (b.kp.out c o z n) λq=>?_;subst q;rcases (b.dm i c (by rw[h4];simp)).2.2.1 with z0|z0
  ·rw[z0]at z;cases z
  ·exact n z0
def MP (ih:Nat)(ok:List Int->Prop)(ro:Bool)(F:FD)(φs:bP):aQ:=λβ R=>β[ih]?=some (some (.hand ok))/\φs β λds ks β1=>β1[ih]?=some (some (.hand ok))/\hold (gE ks) false/\F ds λd=>R d (rk ro) β1
def aV (mF:dq F)(G:aE X.prog X.w X.K X.mg X.base bI k f fd ps (oQ X.prog X.w ok ro F))(hr:c_ k X.A)(hm:X.mg x=some (.ref f))(hk:PySem.W.keepIn X.K (.ref f)=true)(hb:Binds X.K fd ps [])(ha:pq X C p es φs)(hN:X.N[ih]?=some hx:=by rfl)
  (hv:oK X.env.scope hx:=by first|exact .inl rfl|exact .inr (.inl rfl)|exact .inr (.inr rfl)) (hd:(hx==("__debug__" : Str))=false:=by decide) (eU:(hx==("__classdict__" : Str))=false:=by decide) (hg:Gl X x:=by rfl) (hdb:(x==("__debug__" : Str))=false:=by decide)
  (gF:Y9 (.Name hx px::es) X.env=(false,eval (.Name hx px) X.env)::Y9 es X.env:=by rfl) (hpl:(aag pos (Y9 es X.env)).any (·.1)=false:=by rfl) :
  PQ X C false (.Call (.Name x pp) (.Name hx px::es) [] pos) (MP ih ok ro F φs) :=
 ⟨λβ R R' k Sw=>by obtain⟨e,h⟩:=Sw;exact{e,ha.mono β _ _ (λds ks β1 Kv=>by obtain⟨e,hh,q⟩:=Kv;exact{e,hh,mF ds _ _ (λd q=>k _ _ _ q) q}) h},
  (jQ G hr hg hm hk hb .nil xK (aZ (bY (pos:=px) hN hv hd eU) ha.pa gF) (hdb:=hdb) (he:=gF) (hpl:=hpl)).pre λσ H Q Sv=>by
  obtain⟨β,own,s,e,h⟩:=Sv;obtain⟨hh,ns,h1,h2,h3,h4⟩:=s.nN ih ok e;refine{.ref hh,h1,qV.of ha s h λds ks β1 vs H1 ay i5 o1 r1=>?_};obtain⟨e1,ho,q⟩:=i5;obtain⟨YM,Wj,g1,g2,g3,g4,g5⟩:=o1.sq.nN ih ok e1;rw[h1]at g1;cases g1;have wh:Wn ay hh:={ih,by rw[g4];simp}
  rw[aar];refine{hh,vs,ds,Wj,rfl,g2,g3,ai.aY (λa z=>?_) r1.iY,mF ds _ _ (λd q v H' sU kp dn e' zk r=>?_) q}
  ·subst z;cases hk:gE ks with
   |own=>exact .inl wh
   |dt=>exact .inl wh
   |old=>exact wh
   |bor=>rw[hk]at ho;exact ho.elim
  ·exact q v H' ay {o1.sq.drawn e1 h1 kp e' zk dn,o1.sn.kp (kp.mono λb z=>by rw[z];exact wh) dn,λz=>(nomatch z),o1.le} (r.kv o1.sq.sD o1.sq.fS λa z=>o1.sn.d a z)⟩
end
abbrev Cfg.z (C:Cfg):Cfg:=C.u λ_=>False
def SB (X:Cx)(C:Cfg)(Z:Hp×(Addr->Prop))(σ:St)(H:Hp)(β:bb):Prop:=∃own,SQ X C.z σ H β own/\Sn Z H (Wn own)
structure cb where
 nx:bb->Prop
 rt:D->bb->Prop
 bk:bb->Prop:=λ_=>False
 ct:bb->Prop:=λ_=>False
def cb.up (E:cb)(n:bb->Prop):cb:={(n),E.rt,E.bk,E.ct}
def cb.lp (E:cb)(n:bb->Prop):cb:={(n),E.rt,E.nx,n}
structure Us (X:Cx)(C:Cfg)(Z:Hp×(Addr->Prop))(E:cb)(D:Ends):Prop where
 nx:∀σ H β,SB X C Z σ H β->E.nx β->D.nx σ H
 rt:∀σ H β d v,SB X C Z σ H β->me X.prog X.w C.ro C.H0 H d v->E.rt d β->D.rt v H
 bk:∀σ H β,SB X C Z σ H β->E.bk β->D.bk σ H
 ct:∀σ H β,SB X C Z σ H β->E.ct β->D.ct σ H
structure Le (E E':cb):Prop where
 nx:∀β,E.nx β->E'.nx β
 rt:∀d β,E.rt d β->E'.rt d β
 bk:∀β,E.bk β->E'.bk β
 ct:∀β,E.ct β->E'.ct β
abbrev yC:=cb->bb->Prop
def ap (ψ:yC)(E:cb)(β:bb):Prop:=ψ E β
def eN (R:D->Prop):cb:={nx:=λ_=>R .cN,rt:=λd _=>R d}
def eH (ok:List Int->Prop)(R:D->Prop):cb:={nx:=λ_=>False,rt:=λd β=>β[0]?=some (some (.hand ok))/\R d}
def UD (X:Cx)(C:Cfg)(ψ:yC):TS:=λD σ H=>∃Z E β,SB X C Z σ H β/\ψ E β/\Us X C Z E D
structure PB (X:Cx)(C:Cfg)(st:Stmt)(ψ:yC):Prop where
 mono:∀E E' β,Le E E'->ψ E β->ψ E' β
 ps:PS X st (UD X C ψ)
structure sR (X:Cx)(C:Cfg)(st:List Stmt)(ψ:yC):Prop where
 mono:∀E E' β,Le E E'->ψ E β->ψ E' β
 ps:sV X st (UD X C ψ)
section
variable {X:Cx}{C:Cfg}{st:Stmt}{rest a b:List Stmt}{ψ ψ1 ψ2:yC}{Z:Hp×(Addr->Prop)}{σ:St}{H H':Hp}{β β':bb}{pos pos':Pos}{e c:Expr}{φ:aQ}{τ:a_}{p:Bool}{own a8:Nat->List Addr}{i:Nat}{x:Str}
def Out.sb (n:Sn Z H (Wn own))(o:Out X C.z σ H own p β' H' a8):SB X C Z σ H' β':={a8,o.sq,n.trans o.sn}
def bc:sR X C [] (λE β=>E.nx β):={λE E' β l h=>l.nx β h,rA.pre λD σ H ux=>by obtain⟨Z,E,β,sb,h,ok⟩:=ux;exact ok.nx σ H β sb h}
def aj (h1:PB X C st ψ1)(h2:sR X C rest ψ2):sR X C (st::rest) (λE β=>ψ1 (E.up (ap ψ2 E)) β) :=
 ⟨λE E' β l h=>h1.mono {E with nx:=ψ2 E} {E' with nx:=ψ2 E'} β {λβ' q=>h2.mono E E' β' l q,l.rt,l.bk,l.ct} h,(cP h1.ps h2.ps).pre λD σ H ⟨Z,E,β,sb,h,ok⟩ =>
  {Z,{E with nx:=ψ2 E},β,sb,h,{λσ' H' β' vR h'=>{(Z),E,β',vR,h',ok},ok.rt,ok.bk,ok.ct}}⟩
def ar (h1:PB X C st ψ):sR X C [st] ψ:={h1.mono,fA h1.ps}
def dZ (h1:PB X C st ψ1)(h2:sR X C rest ψ2):sR X C (st::rest) (λE β=>∃J:bb->Prop,ψ1 (E.up J) β/\∀β',J β'->ap ψ2 E β') :=
 ⟨λE E' β l uw=>by obtain⟨J,h,k⟩:=uw;exact{J,h1.mono {E with nx:=J} {E' with nx:=J} β {λ_ q=>q,l.rt,l.bk,l.ct} h,λβ' q=>h2.mono E E' β' l (k β' q)},(cP h1.ps h2.ps).pre λD σ H ⟨Z,E,β,sb,⟨J,h,k⟩,ok⟩ =>
  {Z,{E with nx:=J},β,sb,h,{λσ' H' β' vR h'=>{Z,E,β',vR,k β' h',ok},ok.rt,ok.bk,ok.ct}}⟩
def eQ:sR X C a (λ_ _=>False):={λ_ _ _ _ h=>h.elim,za.pre λD σ H Gb=>by obtain⟨Z,E,β,sb,h,ok⟩:=Gb;exact h.elim}
def b7 (hc:vw X C.z p c τ)(ha:sR X C a ψ1)(hb:sR X C b ψ2):PB X C (.If c a b pos) (λE β=>τ β λt β'=>if t=true then ap ψ1 E β' else ap ψ2 E β') :=
 ⟨λE E' β l h=>hc.mono _ _ _ (λt β' q=>by
   cases t
   ·exact hb.mono E E' β' l q
   ·exact ha.mono E E' β' l q) h,(BG hc.pt ha.ps hb.ps).pre λD σ H Ga=>by
  obtain⟨Z,E,β,⟨own,s,n⟩,h,ok⟩:=Ga;refine kA.of hc s h λt β' H1 ay q o1=>?_;cases t
  ·exact{Z,E,β',o1.sb n,q,ok}
  ·exact{Z,E,β',o1.sb n,q,ok}⟩
abbrev HA (d:D)(k:Kd)(K:B->Prop):Prop:=match k with
 |.own=>K (.val true d)
 |.dt=>K (.val true d)
 |.old=>K (.val false d)
 |.bor=>d.flat=true/\K (.val true d)
def HA.mono {d:D}{k:Kd}{K K':B->Prop}(h:∀b,K b->K' b)(q:HA d k K):HA d k K':=by
 cases k <;> first|exact h _ q|exact⟨q.1,h _ q.2⟩
def HA.of {P:Y7}{w:Zj}{d:D}{v:V}{k:Kd}{K:B->Prop}(r:KV P w C Z own H k d v)(q:HA d k K):∃y,K (.val y d)/\aC P w (av C (Wn own) (yk y)) H d v:=by
 cases k with
 |own=>exact{(true),q,r.dt}
 |dt=>exact{(true),q,r}
 |old=>exact{(false),q,r}
 |bor=>exact{true,q.2,aC.flat q.1 r}
def kK {own:Nat->List Addr}{i:Nat}(n:Sn Z H (Wn own)):Sn Z H (Wn (aH own i [])):={λb z=>n.w b (gm z),n.k,n.d}
def aU (he:PQ X C.z p e φ)(hN:X.N.Nodup)(hi:X.N[i]?=some x:=by rfl)(hx:Loc X.env.scope x:=by first|exact .inl rfl|exact .inr rfl)
  (hs:aaw e (some (.Name x pos')) pos.line X.env=pure false:=by rfl) (hf:X.fn x=true\/X.env.scope.names.lookup x=some .local:=by first|exact .inl rfl|exact .inr rfl|assumption) :
  PB X C (.Assign [.Name x pos'] e pos) (λE β=>φ β λd k β'=>HA d k λb=>E.nx (β'.set i (some b))) :=
 ⟨λE E' β l q=>he.mono _ _ _ (λd k β' q=>q.mono λ_=>l.nx _) q,(kO hN hi hx he.pe hs hf).pre λD σ H ⟨Z,E,β,⟨own,s,n⟩,q,ok⟩=>tQ.of he s q λd k β' v H' a8 q o r=>by
  obtain⟨y,q,r⟩:=q.of r;exact ok.nx _ _ _ {_,o.sq.eX (aC.aY (λa z=>z.elim id λz=>z.elim) r),kK (n.trans o.sn)} q⟩
abbrev F3 (k:Kd)(d:D):Prop:=match k with
 |.own=>True
 |_=>d.flat=true
def KV.fl {P:Y7}{w:Zj}{d:D}{v:V}{k:Kd}(f:F3 k d)(r:KV P w C Z own H k d v):KV P w C Z own H .own d v:=by
 cases k with
 |own=>exact r
 |dt=>exact KV.flat f r.rep
 |old=>exact KV.flat f r.rep
 |bor=>exact KV.flat f r.rep
def gA (he:∀U,PQ X (C.u U) p e φ)(hN:X.N.Nodup)(hi:X.N[i]?=some x:=by rfl)(hx:Loc X.env.scope x:=by first|exact .inl rfl|exact .inr rfl)
  (hs:aaw e (some (.Name x pos')) pos.line X.env=pure false:=by rfl) (hf:X.fn x=true\/X.env.scope.names.lookup x=some .local:=by first|exact .inl rfl|exact .inr rfl|assumption) :
  PB X C (.Assign [.Name x pos'] e pos) (λE β=>φ β λd k β'=>F3 k d/\E.nx (β'.set i (some (.own d)))) :=
 ⟨λE E' β l q=>(he λ_=>False).mono _ _ _ (λd k β' q=>{q.1,l.nx _ q.2}) q,λpins s σ H D I ⟨Z,E,β,⟨own,sq,n⟩,q,ok⟩ =>
  kO hN hi hx (he λa=>H a=none).pe hs hf pins s σ H D I (tQ.of (he λa=>H a=none) (sq.lJ (C:=C.z) (U:=λa=>H a=none) λa z=>z) q λd k β' v H' a8 KC o r=>by
   obtain⟨f,q⟩:=KC;obtain⟨A,h1,h2,h3⟩:=r.fl f;refine ok.nx _ _ _ {_,o.sq.vP h1 h2 λc hc=>{(h3 c hc).2.2,(h3 c hc).2.1,(h3 c hc).1},?_} q;have m:=n.trans o.sn;exact⟨λb SG=>by
    obtain⟨j,hj⟩:=SG
    by_cases aD:i=j
    ·rw[<- aD,os_eq]at hj;exact .inr (n.free (h3 b hj).1)
    ·rw[a5 aD]at hj;exact m.w b {(j),hj},m.k,m.d⟩)⟩
def bj.Jh {P:Y7}{w:Zj}{U U2:Addr->Prop}{d d':D}{v:V}{A':List Addr}{c:Addr}{o:HO}(b:bj P w (C.u U) σ H β own)(e:β[i]?=some (some (.own d)))(hσ:σ[i]?=some (some v))(hc:c∈own i)
  (r:Own P w (upd H c o) d' v A') (nd:A'.Nodup) (hA:∀a∈A',a∈own i\/(C.H0 a=none/\¬ Wn own a/\U a)) (hU:∀a,U2 a->U a) (TF:∀a∈A',¬ U2 a):bj P w (C.u U2) σ (upd H c o) (β.set i (some (.own d'))) (aH own i A'):=by
 obtain⟨g1,g2,g3,g4⟩:=b.dm i c hc;obtain⟨oc,zP⟩:∃oc,H c=some oc:=by
  cases q:H c with
  |none=>exact absurd q g1
  |some oc=>exact{(oc),rfl}
 have ht:∀xs,oc≠.tup xs:=λxs z=>g2 xs (by rw[zP,z])
 have k:Kp (·=c) H (upd H c o):=k7 zP ht;have h0:∀a∈own i,C.H0 a=none:=by obtain⟨_,_,_,h⟩:=b.ow i d e;exact h
 have wc:Wn own c:={(i),hc};have sub:∀y a,eD (C.u U2) (Wn (aH own i A')) (yk y) a->eD (C.u U) (Wn own) (yk y) a:=λy a h=>by
  have q:∀a,Wn (aH own i A') a->Wn own a\/U a:=λa CQ=>by
   obtain⟨j,q⟩:=CQ
   by_cases aD:i=j
   ·rw[aD,os_eq]at q;rcases hA a q with z|z
    ·exact .inl {(i),z}
    ·exact .inr z.2.2
   ·rw[a5 aD]at q;exact .inl {(j),q}
  rcases h with h|h
  ·cases y with
   |true=>exact h.elim (λz=>(q a z).imp .inl id) λz=>.inl (.inr z)
   |false=>exact q a h
  ·exact .inr (hU a h)
 have mem:∀{j c},c∈aH own i A' j->(i=j/\c∈A')\/(i≠j/\c∈own j):=λ{j c} h=>by
  by_cases aD:i=j
  ·subst aD;rw[os_eq]at h;exact .inl {(rfl),h}
  ·rw[a5 aD]at h;exact .inr {(aD),h}
 have PD:∀j,i≠j->∀a∈own j,a≠c:=λj aD a ha z=>aD (b.jm i j c hc (by rw[<- z];exact ha))
 refine⟨by simp[b.len],λj y' d2 e2=>?_,λj d2 e2=>?_,λj ok e2=>?_,λj a h=>?_,λj k2 a h1 h2=>?_,λj=>?_,{λa oa z n=>?_,λa xs z=>k.tup a xs (b.kp.tup a xs z)},λa z=>?_,λj y' d2 e2=>by
  by_cases aD:i=j
  ·subst aD;obtain⟨e',hl⟩:=aP e2;cases e'
  ·rw[aO aD]at e2;rw[a5 aD];obtain⟨u,h1,h2,h3⟩:=b.shl j y' d2 e2;exact{u,h1,h2.map (λa ha oa ea=>k.out a oa ea (PD j aD a ha)) (λ_ _ r=>ai.aY (sub _) (r.keep (k.mono λa z=>by rw[z];cases y' <;> first|exact .inl wc|exact .inl (.inl wc)))),h3}⟩
 ·by_cases aD:i=j
  ·subst aD;obtain⟨e',hl⟩:=aP e2;cases e'
  ·rw[aO aD]at e2;obtain⟨u,h1,h2⟩:=b.val j y' d2 e2;exact{u,h1,(h2.keep (k.mono λa z=>by rw[z];cases y' <;> first|exact .inl wc|exact .inl (.inl wc))).aY (sub _)}
 ·by_cases aD:i=j
  ·subst aD;obtain⟨e',hl⟩:=aP e2;cases e';rw[os_eq];exact{v,hσ,r,λa ha=>(hA a ha).elim (h0 a) λz=>z.1}
  ·rw[aO aD]at e2;rw[a5 aD];obtain⟨u,h1,h2,h3⟩:=b.ow j d2 e2;exact{u,h1,h2.keep k.tup (λa ha oa ea=>k.out a oa ea (PD j aD a ha)),h3}
 ·by_cases aD:i=j
  ·subst aD;obtain⟨e',hl⟩:=aP e2;cases e'
  ·rw[aO aD]at e2;rw[a5 aD];obtain⟨a,ns,h1,h2,h3,h4,h5⟩:=b.nN j ok e2;exact{a,ns,h1,k.out a _ h2 (PD j aD a (by rw[h4];simp)),h3,h4,h5}
 ·rcases mem h with⟨_,h⟩|⟨aD,h⟩
  ·exact{(r.ph a h).1,(r.ph a h).2,.inl ((hA a h).elim (h0 a) λz=>z.1),TF a h}
  ·obtain⟨q1,q2,q3,q4⟩:=b.dm j a h;rw[au (PD j aD a h)];exact{q1,q2,q3,λz=>q4 (hU a z)}
 ·rcases mem h1 with⟨e1,h1⟩|⟨n1,h1⟩
  ·rcases mem h2 with⟨e2,h2⟩|⟨n2,h2⟩
   ·rw[<- e1,<- e2]
   ·rcases hA a h1 with z|z
    ·exact absurd (b.jm i k2 a z h2) n2
    ·exact absurd {(k2),h2} z.2.1
  ·rcases mem h2 with⟨e2,h2⟩|⟨n2,h2⟩
   ·rcases hA a h2 with z|z
    ·exact absurd (b.jm i j a z h1) n1
    ·exact absurd {(j),h1} z.2.1
   ·exact b.jm j k2 a h1 h2
 ·by_cases aD:i=j
  ·rw[<- aD,os_eq];exact nd
  ·rw[a5 aD];exact b.jq j
 ·refine k.out a oa (b.kp.out a oa z n) λq=>?_;subst q;rw[h0 a hc]at z;cases z
 ·by_cases Vu:a=c
  ·rw[Vu,ak];exact λz=>(nomatch z)
  ·rw[au Vu];exact b.fS a z
def bj.putIn {P:Y7}{w:Zj}{U:Addr->Prop}{d d':D}{v:V}{A':List Addr}{c:Addr}{o:HO}(b:bj P w (C.u U) σ H β own)(e:β[i]?=some (some (.own d)))(hσ:σ[i]?=some (some v))(hc:c∈own i)
  (r:Own P w (upd H c o) d' v A') (nd:A'.Nodup) (hA:∀a∈A',a∈own i\/(C.H0 a=none/\¬ Wn own a/\U a)):bj P w C.z σ (upd H c o) (β.set i (some (.own d'))) (aH own i A') :=
 b.Jh (U2:=λ_=>False) e hσ hc r nd hA (λ_ z=>z.elim) λ_ _ z=>z
def jg {A':List Addr}{c:Addr}{o:HO}{U:Addr->Prop}(n:Sn Z H (Wn own))(m:∀a,U a->Z.1 a=none)(hc:Wn own c)(zP:∃oc,H c=some oc/\∀xs,oc≠.tup xs)(hA:∀a∈A',a∈own i\/(C.H0 a=none/\¬ Wn own a/\U a)):Sn Z (upd H c o) (Wn (aH own i A')):=by
 obtain⟨oc,h1,h2⟩:=zP;have u:=Sn.upd (o':=o) n h1 h2 hc;exact⟨λb CP=>by
  obtain⟨j,hj⟩:=CP
  by_cases aD:i=j
  ·rw[<- aD,os_eq]at hj;rcases hA b hj with z|z
   ·exact n.w b {(i),z}
   ·exact .inr (m b z.2.2)
  ·rw[a5 aD]at hj;exact n.w b {(j),hj},u.k,u.d⟩
def bj.ug {P:Y7}{w:Zj}{ds:List D}(b:bj P w C σ H β own)(e:β[i]?=some (some (.own (.lst ds)))):∃a vs A',σ[i]?=some (some (.ref a))/\H a=some (.lst vs)/\own i=a::A'/\aR P w H ds vs A':=by
 obtain⟨v,h1,⟨a,vs,A',rfl,h2,h3,h4⟩,_⟩:=b.ow i _ e;exact{(a),vs,A',h1,h2,h3,h4}
variable {px ap cp:Pos}
def iQ (he:∀U,PQ X (C.u U) p e φ)(hN:X.N[i]?=some x:=by rfl)(hv:oK X.env.scope x:=by first|exact .inl rfl|exact .inr (.inl rfl)|exact .inr (.inr rfl))(hd:(x==("__debug__" : Str))=false:=by decide)(eU:(x==("__classdict__" : Str))=false:=by decide)
  (cS:aaH (.Name x px) "append" X.env (eval (.Name x px) X.env)=eval (.Name x px) X.env:=by rfl)
  (iy:((aag cp (Y9 [e] X.env)).all (λx=>!x.1)&&(acg cp (abo [] X.env)).all (λx=>x.1.isSome)&&decide ([e].length+([]:List aa2).length+(if ([]:List aa2).isEmpty then 0 else 1)<30))=true:=by rfl)
  (cR:(ap.endLine==cp.line)=true:=by rfl) (hs:Y9 [e] X.env=(false,eval e X.env)::Y9 [] X.env:=by rfl) (cw:(aag cp (Y9 [] X.env)).any (·.1)=false:=by rfl)
  (o8:aaw (.Call (.Attribute (.Name x px) "append" ap) [e] [] cp) none pos.line X.env=pure false:=by rfl) :
  PB X C (.Expr (.Call (.Attribute (.Name x px) "append" ap) [e] [] cp) pos) (λE β=>(∃ds,β[i]?=some (some (.own (.lst ds))))/\φ β λd k β'=>F3 k d/\∃ds,β'[i]?=some (some (.own (.lst ds)))/\ds.length<Zd/\E.nx (β'.set i (some (.own (.lst (ds++[d])))))):=by
 refine{λE E' β l CO=>by obtain⟨h1,q⟩:=CO;exact{h1,(he λ_=>False).mono _ _ _ (λd k β' CN=>by obtain⟨f,ds,h1,h2,q⟩:=CN;exact{f,ds,h1,h2,l.nx _ q}) q},λpins s σ H D I i5=>?_}
 obtain⟨Z,E,β,⟨own,sq,n⟩,⟨⟨T3,hb⟩,q⟩,ok⟩:=i5;refine fB (pos:=pos) (pV (apos:=ap) (cpos:=cp) PySem.F.plainAttrs_list PySem.F.slot_list_append PySem.F.type_list_append gb (bY (pos:=px) hN hv hd eU) (aZ (he λa=>H a=none).pe cq hs) cS iy cR hs cw) o8 pins s σ H D I ?_;obtain⟨a,vs,A',h1,h2,h3,h4⟩:=sq.ug hb;refine{.ref a,h1,.inl {rfl,vs,dj.of h2},tQ.of (he λa=>H a=none) (sq.lJ (C:=C.z) (U:=λa=>H a=none) λa z=>z) q λd k β' v H1 ay l5 o r=>?_};obtain⟨f,ds,gY,hl,q⟩:=l5;obtain⟨a',vs',A1,g1,g2,g3,g4⟩:=o.sq.ug gY;rw[h1]at g1;cases g1;obtain⟨A,r1,r2,r3⟩:=r.fl f;have ha:a∈ay i:=by rw[g3];simp
 have nd:(a::(A1++A)).Nodup:=by
  have q:=o.sq.jq i;rw[g3]at q;refine Zs.mpr {λz=>?_,aam.mpr {(Zs.mp q).2,r2,λx hx y hy e=>?_}}
  ·rcases Zt.mp z with z|z
   ·exact(Zs.mp q).1 z
   ·exact(r3 a z).2.1 {(i),ha}
  ·subst e;exact(r3 x hy).2.1 {i,by rw[g3];simp[hx]}
 have hA:∀b∈a::(A1++A),b∈ay i\/(C.H0 b=none/\¬ Wn ay b/\H b=none):=λb hb=>by
  rcases Y6.mp hb with rfl|hb
  ·exact .inl ha
  ·rcases Zt.mp hb with hb|hb
   ·exact .inl (by rw[g3];simp[hb])
   ·exact .inr {(r3 b hb).2.2,(r3 b hb).2.1,(r3 b hb).1}
 have kt:∀b xs,H1 b=some (.tup xs)->upd H1 a (.lst (vs'++[v])) b=some (.tup xs):=λb xs z=>by
  rw[au (λz'=>by rw[z',g2]at z;cases z)];exact z
 have ne1:∀c∈A1,c≠a:=λc hc z=>by
  have q:=o.sq.jq i;rw[g3]at q;exact(Zs.mp q).1 (by rw[<- z];exact hc)
 have ne2:∀c∈A,c≠a:=λc hc z=>(r3 c hc).2.1 {i,by rw[z];exact ha}
 have r':Own X.prog X.w (upd H1 a (.lst (vs'++[v]))) (.lst (ds++[d])) (.ref a) (a::(A1++A)) :=
  {a,vs'++[v],A1++A,rfl,ak,rfl,(g4.keep kt λc hc oc ec=>by rw[au (ne1 c hc)];exact ec).append (aR.one (r1.keep kt λc hc oc ec=>by rw[au (ne2 c hc)];exact ec))}
 exact{a,vs',v,rfl,rfl,g2,by rw[g4.length];exact hl,ok.nx _ _ _ {_,o.sq.putIn gY h1 ha r' nd hA,jg (n.trans o.sn) (λb z=>n.free z) {(i),ha} {_,g2,λxs z=>by cases z} hA} q}
end
abbrev da:=D->Kd->bb->(bb->Prop)->Prop
abbrev qQ:=List D->Kd->bb->(bb->Prop)->Prop
structure AK (X:Cx)(C:Cfg)(tg:Expr)(T:List Nat)(γ:da):Prop where
 mono:∀d k β R R',(∀r,R r->R' r)->γ d k β R->γ d k β R'
 pg:PG X tg λv σ H Q=>∃own β d k,SQ X C σ H β own/\Rp X (eD C (Wn own) k) H d v/\γ d k β λβ'=>∀σ' a8,SQ X C σ' H β' a8->(∀a,Wn a8 a->Wn own a)->(∀j,j∉T->σ'[j]?=σ[j]?)->Q σ' H
structure GZ (X:Cx)(C:Cfg)(yK:List Expr)(T:List Nat)(γ:qQ):Prop where
 mono:∀d k β R R',(∀r,R r->R' r)->γ d k β R->γ d k β R'
 US:Ij X yK λvs σ H Q=>∃own β ds k,SQ X C σ H β own/\mD X (eD C (Wn own) k) H ds vs/\γ ds k β λβ'=>∀σ' a8,SQ X C σ' H β' a8->(∀a,Wn a8 a->Wn own a)->(∀j,j∉T->σ'[j]?=σ[j]?)->Q σ' H
section
variable {X:Cx}{C:Cfg}{tg:Expr}{yK:List Expr}{γ:da}{γs:qQ}{T T':List Nat}{pos:Pos}{e:Expr}{φ:aQ}{p:Bool}
def Xx (i:Nat):da:=λd k β R=>HA d k λb=>R (β.set i (some b))
def aw {i:Nat}{x:Str}(hN:X.N.Nodup)(hi:X.N[i]?=some x:=by rfl)(hx:Loc X.env.scope x:=by first|exact .inl rfl|exact .inr rfl)
  (hf:X.fn x=true\/X.env.scope.names.lookup x=some .local:=by first|exact .inl rfl|exact .inr rfl|assumption):AK X C (.Name x pos) [i] (Xx i) :=
 ⟨λd k β R R' h q=>HA.mono (d:=d) (k:=k) (K:=λb=>R (β.set i (some b))) (K':=λb=>R' (β.set i (some b))) (λ_=>h _) q,(Fc hN hi hx hf).pre λv σ H Q ux=>by
  obtain⟨own,β,d,k,s,r,q⟩:=ux;have Pw:∀(v:V) (j:Nat),j∉[i]->(σ.set i (some v))[j]?=σ[j]?:=λv j hj=>aO (Z_ (by simpa using hj))
  cases k with
  |own=>exact q _ _ (s.eX (y:=true) r) (λa h=>gm h) (Pw v)
  |dt=>exact q _ _ (s.eX (y:=true) r) (λa h=>gm h) (Pw v)
  |old=>exact q _ _ (s.eX (y:=false) r) (λa h=>gm h) (Pw v)
  |bor=>exact q.2 _ _ (s.eX (y:=true) (aC.flat q.1 r)) (λa h=>gm h) (Pw v)⟩
abbrev sk (k:Kd):D->Kd
 |.int _=>.own
 |.bl _=>.own
 |.cN=>.own
 |.str _=>.own
 |_=>k.wk
def qZ {P:Y7}{w:Zj}{W:Addr->Prop}{H:Hp}{k:Kd}{d:D}{v:V}(r:aC P w (eD C W k) H d v):aC P w (eD C W (sk k d)) H d v:=by
 cases d with
 |int i=>exact aC.flat rfl r
 |bl i=>exact aC.flat rfl r
 |cN=>exact aC.flat rfl r
 |str i=>exact aC.flat rfl r
 |_=>exact aC.aY (λa z=>z.imp (DU a) id) r
def K2:qQ:=λds _ β R=>ds=[]/\R β
def C5 (γ:da)(γs:qQ):qQ:=λds k β R=>∃d r,ds=d::r/\γ d (sk k d) β λβ'=>γs r k β' R
def b6:GZ X C [] [] K2:=⟨λd k β R R' h q=>{q.1,h _ q.2},Fb.pre λvs σ H Q nM=>by
 obtain⟨own,β,ds,k,s,r,e,q⟩:=nM;subst e;exact{r,q σ own s (λ_ z=>z) λ_ _=>rfl}⟩
def aM (h1:AK X C tg T γ)(h2:GZ X C yK T' γs)(hs:(aa_ (tg::yK) X.env).map (·.2)=assign tg X.env::(aa_ yK X.env).map (·.2):=by rfl):GZ X C (tg::yK) (T++T') (C5 γ γs) :=
 ⟨λds k β R R' h uw=>by obtain⟨d,r,e,q⟩:=uw;exact{d,r,e,h1.mono _ _ β _ _ (λβ' q=>h2.mono r k β' _ _ h q) q},
  (BN h1.pg h2.US hs).pre λvs σ H Q CM=>by
    obtain⟨own,β,ds,k,s,rr,d,r,e,q⟩:=CM;subst e;obtain⟨v,vr,rfl,rv,V9⟩:=rr;exact{v,vr,rfl,own,β,d,_,s,qZ rv,h1.mono _ _ β _ _ (λβ' q σ' a8 s' w' t'=>{a8,β',r,k,s',ai.aY (fm w' k) V9,h2.mono r k β' _ _ (λβ2 q2 σ2 bH s2 w2 t2=>q2 σ2 bH s2 (λa z=>w' a (w2 a z)) λj hj=>(t2 j λz=>hj (Z1 _ z)).trans (t' j λz=>hj (aao _ z))) q}) q}⟩
def Xw (n:Nat)(γs:qQ):da:=λd k β R=>∃ds,d=.tup ds/\ds.length=n/\γs ds k β R
def c5 {k:Nat}{n:Nat}(hc:X.calm=true)(h:GZ X C yK T γs)(hn:(aa_ yK X.env).length=n:=by rfl)(si:(aa_ yK X.env).findIdx? (·.1)=none:=by rfl):AK X C (.Tuple yK k pos) T (Xw n γs) :=
 ⟨λd k β R R' hh Ge=>by obtain⟨ds,e,l,q⟩:=Ge;exact{ds,e,l,h.mono ds k β _ _ hh q},(Jo hc h.US hn si).pre λv σ H Q Ku=>by
  obtain⟨own,β,d,k,s,r,ds,e,l,q⟩:=Ku;subst e;obtain⟨a,vs,rfl,ha,rs⟩:=r;exact{a,vs,rfl,u_.of ha,by rw[rs.length];exact l,own,β,ds,k,s,rs,q}⟩
def jH {Z:Hp×(Addr->Prop)}{H:Hp}{own a8:Nat->List Addr}(n:Sn Z H (Wn own))(h:∀a,Wn a8 a->Wn own a):Sn Z H (Wn a8):={λb z=>n.w b (h b z),n.k,n.d}
def rJ (he:PQ X C.z p e φ)(hg:AK X C.z tg T γ)(hs:swapsWithSole [tg] e pos.line X.env=pure false:=by rfl)(hw:swappedStores [tg] e X.env=pure none:=by rfl)
  (h1:(aa_ [tg] X.env).map (·.2)=[assign tg X.env]:=by rfl):PB X C (.Assign [tg] e pos) (λE β=>φ β λd k β'=>γ d k β' E.nx) :=
 ⟨λE E' β l q=>he.mono _ _ _ (λd k β' q=>hg.mono _ _ _ _ _ l.nx q) q,(rB he.pe hg.pg hs hw h1).pre λD σ H ⟨Z,E,β,⟨own,s,n⟩,q,ok⟩=>tQ.of he s q λd k β' v H' a8 q o r =>
  {a8,β',d,k,o.sq,aC.aY (λa z=>z.elim id λz=>z.elim) r.rep,hg.mono _ _ _ _ _ (λβ2 q σ2 bH s2 w2 _=>ok.nx _ _ _ {bH,s2,jH (n.trans o.sn) w2} q) q}⟩
def fD (he:PQ X C.z p e φ)(o8:aaw e none pos.line X.env=pure false:=by rfl):PB X C (.Expr e pos) (λE β=>φ β λ_ _ β'=>E.nx β') :=
 {λE E' β l q=>he.mono _ _ _ (λd k β' q=>l.nx _ q) q,(fB he.pe o8).pre λD σ H Gb=>by obtain⟨Z,E,β,⟨own,s,n⟩,q,ok⟩:=Gb;exact tQ.of he s q λd k β' v H' a8 q o r=>ok.nx _ _ _ (o.sb n) q}
abbrev Rv (ro:Bool)(k:Kd)(d:D):Prop:=match k,ro with
 |.own,_=>True
 |.dt,false=>True
 |_,_=>d.flat=true
def eR {P:Y7}{w:Zj}{W:Addr->Prop}{ro:Bool}{H H':Hp}{d:D}{v:V}(f:d.flat=true)(r:aC P w W H' d v):me P w ro H H' d v:=by
 cases ro with
 |true=>exact{[],d6 f r,Z5,λc hc=>(nomatch hc)}
 |false=>exact aC.flat f r
def FO {P:Y7}{w:Zj}{Z:Hp×(Addr->Prop)}{own:Nat->List Addr}{ro:Bool}{H':Hp}{k:Kd}{d:D}{v:V}(f:Rv ro k d)(r:KV P w C Z own H' k d v):me P w ro C.H0 H' d v:=by
 cases k with
 |own =>
  cases ro with
  |true=>obtain⟨A,h1,h2,h3⟩:=r;exact{A,h1,h2,λc hc=>(h3 c hc).2.2}
  |false=>exact aC.aY (λa z=>.inr z) r.rep
 |dt =>
  cases ro with
  |true=>exact eR f r.rep
  |false=>exact aC.aY (λa z=>.inr z) r.rep
 |old=>cases ro <;> exact eR f r.rep
 |bor=>cases ro <;> exact eR f r.rep
def Fl (he:PQ X C.z p e φ):PB X C (.Return (some e) pos) (λE β=>φ β λd k β'=>Rv C.ro k d/\E.rt d β') :=
 {λE E' β l q=>he.mono _ _ _ (λd k β' q=>{q.1,l.rt _ _ q.2}) q,(gx he.pe).pre λD σ H Ga=>by obtain⟨Z,E,β,⟨own,s,n⟩,q,ok⟩:=Ga;exact tQ.of he s q λd k β' v H' a8 q o r=>ok.rt _ _ _ _ _ (o.sb n) (FO (C:=C.z) q.1 r) q.2}
def bh {ro:Bool}(he:PQ X C.z p e φ)(WY:C.ro=ro:=by first|exact(rfl:_=true)|exact(rfl:_=false)):PB X C (.Return (some e) pos) (λE β=>φ β λd k β'=>Rv ro k d/\E.rt d β'):=by
 subst WY;exact Fl he
def jS {i:Nat}{x:Str}{px:Pos}(hN:X.N[i]?=some x:=by rfl)(hv:oK X.env.scope x:=by first|exact .inl rfl|exact .inr (.inl rfl)|exact .inr (.inr rfl))(hd:(x==("__debug__" : Str))=false:=by decide)(eU:(x==("__classdict__" : Str))=false:=by decide):
  PB X C (.Return (some (.Name x px)) pos) (λE β=>∃d,β[i]?=some (some (.own d))/\E.rt d β) :=
 ⟨λE E' β l KG=>by obtain⟨d,h1,q⟩:=KG;exact{d,h1,l.rt _ _ q},(gx (bY (pos:=px) hN hv hd eU)).pre λD σ H KD=>by
  obtain⟨Z,E,β,⟨own,s,n⟩,⟨d,h1,q⟩,ok⟩:=KD;obtain⟨v,e1,r,h0⟩:=s.ow i d h1;refine{_,e1,ok.rt _ _ _ _ _ {(own),s,n} ?_ q};cases hr:C.ro with
  |true=>exact{_,r,s.jq i,h0}
  |false=>exact r.rep λc hc z=>z (h0 c hc)⟩
end
abbrev cV:=bb->(List D->Kd->bb->Prop)->Prop
structure AJ (X:Cx)(C:Cfg)(p:Bool)(tg iter:Expr)(ι:cV):Prop where
 mono:∀β R R',(∀d k β,R d k β->R' d k β)->ι β R->ι β R'
 pi:PI X tg iter λσ H R=>∃β own,SQ X C σ H β own/\ι β λds k β'=>∀J H' a8,Out X C σ H own p β' H' a8->Az X (av C (Wn a8) k) J ds H'->R J H'
section
variable {X:Cx}{C:Cfg}{tg e a b:Expr}{φ:aQ}{φs:bP}{p:Bool}{pp pos:Pos}
def Ry (φ:aQ):cV:=λβ R=>φ β λd k β'=>∃ds,d=.lst ds/\R ds k β'
def bt (h:PQ X C p e φ):AJ X C p tg e (Ry φ) :=
 ⟨λβ R R' k q=>h.mono β _ _ (λd kd β' KC=>by obtain⟨ds,e,q⟩:=KC;exact{ds,e,k _ _ _ q}) q,(rH h.pe).pre λσ H R ⟨β,own,s,q⟩=>tQ.of h s q λd k β' v H1 ay CQ o1 r1=>by
  obtain⟨ds,e,q1⟩:=CQ;subst e;obtain⟨a,vs,rfl,h1,n1,q2⟩:=r1.rep;exact{a,rfl,{vs,dj.of h1},q1 _ _ ay o1 (nH h1 n1 q2)}⟩
def F9 (φs:bP):cV:=λβ R=>φs β λds _ β'=>∃j:Int,ds=[.int j]/\-(2 ^ 62)<=j/\j<2 ^ 62/\R (rh 0 j.toNat) .dt β'
def yc (φs:bP):cV:=λβ R=>φs β λds _ β'=>∃i j:Int,ds=[.int i,.int j]/\(-(2 ^ 62)<=i/\i<2 ^ 62/\-(2 ^ 62)<=j/\j<2 ^ 62)/\R (rh i (j-i).toNat) .dt β'
def ck (hm:X.mg "range" = none) (ha:pq X C p [a] φs) (hg:Gl X "range" := by rfl) (hs:Y9 [a] X.env=[(false,eval a X.env)]:=by rfl):AJ X C p tg (.Call (.Name "range" pp) [a] [] pos) (F9 φs) :=
 ⟨λβ R R' k q=>ha.mono β _ _ (λd kd β' KA=>by obtain⟨j,e,h1,h2,q⟩:=KA;exact{j,e,h1,h2,k _ _ _ q}) q,(zg hg hm ha.pa hs).pre λσ H R ⟨β,own,s,q⟩=>qV.of ha s q λds ks β' vs H1 ay Ky o1 r1=>by
  obtain⟨j,e,h1,h2,q1⟩:=Ky;subst e;obtain⟨x,rfl,hx⟩:=oE r1.iY;cases hx;exact{j,rfl,h1,h2,q1 _ _ ay o1 k8}⟩
def vZ (hm:X.mg "range" = none) (ha:pq X C p [a,b] φs) (hg:Gl X "range" := by rfl) (hs:Y9 [a,b] X.env=[(false,eval a X.env),(false,eval b X.env)]:=by rfl) (oJ:Y9 [b] X.env=[(false,eval b X.env)]:=by rfl) :
  AJ X C p tg (.Call (.Name "range" pp) [a,b] [] pos) (yc φs) :=
 ⟨λβ R R' k q=>ha.mono β _ _ (λd kd β' Kx=>by obtain⟨i,j,e,h1,q⟩:=Kx;exact{i,j,e,h1,k _ _ _ q}) q,(pS hg hm ha.pa hs oJ).pre λσ H R ⟨β,own,s,q⟩=>qV.of ha s q λds ks β' vs H1 ay SF o1 r1=>by
  obtain⟨i,j,e,h1,q1⟩:=SF;subst e;obtain⟨x,y,rfl,hx,hy⟩:=u6 r1.iY;cases hx;cases hy;exact{i,j,rfl,h1,q1 _ _ ay o1 k8}⟩
end
def C9 (γ:da)(ψ:yC)(E:cb)(ds:List D)(k:Kd)(β:bb):Prop:=∃I:Nat->bb->Prop,I 0 β/\(∀i d β,ds[i]?=some d->I i β->γ d (sk k d) β λβ1=>ψ (E.lp (I (i+1))) β1)/\∀β,I ds.length β->E.nx β
section
variable {X:Cx}{C:Cfg}{tg iter c:Expr}{γ:da}{T:List Nat}{ψ:yC}{ι:cV}{τ:a_}{body:List Stmt}{pos:Pos}{p:Bool}
def C9.mono {E E':cb}{ds:List D}{k:Kd}{β:bb}(hγ:∀d k β R R',(∀r,R r->R' r)->γ d k β R->γ d k β R')(hψ:∀E E' β,Le E E'->ψ E β->ψ E' β)(l:Le E E'):C9 γ ψ E ds k β->C9 γ ψ E' ds k β:=λ⟨I,h0,h1,h2⟩ =>
 {I,h0,λi d β e q=>hγ d _ β _ _ (λβ1 q=>hψ {nx:=I (i+1),rt:=E.rt,bk:=E.nx,ct:=I (i+1)} {nx:=I (i+1),rt:=E'.rt,bk:=E'.nx,ct:=I (i+1)} β1 {λ_ q=>q,l.rt,l.nx,λ_ q=>q} q) (h1 i d β e q),λβ q=>l.nx _ (h2 β q)}
def GU {own bH:Nat->List Addr}{H H2:Hp}{k:Kd}(n:Sn (H,Wn own) H2 (Wn bH)):∀b,av C (Wn bH) k b->av C (Wn own) k b\/H b=none:=λb z=>by
 cases k with
 |own=>exact z.elim (λz=>(n.w b z).imp .inl id) λz=>.inl (.inr z)
 |dt=>exact z.elim (λz=>(n.w b z).imp .inl id) λz=>.inl (.inr z)
 |old=>exact n.w b z
 |bor=>exact z.elim
def dI (hp:PassesOwn (model X.prog X.w) X.A X.env X.xe)(hc:X.calm=true)(hi:AJ X C.z p tg iter ι)(hg:AK X C.z tg T γ)(hb:sR X C body ψ)(hs:∀x,aad iter X.env x=pure x:=by intro _;rfl):
  PB X C (.For tg iter body [] pos) (λE β=>ι β λds k β1=>hold k false/\C9 γ ψ E ds k β1) :=
 ⟨λE E' β l q=>hi.mono _ _ _ (λds k β1 q=>{q.1,q.2.mono hg.mono hb.mono l}) q,(BH hp hc hi.pi hg.pg hb.ps hs).pre λD σ H SD=>by
  obtain⟨Z,E,β,⟨own,s,n⟩,q,ok⟩:=SD;refine{β,own,s,hi.mono _ _ _ (λds k β1 i5 J H1 ay o1 it=>?_) q};obtain⟨hk,I,i0,i1,i2⟩:=i5;have n':=n.trans o1.sn;have ig:∀b,Wn ay b\/H1 b=none->av C.z (Wn ay) k b\/H1 b=none:=λb z=>by
   cases k with
   |own=>exact z.imp .inl id
   |dt=>exact z.imp .inl id
   |old=>exact z
   |bor=>exact hk.elim
  have LN:=it (λb=>av C.z (Wn ay) k b\/H1 b=none) λb z=>z;refine{λi m σ H=>i<=ds.length/\m=ds.length-i/\∃β,SB X C (H1,Wn ay) σ H β/\I i β,{_,Zn _,rfl,β1,{(ay),o1.sq,Sn.refl},i0},?_};rintro i m σ2 H2 ⟨hi,rfl,β2,⟨bH,s2,n2⟩,hl⟩;obtain⟨dJ,se⟩:=LN i H2 (n2.k.mono ig)
  by_cases dE:i<ds.length
  ·right
   have hd:ds[i]?=some ds[i]:=Y5 dE;obtain⟨go,yl⟩:=dJ _ hd;refine{go,λσ' H'=>∃β,SB X C (H1,Wn ay) σ' H' β/\I (i+1) β,λσ' H' Sz=>by obtain⟨β',vR,zR⟩:=Sz;exact{_,by lia,dE,rfl,β',vR,zR},λx H3 y=>?_}
   obtain⟨s3,r3⟩:=yl x H3 y;refine{bH,β2,_,_,s2.same s3,qZ (C:=C.z) (aC.aY (λb z=>GU (C:=C) n2 b (z.elim id λz=>z.elim)) r3),hg.mono _ _ _ _ _ (λβ4 q σ4 v_ s4 w4 _=>?_) (i1 i _ β2 hd hl)};refine{(H1,Wn ay),_,β4,{v_,s4,jH (n2.same s3) w4},q,{λσ5 H5 β5 yU q5=>{(β5),yU,q5},λσ5 H5 β5 d5 v5 yU r5 q5=>?_,λσ5 H5 β5 yU q5=>?_,λσ5 H5 β5 yU q5=>{(β5),yU,q5}}}
   ·obtain⟨rM,s5,n5⟩:=yU;exact ok.rt _ _ _ _ _ {rM,s5,n'.trans n5} r5 q5
   ·obtain⟨rM,s5,n5⟩:=yU;exact ok.nx _ _ _ {rM,s5,n'.trans n5} q5
  ·left
   have e:i=ds.length:=by lia
   subst e;exact{se (Y8 _),ok.nx _ _ _ {bH,s2,n'.trans n2} (i2 β2 hl)}⟩
def A4 (τ:a_)(ψ:yC):yC:=λE β=>∃V:Nat->bb->Prop,(∃m,V m β)/\∀m β,V m β->τ β λt β1=>if t=true then ψ {nx:=λβ'=>∃m',m'<m/\V m' β',rt:=E.rt,bk:=E.nx,ct:=λβ'=>∃m',m'<m/\V m' β'} β1 else E.nx β1
def BR (hp:PassesOwn (model X.prog X.w) X.A X.env X.xe)(hc:vw X C.z p c τ)(hb:sR X C body ψ):PB X C (.While c body [] pos) (A4 τ ψ) :=
 ⟨λE E' β l ⟨V,h0,h⟩=>⟨V,h0,λm β v=>hc.mono _ _ _ (λt β1 q=>by
   cases t
   ·exact l.nx _ q
   ·exact hb.mono {nx:=λβ'=>∃m',m'<m/\V m' β',rt:=E.rt,bk:=E.nx,ct:=λβ'=>∃m',m'<m/\V m' β'} {nx:=λβ'=>∃m',m'<m/\V m' β',rt:=E'.rt,bk:=E'.nx,ct:=λβ'=>∃m',m'<m/\V m' β'} β1 {λ_ q=>q,l.rt,l.nx,λ_ q=>q} q) (h m β v)⟩,(BF hp hc.pt hb.ps).pre λD σ H Kv=>by
  obtain⟨Z,E,β,sb,⟨V,⟨m0,v0⟩,h⟩,ok⟩:=Kv;refine{λm σ H=>∃β,SB X C Z σ H β/\V m β,{(m0),β,sb,v0},λm σ H l5=>?_};obtain⟨β,⟨own,s,n⟩,v⟩:=l5;refine kA.of hc s (h m β v) λt β1 H1 ay q o1=>?_;cases t
  ·exact ok.nx _ _ _ (o1.sb n) q
  ·exact{λσ' H'=>∃β',SB X C Z σ' H' β'/\∃m',m'<m/\V m' β',λσ' H' Su=>by obtain⟨β',vR,m',hm,v'⟩:=Su;exact{(m'),hm,β',vR,v'},Z,_,β1,o1.sb n,q,λσ' H' β' vR q'=>{(β'),vR,q'},ok.rt,ok.nx,λσ' H' β' vR q'=>{(β'),vR,q'}}⟩
end
def startB (N:List Str)(ds:List D):bb:=ds.map (λd=>some (.val false d))++Zr (N.length-ds.length) none
def kJ (N:List Str)(ok:List Int->Prop)(ds:List D):bb:=some (.hand ok)::(ds.map (λd=>some (.val false d))++Zr (N.length-(ds.length+1)) none)
section
variable {P:Y7}{w:Zj}{K:PySem.W.Frag}{mg:Str->Option Y1}{base:Heap}
def fY {i n:Nat}{b:B}(h:(Zr n (none:Option B))[i]?=some (some b)):False:=by
 rw[List.getElem?_replicate]at h
 split at h <;> cases h
def fU {ds:List D}{n i:Nat}{b:B}(h:(ds.map (λd=>some (B.val false d))++Zr n none)[i]?=some (some b)):∃d,ds[i]?=some d/\b=.val false d:=by
 by_cases hi:i<ds.length
 ·rw[aaa (by simpa using hi),Zg]at h
  cases q:ds[i]? with
  |none=>rw[q]at h;cases h
  |some d=>rw[q]at h;cases h;exact{(d),rfl,rfl}
 ·rw[ZY (by simpa using hi)]at h
  exact(fY h).elim
def fT {N:List Str}{vs:List V}{i:Nat}{v:V}(h:vs[i]?=some v):(start N vs)[i]?=some (some v):=by
 unfold start;rw[aaa (by simpa using (Y_.mp h).1),Zg,h]
 rfl
def tq {N:List Str}{vs:List V}{ds:List D}{H:Hp}{ro:Bool}(r:ai P w (λ_=>False) H ds vs):bj P w {H,λ_=>False,ro,λ_=>False} (start N vs) H (startB N ds) (λ_=>[]):=by
 refine{?_,λi y d h=>?_,λi d h=>?_,λi ok h=>?_,λi a h=>(nomatch h),λi j a h=>(nomatch h),λi=>Z5,Kp.refl,λ_ z=>z,λi y d h=>by obtain⟨d',e,e'⟩:=fU h;cases e'}
 ·unfold startB start;simp[r.length]
 ·obtain⟨d',e,e'⟩:=fU h;cases e';obtain⟨v,e1,e2⟩:=ai.get r e;exact{v,fT e1,aC.aY (λa z=>z.elim (λSs=>by obtain⟨_,q⟩:=Ss;exact(nomatch q)) λz=>z) e2}
 ·obtain⟨d',e,e'⟩:=fU h;cases e'
 ·obtain⟨d',e,e'⟩:=fU h;cases e'
def ng {x qual:Str}{st:Stmt}{f:Addr}{fd:ZL}{N ps:List Str}{k:Nat}{F:FD}{ro:Bool}(G:AL K x qual st f fd)(S:aJ N ps (ao st))(len:∀ds R,F ds R->ds.length=ps.length)
  (iA:∀(bQ:Y1) (A:Z0) (outer:List Env) (s:Y4) (H:Hp) (E:XK),c_ k (A.deeper (ace qual (ao st) s.heap.objs.size f bQ)) ->
   ∃ψ,sR (ly bI P w K mg base N qual (ao st) f bQ A outer s H E).tV {H,λ_=>False,ro,λ_=>False} (d3 st) ψ/\∀ds R,F ds R->ψ (eN R) (startB N ds)) :
  aE P w K mg base bI (k+1) f fd ps (cY P w ro F):=by
 refine G.ok S (λvs H Q E h=>?_) (λbQ A outer s H vs Q E hr h=>?_)
 ·obtain⟨ds,r,h⟩:=h;rw[r.length];exact len ds _ h
 ·obtain⟨ds,r,h⟩:=h;obtain⟨ψ,hb,hF⟩:=iA bQ A outer s H E hr;refine{_,hb.ps,(H,Wn λ_=>[]),_,startB N ds,{λ_=>[],tq r,Sn.refl},hF ds _ h,λσ H' β sb q=>?_,λσ H' β d v sb rr q=>?_,λ_ _ _ _ z=>z.elim,λ_ _ _ _ z=>z.elim}
  ·obtain⟨own,s',n'⟩:=sb;exact q _ H' (λb o e=>s'.kp.out b o e (λz=>z)) (eR (W:=λ_=>False) rfl rfl)
  ·obtain⟨own,s',n'⟩:=sb;exact q _ H' (λb o e=>s'.kp.out b o e (λz=>z)) rr
def yP {N:List Str}{ok:List Int->Prop}{h:Addr}{ns:List Int}{vs:List V}{ds:List D}{H:Hp}{ro:Bool}(hh:H h=some (.lst (ns.map V.int)))(ho:ok ns)(r:ai P w (λa=>a=h) H ds vs):
  bj P w {H,(·=h),ro,λ_=>False} (start N (.ref h::vs)) H (kJ N ok ds) (λi=>if i=0 then [h] else []):=by
 have oX:∀{i:Nat} {a:Addr},a∈(if i=0 then [h] else ([]:List Addr))->i=0/\a=h:=λ{i a} q=>by
  by_cases e:i=0
  ·rw[if_pos e]at q;exact{e,by simpa using q}
  ·rw[if_neg e]at q;cases q
 have su:∀{i:Nat} {b:B},(kJ N ok ds)[i]?=some (some b)->(i=0/\b=.hand ok)\/∃j d,i=j+1/\ds[j]?=some d/\b=.val false d:=λ{i b} q=>by
  unfold kJ at q;cases i with
  |zero=>simp at q;exact .inl {(rfl),q.symm}
  |succ i =>
   rw[abK]at q;obtain⟨d,e,e'⟩:=fU q;exact .inr {(i),d,rfl,e,e'}
 refine{?_,λi y d q=>?_,λi d q=>?_,λi zk q=>?_,λi a q=>?_,λi j a h1 h2=>?_,λi=>?_,Kp.refl,λ_ z=>z,λi y d q=>(su q).elim (λGb=>by obtain⟨_,e⟩:=Gb;cases e) (λGa=>by obtain⟨j,d',_,_,e'⟩:=Ga;cases e')}
 ·unfold kJ start;simp[r.length]
 ·rcases su q with⟨_,e⟩|⟨j,d',rfl,e,e'⟩
  ·cases e
  ·cases e';obtain⟨v,e1,e2⟩:=ai.get r e;exact{v,fT (by simpa using e1),aC.aY (λa z=>z.elim (λSr=>by obtain⟨j,q⟩:=Sr;exact(oX q).2) λz=>z.elim) e2}
 ·rcases su q with⟨_,e⟩|⟨j,d',_,_,e'⟩
  ·cases e
  ·cases e'
 ·rcases su q with⟨e0,e⟩|⟨j,d',_,_,e'⟩
  ·cases e;subst e0;exact{h,ns,fT rfl,hh,ho,rfl,.inr rfl}
  ·cases e'
 ·obtain⟨_,rfl⟩:=oX q;exact{by rw[hh];exact λz=>(nomatch z),λxs z=>(by rw[hh]at z;cases z),.inr rfl,λz=>z}
 ·rw[(oX h1).1,(oX h2).1]
 ·by_cases e:i=0
  ·simp[e]
  ·simp[e]
def M0 {x qual:Str}{st:Stmt}{f:Addr}{fd:ZL}{N ps:List Str}{k:Nat}{F:FD}{ok:List Int->Prop}{ro:Bool}(G:AL K x qual st f fd)(S:aJ N ps (ao st))(len:∀ds R,F ds R->ds.length+1=ps.length)
  (iA:∀(bQ:Y1) (A:Z0) (outer:List Env) (s:Y4) (H:Hp) (E:XK) (IO:Addr->Prop),c_ k (A.deeper (ace qual (ao st) s.heap.objs.size f bQ)) ->
   ∃ψ,sR (ly bI P w K mg base N qual (ao st) f bQ A outer s H E).tV {H,IO,ro,λ_=>False} (d3 st) ψ/\∀ds R,F ds R->ψ (eH ok R) (kJ N ok ds)) :
  aE P w K mg base bI (k+1) f fd ps (oQ P w ok ro F):=by
 refine G.ok S (λvs H Q E h=>?_) (λbQ A outer s H vs Q E hr h=>?_)
 ·obtain⟨h,vs',ds,ns,rfl,hh,ho,r,q⟩:=h;rw[Zb,r.length];exact len ds _ q
 ·obtain⟨h,vs',ds,ns,rfl,hh,ho,r,q⟩:=h;obtain⟨ψ,hb,hF⟩:=iA bQ A outer s H E (·=h) hr;refine{_,hb.ps,(H,_),_,kJ N ok ds,{_,yP hh ho r,Sn.refl},hF ds _ q,λσ H' β sb z=>z.elim,λσ H' β d v sb rr wF=>?_,λ_ _ _ _ z=>z.elim,λ_ _ _ _ z=>z.elim};obtain⟨b0,q⟩:=wF;obtain⟨own,s',n'⟩:=sb;obtain⟨a,sU,g1,g2,g3,g4,g5⟩:=s'.nN 0 ok b0;have ea:a=h:=g5.elim (λz=>(z h rfl).elim) λz=>z;subst ea;exact q v H' sU s'.kp s'.fS g2 g3 rr
end
end L2.Q
namespace L2
open PySem PySem.Spec PySem.SeqAt PyProof.Rows
def yD.pre {X:Cx}{ifs:List Expr}{t t':TT}(h:yD X ifs t)(k:∀σ H Q,t' σ H Q->t σ H Q):yD X ifs t':=λpins s σ H Q I q=>h pins s σ H Q I (k σ H Q q)
section
variable {X:Cx}{e:Expr}{g:abD}{gs:List abD}{scope:abB}{N':List Str}{lk:List (Option Nat)}{tg:Addr->TG}{tt:Addr->TT}{wi:TI}
def lZ {fP:Sem Y1}{o:HO}{after:Y1->Env->Sem Fin->Sem Fin}{ta:Addr->oF}(L:Links X scope N' lk)(hc:X.calm=true)(hA:oG X fP o)
  (F:∀acc env,jb e 0 g acc env (after acc env))
  (HE:∀a cl C s H ex,PG (aK X scope N' cl C s H ex) g.target (tg a)/\yD (aK X scope N' cl C s H ex) g.ifs (tt a)/\sS (aK X scope N' cl C s H ex) (after (.ref a) (aK X scope N' cl C s H ex).env) (ta a))
  {cl:List (Str×Addr)} (uA:∀x,(x,Z3)∈scope.names->∃c,cl.lookup x=some c) (j7:∀x c,cl.lookup x=some c->X.env.cells.lookup x=some c)
  {pins:List (Addr×Obj)} {σ:St} {s:Y4} {Q:V->Hp->Prop} {HB:Y1} {E:Y1->Y4->Prop} {RR:Y1->Addr->Result->Y4->Prop}
  (h:Qi X pins σ g.target (λJ H1=>∀a,H1 a=none->gO J (tg a) (tt a) (ta a) (λ_ H'=>Q (.ref a) H') (fc lk σ) (upd H1 a o)) HB s)
  (hR:∀a H' C s',Inv X pins σ H' s'->g_ X pins H' C->(∃m,s'.heap.Ns C m)->Q (.ref a) H'->RR (.ref a) C (.ok .next) s') :
  Zy (model X.prog X.w) X.A fP (λacc s₃=>Zy (model X.prog X.w) X.A (newFunctionEnv scope X.env.globals cl [] X.env.qual none .none (some X.env)) (λO4 s₄ =>
   aco (model X.prog X.w) X.A (.compStart e 0 HB acc {O4 with scope:=relabel scope X.env}) (RR acc O4.locals) s₄) E s₃) E s:=by
 obtain⟨it,fp,tn,J,H2,e1,I2,T,gP,f2,hl⟩:=h;subst e1;refine hA.ok pins s σ H2 _ E I2 λa s3 ha hn hk I3=>?_;refine wpAny_newFunctionEnv L.wd (by intro y hy;simp at hy) (λh₁ KL Kt=>?_) L.kind
 have Ol:∀b∈fp,∃o,s3.heap.get? b=some o:=λb hb=>by
  obtain⟨ob,q,_⟩:=T.obj _ _ gP b hb;exact{ob,hk b ob q}
 have Xn:∀b∈fp,b≠a:=λb hb=>by
  obtain⟨ob,q,_⟩:=T.obj _ _ gP b hb;exact ZQ (ZD (Zo q) ha)
 have f3:∀b∈fp,g_ X pins (upd H2 a o) b:=λb hb=>{by rw[au (Xn b hb)];exact(f2 b hb).1,(f2 b hb).2}
 have S8:∀b ob,s3.heap.get? b=some ob->h₁.get? b=some ob:=λb ob q=>Kt.extBut b ob (ZQ (Zo q)) (Ze _ q);have PV:h₁.Ns s3.heap.objs.size (λ_=>none):=KL;have I4:=CH (t':=s3.toks+([]:List (Str×Y1)).length) I3 L f3 Ol uA j7 PV S8;obtain⟨g1,g2,g3⟩:=HE a cl s3.heap.objs.size s3 (upd H2 a o) fp;have f4:∀b∈fp,g_ (aK X scope N' cl s3.heap.objs.size s3 (upd H2 a o) fp) [] (upd H2 a o) b:=λb hb =>
  {(f3 b hb).1,(I4.ok.K4 b hb).1,I4.ok.uP b hb,.inl hb,(I4.ok.K4 b hb).2,λp hp=>absurd (show p∈([]:List (Addr×Obj)) from hp) (by simp)}
 have UG:tn 0 h₁:=T.keep 0 _ _ gP λb hb ob q=>S8 b ob (hk b ob q);refine abN (ou (X:=aK X scope N' cl s3.heap.objs.size s3 (upd H2 a o) fp) rfl hc (F (.ref a) _) g1 g2 g3 T I4 UG f4 (hl a hn)) λr s' hr=>?_;obtain⟨rfl,σ',H',J',q⟩:=hr;have I5:Inv X pins σ H' s':=CI (C:=s3.heap.objs.size) (h'':=s'.heap) I3 f3 J' (.refl ..);refine hR a H' s3.heap.objs.size s' I5 (I3.C8 (Y8 _) J'.free) ?_ q;obtain⟨m,hm,_⟩:=J'.loc;exact{(m),hm}
def jP {fP:Sem Y1}{o:HO}{after:Y1->Env->Sem Fin->Sem Fin}{ta:Addr->oF}{pos:Pos}(L:Links X scope N' lk)(hc:X.calm=true)(hA:oG X fP o)
  (KR:eval e X.env=comprehension e scope X.env pos fP false (eval g.iter X.env)) (LU:clausesOf e=g::gs)
  (F:∀acc env,jb e 0 g acc env (after acc env)) (hi:PI X g.target g.iter wi)
  (HE:∀a cl C s H ex,PG (aK X scope N' cl C s H ex) g.target (tg a)/\yD (aK X scope N' cl C s H ex) g.ifs (tt a)/\sS (aK X scope N' cl C s H ex) (after (.ref a) (aK X scope N' cl C s H ex).env) (ta a))
  (hs:∀x,aad g.iter X.env x=pure x) :
  PE X e (λσ H Q=>wi σ H λJ H1=>∀a,H1 a=none->gO J (tg a) (tt a) (ta a) (λ_ H'=>Q (.ref a) H') (fc lk σ) (upd H1 a o)):=by
 intro pins s σ H Q I h;rw[KR];obtain⟨cl,CZ,uA,j7⟩:=i_ (env:=X.env) (scope:=scope) λx hx=>I.ok.has x (L.free x hx);refine wpAny_comprehension_free (use:=none) LU hs CZ L.kind L.names (bR (hi pins s σ H _ I h) λv s1 h1=>bR h1 λHB s2 h2=>?_);refine lZ (RR:=λacc C=>compPost (model X.prog X.w) X.A X.xe none (EP X pins σ Q) acc C) L hc hA F HE uA j7 h2 λa H' C s' I' f i5 q=>?_;obtain⟨m,hm⟩:=i5;exact{m,hm,λh' zO=>{.ref a,H',I'.sameBut f zO,rfl,q}}
def tM {fP:Sem Y1}{o:HO}{after:Y1->Env->Sem Fin->Sem Fin}{ta:Addr->oF}{pos pos' tu:Pos}{y:Str}{i:Nat}(L:Links X scope N' lk)(hc:X.calm=true)(hA:oG X fP o)
  (o8:aaw e (some (.Name y pos')) tu.line X.env=pure true)
  (KR:evalThenUse e X.env (assign (.Name y pos') X.env)=(do let _ <- comprehension e scope X.env pos fP false (eval g.iter X.env) (some (assign (.Name y pos') X.env));pure ())) (LU:clausesOf e=g::gs)
  (hN:X.N.Nodup) (hy:X.N[i]?=some y) (hx:Loc X.env.scope y) (hf:X.fn y=true\/X.env.scope.names.lookup y=some .local)
  (F:∀acc env,jb e 0 g acc env (after acc env)) (hi:PI X g.target g.iter wi)
  (HE:∀a cl C s H ex,PG (aK X scope N' cl C s H ex) g.target (tg a)/\yD (aK X scope N' cl C s H ex) g.ifs (tt a)/\sS (aK X scope N' cl C s H ex) (after (.ref a) (aK X scope N' cl C s H ex).env) (ta a))
  (hs:∀x,aad g.iter X.env x=pure x) :
  PS X (.Assign [.Name y pos'] e tu) (λD σ H=>wi σ H λJ H1=>∀a,H1 a=none->gO J (tg a) (tt a) (ta a) (λ_ H'=>D.nx (σ.set i (some (.ref a))) H') (fc lk σ) (upd H1 a o)):=by
 intro pins s σ H D I h;rw[exec_Assign_Name_used _ _ _ _ o8,KR];refine Y2 (abe (Y2 (Y2 ?_)));obtain⟨cl,CZ,uA,j7⟩:=i_ (env:=X.env) (scope:=scope) λx hx=>I.ok.has x (L.free x hx);refine bR (wpAny_comprehension_free (use:=some (assign (.Name y pos') X.env)) (Q:=λ_ s'=>SP X pins D .next s') LU hs CZ L.kind L.names (bR (hi pins s σ H _ I h) λv s1 h1=>bR h1 λHB s2 h2=>?_)) λ_ s' q=>Zi (Zi q)
 refine lZ (Q:=λv H'=>D.nx (σ.set i (some v)) H') (RR:=λacc C=>compPost (model X.prog X.w) X.A X.xe (some (assign (.Name y pos') X.env)) (λ_ s'=>SP X pins D .next s') acc C) L hc hA F HE uA j7 h2 λa H' C s' I' f l5 q=>?_
 obtain⟨m,hm⟩:=l5;show Zy _ _ (assign (.Name y pos') X.env (.ref a)) _ _ s';have YO:∃o,s'.heap.get? C=some o:=by obtain⟨o,_,_,ho,_⟩:=hm;exact{(o),ho}
 refine wpAny_assign_Name (pH I' hN hy hx (v:=.ref a) (u:=.ref a) rfl (λs4 I4 k4=>?_) hf);obtain⟨a4,V8,Xp⟩:=k4;have vg:C≠a4:=by
  rcases Xp with z|z
  ·rw[z];exact f.2.1
  ·exact(f.2.2.2.2.1 y a4 z).symm
 exact{m,hm.at' (λo e=>(V8.2 C vg).trans e),λh' zO=>{_,H',I4.sameBut f zO,q}}
end
end L2
namespace L2.Q
open PySem PySem.Spec PySem.SeqAt PyProof.Rows
noncomputable def U_:Option B->Option B
 |some (.own d)=>some (.val false d)
 |some (.shl _ d)=>some (.val false d)
 |b=>b
def b9 (lk:List (Option Nat))(β:bb):bb:=lk.map λl=>match l with|some j=>(match β[j]? with|some b=>U_ b|none=>none)|none=>none
def PM:Option (Option B)->Bool
 |some (some (.hand _))=>true
 |_=>false
def df (lk:List (Option Nat))(β:bb)(own:Nat->List Addr)(i:Nat):List Addr:=match lk[i]? with
 |some (some j)=>if PM β[j]?=true then own j else []
 |_=>[]
def gg:bb->bb->Prop
 |[],_=>True
 |some (.hand ok)::a,c=>c.head?=some (some (.hand ok))/\gg a c.tail
 |_::a,c=>gg a c.tail
theorem gg.get:∀{a c:bb} {i:Nat} {ok:List Int->Prop},gg a c->a[i]?=some (some (.hand ok))->c[i]?=some (some (.hand ok))
 |[],_,_,_,_,e=>by simp at e
 |x::a,c,0,ok,h,e=>by
  simp at e;subst e;rw[<- List.head?_eq_getElem?];exact h.1
 |x::a,c,i+1,ok,h,e=>by
  have h':gg a c.tail:=by
   cases x with
   |none=>exact h
   |some x=>cases x <;> first|exact h|exact h.2
  have:=gg.get (i:=i) h' (by simpa using e)
  rwa [List.getElem?_tail]at this
section
variable {P:Y7}{w:Zj}{C:Cfg}{σ σ':St}{H H' H1:Hp}{β βi:bb}{own rK:Nat->List Addr}{lk:List (Option Nat)}{a:Addr}
def cG {i:Nat}{c:Addr}(h:c∈df lk β own i):∃j,lk[i]?=some (some j)/\PM β[j]?=true/\c∈own j:=by
 unfold df at h
 split at h
 ·next j e =>
  by_cases q:PM β[j]?=true
  ·rw[if_pos q]at h;exact{(j),e,q,h}
  ·rw[if_neg q]at h;cases h
 ·cases h
def gd:∀c,Wn (df lk β own) c->Wn own c:=λc ⟨i,h⟩=>let ⟨j,_,_,h⟩:=cG h;{(j),h}
def d9 {i j:Nat}{v:V}(h:lk[i]?=some (some j))(e:σ[j]?=some (some v)):(fc lk σ)[i]?=some (some v):=by
 unfold fc;rw[Zg,h];simp only[ab7];rw[e]
def dM {i:Nat}{b:B}(h:(b9 lk β)[i]?=some (some b)):∃j b',lk[i]?=some (some j)/\β[j]?=some (some b')/\U_ (some b')=some b:=by
 unfold b9 at h;rw[Zg]at h;cases q:lk[i]? with
 |none=>rw[q]at h;cases h
 |some l =>
  rw[q]at h;cases l with
  |none=>cases h
  |some j =>
   simp only[ab7]at h;cases q2:β[j]? with
   |none=>rw[q2]at h;cases h
   |some b2 =>
    rw[q2]at h;simp only[Option.some.injEq]at h;cases b2 with
    |none=>cases h
    |some b'=>exact{(j),b',rfl,q2,h}
def bj.enter (s:bj P w C σ H β own)(ha:H a=none)(inj:∀(i i' j:Nat),lk[i]?=some (some j)->lk[i']?=some (some j)->i=i'):
  bj P w (C.u λc=>c=a) (fc lk σ) (upd H a (.lst [])) (b9 lk β) (df lk β own):=by
 have sm:aB H (upd H a (.lst [])):=aB.new ha;have na:∀{i c},c∈own i->c≠a:=λ{i c} hc z=>(s.dm i c hc).1 (by rw[z];exact ha)
 have gr:∀k,∀c,eD (C.u λc=>c=a) (Wn (df lk β own)) k c->eD C (Wn own) k c\/H c=none:=λk c z=>by
  rcases z with z|z
  ·exact .inl (.inl (mB gd k c z))
  ·exact .inr (by rw[z];exact ha)
 refine⟨by unfold b9 fc;simp,λi y d e=>?_,λi d e=>?_,λi ok e=>?_,λi c h=>?_,λi i' c h1 h2=>?_,λi=>?_,s.kp.trans sm.kp,λc z e=>s.fS c z (sm.free e),λi y d e=>by
  obtain⟨j,b',e1,e2,e3⟩:=dM e;cases b' <;> cases e3⟩
 ·obtain⟨j,b',e1,e2,e3⟩:=dM e;cases b' with
  |val y' d' =>
   cases e3;obtain⟨v,h1,h2⟩:=s.val j y d e2;exact{v,d9 e1 h1,(aC.grow (gr _) h2).same sm}
  |own d' =>
   cases e3;obtain⟨v,h1,h2,h3⟩:=s.ow j d e2;refine{v,d9 e1 h1,aC.same sm (h2.rep λc hc z=>?_)};rcases z with z|z
   ·obtain⟨i',fe⟩:=z;obtain⟨j',q1,q2,q3⟩:=cG fe;have:=s.jm j j' c hc q3;subst this;rw[e2]at q2;cases q2
   ·exact na hc z
  |hand ok=>cases e3
  |shl y' d' =>
   cases e3;obtain⟨v,h1,h2,h3⟩:=s.shl j y' d e2;refine{v,d9 e1 h1,aC.same sm (h2.rep (λc hc z=>?_) λds vs r=>ai.grow (λc z=>?_) r)}
   ·rcases z with z|z
    ·obtain⟨i',fe⟩:=z;obtain⟨j',q1,q2,q3⟩:=cG fe;have:=s.jm j j' c hc q3;subst this;rw[e2]at q2;cases q2
    ·exact na hc z
   ·rcases gr _ c z with z|z
    ·refine .inl ?_;rcases z with z|z
     ·exact .inl (.inl z)
     ·exact .inr z
    ·exact .inr z
 ·obtain⟨j,b',e1,e2,e3⟩:=dM e;cases b' <;> cases e3
 ·obtain⟨j,b',e1,e2,e3⟩:=dM e;cases b' with
  |val y' d'=>cases e3
  |own d'=>cases e3
  |shl y d=>cases e3
  |hand zk =>
   cases e3;obtain⟨h,ns,h1,h2,h3,h4,h5⟩:=s.nN j ok e2;refine{h,ns,d9 e1 h1,sm _ _ h2,h3,?_,h5};unfold df;rw[e1];simp only;rw[e2];exact(if_pos rfl).trans h4
 ·obtain⟨j,q1,q2,q3⟩:=cG h;obtain⟨g1,g2,g3,g4⟩:=s.dm j c q3;rw[au (na q3)];exact{g1,g2,g3,na q3}
 ·obtain⟨j,q1,q2,q3⟩:=cG h1;obtain⟨j',UP,Yu,Wf⟩:=cG h2;have:=s.jm j j' c q3 Wf;subst this;exact inj _ _ _ q1 UP
 ·unfold df
  split
  ·next j e =>
   split
   ·exact s.jq j
   ·exact Z5
  ·exact Z5
def bj.Mz {o:HO}(s:bj P w (C.u λc=>c=a) σ H β own){oa:HO}(ha:H a=some oa)(ht:∀xs,oa≠.tup xs)(h0:C.H0 a=none):bj P w (C.u λc=>c=a) σ (upd H a o) β own:=by
 have k:Kp (·=a) H (upd H a o):=k7 ha ht;have na:∀{i c},c∈own i->c≠a:=λ{i c} hc=>(s.dm i c hc).2.2.2;refine⟨s.len,λi y d e=>let ⟨v,h1,h2⟩:=s.val i y d e;{v,h1,h2.keep (k.mono λc z=>.inr z)},λi d e=>let ⟨v,h1,h2,h3⟩:=s.ow i d e;{v,h1,h2.keep k.tup (λc hc oc ec=>k.out c oc ec (na hc)),h3},
  λi ok e=>?_,λi c h=>?_,s.jm,s.jq,{λc oc z n=>k.out c oc (s.kp.out c oc z n) λq=>?_,λc xs z=>k.tup c xs (s.kp.tup c xs z)},λc z=>?_,λi y d e=>let ⟨v,h1,h2,h3⟩:=s.shl i y d e;{v,h1,h2.map (λc hc oc ec=>k.out c oc ec (na hc)) (λ_ _ r=>r.keep (k.mono λc z=>.inr z)),h3}⟩
 ·obtain⟨h,ns,h1,h2,h3,h4,h5⟩:=s.nN i ok e;exact{h,ns,h1,k.out h _ h2 (na (by rw[h4];simp)),h3,h4,h5}
 ·rw[au (na h)];exact s.dm i c h
 ·rw[q,h0]at z;cases z
 ·by_cases q:c=a
  ·rw[q,ak];exact λz=>(nomatch z)
  ·rw[au q];exact s.fS c z
def bj.leave (s:bj P w C σ H1 β own)(i:bj P w (C.u λc=>c=a) σ' H' βi rK)(n:Sn (H1,Wn (df lk β own)) H' (Wn rK))(le:∀c,Wn rK c->Wn (df lk β own) c)
  (hh:gg (b9 lk β) βi) (hσ:∀(j:Nat) (ok:List Int->Prop) (i:Nat),β[j]?=some (some (B.hand ok))->lk[i]?=some (some j)->σ'[i]?=(fc lk σ)[i]?):bj P w C σ H' β own:=by
 have off:∀{j c},c∈own j->¬ Wn (df lk β own) c->∀o,H1 c=some o->H' c=some o:=λ{j c} hc nw o e=>n.k.out c o e λz=>z.elim nw λz=>(s.dm j c hc).1 z;have NP:∀{j c},c∈own j->PM β[j]?=false->¬ Wn (df lk β own) c:=λ{j c} hc q nM=>by
  obtain⟨i',fe⟩:=nM;obtain⟨j',q1,q2,q3⟩:=cG fe;have:=s.jm j j' c hc q3;subst this;rw[q]at q2;cases q2
 have hN:∀(j:Nat) (ok:List Int->Prop),β[j]?=some (some (B.hand ok))->∃a ns,σ[j]?=some (some (V.ref a))/\H' a=some (.lst (ns.map V.int))/\ok ns/\own j=[a]/\((∀b,¬ C.IO b)\/C.IO a):=λj ok e=>by
  obtain⟨h,ns,h1,h2,h3,h4,h5⟩:=s.nN j ok e
  by_cases q:Wn (df lk β own) h
  ·obtain⟨i',fe⟩:=q;obtain⟨j',q1,q2,q3⟩:=cG fe;have:=s.jm j j' h (by rw[h4];simp) q3
   subst this;have eB:(b9 lk β)[i']?=some (some (.hand ok)):=by
    unfold b9;rw[Zg,q1];simp only[ab7];rw[e];rfl
   obtain⟨h',sU,g1,g2,g3,g4,g5⟩:=i.nN i' ok (hh.get eB);rw[hσ j ok i' e q1,d9 q1 h1]at g1;cases g1;exact{(h),sU,h1,g2,g3,h4,h5}
  ·exact{h,ns,h1,off (by rw[h4];simp) q _ h2,h3,h4,h5}
 refine⟨s.len,λj y d e=>?_,λj d e=>?_,hN,λj c hc=>?_,s.jm,s.jq,i.kp,i.fS,λj y d e=>by
  obtain⟨v,h1,h2,h3⟩:=s.shl j y d e;refine{v,h1,h2.map (λc hc o eo=>off hc (NP hc (by rw[e];rfl)) o eo) (λds vs r=>?_),h3}
  have g:ai P w (λc=>eD C (Wn own) (yk true) c\/H1 c=none) H1 ds vs:=ai.grow (λc z=>z) r;refine ai.aY (λc z=>.inl z) (g.keep (n.k.mono λc z=>z.imp (λz=>?_) id));exact .inl (.inl (gd c z))⟩
 ·obtain⟨v,h1,h2⟩:=s.val j y d e;have g:aC P w (λc=>eD C (Wn own) (yk y) c\/H1 c=none) H1 d v:=aC.grow (λc z=>z) h2;refine{v,h1,aC.aY (λc z=>.inl z) (g.keep (n.k.mono λc z=>z.imp (λz=>?_) id))};cases y with
  |true=>exact .inl (.inl (gd c z))
  |false=>exact .inl (gd c z)
 ·obtain⟨v,h1,h2,h3⟩:=s.ow j d e;exact{v,h1,h2.keep n.k.tup (λc hc o eo=>off hc (NP hc (by rw[e];rfl)) o eo),h3}
 ·obtain⟨g1,g2,g3,g4⟩:=s.dm j c hc
  by_cases q:Wn (df lk β own) c
  ·obtain⟨i',fe⟩:=q;obtain⟨j',q1,q2,q3⟩:=cG fe;have:=s.jm j j' c hc q3;subst this;cases e:β[j]? with
   |none=>rw[e]at q2;cases q2
   |some b =>
    rw[e]at q2;cases b with
    |none=>cases q2
    |some b =>
     cases b with
     |val y d=>cases q2
     |own d=>cases q2
     |shl y d=>cases q2
     |hand ok =>
      obtain⟨h,ns,k1,k2,k3,k4,k5⟩:=hN j ok e;rw[k4]at hc;rw[Zc.mp hc]at g3 g4 ⊢
      rw[k2];exact{λz=>(nomatch z),λxs z=>(by cases z),g3,g4}
  ·cases e:H1 c with
   |none=>exact absurd e g1
   |some o=>rw[off hc q o e];exact{λz=>(nomatch z),λxs z=>g2 xs (by rw[e];exact z),g3,g4}
end
def Mi:a_:=λβ R=>R true β
def BK {X:Cx}{C:Cfg}:yD X [] (kA X C true Mi):=ET.pre λσ H Q ⟨β,own,s,q⟩=>q H own (Out.refl s _)
def BJ {X:Cx}{C:Cfg}{p:Bool}{c:Expr}{τ:a_}(h:vw X C p c τ):yD X [c] (kA X C p τ):=ES h.pt
def nu (γ:da)(τ:a_)(φ:aQ)(ds:List D)(k:Kd)(β0:bb)(K:List D->Prop):Prop:=∃I:Nat->bb->List D->Prop,I 0 β0 [] /\
 (∀i d β o,ds[i]?=some d->I i β o->γ d (sk k d) β λβ1=>τ β1 λt β2=>if t=true then φ β2 λx kx β3=>F3 kx x/\o.length<Zd/\I (i+1) β3 (o++[x]) else I (i+1) β2 o)/\∀β o,I ds.length β o->gg β0 β/\K o
def nu.mono {γ:da}{τ:a_}{φ:aQ}{ds:List D}{k:Kd}{β0:bb}{K K':List D->Prop}(h:∀o,K o->K' o)(q:nu γ τ φ ds k β0 K):nu γ τ φ ds k β0 K':=let ⟨I,h0,h1,h2⟩:=q;{I,h0,h1,λβ o z=>{(h2 β o z).1,h _ (h2 β o z).2}}
section
variable {X:Cx}{lk:List (Option Nat)}{γ:da}{τ:a_}{φ:aQ}
def de {scope:abB}{N':List Str}(L:Links X scope N' lk)(hN:N'.Nodup):∀(i i' j:Nat),lk[i]?=some (some j)->lk[i']?=some (some j)->i=i':=λi i' j h1 h2=>by
 obtain⟨x,a1,a2,_⟩:=L.link i j h1;obtain⟨y,b1,b2,_⟩:=L.link i' j h2;rw[a2]at b2;cases b2;exact(List.getElem?_inj (Y_.mp a1).1 hN).mp (a1.trans b1.symm)
def Hh (lk:List (Option Nat))(ι:cV)(γ:da)(τ:a_)(φ:aQ):aQ:=λβ R=>ι β λds k β1=>hold k false/\nu γ τ φ ds k (b9 lk β1) λo=>R (.lst o) .own β1
end
end L2.Q
namespace Zp
open PySem PySem.Spec PyProof.Rows
structure L6 (prog:Y7)(w:Zj)(i l:Addr)(vs:List Y1)(St:Nat->Heap->Prop)(Ct:Heap->Prop):Prop where
 obj:∀k h,St k h->∃o,h.get? i=some o/\∀v,o.data≠.cell v
 keep:∀k h h',St k h->(∀o,h.get? i=some o->h'.get? i=some o)->St k h'
 kept:∀h h',Ct h->(∀o,h.get? l=some o->h'.get? l=some o)->Ct h'
 item:∀(A:Z0) (E:Y1->Y4->Prop) (s:Y4) (k:Nat) (x:Y1) (Q:Y1->Y4->Prop),St k s.heap->Ct s.heap->vs[k]?=some x ->
  (∀h',St (k+1) h'->abS i s.heap h'->Q x {s with heap:=h'})->Zy (model prog w) A (aaC (.ref i)) Q E s
 done:∀(A:Z0) (E:Y1->Y4->Prop) (s:Y4) (k:Nat) (Q:Y1->Y4->Prop),A.handled=none->St k s.heap->Ct s.heap->vs[k]?=none ->
  (∀h' e,Heap.ExtBut i s.heap h'->(∃o,h'.get? e=some o/\o.cls=.type "StopIteration")->E (.ref e) {s with heap:=h'})->Zy (model prog w) A (aaC (.ref i)) Q E s
variable {prog:Y7}{w:Zj}
def Dt {i l:Addr}{vs:List Y1}:L6 prog w i l vs (λk h=>h.IsListIter i l k) (λh=>h.IsList l vs.toArray) where
 obj:=λk h ⟨o,a,_,d⟩=>{o,a,λv z=>by rw[d]at z;cases z}
 keep:=λk h h' a k1=>a.at k1
 kept:=λh h' b k2=>b.at k2
 item:=λA E s k x Q a b hx q=>wpAny_nextOf_list_item a b (by simpa using hx) λh' a' sb=>q h' a' sb
 done:=λA E s k Q hh a b hx q=>wpAny_nextOf_list_end hh a b (by simpa using hx) q
structure Apart (z TI TO i1 i2 l1 l2:Addr):Prop where
 nd:[z,TI,TO,i1,i2].Nodup
 o1:∀c∈[z,TO,i1,i2],l1≠c
 o2:∀c∈[z,TO,i1,i2],l2≠c
section
variable {A:Z0}{E:Y1->Y4->Prop}{s:Y4}{z TI TO i1 i2 l1 l2:Addr}{vs us:List Y1}{S1 S2:Nat->Heap->Prop}{C1 C2:Heap->Prop}
def AR (P:Apart z TI TO i1 i2 l1 l2)(D1:L6 prog w i1 l1 vs S1 C1)(D2:L6 prog w i2 l2 us S2 C2){k:Nat}{x y a b:Y1}{Q:Option Y1->Y4->Prop}(hz:IsZip s.heap z TI TO .none)(Tz:abx s.heap TI (.ref i1) (.ref i2))(Tx:abx s.heap TO a b)
  (h1:S1 k s.heap) (h2:S2 k s.heap) (c1:C1 s.heap) (c2:C2 s.heap) (hx:vs[k]?=some x) (hy:us[k]?=some y)
  (q:∀h',IsZip h' z TI TO (rawInt s.heap.objs.size)->abx h' TO x y->S1 (k+1) h'->S2 (k+1) h'->abx h' s.heap.objs.size x y->(∀c o,c∉[z,TO,i1,i2]->s.heap.get? c=some o->h'.get? c=some o)->Q (some (.ref s.heap.objs.size)) {s with heap:=h'}) :
  Zy (model prog w) A (acd (.ref z)) Q E s:=by
 have hT:s.TypeIs (.ref z) "zip" := {_,hz,rfl};obtain⟨nd,o1,o2⟩:=P;simp only[Zs,Y6,Z2,or_false,not_or,Z5,not_false_eq_true,and_true]at nd;obtain⟨⟨VP,Iq,Ip,LC⟩,⟨TITO,TIi1,TIi2⟩,⟨TOi1,TOi2⟩,i12⟩:=nd;have a1:=o1 z (by simp);have a2:=o1 TO (by simp);have a3:=o1 i1 (by simp);have a4:=o1 i2 (by simp)
 have b1:=o2 z (by simp);have b2:=o2 TO (by simp);have b3:=o2 i1 (by simp);have b4:=o2 i2 (by simp)
 unfold acd;apply Y2;apply abz;apply abI (name:=Str.ofString "__next__") hT F.slot_zip_next;refine abu F.slot_zip_next hT F.entry_zip_next ?_ (F.args_zip_next_1 _)
 change Zy (model prog w) _ (field (.ref z) 2 >>= _) _ _ _
 apply Y2;apply abH hz rfl (x:=.bool false) rfl
 change Zy (model prog w) _ (field (.ref z) 3 >>= _) _ _ _
 apply Y2;apply abH hz rfl (x:=.ref TI) rfl;apply Y2;apply aa3 Tz rfl
 change Zy (model prog w) _ (aaP (.ref z) >>= _) _ _ _
 apply Y2;unfold aaP;apply Y2;apply abH hz rfl (x:=.none) rfl;apply Zi;simp only[if_true];apply Y2;apply abm;apply Y2;apply abH hz rfl (x:=.ref TO) rfl;apply Y2;refine aa8 hz (by simp) λg1 y1 e1=>?_
 have z1:IsZip g1 z TI TO .ellipsis:=y1;apply Y2;simp only[List.zipIdx_cons,List.zipIdx_nil,List.forIn_cons,List.forIn_nil];apply Y2;apply Y2;apply wpAny_onRaise
 change Zy (model prog w) _ (aaC (.ref i1) >>= _) _ _ _
 apply Y2;refine D1.item _ _ _ k x _ (D1.keep k _ _ h1 (λo e=>e1.extBut _ _ (Z_ Ip) e)) (D1.kept _ _ c1 λo e=>e1.extBut _ _ a1 e) hx λg2 s2 e2=>Zi ?_;have t2:abx g2 TO a b:=e2.extBut _ _ TOi1 (e1.extBut _ _ (Z_ Iq) Tx);apply Y2;apply aa3 t2 rfl;apply Y2;refine wpAny_updateSeq_pair t2 λg3 y3 e3=>?_;have t3:abx g3 TO x b:=y3;apply Y2;refine ab2 (Zi ?_);apply Y2;apply Y2;apply wpAny_onRaise
 change Zy (model prog w) _ (aaC (.ref i2) >>= _) _ _ _
 apply Y2;have k2:S2 k g3:=D2.keep k _ _ h2 λo e=>e3.extBut _ _ (Z_ TOi2) (e2.extBut _ _ (Z_ i12) (e1.extBut _ _ (Z_ LC) e));have k3:C2 g3:=D2.kept _ _ c2 λo e=>e3.extBut _ _ b2 (e2.extBut _ _ b3 (e1.extBut _ _ b1 e));refine D2.item _ _ _ k y _ k2 k3 hy λg4 s4 e4=>Zi ?_;have t4:abx g4 TO x b:=e4.extBut _ _ TOi2 t3;apply Y2;apply aa3 t4 rfl;apply Y2;refine wpAny_updateSeq_pair t4 λg5 y5 e5=>?_;have t5:abx g5 TO x y:=y5;apply Y2;refine ab2 (Zi (Zi ?_));apply Y2;apply aa3 t5 rfl;apply Y2;refine wpAny_newTuple ?_;have hsz:g5.objs.size=s.heap.objs.size:=by rw[e5.1,e4.1,e3.1,e2.1,e1.1]
 have z5:IsZip g5 z TI TO .ellipsis:=e5.extBut _ _ Iq (e4.extBut _ _ LC (e3.extBut _ _ Iq (e2.extBut _ _ Ip z1)));have old:∀c o,c∉[z,TO,i1,i2]->s.heap.get? c=some o->g5.get? c=some o:=λc o hc e=>by
  simp only[Y6,Z2,or_false,not_or]at hc;obtain⟨c1,c2,c3,c4⟩:=hc;exact e5.extBut _ _ c2 (e4.extBut _ _ c4 (e3.extBut _ _ c2 (e2.extBut _ _ c3 (e1.extBut _ _ c1 e))))
 have n1:S1 (k+1) g5:=D1.keep _ _ _ s2 λo e=>e5.extBut _ _ (Z_ TOi1) (e4.extBut _ _ i12 (e3.extBut _ _ (Z_ TOi1) e));have n2:S2 (k+1) g5:=D2.keep _ _ _ s4 λo e=>e5.extBut _ _ (Z_ TOi2) e;have Uy:=Zo z5
 change Zy (model prog w) _ (Builtin.SmallTypes.ownedTupleHandOut (.ref z) (.ref g5.objs.size) >>= _) _ _ _
 apply Y2;unfold Builtin.SmallTypes.ownedTupleHandOut;have z6:IsZip (g5.push {cls:=.type "tuple",data:=.seq #[x,y]}) z TI TO .ellipsis:=Ze _ z5;apply Y2;refine aa8 z6 (by simp) λg7 y7 e7=>?_
 have z7:IsZip g7 z TI TO (rawInt g5.objs.size):=y7;refine aa8 z7 (by simp) λg8 y8 e8=>?_
 have z8:IsZip g8 z TI TO (rawInt g5.objs.size):=y8;have up:∀c o,c≠z->g5.get? c=some o->g8.get? c=some o:=λc o c1 e=>e8.extBut _ _ c1 (e7.extBut _ _ c1 (Ze _ e));have t8:abx g8 g5.objs.size x y:=e8.extBut _ _ (Nat.ne_of_gt Uy) (e7.extBut _ _ (Nat.ne_of_gt Uy) (ZR _ rfl));rw[hsz]at z8 t8;refine Zi {_,rfl,Zi ?_};show Q (some (.ref g5.objs.size)) _;rw[hsz];exact q g8 z8 (up _ _ (Z_ Iq) t5) (D1.keep _ _ _ n1 λo e=>up _ _ (Z_ Ip) e) (D2.keep _ _ _ n2 λo e=>up _ _ (Z_ LC) e) t8 λc o hc e=>up c o (λw=>hc (by simp[w])) (old c o hc e)
def En (P:Apart z TI TO i1 i2 l1 l2)(D1:L6 prog w i1 l1 vs S1 C1)(D2:L6 prog w i2 l2 us S2 C2)(hh:A.handled=none){k:Nat}{a b:Y1}{Q:Option Y1->Y4->Prop}(hz:IsZip s.heap z TI TO .none)(Tz:abx s.heap TI (.ref i1) (.ref i2))(Tx:abx s.heap TO a b)
  (h1:S1 k s.heap) (h2:S2 k s.heap) (c1:C1 s.heap) (c2:C2 s.heap) (hx:vs[k]?=none\/us[k]?=none)
  (q:∀h',(∀c o,c∉[z,TO,i1,i2]->s.heap.get? c=some o->h'.get? c=some o)->Q none {s with heap:=h'}) :
  Zy (model prog w) A (acd (.ref z)) Q E s:=by
 have hT:s.TypeIs (.ref z) "zip" := {_,hz,rfl};obtain⟨nd,o1,o2⟩:=P;simp only[Zs,Y6,Z2,or_false,not_or,Z5,not_false_eq_true,and_true]at nd;obtain⟨⟨VP,Iq,Ip,LC⟩,⟨TITO,TIi1,TIi2⟩,⟨TOi1,TOi2⟩,i12⟩:=nd;have a1:=o1 z (by simp);have b1:=o2 z (by simp);have b2:=o2 TO (by simp);have b3:=o2 i1 (by simp)
 have oc:∀{c:Addr},c∉[z,TO,i1,i2]->c≠z/\c≠TO/\c≠i1/\c≠i2:=λhc=>by simpa[not_or] using hc
 have Vp:A.in1.handled=none:=hh;unfold acd;apply Y2;apply abz;apply abI (name:=Str.ofString "__next__") hT F.slot_zip_next;refine abu F.slot_zip_next hT F.entry_zip_next ?_ (F.args_zip_next_1 _);have fin:∀(h':Heap) (e:Addr),(∀c o,c∉[z,TO,i1,i2]->s.heap.get? c=some o->h'.get? c=some o)->(∃o,h'.get? e=some o/\o.cls=.type "StopIteration") ->
   Zy (model prog w) A (do if <- isInstance (.ref e) (.type "StopIteration") then pure none else throw (.ref e)) Q E {s with heap:=h'}:=λh' e hk Ge=>by
  obtain⟨o,ho,hc⟩:=Ge;apply Y2;refine wpAny_isInstance (T:="StopIteration") (b:=true) {(o),ho,hc} isSubtype_stop ?_;exact Zi (q h' hk)
 change Zy (model prog w) _ (field (.ref z) 2 >>= _) _ _ _
 apply Y2;apply abH hz rfl (x:=.bool false) rfl
 change Zy (model prog w) _ (field (.ref z) 3 >>= _) _ _ _
 apply Y2;apply abH hz rfl (x:=.ref TI) rfl;apply Y2;apply aa3 Tz rfl
 change Zy (model prog w) _ (aaP (.ref z) >>= _) _ _ _
 apply Y2;unfold aaP;apply Y2;apply abH hz rfl (x:=.none) rfl;apply Zi;simp only[if_true];apply Y2;apply abm;apply Y2;apply abH hz rfl (x:=.ref TO) rfl;apply Y2;refine aa8 hz (by simp) λg1 y1 e1=>?_
 have z1:IsZip g1 z TI TO .ellipsis:=y1;apply Y2;simp only[List.zipIdx_cons,List.zipIdx_nil,List.forIn_cons,List.forIn_nil];apply Y2;apply Y2;apply wpAny_onRaise
 change Zy (model prog w) _ (aaC (.ref i1) >>= _) _ _ _
 apply Y2;have f1:S1 k g1:=D1.keep k _ _ h1 λo e=>e1.extBut _ _ (Z_ Ip) e;have f2:C1 g1:=D1.kept _ _ c1 λo e=>e1.extBut _ _ a1 e;cases ex:vs[k]? with
 |none =>
  refine D1.done _ _ _ k _ Vp f1 f2 ex λg2 e e2 he=>?_;obtain⟨oe,ge,ce⟩:=he;have z2:IsZip g2 z TI TO .ellipsis:=e2 _ _ Ip z1;have ez:e≠z:=λw=>by subst w;rw[z2]at ge;cases ge;simp at ce
  refine aa8 z2 (by simp) λg3 _ e3=>fin g3 e (λc o hc x=>?_) {oe,e3.extBut _ _ ez ge,ce}
  obtain⟨q1,q2,q3,q4⟩:=oc hc;exact e3.extBut _ _ q1 (e2 _ _ q3 (e1.extBut _ _ q1 x))
 |some x =>
  have ey:us[k]?=none:=hx.resolve_left (by rw[ex];intro z;cases z)
  refine D1.item _ _ _ k x _ f1 f2 ex λg2 s2 e2=>Zi ?_;have t2:abx g2 TO a b:=e2.extBut _ _ TOi1 (e1.extBut _ _ (Z_ Iq) Tx);apply Y2;apply aa3 t2 rfl;apply Y2;refine wpAny_updateSeq_pair t2 λg3 y3 e3=>?_;apply Y2;refine ab2 (Zi ?_);apply Y2;apply Y2;apply wpAny_onRaise
  change Zy (model prog w) _ (aaC (.ref i2) >>= _) _ _ _
  apply Y2;have k2:S2 k g3:=D2.keep k _ _ h2 λo e=>e3.extBut _ _ (Z_ TOi2) (e2.extBut _ _ (Z_ i12) (e1.extBut _ _ (Z_ LC) e));have k3:C2 g3:=D2.kept _ _ c2 λo e=>e3.extBut _ _ b2 (e2.extBut _ _ b3 (e1.extBut _ _ b1 e));refine D2.done _ _ _ k _ Vp k2 k3 ey λg4 e e4 he=>?_;obtain⟨oe,ge,ce⟩:=he;have z4:IsZip g4 z TI TO .ellipsis:=e4 _ _ LC (e3.extBut _ _ Iq (e2.extBut _ _ Ip z1));have ez:e≠z:=λw=>by subst w;rw[z4]at ge;cases ge;simp at ce
  refine aa8 z4 (by simp) λg5 _ e5=>fin g5 e (λc o hc x=>?_) {oe,e5.extBut _ _ ez ge,ce}
  obtain⟨q1,q2,q3,q4⟩:=oc hc;exact e5.extBut _ _ q1 (e4 _ _ q4 (e3.extBut _ _ q2 (e2.extBut _ _ q3 (e1.extBut _ _ q1 x))))
end
end Zp
namespace L2
open PySem PySem.Spec PySem.SeqAt PyProof.Rows Zp
abbrev Qg:=Hp->List V->Prop
def VJ (c1 c2:Qg):It :=
 ⟨λi H=>∃xs ys x y,c1 H xs/\c2 H ys/\xs[i]?=some x/\ys[i]?=some y,
  λi H x H'=>∃T,H T=none/\x=.ref T/\∀xs ys,c1 H xs->c2 H ys->∃a b,xs[i]?=some a/\ys[i]?=some b/\H'=upd H T (.tup [a,b]),
  λi H=>∃xs ys,c1 H xs/\c2 H ys/\(xs[i]?=none\/ys[i]?=none)⟩
structure Src (P:Y7)(w:Zj)(K:PySem.W.Frag)(i l:Addr)(c:Qg)(S:Nat->Heap->Prop):Prop where
 «at»:∀(X:Cx) (pins:List (Addr×Obj)) (σ:St) (H:Hp) (s:Y4) (xs:List V),X.prog=P->X.w=w->X.K=K->Inv X pins σ H s->c H xs->∃vs Ct,Vals xs vs/\L6 P w i l vs S Ct/\Ct s.heap
 obj:∀k h,S k h->∃o,h.get? i=some o/\∀v,o.data≠.cell v
 keep:∀k h h',S k h->(∀o,h.get? i=some o->h'.get? i=some o)->S k h'
 inj:∀(H:Hp) (xs ys:List V),c H xs->c H ys->xs=ys
 old:∀(H:Hp) (xs:List V),c H xs->H l≠none
def src_list {P:Y7}{w:Zj}{K:PySem.W.Frag}{i l:Addr}:Src P w K i l (λH xs=>H l=some (.lst xs)) (λk h=>h.IsListIter i l k) where
 «at»:=λX pins σ H s xs hp hw hk I h=>by
  obtain⟨its,r',pl,_⟩:=I.list (dj.of h);exact{its,_,r',Dt,pl.isList}
 obj:=λk h ⟨o,a,_,d⟩=>{o,a,λv z=>by rw[d]at z;cases z}
 keep:=λk h h' a k1=>a.at k1
 inj:=λH xs ys h h'=>by rw[h]at h';cases h';rfl
 old:=λH xs h z=>by rw[h]at z;cases z
def Inv.Ex {X:Cx}{pins:List (Addr×Obj)}{σ:St}{H:Hp}{s:Y4}{fp:List Addr}{h':Heap}{x y:V}{u v:Y1}(I:Inv X pins σ H s)(hf:∀b∈fp,g_ X pins H b)(k:∀c o,c∉fp->s.heap.get? c=some o->h'.get? c=some o)
  (rx:RelV x u) (ry:RelV y v) (hT:abx h' s.heap.objs.size u v):Inv X pins σ (upd H s.heap.objs.size (.tup [x,y])) {s with heap:=h'}:=by
 have hn:H s.heap.objs.size=none:=I.bB.fresh (Y8 _);have ne:∀{b:Addr} {o:Obj},s.heap.get? b=some o->b≠s.heap.objs.size:=λe=>ZQ (Zo e);have nt:∀{b:Addr} {o:HO},H b=some o->b≠s.heap.objs.size:=λe z=>by rw[z,hn]at e;cases e
 have nf:∀{b:Addr} {o:HO},H b=some o->b∉fp:=λe z=>by rw[(hf _ z).1]at e;cases e
 refine I.call (g':=s.gens) (t':=s.toks) (d':=s.drawn) (ch:=fp) ⟨λb o e n _ hc=>k b o hc e,λb o e n _ hc=>{o.slots,k b o hc e},λb o e n _=>by rw[au (ne e)];exact n,λb o e hc=>{o,k b o hc e},
  λb xs e=>by rw[au (nt e)];exact e,λb o u e=>by rw[au (nt e)];exact e,λb ps e=>{#[],by rw[au (nt e),e];simp}⟩ (λb u e=>?_) I.bare λb hb=>?_
 ·by_cases hb:b=s.heap.objs.size
  ·subst hb;rw[ak]at e;cases e;exact{by show 2<=Zd;decide,[_,_],.cons rx (.cons ry .nil),{_,hT,rfl,_,rfl}}
  ·rw[au hb]at e;refine(I.bB b u e).mS (λc v hc q=>k c v ?_ q) (λc q=>by rw[au (nt q)];exact q) λc xs q=>by rw[au (nt q)];exact q
   rcases hc with z|z
   ·rw[z];exact nf e
   ·exact nf z
 ·obtain⟨f0,f1,f2,f3,f4,f5⟩:=hf b hb;exact{(f3),f1,f4,f5}
def Inv.xm {X:Cx}{pins:List (Addr×Obj)}{σ:St}{H:Hp}{s:Y4}{fp:List Addr}{h':Heap}(I:Inv X pins σ H s)(hf:∀b∈fp,g_ X pins H b)(k:∀c o,c∉fp->s.heap.get? c=some o->h'.get? c=some o):Inv X pins σ H {s with heap:=h'}:=by
 have nf:∀{b:Addr} {o:HO},H b=some o->b∉fp:=λe z=>by rw[(hf _ z).1]at e;cases e
 refine I.call (g':=s.gens) (t':=s.toks) (d':=s.drawn) (ch:=fp) {λb o e n _ hc=>k b o hc e,λb o e n _ hc=>{o.slots,k b o hc e},λb o e n _=>n,λb o e hc=>{o,k b o hc e},λb xs e=>e,λb o u e=>e,λb ps e=>{#[],by rw[e];simp}} (λb u e=>?_) I.bare λb hb=>?_
 ·refine(I.bB b u e).mS (λc v hc q=>k c v ?_ q) (λc q=>q) λc xs q=>q;rcases hc with z|z
  ·rw[z];exact nf e
  ·exact nf z
 ·obtain⟨f0,f1,f2,f3,f4,f5⟩:=hf b hb;exact{(f3),f1,f4,f5}
def Ba {P:Y7}{w:Zj}{K:PySem.W.Frag}{elts:List Expr}{kk:Nat}{pos:Pos}{z TI TO i1 i2 l1 l2:Addr}{c1 c2:Qg}{S1 S2:Nat->Heap->Prop}(Ap:Apart z TI TO i1 i2 l1 l2)(s1:Src P w K i1 l1 c1 S1)(s2:Src P w K i2 l2 c2 S2):
  Turn P w K (.Tuple elts kk pos) (VJ c1 c2) [z,TI,TO,i1,i2] z (λk h=>IsZip h z TI TO .none/\abx h TI (.ref i1) (.ref i2)/\(∃a b,abx h TO a b)/\S1 k h/\S2 k h) where
 mem:=by simp
 obj:=λk h CM c hc=>by
  obtain⟨h1,h2,⟨a,b,h3⟩,h4,h5⟩:=CM;simp only[Y6,Z2,or_false]at hc;rcases hc with rfl|rfl|rfl|rfl|rfl
  ·exact{_,h1,λv z=>by cases (show Data.fields _=Data.cell v from z)}
  ·exact{_,h2,λv z=>by cases (show Data.seq _ _=Data.cell v from z)}
  ·exact{_,h3,λv z=>by cases (show Data.seq _ _=Data.cell v from z)}
  ·exact s1.obj k h h4
  ·exact s2.obj k h h5
 keep:=λk h h' ⟨h1,h2,⟨a,b,h3⟩,h4,h5⟩ kp=>{kp z (by simp) _ h1,kp TI (by simp) _ h2,{a,b,kp TO (by simp) _ h3},s1.keep k h h' h4 (λo e=>kp i1 (by simp) o e),s2.keep k h h' h5 λo e=>kp i2 (by simp) o e}
 item:=by
  intro X hP hw hK hc i pins s σ H E I hf st hg;obtain⟨g1,g2,⟨a,b,g3⟩,g4,g5⟩:=st;obtain⟨xs,ys,x,y,hx,hy,ex,ey⟩:=hg;obtain⟨vs,C1,r1,D1,k1⟩:=s1.at X pins σ H s xs hP hw hK I hx;obtain⟨us,C2,r2,D2,k2⟩:=s2.at X pins σ H s ys hP hw hK I hy;obtain⟨u,eu,ru⟩:=r1.get ex;obtain⟨v,ev,rv⟩:=r2.get ey;have sub:∀c∈[z,TO,i1,i2],c∈[z,TI,TO,i1,i2]:=λc hc=>by simp at hc ⊢;rcases hc with h|h|h|h <;> simp[h]
  refine AR Ap D1 D2 g1 g2 g3 g4 g5 k1 k2 eu ev λh' y1 y2 y3 y4 y5 y6=>?_;have I1:=I.Ex (fp:=[z,TI,TO,i1,i2]) hf (λc o HH e=>y6 c o (λq=>HH (sub c q)) e) ru rv y5;have nT:∀b∈[z,TI,TO,i1,i2],upd H s.heap.objs.size (.tup [x,y]) b=none:=λb hb=>by
   have:b≠s.heap.objs.size:=by
    have:=(show (∃o,s.heap.get? b=some o) from by
     simp only[Y6,Z2,or_false]at hb;rcases hb with rfl|rfl|rfl|rfl|rfl
     ·exact{_,g1}
     ·exact{_,g2}
     ·exact{_,g3}
     ·exact{_,(s1.obj i _ g4).choose_spec.1}
     ·exact{_,(s2.obj i _ g5).choose_spec.1})
    obtain⟨o,e⟩:=this;exact ZQ (Zo e)
   rw[au this];exact(hf b hb).1
  have XU:abx h' TI (.ref i1) (.ref i2):=y6 TI _ (by
   have:=Ap.nd;simp only[Zs,Y6,Z2,or_false,not_or]at this ⊢
   obtain⟨⟨q1,_⟩,⟨q2,q3,q4⟩,_⟩:=this;exact{Z_ q1,q2,q3,q4}) g2
  refine{_,rfl,wpAny_letOwnedTupleGo_zip y1 λh'' z' sb=>?_};have I2:Inv X pins σ (upd H s.heap.objs.size (.tup [x,y])) {s with heap:=h''}:=by
   refine I1.xm (fp:=[z]) (λb hb=>?_) λc o HH e=>sb.extBut _ _ (by simpa using HH) e
   have e:b=z:=by simpa using hb
   subst e;exact{nT b (by simp),(hf b (by simp)).2}
  have Pp:∀c∈[TI,TO,i1,i2],c≠z:=λc hc q=>by
   have:=Ap.nd;rw[Zs]at this;exact this.1 (by rw[<- q];exact hc)
  refine{.ref s.heap.objs.size,_,I2,rfl,{s.heap.objs.size,I.bB.fresh (Y8 _),rfl,λLD VQ F_ RC=>?_},{z',sb.extBut _ _ (Pp TI (by simp)) XU,{_,_,sb.extBut _ _ (Pp TO (by simp)) y2},s1.keep _ _ _ y3 (λo e=>sb.extBut _ _ (Pp i1 (by simp)) e),s2.keep _ _ _ y4 λo e=>sb.extBut _ _ (Pp i2 (by simp)) e},nT}
  rw[s1.inj H LD xs F_ hx,s2.inj H VQ ys RC hy];exact{(x),y,ex,ey,rfl}
 done:=by
  intro X hP hw hK hc i pins s σ H E I hf st hg;obtain⟨g1,g2,⟨a,b,g3⟩,g4,g5⟩:=st;obtain⟨xs,ys,hx,hy,ex⟩:=hg;obtain⟨vs,C1,r1,D1,k1⟩:=s1.at X pins σ H s xs hP hw hK I hx;obtain⟨us,C2,r2,D2,k2⟩:=s2.at X pins σ H s ys hP hw hK I hy;have sub:∀c∈[z,TO,i1,i2],c∈[z,TI,TO,i1,i2]:=λc hc=>by simp at hc ⊢;rcases hc with h|h|h|h <;> simp[h]
  refine En Ap D1 D2 (I.ok.hd hc) g1 g2 g3 g4 g5 k1 k2 (ex.imp (λq=>r1.none_of q) λq=>r2.none_of q) λh' y6=>?_;exact{rfl,I.xm (fp:=[z,TI,TO,i1,i2]) hf λc o HH e=>y6 c o (λq=>HH (sub c q)) e}
 self:=λA i s Q E ⟨h1,_⟩ q=>wpAny_pyIter_zip h1 q
def Lm:Z9 "zip" = some (.type "zip"):=by decide +kernel
noncomputable def hV:List D->List D->List D
 |a::as,b::bs=>.tup [a,b]::hV as bs
 |_,_=>[]
theorem sY:∀{as bs:List D} {i:Nat} {d:D},(hV as bs)[i]?=some d->∃a b,as[i]?=some a/\bs[i]?=some b/\d=.tup [a,b]
 |[],_,_,_,h=>by simp[hV]at h
 |_::_,[],_,_,h=>by simp[hV]at h
 |a::as,b::bs,0,_,h=>by simp[hV]at h;exact{(a),b,rfl,rfl,h.symm}
 |a::as,b::bs,i+1,_,h=>by
  obtain⟨x,y,h1,h2,h3⟩:=sY (as:=as) (bs:=bs) (i:=i) (by simpa[hV] using h)
  exact{x,y,by simpa using h1,by simpa using h2,h3}
theorem sX:∀(as bs:List D),(hV as bs).length=min as.length bs.length
 |[],_=>by simp[hV]
 |_::_,[]=>by simp[hV]
 |a::as,b::bs=>by simp[hV,sX as bs]
section
variable {X:Cx}{W:Addr->Prop}{H:Hp}{l1 l2:Addr}{xs ys:List V}{ds es:List D}
def Ei (t:Bool)(l:Addr):Qg:=λH xs=>if t=true then H l=some (.tup xs) else H l=some (.lst xs)
def F4 (t:Bool)(h1:Ei t l1 H xs)(h2:Ei t l2 H ys)(n1:t=false->¬ W l1)(n2:t=false->¬ W l2)(r1:mD X W H ds xs)(r2:mD X W H es ys):Az X W (VJ (Ei t l1) (Ei t l2)) (hV ds es) H:=λW' hW i H' k=>by
 have st:∀{l:Addr} {xs:List V},Ei t l H xs->(t=false->¬ W l)->Ei t l H' xs:=λ{l xs} h n=>by
  unfold Ei at h ⊢
  cases t with
  |true=>exact k.tup l xs h
  |false=>exact k.out l _ h λz=>(hW l z).elim (n rfl) λq=>by rw[show H l=some (HO.lst xs) from h]at q;cases q
 have inj:∀{l:Addr} {xs ys:List V},Ei t l H' xs->Ei t l H' ys->xs=ys:=λ{l xs ys} a b=>by
  unfold Ei at a b;cases t with
  |true=>rw[show H' l=some (HO.tup xs) from a]at b;cases b;rfl
  |false=>rw[show H' l=some (HO.lst xs) from a]at b;cases b;rfl
 have q1:=(ai.grow hW r1).keep k;have q2:=(ai.grow hW r2).keep k;constructor
 ·intro d hd;obtain⟨a,b,ha,hb,rfl⟩:=sY hd;obtain⟨x,ex,rx⟩:=ai.get q1 ha;obtain⟨y,ey,ry⟩:=ai.get q2 hb;refine{{xs,ys,x,y,st h1 n1,st h2 n2,ex,ey},λv H1 i5=>?_};obtain⟨T,hT,e,yl⟩:=i5;obtain⟨x',y',VD,VC,eH⟩:=yl xs ys (st h1 n1) (st h2 n2);rw[ex]at VD;rw[ey]at VC;cases VD;cases VC;subst e eH;exact{aB.new hT,Rp.IF hT (.cons rx (.cons ry .nil))}
 ·intro hl;rw[sX]at hl;have z1:=q1.length;have z2:=q2.length;refine{xs,ys,st h1 n1,st h2 n2,?_}
  by_cases h:ds.length<=i
  ·exact .inl (ZF (by lia))
  ·exact .inr (ZF (by lia))
end
def fX {lo:Int}{n i:Nat}{d:D}(h:(rh lo n)[i]?=some d):i<n/\d=.int (lo+i):=by
 unfold rh at h;rw[Zg]at h;have hi:i<n:=by
  by_cases hi:i<n
  ·exact hi
  ·rw[ZF (by simpa using hi)]at h;cases h
 rw[aa1 hi]at h;cases h;exact{(hi),rfl}
def fW {lo:Int}{n:Nat}:(rh lo n).length=n:=by unfold rh;simp
structure Df (K:PySem.W.Frag)(mg:Str->Option Y1)(x:Str)(st:Stmt)(ps:List Str)(f:Addr)(fd:ZL):Prop where
 F:AL K x x st f fd
 b:Binds K fd ps []
 m:mg x=some (.ref f)
structure Bs (mg:Str->Option Y1):Prop where
 max:mg "max" = none
 min:mg "min" = none
 int:mg "int" = none
 range:mg "range" = none
 sorted:mg "sorted" = none
 set:mg "set" = none
 len:mg "len" = none
 list:mg "list" = none
def c_.Et {k:Nat}{A:Z0}(r:c_ k A):A.units+16<abd:=by have:=r.un;lia
def Qf (n:Int)(t:List Int):Prop:=∃a b,t=[a,b]/\0<=a/\a<b/\b<n
def Qf.ne {n:Int}{t:List Int}(h:Qf n t):t≠[]:=by
 obtain⟨a,b,rfl,_⟩:=h;intro z;cases z
def i8 (n:Int)(ts:List (List Int)):Prop:=∀t∈ts,Qf n t
def i8.ne {n:Int}{ts:List (List Int)}(h:i8 n ts):∀k∈ts,k≠[]:=λk hk=>(h k hk).ne
def i8.nil {n:Int}:i8 n []:=λ_ z=>(nomatch z)
def nU (ts:List (List Int)):D.cK (ts.map kD)=true:=by
 have fi:∀k:List Int,D.cK (k.map D.int)=true:=λk=>by
  induction k with
  |nil=>rfl
  |cons i k ih=>show (D.flat (.int i)&&D.cK (k.map D.int))=true;rw[ih];rfl
 induction ts with
 |nil=>rfl
 |cons t ts ih =>
  show (D.flat (kD t)&&D.cK (ts.map kD))=true;rw[ih];show (D.cK (t.map D.int)&&true)=true;rw[fi];rfl
def Drawn (n:Int)(ts:List (List Int)):Prop:=ts.length<=300/\i8 n ts/\xf ts/\ts.Nodup
def lK {a b:D}:[a,b].length<=Zd:=by show 2<=Zd;decide
def Mv {a b c:D}:[a,b,c].length<=Zd:=by show 3<=Zd;decide
def vH {a:D}:[a].length<=Zd:=by show 1<=Zd;decide
def wC {b:Bool}{p q:Prop}(hb:b=true)(h:p):(if b=true then p else q):=by rw[if_pos hb];exact h
def fR {b:Bool}{p q:Prop}(hb:b=false)(h:q):(if b=true then p else q):=by rw[hb,if_neg (by simp)];exact h
def sf {c:Prop}[Decidable c]{p q:Prop}(h1:c->p)(h2:¬ c->q):(if decide c=true then p else q):=by
 by_cases h:c
 ·exact wC (by simp[h]) (h1 h)
 ·exact fR (by simp[h]) (h2 h)
theorem jR {α:Type}(f:α->D):∀l:List α,D.ve (l.map f)=l.map λa=>(f a).pd
 |[]=>rfl
 |a::l=>by
  show (f a).pd::D.ve (l.map f)=_;rw[jR f l];rfl
theorem lC {n:Nat}:∀{xs:List PyData},(∀x∈xs,x.canLay0=true/\x.depth<=n)->abO xs=true/\ab6 xs<=n
 |[],_=>{by simp[abO],by simp[ab6]}
 |x::xs,h=>by
  obtain⟨h1,h2⟩:=lC (n:=n) (xs:=xs) λy hy=>h y (by simp[hy])
  obtain⟨g1,g2⟩:=h x (by simp)
  refine{by simp[abO,h1,g1],?_}
  simp only[ab6];lia
def pI {n:Nat}{ds:List D}(h:∀d∈ds,d.pd.canLay0=true/\d.pd.depth<=n):(D.tup ds).pd.canLay0=true/\(D.tup ds).pd.depth<=n+1:=by
 have e:D.ve ds=ds.map λd=>d.pd:=by
  have:=jR (λd:D=>d) ds;simpa using this
 obtain⟨h1,h2⟩:=lC (n:=n) (xs:=D.ve ds) λx hx=>by
  rw[e]at hx;obtain⟨d,hd,rfl⟩:=ZN.mp hx;exact h d hd
 refine{by simpa[D.pd,aaM] using h1,?_}
 have:(D.tup ds).pd.depth=ab6 (D.ve ds)+1:=by simp[D.pd,PyData.depth]
 lia
def iM {n:Nat}{ds:List D}(h:∀d∈ds,d.pd.canLay0=true/\d.pd.depth<=n):(D.lst ds).pd.canLay0=true/\(D.lst ds).pd.depth<=n+1:=by
 have e:D.ve ds=ds.map λd=>d.pd:=by
  have:=jR (λd:D=>d) ds;simpa using this
 obtain⟨h1,h2⟩:=lC (n:=n) (xs:=D.ve ds) λx hx=>by
  rw[e]at hx;obtain⟨d,hd,rfl⟩:=ZN.mp hx;exact h d hd
 refine{by simpa[D.pd,aaM] using h1,?_}
 have:(D.lst ds).pd.depth=ab6 (D.ve ds)+1:=by simp[D.pd,PyData.depth]
 lia
def dc (i:Int):(D.int i).pd.canLay0=true/\(D.int i).pd.depth<=1:={by simp[D.pd,aaM],by simp[D.pd,PyData.depth]}
def Bm (t:List Int):(kD t).pd.canLay0=true/\(kD t).pd.depth<=2:=pI λd hd=>by
 obtain⟨i,_,rfl⟩:=ZN.mp hd;exact dc i
def vM (ts:List (List Int)):(D.lst (ts.map kD)).pd.canLay0=true/\(D.lst (ts.map kD)).pd.depth<=3:=iM λd hd=>by
 obtain⟨i,_,rfl⟩:=ZN.mp hd;exact Bm i
def eW (ts:List Int):(D.lst (ts.map D.int)).pd.canLay0=true/\(D.lst (ts.map D.int)).pd.depth<=2:=iM λd hd=>by
 obtain⟨i,_,rfl⟩:=ZN.mp hd;exact dc i
def h8 {d:D}{n:Nat}(h:d.pd.canLay0=true/\d.pd.depth<=n)(hn:n<=64:=by decide):d.AF=true:=by
 show (d.pd.canLay0&&decide (d.pd.depth<=64))=true;rw[h.1,decide_eq_true (by lia)]
 rfl
theorem n9 {α:Type}[DecidableEq α]{f:α->PyData}(hf:∀a b,abp (f a) (f b)=decide (a=b)):∀xs ys:List α,acx (xs.map f) (ys.map f)=decide (xs=ys)
 |[],[]=>by simp[acx]
 |[],_::_=>by simp[acx]
 |_::_,[]=>by simp[acx]
 |x::xs,y::ys=>by
  simp only[ZE,acx];rw[hf,n9 hf xs ys]
  by_cases h1:x=y
  ·by_cases h2:xs=ys <;> simp[h1,h2]
  ·simp[h1]
def sC (i j:Int):abp (D.int i).pd (D.int j).pd=decide (i=j):=by
 simp only[D.pd,abp]
 by_cases h:i=j <;> simp[h]
def Dj (ts us:List Int):abp (D.lst (ts.map D.int)).pd (D.lst (us.map D.int)).pd=decide (ts=us):=by
 show abp (.list (D.ve (ts.map D.int))) (.list (D.ve (us.map D.int)))=_;rw[jR,jR];simp only[abp];exact n9 sC ts us
def wY {a b:D}{c:Bool}(h1:a.AF=true)(h2:b.AF=true)(e:abp a.pd b.pd=c):Lg a b=some (.bl c):=by
 unfold Lg;rw[if_pos {(h1),h2},e]
def La {a b:D}{c:Bool}(h1:a.AF=true)(h2:b.AF=true)(e:abp a.pd b.pd=c):Lc a b=some (.bl (!c)):=by
 unfold Lc;rw[if_pos {(h1),h2},e]
def bf (i j:Int):Lg (.int i) (.int j)=some (.bl (decide (i=j))):=wY (h8 (dc i)) (h8 (dc j)) (sC i j)
def gH (i j:Int):Lc (.int i) (.int j)=some (.bl (!decide (i=j))):=La (h8 (dc i)) (h8 (dc j)) (sC i j)
def DB (ts us:List Int):Lg (.lst (ts.map D.int)) (.lst (us.map D.int))=some (.bl (decide (ts=us))):=wY (h8 (eW ts)) (h8 (eW us)) (Dj ts us)
def VF {α:Type}{ds:List α}{i:Nat}{d:α}(h:ds[i]?=some d):lB ds (i:Int)=some d:=by
 have hl:i<ds.length:=(Y_.mp h).1;unfold lB sd;rw[if_pos (by lia),if_pos (by lia),abi]
 exact h
def Lu {α:Type}{ds:List α}{i:Int}(h0:0<=i)(h1:i<ds.length):∃d∈ds,lB ds i=some d/\ds[i.toNat]?=some d:=by
 have hl:i.toNat<ds.length:=by lia
 refine{ds[i.toNat],aaD hl,?_,Y5 hl};have:=VF (ds:=ds) (i:=i.toNat) (Y5 hl)
 rwa [show ((i.toNat:Nat):Int)=i by lia]at this
def GI {ds:List D}{i:Nat}{d:D}(h:ds[i]?=some d):vn (.lst ds) (.int (i:Int))=some d:=VF h
def pick {ds:List D}{r:Int}{p:D->Prop}(h0:0<=r)(h1:r<ds.length)(h:∀d∈ds,p d):∃d,vn (.lst ds) (.int r)=some d/\p d:=by
 obtain⟨d,hd,e,_⟩:=Lu h0 h1;exact{d,e,h d hd}
def uT {i j:Int}:uU [.int i,.int j]=some (.int (if j<i then j else i)):=by
 first|rfl|(simp[uU])
end L2
namespace HT
open PySem PySem.Spec PyProof.Rows
theorem nR {α β:Type}{f g:α->Option β}:∀{l:List α},(∀x∈l,f x=g x)->l.filterMap f=l.filterMap g
 |[],_=>rfl
 |x::l,h=>by
  rw[aat,aat,h x (by simp),nR λy hy=>h y (by simp[hy])]
def Bw {α:Type}(xs:List α):((Zv xs.length).filterMap λk=>xs[xs.length-1-k]?)=xs.reverse:=by
 have h:=pick_run xs.reverse.toArray 0 xs.length;rw[List.filterMap_map]at h;have e:((Zv xs.length).filterMap λk=>xs[xs.length-1-k]?)=(Zv xs.length).filterMap ((λx=>xs.reverse.toArray[x]?) ∘ λx=>0+x):=by
  refine nR λk hk=>?_;have S9:=aae.mp hk;show _=xs.reverse.toArray[0+k]?;rw[List.getElem?_toArray,Nat.zero_add,List.getElem?_reverse S9]
 rw[e,h];simp only[List.drop_zero];exact Z4 (by simp)
def oR (items:Array Y1):slicePick items none none (some (-1))=items.toList.reverse.toArray:=by
 have e:(sliceRange (aa7 none none (some (-1)) items.size).1 (aa7 none none (some (-1)) items.size).2.1 (aa7 none none (some (-1)) items.size).2.2)=(Zv items.size).map λk=>items.size-1-k:=by
  show sliceRange ((items.size:Int)-1) (-1) (-1)=_;unfold sliceRange;have c:(if (-1:Int)>0 then (if (items.size:Int)-1 < -1 then ((-1)-((items.size:Int)-1)+-1-1) / -1 else 0) else (if (items.size:Int)-1 > -1 then ((items.size:Int)-1-(-1)-(-1)-1) / (-(-1)) else 0)).toNat=items.size:=by
   rw[if_neg (by lia)]
   split
   ·rw[show (-(-1):Int)=1 by rfl,Int.ediv_one];lia
   ·lia
  simp only[c];refine ZU λk hk=>?_;have:=aae.mp hk;lia
 unfold slicePick;rw[e,List.filterMap_map]
 congr 1
 have:=Bw items.toList;rw[ZJ]at this;rw[<- this];refine nR λk hk=>?_;show items[items.size-1-k]?=_;rw[ZG]
end HT
namespace L2
open PySem PySem.Spec PySem.SeqAt PyProof.Rows
theorem ai.rev {P:Y7}{w:Zj}{W:Addr->Prop}{H:Hp}:∀{ds:List D} {vs:List V},ai P w W H ds vs->ai P w W H ds.reverse vs.reverse
 |[],_,h=>by rw[show _=[] from h];rfl
 |d::ds,_,⟨v,r,e,h1,h2⟩=>by
  subst e;rw[acq,acq];exact(ai.rev h2).append (.one h1)
theorem Vals.rev:∀{xs:List V} {us:List Y1},Vals xs us->Vals xs.reverse us.reverse
 |_,_,.nil=>.nil
 |_,_,.cons r t=>by
  rw[acq,acq];exact(Vals.rev t).append (.cons r .nil)
end L2
namespace L2.Q
open PySem PySem.Spec PySem.SeqAt PyProof.Rows
section
variable {P:Y7}{w:Zj}{C:Cfg}{σ:St}{H:Hp}{β:bb}{own:Nat->List Addr}{i:Nat}{ok:List Int->Prop}{ns:List Int}
theorem pW:∀{ns:List Int} {vs:List V} {A:List Addr},aR P w H (ns.map D.int) vs A->vs=ns.map V.int/\A=[]
 |[],_,_,h=>h
 |n::ns,_,_,⟨v,r,A1,A2,e,eA,h1,h2⟩=>by
  obtain⟨rfl,rfl⟩:=pW h2;obtain⟨rfl,rfl⟩:=h1;exact{e,by rw[eA];rfl}
def bj.toHand (s:bj P w C σ H β own)(e:β[i]?=some (some (.own (.lst (ns.map D.int)))))(ho:ok ns)(io:∀b,¬ C.IO b):bj P w C σ H (β.set i (some (.hand ok))) own:=by
 obtain⟨v,h1,⟨a,vs,A',rfl,h2,h3,h4⟩,h5⟩:=s.ow i _ e;obtain⟨rfl,rfl⟩:=pW h4;refine⟨by simp[s.len],λj y d q=>?_,λj d q=>?_,λj zk q=>?_,s.dm,s.jm,s.jq,s.kp,s.fS,λj y d q=>by
  by_cases aD:i=j
  ·subst aD;obtain⟨e',_⟩:=aP q;cases e'
  ·rw[aO aD]at q;exact s.shl j y d q⟩
 ·by_cases aD:i=j
  ·subst aD;obtain⟨e',_⟩:=aP q;cases e'
  ·rw[aO aD]at q;exact s.val j y d q
 ·by_cases aD:i=j
  ·subst aD;obtain⟨e',_⟩:=aP q;cases e'
  ·rw[aO aD]at q;exact s.ow j d q
 ·by_cases aD:i=j
  ·subst aD;obtain⟨e',_⟩:=aP q;cases e';exact{a,ns,h1,h2,ho,h3,.inl io}
  ·rw[aO aD]at q;exact s.nN j zk q
end
section
variable {X:Cx}{C:Cfg}{e:Expr}{φ:aQ}{p:Bool}{i:Nat}{x:Str}{pos pos' px ap cp:Pos}{ok:List Int->Prop}
def Fi (ok:List Int->Prop)(Ta:∀b,¬ C.IO b)(he:∀U,PQ X (C.u U) p e φ)(hN:X.N.Nodup)(hi:X.N[i]?=some x:=by rfl)(hx:Loc X.env.scope x:=by first|exact .inl rfl|exact .inr rfl)
  (hs:aaw e (some (.Name x pos')) pos.line X.env=pure false:=by rfl) (hf:X.fn x=true\/X.env.scope.names.lookup x=some .local:=by first|exact .inl rfl|exact .inr rfl|assumption) :
  PB X C (.Assign [.Name x pos'] e pos) (λE β=>φ β λd k β'=>F3 k d/\i<β'.length/\∃ns:List Int,d=.lst (ns.map D.int)/\ok ns/\E.nx (β'.set i (some (.hand ok)))):=by
 have B:=gA (C:=C) (i:=i) (pos:=pos) (pos':=pos') he hN hi hx hs hf;refine{λE E' β l q=>(he λ_=>False).mono _ _ _ (λd k β' CM=>by obtain⟨f,h,ns,e,o,q⟩:=CM;exact{f,h,ns,e,o,l.nx _ q}) q,B.ps.pre λDe σ H i5=>?_}
 obtain⟨Z,E,β,sb,q,zk⟩:=i5;refine{Z,{E with nx:=λβ'=>∃(ns:List Int) (β2:bb),i<β2.length/\β'=β2.set i (some (.own (.lst (ns.map D.int))))/\ok ns/\E.nx (β2.set i (some (.hand ok)))},β,sb,(he λ_=>False).mono _ _ _ (λd k β' Ku=>by obtain⟨f,h,ns,e,o,q⟩:=Ku;exact{f,ns,β',h,by rw[e],o,q}) q,{λσ' H' β' vR l5=>?_,zk.rt,zk.bk,zk.ct}}
 obtain⟨ns,β2,hl,e,o,q⟩:=l5;subst e;obtain⟨own,s,n⟩:=vR;have:=s.toHand (i:=i) (ok:=ok) (get_set hl) o Ta;rw[aba]at this;exact zk.nx _ _ _ {(own),this,n} q
def bj.putL {P:Y7}{w:Zj}{σ:St}{H:Hp}{β:bb}{own:Nat->List Addr}{U U2:Addr->Prop}{ds ds':List D}{vs':List V}{a:Addr}{vs:List V}{A A':List Addr}(s:bj P w (C.u U) σ H β own)(e:β[i]?=some (some (.own (.lst ds))))(h1:σ[i]?=some (some (.ref a)))(h2:H a=some (.lst vs))(h3:own i=a::A)
  (r:aR P w H ds' vs' A') (nd:A'.Nodup) (hA:∀c∈A',c∈A\/(C.H0 c=none/\¬ Wn own c/\U c)) (hU:∀a,U2 a->U a) (TF:∀c∈A',c∉A->¬ U2 c) :
  bj P w (C.u U2) σ (upd H a (.lst vs')) (β.set i (some (.own (.lst ds')))) (aH own i (a::A'))/\∀c∈a::A',c∈own i\/(C.H0 c=none/\¬ Wn own c/\U c):=by
 have ha:a∈own i:=by rw[h3];simp
 have nA:a∉A:=by have:=s.jq i;rw[h3]at this;exact(Zs.mp this).1
 have na:∀c∈A',c≠a:=λc hc z=>by
  subst z;rcases hA c hc with z|z
  ·exact nA z
  ·exact z.2.1 {(i),ha}
 have kt:∀b xs,H b=some (.tup xs)->upd H a (.lst vs') b=some (.tup xs):=λb xs z=>by rw[au (λz'=>by rw[z',h2]at z;cases z)];exact z
 have Vz:∀c∈a::A',c∈own i\/(C.H0 c=none/\¬ Wn own c/\U c):=λc hc=>by
  rcases Y6.mp hc with rfl|hc
  ·exact .inl ha
  ·exact(hA c hc).imp (λz=>by rw[h3];simp[z]) id
 refine{s.Jh e h1 ha {a,vs',A',rfl,ak,rfl,r.keep kt λc hc oc ec=>by rw[au (na c hc)];exact ec} (Zs.mpr {λz=>na a z rfl,nd}) Vz hU (λc hc z=>?_),Vz}
 rcases Y6.mp hc with rfl|hc
 ·exact(s.dm i c ha).2.2.2 (hU c z)
 ·by_cases q:c∈A
  ·exact(s.dm i c (by rw[h3];simp[q])).2.2.2 (hU c z)
  ·exact TF c hc q z
def BV {own:Nat->List Addr}{i:Nat}{A':List Addr}(h:∀c∈A',c∈own i):∀c,Wn (aH own i A') c->Wn own c:=λc Gb=>by
 obtain⟨j,hj⟩:=Gb
 by_cases aD:i=j
 ·rw[<- aD,os_eq]at hj;exact{i,h c hj}
 ·rw[a5 aD]at hj;exact{(j),hj}
def Jm {P:Y7}{w:Zj}{H:Hp}{own:Nat->List Addr}{Z:Hp×(Addr->Prop)}{d:D}{v:V}{A:List Addr}(r:Own P w H d v A)(h:∀c∈A,¬ Wn own c/\C.H0 c=none):KV P w C Z own H (sk .dt d) d v:=by
 have q:aC P w (av C (Wn own) .dt) H d v:=r.rep λc hc z=>z.elim (h c hc).1 λz=>z (h c hc).2;cases d with
 |int i=>exact KV.flat rfl q
 |bl i=>exact KV.flat rfl q
 |cN=>exact KV.flat rfl q
 |str i=>exact KV.flat rfl q
 |_=>exact q
def aR.concat {P:Y7}{w:Zj}{H:Hp}{ds:List D}{d:D}{vs:List V}{A:List Addr}(h:aR P w H (ds++[d]) vs A):∃us v A1 A2,vs=us++[v]/\A=A1++A2/\aR P w H ds us A1/\Own P w H d v A2:=by
 obtain⟨v,A1,A2,A3,g1,g2,g3,g4,g5⟩:=h.split (i:=ds.length) (d:=d) (by simp)
 rw[List.take_left]at g3;have e3:aR P w H [] (vs.drop (ds.length+1)) A3:=by simpa using g5
 have hl:=h.length;rw[Zk,abW]at hl;refine{vs.take ds.length,v,A1,A2,?_,by rw[g2,e3.2,aar],g3,g4}
 have dE:ds.length<vs.length:=by lia
 have e1:vs=vs.take ds.length++vs.drop ds.length:=(abg _ _).symm;rw[Z6 dE,e3.1]at e1;have:vs[ds.length]=v:=by
  have:=Y5 dE;rw[g1]at this;exact(ZZ this).symm
 rw[this]at e1;exact e1
def Jk (hN:X.N[i]?=some x:=by rfl)(hv:oK X.env.scope x:=by first|exact .inl rfl|exact .inr (.inl rfl)|exact .inr (.inr rfl))(hd:(x==("__debug__" : Str))=false:=by decide)(eU:(x==("__classdict__" : Str))=false:=by decide)
  (cS:aaH (.Name x px) "pop" X.env (eval (.Name x px) X.env)=eval (.Name x px) X.env:=by rfl) (cR:(ap.endLine==cp.line)=true:=by rfl) :
  PQ X C false (.Call (.Attribute (.Name x px) "pop" ap) [] [] cp) (λβ R=>∃ds d,β[i]?=some (some (.own (.lst (ds++[d]))))/\R d (sk .dt d) (β.set i (some (.own (.lst ds))))) :=
 ⟨λβ R R' k Ga=>by obtain⟨ds,d,h1,q⟩:=Ga;exact{ds,d,h1,k _ _ _ q},(Jr (apos:=ap) (cpos:=cp) PySem.F.plainAttrs_list PySem.F.slot_list_pop PySem.F.type_list_pop JX (bY (pos:=px) hN hv hd eU) cS cR).pre λσ H Q KG=>by
  obtain⟨β,own,s,ds,d,hb,q⟩:=KG;obtain⟨a,vs,A,h1,h2,h3,h4⟩:=s.ug hb;obtain⟨us,v,A1,A2,rfl,rfl,g3,g4⟩:=h4.concat;have nd:=s.jq i;rw[h3]at nd;obtain⟨Hr,FP,Hq⟩:=aam.mp (Zs.mp nd).2;obtain⟨s2,hA⟩:=s.putL (C:=C) (U:=C.U) (U2:=C.U) (ds':=ds) (vs':=us) (A':=A1) hb h1 h2 h3 g3 Hr (λc hc=>.inl (by simp[hc])) (λ_ z=>z) (λc hc n=>absurd (by simp[hc]) n)
  have h0:∀c∈own i,C.H0 c=none:=by obtain⟨_,_,_,h⟩:=s.ow i _ hb;exact h
  have kt:∀b xs,H b=some (.tup xs)->upd H a (.lst us) b=some (.tup xs):=λb xs z=>by rw[au (λz'=>by rw[z',h2]at z;cases z)];exact z
  have na:∀c∈A2,c≠a:=λc hc z=>(Zs.mp nd).1 (by rw[<- z];simp[hc])
  have le:∀c,Wn (aH own i (a::A1)) c->Wn own c:=BV λc hc=>by rw[h3];rcases Y6.mp hc with rfl|hc <;> simp[*]
  refine{.ref a,h1,.inl {rfl,_,dj.of h2},a,_,v,rfl,rfl,h2,by simp,?_}
  rw[List.dropLast_concat];refine q v _ _ {s2,?_,λz=>(nomatch z),le} (Jm (C:=C) (g4.keep kt λc hc oc ec=>by rw[au (na c hc)];exact ec) λc hc=>{λ⟨j,hj⟩=>?_,h0 c (by rw[h3];simp[hc])})
  ·have u:=Sn.upd (Z:=(H,Wn own)) (o':=.lst us) (Sn.refl (H:=H) (W:=Wn own)) h2 (λxs z=>by cases z) {i,by rw[h3];simp}
   exact{λb z=>.inl (le b z),u.k,u.d}
  ·by_cases aD:i=j
   ·rw[<- aD,os_eq]at hj;rcases Y6.mp hj with rfl|hj
    ·exact na _ hc rfl
    ·exact Hq _ hj _ hc rfl
   ·rw[a5 aD]at hj;exact aD (s.jm i j c (by rw[h3];simp[hc]) hj)⟩
end
section
variable {X:Cx}{C:Cfg}{e k:Expr}{φ:aQ}{p:Bool}{i:Nat}{x:Str}{pos px ap cp:Pos}
def ED {Z:Hp×(Addr->Prop)}{H:Hp}{own:Nat->List Addr}{a:Addr}{o oa:HO}{A':List Addr}{U:Addr->Prop}(n:Sn Z H (Wn own))(m:∀a,U a->Z.1 a=none)(h2:H a=some oa)(ht:∀xs,oa≠.tup xs)(ha:Wn own a)(hA:∀c∈A',c∈own i\/(C.H0 c=none/\¬ Wn own c/\U c)):Sn Z (upd H a o) (Wn (aH own i A')) :=
 jg n m ha {(oa),h2,ht} hA
def zi (he:PQ X C.z p e φ)(hN:X.N[i]?=some x:=by rfl)(hv:oK X.env.scope x:=by first|exact .inl rfl|exact .inr (.inl rfl)|exact .inr (.inr rfl))(hd:(x==("__debug__" : Str))=false:=by decide)(eU:(x==("__classdict__" : Str))=false:=by decide)
  (cS:aaH (.Name x px) "extend" X.env (eval (.Name x px) X.env)=eval (.Name x px) X.env:=by rfl)
  (iy:((aag cp (Y9 [e] X.env)).all (λx=>!x.1)&&(acg cp (abo [] X.env)).all (λx=>x.1.isSome)&&decide ([e].length+([]:List aa2).length+(if ([]:List aa2).isEmpty then 0 else 1)<30))=true:=by rfl)
  (cR:(ap.endLine==cp.line)=true:=by rfl) (hs:Y9 [e] X.env=(false,eval e X.env)::Y9 [] X.env:=by rfl) (cw:(aag cp (Y9 [] X.env)).any (·.1)=false:=by rfl)
  (o8:aaw (.Call (.Attribute (.Name x px) "extend" ap) [e] [] cp) none pos.line X.env=pure false:=by rfl) :
  PB X C (.Expr (.Call (.Attribute (.Name x px) "extend" ap) [e] [] cp) pos) (λE β=>(∃ds,β[i]?=some (some (.own (.lst ds))))/\φ β λd _ β'=>∃ds es,d=.lst es/\D.cK es=true/\β'[i]?=some (some (.own (.lst ds)))/\ds.length+es.length<=Zd/\E.nx (β'.set i (some (.own (.lst (ds++es)))))):=by
 refine⟨λE E' β l Ku=>by obtain⟨h1,q⟩:=Ku;exact{h1,he.mono _ _ _ (λd k β' Se=>by obtain⟨ds,es,h1,h2,h3,h4,q⟩:=Se;exact{ds,es,h1,h2,h3,h4,l.nx _ q}) q},
  (fB (pos:=pos) (pV (apos:=ap) (cpos:=cp) PySem.F.plainAttrs_list PySem.F.slot_list_extend PySem.F.type_list_extend zt (bY (pos:=px) hN hv hd eU) (aZ he.pe cq hs) cS iy cR hs cw) o8).pre λD σ H ⟨Z,E,β,⟨own,s0,n⟩,⟨⟨T3,uB⟩,q⟩,ok⟩=>?_⟩
 obtain⟨a0,Ym,A0,z1,z2,z3,z4⟩:=s0.ug uB;refine{.ref a0,z1,.inl {rfl,_,dj.of z2},tQ.of he s0 q λd kk β' v H1 ay wF o r=>?_};obtain⟨ds,es,e1,f,hb,hl,q⟩:=wF;subst e1;obtain⟨b,us,rfl,HI,_,rb⟩:=r.rep;obtain⟨a,vs,A,h1,h2,h3,h4⟩:=o.sq.ug hb;rw[z1]at h1;cases h1;have nd:=o.sq.jq i;rw[h3]at nd;obtain⟨s2,hA⟩:=o.sq.putL (C:=C) (U:=λ_=>False) (U2:=λ_=>False) (ds':=ds++es) (vs':=vs++us) (A':=A) hb z1 h2 h3 (by simpa using h4.append (f9 f rb)) (Zs.mp nd).2 (λc hc=>.inl hc) (λ_ z=>z) (λc hc n=>absurd hc n)
 exact{a0,b,vs,us,rfl,rfl,h2,HI,by rw[h4.length,rb.length];exact hl,ok.nx _ _ _ {_,s2,ED (n.trans o.sn) (λ_ z=>z.elim) h2 (λxs z=>by cases z) {i,by rw[h3];simp} hA} q}
end
end L2.Q
namespace L2
open PySem PySem.Spec PySem.SeqAt PyProof.Rows
namespace Q
section
variable {P:Y7}{w:Zj}{C:Cfg}{σ:St}{H:Hp}{β:bb}{own:Nat->List Addr}{lk:List (Option Nat)}{a:Addr}
def bj.Dp {o:HO}(ho:∀xs,o≠.tup xs)(s:bj P w C σ H β own)(ha:H a=none)(inj:∀(i i' j:Nat),lk[i]?=some (some j)->lk[i']?=some (some j)->i=i'):
  bj P w (C.u λc=>c=a) (fc lk σ) (upd H a o) (b9 lk β) (df lk β own):=by
 have h0:C.H0 a=none:=ZH λz=>s.fS a z ha;have q:=(s.enter ha inj).Mz (o:=o) ak (λxs z=>by cases z) h0
 have e:upd (upd H a (.lst [])) a o=upd H a o:=by
  funext b
  by_cases hb:b=a
  ·rw[hb,ak,ak]
  ·rw[au hb,au hb,au hb]
 rwa [e]at q
end
end Q
end L2
namespace L2.Q
open PySem PySem.Spec PySem.SeqAt PyProof.Rows
abbrev Ni (l:Bool)(ds:List D):D:=match l with|true=>.lst ds|false=>.tup ds
section
variable {P:Y7}{w:Zj}{H:Hp}{A:List Addr}{v:V}{ds:List D}{l:Bool}
def tS {m:Nat}{es:List D}(r:Own P w H (Ni l ds) v A)(nd:A.Nodup)(hm:ds[m]?=some (.lst es)):∃a vs c us B,v=.ref a/\H a=some (match l with|true=>.lst vs|false=>.tup vs)/\vs.length=ds.length/\vs[m]?=some (.ref c)/\H c=some (.lst us)/\c∈A/\aR P w H es us B/\(∀x∈B,x∈A/\x≠c)/\B.Nodup /\
  ∀es' us' B',aR P w H es' us' B'->B'.Nodup->(∀x∈B',x∈B\/x∉A)->(∀x∈B',x≠c)->∃A',Own P w (upd H c (.lst us')) (Ni l (ds.set m (.lst es'))) v A'/\A'.Nodup/\∀x∈A',x∈A\/x∈B':=by
 have core:∀{vs:List V} {A:List Addr},A.Nodup->aR P w H ds vs A->∃c us B,vs[m]?=some (.ref c)/\H c=some (.lst us)/\c∈A/\aR P w H es us B/\(∀x∈B,x∈A/\x≠c)/\B.Nodup /\
   ∀es' us' B',aR P w H es' us' B'->B'.Nodup->(∀x∈B',x∈B\/x∉A)->(∀x∈B',x≠c)->∃A',aR P w (upd H c (.lst us')) (ds.set m (.lst es')) vs A'/\A'.Nodup/\(∀x∈A',x∈A\/x∈B'):=λ{vs A} nd os=>by
  have hl:=os.length;have Xa:m<ds.length:=(Y_.mp hm).1;obtain⟨u,A1,A2,A3,g1,rfl,g3,⟨c,us,B,rfl,h2,rfl,h4⟩,g5⟩:=os.split hm;obtain⟨Hr,FP,Hq⟩:=aam.mp nd;obtain⟨U5,Wm,U4⟩:=aam.mp FP;have Wq:=(Zs.mp U5).1;refine{c,us,B,g1,h2,by simp,h4,λx hx=>{by simp[hx],λz=>Wq (by rw[<- z];exact hx)},(Zs.mp U5).2,λes' us' B' o' n' gY jr=>?_}
  have kt:∀b xs,H b=some (.tup xs)->upd H c (.lst us') b=some (.tup xs):=λb xs z=>by rw[au (λz'=>by rw[z',h2]at z;cases z)];exact z
  have n1:∀x∈A1,x≠c:=λx hx z=>Hq x hx c (by simp) z
  have n3:∀x∈A3,x≠c:=λx hx z=>U4 c (by simp) x hx z.symm
  have off:∀x∈B',x∉A1/\x∉A3:=λx hx=>by
   rcases gY x hx with z|z
   ·exact{λq=>Hq x q x (by simp[z]) rfl,λq=>U4 x (by simp[z]) x q rfl}
   ·exact{λq=>z (by simp[q]),λq=>z (by simp[q])}
  have Vh:m<vs.length:=by lia
  have ev:vs=vs.take m++V.ref c::vs.drop (m+1):=by
   have e1:vs=vs.take m++vs.drop m:=(abg _ _).symm;rw[Z6 Vh]at e1;have:vs[m]=V.ref c:=by
    have:=Y5 Vh;rw[g1]at this;exact(ZZ this).symm
   rwa [this]at e1
  refine{A1++((c::B')++A3),?_,aam.mpr {Hr,aam.mpr {Zs.mpr {λz=>jr c z rfl,n'},Wm,λx hx y hy=>?_},λx hx y hy z=>?_},λx hx=>?_}
  ·rw[List.set_eq_take_append_cons_drop,if_pos Xa];have q:aR P w (upd H c (.lst us')) (ds.take m++.lst es'::ds.drop (m+1)) (vs.take m++.ref c::vs.drop (m+1)) (A1++((c::B')++A3)) :=
    (g3.keep kt λx hx oc ec=>by rw[au (n1 x hx)];exact ec).append {.ref c,_,c::B',A3,rfl,rfl,{c,us',B',rfl,ak,rfl,o'.keep kt λx hx oc ec=>by rw[au (jr x hx)];exact ec},g5.keep kt λx hx oc ec=>by rw[au (n3 x hx)];exact ec}
   rw[<- ev]at q;exact q
  ·intro z;subst z;rcases Y6.mp hx with rfl|hx
   ·exact n3 _ hy rfl
   ·exact(off x hx).2 hy
  ·subst z;rcases Zt.mp hy with hy|hy
   ·rcases Y6.mp hy with rfl|hy
    ·exact n1 _ hx rfl
    ·exact(off x hy).1 hx
   ·exact Hq x hx x (by simp[hy]) rfl
  ·rcases Zt.mp hx with hx|hx
   ·exact .inl (by simp[hx])
   ·rcases Zt.mp hx with hx|hx
    ·rcases Y6.mp hx with rfl|hx
     ·exact .inl (by simp)
     ·exact .inr hx
    ·exact .inl (by simp[hx])
 cases l with
 |true =>
  obtain⟨a,vs,A',rfl,h2,rfl,h4⟩:=r;obtain⟨na,LK⟩:=Zs.mp nd;obtain⟨c,us,B,q1,q2,q3,q4,q5,q6,q7⟩:=core LK h4;have ca:c≠a:=λz=>na (by rw[<- z];exact q3)
  refine{a,vs,c,us,B,rfl,h2,h4.length,q1,q2,by simp[q3],q4,λx hx=>{by simp[(q5 x hx).1],(q5 x hx).2},q6,λes' us' B' o' n' gY jr=>?_}
  obtain⟨A2,g1,g2,g3⟩:=q7 es' us' B' o' n' (λx hx=>(gY x hx).imp id λz q=>z (by simp[q])) jr
  refine{a::A2,{a,vs,A2,rfl,by rw[au ca.symm];exact h2,rfl,g1},Zs.mpr {λz=>?_,g2},λx hx=>?_}
  ·rcases g3 a z with z|z
   ·exact na z
   ·rcases gY a z with z|z
    ·exact na (q5 a z).1
    ·exact z (by simp)
  ·rcases Y6.mp hx with rfl|hx
   ·exact .inl (by simp)
   ·exact(g3 x hx).imp (λz=>by simp[z]) id
 |false =>
  obtain⟨a,vs,rfl,h2,h4⟩:=r;obtain⟨c,us,B,q1,q2,q3,q4,q5,q6,q7⟩:=core nd h4;have ca:a≠c:=λz=>by rw[z,q2]at h2;cases h2
  refine{a,vs,c,us,B,rfl,h2,h4.length,q1,q2,q3,q4,q5,q6,λes' us' B' o' n' gY jr=>?_};obtain⟨A2,g1,g2,g3⟩:=q7 es' us' B' o' n' gY jr;exact{A2,{a,vs,rfl,by rw[au ca];exact h2,g1},g2,g3}
end
section
variable {X:Cx}{C:Cfg}{e k:Expr}{φ φk:aQ}{i:Nat}{x:Str}{pos px kp ap cp:Pos}
def lQ (l:Bool)(he:∀U,PQ X (C.u U) true e φ)(hk:∀U,PQ X (C.u U) true k φk)(hN:X.N[i]?=some x:=by rfl)(hv:oK X.env.scope x:=by first|exact .inl rfl|exact .inr (.inl rfl)|exact .inr (.inr rfl))(hd:(x==("__debug__" : Str))=false:=by decide)(eU:(x==("__classdict__" : Str))=false:=by decide)
  (Ox:gM k:=by exact λ_ _=>rfl)
  (cS:aaH (.Subscript (.Name x px) k kp) "append" X.env (eval (.Subscript (.Name x px) k kp) X.env)=eval (.Subscript (.Name x px) k kp) X.env:=by rfl)
  (iy:((aag cp (Y9 [e] X.env)).all (λx=>!x.1)&&(acg cp (abo [] X.env)).all (λx=>x.1.isSome)&&decide ([e].length+([]:List aa2).length+(if ([]:List aa2).isEmpty then 0 else 1)<30))=true:=by rfl)
  (cR:(ap.endLine==cp.line)=true:=by rfl) (hs:Y9 [e] X.env=(false,eval e X.env)::Y9 [] X.env:=by rfl) (cw:(aag cp (Y9 [] X.env)).any (·.1)=false:=by rfl)
  (o8:aaw (.Call (.Attribute (.Subscript (.Name x px) k kp) "append" ap) [e] [] cp) none pos.line X.env=pure false:=by rfl) :
  PB X C (.Expr (.Call (.Attribute (.Subscript (.Name x px) k kp) "append" ap) [e] [] cp) pos) (λE β=>(∃d0,β[i]?=some (some (.own d0)))/\φk β λjd _ β1=>∃ds j m es,jd=.int j/\β1[i]?=some (some (.own (Ni l ds)))/\sd ds.length j=some m/\ds[m]?=some (.lst es)/\φ β1 λd kd β2=>F3 kd d/\β2[i]?=some (some (.own (Ni l ds)))/\es.length<Zd/\E.nx (β2.set i (some (.own (Ni l (ds.set m (.lst (es++[d]))))))) ):=by
 refine{λE E' β l ux=>by obtain⟨q0,q⟩:=ux;exact{q0,(hk λ_=>False).mono _ _ _ (λjd _ β1 nM=>by obtain⟨ds,j,m,es,h1,h2,h3,h4,q⟩:=nM;exact{ds,j,m,es,h1,h2,h3,h4,(he λ_=>False).mono _ _ _ (λd kd β2 uw=>by obtain⟨g1,g2,g3,q⟩:=uw;exact{g1,g2,g3,l.nx _ q}) q}) q},λpins s σ H De I i5=>?_}
 obtain⟨Z,E,β,⟨own,sq,n⟩,⟨⟨d0,Tq⟩,q⟩,ok⟩:=i5;have ix:Il X (λx y H Q=>MF X.K x y H Q\/ME X.K x y H Q):=λvalue slice pins s σ H x y v u Q I rx ry h hs=>h.elim (λh=>b_ value slice pins s σ H x y v u Q I rx ry h hs) λh=>CD value slice pins s σ H x y v u Q I rx ry h hs;refine fB (pos:=pos) (pV (apos:=ap) (cpos:=cp) PySem.F.plainAttrs_list PySem.F.slot_list_append PySem.F.type_list_append gb (fC (pos:=kp) ix (bY (pos:=px) hN hv hd eU) (hk λa=>H a=none).pe Ox) (aZ (he λa=>H a=none).pe cq hs) cS iy cR hs cw) o8 pins s σ H De I ?_;have V3:=sq.lJ (C:=C.z) (U:=λa=>H a=none) λa z=>z;obtain⟨v0,lh,_,_⟩:=sq.ow i d0 Tq;refine{v0,lh,tQ.of (hk λa=>H a=none) V3 q λjd kk β1 kv H1 ay l5 o r=>?_};obtain⟨ds,j,m,es,e1,hb,hj,hm,q⟩:=l5;subst e1;cases r.rep;obtain⟨v,CK,ow,h0⟩:=o.sq.ow i _ hb;rw[lh]at CK;cases CK;obtain⟨a,vs,c,us,B,rfl,q1,q2,q3,q4,q5,q6,q7,q8,q9⟩:=tS ow (o.sq.jq i) hm;have Ic:lB vs j=some (.ref c):=by unfold lB;rw[q2,hj];exact q3
 have UW:Pq X.K "list" (.ref c) H1/\G_ (tQ X (C.u λa=>H a=none) true φ) Mp σ H1 λxs H2=>xC (.ref c) xs H2 λ_ H1=>De.nx σ H1:=by
  refine{.inl {rfl,us,dj.of q4},tQ.of (he λa=>H a=none) o.sq q λd kd β2 v2 H2 bH wF o2 r2=>?_};obtain⟨f,P7,hl,q⟩:=wF;obtain⟨s2,e2⟩:=o2.pu rfl;obtain⟨v',Vb,Wg,YQ⟩:=o2.sq.ow i _ P7;rw[lh]at Vb;cases Vb;obtain⟨a',vs',c',us',B',ea,p1,p2,p3,p4,p5,p6,p7,p8,p9⟩:=tS Wg (o2.sq.jq i) hm;cases ea;have e3:=s2 _ _ q1;rw[p1]at e3;have ev:vs'=vs:=by cases l <;> (cases e3;rfl)
  subst ev;rw[q3]at p3;cases p3;have e4:=s2 _ _ q4;rw[p4]at e4;cases e4;obtain⟨A,r1,rn,r3⟩:=r2.fl f;have JS:∀x∈A,x∉bH i:=λx hx z=>(r3 x hx).2.1 {(i),z};obtain⟨A',g1,g2,g3⟩:=p9 (es++[d]) (us++[v2]) (B'++A) (p6.append (aR.one r1)) (aam.mpr {p8,rn,λx hx y hy z=>JS y hy (by rw[<- z];exact(p7 x hx).1)})
   (λx hx=>(Zt.mp hx).imp id (JS x)) (λx hx z=>by
    rcases Zt.mp hx with hx|hx
    ·exact(p7 x hx).2 z
    ·exact JS x hx (by rw[z];exact p5))
  have hA:∀x∈A',x∈bH i\/(C.H0 x=none/\¬ Wn bH x/\H x=none):=λx hx=>by
   rcases g3 x hx with z|z
   ·exact .inl z
   ·rcases Zt.mp z with z|z
    ·exact .inl (p7 x z).1
    ·exact .inr {(r3 x z).2.2,(r3 x z).2.1,o.sn.free (r3 x z).1}
  exact{c,us,v2,rfl,rfl,p4,by rw[p6.length];exact hl,ok.nx _ _ _ {_,o2.sq.putIn (C:=C) (U:=λa=>H a=none) P7 lh p5 g1 g2 hA,jg ((n.trans o.sn).trans o2.sn) (λb z=>n.free z) {(i),p5} {_,p4,λxs z=>by cases z} hA} q}
 cases l with
 |true=>exact .inl {a,vs,j,.ref c,rfl,rfl,dj.of q1,Ic,UW}
 |false=>exact .inr {a,vs,j,.ref c,rfl,rfl,u_.of q1,Ic,UW}
end
end L2.Q
namespace L2
open PySem PySem.Spec PySem.SeqAt PyProof.Rows
structure Bs2 (mg:Str->Option Y1):Prop extends Bs mg where
 LO:mg "isinstance" = none
 tuple:mg "tuple" = none
 str:mg "str" = none
 bool:mg "bool" = none
 zip:mg "zip" = none
 enumerate:mg "enumerate" = none
def DA {d:D}{n:Nat}(h:d.pd.canLay0=true/\d.pd.depth<=n)(hn:n<=64:=by decide):Lg d d=some (.bl true):=wY (h8 h hn) (h8 h hn) (eqv_refl _ h.1)
end L2
namespace L2.Q
open PySem PySem.Spec PySem.SeqAt PyProof.Rows
structure sQ (X:Cx)(C:Cfg)(p:Bool)(ifs:List Expr)(τ:a_):Prop where
 mono:∀β R R',(∀d β,R d β->R' d β)->τ β R->τ β R'
 pt:yD X ifs (kA X C p τ)
def cM {X:Cx}{C:Cfg}:sQ X C true [] Mi:={λ_ _ _ k h=>k _ _ h,BK}
def Bb {X:Cx}{C:Cfg}{p:Bool}{c:Expr}{τ:a_}(h:vw X C p c τ):sQ X C p [c] τ:={h.mono,BJ h}
section
variable {X:Cx}{y:Str}
def bx:Il X (yX X vn NF):=λvalue slice pins s σ H x y v u Q I rx ry ⟨W,d1,d2,d,hd,r1,r2,e,q⟩ hs =>
 Kj value slice pins s σ H x y v u Q I rx ry {W,d1,d2,d,hd,r1,r2,e,λv H' s r=>q v H' s r λf=>aC.flat f r} hs
end
def Ag (ns:List Int)(lo hi:Option Int):∃ms:List Int,uX (ns.map V.int) lo hi=ms.map V.int/\ms.length<=ns.length:=by
 refine{(ns.drop (HT.m5 (ns.map V.int).length 0 lo)).take (HT.m5 (ns.map V.int).length (ns.map V.int).length hi-HT.m5 (ns.map V.int).length 0 lo),?_,?_}
 ·unfold uX;rw[List.map_take,List.map_drop]
 ·rw[ZI,abZ];lia
section
variable {P:Y7}{w:Zj}
theorem cE {W:Addr->Prop}{H:Hp}:∀ns:List Int,ai P w W H (ns.map D.int) (ns.map V.int)
 |[]=>rfl
 |n::ns=>{_,_,rfl,rfl,cE ns}
def EA {N:List Str}{vs:List V}{H H':Hp}{n:Nat}{ro:Bool}{U:Addr->Prop}(hl:(L2.start N vs).length=n)(sm:aB H H'):bj P w {H,λ_=>False,ro,U} (L2.start N vs) H' (Zr n none) (λ_=>[]) :=
 {by rw[hl,List.length_replicate],λi y d h=>(fY h).elim,λi d h=>(fY h).elim,λi ok h=>(fY h).elim,λi a h=>(nomatch h),λi j a h=>(nomatch h),λi=>Z5,sm.kp,λa z e=>z (sm.free e),λi y d h=>(fY h).elim}
def MC {ro:Bool}{H H':Hp}{b:Bool}{v:V}(h:me P w ro H H' (.bl b) v):v=.bl b:=by
 cases ro with
 |true=>obtain⟨A,h1,_⟩:=h;exact h1.1
 |false=>exact h
end
end L2.Q
namespace L2
open PySem PySem.Spec PySem.SeqAt PyProof.Rows
abbrev Jc (n:Int)(rows:List (List Int)):D:=.tup [.int n,.lst (rows.map kD)]
def yQ (n:Int)(rows:List (List Int)):(Jc n rows).pd.canLay0=true/\(Jc n rows).pd.depth<=4:=pI λd hd=>by
 rcases Y6.mp hd with rfl|hd
 ·exact{(dc n).1,ZX (dc n).2 (by decide)}
 ·rw[Zc.mp hd];exact vM rows
end L2
namespace L2.Q
open PySem PySem.Spec PySem.SeqAt PyProof.Rows
def pY (ns:List Int):Prop:=∃x y z:Int,ns=[x,y,z]/\0<=x
def Dg:FD:=λds R=>∃c:Int,ds=[.int c]/\∀ns,pY ns->R (.lst (ns.map D.int))
def Dg.mono:dq Dg:=λds R R' k ⟨c,e,q⟩=>{c,e,λns o=>k _ (q ns o)}
section
variable {P:Y7}{w:Zj}{H:Hp}{h:Addr}
theorem tT {H:Hp}:∀ns:List Int,aR P w H (ns.map D.int) (ns.map V.int) []
 |[]=>{(rfl),rfl}
 |n::ns=>{_,_,[],[],rfl,rfl,{(rfl),rfl},tT ns}
def vV {xs ys:List V}(e:H h=some (.lst xs)):Kp (·=h) H (upd H h (.lst ys)):={λb u hb nb=>by rw[au nb];exact hb,λb LD hb=>by rw[au λz=>by rw[z,e]at hb;cases hb];exact hb}
def vW {ys:List V}:∀c,H c≠none->upd H h (.lst ys) c≠none:=λc hc=>by
 by_cases z:c=h
 ·rw[z,ak];exact λz=>(nomatch z)
 ·rw[au z];exact hc
def xS {H':Hp}{r:Int}:me P w true H H' (.int r) (.int r):=eR (W:=λ_=>False) rfl rfl
end
end L2.Q
namespace hJ
open PySem L2 L2.Q
section
variable (K:PySem.W.Frag)(mg:Str->Option Y1)(f:Addr)(fd:ZL)
abbrev D0:Prop:=Df K mg "_law_row" iN ["deck","most"] f fd
abbrev D1:Prop:=Df K mg "_law_take" eY ["deck","many"] f fd
abbrev D2:Prop:=Df K mg "stretches_rising" bW ["many"] f fd
abbrev D3:Prop:=Df K mg "partners_of" dS ["row"] f fd
abbrev D4:Prop:=Df K mg "number_with" dW ["worth","table","i","k","j"] f fd
abbrev D5:Prop:=Df K mg "least_number" dw ["partners","worth","table","i","j"] f fd
abbrev D6:Prop:=Df K mg "greatest_table" cC ["row","worth"] f fd
abbrev D7:Prop:=Df K mg "parts_left" eJ ["i","k","j"] f fd
abbrev D8:Prop:=Df K mg "best_choices" dy ["partners","worth","table","i","j"] f fd
abbrev D9:Prop:=Df K mg "first_greatest" cD ["row","worth","table","i","j"] f fd
abbrev VN:Prop:=Df K mg "_law_weights" dX ["deck","many"] f fd
abbrev yG:Prop:=Df K mg "check_weights" b5 ["row","weights"] f fd
abbrev yF:Prop:=Df K mg "weight_by_tie" cZ ["row","weights"] f fd
abbrev Po:Prop:=Df K mg "heaviest" e9 ["row","weights"] f fd
abbrev El:Prop:=Df K mg "sets_with" fv ["tie","by_tie","beneath","behind"] f fd
abbrev Ek:Prop:=Df K mg "put_better" eI ["best","sets"] f fd
abbrev G5:Prop:=Df K mg "best_by_size" dz ["row","weights"] f fd
abbrev L8:Prop:=Df K mg "heaviest_of" cO ["row","weights","many"] f fd
abbrev Pn:Prop:=Df K mg "greatest_weights" bE ["row","weights"] f fd
abbrev LB:Prop:=Df K mg "has_shape" fx ["paper","many"] f fd
abbrev L7:Prop:=Df K mg "paper_holds" dU ["row","worth","paper"] f fd
abbrev Pm:Prop:=Df K mg "weights_show" cj ["row","weights","paper"] f fd
abbrev Qo:Prop:=Df K mg "_law_kind" gw ["caught"] f fd
abbrev Uv:Prop:=Df K mg "_law_word" gv ["asked","row","weights","more"] f fd
abbrev Uu:Prop:=Df K mg "_law_due" iO ["asked","row","weights","more"] f fd
abbrev Ut:Prop:=Df K mg "_law_copied" eM ["row"] f fd
abbrev VM:Prop:=Df K mg "_law_right" fw ["row","weights","numbers"] f fd
abbrev VL:Prop:=Df K mg "_law_cell_at" dY ["script","k"] f fd
abbrev Yk:Prop:=Df K mg "_law_deck" eZ ["cell"] f fd
end
section
variable {P:Y7}{w:Zj}{K:PySem.W.Frag}{mg:Str->Option Y1}{base:Heap}
def tx:aJ ["cell"] ["cell"] (ao eZ):=mkS
def FG {f:Addr} {fd:ZL} (F:AL K "_law_deck" "_law_deck" eZ f fd) (B:Bs mg):aE P w K mg base bI 1 f fd ["cell"] (cY P w true Dg):=by
 refine F.ok tx (λvs H Q E h=>?_) (λbQ A outer s H vs Q E hr h=>?_)
 ·obtain⟨ds,r,c,rfl,_⟩:=h;obtain⟨x,rr,rfl,_,hr⟩:=r;cases (show rr=[] from hr)
  rfl
 ·obtain⟨ds,r,c,rfl,q⟩:=h;obtain⟨x,rr,rfl,hx,RU⟩:=r;cases (show rr=[] from RU)
  cases (show x=V.int c from hx)
  refine⟨_,fA (gx (v9 (aZ (ij (qI rfl) (by rfl) B.max xa (aZ ba (aZ (cQ BY (pv 0) (cQ BZ ba ba)) cq)))
   (aZ (cQ ik (pv 0) ba) (aZ ba cq))))),?_⟩
  refine{_,rfl,_,_,rfl,rfl,MU,_,_,rfl,rfl,_,_,rfl,?_};refine{_,rfl,_,_,rfl,rfl,(by show (0:Int)<2147483629;decide),(by show 3<=Zd;decide),λp hp=>?_}
  refine q [_,_,_] {_,_,_,rfl,?_} _ _ (aB.new hp) {[p],{p,_,[],rfl,ak,rfl,tT [_,_,_]},by simp,λc hc=>by rw[Zc.mp hc];exact hp}
  split <;> lia
def ft:aJ ["deck","many","digit","stir"] ["deck","many"] (ao eY):=mkS
def rP {f:Addr} {fd:ZL} (F:AL K "_law_take" "_law_take" eY f fd):aE P w K mg base bI 1 f fd ["deck","many"] (oQ P w pY true bw):=by
 refine F.ok ft (λvs H Q E h=>?_) (λbQ A outer s H vs Q E hr h=>?_)
 ·obtain⟨h,vs',ds,ns,rfl,_,_,r,n,rfl,_⟩:=h;obtain⟨x,rr,rfl,_,hr⟩:=r;cases (show rr=[] from hr)
  rfl
 ·obtain⟨h,vs',ds,ns,rfl,e,⟨x,y,z,rfl,x0⟩,r,n,rfl,n0,n1,q⟩:=h;obtain⟨x',rr,rfl,F_,RU⟩:=r;cases (show rr=[] from RU)
  cases (show x'=V.int n from F_)
  have hx:H h=some (.lst [.int x,.int y,.int z]):=e;refine⟨_,cP (rB (cQ rO (fC b_ (pv 0) ba (λ_ _=>rfl)) ba) (v7 (pv 0) ba set_list))
   (cP (BG (rq Hn (fC b_ (pv 0) ba (λ_ _=>rfl)) ba (Cd _))
    (cP (kO (i:=2) ft.nd rfl (Or.inl rfl) (cQ ik (fC b_ (pv 0) ba (λ_ _=>rfl)) ba))
    (cP (rB (cQ m9 (fC b_ (pv 0) ba (λ_ _=>rfl)) ba) (v7 (pv 0) ba set_list))
    (fA (gx (cQ ik (pv 2) (pv 1)))))) rA)
   (cP (kO (i:=3) ft.nd rfl (Or.inl rfl) (cQ ik (cQ kQ (cQ rO (fC b_ (pv 0) ba (λ_ _=>rfl)) (cQ kQ ba (fC b_ (pv 0) ba (λ_ _=>rfl)))) ba) ba))
   (cP (kO (i:=3) ft.nd rfl (Or.inl rfl) (cQ ik (cQ kQ (pv 3) (pv 3)) ba))
   (fA (gx (cQ ik (cQ m9 (cQ ik (cQ kQ (cQ rO (pv 3) (cQ kQ ba (fC b_ (pv 0) ba (λ_ _=>rfl)))) ba) ba) ba) (pv 1))))))),?_⟩
  refine{_,rfl,h,_,_,_,rfl,rfl,dj.of hx,rfl,_,_,rfl,rfl,?_};refine{_,rfl,h,_,_,2,rfl,rfl,hx,rfl,?_};have hy:upd H h (.lst ([V.int x,V.int y,V.int z].set 2 (V.int (z+1)))) h=some (.lst [V.int x,V.int y,V.int (z+1)]):=ak;refine{_,rfl,h,_,_,_,rfl,rfl,dj.of hy,rfl,_,_,rfl,rfl,_,rfl,?_};refine Rx (λhp=>?_) (λhp=>?_)
  ·refine{_,rfl,h,_,_,_,rfl,rfl,dj.of hy,rfl,_,_,rfl,rfl,(by show (0:Int)<65536;decide),?_}
   refine{_,rfl,h,_,_,_,rfl,rfl,dj.of hy,rfl,_,_,rfl,rfl,qR.of (by decide) (by decide),?_}
   refine{_,rfl,h,_,_,0,rfl,rfl,hy,rfl,?_};have m:=rV (a:=x % 65536) n0;exact{_,rfl,_,rfl,_,_,rfl,rfl,n0,q _ m.1 m.2 _ _ [x / 65536,y,z+1] ((vV hx).trans (vV hy)) (λc hc=>vW c (vW c hc)) ak {_,_,_,rfl,Int.ediv_nonneg x0 (by decide)} xS}
  ·refine{_,rfl,h,_,_,_,rfl,rfl,dj.of hy,rfl,_,rfl,h,_,_,_,rfl,rfl,dj.of hy,rfl,_,_,rfl,rfl,.inl {by decide,by decide},_,_,rfl,rfl,_,_,rfl,rfl,.inr {by decide,by decide},_,_,rfl,rfl,(by show (0:Int)<2147483647;decide),?_}
   have m1:=rV (a:=(y+7919*(z+1))*48271) (b:=2147483647) (by decide)
   refine{_,rfl,_,rfl,_,_,rfl,rfl,.inl {Int.lt_of_lt_of_le (by decide) m1.1,Int.lt_trans m1.2 (by decide)},_,_,rfl,rfl,(by show (0:Int)<2147483629;decide),?_}
   refine{_,rfl,_,rfl,h,_,_,_,rfl,rfl,dj.of hy,rfl,_,_,rfl,rfl,.inl {by decide,by decide},_,_,rfl,rfl,_,_,rfl,rfl,.inr {by decide,by decide},_,_,rfl,rfl,(by show (0:Int)<2147483563;decide),_,_,rfl,rfl,qR.of (by decide) (by decide),_,rfl,_,_,rfl,rfl,n0,?_}
   have m:=λa:Int=>rV (a:=a) n0;exact q _ (m _).1 (m _).2 _ _ [x,y,z+1] (vV hx) vW ak {_,_,_,rfl,x0} xS
end
end hJ
namespace L2
open PySem PySem.Spec PyProof.Rows
section
variable {κ:Type}[DecidableEq κ]
def gX (kvs:List (κ×V))(k:κ):Option V:=(kvs.find? λkv=>decide (kv.1=k)).map (·.2)
def putK (kvs:List (κ×V))(k:κ)(v:V):List (κ×V) :=
 if (kvs.any λkv=>decide (kv.1=k))=true then kvs.map (λkv=>if kv.1=k then (kv.1,v) else kv) else kvs++[(k,v)]
def mH {p:κ×V}{r:List (κ×V)}{k:κ}(e:p.1=k):gX (p::r) k=some p.2:=by simp[gX,aaq,e]
def mI {p:κ×V}{r:List (κ×V)}{k:κ}(e:¬ p.1=k):gX (p::r) k=gX r k:=by simp[gX,aaq,e]
theorem mJ (k:κ):∀kvs:List (κ×V),(kvs.any λkv=>decide (kv.1=k))=(gX kvs k).isSome
 |[]=>rfl
 |p::r=>by
  rw[List.any_cons]
  by_cases e:p.1=k
  ·simp only[mH e,decide_eq_true e,Bool.true_or,Option.isSome_some]
  ·rw[mI e,decide_eq_false e,Bool.false_or];exact mJ k r
def iu (kvs:List (κ×V))(k:κ)(v:V):(putK kvs k v).length<=kvs.length+1:=by
 unfold putK
 split
 ·rw[Y3];lia
 ·rw[Zk,Zb,aaU];lia
def BC {kvs:List (κ×V)}{k:κ}(v:V)(h:gX kvs k=none):putK kvs k v=kvs++[(k,v)]:=by
 unfold putK;rw[mJ,h];exact if_neg (by decide)
def pj.zL {o:Option V}{u:Option Y1}(r:pj o u):o.isSome=u.isSome:=by
 cases o with
 |none=>cases u with
  |none=>rfl
  |some _=>exact(show False from r).elim
 |some _=>cases u with
  |none=>exact(show False from r).elim
  |some _=>rfl
def KV.val {kvs:List (κ×V)}{vs:List (κ×Y1)}(r:KV kvs vs)(k:κ):pj (gX kvs k) (valueAt vs k):=by
 unfold KV at r
 induction r with
 |nil=>exact True.intro
 | @cons p q ps qs h t ih =>
  obtain⟨h1,h2⟩:=h
  by_cases e:p.1=k
  ·have e':q.1=k:=h1.symm.trans e;have b:valueAt (q::qs) k=some q.2:=by simp[valueAt,aaq,e']
   rw[mH e,b];exact h2
  ·have e':¬ q.1=k:=λz=>e (h1.trans z);have b:valueAt (q::qs) k=valueAt qs k:=by simp[valueAt,aaq,e']
   rw[mI e,b];exact ih
def KV.any {kvs:List (κ×V)}{vs:List (κ×Y1)}(r:KV kvs vs)(k:κ):(kvs.any λkv=>decide (kv.1=k))=vs.any λkv=>decide (kv.1=k):=by
 unfold KV at r
 induction r with
 |nil=>rfl
 |cons h t ih=>rw[List.any_cons,List.any_cons,ih,h.1]
def KV.Jd {kvs:List (κ×V)}{vs:List (κ×Y1)}(r:KV kvs vs)(k:κ){y:V}{u:Y1}(ry:RelV y u):
  KV (kvs.map λkv=>if kv.1=k then (kv.1,y) else kv) (vs.map λkv=>if kv.1=k then (kv.1,u) else kv):=by
 unfold KV at r ⊢
 induction r with
 |nil=>exact .nil
 | @cons p q ps qs h t ih =>
  rw[ZE,ZE];refine .cons ?_ ih;obtain⟨h1,h2⟩:=h
  by_cases e:p.1=k
  ·rw[if_pos e,if_pos (h1.symm.trans e)];exact{(h1),ry}
  ·rw[if_neg e,if_neg (λz=>e (h1.trans z))];exact{(h1),h2}
def KV.put {kvs:List (κ×V)}{vs:List (κ×Y1)}(r:KV kvs vs)(k:κ){y:V}{u:Y1}(ry:RelV y u):KV (putK kvs k y) (stored vs k u):=by
 unfold putK stored;rw[r.any k]
 by_cases e:(vs.any λkv=>decide (kv.1=k))=true
 ·rw[if_pos e,if_pos e];exact r.Jd k ry
 ·rw[if_neg e,if_neg e];exact Paired.snoc r {(rfl),ry}
def KV.length {kvs:List (κ×V)}{vs:List (κ×Y1)}(r:KV kvs vs):kvs.length=vs.length:=Paired.length r
end
def Cz {P:Y7}{w:Zj}{k:Key}{u:Y1}(r:RelV (kV k) u):(bZ P w).is k u=true:=by
 cases k with
 |inl i=>obtain⟨t,e⟩:=(show ∃t,u=Value.int i t from r);subst e;exact t_ P w i t
 |inr x=>obtain⟨t,e⟩:=(show ∃t,u=Value.str x t from r);subst e;exact t9 P w x t
theorem qo {P:Y7}{w:Zj}:∀{ks:List Key} {us:List Y1},Vals (ks.map kV) us->ItemsAre (bZ P w) ks us
 |[],_,r=>by rw[List.map_nil]at r;cases r;exact .nil
 |k::ks,_,r=>by
  rw[ZE]at r;cases r with
  |cons h t=>exact .cons (Cz h) (qo t)
abbrev KT (H:Hp):List (List Key×V)->List (List Key×Addr×Y1)->Prop:=Paired λp q=>p.1=q.1/\H q.2.1=some (.tup (p.1.map kV))/\RelV p.2 q.2.2
def KT.val {H:Hp}{kvs:List (List Key×V)}{xs:List (List Key×Addr×Y1)}(r:KT H kvs xs)(k:List Key):pj (gX kvs k) ((atKey xs k).map (·.2)):=by
 induction r with
 |nil=>exact True.intro
 | @cons p q ps qs h t ih =>
  obtain⟨h1,_,h2⟩:=h
  by_cases e:p.1=k
  ·have e':q.1=k:=h1.symm.trans e;have b:atKey (q::qs) k=some q.2:=by simp[atKey,aaq,e']
   rw[mH e,b];exact h2
  ·have e':¬ q.1=k:=λz=>e (h1.trans z);have b:atKey (q::qs) k=atKey qs k:=by simp[atKey,aaq,e']
   rw[mI e,b];exact ih
def KT.Jd {H:Hp}{kvs:List (List Key×V)}{xs:List (List Key×Addr×Y1)}(r:KT H kvs xs)(k:List Key){y:V}{u:Y1}(ry:RelV y u):
  KT H (kvs.map λkv=>if kv.1=k then (kv.1,y) else kv) (xs.map (putAt k u)):=by
 induction r with
 |nil=>exact .nil
 | @cons p q ps qs h t ih =>
  rw[ZE,ZE];refine .cons ?_ ih;obtain⟨h1,h2,h3⟩:=h;unfold putAt
  by_cases e:p.1=k
  ·rw[if_pos e,if_pos (h1.symm.trans e)];exact{(h1),h2,ry}
  ·rw[if_neg e,if_neg (λz=>e (h1.trans z))];exact{(h1),h2,h3}
def KT.put {H:Hp}{kvs:List (List Key×V)}{xs:List (List Key×Addr×Y1)}(r:KT H kvs xs)(k:List Key){b:Addr}{y:V}{u:Y1}(hb:H b=some (.tup (k.map kV)))(ry:RelV y u):
  KT H (putK kvs k y) (storedH xs k b u):=by
 have e:(kvs.any λkv=>decide (kv.1=k))=(atKey xs k).isSome:=by
  rw[mJ,(r.val k).zL,Option.isSome_map]
 unfold putK storedH;rw[e]
 by_cases q:(atKey xs k).isSome=true
 ·rw[if_pos q,if_pos q];exact r.Jd k ry
 ·rw[if_neg q,if_neg q];exact Paired.snoc r {(rfl),hb,ry}
def KT.keeps {H H':Hp}{kvs:List (List Key×V)}{xs:List (List Key×Addr×Y1)}(r:KT H kvs xs)(ht:∀b ys,H b=some (.tup ys)->H' b=some (.tup ys)):KT H' kvs xs :=
 Paired.J0 r λ_ _ z=>{z.1,ht _ _ z.2.1,z.2.2}
section
variable {P:Y7}{w:Zj}{H:Hp}{h:Heap}{a:Addr}
def Hf {u:HO}(ok:g9 P w H h)(e:Rd H a u):cL P w H h a u:=e.ok ok
def Du {kvs:List (Key×V)}(ok:g9 P w H h)(e:Rd H a (.dK kvs)):kvs.length<=Zd/\(a==aaQ)=false/\∃vs,KV kvs vs/\h.DictOf (bZ P w) a vs :=
 show cL P w H h a (.dK kvs) from Hf ok e
def OT {kvs:List (Key×V)}(ok:g9 P w H h)(e:H a=some (.dK kvs)):kvs.length<=Zd/\(a==aaQ)=false/\∃vs,KV kvs vs/\h.DictOf (bZ P w) a vs:=Du ok (.inl e)
def r_ {ks:List Key}(ok:g9 P w H h)(e:H a=some (.tup (ks.map kV))):(acz (bZ P w)).is h ks a:=by
 obtain⟨_,its,r,o,h1,h2,n,h3⟩:=(show cL P w H h a (.tup (ks.map kV)) from ok a _ e)
 exact{o,its.toArray,n,h1,h2,h3,by simpa using qo r}
def Ds {kvs:List (List Key×V)}(ok:g9 P w H h)(e:Rd H a (.dT kvs)):kvs.length<=Zd/\(a==aaQ)=false /\
  ∃xs,KT H kvs xs/\h.DictOfH (acz (bZ P w)) a xs:=by
 obtain⟨z,y,xs,r,o,es,ep,h1,h2,h3,h4,h5⟩:=(show cL P w H h a (.dT kvs) from Hf ok e)
 refine{z,y,xs,r,o,es,ep,h1,h2,h3,h4,λx hx=>?_,h5};have all:∀{l:List (List Key×V)} {m:List (List Key×Addr×Y1)},KT H l m->∀x∈m,(acz (bZ P w)).is h x.1 x.2.1:=by
  intro l m q
  induction q with
  |nil=>intro x hx;exact nomatch hx
  | @cons p q ps qs hq t ih =>
   intro x hx;rcases Y6.mp hx with e|hx
   ·subst e;exact r_ ok (by rw[<- hq.1];exact hq.2.1)
   ·exact ih x hx
 exact all r x hx
def HQ {kvs:List (List Key×V)}(ok:g9 P w H h)(e:H a=some (.dT kvs)):kvs.length<=Zd/\(a==aaQ)=false /\
  ∃xs,KT H kvs xs/\h.DictOfH (acz (bZ P w)) a xs:=Ds ok (.inl e)
end
def AA (H:Hp)(a:Addr)(y:V)(r:Option V):Prop :=
 (∃kvs k,Rd H a (.dK kvs)/\y=kV k/\r=gX kvs k)\/∃kvs k b,Rd H a (.dT kvs)/\y=.ref b/\H b=some (.tup (k.map kV))/\r=gX kvs k
def Pl (H:Hp)(a:Addr)(y v:V)(H':Hp):Prop :=
 (∃kvs k,H a=some (.dK kvs)/\y=kV k/\kvs.length<Zd/\H'=upd H a (.dK (putK kvs k v))) \/
 ∃kvs k b,H a=some (.dT kvs)/\y=.ref b/\H b=some (.tup (k.map kV))/\kvs.length<Zd/\H'=upd H a (.dT (putK kvs k v))
def AA.t {H:Hp}{a b:Addr}{kvs:List (List Key×V)}{k:List Key}(e:H a=some (.dT kvs))(eb:H b=some (.tup (k.map kV))):AA H a (.ref b) (gX kvs k):=.inr {kvs,k,b,.inl e,rfl,eb,rfl}
section
variable {X:Cx}{pins:List (Addr×Obj)}{σ:St}{H:Hp}{s:Y4}{a:Addr}{y v:V}{u r:Y1}{o:Option V}{A:Z0}{E:Y1->Y4->Prop}
def Inv.big (I:Inv X pins σ H s):aaQ<s.heap.objs.size:=by
 have h:aaL<s.heap.objs.size:=(I.mod.glob.keeps I.bk).lt;exact Nat.lt_trans (by decide) h
def z9 {Q:Y1->Y4->Prop}(hu:A.units+1<abd)(I:Inv X pins σ H s)(g:AA H a y (some v))(ry:RelV y u)(h:∀w' s',Inv X pins σ H s'->RelV v w'->Q w' s'):
  Zy (model X.prog X.w) A (getItem (.ref a) u) Q E s:=by
 rcases g with⟨kvs,k,e,ey,l⟩|⟨kvs,k,b,e,ey,eb,l⟩
 ·subst ey;obtain⟨z,hd,vs,rel,dd⟩:=Du I.bB e;obtain⟨w',hw,xx⟩:=pj.some_of (v:=v) (o:=valueAt vs k) (by rw[l];exact rel.val k)
  exact wpAny_getItem_of (Cz ry) dd.mapOf hw (h w' _ (I.tok _) xx)
 ·subst ey;cases (show u=Value.ref b from ry)
  obtain⟨z,hd,xs,rel,dd⟩:=Ds I.bB e;obtain⟨w',hw,xx⟩:=pj.some_of (v:=v) (o:=(atKey xs k).map (·.2)) (by rw[l];exact rel.val k)
  obtain⟨p,hp,PU⟩:=Zh.mp hw;refine wpAny_getItem_heap (tupleKind_room_in1 hu) (r_ I.bB eb) dd hp ?_;rw[PU];exact h w' _ (I.tok _) xx
def sF {h':Heap}{t':Nat}{ob:HO}(I:Inv X pins σ H s)(mu:Pf (H a))(hs:abS a s.heap h')(he:∃q,h'.get? a=some q)(new:cL X.prog X.w (upd H a ob) h' a ob):
  Inv X pins σ (upd H a ob) {s with heap:=h',toks:=t'} :=
 I.write (x:=a) (e:=a) mu (.inl rfl) (λb q hb z=>(hs.2 b hb).trans z) he new
def K6 {P:Y7}{w:Zj}{H':Hp}{h':Heap}{kvs:List (Key×V)}{vs:List (Key×Y1)}(z:kvs.length<=Zd)(hd:(a==aaQ)=false)(rel:KV kvs vs)(dd:h'.DictOf (bZ P w) a vs):
  cL P w H' h' a (.dK kvs):={(z),hd,vs,rel,dd}
def zZ {H':Hp}{Q:Unit->Y4->Prop}(hu:A.units+1<abd)(I:Inv X pins σ H s)(g:Pl H a y v H')(ry:RelV y u)(rv:RelV v r)(h:∀s',Inv X pins σ H' s'->Q () s'):
  Zy (model X.prog X.w) A (setItem (.ref a) u r) Q E s:=by
 rcases g with⟨kvs,k,e,ey,l,eH⟩|⟨kvs,k,b,e,ey,eb,l,eH⟩
 ·subst ey eH;obtain⟨z,hd,vs,rel,dd⟩:=OT I.bB e;have hz:vs.length<=Zd:=by rw[<- rel.length];exact z
  have hl:(putK kvs k v).length<=Zd:=by have:=iu kvs k v;lia
  refine wpAny_setItem_pairs (hsz:=hz) (Cz ry) dd λh' LW hs=>h _ ?_;have he:∃q,h'.get? a=some q:=let ⟨q,_,_,hq,_⟩:=LW;{(q),hq}
  exact sF I (by rw[e];exact True.intro) hs he (K6 hl hd (rel.put k rv) LW)
 ·subst ey eH;cases (show u=Value.ref b from ry)
  obtain⟨z,hd,xs,rel,dd⟩:=HQ I.bB e;have hz:xs.length<=Zd:=by rw[<- Paired.length rel];exact z
  have hl:(putK kvs k v).length<=Zd:=by have:=iu kvs k v;lia
  refine wpAny_setItem_heap (hsz:=hz) (tupleKind_room_in1 hu) (r_ I.bB eb) dd λh' LW hs=>h _ ?_;obtain⟨q,es,ep,hq,h2,h3,h4,_,h5⟩:=LW;refine sF I (by rw[e];exact True.intro) hs {(q),hq} {hl,hd,_,(rel.put k eb rv).keeps λc ys ec=>?_,q,es,ep,hq,h2,h3,h4,h5}
  rw[au (Ci ec e (λz=>nomatch z))];exact ec
end
def uS {X:Cx} {pins:List (Addr×Obj)} {σ:St} {H:Hp} {s:Y4} {a:Addr} {y:V} {o:Option V} (I:Inv X pins σ H s) (g:AA H a y o):s.TypeIs (.ref a) "dict" := by
 rcases g with⟨kvs,k,e,_,_⟩|⟨kvs,k,b,e,_,_,_⟩
 ·obtain⟨_,_,vs,_,dd⟩:=Du I.bB e;exact dd.typeIs
 ·obtain⟨_,_,xs,_,dd⟩:=Ds I.bB e;exact dd.typeIs
def MB (td ty tv:TE):TS:=λD σ H=>tv σ H λv H1=>td σ H1 λx H2=>ty σ H2 λy H3=>∃a H4,x=.ref a/\Pl H3 a y v H4/\D.nx σ H4
section
variable {X:Cx}{o i value:Expr}{pos pos':Pos}{td ty tv:TE}
def EU (hu:X.A.units+1<abd)(ho:PE X o td)(hi:PE X i ty)(hv:PE X value tv)(hs:aaw value (some (.Subscript o i pos')) pos.line X.env=pure false):
  PS X (.Assign [.Subscript o i pos'] value pos) (MB td ty tv):=by
 intro pins s σ H D I h;refine wpAny_Assign_Subscript (bR (hv pins s σ H _ I h) λr s1 ⟨v,H1,I1,rv,q1⟩=>bR (ho pins s1 σ H1 _ I1 q1) λu s2 ⟨x,H2,I2,rx,q2⟩=>bR (hi pins s2 σ H2 _ I2 q2) λiv s3 ⟨y,H3,I3,ry,a,H4,ex,g,q3⟩=>?_) hs;subst ex;obtain rfl:u=Value.ref a:=rx;exact zZ hu I3 g ry rv λs4 I4=>{(σ),H4,I4,q3}
end
def uR {P:Y7}{w:Zj}{H:Hp}(h:Heap)(hb:aaQ<h.objs.size):cL P w H (h.push {cls:=.type "dict",data:=.dict #[]}) h.objs.size (.dT []) :=
 {Zn _,beq_eq_false_iff_ne.mpr (Z_ (ZQ hb)),[],.nil,_,#[],0,ZR _ rfl,{(rfl),rfl,rfl},rfl,rfl,Z5}
def IK:TE:=λ_ H Q=>∀p,H p=none->Q (.ref p) (upd H p (.dT []))
section
variable {X:Cx}{pos:Pos}
def BO:PE X (.Dict [] [] pos) IK:=λpins s σ H Q I h =>
 wpAny_Dict_empty {.ref s.heap.objs.size,_,I.laid (a:=s.heap.objs.size) (o:=.dT []) (t':=s.toks) (λ_ _ q=>Ze _ q) (Y8 _) (uR s.heap I.big),rfl,h _ (I.bB.fresh (Y8 _))}
end
end L2
namespace L2.Q
open PySem PySem.Spec PySem.SeqAt PyProof.Rows
def _root_.L2.c_.gn {k:Nat}{A:Z0}(r:c_ k A):A.units+1<abd:=by have:=r.un;lia
def iK (t:List Int):List Key:=t.map Sum.inl
def CJ {t u:List Int}(h:iK t=iK u):t=u:=by
 unfold iK at h
 induction t generalizing u with
 |nil=>cases u with|nil=>rfl|cons _ _=>cases h
 |cons a t ih =>
  cases u with
  |nil=>cases h
  |cons b u =>
   rw[ZE,ZE]at h;injection h with h1 h2
   injection h1 with h1
   rw[h1,ih h2]
def yd (t:List Int):(iK t).map kV=t.map V.int:=by
 unfold iK;rw[Z7];rfl
def dP (ts:List (List Int))(b:Bool):D:=.dT (ts.map iK) (Zr ts.length (.bl b))
def u7 (ts:List (List Int))(t:List Int):List (List Int):=if t∈ts then ts else ts++[t]
theorem rm {v:V}:∀{ks:List (List Key)} {n:Nat},ks.length=n->ks.zip (Zr n v)=ks.map λk=>(k,v)
 |[],_,_=>by simp
 |k::ks,0,h=>by cases h
 |k::ks,n+1,h=>by
  rw[aaj,aaf,rm (abP h)];rfl
def EN {v:V}{ts:List (List Int)}{t:List Int}:putK ((ts.map iK).map λk=>(k,v)) (iK t) v=((u7 ts t).map iK).map λk=>(k,v):=by
 unfold putK u7;have any:(((ts.map iK).map λk=>(k,v)).any λkv=>decide (kv.1=iK t))=decide (t∈ts):=by
  rw[Bool.eq_iff_iff,List.any_eq_true,decide_eq_true_eq];constructor
  ·rintro⟨kv,h1,h2⟩;obtain⟨k,h3,rfl⟩:=ZN.mp h1;obtain⟨u,h4,rfl⟩:=ZN.mp h3;have:=CJ (of_decide_eq_true h2);rw[<- this];exact h4
  ·intro h;exact{(iK t,v),ZN.mpr {iK t,ZN.mpr {(t),h,rfl},rfl},by simp}
 rw[any]
 by_cases h:t∈ts
 ·rw[if_pos (by simpa using h),if_pos h,Z7]
  refine ZU λk _=>?_;show (if k=iK t then (k,v) else (k,v))=(k,v)
  split <;> rfl
 ·rw[if_neg (by simpa using h),if_neg h,Zl,Zl]
  rfl
section
variable {P:Y7}{w:Zj}{H:Hp}{a:Addr}
theorem xM {b:Bool}:∀{n:Nat},aR P w H (Zr n (.bl b)) (Zr n (V.bl b)) []
 |0=>{(rfl),rfl}
 |n+1=>{_,_,[],[],rfl,rfl,{(rfl),rfl},xM}
theorem yx {b:Bool}:∀{n:Nat} {vs:List V} {A:List Addr},aR P w H (Zr n (.bl b)) vs A->vs=Zr n (V.bl b)/\A=[]
 |0,_,_,h=>h
 |n+1,_,_,⟨v,r,A1,A2,e,eA,h1,h2⟩=>by
  obtain⟨e1,e2⟩:=h1;obtain⟨e3,e4⟩:=yx h2;rw[e,eA,e1,e2,e3,e4];exact{(rfl),rfl}
def BW {ts:List (List Int)}{b:Bool}(h:H a=some (.dT ((ts.map iK).map λk=>(k,V.bl b)))):Own P w H (dP ts b) (.ref a) [a] :=
 {a,Zr ts.length (V.bl b),[],rfl,by rw[rm (by simp)];exact h,by simp,rfl,xM}
def K_ {ts:List (List Int)}{b:Bool}{v:V}{A:List Addr}(h:Own P w H (dP ts b) v A):∃a,v=.ref a/\A=[a]/\H a=some (.dT ((ts.map iK).map λk=>(k,V.bl b))):=by
 obtain⟨a,vs,A',e,h1,l,eA,h2⟩:=h;obtain⟨e3,e4⟩:=yx h2;rw[e3,rm (by simp)]at h1
 exact{a,e,by rw[eA,e4],h1}
end
section
variable {X:Cx}{C:Cfg}{k:Expr}{φk:aQ}{i:Nat}{x:Str}{pos pos' px pc:Pos}{b:Bool}
def E6 (b:Bool):PQ X C true (.Dict [] [] pos) (λβ R=>R (dP [] b) .own β) :=
 ⟨λβ R R' k h=>k _ _ _ h,BO.pre λσ H Q h p hp=>by
  obtain⟨β,own,s,q⟩:=h;refine q _ _ own ((Out.refl s _).same (aB.new hp)) {[p],BW ak,by simp,λc hc=>?_}
  rw[Zc.mp hc];exact{hp,λz=>s.sD p z hp,ZH λz=>s.fS p z hp}⟩
def mn {j}(hu:X.A.units+1<abd)(hk:PQ X C.z true k φk)(hN:X.N[i]?=some x:=by rfl)(hv:oK X.env.scope x:=by first|exact .inl rfl|exact .inr (.inl rfl)|exact .inr (.inr rfl))(hd:(x==("__debug__" : Str))=false:=by decide)(eU:(x==("__classdict__" : Str))=false:=by decide)
  (hs:aaw (.Constant (.bool b) j pc) (some (.Subscript (.Name x px) k pos')) pos.line X.env=pure false:=by rfl) :
  PB X C (.Assign [.Subscript (.Name x px) k pos'] (.Constant (.bool b) j pc) pos) (λE β=>(∃ts,β[i]?=some (some (.own (dP ts b))))/\φk β λjd _ β2=>∃ts t,jd=kD t/\β2[i]?=some (some (.own (dP ts b)))/\ts.length<Zd/\E.nx (β2.set i (some (.own (dP (u7 ts t) b))))):=by
 refine{λE E' β l h=>{h.1,hk.mono _ _ _ (λjd _ β2 h=>by obtain⟨ts,t,h1,h2,h3,q⟩:=h;exact{ts,t,h1,h2,h3,l.nx _ q}) h.2},(EU hu (bY (pos:=px) hN hv hd eU) hk.pe (BQ (j:=j) (pos:=pc)) hs).pre λDe σ H h=>?_}
 obtain⟨Z,E,β,⟨own,s0,n⟩,⟨⟨Yo,uB⟩,q⟩,ok⟩:=h;obtain⟨v0,lh,Yw,_⟩:=s0.ow i _ uB;refine{v0,lh,tQ.of hk s0 q λjd kk β2 v H1 ay h o r=>?_};obtain⟨ts,t,e1,hb,hl,q⟩:=h;subst e1;obtain⟨v1,CK,ow,h0⟩:=o.sq.ow i _ hb;rw[lh]at CK;cases CK;obtain⟨a,rfl,eA,ha⟩:=K_ ow;obtain⟨p,vs,rfl,hp,rv⟩:=r.rep;have ev:vs=(iK t).map kV:=by
  rw[yd];have key:∀(t:List Int) (vs:List V),ai X.prog X.w (av C.z (Wn ay) kk) H1 (t.map D.int) vs->vs=t.map V.int:=λt=>by
   induction t with
   |nil=>intro vs h;exact h
   |cons y t ih =>
    intro vs h;obtain⟨z,r',e1,e2,e3⟩:=h;rw[e1,ih r' e3,show z=V.int y from e2]
    rfl
  exact key t vs rv
 have SY:a∈ay i:=by rw[eA];simp
 refine{a,_,rfl,.inr {_,iK t,p,ha,rfl,by rw[<- ev];exact hp,by rw[Y3,Y3];exact hl,rfl},?_}
 have hA:∀c∈[a],c∈ay i\/(C.H0 c=none/\¬ Wn ay c/\(λ_=>False) c):=λc hc=>.inl (by rw[Zc.mp hc];exact SY)
 have r':Own X.prog X.w (upd H1 a (.dT (putK ((ts.map iK).map λk=>(k,V.bl b)) (iK t) (V.bl b)))) (dP (u7 ts t) b) (.ref a) [a]:=BW (by rw[EN];exact ak)
 exact ok.nx _ _ _ {_,o.sq.Jh (C:=C) (U:=λ_=>False) (U2:=λ_=>False) hb lh SY r' (by simp) hA (λ_ z=>z) (λ_ _ z=>z),jg (C:=C) (n.trans o.sn) (λ_ z=>z.elim) {(i),SY} {_,ha,λxs z=>by cases z} hA} q
end
end L2.Q
namespace Dk
open PySem PySem.Spec PyProof.Rows
def At (h:Heap)(d:Addr)(es:Array ab0)(ep:Nat):Prop:=∃o,h.get? d=some o/\o.ExactDict/\o.data=.dict es ep
def At.at' {h h':Heap}{d:Addr}{es:Array ab0}{ep:Nat}(x:At h d es ep)(e:∀o,h.get? d=some o->h'.get? d=some o):At h' d es ep:=by
 obtain⟨o,h1,r⟩:=x;exact{o,e _ h1,r}
def At.lt {h:Heap}{d:Addr}{es:Array ab0}{ep:Nat}(x:At h d es ep):d<h.objs.size:=by
 obtain⟨o,h1,_⟩:=x;exact Zo h1
def At.typeIs {s:Y4} {d:Addr} {es:Array ab0} {ep:Nat} (x:At s.heap d es ep):s.TypeIs (.ref d) "dict" := by
 obtain⟨o,h1,h2,_⟩:=x;exact{(o),h1,h2.1}
section
variable {prog:Y7}{w:Zj}{A:Z0}{E:Y1->Y4->Prop}{s:Y4}{d it:Addr}{es:Array ab0}{i ep:Nat}
def zK {Q:Y1->Y4->Prop}(hd:(d==aaQ)=false)(hm:At s.heap d es ep)
  (hQ:Q (.ref s.heap.objs.size) {s with heap:=s.heap.push {cls:=.type "dict_keyiterator",data:=.fields #[.ref d,.int 0 0,.int es.size 0,.int ep 0]}}):Zy (model prog w) A (pyIter (.ref d)) Q E s:=by
 have hT:=hm.typeIs;obtain⟨o,ho,hc,OI⟩:=id hm;refine wpAny_pyIter_slot hT F.slot_dict_iter (abu F.slot_dict_iter hT F.entry_dict_iter ?_ (F.args_dict_iter_1 _));unfold abb.«dict.__iter__»
 refine Y2 ?_;unfold Builtin.Dict.dictSlotNone;refine Y2 (wpAny_notOrdered_dict hT ?_);show Zy _ _ (pure (Value.ref d)) _ _ s;refine Zi ?_;show Zy _ _ (Builtin.Dict.showsAll d >>= _) _ _ s;unfold Builtin.Dict.showsAll;rw[if_neg (by rw[hd];exact aaG)]
 refine Y2 (Zi ?_);refine Y2 (wpAny_dictEntries ho OI ?_);refine Y2 (wpAny_dictEpoch ho OI ?_);refine Y2 (aaV (Zi {_,rfl,"dict_keyiterator",_,{_,ZR _ rfl,rfl},F.slot_dict_keyiterator_next.lookup,?_}));simpa[rawInt] using hQ
def next_item {Q:Option Y1->Y4->Prop}(hit:s.heap.IsKeyIter it d i es.size ep)(hm:At s.heap d es ep)(S4:i<es.size)
  (hQ:∀h',h'.IsKeyIter it d (i+1) es.size ep->abS it s.heap h'->Q (some es[i].key) {s with heap:=h'}):Zy (model prog w) A (acd (.ref it)) Q E s:=by
 obtain⟨o,ho,hc,hd⟩:=id hit;obtain⟨od,Oj,eU,OH⟩:=id hm;unfold acd;refine Y2 (abz (abI (name:=Str.ofString "__next__") hit.typeIs F.slot_dict_keyiterator_next
  (abu F.slot_dict_keyiterator_next hit.typeIs F.entry_dict_keyiterator_next ?_ (F.args_dict_keyiterator_next_1 _))))
 refine Y2 (Zi ?_);refine Y2 ?_;refine Y2 ?_
 first|refine Y2 (aa6 hit.typeIs (Zi ?_))|refine Y2 (aby hit.typeIs (Zi ?_))
 refine Y2 (wpAny_fieldsOf ho hd ?_);have KH:Builtin.Dict_items.ownsTuple "dict_keyiterator" = false:=by decide
 simp only[KH,aaS,if_false];show Zy _ _ (if (Value.ref d==Value.none)=true then _ else _) _ _ s
 rw[if_neg (show ¬ ((Value.ref d==Value.none)=true) from aaG)]
 refine Y2 (Zi ?_);refine Y2 (wpAny_dictEntries Oj OH ?_);rw[if_neg (by simp)]
 refine Y2 (Zi ?_);refine Y2 (wpAny_dictEpoch Oj OH ?_);rw[if_neg (by simp)]
 refine Zi ?_;simp only[show ¬ ((i:Int)<0) from by lia,if_false,abi,Array.getElem?_eq_getElem S4]
 refine Y2 ?_
 first|refine Y2 (aa6 hit.typeIs (Zi ?_))|refine Y2 (aby hit.typeIs (Zi ?_))
 refine Y2 (wpAny_isOneOf_keyiter hit.typeIs ?_);show Zy _ _ (setField (.ref it) 1 (rawInt ((i:Int)+1)) >>= _) _ _ s;refine Y2 (wpAny_setField ho hd (by simp) ?_)
 have Gj:(s.heap.update it (Obj.mapFields (·.setIfInBounds 1 (rawInt ((i:Int)+1))))).IsKeyIter it d (i+1) es.size ep :=
  {_,abX _ ho (Obj.isFreed_of_fields (Obj.data_mapFields hd _)),(Obj.cls_mapFields ..).trans hc,by rw[Obj.data_mapFields hd];simp[rawInt]}
 refine Y2 (aav ?_);refine Y2 (wpAny_isOneOf_keyiter (s:={s with heap:=s.heap.update it (Obj.mapFields (·.setIfInBounds 1 (rawInt ((i:Int)+1))))}) Gj.typeIs ?_)
 show Zy _ _ (pure es[i].key) _ _ _;exact Zi (Zi {_,rfl,Zi (hQ _ Gj (Heap.SameBut.update ..))})
end
section
variable {prog:Y7}{w:Zj}{A:Z0}{E:Y1->Y4->Prop}{s:Y4}{d it:Addr}{es:Array ab0}{i ep:Nat}
def next_end {Q:Option Y1->Y4->Prop}(hh:A.handled=none)(hit:s.heap.IsKeyIter it d i es.size ep)(hm:At s.heap d es ep)(Vq:es.size<=i)
  (hQ:∀h',Heap.ExtBut it s.heap h'->Q none {s with heap:=h'}):Zy (model prog w) A (acd (.ref it)) Q E s:=by
 obtain⟨o,ho,hc,hd⟩:=id hit;obtain⟨od,Oj,eU,OH⟩:=id hm;unfold acd;refine Y2 (abz (abI (name:=Str.ofString "__next__") hit.typeIs F.slot_dict_keyiterator_next
  (abu F.slot_dict_keyiterator_next hit.typeIs F.entry_dict_keyiterator_next ?_ (F.args_dict_keyiterator_next_1 _))))
 refine Y2 (Zi ?_);refine Y2 ?_;refine Y2 ?_
 first|refine Y2 (aa6 hit.typeIs (Zi ?_))|refine Y2 (aby hit.typeIs (Zi ?_))
 refine Y2 (wpAny_fieldsOf ho hd ?_);have KH:Builtin.Dict_items.ownsTuple "dict_keyiterator" = false:=by decide
 simp only[KH,aaS,if_false];show Zy _ _ (if (Value.ref d==Value.none)=true then _ else _) _ _ s
 rw[if_neg (show ¬ ((Value.ref d==Value.none)=true) from aaG)]
 refine Y2 (Zi ?_);refine Y2 (wpAny_dictEntries Oj OH ?_);rw[if_neg (by simp)]
 refine Y2 (Zi ?_);refine Y2 (wpAny_dictEpoch Oj OH ?_);rw[if_neg (by simp)]
 refine Zi ?_;simp only[show ¬ ((i:Int)<0) from by lia,if_false,abi,abV Vq]
 refine Y2 ?_
 first|refine Y2 (aa6 hit.typeIs (Zi ?_))|refine Y2 (aby hit.typeIs (Zi ?_))
 show Zy _ _ (setField (.ref it) 0 .none >>= _) _ _ s;refine Y2 (wpAny_setField ho hd (by simp) ?_)
 show Zy _ _ (newExc (.type "StopIteration") [] >>= _) _ _ _;refine Y2 ?_;simp only[newExc,newTuple];refine Y2 (aaV ?_ (by size_fits))
 refine Y2 (m:=firstArgMember _ _) (wpAny_of_eq (a:=Value.none) (by first|rfl|(simp only[firstArgMember];rfl)) ?_)
 refine aaV ?_ (by size_fits)
 simp only[raiseNew];refine Y2 (wpAny_handled ?_);rw[show A.in1.handled=none from hh]
 refine Y2 (Zi (wpAny_throw ?_));refine Y2 (wpAny_isInstance (T:="StopIteration") (b:=true) {_,ZR _ rfl,rfl} isSubtype_stop ?_);exact Zi (hQ _ (((Heap.SameBut.update ..).extBut.push _).push _))
def walks (hh:A.handled=none)(I d:Addr)(vg:d≠I)(es:Array ab0)(ep:Nat):
  Walks prog w A I [I,d] [I] es.size (λi v=>∃h:i<es.size,v=es[i].key) (λi h=>h.IsKeyIter I d i es.size ep/\At h d es ep) where
 sub:=λb hb=>by simp at hb;simp[hb]
 frame:=λ_ _ _ st hk=>{st.1.at λo e=>hk I (by simp) o e,st.2.at' λo e=>hk d (by simp) o e}
 item:=λi s Q E hi st hQ=>by
  refine next_item st.1 st.2 hi λh' Gj Vc=>?_;exact hQ _ h' s.toks {(hi),rfl} {Gj,st.2.at' λo e=>Vc.extBut d o vg e} λb o hb e=>Vc.extBut b o (λh=>hb (by simp[h])) e
 done:=λs Q E st hQ=>next_end hh st.1 st.2 (Y8 _) λh' Xh=>hQ h' s.toks λb o hb e=>Xh b o (λh=>hb (by simp[h])) e
 self:=λ_ _ _ _ st hQ=>wpAny_pyIter_keyiter st.1 hQ
def src (lo:(d==aaQ)=false):PySem.W.KdlSrc prog w "dict" d d es.size (λi v=>∃h:i<es.size,v=es[i].key) (λh=>At h d es ep) where
 type:=λ_ hm=>hm.typeIs
 there:=λ_ hm=>{(hm.lt),hm.lt}
 keep:=λ_ _ hm hk=>hm.at' λo e=>hk d (.inl rfl) o e
 notList:=by decide
 notTuple:=by decide
 hint:=λ_ _ _ _ hm hq=>PySem.W.kdl_hint_dict hm.typeIs hq
 iter:=λ_ _ hh hm=>{_,_,(λ_ _ hq=>zK lo hm hq),walks hh _ d (ZQ hm.lt) es ep,{{_,ZR _ rfl,rfl,rfl},hm.at' λo e=>Ze _ e}}
def sJ {R:List Y1->Y4->Prop}(lo:(d==aaQ)=false)(hm:At s.heap d es ep)(hn:es.size<=Zd)(hh:A.handled=none)
  (h:∀(h':Heap) (tk:Nat),(∀b o,s.heap.get? b=some o->h'.get? b=some o)->R (es.toList.map (·.key)) {s with heap:=h',toks:=tk}):Zy (model prog w) A (collect (.ref d)) R E s:=by
 refine PySem.W.kdu_collect (src (es:=es) (ep:=ep) lo) hh hm hn λh' tk acc hk OM=>?_;have e:acc.toList=es.toList.map (·.key):=by
  apply aau;intro i;rw[Zg,ZG,ZG]
  by_cases hi:i<acc.size
  ·obtain⟨g1,g2⟩:=OM.2 i acc[i] (getElem?_pos acc i hi);rw[getElem?_pos acc i hi,getElem?_pos es i g1,g2];rfl
  ·have:=OM.1;rw[abV (by lia),abV (by lia)]
   rfl
 rw[e];exact h h' tk hk
end
end Dk
namespace L2.Q
open PySem PySem.Spec PySem.SeqAt PyProof.Rows HT
noncomputable def Ew:List Key->Option (List Int)
 |[]=>some []
 |.inl i::r=>(Ew r).map (i::·)
 |.inr _::_=>none
noncomputable def oM:List (List Key)->Option (List (List Int))
 |[]=>some []
 |k::r=>match Ew k,oM r with
  |some t,some ts=>some (t::ts)
  |_,_=>none
theorem A8:∀t:List Int,Ew (iK t)=some t
 |[]=>rfl
 |i::t=>by
  show (Ew (iK t)).map (i::·)=_;rw[A8 t];rfl
theorem s9:∀ts:List (List Int),oM (ts.map iK)=some ts
 |[]=>rfl
 |t::ts=>by
  show (match Ew (iK t),oM (ts.map iK)with|some t,some ts=>some (t::ts)|_,_=>none)=_
  rw[A8,s9 ts]
theorem A9:∀{k:List Key} {t:List Int},Ew k=some t->k=iK t
 |[],t,h=>by cases h;rfl
 |.inl i::r,t,h=>by
  obtain⟨u,h1,h2⟩:=Zh.mp (show (Ew r).map (i::·)=some t from h)
  rw[<- h2,A9 h1];rfl
 |.inr _::_,t,h=>by cases h
theorem xl:∀{ks:List (List Key)} {ts:List (List Int)},oM ks=some ts->ks=ts.map iK
 |[],ts,h=>by cases h;rfl
 |k::r,ts,h=>by
  have h:(match Ew k,oM r with|some t,some ts=>some (t::ts)|_,_=>none)=some ts:=h
  cases h1:Ew k with
  |none=>rw[h1]at h;cases h
  |some t =>
   cases h2:oM r with
   |none=>rw[h1,h2]at h;cases h
   |some us =>
    rw[h1,h2]at h;cases h;rw[A9 h1,xl h2];rfl
noncomputable def Dv:List D->Option D
 |[.dT ks _]=>match oM ks with
  |some ts=>if ts.length<=1000/\(∀k∈ts,k≠[]) then some (.lst ((lM ts).map kD)) else none
  |none=>none
 |_=>none
def EC {ts:List (List Int)}{b:Bool}(h:∀k∈ts,k≠[])(l:ts.length<=1000):Dv [dP ts b]=some (.lst ((lM ts).map kD)):=by
 show (match oM (ts.map iK)with|some ts=>if ts.length<=1000/\(∀k∈ts,k≠[]) then some (D.lst ((lM ts).map kD)) else none|none=>none)=_
 rw[s9];exact if_pos {(l),h}
theorem xZ {H:Hp}:∀{ts:List (List Int)} {vs:List V} {xs:List (List Key×Addr×Y1)},(ts.map iK).length=vs.length ->
  Paired (λ(p:List Key×V) (q:List Key×Addr×Y1)=>p.1=q.1/\H q.2.1=some (.tup (p.1.map kV))/\RelV p.2 q.2.2) ((ts.map iK).zip vs) xs->∃us:List (Addr×List Int),xs.map (λq=>Value.ref q.2.1)=us.map (λx=>Value.ref x.1)/\us.map (·.2)=ts/\∀u∈us,H u.1=some (.tup (u.2.map V.int))
 |[],vs,xs,_,p=>by cases p;exact{[],rfl,rfl,λ_ z=>(nomatch z)}
 |t::ts,[],xs,l,p=>by cases l
 |t::ts,v::vs,xs,l,p=>by
  cases p with
  |cons h r =>
   obtain⟨us,h1,h2,h3⟩:=xZ (abP l) r
   rename_i q LD
   refine{(q.2.1,t)::us,by rw[ZE,ZE,h1],by rw[ZE,h2],λu hu=>?_}
   rcases Y6.mp hu with rfl|hu
   ·have:=h.2.1;rw[yd]at this;exact this
   ·exact h3 u hu
def sM {X:Cx} (hc:X.calm=true):Ea X (.builtin "sorted") Dv:=by
 intro pins s σ H xs Yn Q I r h;obtain⟨W,ds,d,hd,r1,e,q⟩:=h
 match ds,e with
 |[.dT ks fs],e =>
  have e:(match oM ks with|some ts=>if ts.length<=1000/\(∀k∈ts,k≠[]) then some (D.lst ((lM ts).map kD)) else none|none=>none)=some d:=e
  cases hk:oM ks with
  |none=>rw[hk]at e;cases e
  |some ts =>
   rw[hk]at e;obtain⟨⟨hl,vg⟩,rfl⟩:=eC e;have:=xl hk;subst this;obtain⟨x,rfl,p,vs,rfl,hp,Xb,nW,rs⟩:=oE r1;obtain⟨u,rfl,rx⟩:=vals1 r;cases rx;obtain⟨z,y,LD,pr,o,es,ep,h1,h2,h3,h4,h5⟩:=(show cL X.prog X.w H s.heap p (.dT ((ts.map iK).zip vs)) from I.bB p _ hp)
   obtain⟨us,eu,ek,T⟩:=xZ Xb pr;have T2:GW H us:=λt ht=>{T t ht,vg _ (by rw[<- ek];exact ZN.mpr {(t),ht,rfl})}
   have ul:us.length=ts.length:=by rw[<- ek,Y3]
   have ev:es.toList.map (·.key)=us.map λx=>Value.ref x.1:=by
    rw[h4,Z7,<- eu];rfl
   have XH:es.size=us.length:=by
    have:=congrArg acs ev;rw[Y3,Y3,ZJ]at this;exact this
   refine TS.vL (vs:=us.map λx=>Value.ref x.1) (kf:=zG H) (by rw[Y3];lia) (λR hR=>Dk.sJ (es:=es) (ep:=ep) y {(o),h1,h2,h3} (by rw[XH,ul,aaK];lia) (by simp[I.ok.hd hc]) λh' tk kp=>by rw[ev];exact hR h' tk kp) (Ey I.bB T2 (Y8 _)) λout zT h' tk n vf hs k1 kp Gh=>?_
   ·obtain⟨e1,e2⟩:=zh T2 vf;have zl:out.length=us.length:=by rw[vf.length_eq,Y3]
    have eq:(out.map (K1 H)).map (·.2)=lM ts:=by
     refine IU (by rw[<- ek];exact e2.map _) ?_
     refine acr.mpr (acr.mpr ?_);refine hs.imp_of_mem λ{x y} hx hy hh=>?_;obtain⟨t,ht,rfl⟩:=ZN.mp (vf.mem_iff.mp hx);obtain⟨t',YF,rfl⟩:=ZN.mp (vf.mem_iff.mp hy);exact hh
    have I1:Inv X pins σ H {s with heap:=zT,toks:=s.toks}:=I.kept k1
    have Th:H zT.objs.size=none:=I1.bB.fresh (Y8 _);have rk:ai X.prog X.w W H ((lM ts).map kD) ((out.map (K1 H)).map yL):=by rw[<- eq];exact pO λt ht=>(T2 t (e2.mem_iff.mp ht)).1
    refine{.ref zT.objs.size,_,I1.laid (t':=tk) (o:=.lst ((out.map (K1 H)).map yL)) kp (Y8 _) ?_,rfl,q _ _ (aB.new Th) (Rp.kY hd Th rk) λf=>zq Th f rk};refine{by rw[Y3,Y3,zl,ul,aaK];lia,out,n,?_,Gh}
    have:=pP (out.map (K1 H));rw[<- e1]at this;exact this
end L2.Q
namespace L2
open PySem PySem.Spec PySem.SeqAt PyProof.Rows
def Lo:Z9 "sum" = some (.builtin "sum"):=by decide +kernel
def D.int?:D->Option Int
 |.int i=>some i
 |_=>none
def D.rX:D->Option (List D)
 |.lst ds=>some ds
 |_=>none
def D.yb {d:D}{i:Int}(h:d.int?=some i):d=.int i:=by
 cases d <;> first|(cases h;rfl)|cases h
def D.j0 {d:D}{ds:List D}(h:d.rX=some ds):d=.lst ds:=by
 cases d <;> first|(cases h;rfl)|cases h
noncomputable def lY:List D->Option (List Int)
 |[]=>some []
 |d::ds=>d.int?.bind λi=>(lY ds).map (i::·)
theorem om:∀{ds:List D} {ns:List Int},lY ds=some ns->ds=ns.map D.int
 |[],_,h=>by cases h;rfl
 |d::ds,ns,h=>by
  obtain⟨i,h1,h2⟩:=Zq.mp h;obtain⟨ms,h3,rfl⟩:=Zh.mp h2;rw[D.yb h1,om h3];rfl
theorem lx:∀ns:List Int,lY (ns.map D.int)=some ns
 |[]=>rfl
 |n::ns=>by
  show (some n).bind (λi=>(lY (ns.map D.int)).map (i::·))=_;rw[lx ns];rfl
noncomputable def km (f:List Int->Option Int):List D->Option D
 |[d]=>d.rX.bind λds=>(lY ds).bind λns=>(f ns).map D.int
 |_=>none
def oj {f:List Int->Option Int}{ds:List D}{d:D}(h:km f ds=some d):∃ns i,ds=[.lst (ns.map D.int)]/\f ns=some i/\d=.int i:=by
 cases ds with
 |nil=>cases h
 |cons x r =>
  cases r with
  |cons _ _=>cases h
  |nil =>
   obtain⟨es,h1,h2⟩:=Zq.mp h;obtain⟨ns,h3,h4⟩:=Zq.mp h2;obtain⟨i,h5,rfl⟩:=Zh.mp h4;exact{ns,i,by rw[D.j0 h1,om h3],h5,rfl}
def oi {f:List Int->Option Int}{ns:List Int}{i:Int}(h:f ns=some i):km f [.lst (ns.map D.int)]=some (.int i):=by
 show (some (ns.map D.int)).bind (λds=>(lY ds).bind λns=>(f ns).map D.int)=_;rw[aah,lx,aah,h];rfl
def oY:List Int->Option Int
 |[]=>none
 |n::ns=>some (ns.foldl max n)
theorem cy:∀(ns:List Int) (n:Int),(ns.foldl max n∈n::ns)/\∀x∈n::ns,x<=ns.foldl max n
 |[],n=>{by simp,λx hx=>by simp at hx;rw[hx];exact Int.le_refl _}
 |m::ns,n=>by
  obtain⟨h1,h2⟩:=cy ns (max n m);have hm:max n m<=ns.foldl max (max n m):=h2 _ (by simp)
  refine{?_,λx hx=>?_}
  ·rw[ab9];rcases Y6.mp h1 with h|h
   ·rw[h]
    by_cases q:n<=m
    ·rw[show max n m=m by lia];simp
    ·rw[show max n m=n by lia];simp
   ·simp[h]
  ·rw[ab9];rcases Y6.mp hx with rfl|hx
   ·lia
   ·rcases Y6.mp hx with rfl|hx
    ·lia
    ·exact h2 x (by simp[hx])
section
variable {X:Cx}
theorem jc:∀{ns:List Int} {us:List Y1},Vals (ns.map V.int) us->∃xs:Array (Int×Tok),us.toArray=intItems xs/\xs.toList.map (·.1)=ns
 |[],_,h=>by cases h;exact{#[],by simp[intItems],rfl}
 |n::ns,_,h=>by
  cases h with
  |cons h1 h2 =>
   obtain⟨t,rfl⟩:=h1;obtain⟨xs,e1,e2⟩:=jc h2;refine{{(n,t)::xs.toList},?_,by simp[e2]}
   have:=congrArg Array.toList e1;simp[intItems]at this ⊢
   exact this
def kR {xs:Array (Int×Tok)}{ns:List Int}(e:xs.toList.map (·.1)=ns)(i:Nat):numAt xs i=ns.getD i 0:=by
 subst e;unfold numAt;rw[Zx,Zg,ZG]
def GV {xs:Array (Int×Tok)}{ns:List Int}(e:xs.toList.map (·.1)=ns){i:Nat}{v:Y1}(h:(intItems xs)[i]?=some v):RelV (.int (ns.getD i 0)) v:=by
 obtain⟨t,rfl⟩:=intItems_at h;exact{t,by rw[kR e]}
def ints_size {xs:Array (Int×Tok)}{ns:List Int}(e:xs.toList.map (·.1)=ns):xs.size=ns.length:=by rw[<- e];simp
def Aj (hc:X.calm=true):bF X (.builtin "sum") (km λns=>some ns.sum):=by
 intro pins s σ H xs us Q I r h;obtain⟨W,ds,d,hd,r1,e,q⟩:=h;obtain⟨ns,i,rfl,e1,rfl⟩:=oj e;cases e1;obtain⟨x,rfl,p,vs,rfl,h1,n1,q1⟩:=oE r1;obtain⟨u,rfl,ru⟩:=vals1 r;cases ru;rw[cE q1]at h1;obtain⟨its,r2,ht,hz⟩:=I.list (dj.of h1);obtain⟨ys,e1,e2⟩:=jc r2;refine sum_intListG (I.ok.hd hc) (xs:=ys) (by rw[<- e1];exact ht.isList) λh' tk t' k=>{.int ns.sum,H,I.kept k,{t',?_},q _ _ (aB.refl _) rfl}
 rw[preSum_eq,Z4 (by simp),e2]
def Ak (hc:X.calm=true):bF X (.builtin "max") (km oY):=by
 intro pins s σ H xs us Q I r h;obtain⟨W,ds,d,hd,r1,e,q⟩:=h;obtain⟨ns,i,rfl,e1,rfl⟩:=oj e;obtain⟨x,rfl,p,vs,rfl,h1,n1,q1⟩:=oE r1;obtain⟨u,rfl,ru⟩:=vals1 r;cases ru;rw[cE q1]at h1;obtain⟨its,r2,ht,hz⟩:=I.list (dj.of h1);obtain⟨ys,XJ,e2⟩:=jc r2;have hs:=ints_size e2;cases ns with
 |nil=>cases e1
 |cons n ns =>
  rw[Zb]at hs;refine max_intList (I.ok.hd hc) (xs:=ys) (by rw[<- XJ];exact ht.isList) (by lia) λv h' tk hv k=>{.int i,H,I.kept k,?_,q _ _ (aB.refl _) rfl}
  have hr:=GV e2 hv;obtain⟨g1,g2⟩:=argBest_gt (numAt ys) (ys.size-1);generalize argBest (λi j=>decide (numAt ys i>numAt ys j)) (ys.size-1)=b at *
  have hb:b<(n::ns).length:=by rw[Zb];lia
  have:(n::ns).getD b 0=i:=by
   cases e1;obtain⟨f1,f2⟩:=cy ns n;have hle:∀x∈n::ns,x<=(n::ns).getD b 0:=λx hx=>by
    obtain⟨j,hj,rfl⟩:=List.getElem_of_mem hx;have:=g2 j (by rw[Zb]at hj;lia)
    rw[kR e2,kR e2]at this;rw[Zx,Y5 hj]at this;exact this
   have nO:(n::ns).getD b 0∈n::ns:=by
    rw[Zx,Y5 hb];exact aaD hb
   have:=hle _ f1;have:=f2 _ nO;lia
  rw[<- this];exact hr
end
end L2
namespace L2.Q
open PySem PySem.Spec PySem.SeqAt PyProof.Rows
def dA (kvs:List (List Int×D)):D:=.dT (kvs.map λp=>iK p.1) (kvs.map (·.2))
def mK (kvs:List (List Int×D))(t:List Int):Option D:=(kvs.find? λp=>decide (p.1=t)).map (·.2)
def _root_.L2.D.Nr:D->Option (List (List Key)×List D)
 |.dT ks ds=>some (ks,ds)
 |_=>none
def F7 {d:D}{ks:List (List Key)}{ds:List D}(h:d.Nr=some (ks,ds)):d=.dT ks ds:=by
 cases d <;> first|(cases h;rfl)|cases h
def vE (ks:List (List Key))(ds:List D)(k:List Key):Option D:=((ks.zip ds).find? λp=>decide (p.1=k)).map (·.2)
def F5 {d:D}{es:List D}(h:d.Ed=some es):d=.tup es:=by
 cases d <;> first|(cases h;rfl)|cases h
def GG (a b:D):Option ((List (List Key)×List D)×List Int):=a.Nr.bind λp=>b.Ed.bind λes=>(lY es).map λt=>(p,t)
def GF {a b:D}{ks:List (List Key)}{ds:List D}{t:List Int}(h:GG a b=some ((ks,ds),t)):a=.dT ks ds/\b=.tup (t.map D.int):=by
 obtain⟨p,h1,h2⟩:=Zq.mp h;obtain⟨es,h3,h4⟩:=Zq.mp h2;obtain⟨t',h5,h6⟩:=Zh.mp h4;cases h6;exact{F7 h1,by rw[F5 h3,om h5]}
def GD {kvs:List (List Int×D)}{t:List Int}:GG (dA kvs) (.tup (t.map D.int))=some ((kvs.map λp=>iK p.1,kvs.map (·.2)),t):=by
 show (some _).bind (λp=>(some (t.map D.int)).bind λes=>(lY es).map λt=>(p,t))=_;rw[aah,aah,lx];rfl
theorem vD {t:List Int}:∀{kvs:List (List Int×D)},vE (kvs.map λp=>iK p.1) (kvs.map (·.2)) (iK t)=mK kvs t
 |[]=>rfl
 |p::kvs=>by
  have ih:=vD (t:=t) (kvs:=kvs);unfold vE mK at *
  rw[ZE,ZE,aaf,aaq,aaq]
  by_cases h:p.1=t
  ·rw[decide_eq_true (congrArg iK h),decide_eq_true h];rfl
  ·rw[decide_eq_false (λz=>h (CJ z)),decide_eq_false h];exact ih
def yq (a b:D):Option D:=(GG a b).bind λz=>vE z.1.1 z.1.2 (iK z.2)
def GJ {kvs:List (List Int×D)}{t:List Int}:yq (dA kvs) (.tup (t.map D.int))=mK kvs t:=by
 unfold yq;rw[GD,aah];exact vD
section
variable {P:Y7}{w:Zj}{W:Addr->Prop}{H:Hp}
theorem rl {k:List Key}:∀{ks:List (List Key)} {ds:List D} {vs:List V},ks.length=vs.length->ai P w W H ds vs->(gX (ks.zip vs) k).isSome=(vE ks ds k).isSome/\∀d,vE ks ds k=some d->∃v,gX (ks.zip vs) k=some v/\aC P w W H d v
 |[],ds,vs,_,_=>by
  unfold gX vE;rw[abh,abh];exact{rfl,λd h=>by cases h}
 |k'::ks,[],_,l,h=>by rw[show _=([]:List V) from h]at l;cases l
 |k'::ks,d::ds,_,l,⟨v,r,e,h1,h2⟩=>by
  subst e;obtain⟨i1,i2⟩:=rl (k:=k) (ks:=ks) (abP l) h2;unfold gX vE at *
  rw[aaf,aaf,aaq,aaq]
  by_cases hk:k'=k
  ·rw[decide_eq_true hk];exact{rfl,λd' e=>by cases e;exact{(v),rfl,h1}}
  ·rw[decide_eq_false hk];exact{(i1),i2}
end
section
variable {X:Cx}
def Ki {W:Addr->Prop}{H:Hp}{a b:D}{x y:V}{ks:List (List Key)}{ds:List D}{t:List Int}(h:GG a b=some ((ks,ds),t))(r1:Rp X W H a x)(r2:Rp X W H b y):∃p vs,x=.ref p/\AA H p y (gX (ks.zip vs) (iK t))/\ks.length=vs.length/\ai X.prog X.w W H ds vs:=by
 obtain⟨rfl,rfl⟩:=GF h;obtain⟨p,vs,rfl,e1,l,n,rs⟩:=r1;obtain⟨q,us,rfl,e2,rt⟩:=r2;rw[L2.cE rt]at e2;exact{p,vs,rfl,AA.t e1 (by rw[yd];exact e2),l,rs}
def CC (hu:X.A.units+1<abd):Il X (yX X yq NF):=by
 intro value slice pins s σ H x y v u Q I rx ry h hs;obtain⟨W,d1,d2,d,hd,r1,r2,e,q⟩:=h;obtain⟨⟨⟨ks,ds⟩,t⟩,h1,h2⟩:=Zq.mp e;obtain⟨p,vs,rfl,g,l,rs⟩:=Ki h1 r1 r2;obtain⟨w',hw,xx⟩:=(rl l rs).2 d h2;rw[hw]at g;cases (show v=Value.ref p from rx)
 exact tail_any (uS I g) PySem.F.slot_dict_getitem.lookup (z9 hu I g ry λu' s' I' r'=>{w',H,I',r',q w' H (aB.refl _) xx λf=>aC.flat f xx}) hs
end
def BX {P:Y7}{w:Zj}{H:Hp}{kvs:List (List Int×D)}{a:Addr}{vs:List V}{A:List Addr}(h:H a=some (.dT ((kvs.map λp=>iK p.1).zip vs)))(o:aR P w H (kvs.map (·.2)) vs A):Own P w H (dA kvs) (.ref a) (a::A) :=
 {a,vs,A,rfl,h,by rw[Y3,o.length,Y3],rfl,o}
def ID {P:Y7}{w:Zj}{H:Hp}{kvs:List (List Int×D)}{vs:List V}{A:List Addr}{t:List Int}(o:aR P w H (kvs.map (·.2)) vs A)(h:mK kvs t=none):gX ((kvs.map λp=>iK p.1).zip vs) (iK t)=none:=by
 have:=(rl (k:=iK t) (ks:=kvs.map λp=>iK p.1) (W:=λ_=>False) (by rw[Y3,o.length,Y3]) (o.rep λc _ z=>z)).1
 rw[vD,h]at this;exact Option.isNone_iff_eq_none.mp (by rw[<- Option.not_isSome,this];rfl)
end L2.Q
namespace L2
open PySem PySem.Spec PySem.SeqAt PyProof.Rows
def Qm (lo:Int)(n:Nat):It:={λi _=>i<n,λi H x H'=>H'=H/\x=.int (lo-i),λi _=>n<=i}
def s_ {P:Y7}{w:Zj}{K:PySem.W.Frag}{tg:Expr}(it:Addr)(lo:Int)(n:Nat):Turn P w K tg (Qm lo n) [it] it (λi h=>IsRangeIter h it (lo+(i:Nat)*(-1)) ((n:Int)-(i:Nat)) (-1)) where
 mem:=by simp
 obj:=λi h st b hb=>by
  have e:b=it:=by simpa using hb
  subst e;exact⟨_,st,λv z=>by
   have z':Data.fields _=Data.cell v:=z;cases z'⟩
 keep:=λi h h' st k=>k it (by simp) _ st
 item:=by
  intro X hP hw hK hc i pins s σ H E I hf st hg;subst hP hw hK;obtain⟨f0,f1,f2,f3,f4,f5⟩:=hf it (by simp)
  have W:=Walks.range (prog:=X.prog) (w:=X.w) (I.ok.hd hc) it lo (-1) n;refine W.item i s _ _ hg st λv h' tk hv aG kk=>?_;obtain⟨t,rfl⟩:=hv;have I1:Inv X pins σ H {s with heap:=h',toks:=tk}:=I.turned (λb o hb e=>kk b o (by simpa using hb) e) f0 f1 f3 f4 f5
  refine{_,rfl,C4 (s:={s with heap:=h',toks:=tk}) (n:="range_iterator") aG rfl rfl (by decide) {.int (lo-i),H,I1,{t,?_},{(rfl),rfl},aG,λb hb=>(hf b hb).1}}
  rw[Int.mul_neg,Int.mul_one];rfl
 done:=by
  intro X hP hw hK hc i pins s σ H E I hf st hg;subst hP hw hK;obtain⟨f0,f1,f2,f3,f4,f5⟩:=hf it (by simp)
  exact wpAny_pyNext_range_end (I.ok.hd hc) st (by have:n<=i:=hg;lia) λh' eb=>{rfl,I.turned (t':=s.toks) (λb o hb e=>eb b o hb e) f0 f1 f3 f4 f5}
 self:=λ_ _ _ _ _ st h=>wpAny_pyIter_rangeiter st h
def fO (a b:Int):aa5 a b (-1)=if b<a then a-b else 0:=by
 unfold aa5;rw[if_neg (by decide)]
 by_cases h:b<a
 ·rw[if_pos h,if_pos h,show -(-1:Int)=1 by decide,Int.ediv_one];lia
 ·rw[if_neg h,if_neg h]
def pK {a b:Int}(ha:-(2 ^ 62)<=a)(C0:a<2 ^ 62)(hb:-(2 ^ 62)<=b)(gY:b<2 ^ 62):Builtin.Range.small a b (-1)=true:=by
 unfold Builtin.Range.small;rw[fO];simp only[Builtin.Range.rangeFitsLong,ZW,Bool.or_eq_true,decide_eq_true_eq,beq_iff_eq,show ¬ ((-1:Int)>0) by decide,if_false]
 split <;> lia
section
variable {X:Cx}{tg:Expr}
def yW {pins:List (Addr×Obj)}{σ:St}{H:Hp}{s:Y4}{R:It->Hp->Prop}{E:Y1->Y4->Prop}{lo hi:Int}{t u v:Tok}{tk:Nat}(I:Inv X pins σ H s)(h1:-(2 ^ 62)<=lo)(h2:lo<2 ^ 62)(h3:-(2 ^ 62)<=hi)(h4:hi<2 ^ 62)
  (q:R (Qm lo (lo-hi).toNat) H):Zy (model X.prog X.w) X.A (pyIter (.ref s.heap.objs.size)) (Qi X pins σ tg R) E {s with heap:=s.heap.push {cls:=.type "range",data:=.fields #[.int lo t,.int hi u,.int (-1) v]},toks:=tk}:=by
 refine wpAny_pyIter_range (IsRange.new ..) (pK h1 h2 h3 h4) ?_;have I1:Inv X pins σ H {s with heap:=s.heap.push {cls:=.type "range",data:=.fields #[.int lo t,.int hi u,.int (-1) v]},toks:=tk}:=I.kept λb o e=>Ze _ e
 refine⟨(s.heap.push {cls:=.type "range",data:=.fields #[.int lo t,.int hi u,.int (-1) v]}).objs.size,[(s.heap.push {cls:=.type "range",data:=.fields #[.int lo t,.int hi u,.int (-1) v]}).objs.size],_,_,H,rfl,
  I1.kept (t':=tk) λb o e=>Ze _ e,s_ _ lo (lo-hi).toNat,?_,λb hb=>?_,q⟩
 ·have e1:lo+((0:Nat):Int)*(-1)=lo:=by simp
  have e2:(((lo-hi).toNat:Nat):Int)-((0:Nat):Int)=aa5 lo hi (-1):=by rw[fO];split <;> lia
  show IsRangeIter _ _ (lo+((0:Nat):Int)*(-1)) ((((lo-hi).toNat:Nat):Int)-((0:Nat):Int)) (-1);rw[e1,e2];exact ZR _ rfl
 ·have e:b=(s.heap.push {cls:=.type "range",data:=.fields #[.int lo t,.int hi u,.int (-1) v]}).objs.size:=by simpa using hb
  subst e;exact I1.C8 (Y8 _) (I1.bB.fresh (Y8 _))
def Nu (ta:TA):TI:=λσ H R=>ta σ H λvs H1=>∃i j:Int,vs=[.int i,.int j,.int (-1)]/\(-(2 ^ 62)<=i/\i<2 ^ 62/\-(2 ^ 62)<=j/\j<2 ^ 62)/\R (Qm i (i-j).toNat) H1
def zf {a b c:Expr} {ta:TA} {p pos:Pos} (hg:Gl X "range") (hm:X.mg "range" = none) (ha:PA X [a,b,c] ta) (hs:Y9 [a,b,c] X.env=[(false,eval a X.env),(false,eval b X.env),(false,eval c X.env)]:=by rfl) (oJ:Y9 [b,c] X.env=[(false,eval b X.env),(false,eval c X.env)]:=by rfl) :
  PI X tg (.Call (.Name "range" p) [a,b,c] [] pos) (Nu ta):=by
 intro pins s σ H R I h;refine Call_ (gD I hg hm boot_range (aal (bR (ha pos pins s σ H _ I h) λus s1 i5=>?_) (by rw[hs,oJ]) (by rw[oJ];rfl)))
 obtain⟨vs,H1,I1,r1,q1⟩:=i5;obtain⟨i,j,e,⟨q1,q2,q3,q4⟩,q⟩:=q1;subst e;cases r1 with
 |cons r rr =>
  cases rr with
  |cons r' rr =>
   cases rr with
   |cons LI rr =>
    cases rr;obtain⟨t,rfl⟩:=r;obtain⟨t',rfl⟩:=r';obtain⟨Yp,rfl⟩:=LI;exact call_range_3 (by decide) (yW I1 q1 q2 q3 q4 q) (.inl (acw (by decide +kernel)))
def rg (hi:Int)(n:Nat):List D:=(Zv n).map λ(k:Nat)=>D.int (hi-(k:Int))
def tG {hi:Int}{n i:Nat}{d:D}(h:(rg hi n)[i]?=some d):i<n/\d=.int (hi-i):=by
 unfold rg at h;rw[Zg]at h
 by_cases hi:i<n
 ·rw[aa1 hi]at h;cases h;exact{(hi),rfl}
 ·rw[ZF (by simpa using hi)]at h;cases h
def tF {hi:Int}{n:Nat}:(rg hi n).length=n:=by unfold rg;simp
def wz {W:Addr->Prop}{H:Hp}{lo:Int}{n:Nat}:Az X W (Qm lo n) (rg lo n) H:=λ_ _ i H' k=>by
 constructor
 ·intro d hd;obtain⟨hi,rfl⟩:=tG hd;refine{hi,λx H1 y=>?_};obtain⟨rfl,rfl⟩:=y;exact{aB.refl _,rfl}
 ·intro hl;rw[tF]at hl;exact hl
end
end L2
namespace L2.Q
open PySem PySem.Spec PySem.SeqAt PyProof.Rows
section
variable {X:Cx}{C:Cfg}{tg a b c:Expr}{φs:bP}{p:Bool}{pp pos:Pos}
def F8 (φs:bP):cV:=λβ R=>φs β λds _ β'=>∃i j:Int,ds=[.int i,.int j,.int (-1)]/\(-(2 ^ 62)<=i/\i<2 ^ 62/\-(2 ^ 62)<=j/\j<2 ^ 62)/\R (rg i (i-j).toNat) .dt β'
def O8 {W:Addr->Prop}{H:Hp}{a b c:D}{xs:List V}(h:mD X W H [a,b,c] xs):∃x y z,xs=[x,y,z]/\Rp X W H a x/\Rp X W H b y/\Rp X W H c z:=by
 obtain⟨x,r,rfl,hx,y,r',rfl,hy,z,LI,rfl,hz,hr⟩:=h;cases hr;exact{(x),y,z,rfl,hx,hy,hz}
def vY (hm:X.mg "range" = none) (ha:pq X C p [a,b,c] φs) (hg:Gl X "range" := by rfl) (hs:Y9 [a,b,c] X.env=[(false,eval a X.env),(false,eval b X.env),(false,eval c X.env)]:=by rfl) (oJ:Y9 [b,c] X.env=[(false,eval b X.env),(false,eval c X.env)]:=by rfl) :
  AJ X C p tg (.Call (.Name "range" pp) [a,b,c] [] pos) (F8 φs) :=
 ⟨λβ R R' k q=>ha.mono β _ _ (λd kd β' h=>by obtain⟨i,j,e,h1,q⟩:=h;exact{i,j,e,h1,k _ _ _ q}) q,(zf hg hm ha.pa hs oJ).pre λσ H R h=>by
  obtain⟨β,own,s,q⟩:=h;refine qV.of ha s q λds ks β' vs H1 ay h o1 r1=>?_;obtain⟨i,j,e,h1,q1⟩:=h;subst e;obtain⟨x,y,z,rfl,hx,hy,hz⟩:=O8 r1.iY;cases hx;cases hy;cases hz;exact{i,j,rfl,h1,q1 _ _ ay o1 wz}⟩
end
structure Ui (X:Cx)(C:Cfg)(tg iter:Expr)(ι:cV):Prop where
 mono:∀β R R',(∀d k β,R d k β->R' d k β)->ι β R->ι β R'
 pi:PI X tg iter λσ H R=>∃β own,SQ X C σ H β own/\ι β λds k β'=>∀J H',aB H H'->SQ X C σ H' β' own->Az X (eD C (Wn own) k) J ds H'->R J H'
section
variable {X:Cx}{C:Cfg}{tg a b:Expr}{φs:bP}{pp pos:Pos}{i:Nat}{x:Str}
def vX (hm:X.mg "range" = none) (ha:pq X C true [a,b] φs) (hg:Gl X "range" := by rfl) (hs:Y9 [a,b] X.env=[(false,eval a X.env),(false,eval b X.env)]:=by rfl) (oJ:Y9 [b] X.env=[(false,eval b X.env)]:=by rfl) :
  Ui X C tg (.Call (.Name "range" pp) [a,b] [] pos) (yc φs) :=
 ⟨λβ R R' k q=>ha.mono β _ _ (λd kd β' h=>by obtain⟨i,j,e,h1,q⟩:=h;exact{i,j,e,h1,k _ _ _ q}) q,(pS hg hm ha.pa hs oJ).pre λσ H R h=>by
  obtain⟨β,own,s,q⟩:=h;refine qV.of ha s q λds ks β' vs H1 ay h o1 r1=>?_;obtain⟨i,j,e,h1,q1⟩:=h;subst e;obtain⟨s1,rfl⟩:=o1.pu rfl;obtain⟨x,y,rfl,hx,hy⟩:=u6 r1.iY;cases hx;cases hy;exact{i,j,rfl,h1,q1 _ _ s1 o1.sq k8}⟩
def Ko (i:Nat):cV:=λβ R=>∃y ds,β[i]?=some (some (.val y (.lst ds)))/\R ds (yk y) β
def pQ (hN:X.N[i]?=some x:=by rfl)(hv:oK X.env.scope x:=by first|exact .inl rfl|exact .inr (.inl rfl)|exact .inr (.inr rfl))(hd:(x==("__debug__" : Str))=false:=by decide)(eU:(x==("__classdict__" : Str))=false:=by decide):Ui X C tg (.Name x pos) (Ko i) :=
 ⟨λβ R R' k h=>by obtain⟨y,ds,e,q⟩:=h;exact{y,ds,e,k _ _ _ q},(rH (bY (pos:=pos) hN hv hd eU)).pre λσ H R h=>by
  obtain⟨β,own,s,y,ds,e,q⟩:=h;obtain⟨v,hv,p,vs,rfl,h1,n1,rs⟩:=s.val i y _ e;exact{_,hv,p,rfl,{vs,dj.of h1},q _ _ (aB.refl _) s (nH h1 n1 rs)}⟩
end
structure SC (X:Cx)(C:Cfg)(W0:Addr->Prop)(T:List Nat)(σ0:St)(H1:Hp)(a:Addr)(Hb:Hp)(Wb:Addr->Prop)(Ac:Hp->Prop)(β:bb)(σ':St)(H':Hp)(own:Nat->List Addr):Prop where
 sq:SQ X (C.u λc=>c=a) σ' H' β own
 sn:Sn (H1,W0) H' (Wn own)
 le:∀c,Wn own c->Wb c
 ac:Ac H'
 pu:aB H1 H'
 bs:∀b ob,b≠a->Hb b=some ob->H' b=some ob
 st:∀j,j∉T->σ'[j]?=σ0[j]?
abbrev va {α:Type}(X:Cx)(C:Cfg)(W0:Addr->Prop)(T:List Nat)(σ0:St)(H1:Hp)(a:Addr)(Hb:Hp)(Wb:Addr->Prop)(Ac:α->Hp->Prop)(β:bb)(o:α)(σ':St)(H':Hp):Prop:=∃own,SC X C W0 T σ0 H1 a Hb Wb (Ac o) β σ' H' own
structure AD {α:Type}(a:Addr)(Ac:α->Hp->Prop):Prop where
 same:∀o H H',aB H H'->Ac o H->Ac o H'
 M5:∀o H xs,Ac o H->H a≠some (.tup xs)
abbrev Eb (X:Cx)(C:Cfg)(a:Addr)(T:List Nat)(γ:da):TG:=λv σ H Q=>∃own β d k,SQ X (C.u λc=>c=a) σ H β own/\Rp X (eD (C.u λc=>c=a) (Wn own) k) H d v/\γ d k β λβ'=>∀σ' a8,SQ X (C.u λc=>c=a) σ' H β' a8->(∀a,Wn a8 a->Wn own a)->(∀j,j∉T->σ'[j]?=σ[j]?)->Q σ' H
abbrev Mj (X:Cx)(C:Cfg)(a:Addr)(φ:aQ):oF:=λN σ H=>tQ X (C.u λc=>c=a) true φ σ H λv H1=>∃xs,H1 a=some (.lst xs)/\xs.length<Zd/\N σ (upd H1 a (.lst (xs++[v])))
section
variable {α:Type}{X:Cx}{C:Cfg}{W0:Addr->Prop}{T Tg:List Nat}{σ0:St}{H1:Hp}{a:Addr}{Hb:Hp}{Wb:Addr->Prop}{γ:da}{τ:a_}{φ:aQ}{Ac:α->Hp->Prop}
def SC.next {o:α}(hA:AD a Ac){β β':bb}{σ σ':St}{H H':Hp}{own a8:Nat->List Addr}(s:SC X C W0 T σ0 H1 a Hb Wb (Ac o) β σ H own)(sq:SQ X (C.u λc=>c=a) σ' H' β' a8)(w:∀c,Wn a8 c->Wn own c)(sm:aB H H')(t:∀j,j∉T->σ'[j]?=σ[j]?):
  SC X C W0 T σ0 H1 a Hb Wb (Ac o) β' σ' H' a8 :=
 {sq,jH (s.sn.same sm) w,λc z=>s.le c (w c z),hA.same o _ _ sm s.ac,s.pu.trans sm,λb ob n e=>sm _ _ (s.bs b ob n e),λj hj=>(t j hj).trans (s.st j hj)}
def SC.put {A:Hp->Prop}{A':Hp->Prop}(h0:C.H0 a=none)(ha:H1 a=none){β:bb}{σ:St}{H:Hp}{own:Nat->List Addr}{oa ob:HO}(s:SC X C W0 T σ0 H1 a Hb Wb A β σ H own)(e:H a=some oa)(nt:∀xs,oa≠.tup xs)(q:A' (upd H a ob)):
  SC X C W0 T σ0 H1 a Hb Wb A' β σ (upd H a ob) own:=by
 refine{s.sq.Mz e nt h0,{s.sn.w,s.sn.k.trans ((k7 e nt).mono λb z=>.inr (by rw[z];exact ha)),λb z e=>?_},s.le,q,λb o e=>?_,λb o n e=>?_,s.st}
 ·by_cases hb:b=a
  ·rw[hb,ak]at e;cases e
  ·rw[au hb]at e;exact s.sn.d b z e
 ·rw[au (λz'=>by rw[z',ha]at e;cases e)]
  exact s.pu b o e
 ·rw[au n];exact s.bs b o n e
def Qp (P:Y7)(w:Zj)(H1:Hp)(a:Addr)(o:List D)(H:Hp):Prop:=∃vs A,H a=some (.lst vs)/\aR P w H o vs A/\A.Nodup/\∀c∈A,H1 c=none/\c≠a
def sP {P:Y7}{w:Zj}:AD a (Qp P w H1 a):=⟨λo H H' s h=>by
  obtain⟨vs,A,h1,h2,h3,h4⟩:=h;exact{vs,A,s _ _ h1,h2.keep (λb xs e=>s _ _ e) λc _ oc e=>s _ _ e,h3,h4},λo H xs h z=>by
  obtain⟨vs,A,h1,_⟩:=h;rw[h1]at z;cases z⟩
def HN (φ:aQ)(o:List D)(β:bb)(N:bb->List D->Prop):Prop:=φ β λx kx β3=>F3 kx x/\o.length<Zd/\N β3 (o++[x])
def xu (h0:C.H0 a=none)(ha:H1 a=none)(φm:∀β R R',(∀d k β,R d k β->R' d k β)->φ β R->φ β R'){β:bb}{o:List D}{σ:St}{H:Hp}{N:bb->List D->Prop}(s:va X C W0 T σ0 H1 a Hb Wb (Qp X.prog X.w H1 a) β o σ H)(q:HN φ o β N):
  Mj X C a φ (λσ' H'=>∃β' o',va X C W0 T σ0 H1 a Hb Wb (Qp X.prog X.w H1 a) β' o' σ' H'/\N β' o') σ H:=by
 obtain⟨own,s⟩:=s;refine{β,own,s.sq,φm _ _ _ (λxd kx β6 i5 v H6 Fs o6 r6=>?_) q};obtain⟨f,hz,q⟩:=i5;obtain⟨sm,rfl⟩:=o6.pu rfl;have s6:=s.next sP (o6.sq) (λ_ z=>z) sm (λ_ _=>rfl)
 obtain⟨B',r1,r2,r3⟩:=r6.fl f;obtain⟨vs,A,at',os,nd,nw⟩:=s.ac;have wI:H6 a=some (.lst vs):=sm _ _ at';have U1:∀c∈B',c≠a:=λc hc z=>by rw[z]at hc;exact absurd (at'.symm.trans (r3 a hc).1) (λz=>(nomatch z))
 have kt:∀b xs,H6 b=some (.tup xs)->upd H6 a (.lst (vs++[v])) b=some (.tup xs):=λb xs z=>by rw[au (λz'=>by rw[z',wI]at z;cases z)];exact z
 refine{vs,wI,by rw[os.length];exact hz,β6,o++[xd],{Fs,s6.put h0 ha wI (λxs z=>by cases z) {vs++[v],A++B',ak,?_,?_,λc hc=>?_}},q}
 ·exact(os.keep (λb xs e=>kt b xs (sm _ _ e)) λc hc oc e=>by rw[au (nw c hc).2];exact sm _ _ e).append (aR.one (r1.keep kt λc hc oc e=>by rw[au (U1 c hc)];exact e))
 ·refine aam.mpr {nd,r2,λx hx y hy e=>?_};subst e;exact(os.ph x hx).1 (r3 x hy).1
 ·rcases Zt.mp hc with hc|hc
  ·exact nw c hc
  ·exact{s.sn.free (r3 c hc).1,U1 c hc}
def lS {α:Type}(γ:da)(τ:a_)(Af:α->bb->(bb->α->Prop)->Prop)(ds:List D)(k:Kd)(β0:bb)(o0:α)(F:bb->α->Prop):Prop:=∃I:Nat->bb->α->Prop,I 0 β0 o0 /\
 (∀i d β o,ds[i]?=some d->I i β o->γ d (sk k d) β λβ1=>τ β1 λt β2=>if t=true then Af o β2 (I (i+1)) else I (i+1) β2 o)/\∀β o,I ds.length β o->F β o
def lS.mono {Af:α->bb->(bb->α->Prop)->Prop}{ds:List D}{k:Kd}{β0:bb}{o0:α}{F F':bb->α->Prop}(h:∀β o,F β o->F' β o)(q:lS γ τ Af ds k β0 o0 F):lS γ τ Af ds k β0 o0 F':=by
 obtain⟨I,h0,h1,h2⟩:=q;exact{I,h0,h1,λβ o z=>h _ _ (h2 β o z)}
def xt (hA:AD a Ac)(hT:∀j∈Tg,j∈T)(γm:∀d k β R R',(∀r,R r->R' r)->γ d k β R->γ d k β R')(τm:∀β R R',(∀d β,R d β->R' d β)->τ β R->τ β R'){J:It}{ds:List D}{k:Kd}{Af:α->bb->(bb->α->Prop)->Prop}{ta:oF}{F:bb->α->Prop}{End:St->Hp->Prop}{β0:bb}{o0:α}{σ1:St}{Hs:Hp}
  (it:∀i β o σ' H',va X C W0 T σ0 H1 a Hb Wb Ac β o σ' H'->(∀d,ds[i]?=some d->J.go i H'/\∀x H3,J.L9 i H' x H3->aB H' H3/\∀own,(∀c,Wn own c->Wb c)->aC X.prog X.w (eD (C.u λc=>c=a) (Wn own) k) H3 d x)/\(ds.length<=i->J.stop i H'))
  (NO:∀β o σ' H' N,va X C W0 T σ0 H1 a Hb Wb Ac β o σ' H'->Af o β N->ta (λAO Ph=>∃β' o',va X C W0 T σ0 H1 a Hb Wb Ac β' o' AO Ph/\N β' o') σ' H')
  (s0:va X C W0 T σ0 H1 a Hb Wb Ac β0 o0 σ1 Hs) (q:lS γ τ Af ds k β0 o0 F) (fin:∀β o σ' H',va X C W0 T σ0 H1 a Hb Wb Ac β o σ' H'->F β o->End σ' H') :
  gO J (Eb X C a Tg γ) (kA X (C.u λc=>c=a) true τ) ta End σ1 Hs:=by
 obtain⟨I,i0,i1,i2⟩:=q;refine{λi m σ' H'=>i<=ds.length/\m=ds.length-i/\∃β o,va X C W0 T σ0 H1 a Hb Wb Ac β o σ' H'/\I i β o,{_,Zn _,rfl,β0,o0,s0,i0},?_};rintro i m σ2 H2 ⟨hi,rfl,β,o,sE,hl⟩;obtain⟨dJ,se⟩:=it i β o σ2 H2 sE
 by_cases dE:i<ds.length
 ·right
  have hd:ds[i]?=some ds[i]:=Y5 dE;obtain⟨go,yl⟩:=dJ _ hd;refine{go,λσ' H'=>∃β' o',va X C W0 T σ0 H1 a Hb Wb Ac β' o' σ' H'/\I (i+1) β' o',λσ' H' h=>{_,by omega,dE,rfl,h},λx H3 y=>?_}
  obtain⟨s3,r3⟩:=yl x H3 y;obtain⟨own,s⟩:=sE;refine{own,β,_,_,s.sq.same s3,qZ (r3 own s.le),γm _ _ _ _ _ (λβ4 q σ4 v_ s4 w4 t4=>?_) (i1 i _ β o hd hl)};have V7:=s.next hA s4 w4 s3 λj hj=>t4 j λz=>hj (hT j z)
  refine{β4,v_,s4,τm _ _ _ (λt β5 q H5 rM o5=>?_) q};obtain⟨LG,rfl⟩:=o5.pu rfl;have UL:=V7.next hA o5.sq (λ_ z=>z) LG λ_ _=>rfl
  cases t with
  |false=>exact{β5,o,{_,UL},q}
  |true=>exact NO β5 o σ4 H5 _ {_,UL} q
 ·left
  have e:i=ds.length:=by omega
  subst e;exact{se (Y8 _),fin β o σ2 H2 sE (i2 β o hl)}
def Ho {α:Type}(ι:cV)(γ:da)(τ:a_)(Af:α->bb->(bb->α->Prop)->Prop)(o:α)(β:bb)(N:bb->α->Prop):Prop:=ι β λds k β1=>lS γ τ Af ds k β1 o N
def EI (hA:AD a Ac){ι:cV}(hT:∀j∈Tg,j∈T)(γm:∀d k β R R',(∀r,R r->R' r)->γ d k β R->γ d k β R')(τm:∀β R R',(∀d β,R d β->R' d β)->τ β R->τ β R'){Af:α->bb->(bb->α->Prop)->Prop}{ta:oF}
  (NO:∀Hb Wb β o σ' H' N,va X C W0 T σ0 H1 a Hb Wb Ac β o σ' H'->Af o β N->ta (λAO Ph=>∃β' o',va X C W0 T σ0 H1 a Hb Wb Ac β' o' AO Ph/\N β' o') σ' H')
  (ιm:∀β R R',(∀d k β,R d k β->R' d k β)->ι β R->ι β R') {β:bb} {o:α} {σ:St} {H:Hp} {N:bb->α->Prop} (s:va X C W0 T σ0 H1 a Hb Wb Ac β o σ H) (q:Ho ι γ τ Af o β N) :
  ∃β own,SQ X (C.u λc=>c=a) σ H β own/\ι β λds k β'=>∀J H',aB H H'->SQ X (C.u λc=>c=a) σ H' β' own->Az X (eD (C.u λc=>c=a) (Wn own) k) J ds H' ->
   gO J (Eb X C a Tg γ) (kA X (C.u λc=>c=a) true τ) ta (λσ' H'=>∃β' o',va X C W0 T σ0 H1 a Hb Wb Ac β' o' σ' H'/\N β' o') σ H':=by
 obtain⟨own,s⟩:=s;refine{β,own,s.sq,ιm _ _ _ (λds k β1 q J H' sm sq WE=>?_) q};have s1:=s.next hA sq (λ_ z=>z) sm λ_ _=>rfl
 have hu:eD (C.u λc=>c=a) (Wn own) k a:=.inr rfl;refine xt (Hb:=H') (Wb:=Wn own) hA hT γm τm (λi βx ox σx Hx sx=>?_) (λβx ox σx Hx Nx sx qx=>NO _ _ _ _ _ _ _ sx qx) {own,{s1.sq,s1.sn,λ_ z=>z,s1.ac,s1.pu,λ_ _ _ e=>e,s1.st}} q λβx ox σx Hx sx hx=>?_
 ·obtain⟨Fq,sx⟩:=sx;have kp:Kp (λb=>eD (C.u λc=>c=a) (Wn own) k b\/H' b=none) H' Hx:={λb ob e n=>sx.bs b ob (λz=>n (.inl (by rw[z];exact hu))) e,λb xs e=>sx.bs b _ (λz=>hA.M5 _ _ _ s1.ac (by rw[<- z];exact e)) e}
  obtain⟨g1,g2⟩:=WE (λb=>eD (C.u λc=>c=a) (Wn own) k b\/H' b=none) (λb z=>z) i Hx kp;refine{λd hd=>?_,g2};obtain⟨go,yl⟩:=g1 d hd;refine{go,λx H3 y=>?_};obtain⟨s3,r3⟩:=yl x H3 y;exact{s3,λa8 Rq=>aC.aY (λb z=>.inl (fm Rq k b z)) r3}
 ·obtain⟨Fq,sx⟩:=sx;exact{βx,ox,{Fq,{sx.sq,sx.sn,λc z=>s.le c (sx.le c z),sx.ac,sx.pu,λb ob n e=>sx.bs b ob n (s1.bs b ob n e),sx.st}},hx}
def jJ {lk:List (Option Nat)}{σ:St}{β:bb}{own:Nat->List Addr}{oa:HO}(hA:AD a Ac){Af:α->bb->(bb->α->Prop)->Prop}{ta:oF}{J:It}{ds:List D}{k:Kd}{o0:α}{K:α->Prop}{End:Hp->Prop}
  (γm:∀d k β R R',(∀r,R r->R' r)->γ d k β R->γ d k β R') (τm:∀β R R',(∀d β,R d β->R' d β)->τ β R->τ β R') (Xs:∀j∈Tg,j∈T)
  (inj:∀(i i' j:Nat),lk[i]?=some (some j)->lk[i']?=some (some j)->i=i') (hT:∀i∈T,∀j,lk[i]?≠some (some j))
  (s1:SQ X C σ H1 β own) (ha:H1 a=none) (hk:hold k false) (it:Az X (av C (Wn own) k) J ds H1) (a0:Ac o0 (upd H1 a oa)) (ent:SQ X (C.u λc=>c=a) (fc lk σ) (upd H1 a oa) (b9 lk β) (df lk β own))
  (NO:∀Hb Wb β' o σ' H' N,C.H0 a=none->va X C (Wn (df lk β own)) T (fc lk σ) H1 a Hb Wb Ac β' o σ' H'->Af o β' N->ta (λAO Ph=>∃β' o',va X C (Wn (df lk β own)) T (fc lk σ) H1 a Hb Wb Ac β' o' AO Ph/\N β' o') σ' H')
  (q:lS γ τ Af ds k (b9 lk β) o0 λβf o=>gg (b9 lk β) βf/\K o)
  (fin:∀o H',K o->Out X C σ H1 own true β H' own->Ac o H'->End H') :
  gO J (Eb X C a Tg γ) (kA X (C.u λc=>c=a) true τ) ta (λ_ H'=>End H') (fc lk σ) (upd H1 a oa):=by
 have h0:C.H0 a=none:=ZH λz=>s1.fS a z ha;have sm:aB H1 (upd H1 a oa):=aB.new ha;refine xt (W0:=Wn (df lk β own)) (T:=T) (σ0:=fc lk σ) (H1:=H1) (Hb:=H1) (Wb:=Wn (df lk β own)) hA Xs γm τm (λi βx ox σx Hx sx=>?_) (λβx ox σx Hx Nx sx qx=>NO _ _ _ _ _ _ _ h0 sx qx)
  {df lk β own,{ent,{λb z=>.inl z,sm.kp,λb z e=>z (sm.free e)},λ_ z=>z,a0,sm,λb ob n e=>sm _ _ e,λ_ _=>rfl}} q λβx ox σx Hx sx hx=>?_
 ·obtain⟨Fq,sx⟩:=sx;have kI:Kp (λb=>av C (Wn own) k b\/H1 b=none) H1 Hx:=sx.pu.kp;obtain⟨g1,g2⟩:=it (λb=>av C (Wn own) k b\/H1 b=none) (λb z=>z) i Hx kI;refine{λd hd=>?_,g2};obtain⟨go,yl⟩:=g1 d hd;refine{go,λx H3 y=>?_};obtain⟨s3,r3⟩:=yl x H3 y;exact{s3,λa8 Rq=>aC.aY (λc z=>z.elim (λz=>.inl (mB (λc z=>gd c (Rq c z)) k c z)) λz=>.inr (by rw[z];exact ha)) r3}
 ·obtain⟨Fq,sx⟩:=sx;obtain⟨hh,hK⟩:=hx;have lv:SQ X C σ Hx β own:=s1.leave sx.sq sx.sn sx.le hh λj ok i' e1 e2=>sx.st i' λz=>hT i' z j e2;exact fin ox Hx hK {lv,{λb z=>.inl z,sx.sn.k.mono λb z=>z.imp (gd b) id,sx.sn.d},λz=>{(sx.pu),rfl},λ_ z=>z} sx.ac
end
def DX {X:Cx}{C:Cfg}{σ:St}{H1 H':Hp}{β:bb}{own:Nat->List Addr}{a:Addr}{o:List D}(s1:SQ X C σ H1 β own)(ha:H1 a=none)(h:Qp X.prog X.w H1 a o H'):KV X.prog X.w C (H1,Wn own) own H' .own (.lst o) (.ref a):=by
 obtain⟨vs,A,at',os,nd,nw⟩:=h;refine{a::A,{(a),vs,A,rfl,at',rfl,os},Zs.mpr {λz=>(nw a z).2 rfl,nd},λc hc=>?_};have uA:H1 c=none:=by
  rcases Y6.mp hc with rfl|hc
  ·exact ha
  ·exact(nw c hc).1
 exact{uA,λh=>by obtain⟨j,hj⟩:=h;exact(s1.dm j c hj).1 uA,ZH λz=>s1.fS c z uA}
def Jg (lk:List (Option Nat))(ι:cV)(γ:da)(τ:a_)(ι2:cV)(γ2:da)(τ2:a_)(φ:aQ):aQ:=λβ R=>ι β λds k β1=>hold k false/\lS γ τ (Ho ι2 γ2 τ2 (HN φ)) ds k (b9 lk β1) [] λβf o=>gg (b9 lk β1) βf/\R (.lst o) .own β1
section
variable {X:Cx}{C:Cfg}{lk:List (Option Nat)}{γ γ2:da}{τ τ2:a_}{φ:aQ}{T T2:List Nat}
variable {scope:abB}{tg dJ Bd se elt:Expr}{ifs o7:List Expr}{ι ι2:cV}{pi:Bool}{pos:Pos}{i:Nat}
def Rr (N':List Str)(lk:List (Option Nat))(L:iq X.env.scope.names X.N scope N' lk=true)(vi:N'.Nodup)(hc:X.calm=true)(hi:AJ X C pi tg dJ ι)
  (uv:∀a cl c s H ex,AK (aK X scope N' cl c s H ex) (C.u λc=>c=a) tg T γ) (uu:∀a cl c s H ex,sQ (aK X scope N' cl c s H ex) (C.u λc=>c=a) true ifs τ)
  (LR:∀a cl c s H ex,Ui (aK X scope N' cl c s H ex) (C.u λc=>c=a) Bd se ι2)
  (NM:∀a cl c s H ex,AK (aK X scope N' cl c s H ex) (C.u λc=>c=a) Bd T2 γ2) (NK:∀a cl c s H ex,sQ (aK X scope N' cl c s H ex) (C.u λc=>c=a) true o7 τ2)
  (uy:∀a cl c s H ex,PQ (aK X scope N' cl c s H ex) (C.u λc=>c=a) true elt φ) (hT:(T++T2).all (λi=>match lk[i]? with|some (some _)=>false|_=>true)=true:=by rfl)
  (hs:∀x,aad dJ X.env x=pure x:=by intro _;rfl) (oJ:∀cl c s H ex x,aad se (aK X scope N' cl c s H ex).env x=pure x:=by intro _ _ _ _ _ _;rfl):PQ X C pi (.ListComp elt [{tg,dJ,ifs,0},{Bd,se,o7,0}] scope pos) (Jg lk ι γ τ ι2 γ2 τ2 φ):=by
 have L:=Links.of L;have K0:∀i∈T++T2,∀j,lk[i]?≠some (some j):=λi hi j e=>by
  have:=aaF.mp hT i hi;rw[e]at this;cases this
 have ax:Addr:=0;have YY:List (Str×Addr):=[];have γm:=(uv 0 [] 0 X.s₀ X.H₀ []).mono;have τm:=(uu 0 [] 0 X.s₀ X.H₀ []).mono;have Qr:=(NM 0 [] 0 X.s₀ X.H₀ []).mono;have Qq:=(NK 0 [] 0 X.s₀ X.H₀ []).mono;have φm:=(uy 0 [] 0 X.s₀ X.H₀ []).mono;have ιm:=(LR 0 [] 0 X.s₀ X.H₀ []).mono;refine{λβ R R' k h=>hi.mono β _ _ (λds kd β1 q=>{q.1,q.2.mono λ_ _ z=>{z.1,k _ _ _ z.2}}) h,?_};refine(jP (g:={tg,dJ,ifs,0}) (gs:=[{Bd,se,o7,0}]) (tg:=λa=>Eb X C a T γ) (tt:=λa=>kA X (C.u λc=>c=a) true τ)
  (ta:=λa N σ H=>∃β own,SQ X (C.u λc=>c=a) σ H β own/\ι2 β λds k β'=>∀J H',aB H H'->SQ X (C.u λc=>c=a) σ H' β' own->Az X (eD (C.u λc=>c=a) (Wn own) k) J ds H' ->
   gO J (Eb X C a T2 γ2) (kA X (C.u λc=>c=a) true τ2) (Mj X C a φ) N σ H')
  L hc jX rfl rfl (λ_ _=>Lk) hi.pi (λa cl c s H ex=>{(uv a cl c s H ex).pg,(uu a cl c s H ex).pt,Fp (X:=aK X scope N' cl c s H ex) (g':={Bd,se,o7,0}) rfl hc Lj (LR a cl c s H ex).pi (NM a cl c s H ex).pg (NK a cl c s H ex).pt (jT (X:=aK X scope N' cl c s H ex) rfl (uy a cl c s H ex).pe) (oJ cl c s H ex)}) hs).pre λσ H Q h=>?_
 obtain⟨β,own,s,h⟩:=h;refine{β,own,s,hi.mono β _ _ (λds k β1 h J H1 ay o1 it a ha=>?_) h};obtain⟨hk,q⟩:=h;refine jJ (T:=T++T2) (sP (P:=X.prog) (w:=X.w) (H1:=H1)) γm τm (λj hj=>aao _ hj) (de L vi) K0 o1.sq ha hk it {[],[],ak,(show aR _ _ _ [] [] [] from {(rfl),rfl}),Z5,λc hc=>(nomatch hc)} (o1.sq.enter ha (de L vi))
  (λHb Wb βx ox σx Hx Nx h0 sx qx=>EI sP (λj hj=>Z1 _ hj) Qr Qq (λHb Wb βy oy σy Hy Ny sy qy=>xu h0 ha φm sy qy) ιm sx qx) q λo H' q o2 r=>?_
 refine q _ _ ay {o2.sq,o1.sn.trans o2.sn,λz=>{(o1.pu z).1.trans (o2.pu rfl).1,(o1.pu z).2},o1.le} ((DX o1.sq ha r).later o1.sn)
end
end L2.Q
namespace L2
open PySem PySem.Spec PySem.SeqAt PyProof.Rows
section
variable {X:Cx}
def pZ:oG X newDict (.dT []) :=
 {λpins s σ H Q E I h=>aaV (h _ _ (Y8 _) I.fresh (λb o e=>Ze _ e) (I.laid (t':=s.toks) (λ_ _ q=>Ze _ q) (Y8 _) (uR _ I.big)))}
def tR {k v:Expr}{tk tv:TE}{a:Addr}(hx:X.xe=λ_ _=>False)(hu:X.A.units<abd)(hk:PE X k tk)(hv:PE X v tv):
  sS X (mP (Dr k v (.ref a) X.env)) (λN σ H=>tk σ H λy H1=>tv σ H1 λv H2=>∃kvs key b,H2 a=some (.dT kvs)/\y=.ref b/\H2 b=some (.tup (key.map kV))/\kvs.length<Zd/\N σ (upd H2 a (.dT (putK kvs key v)))):=by
 intro pins s σ H N kk Q E I h hN;unfold mP Dr;refine Y2 (Y2 (bR (fF hx (hk pins s σ H _ I h)) λu s1 i5=>?_));obtain⟨y,H1,I1,r1,q⟩:=i5;refine Y2 (aav (bR (fF hx (hv pins s1 σ H1 _ I1 q)) λw' s2 l5=>?_));obtain⟨v,H2,I2,r2,kvs,key,b,e,ey,eb,l,q2⟩:=l5;subst ey;cases (show u=Value.ref b from r1)
 refine Y2 (abe (aav ?_));obtain⟨z,hd,xs,rel,dd⟩:=HQ I2.bB e;have hz:xs.length<=Zd:=by rw[<- Paired.length rel];exact z
 have hl:(putK kvs key v).length<=Zd:=by have:=iu kvs key v;lia
 refine wpAny_dictSet_heap (hsz:=hz) (knd:=acz (bZ X.prog X.w)) hu (r_ I2.bB eb) dd λh' LW hs=>hN σ _ _ ?_ q2;obtain⟨q,es,ep,hq,h2,h3,h4,_,h5⟩:=LW;refine sF I2 (by rw[e];exact True.intro) hs {(q),hq} {hl,hd,_,(rel.put key eb r2).keeps λc ys ec=>?_,q,es,ep,hq,h2,h3,h4,h5}
 rw[au (Ci ec e (λz=>nomatch z))];exact ec
end
end L2
namespace L2.Q
open PySem PySem.Spec PySem.SeqAt PyProof.Rows
def Ux (P:Y7)(w:Zj)(a:Addr)(o:List (List Int×D))(H:Hp):Prop:=∃vs,H a=some (.dT ((o.map λp=>iK p.1).zip vs))/\aR P w H (o.map (·.2)) vs []
def xb {P:Y7}{w:Zj}{a:Addr}:AD a (Ux P w a):=⟨λo H H' s h=>by
  obtain⟨vs,h1,h2⟩:=h;exact{vs,s _ _ h1,h2.keep (λb xs e=>s _ _ e) λc hc=>(nomatch hc)},λo H xs h z=>by
  obtain⟨vs,h1,_⟩:=h;rw[h1]at z;cases z⟩
abbrev Qx (X:Cx)(C:Cfg)(a:Addr)(φk φ:aQ):oF:=λN σ H=>tQ X (C.u λc=>c=a) true φk σ H λy H1=>tQ X (C.u λc=>c=a) true φ σ H1 λv H2=>∃kvs key b,H2 a=some (.dT kvs)/\y=.ref b/\H2 b=some (.tup (key.map kV))/\kvs.length<Zd/\N σ (upd H2 a (.dT (putK kvs key v)))
def Dq (φk φ:aQ)(o:List (List Int×D))(β:bb)(N:bb->List (List Int×D)->Prop):Prop:=φk β λkd _ β2=>φ β2 λx _ β3=>∃t,kd=.tup (t.map D.int)/\x.flat=true/\mK o t=none/\o.length<Zd/\N β3 (o++[(t,x)])
section
variable {X:Cx}{C:Cfg}{W0:Addr->Prop}{T:List Nat}{σ0:St}{H1:Hp}{a:Addr}{Hb:Hp}{Wb:Addr->Prop}{φ φk:aQ}
def tD (h0:C.H0 a=none)(ha:H1 a=none)(AM:∀β R R',(∀d k β,R d k β->R' d k β)->φk β R->φk β R')(φm:∀β R R',(∀d k β,R d k β->R' d k β)->φ β R->φ β R'){β:bb}{o:List (List Int×D)}{σ:St}{H:Hp}{N:bb->List (List Int×D)->Prop}(s:va X C W0 T σ0 H1 a Hb Wb (Ux X.prog X.w a) β o σ H)(q:Dq φk φ o β N):
  Qx X C a φk φ (λσ' H'=>∃β' o',va X C W0 T σ0 H1 a Hb Wb (Ux X.prog X.w a) β' o' σ' H'/\N β' o') σ H:=by
 obtain⟨own,s⟩:=s;refine{β,own,s.sq,AM _ _ _ (λkd kk β5 q v5 H5 rM o5 r5=>?_) q};obtain⟨LG,rfl⟩:=o5.pu rfl;refine{β5,_,o5.sq,φm _ _ _ (λxd kx β6 wF v H6 Fs o6 r6=>?_) q};obtain⟨t,e1,f,hn,hz,q2⟩:=wF;obtain⟨sm,rfl⟩:=o6.pu rfl;have s6:=s.next xb o6.sq (λ_ z=>z) (LG.trans sm) (λ_ _=>rfl)
 subst e1;obtain⟨b,us,rfl,hb,rt⟩:=r5.rep;rw[L2.cE rt]at hb;obtain⟨vs,at',os⟩:=s6.ac;have QU:Own X.prog X.w H6 xd v []:=d6 f r6.rep;have l:(o.map λp=>iK p.1).length=vs.length:=by rw[Y3,os.length,Y3]
 have KN:putK ((o.map λp=>iK p.1).zip vs) (iK t) v=((o++[(t,xd)]).map λp=>iK p.1).zip (vs++[v]):=by
  rw[BC v (ID os hn),Zl,List.zip_append l];rfl
 have kt:∀c xs,H6 c=some (.tup xs)->upd H6 a (.dT (putK ((o.map λp=>iK p.1).zip vs) (iK t) v)) c=some (.tup xs):=λc xs z=>by rw[au (λz'=>by rw[z',at']at z;cases z)];exact z
 refine{_,iK t,b,at',rfl,by rw[yd];exact sm _ _ hb,by rw[List.length_zip,<- l,Nat.min_self,Y3];exact hz,β6,o++[(t,xd)],{_,s6.put h0 ha at' (λxs z=>by cases z) {vs++[v],by rw[ak,KN],?_}},q2}
 rw[Zl];exact(os.keep kt (A:=[]) λc hc=>by cases hc).append (aR.one (QU.keep kt (A:=[]) λc hc=>by cases hc))
end
def By (lk:List (Option Nat))(ι:cV)(γ:da)(τ:a_)(φk φ:aQ):aQ:=λβ R=>ι β λds k β1=>hold k false/\lS γ τ (Dq φk φ) ds k (b9 lk β1) [] λβf o=>gg (b9 lk β1) βf/\R (dA o) .own β1
section
variable {X:Cx}{C:Cfg}{lk:List (Option Nat)}{γ:da}{τ:a_}{φ φk:aQ}{T:List Nat}
variable {scope:abB}{tg dJ ke elt:Expr}{ifs:List Expr}{ι:cV}{pi:Bool}{pos:Pos}{i:Nat}
def XM (hu:X.A.units<abd)(N':List Str)(lk:List (Option Nat))(L:iq X.env.scope.names X.N scope N' lk=true)(vi:N'.Nodup)(hc:X.calm=true)(hi:AJ X C pi tg dJ ι)
  (uv:∀a cl c s H ex,AK (aK X scope N' cl c s H ex) (C.u λc=>c=a) tg T γ) (uu:∀a cl c s H ex,sQ (aK X scope N' cl c s H ex) (C.u λc=>c=a) true ifs τ)
  (Ov:∀a cl c s H ex,PQ (aK X scope N' cl c s H ex) (C.u λc=>c=a) true ke φk) (uy:∀a cl c s H ex,PQ (aK X scope N' cl c s H ex) (C.u λc=>c=a) true elt φ) (hT:T.all (λi=>match lk[i]? with|some (some _)=>false|_=>true)=true:=by rfl)
  (hs:∀x,aad dJ X.env x=pure x:=by intro _;rfl):PQ X C pi (.DictComp ke elt [{tg,dJ,ifs,0}] scope pos) (By lk ι γ τ φk φ):=by
 have L:=Links.of L;have K0:∀i∈T,∀j,lk[i]?≠some (some j):=λi hi j e=>by
  have:=aaF.mp hT i hi;rw[e]at this;cases this
 have γm:=(uv 0 [] 0 X.s₀ X.H₀ []).mono;have τm:=(uu 0 [] 0 X.s₀ X.H₀ []).mono;have φm:=(uy 0 [] 0 X.s₀ X.H₀ []).mono;have AM:=(Ov 0 [] 0 X.s₀ X.H₀ []).mono;refine{λβ R R' k h=>hi.mono β _ _ (λds kd β1 q=>{q.1,q.2.mono λ_ _ z=>{z.1,k _ _ _ z.2}}) h,?_};refine(jP (g:={tg,dJ,ifs,0}) (gs:=[]) (tg:=λa=>Eb X C a T γ) (tt:=λa=>kA X (C.u λc=>c=a) true τ) (ta:=λa=>Qx X C a φk φ)
  L hc pZ rfl rfl (λ_ _=>H_) hi.pi (λa cl c s H ex=>{(uv a cl c s H ex).pg,(uu a cl c s H ex).pt,tR (X:=aK X scope N' cl c s H ex) rfl hu (Ov a cl c s H ex).pe (uy a cl c s H ex).pe}) hs).pre λσ H Q h=>?_
 obtain⟨β,own,s,h⟩:=h;refine{β,own,s,hi.mono β _ _ (λds k β1 h J H1 ay o1 it a ha=>?_) h};obtain⟨hk,q⟩:=h;refine jJ (T:=T) (xb (P:=X.prog) (w:=X.w)) γm τm (λj hj=>hj) (de L vi) K0 o1.sq ha hk it {[],ak,(show aR _ _ _ [] [] [] from {(rfl),rfl})} (o1.sq.Dp (λxs z=>by cases z) ha (de L vi))
  (λHb Wb βx ox σx Hx Nx h0 sx qx=>tD h0 ha AM φm sx qx) q λo H' q o2 r=>?_
 refine q _ _ ay {o2.sq,o1.sn.trans o2.sn,λz=>{(o1.pu z).1.trans (o2.pu rfl).1,(o1.pu z).2},o1.le} ?_;obtain⟨vs,at',os⟩:=r;refine{[a],BX at' os,by simp,λc hc=>?_}
 rw[Zc.mp hc];exact{ZH λz=>o1.sn.d a z ha,λh=>by obtain⟨j,hj⟩:=h;exact(o1.sq.dm j a hj).1 ha,ZH λz=>o1.sq.fS a z ha}
end
section
variable {X:Cx}{C:Cfg}{e a:Expr}{φ:aQ}{p:Bool}{pos p2 p3 p4:Pos}{j:Nat}
def Fd {te:TE}(he:PE X e te):PE X (.Subscript e (.Slice none none (some (.UnaryOp .USub (.Constant (.int 1) j p3) p4)) p2) pos) (λσ H Q=>te σ H λx H1=>∃a xs,x=.ref a/\H1 a=some (.lst xs)/\∀p,H1 p=none->Q (.ref p) (upd H1 p (.lst xs.reverse))):=by
 intro pins s σ H Q I h;refine Subscript_ (bR (he pins s σ H _ I h) λv s1 i5=>?_);obtain⟨x,H1,I1,r1,q1⟩:=i5;refine wpAny_Slice ?_;rw[evalPart_none];refine Zi (Zi ?_);rw[evalPart_some];refine bR (Hj (X:=X) (pos:=p4) A6 (ba (i:=1) (j:=j) (pos:=p3)) pins s1 σ H1 (λv H'=>v=.int (-1)/\H'=H1) I1 {1,rfl,rfl,rfl}) λu s3 l5=>?_;obtain⟨y,H3,I3,r3,ey,eH⟩:=l5;subst ey eH;obtain⟨tk,rfl⟩:=(show ∃t,u=Value.int (-1) t from r3)
 have I4:Inv X pins σ H3 {s3 with heap:=s3.heap.push {cls:=.type "slice",data:=.fields #[.none,.none,.int (-1) tk]}}:=I3.kept (t':=s3.toks) λb ob q=>Ze _ q
 have PR:(s3.heap.push {cls:=.type "slice",data:=.fields #[.none,.none,.int (-1) tk]}).IsSliceOf s3.heap.objs.size .none .none (.int (-1) tk):=Heap.IsSliceOf.new ..
 generalize WW:({s3 with heap:=s3.heap.push {cls:=.type "slice",data:=.fields #[.none,.none,.int (-1) tk]}}:Y4)=s4 at I4 ⊢
 have RT:s4.heap.IsSliceOf s3.heap.objs.size .none .none (.int (-1) tk):=by rw[<- WW];exact PR
 have main:∃T id,typeLookup (.type T) "__getitem__" = pure (some (.builtin id))/\s4.TypeIs v T/\Zy (model X.prog X.w) X.A (getItem v (.ref s3.heap.objs.size)) (EP X pins σ Q) X.xe s4:=by
  obtain⟨a,xs,rfl,hx,q⟩:=q1;cases (show v=Value.ref a from r1)
  obtain⟨its,r,ht,hz⟩:=I4.list (dj.of hx);have hlen:=r.length;refine{"list",_,slot_list_getitem.lookup,ht.isList.typeIs,?_};refine wpAny_getItem_list_slice ht.isList RT .none .none (.int (-1) tk) (by simp) ?_ (by rw[Zw] <;> lia)
  rw[HT.oR];refine{.ref s4.heap.objs.size,_,I4.laid (t':=s4.toks) (o:=.lst xs.reverse) (λb ob q=>Ze _ q) (Y8 _) ?_,rfl,q _ (I4.bB.fresh (Y8 _))};exact{by rw[List.length_reverse];lia,_,0,by simpa using Vals.rev r,ZR _ rfl}
 obtain⟨T,id,hT,ht,hg⟩:=main;show Zy (model X.prog X.w) X.A (subscriptTail e (.Slice none none (some (.UnaryOp .USub (.Constant (.int 1) j p3) p4)) p2) v (.ref s3.heap.objs.size)) (EP X pins σ Q) X.xe s4;exact tail_any (ops:=[v,.ref s3.heap.objs.size]) ht hT hg (by with_unfolding_all rfl)
def OV:D->Option D
 |.lst ds=>some (.lst ds.reverse)
 |_=>none
def MJ (φ:aQ):aQ:=λβ R=>φ β λx k β1=>∃d,OV x=some d/\kN NL d k.wk λk'=>R d k' β1
def EY {j:Nat}(ha:PQ X C p a φ):PQ X C p (.Subscript a (.Slice none none (some (.UnaryOp .USub (.Constant (.int 1) j p3) p4)) p2) pos) (MJ φ) :=
 ⟨λβ R R' k h=>ha.mono β _ _ (λx kx β1 h=>by obtain⟨d,e,q⟩:=h;exact{d,e,q.mono λ_ z=>k _ _ _ z}) h,
  (Fd ha.pe).pre λσ H Q h=>by
    obtain⟨β,own,s,h⟩:=h;refine tQ.of ha s h λd k β1 v H1 ay h o1 r1=>?_;obtain⟨d',e,q⟩:=h;have rr:=aC.aY DU r1.rep;cases d with
    |lst ds =>
      cases e;obtain⟨c,vs,rfl,h1,n1,rs⟩:=rr;refine{c,vs,rfl,h1,λp hp=>?_};have sm:aB H1 (upd H1 p (.lst vs.reverse)):=aB.new hp;have hw:¬ av C (Wn ay) k.wk p:=λz=>o1.sq.HR _ p z hp;have r2:aC X.prog X.w (av C (Wn ay) k.wk) (upd H1 p (.lst vs.reverse)) (.lst ds.reverse) (.ref p):={p,_,rfl,ak,hw,(ai.rev rs).same sm};obtain⟨k',q,r⟩:=KV.kN (Z:=(H,Wn own)) G6 r2 (λn=>iR (H:=H1) o1.sq.sD o1.sq.fS (λa z e=>o1.sn.d a z e) n {p,_,rfl,ak,λz=>z hp,ai.flat n ((ai.rev rs).same sm)}) q;exact q _ _ ay (o1.same sm) r
    |_=>cases e⟩
end
section
variable {X:Cx}{C:Cfg}{a:Expr}{φ:aQ}{p:Bool}
def QX (φ:aQ):a_:=λβ R=>φ β λd _ β'=>∃ds,d=.lst ds/\R (!ds.isEmpty) β'
def EV (ha:PQ X C p a φ)(he:∀whole,isTrue a X.env whole=(do let v <- whole;acm a.pos;holding [v] (truthy v)):=by intro _;rfl):vw X C p a (QX φ) :=
 ⟨λβ R R' k h=>ha.mono β _ _ (λd kd β' h=>by obtain⟨b,e,q⟩:=h;exact{b,e,k _ _ q}) h,(BE ha.pe he).pre λσ H Q h=>by
  obtain⟨β,own,s,h⟩:=h;refine tQ.of ha s h λd k β' v H1 ay h o1 r1=>?_;obtain⟨ds,e,q⟩:=h;subst e;obtain⟨c,vs,rfl,h1,n1,rs⟩:=r1.rep;refine{!ds.isEmpty,.inl {vs,dj.of h1,?_},q H1 ay o1};have:=rs.length;cases ds <;> cases vs <;> first|rfl|cases this⟩
end
section
variable {X:Cx}{C:Cfg}{p:Bool}{e:Expr}{φ:aQ}{i:Nat}{x:Str}{px tp pos:Pos}
def Fj {j}(he:PQ X C.z p e φ)(hN:X.N[i]?=some x:=by rfl)(hv:oK X.env.scope x:=by first|exact .inl rfl|exact .inr (.inl rfl)|exact .inr (.inr rfl))(hd:(x==("__debug__" : Str))=false:=by decide)(eU:(x==("__classdict__" : Str))=false:=by decide)
  (WX:Y9 [e,.Name x px] X.env=(false,eval e X.env)::Y9 [.Name x px] X.env:=by rfl) (oJ:Y9 [.Name x px] X.env=(false,eval (.Name x px) X.env)::Y9 [] X.env:=by rfl) :
  PB X C (.Return (some (.Tuple [e,.Name x px] j tp)) pos) (λE β=>φ β λd0 _ β1=>d0.flat=true/\∃d,β1[i]?=some (some (.own d))/\E.rt (.tup [d0,d]) β1) :=
 ⟨λE E' β l q=>he.mono _ _ _ (λd0 k β1 h=>by obtain⟨f,d,h1,q⟩:=h;exact{f,d,h1,l.rt _ _ q}) q,(gx (v8 (aZ he.pe (aZ (bY (pos:=px) hN hv hd eU) cq oJ) WX))).pre λD σ H hq=>by
  obtain⟨Z,E,β,⟨own,s,n⟩,q,ok⟩:=hq;refine tQ.of he s q λd0 k β1 v0 H1 ay h o1 r1=>?_;obtain⟨f,d,hb,q⟩:=h;obtain⟨v,e1,r,h0⟩:=o1.sq.ow i d hb;refine{v,e1,(by show 2<=Zd;decide),λp hp=>ok.rt _ _ _ _ _ ((o1.same (aB.new hp)).sb n) ?_ q}
  have sm:aB H1 (upd H1 p (.tup [v0,v])):=aB.new hp;have r':Own X.prog X.w (upd H1 p (.tup [v0,v])) d v (ay i):=r.keep (λb xs e=>sm _ _ e) (λc _ o e=>sm c o e);have oo:Own X.prog X.w (upd H1 p (.tup [v0,v])) (.tup [d0,d]) (.ref p) (ay i):={p,_,rfl,ak,v0,[v],[],ay i,rfl,rfl,d6 f (aC.same sm r1.rep),v,[],ay i,[],rfl,by simp,r',rfl,rfl}
  cases hr:C.ro with
  |true=>exact{_,oo,o1.sq.jq i,h0}
  |false=>exact oo.rep λc hc z=>z (h0 c hc)⟩
end
structure Bs3 (mg:Str->Option Y1):Prop extends Bs2 mg where
 sum:mg "sum" = none
def tI (p:Nat×Nat):List Int:=[(p.1:Int),(p.2:Int)]
def vG {p q:Nat×Nat}(h:tI p=tI q):p=q:=by
 unfold tI at h;injection h with h1 h2
 injection h2 with h2 _
 exact Prod.ext (Int.ofNat.inj h1) (Int.ofNat.inj h2)
def l0 (ps:List (Nat×Nat)):D:=.lst (ps.map λp=>kD (tI p))
def fN (n:Nat)(ps:List (Nat×Nat)):D:=.tup [.int n,l0 ps]
structure vx (n:Nat)(ps:List (Nat×Nat)):Prop where
 lt:∀p∈ps,p.1<p.2/\p.2<n
 nd:ps.Nodup
 le:n<=80
 sm:ps.length<=400
def Bc {n:Int}{ts:List (List Int)}(n0:0<=n)(h:i8 n ts):∃ps:List (Nat×Nat),ts=ps.map tI/\∀p∈ps,p.1<p.2/\p.2<n.toNat:=by
 induction ts with
 |nil=>exact{[],rfl,λ_ z=>(nomatch z)}
 |cons t ts ih =>
  obtain⟨ps,e,q⟩:=ih λu hu=>h u (by simp[hu])
  obtain⟨a,b,rfl,h1,h2,h3⟩:=h t (by simp)
  refine{(a.toNat,b.toNat)::ps,?_,λp hp=>?_}
  ·rw[ZE,<- e]
   congr 1
   show [a,b]=[((a.toNat:Nat):Int),((b.toNat:Nat):Int)];rw[Int.toNat_of_nonneg h1,Int.toNat_of_nonneg (by lia)]
  ·rcases Y6.mp hp with rfl|hp
   ·exact{by show a.toNat<b.toNat;lia,by show b.toNat<n.toNat;lia}
   ·exact q p hp
def xB {n:Int}{ts:List (List Int)}(n0:0<=n)(n1:n<=80)(l:ts.length<=400)(h:i8 n ts)(nd:ts.Nodup):∃(m:Nat) (ps:List (Nat×Nat)),vx m ps/\n=m/\ts=ps.map tI/\D.tup [.int n,.lst (ts.map kD)]=fN m ps:=by
 obtain⟨ps,e,q⟩:=Bc n0 h;refine{n.toNat,ps,{q,?_,by lia,by rw[e,Y3]at l;exact l},by lia,e,?_}
 ·rw[e]at nd;exact(acr.mp nd).imp λz e=>z (congrArg tI e)
 ·unfold fN l0;rw[e,Z7,Int.toNat_of_nonneg n0];rfl
noncomputable def dB (l:List Nat):List D:=l.map λ(k:Nat)=>D.int (k:Int)
def gy (ps:List (Nat×Nat))(i:Nat):List Nat:=(ps.filter λp=>decide (p.1=i)).map (·.2)
def cF {ps:List (Nat×Nat)}{i k:Nat}:k∈gy ps i↔(i,k)∈ps:=by
 unfold gy;rw[ZN];constructor
 ·rintro⟨p,hp,rfl⟩;obtain⟨h1,h2⟩:=aap.mp hp;rw[<- of_decide_eq_true h2];exact h1
 ·intro h;exact{(i,k),aap.mpr {h,by simp},rfl}
def y_ (n:Nat)(ps:List (Nat×Nat)):D:=.lst ((Zv n).map λi=>.lst (dB (gy ps i)))
def wD (ps:List (Nat×Nat))(w:Nat×Nat->Int):D:=dA (ps.map λp=>(tI p,.int (w p)))
def IC {ps:List (Nat×Nat)}{w:Nat×Nat->Int}{p:Nat×Nat}(h:p∈ps):mK (ps.map λp=>(tI p,.int (w p))) (tI p)=some (.int (w p)):=by
 unfold mK
 induction ps with
 |nil=>cases h
 |cons q ps ih =>
  rw[ZE,aaq]
  by_cases e:q=p
  ·rw[e,decide_eq_true rfl];rfl
  ·rw[decide_eq_false λz=>e (vG z)];exact ih ((Y6.mp h).resolve_left λz=>e z.symm)
def wJ {ps:List (Nat×Nat)}{w:Nat×Nat->Int}{i k:Nat}(h:(i,k)∈ps):yq (wD ps w) (.tup [.int (i:Int),.int (k:Int)])=some (.int (w (i,k))):=by
 have:=GJ (kvs:=ps.map λp=>(tI p,D.int (w p))) (t:=tI (i,k));rw[IC h]at this;exact this
def bp {α:Type}{n i:Nat}{f:Nat->α}(h:i<n):((Zv n).map f)[i]?=some (f i):=by
 rw[Zg,aa1 h];rfl
def qm {ds:List D}{x:Int}{i:Nat}{d:D}(hx:x=(i:Int))(h:ds[i]?=some d):vn (.lst ds) (.int x)=some d:=by rw[hx];exact GI h
def Kk {n:Nat}{ps:List (Nat×Nat)}{x:Int}{i:Nat}(hx:x=(i:Int))(h:i<n):vn (y_ n ps) (.int x)=some (.lst (dB (gy ps i))):=qm hx (bp h)
def oP (L:Nat)(T:Nat->Int):List D:=(Zv L).map λl=>.int (T l)
def l3 (n:Nat)(L:Nat->Nat)(T:Nat->Nat->Int):D:=.lst ((Zv (n+1)).map λi=>.lst (oP (L i) λl=>T l i))
def ql {L:Nat}{T:Nat->Int}{x:Int}{l:Nat}(hx:x=(l:Int))(h:l<L):vn (.lst (oP L T)) (.int x)=some (.int (T l)):=qm hx (bp h)
def qk {n:Nat}{L:Nat->Nat}{T:Nat->Nat->Int}{x:Int}{i:Nat}(hx:x=(i:Int))(h:i<=n):vn (l3 n L T) (.int x)=some (.lst (oP (L i) λl=>T l i)):=qm hx (bp (by lia))
def iZ (ps:List (Nat×Nat))(w:Nat×Nat->Int)(T:Nat->Nat->Int)(i j:Nat):Int:=(oY ((((gy ps i).filter λk=>decide (k<j)).map λk=>w (i,k)+T (k-i-1) (i+1)+T (j-k-1) (k+1))++[T (j-i-1) (i+1)])).getD 0
def qc {l:List Int}{x:Int}:oY (l++[x])=some ((oY (l++[x])).getD 0):=by
 cases l with
 |nil=>rfl
 |cons a l=>rfl
def nv {ps:List (Nat×Nat)}{w:Nat×Nat->Int}{T T':Nat->Nat->Int}{i j:Nat}(hp:∀p∈ps,p.1<p.2)(hj:i<j)(h:∀l,l<j-i->∀a,T l a=T' l a):iZ ps w T i j=iZ ps w T' i j:=by
 unfold iZ;have e:((gy ps i).filter λk=>decide (k<j)).map (λk=>w (i,k)+T (k-i-1) (i+1)+T (j-k-1) (k+1))=((gy ps i).filter λk=>decide (k<j)).map λk=>w (i,k)+T' (k-i-1) (i+1)+T' (j-k-1) (k+1):=by
  refine ZU λk hk=>?_;obtain⟨h1,h2⟩:=aap.mp hk;have h3:=hp _ (cF.mp h1);have h4:=of_decide_eq_true h2;dsimp only at h3;rw[h _ (by lia),h _ (by lia)]
 rw[e,h (j-i-1) (by lia)]
def II (ps:List (Nat×Nat))(w:Nat×Nat->Int):Nat->Nat->Nat->Int
 |0,_,_=>0
 |_+1,0,_=>0
 |n+1,l+1,i=>iZ ps w (II ps w n) i (i+l+1)
theorem tj {ps:List (Nat×Nat)}{w:Nat×Nat->Int}(hp:∀p∈ps,p.1<p.2):∀{n m l i:Nat},l<=n->l<=m->II ps w n l i=II ps w m l i
 |0,0,_,_,_,_=>rfl
 |0,m+1,0,_,_,_=>rfl
 |0,m+1,l+1,_,h,_=>by lia
 |n+1,0,0,_,_,_=>rfl
 |n+1,0,l+1,_,_,h=>by lia
 |n+1,m+1,0,_,_,_=>rfl
 |n+1,m+1,l+1,i,h1,h2=>by
  unfold II;exact nv hp (by lia) λl' hl a=>tj hp (by lia) (by lia)
def tW (ps:List (Nat×Nat))(w:Nat×Nat->Int)(l i:Nat):Int:=II ps w l l i
def mh {ps:List (Nat×Nat)}{w:Nat×Nat->Int}(hp:∀p∈ps,p.1<p.2){l i:Nat}:tW ps w (l+1) i=iZ ps w (tW ps w) i (i+l+1):=by
 show II ps w (l+1) (l+1) i=_;unfold II;exact nv hp (by lia) λl' hl a=>tj hp (by lia) (by lia)
def e_ (n a:Nat):List (Nat×Nat):=(Zv (a+1)).map λb=>(n-1-a,n-a+b)
def jF (n:Nat):List (Nat×Nat):=(Zv n).flatMap (e_ n)
def BI (p:Nat×Nat):D:=.tup [.int (p.1:Int),.int (p.2:Int)]
def fy (n a b:Nat):List (Nat×Nat):=(e_ n a).drop b++((Zv n).drop (a+1)).flatMap (e_ n)
def jh {n a b:Nat}(h:b<=a):fy n a b=(n-1-a,n-a+b)::fy n a (b+1):=by
 unfold fy e_;rw[Z6 (by rw[Y3,ZV];lia)]
 simp
def qG {n a:Nat}(h:a<n):((Zv n).drop a).flatMap (e_ n)=fy n a 0:=by
 unfold fy;rw[Z6 (by rw[ZV];exact h)]
 simp
def pN {n a:Nat}(h:a+1<n):fy n a (a+1)=fy n (a+1) 0:=by
 rw[<- qG h];unfold fy e_;simp
def vT {n a:Nat}(h:n<=a+1):fy n a (a+1)=[]:=by
 unfold fy e_;rw[List.drop_eq_nil_of_le (by simp),List.drop_eq_nil_of_le (by simpa using h)]
 rfl
def yM {n:Nat}(h:0<n):jF n=fy n 0 0:=by rw[<- qG h];rfl
def ip {α:Type}{γ:da}{τ:a_}{φ:aQ}{l:List α}{f:α->D}{k:Kd}{cap:bb}{K:List D->Prop}(t:α->Bool)(g:α->D)(h0:gg cap cap)(hl:l.length<=Zd)
  (h:∀x∈l,∀(x0:Option B) (o:List D) (J:bb->List D->Prop),o.length<Zd->(t x=true->∀x0,J (x0::cap) (o++[g x]))->(t x=false->∀x0,J (x0::cap) o)->γ (f x) (sk k (f x)) (x0::cap) λβ1=>τ β1 λt β2=>if t=true then φ β2 λx kx β3=>F3 kx x/\o.length<Zd/\J β3 (o++[x]) else J β2 o)
  (q:K ((l.filter t).map g)):nu γ τ φ (l.map f) k (none::cap) K:=by
 refine{λi β o=>i<=l.length/\(∃x0,β=x0::cap)/\o=((l.take i).filter t).map g,{Zn _,{_,rfl},rfl},?_,?_}
 ·rintro i d β o hd ⟨hi,⟨x0,rfl⟩,rfl⟩;rw[Zg]at hd;obtain⟨x,hx,rfl⟩:=Zh.mp hd;have dE:i<l.length:=(Y_.mp hx).1;have hle:(((l.take i).filter t).map g).length<Zd:=by
   rw[Y3];have:=aaT t (l.take i);rw[ZI]at this;lia
  have e:l.take (i+1)=l.take i++[x]:=by rw[ZS,hx];rfl
  refine h x (ZT hx) x0 _ (λβ o=>i+1<=l.length/\(∃x0,β=x0::cap)/\o=((l.take (i+1)).filter t).map g) hle (λht x0=>?_) λht x0=>?_
  ·exact{dE,{_,rfl},by rw[e,aaR,Zl,aaE,if_pos ht];rfl}
  ·exact{dE,{_,rfl},by rw[e,aaR,Zl,aaE,if_neg (by rw[ht];simp)];simp}
 ·rintro β o ⟨_,⟨x0,rfl⟩,rfl⟩;rw[Y3,aai];exact{(h0),q}
def J7 {α:Type}{γ:da}{τ:a_}{φ:aQ}{l:List α}{f:α->D}{k:Kd}{cap:bb}{K:List D->Prop}(t:α->Bool)(g:α->D)(h0:gg cap cap)(hl:l.length<=Zd)
  (h:∀x∈l,∀(x0 x1:Option B) (o:List D) (J:bb->List D->Prop),o.length<Zd->(t x=true->∀x0 x1,J (x0::x1::cap) (o++[g x]))->(t x=false->∀x0 x1,J (x0::x1::cap) o)->γ (f x) (sk k (f x)) (x0::x1::cap) λβ1=>τ β1 λt β2=>if t=true then φ β2 λx kx β3=>F3 kx x/\o.length<Zd/\J β3 (o++[x]) else J β2 o)
  (q:K ((l.filter t).map g)):nu γ τ φ (l.map f) k (none::none::cap) K:=by
 refine{λi β o=>i<=l.length/\(∃x0 x1,β=x0::x1::cap)/\o=((l.take i).filter t).map g,{Zn _,{_,_,rfl},rfl},?_,?_}
 ·rintro i d β o hd ⟨hi,⟨x0,x1,rfl⟩,rfl⟩;rw[Zg]at hd;obtain⟨x,hx,rfl⟩:=Zh.mp hd;have dE:i<l.length:=(Y_.mp hx).1;have hle:(((l.take i).filter t).map g).length<Zd:=by
   rw[Y3];have:=aaT t (l.take i);rw[ZI]at this;lia
  have e:l.take (i+1)=l.take i++[x]:=by rw[ZS,hx];rfl
  refine h x (ZT hx) x0 x1 _ (λβ o=>i+1<=l.length/\(∃x0 x1,β=x0::x1::cap)/\o=((l.take (i+1)).filter t).map g) hle (λht x0 x1=>?_) λht x0 x1=>?_
  ·exact{dE,{_,_,rfl},by rw[e,aaR,Zl,aaE,if_pos ht];rfl}
  ·exact{dE,{_,_,rfl},by rw[e,aaR,Zl,aaE,if_neg (by rw[ht];simp)];simp}
 ·rintro β o ⟨_,⟨x0,x1,rfl⟩,rfl⟩;rw[Y3,aai];exact{(h0),q}
def bS {α:Type}{l:List α}:l.filter (λ_=>true)=l:=List.filter_eq_self.mpr λ_ _=>rfl
def fk {a b:List D}(h:a.length+b.length<=1000000):Ae (.lst a) (.lst b)=some (.lst (a++b)):=by
 show (if a.length+b.length<=Zd then _ else _)=_
 rw[if_pos (ZX h (by decide))]
theorem ll {α:Type}{f:α->Int}:∀{l:List α},D.cK (l.map λx=>D.int (f x))=true
 |[]=>rfl
 |_::l=>ll (l:=l)
theorem qw:∀{a b:List D},D.cK a=true->D.cK b=true->D.cK (a++b)=true
 |[],_,_,h=>h
 |d::a,b,h,h'=>by
  have f':(d.flat&&D.cK a)=true:=h;rw[ZW]at f';show (d.flat&&D.cK (a++b))=true;rw[f'.1,qw f'.2 h'];rfl
def Cq {α:Type}{f:α->Int}{l:List α}{x:Int}:km oY [.lst ((l.map λk=>D.int (f k))++[D.int x])]=some (.int ((oY (l.map f++[x])).getD 0)):=by
 have e:(l.map λk=>D.int (f k))++[D.int x]=(l.map f++[x]).map D.int:=by simp
 rw[e];exact oi qc
def sA:FD:=λds R=>∃n:Nat,ds=[.int n]/\n<=80/\R (.lst ((jF n).map BI))
def sA.mono:dq sA:=λds R R' k h=>by obtain⟨n,e,h1,q⟩:=h;exact{n,e,h1,k _ q}
def iG:FD:=λds R=>∃n ps,ds=[fN n ps]/\vx n ps/\R (y_ n ps)
def iG.mono:dq iG:=λds R R' k h=>by obtain⟨n,ps,e,h1,q⟩:=h;exact{n,ps,e,h1,k _ q}
def nX:FD:=λds R=>∃(n:Nat) (ps:List (Nat×Nat)) (w:Nat×Nat->Int) (L:Nat->Nat) (T:Nat->Nat->Int) (i k j:Nat),ds=[wD ps w,l3 n L T,.int i,.int k,.int j]/\(i,k)∈ps/\i<k/\k<j/\j<=n/\k-i-1<L (i+1)/\j-k-1<L (k+1) /\
 R (.int (w (i,k)+T (k-i-1) (i+1)+T (j-k-1) (k+1)))
def nX.mono:dq nX:=λds R R' k h=>by obtain⟨n,ps,w,L,T,i,k',j,e,h1,h2,h3,h4,h5,h6,q⟩:=h;exact{n,ps,w,L,T,i,k',j,e,h1,h2,h3,h4,h5,h6,k _ q}
def jl:FD:=λds R=>∃(n:Nat) (ps:List (Nat×Nat)) (w:Nat×Nat->Int) (L:Nat->Nat) (T:Nat->Nat->Int) (i j:Nat),ds=[y_ n ps,wD ps w,l3 n L T,.int i,.int j]/\vx n ps/\i<j/\j<=n/\(∀a,i<a->a<=n->n+1-a<=L a)/\R (.int (iZ ps w T i j))
def jl.mono:dq jl:=λds R R' k h=>by obtain⟨n,ps,w,L,T,i,j,e,h1,h2,h3,h4,q⟩:=h;exact{n,ps,w,L,T,i,j,e,h1,h2,h3,h4,k _ q}
abbrev iB (n:Nat)(T:Nat->Nat->Int):D:=l3 n (λi=>n+1-i) T
def nZ:FD:=λds R=>∃(n:Nat) (ps:List (Nat×Nat)) (w:Nat×Nat->Int),ds=[fN n ps,wD ps w]/\vx n ps/\R (iB n (tW ps w))
def nZ.mono:dq nZ:=λds R R' k h=>by obtain⟨n,ps,w,e,h1,q⟩:=h;exact{n,ps,w,e,h1,k _ q}
def w1:Nat×Nat->Int:=λ_=>1
def bG {n:Nat}(h:n<=1000):n<=Zd:=ZX h (by decide)
def jD {n:Nat}(h:n<=1000):n<Zd:=Nat.lt_of_le_of_lt h (by decide)
def zJ {n i:Nat}{x:Int}(hx:x=(i:Int))(h:i<n):sd n x=some i:=by
 subst hx;unfold sd;rw[if_pos (by lia),if_pos (by lia)]
 simp
def q_ {α:Type}{n i:Nat}{f:Nat->α}{y:α}(h:i<n):((Zv n).map f).set i y=(Zv n).map λk=>if k=i then y else f k:=by
 refine aau λk=>?_;rw[aaX]
 by_cases hk:k<n
 ·rw[bp hk,bp hk,Y3,ZV]
  by_cases e:i=k
  ·rw[if_pos e,if_pos (e▸hk),if_pos e.symm]
  ·rw[if_neg e,if_neg (Z_ e)]
 ·rw[ZF (l:=(Zv n).map f) (by simpa using hk),ZF (l:=(Zv n).map λk=>if k=i then y else f k) (by simpa using hk),if_neg (by lia)]
def I_ {n i k:Nat}{ps:List (Nat×Nat)}(h:i<n):((Zv n).map λj=>D.lst (dB (gy ps j))).set i (.lst (dB (gy ps i)++[D.int k]))=(Zv n).map λj=>D.lst (dB (gy (ps++[(i,k)]) j)):=by
 rw[q_ h];refine ZU λj _=>?_;unfold gy dB;rw[aaR,Zl,Zl]
 by_cases e:j=i
 ·rw[if_pos e,e];simp
 ·rw[if_neg e,aaE,if_neg (by simpa using Z_ e)];simp
def jL {ps:List (Nat×Nat)}{i:Nat}:(gy ps i).length<=ps.length:=by
 unfold gy;rw[Y3];exact aaT _ _
def c9 (n a b:Nat)(i:Nat):Nat:=if n-1-a<i then n+1-i else if i=n-1-a then b+1 else 1
def EG {n a b:Nat}{T:Nat->Nat->Int}(ha:a<n)(hb:b<=a):
  ((Zv (n+1)).map λi=>D.lst (oP (c9 n a b i) λl=>T l i)).set (n-1-a) (.lst (oP (b+1) (λl=>T l (n-1-a))++[D.int (T (b+1) (n-1-a))]))=(Zv (n+1)).map λi=>D.lst (oP (c9 n a (b+1) i) λl=>T l i):=by
 rw[q_ (by lia)]
 refine ZU λi _=>?_;unfold c9
 by_cases e:i=n-1-a
 ·rw[if_pos e,e,if_neg (by lia),if_pos rfl]
  unfold oP;rw[List.range_succ (n:=b+1),Zl];rfl
 ·rw[if_neg e,if_neg e,if_neg e]
def zB {n a:Nat}(h:a+1<n)(i:Nat)(hi:i<=n):c9 n a (a+1) i=c9 n (a+1) 0 i:=by
 unfold c9
 by_cases h1:n-1-a<i
 ·rw[if_pos h1,if_pos (by omega)]
 ·rw[if_neg h1]
  by_cases h2:i=n-1-a
  ·rw[if_pos h2,if_pos (by omega)];omega
  ·rw[if_neg h2,if_neg (by omega)]
   split <;> rfl
def Cv {n a:Nat}(h:n=a+1)(i:Nat)(hi:i<=n):c9 n a (a+1) i=n+1-i:=by
 unfold c9
 split
 ·rfl
 ·split <;> lia
def wq {n:Nat}(h:0<n)(i:Nat)(hi:i<=n):c9 n 0 0 i=1:=by
 unfold c9
 split
 ·lia
 ·split <;> rfl
def pG {n:Nat}{L L':Nat->Nat}{T:Nat->Nat->Int}(h:∀i,i<=n->L i=L' i):l3 n L T=l3 n L' T:=by
 unfold l3
 congr 1
 refine ZU λi hi=>?_;rw[h i (by have:=aae.mp hi;lia)]
def vd (n idx:Nat)(L:Nat->Nat):Prop:=(n=0/\L 0=1)\/∃a b,a<n/\b<=a+1/\(∀i,i<=n->L i=c9 n a b i)/\(jF n).drop idx=fy n a b
def lW {n:Nat}:vd n 0 λ_=>1:=by
 rcases Nat.eq_zero_or_pos n with h|h
 ·exact .inl {(h),rfl}
 ·exact .inr {0,0,h,Zn _,λi hi=>(wq h i hi).symm,yM h}
def qH {n:Nat}{L:Nat->Nat}(h:vd n (jF n).length L):∀i,i<=n->L i=n+1-i:=by
 rcases h with⟨rfl,h⟩|⟨a,b,h1,h2,h3,h4⟩
 ·intro i hi;rw[show i=0 by lia,h]
 ·intro i hi;rw[List.drop_length]at h4;have hb:b=a+1:=by
   rcases acb a b with q|q
   ·lia
   ·rw[jh q]at h4;cases h4
  have ha:n=a+1:=by
   rcases acb (a+1) n with q|q
   ·rw[hb,pN q,jh (Zn _)]at h4;cases h4
   ·lia
  rw[h3 i hi,hb];exact Cv ha i hi
def n_ {n idx:Nat}{L:Nat->Nat}{p:Nat×Nat}(h:vd n idx L)(hp:(jF n)[idx]?=some p):∃a b,a<n/\b<=a/\p=(n-1-a,n-a+b)/\(∀i,i<=n->L i=c9 n a b i)/\(jF n).drop (idx+1)=fy n a (b+1):=by
 have hd:(jF n).drop idx=p::(jF n).drop (idx+1):=by
  obtain⟨h1,h2⟩:=Y_.mp hp;rw[Z6 h1,h2]
 rcases h with⟨rfl,h⟩|⟨a,b,h1,h2,h3,h4⟩
 ·cases hp
 ·have key:∃a b,a<n/\b<=a/\(∀i,i<=n->L i=c9 n a b i)/\(jF n).drop idx=fy n a b:=by
   rcases acb a b with q|q
   ·have e:b=a+1:=by lia
    rcases acb (a+1) n with q2|q2
    ·exact{a+1,0,q2,Zn _,λi hi=>by rw[h3 i hi,e,zB q2 i hi],by rw[h4,e,pN q2]}
    ·rw[h4,e,vT q2]at hd;cases hd
   ·exact{(a),b,h1,q,h3,h4}
  obtain⟨a,b,h1,h2,h3,h4⟩:=key;rw[h4,jh h2]at hd;injection hd with e1 e2
  exact{(a),b,h1,h2,e1.symm,h3,e2.symm}
def tE {n a:Nat}:(e_ n a).length=a+1:=by unfold e_;simp
def yV {n a b:Nat}(h:b<a+1):(e_ n a).take (b+1)=(e_ n a).take b++[(n-1-a,n-a+b)]:=by
 rw[ZS];unfold e_;rw[bp h];rfl
def Bu {n a:Nat}:(e_ n a).take (a+1)=e_ n a:=Z4 (by rw[tE];exact Y8 _)
theorem uE {n:Nat}:∀a:Nat,a<=n->(((Zv n).take a).flatMap (e_ n)).length<=a*a
 |0,_=>by simp
 |a+1,h=>by
  have:=uE (n:=n) a (by lia)
  rw[ZS,aa1 (show a<n by lia),aaO,Zk]
  have e:((some a).toList.flatMap (e_ n)).length=a+1:=by simp[tE]
  rw[e,Nat.mul_add,Nat.add_mul];lia
def Bi {n a b:Nat}(hn:n<=80)(ha:a<n)(hb:b<a+1):(((Zv n).take a).flatMap (e_ n)).length+((e_ n a).take b).length<Zd:=by
 have h1:=uE (n:=n) a (by lia)
 have h2:((e_ n a).take b).length<=b:=by rw[ZI];exact Nat.min_le_left _ _
 have h3:a*a<=80*80:=Nat.mul_le_mul (by lia) (by lia)
 have h4:80*80+80<Zd:=by decide
 lia
def zv {l:List Int}{x:Int}:(oY (l++[x])).getD 0∈l++[x]/\∀y∈l++[x],y<=(oY (l++[x])).getD 0:=by
 cases l with
 |nil=>exact cy [] x
 |cons a l=>exact cy (l++[x]) a
def qe {ps:List (Nat×Nat)}{w:Nat×Nat->Int}{T:Nat->Nat->Int}{i j:Nat}:
  (iZ ps w T i j=T (j-i-1) (i+1)\/∃k,(i,k)∈ps/\k<j/\iZ ps w T i j=w (i,k)+T (k-i-1) (i+1)+T (j-k-1) (k+1)) /\
  T (j-i-1) (i+1)<=iZ ps w T i j/\∀k,(i,k)∈ps->k<j->w (i,k)+T (k-i-1) (i+1)+T (j-k-1) (k+1)<=iZ ps w T i j:=by
 obtain⟨h1,h2⟩:=zv (l:=((gy ps i).filter λk=>decide (k<j)).map λk=>w (i,k)+T (k-i-1) (i+1)+T (j-k-1) (k+1)) (x:=T (j-i-1) (i+1));refine{?_,h2 _ (by simp),λk hk hj=>h2 _ (aao _ (ZN.mpr {k,aap.mpr {cF.mpr hk,decide_eq_true hj},rfl}))}
 rcases Zt.mp h1 with h|h
 ·obtain⟨k,hk,e⟩:=ZN.mp h;obtain⟨q1,q2⟩:=aap.mp hk;exact .inr {k,cF.mp q1,of_decide_eq_true q2,e.symm}
 ·exact .inl (Zc.mp h)
def oD:Option Nat->D
 |none=>.cN
 |some k=>.int (k:Int)
def parts (i:Nat)(k:Option Nat)(j:Nat):List (Nat×Nat):=match k with
 |none=>[(i+1,j)]
 |some k=>[(i+1,k),(k+1,j)]
def gV (ps:List (Nat×Nat))(w:Nat×Nat->Int)(T:Nat->Nat->Int)(i j:Nat):List (Option Nat) :=
 ((gy ps i).filter λk=>decide (k<j)&&decide (w (i,k)+T (k-i-1) (i+1)+T (j-k-1) (k+1)=T (j-i) i)).map some++(if T (j-i-1) (i+1)=T (j-i) i then [none] else [])
def Wi (ps:List (Nat×Nat))(w:Nat×Nat->Int)(T:Nat->Nat->Int)(i j:Nat):Option Nat->Prop
 |none=>T (j-i-1) (i+1)=T (j-i) i
 |some k=>(i,k)∈ps/\k<j/\w (i,k)+T (k-i-1) (i+1)+T (j-k-1) (k+1)=T (j-i) i
def eT {ps:List (Nat×Nat)}{w:Nat×Nat->Int}{T:Nat->Nat->Int}{i j:Nat}{c:Option Nat}(h:c∈gV ps w T i j):Wi ps w T i j c:=by
 unfold gV at h;rcases Zt.mp h with h|h
 ·obtain⟨k,hk,rfl⟩:=ZN.mp h;obtain⟨h1,h2⟩:=aap.mp hk;rw[ZW,decide_eq_true_eq,decide_eq_true_eq]at h2;exact{cF.mp h1,h2.1,h2.2}
 ·split at h
  ·next e=>rw[Zc.mp h];exact e
  ·cases h
def u3 {ps:List (Nat×Nat)}{w:Nat×Nat->Int}(hp:∀p∈ps,p.1<p.2){i j:Nat}(h:i<j):gV ps w (tW ps w) i j≠[]:=by
 have e:tW ps w (j-i) i=iZ ps w (tW ps w) i j:=by rw[show j-i=(j-i-1)+1 by lia,mh hp,show i+(j-i-1)+1=j by lia]
 obtain⟨h1,_,_⟩:=qe (ps:=ps) (w:=w) (T:=tW ps w) (i:=i) (j:=j);rw[<- e]at h1;unfold gV;intro z;obtain⟨z1,z2⟩:=List.append_eq_nil_iff.mp z;rcases h1 with q|⟨k,hk,hj,q⟩
 ·rw[if_pos q.symm]at z2;cases z2
 ·have:k∈(gy ps i).filter λk=>decide (k<j)&&decide (w (i,k)+tW ps w (k-i-1) (i+1)+tW ps w (j-k-1) (k+1)=tW ps w (j-i) i):=aap.mpr {cF.mpr hk,by rw[ZW,decide_eq_true_eq,decide_eq_true_eq];exact{(hj),q.symm}}
  rw[List.map_eq_nil_iff.mp z1]at this;cases this
def dC (ps:List (Nat×Nat))(w:Nat×Nat->Int)(i j:Nat):Option Nat:=(gV ps w (tW ps w) i j).headD none
def dN {ps:List (Nat×Nat)}{w:Nat×Nat->Int}(hp:∀p∈ps,p.1<p.2){i j:Nat}(h:i<j):dC ps w i j∈gV ps w (tW ps w) i j:=by
 have:=u3 (w:=w) hp h;unfold dC;cases q:gV ps w (tW ps w) i j with
 |nil=>exact absurd q this
 |cons a l=>simp
noncomputable def o_ (ps:List (Nat×Nat))(w:Nat×Nat->Int):Nat->Nat->Nat->List (Nat×Nat)
 |0,_,_=>[]
 |n+1,i,j=>if i<j then match dC ps w i j with
   |none=>o_ ps w n (i+1) j
   |some k=>(i,k)::(o_ ps w n (i+1) k++o_ ps w n (k+1) j)
  else []
theorem eV {ps:List (Nat×Nat)}{w:Nat×Nat->Int}(hp:∀p∈ps,p.1<p.2):∀{n m i j:Nat},j-i<=n->j-i<=m->o_ ps w n i j=o_ ps w m i j
 |0,0,_,_,_,_=>rfl
 |0,m+1,i,j,h,_=>by unfold o_;rw[if_neg (by omega)]
 |n+1,0,i,j,_,h=>by unfold o_;rw[if_neg (by omega)]
 |n+1,m+1,i,j,h1,h2=>by
  unfold o_
  by_cases h:i<j
  ·rw[if_pos h,if_pos h];have hm:=eT (dN (w:=w) hp h);cases q:dC ps w i j with
   |none=>exact eV hp (by omega) (by omega)
   |some k =>
    rw[q]at hm;have:=hp _ hm.1;dsimp only at this;have h3:=hm.2.1;dsimp only;rw[eV hp (n:=n) (m:=m) (i:=i+1) (j:=k) (by omega) (by omega),eV hp (n:=n) (m:=m) (i:=k+1) (j:=j) (by omega) (by omega)]
  ·rw[if_neg h,if_neg h]
def gh (ps:List (Nat×Nat))(w:Nat×Nat->Int)(i j:Nat):List (Nat×Nat):=o_ ps w (j-i) i j
def fg {ps:List (Nat×Nat)}{w:Nat×Nat->Int}{i j:Nat}(h:¬ i<j):gh ps w i j=[]:=by
 unfold gh;rw[show j-i=0 by lia]
 rfl
theorem iU {ps:List (Nat×Nat)}{w:Nat×Nat->Int}(hp:∀p∈ps,p.1<p.2){i j:Nat}(h:i<j):gh ps w i j=match dC ps w i j with
  |none=>gh ps w (i+1) j
  |some k=>(i,k)::(gh ps w (i+1) k++gh ps w (k+1) j):=by
 unfold gh;rw[show j-i=(j-i-1)+1 by lia]
 conv=>lhs;unfold o_
 rw[if_pos h];have hm:=eT (dN (w:=w) hp h);cases q:dC ps w i j with
 |none=>exact eV hp (by lia) (by lia)
 |some k =>
  rw[q]at hm;have:=hp _ hm.1;dsimp only at this;have h3:=hm.2.1;dsimp only;rw[eV hp (n:=j-i-1) (m:=k-(i+1)) (i:=i+1) (j:=k) (by lia) (by lia),eV hp (n:=j-i-1) (m:=j-(k+1)) (i:=k+1) (j:=j) (by lia) (by lia)]
def uz (i:Nat):Option Nat->List (Nat×Nat)
 |none=>[]
 |some k=>[(i,k)]
def wL {ps:List (Nat×Nat)}{w:Nat×Nat->Int}(hp:∀p∈ps,p.1<p.2){i j:Nat}(h:i<j):gh ps w i j=uz i (dC ps w i j)++(parts i (dC ps w i j) j).flatMap λp=>gh ps w p.1 p.2:=by
 rw[iU hp h];cases dC ps w i j with
 |none=>simp[parts,uz]
 |some k=>simp[parts,uz]
def nP {ps:List (Nat×Nat)}{w:Nat×Nat->Int}(hp:∀p∈ps,p.1<p.2):∀l i j,j-i<=l->2*(gh ps w i j).length<=j-i:=by
 intro l
 induction l with
 |zero=>intro i j h;rw[fg (by lia)];exact Zn _
 |succ l ih =>
  intro i j h
  by_cases aD:i<j
  ·rw[iU hp aD];have hm:=eT (dN (w:=w) hp aD);cases q:dC ps w i j with
   |none=>have:=ih (i+1) j (by lia);dsimp only;lia
   |some k =>
    rw[q]at hm;have h1:=hp _ hm.1;dsimp only at h1;have h3:=hm.2.1;have a1:=ih (i+1) k (by lia)
    have a2:=ih (k+1) j (by lia)
    dsimp only;rw[Zb,Zk];lia
  ·rw[fg aD];exact Zn _
def nV:FD:=λds R=>∃(i:Nat) (k:Option Nat) (j:Nat),ds=[.int i,oD k,.int j]/\R (.lst ((parts i k j).map BI))
def nV.mono:dq nV:=λds R R' k h=>by obtain⟨i,c,j,e,q⟩:=h;exact{i,c,j,e,k _ q}
def uN:FD:=λds R=>∃(n:Nat) (ps:List (Nat×Nat)) (w:Nat×Nat->Int) (T:Nat->Nat->Int) (i j:Nat),ds=[y_ n ps,wD ps w,iB n T,.int i,.int j]/\vx n ps/\i<j/\j<=n/\R (.lst ((gV ps w T i j).map oD))
def uN.mono:dq uN:=λds R R' k h=>by obtain⟨n,ps,w,T,i,j,e,h1,h2,h3,q⟩:=h;exact{n,ps,w,T,i,j,e,h1,h2,h3,k _ q}
def uL:FD:=λds R=>∃(n:Nat) (ps:List (Nat×Nat)) (w:Nat×Nat->Int) (i j:Nat),ds=[fN n ps,wD ps w,iB n (tW ps w),.int i,.int j]/\vx n ps/\i<=j/\j<=n/\R (l0 (gh ps w i j))
def uL.mono:dq uL:=λds R R' k h=>by obtain⟨n,ps,w,i,j,e,h1,h2,h3,q⟩:=h;exact{n,ps,w,i,j,e,h1,h2,h3,k _ q}
def xj (ws:List (Nat×Nat)):Nat:=(ws.map λp=>2*(p.2-p.1)+1).sum
def qU {a b:List (Nat×Nat)}:xj (a++b)=xj a+xj b:=by unfold xj;rw[Zl,List.sum_append]
def Er {a:List (Nat×Nat)}:xj a.reverse=xj a:=by
 unfold xj;rw[List.map_reverse];exact(List.reverse_perm _).sum_nat
def j_ {ps:List (Nat×Nat)}:D.cK (ps.map λp=>kD (tI p))=true:=by
 have:=nU (ps.map tI);rw[Z7]at this;exact this
def uM:FD:=λds R=>∃n ps,ds=[fN n ps]/\R (fN n ps)
def uM.mono:dq uM:=λds R R' k h=>by obtain⟨n,ps,e,q⟩:=h;exact{n,ps,e,k _ q}
def sG {a b:Int}(h:pB a b):Ld (.int a) (.int b)=some (.int (a*b)):=by
 show (if pB a b then _ else _)=_
 rw[if_pos h]
def Bl (n:Nat)(ps:List (Nat×Nat)):(fN n ps).pd.canLay0=true/\(fN n ps).pd.depth<=4:=by
 have:=yQ (n:Int) (ps.map tI);unfold Jc at this;rw[Z7]at this;exact this
section
variable {ps:List (Nat×Nat)}
def mX (ps:List (Nat×Nat))(i j:Nat):Int:=tW ps w1 (j-i) i
def xW {i j:Nat}(h:j<=i):mX ps i j=0:=by unfold mX;rw[show j-i=0 by lia];rfl
def xV {l:List Int}{m:Int}(h:oY l=some m):m∈l/\∀x∈l,x<=m:=by
 cases l with
 |nil=>cases h
 |cons a l=>cases h;exact cy l a
def xX (hp:∀p∈ps,p.1<p.2){i j:Nat}(h:i<j):oY ((((gy ps i).filter λk=>decide (k<j)).map λk=>1+mX ps (i+1) k+mX ps (k+1) j)++[mX ps (i+1) j])=some (mX ps i j):=by
 have e:mX ps i j=iZ ps w1 (tW ps w1) i j:=by
  unfold mX;rw[show j-i=(j-i-1)+1 by lia,mh hp,show i+(j-i-1)+1=j by lia]
 rw[e];unfold iZ;rw[<- qc];have e2:(((gy ps i).filter λk=>decide (k<j)).map λk=>1+mX ps (i+1) k+mX ps (k+1) j)=((gy ps i).filter λk=>decide (k<j)).map λk=>w1 (i,k)+tW ps w1 (k-i-1) (i+1)+tW ps w1 (j-k-1) (k+1):=by
  refine ZU λk _=>?_;unfold mX;rw[show k-(i+1)=k-i-1 by lia,show j-(k+1)=j-k-1 by lia]
  rfl
 rw[e2];unfold mX;rw[show j-(i+1)=j-i-1 by lia]
def FV (hp:∀p∈ps,p.1<p.2){i j:Nat}(h:i<j):mX ps (i+1) j<=mX ps i j:=(xV (xX hp h)).2 _ (by simp)
def J1 (hp:∀p∈ps,p.1<p.2){i j k:Nat}(h:(i,k)∈ps)(hk:k<j):1+mX ps (i+1) k+mX ps (k+1) j<=mX ps i j:=by
 have Gk:=hp _ h;dsimp only at Gk;refine(xV (xX hp (show i<j by lia))).2 _ (aao _ (ZN.mpr {k,aap.mpr {cF.mpr h,decide_eq_true hk},rfl}))
theorem G9 (hp:∀p∈ps,p.1<p.2):∀len i,0<=tW ps w1 len i
 |0,_=>Int.le_refl 0
 |l+1,i=>by
  rw[mh hp];have h:=(qe (ps:=ps) (w:=w1) (T:=tW ps w1) (i:=i) (j:=i+l+1)).2.1;rw[show i+l+1-i-1=l by lia]at h
  exact Int.le_trans (G9 hp l (i+1)) h
def Hv (hp:∀p∈ps,p.1<p.2){i j:Nat}:0<=mX ps i j:=G9 hp (j-i) i
end
end L2.Q
namespace Um
open PySem PySem.Spec PyProof.Rows
def xI:Option (Addr×List Int)->Addr×List Int->Option (Addr×List Int)
 |none,x=>some x
 |some m,x=>if HT.lexLt x.2 m.2=true then some x else some m
def T_:Option (Addr×List Int)->Array Y1
 |none=>#[]
 |some m=>#[.ref m.1,.ref m.1]
end Um
namespace L2
open PySem PySem.Spec PySem.SeqAt PyProof.Rows
end L2
namespace L2.Q
open PySem PySem.Spec PySem.SeqAt PyProof.Rows
def xr:Option Addr->Sk
 |none=>.one
 |some h=>.at h
def LV:V->D
 |.cN=>.cN
 |.bl b=>.bl b
 |.int i=>.int i
 |.str x=>.str x
 |.ref a=>.obj a
 |_=>.cN
def Qu:D->List V->D
 |.lst _,vs=>.lst (vs.map LV)
 |.dT ks _,vs=>.dT ks (vs.map LV)
 |.dK ks _,vs=>.dK ks (vs.map LV)
 |d,_=>d
section
variable {P:Y7}{w:Zj}{C:Cfg}{σ:St}{H:Hp}{β:bb}{own:Nat->List Addr}{i:Nat}
def Jv {W:Addr->Prop}{H':Hp}{d:D}{v:V}(r:aC P w W H' d v):Own P w H (LV v) v []:=by
 cases d with
 |tup ds=>obtain⟨a,vs,rfl,_⟩:=r;exact{(rfl),rfl}
 |lst ds=>obtain⟨a,vs,rfl,_⟩:=r;exact{(rfl),rfl}
 |dT ks ds=>obtain⟨a,vs,rfl,_⟩:=r;exact{(rfl),rfl}
 |dK ks ds=>obtain⟨a,vs,rfl,_⟩:=r;exact{(rfl),rfl}
 |sT ts=>obtain⟨a,rfl,_⟩:=r;exact{(rfl),rfl}
 |ob φ=>obtain⟨a,rfl,_⟩:=r;exact{(rfl),rfl}
 |cN=>cases (show v=_ from r);exact{(rfl),rfl}
 |bl b=>cases (show v=_ from r);exact{(rfl),rfl}
 |int b=>cases (show v=_ from r);exact{(rfl),rfl}
 |str b=>cases (show v=_ from r);exact{(rfl),rfl}
 |obj b=>cases (show v=_ from r);exact{(rfl),rfl}
theorem jU {W:Addr->Prop}{H':Hp}:∀{ds:List D} {vs:List V},ai P w W H' ds vs->aR P w H (vs.map LV) vs []
 |[],_,e=>by cases e;exact{(rfl),rfl}
 |_::_,_,⟨v,vs,rfl,h1,h2⟩=>{v,vs,[],[],rfl,rfl,Jv h1,jU h2}
def rL {W:Addr->Prop}{H':Hp}{d:D}{o:HO}{vs:List V}{a:Addr}(r:ai P w W H' (I9 d) vs)(sh:He d o vs)(h:H a=some o):Own P w H (Qu d vs) (.ref a) [a]:=by
 cases d with
 |lst ds=>cases sh;exact{a,vs,[],rfl,h,rfl,jU r}
 |dT ks ds=>obtain⟨rfl,l⟩:=sh;exact{a,vs,[],rfl,h,l,rfl,jU r}
 |dK ks ds=>obtain⟨rfl,l⟩:=sh;exact{a,vs,[],rfl,h,l,rfl,jU r}
 |_=>exact sh.elim
def My {d:D}{o:HO}{vs:List V}(sh:He d o vs):∀xs,o≠.tup xs:=λxs z=>by
 cases d with
 |lst ds=>cases sh;cases z
 |dT ks ds=>obtain⟨rfl,l⟩:=sh;cases z
 |dK ks ds=>obtain⟨rfl,l⟩:=sh;cases z
 |_=>exact sh.elim
def bj.toShl {d0 d:D}{v:V}{y:Sk}(s:bj P w C σ H β own)(e:β[i]?=some (some (.own d0)))(hσ:σ[i]?=some (some v))(r:Ax P w (eD C (Wn own) (yk true)) H y d v (own i)):bj P w C σ H (β.set i (some (.shl y d))) own:=by
 refine{by simp[s.len],λj y' d' q=>?_,λj d' q=>?_,λj ok q=>?_,s.dm,s.jm,s.jq,s.kp,s.fS,λj y' d' q=>?_}
 ·by_cases aD:i=j
  ·subst aD;obtain⟨e',_⟩:=aP q;cases e'
  ·rw[aO aD]at q;exact s.val j y' d' q
 ·by_cases aD:i=j
  ·subst aD;obtain⟨e',_⟩:=aP q;cases e'
  ·rw[aO aD]at q;exact s.ow j d' q
 ·by_cases aD:i=j
  ·subst aD;obtain⟨e',_⟩:=aP q;cases e'
  ·rw[aO aD]at q;exact s.nN j ok q
 ·by_cases aD:i=j
  ·subst aD;obtain⟨e',_⟩:=aP q;cases e';obtain⟨_,_,_,h0⟩:=s.ow i d0 e;exact{(v),hσ,r,h0}
  ·rw[aO aD]at q;exact s.shl j y' d' q
def Ax.at {W:Addr->Prop}{t:Option Addr}{d:D}{v:V}{A:List Addr}(h:Ax P w W H (xr t) d v A):lE P w W H d v A/\∀b,t=some b->v=.ref b:=by
 cases t with
 |none=>exact{h,λ_ z=>(nomatch z)}
 |some b=>exact{h.1,λ_ z=>by cases z;exact h.2}
def Ax.to {W:Addr->Prop}{t:Option Addr}{d:D}{v:V}{A:List Addr}(h:lE P w W H d v A)(e:∀b,t=some b->v=.ref b):Ax P w W H (xr t) d v A:=by
 cases t with
 |none=>exact h
 |some b=>exact{h,e b rfl}
def bj.gq {d:D}(t:Option Addr)(s:bj P w C σ H β own)(e:β[i]?=some (some (.shl (xr t) d))):∃a o vs,(σ[i]?=some (some (.ref a))/\∀b,t=some b->a=b)/\own i=[a]/\H a=some o/\He d o vs/\ai P w (eD C (Wn own) (yk true)) H (I9 d) vs/\C.H0 a=none/\bj P w C σ H (β.set i (some (.own (Qu d vs)))) own:=by
 obtain⟨v,h1,hs,h6⟩:=s.shl i _ d e;obtain⟨⟨a,o,vs,rfl,h2,h3,h4,h5⟩,ht⟩:=hs.at
 refine{a,o,vs,{h1,λb z=>by cases ht b z;rfl},h2,h3,h4,h5,h6 a (by rw[h2];simp),by simp[s.len],λj y' d' q=>?_,λj d' q=>?_,λj ok q=>?_,s.dm,s.jm,s.jq,s.kp,s.fS,λj y' d' q=>?_}
 ·by_cases aD:i=j
  ·subst aD;obtain⟨e',_⟩:=aP q;cases e'
  ·rw[aO aD]at q;exact s.val j y' d' q
 ·by_cases aD:i=j
  ·subst aD;obtain⟨e',_⟩:=aP q;cases e';exact{.ref a,h1,by rw[h2];exact rL h5 h4 h3,h6}
  ·rw[aO aD]at q;exact s.ow j d' q
 ·by_cases aD:i=j
  ·subst aD;obtain⟨e',_⟩:=aP q;cases e'
  ·rw[aO aD]at q;exact s.nN j ok q
 ·by_cases aD:i=j
  ·subst aD;obtain⟨e',_⟩:=aP q;cases e'
  ·rw[aO aD]at q;exact s.shl j y' d' q
def bj.A7 {d:D}(s:bj P w C σ H β own)(e:β[i]?=some (some (.shl .one d))):∃a o vs,σ[i]?=some (some (.ref a))/\own i=[a]/\H a=some o/\He d o vs/\ai P w (eD C (Wn own) (yk true)) H (I9 d) vs/\C.H0 a=none/\bj P w C σ H (β.set i (some (.own (Qu d vs)))) own :=
 let ⟨a,o,vs,h1,h⟩:=s.gq none e;{(a),o,vs,h1.1,h}
def IZ {W:Addr->Prop}{d:D}{o:HO}{vs:List V}{a:Addr}(sh:He d o vs)(h:H a=some o)(nw:¬ W a)(r:ai P w W H (I9 d) vs):aC P w W H d (.ref a):=by
 cases d with
 |lst ds=>cases sh;exact{(a),vs,rfl,h,nw,r}
 |dT ks ds=>obtain⟨rfl,l⟩:=sh;exact{(a),vs,rfl,h,l,nw,r}
 |dK ks ds=>obtain⟨rfl,l⟩:=sh;exact{(a),vs,rfl,h,l,nw,r}
 |_=>exact sh.elim
def bj.Gu {d:D}(s:bj P w C σ H β own)(e:β[i]?=some (some (.shl .one d))):bj P w C σ H (β.set i (some (.val true d))) (aH own i []):=by
 obtain⟨a,o,vs,h1,h2,h3,h4,h5,h6,s'⟩:=s.A7 e;have hl:i<β.length:=(Y_.mp e).1;have f:=s'.freeze (get_set hl);have sub:∀c,eD C (Wn (aH own i [])) (yk true) c->eD C (Wn own) (yk true) c:=fm (λc z=>gm z) _;have q:=bj.eX (i:=i) (d:=d) (v:=.ref a) (y:=true) f (IZ h4 h3 (λz=>?_) (ai.aY sub h5))
 ·have es:σ.set i (some (.ref a))=σ:=by
   apply aau;intro j;rw[aaX]
   by_cases aD:i=j
   ·subst aD;rw[if_pos rfl,h1,if_pos (Y_.mp h1).1]
   ·rw[if_neg aD]
  have eo:aH (aH own i []) i []=aH own i []:=by
   funext j
   by_cases aD:i=j
   ·rw[<- aD,os_eq,os_eq]
   ·rw[a5 aD,a5 aD]
  rw[es,aba,aba,eo]at q;exact q
 ·have nW:¬ Wn (aH own i []) a:=λux=>by
   obtain⟨j,hj⟩:=ux;obtain⟨hj,ne⟩:=br hj;exact ne (s.jm j i a hj (by rw[h2];simp))
  rcases z with z|z
  ·exact z.elim nW λz=>z h6
  ·exact(s.dm i a (by rw[h2];simp)).2.2.2 z
end
abbrev LM (k:Kd)(d:D):Prop:=match k with
 |.own=>True
 |.dt=>True
 |_=>d.flat=true
def KV.yg {P:Y7}{w:Zj}{C:Cfg}{Z:Hp×(Addr->Prop)}{own:Nat->List Addr}{H:Hp}{d:D}{v:V}{k:Kd}(f:LM k d)(r:KV P w C Z own H k d v):aC P w (av C (Wn own) .dt) H d v:=by
 cases k with
 |own=>exact r.dt
 |dt=>exact r
 |old=>exact aC.flat f r
 |bor=>exact aC.flat f r
theorem ai.snoc {P:Y7}{w:Zj}{W:Addr->Prop}{H:Hp}{d:D}{v:V}(h:aC P w W H d v):∀{ds:List D} {vs:List V},ai P w W H ds vs->ai P w W H (ds++[d]) (vs++[v])
 |[],_,e=>by cases e;exact{v,[],rfl,h,rfl}
 |_::_,_,⟨u,r,rfl,h1,h2⟩=>{u,r++[v],rfl,h1,ai.snoc h h2}
section
variable {X:Cx}{C:Cfg}{k e:Expr}{φ:aQ}{i:Nat}{x:Str}{pos px ap cp:Pos}{p:Bool}
def IL {own:Nat->List Addr}{i:Nat}{a:Addr}(h:own i=[a]):∀c,Wn (aH own i [a]) c->Wn own c:=λc nM=>by
 obtain⟨j,hj⟩:=nM
 by_cases aD:i=j
 ·rw[<- aD,os_eq]at hj;exact{i,by rw[h];exact hj}
 ·rw[a5 aD]at hj;exact{(j),hj}
def bj.BB {P:Y7}{w:Zj}{U:Addr->Prop}{σ:St}{H:Hp}{β:bb}{own:Nat->List Addr}{d d':D}{a:Addr}{o:HO}{vs':List V}(t:Option Addr)(b:bj P w (C.u U) σ H β own)(e:β[i]?=some (some (.shl (xr t) d)))(hσ:σ[i]?=some (some (.ref a)))
  (sh:He d' o vs') (r:ai P w (av (C.u U) (Wn own) .dt) (upd H a o) (I9 d') vs'):bj P w C.z σ (upd H a o) (β.set i (some (.shl (xr t) d'))) (aH own i [a])/\(∀c∈[a],c∈own i\/(C.H0 c=none/\¬ Wn own c/\U c))/\Wn own a/\∃oc,H a=some oc/\∀xs,oc≠.tup xs:=by
 obtain⟨a',o1,vs,h1,h2,h3,h4,h5,h6,s'⟩:=b.gq t e;rw[hσ]at h1;have ea:a=a':=by cases h1.1;rfl
 subst ea;have hl:i<β.length:=(Y_.mp e).1;have ha:a∈own i:=by rw[h2];simp
 have hA:∀c∈[a],c∈own i\/(C.H0 c=none/\¬ Wn own c/\U c):=λc hc=>.inl (by rw[h2];exact hc)
 have q:=s'.putIn (get_set hl) hσ ha (rL r sh ak) (by simp) hA
 rw[aba]at q;have q2:=q.toShl (d:=d') (y:=xr t) (get_set (by simpa using hl)) hσ (Ax.to {a,o,vs',rfl,by rw[os_eq],ak,sh,ai.aY (λc z=>?_) r} λb z=>by rw[h1.2 b z])
 ·rw[aba]at q2;exact{q2,hA,{(i),ha},o1,h3,My h4}
 ·rcases z with z|z
  ·exact mB (C:=C) (IL h2) .dt c z
  ·exact z.elim
def bj.Q6 {P:Y7}{w:Zj}{U:Addr->Prop}{σ:St}{H:Hp}{β:bb}{own:Nat->List Addr}{d d':D}{a:Addr}{o:HO}{vs':List V}(b:bj P w (C.u U) σ H β own)(e:β[i]?=some (some (.shl .one d)))(hσ:σ[i]?=some (some (.ref a)))
  (sh:He d' o vs') (r:ai P w (av (C.u U) (Wn own) .dt) (upd H a o) (I9 d') vs'):bj P w C.z σ (upd H a o) (β.set i (some (.shl .one d'))) (aH own i [a])/\(∀c∈[a],c∈own i\/(C.H0 c=none/\¬ Wn own c/\U c))/\Wn own a/\∃oc,H a=some oc/\∀xs,oc≠.tup xs:=b.BB none e hσ sh r
def r9 {H:Hp}{a:Addr}{o oc:HO}{W:Addr->Prop}(h:H a=some oc)(ht:∀xs,oc≠.tup xs)(hw:W a):Kp W H (upd H a o):=(k7 h ht).mono λc z=>by rw[z];exact hw
def Fm (he:∀U,PQ X (C.u U) p e φ)(hN:X.N[i]?=some x:=by rfl)(hv:oK X.env.scope x:=by first|exact .inl rfl|exact .inr (.inl rfl)|exact .inr (.inr rfl))(hd:(x==("__debug__" : Str))=false:=by decide)(eU:(x==("__classdict__" : Str))=false:=by decide)
  (cS:aaH (.Name x px) "append" X.env (eval (.Name x px) X.env)=eval (.Name x px) X.env:=by rfl)
  (iy:((aag cp (Y9 [e] X.env)).all (λx=>!x.1)&&(acg cp (abo [] X.env)).all (λx=>x.1.isSome)&&decide ([e].length+([]:List aa2).length+(if ([]:List aa2).isEmpty then 0 else 1)<30))=true:=by rfl)
  (cR:(ap.endLine==cp.line)=true:=by rfl) (hs:Y9 [e] X.env=(false,eval e X.env)::Y9 [] X.env:=by rfl) (cw:(aag cp (Y9 [] X.env)).any (·.1)=false:=by rfl)
  (o8:aaw (.Call (.Attribute (.Name x px) "append" ap) [e] [] cp) none pos.line X.env=pure false:=by rfl) (t:Option Addr:=none) :
  PB X C (.Expr (.Call (.Attribute (.Name x px) "append" ap) [e] [] cp) pos) (λE β=>(∃ds,β[i]?=some (some (.shl (xr t) (.lst ds))))/\φ β λd k β'=>LM k d/\∃ds,β'[i]?=some (some (.shl (xr t) (.lst ds)))/\ds.length<Zd/\E.nx (β'.set i (some (.shl (xr t) (.lst (ds++[d])))))):=by
 refine{λE E' β l h=>by obtain⟨h1,q⟩:=h;exact{h1,(he λ_=>False).mono _ _ _ (λd k β' h=>by obtain⟨f,ds,h1,h2,q⟩:=h;exact{f,ds,h1,h2,l.nx _ q}) q},λpins s σ H D I i5=>?_}
 obtain⟨Z,E,β,⟨own,sq,n⟩,⟨⟨T3,hb⟩,q⟩,ok⟩:=i5;refine fB (pos:=pos) (pV (apos:=ap) (cpos:=cp) PySem.F.plainAttrs_list PySem.F.slot_list_append PySem.F.type_list_append gb (bY (pos:=px) hN hv hd eU) (aZ (he λa=>H a=none).pe cq hs) cS iy cR hs cw) o8 pins s σ H D I ?_;obtain⟨a,o0,vs,⟨h1,_⟩,h2,h3,h4,_⟩:=sq.gq t hb;cases h4;refine{.ref a,h1,.inl {rfl,vs,dj.of h3},tQ.of (he λa=>H a=none) (sq.lJ (C:=C.z) (U:=λa=>H a=none) λa z=>z) q λd k β' v H1 ay l5 o r=>?_};obtain⟨f,ds,gY,hl,q⟩:=l5;obtain⟨a',o1,vs',⟨g1,_⟩,g2,g3,g4,g5,_,_⟩:=o.sq.gq t gY;rw[h1]at g1;cases g1;cases g4;have wa:av (C.u λa=>H a=none) (Wn ay) .dt a:=.inl {i,by rw[g2];simp}
 have kp:Kp (av (C.u λa=>H a=none) (Wn ay) .dt) H1 (upd H1 a (.lst (vs'++[v]))):=r9 g3 (λxs z=>by cases z) wa
 obtain⟨s2,hA,hw,zP⟩:=o.sq.BB t (d':=.lst (ds++[d])) (o:=.lst (vs'++[v])) (vs':=vs'++[v]) gY h1 rfl (ai.snoc ((r.yg f).keep kp) ((ai.aY (λc z=>.inl z) g5).keep kp));exact{a,vs',v,rfl,rfl,g3,by rw[g5.length];exact hl,ok.nx _ _ _ {_,s2,jg (C:=C) (n.trans o.sn) (λb z=>n.free z) hw zP hA} q}
end
end L2.Q
namespace L5
open PySem PySem.Spec PyProof.Rows Um
section
variable {A:Z0}{s:Y4}
theorem d8:∀{vs:List Y1} {ns:List Int} {j:Nat},aaI vs ns->∀(h:j<vs.length),∃n t,ns[j]?=some n/\vs[j]=.int n t
 |_,_,_,.nil,h=>by cases h
 |_,_,0,.cons a t _,_=>{(a),t,rfl,rfl}
 |_,_,j+1,.cons a t r,h=>by
  obtain⟨n,t',h1,h2⟩:=d8 (j:=j) r (Nat.lt_of_succ_lt_succ h);exact{(n),t',h1,h2}
theorem iw:∀{vs:List Y1} {ns ms:List Int},aaI vs ns->aaI vs ms->ns=ms
 |_,_,_,.nil,.nil=>rfl
 |_,_,_,.cons a t r,.cons _ _ r'=>by rw[iw r r']
def zX {l b:Addr}{items aF:Array Y1}{ns ms:List Int}(hl:IsTup s.heap l items)(hb:IsTup s.heap b aF)(hi:aaI items.toList ns)(hj:aaI aF.toList ms)(ne:ns≠ms)(hu:A.units<abd):SeqAt.EqAt A s (.ref l) (.ref b) false:=by
 have Wl:l≠b:=λz=>by
  subst z;obtain⟨o,g1,_,_,g2⟩:=id hl;obtain⟨o',VB,_,_,VA⟩:=id hb;rw[g1]at VB;cases VB;rw[g2]at VA;injection VA with e
  subst e;exact ne (iw hi hj)
 have q:=SeqAt.RcAt.tuples (e:=λj=>ns[j]?==ms[j]?) hl hb hu λj h1 h2=>by
  obtain⟨n,t,e1,e2⟩:=d8 hi (j:=j) (by simpa using h1)
  obtain⟨m,t',e3,e4⟩:=d8 hj (j:=j) (by simpa using h2)
  have T1:items[j]=.int n t:=by simpa using e2
  have TZ:aF[j]=.int m t':=by simpa using e4
  rw[e1,e3,T1,TZ];have:=aci (A:=A.in1) (s:=s) n t m t';simpa using this
 have z1:items.size=ns.length:=by rw[<- hi.length];simp
 have z2:aF.size=ms.length:=by rw[<- hj.length];simp
 have ef:((Zv (min items.size aF.size)).all (λj=>ns[j]?==ms[j]?)&&items.size==aF.size)=false:=by
  cases h:((Zv (min items.size aF.size)).all (λj=>ns[j]?==ms[j]?)&&items.size==aF.size)with
  |false=>rfl
  |true =>
   refine absurd ?_ ne;rw[ZW,aaF,beq_iff_eq]at h;apply aau;intro j
   by_cases P4:j<ns.length
   ·exact beq_iff_eq.mp (h.1 j (aae.mpr (by lia)))
   ·rw[ZF (by lia),ZF (by lia)]
 rw[ef]at q;exact ach Wl q
end
end L5
namespace L2
open PySem PySem.Spec PySem.SeqAt PyProof.Rows
variable {X:Cx}
def Dw (a b:D):Option D:=a.rX.bind λds=>b.int?.bind λk=>if 0<=k/\k<2 ^ 62/\ds.length*k.toNat<=Zd then some (.lst (Zr k.toNat ds).flatten) else none
theorem kM {P:Y7}{w:Zj}{W:Addr->Prop}{H:Hp}{ds:List D}{vs:List V}(h:ai P w W H ds vs):∀k:Nat,ai P w W H (Zr k ds).flatten (Zr k vs).flatten
 |0=>rfl
 |k+1=>by
  rw[aaj,aaY,aaj,aaY];exact h.append (kM h k)
def jV {X:Cx}:Pe X (aax .Mult) Dw:=by
 intro pins s σ H x y v u Q I rx ry h;obtain⟨W,d1,d2,d,hd,r1,r2,e,q⟩:=h;obtain⟨ds,h1,e⟩:=Zq.mp e;obtain⟨k,h2,e⟩:=Zq.mp e;obtain⟨⟨k0,k1,hl⟩,rfl⟩:=eC e;rw[D.j0 h1]at r1;rw[D.yb h2]at r2;obtain⟨p,vs,rfl,g1,n1,q1⟩:=r1;exact Jx pins s σ H _ _ v u Q I rx ry {p,k,vs,rfl,r2,g1,by lia,by lia,by rw[q1.length];exact hl,λl zR=>q _ _ (aB.new zR) (Rp.kY hd zR (kM q1 _)) λf=>zq zR f (kM q1 _)}
namespace Q
end Q
end L2
namespace L2.Q
open PySem PySem.Spec PySem.SeqAt PyProof.Rows
section
variable {X:Cx}{C:Cfg}{p p':Bool}{a b:Expr}{φa φb:aQ}{g:D->D->Option D}{name:Str}{id:String}{apos cpos:Pos}
def Q3 (g:D->D->Option D)(pb:Bool)(φa φb:aQ):aQ:=λβ R=>φa β λx ka β1=>(∃ds,x=.lst ds)/\hold ka pb/\φb β1 λy kb β2=>∃d,g x y=some d/\kN NF d (ka.max kb) λk=>R d k β2
abbrev Lx (X:Cx)(id:String)(g:D->D->Option D):Prop:=Uk X id λx xs H Q=>∃y,xs=[y]/\yX X g NF x y H Q
def Hi (slot:Slot "list" name id) (NJ:typeOf (.builtin id)=pure (.type "method_descriptor")) (hm:Lx X id g) (ha:PQ X C p a φa) (hb:PQ X C p' b φb)
  (cS:aaH a name X.env (eval a X.env)=eval a X.env:=by rfl)
  (iy:((aag cpos (Y9 [b] X.env)).all (λx=>!x.1)&&(acg cpos (abo [] X.env)).all (λx=>x.1.isSome)
   && decide ([b].length+([]:List aa2).length+(if ([]:List aa2).isEmpty then 0 else 1)<30))=true:=by rfl)
  (cR:(apos.endLine==cpos.line)=true:=by rfl) (hs:Y9 [b] X.env=(false,eval b X.env)::Y9 [] X.env:=by rfl) (cw:(aag cpos (Y9 [] X.env)).any (·.1)=false:=by rfl) :
  PQ X C (p&&p') (.Call (.Attribute a name apos) [b] [] cpos) (Q3 g p' φa φb) :=
 ⟨λβ R R' k h=>ha.mono β _ _ (λx ka β1 hx=>{hx.1,hx.2.1,hb.mono β1 _ _ (λy kb β2 hq=>by obtain⟨d,e,q⟩:=hq;exact{d,e,q.mono λ_ z=>k _ _ _ z}) hx.2.2}) h,
  (pV PySem.F.plainAttrs_list slot NJ hm ha.pe (aZ hb.pe cq (hs:=hs)) cS iy cR hs cw).pre λσ H Q hq=>by
    obtain⟨β,own,s,h⟩:=hq;refine tQ.of ha s h λd1 k1 β1 v1 H1 ay hx o1 r1=>?_;obtain⟨⟨ds,rfl⟩,hh,h1⟩:=hx;refine{?_,tQ.of hb o1.sq h1 λd2 k2 β2 v2 H2 bH nM o2 r2=>?_}
    · obtain⟨l,vs,rfl,hl,_⟩:=r1.rep;exact .inl {rfl,vs,dj.of hl}
    · obtain⟨d,e,q⟩:=nM;have LH:=r1.ho o2 hh;refine{v2,rfl,av C (Wn bH) (k1.max k2),.lst ds,d2,d,o2.sq.HR _,aC.aY gL LH.rep,aC.aY mC r2.rep,e,λv H' s3 r3 n3=>?_};have o:=(o1.trans o2).same s3;obtain⟨k,q,r⟩:=KV.kN (Z:=(H,Wn own)) Cm r3 (λn=>iR (H:=H2) o2.sq.sD o2.sq.fS (λa z=>o2.sn.d a (o1.sn.d a z)) (ag.nl _ n) (n3 n)) q;exact q v H' bH o r⟩
end
end L2.Q
namespace L2
open PySem PySem.Spec PySem.SeqAt PyProof.Rows
def sH:List D->Option (List Bool)
 |[]=>some []
 |.bl b::ds=>(sH ds).map (b::·)
 |_::_=>none
theorem mz:∀{ds:List D} {bs:List Bool},sH ds=some bs->ds=bs.map D.bl
 |[],_,h=>by cases h;rfl
 |d::ds,bs,h=>by
  cases d with
  |bl b =>
   obtain⟨r,h1,rfl⟩:=Zh.mp (show (sH ds).map (b::·)=some bs from h)
   rw[mz h1];rfl
  |_=>cases h
theorem uV:∀bs:List Bool,sH (bs.map D.bl)=some bs
 |[]=>rfl
 |b::bs=>by show (sH (bs.map D.bl)).map (b::·)=_;rw[uV bs];rfl
def O0:List D->Option D
 |[d]=>d.rX.bind λds=>(sH ds).map λbs=>.bl (bs.any id)
 |_=>none
def GL (bs:List Bool):O0 [.lst (bs.map D.bl)]=some (.bl (bs.any id)):=by
 show (sH (bs.map D.bl)).map _=_;rw[uV];rfl
section
variable {P:Y7}{w:Zj}{W:Addr->Prop}{H:Hp}
theorem m6:∀{bs:List Bool} {vs:List V},ai P w W H (bs.map D.bl) vs->vs=bs.map V.bl
 |[],_,h=>h
 |b::bs,_,⟨v,r,e,h1,h2⟩=>by rw[e,show v=.bl b from h1,m6 h2];rfl
end
theorem mG:∀{bs:List Bool} {us:List Y1},Vals (bs.map V.bl) us->us=bs.map Value.bool
 |[],_,.nil=>rfl
 |b::bs,_,.cons r q=>by rw[ZE,<- mG q,show _=Value.bool b from r]
variable {X:Cx}
def Am (hc:X.calm=true):bF X (.builtin "any") O0:=by
 intro pins s σ H xs us Q I r h;obtain⟨W,ds,d,hd,r1,e,q⟩:=h
 match ds,e with
 |[x],e =>
  obtain⟨es,e1,e2⟩:=Zq.mp (show x.rX.bind _=some d from e)
  obtain⟨bs,e3,rfl⟩:=Zh.mp e2;rw[D.j0 e1,mz e3]at r1;obtain⟨x,rfl,p,vs,rfl,h1,n1,q1⟩:=oE r1;obtain⟨u,rfl,ru⟩:=vals1 r;cases ru;rw[m6 q1]at h1;obtain⟨its,r2,ht,hz⟩:=I.list (dj.of h1);obtain rfl:=mG r2;obtain⟨ol,gl,_⟩:=id ht.isList;have lt:p<s.heap.objs.size:=Zo gl;have Wk:=Walks.list (prog:=X.prog) (w:=X.w) (A:=X.A.in1) (I.ok.hd hc) s.heap.objs.size p (ZQ lt) (bs.map Value.bool).toArray;refine call_any_walk (wpAny_pyIter_list ht.isList {s.heap.objs.size,_,_,_,_,_,λj=>bs.getD j false,rfl,Wk,{{_,ZR _ rfl,rfl,rfl},ht.isList.push _},λj v s' Q' E' hv hq=>?_,λh' tk k=>?_})
  ·have hv:((bs.map Value.bool).toArray)[j]?=some v:=hv;rw[List.getElem?_toArray,Zg]at hv;obtain⟨b,hb,rfl⟩:=Zh.mp hv;have hq:Q' (bs.getD j false) s':=hq;rw[Zx,hb]at hq;exact abL hq
  ·have ea:((Zv (bs.map Value.bool).toArray.size).any λj=>bs.getD j false)=bs.any id:=by
    rw[Bool.eq_iff_iff,List.any_eq_true,List.any_eq_true];constructor
    ·rintro⟨j,hj,hb⟩;rw[Zx]at hb;cases hg:bs[j]? with
     |none=>rw[hg]at hb;cases hb
     |some b=>rw[hg]at hb;exact{b,ZT hg,hb}
    ·rintro⟨b,hb,ht⟩;obtain⟨j,hj⟩:=abr hb;refine{j,?_,by rw[Zx,hj];exact ht}
     rw[aae];have:=(Y_.mp hj).1;simpa using this
   rw[ea];exact⟨.bl (bs.any id),H,I.kept (t':=tk) λb o e=>k b o (by
    have:=Zo e;simp only[Zc];exact ZQ this) (Ze _ e),rfl,q _ _ (aB.refl _) rfl⟩
namespace Q
section
variable {C:Cfg}{a b c:Expr}{p p' pos pos':Pos}
def CF {i:Int}{n:Nat}{acc:Array Y1}(h:ItemsOf (λk v=>∃t,v=Value.int (i+k*(-1)) t) acc n):Vals ((Zv n).map λk:Nat=>V.int (i-(k:Int))) acc.toList:=by
 have key:∀(l:List Y1) (i:Int),(∀j v,l[j]?=some v->∃t,v=Value.int (i-((j:Nat):Int)) t)->Vals ((Zv l.length).map λk:Nat=>V.int (i-(k:Int))) l:=λl=>by
  induction l with
  |nil=>intro i _;exact .nil
  |cons x r ih =>
   intro i h;rw[Zb,List.range_succ_eq_map,ZE,Z7];obtain⟨t,rfl⟩:=h 0 x rfl;refine .cons {(t),rfl} ?_;have:=ih (i-1) λj v e=>by
    obtain⟨t,e'⟩:=h (j+1) v (by simpa using e)
    exact{t,by rw[e'];congr 1;lia}
   refine(show (λk:Nat=>V.int (i-(k:Int))) ∘ Nat.succ=λk:Nat=>V.int (i-1-(k:Int)) from ?_)▸this
   funext k
   show V.int (i-((k+1:Nat):Int))=_
   congr 1
   lia
 have:=key acc.toList i λj v e=>by
  obtain⟨t,e'⟩:=h.2 j v (by simpa using e)
  exact{t,by rw[e',Int.mul_neg,Int.mul_one];rfl}
 rwa [ZJ,h.1]at this
def oW {ta:TA} (hc:X.calm=true) (Tf:Gl X "list") (SU:X.mg "list" = none) (hg:Gl X "range") (hm:X.mg "range" = none) (ha:PA X [a,b,c] ta) (hs:Y9 [a,b,c] X.env=[(false,eval a X.env),(false,eval b X.env),(false,eval c X.env)]:=by rfl) (oJ:Y9 [b,c] X.env=[(false,eval b X.env),(false,eval c X.env)]:=by rfl)
  (hl:Y9 [.Call (.Name "range" p) [a,b,c] [] pos] X.env=[(false,eval (.Call (.Name "range" p) [a,b,c] [] pos) X.env)]:=by rfl) :
  PE X (.Call (.Name "list" p') [.Call (.Name "range" p) [a,b,c] [] pos] [] pos') (λσ H Q=>ta σ H λvs H1=>∃i j:Int,vs=[.int i,.int j,.int (-1)]/\(-(2 ^ 62)<=i/\i<2 ^ 62/\-(2 ^ 62)<=j/\j<2 ^ 62)/\(i-j).toNat<=2 ^ 24/\∀p,H1 p=none->Q (.ref p) (upd H1 p (.lst ((Zv (i-j).toNat).map λk:Nat=>V.int (i-(k:Int)))))):=by
 intro pins s σ H Q I h;refine aa9 (gD I Tf SU ku ?_ (by decide) (by decide))
 refine aal ?_ hl rfl;rw[hl];show Zy _ _ (spliced ((false,eval (.Call (.Name "range" p) [a,b,c] [] pos) X.env)::[])) _ _ s;refine Calls.spliced_cons ?_;refine aa9 (gD I hg hm boot_range ?_ (by decide) (by decide))
 refine aal (bR (ha pos pins s σ H _ I h) λus s1 h1=>?_) (by rw[hs,oJ]) (by rw[oJ];rfl)
 obtain⟨vs,H1,I1,r1,i,j,rfl,⟨q1,q2,q3,q4⟩,hz,q⟩:=h1;cases r1 with
 |cons r rr =>
 cases rr with
 |cons r' rr =>
 cases rr with
 |cons LI rr =>
 cases rr;obtain⟨t1,rfl⟩:=r;obtain⟨t2,rfl⟩:=r';obtain⟨t3,rfl⟩:=LI;refine call_range_3 (by decide) (Calls.spliced_nil ?_) (.inl (acw (by decide +kernel)))
 have e2:aa5 i j (-1)=(((i-j).toNat:Nat):Int):=by rw[fO];split <;> lia
 refine call_list_range (n:=(i-j).toNat) (I.ok.hd hc) (IsRange.new ..) (pK q1 q2 q3 q4) e2 hz λh' tk acc c kp hS ha=>?_;have I2:=I1.kept (t':=s1.toks) (h':=s1.heap.push {cls:=.type "range",data:=.fields #[.int i t1,.int j t2,.int (-1) t3]}) λb o e=>Ze _ e;have fr:=I2.bB.fresh (Y8 _);refine{.ref (s1.heap.push {cls:=.type "range",data:=.fields #[.int i t1,.int j t2,.int (-1) t3]}).objs.size,_,I2.laid (o:=.lst _) kp (Y8 _) {?_,acc.toList,c,CF ha,?_},rfl,q _ fr}
 ·rw[Y3,ZV];exact hz
 ·simpa using hS
def yY (φs:bP):aQ:=λβ R=>φs β λds _ β1=>∃i j:Int,ds=[.int i,.int j,.int (-1)]/\(-(2 ^ 62)<=i/\i<2 ^ 62/\-(2 ^ 62)<=j/\j<2 ^ 62)/\(i-j).toNat<=2 ^ 24/\R (.lst (rg i (i-j).toNat)) .own β1
theorem pM {P:Y7}{w:Zj}{H:Hp}{i:Int}:∀(l:List Nat),aR P w H (l.map λk:Nat=>D.int (i-(k:Int))) (l.map λk:Nat=>V.int (i-(k:Int))) []
 |[]=>{(rfl),rfl}
 |k::l=>{_,_,[],[],rfl,rfl,{(rfl),rfl},pM l}
def oV {φs:bP} {q:Bool} (hc:X.calm=true) (SU:X.mg "list" = none) (hm:X.mg "range" = none) (ha:pq X C q [a,b,c] φs) (Tf:Gl X "list" := by rfl) (hg:Gl X "range" := by rfl) (hs:Y9 [a,b,c] X.env=[(false,eval a X.env),(false,eval b X.env),(false,eval c X.env)]:=by rfl) (oJ:Y9 [b,c] X.env=[(false,eval b X.env),(false,eval c X.env)]:=by rfl)
  (hl:Y9 [.Call (.Name "range" p) [a,b,c] [] pos] X.env=[(false,eval (.Call (.Name "range" p) [a,b,c] [] pos) X.env)]:=by rfl):PQ X C q (.Call (.Name "list" p') [.Call (.Name "range" p) [a,b,c] [] pos] [] pos') (yY φs) :=
 ⟨λβ R R' k h=>ha.mono β _ _ (λds ks β1 h=>by obtain⟨i,j,e,h1,h2,q⟩:=h;exact{i,j,e,h1,h2,k _ _ _ q}) h,(oW hc Tf SU hg hm ha.pa hs oJ hl).pre λσ H Q h=>by
  obtain⟨β,own,s,h⟩:=h;refine qV.of ha s h λds ks β1 vs H1 ay h o1 r1=>?_;obtain⟨i,j,rfl,h1,h2,q⟩:=h;obtain⟨x,r,rfl,rx,y,r',rfl,ry,z,LI,rfl,rz,rr⟩:=r1.iY;cases (show x=V.int i from rx)
  cases (show y=V.int j from ry)
  cases (show z=V.int (-1) from rz)
  cases (show LI=[] from rr)
  refine{i,j,rfl,h1,h2,λp hp=>q _ _ ay (o1.same (aB.new hp)) {[p],{p,_,[],rfl,ak,rfl,pM _},by simp,λc hc=>?_}}
  rw[Zc.mp hc];exact{ZH λz=>o1.sn.d p z hp,λz=>o1.sq.sD p z hp,ZH λz=>o1.sq.fS p z hp}⟩
end
end Q
end L2
namespace L2.Q
open PySem PySem.Spec PySem.SeqAt PyProof.Rows
structure Em (mg:Str->Option Y1):Prop extends Bs3 mg where
 any:mg "any" = none
def Lq:Z9 "any" = some (.builtin "any"):=by decide +kernel
def b8 (l:List Int):D:=.lst (l.map D.int)
def tN (pp:List (List Int)):D:=.lst (pp.map b8)
def xg (pp:List (List Int)):Prop:=pp.length<=200/\∀l∈pp,l.length<=200
def vO (n:Nat):List Int:=(Zv (n+1)).map λk:Nat=>(n:Int)+1-(k:Int)
def yR (n:Nat)(pp:List (List Int)):Bool:=decide (pp.map (λl=>(l.length:Int))=vO n)
def Tp (pp:List (List Int))(l i:Nat):Int:=(pp.getD i []).getD l 0
def Ii (n:Nat)(ps:List (Nat×Nat))(w:Nat×Nat->Int)(pp:List (List Int)):Prop:=yR n pp=true/\(∀l∈pp,∀x∈l,0<=x)/\∀i j,i<j->j<=n->iZ ps w (Tp pp) i j<=Tp pp (j-i) i
def EF {n:Nat}{pp:List (List Int)}(h:yR n pp=true):pp.length=n+1/\∀i,i<=n->(pp.getD i []).length=n+1-i:=by
 have h:=of_decide_eq_true h;have hl:pp.length=n+1:=by have:=congrArg acs h;unfold vO at this;simpa using this
 refine{hl,λi hi=>?_};have fe:i<pp.length:=by lia
 have e:pp[i]?=some pp[i]:=Y5 fe;have:=congrArg (λl=>l[i]?) h;unfold vO at this;rw[Zg,e,bp (by lia)]at this
 have this:((pp[i].length:Nat):Int)=(n:Int)+1-(i:Int):=ZZ this;rw[Zx,e];show pp[i].length=_;lia
def FY {l:List Int}:b8 l=.lst (oP l.length λk=>l.getD k 0):=by
 unfold b8 oP
 congr 1
 apply aau;intro k;rw[Zg]
 by_cases hk:k<l.length
 ·rw[bp hk];show _=some (D.int (l.getD k 0));rw[Zx,Y5 hk];rfl
 ·rw[ZF (by lia),ZF (by rw[Y3,ZV];lia)];rfl
def E7 {n:Nat}{pp:List (List Int)}(h:yR n pp=true):tN pp=iB n (Tp pp):=by
 obtain⟨h1,h2⟩:=EF h;unfold tN iB l3
 congr 1
 apply aau;intro i;rw[Zg]
 by_cases hi:i<n+1
 ·have fe:i<pp.length:=by lia
  have e:pp[i]?=some pp[i]:=Y5 fe;rw[bp hi,e,ab7,FY];have h3:=h2 i (by lia)
  have e2:pp.getD i []=pp[i]:=by rw[Zx,e];rfl
  rw[e2]at h3;rw[h3];unfold Tp;rw[e2]
 ·rw[ZF (by lia),ZF (by rw[Y3,ZV];lia)];rfl
def uf {n i j:Nat}:(i,j)∈jF n↔i<j/\j<=n:=by
 unfold jF e_;rw[List.mem_flatMap];constructor
 ·rintro⟨a,ha,h⟩;obtain⟨b,hb,e⟩:=ZN.mp h;have ha:=aae.mp ha;have hb:=aae.mp hb;obtain⟨e1,e2⟩:=Prod.mk.inj e;lia
 ·rintro⟨h1,h2⟩;refine{n-1-i,aae.mpr (by lia),ZN.mpr {j-i-1,aae.mpr (by lia),?_}}
  exact Prod.ext (by show n-1-(n-1-i)=i;lia) (by show n-(n-1-i)+(j-i-1)=j;lia)
def uK:FD:=λds R=>∃(n:Nat) (pp:List (List Int)),ds=[tN pp,.int n]/\n<=40/\xg pp/\R (.bl (yR n pp))
def uK.mono:dq uK:=λds R R' k h=>by obtain⟨n,pp,e,h1,h2,q⟩:=h;exact{n,pp,e,h1,h2,k _ q}
def nY:FD:=λds R=>∃(n:Nat) (ps:List (Nat×Nat)) (w:Nat×Nat->Int) (pp:List (List Int)),ds=[fN n ps,wD ps w,tN pp]/\vx n ps/\n<=40/\xg pp/\∀b:Bool,(b=true↔Ii n ps w pp)->R (.bl b)
def nY.mono:dq nY:=λds R R' k h=>by obtain⟨n,ps,w,pp,e,h1,h2,h3,q⟩:=h;exact{n,ps,w,pp,e,h1,h2,h3,λb hb=>k _ (q b hb)}
def Bv {n:Nat}:rg ((n:Int)+1) (n+1)=(vO n).map D.int:=by
 unfold rg vO;rw[Z7];rfl
def nj (pp:List (List Int)):List Bool:=pp.flatMap λl=>l.map λx=>decide (x<0)
def t6 {pp:List (List Int)}:(nj pp).any id=false↔∀l∈pp,∀x∈l,0<=x:=by
 unfold nj;rw[List.any_flatMap,List.any_eq_false];refine forall_congr' λl=>forall_congr' λ_=>?_;rw[Bool.not_eq_true,List.any_map,List.any_eq_false];refine forall_congr' λx=>forall_congr' λ_=>?_;simp only[Function.comp,id,decide_eq_true_eq];lia
def Cg {pp:List (List Int)}(h:xg pp):∀m,(nj (pp.take m)).length<=200*pp.length:=by
 intro m;have:∀q:List (List Int),(∀l∈q,l.length<=200)->(nj q).length<=200*q.length:=λq=>by
  induction q with
  |nil=>intro _;exact Y8 _
  |cons l q ih =>
   intro hq;have h1:=ih λx hx=>hq x (Zu _ hx);have h2:=hq l ZK;unfold nj at *
   rw[acu,Zk,Y3,Zb];lia
 have h1:=this (pp.take m) λl hl=>h.2 l (aaW hl);rw[ZI]at h1;have:min m pp.length<=pp.length:=Nat.min_le_right _ _;lia
end L2.Q
namespace L2
open PySem PySem.Spec PySem.SeqAt PyProof.Rows
def oI (i j:Int):Prop:=i.natAbs<2 ^ 200/\j.natAbs<2 ^ 200
instance (i j:Int):Decidable (oI i j):=inferInstanceAs (Decidable (_/\_))
def oI.ok {i j:Int}(h:oI i j):IntMulOk i j:=IntMulOk.of_le (PySem.intBits_le_iff.mpr h.1) (PySem.intBits_le_iff.mpr h.2) (by decide)
def HV:D->D->Option D:=k_ λi j=>if oI i j then some (.int (i*j)) else none
section
variable {X:Cx}
def Fw:lF X (aax .Mult) (rI oI λi j=>.int (i*j)):=LJ λ_ _ _ _ _ _ _ hc q=>mul_int q hc.ok
def B4:bA X (aax .Mult) HV:=pX (h:=λi j=>.int (i*j)) Fw (λ_ _ _ e=>eC e) λ_ _ _ _=>rfl
end
def GB {a b:Int}(h:oI a b):HV (.int a) (.int b)=some (.int (a*b)):=by
 show (if oI a b then _ else _)=_
 rw[if_pos h]
end L2
namespace AI
open PySem PySem.Spec PyProof.Rows TS
def i4:List (List Int)->List (List Int)->Bool
 |[],y=>decide (0<y.length)
 |_::_,[]=>false
 |a::x,b::y=>if a=b then i4 x y else HT.lexLt a b
def iS {b:List Int}{y:List (List Int)}:i4 [] (b::y)=true:=decide_eq_true (Nat.succ_pos _)
def d7 {a b:List Int}{x y:List (List Int)}:i4 (a::x) (b::y)=if a=b then i4 x y else HT.lexLt a b:=rfl
theorem ny:∀{x y:List (List Int)},i4 x y=true->i4 y x=false
 |[],[],h=>by cases h
 |[],_::_,_=>rfl
 |_::_,[],h=>by cases h
 |a::x,b::y,h=>by
  rw[d7]at h ⊢
  by_cases e:a=b
  ·subst e;rw[if_pos rfl]at h ⊢;exact ny h
  ·rw[if_neg e]at h;rw[if_neg (Z_ e)];exact nB h
theorem rY:∀{x z:List (List Int)} (y:List (List Int)),i4 x z=true->i4 x y=true\/i4 y z=true
 |[],[],_,h=>by cases h
 |_::_,[],_,h=>by cases h
 |[],_::_,[],_=>.inr iS
 |[],_::_,_::_,_=>.inl iS
 |_::_,_::_,[],_=>.inr iS
 |a::x,c::z,b::y,h=>by
  rw[d7]at h ⊢
  rw[d7]
  by_cases e:a=c
  ·subst e;rw[if_pos rfl]at h
   by_cases e2:a=b
   ·subst e2;rw[if_pos rfl,if_pos rfl];exact rY y h
   ·rw[if_neg e2,if_neg (Z_ e2)];cases h1:HT.lexLt a b with
    |true=>exact .inl rfl
    |false =>
     cases h2:HT.lexLt b a with
     |true=>exact .inr rfl
     |false=>exact absurd (kZ h1 h2) e2
  ·rw[if_neg e]at h
   by_cases e2:a=b
   ·subst e2;rw[if_neg e];exact .inr h
   ·by_cases e3:b=c
    ·subst e3;rw[if_neg e2];exact .inl h
    ·rw[if_neg e2,if_neg e3];exact rZ b h
theorem qf:∀{x y:List (List Int)},i4 x y=false->i4 y x=false->x=y
 |[],[],_,_=>rfl
 |[],_::_,h,_=>by rw[iS]at h;cases h
 |_::_,[],_,h=>by rw[iS]at h;cases h
 |a::x,b::y,h1,h2=>by
  rw[d7]at h1 h2
  by_cases e:a=b
  ·subst e;rw[if_pos rfl]at h1 h2;rw[qf h1 h2]
  ·rw[if_neg e]at h1;rw[if_neg (Z_ e)]at h2;exact absurd (kZ h1 h2) e
section
variable {A:Z0}{s:Y4}
def Dl {l b:Addr}{items aF:Array Y1}{ns ms:List Int}(hl:IsTup s.heap l items)(hb:IsTup s.heap b aF)(hi:aaI items.toList ns)(hj:aaI aF.toList ms)(hu:A.units<abd):SeqAt.EqAt A s (.ref l) (.ref b) (decide (ns=ms)):=by
 by_cases e:ns=ms
 ·rw[decide_eq_true e]
  by_cases z:l=b
  ·subst z;exact SeqAt.EqAt.same _
  subst e;have q:=SeqAt.RcAt.tuples (e:=λj=>true) hl hb hu λj h1 h2=>by
   obtain⟨n,t,e1,e2⟩:=L5.d8 hi (j:=j) (by simpa using h1)
   obtain⟨m,t',e3,e4⟩:=L5.d8 hj (j:=j) (by simpa using h2)
   have T1:items[j]=.int n t:=by simpa using e2
   have TZ:aF[j]=.int m t':=by simpa using e4
   rw[e1]at e3;cases e3;rw[T1,TZ];have:=aci (A:=A.in1) (s:=s) n t n t';simpa using this
  have z1:items.size=ns.length:=by rw[<- hi.length];simp
  have z2:aF.size=ns.length:=by rw[<- hj.length];simp
  have ef:((Zv (min items.size aF.size)).all (λj=>true)&&items.size==aF.size)=true:=by
   rw[z1,z2];simp
  rw[ef]at q;exact ach z q
 ·rw[decide_eq_false e];exact L5.zX hl hb hi hj e hu
end
section
open PySem.SeqAt
open PySem.AutoSeq1 (wpAny_loadPart')
open PySem.MeetsSeq PySem.MeetsSeq2 PySem.MeetsSeq3
def Uw (A:Z0)(s:Y4)(items aF:Array Y1)(ks ms:List (List Int)):Prop :=
 items.size=ks.length/\aF.size=ms.length/\∀(j:Nat) (h1:j<items.size) (h2:j<aF.size),EqAt A.in1 s items[j] aF[j] (decide (ks.getD j []=ms.getD j []))/\∀(prog:Y7) (w:Zj) (E:Y1->Y4->Prop) (Q:Y1->Y4->Prop),Q (.bool (HT.lexLt (ks.getD j []) (ms.getD j []))) s->Zy (model prog w) A.in1 (acn .Lt items[j] aF[j]) Q E s
def drop_getD {ks:List (List Int)}{i:Nat}(h:i<ks.length):ks.drop i=ks.getD i []::ks.drop (i+1):=by
 rw[Z6 h,Zx,Y5 h];rfl
def Cs (l b:Addr)(items aF:Array Y1)(n n2:Nat)(dd wW:Option Addr)(sl vN:Array (Option Y1))(ks ms:List (List Int))(k:Nat):
  ∀i:Nat,items.size-i=k->i<=items.size->Meets (abb.«list.__eq__.loop» {[.ref l,.ref b,rawInt i,rawInt 0],[]})
   (λA R s=>s.heap.get? l=some {cls:=.type "list",dict:=dd,data:=.seq items n,slots:=sl}/\s.heap.get? b=some {cls:=.type "list",dict:=wW,data:=.seq aF n2,slots:=vN} /\
    i<=aF.size/\Uw A s items aF ks ms/\R (.ok (.ret (.bool (i4 (ks.drop i) (ms.drop i))))) s):=by
 have fin:∀i:Nat,i<=items.size->i<=aF.size->(i=items.size\/i=aF.size)->items.size=ks.length->aF.size=ms.length->i4 (ks.drop i) (ms.drop i)=decide (items.size<aF.size):=λi h1 h2 h z1 z2=>by
  rcases h with h|h
  ·rw[aaz (l:=ks) (by lia)]
   by_cases q:i<ms.length
   ·rw[drop_getD q,iS,decide_eq_true (by lia)]
   ·rw[aaz (l:=ms) (by lia),decide_eq_false (by lia)];rfl
  ·rw[aaz (l:=ms) (by lia),decide_eq_false (by lia)]
   cases ks.drop i <;> rfl
 induction k with
 |zero =>
  intro i hk P5 prog w A R s h;obtain⟨hp,g,d,tk,os⟩:=s;obtain⟨hl,hb,LR,⟨z1,z2,he⟩,h⟩:=h;rw[fin i P5 LR (.inl (by lia)) z1 z2]at h
  wp_walk using ZO hl,ZO hb
  have Gm:items[((i:Nat):Int).toNat]?=none:=by simp;lia
  rw[Gm]
  wp_walk using ZO hl,ZO hb
  exact h
 |succ k ih =>
  intro i hk P5 prog w A R s h;obtain⟨hp,g,d,tk,os⟩:=s;obtain⟨hl,hb,LR,⟨z1,z2,he⟩,h⟩:=h;have dE:i<items.size:=by lia
  have Gm:items[((i:Nat):Int).toNat]?=some items[i]:=by simp[dE]
  by_cases KP:i<aF.size
  ·have LQ:aF[((i:Nat):Int).toNat]?=some aF[i]:=by simp[KP]
   have hc:((i:Int)+1)=((i+1:Nat):Int):=by push_cast;rfl
   wp_walk using ZO hl,ZO hb
   rw[Gm,LQ];obtain⟨e1,e2⟩:=he i dE KP;refine Y2 (e1 prog w _ _ ?_);rw[drop_getD (ks:=ks) (z1▸dE),drop_getD (ks:=ms) (z2▸KP),d7]at h
   by_cases q:ks.getD i []=ms.getD i []
   ·rw[if_pos q]at h;rw[decide_eq_true q]
    wp_walk
    rw[hc];exact⟨ab1 plain_eq_loop _,ab5 entry_eq_loop (by
     rw[ab4 plain_eq_loop _];exact ih (i+1) (by lia) (by lia) prog w A R _ {hl,hb,by lia,{(z1),z2,he},h})⟩
   ·rw[if_neg q]at h;rw[decide_eq_false q]
    wp_walk using ZO hl,ZO hb
    rw[Gm,LQ];have NQ:=e2 prog w
    wp_walk using NQ
    exact h
  ·rw[fin i P5 LR (.inr (by lia)) z1 z2]at h
   have LQ:aF[((i:Nat):Int).toNat]?=none:=by simp;lia
   wp_walk using ZO hl,ZO hb
   rw[Gm,LQ]
   wp_walk using ZO hl,ZO hb
   exact h
def FX (l b:Addr)(items aF:Array Y1)(n n2:Nat)(dd wW:Option Addr)(sl vN:Array (Option Y1))(ks ms:List (List Int)):
  Meets (abb.«list.__lt__» {[.ref l,.ref b],[]})
   (λA R s=>s.heap.get? l=some {cls:=.type "list",dict:=dd,data:=.seq items n,slots:=sl}/\s.heap.get? b=some {cls:=.type "list",dict:=wW,data:=.seq aF n2,slots:=vN} /\
    Uw A s items aF ks ms/\R (.ok (.ret (.bool (i4 ks ms)))) s):=by
 intro prog w A R s h;obtain⟨hp,g,d,tk,os⟩:=s;obtain⟨hl,hb,he,h⟩:=h;have f3:=AutoSeq1.sub_list_list
 wp_walk using ZO hl,ZO hb
 exact⟨ab1 plain_eq_loop _,ab5 entry_eq_loop (by
  rw[ab4 plain_eq_loop _];exact Cs l b items aF n n2 dd wW sl vN ks ms _ 0 rfl (Zn _) prog w A R _ {hl,hb,Zn _,he,h})⟩
end
end AI
namespace L2
open PySem PySem.Spec PySem.SeqAt PyProof.Rows Zp
section
variable {X:Cx}
def AQ {A:Z0}{E:Y1->Y4->Prop}{pins:List (Addr×Obj)}{σ:St}{H1:Hp}{s1:Y4}{l1 l2:Addr}{xs ys:List V}{us:List Y1}{Q:Y1->Y4->Prop}(I1:Inv X pins σ H1 s1)(rv:Vals [.ref l1,.ref l2] us)(g1:H1 l1=some (.lst xs))(g2:H1 l2=some (.lst ys))
  (q:∀h' z TI TO i1 i2,Zp.Apart z TI TO i1 i2 l1 l2->IsZip h' z TI TO .none->abx h' TI (.ref i1) (.ref i2)->abx h' TO .none .none->h'.IsListIter i1 l1 0->h'.IsListIter i2 l2 0->Inv X pins σ H1 {s1 with heap:=h'}->(∀b∈[z,TI,TO,i1,i2],g_ X pins H1 b)->Q (.ref z) {s1 with heap:=h'}) :
  Zy (model X.prog X.w) A (call (.type "zip") us) Q E s1:=by
 obtain⟨v1,v2,rfl,e1,e2⟩:∃v1 v2,us=[v1,v2]/\RelV (.ref l1) v1/\RelV (.ref l2) v2:=by
  cases rv with
  |cons a rr=>cases rr with
   |cons b rr=>cases rr;exact{_,_,rfl,a,b}
 cases e1;cases e2;have Rj:l1<s1.heap.objs.size:=I1.bB.lt g1;have Ri:l2<s1.heap.objs.size:=I1.bB.lt g2;obtain⟨WD,_,p1,_⟩:=I1.list (dj.of g1);obtain⟨um,_,p2,_⟩:=I1.list (dj.of g2);refine call_zip_2 p1.isList p2.isList λh' y1 y2 y3 y4 y5 y6 y7=>?_;have I2:Inv X pins σ H1 {s1 with heap:=h'}:=I1.kept (t':=s1.toks) y7
 refine q h' _ _ _ _ _ ?_ y1 y2 y3 y4 y5 I2 λb hb=>?_
 ·generalize s1.heap.objs.size=n at Rj Ri
  change (l1:Nat)<n at Rj
  change (l2:Nat)<n at Ri
  refine{?_,λc hc=>?_,λc hc=>?_}
  ·have q:∀(i j:Nat),i≠j->(n+i:Nat)≠n+j:=λi j h z=>h (Nat.add_left_cancel z);simp only[Zs,Y6,Z2,or_false,not_or,Z5,not_false_eq_true,and_true];exact{{q 4 2 (by decide),q 4 3 (by decide),q 4 0 (by decide),q 4 1 (by decide)},{q 2 3 (by decide),q 2 0 (by decide),q 2 1 (by decide)},{q 3 0 (by decide),q 3 1 (by decide)},q 0 1 (by decide)}
  ·simp only[Y6,Z2,or_false]at hc;rcases hc with rfl|rfl|rfl|rfl <;> exact ZQ (ZD Rj (by first|exact Nat.le_add_right _ _|exact Y8 _))
  ·simp only[Y6,Z2,or_false]at hc;rcases hc with rfl|rfl|rfl|rfl <;> exact ZQ (ZD Ri (by first|exact Nat.le_add_right _ _|exact Y8 _))
 ·have gY:s1.heap.objs.size<=b:=by
   simp only[Y6,Z2,or_false]at hb;rcases hb with rfl|rfl|rfl|rfl|rfl <;> first|exact Nat.le_add_right _ _|exact Y8 _
  exact I1.C8 gY (I1.bB.fresh gY)
end
namespace Q
section
variable {X:Cx}{C:Cfg}{p:Bool}{a b:Expr}{φs:bP}{pp pos:Pos}{elts:List Expr}{kk:Nat}{Qw:Pos}
def Nt (φs:bP):cV:=λβ R=>φs β λl ks β1=>∃as bs,l=[.lst as,.lst bs]/\R (hV as bs) (gE ks) β1
def xE (hm:X.mg "zip" = none) (ha:pq X C p [a,b] φs) (hg:Gl X "zip" := by rfl) (hs:Y9 [a,b] X.env=(false,eval a X.env)::Y9 [b] X.env:=by rfl) (oJ:(aag pos (Y9 [b] X.env)).any (·.1)=false:=by rfl) :
  AJ X C p (.Tuple elts kk Qw) (.Call (.Name "zip" pp) [a,b] [] pos) (Nt φs):=by
 refine{λβ R R' k q=>ha.mono β _ _ (λl ks β1 ux=>by obtain⟨as,bs,e,q⟩:=ux;exact{as,bs,e,k _ _ _ q}) q,λpins s σ H R I h=>?_}
 obtain⟨β,own,sq,h⟩:=h;refine Call_ (gD I hg hm Lm (aal (bR (ha.pa pos pins s σ H _ I (qV.of ha sq h λds ks β' vs H1 ay h o1 r1=>({(ds),ks,β',ay,h,o1,r1.iY}:∃ds ks β' ay,(∃as bs,ds=[.lst as,.lst bs]/\∀J H' a8,Out X C σ H own p β' H' a8->Az X (av C (Wn a8) (gE ks)) J (hV as bs) H'->R J H')/\Out X C σ H own p β' H1 ay/\ai X.prog X.w (av C (Wn ay) (gE ks)) H1 ds vs)))
  λus s1 ⟨vs,H1,I1,rv,h⟩=>?_) hs oJ))
 obtain⟨ds,ks,β',ay,⟨as,bs,rfl,q⟩,o1,r1⟩:=h;obtain⟨x,y,rfl,⟨l1,xs,rfl,g1,n1,w1⟩,⟨l2,ys,rfl,g2,n2,w2⟩⟩:=u6 r1;refine AQ I1 rv g1 g2 λh' z TI TO i1 i2 Ap y1 y2 y3 y4 y5 I2 fp=>?_;refine wpAny_pyIter_zip y1 {_,_,_,_,H1,rfl,I2,Ba Ap src_list src_list,{y1,y2,{_,_,y3},y4,y5},fp,?_};exact q _ _ ay o1 (F4 false g1 g2 (λ_=>n1) (λ_=>n2) w1 w2)
end
end Q
end L2
namespace L2.Q
open PySem PySem.Spec PySem.SeqAt PyProof.Rows
section
def vK {ds:List D}{n i:Nat}{b:B}(h:(ds.map (λd=>some (B.val true d))++Zr n none)[i]?=some (some b)):∃d,ds[i]?=some d/\b=.val true d:=by
 by_cases hi:i<ds.length
 ·rw[aaa (by simpa using hi),Zg]at h
  cases q:ds[i]? with
  |none=>rw[q]at h;cases h
  |some d=>rw[q]at h;cases h;exact{(d),rfl,rfl}
 ·rw[ZY (by simpa using hi)]at h
  exact(fY h).elim
open Classical in
noncomputable def oq (W:Addr->Prop)(H:Hp):Hp:=λa=>if W a then H a else none
def lz {W:Addr->Prop}{H:Hp}{a:Addr}{o:HO}(h:oq W H a=some o):W a/\H a=some o:=by
 unfold oq at h
 split at h
 ·next z=>exact{(z),h}
 ·cases h
def sI {W:Addr->Prop}{H:Hp}{a:Addr}(h:oq W H a≠none):W a/\H a≠none:=by
 cases q:oq W H a with
 |none=>exact absurd q h
 |some o=>obtain⟨h1,h2⟩:=lz q;exact{h1,by rw[h2];exact λz=>(nomatch z)}
def GN {W:Addr->Prop}{H:Hp}{a:Addr}(h:W a):oq W H a=H a:=by unfold oq;rw[if_pos h]
end
section
variable {X:Cx}{C:Cfg}{Z:Hp×(Addr->Prop)}{σ:St}{H H1:Hp}{β1:bb}{own ay:Nat->List Addr}{p:Bool}{i:Nat}{a:Addr}{ds:List D}{vs:List V}{E:cb}{De:Ends}
def FL (n:Sn Z H (Wn own))(o:Out X (C.u λa=>H a=none) σ H own p β1 H1 ay)(ha:H1 a=none)(rr:ai X.prog X.w (av (C.u λa=>H a=none) (Wn ay) .dt) H1 ds vs)(KQ:i<β1.length)(ok:Us X C Z E De)(q:E.nx (β1.set i (some (.shl .one (.lst ds))))):De.nx (σ.set i (some (.ref a))) (upd H1 a (.lst vs)):=by
 have Vx:H a=none:=o.sn.free ha;have h0:C.H0 a=none:=ZH λz=>o.sq.fS a z ha;have nw:¬ Wn ay a:=λz=>o.sq.sD a z ha;have s1:=o.sq.same (aB.new (o:=.lst vs) ha);have s2:=s1.vP (i:=i) (rL (d:=.lst ds) (vs:=vs) rr rfl ak) (by simp) λc hc=>{by rw[Zc.mp hc];exact h0,by rw[Zc.mp hc];exact nw,by rw[Zc.mp hc];exact Vx}
 have s3:=s2.toShl (d:=.lst ds) (y:=.one) (get_set KQ) (get_set (by rw[<- o.sq.len];exact KQ)) {a,.lst vs,vs,rfl,by rw[os_eq],ak,rfl,(ai.grow (λc z=>?_) rr).same (aB.new ha)}
 ·rw[aba]at s3;refine ok.nx _ _ _ {_,s3,?_} q;have m:=(n.trans o.sn).same (aB.new (o:=.lst vs) ha);exact⟨λb uw=>by
   obtain⟨j,hj⟩:=uw
   by_cases aD:i=j
   ·rw[<- aD,os_eq]at hj;rw[Zc.mp hj];exact .inr (n.free Vx)
   ·rw[a5 aD]at hj;exact m.w b {(j),hj},m.k,m.d⟩
 ·rcases z with z|z
  ·rcases z with⟨j,hj⟩|z
   ·by_cases aD:i=j
    ·rw[<- aD,os_eq]at hj;rw[Zc.mp hj];exact .inr ha
    ·rw[a5 aD]at hj;exact .inl (.inl {(j),hj})
   ·exact .inl (.inr z)
  ·exact z.elim
end
section
variable {X:Cx}{C:Cfg}{e a b:Expr}{φ:aQ}{i k:Nat}{x z:Str}{p:Bool}{pos pos' pc pp:Pos}
def BS (he:∀U,PQ X (C.u U) p e φ) (hm:X.mg "list" = none) (hN:X.N.Nodup) (hi:X.N[i]?=some x:=by rfl) (hx:Loc X.env.scope x:=by first|exact .inl rfl|exact .inr rfl) (hg:Gl X "list" := by rfl)
  (hs:aaw (.Call (.Name "list" pp) [e] [] pc) (some (.Name x pos')) pos.line X.env=pure false:=by rfl) (hf:X.fn x=true\/X.env.scope.names.lookup x=some .local:=by first|exact .inl rfl|exact .inr rfl|assumption)
  (gF:Y9 [e] X.env=(false,eval e X.env)::Y9 [] X.env:=by rfl) (hpl:(aag pc (Y9 [] X.env)).any (·.1)=false:=by rfl) :
  PB X C (.Assign [.Name x pos'] (.Call (.Name "list" pp) [e] [] pc) pos) (λE β=>φ β λd k β1=>∃ds,d=.lst ds/\LM k d/\i<β1.length/\E.nx (β1.set i (some (.shl .one (.lst ds))))) :=
 ⟨λE E' β l h=>(he λ_=>False).mono _ _ _ (λd k β1 CM=>by obtain⟨ds,h1,h2,h3,q⟩:=CM;exact{ds,h1,h2,h3,l.nx _ q}) h,λpins s σ H De I Ge=>by
  obtain⟨Z,E,β,⟨own,sq,n⟩,q,ok⟩:=Ge;refine kO hN hi hx (pU gI hg hm ku (aZ (he λa=>H a=none).pe cq gF) (by decide) (by decide) (he:=gF) (hpl:=hpl)) hs hf pins s σ H De I ?_
  refine tQ.of (he λa=>H a=none) (sq.lJ (C:=C.z) (U:=λa=>H a=none) λa z=>z) q λd k β1 v H1 ay wF o r=>?_;obtain⟨ds,e1,f,KQ,q⟩:=wF;subst e1;obtain⟨b,us,rfl,HI,nb,rb⟩:=r.yg f;exact{b,us,rfl,.inl (dj.of HI),λl hl=>FL n o hl rb KQ ok q}⟩
end
def Ha {ds:List D}{x:Int}{h:Nat}(hx:x=(h:Int)):HU (.lst ds) none (some x)=some (.lst (ds.take h)):=by
 subst hx;show some (D.lst (cutD _ _ _))=_;unfold cutD;rw[HT.mZ,HT.rf,List.drop_zero]
 congr 2
 rcases Nat.le_total h ds.length with q|q
 ·rw[Nat.min_eq_left q,Nat.sub_zero]
 ·rw[Nat.min_eq_right q,Nat.sub_zero,Z4 (Y8 _),Z4 q]
def xq {ds:List D}{x:Int}{h:Nat}(hx:x=(h:Int)):HU (.lst ds) (some x) none=some (.lst (ds.drop h)):=by
 subst hx;show some (D.lst (cutD _ _ _))=_;unfold cutD;rw[HT.mZ,HT.rf]
 congr 2
 rcases Nat.le_total h ds.length with q|q
 ·rw[Nat.min_eq_left q,Z4 (by rw[abZ];lia)]
 ·rw[Nat.min_eq_right q,aca,List.take_zero,List.drop_eq_nil_of_le q]
def cz {ds:List D}{n:Nat}(h:ds.length=n):kn [.lst ds]=some (.int (n:Int)):=by subst h;rfl
section
variable {P:Y7}{w:Zj}{C:Cfg}{σ:St}{H:Hp}{β:bb}{own:Nat->List Addr}{i:Nat}
def AZ {own:Nat->List Addr}{i:Nat}{R:List Addr}(h:∀c∈R,c∈own i):∀c,Wn (aH own i R) c->Wn own c:=λc ux=>by
 obtain⟨j,hj⟩:=ux
 by_cases aD:i=j
 ·rw[<- aD,os_eq]at hj;exact{i,h c hj}
 ·rw[a5 aD]at hj;exact{(j),hj}
def bj.Nn {y:Sk}{d0 d:D}{v:V}{R:List Addr}(s:bj P w C σ H β own)(e:β[i]?=some (some (.own d0)))(h1:σ[i]?=some (some v))(hR:∀c∈R,c∈own i)(nd:R.Nodup)(r:Ax P w (eD C (Wn (aH own i R)) (yk true)) H y d v R):bj P w C σ H (β.set i (some (.shl y d))) (aH own i R):=by
 have sub:∀y c,eD C (Wn (aH own i R)) (yk y) c->eD C (Wn own) (yk y) c:=λy=>fm (AZ hR) _;have m:∀{j c},c∈aH own i R j->c∈own j:=λ{j c} hc=>by
  by_cases aD:i=j
  ·rw[<- aD,os_eq]at hc;rw[<- aD];exact hR c hc
  ·rw[a5 aD]at hc;exact hc
 refine{by simp[s.len],λj y' d' q=>?_,λj d' q=>?_,λj ok q=>?_,λj c hc=>s.dm j c (m hc),λj k c c1 c2=>s.jm j k c (m c1) (m c2),λj=>?_,s.kp,s.fS,λj y' d' q=>?_}
 ·by_cases aD:i=j
  ·subst aD;obtain⟨e',_⟩:=aP q;cases e'
  ·rw[aO aD]at q;obtain⟨u,g1,g2⟩:=s.val j y' d' q;exact{u,g1,g2.aY (sub _)}
 ·by_cases aD:i=j
  ·subst aD;obtain⟨e',_⟩:=aP q;cases e'
  ·rw[aO aD]at q;rw[a5 aD];exact s.ow j d' q
 ·by_cases aD:i=j
  ·subst aD;obtain⟨e',_⟩:=aP q;cases e'
  ·rw[aO aD]at q;rw[a5 aD];exact s.nN j ok q
 ·by_cases aD:i=j
  ·rw[<- aD,os_eq];exact nd
  ·rw[a5 aD];exact s.jq j
 ·by_cases aD:i=j
  ·subst aD;obtain⟨e',_⟩:=aP q;cases e';rw[os_eq];obtain⟨_,_,_,h5⟩:=s.ow i _ e;exact{v,h1,r,λc hc=>h5 c (hR c hc)}
  ·rw[aO aD]at q;rw[a5 aD];obtain⟨u,g1,g2,g3⟩:=s.shl j y' d' q;exact{u,g1,g2.map (λ_ _ _ z=>z) (λ_ _ r=>ai.aY (sub _) r),g3}
def bj.off {d0:D}{R:List Addr}{c:Addr}(s:bj P w C σ H β own)(e:β[i]?=some (some (.own d0)))(Tr:c∈own i)(na:c∉R):¬ eD C (Wn (aH own i R)) (yk true) c:=λz=>by
 rcases z with (⟨j,hj⟩|z)|z
 ·by_cases aD:i=j
  ·rw[<- aD,os_eq]at hj;exact na hj
  ·rw[a5 aD]at hj;exact aD (s.jm i j c Tr hj)
 ·obtain⟨_,_,_,h5⟩:=s.ow i _ e;exact z (h5 c Tr)
 ·exact(s.dm i c Tr).2.2.2 z
end
section
variable {X:Cx}{C:Cfg}{k e:Expr}{φ φk:aQ}{i:Nat}{x:Str}{pos pos' px:Pos}{p pk:Bool}
def MN (i:Nat)(φk:aQ)(t0:Option Addr:=none):aQ:=λβ R=>(∃d,β[i]?=some (some (.shl (xr t0) d)))/\φk β λjd _ β1=>∃ds t m d,jd=.int t/\β1[i]?=some (some (.shl (xr t0) (.lst ds)))/\sd ds.length t=some m/\ds[m]?=some d/\R d .dt β1
def E5 (hk:PQ X C pk k φk)(hN:X.N[i]?=some x:=by rfl)(hv:oK X.env.scope x:=by first|exact .inl rfl|exact .inr (.inl rfl)|exact .inr (.inr rfl))(hd:(x==("__debug__" : Str))=false:=by decide)(eU:(x==("__classdict__" : Str))=false:=by decide)(hs:gM k:=by exact λ_ _=>rfl)(t0:Option Addr:=none):
  PQ X C pk (.Subscript (.Name x px) k pos) (MN i φk t0) :=
 ⟨λβ R R' kk h=>{h.1,hk.mono _ _ _ (λjd _ β1 nM=>by obtain⟨ds,t,m,d,h1,h2,h3,h4,q⟩:=nM;exact{ds,t,m,d,h1,h2,h3,h4,kk _ _ _ q}) h.2},(fC b_ (bY (pos:=px) hN hv hd eU) hk.pe hs).pre λσ H Q uw=>by
  obtain⟨β,own,sq,⟨d0,uB⟩,q⟩:=uw;obtain⟨a0,_,_,⟨lh,_⟩,_⟩:=sq.gq t0 uB;refine{_,lh,tQ.of hk sq q λjd kj β1 jv H1 ay i5 o r=>?_};obtain⟨ds,t,m,d,e1,hb,hm,hg,q⟩:=i5;subst e1;obtain⟨a,o1,vs,⟨g1,_⟩,g2,g3,g4,g5,_,_⟩:=o.sq.gq t0 hb;rw[lh]at g1;cases g1;cases g4;cases (show jv=.int t from r.rep)
  obtain⟨w',hw,xx⟩:=ai.get g5 hg;have Ic:lB vs t=some w':=by unfold lB;rw[show vs.length=ds.length from g5.length,hm];exact hw
  exact{a0,vs,t,w',rfl,rfl,dj.of g3,Ic,q _ _ ay o (aC.aY (λc z=>.inl z) xx)}⟩
def Fh (he:∀U,PQ X (C.u U) p e φ)(hk:∀U,PQ X (C.u U) pk k φk)(hN:X.N[i]?=some x:=by rfl)(hv:oK X.env.scope x:=by first|exact .inl rfl|exact .inr (.inl rfl)|exact .inr (.inr rfl))(hd:(x==("__debug__" : Str))=false:=by decide)(eU:(x==("__classdict__" : Str))=false:=by decide)
  (hs:swapsWithSole [.Subscript (.Name x px) k pos'] e pos.line X.env=pure false:=by rfl) (si:swappedStores [.Subscript (.Name x px) k pos'] e X.env=pure none:=by rfl)
  (ha:∀v,assign (.Subscript (.Name x px) k pos') X.env v=(do
   let ov <- holding [v] (eval (.Name x px) X.env)
   let iv <- holding [v,ov] (eval k X.env)
   acm pos'
   holding [v,ov,iv] (setItem ov iv v)
   release [v,ov,iv] []):=by intro _;rfl) (t0:Option Addr:=none) :
  PB X C (.Assign [.Subscript (.Name x px) k pos'] e pos) (λE β=>φ β λd kd β1=>(LM kd d/\kd≠.bor)/\(∃ds,β1[i]?=some (some (.shl (xr t0) (.lst ds))))/\φk β1 λjd _ β2=>∃ds t m,jd=.int t/\β2[i]?=some (some (.shl (xr t0) (.lst ds)))/\sd ds.length t=some m/\E.nx (β2.set i (some (.shl (xr t0) (.lst (ds.set m d)))))):=by
 refine{λE E' β l q=>(he λ_=>False).mono _ _ _ (λd kd β1 CM=>by obtain⟨f,h0,q⟩:=CM;exact{f,h0,(hk λ_=>False).mono _ _ _ (λjd _ β2 Ge=>by obtain⟨ds,t,m,h1,h2,h3,q⟩:=Ge;exact{ds,t,m,h1,h2,h3,l.nx _ q}) q}) q,λpins s σ H De I l5=>?_}
 obtain⟨Z,E,β,⟨own,sq,n⟩,q,ok⟩:=l5;refine rB (he λa=>H a=none).pe (v7 (bY (pos:=px) hN hv hd eU) (hk λa=>H a=none).pe set_list ha) hs si rfl pins s σ H De I ?_;refine tQ.of (he λa=>H a=none) (sq.lJ (C:=C.z) (U:=λa=>H a=none) λa z=>z) q λd kd β1 v H1 ay wF o r=>?_;obtain⟨⟨f,nb⟩,⟨T3,uB⟩,q⟩:=wF;obtain⟨a0,_,_,⟨lh,_⟩,_⟩:=o.sq.gq t0 uB;refine{_,lh,tQ.of (hk λa=>H a=none) o.sq q λjd kj β2 jv H2 bH RL o2 r2=>?_};obtain⟨ds,t,m,e1,hb,hm,q⟩:=RL;subst e1;have rv:=(KV.held (Z:=(H,Wn own)) nb r o2.sn).yg f;obtain⟨a,o1,vs,⟨g1,_⟩,g2,g3,g4,g5,_,_⟩:=o2.sq.gq t0 hb;rw[lh]at g1;cases g1;cases g4;cases (show jv=.int t from r2.rep)
 refine{a0,vs,t,m,rfl,rfl,g3,by rw[show vs.length=ds.length from g5.length];exact hm,?_}
 have wa:av (C.u λa=>H a=none) (Wn bH) .dt a0:=.inl {i,by rw[g2];simp}
 have kp:Kp (av (C.u λa=>H a=none) (Wn bH) .dt) H2 (upd H2 a0 (.lst (vs.set m v))):=r9 g3 (λxs z=>by cases z) wa
 obtain⟨s2,hA,hw,zP⟩:=o2.sq.BB t0 (d':=.lst (ds.set m d)) (o:=.lst (vs.set m v)) (vs':=vs.set m v) hb lh rfl (ai.set (rv.keep kp) m ((ai.aY (λc z=>.inl z) g5).keep kp));exact ok.nx _ _ _ {_,s2,jg (C:=C) ((n.trans o.sn).trans o2.sn) (λb z=>n.free z) hw zP hA} q
end
section
variable {X:Cx}
def OU:D->D->Option D:=k_ λi j=>if pA i j then some (.int (i*2 ^ j.toNat)) else none
def Fx:bA X (aax .LShift) OU:=pX (h:=λi j=>.int (i*2 ^ j.toNat)) Jw (λ_ _ _ e=>eC e) λ_ _ _ _=>rfl
end
def wf (ps:List (Nat×Nat))(ws:List Int)(p:Nat×Nat):Int:=(((ps.zip ws).find? λq=>decide (q.1=p)).map (·.2)).getD 0
def iI:FD:=λds R=>∃(n:Nat) (ps:List (Nat×Nat)) (ws:List Int),ds=[fN n ps,b8 ws]/\ws.length=ps.length/\R .cN
def iI.mono:dq iI:=λds R R' k ⟨n,ps,ws,e,h,q⟩=>{n,ps,ws,e,h,k _ q}
def sv:FD:=λds R=>∃(n:Nat) (ps:List (Nat×Nat)) (ws:List Int),ds=[fN n ps,b8 ws]/\vx n ps/\ws.length=ps.length/\R (wD ps (wf ps ws))
def sv.mono:dq sv:=λds R R' k ⟨n,ps,ws,e,h1,h2,q⟩=>{n,ps,ws,e,h1,h2,k _ q}
def A5 {ps:List (Nat×Nat)}{ws:List Int}(nd:ps.Nodup){q:(Nat×Nat)×Int}(h:q∈ps.zip ws):wf ps ws q.1=q.2:=by
 unfold wf
 induction ps generalizing ws with
 |nil=>simp at h
 |cons p ps ih =>
  cases ws with
  |nil=>simp at h
  |cons x ws =>
   rw[aaf]at h ⊢
   rw[aaq]
   by_cases e:p=q.1
   ·rw[decide_eq_true e];rcases Y6.mp h with rfl|h
    ·rfl
    ·exact absurd (e▸(abG h).1) (Zs.mp nd).1
   ·rw[decide_eq_false e];rcases Y6.mp h with rfl|h
    ·exact absurd rfl e
    ·exact ih (Zs.mp nd).2 h
def Io {ps:List (Nat×Nat)}{ws:List Int}(nd:ps.Nodup)(hl:ws.length=ps.length):(ps.zip ws).map (λq=>(tI q.1,D.int q.2))=ps.map λp=>(tI p,D.int (wf ps ws p)):=by
 have e:(ps.zip ws).map (λq=>(tI q.1,D.int q.2))=(ps.zip ws).map λq=>(tI q.1,D.int (wf ps ws q.1)):=ZU λq hq=>by rw[A5 nd hq]
 rw[e];have e2:(ps.zip ws).map (λq=>(tI q.1,D.int (wf ps ws q.1)))=((ps.zip ws).map (·.1)).map λp=>(tI p,D.int (wf ps ws p)):=by rw[Z7];rfl
 rw[e2,List.map_fst_zip (by lia)]
theorem vy:∀(ps:List (Nat×Nat)) (ws:List Int),hV (ps.map λp=>kD (tI p)) (ws.map D.int)=(ps.zip ws).map λq=>D.tup [kD (tI q.1),.int q.2]
 |[],ws=>by simp[hV]
 |p::ps,[]=>by simp[hV]
 |p::ps,x::ws=>by
  show D.tup [_,_]::hV _ _=_;rw[vy ps ws];rfl
def xk {α:Type}{l:List α}{k:α->Nat×Nat}{f:α->D}{p:Nat×Nat}(h:∀q∈l,k q≠p):mK (l.map λq=>(tI (k q),f q)) (tI p)=none:=by
 unfold mK;rw[Option.map_eq_none_iff,List.find?_eq_none];intro x hx;obtain⟨q,hq,rfl⟩:=ZN.mp hx;simp only[decide_eq_true_eq];intro e;exact h q hq (vG e)
def xi {ps:List (Nat×Nat)}{ws:List Int}(nd:ps.Nodup){m:Nat}{q:(Nat×Nat)×Int}(h:(ps.zip ws)[m]?=some q):∀r∈(ps.zip ws).take m,r.1≠q.1:=by
 intro r hr e;obtain⟨i,hi⟩:=abr hr;rw[List.getElem?_take]at hi
 split at hi
 ·next dE =>
  have h1:=(acj.mp h).1;have h2:=(acj.mp hi).1;rw[e]at h2;have:=(List.getElem?_inj (Y_.mp h2).1 nd).mp (h2.trans h1.symm);lia
 ·cases hi
def wN:FD:=λds R=>∃(n:Nat) (ps:List (Nat×Nat)) (ws:List Int) (pp:List (List Int)),ds=[fN n ps,b8 ws,tN pp]/\vx n ps/\n<=40/\ws.length=ps.length/\xg pp/\∀b:Bool,(b=true↔Ii n ps (wf ps ws) pp)->R (.bl b)
def wN.mono:dq wN:=λds R R' k ⟨n,ps,ws,pp,e,h1,h2,h3,h4,q⟩=>{n,ps,ws,pp,e,h1,h2,h3,h4,λb hb=>k _ (q b hb)}
def nQ {γ:da}{ψ:yC}{E:cb}{ds:List D}{k:Kd}{β:bb}(I:Nat->bb->Prop)(h0:I 0 β)(h1:∀E':cb,(∀d β,E.rt d β->E'.rt d β)->∀i:Nat,(∀β,I (i+1) β->E'.nx β)->∀d β,ds[i]?=some d->I i β->γ d (sk k d) β λβ1=>ψ E' β1)
  (h2:∀β,I ds.length β->E.nx β):C9 γ ψ E ds k β:={I,h0,λi d β e q=>h1 (E.lp (I (i+1))) (λ_ _ q=>q) i (λ_ q=>q) d β e q,h2}
def VU {E:cb}{ψ:yC}{E':cb}{β:bb}(h:ψ E' β):(E.up (ap ψ E')).nx β:=h
def IB {τ:a_}{ψ:yC}{E:cb}{β:bb}(V:Nat->bb->Prop)(h0:∃m,V m β)
  (h1:∀(E':cb) (Q:bb->Prop),(∀β,E.nx β->Q β)->∀m,(∀m' β,m'<m->V m' β->E'.nx β)->∀β,V m β->τ β λt β1=>if t=true then ψ E' β1 else Q β1):A4 τ ψ E β :=
 {V,h0,λm β v=>h1 {nx:=λβ'=>∃m',m'<m/\V m' β',rt:=E.rt,bk:=E.nx,ct:=λβ'=>∃m',m'<m/\V m' β'} E.nx (λ_ q=>q) m (λm' _ l v=>{(m'),l,v}) β v}
section
variable {X:Cx}{C:Cfg}{lk:List (Option Nat)}{γ:da}{τ:a_}{φ:aQ}{T:List Nat}{pi:Bool}{scope:abB}{N':List Str}{tg dJ elt:Expr}{ifs:List Expr}{ι:cV}{pos pos' tu:Pos}{y:Str}{i:Nat}
def H9 {σ:St}{H1:Hp}{β:bb}{own:Nat->List Addr}{a:Addr}{J:It}{ds:List D}{k:Kd}{K:List D->Prop}{End:Hp->Prop}(L:Links X scope N' lk)(vi:N'.Nodup)(hT:T.all (λi=>match lk[i]? with|some (some _)=>false|_=>true)=true)
  (γm:∀d k β R R',(∀r,R r->R' r)->γ d k β R->γ d k β R') (τm:∀β R R',(∀d β,R d β->R' d β)->τ β R->τ β R') (φm:∀β R R',(∀d k β,R d k β->R' d k β)->φ β R->φ β R')
  (s1:SQ X C σ H1 β own) (ha:H1 a=none) (hk:hold k false) (it:Az X (av C (Wn own) k) J ds H1) (q:nu γ τ φ ds k (b9 lk β) K)
  (fin:∀o H',K o->Out X C σ H1 own true β H' own->KV X.prog X.w C (H1,Wn own) own H' .own (.lst o) (.ref a)->End H') :
  gO J (Eb X C a T γ) (kA X (C.u λc=>c=a) true τ) (Mj X C a φ) (λ_ H'=>End H') (fc lk σ) (upd H1 a (.lst [])):=by
 have K0:∀i∈T,∀j,lk[i]?≠some (some j):=λi hi j e=>by
  have:=aaF.mp hT i hi;rw[e]at this;cases this
 exact jJ (T:=T) (sP (P:=X.prog) (w:=X.w) (H1:=H1)) γm τm (λj hj=>hj) (de L vi) K0 s1 ha hk it {[],[],ak,(show aR _ _ _ [] [] [] from {(rfl),rfl}),Z5,λc hc=>(nomatch hc)} (s1.enter ha (de L vi))
  (λHb Wb βx ox σx Hx Nx h0 sx qx=>xu h0 ha φm sx qx) q λo H' q o2 r=>fin o H' q o2 (DX s1 ha r)
def J9 (N':List Str)(lk:List (Option Nat))(L:iq X.env.scope.names X.N scope N' lk=true)(vi:N'.Nodup)(hc:X.calm=true)(hi:AJ X C pi tg dJ ι)
  (uv:∀U cl c s H ex,AK (aK X scope N' cl c s H ex) (C.u U) tg T γ) (uu:∀U cl c s H ex,sQ (aK X scope N' cl c s H ex) (C.u U) true ifs τ) (uy:∀U cl c s H ex,PQ (aK X scope N' cl c s H ex) (C.u U) true elt φ)
  (hT:T.all (λi=>match lk[i]? with|some (some _)=>false|_=>true)=true:=by rfl) (hs:∀x,aad dJ X.env x=pure x:=by intro _;rfl):PQ X C pi (.ListComp elt [{tg,dJ,ifs,0}] scope pos) (Hh lk ι γ τ φ):=by
 have L':=Links.of L;have γm:=(uv (λ_=>False) [] 0 X.s₀ X.H₀ []).mono;have τm:=(uu (λ_=>False) [] 0 X.s₀ X.H₀ []).mono;have φm:=(uy (λ_=>False) [] 0 X.s₀ X.H₀ []).mono;refine{λβ R R' k h=>hi.mono β _ _ (λds kd β1 q=>{q.1,q.2.mono λo z=>k _ _ _ z}) h,?_};refine(jP (g:={tg,dJ,ifs,0}) (gs:=[]) (tg:=λa=>Eb X C a T γ) (tt:=λa=>kA X (C.u λc=>c=a) true τ) (ta:=λa=>Mj X C a φ)
  L' hc jX rfl rfl (λ_ _=>DE) hi.pi (λa cl c s H ex=>{(uv _ cl c s H ex).pg,(uu _ cl c s H ex).pt,jT rfl (uy _ cl c s H ex).pe}) hs).pre λσ H Q h=>?_
 obtain⟨β,own,s,h⟩:=h;refine{β,own,s,hi.mono β _ _ (λds k β1 h J H1 ay o1 it a ha=>?_) h};obtain⟨hk,q⟩:=h;exact H9 L' vi hT γm τm φm o1.sq ha hk it q λo H' q o2 r=>q _ _ ay (o1.yJ o2 λz=>{(z),rfl}) (r.later o1.sn)
def pL (o:Bool)(N':List Str)(lk:List (Option Nat))(L:iq X.env.scope.names X.N scope N' lk=true)(vi:N'.Nodup)(hc:X.calm=true)(hi:∀U,AJ X (C.u U) pi tg dJ ι)
  (uv:∀U cl c s H ex,AK (aK X scope N' cl c s H ex) (C.u U) tg T γ) (uu:∀U cl c s H ex,sQ (aK X scope N' cl c s H ex) (C.u U) true ifs τ) (uy:∀U cl c s H ex,PQ (aK X scope N' cl c s H ex) (C.u U) true elt φ)
  (hN:X.N.Nodup) (hT:T.all (λi=>match lk[i]? with|some (some _)=>false|_=>true)=true:=by rfl) (hy:X.N[i]?=some y:=by rfl) (hx:Loc X.env.scope y:=by first|exact .inl rfl|exact .inr rfl) (hf:X.fn y=true\/X.env.scope.names.lookup y=some .local:=by first|exact .inl rfl|exact .inr rfl|assumption)
  (o8:aaw (.ListComp elt [{tg,dJ,ifs,0}] scope pos) (some (.Name y pos')) tu.line X.env=pure true:=by rfl)
  (KR:evalThenUse (.ListComp elt [{tg,dJ,ifs,0}] scope pos) X.env (assign (.Name y pos') X.env)=(do let _ <- comprehension (.ListComp elt [{tg,dJ,ifs,0}] scope pos) scope X.env (firstIterPos [{tg,dJ,ifs,0}] pos) (newList []) false (eval dJ X.env) (some (assign (.Name y pos') X.env));pure ()):=by first|rfl|exact arm_evalThenUse_ListComp ..)
  (hs:∀x,aad dJ X.env x=pure x:=by intro _;rfl) :
  PB X C (.Assign [.Name y pos'] (.ListComp elt [{tg,dJ,ifs,0}] scope pos) tu) (λE β=>Hh lk ι γ τ φ β λd _ β'=>E.nx (β'.set i (some (match o with|true=>.own d|false=>.val true d)))):=by
 have L':=Links.of L;have γm:=(uv (λ_=>False) [] 0 X.s₀ X.H₀ []).mono;have τm:=(uu (λ_=>False) [] 0 X.s₀ X.H₀ []).mono;have φm:=(uy (λ_=>False) [] 0 X.s₀ X.H₀ []).mono;refine{λE E' β l h=>(hi λ_=>False).mono β _ _ (λds kd β1 q=>{q.1,q.2.mono λo z=>l.nx _ z}) h,λpins s σ H D I0 hh=>?_};obtain⟨Z,E,β,⟨own,sq,n⟩,h,ok⟩:=hh;refine tM (g:={tg,dJ,ifs,0}) (gs:=[]) (tg:=λa=>Eb X C a T γ) (tt:=λa=>kA X (C.u λc=>c=a) true τ) (ta:=λa=>Mj X C a φ)
  L' hc jX o8 KR rfl hN hy hx hf (λ_ _=>DE) (hi λa=>H a=none).pi (λa cl c s H ex=>{(uv _ cl c s H ex).pg,(uu _ cl c s H ex).pt,jT rfl (uy _ cl c s H ex).pe}) hs pins s σ H D I0 ?_
 refine{β,own,sq.lJ (C:=C.z) (U:=λa=>H a=none) λa z=>z,(hi λ_=>False).mono β _ _ (λds k β1 h J H1 ay o1 it a ha=>?_) h};obtain⟨hk,q⟩:=h;refine H9 (C:=C.u λa=>H a=none) L' vi hT γm τm φm o1.sq ha hk it q λol H' q o2 r=>?_;have r':=r.later o1.sn;have m:=n.trans (o1.sn.trans o2.sn);cases o with
 |false=>exact ok.nx _ _ _ {_,(bj.UY o2.sq).eX (aC.aY (λa z=>z.elim id λz=>z.elim) (KV.rep r')),kK m} q
 |true =>
  obtain⟨A,h1,h2,h3⟩:=r';refine ok.nx _ _ _ {_,o2.sq.vP h1 h2 λc hc=>{(h3 c hc).2.2,(h3 c hc).2.1,(h3 c hc).1},?_} q;exact⟨λb hq=>by
   obtain⟨j,hj⟩:=hq
   by_cases aD:i=j
   ·rw[<- aD,os_eq]at hj;exact .inr (n.free (h3 b hj).1)
   ·rw[a5 aD]at hj;exact m.w b {(j),hj},m.k,m.d⟩
end
end L2.Q
namespace hJ
open PySem L2 L2.Q
def qE:FD:=λds R=>∃m:Int,ds=[.int m]/\0<=m/\m<=40/\∀(n:Int) ts,0<=n->n<=m->Drawn n ts->R (.tup [.int n,.lst (ts.map kD)])
def qE.mono:dq qE:=λds R R' k h=>by obtain⟨m,e,h1,h2,q⟩:=h;exact{m,e,h1,h2,λn ts a b c=>k _ (q n ts a b c)}
def zY {n:Int}{ks:List (List Int)}(h:i8 n ks)(nd:ks.Nodup):∃ts,cutD ((lM ks).map kD) none (some 300)=ts.map kD/\Drawn n ts:=by
 refine{(lM ks).take (min 300 (lM ks).length),?_,?_,?_,?_,?_}
 ·unfold cutD;rw[HT.mZ,show (some (300:Int))=some ((300:Nat):Int) from rfl,HT.rf,List.drop_zero,<- List.map_take]
  simp
 ·rw[ZI];lia
 ·exact λt ht=>h t ((jG _).mem_iff.mp (aaW ht))
 ·exact List.Pairwise.take (mU _)
 ·exact List.Nodup.sublist (List.take_sublist _ _) ((jG _).nodup_iff.mpr nd)
section
variable {P:Y7}{w:Zj}{K:PySem.W.Frag}{mg:Str->Option Y1}{base:Heap}
def bC:aJ ["deck","most","size","great","many","ties","way","a","b","k"] ["deck","most"] (ao iN):=mkS
def JG {P_ Gv} (dR:D0 K mg P_ Gv) {OP Dc} (dT:D1 K mg OP Dc) (B:Bs mg):aE P w K mg base bI 3 P_ Gv ["deck","most"] (oQ P w pY true qE):=by
 have GT:aE P w K mg base bI 1 _ _ _ (oQ P w pY true bw):=rP dT.F;refine M0 dR.F bC (λds R R9=> by obtain⟨m,e,_⟩ := R9;subst e;rfl) λbQ A outer s H E IO hr=>⟨_,(aj (aU (i:=2) (aT ag bx (az aI aA (az aI aA (az aI jV (aS (aa ah af)) ah) (az aI jV (aS (aa ah af)) ah)) (aS (aa ah af))) (aV (ih:=0) bw.mono GT (hr.mono (by decide)) dT.m dT.F.kp dT.b (aa ah af))) bC.nd)
    (aj (aU (i:=3) (aT ag bx (aS (aa (aV (ih:=0) bw.mono GT (hr.mono (by decide)) dT.m dT.F.kp dT.b (aa (az aI aA (ae (i:=1)) ah) af)) (aa (ae (i:=1)) af))) (aV (ih:=0) bw.mono GT (hr.mono (by decide)) dT.m dT.F.kp dT.b (aa ah af))) bC.nd)
    (aj (aU (i:=4) (a7 ag (bF.m (jo rfl)) B.min sO (aa (ae (i:=1)) (aa (aT ag bx (aS (aa (aV (ih:=0) bw.mono GT (hr.mono (by decide)) dT.m dT.F.kp dT.b (aa ah af)) (aa (aV (ih:=0) bw.mono GT (hr.mono (by decide)) dT.m dT.F.kp dT.b (aa ah af)) (aa (ae (i:=3)) af)))) (ae (i:=2))) af))) bC.nd)
    (aj (gA (i:=5) (λ_=>(E6 true)) bC.nd)
    (aj (aU (i:=6) (aV (ih:=0) bw.mono GT (hr.mono (by decide)) dT.m dT.F.kp dT.b (aa ah af)) bC.nd)
    (aj (dI aab rfl (ck B.range (aa (ae (i:=4)) af)) (aw (i:=7) bC.nd) (dZ (b7 (vt.t (jM (aL ag (bA.m (cu hr.units)) (ae (i:=6)) ah) (ia (aL ag (bA.m fb) (az aI aA (ae (i:=7)) ah) (ae (i:=4)))))) (ar (mn (i:=5) hr.gn (bX (aa (ae (i:=7)) (aa (az aI aA (ae (i:=7)) ah) af))))) bc)
    (dZ (b7 (vt.t (jM (aL ag (bA.m (cu hr.units)) (ae (i:=6)) ah) (ia (aL ag (bA.m fb) (ae (i:=7)) (az ag (bA.m aW) (az ag (bA.m aW) (ae (i:=4)) ah) (ae (i:=7))))))) (ar (mn (i:=5) hr.gn (bX (aa (ae (i:=7)) (aa (az ag (bA.m aW) (az ag (bA.m aW) (ae (i:=4)) ah) (ae (i:=7))) af))))) bc)
    (ar (dI aab rfl (vZ B.range (aa (az aI aA (ae (i:=7)) ah) (aa (a7 ag (bF.m (jo rfl)) B.min sO (aa (ae (i:=4)) (aa ah af))) af))) (aw (i:=8) bC.nd) (ar (b7 (vt.t (rD (aL ag (bA.m (cu hr.units)) (ae (i:=6)) ah) (rC (vt.t (jM (aL ag (bA.m (cu hr.units)) (ae (i:=6)) ah) (ia (aL ag (bA.m (cu hr.units)) (aV (ih:=0) bw.mono GT (hr.mono (by decide)) dT.m dT.F.kp dT.b (aa ah af)) ah))))))) (ar (mn (i:=5) hr.gn (bX (aa (ae (i:=7)) (aa (ae (i:=8)) af))))) bc)))))))
    (aj (dI aab rfl (ck B.range (aa (az ag (bA.m jW) (aV (ih:=0) bw.mono GT (hr.mono (by decide)) dT.m dT.F.kp dT.b (aa (aT ag bx (aS (aa ah (aa ah (aa ah af)))) (aV (ih:=0) bw.mono GT (hr.mono (by decide)) dT.m dT.F.kp dT.b (aa ah af))) af)) (iP ag (bF.m Al) B.int Lp (aa (rG ag (bA.m Jz) (ae (i:=4)) ah) af))) af)) (aw (i:=9) bC.nd) (aj (aU (i:=7) (aV (ih:=0) bw.mono GT (hr.mono (by decide)) dT.m dT.F.kp dT.b (aa (ae (i:=4)) af)) bC.nd)
    (aj (aU (i:=8) (az ag (bA.m xO) (az aI aA (az aI aA (ae (i:=7)) ah) (aV (ih:=0) bw.mono GT (hr.mono (by decide)) dT.m dT.F.kp dT.b (aa (az ag (bA.m aW) (ae (i:=4)) ah) af))) (ae (i:=4))) bC.nd)
    (ar (mn (i:=5) hr.gn (bX (aa (a7 ag (bF.m (jo rfl)) B.min sO (aa (ae (i:=7)) (aa (ae (i:=8)) af))) (aa (a7 ag (bF.m (w_ rfl)) B.max xa (aa (ae (i:=7)) (aa (ae (i:=8)) af))) af))))))))
    (ar (bh (bX (aa (ae (i:=4)) (aa (pR (a7 aI (sM rfl) B.sorted Ar (aa (ae (i:=5)) af)) f7 (fZ ah)) af)))))))))))),λds R h=>?_⟩
 obtain⟨m,rfl,YJ,PZ,q⟩:=h;have vH:(1:Nat)<=Zd:=bG (by lia)
 refine{tv,vH,tv,_,rfl,.inl {rfl,tv,tv,vH,tv,_,rfl,.inl {rfl,_,rfl,.inl {rfl,tv,tv,vH,_,rfl,.inl {rfl,tv,rfl,tv,rfl,tv,16,rfl,by lia,by lia,λr r0 r1=>pick r0 (by simpa using r1) λd hd=>?_}}}}}
 obtain⟨sz,rfl,s0,s1⟩:∃s:Nat,d=.int (s:Int)/\0<=s/\s<=2:=by
  simp at hd;rcases hd with rfl|rfl|rfl
  ·exact{0,rfl,by lia,by lia}
  ·exact{1,rfl,by lia,by lia}
  ·exact{2,rfl,by lia,by lia}
 refine{rfl,_,rfl,tv,_,rfl,tv,rfl,tv,m+1,rfl,by lia,by lia,λg0 YT YS=>{tv,_,rfl,tv,lK,tv,rfl,tv,rfl,tv,2,rfl,by lia,by lia,λr r0 r1=>pick r0 (by simpa using r1) λd hd=>?_}}
 obtain⟨gr,rfl,Xv,YR⟩:∃s:Int,d=.int s/\0<=s/\s<=m:=by
  simp only[Y6,Z2,or_false]at hd;rcases hd with rfl|rfl
  ·exact{g0,rfl,by lia,by lia}
  ·exact{m,rfl,by lia,by lia}
 refine{_,rfl,tv,rfl,tv,rfl,tv,7,rfl,by lia,by lia,λu u0 u1=>{tv,rfl,tv,rfl,tv,11,rfl,by lia,by lia,λv v0 v1=>{tv,_,rfl,tv,Mv,tv,_,rfl,pick (by lia) (by show (sz:Int)<3;lia) λd hd=>?_}}}
 obtain⟨x,rfl,RF⟩:∃s:Int,d=.int s/\0<=s:=by
  simp only[Y6,Z2,or_false]at hd;rcases hd with rfl|rfl|rfl
  ·exact{(u),rfl,u0}
  ·exact{(v),rfl,v0}
  ·exact{(gr),rfl,Xv}
 obtain⟨n,hn,n0,n1⟩:∃n:Int,uU [.int m,.int x]=some (.int n)/\0<=n/\n<=m:={_,uT,by split <;> lia,by split <;> lia}
 refine{tv,_,hn,tv,?_};refine{rfl,tv,rfl,tv,6,rfl,by lia,by lia,λway w0 w1=>?_}
 have add:∀{ts:List (List Int)} {t:List Int},ts.Nodup->i8 n ts->Qf n t->(u7 ts t).Nodup/\i8 n (u7 ts t)/\(u7 ts t).length<=ts.length+1:=λ{ts t} h1 h2 h3=>by
  unfold u7
  split
  ·exact{h1,h2,by lia}
  ·next hn =>
   refine{aam.mpr {h1,by simp,λx hx y hy z=>?_},λu hu=>?_,by simp}
   ·rw[Zc.mp hy]at z;exact hn (by rw[<- z];exact hx)
   ·rcases Zt.mp hu with z|z
    ·exact h2 u z
    ·rw[Zc.mp z];exact h3
 refine{_,rfl,tv,n,rfl,by lia,by lia,tv,?_}
 refine nQ (λi β=>∃(ts:List (List Int)) (x7 x8 x9:Option Q.B),β=[some (.hand pY),some (.val false (.int m)),some (.val true (.int sz)),some (.val true (.int gr)),some (.val true (.int n)),some (.own (dP ts true)),some (.val true (.int way)),x7,x8,x9]/\ts.Nodup/\i8 n ts/\ts.length<=2*i+23*min i 23) {[],_,_,_,rfl,Z5,i8.nil,by simp} (λE1 k1 i z1 d β hd h=>?_) ?_
 ·obtain⟨ts,x7,x8,x9,rfl,h1,h2,h3⟩:=h;obtain⟨hi,rfl⟩:=fX hd;refine{λβ=>∃(ts:List (List Int)) (x8 x9:Option Q.B),β=[some (.hand pY),some (.val false (.int m)),some (.val true (.int sz)),some (.val true (.int gr)),some (.val true (.int n)),some (.own (dP ts true)),some (.val true (.int way)),some (.val true (.int (0+(i:Int)))),x8,x9]/\ts.Nodup/\i8 n ts/\ts.length<=2*i+23*min i 23+1,?_,?_}
  ·refine{_,rfl,tv,_,bf _ _,_,rfl,sf (λ_=>{_,rfl,tv,_,rfl,tv,_,rfl,_,rfl,_,rfl,sf (λdE=>?_) (λ_=>{ts,_,_,rfl,h1,h2,by lia})}) (λ_=>fR rfl {ts,_,_,rfl,h1,h2,by lia})}
   obtain⟨g1,g2,g3⟩:=add h1 h2 (t:=[0+(i:Int),0+(i:Int)+1]) {_,_,rfl,by lia,by lia,by lia}
   exact{{_,rfl},_,rfl,tv,_,rfl,tv,_,rfl,tv,lK,ts,[0+(i:Int),0+(i:Int)+1],rfl,rfl,by rw[aaK];lia,_,_,_,rfl,g1,g2,by lia}
  rintro β ⟨ts,x8,x9,rfl,h1,h2,h3⟩;refine{λβ=>∃(ts:List (List Int)) (x8 x9:Option Q.B),β=[some (.hand pY),some (.val false (.int m)),some (.val true (.int sz)),some (.val true (.int gr)),some (.val true (.int n)),some (.own (dP ts true)),some (.val true (.int way)),some (.val true (.int (0+(i:Int)))),x8,x9]/\ts.Nodup/\i8 n ts/\ts.length<=2*i+23*min i 23+2,?_,?_}
  ·refine{_,rfl,tv,_,bf _ _,_,rfl,sf (λ_=>{_,rfl,tv,_,rfl,tv,_,rfl,tv,_,rfl,_,rfl,_,rfl,_,rfl,sf (λdE=>?_) (λ_=>{ts,_,_,rfl,h1,h2,by lia})}) (λ_=>fR rfl {ts,_,_,rfl,h1,h2,by lia})}
   obtain⟨g1,g2,g3⟩:=add h1 h2 (t:=[0+(i:Int),n-1-(0+(i:Int))]) {_,_,rfl,by lia,by lia,by lia}
   exact{{_,rfl},_,rfl,tv,_,rfl,tv,_,rfl,tv,_,rfl,_,rfl,tv,lK,ts,[0+(i:Int),n-1-(0+(i:Int))],rfl,rfl,by rw[aaK];lia,_,_,_,rfl,g1,g2,by lia}
  rintro β ⟨ts,x8,x9,rfl,h1,h2,h3⟩;obtain⟨fe,SV,P5,Gm⟩:∃h:Int,uU [.int n,.int 24]=some (.int h)/\h<=n/\h<=24/\0<=h:={_,uT,by split <;> lia,by split <;> lia,by split <;> lia}
  refine{_,rfl,tv,_,rfl,tv,_,rfl,tv,tv,_,SV,tv,0+(i:Int)+1,fe,rfl,{by lia,by lia,by lia,by lia},tv,?_}
  refine nQ (λj β=>∃(ts:List (List Int)) (x8 x9:Option Q.B),β=[some (.hand pY),some (.val false (.int m)),some (.val true (.int sz)),some (.val true (.int gr)),some (.val true (.int n)),some (.own (dP ts true)),some (.val true (.int way)),some (.val true (.int (0+(i:Int)))),x8,x9]/\ts.Nodup/\i8 n ts/\ts.length<=2*i+23*min i 23+2+j) {ts,_,_,rfl,h1,h2,by lia} (λE3 k3 j z3 d β hd h=>?_) ?_
  ·obtain⟨ts,x8,x9,rfl,h1,h2,h3⟩:=h;obtain⟨hj,rfl⟩:=fX hd;obtain⟨g1,g2,g3⟩:=add h1 h2 (t:=[0+(i:Int),0+(i:Int)+1+(j:Int)]) {_,_,rfl,by lia,by lia,by lia}
   refine{_,rfl,tv,_,bf _ _,_,rfl,sf (λ_=>wC rfl ?_) (λ_=>{_,rfl,tv,_,bf _ _,_,rfl,sf (λ_=>{rfl,tv,rfl,tv,3,rfl,by lia,by lia,λr r0 r1=>{tv,_,bf _ _,_,rfl,sf (λ_=>?_) (λ_=>z3 _ {ts,_,_,rfl,h1,h2,by lia})}}) (λ_=>fR rfl (z3 _ {ts,_,_,rfl,h1,h2,by lia}))})}
   ·exact{{_,rfl},_,rfl,tv,_,rfl,tv,lK,ts,[0+(i:Int),0+(i:Int)+1+(j:Int)],rfl,rfl,by rw[aaK];lia,z3 _ {_,_,_,rfl,g1,g2,by lia}}
   ·exact{{_,rfl},_,rfl,tv,_,rfl,tv,lK,ts,[0+(i:Int),0+(i:Int)+1+(j:Int)],rfl,rfl,by rw[aaK];lia,z3 _ {_,_,_,rfl,g1,g2,by lia}}
  ·rintro β ⟨ts,x8,x9,rfl,h1,h2,h3⟩;rw[fW]at h3;exact z1 _ {ts,_,_,_,rfl,h1,h2,by lia}
 ·rintro β ⟨ts,x7,x8,x9,rfl,h1,h2,h3⟩;rw[fW]at h3;refine{rfl,tv,tv,tv,Mv,tv,rfl,tv,rfl,tv,3,rfl,by lia,by lia,λr r0 r1=>pick r0 (by simpa using r1) λd hd=>?_}
  obtain⟨mm,rfl,Wv,Yz⟩:∃m:Int,d=.int m/\0<m/\m<=301:=by
   simp only[Y6,Z2,or_false]at hd;rcases hd with rfl|rfl|rfl
   ·exact{5,rfl,by lia,by lia}
   ·exact{21,rfl,by lia,by lia}
   ·exact{301,rfl,by lia,by lia}
  refine{tv,rfl,tv,mm,rfl,Wv,by lia,λc c0 c1=>?_}
  have OS:Ld (.int c) (.int (if decide (n>1)=true then 1 else 0))=some (.int (c*(if decide (n>1)=true then 1 else 0))):=by
   show (if pB c _ then some _ else none)=_
   rw[if_pos (show pB c (if decide (n>1)=true then 1 else 0) from .inl {by lia,by lia})]
  have hj:0<=c*(if decide (n>1)=true then 1 else 0)/\c*(if decide (n>1)=true then 1 else 0)<=300/\(¬ n>1->c*(if decide (n>1)=true then 1 else 0)=0):=by
   by_cases hn:n>1
   ·simp[hn];lia
   ·simp[hn]
  generalize c*(if decide (n>1)=true then 1 else 0)=j at OS hj
  refine{tv,_,rfl,tv,_,rfl,tv,_,rfl,_,OS,tv,j,rfl,by lia,by lia,tv,?_}
  refine nQ (λi β=>∃(ts:List (List Int)) (x7 x8 x9:Option Q.B),β=[some (.hand pY),some (.val false (.int m)),some (.val true (.int sz)),some (.val true (.int gr)),some (.val true (.int n)),some (.own (dP ts true)),some (.val true (.int way)),x7,x8,x9]/\ts.Nodup/\i8 n ts/\ts.length<=609+i) {ts,_,_,_,rfl,h1,h2,by lia} (λE4 k4 i z4 d β hd h=>?_) ?_
  ·obtain⟨ts,x7,x8,x9,rfl,h1,h2,h3⟩:=h;obtain⟨hi,rfl⟩:=fX hd;have SO:n>1:=ZH λz=>by have:=hj.2.2 z;lia
   refine{rfl,_,rfl,tv,rfl,tv,n,rfl,by lia,by lia,λone o0 o1=>?_}
   refine{_,rfl,tv,_,rfl,tv,rfl,_,rfl,tv,_,rfl,tv,rfl,tv,n-1,rfl,by lia,by lia,λr' Yt LH=>?_}
   have SS:Lf (.int (one+1+r')) (.int n)=some (.int ((one+1+r') % n)):=if_pos (by lia)
   refine{_,rfl,tv,_,rfl,_,SS,?_};have Gi:(one+1+r') % n≠one/\0<=(one+1+r') % n/\(one+1+r') % n<n:=by
    by_cases dE:one+1+r'<n
    ·rw[Int.emod_eq_of_lt (by lia) dE];lia
    ·rw[show one+1+r'=(one+1+r' - n)+n by lia,Int.add_emod_right,Int.emod_eq_of_lt (by lia) (by lia)];lia
   generalize (one+1+r') % n=Hk at Gi;obtain⟨g1,g2,g3⟩:=add h1 h2 (t:=[if Hk<one then Hk else one,if Hk>one then Hk else one]) {_,_,rfl,by split <;> lia,by split <;> (try split) <;> lia,by split <;> lia}
   exact{{_,rfl},_,rfl,tv,_,rfl,tv,_,rfl,tv,_,rfl,tv,_,rfl,tv,_,rfl,tv,lK,ts,[if Hk<one then Hk else one,if Hk>one then Hk else one],rfl,rfl,by rw[aaK];lia,z4 _ {_,_,_,_,rfl,g1,g2,by lia}}
  ·rintro β ⟨ts,x7,x8,x9,rfl,h1,h2,h3⟩;rw[fW]at h3;refine{_,rfl,tv,_,rfl,tv,_,EC h2.ne (by lia),.inl {nU _,300,rfl,_,rfl,?_}}
   obtain⟨us,e,dr⟩:=zY h2 h1;rw[e];exact .inl {nU _,tv,lK,tv,rfl,q n us n0 n1 dr}
end
section
variable {P:Y7}{w:Zj}{K:PySem.W.Frag}{mg:Str->Option Y1}{base:Heap}
def iX:aJ ["many"] ["many"] (ao bW):=mkS
def rQ {cT bu} (fQ:D2 K mg cT bu) (B:Bs3 mg):aE P w K mg base bI 1 cT bu ["many"] (cY P w true sA):=by
 refine ng fQ.F iX (λds R R8=> by obtain⟨n,e,_⟩ := R8;subst e;rfl) λbQ A outer s H E hr=>{_,(ar (bh (Rr ["i","j","many"] [none,none,some 0] (by rfl) (by decide:(["i","j","many"]:List Str).Nodup) rfl (vY B.range (aa (az ag (bA.m aW) (ae (i:=0)) ah) (aa (ib du ah) (aa (ib du ah) af)))) (λ_ _ _ _ _ _=>(aw (i:=0) (by decide:(["i","j","many"]:List Str).Nodup))) (λ_ _ _ _ _ _=>cM) (λ_ _ _ _ _ _=>(vX B.range (aa (az aI aA (ae (i:=0)) ah) (aa (az aI aA (ae (i:=2)) ah) af)))) (λ_ _ _ _ _ _=>(aw (i:=1) (by decide:(["i","j","many"]:List Str).Nodup))) (λ_ _ _ _ _ _=>cM) (λ_ _ _ _ _ _=>(bX (aa (ae (i:=0)) (aa (ae (i:=1)) af))))))),λds R h=>?_}
 obtain⟨n,rfl,hn,q⟩:=h;refine{_,rfl,tv,_,rfl,tv,_,rfl,rfl,tv,_,rfl,rfl,tv,(n:Int)-1,-1,rfl,{by lia,by lia,by lia,by lia},tv,?_}
 have en:((n:Int)-1 - -1).toNat=n:=by lia
 rw[en];refine{λa β o=>a<=n/\(∃x0 x1,β=[x0,x1,some (.val false (.int n))])/\o=(((Zv n).take a).flatMap (e_ n)).map BI,{Zn _,{_,_,rfl},rfl},?_,?_}
 ·rintro a d β o hd ⟨ha,⟨x0,x1,rfl⟩,rfl⟩;obtain⟨C0,rfl⟩:=tG hd;have e1:(n:Int)-1-a=((n-1-a:Nat):Int):=by lia
  rw[e1];refine{_,rfl,tv,_,rfl,tv,_,rfl,tv,_,rfl,tv,((n-1-a:Nat):Int)+1,(n:Int)+1,rfl,{by lia,by lia,by lia,by lia},?_}
  have e2:((n:Int)+1-(((n-1-a:Nat):Int)+1)).toNat=a+1:=by lia
  rw[e2];refine{λb β o=>b<=a+1/\(∃x1,β=[some (.val true (.int ((n-1-a:Nat):Int))),x1,some (.val false (.int n))])/\o=(((Zv n).take a).flatMap (e_ n)++(e_ n a).take b).map BI,{Zn _,{_,rfl},by simp},?_,?_}
  ·rintro b d β o hd ⟨hb,⟨x1,rfl⟩,rfl⟩;obtain⟨gY,rfl⟩:=fX hd;refine{_,rfl,tv,_,rfl,tv,lK,tv,?_,gY,{_,rfl},?_}
   ·rw[Y3,Zk];exact Bi hn C0 gY
   ·rw[show ((n-1-a:Nat):Int)+1+(b:Int)=((n-a+b:Nat):Int) by lia,yV gY,<- Z8,Zl,Zl,Zl]
    rfl
  ·rintro β o ⟨_,⟨x1,rfl⟩,rfl⟩;refine{C0,{_,_,rfl},?_};rw[fW,Bu,ZS,aa1 C0,aaO];simp
 ·rintro β o ⟨_,⟨x0,x1,rfl⟩,rfl⟩;rw[tF,Z4 (by simp)]
  exact{(tv),tv,q}
def bO:aJ ["row","many","ties","partners","a","b"] ["row"] (ao dS):=mkS
def mq {cI bq} (eO:D3 K mg cI bq) (B:Bs3 mg):aE P w K mg base bI 1 cI bq ["row"] (cY P w true iG):=by
 refine ng eO.F bO (λds R R7=> by obtain⟨n,ps,e,_⟩ := R7;subst e;rfl) λbQ A outer s H E hr=>⟨_,(aj (rJ (ae (i:=0)) (c5 (n:=2) rfl (aM (aw (i:=1) bO.nd) (aM (aw (i:=2) bO.nd) b6))))
    (aj (pL (i:=3) true ["point"] [none] (by rfl) (by decide:(["point"]:List Str).Nodup) rfl (λ_=>(ck B.range (aa (ae (i:=1)) af))) (λ_ _ _ _ _ _=>(aw (i:=0) (by decide:(["point"]:List Str).Nodup))) (λ_ _ _ _ _ _=>cM) (λ_ _ _ _ _ _=>(aS af)) bO.nd)
    (aj (dI aab rfl (bt (ae (i:=2))) (c5 (n:=2) rfl (aM (aw (i:=4) bO.nd) (aM (aw (i:=5) bO.nd) b6))) (ar (lQ (i:=3) true (λ_=>(ae (i:=5))) (λ_=>(ae (i:=4))))))
    (ar (jS (i:=3)))))),λds R h=>?_⟩
 obtain⟨n,ps,rfl,ok,q⟩:=h;have hn:=ok.le;refine{_,rfl,_,rfl,rfl,_,_,rfl,_,_,rfl,rfl,_,rfl,tv,n,rfl,by lia,by lia,tv,?_}
 rw[abi];refine ip (λ_=>true) (λ_=>.lst []) tv (by rw[ZV];exact bG (by lia)) (λx hx x0 o J ho h1 _=>{Zn _,tv,ho,h1 rfl _}) ?_
 rw[bS];refine{_,rfl,_,rfl,tv,?_};refine{λm β=>∃x4 x5,β=[some (.val false (fN n ps)),some (.val true (.int n)),some (.val false (l0 ps)),some (.own (y_ n (ps.take m))),x4,x5],{_,_,rfl},?_,?_}
 ·rintro m d β hd ⟨x4,x5,rfl⟩;rw[Zg]at hd;obtain⟨p,hp,rfl⟩:=Zh.mp hd;obtain⟨h1,h2⟩:=ok.lt p (ZT hp);refine{_,rfl,rfl,_,_,rfl,_,_,rfl,rfl,{_,rfl},_,rfl,_,_,_,_,rfl,rfl,by rw[Y3,ZV];exact zJ rfl (show p.1<n by lia),bp (show p.1<n by lia),_,rfl,tv,rfl,?_,?_}
  ·unfold Q.dB;rw[Y3];have:=jL (ps:=ps.take m) (i:=p.1);rw[ZI]at this;have:=ok.sm;exact jD (by lia)
  ·refine{some (.val true (.int p.1)),some (.val true (.int p.2)),?_};have e:ps.take (m+1)=ps.take m++[(p.1,p.2)]:=by rw[ZS,hp];rfl
   rw[I_ (show p.1<n by lia),e]
   rfl
 ·rintro β ⟨x4,x5,rfl⟩;rw[Y3,aai];exact{_,rfl,q}
def mV:aJ ["worth","table","i","k","j"] ["worth","table","i","k","j"] (ao dW):=mkS
def xQ {d_ bU} (i7:D4 K mg d_ bU):aE P w K mg base bI 1 d_ bU ["worth","table","i","k","j"] (cY P w true nX):=by
 refine ng i7.F mV (λds R R6=> by obtain⟨n,ps,w,L,T,i,k,j,e,_⟩ := R6;subst e;rfl) λbQ A outer s H E hr=>{_,(ar (bh (az aI aA (az aI aA (aT ag (CC hr.gn) (ae (i:=0)) (bX (aa (ae (i:=2)) (aa (ae (i:=3)) af)))) (aT ag bx (aT ag bx (ae (i:=1)) (az aI aA (ae (i:=2)) ah)) (az ag (bA.m aW) (az ag (bA.m aW) (ae (i:=3)) (ae (i:=2))) ah))) (aT ag bx (aT ag bx (ae (i:=1)) (az aI aA (ae (i:=3)) ah)) (az ag (bA.m aW) (az ag (bA.m aW) (ae (i:=4)) (ae (i:=3))) ah))))),λds R h=>?_}
 obtain⟨n,ps,w,L,T,i,k,j,rfl,hm,h1,h2,h3,h4,h5,q⟩:=h;exact⟨_,rfl,tv,_,rfl,tv,_,rfl,tv,lK,_,wJ hm,tv,_,rfl,tv,_,rfl,tv,_,rfl,_,qk (i:=i+1) (by lia) (by lia),.inr ⟨tv,_,rfl,tv,_,rfl,_,rfl,tv,_,rfl,_,ql (l:=k-i-1) (by lia) h4,_,rfl,tv,
  _,rfl,tv,_,rfl,tv,_,rfl,_,qk (i:=k+1) (by lia) (by lia),.inr {tv,_,rfl,tv,_,rfl,_,rfl,tv,_,rfl,_,ql (l:=j-k-1) (by lia) h5,_,rfl,tv,q}⟩⟩
def gR:aJ ["partners","worth","table","i","j","numbers"] ["partners","worth","table","i","j"] (ao dw):=mkS
def tU {gk di} (lX:D5 K mg gk di) {d_ bU} (i7:D4 K mg d_ bU) (B:Bs3 mg):aE P w K mg base bI 2 gk di ["partners","worth","table","i","j"] (cY P w true jl):=by
 have Up:aE P w K mg base bI 1 _ _ _ (cY P w true nX):= xQ i7;refine ng lX.F gR (λds R R5=> by obtain⟨n,ps,w,L,T,i,j,e,_⟩ := R5;subst e;rfl) λbQ A outer s H E hr=>⟨_,(aj (pL (i:=5) false ["k","worth","table","i","j"] [none,some 1,some 2,some 3,some 4] (by rfl) (by decide:(["k","worth","table","i","j"]:List Str).Nodup) rfl (λ_=>(bt (aT ag bx (ae (i:=0)) (ae (i:=3))))) (λ_ _ _ _ _ _=>(aw (i:=0) (by decide:(["k","worth","table","i","j"]:List Str).Nodup))) (λ_ _ _ _ _ _=>(Bb (aL ag (bA.m fb) (ae (i:=0)) (ae (i:=4))))) (λ_ _ _ _ _ _=>(aN nX.mono Up (hr.mono (by decide)) i7.m i7.F.kp i7.b (aa (ae (i:=1)) (aa (ae (i:=2)) (aa (ae (i:=3)) (aa (ae (i:=0)) (aa (ae (i:=4)) af))))))) gR.nd)
    (ar (bh (a7 ag (bF.m (Ak rfl)) B.max xa (aa (az aI aA (ae (i:=5)) (aS (aa (aT ag bx (aT ag bx (ae (i:=2)) (az aI aA (ae (i:=3)) ah)) (az ag (bA.m aW) (az ag (bA.m aW) (ae (i:=4)) (ae (i:=3))) ah)) af))) af))))),λds R h=>?_⟩
 obtain⟨n,ps,w,L,T,i,j,rfl,ok,h1,h2,h3,q⟩:=h;have CL:=ok.sm;have hle:=ok.le;have hl:((gy ps i).filter λk=>decide (k<j)).length<=400:=ZX (aaT _ _) (ZX jL CL);refine{_,rfl,tv,_,rfl,_,Kk rfl (by lia),.inr {_,rfl,tv,?_}}
 refine ip (λk=>decide (k<j)) (λk=>.int (w (i,k)+T (k-i-1) (i+1)+T (j-k-1) (k+1))) tv (bG (ZX jL (by lia))) (λk hk x0 o J ho j1 j2=>?_) ?_
 ·have hm:=cF.mp hk;obtain⟨g1,g2⟩:=ok.lt _ hm;dsimp only at g1 g2;refine{_,rfl,tv,_,rfl,_,rfl,_,rfl,sf (λHD=>?_) (λHD=>j2 (by simp;lia) _)}
  have CU:k<j:=by lia
  have a1:=h3 (i+1) (by lia) (by lia)
  have a2:=h3 (k+1) (by lia) (by lia)
  exact{_,rfl,tv,_,rfl,tv,_,rfl,tv,_,rfl,tv,_,rfl,tv,n,ps,w,L,T,i,k,j,rfl,hm,g1,CU,h2,by lia,by lia,tv,ho,j1 (by simpa using CU) _}
 ·have a1:=h3 (i+1) (by lia) (by lia)
  refine{_,rfl,tv,_,rfl,tv,_,rfl,tv,_,rfl,_,qk (i:=i+1) (by lia) (by lia),.inr {tv,_,rfl,tv,_,rfl,_,rfl,tv,_,rfl,_,ql (l:=j-i-1) (by lia) (by lia),tv,vH,_,fk (by rw[Y3];show _+1<=_;lia),.inl {qw ll rfl,tv,_,Cq,tv,q}}}
def bo:aJ ["row","worth","many","partners","table","i","j"] ["row","worth"] (ao cC):=mkS
def Ca {l_ gT} (vp:D6 K mg l_ gT) {cI bq} (eO:D3 K mg cI bq) {cT bu} (fQ:D2 K mg cT bu) {gk di} (lX:D5 K mg gk di) {d_ bU} (i7:D4 K mg d_ bU) (B:Bs3 mg):aE P w K mg base bI 3 l_ gT ["row","worth"] (cY P w true nZ):=by
 have Ly:aE P w K mg base bI 1 _ _ _ (cY P w true iG):= mq eO B;have Pk:aE P w K mg base bI 1 _ _ _ (cY P w true sA):= rQ fQ B;have Uq:aE P w K mg base bI 2 _ _ _ (cY P w true jl):= tU lX i7 B;refine ng vp.F bo (λds R R4=> by obtain⟨n,ps,w,e,_⟩ := R4;subst e;rfl) λbQ A outer s H E hr=>⟨_,(aj (aU (i:=2) (aT ag bx (ae (i:=0)) ah) bo.nd)
    (aj (aU (i:=3) (aN iG.mono Ly (hr.mono (by decide)) eO.m eO.F.kp eO.b (aa (ae (i:=0)) af)) bo.nd)
    (aj (pL (i:=4) true ["i"] [none] (by rfl) (by decide:(["i"]:List Str).Nodup) rfl (λ_=>(ck B.range (aa (az aI aA (ae (i:=2)) ah) af))) (λ_ _ _ _ _ _=>(aw (i:=0) (by decide:(["i"]:List Str).Nodup))) (λ_ _ _ _ _ _=>cM) (λ_ _ _ _ _ _=>(aS (aa ah af))) bo.nd)
    (aj (dI aab rfl (bt (aN sA.mono Pk (hr.mono (by decide)) fQ.m fQ.F.kp fQ.b (aa (ae (i:=2)) af))) (c5 (n:=2) rfl (aM (aw (i:=5) bo.nd) (aM (aw (i:=6) bo.nd) b6))) (ar (lQ (i:=4) true (λ_=>(aN jl.mono Uq (hr.mono (by decide)) lX.m lX.F.kp lX.b (aa (ae (i:=3)) (aa (ae (i:=1)) (aa (ae (i:=4)) (aa (ae (i:=5)) (aa (ae (i:=6)) af))))))) (λ_=>(ae (i:=5))))))
    (ar (jS (i:=4))))))),λds R h=>?_⟩
 obtain⟨n,ps,w,rfl,ok,q⟩:=h;have hn:=ok.le;have hp:∀p∈ps,p.1<p.2:=λp hp=>(ok.lt p hp).1;refine{_,rfl,tv,_,rfl,_,rfl,tv,n,ps,rfl,ok,_,rfl,tv,_,rfl,tv,(n:Int)+1,rfl,by lia,by lia,tv,?_}
 rw[show ((n:Int)+1).toNat=n+1 by lia]
 refine ip (λ_=>true) (λ_=>.lst [.int 0]) tv (by rw[ZV];exact bG (by lia)) (λx hx x0 o J ho h1 _=>{tv,vH,tv,ho,h1 rfl _}) ?_
 rw[bS];refine{_,rfl,tv,n,rfl,hn,_,rfl,tv,?_};refine nQ (λidx β=>∃L x5 x6,β=[some (.val false (fN n ps)),some (.val false (wD ps w)),some (.val true (.int n)),some (.val true (y_ n ps)),some (.own (l3 n L (tW ps w))),x5,x6]/\vd n idx L) {λ_=>1,_,_,rfl,lW} (λE1 r1 idx n1 d β hd h=>?_) ?_
 ·obtain⟨L,x5,x6,rfl,dn⟩:=h;rw[Zg]at hd;obtain⟨p,vf,rfl⟩:=Zh.mp hd;obtain⟨a,b,ha,hb,rfl,hL,lU⟩:=n_ dn vf;have eL:l3 n L (tW ps w)=l3 n (c9 n a b) (tW ps w):=pG hL;have e0:c9 n a b (n-1-a)=b+1:=by unfold c9;rw[if_neg (by lia),if_pos rfl]
  rw[eL];refine⟨_,rfl,rfl,_,_,rfl,_,_,rfl,rfl,{_,rfl},_,rfl,_,_,_,_,rfl,rfl,by rw[Y3,ZV];exact zJ rfl (show n-1-a<n+1 by lia),bp (show n-1-a<n+1 by lia),
   _,rfl,tv,_,rfl,tv,_,rfl,tv,_,rfl,tv,_,rfl,tv,n,ps,w,c9 n a b,tW ps w,n-1-a,n-a+b,rfl,ok,by lia,by lia,λa' h1 h2=>by unfold c9;rw[if_pos h1];exact Y8 _,tv,rfl,?_,?_⟩
  ·rw[e0];unfold oP;rw[Y3,ZV];exact jD (by lia)
  ·refine n1 _ {c9 n a (b+1),some (.val true (.int ((n-1-a:Nat):Int))),some (.val true (.int ((n-a+b:Nat):Int))),?_,.inr {a,b+1,ha,by lia,λ_ _=>rfl,lU}}
   have ev:iZ ps w (tW ps w) (n-1-a) (n-a+b)=tW ps w (b+1) (n-1-a):=by rw[mh hp,show n-1-a+b+1=n-a+b by lia]
   rw[ev,e0,EG ha hb];rfl
 ·rintro β ⟨L,x5,x6,rfl,dn⟩;rw[Y3]at dn;have e:l3 n L (tW ps w)=iB n (tW ps w):=pG (qH dn);rw[e];exact{_,rfl,q}
end
section
variable {P:Y7}{w:Zj}{K:PySem.W.Frag}{mg:Str->Option Y1}{base:Heap}
def oT:aJ ["i","k","j"] ["i","k","j"] (ao eJ):=mkS
def B9 {kg fG} (vm:D7 K mg kg fG):aE P w K mg base bI 1 kg fG ["i","k","j"] (cY P w true nV):=by
 refine ng vm.F oT (λds R R1=> by obtain⟨i,k,j,e,_⟩ := R1;subst e;rfl) λbQ A outer s H E hr=>⟨_,(dZ (b7 (aL ag (bA.m xP) (ae (i:=1)) kP) (ar (bh (aS (aa (bX (aa (az aI aA (ae (i:=0)) ah) (aa (ae (i:=2)) af))) af)))) bc)
    (ar (bh (aS (aa (bX (aa (az aI aA (ae (i:=0)) ah) (aa (ae (i:=1)) af))) (aa (bX (aa (az aI aA (ae (i:=1)) ah) (aa (ae (i:=2)) af))) af)))))),λds R h=>?_⟩
 obtain⟨i,k,j,rfl,q⟩:=h;cases k with
 |none=>exact{λ_=>False,{_,rfl,tv,_,rfl,_,rfl,wC rfl {_,rfl,tv,_,rfl,tv,_,rfl,tv,lK,tv,vH,tv,q}},λ_ z=>z.elim}
 |some k =>
  refine{λβ=>β=[some (.val false (.int i)),some (.val false (.int k)),some (.val false (.int j))],{_,rfl,tv,_,rfl,_,rfl,fR rfl rfl},?_};rintro β rfl;exact{_,rfl,tv,_,rfl,tv,_,rfl,tv,lK,tv,_,rfl,tv,_,rfl,tv,_,rfl,tv,lK,tv,lK,tv,q}
def eg:aJ ["partners","worth","table","i","j","best","choices"] ["partners","worth","table","i","j"] (ao dy):=mkS
def FI {ki fJ} (vq:D8 K mg ki fJ) {d_ bU} (i7:D4 K mg d_ bU) (B:Bs3 mg):aE P w K mg base bI 2 ki fJ ["partners","worth","table","i","j"] (cY P w true uN):=by
 have Up:aE P w K mg base bI 1 _ _ _ (cY P w true nX):= xQ i7;refine ng vq.F eg (λds R RZ=> by obtain⟨n,ps,w,T,i,j,e,_⟩ := RZ;subst e;rfl) λbQ A outer s H E hr=>⟨_,(aj (aU (i:=5) (aT ag bx (aT ag bx (ae (i:=2)) (ae (i:=3))) (az ag (bA.m aW) (ae (i:=4)) (ae (i:=3)))) eg.nd)
    (aj (pL (i:=6) true ["k","j","best","worth","table","i"] [none,some 4,some 5,some 1,some 2,some 3] (by rfl) (by decide:(["k","j","best","worth","table","i"]:List Str).Nodup) rfl (λ_=>(bt (aT ag bx (ae (i:=0)) (ae (i:=3))))) (λ_ _ _ _ _ _=>(aw (i:=0) (by decide:(["k","j","best","worth","table","i"]:List Str).Nodup))) (λ_ _ _ _ _ _=>(Bb (vt.t (jM (aL ag (bA.m fb) (ae (i:=0)) (ae (i:=1))) (ia (aL ag (bA.m (cu hr.units)) (aN nX.mono Up (hr.mono (by decide)) i7.m i7.F.kp i7.b (aa (ae (i:=3)) (aa (ae (i:=4)) (aa (ae (i:=5)) (aa (ae (i:=0)) (aa (ae (i:=1)) af)))))) (ae (i:=2)))))))) (λ_ _ _ _ _ _=>(ae (i:=0))) eg.nd)
    (dZ (b7 (aL ag (bA.m (cu hr.units)) (aT ag bx (aT ag bx (ae (i:=2)) (az aI aA (ae (i:=3)) ah)) (az ag (bA.m aW) (az ag (bA.m aW) (ae (i:=4)) (ae (i:=3))) ah)) (ae (i:=5))) (ar (iQ (i:=6) (λ_=>kP))) bc)
    (ar (jS (i:=6)))))),λds R h=>?_⟩
 obtain⟨n,ps,w,T,i,j,rfl,ok,h1,h2,q⟩:=h;have CL:=ok.sm;have hle:=ok.le;refine{_,rfl,tv,_,rfl,_,qk rfl (by lia),.inr {tv,_,rfl,tv,_,rfl,_,rfl,_,ql (l:=j-i) (by lia) (by lia),?_}}
 refine{_,rfl,tv,_,rfl,_,Kk rfl (by lia),.inr {_,rfl,tv,?_}}
 refine ip (λk=>decide (k<j)&&decide (w (i,k)+T (k-i-1) (i+1)+T (j-k-1) (k+1)=T (j-i) i)) (λk=>.int (k:Int)) tv (bG (ZX jL (by lia))) (λk hk x0 o J ho j1 j2=>?_) ?_
 ·have hm:=cF.mp hk;obtain⟨g1,g2⟩:=ok.lt _ hm;dsimp only at g1 g2;refine{_,rfl,tv,_,rfl,_,rfl,_,rfl,sf (λHD=>?_) (λHD=>fR rfl (j2 ?_ _))}
  ·have CU:k<j:=by lia
   refine{_,rfl,tv,_,rfl,tv,_,rfl,tv,_,rfl,tv,_,rfl,tv,n,ps,w,(λi=>n+1-i),T,i,k,j,rfl,hm,g1,CU,h2,by show _<n+1-(i+1);lia,by show _<n+1-(k+1);lia,tv,_,rfl,_,bf _ _,_,rfl,sf (λe=>?_) (λe=>j2 ?_ _)}
   ·exact{_,rfl,tv,ho,j1 (by rw[ZW,decide_eq_true_eq,decide_eq_true_eq];exact{(CU),e}) _}
   ·rw[Bool.and_eq_false_iff];exact .inr (decide_eq_false e)
  ·rw[Bool.and_eq_false_iff];exact .inl (decide_eq_false (by lia))
 ·have eb:gV ps w T i j=((gy ps i).filter λk=>decide (k<j)&&decide (w (i,k)+T (k-i-1) (i+1)+T (j-k-1) (k+1)=T (j-i) i)).map some++(if T (j-i-1) (i+1)=T (j-i) i then [none] else []):=rfl
  have em:(((gy ps i).filter λk=>decide (k<j)&&decide (w (i,k)+T (k-i-1) (i+1)+T (j-k-1) (k+1)=T (j-i) i)).map λ(k:Nat)=>D.int (k:Int))=(((gy ps i).filter λk=>decide (k<j)&&decide (w (i,k)+T (k-i-1) (i+1)+T (j-k-1) (k+1)=T (j-i) i)).map some).map oD:=by rw[Z7];rfl
  have hl:(((gy ps i).filter λk=>decide (k<j)&&decide (w (i,k)+T (k-i-1) (i+1)+T (j-k-1) (k+1)=T (j-i) i)).map some).length<=400:=by rw[Y3];exact ZX (aaT _ _) (ZX jL CL)
  rw[em];generalize ((gy ps i).filter λk=>decide (k<j)&&decide (w (i,k)+T (k-i-1) (i+1)+T (j-k-1) (k+1)=T (j-i) i)).map some=cs at eb hl ⊢
  refine{λβ=>β[6]?=some (some (.own (.lst ((gV ps w T i j).map oD)))),?_,λβ hβ=>{_,hβ,q}};refine{_,rfl,tv,_,rfl,tv,_,rfl,_,qk (i:=i+1) (by lia) (by lia),.inr {tv,_,rfl,tv,_,rfl,_,rfl,tv,_,rfl,_,ql (l:=j-i-1) (by lia) (by lia),tv,_,rfl,_,bf _ _,_,rfl,sf (λe=>?_) (λe=>?_)}}
  ·rw[if_pos e]at eb;refine{{_,rfl},tv,_,rfl,by rw[Y3];exact jD (by lia),?_}
   rw[eb,Zl];rfl
  ·rw[if_neg e,aar]at eb;rw[eb];rfl
def bg:aJ ["row","worth","table","i","j","partners","found","waiting","low","high","k"] ["row","worth","table","i","j"] (ao cD):=mkS
def FF {md gU} (yr:D9 K mg md gU) {cI bq} (eO:D3 K mg cI bq) {ki fJ} (vq:D8 K mg ki fJ) {d_ bU} (i7:D4 K mg d_ bU) {kg fG} (vm:D7 K mg kg fG) (B:Bs3 mg):aE P w K mg base bI 3 md gU ["row","worth","table","i","j"] (cY P w true uL):=by
 have Ly:aE P w K mg base bI 1 _ _ _ (cY P w true iG):= mq eO B;have Yj:aE P w K mg base bI 2 _ _ _ (cY P w true uN):= FI vq i7 B;have X6:aE P w K mg base bI 1 _ _ _ (cY P w true nV):= B9 vm;refine ng yr.F bg (λds R RY=> by obtain⟨n,ps,w,i,j,e,_⟩ := RY;subst e;rfl) λbQ A outer s H E hr=>⟨_,(aj (aU (i:=5) (aN iG.mono Ly (hr.mono (by decide)) eO.m eO.F.kp eO.b (aa (ae (i:=0)) af)) bg.nd)
    (aj (gA (i:=6) (λ_=>(aS af)) bg.nd)
    (aj (gA (i:=7) (λ_=>(aS (aa (bX (aa (ae (i:=3)) (aa (ae (i:=4)) af))) af))) bg.nd)
    (aj (BR aab (EV (ae (i:=7))) (aj (rJ (Jk (i:=7)) (c5 (n:=2) rfl (aM (aw (i:=8) bg.nd) (aM (aw (i:=9) bg.nd) b6))))
    (ar (b7 (aL ag (bA.m fb) (ae (i:=8)) (ae (i:=9))) (aj (aU (i:=10) (aT ag bx (aN uN.mono Yj (hr.mono (by decide)) vq.m vq.F.kp vq.b (aa (ae (i:=5)) (aa (ae (i:=1)) (aa (ae (i:=2)) (aa (ae (i:=8)) (aa (ae (i:=9)) af)))))) ah) bg.nd)
    (dZ (b7 (aL ag (bA.m B0) (ae (i:=10)) kP) (ar (iQ (i:=6) (λ_=>(bX (aa (ae (i:=8)) (aa (ae (i:=10)) af)))))) bc)
    (ar (zi (i:=7) (EY (aN nV.mono X6 (hr.mono (by decide)) vm.m vm.F.kp vm.b (aa (ae (i:=8)) (aa (ae (i:=10)) (aa (ae (i:=9)) af))))))))) bc))))
    (ar (jS (i:=6))))))),λds R h=>?_⟩
 obtain⟨n,ps,w,i,j,rfl,ok,h1,h2,q⟩:=h;have hn:=ok.le;have hp:∀p∈ps,p.1<p.2:=λp hp=>(ok.lt p hp).1;have YN:(gh ps w i j).length<=40:=by have:=nP (w:=w) hp (j-i) i j (Y8 _);lia
 refine{_,rfl,tv,n,ps,rfl,ok,Zn _,tv,_,rfl,tv,_,rfl,tv,lK,tv,vH,tv,?_};refine VU (IB (λm β=>∃(ws:List (Nat×Nat)) (fs:List (Nat×Nat)) (x8 x9 Ma:Option Q.B),β=[some (.val false (fN n ps)),some (.val false (wD ps w)),some (.val false (iB n (tW ps w))),some (.val false (.int i)),some (.val false (.int j)),some (.val true (y_ n ps)),some (.own (l0 fs)),some (.own (.lst (ws.map BI))),x8,x9,Ma]/\(∀p∈ws,p.2<=n)/\xj ws=m/\m<=200/\fs++(ws.reverse.flatMap λp=>gh ps w p.1 p.2)=gh ps w i j) {_,[(i,j)],[],_,_,_,rfl,λp hp=>by rw[Zc.mp hp];exact h2,rfl,by show 2*(j-i)+1+0<=200;lia,by simp} λE1 Q1 q1 m n1 β hv=>?_)
 obtain⟨ws,fs,x8,x9,Ma,rfl,hw,hm,hl,hf⟩:=hv;rcases List.eq_nil_or_concat ws with rfl|⟨vz,⟨l,h⟩,rfl⟩
 ·refine{_,rfl,_,rfl,fR rfl ?_};have hf:fs=gh ps w i j:=by simpa using hf
  rw[<- hf]at q;exact q1 _ {_,rfl,q}
 ·rw[List.concat_eq_append]at hw hm hf ⊢
  rw[qU]at hm;have P0:vz.length<=xj vz:=by
   unfold xj
   clear hw hm hf
   induction vz with
   |nil=>exact Y8 _
   |cons a l ih=>rw[ZE,List.sum_cons,Zb];lia
  have hm:xj vz+(2*(h-l)+1)=m:=hm;have hh:h<=n:=hw (l,h) (by simp)
  rw[ab_,List.reverse_singleton,List.singleton_append,acu]at hf;refine{_,rfl,_,rfl,wC (by rw[Zl];cases vz <;> rfl) ?_}
  rw[Zl];refine{vz.map BI,BI (l,h),rfl,_,rfl,rfl,_,_,rfl,_,_,rfl,rfl,?_};refine{_,rfl,tv,_,rfl,_,rfl,_,rfl,sf (λHC=>?_) (λHC=>?_)}
  ·have HC:l<h:=by lia
   have vg:=u3 (w:=w) hp HC;have Vr:=wL (w:=w) hp HC;have nO:=eT (dN (w:=w) hp HC);have Gn:dC ps w l h=(gV ps w (tW ps w) l h).headD none:=rfl;cases hb:gV ps w (tW ps w) l h with
   |nil=>exact absurd hb vg
   |cons c cs =>
    rw[hb]at Gn;have Gn:dC ps w l h=c:=Gn;rw[Gn]at Vr nO;rw[Vr]at hf;have fin:∀(P9:List (Nat×Nat)) (Ma:Option Q.B),P9=fs++uz l c->E1.nx [some (Q.B.val false (fN n ps)),some (.val false (wD ps w)),some (.val false (iB n (tW ps w))),some (.val false (.int i)),some (.val false (.int j)),some (.val true (y_ n ps)),some (.own (l0 P9)),some (.own (.lst (vz.map BI++(parts l c h).reverse.map BI))),some (.val true (.int l)),some (.val true (.int h)),Ma]:=λP9 Ma e=>by
     have YE:xj (parts l c h).reverse<2*(h-l)+1:=by
      rw[Er];cases c with
      |none=>show 2*(h-(l+1))+1+0<_;lia
      |some k =>
       have:=hp _ nO.1;dsimp only at this;have h3:=nO.2.1;show 2*(k-(l+1))+1+(2*(h-(k+1))+1+0)<_;lia
     refine n1 (xj (vz++(parts l c h).reverse)) _ (by rw[qU];lia) {vz++(parts l c h).reverse,P9,_,_,_,by rw[Zl],λp vf=>?_,rfl,by rw[qU];lia,?_}
     ·rcases Zt.mp vf with z|z
      ·exact hw p (by simp[z])
      ·have z:=List.mem_reverse.mp z;cases c with
       |none=>rw[Zc.mp z];exact hh
       |some k =>
        have h3:=nO.2.1;rcases Y6.mp z with rfl|z
        ·show k<=n;lia
        ·rw[Zc.mp z];exact hh
     ·rw[<- hf,e,ab_,List.reverse_reverse,aaO];simp only[Z8]
    refine{_,rfl,tv,_,rfl,tv,_,rfl,tv,_,rfl,tv,_,rfl,tv,n,ps,w,tW ps w,l,h,rfl,ok,HC,hh,tv,oD c,qm (i:=0) rfl (by rw[hb];rfl),?_}
    cases c with
    |none =>
     refine{λβ=>β=[some (Q.B.val false (fN n ps)),some (.val false (wD ps w)),some (.val false (iB n (tW ps w))),some (.val false (.int i)),some (.val false (.int j)),some (.val true (y_ n ps)),some (.own (l0 fs)),some (.own (.lst (vz.map BI))),some (.val true (.int l)),some (.val true (.int h)),some (.val true .cN)],{_,rfl,tv,_,rfl,_,rfl,fR rfl rfl},?_};rintro β rfl;exact{{_,rfl},_,rfl,tv,_,rfl,tv,_,rfl,tv,l,none,h,rfl,_,rfl,.inl {rfl,_,_,rfl,rfl,rfl,by rw[Y3];exact bG (show vz.length+1<=1000 by lia),fin fs _ (by simp[uz])}}
    |some k =>
     refine{λβ=>β=[some (Q.B.val false (fN n ps)),some (.val false (wD ps w)),some (.val false (iB n (tW ps w))),some (.val false (.int i)),some (.val false (.int j)),some (.val true (y_ n ps)),some (.own (l0 (fs++[(l,k)]))),some (.own (.lst (vz.map BI))),some (.val true (.int l)),some (.val true (.int h)),some (.val true (.int k))],{_,rfl,tv,_,rfl,_,rfl,wC rfl {{_,rfl},_,rfl,tv,_,rfl,tv,lK,tv,_,rfl,?_,?_}},?_}
     ·rw[Y3];have:=congrArg acs hf;rw[Zk]at this;exact jD (by lia)
     ·unfold l0;rw[Zl];rfl
     ·rintro β rfl;exact{{_,rfl},_,rfl,tv,_,rfl,tv,_,rfl,tv,l,some k,h,rfl,_,rfl,.inl {rfl,_,_,rfl,rfl,rfl,by rw[Y3];exact bG (show vz.length+2<=1000 by lia),fin (fs++[(l,k)]) _ rfl}}
  ·have HC:¬ l<h:=by lia
   rw[fg HC]at hf;exact n1 (xj vz) _ (by lia) {vz,fs,_,_,_,rfl,λp vf=>hw p (by simp[vf]),rfl,by lia,by simpa using hf}
end
end hJ
namespace L2.Q
open PySem L2
theorem j9 {ps:List (Nat×Nat)}{w:Nat×Nat->Int}(hp:∀p∈ps,p.1<p.2):∀(l i j:Nat),j-i<=l->∀p∈gh ps w i j,p∈ps
 |0,i,j,h,p,hm=>by rw[fg (by lia)]at hm;cases hm
 |l+1,i,j,h,p,hm=>by
  by_cases aD:i<j
  ·rw[iU hp aD]at hm;have hb:=eT (dN (w:=w) hp aD);cases q:dC ps w i j with
   |none =>
    rw[q]at hm;exact j9 hp l (i+1) j (by lia) p hm
   |some k =>
    rw[q]at hm hb;have Gk:=hp _ hb.1;have HD:=hb.2.1;dsimp only at Gk hm;rcases Y6.mp hm with rfl|hm
    ·exact hb.1
    ·rcases Zt.mp hm with hm|hm
     ·exact j9 hp l (i+1) k (by lia) p hm
     ·exact j9 hp l (k+1) j (by lia) p hm
  ·rw[fg aD]at hm;cases hm
def wh (n:Nat)(ps:List (Nat×Nat))(ws:List Int)(p:Nat×Nat):Int:=wf ps ws p*((n:Int)+1)-1
def NG (n:Nat)(ps:List (Nat×Nat))(ws:List Int):List (Nat×Nat):=gh ps (wh n ps ws) 0 n
def wO:FD:=λds R=>∃(n:Nat) (ps:List (Nat×Nat)) (ws:List Int),ds=[fN n ps,b8 ws]/\vx n ps/\n<=40/\ws.length=ps.length/\(∀x∈ws,x.natAbs<2 ^ 199)/\R (.tup [.int ((NG n ps ws).map (wf ps ws)).sum,l0 (NG n ps ws)])
def wO.mono:dq wO:=λds R R' k ⟨n,ps,ws,e,h1,h2,h3,h4,q⟩=>{n,ps,ws,e,h1,h2,h3,h4,k _ q}
def Im {n:Nat}{ps:List (Nat×Nat)}{ws:List Int}(nd:ps.Nodup)(hl:ws.length=ps.length):(ps.zip ws).map (λq=>(tI q.1,D.int (q.2*((n:Int)+1)-1)))=ps.map λp=>(tI p,D.int (wh n ps ws p)):=by
 have e:(ps.zip ws).map (λq=>(tI q.1,D.int (q.2*((n:Int)+1)-1)))=(ps.zip ws).map λq=>(tI q.1,D.int (wh n ps ws q.1)):=ZU λq hq=>by
  unfold wh;rw[A5 nd hq]
 rw[e];have e2:(ps.zip ws).map (λq=>(tI q.1,D.int (wh n ps ws q.1)))=((ps.zip ws).map (·.1)).map λp=>(tI p,D.int (wh n ps ws p)):=by rw[Z7];rfl
 rw[e2,List.map_fst_zip (by lia)]
def Ig (ws:List Int):Prop:=∀x∈ws,x.natAbs<2 ^ 190
def Ig.app {a b:List Int}(h:Ig a)(k:Ig b):Ig (a++b):=λx hx=>(Zt.mp hx).elim (h x) (k x)
def uH:FD:=λds R=>∃m:Nat,ds=[.int (m:Int)]/\m<=300/\∀ws:List Int,ws.length=m->Ig ws->R (b8 ws)
def uH.mono:dq uH:=λds R R' k ⟨m,e,h,q⟩=>{m,e,h,λws h s=>k _ (q ws h s)}
def uk {l:List Int}{r:Int}(h0:0<=r)(h1:r<l.length):∃x,x∈l/\vn (.lst (l.map D.int)) (.int r)=some (.int x):=by
 obtain⟨n,rfl⟩:=acD h0;have hn:n<l.length:=by lia
 exact{l[n],aaD hn,qm rfl (by rw[Zg,Y5 hn];rfl)}
section
variable {ps:List (Nat×Nat)}(hp:∀p∈ps,p.1<p.2)
include hp
theorem iT:∀(l i j:Nat),j-i<=l->((gh ps w1 i j).length:Int)=mX ps i j
 |0,i,j,h=>by rw[fg (by lia),xW (by lia)];rfl
 |l+1,i,j,h=>by
  by_cases aD:i<j
  ·rw[iU hp aD];have hm:=eT (dN (w:=w1) hp aD);cases q:dC ps w1 i j with
   |none =>
    rw[q]at hm;dsimp only;rw[iT l (i+1) j (by lia)]
    unfold mX;rw[show j-(i+1)=j-i-1 by lia]
    exact hm
   |some k =>
    rw[q]at hm;obtain⟨h1,h2,h3⟩:=hm;have Gk:=hp _ h1;dsimp only at Gk ⊢
    rw[Zb,Zk];have e1:=iT l (i+1) k (by lia)
    have e2:=iT l (k+1) j (by lia)
    unfold mX at e1 e2 ⊢
    rw[show k-(i+1)=k-i-1 by lia]at e1
    rw[show j-(k+1)=j-k-1 by lia]at e2
    rw[<- h3,<- e1,<- e2];show _=(1:Int)+_+_;lia
  ·rw[fg aD,xW (by lia)];rfl
theorem Gr {i j:Nat}:((gh ps w1 i j).length:Int)=mX ps i j:=iT hp (j-i) i j (Y8 _)
end
section
variable {ps:List (Nat×Nat)}
variable (hp:∀p∈ps,p.1<p.2)
include hp
end
abbrev NN:=Nat×Nat
def VG (p q:NN):Prop:=p.1<q.1/\(p.2<q.1\/q.2<p.2)
structure i9 (ps:List NN)(i j:Nat)(S:List NN):Prop where
 pw:S.Pairwise VG
 of:∀p∈S,p∈ps/\i<=p.1/\p.2<j
section
variable {ps:List NN}(hp:∀p∈ps,p.1<p.2){i j:Nat}{S A B:List NN}
def i9.nil:i9 ps i j []:={List.Pairwise.nil,λ_ z=>nomatch z}
include hp in
theorem jE (h:¬ i<j)(s:i9 ps i j S):S=[]:=by
 cases S with
 |nil=>rfl
 |cons p S=>obtain⟨h1,h2,h3⟩:=s.of p ZK;have:=hp p h1;lia
theorem yu {k:Nat}:∀{T:List NN},T.Pairwise VG->(∀q∈T,q.1<q.2/\(q.2<k\/k<q.1))->T=T.filter (λq=>decide (q.2<k))++T.filter (λq=>decide (k<q.1))
 |[],_,_=>rfl
 |q::T,hw,h=>by
  obtain⟨w1,w2⟩:=aan.mp hw;obtain⟨a1,a2⟩:=h q ZK;have ih:=yu w2 λx hx=>h x (Zu _ hx);rcases a2 with a2|a2
  ·rw[aaE,aaE,if_pos (decide_eq_true a2),if_neg (by rw[decide_eq_true_eq];lia),aa4,<- ih]
  ·have e1:(q::T).filter (λq=>decide (q.2<k))=[]:=by
    rw[List.filter_eq_nil_iff];intro x hx;rw[decide_eq_true_eq];rcases Y6.mp hx with rfl|hx
    ·lia
    ·have:=(w1 x hx).1;have:=(h x (Zu _ hx)).1;lia
   have e2:(q::T).filter (λq=>decide (k<q.1))=q::T:=by
    rw[List.filter_eq_self];intro x hx;rw[decide_eq_true_eq];rcases Y6.mp hx with rfl|hx
    ·lia
    ·have:=(w1 x hx).1;lia
   rw[e1,e2,List.nil_append]
include hp in
theorem kB (h:i<j):i9 ps i j S↔i9 ps (i+1) j S\/∃k A B,(i,k)∈ps/\k<j/\S=(i,k)::(A++B)/\i9 ps (i+1) k A/\i9 ps (k+1) j B:=by
 constructor
 ·intro s;cases S with
  |nil=>exact .inl .nil
  |cons p T =>
   obtain⟨w1,w2⟩:=aan.mp s.pw;obtain⟨h1,h2,h3⟩:=s.of p ZK;have ot:∀q∈T,q∈ps/\i<=q.1/\q.2<j:=λq hq=>s.of q (Zu _ hq)
   by_cases e:p.1=i
   ·right
    obtain⟨a,k⟩:=p;dsimp only at e h2 h3;subst e;refine{k,T.filter (λq=>decide (q.2<k)),T.filter (λq=>decide (k<q.1)),h1,h3,?_,{w2.filter _,λq hq=>?_},{w2.filter _,λq hq=>?_}}
    ·rw[<- yu w2 λq hq=>{hp q (ot q hq).1,(w1 q hq).2.symm}]
    ·obtain⟨g1,g2⟩:=aap.mp hq;have:=(w1 q g1).1;dsimp only at this;exact{(ot q g1).1,by lia,of_decide_eq_true g2}
    ·obtain⟨g1,g2⟩:=aap.mp hq;exact{(ot q g1).1,of_decide_eq_true g2,(ot q g1).2.2}
   ·left
    refine{s.pw,λq hq=>?_};rcases Y6.mp hq with rfl|hq
    ·exact{h1,by lia,h3}
    ·have:=(w1 q hq).1;exact{(ot q hq).1,by lia,(ot q hq).2.2}
 ·rintro (s|⟨k,A,B,h1,h2,rfl,a,b⟩)
  ·exact{s.pw,λp hp=>let ⟨a,b,c⟩:=s.of p hp;{a,by lia,c}}
  ·have hk:=hp _ h1;dsimp only at hk;refine{aan.mpr {λq hq=>?_,List.pairwise_append.mpr {a.pw,b.pw,λx hx y hy=>?_}},λq hq=>?_}
   ·rcases Zt.mp hq with z|z
    ·obtain⟨g1,g2,g3⟩:=a.of q z;exact{by dsimp only;lia,.inr g3}
    ·obtain⟨g1,g2,g3⟩:=b.of q z;exact{by dsimp only;lia,.inl g2}
   ·obtain⟨g1,g2,g3⟩:=a.of x hx;obtain⟨f1,f2,f3⟩:=b.of y hy;have:=hp x g1;exact{by lia,.inl (by lia)}
   ·rcases Y6.mp hq with rfl|hq
    ·exact{h1,Y8 _,h2}
    ·rcases Zt.mp hq with z|z
     ·obtain⟨g1,g2,g3⟩:=a.of q z;exact{g1,by lia,by lia}
     ·obtain⟨g1,g2,g3⟩:=b.of q z;exact{g1,by lia,g3}
include hp in
theorem IM:∀(l i j:Nat) (S:List NN),j-i<=l->i9 ps i j S->(S.length:Int)<=mX ps i j:=by
 intro l
 induction l with
 |zero=>intro i j S hl s;rw[jE hp (by lia) s];exact Hv hp
 |succ l ih =>
  intro i j S hl s
  by_cases h:i<j
  ·rcases (kB hp h).mp s with s|⟨k,A,B,h1,h2,rfl,a,b⟩
   ·exact Int.le_trans (ih (i+1) j S (by lia) s) (FV hp h)
   ·have hk:=hp _ h1;dsimp only at hk;have g1:=ih (i+1) k A (by lia) a
    have g2:=ih (k+1) j B (by lia) b
    have g3:=J1 hp h1 h2;rw[Zb,Zk];lia
  ·rw[jE hp h s];exact Hv hp
end
open AI
section
theorem xY:∀{a b c d:List (List Int)},a.length=c.length->i4 (a++b) (c++d)=if a=c then i4 b d else i4 a c
 |[],b,[],d,_=>by rw[if_pos rfl];rfl
 |x::a,b,y::c,d,h=>by
  rw[aa4,aa4,d7,xY (by simpa using h),d7]
  by_cases e:x=y
  ·subst e;rw[if_pos rfl,if_pos rfl]
   by_cases e2:a=c
   ·subst e2;rw[if_pos rfl,if_pos rfl]
   ·rw[if_neg e2,if_neg (λz=>e2 (List.cons.inj z).2)]
  ·rw[if_neg e,if_neg e,if_neg λz=>e (List.cons.inj z).1]
end
open PySem.Spec PySem.SeqAt PyProof.Rows
def o9 (L:Nat)(T:Nat->D):List D:=(Zv L).map T
def oO (n:Nat)(L:Nat->Nat)(T:Nat->Nat->D):D:=.lst ((Zv (n+1)).map λi=>.lst (o9 (L i) λl=>T l i))
def Bo {n a b:Nat}{T:Nat->Nat->D}(ha:a<n)(hb:b<=a):
  ((Zv (n+1)).map λi=>D.lst (o9 (c9 n a b i) λl=>T l i)).set (n-1-a) (.lst (o9 (b+1) (λl=>T l (n-1-a))++[T (b+1) (n-1-a)]))=(Zv (n+1)).map λi=>D.lst (o9 (c9 n a (b+1) i) λl=>T l i):=by
 rw[q_ (by lia)]
 refine ZU λi _=>?_;unfold c9
 by_cases e:i=n-1-a
 ·rw[if_pos e,e,if_neg (by lia),if_pos rfl]
  unfold o9;rw[List.range_succ (n:=b+1),Zl];rfl
 ·rw[if_neg e,if_neg e,if_neg e]
def mQ {n:Nat}{L L':Nat->Nat}{T:Nat->Nat->D}(h:∀i,i<=n->L i=L' i):oO n L T=oO n L' T:=by
 unfold oO
 congr 1
 refine ZU λi hi=>?_;rw[h i (by have:=aae.mp hi;lia)]
def cH {l:List Int}:D.cK (l.map D.int)=true:=by
 have:=ll (f:=id) (l:=l);exact this
end L2.Q
namespace hJ
open PySem L2 L2.Q
section
variable {P:Y7}{w:Zj}{K:PySem.W.Frag}{mg:Str->Option Y1}{base:Heap}
def a6:aJ ["deck","many","way","found","k","far","some","own"] ["deck","many"] (ao dX):=mkS
def JD {Gw yf} (LX:VN K mg Gw yf) {OP Dc} (dT:D1 K mg OP Dc) (B:Bs3 mg):aE P w K mg base bI 2 Gw yf ["deck","many"] (oQ P w pY true uH):=by
 have GT:aE P w K mg base bI 1 _ _ _ (oQ P w pY true bw):=rP dT.F;refine M0 LX.F a6 (λds R RX=> by obtain⟨m,e,_⟩ := RX;subst e;rfl) λbQ A outer s H E IO hr=>⟨_,(aj (aU (i:=2) (aV (ih:=0) bw.mono GT (hr.mono (by decide)) dT.m dT.F.kp dT.b (aa ah af)) a6.nd)
    (aj (gA (i:=3) (λ_=>(aS af)) a6.nd)
    (aj (dI aab rfl (ck B.range (aa (ae (i:=1)) af)) (aw (i:=4) a6.nd) (aj (aU (i:=5) (az ag (bA.m jW) (aV (ih:=0) bw.mono GT (hr.mono (by decide)) dT.m dT.F.kp dT.b (aa ah af)) (az ag (bA.m Fy) (az ag (bA.m xN) ah ah) ah)) a6.nd)
    (aj (aU (i:=6) (aS (aa ah (aa (az ag (bA.m aW) (aV (ih:=0) bw.mono GT (hr.mono (by decide)) dT.m dT.F.kp dT.b (aa ah af)) ah) (aa (aV (ih:=0) bw.mono GT (hr.mono (by decide)) dT.m dT.F.kp dT.b (aa ah af)) (aa (ae (i:=5)) (aa (az ag (bA.m aW) ah (ae (i:=5))) af)))))) a6.nd)
    (aj (gA (i:=6) (λ_=>(az aI aA (ae (i:=6)) (aS (aa (az ag (bA.m aW) (ib du ah) (aV (ih:=0) bw.mono GT (hr.mono (by decide)) dT.m dT.F.kp dT.b (aa ah af))) (aa (aT ag bx (aS (aa ah (aa ah (aa ah (aa (ib du ah) af))))) (az ag (bA.m xO) (ae (i:=4)) ah)) af))))) a6.nd)
    (dZ (b7 (aL ag (bA.m (cu hr.units)) (ae (i:=2)) ah) (ar (aU (i:=2) (az aI aA ah (aV (ih:=0) bw.mono GT (hr.mono (by decide)) dT.m dT.F.kp dT.b (aa ah af))) a6.nd)) bc)
    (dZ (b7 (aL ag (bA.m (cu hr.units)) (ae (i:=2)) ah) (aj (aU (i:=7) (az ag (bA.m Fx) (aV (ih:=0) bw.mono GT (hr.mono (by decide)) dT.m dT.F.kp dT.b (aa ah af)) (az ag (bA.m jW) ah (aV (ih:=0) bw.mono GT (hr.mono (by decide)) dT.m dT.F.kp dT.b (aa ah af)))) a6.nd)
    (aj (aU (i:=7) (az aI aA (ae (i:=7)) (aV (ih:=0) bw.mono GT (hr.mono (by decide)) dT.m dT.F.kp dT.b (aa ah af))) a6.nd)
    (ar (iQ (i:=6) (λ_=>(az ag (bA.m jW) (ae (i:=7)) (aT ag bx (aS (aa ah (aa (ib du ah) af))) (aV (ih:=0) bw.mono GT (hr.mono (by decide)) dT.m dT.F.kp dT.b (aa ah af))))))))) bc)
    (ar (iQ (i:=3) (λ_=>(aT ag bx (ae (i:=6)) (ae (i:=2))))))))))))
    (ar (jS (i:=3)))))),λds R h=>?_⟩
 obtain⟨m,rfl,hm,q⟩:=h;have K7:K9 (.int 10) (.int 29)=some (.int (10 ^ 29)):=by
  show (if pA 10 29 then _ else none)=_
  rw[if_pos (by decide)]
  rfl
 have Lh:OZ (.int (10 ^ 29)) (.int 65536)=some (.int (10 ^ 29 / 65536)):=by rfl
 refine{rfl,tv,rfl,tv,8,rfl,by decide,by decide,λwy w0 w1=>?_}
 refine{Zn _,tv,?_};refine{_,rfl,tv,(m:Int),rfl,by lia,by lia,tv,?_}
 rw[abi];refine nQ (λi β=>i<=m/\∃wy ws x4 x5 x6 x7,β=[some (.hand pY),some (.val false (.int (m:Int))),some (.val true (.int wy)),some (.own (b8 ws)),x4,x5,x6,x7]/\0<=wy/\wy<8/\ws.length=i/\Ig ws) {Zn _,wy,[],_,_,_,_,rfl,w0,w1,rfl,λx hx=>nomatch hx} (λE1 r1 i n1 d β hd h=>?_) ?_
 ·obtain⟨_,wy,ws,x4,x5,x6,x7,rfl,w0,w1,NC,QI⟩:=h;obtain⟨hi,rfl⟩:=fX hd;have hk:(0:Int)+(i:Int)=(i:Int):=by lia
  rw[hk];refine{rfl,tv,rfl,tv,65536,rfl,by decide,by decide,λfr f0 f1=>{tv,tv,_,K7,tv,_,Lh,_,sG (.inl {by lia,by lia}),?_}}
  have Xf:(fr*(10 ^ 29 / 65536)).natAbs<2 ^ 189:=by lia
  generalize fr*(10 ^ 29 / 65536)=Gz at Xf ⊢
  refine{tv,rfl,tv,rfl,tv,9,rfl,by decide,by decide,λa a0 a1=>{tv,_,rfl,tv,?_}}
  refine{rfl,tv,rfl,tv,3,rfl,by decide,by decide,λb b0 b1=>{tv,_,rfl,tv,tv,_,rfl,_,rfl,tv,bG (by show 5<=1000;decide),?_}}
  have Tt:∀x y:List Int,x.length+y.length<=1000->Ae (.lst (x.map D.int)) (.lst (y.map D.int))=some (.lst ((x++y).map D.int)):=λx y z=>(fk (by rw[Y3,Y3];lia)).trans (by rw[Zl])
  obtain⟨Uz,Wt,WJ⟩:=uk (l:=[5,3,3,-2]) (r:=(i:Int) % 4) (by lia) (by show _<(4:Int);lia)
  have OX:Lf (.int (i:Int)) (.int 4)=some (.int ((i:Int) % 4)):=rfl;refine{_,rfl,tv,_,rfl,rfl,tv,rfl,tv,rfl,tv,4,rfl,by decide,by decide,λe e0 e1=>{_,rfl,tv,tv,tv,tv,_,rfl,rfl,tv,bG (by show 4<=1000;decide),tv,_,rfl,tv,_,OX,_,WJ,tv,lK,_,Tt [1,a-3,b,Gz,0-Gz] [-1-e,Uz] (by show 5+2<=1000;decide),.inl {cH,tv,?_}}}
  obtain⟨sm,CL⟩:∃sm,sm=[1,a-3,b,Gz,0-Gz]++[-1-e,Uz]:={_,rfl};have PR:sm.length=7:=by rw[CL];rfl
  have Pt:Ig sm:=λx hx=>by
   rw[CL]at hx;simp only[aa4,List.nil_append,Y6,Z2,or_false]at hx Wt;omega
  rw[<- CL];refine{λβ=>∃wy x7,β=[some (.hand pY),some (.val false (.int (m:Int))),some (.val true (.int wy)),some (.own (b8 ws)),some (.val true (.int (i:Int))),some (.val true (.int Gz)),some (.own (.lst (sm.map D.int))),x7]/\0<=wy/\wy<8,?_,?_}
  ·refine{_,rfl,tv,_,bf _ _,_,rfl,sf (λh3=>?_) λh3=>{(wy),x7,rfl,w0,w1}};exact{tv,rfl,tv,rfl,tv,2,rfl,by decide,by decide,λu u0 u1=>{_,rfl,3+u,x7,rfl,by lia,by lia}}
  rintro β ⟨wy,y7,rfl,w0,w1⟩;refine{λβ=>∃(sm:List Int) (x7:Option Q.B),Ig sm/\β=[some (.hand pY),some (.val false (.int (m:Int))),some (.val true (.int wy)),some (.own (b8 ws)),some (.val true (.int (i:Int))),some (.val true (.int Gz)),some (.own (.lst (sm.map D.int))),x7]/\wy<(sm.length:Int),?_,?_}
  ·refine{_,rfl,tv,_,bf _ _,_,rfl,sf (λh7=>?_) λh7=>{sm,y7,Pt,rfl,by lia}}
   refine{rfl,tv,rfl,tv,65536,rfl,by decide,by decide,λo1 p0 p1=>{tv,tv,rfl,tv,rfl,tv,6,rfl,by decide,by decide,λo2 r0 r1=>{_,sG (.inl {by decide,by decide}),?_}}}
   have Ks:OU (.int o1) (.int (16*o2))=some (.int (o1*2 ^ (16*o2).toNat)):=by
    show (if pA o1 (16*o2) then _ else none)=_
    rw[if_pos {by lia,by lia,by lia}]
   refine{_,Ks,?_};have Ol:(o1*2 ^ (16*o2).toNat).natAbs<2 ^ 150:=by
    have ho:o2=0\/o2=1\/o2=2\/o2=3\/o2=4\/o2=5:=by lia
    rcases ho with rfl|rfl|rfl|rfl|rfl|rfl
    ·rw[show (16*(0:Int)).toNat=0 from rfl];lia
    ·rw[show (16*(1:Int)).toNat=16 from rfl];lia
    ·rw[show (16*(2:Int)).toNat=32 from rfl];lia
    ·rw[show (16*(3:Int)).toNat=48 from rfl];lia
    ·rw[show (16*(4:Int)).toNat=64 from rfl];lia
    ·rw[show (16*(5:Int)).toNat=80 from rfl];lia
   generalize o1*2 ^ (16*o2).toNat=ow at Ol ⊢
   refine{_,rfl,tv,rfl,tv,rfl,tv,65536,rfl,by decide,by decide,λo3 s0 s1=>{_,rfl,?_}}
   have SK:(ow+o3).natAbs<2 ^ 151:=by lia
   generalize ow+o3=ow at SK ⊢
   refine{{_,rfl},_,rfl,tv,tv,_,rfl,rfl,tv,lK,tv,rfl,tv,rfl,tv,2,rfl,by decide,by decide,λo4 t0 t1=>?_}
   obtain⟨sg,WV,HI,P7,Xo⟩:∃sg:Int,vn (.lst [.int 1,.int (-1)]) (.int o4)=some (.int sg)/\-(2 ^ 64)<sg/\sg<2 ^ 64/\(ow*sg).natAbs<2 ^ 190:=by
    obtain⟨v,rfl⟩:=acD t0;have hv:v=0\/v=1:=by lia
    rcases hv with rfl|rfl
    ·exact{1,rfl,by decide,by decide,by lia}
    ·exact{-1,rfl,by decide,by decide,by lia}
   refine{_,WV,_,sG (.inr {(HI),P7}),tv,_,rfl,by rw[Y3];exact jD (by lia),sm++[ow*sg],some (.val true (.int ow)),Pt.app λx hx=>by rw[Zc.mp hx];exact Xo,?_,by rw[Zk];show _<((_+1:Nat):Int);lia}
   rw[Zl];rfl
  rintro β ⟨sm,y7,Pt,rfl,ND⟩;obtain⟨xw,Ws,WI⟩:=uk (l:=sm) (r:=wy) w0 ND;refine{{_,rfl},_,rfl,tv,_,rfl,_,WI,tv,_,rfl,by rw[Y3];exact jD (by lia),n1 _ {hi,wy,ws++[xw],_,_,_,_,by rw[show b8 (ws++[xw])=.lst (ws.map D.int++[.int xw]) by unfold b8;rw[Zl];rfl] <;> rfl,w0,w1,by rw[Zk,NC];rfl,QI.app λx hx=>by rw[Zc.mp hx];exact Pt _ Ws}}
 ·rintro β ⟨_,wy,ws,x4,x5,x6,x7,rfl,w0,w1,NC,QI⟩;rw[fW]at NC;exact{_,rfl,rfl,q ws NC QI}
def fV:aJ ["row","weights"] ["row","weights"] (ao b5):=mkS
def mv {dk bL} (dD:yG K mg dk bL) (B:Bs3 mg):aE P w K mg base bI 1 dk bL ["row","weights"] (cY P w true iI):=by
 refine ng dD.F fV (λds R RW=> by obtain⟨n,ps,ws,e,_⟩ := RW;subst e;rfl) λbQ A outer s H E hr=>{_,(ar (b7 (aL ag (bA.m (m_ hr.units)) (a7 ag (bF.m bJ) B.len dO (aa (ae (i:=1)) af)) (a7 ag (bF.m bJ) B.len dO (aa (aT ag bx (ae (i:=0)) ah) af))) eQ bc)),λds R h=>?_}
 obtain⟨n,ps,ws,rfl,hl,q⟩:=h;have h1:kn [b8 ws]=some (.int (ws.length:Int)):=cz (by rw[Y3])
 have h2:kn [l0 ps]=some (.int (ps.length:Int)):=cz (by rw[Y3])
 exact{_,rfl,tv,_,h1,tv,_,rfl,tv,_,rfl,.inr {tv,_,h2,_,gH _ _,_,rfl,fR (by rw[decide_eq_true (by lia)];rfl) q}}
def kL:aJ ["row","weights"] ["row","weights"] (ao cZ):=mkS
def wb {dF bN} (gG:yF K mg dF bN) (B:Bs3 mg):aE P w K mg base bI 1 dF bN ["row","weights"] (cY P w true sv):=by
 refine ng gG.F kL (λds R RV=> by obtain⟨n,ps,ws,e,_⟩ := RV;subst e;rfl) λbQ A outer s H E hr=>{_,(ar (bh (XM (Nat.lt_of_succ_lt hr.gn) ["tie","weight"] [none,none] (by rfl) (by decide:(["tie","weight"]:List Str).Nodup) rfl (xE B.zip (aa (aT ag bx (ae (i:=0)) ah) (aa (ae (i:=1)) af))) (λ_ _ _ _ _ _=>(c5 (n:=2) rfl (aM (aw (i:=0) (by decide:(["tie","weight"]:List Str).Nodup)) (aM (aw (i:=1) (by decide:(["tie","weight"]:List Str).Nodup)) b6)))) (λ_ _ _ _ _ _=>cM) (λ_ _ _ _ _ _=>(ae (i:=0))) (λ_ _ _ _ _ _=>(ae (i:=1)))))),λds R h=>?_}
 obtain⟨n,ps,ws,rfl,ok,hl,q⟩:=h;have CL:=ok.sm;have WH:(ps.zip ws).length<=400:=by rw[List.length_zip];lia
 refine{_,rfl,tv,_,rfl,.inr {tv,_,rfl,tv,_,_,rfl,tv,?_}};rw[vy];refine{λm β o=>m<=(ps.zip ws).length/\(∃x0 x1,β=[x0,x1])/\o=((ps.zip ws).take m).map λq=>(tI q.1,D.int q.2),{Zn _,{_,_,rfl},rfl},?_,?_}
 ·rintro m d β o hd ⟨hm,⟨x0,x1,rfl⟩,rfl⟩;rw[Zg]at hd;obtain⟨z,hz,rfl⟩:=Zh.mp hd;have dE:=(Y_.mp hz).1;refine{_,rfl,rfl,_,_,rfl,_,_,rfl,rfl,?_};refine{_,rfl,_,rfl,tI z.1,rfl,rfl,xk (k:=λq:(Nat×Nat)×Int=>q.1) (xi ok.nd hz),?_,dE,{_,_,rfl},?_}
  ·rw[Y3,ZI];exact jD (by lia)
  ·rw[ZS,hz,Zl];rfl
 ·rintro β o ⟨_,⟨x0,x1,rfl⟩,rfl⟩;rw[Y3,aai,Io ok.nd hl];exact{(tv),tv,q}
end
end hJ
namespace L2.Q
open PySem PySem.Spec PySem.SeqAt PyProof.Rows
section
variable {X:Cx}{C:Cfg}{lk:List (Option Nat)}{γ:da}{τ:a_}{φ φk:aQ}{T:List Nat}
variable {scope:abB}{tg dJ ke elt:Expr}{ifs:List Expr}{ι:cV}{pi:Bool}{pos pos' tu:Pos}{y:Str}{i:Nat}
def QN (hu:X.A.units<abd)(N':List Str)(lk:List (Option Nat))(L:iq X.env.scope.names X.N scope N' lk=true)(vi:N'.Nodup)(hc:X.calm=true)(hi:∀U,AJ X (C.u U) pi tg dJ ι)
  (uv:∀U cl c s H ex,AK (aK X scope N' cl c s H ex) (C.u U) tg T γ) (uu:∀U cl c s H ex,sQ (aK X scope N' cl c s H ex) (C.u U) true ifs τ)
  (Ov:∀U cl c s H ex,PQ (aK X scope N' cl c s H ex) (C.u U) true ke φk) (uy:∀U cl c s H ex,PQ (aK X scope N' cl c s H ex) (C.u U) true elt φ)
  (hN:X.N.Nodup) (hT:T.all (λi=>match lk[i]? with|some (some _)=>false|_=>true)=true:=by rfl) (hy:X.N[i]?=some y:=by rfl) (hx:Loc X.env.scope y:=by first|exact .inl rfl|exact .inr rfl) (hf:X.fn y=true\/X.env.scope.names.lookup y=some .local:=by first|exact .inl rfl|exact .inr rfl|assumption)
  (o8:aaw (.DictComp ke elt [{tg,dJ,ifs,0}] scope pos) (some (.Name y pos')) tu.line X.env=pure true:=by rfl)
  (KR:evalThenUse (.DictComp ke elt [{tg,dJ,ifs,0}] scope pos) X.env (assign (.Name y pos') X.env)=(do let _ <- comprehension (.DictComp ke elt [{tg,dJ,ifs,0}] scope pos) scope X.env (firstIterPos [{tg,dJ,ifs,0}] pos) newDict false (eval dJ X.env) (some (assign (.Name y pos') X.env));pure ()):=by first|rfl|exact arm_evalThenUse_DictComp ..)
  (hs:∀x,aad dJ X.env x=pure x:=by intro _;rfl) :
  PB X C (.Assign [.Name y pos'] (.DictComp ke elt [{tg,dJ,ifs,0}] scope pos) tu) (λE β=>By lk ι γ τ φk φ β λd _ β'=>E.nx (β'.set i (some (.val true d)))):=by
 have L:=Links.of L;have K0:∀i∈T,∀j,lk[i]?≠some (some j):=λi hi j e=>by
  have:=aaF.mp hT i hi;rw[e]at this;cases this
 have γm:=(uv (λ_=>False) [] 0 X.s₀ X.H₀ []).mono;have τm:=(uu (λ_=>False) [] 0 X.s₀ X.H₀ []).mono;have φm:=(uy (λ_=>False) [] 0 X.s₀ X.H₀ []).mono;have AM:=(Ov (λ_=>False) [] 0 X.s₀ X.H₀ []).mono;refine{λE E' β l h=>(hi λ_=>False).mono β _ _ (λds kd β1 q=>{q.1,q.2.mono λ_ _ z=>{z.1,l.nx _ z.2}}) h,λpins s σ H D I0 i5=>?_};obtain⟨Z,E,β,⟨own,sq,n⟩,h,ok⟩:=i5;refine tM (g:={tg,dJ,ifs,0}) (gs:=[]) (tg:=λa=>Eb X C a T γ) (tt:=λa=>kA X (C.u λc=>c=a) true τ) (ta:=λa=>Qx X C a φk φ)
  L hc pZ o8 KR rfl hN hy hx hf (λ_ _=>H_) (hi λa=>H a=none).pi (λa cl c s H ex=>{(uv _ cl c s H ex).pg,(uu _ cl c s H ex).pt,tR (X:=aK X scope N' cl c s H ex) rfl hu (Ov _ cl c s H ex).pe (uy _ cl c s H ex).pe}) hs pins s σ H D I0 ?_
 refine{β,own,sq.lJ (C:=C.z) (U:=λa=>H a=none) λa z=>z,(hi λ_=>False).mono β _ _ (λds k β1 h J H1 ay o1 it a ha=>?_) h};obtain⟨hk,q⟩:=h;refine jJ (C:=C.u λa=>H a=none) (T:=T) (xb (P:=X.prog) (w:=X.w)) γm τm (λj hj=>hj) (de L vi) K0 o1.sq ha hk it {[],ak,(show aR _ _ _ [] [] [] from {(rfl),rfl})} (o1.sq.Dp (λxs z=>by cases z) ha (de L vi))
  (λHb Wb βx ox σx Hx Nx h0 sx qx=>tD h0 ha AM φm sx qx) q λo H' q o2 r=>?_
 obtain⟨vs,at',os⟩:=r;have fr:∀c∈[a],H c=none/\¬ Wn ay c/\C.H0 c=none:=λc hc=>by
  rw[Zc.mp hc];exact{ZH λz=>o1.sn.d a z ha,λh=>by obtain⟨j,hj⟩:=h;exact(o1.sq.dm j a hj).1 ha,ZH λz=>o1.sq.fS a z ha}
 have sn:=o1.sn.trans o2.sn;have m:=n.trans sn;have kv:KV X.prog X.w C.z (H,Wn own) ay H' .own (dA o) (.ref a):={[a],BX at' os,by simp,fr}
 exact ok.nx _ _ _ {_,(bj.UY o2.sq).eX (aC.aY (λa z=>z.elim id λz=>z.elim) (KV.rep kv)),kK m} q
end
open AI
def sW (w:Nat×Nat->Int)(S:List (Nat×Nat)):Int:=(S.map w).sum
def xv {w:Nat×Nat->Int}{p:Nat×Nat}{S:List (Nat×Nat)}:sW w (p::S)=w p+sW w S:=by unfold sW;rw[ZE,List.sum_cons]
def Bp {w:Nat×Nat->Int}{A B:List (Nat×Nat)}:sW w (A++B)=sW w A+sW w B:=by unfold sW;rw[Zl,List.sum_append]
section
variable {ps:List NN}(hp:∀p∈ps,p.1<p.2)
include hp
end
section
variable {ps:List NN}{n:Nat}(hp:∀p∈ps,p.1<p.2/\p.2<n)
include hp
theorem qW {i j:Nat}{S:List NN}(s:i9 ps i j S):2*S.length<=n:=by
 have vf:∀p∈ps,p.1<p.2:=λp h=>(hp p h).1;have s0:i9 ps 0 n S:={s.pw,λp h=>{(s.of p h).1,Zn _,(hp p (s.of p h).1).2}};have h1:=IM vf _ _ _ _ (Y8 _) s0;have h2:=Gr vf (i:=0) (j:=n);have h3:=nP (w:=w1) vf n 0 n (by lia)
 lia
end
structure lI (w:Nat×Nat->Int)(M:List NN->Prop)(x:Int×List NN):Prop where
 mem:M x.2
 wt:sW w x.2=x.1
 top:∀S,M S->sW w S<x.1\/(sW w S=x.1/\i4 (S.map tI) (x.2.map tI)=false)
structure Bz (w:Nat×Nat->Int)(M:List NN->Prop)(L:List (Int×List NN)):Prop where
 len:∀S,M S->S.length<L.length
 at_:∀(k:Nat) (x:Int×List NN),L[k]?=some x->lI w (λS=>M S/\S.length=k) x
def Cr {S T:List NN}(h:S.map tI=T.map tI):S=T:=by
 induction S generalizing T with
 |nil=>cases T with|nil=>rfl|cons q T=>cases h
 |cons p S ih=>cases T with
  |nil=>cases h
  |cons q T =>
   rw[ZE,ZE]at h;injection h with a b
   rw[vG a,ih b]
def lI.uniq {w:Nat×Nat->Int}{M:List NN->Prop}{x y:Int×List NN}(h:lI w M x)(k:lI w M y):x=y:=by
 have a:=h.top _ k.mem;have b:=k.top _ h.mem;rw[k.wt]at a;rw[h.wt]at b;have e1:x.1=y.1:=by lia
 have e2:i4 (y.2.map tI) (x.2.map tI)=false:=a.elim (λz=>by lia) λz=>z.2
 have e3:i4 (x.2.map tI) (y.2.map tI)=false:=b.elim (λz=>by lia) λz=>z.2
 have:=Cr (qf e3 e2);cases x;cases y;dsimp only at e1 this;rw[e1,this]
section
variable {ps:List NN}{n:Nat}(hp:∀p∈ps,p.1<p.2/\p.2<n)(hs:ps.Pairwise λp q=>p.1<q.1\/(p.1=q.1/\p.2<q.2))
include hp hs
end
def Qd (x y:Int×List NN):Bool:=if x.1=y.1 then i4 (x.2.map tI) (y.2.map tI) else decide (y.1<x.1)
def pk (x y:Int×List NN):Int×List NN:=if Qd y x=true then y else x
def Jn:Option (Int×List NN)->Option (Int×List NN)->Option (Int×List NN)
 |some x,some y=>some (pk x y)
 |some x,none=>some x
 |none,y=>y
def qP (L M:List (Int×List NN)):List (Int×List NN):=(Zv (max L.length M.length)).filterMap λk:Nat=>Jn L[k]? M[k]?
def lI.pick {w:Nat×Nat->Int}{M N:List NN->Prop}{x y:Int×List NN}(h:lI w M x)(k:lI w N y):lI w (λS=>M S\/N S) (pk x y):=by
 unfold pk Qd
 by_cases e:y.1=x.1
 ·rw[if_pos e]
  by_cases z:i4 (y.2.map tI) (x.2.map tI)=true
  ·rw[if_pos z];refine{.inr k.mem,k.wt,λS s=>?_};rcases s with s|s
   ·rcases h.top S s with a|a
    ·exact .inl (by lia)
    ·refine .inr {by lia,?_}
     cases q:i4 (S.map tI) (y.2.map tI)with
     |false=>rfl
     |true =>
      rcases rY (x.2.map tI) q with u|u
      ·rw[a.2]at u;cases u
      ·rw[ny z]at u;cases u
   ·exact k.top S s
  ·rw[if_neg z];have z:i4 (y.2.map tI) (x.2.map tI)=false:=by simpa using z
   refine{.inl h.mem,h.wt,λS s=>?_};rcases s with s|s
   ·exact h.top S s
   ·rcases k.top S s with a|a
    ·exact .inl (by lia)
    ·refine .inr {by lia,?_}
     cases q:i4 (S.map tI) (x.2.map tI)with
     |false=>rfl
     |true =>
      rcases rY (y.2.map tI) q with u|u
      ·rw[a.2]at u;cases u
      ·rw[z]at u;cases u
 ·rw[if_neg e]
  by_cases z:x.1<y.1
  ·rw[if_pos (decide_eq_true z)];refine{.inr k.mem,k.wt,λS s=>?_};rcases s with s|s
   ·have:=h.top S s;exact .inl (by lia)
   ·exact k.top S s
  ·rw[if_neg (by rw[decide_eq_false z];decide)]
   refine{.inl h.mem,h.wt,λS s=>?_};rcases s with s|s
   ·exact h.top S s
   ·have:=k.top S s;exact .inl (by lia)
noncomputable def lI.wk {w:Nat×Nat->Int}{M N:List NN->Prop}{x:Int×List NN}(h:lI w M x)(e:∀S,N S↔M S):lI w N x:={(e _).mpr h.mem,h.wt,λS s=>h.top S ((e S).mp s)}
def Aw {L M:List (Int×List NN)}:(qP L M).length=max L.length M.length/\∀k:Nat,(qP L M)[k]?=Jn L[k]? M[k]?:=by
 have key:∀m:Nat,m<=max L.length M.length->((Zv m).filterMap λk:Nat=>Jn L[k]? M[k]?).length=m/\∀k:Nat,k<m->((Zv m).filterMap λk:Nat=>Jn L[k]? M[k]?)[k]?=Jn L[k]? M[k]?:=by
  intro m
  induction m with
  |zero=>intro _;exact{rfl,λk h=>absurd h (Nat.not_lt_zero _)}
  |succ m ih =>
   intro h;obtain⟨i1,i2⟩:=ih (by lia)
   obtain⟨v,hv⟩:∃v,Jn L[m]? M[m]?=some v:=by
    by_cases a:m<L.length
    ·rw[Y5 a];cases M[m]? <;> exact{_,rfl}
    ·rw[ZF (by lia),Y5 (show m<M.length by lia)]
     exact{_,rfl}
   rw[List.range_succ,List.filterMap_append,show List.filterMap (λk:Nat=>Jn L[k]? M[k]?) [m]=[v] by simp[hv]]
   refine{by rw[Zk,i1];rfl,λk hk=>?_}
   by_cases e:k=m
   ·subst e;rw[ZY (by lia),i1,aca,hv]
    rfl
   ·rw[aaa (by lia),i2 k (by lia)]
 obtain⟨k1,k2⟩:=key _ (Y8 _);refine{k1,λk=>?_}
 by_cases h:k<max L.length M.length
 ·exact k2 k h
 ·rw[ZF (by show (qP L M).length<=k;unfold qP;lia),ZF (by lia),ZF (by lia)]
  rfl
def Bz.both {w:Nat×Nat->Int}{M N:List NN->Prop}{L L':List (Int×List NN)}(h:Bz w M L)(k:Bz w N L'):Bz w (λS=>M S\/N S) (qP L L'):=by
 obtain⟨e1,e2⟩:=Aw (L:=L) (M:=L');refine{λS s=>?_,λm x hx=>?_}
 ·rw[e1];rcases s with s|s
  ·have:=h.len S s;lia
  ·have:=k.len S s;lia
 ·rw[e2]at hx;cases ha:L[m]? with
  |none =>
   rw[ha]at hx;have hx:L'[m]?=some x:=hx;have no:∀S,M S->S.length≠m:=λS s e=>by
    have:=h.len S s;rw[abv]at ha;lia
   exact(k.at_ m x hx).wk λS=>{λz=>{z.1.resolve_left λy=>no S y z.2,z.2},λz=>{.inr z.1,z.2}}
  |some a =>
   cases hb:L'[m]? with
   |none =>
    rw[ha,hb]at hx;cases hx;have no:∀S,N S->S.length≠m:=λS s e=>by
     have:=k.len S s;rw[abv]at hb;lia
    exact(h.at_ m _ ha).wk λS=>{λz=>{z.1.resolve_right λy=>no S y z.2,z.2},λz=>{.inl z.1,z.2}}
   |some b =>
    rw[ha,hb]at hx;cases hx;exact((h.at_ m _ ha).pick (k.at_ m _ hb)).wk λS=>{λz=>z.1.elim (λy=>.inl {(y),z.2}) λy=>.inr {(y),z.2},λz=>z.elim (λy=>{.inl y.1,y.2}) λy=>{.inr y.1,y.2}}
def lI.cat {w:Nat×Nat->Int}{M N:List NN->Prop}{a b:Nat}{p:NN}{x y:Int×List NN}(h:lI w (λS=>M S/\S.length=a) x)(k:lI w (λS=>N S/\S.length=b) y):
  lI w (λS=>∃A B,(M A/\A.length=a)/\(N B/\B.length=b)/\S=p::(A++B)) (x.1+y.1+w p,p::(x.2++y.2)):=by
 refine{{_,_,h.mem,k.mem,rfl},?_,λS ⟨A,B,ha,hb,e⟩=>?_}
 ·rw[xv,Bp,h.wt,k.wt];dsimp only;lia
 ·subst e;have h1:=h.top A ha;have h2:=k.top B hb;rw[xv,Bp];dsimp only
  by_cases z:sW w A=x.1/\sW w B=y.1
  ·refine .inr {by lia,?_}
   have l1:i4 (A.map tI) (x.2.map tI)=false:=h1.elim (λq=>by lia) λq=>q.2
   have l2:i4 (B.map tI) (y.2.map tI)=false:=h2.elim (λq=>by lia) λq=>q.2
   rw[ZE,ZE,d7,if_pos rfl,Zl,Zl,xY (by rw[Y3,Y3,ha.2,h.mem.2])]
   split
   ·exact l2
   ·exact l1
  ·exact .inl (by lia)
def _root_.L2.D.T8:D->Option Bool
 |.bl b=>some b
 |_=>none
def D.DR {d:D}{b:Bool}(h:d.T8=some b):d=.bl b:=by cases d <;> first|(cases h;rfl)|cases h
section
variable {X:Cx}{C:Cfg}{p p':Bool}{a b:Expr}{φa φb:aQ}{apos cpos:Pos}
def zM (k:Bool):Y1->Bool
 |.bool b=>b==k
 |_=>false
def yj (k:Bool){A:Z0}{s:Y4}{bs:List Bool}{y:Y1}(hy:y∈bs.map Value.bool):EqAt A s y (.bool k) (zM k y):=by
 obtain⟨b,_,rfl⟩:=ZN.mp hy;exact EqAt.bool_bool b k
def HZ (a b:D):Option D:=a.rX.bind λds=>(sH ds).bind λbs=>b.T8.map λk=>.int (bs.count k:Nat)
def HW (a b:D):Option D:=a.rX.bind λds=>(sH ds).bind λbs=>b.T8.bind λk=>if k∈bs/\bs.length<=Zd then some (.int (bs.idxOf k:Nat)) else none
def DQ {pins:List (Addr×Obj)}{s:Y4}{σ:St}{H:Hp}{W:Addr->Prop}{bs:List Bool}{x:V}{v:Y1}(I:Inv X pins σ H s)(rx:RelV x v)(r1:Rp X W H (.lst (bs.map D.bl)) x):
  ∃l dd n sl,v=.ref l/\s.heap.get? l=some {.type "list",dd,.seq (bs.map Value.bool).toArray n,sl}:=by
 obtain⟨l,vs,rfl,hl,_,rv⟩:=r1;rw[m6 rv]at hl;cases (show v=.ref l from rx)
 obtain⟨_,its,n,r',ho⟩:=I.bB l _ hl;rw[mG r']at ho;exact{l,_,n,_,rfl,ho}
def zu:Lx X "list.count" HZ:=by
 intro pins s σ H x xs v us Q I rx rs h;obtain⟨y,rfl,W,d1,d2,d,hd,r1,r2,e,q⟩:=h;obtain⟨ds,e1,e2⟩:=Zq.mp e;obtain⟨bs,e3,e4⟩:=Zq.mp e2;obtain⟨k,e5,rfl⟩:=Zh.mp e4;rw[D.j0 e1,mz e3]at r1;rw[D.DR e5]at r2;obtain⟨l,dd,n,sl,rfl,ho⟩:=DQ I rx r1;obtain⟨u,rfl,ru⟩:=vals1 rs;cases (show y=.bl k from r2)
 cases ru;refine acf PySem.F.slot_list_count {_,ho,rfl} PySem.F.entry_list_count (PySem.F.args_list_count_2 _ _) (list_countAt l (bs.map Value.bool).toArray n dd sl (.bool k) (zM k)) {ho,λy hy=>yj k (by simpa using hy),?_}
 have ec:(bs.map Value.bool).countP (zM k)=bs.count k:=by
  rw[List.countP_map];rfl
 rw[show (bs.map Value.bool).toArray.toList=bs.map Value.bool from rfl,ec]
 exact{.int (bs.count k:Nat),H,I.tok _,{_,rfl},q _ _ (aB.refl _) rfl λ_=>rfl}
def zr:Lx X "list.index" HW:=by
 intro pins s σ H x xs v us Q I rx rs h;obtain⟨y,rfl,W,d1,d2,d,hd,r1,r2,e,q⟩:=h;obtain⟨ds,e1,e2⟩:=Zq.mp e;obtain⟨bs,e3,e4⟩:=Zq.mp e2;obtain⟨k,e5,e6⟩:=Zq.mp e4;obtain⟨⟨hk,hz⟩,rfl⟩:=eC e6;rw[D.j0 e1,mz e3]at r1;rw[D.DR e5]at r2;obtain⟨l,dd,n,sl,rfl,ho⟩:=DQ I rx r1;obtain⟨u,rfl,ru⟩:=vals1 rs;cases (show y=.bl k from r2)
 cases ru;have hj:bs.idxOf k<bs.length:=List.idxOf_lt_length_iff.mpr hk;have hsz:Zd<2 ^ 63-1:=by decide
 refine acf PySem.F.slot_list_index {_,ho,rfl} PySem.F.entry_list_index (PySem.F.args_list_index_2 _ _) (list_indexAt l (bs.map Value.bool).toArray n dd sl (.bool k) (zM k) (bs.idxOf k) (by simpa using hj) (by lia) ?_ ?_)
  {ho,λy hy=>yj k (by simpa using hy),{.int (bs.idxOf k:Nat),H,I.tok _,{_,rfl},q _ _ (aB.refl _) rfl λ_=>rfl}}
 ·simp[zM]
 ·intro m hm dE;have S0:m<bs.length:=by simpa using hm
  have:=List.not_of_lt_findIdx (p:=(·==k)) (xs:=bs) dE;simpa[zM] using this
def zc (ha:PQ X C p a φa) (hb:PQ X C p' b φb) (cS:aaH a "count" X.env (eval a X.env)=eval a X.env:=by rfl)
  (iy:((aag cpos (Y9 [b] X.env)).all (λx=>!x.1)&&(acg cpos (abo [] X.env)).all (λx=>x.1.isSome)
   && decide ([b].length+([]:List aa2).length+(if ([]:List aa2).isEmpty then 0 else 1)<30))=true:=by rfl)
  (cR:(apos.endLine==cpos.line)=true:=by rfl) (hs:Y9 [b] X.env=(false,eval b X.env)::Y9 [] X.env:=by rfl) (cw:(aag cpos (Y9 [] X.env)).any (·.1)=false:=by rfl) :
  PQ X C (p&&p') (.Call (.Attribute a "count" apos) [b] [] cpos) (Q3 HZ p' φa φb):=Hi PySem.F.slot_list_count PySem.F.type_list_count zu ha hb cS iy cR hs cw
def zb (ha:PQ X C p a φa) (hb:PQ X C p' b φb) (cS:aaH a "index" X.env (eval a X.env)=eval a X.env:=by rfl)
  (iy:((aag cpos (Y9 [b] X.env)).all (λx=>!x.1)&&(acg cpos (abo [] X.env)).all (λx=>x.1.isSome)
   && decide ([b].length+([]:List aa2).length+(if ([]:List aa2).isEmpty then 0 else 1)<30))=true:=by rfl)
  (cR:(apos.endLine==cpos.line)=true:=by rfl) (hs:Y9 [b] X.env=(false,eval b X.env)::Y9 [] X.env:=by rfl) (cw:(aag cpos (Y9 [] X.env)).any (·.1)=false:=by rfl) :
  PQ X C (p&&p') (.Call (.Attribute a "index" apos) [b] [] cpos) (Q3 HW p' φa φb):=Hi PySem.F.slot_list_index PySem.F.type_list_index zr ha hb cS iy cR hs cw
end
def GA (a b:Str)(ha:(D.str a).AF=true:=by decide +kernel)(hb:(D.str b).AF=true:=by decide +kernel):Lc (.str a) (.str b)=some (.bl (!decide (a=b))):=by
 unfold Lc;rw[if_pos {(ha),hb}];show some (D.bl (!(a==b)))=_;rw[show (a==b)=decide (a=b) from Bool.eq_iff_iff.mpr (by rw[beq_iff_eq,decide_eq_true_iff])]
end L2.Q
namespace GX
open PySem PySem.Spec PyProof.Rows AI
def G0 (A:Z0)(s:Y4)(x y:Y1)(r:Bool):Prop:=∀(prog:Y7) (w:Zj) (E:Y1->Y4->Prop) (Q:Y1->Y4->Prop),Q (.bool r) s->Zy (model prog w) A (acn .Lt x y) Q E s
inductive pz (A:Z0) (s:Y4):List Y1->List Y1->Bool->Prop
 |nn:pz A s [] [] false
 |nc {y:Y1} {ys:List Y1}:pz A s [] (y::ys) true
 |cn {x:Y1} {xs:List Y1}:pz A s (x::xs) [] false
 |eq {x y:Y1} {xs ys:List Y1} {r:Bool}:SeqAt.EqAt A s x y true->pz A s xs ys r->pz A s (x::xs) (y::ys) r
 |ne {x y:Y1} {xs ys:List Y1} {r:Bool}:SeqAt.EqAt A s x y false->G0 A s x y r->pz A s (x::xs) (y::ys) r
section
open PySem.SeqAt
open PySem.AutoSeq1 (wpAny_loadPart')
open PySem.MeetsSeq PySem.MeetsSeq2 PySem.MeetsSeq3
def yI (l b:Addr)(items aF:Array Y1)(n n2:Nat)(dd wW:Option Addr)(sl vN:Array (Option Y1))(r:Bool):
  Meets (abb.«tuple.__lt__» {[.ref l,.ref b],[]})
   (λA R s=>s.heap.get? l=some {cls:=.type "tuple",dict:=dd,data:=.seq items n,slots:=sl}/\s.heap.get? b=some {cls:=.type "tuple",dict:=wW,data:=.seq aF n2,slots:=vN} /\
    pz A.in1 s items.toList aF.toList r/\R (.ok (.ret (.bool r))) s) :=
 .of_wp λprog w A R s h=>by
  obtain⟨hp,g,d,tk,os⟩:=s;obtain⟨hl,hb,hc,h⟩:=h;have f2:=AutoSeq1.sub_tuple_tuple
  wp_walk using ZO hl,ZO hb,wpAny_forIn_list _ (λrest b s'=>b.1=none/\s'={(hp),g,d,tk,os}/\∃(vs ws:List Y1),rest=vs.zip ws /\
   pz A.in1 {(hp),g,d,tk,os} vs ws r/\vs.length+aF.size=ws.length+items.size) _
  case turn =>
   rintro⟨y,x⟩ rest b s' ⟨gY,rfl,vs,ws,hz,jr,hlen⟩;cases jr with
   |nn=>rw[abh]at hz;cases hz
   |nc=>rw[abh]at hz;cases hz
   |cn=>rw[List.zip_nil_right]at hz;cases hz
   |eq he j7 =>
    rw[aaf]at hz;injection hz with NA lU
    injection NA with hy hx
    subst hy hx;simp only[Zb]at hlen;refine Y2 (he prog w _ _ ?_)
    wp_walk
    exact{rfl,rfl,_,_,lU,j7,by lia}
   |ne he hr =>
    rw[aaf]at hz;injection hz with NA lU
    injection NA with hy hx
    subst hy hx;refine Y2 (he prog w _ _ ?_);have NQ:=hr prog w
    wp_walk using NQ
    exact{_,rfl,by simpa using h}
  case fin =>
   rintro⟨b1,b2⟩ s' ⟨gY,rfl,vs,ws,hz,jr,hlen⟩;simp only at gY;subst gY;have hv:r=decide (items.size<aF.size):=by
    cases jr with
    |nn =>
     simp only[aaU]at hlen;exact(decide_eq_false (by lia)).symm
    |nc =>
     simp only[aaU,Zb]at hlen;exact(decide_eq_true (by lia)).symm
    |cn =>
     simp only[aaU,Zb]at hlen;exact(decide_eq_false (by lia)).symm
    |eq _ _=>rw[aaf]at hz;cases hz
    |ne _ _=>rw[aaf]at hz;cases hz
   rw[hv]at h
   wp_walk
   exact{_,rfl,by simpa[Builtin.Tuple.tupleCompareSizes] using h}
  case h =>
   exact{rfl,rfl,items.toList,aF.toList,rfl,hc,by simp;lia}
end
section
variable {A:Z0}{s:Y4}
def J2 {l b:Addr}{items aF:Array Y1}{r:Bool}(hl:IsTup s.heap l items)(hb:IsTup s.heap b aF)(hc:∀A:Z0,A.units+2<abd->pz A s items.toList aF.toList r)(hu:A.units+4<abd):G0 A s (.ref l) (.ref b) r:=by
 intro prog w E Q h;obtain⟨⟨cls,dd,data,sl⟩,ho,jr,n,hd⟩:=id hl;obtain⟨⟨Li,wW,data2,vN⟩,zQ,j7,n2,hd2⟩:=id hb;simp only at jr hd j7 hd2;subst jr hd j7 hd2;exact richCompare_meets_room (op:=.Lt) {_,ho,rfl} {_,zQ,rfl} PySem.F.slot_tuple_lt PySem.F.entry_tuple_lt (PySem.F.args_tuple_lt_2 _ _) (yI l b items aF n n2 dd wW sl vN r)
  {ho,zQ,hc _ (by show A.units+1+2<abd;lia),show Value.bool r≠Value.notImplemented/\Q (.bool r) s from {(λx=>nomatch x),h}} (by lia)
end
def LstAt (h:Heap)(n:Nat)(p:Addr)(ks:List (List Int)):Prop:=p<n/\∃ts:List (Addr×List Int),h.IsList p (ts.map λt=>Value.ref t.1).toArray/\ts.map (·.2)=ks/\∀t∈ts,t.1<n/\∃its,IsTup h t.1 its/\aaI its.toList t.2
abbrev Mx:=Int ⊕ List (List Int)
def PH:Mx->L2.D
 |.inl i=>.int i
 |.inr ks=>.lst (ks.map L2.kD)
inductive Ay (h:Heap) (n:Nat):List Y1->List Mx->Prop
 |nil:Ay h n [] []
 |int {i:Int} {t:Tok} {vs:List Y1} {ms:List Mx}:Ay h n vs ms->Ay h n (.int i t::vs) (.inl i::ms)
 |lst {p:Addr} {ks:List (List Int)} {vs:List Y1} {ms:List Mx}:LstAt h n p ks->Ay h n vs ms->Ay h n (.ref p::vs) (.inr ks::ms)
def TupAt (h:Heap)(n:Nat)(p:Addr)(ms:List Mx):Prop:=p<n/\∃its,IsTup h p its/\Ay h n its.toList ms
section
variable {h h':Heap}{n:Nat}(kp:∀b o,b<n->h.get? b=some o->h'.get? b=some o)
include kp
theorem LstAt.keep {p:Addr}{ks:List (List Int)}(q:LstAt h n p ks):LstAt h' n p ks:=by
 obtain⟨a,ts,⟨o,b1,b2⟩,e,c⟩:=q;refine{a,ts,{o,kp _ _ a b1,b2},e,λt ht=>?_};obtain⟨c1,its,⟨o',c2,c3⟩,c4⟩:=c t ht;exact{c1,its,{o',kp _ _ c1 c2,c3},c4}
theorem Ay.keep {vs:List Y1}{ms:List Mx}(q:Ay h n vs ms):Ay h' n vs ms:=by
 induction q with
 |nil=>exact .nil
 |int _ ih=>exact .int ih
 |lst l _ ih=>exact .lst (l.keep kp) ih
theorem TupAt.keep {p:Addr}{ms:List Mx}(q:TupAt h n p ms):TupAt h' n p ms:=by
 obtain⟨a,its,⟨o,b1,b2⟩,i⟩:=q;exact{a,its,{o,kp _ _ a b1,b2},i.keep kp}
end
section
variable {A:Z0}{s:Y4}{n:Nat}
def LstAt.cmp {p p':Addr}{ks ms:List (List Int)}(a:LstAt s.heap n p ks)(b:LstAt s.heap n p' ms)(hu:A.units+2<abd):SeqAt.EqAt A s (.ref p) (.ref p') (decide (ks=ms))/\G0 A s (.ref p) (.ref p') (i4 ks ms):=by
 obtain⟨_,ts,pl,rfl,T⟩:=a;obtain⟨_,jz,Pz,rfl,T'⟩:=b;have cm:∀A:Z0,A.units+1<abd->Uw A s (ts.map λt=>Value.ref t.1).toArray (jz.map λt=>Value.ref t.1).toArray (ts.map (·.2)) (jz.map (·.2)):=λA hA=>by
  refine{by simp,by simp,λj h1 h2=>?_}
  have j1:j<ts.length:=by simpa using h1
  have j2:j<jz.length:=by simpa using h2
  obtain⟨_,i1,l1,n1⟩:=T ts[j] (aaD j1);obtain⟨_,i2,l2,n2⟩:=T' jz[j] (aaD j2);have x1:(ts.map (·.2)).getD j []=ts[j].2:=by simp[Zx,j1]
  have x2:(jz.map (·.2)).getD j []=jz[j].2:=by simp[Zx,j2]
  rw[x1,x2];simp only[List.getElem_toArray,List.getElem_map];exact{Dl l1 l2 n1 n2 hA,λprog w E Q hQ=>HT.wg l1 l2 n1 n2 hA hQ}
 refine{?_,λprog w E Q h=>?_}
 ·by_cases z:p=p'
  ·subst z;have e:ts.map (·.2)=jz.map (·.2):=by
    obtain⟨⟨cls,dd,data,sl⟩,ho,jr,n,KU⟩:=id pl;obtain⟨⟨Li,wW,data2,vN⟩,zQ,j7,n',hd2⟩:=id Pz;simp only at jr KU j7 hd2;subst jr KU j7 hd2;rw[ho]at zQ;injection zQ with zQ
    injection zQ with _ _ e _
    injection e with e _
    have el:(ts.map λt=>Value.ref t.1)=jz.map λt=>Value.ref t.1:=by simpa using congrArg Array.toList e
    apply List.ext_getElem
    ·have:=congrArg acs el;simpa using this
    ·intro j h1 h2;have j1:j<ts.length:=by simpa using h1
     have j2:j<jz.length:=by simpa using h2
     have ea:Value.ref ts[j].1=Value.ref jz[j].1:=by
      have:=congrArg (λl=>l[j]?) el;simpa[j1,j2] using this
     injection ea with ea
     obtain⟨_,i1,⟨o1,l1,_,_,Wy⟩,n1⟩:=T ts[j] (aaD j1);obtain⟨_,i2,⟨o2,l2,_,_,U8⟩,n2⟩:=T' jz[j] (aaD j2);rw[ea,l2]at l1;cases l1;rw[Wy]at U8;injection U8 with e1
     subst e1;simp only[List.getElem_map];exact L5.iw n1 n2
   rw[decide_eq_true e];exact SeqAt.EqAt.same _
  ·by_cases hz:ts.length=jz.length
   ·have q:=SeqAt.RcAt.lists (A:=A) (e:=λj=>decide ((ts.map (·.2)).getD j []=(jz.map (·.2)).getD j [])) pl Pz (by simpa using hz) (by lia) λj h1 h2=>by
     exact((cm A (by lia)).2.2 j h1 h2).1
    have ef:(Zv (ts.map λt=>Value.ref t.1).toArray.size).all (λj=>decide ((ts.map (·.2)).getD j []=(jz.map (·.2)).getD j []))=decide (ts.map (·.2)=jz.map (·.2)):=by
     by_cases e:ts.map (·.2)=jz.map (·.2)
     ·rw[e];simp
     ·rw[decide_eq_false e];cases h:(Zv (ts.map λt=>Value.ref t.1).toArray.size).all (λj=>decide ((ts.map (·.2)).getD j []=(jz.map (·.2)).getD j []))with
      |false=>rfl
      |true =>
       refine absurd ?_ e;rw[aaF]at h;apply List.ext_getElem
       ·simpa using hz
       ·intro j h1 h2;have:=of_decide_eq_true (h j (aae.mpr (by simpa using h1)))
        rwa [Zx,Zx,Y5 h1,Y5 h2]at this
    rw[ef]at q;exact ach z q
   ·have q:=SeqAt.RcAt.lists_lengths (A:=A) pl Pz (by simpa using hz) (by lia)
    rw[decide_eq_false λe=>hz (by simpa using congrArg acs e)]
    exact ach z q
 ·obtain⟨⟨cls,dd,data,sl⟩,ho,jr,n,KU⟩:=id pl;obtain⟨⟨Li,wW,data2,vN⟩,zQ,j7,n',hd2⟩:=id Pz;simp only at jr KU j7 hd2;subst jr KU j7 hd2;refine richCompare_meets_room (op:=.Lt) {_,ho,rfl} {_,zQ,rfl} PySem.F.slot_list_lt PySem.F.entry_list_lt (PySem.F.args_list_lt_2 _ _) (FX _ _ _ _ n n' dd wW sl vN (ts.map (·.2)) (jz.map (·.2))) {ho,zQ,cm _ ?_,?_} (by lia)
  ·show A.units+1<abd;lia
  ·exact{(λx=>nomatch x),h}
def FW:List Mx->List Mx->Option Bool
 |[],[]=>some false
 |[],_::_=>some true
 |_::_,[]=>some false
 |.inl i::a,.inl j::b=>if i=j then FW a b else some (decide (i<j))
 |.inr k::a,.inr m::b=>if k=m then FW a b else some (i4 k m)
 |_,_=>none
def Ay.cmp {us vs:List Y1}{a b:List Mx}{r:Bool}(x:Ay s.heap n us a)(y:Ay s.heap n vs b)(e:FW a b=some r)(hu:A.units+2<abd):pz A s us vs r:=by
 induction x generalizing vs b with
 |nil =>
  cases y with
  |nil=>cases e;exact .nn
  |int _=>cases e;exact .nc
  |lst _ _=>cases e;exact .nc
 | @int i t _ _ x ih =>
  cases y with
  |nil=>cases e;exact .cn
  | @int j t' _ _ y =>
   have e':(if i=j then FW _ _ else some (decide (i<j)))=some r:=e
   have q:=aci (A:=A) (s:=s) i t j t'
   by_cases z:i=j
   ·rw[if_pos z]at e';rw[show (i==j)=true by simpa using z]at q
    exact .eq q (ih y e')
   ·rw[if_neg z]at e';cases e';rw[show (i==j)=false by simpa using z]at q
    exact .ne q λprog w E Q h=>HT.tH A s i t j t' prog w E Q h
  |lst _ _=>cases e
 | @lst p ks _ _ l x ih =>
  cases y with
  |nil=>cases e;exact .cn
  |int _=>cases e
  | @lst p' ms _ _ l' y =>
   obtain⟨q1,q2⟩:=LstAt.cmp (A:=A) l l' hu;have e':(if ks=ms then FW _ _ else some (i4 ks ms))=some r:=e
   by_cases z:ks=ms
   ·rw[if_pos z]at e';rw[decide_eq_true z]at q1;exact .eq q1 (ih y e')
   ·rw[if_neg z]at e';cases e';rw[decide_eq_false z]at q1;exact .ne q1 q2
def TupAt.lt {p p':Addr}{a b:List Mx}{r:Bool}(x:TupAt s.heap n p a)(y:TupAt s.heap n p' b)(e:FW a b=some r)(hu:A.units+4<abd):G0 A s (.ref p) (.ref p') r:=by
 obtain⟨_,i1,h1,g1⟩:=x;obtain⟨_,i2,h2,g2⟩:=y;exact J2 h1 h2 (λA hA=>g1.cmp g2 e hA) hu
end
end GX
namespace L2
open PySem PySem.Spec PySem.SeqAt PyProof.Rows AI GX
def kS:List D->Option (List Mx)
 |[]=>some []
 |.int i::ds=>(kS ds).map (.inl i::·)
 |.lst es::ds=>(j4 es).bind λks=>(kS ds).map (.inr ks::·)
 |_=>none
theorem rW:∀{ds:List D} {ms:List Mx},kS ds=some ms->ds=ms.map PH/\∀ks,acp ks∈ms->∀k∈ks,k≠[]
 |[],_,h=>by cases h;exact{rfl,λ_ z=>nomatch z}
 |.int i::ds,_,h=>by
  obtain⟨ms,h1,rfl⟩:=Zh.mp (show (kS ds).map _=_ from h)
  obtain⟨e,q⟩:=rW h1;refine{by rw[e];rfl,λks hk=>?_}
  rcases Y6.mp hk with z|z
  ·cases z
  ·exact q ks z
 |.lst es::ds,_,h=>by
  obtain⟨ks,h1,h2⟩:=Zq.mp (show (j4 es).bind _=_ from h)
  obtain⟨ms,h3,rfl⟩:=Zh.mp h2;obtain⟨e,q⟩:=rW h3;obtain⟨e',q'⟩:=uj h1;refine{by rw[e,e'];rfl,λWz hk=>?_}
  rcases Y6.mp hk with z|z
  ·cases z;exact q'
  ·exact q Wz z
 |.tup _::_,_,h=>by cases h
 |.dT _ _::_,_,h=>by cases h
 |.dK _ _::_,_,h=>by cases h
 |.sT _::_,_,h=>by cases h
 |.ob _::_,_,h=>by cases h
 |.cN::_,_,h=>by cases h
 |.bl _::_,_,h=>by cases h
 |.str _::_,_,h=>by cases h
 |.obj _::_,_,h=>by cases h
theorem nk:∀{ms:List Mx},(∀ks,acp ks∈ms->∀k∈ks,k≠[])->kS (ms.map PH)=some ms
 |[],_=>rfl
 |.inl i::ms,h=>by
  show (kS (ms.map PH)).map _=_;rw[nk λks hk=>h ks (Zu _ hk)];rfl
 |.inr ks::ms,h=>by
  show (j4 (ks.map kD)).bind _=_;rw[qi (h ks ZK),aah,nk λks hk=>h ks (Zu _ hk)];rfl
def Aa (x y:D):Option D:=x.Ed.bind λa=>y.Ed.bind λb=>(kS a).bind λms=>(kS b).bind λns=>(FW ms ns).map D.bl
def GC {a b:List D}{ms ns:List Mx}{r:Bool}(h1:kS a=some ms)(h2:kS b=some ns)(h3:FW ms ns=some r):Aa (.tup a) (.tup b)=some (.bl r):=by
 show (kS a).bind _=_;rw[h1,aah,h2,aah,h3];rfl
def Kl {x:D}{a:List D}(h:x.Ed=some a):x=.tup a:=by cases x <;> first|(cases h;rfl)|cases h
section
variable {X:Cx}{W:Addr->Prop}{pins:List (Addr×Obj)}{s:Y4}{σ:St}{H:Hp}
theorem wx (I:Inv X pins σ H s):∀{ms:List Mx} {vs:List V} {us:List Y1},(∀ks,acp ks∈ms->∀k∈ks,k≠[])->ai X.prog X.w W H (ms.map PH) vs->Vals vs us->Ay s.heap s.heap.objs.size us ms
 |[],_,_,_,r,v=>by
  cases (show _=[] from r)
  cases v;exact .nil
 |.inl i::ms,_,_,hk,⟨v,vs,rfl,r1,r2⟩,q=>by
  cases (show v=.int i from r1)
  cases q with
  |cons a b =>
   obtain⟨t,rfl⟩:=a;exact .int (wx I (λks h=>hk ks (Zu _ h)) r2 b)
 |.inr ks::ms,_,_,hk,⟨v,vs,rfl,r1,r2⟩,q=>by
  obtain⟨p,us,rfl,hp,_,rs⟩:=r1;obtain⟨ts,rfl,T,rfl⟩:=qh (hk _ ZK) rs;cases q with
  |cons a b =>
   cases a;obtain⟨its,r',pl,_⟩:=I.list (dj.of hp);obtain rfl:=pD r';obtain⟨o1,p1,_⟩:=id pl.isList;refine .lst {Zo p1,ts,pl.isList,rfl,λt ht=>?_} (wx I (λks h=>hk ks (Zu _ h)) r2 b);obtain⟨g1,_⟩:=T t ht;obtain⟨i1,a1,l1,_⟩:=I.tuple (u_.of g1);obtain⟨o2,p2,_⟩:=id l1;exact{Zo p2,_,l1,by simpa using intsAre_of a1}
def tf (I:Inv X pins σ H s){x:D}{a:List D}{ms:List Mx}{v:V}(h1:x.Ed=some a)(h2:kS a=some ms)(r:aC X.prog X.w W H x v):∃p,v=.ref p/\TupAt s.heap s.heap.objs.size p ms:=by
 rw[Kl h1]at r;obtain⟨e,hk⟩:=rW h2;rw[e]at r;obtain⟨p,vs,rfl,hp,rs⟩:=r;obtain⟨its,a1,l1,_⟩:=I.tuple (u_.of hp);obtain⟨o2,p2,_⟩:=id l1;exact{p,rfl,Zo p2,_,l1,by simpa using wx I hk rs a1}
end
end L2
namespace L2.Q
open PySem PySem.Spec PySem.SeqAt PyProof.Rows
def Ce:bb->Bool
 |[]=>true
 |some (.hand _)::_=>false
 |_::β=>Ce β
theorem il:∀{β:bb} {i:Nat} {ok:List Int->Prop},Ce β=true->β[i]?≠some (some (.hand ok))
 |[],_,_,_,z=>by simp at z
 |none::β,0,_,_,z=>by simp at z
 |none::β,i+1,_,h,z=>il (β:=β) h (by simpa using z)
 |some (.hand _)::_,_,_,h,_=>by cases h
 |some (.val _ _)::β,0,_,_,z=>by simp at z
 |some (.val _ _)::β,i+1,_,h,z=>il (β:=β) h (by simpa using z)
 |some (.own _)::β,0,_,_,z=>by simp at z
 |some (.own _)::β,i+1,_,h,z=>il (β:=β) h (by simpa using z)
 |some (.shl _ _)::β,0,_,_,z=>by simp at z
 |some (.shl _ _)::β,i+1,_,h,z=>il (β:=β) h (by simpa using z)
open Classical in
noncomputable def kq (C:Cfg)(own:Nat->List Addr)(H:Hp)(a:Addr):Cfg:={λc=>if c=a then some (.lst []) else if Wn own c then H c else C.H0 c,λc=>C.IO c\/c=a,C.ro,λc=>c=a}
section
variable {X:Cx}{C:Cfg}{σ:St}{H:Hp}{β:bb}{own:Nat->List Addr}{a:Addr}{lk:List (Option Nat)}
def O3:(kq C own H a).H0 a=some (.lst []):=if_pos rfl
def w6 {c:Addr}(h:c≠a)(w:Wn own c):(kq C own H a).H0 c=H c:=by
 show (if c=a then _ else _)=_
 rw[if_neg h,if_pos w]
def sL {c:Addr}(h:c≠a)(w:¬ Wn own c):(kq C own H a).H0 c=C.H0 c:=by
 show (if c=a then _ else _)=_
 rw[if_neg h,if_neg w]
def O2 (s:SQ X C σ H β own):∀c,av C (Wn own) .dt c\/c=a->(kq C own H a).H0 c≠none:=λc z=>by
 by_cases e:c=a
 ·rw[e,O3];exact λz=>(nomatch z)
 ·by_cases w:Wn own c
  ·rw[w6 e w];exact s.sD c w
  ·rw[sL e w];rcases z with (z|z)|z
   ·exact absurd z w
   ·exact z
   ·exact absurd z e
def DF:∀c,(kq C own H a).H0 c≠none->av C (Wn own) .dt c\/c=a:=λc z=>by
 by_cases e:c=a
 ·exact .inr e
 ·by_cases w:Wn own c
  ·exact .inl (.inl w)
  ·rw[sL e w]at z;exact .inl (.inr z)
def bj.K5 (s:SQ X C σ H β own)(ha:H a=none)(nh:Ce (b9 lk β)=true):SQ X (kq C own H a) (fc lk σ) (upd H a (.lst [])) (b9 lk β) (λ_=>[]):=by
 have sm:aB H (upd H a (.lst [])):=aB.new ha;have na:∀{i c},c∈own i->c≠a:=λ{i c} hc z=>(s.dm i c hc).1 (by rw[z];exact ha)
 have gr:∀y c,eD (kq C own H a) (Wn λ_=>[]) (yk y) c->eD C (Wn own) (yk y) c\/H c=none:=λy c z=>by
  rcases z with z|z
  ·cases y with
   |true =>
    rcases z with⟨_,z⟩|z
    ·cases z
    ·rcases DF c z with z|z
     ·exact .inl (.inl z)
     ·exact .inr (by rw[z];exact ha)
   |false=>obtain⟨_,z⟩:=z;cases z
  ·exact .inr (by rw[show c=a from z];exact ha)
 have gf:∀c,eD (kq C own H a) (Wn λ_=>[]) .old c->c=a:=λc z=>by
  rcases z with⟨_,z⟩|z
  ·cases z
  ·exact z
 refine{by unfold b9 fc;simp,λi y d e=>?_,λi d e=>?_,λi ok e=>absurd e (il nh),λi c h=>(nomatch h),λi i' c h1 h2=>(nomatch h1),λi=>Z5,{λc o z n=>?_,λc xs z=>?_},λc z e=>?_,λi y d e=>?_}
 ·obtain⟨j,b',e1,e2,e3⟩:=dM e;cases b' with
  |val y' d' =>
   cases e3;obtain⟨v,h1,h2⟩:=s.val j y d e2;exact{v,d9 e1 h1,(aC.grow (gr _) h2).same sm}
  |own d' =>
   cases e3;obtain⟨v,h1,h2,h3⟩:=s.ow j d e2;exact{v,d9 e1 h1,aC.same sm (h2.rep λc hc z=>na hc (gf c z))}
  |hand ok=>cases e3
  |shl y' d' =>
   cases e3;obtain⟨v,h1,h2,h3⟩:=s.shl j y' d e2;exact{v,d9 e1 h1,aC.same sm (h2.rep (λc hc z=>na hc (gf c z)) λds vs r=>ai.grow (λc z=>.inr (by rw[gf c z];exact ha)) r)}
 ·obtain⟨j,b',e1,e2,e3⟩:=dM e;cases b' <;> cases e3
 ·have ne:c≠a:=λz=>n (.inr z)
  by_cases w:Wn own c
  ·rw[w6 ne w]at z;exact sm _ _ z
  ·rw[sL ne w]at z;exact sm _ _ (s.kp.out c o z λq=>n (.inl q))
 ·by_cases ne:c=a
  ·rw[ne,O3]at z;cases z
  by_cases w:Wn own c
  ·rw[w6 ne w]at z;exact sm _ _ z
  ·rw[sL ne w]at z;exact sm _ _ (s.kp.tup c xs z)
 ·by_cases ne:c=a
  ·rw[ne,ak]at e;cases e
  rw[au ne]at e;rcases DF c z with (z|z)|z
  ·exact s.sD c z e
  ·exact s.fS c z e
  ·exact ne z
 ·obtain⟨j,b',e1,e2,e3⟩:=dM e;cases b' <;> cases e3
def bj.MS {P:Y7}{w:Zj}{o oa:HO}(s:bj P w C σ H β own)(hU:C.U a)(hI:C.IO a)(ha:H a=some oa)(ht:∀xs,oa≠.tup xs):bj P w C σ (upd H a o) β own:=by
 have k:Kp (·=a) H (upd H a o):=k7 ha ht;have na:∀{i c},c∈own i->c≠a:=λ{i c} hc z=>(s.dm i c hc).2.2.2 (by rw[z];exact hU)
 have kU:∀y,Kp (eD C (Wn own) (yk y)) H (upd H a o):=λy=>k.mono λc z=>.inr (by rw[z];exact hU)
 refine⟨s.len,λi y d e=>let ⟨v,h1,h2⟩:=s.val i y d e;{v,h1,h2.keep (kU y)},λi d e=>let ⟨v,h1,h2,h3⟩:=s.ow i d e;{v,h1,h2.keep k.tup (λc hc oc ec=>k.out c oc ec (na hc)),h3},
  λi ok e=>?_,λi c h=>?_,s.jm,s.jq,{λc oc z n=>k.out c oc (s.kp.out c oc z n) λq=>n (by rw[q];exact hI),λc xs z=>k.tup c xs (s.kp.tup c xs z)},λc z=>?_,λi y d e=>let ⟨v,h1,h2,h3⟩:=s.shl i y d e;{v,h1,h2.map (λc hc oc ec=>k.out c oc ec (na hc)) (λ_ _ r=>r.keep (kU true)),h3}⟩
 ·obtain⟨h,ns,h1,h2,h3,h4,h5⟩:=s.nN i ok e;exact{h,ns,h1,k.out h _ h2 (na (by rw[h4];simp)),h3,h4,h5}
 ·rw[au (na h)];exact s.dm i c h
 ·by_cases q:c=a
  ·rw[q,ak];exact λz=>(nomatch z)
  ·rw[au q];exact s.fS c z
end
def qd (γ:da)(τ:a_)(φ:aQ)(ds:List D)(k:Kd)(β0:bb)(K:List D->Prop):Prop:=∃I:Nat->bb->List D->Prop,I 0 β0 [] /\
 (∀i d β o,ds[i]?=some d->I i β o->γ d (sk k d) β λβ1=>τ β1 λt β2=>if t=true then φ β2 λx kx β3=>LM kx x/\o.length<Zd/\I (i+1) β3 (o++[x]) else I (i+1) β2 o)/\∀β o,I ds.length β o->K o
def qd.mono {γ:da}{τ:a_}{φ:aQ}{ds:List D}{k:Kd}{β0:bb}{K K':List D->Prop}(h:∀o,K o->K' o)(q:qd γ τ φ ds k β0 K):qd γ τ φ ds k β0 K':=let ⟨I,h0,h1,h2⟩:=q;{I,h0,h1,λβ o z=>h _ (h2 β o z)}
section
variable {X:Cx}{C:Cfg}{lk:List (Option Nat)}{γ:da}{τ:a_}{φ:aQ}{T:List Nat}
def UC (X:Cx)(T:List Nat)(γ:da)(v:V)(σ:St)(H:Hp)(Q:St->Hp->Prop):Prop:=∃C own β d k,SQ X C σ H β own/\Rp X (eD C (Wn own) k) H d v/\γ d k β λβ'=>∀σ' a8,SQ X C σ' H β' a8->(∀a,Wn a8 a->Wn own a)->(∀j,j∉T->σ'[j]?=σ[j]?)->Q σ' H
def wZ {σ:St}{H1:Hp}{β:bb}{own:Nat->List Addr}{a:Addr}{J:It}{ds:List D}{k:Kd}{K:List D->Prop}{End:Hp->Prop}
  (γm:∀d k β R R',(∀r,R r->R' r)->γ d k β R->γ d k β R') (τm:∀β R R',(∀d β,R d β->R' d β)->τ β R->τ β R') (φm:∀β R R',(∀d k β,R d k β->R' d k β)->φ β R->φ β R')
  (s1:SQ X C σ H1 β own) (ha:H1 a=none) (nh:Ce (b9 lk β)=true) (it:Az X (av C (Wn own) k) J ds H1) (q:qd γ τ φ ds k (b9 lk β) K)
  (fin:∀o H',K o->Out X C σ H1 own true β H' own->KV X.prog X.w C (H1,Wn own) own H' .dt (.lst o) (.ref a)->End H') :
  gO J (UC X T γ) (λσ H Q=>∃C,kA X C true τ σ H Q) (λN σ H=>∃C,tQ X C true φ σ H λv H1=>∃xs,H1 a=some (.lst xs)/\xs.length<Zd/\N σ (upd H1 a (.lst (xs++[v]))))
   (λ_ H'=>End H') (fc lk σ) (upd H1 a (.lst [])):=by
 obtain⟨I,i0,i1,i2⟩:=q;have h0:C.H0 a=none:=ZH λz=>s1.fS a z ha;have sm:aB H1 (upd H1 a (.lst [])):=aB.new ha;let W:Addr->Prop:=λb=>av C (Wn own) .dt b\/b=a
 let S:Nat->St->Hp->Prop:=λi σ' H'=>∃βi rK vs o,SQ X (kq C own H1 a) σ' H' βi rK/\(∀c,¬ Wn rK c)/\H' a=some (.lst vs)/\ai X.prog X.w W H' o vs/\aB H1 H'/\I i βi o
 have LN:=it (λb=>av C (Wn own) k b\/H1 b=none) λb z=>z;refine{λi m σ' H'=>i<=ds.length/\m=ds.length-i/\S i σ' H',{_,Zn _,rfl,b9 lk β,λ_=>[],[],[],s1.K5 ha nh,(λc z=>by obtain⟨_,z⟩:=z;cases z),ak,rfl,sm,i0},?_}
 rintro i m σ2 H2 ⟨hi,rfl,βi,rK,vs,o,sq,le,Vs,os,pu,hl⟩;obtain⟨dJ,se⟩:=LN i H2 (pu.kp.mono λb z=>.inr z)
 by_cases dE:i<ds.length
 ·right
  have hd:ds[i]?=some ds[i]:=Y5 dE;obtain⟨go,yl⟩:=dJ _ hd;refine{go,λσ' H'=>S (i+1) σ' H',λσ' H' h=>{_,by lia,dE,rfl,h},λx H3 y=>?_}
  obtain⟨s3,r3⟩:=yl x H3 y;have XT:∀c,eD (kq C own H1 a) (Wn rK) k c->av C (Wn own) k c\/H1 c=none:=λc z=>by
   rcases z with z|z
   ·have key:∀c,(kq C own H1 a).H0 c≠none->(Wn own c\/C.H0 c≠none)\/H1 c=none:=λc z=>by
     rcases DF c z with z|z
     ·exact .inl z
     ·exact .inr (by rw[z];exact ha)
    cases k with
    |own=>exact z.elim (λz=>absurd z (le c)) (key c)
    |dt=>exact z.elim (λz=>absurd z (le c)) (key c)
    |old=>exact absurd z (le c)
    |bor=>exact z.elim
   ·exact .inr (by rw[show c=a from z];exact ha)
  refine{kq C own H1 a,rK,βi,_,_,sq.same s3,qZ (aC.aY XT r3),γm _ _ _ _ _ (λβ4 q σ4 v_ s4 w4 t4=>?_) (i1 i _ βi o hd hl)};refine{kq C own H1 a,β4,v_,s4,τm _ _ _ (λt β5 q H5 rM o5=>?_) q};have U7:∀c,¬ Wn rM c:=λc z=>le c (w4 c (o5.le c z));obtain⟨s5,e5⟩:=o5.pu rfl;have UQ:aB H1 H5:=(pu.trans s3).trans s5;have Q8:ai X.prog X.w W H5 o vs:=(os.same s3).same s5;have OL:H5 a=some (.lst vs):=s5 _ _ (s3 _ _ Vs);cases t with
  |false=>exact{(β5),rM,vs,o,o5.sq,U7,OL,Q8,UQ,q}
  |true =>
   refine{kq C own H1 a,β5,rM,o5.sq,φm _ _ _ (λxd kx β6 i5 v H6 Fs o6 r6=>?_) q};obtain⟨f,hz,q⟩:=i5;obtain⟨s6,e6⟩:=o6.pu rfl;have wI:H6 a=some (.lst vs):=s6 _ _ OL;have QU:aC X.prog X.w W H6 xd v:=aC.aY (λc z=>.inr (O2 s1 c z)) (KV.yg f r6);have U9:Kp W H6 (upd H6 a (.lst (vs++[v]))):=r9 wI (λxs z=>by cases z) (.inr rfl)
   refine{vs,wI,by rw[Q8.length];exact hz,β6,Fs,vs++[v],o++[xd],o6.sq.MS rfl (.inr rfl) wI (λxs z=>by cases z),λc z=>U7 c (o6.le c z),ak,((Q8.same s6).keep U9).append (.one (QU.keep U9)),λb ob e=>?_,q}
   rw[au (λz'=>by rw[z',ha]at e;cases e)]
   exact s6 b ob (UQ b ob e)
 ·left
  have e:i=ds.length:=by lia
  subst e;have q:=i2 βi o hl;exact{se (Y8 _),fin o H2 q {s1.same pu,Sn.refl.same pu,λ_=>{(pu),rfl},λ_ z=>z} {a,vs,rfl,Vs,λz=>z.elim (λnM=>by obtain⟨j,hj⟩:=nM;exact(s1.dm j a hj).1 ha) λz=>z h0,ai.aY (λc z=>.inl z) os}}
def Jf (lk:List (Option Nat))(ι:cV)(γ:da)(τ:a_)(φ:aQ):aQ:=λβ R=>ι β λds k β1=>Ce (b9 lk β1)=true/\qd γ τ φ ds k (b9 lk β1) λo=>R (.lst o) .dt β1
variable {scope:abB}{N':List Str}{tg dJ elt:Expr}{ifs:List Expr}{ι:cV}{pi:Bool}{pos:Pos}
def Wx (N':List Str)(lk:List (Option Nat))(L:iq X.env.scope.names X.N scope N' lk=true)(vi:N'.Nodup)(hc:X.calm=true)(hi:AJ X C pi tg dJ ι)
  (uv:∀C cl c s H ex,AK (aK X scope N' cl c s H ex) C tg T γ) (uu:∀C cl c s H ex,sQ (aK X scope N' cl c s H ex) C true ifs τ) (uy:∀C cl c s H ex,PQ (aK X scope N' cl c s H ex) C true elt φ)
  (hs:∀x,aad dJ X.env x=pure x:=by intro _;rfl):PQ X C pi (.ListComp elt [{tg,dJ,ifs,0}] scope pos) (Jf lk ι γ τ φ):=by
 have L':=Links.of L;have γm:=(uv C [] 0 X.s₀ X.H₀ []).mono;have τm:=(uu C [] 0 X.s₀ X.H₀ []).mono;have φm:=(uy C [] 0 X.s₀ X.H₀ []).mono;refine{λβ R R' k h=>hi.mono β _ _ (λds kd β1 q=>{q.1,q.2.mono λo z=>k _ _ _ z}) h,?_};refine(jP (g:={tg,dJ,ifs,0}) (gs:=[]) (tg:=λ_=>UC X T γ) (tt:=λ_ σ H Q=>∃C,kA X C true τ σ H Q) (ta:=λa N σ H=>∃C,tQ X C true φ σ H λv H1=>∃xs,H1 a=some (.lst xs)/\xs.length<Zd/\N σ (upd H1 a (.lst (xs++[v]))))
  L' hc jX rfl rfl (λ_ _=>DE) hi.pi (λa cl c s H ex=>{?_,?_,?_}) hs).pre λσ H Q ⟨β,own,s,h⟩=>?_
 ·intro pins s' σ' H' v x Q I rv ⟨C',h⟩;exact(uv C' cl c s H ex).pg pins s' σ' H' v x Q I rv h
 ·intro pins s' σ' H' Q I ⟨C',h⟩;exact(uu C' cl c s H ex).pt pins s' σ' H' Q I h
 ·exact jT (te:=λσ H Q=>∃C,tQ X C true φ σ H Q) rfl λpins s' σ' H' Q I ⟨C',h⟩=>(uy C' cl c s H ex).pe pins s' σ' H' Q I h
 ·refine{β,own,s,hi.mono β _ _ (λds k β1 l5 J H1 ay o1 it a ha=>?_) h};obtain⟨nh,q⟩:=l5;exact wZ γm τm φm o1.sq ha nh it q λo H' q o2 r=>q _ _ ay (o1.yJ o2 λz=>{(z),rfl}) (r.later o1.sn)
end
open AI GX
def J6 {α:Type}{γ:da}{τ:a_}{φ:aQ}{l:List α}{f:α->D}{k:Kd}{cap:bb}{K:List D->Prop}(t:α->Bool)(g:α->D)(hl:l.length<=Zd)
  (h:∀x∈l,∀(x0:Option B) (o:List D) (J:bb->List D->Prop),o.length<Zd->(t x=true->∀x0,J (x0::cap) (o++[g x]))->(t x=false->∀x0,J (x0::cap) o)->γ (f x) (sk k (f x)) (x0::cap) λβ1=>τ β1 λt β2=>if t=true then φ β2 λx kx β3=>LM kx x/\o.length<Zd/\J β3 (o++[x]) else J β2 o)
  (q:K ((l.filter t).map g)):qd γ τ φ (l.map f) k (none::cap) K:=by
 refine{λi β o=>i<=l.length/\(∃x0,β=x0::cap)/\o=((l.take i).filter t).map g,{Zn _,{_,rfl},rfl},?_,?_}
 ·rintro i d β o hd ⟨hi,⟨x0,rfl⟩,rfl⟩;rw[Zg]at hd;obtain⟨x,hx,rfl⟩:=Zh.mp hd;have dE:i<l.length:=(Y_.mp hx).1;have hle:(((l.take i).filter t).map g).length<Zd:=by
   rw[Y3];have:=aaT t (l.take i);rw[ZI]at this;lia
  have e:l.take (i+1)=l.take i++[x]:=by rw[ZS,hx];rfl
  refine h x (ZT hx) x0 _ (λβ o=>i+1<=l.length/\(∃x0,β=x0::cap)/\o=((l.take (i+1)).filter t).map g) hle (λht x0=>?_) λht x0=>?_
  ·exact{dE,{_,rfl},by rw[e,aaR,Zl,aaE,if_pos ht];rfl}
  ·exact{dE,{_,rfl},by rw[e,aaR,Zl,aaE,if_neg (by rw[ht];simp)];simp}
 ·rintro β o ⟨_,⟨x0,rfl⟩,rfl⟩;rw[Y3,aai];exact q
abbrev WS:=Int×List NN
def bD (x:WS):D:=.tup [.int x.1,l0 x.2]
def Lr (L:List WS):D:=.lst (L.map bD)
def nD (x:WS):D:=.tup [.int (0-x.1),l0 x.2]
def Md (S:List NN):l0 S=.lst ((S.map tI).map kD):=by unfold l0;rw[Z7];rfl
def Mr {S:List NN}:∀k∈S.map tI,k≠[]:=λk hk=>by
 obtain⟨p,_,rfl⟩:=ZN.mp hk;exact λz=>by cases z
def Hu {a:Int}{S:List NN}:kS [.int a,l0 S]=some [.inl a,.inr (S.map tI)]:=by
 rw[Md];exact nk (ms:=[.inl a,.inr (S.map tI)]) λks hk=>by
  rcases Y6.mp hk with z|z
  ·cases z
  ·cases Zc.mp z;exact Mr
def Rh {x y:WS}:Aa (nD y) (nD x)=some (.bl (Qd y x)):=by
 refine GC Hu Hu ?_;show (if 0-y.1=0-x.1 then (if y.2.map tI=x.2.map tI then FW [] [] else some (i4 (y.2.map tI) (x.2.map tI))) else some (decide (0-y.1<0-x.1)))=_
 unfold Qd
 by_cases e:y.1=x.1
 ·rw[if_pos (by lia),if_pos e]
  by_cases z:y.2.map tI=x.2.map tI
  ·rw[if_pos z,z];have:i4 (x.2.map tI) (x.2.map tI)=false:=by
    cases q:i4 (x.2.map tI) (x.2.map tI)with
    |false=>rfl
    |true=>rw[ny q]at q;cases q
   rw[this];rfl
  ·rw[if_neg z]
 ·rw[if_neg (by lia),if_neg e]
  exact congrArg some (decide_eq_decide.mpr (by lia))
def oA (p:NN)(wt:Int)(F:List WS)(k:Nat)(x:WS)(m:Nat)(y:WS):List WS :=
 if k+m=F.length then F++[(x.1+y.1+wt,p::(x.2++y.2))] else F.set (k+m) (pk (F.getD (k+m) (0,[])) (x.1+y.1+wt,p::(x.2++y.2)))
def ky (p:NN)(wt:Int)(M F:List WS)(k:Nat)(x:WS):Nat->List WS
 |0=>F
 |m+1=>oA p wt (ky p wt M F k x m) k x m (M.getD m (0,[]))
def ja (p:NN)(wt:Int)(L M:List WS):Nat->List WS
 |0=>[]
 |k+1=>ky p wt M (ja p wt L M k) k (L.getD k (0,[])) M.length
section
variable {p:NN}{wt:Int}{L M F:List WS}{k m:Nat}{x:WS}
def Au {y:WS}:(oA p wt F k x m y).length=if k+m=F.length then F.length+1 else F.length:=by
 unfold oA
 split
 ·rw[Zk];rfl
 ·rw[ab8]
theorem iW (h:k<=F.length):∀m,(ky p wt M F k x m).length=max F.length (k+m)
 |0=>by show F.length=_;lia
 |m+1=>by
  show (oA p wt (ky p wt M F k x m) k x m _).length=_;rw[Au,iW h m]
  split <;> lia
theorem iV (hM:M≠[]):∀k,(ja p wt L M (k+1)).length=k+M.length
 |0=>by
  show (ky p wt M [] 0 _ M.length).length=_;rw[iW (Zn _)];show max 0 _=_;lia
 |k+1=>by
  have:=List.length_pos_iff.mpr hM;show (ky p wt M (ja p wt L M (k+1)) (k+1) _ M.length).length=_;rw[iW (by rw[iV hM k];lia),iV hM k]
  lia
theorem DL (hM:M≠[]):∀k,k<=(ja p wt L M k).length
 |0=>Zn _
 |k+1=>by
  have:=List.length_pos_iff.mpr hM;rw[iV hM k];lia
def qK (hM:M≠[]){i j:Nat}(hj:j<M.length)(hi:i<k):i+j<(ja p wt L M k).length:=by
 cases k with
 |zero=>lia
 |succ k=>rw[iV hM k];lia
end
def L4 (A B:List NN->Prop)(p:NN)(k m t:Nat)(S:List NN):Prop:=∃x y,A x/\B y/\S=p::(x++y)/\x.length+y.length=t/\(x.length<k\/(x.length=k/\y.length<m))
section
variable {w:NN->Int}{A B:List NN->Prop}{p:NN}{L M:List WS}
def As {F:List WS}{k m:Nat}{x y:WS}(hF:∀t z,F[t]?=some z->lI w (L4 A B p k m t) z)(hx:lI w (λS=>A S/\S.length=k) x)(hy:lI w (λS=>B S/\S.length=m) y)(hl:k+m<=F.length)
  (Qb:∀i j,j<M.length->(i<k\/(i=k/\j<m))->i+j<F.length) (hB:∀S,B S->S.length<M.length):∀t z,(oA p (w p) F k x m y)[t]?=some z->lI w (L4 A B p k (m+1) t) z:=by
 have hc:lI w (λS=>∃a b,(A a/\a.length=k)/\(B b/\b.length=m)/\S=p::(a++b)) (x.1+y.1+w p,p::(x.2++y.2)):=hx.cat hy;have other:∀t z,t≠k+m->F[t]?=some z->lI w (L4 A B p k (m+1) t) z:=λt z ht hz=>(hF t z hz).wk λS=>by
  constructor
  ·rintro⟨a,b,h1,h2,h3,h4,h5⟩;exact{a,b,h1,h2,h3,h4,by lia}
  ·rintro⟨a,b,h1,h2,h3,h4,h5⟩;exact{a,b,h1,h2,h3,h4,by lia}
 intro t z hz;unfold oA at hz
 by_cases e:k+m=F.length
 ·rw[if_pos e]at hz
  by_cases ht:t<F.length
  ·rw[aaa ht]at hz;exact other t z (by lia) hz
  ·rw[ZY (by lia)]at hz
   have:t-F.length=0:=by
    cases h:t-F.length with
    |zero=>rfl
    |succ r=>rw[h]at hz;simp at hz
   rw[this]at hz;cases hz;have et:t=k+m:=by lia
   subst et;refine hc.wk λS=>?_;constructor
   ·rintro⟨a,b,h1,h2,h3,h4,h5⟩;have:=Qb a.length b.length (hB b h2);exact{a,b,{h1,by lia},{h2,by lia},h3}
   ·rintro⟨a,b,⟨h1,h2⟩,⟨h3,h4⟩,h5⟩;exact{a,b,h1,h3,h5,by lia,by lia}
 ·rw[if_neg e]at hz
  by_cases ht:t=k+m
  ·subst ht;have dE:k+m<F.length:=by lia
   rw[abQ (by lia)]at hz
   cases hz;have hg:=Y5 dE;rw[show F.getD (k+m) (0,[])=F[k+m] by rw[Zx,hg];rfl]
   refine((hF _ _ hg).pick hc).wk λS=>?_;constructor
   ·rintro⟨a,b,h1,h2,h3,h4,h5⟩
    by_cases q:a.length=k/\b.length=m
    ·exact .inr {a,b,{(h1),q.1},{(h2),q.2},h3}
    ·exact .inl {a,b,h1,h2,h3,h4,by lia}
   ·rintro (⟨a,b,h1,h2,h3,h4,h5⟩|⟨a,b,⟨h1,h2⟩,⟨h3,h4⟩,h5⟩)
    ·exact{a,b,h1,h2,h3,h4,by lia}
    ·exact{a,b,h1,h3,h5,by lia,by lia}
  ·rw[abq (Z_ ht)]at hz;exact other t z ht hz
theorem oC {F:List WS}{k:Nat}{x:WS}(hM:Bz w B M)(hF:∀t z,F[t]?=some z->lI w (L4 A B p k 0 t) z)(hx:lI w (λS=>A S/\S.length=k) x)(hk:k<=F.length)(Qb:∀i j,j<M.length->i<k->i+j<F.length):
  ∀m,m<=M.length->∀t z,(ky p (w p) M F k x m)[t]?=some z->lI w (L4 A B p k m t) z
 |0,_=>hF
 |m+1,hm=>by
  have hg:=Y5 (show m<M.length by lia)
  have ln:=iW (p:=p) (wt:=w p) (M:=M) (x:=x) hk m;show ∀t z,(oA p (w p) (ky p (w p) M F k x m) k x m (M.getD m (0,[])))[t]?=some z->_;rw[show M.getD m (0,[])=M[m] by rw[Zx,hg];rfl]
  refine As (M:=M) (oC hM hF hx hk Qb m (by lia)) hx (hM.at_ m _ hg) (by lia) (λi j hj h=>?_) hM.len
  rw[ln];rcases h with h|h
  ·have:=Qb i j hj h;lia
  ·lia
theorem oB (hL:Bz w A L)(hM:Bz w B M)(vg:M≠[]):∀k,k<=L.length->∀t z,(ja p (w p) L M k)[t]?=some z->lI w (L4 A B p k 0 t) z
 |0,_=>λt z h=>by simp[ja]at h
 |k+1,hk=>by
  have hg:=Y5 (show k<L.length by lia)
  intro t z hz;have hz:(ky p (w p) M (ja p (w p) L M k) k (L.getD k (0,[])) M.length)[t]?=some z:=hz;rw[show L.getD k (0,[])=L[k] by rw[Zx,hg];rfl]at hz
  refine(oC hM (oB hL hM vg k (by lia)) (hL.at_ k _ hg) (DL vg k) (λi j hj h=>qK vg hj h) M.length (Y8 _) t z hz).wk λS=>?_
  constructor
  ·rintro⟨a,b,h1,h2,h3,h4,h5⟩;have:=hM.len b h2;exact{a,b,h1,h2,h3,h4,by lia}
  ·rintro⟨a,b,h1,h2,h3,h4,h5⟩;exact{a,b,h1,h2,h3,h4,by lia}
def GQ {N:List NN->Prop}{L0:List WS}{x0:WS}(hL:Bz w A L)(hM:Bz w B M)(vg:M≠[])(hl:L≠[])(h0:Bz w N L0)(hn:N [])(e0:L0[0]?=some x0):
  Bz w (λS=>S=[]\/∃a b,A a/\B b/\S=p::(a++b)) (x0::ja p (w p) L M L.length):=by
 have P1:=List.length_pos_iff.mpr hl;refine{λS s=>?_,λk x hx=>?_}
 ·rw[Zb];rcases s with rfl|⟨a,b,h1,h2,rfl⟩
  ·exact Nat.succ_pos _
  ·have:=hL.len a h1;have:=hM.len b h2;have:=qK (p:=p) (wt:=w p) (L:=L) vg (hM.len b h2) (hL.len a h1);rw[Zb,Zk];lia
 ·cases k with
  |zero =>
   cases hx;refine(h0.at_ 0 _ e0).wk λS=>?_;constructor
   ·rintro⟨h,h'⟩;rw[List.eq_nil_of_length_eq_zero h'];exact{(hn),rfl}
   ·rintro⟨h,h'⟩;exact{.inl (List.eq_nil_of_length_eq_zero h'),h'}
  |succ k =>
   rw[abK]at hx;refine(oB hL hM vg _ (Y8 _) k x hx).wk λS=>?_;constructor
   ·rintro⟨h|⟨a,b,h1,h2,h3⟩,h'⟩
    ·rw[h]at h';cases h'
    ·refine{a,b,h1,h2,h3,?_,.inl (hL.len a h1)};rw[h3,Zb,Zk]at h';lia
   ·rintro⟨a,b,h1,h2,h3,h4,h5⟩;exact{.inr {(a),b,h1,h2,h3},by rw[h3,Zb,Zk];lia}
end
def Bz.uniq {w:NN->Int}{M:List NN->Prop}{L L':List WS}(h:Bz w M L)(k:Bz w M L'):L=L':=by
 have le:∀{L L':List WS},Bz w M L->Bz w M L'->L'.length<=L.length:=λ{L L'} h k=>by
  refine acC λz=>?_;have b:=(k.at_ L.length _ (Y5 z)).mem;have:=h.len _ b.1;have:=b.2;lia
 apply aau;intro j
 by_cases hj:j<L.length
 ·have P4:j<L'.length:=ZD hj (le k h);rw[Y5 hj,Y5 P4,(h.at_ j _ (Y5 hj)).uniq (k.at_ j _ (Y5 P4))]
 ·rw[ZF (by lia),ZF (by have:=le h k;lia)]
noncomputable def Bz.wk {w:NN->Int}{M N:List NN->Prop}{L:List WS}(h:Bz w M L)(e:∀S,N S↔M S):Bz w N L:={λS s=>h.len S ((e S).mp s),λk x hx=>(h.at_ k x hx).wk λS=>by rw[e]}
open Classical in
noncomputable def Qc (w:NN->Int)(M:List NN->Prop):List WS:=if h:∃L,Bz w M L then h.choose else []
def DI {w:NN->Int}{M:List NN->Prop}{L:List WS}(h:Bz w M L):Qc w M=L:=by
 have e:∃L,Bz w M L:={(L),h};unfold Qc;rw[dif_pos e];exact e.choose_spec.uniq h
def Mc (ps:List NN)(i j z:Nat)(S:List NN):Prop:=i9 ps (i+1) j S\/∃k∈(gy ps i).take z,k<j/\∃a b,i9 ps (i+1) k a/\i9 ps (k+1) j b/\S=(i,k)::(a++b)
section
variable {ps:List NN}{w:NN->Int}{i j z k:Nat}
def xU:∀S,Mc ps i j 0 S↔i9 ps (i+1) j S:=λS=>{λh=>h.elim id λux=>by obtain⟨k,hk,_⟩:=ux;simp at hk,.inl}
def hZ {l:List Nat}{z k y:Nat}(hk:l[z]?=some k):y∈l.take (z+1)↔y∈l.take z\/y=k:=by
 rw[ZS,hk,Zt];simp
def Co (hk:(gy ps i)[z]?=some k)(h:¬ k<j):∀S,Mc ps i j (z+1) S↔Mc ps i j z S:=λS=>by
 unfold Mc;constructor
 ·rintro (s|⟨y,hy,h1,r⟩)
  ·exact .inl s
  ·rcases (hZ hk).mp hy with q|q
   ·exact .inr {(y),q,h1,r}
   ·subst q;exact absurd h1 h
 ·rintro (s|⟨y,hy,h1,r⟩)
  ·exact .inl s
  ·exact .inr {y,(hZ hk).mpr (.inl hy),h1,r}
def Cn (hk:(gy ps i)[z]?=some k)(h:k<j):∀S,Mc ps i j (z+1) S↔(Mc ps i j z S\/(S=[]\/∃a b,i9 ps (i+1) k a/\i9 ps (k+1) j b/\S=(i,k)::(a++b))):=λS=>by
 constructor
 ·rintro (s|⟨y,hy,h1,r⟩)
  ·exact .inl (.inl s)
  ·rcases (hZ hk).mp hy with q|q
   ·exact .inl (.inr {(y),q,h1,r})
   ·subst q;exact .inr (.inr r)
 ·rintro ((s|⟨y,hy,h1,r⟩)|rfl|r)
  ·exact .inl s
  ·exact .inr {y,(hZ hk).mpr (.inl hy),h1,r}
  ·exact .inl .nil
  ·exact .inr {k,(hZ hk).mpr (.inr rfl),h,r}
def Cp (hp:∀p∈ps,p.1<p.2)(aD:i<j):∀S,i9 ps i j S↔Mc ps i j (gy ps i).length S:=λS=>by
 rw[kB hp aD];unfold Mc;rw[aai];constructor
 ·rintro (s|⟨k,a,b,h1,h2,h3,h4,h5⟩)
  ·exact .inl s
  ·exact .inr {k,cF.mpr h1,h2,a,b,h4,h5,h3}
 ·rintro (s|⟨k,h1,h2,a,b,h4,h5,h3⟩)
  ·exact .inl s
  ·exact .inr {k,a,b,cF.mp h1,h2,h3,h4,h5}
def FU (hk:(gy ps i)[z]?=some k)(h:k<j){L L1 L2:List WS}{x0:WS}(b0:Bz w (Mc ps i j z) L)(b1:Bz w (i9 ps (i+1) k) L1)(b2:Bz w (i9 ps (k+1) j) L2)(e0:L[0]?=some x0):Bz w (Mc ps i j (z+1)) (qP L (x0::ja (i,k) (w (i,k)) L1 L2 L1.length)):=by
 have n1:L1≠[]:=λe=>by have:=b1.len _ .nil;rw[e]at this;cases this
 have n2:L2≠[]:=λe=>by have:=b2.len _ .nil;rw[e]at this;cases this
 exact(b0.both (GQ (p:=(i,k)) b1 b2 n2 n1 b0 (.inl .nil) e0)).wk (Cn hk h)
def sN (h:¬ i<j)(hp:∀p∈ps,p.1<p.2):Bz w (i9 ps i j) [(0,[])]:=by
 refine{λS s=>by rw[jE hp h s];exact Nat.one_pos,λk x hx=>?_}
 cases k with
 |zero =>
  cases hx;refine{{.nil,rfl},rfl,λS s=>.inr ?_};rw[jE hp h s.1];exact{(rfl),rfl}
 |succ k=>simp at hx
def oz {n:Nat}(hp:∀p∈ps,p.1<p.2/\p.2<n){L:List WS}(b:Bz w (i9 ps i j) L):L.length<=n+1/\∀x∈L,x.2.length<=n:=by
 constructor
 ·refine acC λz=>?_;have q:=(b.at_ (n+1) _ (Y5 z)).mem;have:=qW hp q.1;have:=q.2;lia
 ·intro x hx;obtain⟨k,hk⟩:=abr hx;have q:=(b.at_ k _ hk).mem;have:=qW hp q.1;lia
end
end L2.Q
namespace hJ
open PySem L2 L2.Q
section
variable {P:Y7}{w:Zj}{K:PySem.W.Frag}{mg:Str->Option Y1}{base:Heap}
def cg:aJ ["row","weights","many","ties","worth","found","by_tie"] ["row","weights"] (ao e9):=mkS
def JK {l7 iD} (Ab:Po K mg l7 iD) {dk bL} (dD:yG K mg dk bL) {dF bN} (gG:yF K mg dF bN) {l_ gT} (vp:D6 K mg l_ gT) {cI bq} (eO:D3 K mg cI bq) {cT bu} (fQ:D2 K mg cT bu) {gk di} (lX:D5 K mg gk di) {d_ bU} (i7:D4 K mg d_ bU) {md gU} (yr:D9 K mg md gU) {ki fJ} (vq:D8 K mg ki fJ) {kg fG} (vm:D7 K mg kg fG) (B:Bs3 mg):aE P w K mg base bI 4 l7 iD ["row","weights"] (cY P w true wO):=by
 have xh:aE P w K mg base bI 1 _ _ _ (cY P w true iI):=mv dD B;have Pj:aE P w K mg base bI 1 _ _ _ (cY P w true sv):=wb gG B;have Yd:aE P w K mg base bI 3 _ _ _ (cY P w true nZ):=Ca vp eO fQ lX i7 B;have Ye:aE P w K mg base bI 3 _ _ _ (cY P w true uL):=FF yr eO vq i7 vm B;refine ng Ab.F cg (λds R Oi=> by obtain⟨n,ps,ws,e,_⟩ := Oi;subst e;rfl) λbQ A outer s H E hr=>⟨_,(aj (fD (aN iI.mono xh (hr.mono (by decide)) dD.m dD.F.kp dD.b (aa (ae (i:=0)) (aa (ae (i:=1)) af))))
    (aj (rJ (ae (i:=0)) (c5 (n:=2) rfl (aM (aw (i:=2) cg.nd) (aM (aw (i:=3) cg.nd) b6))))
    (aj (QN (i:=4) (Nat.lt_of_succ_lt hr.gn) ["tie","weight","many"] [none,none,some 2] (by rfl) (by decide:(["tie","weight","many"]:List Str).Nodup) rfl (λ_=>(xE B.zip (aa (ae (i:=3)) (aa (ae (i:=1)) af)))) (λ_ _ _ _ _ _=>(c5 (n:=2) rfl (aM (aw (i:=0) (by decide:(["tie","weight","many"]:List Str).Nodup)) (aM (aw (i:=1) (by decide:(["tie","weight","many"]:List Str).Nodup)) b6)))) (λ_ _ _ _ _ _=>cM) (λ_ _ _ _ _ _=>(ae (i:=0))) (λ_ _ _ _ _ _=>(az ag (bA.m aW) (az ag (bA.m B4) (ae (i:=1)) (az aI aA (ae (i:=2)) ah)) ah)) cg.nd)
    (aj (gA (i:=5) (λ_=>(aN uL.mono Ye (hr.mono (by decide)) yr.m yr.F.kp yr.b (aa (ae (i:=0)) (aa (ae (i:=4)) (aa (aN nZ.mono Yd (hr.mono (by decide)) vp.m vp.F.kp vp.b (aa (ae (i:=0)) (aa (ae (i:=4)) af))) (aa ah (aa (ae (i:=2)) af))))))) cg.nd)
    (aj (aU (i:=6) (aN sv.mono Pj (hr.mono (by decide)) gG.m gG.F.kp gG.b (aa (ae (i:=0)) (aa (ae (i:=1)) af))) cg.nd)
    (ar (Fj (i:=5) (a7 ag (bF.m (Aj rfl)) B.sum Lo (aa (Wx ["tie","by_tie"] [none,some 6] (by rfl) (by decide:(["tie","by_tie"]:List Str).Nodup) rfl (bt (ae (i:=5))) (λ_ _ _ _ _ _=>(aw (i:=0) (by decide:(["tie","by_tie"]:List Str).Nodup))) (λ_ _ _ _ _ _=>cM) (λ_ _ _ _ _ _=>(aT ag (CC hr.gn) (ae (i:=1)) (ae (i:=0))))) af))))))))),λds R h=>?_⟩
 obtain⟨n,ps,ws,rfl,ok,hn,hl,hw,q⟩:=h;have CL:=ok.sm;have hp:∀p∈ps,p.1<p.2:=λp hp=>(ok.lt p hp).1;have WH:(ps.zip ws).length<=400:=by rw[List.length_zip];lia
 refine{_,rfl,tv,_,rfl,tv,n,ps,ws,rfl,hl,?_};refine{_,rfl,_,rfl,rfl,_,_,rfl,_,_,rfl,rfl,?_};refine{_,rfl,tv,_,rfl,tv,_,_,rfl,tv,?_};rw[vy];refine{λm β o=>m<=(ps.zip ws).length/\(∃x0 x1,β=[x0,x1,some (.val true (.int n))])/\o=((ps.zip ws).take m).map λq=>(tI q.1,D.int (q.2*((n:Int)+1)-1)),{Zn _,{_,_,rfl},rfl},?_,?_}
 ·rintro m d β o hd ⟨hm,⟨x0,x1,rfl⟩,rfl⟩;rw[Zg]at hd;obtain⟨z,hz,rfl⟩:=Zh.mp hd;have dE:=(Y_.mp hz).1;refine{_,rfl,rfl,_,_,rfl,_,_,rfl,rfl,?_};have YC:=hw z.2 (abG (ZT hz)).2;refine{_,rfl,_,rfl,tv,_,rfl,tv,_,rfl,_,GB {by lia,by lia},tv,_,rfl,tI z.1,rfl,rfl,xk (k:=λq:(Nat×Nat)×Int=>q.1) (xi ok.nd hz),?_,dE,{_,_,rfl},?_}
  ·rw[Y3,ZI];exact jD (by lia)
  ·rw[ZS,hz,Zl];rfl
 ·rintro β o ⟨_,⟨x0,x1,rfl⟩,rfl⟩;rw[Y3,aai,Im ok.nd hl];refine{tv,_,rfl,tv,_,rfl,tv,_,rfl,tv,_,rfl,tv,n,ps,wh n ps ws,rfl,ok,tv,tv,_,rfl,tv,n,ps,wh n ps ws,0,n,rfl,ok,Zn _,Y8 _,tv,?_};refine{_,rfl,tv,_,rfl,tv,n,ps,ws,rfl,ok,hl,?_};refine{_,rfl,_,rfl,rfl,?_};refine J6 (l:=NG n ps ws) (f:=λp=>kD (tI p)) (λ_=>true) (λp:Nat×Nat=>.int (wf ps ws p)) (bG (by have:=nP (w:=wh n ps ws) hp n 0 n (by lia);show (gh _ _ _ _).length<=_;lia)) (λp hm x0 o J ho j1 _=>?_) ?_
  ·exact{rfl,_,rfl,tv,_,rfl,_,wJ (i:=p.1) (k:=p.2) (j9 hp _ _ _ (Y8 _) p hm),tv,ho,j1 rfl _}
  rw[bS];have e:((NG n ps ws).map λp=>D.int (wf ps ws p))=((NG n ps ws).map (wf ps ws)).map D.int:=by rw[Z7];rfl
  rw[e];exact{tv,_,oi rfl,rfl,_,rfl,q}
end
end hJ
namespace L2.Q
open PySem AI GX
section
variable {ps:List NN}{w:NN->Int}
def GO {M:List NN->Prop}{L:List WS}(b:Bz w M L)(h:M []):∃x,L[0]?=some x:={_,Y5 (b.len _ h)}
def yv (hp:∀p∈ps,p.1<p.2):∀(l a b:Nat),b-a<=l->∃L,Bz w (i9 ps a b) L:=by
 intro l
 induction l with
 |zero=>intro a b h;exact{_,sN (by lia) hp}
 |succ l ih =>
  intro a b h
  by_cases Vv:a<b
  ·have key:∀z,z<=(gy ps a).length->∃L,Bz w (Mc ps a b z) L:=by
    intro z
    induction z with
    |zero=>intro _;obtain⟨L,h⟩:=ih (a+1) b (by lia);exact{L,h.wk xU}
    |succ z WG =>
     intro hz;obtain⟨L,hL⟩:=WG (by lia)
     have hk:=Y5 (show z<(gy ps a).length by lia)
     by_cases Vm:(gy ps a)[z]<b
     ·have Gk:=hp _ (cF.mp (ZT hk));dsimp only at Gk;obtain⟨L1,b1⟩:=ih (a+1) (gy ps a)[z] (by lia)
      obtain⟨L2,b2⟩:=ih ((gy ps a)[z]+1) b (by lia)
      obtain⟨x0,e0⟩:=GO hL (.inl .nil);exact{_,FU hk Vm hL b1 b2 e0}
     ·exact{L,hL.wk (Co hk Vm)}
   obtain⟨L,hL⟩:=key _ (Y8 _);exact{L,hL.wk (Cp hp Vv)}
  ·exact{_,sN Vv hp}
def DH (hp:∀p∈ps,p.1<p.2)(a b:Nat):Bz w (i9 ps a b) (Qc w (i9 ps a b)):=by
 obtain⟨L,h⟩:=yv (w:=w) hp _ a b (Y8 _);rw[DI h];exact h
def JY (hp:∀p∈ps,p.1<p.2){i j z:Nat}(h:i<j)(S:List NN)(m:Mc ps i j z S):i9 ps i j S:=by
 refine(kB hp h).mpr ?_;rcases m with m|⟨k,h1,h2,a,b,h3,h4,h5⟩
 ·exact .inl m
 ·exact .inr {k,a,b,cF.mp (aaW h1),h2,h5,h3,h4}
def An {n i j z:Nat}(hp:∀p∈ps,p.1<p.2/\p.2<n)(aD:i<j){L:List WS}(b:Bz w (Mc ps i j z) L):L.length<=n+1:=by
 refine acC λz=>?_;have q:=(b.at_ (n+1) _ (Y5 z)).mem;have:=qW hp (JY (λp h=>(hp p h).1) aD _ q.1);have:=q.2;lia
end
def AE (p:NN)(t:Int)(M:List WS)(x:WS):List WS:=M.map λy=>(t+x.1+y.1,p::(x.2++y.2))
def Ec (p:NN)(t:Int)(L M:List WS):List WS:=L.flatMap (AE p t M)
def xo (p:NN)(t:Int)(L M:List WS)(m:Nat)(h:M.length<=m):(Ec p t L M).length<=L.length*m:=by
 induction L with
 |nil=>simp[Ec]
 |cons x L ih =>
  have e:Ec p t (x::L) M=AE p t M x++Ec p t L M:=rfl;rw[e,Zk,Zb,Nat.add_mul,show (AE p t M x).length=M.length by simp[AE]]
  lia
def OQ:FD:=λds R=>∃(ps:List NN) (w:NN->Int) (p:NN) (L M:List WS),ds=[kD (tI p),wD ps w,Lr L,Lr M]/\p∈ps/\L.length<=100/\M.length<=100/\(∀x∈L,x.2.length<=100)/\(∀x∈M,x.2.length<=100)/\R (Lr (Ec p (- w p) L M))
def OQ.mono:dq OQ:=λds R R' k h=>by obtain⟨ps,w,p,L,M,e,h1,h2,h3,h4,h5,q⟩:=h;exact{ps,w,p,L,M,e,h1,h2,h3,h4,h5,k _ q}
end L2.Q
namespace hJ
open PySem L2 L2.Q
section
variable {P:Y7}{w:Zj}{K:PySem.W.Frag}{mg:Str->Option Y1}{base:Heap}
def jI:aJ ["tie","by_tie","beneath","behind","turned"] ["tie","by_tie","beneath","behind"] (ao fv):=mkS
def MZ {gi dg} (og:El K mg gi dg) (B:Bs3 mg):aE P w K mg base bI 1 gi dg ["tie","by_tie","beneath","behind"] (cY P w true OQ):=by
 refine ng og.F jI (λds R Oh=> by obtain⟨ps,w,p,L,M,e,_⟩ := Oh;subst e;rfl) λbQ A outer s H E hr=>⟨_,(aj (aU (i:=4) (ib du (aT ag (CC hr.gn) (ae (i:=1)) (ae (i:=0)))) jI.nd)
    (ar (bh (Rr ["low","high","turned","tie","behind"] [none,none,some 4,some 0,some 3] (by rfl) (by decide:(["low","high","turned","tie","behind"]:List Str).Nodup) rfl (bt (ae (i:=2))) (λ_ _ _ _ _ _=>(aw (i:=0) (by decide:(["low","high","turned","tie","behind"]:List Str).Nodup))) (λ_ _ _ _ _ _=>cM) (λ_ _ _ _ _ _=>(pQ (i:=4))) (λ_ _ _ _ _ _=>(aw (i:=1) (by decide:(["low","high","turned","tie","behind"]:List Str).Nodup))) (λ_ _ _ _ _ _=>cM) (λ_ _ _ _ _ _=>(bX (aa (az aI aA (az aI aA (ae (i:=2)) (aT ag bx (ae (i:=0)) ah)) (aT ag bx (ae (i:=1)) ah)) (aa (az aI aA (az aI aA (aS (aa (ae (i:=3)) af)) (aT ag bx (ae (i:=0)) ah)) (aT ag bx (ae (i:=1)) ah)) af)))))))),λds R h=>?_⟩
 obtain⟨ps,wt,p,L,M,rfl,hp,hl,hm,S3,W9,q⟩:=h;refine{_,rfl,tv,_,rfl,_,wJ (i:=p.1) (k:=p.2) hp,_,rfl,rfl,_,rfl,_,rfl,tv,?_};refine{λa β o=>a<=L.length/\(∃x0 x1,β=[x0,x1,some (.val true (.int (- wt p))),some (.val false (kD (tI p))),some (.val false (Lr M))])/\o=(Ec p (- wt p) (L.take a) M).map bD,{Zn _,{_,_,rfl},rfl},?_,?_}
 ·rintro a d β o hd ⟨ha,⟨x0,x1,rfl⟩,rfl⟩;rw[Zg]at hd;obtain⟨x,ex,rfl⟩:=Zh.mp hd;have C0:=(Y_.mp ex).1;have hx:=S3 x (ZT ex);refine{_,_,rfl,λb β o=>b<=M.length/\(∃x1,β=[some (.val false (bD x)),x1,some (.val true (.int (- wt p))),some (.val false (kD (tI p))),some (.val false (Lr M))])/\o=(Ec p (- wt p) (L.take a) M++(AE p (- wt p) M x).take b).map bD,{Zn _,{_,rfl},by simp},?_,?_}
  ·rintro b d β o hd ⟨hb,⟨x1,rfl⟩,rfl⟩;rw[Zg]at hd;obtain⟨y,ey,rfl⟩:=Zh.mp hd;have gY:=(Y_.mp ey).1;have hy:=W9 y (ZT ey);have Xr:Ae (.lst [kD (tI p)]) (l0 x.2)=some (l0 (p::x.2)):=fk (by rw[Y3];show 1+_<=_;lia)
   have Xq:Ae (l0 (p::x.2)) (l0 y.2)=some (l0 (p::(x.2++y.2))):=by
    have:=fk (a:=(p::x.2).map λp=>kD (tI p)) (b:=y.2.map λp=>kD (tI p)) (by simp only[Y3,Zb];lia)
    rw[<- Zl]at this;exact this
   refine{_,rfl,tv,_,rfl,tv,_,rfl,_,rfl,tv,_,rfl,tv,_,rfl,_,rfl,tv,_,rfl,tv,vH,.inr {tv,_,rfl,tv,_,rfl,.inr {_,Xr,.inl {j_,tv,_,rfl,tv,_,rfl,.inr {_,Xq,.inl {j_,tv,lK,tv,?_,gY,{_,rfl},?_}}}}}}
   ·rw[Y3,Zk,ZI];have h1:=xo p (- wt p) (L.take a) M 100 hm;rw[ZI]at h1;have h2:min a L.length*100<=100*100:=Nat.mul_le_mul_right _ (by lia)
    have h3:(AE p (- wt p) M x).length=M.length:=by simp[AE]
    exact Nat.lt_of_le_of_lt (show _<=10100 by lia) (by decide)
   ·have:(AE p (- wt p) M x)[b]?=some (- wt p+x.1+y.1,p::(x.2++y.2)):=by rw[AE,Zg,ey];rfl
    rw[ZS,this,<- Z8,Zl (l₂:=Option.toList _)];rfl
  ·rintro β o ⟨_,⟨x1,rfl⟩,rfl⟩;refine{C0,{_,_,rfl},?_};rw[Y3,ZS,ex,Z4 (show (AE p (- wt p) M x).length<=M.length by simp[AE])]
   simp[Ec,aaO]
 ·rintro β o ⟨_,⟨x0,x1,rfl⟩,rfl⟩;rw[Y3,Z4 (Y8 _)];exact{(tv),tv,q}
end
end hJ
namespace L2.Q
open PySem AI GX
def ji (B:List WS)(x:WS):List WS:=if x.2.length=B.length then B++[x] else B.set x.2.length (pk (B[x.2.length]?.getD x) x)
def BD {B:List WS}{x:WS}:B.length<=(ji B x).length:=by
 unfold ji
 by_cases e:x.2.length=B.length
 ·rw[if_pos e,Zk];lia
 ·rw[if_neg e,ab8];exact Y8 _
def xD {B:List WS}{x:WS}(h:x.2.length<=B.length):x.2.length<(ji B x).length:=by
 unfold ji
 by_cases e:x.2.length=B.length
 ·rw[if_pos e,Zk];simp;lia
 ·rw[if_neg e,ab8];lia
def Bz.put {w:NN->Int}{M N:List NN->Prop}{B:List WS}{x:WS}(h:Bz w M B)(hx:lI w N x)(hN:∀S,N S->S.length=x.2.length)(hl:x.2.length<=B.length):Bz w (λS=>M S\/N S) (ji B x):=by
 refine{λS s=>?_,λk y hy=>?_}
 ·rcases s with s|s
  ·exact ZD (h.len S s) BD
  ·rw[hN S s];exact xD hl
 ·unfold ji at hy
  by_cases e:x.2.length=B.length
  ·rw[if_pos e]at hy
   by_cases z:k<B.length
   ·rw[aaa z]at hy;exact(h.at_ k y hy).wk λS=>{λs=>{s.1.elim id λn=>absurd (hN S n) (by have:=s.2;lia),s.2},λs=>{.inl s.1,s.2}}
   ·have z':k=B.length:=by
     have:=(Y_.mp hy).1;rw[Zk]at this;simp at this;lia
    subst z';rw[ZY (Y8 _),aca]at hy;injection hy with hy
    subst hy;exact hx.wk λS=>{λs=>s.1.elim (λm=>absurd (h.len S m) (by have:=s.2;lia)) id,λs=>{.inr s,by rw[hN S s,e]}}
  ·rw[if_neg e]at hy
   by_cases z:x.2.length=k
   ·subst z;have dE:x.2.length<B.length:=by lia
    rw[abQ dE]at hy;injection hy with hy
    have hg:=Y5 dE;rw[hg]at hy;subst hy;exact((h.at_ _ _ hg).pick hx).wk λS=>{λs=>s.1.elim (λm=>.inl {(m),s.2}) .inr,λs=>s.elim (λm=>{.inl m.1,m.2}) λn=>{.inr n,hN S n}}
   ·rw[abq z]at hy;exact(h.at_ k y hy).wk λS=>{λs=>{s.1.elim id λn=>absurd (hN S n) (by have:=s.2;lia),s.2},λs=>{.inl s.1,s.2}}
def putL (B:List WS)(l:List WS):List WS:=l.foldl ji B
def fK:List WS->List WS->Prop
 |_,[]=>True
 |B,x::l=>x.2.length<=B.length/\fK (ji B x) l
theorem fK.app:∀{l m B:List WS},fK B l->fK (putL B l) m->fK B (l++m)
 |[],_,_,_,k=>k
 |_::_,_,_,h,k=>{h.1,fK.app h.2 k}
def B7 (p:NN)(t:Int)(x y:WS):WS:=(x.1+y.1+t,p::(x.2++y.2))
def d4 (p:NN)(t:Int)(M:List WS)(x:WS):List WS:=M.map (B7 p t x)
section
variable {w:NN->Int}{M M1 M2:List NN->Prop}{p:NN}{B L1 L2:List WS}{x:WS}
def EM {a:Nat}(h:Bz w M B)(hx:lI w (λS=>M1 S/\S.length=a) x)(h2:Bz w M2 L2)(ha:a+1<=B.length):∀b:Nat,b<=L2.length ->
  Bz w (λS=>M S\/∃A C,(M1 A/\A.length=a)/\(M2 C/\C.length<b)/\S=p::(A++C)) (putL B (d4 p (w p) (L2.take b) x))/\a+b+1<=(putL B (d4 p (w p) (L2.take b) x)).length/\fK B (d4 p (w p) (L2.take b) x):=by
 intro b
 induction b with
 |zero=>exact λ_=>{h.wk λS=>{λs=>s.elim id λOg=> by obtain⟨A,C,_,c,_⟩ := Og;exact absurd c.2 (Nat.not_lt_zero _),.inl},ha,tv}
 |succ b ih =>
  intro hb;obtain⟨i1,i2,i3⟩:=ih (by lia)
  have hy:=Y5 (show b<L2.length by lia)
  generalize L2[b]=y at hy;have hz:=h2.at_ b y hy;have e:putL B (d4 p (w p) (L2.take (b+1)) x)=ji (putL B (d4 p (w p) (L2.take b) x)) (B7 p (w p) x y):=by
   unfold putL d4;rw[ZS,hy,Zl,List.foldl_append];rfl
  have el:(B7 p (w p) x y).2.length=a+b+1:=by
   show (p::(x.2++y.2)).length=_;rw[Zb,Zk,hx.mem.2,hz.mem.2]
  have e':d4 p (w p) (L2.take (b+1)) x=d4 p (w p) (L2.take b) x++[B7 p (w p) x y]:=by
   unfold d4;rw[ZS,hy,Zl];rfl
  rw[e];refine{(i1.put (hx.cat (p:=p) hz) (λS ⟨A,C,hA,hC,e⟩=>?_) ?_).wk λS=>?_,?_,by rw[e'];exact i3.app {ZX (Nat.le_of_eq el) i2,tv}}
  ·rw[e,Zb,Zk,hA.2,hC.2];exact el.symm
  ·exact ZX (Nat.le_of_eq el) i2
  ·constructor
   ·rintro (s|⟨A,C,hA,hC,e⟩)
    ·exact .inl (.inl s)
    ·by_cases z:C.length<b
     ·exact .inl (.inr {A,C,hA,{(hC.1),z},e})
     ·exact .inr {A,C,hA,{hC.1,by have:=hC.2;lia},e}
   ·rintro ((s|⟨A,C,hA,hC,e⟩)|⟨A,C,hA,hC,e⟩)
    ·exact .inl s
    ·exact .inr {A,C,hA,{hC.1,by have:=hC.2;lia},e}
    ·exact .inr {A,C,hA,{hC.1,by have:=hC.2;lia},e}
  ·have:=xD (B:=putL B (d4 p (w p) (L2.take b) x)) (x:=B7 p (w p) x y) (by rw[el];exact i2)
   rw[el]at this;lia
def BA (h:Bz w M B)(h1:Bz w M1 L1)(h2:Bz w M2 L2)(hB:1<=B.length)(hn:1<=L2.length):∀a:Nat,a<=L1.length ->
  Bz w (λS=>M S\/∃A C,(M1 A/\A.length<a)/\M2 C/\S=p::(A++C)) (putL B ((L1.take a).flatMap (d4 p (w p) L2)))/\a+1<=(putL B ((L1.take a).flatMap (d4 p (w p) L2))).length/\fK B ((L1.take a).flatMap (d4 p (w p) L2)):=by
 intro a
 induction a with
 |zero=>exact λ_=>{h.wk λS=>{λs=>s.elim id λOf=> by obtain⟨A,C,c,_⟩ := Of;exact absurd c.2 (Nat.not_lt_zero _),.inl},hB,tv}
 |succ a ih =>
  intro ha;obtain⟨i1,i2,i3⟩:=ih (by lia)
  have hy:=Y5 (show a<L1.length by lia)
  generalize L1[a]=x at hy;have hz:=h1.at_ a x hy;have e:putL B ((L1.take (a+1)).flatMap (d4 p (w p) L2))=putL (putL B ((L1.take a).flatMap (d4 p (w p) L2))) (d4 p (w p) L2 x):=by
   unfold putL;rw[ZS,hy,aaO,List.foldl_append];simp
  have e':(L1.take (a+1)).flatMap (d4 p (w p) L2)=(L1.take a).flatMap (d4 p (w p) L2)++d4 p (w p) L2 x:=by
   rw[ZS,hy,aaO];simp
  have:=EM (p:=p) i1 hz h2 i2 L2.length (Y8 _);rw[aai]at this;rw[e];refine{this.1.wk λS=>?_,by have:=this.2.1;lia,by rw[e'];exact i3.app this.2.2}
  constructor
  ·rintro (s|⟨A,C,hA,hC,e⟩)
   ·exact .inl (.inl s)
   ·by_cases z:A.length<a
    ·exact .inl (.inr {A,C,{(hA.1),z},hC,e})
    ·exact .inr {A,C,{hA.1,by have:=hA.2;lia},{hC,h2.len C hC},e}
  ·rintro ((s|⟨A,C,hA,hC,e⟩)|⟨A,C,hA,hC,e⟩)
   ·exact .inl s
   ·exact .inr {A,C,{hA.1,by have:=hA.2;lia},hC,e}
   ·exact .inr {A,C,{hA.1,by have:=hA.2;lia},hC.1,e}
def EO (h:Bz w M B)(h1:Bz w M1 L1)(h2:Bz w M2 L2)(hB:1<=B.length)(hn:1<=L2.length):Bz w (λS=>M S\/∃A C,M1 A/\M2 C/\S=p::(A++C)) (putL B (L1.flatMap (d4 p (w p) L2)))/\fK B (L1.flatMap (d4 p (w p) L2)):=by
 have:=BA (p:=p) h h1 h2 hB hn L1.length (Y8 _);rw[aai]at this;exact{this.1.wk λS=>{λs=>s.elim .inl λOe=> by obtain⟨A,C,a,c,e⟩ := Oe;exact .inr {A,C,{a,h1.len A a},c,e},λs=>s.elim .inl λOd=> by obtain⟨A,C,a,c,e⟩ := Od;exact .inr {(A),C,a.1,c,e}},this.2.2}
end
def tn (x:WS):WS:=(0-x.1,x.2)
def Bh {p:NN}{t:Int}{L M:List WS}:Ec p (- t) (L.map tn) (M.map tn)=(L.flatMap (d4 p t M)).map tn:=by
 unfold Ec
 induction L with
 |nil=>rfl
 |cons x L ih =>
  rw[ZE,acu,acu,Zl,ih]
  congr 1
  unfold AE d4;rw[Z7,Z7];refine ZU λy _=>?_;show (- t+(0-x.1)+(0-y.1),p::(x.2++y.2))=(0-(x.1+y.1+t),p::(x.2++y.2));rw[show-t+(0-x.1)+(0-y.1)=0-(x.1+y.1+t) by lia]
section
variable {ps:List NN}{w:NN->Int}{i j k z:Nat}
def JZ (hk:(gy ps i)[z]?=some k)(h:k<j){L L1 L2:List WS}(b0:Bz w (Mc ps i j z) L)(b1:Bz w (i9 ps (i+1) k) L1)(b2:Bz w (i9 ps (k+1) j) L2):
  Bz w (Mc ps i j (z+1)) (putL L (L1.flatMap (d4 (i,k) (w (i,k)) L2)))/\fK L (L1.flatMap (d4 (i,k) (w (i,k)) L2)):=by
 have n0:1<=L.length:=by have:=b0.len [] (.inl .nil);lia
 have n2:1<=L2.length:=by have:=b2.len _ .nil;lia
 obtain⟨a,b⟩:=EO (p:=(i,k)) b0 b1 b2 n0 n2;exact{a.wk λS=>(Cn hk h S).trans {λs=>s.elim .inl λs=>s.elim (λe=>.inl (by rw[e];exact .inl .nil)) .inr,λs=>s.elim .inl λs=>.inr (.inr s)},b}
end
end L2.Q
namespace VI
open PySem PySem.Spec PySem.SeqAt PyProof.Rows L5 Um
variable {prog:Y7}{w:Zj}{A:Z0}{R:Result->Y4->Prop}{I l S:Addr}{xs:List (Addr×List Int)}
def Nj (hh:A.handled=none)(nI:l≠I)(nS:S≠I)(nl:S≠l)(K:Heap->Prop)(kk:∀h h',K h->(∀b o,b≠I->b≠S->h.get? b=some o->h'.get? b=some o)->K h')(kc:∀s,K s.heap->∀(i j:Nat) (x m:Addr×List Int),xs[j]?=some x->xs[i]?=some m->i<j->∀(Q E:Y1->Y4->Prop),Q (.bool (HT.lexLt x.2 m.2)) s->Zy (model prog w) A.in1 (acn .Lt (.ref x.1) (.ref m.1)) Q E s):
  ∀(r j:Nat) (s:Y4) (st:Option (Addr×List Int)) (c:Nat),xs.length=j+r->(j=0->r≠0)->(st=none->j=0)->(∀m,st=some m->∃i,i<j/\xs[i]?=some m)->K s.heap->s.heap.IsTupleIter I l j->s.heap.IsTuple l (xs.map λx=>Value.ref x.1).toArray ->
  s.heap.get? S=some {cls:=.type "list",dict:=none,data:=.seq (T_ st) c,slots:=#[]} ->
  (∀h' tk m,(∀b o,b≠I->b≠S->s.heap.get? b=some o->h'.get? b=some o)->(xs.drop j).foldl xI st=some m->R (.ok (.ret (.ref m.1))) {s with heap:=h',toks:=tk}) ->
  aco (model prog w) A (.builtin "min.loop" {[.ref I,.none,.ref S],[]}) R s:=by
 have W:=Walks.tuple (prog:=prog) (w:=w) (A:=A.in1) hh I l nI (xs.map λx=>Value.ref x.1).toArray;have nm:(toString "min" ++ toString ".loop" : String)="min.loop" := by decide
 intro r
 induction r with
 |zero =>
  intro j s st c e1 e0 es em eK e2 e3 e4 k;have ej:j=(xs.map λx=>Value.ref x.1).toArray.size:=by simp;lia
  rw[aaz (by lia)]at k
  cases st with
  |none=>exact absurd rfl (e0 (es rfl))
  |some m =>
   refine ab5 PySem.F.entry_min_loop ?_;rw[ab4 PySem.F.plain_min_loop _];show Zy _ _ (seqItems? (.ref S) >>= _) _ _ s;refine Y2 (aa3 e4 rfl ?_);show Zy _ _ (tryCatch (acd (.ref I)) _ >>= _) _ _ s;refine Y2 (wpAny_tryCatch (W.done s _ _ (by rw[<- ej];exact{(e2),e3}) λh' tk g=>?_))
   have g4:=g S _ (by simpa using nS) e4
   show Zy _ _ (updateSeq S (λ_=>#[]) >>= _) _ _ _;refine Y2 (wpAny_updateSeq (hz:=by show (2:Nat)<=Zd;decide) g4 rfl (Y2 (ab2 (Zi ?_))))
   exact k _ tk m (λb o b1 b2 e=>(abR _ _ (Z_ b2)).trans (g b o (by simpa using b1) e)) rfl
 |succ r ih =>
  intro j s st c e1 e0 es em eK e2 e3 e4 k;have hj:j<xs.length:=by lia
  have hd:xs.drop j=xs[j]::xs.drop (j+1):=Z6 hj;rw[hd,ab9]at k;have SX:xs[j]?=some xs[j]:=Y5 hj;refine ab5 PySem.F.entry_min_loop ?_;rw[ab4 PySem.F.plain_min_loop _];show Zy _ _ (seqItems? (.ref S) >>= _) _ _ s;refine Y2 (aa3 e4 rfl ?_);show Zy _ _ (tryCatch (acd (.ref I)) _ >>= _) _ _ s;refine Y2 (wpAny_tryCatch (W.item j s _ _ (by simpa using hj) {(e2),e3} λv h' tk hv g2 g=>?_))
  have ev:v=.ref xs[j].1:=by
   rw[show (xs.map λx=>Value.ref x.1).toArray[j]?=some (.ref xs[j].1) by simp[hj]]at hv
   exact(ZZ hv).symm
  subst ev;have g4:=g S _ (by simpa using nS) e4
  have gK:K h':=kk _ _ eK λb o b1 b2 e=>g b o (by simpa using b1) e
  have on:∀(f:Array Y1->Array Y1) (b:Addr) (ob:Obj),b≠S->h'.get? b=some ob->(h'.update S (aaZ f)).get? b=some ob:=λf b ob hb e=>(abR _ _ (Z_ hb)).trans e;have UT:∀(f:Array Y1->Array Y1),K (h'.update S (aaZ f)):=λf=>kk _ _ gK λb o b1 b2 e=>on f b o b2 e;cases st with
  |none =>
   show Zy _ _ (updateSeq S (λ_=>#[.ref xs[j].1,.ref xs[j].1]) >>= _) _ _ _;refine Y2 (wpAny_updateSeq g4 rfl ?_);rw[nm];refine Zi {ab1 PySem.F.plain_min_loop _,ih (j+1) _ (some xs[j]) _ (by lia) (by lia) (λz=>by cases z) (λm z=>by cases z;exact{j,acB _,SX}) (UT _) (g2.1.at λo e=>on _ _ o (Z_ nS) e) (g2.2.at λo e=>on _ _ o (Z_ nl) e) (abX _ g4 rfl) λh'' Me m q f=>?_}
   exact k h'' Me m (λb o b1 b2 e=>q b o b1 b2 (on _ b o b2 (g b o (by simpa using b1) e))) f
  |some m =>
   obtain⟨i',fe,Vi⟩:=em m rfl;show Zy _ _ (tryCatch (holding [.ref xs[j].1,.ref xs[j].1] (acn .Lt (.ref xs[j].1) (.ref m.1) >>= _)) _ >>= _) _ _ _;refine Y2 (wpAny_tryCatch (aav (Y2 (kc _ gK i' j _ _ SX Vi fe _ _ ?_))));refine Y2 (aav (abL (Y2 (ab2 (Zi ?_)))));cases hb:HT.lexLt xs[j].2 m.2 with
   |true =>
    have ep:xI (some m) xs[j]=some xs[j]:=if_pos hb;rw[ep]at k;simp only[if_true];refine Y2 (wpAny_updateSeq (hz:=by show (2:Nat)<=Zd;decide) g4 rfl (Y2 (ab2 ?_)))
    rw[nm];refine Zi {ab1 PySem.F.plain_min_loop _,ih (j+1) _ (some xs[j]) _ (by lia) (by lia) (λz=>by cases z) (λm z=>by cases z;exact{j,acB _,SX}) (UT _) (g2.1.at λo e=>on _ _ o (Z_ nS) e) (g2.2.at λo e=>on _ _ o (Z_ nl) e) (abX _ g4 rfl) λh'' Me m q f=>?_}
    exact k h'' Me m (λb o b1 b2 e=>q b o b1 b2 (on _ b o b2 (g b o (by simpa using b1) e))) f
   |false =>
    have ep:xI (some m) xs[j]=some m:=if_neg (by rw[hb];simp)
    rw[ep]at k;simp only[aaS,if_false];refine Y2 (ab2 ?_);rw[nm];refine Zi {ab1 PySem.F.plain_min_loop _,ih (j+1) _ (some m) _ (by lia) (by lia) (λz=>by cases z) (λm' z=>by cases z;exact{i',aay fe,Vi}) gK g2.1 g2.2 g4 λh'' Me m' q f=>?_}
    exact k h'' Me m' (λb o b1 b2 e=>q b o b1 b2 (g b o (by simpa using b1) e)) f
def lA {E:Y1->Y4->Prop}{Q:Y1->Y4->Prop}{s:Y4}{x y:Addr×List Int}(hh:A.handled=none)(K:Heap->Prop)(kk:∀h h',K h->(∀b o,b<s.heap.objs.size->h.get? b=some o->h'.get? b=some o)->K h')(k0:K s.heap)
  (kc:∀s,K s.heap->∀(Q E:Y1->Y4->Prop),Q (.bool (HT.lexLt y.2 x.2)) s->Zy (model prog w) A.in1 (acn .Lt (.ref y.1) (.ref x.1)) Q E s)
  (k:∀h' tk m,(∀b o,s.heap.get? b=some o->h'.get? b=some o)->[x,y].foldl xI none=some m->Q (.ref m.1) {s with heap:=h',toks:=tk}):Zy (model prog w) A (call (.builtin "min") [.ref x.1,.ref y.1]) Q E s:=by
 have nm:(toString "min" ++ toString ".loop" : String)="min.loop" := by decide
 refine call_function_tree PySem.F.kind_min PySem.F.plain_min PySem.F.entry_min (PySem.F.args_min2 _ _) ?_;show Zy _ A.in1 (Builtin.Builtins.bindParams "min" ["key","default"] 0 {[],[]} >>= _) _ _ s;refine Y2 (wpAny_of_eq (show Builtin.Builtins.bindParams "min" ["key","default"] 0 {[],[]}=pure [none,none] from rfl) ?_)
 show Zy _ A.in1 (newTuple [.ref x.1,.ref y.1] >>= _) _ _ s;refine Y2 (aaV ?_);have hT:(s.heap.push {cls:=.type "tuple",data:=.seq #[.ref x.1,.ref y.1]}).IsTuple s.heap.objs.size ([x,y].map λx=>Value.ref x.1).toArray:={_,ZR _ rfl,rfl,0,by simp}
 refine Y2 (wpAny_pyIter_tuple hT (Y2 (aaV ?_)));rw[nm];have s1:(s.heap.push {cls:=.type "tuple",data:=.seq #[.ref x.1,.ref y.1]}).objs.size=s.heap.objs.size+1:=Heap.size_push ..
 have s2:((s.heap.push {cls:=.type "tuple",data:=.seq #[.ref x.1,.ref y.1]}).push {cls:=.type "tuple_iterator",data:=.fields #[.ref s.heap.objs.size,.int 0 0]}).objs.size=s.heap.objs.size+2:=by rw[Heap.size_push,s1]
 have up:∀b o,s.heap.get? b=some o->(((s.heap.push {cls:=.type "tuple",data:=.seq #[.ref x.1,.ref y.1]}).push {cls:=.type "tuple_iterator",data:=.fields #[.ref s.heap.objs.size,.int 0 0]}).push (abw "list" #[] 0)).get? b=some o:=λb o e=>Ze _ (Ze _ (Ze _ e));refine Zi {ab1 PySem.F.plain_min_loop _,?_};refine Nj (xs:=[x,y]) (l:=s.heap.objs.size) (I:=(s.heap.push {cls:=.type "tuple",data:=.seq #[.ref x.1,.ref y.1]}).objs.size) (S:=((s.heap.push {cls:=.type "tuple",data:=.seq #[.ref x.1,.ref y.1]}).push {cls:=.type "tuple_iterator",data:=.fields #[.ref s.heap.objs.size,.int 0 0]}).objs.size) hh (by rw[s1];exact ZQ (acB _)) (by rw[s1,s2];exact Nat.succ_ne_self _) (by rw[s2];exact Nat.ne_of_gt (aay (acB _)))
  K (λh h' hK kp=>kk h h' hK λb o hb e=>kp b o (by rw[s1];exact ZQ (aay hb)) (by rw[s2];exact ZQ (aay (aay hb))) e) (λs' hK i j a m ha hm aD Q' E' hq=>?_) 2 0 _ none 0 rfl (λ_=>by decide) (λ_=>rfl) (λm z=>by cases z) (kk _ _ k0 λb o _ e=>up b o e)
  {_,Ze _ (ZR _ rfl),rfl,rfl} ((hT.push _).push _) (ZR _ rfl) λh' tk m q f=>?_
 ·have hj:=(Y_.mp ha).1;have hj:j=1:=by simp at hj;lia
  have hi:i=0:=by lia
  subst hj hi;cases ha;cases hm;exact kc s' hK Q' E' hq
 ·exact k h' tk m (λb o e=>q b o (by rw[s1];exact ZQ (aay (Zo e))) (by rw[s2];exact ZQ (aay (aay (Zo e)))) (up b o e)) f
end VI
namespace L2
open PySem PySem.Spec PySem.SeqAt PyProof.Rows AI GX
section
variable {X:Cx}
def Dy:List D->Option D
 |[x,y]=>(Aa y x).bind λb=>match b with
  |.bl true=>some y
  |.bl false=>some x
  |_=>none
 |_=>none
def Dx {x y:D}{b:Bool}(h:Aa y x=some (.bl b)):Dy [x,y]=some (if b=true then y else x):=by
 show (Aa y x).bind _=_;rw[h];cases b <;> rfl
def w9 (hc:X.calm=true) (hu:X.A.units+16<abd):bF X (.builtin "min") Dy:=by
 intro pins s σ H xs us Q I r h;obtain⟨W,ds,d,hd,r1,e,q⟩:=h
 match ds,e,r1 with
 |[x,y],e2,q1 =>
  obtain⟨bd,e3,e4⟩:=Zq.mp (show (Aa y x).bind _=some d from e2)
  obtain⟨a,f1,e⟩:=Zq.mp (show y.Ed.bind _=some bd from e3)
  obtain⟨b,f2,e⟩:=Zq.mp e;obtain⟨ms,f3,e⟩:=Zq.mp e;obtain⟨ns,f4,e⟩:=Zq.mp e;obtain⟨rb,f5,rfl⟩:=Zh.mp e;obtain⟨v,vs',rfl,g1,v2,UA,rfl,g2,g3⟩:=q1;cases (show UA=[] from g3)
  obtain⟨py,rfl,t1⟩:=tf I f1 f3 g2;obtain⟨px,rfl,t2⟩:=tf I f2 f4 g1;obtain⟨u,w',rfl,ru,xx⟩:=vals2 r;cases ru;cases xx;refine VI.lA (x:=(px,[0])) (y:=(py,[if rb=true then -1 else 1])) (I.ok.hd hc) (λh=>TupAt h s.heap.objs.size py ms/\TupAt h s.heap.objs.size px ns) (λh h' hK kp=>{hK.1.keep kp,hK.2.keep kp}) {(t1),t2} (λs' hK Q' E' hq=>?_) λh' tk m kp f=>?_
  ·have hl:HT.lexLt [if rb=true then -1 else 1] [0]=rb:=by cases rb <;> rfl
   rw[hl]at hq;exact TupAt.lt (A:=X.A.in1) hK.1 hK.2 f5 (by show X.A.units+1+4<abd;lia) _ _ _ _ hq
  ·cases rb with
   |true=>cases f;cases e4;exact{.ref py,H,I.kept kp,rfl,q _ _ (aB.refl _) g2}
   |false=>cases f;cases e4;exact{.ref px,H,I.kept kp,rfl,q _ _ (aB.refl _) g1}
end
end L2
namespace L2.Q
open PySem PySem.Spec PySem.SeqAt PyProof.Rows
abbrev FS:=List D->List D->(List D->Prop)->Prop
def Ik (F:FS):Prop:=∀es ds R R',(∀x,R x->R' x)->F es ds R->F es ds R'
def EB (P:Y7)(w:Zj)(F:FS):Sp:=λvs H Q _=>∃(W:Addr->Prop) (h:Addr) (vs' us:List V) (es ds:List D),vs=.ref h::vs'/\Dm W H/\W h/\H h=some (.lst us)/\ai P w W H es us/\ai P w W H ds vs' /\
 F es ds λes'=>∀H' us',Kp (·=h) H H'->(∀c,H c≠none->H' c≠none)->H' h=some (.lst us')->ai P w W H' es' us'->Q .cN H'
def kG (N:List Str)(h:Addr)(es ds:List D):bb:=some (.shl (.at h) (.lst es))::(ds.map (λd=>some (.val true d))++Zr (N.length-(ds.length+1)) none)
def eS (h:Addr)(R:List D->Prop):cb:={nx:=λβ=>∃es,β[0]?=some (some (.shl (.at h) (.lst es)))/\R es,rt:=λ_ _=>False}
section
variable {P:Y7}{w:Zj}{K:PySem.W.Frag}{mg:Str->Option Y1}{base:Heap}
def yO {N:List Str}{W:Addr->Prop}{h:Addr}{us vs:List V}{es ds:List D}{H:Hp}(hW:W h)(hh:H h=some (.lst us))(re:ai P w W H es us)(r:ai P w W H ds vs):
  bj P w {oq (λa=>W a/\a≠h) H,λ_=>False,false,λ_=>False} (start N (.ref h::vs)) H (kG N h es ds) (λi=>if i=0 then [h] else []):=by
 have oX:∀{i:Nat} {a:Addr},a∈(if i=0 then [h] else ([]:List Addr))->i=0/\a=h:=λ{i a} q=>by
  by_cases e:i=0
  ·rw[if_pos e]at q;exact{e,by simpa using q}
  ·rw[if_neg e]at q;cases q
 have su:∀{i:Nat} {b:B},(kG N h es ds)[i]?=some (some b)->(i=0/\b=.shl (.at h) (.lst es))\/∃j d,i=j+1/\ds[j]?=some d/\b=.val true d:=λ{i b} q=>by
  unfold kG at q;cases i with
  |zero=>simp at q;exact .inl {(rfl),q.symm}
  |succ i =>
   rw[abK]at q;obtain⟨d,e,e'⟩:=vK q;exact .inr {(i),d,rfl,e,e'}
 have sub:∀a,eD ({oq (λa=>W a/\a≠h) H,λ_=>False,false,λ_=>False}:Cfg) (Wn λi=>if i=0 then [h] else []) (yk true) a->W a:=λa z=>by
  rcases z with (⟨j,q⟩|z)|z
  ·rw[(oX q).2];exact hW
  ·exact(show W a/\a≠h from (sI (W:=λa=>W a/\a≠h) (H:=H) z).1).1
  ·exact z.elim
 have h0:oq (λa=>W a/\a≠h) H h=none:=ZH λz=>(show W h/\h≠h from (sI z).1).2 rfl
 refine{?_,λi y d q=>?_,λi d q=>?_,λi zk q=>?_,λi a q=>?_,λi j a h1 h2=>?_,λi=>?_,{λc o z _=>(lz (W:=λa=>W a/\a≠h) (H:=H) z).2,λc xs z=>(lz (W:=λa=>W a/\a≠h) (H:=H) z).2},λ_ z=>(sI (W:=λa=>W a/\a≠h) (H:=H) z).2,λi y d q=>?_}
 ·unfold kG start;simp[r.length]
 ·rcases su q with⟨_,e⟩|⟨j,d',rfl,e,e'⟩
  ·cases e
  ·cases e';obtain⟨v,e1,e2⟩:=ai.get r e;exact{v,fT (by simpa using e1),aC.aY sub e2}
 ·rcases su q with⟨_,e⟩|⟨j,d',_,_,e'⟩
  ·cases e
  ·cases e'
 ·rcases su q with⟨_,e⟩|⟨j,d',_,_,e'⟩
  ·cases e
  ·cases e'
 ·obtain⟨_,rfl⟩:=oX q;exact{by rw[hh];exact λz=>(nomatch z),λxs z=>(by rw[hh]at z;cases z),.inl h0,λz=>z}
 ·rw[(oX h1).1,(oX h2).1]
 ·by_cases e:i=0
  ·simp[e]
  ·simp[e]
 ·rcases su q with⟨rfl,e⟩|⟨j,d',_,_,e'⟩
  ·cases e;exact{.ref h,fT rfl,{{h,.lst us,us,rfl,rfl,hh,rfl,ai.aY sub re},rfl},λc hc=>by rw[(oX hc).2];exact h0}
  ·cases e'
def Q_ {x qual:Str}{st:Stmt}{f:Addr}{fd:ZL}{N ps:List Str}{k:Nat}{F:FS}(G:AL K x qual st f fd)(S:aJ N ps (ao st))(len:∀es ds R,F es ds R->ds.length+1=ps.length)
  (iA:∀(bQ:Y1) (A:Z0) (outer:List Env) (s:Y4) (H H0:Hp) (E:XK) (h:Addr),c_ k (A.deeper (ace qual (ao st) s.heap.objs.size f bQ)) ->
   ∃ψ,sR (ly bI P w K mg base N qual (ao st) f bQ A outer s H E).tV {H0,λ_=>False,false,λ_=>False} (d3 st) ψ/\∀es ds R,F es ds R->ψ (eS h R) (kG N h es ds)) :
  aE P w K mg base bI (k+1) f fd ps (EB P w F):=by
 refine G.ok S (λvs H Q E h=>?_) (λbQ A outer s H vs Q E hr h=>?_)
 ·obtain⟨W,h,vs',us,es,ds,rfl,_,_,hh,_,r,q⟩:=h;rw[Zb,r.length];exact len es ds _ q
 ·obtain⟨W,h,vs',us,es,ds,rfl,hd,hW,hh,re,r,q⟩:=h;obtain⟨ψ,hb,hF⟩:=iA bQ A outer s H (oq (λa=>W a/\a≠h) H) E h hr;refine{_,hb.ps,(H,_),_,kG N h es ds,{_,yO hW hh re r,Sn.refl},hF es ds _ q,λσ H' β sb z=>?_,λσ H' β d v sb rr z=>z.elim,λ_ _ _ _ z=>z.elim,λ_ _ _ _ z=>z.elim};obtain⟨own,s',n'⟩:=sb;obtain⟨es',b0,q⟩:=z;obtain⟨a,o,vs,⟨g1,g0⟩,g2,g3,g4,g5,_⟩:=s'.gq (some h) b0;cases g4;have ea:=g0 h rfl;subst ea;refine q H' vs {λc o e vg=>n'.k.out c o e λz=>?_,n'.k.tup} n'.d g3 (ai.aY (λc z=>?_) g5)
  ·rcases z with⟨j,hj⟩|z
   ·have hj:c∈if j=0 then [a] else []:=hj
    by_cases ej:j=0
    ·rw[if_pos ej]at hj;exact vg (Zc.mp hj)
    ·rw[if_neg ej]at hj;cases hj
   ·have z:H c=none:=z;rw[show H c=some o from e]at z
    cases z
  ·by_cases hc:c=a
   ·exact .inl (.inl {0,by rw[g2,hc];simp})
   ·refine .inl (.inr ?_);show oq (λb=>W b/\b≠a) H c≠none;rw[GN {(z),hc}];exact hd c z
end
section
variable {X:Cx}{C:Cfg}{k i:Nat}{f:Addr}{fd:ZL}{ps:List Str}{F:FS}{p:Bool}{x hx:Str}{pp pos px cp:Pos}{es:List Expr}{φs:bP}
def BU (mF:Ik F)(G:aE X.prog X.w X.K X.mg X.base bI k f fd ps (EB X.prog X.w F))(hr:c_ k X.A)(hm:X.mg x=some (.ref f))(hk:PySem.W.keepIn X.K (.ref f)=true)(hb:Binds X.K fd ps [])(ha:pq X C.z p es φs)(hN:X.N[i]?=some hx:=by rfl)
  (hv:oK X.env.scope hx:=by first|exact .inl rfl|exact .inr (.inl rfl)|exact .inr (.inr rfl)) (hd:(hx==("__debug__" : Str))=false:=by decide) (eU:(hx==("__classdict__" : Str))=false:=by decide) (hg:Gl X x:=by rfl) (hdb:(x==("__debug__" : Str))=false:=by decide)
  (gF:Y9 (.Name hx px::es) X.env=(false,eval (.Name hx px) X.env)::Y9 es X.env:=by rfl) (hpl:(aag cp (Y9 es X.env)).any (·.1)=false:=by rfl)
  (o8:aaw (.Call (.Name x pp) (.Name hx px::es) [] cp) none pos.line X.env=pure false:=by rfl) :
  PB X C (.Expr (.Call (.Name x pp) (.Name hx px::es) [] cp) pos) (λE β=>(∃d,β[i]?=some (some (.shl .one d)))/\φs β λds ks β1=>gE ks=.dt/\∃es,β1[i]?=some (some (.shl .one (.lst es)))/\F es ds λes'=>E.nx (β1.set i (some (.shl .one (.lst es'))))) :=
 ⟨λE E' β l ux=>by obtain⟨h0,q⟩:=ux;exact{h0,ha.mono _ _ _ (λds ks _ nM=>by obtain⟨g,es,g2,q⟩:=nM;exact{g,es,g2,mF _ _ _ _ (λms q=>l.nx _ q) q}) q},
  (fB (jQ G hr hg hm hk hb .nil xK (aZ (bY (pos:=px) hN hv hd eU) ha.pa gF) (hdb:=hdb) (he:=gF) (hpl:=hpl)) o8).pre λDe σ H uw=>by
  obtain⟨Z,E,β,⟨own,sq,n⟩,⟨⟨d0,uB⟩,q⟩,ok⟩:=uw;obtain⟨a0,_,_,lh,_⟩:=sq.A7 uB;refine{.ref a0,lh,qV.of ha sq q λds ks β1 vs H1 ay i5 o1 r1=>?_};obtain⟨hk,XI,HI,q⟩:=i5;obtain⟨a,ob,us,g1,g2,g3,g4,g5,g6,_⟩:=o1.sq.A7 HI;rw[lh]at g1;cases g1;cases g4;have rr:=r1.iY;rw[hk]at rr;rw[aar];refine{av C.z (Wn ay) .dt,a0,vs,us,XI,ds,rfl,o1.sq.HR _,.inl {i,by rw[g2];simp},g3,ai.aY (λc z=>.inl z) g5,rr,mF _ _ _ _ (λes' q H' us' kp dn e' r'=>?_) q}
  have sm:aB H1 (upd H' a0 (.lst us)):=λc o z=>by
   by_cases hc:c=a0
   ·rw[hc,ak];rw[hc,g3]at z;exact z
   ·rw[au hc];exact kp.out c o z hc
  have eq:upd (upd H' a0 (.lst us)) a0 (.lst us')=H':=by
   funext c
   by_cases hc:c=a0
   ·rw[hc,ak,e']
   ·rw[au hc,au hc]
  obtain⟨s2,hA,hw,zP⟩:=(o1.sq.same sm).Q6 (C:=C) (U:=λ_=>False) (d':=.lst es') (o:=.lst us') (vs':=us') HI lh rfl (by rw[eq];exact r')
  have n2:=jg (C:=C) (i:=i) (o:=.lst us') (U:=λ_=>False) ((n.trans o1.sn).same sm) (λ_ z=>z.elim) hw zP hA;rw[eq]at s2 n2;exact ok.nx _ _ _ {_,s2,n2} q⟩
end
def MI (i:Nat):aQ:=λβ R=>∃y d,β[i]?=some (some (.shl y d))/\R d .bor β
def EW {X:Cx}{C:Cfg}{i:Nat}{x:Str}{pos:Pos}(hN:X.N[i]?=some x:=by rfl)(hv:oK X.env.scope x:=by first|exact .inl rfl|exact .inr (.inl rfl)|exact .inr (.inr rfl))(hd:(x==("__debug__" : Str))=false:=by decide)(eU:(x==("__classdict__" : Str))=false:=by decide):
  PQ X C true (.Name x pos) (MI i):=⟨λβ R R' k nM=>by obtain⟨y,d,e,h⟩:=nM;exact{y,d,e,k _ _ _ h},(bY hN hv hd eU).pre λσ H Q uw=>by
 obtain⟨β,own,s,y,d,e,q⟩:=uw;obtain⟨v,h1,h2,_⟩:=s.shl i y d e;exact{v,h1,q v H own (Out.refl s _) (h2.rep (λ_ _ z=>z) λ_ _ r=>ai.aY (λ_ z=>z.elim) r)}⟩
section
variable {P:Y7}{w:Zj}{W:Addr->Prop}{H:Hp}
theorem Br:∀{ds:List D} {vs:List V} {A:List Addr},aR P w H ds vs A->(∀d∈ds,∃es,d=.lst es)->A.Nodup->∃R,R.Sublist A/\∀W:Addr->Prop,(∀c∈A,c∉R->¬ W c)->kz P w W H ds vs R
 |[],_,_,h,_,_=>{[],List.nil_sublist _,λ_ _=>{(h.1),rfl}}
 |d::ds,_,_,⟨v,r,A1,A2,e,eA,h1,h2⟩,hl,nd=>by
  obtain⟨es,rfl⟩:=hl d (by simp)
  obtain⟨b,us,B,rfl,g1,g2,g3⟩:=h1;subst e eA g2;obtain⟨Hr,FP,Hq⟩:=aam.mp nd;obtain⟨R,hR,k⟩:=Br h2 (λd hd=>hl d (by simp[hd])) FP
  refine{b::R,(List.nil_sublist B).cons₂ b |>.append hR,λW hW=>{b,us,r,R,rfl,rfl,g1,{es,rfl,g3.rep λc hc=>hW c (by simp[hc]) λz=>?_},k W λc hc z=>hW c (by simp[hc]) λz'=>?_}}
  ·rcases Y6.mp z with z|z
   ·exact(Zs.mp Hr).1 (by rw[<- z];exact hc)
   ·exact Hq c (by simp[hc]) c (hR.subset z) rfl
  ·rcases Y6.mp z' with z' | z'
   ·exact Hq b (by simp) c hc z'.symm
   ·exact z z'
theorem kz.get:∀{ds:List D} {vs:List V} {A:List Addr} {m:Nat} {es:List D},kz P w W H ds vs A->ds[m]?=some (.lst es)->∃b us,vs[m]?=some (.ref b)/\H b=some (.lst us)/\ai P w W H es us/\b∈A
 |[],_,_,_,_,_,e=>by simp at e
 |d::ds,_,_,0,_,⟨b,us,r,A',rfl,rfl,e3,⟨es,e4,e5⟩,h⟩,e=>by
  simp at e;subst e;cases e4;exact{b,us,by simp,e3,e5,by simp}
 |d::ds,_,_,m+1,_,⟨b,us,r,A',rfl,rfl,e3,_,h⟩,e=>by
  obtain⟨c,us',g1,g2,g3,g4⟩:=kz.get (m:=m) h (by simpa using e)
  exact{c,us',by simpa using g1,g2,g3,by simp[g4]}
theorem kz.length:∀{ds:List D} {vs:List V} {A:List Addr},kz P w W H ds vs A->vs.length=ds.length
 |[],_,_,h=>by rw[h.1];rfl
 |_::_,_,_,⟨b,us,r,A',e,_,_,_,h⟩=>by rw[e,Zb,Zb,kz.length h]
theorem kz.ow:∀{ds:List D} {vs:List V} {A:List Addr},kz P w W H ds vs A->∃ts,aR P w H ts vs A
 |[],_,_,h=>{[],h}
 |_::_,_,_,⟨b,us,r,A',e1,e2,e3,⟨es,_,e5⟩,h⟩=>by
  obtain⟨ts,g⟩:=kz.ow h;exact{.lst (us.map LV)::ts,.ref b,r,[b],A',e1,e2,{b,us,[],rfl,e3,rfl,jU e5},g}
theorem kz.lst:∀{ds:List D} {vs:List V} {A:List Addr} {m:Nat} {d:D},kz P w W H ds vs A->ds[m]?=some d->∃es,d=.lst es
 |[],_,_,_,_,_,e=>by simp at e
 |d::ds,_,_,0,_,⟨b,us,r,A',_,_,_,⟨es,e4,_⟩,h⟩,e=>by
  simp at e;subst e;exact{(es),e4}
 |d::ds,_,_,m+1,_,⟨b,us,r,A',_,_,e3,_,h⟩,e=>kz.lst (m:=m) h (by simpa using e)
theorem kz.put {b:Addr}{es':List D}{us':List V}(kp:∀ds vs,ai P w W H ds vs->ai P w W (upd H b (.lst us')) ds vs)(r':ai P w W (upd H b (.lst us')) es' us'):∀{ds:List D} {vs:List V} {A:List Addr} {m:Nat},A.Nodup->kz P w W H ds vs A->vs[m]?=some (.ref b)->b∈A->kz P w W (upd H b (.lst us')) (ds.set m (.lst es')) vs A
 |[],_,_,_,_,h,e,_=>by rw[h.1]at e;simp at e
 |d::ds,_,_,0,nd,⟨c,us,r,A',e1,e2,e3,⟨es,e4,e5⟩,h⟩,e,_=>by
  subst e1 e2;have e:c=b:=by simpa using e
  subst e;show kz P w W (upd H c (.lst us')) (.lst es'::ds) (.ref c::r) (c::A');exact{c,us',r,A',rfl,rfl,ak,{(es'),rfl,r'},h.map kp λx hx o z=>by rw[au λq=>(Zs.mp nd).1 (by rw[<- q];exact hx)];exact z}
 |d::ds,_,_,m+1,nd,⟨c,us,r,A',e1,e2,e3,⟨es,e4,e5⟩,h⟩,e,hb=>by
  subst e1 e2;have e':r[m]?=some (.ref b):=by simpa using e
  have gY:b∈A':=by
   have lm:m<ds.length:=by rw[<- h.length];exact(Y_.mp e').1
   obtain⟨YU,hd⟩:=kz.lst h (Y5 lm);obtain⟨b2,_,g1,_,_,g4⟩:=h.get (m:=m) (by rw[Y5 lm,hd])
   rw[e']at g1;cases g1;exact g4
  have ne:c≠b:=λz=>(Zs.mp nd).1 (by rw[z];exact gY)
  exact{c,us,r,A',rfl,rfl,by rw[au ne];exact e3,{es,e4,kp _ _ e5},kz.put kp r' (Zs.mp nd).2 h e' gY}
end
section
variable {P:Y7}{w:Zj}{C:Cfg}{σ:St}{H:Hp}{β:bb}{own:Nat->List Addr}{i:Nat}
def bj.IY {ds:List D}(s:bj P w C σ H β own)(e:β[i]?=some (some (.own (.lst ds))))(hd:∀d∈ds,∃es,d=.lst es):∃R,bj P w C σ H (β.set i (some (.shl .two (.lst ds)))) (aH own i R)/\∀c,Wn (aH own i R) c->Wn own c:=by
 obtain⟨v,h1,⟨a,vs,A',rfl,h2,h3,h4⟩,h5⟩:=s.ow i _ e;have nd:=s.jq i;rw[h3]at nd;obtain⟨na,LK⟩:=Zs.mp nd;obtain⟨R,hR,k⟩:=Br h4 hd LK;have hs:∀c∈a::R,c∈own i:=λc hc=>by
  rw[h3];rcases Y6.mp hc with z|z
  ·simp[z]
  ·simp[hR.subset z]
 refine{a::R,s.Nn e h1 hs (Zs.mpr {λz=>na (hR.subset z),LK.sublist hR}) {a,vs,R,ds,rfl,rfl,h2,rfl,k _ λc hc z=>s.off e (by rw[h3];simp[hc]) λq=>?_},AZ hs}
 rcases Y6.mp q with q|q
 ·exact na (by rw[<- q];exact hc)
 ·exact z q
def Fg {X:Cx}{C:Cfg}{a:List Stmt}{ψ:yC}(i:Nat)(h:sR X C a ψ):sR X C a (λE β=>∃ds,β[i]?=some (some (.own (.lst ds)))/\(∀d∈ds,∃es,d=.lst es)/\ap ψ E (β.set i (some (.shl .two (.lst ds))))) :=
 ⟨λE E' β l q=>by obtain⟨ds,e,c,q⟩:=q;exact{ds,e,c,h.mono E E' _ l q},h.ps.pre λD σ H z=>by
  obtain⟨Z,E,β,⟨own,s,n⟩,⟨ds,e,c,q⟩,ok⟩:=z;obtain⟨R,s2,le⟩:=s.IY e c;exact{Z,E,_,{_,s2,jH n le},q,ok}⟩
def bj.Eu {ds:List D}(s:bj P w C σ H β own)(e:β[i]?=some (some (.shl .two (.lst ds)))):∃a vs A' d0,σ[i]?=some (some (.ref a))/\own i=a::A'/\H a=some (.lst vs)/\kz P w (eD C (Wn own) (yk true)) H ds vs A'/\bj P w C σ H (β.set i (some (.own d0))) own:=by
 obtain⟨v,h1,⟨a,vs,A',ds',rfl,h2,h3,h4,h5⟩,h6⟩:=s.shl i _ _ e;cases h4;obtain⟨ts,ht⟩:=h5.ow;refine{a,vs,A',.lst ts,h1,h2,h3,h5,by simp[s.len],λj y' d' q=>?_,λj d' q=>?_,λj ok q=>?_,s.dm,s.jm,s.jq,s.kp,s.fS,λj y' d' q=>?_}
 ·by_cases aD:i=j
  ·subst aD;obtain⟨e',_⟩:=aP q;cases e'
  ·rw[aO aD]at q;exact s.val j y' d' q
 ·by_cases aD:i=j
  ·subst aD;obtain⟨e',_⟩:=aP q;cases e';exact{.ref a,h1,by rw[h2];exact{(a),vs,A',rfl,h3,rfl,ht},h6}
  ·rw[aO aD]at q;exact s.ow j d' q
 ·by_cases aD:i=j
  ·subst aD;obtain⟨e',_⟩:=aP q;cases e'
  ·rw[aO aD]at q;exact s.nN j ok q
 ·by_cases aD:i=j
  ·subst aD;obtain⟨e',_⟩:=aP q;cases e'
  ·rw[aO aD]at q;exact s.shl j y' d' q
def Ft {own:Nat->List Addr}{i:Nat}:aH own i (own i)=own:=by
 funext j
 by_cases aD:i=j
 ·rw[<- aD,os_eq]
 ·rw[a5 aD]
end
section
variable {X:Cx}{C:Cfg}{k k2:Expr}{φk φ2:aQ}{i j:Nat}{x y:Str}{pos px py kp ap cp p2:Pos}
def MO (i:Nat)(φk φ2:aQ):aQ:=λβ R=>(∃ds,β[i]?=some (some (.shl .two (.lst ds))))/\φk β λjd _ β1=>∃ds t m es,jd=.int t/\β1[i]?=some (some (.shl .two (.lst ds)))/\sd ds.length t=some m/\ds[m]?=some (.lst es)/\φ2 β1 λRw _ β2=>∃t2 m2 d,Rw=.int t2/\sd es.length t2=some m2/\es[m2]?=some d/\R d .dt β2
def ml (hk:PQ X C true k φk)(S7:PQ X C true k2 φ2)(hN:X.N[i]?=some x:=by rfl)(hv:oK X.env.scope x:=by first|exact .inl rfl|exact .inr (.inl rfl)|exact .inr (.inr rfl))(hd:(x==("__debug__" : Str))=false:=by decide)(eU:(x==("__classdict__" : Str))=false:=by decide)
  (Ox:gM k:=by exact λ_ _=>rfl) (S_:gM k2:=by exact λ_ _=>rfl) :
  PQ X C true (.Subscript (.Subscript (.Name x px) k kp) k2 p2) (MO i φk φ2) :=
 ⟨λβ R R' kk h=>{h.1,hk.mono _ _ _ (λjd _ β1 nM=>by obtain⟨ds,t,m,es,h1,h2,h3,h4,q⟩:=nM;exact{ds,t,m,es,h1,h2,h3,h4,S7.mono _ _ _ (λRw _ β2 uw=>by obtain⟨t2,m2,d,g1,g2,g3,q⟩:=uw;exact{t2,m2,d,g1,g2,g3,kk _ _ _ q}) q}) h.2},(fC (pos:=p2) b_ (fC (pos:=kp) b_ (bY (pos:=px) hN hv hd eU) hk.pe Ox) S7.pe S_).pre λσ H Q hq=>by
  obtain⟨β,own,sq,⟨d0,uB⟩,q⟩:=hq;obtain⟨a0,_,_,_,lh,_⟩:=sq.Eu uB;refine{_,lh,tQ.of hk sq q λjd kk β1 kv H1 ay hw o r=>?_};obtain⟨ds,t,m,es,e1,hb,hj,hm,q⟩:=hw;subst e1;cases r.rep;obtain⟨a,vs,A',_,CK,_,h3,rr,_⟩:=o.sq.Eu hb;rw[lh]at CK;cases CK;obtain⟨b,us,g1,g2,g3,_⟩:=rr.get hm;have Ic:lB vs t=some (.ref b):=by unfold lB;rw[rr.length,hj];exact g1
  refine{a0,vs,t,.ref b,rfl,rfl,dj.of h3,Ic,tQ.of S7 o.sq q λRw YB β2 YA H2 bH l5 o2 r2=>?_};obtain⟨t2,m2,d,e2,LQ,Oo,q⟩:=l5;subst e2;cases r2.rep;obtain⟨s2,eo⟩:=o2.pu rfl;subst eo;obtain⟨u2,w1,w2⟩:=ai.get g3 Oo;have at2:lB us t2=some u2:=by unfold lB;rw[show us.length=es.length from g3.length,LQ];exact w1
  exact{b,us,t2,u2,rfl,rfl,dj.of (s2 _ _ g2),at2,q _ _ _ (o.trans o2) (aC.same s2 (aC.aY (λc z=>.inl z) w2))}⟩
def Fn (aD:i≠j)(hk:PQ X C.z true k φk)(hN:X.N[i]?=some x:=by rfl)(hv:oK X.env.scope x:=by first|exact .inl rfl|exact .inr (.inl rfl)|exact .inr (.inr rfl))(hd:(x==("__debug__" : Str))=false:=by decide)(eU:(x==("__classdict__" : Str))=false:=by decide)
  (ON:X.N[j]?=some y:=by rfl) (WR:oK X.env.scope y:=by first|exact .inl rfl|exact .inr (.inl rfl)|exact .inr (.inr rfl)) (hd2:(y==("__debug__" : Str))=false:=by decide) (Ts:(y==("__classdict__" : Str))=false:=by decide)
  (Ox:gM k:=by exact λ_ _=>rfl)
  (cS:aaH (.Subscript (.Name x px) k kp) "append" X.env (eval (.Subscript (.Name x px) k kp) X.env)=eval (.Subscript (.Name x px) k kp) X.env:=by rfl)
  (iy:((aag cp (Y9 [.Name y py] X.env)).all (λx=>!x.1)&&(acg cp (abo [] X.env)).all (λx=>x.1.isSome)&&decide ([Expr.Name y py].length+([]:List aa2).length+(if ([]:List aa2).isEmpty then 0 else 1)<30))=true:=by rfl)
  (cR:(ap.endLine==cp.line)=true:=by rfl) (hs:Y9 [.Name y py] X.env=(false,eval (.Name y py) X.env)::Y9 [] X.env:=by rfl) (cw:(aag cp (Y9 [] X.env)).any (·.1)=false:=by rfl)
  (o8:aaw (.Call (.Attribute (.Subscript (.Name x px) k kp) "append" ap) [.Name y py] [] cp) none pos.line X.env=pure false:=by rfl) :
  PB X C (.Expr (.Call (.Attribute (.Subscript (.Name x px) k kp) "append" ap) [.Name y py] [] cp) pos) (λE β=>∃d,β[j]?=some (some (.shl .one d))/\(∃ds,(β.set j (some (.val true d)))[i]?=some (some (.shl .two (.lst ds))))/\φk (β.set j (some (.val true d))) λjd _ β1=>∃ds t m es,jd=.int t/\β1[i]?=some (some (.shl .two (.lst ds)))/\sd ds.length t=some m/\ds[m]?=some (.lst es)/\β1[j]?=some (some (.val true d))/\es.length<Zd/\E.nx (β1.set i (some (.shl .two (.lst (ds.set m (.lst (es++[d])))))))):=by
 refine{λE E' β l CM=>by obtain⟨d,h0,q0,q⟩:=CM;exact{d,h0,q0,hk.mono _ _ _ (λjd _ β1 Ge=>by obtain⟨ds,t,m,es,h1,h2,h3,h4,h5,h6,q⟩:=Ge;exact{ds,t,m,es,h1,h2,h3,h4,h5,h6,l.nx _ q}) q},λpins s σ H De I l5=>?_}
 obtain⟨Z,E,β,⟨own,sq,n⟩,⟨d,Tw,⟨d0,Tq⟩,q⟩,ok⟩:=l5;have fz:=sq.Gu Tw;refine fB (pos:=pos) (pV (apos:=ap) (cpos:=cp) PySem.F.plainAttrs_list PySem.F.slot_list_append PySem.F.type_list_append gb (fC (pos:=kp) b_ (bY (pos:=px) hN hv hd eU) hk.pe Ox) (aZ (bY (pos:=py) ON WR hd2 Ts) cq hs) cS iy cR hs cw) o8 pins s σ H De I ?_;obtain⟨a0,_,_,_,lh,_⟩:=fz.Eu Tq;refine{_,lh,tQ.of hk fz q λjd kk β1 kv H1 ay wF o r=>?_};obtain⟨ds,t,m,es,e1,hb,hj,hm,Xl,hl,q⟩:=wF;subst e1;cases r.rep;obtain⟨a,vs,A',dd,CK,eA,h3,rr,s1⟩:=o.sq.Eu hb;rw[lh]at CK;cases CK;obtain⟨b,us,g1,g2,g3,g4⟩:=rr.get hm;obtain⟨vj,WQ,rj⟩:=o.sq.val j _ _ Xl;have Ic:lB vs t=some (.ref b):=by unfold lB;rw[rr.length,hj];exact g1
 have KQ:i<β1.length:=(Y_.mp hb).1;have Tv:b∈ay i:=by rw[eA];simp[g4]
 have nd:=o.sq.jq i;rw[eA]at nd;obtain⟨na,LK⟩:=Zs.mp nd;have Vf:a0≠b:=λz=>na (by rw[z];exact g4)
 have kp:Kp (eD C.z (Wn ay) (yk true)) H1 (upd H1 b (.lst (us++[vj]))):=r9 g2 (λxs z=>by cases z) (.inl (.inl {(i),Tv}))
 have UM:=rr.put (es':=es++[d]) (us':=us++[vj]) (λ_ _ r=>r.keep kp) (ai.snoc (rj.keep kp) (g3.keep kp)) LK g1 g4;have C0:upd H1 b (.lst (us++[vj])) a0=some (.lst vs):=by rw[au Vf];exact h3
 obtain⟨ts,ht⟩:=UM.ow;have hA:∀c∈ay i,c∈ay i\/(C.H0 c=none/\¬ Wn ay c/\False):=λc hc=>.inl hc;have s2:=bj.putIn (C:=C) (U:=λ_=>False) (A':=ay i) (d':=.lst ts) s1 (get_set KQ) lh Tv (by rw[eA];exact{(a0),vs,A',rfl,C0,rfl,ht}) (o.sq.jq i) hA
 rw[aba,Ft]at s2;have s3:=s2.toShl (y:=.two) (d:=.lst (ds.set m (.lst (es++[d])))) (get_set KQ) lh {a0,vs,A',_,rfl,eA,C0,rfl,UM};rw[aba]at s3;have n2:=(((kK (i:=j) n).trans o.sn)).upd (o':=.lst (us++[vj])) g2 (λxs z=>by cases z) {(i),Tv}
 exact{a0,vs,t,.ref b,rfl,rfl,dj.of h3,Ic,.inl {rfl,us,dj.of g2},vj,WQ,b,us,vj,rfl,rfl,g2,by rw[show us.length=es.length from g3.length];exact hl,ok.nx _ _ _ {_,s3,n2} q}
end
open AI GX
def ER {B:List WS}{x:WS}:(ji B x).length<=B.length+1:=by
 unfold ji
 by_cases e:x.2.length=B.length
 ·rw[if_pos e,Zk];exact Y8 _
 ·rw[if_neg e,ab8];lia
theorem tL:∀{xs B:List WS},(putL B xs).length<=B.length+xs.length
 |[],_=>Y8 _
 |x::xs,B=>by
  have:=tL (xs:=xs) (B:=ji B x);have:=ER (B:=B) (x:=x);show (putL (ji B x) xs).length<=_;rw[Zb];lia
def yZ {B xs:List WS}{i:Nat}{x:WS}(h:xs[i]?=some x):putL B (xs.take (i+1))=ji (putL B (xs.take i)) x:=by
 unfold putL;rw[ZS,h,Option.toList_some,List.foldl_append];rfl
theorem fK.at:∀{xs B:List WS} {i:Nat} {x:WS},fK B xs->xs[i]?=some x->x.2.length<=(putL B (xs.take i)).length
 |[],_,_,_,_,h=>by simp at h
 |y::xs,B,0,x,hp,h=>by
  simp at h;subst h;exact hp.1
 |y::xs,B,i+1,x,hp,h=>fK.at (i:=i) hp.2 (by simpa using h)
def Dd:FS:=λes ds R=>∃L xs:List WS,es=L.map nD/\ds=[.lst (xs.map nD)]/\fK L xs/\L.length<=100/\xs.length<=10100/\R ((putL L xs).map nD)
def Dd.mono:Ik Dd:=λes ds R R' k h=>by obtain⟨L,xs,e1,e2,h1,h2,h3,q⟩:=h;exact{L,xs,e1,e2,h1,h2,h3,k _ q}
end L2.Q
namespace hJ
open PySem L2 L2.Q
section
variable {P:Y7}{w:Zj}{K:PySem.W.Frag}{mg:Str->Option Y1}{base:Heap}
def dQ:aJ ["best","sets","turned","found","size"] ["best","sets"] (ao eI):=mkS
def JH {gj dh} (oh:Ek K mg gj dh) (B:Bs3 mg):aE P w K mg base bI 16 gj dh ["best","sets"] (EB P w Dd):=by
 refine Q_ oh.F dQ (λes ds R Oc=> by obtain⟨L,xs,e1,e2,_⟩ := Oc;subst e2;rfl) λbQ A outer s H H0 E h hr=>⟨_,(ar (dI aab rfl (bt (ae (i:=1))) (c5 (n:=2) rfl (aM (aw (i:=2) dQ.nd) (aM (aw (i:=3) dQ.nd) b6))) (aj (aU (i:=4) (a7 ag (bF.m bJ) B.len dO (aa (ae (i:=3)) af)) dQ.nd)
    (ar (b7 (aL ag (bA.m (cu hr.units)) (ae (i:=4)) (a7 ag (bF.m bJ) B.len dO (aa (EW (i:=0)) af))) (ar (Fm (i:=0) (λ_=>(bX (aa (ae (i:=2)) (aa (ae (i:=3)) af)))) (t:=some h))) (ar (Fh (i:=0) (λ_=>(a7 ag (bF.m (w9 rfl hr.Et)) B.min sO (aa (E5 (i:=0) (ae (i:=4)) (t0:=some h)) (aa (bX (aa (ae (i:=2)) (aa (ae (i:=3)) af))) af)))) (λ_=>(ae (i:=4))) (t0:=some h)))))))),λes ds R hq=>?_⟩
 obtain⟨L,xs,rfl,rfl,hp,hl,hx,q⟩:=hq;refine{_,rfl,_,rfl,tv,nQ (λi β=>i<=xs.length/\∃x2 x3 x4,β=[some (.shl (.at h) (.lst ((putL L (xs.take i)).map nD))),some (.val true (.lst (xs.map nD))),x2,x3,x4]) {Zn _,none,none,none,rfl} (λE1 r1 i n1 d β hd h=>?_) ?_}
 ·obtain⟨hi,x2,x3,x4,rfl⟩:=h;rw[Zg]at hd;obtain⟨x,ex,rfl⟩:=Zh.mp hd;have hs:=hp.at ex;have hn:=tL (xs:=xs.take i) (B:=L);rw[ZI]at hn;refine{_,rfl,rfl,_,_,rfl,_,_,rfl,rfl,?_};have el:kn [l0 x.2]=some (.int (x.2.length:Int)):=cz (by rw[Y3])
  have eL:kn [.lst ((putL L (xs.take i)).map nD)]=some (.int ((putL L (xs.take i)).length:Int)):=cz (by rw[Y3])
  have fe:=(Y_.mp ex).1;have en:=yZ (B:=L) ex;unfold ji at en;refine{_,rfl,tv,_,el,_,rfl,tv,_,_,rfl,tv,_,eL,_,bf _ _,_,rfl,?_}
  by_cases e:x.2.length=(putL L (xs.take i)).length
  ·rw[if_pos e]at en;rw[if_pos (by rw[e];simp)]
   refine{{_,rfl},_,rfl,tv,_,rfl,tv,lK,.inr {tv,_,rfl,?_,n1 _ {fe,_,_,_,by rw[en,Zl];rfl}}}
   rw[Y3];exact Nat.lt_of_le_of_lt (show _<=10200 by lia) (by decide)
  ·rw[if_neg e]at en;rw[if_neg (by simpa using λz=>e (by lia))]
   have dE:x.2.length<(putL L (xs.take i)).length:=by lia
   have hg:=Y5 dE;rw[hg,Option.getD_some]at en;have hm:Dy [nD ((putL L (xs.take i))[x.2.length]),nD x]=some (nD (pk ((putL L (xs.take i))[x.2.length]) x)):=by
    rw[Dx Rh];unfold pk
    split <;> rfl
   refine{{_,rfl},_,rfl,_,_,_,_,rfl,rfl,zJ rfl (by rw[Y3];exact dE),by rw[Zg,hg];rfl,tv,_,rfl,tv,_,rfl,tv,lK,.inr {tv,_,hm,{tv,λz=>(nomatch z)},{_,rfl},_,rfl,_,_,_,rfl,rfl,zJ rfl (by rw[Y3];exact dE),n1 _ {fe,_,_,_,by rw[en,List.map_set];rfl}}}
 ·rintro β ⟨_,x2,x3,x4,rfl⟩;rw[Y3,Z4 (Y8 _)];exact{_,rfl,q}
end
end hJ
namespace L2.Q
open PySem AI GX
noncomputable def nT (ps:List NN)(w:NN->Int):Nat->Nat->D:=λl i=>.lst ((Qc w (i9 ps i (i+l))).map nD)
def DP {L:List WS}:Lr (L.map tn)=.lst (L.map nD):=by unfold Lr;rw[Z7];rfl
def p_ {ps:List NN}{w:NN->Int}{l i j:Nat}{L:List WS}(h:Bz w (i9 ps i j) L)(e:j=i+l):nT ps w l i=.lst (L.map nD):=by subst e;unfold nT;rw[DI h]
def Ck {n:Nat}{ps:List NN}{w:NN->Int}(hp:∀p∈ps,p.1<p.2):((Zv (n+1)).map λ_=>D.lst [D.lst [D.tup [D.int 0,D.lst []]]])=(Zv (n+1)).map λi=>D.lst (o9 1 λl=>nT ps w l i):=by
 refine ZU λi _=>?_;show _=D.lst [nT ps w 0 i];rw[p_ (sN (aa0 i) hp) rfl];rfl
def wR:FD:=λds R=>∃(n:Nat) (ps:List NN) (ws:List Int),ds=[fN n ps,b8 ws]/\vx n ps/\n<=40/\ws.length=ps.length/\∀L,Bz (wf ps ws) (i9 ps 0 n) L->R (.lst (L.map nD))
def wR.mono:dq wR:=λds R R' k h=>by obtain⟨n,ps,ws,e,h1,h2,h3,q⟩:=h;exact{n,ps,ws,e,h1,h2,h3,λL b=>k _ (q L b)}
def Bt {p:NN}{t:Int}{L M:List WS}{m:Nat}(h:M.length<=m):(L.flatMap (d4 p t M)).length<=L.length*m:=by
 have:=xo p (- t) (L.map tn) (M.map tn) m (by rw[Y3];exact h)
 rw[Bh,Y3,Y3]at this;exact this
end L2.Q
namespace hJ
open PySem L2 L2.Q
section
variable {P:Y7}{w:Zj}{K:PySem.W.Frag}{mg:Str->Option Y1}{base:Heap}
def a9:aJ ["row","weights","many","partners","by_tie","table","i","j","best","k"] ["row","weights"] (ao dz):=mkS
def Cb {gZ dG} (my:G5 K mg gZ dG) {gj dh} (oh:Ek K mg gj dh) {gi dg} (og:El K mg gi dg) {dF bN} (gG:yF K mg dF bN) {cI bq} (eO:D3 K mg cI bq) {cT bu} (fQ:D2 K mg cT bu) (B:Bs3 mg):aE P w K mg base bI 17 gZ dG ["row","weights"] (cY P w false wR):=by
 have X5:aE P w K mg base bI 16 _ _ _ (EB P w Dd):=JH oh B;have X3:aE P w K mg base bI 1 _ _ _ (cY P w true OQ):=MZ og B;have Pj:aE P w K mg base bI 1 _ _ _ (cY P w true sv):=wb gG B;have Ly:aE P w K mg base bI 1 _ _ _ (cY P w true iG):=mq eO B;have Pk:aE P w K mg base bI 1 _ _ _ (cY P w true sA):=rQ fQ B;refine ng my.F a9 (λds R Ob=> by obtain⟨n,ps,ws,e,_⟩ := Ob;subst e;rfl) λbQ A outer s H E hr=>⟨_,(aj (aU (i:=2) (aT ag bx (ae (i:=0)) ah) a9.nd)
    (aj (aU (i:=3) (aN iG.mono Ly (hr.mono (by decide)) eO.m eO.F.kp eO.b (aa (ae (i:=0)) af)) a9.nd)
    (aj (aU (i:=4) (aN sv.mono Pj (hr.mono (by decide)) gG.m gG.F.kp gG.b (aa (ae (i:=0)) (aa (ae (i:=1)) af))) a9.nd)
    (aj (pL (i:=5) true ["i"] [none] (by rfl) (by decide:(["i"]:List Str).Nodup) rfl (λ_=>(ck B.range (aa (az aI aA (ae (i:=2)) ah) af))) (λ_ _ _ _ _ _=>(aw (i:=0) (by decide:(["i"]:List Str).Nodup))) (λ_ _ _ _ _ _=>cM) (λ_ _ _ _ _ _=>(aS (aa (aS (aa (bX (aa ah (aa (aS af) af))) af)) af))) a9.nd)
    (Fg 5 (aj (dI aab rfl (bt (aN sA.mono Pk (hr.mono (by decide)) fQ.m fQ.F.kp fQ.b (aa (ae (i:=2)) af))) (c5 (n:=2) rfl (aM (aw (i:=6) a9.nd) (aM (aw (i:=7) a9.nd) b6))) (aj (BS (i:=8) (λ_=>(ml (i:=5) (az aI aA (ae (i:=6)) ah) (az ag (bA.m aW) (az ag (bA.m aW) (ae (i:=7)) (ae (i:=6))) ah))) B.list a9.nd)
    (aj (dI aab rfl (bt (aT ag bx (ae (i:=3)) (ae (i:=6)))) (aw (i:=9) a9.nd) (ar (b7 (aL ag (bA.m fb) (ae (i:=9)) (ae (i:=7))) (ar (BU (i:=8) Dd.mono X5 (hr.mono (by decide)) oh.m oh.F.kp oh.b (aa (aN OQ.mono X3 (hr.mono (by decide)) og.m og.F.kp og.b (aa (bX (aa (ae (i:=6)) (aa (ae (i:=9)) af))) (aa (ae (i:=4)) (aa (ml (i:=5) (az aI aA (ae (i:=6)) ah) (az ag (bA.m aW) (az ag (bA.m aW) (ae (i:=9)) (ae (i:=6))) ah)) (aa (ml (i:=5) (az aI aA (ae (i:=9)) ah) (az ag (bA.m aW) (az ag (bA.m aW) (ae (i:=7)) (ae (i:=9))) ah)) af))))) af))) bc)))
    (ar (Fn (i:=5) (j:=8) (by decide) (ae (i:=6)))))))
    (ar (bh (ml (i:=5) ah (ae (i:=2))))))))))),λds R h=>?_⟩
 obtain⟨n,ps,ws,rfl,ok,W6,hl,q⟩:=h;have hn:=ok.le;have hp:∀p∈ps,p.1<p.2:=λp hp=>(ok.lt p hp).1;refine{_,rfl,tv,_,rfl,_,rfl,tv,n,ps,rfl,ok,_,rfl,tv,_,rfl,tv,n,ps,ws,rfl,ok,hl,_,rfl,tv,_,rfl,tv,(n:Int)+1,rfl,by lia,by lia,tv,?_}
 rw[show ((n:Int)+1).toNat=n+1 by lia]
 refine ip (λ_=>true) (λ_=>.lst [.lst [.tup [.int 0,.lst []]]]) tv (by rw[ZV];exact bG (by lia)) (λx hx x0 o J ho h1 _=>{tv,bG (Zn _),tv,lK,tv,vH,tv,vH,tv,ho,h1 rfl _}) ?_
 rw[bS];refine{_,rfl,λd hd=>by obtain⟨_,_,rfl⟩:=ZN.mp hd;exact{_,rfl},?_}
 rw[Ck (w:=wf ps ws) hp];refine{_,rfl,tv,n,rfl,hn,_,rfl,tv,?_};have Oq:∀{L:Nat->Nat} {x:Int} {i:Nat},x=(i:Int)->i<=n->sd ((Zv (n+1)).map λi=>D.lst (o9 (L i) λl=>nT ps (wf ps ws) l i)).length x=some i:=λe h=>by rw[Y3,ZV];exact zJ e (by lia)
 have P2:∀{c:Nat} {T:Nat->D} {x:Int} {l:Nat},x=(l:Int)->l<c->sd (o9 c T).length x=some l:=λe h=>by unfold o9;rw[Y3,ZV];exact zJ e h
 refine nQ (λidx β=>∃L x6 x7 x8 x9,β=[some (.val false (fN n ps)),some (.val false (b8 ws)),some (.val true (.int n)),some (.val true (y_ n ps)),some (.val true (wD ps (wf ps ws))),some (.shl .two (oO n L (nT ps (wf ps ws)))),x6,x7,x8,x9]/\vd n idx L) {λ_=>1,_,_,_,_,rfl,lW} (λE1 r1 idx n1 d β hd h=>?_) ?_
 ·obtain⟨L,x6,x7,x8,x9,rfl,dn⟩:=h;rw[Zg]at hd;obtain⟨p,vf,rfl⟩:=Zh.mp hd;obtain⟨a,b,ha,hb,rfl,hL,lU⟩:=n_ dn vf;have eL:oO n L (nT ps (wf ps ws))=oO n (c9 n a b) (nT ps (wf ps ws)):=mQ hL;have e0:c9 n a b (n-1-a)=b+1:=by unfold c9;rw[if_neg (by lia),if_pos rfl]
  have hlen:∀m,n-1-a<m->m<=n->c9 n a b m=n+1-m:=λm h1 h2=>by unfold c9;rw[if_pos h1]
  rw[eL];refine{_,rfl,rfl,_,_,rfl,_,_,rfl,rfl,?_};obtain⟨L0,b0⟩:=yv (w:=wf ps ws) hp _ (n-a) (n-a+b) (Y8 _);refine{{_,rfl},_,rfl,tv,_,rfl,_,_,n-a,_,rfl,rfl,Oq (by lia) (by lia),bp (by lia),_,rfl,tv,_,rfl,_,rfl,tv,_,rfl,_,b,_,rfl,P2 (by lia) (by rw[hlen _ (by lia) (by lia)];lia),bp (by rw[hlen _ (by lia) (by lia)];lia),_,p_ b0 rfl,tv,(by show 8<10;decide),?_}
  refine{_,rfl,tv,_,rfl,_,Kk rfl (by lia),.inr {_,rfl,tv,?_}}
  refine nQ (λm β=>m<=(gy ps (n-1-a)).length/\∃Lb x9,β=[some (.val false (fN n ps)),some (.val false (b8 ws)),some (.val true (.int n)),some (.val true (y_ n ps)),some (.val true (wD ps (wf ps ws))),some (.shl .two (oO n (c9 n a b) (nT ps (wf ps ws)))),some (.val true (.int ((n-1-a:Nat):Int))),some (.val true (.int ((n-a+b:Nat):Int))),some (.shl .one (.lst (Lb.map nD))),x9]/\Bz (wf ps ws) (Mc ps (n-1-a) (n-a+b) m) Lb) {Zn _,L0,x9,rfl,?_} (λE2 r2 m n2 d β hd h=>?_) ?_
  ·exact(show Bz (wf ps ws) (i9 ps (n-1-a+1) (n-a+b)) L0 by rw[show n-1-a+1=n-a by lia];exact b0).wk xU
  ·obtain⟨hm,Lb,y9,rfl,bz⟩:=h;unfold Q.dB at hd;rw[Zg]at hd;obtain⟨k,hk,rfl⟩:=Zh.mp hd;have S0:=(Y_.mp hk).1;have nO:=cF.mp (ZT hk);have Gk:=ok.lt _ nO;dsimp only at Gk;refine{_,rfl,tv,_,rfl,_,rfl,_,rfl,sf (λHD=>?_) λHD=>n2 _ {S0,Lb,some (.val true (.int (k:Int))),rfl,bz.wk (Co hk (by lia))}}
   have HD:k<n-a+b:=by lia
   obtain⟨L1,b1⟩:=yv (w:=wf ps ws) hp _ (n-1-a+1) k (Y8 _);obtain⟨L2,b2⟩:=yv (w:=wf ps ws) hp _ (k+1) (n-a+b) (Y8 _);have s1:=oz ok.lt b1;have s2:=oz ok.lt b2;have ln:=An ok.lt (show n-1-a<n-a+b by lia) bz
   obtain⟨bs,po⟩:=JZ hk HD bz b1 b2;have t1:=p_ (l:=k-(n-a)) b1 (by lia)
   have t2:=p_ (l:=n-a+b-(k+1)) b2 (by lia)
   rw[show n-1-a+1=n-a by lia]at t1
   refine{{_,rfl},_,rfl,tv,_,rfl,tv,lK,tv,_,rfl,tv,?_};refine{{_,rfl},_,rfl,tv,_,rfl,_,_,n-a,_,rfl,rfl,Oq (by lia) (by lia),bp (by lia),_,rfl,tv,_,rfl,_,rfl,tv,_,rfl,_,k-(n-a),_,rfl,P2 (by lia) (by rw[hlen _ (by lia) (by lia)];lia),bp (by rw[hlen _ (by lia) (by lia)];lia),tv,?_}
   refine{{_,rfl},_,rfl,tv,_,rfl,_,_,k+1,_,rfl,rfl,Oq (by lia) (by lia),bp (by lia),_,rfl,tv,_,rfl,_,rfl,tv,_,rfl,_,n-a+b-(k+1),_,rfl,P2 (by lia) (by rw[hlen _ (by lia) (by lia)];lia),bp (by rw[hlen _ (by lia) (by lia)];lia),tv,?_}
   have Vl:=s1.1;have Ot:=s2.1;have WZ:=Bt (p:=(n-1-a,k)) (t:=wf ps ws (n-1-a,k)) (L:=L1) (M:=L2) (m:=41) (by lia)
   have YG:L1.length*41<=41*41:=Nat.mul_le_mul_right _ (by lia)
   refine{ps,wf ps ws,(n-1-a,k),L1.map tn,L2.map tn,by rw[t1,t2,DP,DP];rfl,nO,by rw[Y3];lia,by rw[Y3];lia,λx hx=>?_,λx hx=>?_,?_}
   ·obtain⟨y,hy,rfl⟩:=ZN.mp hx;have:=s1.2 y hy;show y.2.length<=100;lia
   ·obtain⟨y,hy,rfl⟩:=ZN.mp hx;have:=s2.2 y hy;show y.2.length<=100;lia
   ·exact{tv,rfl,_,rfl,Lb,_,rfl,by rw[Bh,DP],po,by lia,ZX WZ (by lia),n2 _ {S0,_,_,rfl,bs}}
  ·rintro β ⟨_,Lb,y9,rfl,bz⟩;rw[show (Q.dB (gy ps (n-1-a))).length=(gy ps (n-1-a)).length by unfold Q.dB;rw[Y3]]at bz
   have bz:=bz.wk (Cp hp (show n-1-a<n-a+b by lia))
   have t3:=p_ (l:=b+1) bz (by lia)
   refine{_,rfl,{_,rfl},_,rfl,_,_,n-1-a,_,rfl,rfl,Oq rfl (by lia),bp (by lia),rfl,?_,n1 _ {c9 n a (b+1),some (.val true (.int ((n-1-a:Nat):Int))),some (.val true (.int ((n-a+b:Nat):Int))),some (.val true (.lst (Lb.map nD))),y9,?_,.inr {a,b+1,ha,by lia,λ_ _=>rfl,lU}}}
   ·rw[e0];unfold o9;rw[Y3,ZV];exact jD (by lia)
   ·rw[e0,<- t3];have:=Bo (T:=nT ps (wf ps ws)) ha hb;unfold oO;rw[<- this];rfl
 ·rintro β ⟨L,x6,x7,x8,x9,rfl,dn⟩;rw[Y3]at dn;have e:oO n L (nT ps (wf ps ws))=oO n (λi=>n+1-i) (nT ps (wf ps ws)):=mQ (qH dn);rw[e];refine{{_,rfl},_,_,0,_,rfl,rfl,Oq rfl (by lia),bp (by lia),_,rfl,_,n,_,rfl,P2 rfl (show n<n+1-0 by lia),bp (show n<n+1-0 by lia),tv,?_}
  rw[p_ (DH hp 0 n) (by lia)]
  exact q _ (DH hp 0 n)
end
end hJ
namespace L2.Q
open PySem PySem.Spec PySem.SeqAt PyProof.Rows
def JC (d:D):Prop:=d=.cN\/∃x S,d=.tup [.int x,.lst S]/\D.cK S=true
def Cf {P:Y7}{w:Zj}{H H':Hp}{d:D}{v:V}(h:JC d)(r:me P w false H H' d v):me P w true H H' d v:=by
 rcases h with rfl|⟨x,S,rfl,fl⟩
 ·exact{[],{(r),rfl},Z5,λ_ z=>(nomatch z)}
 ·obtain⟨a,vs,rfl,t,v1,Yl,rfl,h1,v2,UA,rfl,⟨b,us,rfl,hb,nb,rs⟩,rfl⟩:=r;refine{[b],{a,_,rfl,t,v1,_,[],[b],rfl,rfl,{(h1),rfl},.ref b,[],[b],[],rfl,rfl,{b,us,[],rfl,hb,rfl,f9 fl rs},rfl,rfl},by simp,λc hc=>?_}
  rw[Zc.mp hc];exact ZH nb
def aE.Q9 {P:Y7}{w:Zj}{K:PySem.W.Frag}{mg:Str->Option Y1}{base:Heap}{k:Nat}{f:Addr}{fd:ZL}{ps:List Str}{F:FD}(G:aE P w K mg base bI k f fd ps (cY P w false F))(h:∀ds R,F ds R->F ds λd=>JC d/\R d)(mF:dq F):aE P w K mg base bI k f fd ps (cY P w true F) :=
 G.imp λvs H Q E hq=>by
  obtain⟨ds,r,q⟩:=hq;exact{ds,r,mF ds _ _ (λd z v H' s n=>z.2 v H' s (Cf z.1 n)) (h ds _ q)}
open AI GX
def KI (L:List WS)(m:Int):D:=match L[m.toNat]? with
 |none=>.cN
 |some x=>bD x
def lq:FD:=λds R=>∃(n:Nat) (ps:List NN) (ws:List Int) (m:Int),ds=[fN n ps,b8 ws,.int m]/\vx n ps/\n<=40/\ws.length=ps.length/\0<=m/\∀L,Bz (wf ps ws) (i9 ps 0 n) L->R (KI L m)
def lq.mono:dq lq:=λds R R' k h=>by obtain⟨n,ps,ws,m,e,h1,h2,h3,h4,q⟩:=h;exact{n,ps,ws,m,e,h1,h2,h3,h4,λL b=>k _ (q L b)}
def lq.one (ds:List D)(R:D->Prop)(h:lq ds R):lq ds λd=>JC d/\R d:=by
 obtain⟨n,ps,ws,m,e,h1,h2,h3,h4,q⟩:=h;refine{n,ps,ws,m,e,h1,h2,h3,h4,λL b=>{?_,q L b}};unfold KI;cases L[m.toNat]? with
 |none=>exact .inl rfl
 |some x=>exact .inr {_,_,rfl,j_}
def wQ:FD:=λds R=>∃(n:Nat) (ps:List NN) (ws:List Int),ds=[fN n ps,b8 ws]/\vx n ps/\n<=40/\ws.length=ps.length/\∀L,Bz (wf ps ws) (i9 ps 0 n) L->R (b8 (L.map (·.1)))
def wQ.mono:dq wQ:=λds R R' k h=>by obtain⟨n,ps,ws,e,h1,h2,h3,q⟩:=h;exact{n,ps,ws,e,h1,h2,h3,λL b=>k _ (q L b)}
end L2.Q
namespace hJ
open PySem L2 L2.Q
section
variable {P:Y7}{w:Zj}{K:PySem.W.Frag}{mg:Str->Option Y1}{base:Heap}
def cf:aJ ["row","weights","many","best","turned","found"] ["row","weights","many"] (ao cO):=mkS
def FC {jk fI} (wX:L8 K mg jk fI) {dk bL} (dD:yG K mg dk bL) {gZ dG} (my:G5 K mg gZ dG) {gj dh} (oh:Ek K mg gj dh) {gi dg} (og:El K mg gi dg) {dF bN} (gG:yF K mg dF bN) {cI bq} (eO:D3 K mg cI bq) {cT bu} (fQ:D2 K mg cT bu) (B:Bs3 mg):aE P w K mg base bI 18 jk fI ["row","weights","many"] (cY P w false lq):=by
 have Ur:aE P w K mg base bI 17 _ _ _ (cY P w false wR):=Cb my oh og gG eO fQ B;have xh:aE P w K mg base bI 1 _ _ _ (cY P w true iI):=mv dD B;refine ng wX.F cf (λds R Oa=> by obtain⟨n,ps,ws,m,e,_⟩ := Oa;subst e;rfl) λbQ A outer s H E hr=>⟨_,(aj (fD (aN iI.mono xh (hr.mono (by decide)) dD.m dD.F.kp dD.b (aa (ae (i:=0)) (aa (ae (i:=1)) af))))
    (aj (b7 (aL ag (bA.m fb) (ae (i:=2)) ah) eQ bc)
    (aj (aU (i:=3) (aN wR.mono Ur (hr.mono (by decide)) my.m my.F.kp my.b (aa (ae (i:=0)) (aa (ae (i:=1)) af))) cf.nd)
    (aj (b7 (aL ag (bA.m JA) (ae (i:=2)) (a7 ag (bF.m bJ) B.len dO (aa (ae (i:=3)) af))) (ar (bh kP)) bc)
    (aj (rJ (aT ag bx (ae (i:=3)) (ae (i:=2))) (c5 (n:=2) rfl (aM (aw (i:=4) cf.nd) (aM (aw (i:=5) cf.nd) b6))))
    (ar (bh (bX (aa (ib du (ae (i:=4))) (aa (ae (i:=5)) af)))))))))),λds R h=>?_⟩
 obtain⟨n,ps,ws,m,rfl,ok,hn,hl,hm,q⟩:=h;have hp:∀p∈ps,p.1<p.2:=λp hp=>(ok.lt p hp).1;refine{_,rfl,tv,_,rfl,tv,n,ps,ws,rfl,hl,?_};refine{_,rfl,tv,_,rfl,_,rfl,fR (by simpa using hm) ?_}
 refine{_,rfl,tv,_,rfl,tv,n,ps,ws,rfl,ok,hn,hl,λL bz=>?_};have eL:kn [.lst (L.map nD)]=some (.int (L.length:Int)):=cz (by rw[Y3])
 have q:=q L bz;unfold KI at q;refine{_,rfl,tv,_,rfl,tv,_,eL,_,rfl,_,rfl,sf (λh=>{tv,?_}) λh=>?_}
 ·rw[ZF (by lia)]at q
  exact q
 ·have dE:m.toNat<L.length:=by lia
  have hg:=Y5 dE;rw[hg]at q;have hx:vn (.lst (L.map nD)) (.int m)=some (nD (L[m.toNat])):=qm (i:=m.toNat) (by lia) (by rw[Zg,hg];rfl)
  refine{_,rfl,tv,_,rfl,_,hx,_,rfl,rfl,_,_,rfl,_,_,rfl,rfl,_,rfl,_,rfl,rfl,tv,_,rfl,tv,lK,.inr {tv,?_}};show R (.tup [.int (-(0-(L[m.toNat]).1)),l0 (L[m.toNat]).2]);rw[show -(0-(L[m.toNat]).1)=(L[m.toNat]).1 by lia]
  exact q
def JN {jk fI} (wX:L8 K mg jk fI) {dk bL} (dD:yG K mg dk bL) {gZ dG} (my:G5 K mg gZ dG) {gj dh} (oh:Ek K mg gj dh) {gi dg} (og:El K mg gi dg) {dF bN} (gG:yF K mg dF bN) {cI bq} (eO:D3 K mg cI bq) {cT bu} (fQ:D2 K mg cT bu) (B:Bs3 mg):aE P w K mg base bI 18 jk fI ["row","weights","many"] (cY P w true lq):=aE.Q9 (FC wX dD my oh og gG eO fQ B) lq.one lq.mono
def eE:aJ ["row","weights"] ["row","weights"] (ao bE):=mkS
def JP {l9 iE} (Ad:Pn K mg l9 iE) {dk bL} (dD:yG K mg dk bL) {gZ dG} (my:G5 K mg gZ dG) {gj dh} (oh:Ek K mg gj dh) {gi dg} (og:El K mg gi dg) {dF bN} (gG:yF K mg dF bN) {cI bq} (eO:D3 K mg cI bq) {cT bu} (fQ:D2 K mg cT bu) (B:Bs3 mg):aE P w K mg base bI 18 l9 iE ["row","weights"] (cY P w true wQ):=by
 have Ur:aE P w K mg base bI 17 _ _ _ (cY P w false wR):=Cb my oh og gG eO fQ B;have xh:aE P w K mg base bI 1 _ _ _ (cY P w true iI):=mv dD B;refine ng Ad.F eE (λds R N_=> by obtain⟨n,ps,ws,e,_⟩ := N_;subst e;rfl) λbQ A outer s H E hr=>⟨_,(aj (fD (aN iI.mono xh (hr.mono (by decide)) dD.m dD.F.kp dD.b (aa (ae (i:=0)) (aa (ae (i:=1)) af))))
    (ar (bh (J9 ["turned","found"] [none,none] (by rfl) (by decide:(["turned","found"]:List Str).Nodup) rfl (bt (aN wR.mono Ur (hr.mono (by decide)) my.m my.F.kp my.b (aa (ae (i:=0)) (aa (ae (i:=1)) af)))) (λ_ _ _ _ _ _=>(c5 (n:=2) rfl (aM (aw (i:=0) (by decide:(["turned","found"]:List Str).Nodup)) (aM (aw (i:=1) (by decide:(["turned","found"]:List Str).Nodup)) b6)))) (λ_ _ _ _ _ _=>cM) (λ_ _ _ _ _ _=>(ib du (ae (i:=0)))))))),λds R h=>?_⟩
 obtain⟨n,ps,ws,rfl,ok,hn,hl,q⟩:=h;refine{_,rfl,tv,_,rfl,tv,n,ps,ws,rfl,hl,?_};refine{_,rfl,tv,_,rfl,tv,n,ps,ws,rfl,ok,hn,hl,λL bz=>?_};have YK:=(oz ok.lt bz).1;refine{_,rfl,tv,?_};refine J7 (f:=nD) (λ_=>true) (λx:WS=>.int (-(0-x.1))) tv (bG (by lia)) (λx hx x0 x1 o J ho j1 _=>{_,rfl,rfl,_,_,rfl,_,_,rfl,rfl,_,rfl,_,rfl,rfl,tv,ho,j1 rfl _ _}) ?_
 rw[bS];refine{tv,?_};have:=q L bz;unfold b8 at this;rw[Z7]at this;rw[show (L.map λx:WS=>D.int (-(0-x.1)))=L.map (D.int ∘ λx=>x.1) from ZU λx _=>by show D.int _=D.int x.1;congr 1;lia]
 exact this
end
section
variable {P:Y7}{w:Zj}{K:PySem.W.Frag}{mg:Str->Option Y1}{base:Heap}
def rd:aJ ["paper","many"] ["paper","many"] (ao fx):=mkS
def FE {kh fH} (vo:LB K mg kh fH) (B:Bs3 mg):aE P w K mg base bI 1 kh fH ["paper","many"] (cY P w true uK):=by
 refine ng vo.F rd (λds R N9=> by obtain⟨n,pp,e,_⟩ := N9;subst e;rfl) λbQ A outer s H E hr=>{_,(ar (bh (rG ag (bA.m (cu hr.units)) (J9 ["numbers"] [none] (by rfl) (by decide:(["numbers"]:List Str).Nodup) rfl (bt (ae (i:=0))) (λ_ _ _ _ _ _=>(aw (i:=0) (by decide:(["numbers"]:List Str).Nodup))) (λ_ _ _ _ _ _=>cM) (λ_ _ _ _ _ _=>(a7 ag (bF.m bJ) B.len dO (aa (ae (i:=0)) af)))) (oV rfl B.list B.range (aa (az aI aA (ae (i:=1)) ah) (aa ah (aa (ib du ah) af))))))),λds R h=>?_}
 obtain⟨n,pp,rfl,hn,hb,q⟩:=h;have hlen:∀l:List Int,kn [b8 l]=some (.int (l.length:Int)):=λl=>by show some (D.int (((l.map D.int).length:Nat):Int))=_;rw[Y3]
 refine{_,rfl,_,rfl,tv,?_};refine ip (λ_=>true) (λl=>.int (l.length:Int)) tv (bG (by have:=hb.1;lia)) (λl hl y0 o J ho h1 _=>?_) ?_
 ·exact{_,rfl,tv,_,hlen l,tv,ho,h1 rfl _}
 rw[bS];refine{tv,_,rfl,tv,_,rfl,tv,tv,_,rfl,rfl,tv,(n:Int)+1,0,rfl,{by lia,by lia,by lia,by lia},by lia,?_}
 rw[show ((n:Int)+1-0).toNat=n+1 by lia,Bv]
 have e:Lg (.lst (pp.map λl=>D.int (l.length:Int))) (.lst ((vO n).map D.int))=some (.bl (yR n pp)):=by
  have:=DB (pp.map λl=>(l.length:Int)) (vO n);rw[Z7]at this;exact this
 exact{_,e,tv,q}
def dv:aJ ["row","worth","paper","partners","i","j"] ["row","worth","paper"] (ao dU):=mkS
def B_ {l8 gS} (yp:L7 K mg l8 gS) {kh fH} (vo:LB K mg kh fH) {cI bq} (eO:D3 K mg cI bq) {cT bu} (fQ:D2 K mg cT bu) {gk di} (lX:D5 K mg gk di) {d_ bU} (i7:D4 K mg d_ bU) (B:Em mg):aE P w K mg base bI 3 l8 gS ["row","worth","paper"] (cY P w true nY):=by
 have X9:aE P w K mg base bI 1 _ _ _ (cY P w true uK):= FE vo B.toBs3;have Ly:aE P w K mg base bI 1 _ _ _ (cY P w true iG):= mq eO B.toBs3;have Pk:aE P w K mg base bI 1 _ _ _ (cY P w true sA):= rQ fQ B.toBs3;have Uq:aE P w K mg base bI 2 _ _ _ (cY P w true jl):= tU lX i7 B.toBs3;refine ng yp.F dv (λds R N8=> by obtain⟨n,ps,w,pp,e,_⟩ := N8;subst e;rfl) λbQ A outer s H E hr=>⟨_,(aj (b7 (vt.t (rD (rE (jN (aN uK.mono X9 (hr.mono (by decide)) vo.m vo.F.kp vo.b (aa (ae (i:=2)) (aa (aT ag bx (ae (i:=0)) ah) af))))) (rC (jN (a7 ag (bF.m (Am rfl)) B.any Lq (aa (Rr ["numbers","number"] [none,none] (by rfl) (by decide:(["numbers","number"]:List Str).Nodup) rfl (bt (ae (i:=2))) (λ_ _ _ _ _ _=>(aw (i:=0) (by decide:(["numbers","number"]:List Str).Nodup))) (λ_ _ _ _ _ _=>cM) (λ_ _ _ _ _ _=>(pQ (i:=0))) (λ_ _ _ _ _ _=>(aw (i:=1) (by decide:(["numbers","number"]:List Str).Nodup))) (λ_ _ _ _ _ _=>cM) (λ_ _ _ _ _ _=>(rG ag (bA.m fb) (ae (i:=1)) ah))) af)))))) (ar (bh m7)) bc)
    (aj (aU (i:=3) (aN iG.mono Ly (hr.mono (by decide)) eO.m eO.F.kp eO.b (aa (ae (i:=0)) af)) dv.nd)
    (aj (dI aab rfl (bt (aN sA.mono Pk (hr.mono (by decide)) fQ.m fQ.F.kp fQ.b (aa (aT ag bx (ae (i:=0)) ah) af))) (c5 (n:=2) rfl (aM (aw (i:=4) dv.nd) (aM (aw (i:=5) dv.nd) b6))) (ar (b7 (aL ag (bA.m fb) (aT ag bx (aT ag bx (ae (i:=2)) (ae (i:=4))) (az ag (bA.m aW) (ae (i:=5)) (ae (i:=4)))) (aN jl.mono Uq (hr.mono (by decide)) lX.m lX.F.kp lX.b (aa (ae (i:=3)) (aa (ae (i:=1)) (aa (ae (i:=2)) (aa (ae (i:=4)) (aa (ae (i:=5)) af))))))) (ar (bh m7)) bc)))
    (ar (bh m7))))),λds R h=>?_⟩
 obtain⟨n,ps,w,pp,rfl,ok,hn,hb,q⟩:=h;refine{_,rfl,tv,_,rfl,tv,_,rfl,tv,n,pp,rfl,hn,hb,_,rfl,?_};cases Ks:yR n pp with
 |false=>exact wC rfl {tv,q false {λz=>(nomatch z),λz=>by have:=z.1;rw[Ks]at this;cases this}}
 |true =>
  refine fR rfl ?_;obtain⟨Vl,Ot⟩:=hb;have SN:=Cg {(Vl),Ot};refine{_,rfl,_,rfl,tv,?_};refine{λa β o=>a<=pp.length/\(∃x0 x1,β=[x0,x1])/\o=(nj (pp.take a)).map D.bl,{Zn _,{_,_,rfl},rfl},?_,?_}
  ·rintro a d β o hd ⟨ha,⟨x0,x1,rfl⟩,rfl⟩;rw[Zg]at hd;obtain⟨l,hl,rfl⟩:=Zh.mp hd;have C0:=(Y_.mp hl).1;have YW:=Ot l (ZT hl);have et:pp.take (a+1)=pp.take a++[l]:=by rw[ZS,hl];rfl
   have en:nj (pp.take (a+1))=nj (pp.take a)++l.map λx=>decide (x<0):=by
    rw[et];unfold nj;rw[aaO];simp
   refine{_,_,rfl,?_};refine{λb β o=>b<=l.length/\(∃x1,β=[some (.val false (b8 l)),x1])/\o=(nj (pp.take a)++(l.take b).map λx=>decide (x<0)).map D.bl,{Zn _,{_,rfl},by simp},?_,?_}
   ·rintro b d β o hd ⟨hb,⟨x1,rfl⟩,rfl⟩;rw[Zg]at hd;obtain⟨x,hx,rfl⟩:=Zh.mp hd;have gY:=(Y_.mp hx).1;have XG:l.take (b+1)=l.take b++[x]:=by rw[ZS,hx];rfl
    refine{_,rfl,tv,_,rfl,tv,?_,gY,{_,rfl},?_}
    ·rw[Y3,Zk,Y3,ZI];have:=SN a;rw[aaK];lia
    ·rw[XG];simp
   ·rintro β o ⟨_,⟨x1,rfl⟩,rfl⟩;refine{C0,{_,_,rfl},?_};rw[Y3,aai,en]
  ·rintro β o ⟨_,⟨x0,x1,rfl⟩,rfl⟩;rw[Y3,aai];refine{tv,tv,_,GL _,_,rfl,?_};cases Om:(nj pp).any id with
   |true=>exact wC rfl {tv,q false {λz=>(nomatch z),λz=>by rw[t6.mpr z.2.1]at Om;cases Om}}
   |false =>
    refine fR rfl ?_;have Om:=t6.mp Om;rw[E7 Ks];refine{_,rfl,tv,n,ps,rfl,ok,?_};refine{_,rfl,tv,_,rfl,tv,n,rfl,by lia,_,rfl,tv,?_}
    refine{λm β=>(∀s∈(jF n).take m,iZ ps w (Tp pp) s.1 s.2<=Tp pp (s.2-s.1) s.1)/\∃x4 x5,β=[some (.val false (fN n ps)),some (.val false (wD ps w)),some (.val false (iB n (Tp pp))),some (.val true (y_ n ps)),x4,x5],{λs hs=>(nomatch hs),_,_,rfl},?_,?_}
    ·rintro m d β hd ⟨uC,x4,x5,rfl⟩;rw[Zg]at hd;obtain⟨⟨i,j⟩,hs,rfl⟩:=Zh.mp hd;obtain⟨h1,h2⟩:=uf.mp (ZT hs);have et:(jF n).take (m+1)=(jF n).take m++[(i,j)]:=by rw[ZS,hs];rfl
     refine{_,rfl,rfl,_,_,rfl,_,_,rfl,rfl,?_};refine{_,rfl,tv,_,rfl,_,qk (i:=i) rfl (by lia),.inr {tv,_,rfl,tv,_,rfl,_,rfl,_,ql (l:=j-i) (by lia) (by lia),tv,?_}}
     refine{_,rfl,tv,_,rfl,tv,_,rfl,tv,_,rfl,tv,_,rfl,tv,n,ps,w,(λi=>n+1-i),Tp pp,i,j,rfl,ok,h1,h2,λa _ _=>Y8 _,_,rfl,_,rfl,sf (λdE=>?_) (λdE=>?_)}
     ·exact{tv,q false {λz=>(nomatch z),λz=>absurd (z.2.2 i j h1 h2) (by lia)}}
     ·refine{λs hs=>?_,_,_,rfl};rw[et]at hs;rcases Zt.mp hs with z|z
      ·exact uC s z
      ·rw[Zc.mp z];dsimp only;lia
    ·rintro β ⟨uC,x4,x5,rfl⟩;rw[Y3,aai]at uC;exact{tv,q true {λ_=>{Ks,Om,λi j h1 h2=>uC (i,j) (uf.mpr {(h1),h2})},λ_=>rfl}}
end
section
variable {P:Y7}{w:Zj}{K:PySem.W.Frag}{mg:Str->Option Y1}{base:Heap}
def gQ:aJ ["row","weights","paper"] ["row","weights","paper"] (ao cj):=mkS
def JE {l6 iC} (z_:Pm K mg l6 iC) {dk bL} (dD:yG K mg dk bL) {dF bN} (gG:yF K mg dF bN) {l8 gS} (yp:L7 K mg l8 gS) {kh fH} (vo:LB K mg kh fH) {cI bq} (eO:D3 K mg cI bq) {cT bu} (fQ:D2 K mg cT bu) {gk di} (lX:D5 K mg gk di) {d_ bU} (i7:D4 K mg d_ bU) (B:Em mg):aE P w K mg base bI 4 l6 iC ["row","weights","paper"] (cY P w true wN):=by
 have xh:aE P w K mg base bI 1 _ _ _ (cY P w true iI):=mv dD B.toBs3;have Pj:aE P w K mg base bI 1 _ _ _ (cY P w true sv):=wb gG B.toBs3;have Yb:aE P w K mg base bI 3 _ _ _ (cY P w true nY):=B_ yp vo eO fQ lX i7 B;refine ng z_.F gQ (λds R N7=> by obtain⟨n,ps,ws,pp,e,_⟩ := N7;subst e;rfl) λbQ A outer s H E hr=>⟨_,(aj (fD (aN iI.mono xh (hr.mono (by decide)) dD.m dD.F.kp dD.b (aa (ae (i:=0)) (aa (ae (i:=1)) af))))
    (ar (bh (aN nY.mono Yb (hr.mono (by decide)) yp.m yp.F.kp yp.b (aa (ae (i:=0)) (aa (aN sv.mono Pj (hr.mono (by decide)) gG.m gG.F.kp gG.b (aa (ae (i:=0)) (aa (ae (i:=1)) af))) (aa (ae (i:=2)) af))))))),λds R h=>?_⟩
 obtain⟨n,ps,ws,pp,rfl,ok,hn,hl,hb,q⟩:=h;exact{_,rfl,tv,_,rfl,tv,n,ps,ws,rfl,hl,_,rfl,tv,_,rfl,tv,_,rfl,tv,n,ps,ws,rfl,ok,hl,tv,_,rfl,tv,n,ps,wf ps ws,pp,rfl,ok,hn,hb,λb hb=>{tv,q b hb}}
end
end hJ
namespace L2.EX
open PySem PySem.W PySem.Spec PySem.Calls PyProof.Rows Builtin Builtin.ObjectAttr Builtin.Getset_descriptor
def ExcAt (a C:Addr)(h:Heap):Prop:=∃o vs,h.get? a=some o/\o.cls=.ref C/\o.data=.fields vs
def ExcAt.ty {a C:Addr}{h:Heap}{M:Model}(p:ExcAt a C h):Looks M h (typeOf (.ref a)) (.ref C):=by
 obtain⟨o,vs,h1,h2,_⟩:=p;exact h2▸(Looks.ld h1).andThen .now
section
variable {prog:Y7}{w:Zj}{A:Z0}{E:Y1->Y4->Prop}{s:Y4}{K:Frag}{x C:Addr}{R:Result->Y4->Prop}
def class_get {tp:Y1} (X:K.In s.heap) (I:ExcAt x C s.heap) (hm:mroIn K C (.type "object")=some true)
  (h:R (.ok (.ret (.ref C))) s):aco (model prog w) A (.call (.builtin "getset_descriptor.__get__") {[.builtin "object.__class__",.ref x,tp],[]}) R s:=by
 obtain⟨hh,g,dr,t,os⟩:=s;have L0:=I.ty (M:=model prog w);have L1:=looks_mroIn (M:=model prog w) X hm;refine codeAny_call_builtin KF.slot_gs.plain KF.entry_gs (KF.slot_gs.check _ _ _ _ _ _ _ _ KF.type_class (KF.args_gs _ _ _) ?_);unfold abb.«getset_descriptor.__get__» descrGet;rw[dga_obj];refine Y2 (Zi ?_);unfold descrGetter descrCheckInstance descrNameAndClass isInstance;simp only[KF.owner_class]
 repeat lk
 refine{Code.quiet_builtin _ (by decide +kernel),ab5 KF.entry_class ?_}
 unfold abb.«object.__class__» shownTypeOf
 repeat lk
 exact h
structure XC (K:Frag)(C:Addr):Prop where
 obj:mroIn K C (.type "object")=some true
 base:mroIn K C (.type "BaseException")=some true
 ga:findIn K (.ref C) "__getattribute__" = some (some (.builtin "BaseException.__getattribute__"))
 hook:findIn K (.ref C) "__getattr__" = some none
 cls:findIn K (.ref C) "__class__" = some (some (.builtin "object.__class__"))
def DD {M:Model} {Ht:Y1} {Q:Unit->Y4->Prop} (X:K.In s.heap) (I:ExcAt x C s.heap) (Z:XC K C) (hq:Q () s):Zy M A (checkBuiltinCall "BaseException.__getattribute__" {[.ref x,Ht],[]}) Q E s:=by
 obtain⟨hh,g,dr,t,os⟩:=s;have hk:builtinKind "BaseException.__getattribute__" = some .slot:=by decide +kernel
 have Kr:splitId "BaseException.__getattribute__" = some ("BaseException","__getattribute__"):=by decide +kernel
 have ha:=F.args_bexc_ga (.ref x) Ht;have L0:=I.ty (M:=M);have L1:=looks_mroIn (M:=M) X Z.base;simp only[checkBuiltinCall,hk,Kr];refine Y2 ?_;unfold isInstance
 repeat lk
 exact hq
def uY {tk:Tok}{Q:Fin->Y4->Prop}(X:K.In s.heap)(I:ExcAt x C s.heap)(Z:XC K C)(hq:Q (.done (.ret (.ref C))) s):
  Zy (model prog w) A (abb.«object.__getattribute__» {[.ref x,.str "__class__" tk],[]}) Q E s:=by
 obtain⟨hh,g,dr,t,os⟩:=s;have L0:=I.ty (M:=model prog w);have L1:=looks_findIn (M:=model prog w) X Z.cls;have L2:=looks_specialIn (M:=model prog w) (K:=K) X (v:=.builtin "object.__class__") (name:="__get__") (r:=some (.builtin "getset_descriptor.__get__")) (by kernel_rfl)
 have L3:=looks_takesIn (M:=model prog w) (K:=K) X (a:=.builtin "object.__class__") (r:=true) (by kernel_rfl)
 unfold abb.«object.__getattribute__»
 repeat (first|(with_reducible refine Y2 (wpAny_call (class_get (s:=⟨hh,g,dr,t,os⟩) X I Z.obj ?_)))|(with_reducible refine wpAny_call (class_get (s:=⟨hh,g,dr,t,os⟩) X I Z.obj ?_))|lk)
 exact hq
def w5 {Q:Option Y1->Y4->Prop}(X:K.In s.heap)(I:ExcAt x C s.heap)(Z:XC K C)(h:Q (some (.ref C)) {s with toks:=s.toks+1}):Zy (model prog w) A (getAttr? (.ref x) "__class__") Q E s:=by
 obtain⟨hh,g,dr,t,os⟩:=s;have L0:=I.ty (M:=model prog w);have L1:=looks_findIn (M:=model prog w) X Z.ga;have L2:=looks_findIn (M:=model prog w) X Z.hook;have f3:=F.attr_ValueError.ga.bind (.ref x);have RE:(Value.builtin "BaseException.__getattribute__" == Value.builtin "object.__getattribute__")=false:=by decide +kernel
 have Kq:(onTheHeap (Value.ref C)&&Value.builtin "BaseException.__getattribute__" == Value.builtin "object.__getattribute__")=false:=by rw[RE];rfl
 unfold getAttr? getAttrBy? getAttrBy;refine Y2 (wpAny_mkText (Y2 (abz (aav (Y2 (L0.at (Y2 (L1.at ?_))))))));dsimp only;rw[if_neg (λq=>by rw[Kq]at q;cases q)]
 unfold getAttrByItsOwn hookBefore onTheHeap callGetattribute boundAndCalled;dsimp only;rw[if_pos rfl];refine Y2 (L2.at (Y2 (abz (aav ?_))));simp only[Bool.false_and,aaS,if_false];refine Y2 (wpAny_of_eq f3 ?_);refine wpAny_call (codeAny_call_builtin F.attr_ValueError.ga.plain F.entry_bexc_ga (DD (s:={hh,g,dr,t+1,os}) X I Z (uY (s:={hh,g,dr,t+1,os}) X I Z ?_)));exact handed_on rfl (Zi h)
def ui (Z:XC K C):KitX K (.ref x) (.ref C) (ExcAt x C) where
 ty:=λ_ _ _ I=>I.ty
 it:=λ_ _ X _=>by
  obtain⟨cd,hc,_⟩:=Zq.mp Z.obj;unfold clsIn at hc
  split at hc
  ·rename_i c' d' XS Hc ho
   intro A' Q' E' s' k q;unfold isType loadHead;exact Y2 (wpAny_loadPart (k _ _ (X _ _ ho)) (Zi q))
  ·cases hc
 ne:=λh tp dd its n sl X WU=>by
  obtain⟨cd,hc,_⟩:=Zq.mp Z.obj;refine Bool.eq_false_iff.mpr λq=>?_;have e:C=tp:=Value.ref.inj (beq_iff_eq.mp q);subst e;unfold clsIn at hc
  split at hc
  ·rename_i c' d' XS Hc ho
   have z:=(X _ _ ho).symm.trans WU;cases z
  ·cases hc
 ca:=λX I k=>w5 X I Z k
end
end L2.EX
namespace L2
open PySem PySem.W PySem.Spec PyProof.Rows
abbrev lG (C a:Addr):HO:=.ext (EX.ExcAt a C)
def D.exc (C:Addr):D:=.ob (lG C)
structure Lz (P:Y7)(w:Zj)(outer:List Env)(H:Hp)(s:Y4)(a C:Addr)(H':Hp)(s':Y4):Prop where
 os:s'.os=s.os
 bare:acv s'.gens
 un:Un (hG outer) [] H H' s.heap s'.heap
 bB:g9 P w H' s'.heap
 fl:∃(B:Heap) (a0:Y1),abT B outer a (.ref C) a0 s'.heap/\(∀b,H' b≠none->∃o,B.get? b=some o) /\
  ∀b o,s.heap.get? b=some o->b∉hG outer->∃o',B.get? b=some o'/\(H b=none->o'=o)
 nt:H' a=none
 nw:s.heap.get? a=none
def mE (P:Y7)(w:Zj):AB:=λouter H s E e s'=>∃(a C:Addr) (H':Hp),e=.ref a/\Lz P w outer H s a C H' s'/\E (.ref C) none H'
section
variable {P:Y7}{w:Zj}{H:Hp}{h h' B:Heap}
def qu (x:g9 P w H h){b:Addr}(e:H b≠none):∃o,h.get? b=some o:=by
 cases q:H b with
 |none=>exact absurd q e
 |some u =>
  have z:=x b u q;cases u with
  |lst xs=>obtain⟨_,_,_,_,e⟩:=z;exact{_,e}
  |tup xs=>obtain⟨_,_,_,o,e,_⟩:=z;exact{_,e}
  |dK kvs=>obtain⟨_,_,_,_,o,_,_,e,_⟩:=z;exact{_,e}
  |dT kvs=>obtain⟨_,_,_,_,o,_,_,e,_⟩:=z;exact{_,e}
  |set S n=>obtain⟨o,_,_,_,e,_⟩:=z;exact{_,e}
  |ins C dx fs=>obtain⟨_,_,_,e,_⟩:=z;exact{_,e}
  |own y=>obtain⟨_,e⟩:=z;exact{_,e}
  |xd fs=>obtain⟨_,⟨_,_,_,e,_⟩,_⟩:=z;exact{_,e}
  |Py lo hi=>obtain⟨_,_,_,e⟩:=z;exact{_,e}
  |C7 ob u=>obtain⟨e,_⟩:=z;exact{_,e}
  |G7 ps=>exact{_,(show h.get? b=some _ from z)}
  |met f y=>exact{_,(show h.get? b=some _ from z)}
  |ext φ=>obtain⟨_,e,_⟩:=z;exact e
def lj (x:g9 P w H h)(st:B.StaysIn h)(aG:B.StaysIn h')(tr:∀b,H b≠none->∃o,B.get? b=some o):g9 P w H h':=λb u e =>
 (x b u e).mS (λc v hc q=>by
  have nc:H c≠none:=by
   rcases hc with rfl|z
   ·rw[e];exact λz=>(nomatch z)
   ·rw[z];exact λz=>(nomatch z)
  obtain⟨o,ho⟩:=tr c nc;rw[st c o ho]at q;cases q;exact aG c _ ho) (λ_ q=>q) λ_ _ q=>q
end
section
variable {X:Cx}{pins:List (Addr×Obj)}{σ:St}{H H':Hp}{s s':Y4}{e C:Addr}
def wM {B:Heap}{outer:List Env}{h0 h1 h2:Heap}{H0:Hp}(u:Un (hG outer) [] H0 H h0 h1)(ff:h1.FunFrames B outer)(st:B.StaysIn h2)(up:h1.UpToSlots h2)
  (tr:∀b o,h0.get? b=some o->b∉hG outer->∃o',B.get? b=some o'/\(H0 b=none->o'=o)):Un (hG outer) [] H0 H h0 h2 where
 keep:=λb o e n hb _=>by
  obtain⟨o',e1,e2⟩:=tr b o e hb;rw[<- e2 n];exact st b _ e1
 slot:=λb o e n hb hx=>by
  obtain⟨sl,e1⟩:=u.slot b o e n hb hx;obtain⟨_,o',e2,nf⟩:=ff.mem hb;rw[e1]at e2;cases e2;obtain⟨Hc,e3⟩:=up b _ e1 nf;exact{(Hc),e3}
 free:=u.free
 there:=λb o e hx=>by
  by_cases hb:b∈hG outer
  ·obtain⟨_,o',e2,nf⟩:=ff.mem hb;obtain⟨Hc,e3⟩:=up b _ e2 nf;exact{_,e3}
  ·obtain⟨o',e1,_⟩:=tr b o e hb;exact{o',st b _ e1}
 je:=u.je
 i6:=u.i6
 jf:=u.jf
def wu {vs:List Y1}{hs:Heap}{M:Model}{E:Y1->Y4->Prop}{Q:Unit->Y4->Prop}(I:Inv X pins σ H s)(hx:X.ex=[])(si:X.stack=X.env::X.outer)(hf:X.env.frame=some X.env.locals)(m:Heap.MadeExcOf s.heap hs e (.ref C) vs)
  (k:∀Bq,Lz X.prog X.w X.outer X.H₀ X.s₀ e C H Bq->Q () Bq):Zy M X.A (leaving X.env (.ref e)) Q E {s with heap:=hs}:=by
 have fr:X.A.frames=some (X.env::X.outer):=by rw[<- si];exact I.ok.frames
 have ff:s.heap.FunFrames X.base (X.env::X.outer):=by rw[<- si];exact I.stack
 have HE:∀env∈(X.env::X.outer),∀b,env.frame=some b->b∈hG (X.env::X.outer):=λenv he b hb=>List.mem_filterMap.mpr {(env),he,hb};have nl:∀b o,X.s₀.heap.get? b=some o->b∉X.fs->b∉hG (X.env::X.outer):=λb o eb nb z=>by
  unfold hG at z;rw[aat,hf]at z;rcases Y6.mp z with z|z
  ·exact absurd (ZD (Zo eb) I.ok.above) (by rw[z];exact aa0 _)
  ·exact nb z
 have I0:∀b,b∉X.ex:=λb z=>by rw[hx]at z;cases z
 have UE:(hideAll s.heap (hG (X.env::X.outer))).StaysIn s.heap:=λb o q=>of_hideAll _ q;refine wpAny_leaves_madeW (h:=s.heap) (base:=hideAll s.heap (hG (X.env::X.outer))) fr hf UE (funFrames_hide ff HE) m λh' t f1 f2 f3 f4=>k _ ?_;have tr:∀b,H b≠none->∃o,(hideAll s.heap (hG (X.env::X.outer))).get? b=some o:=λb nb=>by
  obtain⟨o,ho⟩:=qu I.bB nb;exact{o,hideAll_get _ ho λz=>nb (I.qX b (by rw[si];exact z))}
 have yJ:∀b o,X.s₀.heap.get? b=some o->b∉hG X.outer->∃o',(hideAll s.heap (hG (X.env::X.outer))).get? b=some o'/\(X.H₀ b=none->o'=o):=λb o eb nb=>by
  obtain⟨o1,e1⟩:=I.base.there b o eb (I0 b);refine{o1,hideAll_get _ e1 (nl b o eb nb),λn=>?_};rw[I.base.keep b o eb n nb (I0 b)]at e1;exact(ZZ e1).symm
 have u0:Un (hG X.outer) [] X.H₀ H X.s₀.heap s.heap:=by
  have z:=I.base;rw[hx]at z;exact z
 have Xz:s.heap.FunFrames (hideAll s.heap (hG (X.env::X.outer))) X.outer:=(funFrames_hide ff HE).2.2;refine{I.os,I.bare,wM u0 Xz f1.1 ((Heap.UpToSlots.of_keeps m.keeps).trans f4) yJ,lj I.bB UE f1.1 tr,{_,_,f1,tr,yJ},?_,?_}
 ·cases q:H e with
  |none=>rfl
  |some u =>
   obtain⟨o,ho⟩:=qu I.bB (b:=e) (by rw[q];exact λz=>(nomatch z))
   rw[m.new]at ho;cases ho
 ·cases q:X.s₀.heap.get? e with
  |none=>rfl
  |some o =>
   obtain⟨o',e1⟩:=I.base.there e o q (I0 e);rw[m.new]at e1;cases e1
def Cw {M:Model}{E:Y1->Y4->Prop}{Q:Unit->Y4->Prop}(I:Inv X pins σ H s)(hx:X.ex=[])(si:X.stack=X.env::X.outer)(hf:X.env.frame=some X.env.locals)(f:Lz X.prog X.w X.stack H s e C H' s')
  (k:∀Bq,Lz X.prog X.w X.outer X.H₀ X.s₀ e C H' Bq->Q () Bq):Zy M X.A (leaving X.env (.ref e)) Q E s':=by
 have fr:X.A.frames=some (X.env::X.outer):=by rw[<- si];exact I.ok.frames
 have I0:∀b,b∉X.ex:=λb z=>by rw[hx]at z;cases z
 obtain⟨os,bare,un,bB,⟨B,a0,fl,tr,yJ⟩,nt,nw⟩:=f;rw[si]at fl un yJ;have nl:∀b o,X.s₀.heap.get? b=some o->b∉X.fs->b∉hG (X.env::X.outer):=λb o eb nb z=>by
  unfold hG at z;rw[aat,hf]at z;rcases Y6.mp z with z|z
  ·exact absurd (ZD (Zo eb) I.ok.above) (by rw[z];exact aa0 _)
  ·exact nb z
 refine wpAny_leaves_onW fr hf fl λh' f1 f4=>k _ ?_;have u0:Un (hG X.outer) [] X.H₀ H X.s₀.heap s.heap:=by
  have z:=I.base;rw[hx]at z;exact z
 have Qv:∀b o,X.s₀.heap.get? b=some o->b∉hG X.outer->∃o',B.get? b=some o'/\(X.H₀ b=none->o'=o):=λb o eb nb=>by
  obtain⟨o1,e1⟩:=I.base.there b o eb (I0 b);obtain⟨o',e2,e3⟩:=yJ b o1 e1 (nl b o eb nb);refine{o',e2,λn=>?_};rw[I.base.keep b o eb n nb (I0 b)]at e1;cases e1;exact e3 (I.base.free b o eb n (I0 b))
 have u1:Un (hG X.outer) [] X.H₀ H' X.s₀.heap s'.heap:=by
  refine{λb o eb n nb _=>?_,λb o eb n hb hx=>?_,λb o eb n hx=>?_,λb o eb hx=>?_,λb xs q=>un.je b xs (u0.je b xs q),λb o q z=>un.i6 b o q (u0.i6 b o q z),λb ps q=>?_}
  ·obtain⟨o',e1,e2⟩:=Qv b o eb nb;rw[<- e2 n];exact fl.1 b _ e1
  ·obtain⟨sl,e1⟩:=u0.slot b o eb n hb hx;have gY:b∈hG (X.env::X.outer):=by unfold hG;rw[aat,hf];exact Zu _ hb
   obtain⟨Hc,e2⟩:=un.slot b _ e1 (u0.free b o eb n hx) gY (by simp)
   exact{(Hc),e2}
  ·obtain⟨o',e1⟩:=u0.there b o eb hx;exact un.free b o' e1 (u0.free b o eb n hx) (by simp)
  ·obtain⟨o',e1⟩:=u0.there b o eb hx;exact un.there b o' e1 (by simp)
  ·obtain⟨m1,e1⟩:=u0.jf b ps q;obtain⟨m2,e2⟩:=un.jf b _ e1;exact{m1++m2,by rw[e2,Array.append_assoc]}
 refine{os.trans I.os,bare,wM u1 fl.2.2.1.2.2 f1.1 f4 Qv,lj bB fl.1 f1.1 tr,{(B),a0,f1,tr,Qv},nt,?_};cases q:X.s₀.heap.get? e with
 |none=>rfl
 |some o =>
  obtain⟨o',e1⟩:=I.base.there e o q (I0 e);rw[nw]at e1;cases e1
end
abbrev Cx.Ef (X:Cx)(e:Addr):Cx:={X with A:=X.A.mark (some (.ref e)),calm:=false,xe:=λ_ _=>False}
section
variable {X:Cx}{pins:List (Addr×Obj)}{σ:St}{H H':Hp}{s s':Y4}{e C:Addr}
def Inv.Ef (I:Inv X pins σ H s):Inv (X.Ef e) pins σ H s :=
 {{I.ok.mod,I.ok.kind,I.ok.glob,I.ok.blt,I.ok.above,I.ok.inj,I.ok.has,I.ok.Ib,(λz=>by cases z),I.ok.frames,I.ok.IP,I.ok.K4,I.ok.bs,I.ok.DK,I.ok.tY,I.ok.uP,I.ok.j8,I.ok.Gs},I.os,I.bare,I.base,I.loc,I.cell,I.free,I.eG,I.pin,I.bB,I.len}
def Inv.Mb (ok:X.Ok)(I:Inv (X.Ef e) pins σ H s):Inv X pins σ H s:={(ok),I.os,I.bare,I.base,I.loc,I.cell,I.free,I.eG,I.pin,I.bB,I.len}
def Gq {M:Model}{A:Z0}{E:Y1->Y4->Prop}{j:Nat}{n:Str}{pos:Pos}{Q:Unit->Y4->Prop}(I:Inv X pins σ H s)(hN:X.N.Nodup)(hj:X.N[j]?=some n)(hl:X.env.scope.names.lookup n=some .local)
  (h:∀s',Inv X pins (σ.set j none) H s'->Q () s'):Zy M A (do bindName X.env n .none;unbindBehindTheSuite X.env n pos) Q E s:=by
 obtain⟨m,hn,zR⟩:=id I.loc;have KW:(X.env.scope.kind==.class || (X.env.scope.kind==.module&&X.env.locals != X.env.globals))=false:=by rw[I.ok.kind];rfl
 have DC:=I.DC;obtain⟨oL,_,_,Vd,_⟩:=id hn;refine wpAny_nameGoes_keeps hl hn KW λh' v Gi hs=>h _ ?_;have LF:g9 X.prog X.w H h':=λb ob eb=>by
  refine(I.bB b ob eb).mS (λc w' hc q=>(hs.2 c ?_).trans q) (λ_ q=>q) λ_ _ q=>q;rintro rfl;rcases hc with rfl|hc
  ·rw[I.free]at eb;cases eb
  ·rw[I.free]at hc;cases hc
 have nL:∀b o,X.s₀.heap.get? b=some o->b≠X.env.locals:=λb o eb=>ZQ (ZD (Zo eb) I.ok.above);refine{I.ok,I.os,I.bare,{λb o eb nb hb hx=>(hs.2 b (nL b o eb)).trans (I.base.keep b o eb nb hb hx),λb o eb nb hb hx=>?_,I.base.free,λb o eb hx=>?_,I.base.je,I.base.i6,I.base.jf},{_,Gi,λi y v' e1 e2 e3=>?_},λy c ec=>?_,I.free,I.eG,λp hp=>?_,LF,by simpa using I.len}
 ·obtain⟨sl,e1⟩:=I.base.slot b o eb nb hb hx;exact{sl,(hs.2 b (nL b o eb)).trans e1}
 ·obtain⟨o',e1⟩:=I.base.there b o eb hx;exact{o',(hs.2 b (nL b o eb)).trans e1}
 ·by_cases aD:i=j
  ·subst aD;rw[aaX]at e2;rw[if_pos rfl]at e2
   split at e2 <;> cases e2
  ·rw[abq (Z_ aD)]at e2;obtain⟨u',r',q⟩:=zR i y v' e1 e2 e3;refine{u',r',?_};rcases q with⟨k,z⟩|⟨k,c,z,z'⟩
   ·refine .inl {k,?_};have ne:y≠n:=λz=>aD (ni hN e1 (z▸hj));simp[ne,z]
   ·exact .inr {k,c,z,z'.sameBut hs (DC y c z)}
 ·obtain⟨w',z⟩:=I.cell y c ec;exact{w',z.sameBut hs (DC y c ec)}
 ·obtain⟨e1,n1,ne,nf,d⟩:=I.pin p hp;exact{(hs.2 p.1 ne).trans e1,n1,ne,nf,d}
def Lz.land {B:Heap}{a0:Y1}{h6:Heap}{t:Nat}(I:Inv X pins σ H s)(f:Lz X.prog X.w X.stack H s e C H' s')(fl:abT B X.stack e (.ref C) a0 s'.heap)(tr:∀b,H' b≠none->∃o,B.get? b=some o)
  (yJ:∀b o,s.heap.get? b=some o->b∉hG X.stack->∃o',B.get? b=some o'/\(H b=none->o'=o)) (f6:abT B X.stack e (.ref C) a0 h6) (up:s'.heap.UpToSlots h6) :
  Inv X pins σ (upd H' e (lG C e)) {s' with heap:=h6,toks:=t}:=by
 have u:=wM f.un fl.2.2.1 f6.1 up yJ;obtain⟨oe,vs,g1,g2,g3,_⟩:=f6.first
 have ex:EX.ExcAt e C h6:={(oe),vs,g1,g2,g3};have bB:g9 X.prog X.w H' h6:=lj f.bB fl.1 f6.1 tr;have ne:∀b u,H' b=some u->b≠e:=λb u q z=>by rw[z,f.nt]at q;cases q
 have SH:g9 X.prog X.w (upd H' e (lG C e)) h6:=λb u q=>by
  by_cases hb:b=e
  ·subst hb;rw[ak]at q;cases q;exact{ex,{(oe),g1},λh1 h2 N6 k=> by obtain⟨o,vs,z1,z2⟩ := N6;exact{o,vs,k o z1,z2}}
  ·rw[au hb]at q;exact(bB b u q).mS (λc v _ q=>q) (λc q=>by rw[au (ne c _ q)];exact q) λc xs q=>by rw[au (ne c _ q)];exact q
 have u2:Un (hG X.stack) [] H (upd H' e (lG C e)) s.heap h6:=by
  refine{u.keep,u.slot,λb o eb nb hx=>?_,u.there,λb xs q=>?_,λb o q z=>?_,λb ps q=>?_}
  ·rw[au (λz=>by rw[z,f.nw]at eb;cases eb)]
   exact u.free b o eb nb hx
  ·have z:=u.je b xs q;rw[au (ne b _ z)];exact z
  ·have z':=u.i6 b o q z;rw[au (ne b _ z')];exact z'
  ·obtain⟨more,z⟩:=u.jf b ps q;exact{more,by rw[au (ne b _ z)];exact z}
 exact I.Ia (s':={s' with heap:=h6,toks:=t}) f.os u2 SH f.bare (λb z=>nomatch z)
def ExcAt.stays {B h:Heap}{l:List Env}{a0:Y1}(f:abT B l e (.ref C) a0 h):EX.ExcAt e C h:=by
 obtain⟨oe,vs,g1,g2,g3,_⟩:=f.first
 exact{(oe),vs,g1,g2,g3}
def Ll {xA n:Str}{CA:Addr}{j:Nat}{np Gg:Pos}{b₀:Stmt}{tm:List Stmt}{Q:Flow->Y4->Prop}{E:Y1->Y4->Prop}(I:Inv X pins σ H s)(si:X.stack=X.env::X.outer)(hf:X.env.frame=some X.env.locals)
  (f:Lz X.prog X.w X.stack H s e C H' s') (hm:X.mg xA=some (.ref CA)) (hg:Gl X xA) (hx:exmOne X.K (.ref C) (.ref CA)=some true) (hN:X.N.Nodup) (hj:X.N[j]?=some n) (hl:X.env.scope.names.lookup n=some .local)
  (k:∀s1,Inv (X.Ef e) pins (σ.set j (some (.ref e))) (upd H' e (lG C e)) s1->Zy (model X.prog X.w) (X.Ef e).A (execs (b₀::tm) X.env)
   (λf s4=>Zy (model X.prog X.w) X.A (do bindName X.env n .none;unbindBehindTheSuite X.env n Gg) (λ_ s5=>Q f s5) E s4) (λ_ _=>False) s1) (hd:(xA==("__debug__" : Str))=false:=by decide) :
  Zy (model X.prog X.w) X.A (noteFrame (.ref e) X.env) (λ_ s₂=>Zy (model X.prog X.w) X.A (setFlight (.ref e) none) (λ_ s₃ =>
   Zy (model X.prog X.w) X.A (handleBy (.ref e) X.env [.ExceptHandler (some (.Name xA np)) (some n) (b₀::tm) Gg]) Q E s₃) E s₂) E s':=by
 have fr:X.A.frames=some (X.env::X.outer):=by rw[<- si];exact I.ok.frames
 obtain⟨B,a0,fl,tr,yJ⟩:=f.fl;have Xy:abT B (X.env::X.outer) e (.ref C) a0 s'.heap:=by rw[<- si];exact fl
 refine wpAny_looks_onW fr hf Xy λh4 OE UK=>?_;refine wpAny_landsW OE λh5 OC LG=>?_;have HG:abT B X.stack e (.ref C) a0 h5:=by rw[si];exact OC
 have I5:Inv X pins σ (upd H' e (lG C e)) {s' with heap:=h5}:=f.land (t:=s'.toks) I fl tr yJ HG (UK.trans LG)
 refine wpAny_handleBy_cons (codeAny_handlers_test ?_) (by intro q;cases q)
 refine j3 (X:=X.Ef e) (Inv.Ef I5) hg hm ?_ hd;refine(exm_one (M:=model X.prog X.w) I5.AH (ExcAt.stays HG).ty hx).here ?_;rw[if_pos rfl];refine codeAny_handlers_suite_as ?_;refine lands_againW OC λh6 Tj V6=>?_;have OB:abT B X.stack e (.ref C) a0 h6:=by rw[si];exact Tj
 have I6:Inv X pins σ (upd H' e (lG C e)) {s' with heap:=h6}:=f.land (t:=s'.toks) I fl tr yJ OB ((UK.trans LG).trans V6)
 refine mR (X:=X.Ef e) (Inv.Ef I6) hN hj (.inl hl) (v:=.ref e) rfl (λs7 I7=>?_) (.inr hl);exact abn (k s7 I7) (λf s8 z=>z) λ_ _ z=>z.elim
end
end L2
namespace L2.Q
open PySem PySem.W PySem.Spec PySem.SeqAt PyProof.Rows
abbrev LA:=List D->(D->Prop)->(Addr->Prop)->Prop
def oH (F:LA):Prop:=∀ds R R' T T',(∀d,R d->R' d)->(∀c,T c->T' c)->F ds R T->F ds R' T'
def gu (P:Y7)(w:Zj)(ro:Bool)(F:LA):Sp:=λvs H Q E=>∃ds,ai P w (λ_=>False) H ds vs/\F ds (λd=>∀v H',aB H H'->me P w ro H H' d v->Q v H') (λcl=>∀H',aB H H'->E (.ref cl) none H')
structure Ud (X:Cx)(H0:Hp)(IO:Addr->Prop)(T:Addr->Prop):Prop where
 made:∀pins σ H s e cl hs vs,Inv X pins σ H s->Kp IO H0 H->Heap.MadeExcOf s.heap hs e (.ref cl) vs->T cl->X.xe (.ref e) {s with heap:=hs}
 pass:Passes (mE X.prog X.w) X (λcv _ H'=>∃cl,cv=.ref cl/\T cl/\Kp IO H0 H')
 own:PassesOwn (model X.prog X.w) X.A X.env X.xe
abbrev XR (H:Hp)(E:XK)(cl:Addr):Prop:=∀H',aB H H'->E (.ref cl) none H'
def hX {P:Y7}{w:Zj}{K:Frag}{mg:Str->Option Y1}{base:Heap}{N:List Str}{qual:Str}{scope:abB}{f:Addr}{cd:Y1}{A:Z0}{outer:List Env}{s:Y4}{H:Hp}{E:XK}:
  Ud (ly (mE P w) P w K mg base N qual scope f cd A outer s H E) H (λ_=>False) (XR H E) where
 made:=λpins σ H1 s1 e cl hs vs I k m t=>wu I rfl rfl rfl m λBq fl=>{e,cl,H1,rfl,fl,t H1 λb o z=>k.out b o z λz=>z}
 pass:=λpins σ H1 s1 e s' I N5=> by
  obtain⟨a,cl,H',ea,fl,XQ,TY,t,k⟩ := N5;cases ea;cases TY;exact Cw I rfl rfl rfl fl λBq fl=>{a,cl,H',rfl,fl,t H' λb o z=>k.out b o z λz=>z}
 own:=PassesOwn.leaving
abbrev Qe:List Y1:=[.type "ValueError",.type "Exception",.type "BaseException",.type "object"]
structure Xc (K:Frag)(mg:Str->Option Y1)(x:Str)(C:Addr):Prop where
 m:mg x=some (.ref C)
 exc:excIn K C Qe "ValueError.__new__" = true
def Xc.own {K:Frag} {mg:Str->Option Y1} {x:Str} {C:Addr} {h:Heap} (z:Xc K mg x C) (X:K.In h):OwnCls x C Qe "ValueError.__new__" mg h:=by
 refine{z.m,?_};have q:=z.exc;unfold excIn at q
 split at q
 ·rename_i dd cd sl ho
  split at q
  ·rename_i C' bm k0 k1 k2 k3 n k5 hm hs
   simp only[ZW,beq_iff_eq,abU]at q;obtain⟨⟨⟨⟨⟨rfl,rfl⟩,OG⟩,ht⟩,bB⟩,PX⟩:=q;obtain⟨nm,bs,mro,ns,qn,hd,sn,sub,ab,col,del⟩:=cd;dsimp only at hm OG bB PX;subst hm OG;have PR:sl=#[k0,k1,k2,k3,some (.builtin "ValueError.__new__"),k5]:=by
    obtain⟨l⟩:=sl;simp only at hs;rw[hs]
   subst PR;exact{bm,ns,nm,qn,bs,hd,sn,sub,ab,col,dd,k0,k1,k2,k3,k5,_,X _ _ ho,.of_isNs (isNs_of_in X bB),nsMap_none_of_in X bB PX,tail_of_in X ht}
  ·cases q
 ·cases q
section
variable {X:Cx}{C:Cfg}{T:Addr->Prop}{x:Str}{cl:Addr}{np cpos pos O1:Pos}{m:Str}
def tP {j}(Z:Ud X C.H0 C.IO T)(hc:X.calm=true)(hx:Xc X.K X.mg x cl)(hg:Gl X x:=by rfl)(hd:(x==("__debug__" : Str))=false:=by decide)
  (he:Y9 [.Constant (.str m) j O1] X.env=[(false,eval (.Constant (.str m) j O1) X.env)]:=by rfl) (hp:(aag cpos (Y9 [.Constant (.str m) j O1] X.env)).any (·.1)=false:=by rfl) :
  PB X C (.Raise (some (.Call (.Name x np) [.Constant (.str m) j O1] [] cpos)) none pos) (λ_ _=>T cl) :=
 ⟨λ_ _ _ _ h=>h,λpins s σ H D I N4=> by
  obtain⟨_,E,β,⟨own,sq,n⟩,t,_⟩ := N4;obtain⟨tl,N,nm,q,bs,hdct,sn,sub,ab,col,dd,k0,k1,k2,k3,k5,mN,hC,hN,PX,TL⟩:=(hx.own I.AH).obj;have FB:=PySem.F.excBase_ValueError;refine wpAny_Raise_call_subT (C:=cl) (nm:=nm) (q:=q) (N:=N) (bs:=bs) (bm:=tl) (hdct:=hdct) (sn:=sn) (sub:=sub) (ab:=ab) (col:=col) (dd:=dd) (k0:=k0) (k1:=k1) (k2:=k2) (k3:=k3) (k5:=k5)
   FB (mN:=mN) (TL.hasType FB.hasBase) (I.ok.hd hc) hp PX (j3 I hg hx.m {rfl,?_} hd)
  rw[he];refine Calls.evalArgs_plain ?_;show Zy _ _ (spliced ((false,eval (.Constant (.str m) j O1) X.env)::aag cpos [])) _ _ _;refine Calls.spliced_cons (Calls.Constant_str (Calls.spliced_nil {rfl,(by show 1<=Zd;decide),hC,hN,TL,λh' e mk=>?_}))
  exact Z.made pins σ H {s with toks:=s.toks+1} e cl h' _ (I.tok _) sq.kp mk t⟩
end
section
variable {X:Cx}{C:Cfg}{k:Nat}{f:Addr}{fd:ZL}{ps:List Str}{F:LA}{ro p:Bool}{x:Str}{pp pos:Pos}{e:Expr}{es:List Expr}{φs:bP}{T:Addr->Prop}
def MK (ro:Bool)(F:LA)(T:Addr->Prop)(φs:bP):aQ:=λβ R=>φs β λds _ β1=>F ds (λd=>R d (rk ro) β1) T
def jO (Z:Ud X C.H0 C.IO T)(mF:oH F)(G:aE X.prog X.w X.K X.mg X.base (mE X.prog X.w) k f fd ps (gu X.prog X.w ro F))(hr:c_ k X.A)(hm:X.mg x=some (.ref f))(hk:PySem.W.keepIn X.K (.ref f)=true)(hb:Binds X.K fd ps [])(ha:pq X C p (e::es) φs)(hg:Gl X x:=by rfl)
  (hdb:(x==("__debug__" : Str))=false:=by decide)
  (gF:Y9 (e::es) X.env=(false,eval e X.env)::Y9 es X.env:=by rfl) (hpl:(aag pos (Y9 es X.env)).any (·.1)=false:=by rfl) :
  PQ X C p (.Call (.Name x pp) (e::es) [] pos) (MK ro F T φs) :=
 ⟨λβ R R' k h=>ha.mono β _ _ (λds ks β1 q=>mF ds _ _ _ _ (λd q=>k _ _ _ q) (λ_ z=>z) q) h,(jQ G hr hg hm hk hb .nil Z.pass ha.pa (hdb:=hdb) (he:=gF) (hpl:=hpl)).pre λσ H Q ⟨β,own,s,h⟩=>qV.of ha s h λds ks β1 vs H1 ay q o1 r1=>by
  rw[aar];exact{ds,r1.bor,mF ds _ _ _ _ (λd q2 v H' s2 r2=>q2 v H' ay (o1.same s2) (r2.kv o1.sq.sD o1.sq.fS λa z=>o1.sn.d a z)) (λc t H' s2=>{c,rfl,t,o1.sq.kp.trans s2.kp}) q}⟩
end
section
variable {P:Y7}{w:Zj}{K:Frag}{mg:Str->Option Y1}{base:Heap}
def Cc {x qual:Str}{st:Stmt}{f:Addr}{fd:ZL}{N ps:List Str}{k:Nat}{F:LA}{ro:Bool}(G:AL K x qual st f fd)(S:aJ N ps (ao st))(len:∀ds R T,F ds R T->ds.length=ps.length)
  (iA:∀(bQ:Y1) (A:Z0) (outer:List Env) (s:Y4) (H:Hp) (E:XK),c_ k (A.deeper (ace qual (ao st) s.heap.objs.size f bQ)) ->
   ∃ψ,sR (ly (mE P w) P w K mg base N qual (ao st) f bQ A outer s H E) {H,λ_=>False,ro,λ_=>False} (d3 st) ψ/\∀ds R,F ds R (XR H E)->ψ {nx:=λ_=>R .cN,rt:=λd _=>R d} (startB N ds)) :
  aE P w K mg base (mE P w) (k+1) f fd ps (gu P w ro F):=by
 obtain⟨oc,od,kV,doc,pm,an,bQ,ct,Hl,rfl,lk,eU⟩:=G.ex;refine HM lk eU S (λvs H Q E h=>?_) (λA outer s H vs Q E hr h=>?_)
 ·obtain⟨ds,r,h⟩:=h;rw[r.length];exact len ds _ _ h
 ·obtain⟨ds,r,h⟩:=h;obtain⟨ψ,hb,hF⟩:=iA bQ A outer s H E hr;refine{_,hb.ps,(H,Wn λ_=>[]),_,startB N ds,{λ_=>[],tq r,Sn.refl},hF ds _ h,λσ H' β sb q=>?_,λσ H' β d v sb rr q=>?_,λ_ _ _ _ z=>z.elim,λ_ _ _ _ z=>z.elim}
  ·obtain⟨own,s',n'⟩:=sb;exact q _ H' (λb o e=>s'.kp.out b o e (λz=>z)) (eR (W:=λ_=>False) rfl rfl)
  ·obtain⟨own,s',n'⟩:=sb;exact q _ H' (λb o e=>s'.kp.out b o e (λz=>z)) rr
def aE.toX {k:Nat}{f:Addr}{fd:ZL}{ps:List Str}{F:FD}{ro:Bool}(G:aE P w K mg base bI k f fd ps (cY P w ro F)):aE P w K mg base (mE P w) k f fd ps (gu P w ro λds R _=>F ds R) :=
 ⟨λvs H Q E h=>G.len vs H Q E0 h,λA outer s H args us vs Q E hr e0 hb r hs=>abN (G.run A outer s H args us vs Q E0 hr e0 hb r hs) λres s' q=>by
  cases res with
  |error e=>exact q.elim
  |ok fl=>cases fl <;> exact q⟩
end
abbrev _root_.L2.Cx.E_ (X:Cx)(pins:List (Addr×Obj))(Eh:Y1->Y4->Prop):Cx:={X with pn:=X.pn++pins,xe:=Eh}
section
variable {X:Cx}{pins ie:List (Addr×Obj)}{σ:St}{H:Hp}{s:Y4}{Eh:Y1->Y4->Prop}
def JI (ok:X.Ok):(X.E_ pins Eh).Ok:={(ok.mod),ok.kind,ok.glob,ok.blt,ok.above,ok.inj,ok.has,ok.Ib,ok.hd,ok.frames,ok.IP,ok.K4,ok.bs,ok.DK,ok.tY,ok.uP,ok.j8,ok.Gs}
def ya (I:Inv X (pins++ie) σ H s):Inv (X.E_ pins Eh) ie σ H s:={JI I.ok,I.os,I.bare,I.base,I.loc,I.cell,I.free,I.eG,λp hp=>I.pin p (by rw[<- Z8];exact hp),I.bB,I.len}
def BM (ok:(X.E_ pins Eh).Ok):X.Ok:={(ok.mod),ok.kind,ok.glob,ok.blt,ok.above,ok.inj,ok.has,ok.Ib,ok.hd,ok.frames,ok.IP,ok.K4,ok.bs,ok.DK,ok.tY,ok.uP,ok.j8,ok.Gs}
def E9 (I:Inv (X.E_ pins Eh) ie σ H s):Inv X (pins++ie) σ H s:={BM I.ok,I.os,I.bare,I.base,I.loc,I.cell,I.free,I.eG,λp hp=>I.pin p (by rw[<- Z8]at hp;exact hp),I.bB,I.len}
def ic (I:Inv (X.E_ pins Eh) ie σ H s):Inv X pins σ H s:={BM I.ok,I.os,I.bare,I.base,I.loc,I.cell,I.free,I.eG,λp hp=>I.pin p (aao _ hp),I.bB,I.len}
def Jt {es:List Expr}{t:TA}(h:PA X.tV es t):PA (X.E_ pins Eh) es t:=λpos ie s σ H Q I q =>
 abn (h pos (pins++ie) s σ H Q ((E9 I).jx _) q) (λ_ _ N3=> by obtain⟨vs,H',I',r,q⟩ := N3;exact{vs,H',ya I'.ee,r,q}) λ_ _ z=>z.elim
def IX {D:Ends}{f:Flow}{s':Y4}(h:SP (X.E_ pins Eh) [] D f s'):SP X pins D f s':=by
 cases f with
 |next=>obtain⟨σ',H',I,q⟩:=h;exact{σ',H',ic I,q}
 |brk=>obtain⟨σ',H',I,q⟩:=h;exact{σ',H',ic I,q}
 |cont=>obtain⟨σ',H',I,q⟩:=h;exact{σ',H',ic I,q}
 |ret u=>obtain⟨v,σ',H',I,r,q⟩:=h;exact{v,σ',H',ic I,r,q}
end
def BP {X:Cx}{CX:AB}{k:Nat}{f:Addr}{fd:ZL}{ps:List Str}{sp:Sp}{x:Str}{p pos:Pos}{e:Expr}{es:List Expr}{t:TA}(F:aE X.prog X.w X.K X.mg X.base CX k f fd ps sp)(hr:c_ k X.A)(hg:Gl X x)(hm:X.mg x=some (.ref f))
  (hk:PySem.W.keepIn X.K (.ref f)=true) (hb:Binds X.K fd ps []) (ha:PA X (e::es) t) (hdb:(x==("__debug__" : Str))=false:=by decide) (he:Y9 (e::es) X.env=(false,eval e X.env)::Y9 es X.env:=by rfl)
  (hpl:(aag pos (Y9 es X.env)).any (·.1)=false:=by rfl) :
  PE X (.Call (.Name x p) (e::es) [] pos) (λσ H Q=>t σ H λvs H1=>∃E:XK,sp vs H1 Q E/\∀pins s e s',Inv X pins σ H1 s->CX X.stack H1 s E e s'->X.xe e s'):=by
 intro pins s σ H Q I h;refine aa9 (j3 I hg hm ?_ hdb);refine PySem.W.callWith_K (h₀:=X.base) I.ok.mod.PJ hk (bR (ha pos pins s σ H _ I h) λus s1 ⟨vs,H1,I1,r,q⟩=>{I1.AH,?_}) he hpl;obtain⟨E,q,hx⟩:=q;have r2:Vals (vs++[]) (us++[]):=r.append .nil;have hl:(us++[]).length=ps.length:=by rw[<- r2.length,aar];exact F.len _ _ _ _ q
 refine wpAny_call (abN (F.run X.A X.stack s1 H1 {us,[]} (us++[]) (vs++[]) Q E hr I1.OR (hb s1 us I1.AH hl) r2 (by rw[aar];exact q)) λr s' hq=>?_)
 cases r with
 |error e=>exact hx pins s1 e s' I1 hq
 |ok fl =>
  cases fl with
  |ret u=>exact I1.after hq
  |next=>exact aaN hq
  |brk=>exact aaN hq
  |cont=>exact aaN hq
abbrev DY:=cb->(Addr->Prop)->bb->Prop
structure TB (X:Cx)(C:Cfg)(body:List Stmt)(θ:DY):Prop where
 mono:∀E E' T T' β,Le E E'->(∀c,T c->T' c)->θ E T β->θ E' T' β
 run:∀(pins:List (Addr×Obj)) (s:Y4) (σ:St) (H:Hp) (D:Ends) (Eh:Y1->Y4->Prop) (Z:Hp×(Addr->Prop)) (E:cb) (β:bb) (own:Nat->List Addr) (T:Addr->Prop),Inv X pins σ H s->SQ X C.z σ H β own->Sn Z H (Wn own)->Us X C Z E D->θ E T β ->
  (∀s1 H1 e s',Inv X pins σ H1 s1->aB H H1->mE X.prog X.w X.stack H1 s1 (λcv _ H'=>∃cl,cv=.ref cl/\aB H1 H'/\T cl) e s'->Eh e s')->Zy (model X.prog X.w) X.A (execs body X.env) (SP X pins D) Eh s
section
variable {X:Cx}{C:Cfg}{k:Nat}{f:Addr}{fd:ZL}{ps:List Str}{F:LA}{ro:Bool}{x:Str}{pp pos cp:Pos}{e c:Expr}{es:List Expr}{φs:bP}{a b:List Stmt}{θa θb:DY}{τ:a_}
def Be (hc:vw X.tV C.z true c τ)(ha:TB X C a θa)(hb:TB X C b θb):TB X C [.If c a b pos] (λE T β=>τ β λt β'=>if t=true then θa E T β' else θb E T β') where
 mono:=λE E' T T' β l m h=>hc.mono _ _ _ (λt β' q=>by
  cases t
  ·exact hb.mono E E' T T' β' l m q
  ·exact ha.mono E E' T T' β' l m q) h
 run:=λpins s σ H D Eh Z E β own T I sq n ok h hE=>by
  refine wpAny_execs_cons (bR (Q:=SP X pins D) (wpAny_If (bR (hc.pt.tV (X:=X.jx Eh) pins s σ H _ (I.jx Eh) (kA.of (X:=X.tV) hc sq h λt β' H1 ay q o1=>({(β'),ay,q,o1}:∃β' ay,(if t=true then θa E T β' else θb E T β')/\Out X C.z σ H own true β' H1 ay))) λd s1 ⟨H1,I1,β',ay,q1,o1⟩=>?_)) λfl s1 q=>?_)
  ·obtain⟨sm,rfl⟩:=o1.pu rfl;have Vy:∀s2 H2 e s',Inv X pins σ H2 s2->aB H1 H2->mE X.prog X.w X.stack H2 s2 (λcv _ H'=>∃cl,cv=.ref cl/\aB H2 H'/\T cl) e s'->Eh e s':=λs2 H2 e s' I2 Px q=>hE s2 H2 e s' I2 (sm.trans Px) q;cases d with
   |true=>exact ha.run pins s1 σ H1 D Eh Z E β' ay T I1.ee o1.sq (n.same sm) ok q1 Vy
   |false=>exact hb.run pins s1 σ H1 D Eh Z E β' ay T I1.ee o1.sq (n.same sm) ok q1 Vy
  ·cases fl with
   |next=>exact abF q
   |ret v=>exact q
   |brk=>exact q
   |cont=>exact q
def mf (mF:oH F)(G:aE X.prog X.w X.K X.mg X.base (mE X.prog X.w) k f fd ps (gu X.prog X.w ro F))(hr:c_ k X.A)(hm:X.mg x=some (.ref f))(hk:PySem.W.keepIn X.K (.ref f)=true)(hb:Binds X.K fd ps [])(ha:pq X.tV C.z true (e::es) φs)(hg:Gl X x:=by rfl)
  (hdb:(x==("__debug__" : Str))=false:=by decide) (gF:Y9 (e::es) X.env=(false,eval e X.env)::Y9 es X.env:=by rfl) (hpl:(aag cp (Y9 es X.env)).any (·.1)=false:=by rfl)
  (o8:aaw (.Call (.Name x pp) (e::es) [] cp) none pos.line X.env=pure false:=by rfl) :
  TB X C [.Expr (.Call (.Name x pp) (e::es) [] cp) pos] (λE T β=>φs β λds _ β1=>F ds (λ_=>E.nx β1) T) where
 mono:=λE E' T T' β l m h=>ha.mono _ _ _ (λds ks β1 q=>mF ds _ _ _ _ (λ_ q=>l.nx _ q) m q) h
 run:=λpins s σ H D Eh Z E β own T I sq n ok h hE=>by
  have P:=fA (fB (X:=X.E_ pins Eh) (pos:=pos) (BP (X:=X.E_ pins Eh) (p:=pp) (pos:=cp) G hr hg hm hk hb (Jt ha.pa) hdb gF hpl) o8);refine bR (P [] s σ H D (ya (by rw[aar];exact I)) ?_) λfl s' q=>IX q
  refine qV.of (X:=X.tV) ha sq h λds ks β1 vs H1 ay q o1 r1=>?_;obtain⟨sm,rfl⟩:=o1.pu rfl;refine{λcv _ H'=>∃cl,cv=.ref cl/\aB H1 H'/\T cl,{ds,r1.bor,mF ds _ _ _ _ (λd q2 v H' s2 r2=>?_) (λcl t H' s2=>{(cl),rfl,s2,t}) q},λie s1 e s' I1 q=>hE s1 H1 e s' (ic I1) sm q};exact ok.nx _ _ _ {ay,o1.sq.same s2,(n.same sm).same s2} q2
end
section
variable {P:Y7}{w:Zj}{C:Cfg}{σ:St}{H:Hp}{β:bb}{own:Nat->List Addr}
def bj.EH {i:Nat}(b:bj P w C σ H β own):bj P w C (σ.set i none) H (β.set i none) (aH own i []):=by
 have sub:∀y a,eD C (Wn (aH own i [])) (yk y) a->eD C (Wn own) (yk y) a:=λy=>fm (λa h=>gm h) _;refine{by simp[b.len],λj y' d' e=>?_,λj d' e=>?_,λj ok e=>?_,λj a h=>b.dm j a (br h).1,λj k a h1 h2=>b.jm j k a (br h1).1 (br h2).1,λj=>?_,b.kp,b.fS,λj y' d' e=>?_}
 ·by_cases aD:i=j
  ·subst aD;obtain⟨e',hl⟩:=aP e;cases e'
  ·rw[aO aD]at e ⊢
   obtain⟨u,h1,h2⟩:=b.val j y' d' e;exact{u,h1,h2.aY (sub _)}
 ·by_cases aD:i=j
  ·subst aD;obtain⟨e',hl⟩:=aP e;cases e'
  ·rw[aO aD]at e ⊢
   rw[a5 aD];exact b.ow j d' e
 ·by_cases aD:i=j
  ·subst aD;obtain⟨e',hl⟩:=aP e;cases e'
  ·rw[aO aD]at e ⊢
   rw[a5 aD];exact b.nN j ok e
 ·by_cases aD:i=j
  ·rw[aD,os_eq];exact Z5
  ·rw[a5 aD];exact b.jq j
 ·by_cases aD:i=j
  ·subst aD;obtain⟨e',hl⟩:=aP e;cases e'
  ·rw[aO aD]at e ⊢
   rw[a5 aD];obtain⟨u,h1,h2,h3⟩:=b.shl j y' d' e;exact{u,h1,h2.map (λ_ _ _ z=>z) (λ_ _ r=>ai.aY (sub _) r),h3}
end
section
variable {X:Cx}{C:Cfg}{body tm:List Stmt}{b₀:Stmt}{θ:DY}{ψ:yC}{j:Nat}{xA n:Str}{CA:Addr}{np Gg pos:Pos}
def EJ {P:Y7}{w:Zj}{σ:St}{H H':Hp}{β:bb}{own:Nat->List Addr}{e cl:Addr}(b:bj P w C.z σ H β own)(sm:aB H H')(nt:H' e=none):aC P w (eD C.z (Wn own) .dt) (upd H' e (lG cl e)) (.exc cl) (.ref e) :=
 ⟨e,rfl,{ak,λxs z=>(by cases z)},λz=>by
  have b':=b.same sm;rcases z with (z|z)|z
  ·exact b'.sD e z nt
  ·exact b'.fS e z nt
  ·exact z⟩
def Js (si:X.stack=X.env::X.outer)(hf:X.env.frame=some X.env.locals)(hb:TB X C body θ)(hs:∀e,sR (X.Ef e) C (b₀::tm) ψ)(hm:X.mg xA=some (.ref CA))(hN:X.N.Nodup)(hj:X.N[j]?=some n:=by rfl)(hl:X.env.scope.names.lookup n=some .local:=by rfl)(hg:Gl X xA:=by rfl)
  (hd:(xA==("__debug__" : Str))=false:=by decide) :
  PB X C (.Try body [.ExceptHandler (some (.Name xA np)) (some n) (b₀::tm) Gg] [] [] pos)
   (λE β=>∃T:Addr->Prop,θ E T β/\∀cl,T cl->exmOne X.K (.ref cl) (.ref CA)=some true/\ψ {nx:=λβ'=>E.nx (β'.set j none),rt:=λ_ _=>False} (β.set j (some (.val true (.exc cl))))) :=
 ⟨λE E' β l N2=> by obtain⟨T,h,k⟩ := N2;exact{T,hb.mono E E' T T β l (λ_ z=>z) h,λcl t=>{(k cl t).1,(hs 0).mono {nx:=λβ'=>E.nx (β'.set j none),rt:=λ_ _=>False} {nx:=λβ'=>E'.nx (β'.set j none),rt:=λ_ _=>False} _ {λβ' q=>l.nx _ q,λ_ _ z=>z,λ_ z=>z,λ_ z=>z} (k cl t).2}},λpins s σ H D I N1=> by
  obtain⟨Z,E,β,⟨own,sq,sn⟩,⟨T,h,k⟩,ok⟩ := N1;refine wpAny_Try_except (bR (hb.run pins s σ H D _ Z E β own T I sq sn ok h λs1 H1 e s' I1 sm cx=>?_) λfl s1 q=>?_)
  ·obtain⟨a,cl,H',rfl,TN,XQ,TY,Px,t⟩:=cx;cases TY;obtain⟨hx,hk⟩:=k cl t;refine Ll (X:=X) I1 si hf TN hm hg hx hN hj hl (λs2 I2=>?_) hd;have s3:aB H (upd H' a (lG cl a)):=(sm.trans Px).trans (aB.new TN.nt);have QL:SQ X C.z (σ.set j (some (.ref a))) (upd H' a (lG cl a)) (β.set j (some (.val true (.exc cl)))) (aH own j []):=(sq.same s3).eX (EJ sq (sm.trans Px) TN.nt);refine bR ((hs a).ps pins s2 _ _ {nx:=λσ' H'=>D.nx (σ'.set j none) H',rt:=λ_ _=>False} I2 {Z,_,_,{_,QL,kK (sn.same s3)},hk,{λσ' H' β' sb q=>?_,λ_ _ _ _ _ _ _ z=>z.elim,λ_ _ _ _ z=>z.elim,λ_ _ _ _ z=>z.elim}}) λfl s4 q=>?_
   ·obtain⟨a8,V4,V5⟩:=sb;exact ok.nx _ _ _ {_,V4.EH,kK V5} q
   ·cases fl with
    |next =>
     obtain⟨σ4,H4,I4,q4⟩:=q;exact Gq (X:=X) (I4.Mb I1.ok) hN hj hl λs5 I5=>{_,H4,I5,q4}
    |brk=>obtain⟨_,_,_,z⟩:=q;exact z.elim
    |cont=>obtain⟨_,_,_,z⟩:=q;exact z.elim
    |ret u=>obtain⟨_,_,_,_,_,z⟩:=q;exact z.elim
  ·cases fl with
   |next=>exact abF q
   |ret v=>exact q
   |brk=>exact q
   |cont=>exact q⟩
variable {e:Expr}{φ:aQ}{p:Bool}{T:Str}{pp pT:Pos}{cA:Addr}
structure Xk (K:Frag)(cl:Addr)(c:Y1)(b:Bool):Prop where
 xc:EX.XC K cl
 is:kitOne K (.ref cl) c=some b
def Je (K:Frag)(c:Y1)(φ:aQ):aQ:=λβ R=>φ β λd _ β1=>∃cl b,d=.exc cl/\Xk K cl c b/\R (.bl b) .own β1
inductive CV:V->Y1->Prop where
 |own (a:Addr):CV (.ref a) (.ref a)
 |ty (n:String):CV (.ty n) (.type n)
def CV.rel {v:V}{c u:Y1}(h:CV v c)(r:RelV v u):u=c:=by
 cases h with
 |own a=>exact r
 |ty n=>exact r
def DG {c:Y1} {vc:V} (hc:CV vc c):gW X (.builtin "isinstance") (λxs H Q=>∃a cl b,xs=[.ref a,vc]/\H a=some (lG cl a)/\Xk X.K cl c b/\Q (.bl b) H):=by
 intro pins s σ H xs us Q I r h;obtain⟨a,cl,b,rfl,ha,z,q⟩:=h;obtain⟨u1,u2,rfl,r1,r2⟩:∃u1 u2,us=[u1,u2]/\RelV (.ref a) u1/\RelV vc u2:=by
  cases r with
  |cons r1 r =>
   cases r with
   |cons r2 r=>cases r;exact{_,_,rfl,r1,r2}
 cases r1;obtain⟨ex,_,_⟩:=I.bB a _ ha;have e2:=hc.rel r2;subst e2;exact kia_one (EX.ui z.xc) I.AH ex z.is (λz=>by cases z) λtk=>{.bl b,H,I.tok _,rfl,q}
def Di {P:Y7}{w:Zj}{W:Addr->Prop}{H:Hp}{cl:Addr}{v:V}(h:aC P w W H (.exc cl) v):∃a,v=.ref a/\H a=some (lG cl a):=by
 obtain⟨a,rfl,⟨h1,_⟩,_⟩:=h;exact{(a),rfl,h1}
def BL {c:Y1} {vc:V} {ce:Expr} (hm:X.mg "isinstance" = none) (he:PQ X C p e φ) (hc:CV vc c) (Xj:PE X ce (tC vc)) (hg:Gl X "isinstance" := by rfl)
  (gF:Y9 [e,ce] X.env=(false,eval e X.env)::Y9 [ce] X.env:=by rfl) (wG:Y9 [ce] X.env=(false,eval ce X.env)::Y9 [] X.env:=by rfl) (hpl:(aag pos (Y9 [ce] X.env)).any (·.1)=false:=by rfl) :
  PQ X C p (.Call (.Name "isinstance" pp) [e,ce] [] pos) (Je X.K c φ) :=
 ⟨λβ R R' k h=>he.mono β _ _ (λd kd β1 NZ=> by obtain⟨cl,b,ed,z,q⟩ := NZ;exact{cl,b,ed,z,k _ _ _ q}) h,
  (ij (DG hc) hg hm DJ (aZ he.pe (aZ Xj cq wG) gF) (by decide) (by decide) (he:=gF) (hpl:=hpl)).pre λσ H Q ⟨β,own,s,h⟩=>tQ.of he s h λd kd β1 v H1 ay hq o1 r1=>by
  obtain⟨cl,b,ed,z,q⟩:=hq;subst ed;obtain⟨a,rfl,ha⟩:=Di r1.rep;exact{a,cl,b,rfl,ha,z,q _ H1 ay o1 Hz}⟩
def rF (hm:X.mg "isinstance" = none) (he:PQ X C p e φ) (hT:X.mg T=some (.ref cA)) (hg:Gl X "isinstance" := by rfl) (OA:Gl X T:=by rfl) (OJ:(T==("__debug__" : Str))=false:=by decide)
  (gF:Y9 [e,.Name T pT] X.env=(false,eval e X.env)::Y9 [.Name T pT] X.env:=by rfl) (wG:Y9 [.Name T pT] X.env=(false,eval (.Name T pT) X.env)::Y9 [] X.env:=by rfl) (hpl:(aag pos (Y9 [.Name T pT] X.env)).any (·.1)=false:=by rfl) :
  PQ X C p (.Call (.Name "isinstance" pp) [e,.Name T pT] [] pos) (Je X.K (.ref cA) φ):=BL hm he (.own cA) (xJ OA hT rfl OJ) hg gF wG hpl
def Jl {n:String} (hm:X.mg "isinstance" = none) (he:PQ X C p e φ) (hT:X.mg T=none) (bT:Z9 T=some (.type n)) (hg:Gl X "isinstance" := by rfl) (OA:Gl X T:=by rfl) (W5:T≠"__name__" := by decide) (OJ:(T==("__debug__" : Str))=false:=by decide)
  (gF:Y9 [e,.Name T pT] X.env=(false,eval e X.env)::Y9 [.Name T pT] X.env:=by rfl) (wG:Y9 [.Name T pT] X.env=(false,eval (.Name T pT) X.env)::Y9 [] X.env:=by rfl) (hpl:(aag pos (Y9 [.Name T pT] X.env)).any (·.1)=false:=by rfl) :
  PQ X C p (.Call (.Name "isinstance" pp) [e,.Name T pT] [] pos) (Je X.K (.type n) φ):=BL hm he (.ty n) (Ff OA hT bT rfl W5 OJ) hg gF wG hpl
structure Qj (X:Cx)(es:List Expr)(vs:List V)(cs:List Y1):Prop where
 pa:PA X es λ_ H Q=>Q vs H
 rel:Paired CV vs cs
def Fo:Qj X [] [] []:={cq.pre λσ H Q h=>h,.nil}
def fE {es:List Expr}{vs:List V}{cs:List Y1}(h:Qj X es vs cs)(hT:X.mg T=some (.ref cA))(OA:Gl X T:=by rfl)(OJ:(T==("__debug__" : Str))=false:=by decide)(gF:Y9 (.Name T pT::es) X.env=(false,eval (.Name T pT) X.env)::Y9 es X.env:=by rfl):
  Qj X (.Name T pT::es) (.ref cA::vs) (.ref cA::cs):={(aZ (xJ (v:=.ref cA) (pos:=pT) OA hT rfl OJ) h.pa gF).pre λσ H Q h=>h,.cons (.own cA) h.rel}
theorem yt:∀{vs:List V} {cs us:List Y1},Paired CV vs cs->Vals vs us->us=cs
 |_,_,_,.nil,.nil=>rfl
 |_,_,_,.cons h t,.cons r t'=>by rw[h.rel r,yt t t']
structure Uc (K:Frag)(cl:Addr)(cs:List Y1)(b:Bool):Prop where
 xc:EX.XC K cl
 is:kitAny K (.ref cl) cs=some b
def Ai {cs:List Y1} {vs:List V} (hc:Paired CV vs cs):gW X (.builtin "isinstance") (λxs H Q=>∃a t cl b,xs=[.ref a,.ref t]/\H a=some (lG cl a)/\H t=some (.tup vs)/\Uc X.K cl cs b/\Q (.bl b) H):=by
 intro pins s σ H xs us Q I r h;obtain⟨a,t,cl,b,rfl,ha,ht,z,q⟩:=h;obtain⟨u1,u2,rfl,r1,r2⟩:∃u1 u2,us=[u1,u2]/\RelV (.ref a) u1/\RelV (.ref t) u2:=by
  cases r with
  |cons r1 r =>
   cases r with
   |cons r2 r=>cases r;exact{_,_,rfl,r1,r2}
 cases r1;cases r2;obtain⟨ex,_,_⟩:=I.bB a _ ha;obtain⟨_,its,rv,⟨⟨oc,dd,od,sl⟩,ho,LU,n,hd⟩⟩:=I.bB t _ ht;have e2:=yt hc rv;subst e2;dsimp only at LU hd;subst LU hd;exact kia_tup (EX.ui z.xc) I.AH ex ho z.is (λz=>by cases z) λtk=>{.bl b,H,I.tok _,rfl,q}
def MM (K:Frag)(cs:List Y1)(φ:aQ):aQ:=λβ R=>φ β λd _ β1=>∃cl b,d=.exc cl/\Uc K cl cs b/\R (.bl b) .own β1
def EZ {es:List Expr} {vs:List V} {cs:List Y1} {tk} (hm:X.mg "isinstance" = none) (he:PQ X C p e φ) (hc:Qj X es vs cs) (hz:vs.length<=Zd) (hg:Gl X "isinstance" := by rfl)
  (gF:Y9 [e,.Tuple es tk pT] X.env=(false,eval e X.env)::Y9 [.Tuple es tk pT] X.env:=by rfl) (wG:Y9 [.Tuple es tk pT] X.env=(false,eval (.Tuple es tk pT) X.env)::Y9 [] X.env:=by rfl) (hpl:(aag pos (Y9 [.Tuple es tk pT] X.env)).any (·.1)=false:=by rfl) :
  PQ X C p (.Call (.Name "isinstance" pp) [e,.Tuple es tk pT] [] pos) (MM X.K cs φ) :=
 ⟨λβ R R' k h=>he.mono β _ _ (λd kd β1 NY=> by obtain⟨cl,b,ed,z,q⟩ := NY;exact{cl,b,ed,z,k _ _ _ q}) h,
  (ij (Ai hc.rel) hg hm DJ (aZ he.pe (aZ (v8 hc.pa) cq wG) gF) (by decide) (by decide) (he:=gF) (hpl:=hpl)).pre λσ H Q ⟨β,own,s,h⟩=>tQ.of he s h λd kd β1 v H1 ay hq o1 r1=>by
  obtain⟨cl,b,ed,z,q⟩:=hq;subst ed;obtain⟨a,rfl,ha⟩:=Di r1.rep;refine{hz,λt ht=>{a,t,cl,b,rfl,?_,ak,z,q _ _ ay (o1.same (aB.new ht)) Hz}};rw[au (λz=>by rw[z,ht]at ha;cases ha)]
  exact ha⟩
end
def Qs:List Str:=["NoRow","NoTie","NoStretch","NoWeights","NoNumber","NoSet","NoGap","NoPlace","NoShape","NoText","NoForm","NoneYet"]
structure XA (K:Frag)(mg:Str->Option Y1)(cA:Addr)(c:Nat->Addr):Prop where
 Ua:mg "ArchError" = some (.ref cA)
 nm:∀i x,Qs[i]?=some x->mg x=some (.ref (c i))
 exc:∀i,i<12->excIn K (c i) Qe "ValueError.__new__" = true
 xc:∀i,i<12->EX.XC K (c i)
 is:∀i,i<12->∀j,j<12->kitOne K (.ref (c i)) (.ref (c j))=some (decide (i=j))
 val:∀i,i<12->kitOne K (.ref (c i)) (.type "ValueError")=some true
 XE:∀i,i<12->exmOne K (.ref (c i)) (.ref cA)=some true
def Qt (K:Frag)(cA:Addr)(c:Nat->Addr):Bool:=(Zv 12).all λi=>excIn K (c i) Qe "ValueError.__new__" && (mroIn K (c i) (.type "object")==some true&&(mroIn K (c i) (.type "BaseException")==some true &&
 (findIn K (.ref (c i)) "__getattribute__" == some (some (.builtin "BaseException.__getattribute__"))&&(findIn K (.ref (c i)) "__getattr__" == some none&&(findIn K (.ref (c i)) "__class__" == some (some (.builtin "object.__class__")) &&
 (kitOne K (.ref (c i)) (.type "ValueError")==some true&&(exmOne K (.ref (c i)) (.ref cA)==some true&&(Zv 12).all λj=>kitOne K (.ref (c i)) (.ref (c j))==some (decide (i=j)))))))))
def L_ {K:Frag} {mg:Str->Option Y1} {cA:Addr} {c:Nat->Addr} (h:Qt K cA c=true) (a:mg "ArchError" = some (.ref cA)) (n:∀i x,Qs[i]?=some x->mg x=some (.ref (c i))):XA K mg cA c:=by
 have q:∀i,i<12->_:=λi hi=>aaF.mp h i (aae.mpr hi);simp only[ZW,beq_iff_eq,aaF,aae]at q;exact{a,n,λi hi=>(q i hi).1,λi hi=>{(q i hi).2.1,(q i hi).2.2.1,(q i hi).2.2.2.1,(q i hi).2.2.2.2.1,(q i hi).2.2.2.2.2.1},λi hi j hj=>(q i hi).2.2.2.2.2.2.2.2 j hj,λi hi=>(q i hi).2.2.2.2.2.2.1,λi hi=>(q i hi).2.2.2.2.2.2.2.1}
section
variable {K:Frag}{mg:Str->Option Y1}{cA:Addr}{c:Nat->Addr}
def XA.x (Z:XA K mg cA c)(i:Nat){x:Str}(h:Qs[i]?=some x:=by rfl)(hi:i<12:=by decide):Xc K mg x (c i):={Z.nm i x h,Z.exc i hi}
def XA.k (Z:XA K mg cA c){i j:Nat}(hi:i<12)(hj:j<12):Xk K (c i) (.ref (c j)) (decide (i=j)):={Z.xc i hi,Z.is i hi j hj}
def XA.kv (Z:XA K mg cA c) {i:Nat} (hi:i<12):Xk K (c i) (.type "ValueError") true:={Z.xc i hi,Z.val i hi}
theorem XA.any (Z:XA K mg cA c){i:Nat}(hi:i<12):∀(js:List Nat),(∀j∈js,j<12)->kitAny K (.ref (c i)) (js.map λj=>.ref (c j))=some (js.any λj=>decide (i=j))
 |[],_=>rfl
 |j::js,h=>by
  show (match kitOne K (.ref (c i)) (.ref (c j))with|some true=>some true|some false=>kitAny K (.ref (c i)) (js.map λj=>.ref (c j))|none=>none)=_
  rw[Z.is i hi j (h j ZK),List.any_cons]
  by_cases e:i=j
  ·rw[decide_eq_true e];rfl
  ·rw[decide_eq_false e];exact XA.any Z hi js λj hj=>h j (Zu _ hj)
def XA.ks (Z:XA K mg cA c){i:Nat}(hi:i<12)(js:List Nat)(h:∀j∈js,j<12:=by decide):Uc K (c i) (js.map λj=>.ref (c j)) (js.any λj=>decide (i=j)):={Z.xc i hi,Z.any hi js h}
end
def Ln:Z9 "ValueError" = some (.type "ValueError"):=by decide +kernel
section
variable {P:Y7}{w:Zj}{K:PySem.W.Frag}{mg:Str->Option Y1}{base:Heap}{k:Nat}{f:Addr}{fd:ZL}{ps:List Str}{ro:Bool}
def aE.yw {F:FD}{F2:List D->(Addr->Prop)->Prop}(G1:aE P w K mg base bI k f fd ps (cY P w ro F))(G2:aE P w K mg base (mE P w) k f fd ps (gu P w ro λds _ T=>F2 ds T)):aE P w K mg base (mE P w) k f fd ps (gu P w ro λds R T=>F ds R\/F2 ds T):=by
 have G1:=aE.toX G1;refine{λvs H Q E h=>?_,λA outer s H args us vs Q E hr e0 hb r h=>?_}
 ·obtain⟨ds,r,h|h⟩:=h
  ·exact G1.len vs H Q E {(ds),r,h}
  ·exact G2.len vs H Q E {(ds),r,h}
 ·obtain⟨ds,rr,h|h⟩:=h
  ·exact G1.run A outer s H args us vs Q E hr e0 hb r {(ds),rr,h}
  ·exact G2.run A outer s H args us vs Q E hr e0 hb r {(ds),rr,h}
end
variable {c:Nat->Addr}
def iH (c:Nat->Addr):LA:=λds R T=>∃(n:Nat) (ps:List NN) (ws:List Int),ds=[fN n ps,b8 ws]/\((ws.length=ps.length/\R .cN)\/(ws.length≠ps.length/\T (c 3)))
def iH.mono:oH (iH c):=λds R R' T T' k l h=>by obtain⟨n,ps,ws,e,h⟩:=h;exact{n,ps,ws,e,h.imp (λz=>{z.1,k _ z.2}) λz=>{z.1,l _ z.2}}
def u4 (c:Nat->Addr)(ds:List D)(T:Addr->Prop):Prop:=∃(n:Nat) (ps:List NN) (ws:List Int),ds=[fN n ps,b8 ws]/\ws.length≠ps.length/\T (c 3)
def DT (c:Nat->Addr)(ds:List D)(T:Addr->Prop):Prop:=∃(n:Nat) (ps:List NN) (ws:List Int) (x:D),ds=[fN n ps,b8 ws,x]/\ws.length≠ps.length/\T (c 3)
def DS (c:Nat->Addr)(ds:List D)(T:Addr->Prop):Prop:=∃(n:Nat) (ps:List NN) (ws:List Int) (m:Int),ds=[fN n ps,b8 ws,.int m]/\((ws.length≠ps.length/\T (c 3))\/(ws.length=ps.length/\m<0/\T (c 4)))
def u4.mono:oH λds R T=>wO ds R\/u4 c ds T:=λds R R' T T' k l h=>h.imp (wO.mono ds _ _ k) λh=>by obtain⟨n,ps,ws,e,h1,h⟩:=h;exact{n,ps,ws,e,h1,l _ h}
def T9.mono:oH λds R T=>wQ ds R\/u4 c ds T:=λds R R' T T' k l h=>h.imp (wQ.mono ds _ _ k) λh=>by obtain⟨n,ps,ws,e,h1,h⟩:=h;exact{n,ps,ws,e,h1,l _ h}
def DT.mono:oH λds R T=>wN ds R\/DT c ds T:=λds R R' T T' k l h=>h.imp (wN.mono ds _ _ k) λh=>by obtain⟨n,ps,ws,x,e,h1,h⟩:=h;exact{n,ps,ws,x,e,h1,l _ h}
def DS.mono:oH λds R T=>lq ds R\/DS c ds T:=λds R R' T T' k l h=>h.imp (lq.mono ds _ _ k) λh=>by obtain⟨n,ps,ws,m,e,h⟩:=h;exact{n,ps,ws,m,e,h.imp (λz=>{z.1,l _ z.2}) λz=>{z.1,z.2.1,l _ z.2.2}}
end L2.Q
namespace hJ
open PySem L2 L2.Q
section
variable {P:Y7}{w:Zj}{K:PySem.W.Frag}{mg:Str->Option Y1}{base:Heap}{cA:Addr}{c:Nat->Addr}
def mw {dk bL} (dD:yG K mg dk bL) (B:Bs3 mg) (ZA:XA K mg cA c):aE P w K mg base (mE P w) 1 dk bL ["row","weights"] (gu P w true (iH c)):=by
 refine Cc dD.F fV (λds R T NX=> by obtain⟨n,ps,ws,e,_⟩ := NX;subst e;rfl) λbQ A outer s H E hr=>?_
 have Z:=hX (P:=P) (w:=w) (K:=K) (mg:=mg) (base:=base) (N:=["row","weights"]) (qual:="check_weights") (scope:=ao b5) (f:=dk) (cd:=bQ) (A:=A) (outer:=outer) (s:=s) (H:=H) (E:=E);refine{_,(ar (b7 (aL ag (bA.m (m_ hr.units)) (a7 ag (bF.m bJ) B.len dO (aa (ae (i:=1)) af)) (a7 ag (bF.m bJ) B.len dO (aa (aT ag bx (ae (i:=0)) ah) af))) (ar (tP Z rfl (XA.x ZA 3))) bc)),λds R h=>?_};obtain⟨n,ps,ws,rfl,h⟩:=h;have P0:kn [b8 ws]=some (.int (ws.length:Int)):=cz (by rw[Y3])
 have P1:kn [l0 ps]=some (.int (ps.length:Int)):=cz (by rw[Y3])
 refine{_,rfl,tv,_,P0,tv,_,rfl,tv,_,rfl,.inr {tv,_,P1,_,gH _ _,_,rfl,?_}};rcases h with⟨h1,q⟩|⟨h1,q⟩
 ·exact fR (by simp[h1]) q
 ·exact wC (by simp;lia) q
def JM {l7 iD} (Ab:Po K mg l7 iD) {dk bL} (dD:yG K mg dk bL) {dF bN} (gG:yF K mg dF bN) {l_ gT} (vp:D6 K mg l_ gT) {cI bq} (eO:D3 K mg cI bq) {cT bu} (fQ:D2 K mg cT bu) {gk di} (lX:D5 K mg gk di) {d_ bU} (i7:D4 K mg d_ bU) {md gU} (yr:D9 K mg md gU) {ki fJ} (vq:D8 K mg ki fJ) {kg fG} (vm:D7 K mg kg fG) (B:Em mg) (ZA:XA K mg cA c):aE P w K mg base (mE P w) 4 l7 iD ["row","weights"] (gu P w true λds R T=>wO ds R\/u4 c ds T):=by
 have xh:aE P w K mg base (mE P w) 1 _ _ _ (gu P w true (iH c)):=mw dD B.toBs3 ZA;refine aE.yw (JK Ab dD gG vp eO fQ lX i7 yr vq vm B.toBs3) ?_;refine Cc Ab.F cg (λds R T h=>by obtain⟨n,ps,ws,e,_⟩:=h;subst e;rfl) λbQ A outer s H E hr=>?_
 have Z:=hX (P:=P) (w:=w) (K:=K) (mg:=mg) (base:=base) (N:=["row","weights","many","ties","worth","found","by_tie"]) (qual:="heaviest") (scope:=ao e9) (f:=l7) (cd:=bQ) (A:=A) (outer:=outer) (s:=s) (H:=H) (E:=E);refine{_,(aj (fD (jO Z iH.mono xh (hr.mono (by decide)) dD.m dD.F.kp dD.b (aa (ae (i:=0)) (aa (ae (i:=1)) af)))) eQ),λds R h=>?_}
 obtain⟨n,ps,ws,rfl,h1,q⟩:=h;exact{_,rfl,tv,_,rfl,tv,n,ps,ws,rfl,.inr {(h1),q}}
def JQ {l9 iE} (Ad:Pn K mg l9 iE) {dk bL} (dD:yG K mg dk bL) {gZ dG} (my:G5 K mg gZ dG) {gj dh} (oh:Ek K mg gj dh) {gi dg} (og:El K mg gi dg) {dF bN} (gG:yF K mg dF bN) {cI bq} (eO:D3 K mg cI bq) {cT bu} (fQ:D2 K mg cT bu) (B:Em mg) (ZA:XA K mg cA c):aE P w K mg base (mE P w) 18 l9 iE ["row","weights"] (gu P w true λds R T=>wQ ds R\/u4 c ds T):=by
 have xh:aE P w K mg base (mE P w) 1 _ _ _ (gu P w true (iH c)):=mw dD B.toBs3 ZA;refine aE.yw (JP Ad dD my oh og gG eO fQ B.toBs3) ?_;refine Cc Ad.F eE (λds R T h=>by obtain⟨n,ps,ws,e,_⟩:=h;subst e;rfl) λbQ A outer s H E hr=>?_
 have Z:=hX (P:=P) (w:=w) (K:=K) (mg:=mg) (base:=base) (N:=["row","weights"]) (qual:="greatest_weights") (scope:=ao bE) (f:=l9) (cd:=bQ) (A:=A) (outer:=outer) (s:=s) (H:=H) (E:=E);refine{_,(aj (fD (jO Z iH.mono xh (hr.mono (by decide)) dD.m dD.F.kp dD.b (aa (ae (i:=0)) (aa (ae (i:=1)) af)))) eQ),λds R h=>?_}
 obtain⟨n,ps,ws,rfl,h1,q⟩:=h;exact{_,rfl,tv,_,rfl,tv,n,ps,ws,rfl,.inr {(h1),q}}
def JF {l6 iC} (z_:Pm K mg l6 iC) {dk bL} (dD:yG K mg dk bL) {dF bN} (gG:yF K mg dF bN) {l8 gS} (yp:L7 K mg l8 gS) {kh fH} (vo:LB K mg kh fH) {cI bq} (eO:D3 K mg cI bq) {cT bu} (fQ:D2 K mg cT bu) {gk di} (lX:D5 K mg gk di) {d_ bU} (i7:D4 K mg d_ bU) (B:Em mg) (ZA:XA K mg cA c):aE P w K mg base (mE P w) 4 l6 iC ["row","weights","paper"] (gu P w true λds R T=>wN ds R\/DT c ds T):=by
 have xh:aE P w K mg base (mE P w) 1 _ _ _ (gu P w true (iH c)):=mw dD B.toBs3 ZA;refine aE.yw (JE z_ dD gG yp vo eO fQ lX i7 B) ?_;refine Cc z_.F gQ (λds R T h=>by obtain⟨n,ps,ws,x,e,_⟩:=h;subst e;rfl) λbQ A outer s H E hr=>?_
 have Z:=hX (P:=P) (w:=w) (K:=K) (mg:=mg) (base:=base) (N:=["row","weights","paper"]) (qual:="weights_show") (scope:=ao cj) (f:=l6) (cd:=bQ) (A:=A) (outer:=outer) (s:=s) (H:=H) (E:=E);refine{_,(aj (fD (jO Z iH.mono xh (hr.mono (by decide)) dD.m dD.F.kp dD.b (aa (ae (i:=0)) (aa (ae (i:=1)) af)))) eQ),λds R h=>?_}
 obtain⟨n,ps,ws,x,rfl,h1,q⟩:=h;exact{_,rfl,tv,_,rfl,tv,n,ps,ws,rfl,.inr {(h1),q}}
def JO {jk fI} (wX:L8 K mg jk fI) {dk bL} (dD:yG K mg dk bL) {gZ dG} (my:G5 K mg gZ dG) {gj dh} (oh:Ek K mg gj dh) {gi dg} (og:El K mg gi dg) {dF bN} (gG:yF K mg dF bN) {cI bq} (eO:D3 K mg cI bq) {cT bu} (fQ:D2 K mg cT bu) (B:Em mg) (ZA:XA K mg cA c):aE P w K mg base (mE P w) 18 jk fI ["row","weights","many"] (gu P w true λds R T=>lq ds R\/DS c ds T):=by
 have xh:aE P w K mg base (mE P w) 1 _ _ _ (gu P w true (iH c)):=mw dD B.toBs3 ZA;refine aE.yw (JN wX dD my oh og gG eO fQ B.toBs3) ?_;refine Cc wX.F cf (λds R T h=>by obtain⟨n,ps,ws,m,e,_⟩:=h;subst e;rfl) λbQ A outer s H E hr=>?_
 have Z:=hX (P:=P) (w:=w) (K:=K) (mg:=mg) (base:=base) (N:=["row","weights","many","best","turned","found"]) (qual:="heaviest_of") (scope:=ao cO) (f:=jk) (cd:=bQ) (A:=A) (outer:=outer) (s:=s) (H:=H) (E:=E);refine{_,(aj (fD (jO Z iH.mono xh (hr.mono (by decide)) dD.m dD.F.kp dD.b (aa (ae (i:=0)) (aa (ae (i:=1)) af)))) (aj (b7 (aL ag (bA.m fb) (ae (i:=2)) ah) (ar (tP Z rfl (XA.x ZA 4))) bc) eQ)),λds R h=>?_}
 obtain⟨n,ps,ws,m,rfl,h⟩:=h;rcases h with⟨h1,q⟩|⟨h1,h2,q⟩
 ·exact{_,rfl,tv,_,rfl,tv,n,ps,ws,rfl,.inr {(h1),q}}
 ·refine{_,rfl,tv,_,rfl,tv,n,ps,ws,rfl,.inl {h1,?_}};exact{_,rfl,tv,_,rfl,_,rfl,wC (by simpa using h2) q}
end
end hJ
namespace L2.Q
open PySem PySem.Spec PySem.SeqAt PyProof.Rows
def pf (a:Int)(ps:List NN)(ws:List Int)(x:D):Str:=if ws.length=ps.length then (match x with | .int m=>if a=1/\m<0 then "number" else "" |_=>"") else "weights"
def DV (a:Int)(n:Nat)(x:D):Prop:=a=0\/(a=1/\∃m,x=.int m)\/a=2\/(a=3/\∃pp,x=tN pp/\xg pp)
def uI:FD:=λds R=>∃(a:Int) (n:Nat) (ps:List NN) (ws:List Int) (x:D),ds=[.int a,fN n ps,b8 ws,x]/\vx n ps/\n<=40/\(∀v∈ws,v.natAbs<2 ^ 199)/\DV a n x/\R (.str (pf a ps ws x))
def uI.mono:dq uI:=λds R R' k h=>by obtain⟨a,n,ps,ws,x,e,h1,h2,h3,h4,q⟩:=h;exact{a,n,ps,ws,x,e,h1,h2,h3,h4,k _ q}
def Dh:FD:=λds R=>∃(a:Int) (n:Nat) (ps:List NN) (ws:List Int) (x:D),ds=[.int a,fN n ps,b8 ws,x]/\DV a n x/\R (.str (pf a ps ws x))
def Dh.mono:dq Dh:=λds R R' k h=>by obtain⟨a,n,ps,ws,x,e,h1,q⟩:=h;exact{a,n,ps,ws,x,e,h1,k _ q}
end L2.Q
namespace hJ
open PySem L2 L2.Q
section
variable {P:Y7}{w:Zj}{K:PySem.W.Frag}{mg:Str->Option Y1}{base:Heap}{cA:Addr}{c:Nat->Addr}
def fu:aJ ["caught","kinds","odd"] ["caught"] (ao gw):=mkS
def knd:List (Nat×Str):=[(3,"weights"),(4,"number"),(5,"set"),(1,"tie")]
def uJ (c:Nat->Addr):FD:=λds R=>∃i s,(i,s)∈knd/\ds=[.exc (c i)]/\R (.str s)
def uJ.mono:dq (uJ c):=λds R R' k ⟨i,s,hi,e,q⟩=>{i,s,hi,e,k _ q}
def FA {uG lV} (Eg:Qo K mg uG lV) (B:Bs3 mg) (bV:mg "ValueError" = none) (ZA:XA K mg cA c):aE P w K mg base bI 1 uG lV ["caught"] (cY P w true (uJ c)):=by
 refine ng Eg.F fu (λds R h=>by obtain⟨_,_,_,e,_⟩:=h;subst e;rfl) λbQ A outer s H E hr=>⟨_,(aj (aU (i:=1) (aS (aa (rF B.LO (ae (i:=0)) (XA.x ZA 3).m) (aa (rF B.LO (ae (i:=0)) (XA.x ZA 4).m) (aa (rF B.LO (ae (i:=0)) (XA.x ZA 5).m) af)))) fu.nd)
    (aj (aU (i:=1) (az aI aA (ae (i:=1)) (aS (aa (rF B.LO (ae (i:=0)) (XA.x ZA 1).m) af))) fu.nd)
    (aj (aU (i:=2) (EZ B.LO (ae (i:=0)) (fE (fE (fE (fE (fE (fE (fE (fE Fo (XA.x ZA 11).m) (XA.x ZA 9).m) (XA.x ZA 2).m) (XA.x ZA 8).m) (XA.x ZA 0).m) (XA.x ZA 7).m) (XA.x ZA 6).m) (XA.x ZA 10).m) (by show 8<=Zd;decide)) fu.nd)
    (dZ (b7 (vt.t (rD (jN (ae (i:=2))) (rD (rE (jN (Jl B.LO (ae (i:=0)) bV Ln))) (rC (aL ag (bA.m (m_ hr.units)) (zc (ae (i:=1)) m7) ah))))) (ar (bh gz)) bc)
    (ar (bh (aT ag bx (aS (aa gz (aa gz (aa gz (aa gz af))))) (zb (ae (i:=1)) m7)))))))),λds R h=>?_⟩
 obtain⟨i,st,hi,rfl,q⟩:=h;have fe:i<12:=by
  rcases Y6.mp hi with z|hi
  ·cases z;decide
  rcases Y6.mp hi with z|hi
  ·cases z;decide
  rcases Y6.mp hi with z|hi
  ·cases z;decide
  cases Zc.mp hi;decide
 refine{_,rfl,c i,_,rfl,ZA.k fe (j:=3) (by decide),tv,_,rfl,c i,_,rfl,ZA.k fe (j:=4) (by decide),tv,_,rfl,c i,_,rfl,ZA.k fe (j:=5) (by decide),tv,bG (by show 3<=1000;decide),?_}
 refine{_,rfl,tv,_,rfl,c i,_,rfl,ZA.k fe (j:=1) (by decide),tv,vH,_,fk (by show 3+1<=_;decide),.inl {rfl,?_}}
 refine{_,rfl,c i,_,rfl,ZA.ks fe [10,6,7,0,8,2,9,11],?_};rcases Y6.mp hi with z|hi
 ·cases z;refine{λβ=>β=[some (.val false (.exc (c 3))),some (.val true (.lst [.bl true,.bl false,.bl false,.bl false])),some (.val true (.bl false))],{_,rfl,_,rfl,fR rfl {_,rfl,c 3,true,rfl,ZA.kv fe,_,rfl,fR rfl {_,rfl,{_,rfl},tv,_,rfl,tv,_,gH _ _,_,rfl,fR rfl rfl}}},?_};rintro β rfl;exact{tv,tv,tv,tv,bG (by show 4<=1000;decide),tv,_,rfl,{_,rfl},tv,_,rfl,_,rfl,tv,q}
 rcases Y6.mp hi with z|hi
 ·cases z;refine{λβ=>β=[some (.val false (.exc (c 4))),some (.val true (.lst [.bl false,.bl true,.bl false,.bl false])),some (.val true (.bl false))],{_,rfl,_,rfl,fR rfl {_,rfl,c 4,true,rfl,ZA.kv fe,_,rfl,fR rfl {_,rfl,{_,rfl},tv,_,rfl,tv,_,gH _ _,_,rfl,fR rfl rfl}}},?_};rintro β rfl;exact{tv,tv,tv,tv,bG (by show 4<=1000;decide),tv,_,rfl,{_,rfl},tv,_,rfl,_,rfl,tv,q}
 rcases Y6.mp hi with z|hi
 ·cases z;refine{λβ=>β=[some (.val false (.exc (c 5))),some (.val true (.lst [.bl false,.bl false,.bl true,.bl false])),some (.val true (.bl false))],{_,rfl,_,rfl,fR rfl {_,rfl,c 5,true,rfl,ZA.kv fe,_,rfl,fR rfl {_,rfl,{_,rfl},tv,_,rfl,tv,_,gH _ _,_,rfl,fR rfl rfl}}},?_};rintro β rfl;exact{tv,tv,tv,tv,bG (by show 4<=1000;decide),tv,_,rfl,{_,rfl},tv,_,rfl,_,rfl,tv,q}
 cases Zc.mp hi;refine{λβ=>β=[some (.val false (.exc (c 1))),some (.val true (.lst [.bl false,.bl false,.bl false,.bl true])),some (.val true (.bl false))],{_,rfl,_,rfl,fR rfl {_,rfl,c 1,true,rfl,ZA.kv fe,_,rfl,fR rfl {_,rfl,{_,rfl},tv,_,rfl,tv,_,gH _ _,_,rfl,fR rfl rfl}}},?_};rintro β rfl;exact{tv,tv,tv,tv,bG (by show 4<=1000;decide),tv,_,rfl,{_,rfl},tv,_,rfl,_,rfl,tv,q}
def Kc {i:Nat}{s:Str}(hi:(i,s)∈knd):i<12:=by
 rcases Y6.mp hi with z|hi
 ·cases z;decide
 rcases Y6.mp hi with z|hi
 ·cases z;decide
 rcases Y6.mp hi with z|hi
 ·cases z;decide
 cases Zc.mp hi;decide
def F1:((3,"weights"):Nat×Str)∈knd:=ZK
def Rt:((4,"number"):Nat×Str)∈knd:=Zu _ ZK
def fq:aJ ["asked","row","weights","more","caught","e"] ["asked","row","weights","more"] (ao gv):=mkS
def Fz {zU qz} (HS:Uv K mg zU qz) {uG lV} (Eg:Qo K mg uG lV) {jk fI} (wX:L8 K mg jk fI) {l9 iE} (Ad:Pn K mg l9 iE) {l6 iC} (z_:Pm K mg l6 iC) {l7 iD} (Ab:Po K mg l7 iD) {dk bL} (dD:yG K mg dk bL) {dF bN} (gG:yF K mg dF bN) {l_ gT} (vp:D6 K mg l_ gT) {cI bq} (eO:D3 K mg cI bq) {cT bu} (fQ:D2 K mg cT bu) {gk di} (lX:D5 K mg gk di) {d_ bU} (i7:D4 K mg d_ bU) {md gU} (yr:D9 K mg md gU) {ki fJ} (vq:D8 K mg ki fJ) {kg fG} (vm:D7 K mg kg fG) {gZ dG} (my:G5 K mg gZ dG) {gj dh} (oh:Ek K mg gj dh) {gi dg} (og:El K mg gi dg) {l8 gS} (yp:L7 K mg l8 gS) {kh fH} (vo:LB K mg kh fH) (B:Em mg) (bV:mg "ValueError" = none) (ZA:XA K mg cA c):aE P w K mg base bI 19 zU qz ["asked","row","weights","more"] (cY P w true uI):=by
 have X8:aE P w K mg base (mE P w) 4 _ _ _ (gu P w true λds R T=>wO ds R\/u4 c ds T):=JM Ab dD gG vp eO fQ lX i7 yr vq vm B ZA;have Yc:aE P w K mg base (mE P w) 18 _ _ _ (gu P w true λds R T=>wQ ds R\/u4 c ds T):=JQ Ad dD my oh og gG eO fQ B ZA;have X1:aE P w K mg base (mE P w) 4 _ _ _ (gu P w true λds R T=>wN ds R\/DT c ds T):=JF z_ dD gG yp vo eO fQ lX i7 B ZA;have X_:aE P w K mg base (mE P w) 18 _ _ _ (gu P w true λds R T=>lq ds R\/DS c ds T):=JO wX dD my oh og gG eO fQ B ZA;have X7:aE P w K mg base bI 1 _ _ _ (cY P w true (uJ c)):=FA Eg B.toBs3 bV ZA;refine ng HS.F fq (λds R NW=> by obtain⟨a,n,ps,ws,x,e,_⟩ := NW;subst e;rfl) λbQ A outer s H E hr=>⟨_,(aj (aU (i:=4) kP fq.nd)
    (dZ (Js (j:=5) rfl rfl (Be (aL ag (bA.m (cu hr.units)) (ae (i:=0)) ah) (mf u4.mono X8 (hr.mono (by decide)) Ab.m Ab.F.kp Ab.b (aa (ae (i:=1)) (aa (ae (i:=2)) af))) (Be (aL ag (bA.m (cu hr.units)) (ae (i:=0)) ah) (mf DS.mono X_ (hr.mono (by decide)) wX.m wX.F.kp wX.b (aa (ae (i:=1)) (aa (ae (i:=2)) (aa (ae (i:=3)) af)))) (Be (aL ag (bA.m (cu hr.units)) (ae (i:=0)) ah) (mf T9.mono Yc (hr.mono (by decide)) Ad.m Ad.F.kp Ad.b (aa (ae (i:=1)) (aa (ae (i:=2)) af))) (mf DT.mono X1 (hr.mono (by decide)) z_.m z_.F.kp z_.b (aa (ae (i:=1)) (aa (ae (i:=2)) (aa (ae (i:=3)) af))))))) (λ_=>(ar (aU (i:=4) (ae (i:=5)) fq.nd))) ZA.Ua fq.nd)
    (aj (b7 (aL ag (bA.m xP) (ae (i:=4)) kP) (ar (bh gz)) bc)
    (ar (bh (aN uJ.mono X7 (hr.mono (by decide)) Eg.m Eg.F.kp Eg.b (aa (ae (i:=4)) af))))))),λds R h=>?_⟩
 obtain⟨a,n,ps,ws,x,rfl,ok,hn,hw,h⟩:=h;obtain⟨hx,q⟩:=h;have qb:¬ ws.length=ps.length->R (.str "weights"):=λhl=>by
  unfold pf at q;rw[if_neg hl]at q;exact q
 have qg:ws.length=ps.length->a≠1->R (.str ""):=λhl ha=>by
  unfold pf at q;rw[if_pos hl]at q;cases x <;> first|exact q|(simpa[ha] using q)
 refine⟨λβ=>∃d,β=[some (.val false (.int a)),some (.val false (fN n ps)),some (.val false (b8 ws)),some (.val false x),some (.val true d),none]/\((d=.cN/\R (.str ""))\/∃i s,(i,s)∈knd/\d=.exc (c i)/\R (.str s)),
  ⟨λcl=>∃i s,(i,s)∈knd/\cl=c i/\R (.str s),?_,λcl h=>by
   obtain⟨i,s,hi,rfl,q⟩:=h;exact{ZA.XE i (Kc hi),_,rfl,_,rfl,.inr {(i),s,hi,rfl,q}}⟩,?_⟩
 ·rcases hx with rfl|⟨rfl,m,rfl⟩|rfl|⟨rfl,pp,rfl,hb⟩
  ·refine{_,rfl,tv,_,bf _ _,_,rfl,wC rfl {_,rfl,tv,_,rfl,tv,?_}}
   by_cases hl:ws.length=ps.length
   ·exact .inl {n,ps,ws,rfl,ok,hn,hl,hw,_,rfl,.inl {rfl,qg hl (by decide)}}
   ·exact .inr {n,ps,ws,rfl,hl,3,_,F1,rfl,qb hl}
  ·refine{_,rfl,tv,_,bf _ _,_,rfl,fR rfl {_,rfl,tv,_,bf _ _,_,rfl,wC rfl {_,rfl,tv,_,rfl,tv,_,rfl,tv,?_}}}
   by_cases hl:ws.length=ps.length
   ·unfold pf at q;rw[if_pos hl]at q
    by_cases hm:m<0
    ·exact .inr {n,ps,ws,m,rfl,.inr {hl,hm,4,_,Rt,rfl,by simpa[hm] using q}}
    ·exact .inl {n,ps,ws,m,rfl,ok,hn,hl,by lia,λL b=>{_,rfl,.inl {rfl,by simpa[hm] using q}}}
   ·exact .inr {n,ps,ws,m,rfl,.inl {hl,3,_,F1,rfl,qb hl}}
  ·refine{_,rfl,tv,_,bf _ _,_,rfl,fR rfl {_,rfl,tv,_,bf _ _,_,rfl,fR rfl {_,rfl,tv,_,bf _ _,_,rfl,wC rfl {_,rfl,tv,_,rfl,tv,?_}}}}
   by_cases hl:ws.length=ps.length
   ·exact .inl {n,ps,ws,rfl,ok,hn,hl,λL b=>{_,rfl,.inl {rfl,qg hl (by decide)}}}
   ·exact .inr {n,ps,ws,rfl,hl,3,_,F1,rfl,qb hl}
  ·refine{_,rfl,tv,_,bf _ _,_,rfl,fR rfl {_,rfl,tv,_,bf _ _,_,rfl,fR rfl {_,rfl,tv,_,bf _ _,_,rfl,fR rfl {_,rfl,tv,_,rfl,tv,_,rfl,tv,?_}}}}
   by_cases hl:ws.length=ps.length
   ·exact .inl {n,ps,ws,pp,rfl,ok,hn,hl,hb,λb _=>{_,rfl,.inl {rfl,qg hl (by decide)}}}
   ·exact .inr {n,ps,ws,_,rfl,hl,3,_,F1,rfl,qb hl}
 ·rintro β ⟨d,rfl,⟨rfl,q⟩|⟨i,s,hi,rfl,q⟩⟩
  ·exact{_,rfl,tv,_,rfl,_,rfl,wC rfl {(tv),q}}
  ·exact{_,rfl,tv,_,rfl,_,rfl,fR rfl {_,rfl,tv,i,s,hi,rfl,tv,q}}
def vQ:aJ ["asked","row","weights","more"] ["asked","row","weights","more"] (ao iO):=mkS
def JR {zV qA} (HX:Uu K mg zV qA) (B:Bs3 mg):aE P w K mg base bI 1 zV qA ["asked","row","weights","more"] (cY P w true Dh):=by
 refine ng HX.F vQ (λds R NV=> by obtain⟨a,n,ps,ws,x,e,_⟩ := NV;subst e;rfl) λbQ A outer s H E hr=>⟨_,(aj (b7 (aL ag (bA.m (m_ hr.units)) (a7 ag (bF.m bJ) B.len dO (aa (ae (i:=2)) af)) (a7 ag (bF.m bJ) B.len dO (aa (aT ag bx (ae (i:=1)) ah) af))) (ar (bh gz)) bc)
    (aj (b7 (vt.t (jM (aL ag (bA.m (cu hr.units)) (ae (i:=0)) ah) (ia (aL ag (bA.m fb) (ae (i:=3)) ah)))) (ar (bh gz)) bc)
    (ar (bh gz)))),λds R h=>?_⟩
 obtain⟨a,n,ps,ws,x,rfl,hx,q⟩:=h;have P0:kn [b8 ws]=some (.int (ws.length:Int)):=cz (by rw[Y3])
 have P1:kn [l0 ps]=some (.int (ps.length:Int)):=cz (by rw[Y3])
 unfold pf at q;refine{_,rfl,tv,_,P0,tv,_,rfl,tv,_,rfl,.inr {tv,_,P1,_,gH _ _,_,rfl,?_}}
 by_cases hl:ws.length=ps.length
 ·rw[if_pos hl]at q;refine fR (by simp[hl]) ?_
  rcases hx with rfl|⟨rfl,m,rfl⟩|rfl|⟨rfl,pp,rfl,_⟩
  ·refine{_,rfl,tv,_,bf _ _,_,rfl,fR rfl (fR rfl {tv,?_})};cases x <;> first|exact q|(simpa using q)
  ·refine{_,rfl,tv,_,bf _ _,_,rfl,wC rfl {_,rfl,tv,_,rfl,_,rfl,sf (λhm=>?_) λhm=>?_}}
   ·have q:R (.str "number"):=by simpa[hm] using q
    exact{(tv),q}
   ·have q:R (.str ""):=by simpa[hm] using q
    exact{(tv),q}
  ·refine{_,rfl,tv,_,bf _ _,_,rfl,fR rfl (fR rfl {tv,?_})};cases x <;> first|exact q|(simpa using q)
  ·exact{_,rfl,tv,_,bf _ _,_,rfl,fR rfl (fR rfl {(tv),q})}
 ·rw[if_neg hl]at q;exact wC (by simp;lia) {(tv),q}
end
end hJ
namespace L2.Q
open PySem PySem.Spec PySem.SeqAt PyProof.Rows
def iF:FD:=λds R=>∃(n:Nat) (ps:List NN) (ws ns:List Int),ds=[fN n ps,b8 ws,b8 ns]/\vx n ps/\n<=40/\(∀v∈ws,v.natAbs<2 ^ 199)/\ws.length<=1000/\ns.length<=10/\R (.bl true)
def iF.mono:dq iF:=λds R R' k h=>by obtain⟨n,ps,ws,ns,e,h1,h2,h3,h4,h5,q⟩:=h;exact{n,ps,ws,ns,e,h1,h2,h3,h4,h5,k _ q}
def zd (n:Nat):List (List Int):=(Zv (n+1)).map λi=>Zr (n+1-i) 0
def MT {n:Nat}(h:n<=40):xg (zd n):=by
 refine{by unfold zd;rw[Y3,ZV];lia,λl hl=>?_}
 obtain⟨i,_,rfl⟩:=ZN.mp hl;rw[List.length_replicate];lia
def Bx {k:Int}{m:Nat}(e:k=(m:Int))(h:m<=100):Dw (.lst [.int 0]) (.int k)=some (b8 (Zr m 0)):=by
 subst e;unfold Dw D.rX D.int?;rw[aah,aah,if_pos {by lia,by lia,by rw[abW,Nat.one_mul];exact bG (by lia)}]
 unfold b8;rw[List.map_replicate];have:(Zr ((m:Int).toNat) [D.int 0]).flatten=Zr m (D.int 0):=by
  rw[show (m:Int).toNat=m by lia]
  clear h
  induction m with
  |zero=>rfl
  |succ m ih=>rw[aaj,aaY,ih,aaj];rfl
 rw[this]
def uQ {a:Int}{ps:List NN}{ws:List Int}{x:D}:(D.str (pf a ps ws x)).AF=true:=by
 unfold pf
 split
 ·split
  ·split <;> decide +kernel
  ·decide +kernel
 ·decide +kernel
def FT {n:Nat}{ns:List Int}{i:Nat}(h:i<4)(hb:xg (zd n))(hn:ns.length<=10):∃(j:Int) (l:List D),vn (.lst [.int 1,.int 0,.int 1,.int 2]) (.int (0+(i:Int)))=some (.int j)/\vn (.lst [b8 ns,.lst [.int 0],.lst [tN (zd n),.lst []]]) (.int j)=some (.lst l) /\
  ∀d∈l,DV (0+(i:Int)) n d/\((∃m,d=.int m)\/∃pp,d=tN pp):=by
 rcases (show i=0\/i=1\/i=2\/i=3 by lia)with rfl|rfl|rfl|rfl
 ·refine{1,[.int 0],rfl,rfl,λd hd=>?_};rw[Zc.mp hd];exact{.inl rfl,.inl {_,rfl}}
 ·refine{0,ns.map D.int,rfl,rfl,λd hd=>?_};obtain⟨m,_,rfl⟩:=ZN.mp hd;exact{.inr (.inl {rfl,_,rfl}),.inl {_,rfl}}
 ·refine{1,[.int 0],rfl,rfl,λd hd=>?_};rw[Zc.mp hd];exact{.inr (.inr (.inl rfl)),.inl {_,rfl}}
 ·refine{2,[tN (zd n),.lst []],rfl,rfl,λd hd=>?_};simp only[Y6,Z2,or_false]at hd;rcases hd with rfl|rfl
  ·exact{.inr (.inr (.inr {rfl,_,rfl,hb})),.inr {_,rfl}}
  ·exact{.inr (.inr (.inr {rfl,[],rfl,{Zn _,λl hl=>(nomatch hl)}})),.inr {[],rfl}}
def pJ (qq:List (List Int)):(tN qq).pd.canLay0=true/\(tN qq).pd.depth<=3:=iM λd hd=>by
 obtain⟨l,_,rfl⟩:=ZN.mp hd;exact eW l
end L2.Q
namespace hJ
open PySem L2 L2.Q
section
variable {P:Y7}{w:Zj}{K:PySem.W.Frag}{mg:Str->Option Y1}{base:Heap}{cA:Addr}{c:Nat->Addr}
def oU:aJ ["row"] ["row"] (ao eM):=mkS
def zj {zW qD} (HY:Ut K mg zW qD) (B:Bs mg):aE P w K mg base bI 1 zW qD ["row"] (cY P w true uM):=by
 refine ng HY.F oU (λds R NU=> by obtain⟨n,ps,e,_⟩ := NU;subst e;rfl) λbQ A outer s H E hr=>{_,(ar (bh (bX (aa (aT ag bx (ae (i:=0)) ah) (aa (iP aI iL B.list ku (aa (aT ag bx (ae (i:=0)) ah) af)) af))))),λds R h=>?_}
 obtain⟨n,ps,rfl,q⟩:=h;exact{_,rfl,tv,_,rfl,tv,_,rfl,tv,_,rfl,.inr {tv,_,rfl,.inl {(j_),tv,lK,tv,q}}}
def cB:aJ ["row","weights","numbers","paper","handed","asked","more","told"] ["row","weights","numbers"] (ao fw):=mkS
def B8 {Gx yh} (LY:VM K mg Gx yh) {zW qD} (HY:Ut K mg zW qD) {zV qA} (HX:Uu K mg zV qA) {zU qz} (HS:Uv K mg zU qz) {uG lV} (Eg:Qo K mg uG lV) {jk fI} (wX:L8 K mg jk fI) {l9 iE} (Ad:Pn K mg l9 iE) {l6 iC} (z_:Pm K mg l6 iC) {l7 iD} (Ab:Po K mg l7 iD) {dk bL} (dD:yG K mg dk bL) {dF bN} (gG:yF K mg dF bN) {l_ gT} (vp:D6 K mg l_ gT) {cI bq} (eO:D3 K mg cI bq) {cT bu} (fQ:D2 K mg cT bu) {gk di} (lX:D5 K mg gk di) {d_ bU} (i7:D4 K mg d_ bU) {md gU} (yr:D9 K mg md gU) {ki fJ} (vq:D8 K mg ki fJ) {kg fG} (vm:D7 K mg kg fG) {gZ dG} (my:G5 K mg gZ dG) {gj dh} (oh:Ek K mg gj dh) {gi dg} (og:El K mg gi dg) {l8 gS} (yp:L7 K mg l8 gS) {kh fH} (vo:LB K mg kh fH) (B:Em mg) (bV:mg "ValueError" = none) (ZA:XA K mg cA c):aE P w K mg base bI 20 Gx yh ["row","weights","numbers"] (cY P w true iF):=by
 have Yh:aE P w K mg base bI 1 _ _ _ (cY P w true uM):=zj HY B.toBs3.toBs;have Yg:aE P w K mg base bI 1 _ _ _ (cY P w true Dh):=JR HX B.toBs3;have X2:aE P w K mg base bI 19 _ _ _ (cY P w true uI):=Fz HS Eg wX Ad z_ Ab dD gG vp eO fQ lX i7 yr vq vm my oh og yp vo B bV ZA;refine ng LY.F cB (λds R NT=> by obtain⟨n,ps,ws,ns,e,_⟩ := NT;subst e;rfl) λbQ A outer s H E hr=>⟨_,(aj (pL (i:=3) false ["i","row"] [none,some 0] (by rfl) (by decide:(["i","row"]:List Str).Nodup) rfl (λ_=>(ck B.range (aa (az aI aA (aT ag bx (ae (i:=0)) ah) ah) af))) (λ_ _ _ _ _ _=>(aw (i:=0) (by decide:(["i","row"]:List Str).Nodup))) (λ_ _ _ _ _ _=>cM) (λ_ _ _ _ _ _=>(az aI jV (aS (aa ah af)) (az ag (bA.m aW) (az aI aA (aT ag bx (ae (i:=1)) ah) ah) (ae (i:=0))))) cB.nd)
    (aj (aU (i:=4) (aS (aa (aN uM.mono Yh (hr.mono (by decide)) HY.m HY.F.kp HY.b (aa (ae (i:=0)) af)) (aa (iP aI iL B.list ku (aa (ae (i:=1)) af)) (aa (J9 ["some"] [none] (by rfl) (by decide:(["some"]:List Str).Nodup) rfl (bt (ae (i:=3))) (λ_ _ _ _ _ _=>(aw (i:=0) (by decide:(["some"]:List Str).Nodup))) (λ_ _ _ _ _ _=>cM) (λ_ _ _ _ _ _=>(iP aI iL B.list ku (aa (ae (i:=0)) af)))) af)))) cB.nd)
    (aj (dI aab rfl (ck B.range (aa ah af)) (aw (i:=5) cB.nd) (ar (dI aab rfl (bt (aT ag bx (aS (aa (ae (i:=2)) (aa (aS (aa ah af)) (aa (aS (aa (aT ag bx (ae (i:=4)) ah) (aa (aS af) af))) af)))) (aT ag bx (aS (aa ah (aa ah (aa ah (aa ah af))))) (ae (i:=5))))) (aw (i:=6) cB.nd) (aj (aU (i:=7) (aN uI.mono X2 (hr.mono (by decide)) HS.m HS.F.kp HS.b (aa (ae (i:=5)) (aa (aT ag bx (ae (i:=4)) ah) (aa (aT ag bx (ae (i:=4)) ah) (aa (ae (i:=6)) af))))) cB.nd)
    (ar (b7 (aL ag (bA.m (m_ hr.units)) (ae (i:=7)) (aN Dh.mono Yg (hr.mono (by decide)) HX.m HX.F.kp HX.b (aa (ae (i:=5)) (aa (ae (i:=0)) (aa (ae (i:=1)) (aa (ae (i:=6)) af)))))) (ar (bh m7)) bc))))))
    (ar (bh (rG ag (bA.m (cu hr.units)) (ae (i:=4)) (aS (aa (ae (i:=0)) (aa (ae (i:=1)) (aa (ae (i:=3)) af)))))))))),λds R h=>?_⟩
 obtain⟨n,ps,ws,ns,rfl,ok,hn,hw,hl,SN,q⟩:=h;have RS:(D.lst [fN n ps,b8 ws,tN (zd n)]).pd.canLay0=true/\(D.lst [fN n ps,b8 ws,tN (zd n)]).pd.depth<=5:=iM λd hd=>by
  simp only[Y6,Z2,or_false]at hd;rcases hd with rfl|rfl|rfl
  ·exact Bl n ps
  ·exact{(eW ws).1,ZX (eW ws).2 (by decide)}
  ·exact{(pJ _).1,ZX (pJ _).2 (by decide)}
 have Mv:3<=Zd:=by decide
 refine{_,rfl,tv,_,rfl,tv,_,rfl,tv,(n:Int)+1,rfl,by lia,by lia,tv,?_}
 rw[show ((n:Int)+1).toNat=n+1 by lia]
 refine ip (cap:=[some (.val false (fN n ps))]) (λ_=>true) (λi:Nat=>b8 (Zr (n+1-i) 0)) tv (by rw[ZV];exact bG (by lia)) (λx hx x0 o J ho h1 _=>?_) ?_
 ·have F_:=aae.mp hx;exact{tv,vH,tv,_,rfl,tv,_,rfl,tv,_,rfl,tv,_,rfl,_,rfl,_,Bx (m:=n+1-x) (by lia) (by lia),.inl {cH,tv,ho,h1 rfl _}}
 rw[bS,show ((Zv (n+1)).map λi:Nat=>b8 (Zr (n+1-i) 0))=(zd n).map b8 by unfold zd;rw[Z7];rfl]
 have uB:=MT hn;refine{_,rfl,tv,n,ps,rfl,tv,_,rfl,tv,_,rfl,.inl {cH,tv,_,rfl,_,rfl,tv,?_}};refine ip (cap:=[]) (f:=b8) (λ_=>true) b8 tv (bG (by have:=uB.1;lia)) (λl hl x0 o J ho h1 _=>{_,rfl,tv,_,rfl,.inl {cH,tv,ho,h1 rfl _}}) ?_
 rw[bS];refine{tv,bG (by show 3<=1000;decide),tv,4,rfl,by decide,by decide,tv,?_}
 have Vg:∀{a:Int} {x:D},Lc (.str (pf a ps ws x)) (.str (pf a ps ws x))=some (.bl false):=λ{a x}=>by
  rw[GA _ _ uQ uQ,decide_eq_true rfl];rfl
 refine nQ (λ_ β=>∃x5 x6 x7,β=[some (.val false (fN n ps)),some (.val false (b8 ws)),some (.val false (b8 ns)),some (.val true (tN (zd n))),some (.val true (.lst [fN n ps,b8 ws,tN (zd n)])),x5,x6,x7]) {_,_,_,rfl} (λE1 r1 i n1 d β hd h=>?_) ?_
 ·obtain⟨x5,x6,x7,rfl⟩:=h;have hi:=(Y_.mp hd).1;rw[fW]at hi;obtain⟨_,rfl⟩:=fX hd;obtain⟨j,l,e1,e2,Vt⟩:=FT (n:=n) (ns:=ns) hi uB SN;generalize (0+(i:Int))=a at e1 Vt;refine{_,rfl,tv,tv,vH,tv,_,rfl,tv,_,rfl,.inr {tv,bG (Zn _),tv,lK,.inr {tv,Mv,.inr {tv,tv,tv,tv,tv,bG (by show 4<=1000;decide),tv,_,rfl,_,e1,_,e2,.inr {_,rfl,tv,?_}}}}}
  refine nQ (λ_ β=>∃x6 x7,β=[some (.val false (fN n ps)),some (.val false (b8 ws)),some (.val false (b8 ns)),some (.val true (tN (zd n))),some (.val true (.lst [fN n ps,b8 ws,tN (zd n)])),some (.val true (.int a)),x6,x7]) {_,_,rfl} (λE2 r2 k n2 d β hd h=>?_) λβ h=>?_
  ·obtain⟨x6,x7,rfl⟩:=h;obtain⟨ha,hk⟩:=Vt d (ZT hd);rcases hk with⟨m,rfl⟩|⟨pp,rfl⟩
   ·refine{_,rfl,tv,_,rfl,tv,_,rfl,tv,_,rfl,tv,_,rfl,.inr {tv,_,rfl,tv,a,n,ps,ws,_,rfl,ok,hn,hw,ha,?_}};exact{_,rfl,tv,_,rfl,tv,_,rfl,tv,_,rfl,tv,_,rfl,tv,a,n,ps,ws,_,rfl,ha,_,Vg,_,rfl,fR rfl (n2 _ {_,_,rfl})}
   ·refine{_,rfl,tv,_,rfl,tv,_,rfl,tv,_,rfl,tv,_,rfl,.inr {tv,_,rfl,tv,a,n,ps,ws,_,rfl,ok,hn,hw,ha,?_}};exact{_,rfl,tv,_,rfl,tv,_,rfl,tv,_,rfl,tv,_,rfl,tv,a,n,ps,ws,_,rfl,ha,_,Vg,_,rfl,fR rfl (n2 _ {_,_,rfl})}
  ·obtain⟨x6,x7,rfl⟩:=h;exact n1 _ {_,_,_,rfl}
 ·rintro β ⟨x5,x6,x7,rfl⟩;exact{_,rfl,tv,_,rfl,tv,_,rfl,tv,_,rfl,tv,Mv,.inr {_,DA RS,tv,q}}
end
section
variable {P:Y7}{w:Zj}{K:PySem.W.Frag}{mg:Str->Option Y1}{base:Heap}{cA:Addr}{c:Nat->Addr}
def K8:K9 (.int 10) (.int 15)=some (.int (10 ^ 15)):=by
 show (if pA 10 15 then _ else none)=_
 rw[if_pos (by decide)]
 rfl
def mW:aJ ["script","k"] ["script","k"] (ao dY):=mkS
def Bk (K:PySem.W.Frag):Sp:=λvs H Q _=>∃(a:Addr) (ns:List Int),vs=[.ref a,.int 0]/\dj K H a (ns.map V.int)/\∀c:Int,Q (.int c) H
def FH {Gy yi} (LZ:VL K mg Gy yi) (B:Bs mg):aE P w K mg base bI 1 Gy yi ["script","k"] (Bk K):=by
 refine LZ.F.ok mW (λvs H Q E h=>?_) (λbQ A outer s H vs Qk E hr h=>?_)
 ·obtain⟨a,ns,rfl,_⟩:=h;rfl
 ·obtain⟨a,ns,rfl,hS,k⟩:=h;refine{_,cP (BG (rq Hm (pv 1) (ij gJ (by rfl) B.len dO (aZ (pv 0) cq)) (Cd _)) (fA (gx (fC b_ (pv 0) (pv 1) (λ_ _=>rfl)))) rA) (fA (gx ba)),?_}
  refine{_,rfl,_,rfl,a,_,rfl,.inl hS,0,_,rfl,rfl,_,rfl,?_};dsimp only
  split
  ·rename_i hl
   cases ns with
   |nil=>exact absurd hl (by decide)
   |cons n ns=>exact{_,rfl,_,rfl,a,_,0,.int n,rfl,rfl,hS,(by unfold lB;rw[show sd (List.map V.int (n::ns)).length 0=some 0 by unfold sd;rw[if_pos (by decide),if_pos (by rw[Y3,Zb];lia)];rfl];rfl),k n}
  ·exact k 0
def fM:aJ ["script","cell","deck","row","weights","far","at","some","one"] ["script"] (ao mY):=mkS
def Bj (K:PySem.W.Frag):Sp:=λvs H Q _=>∃(a:Addr) (ns:List Int),vs=[.ref a]/\dj K H a (ns.map V.int)/\ns.length<=63/\∀H',Q (.bl true) H'
def JL (β:Q.bb):Prop:=∃y0 y1 y2 y3 y4 y5 y6 y7 y8:Option Q.B,β=[y0,y1,y2,y3,y4,y5,y6,y7,y8]
def JJ {f:Addr} {fd:ZL} (F:AL K "law" "law" mY f fd) (B:Em mg) (bV:mg "ValueError" = none) (ZA:XA K mg cA c) {Gx yh} (LY:VM K mg Gx yh) {zW qD} (HY:Ut K mg zW qD) {zV qA} (HX:Uu K mg zV qA) {zU qz} (HS:Uv K mg zU qz) {uG lV} (Eg:Qo K mg uG lV) {jk fI} (wX:L8 K mg jk fI) {l9 iE} (Ad:Pn K mg l9 iE) {l6 iC} (z_:Pm K mg l6 iC) {l7 iD} (Ab:Po K mg l7 iD) {dk bL} (dD:yG K mg dk bL) {dF bN} (gG:yF K mg dF bN) {l_ gT} (vp:D6 K mg l_ gT) {cI bq} (eO:D3 K mg cI bq) {cT bu} (fQ:D2 K mg cT bu) {gk di} (lX:D5 K mg gk di) {d_ bU} (i7:D4 K mg d_ bU) {md gU} (yr:D9 K mg md gU) {ki fJ} (vq:D8 K mg ki fJ) {kg fG} (vm:D7 K mg kg fG) {gZ dG} (my:G5 K mg gZ dG) {gj dh} (oh:Ek K mg gj dh) {gi dg} (og:El K mg gi dg) {l8 gS} (yp:L7 K mg l8 gS) {kh fH} (vo:LB K mg kh fH) {Gy yi} (LZ:VL K mg Gy yi) {XB TR} (dH:Yk K mg XB TR) {OP Dc} (dT:D1 K mg OP Dc) {P_ Gv} (dR:D0 K mg P_ Gv) {Gw yf} (LX:VN K mg Gw yf):aE P w K mg base bI 45 f fd ["script"] (Bj K):=by
 have Yi:aE P w K mg base bI 1 _ _ _ (Bk K):=FH LZ B.toBs3.toBs;have GH:aE P w K mg base bI 1 _ _ _ (cY P w true Dg):=FG dH.F B.toBs3.toBs;have GT:aE P w K mg base bI 1 _ _ _ (oQ P w pY true bw):=rP dT.F;have GR:aE P w K mg base bI 3 _ _ _ (oQ P w pY true qE):=JG dR dT B.toBs3.toBs;have X0:aE P w K mg base bI 2 _ _ _ (oQ P w pY true uH):=JD LX dT B.toBs3;have X4:aE P w K mg base bI 20 _ _ _ (cY P w true iF):=B8 LY HY HX HS Eg wX Ad z_ Ab dD gG vp eO fQ lX i7 yr vq vm my oh og yp vo B bV ZA;refine F.ok fM (λvs H Q E h=>?_) (λbQ A outer s H vs Qk E hr h=>?_)
 ·obtain⟨a,ns,rfl,_⟩:=h;rfl
 ·obtain⟨a,ns,rfl,hS,hlen,k⟩:=h;have Ta:∀b:Addr,¬ (λ_=>False) b:=λb z=>z;obtain⟨ψ,hb,hψ⟩:∃ψ,Q.sR (ly bI P w K mg base ["script","cell","deck","row","weights","far","at","some","one"] "law" (ao mY) f bQ A outer s H E).tV {H,λ_=>False,true,λ_=>False} (match (d3 mY)with | .For _ _ b _ _::_=>b|_=>[]) ψ /\
    ∀(c:Int) (x0 x2 x3 x4 x5 x6 x7 x8:Option Q.B),ψ {nx:=JL,rt:=λd _=>d=.bl true,bk:=JL,ct:=JL} [x0,some (.val true (.int c)),x2,x3,x4,x5,x6,x7,x8]:=by
   refine⟨_,(aj (Fi (i:=2) pY Ta (λ_=>(aN Dg.mono GH (hr.mono (by decide)) dH.m dH.F.kp dH.b (aa (ae (i:=1)) af))) fM.nd)
    (aj (aU (i:=3) (aV (ih:=2) qE.mono GR (hr.mono (by decide)) dR.m dR.F.kp dR.b (aa ah af)) fM.nd)
    (dZ (b7 (aL ag (bA.m (cu hr.units)) (aV (ih:=2) bw.mono GT (hr.mono (by decide)) dT.m dT.F.kp dT.b (aa ah af)) ah) (ar (aU (i:=3) (aV (ih:=2) qE.mono GR (hr.mono (by decide)) dR.m dR.F.kp dR.b (aa ah af)) fM.nd)) bc)
    (aj (aU (i:=4) (aV (ih:=2) uH.mono X0 (hr.mono (by decide)) LX.m LX.F.kp LX.b (aa (a7 ag (bF.m bJ) B.len dO (aa (aT ag bx (ae (i:=3)) ah) af)) af)) fM.nd)
    (aj (aU (i:=5) (az ag (bA.m jW) (aV (ih:=2) bw.mono GT (hr.mono (by decide)) dT.m dT.F.kp dT.b (aa ah af)) (aT ag bx (aS (aa ah (aa (az ag (bA.m xN) ah ah) af))) (aV (ih:=2) bw.mono GT (hr.mono (by decide)) dT.m dT.F.kp dT.b (aa ah af)))) fM.nd)
    (aj (aU (i:=6) (aV (ih:=2) bw.mono GT (hr.mono (by decide)) dT.m dT.F.kp dT.b (aa (az aI aA (a7 ag (bF.m bJ) B.len dO (aa (ae (i:=4)) af)) ah) af)) fM.nd)
    (aj (aU (i:=7) (aS (aa (ae (i:=4)) (aa (az aI aA (pR (ae (i:=4)) f7 (fZ (ae (i:=6)))) (pR (ae (i:=4)) (fZ (az aI aA (ae (i:=6)) ah)) f7)) (aa (az aI aA (az aI aA (pR (ae (i:=4)) f7 (fZ (ae (i:=6)))) (aS (aa ah af))) (pR (ae (i:=4)) (fZ (ae (i:=6))) f7)) af)))) fM.nd)
    (ar (dI aab rfl (bt (az aI aA (ae (i:=7)) (aS (aa (aS af) (aa (az aI jV (ae (i:=4)) ah) (aa (ae (i:=4)) af)))))) (aw (i:=8) fM.nd) (ar (b7 (rE (jN (aN iF.mono X4 (hr.mono (by decide)) LY.m LY.F.kp LY.b (aa (ae (i:=3)) (aa (pR (ae (i:=8)) f7 (fZ ah)) (aa (aS (aa (ib du ah) (aa ah (aa (az ag (bA.m aW) (ib du ah) (ae (i:=5))) (aa (aV (ih:=2) bw.mono GT (hr.mono (by decide)) dT.m dT.F.kp dT.b (aa ah af)) af))))) af)))))) (ar (bh m7)) bc))))))))))),λcc x0 x2 x3 x4 x5 x6 x7 x8=>?_⟩
   refine{_,rfl,tv,cc,rfl,λns hk=>{tv,(by show 2<9;decide),ns,rfl,hk,?_}}
   refine{rfl,tv,rfl,tv,14,rfl,by decide,by decide,λn ts n0 n1 dr=>?_}
   obtain⟨hl,tr,sr,nd⟩:=dr;obtain⟨m,ps,ok,en,TV,er⟩:=xB n0 (by lia) (by lia) tr nd
   rw[er];have hm:m<=40:=by lia
   have hpl:ps.length<=300:=by rw[TV,Y3]at hl;exact hl
   refine{λβ=>∃(m:Nat) (ps:List (Nat×Nat)),vx m ps/\m<=40/\ps.length<=300/\β=[x0,some (.val true (.int cc)),some (.hand pY),some (.val true (fN m ps)),x4,x5,x6,x7,x8],?_,?_}
   ·refine{rfl,tv,rfl,tv,16,rfl,by decide,by decide,λr r0 r1=>?_}
    refine{tv,_,bf _ _,_,rfl,sf (λh=>?_) λh=>{(m),ps,ok,hm,hpl,rfl}};refine{rfl,tv,rfl,tv,40,rfl,by decide,by decide,λn ts n0 n1 dr=>?_}
    obtain⟨hl,tr,sr,nd⟩:=dr;obtain⟨m,ps,ok,en,TV,er⟩:=xB n0 (by lia) (by lia) tr nd
    rw[er];exact{m,ps,ok,by lia,by rw[TV,Y3]at hl;exact hl,rfl}
   rintro β ⟨m,ps,ok,hm,hpl,rfl⟩;have c9:kn [.lst (ps.map λp=>kD (tI p))]=some (.int (ps.length:Int)):=cz (by rw[Y3])
   refine{rfl,_,rfl,tv,_,rfl,.inr {tv,_,c9,tv,rfl,tv,ps.length,rfl,hpl,λws NC CL=>?_}};refine{rfl,tv,rfl,tv,65536,rfl,by decide,by decide,λf f0 f1=>?_}
   refine{tv,tv,tv,_,K8,tv,lK,tv,rfl,tv,rfl,tv,2,rfl,by decide,by decide,λg g0 g1=>?_}
   obtain⟨v,ev,v0⟩:∃v,vn (.lst [.int 1,.int (10 ^ 15)]) (.int g)=some (.int v)/\0<=v:=by
    rcases (show g=0\/g=1 by lia)with rfl|rfl
    ·exact{1,rfl,by decide}
    ·exact{_,rfl,by decide}
   refine{_,ev,_,sG (.inl {by lia,by lia}),?_}
   generalize f*v=Gz;have Rn:kn [b8 ws]=some (.int (ws.length:Int)):=cz (by rw[Y3])
   refine{rfl,_,rfl,tv,_,Rn,tv,_,rfl,tv,rfl,tv,(ws.length:Int)+1,rfl,by lia,by lia,λt t0 t1=>?_}
   obtain⟨t,rfl⟩:=acD t0;have s1:HU (b8 ws) none (some (t:Int))=some (b8 (ws.take t)):=by unfold b8;rw[Ha (h:=t) rfl,List.map_take]
   have s2:HU (b8 ws) (some ((t:Int)+1)) none=some (b8 (ws.drop (t+1))):=by unfold b8;rw[xq (h:=t+1) (by lia),List.map_drop]
   have s3:HU (b8 ws) (some (t:Int)) none=some (b8 (ws.drop t)):=by unfold b8;rw[xq (h:=t) rfl,List.map_drop]
   have KZ:∀{a b:List Int},a.length<=1000->b.length<=1000->Ae (b8 a) (b8 b)=some (b8 (a++b)):=λ{a b} ha hb=>by
    unfold b8;rw[Zl];exact fk (by rw[Y3,Y3];lia)
   have WK:ws.length<=300:=by lia
   have la:=KZ (a:=ws.take t) (b:=ws.drop (t+1)) (by rw[ZI];lia) (by rw[abZ];lia)
   have lb:=KZ (a:=ws.take t) (b:=[1]) (by rw[ZI];lia) (by decide)
   have lc:=KZ (a:=ws.take t++[1]) (b:=ws.drop t) (by rw[Zk,ZI];show _+1<=1000;lia) (by rw[abZ];lia)
   have rp:Dw (b8 ws) (.int 2)=some (b8 (ws++ws)):=by
    unfold Dw b8 D.rX D.int?;rw[aah,aah,if_pos {by decide,by decide,by rw[Y3];exact bG (by show _*2<=1000;lia)},Zl]
    show some (D.lst ([ws.map D.int,ws.map D.int].flatten))=_;simp
   refine{_,rfl,tv,_,rfl,_,rfl,_,rfl,_,s1,.inl {cH,tv,_,rfl,_,rfl,tv,_,rfl,_,rfl,_,s2,.inl {cH,_,la,.inl {cH,tv,?_}}}};refine{_,rfl,_,rfl,_,rfl,_,s1,.inl {cH,tv,tv,vH,_,lb,.inl {cH,tv,_,rfl,_,rfl,_,rfl,_,s3,.inl {cH,_,lc,.inl {cH,tv,bG (by show 3<=1000;decide),.inr ?_}}}}}
   refine{_,rfl,tv,bG (Zn _),tv,_,rfl,tv,_,rp,.inl {cH,tv,_,rfl,tv,bG (by show 3<=1000;decide),.inr {_,fk (by show 3+3<=_;decide),.inr {_,rfl,tv,?_}}}}
   have uC:∀d∈[b8 ws,b8 (ws.take t++ws.drop (t+1)),b8 (ws.take t++[1]++ws.drop t)]++[D.lst [],b8 (ws++ws),b8 ws],∃vs:List Int,d=b8 vs/\∀v∈vs,v.natAbs<2 ^ 199:=λd hd=>by
    have hb:∀v,v∈ws->v.natAbs<2 ^ 199:=λv hv=>Nat.lt_trans (CL v hv) (by decide)
    simp only[aa4,List.nil_append,Y6,Z2,or_false]at hd;rcases hd with rfl|rfl|rfl|rfl|rfl|rfl
    ·exact{(ws),rfl,hb}
    ·exact{_,rfl,λv hv=>(Zt.mp hv).elim (λh=>hb v (aaW h)) λh=>hb v (List.mem_of_mem_drop h)}
    ·refine{_,rfl,λv hv=>(Zt.mp hv).elim (λh=>(Zt.mp h).elim (λh=>hb v (aaW h)) λh=>?_) λh=>hb v (List.mem_of_mem_drop h)};rw[Zc.mp h]
     decide
    ·exact{[],rfl,λv hv=>(nomatch hv)}
    ·exact{_,rfl,λv hv=>(Zt.mp hv).elim (hb v) (hb v)}
    ·exact{(ws),rfl,hb}
   refine nQ (λ_ β=>∃y6 y7 y8,β=[x0,some (.val true (.int cc)),some (.hand pY),some (.val true (fN m ps)),some (.val true (b8 ws)),some (.val true (.int Gz)),y6,y7,y8]) {_,_,_,rfl} (λE1 r1 i n1 d β hd h=>?_) λβ h=>?_
   ·obtain⟨y6,y7,y8,rfl⟩:=h;obtain⟨vs,rfl,WO⟩:=uC d (ZT hd);have s4:HU (b8 vs) none (some 300)=some (b8 (vs.take 300)):=by unfold b8;rw[Ha (x:=300) (h:=300) rfl,List.map_take]
    refine{_,rfl,tv,_,rfl,_,rfl,_,s4,.inl {cH,tv,_,rfl,rfl,tv,tv,_,rfl,rfl,tv,_,rfl,_,rfl,tv,rfl,tv,rfl,tv,4,rfl,by decide,by decide,λr4 a4 b4=>?_}}
    refine{tv,bG (by show 4<=1000;decide),tv,m,ps,vs.take 300,[-1,0,-1-Gz,r4],rfl,ok,hm,λv hv=>WO v (aaW hv),by rw[ZI];lia,by show 4<=10;decide,_,rfl,fR rfl (n1 _ {_,_,_,rfl})}
   ·obtain⟨y6,y7,y8,rfl⟩:=h;exact{_,_,_,_,_,_,_,_,_,rfl}
  refine{_,cP (BH aab rfl (rH (cQ B6 (tO xp (pv 0) xG (xF ba)) (v9 (aZ (jQ Yi (hr.mono (by decide)) (by rfl) LZ.m LZ.F.kp LZ.b .nil xK (aZ (pv 0) (aZ ba cq))) cq)))) (Q.aw (C:={H,λ_=>False,true,λ_=>False}) (i:=1) fM.nd).pg hb.ps) (fA (gx BQ)),?_}
  obtain⟨ms,em,hm⟩:=Ag ns none (some 8);refine{_,rfl,_,rfl,a,_,rfl,hS,λp2 PU=>{_,rfl,a,ns,rfl,(aB.new PU).seq hS,λc0=>{(by show 1<=Zd;decide),λp1 LP=>?_}}}
  have Wr:p2≠p1:=c8 ak LP;refine{p2,p1,_,_,rfl,rfl,(by rw[au Wr];exact ak),ak,(by rw[em,Y3,aaK,abW];lia),λl hl=>{l,rfl,{_,dj.of ak},?_}}
  rw[em];rw[em]at hl;rw[em]at LP;have sm:aB H (upd (upd (upd H p2 (.lst (ms.map V.int))) p1 (.lst [V.int c0])) l (.lst (ms.map V.int++[V.int c0]))):=((aB.new PU).trans (aB.new LP)).trans (aB.new hl);have qv:(upd (upd (upd H p2 (.lst (ms.map V.int))) p1 (.lst [V.int c0])) l (.lst (ms.map V.int++[V.int c0]))) l=some (.lst ((ms++[c0]).map V.int)):=by rw[Zl];exact ak
  generalize (upd (upd (upd H p2 (.lst (ms.map V.int))) p1 (.lst [V.int c0])) l (.lst (ms.map V.int++[V.int c0])))=H1 at sm qv ⊢
  generalize (ms++[c0])=cs at qv;let X:Cx:=(ly bI P w K mg base ["script","cell","deck","row","weights","far","at","some","one"] "law" (ao mY) f bQ A outer s H E).tV
  let C:Q.Cfg:={H,λ_=>False,true,λ_=>False}
  have it:Az X (λ_=>False) (Qn K l) (cs.map D.int) H1:=nH qv (λz=>z) (cE cs);have LN:=it (λb=>(λ_=>False) b\/H1 b=none) λb z=>z;have s':Q.bj P w C.z (L2.start ["script","cell","deck","row","weights","far","at","some","one"] [.ref a]) H1 (Zr 9 none) (λ_=>[]):=EA (by rfl) sm
  generalize Xi:cs.map D.int=ds at LN;have hint:∀d∈ds,∃c:Int,d=.int c:=λd hd=>by
   rw[<- Xi]at hd;obtain⟨c,_,rfl⟩:=ZN.mp hd;exact{(c),rfl}
  refine{λi m σ H'=>i<=ds.length/\m=ds.length-i/\∃β,Q.SB X C (H1,Q.Wn λ_=>[]) σ H' β/\JL β,{_,Zn _,rfl,_,{_,s',Sn.refl},{_,_,_,_,_,_,_,_,_,rfl}},?_};rintro i m σ2 H2 ⟨hi,rfl,β2,⟨bH,s2,n2⟩,⟨y0,y1,y2,y3,y4,y5,y6,y7,y8,rfl⟩⟩;obtain⟨dJ,se⟩:=LN i H2 (n2.k.mono λb z=>z.imp (λNS=> by obtain⟨_,q⟩ := NS;exact(nomatch q)) id)
  by_cases dE:i<ds.length
  ·right
   have hd:ds[i]?=some ds[i]:=Y5 dE;obtain⟨go,yl⟩:=dJ _ hd;obtain⟨c,hc⟩:=hint ds[i] (aaD dE);refine{go,λσ' H'=>∃β,Q.SB X C (H1,Q.Wn λ_=>[]) σ' H' β/\JL β,λσ' H' NR=> by obtain⟨β',vR,zR⟩ := NR;exact{_,by lia,dE,rfl,β',vR,zR},λx H3 y=>?_}
   obtain⟨s3,r3⟩:=yl x H3 y;rw[hc]at r3;refine{bH,_,.int c,.own,s2.same s3,aC.flat rfl r3,λσ4 v_ s4 w4 _=>?_};exact⟨(H1,Q.Wn λ_=>[]),{nx:=JL,rt:=λd _=>d=.bl true,bk:=JL,ct:=JL},_,{v_,s4,Q.jH (n2.same s3) w4},hψ c y0 y2 y3 y4 y5 y6 y7 y8,⟨λσ5 H5 β5 yU q5=>{(β5),yU,q5},λσ5 H5 β5 d5 v5 yU r5 q5=>by
    subst q5;cases (show v5=V.bl true from MC r5)
    exact k _,λσ5 H5 β5 yU q5=>k _,λσ5 H5 β5 yU q5=>{(β5),yU,q5}⟩⟩
  ·left
   have e:i=ds.length:=by lia
   subst e;exact{se (Y8 _),k _}
end
def zD {α:Type}{P:List α->Prop}(h:∀a,P [a]):∀us:List α,us.length=1->P us:=λus e=>by
 obtain⟨a,rfl⟩:=List.length_eq_one_iff.mp e;exact h a
def k6 {α:Type}{P:List α->Prop}(h:∀a b,P [a,b]):∀us:List α,us.length=2->P us:=λus e=>by
 cases us with
 |nil=>cases e
 |cons a us=>exact zD (P:=λus=>P (a::us)) (h a) us (abP e)
def zC {α:Type}{P:List α->Prop}(h:∀a b c,P [a,b,c]):∀us:List α,us.length=3->P us:=λus e=>by
 cases us with
 |nil=>cases e
 |cons a us=>exact k6 (P:=λus=>P (a::us)) (h a) us (abP e)
def F0 {α:Type}{P:List α->Prop}(h:∀a b c d,P [a,b,c,d]):∀us:List α,us.length=4->P us:=λus e=>by
 cases us with
 |nil=>cases e
 |cons a us=>exact zC (P:=λus=>P (a::us)) (h a) us (abP e)
def FZ {α:Type}{P:List α->Prop}(h:∀a b c d e,P [a,b,c,d,e]):∀us:List α,us.length=5->P us:=λus e=>by
 cases us with
 |nil=>cases e
 |cons a us=>exact F0 (P:=λus=>P (a::us)) (h a) us (abP e)
def C6 {K:PySem.W.Frag}{x m:Str}{st:Stmt}{t c f:Nat}(l:K.lookup f=some (kF st x m t c))(cd:PySem.W.codeIn K (.ref c) x=true)(k:PySem.W.keepIn K (.ref f)=true):AL K x x st f (PK st x m t c):=K3 l cd k
def bM {K:PySem.W.Frag}{h:Heap}{mg:Str->Option Y1}{x m:Str}{st:Stmt}{t c f:Nat}{ps:List Str}(X:K.In h)(G:h.Ns aaL mg)(l:K.lookup f=some (kF st x m t c))(cd:PySem.W.codeIn K (.ref c) x=true)(k:PySem.W.keepIn K (.ref f)=true)
  (a:PySem.W.nsIn K aaL x=some (some (.ref f))) (b:∀us:List Y1,us.length=ps.length->bindArgs (PK st x m t c) {us,[]}=pure (ps.zip us)):Df K mg x st ps f (PK st x m t c):={C6 l cd k,.all b,PySem.W.mg_of X G a}
abbrev cX (i:Nat):Addr:=[37,49,61,73,85,97,109,121,133,145,157,169].getD i 0
def all_mk {l:PySem.W.OpenLaw} (w:Zj) (mg:Str->Option Y1) (fa:Addr) (h:Heap) (X:(KK w.params).In h) (G:h.Ns aaL mg) (Xg:mg "law" = some (.ref fa))   :∃fd:ZL,(∀(s:Y4) (v:Y1),BindsTo s fd {[v],[]} [("script",v)])/\∀base:Heap,(KK w.params).In base->base.Ns aaL mg->aE l.prog w (KK w.params) mg base bI 45 fa fd ["script"] (Bj (KK w.params)):=by
 have e:=Xg.symm.trans (PySem.W.mg_of X G (v:=.ref 355) (by kernel_rfl))
 cases e;have Nd:=PySem.W.mg_none_of X G (n:="max") (by kernel_rfl)
 have Nc:=PySem.W.mg_none_of X G (n:="min") (by kernel_rfl)
 have Ng:=PySem.W.mg_none_of X G (n:="int") (by kernel_rfl)
 have FR:=PySem.W.mg_none_of X G (n:="range") (by kernel_rfl)
 have Cj:=PySem.W.mg_none_of X G (n:="sorted") (by kernel_rfl)
 have Nb:=PySem.W.mg_none_of X G (n:="set") (by kernel_rfl)
 have Nf:=PySem.W.mg_none_of X G (n:="len") (by kernel_rfl)
 have JV:=PySem.W.mg_none_of X G (n:="list") (by kernel_rfl)
 have rS:=PySem.W.mg_none_of X G (n:="isinstance") (by kernel_rfl)
 have FQ:=PySem.W.mg_none_of X G (n:="tuple") (by kernel_rfl)
 have Na:=PySem.W.mg_none_of X G (n:="str") (by kernel_rfl)
 have JW:=PySem.W.mg_none_of X G (n:="bool") (by kernel_rfl)
 have M9:=PySem.W.mg_none_of X G (n:="zip") (by kernel_rfl)
 have t7:=PySem.W.mg_none_of X G (n:="enumerate") (by kernel_rfl)
 have M_:=PySem.W.mg_none_of X G (n:="sum") (by kernel_rfl)
 have Nh:=PySem.W.mg_none_of X G (n:="any") (by kernel_rfl)
 have rT:=PySem.W.mg_none_of X G (n:="ValueError") (by kernel_rfl)
 have B:=({({{{(Nd),Nc,Ng,FR,Cj,Nb,Nf,JV},rS,FQ,Na,JW,M9,t7},M_}:Bs3 mg),Nh}:Em mg);have ZA:XA (KK w.params) mg 24 cX:=L_ (by kernel_rfl) (PySem.W.mg_of X G (v:=.ref 24) (by kernel_rfl)) λi x h=>by
  match i,h with
  |0,h=>cases h;exact PySem.W.mg_of X G (v:=.ref 37) (by kernel_rfl)
  |1,h=>cases h;exact PySem.W.mg_of X G (v:=.ref 49) (by kernel_rfl)
  |2,h=>cases h;exact PySem.W.mg_of X G (v:=.ref 61) (by kernel_rfl)
  |3,h=>cases h;exact PySem.W.mg_of X G (v:=.ref 73) (by kernel_rfl)
  |4,h=>cases h;exact PySem.W.mg_of X G (v:=.ref 85) (by kernel_rfl)
  |5,h=>cases h;exact PySem.W.mg_of X G (v:=.ref 97) (by kernel_rfl)
  |6,h=>cases h;exact PySem.W.mg_of X G (v:=.ref 109) (by kernel_rfl)
  |7,h=>cases h;exact PySem.W.mg_of X G (v:=.ref 121) (by kernel_rfl)
  |8,h=>cases h;exact PySem.W.mg_of X G (v:=.ref 133) (by kernel_rfl)
  |9,h=>cases h;exact PySem.W.mg_of X G (v:=.ref 145) (by kernel_rfl)
  |10,h=>cases h;exact PySem.W.mg_of X G (v:=.ref 157) (by kernel_rfl)
  |11,h=>cases h;exact PySem.W.mg_of X G (v:=.ref 169) (by kernel_rfl)
  |n+12,h=>cases h
 exact⟨_,λs v=>.of_eq rfl,λbase _ _=>JJ (C6 (x:="law") (m:="law_archrow_k18_weights_refused") (st:=mY) (t:=552) (c:=354) (f:=355) (by kernel_rfl) (by kernel_rfl) (by kernel_rfl)) B rT ZA (bM X G (x:="_law_right") (m:="law_archrow_k18_weights_refused") (st:=fw) (t:=552) (c:=347) (f:=348) (ps:=["row","weights","numbers"]) (by kernel_rfl) (by kernel_rfl) (by kernel_rfl) (by kernel_rfl) (zC λ_ _ _=>rfl))
  (bM X G (x:="_law_copied") (m:="law_archrow_k18_weights_refused") (st:=eM) (t:=552) (c:=314) (f:=315) (ps:=["row"]) (by kernel_rfl) (by kernel_rfl) (by kernel_rfl) (by kernel_rfl) (zD λ_=>rfl))
  (bM X G (x:="_law_due") (m:="law_archrow_k18_weights_refused") (st:=iO) (t:=552) (c:=342) (f:=343) (ps:=["asked","row","weights","more"]) (by kernel_rfl) (by kernel_rfl) (by kernel_rfl) (by kernel_rfl) (F0 λ_ _ _ _=>rfl))
  (bM X G (x:="_law_word") (m:="law_archrow_k18_weights_refused") (st:=gv) (t:=552) (c:=335) (f:=336) (ps:=["asked","row","weights","more"]) (by kernel_rfl) (by kernel_rfl) (by kernel_rfl) (by kernel_rfl) (F0 λ_ _ _ _=>rfl))
  (bM X G (x:="_law_kind") (m:="law_archrow_k18_weights_refused") (st:=gw) (t:=552) (c:=328) (f:=329) (ps:=["caught"]) (by kernel_rfl) (by kernel_rfl) (by kernel_rfl) (by kernel_rfl) (zD λ_=>rfl))
  (bM X G (x:="heaviest_of") (m:="archrow.weights") (st:=cO) (t:=480) (c:=238) (f:=239) (ps:=["row","weights","many"]) (by kernel_rfl) (by kernel_rfl) (by kernel_rfl) (by kernel_rfl) (zC λ_ _ _=>rfl))
  (bM X G (x:="greatest_weights") (m:="archrow.weights") (st:=bE) (t:=480) (c:=243) (f:=244) (ps:=["row","weights"]) (by kernel_rfl) (by kernel_rfl) (by kernel_rfl) (by kernel_rfl) (k6 λ_ _=>rfl))
  (bM X G (x:="weights_show") (m:="archrow.weights") (st:=cj) (t:=480) (c:=250) (f:=251) (ps:=["row","weights","paper"]) (by kernel_rfl) (by kernel_rfl) (by kernel_rfl) (by kernel_rfl) (zC λ_ _ _=>rfl))
  (bM X G (x:="heaviest") (m:="archrow.weights") (st:=e9) (t:=480) (c:=231) (f:=232) (ps:=["row","weights"]) (by kernel_rfl) (by kernel_rfl) (by kernel_rfl) (by kernel_rfl) (k6 λ_ _=>rfl))
  (bM X G (x:="check_weights") (m:="archrow.weights") (st:=b5) (t:=480) (c:=257) (f:=258) (ps:=["row","weights"]) (by kernel_rfl) (by kernel_rfl) (by kernel_rfl) (by kernel_rfl) (k6 λ_ _=>rfl))
  (bM X G (x:="weight_by_tie") (m:="archrow.weights") (st:=cZ) (t:=480) (c:=262) (f:=263) (ps:=["row","weights"]) (by kernel_rfl) (by kernel_rfl) (by kernel_rfl) (by kernel_rfl) (k6 λ_ _=>rfl))
  (bM X G (x:="greatest_table") (m:="archrow.stretches") (st:=cC) (t:=399) (c:=197) (f:=198) (ps:=["row","worth"]) (by kernel_rfl) (by kernel_rfl) (by kernel_rfl) (by kernel_rfl) (k6 λ_ _=>rfl))
  (bM X G (x:="partners_of") (m:="archrow.stretches") (st:=dS) (t:=399) (c:=180) (f:=181) (ps:=["row"]) (by kernel_rfl) (by kernel_rfl) (by kernel_rfl) (by kernel_rfl) (zD λ_=>rfl))
  (bM X G (x:="stretches_rising") (m:="archrow.stretches") (st:=bW) (t:=399) (c:=175) (f:=176) (ps:=["many"]) (by kernel_rfl) (by kernel_rfl) (by kernel_rfl) (by kernel_rfl) (zD λ_=>rfl))
  (bM X G (x:="least_number") (m:="archrow.stretches") (st:=dw) (t:=399) (c:=214) (f:=215) (ps:=["partners","worth","table","i","j"]) (by kernel_rfl) (by kernel_rfl) (by kernel_rfl) (by kernel_rfl) (FZ λ_ _ _ _ _=>rfl))
  (bM X G (x:="number_with") (m:="archrow.stretches") (st:=dW) (t:=399) (c:=209) (f:=210) (ps:=["worth","table","i","k","j"]) (by kernel_rfl) (by kernel_rfl) (by kernel_rfl) (by kernel_rfl) (FZ λ_ _ _ _ _=>rfl))
  (bM X G (x:="first_greatest") (m:="archrow.stretches") (st:=cD) (t:=399) (c:=226) (f:=227) (ps:=["row","worth","table","i","j"]) (by kernel_rfl) (by kernel_rfl) (by kernel_rfl) (by kernel_rfl) (FZ λ_ _ _ _ _=>rfl))
  (bM X G (x:="best_choices") (m:="archrow.stretches") (st:=dy) (t:=399) (c:=219) (f:=220) (ps:=["partners","worth","table","i","j"]) (by kernel_rfl) (by kernel_rfl) (by kernel_rfl) (by kernel_rfl) (FZ λ_ _ _ _ _=>rfl))
  (bM X G (x:="parts_left") (m:="archrow.stretches") (st:=eJ) (t:=399) (c:=187) (f:=188) (ps:=["i","k","j"]) (by kernel_rfl) (by kernel_rfl) (by kernel_rfl) (by kernel_rfl) (zC λ_ _ _=>rfl))
  (bM X G (x:="best_by_size") (m:="archrow.weights") (st:=dz) (t:=480) (c:=267) (f:=268) (ps:=["row","weights"]) (by kernel_rfl) (by kernel_rfl) (by kernel_rfl) (by kernel_rfl) (k6 λ_ _=>rfl))
  (bM X G (x:="put_better") (m:="archrow.weights") (st:=eI) (t:=480) (c:=279) (f:=280) (ps:=["best","sets"]) (by kernel_rfl) (by kernel_rfl) (by kernel_rfl) (by kernel_rfl) (k6 λ_ _=>rfl))
  (bM X G (x:="sets_with") (m:="archrow.weights") (st:=fv) (t:=480) (c:=272) (f:=273) (ps:=["tie","by_tie","beneath","behind"]) (by kernel_rfl) (by kernel_rfl) (by kernel_rfl) (by kernel_rfl) (F0 λ_ _ _ _=>rfl))
  (bM X G (x:="paper_holds") (m:="archrow.stretches") (st:=dU) (t:=399) (c:=202) (f:=203) (ps:=["row","worth","paper"]) (by kernel_rfl) (by kernel_rfl) (by kernel_rfl) (by kernel_rfl) (zC λ_ _ _=>rfl))
  (bM X G (x:="has_shape") (m:="archrow.stretches") (st:=fx) (t:=399) (c:=192) (f:=193) (ps:=["paper","many"]) (by kernel_rfl) (by kernel_rfl) (by kernel_rfl) (by kernel_rfl) (k6 λ_ _=>rfl))
  (bM X G (x:="_law_cell_at") (m:="law_archrow_k18_weights_refused") (st:=dY) (t:=552) (c:=286) (f:=287) (ps:=["script","k"]) (by kernel_rfl) (by kernel_rfl) (by kernel_rfl) (by kernel_rfl) (k6 λ_ _=>rfl))
  (bM X G (x:="_law_deck") (m:="law_archrow_k18_weights_refused") (st:=eZ) (t:=552) (c:=293) (f:=294) (ps:=["cell"]) (by kernel_rfl) (by kernel_rfl) (by kernel_rfl) (by kernel_rfl) (zD λ_=>rfl))
  (bM X G (x:="_law_take") (m:="law_archrow_k18_weights_refused") (st:=eY) (t:=552) (c:=300) (f:=301) (ps:=["deck","many"]) (by kernel_rfl) (by kernel_rfl) (by kernel_rfl) (by kernel_rfl) (k6 λ_ _=>rfl))
  (bM X G (x:="_law_row") (m:="law_archrow_k18_weights_refused") (st:=iN) (t:=552) (c:=307) (f:=308) (ps:=["deck","most"]) (by kernel_rfl) (by kernel_rfl) (by kernel_rfl) (by kernel_rfl) (k6 λ_ _=>rfl))
  (bM X G (x:="_law_weights") (m:="law_archrow_k18_weights_refused") (st:=dX) (t:=552) (c:=321) (f:=322) (ps:=["deck","many"]) (by kernel_rfl) (by kernel_rfl) (by kernel_rfl) (by kernel_rfl) (k6 λ_ _=>rfl))⟩
end hJ
abbrev PySem.W.Fast.tw6861805815206744809:PySem.Program:=PySem.Challenge.pw_archrow_k18_weights_refused
def PySem.W.Fast.te6861805815206744809:PySem.Challenge.pw_archrow_k18_weights_refused=PySem.W.Fast.tw6861805815206744809:=rfl
open PySem PySem.W PyProof.Rows
set_option maxRecDepth 100000 in
set_option maxHeartbeats 0 in
theorem PySem.Challenge.cw_archrow_k18_weights_refused_holds : PySem.Challenge.rw_archrow_k18_weights_refused.Holds := by
 w_on;o_law
 refine holds_open (q:=hJ.view) (loose:=[]) (Xt:=λs=>xlAt hJ.view [] s&&recOk (RowW.records PySem.Challenge.rw_archrow_k18_weights_refused.row.toRowW) s) (XP:=XL hJ.view []) (Yf:=hJ.HK.obs) (Ya:=hJ.HK.val) (YP:=λw h=>(hJ.KK w.params).In h) (N:=7476) hJ.left hJ.HK.of hJ.HK.keeps (λs e=>xl_of s (Bool.and_eq_true_iff.mp e).1) XL.keeps (by rfl) (by rfl) (by rfl) (λs e=>recFacts_of (Bool.and_eq_true_iff.mp e).2) (by rfl) (by first|assumption|decide +kernel) (by decide +kernel) {rfl,rfl,rfl,rfl,rfl,by decide +kernel} ?hw ?hc
 (case hw=>w_witness2)
 case hc =>
  exact L2.Es (l:=PySem.Challenge.rw_archrow_k18_weights_refused) (K:=hJ.KK) (n:=63) (k:=45) (x:="script") (CX:=λ_=>L2.bI) (sp:=λw=>hJ.Bj (hJ.KK w.params)) rfl (by decide) rfl {rfl,by decide,by decide} (λw h Y=>Y) hJ.all_mk (λ_ _ a ns hl _ hS=>{a,ns,rfl,hS,hl,λ_=>rfl}) λ_ _ _ _ _ z=>z
#print axioms PySem.Challenge.cw_archrow_k18_weights_refused_holds
