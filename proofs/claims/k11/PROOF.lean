import PyProof.Rows.All
import Wide.All
import OpenK.AllK
import Wide.FinOn
import Lean
import PyProof.EqAt
import PyProof.EqKinds
import PyProof.TupleCall
import PyProof.Rows.SortShell
import PyProof.Rows.SortWalk
import PyProof.CompFree
import PyProof.Rows.SortRuns
import PyProof.EqLayable
import PyProof.NeData
import PyProof.P3In
import PyProof.ZipIter
import PyProof.EnumMake
import PyProof.EnumFor
import PyProof.Rows.Range3
import PyProof.AttrMissSeq
import KE.KDictOf
import KE.KTryMore
import PyProof.NsDelKeeps
import PyProof.ExcBaseAll.ValueError
import PyProof.Rows.SeqMore
import PyProof.ConsumeWalk
import PyProof.Rows.SeqMore2
import PyProof.Rows.CountFlat
import PySem.Challenge.RW_archrow_k11_no_stretches
set_option Elab.async false
set_option linter.all false
set_option maxRecDepth 100000
set_option maxHeartbeats 4000000
set_option compiler.extract_closed false
open PySem renaming Value->QZ,wpAny_bind->Q0,Shared->Q1,Program->Q6,wpAny_pure->Q_,starEach->Rc,sizeLine->Ri,World->Rl,wpAny->RA,FuncData->RY,Around->R7,sizeLine_eq->Sd,foldedSetIterable->Se,bootBuiltins->Si,wpAny_holding->Sj,compareOp->Sk,backTo->SF,wpAny_setState_of->SM,mainGlobals->S1,Builtin->S4,attributeBase->S5,sliceBounds->S8,assignEach->S9,wpAny_passesOwn->Ta,wpAny_standAt->Tb,swapsWith->Tc,behindInMarks->Td,wpAny_truthy_bool->Tf,binaryOp->Tq,wpAny_call_entry->Tv,codeAny_mono->Tw,Comprehension->TM,Keyword->TN,wpAny_mono->TQ,Scope->TU,wpAny_newObj_type->TY,wpAny_rule->T_,sysModules->Ua,keywordEach->Ue,NameKind->Uh,wpAny_execs_nil->Ui,codeAny_builtin->Uj,cLine->Um,codeAny->Up,wpAny_Call_Name_kw->Uq,CmpOp->Uu,wpAny_attempt->UB,wpAny_askSetting->UI,tupleKind->UJ,checkBuiltinCall->UK,wpAny_call->UP,standAt->UQ,letOwnedTupleGo->UX,codeAny_call_builtin->U_,backToKw->Va,wpAny_setEntries_of->Vi,pyNext->Vo,pyIter->Vp,call_meets->Vq,valueAt->Vv,slot_list_getitem->Vw,callerA->Vx,wpAny_forIn_list->VF,isTrue->VG,PassesOwn->VH,wpAny_of_eq->VM,Model->VP,IsRangeIter->VQ,wpAny_loadPart'->VR,codeAny_of_tree->VS,isSubtype_type->VW,atKey->VX
open List renaming length_map->Q3,mem_cons->Ra,getElem?_eq_getElem->Rf,mem_singleton->Rk,getElem?_map->Rn,length_cons->Rq,mem_cons_of_mem->Rt,mem_cons_self->Ru,getElem?_eq_some_iff->Rw,mem_append->Rx,size_toArray->Ry,range->Rz,length_take->RL,nodup_cons->RM,map_cons->RN,map_append->RS,length_append->RT,filterMap_cons->RU,mem_append_right->RX,mem_map->R5,append_assoc->R8,getElem?_append_right->R9,drop_eq_getElem_cons->R_,nodup_nil->Sf,length_range->Sg,mem_append_left->Sh,mem_range->So,append_nil->Sr,lookup_cons->Ss,getElem?_append_left->Su,nodup_append->Sw,getElem?_eq_none->Sz,find?_cons->SD,mem_of_getElem?->SE,map_congr_left->SG,mem_filter->SH,getElem?_range->SO,take_of_length_le->SS,map_map->SU,pairwise_cons->SW,getD_eq_getElem?_getD->SX,take_append_drop->S0,all_eq_true->S7,take_add_one->Ti,pairwise_map->Tj,getElem?_set->Tn,ext_getElem?->To,replicate->Tt,not_mem_nil->Tx,getElem_mem->Tz,getElem?_take_of_lt->TJ,mem_filterMap->TR,getElem?_cons_succ->TV,length_singleton->T7,length_filter_le->T8,reverse_append->Uo,zip_cons_cons->Us,getElem?_drop->Ut,pairwise_iff_getElem->Uw,extract_eq_take_drop->Ux,reverse_cons->Uz,take_length->UM,perm_middle->UN,length_drop->UO,drop_of_length_le->UU,range_succ->UZ,of_mem_zip->U0,foldl_cons->U1,getElem?_toArray->U5,filterMap_append->U6,getElem?_set_ne->Vc,getElem?_of_mem->Vd,flatMap_append->Vj,map_take->Vn,filter_append->Vt,zip_nil_left->VC,filter_cons->VJ,take_succ->VY
open Nat renaming le_refl->Q4,zero_le->Rr,lt_of_lt_of_le->RF,ne_of_lt->RQ,le_trans->R6,lt_or_ge->Sm,zero_add->S_,lt_irrefl->Te,lt_succ_of_lt->T4,pow_le_pow_right->Ug,mod_lt->Ur,sub_self->US,pow_succ->UT,pow_pos->Vb,eq_zero_or_pos->Vs,lt_trichotomy->VB,mod_eq_of_lt->VI,mod_mul->VO,not_lt_zero->VT
open PyProof.Rows renaming Keyed->Q5,wpS_bind->Rb,wpS_pure->Rh,pendingOf->Rv,SortSt->RD,arrOf->RK,wpS_forRange->Sa,setArr->Sl,wpS_mono->SJ,seqObj->S6,callWith_type1->Th,wpS_modify->Tp,SortKind->TF,failedOf->TZ,setPending->Ub,wpS_get->Uy,AllBare->UA,envOfC->UC,IntsAre->UW,wpS_lift->U9
open PySem.Heap renaming get?_push_of_some->Q8,lt_size->Rj,get?_push_size->RV,SameBut->S3,FlyingW->T5,size_push->Ve
open Array renaming length_toList->Q9,getElem?_toList->Rm,getD_eq_getD_getElem?->Ro,toList_append->Sv,toList_push->SN,getElem?_eq_none->SV,perm_iff_toList_perm->Tu,size_setIfInBounds->UH,getElem?_setIfInBounds_self_of_lt->U8,toList_extract->Vf,getElem?_setIfInBounds_ne->VE,toList_zip->VL,size_zip->V1,size_map->V2
open Option.some renaming inj->RC,injEq->VA
open Option renaming map_eq_some_iff->RE,bind_eq_some_iff->RW,bind_some->Uc,map_some->UY,isNone_iff_eq_none->V3
open Bool renaming and_eq_true->RZ,false_ne_true->SI,not_eq_true'->T6,eq_iff_iff->Ul,false_eq_true->Uv,not_eq_false'->Vu
open Decidable renaming by_contra->R1
open PySem.NameKind renaming free->R4,cell->TH
open PySem.PassesOwn renaming never->SA
open PySem.PyData renaming canLay0->SK,eqv->Tr,canLayAll0->T3,depthAll->Uk,eqvAll->UD
open False renaming elim->SY
open PySem.Obj renaming mapSeq->Ts,putSet->Vr
open Classical renaming byContradiction->TC
open PySem.Builtin.Range renaming rangeSize->TX
open Ne renaming symm->Ud
open PySem.Code renaming compLoop->UE,compStart->VZ
open PySem.Builtin.List renaming listTooLong->UG,listLengthHint->VV
open PySem.SeqAt renaming canLay_of_shaped->UL
open Nat.succ renaming inj->UR
open List.Perm renaming of_eq->U3,append_left->U7
open ForInStep renaming yield->U4
open PySem.Around renaming under_plainId->Vg
open Sum renaming inl->Vh,inr->Vz
open Int renaming toNat_of_nonneg->Vk,toNat_natCast->VD
open PySem.Heap.SameBut renaming update->Vl
open PySem.Value renaming builtin->Vm,isInt_shape->Vy,isInt->VN
open Array.Perm renaming refl->VU
open PySem.Calls renaming Name_function_global->V0,call_function_entry->V4
noncomputable section
namespace L2
open PySem PySem.Spec PyProof.Rows
def i3 (s:Stmt):Arguments:=match s with
 |.FunctionDef _ a _ _ _ _ _ _ _ _=>a
 |_=>{posonlyargs:=[],args:=[],vararg:=none,kwonlyargs:=[],kw_defaults:=[],kwarg:=none,defaults:=[]}
def cV (s:Stmt):List Stmt:=match s with
 |.FunctionDef _ _ b _ _ _ _ _ _ _=>b
 |_=>[]
def au (s:Stmt):TU:=match s with
 |.FunctionDef _ _ _ _ _ _ sc _ _ _=>sc
 |_=>{kind:=.function,names:=[],isGenerator:=false,isCoroutine:=false}
end L2
namespace kJ
open PySem L2
def top (i:Nat):Stmt:=PySem.Challenge.pw_archrow_k11_no_stretches.main.body.getD i (.Pass ⟨0,0,0,0⟩)
abbrev bt:Stmt:=top 15
abbrev cn:Stmt:=top 16
abbrev cR:Stmt:=top 17
abbrev bC:Stmt:=top 18
abbrev cq:Stmt:=top 19
abbrev bX:Stmt:=top 20
abbrev bY:Stmt:=top 21
abbrev bD:Stmt:=top 22
abbrev dM:Stmt:=top 24
abbrev dY:Stmt:=top 25
abbrev dZ:Stmt:=top 26
abbrev c7:Stmt:=top 28
abbrev c6:Stmt:=top 29
abbrev d7:Stmt:=top 30
abbrev d3:Stmt:=top 31
abbrev fx:Stmt:=top 32
abbrev d6:Stmt:=top 33
abbrev cS:Stmt:=top 34
abbrev d4:Stmt:=top 35
abbrev jv:Stmt:=top 36
abbrev vS (x:Str)(t:Nat):QZ:=.str x t
abbrev kE (P:Params)(x:Str)(t:Nat)(v:QZ):DictEntry:=⟨PyData.keyHash P x,.str x t,v⟩
abbrev kC (n:Str)(t l p r8 OX OA:Nat)(N4 N3 N2:QZ)(Oz OW Od:Nat):Obj:={cls:=.type "code",data:=.fields #[vS n t,vS n (t+1),vS "/claim/cut.py" (t+2),.int l 0,.int p 0,.int 0 0,.int 0 0,.int 3 0,.ref r8,.bool true,.int OX 0,.ref OA,N4,N3,N2,.ref Oz,.int OW 0,.int l 0,vS "/claim/cut.py" Od]}
abbrev Jf (st:Stmt)(x m:Str)(t c:Nat):RY:=PySem.W.fnOf x x (i3 st) (cV st) (au st) .none .none .none (vS m t) none (.ref c) .none
abbrev kF (st:Stmt)(x m:Str)(t c:Nat):Obj:={cls:=.type "function",data:=.func (Jf st x m t c)}
abbrev kX (x:Str)(a A t:Nat):Obj:={cls:=.type "type",data:=.cls {name:=x,bases:=[.ref A],mro:=[.ref a,.ref A,.type "ValueError",.type "Exception",.type "BaseException",.type "object"],ns:=a-1,qualname:=x},slots:=#[some (.ref (a-9)),none,some (vS x t),some (vS x (t+8)),some (.builtin "ValueError.__new__"),some (.bool true)]}
abbrev kN (P:Params)(a t m l:Nat):Obj:={cls:=.type "dict",data:=.dict #[kE P "__module__" (t+7) (vS "archrow.errors" m),kE P "__firstlineno__" (t+11) (.int l (t+10)),kE P "__static_attributes__" (t+12) (.ref (a-2)),kE P "__doc__" (t+13) .none] 2}
def KK:Params->PySem.W.Frag:=λP=>[(3,{cls:=.type "dict",data:=.dict #[kE P "__name__" 165 (vS "law_archrow_k11_no_stretches" 493),kE P "__doc__" 166 .none,kE P "__package__" 167 .none,kE P "__loader__" 168 (.builtin "__main__.__loader__#opaque"),kE P "__spec__" 169 .none,kE P "__annotations__" 170 (.ref 6),kE P "__builtins__" 171 (.ref 4),kE P "__file__" 173 (vS "/claim/cut.py" 172),kE P "__cached__" 174 .none,kE P "ArchError" 206 (.ref 24),kE P "NoRow" 222 (.ref 37),kE P "NoTie" 238 (.ref 49),kE P "NoStretch" 254 (.ref 61),kE P "NoWeights" 270 (.ref 73),kE P "NoNumber" 286 (.ref 85),kE P "NoSet" 302 (.ref 97),kE P "NoGap" 318 (.ref 109),kE P "NoPlace" 334 (.ref 121),kE P "NoShape" 350 (.ref 133),kE P "NoText" 366 (.ref 145),kE P "NoForm" 382 (.ref 157),kE P "NoneYet" 398 (.ref 169),kE P "stretches_rising" 406 (.ref 176),kE P "partners_of" 412 (.ref 181),kE P "parts_left" 421 (.ref 188),kE P "greatest_table" 427 (.ref 193),kE P "number_with" 438 (.ref 200),kE P "least_number" 444 (.ref 205),kE P "best_choices" 450 (.ref 210),kE P "first_greatest" 467 (.ref 217),kE P "most_of" 479 (.ref 224),kE P "table_of" 486 (.ref 231),kE P "one_each" 492 (.ref 236),kE P "_law_hand" 501 (.ref 243),kE P "_law_take" 510 (.ref 250),kE P "_law_arcs" 522 (.ref 257),kE P "_law_ties" 528 (.ref 262),kE P "_law_row" 536 (.ref 269),kE P "_law_kind" 545 (.ref 276),kE P "_law_copied" 552 (.ref 283),kE P "_law_said" 564 (.ref 290),kE P "law" 580 (.ref 297)] 42}),
 (175,kC "stretches_rising" 401 29 1 172 181 173 .none .none .none 174 404 405),
 (176,kF bt "stretches_rising" "archrow.stretches" 399 175),
 (180,kC "partners_of" 407 31 1 177 181 178 .none .none .none 179 410 411),
 (181,kF cn "partners_of" "archrow.stretches" 399 180),
 (187,kC "parts_left" 413 37 3 182 181 183 .none (.ref 184) (.ref 185) 186 419 420),
 (188,kF cR "parts_left" "archrow.stretches" 399 187),
 (192,kC "greatest_table" 422 41 2 189 181 190 .none .none .none 191 425 426),
 (193,kF bC "greatest_table" "archrow.stretches" 399 192),
 (199,kC "number_with" 428 48 5 194 181 195 .none (.ref 196) (.ref 197) 198 436 437),
 (200,kF cq "number_with" "archrow.stretches" 399 199),
 (204,kC "least_number" 439 50 5 201 181 202 .none .none .none 203 442 443),
 (205,kF bX "least_number" "archrow.stretches" 399 204),
 (209,kC "best_choices" 445 53 5 206 181 207 .none .none .none 208 448 449),
 (210,kF bY "best_choices" "archrow.stretches" 399 209),
 (216,kC "first_greatest" 451 59 5 211 181 212 .none (.ref 213) (.ref 214) 215 465 466),
 (217,kF bD "first_greatest" "archrow.stretches" 399 216),
 (223,kC "most_of" 470 72 3 218 181 219 .none (.ref 220) (.ref 221) 222 477 478),
 (224,kF dM "most_of" "archrow.kept" 468 223),
 (230,kC "table_of" 480 77 1 225 181 226 .none (.ref 227) (.ref 228) 229 484 485),
 (231,kF dY "table_of" "archrow.kept" 468 230),
 (235,kC "one_each" 487 79 1 232 181 233 .none .none .none 234 490 491),
 (236,kF dZ "one_each" "archrow.kept" 468 235),
 (242,kC "_law_hand" 495 82 1 237 181 238 .none (.ref 239) (.ref 240) 241 499 500),
 (243,kF c7 "_law_hand" "law_archrow_k11_no_stretches" 493 242),
 (249,kC "_law_take" 502 84 2 244 181 245 .none (.ref 246) (.ref 247) 248 508 509),
 (250,kF c6 "_law_take" "law_archrow_k11_no_stretches" 493 249),
 (256,kC "_law_arcs" 511 91 2 251 181 252 .none (.ref 253) (.ref 254) 255 520 521),
 (257,kF d7 "_law_arcs" "law_archrow_k11_no_stretches" 493 256),
 (261,kC "_law_ties" 523 101 2 258 181 259 .none .none .none 260 526 527),
 (262,kF d3 "_law_ties" "law_archrow_k11_no_stretches" 493 261),
 (268,kC "_law_row" 529 123 1 263 181 264 .none (.ref 265) (.ref 266) 267 534 535),
 (269,kF fx "_law_row" "law_archrow_k11_no_stretches" 493 268),
 (275,kC "_law_kind" 537 128 1 270 181 271 .none (.ref 272) (.ref 273) 274 543 544),
 (276,kF d6 "_law_kind" "law_archrow_k11_no_stretches" 493 275),
 (282,kC "_law_copied" 546 136 1 277 181 278 .none (.ref 279) (.ref 280) 281 550 551),
 (283,kF cS "_law_copied" "law_archrow_k11_no_stretches" 493 282),
 (289,kC "_law_said" 553 138 3 284 181 285 .none (.ref 286) (.ref 287) 288 562 563),
 (290,kF d4 "_law_said" "law_archrow_k11_no_stretches" 493 289),
 (296,kC "law" 565 148 1 291 181 292 .none (.ref 293) (.ref 294) 295 578 579),
 (297,kF jv "law" "law_archrow_k11_no_stretches" 493 296),
 (24,{cls:=.type "type",data:=.cls {name:="ArchError",bases:=[(.type "ValueError")],mro:=[(.ref 24),(.type "ValueError"),(.type "Exception"),(.type "BaseException"),(.type "object")],ns:=23,qualname:="ArchError",subclasses:=[(.ref 37),(.ref 49),(.ref 61),(.ref 73),(.ref 85),(.ref 97),(.ref 109),(.ref 121),(.ref 133),(.ref 145),(.ref 157),(.ref 169)]},slots:=#[some ((.ref 15)),none,some ((vS "ArchError" 189)),some ((vS "ArchError" 197)),some ((.builtin "ValueError.__new__")),some (.bool true)]}),
 (23,{cls:=.type "dict",data:=.dict #[kE P "__module__" 196 (vS "archrow.errors" 187),kE P "__firstlineno__" 200 (.int 2 199),kE P "__static_attributes__" 201 (.ref 22),kE P "__weakref__" 203 (.ref 25),kE P "__doc__" 204 .none] 3}),
 (37,kX "NoRow" 37 24 207),
 (36,kN P 37 207 187 4),
 (49,kX "NoTie" 49 24 223),
 (48,kN P 49 223 187 6),
 (61,kX "NoStretch" 61 24 239),
 (60,kN P 61 239 187 8),
 (73,kX "NoWeights" 73 24 255),
 (72,kN P 73 255 187 10),
 (85,kX "NoNumber" 85 24 271),
 (84,kN P 85 271 187 12),
 (97,kX "NoSet" 97 24 287),
 (96,kN P 97 287 187 14),
 (109,kX "NoGap" 109 24 303),
 (108,kN P 109 303 187 16),
 (121,kX "NoPlace" 121 24 319),
 (120,kN P 121 319 187 18),
 (133,kX "NoShape" 133 24 335),
 (132,kN P 133 335 187 20),
 (145,kX "NoText" 145 24 351),
 (144,kN P 145 351 187 22),
 (157,kX "NoForm" 157 24 367),
 (156,kN P 157 367 187 24),
 (169,kX "NoneYet" 169 24 383),
 (168,kN P 169 383 187 26)]
abbrev HK:PySem.W.Hook:=PySem.W.kHook KK [3,175,176,180,181,187,188,192,193,199,200,204,205,209,210,216,217,223,224,230,231,235,236,242,243,249,250,256,257,261,262,268,269,275,276,282,283,289,290,296,297,24,23,37,36,49,48,61,60,73,72,85,84,97,96,109,108,121,120,133,132,145,144,157,156,169,168] (λ_=>by kernel_rfl)
def view:Q6:={PySem.Challenge.pw_archrow_k11_no_stretches with main:={PySem.Challenge.pw_archrow_k11_no_stretches.main with body:=[top 1,top 2,top 3,top 4,top 5,top 6,top 7,top 8,top 9,top 10,top 11,top 12,top 13,top 15,top 16,top 17,top 18,top 19,top 20,top 21,top 22,top 24,top 25,top 26,top 28,top 29,top 30,top 31,top 32,top 33,top 34,top 35,top 36]}}
theorem left:PySem.W.LeftO PySem.Challenge.pw_archrow_k11_no_stretches view [] (λs=>PySem.W.xlAt view [] s&&PySem.W.recOk (PySem.W.RowW.records PySem.Challenge.rw_archrow_k11_no_stretches.row.toRowW) s) HK.obs HK.val 6886:=λw=>by kernel_rfl
end kJ
namespace L2
open PySem PySem.Spec PyProof.Rows
abbrev Key:=Sum Int Str
def lJ:Key->QZ->Bool
 |.inl k,v=>VN k v
 |.inr x,v=>Value.isStrOf x v
def KO (w:Rl):Key->Int
 |.inl k=>hashInt k
 |.inr x=>hashStr w x
theorem bg:∀{k:Key} {v:QZ},lJ k v=true->(∃i t,k=Vh i/\v=Value.int i t)\/(∃x t,k=Vz x/\v=Value.str x t)
 |.inl i,v,h=>by
  obtain⟨t,e⟩:=Vy (k:=i) (v:=v) h;exact .inl ⟨i,t,rfl,e⟩
 |.inr x,v,h=>by
  obtain⟨t,e⟩:=Value.isStrOf_shape (x:=x) (v:=v) h;exact .inr ⟨x,t,rfl,e⟩
theorem uL (i:Int)(t:Tok):lJ (.inl i) (.int i t)=true:=by simp[lJ,VN]
theorem uK (x:Str)(t:Tok):lJ (.inr x) (.str x t)=true:=by simp[lJ,Value.isStrOf]
theorem Ek (a b:Int):decide ((Vh a:Key)=Vh b)=(a==b):=by
 by_cases e:a=b
 ·subst e;simp
 ·have h:¬ (Vh a:Key)=Vh b:=λq=>e (Sum.inl.inj q);rw[decide_eq_false h];exact(beq_eq_false_iff_ne.mpr e).symm
theorem Eg (a b:Str):decide ((Vz a:Key)=Vz b)=decide (a=b):=by
 by_cases e:a=b
 ·subst e;simp
 ·have h:¬ (Vz a:Key)=Vz b:=λq=>e (Sum.inr.inj q);rw[decide_eq_false h,decide_eq_false e]
theorem Ej (a:Int)(b:Str):decide ((Vh a:Key)=Vz b)=false:=decide_eq_false (λq=>nomatch q)
theorem Ei (a:Str)(b:Int):decide ((Vz a:Key)=Vh b)=false:=decide_eq_false (λq=>nomatch q)
def bE (prog:Q6)(w:Rl):PySem.KeyKind prog w Key where
 is:=lJ
 hash:=KO w
 inj:=λv a b ha hb=>by
  rcases bg ha with⟨i,t,rfl,rfl⟩|⟨x,t,rfl,rfl⟩
  ·rcases bg hb with⟨j,u,rfl,e⟩|⟨y,u,rfl,e⟩
   ·injection e with e1 _;rw[e1]
   ·exact nomatch e
  ·rcases bg hb with⟨j,u,rfl,e⟩|⟨y,u,rfl,e⟩
   ·exact nomatch e
   ·injection e with e1 _;rw[e1]
 byValue:=λk v h=>by
  rcases bg h with⟨i,t,rfl,rfl⟩|⟨x,t,rfl,rfl⟩ <;> rfl
 pyHash:=λhv h=>by
  rcases bg hv with⟨i,t,rfl,rfl⟩|⟨x,t,rfl,rfl⟩
  ·exact wpAny_pyHash_int h
  ·exact wpAny_pyHash_str h
 eqBool:=λhu hv h=>by
  rcases bg hu with⟨i,t,rfl,rfl⟩|⟨x,t,rfl,rfl⟩
  ·rcases bg hv with⟨j,u,rfl,rfl⟩|⟨y,u,rfl,rfl⟩
   ·rw[Ek]at h;exact wpAny_eqBool_int h
   ·rw[Ej]at h;exact SeqAt.EqAt.int_str i t y u _ _ _ _ h
  ·rcases bg hv with⟨j,u,rfl,rfl⟩|⟨y,u,rfl,rfl⟩
   ·rw[Ei]at h;exact SeqAt.EqAt.str_int x t j u _ _ _ _ h
   ·rw[Eg]at h;exact wpAny_eqBool_str h
 «strs»:=λk x t v h=>by
  rcases bg h with⟨i,u,rfl,e⟩|⟨y,u,rfl,e⟩
  ·exact nomatch e
  ·injection e with e1 _
   subst e1;cases v <;> rfl
theorem oA (prog:Q6)(w:Rl)(i:Int)(t:Tok):(bE prog w).is (.inl i) (.int i t)=true:=uL i t
theorem oz (prog:Q6)(w:Rl)(x:Str)(t:Tok):(bE prog w).is (.inr x) (.str x t)=true:=uK x t
inductive V where
 |bB|bl (b:Bool)|int (i:Int)|str (x:Str)|yM (b:Array UInt8)|L8 (b:UInt64)|ref (a:Addr)|ty (n:String)
 deriving DecidableEq
def RelV:V->QZ->Prop
 |.bB,u=>u=Value.none
 |.bl b,u=>u=Value.bool b
 |.int i,u=>∃t,u=Value.int i t
 |.str x,u=>∃t,u=Value.str x t
 |.yM b,u=>∃t,u=Value.bytes b t
 |.L8 b,u=>∃t,u=Value.float b t
 |.ref a,u=>u=Value.ref a
 |.ty n,u=>u=Value.type n
abbrev Vals:List V->List QZ->Prop:=Paired RelV
theorem Vals.length {xs:List V}{us:List QZ}(r:Vals xs us):xs.length=us.length:=Paired.length r
theorem Vals.get:∀{xs:List V} {us:List QZ} {i:Nat} {x:V},Vals xs us->xs[i]?=some x->∃u,us[i]?=some u/\RelV x u
 |_,_,_,_,.nil,e=>by simp at e
 |_,_,0,_,.cons r _,e=>by simp at e;subst e;exact⟨_,rfl,r⟩
 |_,_,i+1,x,.cons _ t,e=>by
  obtain⟨u,h1,h2⟩:=Vals.get (i:=i) (x:=x) t (by simpa using e)
  exact⟨u,by simpa using h1,h2⟩
theorem Vals.set {x:V}{u:QZ}(r:RelV x u):∀{xs:List V} {us:List QZ} (i:Nat),Vals xs us->Vals (xs.set i x) (us.set i u)
 |_,_,_,.nil=>.nil
 |_,_,0,.cons _ t=>.cons r t
 |_,_,i+1,.cons q t=>.cons q (Vals.set r i t)
theorem Vals.append:∀{xs ys:List V} {us ws:List QZ},Vals xs us->Vals ys ws->Vals (xs++ys) (us++ws)
 |_,_,_,_,.nil,s=>s
 |_,_,_,_,.cons r t,s=>.cons r (Vals.append t s)
theorem Vals.take:∀{xs:List V} {us:List QZ} (n:Nat),Vals xs us->Vals (xs.take n) (us.take n)
 |_,_,0,_=>.nil
 |_,_,_+1,.nil=>.nil
 |_,_,n+1,.cons r t=>.cons r (Vals.take n t)
theorem Vals.drop:∀{xs:List V} {us:List QZ} (n:Nat),Vals xs us->Vals (xs.drop n) (us.drop n)
 |_,_,0,r=>r
 |_,_,_+1,.nil=>.nil
 |_,_,n+1,.cons _ t=>Vals.drop n t
def lh:Option V->Option QZ->Prop
 |some v,some u=>RelV v u
 |none,none=>True
 |_,_=>False
def KV {κ:Type}:List (κ×V)->List (κ×QZ)->Prop:=Paired λ(p:κ×V) (q:κ×QZ)=>p.1=q.1/\RelV p.2 q.2
def kV:Key->V
 |.inl i=>.int i
 |.inr x=>.str x
inductive HO where
 /-- a list -/
 |lst (xs:List V)
 /-- a tuple (never changes) -/
 |tup (xs:List V)
 /-- a dict whose keys are ints and texts;one whose keys are tuples of ints and texts (the empty one is both) -/
 |dK (kvs:List (Key×V))|dT (kvs:List (List Key×V))
 /-- a set of ints: its members,its size -/
 |set (S:Int->Bool) (n:Nat)
 /-- an instance of the class at C,its dict at dx,its attributes -/
 |ins (C dx:Addr) (fs:List (Str×V))
 /-- the dict of the instance at x -/
 |own (x:Addr)
 /-- the dict of an exception -/
 |xd (fs:List (Str×V))
 /-- a bound method,f of x -/
 |met (f x:Addr)
 /-- a range object lo,lo+1,.. below hi -/
 |IZ (lo hi:Int)
 /-- a FI that is known to the object (the J2;a dict while a loop walks it): read,never written while it is so -/
 |yq (o:Obj) (u:HO)
 /-- a code Gr table -/
 |BL (ps:Array QZ)
 /-- any other FI,by what is true of its one object (a def of Gq own: BH a S n:=HO.ext λh=>..) -/
 |ext (φ:Heap->Prop)
abbrev Hp:=Addr->Option HO
def upd (H:Hp)(a:Addr)(o:HO):Hp:=λb=>if b=a then some o else H b
theorem ao {H:Hp}{a:Addr}{o:HO}:upd H a o a=some o:=by unfold upd;rw[if_pos rfl]
theorem ak {H:Hp}{a b:Addr}{o:HO}(h:b≠a):upd H a o b=H b:=by unfold upd;rw[if_neg h]
theorem BY {H:Hp}{a b:Addr}{o u:HO}(h:H a=some o)(h':H b=some u)(d:o≠u):a≠b:=by
 intro e;subst e;rw[h]at h';exact d (RC h')
theorem bO {H:Hp}{a b:Addr}{o:HO}(h:H a=some o)(h':H b=none):a≠b:=by
 intro e;subst e;rw[h]at h';cases h'
section
variable (P:Q6)(w:Rl)
def bH (H:Hp)(h:Heap)(a:Addr):HO->Prop
 |.lst xs=>xs.length<=Ri/\∃(its:List QZ) (n:Nat),Vals xs its/\h.get? a=some {cls:=.type "list",data:=.seq its.toArray n}
 |.tup xs=>xs.length<=Ri/\∃its:List QZ,Vals xs its/\IsTup h a its.toArray
 |.dK kvs=>kvs.length<=Ri/\(a==Ua)=false/\∃vs,KV kvs vs/\h.DictOf (bE P w) a vs
 |.dT kvs=>kvs.length<=Ri/\(a==Ua)=false/\∃xs:List (List Key×Addr×QZ),
   Paired (λ(p:List Key×V) (q:List Key×Addr×QZ)=>p.1=q.1/\H q.2.1=some (.tup (p.1.map kV))/\RelV p.2 q.2.2) kvs xs /\
   ∃o es ep,h.get? a=some o/\o.ExactDict/\o.data=.dict es ep/\es.toList=xs.map (entryOfKey (UJ (bE P w)))/\(xs.map (·.1)).Nodup
 |.set S n=>h.SetOf (intKind P w) a S n
 |.ins C dx fs=>H dx=some (.own a)/\fs.length<=1000/\dx≠a/\h.get? a=some (PySem.W.instObj C dx) /\
   ∃mA,h.Ns1 dx mA/\(∀f,lh (fs.lookup f) (mA f))/\PySem.Within mA (fs.map (·.1))
 |.own _=>∃o,h.get? a=some o
 |.xd fs=>∃mA,h.Ns1 a mA/\∀f,lh (fs.lookup f) (mA f)
 |.IZ lo hi=>∃t u v,h.get? a=some {cls:=.type "range",data:=.fields #[.int lo t,.int hi u,.int 1 v]}
 |.yq o u=>h.get? a=some o/\bH H h a u
 |.BL ps=>h.get? a=some {cls:=.none,data:=.fields ps}
 |.met f x=>h.get? a=some (PySem.W.methodObj (.ref f) (.ref x))
 |.ext φ=>φ h/\(∃o,h.get? a=some o)/\∀h1 h2:Heap,φ h1->(∀o,h1.get? a=some o->h2.get? a=some o)->φ h2
def eW (H:Hp)(h:Heap):Prop:=∀a o,H a=some o->bH P w H h a o
end
section
variable {P:Q6}{w:Rl}{H H':Hp}{h h':Heap}{a:Addr}{o:HO}
theorem bH.lt (x:bH P w H h a o):a<h.objs.size:=by
 cases o with
 |lst xs=>obtain⟨_,_,_,_,e⟩:=x;exact Rj e
 |tup xs=>obtain⟨_,_,_,p⟩:=x;exact p.lt
 |dK kvs=>obtain⟨_,_,_,_,o,_,_,e,_⟩:=x;exact Rj e
 |dT kvs=>obtain⟨_,_,_,_,o,_,_,e,_⟩:=x;exact Rj e
 |set S n=>obtain⟨o,_,_,_,e,_⟩:=x;exact Rj e
 |ins C dx fs=>obtain⟨_,_,_,e,_⟩:=x;exact Rj e
 |own y=>obtain⟨_,e⟩:=x;exact Rj e
 |xd fs=>obtain⟨_,⟨_,_,_,e,_⟩,_⟩:=x;exact Rj e
 |IZ lo hi=>obtain⟨_,_,_,e⟩:=x;exact Rj e
 |yq ob u=>obtain⟨e,_⟩:=x;exact Rj e
 |BL ps=>exact Rj (show h.get? a=some _ from x)
 |met f y=>exact Rj (show h.get? a=some _ from x)
 |ext φ=>obtain⟨_,⟨_,e⟩,_⟩:=x;exact Rj e
theorem Paired.DZ {α β:Type}{F G:α->β->Prop}:∀{l₁:List α} {l₂:List β},Paired F l₁ l₂->(∀a b,F a b->G a b)->Paired G l₁ l₂
 |_,_,.nil,_=>.nil
 |_,_,.cons r t,f=>.cons (f _ _ r) (Paired.DZ t f)
theorem bH.mz (x:bH P w H h a o)(k:∀b u,(b=a\/H b=some (.own a))->h.get? b=some u->h'.get? b=some u)
  (ho:∀b,H b=some (.own a)->H' b=some (.own a)) (ht:∀b xs,H b=some (.tup xs)->H' b=some (.tup xs)):bH P w H' h' a o:=by
 induction o with
 |lst xs=>obtain⟨z,its,n,r,e⟩:=x;exact⟨z,its,n,r,k _ _ (.inl rfl) e⟩
 |tup xs=>obtain⟨z,its,r,ob,e,c⟩:=x;exact⟨z,its,r,ob,k _ _ (.inl rfl) e,c⟩
 |dK kvs=>obtain⟨z,y,vs,r,ob,es,ep,e,c⟩:=x;exact⟨z,y,vs,r,ob,es,ep,k _ _ (.inl rfl) e,c⟩
 |dT kvs =>
  obtain⟨z,y,xs,r,ob,es,ep,e,c⟩:=x;exact⟨z,y,xs,Paired.DZ r λp q z=>⟨z.1,ht _ _ z.2.1,z.2.2⟩,ob,es,ep,k _ _ (.inl rfl) e,c⟩
 |set S n=>obtain⟨ob,es,ep,t,e,c⟩:=x;exact⟨ob,es,ep,t,k _ _ (.inl rfl) e,c⟩
 |ins C dx fs =>
  obtain⟨d,z,ne,e,mA,⟨od,es,ep,e2,c⟩,r⟩:=x;exact⟨ho _ d,z,ne,k _ _ (.inl rfl) e,mA,⟨od,es,ep,k _ _ (.inr d) e2,c⟩,r⟩
 |own y=>obtain⟨ob,e⟩:=x;exact⟨ob,k _ _ (.inl rfl) e⟩
 |xd fs=>obtain⟨mA,⟨od,es,ep,e,c⟩,r⟩:=x;exact⟨mA,⟨od,es,ep,k _ _ (.inl rfl) e,c⟩,r⟩
 |IZ lo hi=>obtain⟨t,u,v,e⟩:=x;exact⟨t,u,v,k _ _ (.inl rfl) e⟩
 |yq ob u ih=>obtain⟨e,q⟩:=x;exact⟨k _ _ (.inl rfl) e,ih q⟩
 |BL ps =>
  have e:h.get? a=some {cls:=.none,data:=.fields ps}:=x;show h'.get? a=some {cls:=.none,data:=.fields ps};exact k a _ (.inl rfl) e
 |met f y =>
  have e:h.get? a=some (PySem.W.methodObj (.ref f) (.ref y)):=x;show h'.get? a=some (PySem.W.methodObj (.ref f) (.ref y));exact k a _ (.inl rfl) e
 |ext φ=>obtain⟨p,⟨o,e⟩,st⟩:=x;exact⟨st _ _ p λo q=>k _ _ (.inl rfl) q,⟨o,k _ _ (.inl rfl) e⟩,st⟩
theorem eW.lt (x:eW P w H h)(e:H a=some o):a<h.objs.size:=(x a o e).lt
theorem eW.fresh (x:eW P w H h)(e:h.objs.size<=a):H a=none:=by
 cases q:H a with
 |none=>rfl
 |some u=>exact absurd (RF (x.lt q) e) (Te _)
theorem eW.kept (x:eW P w H h)(k:∀b u,h.get? b=some u->h'.get? b=some u):eW P w H h':=λa o e =>
 (x a o e).mz (λb u _ q=>k b u q) (λ_ q=>q) λ_ _ q=>q
theorem eW.laid (x:eW P w H h)(k:∀b u,h.get? b=some u->h'.get? b=some u)(hp:h.objs.size<=a)(new:bH P w (upd H a o) h' a o):eW P w (upd H a o) h':=λb u e=>by
 have hn:=x.fresh hp
 by_cases hb:b=a
 ·subst hb;rw[ao]at e;cases e;exact new
 ·rw[ak hb]at e;exact(x b u e).mz (λc v _ q=>k c v q) (λc q=>by rw[ak (bO q hn)];exact q) λc xs q=>by rw[ak (bO q hn)];exact q
end
def Rd (H:Hp)(a:Addr)(u:HO):Prop:=H a=some u\/∃o,H a=some (.yq o u)
theorem Rd.ok {P:Q6}{w:Rl}{H:Hp}{h:Heap}{a:Addr}{u:HO}(r:Rd H a u)(x:eW P w H h):bH P w H h a u:=by
 rcases r with r|⟨o,r⟩
 ·exact x a u r
 ·obtain⟨_,q⟩:=x a _ r;exact q
def IM:Option HO->Prop
 |some (.lst _)=>True
 |some (.dK _)=>True
 |some (.dT _)=>True
 |some (.set _ _)=>True
 |some (.ins _ _ _)=>True
 |some (.ext _)=>True
 |_=>False
section
variable {P:Q6}{w:Rl}{H:Hp}{h h':Heap}{x e:Addr}{o':HO}
theorem eW.write (ok:eW P w H h)(mu:IM (H x))(he:e=x\/H e=some (.own x))(k:∀b u,b≠e->h.get? b=some u->h'.get? b=some u)(Fw:∃u,h'.get? e=some u)
  (new:bH P w (upd H x o') h' x o'):eW P w (upd H x o') h':=λb u q=>by
 have Gs:∀c y,H c=some (.own y)->c≠x:=λc y r z=>by subst z;rw[r]at mu;exact mu
 have Ky:∀c xs,H c=some (.tup xs)->c≠x:=λc xs r z=>by subst z;rw[r]at mu;exact mu
 by_cases hb:b=x
 ·subst hb;rw[ao]at q;cases q;exact new
 ·rw[ak hb]at q
  by_cases EO:b=e
  ·have q':H b=some (.own x):=by
    rcases he with z|z
    ·exact absurd (EO.trans z) hb
    ·rw[EO];exact z
   rw[q]at q';cases q';obtain⟨v,hv⟩:=Fw;exact⟨v,by rw[EO];exact hv⟩
  ·refine(ok b u q).mz (λc v hc r=>k c v ?_ r) (λc r=>by rw[ak (Gs c b r)];exact r) λc xs r=>by rw[ak (Ky c xs r)];exact r
   rcases hc with rfl|hc
   ·exact EO
   ·rintro rfl;rcases he with z|z
    ·exact Gs c b hc z
    ·rw[hc]at z;cases z;exact hb rfl
end
structure Un (fs ex:List Addr)(H H':Hp)(h h':Heap):Prop where
 keep:∀b o,h.get? b=some o->H b=none->b∉fs->b∉ex->h'.get? b=some o
 slot:∀b o,h.get? b=some o->H b=none->b∈fs->b∉ex->∃sl,h'.get? b=some {o with slots:=sl}
 free:∀b o,h.get? b=some o->H b=none->b∉ex->H' b=none
 there:∀b o,h.get? b=some o->b∉ex->∃o',h'.get? b=some o'
 fX:∀b xs,H b=some (.tup xs)->H' b=some (.tup xs)
 fJ:∀b o u,H b=some (.yq o u)->H' b=some (.yq o u)
 fY:∀b ps,H b=some (.BL ps)->∃more,H' b=some (.BL (ps++more))
section
variable {fs ex:List Addr}{H H1:Hp}{h h1 h':Heap}{a x e:Addr}{o:HO}
theorem Un.any (u:Un fs ex H H1 h h1){b:Addr}{ob:Obj}(q:h.get? b=some ob)(n:H b=none)(hx:b∉ex):∃sl,h1.get? b=some {ob with slots:=sl}:=by
 by_cases hb:b∈fs
 ·exact u.slot b ob q n hb hx
 ·exact⟨ob.slots,u.keep b ob q n hb hx⟩
theorem Un.kept (k:∀b u,h.get? b=some u->h'.get? b=some u):Un fs ex H H h h' :=
 ⟨λb ob q _ _ _=>k b ob q,λb ob q _ _ _=>⟨ob.slots,k b ob q⟩,λ_ _ _ n _=>n,λb ob q _=>⟨ob,k b ob q⟩,λ_ _ q=>q,λ_ _ _ q=>q,λ_ ps q=>⟨#[],by rw[q];simp⟩⟩
theorem Un.refl:Un fs ex H H h h:=Un.kept λ_ _ q=>q
theorem Un.laid (k:∀b u,h.get? b=some u->h'.get? b=some u)(hp:h.objs.size<=a)(hn:H a=none):Un fs ex H (upd H a o) h h' where
 keep:=λb u q _ _ _=>k b u q
 slot:=λb u q _ _ _=>⟨u.slots,k b u q⟩
 free:=λb u q n _=>by rw[ak (RQ (RF (Rj q) hp))];exact n
 there:=λb u q _=>⟨u,k b u q⟩
 fX:=λb xs q=>by rw[ak (bO q hn)];exact q
 fJ:=λb u xs q=>by rw[ak (bO q hn)];exact q
 fY:=λb ps q=>⟨#[],by rw[ak (bO q hn),q];simp⟩
theorem Un.write (mu:IM (H x))(he:e=x\/H e=some (.own x))(k:∀b u,b≠e->h.get? b=some u->h'.get? b=some u)(Fw:∃u,h'.get? e=some u):Un fs ex H (upd H x o) h h':=by
 have hx:∀b,H b=none->b≠x:=λb n z=>by subst z;rw[n]at mu;exact mu
 have hb:∀b,H b=none->b≠e:=λb n z=>by
  subst z;rcases he with r|r
  ·exact hx b n r
  ·rw[n]at r;cases r
 have hm:∀b u,H b=some u->¬ IM (some u)->b≠x:=λb u q nm z=>by subst z;rw[q]at mu;exact nm mu
 refine⟨λb u q n _ _=>k b u (hb b n) q,λb u q n _ _=>⟨u.slots,k b u (hb b n) q⟩,λb u q n _=>by rw[ak (hx b n)];exact n,λb u q _=>?_,
  λb xs q=>by rw[ak (hm b _ q λz=>z)];exact q,λb u xs q=>by rw[ak (hm b _ q λz=>z)];exact q,λb ps q=>⟨#[],by rw[ak (hm b _ q λz=>z),q];simp⟩⟩
 by_cases EO:b=e
 ·subst EO;exact Fw
 ·exact⟨u,k b u EO q⟩
end
def Fl (h:Heap)(H:Hp):List Addr:=(Rz h.objs.size).filter λa=>(H a).isSome
def mW (h:Heap)(H:Hp):Heap:=PySem.W.hideAll h (Fl h H)
theorem uS (h:Heap)(H:Hp):(mW h H).objs.size=h.objs.size:=PySem.W.hideAll_size _ _
theorem yh {h:Heap}{H:Hp}{b:Addr}{o:Obj}(e:h.get? b=some o)(n:H b=none):(mW h H).get? b=some o :=
 PySem.W.hideAll_get _ e λhm=>by
  have q:(H b).isSome=true:=(SH.mp hm).2;rw[n]at q;simp at q
theorem AE {h:Heap}{H:Hp}{b:Addr}{o:Obj}(e:(mW h H).get? b=some o):h.get? b=some o/\H b=none:=by
 have e':h.get? b=some o:=PySem.W.of_hideAll (Fl h H) e;refine⟨e',?_⟩;cases q:H b with
 |none=>rfl
 |some x =>
  have hm:b∈Fl h H:=SH.mpr ⟨So.mpr (Rj e'),by simp[q]⟩
  have z:(mW h H).get? b=none:=PySem.W.hideAll_none (Fl h H) hm;rw[z]at e;cases e
structure Mod (K:PySem.W.Frag)(mg:Str->Option QZ)(base:Heap):Prop where
 Je:K.In base
 glob:base.Ns S1 mg
 blt:∃mb,base.Ns builtinsNs mb/\∀x:Str,x≠"__name__" -> mb x=Si x
 nolimit:base.NoLimit
structure Cx where
 prog:Q6
 w:Rl
 K:PySem.W.Frag
 mg:Str->Option QZ
 base:Heap
 A:R7
 N:List Str
 s₀:Q1
 H₀:Hp
 env:Env
 outer:List Env
 stack:List Env
 ex:List Addr
 fn:Str->Bool
 calm:Bool
 pn:List (Addr×Obj)
 xe:QZ->Q1->Prop
def eY (l:List Env):List Addr:=l.filterMap (·.frame)
abbrev Cx.fs (X:Cx):List Addr:=eY X.outer
def vB (sc:TU)(x:Str):Prop:=sc.names.lookup x=some .local\/sc.names.lookup x=some .cell\/sc.names.lookup x=some .free
def Loc (sc:TU)(x:Str):Prop:=sc.names.lookup x=some .local\/sc.names.lookup x=some .cell
def Look (env:Env)(h:Heap)(m:Str->Option QZ)(x:Str)(u:QZ):Prop :=
 (env.kindOf x=some .local/\m x=some u)\/((env.kindOf x=some .cell\/env.kindOf x=some .free)/\∃c,env.cells.lookup x=some c/\h.IsCell c (some u))
structure Cx.Ok (X:Cx):Prop where
 mod:Mod X.K X.mg X.base
 kind:X.env.scope.kind=.function
 glob:X.env.globals=S1
 blt:X.env.builtins=builtinsNs
 above:X.s₀.heap.objs.size<=X.env.locals
 inj:∀x y c,X.env.cells.lookup x=some c->X.env.cells.lookup y=some c->x=y
 has:∀x,(X.env.kindOf x=some .cell\/X.env.kindOf x=some .free)->∃c,X.env.cells.lookup x=some c
 CF:∀x c,X.fn x=true->X.env.cells.lookup x=some c->X.s₀.heap.objs.size<=c
 hd:X.calm=true->X.A.handled=none
 frames:X.A.frames=some X.stack
 C9:X.stack=X.outer\/(X.stack=X.env::X.outer/\X.env.frame=some X.env.locals)
 EY:∀b∈X.ex,b≠X.env.locals/\∀x c,X.env.cells.lookup x=some c->c≠b
 bs:∀b o,X.base.get? b=some o->X.s₀.heap.get? b=some o/\X.H₀ b=none
 yQ:X.base.objs.size<=X.s₀.heap.objs.size
 oq:∀b o,X.base.get? b=some o->b∉X.ex
 pF:∀b∈X.ex,b∉X.fs
 gH:X.s₀.heap.FunFrames X.base X.outer
 Bi:∀b∈X.fs,X.H₀ b=none
structure Inv (X:Cx)(pins:List (Addr×Obj))(σ:List (Option V))(H:Hp)(s:Q1):Prop where
 ok:X.Ok
 os:s.os=X.s₀.os
 bare:UA s.gens
 base:Un X.fs X.ex X.H₀ H X.s₀.heap s.heap
 loc:∃m,s.heap.Ns X.env.locals m/\∀(i:Nat) (x:Str) (v:V),X.N[i]?=some x->σ[i]?=some (some v)->vB X.env.scope x->∃u,RelV v u/\Look X.env s.heap m x u
 cell:∀x c,X.env.cells.lookup x=some c->∃v,s.heap.IsCell c v
 free:H X.env.locals=none
 cP:∀x c,X.env.cells.lookup x=some c->H c=none
 pin:∀p∈X.pn++pins,s.heap.get? p.1=some p.2/\H p.1=none/\p.1≠X.env.locals/\p.1∉X.fs/\∀v,p.2.data≠.cell v
 bj:eW X.prog X.w H s.heap
 len:σ.length=X.N.length
section
variable {X:Cx}{pins:List (Addr×Obj)}{σ:List (Option V)}{H H':Hp}{s:Q1}{h':Heap}
theorem Cx.Ok.DU (ok:X.Ok){b:Addr}{o:Obj}(e:X.base.get? b=some o):b∉X.fs:=λhb=>by
 have:=(ok.gH.mem hb).1;rw[e]at this;cases this
theorem Inv.bs (I:Inv X pins σ H s):∀b o,X.base.get? b=some o->s.heap.get? b=some o/\H b=none:=λb o e =>
 ⟨I.base.keep b o (I.ok.bs b o e).1 (I.ok.bs b o e).2 (I.ok.DU e) (I.ok.oq b o e),I.base.free b o (I.ok.bs b o e).1 (I.ok.bs b o e).2 (I.ok.oq b o e)⟩
theorem Inv.bk (I:Inv X pins σ H s):∀b o,X.base.get? b=some o->s.heap.get? b=some o:=λb o e=>(I.bs b o e).1
theorem Inv.mod (I:Inv X pins σ H s):Mod X.K X.mg X.base:=I.ok.mod
theorem Inv.vt (I:Inv X pins σ H s):X.K.In s.heap:=I.ok.mod.Je.keeps I.bk
theorem Inv.lt (I:Inv X pins σ H s):X.env.locals<s.heap.objs.size:=let ⟨_,hn,_⟩:=I.loc;hn.lt
theorem Inv.sz (I:Inv X pins σ H s):X.s₀.heap.objs.size<=s.heap.objs.size:=R6 I.ok.above (Nat.le_of_lt I.lt)
theorem Inv.Kz (I:Inv X pins σ H s){a:Addr}(h:s.heap.objs.size<=a):a∉X.fs:=λhb=>by
 obtain⟨_,o,ho,_⟩:=I.ok.gH.mem hb;exact absurd (RF (Rj ho) (R6 I.sz h)) (Te _)
theorem Inv.yI (I:Inv X pins σ H s):∀x c,X.env.cells.lookup x=some c->c≠X.env.locals:=λx c e z=>by
 obtain⟨v,o,ho,hd⟩:=I.cell x c e;obtain⟨m,⟨o',es,ep,A_,Pw,_⟩,_⟩:=I.loc;rw[z,A_]at ho;cases ho;rw[Pw]at hd;cases hd
theorem Inv.gH (I:Inv X pins σ H s):s.heap.FunFrames X.base X.outer:=by
 have all:∀(l:List Env),(∀b∈eY l,b∈X.fs)->X.s₀.heap.FunFrames X.base l->s.heap.FunFrames X.base l:=by
  intro l
  induction l with
  |nil=>intro _ _;trivial
  |cons env r ih =>
   intro hs hl;obtain⟨hk,⟨L,o,hf,hn,ho,hd⟩,hr⟩:=hl;have hL:L∈X.fs:=hs L (by unfold eY;rw[RU,hf];exact Ru)
   obtain⟨sl,e⟩:=I.base.slot L o ho (I.ok.Bi L hL) hL λz=>I.ok.pF L z hL;exact⟨hk,⟨L,_,hf,hn,e,hd⟩,ih (λb hb=>hs b (by unfold eY;rw[RU,hf];exact Rt _ hb)) hr⟩
 exact all X.outer (λ_ hb=>hb) I.ok.gH
theorem Inv.stack (I:Inv X pins σ H s):s.heap.FunFrames X.base X.stack:=by
 rcases I.ok.C9 with e|⟨e,hf⟩
 ·rw[e];exact I.gH
 ·rw[e];obtain⟨m,hn,_⟩:=I.loc;refine .cons (by rw[I.ok.kind];decide) hf hn ?_ I.gH
  exact Heap.get?_none_of_le (R6 I.ok.yQ I.ok.above)
theorem Inv.qq (I:Inv X pins σ H s):∀b∈eY X.stack,b∈X.env.locals::X.fs:=λb hb=>by
 rcases I.ok.C9 with e|⟨e,hf⟩
 ·rw[e]at hb;exact Rt _ hb
 ·rw[e]at hb;unfold eY at hb;rw[RU,hf]at hb;exact hb
theorem Inv.my (I:Inv X pins σ H s):∀b∈eY X.stack,H b=none:=λb hb=>by
 rcases Ra.mp (I.qq b hb)with e|hb
 ·rw[e];exact I.free
 ·obtain⟨_,o,ho,_⟩:=I.ok.gH.mem hb;exact I.base.free b o ho (I.ok.Bi b hb) λz=>I.ok.pF b z hb
theorem Inv.step {g':Array GenState}{t':Nat}{d':Drawn}{ch:List Addr}(I:Inv X pins σ H s)
  (oV:∀b∈ch,(b∈X.ex\/X.s₀.heap.objs.size<=b)/\b≠X.env.locals/\(∀x c,X.env.cells.lookup x=some c->c≠b)/\∀p∈X.pn++pins,p.1≠b)
  (keep:∀b o,b≠X.env.locals->b∉X.fs->b∉ch->s.heap.get? b=some o->H b=none->h'.get? b=some o)
  (slot:∀b o,b≠X.env.locals->b∈X.fs->b∉ch->s.heap.get? b=some o->H b=none->∃sl,h'.get? b=some {o with slots:=sl}) (free:∀b o,b∉ch->s.heap.get? b=some o->H b=none->H' b=none)
  (there:∀b o,b∉ch->s.heap.get? b=some o->∃o',h'.get? b=some o')
  (fX:∀b xs,H b=some (.tup xs)->H' b=some (.tup xs)) (fJ:∀b o u,H b=some (.yq o u)->H' b=some (.yq o u)) (fY:∀b ps,H b=some (.BL ps)->∃more,H' b=some (.BL (ps++more)))
  (ns:∀m,s.heap.Ns X.env.locals m->h'.Ns X.env.locals m) (bj:eW X.prog X.w H' h') (hg:UA g') :
  Inv X pins σ H' {s with heap:=h',gens:=g',drawn:=d',toks:=t'}:=by
 have M3:∀b o,X.s₀.heap.get? b=some o->b≠X.env.locals:=λb o e=>RQ (RF (Rj e) I.ok.above);have Jc:∀b o,X.s₀.heap.get? b=some o->b∉X.ex->b∉ch:=λb o e hx hb=>by
  rcases (oV b hb).1 with z|z
  ·exact hx z
  ·exact absurd (RF (Rj e) z) (Te _)
 have cellK:∀x c,X.env.cells.lookup x=some c->∀v,s.heap.IsCell c v->h'.IsCell c v:=λx c e v yb=>by
  obtain⟨o,ho,hd⟩:=yb;have Gz:c∉ch:=λz=>(oV c z).2.2.1 x c e rfl
  by_cases hc:c∈X.fs
  ·obtain⟨sl,q⟩:=slot c o (I.yI x c e) hc Gz ho (I.cP x c e);exact⟨_,q,hd⟩
  ·exact⟨o,keep c o (I.yI x c e) hc Gz ho (I.cP x c e),hd⟩
 refine⟨I.ok,I.os,hg,⟨λb o e n hb hx=>?_,λb o e n hb hx=>?_,λb o e n hx=>?_,λb o e hx=>?_,λb xs e=>fX b xs (I.base.fX b xs e),λb o xs e=>fJ b o xs (I.base.fJ b o xs e),λb ps e=>?_⟩,?_,λx c e=>?_,?_,λx c e=>?_,λp hp=>?_,bj,I.len⟩
 ·exact keep b o (M3 b o e) hb (Jc b o e hx) (I.base.keep b o e n hb hx) (I.base.free b o e n hx)
 ·obtain⟨sl,e1⟩:=I.base.slot b o e n hb hx;obtain⟨r_,e2⟩:=slot b _ (M3 b o e) hb (Jc b o e hx) e1 (I.base.free b o e n hx);exact⟨r_,e2⟩
 ·obtain⟨o',e1⟩:=I.base.there b o e hx;exact free b o' (Jc b o e hx) e1 (I.base.free b o e n hx)
 ·obtain⟨o',e1⟩:=I.base.there b o e hx;exact there b o' (Jc b o e hx) e1
 ·obtain⟨m1,e1⟩:=I.base.fY b ps e;obtain⟨m2,e2⟩:=fY b _ e1;exact⟨m1++m2,by rw[e2,Array.append_assoc]⟩
 ·obtain⟨m,hn,hl⟩:=I.loc;refine⟨m,ns m hn,λi x v e1 e2 e3=>?_⟩;obtain⟨u,r,l⟩:=hl i x v e1 e2 e3;refine⟨u,r,?_⟩;rcases l with l|⟨k,c,e,z⟩
  ·exact .inl l
  ·exact .inr ⟨k,c,e,cellK x c e _ z⟩
 ·obtain⟨v,z⟩:=I.cell x c e;exact⟨v,cellK x c e v z⟩
 ·obtain⟨m,⟨o,_,_,ho,_⟩,_⟩:=I.loc;exact free _ o (λz=>(oV _ z).2.1 rfl) ho I.free
 ·obtain⟨v,o,ho,hd⟩:=I.cell x c e;exact free c o (λz=>(oV c z).2.2.1 x c e rfl) ho (I.cP x c e)
 ·obtain⟨e,n,ne,nf,d⟩:=I.pin p hp;have Gz:p.1∉ch:=λz=>(oV p.1 z).2.2.2 p hp rfl;exact⟨keep p.1 p.2 ne nf Gz e n,free p.1 p.2 Gz e n,ne,nf,d⟩
theorem Inv.un {t':Nat}(I:Inv X pins σ H s)(u:Un X.fs [] H H' s.heap h')(bj:eW X.prog X.w H' h'):Inv X pins σ H' {s with heap:=h',toks:=t'}:=by
 obtain⟨m,⟨o,es,ep,ho,r⟩,_⟩:=id I.loc;obtain⟨sl,hL⟩:=u.any ho I.free (by simp)
 exact I.step (g':=s.gens) (d':=s.drawn) (ch:=[]) (λ_ z=>nomatch z) (λb o _ hb _ e n=>u.keep b o e n hb (by simp)) (λb o _ hb _ e n=>u.slot b o e n hb (by simp)) (λb o _ e n=>u.free b o e n (by simp)) (λb o _ e=>u.there b o e (by simp)) u.fX u.fJ u.fY (λm' hm=>by
  obtain⟨o',dz,mY,A_,r'⟩:=hm;rw[ho]at A_;cases A_;exact⟨_,dz,mY,hL,r'⟩) bj I.bare
theorem Inv.call {g':Array GenState}{t':Nat}{d':Drawn}{ch:List Addr}(I:Inv X pins σ H s)(u:Un (eY X.stack) ch H H' s.heap h')(bj:eW X.prog X.w H' h')(hg:UA g')
  (oV:∀b∈ch,(b∈X.ex\/X.s₀.heap.objs.size<=b)/\b≠X.env.locals/\(∀x c,X.env.cells.lookup x=some c->c≠b)/\∀p∈X.pn++pins,p.1≠b) :
  Inv X pins σ H' {s with heap:=h',gens:=g',drawn:=d',toks:=t'}:=by
 obtain⟨m,⟨o,es,ep,ho,r⟩,_⟩:=id I.loc;obtain⟨sl,hL⟩:=u.any ho I.free λz=>(oV _ z).2.1 rfl;exact I.step (ch:=ch) oV (λb o hL hb hc e n=>u.keep b o e n (λz=>(Ra.mp (I.qq b z)).elim hL hb) hc) (λb o _ _ hc e n=>u.any e n hc) (λb o hc e n=>u.free b o e n hc) (λb o hc e=>u.there b o e hc) u.fX u.fJ u.fY (λm' hm=>by
  obtain⟨o',dz,mY,A_,r'⟩:=hm;rw[ho]at A_;cases A_;exact⟨_,dz,mY,hL,r'⟩) bj hg
theorem Inv.turned {t':Nat}{it:Addr}(I:Inv X pins σ H s)(k:∀b o,b≠it->s.heap.get? b=some o->h'.get? b=some o)(hn:H it=none)(hL:it≠X.env.locals)
  (h1:it∈X.ex\/X.s₀.heap.objs.size<=it) (h2:∀x c,X.env.cells.lookup x=some c->c≠it) (h3:∀p∈X.pn++pins,p.1≠it):Inv X pins σ H {s with heap:=h',toks:=t'}:=by
 have M1:∀b u,H b=some u->b≠it:=λb u e z=>by rw[z,hn]at e;cases e
 refine I.step (g':=s.gens) (d':=s.drawn) (ch:=[it]) (λb hb=>?_) (λb o _ _ hc e _=>k b o (λz=>hc (by simp[z])) e) (λb o _ _ hc e _=>⟨o.slots,k b o (λz=>hc (by simp[z])) e⟩) (λ_ _ _ _ n=>n)
  (λb o hc e=>⟨o,k b o (λz=>hc (by simp[z])) e⟩) (λ_ _ e=>e) (λ_ _ _ e=>e) (λb ps e=>⟨#[],by rw[e];simp⟩) (λm hm=>?_) (λb u e=>?_) I.bare
 ·have e:b=it:=by simpa using hb
  subst e;exact⟨h1,hL,h2,h3⟩
 ·obtain⟨o,es,ep,ho,r⟩:=hm;exact⟨o,es,ep,k _ o (Ud hL) ho,r⟩
 ·refine(I.bj b u e).mz (λc v hc q=>k c v ?_ q) (λ_ q=>q) λ_ _ q=>q;rcases hc with z|z
  ·rw[z];exact M1 b u e
  ·exact M1 c _ z
theorem Inv.tok (I:Inv X pins σ H s)(t:Nat):Inv X pins σ H {s with toks:=t}:=I.un (h':=s.heap) (t':=t) Un.refl I.bj
theorem Inv.kept {t':Nat}(I:Inv X pins σ H s)(k:∀b u,s.heap.get? b=some u->h'.get? b=some u):Inv X pins σ H {s with heap:=h',toks:=t'}:=I.un (Un.kept k) (I.bj.kept k)
theorem Inv.laid {a:Addr}{o:HO}{t':Nat}(I:Inv X pins σ H s)(k:∀b u,s.heap.get? b=some u->h'.get? b=some u)(hp:s.heap.objs.size<=a)(new:bH X.prog X.w (upd H a o) h' a o):
  Inv X pins σ (upd H a o) {s with heap:=h',toks:=t'}:=I.un (Un.laid k hp (I.bj.fresh hp)) (I.bj.laid k hp new)
theorem Inv.write {x e:Addr}{o:HO}{t':Nat}(I:Inv X pins σ H s)(mu:IM (H x))(he:e=x\/H e=some (.own x))(k:∀b u,b≠e->s.heap.get? b=some u->h'.get? b=some u)(Fw:∃u,h'.get? e=some u)
  (new:bH X.prog X.w (upd H x o) h' x o):Inv X pins σ (upd H x o) {s with heap:=h',toks:=t'}:=I.un (Un.write mu he k Fw) (I.bj.write mu he k Fw new)
theorem Inv.sH {fk:List (Addr×Obj)}(I:Inv X pins σ H s)(h:∀p∈fk,s.heap.get? p.1=some p.2/\H p.1=none/\p.1≠X.env.locals/\p.1∉X.fs/\∀v,p.2.data≠.cell v):Inv X fk σ H s :=
 ⟨I.ok,I.os,I.bare,I.base,I.loc,I.cell,I.free,I.cP,λp hp=>(Rx.mp hp).elim (λz=>I.pin p (Sh _ z)) (h p),I.bj,I.len⟩
theorem jJ {N:List Str}(hN:N.Nodup){i j:Nat}{x:Str}(a:N[i]?=some x)(b:N[j]?=some x):i=j:=by
 obtain⟨h1,e1⟩:=Rw.mp a;obtain⟨h2,e2⟩:=Rw.mp b;exact(List.getElem_inj hN).mp (e1.trans e2.symm)
theorem lx {M:VP}{A:R7}{E:QZ->Q1->Prop}{i:Nat}{x:Str}{v:V}{u:QZ}{Q:Unit->Q1->Prop}(I:Inv X pins σ H s)(hN:X.N.Nodup)(hi:X.N[i]?=some x)(hx:Loc X.env.scope x)(r:RelV v u)
  (h:∀s',Inv X pins (σ.set i (some v)) H s'->(∃a,S3 a s.heap s'.heap/\(a=X.env.locals\/X.env.cells.lookup x=some a))->Q () s') (hf:X.fn x=true\/X.env.scope.names.lookup x=some .local:=by first|exact .inl rfl|exact .inr rfl|assumption):RA M A (storeName X.env x u) Q E s:=by
 obtain⟨m,hn,hl⟩:=id I.loc;have EN:(X.env.scope.kind==.class || (X.env.scope.kind==.module&&X.env.locals != X.env.globals))=false:=by rw[I.ok.kind];rfl
 have H_:i<σ.length:=by rw[I.len];exact(Rw.mp hi).1
 have yI:=I.yI;have tracked:∀{a:Addr} {h':Heap},(∃o,s.heap.get? a=some o/\H a=none)->S3 a s.heap h'->eW X.prog X.w H h':=λ{a h'} ha hs b ob e=>by
  obtain⟨_,_,Cf⟩:=ha;refine(I.bj b ob e).mz (λc w' hc q=>(hs.2 c ?_).trans q) (λ_ q=>q) λ_ _ q=>q;rintro rfl;rcases hc with rfl|hc
  ·rw[Cf]at e;cases e
  ·rw[Cf]at hc;cases hc
 rcases hx with hk|hk
 ·refine wpAny_storeName_local hk hn (λh' ye hs=>?_) EN;obtain⟨oL,_,_,Nk,_⟩:=id hn;refine h _ ⟨I.ok,I.os,I.bare,⟨λb o e n hb hx=>?_,λb o e n hb hx=>?_,I.base.free,λb o e hx=>?_,I.base.fX,I.base.fJ,I.base.fY⟩,⟨_,ye,λj y v' e1 e2 e3=>?_⟩,λy c e=>?_,I.free,I.cP,λp hp=>?_,tracked ⟨oL,Nk,I.free⟩ hs,by simpa using I.len⟩ ⟨_,hs,.inl rfl⟩
  ·exact(hs.2 b (RQ (RF (Rj e) I.ok.above))).trans (I.base.keep b o e n hb hx)
  ·obtain⟨sl,e1⟩:=I.base.slot b o e n hb hx;exact⟨sl,(hs.2 b (RQ (RF (Rj e) I.ok.above))).trans e1⟩
  ·obtain⟨o',e1⟩:=I.base.there b o e hx;exact⟨o',(hs.2 b (RQ (RF (Rj e) I.ok.above))).trans e1⟩
  ·by_cases hj:j=i
   ·subst hj;rw[hi]at e1;cases e1;rw[List.getElem?_set_self H_]at e2;cases e2;exact⟨u,r,.inl ⟨hk,by simp⟩⟩
   ·rw[Vc (Ud hj)]at e2;obtain⟨u',r',q⟩:=hl j y v' e1 e2 e3;refine⟨u',r',?_⟩;rcases q with⟨k,e⟩|⟨k,c,e,z⟩
    ·refine .inl ⟨k,?_⟩;have:y≠x:=λe=>hj (jJ hN e1 (e▸hi));simp[this,e]
    ·exact .inr ⟨k,c,e,z.sameBut hs (yI y c e)⟩
  ·obtain⟨w',z⟩:=I.cell y c e;exact⟨w',z.sameBut hs (yI y c e)⟩
  ·obtain⟨e,n,ne,nf,d⟩:=I.pin p hp;exact⟨(hs.2 p.1 ne).trans e,n,ne,nf,d⟩
 ·have LU:X.fn x=true:=by
   rcases hf with z|z
   ·exact z
   ·rw[z]at hk;cases hk
  obtain⟨c,hc⟩:=I.ok.has x (.inl hk);obtain⟨w',z⟩:=I.cell x c hc;refine wpAny_storeName_cell I.ok.kind hk hc z (λh' oW hs=>?_);obtain⟨oc,EG,Lx⟩:=id z;refine h {s with heap:=h'} ⟨I.ok,I.os,I.bare,⟨λb o e n hb hx=>?_,λb o e n hb hx=>?_,I.base.free,λb o e hx=>?_,I.base.fX,I.base.fJ,I.base.fY⟩,⟨m,hn.sameBut hs (Ud (yI x c hc)),λj y v' e1 e2 e3=>?_⟩,λy c' e=>?_,I.free,I.cP,λp hp=>?_,tracked ⟨oc,EG,I.cP x c hc⟩ hs,by simpa using I.len⟩ ⟨c,hs,.inr hc⟩
  ·exact(hs.2 b (RQ (RF (Rj e) (I.ok.CF x c LU hc)))).trans (I.base.keep b o e n hb hx)
  ·obtain⟨sl,e1⟩:=I.base.slot b o e n hb hx;exact⟨sl,(hs.2 b (RQ (RF (Rj e) (I.ok.CF x c LU hc)))).trans e1⟩
  ·obtain⟨o',e1⟩:=I.base.there b o e hx;exact⟨o',(hs.2 b (RQ (RF (Rj e) (I.ok.CF x c LU hc)))).trans e1⟩
  ·by_cases hj:j=i
   ·subst hj;rw[hi]at e1;cases e1;rw[List.getElem?_set_self H_]at e2;cases e2;exact⟨u,r,.inr ⟨.inl hk,c,hc,oW⟩⟩
   ·rw[Vc (Ud hj)]at e2;obtain⟨u',r',q⟩:=hl j y v' e1 e2 e3;refine⟨u',r',?_⟩;rcases q with q|⟨k,c',e,z'⟩
    ·exact .inl q
    ·refine .inr ⟨k,c',e,z'.sameBut hs ?_⟩;rintro rfl;exact hj (jJ hN e1 (I.ok.inj _ _ _ e hc▸hi))
  ·by_cases NH:c'=c
   ·subst NH;exact⟨_,oW⟩
   ·obtain⟨w2,z2⟩:=I.cell y c' e;exact⟨w2,z2.sameBut hs NH⟩
  ·obtain⟨e,n,ne,nf,d⟩:=I.pin p hp;refine⟨(hs.2 p.1 ?_).trans e,n,ne,nf,d⟩;intro q;rw[q,EG]at e;have q':oc=p.2:=RC e;exact d w' (by rw[<- q'];exact Lx)
theorem jk {M:VP}{A:R7}{E:QZ->Q1->Prop}{i:Nat}{x:Str}{v:V}{u:QZ}{Q:Unit->Q1->Prop}(I:Inv X pins σ H s)(hN:X.N.Nodup)(hi:X.N[i]?=some x)(hx:Loc X.env.scope x)(r:RelV v u)
  (h:∀s',Inv X pins (σ.set i (some v)) H s'->Q () s') (hf:X.fn x=true\/X.env.scope.names.lookup x=some .local:=by first|exact .inl rfl|exact .inr rfl|assumption):RA M A (storeName X.env x u) Q E s :=
 lx I hN hi hx r (λs' I' _=>h s' I') hf
theorem Inv.CD {s':Q1}{ch:List Addr}(I:Inv X pins σ H s)(ho:s'.os=s.os)(u:Un (eY X.stack) ch H H' s.heap s'.heap)(bj:eW X.prog X.w H' s'.heap)(hg:UA s'.gens)
  (oV:∀b∈ch,(b∈X.ex\/X.s₀.heap.objs.size<=b)/\b≠X.env.locals/\(∀x c,X.env.cells.lookup x=some c->c≠b)/\∀p∈X.pn++pins,p.1≠b):Inv X pins σ H' s':=by
 obtain⟨h',g',d',t',o'⟩:=s';have e:o'=s.os:=ho;subst e;exact I.call (g':=g') (t':=t') (d':=d') u bj hg oV
end
abbrev XK:=QZ->Option Addr->Hp->Prop
abbrev St:=List (Option V)
abbrev VK:=V->Hp->Prop
abbrev TE:=St->Hp->VK->Prop
abbrev TT:=St->Hp->(Bool->Hp->Prop)->Prop
abbrev TA:=St->Hp->(List V->Hp->Prop)->Prop
structure Ends where
 nx:St->Hp->Prop
 rt:VK
 bk:St->Hp->Prop:=λ_ _=>False
 ct:St->Hp->Prop:=λ_ _=>False
abbrev TS:=Ends->St->Hp->Prop
def EP (X:Cx)(pins:List (Addr×Obj))(σ:St)(Q:VK)(u:QZ)(s':Q1):Prop:=∃v H',Inv X pins σ H' s'/\RelV v u/\Q v H'
def TP (X:Cx)(pins:List (Addr×Obj))(σ:St)(Q:Bool->Hp->Prop)(b:Bool)(s':Q1):Prop:=∃H',Inv X pins σ H' s'/\Q b H'
def AP (X:Cx)(pins:List (Addr×Obj))(σ:St)(Q:List V->Hp->Prop)(us:List QZ)(s':Q1):Prop:=∃vs H',Inv X pins σ H' s'/\Vals vs us/\Q vs H'
def SP (X:Cx)(pins:List (Addr×Obj))(D:Ends)(f:Flow)(s':Q1):Prop :=
 match f with
 |.next=>∃σ' H',Inv X pins σ' H' s'/\D.nx σ' H'
 |.brk=>∃σ' H',Inv X pins σ' H' s'/\D.bk σ' H'
 |.cont=>∃σ' H',Inv X pins σ' H' s'/\D.ct σ' H'
 |.ret u=>∃v σ' H',Inv X pins σ' H' s'/\RelV v u/\D.rt v H'
def PE (X:Cx)(e:Expr)(t:TE):Prop :=
 ∀(pins:List (Addr×Obj)) (s:Q1) (σ:St) (H:Hp) (Q:VK),Inv X pins σ H s->t σ H Q->RA (model X.prog X.w) X.A (eval e X.env) (EP X pins σ Q) X.xe s
def PT (X:Cx)(e:Expr)(t:TT):Prop :=
 ∀(pins:List (Addr×Obj)) (s:Q1) (σ:St) (H:Hp) (Q:Bool->Hp->Prop),Inv X pins σ H s->t σ H Q->RA (model X.prog X.w) X.A (VG e X.env (eval e X.env)) (TP X pins σ Q) X.xe s
def PW (X:Cx)(e:Expr)(t:TT):Prop :=
 ∀(whole:Sem QZ) (pins:List (Addr×Obj)) (s:Q1) (σ:St) (H:Hp) (Q:Bool->Hp->Prop),Inv X pins σ H s->t σ H Q->RA (model X.prog X.w) X.A (VG e X.env whole) (TP X pins σ Q) X.xe s
theorem PW.pt {X:Cx}{e:Expr}{t:TT}(h:PW X e t):PT X e t:=h _
def PA (X:Cx)(es:List Expr)(t:TA):Prop :=
 ∀(pos:Pos) (pins:List (Addr×Obj)) (s:Q1) (σ:St) (H:Hp) (Q:List V->Hp->Prop),Inv X pins σ H s->t σ H Q->RA (model X.prog X.w) X.A (spliced (SF pos (Rc es X.env))) (AP X pins σ Q) X.xe s
def PS (X:Cx)(st:Stmt)(t:TS):Prop :=
 ∀(pins:List (Addr×Obj)) (s:Q1) (σ:St) (H:Hp) (D:Ends),Inv X pins σ H s->t D σ H->RA (model X.prog X.w) X.A (exec st X.env) (SP X pins D) X.xe s
def ny (X:Cx)(st:List Stmt)(t:TS):Prop :=
 ∀(pins:List (Addr×Obj)) (s:Q1) (σ:St) (H:Hp) (D:Ends),Inv X pins σ H s->t D σ H->RA (model X.prog X.w) X.A (execs st X.env) (SP X pins D) X.xe s
theorem br {α:Type}{t:Sem α}{Q Q':α->Q1->Prop}{M:VP}{A:R7}{E:QZ->Q1->Prop}{s:Q1}(h:RA M A t Q E s)(hQ:∀a s,Q a s->Q' a s):RA M A t Q' E s:=TQ h hQ λ_ _ x=>x
section
variable {X:Cx}
def FK (i:Nat):TE:=λσ H Q=>∃v,σ[i]?=some (some v)/\Q v H
def tC (v:V):TE:=λ_ H Q=>Q v H
theorem d8 {i:Nat} {x:Str} {pos:Pos} (hN:X.N[i]?=some x) (hv:vB X.env.scope x) (hd:(x==("__debug__" : Str))=false:=by decide) (gM:(x==("__classdict__" : Str))=false:=by decide):PE X (.Name x pos) (FK i):=by
 intro pins s σ H Q I h;obtain⟨v,e,h⟩:=h;obtain⟨m,hn,hl⟩:=I.loc;obtain⟨u,r,l⟩:=hl i x v hN e hv;have fin:EP X pins σ Q u s:=⟨v,H,I,r,h⟩;rcases l with⟨hk,hm⟩|⟨hk,c,hc,lR⟩
 ·exact wpAny_Name (wpAny_loadName_local I.ok.kind hk hn hm fin) hd
 ·rcases hk with hk|hk
  ·exact wpAny_Name (wpAny_loadName_cell I.ok.kind hk hc lR fin) hd
  ·exact wpAny_Name (wpAny_loadName_free I.ok.kind hk hc lR fin gM) hd
theorem aV {i j pos}:PE X (.Constant (.int i) j pos) (tC (.int i)):=λ_ _ _ H _ I h=>wpAny_Constant_int ⟨.int i,H,I.tok _,⟨_,rfl⟩,h⟩
theorem BR {b j pos}:PE X (.Constant (.bool b) j pos) (tC (.bl b)):=λ_ _ _ H _ I h=>Constant_bool ⟨.bl b,H,I,rfl,h⟩
theorem DE {j pos}:PE X (.Constant .none j pos) (tC .bB):=λ_ _ _ H _ I h=>Constant_none ⟨.bB,H,I,rfl,h⟩
theorem DD {x j pos}:PE X (.Constant (.str x) j pos) (tC (.str x)):=λ_ _ _ H _ I h=>Calls.Constant_str ⟨.str x,H,I.tok _,⟨_,rfl⟩,h⟩
def Gl (X:Cx)(x:Str):Prop:=X.env.kindOf x=some .globalImplicit
theorem gD {E:QZ->Q1->Prop}{pins:List (Addr×Obj)}{s:Q1}{σ:St}{H:Hp}{x:Str}{u:QZ}{pos:Pos}{Q:QZ->Q1->Prop}(I:Inv X pins σ H s)(hg:Gl X x)(hm:X.mg x=some u)(h:Q u s)
  (hd:(x==("__debug__" : Str))=false:=by decide):RA (model X.prog X.w) X.A (eval (.Name x pos) X.env) Q E s :=
 V0 I.ok.kind hg (Calls.loadGlobal_global (by rw[I.ok.glob];exact I.mod.glob.keeps I.bk) hm h) hd
theorem g_ {E:QZ->Q1->Prop}{pins:List (Addr×Obj)}{s:Q1}{σ:St}{H:Hp}{x:Str}{u:QZ}{pos:Pos}{Q:QZ->Q1->Prop}(I:Inv X pins σ H s)(hg:Gl X x)(hm:X.mg x=none)(hv:Si x=some u)(h:Q u s)
  (hn:x≠"__name__" := by decide) (hd:(x==("__debug__" : Str))=false:=by decide):RA (model X.prog X.w) X.A (eval (.Name x pos) X.env) Q E s:=by
 obtain⟨mb,h1,h2⟩:=I.mod.blt;exact V0 I.ok.kind hg (Calls.loadGlobal_builtin (by rw[I.ok.glob];exact I.mod.glob.keeps I.bk) hm (by rw[I.ok.blt];exact h1.keeps I.bk) ((h2 x hn).trans hv) h) hd
theorem sL {x:Str} {v:V} {u:QZ} {pos:Pos} (hg:Gl X x) (hm:X.mg x=some u) (r:RelV v u) (hd:(x==("__debug__" : Str))=false:=by decide):PE X (.Name x pos) (tC v) :=
 λ_ _ _ H _ I h=>gD I hg hm ⟨v,H,I,r,h⟩ hd
theorem Aj {x:Str} {v:V} {u:QZ} {pos:Pos} (hg:Gl X x) (hm:X.mg x=none) (hv:Si x=some u) (r:RelV v u) (hn:x≠"__name__" := by decide) (hd:(x==("__debug__" : Str))=false:=by decide):PE X (.Name x pos) (tC v) :=
 λ_ _ _ H _ I h=>g_ I hg hm hv ⟨v,H,I,r,h⟩ hn hd
variable {a b:Expr}{pos:Pos}
theorem ot (b:Expr){op:Uu}(h:op≠.In)(h2:op≠.NotIn):Td op b=false:=by
 have e1:(op==CmpOp.In)=false:=by cases op <;> first|rfl|exact absurd rfl h
 have e2:(op==CmpOp.NotIn)=false:=by cases op <;> first|rfl|exact absurd rfl h2
 cases b <;> simp[Td,e1,e2]
def tB (t:TE):TT:=λσ H Q=>t σ H λx H1=>∃c,x=.bl c/\Q c H1
theorem Dw {e:Expr}{t:TE}(h:PE X e t)(he:∀whole,VG e X.env whole=(do let v <- whole;UQ e.pos;holding [v] (truthy v)):=by intro _;rfl):PT X e (tB t):=by
 intro pins s σ H Q I hw;refine isTrue_plain (br (h pins s σ H _ I hw) λv s1 ⟨x,H1,I1,r1,q1⟩=>?_) (he _);obtain⟨d,rfl,q⟩:=q1;cases r1;exact Tf ⟨H1,I1,q⟩
variable {tA IW:TT}{rest:List Expr}
def JW (t u:TT):TT:=λσ H Q=>t σ H λc H1=>if c=true then u σ H1 Q else Q false H1
def Ob (t u:TT):TT:=λσ H Q=>t σ H λc H1=>if c=true then Q true H1 else u σ H1 Q
def JQ (t:TT):TT:=λσ H Q=>t σ H λc H1=>Q (!c) H1
theorem pw_and1 (ha:PT X a tA):PW X (.BoolOp .And [a] pos) tA:=by
 intro wh pins s σ H Q I h;refine isTrue_and (br (ha pins s σ H Q I h) λc s1 e=>?_);cases c with
 |true=>exact isTrue_and_nil e
 |false=>exact e
theorem pw_or1 (ha:PT X a tA):PW X (.BoolOp .Or [a] pos) tA:=by
 intro wh pins s σ H Q I h;refine isTrue_or (br (ha pins s σ H Q I h) λc s1 e=>?_);cases c with
 |false=>exact isTrue_or_nil e
 |true=>exact e
theorem pw_and (ha:PT X a tA)(hb:PW X (.BoolOp .And (b::rest) pos) IW):PW X (.BoolOp .And (a::b::rest) pos) (JW tA IW):=by
 intro wh pins s σ H Q I h;refine isTrue_and (br (ha pins s σ H _ I h) λc s1 ⟨H1,I1,q1⟩=>?_);cases c with
 |true=>exact hb wh pins s1 σ H1 Q I1 q1
 |false=>exact⟨H1,I1,q1⟩
theorem pw_or (ha:PT X a tA)(hb:PW X (.BoolOp .Or (b::rest) pos) IW):PW X (.BoolOp .Or (a::b::rest) pos) (Ob tA IW):=by
 intro wh pins s σ H Q I h;refine isTrue_or (br (ha pins s σ H _ I h) λc s1 ⟨H1,I1,q1⟩=>?_);cases c with
 |true=>exact⟨H1,I1,q1⟩
 |false=>exact hb wh pins s1 σ H1 Q I1 q1
theorem Dx (ha:PT X a tA):PT X (.UnaryOp .Not a pos) (JQ tA):=by
 intro pins s σ H Q I h;exact isTrue_not (ha pins s σ H (λc H1=>Q (!c) H1) I h)
end
def dg (K:PySem.W.Frag)(H:Hp)(a:Addr)(xs:List V):Prop :=
 Rd H a (.lst xs) \/
  ∃(o:Obj) (its:Array QZ) (n:Nat),K.lookup a=some o/\o.cls=.type "list" /\ o.dict=none/\o.data=.seq its n/\its.size<=Ri/\Vals xs its.toList
def vi (K:PySem.W.Frag)(H:Hp)(a:Addr)(xs:List V):Prop :=
 Rd H a (.tup xs) \/
  ∃(o:Obj) (its:Array QZ) (n:Nat),K.lookup a=some o/\o.cls=.type "tuple" /\ o.data=.seq its n/\its.size<=Ri/\Vals xs its.toList
def Ml:QZ->Option V
 |.none=>some .bB
 |.bool b=>some (.bl b)
 |.int i _=>some (.int i)
 |.str x _=>some (.str x)
 |.bytes b _=>some (.yM b)
 |.float b _=>some (.L8 b)
 |.ref a=>some (.ref a)
 |.type n=>some (.ty n)
 |_=>none
theorem RelV.abs {x:V}{u:QZ}(r:RelV x u):Ml u=some x:=by
 cases x with
 |bB=>cases r;rfl
 |bl _=>cases r;rfl
 |int _=>obtain⟨t,rfl⟩:=r;rfl
 |str _=>obtain⟨t,rfl⟩:=r;rfl
 |yM _=>obtain⟨t,rfl⟩:=r;rfl
 |L8 _=>obtain⟨t,rfl⟩:=r;rfl
 |ref _=>cases r;rfl
 |ty _=>cases r;rfl
theorem RelV.inj {x y:V}{u:QZ}(r:RelV x u)(q:RelV y u):x=y:=RC (r.abs.symm.trans q.abs)
theorem Vals.inj:∀{xs ys:List V} {us:List QZ},Vals xs us->Vals ys us->xs=ys
 |_,_,_,.nil,.nil=>rfl
 |_,_,_,.cons r t,.cons r' t'=>by rw[r.inj r',Vals.inj t t']
section
variable {X:Cx}{pins:List (Addr×Obj)}{σ:St}{H:Hp}{s:Q1}{a:Addr}{xs ys:List V}
theorem dg.of {K:PySem.W.Frag}(h:H a=some (.lst xs)):dg K H a xs:=.inl (.inl h)
theorem vi.of {K:PySem.W.Frag}(h:H a=some (.tup xs)):vi K H a xs:=.inl (.inl h)
theorem Inv.list (I:Inv X pins σ H s)(h:dg X.K H a xs):∃its:List QZ,Vals xs its/\PlainL s.heap a its.toArray/\xs.length<=Ri:=by
 rcases h with h|⟨o,its,n,hk,hc,hd,hs,hz,r⟩
 ·obtain⟨z,its,n,r,e⟩:=h.ok I.bj;exact⟨its,r,⟨_,n,e,rfl,rfl,rfl⟩,z⟩
 ·refine⟨its.toList,r,⟨o,n,I.vt a o hk,hc,hd,by simpa using hs⟩,?_⟩
  have e:=r.length;simp only[Q9]at e;lia
theorem Inv.tuple (I:Inv X pins σ H s)(h:vi X.K H a xs):∃its:List QZ,Vals xs its/\IsTup s.heap a its.toArray/\xs.length<=Ri:=by
 rcases h with h|⟨o,its,n,hk,hc,hs,hz,r⟩
 ·obtain⟨z,its,r,p⟩:=h.ok I.bj;exact⟨its,r,p,z⟩
 ·refine⟨its.toList,r,⟨o,I.vt a o hk,hc,n,by simpa using hs⟩,?_⟩
  have e:=r.length;simp only[Q9]at e;lia
theorem Inv.xF (I:Inv X pins σ H s)(h:dg X.K H a xs)(h':dg X.K H a ys):xs=ys:=by
 obtain⟨its,r,⟨o,n,e,_,_,d⟩,_⟩:=I.list h;obtain⟨its',r',⟨o',n',e',_,_,d'⟩,_⟩:=I.list h';rw[e]at e';cases e';rw[d]at d';injection d' with d1 _
 have:its=its':=by simpa using congrArg Array.toList d1
 subst this;exact r.inj r'
end
abbrev Cx.i8 (X:Cx)(E:QZ->Q1->Prop):Cx:={X with xe:=E}
abbrev Cx.qP (X:Cx):Cx:=X.i8 λ_ _=>False
theorem Cx.Ok.i8 {X:Cx}(ok:X.Ok)(E:QZ->Q1->Prop):(X.i8 E).Ok :=
 ⟨ok.mod,ok.kind,ok.glob,ok.blt,ok.above,ok.inj,ok.has,ok.CF,ok.hd,ok.frames,ok.C9,ok.EY,ok.bs,ok.yQ,ok.oq,ok.pF,ok.gH,ok.Bi⟩
theorem Cx.Ok.dW {X:Cx}{E:QZ->Q1->Prop}(ok:(X.i8 E).Ok):X.Ok :=
 ⟨ok.mod,ok.kind,ok.glob,ok.blt,ok.above,ok.inj,ok.has,ok.CF,ok.hd,ok.frames,ok.C9,ok.EY,ok.bs,ok.yQ,ok.oq,ok.pF,ok.gH,ok.Bi⟩
section
variable {X:Cx}{pins:List (Addr×Obj)}{σ:St}{H:Hp}{s:Q1}{E:QZ->Q1->Prop}
theorem Inv.i8 (I:Inv X pins σ H s)(E:QZ->Q1->Prop):Inv (X.i8 E) pins σ H s:=⟨I.ok.i8 E,I.os,I.bare,I.base,I.loc,I.cell,I.free,I.cP,I.pin,I.bj,I.len⟩
theorem Inv.dW (I:Inv (X.i8 E) pins σ H s):Inv X pins σ H s:=⟨I.ok.dW,I.os,I.bare,I.base,I.loc,I.cell,I.free,I.cP,I.pin,I.bj,I.len⟩
theorem SP.dW {D:Ends}{f:Flow}{s':Q1}(h:SP (X.i8 E) pins D f s'):SP X pins D f s':=by
 cases f with
 |next=>obtain⟨σ',H',I,q⟩:=h;exact⟨σ',H',I.dW,q⟩
 |brk=>obtain⟨σ',H',I,q⟩:=h;exact⟨σ',H',I.dW,q⟩
 |cont=>obtain⟨σ',H',I,q⟩:=h;exact⟨σ',H',I.dW,q⟩
 |ret u=>obtain⟨v,σ',H',I,r,q⟩:=h;exact⟨v,σ',H',I.dW,r,q⟩
theorem ny.qP {st:List Stmt}{t:TS}(h:ny X.qP st t):ny X st t:=λpins s σ H D I hw =>
 TQ (h pins s σ H D (I.i8 _) hw) (λ_ _ q=>q.dW) λ_ _ z=>SY z
end
section
variable {X:Cx}{st:Stmt}{rest:List Stmt}{t u:TS}{e:Expr}{te:TE}{pos:Pos}
def FR:TS:=λD σ H=>D.nx σ H
def JO (t u:TS):TS:=λD σ H=>t {D with nx:=u D} σ H
theorem sj:ny X [] FR:=λ_ _ σ H _ I h=>Ui ⟨σ,H,I,h⟩
theorem c8 (h1:PS X st t)(h2:ny X rest u):ny X (st::rest) (JO t u):=by
 intro pins s σ H D I h;refine wpAny_execs_cons (br (h1 pins s σ H {D with nx:=u D} I h) λf s1 q=>?_)
 cases f with
 |next =>
  obtain⟨σ',H',I',q⟩:=q;exact h2 pins s1 σ' H' D I' q
 |ret v=>exact q
 |brk=>exact q
 |cont=>exact q
theorem fA (h1:PS X st t):ny X [st] t:=by
 intro pins s σ H D I h;refine wpAny_execs_cons (br (h1 pins s σ H D I h) λf s1 q=>?_);cases f with
 |next=>exact Ui q
 |ret v=>exact q
 |brk=>exact q
 |cont=>exact q
theorem Inv.quiet {pins:List (Addr×Obj)}{σ:St}{H:Hp}{s:Q1}(I:Inv X pins σ H s):interactive X.env=false:=by simp[interactive,I.ok.kind]
def FT (te:TE):TS:=λD σ H=>te σ H λ_ H1=>D.nx σ H1
theorem iV (he:PE X e te)(hs:Tc e none pos.line X.env=pure false:=by rfl):PS X (.Expr e pos) (FT te):=by
 intro pins s σ H D I h;exact wpAny_Expr_any (br (he pins s σ H _ I h) λv s1 xY=>by obtain⟨x,H1,I1,r1,q1⟩:=xY;exact⟨σ,H1,I1,q1⟩) I.quiet hs
def JP (te:TE):TS:=λD σ H=>te σ H D.rt
theorem gW (he:PE X e te):PS X (.Return (some e) pos) (JP te):=by
 intro pins s σ H D I h;exact wpAny_Return_some (br (he pins s σ H _ I h) λv s1 xX=>by obtain⟨x,H1,I1,r1,q1⟩:=xX;exact⟨x,σ,H1,I1,r1,q1⟩)
def JS (c:TT)(t u:TS):TS:=λD σ H=>c σ H λb H1=>if b=true then t D σ H1 else u D σ H1
theorem BO {c:Expr}{a b:List Stmt}{tc:TT}(hc:PT X c tc)(ha:ny X a t)(hb:ny X b u):PS X (.If c a b pos) (JS tc t u):=by
 intro pins s σ H D I h;refine wpAny_If (br (hc pins s σ H _ I h) λd s1 ⟨H1,I1,q1⟩=>?_);cases d with
 |true=>exact ha pins s1 σ H1 D I1 q1
 |false=>exact hb pins s1 σ H1 D I1 q1
end
abbrev TG:=V->St->Hp->(St->Hp->Prop)->Prop
abbrev CH:=List V->St->Hp->(St->Hp->Prop)->Prop
def PG (X:Cx)(target:Expr)(t:TG):Prop :=
 ∀(pins:List (Addr×Obj)) (s:Q1) (σ:St) (H:Hp) (v:V) (u:QZ) (Q:St->Hp->Prop),Inv X pins σ H s->RelV v u->t v σ H Q ->
  RA (model X.prog X.w) X.A (assign target X.env u) (λ_ s'=>∃σ' H',Inv X pins σ' H' s'/\Q σ' H') X.xe s
def CK (X:Cx)(ts:List Expr)(t:CH):Prop :=
 ∀(pins:List (Addr×Obj)) (s:Q1) (σ:St) (H:Hp) (vs:List V) (us:List QZ) (Q:St->Hp->Prop),Inv X pins σ H s->Vals vs us->t vs σ H Q ->
  RA (model X.prog X.w) X.A (assignInOrder ((S9 ts X.env).map (·.2)) us) (λ_ s'=>∃σ' H',Inv X pins σ' H' s'/\Q σ' H') X.xe s
abbrev Ff:=V->V->V->Hp->(Hp->Prop)->Prop
def IL (X:Cx)(t:Ff):Prop :=
 ∀(pins:List (Addr×Obj)) (s:Q1) (σ:St) (H:Hp) (o i v:V) (ov iv u:QZ) (Q:Hp->Prop),Inv X pins σ H s->RelV o ov->RelV i iv->RelV v u->t o i v H Q ->
  RA (model X.prog X.w) X.A (setItem ov iv u) (λ_ s'=>∃H',Inv X pins σ H' s'/\Q H') X.xe s
section
variable {X:Cx}{pos:Pos}
def Cm (i:Nat):TG:=λv σ H Q=>Q (σ.set i (some v)) H
theorem Ah {i:Nat}{x:Str}(hN:X.N.Nodup)(hi:X.N[i]?=some x)(hx:Loc X.env.scope x)(hf:X.fn x=true\/X.env.scope.names.lookup x=some .local:=by first|exact .inl rfl|exact .inr rfl|assumption):PG X (.Name x pos) (Cm i):=by
 intro pins s σ H v u Q I r h;exact wpAny_assign_Name (jk I hN hi hx r (λs' I'=>⟨_,H,I',h⟩) hf)
def EU:CH:=λvs σ H Q=>vs=[]/\Q σ H
def yn (t:TG)(u:CH):CH:=λvs σ H Q=>∃v r,vs=v::r/\t v σ H λσ' H'=>u r σ' H' Q
theorem Ag:CK X [] EU:=by
 intro pins s σ H vs us Q I r h;obtain⟨e,h⟩:=h;subst e;cases r;exact assignInOrder_nil ⟨σ,H,I,h⟩
theorem wY {e:Expr}{es:List Expr}{t:TG}{u:CH}(h1:PG X e t)(h2:CK X es u)
  (hs:(S9 (e::es) X.env).map (·.2)=assign e X.env::(S9 es X.env).map (·.2):=by rfl):CK X (e::es) (yn t u):=by
 intro pins s σ H vs us Q I r h;obtain⟨v,vr,e1,h⟩:=h;subst e1;cases r with
 |cons r rr =>
  rw[hs];refine assignInOrder_cons (br (h1 pins s σ H _ _ _ I r h) λ_ s1 ⟨σ1,H1,I1,q1⟩=>?_);exact h2 pins s1 σ1 H1 _ _ Q I1 rr q1
def L4 (K:PySem.W.Frag)(n:Nat)(t:CH):TG:=λv σ H Q=>∃a xs,v=.ref a/\vi K H a xs/\xs.length=n/\t xs σ H Q
theorem DC {es:List Expr}{k:Nat}{t:CH}{n:Nat}(hc:X.calm=true)(h:CK X es t)
  (hn:(S9 es X.env).length=n:=by rfl) (mU:(S9 es X.env).findIdx? (·.1)=none:=by rfl):PG X (.Tuple es k pos) (L4 X.K n t):=by
 intro pins s σ H v u Q I r hw;obtain⟨a,xs,e1,hq,hl,hw⟩:=hw;subst e1;cases r;obtain⟨its,rv,ht,hz⟩:=I.tuple hq;refine assign_Tuple_tuple (I.ok.hd hc) ht (by simp[hn,<- hl,rv.length]) mU λh' hx=>?_
 have I1:Inv X pins σ H {s with heap:=h'}:=I.kept (t':=s.toks) λb o e=>hx b o (RQ (Rj e)) e
 exact h pins _ σ H xs _ Q I1 (by simpa using rv) hw
def L5 (to ti:TE)(t:Ff):TG:=λv σ H Q=>to σ H λo H1=>ti σ H1 λi H2=>t o i v H2 λH3=>Q σ H3
theorem wZ {o i:Expr}{to ti:TE}{t:Ff}(ho:PE X o to)(hi:PE X i ti)(hs:IL X t)
  (ha:∀v,assign (.Subscript o i pos) X.env v=(do
   let ov <- holding [v] (eval o X.env)
   let iv <- holding [v,ov] (eval i X.env)
   UQ pos
   holding [v,ov,iv] (setItem ov iv v)
   release [v,ov,iv] []):=by intro _;rfl):PG X (.Subscript o i pos) (L5 to ti t):=by
 intro pins s σ H v u Q I r h;rw[ha];refine Q0 (Sj (br (ho pins s σ H _ I h) λov s1 ⟨x,H1,I1,r1,q1⟩=>?_));refine Q0 (Sj (br (hi pins s1 σ H1 _ I1 q1) λiv s2 ⟨y,H2,I2,r2,q2⟩=>?_));refine Q0 (Tb (Q0 (Sj (br (hs pins s2 σ H2 x y v ov iv u _ I2 r1 r2 r q2) λ_ s3 ⟨H3,I3,q3⟩=>?_))));exact wpAny_release ⟨σ,H3,I3,q3⟩
def FV (te:TE)(g:TG):TS:=λD σ H=>te σ H λx H1=>g x σ H1 D.nx
theorem qH {tg e:Expr}{te:TE}{g:TG}(he:PE X e te)(hg:PG X tg g)(hs:swapsWithSole [tg] e pos.line X.env=pure false:=by rfl)(hw:swappedStores [tg] e X.env=pure none:=by rfl)
  (h1:(S9 [tg] X.env).map (·.2)=[assign tg X.env]:=by rfl):PS X (.Assign [tg] e pos) (FV te g):=by
 intro pins s σ H D I h;refine wpAny_Assign_stores (br (he pins s σ H _ I h) λv s1 ⟨x,H1,I1,r1,q1⟩=>?_) hs hw;rw[h1];exact br (hg pins s1 σ H1 x v _ I1 r1 q1) λ_ s2 q=>q
theorem qG {i:Nat}{x:Str}{e:Expr}{te:TE}{pos':Pos}(hN:X.N.Nodup)(hi:X.N[i]?=some x)(hx:Loc X.env.scope x)(he:PE X e te)(hs:Tc e (some (.Name x pos')) pos.line X.env=pure false:=by rfl)(hf:X.fn x=true\/X.env.scope.names.lookup x=some .local:=by first|exact .inl rfl|exact .inr rfl|assumption):
  PS X (.Assign [.Name x pos'] e pos) (FV te (Cm i)):=by
 intro pins s σ H D I h;refine wpAny_Assign_Name (br (he pins s σ H _ I h) λv s1 ⟨y,H1,I1,r1,q1⟩=>?_) hs;exact jk I1 hN hi hx r1 (λs2 I2=>⟨_,H1,I2,q1⟩) hf
end
section
variable {X:Cx}{pos:Pos}
def C7 (c:TT)(tb:TS):TS:=λD σ H=>∃W:Nat->St->Hp->Prop,(∃m,W m σ H)/\∀m σ H,W m σ H ->
 c σ H λb H1=>if b=true then ∃N:St->Hp->Prop,(∀σ' H',N σ' H'->∃m',m'<m/\W m' σ' H')/\tb {D with nx:=N,ct:=N,bk:=D.nx} σ H1 else D.nx σ H1
theorem wK {c:Expr}{body:List Stmt}{tc:TT}{tb:TS}(hp:VH (model X.prog X.w) X.A X.env X.xe)(hc:PT X c tc)(hb:ny X body tb):PS X (.While c body [] pos) (C7 tc tb):=by
 intro pins s σ H D I h;obtain⟨W,⟨m0,w0⟩,turn⟩:=h;refine wpAny_While (codeAny_whileLoop (λn s'=>∃σ' H',Inv X pins σ' H' s'/\W n σ' H') ?_ m0 ⟨σ,H,I,w0⟩);rintro n s1 ⟨σ1,H1,I1,w1⟩;refine Ta hp (br (hc pins s1 σ1 H1 _ I1 (turn n σ1 H1 w1)) λb s2 ⟨H2,I2,q2⟩=>?_);cases b with
 |true =>
  obtain⟨N,hN,q2⟩:=q2;rw[if_pos rfl];refine Ta hp (br (hb pins s2 σ1 H2 _ I2 q2) λf s3 q3=>?_);cases f with
  |next =>
   obtain⟨σ3,H3,I3,n3⟩:=q3;obtain⟨m',hm,w3⟩:=hN σ3 H3 n3;exact⟨m',hm,σ3,H3,I3,w3⟩
  |cont =>
   obtain⟨σ3,H3,I3,n3⟩:=q3;obtain⟨m',hm,w3⟩:=hN σ3 H3 n3;exact⟨m',hm,σ3,H3,I3,w3⟩
  |brk=>exact q3
  |ret v=>exact q3
 |false =>
  rw[if_neg SI];exact Ui ⟨σ1,H2,I2,q2⟩
end
structure It where
 go:Nat->Hp->Prop
 FE:Nat->Hp->V->Hp->Prop
 stop:Nat->Hp->Prop
def gg (X:Cx)(pins:List (Addr×Obj))(H:Hp)(b:Addr):Prop :=
 H b=none/\b≠X.env.locals/\b∉X.fs/\(b∈X.ex\/X.s₀.heap.objs.size<=b)/\(∀x c,X.env.cells.lookup x=some c->c≠b)/\∀p∈X.pn++pins,p.1≠b
theorem Inv.Bj {X:Cx}{pins:List (Addr×Obj)}{σ:St}{H H':Hp}{s:Q1}{b:Addr}(I:Inv X pins σ H s)(hb:s.heap.objs.size<=b)(hn:H' b=none):gg X pins H' b:=by
 refine⟨hn,Nat.ne_of_gt (RF I.lt hb),I.Kz hb,.inr (R6 I.sz hb),λx c e z=>?_,λp hp z=>?_⟩
 ·obtain⟨v,q⟩:=I.cell x c e;exact absurd (RF q.lt (by rw[z];exact hb)) (Te _)
 ·exact absurd (RF (Rj (I.pin p hp).1) (by rw[z];exact hb)) (Te _)
structure Turn (P:Q6)(w:Rl)(K:PySem.W.Frag)(tg:Expr)(J:It)(fp:List Addr)(it:Addr)(tn:Nat->Heap->Prop):Prop where
 mem:it∈fp
 obj:∀i h,tn i h->∀b∈fp,∃o,h.get? b=some o/\∀v,o.data≠.cell v
 keep:∀i h h',tn i h->(∀b∈fp,∀o,h.get? b=some o->h'.get? b=some o)->tn i h'
 item:∀(X:Cx),X.prog=P->X.w=w->X.K=K->X.calm=true->∀(i:Nat) (pins:List (Addr×Obj)) (s:Q1) (σ:St) (H:Hp) (E:QZ->Q1->Prop),Inv X pins σ H s->(∀b∈fp,gg X pins H b)->tn i s.heap->J.go i H ->
  RA (model P w) X.A (Vo (.ref it)) (λr s1=>∃u,r=some u /\
   RA (model P w) X.A (UX tg (.ref it) u) (λ_ s2=>∃x H',Inv X pins σ H' s2/\RelV x u/\J.FE i H x H'/\tn (i+1) s2.heap/\∀b∈fp,H' b=none) E s1) E s
 done:∀(X:Cx),X.prog=P->X.w=w->X.K=K->X.calm=true->∀(i:Nat) (pins:List (Addr×Obj)) (s:Q1) (σ:St) (H:Hp) (E:QZ->Q1->Prop),Inv X pins σ H s->(∀b∈fp,gg X pins H b)->tn i s.heap->J.stop i H ->
  RA (model P w) X.A (Vo (.ref it)) (λr s1=>r=none/\Inv X pins σ H s1) E s
 self:∀(A:R7) (i:Nat) (s:Q1) (Q:QZ->Q1->Prop) (E:QZ->Q1->Prop),tn i s.heap->Q (.ref it) s->RA (model P w) A (Vp (.ref it)) Q E s
abbrev TI:=St->Hp->(It->Hp->Prop)->Prop
def JA (X:Cx)(pins:List (Addr×Obj))(σ:St)(tg:Expr)(R:It->Hp->Prop)(B_:QZ)(s2:Q1):Prop :=
 ∃(it:Addr) (fp:List Addr) (tn:Nat->Heap->Prop) (J:It) (H':Hp),B_=.ref it/\Inv X pins σ H' s2/\Turn X.prog X.w X.K tg J fp it tn/\tn 0 s2.heap/\(∀b∈fp,gg X pins H' b)/\R J H'
def PI (X:Cx)(tg iter:Expr)(wi:TI):Prop :=
 ∀(pins:List (Addr×Obj)) (s:Q1) (σ:St) (H:Hp) (R:It->Hp->Prop),Inv X pins σ H s->wi σ H R ->
  RA (model X.prog X.w) X.A (eval iter X.env) (λv s1=>RA (model X.prog X.w) X.A (Vp v) (JA X pins σ tg R) X.xe s1) X.xe s
theorem ym {M:VP}{A:R7}{E:QZ->Q1->Prop}{s:Q1}{tg:Expr}{it:Addr}{u:QZ}{o:Obj}{n:String}{vs:Array QZ}{Q:Unit->Q1->Prop}(ho:s.heap.get? it=some o)(hc:o.cls=.type n)(hd:o.data=.fields vs)
  (hn:["enumerate","zip","dict_itemiterator","dict_reverseitemiterator","odict_iterator","itertools.zip_longest","itertools.pairwise"].contains n=false) (hQ:Q () s):RA M A (UX tg (.ref it) u) Q E s:=by
 unfold UX;cases tg <;> first
  |exact Q_ hQ
  | (cases u <;> first
    |exact Q_ hQ
    | (refine Q0 (wpAny_load ho ?_)
       rw[hc,hd];show RA M A (if (["enumerate","zip","dict_itemiterator","dict_reverseitemiterator","odict_iterator","itertools.zip_longest","itertools.pairwise"].contains n&&vs[0]?==some (rawInt _))=true then _ else _) Q E s
       rw[if_neg (by intro h;rw[hn,Bool.false_and]at h;cases h)]
       exact Q_ hQ))
def JE (K:PySem.W.Frag)(a:Addr):It :=
 ⟨λi H=>∃xs x,dg K H a xs/\xs[i]?=some x,λi H x H'=>H'=H/\∀xs,dg K H a xs->xs[i]?=some x,λi H=>∃xs,dg K H a xs/\xs.length<=i⟩
def IP (lo:Int)(n:Nat):It:=⟨λi _=>i<n,λi H x H'=>H'=H/\x=.int (lo+i),λi _=>n<=i⟩
theorem tR {P:Q6}{w:Rl}{K:PySem.W.Frag}{tg:Expr}(a it:Addr):Turn P w K tg (JE K a) [it] it (λi h=>h.IsListIter it a i) where
 mem:=by simp
 obj:=λi h st b hb=>by
  have e:b=it:=by simpa using hb
  subst e;obtain⟨o,e,c,d⟩:=st;exact⟨o,e,λv z=>by rw[d]at z;cases z⟩
 keep:=λi h h' st k=>st.at λo e=>k it (by simp) o e
 item:=by
  intro X hP hw hK hc i pins s σ H E I hf st hg;subst hP hw hK;obtain⟨xs,x,hq,hx⟩:=hg;obtain⟨its,rv,p,hz⟩:=I.list hq;obtain⟨u,hu,ru⟩:=rv.get hx;obtain⟨f0,f1,f2,f3,f4,f5⟩:=hf it (by simp)
  refine wpAny_pyNext_list_item st p.isList (x:=u) (by simpa using hu) λh' aA sb=>?_
  have I1:Inv X pins σ H {s with heap:=h'}:=I.turned (t':=s.toks) (λb o hb e=>(sb.2 b hb).trans e) f0 f1 f3 f4 f5
  obtain⟨o,e,c,d⟩:=id aA;exact⟨u,rfl,ym (s:={s with heap:=h'}) e c d (by decide) ⟨x,H,I1,ru,⟨rfl,λys hy=>by rw[I.xF hy hq];exact hx⟩,aA,λb hb=>(hf b hb).1⟩⟩
 done:=by
  intro X hP hw hK hc i pins s σ H E I hf st hg;subst hP hw hK;obtain⟨xs,hq,hx⟩:=hg;obtain⟨its,rv,p,hz⟩:=I.list hq;obtain⟨f0,f1,f2,f3,f4,f5⟩:=hf it (by simp)
  have hl:=rv.length;exact wpAny_pyNext_list_end (I.ok.hd hc) st p.isList (by simp;lia) λh' eb=>⟨rfl,I.turned (t':=s.toks) (λb o hb e=>eb b o hb e) f0 f1 f3 f4 f5⟩
 self:=λ_ _ _ _ _ st h=>wpAny_pyIter_listiter st h
theorem qm {P:Q6}{w:Rl}{K:PySem.W.Frag}{tg:Expr}(it:Addr)(lo:Int)(n:Nat):Turn P w K tg (IP lo n) [it] it (λi h=>VQ h it (lo+(i:Nat)*1) ((n:Int)-(i:Nat)) 1) where
 mem:=by simp
 obj:=λi h st b hb=>by
  have e:b=it:=by simpa using hb
  subst e;exact⟨_,st,λv z=>by
   have z':Data.fields _=Data.cell v:=z;cases z'⟩
 keep:=λi h h' st k=>k it (by simp) _ st
 item:=by
  intro X hP hw hK hc i pins s σ H E I hf st hg;subst hP hw hK;obtain⟨f0,f1,f2,f3,f4,f5⟩:=hf it (by simp)
  have W:=Walks.range (prog:=X.prog) (w:=X.w) (I.ok.hd hc) it lo 1 n;refine W.item i s _ _ hg st λv h' tk hv aA kk=>?_;obtain⟨t,rfl⟩:=hv;have I1:Inv X pins σ H {s with heap:=h',toks:=tk}:=I.turned (λb o hb e=>kk b o (by simpa using hb) e) f0 f1 f3 f4 f5
  refine⟨_,rfl,ym (s:={s with heap:=h',toks:=tk}) (n:="range_iterator") aA rfl rfl (by decide) ⟨.int (lo+i),H,I1,⟨t,?_⟩,⟨rfl,rfl⟩,aA,λb hb=>(hf b hb).1⟩⟩
  rw[Int.mul_one]
 done:=by
  intro X hP hw hK hc i pins s σ H E I hf st hg;subst hP hw hK;obtain⟨f0,f1,f2,f3,f4,f5⟩:=hf it (by simp)
  exact wpAny_pyNext_range_end (I.ok.hd hc) st (by have:n<=i:=hg;lia) λh' eb=>⟨rfl,I.turned (t':=s.toks) (λb o hb e=>eb b o hb e) f0 f1 f3 f4 f5⟩
 self:=λ_ _ _ _ _ st h=>wpAny_pyIter_rangeiter st h
section
variable {X:Cx}{tg:Expr}
def G9 (K:PySem.W.Frag)(tl:TE):TI:=λσ H R=>tl σ H λx H1=>∃a,x=.ref a/\(∃xs,dg K H1 a xs)/\R (JE K a) H1
theorem sJ {l:Expr}{tl:TE}(hl:PE X l tl):PI X tg l (G9 X.K tl):=by
 intro pins s σ H R I h;refine br (hl pins s σ H _ I h) λv s1 ⟨x,H1,I1,r1,q1⟩=>?_;obtain⟨a,e,⟨xs,hq⟩,q⟩:=q1;subst e;cases r1;obtain⟨its,rv,p,hz⟩:=I1.list hq;refine wpAny_pyIter_list p.isList ?_;refine⟨s1.heap.objs.size,[s1.heap.objs.size],_,_,H1,rfl,I1.kept (t':=s1.toks) λb o e=>Q8 _ e,tR a _,⟨_,RV _ rfl,rfl,rfl⟩,λb hb=>?_,q⟩;have e:b=s1.heap.objs.size:=by simpa using hb
 subst e;exact I1.Bj (Q4 _) (I1.bj.fresh (Q4 _))
theorem nY {pins:List (Addr×Obj)}{σ:St}{H:Hp}{s:Q1}{R:It->Hp->Prop}{E:QZ->Q1->Prop}{lo hi:Int}{t u v:Tok}{tk:Nat}(I:Inv X pins σ H s)(h1:-(2 ^ 62)<=lo)(h2:lo<2 ^ 62)(h3:-(2 ^ 62)<=hi)(h4:hi<2 ^ 62)
  (q:R (IP lo (hi-lo).toNat) H):RA (model X.prog X.w) X.A (Vp (.ref s.heap.objs.size)) (JA X pins σ tg R) E {s with heap:=s.heap.push {cls:=.type "range",data:=.fields #[.int lo t,.int hi u,.int 1 v]},toks:=tk}:=by
 refine wpAny_pyIter_range (IsRange.new ..) (small_one h1 h2 h3 h4) ?_;have I1:Inv X pins σ H {s with heap:=s.heap.push {cls:=.type "range",data:=.fields #[.int lo t,.int hi u,.int 1 v]},toks:=tk}:=I.kept λb o e=>Q8 _ e
 refine⟨(s.heap.push {cls:=.type "range",data:=.fields #[.int lo t,.int hi u,.int 1 v]}).objs.size,[(s.heap.push {cls:=.type "range",data:=.fields #[.int lo t,.int hi u,.int 1 v]}).objs.size],_,_,H,rfl,
  I1.kept (t':=tk) λb o e=>Q8 _ e,qm _ lo (hi-lo).toNat,?_,λb hb=>?_,q⟩
 ·have e1:lo+((0:Nat):Int)*1=lo:=by simp
  have e2:(((hi-lo).toNat:Nat):Int)-((0:Nat):Int)=TX lo hi 1:=by rw[rangeSize_one];split <;> lia
  show VQ _ _ (lo+((0:Nat):Int)*1) ((((hi-lo).toNat:Nat):Int)-((0:Nat):Int)) 1;rw[e1,e2];exact RV _ rfl
 ·have e:b=(s.heap.push {cls:=.type "range",data:=.fields #[.int lo t,.int hi u,.int 1 v]}).objs.size:=by simpa using hb
  subst e;exact I1.Bj (Q4 _) (I1.bj.fresh (Q4 _))
def G7 (ta:TA):TI:=λσ H R=>ta σ H λvs H1=>∃j:Int,vs=[.int j]/\-(2 ^ 62)<=j/\j<2 ^ 62/\R (IP 0 j.toNat) H1
def G6 (ta:TA):TI:=λσ H R=>ta σ H λvs H1=>∃i j:Int,vs=[.int i,.int j]/\(-(2 ^ 62)<=i/\i<2 ^ 62/\-(2 ^ 62)<=j/\j<2 ^ 62)/\R (IP i (j-i).toNat) H1
theorem uk {a:Expr} {ta:TA} {p pos:Pos} (hg:Gl X "range") (hm:X.mg "range" = none) (ha:PA X [a] ta) (hs:Rc [a] X.env=[(false,eval a X.env)]:=by rfl):PI X tg (.Call (.Name "range" p) [a] [] pos) (G7 ta):=by
 intro pins s σ H R I h;refine Call_ (g_ I hg hm boot_range (Th (br (ha pos pins s σ H _ I h) λus s1 ⟨vs,H1,I1,r1,q1⟩=>?_) hs rfl));obtain⟨j,e,q1,q2,q⟩:=q1;subst e;cases r1 with
 |cons r rr =>
  cases rr;obtain⟨t,rfl⟩:=r;exact call_range_1 (nY I1 (by lia) (by lia) q1 q2 (by simpa using q))
theorem lC {a b:Expr} {ta:TA} {p pos:Pos} (hg:Gl X "range") (hm:X.mg "range" = none) (ha:PA X [a,b] ta) (hs:Rc [a,b] X.env=[(false,eval a X.env),(false,eval b X.env)]:=by rfl) (uQ:Rc [b] X.env=[(false,eval b X.env)]:=by rfl) :
  PI X tg (.Call (.Name "range" p) [a,b] [] pos) (G6 ta):=by
 intro pins s σ H R I h;refine Call_ (g_ I hg hm boot_range (Th (br (ha pos pins s σ H _ I h) λus s1 ⟨vs,H1,I1,r1,q1⟩=>?_) (by rw[hs,uQ]) (by rw[uQ];rfl)))
 obtain⟨i,j,e,⟨q1,q2,q3,q4⟩,q⟩:=q1;subst e;cases r1 with
 |cons r rr =>
  cases rr with
  |cons r' rr =>
   cases rr;obtain⟨t,rfl⟩:=r;obtain⟨t',rfl⟩:=r';exact call_range_2 (nY I1 q1 q2 q3 q4 q)
def JT (wi:TI)(g:TG)(tb:TS):TS:=λD σ H=>wi σ H λJ H1=>∃W:Nat->Nat->St->Hp->Prop,(∃m,W 0 m σ H1)/\∀i m σ H,W i m σ H ->
 (J.stop i H/\D.nx σ H)\/(J.go i H/\∃N:St->Hp->Prop,(∀σ' H',N σ' H'->∃m',m'<m/\W (i+1) m' σ' H')/\∀x H',J.FE i H x H'->g x σ H' λσ2 H2=>tb {D with nx:=N,ct:=N,bk:=D.nx} σ2 H2)
def jz (fp:List Addr)(h:Heap):List (Addr×Obj):=fp.filterMap λb=>(h.get? b).map λo=>(b,o)
theorem eh {fp:List Addr}{h:Heap}{b:Addr}{o:Obj}(hb:b∈fp)(e:h.get? b=some o):(b,o)∈jz fp h:=TR.mpr ⟨b,hb,by rw[e];rfl⟩
theorem uq {fp:List Addr}{h:Heap}{p:Addr×Obj}(hp:p∈jz fp h):p.1∈fp/\h.get? p.1=some p.2:=by
 obtain⟨b,hb,e⟩:=TR.mp hp;cases q:h.get? b with
 |none=>rw[q]at e;cases e
 |some o =>
  rw[q]at e;have e':(b,o)=p:=RC e;subst e';exact⟨hb,q⟩
theorem Inv.pinned {pins:List (Addr×Obj)}{σ:St}{H:Hp}{s:Q1}{fp:List Addr}(I:Inv X pins σ H s)(hf:∀b∈fp,gg X pins H b)(ho:∀b∈fp,∃o,s.heap.get? b=some o/\∀v,o.data≠.cell v):Inv X (pins++jz fp s.heap) σ H s :=
 I.sH λp hp=>(Rx.mp hp).elim (λz=>I.pin p (RX _ z)) λz=>by
  obtain⟨hb,e⟩:=uq z;obtain⟨f0,f1,f2,_⟩:=hf p.1 hb;obtain⟨o,e',d⟩:=ho p.1 hb;rw[e]at e';cases e';exact⟨e,f0,f1,f2,d⟩
theorem Inv.gk {pins pl:List (Addr×Obj)}{σ:St}{H:Hp}{s:Q1}(I:Inv X (pins++pl) σ H s):Inv X pins σ H s:=I.sH λp hp=>I.pin p (RX _ (Sh _ hp))
theorem wL {iter:Expr}{body:List Stmt}{wi:TI}{g:TG}{tb:TS}{pos:Pos}(hp:VH (model X.prog X.w) X.A X.env X.xe)(hc:X.calm=true)(hi:PI X tg iter wi)(hg:PG X tg g)(hb:ny X body tb)
  (hs:∀x,Se iter X.env x=pure x:=by intro _;rfl):PS X (.For tg iter body [] pos) (JT wi g tb):=by
 intro pins s σ H D I h;refine wpAny_For (br (hi pins s σ H _ I h) λv s1 h1=>br h1 λB_ s2 h2=>?_) hs;obtain⟨it,fp,tn,J,H2,e,I2,T,eJ,f2,W,⟨m0,w0⟩,turn⟩:=h2;subst e;have qr:∀{H':Hp},(∀b∈fp,H' b=none)->∀b∈fp,gg X pins H' b:=λhn b hb=>⟨hn b hb,(f2 b hb).2⟩;refine codeAny_forLoop_any (λn s'=>∃i σ' H',Inv X pins σ' H' s'/\tn i s'.heap/\(∀b∈fp,H' b=none)/\W i n σ' H') ?_ m0 ⟨0,σ,H2,I2,eJ,λb hb=>(f2 b hb).1,w0⟩;rintro n s3 ⟨i,σ3,H3,I3,jl,Ir,w3⟩;rcases turn i n σ3 H3 w3 with⟨stop,qn⟩|⟨go,N,hN,step⟩
 ·refine Ta hp (br (T.done X rfl rfl rfl hc i pins s3 σ3 H3 X.xe I3 (qr Ir) jl stop) λr s4 ⟨hr,I4⟩=>?_);subst hr;exact Ui ⟨σ3,H3,I4,qn⟩
 ·refine Ta hp (br (T.item X rfl rfl rfl hc i pins s3 σ3 H3 X.xe I3 (qr Ir) jl go) λr s4 ⟨u,hr,h4⟩=>?_);subst hr;refine Ta hp (br h4 λ_ s5 ⟨x,H5,I5,r5,y5,Dc,L6⟩=>?_);have Mu:=I5.pinned (qr L6) (T.obj _ _ Dc);refine Ta hp (br (hg _ s5 σ3 H5 x u _ Mu r5 (step x H5 y5)) λ_ s6 ⟨σ6,H6,I6,q6⟩=>?_);refine Ta hp (br (hb _ s6 σ6 H6 _ I6 q6) λf s7 q7=>?_);have again:∀{σ7:St} {H7:Hp},Inv X (pins++jz fp s5.heap) σ7 H7 s7->N σ7 H7->∃m,m<n/\∃i σ' H',Inv X pins σ' H' s7/\tn i s7.heap/\(∀b∈fp,H' b=none)/\W i m σ' H':=λ{σ7 H7} I7 n7=>by
   obtain⟨m',hm,w7⟩:=hN σ7 H7 n7;refine⟨m',hm,i+1,σ7,H7,I7.gk,T.keep _ _ _ Dc λb hb o e=>(I7.pin (b,o) (RX _ (RX _ (eh hb e)))).1,λb hb=>?_,w7⟩;obtain⟨o,e,d⟩:=T.obj _ _ Dc b hb;exact(I7.pin (b,o) (RX _ (RX _ (eh hb e)))).2.1
  cases f with
  |next=>obtain⟨σ7,H7,I7,n7⟩:=q7;exact again I7 n7
  |cont=>obtain⟨σ7,H7,I7,n7⟩:=q7;exact again I7 n7
  |brk=>obtain⟨σ7,H7,I7,q7⟩:=q7;exact⟨σ7,H7,I7.gk,q7⟩
  |ret v=>obtain⟨x7,σ7,H7,I7,r7,q7⟩:=q7;exact⟨x7,σ7,H7,I7.gk,r7,q7⟩
end
abbrev R2:=V->V->Hp->VK->Prop
def gL (X:Cx)(f:QZ->QZ->Sem QZ)(r:R2):Prop :=
 ∀(pins:List (Addr×Obj)) (s:Q1) (σ:St) (H:Hp) (x y:V) (v u:QZ) (Q:VK),Inv X pins σ H s->RelV x v->RelV y u->r x y H Q ->
  RA (model X.prog X.w) X.A (f v u) (EP X pins σ Q) X.xe s
def II (X:Cx)(f:QZ->Sem QZ)(r:V->Hp->VK->Prop):Prop :=
 ∀(pins:List (Addr×Obj)) (s:Q1) (σ:St) (H:Hp) (x:V) (v:QZ) (Q:VK),Inv X pins σ H s->RelV x v->r x H Q ->
  RA (model X.prog X.w) X.A (f v) (EP X pins σ Q) X.xe s
def eR (X:Cx)(f:QZ)(r:List V->Hp->VK->Prop):Prop :=
 ∀(pins:List (Addr×Obj)) (s:Q1) (σ:St) (H:Hp) (xs:List V) (us:List QZ) (Q:VK),Inv X pins σ H s->Vals xs us->r xs H Q ->
  RA (model X.prog X.w) X.A (call f us) (EP X pins σ Q) X.xe s
def Mn (X:Cx)(r:V->Hp->(Bool->Hp->Prop)->Prop):Prop :=
 ∀(pins:List (Addr×Obj)) (s:Q1) (σ:St) (H:Hp) (x:V) (v:QZ) (Q:Bool->Hp->Prop),Inv X pins σ H s->RelV x v->r x H Q ->
  RA (model X.prog X.w) X.A (truthy v) (TP X pins σ Q) X.xe s
def FP (r:R2)(ta tb:TE):TE:=λσ H Q=>ta σ H λx H1=>tb σ H1 λy H2=>r x y H2 Q
def N_ (r:V->Hp->VK->Prop)(ta:TE):TE:=λσ H Q=>ta σ H λx H1=>r x H1 Q
def rI (C:Int->Int->Prop)(g:Int->Int->V):R2:=λx y H Q=>∃i j,x=.int i/\y=.int j/\C i j/\Q (g i j) H
def zY (g:Int->Int->V):R2:=λx y H Q=>∃i j,x=.int i/\y=.int j/\Q (g i j) H
def rU (g:Int->V):V->Hp->VK->Prop:=λx H Q=>∃i,x=.int i/\Q (g i) H
section
variable {X:Cx}{a b:Expr}{ta tb:TE}{pos:Pos}
theorem Fc (ha:PE X a ta)(hb:PE X b tb){pins:List (Addr×Obj)}{s:Q1}{σ:St}{H:Hp}{R:V->V->Hp->Prop}(I:Inv X pins σ H s)
  (h:ta σ H λx H1=>tb σ H1 λy H2=>R x y H2) {Q:QZ->Q1->Prop} {f:QZ->QZ->Sem QZ}
  (hf:∀v u s2 x y H2,Inv X pins σ H2 s2->RelV x v->RelV y u->R x y H2->RA (model X.prog X.w) X.A (f v u) Q X.xe s2) :
  RA (model X.prog X.w) X.A (eval a X.env) (λv s₁=>RA (model X.prog X.w) X.A (eval b X.env) (λu s₂=>RA (model X.prog X.w) X.A (f v u) Q X.xe s₂) X.xe s₁) X.xe s:=by
 refine br (ha pins s σ H _ I h) λv s1 ⟨x,H1,I1,r1,q1⟩=>?_;refine br (hb pins s1 σ H1 _ I1 q1) λu s2 ⟨y,H2,I2,r2,q2⟩=>?_;exact hf v u s2 x y H2 I2 r1 r2 q2
theorem cC {op:Operator}{r:R2}(ho:gL X (Tq op) r)(ha:PE X a ta)(hb:PE X b tb):PE X (.BinOp a op b pos) (FP r ta tb):=by
 intro pins s σ H Q I h;exact wpAny_BinOp (Fc ha hb I h λv u s2 x y H2 I2 rx ry q=>ho pins s2 σ H2 x y v u Q I2 rx ry q)
theorem BQ {op:UnaryOp}{r:V->Hp->VK->Prop}(ho:II X (unaryOp op) r)(ha:PE X a ta):PE X (.UnaryOp op a pos) (N_ r ta):=by
 intro pins s σ H Q I h;exact UnaryOp_ (br (ha pins s σ H _ I h) λv s1 K_=>by obtain⟨x,H1,I1,r1,q1⟩:=K_;exact ho pins s1 σ H1 x v Q I1 r1 q1)
theorem I_ {f:QZ->QZ->Sem QZ}{C:Int->Int->Prop}{g:Int->Int->Int}
  (rule:∀(i j:Int) (t u:Tok) (s:Q1) (Q:QZ->Q1->Prop) (E:QZ->Q1->Prop),C i j->Q (.int (g i j) s.toks) {s with toks:=s.toks+1}->RA (model X.prog X.w) X.A (f (.int i t) (.int j u)) Q E s) :
  gL X f (rI C λi j=>.int (g i j)):=by
 intro pins s σ H x y v u Q I rx ry h;obtain⟨i,j,rfl,rfl,hc,q⟩:=h;obtain⟨t,rfl⟩:=rx;obtain⟨t',rfl⟩:=ry;exact rule i j t t' s _ _ hc ⟨.int (g i j),H,I.tok _,⟨_,rfl⟩,q⟩
theorem Gp {f:QZ->QZ->Sem QZ}{g:Int->Int->Int}
  (rule:∀(i j:Int) (t u:Tok) (s:Q1) (Q:QZ->Q1->Prop) (E:QZ->Q1->Prop),Q (.int (g i j) s.toks) {s with toks:=s.toks+1}->RA (model X.prog X.w) X.A (f (.int i t) (.int j u)) Q E s) :
  gL X f (zY λi j=>.int (g i j)):=by
 intro pins s σ H x y v u Q I rx ry h;obtain⟨i,j,rfl,rfl,q⟩:=h;obtain⟨t,rfl⟩:=rx;obtain⟨t',rfl⟩:=ry;exact rule i j t t' s _ _ ⟨.int (g i j),H,I.tok _,⟨_,rfl⟩,q⟩
theorem DL {f:QZ->QZ->Sem QZ}{g:Int->Int->Bool}
  (rule:∀(i j:Int) (t u:Tok) (s:Q1) (Q:QZ->Q1->Prop) (E:QZ->Q1->Prop),Q (.bool (g i j)) s->RA (model X.prog X.w) X.A (f (.int i t) (.int j u)) Q E s) :
  gL X f (zY λi j=>.bl (g i j)):=by
 intro pins s σ H x y v u Q I rx ry h;obtain⟨i,j,rfl,rfl,q⟩:=h;obtain⟨t,rfl⟩:=rx;obtain⟨t',rfl⟩:=ry;exact rule i j t t' s _ _ ⟨.bl (g i j),H,I,rfl,q⟩
def rT (i j:Int):Prop:=0<=j/\j<=1000000/\i.natAbs<2 ^ 64
def zd (i j:Int):Prop:=(-(2 ^ 64)<i/\i<2 ^ 64)\/(-(2 ^ 64)<j/\j<2 ^ 64)
theorem zd.ok {i j:Int}(h:zd i j):IntMulOk i j:=by
 rcases h with⟨h1,h2⟩|⟨h1,h2⟩
 ·exact .of_left (intBits_le_64 h1 h2)
 ·exact .of_right (intBits_le_64 h1 h2)
theorem qO:gL X (Tq .Add) (zY λi j=>.int (i+j)):=Gp λ_ _ _ _ _ _ _ q=>add_int q
theorem xh:gL X (Tq .Sub) (zY λi j=>.int (i-j)):=Gp λ_ _ _ _ _ _ _ q=>sub_int q
theorem xi:gL X (Tq .Mult) (rI zd λi j=>.int (i*j)):=I_ λ_ _ _ _ _ _ _ hc q=>mul_int q hc.ok
theorem jH:gL X (Tq .Mod) (rI (λ_ j=>0<j) λi j=>.int (i % j)):=I_ λi j _ _ _ _ _ hc q=>by
 have h1:(0:Int)<j:=hc;exact mod_int' (by lia) (by rw[Int.fmod_eq_emod_of_nonneg i (by lia)];exact q)
theorem jG:gL X (Tq .Pow) (rI rT λi j=>.int (i ^ j.toNat)):=I_ λ_ _ _ _ _ _ _ hc q=>pow_int_small hc.1 hc.2.1 hc.2.2 q
theorem N5 {f:QZ->Sem QZ}{g:Int->Int}
  (rule:∀(i:Int) (t:Tok) (s:Q1) (Q:QZ->Q1->Prop) (E:QZ->Q1->Prop),Q (.int (g i) s.toks) {s with toks:=s.toks+1}->RA (model X.prog X.w) X.A (f (.int i t)) Q E s) :
  II X f (rU λi=>.int (g i)):=by
 intro pins s σ H x v Q I rx h;obtain⟨i,rfl,q⟩:=h;obtain⟨t,rfl⟩:=rx;exact rule i t s _ _ ⟨.int (g i),H,I.tok _,⟨_,rfl⟩,q⟩
theorem vQ:II X (unaryOp .USub) (rU λi=>.int (-i)):=N5 λ_ _ _ _ _ q=>neg_int q
end
def J3:V->V->Bool
 |.bB,.bB=>true | .bB,.int _=>true | .int _,.bB=>true | .bB,.bl _=>true | .bl _,.bB=>true | .bB,.str _=>true | .str _,.bB=>true
 |.int _,.int _=>true | .bl _,.bl _=>true | .str _,.str _=>true | .yM _,.yM _=>true
 |.int _,.str _=>true | .str _,.int _=>true | .bl _,.str _=>true | .str _,.bl _=>true
 |_,_=>false
def Ov:R2:=λx y H Q=>J3 x y=true/\Q (.bl (!decide (x=y))) H
theorem Bn {i j:Int}:decide (V.int i=V.int j)=(i==j):=by
 rw[Ul];simp
theorem E3 {i j:Bool}:decide (V.bl i=V.bl j)=(i==j):=by
 rw[Ul];simp
theorem Bm {i j:Str}:decide (V.str i=V.str j)=(i==j):=by
 rw[Ul];simp
theorem Bo {i j:Array UInt8}:decide (V.yM i=V.yM j)=(i.toList==j.toList):=by
 rw[Ul];cases i;cases j;simp
section
variable {X:Cx}{a b c:Expr}{ta tb:TE}{pos:Pos}
theorem bz {pins:List (Addr×Obj)}{σ:St}{H:Hp}{s:Q1}{Q:VK}{k k':Bool}(I:Inv X pins σ H s)(q:Q (.bl k) H)(e:k=k'):EP X pins σ Q (.bool k') s:=by
 subst e;exact⟨.bl k,H,I,rfl,q⟩
theorem Gk:gL X (Sk .NotEq) Ov:=by
 intro pins s σ H x y v u Q I rx ry h;obtain⟨hs,q⟩:=h;cases x with
 |bB =>
  cases rx;cases y with
  |bB=>cases ry;exact PySem.EqNone.ne_none_none (bz I q (by simp))
  |bl j=>cases ry;exact PySem.EqNone.ne_none_bool (bz I q (by simp))
  |int j=>obtain⟨t',rfl⟩:=ry;exact PySem.EqNone.ne_none_int (bz I q (by simp))
  |str j=>obtain⟨t',rfl⟩:=ry;exact PySem.EqNone.ne_none_str (bz I q (by simp))
  |_=>exact absurd (show false=true from hs) SI
 |bl i =>
  cases rx;cases y with
  |bB=>cases ry;exact PySem.EqNone.ne_bool_none (bz I q (by simp))
  |bl j=>cases ry;exact ne_bool (bz I q (congrArg not E3))
  |str j=>obtain⟨t',rfl⟩:=ry;exact PySem.EqMixed.ne_bool_str (bz I q (by simp))
  |_=>exact absurd (show false=true from hs) SI
 |int i =>
  obtain⟨t,rfl⟩:=rx;cases y with
  |bB=>cases ry;exact PySem.EqNone.ne_int_none (bz I q (by simp))
  |int j=>obtain⟨t',rfl⟩:=ry;exact ne_int (bz I q (congrArg not Bn))
  |str j=>obtain⟨t',rfl⟩:=ry;exact PySem.EqMixed.ne_int_str (bz I q (by simp))
  |_=>exact absurd (show false=true from hs) SI
 |str i =>
  obtain⟨t,rfl⟩:=rx;cases y with
  |bB=>cases ry;exact PySem.EqNone.ne_str_none (bz I q (by simp))
  |bl j=>cases ry;exact PySem.EqMixed.ne_str_bool (bz I q (by simp))
  |int j=>obtain⟨t',rfl⟩:=ry;exact PySem.EqMixed.ne_str_int (bz I q (by simp))
  |str j=>obtain⟨t',rfl⟩:=ry;exact ne_str (bz I q (congrArg not Bm))
  |_=>exact absurd (show false=true from hs) SI
 |yM i =>
  obtain⟨t,rfl⟩:=rx;cases y with
  |yM j=>obtain⟨t',rfl⟩:=ry;exact PySem.W.ne_bytes (bz I q (congrArg not Bo))
  |_=>exact absurd (show false=true from hs) SI
 |_=>cases y <;> exact absurd (show false=true from hs) SI
theorem Gm:gL X (Sk .Lt) (zY λi j=>.bl (decide (i<j))):=DL λ_ _ _ _ _ _ _ q=>lt_int q
theorem Gn:gL X (Sk .LtE) (zY λi j=>.bl (decide (i<=j))):=DL λ_ _ _ _ _ _ _ q=>le_int q
theorem BV:gL X (Sk .Gt) (zY λi j=>.bl (decide (j<i))):=DL λ_ _ _ _ _ _ _ q=>gt_int q
theorem DK:gL X (Sk .Is) (λx y H Q=>y=.bB/\Q (.bl (decide (x=.bB))) H):=by
 intro pins s σ H x y v u Q I rx ry h;obtain⟨rfl,q⟩:=h;cases ry;refine is_none_gen (bz I q ?_);cases x <;> first
  | (cases rx;rfl)
  | (obtain⟨t,rfl⟩:=rx;rfl)
theorem Ar:gL X (Sk .IsNot) (λx y H Q=>y=.bB/\Q (.bl (!decide (x=.bB))) H):=by
 intro pins s σ H x y v u Q I rx ry h;obtain⟨rfl,q⟩:=h;cases ry;refine isnot_none_gen (bz I q ?_);cases x <;> first
  | (cases rx;rfl)
  | (obtain⟨t,rfl⟩:=rx;rfl)
theorem xw (b:Expr){op:Uu}(h:op≠.In:=by decide)(h2:op≠.NotIn:=by decide):Td op b=false:=by
 have e1:(op==CmpOp.In)=false:=by cases op <;> first|rfl|exact absurd rfl h
 have e2:(op==CmpOp.NotIn)=false:=by cases op <;> first|rfl|exact absurd rfl h2
 cases b <;> simp[Td,e1,e2]
theorem sM {op:Uu}{r:R2}(ho:gL X (Sk op) r)(ha:PE X a ta)(hb:PE X b tb)(hm:Td op b=false):PE X (.Compare a [op] [b] pos) (FP r ta tb):=by
 intro pins s σ H Q I h;exact wpAny_Compare1 (Fc ha hb I h λv u s2 x y H2 I2 rx ry q=>ho pins s2 σ H2 x y v u Q I2 rx ry q) hm
def FN (t:TE):TT:=λσ H Q=>t σ H λx H'=>∃k,x=.bl k/\Q k H'
theorem si {op:Uu}{r:R2}(ho:gL X (Sk op) r)(ha:PE X a ta)(hb:PE X b tb)(hm:Td op b=false):PT X (.Compare a [op] [b] pos) (FN (FP r ta tb)):=by
 intro pins s σ H Q I h;refine wpAny_isTrue_Compare1 (br (ha pins s σ H _ I h) λv s1 ⟨x,H1,I1,r1,q1⟩=>br (hb pins s1 σ H1 _ I1 q1) λu s2 ⟨y,H2,I2,r2,q2⟩ =>
  br (ho pins s2 σ H2 x y v u _ I2 r1 r2 q2) λc s3 ⟨z,H3,I3,r3,k,e,q3⟩=>?_) hm
 subst e;cases r3;exact Tf ⟨H3,I3,q3⟩
def IJ (K:PySem.W.Frag)(x:V)(H:Hp)(k:Bool):Prop :=
 match x with
 |.bB=>k=false
 |.bl b=>k=b
 |.int i=>k=(i != 0)
 |.str y=>y.length<=Ri/\k=((y.length:Int) != 0)
 |.yM y=>y.size<=Ri/\k=((y.size:Int) != 0)
 |.ref p=>(∃xs,dg K H p xs/\k=!xs.isEmpty)\/(∃xs,vi K H p xs/\k=!xs.isEmpty)\/∃kvs,H p=some (.dK kvs)/\k=!kvs.isEmpty
 |_=>False
theorem q_ {κ:Type}{kvs:List (κ×V)}{vs:List (κ×QZ)}(r:KV kvs vs):(!vs.isEmpty)=!kvs.isEmpty:=by
 cases r <;> rfl
theorem jU {xs:List V}{its:List QZ}(r:Vals xs its):(!its.toArray.isEmpty)=!xs.isEmpty:=by
 cases r <;> simp
theorem mQ:(Ri:Nat)<2 ^ 63:=by rw[Sd];decide
theorem C5:Mn X (λx H Q=>∃k,IJ X.K x H k/\Q k H):=by
 intro pins s σ H x v Q I rx h;obtain⟨k,e,q⟩:=h;have hl:=mQ;have hs:Ri=16777216:=Sd;cases x with
 |bB =>
  cases rx;have e':k=false:=e;subst e';exact truthy_none ⟨H,I,q⟩
 |bl b =>
  cases rx;have e':k=b:=e;subst e';exact Tf ⟨H,I,q⟩
 |int i =>
  obtain⟨t,rfl⟩:=rx;have e':k=(i != 0):=e;subst e';exact PySem.P.truthy_int ⟨H,I,q⟩
 |str y =>
  obtain⟨t,rfl⟩:=rx;obtain⟨hy,e'⟩:y.length<=Ri/\k=((y.length:Int) != 0):=e;subst e';exact PySem.P.truthy_str (by lia) ⟨H,I.tok _,q⟩
 |yM y =>
  obtain⟨t,rfl⟩:=rx;obtain⟨hy,e'⟩:y.size<=Ri/\k=((y.size:Int) != 0):=e;subst e';exact PySem.W.truthy_bytes (by lia) ⟨H,I.tok _,q⟩
 |ref p =>
  cases rx;have e':(∃xs,dg X.K H p xs/\k=!xs.isEmpty)\/(∃xs,vi X.K H p xs/\k=!xs.isEmpty)\/∃kvs,H p=some (.dK kvs)/\k=!kvs.isEmpty:=e;rcases e' with⟨xs,hx,e'⟩|⟨xs,hx,e'⟩|⟨kvs,hx,e'⟩
  ·subst e';obtain⟨its,r,pl,hz⟩:=I.list hx;have hlen:=r.length;exact wpAny_truthy_list pl.isList (by simp only[Ry];lia) ⟨H,I.tok _,by rw[jU r];exact q⟩
  ·subst e';obtain⟨its,r,pl,hz⟩:=I.tuple hx;have hlen:=r.length;exact truthy_tuple pl (by simp only[Ry];lia) ⟨H,I.tok _,by rw[jU r];exact q⟩
  ·subst e';obtain⟨hz,hS,vs,r,m⟩:kvs.length<=Ri/\(p==Ua)=false/\∃vs,KV kvs vs/\s.heap.DictOf (bE X.prog X.w) p vs:=I.bj p _ hx;have hlen:kvs.length=vs.length:=Paired.length r;exact wpAny_truthy_dict hS m (by lia) ⟨H,I.tok _,by rw[q_ r];exact q⟩
 |_=>exact(show False from e).elim
theorem wI (ha:PE X a ta)(he:∀whole,VG a X.env whole=(do let v <- whole;UQ a.pos;holding [v] (truthy v))):
  PT X a (λσ H Q=>ta σ H λx H'=>∃k,IJ X.K x H' k/\Q k H'):=by
 intro pins s σ H Q I h;exact isTrue_plain (br (ha pins s σ H _ I h) λv s1 K9=>by obtain⟨x,H1,I1,r1,q1⟩:=K9;exact C5 pins s1 σ H1 x v Q I1 r1 q1) (he _)
theorem vals1 {x:V}{us:List QZ}(r:Vals [x] us):∃u,us=[u]/\RelV x u:=by
 cases r with
 |cons r1 r2=>cases r2;exact⟨_,rfl,r1⟩
theorem vals2 {x y:V}{us:List QZ}(r:Vals [x,y] us):∃u w',us=[u,w']/\RelV x u/\RelV y w':=by
 cases r with
 |cons r1 r2 =>
  cases r2 with
  |cons r3 r4=>cases r4;exact⟨_,_,rfl,r1,r3⟩
theorem l7 (hc:X.calm=true):eR X (.builtin "max") (λxs H Q=>∃i j,xs=[.int i,.int j]/\Q (.int (if j>i then j else i)) H):=by
 intro pins s σ H xs us Q I r h;obtain⟨i,j,rfl,q⟩:=h;obtain⟨u,w',rfl,⟨t,rfl⟩,⟨t',rfl⟩⟩:=vals2 r;refine max_two_ints (I.ok.hd hc) λh' tk k=>⟨_,H,I.kept k,?_,q⟩
 by_cases hj:j>i
 ·rw[if_pos hj,if_pos hj];exact⟨_,rfl⟩
 ·rw[if_neg hj,if_neg hj];exact⟨_,rfl⟩
theorem u_ (hc:X.calm=true):eR X (.builtin "min") (λxs H Q=>∃i j,xs=[.int i,.int j]/\Q (.int (if j<i then j else i)) H):=by
 intro pins s σ H xs us Q I r h;obtain⟨i,j,rfl,q⟩:=h;obtain⟨u,w',rfl,⟨t,rfl⟩,⟨t',rfl⟩⟩:=vals2 r;refine min_two_ints (I.ok.hd hc) λh' tk k=>⟨_,H,I.kept k,?_,q⟩
 by_cases hj:j<i
 ·rw[if_pos hj,if_pos hj];exact⟨_,rfl⟩
 ·rw[if_neg hj,if_neg hj];exact⟨_,rfl⟩
theorem ic:eR X (.type "int") (λxs H Q=>(∃i,xs=[.int i]/\Q (.int i) H)\/∃k,xs=[.bl k]/\Q (.int (if k then 1 else 0)) H):=by
 intro pins s σ H xs us Q I r h;rcases h with⟨i,rfl,q⟩|⟨k,rfl,q⟩
 ·obtain⟨u,rfl,t,rfl⟩:=vals1 r;exact call_int_int ⟨.int i,H,I,⟨_,rfl⟩,q⟩
 ·obtain⟨u,rfl,r1⟩:=vals1 r;cases r1;exact call_int_bool ⟨.int (if k then 1 else 0),H,I.tok _,⟨_,rfl⟩,q⟩
end
section
end
theorem lh.some_of {v:V}{o:Option QZ}(r:lh (some v) o):∃u,o=some u/\RelV v u:=by
 cases o with
 |none=>exact(show False from r).elim
 |some u=>exact⟨u,rfl,r⟩
section
end
section
end
section
end
section
end
structure cb (k:Nat)(A:R7):Prop where
 hd:A.handled=none
 dp:A.depth+3*k+5<recursionLimit
 un:A.units+16*k+200<Um
theorem cb.mono {j k:Nat}{A:R7}(r:cb k A)(h:j<=k):cb j A:=⟨r.hd,by have:=r.dp;lia,by have:=r.un;lia⟩
theorem cb.deeper {k:Nat}{A:R7}(r:cb (k+1) A)(env:Env):cb k (A.deeper env) :=
 ⟨r.hd,by have:=r.dp;show A.depth+1+3*k+5<_;lia,by have:=r.un;show A.units+3+16*k+200<_;lia⟩
theorem cb.depth {k:Nat}{A:R7}(r:cb k A):A.depth<recursionLimit:=by have:=r.dp;lia
theorem cb.units {k:Nat}{A:R7}(r:cb k A):A.units+64<Um:=by have:=r.un;lia
def FQ:TA:=λ_ H Q=>Q [] H
def BM (ta:TE)(tr:TA):TA:=λσ H Q=>ta σ H λx H1=>tr σ H1 λxs H2=>Q (x::xs) H2
section
variable {X:Cx}{e:Expr}{es:List Expr}{te:TE}{t:TA}{pos:Pos}
theorem cK:PA X [] FQ:=λ_ _ _ _ H Q I h=>Calls.spliced_nil ⟨[],H,I,.nil,h⟩
theorem bf (ha:PE X e te)(hr:PA X es t)(hs:Rc (e::es) X.env=(false,eval e X.env)::Rc es X.env:=by rfl):PA X (e::es) (BM te t):=by
 intro pos pins s σ H Q I h;rw[hs];show RA _ _ (spliced ((false,eval e X.env)::SF pos (Rc es X.env))) _ _ s;refine Calls.spliced_cons (br (ha pins s σ H _ I h) λu s1 ⟨x,H1,I1,r1,q1⟩=>?_);exact br (hr pos pins s1 σ H1 _ I1 q1) λus s2 ⟨xs,H2,I2,r2,q2⟩=>⟨x::xs,H2,I2,.cons r1 r2,q2⟩
def JN (t:TA):TE:=λσ H Q=>t σ H λxs H1=>xs.length<=Ri/\∀p,H1 p=none->Q (.ref p) (upd H1 p (.tup xs))
def JR (t:TA):TE:=λσ H Q=>t σ H λxs H1=>xs.length<=Ri/\∀p,H1 p=none->Q (.ref p) (upd H1 p (.lst xs))
theorem w6 {x1}(h:PA X es t):PE X (.Tuple es x1 pos) (JN t):=by
 intro pins s σ H Q I hq;refine wpAny_Tuple_spliced (br (h pos pins s σ H _ I hq) λus s1 ⟨xs,H1,I1,r,z,q⟩=>⟨by rw[<- r.length];exact z,?_⟩)
 have hf:H1 s1.heap.objs.size=none:=I1.bj.fresh (Q4 _);refine⟨.ref s1.heap.objs.size,upd H1 s1.heap.objs.size (.tup xs),I1.laid (t':=s1.toks) (λb u e=>Q8 _ e) (Q4 _) ?_,rfl,q _ hf⟩;exact⟨z,us,r,⟨_,RV _ rfl,rfl,_,rfl⟩⟩
theorem qM (h:PA X es t):PE X (.List es pos) (JR t):=by
 intro pins s σ H Q I hq;refine wpAny_List_spliced (br (h pos pins s σ H _ I hq) λus s1 ⟨xs,H1,I1,r,z,q⟩=>⟨by rw[<- r.length];exact z,?_⟩)
 have hf:H1 s1.heap.objs.size=none:=I1.bj.fresh (Q4 _);refine⟨.ref s1.heap.objs.size,upd H1 s1.heap.objs.size (.lst xs),I1.laid (t':=s1.toks) (λb u e=>Q8 _ e) (Q4 _) ?_,rfl,q _ hf⟩;exact⟨z,us,0,r,RV _ rfl⟩
end
abbrev Sp:=List V->Hp->VK->XK->Prop
abbrev vm:=List Env->Hp->Q1->XK->QZ->Q1->Prop
structure BJ (P:Q6)(w:Rl)(K:PySem.W.Frag)(mg:Str->Option QZ)(base:Heap)(A:R7)(outer:List Env)(s:Q1)(H:Hp):Prop where
 frames:A.frames=some outer
 mod:Mod K mg base
 bs:∀b o,base.get? b=some o->s.heap.get? b=some o/\H b=none
 yQ:base.objs.size<=s.heap.objs.size
 gH:s.heap.FunFrames base outer
 Bi:∀b∈eY outer,H b=none
 bj:eW P w H s.heap
 bare:UA s.gens
def CE (outer:List Env)(P:Q6)(w:Rl)(H:Hp)(s:Q1)(Q:VK)(u:QZ)(s':Q1):Prop :=
 ∃v H',s'.os=s.os/\UA s'.gens/\Un (eY outer) [] H H' s.heap s'.heap/\eW P w H' s'.heap/\RelV v u/\Q v H'
def CR (CX:vm)(outer:List Env)(P:Q6)(w:Rl)(H:Hp)(s:Q1)(Q:VK)(E:XK)(r:Result)(s':Q1):Prop :=
 match r with
 |.ok (.ret u)=>CE outer P w H s Q u s'
 |.ok _=>False
 |.error e=>CX outer H s E e s'
structure aM (P:Q6)(w:Rl)(K:PySem.W.Frag)(mg:Str->Option QZ)(base:Heap)(CX:vm)(k:Nat)(f:Addr)(fd:RY)(ps:List Str)(sp:Sp):Prop where
 len:∀vs H Q E,sp vs H Q E->vs.length=ps.length
 run:∀(A:R7) (outer:List Env) (s:Q1) (H:Hp) (args:Args) (us:List QZ) (vs:List V) (Q:VK) (E:XK),cb k A->BJ P w K mg base A outer s H->BindsTo s fd args (ps.zip us)->Vals vs us->sp vs H Q E ->
  Up (model P w) A (.call (.ref f) args) (CR CX outer P w H s Q E) s
theorem aM.imp {P:Q6}{w:Rl}{K:PySem.W.Frag}{mg:Str->Option QZ}{base:Heap}{CX:vm}{k:Nat}{f:Addr}{fd:RY}{ps:List Str}{sp MJ:Sp}(F:aM P w K mg base CX k f fd ps sp)
  (h:∀vs H Q E,MJ vs H Q E->sp vs H Q E):aM P w K mg base CX k f fd ps MJ :=
 ⟨λvs H Q E q=>F.len vs H Q E (h _ _ _ _ q),λA outer s H args us vs Q E hr he hb hv hs=>F.run A outer s H args us vs Q E hr he hb hv (h _ _ _ _ hs)⟩
section
variable {X:Cx}{pins:List (Addr×Obj)}{σ:St}{H:Hp}{s s':Q1}
theorem Inv.Iu (I:Inv X pins σ H s):BJ X.prog X.w X.K X.mg X.base X.A X.stack s H :=
 ⟨I.ok.frames,I.ok.mod,I.bs,R6 I.ok.yQ I.sz,I.stack,I.my,I.bj,I.bare⟩
theorem Inv.after {Q:VK}{u:QZ}(I:Inv X pins σ H s)(h:CE X.stack X.prog X.w H s Q u s'):EP X pins σ Q u s':=by
 obtain⟨v,H',os,bare,un,bj,r,q⟩:=h;obtain⟨hh,g,d,t,Kv⟩:=s';obtain rfl:Kv=s.os:=os;exact⟨v,H',I.call (h':=hh) (g':=g) (d':=d) (t':=t) (ch:=[]) un bj bare (λb z=>absurd z (by simp)),r,q⟩
end
def FU (sp:Sp)(Cq:List V)(E:XK)(t:TA):TE:=λσ H Q=>t σ H λvs H1=>sp (vs++Cq) H1 Q E
def Binds (K:PySem.W.Frag)(fd:RY)(ps:List Str)(ds:List QZ):Prop :=
 ∀(s:Q1) (us:List QZ),K.In s.heap->(us++ds).length=ps.length->BindsTo s fd ⟨us,[]⟩ (ps.zip (us++ds))
theorem Binds.all {K:PySem.W.Frag}{fd:RY}{ps:List Str}(h:∀us:List QZ,us.length=ps.length->bindArgs fd ⟨us,[]⟩=pure (ps.zip us)):Binds K fd ps []:=λs us _ hl=>by
 rw[Sr]at hl ⊢
 exact .of_eq (h us hl)
def Passes (CX:vm)(X:Cx)(E:XK):Prop:=∀(pins:List (Addr×Obj)) (σ:St) (H:Hp) (s:Q1) (e:QZ) (s':Q1),Inv X pins σ H s->CX X.stack H s E e s'->X.xe e s'
section
variable {X:Cx}{CX:vm}{k:Nat}{f:Addr}{fd:RY}{ps:List Str}{sp:Sp}{Cq:List V}{ds:List QZ}{E:XK}{x:Str}{p pos:Pos}{e:Expr}{es:List Expr}{t:TA}
theorem Dq {pins:List (Addr×Obj)}{σ:St}{H:Hp}{s:Q1}{Q:VK}{us:List QZ}{vs:List V}(F:aM X.prog X.w X.K X.mg X.base CX k f fd ps sp)(hr:cb k X.A)(hb:Binds X.K fd ps ds)(hd:Vals Cq ds)(hx:Passes CX X E)
  (I:Inv X pins σ H s) (r:Vals vs us) (h:sp (vs++Cq) H Q E):RA (model X.prog X.w) X.A (call (.ref f) us) (EP X pins σ Q) X.xe s:=by
 have r2:Vals (vs++Cq) (us++ds):=r.append hd;have hl:(us++ds).length=ps.length:=by rw[<- r2.length];exact F.len _ _ _ _ h
 refine UP (Tw (F.run X.A X.stack s H ⟨us,[]⟩ (us++ds) (vs++Cq) Q E hr I.Iu (hb s us I.vt hl) r2 h) λr s' hq=>?_);cases r with
 |error e=>exact hx pins σ H s e s' I hq
 |ok fl =>
  cases fl with
  |ret u=>exact I.after hq
  |next=>exact SY hq
  |brk=>exact SY hq
  |cont=>exact SY hq
theorem sN (F:aM X.prog X.w X.K X.mg X.base CX k f fd ps sp)(hr:cb k X.A)(hg:Gl X x)(hm:X.mg x=some (.ref f))(hk:PySem.W.keepIn X.K (.ref f)=true)(hb:Binds X.K fd ps ds)(hd:Vals Cq ds)(hx:Passes CX X E)
  (ha:PA X (e::es) t) (hdb:(x==("__debug__" : Str))=false:=by decide) (he:Rc (e::es) X.env=(false,eval e X.env)::Rc es X.env:=by rfl) (hpl:(SF pos (Rc es X.env)).any (·.1)=false:=by rfl) :
  PE X (.Call (.Name x p) (e::es) [] pos) (FU sp Cq E t):=by
 intro pins s σ H Q I h;refine Uq (gD I hg hm ?_ hdb);refine PySem.W.callWith_K (h₀:=X.base) I.ok.mod.Je hk (br (ha pos pins s σ H _ I h) λus s1 ⟨vs,H1,I1,r,q⟩=>⟨I1.vt,?_⟩) he hpl;exact Dq F hr hb hd hx I1 r q
end
section
end
structure aL (N P:List Str)(sc:TU):Prop where
 kind:sc.kind=.function
 co:sc.isCoroutine=false
 gen:sc.isGenerator=false
 nd:N.Nodup
 pre:N.take P.length=P
 par:∀x∈P,sc.names.lookup x=some .local\/sc.names.lookup x=some .cell
 DT:∀y∈sc.names,y.2≠.free
theorem l9 {kindOf:Str->Option Uh}{x:Str}:∀{binds:List (Str×QZ)} {m:Str->Option QZ},(∀v,(x,v)∉binds)->bindL kindOf binds m x=m x
 |[],_,_=>rfl
 | (n,v)::r,m,h=>by
  unfold bindL;rw[l9 λw hw=>h w (Rt _ hw)]
  split
  ·have:x≠n:=by rintro rfl;exact h v Ru
   simp[this]
  ·rfl
theorem md {kindOf:Str->Option Uh}{x:Str}:∀{binds:List (Str×QZ)} {m:Str->Option QZ},(∀v,(x,v)∉binds)->bindC kindOf binds m x=m x
 |[],_,_=>rfl
 | (n,v)::r,m,h=>by
  unfold bindC;rw[md λw hw=>h w (Rt _ hw)]
  split
  ·rfl
  ·have:x≠n:=by rintro rfl;exact h v Ru
   simp[this]
theorem l_ {kindOf:Str->Option Uh}{x:Str}{v:QZ}:∀{P:List Str} {vs:List QZ} {i:Nat} {m:Str->Option QZ},P.Nodup->P[i]?=some x->vs[i]?=some v->kindOf x=some .local ->
  bindL kindOf (P.zip vs) m x=some v
 |[],_,_,_,_,h,_,_=>by simp at h
 |_::_,[],_,_,_,_,h,_=>by simp at h
 |p::P,w::vs,0,m,nd,h1,h2,hk=>by
  simp at h1 h2;subst h1;subst h2;show bindL kindOf ((p,w)::P.zip vs) m p=_;unfold bindL;rw[l9 λv hv=>(RM.mp nd).1 (U0 hv).1,if_pos hk];simp
 |p::P,w::vs,i+1,m,nd,h1,h2,hk=>by
  show bindL kindOf ((p,w)::P.zip vs) m x=_;unfold bindL;exact l_ (i:=i) (RM.mp nd).2 (by simpa using h1) (by simpa using h2) hk
theorem me {kindOf:Str->Option Uh}{x:Str}{v:QZ}:∀{P:List Str} {vs:List QZ} {i:Nat} {m:Str->Option QZ},P.Nodup->P[i]?=some x->vs[i]?=some v->kindOf x≠some .local ->
  bindC kindOf (P.zip vs) m x=some v
 |[],_,_,_,_,h,_,_=>by simp at h
 |_::_,[],_,_,_,_,h,_=>by simp at h
 |p::P,w::vs,0,m,nd,h1,h2,hk=>by
  simp at h1 h2;subst h1;subst h2;show bindC kindOf ((p,w)::P.zip vs) m p=_;unfold bindC;rw[md λv hv=>(RM.mp nd).1 (U0 hv).1,if_neg hk];simp
 |p::P,w::vs,i+1,m,nd,h1,h2,hk=>by
  show bindC kindOf ((p,w)::P.zip vs) m x=_;unfold bindC;exact me (i:=i) (RM.mp nd).2 (by simpa using h1) (by simpa using h2) hk
def start (N:List Str)(vs:List V):St:=vs.map some++Tt (N.length-vs.length) none
def iR (CX:vm)(P:Q6)(w:Rl)(K:PySem.W.Frag)(mg:Str->Option QZ)(base:Heap)(N:List Str)(qual:Str)(scope:TU)(f:Addr)(cd:QZ)(A:R7)(outer:List Env)(s:Q1)(H:Hp)(E:XK):Cx where
 prog:=P
 w:=w
 K:=K
 mg:=mg
 base:=base
 A:=A.deeper (UC qual scope s.heap.objs.size f cd)
 N:=N
 s₀:=s
 H₀:=H
 env:=UC qual scope s.heap.objs.size f cd
 outer:=outer
 stack:=UC qual scope s.heap.objs.size f cd::outer
 ex:=[]
 calm:=true
 fn:=λ_=>true
 pn:=[]
 xe:=λe s'=>RA (model P w) (A.deeper (UC qual scope s.heap.objs.size f cd)) (leaving (UC qual scope s.heap.objs.size f cd) e) (λ_ wA=>CX outer H s E e wA) (λe' wA=>CX outer H s E e' wA) s'
theorem pM {sc:TU}{n:Nat}{x:Str}(h:sc.names.lookup x=some .cell):∃c,(cellsFrom n sc.names []).lookup x=some c:=by
 have q:=PySem.W.cellsFrom_some sc.names n [] (.inl h);exact Option.isSome_iff_exists.mp q
theorem uO {CX:vm}{P:Q6}{w:Rl}{K:PySem.W.Frag}{mg:Str->Option QZ}{base:Heap}{N ps:List Str}{qual:Str}{scope:TU}{f:Addr}{cd:QZ}{A:R7}{outer:List Env}{s s1:Q1}{H:Hp}{E:XK}{us:List QZ}{vs:List V}
  (S:aL N ps scope) (hd:A.handled=none) (e0:BJ P w K mg base A outer s H) (hl:vs.length=ps.length) (r:Vals vs us)
  (x:InCallC s s.heap.objs.size (bindL (UC qual scope s.heap.objs.size f cd).kindOf (ps.zip us) λ_=>none) (cellsFrom (s.heap.objs.size+1) scope.names []) (bindC (UC qual scope s.heap.objs.size f cd).kindOf (ps.zip us) λ_=>none) s1) :
  Inv (iR CX P w K mg base N qual scope f cd A outer s H E) [] (start N vs) H s1:=by
 have hpl:ps.length<=N.length:=by have:=congrArg List.length S.pre;rw[RL]at this;lia
 obtain⟨h1,tk,rfl,hk⟩:=x.done;have Gw:∀b:Addr,b∉(iR CX P w K mg base N qual scope f cd A outer s H E).ex:=λb z=>absurd (show b∈([]:List Addr) from z) (by simp)
 refine⟨⟨e0.mod,S.kind,rfl,rfl,Q4 _,λy z c h1 h2=>?_,λy hy=>?_,λy c _ h=>?_,λ_=>hd,Around.frames_deeper e0.frames,.inr ⟨rfl,rfl⟩,λb z=>absurd z (Gw b),e0.bs,e0.yQ,λb _ _=>Gw b,λb z=>absurd z (Gw b),e0.gH,e0.Bi⟩,
  rfl,e0.bare,Un.kept hk,⟨_,x.toInCall.ns,λi y v h1 h2 h3=>?_⟩,λy c h=>⟨_,x.cell y c h⟩,e0.bj.fresh (Q4 _),λy c h=>?_,λp hp=>absurd (show p∈([]:List (Addr×Obj)) from hp) (by simp),e0.bj.kept hk,?_⟩
 ·exact name_of_addr x.apart (PySem.mem_of_lookup h1) (PySem.mem_of_lookup h2)
 ·have hy:scope.names.lookup y=some .cell\/scope.names.lookup y=some .free:=hy;rcases hy with hy|hy
  ·exact pM hy
  ·exact absurd rfl (S.DT _ (PySem.mem_of_lookup hy))
 ·exact Nat.le_of_lt (x.above y c (PySem.mem_of_lookup h))
 ·have hi:i<vs.length:=by
   unfold start at h2
   by_cases hi:i<vs.length
   ·exact hi
   ·rw[R9 (by simpa using hi)]at h2
    rw[List.getElem?_replicate]at h2
    split at h2 <;> cases h2
  have ha:vs[i]?=some v:=by
   unfold start at h2;rw[Su (by simpa using hi),Rn]at h2
   cases e:vs[i]? with
   |none=>rw[e]at h2;cases h2
   |some a=>rw[e]at h2;cases h2;rfl
  obtain⟨u,hu,rv⟩:=r.get ha;have hp:ps[i]?=some y:=by
   rw[<- S.pre,TJ (by lia)];exact h1
  have M4:ps.Nodup:=by rw[<- S.pre];exact S.nd.sublist (List.take_sublist _ _)
  refine⟨u,rv,?_⟩;rcases S.par y (SE hp)with k|k
  ·exact .inl ⟨k,l_ M4 hp hu k⟩
  ·obtain⟨c,e⟩:=pM (n:=s.heap.objs.size+1) k;refine .inr ⟨.inl k,c,e,?_⟩;have q:=x.cell y c e;rw[me M4 hp hu (by show scope.names.lookup y≠_;rw[k];decide)]at q
   exact q
 ·exact e0.bj.fresh (Nat.le_of_lt (x.above y c (PySem.mem_of_lookup h)))
 ·unfold start;show _=N.length;rw[RT,Q3,List.length_replicate];lia
theorem Cn {CX:vm}{P:Q6}{w:Rl}{K:PySem.W.Frag}{mg:Str->Option QZ}{base:Heap}{k:Nat}{f:Addr}{name qual:Str}{params:Arguments}{body:List Stmt}{scope:TU}{dV kV doc pm b7 ct oc:QZ}{an od:Option Addr}
  {BU:Array (Option QZ)} {N ps:List Str} {sp:Sp} (lk:K.lookup f=some ⟨oc,od,.func (PySem.W.fnOf name qual params body scope dV kV doc pm an b7 ct),BU⟩) (gM:PySem.W.codeIn K b7 qual=true) (S:aL N ps scope)
  (len:∀vs H Q E,sp vs H Q E->vs.length=ps.length)
  (gG:∀(A:R7) (outer:List Env) (s:Q1) (H:Hp) (vs:List V) (Q:VK) (E:XK),cb k (A.deeper (UC qual scope s.heap.objs.size f b7))->sp vs H Q E ->
   ∃t,ny (iR CX P w K mg base N qual scope f b7 A outer s H E) body t/\t {nx:=λ_ H'=>Q .bB H',rt:=Q} (start N vs) H) :
  aM P w K mg base CX (k+1) f (PySem.W.fnOf name qual params body scope dV kV doc pm an b7 ct) ps sp:=by
 refine⟨len,λA outer s H args us vs Q E hr e0 hb r gb=>?_⟩;have hl:=len _ _ _ _ gb;have KX:K.In s.heap:=e0.mod.Je.keeps λb o e=>(e0.bs b o e).1;have lim:s.heap.NoLimit:=e0.mod.nolimit.keeps λb o e=>(e0.bs b o e).1;have H9:∀y∈ps.zip us,scope.names.lookup y.1=some .local\/(scope.names.lookup y.1=some .cell/\((cellsFrom (s.heap.objs.size+1) scope.names []).lookup y.1).isSome=true):=λK7 hy=>by
  obtain⟨n,v⟩:=K7;rcases S.par n (U0 hy).1 with q|q
  ·exact .inl q
  ·exact .inr ⟨q,PySem.W.cellsFrom_some _ _ _ (.inl q)⟩
 refine codeAny_call_function hr.depth (KX _ _ lk) rfl S.co S.gen rfl (PySem.W.codeRec_of KX gM) (hb _ _ _ _ ?_);refine wpAny_newFunctionEnv_cells S.kind H9 λenv he s1 x=>?_;subst he;refine⟨lim.keeps x.toInCall.keep,codeAny_func ?_⟩;obtain⟨t,ht,hq⟩:=gG A outer s H vs Q E (hr.deeper _) gb;have I:Inv (iR CX P w K mg base N qual scope f b7 A outer s H E) [] (start N vs) H s1:=uO S hr.hd e0 hl r x;refine TQ (ht [] s1 (start N vs) H _ I hq) (λfl s' hs=>?_) λe s' hs=>hs;have fin:∀{σ':St} {H':Hp} {v:V} {u:QZ},Inv (iR CX P w K mg base N qual scope f b7 A outer s H E) [] σ' H' s'->RelV v u->Q v H'->CE outer P w H s Q u s' :=
  λ{σ' H' v u} J rv q=>⟨v,H',J.os,J.bare,J.base,J.bj,rv,q⟩
 cases fl with
 |ret u =>
  obtain⟨v,σ',H',J,rv,q⟩:=hs;exact fin J rv q
 |next =>
  obtain⟨σ',H',J,q⟩:=hs;exact fin (v:=V.bB) (u:=Value.none) J rfl q
 |brk =>
  obtain⟨_,_,_,q⟩:=hs;exact SY q
 |cont =>
  obtain⟨_,_,_,q⟩:=hs;exact SY q
section
variable {X:Cx}{x:Str}{p pos:Pos}{e:Expr}{es:List Expr}{t:TA}{id T:String}{r:List V->Hp->VK->Prop}
def JU (r:List V->Hp->VK->Prop)(t:TA):TE:=λσ H Q=>t σ H λvs H1=>r vs H1 Q
theorem gw (hc:eR X (.builtin id) r) (hg:Gl X x) (hm:X.mg x=none) (hv:Si x=some (.builtin id)) (ha:PA X (e::es) t) (hn:x≠"__name__" := by decide) (hdb:(x==("__debug__" : Str))=false:=by decide)
  (he:Rc (e::es) X.env=(false,eval e X.env)::Rc es X.env:=by rfl) (hpl:(SF pos (Rc es X.env)).any (·.1)=false:=by rfl):PE X (.Call (.Name x p) (e::es) [] pos) (JU r t):=by
 intro pins s σ H Q I h;refine Uq (g_ I hg hm hv ?_ hn hdb);exact PyProof.Rows.callWith_builtin1 (br (ha pos pins s σ H _ I h) λus s1 K6=>by obtain⟨vs,H1,I1,r1,q1⟩:=K6;exact hc pins s1 σ H1 vs us Q I1 r1 q1) he hpl
theorem lE (hc:eR X (.type T) r) (hg:Gl X x) (hm:X.mg x=none) (hv:Si x=some (.type T)) (ha:PA X (e::es) t) (hn:x≠"__name__" := by decide) (hdb:(x==("__debug__" : Str))=false:=by decide)
  (he:Rc (e::es) X.env=(false,eval e X.env)::Rc es X.env:=by rfl) (hpl:(SF pos (Rc es X.env)).any (·.1)=false:=by rfl):PE X (.Call (.Name x p) (e::es) [] pos) (JU r t):=by
 intro pins s σ H Q I h;refine Uq (g_ I hg hm hv ?_ hn hdb);exact Th (br (ha pos pins s σ H _ I h) λus s1 K5=>by obtain⟨vs,H1,I1,r1,q1⟩:=K5;exact hc pins s1 σ H1 vs us Q I1 r1 q1) he hpl
end
end L2
namespace HT
open PySem PyProof.Rows
def lexLt:List Int->List Int->Bool
 |[],[]=>false
 |[],_::_=>true
 |_::_,[]=>false
 |x::xs,y::ys=>if x=y then lexLt xs ys else decide (x<y)
theorem f7 (x y:Int)(xs ys:List Int):lexLt (x::xs) (y::ys)=if x=y then lexLt xs ys else decide (x<y):=rfl
section
open PySem.SeqAt
open PySem.AutoSeq1 (wpAny_loadPart')
open PySem.MeetsSeq PySem.MeetsSeq2 PySem.MeetsSeq3
end
section
def jw (n d:Nat):Option Int->Nat
 |none=>d
 |some v=>if v<0 then (v+(n:Int)).toNat else min v.toNat n
theorem wz (n d:Nat):jw n d none=d:=rfl
theorem zV (n d k:Nat):jw n d (some (k:Int))=min k n:=by
 show (if (k:Int)<0 then ((k:Int)+(n:Int)).toNat else min (k:Int).toNat n)=min k n
 rw[if_neg (by lia),VD]
end
end HT
namespace L2
open PySem PySem.Spec PyProof.Rows
abbrev TO:=St->Hp->(Option Int->Hp->Prop)->Prop
def PO (X:Cx)(e:Option Expr)(t:TO):Prop :=
 ∀(pins:List (Addr×Obj)) (s:Q1) (σ:St) (H:Hp) (Q:Option Int->Hp->Prop),Inv X pins σ H s->t σ H Q ->
  RA (model X.prog X.w) X.A (evalPart e X.env) (λu s'=>∃o H',Inv X pins σ H' s'/\IsPart u o/\Q o H') X.xe s
def zJ:TO:=λ_ H Q=>Q none H
def FO (t:TE):TO:=λσ H Q=>t σ H λx H1=>∃i,x=.int i/\Q (some i) H1
theorem intsAre_of {ns:List Int}:∀{us:List QZ},Vals (ns.map V.int) us->UW us ns:=by
 induction ns with
 |nil=>intro us r;rw[List.map_nil]at r;cases r;exact .nil
 |cons n ns ih =>
  intro us r;rw[RN]at r;cases r with
  |cons r1 r2 =>
   obtain⟨t,e⟩:=r1;subst e;exact .cons n t (ih r2)
section
variable {X:Cx}{e:Expr}{te:TE}{lo hi:Option Expr}{tl th:TO}{pos p2:Pos}
theorem sG:PO X none zJ:=by
 intro pins s σ H Q I h;rw[evalPart_none];exact Q_ ⟨none,H,I,.none,h⟩
theorem sF (h:PE X e te):PO X (some e) (FO te):=by
 intro pins s σ H Q I hw;rw[evalPart_some];refine br (h pins s σ H _ I hw) λu s1 ⟨x,H1,I1,r1,q1⟩=>?_;obtain⟨i,rfl,q⟩:=q1;obtain⟨t,rfl⟩:=r1;exact⟨some i,H1,I1,.int i t,q⟩
def Mp (X:Cx)(r:V->Option Int->Option Int->Hp->VK->Prop):Prop :=
 ∀(pins:List (Addr×Obj)) (s:Q1) (σ:St) (H:Hp) (x:V) (v vl vu:QZ) (lo hi:Option Int) (sl:Addr) (Q:VK),Inv X pins σ H s->RelV x v->s.heap.IsSliceOf sl vl vu .none->IsPart vl lo->IsPart vu hi->r x lo hi H Q ->
  ∃T id,typeLookup (.type T) "__getitem__" = pure (some (.builtin id))/\s.TypeIs v T/\RA (model X.prog X.w) X.A (getItem v (.ref sl)) (EP X pins σ Q) X.xe s
def Oa (r:V->Option Int->Option Int->Hp->VK->Prop)(te:TE)(tl th:TO):TE:=λσ H Q=>te σ H λx H1=>tl σ H1 λl H2=>th σ H2 λu H3=>r x l u H3 Q
theorem oh {r:V->Option Int->Option Int->Hp->VK->Prop}(hr:Mp X r)(he:PE X e te)(hl:PO X lo tl)(hu:PO X hi th):PE X (.Subscript e (.Slice lo hi none p2) pos) (Oa r te tl th):=by
 intro pins s σ H Q I h;refine Subscript_ (br (he pins s σ H _ I h) λv s1 ⟨x,H1,I1,r1,q1⟩=>?_);refine wpAny_Slice (br (hl pins s1 σ H1 _ I1 q1) λvl s2 ⟨l,H2,I2,pl,q2⟩=>br (hu pins s2 σ H2 _ I2 q2) λvu s3 ⟨u,H3,I3,pu,q3⟩=>?_);rw[evalPart_none];refine Q_ ?_;have I4:Inv X pins σ H3 {s3 with heap:=s3.heap.push {cls:=.type "slice",data:=.fields #[vl,vu,.none]}}:=I3.kept (t':=s3.toks) λb ob q=>Q8 _ q
 obtain⟨T,id,hT,ht,hg⟩:=hr pins {s3 with heap:=s3.heap.push {cls:=.type "slice",data:=.fields #[vl,vu,.none]}} σ H3 x v vl vu l u s3.heap.objs.size Q I4 r1 (Heap.IsSliceOf.new ..) pl pu q3
 show RA (model X.prog X.w) X.A (subscriptTail e (.Slice lo hi none p2) v (.ref s3.heap.objs.size)) (EP X pins σ Q) X.xe {s3 with heap:=s3.heap.push {cls:=.type "slice",data:=.fields #[vl,vu,.none]}}
 exact tail_any (ops:=[.ref s3.heap.objs.size,v]) ht hT hg (by with_unfolding_all rfl)
def pK (xs:List V)(lo hi:Option Int):List V:=(xs.drop (HT.jw xs.length 0 lo)).take (HT.jw xs.length xs.length hi-HT.jw xs.length 0 lo)
theorem pJ (xs:List V)(lo hi:Option Int):(pK xs lo hi).length<=xs.length:=by
 unfold pK;rw[RL,UO];lia
end
def zg (n:Nat)(i:Int):Option Nat:=if 0<=i then (if i<n then some i.toNat else none) else if -(n:Int)<=i then some (i+n).toNat else none
def ng {α:Type}(xs:List α)(i:Int):Option α:=(zg xs.length i).bind λj=>xs[j]?
theorem sX {n:Nat}{i:Int}{j:Nat}(h:zg n i=some j):seqIndex? i n=some j/\j<n/\-(n:Int)<=i/\i<n:=by
 unfold zg at h
 by_cases h0:0<=i
 ·rw[if_pos h0]at h
  by_cases h1:i<n
  ·rw[if_pos h1]at h;have e:i.toNat=j:=RC h;exact⟨by rw[seqIndex_of h0 h1,e],by lia,by lia,h1⟩
  ·rw[if_neg h1]at h;cases h
 ·rw[if_neg h0]at h
  by_cases h1:-(n:Int)<=i
  ·rw[if_pos h1]at h;have e:(i+n).toNat=j:=RC h;exact⟨by rw[seqIndex_neg (by lia) h1,e],by lia,h1,by lia⟩
  ·rw[if_neg h1]at h;cases h
theorem tJ {α:Type}{xs:List α}{i:Int}{v:α}(h:ng xs i=some v):∃j,seqIndex? i xs.length=some j/\xs[j]?=some v/\j<xs.length/\-(xs.length:Int)<=i/\i<xs.length:=by
 unfold ng at h;cases e:zg xs.length i with
 |none=>rw[e]at h;cases h
 |some j =>
  rw[e]at h;obtain⟨h1,h2,h3,h4⟩:=sX e;exact⟨j,h1,h,h2,h3,h4⟩
def nh (b:Expr):Prop:=∀o i,subscripted b false o i=operate [o,i] (getItem o i)
def CM (X:Cx)(r:R2):Prop :=
 ∀(value slice:Expr) (pins:List (Addr×Obj)) (s:Q1) (σ:St) (H:Hp) (x y:V) (v u:QZ) (Q:VK),Inv X pins σ H s->RelV x v->RelV y u->r x y H Q ->
  subscripted slice false v u=operate [v,u] (getItem v u)->RA (model X.prog X.w) X.A (subscriptTail value slice v u) (EP X pins σ Q) X.xe s
def Ms (X:Cx)(id:String)(r:V->List V->Hp->VK->Prop):Prop :=
 ∀(pins:List (Addr×Obj)) (s:Q1) (σ:St) (H:Hp) (x:V) (xs:List V) (v:QZ) (us:List QZ) (Q:VK),Inv X pins σ H s->RelV x v->Vals xs us->r x xs H Q ->
  RA (model X.prog X.w) X.A (call (.builtin id) (v::us)) (EP X pins σ Q) X.xe s
section
variable {X:Cx}{a b:Expr}{ta tb:TE}{pos:Pos}
theorem jA {r:R2}(hr:CM X r)(ha:PE X a ta)(hb:PE X b tb)(hs:nh b):PE X (.Subscript a b pos) (FP r ta tb):=by
 intro pins s σ H Q I h;exact Subscript_ (Fc ha hb I h λv u s2 x y H2 I2 rx ry q=>hr a b pins s2 σ H2 x y v u Q I2 rx ry q (hs _ _))
def F4 (K:PySem.W.Frag):R2:=λx y H Q=>∃p xs i v,x=.ref p/\y=.int i/\dg K H p xs/\ng xs i=some v/\Q v H
def F3 (K:PySem.W.Frag):R2:=λx y H Q=>∃p xs i v,x=.ref p/\y=.int i/\vi K H p xs/\ng xs i=some v/\Q v H
theorem eC:CM X (F4 X.K):=by
 intro value slice pins s σ H x y v u Q I rx ry h hs;obtain⟨p,xs,i,z,rfl,rfl,hq,he,q⟩:=h;cases rx;obtain⟨t,rfl⟩:=ry;obtain⟨its,r,pl,hz⟩:=I.list hq;obtain⟨j,h1,h2,h3,h4,h5⟩:=tJ he;obtain⟨w,ew,zf⟩:=r.get h2;have hl:=r.length;have hn:=mQ;have fin:EP X pins σ Q w s:=⟨z,H,I,zf,q⟩
 by_cases h0:0<=i
 ·have hj:i.toNat=j:=by
   rw[seqIndex_of h0 h5]at h1;exact RC h1
  exact item_listR pl.isList h0 (by lia) (by rw[hj];simpa using ew) fin hs
 ·have hj:(i+(its.toArray.size:Int)).toNat=j:=by
   rw[seqIndex_neg (by lia) h4]at h1
   rw[Ry,<- hl];exact RC h1
  exact subscriptTail_builtinR (x:=w) pl.isList.typeIs Vw.lookup
   (wpAny_getItem_list_neg (Q:=λr s'=>r=w/\EP X pins σ Q r s') pl.isList (by lia) (by rw[Ry] <;> lia) (by lia) (by rw[hj];simpa using ew) ⟨rfl,fin⟩) hs
theorem xO:CM X (F3 X.K):=by
 intro value slice pins s σ H x y v u Q I rx ry h hs;obtain⟨p,xs,i,z,rfl,rfl,hq,he,q⟩:=h;cases rx;obtain⟨t,rfl⟩:=ry;obtain⟨its,r,pl,hz⟩:=I.tuple hq;obtain⟨j,h1,h2,h3,h4,h5⟩:=tJ he;obtain⟨w,ew,zf⟩:=r.get h2;have hl:=r.length;have hn:=mQ;have fin:EP X pins σ Q w s:=⟨z,H,I,zf,q⟩;exact subscriptTail_builtinR (x:=w) pl.typeIs slot_tuple_getitem.lookup
  (getItem_tuple (j:=j) (Q:=λr s'=>r=w/\EP X pins σ Q r s') pl (by lia) (by lia) (by rw[Ry,<- hl];exact h1) (by simpa using ew) ⟨rfl,fin⟩) hs
theorem qR (its:List QZ)(n j:Nat)(u:QZ):Ts (·.setIfInBounds j u) {cls:=.type "list",data:=.seq its.toArray n}={cls:=.type "list",data:=.seq (its.set j u).toArray n}:=by
 simp[Ts]
theorem Inv.lst {pins:List (Addr×Obj)}{σ:St}{H:Hp}{s:Q1}{p:Addr}{xs:List V}(I:Inv X pins σ H s)(h:H p=some (.lst xs)):
  ∃(its:List QZ) (n:Nat),Vals xs its/\s.heap.get? p=some {cls:=.type "list",data:=.seq its.toArray n}/\xs.length<=Ri:=by
 obtain⟨z,its,n,r,e⟩:=I.bj p _ h;exact⟨its,n,r,e,z⟩
theorem Inv.D_ {pins:List (Addr×Obj)}{σ:St}{H:Hp}{s:Q1}{p:Addr}{xs ys:List V}{its its':List QZ}{n n':Nat}{f:Obj->Obj}(I:Inv X pins σ H s)(h:H p=some (.lst xs))
  (ho:s.heap.get? p=some {cls:=.type "list",data:=.seq its.toArray n}) (hf:f {cls:=.type "list",data:=.seq its.toArray n}={cls:=.type "list",data:=.seq its'.toArray n'}) (r:Vals ys its') (hz:ys.length<=Ri) (t:Nat) :
  Inv X pins σ (upd H p (.lst ys)) {s with heap:=s.heap.update p f,toks:=t}:=by
 have e:(s.heap.update p f).get? p=some {cls:=.type "list",data:=.seq its'.toArray n'}:=by
  rw[Heap.get?_update_self f ho (by rw[hf] <;> rfl),hf]
 refine I.write (x:=p) (e:=p) (by rw[h];trivial) (.inl rfl) (λb u hb q=>(Heap.get?_update_other _ _ (Ud hb)).trans q) ⟨_,e⟩ ?_
 exact⟨hz,its',n',r,e⟩
def F2:V->V->V->Hp->(Hp->Prop)->Prop:=λo i v H Q=>∃p xs k j,o=.ref p/\i=.int k/\H p=some (.lst xs)/\zg xs.length k=some j/\Q (upd H p (.lst (xs.set j v)))
theorem set_list:IL X F2:=by
 intro pins s σ H o i v ov iv u Q I ro ri rv h;obtain⟨p,xs,k,j,rfl,rfl,hp,hj,q⟩:=h;cases ro;obtain⟨t,rfl⟩:=ri;obtain⟨its,n,r,ho,hz⟩:=I.lst hp;obtain⟨h1,h2,h3,h4⟩:=sX hj;have hl:=r.length;have hn:=mQ;have I':Inv X pins σ (upd H p (.lst (xs.set j v))) {s with heap:=s.heap.update p (Ts (·.setIfInBounds j u))} :=
  I.D_ hp ho (qR its n j u) (r.set rv j) (by rw[List.length_set];exact hz) s.toks
 by_cases h0:0<=k
 ·have hk:k.toNat=j:=by
   rw[seqIndex_of h0 h4]at h1;exact RC h1
  exact PySem.W.ki_setAt ho h0 (by lia) (by rw[Ry,<- hl];exact h4) (by rw[hk];exact⟨_,I',q⟩)
 ·have hk:(k+(its.toArray.size:Int)).toNat=j:=by
   rw[seqIndex_neg (by lia) h3]at h1
   rw[Ry,<- hl];exact RC h1
  exact PySem.W.ki_setBack ho (by lia) (by rw[Ry,<- hl];exact h3) (by lia) (by rw[hk];exact⟨_,I',q⟩)
theorem mC (lo hi:Option Int)(n:Nat):(S8 lo hi none n).1=((HT.jw n 0 lo:Nat):Int)/\(S8 lo hi none n).2.1=((HT.jw n n hi:Nat):Int)/\(S8 lo hi none n).2.2=1:=by
 refine⟨?_,?_,rfl⟩
 ·cases lo with
  |none=>simp[S8,HT.jw]
  |some i =>
   simp only[S8,HT.jw,Option.getD_none,show (1:Int)>0 by decide,if_true]
   by_cases h:i<0
   ·simp only[h,if_true] <;> lia
   ·simp only[h,if_false] <;> lia
 ·cases hi with
  |none=>simp[S8,HT.jw]
  |some i =>
   simp only[S8,HT.jw,Option.getD_none,show (1:Int)>0 by decide,if_true]
   by_cases h:i<0
   ·simp only[h,if_true] <;> lia
   ·simp only[h,if_false] <;> lia
theorem kM (its:List QZ)(lo hi:Option Int):slicePick its.toArray lo hi none=((its.drop (HT.jw its.length 0 lo)).take (HT.jw its.length its.length hi-HT.jw its.length 0 lo)).toArray:=by
 obtain⟨h1,h2,h3⟩:=mC lo hi its.toArray.size;unfold slicePick;rw[h1,h2,h3];simp only[sliceRange_one,pick_run,Ry] <;> rfl
def J6 (K:PySem.W.Frag):V->Option Int->Option Int->Hp->VK->Prop:=λx lo hi H Q=>∃a xs,x=.ref a/\dg K H a xs/\∀p,H p=none->Q (.ref p) (upd H p (.lst (pK xs lo hi)))
theorem r9:Mp X (J6 X.K):=by
 intro pins s σ H x v vl vu lo hi sl Q I rx hs pl pu h;obtain⟨a,xs,rfl,hx,q⟩:=h;cases rx;obtain⟨its,r,ht,hz⟩:=I.list hx;have hlen:=r.length;refine⟨"list",_,Vw.lookup,ht.isList.typeIs,?_⟩;refine wpAny_getItem_list_slice ht.isList hs pl pu .none (by simp) ?_ (by rw[Ry] <;> lia)
 rw[kM,<- hlen];refine⟨.ref s.heap.objs.size,_,I.laid (t':=s.toks) (o:=.lst (pK xs lo hi)) (λb ob q=>Q8 _ q) (Q4 _) ?_,rfl,q _ (I.bj.fresh (Q4 _))⟩;exact⟨R6 (pJ xs lo hi) hz,_,0,(r.drop (HT.jw xs.length 0 lo)).take (HT.jw xs.length xs.length hi-HT.jw xs.length 0 lo),RV _ rfl⟩
theorem gK:eR X (.type "list") (λxs H Q=>∃p ys,xs=[.ref p]/\(dg X.K H p ys\/vi X.K H p ys)/\∀l,H l=none->Q (.ref l) (upd H l (.lst ys))):=by
 intro pins s σ H xs us Q I r h;obtain⟨p,ys,rfl,hq,q⟩:=h;obtain⟨u,rfl,rx⟩:=vals1 r;cases rx;have fin:∀(its:List QZ),Vals ys its->ys.length<=Ri->∀(h':Heap) (c':Nat),(∀b o',s.heap.get? b=some o'->h'.get? b=some o') ->
   h'.get? s.heap.objs.size=some {cls:=.type "list",dict:=none,data:=.seq its.toArray c',slots:=#[]}->EP X pins σ Q (.ref s.heap.objs.size) {s with heap:=h'}:=λits r' hz h' c' kp e =>
  ⟨.ref s.heap.objs.size,_,I.laid (t':=s.toks) kp (Q4 _) (show bH X.prog X.w _ h' _ (.lst ys) from ⟨hz,its,c',r',e⟩),rfl,q _ (I.bj.fresh (Q4 _))⟩
 rcases hq with hq|hq
 ·obtain⟨its,r',pl,hz⟩:=I.list hq;have hlen:=r'.length;obtain⟨o,ho,hc,n,hd⟩:=pl.isList;exact call_list_seq p (.inl rfl) ho hc hd (λh' c' kp e=>fin its r' hz h' c' kp e) (by simp only[Ry] <;> lia)
 ·obtain⟨its,r',pl,hz⟩:=I.tuple hq;have hlen:=r'.length;obtain⟨o,ho,hc,n,hd⟩:=pl;exact call_list_seq p (.inr rfl) ho hc hd (λh' c' kp e=>fin its r' hz h' c' kp e) (by simp only[Ry] <;> lia)
def IV (K:PySem.W.Frag)(T:String)(x:V)(H:Hp):Prop:=match x with
 |.str _=>T="str"
 |.int _=>T="int"
 |.ref p=>(T="list" /\ ∃xs,dg K H p xs)\/(T="tuple" /\ ∃o,K.lookup p=some o/\o.cls=.type "tuple" /\ o.dict=none) \/
   (T="dict" /\ ((∃kvs,H p=some (.dK kvs))\/∃kvs,H p=some (.dT kvs)))\/(T="set" /\ ∃S n,H p=some (.set S n))
 |_=>False
theorem vR {pins:List (Addr×Obj)}{σ:St}{H:Hp}{s:Q1}{T:String}{x:V}{v:QZ}(I:Inv X pins σ H s)(r:RelV x v)(ty:IV X.K T x H):
  s.TypeIs v T/\∀a,v=.ref a->∃ob,s.heap.get? a=some ob/\ob.dict=none:=by
 cases x with
 |str z =>
  obtain⟨t,rfl⟩:=r;cases (show T="str" from ty)
  exact⟨typeIs_str s z t,λ_ e=>nomatch e⟩
 |int i =>
  obtain⟨t,rfl⟩:=r;cases (show T="int" from ty)
  exact⟨typeIs_int s i t,λ_ e=>nomatch e⟩
 |ref p =>
  cases r;rcases ty with⟨rfl,xs,hq⟩|⟨rfl,o,hk,hc,hd⟩|⟨rfl,hk⟩|⟨rfl,S,n,hk⟩
  ·obtain⟨its,_,pl,_⟩:=I.list hq;refine⟨pl.isList.typeIs,λa e=>?_⟩;cases e;obtain⟨o,n,e,c,hd,_⟩:=pl;exact⟨o,e,hd⟩
  ·refine⟨⟨o,I.vt p o hk,hc⟩,λa e=>?_⟩;cases e;exact⟨o,I.vt _ o hk,hd⟩
  ·have z:∃o,s.heap.get? p=some o/\o.ExactDict:=by
    rcases hk with⟨kvs,hk⟩|⟨kvs,hk⟩
    ·obtain⟨_,_,_,_,o,_,_,e,ex,_⟩:=I.bj p _ hk;exact⟨o,e,ex⟩
    ·obtain⟨_,_,_,_,o,_,_,e,ex,_⟩:=I.bj p _ hk;exact⟨o,e,ex⟩
   obtain⟨o,e,ex⟩:=z;refine⟨⟨o,e,ex.1⟩,λa e2=>?_⟩;cases e2;exact⟨o,e,ex.2.1⟩
  ·obtain⟨o,_,_,_,e,ex,_⟩:=I.bj p _ hk;refine⟨⟨o,e,ex.1⟩,λa e2=>?_⟩;cases e2;exact⟨o,e,ex.2.1⟩
 |_=>exact SY ty
def JV (K:PySem.W.Frag)(T:String)(r:V->List V->Hp->VK->Prop)(to:TE):TE:=λσ H Q=>to σ H λx H1=>IV K T x H1/\r x [] H1 Q
def Oc (K:PySem.W.Frag)(T:String)(r:V->List V->Hp->VK->Prop)(to:TE)(t:TA):TE:=λσ H Q=>to σ H λx H1=>IV K T x H1/\t σ H1 λxs H2=>r x xs H2 Q
variable {o e:Expr}{es:List Expr}{to:TE}{t:TA}{name:Str}{apos cpos:Pos}{T id:String}{r:V->List V->Hp->VK->Prop}
theorem DF (pa:PlainAttrs T) (slot:Slot T name id) (Hc:typeOf (.builtin id)=pure (.type "method_descriptor")) (hm:Ms X id r) (ho:PE X o to)
  (cE:S5 o name X.env (eval o X.env)=eval o X.env:=by rfl) (cD:(apos.endLine==cpos.line)=true:=by rfl):PE X (.Call (.Attribute o name apos) [] [] cpos) (JV X.K T r to):=by
 intro pins s σ H Q I h;refine wpAny_Call_method0_late cE cD (br (ho pins s σ H _ I h) λv s1 ⟨x,H1,I1,r1,ty,q1⟩=>?_);obtain⟨h1,h2⟩:=vR I1 r1 ty;exact⟨T,id,pa,slot,Hc,h1,h2,Calls.callWith_builtin rfl (PySem.evalArgs_none (hm pins s1 σ H1 x [] v [] Q I1 r1 .nil q1))⟩
theorem sO (pa:PlainAttrs T) (slot:Slot T name id) (Hc:typeOf (.builtin id)=pure (.type "method_descriptor")) (hm:Ms X id r) (ho:PE X o to) (ha:PA X (e::es) t)
  (cE:S5 o name X.env (eval o X.env)=eval o X.env:=by rfl)
  (h_:((SF cpos (Rc (e::es) X.env)).all (λx=>!x.1)&&(Va cpos (Ue [] X.env)).all (λx=>x.1.isSome)
   && decide ((e::es).length+([]:List TN).length+(if ([]:List TN).isEmpty then 0 else 1)<30))=true:=by rfl)
  (cD:(apos.endLine==cpos.line)=true:=by rfl) (hs:Rc (e::es) X.env=(false,eval e X.env)::Rc es X.env:=by rfl) (cm:(SF cpos (Rc es X.env)).any (·.1)=false:=by rfl) :
  PE X (.Call (.Attribute o name apos) (e::es) [] cpos) (Oc X.K T r to t):=by
 intro pins s σ H Q I h;refine wpAny_Call_method_late cE h_ cD rfl (br (ho pins s σ H _ I h) λv s1 ⟨x,H1,I1,r1,ty,q1⟩=>?_);obtain⟨h1,h2⟩:=vR I1 r1 ty;refine⟨T,id,pa,slot,Hc,h1,h2,?_⟩;have hA:=ha cpos pins s1 σ H1 _ I1 q1;rw[hs]at hA ⊢
 refine Calls.callWith_builtin (by show (false || (SF cpos (Rc es X.env)).any (·.1))=false;rw[cm] <;> rfl) (Calls.evalArgs_plain ?_)
 exact br hA λus s2 ⟨vs,H2,I2,r2,q2⟩=>hm pins s2 σ H2 x vs v us Q I2 r1 r2 q2
end
def Mt (X:Cx)(id:String)(r:V->List V->Hp->VK->Prop):Prop :=
 ∀(pins:List (Addr×Obj)) (s:Q1) (σ:St) (H:Hp) (x:V) (xs:List V) (v:QZ) (us:List QZ) (Q:VK),Inv X pins σ H s->RelV x v->Vals xs us->r x xs H Q ->
  RA (model X.prog X.w) X.A (call (.builtin id) (v::us)) (EP X pins σ Q) X.xe s
theorem Vals.one:∀{x:V} {us:List QZ},Vals [x] us->∃u,us=[u]/\RelV x u
 |_,_,.cons r .nil=>⟨_,rfl,r⟩
theorem Vals.zero:∀{us:List QZ},Vals [] us->us=[]
 |_,.nil=>rfl
theorem Vals.dropLast {xs:List V}{us:List QZ}(h:Vals xs us):Vals xs.dropLast us.dropLast:=by
 induction h with
 |nil=>exact .nil
 |cons r t ih =>
  cases t with
  |nil=>exact .nil
  |cons q t'=>exact .cons r ih
theorem rE {α:Type}(l:List α):l.eraseIdx (l.length-1)=l.dropLast:=by
 induction l with
 |nil=>rfl
 |cons a r ih =>
  cases r with
  |nil=>rfl
  |cons b r =>
   have e:(a::b::r).length-1=((b::r).length-1)+1:=by
    have h1:(a::b::r).length=r.length+2:=rfl;have h2:(b::r).length=r.length+1:=rfl;lia
   rw[e,List.eraseIdx_cons_succ,ih]
   all_goals rfl
section
variable {X:Cx}{pins:List (Addr×Obj)}{σ:St}{H:Hp}{s:Q1}{l:Addr}{xs ys:List V}
theorem Inv.Eb {its its':List QZ}{n:Nat}{f:Array QZ->Array QZ}{t':Nat}(I:Inv X pins σ H s)(hH:H l=some (.lst xs))
  (e:s.heap.get? l=some {cls:=.type "list",data:=.seq its.toArray n}) (hf:f its.toArray=its'.toArray) (hv:Vals ys its') (hz:ys.length<=Ri) :
  Inv X pins σ (upd H l (.lst ys)) {s with heap:=s.heap.update l (Ts f),toks:=t'}:=by
 have q:=PySem.IsL.update e f;rw[hf]at q;refine I.write (x:=l) (e:=l) (by rw[hH];exact trivial) (.inl rfl) (λb' u hb hu=>(Heap.get?_update_other s.heap (Ts f) (Ud hb)).trans hu) ⟨_,q⟩ ?_
 exact⟨hz,its',_,hv,q⟩
theorem Inv.GU {its:List QZ}{t':Nat}(I:Inv X pins σ H s)(hv:Vals ys its)(hz:ys.length<=Ri):
  Inv X pins σ (upd H s.heap.objs.size (.lst ys)) {s with heap:=s.heap.push {cls:=.type "list",data:=.seq its.toArray},toks:=t'} :=
 I.laid (λ_ _ q=>Q8 _ q) (Q4 _) ⟨hz,its,0,hv,RV _ rfl⟩
theorem Inv.fresh (I:Inv X pins σ H s):H s.heap.objs.size=none:=I.bj.fresh (Q4 _)
theorem Inv.uE (I:Inv X pins σ H s)(hH:H l=some (.lst xs)):xs.length<=Ri/\∃(its:List QZ) (n:Nat),Vals xs its/\xs.length=its.length/\s.heap.get? l=some {cls:=.type "list",data:=.seq its.toArray n}:=by
 obtain⟨z,its,n,r,e⟩:=I.bj l _ hH;exact⟨z,its,n,r,r.length,e⟩
theorem xv {n:Nat}(h:n<=Ri):UG n=false:=by
 unfold UG;exact decide_eq_false (by lia)
end
section
variable {X:Cx}
def sf:V->List V->Hp->VK->Prop:=λx vs H Q=>∃l xs y,x=.ref l/\vs=[y]/\H l=some (.lst xs)/\xs.length<Ri/\Q .bB (upd H l (.lst (xs++[y])))
theorem gZ:Mt X "list.append" sf:=by
 intro pins s σ H x vs v us Q I rx rv h;obtain⟨l,xs,y,rfl,rfl,hH,hz,q⟩:=h;cases rx;obtain⟨u,rfl,ru⟩:=rv.one;obtain⟨z,its,n,r,hl,e⟩:=I.uE hH;refine Vq F.slot_list_append ⟨_,e,rfl⟩ F.entry_list_append (F.args_list_append_2 _ _) (PySem.list_append l its.toArray n u (by rw[Ry];lia)) ⟨e,?_⟩
 refine⟨.bB,_,I.Eb (its':=its++[u]) hH e (by simp) (r.append (.cons ru .nil)) ?_,rfl,q⟩
 rw[RT,T7];lia
def zZ:V->List V->Hp->VK->Prop:=λx vs H Q=>∃l b xs zs,x=.ref l/\vs=[.ref b]/\H l=some (.lst xs)/\H b=some (.lst zs)/\xs.length+zs.length<=Ri/\Q .bB (upd H l (.lst (xs++zs)))
theorem uz:Mt X "list.extend" zZ:=by
 intro pins s σ H x vs v us Q I rx rv h;obtain⟨l,b,xs,zs,rfl,rfl,hH,hB,hz,q⟩:=h;cases rx;obtain⟨u,rfl,ru⟩:=rv.one;cases ru;obtain⟨z,its,n,r,hl,e⟩:=I.uE hH;obtain⟨z2,qX,n2,r2,Pn,e2⟩:=I.uE hB;have hsz:its.toArray.size+qX.toArray.size<=Ri:=by rw[Ry,Ry];lia
 have HZ:¬ (!its.toArray.isEmpty&&UG (its.toArray.size+qX.toArray.size))=true:=by
  rw[xv hsz,Bool.and_false];exact SI
 refine Vq F.slot_list_extend ⟨_,e,rfl⟩ F.entry_list_extend (F.args_list_extend_2 _ _)
  (AutoSeq1.list_extend_list_list_0 l its.toArray n b qX.toArray n2 HZ (by rw[Ry];lia) (by lia)) ⟨e,e2,?_⟩
 refine⟨.bB,_,I.Eb (its':=its++qX) hH e (by simp) (r.append r2) ?_,rfl,q⟩
 rw[RT];lia
def J7:V->List V->Hp->VK->Prop:=λx vs H Q=>∃l xs y,x=.ref l/\vs=[]/\H l=some (.lst xs)/\xs[xs.length-1]?=some y/\Q y (upd H l (.lst xs.dropLast))
theorem DY:Mt X "list.pop" J7:=by
 intro pins s σ H x vs v us Q I rx rv h;obtain⟨l,xs,y,rfl,rfl,hH,hy,q⟩:=h;cases rx;have xV:=rv.zero;subst xV;obtain⟨z,its,n,r,hl,e⟩:=I.uE hH;obtain⟨u,hu,ru⟩:=r.get hy;have O2:its.toArray[its.toArray.size-1]?=some u:=by
  show its.toArray[its.length-1]?=some u;rw[<- Rm,<- hl];exact hu
 refine Vq F.slot_list_pop ⟨_,e,rfl⟩ F.entry_list_pop (F.args_list_pop_1 _) (MeetsSeq.list_pop_last l its.toArray n u O2 (by rw[Ry];lia)) ⟨e,?_⟩
 refine⟨y,_,I.Eb (its':=its.dropLast) hH e ?_ r.dropLast ?_,ru,q⟩
 ·show its.toArray.eraseIdxIfInBounds (its.toArray.size-1)=its.dropLast.toArray;rw[Ry,List.eraseIdxIfInBounds_toArray,rE]
 ·rw[List.length_dropLast];lia
def J_:R2:=λx y H Q=>∃l b xs zs,x=.ref l/\y=.ref b/\H l=some (.lst xs)/\H b=some (.lst zs)/\xs.length+zs.length<=Ri/\∀p,H p=none->Q (.ref p) (upd H p (.lst (xs++zs)))
theorem xm:gL X (Tq .Add) J_:=by
 intro pins s σ H x y v u Q I rx ry h;obtain⟨l,b,xs,zs,rfl,rfl,hH,hB,hz,q⟩:=h;cases rx;cases ry;obtain⟨z,its,n,r,hl,e⟩:=I.uE hH;obtain⟨z2,qX,n2,r2,Pn,e2⟩:=I.uE hB;refine PySem.P.add_list e e2 ?_ (by rw[Ry,Ry];lia)
 have ea:its.toArray++qX.toArray=(its++qX).toArray:=by simp
 rw[ea];exact⟨.ref _,_,I.GU (t':=s.toks) (r.append r2) (by rw[RT];lia),rfl,q _ I.fresh⟩
end
section
end
section
end
end L2
namespace NY
open PySem PySem.W PySem.Calls PyProof.Rows
theorem iO {P:Params}{h:Heap}:∀(ns:List Int) (vs:List QZ),WellAll P h vs (ns.map WData.int)->UW vs ns:=by
 intro ns
 induction ns with
 |nil =>
  intro vs w;rw[List.map_nil]at w;cases w;exact .nil
 |cons n ns ih =>
  intro vs w;rw[RN]at w;cases w with
  |cons a b =>
   cases a;exact .cons _ _ (ih _ b)
theorem t7 {l:OpenLaw}{n:Nat}(hn:l.most=some n){P:Params}{h:Heap}{args:List WData}{vals:List QZ}
  (A8:l.row.toRowW.claim.pre args=true) (KZ:WellAll P h vals args) :
  ∃a vs ns,vals=[Value.ref a]/\args=[WData.list (ns.map WData.int)]/\h.get? a=some {cls:=.type "list",data:=.seq vs.toArray}/\UW vs ns/\ns.length<=n:=by
 have O6:WShape.hasAll [] args [.list .int]=true:=(pre_splitW A8).1;have hc:l.pre.holds [] {args:=args}=true:=(pre_splitW A8).2;obtain⟨d,r,rfl,h1,h2⟩:=hasAllW_cons O6;obtain rfl:=hasAllW_nil h2;obtain⟨xs,rfl,h3⟩:=hasW_list h1;obtain⟨ns,rfl⟩:=items_int h3;have hlen:ns.length<=n:=by
  unfold OpenLaw.pre at hc;have h4:(WTm.not (.lt (.lit (.int (n:Int))) (.len (.arg 0)))).holds [] {args:=[.list (ns.map .int)]}=true:=by
   have h4:=(holds_andW hc).1;rw[hn]at h4;exact h4
  have h5:=condW_of h4 (w_not (w_lt w_lit (w_len_list (w_arg rfl))));rw[Q3]at h5;refine Nat.le_of_not_lt λq=>?_;have q':(n:Int)<((ns.length:Nat):Int):=by lia
  first
   | (rw[decide_eq_true q']at h5;exact absurd h5 (by decide))
   | (simp at h5;lia)
 cases KZ with
 |cons w1 w2 =>
  cases w2;cases w1 with
  |list ho kY=>exact⟨_,_,ns,rfl,rfl,ho,iO ns _ kY,hlen⟩
theorem uh (l:OpenLaw)(args:List WData):l.row.toRowW.claim.post args (.bool true) args=true :=
 postW_of (r:=l.row.toRowW) (X:=(true==true))
  (show WShape.has [] (.bool true) .bool=true by first|rfl|decide|simp[WShape.has,WShape.arms,WShape.armsAll])
  (show (WTm.eq .res (.lit (.bool true))).value [] {args:=args,res:=some (.bool true),after:=args}=some (.bool (true==true)) from w_eq_bool (w_res rfl) w_lit) rfl
theorem pQ {l:OpenLaw}{n:Nat}{q:Q6}{loose:List Str}{XP:(Str->Option QZ)->Heap->Prop}{YP:Rl->Heap->Prop}{d:DefRec}
  (hn:l.most=some n) (Jp:d.params.defaults=[])
  (call:∀(w:Rl) (s₀ s₁:Q1) (mg mb:Str->Option QZ) (fa:Addr) (o:Obj) (pm cd doc:QZ) (a:Addr) (vs:List QZ) (ns:List Int),
   Ground q loose [] XP w s₀ mg mb s₁.heap->YP w s₁.heap ->
   s₁.heap.get? fa=some o->o.data=.func (docDef d.name d.params d.body d.scope pm cd doc)->s₁.heap.CodeRec cd d.name->mg d.name=some (.ref fa) ->
   s₁.heap.get? a=some {cls:=.type "list",data:=.seq vs.toArray}->UW vs ns->ns.length<=n->s₁.gens=#[] ->
   Up (model l.prog w) Vx (.call (.ref fa) ⟨[.ref a],[]⟩) (λr s'=>r=.ok (.ret (.bool true))/\OldK s₁.heap s'.heap/\s'.os=s₁.os/\UA s'.gens) s₁) :
  WalkO q loose XP YP l.row.toRowW d [] (λf vs=>PySem.call f vs):=by
 intro w s₀ s₁ mg mb G Y fa o pm cd doc dV kV ho hd gM hD LD hg args vals as A8 Pm QJ KZ Jn;obtain rfl:dV=.none:=Dflts.none hD Jp;obtain rfl:kV=.none:=Dflts.noKw hD;obtain⟨a,vs,ns,rfl,rfl,EH,hints,hlen⟩:=t7 hn A8 KZ;refine enter_call (Tw (call w s₀ s₁ mg mb fa o pm cd doc a vs ns G Y ho (fd_plain hd) gM LD EH hints hlen hg) λr s' hq=>?_);obtain⟨rfl,h2,h3,h4⟩:=hq;exact⟨.inl ⟨.bool true,.bool true,[],rfl,λ_=>rfl,.bool true,uh l _,λ_=>⟨List.Pairwise.nil,λ_ hm=>(nomatch hm)⟩⟩,h2,h3,h4⟩
section
end
end NY
namespace L2
open PySem PySem.Spec PyProof.Rows
theorem ll:∀{vs:List QZ} {ns:List Int},UW vs ns->Vals (ns.map V.int) vs
 |_,_,.nil=>.nil
 |_,_,.cons n t h=>.cons ⟨t,rfl⟩ (ll h)
def Fg (H:Hp):Prop:=∀b,H b=none\/∃o xs,H b=some (.yq o (.lst xs))
theorem xJ {P:Q6}{w:Rl}{K:PySem.W.Frag}{mg mb:Str->Option QZ}{CX:vm}{k:Nat}{fa a:Addr}{fd:RY}{x:Str}{sp:Sp}{s₁:Q1}{vs:List QZ}{ns:List Int}
  (KX:K.In s₁.heap) (Jk:s₁.heap.Ns S1 mg) (hb:s₁.heap.Ns builtinsNs mb) (Py:∀x:Str,x≠"__name__" -> mb x=Si x) (LH:s₁.heap.NoLimit) (hg:s₁.gens=#[])
  (ha:s₁.heap.get? a=some {cls:=.type "list",data:=.seq vs.toArray}) (hi:UW vs ns) (hl:ns.length<=Ri) (hr:cb k Vx)
  (F:∀base:Heap,K.In base->base.Ns S1 mg->aM P w K mg base CX k fa fd [x] sp) (Il:∀(s:Q1) (u:QZ),BindsTo s fd ⟨[u],[]⟩ [(x,u)])
  (gb:∀H:Hp,Fg H->dg K H a (ns.map V.int)->sp [.ref a] H (λv _=>v=.bl true) λ_ _ _=>False)
  (LY:∀H e s',CX [] H s₁ (λ_ _ _=>False) e s'->False) :
  Up (model P w) Vx (.call (.ref fa) ⟨[.ref a],[]⟩) (λr s'=>r=.ok (.ret (.bool true))/\OldK s₁.heap s'.heap/\s'.os=s₁.os/\UA s'.gens) s₁:=by
 have rv:=ll hi;have KI:=hi.length;have core:∀H:Hp,Fg H->dg K H a (ns.map V.int)->eW P w H s₁.heap->(∀b,H b≠none->b=a)->(H a≠none->K.lookup a=none) ->
   Up (model P w) Vx (.call (.ref fa) ⟨[.ref a],[]⟩) (λr s'=>r=.ok (.ret (.bool true))/\OldK s₁.heap s'.heap/\s'.os=s₁.os/\UA s'.gens) s₁:=by
  intro H hO hS bj hA hK;have tH:∀{b:Addr} {o:Obj},s₁.heap.get? b=some o->H b=none->(mW s₁.heap H).get? b=some o:=λe n=>yh e n;have Gw:∀{b:Addr} {o:Obj} {es:Array DictEntry} {ep:Nat},s₁.heap.get? b=some o->o.data=.dict es ep->H b=none:=λ{b o es ep} e d=>by
   cases q:H b with
   |none=>rfl
   |some u =>
    have e':b=a:=hA b (by rw[q];simp)
    subst e';rw[ha]at e;cases e;have d':Data.seq vs.toArray _=Data.dict es ep:=d;cases d'
  have Ja:∀{b:Addr} {m:Str->Option QZ},s₁.heap.Ns b m->(mW s₁.heap H).Ns b m:=λ{b m} ⟨o,es,ep,e,d,r⟩=>⟨o,es,ep,tH e (Gw e d),d,r⟩;have NM:K.In (mW s₁.heap H):=λb o e=>tH (KX b o e) (by
   cases q:H b with
   |none=>rfl
   |some u =>
    have e':b=a:=hA b (by rw[q];simp)
    subst e';rw[hK (by rw[q];simp)]at e;cases e)
  have hM:Mod K mg (mW s₁.heap H):=⟨NM,Ja Jk,⟨mb,Ja hb,Py⟩,let ⟨mc,h1,h2⟩:=LH;⟨mc,Ja h1,h2⟩⟩
  have e0:BJ P w K mg (mW s₁.heap H) Vx [] s₁ H:=⟨rfl,hM,λb o e=>AE e,Nat.le_of_eq (uS _ _),trivial,λb hb=>absurd (show b∈([]:List Addr) from hb) (by simp),bj,.of_eq hg⟩
  refine Tw ((F _ NM (Ja Jk)).run Vx [] s₁ H ⟨[.ref a],[]⟩ [.ref a] [.ref a] _ _ hr e0 (Il s₁ (.ref a)) (.cons rfl .nil) (gb H hO hS)) λr s' h=>?_;cases r with
  |error e=>exact(LY H e s' h).elim
  |ok fl =>
   cases fl with
   |next=>exact SY h
   |brk=>exact SY h
   |cont=>exact SY h
   |ret u =>
    obtain⟨v,H',os,bare,un,Lw,r',q⟩:=h;have q':v=.bl true:=q;subst q';obtain rfl:u=Value.bool true:=r';refine⟨rfl,OldK.of_keep λb o e=>?_,os,bare⟩;cases q:H b with
    |none=>exact un.keep b o e q (by intro z;exact absurd (show b∈([]:List Addr) from z) (by simp)) (by simp)
    |some u =>
     rcases hO b with z|⟨ob,xs,z⟩
     ·rw[q]at z;cases z
     ·have z2:=un.fJ b ob _ z;obtain⟨e1,_⟩:=bj b _ z;obtain⟨e2,_⟩:=Lw b _ z2;rw[e]at e1;cases e1;exact e2
 cases hk:K.lookup a with
 |some o =>
  have e:=KX a o hk;rw[ha]at e;cases e;refine core (λ_=>none) (λ_=>.inl rfl) (.inr ⟨_,vs.toArray,_,hk,rfl,rfl,rfl,by rw[Ry,KI];exact hl,by simpa using rv⟩) (λb u z=>by have z':(none:Option HO)=some u:=z;cases z') (λb z=>absurd rfl z) λz=>absurd rfl z
 |none =>
  refine core (λb=>if b=a then some (.yq {cls:=.type "list",data:=.seq vs.toArray} (.lst (ns.map V.int))) else none) (λb=>?_) (.inl (.inr ⟨{cls:=.type "list",data:=.seq vs.toArray},if_pos rfl⟩)) (λb u z=>?_) (λb z=>?_) λ_=>hk
  ·by_cases hb:b=a
   ·exact .inr ⟨_,_,if_pos hb⟩
   ·exact .inl (if_neg hb)
  ·by_cases hb:b=a
   ·have z':=(if_pos hb).symm.trans z;cases z';subst hb;exact⟨ha,by rw[Q3];exact hl,vs,_,rv,ha⟩
   ·have z':=(if_neg hb).symm.trans z;cases z'
  ·by_cases hb:b=a
   ·exact hb
   ·exact absurd (if_neg hb) z
theorem zG {l:PySem.W.OpenLaw}{n k:Nat}{q:Q6}{loose:List Str}{XP:(Str->Option QZ)->Heap->Prop}{YP:Rl->Heap->Prop}{d:DefRec}{K:Params->PySem.W.Frag}{CX:Rl->vm}{sp:Rl->Sp}{x:Str}
  (hn:l.most=some n) (Jm:n<=Ri) (Jp:d.params.defaults=[]) (hr:cb k Vx)
  (hY:∀(w:Rl) (h:Heap),YP w h->(K w.params).In h)
  (F:∀(w:Rl) (mg:Str->Option QZ) (fa:Addr) (h:Heap),(K w.params).In h->h.Ns S1 mg->mg d.name=some (.ref fa) ->
   ∃fd:RY,(∀(s:Q1) (u:QZ),BindsTo s fd ⟨[u],[]⟩ [(x,u)]) /\
    ∀base:Heap,(K w.params).In base->base.Ns S1 mg->aM l.prog w (K w.params) mg base (CX w) k fa fd [x] (sp w))
  (gb:∀(w:Rl) (H:Hp) (a:Addr) (ns:List Int),ns.length<=n->Fg H->dg (K w.params) H a (ns.map V.int)->sp w [.ref a] H (λv _=>v=.bl true) λ_ _ _=>False)
  (LY:∀(w:Rl) (H:Hp) (s:Q1) (e:QZ) (s':Q1),CX w [] H s (λ_ _ _=>False) e s'->False) :
  PySem.W.WalkO q loose XP YP l.row.toRowW d [] (λf vs=>PySem.call f vs):=by
 refine NY.pQ hn Jp λw s₀ s₁ mg mb fa o pm cd doc a vs ns G Y ho hd gM LD EH hints hlen hg=>?_;have KX:=hY w _ Y;obtain⟨fd,hb,hF⟩:=F w mg fa _ KX G.T.g LD;exact xJ KX G.T.g G.T.b G.T.builtins G.T.nolimit hg EH hints (R6 hlen Jm) hr hF hb (λH hO hS=>gb w H a ns hlen hO hS) λH e s'=>LY w H s₁ e s'
abbrev bW:vm:=λ_ _ _ _ _ _=>False
abbrev E0:XK:=λ_ _ _=>False
theorem BS {X:Cx}:Passes bW X E0:=λ_ _ _ _ _ _ _ h=>h.elim
structure zb (K:PySem.W.Frag)(x qual:Str)(st:Stmt)(f:Addr)(fd:RY):Prop where
 ex:∃(oc:QZ) (od:Option Addr) (kV doc pm:QZ) (an:Option Addr) (b7 ct:QZ) (BU:Array (Option QZ)),
  fd=PySem.W.fnOf x qual (i3 st) (cV st) (au st) .none kV doc pm an b7 ct/\K.lookup f=some ⟨oc,od,.func fd,BU⟩/\PySem.W.codeIn K b7 qual=true
 kp:PySem.W.keepIn K (.ref f)=true
section
variable {P:Q6}{w:Rl}{K:PySem.W.Frag}{mg:Str->Option QZ}{base:Heap}
theorem zb.ok {x qual:Str}{st:Stmt}{f:Addr}{fd:RY}{N ps:List Str}{k:Nat}{sp:Sp}(F:zb K x qual st f fd)(S:aL N ps (au st))(len:∀vs H Q E,sp vs H Q E->vs.length=ps.length)
  (gG:∀(b7:QZ) (A:R7) (outer:List Env) (s:Q1) (H:Hp) (vs:List V) (Q:VK) (E:XK),cb k (A.deeper (UC qual (au st) s.heap.objs.size f b7))->sp vs H Q E ->
   ∃t,ny (iR bW P w K mg base N qual (au st) f b7 A outer s H E).qP (cV st) t/\t {nx:=λ_ H'=>Q .bB H',rt:=Q} (start N vs) H):aM P w K mg base bW (k+1) f fd ps sp:=by
 obtain⟨oc,od,kV,doc,pm,an,b7,ct,BU,rfl,lk,gM⟩:=F.ex;refine Cn lk gM S len λA outer s H vs Q E hr gb=>?_;obtain⟨t,h,q⟩:=gG b7 A outer s H vs Q E hr gb;exact⟨t,h.qP,q⟩
theorem EV {x qual:Str}{st:Stmt}{f:Addr}{oc:QZ}{od an:Option Addr}{BU:Array (Option QZ)}{kV doc pm b7 ct:QZ}(l:K.lookup f=some ⟨oc,od,.func (PySem.W.fnOf x qual (i3 st) (cV st) (au st) .none kV doc pm an b7 ct),BU⟩)
  (c:PySem.W.codeIn K b7 qual=true) (k:PySem.W.keepIn K (.ref f)=true):zb K x qual st f (PySem.W.fnOf x qual (i3 st) (cV st) (au st) .none kV doc pm an b7 ct):=⟨⟨oc,od,kV,doc,pm,an,b7,ct,BU,rfl,l,c⟩,k⟩
end
section
variable {X:Cx}
theorem pv (i:Nat){x:Str}{pos:Pos}(hN:X.N[i]?=some x:=by rfl)(hv:vB X.env.scope x:=by first|exact Or.inl rfl|exact Or.inr (Or.inl rfl)|exact Or.inr (Or.inr rfl))(hd:(x==("__debug__" : Str))=false:=by decide)
  (gM:(x==("__classdict__" : Str))=false:=by decide):PE X (.Name x pos) (FK i):=d8 hN hv hd gM
end
def az (H H':Hp):Prop:=∀b o,H b=some o->H' b=some o
theorem az.refl (H:Hp):az H H:=λ_ _ h=>h
theorem az.trans {H H1 H2:Hp}(a:az H H1)(b:az H1 H2):az H H2:=λc o h=>b c o (a c o h)
theorem az.free {H H':Hp}(e:az H H'){l:Addr}(h:H' l=Option.none):H l=Option.none:=by
 cases q:H l with
 |none=>rfl
 |some o =>
  rw[e l o q]at h;cases h
theorem az.seq {K:PySem.W.Frag}{H H':Hp}{a:Addr}{xs:List V}(e:az H H')(h:dg K H a xs):dg K H' a xs:=by
 rcases h with (h|⟨o,h⟩)|h
 ·exact .inl (.inl (e _ _ h))
 ·exact .inl (.inr ⟨o,e _ _ h⟩)
 ·exact .inr h
section
variable {X:Cx}{a b c:Expr}{ta tb:TE}{pos:Pos}
def pX (i j:Int):Prop:=0<j/\j.natAbs.log2<9000
theorem pX.of {i j:Int}(h0:0<j)(h:j<2 ^ 200):pX i j:=by
 refine⟨h0,?_⟩;have h2:j.natAbs<2 ^ 200:=by lia
 have:=(Nat.log2_lt (n:=j.natAbs) (k:=200) (by lia)).mpr h2
 lia
theorem om:gL X (Tq .FloorDiv) (rI pX λi j=>.int (i / j)):=I_ λi j _ _ _ _ _ hc q=>by
 have h1:(0:Int)<j:=hc.1;exact floordiv_int (by lia) (by rw[Int.fdiv_eq_ediv_of_nonneg i (by lia)];exact q) (.inl (PyProof.noPylong_of_log2 hc.2))
def Fi (X:Cx)(ops:List Uu)(rs:List Expr)(t:V->TE):Prop :=
 ∀(pos:Pos) (pins:List (Addr×Obj)) (s:Q1) (σ:St) (H:Hp) (x:V) (v:QZ) (Q:VK),Inv X pins σ H s->RelV x v->t x σ H Q ->
  RA (model X.prog X.w) X.A (compareChain pos v ops (evalEach rs X.env)) (EP X pins σ Q) X.xe s
def pV (X:Cx)(ops:List Uu)(rs:List Expr)(t:V->TT):Prop :=
 ∀(pos:Pos) (pins:List (Addr×Obj)) (s:Q1) (σ:St) (H:Hp) (x:V) (v:QZ) (Q:Bool->Hp->Prop),Inv X pins σ H s->RelV x v->t x σ H Q ->
  RA (model X.prog X.w) X.A (testChain pos v ops (evalEach rs X.env)) (TP X pins σ Q) X.xe s
variable {op DM:Uu}{ops:List Uu}{rs:List Expr}{r:R2}{t:V->TE}{tt:V->TT}
theorem E6 (ho:gL X (Sk op) r)(hb:PE X b tb):Fi X [op] [b] (λx σ H Q=>tb σ H λy H2=>r x y H2 Q):=by
 intro pos pins s σ H x v Q I rx h;exact chain_last (br (hb pins s σ H _ I h) λu s1 yb=>by obtain⟨y,H1,I1,r1,q1⟩:=yb;exact ho pins s1 σ H1 x y v u Q I1 rx r1 q1)
theorem Bz (ho:gL X (Sk op) r)(hb:PE X b tb)(hc:Fi X (DM::ops) (c::rs) t):
  Fi X (op::DM::ops) (b::c::rs) (λx σ H Q=>tb σ H λy H2=>r x y H2 λz H3=>∃k,z=.bl k/\(if k=true then t y σ H3 Q else Q (.bl false) H3)):=by
 intro pos pins s σ H x v Q I rx h;refine chain_link (br (hb pins s σ H _ I h) λu s1 ⟨y,H1,I1,r1,q1⟩=>br (ho pins s1 σ H1 x y v u _ I1 rx r1 q1) λd s3 ⟨z,H3,I3,r3,k,e,q3⟩=>?_);subst e;cases r3;refine Tf ?_;cases k with
 |false=>exact ite_ff ⟨.bl false,H3,I3,rfl,q3⟩
 |true=>exact ite_tt (hc pos pins s3 σ H3 y u Q I3 r1 q3)
theorem By (ho:gL X (Sk op) r)(hb:PE X b tb):pV X [op] [b] (λx σ H Q=>tb σ H λy H2=>r x y H2 λz H3=>∃k,z=.bl k/\Q k H3):=by
 intro pos pins s σ H x v Q I rx h;refine test_last (br (hb pins s σ H _ I h) λu s1 ⟨y,H1,I1,r1,q1⟩=>br (ho pins s1 σ H1 x y v u _ I1 rx r1 q1) λd s3 ⟨z,H3,I3,r3,k,e,q3⟩=>?_);subst e;cases r3;exact Tf ⟨H3,I3,q3⟩
theorem yJ (ho:gL X (Sk op) r)(hb:PE X b tb)(hc:pV X (DM::ops) (c::rs) tt):
  pV X (op::DM::ops) (b::c::rs) (λx σ H Q=>tb σ H λy H2=>r x y H2 λz H3=>∃k,z=.bl k/\(if k=true then tt y σ H3 Q else Q false H3)):=by
 intro pos pins s σ H x v Q I rx h;refine test_link (br (hb pins s σ H _ I h) λu s1 ⟨y,H1,I1,r1,q1⟩=>br (ho pins s1 σ H1 x y v u _ I1 rx r1 q1) λd s3 ⟨z,H3,I3,r3,k,e,q3⟩=>?_);subst e;cases r3;refine Tf ?_;cases k with
 |false=>exact ite_ff ⟨H3,I3,q3⟩
 |true=>exact ite_tt (hc pos pins s3 σ H3 y u Q I3 r1 q3)
theorem ud {jE jD:Uu}(ha:PE X a ta)(hc:pV X (jE::jD::ops) (b::c::rs) tt)(hm:lastMarks (jE::jD::ops) (b::c::rs)=false:=by with_unfolding_all rfl):
  PT X (.Compare a (jE::jD::ops) (b::c::rs) pos) (λσ H Q=>ta σ H λx H1=>tt x σ H1 Q):=by
 intro pins s σ H Q I h;exact isTrue_chain (br (ha pins s σ H _ I h) λv s1 A6=>by obtain⟨x,H1,I1,r1,q1⟩:=A6;exact hc pos pins s1 σ H1 x v Q I1 r1 q1) hm
end
theorem rO:Si "max" = some (.builtin "max"):=by decide +kernel
theorem rN:Si "min" = some (.builtin "min"):=by decide +kernel
theorem yP:Si "int" = some (.type "int"):=by decide +kernel
theorem BB:Si "list" = some (.type "list"):=by decide +kernel
theorem l8:Si "sorted" = some (.builtin "sorted"):=by decide +kernel
theorem yO:Si "isinstance" = some (.builtin "isinstance"):=by decide +kernel
theorem GZ {c A B:Prop}[Decidable c](hc:c)(h:A):if decide c=true then A else B:=by
 rw[if_pos (decide_eq_true hc)];exact h
theorem G0 {c A B:Prop}[Decidable c](hc:¬ c)(h:B):if decide c=true then A else B:=by
 rw[if_neg (by simp[hc])]
 exact h
theorem KP {c A B:Prop}[Decidable c](h1:c->A)(h2:¬ c->B):if decide c=true then A else B:=by
 by_cases h:c
 ·exact GZ h (h1 h)
 ·exact G0 h (h2 h)
def Fm (h:Addr)(H H':Hp):Prop:=∀b o,H b=some o->b≠h->H' b=some o
theorem Fm.upd {h:Addr}{H:Hp}{o:HO}:Fm h H (upd H h o):=λb u e n=>by rw[ak n];exact e
theorem az.new {H:Hp}{p:Addr}{o:HO}(n:H p=none):az H (L2.upd H p o):=λb u e=>by rw[ak (bO e n)];exact e
def Hand (H:Hp)(h:Addr):Prop:=∃x y:Int,H h=some (.lst [.int x,.int y])/\0<=x/\0<=y/\y<2147483647
def wb:Sp:=λvs H Q _=>∃c:Int,vs=[.int c]/\∀p H',H p=none->Hand H' p->az H H'->Q (.ref p) H'
def v9:Sp:=λvs H Q _=>∃(h:Addr) (n:Int),vs=[.ref h,.int n]/\Hand H h/\0<n/\n<2 ^ 200 /\
 ∀(r:Int) (H':Hp),0<=r->r<n->Hand H' h->Fm h H H'->Q (.int r) H'
structure Qw (mg:Str->Option QZ):Prop where
 max:mg "max" = none
 min:mg "min" = none
 int:mg "int" = none
section
end
theorem wW:rT 10 18:=⟨by decide,by decide,by decide⟩
section
theorem iY {a:Int}{b:Int}(h:0<b):0<=a % b/\a % b<b:=⟨Int.emod_nonneg a (by lia),Int.emod_lt_of_pos a h⟩
end
def aC (X:Cx)(scope:TU)(N':List Str)(cl:List (Str×Addr))(C:Addr)(s:Q1)(H:Hp)(ex:List Addr):Cx :=
 {X with N:=N',s₀:=s,H₀:=H,env:=compEnvC scope cl C X.env,outer:=X.stack,stack:=X.stack,ex:=ex,fn:=λ_=>false,pn:=[],xe:=λ_ _=>False}
theorem gc {env:Env}:∀(names:List (Str×Uh)) (cs:List (Str×Addr)),(∀x,(x,R4)∈names->∃c,env.cells.lookup x=some c) ->
  (∀x c,cs.lookup x=some c->env.cells.lookup x=some c) ->
  ∃cl,(forIn names cs λ(p:Str×Uh) (cs:List (Str×Addr))=>do
   if p.2==.free then do
    let a <- cellOf env p.1
    pure (U4 ((p.1,a)::cs))
   else pure (U4 cs):Sem (List (Str×Addr)))=pure cl /\
   (∀x,((x,R4)∈names\/(∃c,cs.lookup x=some c))->∃c,cl.lookup x=some c)/\∀x c,cl.lookup x=some c->env.cells.lookup x=some c
 |[],cs,_,Jq=>⟨cs,rfl,λx h=>h.elim (λz=>nomatch z) id,Jq⟩
 | (n,k)::names,cs,hf,Jq=>by
  by_cases hk:k=.free
  ·subst hk;obtain⟨c,hc⟩:=hf n (Ru ..);obtain⟨cl,e,h1,h2⟩:=gc names ((n,c)::cs) (λx hx=>hf x (Rt _ hx)) (λx c' hx=>by
    rw[Ss]at hx;cases q:x==n with
    |true=>rw[q]at hx;cases hx;rw[eq_of_beq q];exact hc
    |false=>rw[q]at hx;exact Jq x c' hx)
   refine⟨cl,?_,λx hx=>h1 x ?_,h2⟩
   ·rw[List.forIn_cons];have ec:cellOf env n=pure c:=by unfold cellOf;rw[hc]
    simp only[beq_self_eq_true,if_true,ec];exact e
   ·rcases hx with hx|⟨c',hx⟩
    ·rcases Ra.mp hx with z|z
     ·cases z;exact .inr ⟨c,by simp⟩
     ·exact .inl z
    ·right
     rw[Ss];cases q:x==n with
     |true=>exact⟨c,rfl⟩
     |false=>exact⟨c',hx⟩
  ·obtain⟨cl,e,h1,h2⟩:=gc names cs (λx hx=>hf x (Rt _ hx)) Jq;refine⟨cl,?_,λx hx=>h1 x ?_,h2⟩
   ·rw[List.forIn_cons];have hb:(k==R4)=false:=by simpa using hk
    simp only[hb,Uv,if_false];exact e
   ·rcases hx with hx|hx
    ·rcases Ra.mp hx with z|z
     ·cases z;exact absurd rfl hk
     ·exact .inl z
    ·exact .inr hx
theorem fU {env:Env}{scope:TU}(h:∀x,(x,R4)∈scope.names->∃c,env.cells.lookup x=some c):
  ∃cl,closureFor scope env=pure cl/\(∀x,(x,R4)∈scope.names->∃c,cl.lookup x=some c)/\∀x c,cl.lookup x=some c->env.cells.lookup x=some c:=by
 obtain⟨cl,e,h1,h2⟩:=gc scope.names [] h (λx c z=>by simp at z)
 refine⟨cl,?_,λx hx=>h1 x (.inl hx),h2⟩;unfold closureFor;refine Eq.trans ?_ (congrArg (· >>= pure) e);rfl
structure Links (X:Cx)(scope:TU)(N':List Str)(lk:List (Option Nat)):Prop where
 kind:scope.kind=.function
 qQ:∀x∈scope.names,x.2≠.cell
 names:∀x∈scope.names,x.2=.local->scope.names.lookup x.1=some .local
 free:∀x,(x,R4)∈scope.names->X.env.kindOf x=some .cell\/X.env.kindOf x=some .free
 len:lk.length=N'.length
 link:∀(i j:Nat),lk[i]?=some (some j)->∃x,N'[i]?=some x/\X.N[j]?=some x/\(x,R4)∈scope.names/\scope.names.lookup x=some .free
def g8 (outer:List (Str×Uh))(N:List Str)(scope:TU)(N':List Str)(lk:List (Option Nat)):Bool :=
 (scope.kind==.function)&&scope.names.all (λx=>x.2 != .cell&&(x.2 != .local || scope.names.lookup x.1==some .local)&&(x.2 != .free || outer.lookup x.1==some .cell || outer.lookup x.1==some .free)) &&
 lk.length==N'.length&&(Rz lk.length).all λi=>match lk[i]? with
  |some (some j)=>match N'[i]? with
   |some x=>N[j]?==some x&&scope.names.contains (x,.free)&&scope.names.lookup x==some .free
   |none=>false
  |_=>true
theorem Links.of {X:Cx}{scope:TU}{N':List Str}{lk:List (Option Nat)}(h:g8 X.env.scope.names X.N scope N' lk=true):Links X scope N' lk:=by
 simp only[g8,RZ]at h;obtain⟨⟨⟨h1,h2⟩,h3⟩,h4⟩:=h;rw[S7]at h2 h4;refine⟨by simpa using h1,λx hx=>?_,λx hx hl=>?_,λx hx=>?_,by simpa using h3,λi j aG=>?_⟩
 ·have:=h2 x hx;simp only[RZ]at this;simpa using this.1.1
 ·have:=h2 x hx;simp only[RZ]at this;have q:=this.1.2;rw[hl]at q;simpa using q
 ·have:=h2 _ hx;simp only[RZ]at this;have q:=this.2;simp only[Bool.or_eq_true]at q;rcases q with (q|q)|q
  ·simp at q
  ·exact .inl (show X.env.scope.names.lookup x=some .cell by simpa using q)
  ·exact .inr (show X.env.scope.names.lookup x=some .free by simpa using q)
 ·have hi:i<lk.length:=(Rw.mp aG).1;have q:=h4 i (So.mpr hi);rw[aG]at q;simp only at q;cases e:N'[i]? with
  |none=>rw[e]at q;simp at q
  |some x =>
   rw[e]at q;simp only[RZ]at q;obtain⟨⟨q1,q2⟩,q3⟩:=q;exact⟨x,rfl,by simpa using q1,by simpa using q2,by simpa using q3⟩
def di (lk:List (Option Nat))(σ:St):St:=lk.map λl=>match l with|some j=>(match σ[j]? with|some v=>v|none=>none)|none=>none
theorem cN {env:Env}:∀{names:List (Str×Uh)} {x:Str},names.lookup x=some .free ->
  (names.map λ(n,k)=>if (k==R4&&env.scope.kind==.function&&env.kindOf n==some .cell) then (n,TH) else (n,k)).lookup x=some .cell \/
  (names.map λ(n,k)=>if (k==R4&&env.scope.kind==.function&&env.kindOf n==some .cell) then (n,TH) else (n,k)).lookup x=some .free
 |[],_,h=>by simp at h
 | (n,k)::r,x,h=>by
  have ih:=@cN env r x;show List.lookup x ((if (k==R4&&env.scope.kind==.function&&env.kindOf n==some .cell)=true then (n,TH) else (n,k))::_)=_ \/
   List.lookup x ((if (k==R4&&env.scope.kind==.function&&env.kindOf n==some .cell)=true then (n,TH) else (n,k))::_)=_
  cases hx:x==n with
  |true =>
   simp only[Ss,hx]at h;cases h
   by_cases hc:(R4==R4&&env.scope.kind==.function&&env.kindOf n==some .cell)=true
   ·rw[if_pos hc];left;simp[Ss,hx]
   ·rw[if_neg hc];right;simp[Ss,hx]
  |false =>
   simp only[Ss,hx]at h
   by_cases hc:(k==R4&&env.scope.kind==.function&&env.kindOf n==some .cell)=true
   ·rw[if_pos hc];simp only[Ss,hx];exact ih h
   ·rw[if_neg hc];simp only[Ss,hx];exact ih h
theorem cL {env:Env}:∀{names:List (Str×Uh)} {x:Str} {k:Uh},(k=.cell\/k=.free)->(∀y∈names,y.2≠.cell) ->
  (names.map λ(n,k)=>if (k==R4&&env.scope.kind==.function&&env.kindOf n==some .cell) then (n,TH) else (n,k)).lookup x=some k->(x,R4)∈names
 |[],_,_,_,_,h=>by simp at h
 | (n,k')::r,x,k,hk,hc,h=>by
  have ih:=@cL env r x k hk (λy hy=>hc y (Rt _ hy));have h':List.lookup x ((if (k'==R4&&env.scope.kind==.function&&env.kindOf n==some .cell)=true then (n,TH) else (n,k'))::(r.map λ(n,k)=>if (k==R4&&env.scope.kind==.function&&env.kindOf n==some .cell) then (n,TH) else (n,k)))=some k:=h
  have Fv:=hc (n,k') (Ru ..)
  by_cases Bc:(k'==R4&&env.scope.kind==.function&&env.kindOf n==some .cell)=true
  ·rw[if_pos Bc]at h';simp only[RZ,beq_iff_eq]at Bc;cases hx:x==n with
   |true=>rw[eq_of_beq hx,Bc.1.1];exact Ru ..
   |false=>rw[Ss,hx]at h';exact Rt _ (ih h')
  ·rw[if_neg Bc]at h';cases hx:x==n with
   |true =>
    rw[Ss,hx]at h';have e:k'=k:=by simpa using h'
    subst e;rcases hk with hk|hk
    ·exact absurd hk Fv
    ·rw[eq_of_beq hx,hk];exact Ru ..
   |false=>rw[Ss,hx]at h';exact Rt _ (ih h')
section
variable {X:Cx}{pins:List (Addr×Obj)}{σ:St}{H:Hp}{s:Q1}{scope:TU}{N':List Str}{lk:List (Option Nat)}{cl:List (Str×Addr)}{ex:List Addr}
theorem xS {h':Heap}{t':Nat}(I:Inv X pins σ H s)(L:Links X scope N' lk)(hex:∀b∈ex,gg X pins H b)(Ly:∀b∈ex,∃o,s.heap.get? b=some o)
  (kU:∀x,(x,R4)∈scope.names->∃c,cl.lookup x=some c) (rl:∀x c,cl.lookup x=some c->X.env.cells.lookup x=some c)
  (hn:h'.Ns s.heap.objs.size (λ_=>none)) (hk:∀b o,s.heap.get? b=some o->h'.get? b=some o) :
  Inv (aC X scope N' cl s.heap.objs.size s H ex) [] (di lk σ) H {s with heap:=h',toks:=t'}:=by
 obtain⟨m,hm,hl⟩:=I.loc;have PZ:∀b∈ex,b≠s.heap.objs.size:=λb hb=>by
  obtain⟨o,e⟩:=Ly b hb;exact RQ (Rj e)
 refine⟨⟨I.ok.mod,L.kind,I.ok.glob,I.ok.blt,Q4 _,λx y c h1 h2=>I.ok.inj x y c (rl _ _ h1) (rl _ _ h2),λx hx=>?_,λx c z=>(nomatch z),I.ok.hd,I.ok.frames,.inl rfl,
  λb hb=>⟨PZ b hb,λx c e=>(hex b hb).2.2.2.2.1 x c (rl _ _ e)⟩,I.bs,R6 I.ok.yQ I.sz,λb o e z=>?_,λb hb z=>?_,I.stack,I.my⟩,
  rfl,I.bare,Un.kept hk,⟨_,hn,λi x v h1 h2 h3=>?_⟩,λx c e=>?_,I.bj.fresh (Q4 _),λx c e=>I.cP x c (rl _ _ e),λp hp=>absurd (show p∈([]:List (Addr×Obj)) from hp) (by simp),I.bj.kept hk,?_⟩
 ·have Ft:(relabel scope X.env).names.lookup x=some .cell\/(relabel scope X.env).names.lookup x=some .free:=hx;rcases Ft with q|q
  ·exact kU x (cL (.inl rfl) L.qQ q)
  ·exact kU x (cL (.inr rfl) L.qQ q)
 ·obtain⟨f0,f1,f2,f3,_⟩:=hex b z;rcases f3 with q|q
  ·exact I.ok.oq b o e q
  ·have h1:=Rj e;have h2:=I.ok.yQ;exact absurd (RF h1 (R6 h2 q)) (Te _)
 ·obtain⟨f0,f1,f2,f3,_⟩:=hex b hb;rcases Ra.mp (I.qq b z)with q|q
  ·exact f1 q
  ·exact f2 q
 ·have hi:∃j,lk[i]?=some (some j)/\σ[j]?=some (some v):=by
   have yj:(di lk σ)[i]?=some (some v):=h2;unfold di at yj;rw[Rn]at yj;cases e:lk[i]? with
   |none=>rw[e]at yj;cases yj
   |some l =>
    cases l with
    |none=>rw[e]at yj;cases yj
    |some j =>
     rw[e]at yj;cases e2:σ[j]? with
     |none=>simp[e2]at yj
     |some w' =>
      simp only[UY,e2,VA]at yj;subst yj;exact⟨j,rfl,e2⟩
  obtain⟨j,hj,hσ⟩:=hi;obtain⟨y,e1,e2,e3,e4⟩:=L.link i j hj;have PX:x=y:=by
   have Bf:N'[i]?=some x:=h1;rw[e1]at Bf;exact(RC Bf).symm
  subst PX;have K0:vB X.env.scope x:=by
   rcases L.free x e3 with q|q
   ·exact .inr (.inl q)
   ·exact .inr (.inr q)
  obtain⟨u,ru,lu⟩:=hl j x v e2 hσ K0;refine⟨u,ru,.inr ⟨?_,?_⟩⟩
  ·exact cN e4
  ·rcases lu with⟨k,_⟩|⟨_,c,hc,z⟩
   ·rcases L.free x e3 with q|q <;> (rw[k]at q;cases q)
   ·obtain⟨c',oW⟩:=kU x e3;have:=rl x c' oW;rw[hc]at this;cases this;obtain⟨o,ho,hd⟩:=z;exact⟨c,oW,o,hk _ _ ho,hd⟩
 ·obtain⟨v,o,ho,hd⟩:=I.cell x c (rl _ _ e);exact⟨v,o,hk _ _ ho,hd⟩
 ·show (di lk σ).length=N'.length;unfold di;rw[Q3,L.len]
theorem xT {s':Q1}{σ':St}{H':Hp}{pl:List (Addr×Obj)}{C:Addr}{h'':Heap}(I:Inv X pins σ H s)(hex:∀b∈ex,gg X pins H b)
  (J:Inv (aC X scope N' cl s.heap.objs.size s H ex) pl σ' H' s') (hs:S3 s.heap.objs.size s'.heap h''):Inv X pins σ H' {s' with heap:=h''}:=by
 have hC:H' s.heap.objs.size=none:=J.free;have u:=J.base;refine I.CD (ch:=ex) (s':={s' with heap:=h''}) J.os ?_ ?_ J.bare (λb hb=>?_)
 ·have kk:∀b o,b≠s.heap.objs.size->s'.heap.get? b=some o->h''.get? b=some o:=λb o hb e=>(hs.2 b hb).trans e;have ne:∀b o,s.heap.get? b=some o->b≠s.heap.objs.size:=λb o e=>RQ (Rj e);refine⟨λb o e n hb hx=>kk b _ (ne b o e) (u.keep b o e n hb hx),λb o e n hb hx=>?_,u.free,λb o e hx=>?_,u.fX,u.fJ,u.fY⟩
  ·obtain⟨sl,q⟩:=u.slot b o e n hb hx;exact⟨sl,kk b _ (ne b o e) q⟩
  ·obtain⟨o',q⟩:=u.there b o e hx;exact⟨o',kk b _ (ne b o e) q⟩
 ·intro b o e;have hb:b≠s.heap.objs.size:=λz=>by rw[z]at e;rw[hC]at e;cases e
  refine(J.bj b o e).mz (λc v hc q=>(hs.2 c ?_).trans q) (λ_ q=>q) λ_ _ q=>q;rcases hc with z|z
  ·rw[z];exact hb
  ·intro z';rw[z']at z;rw[hC]at z;cases z
 ·obtain⟨f0,f1,f2,f3,f4,f5⟩:=hex b hb;exact⟨f3,f1,f4,f5⟩
end
def jg (g:TM)(after:Sem Fin->Sem Fin)(e:Expr)(d:Nat)(it acc:QZ)(env:Env):Sem Fin:=do
 UQ g.iter.pos
 match <- Vo it with
 |none=>pure (.done .next)
 |some v =>
  UX g.target it v
  assign g.target env v
  let mut ok:=true
  for c in g.ifs do
   if ok then ok <- VG c env (eval c env)
  if ok then after (again (.compLoop e d it acc env)) else again (.compLoop e d it acc env)
def mK (e:Expr)(d:Nat)(g':TM)(acc:QZ)(env:Env)(k:Sem Fin):Sem Fin:=do
 let x <- eval g'.iter env
 UQ g'.iter.pos
 let x <- Se g'.iter env x
 let _ <- runOwn (.compStart e (d+1) (<- holding [x] (Vp x)) acc env) env
 k
def ji (t:Sem Unit)(k:Sem Fin):Sem Fin:=do
 t
 k
def tj (elt:Expr)(acc:QZ)(env:Env):Sem Unit:=do let _ <- call (.builtin "list.append") [acc,<- eval elt env]
def yy (k v:Expr)(acc:QZ)(env:Env):Sem Unit:=do
    let kv <- eval k env
    let vv <- holding [kv] (eval v env)
    match acc with
    |.ref d=>do
     UQ {k.pos with endLine:=v.pos.endLine,endCol:=v.pos.endCol}
     holding [kv,vv] (dictSet d kv vv)
    |_=>unsupported "internal:dictcomp"
structure fW (e:Expr)(d:Nat)(g:TM)(acc:QZ)(env:Env)(after:Sem Fin->Sem Fin):Prop where
 turn:∀it,compTurn e d it acc env=jg g after e d it acc env
 cl:(clausesOf e)[d]?=some g
 sync:g.is_async=0
 quiet:∀it,(UE e d it acc env).quiet=true
 under:∀(A:R7) it,A.under (UE e d it acc env)=A
 C4:∀(A:R7) it,A.under (VZ e d it acc env)=A
 DU:∀it,(UE e d it acc env).isFrame=false
 Gv:∀it,(VZ e d it acc env).isFrame=false
section
variable {elt tg vV cH mR k v:Expr}{ifs kS:List Expr}{sc:TU}{pos:Pos}{acc:QZ}{env:Env}
theorem CB:fW (.ListComp elt [⟨tg,cH,ifs,0⟩] sc pos) 0 ⟨tg,cH,ifs,0⟩ acc env (ji (tj elt acc env)) :=
 ⟨λ_=>rfl,rfl,rfl,λ_=>rfl,λ_ _=>rfl,λ_ _=>rfl,λ_=>rfl,λ_=>rfl⟩
theorem IE:fW (.DictComp k v [⟨tg,cH,ifs,0⟩] sc pos) 0 ⟨tg,cH,ifs,0⟩ acc env (ji (yy k v acc env)) :=
 ⟨λ_=>rfl,rfl,rfl,λ_=>rfl,λ_ _=>rfl,λ_ _=>rfl,λ_=>rfl,λ_=>rfl⟩
theorem E8:fW (.ListComp elt [⟨tg,cH,ifs,0⟩,⟨vV,mR,kS,0⟩] sc pos) 0 ⟨tg,cH,ifs,0⟩ acc env (mK (.ListComp elt [⟨tg,cH,ifs,0⟩,⟨vV,mR,kS,0⟩] sc pos) 0 ⟨vV,mR,kS,0⟩ acc env) :=
 ⟨λ_=>rfl,rfl,rfl,λ_=>rfl,λ_ _=>rfl,λ_ _=>rfl,λ_=>rfl,λ_=>rfl⟩
theorem E7:fW (.ListComp elt [⟨tg,cH,ifs,0⟩,⟨vV,mR,kS,0⟩] sc pos) 1 ⟨vV,mR,kS,0⟩ acc env (ji (tj elt acc env)) :=
 ⟨λ_=>rfl,rfl,rfl,λ_=>rfl,λ_ _=>rfl,λ_ _=>rfl,λ_=>rfl,λ_=>rfl⟩
end
def FL:TT:=λ_ H Q=>Q true H
def qd (X:Cx)(ifs:List Expr)(t:TT):Prop :=
 ∀(pins:List (Addr×Obj)) (s:Q1) (σ:St) (H:Hp) (Q:Bool->Hp->Prop),Inv X pins σ H s->t σ H Q ->
  RA (model X.prog X.w) X.A (forIn ifs true λc r=>if r=true then do let ok <- VG c X.env (eval c X.env);pure (U4 ok) else pure (U4 r)) (TP X pins σ Q) X.xe s
theorem z7 {X:Cx}:qd X [] FL:=λ_ _ _ H _ I h=>wpAny_tests_nil ⟨H,I,h⟩
theorem z6 {X:Cx}{c:Expr}{t:TT}(h:PT X c t):qd X [c] t:=λpins s σ H Q I q=>wpAny_tests_one (h pins s σ H Q I q)
abbrev ku:=(St->Hp->Prop)->St->Hp->Prop
def nj (X:Cx)(after:Sem Fin->Sem Fin)(t:ku):Prop :=
 ∀(pins:List (Addr×Obj)) (s:Q1) (σ:St) (H:Hp) (N:St->Hp->Prop) (k:Sem Fin) (Q:Fin->Q1->Prop) (E:QZ->Q1->Prop),Inv X pins σ H s->t N σ H ->
  (∀σ' H' s',Inv X pins σ' H' s'->N σ' H'->RA (model X.prog X.w) X.A k Q E s')->RA (model X.prog X.w) X.A (after k) Q E s
theorem dv {X:Cx}(hx:X.xe=λ_ _=>False){α:Type}{t:Sem α}{Q:α->Q1->Prop}{E:QZ->Q1->Prop}{s:Q1}(h:RA (model X.prog X.w) X.A t Q X.xe s):RA (model X.prog X.w) X.A t Q E s :=
 TQ h (λ_ _ q=>q) λe s q=>by rw[hx]at q;exact q.elim
def eZ (J:It)(g:TG)(tt:TT)(ta:ku)(End:St->Hp->Prop):St->Hp->Prop:=λσ H =>
 ∃W:Nat->Nat->St->Hp->Prop,(∃m,W 0 m σ H)/\∀i m σ H,W i m σ H->(J.stop i H/\End σ H) \/
  (J.go i H/\∃N:St->Hp->Prop,(∀σ' H',N σ' H'->∃m',m'<m/\W (i+1) m' σ' H')/\∀x H',J.FE i H x H'->g x σ H' λσ2 H2=>tt σ2 H2 λb H3=>if b=true then ta N σ2 H3 else N σ2 H3)
section
variable {X:Cx}{e:Expr}{d:Nat}{g:TM}{acc:QZ}{after:Sem Fin->Sem Fin}{tg:TG}{tt:TT}{ta:ku}
theorem u6 (hx:X.xe=λ_ _=>False)(hc:X.calm=true)(F:fW e d g acc X.env after)(hg:PG X g.target tg)(ht:qd X g.ifs tt)(ha:nj X after ta)
  {it:Addr} {fp:List Addr} {tn:Nat->Heap->Prop} {J:It} (T:Turn X.prog X.w X.K g.target J fp it tn) {pins:List (Addr×Obj)} {σ:St} {H:Hp} {s:Q1} {End:St->Hp->Prop}
  (I:Inv X pins σ H s) (st:tn 0 s.heap) (hf:∀b∈fp,gg X pins H b) (h:eZ J tg tt ta End σ H) :
  Up (model X.prog X.w) X.A (.compLoop e d (.ref it) acc X.env) (λr s'=>r=.ok .next/\∃σ' H',Inv X pins σ' H' s'/\End σ' H') s:=by
 obtain⟨W,⟨m0,w0⟩,turn⟩:=h;have qr:∀{H':Hp},(∀b∈fp,H' b=none)->∀b∈fp,gg X pins H' b:=λhn b hb=>⟨hn b hb,(hf b hb).2⟩;refine codeAny_loop (F.quiet _) (λn s'=>∃i σ' H',Inv X pins σ' H' s'/\tn i s'.heap/\(∀b∈fp,H' b=none)/\W i n σ' H') (λn s3 hI=>?_) m0 ⟨0,σ,H,I,st,λb hb=>(hf b hb).1,w0⟩;obtain⟨i,σ3,H3,I3,jl,Ir,w3⟩:=hI;rw[F.under];have EM:(model X.prog X.w).den (.compLoop e d (.ref it) acc X.env)=(jg g after e d (.ref it) acc X.env).onRaise (λx=>do noteFrame x X.env;theTreesLotGoes x):=by
  rw[<- F.turn];show (if (UE e d (.ref it) acc X.env).isFrame then _ else _)=_
  rw[F.DU];rfl
 rw[EM];refine wpAny_noted ?_;unfold jg;rcases turn i n σ3 H3 w3 with⟨stop,qn⟩|⟨go,N,hN,step⟩
 ·refine Q0 (Tb (Q0 (br (T.done X rfl rfl rfl hc i pins s3 σ3 H3 _ I3 (qr Ir) jl stop) λr s4 ⟨hr,I4⟩=>?_)));subst hr;exact Q_ ⟨rfl,σ3,H3,I4,qn⟩
 ·refine Q0 (Tb (Q0 (br (T.item X rfl rfl rfl hc i pins s3 σ3 H3 _ I3 (qr Ir) jl go) λr s4 ⟨u,hr,h4⟩=>?_)));subst hr;refine Q0 (br h4 λ_ s5 ⟨x,H5,I5,r5,y5,Dc,L6⟩=>?_);have Mu:=I5.pinned (qr L6) (T.obj _ _ Dc);refine Q0 (br (dv hx (hg _ s5 σ3 H5 x u _ Mu r5 (step x H5 y5))) λ_ s6 ⟨σ6,H6,I6,q6⟩=>?_);refine Q0 (br (dv hx (ht _ s6 σ6 H6 _ I6 q6)) λok s7 ⟨H7,I7,q7⟩=>?_);have yW:∀{σ8:St} {H8:Hp} {s8:Q1},Inv X (pins++jz fp s5.heap) σ8 H8 s8->N σ8 H8->∃m,m<n/\∃i σ' H',Inv X pins σ' H' s8/\tn i s8.heap/\(∀b∈fp,H' b=none)/\W i m σ' H':=λ{σ8 H8 s8} I8 n8=>by
   obtain⟨m',hm,w8⟩:=hN σ8 H8 n8;refine⟨m',hm,i+1,σ8,H8,I8.gk,T.keep _ _ _ Dc λb hb o e=>(I8.pin (b,o) (RX _ (RX _ (eh hb e)))).1,λb hb=>?_,w8⟩;obtain⟨o,e,d⟩:=T.obj _ _ Dc b hb;exact(I8.pin (b,o) (RX _ (RX _ (eh hb e)))).2.1
  cases ok with
  |false=>exact Q_ ⟨rfl,yW I7 (by simpa using q7)⟩
  |true =>
   exact ha _ s7 σ6 H7 N _ _ _ I7 (by simpa using q7) λσ8 H8 s8 I8 n8=>Q_ ⟨rfl,yW I8 n8⟩
theorem kl (hx:X.xe=λ_ _=>False)(hc:X.calm=true)(F:fW e d g acc X.env after)(hg:PG X g.target tg)(ht:qd X g.ifs tt)(ha:nj X after ta)
  {it:Addr} {fp:List Addr} {tn:Nat->Heap->Prop} {J:It} (T:Turn X.prog X.w X.K g.target J fp it tn) {pins:List (Addr×Obj)} {σ:St} {H:Hp} {s:Q1} {End:St->Hp->Prop}
  (I:Inv X pins σ H s) (st:tn 0 s.heap) (hf:∀b∈fp,gg X pins H b) (h:eZ J tg tt ta End σ H) :
  Up (model X.prog X.w) X.A (.compStart e d (.ref it) acc X.env) (λr s'=>r=.ok .next/\∃σ' H',Inv X pins σ' H' s'/\End σ' H') s:=by
 have lp:=u6 hx hc F hg ht ha T I st hf h;refine VS ?_;rw[F.C4];have EM:(model X.prog X.w).den (.compStart e d (.ref it) acc X.env)=(compStart e d (.ref it) acc X.env).onRaise (λx=>do noteFrame x X.env;UQ theWindowsPlace):=by
  show (if (VZ e d (.ref it) acc X.env).isFrame then _ else _)=_
  rw[F.Gv];rfl
 rw[EM];refine wpAny_notedAt ?_;unfold compStart;rw[F.cl];simp only[Option.elim_some,F.sync];show RA _ _ (ask >>= _) _ _ s;refine Q0 (UI (wpAny_ite ?_))
 split
 ·first
   |exact Q0 (Q_ (Q_ (And.intro (F.quiet _) lp)))
   |exact Q_ (And.intro (F.quiet _) lp)
 ·have h2:∀(E:QZ->Q1->Prop),RA (model X.prog X.w) X.A (Vp (.ref it)) (λJg s'=>(UE e d Jg acc X.env).quiet=true/\Up (model X.prog X.w) X.A (.compLoop e d Jg acc X.env) (λr s'=>r=.ok .next/\∃σ' H',Inv X pins σ' H' s'/\End σ' H') s') E s :=
   λE=>T.self X.A 0 s _ E st ⟨F.quiet _,lp⟩
  first
   |exact Q0 (T_ (Q0 (Tb (Q0 (TQ (h2 _) (λJg s' h'=>Q_ h') λ_ _ x=>x)))))
   | (refine Q0 (T_ ?_);exact Q0 (Tb (Q0 (TQ (h2 _) (λJg s' h'=>Q_ h') λ_ _ x=>x))))
theorem Am {g':TM}{wi:TI}(hx:X.xe=λ_ _=>False)(hc:X.calm=true)(F:fW e (d+1) g' acc X.env after)(hi:PI X g'.target g'.iter wi)(hg:PG X g'.target tg)(ht:qd X g'.ifs tt)(ha:nj X after ta)
  (hs:∀x,Se g'.iter X.env x=pure x:=by intro _;rfl) :
  nj X (mK e d g' acc X.env) (λN σ H=>wi σ H λJ H1=>eZ J tg tt ta N σ H1):=by
 intro pins s σ H N k Q E I h hk;unfold mK;refine Q0 (br (dv hx (hi pins s σ H _ I h)) λx s1 h1=>?_);refine Q0 (Tb (Q0 (VM (hs x) ?_)));refine Q0 (Sj (br (dv hx h1) λB_ s2 h2=>?_));obtain⟨it,fp,tn,J,H2,e1,I2,T,eJ,f2,hl⟩:=h2;subst e1;refine Q0 (wpAny_runOwn (Tw (kl hx hc F hg ht ha T I2 eJ f2 hl) λr s' hr=>?_));obtain⟨rfl,σ',H',I',q⟩:=hr;exact hk σ' H' s' I' q
theorem jC {elt:Expr}{te:TE}{a:Addr}(hx:X.xe=λ_ _=>False)(he:PE X elt te):
  nj X (ji (tj elt (.ref a) X.env)) (λN σ H=>te σ H λv H1=>∃xs,H1 a=some (.lst xs)/\xs.length<Ri/\N σ (upd H1 a (.lst (xs++[v])))):=by
 intro pins s σ H N k Q E I h hk;unfold ji tj;refine Q0 (Q0 (br (dv hx (he pins s σ H _ I h)) λu s1 ⟨v,H1,I1,r1,xs,hH,hz,q⟩=>?_));refine Q0 (br (dv hx <| gZ (X:=X) pins s1 σ H1 (.ref a) [v] (.ref a) [u] (λw' H'=>N σ H') I1 rfl (.cons r1 .nil) ⟨a,xs,v,rfl,rfl,hH,hz,q⟩) λ_ s2 ⟨_,H2,I2,_,q2⟩=>?_)
 exact Q_ (hk σ H2 s2 I2 q2)
end
section
variable {X:Cx}{e:Expr}
structure kz (X:Cx)(dF:Sem QZ)(o:HO):Prop where
 ok:∀(pins:List (Addr×Obj)) (s:Q1) (σ:St) (H:Hp) (Q:QZ->Q1->Prop) (E:QZ->Q1->Prop),Inv X pins σ H s ->
  (∀a s',s.heap.objs.size<=a->H a=none->(∀b o,s.heap.get? b=some o->s'.heap.get? b=some o)->Inv X pins σ (upd H a o) s'->Q (.ref a) s')->RA (model X.prog X.w) X.A dF Q E s
theorem jK:kz X (newList []) (.lst []) :=
 ⟨λpins s σ H Q E I h=>TY (h _ _ (Q4 _) I.fresh (λb o e=>Q8 _ e) (I.GU (its:=[]) (t':=s.toks) .nil (Rr _)))⟩
theorem Inv.sameBut {pins:List (Addr×Obj)}{σ:St}{H:Hp}{s:Q1}{C:Addr}{h':Heap}(I:Inv X pins σ H s)(f:gg X pins H C)(hs:S3 C s.heap h'):Inv X pins σ H {s with heap:=h'}:=by
 obtain⟨f0,f1,f2,f3,f4,f5⟩:=f;exact I.turned (t':=s.toks) (λb o hb e=>(hs.2 b hb).trans e) f0 f1 f3 f4 f5
end
end L2
namespace ST
open PySem PySem.SetTable
def it:Nat->Nat->Nat
 |0,x=>x
 |n+1,x=>5*it n x+1
theorem qZ (a:Nat):∀(b x:Nat),it (a+b) x=it b (it a x)
 |0,x=>rfl
 |b+1,x=>by
  show 5*it (a+b) x+1=5*it b (it a x)+1;rw[qZ a b x]
theorem xP:∀j:Nat,∃a b:Nat,∀x,it (2 ^ j) x=(1+4*2 ^ j*a)*x+2 ^ j*(1+2*b)
 |0=>⟨1,0,λx=>by show 5*x+1=_;simp⟩
 |j+1=>by
  obtain⟨a,b,h⟩:=xP j;refine⟨a+2*2 ^ j*a*a,b+2 ^ j*a*(1+2*b),λx=>?_⟩;rw[show 2 ^ (j+1)=2 ^ j+2 ^ j by rw[UT];lia,qZ,h,h]
  generalize 2 ^ j=P
  grind
theorem lift:∀(j x t:Nat),∃k,k<2 ^ j/\it k x % 2 ^ j=t % 2 ^ j
 |0,x,t=>⟨0,by decide,by rw[Nat.pow_zero,Nat.mod_one,Nat.mod_one]⟩
 |j+1,x,t=>by
  obtain⟨k,hk,e⟩:=lift j x t;obtain⟨a,b,h⟩:=xP j;have hP:0<2 ^ j:=Vb (by decide)
  rw[UT]
  by_cases q:it k x % (2 ^ j*2)=t % (2 ^ j*2)
  ·exact⟨k,by lia,q⟩
  ·refine⟨k+2 ^ j,by lia,?_⟩
   rw[qZ,h];generalize it k x=y at *
   generalize 2 ^ j=P at *
   have e1:((1+4*P*a)*y+P*(1+2*b))=(y+P)+(P*2)*(2*a*y+b):=by grind
   rw[e1,Nat.add_mul_mod_self_left,VO,VO];rw[VO,VO,e]at q;rw[Nat.add_mod_right,Nat.add_div_right _ hP,e];have u1:y / P % 2<2:=Ur _ (by decide)
   have u2:t / P % 2<2:=Ur _ (by decide)
   have u3:y / P % 2≠t / P % 2:=λz=>q (by rw[z])
   have u4:(y / P).succ % 2=t / P % 2:=by lia
   rw[u4]
def cG (m:Nat)(p:Probe):Probe:=advance {mask:=m,place:=#[],dummies:=#[],finger:=0,led:=true,moves:=0,plain:=true} p
def JZ (m:Nat)(h:Int):Probe:=probeStart {mask:=m,place:=#[],dummies:=#[],finger:=0,led:=true,moves:=0,plain:=true} h
theorem C_ (t:SetTable)(h:Int):probeStart t h=JZ t.mask h:=rfl
def eX (m:Nat)(h:Int):Nat->Probe
 |0=>JZ m h
 |n+1=>cG m (eX m h n)
def bU (m:Nat)(h:Int)(n:Nat):Nat:=(eX m h n).j
def lp (m:Nat)(h:Int):Nat->Nat×Nat
 |0=>(bits h % (m+1),bits h)
 |k+1=>leap m (lp m h k).1 (lp m h k).2
def Fz (m:Nat)(x:Nat×Nat):Probe:={j:=x.1,more:=runEnd m x.1-x.1,i:=x.1,perturb:=x.2,dummy:=none}
theorem Dp (m i:Nat):runEnd m i-i<=9:=by
 unfold runEnd
 split <;> lia
theorem rf (m:Nat)(h:Int)(x:Nat×Nat)(n:Nat)(e:eX m h n=Fz m x):∀d,d<=runEnd m x.1-x.1->eX m h (n+d)={Fz m x with j:=x.1+d,more:=runEnd m x.1-x.1-d}
 |0,_=>by rw[Nat.add_zero,e];rfl
 |d+1,hd=>by
  show cG m (eX m h (n+d))=_;rw[rf m h x n e d (by lia)]
  unfold cG advance;rw[if_pos (by show runEnd m x.1-x.1-d>0;lia)]
  rfl
theorem pO (m:Nat)(h:Int)(x:Nat×Nat)(n:Nat)(e:eX m h n=Fz m x):eX m h (n+(runEnd m x.1-x.1)+1)=Fz m (leap m x.1 x.2):=by
 show cG m (eX m h (n+(runEnd m x.1-x.1)))=_;rw[rf m h x n e _ (Q4 _)];unfold cG advance;rw[if_neg (by show ¬ runEnd m x.1-x.1-(runEnd m x.1-x.1)>0;lia)]
 rfl
theorem yR (m:Nat)(h:Int):∀k,∃n,n<=10*k/\eX m h n=Fz m (lp m h k)
 |0=>⟨0,Q4 _,rfl⟩
 |k+1=>by
  obtain⟨n,h1,h2⟩:=yR m h k;refine⟨n+(runEnd m (lp m h k).1-(lp m h k).1)+1,?_,pO m h _ n h2⟩;have:=Dp m (lp m h k).1;lia
theorem xE (m:Nat)(h:Int):∀k,(lp m h k).2=bits h / 32 ^ k
 |0=>by rw[Nat.pow_zero,Nat.div_one];rfl
 |k+1=>by
  show (lp m h k).2 / 32=_;rw[xE m h k,Nat.div_div_eq_div_mul,UT]
theorem BC (h:Int):bits h<2 ^ 64:=by
 unfold bits;have h1:=Int.emod_lt_of_pos h (show (0:Int)<2 ^ 64 by decide)
 have h2:=Int.emod_nonneg h (show (2 ^ 64:Int)≠0 by decide)
 lia
theorem AQ (m:Nat)(h:Int){k:Nat}(hk:13<=k):(lp m h k).2=0:=by
 rw[xE];refine Nat.div_eq_of_lt (RF (BC h) ?_);have:32 ^ 13<=32 ^ k:=Ug (by decide) hk
 exact R6 (by decide) this
theorem B4 {j:Nat}(h:Int):∀d,(lp (2 ^ j-1) h (13+d)).1=it d (lp (2 ^ j-1) h 13).1 % 2 ^ j:=by
 have hP:2 ^ j-1+1=2 ^ j:=by have:0<2 ^ j:=Vb (by decide);lia
 have lt:∀k,(lp (2 ^ j-1) h k).1<2 ^ j:=λk=>by
  cases k with
  |zero=>show bits h % (2 ^ j-1+1)<_;rw[hP];exact Ur _ (by lia)
  |succ k=>show (_*5+1+_ / 32) % (2 ^ j-1+1)<_;rw[hP];exact Ur _ (by lia)
 intro d
 induction d with
 |zero=>exact(VI (lt 13)).symm
 |succ d ih =>
  show ((lp (2 ^ j-1) h (13+d)).1*5+1+(lp (2 ^ j-1) h (13+d)).2 / 32) % (2 ^ j-1+1)=(5*it d _+1) % 2 ^ j;rw[hP,AQ _ h (by lia),ih,Nat.zero_div,Nat.add_zero,Nat.mul_comm]
  conv=>rhs;rw[Nat.add_mod,Nat.mul_mod]
  rw[Nat.add_mod,Nat.mul_mod,Nat.mod_mod]
theorem Qb (j:Nat)(h:Int){t:Nat}(ht:t<2 ^ j):∃n,n<10*turns (2 ^ j-1)/\bU (2 ^ j-1) h n=t:=by
 obtain⟨k,hk,e⟩:=lift j (lp (2 ^ j-1) h 13).1 t;obtain⟨n,h1,h2⟩:=yR (2 ^ j-1) h (13+k);refine⟨n,by unfold turns;lia,?_⟩
 unfold bU;rw[h2];show (lp (2 ^ j-1) h (13+k)).1=t;rw[B4,e,VI ht]
abbrev g (xs:Array Nat)(i:Nat):Nat:=xs.getD i 0
theorem rp {xs:Array Nat}{i:Nat}(h:i<xs.size):xs[i]?=some (g xs i):=by
 rw[getElem?_pos xs i h,g,Ro,getElem?_pos xs i h];rfl
def CJ (xs:Array Nat):Prop:=∀i j,i<j->j<xs.size->g xs i<g xs j
theorem CJ.inj {xs:Array Nat}(r:CJ xs){i j:Nat}(hi:i<xs.size)(hj:j<xs.size)(e:g xs i=g xs j):i=j:=by
 rcases VB i j with h|h|h
 ·have:=r i j h hj;lia
 ·exact h
 ·have:=r j i h hi;lia
theorem kn {xs:Array Nat}{j:Nat}(r:CJ xs):∀(f lo hi:Nat),hi<=xs.size->lo<=hi->hi-lo<=f->(∀k,k<lo->g xs k<j)->(∀k,hi<=k->k<xs.size->j<=g xs k) ->
  below.go xs j f lo hi<=xs.size/\(∀k,k<below.go xs j f lo hi->g xs k<j)/\(∀k,below.go xs j f lo hi<=k->k<xs.size->j<=g xs k)
 |0,lo,hi,h1,h2,h3,h4,h5=>by
  obtain rfl:lo=hi:=by omega
  exact⟨h1,h4,h5⟩
 |f+1,lo,hi,h1,h2,h3,h4,h5=>by
  unfold below.go
  by_cases hl:lo<hi
  ·rw[if_pos hl];dsimp only;have hm:(lo+hi) / 2<xs.size:=by omega
   have e:xs.getD ((lo+hi) / 2) j=g xs ((lo+hi) / 2):=by
    rw[g,Ro,Ro,getElem?_pos xs _ hm];rfl
   rw[e]
   by_cases hc:g xs ((lo+hi) / 2)<j
   ·rw[if_pos hc];refine kn r f _ _ h1 (by omega) (by omega) (λk hk=>?_) h5
    by_cases LK:k=(lo+hi) / 2
    ·rw[LK];exact hc
    ·have:=r k ((lo+hi) / 2) (by omega) hm;omega
   ·rw[if_neg hc];refine kn r f _ _ (by omega) (by omega) (by omega) h4 (λk hk Fv=>?_)
    by_cases LK:k=(lo+hi) / 2
    ·rw[LK];omega
    ·have:=r ((lo+hi) / 2) k (by omega) Fv;omega
  ·rw[if_neg hl];obtain rfl:lo=hi:=by omega
   exact⟨h1,h4,h5⟩
theorem eG {xs:Array Nat}(r:CJ xs)(j:Nat):below xs j<=xs.size/\(∀k,k<below xs j->g xs k<j)/\(∀k,below xs j<=k->k<xs.size->j<=g xs k) :=
 kn r xs.size 0 xs.size (Q4 _) (Rr _) (Q4 _) (λk hk=>by lia) (λk h1 h2=>by lia)
theorem below_at {xs:Array Nat}(r:CJ xs){i:Nat}(hi:i<xs.size):below xs (g xs i)=i:=by
 obtain⟨h1,h2,h3⟩:=eG r (g xs i);rcases VB (below xs (g xs i)) i with h|h|h
 ·have:=h3 (below xs (g xs i)) (Q4 _) (by omega)
  have:=r _ _ h hi;omega
 ·exact h
 ·have:=h2 i h;omega
def nk (t:SetTable)(x:Nat):Prop:=∃i,i<t.place.size/\g t.place i=x
theorem lA {t:SetTable}(r:CJ t.place){i:Nat}(hi:i<t.place.size):t.slot (g t.place i)=.live i:=by
 unfold slot;dsimp only;rw[below_at r hi,if_pos (by rw[rp hi];exact beq_self_eq_true _)]
theorem tZ {t:SetTable}(r:CJ t.place)(d:t.dummies=#[]){x:Nat}(h:¬ nk t x):t.slot x=.empty:=by
 unfold slot;dsimp only;rw[if_neg ?_,if_neg ?_]
 ·rw[d];unfold has;simp
 ·intro q;have q:=eq_of_beq q;have hl:below t.place x<t.place.size:=by
   rcases Sm (below t.place x) t.place.size with z|z
   ·exact z
   ·rw[SV z]at q;cases q
  rw[rp hl]at q;exact h ⟨_,hl,RC q⟩
structure WF (t:SetTable)(hs:List Int):Prop where
 Fy:t.dummies=#[]
 sz:t.place.size=hs.length
 ua:CJ t.place
 NR:∀i,i<t.place.size->g t.place i<=t.mask
 B0:∃j,3<=j/\t.mask=2 ^ j-1
 room:t.place.size<=t.mask
 MO:∀i h,hs[i]?=some h->∃n,bU t.mask h n=g t.place i/\∀k,k<n->nk t (bU t.mask h k)
theorem least {p:Nat->Prop}[DecidablePred p]:∀n,p n->∃m,m<=n/\p m/\∀k,k<m->¬ p k:=by
 intro n
 induction n using Nat.strongRecOn with
 |_ n ih =>
  intro hn
  by_cases h:∃k,k<n/\p k
  ·obtain⟨k,hk,hp⟩:=h;obtain⟨m,h1,h2,h3⟩:=ih k hk hp;exact⟨m,by lia,h2,h3⟩
  ·exact⟨n,Q4 _,hn,λk hk hp=>h ⟨k,hk,hp⟩⟩
instance (t:SetTable):DecidablePred (nk t):=λx=>decidable_of_iff (∃i,i<t.place.size/\g t.place i=x) Iff.rfl
theorem WF.hole {t:SetTable}{hs:List Int}(w:WF t hs):∃x,x<=t.mask/\¬ nk t x:=by
 refine TC λLz=>?_;have all:∀x,x<=t.mask->nk t x:=λx hx=>TC λq=>Lz ⟨x,hx,q⟩;have up:∀x,x<=t.mask->∃i,i<t.place.size/\g t.place i=x/\x<=i:=by
  intro x
  induction x with
  |zero =>
   intro hx;obtain⟨i,h1,h2⟩:=all 0 hx;exact⟨i,h1,h2,Rr _⟩
  |succ x ih =>
   intro hx;obtain⟨i,h1,h2,h3⟩:=ih (by lia)
   obtain⟨i',h4,h5⟩:=all (x+1) hx;refine⟨i',h4,h5,?_⟩;rcases Sm i i' with q|q
   ·lia
   ·rcases Sm i' i with q2|q2
    ·have:=w.ua i' i q2 h1;lia
    ·obtain rfl:i=i':=by lia
     lia
 obtain⟨i,h1,h2,h3⟩:=up t.mask (Q4 _);have:=w.room;lia
theorem WF.first {t:SetTable}{hs:List Int}(w:WF t hs)(h:Int):∃n,n<10*turns t.mask/\¬ nk t (bU t.mask h n)/\∀k,k<n->nk t (bU t.mask h k):=by
 obtain⟨x,hx,hf⟩:=w.hole;obtain⟨j,_,hj⟩:=w.B0;have Ft:x<2 ^ j:=by have:0<2 ^ j:=Vb (by decide);lia
 obtain⟨n,h1,h2⟩:=Qb j h Ft;rw[<- hj]at h1 h2;obtain⟨m,g1,g2,g3⟩:=least (p:=λn=>¬ nk t (bU t.mask h n)) n (by rw[h2];exact hf)
 exact⟨m,by lia,g2,λk hk=>TC λq=>g3 k hk q⟩
theorem gV (m:Nat)(h:Int):∀n,(eX m h n).dummy=none
 |0=>rfl
 |n+1=>by
  show (cG m (eX m h n)).dummy=none;unfold cG advance
  split
  ·exact gV m h n
  ·exact gV m h n
theorem n6 {t:SetTable}{hs:List Int}(w:WF t hs)(ha:Nat->Int)(h:Int){N:Nat}(hN:¬ nk t (bU t.mask h N))(hO:∀k,k<N->nk t (bU t.mask h k)):∀(d n f:Nat),n+d=N->d<f ->
  (probe.go t ha h f (eX t.mask h n)=some (.empty (bU t.mask h N) none)/\∀k,n<=k->k<N->∀i,i<t.place.size->g t.place i=bU t.mask h k->ha i≠h) \/
  ∃m i,n<=m/\m<N/\i<t.place.size/\g t.place i=bU t.mask h m/\ha i=h/\probe.go t ha h f (eX t.mask h n)=some (.candidate (bU t.mask h m) i (eX t.mask h (m+1)))/\∀k,n<=k->k<m->∀i,i<t.place.size->g t.place i=bU t.mask h k->ha i≠h
 |0,n,f,e,hf=>by
  obtain rfl:n=N:=by lia
  obtain⟨f,rfl⟩:∃f',f=f'+1:=⟨f-1,by lia⟩
  refine .inl ⟨?_,λk h1 h2=>by lia⟩
  unfold probe.go;rw[show t.slot (eX t.mask h n).j=.empty from tZ w.ua w.Fy hN]
  dsimp only;rw[gV];rfl
 |d+1,n,f,e,hf=>by
  obtain⟨f,rfl⟩:∃f',f=f'+1:=⟨f-1,by lia⟩
  obtain⟨i,hi,hg⟩:=hO n (by lia)
  have Cc:t.slot (eX t.mask h n).j=.live i:=by
   show t.slot (bU t.mask h n)=.live i;rw[<- hg];exact lA w.ua hi
  by_cases hh:ha i=h
  ·refine .inr ⟨n,i,Q4 _,by lia,hi,hg,hh,?_,λk h1 h2=>by lia⟩
   unfold probe.go;rw[Cc];dsimp only;rw[if_pos (by rw[hh];exact beq_self_eq_true _)]
   rfl
  ·have st:probe.go t ha h (f+1) (eX t.mask h n)=probe.go t ha h f (eX t.mask h (n+1)):=by
    conv=>lhs;unfold probe.go
    rw[Cc];dsimp only;rw[if_neg (by simpa using hh)]
    rfl
   rw[st];have here:∀i',i'<t.place.size->g t.place i'=bU t.mask h n->ha i'≠h:=λi' h1 h2=>by
    rw[w.ua.inj h1 hi (h2.trans hg.symm)];exact hh
   rcases n6 w ha h hN hO d (n+1) f (by lia) (by lia)with⟨q1,q2⟩|⟨m,i',q1,q2,q3,q4,q5,q6,q7⟩
   ·refine .inl ⟨q1,λk h1 h2=>?_⟩
    by_cases hk:k=n
    ·subst hk;exact here
    ·exact q2 k (by lia) h2
   ·refine .inr ⟨m,i',by lia,q2,q3,q4,q5,q6,λk h1 h2=>?_⟩
    by_cases hk:k=n
    ·subst hk;exact here
    ·exact q7 k (by lia) h2
theorem jV {α:Type}(xs:Array α)(p:Nat)(x:α):(insertAt xs p x).toList=xs.toList.take p++x::xs.toList.drop p:=by
 unfold insertAt;rw[Sv,SN,Vf,Vf,Ux,Ux,R8];simp[SS]
theorem xU {α:Type}{xs:Array α}{p:Nat}{x:α}(h:p<=xs.size):(insertAt xs p x).size=xs.size+1:=by
 rw[<- Q9,jV,RT,Rq,RL,UO,Q9];lia
theorem eD {xs:Array Nat}{p x:Nat}(h:p<=xs.size)(k:Nat):g (insertAt xs p x) k=if k<p then g xs k else if k=p then x else g xs (k-1):=by
 have e:∀(ys:Array Nat) (k:Nat),g ys k=(ys.toList[k]?).getD 0:=λys k=>by rw[g,Ro,Rm]
 rw[e,e,e,jV]
 by_cases h1:k<p
 ·rw[if_pos h1,Su (by rw[RL,Q9];lia),TJ h1]
 ·rw[if_neg h1,R9 (by rw[RL];lia),RL,Q9,show min p xs.size=p by lia]
  by_cases h2:k=p
  ·rw[if_pos h2,h2,US];rfl
  ·rw[if_neg h2,show k-p=k-p-1+1 by lia,TV,Ut,show p+(k-p-1)=k-1 by lia]
theorem WF.put {t:SetTable}{hs:List Int}(w:WF t hs){h:Int}{N:Nat}(hb:bU t.mask h N<=t.mask)(hN:¬ nk t (bU t.mask h N))(hO:∀k,k<N->nk t (bU t.mask h k))(hr:t.place.size+1<=t.mask):
  WF (t.put (bU t.mask h N)).1 (hs.take (t.put (bU t.mask h N)).2++h::hs.drop (t.put (bU t.mask h N)).2)/\(t.put (bU t.mask h N)).2<=t.place.size:=by
 obtain⟨b1,b2,b3⟩:=eG w.ua (bU t.mask h N);have hp:(t.put (bU t.mask h N)).2=below t.place (bU t.mask h N):=rfl;rw[hp];generalize hx:bU t.mask h N=x at *
 generalize hq:below t.place x=p at *
 have e:(t.put x).1={t with place:=insertAt t.place p x}:=by
  unfold SetTable.put;dsimp only;rw[w.Fy,hq];unfold has;simp
 have ne:∀k,p<=k->k<t.place.size->x<g t.place k:=λk h1 h2=>by
  have:=b3 k h1 h2;rcases Sm x (g t.place k)with q|q
  ·exact q
  ·exact absurd ⟨k,h2,by lia⟩ hN
 have JX:(insertAt t.place p x).size=t.place.size+1:=xU b1;have MY:∀y,nk t y->nk {t with place:=insertAt t.place p x} y:=by
  rintro y ⟨i,h1,h2⟩
  by_cases hi:i<p
  ·exact⟨i,by show i<(insertAt t.place p x).size;lia,by show g (insertAt t.place p x) i=y;rw[eD b1,if_pos hi];exact h2⟩
  ·exact⟨i+1,by show i+1<(insertAt t.place p x).size;lia,by show g (insertAt t.place p x) (i+1)=y;rw[eD b1,if_neg (by lia),if_neg (by lia)];exact h2⟩
 rw[e];refine⟨⟨w.Fy,?_,?_,?_,w.B0,?_,?_⟩,b1⟩
 ·show (insertAt t.place p x).size=_;rw[JX,RT,Rq,RL,UO,<- w.sz];lia
 ·intro i j aG hj;have hj:j<t.place.size+1:=by rw[<- JX];exact hj
  show g (insertAt t.place p x) i<g (insertAt t.place p x) j;rw[eD b1,eD b1]
  by_cases h1:i<p
  ·rw[if_pos h1]
   by_cases h2:j<p
   ·rw[if_pos h2];exact w.ua i j aG (by lia)
   ·rw[if_neg h2]
    by_cases h3:j=p
    ·rw[if_pos h3];exact b2 i h1
    ·rw[if_neg h3];exact w.ua i (j-1) (by lia) (by lia)
  ·rw[if_neg h1,if_neg (show ¬ j<p by lia)]
   by_cases h3:i=p
   ·rw[if_pos h3,if_neg (show ¬ j=p by lia)];exact ne _ (by lia) (by lia)
   ·rw[if_neg h3,if_neg (show ¬ j=p by lia)];exact w.ua (i-1) (j-1) (by lia) (by lia)
 ·intro i hi;have hi:i<t.place.size+1:=by rw[<- JX];exact hi
  show g (insertAt t.place p x) i<=t.mask;rw[eD b1]
  split
  ·exact w.NR i (by lia)
  ·split
   ·exact hb
   ·exact w.NR _ (by lia)
 ·show (insertAt t.place p x).size<=t.mask;lia
 ·intro i h' cU;show ∃n,bU t.mask h' n=g (insertAt t.place p x) i/\_;have old:∀i h',hs[i]?=some h'->∃n,bU t.mask h' n=g t.place i/\∀k,k<n->nk {t with place:=insertAt t.place p x} (bU t.mask h' k):=λi h' q=>by
   obtain⟨n,h1,h2⟩:=w.MO i h' q;exact⟨n,h1,λk hk=>MY _ (h2 k hk)⟩
  have hpl:p<=hs.length:=by rw[<- w.sz];exact b1
  by_cases h1:i<p
  ·rw[Su (by rw[RL];lia),TJ h1]at cU
   rw[eD b1,if_pos h1];exact old i h' cU
  ·rw[R9 (by rw[RL];lia),RL,show min p hs.length=p by lia]at cU
   rw[eD b1,if_neg h1]
   by_cases h2:i=p
   ·rw[h2,US]at cU;rw[if_pos h2];obtain rfl:h=h':=RC cU;exact⟨N,hx,λk hk=>MY _ (hO k hk)⟩
   ·rw[show i-p=i-p-1+1 by lia,TV,Ut,show p+(i-p-1)=i-1 by lia]at cU
    rw[if_neg h2];exact old (i-1) h' cU
theorem fy {m i:Nat}(h:i<=m):i<=runEnd m i/\runEnd m i<=m:=by
 unfold runEnd
 split <;> lia
theorem wH (m:Nat)(h:Int):∀n,(eX m h n).j+(eX m h n).more<=m
 |0=>by
  show bits h % (m+1)+(runEnd m (bits h % (m+1))-bits h % (m+1))<=m;have hl:bits h % (m+1)<=m:=Nat.le_of_lt_succ (Ur _ (Nat.succ_pos _));have:=fy hl;lia
 |n+1=>by
  have ih:=wH m h n;show (cG m (eX m h n)).j+(cG m (eX m h n)).more<=m;unfold cG advance
  split
  ·show (eX m h n).j+1+((eX m h n).more-1)<=m;lia
  ·show (leap m (eX m h n).i (eX m h n).perturb).1+(runEnd m (leap m (eX m h n).i (eX m h n).perturb).1-(leap m (eX m h n).i (eX m h n).perturb).1)<=m;have hl:(leap m (eX m h n).i (eX m h n).perturb).1<=m:=Nat.le_of_lt_succ (Ur _ (Nat.succ_pos _));have:=fy hl;lia
theorem iS (m:Nat)(h:Int)(n:Nat):bU m h n<=m:=by
 have:=wH m h n;unfold bU;lia
abbrev Ow:=Array (Option Nat)
def eM (o:Ow)(j:Nat):Bool:=(o.getD j (some 0)).isNone
theorem lT {m:Nat}{o:Ow}(h:Int):∀(f b n:Nat) (j:Nat),eX m h n=Fz m (lp m h b)->layClean.free m o f (lp m h b).1 (lp m h b).2=some j->∃N,n<=N/\bU m h N=j/\eM o j=true/\∀k,n<=k->k<N->eM o (bU m h k)=false
 |0,b,n,j,_,e=>by cases e
 |f+1,b,n,j,hb,e=>by
  unfold layClean.free at e;have KQ:∀d,d<=runEnd m (lp m h b).1-(lp m h b).1->bU m h (n+d)=(lp m h b).1+d:=λd hd=>by
   unfold bU;rw[rf m h _ n hb d hd]
  have hl:(lp m h b).1<=m:=by
   have:=iS m h n;unfold bU at this;rw[hb]at this;exact this
  have hr:=fy hl;cases hf:(Rz (runEnd m (lp m h b).1+1-(lp m h b).1)).find? (λk=>(o.getD ((lp m h b).1+k) (some 0)).isNone)with
  |some k =>
   rw[hf]at e;dsimp only at e;obtain⟨h1,h2,h3⟩:=List.find?_range_eq_some.mp hf;have h2:=So.mp h2;refine⟨n+k,by lia,?_,?_,λx g1 g2=>?_⟩
   ·rw[KQ k (by lia)]
    exact RC e
   ·rw[<- RC e];exact h1
   ·have:=h3 (x-n) (by lia)
    rw[show x=n+(x-n) by lia,KQ (x-n) (by lia)]
    unfold eM;simpa using this
  |none =>
   rw[hf]at e;dsimp only at e;have h3:=List.find?_range_eq_none.mp hf;obtain⟨N,q1,q2,q3,q4⟩:=lT h f (b+1) (n+(runEnd m (lp m h b).1-(lp m h b).1)+1) j (pO m h _ n hb) e;refine⟨N,by lia,q2,q3,λx g1 g2=>?_⟩
   by_cases hx:n+(runEnd m (lp m h b).1-(lp m h b).1)+1<=x
   ·exact q4 x hx g2
   ·have:=h3 (x-n) (by lia)
    rw[show x=n+(x-n) by lia,KQ (x-n) (by lia)]
    unfold eM;simpa using this
theorem lU {m:Nat}{o:Ow}(h:Int):∀(f b:Nat),layClean.free m o f (lp m h b).1 (lp m h b).2=none->∀d,d<f->(lp m h (b+d)).1<=m->eM o (lp m h (b+d)).1=false
 |0,b,_,d,hd,_=>by lia
 |f+1,b,e,d,hd,hl=>by
  unfold layClean.free at e;cases hf:(Rz (runEnd m (lp m h b).1+1-(lp m h b).1)).find? (λk=>(o.getD ((lp m h b).1+k) (some 0)).isNone)with
  |some k =>
   rw[hf]at e;cases e
  |none =>
   rw[hf]at e;dsimp only at e;cases d with
   |zero =>
    have:=List.find?_range_eq_none.mp hf 0 (by have:=fy hl;rw[Nat.add_zero]at this;lia)
    unfold eM;simpa using this
   |succ d =>
    have:=lU h f (b+1) e d (by lia) (by rw[show b+1+d=b+(d+1) by lia];exact hl)
    rw[show b+1+d=b+(d+1) by lia]at this
    exact this
theorem Ec (j:Nat)(h:Int){t:Nat}(ht:t<2 ^ j):∃k,k<turns (2 ^ j-1)/\(lp (2 ^ j-1) h k).1=t:=by
 obtain⟨k,hk,e⟩:=lift j (lp (2 ^ j-1) h 13).1 t;refine⟨13+k,by unfold turns;lia,?_⟩
 rw[B4,e,VI ht]
def ow (o:Ow)(j:Nat):Option Nat:=o.getD j none
theorem dc {α:Type}{f f':Nat->Option α}:∀(l:List Nat),(∀k∈l,f' k=f k)->l.filterMap f'=l.filterMap f
 |[],_=>rfl
 |x::l,h=>by
  rw[RU,RU,h x Ru,dc l λk hk=>h k (Rt _ hk)]
theorem o8 {α:Type}{f f':Nat->Option α}(l:List Nat)(h:∀k∈l,f' k=f k):l.filterMap f'=l.filterMap f:=dc l h
theorem o4 {α:Type}(f f':Nat->Option α)(j:Nat)(v:α)(h1:f j=none)(h2:f' j=some v)(h3:∀k,k≠j->f' k=f k):∀N,j<N->((Rz N).filterMap f').Perm (v::(Rz N).filterMap f)
 |0,h=>by lia
 |N+1,h=>by
  rw[UZ,U6,U6]
  by_cases e:j=N
  ·subst e;have e1:(Rz j).filterMap f'=(Rz j).filterMap f:=by
    exact dc _ λk hk=>h3 k (RQ (So.mp hk))
   rw[e1,RU,h2,RU,h1,List.filterMap_nil,List.filterMap_nil];show ((Rz j).filterMap f++[v]).Perm (v::((Rz j).filterMap f++[]));rw[Sr];exact List.perm_append_comm
  ·have ih:=o4 f f' j v h1 h2 h3 N (by lia)
   have e2:[N].filterMap f'=[N].filterMap f:=dc _ λk hk=>by
    rw[Rk.mp hk];exact h3 N (λz=>e z.symm)
   rw[e2];exact ih.append_right _
theorem o9 {α:Type}(f:Nat->Option α):∀N,(∀k,k<N->(f k).isSome=true)->((Rz N).filterMap f).length=N
 |0,_=>rfl
 |N+1,h=>by
  rw[UZ,U6,RT,o9 f N λk hk=>h k (by lia)]
  have:=h N (by lia)
  cases e:f N with
  |none=>rw[e]at this;cases this
  |some x=>rw[RU,e];rfl
structure Ld (m:Nat)(hs:Array Int)(o:Ow)(k:Nat):Prop where
 sz:o.size=m+1
 Kr:((Rz (m+1)).filterMap (ow o)).Perm (Rz k)
 way:∀j a,ow o j=some a->a<k/\∃n,bU m (hs.getD a 0) n=j/\∀x,x<n->eM o (bU m (hs.getD a 0) x)=false
theorem jF {o:Ow}{j:Nat}(h:j<o.size):eM o j=true↔ow o j=none:=by
 unfold eM ow;rw[Ro,Ro,getElem?_pos o j h];show (o[j]).isNone=true↔o[j]=none;exact V3
theorem Ld.next {j0:Nat}{hs:Array Int}{o:Ow}{k:Nat}(L:Ld (2 ^ j0-1) hs o k)(hk:k<=2 ^ j0-1)(h:Int)(hh:hs.getD k 0=h):
  ∃j,layClean.free (2 ^ j0-1) o (turns (2 ^ j0-1)) (bits h % (2 ^ j0-1+1)) (bits h)=some j/\Ld (2 ^ j0-1) hs (o.setIfInBounds j (some k)) (k+1):=by
 have hP:0<2 ^ j0:=Vb (by decide)
 generalize hm:2 ^ j0-1=m at *
 obtain⟨x,hx,Pa⟩:∃x,x<=m/\ow o x=none:=by
  refine TC λLz=>?_;have:=o9 (ow o) (m+1) λx hx=>by
   cases e:ow o x with
   |none=>exact absurd ⟨x,by lia,e⟩ Lz
   |some _=>rfl
  rw[L.Kr.length_eq,Sg]at this;lia
 cases hf:layClean.free m o (turns m) (bits h % (m+1)) (bits h)with
 |none =>
  exfalso
  obtain⟨c,hc,he⟩:=Ec j0 h (t:=x) (by lia)
  rw[hm]at hc he;have:=lU (m:=m) (o:=o) h (turns m) 0 hf c hc (by rw[S_,he];exact hx)
  rw[S_,he]at this;have q:=(jF (o:=o) (j:=x) (by rw[L.sz];lia)).mpr Pa
  rw[q]at this;cases this
 |some j =>
  refine⟨j,rfl,?_⟩;obtain⟨N,_,q2,q3,q4⟩:=lT (m:=m) (o:=o) h (turns m) 0 0 j rfl hf;have hj:j<=m:=by rw[<- q2];exact iS m h N
  have LM:j<o.size:=by rw[L.sz];lia
  have HX:ow o j=none:=(jF LM).mp q3;have same:∀i,i≠j->ow (o.setIfInBounds j (some k)) i=ow o i:=λi hi=>by
   unfold ow;rw[Ro,Ro,VE (λz=>hi z.symm)]
  have here:ow (o.setIfInBounds j (some k)) j=some k:=by
   unfold ow;rw[Ro,U8 LM];rfl
  have shut:∀i,eM o i=false->eM (o.setIfInBounds j (some k)) i=false:=λi hi=>by
   unfold eM at *
   rw[Ro]at *
   by_cases e:i=j
   ·subst e;rw[U8 LM];rfl
   ·rw[VE (λz=>e z.symm)];exact hi
  refine⟨by rw[UH];exact L.sz,?_,λi a Jo=>?_⟩
  ·refine(o4 (ow o) _ j k HX here same (m+1) (by lia)).trans ?_
   refine(L.Kr.cons k).trans ?_;rw[UZ];exact(List.perm_append_singleton k _).symm
  ·by_cases e:i=j
   ·subst e;rw[here]at Jo;obtain rfl:=RC Jo;refine⟨Nat.lt_succ_self _,N,by rw[hh];exact q2,λx hx=>shut _ ?_⟩
    rw[hh];exact q4 x (Rr _) hx
   ·rw[same i e]at Jo;obtain⟨g1,n,g2,g3⟩:=L.way i a Jo;exact⟨by lia,n,g2,λx hx=>shut _ (g3 x hx)⟩
theorem km {j0:Nat}{hs:Array Int}(hk:hs.size<=2 ^ j0-1):∀(l:List Int) (k:Nat) (o:Ow),hs.toList.drop k=l->k+l.length=hs.size->Ld (2 ^ j0-1) hs o k ->
  ∃o',(l.foldl (λ(acc:Option (Ow×Nat)) h=>do
   let (owner,k) <- acc
   let j <- layClean.free (2 ^ j0-1) owner (turns (2 ^ j0-1)) (bits h % (2 ^ j0-1+1)) (bits h)
   pure (owner.setIfInBounds j (some k),k+1)) (some (o,k)))=some (o',hs.size)/\Ld (2 ^ j0-1) hs o' hs.size
 |[],k,o,e,z,L=>by
  obtain rfl:k=hs.size:=z;exact⟨o,rfl,L⟩
 |h::l,k,o,e,z,L=>by
  rw[Rq]at z;have fI:k<hs.toList.length:=by rw[Q9];lia
  rw[R_ fI]at e;injection e with e1 e2
  have hh:hs.getD k 0=h:=by
   rw[Ro,<- Rm,Rf fI,e1];rfl
  obtain⟨j,q1,q2⟩:=L.next (by lia) h hh
  rw[U1];show ∃o',(l.foldl _ (do
   let j <- layClean.free (2 ^ j0-1) o (turns (2 ^ j0-1)) (bits h % (2 ^ j0-1+1)) (bits h)
   pure (o.setIfInBounds j (some k),k+1)))=_/\_
  rw[q1];exact km hk l (k+1) _ e2 (by lia) q2
theorem Ld.start (m:Nat)(hs:Array Int):Ld m hs (Array.replicate (m+1) none) 0:=by
 have e:∀j,ow (Array.replicate (m+1) none) j=none:=λj=>by
  unfold ow;rw[Ro,Array.getElem?_replicate]
  split <;> rfl
 refine⟨Array.size_replicate,?_,λj a h=>by rw[e]at h;cases h⟩
 rw[dc (f:=λ_=>(none:Option Nat)) _ λk _=>e k];have:∀l:List Nat,l.filterMap (λ_=>(none:Option Nat))=[]:=λl=>by
  induction l with
  |nil=>rfl
  |cons x l ih=>rw[RU];exact ih
 rw[this];exact .refl _
theorem AU {j0:Nat}{hs:Array Int}(h3:3<=j0)(hk:hs.size<=2 ^ j0-1)(finger moves:Nat)(led plain:Bool):
  ∃t order,laid (2 ^ j0-1) finger moves led plain hs=some (t,order)/\t.mask=2 ^ j0-1/\t.led=led/\t.plain=plain/\t.moves=moves/\order.toList.Perm (Rz hs.size)/\WF t (order.toList.map λa=>hs.getD a 0)/\t.place.size=hs.size:=by
 obtain⟨o,e1,L⟩:=km hk hs.toList 0 _ rfl (by rw[S_,Q9]) (Ld.start _ hs)
 have e2:layClean (2 ^ j0-1) hs=some o:=by
  unfold layClean;rw[<- Array.foldl_toList];exact congrArg (Option.map (·.1)) e1
 generalize hm:2 ^ j0-1=m at *
 have GV:∀(l:List Nat),((l.filterMap λj=>(o.getD j none).map (j,·)).map (·.2))=l.filterMap (ow o):=λl=>by
  rw[List.map_filterMap];refine o8 l λj _=>?_;rw[Option.map_map];show ((o.getD j none).map λa=>a)=_;rw[Option.map_id'];rfl
 generalize HY:((Rz (m+1)).filterMap λj=>(o.getD j none).map (j,·))=live at *
 have pw:live.Pairwise (λx y=>x.1<y.1):=by
  rw[<- HY,List.pairwise_filterMap];refine List.pairwise_lt_range.imp λ{a b} Iq x hx y hy=>?_;obtain⟨_,_,rfl⟩:=RE.mp hx;obtain⟨_,_,rfl⟩:=RE.mp hy;exact Iq
 have mem:∀x∈live,x.1<m+1/\ow o x.1=some x.2:=λx hx=>by
  rw[<- HY]at hx;obtain⟨j,hj,e⟩:=TR.mp hx;obtain⟨a,ha,rfl⟩:=RE.mp e;exact⟨So.mp hj,ha⟩
 have ord:(live.map (·.2)).Perm (Rz hs.size):=by
  rw[<- HY,GV];exact L.Kr
 have len:live.length=hs.size:=by
  have:=ord.length_eq;rw[Q3,Sg]at this;exact this
 have gp:∀i (hi:i<live.length),g (live.map (·.1)).toArray i=(live[i]).1:=λi hi=>by
  rw[g,Ro,U5,Rn,Rf hi];rfl
 refine⟨{mask:=m,place:=(live.map (·.1)).toArray,dummies:=#[],finger,led,moves,plain},(live.map (·.2)).toArray,?_,rfl,rfl,rfl,rfl,ord,?_,?_⟩
 ·unfold laid;rw[e2,<- HY];rfl
 ·have Ko:(live.map (·.1)).toArray.size=live.length:=by rw[Ry,Q3]
  refine⟨rfl,?_,?_,?_,⟨j0,h3,hm.symm⟩,?_,?_⟩
  ·show (live.map (·.1)).toArray.size=_;rw[Ko,Q3,Q3]
  ·intro i j aG hj;have hj:j<live.length:=by rw[<- Ko];exact hj
   show g (live.map (·.1)).toArray i<g (live.map (·.1)).toArray j;rw[gp i (by lia),gp j hj]
   exact Uw.mp pw i j (by lia) hj aG
  ·intro i hi;have hi:i<live.length:=by rw[<- Ko];exact hi
   show g (live.map (·.1)).toArray i<=m;rw[gp i hi];have:=(mem _ (Tz hi)).1;lia
  ·show (live.map (·.1)).toArray.size<=m;lia
  ·intro i h hi;show ∃n,bU m h n=g (live.map (·.1)).toArray i/\_;rw[Rn,Rn]at hi;have Ce:i<live.length:=by
    rcases Sm i live.length with q|q
    ·exact q
    ·rw[Sz q]at hi;cases hi
   rw[Rf Ce]at hi;have hi:hs.getD (live[i]).2 0=h:=RC hi;obtain⟨_,n,g2,g3⟩:=L.way _ _ (mem _ (Tz Ce)).2;rw[hi]at g2 g3;refine⟨n,by rw[gp i Ce];exact g2,λk hk=>?_⟩
   have hv:=iS m h k;have O8:bU m h k<o.size:=by rw[L.sz];lia
   have:=g3 k hk;cases eo:ow o (bU m h k)with
   |none =>
    rw[(jF O8).mpr eo]at this;cases this
   |some a =>
    have kT:(bU m h k,a)∈live:=by
     rw[<- HY];exact TR.mpr ⟨bU m h k,So.mpr (by lia),by show (ow o (bU m h k)).map _=_;rw[eo];rfl⟩
    obtain⟨i',cU,e'⟩:=List.getElem_of_mem kT;exact⟨i',by show i'<(live.map (·.1)).toArray.size;lia,by show g (live.map (·.1)).toArray i'=_;rw[gp i' cU,e']⟩
 ·show (live.map (·.1)).toArray.size=hs.size;rw[Ry,Q3];exact len
end ST
namespace TS
open PySem PyProof.Rows
def bL:Bool->Q5->Array Q5->Nat->Nat->Nat->StateT RD Sem (Option Nat):=sortPriv% PySem.Builtin.gallop
def gA:Array Q5->Array Q5->StateT RD Sem (Array Q5):=sortPriv% PySem.Builtin.mergeLo
def gB:Array Q5->Array Q5->StateT RD Sem (Array Q5):=sortPriv% PySem.Builtin.mergeHi
abbrev bM (st:RD)(g:Nat):RD:=SortSt.mk' (kindOf st) (RK st) (Rv st) g (TZ st)
theorem rm (left:Bool)(key:Q5)(arr:Array Q5)(base n hint:Nat):bL left key arr base n hint=(do
  let ask:=λ(at_:Nat)=>(do
   let z <- elem' arr (base+at_)
   if left then lt' z key else return (<- lt' key z).map (!·):StateT RD Sem (Option Bool))
  let mut before:=0
  let mut step:=1
  let mut u:=0
  let mut v:=0
  let some up <- ask hint|return none
  if up then
   let room:=n-hint
   for _ in [0:n] do
    if step >= room then break
    let some on <- ask (hint+step)|return none
    if !on then break
    before:=step
    step:=2*step+1
   u:=hint+before+1
   v:=hint+min step room
  else
   let room:=hint+1
   for _ in [0:n] do
    if step >= room then break
    let some hit <- ask (hint-step)|return none
    if hit then break
    before:=step
    step:=2*step+1
   u:=hint+1-min step room
   v:=hint-before
  for _ in [0:n] do
   if u >= v then break
   let mid:=u+(v-u) / 2
   let some on <- ask mid|return none
   if on then u:=mid+1 else v:=mid
  return some v):=rfl
theorem oB (p q:Array Q5):gA p q=(do
  rule "list.sort.merge-lo"
  let all:=p.size+q.size
  let rest:=λ(to:Array Q5) (i j:Nat)=>to++p.extract i p.size++q.extract j q.size
  let tail:=λ(to:Array Q5) (i j:Nat)=>to++q.extract j q.size++p.extract i p.size
  let mut to:Array Q5:=#[<- elem' q 0]
  let mut i:=0
  let mut j:=1
  if j==q.size then return rest to i j
  if i+1==p.size then return tail to i j
  let mut mg:=gallopOf (<- get)
  for _ in [0:all] do
   let mut m:=0
   let mut n:=0
   for _ in [0:all] do
    let some C0 <- lt' (<- elem' q j) (<- elem' p i)|return rest to i j
    if C0 then
     to:=to.push (<- elem' q j);j:=j+1;n:=n+1;m:=0
     if j==q.size then return rest to i j
     if n >= mg then break
    else
     to:=to.push (<- elem' p i);i:=i+1;m:=m+1;n:=0
     if i+1==p.size then return tail to i j
     if m >= mg then break
   rule "list.sort.gallop"
   mg:=mg+1
   for _ in [0:all] do
    if mg>1 then mg:=mg-1
    modify λst=>bM st mg
    let some k <- bL false (<- elem' q j) p i (p.size-i) 0|return rest to i j
    m:=k
    if k>0 then
     to:=to++p.extract i (i+k);i:=i+k
     if i+1==p.size then return tail to i j
     if i==p.size then return rest to i j
    to:=to.push (<- elem' q j);j:=j+1
    if j==q.size then return rest to i j
    let some k <- bL true (<- elem' p i) q j (q.size-j) 0|return rest to i j
    n:=k
    if k>0 then
     to:=to++q.extract j (j+k);j:=j+k
     if j==q.size then return rest to i j
    to:=to.push (<- elem' p i);i:=i+1
    if i+1==p.size then return tail to i j
    if m<7&&n<7 then break
   mg:=mg+1
   modify λst=>bM st mg
  unsupported "internal:list.sort.merge-bound"):=rfl
theorem oE (p q:Array Q5):gB p q=(do
  rule "list.sort.merge-hi"
  let all:=p.size+q.size
  let rest:=λ(to:Array Q5) (i j:Nat)=>p.extract 0 i++q.extract 0 j++to.reverse
  let tail:=λ(to:Array Q5) (i j:Nat)=>q.extract 0 j++p.extract 0 i++to.reverse
  let mut i:=p.size-1
  let mut j:=q.size
  let mut to:Array Q5:=#[<- elem' p i]
  if i==0 then return rest to i j
  if j==1 then return tail to i j
  let mut mg:=gallopOf (<- get)
  for _ in [0:all] do
   let mut m:=0
   let mut n:=0
   for _ in [0:all] do
    let some C0 <- lt' (<- elem' q (j-1)) (<- elem' p (i-1))|return rest to i j
    if C0 then
     i:=i-1;to:=to.push (<- elem' p i);m:=m+1;n:=0
     if i==0 then return rest to i j
     if m >= mg then break
    else
     j:=j-1;to:=to.push (<- elem' q j);n:=n+1;m:=0
     if j==1 then return tail to i j
     if n >= mg then break
   rule "list.sort.gallop"
   mg:=mg+1
   for _ in [0:all] do
    if mg>1 then mg:=mg-1
    modify λst=>bM st mg
    let some h <- bL false (<- elem' q (j-1)) p 0 i (i-1)|return rest to i j
    let k:=i-h
    m:=k
    if k>0 then
     to:=to++(p.extract h i).reverse;i:=h
     if i==0 then return rest to i j
    j:=j-1;to:=to.push (<- elem' q j)
    if j==1 then return tail to i j
    let some h <- bL true (<- elem' p (i-1)) q 0 j (j-1)|return rest to i j
    let k:=j-h
    n:=k
    if k>0 then
     to:=to++(q.extract h j).reverse;j:=h
     if j==1 then return tail to i j
     if j==0 then return rest to i j
    i:=i-1;to:=to.push (<- elem' p i)
    if i==0 then return rest to i j
    if m<7&&n<7 then break
   mg:=mg+1
   modify λst=>bM st mg
  unsupported "internal:list.sort.merge-bound"):=rfl
theorem oG (i:Nat):mergeAt' i=(do
  let st <- get
  let (some (sa,na,pw),some (sb,nb,_)):=((Rv st)[i]?,(Rv st)[i+1]?)|unsupported "internal:list.sort.pending"
  set (Ub st (((Rv st).setIfInBounds i (sa,na+nb,pw)).eraseIdxIfInBounds (i+1)))
  let some k <- bL false (<- elem' (RK st) sb) (RK st) sa na 0|return false
  let (sa,na):=(sa+k,na-k)
  if na==0 then return true
  let some nb <- bL true (<- elem' (RK st) (sa+na-1)) (RK st) sb nb (nb-1)|return false
  if nb==0 then return true
  let x:=(RK st).extract sa sb
  let y:=(RK st).extract sb (sb+nb)
  let got <- if na<=nb then gA x y else gB x y
  modify λs2=>Sl s2 (got.toList.zipIdx.foldl (λa (p,j)=>a.setIfInBounds (sa+j) p) (RK s2))
  return (TZ (<- get)).isNone):=rfl
structure bK (c:Q5->Q5->Bool):Prop where
 IG:∀x y,c x y=true->c y x=false
 M0:∀x y z,c x z=true->c x y=true\/c y z=true
def le (c:Q5->Q5->Bool)(x y:Q5):Prop:=c y x=false
section
variable {c:Q5->Q5->Bool}
theorem bK.refl (O:bK c)(x:Q5):le c x x:=by
 cases h:c x x
 ·exact h
 ·exact O.IG _ _ h
theorem bK.trans (O:bK c){x y z:Q5}(h1:le c x y)(h2:le c y z):le c x z:=by
 cases h:c z x
 ·exact h
 ·rcases O.M0 _ y _ h with q|q
  ·exact absurd (q.symm.trans h2) (by simp)
  ·exact absurd (q.symm.trans h1) (by simp)
theorem bK.of_lt (O:bK c){x y:Q5}(h:c x y=true):le c x y:=O.IG _ _ h
def el (a:Array Q5)(i:Nat):Q5:=a.getD i (Value.none,Value.none)
theorem gJ {a:Array Q5}{i:Nat}(h:i<a.size):a[i]?=some (el a i):=by
 rw[getElem?_pos a i h,el,Ro,getElem?_pos a i h];rfl
theorem tm {a:Array Q5}{i:Nat}{x:Q5}(h:a[i]?=some x):el a i=x:=by
 rw[el,Ro,h];rfl
theorem de {a b:Array Q5}{i j:Nat}(h:a[i]?=b[j]?):el a i=el b j:=by
 rw[el,el,Ro,Ro,h]
def SR (c:Q5->Q5->Bool)(a:Array Q5)(lo hi:Nat):Prop:=∀i j,lo<=i->i<=j->j<hi->le c (el a i) (el a j)
def eI (prog:Q6)(w:Rl)(A:R7)(E:QZ->Q1->Prop)(s:Q1)(κ:TF)(c:Q5->Q5->Bool)(S:Q5->Prop):Prop :=
 ∀(x y:Q5) (st:RD) (Q:Option Bool->RD->Prop),S x->S y->kindOf st=κ->Q (some (c x y)) st->wpS (model prog w) A E s (lt' x y) Q st
end
section
variable {prog:Q6}{w:Rl}{A:R7}{E:QZ->Q1->Prop}{s:Q1}{κ:TF}{c:Q5->Q5->Bool}{S:Q5->Prop}
theorem aI {a:Array Q5}{i:Nat}{Q:Q5->RD->Prop}{st:RD}(h:i<a.size)(q:Q (el a i) st):wpS (model prog w) A E s (elem' a i) Q st:=by
 rw[elem'_eq,gJ h];exact Rh q
def df (c:Q5->Q5->Bool)(left:Bool)(key:Q5)(a:Array Q5)(base i:Nat):Bool:=if left=true then c (el a (base+i)) key else !c key (el a (base+i))
theorem BA (O:bK c){left:Bool}{key:Q5}{a:Array Q5}{base n i j:Nat}(hs:SR c a base (base+n))(aG:i<=j)(hj:j<n)(h:df c left key a base j=true):df c left key a base i=true:=by
 have hl:=hs (base+i) (base+j) (by lia) (by lia) (by lia)
 unfold df at *
 cases left with
 |true =>
  rw[if_pos rfl]at *
  rcases O.M0 _ (el a (base+i)) _ h with q|q
  ·exact absurd (q.symm.trans hl) (by simp)
  ·exact q
 |false =>
  rw[if_neg (by simp)]at *
  rw[T6]at *
  exact O.trans hl h
theorem gj (L:eI prog w A E s κ c S){left:Bool}{key:Q5}{a:Array Q5}{base n i:Nat}{Q:Option Bool->RD->Prop}{st:RD}(hk:kindOf st=κ)(hK:S key)(hA:∀i,i<n->S (el a (base+i)))(hn:base+n<=a.size)(hi:i<n)
  (h:Q (some (df c left key a base i)) st):wpS (model prog w) A E s (do
   let z <- elem' a (base+i)
   if left then lt' z key else return (<- lt' key z).map (!·):StateT RD Sem (Option Bool)) Q st:=by
 refine Rb (aI (by lia) ?_)
 unfold df at h;cases left with
 |true =>
  rw[if_pos rfl]at *
  exact L _ _ st Q (hA i hi) hK hk h
 |false =>
  rw[if_neg (by simp)]at *
  exact Rb (L _ _ st _ hK (hA i hi) hk (Rh h))
theorem cW (O:bK c)(L:eI prog w A E s κ c S){left:Bool}{key:Q5}{a:Array Q5}{base n hint:Nat}{Q:Option Nat->RD->Prop}{st:RD}(hk:kindOf st=κ)(hK:S key)(hA:∀i,i<n->S (el a (base+i)))(hn:base+n<=a.size)
  (hs:SR c a base (base+n)) (hh:hint<n) (h:∀k,k<=n->(∀i,i<k->df c left key a base i=true)->(∀i,k<=i->i<n->df c left key a base i=false)->Q (some k) st) :
  wpS (model prog w) A E s (bL left key a base n hint) Q st:=by
 rw[rm];dsimp only;have up:∀{i j},i<=j->j<n->df c left key a base j=true->df c left key a base i=true:=λh1 h2 h3=>BA O hs h1 h2 h3;refine Rb (gj L hk hK hA hn hh ?_);dsimp only;have dn:∀{i j},i<=j->j<n->df c left key a base i=false->df c left key a base j=false:=λ{i j} h1 h2 h3=>by
  cases q:df c left key a base j
  ·rfl
  ·rw[up h1 h2 q]at h3;exact absurd h3 (by simp)
 cases Jr:df c left key a base hint with
 |true =>
  rw[if_pos rfl];refine Rb (SJ (Sa (I:=λx r aA=>aA=st/\∃be cG,r=(none,be,cG)/\hint+be<n/\be<cG/\x+1<=cG/\df c left key a base (hint+be)=true)
   (Q:=λr aA=>aA=st/\∃be cG,r=(none,be,cG)/\hint+be<n/\be<cG/\df c left key a base (hint+be)=true/\(n-hint<=cG\/(hint+cG<n/\df c left key a base (hint+cG)=false))) ?_ ?_ ?_) ?_)
  ·rintro x r aA _ hx ⟨rfl,be,cG,rfl,h1,h2,h3,h4⟩;dsimp only
   by_cases hr:cG >= n-hint
   ·rw[if_pos hr];exact Rh ⟨rfl,be,cG,rfl,h1,h2,h4,.inl hr⟩
   ·rw[if_neg hr];refine Rb (gj L hk hK hA hn (by omega) ?_)
    dsimp only;cases hb:df c left key a base (hint+cG)with
    |true =>
     rw[if_neg (by simp)]
     exact Rh ⟨rfl,cG,_,rfl,by omega,by omega,by omega,hb⟩
    |false =>
     rw[if_pos (by simp)]
     exact Rh ⟨rfl,be,cG,rfl,h1,h2,h4,.inr ⟨by omega,hb⟩⟩
  ·rintro r aA ⟨rfl,be,cG,rfl,h1,h2,h3,h4⟩;exact⟨rfl,be,cG,rfl,h1,h2,h4,.inl (by omega)⟩
  ·exact⟨rfl,0,1,rfl,by omega,by omega,by omega,Jr⟩
  rintro r aA ⟨e0,be,cG,rfl,h1,h2,h4,h5⟩;rw[e0];dsimp only;have g1:∀i,i<hint+be+1->df c left key a base i=true:=λi hi=>up (j:=hint+be) (by omega) h1 h4
  have g2:∀i,hint+min cG (n-hint)<=i->i<n->df c left key a base i=false:=λi hi cU=>by
   rcases h5 with q|⟨q1,q2⟩
   ·omega
   ·exact dn (i:=hint+cG) (by omega) cU q2
  refine Rb (SJ (Sa (I:=λx r aA=>aA=st/\∃u v,r=(none,u,v)/\u<=v/\v<=n/\v-u<=n-x/\(∀i,i<u->df c left key a base i=true)/\(∀i,v<=i->i<n->df c left key a base i=false))
   (Q:=λr aA=>aA=st/\∃v,r=(none,v,v)/\v<=n/\(∀i,i<v->df c left key a base i=true)/\(∀i,v<=i->i<n->df c left key a base i=false)) ?_ ?_ ?_) ?_)
  ·rintro x r aA _ hx ⟨rfl,u,v,rfl,h1,h2,h3,h4,h5⟩;dsimp only
   by_cases Ha:u >= v
   ·rw[if_pos Ha];obtain rfl:u=v:=by omega
    exact Rh ⟨rfl,u,rfl,h2,h4,h5⟩
   ·rw[if_neg Ha];refine Rb (gj L hk hK hA hn (by omega) ?_)
    dsimp only;cases hb:df c left key a base (u+(v-u) / 2)with
    |true =>
     rw[if_pos rfl];exact Rh ⟨rfl,_,v,rfl,by omega,h2,by omega,λi hi=>up (j:=u+(v-u) / 2) (by omega) (by omega) hb,h5⟩
    |false =>
     rw[if_neg (by simp)]
     exact Rh ⟨rfl,u,_,rfl,by omega,by omega,by omega,h4,λi hi cU=>dn (i:=u+(v-u) / 2) (by omega) (by omega) hb⟩
  ·rintro r aA ⟨rfl,u,v,rfl,h1,h2,h3,h4,h5⟩;obtain rfl:u=v:=by omega
   exact⟨rfl,u,rfl,h2,h4,h5⟩
  ·exact⟨rfl,_,_,rfl,by omega,by omega,by omega,by assumption,by assumption⟩
  ·rintro r aA ⟨rfl,v,rfl,h2,h4,h5⟩;exact Rh (h v h2 h4 h5)
 |false =>
  rw[if_neg (by simp)]
  refine Rb (SJ (Sa (I:=λx r aA=>aA=st/\∃be cG,r=(none,be,cG)/\be<=hint/\be<cG/\x+1<=cG/\df c left key a base (hint-be)=false)
   (Q:=λr aA=>aA=st/\∃be cG,r=(none,be,cG)/\be<=hint/\be<cG/\df c left key a base (hint-be)=false/\(hint+1<=cG\/(cG<=hint/\df c left key a base (hint-cG)=true))) ?_ ?_ ?_) ?_)
  ·rintro x r aA _ hx ⟨rfl,be,cG,rfl,h1,h2,h3,h4⟩;dsimp only
   by_cases hr:cG >= hint+1
   ·rw[if_pos hr];exact Rh ⟨rfl,be,cG,rfl,h1,h2,h4,.inl hr⟩
   ·rw[if_neg hr];refine Rb (gj L hk hK hA hn (by omega) ?_)
    dsimp only;cases hb:df c left key a base (hint-cG)with
    |true =>
     rw[if_pos rfl];exact Rh ⟨rfl,be,cG,rfl,h1,h2,h4,.inr ⟨by omega,hb⟩⟩
    |false =>
     rw[if_neg (by simp)]
     exact Rh ⟨rfl,cG,_,rfl,by omega,by omega,by omega,hb⟩
  ·rintro r aA ⟨rfl,be,cG,rfl,h1,h2,h3,h4⟩;exact⟨rfl,be,cG,rfl,h1,h2,h4,.inl (by omega)⟩
  ·exact⟨rfl,0,1,rfl,by omega,by omega,by omega,Jr⟩
  rintro r aA ⟨e0,be,cG,rfl,h1,h2,h4,h5⟩;rw[e0];dsimp only;have g1:∀i,i<hint+1-min cG (hint+1)->df c left key a base i=true:=λi hi=>by
   rcases h5 with q|⟨q1,q2⟩
   ·omega
   ·exact up (j:=hint-cG) (by omega) (by omega) q2
  have g2:∀i,hint-be<=i->i<n->df c left key a base i=false:=λi hi cU=>dn (i:=hint-be) hi cU h4;refine Rb (SJ (Sa (I:=λx r aA=>aA=st/\∃u v,r=(none,u,v)/\u<=v/\v<=n/\v-u<=n-x/\(∀i,i<u->df c left key a base i=true)/\(∀i,v<=i->i<n->df c left key a base i=false))
   (Q:=λr aA=>aA=st/\∃v,r=(none,v,v)/\v<=n/\(∀i,i<v->df c left key a base i=true)/\(∀i,v<=i->i<n->df c left key a base i=false)) ?_ ?_ ?_) ?_)
  ·rintro x r aA _ hx ⟨rfl,u,v,rfl,h1,h2,h3,h4,h5⟩;dsimp only
   by_cases Ha:u >= v
   ·rw[if_pos Ha];obtain rfl:u=v:=by omega
    exact Rh ⟨rfl,u,rfl,h2,h4,h5⟩
   ·rw[if_neg Ha];refine Rb (gj L hk hK hA hn (by omega) ?_)
    dsimp only;cases hb:df c left key a base (u+(v-u) / 2)with
    |true =>
     rw[if_pos rfl];exact Rh ⟨rfl,_,v,rfl,by omega,h2,by omega,λi hi=>up (j:=u+(v-u) / 2) (by omega) (by omega) hb,h5⟩
    |false =>
     rw[if_neg (by simp)]
     exact Rh ⟨rfl,u,_,rfl,by omega,by omega,by omega,h4,λi hi cU=>dn (i:=u+(v-u) / 2) (by omega) (by omega) hb⟩
  ·rintro r aA ⟨rfl,u,v,rfl,h1,h2,h3,h4,h5⟩;obtain rfl:u=v:=by omega
   exact⟨rfl,u,rfl,h2,h4,h5⟩
  ·exact⟨rfl,_,_,rfl,by omega,by omega,by omega,by assumption,by assumption⟩
  ·rintro r aA ⟨rfl,v,rfl,h2,h4,h5⟩;exact Rh (h v h2 h4 h5)
end
section
variable {c:Q5->Q5->Bool}{p q:Array Q5}{t:List Q5}{i j:Nat}
theorem rY {a:Array Q5}{i:Nat}(h:i<a.size):a.toList.take (i+1)=a.toList.take i++[el a i]:=by
 have e:a.toList[i]?=some (el a i):=by rw[Rm];exact gJ h
 rw[VY,e];rfl
theorem tq {a:Array Q5}{i:Nat}(h:i<a.size):a.toList.drop i=el a i::a.toList.drop (i+1):=by
 have hl:i<a.toList.length:=by rw[Q9];exact h
 have e:a.toList[i]=el a i:=by
  have h1:=Rf hl;rw[Rm,gJ h]at h1;exact(RC h1).symm
 rw[R_ hl,e]
structure Mg (c:Q5->Q5->Bool)(p q:Array Q5)(t:List Q5)(i j:Nat):Prop where
 hi:i<=p.size
 hj:j<=q.size
 perm:t.Perm (p.toList.take i++q.toList.take j)
 fL:t.Pairwise (le c)
 ap:∀x∈t,∀k,i<=k->k<p.size->le c x (el p k)
 aq:∀x∈t,∀k,j<=k->k<q.size->le c x (el q k)
def Gd (c:Q5->Q5->Bool)(p q:Array Q5)(t:List Q5):Prop:=t.Perm (p.toList++q.toList)/\t.Pairwise (le c)
theorem nO {x:Q5}(h:t.Pairwise (le c))(hx:∀y∈t,le c y x):(t++[x]).Pairwise (le c):=by
 rw[List.pairwise_append];exact⟨h,List.pairwise_singleton _ _,λy hy z hz=>by rw[Rk.mp hz];exact hx y hy⟩
theorem Mg.iw (m:Mg c p q t i j)(hj:j<q.size)(sq:SR c q 0 q.size)(hle:∀k,i<=k->k<p.size->le c (el q j) (el p k)):Mg c p q (t++[el q j]) i (j+1) where
 hi:=m.hi
 hj:=hj
 perm:=by
  rw[rY hj,<- R8];exact m.perm.append_right _
 fL:=nO m.fL λy hy=>m.aq y hy j (Q4 _) hj
 ap:=λx hx k h1 h2=>by
  rcases Rx.mp hx with h|h
  ·exact m.ap x h k h1 h2
  ·rw[Rk.mp h];exact hle k h1 h2
 aq:=λx hx k h1 h2=>by
  rcases Rx.mp hx with h|h
  ·exact m.aq x h k (by lia) h2
  ·rw[Rk.mp h];exact sq j k (by lia) (by lia) h2
theorem Mg.iy (m:Mg c p q t i j)(hi:i<p.size)(sp:SR c p 0 p.size)(hle:∀k,j<=k->k<q.size->le c (el p i) (el q k)):Mg c p q (t++[el p i]) (i+1) j where
 hi:=hi
 hj:=m.hj
 perm:=by
  rw[rY hi];refine(m.perm.append_right _).trans ?_;rw[R8,R8];exact U7 _ List.perm_append_comm
 fL:=nO m.fL λy hy=>m.ap y hy i (Q4 _) hi
 ap:=λx hx k h1 h2=>by
  rcases Rx.mp hx with h|h
  ·exact m.ap x h k (by lia) h2
  ·rw[Rk.mp h];exact sp i k (by lia) (by lia) h2
 aq:=λx hx k h1 h2=>by
  rcases Rx.mp hx with h|h
  ·exact m.aq x h k h1 h2
  ·rw[Rk.mp h];exact hle k h1 h2
theorem ft {a:Array Q5}{i k:Nat}(h:i+k<a.size):(a.toList.drop i).take (k+1)=(a.toList.drop i).take k++[el a (i+k)]:=by
 have e:(a.toList.drop i)[k]?=some (el a (i+k)):=by rw[Ut,Rm];exact gJ h
 rw[VY,e];rfl
theorem Mg.gn (m:Mg c p q t i j)(sp:SR c p 0 p.size):∀(k:Nat),i+k<=p.size->(∀x,x<k->∀y,j<=y->y<q.size->le c (el p (i+x)) (el q y))->Mg c p q (t++(p.toList.drop i).take k) (i+k) j
 |0,_,_=>by simpa using m
 |k+1,h,hle=>by
  have m':=Mg.gn m sp k (by lia) λx hx=>hle x (by lia)
  rw[ft (by lia),<- R8,<- Nat.add_assoc]
  exact m'.iy (by lia) sp (hle k (by lia))
theorem Mg.gm (m:Mg c p q t i j)(sq:SR c q 0 q.size):∀(k:Nat),j+k<=q.size->(∀x,x<k->∀y,i<=y->y<p.size->le c (el q (j+x)) (el p y))->Mg c p q (t++(q.toList.drop j).take k) i (j+k)
 |0,_,_=>by simpa using m
 |k+1,h,hle=>by
  have m':=Mg.gm m sq k (by lia) λx hx=>hle x (by lia)
  rw[ft (by lia),<- R8,<- Nat.add_assoc]
  exact m'.iw (by lia) sq (hle k (by lia))
theorem Mg.full (m:Mg c p q t p.size q.size):Gd c p q t:=by
 refine⟨?_,m.fL⟩;have h:=m.perm;rw[SS (by rw[Q9];lia),SS (by rw[Q9];lia)]at h
 exact h
theorem bJ (a:Array Q5)(i j:Nat):(a.extract i j).toList=(a.toList.drop i).take (j-i):=by
 rw[Vf,Ux]
theorem pE {a:Array Q5}{i j:Nat}(h:a.size<=i):(a.toList.drop i).take (j-i)=[]:=by
 rw[UU (by rw[Q9];exact h)]
 simp
theorem Mg.done {to:Array Q5}(m:Mg c p q to.toList i j)(sp:SR c p 0 p.size)(sq:SR c q 0 q.size)(h:i=p.size\/j=q.size):Gd c p q (to++p.extract i p.size++q.extract j q.size).toList:=by
 rw[Sv,Sv,bJ,bJ];rcases h with rfl|rfl
 ·rw[pE (Q4 _),Sr];have m':=m.gm sq (q.size-j) (by have:=m.hj;lia) λx hx y h1 h2=>by lia
  rw[show j+(q.size-j)=q.size by have:=m.hj;lia]at m'
  exact m'.full
 ·rw[pE (a:=q) (Q4 _),Sr];have m':=m.gn sp (p.size-i) (by have:=m.hi;lia) λx hx y h1 h2=>by lia
  rw[show i+(p.size-i)=p.size by have:=m.hi;lia]at m'
  exact m'.full
theorem Mg.tail {to:Array Q5}(O:bK c)(m:Mg c p q to.toList i j)(sp:SR c p 0 p.size)(sq:SR c q 0 q.size)(h:i+1=p.size)(hl:∀y,y<q.size->c (el q y) (el p (p.size-1))=true):Gd c p q (to++q.extract j q.size++p.extract i p.size).toList:=by
 rw[Sv,Sv,bJ,bJ];have m':=m.gm sq (q.size-j) (by have:=m.hj;lia) λx hx y h1 h2=>by
  rw[show y=p.size-1 by lia]
  exact O.of_lt (hl _ (by lia))
 rw[show j+(q.size-j)=q.size by have:=m.hj;lia]at m'
 have m2:=m'.gn sp (p.size-i) (by have:=m.hi;lia) λx hx y h1 h2=>by lia
 rw[show i+(p.size-i)=p.size by have:=m.hi;lia]at m2
 exact m2.full
theorem tM (to a:Array Q5)(i k:Nat):(to++a.extract i (i+k)).toList=to.toList++(a.toList.drop i).take k:=by
 rw[Sv,bJ,show i+k-i=k by lia]
theorem Mg.start (O:bK c)(sp:SR c p 0 p.size)(sq:SR c q 0 q.size)(hq:0<q.size)(hp:0<p.size)(h:c (el q 0) (el p 0)=true):Mg c p q [el q 0] 0 1:=by
 have m:Mg c p q [] 0 0:=⟨Rr _,Rr _,(by simp),.nil,(λx hx=>by cases hx),(λx hx=>by cases hx)⟩
 exact m.iw hq sq λk _ hk=>O.trans (O.of_lt h) (sp 0 k (by lia) (by lia) hk)
end
structure ip (st aA:RD):Prop where
 kind:kindOf aA=kindOf st
 arr:RK aA=RK st
 pend:Rv aA=Rv st
 fail:TZ aA=TZ st
theorem ip.refl (st:RD):ip st st:=⟨rfl,rfl,rfl,rfl⟩
theorem ip.Cj {st aA:RD}(e:ip st aA)(g:Nat):ip st (bM aA g):=⟨e.kind,e.arr,e.pend,e.fail⟩
abbrev RI:=Array Q5×Nat×Nat×Nat×Nat
abbrev RG:=Array Q5×Nat×Nat×Nat×Nat×Nat
abbrev RO:=Array Q5×Nat×Nat×Nat
def KG (p q t:Array Q5)(i j mg m n:Nat):StateT RD Sem (ForInStep (Option (Array Q5)×RG)):=do
 let z <- elem' p i
 if (i+1+1==p.size)=true then pure (.done (some (t.push z++q.extract j++p.extract (i+1)),t.push z,i+1,j,mg,m,n))
 else if (decide (m<7)&&decide (n<7))=true then pure (.done (none,t.push z,i+1,j,mg,m,n)) else pure (.yield (none,t.push z,i+1,j,mg,m,n))
def KH (p q t:Array Q5)(i j mg m n:Nat):StateT RD Sem (ForInStep (Option (Array Q5)×RG)):=do
 let y <- elem' q j
 if (j+1==q.size)=true then pure (.done (some (t.push y++p.extract i++q.extract (j+1)),t.push y,i,j+1,mg,m,n))
 else do
  let x <- elem' p i
  let r <- bL true x q (j+1) (q.size-(j+1)) 0
  match r with
  |some k=>if k>0 then (if (j+1+k==q.size)=true then pure (.done (some (t.push y++q.extract (j+1) (j+1+k)++p.extract i++q.extract (j+1+k)),t.push y++q.extract (j+1) (j+1+k),i,j+1+k,mg,m,k))
    else KG p q (t.push y++q.extract (j+1) (j+1+k)) i (j+1+k) mg m k) else KG p q (t.push y) i (j+1) mg m k
  |_=>pure (.done (some (t.push y++p.extract i++q.extract (j+1)),t.push y,i,j+1,mg,m,n))
def GS (p q t:Array Q5)(i j mg m n:Nat):StateT RD Sem (ForInStep (Option (Array Q5)×RG)):=do
 modify λst=>bM st mg
 let y <- elem' q j
 let r <- bL false y p i (p.size-i) 0
 match r with
 |some k=>if k>0 then (if (i+k+1==p.size)=true then pure (.done (some (t++p.extract i (i+k)++q.extract j++p.extract (i+k)),t++p.extract i (i+k),i+k,j,mg,k,n))
   else if (i+k==p.size)=true then pure (.done (some (t++p.extract i (i+k)++p.extract (i+k)++q.extract j),t++p.extract i (i+k),i+k,j,mg,k,n))
   else KH p q (t++p.extract i (i+k)) (i+k) j mg k n) else KH p q t i j mg k n
 |_=>pure (.done (some (t++p.extract i++q.extract j),t,i,j,mg,m,n))
def OS (p q:Array Q5)(s:Option (Array Q5)×RG):StateT RD Sem (ForInStep (Option (Array Q5)×RG)):=if s.2.2.2.2.1>1 then GS p q s.2.1 s.2.2.1 s.2.2.2.1 (s.2.2.2.2.1-1) s.2.2.2.2.2.1 s.2.2.2.2.2.2 else GS p q s.2.1 s.2.2.1 s.2.2.2.1 s.2.2.2.2.1 s.2.2.2.2.2.1 s.2.2.2.2.2.2
def GQ (p q:Array Q5)(mg:Nat)(s:Option (Array Q5)×RI):StateT RD Sem (ForInStep (Option (Array Q5)×RI)):=do
 let y <- elem' q s.2.2.2.1
 if (s.2.2.2.1+1==q.size)=true then pure (.done (some (s.2.1.push y++p.extract s.2.2.1++q.extract (s.2.2.2.1+1)),s.2.1.push y,s.2.2.1,s.2.2.2.1+1,0,s.2.2.2.2.2+1))
 else if s.2.2.2.2.2+1 >= mg then pure (.done (none,s.2.1.push y,s.2.2.1,s.2.2.2.1+1,0,s.2.2.2.2.2+1)) else pure (.yield (none,s.2.1.push y,s.2.2.1,s.2.2.2.1+1,0,s.2.2.2.2.2+1))
def GP (p q:Array Q5)(mg:Nat)(s:Option (Array Q5)×RI):StateT RD Sem (ForInStep (Option (Array Q5)×RI)):=do
 let x <- elem' p s.2.2.1
 if (s.2.2.1+1+1==p.size)=true then pure (.done (some (s.2.1.push x++q.extract s.2.2.2.1++p.extract (s.2.2.1+1)),s.2.1.push x,s.2.2.1+1,s.2.2.2.1,s.2.2.2.2.1+1,0))
 else if s.2.2.2.2.1+1 >= mg then pure (.done (none,s.2.1.push x,s.2.2.1+1,s.2.2.2.1,s.2.2.2.2.1+1,0)) else pure (.yield (none,s.2.1.push x,s.2.2.1+1,s.2.2.2.1,s.2.2.2.2.1+1,0))
def KD (p q:Array Q5)(mg:Nat)(s:Option (Array Q5)×RI):StateT RD Sem (ForInStep (Option (Array Q5)×RI)):=do
 let y <- elem' q s.2.2.2.1
 let x <- elem' p s.2.2.1
 let r <- lt' y x
 match r with
 |some C0=>if C0=true then GQ p q mg s else GP p q mg s
 |_=>pure (.done (some (s.2.1++p.extract s.2.2.1++q.extract s.2.2.2.1),s.2.1,s.2.2.1,s.2.2.2.1,s.2.2.2.2.1,s.2.2.2.2.2))
def M9 (p q:Array Q5)(s:Option (Array Q5)×RO):StateT RD Sem (ForInStep (Option (Array Q5)×RO)):=do
 let s1 <- forIn [:p.size+q.size] ((none,s.2.1,s.2.2.1,s.2.2.2.1,0,0):Option (Array Q5)×RI) λ_ r=>KD p q s.2.2.2.2 r
 match s1.1 with
 |some r=>pure (.done (some r,s1.2.1,s1.2.2.1,s1.2.2.2.1,s.2.2.2.2))
 |none=>do
  liftM (rule "list.sort.gallop")
  let s2 <- forIn [:p.size+q.size] ((none,s1.2.1,s1.2.2.1,s1.2.2.2.1,s.2.2.2.2+1,s1.2.2.2.2.1,s1.2.2.2.2.2):Option (Array Q5)×RG) λ_ r=>OS p q r
  match s2.1 with
  |some r=>pure (.done (some r,s2.2.1,s2.2.2.1,s2.2.2.2.1,s2.2.2.2.2.1))
  |none=>do
   modify λst=>bM st (s2.2.2.2.2.1+1)
   pure (.yield (none,s2.2.1,s2.2.2.1,s2.2.2.2.1,s2.2.2.2.2.1+1))
theorem oC (p q:Array Q5):gA p q=(do
  liftM (rule "list.sort.merge-lo")
  let y <- elem' q 0
  if (1==q.size)=true then pure (#[y]++p.extract 0++q.extract 1)
  else if (0+1==p.size)=true then pure (#[y]++q.extract 1++p.extract 0)
  else do
   let st <- get
   let s <- forIn [:p.size+q.size] ((none,#[y],0,1,gallopOf st):Option (Array Q5)×RO) λ_ s=>M9 p q s
   match s.1 with
   |some r=>pure r
   |none=>liftM (unsupported "internal:list.sort.merge-bound" : Sem (Array Q5))):=by
 rw[oB];dsimp only;refine congrArg (bind _) (funext λ_=>?_);refine congrArg (bind _) (funext λy=>?_);refine congrArg (ite _ _) (congrArg (ite _ _) ?_);refine congrArg (bind _) (funext λy=>?_);refine congr (congrArg bind (congrArg _ (funext λ_=>funext λs=>?_))) (funext λs=>?_)
 ·refine congr (congrArg bind (congrArg _ (funext λ_=>funext λs=>?_))) (funext λs=>?_)
  ·rfl
  ·cases s.1
   ·refine congrArg (bind _) (funext λ_=>?_);refine congr (congrArg bind (congrArg _ (funext λ_=>funext λs=>?_))) (funext λs=>?_)
    ·rfl
    ·cases s.1 <;> rfl
   ·rfl
 ·cases s.1 <;> rfl
section
variable {prog:Q6}{w:Rl}{A:R7}{E:QZ->Q1->Prop}{s:Q1}{κ:TF}{c:Q5->Q5->Bool}{S:Q5->Prop}{p q:Array Q5}
theorem vJ {st:RD}{Q:ForInStep (Option (Array Q5)×RG)->RD->Prop}{t:Array Q5}{i j mg m n:Nat}(O:bK c)(sp:SR c p 0 p.size)(sq:SR c q 0 q.size)(hl:∀y,y<q.size->c (el q y) (el p (p.size-1))=true)(m3:Mg c p q t.toList i j)(hi:i+1<p.size)(g3:∀y,j<=y->y<q.size->le c (el p i) (el q y))
  (hd:∀out r,Gd c p q out.toList->Q (.done (some out,r)) st) (hn:∀t' m n,Mg c p q t'.toList (i+1) j->i+1+1<p.size->Q (.done (none,t',i+1,j,mg,m,n)) st/\Q (.yield (none,t',i+1,j,mg,m,n)) st):wpS (model prog w) A E s (KG p q t i j mg m n) Q st:=by
 refine Rb (aI (by lia) ?_)
 have m4:Mg c p q (t.push (el p i)).toList (i+1) j:=by
  rw[SN];exact m3.iy (by lia) sp g3
 by_cases e5:(i+1+1==p.size)=true
 ·rw[if_pos e5];exact Rh (hd _ _ (m4.tail O sp sq (by simpa using e5) hl))
 rw[if_neg e5];have h5:i+1+1≠p.size:=by simpa using e5
 obtain⟨h6,h7⟩:=hn (t.push (el p i)) m n m4 (by lia)
 split
 ·exact Rh h6
 ·exact Rh h7
theorem vK {st:RD}{Q:ForInStep (Option (Array Q5)×RG)->RD->Prop}{t:Array Q5}{i j mg m n:Nat}(O:bK c)(L:eI prog w A E s κ c S)(hk:kindOf st=κ)(Sp:∀i,i<p.size->S (el p i))(Sq:∀i,i<q.size->S (el q i))(sp:SR c p 0 p.size)(sq:SR c q 0 q.size)(hl:∀y,y<q.size->c (el q y) (el p (p.size-1))=true)(m1:Mg c p q t.toList i j)(hi:i+1<p.size)(hj:j<q.size)(g1:∀y,i<=y->y<p.size->le c (el q j) (el p y))
  (hd:∀out r,Gd c p q out.toList->Q (.done (some out,r)) st) (hn:∀t' j' m n,Mg c p q t'.toList (i+1) j'->i+1+1<p.size->j<j'->j'<q.size->Q (.done (none,t',i+1,j',mg,m,n)) st/\Q (.yield (none,t',i+1,j',mg,m,n)) st):wpS (model prog w) A E s (KH p q t i j mg m n) Q st:=by
 refine Rb (aI hj ?_);have m2:Mg c p q (t.push (el q j)).toList i (j+1):=by
  rw[SN];exact m1.iw hj sq g1
 by_cases e3:(j+1==q.size)=true
 ·rw[if_pos e3];exact Rh (hd _ _ (m2.done sp sq (.inr (by simpa using e3))))
 rw[if_neg e3];have h3:j+1≠q.size:=by simpa using e3
 refine Rb (aI (by lia) (Rb (cW O L hk (Sp _ (by lia)) (λx hx=>Sq _ (by lia)) (by lia) (λa b h1 h2 h3=>sq a b (by lia) h2 (by lia)) (by lia) λk k1 k2 k3=>?_)))
 have g3:∀y,j+1+k<=y->y<q.size->le c (el p i) (el q y):=λy h1 h2=>by
  have:=k3 (y-(j+1)) (by lia) (by lia)
  unfold df at this;rw[if_pos rfl,show j+1+(y-(j+1))=y by lia]at this
  exact this
 dsimp only
 by_cases yg:k>0
 ·rw[if_pos yg];have m3:Mg c p q (t.push (el q j)++q.extract (j+1) (j+1+k)).toList i (j+1+k):=by
   rw[tM];exact m2.gm sq k (by lia) λx hx y h1 h2=>O.trans (O.of_lt (show c (el q (j+1+x)) (el p i)=true from k2 x hx)) (sp _ y (by lia) h1 h2)
  by_cases e4:(j+1+k==q.size)=true
  ·rw[if_pos e4];exact Rh (hd _ _ (m3.done sp sq (.inr (by simpa using e4))))
  rw[if_neg e4];have h4:j+1+k≠q.size:=by simpa using e4
  exact vJ O sp sq hl m3 hi g3 hd λt' m n h1 h2=>hn t' _ m n h1 h2 (by lia) (by lia)
 ·rw[if_neg yg];exact vJ O sp sq hl m2 hi (λy h1 h2=>g3 y (by lia) h2) hd λt' m n h1 h2=>hn t' _ m n h1 h2 (by lia) (by lia)
theorem CS {st:RD}{Q:ForInStep (Option (Array Q5)×RG)->RD->Prop}{t:Array Q5}{i j mg m n:Nat}(O:bK c)(L:eI prog w A E s κ c S)(hk:kindOf st=κ)(Sp:∀i,i<p.size->S (el p i))(Sq:∀i,i<q.size->S (el q i))(sp:SR c p 0 p.size)(sq:SR c q 0 q.size)(hl:∀y,y<q.size->c (el q y) (el p (p.size-1))=true)(m0:Mg c p q t.toList i j)(hi:i+1<p.size)(hj:j<q.size)
  (hd:∀out r,Gd c p q out.toList->Q (.done (some out,r)) (bM st mg)) (hn:∀t' i' j' m n,Mg c p q t'.toList i' j'->i'+1<p.size->j'<q.size->i+j<i'+j'->Q (.done (none,t',i',j',mg,m,n)) (bM st mg)/\Q (.yield (none,t',i',j',mg,m,n)) (bM st mg)):wpS (model prog w) A E s (GS p q t i j mg m n) Q st:=by
 refine Rb (Tp (Rb (aI hj (Rb (cW O L hk (Sq _ hj) (λx hx=>Sp _ (by lia)) (by lia) (λa b h1 h2 h3=>sp a b (by lia) h2 (by lia)) (by lia) λk k1 k2 k3=>?_)))))
 have g0:∀x,x<k->le c (el p (i+x)) (el q j):=λx hx=>by
  have:=k2 x hx;unfold df at this;rw[if_neg (by simp),T6]at this
  exact this
 have g1:∀y,i+k<=y->y<p.size->le c (el q j) (el p y):=λy h1 h2=>by
  have:=k3 (y-i) (by lia) (by lia)
  unfold df at this;rw[if_neg (by simp),Vu,show i+(y-i)=y by lia]at this
  exact O.of_lt this
 have QO:i+k<p.size:=by
  rcases Sm (i+k) p.size with fI|QR
  ·exact fI
  ·have h1:=g0 (p.size-1-i) (by lia)
   rw[show i+(p.size-1-i)=p.size-1 by lia]at h1
   exact absurd ((hl j hj).symm.trans h1) (by simp)
 dsimp only
 by_cases yg:k>0
 ·rw[if_pos yg];have m1:Mg c p q (t++p.extract i (i+k)).toList (i+k) j:=by
   rw[tM];exact m0.gn sp k (by lia) λx hx y h1 h2=>O.trans (g0 x hx) (sq j y (by lia) h1 h2)
  by_cases e1:(i+k+1==p.size)=true
  ·rw[if_pos e1];exact Rh (hd _ _ (m1.tail O sp sq (by simpa using e1) hl))
  rw[if_neg e1];have Bf:i+k+1≠p.size:=by simpa using e1
  rw[if_neg (by simp;lia)]
  exact vK O L hk Sp Sq sp sq hl m1 (by lia) hj g1 hd λt' j' m n h1 h2 h3 h4=>hn t' _ j' m n h1 h2 h4 (by lia)
 ·rw[if_neg yg];exact vK O L hk Sp Sq sp sq hl m0 hi hj (λy h1 h2=>g1 y (by lia) h2) hd λt' j' m n h1 h2 h3 h4=>hn t' _ j' m n h1 h2 h4 (by lia)
theorem CQ {st:RD}{Q:ForInStep (Option (Array Q5)×RI)->RD->Prop}{t:Array Q5}{i j mg ma na:Nat}(O:bK c)(L:eI prog w A E s κ c S)(hk:kindOf st=κ)(Sp:∀i,i<p.size->S (el p i))(Sq:∀i,i<q.size->S (el q i))(sp:SR c p 0 p.size)(sq:SR c q 0 q.size)(hl:∀y,y<q.size->c (el q y) (el p (p.size-1))=true)(m:Mg c p q t.toList i j)(hi:i+1<p.size)(hj:j<q.size)
  (hd:∀out r,Gd c p q out.toList->Q (.done (some out,r)) st) (hn:∀t' i' j' m n,Mg c p q t'.toList i' j'->i'+1<p.size->j'<q.size->i+j<i'+j'->Q (.done (none,t',i',j',m,n)) st/\Q (.yield (none,t',i',j',m,n)) st):wpS (model prog w) A E s (KD p q mg (none,t,i,j,ma,na)) Q st:=by
 unfold KD GQ GP;dsimp only;refine Rb (aI hj (Rb (aI (by lia) (Rb (L _ _ st _ (Sq _ hj) (Sp _ (by lia)) hk ?_)))))
 dsimp only;cases hc:c (el q j) (el p i)with
 |true =>
  rw[if_pos rfl];refine Rb (aI hj ?_);have m1:Mg c p q (t.push (el q j)).toList i (j+1):=by
   rw[SN];exact m.iw hj sq λk h1 h2=>O.trans (O.of_lt hc) (sp i k (by lia) h1 h2)
  by_cases e3:(j+1==q.size)=true
  ·rw[if_pos e3];exact Rh (hd _ _ (m1.done sp sq (.inr (by simpa using e3))))
  rw[if_neg e3];have h3:j+1≠q.size:=by simpa using e3
  obtain⟨h6,h7⟩:=hn _ _ _ 0 (na+1) m1 hi (by lia) (by lia)
  split
  ·exact Rh h6
  ·exact Rh h7
 |false =>
  rw[if_neg (by simp)]
  refine Rb (aI (by lia) ?_)
  have m1:Mg c p q (t.push (el p i)).toList (i+1) j:=by
   rw[SN];exact m.iy (by lia) sp λk h1 h2=>O.trans (show le c (el p i) (el q j) from hc) (sq j k (by lia) h1 h2)
  by_cases e3:(i+1+1==p.size)=true
  ·rw[if_pos e3];exact Rh (hd _ _ (m1.tail O sp sq (by simpa using e3) hl))
  rw[if_neg e3];have h3:i+1+1≠p.size:=by simpa using e3
  obtain⟨h6,h7⟩:=hn _ _ _ (ma+1) 0 m1 (by lia) hj (by lia)
  split
  ·exact Rh h6
  ·exact Rh h7
theorem qg (O:bK c)(L:eI prog w A E s κ c S){Q:Array Q5->RD->Prop}{st:RD}(hk:kindOf st=κ)(Sp:∀i,i<p.size->S (el p i))(Sq:∀i,i<q.size->S (el q i))(sp:SR c p 0 p.size)(sq:SR c q 0 q.size)
  (hp:0<p.size) (hq:0<q.size) (hf:c (el q 0) (el p 0)=true) (hl:∀y,y<q.size->c (el q y) (el p (p.size-1))=true) (h:∀to aA,ip st aA->Gd c p q to.toList->Q to aA) :
  wpS (model prog w) A E s (gA p q) Q st:=by
 rw[oC];refine Rb (U9 (T_ ⟨rfl,?_⟩));refine Rb (aI hq ?_);have m0:Mg c p q (#[el q 0]:Array Q5).toList 0 1:=Mg.start O sp sq hq hp hf
 by_cases h1:(1==q.size)=true
 ·rw[if_pos h1];exact Rh (h _ st (ip.refl st) (m0.done sp sq (.inr (by simpa using h1))))
 rw[if_neg h1]
 by_cases h2:(0+1==p.size)=true
 ·rw[if_pos h2];exact Rh (h _ st (ip.refl st) (m0.tail O sp sq (by simpa using h2) hl))
 rw[if_neg h2];refine Rb (Uy ?_);refine Rb (SJ (Sa
  (I:=λx r aA=>ip st aA/\∃to i j mg,r=(none,to,i,j,mg)/\Mg c p q to.toList i j/\i+1<p.size/\j<q.size/\x<i+j)
  (Q:=λr aA=>ip st aA/\∃out r',r=(some out,r')/\Gd c p q out.toList) ?_ ?_ ?_) ?_)
 ·rintro x r aA _ hx ⟨e,to,i,j,mg,rfl,m,hi,hj,hb⟩;unfold M9;dsimp only;refine Rb (SJ (Sa
   (I:=λy r aA=>ip st aA/\∃to i j m n,r=(none,to,i,j,m,n)/\Mg c p q to.toList i j/\i+1<p.size/\j<q.size/\x+min y 1<i+j)
   (Q:=λr aA=>ip st aA/\((∃out r',r=(some out,r')/\Gd c p q out.toList)\/∃to i j m n,r=(none,to,i,j,m,n)/\Mg c p q to.toList i j/\i+1<p.size/\j<q.size/\x+1<i+j)) ?_ ?_ ?_) ?_)
  ·rintro y r eJ _ hy ⟨e2,to,i,j,ma,na,rfl,m,hi,hj,hb⟩;exact CQ O L (e2.kind.trans hk) Sp Sq sp sq hl m hi hj (λout r h=>⟨e2,.inl ⟨_,_,rfl,h⟩⟩) λt' i' j' m n h1 h2 h3 h4=>⟨⟨e2,.inr ⟨_,_,_,_,_,rfl,h1,h2,h3,by lia⟩⟩,⟨e2,_,_,_,_,_,rfl,h1,h2,h3,by lia⟩⟩
  ·rintro r eJ ⟨e2,to,i,j,ma,na,rfl,m,hi,hj,hb⟩;exact⟨e2,.inr ⟨_,_,_,_,_,rfl,m,hi,hj,by lia⟩⟩
  ·exact⟨e,_,_,_,_,_,rfl,m,hi,hj,by lia⟩
  rintro r eJ ⟨e2,⟨out,r',rfl,g⟩|⟨to,i,j,ma,na,rfl,m,hi,hj,hb⟩⟩
  ·exact Rh ⟨e2,_,_,rfl,g⟩
  dsimp only;refine Rb (U9 (T_ ⟨rfl,?_⟩));refine Rb (SJ (Sa
   (I:=λy r aA=>ip st aA/\∃to i j mg m n,r=(none,to,i,j,mg,m,n)/\Mg c p q to.toList i j/\i+1<p.size/\j<q.size/\x+1<i+j)
   (Q:=λr aA=>ip st aA/\((∃out r',r=(some out,r')/\Gd c p q out.toList)\/∃to i j mg m n,r=(none,to,i,j,mg,m,n)/\Mg c p q to.toList i j/\i+1<p.size/\j<q.size/\x+1<i+j)) ?_ ?_ ?_) ?_)
  ·rintro y r eJ _ hy ⟨e2,to,i,j,mg,ma,na,rfl,m,hi,hj,hb⟩;show wpS (model prog w) A E s (if mg>1 then GS p q to i j (mg-1) ma na else GS p q to i j mg ma na) _ eJ
   split <;> exact CS O L (e2.kind.trans hk) Sp Sq sp sq hl m hi hj (λout r h=>⟨e2.Cj _,.inl ⟨_,_,rfl,h⟩⟩) λt' i' j' m n h1 h2 h3 h4=>⟨⟨e2.Cj _,.inr ⟨_,_,_,_,_,_,rfl,h1,h2,h3,by lia⟩⟩,⟨e2.Cj _,_,_,_,_,_,_,rfl,h1,h2,h3,by lia⟩⟩
  ·rintro r eJ ⟨e2,to,i,j,mg,ma,na,rfl,m,hi,hj,hb⟩;exact⟨e2,.inr ⟨_,_,_,_,_,_,rfl,m,hi,hj,hb⟩⟩
  ·exact⟨e2,_,_,_,_,_,_,rfl,m,hi,hj,hb⟩
  rintro r eJ ⟨e2,⟨out,r',rfl,g⟩|⟨to,i,j,mg,ma,na,rfl,m,hi,hj,hb⟩⟩
  ·exact Rh ⟨e2,_,_,rfl,g⟩
  dsimp only;refine Rb (Tp (Rh ⟨e2.Cj _,_,_,_,_,rfl,m,hi,hj,by lia⟩))
 ·rintro r aA ⟨e,to,i,j,mg,rfl,m,hi,hj,hb⟩
  exfalso
  rw[show max 0 (p.size+q.size)=p.size+q.size by lia]at hb
  lia
 ·exact⟨ip.refl st,_,_,_,_,rfl,m0,by simp at h2;lia,by simp at h1;lia,by lia⟩
 ·rintro r aA ⟨e,out,r',rfl,g⟩;exact Rh (h _ aA e g)
end
section
variable {c:Q5->Q5->Bool}{p q:Array Q5}{t:List Q5}{i j:Nat}
structure Mh (c:Q5->Q5->Bool)(p q:Array Q5)(t:List Q5)(i j:Nat):Prop where
 hi:i<=p.size
 hj:j<=q.size
 perm:t.Perm (p.toList.drop i++q.toList.drop j)
 fL:t.Pairwise (le c)
 ap:∀x∈t,∀k,k<i->le c (el p k) x
 aq:∀x∈t,∀k,k<j->le c (el q k) x
theorem l3 {a:Array Q5}{i:Nat}(h0:0<i)(h:i<=a.size):a.toList.drop (i-1)=el a (i-1)::a.toList.drop i:=by
 rw[tq (by lia),show i-1+1=i by lia]
theorem Mh.iy (m:Mh c p q t i j)(h0:0<i)(sp:SR c p 0 p.size)(hle:∀k,k<j->le c (el q k) (el p (i-1))):Mh c p q (el p (i-1)::t) (i-1) j where
 hi:=by have:=m.hi;lia
 hj:=m.hj
 perm:=by
  rw[l3 h0 m.hi];exact m.perm.cons _
 fL:=SW.mpr ⟨λx hx=>m.ap x hx _ (by lia),m.fL⟩
 ap:=λx hx k hk=>by
  rcases Ra.mp hx with rfl|h
  ·exact sp k (i-1) (by lia) (by lia) (by have:=m.hi;lia)
  ·exact m.ap x h k (by lia)
 aq:=λx hx k hk=>by
  rcases Ra.mp hx with rfl|h
  ·exact hle k hk
  ·exact m.aq x h k hk
theorem Mh.iw (m:Mh c p q t i j)(h0:0<j)(sq:SR c q 0 q.size)(hle:∀k,k<i->le c (el p k) (el q (j-1))):Mh c p q (el q (j-1)::t) i (j-1) where
 hi:=m.hi
 hj:=by have:=m.hj;lia
 perm:=by
  rw[l3 h0 m.hj];exact(m.perm.cons _).trans UN.symm
 fL:=SW.mpr ⟨λx hx=>m.aq x hx _ (by lia),m.fL⟩
 ap:=λx hx k hk=>by
  rcases Ra.mp hx with rfl|h
  ·exact hle k hk
  ·exact m.ap x h k hk
 aq:=λx hx k hk=>by
  rcases Ra.mp hx with rfl|h
  ·exact sq k (j-1) (by lia) (by lia) (by have:=m.hj;lia)
  ·exact m.aq x h k (by lia)
theorem lq {a:Array Q5}{i k:Nat}(h0:k<i)(h:i<=a.size):(a.toList.drop (i-(k+1))).take (k+1)=el a (i-(k+1))::(a.toList.drop (i-k)).take k:=by
 rw[tq (by lia),show i-(k+1)+1=i-k by lia,List.take_succ_cons]
theorem Mh.vX (m:Mh c p q t i j)(sp:SR c p 0 p.size):∀(k:Nat),k<=i->(∀x,i-k<=x->x<i->∀y,y<j->le c (el q y) (el p x))->Mh c p q ((p.toList.drop (i-k)).take k++t) (i-k) j
 |0,_,_=>by simpa using m
 |k+1,h,hle=>by
  have m':=Mh.vX m sp k (by lia) λx h1 h2=>hle x (by lia) h2
  rw[lq (by lia) m.hi,List.cons_append]
  exact m'.iy (by lia) sp λy hy=>hle _ (by lia) (by lia) y hy
theorem Mh.vW (m:Mh c p q t i j)(sq:SR c q 0 q.size):∀(k:Nat),k<=j->(∀x,j-k<=x->x<j->∀y,y<i->le c (el p y) (el q x))->Mh c p q ((q.toList.drop (j-k)).take k++t) i (j-k)
 |0,_,_=>by simpa using m
 |k+1,h,hle=>by
  have m':=Mh.vW m sq k (by lia) λx h1 h2=>hle x (by lia) h2
  rw[lq (by lia) m.hj,List.cons_append]
  exact m'.iw (by lia) sq λy hy=>hle _ (by lia) (by lia) y hy
theorem Mh.gn (m:Mh c p q t i j)(sp:SR c p 0 p.size){h:Nat}(hh:h<=i)(hle:∀x,h<=x->x<i->∀y,y<j->le c (el q y) (el p x)):Mh c p q ((p.toList.drop h).take (i-h)++t) h j:=by
 have m':=m.vX sp (i-h) (by lia) λx h1 h2=>hle x (by lia) h2
 rw[show i-(i-h)=h by lia]at m'
 exact m'
theorem Mh.gm (m:Mh c p q t i j)(sq:SR c q 0 q.size){h:Nat}(hh:h<=j)(hle:∀x,h<=x->x<j->∀y,y<i->le c (el p y) (el q x)):Mh c p q ((q.toList.drop h).take (j-h)++t) i h:=by
 have m':=m.vW sq (j-h) (by lia) λx h1 h2=>hle x (by lia) h2
 rw[show j-(j-h)=h by lia]at m'
 exact m'
theorem Mh.full (m:Mh c p q t 0 0):Gd c p q t:=⟨m.perm,m.fL⟩
theorem Gj (a b to:Array Q5)(i j:Nat):(a.extract 0 i++b.extract 0 j++to.reverse).toList=(a.toList.drop 0).take (i-0)++((b.toList.drop 0).take (j-0)++to.toList.reverse):=by
 rw[Sv,Sv,bJ,bJ,Array.toList_reverse,R8]
theorem Mh.done {to:Array Q5}(m:Mh c p q to.toList.reverse i j)(sp:SR c p 0 p.size)(sq:SR c q 0 q.size)(h:i=0\/j=0):Gd c p q (p.extract 0 i++q.extract 0 j++to.reverse).toList:=by
 rw[Gj];rcases h with rfl|rfl
 ·have m':=m.gm sq (h:=0) (Rr _) λx _ _ y hy=>by lia
  exact(m'.gn sp (h:=0) (Rr _) λx _ hx=>by lia).full
 ·have m':=m.gm sq (h:=0) (Rr _) λx _ hx=>by lia
  exact(m'.gn sp (h:=0) (Rr _) λx _ hx y hy=>by lia).full
theorem Mh.tail {to:Array Q5}(O:bK c)(m:Mh c p q to.toList.reverse i j)(sp:SR c p 0 p.size)(sq:SR c q 0 q.size)(h:j=1)(hf:c (el q 0) (el p 0)=true):Gd c p q (q.extract 0 j++p.extract 0 i++to.reverse).toList:=by
 rw[Gj];subst h;have m':=m.gn sp (h:=0) (Rr _) λx _ hx y hy=>by
  obtain rfl:y=0:=by lia
  exact O.trans (O.of_lt hf) (sp 0 x (by lia) (by lia) (by have:=m.hi;lia))
 exact(m'.gm sq (h:=0) (Rr _) λx _ _ y hy=>by lia).full
theorem gu (to:Array Q5)(x:Q5):(to.push x).toList.reverse=x::to.toList.reverse:=by
 rw[SN,Uo];rfl
theorem tL (to a:Array Q5)(h i:Nat):(to++(a.extract h i).reverse).toList.reverse=(a.toList.drop h).take (i-h)++to.toList.reverse:=by
 rw[Sv,Uo,Array.toList_reverse,List.reverse_reverse,bJ]
theorem Mh.start (sp:SR c p 0 p.size)(O:bK c)(hp:0<p.size)(hl:∀y,y<q.size->c (el q y) (el p (p.size-1))=true):Mh c p q [el p (p.size-1)] (p.size-1) q.size:=by
 have m:Mh c p q [] p.size q.size:=⟨Q4 _,Q4 _,by rw[UU (by simp),UU (by simp)];exact .refl _,.nil,(λx hx=>by cases hx),(λx hx=>by cases hx)⟩
 exact m.iy hp sp λk hk=>O.of_lt (hl k hk)
end
abbrev RJ:=Nat×Nat×Array Q5×Nat×Nat
abbrev RH:=Nat×Nat×Array Q5×Nat×Nat×Nat
abbrev RP:=Nat×Nat×Array Q5×Nat
def LQ (p q t:Array Q5)(i j mg m n:Nat):StateT RD Sem (ForInStep (Option (Array Q5)×RH)):=do
 let z <- elem' p (i-1)
 if (i-1==0)=true then pure (.done (some (p.extract 0 (i-1)++q.extract 0 j++(t.push z).reverse),i-1,j,t.push z,mg,m,n))
 else if (decide (m<7)&&decide (n<7))=true then pure (.done (none,i-1,j,t.push z,mg,m,n)) else pure (.yield (none,i-1,j,t.push z,mg,m,n))
def LR (p q t:Array Q5)(i j mg m n:Nat):StateT RD Sem (ForInStep (Option (Array Q5)×RH)):=do
 let y <- elem' q (j-1)
 if (j-1==1)=true then pure (.done (some (q.extract 0 (j-1)++p.extract 0 i++(t.push y).reverse),i,j-1,t.push y,mg,m,n))
 else do
  let x <- elem' p (i-1)
  let r <- bL true x q 0 (j-1) (j-1-1)
  match r with
  |some h=>if j-1-h>0 then (if (h==1)=true then pure (.done (some (q.extract 0 h++p.extract 0 i++(t.push y++(q.extract h (j-1)).reverse).reverse),i,h,t.push y++(q.extract h (j-1)).reverse,mg,m,j-1-h))
    else if (h==0)=true then pure (.done (some (p.extract 0 i++q.extract 0 h++(t.push y++(q.extract h (j-1)).reverse).reverse),i,h,t.push y++(q.extract h (j-1)).reverse,mg,m,j-1-h))
    else LQ p q (t.push y++(q.extract h (j-1)).reverse) i h mg m (j-1-h)) else LQ p q (t.push y) i (j-1) mg m (j-1-h)
  |_=>pure (.done (some (p.extract 0 i++q.extract 0 (j-1)++(t.push y).reverse),i,j-1,t.push y,mg,m,n))
def Ia (p q t:Array Q5)(i j mg m n:Nat):StateT RD Sem (ForInStep (Option (Array Q5)×RH)):=do
 modify λst=>bM st mg
 let y <- elem' q (j-1)
 let r <- bL false y p 0 i (i-1)
 match r with
 |some h=>if i-h>0 then (if (h==0)=true then pure (.done (some (p.extract 0 h++q.extract 0 j++(t++(p.extract h i).reverse).reverse),h,j,t++(p.extract h i).reverse,mg,i-h,n))
   else LR p q (t++(p.extract h i).reverse) h j mg (i-h) n) else LR p q t i j mg (i-h) n
 |_=>pure (.done (some (p.extract 0 i++q.extract 0 j++t.reverse),i,j,t,mg,m,n))
def Pp (p q:Array Q5)(s:Option (Array Q5)×RH):StateT RD Sem (ForInStep (Option (Array Q5)×RH)):=if s.2.2.2.2.1>1 then Ia p q s.2.2.2.1 s.2.1 s.2.2.1 (s.2.2.2.2.1-1) s.2.2.2.2.2.1 s.2.2.2.2.2.2 else Ia p q s.2.2.2.1 s.2.1 s.2.2.1 s.2.2.2.2.1 s.2.2.2.2.2.1 s.2.2.2.2.2.2
def LP (p q t:Array Q5)(mg i j m:Nat):StateT RD Sem (ForInStep (Option (Array Q5)×RJ)):=do
 let x <- elem' p (i-1)
 if (i-1==0)=true then pure (.done (some (p.extract 0 (i-1)++q.extract 0 j++(t.push x).reverse),i-1,j,t.push x,m+1,0))
 else if m+1 >= mg then pure (.done (none,i-1,j,t.push x,m+1,0)) else pure (.yield (none,i-1,j,t.push x,m+1,0))
def LO (p q t:Array Q5)(mg i j n:Nat):StateT RD Sem (ForInStep (Option (Array Q5)×RJ)):=do
 let y <- elem' q (j-1)
 if (j-1==1)=true then pure (.done (some (q.extract 0 (j-1)++p.extract 0 i++(t.push y).reverse),i,j-1,t.push y,0,n+1))
 else if n+1 >= mg then pure (.done (none,i,j-1,t.push y,0,n+1)) else pure (.yield (none,i,j-1,t.push y,0,n+1))
def Nz (p q t:Array Q5)(mg i j m n:Nat):StateT RD Sem (ForInStep (Option (Array Q5)×RJ)):=do
 let y <- elem' q (j-1)
 let x <- elem' p (i-1)
 let r <- lt' y x
 match r with
 |some C0=>if C0=true then LP p q t mg i j m else LO p q t mg i j n
 |_=>pure (.done (some (p.extract 0 i++q.extract 0 j++t.reverse),i,j,t,m,n))
def Nw (p q:Array Q5)(s:Option (Array Q5)×RP):StateT RD Sem (ForInStep (Option (Array Q5)×RP)):=do
 let s1 <- forIn [:p.size+q.size] ((none,s.2.1,s.2.2.1,s.2.2.2.1,0,0):Option (Array Q5)×RJ) λ_ r=>Nz p q r.2.2.2.1 s.2.2.2.2 r.2.1 r.2.2.1 r.2.2.2.2.1 r.2.2.2.2.2
 match s1.1 with
 |some r=>pure (.done (some r,s1.2.1,s1.2.2.1,s1.2.2.2.1,s.2.2.2.2))
 |none=>do
  liftM (rule "list.sort.gallop")
  let s2 <- forIn [:p.size+q.size] ((none,s1.2.1,s1.2.2.1,s1.2.2.2.1,s.2.2.2.2+1,s1.2.2.2.2.1,s1.2.2.2.2.2):Option (Array Q5)×RH) λ_ r=>Pp p q r
  match s2.1 with
  |some r=>pure (.done (some r,s2.2.1,s2.2.2.1,s2.2.2.2.1,s2.2.2.2.2.1))
  |none=>do
   modify λst=>bM st (s2.2.2.2.2.1+1)
   pure (.yield (none,s2.2.1,s2.2.2.1,s2.2.2.2.1,s2.2.2.2.2.1+1))
theorem oF (p q:Array Q5):gB p q=(do
  liftM (rule "list.sort.merge-hi")
  let y <- elem' p (p.size-1)
  if (p.size-1==0)=true then pure (p.extract 0 (p.size-1)++q.extract 0++#[y].reverse)
  else if (q.size==1)=true then pure (q.extract 0++p.extract 0 (p.size-1)++#[y].reverse)
  else do
   let st <- get
   let s <- forIn [:p.size+q.size] ((none,p.size-1,q.size,#[y],gallopOf st):Option (Array Q5)×RP) λ_ s=>Nw p q s
   match s.1 with
   |some r=>pure r
   |none=>liftM (unsupported "internal:list.sort.merge-bound" : Sem (Array Q5))):=by
 rw[oE];dsimp only;refine congrArg (bind _) (funext λ_=>?_);refine congrArg (bind _) (funext λy=>?_);refine congrArg (ite _ _) (congrArg (ite _ _) ?_);refine congrArg (bind _) (funext λy=>?_);refine congr (congrArg bind (congrArg _ (funext λ_=>funext λs=>?_))) (funext λs=>?_)
 ·refine congr (congrArg bind (congrArg _ (funext λ_=>funext λs=>?_))) (funext λs=>?_)
  ·rfl
  ·cases s.1
   ·refine congrArg (bind _) (funext λ_=>?_);refine congr (congrArg bind (congrArg _ (funext λ_=>funext λs=>?_))) (funext λs=>?_)
    ·rfl
    ·cases s.1 <;> rfl
   ·rfl
 ·cases s.1 <;> rfl
section
variable {prog:Q6}{w:Rl}{A:R7}{E:QZ->Q1->Prop}{s:Q1}{κ:TF}{c:Q5->Q5->Bool}{S:Q5->Prop}{p q:Array Q5}
theorem vL {st:RD}{Q:ForInStep (Option (Array Q5)×RH)->RD->Prop}{t:Array Q5}{i j mg m n:Nat}(sp:SR c p 0 p.size)(sq:SR c q 0 q.size)(m3:Mh c p q t.toList.reverse i j)(hi:0<i)(g3:∀k,k<j->le c (el q k) (el p (i-1)))
  (hd:∀out r,Gd c p q out.toList->Q (.done (some out,r)) st) (hn:∀t' m n,Mh c p q t'.toList.reverse (i-1) j->0<i-1->Q (.done (none,i-1,j,t',mg,m,n)) st/\Q (.yield (none,i-1,j,t',mg,m,n)) st):wpS (model prog w) A E s (LQ p q t i j mg m n) Q st:=by
 have cU:=m3.hi;refine Rb (aI (by lia) ?_)
 have m4:Mh c p q (t.push (el p (i-1))).toList.reverse (i-1) j:=by
  rw[gu];exact m3.iy hi sp g3
 by_cases e5:(i-1==0)=true
 ·rw[if_pos e5];exact Rh (hd _ _ (m4.done sp sq (.inl (by simpa using e5))))
 rw[if_neg e5];have h5:i-1≠0:=by simpa using e5
 obtain⟨h6,h7⟩:=hn (t.push (el p (i-1))) m n m4 (by lia)
 split
 ·exact Rh h6
 ·exact Rh h7
theorem vM {st:RD}{Q:ForInStep (Option (Array Q5)×RH)->RD->Prop}{t:Array Q5}{i j mg m n:Nat}(O:bK c)(L:eI prog w A E s κ c S)(hk:kindOf st=κ)(Sp:∀i,i<p.size->S (el p i))(Sq:∀i,i<q.size->S (el q i))(sp:SR c p 0 p.size)(sq:SR c q 0 q.size)(hf:c (el q 0) (el p 0)=true)(m1:Mh c p q t.toList.reverse i j)(hi:0<i)(hj:1<j)(g1:∀x,x<i->le c (el p x) (el q (j-1)))
  (hd:∀out r,Gd c p q out.toList->Q (.done (some out,r)) st) (hn:∀t' j' m n,Mh c p q t'.toList.reverse (i-1) j'->0<i-1->1<j'->j'<j->Q (.done (none,i-1,j',t',mg,m,n)) st/\Q (.yield (none,i-1,j',t',mg,m,n)) st):wpS (model prog w) A E s (LR p q t i j mg m n) Q st:=by
 have mi:=m1.hi;have mj:=m1.hj;refine Rb (aI (by lia) ?_)
 have m2:Mh c p q (t.push (el q (j-1))).toList.reverse i (j-1):=by
  rw[gu];exact m1.iw (by lia) sq g1
 by_cases e3:(j-1==1)=true
 ·rw[if_pos e3];exact Rh (hd _ _ (m2.tail O sp sq (by simpa using e3) hf))
 rw[if_neg e3];have h3:j-1≠1:=by simpa using e3
 refine Rb (aI (by lia) (Rb (cW O L hk (Sp _ (by lia)) (λx hx=>Sq _ (by lia)) (by lia) (λa b h1 h2 h3=>sq a b (by lia) h2 (by lia)) (by lia) λh k1 k2 k3=>?_)))
 have g2:∀x,x<h->c (el q x) (el p (i-1))=true:=λx hx=>by
  have:=k2 x hx;unfold df at this;rw[if_pos rfl,S_]at this;exact this
 have g4:∀x,h<=x->x<j-1->le c (el p (i-1)) (el q x):=λx h1 h2=>by
  have:=k3 x h1 h2;unfold df at this;rw[if_pos rfl,S_]at this;exact this
 have hh:0<h:=by
  rcases Vs h with z|z
  ·subst z;have h2:=O.trans (sp 0 (i-1) (by lia) (by lia) (by lia)) (g4 0 (Q4 _) (by lia))
   exact absurd (hf.symm.trans h2) (by simp)
  ·exact z
 dsimp only
 by_cases yg:j-1-h>0
 ·rw[if_pos yg];have m3:Mh c p q (t.push (el q (j-1))++(q.extract h (j-1)).reverse).toList.reverse i h:=by
   rw[tL];exact m2.gm sq k1 λx h1 h2 y hy=>O.trans (sp y (i-1) (by lia) (by lia) (by lia)) (g4 x h1 h2)
  by_cases e4:(h==1)=true
  ·rw[if_pos e4];exact Rh (hd _ _ (m3.tail O sp sq (by simpa using e4) hf))
  rw[if_neg e4];have h4:h≠1:=by simpa using e4
  rw[if_neg (by simp;lia)]
  exact vL sp sq m3 hi (λk hk=>O.of_lt (g2 k hk)) hd λt' m n h1 h2=>hn t' _ m n h1 h2 (by lia) (by lia)
 ·rw[if_neg yg];exact vL sp sq m2 hi (λk hk=>O.of_lt (g2 k (by lia))) hd λt' m n h1 h2=>hn t' _ m n h1 h2 (by lia) (by lia)
theorem CU {st:RD}{Q:ForInStep (Option (Array Q5)×RH)->RD->Prop}{t:Array Q5}{i j mg m n:Nat}(O:bK c)(L:eI prog w A E s κ c S)(hk:kindOf st=κ)(Sp:∀i,i<p.size->S (el p i))(Sq:∀i,i<q.size->S (el q i))(sp:SR c p 0 p.size)(sq:SR c q 0 q.size)(hf:c (el q 0) (el p 0)=true)(m0:Mh c p q t.toList.reverse i j)(hi:0<i)(hj:1<j)
  (hd:∀out r,Gd c p q out.toList->Q (.done (some out,r)) (bM st mg)) (hn:∀t' i' j' m n,Mh c p q t'.toList.reverse i' j'->0<i'->1<j'->i'+j'<i+j->Q (.done (none,i',j',t',mg,m,n)) (bM st mg)/\Q (.yield (none,i',j',t',mg,m,n)) (bM st mg)):wpS (model prog w) A E s (Ia p q t i j mg m n) Q st:=by
 have mi:=m0.hi;have mj:=m0.hj;refine Rb (Tp (Rb (aI (by lia) (Rb (cW O L hk (Sq _ (by lia)) (λx hx=>Sp _ (by lia)) (by lia) (λa b h1 h2 h3=>sp a b (by lia) h2 (by lia)) (by lia) λh k1 k2 k3=>?_)))))
 have g0:∀x,x<h->le c (el p x) (el q (j-1)):=λx hx=>by
  have:=k2 x hx;unfold df at this;rw[if_neg (by simp),T6,S_]at this
  exact this
 have g5:∀x,h<=x->x<i->le c (el q (j-1)) (el p x):=λx h1 h2=>by
  have:=k3 x h1 h2;unfold df at this;rw[if_neg (by simp),Vu,S_]at this
  exact O.of_lt this
 dsimp only
 by_cases yg:i-h>0
 ·rw[if_pos yg];have m1:Mh c p q (t++(p.extract h i).reverse).toList.reverse h j:=by
   rw[tL];exact m0.gn sp k1 λx h1 h2 y hy=>O.trans (sq y (j-1) (by lia) (by lia) (by lia)) (g5 x h1 h2)
  by_cases e1:(h==0)=true
  ·rw[if_pos e1];exact Rh (hd _ _ (m1.done sp sq (.inl (by simpa using e1))))
  rw[if_neg e1];have Bf:h≠0:=by simpa using e1
  exact vM O L hk Sp Sq sp sq hf m1 (by lia) hj g0 hd λt' j' m n h1 h2 h3 h4=>hn t' _ j' m n h1 h2 h3 (by lia)
 ·rw[if_neg yg];exact vM O L hk Sp Sq sp sq hf m0 hi hj (λx hx=>g0 x (by lia)) hd λt' j' m n h1 h2 h3 h4=>hn t' _ j' m n h1 h2 h3 (by lia)
theorem CT {st:RD}{Q:ForInStep (Option (Array Q5)×RJ)->RD->Prop}{t:Array Q5}{i j mg ma na:Nat}(O:bK c)(L:eI prog w A E s κ c S)(hk:kindOf st=κ)(Sp:∀i,i<p.size->S (el p i))(Sq:∀i,i<q.size->S (el q i))(sp:SR c p 0 p.size)(sq:SR c q 0 q.size)(hf:c (el q 0) (el p 0)=true)(m:Mh c p q t.toList.reverse i j)(hi:0<i)(hj:1<j)
  (hd:∀out r,Gd c p q out.toList->Q (.done (some out,r)) st) (hn:∀t' i' j' m n,Mh c p q t'.toList.reverse i' j'->0<i'->1<j'->i'+j'<i+j->Q (.done (none,i',j',t',m,n)) st/\Q (.yield (none,i',j',t',m,n)) st):wpS (model prog w) A E s (Nz p q t mg i j ma na) Q st:=by
 have cU:=m.hi;have QP:=m.hj;refine Rb (aI (by lia) (Rb (aI (by lia) (Rb (L _ _ st _ (Sq _ (by lia)) (Sp _ (by lia)) hk ?_)))))
 dsimp only;cases hc:c (el q (j-1)) (el p (i-1))with
 |true =>
  rw[if_pos rfl];refine Rb (aI (by lia) ?_)
  have m1:Mh c p q (t.push (el p (i-1))).toList.reverse (i-1) j:=by
   rw[gu];exact m.iy hi sp λk hk=>O.trans (sq k (j-1) (by lia) (by lia) (by lia)) (O.of_lt hc)
  by_cases e3:(i-1==0)=true
  ·rw[if_pos e3];exact Rh (hd _ _ (m1.done sp sq (.inl (by simpa using e3))))
  rw[if_neg e3];have h3:i-1≠0:=by simpa using e3
  obtain⟨h6,h7⟩:=hn _ _ _ (ma+1) 0 m1 (by lia) hj (by lia)
  split
  ·exact Rh h6
  ·exact Rh h7
 |false =>
  rw[if_neg (by simp)]
  refine Rb (aI (by lia) ?_)
  have m1:Mh c p q (t.push (el q (j-1))).toList.reverse i (j-1):=by
   rw[gu];exact m.iw (by lia) sq λk hk=>O.trans (sp k (i-1) (by lia) (by lia) (by lia)) (show le c (el p (i-1)) (el q (j-1)) from hc)
  by_cases e3:(j-1==1)=true
  ·rw[if_pos e3];exact Rh (hd _ _ (m1.tail O sp sq (by simpa using e3) hf))
  rw[if_neg e3];have h3:j-1≠1:=by simpa using e3
  obtain⟨h6,h7⟩:=hn _ _ _ 0 (na+1) m1 hi (by lia) (by lia)
  split
  ·exact Rh h6
  ·exact Rh h7
theorem qh (O:bK c)(L:eI prog w A E s κ c S){Q:Array Q5->RD->Prop}{st:RD}(hk:kindOf st=κ)(Sp:∀i,i<p.size->S (el p i))(Sq:∀i,i<q.size->S (el q i))(sp:SR c p 0 p.size)(sq:SR c q 0 q.size)
  (hp:0<p.size) (hq:0<q.size) (hf:c (el q 0) (el p 0)=true) (hl:∀y,y<q.size->c (el q y) (el p (p.size-1))=true) (h:∀to aA,ip st aA->Gd c p q to.toList->Q to aA) :
  wpS (model prog w) A E s (gB p q) Q st:=by
 rw[oF];refine Rb (U9 (T_ ⟨rfl,?_⟩));refine Rb (aI (by lia) ?_)
 have m0:Mh c p q (#[el p (p.size-1)]:Array Q5).toList.reverse (p.size-1) q.size:=Mh.start sp O hp hl
 by_cases h1:(p.size-1==0)=true
 ·rw[if_pos h1];exact Rh (h _ st (ip.refl st) (m0.done sp sq (.inl (by simpa using h1))))
 rw[if_neg h1];have Bf:p.size-1≠0:=by simpa using h1
 by_cases h2:(q.size==1)=true
 ·rw[if_pos h2];exact Rh (h _ st (ip.refl st) (m0.tail O sp sq (by simpa using h2) hf))
 rw[if_neg h2];have yj:q.size≠1:=by simpa using h2
 refine Rb (Uy ?_);refine Rb (SJ (Sa
  (I:=λx r aA=>ip st aA/\∃i j to mg,r=(none,i,j,to,mg)/\Mh c p q to.toList.reverse i j/\0<i/\1<j/\i+j+x<p.size+q.size)
  (Q:=λr aA=>ip st aA/\∃out r',r=(some out,r')/\Gd c p q out.toList) ?_ ?_ ?_) ?_)
 ·rintro x r aA _ hx ⟨e,i,j,to,mg,rfl,m,hi,hj,hb⟩;unfold Nw;dsimp only;refine Rb (SJ (Sa
   (I:=λy r aA=>ip st aA/\∃i j to m n,r=(none,i,j,to,m,n)/\Mh c p q to.toList.reverse i j/\0<i/\1<j/\i+j+x+min y 1<p.size+q.size)
   (Q:=λr aA=>ip st aA/\((∃out r',r=(some out,r')/\Gd c p q out.toList)\/∃i j to m n,r=(none,i,j,to,m,n)/\Mh c p q to.toList.reverse i j/\0<i/\1<j/\i+j+x+1<p.size+q.size)) ?_ ?_ ?_) ?_)
  ·rintro y r eJ _ hy ⟨e2,i,j,to,ma,na,rfl,m,hi,hj,hb⟩;exact CT O L (e2.kind.trans hk) Sp Sq sp sq hf m hi hj (λout r h=>⟨e2,.inl ⟨_,_,rfl,h⟩⟩) λt' i' j' m n h1 h2 h3 h4=>⟨⟨e2,.inr ⟨_,_,_,_,_,rfl,h1,h2,h3,by lia⟩⟩,⟨e2,_,_,_,_,_,rfl,h1,h2,h3,by lia⟩⟩
  ·rintro r eJ ⟨e2,i,j,to,ma,na,rfl,m,hi,hj,hb⟩;exact⟨e2,.inr ⟨_,_,_,_,_,rfl,m,hi,hj,by lia⟩⟩
  ·exact⟨e,_,_,_,_,_,rfl,m,hi,hj,by lia⟩
  rintro r eJ ⟨e2,⟨out,r',rfl,g⟩|⟨i,j,to,ma,na,rfl,m,hi,hj,hb⟩⟩
  ·exact Rh ⟨e2,_,_,rfl,g⟩
  dsimp only;refine Rb (U9 (T_ ⟨rfl,?_⟩));refine Rb (SJ (Sa
   (I:=λy r aA=>ip st aA/\∃i j to mg m n,r=(none,i,j,to,mg,m,n)/\Mh c p q to.toList.reverse i j/\0<i/\1<j/\i+j+x+1<p.size+q.size)
   (Q:=λr aA=>ip st aA/\((∃out r',r=(some out,r')/\Gd c p q out.toList)\/∃i j to mg m n,r=(none,i,j,to,mg,m,n)/\Mh c p q to.toList.reverse i j/\0<i/\1<j/\i+j+x+1<p.size+q.size)) ?_ ?_ ?_) ?_)
  ·rintro y r eJ _ hy ⟨e2,i,j,to,mg,ma,na,rfl,m,hi,hj,hb⟩;show wpS (model prog w) A E s (if mg>1 then Ia p q to i j (mg-1) ma na else Ia p q to i j mg ma na) _ eJ
   split <;> exact CU O L (e2.kind.trans hk) Sp Sq sp sq hf m hi hj (λout r h=>⟨e2.Cj _,.inl ⟨_,_,rfl,h⟩⟩) λt' i' j' m n h1 h2 h3 h4=>⟨⟨e2.Cj _,.inr ⟨_,_,_,_,_,_,rfl,h1,h2,h3,by lia⟩⟩,⟨e2.Cj _,_,_,_,_,_,_,rfl,h1,h2,h3,by lia⟩⟩
  ·rintro r eJ ⟨e2,i,j,to,mg,ma,na,rfl,m,hi,hj,hb⟩;exact⟨e2,.inr ⟨_,_,_,_,_,_,rfl,m,hi,hj,hb⟩⟩
  ·exact⟨e2,_,_,_,_,_,_,rfl,m,hi,hj,hb⟩
  rintro r eJ ⟨e2,⟨out,r',rfl,g⟩|⟨i,j,to,mg,ma,na,rfl,m,hi,hj,hb⟩⟩
  ·exact Rh ⟨e2,_,_,rfl,g⟩
  dsimp only;refine Rb (Tp (Rh ⟨e2.Cj _,_,_,_,_,rfl,m,hi,hj,by lia⟩))
 ·rintro r aA ⟨e,i,j,to,mg,rfl,m,hi,hj,hb⟩
  exfalso
  rw[show max 0 (p.size+q.size)=p.size+q.size by lia]at hb
  lia
 ·exact⟨ip.refl st,_,_,_,_,rfl,m0,by lia,by lia,by lia⟩
 ·rintro r aA ⟨e,out,r',rfl,g⟩;exact Rh (h _ aA e g)
end
section
variable {c:Q5->Q5->Bool}{a b:Array Q5}
structure Rg (a b:Array Q5)(lo hi:Nat):Prop where
 perm:b.Perm a
 out:∀k,(k<lo\/hi<=k)->el b k=el a k
theorem Rg.refl {lo hi:Nat}:Rg a a lo hi:=⟨VU _,λ_ _=>rfl⟩
theorem Rg.trans {d:Array Q5}{lo hi:Nat}(x:Rg a b lo hi)(y:Rg b d lo hi):Rg a d lo hi:=⟨y.perm.trans x.perm,λk h=>(y.out k h).trans (x.out k h)⟩
theorem Rg.mono {lo hi B5 cU:Nat}(x:Rg a b lo hi)(h1:B5<=lo)(h2:hi<=cU):Rg a b B5 cU:=⟨x.perm,λk h=>x.out k (by lia)⟩
theorem Rg.size {lo hi:Nat}(x:Rg a b lo hi):b.size=a.size:=x.perm.size_eq
theorem SR.congr {lo hi:Nat}(h:SR c a lo hi)(e:∀k,lo<=k->k<hi->el b k=el a k):SR c b lo hi:=λi j h1 h2 h3=>by
 rw[e i h1 (by lia),e j (by lia) h3]
 exact h i j h1 h2 h3
def NI (c:Q5->Q5->Bool)(a:Array Q5)(lo hi:Nat):Prop:=∀i j,lo<=i->i<=j->j<hi->le c (el a j) (el a i)
theorem bG {i j:Nat}(hj:j<=a.size)(k:Nat):el (mirror a i j ((j-i) / 2)) k=if i<=k/\k<j then el a (i+j-1-k) else el a k:=by
 have e:=getElem?_mirror_all (i:=i) hj k
 by_cases h:i<=k/\k<j
 ·rw[if_pos h]at e ⊢
  exact de e
 ·rw[if_neg h]at e ⊢
  exact de e
theorem dP {i j:Nat}(hj:j<=a.size):Rg a (mirror a i j ((j-i) / 2)) i j:=⟨mirror_perm _ _ _ _,λk h=>by rw[bG hj,if_neg (by lia)]⟩
theorem lH {i j:Nat}(hj:j<=a.size)(h:NI c a i j):SR c (mirror a i j ((j-i) / 2)) i j:=λx y h1 h2 h3=>by
 rw[bG hj,bG hj,if_pos (by lia),if_pos (by lia)]
 exact h _ _ (by lia) (by lia) (by lia)
theorem g6 {lo i j:Nat}(Jn:lo<=i)(hj:j<=a.size)(h:NI c a lo j)(he:∀x y,i<=x->x<j->i<=y->y<j->le c (el a x) (el a y)):NI c (mirror a i j ((j-i) / 2)) lo j:=λx y h1 h2 h3=>by
 rw[bG hj,bG hj]
 by_cases hx:i<=x/\x<j
 ·rw[if_pos hx,if_pos (by lia)]
  exact he _ _ (by lia) (by lia) (by lia) (by lia)
 ·rw[if_neg hx]
  by_cases hy:i<=y/\y<j
  ·rw[if_pos hy];exact h _ _ (by lia) (by lia) (by lia)
  ·rw[if_neg hy];exact h _ _ h1 h2 h3
theorem SR.snoc {lo n:Nat}(O:bK c)(h:SR c a lo (lo+n))(h1:0<n)(hn:le c (el a (lo+n-1)) (el a (lo+n))):SR c a lo (lo+(n+1)):=λi j h2 h3 h4=>by
 by_cases hj:j<lo+n
 ·exact h i j h2 h3 hj
 ·obtain rfl:j=lo+n:=by lia
  by_cases hi:i<lo+n
  ·exact O.trans (h i (lo+n-1) h2 (by lia) (by lia)) hn
  ·obtain rfl:i=lo+n:=by lia
   exact O.refl _
theorem NI.snoc {lo n:Nat}(O:bK c)(h:NI c a lo (lo+n))(h1:0<n)(hn:le c (el a (lo+n)) (el a (lo+n-1))):NI c a lo (lo+(n+1)):=λi j h2 h3 h4=>by
 by_cases hj:j<lo+n
 ·exact h i j h2 h3 hj
 ·obtain rfl:j=lo+n:=by lia
  by_cases hi:i<lo+n
  ·exact O.trans hn (h i (lo+n-1) h2 (by lia) (by lia))
  ·obtain rfl:i=lo+n:=by lia
   exact O.refl _
theorem SR.one {lo:Nat}(O:bK c):SR c a lo (lo+1):=λi j h1 h2 h3=>by
 obtain rfl:i=j:=by lia
 exact O.refl _
end
structure ik (κ:TF)(a₀:Array Q5)(st:RD):Prop where
 kind:kindOf st=κ
 fail:TZ st=none
 perm:(RK st).Perm a₀
section
variable {prog:Q6}{w:Rl}{A:R7}{E:QZ->Q1->Prop}{s:Q1}{κ:TF}{c:Q5->Q5->Bool}{a₀:Array Q5}
theorem ik.size {st:RD}(h:ik κ a₀ st):(RK st).size=a₀.size:=h.perm.size_eq
theorem ik.mem {st:RD}(h:ik κ a₀ st){i:Nat}(hi:i<a₀.size):el (RK st) i∈a₀.toList:=by
 have h1:i<(RK st).size:=by rw[h.size];exact hi
 refine(Tu.mp h.perm).mem_iff.mp ?_;have:=gJ h1;rw[<- Rm]at this;exact SE this
theorem ik.set {st:RD}{b:Array Q5}{lo hi:Nat}(h:ik κ a₀ st)(r:Rg (RK st) b lo hi):ik κ a₀ (Sl st b):=⟨h.kind,h.fail,r.perm.trans h.perm⟩
theorem mn (L:eI prog w A E s κ c (·∈a₀.toList)){st:RD}{i j:Nat}{Q:Option Bool->RD->Prop}(h:ik κ a₀ st)(hi:i<a₀.size)(hj:j<a₀.size)(q:Q (some (c (el (RK st) i) (el (RK st) j))) st):
  wpS (model prog w) A E s (ltAt' i j) Q st:=by
 rw[ltAt'_eq];refine Rb (Uy ?_);exact Rb (aI (by rw[h.size];exact hi) (Rb (aI (by rw[h.size];exact hj) (L _ _ st Q (h.mem hi) (h.mem hj) h.kind q))))
theorem gi (L:eI prog w A E s κ c (·∈a₀.toList)){st:RD}{b:Array Q5}{i j lo hi:Nat}{Q:Option Bool->RD->Prop}(h:ik κ a₀ st)(R:Rg (RK st) b lo hi)(hi:i<a₀.size)(hj:j<a₀.size)(q:Q (some (c (el b i) (el b j))) (Sl st b)):
  wpS (model prog w) A E s (ltAt' i j) Q (Sl st b):=mn L (h.set R) hi hj q
theorem gh {st:RD}{i j:Nat}{Q:Unit->RD->Prop}(q:Q () (Sl st (mirror (RK st) i j ((j-i) / 2)))):wpS (model prog w) A E s (reverseSlice' i j) Q st:=by
 rw[reverseSlice'_eq];exact Tp q
theorem vN (O:bK c)(L:eI prog w A E s κ c (·∈a₀.toList)){st:RD}{lo dO:Nat}{Q:Option Nat->RD->Prop}(h0:ik κ a₀ st)(h1:1<=dO)(hn:lo+dO<=a₀.size)
  (h:∀n b,1<=n->n<=dO->Rg (RK st) b lo (lo+dO)->SR c b lo (lo+n)->Q (some n) (Sl st b)):wpS (model prog w) A E s (countRun' lo dO) Q st:=by
 rw[countRun'_eq];dsimp only;refine Rb (SJ (Sa (I:=λx r aA=>aA=st/\∃n,r=(none,n)/\n=x/\SR c (RK st) lo (lo+n))
  (Q:=λr aA=>aA=st/\∃n,r=(none,n)/\1<=n/\n<=dO/\SR c (RK st) lo (lo+n)/\(n=dO\/(n<dO/\c (el (RK st) (lo+n)) (el (RK st) (lo+n-1))=true))) ?_ ?_ ?_) ?_)
 ·rintro x r aA zj hx ⟨rfl,n,rfl,rfl,hs⟩;dsimp only;refine Rb (mn L h0 (by lia) (by lia) ?_)
  dsimp only;cases hc:c (el (RK aA) (lo+n)) (el (RK aA) (lo+n-1))with
  |true =>
   rw[if_pos rfl];exact Rh ⟨rfl,n,rfl,zj,by lia,hs,.inr ⟨by lia,hc⟩⟩
  |false =>
   rw[if_neg (by simp)]
   exact Rh ⟨rfl,n+1,rfl,rfl,hs.snoc O zj hc⟩
 ·rintro r aA ⟨rfl,n,rfl,hx,hs⟩;exact⟨rfl,n,rfl,by lia,by lia,hs,.inl (by lia)⟩
 ·exact⟨rfl,1,rfl,rfl,SR.one O⟩
 rintro r aA ⟨e0,n,rfl,Nm,Jm,hs,hc⟩;rw[e0];dsimp only
 by_cases LA:(n==dO)=true
 ·rw[if_pos LA];exact Rh (h n (RK st) Nm Jm Rg.refl hs)
 rw[if_neg LA];have Pc:n≠dO:=by simpa using LA
 have hc:c (el (RK st) (lo+n)) (el (RK st) (lo+n-1))=true:=by
  rcases hc with q|q
  ·lia
  ·exact q.2
 refine(λ(key:∀b,Rg (RK st) b lo (lo+dO)->NI c b lo (lo+(n+1))->wpS (model prog w) A E s ?cont Q (Sl st b))=>?main) ?key
 case main =>
  by_cases h2:n>1
  ·rw[if_pos h2];refine Rb (mn L h0 (by lia) (by lia) ?_)
   dsimp only;cases hr:c (el (RK st) lo) (el (RK st) (lo+n-1))with
   |true =>
    rw[if_pos rfl];exact Rh (h n (RK st) Nm Jm Rg.refl hs)
   |false =>
    rw[if_neg (by simp)]
    refine Rb (gh ?_);have hz:lo+n<=(RK st).size:=by have:=h0.size;lia
    have R0:Rg (RK st) (mirror (RK st) lo (lo+n) ((lo+n-lo) / 2)) lo (lo+dO):=(dP hz).mono (Q4 _) (by lia)
    have all:∀u v,lo<=u->u<lo+n->lo<=v->v<lo+n->le c (el (RK st) u) (el (RK st) v):=λu v h1 h2 h3 h4 =>
     O.trans (hs u (lo+n-1) h1 (by lia) (by lia)) (O.trans hr (hs lo v (Q4 _) h3 h4))
    have N0:NI c (mirror (RK st) lo (lo+n) ((lo+n-lo) / 2)) lo (lo+(n+1)):=by
     refine NI.snoc O (g6 (Q4 _) hz (λu v h1 h2 h3=>all v u (by lia) (by lia) h1 (by lia)) λu v h1 h2 h3 h4=>all u v h1 h2 h3 h4) (by lia) ?_
     rw[bG hz,bG hz,if_neg (by lia),if_pos (by lia)]
     exact O.trans (O.of_lt hc) (all _ _ (by lia) (by lia) (by lia) (by lia))
    exact key _ R0 N0
  ·rw[if_neg h2];have N0:NI c (RK st) lo (lo+(n+1)):=NI.snoc O (λu v h1 h2 h3=>by
    obtain rfl:u=v:=by lia
    exact O.refl _) (by lia) (O.of_lt hc)
   show wpS _ _ _ _ _ Q (Sl st (RK st));exact key _ Rg.refl N0
 case key =>
  intro b0 R0 N0;refine Rb (U9 (T_ ⟨rfl,?_⟩));refine Rb (SJ (Sa (I:=λx r aA=>∃b n iC,aA=Sl st b/\r=(none,n,iC)/\n=x/\Rg (RK st) b lo (lo+dO)/\NI c b lo (lo+n)/\iC<n/\(∀u v,lo+n-1-iC<=u->u<lo+n->lo+n-1-iC<=v->v<lo+n->le c (el b u) (el b v)))
   (Q:=λr aA=>∃b n iC,aA=Sl st b/\r=(none,n,iC)/\1<=n/\n<=dO/\Rg (RK st) b lo (lo+dO)/\NI c b lo (lo+n)/\iC<n/\(∀u v,lo+n-1-iC<=u->u<lo+n->lo+n-1-iC<=v->v<lo+n->le c (el b u) (el b v))) ?_ ?_ ?_) ?_)
  ·rintro x r aA zj hx ⟨b,n',iC,rfl,rfl,rfl,R,N,hq,he⟩;dsimp only;refine Rb (gi L h0 R (by lia) (by lia) ?_)
   dsimp only;cases kU:c (el b (lo+n')) (el b (lo+n' - 1))with
   |true =>
    rw[if_pos rfl]
    by_cases yd:iC>0
    ·rw[if_pos yd];refine Rb (gh (Rh ?_));have hz:lo+n'<=b.size:=by have:=R.size;have:=h0.size;lia
     refine⟨mirror b (lo+n' - (iC+1)) (lo+n') ((lo+n' - (lo+n' - (iC+1))) / 2),n'+1,0,rfl,rfl,rfl,R.trans ((dP hz).mono (by lia) (by lia)),?_,by lia,?_⟩
     ·refine NI.snoc O (g6 (by lia) hz N λu v h1 h2 h3 h4=>he u v (by lia) h2 (by lia) h4) (by lia) ?_
      rw[bG hz,bG hz,if_neg (by lia),if_pos (by lia)]
      exact O.trans (O.of_lt kU) (he _ _ (by lia) (by lia) (by lia) (by lia))
     ·intro u v h1 h2 h3 h4;obtain rfl:u=v:=by lia
      exact O.refl _
    ·rw[if_neg yd];refine Rh ⟨b,n'+1,0,rfl,rfl,rfl,R,N.snoc O (by lia) (O.of_lt kU),by lia,?_⟩
     intro u v h1 h2 h3 h4;obtain rfl:u=v:=by lia
     exact O.refl _
   |false =>
    rw[if_neg (by simp)]
    refine Rb (gi L h0 R (by lia) (by lia) ?_)
    dsimp only;cases rl:c (el b (lo+n' - 1)) (el b (lo+n'))with
    |true =>
     rw[if_pos rfl];exact Rh ⟨b,n',iC,rfl,rfl,by lia,by lia,R,N,hq,he⟩
    |false =>
     rw[if_neg (by simp)]
     refine Rh ⟨b,n'+1,iC+1,rfl,rfl,rfl,R,N.snoc O (by lia) rl,by lia,?_⟩
     have hl:∀u,lo+n' - 1-iC<=u->u<lo+(n'+1)->le c (el b u) (el b (lo+n'))/\le c (el b (lo+n')) (el b u):=λu h1 h2=>by
      by_cases hu:u<lo+n'
      ·exact⟨O.trans (he u (lo+n' - 1) h1 hu (by lia) (by lia)) kU,O.trans rl (he (lo+n' - 1) u (by lia) (by lia) h1 hu)⟩
      ·obtain rfl:u=lo+n':=by lia
       exact⟨O.refl _,O.refl _⟩
     intro u v h1 h2 h3 h4;exact O.trans (hl u (by lia) h2).1 (hl v (by lia) h4).2
  ·rintro r aA ⟨b,n',iC,rfl,rfl,hx,R,N,hq,he⟩;exact⟨b,n',iC,rfl,rfl,by lia,by lia,R,N,hq,he⟩
  ·refine⟨_,n+1,0,rfl,rfl,rfl,R0,N0,by lia,?_⟩
   intro u v h1 h2 h3 h4;obtain rfl:u=v:=by lia
   exact O.refl _
  rintro r aA ⟨b,n',iC,rfl,rfl,Pg,Pf,RB,NB,hq,he⟩;dsimp only
  by_cases yd:iC>0
  ·rw[if_pos yd];refine Rb (gh ?_);have hz:lo+n'<=b.size:=by have:=RB.size;have:=h0.size;lia
   have NB:=g6 (c:=c) (i:=lo+n' - (iC+1)) (by lia) hz NB λu v h1 h2 h3 h4=>he u v (by lia) h2 (by lia) h4
   have RB:=RB.trans ((dP (i:=lo+n' - (iC+1)) hz).mono (by lia) (by lia:lo+n'<=lo+dO))
   show wpS _ _ _ _ _ Q (Sl st (mirror b (lo+n' - (iC+1)) (lo+n') ((lo+n' - (lo+n' - (iC+1))) / 2)));generalize mirror b (lo+n' - (iC+1)) (lo+n') ((lo+n' - (lo+n' - (iC+1))) / 2)=b1 at NB RB;refine Rb (gh ?_);have R2:Rg (RK st) (mirror b1 lo (lo+n') ((lo+n' - lo) / 2)) lo (lo+dO):=RB.trans ((dP (by have:=RB.size;have:=h0.size;lia)).mono (Q4 _) (by lia))
   have S2:SR c (mirror b1 lo (lo+n') ((lo+n' - lo) / 2)) lo (lo+n'):=lH (by have:=RB.size;have:=h0.size;lia) NB
   show wpS _ _ _ _ _ Q (Sl st (mirror b1 lo (lo+n') ((lo+n' - lo) / 2)));generalize mirror b1 lo (lo+n') ((lo+n' - lo) / 2)=b2 at R2 S2;refine Rb (SJ (Sa (I:=λx r aA=>aA=Sl st b2/\∃m,r=(none,m)/\m=x/\SR c b2 lo (lo+m))
    (Q:=λr aA=>aA=Sl st b2/\∃m,r=(none,m)/\1<=m/\m<=dO/\SR c b2 lo (lo+m)) ?_ ?_ ?_) ?_)
   ·rintro x r aA zj hx ⟨rfl,m,rfl,rfl,hs⟩;dsimp only;refine Rb (gi L h0 R2 (by lia) (by lia) ?_)
    dsimp only;cases hc:c (el b2 (lo+m)) (el b2 (lo+m-1))with
    |true =>
     rw[if_pos rfl];exact Rh ⟨rfl,m,rfl,by lia,by lia,hs⟩
    |false =>
     rw[if_neg (by simp)]
     exact Rh ⟨rfl,m+1,rfl,rfl,hs.snoc O (by lia) hc⟩
   ·rintro r aA ⟨rfl,m,rfl,hx,hs⟩;exact⟨rfl,m,rfl,by lia,by lia,hs⟩
   ·exact⟨rfl,n',rfl,rfl,S2⟩
   rintro r aA ⟨rfl,m,rfl,LG,LF,hs⟩;exact Rh (h m b2 LG LF R2 hs)
  ·rw[if_neg yd];refine Rb (gh ?_);have R2:Rg (RK st) (mirror b lo (lo+n') ((lo+n' - lo) / 2)) lo (lo+dO):=RB.trans ((dP (by have:=RB.size;have:=h0.size;lia)).mono (Q4 _) (by lia))
   have S2:SR c (mirror b lo (lo+n') ((lo+n' - lo) / 2)) lo (lo+n'):=lH (by have:=RB.size;have:=h0.size;lia) NB
   show wpS _ _ _ _ _ Q (Sl st (mirror b lo (lo+n') ((lo+n' - lo) / 2)));generalize mirror b lo (lo+n') ((lo+n' - lo) / 2)=b2 at R2 S2;refine Rb (SJ (Sa (I:=λx r aA=>aA=Sl st b2/\∃m,r=(none,m)/\m=x/\SR c b2 lo (lo+m))
    (Q:=λr aA=>aA=Sl st b2/\∃m,r=(none,m)/\1<=m/\m<=dO/\SR c b2 lo (lo+m)) ?_ ?_ ?_) ?_)
   ·rintro x r aA zj hx ⟨rfl,m,rfl,rfl,hs⟩;dsimp only;refine Rb (gi L h0 R2 (by lia) (by lia) ?_)
    dsimp only;cases hc:c (el b2 (lo+m)) (el b2 (lo+m-1))with
    |true =>
     rw[if_pos rfl];exact Rh ⟨rfl,m,rfl,by lia,by lia,hs⟩
    |false =>
     rw[if_neg (by simp)]
     exact Rh ⟨rfl,m+1,rfl,rfl,hs.snoc O (by lia) hc⟩
   ·rintro r aA ⟨rfl,m,rfl,hx,hs⟩;exact⟨rfl,m,rfl,by lia,by lia,hs⟩
   ·exact⟨rfl,n',rfl,rfl,S2⟩
   rintro r aA ⟨rfl,m,rfl,LG,LF,hs⟩;exact Rh (h m b2 LG LF R2 hs)
end
section
variable {c:Q5->Q5->Bool}{a:Array Q5}
theorem ia {src d:Nat}(hs:src<a.size)(hd:d<=src)(k:Nat):el (bubble a src d) k=if k=src-d then el a src else if src-d<k/\k<=src then el a (k-1) else el a k:=by
 have e:=getElem?_bubble hs d hd k
 by_cases h1:k=src-d
 ·rw[if_pos h1]at e ⊢
  exact de e
 ·rw[if_neg h1]at e ⊢
  by_cases h2:src-d<k/\k<=src
  ·rw[if_pos h2]at e ⊢
   exact de e
  ·rw[if_neg h2]at e ⊢
   exact de e
theorem vf {lo k l:Nat}(O:bK c)(hk:lo+k<a.size)(hl:l<=k)(h:SR c a lo (lo+k))(h1:∀i,i<l->le c (el a (lo+i)) (el a (lo+k)))(h2:∀i,l<=i->i<k->le c (el a (lo+k)) (el a (lo+i))):
  SR c (bubble a (lo+k) (lo+k-(lo+l))) lo (lo+(k+1)):=λi j g1 g2 g3=>by
 rw[ia hk (by lia),ia hk (by lia),show lo+k-(lo+k-(lo+l))=lo+l by lia]
 have q1:∀i,lo<=i->i<lo+l->le c (el a i) (el a (lo+k)):=λi x y=>by
  have:=h1 (i-lo) (by lia)
  rwa [show lo+(i-lo)=i by lia]at this
 have q2:∀i,lo+l<=i->i<lo+k->le c (el a (lo+k)) (el a i):=λi x y=>by
  have:=h2 (i-lo) (by lia) (by lia)
  rwa [show lo+(i-lo)=i by lia]at this
 by_cases ei:i=lo+l
 ·rw[if_pos ei]
  by_cases ej:j=lo+l
  ·rw[if_pos ej];exact O.refl _
  ·rw[if_neg ej,if_pos (by lia)]
   exact q2 _ (by lia) (by lia)
 ·rw[if_neg ei]
  by_cases ej:j=lo+l
  ·rw[if_pos ej,if_neg (by lia)]
   exact q1 _ (by lia) (by lia)
  ·rw[if_neg ej]
   by_cases fi:lo+l<i/\i<=lo+k
   ·rw[if_pos fi,if_pos (by lia)]
    exact h _ _ (by lia) (by lia) (by lia)
   ·rw[if_neg fi]
    by_cases fj:lo+l<j/\j<=lo+k
    ·rw[if_pos fj];exact h _ _ (by lia) (by lia) (by lia)
    ·rw[if_neg fj];exact h _ _ (by lia) (by lia) (by lia)
theorem vg {src d:Nat}(hs:src<a.size)(hd:d<=src):Rg a (bubble a src d) (src-d) (src+1):=⟨bubble_perm _ _ _,λk h=>by
 rw[ia hs hd,if_neg (by lia),if_neg (by lia)]⟩
end
section
variable {prog:Q6}{w:Rl}{A:R7}{E:QZ->Q1->Prop}{s:Q1}{κ:TF}{c:Q5->Q5->Bool}{a₀:Array Q5}
theorem CY (O:bK c)(L:eI prog w A E s κ c (·∈a₀.toList)){st:RD}{lo n ok:Nat}{Q:Bool->RD->Prop}(h0:ik κ a₀ st)(bj:ok<=n)(h1:1<=n)(hn:lo+n<=a₀.size)(hs:SR c (RK st) lo (lo+ok))
  (h:∀b,Rg (RK st) b lo (lo+n)->SR c b lo (lo+n)->Q true (Sl st b)):wpS (model prog w) A E s (binarySort' lo n ok) Q st:=by
 rw[binarySort'_eq];refine Rb (SJ (Sa (I:=λk r aA=>r=(none,())/\k<=n/\∃b,aA=Sl st b/\Rg (RK st) b lo (lo+n)/\SR c b lo (lo+k))
  (Q:=λr aA=>r=(none,())/\∃b,aA=Sl st b/\Rg (RK st) b lo (lo+n)/\SR c b lo (lo+n)) ?_ ?_ ?_) ?_)
 ·rintro k r aA LL hk ⟨rfl,_,b,rfl,R,uP⟩;dsimp only;have hz:b.size=a₀.size:=R.size.trans h0.size;refine Rb (SJ (Sa (I:=λx r aA=>aA=Sl st b/\∃l u,r=(none,l,u)/\l<=u/\u<=k/\u-l<=k-x/\(∀i,i<l->le c (el b (lo+i)) (el b (lo+k)))/\(∀i,u<=i->i<k->le c (el b (lo+k)) (el b (lo+i))))
   (Q:=λr aA=>aA=Sl st b/\∃l,r=(none,l,l)/\l<=k/\(∀i,i<l->le c (el b (lo+i)) (el b (lo+k)))/\(∀i,l<=i->i<k->le c (el b (lo+k)) (el b (lo+i)))) ?_ ?_ ?_) ?_)
  ·rintro x r aA _ hx ⟨rfl,l,u,rfl,g1,g2,g3,g4,g5⟩;dsimp only
   by_cases Np:l >= u
   ·rw[if_pos Np];obtain rfl:l=u:=by lia
    exact Rh ⟨rfl,l,rfl,g2,g4,g5⟩
   ·rw[if_neg Np];refine Rb (gi L h0 R (by lia) (by lia) ?_)
    dsimp only;cases hc:c (el b (lo+k)) (el b (lo+(l+u) / 2))with
    |true =>
     rw[if_pos rfl];exact Rh ⟨rfl,l,_,rfl,by lia,by lia,by lia,g4,λi h1 h2=>O.trans (O.of_lt hc) (uP _ _ (by lia) (by lia) (by lia))⟩
    |false =>
     rw[if_neg (by simp)]
     exact Rh ⟨rfl,_,u,rfl,by lia,by lia,by lia,λi h1=>O.trans (uP _ _ (by lia) (by lia) (by lia)) (show le c (el b (lo+(l+u) / 2)) (el b (lo+k)) from hc),g5⟩
  ·rintro r aA ⟨rfl,l,u,rfl,g1,g2,g3,g4,g5⟩;obtain rfl:l=u:=by lia
   exact⟨rfl,l,rfl,g2,g4,g5⟩
  ·exact⟨rfl,0,k,rfl,Rr _,Q4 _,by lia,λi hi=>by lia,λi h1 h2=>by lia⟩
  rintro r aA ⟨rfl,l,rfl,g2,g4,g5⟩;dsimp only;rw[moveDown'_eq];refine Rb (Tp (Rh ⟨rfl,by lia,_,rfl,R.trans ((vg (a:=b) (by lia) (by lia)).mono (by lia) (by lia)),vf (a:=b) O (by lia) g2 uP g4 g5⟩))
 ·rintro r aA ⟨rfl,hx,b,rfl,R,uP⟩;rw[show max (max ok 1) n=n by lia]at uP
  exact⟨rfl,b,rfl,R,uP⟩
 ·refine⟨rfl,by lia,RK st,rfl,Rg.refl,?_⟩
  by_cases h2:ok=0
  ·subst h2;exact SR.one O
  ·rw[show max ok 1=ok by lia]
   exact hs
 ·rintro r aA ⟨rfl,b,rfl,R,uP⟩;exact Rh (h b R uP)
theorem oZ (base:Nat):∀(l:List Q5) (off:Nat) (a:Array Q5),base+off+l.length<=a.size->∀k:Nat,
  ((l.zipIdx off).foldl (λx (z:Q5×Nat)=>x.setIfInBounds (base+z.2) z.1) a)[k]?=if base+off<=k/\k<base+off+l.length then l[k-(base+off)]? else a[k]?
 |[],off,a,_,k=>by
  rw[if_neg (by rw[List.length_nil];lia)]
  rfl
 |x::l,off,a,h,k=>by
  rw[Rq]at h;rw[List.zipIdx_cons,U1,oZ base l (off+1) _ (by rw[UH];lia)]
  by_cases h1:base+(off+1)<=k/\k<base+(off+1)+l.length
  ·rw[if_pos h1,if_pos (by rw[Rq];lia),show k-(base+off)=k-(base+(off+1))+1 by lia,TV]
  ·rw[if_neg h1,Array.getElem?_setIfInBounds]
   by_cases h2:base+off=k
   ·subst h2;rw[if_pos rfl,if_pos (by lia),if_pos (by rw[Rq];lia),US]
    rfl
   ·rw[if_neg h2,if_neg (by rw[Rq];lia)]
def zA (a:Array Q5)(base:Nat)(l:List Q5):Array Q5:=l.zipIdx.foldl (λx (z:Q5×Nat)=>x.setIfInBounds (base+z.2) z.1) a
theorem ml {a:Array Q5}{base:Nat}{l:List Q5}(h:base+l.length<=a.size)(k:Nat):(zA a base l)[k]?=if base<=k/\k<base+l.length then l[k-base]? else a[k]?:=oZ base l 0 a h k
theorem vH {a:Array Q5}{base:Nat}{l:List Q5}(h:base+l.length<=a.size):(zA a base l).toList=a.toList.take base++(l++a.toList.drop (base+l.length)):=by
 apply To;intro k;rw[Rm,ml h];have hz:a.toList.length=a.size:=Q9
 by_cases h1:base<=k/\k<base+l.length
 ·rw[if_pos h1,R9 (by rw[RL];lia),RL,Su (by lia)]
  congr 1
  lia
 ·rw[if_neg h1]
  by_cases h2:k<base
  ·rw[Su (by rw[RL];lia),TJ h2,Rm]
  ·rw[R9 (by rw[RL];lia),RL,R9 (by lia),Ut,Rm]
   congr 1
   lia
theorem Dh (a:Array Q5)(base m:Nat):a.toList=a.toList.take base++((a.toList.drop base).take m++a.toList.drop (base+m)):=by
 have h1:=(S0 base a.toList).symm;have h2:=(S0 m (a.toList.drop base)).symm;rw[List.drop_drop]at h2;rw[<- h2];exact h1
theorem CP {a:Array Q5}{base:Nat}{l:List Q5}(h:base+l.length<=a.size)(hp:l.Perm ((a.toList.drop base).take l.length)):Rg a (zA a base l) base (base+l.length) where
 perm:=by
  rw[Tu,vH h];refine List.Perm.trans ?_ (U3 (Dh a base l.length).symm);exact U7 _ (hp.append_right _)
 out:=λk hk=>de (by rw[ml h,if_neg (by lia)])
end
section
variable {prog:Q6}{w:Rl}{A:R7}{E:QZ->Q1->Prop}{s:Q1}{κ:TF}{c:Q5->Q5->Bool}{a₀:Array Q5}
theorem zE {σ:Type}{M:VP}{Q:PUnit->σ->Prop}{st aA:σ}(h:Q ⟨⟩ aA):wpS M A E s (set aA:StateT σ Sem PUnit) Q st:=by
 unfold wpS;rw[StateT.run_set];exact Q_ ⟨rfl,h⟩
theorem rF {a:Array Q5}{lo hi i:Nat}(h:i<hi-lo)(hh:hi<=a.size):el (a.extract lo hi) i=el a (lo+i) :=
 de (by rw[Array.getElem?_extract,if_pos (by lia)])
theorem j_ {a:Array Q5}{lo hi:Nat}(hh:hi<=a.size):(a.extract lo hi).size=hi-lo:=by
 rw[Array.size_extract];lia
theorem sV {a:Array Q5}{lo hi:Nat}(hh:hi<=a.size){z:Q5}(h:z∈(a.extract lo hi).toList):∃u,lo<=u/\u<hi/\z=el a u:=by
 obtain⟨i,cU⟩:=Vd h;rw[Rm]at cU;have fI:i<(a.extract lo hi).size:=by
  rcases Sm i (a.extract lo hi).size with q|q
  ·exact q
  ·rw[SV q]at cU;cases cU
 rw[j_ hh]at fI;exact⟨lo+i,by lia,by lia,by rw[<- rF fI hh,tm cU]⟩
theorem qi (O:bK c)(L:eI prog w A E s κ c (·∈a₀.toList)){st:RD}{i sa na pw sb nb Kn:Nat}{Q:Bool->RD->Prop}(h0:ik κ a₀ st)(p1:(Rv st)[i]?=some (sa,na,pw))(p2:(Rv st)[i+1]?=some (sb,nb,Kn))
  (uP:sb=sa+na) (QL:1<=na) (QK:1<=nb) (hz:sb+nb<=a₀.size) (s1:SR c (RK st) sa sb) (s2:SR c (RK st) sb (sb+nb))
  (h:∀aA,kindOf aA=κ->TZ aA=none->Rv aA=((Rv st).setIfInBounds i (sa,na+nb,pw)).eraseIdxIfInBounds (i+1)->Rg (RK st) (RK aA) sa (sb+nb)->SR c (RK aA) sa (sb+nb)->Q true aA) :
  wpS (model prog w) A E s (mergeAt' i) Q st:=by
 rw[oG];refine Rb (Uy ?_);rw[p1,p2];dsimp only;refine Rb (zE ?_);have hsz:=h0.size;have hm:∀{j},j<a₀.size->el (RK st) j∈a₀.toList:=λhj=>h0.mem hj;generalize ha:RK st=a at *
 have tU:kindOf (Ub st (((Rv st).setIfInBounds i (sa,na+nb,pw)).eraseIdxIfInBounds (i+1)))=κ:=h0.kind;have Dd:TZ (Ub st (((Rv st).setIfInBounds i (sa,na+nb,pw)).eraseIdxIfInBounds (i+1)))=none:=h0.fail;have Dg:RK (Ub st (((Rv st).setIfInBounds i (sa,na+nb,pw)).eraseIdxIfInBounds (i+1)))=a:=ha;have FX:Rv (Ub st (((Rv st).setIfInBounds i (sa,na+nb,pw)).eraseIdxIfInBounds (i+1)))=((Rv st).setIfInBounds i (sa,na+nb,pw)).eraseIdxIfInBounds (i+1):=rfl;generalize hP:((Rv st).setIfInBounds i (sa,na+nb,pw)).eraseIdxIfInBounds (i+1)=P at *
 generalize Ub st P=FY at *
 refine Rb (aI (by lia) ?_)
 refine Rb (cW O L tU (hm (by lia)) (λx hx=>hm (by lia)) (by lia) (λx y h1 h2 h3=>s1 x y h1 h2 (by lia)) (by lia) λk k1 k2 k3=>?_)
 dsimp only;have g0:∀x,sa<=x->x<sa+k->le c (el a x) (el a sb):=λx h1 h2=>by
  have:=k2 (x-sa) (by lia)
  unfold df at this;rw[if_neg (by simp),T6,show sa+(x-sa)=x by lia]at this
  exact this
 by_cases e1:(na-k==0)=true
 ·rw[if_pos e1];have e1:na-k=0:=by simpa using e1
  refine Rh (h FY tU Dd FX (by rw[Dg];exact Rg.refl) ?_)
  rw[Dg];intro x y h1 h2 h3
  by_cases hx:x<sb
  ·by_cases hy:y<sb
   ·exact s1 x y h1 h2 hy
   ·exact O.trans (g0 x h1 (by lia)) (s2 sb y (Q4 _) (by lia) h3)
  ·exact s2 x y (by lia) h2 h3
 rw[if_neg e1];have e1:na-k≠0:=by simpa using e1
 have g1:c (el a sb) (el a (sa+k))=true:=by
  have:=k3 k (Q4 _) (by lia)
  unfold df at this;rw[if_neg (by simp),Vu]at this
  exact this
 refine Rb (aI (by lia) ?_)
 refine Rb (cW O L tU (hm (by lia)) (λx hx=>hm (by lia)) (by lia) (λx y h1 h2 h3=>s2 x y h1 h2 (by lia)) (by lia) λm m1 m2 m3=>?_)
 dsimp only;rw[show sa+k+(na-k)-1=sb-1 by lia]at m2 m3
 have g2:∀x,sb<=x->x<sb+m->c (el a x) (el a (sb-1))=true:=λx h1 h2=>by
  have:=m2 (x-sb) (by lia)
  unfold df at this;rw[if_pos rfl,show sb+(x-sb)=x by lia]at this
  exact this
 have g3:∀x,sb+m<=x->x<sb+nb->le c (el a (sb-1)) (el a x):=λx h1 h2=>by
  have:=m3 (x-sb) (by lia) (by lia)
  unfold df at this;rw[if_pos rfl,show sb+(x-sb)=x by lia]at this
  exact this
 by_cases e2:(m==0)=true
 ·exfalso
  have e2:m=0:=by simpa using e2
  have:=O.trans (s1 (sa+k) (sb-1) (by lia) (by lia) (by lia)) (g3 sb (by lia) (by lia))
  exact absurd (g1.symm.trans this) (by simp)
 rw[if_neg e2];have e2:m≠0:=by simpa using e2
 have zx:(a.extract (sa+k) sb).size=sb-(sa+k):=j_ (by lia)
 have zy:(a.extract sb (sb+m)).size=m:=by rw[j_ (by lia)];lia
 have ex:∀{t},t<sb-(sa+k)->el (a.extract (sa+k) sb) t=el a (sa+k+t):=λht=>rF ht (by lia)
 have ey:∀{t},t<m->el (a.extract sb (sb+m)) t=el a (sb+t):=λht=>rF (by lia) (by lia)
 have fin:∀(out:Array Q5) (eJ:RD),ip FY eJ->Gd c (a.extract (sa+k) sb) (a.extract sb (sb+m)) out.toList ->
   wpS (model prog w) A E s (do
    modify λs2=>Sl s2 (out.toList.zipIdx.foldl (λx z=>match z with|(p,j)=>x.setIfInBounds (sa+k+j) p) (RK s2))
    let y <- get
    pure (TZ y).isNone:StateT RD Sem Bool) Q eJ:=by
  rintro out eJ e ⟨gp,gs⟩;refine Rb (Tp (Rb (Uy (Rh ?_))));show Q (TZ eJ).isNone (Sl eJ (zA (RK eJ) (sa+k) out.toList));rw[e.fail,Dd,e.arr,Dg];have zo:out.toList.length=sb-(sa+k)+m:=by
   rw[gp.length_eq,RT,Q9,Q9,zx,zy]
  have hb:sa+k+out.toList.length<=a.size:=by lia
  have xy:(a.toList.drop (sa+k)).take out.toList.length=(a.extract (sa+k) sb).toList++(a.extract sb (sb+m)).toList:=by
   rw[bJ,bJ,zo,show sb+m-sb=m by lia,List.take_add,List.drop_drop,show sa+k+(sb-(sa+k))=sb by lia]
  have R:Rg a (zA a (sa+k) out.toList) (sa+k) (sa+k+out.toList.length):=CP hb (by rw[xy];exact gp)
  refine h _ (e.kind.trans tU) (e.fail.trans Dd) (e.pend.trans FX) (R.mono (by lia) (by lia)) ?_
  show SR c (zA a (sa+k) out.toList) sa (sb+nb);have EJ:∀t,sa+k<=t->t<sb+m->∃z,out.toList[t-(sa+k)]?=some z/\el (zA a (sa+k) out.toList) t=z/\((∃u,sa+k<=u/\u<sb/\z=el a u)\/∃u,sb<=u/\u<sb+m/\z=el a u):=by
   intro t h1 h2;have hl:t-(sa+k)<out.toList.length:=by lia
   refine⟨out.toList[t-(sa+k)],Rf hl,tm (by rw[ml hb,if_pos (by lia)];exact Rf hl),?_⟩
   have kT:=gp.mem_iff.mp (Tz hl);rcases Rx.mp kT with q|q
   ·exact .inl (sV (by lia) q)
   ·exact .inr (sV (by lia) q)
  have NO:∀t,t<sa+k->el (zA a (sa+k) out.toList) t=el a t:=λt ht=>R.out t (.inl ht);have Jv:∀t,sb+m<=t->el (zA a (sa+k) out.toList) t=el a t:=λt ht=>R.out t (.inr (by lia))
  intro x y h1 h2 h3
  by_cases hx:x<sa+k
  ·rw[NO x hx]
   by_cases hy:y<sa+k
   ·rw[NO y hy];exact s1 x y h1 h2 (by lia)
   ·by_cases KW:y<sb+m
    ·obtain⟨z,_,ez,KS⟩:=EJ y (by lia) KW
     rw[ez];rcases KS with⟨u,u1,u2,rfl⟩|⟨u,u1,u2,rfl⟩
     ·exact s1 x u h1 (by lia) u2
     ·exact O.trans (g0 x h1 hx) (s2 sb u (Q4 _) u1 (by lia))
    ·rw[Jv y (by lia)]
     exact O.trans (g0 x h1 hx) (s2 sb y (Q4 _) (by lia) h3)
  ·by_cases Er:x<sb+m
   ·obtain⟨z,iz,ez,KS⟩:=EJ x (by lia) Er
    rw[ez]
    by_cases KW:y<sb+m
    ·obtain⟨z',OY,L_,_⟩:=EJ y (by lia) KW
     rw[L_]
     by_cases KY:x=y
     ·subst KY;rw[ez]at L_;rw[L_];exact O.refl _
     ·obtain⟨q1,q2⟩:=Rw.mp iz;obtain⟨q3,q4⟩:=Rw.mp OY;have:=Uw.mp gs _ _ q1 q3 (by lia)
      rw[q2,q4]at this;exact this
    ·rw[Jv y (by lia)]
     rcases KS with⟨u,u1,u2,rfl⟩|⟨u,u1,u2,rfl⟩
     ·exact O.trans (s1 u (sb-1) (by lia) (by lia) (by lia)) (g3 y (by lia) h3)
     ·exact s2 u y (by lia) (by lia) h3
   ·rw[Jv x (by lia),Jv y (by lia)]
    exact s2 x y (by lia) h2 h3
 have go:∀(out:Array Q5) (eJ:RD),ip FY eJ->Gd c (a.extract (sa+k) sb) (a.extract sb (sb+m)) out.toList->wpS (model prog w) A E s (do
    modify λs2=>Sl s2 (out.toList.zipIdx.foldl (λx z=>match z with|(p,j)=>x.setIfInBounds (sa+k+j) p) (RK s2))
    let y <- get
    pure (TZ y).isNone:StateT RD Sem Bool) Q eJ:=fin
 have Nd:0<(a.extract (sa+k) sb).size:=by lia
 have Nc:0<(a.extract sb (sb+m)).size:=by lia
 have Sx:∀t,t<(a.extract (sa+k) sb).size->el (a.extract (sa+k) sb) t∈a₀.toList:=λt ht=>by rw[ex (by lia)];exact hm (by lia)
 have Sy:∀t,t<(a.extract sb (sb+m)).size->el (a.extract sb (sb+m)) t∈a₀.toList:=λt ht=>by rw[ey (by lia)];exact hm (by lia)
 have MI:SR c (a.extract (sa+k) sb) 0 (a.extract (sa+k) sb).size:=λx y h1 h2 h3=>by
  rw[ex (by lia),ex (by lia)]
  exact s1 _ _ (by lia) (by lia) (by lia)
 have MH:SR c (a.extract sb (sb+m)) 0 (a.extract sb (sb+m)).size:=λx y h1 h2 h3=>by
  rw[ey (by lia),ey (by lia)]
  exact s2 _ _ (by lia) (by lia) (by lia)
 have hf:c (el (a.extract sb (sb+m)) 0) (el (a.extract (sa+k) sb) 0)=true:=by
  rw[ex (by lia),ey (by lia)]
  exact g1
 have hl:∀y,y<(a.extract sb (sb+m)).size->c (el (a.extract sb (sb+m)) y) (el (a.extract (sa+k) sb) ((a.extract (sa+k) sb).size-1))=true:=λy hy=>by
  rw[ey (by lia),ex (by lia),show sa+k+((a.extract (sa+k) sb).size-1)=sb-1 by lia]
  exact g2 _ (by lia) (by lia)
 by_cases e3:na-k<=m
 ·rw[if_pos e3];exact Rb (qg O L tU Sx Sy MI MH Nd Nc hf hl go)
 ·rw[if_neg e3];exact Rb (qh O L tU Sx Sy MI MH Nd Nc hf hl go)
end
section
variable {c:Q5->Q5->Bool}{a b:Array Q5}
def Runs (c:Q5->Q5->Bool)(a:Array Q5):List (Nat×Nat×Nat)->Nat->Nat->Prop
 |[],lo,hi=>lo=hi
 |z::r,lo,hi=>z.1=lo/\1<=z.2.1/\SR c a lo (lo+z.2.1)/\Runs c a r (lo+z.2.1) hi
theorem Runs.app:∀{l r:List (Nat×Nat×Nat)} {lo hi:Nat},Runs c a (l++r) lo hi->∃m,Runs c a l lo m/\Runs c a r m hi
 |[],r,lo,hi,h=>⟨lo,rfl,h⟩
 |z::l,r,lo,hi,⟨h1,h2,h3,h4⟩=>by
  obtain⟨m,g1,g2⟩:=Runs.app h4;exact⟨m,⟨h1,h2,h3,g1⟩,g2⟩
theorem Runs.join:∀{l r:List (Nat×Nat×Nat)} {lo m hi:Nat},Runs c a l lo m->Runs c a r m hi->Runs c a (l++r) lo hi
 |[],r,lo,m,hi,h,g=>by
  obtain rfl:lo=m:=h;exact g
 |z::l,r,lo,m,hi,⟨h1,h2,h3,h4⟩,g=>⟨h1,h2,h3,Runs.join h4 g⟩
theorem Runs.len:∀{l:List (Nat×Nat×Nat)} {lo hi:Nat},Runs c a l lo hi->lo+l.length<=hi
 |[],lo,hi,h=>Nat.le_of_eq h
 |z::l,lo,hi,⟨h1,h2,h3,h4⟩=>by
  have:=Runs.len h4;rw[Rq];lia
theorem Runs.congr:∀{l:List (Nat×Nat×Nat)} {lo hi:Nat},Runs c a l lo hi->(∀k,lo<=k->k<hi->el b k=el a k)->Runs c b l lo hi
 |[],lo,hi,h,_=>h
 |z::l,lo,hi,⟨h1,h2,h3,h4⟩,e=>by
  have hl:=Runs.len h4;exact⟨h1,h2,h3.congr λk g1 g2=>e k g1 (by lia),Runs.congr h4 λk g1 g2=>e k (by lia) g2⟩
theorem Runs.pow:∀{l l':List (Nat×Nat×Nat)} {lo hi:Nat},Runs c a l lo hi->l'.map (λz=>(z.1,z.2.1))=l.map (λz=>(z.1,z.2.1))->Runs c a l' lo hi
 |[],[],_,_,h,_=>h
 |[],z::l',_,_,_,e=>by cases e
 |z::l,[],_,_,_,e=>by cases e
 |z::l,z'::l',lo,hi,⟨h1,h2,h3,h4⟩,e=>by
  rw[RN,RN]at e;injection e with e1 e2
  injection e1 with e3 e4
  exact⟨e3.trans h1,by rw[e4];exact h2,by rw[e4];exact h3,by rw[e4];exact Runs.pow h4 e2⟩
end
section
variable {prog:Q6}{w:Rl}{A:R7}{E:QZ->Q1->Prop}{s:Q1}{κ:TF}{c:Q5->Q5->Bool}{a₀:Array Q5}
theorem Di {α:Type}{l:List α}{i:Nat}(h:i+1<l.length):∃l1 x y l2,l=l1++x::y::l2/\l1.length=i:=by
 refine⟨l.take i,l[i],l[i+1],l.drop (i+2),?_,by rw[RL];lia⟩
 rw[<- R_ h,<- R_ (by lia),S0]
theorem lj (O:bK c)(L:eI prog w A E s κ c (·∈a₀.toList)){st:RD}{i hi:Nat}{Q:Bool->RD->Prop}(h0:ik κ a₀ st)(hr:Runs c (RK st) (Rv st).toList 0 hi)(hh:hi<=a₀.size)(NC:i+1<(Rv st).size)
  (h:∀aA,ik κ a₀ aA->Rg (RK st) (RK aA) 0 hi->Runs c (RK aA) (Rv aA).toList 0 hi->(Rv aA).size+1=(Rv st).size->Q true aA) :
  wpS (model prog w) A E s (mergeAt' i) Q st:=by
 obtain⟨l1,⟨sa,na,pw⟩,⟨sb,nb,Kn⟩,l2,el,hl⟩:=Di (l:=(Rv st).toList) (i:=i) (by rw[Q9];exact NC)
 rw[el]at hr;obtain⟨m,r1,r2⟩:=hr.app;obtain⟨x1,x2,x3,y1,y2,y3,r3⟩:=r2;dsimp only at x1 x2 x3 y1 y2 y3 r3;have hlen:=r3.len;have Nq:=r1.len;have p1:(Rv st)[i]?=some (sa,na,pw):=by
  rw[<- Rm,el,R9 (by lia),hl,US]
  rfl
 have p2:(Rv st)[i+1]?=some (sb,nb,Kn):=by
  rw[<- Rm,el,R9 (by lia),hl,show i+1-i=1 by lia]
  rfl
 subst x1;refine qi O L h0 p1 p2 y1 x2 y2 (by lia) (by rw[y1];exact x3) (by rw[y1];exact y3) λaA k1 k2 k3 R S=>?_
 have ep:(Rv aA).toList=l1++(sa,na+nb,pw)::l2:=by
  rw[k3];have hz:i+1<((Rv st).setIfInBounds i (sa,na+nb,pw)).size:=by rw[UH];exact NC
  have e1:(((Rv st).setIfInBounds i (sa,na+nb,pw)).eraseIdxIfInBounds (i+1)).toList=((Rv st).toList.set i (sa,na+nb,pw)).eraseIdx (i+1):=by
   unfold Array.eraseIdxIfInBounds;rw[dif_pos hz,Array.toList_eraseIdx,Array.toList_setIfInBounds]
  rw[e1,el,<- hl,List.set_append_right _ _ (Q4 _),US,List.set_cons_zero,List.eraseIdx_append_of_length_le (by lia),show l1.length+1-l1.length=1 by lia]
  rfl
 have out:∀k,(k<sa\/sb+nb<=k)->TS.el (RK aA) k=TS.el (RK st) k:=R.out;refine h aA ⟨k1,k2,R.perm.trans h0.perm⟩ (R.mono (Rr _) (by lia)) ?_ ?_
 ·rw[ep];refine Runs.join (r1.congr λk g1 g2=>out k (.inl (by lia))) ⟨rfl,by show 1<=na+nb;lia,?_,?_⟩
  ·show SR c (RK aA) sa (sa+(na+nb));rw[show sa+(na+nb)=sb+nb by lia]
   exact S
  ·show Runs c (RK aA) l2 (sa+(na+nb)) hi;rw[show sa+(na+nb)=sa+na+nb by lia]
   exact r3.congr λk g1 g2=>out k (.inr (by lia))
 ·have e2:(Rv aA).size=l1.length+(l2.length+1):=by rw[<- Q9,ep,RT,Rq]
  have e3:(Rv st).size=l1.length+(l2.length+1+1):=by rw[<- Q9,el,RT,Rq,Rq]
  lia
theorem jM:∀(f n r:Nat),1<=n->1<=minRun' f n r
 |0,n,r,h=>by show 1<=n+r;lia
 |f+1,n,r,h=>by
  rw[minRun'_succ]
  split
  ·lia
  ·exact jM f _ _ (by lia)
theorem Ab (p:Array (Nat×Nat×Nat))(i w:Nat):(p.modify i λx=>(x.1,x.2.1,w)).toList.map (λz=>(z.1,z.2.1))=p.toList.map (λz=>(z.1,z.2.1)):=by
 apply To;intro k;rw[Rn,Rn,Rm,Rm,Array.getElem?_modify]
 split
 ·rw[Option.map_map];rfl
 ·rfl
theorem nz (O:bK c)(L:eI prog w A E s κ c (·∈a₀.toList)){st:RD}{Q:Unit->RD->Prop}(h0:ik κ a₀ st)(hp:Rv st=#[])(h2:2<=a₀.size)
  (h:∀aA,ik κ a₀ aA->SR c (RK aA) 0 a₀.size->Q () aA):wpS (model prog w) A E s sortRuns' Q st:=by
 rw[sortRuns'_eq];refine Rb (Uy ?_);dsimp only;rw[h0.size];have Ph:=jM a₀.size a₀.size 0 (by lia)
 generalize minRun' a₀.size a₀.size 0=mr at Ph;refine Rb (SJ (Sa (I:=λx r aA=>ik κ a₀ aA/\∃lo,r=(none,lo)/\lo<=a₀.size/\(a₀.size<=lo\/x<=lo)/\Runs c (RK aA) (Rv aA).toList 0 lo)
  (Q:=λr aA=>ik κ a₀ aA/\r=(none,a₀.size)/\Runs c (RK aA) (Rv aA).toList 0 a₀.size) ?_ ?_ ?_) ?_)
 ·rintro x r aA _ hx ⟨hS,lo,rfl,Jn,Pl,hr⟩;dsimp only
  by_cases hl:lo >= a₀.size
  ·rw[if_pos hl];obtain rfl:lo=a₀.size:=by lia
   exact Rh ⟨hS,rfl,hr⟩
  rw[if_neg hl];refine Rb (vN O L hS (by lia) (by lia) λn b n1 n2 R Sb=>?_)
  dsimp only;have qa:ik κ a₀ (Sl aA b):=hS.set R;have mV:Runs c (RK (Sl aA b)) (Rv (Sl aA b)).toList 0 lo:=Runs.congr (b:=b) hr λk q1 q2=>R.out k (.inl q2);refine(λ(key:∀(N:Nat) (stx:RD),1<=N->lo+N<=a₀.size->Runs c (RK stx) (Rv stx).toList 0 lo->ik κ a₀ stx->SR c (RK stx) lo (lo+N)->(?G:Nat->RD->Prop) N stx)=>?main) ?key
  case main =>
   by_cases Nl:n<mr
   ·rw[if_pos Nl];refine Rb (U9 (T_ ⟨rfl,?_⟩));refine Rb (CY O L qa (by lia) (by lia) (by lia) Sb λb' R' Qg=>?_)
    rw[if_neg (by simp)]
    have Jt:1<=min (a₀.size-lo) mr:=by lia
    have LX:lo+min (a₀.size-lo) mr<=a₀.size:=by lia
    have mV:Runs c (RK (Sl (Sl aA b) b')) (Rv (Sl (Sl aA b) b')).toList 0 lo:=Runs.congr (b:=b') mV λk q1 q2=>R'.out k (.inl q2);have qa:ik κ a₀ (Sl (Sl aA b) b'):=qa.set R';have CI:SR c (RK (Sl (Sl aA b) b')) lo (lo+(min (a₀.size-lo) mr)):=Qg;generalize Sl (Sl aA b) b'=stx at mV qa CI ⊢
    generalize min (a₀.size-lo) mr=N at Jt LX CI ⊢
    exact key N stx Jt LX mV qa CI
   ·rw[if_neg Nl];have CI:SR c (RK (Sl aA b)) lo (lo+n):=Sb;exact key n _ n1 (by lia) mV qa CI
  case key =>
   intro N stx Jt LX mV qa CI;refine Rb (Uy ?_);have IK:∀(jl:RD),ik κ a₀ jl->SR c (RK jl) lo (lo+N)->Runs c (RK jl) (Rv jl).toList 0 lo->ik κ a₀ (Ub jl ((Rv jl).push (lo,N,0)))/\∃B5,((none,lo+N):Option Unit×Nat)=(none,B5)/\B5<=a₀.size/\(a₀.size<=B5\/x+1<=B5)/\Runs c (RK jl) ((Rv jl).push (lo,N,0)).toList 0 B5:=λjl g1 g2 g3 =>
    ⟨⟨g1.kind,g1.fail,g1.perm⟩,_,rfl,by lia,by lia,by rw[SN];exact g3.join ⟨rfl,Jt,g2,rfl⟩⟩
   cases hb:(Rv stx).back? with
   |none =>
    dsimp only;exact Rb (Tp (Rh (IK stx qa CI mV)))
   |some z =>
    obtain⟨s1,n1,p1⟩:=z;dsimp only;refine Rb (SJ (Sa (I:=λx r aA=>r=(none,())/\ik κ a₀ aA/\SR c (RK aA) lo (lo+N)/\Runs c (RK aA) (Rv aA).toList 0 lo)
     (Q:=λr aA=>r=(none,())/\ik κ a₀ aA/\SR c (RK aA) lo (lo+N)/\Runs c (RK aA) (Rv aA).toList 0 lo) ?_ ?_ ?_) ?_)
    ·rintro y r jl _ _ ⟨rfl,g1,g2,g3⟩;refine Rb (Uy ?_)
     by_cases HV:(Rv jl).size>1
     ·rw[if_pos HV];cases hq:(Rv jl)[(Rv jl).size-2]? with
      |none =>
       dsimp only;exact Rh ⟨rfl,g1,g2,g3⟩
      |some z =>
       obtain⟨u,v,MX⟩:=z;dsimp only
       split
       ·exact Rh ⟨rfl,g1,g2,g3⟩
       ·refine Rb (lj O L g1 g3 (by lia) (by lia) λFW f1 f2 f3 f4=>?_)
        exact Rh ⟨rfl,f1,g2.congr λk q1 q2=>f2.out k (.inr q1),f3⟩
     ·rw[if_neg HV];dsimp only;exact Rh ⟨rfl,g1,g2,g3⟩
    ·rintro r jl ⟨rfl,g1,g2,g3⟩;exact⟨rfl,g1,g2,g3⟩
    ·exact⟨rfl,qa,CI,mV⟩
    rintro r jl ⟨rfl,g1,g2,g3⟩;dsimp only;refine Rb (Tp (Rb (Tp (Rh ?_))));exact IK (Ub jl _) ⟨g1.kind,g1.fail,g1.perm⟩ g2 (g3.pow (Ab _ _ _))
 ·rintro r aA ⟨hS,lo,rfl,Jn,Pl,hr⟩;obtain rfl:lo=a₀.size:=by lia
  exact⟨hS,rfl,hr⟩
 ·exact⟨h0,0,rfl,Rr _,.inr (Q4 _),by rw[hp];rfl⟩
 rintro r aA ⟨hS,rfl,hr⟩;dsimp only;refine Rb (SJ (Sa (I:=λx r aA=>r=(none,())/\ik κ a₀ aA/\Runs c (RK aA) (Rv aA).toList 0 a₀.size/\((Rv aA).size<=1\/(Rv aA).size+x<=a₀.size))
  (Q:=λr aA=>r=(none,())/\ik κ a₀ aA/\Runs c (RK aA) (Rv aA).toList 0 a₀.size/\(Rv aA).size<=1) ?_ ?_ ?_) ?_)
 ·rintro x r eJ _ hx ⟨rfl,qa,mV,hz⟩;refine Rb (Uy ?_)
  by_cases h1:(Rv eJ).size<=1
  ·rw[if_pos h1];exact Rh ⟨rfl,qa,mV,h1⟩
  rw[if_neg h1];refine Rb (lj O L qa mV (Q4 _) ?_ λjl PH R3 O9 QH=>?_)
  ·split
   ·split <;> lia
   ·rw[if_neg (by simp)]
    lia
  ·exact Rh ⟨rfl,PH,O9,.inr (by lia)⟩
 ·rintro r eJ ⟨rfl,qa,mV,hz⟩;exact⟨rfl,qa,mV,by lia⟩
 ·refine⟨rfl,hS,hr,.inr ?_⟩;have:=hr.len;rw[Q9]at this;lia
 ·rintro r eJ ⟨rfl,qa,mV,hz⟩;refine Rh (h eJ qa ?_)
  match hq:(Rv eJ).toList,mV with
  |[],e=>
   have:(0:Nat)=a₀.size:=e;lia
  |[z],e =>
   obtain⟨e1,e2,e3,e4⟩:=e;have e4:0+z.2.1=a₀.size:=e4;rw[e4]at e3;exact e3
  |z::y::l,e =>
   have:(Rv eJ).toList.length<=1:=by rw[Q9];exact hz
   rw[hq]at this;simp at this
end
theorem lex_nil {y:List Int}:HT.lexLt [] y=decide (0<y.length):=by cases y <;> rfl
theorem gC {a b:Int}{x y:List Int}:HT.lexLt (a::x) (b::y)=if a=b then HT.lexLt x y else decide (a<b):=rfl
theorem oK:∀{x y:List Int},HT.lexLt x y=true->HT.lexLt y x=false
 |[],[],_=>rfl
 |[],_::_,_=>rfl
 |_::_,[],h=>by cases h
 |a::x,b::y,h=>by
  rw[gC]at h ⊢
  by_cases e:a=b
  ·rw[if_pos e]at h;rw[if_pos e.symm];exact oK h
  ·rw[if_neg e]at h;rw[if_neg λz=>e z.symm];have:=of_decide_eq_true h;exact decide_eq_false (by lia)
theorem sW:∀{x z:List Int} (y:List Int),HT.lexLt x z=true->HT.lexLt x y=true\/HT.lexLt y z=true
 |[],[],_,h=>by cases h
 |[],_::_,[],h=>.inr rfl
 |[],_::_,_::_,h=>.inl rfl
 |_::_,[],_,h=>by cases h
 |a::x,b::z,[],h=>.inr rfl
 |a::x,b::z,d::y,h=>by
  rw[gC]at h ⊢
  rw[gC]
  by_cases e:a=b
  ·subst e;rw[if_pos rfl]at h
   by_cases e2:a=d
   ·subst e2;rw[if_pos rfl,if_pos rfl];exact sW y h
   ·rw[if_neg e2,if_neg λq=>e2 q.symm]
    by_cases e3:a<d
    ·exact .inl (decide_eq_true e3)
    ·exact .inr (decide_eq_true (by lia))
  ·rw[if_neg e]at h;have h:=of_decide_eq_true h
   by_cases e2:a=d
   ·subst e2;rw[if_neg e];exact .inr (decide_eq_true h)
   ·rw[if_neg e2]
    by_cases e3:a<d
    ·exact .inl (decide_eq_true e3)
    ·rw[if_neg (by lia)]
     exact .inr (decide_eq_true (by lia))
def byKey (kf:QZ->List Int)(x y:Q5):Bool:=HT.lexLt (kf x.1) (kf y.1)
theorem Aq (kf:QZ->List Int):bK (byKey kf):=⟨λ_ _ h=>oK h,λ_ y _ h=>sW (kf y.1) h⟩
section
variable {prog:Q6}{w:Rl}{A:R7}{E:QZ->Q1->Prop}{s:Q1}
theorem oJ {b:Bool}{Q:Bool->Q1->Prop}:∀{ns ms:List Int} {us vs:List QZ} (i:Nat),UW us ns->UW vs ms->Q (HT.lexLt ns ms) s->PySem.W.KatLex prog w A b (decide (ns.length<ms.length)) Q (us.zip vs) i s
 |[],ms,us,vs,i,hu,hv,q=>by
  cases hu;rw[VC];rw[lex_nil]at q;exact PySem.W.kat_nil q
 |n::ns,[],us,vs,i,hu,hv,q=>by
  cases hv;rw[List.zip_nil_right];exact PySem.W.kat_nil q
 |n::ns,m::ms,us,vs,i,hu,hv,q=>by
  cases hu with
  |cons _ t hu =>
   cases hv with
   |cons _ t' hv =>
    rw[Us];refine PySem.W.kat_cons (wpAny_eqBool_int ?_);rw[gC]at q
    by_cases e:n=m
    ·subst e;rw[if_pos rfl]at q;rw[beq_self_eq_true];have:=oJ (b:=b) (Q:=Q) (i+1) hu hv q;rw[show decide ((n::ns).length<(n::ms).length)=decide (ns.length<ms.length) by rw[Rq,Rq];congr 1;simp]
     exact PySem.W.kat_yes this
    ·rw[if_neg e]at q;rw[show (n==m)=false from beq_eq_false_iff_ne.mpr e]
     refine PySem.W.kat_no ?_;cases b&&i==0 with
     |true=>exact oneLt_int q
     |false=>exact PySem.W.kat_one _ _ (lt_int q)
def lg (h:Heap)(kf:QZ->List Int)(a:Addr)(vs:List QZ):Prop :=
 ∀v∈vs,∃t o xs k,v=.ref t/\t≠a/\h.get? t=some o/\o.cls=.type "tuple" /\ o.data=.seq xs k/\UW xs.toList (kf v)/\kf v≠[]
theorem uD {kf:QZ->List Int}{a:Addr}{vs:List QZ}{b:Bool}{a₀:Array Q5}(T:lg s.heap kf a vs)(hm:∀z∈a₀.toList,z.1∈vs):eI prog w A E s (tuples' b) (byKey kf) (·∈a₀.toList):=by
 intro x y st Q hx hy hk q;obtain⟨t,o,xs,n,e1,_,e2,_,e3,e4,_⟩:=T _ (hm _ hx);obtain⟨t',o',N1,n',f1,_,f2,_,f3,f4,_⟩:=T _ (hm _ hy);rw[lt'_eq];refine Rb (Uy ?_);rw[hk,e1,f1];have z1:xs.size=(kf x.1).length:=by rw[<- Q9];exact e4.length
 have z2:N1.size=(kf y.1).length:=by rw[<- Q9];exact f4.length
 refine Rb (U9 (UB (PySem.W.kat_lt e2 e3 f2 f3 ?_)));rw[z1,z2];exact oJ 0 e4 f4 ⟨rfl,Rh q⟩
theorem jh {kf:QZ->List Int}{a:Addr}{h:Heap}:∀{vs:List QZ},lg h kf a vs->∃fs:List QZ,PySem.W.KatTups h vs fs/\fs.length=vs.length/\∀f∈fs,∃n t,f=Value.int n t
 |[],_=>⟨[],trivial,rfl,λf hf=>by cases hf⟩
 |v::vs,T=>by
  obtain⟨fs,h1,h2,h3⟩:=jh (vs:=vs) λu hu=>T u (Rt _ hu);obtain⟨t,o,xs,k,rfl,_,e2,e3,e4,e5,e6⟩:=T v Ru;obtain⟨f,r,ef,n,tk,hn⟩:∃f r,xs.toList=f::r/\∃n tk,f=Value.int n tk:=by
   generalize kf (.ref t)=ks at e5 e6;generalize xs.toList=us at e5;cases e5 with
   |nil=>exact absurd rfl e6
   |cons n tk r=>exact⟨_,_,rfl,_,_,rfl⟩
  have e:xs[0]?=some f:=by rw[<- Rm,ef];rfl
  exact⟨f::fs,PySem.W.KatTups.cons e2 e3 e4 e h1,by rw[Rq,Rq,h2],λg hg=>by
   rcases Ra.mp hg with rfl|hg
   ·exact⟨_,_,hn⟩
   ·exact h3 g hg⟩
theorem uJ {kf:QZ->List Int}{a:Addr}{vs:List QZ}{Q:TF->Q1->Prop}(T:lg s.heap kf a vs)(h0:0<vs.length)(q:Q (tuples' true) s):RA (model prog w) A (keyKind' vs.toArray) Q E s:=by
 obtain⟨fs,h1,h2,h3⟩:=jh T;refine PySem.W.kat_kind (T:=.type "int") h1 (by lia) (λv hv=>?_) (by decide) q
 obtain⟨n,t,rfl⟩:=h3 v hv;exact .now
theorem wt {α:Type}{R:α->α->Prop}:∀{l:List α},l.length<2->l.Pairwise R
 |[],_=>.nil
 |[x],_=>List.pairwise_singleton _ _
 |_::_::_,h=>by
  rw[Rq,Rq]at h;lia
theorem qS {a:Addr} {vs:List QZ} {n:Nat} {κ:TF} {c:QZ->QZ->Bool} {P:PySem.Fin->Q1->Prop} (ho:s.heap.get? a=some (S6 "list" vs.toArray n)) (hz:vs.length<=1000000) (O:bK λx y=>c x.1 y.1)
  (T:∀s':Q1,(∀t o,t≠a->s.heap.get? t=some o->s'.heap.get? t=some o)->(2<=vs.length->∀(Q:TF->Q1->Prop),Q κ s'->RA (model prog w) A (keyKind' vs.toArray) Q E s')/\eI prog w A E s' κ (λx y=>c x.1 y.1) (·∈(vs.toArray.zip vs.toArray).toList))
  (h:∀out:List QZ,out.Perm vs->out.Pairwise (λx y=>c y x=false)->P (.done (.ret .none)) {s with heap:=sortedHeap s.heap a vs out.toArray}) :
  RA (model prog w) A (S4.«list.sort» ⟨[.ref a],[]⟩) P E s:=by
 have la:a<s.heap.objs.size:=Rj ho;obtain⟨ep,hc⟩:∃ep,(s.heap.update a (Ts λ_=>#[])).get? a=some (S6 "list" #[] ep):=⟨_,get?_update_seq ho (λ_=>#[])⟩;have old:∀t o,t≠a->s.heap.get? t=some o->(((s.heap.update a (Ts λ_=>#[])).push (S6 "tuple" vs.toArray 0)).push (S6 "list" #[] 0)).get? t=some o:=λt o ht e =>
  Q8 _ (Q8 _ (by rw[Heap.get?_update_ne _ _ _ _ ht];exact e))
 have oW:(((s.heap.update a (Ts λ_=>#[])).push (S6 "tuple" vs.toArray 0)).push (S6 "list" #[] 0)).get? a=some (S6 "list" #[] ep):=Q8 _ (Q8 _ hc);have big:∀m:Nat,m<=vs.length->m<=Ri:=λm hm=>by rw[Sd];lia
 have zz:vs.toArray.size=vs.length:=by simp
 rw[list_sort_plain];refine Q0 (listItems_at ho rfl ?_);refine Q0 (listUpdate_at ho rfl ?_ (big _ (Nat.le_of_eq zz)) (Rr _));refine Q0 (seqEpoch_at hc rfl ?_);refine Q0 (wpAny_newTuple ?_ (big _ (Q4 _)));refine Q0 (wpAny_newList ?_ (Rr _));refine Sj ?_;show RA (model prog w) A _ P E {s with heap:=((s.heap.update a (Ts λ_=>#[])).push (S6 "tuple" vs.toArray 0)).push (S6 "list" #[] 0)}
 dsimp only;have done:∀aA:RD,(RK aA).Perm (vs.toArray.zip vs.toArray)->(RK aA).toList.Pairwise (le λx y=>c x.1 y.1)->P (.done (.ret .none)) {s with heap:=sortedHeap s.heap a vs ((RK aA).map (·.2))}:=λaA hp hs=>by
  have h1:∀z∈(RK aA).toList,z.1=z.2:=λz hz=>by
   have:=(Tu.mp hp).mem_iff.mp hz;rw[VL]at this;obtain⟨i,hi⟩:=Vd this;rw[List.getElem?_zip_eq_some]at hi;exact RC (hi.1.symm.trans hi.2)
  have e2:(RK aA).map (·.2)=((RK aA).toList.map (·.2)).toArray:=by
   apply Array.toList_inj.mp;rw[Array.toList_map]
  rw[e2];refine h _ ?_ ?_
  ·have:=(Tu.mp hp).map (λz:Q5=>z.2);rw[VL]at this;refine this.trans (U3 ?_);exact List.map_snd_zip (by simp)
  ·rw[Tj];refine hs.imp_of_mem λ{x y} hx hy hl=>?_;rw[<- h1 x hx,<- h1 y hy];exact hl
 by_cases h2:vs.toArray.size<2
 ·rw[if_pos h2,if_pos h2];refine Q0 (Q_ ?_);rw[StateT.run_pure];refine Q0 (Q_ ?_);dsimp only;refine Q0 (seqEpoch_at oW rfl ?_);refine Q0 (listUpdate_at oW rfl ?_ (Rr _) (by rw[V2,V1];exact R6 (big _ (by lia)) (Nat.le_succ _)))
  simp only[bne_self_eq_false,Uv,if_false];refine Q_ (done (SortSt.mk' general' (vs.toArray.zip vs.toArray) #[] 7 none) (VU _) ?_);refine wt ?_;show (vs.toArray.zip vs.toArray).toList.length<2;rw[Q9,V1];lia
 ·rw[if_neg h2,if_neg h2];obtain⟨hK,L⟩:=T {s with heap:=((s.heap.update a (Ts λ_=>#[])).push (S6 "tuple" vs.toArray 0)).push (S6 "list" #[] 0)} old
  refine Q0 (hK (by lia) _ ?_)
  have zp:(vs.toArray.zip vs.toArray).size=vs.length:=by rw[V1];lia
  refine Q0 (TQ (nz (Q:=λ_ aA=>(RK aA).Perm (vs.toArray.zip vs.toArray)/\TZ aA=none/\SR (λx y=>c x.1 y.1) (RK aA) 0 vs.length) O L
   (st:=SortSt.mk' κ (vs.toArray.zip vs.toArray) #[] 7 none) ⟨rfl,rfl,VU _⟩ rfl (by lia) λaA g1 g2=>⟨g1.perm,g1.fail,by rw[zp]at g2;exact g2⟩) ?_ λ_ _ e=>e)
  rintro⟨⟨⟩,aA⟩ s' ⟨rfl,hp,hf,hs⟩;dsimp only;have zs:(RK aA).size=vs.length:=hp.size_eq.trans zp;refine Q0 (seqEpoch_at oW rfl ?_);refine Q0 (listUpdate_at oW rfl ?_ (Rr _) (by rw[V2,zs];exact R6 (big _ (Q4 _)) (Nat.le_succ _)))
  rw[hf];simp only[bne_self_eq_false,Uv,if_false];refine Q_ (done aA hp ?_);rw[Uw];intro i j hi hj aG;rw[Q9]at hi hj;have:=hs i j (Rr _) (by lia) (by lia)
  have ei:el (RK aA) i=(RK aA).toList[i]:=tm (by rw[<- Rm];exact Rf _)
  have ej:el (RK aA) j=(RK aA).toList[j]:=tm (by rw[<- Rm];exact Rf _)
  rw[ei,ej]at this;exact this
theorem jO {a:Addr} {vs:List QZ} {n:Nat} {kf:QZ->List Int} {P:PySem.Fin->Q1->Prop} (ho:s.heap.get? a=some (S6 "list" vs.toArray n)) (hz:vs.length<=1000000) (T:lg s.heap kf a vs)
  (h:∀out:List QZ,out.Perm vs->out.Pairwise (λx y=>HT.lexLt (kf y) (kf x)=false)->P (.done (.ret .none)) {s with heap:=sortedHeap s.heap a vs out.toArray}) :
  RA (model prog w) A (S4.«list.sort» ⟨[.ref a],[]⟩) P E s:=by
 refine qS (κ:=tuples' true) (c:=λx y=>HT.lexLt (kf x) (kf y)) ho hz (Aq kf) (λs' kp=>?_) h;have T':lg s'.heap kf a vs:=λv hv=>by
  obtain⟨t,o,xs,k,e1,e2,e3,r⟩:=T v hv;exact⟨t,o,xs,k,e1,e2,kp t o e2 e3,r⟩
 exact⟨λh2 Q q=>uJ T' (by lia) q,uD T' λz hz=>by
  rw[VL]at hz;exact(U0 hz).1⟩
end
end TS
namespace ST
open PySem PyProof.Rows
section
variable {prog:Q6}{w:Rl}{A:R7}{E:QZ->Q1->Prop}{s:Q1}
abbrev TK (prog:Q6)(w:Rl):=UJ (intKind prog w)
abbrev kH (prog:Q6)(w:Rl)(k:List Int):Int:=(TK prog w).hash k
abbrev ent (prog:Q6)(w:Rl)(x:Addr×List Int):Int×QZ:=(kH prog w x.2,.ref x.1)
structure b_ (prog:Q6)(w:Rl)(o:Obj)(ts:List (Addr×List Int))(es:Array (Int×QZ))(ep:Nat)(t:SetTable):Prop where
 ex:o.ExactSet
 dat:o.data=.set es ep t
 E2:es.toList=ts.map (ent prog w)
 wf:WF t (ts.map λx=>kH prog w x.2)
 J4:t.place.size*5<t.mask*3
 B0:t.mask<=8191
 led:t.led=!w.params.followText "set-order"
 Fq:t.plain=true
 KA:(ts.map (·.2)).Nodup
def BF (prog:Q6)(w:Rl)(h:Heap)(ts:List (Addr×List Int)):Prop:=∀x∈ts,(TK prog w).is h x.2 x.1
theorem b_.fits {o:Obj}{ts:List (Addr×List Int)}{es:Array (Int×QZ)}{ep:Nat}{t:SetTable}(S:b_ prog w o ts es ep t):t.fits es.size=true:=by
 have h1:=S.wf.sz;have h2:es.size=ts.length:=by rw[<- Q9,S.E2,Q3]
 rw[Q3]at h1;unfold SetTable.fits SetTable.fill;rw[S.wf.Fy,h2,h1];have:=S.J4;simp;lia
theorem b_.size {o:Obj}{ts:List (Addr×List Int)}{es:Array (Int×QZ)}{ep:Nat}{t:SetTable}(S:b_ prog w o ts es ep t):es.size=ts.length/\t.place.size=ts.length:=by
 have h1:=S.wf.sz;rw[Q3]at h1;exact⟨by rw[<- Q9,S.E2,Q3],h1⟩
theorem u7 (d:Nat)(n:Int)(tk:Tok):ofAClassStatement d (.int n tk)=pure false:=by
 cases d <;> rfl
theorem nC {k:List Int}{b:Addr}{Q:Bool->Q1->Prop}(hk:(TK prog w).is s.heap k b)(q:Q false s):RA (model prog w) A (ofAClassStatement 8 (.ref b)) Q E s:=by
 obtain⟨o,items,n,ho,hc,hd,hi⟩:=hk;have hT:s.TypeIs (.ref b) "tuple" := ⟨o,ho,hc⟩;unfold ofAClassStatement;refine Q0 (wpAny_typeOf hT ?_);dsimp only;rw[if_pos (by rfl)]
 refine Q0 (Q_ ?_);rw[if_neg (by simp)]
 refine Q0 (wpAny_seqItems ho hd ?_);dsimp only;rw[<- Array.forIn_toList];refine Q0 (VF _ (λrest r s'=>r=(none,())/\s'=s/\∀v∈rest,∃n tk,v=Value.int n tk) _ ?_ ?_ _ _ ⟨rfl,rfl,?_⟩)
 ·rintro v rest r s' ⟨rfl,rfl,kY⟩;obtain⟨n,tk,rfl⟩:=kY v Ru;rw[u7];refine Q0 (Q_ ?_);rw[if_neg (by simp)]
  exact Q_ ⟨rfl,rfl,λu hu=>kY u (Rt _ hu)⟩
 ·rintro r s' ⟨rfl,rfl,_⟩;exact Q_ q
 ·generalize items.toList=vs at hi
  induction hi with
  |nil=>intro v hv;cases hv
  | @cons k v ks vs h1 h2 ih =>
   intro u hu;rcases Ra.mp hu with rfl|hu
   ·obtain⟨t,rfl⟩:=Vy h1;exact⟨_,_,rfl⟩
   ·exact ih u hu
theorem zB {k:List Int}{b:Addr}(hk:(TK prog w).is s.heap k b)(l:List (Addr×List Int)){Q:Bool->Q1->Prop}(T:BF prog w s.heap l)(q:Q false s):RA (model prog w) A (searchCouldBeSeen (.ref b) (l.map λx=>Value.ref x.1)) Q E s:=by
 unfold searchCouldBeSeen;refine Q0 (VF _ (λrest r s'=>r=(none,())/\s'=s/\∀v∈rest,∃x∈l,v=Value.ref x.1) _ ?_ ?_ _ _ ⟨rfl,rfl,?_⟩)
 ·rintro v rest r s' ⟨rfl,rfl,kY⟩;obtain⟨x,hx,rfl⟩:=kY v Ru;have Ci:∀v∈rest,∃x∈l,v=Value.ref x.1:=λu hu=>kY u (Rt _ hu);dsimp only
  split
  ·exact Q_ ⟨rfl,rfl,Ci⟩
  ·refine Q0 ((TK prog w).quiet hk ?_);rw[if_neg (by simp)]
   refine Q0 ((TK prog w).quiet (T x hx) ?_);rw[if_neg (by simp)]
   refine Q0 (nC hk ?_);rw[if_neg (by simp)]
   refine Q0 (nC (T x hx) ?_);rw[if_neg (by simp)]
   exact Q_ ⟨rfl,rfl,Ci⟩
 ·rintro r s' ⟨rfl,rfl,_⟩;exact Q_ q
 ·intro v hv;obtain⟨x,hx,rfl⟩:=R5.mp hv;exact⟨x,hx,rfl⟩
end
end ST
namespace L2
open PySem PySem.Spec PyProof.Rows
inductive D where
 |bB|bl (b:Bool)|int (i:Int)|str (x:Str)|obj (a:Addr)
 |tup (ds:List D)|lst (ds:List D)
 |dT (ks:List (List Key)) (ds:List D)|dK (ks:List Key) (ds:List D)
 |sT (ts:List (List Int))
 /-- one object,by what JY there -/
 |ob (φ:Addr->HO)
def Dn (P:Q6)(w:Rl)(a:Addr)(ts:List (Addr×List Int))(h:Heap):Prop:=∃o es ep t,h.get? a=some o/\ST.b_ P w o ts es ep t
abbrev BH (P:Q6)(w:Rl)(a:Addr)(ts:List (Addr×List Int)):HO:=.ext (Dn P w a ts)
def BG (P:Q6)(w:Rl)(H:Hp)(a:Addr)(ts:List (List Int)):Prop :=
 ∃cI:List (Addr×List Int),H a=some (BH P w a cI)/\(∀x∈cI,H x.1=some (.tup (x.2.map V.int)))/\(cI.map (·.2)).Perm ts
section
variable (P:Q6)(w:Rl)(W:Addr->Prop)(H:Hp)
mutual
def aw:D->V->Prop
 |.bB,v=>v=.bB
 |.bl b,v=>v=.bl b
 |.int i,v=>v=.int i
 |.str x,v=>v=.str x
 |.obj a,v=>v=.ref a
 |.tup ds,v=>∃a vs,v=.ref a/\H a=some (.tup vs)/\ag ds vs
 |.lst ds,v=>∃a vs,v=.ref a/\H a=some (.lst vs)/\¬ W a/\ag ds vs
 |.dT ks ds,v=>∃a vs,v=.ref a/\H a=some (.dT (ks.zip vs))/\ks.length=vs.length/\¬ W a/\ag ds vs
 |.dK ks ds,v=>∃a vs,v=.ref a/\H a=some (.dK (ks.zip vs))/\ks.length=vs.length/\¬ W a/\ag ds vs
 |.sT ts,v=>∃a,v=.ref a/\BG P w H a ts/\¬ W a
 |.ob φ,v=>∃a,v=.ref a/\(H a=some (φ a)/\∀xs,φ a≠.tup xs)/\¬ W a
def ag:List D->List V->Prop
 |[],vs=>vs=[]
 |d::ds,vs=>∃v r,vs=v::r/\aw d v/\ag ds r
end
end
mutual
def D.flat:D->Bool
 |.tup ds=>D.bR ds
 |.lst _=>false
 |.dT _ _=>false
 |.dK _ _=>false
 |.sT _=>false
 |.ob _=>false
 |_=>true
def D.bR:List D->Bool
 |[]=>true
 |d::ds=>D.flat d&&D.bR ds
end
structure Kp (W:Addr->Prop)(H H':Hp):Prop where
 out:∀b o,H b=some o->¬ W b->H' b=some o
 tup:∀b xs,H b=some (.tup xs)->H' b=some (.tup xs)
theorem Kp.refl {W:Addr->Prop}{H:Hp}:Kp W H H:=⟨λ_ _ e _=>e,λ_ _ e=>e⟩
theorem Kp.trans {W:Addr->Prop}{H H1 H2:Hp}(a:Kp W H H1)(b:Kp W H1 H2):Kp W H H2:=⟨λc o e n=>b.out c o (a.out c o e n) n,λc xs e=>b.tup c xs (a.tup c xs e)⟩
theorem az.kp {W:Addr->Prop}{H H':Hp}(h:az H H'):Kp W H H':=⟨λb o e _=>h b o e,λb xs e=>h b _ e⟩
theorem Kp.mono {W W':Addr->Prop}{H H':Hp}(h:Kp W H H')(s:∀a,W a->W' a):Kp W' H H':=⟨λb o e n=>h.out b o e λz=>n (s b z),h.tup⟩
section
variable {P:Q6}{w:Rl}{W W':Addr->Prop}{H H':Hp}
mutual
theorem aw.keep (k:Kp W H H'):∀{d:D} {v:V},aw P w W H d v->aw P w W H' d v
 |.bB,_,h=>h
 |.bl _,_,h=>h
 |.int _,_,h=>h
 |.str _,_,h=>h
 |.obj _,_,h=>h
 |.tup ds,_,⟨a,vs,e,t,r⟩=>⟨a,vs,e,k.tup a vs t,ag.keep k r⟩
 |.lst ds,_,⟨a,vs,e,t,n,r⟩=>⟨a,vs,e,k.out a _ t n,n,ag.keep k r⟩
 |.dT ks ds,_,⟨a,vs,e,t,l,n,r⟩=>⟨a,vs,e,k.out a _ t n,l,n,ag.keep k r⟩
 |.dK ks ds,_,⟨a,vs,e,t,l,n,r⟩=>⟨a,vs,e,k.out a _ t n,l,n,ag.keep k r⟩
 |.sT ts,_,⟨a,e,⟨cI,t,r,z⟩,n⟩=>⟨a,e,⟨cI,k.out a _ t n,λx hx=>k.tup _ _ (r x hx),z⟩,n⟩
 |.ob φ,_,⟨a,e,⟨t,z⟩,n⟩=>⟨a,e,⟨k.out a _ t n,z⟩,n⟩
theorem ag.keep (k:Kp W H H'):∀{ds:List D} {vs:List V},ag P w W H ds vs->ag P w W H' ds vs
 |[],_,h=>h
 |d::ds,_,⟨v,r,e,h1,h2⟩=>⟨v,r,e,aw.keep k h1,ag.keep k h2⟩
end
mutual
theorem aw.aP (s:∀a,W' a->W a):∀{d:D} {v:V},aw P w W H d v->aw P w W' H d v
 |.bB,_,h=>h
 |.bl _,_,h=>h
 |.int _,_,h=>h
 |.str _,_,h=>h
 |.obj _,_,h=>h
 |.tup ds,_,⟨a,vs,e,t,r⟩=>⟨a,vs,e,t,ag.aP s r⟩
 |.lst ds,_,⟨a,vs,e,t,n,r⟩=>⟨a,vs,e,t,λz=>n (s a z),ag.aP s r⟩
 |.dT ks ds,_,⟨a,vs,e,t,l,n,r⟩=>⟨a,vs,e,t,l,λz=>n (s a z),ag.aP s r⟩
 |.dK ks ds,_,⟨a,vs,e,t,l,n,r⟩=>⟨a,vs,e,t,l,λz=>n (s a z),ag.aP s r⟩
 |.sT ts,_,⟨a,e,t,n⟩=>⟨a,e,t,λz=>n (s a z)⟩
 |.ob φ,_,⟨a,e,t,n⟩=>⟨a,e,t,λz=>n (s a z)⟩
theorem ag.aP (s:∀a,W' a->W a):∀{ds:List D} {vs:List V},ag P w W H ds vs->ag P w W' H ds vs
 |[],_,h=>h
 |d::ds,_,⟨v,r,e,h1,h2⟩=>⟨v,r,e,aw.aP s h1,ag.aP s h2⟩
end
mutual
theorem aw.flat:∀{d:D} {v:V},d.flat=true->aw P w W H d v->aw P w W' H d v
 |.bB,_,_,h=>h
 |.bl _,_,_,h=>h
 |.int _,_,_,h=>h
 |.str _,_,_,h=>h
 |.obj _,_,_,h=>h
 |.tup ds,_,f,⟨a,vs,e,t,r⟩=>⟨a,vs,e,t,ag.flat (by simpa[D.flat] using f) r⟩
 |.lst ds,_,f,_=>by simp[D.flat]at f
 |.dT ks ds,_,f,_=>by simp[D.flat]at f
 |.dK ks ds,_,f,_=>by simp[D.flat]at f
 |.sT ts,_,f,_=>by simp[D.flat]at f
 |.ob φ,_,f,_=>by simp[D.flat]at f
theorem ag.flat:∀{ds:List D} {vs:List V},D.bR ds=true->ag P w W H ds vs->ag P w W' H ds vs
 |[],_,_,h=>h
 |d::ds,_,f,⟨v,r,e,h1,h2⟩=>by
  have f':(d.flat&&D.bR ds)=true:=f;rw[RZ]at f';exact⟨v,r,e,aw.flat f'.1 h1,ag.flat f'.2 h2⟩
end
theorem aw.same (s:az H H'){d:D}{v:V}(h:aw P w W H d v):aw P w W H' d v:=h.keep s.kp
theorem ag.same (s:az H H'){ds:List D}{vs:List V}(h:ag P w W H ds vs):ag P w W H' ds vs:=h.keep s.kp
theorem ag.length:∀{ds:List D} {vs:List V},ag P w W H ds vs->vs.length=ds.length
 |[],_,h=>by rw[show _=[] from h];rfl
 |d::ds,_,⟨v,r,e,h1,h2⟩=>by rw[e,Rq,Rq,ag.length h2]
theorem ag.get:∀{ds:List D} {vs:List V} {i:Nat} {d:D},ag P w W H ds vs->ds[i]?=some d->∃v,vs[i]?=some v/\aw P w W H d v
 |[],_,_,_,_,e=>by simp at e
 |d::ds,_,0,_,⟨v,r,e,h1,h2⟩,e'=>by simp at e';subst e' e;exact⟨v,by simp,h1⟩
 |d::ds,_,i+1,_,⟨v,r,e,h1,h2⟩,e'=>by
  subst e;obtain⟨u,e1,e2⟩:=ag.get (i:=i) h2 (by simpa using e')
  exact⟨u,by simpa using e1,e2⟩
theorem ag.append:∀{ds ds':List D} {vs vs':List V},ag P w W H ds vs->ag P w W H ds' vs'->ag P w W H (ds++ds') (vs++vs')
 |[],_,_,_,h,h'=>by rw[show _=[] from h];exact h'
 |d::ds,_,_,_,⟨v,r,e,h1,h2⟩,h'=>by subst e;exact⟨v,_,rfl,h1,ag.append h2 h'⟩
theorem ag.one {d:D}{v:V}(h:aw P w W H d v):ag P w W H [d] [v]:=⟨v,[],rfl,h,rfl⟩
theorem ag.take:∀{ds:List D} {vs:List V} (n:Nat),ag P w W H ds vs->ag P w W H (ds.take n) (vs.take n)
 |[],_,n,h=>by rw[show _=[] from h];simp[ag]
 |d::ds,_,0,_=>by simp[ag]
 |d::ds,_,n+1,⟨v,r,e,h1,h2⟩=>by subst e;exact⟨v,_,rfl,h1,ag.take n h2⟩
theorem ag.drop:∀{ds:List D} {vs:List V} (n:Nat),ag P w W H ds vs->ag P w W H (ds.drop n) (vs.drop n)
 |[],_,n,h=>by rw[show _=[] from h];simp[ag]
 |d::ds,_,0,h=>h
 |d::ds,_,n+1,⟨v,r,e,h1,h2⟩=>by subst e;exact ag.drop n h2
end
open PySem.SeqAt
abbrev Dm (W:Addr->Prop)(H:Hp):Prop:=∀a,W a->H a≠none
abbrev Rp (X:Cx)(W:Addr->Prop)(H:Hp)(d:D)(v:V):Prop:=aw X.prog X.w W H d v
abbrev qc (X:Cx)(W:Addr->Prop)(H:Hp)(ds:List D)(vs:List V):Prop:=ag X.prog X.w W H ds vs
def MQ (X:Cx)(f:D->Option D):V->Hp->VK->Prop:=λx H Q=>∃W d1 d,Dm W H/\Rp X W H d1 x/\f d1=some d/\∀v H',az H H'->Rp X W H' d v->Q v H'
def MP (X:Cx)(f:D->D->Option D):R2:=λx y H Q=>∃W d1 d2 d,Dm W H/\Rp X W H d1 x/\Rp X W H d2 y/\f d1 d2=some d/\∀v H',az H H'->Rp X W H' d v->Q v H'
def Ox (X:Cx)(f:List D->Option D):List V->Hp->VK->Prop:=λxs H Q=>∃W ds d,Dm W H/\qc X W H ds xs/\f ds=some d/\∀v H',az H H'->Rp X W H' d v->Q v H'
abbrev b8 (X:Cx)(f:QZ->QZ->Sem QZ)(g:D->D->Option D):Prop:=gL X f (MP X g)
abbrev dC (X:Cx)(f:QZ)(g:List D->Option D):Prop:=eR X f (Ox X g)
section
variable {X:Cx}{W:Addr->Prop}{H:Hp}
theorem sU {p:Addr}(d:Dm W H)(n:H p=none):¬ W p:=λz=>d p z n
theorem Rp.g7 {p:Addr}{vs:List V}{ds:List D}(d:Dm W H)(n:H p=none)(r:qc X W H ds vs):Rp X W (upd H p (.lst vs)) (.lst ds) (.ref p) :=
 ⟨p,vs,rfl,ao,sU d n,r.same (az.new n)⟩
end
def D.Eo:D->Option Int
 |.int i=>some i
 |_=>none
def D.En:D->Option (List D)
 |.lst a=>some a
 |_=>none
def D.G2:D->Option (List D)
 |.tup a=>some a
 |_=>none
def D.zh:D->Bool
 |.bB=>true
 |_=>false
theorem D.gF {d:D}{i:Int}(h:d.Eo=some i):d=.int i:=by cases d <;> first|(cases h;rfl)|cases h
theorem D.jT {d:D}{i:List D}(h:d.En=some i):d=.lst i:=by cases d <;> first|(cases h;rfl)|cases h
theorem D.xR {d:D}{i:List D}(h:d.G2=some i):d=.tup i:=by cases d <;> first|(cases h;rfl)|cases h
theorem D.oP {d:D}(h:d.zh=true):d=.bB:=by cases d <;> first|rfl|cases h
theorem D.AW {d:D}:d=.bB↔d.zh=true:=⟨λe=>by rw[e];rfl,D.oP⟩
def mS (f:Int->Int->Option D)(a b:D):Option D:=match a.Eo,b.Eo with
 |some i,some j=>f i j
 |_,_=>none
theorem hX {f:Int->Int->Option D}{a b d:D}(h:mS f a b=some d):∃i j,a=.int i/\b=.int j/\f i j=some d:=by
 unfold mS at h;cases ha:a.Eo with
 |none=>rw[ha]at h;cases h
 |some i =>
  cases hb:b.Eo with
  |none=>rw[ha,hb]at h;cases h
  |some j=>rw[ha,hb]at h;exact⟨i,j,D.gF ha,D.gF hb,h⟩
def Ea (f:D->D->Option D)(g:List D->List D->Option D)(a b:D):Option D:=match a.En,b.En with
 |some i,some j=>g i j
 |_,_=>f a b
theorem uF {f:D->D->Option D}{g:List D->List D->Option D}{a b d:D}(h:Ea f g a b=some d):(∃i j,a=.lst i/\b=.lst j/\g i j=some d)\/f a b=some d:=by
 unfold Ea at h;cases ha:a.En with
 |none=>rw[ha]at h;exact .inr h
 |some i =>
  cases hb:b.En with
  |none=>rw[ha,hb]at h;exact .inr h
  |some j=>rw[ha,hb]at h;exact .inl ⟨i,j,D.jT ha,D.jT hb,h⟩
def E5:D->D->Option D:=Ea (mS λi j=>some (.int (i+j))) λa b=>if a.length+b.length<=Ri then some (.lst (a++b)) else none
def Mb:D->D->Option D:=mS λi j=>some (.int (i-j))
instance (i j:Int):Decidable (zd i j):=by unfold zd;infer_instance
instance (i j:Int):Decidable (rT i j):=by unfold rT;infer_instance
def IA:D->D->Option D:=mS λi j=>if 0<j then some (.int (i % j)) else none
def Iy:D->D->Option D:=mS λi j=>if rT i j then some (.int (i ^ j.toNat)) else none
def Mc:D->Option D
 |.int i=>some (.int (-i))
 |_=>none
section
variable {X:Cx}
theorem eE {c:Prop}[Decidable c]{α:Type}{a b:α}(h:(if c then some a else none)=some b):c/\b=a:=by
 by_cases hc:c
 ·rw[if_pos hc]at h;cases h;exact⟨hc,rfl⟩
 ·rw[if_neg hc]at h;cases h
theorem BW {f:QZ->QZ->Sem QZ}{C:Int->Int->Prop}{g:Int->Int->V}{h:Int->Int->D}{F:Int->Int->Option D}(ho:gL X f (rI C g))(hF:∀i j d,F i j=some d->C i j/\d=h i j)
  (hg:∀(W:Addr->Prop) (H:Hp) i j,Rp X W H (h i j) (g i j)):b8 X f (mS F):=by
 intro pins s σ H x y v u Q I rx ry hh;obtain⟨W,d1,d2,d,hd,r1,r2,e,q⟩:=hh;obtain⟨i,j,rfl,rfl,e⟩:=hX e;obtain⟨c,rfl⟩:=hF _ _ _ e;cases r1;cases r2;exact ho pins s σ H _ _ v u Q I rx ry ⟨i,j,rfl,rfl,c,q _ _ (az.refl _) (hg W H i j)⟩
theorem xk {f:QZ->QZ->Sem QZ}{g:Int->Int->V}{h:Int->Int->D}(ho:gL X f (zY g))
  (hg:∀(W:Addr->Prop) (H:Hp) i j,Rp X W H (h i j) (g i j)):b8 X f (mS λi j=>some (h i j)):=by
 intro pins s σ H x y v u Q I rx ry hh;obtain⟨W,d1,d2,d,hd,r1,r2,e,q⟩:=hh;obtain⟨i,j,rfl,rfl,e⟩:=hX e;cases e;cases r1;cases r2;exact ho pins s σ H _ _ v u Q I rx ry ⟨i,j,rfl,rfl,q _ _ (az.refl _) (hg W H i j)⟩
theorem bu:b8 X (Tq .Sub) Mb:=xk (h:=λi j=>.int (i-j)) xh λ_ _ _ _=>rfl
theorem Au:b8 X (Tq .Mod) IA:=BW (h:=λi j=>.int (i % j)) jH (λ_ _ _ e=>eE e) λ_ _ _ _=>rfl
theorem As:b8 X (Tq .Pow) Iy:=BW (h:=λi j=>.int (i ^ j.toNat)) jG (λ_ _ _ e=>eE e) λ_ _ _ _=>rfl
theorem dk:II X (unaryOp .USub) (MQ X Mc):=by
 intro pins s σ H x v Q I rx h;obtain⟨W,d1,d,hd,r1,e,q⟩:=h;cases d1 with
 |int i=>cases e;cases r1;exact vQ pins s σ H _ v Q I rx ⟨i,rfl,q _ _ (az.refl _) rfl⟩
 |_=>cases e
end
def Bx (p:Int->Int->Bool):D->D->Option D:=mS λi j=>some (.bl (p i j))
abbrev P_:D->D->Option D:=Bx λi j=>decide (i<j)
abbrev Qa:D->D->Option D:=Bx λi j=>decide (i<=j)
abbrev tE:D->D->Option D:=Bx λi j=>decide (j<i)
section
variable {X:Cx}
theorem mJ {p:Int->Int->Bool}{f:QZ->QZ->Sem QZ}(ho:gL X f (zY λi j=>.bl (p i j))):b8 X f (Bx p):=xk (h:=λi j=>.bl (p i j)) ho λ_ _ _ _=>rfl
theorem mI:b8 X (Sk .Lt) P_:=mJ Gm
theorem qN:b8 X (Sk .LtE) Qa:=mJ Gn
theorem xl:b8 X (Sk .Gt) tE:=mJ BV
end
mutual
def D.pd:D->PyData
 |.bB=>.none
 |.bl b=>.bool b
 |.int i=>.int i
 |.str x=>.str x
 |.tup ds=>.tuple (D.pY ds)
 |.lst ds=>.list (D.pY ds)
 |_=>.dict []
def D.pY:List D->List PyData
 |[]=>[]
 |d::ds=>d.pd::D.pY ds
end
abbrev D.wq (d:D):Bool:=shaped d.pd
mutual
theorem fc {X:Cx}{pins:List (Addr×Obj)}{σ:St}{H:Hp}{s:Q1}(I:Inv X pins σ H s){W:Addr->Prop}:∀{d:D} {v:V} {u:QZ},Rp X W H d v->RelV v u->d.pd.canLay0=true->∃as,Reads s.heap u d.pd as
 |.bB,_,_,h,r,_=>by cases h;cases r;exact⟨_,.none⟩
 |.bl b,_,_,h,r,_=>by cases h;cases r;exact⟨_,.bool b⟩
 |.int i,_,_,h,r,_=>by cases h;obtain⟨t,rfl⟩:=r;exact⟨_,.int i t⟩
 |.str x,_,_,h,r,_=>by cases h;obtain⟨t,rfl⟩:=r;exact⟨_,.str x t⟩
 |.tup ds,_,_,h,r,c=>by
  obtain⟨a,vs,rfl,e,q⟩:=h;cases r;obtain⟨its,rv,⟨o,ho,hc,n,hd⟩,hz⟩:=I.tuple (vi.of e);obtain⟨as,ha⟩:=fe I q rv (by simpa[D.pd,SK] using c)
  exact⟨_,.tuple ho hc hd (by simpa using ha)⟩
 |.lst ds,_,_,h,r,c=>by
  obtain⟨a,vs,rfl,e,_,q⟩:=h;cases r;obtain⟨z,its,n,rv,e'⟩:=I.bj a _ e;obtain⟨as,ha⟩:=fe I q rv (by simpa[D.pd,SK] using c)
  exact⟨_,.list e' rfl rfl (by simpa using ha)⟩
 |.obj _,_,_,_,_,c=>by simp[D.pd,SK]at c
 |.dT _ _,_,_,_,_,c=>by simp[D.pd,SK]at c
 |.dK _ _,_,_,_,_,c=>by simp[D.pd,SK]at c
 |.sT _,_,_,_,_,c=>by simp[D.pd,SK]at c
 |.ob _,_,_,_,_,c=>by simp[D.pd,SK]at c
theorem fe {X:Cx}{pins:List (Addr×Obj)}{σ:St}{H:Hp}{s:Q1}(I:Inv X pins σ H s){W:Addr->Prop}:∀{ds:List D} {vs:List V} {us:List QZ},qc X W H ds vs->Vals vs us->T3 (D.pY ds)=true->∃as,ReadsAll s.heap us (D.pY ds) as
 |[],_,_,h,r,_=>by
  rw[show _=[] from h]at r
  cases r;exact⟨_,.nil⟩
 |d::ds,_,_,⟨v,vr,e,h1,h2⟩,r,c=>by
  subst e;have c':(d.pd.canLay0&&T3 (D.pY ds))=true:=c;rw[RZ]at c';cases r with
  |cons r1 r2 =>
   obtain⟨as,ha⟩:=fc I h1 r1 c'.1;obtain⟨bs,hb⟩:=fe I h2 r2 c'.2;exact⟨_,.cons ha hb⟩
end
def Jw (a b:D):Option D:=if a.wq=true/\b.wq=true then some (.bl (Tr a.pd b.pd)) else none
def Ct (a b:D):Option D:=if a.wq=true/\b.wq=true then some (.bl (!Tr a.pd b.pd)) else none
section
variable {X:Cx}
theorem dE (hu:X.A.units+64<Um):b8 X (Sk .Eq) Jw:=by
 intro pins s σ H x y v u Q I rx ry h;obtain⟨W,d1,d2,d,hd,r1,r2,e,q⟩:=h;obtain⟨⟨s1,s2⟩,rfl⟩:=eE e;obtain⟨as,ra⟩:=fc I r1 rx (UL s1);obtain⟨bs,rb⟩:=fc I r2 ry (UL s2);exact compareEq_shaped ra rb s1 s2 hu ⟨.bl _,H,I,rfl,q _ _ (az.refl _) rfl⟩
theorem jI (hu:X.A.units+64<Um):b8 X (Sk .NotEq) Ct:=by
 intro pins s σ H x y v u Q I rx ry h;obtain⟨W,d1,d2,d,hd,r1,r2,e,q⟩:=h;obtain⟨⟨s1,s2⟩,rfl⟩:=eE e;obtain⟨as,ra⟩:=fc I r1 rx (UL s1);obtain⟨bs,rb⟩:=fc I r2 ry (UL s2);exact compareNe_shaped ra rb s1 s2 hu ⟨.bl _,H,I,rfl,q _ _ (az.refl _) rfl⟩
def Md (a b:D):Option D:=match b.zh with
 |true=>some (.bl a.zh)
 |false=>none
def Iz (a b:D):Option D:=match b.zh with
 |true=>some (.bl (!a.zh))
 |false=>none
theorem Rp.AG {W:Addr->Prop}{H:Hp}{d:D}{v:V}(h:Rp X W H d v):v=.bB↔d=.bB:=by
 cases d with
 |bB=>cases h;simp
 |bl b=>cases h;simp
 |int i=>cases h;simp
 |str x=>cases h;simp
 |obj a=>cases h;simp
 |tup ds=>obtain⟨a,vs,rfl,_⟩:=h;simp
 |lst ds=>obtain⟨a,vs,rfl,_⟩:=h;simp
 |dT ks ds=>obtain⟨a,vs,rfl,_⟩:=h;simp
 |dK ks ds=>obtain⟨a,vs,rfl,_⟩:=h;simp
 |sT ts=>obtain⟨a,rfl,_⟩:=h;simp
 |ob φ=>obtain⟨a,rfl,_⟩:=h;simp
theorem oQ {b d e:D}(h:(match b.zh with|true=>some d|false=>none)=some e):b=.bB/\e=d:=by
 cases q:b.zh with
 |true=>rw[q]at h;cases h;exact⟨D.oP q,rfl⟩
 |false=>rw[q]at h;cases h
theorem Rp.sS {W:Addr->Prop}{H:Hp}{d:D}{v:V}(h:Rp X W H d v):decide (v=.bB)=d.zh:=by
 have q:=h.AG.trans D.AW;cases e:d.zh with
 |true=>exact decide_eq_true (q.mpr e)
 |false=>exact decide_eq_false λz=>by rw[q.mp z]at e;cases e
theorem sP:b8 X (Sk .Is) Md:=by
 intro pins s σ H x y v u Q I rx ry h;obtain⟨W,d1,d2,d,hd,r1,r2,e,q⟩:=h;obtain⟨rfl,rfl⟩:=oQ e;cases r2;exact DK pins s σ H _ _ v u Q I rx ry ⟨rfl,q _ _ (az.refl _) (congrArg V.bl r1.sS)⟩
theorem xj:b8 X (Sk .IsNot) Iz:=by
 intro pins s σ H x y v u Q I rx ry h;obtain⟨W,d1,d2,d,hd,r1,r2,e,q⟩:=h;obtain⟨rfl,rfl⟩:=oQ e;cases r2;exact Ar pins s σ H _ _ v u Q I rx ry ⟨rfl,q _ _ (az.refl _) (congrArg (λb=>V.bl (!b)) r1.sS)⟩
end
section
variable {X:Cx}
def vz (a b:D):Option D:=match b.Eo with
 |some i=>match a.En with
  |some ds=>ng ds i
  |none=>match a.G2 with
   |some ds=>ng ds i
   |none=>none
 |none=>none
theorem yF {a b d:D}(h:vz a b=some d):∃ds i,(a=.lst ds\/a=.tup ds)/\b=.int i/\ng ds i=some d:=by
 unfold vz at h;cases hb:b.Eo with
 |none=>rw[hb]at h;cases h
 |some i =>
  rw[hb]at h;cases ha:a.En with
  |some ds=>rw[ha]at h;exact⟨ds,i,.inl (D.jT ha),D.gF hb,h⟩
  |none =>
   rw[ha]at h;cases ht:a.G2 with
   |some ds=>rw[ht]at h;exact⟨ds,i,.inr (D.xR ht),D.gF hb,h⟩
   |none=>rw[ht]at h;cases h
theorem qc.ng {W:Addr->Prop}{H:Hp}{ds:List D}{vs:List V}{i:Int}{d:D}(h:qc X W H ds vs)(e:L2.ng ds i=some d):∃v,L2.ng vs i=some v/\Rp X W H d v:=by
 unfold L2.ng at *
 rw[h.length];cases q:zg ds.length i with
 |none=>rw[q]at e;cases e
 |some j =>
  rw[q]at e;exact ag.get h e
theorem Em:CM X (MP X vz):=by
 intro value slice pins s σ H x y v u Q I rx ry h hs;obtain⟨W,d1,d2,d,hd,r1,r2,e,q⟩:=h;obtain⟨ds,i,h,rfl,e⟩:=yF e;cases r2;rcases h with rfl|rfl
 ·obtain⟨p,vs,rfl,h1,n1,q1⟩:=r1;obtain⟨z,hz,rz⟩:=qc.ng (X:=X) q1 e;exact eC value slice pins s σ H _ _ v u Q I rx ry ⟨p,vs,i,z,rfl,rfl,dg.of h1,hz,q _ _ (az.refl _) rz⟩ hs
 ·obtain⟨p,vs,rfl,h1,q1⟩:=r1;obtain⟨z,hz,rz⟩:=qc.ng (X:=X) q1 e;exact xO value slice pins s σ H _ _ v u Q I rx ry ⟨p,vs,i,z,rfl,rfl,vi.of h1,hz,q _ _ (az.refl _) rz⟩ hs
def cutD (xs:List D)(lo hi:Option Int):List D:=(xs.drop (HT.jw xs.length 0 lo)).take (HT.jw xs.length xs.length hi-HT.jw xs.length 0 lo)
def NP:D->Option Int->Option Int->Option D
 |.lst ds,lo,hi=>some (.lst (cutD ds lo hi))
 |_,_,_=>none
def dList:List D->Option D
 |[.lst ds]=>some (.lst ds)
 |[.tup ds]=>some (.lst ds)
 |_=>none
def IC:List D->Option D
 |[.int i,.int j]=>some (.int (if j>i then j else i))
 |_=>none
def IB:List D->Option D
 |[.int i,.int j]=>some (.int (if j<i then j else i))
 |_=>none
theorem tK {W:Addr->Prop}{H:Hp}{a b:D}{xs:List V}(h:qc X W H [a,b] xs):∃x y,xs=[x,y]/\Rp X W H a x/\Rp X W H b y:=by
 obtain⟨x,r,rfl,hx,y,r',rfl,hy,hr⟩:=h;cases hr;exact⟨x,y,rfl,hx,hy⟩
theorem kq {W:Addr->Prop}{H:Hp}{a:D}{xs:List V}(h:qc X W H [a] xs):∃x,xs=[x]/\Rp X W H a x:=by
 obtain⟨x,r,rfl,hx,hr⟩:=h;cases hr;exact⟨x,rfl,hx⟩
theorem rM (hc:X.calm=true):dC X (.builtin "max") IC:=by
 intro pins s σ H xs us Q I r h;obtain⟨W,ds,d,hd,r1,e,q⟩:=h
 match ds,e with
 |[.int i,.int j],e =>
  cases e;obtain⟨x,y,rfl,hx,hy⟩:=tK r1;cases hx;cases hy;exact l7 hc pins s σ H _ us Q I r ⟨i,j,rfl,q _ _ (az.refl _) rfl⟩
theorem gf (hc:X.calm=true):dC X (.builtin "min") IB:=by
 intro pins s σ H xs us Q I r h;obtain⟨W,ds,d,hd,r1,e,q⟩:=h
 match ds,e with
 |[.int i,.int j],e =>
  cases e;obtain⟨x,y,rfl,hx,hy⟩:=tK r1;cases hx;cases hy;exact u_ hc pins s σ H _ us Q I r ⟨i,j,rfl,q _ _ (az.refl _) rfl⟩
def Me:List D->Option D
 |[.int i]=>some (.int i)
 |[.bl k]=>some (.int (if k then 1 else 0))
 |_=>none
theorem ve:dC X (.type "int") Me:=by
 intro pins s σ H xs us Q I r h;obtain⟨W,ds,d,hd,r1,e,q⟩:=h
 match ds,e with
 |[.int i],e =>
  cases e;obtain⟨x,rfl,hx⟩:=kq r1;cases hx;exact ic pins s σ H _ us Q I r (.inl ⟨i,rfl,q _ _ (az.refl _) rfl⟩)
 |[.bl k],e =>
  cases e;obtain⟨x,rfl,hx⟩:=kq r1;cases hx;exact ic pins s σ H _ us Q I r (.inr ⟨k,rfl,q _ _ (az.refl _) rfl⟩)
end
theorem PE.pre {X:Cx}{e:Expr}{t t':TE}(h:PE X e t)(k:∀σ H Q,t' σ H Q->t σ H Q):PE X e t':=λpins s σ H Q I q=>h pins s σ H Q I (k σ H Q q)
theorem PT.pre {X:Cx}{e:Expr}{t t':TT}(h:PT X e t)(k:∀σ H Q,t' σ H Q->t σ H Q):PT X e t':=λpins s σ H Q I q=>h pins s σ H Q I (k σ H Q q)
theorem PA.pre {X:Cx}{es:List Expr}{t t':TA}(h:PA X es t)(k:∀σ H Q,t' σ H Q->t σ H Q):PA X es t':=λpos pins s σ H Q I q=>h pos pins s σ H Q I (k σ H Q q)
section
variable {X:Cx}{e:Expr}{σ:St}{H:Hp}
theorem PW.pre {t t':TT}(h:PW X e t)(k:∀σ H Q,t' σ H Q->t σ H Q):PW X e t':=λw pins s σ H Q I q=>h w pins s σ H Q I (k σ H Q q)
end
abbrev FD:=List D->(D->Prop)->Prop
def dS (F:FD):Prop:=∀ds R R',(∀d,R d->R' d)->F ds R->F ds R'
section
end
section
variable {X:Cx}{e:Expr}{pos:Pos}{σ:St}{H:Hp}
theorem Fi.pre {ops:List Uu}{rs:List Expr}{t t':V->TE}(h:Fi X ops rs t)(k:∀x σ H Q,t' x σ H Q->t x σ H Q):Fi X ops rs t':=λpos pins s σ H x v Q I r q=>h pos pins s σ H x v Q I r (k x σ H Q q)
theorem pV.pre {ops:List Uu}{rs:List Expr}{t t':V->TT}(h:pV X ops rs t)(k:∀x σ H Q,t' x σ H Q->t x σ H Q):pV X ops rs t':=λpos pins s σ H x v Q I r q=>h pos pins s σ H x v Q I r (k x σ H Q q)
theorem PO.pre {e:Option Expr}{t t':TO}(h:PO X e t)(k:∀σ H Q,t' σ H Q->t σ H Q):PO X e t':=λpins s σ H Q I q=>h pins s σ H Q I (k σ H Q q)
end
abbrev NF:D->Prop:=λd=>d.flat=true
section
abbrev NL:D->Prop:=λd=>match d with | .lst ds=>D.bR ds=true|d=>d.flat=true
end
section
variable {P:Q6}{w:Rl}{W W':Addr->Prop}{H:Hp}
mutual
theorem aw.grow (s:∀a,W' a->W a\/H a=none):∀{d:D} {v:V},aw P w W H d v->aw P w W' H d v
 |.bB,_,h=>h
 |.bl _,_,h=>h
 |.int _,_,h=>h
 |.str _,_,h=>h
 |.obj _,_,h=>h
 |.tup ds,_,⟨a,vs,e,t,r⟩=>⟨a,vs,e,t,ag.grow s r⟩
 |.lst ds,_,⟨a,vs,e,t,n,r⟩=>⟨a,vs,e,t,λz=>(s a z).elim n λq=>(by rw[t]at q;cases q),ag.grow s r⟩
 |.dT ks ds,_,⟨a,vs,e,t,l,n,r⟩=>⟨a,vs,e,t,l,λz=>(s a z).elim n λq=>(by rw[t]at q;cases q),ag.grow s r⟩
 |.dK ks ds,_,⟨a,vs,e,t,l,n,r⟩=>⟨a,vs,e,t,l,λz=>(s a z).elim n λq=>(by rw[t]at q;cases q),ag.grow s r⟩
 |.sT ts,_,⟨a,e,⟨cI,t,r,z⟩,n⟩=>⟨a,e,⟨cI,t,r,z⟩,λz=>(s a z).elim n λq=>(by rw[t]at q;cases q)⟩
 |.ob φ,_,⟨a,e,⟨t,z⟩,n⟩=>⟨a,e,⟨t,z⟩,λz=>(s a z).elim n λq=>(by rw[t]at q;cases q)⟩
theorem ag.grow (s:∀a,W' a->W a\/H a=none):∀{ds:List D} {vs:List V},ag P w W H ds vs->ag P w W' H ds vs
 |[],_,h=>h
 |d::ds,_,⟨v,r,e,h1,h2⟩=>⟨v,r,e,aw.grow s h1,ag.grow s h2⟩
end
end
def Qh (X:Cx)(W:Addr->Prop)(J:It)(ds:List D)(H0:Hp):Prop:=∀(i:Nat) (H:Hp),Kp W H0 H ->
 (∀d,ds[i]?=some d->J.go i H/\∀x H1,J.FE i H x H1->az H H1/\Rp X W H1 d x)/\(ds.length<=i->J.stop i H)
def zw (X:Cx)(W:Addr->Prop)(J:It)(ds:List D)(H0:Hp):Prop:=∀W':Addr->Prop,(∀b,W' b->W b\/H0 b=none)->Qh X W' J ds H0
section
variable {X:Cx}{tg e:Expr}
theorem PI.pre {iter:Expr}{t t':TI}(h:PI X tg iter t)(k:∀σ H R,t' σ H R->t σ H R):PI X tg iter t':=λpins s σ H R I q=>h pins s σ H R I (k σ H R q)
theorem oO {W:Addr->Prop}{H:Hp}{p:Addr}{vs:List V}{ds:List D}(h1:H p=some (.lst vs))(n1:¬ W p)(q1:qc X W H ds vs):zw X W (JE X.K p) ds H:=λW' hW i H' k=>by
 have h2:=k.out p _ h1 λz=>(hW p z).elim n1 λq=>by rw[h1]at q;cases q
 replace q1:=ag.grow hW q1;constructor
 ·intro d hd;obtain⟨v,hv,rv⟩:=ag.get q1 hd;refine⟨⟨vs,v,dg.of h2,hv⟩,λx H1 y=>?_⟩;obtain⟨rfl,y⟩:=y;have e:=y vs (dg.of h2);rw[hv]at e;cases e;exact⟨az.refl _,rv.keep k⟩
 ·intro hl;exact⟨vs,dg.of h2,by rw[q1.length];exact hl⟩
def mG (lo:Int)(n:Nat):List D:=(Rz n).map λ(k:Nat)=>D.int (lo+(k:Int))
theorem hV {W:Addr->Prop}{H:Hp}{lo:Int}{n:Nat}:zw X W (IP lo n) (mG lo n) H:=λ_ _ i H' k=>by
 constructor
 ·intro d hd;unfold mG at hd;rw[Rn]at hd;have hi:i<n:=by
   by_cases h:i<n
   ·exact h
   ·rw[Sz (by simpa using h)]at hd;cases hd
  rw[SO hi]at hd;cases hd;refine⟨hi,λx H1 y=>?_⟩;obtain⟨rfl,rfl⟩:=y;exact⟨az.refl _,rfl⟩
 ·intro hl;unfold mG at hl;rw[Q3,Sg]at hl;exact hl
end
section
variable {X:Cx}{tg:Expr}{tS:List Expr}
theorem PG.pre {t t':TG}(h:PG X tg t)(k:∀v σ H Q,t' v σ H Q->t v σ H Q):PG X tg t':=λpins s σ H v u Q I r q=>h pins s σ H v u Q I r (k v σ H Q q)
theorem CK.pre {t t':CH}(h:CK X tS t)(k:∀v σ H Q,t' v σ H Q->t v σ H Q):CK X tS t':=λpins s σ H v u Q I r q=>h pins s σ H v u Q I r (k v σ H Q q)
end
theorem jQ {H:Hp}{a:Addr}{o o':HO}(h:H a=some o)(ht:∀xs,o≠.tup xs):Kp (·=a) H (upd H a o') :=
 ⟨λb u e n=>by rw[ak n];exact e,λb xs e=>by rw[ak (BY e h (λz=>ht xs z.symm))];exact e⟩
section
end
section
end
section
end
section
variable {σ:St}{β:aX}{own:Nat->List Addr}
def aJ (own:Nat->List Addr)(i:Nat)(as:List Addr):Nat->List Addr:=λj=>if j=i then as else own j
theorem a5 {own:Nat->List Addr}{i j:Nat}{a:Addr}(h:a∈aJ own i [] j):a∈own j/\j≠i:=by
 unfold aJ at h
 by_cases e:j=i
 ·rw[if_pos e]at h;cases h
 ·rw[if_neg e]at h;exact⟨h,e⟩
theorem aU {α:Type}{β:List α}{i j:Nat}{x:α}(h:i≠j):(β.set i x)[j]?=β[j]?:=by rw[Tn,if_neg h]
theorem aZ {α:Type}{β:List α}{i:Nat}{x y:α}(h:(β.set i x)[i]?=some y):y=x/\i<β.length:=by
 rw[Tn,if_pos rfl]at h
 by_cases hi:i<β.length
 ·rw[if_pos hi]at h;cases h;exact⟨rfl,hi⟩
 ·rw[if_neg hi]at h;cases h
theorem get_set {α:Type}{σ:List α}{i:Nat}{x:α}(h:i<σ.length):(σ.set i x)[i]?=some x:=by rw[Tn,if_pos rfl,if_pos h]
end
structure Sn (Z:Hp×(Addr->Prop))(H:Hp)(W:Addr->Prop):Prop where
 w:∀b,W b->Z.2 b\/Z.1 b=none
 k:Kp (λb=>Z.2 b\/Z.1 b=none) Z.1 H
 d:∀b,Z.1 b≠none->H b≠none
theorem Sn.refl {H:Hp}{W:Addr->Prop}:Sn (H,W) H W:=⟨λ_ z=>.inl z,Kp.refl,λ_ z=>z⟩
theorem Sn.same {Z:Hp×(Addr->Prop)}{H H':Hp}{W:Addr->Prop}(n:Sn Z H W)(s:az H H'):Sn Z H' W:=⟨n.w,n.k.trans s.kp,λb z e=>n.d b z (s.free e)⟩
theorem Sn.free {Z:Hp×(Addr->Prop)}{H:Hp}{W:Addr->Prop}(n:Sn Z H W){a:Addr}(h:H a=none):Z.1 a=none:=by
 cases q:Z.1 a with
 |none=>rfl
 |some o=>exact absurd h (n.d a (by rw[q];intro z;cases z))
theorem Sn.upd {Z:Hp×(Addr->Prop)}{H:Hp}{W:Addr->Prop}(n:Sn Z H W){a:Addr}{o o':HO}(h:H a=some o)(ht:∀xs,o≠.tup xs)(wa:W a):Sn Z (L2.upd H a o') W :=
 ⟨n.w,n.k.trans ((jQ h ht).mono λb z=>by rw[z];exact n.w a wa),λb z e=>by
  by_cases hb:b=a
  ·subst hb;rw[ao]at e;cases e
  ·rw[ak hb]at e;exact n.d b z e⟩
theorem Sn.trans {Z:Hp×(Addr->Prop)}{H1 H:Hp}{W1 W:Addr->Prop}(n1:Sn Z H1 W1)(n:Sn (H1,W1) H W):Sn Z H W:=by
 have big:∀b,W1 b\/H1 b=none->Z.2 b\/Z.1 b=none:=λb z=>z.elim (n1.w b) λq=>.inr (n1.free q);exact⟨λb z=>big b (n.w b z),n1.k.trans (n.k.mono big),λb z=>n.d b (n1.d b z)⟩
section
variable {X:Cx}{st:Stmt}{rest:List Stmt}{σ:St}{H:Hp}
theorem PS.pre {t t':TS}(h:PS X st t)(k:∀D σ H,t' D σ H->t D σ H):PS X st t':=λpins s σ H D I q=>h pins s σ H D I (k D σ H q)
theorem ny.pre {t t':TS}(h:ny X rest t)(k:∀D σ H,t' D σ H->t D σ H):ny X rest t':=λpins s σ H D I q=>h pins s σ H D I (k D σ H q)
end
section
variable {b:Expr}{H:Hp}
theorem held {P:Q6}{w:Rl}{W W2:Addr->Prop}{H2:Hp}{d:D}{v:V}(r:aw P w W H d v)(n:Sn (H,W) H2 W2):aw P w W2 H2 d v :=
 aw.aP n.w (aw.keep n.k (aw.grow (λb z=>z) r))
end
theorem Sn.kp {Z:Hp×(Addr->Prop)}{H H':Hp}{W:Addr->Prop}(n:Sn Z H W)(k:Kp W H H')(dn:∀c,H c≠none->H' c≠none):Sn Z H' W:=⟨n.w,n.k.trans (k.mono n.w),λb z=>dn b (n.d b z)⟩
section
end
section
end
end L2
namespace Qi
open PySem PySem.Spec PyProof.Rows
section
open PySem.SeqAt
open PySem.AutoSeq1 (wpAny_loadPart')
open PySem.MeetsSeq PySem.MeetsSeq2 PySem.MeetsSeq3
end
section
end
section
open PySem.SeqAt
open PySem.AutoSeq1 (wpAny_loadPart')
open PySem.MeetsSeq PySem.MeetsSeq2 PySem.MeetsSeq3
end
section
end
end Qi
namespace L2
open PySem PySem.Spec PySem.SeqAt PyProof.Rows
def cO:List D->Option (List Int)
 |[]=>some []
 |.int i::ds=>(cO ds).map (i::·)
 |_::_=>none
theorem oR:∀{ds:List D} {ns:List Int},cO ds=some ns->ds=ns.map D.int
 |[],_,h=>by cases h;rfl
 |.int i::ds,_,h=>by
  obtain⟨ns,h1,rfl⟩:=RE.mp h;rw[RN,<- oR h1]
 |.bB::_,_,h=>by cases h
 |.bl _::_,_,h=>by cases h
 |.str _::_,_,h=>by cases h
 |.obj _::_,_,h=>by cases h
 |.tup _::_,_,h=>by cases h
 |.lst _::_,_,h=>by cases h
 |.dT _ _::_,_,h=>by cases h
 |.dK _ _::_,_,h=>by cases h
 |.sT _::_,_,h=>by cases h
 |.ob _::_,_,h=>by cases h
theorem lO:∀(ns:List Int),cO (ns.map D.int)=some ns
 |[]=>rfl
 |n::ns=>by rw[RN];show (cO (ns.map D.int)).map _=_;rw[lO ns];rfl
theorem bQ {P:Q6}{w:Rl}{W:Addr->Prop}{H:Hp}:∀{ns:List Int} {vs:List V},ag P w W H (ns.map D.int) vs->vs=ns.map V.int
 |[],_,h=>h
 |n::ns,_,⟨v,r,e,h1,h2⟩=>by rw[e,bQ h2,show v=V.int n from h1];rfl
theorem lN {P:Q6}{w:Rl}{W:Addr->Prop}{H:Hp}:∀(ns:List Int),ag P w W H (ns.map D.int) (ns.map V.int)
 |[]=>rfl
 |n::ns=>⟨_,_,rfl,rfl,lN ns⟩
section
end
end L2
namespace TS
open PySem PyProof.Rows
section
variable {prog:Q6}{w:Rl}{A:R7}{E:QZ->Q1->Prop}{s:Q1}
theorem qu {x:QZ}{vs:List QZ}{kf:QZ->List Int}{Q:QZ->Q1->Prop}(hz:vs.length<=1000000)
  (col:∀(B:R7) (R:List QZ->Q1->Prop),B.units<=A.units+1->(∀(h':Heap) (tk:Nat),(∀b o,s.heap.get? b=some o->h'.get? b=some o)->s.heap.objs.size<=h'.objs.size->R vs {s with heap:=h',toks:=tk})->RA (model prog w) B (collect x) R E s)
  (T:lg s.heap kf s.heap.objs.size vs)
  (h:∀(out:List QZ) (l:Addr) (h':Heap) (tk:Nat) (n:Nat),out.Perm vs->out.Pairwise (λx y=>HT.lexLt (kf y) (kf x)=false)->s.heap.objs.size<=l->(∀b o,s.heap.get? b=some o->h'.get? b=some o)->h'.get? l=some (S6 "list" out.toArray n)->Q (.ref l) {s with heap:=h',toks:=tk}) :
  RA (model prog w) A (call (.builtin "sorted") [x]) Q E s:=by
 refine V4 kind_sorted plain_sorted entry_sorted (args_sorted1 _) ?_;unfold S4.«sorted»
 refine Q0 (m:=checkCount "sorted" 1 1 _) (Q_ ?_);refine Q0 (col A.in1 _ (Q4 _) λh' tk kp OT=>?_);have nl:vs.length<=Ri:=by rw[Sd];lia
 refine Q0 (wpAny_newList ?_ nl);have hl:(h'.push (S6 "list" vs.toArray 0)).get? h'.objs.size=some (S6 "list" vs.toArray 0):=RV _ rfl;have T':lg (h'.push (S6 "list" vs.toArray 0)) kf h'.objs.size vs:=λv hv=>by
  obtain⟨t,o,xs,k,e1,_,e3,r⟩:=T v hv;exact⟨t,o,xs,k,e1,RQ (Rj (kp _ _ e3)),Q8 _ (kp _ _ e3),r⟩
 refine Q0 (Sj (Tv slot_list_sort ⟨_,hl,rfl⟩ entry_list_sort (jO (s:={s with heap:=h'.push (S6 "list" vs.toArray 0),toks:=tk}) hl hz T' λout hp hs=>⟨_,rfl,?_⟩) (args_list_sort _)))
 obtain⟨n,hn⟩:=sortedHeap_at (out:=out.toArray) hl;refine Q_ ⟨_,rfl,h out h'.objs.size _ tk n hp hs OT (λb o e=>?_) hn⟩;have hb:=Rj (kp _ _ e);rw[sortedHeap_old (RQ hb) (by rw[size_push'];exact T4 hb)]
 exact Q8 _ (kp _ _ e)
end
end TS
namespace L2
open PySem PySem.Spec PyProof.Rows
def qV (H:Hp):QZ->List Int
 |.ref t=>match H t with
  |some (.tup xs)=>xs.filterMap fun
   |.int i=>some i
   |_=>none
  |_=>[]
 |_=>[]
theorem o7:∀ns:List Int,((ns.map V.int).filterMap fun
   |.int i=>some i
   |_=>none)=ns
 |[]=>rfl
 |n::ns=>by
  rw[RN,RU];dsimp only;rw[o7 ns]
theorem jR {H:Hp}{t:Addr}{ns:List Int}(h:H t=some (.tup (ns.map V.int))):qV H (.ref t)=ns:=by
 unfold qV;dsimp only;rw[h];exact o7 ns
def Ck (H:Hp):QZ->Addr×List Int
 |.ref t=>(t,qV H (.ref t))
 |_=>(0,[])
abbrev vh (H:Hp)(ts:List (Addr×List Int)):Prop:=∀t∈ts,H t.1=some (.tup (t.2.map V.int))/\t.2≠[]
abbrev nH (t:Addr×List Int):V:=.ref t.1
theorem gO:∀{ts:List (Addr×List Int)} {us:List QZ},Vals (ts.map nH) us->us=ts.map λt=>Value.ref t.1
 |[],_,.nil=>rfl
 |t::ts,_,.cons r q=>by
  rw[RN,<- gO q];cases r;rfl
theorem gU:∀(ts:List (Addr×List Int)),Vals (ts.map nH) (ts.map λt=>Value.ref t.1)
 |[]=>.nil
 |t::ts=>.cons rfl (gU ts)
theorem lD {H:Hp}{ts:List (Addr×List Int)}(T:vh H ts){out:List QZ}(hp:out.Perm (ts.map λt=>Value.ref t.1)):out=(out.map (Ck H)).map (λt=>Value.ref t.1)/\(out.map (Ck H)).Perm ts:=by
 constructor
 ·rw[SU];refine(SG (g:=id) λv hv=>?_).trans (List.map_id _) |>.symm
  obtain⟨t,ht,rfl⟩:=R5.mp (hp.mem_iff.mp hv);rfl
 ·refine(hp.map (Ck H)).trans (U3 ?_);rw[SU];refine(SG (g:=id) λt ht=>?_).trans (List.map_id _);show (t.1,qV H (.ref t.1))=t;rw[jR (T t ht).1]
theorem rX {P:Q6}{w:Rl}{H:Hp}{h:Heap}{ts:List (Addr×List Int)}(ok:eW P w H h)(T:vh H ts){a:Addr}(ha:h.objs.size<=a):TS.lg h (qV H) a (ts.map λt=>Value.ref t.1):=λv hv=>by
 obtain⟨t,ht,rfl⟩:=R5.mp hv;obtain⟨h1,h2⟩:=T t ht;obtain⟨_,its,r,o,ho,hc,n,hd⟩:=(show bH P w H h t.1 (.tup (t.2.map V.int)) from ok _ _ h1)
 exact⟨t.1,o,_,n,rfl,RQ (RF (Rj ho) ha),ho,hc,hd,by rw[jR h1];exact intsAre_of (by simpa using r),by rw[jR h1];exact h2⟩
section
variable {X:Cx}
theorem m8:eR X (.builtin "sorted") (λxs H Q=>∃(p:Addr) (ts:List (Addr×List Int)),xs=[.ref p]/\dg X.K H p (ts.map nH)/\vh H ts/\ts.length<=1000000 /\
  ∀(l:Addr) (cI:List (Addr×List Int)),H l=none->cI.Perm ts->cI.Pairwise (λx y=>HT.lexLt y.2 x.2=false)->Q (.ref l) (upd H l (.lst (cI.map nH)))):=by
 intro pins s σ H xs us Q I r h;obtain⟨p,ts,rfl,hq,T,hz,q⟩:=h;obtain⟨u,rfl,rx⟩:=vals1 r;cases rx;obtain⟨its,r',pl,hl⟩:=I.list hq;obtain rfl:=gO r';have nl:(ts.map λt=>Value.ref t.1).length<=Ri:=by rw[Q3,Sd];lia
 refine TS.qu (kf:=qV H) (by rw[Q3];exact hz) (λB R _ hR=>?_) (rX I.bj T (Q4 _)) λout l h' tk n hp hs hle kp ho=>?_
 ·refine collect_list pl.isList (hR _ s.toks (λb o e=>?_) ?_) nl
  ·have hb:=Rj e;rw[Heap.get?_update_ne _ _ _ _ (RQ hb)];exact Q8 _ e
  ·rw[Heap.size_update,size_push'];exact Nat.le_succ _
 ·obtain⟨e1,e2⟩:=lD T hp;have zl:out.length=ts.length:=by rw[hp.length_eq,Q3]
  refine⟨.ref l,_,I.laid (t':=tk) (o:=.lst ((out.map (Ck H)).map nH)) kp hle ?_,rfl,q l _ (I.bj.fresh hle) e2 ?_⟩
  ·refine⟨by rw[Q3,Q3,zl,Sd];lia,out,n,?_,ho⟩
   have:=gU (out.map (Ck H));rw[<- e1]at this;exact this
  ·rw[Tj];refine hs.imp_of_mem λ{x y} hx hy hh=>?_;obtain⟨t,ht,rfl⟩:=R5.mp (hp.mem_iff.mp hx);obtain⟨t',O5,rfl⟩:=R5.mp (hp.mem_iff.mp hy);exact hh
end
end L2
namespace ST
open PySem PyProof.Rows
section
variable {prog:Q6}{w:Rl}{A:R7}{E:QZ->Q1->Prop}{s:Q1}
variable {a b:Addr}{o:Obj}{ts:List (Addr×List Int)}{es:Array (Int×QZ)}{ep:Nat}{t:SetTable}{k:List Int}
theorem b_.at (S:b_ prog w o ts es ep t){i:Nat}(hi:i<t.place.size):∃x,ts[i]?=some x/\es[i]?=some (ent prog w x):=by
 have hl:i<ts.length:=by rw[<- S.size.2];exact hi
 exact⟨ts[i],Rf hl,by rw[<- Rm,S.E2,Rn,Rf hl];rfl⟩
theorem xu (S:b_ prog w o ts es ep t):t.gaveWay=false:=by
 obtain⟨j,hj,e⟩:=S.wf.B0;unfold SetTable.gaveWay;rw[e];obtain⟨i,rfl⟩:∃i,j=i+1:=⟨j-1,by lia⟩
 have:0<2 ^ i:=Vb (by decide)
 rw[UT];have:(2 ^ i*2-1) % 2=1:=by lia
 rw[this];rfl
theorem kK (ho:s.heap.get? a=some o)(S:b_ prog w o ts es ep t)(T:BF prog w s.heap ts)(hk:(TK prog w).is s.heap k b)(hu:A.units<Um){ij:Bool}{N:Nat}{Q:SetFound->Q1->Prop}
  (hN:¬ nk t (bU t.mask (kH prog w k) N)) (hO:∀x,x<N->nk t (bU t.mask (kH prog w k) x)) (QT:N<10*SetTable.turns t.mask)
  (Qf:(∀x∈ts,x.2≠k)->Q (.free (bU t.mask (kH prog w k) N) false) s) (Qt:∀i:Option Nat,(∃x∈ts,x.2=k)->(ij=false->i.isSome=true)->Q (.there i) s) :
  ∀(d n f:Nat) (v3:Option SetTable.Probe),v3.getD (JZ t.mask (kH prog w k))=eX t.mask (kH prog w k) n->n+d=N->d<f ->
   (∀m,m<n->∀i x,i<t.place.size->g t.place i=bU t.mask (kH prog w k) m->ts[i]?=some x->x.2≠k) ->
   RA (model prog w) A (setSearchFrom a (.ref b) (kH prog w k) ij f v3) Q E s:=by
 intro d
 induction d using Nat.strongRecOn with
 |_ d ih =>
  intro n f v3 mU kB Jp Im;obtain⟨f,rfl⟩:∃f',f=f'+1:=⟨f-1,by lia⟩
  unfold setSearchFrom;refine Q0 (SM ho S.dat S.fits ?_);dsimp only;rw[xu S,if_neg (by simp)]
  rw[C_,mU];generalize Ni:SetTable.probe t _ (kH prog w k) (eX t.mask (kH prog w k) n)=pr;have hash:∀i x,i<t.place.size->ts[i]?=some x->(es[i]?.map (·.1)).getD 0=kH prog w x.2:=λi x hi hx=>by
   obtain⟨y,h1,h2⟩:=S.at hi;rw[hx]at h1;obtain rfl:=RC h1;rw[h2];rfl
  rcases n6 S.wf (λi=>(es[i]?.map (·.1)).getD 0) (kH prog w k) hN hO d n (10*SetTable.turns t.mask) kB (by lia)with⟨q1,q2⟩|⟨m,i,q1,q2,q3,q4,q5,q6,q7⟩
  ·have e:pr=some (.empty (bU t.mask (kH prog w k) N) none):=Ni.symm.trans q1;rw[e];dsimp only;refine Q_ (Qf λx hx A5=>?_);obtain⟨i,hi⟩:=Vd hx;have Ce:i<t.place.size:=by
    rw[S.size.2];exact(Rw.mp hi).1
   obtain⟨n',g1,g2⟩:=S.wf.MO i (kH prog w x.2) (by rw[Rn,hi];rfl)
   rw[A5]at g1 g2;have ye:n'<N:=by
    rcases Sm n' N with z|z
    ·exact z
    ·rcases Sm N n' with z2|z2
     ·exact absurd (g2 N z2) hN
     ·obtain rfl:N=n':=by lia
      exact absurd ⟨i,Ce,g1.symm⟩ hN
   rcases Sm n' n with z|z
   ·exact Im n' z i x Ce g1.symm hi A5
   ·exact q2 n' z ye i Ce g1.symm (by rw[hash i x Ce hi,A5])
  ·have e:pr=some (.candidate (bU t.mask (kH prog w k) m) i (eX t.mask (kH prog w k) (m+1))):=Ni.symm.trans q6;rw[e];dsimp only;obtain⟨x,zj,Er⟩:=S.at q3;have G_:x∈ts:=SE zj;have Cb:t.slot (bU t.mask (kH prog w k) m)=.live i:=by rw[<- q4];exact lA S.wf.ua q3
   refine(λ(key:?G)=>?main) ?key
   case main =>
    cases hl:t.led with
    |true =>
     rw[if_neg (by simp)]
     exact key
    |false =>
     rw[if_pos (by simp)]
     have K1:(es.filter (·.1==kH prog w k)).toList.map (·.2)=(ts.filter λx=>kH prog w x.2==kH prog w k).map λx=>Value.ref x.1:=by
      rw[Array.toList_filter,S.E2,List.filter_map,SU];rfl
     rw[K1];refine Q0 (zB hk _ (λy hy=>T y (SH.mp hy).1) ?_);rw[if_neg (by simp)]
     exact key
   case key =>
    rw[Er];dsimp only;refine Q0 (Sj ((TK prog w).eqBool hu (T x G_) hk ?_));refine Q0 (SM ho S.dat S.fits ?_);dsimp only;have Et:t.sameMemory t.moves t.mask=some true:=by
     unfold SetTable.sameMemory;rw[if_pos (beq_self_eq_true _)]
    by_cases A5:x.2=k
    ·rw[decide_eq_true A5];cases ij with
     |true =>
      rw[if_pos (by rfl)]
      exact Q_ (Qt none ⟨x,G_,A5⟩ (λz=>by cases z))
     |false =>
      rw[if_neg (by simp),Et]
      dsimp only;rw[if_pos rfl,Cb];dsimp only;rw[Er];dsimp only;refine Q0 (wpAny_isSame_ref_self ?_);rw[if_pos rfl];refine Q0 (Q_ ?_);exact Q_ (Qt (some i) ⟨x,G_,A5⟩ (λ_=>rfl))
    ·rw[decide_eq_false A5,if_neg (by simp),Et]
     dsimp only;rw[if_pos rfl,Cb];dsimp only;rw[Er];dsimp only;refine Q0 (wpAny_isSame_ref_self ?_);rw[if_pos rfl];refine Q0 (Q_ ?_);dsimp only;rw[if_neg (by simp)]
     refine ih (N-(m+1)) (by lia) (m+1) f _ rfl (by lia) (by lia) λm' Pk i' x' h1 h2 h3=>?_
     rcases Sm m' n with z|z
     ·exact Im m' z i' x' h1 h2 h3
     ·by_cases e2:m'=m
      ·subst e2;obtain rfl:=S.wf.ua.inj h1 q3 (h2.trans q4.symm);rw[zj]at h3;obtain rfl:=RC h3;exact A5
      ·intro z2;exact q7 m' z (by lia) i' h1 h2 (by rw[hash i' x' h1 h3,z2])
end
theorem pR (n:Nat):∀(f j:Nat),n<2 ^ (j+f)->∃j',j<=j'/\SetTable.sizeAbove.go n f (2 ^ j)=2 ^ j'/\n<2 ^ j'/\(j'=j\/2 ^ (j' - 1)<=n)
 |0,j,h=>⟨j,Q4 _,rfl,h,.inl rfl⟩
 |f+1,j,h=>by
  unfold SetTable.sizeAbove.go
  by_cases hc:2 ^ j<=n
  ·rw[if_pos hc,<- UT];obtain⟨j',h1,h2,h3,h4⟩:=pR n f (j+1) (by rw[show j+1+f=j+(f+1) by lia];exact h)
   refine⟨j',by lia,h2,h3,.inr ?_⟩
   rcases h4 with rfl|h4
   ·exact hc
   ·exact h4
  ·rw[if_neg hc];exact⟨j,Q4 _,rfl,by lia,.inl rfl⟩
theorem yY {n:Nat}(h:n<=4000):∃j,3<=j/\SetTable.sizeAbove n=2 ^ j/\n<2 ^ j/\2 ^ j<=8192:=by
 obtain⟨j,h1,h2,h3,h4⟩:=pR n 64 3 (Nat.lt_of_le_of_lt h (by decide))
 refine⟨j,h1,h2,h3,?_⟩;rcases h4 with rfl|h4
 ·decide
 ·have:j-1<12:=by
   rcases Sm (j-1) 12 with z|z
   ·exact z
   ·have:2 ^ 12<=2 ^ (j-1):=Ug (by decide) z
    lia
  have:2 ^ j<=2 ^ 12:=Ug (by decide) (by lia)
  lia
theorem Be (d:Nat)(n:Int)(tk:Tok):hashByValue d (.int n tk)=pure true:=by
 cases d <;> rfl
section
variable {prog:Q6}{w:Rl}{A:R7}{E:QZ->Q1->Prop}{s:Q1}
variable {a b:Addr}{o:Obj}{ts:List (Addr×List Int)}{es:Array (Int×QZ)}{ep:Nat}{t:SetTable}{k:List Int}
theorem CW {Q:Bool->Q1->Prop}(hk:(TK prog w).is s.heap k b)(q:Q true s):RA (model prog w) A (hashByValue 8 (.ref b)) Q E s:=by
 obtain⟨o,items,n,ho,hc,hd,hi⟩:=hk;have hT:s.TypeIs (.ref b) "tuple" := ⟨o,ho,hc⟩;unfold hashByValue;refine Q0 (wpAny_specialOf hT F.slot_tuple_hash.lookup ?_);dsimp only;refine Q0 (wpAny_seqItems ho hd ?_);dsimp only[Option.getD_some];rw[<- Array.forIn_toList];refine Q0 (VF _ (λrest r s'=>r=(none,())/\s'=s/\∀v∈rest,∃n tk,v=Value.int n tk) _ ?_ ?_ _ _ ⟨rfl,rfl,?_⟩)
 ·rintro v rest r s' ⟨rfl,rfl,kY⟩;obtain⟨n,tk,rfl⟩:=kY v Ru;rw[Be];refine Q0 (Q_ ?_);rw[if_neg (by simp)]
  exact Q_ ⟨rfl,rfl,λu hu=>kY u (Rt _ hu)⟩
 ·rintro r s' ⟨rfl,rfl,_⟩;exact Q_ q
 ·generalize items.toList=vs at hi
  induction hi with
  |nil=>intro v hv;cases hv
  | @cons k v ks vs h1 h2 ih =>
   intro u hu;rcases Ra.mp hu with rfl|hu
   ·obtain⟨t,rfl⟩:=Vy h1;exact⟨_,_,rfl⟩
   ·exact ih u hu
theorem tP (ho:s.heap.get? a=some o)(S:b_ prog w o ts es ep t)(T:BF prog w s.heap ts)(hk:(TK prog w).is s.heap k b)(hu:A.units<Um){ij:Bool}{Q:SetFound->Q1->Prop}
  (Qf:∀N,(∀x∈ts,x.2≠k)->¬ nk t (bU t.mask (kH prog w k) N)->(∀x,x<N->nk t (bU t.mask (kH prog w k) x))->Q (.free (bU t.mask (kH prog w k) N) false) s)
  (Qt:∀i:Option Nat,(∃x∈ts,x.2=k)->(ij=false->i.isSome=true)->Q (.there i) s) :
  RA (model prog w) A (setSearch a (.ref b) (kH prog w k) ij) Q E s:=by
 obtain⟨N,h1,h2,h3⟩:=S.wf.first (kH prog w k)
 have hm:=S.B0;unfold setSearch;exact kK ho S T hk hu h2 h3 h1 (λq=>Qf N q h2 h3) Qt N 0 100000 none rfl (S_ N) (by unfold SetTable.turns at h1;lia) λm hm=>by lia
theorem s_ {h:Heap}(ho:h.get? a=some o)(hd:o.data=.set es ep t)(dz:Array (Int×QZ))(t':SetTable):(h.update a (Vr dz t')).get? a=some {o with data:=.set dz (ep+1) t'}:=by
 have e:=Heap.get?_update_self (Vr dz t') ho (by rw[putSet_of dz t' hd];rfl)
 rw[e,putSet_of dz t' hd]
theorem w5 {α:Type}(l:List α)(p:Nat)(x:α):(l.take p++x::l.drop p).Perm (x::l):=by
 refine UN.trans (List.Perm.cons x ?_);rw[S0]
theorem vI (ho:s.heap.get? a=some o)(hx:o.ExactSet)(hd:o.data=.set es ep t)(he:es.toList=ts.map (ent prog w))(hw:WF t (ts.map λx=>kH prog w x.2))(QM:0<ts.length)(hn:ts.length<=1000)
  (LI:t.led=!w.params.followText "set-order") (hpl:t.plain=true) (kB:(ts.map (·.2)).Nodup) {Q:Unit->Q1->Prop}
  (q:∀(cI:List (Addr×List Int)) (dz:Array (Int×QZ)) (t':SetTable),cI.Perm ts->b_ prog w {o with data:=.set dz (ep+1) t'} cI dz (ep+1) t'->Q () {s with heap:=s.heap.update a (Vr dz t')}) :
  RA (model prog w) A (setRelay a (SetTable.grown ts.length)) Q E s:=by
 have hz:es.size=ts.length:=by rw[<- Q9,he,Q3]
 have hp:t.place.size=ts.length:=by have:=hw.sz;rw[Q3]at this;exact this
 have hf:t.fits es.size=true:=by
  unfold SetTable.fits SetTable.fill;rw[hw.Fy,hz,hp];have:=hw.room;simp;lia
 unfold setRelay;refine Q0 (SM ho hd hf ?_);dsimp only;have hg:SetTable.grown ts.length=ts.length*4:=by unfold SetTable.grown;rw[if_neg (by lia)]
 rw[hg];obtain⟨j,j3,ja,jb,jc⟩:=yY (n:=ts.length*4) (by lia)
 rw[ja,if_neg (by rw[Sd];lia)]
 have hs:(es.map (·.1)).size=ts.length:=by rw[V2,hz]
 obtain⟨t',order,e1,e2,e3,e4,e5,e6,e7,e8⟩:=AU (hs:=es.map (·.1)) j3 (by lia) t.finger (t.movedTo (2 ^ j-1)) t.led t.plain
 rw[hs]at e6 e8;have er:t.relaid (es.map (·.1)) (ts.length*4)=some (t',order):=by
  unfold SetTable.relaid;rw[ja];exact e1
 rw[er];have gd:∀i,i<ts.length->es[i]?=some (ent prog w (ts.getD i (0,[]))):=λi hi=>by
  rw[<- Rm,he,Rn,Rf hi,SX,Rf hi];rfl
 have nu:(order.filterMap (es[·]?)).toList=(order.toList.map λi=>ts.getD i (0,[])).map (ent prog w):=by
  rw[Array.toList_filterMap,SU];have:∀l:List Nat,(∀i∈l,i<ts.length)->l.filterMap (es[·]?)=l.map (ent prog w ∘ λi=>ts.getD i (0,[])):=λl=>by
   induction l with
   |nil=>intro _;rfl
   |cons i l ih =>
    intro h;rw[RU,gd i (h i Ru),RN,ih λy hy=>h y (Rt _ hy)];rfl
  exact this _ λi hi=>So.mp (e6.mem_iff.mp hi)
 have yc:(order.toList.map λi=>ts.getD i (0,[])).Perm ts:=by
  refine(e6.map _).trans (U3 ?_);apply To;intro i;rw[Rn]
  by_cases hi:i<ts.length
  ·rw[SO hi,Rf hi];show some (ts.getD i (0,[]))=_;rw[SX,Rf hi];rfl
  ·rw[Sz (by rw[Sg];lia),Sz (by lia)]
   rfl
 have hsz:(order.filterMap (es[·]?)).size=es.size:=by
  rw[<- Q9,nu,Q3,yc.length_eq,hz]
 refine Q0 ?_;show RA _ _ (if (order.filterMap (es[·]?)).size != es.size then _ else _) _ _ _
 rw[hsz,if_neg (by simp)]
 refine Q_ ?_;dsimp only;refine wpAny_storeSet_of ho hd (q _ _ t' yc ⟨hx,rfl,nu,?_,?_,by lia,e3.trans LI,e4.trans hpl,?_⟩) (by rw[hsz,hz,Sd];lia)
 ·rw[SU];have:(order.toList.map λi=>(es.map (·.1)).getD i 0)=order.toList.map ((λx=>kH prog w x.2) ∘ λi=>ts.getD i (0,[])):=by
   refine SG λi hi=>?_;have hi:=So.mp (e6.mem_iff.mp hi);rw[Ro,Array.getElem?_map,gd i hi];rfl
  rw[<- this];exact e7
 ·rw[e8,e2];lia
 ·exact((yc.map (·.2)).nodup_iff).mpr kB
theorem vO (ho:s.heap.get? a=some o)(S:b_ prog w o ts es ep t)(T:BF prog w s.heap ts)(hk:(TK prog w).is s.heap k b)(hu:A.units<Um)(hn:ts.length<1000)(f:Nat){Q:Bool->Q1->Prop}
  (q:∀(h':Heap) (o':Obj) (cI:List (Addr×List Int)) (dz:Array (Int×QZ)) (mY:Nat) (t':SetTable) (added:Bool),S3 a s.heap h'->h'.get? a=some o'->b_ prog w o' cI dz mY t' ->
   ((∃x∈ts,x.2=k)->cI=ts)->((∀x∈ts,x.2≠k)->cI.Perm ((b,k)::ts))->Q added {s with heap:=h'}) :
  RA (model prog w) A (setAddHashedIn a (.ref b) (kH prog w k) (f+1)) Q E s:=by
 unfold setAddHashedIn;refine Q0 (SM ho S.dat S.fits ?_);dsimp only;rw[if_neg (by simp[byScan,Value.scannable])]
 refine Q0 (tP ho S T hk hu (λN g1 g2 g3=>?_) λi g1 g2=>?_)
 ·dsimp only;refine Q0 (SM ho S.dat S.fits ?_);dsimp only;have hr:t.place.size+1<=t.mask:=by
   have:=S.J4;obtain⟨j,hj,e⟩:=S.wf.B0;have:2 ^ 3<=2 ^ j:=Ug (by decide) hj
   lia
  obtain⟨W,hp⟩:=S.wf.put (iS _ _ _) g2 g3 hr;have pe:(t.put (bU t.mask (kH prog w k) N)).1.plain=t.plain/\(t.put (bU t.mask (kH prog w k) N)).1.led=t.led/\(t.put (bU t.mask (kH prog w k) N)).1.mask=t.mask:=⟨rfl,rfl,rfl⟩;have pf:(t.put (bU t.mask (kH prog w k) N)).1.dummies=#[]:=W.Fy;generalize (t.put (bU t.mask (kH prog w k) N)).1=t1 at *
  generalize (t.put (bU t.mask (kH prog w k) N)).2=p at *
  obtain⟨Kt,MV,OE⟩:=pe;rw[Kt,S.Fq,if_pos rfl];refine Q0 (CW hk ?_);rw[if_pos rfl];have hz:=S.size;have E1:(SetTable.insertAt es p (kH prog w k,Value.ref b)).toList=(ts.take p++(b,k)::ts.drop p).map (ent prog w):=by
   rw[jV,S.E2,RS,RN,Vn,List.map_drop]
  have W1:WF t1 ((ts.take p++(b,k)::ts.drop p).map λx=>kH prog w x.2):=by
   rw[RS,RN,Vn,List.map_drop];exact W
  have pm:(ts.take p++(b,k)::ts.drop p).Perm ((b,k)::ts):=w5 ts p (b,k);have g9:(ts.take p++(b,k)::ts.drop p).length=ts.length+1:=pm.length_eq;have AK:((ts.take p++(b,k)::ts.drop p).map (·.2)).Nodup:=by
   refine((pm.map (·.2)).nodup_iff).mpr ?_;rw[RN,RM];exact⟨λhm=>by
    obtain⟨x,hx,e⟩:=R5.mp hm;exact g1 x hx e,S.KA⟩
  have Fo:(SetTable.insertAt es p (kH prog w k,Value.ref b)).size=ts.length+1:=by rw[<- Q9,E1,Q3,g9]
  have QF:t1.place.size=ts.length+1:=by have:=W1.sz;rw[Q3,g9]at this;exact this
  refine Q0 (wpAny_storeSet_of ho S.dat ?_ (by rw[Fo,Sd];lia))
  have HW:=s_ ho S.dat (SetTable.insertAt es p (kH prog w k,Value.ref b)) t1;have FZ:S3 a s.heap (s.heap.update a (Vr (SetTable.insertAt es p (kH prog w k,Value.ref b)) t1)):=Vl _ _ _;have fin:∀(h':Heap) (o':Obj) (cI:List (Addr×List Int)) (dz:Array (Int×QZ)) (mY:Nat) (t':SetTable),S3 a s.heap h'->h'.get? a=some o'->b_ prog w o' cI dz mY t'->cI.Perm (ts.take p++(b,k)::ts.drop p)->Q true {s with heap:=h'} :=
   λh' o' cI dz mY t' q1 q2 q3 q4=>q h' o' cI dz mY t' true q1 q2 q3 (λxW=>by obtain⟨x,hx,e⟩:=xW;exact absurd e (g1 x hx)) λ_=>q4.trans pm
  by_cases oT:t1.tooFull=true
  ·rw[oT,if_pos (by rfl)]
   have Pq:SetTable.grown (es.size+1)=SetTable.grown (ts.take p++(b,k)::ts.drop p).length:=by rw[g9,hz.1]
   rw[Pq];refine Q0 (vI (s:={s with heap:=s.heap.update a (Vr (SetTable.insertAt es p (kH prog w k,Value.ref b)) t1)}) HW S.ex rfl E1 W1 (by lia) (by lia) (MV.trans S.led) (Kt.trans S.Fq) AK λcI dz t' r1 r2=>Q_ ?_)
   have Pb:=s_ HW rfl dz t';exact fin _ _ cI dz _ t' (FZ.trans (Vl _ _ _)) Pb r2 r1
  ·rw[if_neg (by simpa using oT)]
   refine Q_ (fin _ _ _ _ _ _ FZ HW ⟨S.ex,rfl,E1,W1,?_,by rw[OE];exact S.B0,MV.trans S.led,Kt.trans S.Fq,AK⟩ (.refl _))
   unfold SetTable.tooFull SetTable.fill at oT;rw[pf]at oT;simp at oT;lia
 ·dsimp only;exact Q_ (q s.heap o ts es ep t false (Heap.SameBut.refl _ _) ho S (λ_=>rfl) λg=>absurd g1 λA7=>by obtain⟨x,hx,e⟩:=A7;exact g x hx e)
theorem CZ (ho:s.heap.get? a=some o)(S:b_ prog w o ts es ep t)(T:BF prog w s.heap ts)(hk:(TK prog w).is s.heap k b)(hu:A.units<Um)(hn:ts.length<1000){Q:Bool->Q1->Prop}
  (q:∀(h':Heap) (o':Obj) (cI:List (Addr×List Int)) (dz:Array (Int×QZ)) (mY:Nat) (t':SetTable) (added:Bool) (tk:Nat),s.toks<=tk->S3 a s.heap h'->h'.get? a=some o'->b_ prog w o' cI dz mY t' ->
   ((∃x∈ts,x.2=k)->cI=ts)->((∀x∈ts,x.2≠k)->cI.Perm ((b,k)::ts))->Q added {s with heap:=h',toks:=tk}) :
  RA (model prog w) A (setAdd a (.ref b)) Q E s:=by
 unfold setAdd;refine Sj ?_;refine Q0 ((TK prog w).pyHash hu hk ?_);unfold setAddHashed;refine Sj ?_;exact vO (s:={s with toks:=s.toks+(TK prog w).draws k}) ho S T hk hu hn 99999 λh' o' cI dz mY t' added r1 r2 r3 r4 r5=>q h' o' cI dz mY t' added _ (Nat.le_add_right _ _) r1 r2 r3 r4 r5
end
theorem kj {α:Type}:∀{l:List α} {i:Nat} (h:i<l.length),(l[i]::l.eraseIdx i).Perm l
 |[],_,h=>absurd h (VT _)
 |x::l,0,_=>.refl _
 |x::l,i+1,h=>by
  have h':i<l.length:=by rw[Rq]at h;lia
  show (l[i]::x::l.eraseIdx i).Perm (x::l);exact(List.Perm.swap _ _ _).trans ((kj h').cons x)
theorem sI {α:Type}(next:Nat->Nat):∀(f k:Nat) (left:List α) (out:Array α),f=left.length->(pickOrder.go next f k left out).toList.Perm (out.toList++left)
 |0,k,left,out,e=>by
  obtain rfl:left=[]:=List.length_eq_zero_iff.mp e.symm;unfold pickOrder.go;rw[Sr]
 |f+1,k,left,out,e=>by
  unfold pickOrder.go;have hi:next k % left.length<left.length:=Ur _ (by lia)
  rw[Rf hi];dsimp only;refine(sI next f (k+1) _ _ (by rw[List.length_eraseIdx_of_lt hi];lia)).trans ?_
  rw[SN,R8];exact U7 _ (kj hi)
theorem ui {α:Type}(next:Nat->Nat)(xs:Array α):(pickOrder next xs).toList.Perm xs.toList:=by
 have:=sI next xs.size 0 xs.toList #[] (by rw[Q9])
 exact this
theorem bw:Slot "set_iterator" "__next__" "set_iterator.__next__" :=
 .of (owner:="set_iterator") (n:="__next__") (by rw[typeLookup_type,builtinLookup_eq_fast];kernel_rfl) (by decide +kernel) (by decide +kernel) (by decide +kernel)
  (by first|exact .inl (by decide +kernel)|exact .inr (by decide +kernel)) (by rw[VW];kernel_rfl)
theorem fM:Slot "set_iterator" "__iter__" "set_iterator.__iter__" :=
 .of (owner:="set_iterator") (n:="__iter__") (by rw[typeLookup_type,builtinLookup_eq_fast];kernel_rfl) (by decide +kernel) (by decide +kernel) (by decide +kernel)
  (by first|exact .inl (by decide +kernel)|exact .inr (by decide +kernel)) (by rw[VW];kernel_rfl)
theorem fq:entryFor table "set_iterator.__next__" = some S4.«set_iterator.__next__»:=entryFor_of_tree (by kernel_rfl)
theorem kg:entryFor table "set_iterator.__iter__" = some S4.«dict_keyiterator.__iter__» :=
 entryFor_alias (id':="dict_keyiterator.__iter__") (by kernel_rfl) rfl (by decide +kernel) (by kernel_rfl)
theorem kh:entryFor table "set.__iter__" = some S4.«frozenset.__iter__» :=
 entryFor_alias (id':="frozenset.__iter__") (by kernel_rfl) rfl (by decide +kernel) (by kernel_rfl)
theorem fV (a:QZ):argsOk "set_iterator.__next__" ⟨[a],[]⟩:=by unfold argsOk;kernel_rfl
theorem lb (a:QZ):argsOk "set_iterator.__iter__" ⟨[a],[]⟩:=by unfold argsOk;kernel_rfl
section
variable {prog:Q6}{w:Rl}{A:R7}{E:QZ->Q1->Prop}{s:Q1}
variable {a:Addr}{o:Obj}{ts:List (Addr×List Int)}{es:Array (Int×QZ)}{ep:Nat}{t:SetTable}
abbrev yN (w:Rl):Bool:=w.params.followText "set-order"
theorem gN {Q:Bool->Q1->Prop}(q:Q (yN w) s):RA (model prog w) A setsByText Q E s:=by
 unfold setsByText;exact Q0 (UI (Q_ q))
def bx (w:Rl)(a:Addr)(ep:Nat)(es:Array (Int×QZ)):Array (Int×QZ):=if yN w=true then pickOrder (w.params.setOrder a ep) es else es
theorem fw (w:Rl)(a:Addr)(ep:Nat)(es:Array (Int×QZ)):(bx w a ep es).toList.Perm es.toList:=by
 unfold bx
 split
 ·exact ui _ _
 ·exact .refl _
theorem uv (S:b_ prog w o ts es ep t){Q:Bool->Q1->Prop}(ho:s.heap.get? a=some o)(q:Q false s):RA (model prog w) A (setDrawn a) Q E s:=by
 unfold setDrawn;refine Q0 (SM ho S.dat S.fits ?_);dsimp only;refine Q0 (gN (Q_ ?_));have:(!yN w&&(!t.plain&&decide (es.size>1)))=false:=by rw[S.Fq];simp
 show Q (!yN w&&(!t.plain&&decide (es.size>1))) s;rw[this];exact q
theorem i7 (ho:s.heap.get? a=some o)(S:b_ prog w o ts es ep t){sl i:Nat}{Q:Option (QZ×Nat)->Q1->Prop}(Cc:yN w=false->SetTable.below t.place sl=i)
  (q1:∀e,(bx w a ep es)[i]?=some e->∀r_:Nat,(yN w=false->SetTable.below t.place r_=i+1)->Q (some (e.2,r_)) s) (q2:(bx w a ep es)[i]?=none->Q none s) :
  RA (model prog w) A (setNext a sl i ep) Q E s:=by
 unfold setNext;refine Q0 (SM ho S.dat S.fits ?_);dsimp only;refine Q0 (gN ?_);cases hb:yN w with
 |true =>
  rw[if_pos rfl,if_neg (by simp)]
  unfold setWalk;refine Q0 (Q0 (SM ho S.dat S.fits ?_));dsimp only;refine Q0 (gN ?_);rw[hb,if_pos rfl];refine Q0 (UI (Q_ (Q_ ?_)));have e:bx w a ep es=pickOrder (w.params.setOrder a ep) es:=by unfold bx;rw[hb,if_pos rfl]
  rw[e]at q1 q2;show Q (((pickOrder (w.params.setOrder a ep) es)[i]?).map λe=>(e.2,sl)) s;cases hx:(pickOrder (w.params.setOrder a ep) es)[i]? with
  |none=>exact q2 hx
  |some x=>exact q1 x hx sl (λz=>by rw[hb]at z;cases z)
 |false =>
  rw[if_neg (by simp)]
  have e:bx w a ep es=es:=by unfold bx;rw[hb,if_neg (by simp)]
  rw[e]at q1 q2;have hd:(!t.plain&&decide (es.size>1))=false:=by rw[S.Fq];rfl
  show RA _ _ (if (!t.plain&&decide (es.size>1))=true then _ else _) _ _ _
  rw[hd,if_neg (by simp)]
  have hl:t.led=true:=by
   rw[S.led];show (!yN w)=true;rw[hb];rfl
  refine Q0 ?_;show RA _ _ (if (!t.led&&!es.isEmpty)=true then _ else _) _ _ _
  rw[hl,if_neg (by simp)]
  refine Q_ (Q_ ?_);rw[Cc hb];have hz:=S.size
  by_cases hi:i<t.place.size
  ·have h1:es[i]?=some es[i]:=getElem?_pos es i (by omega)
   rw[h1,rp hi];refine q1 _ h1 _ λ_=>?_;obtain⟨b1,b2,b3⟩:=eG S.wf.ua (g t.place i+1);rcases VB (SetTable.below t.place (g t.place i+1)) (i+1)with z|z|z
   ·have:=b3 i (by omega) hi
    omega
   ·exact z
   ·have:=b2 (i+1) z;have:=S.wf.ua i (i+1) (by omega) (by omega)
    omega
  ·have h1:es[i]?=none:=SV (by omega)
   rw[h1];exact q2 h1
end
section
variable {prog:Q6}{w:Rl}{A:R7}{E:QZ->Q1->Prop}{s:Q1}
variable {a b it:Addr}{o:Obj}{ts:List (Addr×List Int)}{es:Array (Int×QZ)}{ep:Nat}{t:SetTable}
def mE (sl i:Nat)(a:Addr)(n ep:Nat):Obj:={cls:=.type "set_iterator",dict:=none,data:=.fields #[.int sl 0,.int i 0,.ref a,.int n 0,.int ep 0],slots:=#[]}
theorem jo {sl i n:Nat} (h:s.heap.get? it=some (mE sl i a n ep)):s.TypeIs (.ref it) "set_iterator" := ⟨_,h,rfl⟩
def FA (prog:Q6)(w:Rl)(it a:Addr)(ts:List (Addr×List Int))(es:Array (Int×QZ))(ep:Nat)(i:Nat)(h:Heap):Prop :=
 ∃sl o t,h.get? it=some (mE sl i a es.size ep)/\h.get? a=some o/\b_ prog w o ts es ep t/\(yN w=false->SetTable.below t.place sl=i)
theorem wo (Ba:a≠it){i:Nat}{e:Int×QZ}{Q:Option QZ->Q1->Prop}(st:FA prog w it a ts es ep i s.heap)(he:(bx w a ep es)[i]?=some e)
  (q:∀h',FA prog w it a ts es ep (i+1) h'->S3 it s.heap h'->Q (some e.2) {s with heap:=h'}):RA (model prog w) A (Vo (.ref it)) Q E s:=by
 obtain⟨sl,o,t,hi,ho,S,hb⟩:=st;have hT:=jo hi;unfold Vo;refine Q0 (UB (wpAny_callSpecial?_slot (name:=Str.ofString "__next__") hT bw (Tv bw hT fq ?_ (fV _))));unfold S4.«set_iterator.__next__»
 refine Q0 (Q_ ?_);refine Q0 (wpAny_fieldsOf hi rfl ?_);dsimp only;refine Q0 (Vi ho S.dat S.fits ?_);rw[if_neg (by simp)]
 refine Q0 (i7 (i:=i) ho S (λz=>by simpa using hb z) (λe' Ii r_ Hg=>?_) λhn=>?_)
 ·rw[he]at Ii;obtain rfl:=RC Ii;dsimp only;refine Q0 (wpAny_setField_rec hi (by simp) λh1 g1 FZ=>?_)
  refine Q0 (wpAny_setField_rec (s:={s with heap:=h1}) g1 (by simp) λh2 g2 MN=>?_)
  refine Q_ ⟨_,rfl,Q_ (q h2 ⟨r_,o,t,?_,?_,S,Hg⟩ (FZ.trans MN))⟩
  ·rw[g2];rfl
  ·rw[(FZ.trans MN).2 a Ba];exact ho
 ·rw[he]at hn;cases hn
theorem zO (hh:A.handled=none)(Ba:a≠it){i:Nat}{Q:Option QZ->Q1->Prop}(st:FA prog w it a ts es ep i s.heap)(he:(bx w a ep es)[i]?=none)
  (q:∀h',Heap.ExtBut it s.heap h'->Q none {s with heap:=h'}):RA (model prog w) A (Vo (.ref it)) Q E s:=by
 obtain⟨sl,o,t,hi,ho,S,hb⟩:=st;have hT:=jo hi;unfold Vo;refine Q0 (UB (wpAny_callSpecial?_slot (name:=Str.ofString "__next__") hT bw (Tv bw hT fq ?_ (fV _))));unfold S4.«set_iterator.__next__»
 refine Q0 (Q_ ?_);refine Q0 (wpAny_fieldsOf hi rfl ?_);dsimp only;refine Q0 (Vi ho S.dat S.fits ?_);rw[if_neg (by simp)]
 refine Q0 (i7 (i:=i) ho S (λz=>by simpa using hb z) (λe' Ii r_ Hg=>?_) λhn=>?_)
 ·rw[he]at Ii;cases Ii
 ·dsimp only;refine Q0 (wpAny_setField hi rfl (by simp) ?_)
  refine Q0 ?_;simp only[newExc,newTuple];refine Q0 (TY ?_ (by size_fits))
  refine Q0 (m:=firstArgMember _ _) (VM (a:=Value.none) (by first|rfl|(simp only[firstArgMember];rfl)) ?_)
  refine TY ?_ (by size_fits)
  simp only[raiseNew];refine Q0 (wpAny_handled ?_);rw[show A.in1.handled=none from hh]
  refine Q0 (Q_ (wpAny_throw ?_));refine Q0 (wpAny_isInstance (T:="StopIteration") (b:=true) ⟨_,RV _ rfl,rfl⟩ isSubtype_stop ?_);exact Q_ (q _ (((Vl ..).extBut.push _).push _))
theorem wm {i:Nat}{Q:QZ->Q1->Prop}(st:FA prog w it a ts es ep i s.heap)(q:Q (.ref it) s):RA (model prog w) A (Vp (.ref it)) Q E s:=by
 obtain⟨sl,o,t,hi,ho,S,hb⟩:=st;have hT:=jo hi;refine wpAny_pyIter_slot hT fM (Tv fM hT kg ?_ (lb _));show RA _ _ (ret (.ref it)) _ _ s;exact Q_ ⟨_,rfl,"set_iterator",_,hT,bw.lookup,q⟩
theorem t5 (hh:A.handled=none)(Ba:a≠it):Walks prog w A it [it,a] [it] es.size (λi v=>∃e,(bx w a ep es)[i]?=some e/\v=e.2) (FA prog w it a ts es ep) where
 sub:=λb hb=>by rw[Rk.mp hb];exact Ru
 frame:=λi h h' ⟨sl,o,t,h1,h2,h3⟩ hk=>⟨sl,o,t,hk it Ru _ h1,hk a (Rt _ Ru) _ h2,h3⟩
 item:=λi s Q E hi st hQ=>by
  have hz:(bx w a ep es).size=es.size:=by
   have:=(fw w a ep es).length_eq;rw[Q9,Q9]at this;exact this
  have he:(bx w a ep es)[i]?=some (bx w a ep es)[i]:=getElem?_pos _ i (by lia)
  exact wo Ba st he λh' aA sb=>hQ _ h' s.toks ⟨_,he,rfl⟩ aA λb o hb e=>sb.extBut b o (λz=>hb (by rw[z];exact Rk.mpr rfl)) e
 done:=λs Q E st hQ=>by
  have hz:(bx w a ep es).size=es.size:=by
   have:=(fw w a ep es).length_eq;rw[Q9,Q9]at this;exact this
  exact zO hh Ba st (SV (by lia)) λh' eb=>hQ h' s.toks λb o hb e=>eb b o (λz=>hb (by rw[z];exact Rk.mpr rfl)) e
 self:=λi s Q E st hQ=>wm st hQ
theorem jq (ho:s.heap.get? a=some o) (S:b_ prog w o ts es ep t):s.TypeIs (.ref a) "set" := ⟨o,ho,S.ex.1⟩
theorem zC (ho:s.heap.get? a=some o)(S:b_ prog w o ts es ep t){Q:QZ->Q1->Prop}(q:Q (.ref s.heap.objs.size) {s with heap:=s.heap.push (mE 0 0 a es.size ep)}):
  RA (model prog w) A (Vp (.ref a)) Q E s:=by
 have hT:=jq ho S;refine wpAny_pyIter_slot hT F.slot_set_iter (Tv F.slot_set_iter hT kh ?_ (F.args_set_iter_1 _));unfold S4.«frozenset.__iter__» Builtin.Frozenset.slot0 Builtin.Frozenset.sizeOf;refine Q0 (Q0 (Q_ (Q_ ?_)));refine Q0 (Q0 (Vi ho S.dat S.fits (Q_ ?_)));refine Q0 (uv S ho ?_);rw[if_neg (by simp)]
 refine Q0 (Q_ ?_);refine Q0 (wpAny_setEpoch_of ho S.dat S.fits ?_);unfold newFields;refine Q0 (TY (Q_ ⟨_,rfl,"set_iterator",_,⟨_,RV _ rfl,rfl⟩,bw.lookup,?_⟩) (by size_fits))
 exact q
theorem zD (ho:s.heap.get? a=some o)(S:b_ prog w o ts es ep t){Q:Bool->Q1->Prop}(q:Q false s):RA (model prog w) A (VV (.ref a)) Q E s:=by
 have hT:=jq ho S;unfold VV;refine Q0 (wpAny_specialOf hT PySem.F.slot_set_len.lookup ?_);generalize Nv:("set.__len__" : String)=O1
 wp_delta
 rw[show splitId O1=some ("set","__len__") from by subst Nv;decide +kernel]
 subst Nv;refine Q0 (wpAny_isInstance (T:="set") (b:=true) hT (by rw[VW];kernel_rfl) ?_)
 refine wpAny_ite_split (λIq=>absurd Iq (by decide)) (λ_=>?_)
 refine wpAny_ite_split (λ_=>?_) (λIq=>absurd (by decide +kernel) Iq)
 refine Q0 (wpAny_typeOf hT ?_);exact Q_ q
theorem zQ (prog:Q6)(w:Rl)(a:Addr)(o:Obj)(ts:List (Addr×List Int))(es:Array (Int×QZ))(ep:Nat)(t:SetTable)(S:b_ prog w o ts es ep t):
  PySem.W.KdlSrc prog w "set" a a es.size (λi v=>∃e,(bx w a ep es)[i]?=some e/\v=e.2) (λh=>h.get? a=some o) where
 type:=λs ho=>jq ho S
 there:=λh ho=>⟨Rj ho,Rj ho⟩
 keep:=λh h' ho hk=>hk a (.inl rfl) _ ho
 notList:=by decide
 notTuple:=by decide
 hint:=λA E s Q ho q=>zD ho S q
 iter:=λA s hh ho=>⟨mE 0 0 a es.size ep,FA prog w s.heap.objs.size a ts es ep,λE Q q=>zC ho S q,t5 hh (RQ (Rj ho)),
  0,o,t,RV _ rfl,Q8 _ ho,S,λ_=>by
   obtain⟨b1,b2,b3⟩:=eG S.wf.ua 0;rcases Vs (SetTable.below t.place 0)with z|z
   ·exact z
   ·have:=b2 0 z;lia⟩
theorem og {α β:Type}{f:α->β}:∀{ts:List α} {l:List β},l.Perm (ts.map f)->∃us:List α,us.Perm ts/\l=us.map f
 |[],l,h=>⟨[],.refl _,List.perm_nil.mp h⟩
 |x::ts,l,h=>by
  obtain⟨l1,l2,rfl⟩:=List.append_of_mem (h.mem_iff.mpr (show f x∈(x::ts).map f from Ru))
  have h':(l1++l2).Perm (ts.map f):=(UN.symm.trans h).cons_inv;obtain⟨us,h1,h2⟩:=og h';obtain⟨u1,u2,rfl,e1,e2⟩:=List.map_eq_append_iff.mp h2.symm;refine⟨u1++x::u2,UN.trans (h1.cons x),?_⟩;rw[RS,RN,e1,e2]
end
section
variable {prog:Q6}{w:Rl}{A:R7}{E:QZ->Q1->Prop}{s:Q1}
variable {o:Obj}{ts:List (Addr×List Int)}{es:Array (Int×QZ)}{ep:Nat}{t:SetTable}
def jL (w:Rl):Obj:={cls:=.type "set",dict:=none,data:=.set #[] 0 (.fresh 0 0 (!yN w))}
theorem AI (prog:Q6)(w:Rl):b_ prog w (jL w) [] #[] 0 (.fresh 0 0 (!yN w)) where
 ex:=⟨rfl,rfl,rfl⟩
 dat:=rfl
 E2:=rfl
 wf:=⟨rfl,rfl,λi j _ hj=>absurd hj (VT _),λi hi=>absurd hi (VT _),⟨3,Q4 _,rfl⟩,Rr _,λi h hi=>by simp at hi⟩
 J4:=by show 0*5<7*3;decide
 B0:=by show 7<=8191;decide
 led:=rfl
 Fq:=rfl
 KA:=Sf
theorem xD {xs:List QZ} {R:QZ->Q1->Prop} (hc:UK "set.__new__" ⟨.type "set" :: xs,[]⟩=pure ()) (hx:xs=[]\/∃v,xs=[v]) (q:R (.ref s.heap.objs.size) {s with heap:=s.heap.push (jL w)}) :
  Up (model prog w) A (.call (.builtin "set.__new__") ⟨.type "set" :: xs,[]⟩) (wants R E) s:=by
 refine VS ?_;show RA _ A.in1 (UK "set.__new__" ⟨.type "set" :: xs,[]⟩ >>= λ_=>again (.builtin "set.__new__" ⟨.type "set" :: xs,[]⟩)) _ _ s;refine Q0 (VM hc (Q_ ⟨plainId_quiet F.plain_set_new _,Uj F.entry_set_new ?_⟩));rw[Vg F.plain_set_new _];unfold S4.«set.__new__» Builtin.Frozenset.newClass;have Og:=sub_set_self;obtain⟨hp,gs,dr,tk,os⟩:=s;rcases hx with rfl|⟨v,rfl⟩
 all_goals
  dsimp only
  wp_walk
  refine UI (Q_ ?_);dsimp only;simp only[newObj];exact Q0 (wpAny_alloc (Q_ (Q_ q)))
theorem uG {I:Addr}{fp wr:List Addr}{G:Array GenState->Array GenState->Prop}{vs:List (Addr×List Int)}{St:Nat->Q1->Prop}{R:Result->Q1->Prop}(hu:A.in1.units<Um)
  {n:Nat} {P:Nat->QZ->Prop} (W:WalksS prog w A.in1 I fp wr G n P St) (Pd:n=vs.length) (PJ:∀(i:Nat) (v:QZ),P i v->∃x,vs[i]?=some x/\v=.ref x.1) (sa:Addr) (Nh:sa∉fp) (hn:vs.length<1000) (hv:∀x∈vs,x.1∉wr/\x.1≠sa) :
  ∀(d i:Nat) (s:Q1) (o:Obj) (ts:List (Addr×List Int)) (es:Array (Int×QZ)) (ep:Nat) (t:SetTable),vs.length-i=d->i<=vs.length->St i s->BF prog w s.heap vs->s.heap.get? sa=some o->b_ prog w o ts es ep t ->
   (∀x∈ts,x∈vs.take i)->(∀x∈vs.take i,∃y∈ts,y.2=x.2)->ts.length<=i ->
   (∀s' o' cI dz mY t',Moved (sa::wr) G s s'->s'.heap.get? sa=some o'->b_ prog w o' cI dz mY t'->(∀x∈cI,x∈vs)->(∀x∈vs,∃y∈cI,y.2=x.2)->R (.ok (.ret .none)) s') ->
   Up (model prog w) A (.builtin "set.update.loop" ⟨[.ref sa,.ref I],[]⟩) R s:=by
 subst Pd;have pZ:sa∉wr:=λz=>Nh (W.sub _ z);have up:∀x∈wr,x∈sa::wr:=λx hx=>Rt _ hx;intro d
 induction d with
 |zero =>
  intro i s o ts es ep t hd hi st T ho S k1 k2 k3 hR;obtain rfl:i=vs.length:=by lia
  refine Uj F.entry_set_update_loop ?_;rw[Vg F.plain_set_update_loop _];show RA _ A.in1 (Vo (.ref I) >>= _) _ _ s;refine Q0 (W.done s _ _ st λs' mv=>?_);rw[UM]at k1 k2;exact Q_ (hR s' o ts es ep t (mv.mono up) (mv.heap sa _ pZ ho) S k1 k2)
 |succ d ih =>
  intro i s o ts es ep t hd hi st T ho S k1 k2 k3 hR;have lt:i<vs.length:=by lia
  refine Uj F.entry_set_update_loop ?_;rw[Vg F.plain_set_update_loop _];show RA _ A.in1 (Vo (.ref I) >>= _) _ _ s;refine Q0 (W.item i s _ _ lt st λv s1 hP FY mv=>?_);obtain⟨x,hx,rfl⟩:=PJ i v hP;have G_:x∈vs:=SE hx;have T1:BF prog w s1.heap vs:=λy hy=>by
   obtain⟨oy,its,n,g1,g2⟩:=T y hy;exact⟨oy,its,n,mv.heap _ _ (hv y hy).1 g1,g2⟩
  have HW:=mv.heap sa _ pZ ho;refine Q0 (Sj (CZ HW S (λy hy=>T1 y (List.mem_of_mem_take (k1 y hy))) (T1 x G_) hu (by lia) λh' o' cI dz mY t' added tk r0 r1 r2 r3 r4 r5=>?_))
  have N7:vs.take (i+1)=vs.take i++[x]:=by rw[VY,hx];rfl
  have keep:∀c oc,c≠sa->s1.heap.get? c=some oc->h'.get? c=some oc:=λc oc hc e=>by rw[r1.2 c hc];exact e
  have step:(∀y∈cI,y∈vs.take (i+1))/\(∀y∈vs.take (i+1),∃z∈cI,z.2=y.2)/\cI.length<=i+1:=by
   rw[N7]
   by_cases vw:∃y∈ts,y.2=x.2
   ·rw[r4 vw];refine⟨λy hy=>Sh _ (k1 y hy),λy hy=>?_,by lia⟩
    rcases Rx.mp hy with z|z
    ·exact k2 y z
    ·rw[Rk.mp z];exact vw
   ·have pm:=r5 λy hy e=>vw ⟨y,hy,e⟩;refine⟨λy hy=>?_,λy hy=>?_,by rw[pm.length_eq,Rq];lia⟩
    ·rcases Ra.mp (pm.mem_iff.mp hy)with rfl|z
     ·exact RX _ (Rk.mpr rfl)
     ·exact Sh _ (k1 y z)
    ·rcases Rx.mp hy with z|z
     ·obtain⟨u,hu,e⟩:=k2 y z;exact⟨u,pm.mem_iff.mpr (Rt _ hu),e⟩
     ·rw[Rk.mp z];exact⟨x,pm.mem_iff.mpr Ru,rfl⟩
  have OQ:Moved (sa::wr) G s {s1 with heap:=h',toks:=tk} :=
   (mv.mono up).then_heap r0 λc oc hc e=>keep c oc (λz=>hc (by rw[z];exact Ru)) e
  refine Q_ ⟨plainId_quiet F.plain_set_update_loop _,ih (i+1) _ o' cI dz mY t' (by lia) lt (W.frame _ s1 _ _ FY r0 λc hc oc e=>keep c oc (λz=>Nh (by rw[<- z];exact hc)) e) (λy hy=>?_) r2 r3 step.1 step.2.1 step.2.2 λs' o2 N6 P1 P2 t2 m1 m2 m3 m4 m5=>hR s' o2 N6 P1 P2 t2 (Moved.trans W.gtrans OQ m1) m2 m3 m4 m5⟩
  obtain⟨oy,its,n,g1,g2⟩:=T1 y hy;exact⟨oy,its,n,keep _ _ (hv y hy).2 g1,g2⟩
end
section
variable {prog:Q6}{w:Rl}{A:R7}{E:QZ->Q1->Prop}{s:Q1}
theorem u9 {l:Addr}{vs:List (Addr×List Int)}{Q:QZ->Q1->Prop}(hh:A.handled=none)(hu:A.units+16<Um)(hl:s.heap.IsList l (vs.map λx=>Value.ref x.1).toArray)(hn:vs.length<1000)(T:BF prog w s.heap vs)
  (q:∀(h':Heap) (tk:Nat) (o':Obj) (ts:List (Addr×List Int)) (es:Array (Int×QZ)) (ep:Nat) (t:SetTable),(∀c oc,s.heap.get? c=some oc->h'.get? c=some oc)->h'.get? s.heap.objs.size=some o'->b_ prog w o' ts es ep t ->
   (∀x∈ts,x∈vs)->(∀x∈vs,∃y∈ts,y.2=x.2)->Q (.ref s.heap.objs.size) {s with heap:=h',toks:=tk}) :
  RA (model prog w) A (call (.type "set") [.ref l]) Q E s:=by
 obtain⟨cx,QB,OR⟩:=F.called_set.mro;have M8:=F.called_set.made;have Of:=F.called_set.sub;refine UP (VS ?_);show RA _ _ (callAny (.type "set") _) _ _ _;refine Q_ ⟨Code.quiet_builtin _ (by decide +kernel),Uj F.entry_type_call ?_⟩
 rw[Around.under_plain (weight_type_call_type "set" [.ref l] []) rfl];have t1:=F.called_set.notType;have t2:=F.called_set.canCreate;have t3:=F.typeCall_set_1 (.ref l)
 repeat (any_goals (first|assumption|wp_step))
 have ls:l<s.heap.objs.size:=by obtain⟨ol,Lu,_⟩:=hl;exact Rj Lu
 refine Tw (xD (w:=w) (E:=E) (xs:=[.ref l]) (R:=λob sx=>ob=.ref s.heap.objs.size/\sx={s with heap:=s.heap.push (jL w)}) (F.newCall_set_1 _) (.inr ⟨_,rfl⟩) ⟨rfl,rfl⟩) λr sx hr=>?_
 cases r with
 |error e=>exact hr
 |ok fl =>
  cases fl with
  |ret ob =>
   obtain⟨rfl,rfl⟩:=hr;have hS:(s.heap.push (jL w)).get? s.heap.objs.size=some (jL w):=RV _ rfl;have hT:Shared.TypeIs {s with heap:=s.heap.push (jL w)} (.ref s.heap.objs.size) "set" := ⟨_,hS,rfl⟩
   have i1:=F.called_set.init.lookup;have i2:=F.called_set.init.bind (.ref s.heap.objs.size)
   repeat (any_goals (first|assumption|wp_step))
   refine Tw (U_ (R:=wants (λr s2=>r=.none/\Q (.ref s.heap.objs.size) s2) E) F.called_set.init.plain F.entry_set_init (check_set_init_1 hT ?_)) λr2 s2 mV=>?_
   ·obtain⟨ol,Lu,Bd,nl,NG⟩:=hl;obtain⟨c1,c2,c3,c4⟩:=ol;simp only at Bd NG;subst Bd NG;have Ls:(s.heap.push (jL w)).get? l=some {cls:=.type "list",dict:=c2,data:=.seq (vs.map λx=>Value.ref x.1).toArray nl,slots:=c4}:=Q8 _ Lu;have u1:=F.sub_list_set;have u2:=F.sub_list_frozenset;have u3:(Value.type "list" == Value.type "dict")=false:=by decide
    have Nr:(s.heap.push (jL w)).IsList l (vs.map λx=>Value.ref x.1).toArray:=⟨_,Ls,rfl,nl,rfl⟩;unfold S4.«set.__init__» noKeywords Builtin.Frozenset.updateFrom;generalize PK:Vp=PI
    wp_walk
    subst PK;refine wpAny_pyIter_list Nr ?_;refine Q0 (wpAny_runValue ?_);have O3:A.in1.in1.in1.handled=none:=by simp[hh]
    have uu:A.in1.in1.in1.units<Um:=by
     have e1:∀B:R7,B.in1.units=B.units+1:=λB=>rfl;rw[e1,e1,e1];lia
    have nI:l≠(s.heap.push (jL w)).objs.size:=by rw[Ve];exact RQ (T4 ls)
    have hf:s.heap.objs.size∉[(s.heap.push (jL w)).objs.size,l]:=by
     rw[Ve];simp only[Ra,Tx,or_false,not_or];exact⟨RQ (Nat.lt_succ_self _),Nat.ne_of_gt ls⟩
    have old:∀x∈vs,x.1<s.heap.objs.size:=λx hx=>by
     obtain⟨oy,its,n,g1,g2⟩:=T x hx;exact Rj g1
    refine uG (vs:=vs) uu ((Walks.list O3 _ l nI _).toS) (by simp) (λi v hv=>?_) s.heap.objs.size hf hn (λx hx=>?_) vs.length 0 _ (jL w) [] #[] 0 _ (by lia) (Rr _) ⟨⟨_,RV _ rfl,rfl,rfl⟩,Nr.push _⟩ (λx hx=>?_) (Q8 _ hS) (AI prog w) (λx hx=>by cases hx) (λx hx=>by simp at hx) (Rr _) λs' o' cI dz mY t' m1 m2 m3 m4 m5=>?_
    ·have hv:(vs.map λx=>Value.ref x.1).toArray[i]?=some v:=hv;rw[U5,Rn]at hv;obtain⟨x,e1,e2⟩:=RE.mp hv;exact⟨x,e1,e2.symm⟩
    ·have:=old x hx;refine⟨λz=>?_,RQ this⟩;have z:=Rk.mp z;rw[Ve]at z;exact absurd z (RQ (T4 this))
    ·obtain⟨oy,its,n,g1,g2⟩:=T x hx;exact⟨oy,its,n,Q8 _ (Q8 _ g1),g2⟩
    ·obtain⟨h',g',d',N8,Kv⟩:=s';have eg:g'=s.gens:=m1.gens;have ed:d'=s.drawn:=m1.drawn;have eo:Kv=s.os:=m1.os;subst eg ed eo;refine Q_ (Q_ ⟨rfl,q h' N8 o' cI dz mY t' (λc oc e=>?_) m2 m3 m4 m5⟩);have hc:=Rj e;refine m1.heap c oc (λz=>?_) (Q8 _ (Q8 _ e));rcases Ra.mp z with z|z
     ·exact absurd z (RQ hc)
     ·have z:=Rk.mp z;rw[Ve]at z;exact absurd z (RQ (T4 hc))
   ·cases r2 with
    |error e=>exact mV
    |ok PN =>
     cases PN with
     |ret r =>
      obtain⟨rfl,hq⟩:=mV
      repeat (any_goals (first|assumption|wp_step))
     |_=>exact mV.elim
  |_=>exact hr.elim
end
end ST
namespace TS
open PySem PyProof.Rows
section
variable {prog:Q6}{w:Rl}{A:R7}{E:QZ->Q1->Prop}{s:Q1}
theorem qt {x:QZ}{vs:List QZ}{kf:QZ->List Int}{Q:QZ->Q1->Prop}(hz:vs.length<=1000000)
  (col:∀(R:List QZ->Q1->Prop),(∀(h':Heap) (tk:Nat),(∀b o,s.heap.get? b=some o->h'.get? b=some o)->R vs {s with heap:=h',toks:=tk})->RA (model prog w) A.in1 (collect x) R E s)
  (T:lg s.heap kf s.heap.objs.size vs)
  (h:∀(out:List QZ) (h1 h':Heap) (tk:Nat) (n:Nat),out.Perm vs->out.Pairwise (λx y=>HT.lexLt (kf y) (kf x)=false)->(∀b o,s.heap.get? b=some o->h1.get? b=some o)->(∀b o,h1.get? b=some o->h'.get? b=some o)->h'.get? h1.objs.size=some (S6 "list" out.toArray n)->Q (.ref h1.objs.size) {s with heap:=h',toks:=tk}) :
  RA (model prog w) A (call (.builtin "sorted") [x]) Q E s:=by
 refine V4 kind_sorted plain_sorted entry_sorted (args_sorted1 _) ?_;unfold S4.«sorted»
 refine Q0 (m:=checkCount "sorted" 1 1 _) (Q_ ?_);refine Q0 (col _ λh' tk kp=>?_);have nl:vs.length<=Ri:=by rw[Sd];lia
 refine Q0 (wpAny_newList ?_ nl);have hl:(h'.push (S6 "list" vs.toArray 0)).get? h'.objs.size=some (S6 "list" vs.toArray 0):=RV _ rfl;have T':lg (h'.push (S6 "list" vs.toArray 0)) kf h'.objs.size vs:=λv hv=>by
  obtain⟨t,o,xs,k,e1,_,e3,r⟩:=T v hv;exact⟨t,o,xs,k,e1,RQ (Rj (kp _ _ e3)),Q8 _ (kp _ _ e3),r⟩
 refine Q0 (Sj (Tv slot_list_sort ⟨_,hl,rfl⟩ entry_list_sort (jO (s:={s with heap:=h'.push (S6 "list" vs.toArray 0),toks:=tk}) hl hz T' λout hp hs=>⟨_,rfl,?_⟩) (args_list_sort _)))
 obtain⟨n,hn⟩:=sortedHeap_at (out:=out.toArray) hl;refine Q_ ⟨_,rfl,h out h' _ tk n hp hs kp (λb o e=>?_) hn⟩;have hb:=Rj e;rw[sortedHeap_old (RQ hb) (by rw[size_push'];exact T4 hb)]
 exact Q8 _ e
end
end TS
namespace ST
open PySem PyProof.Rows
section
variable {prog:Q6}{w:Rl}{s:Q1}
theorem nB {a:Addr}{o:Obj}{ts:List (Addr×List Int)}{es:Array (Int×QZ)}{ep:Nat}{t:SetTable}(ho:s.heap.get? a=some o)(S:b_ prog w o ts es ep t)(hn:ts.length<=1000):
  ∃us:List (Addr×List Int),us.Perm ts/\∀(A:R7) (E:QZ->Q1->Prop) (R:List QZ->Q1->Prop),A.handled=none->(∀(h':Heap) (tk:Nat),(∀b o,s.heap.get? b=some o->h'.get? b=some o)->R (us.map λx=>Value.ref x.1) {s with heap:=h',toks:=tk}) ->
  RA (model prog w) A (collect (.ref a)) R E s:=by
 have hw:=fw w a ep es;rw[S.E2]at hw;obtain⟨us,h1,h2⟩:=og hw;refine⟨us,h1,λA E R hh q=>?_⟩;refine PySem.W.kdu_collect (zQ prog w a o ts es ep t S) hh ho (by rw[S.size.1,Sd];lia) λh' tk acc hk Ip=>?_
 have e:acc.toList=us.map λx=>Value.ref x.1:=by
  have hz:(bx w a ep es).size=es.size:=by
   have:=(fw w a ep es).length_eq;rw[Q9,Q9]at this;exact this
  have e2:us.map (λx=>Value.ref x.1)=(bx w a ep es).toList.map (·.2):=by
   rw[h2,SU];rfl
  rw[e2];apply To;intro i;rw[Rn,Rm,Rm]
  by_cases hi:i<acc.size
  ·obtain⟨x,g1,g2⟩:=Ip.2 i acc[i] (getElem?_pos acc i hi);rw[getElem?_pos acc i hi,g1,g2];rfl
  ·have:=Ip.1;rw[SV (by lia),SV (by lia)]
   rfl
 rw[e];exact q h' tk hk
end
end ST
namespace L2
open PySem PySem.Spec PySem.SeqAt PyProof.Rows HT
theorem f9:∀{a b:List Int},lexLt a b=false->lexLt b a=false->a=b
 |[],[],_,_=>rfl
 |[],_::_,h,_=>by cases h
 |_::_,[],_,h=>by cases h
 |x::xs,y::ys,h1,h2=>by
  rw[f7]at h1 h2
  by_cases e:x=y
  ·subst e;rw[if_pos rfl]at h1 h2;rw[f9 h1 h2]
  ·rw[if_neg e]at h1;rw[if_neg (λz=>e z.symm)]at h2;have:=of_decide_eq_false h1;have:=of_decide_eq_false h2;omega
theorem jP:∀{a b:List Int},lexLt a b=true->lexLt b a=false
 |[],[],h=>by cases h
 |[],_::_,_=>rfl
 |_::_,[],h=>by cases h
 |x::xs,y::ys,h=>by
  rw[f7]at h ⊢
  by_cases e:x=y
  ·subst e;rw[if_pos rfl]at h ⊢
   exact jP h
  ·rw[if_neg e]at h;rw[if_neg (λz=>e z.symm)];have:=of_decide_eq_true h;exact decide_eq_false (by lia)
theorem iE:∀{a b c:List Int},lexLt a b=true->lexLt b c=true->lexLt a c=true
 |[],[],_,h,_=>by cases h
 |[],_::_,[],_,h=>by cases h
 |[],_::_,_::_,_,_=>rfl
 |_::_,[],_,h,_=>by cases h
 |x::xs,y::ys,[],_,h=>by cases h
 |x::xs,y::ys,z::zs,h1,h2=>by
  rw[f7]at h1 h2 ⊢
  by_cases e:x=y
  ·subst e;rw[if_pos rfl]at h1
   by_cases e2:x=z
   ·subst e2;rw[if_pos rfl]at h2 ⊢
    exact iE h1 h2
   ·rw[if_neg e2]at h2 ⊢
    exact h2
  ·rw[if_neg e]at h1;have q1:=of_decide_eq_true h1
   by_cases e2:y=z
   ·subst e2;rw[if_neg e];exact h1
   ·rw[if_neg e2]at h2;have q2:=of_decide_eq_true h2;rw[if_neg (by omega)]
    exact decide_eq_true (by omega)
def rd (k:List Int):List (List Int)->List (List Int)
 |[]=>[k]
 |x::xs=>if lexLt x k=true then x::rd k xs else k::x::xs
def fL:List (List Int)->List (List Int)
 |[]=>[]
 |k::ks=>rd k (fL ks)
theorem hZ (k:List Int):∀xs,(rd k xs).Perm (k::xs)
 |[]=>.refl _
 |x::xs=>by
  unfold rd
  split
  ·exact((hZ k xs).cons x).trans (List.Perm.swap _ _ _)
  ·exact .refl _
theorem dJ:∀ks,(fL ks).Perm ks
 |[]=>.refl _
 |k::ks=>(hZ k (fL ks)).trans ((dJ ks).cons k)
abbrev rQ (ks:List (List Int)):Prop:=ks.Pairwise λx y=>HT.lexLt y x=false
theorem le_trans' {a b c:List Int}(h1:lexLt b a=false)(h2:lexLt c b=false):lexLt c a=false:=by
 cases h:lexLt c a with
 |false=>rfl
 |true =>
  cases hb:lexLt a b with
  |true=>rw[iE h hb]at h2;cases h2
  |false =>
   have:=f9 hb h1;subst this;rw[h]at h2;cases h2
theorem lP (k:List Int):∀xs,rQ xs->rQ (rd k xs)
 |[],_=>by simp[rd]
 |x::xs,h=>by
  obtain⟨h1,h2⟩:=SW.mp h;unfold rd
  split
  ·rename_i hx
   refine SW.mpr ⟨λy hy=>?_,lP k xs h2⟩;rcases Ra.mp ((hZ k xs).mem_iff.mp hy)with rfl|hy
   ·exact jP hx
   ·exact h1 y hy
  ·rename_i hx
   have Ft:lexLt x k=false:=by cases q:lexLt x k <;> simp_all
   refine SW.mpr ⟨λy hy=>?_,h⟩;rcases Ra.mp hy with rfl|hy
   ·exact Ft
   ·exact le_trans' Ft (h1 y hy)
theorem jm:∀ks,rQ (fL ks)
 |[]=>.nil
 |k::ks=>lP k _ (jm ks)
theorem iq:∀{a b:List (List Int)},a.Perm b->rQ a->rQ b->a=b
 |[],b,p,_,_=>by rw[List.nil_perm.mp p]
 |x::a,[],p,_,_=>by have:=p.length_eq;simp at this
 |x::a,y::b,p,ha,hb=>by
  obtain⟨a1,a2⟩:=SW.mp ha;obtain⟨b1,b2⟩:=SW.mp hb;have KY:x=y:=by
   rcases Ra.mp (p.mem_iff.mp (Ru (a:=x) (l:=a)))with h|h
   ·exact h
   ·rcases Ra.mp (p.mem_iff.mpr (Ru (a:=y) (l:=b)))with h' | h'
    ·exact h'.symm
    ·exact f9 (b1 x h) (a1 y h')
  subst KY;rw[iq (List.perm_cons x |>.mp p) a2 b2]
theorem v8 {a b:List (List Int)}(p:a.Perm b)(h:rQ a):a=fL b:=iq (p.trans (dJ b).symm) h (jm b)
def k_:List (List Int)->List (List Int)
 |[]=>[]
 |k::ks=>if k∈k_ ks then k_ ks else k::k_ ks
theorem fu:∀l:List (List Int),(k_ l).Nodup/\∀x,x∈k_ l↔x∈l
 |[]=>⟨Sf,λ_=>Iff.rfl⟩
 |k::ks=>by
  obtain⟨h1,h2⟩:=fu ks;unfold k_
  split
  ·rename_i h
   refine⟨h1,λx=>?_⟩;rw[h2 x,Ra];exact⟨.inr,λz=>z.elim (λe=>by rw[e];exact(h2 k).mp h) id⟩
  ·rename_i h
   refine⟨RM.mpr ⟨h,h1⟩,λx=>?_⟩;rw[Ra,Ra,h2 x]
theorem tu:∀l:List (List Int),(k_ l).length<=l.length
 |[]=>Q4 _
 |k::ks=>by
  have:=tu ks;unfold k_
  split
  ·exact Nat.le_succ_of_le this
  ·simpa using this
abbrev kD (k:List Int):D:=.tup (k.map D.int)
def dw:List D->Option (List (List Int))
 |[]=>some []
 |.tup a::ds=>match cO a,dw ds with
  |some k,some ks=>if k=[] then none else some (k::ks)
  |_,_=>none
 |_::_=>none
theorem jS:∀{ds:List D} {ks:List (List Int)},dw ds=some ks->ds=ks.map kD/\∀k∈ks,k≠[]
 |[],_,h=>by cases h;exact⟨rfl,λ_ z=>nomatch z⟩
 |.tup a::ds,ks,h=>by
  have h':(match cO a,dw ds with|some k,some ks=>if k=[] then none else some (k::ks)|_,_=>none)=some ks:=h
  cases ea:cO a with
  |none=>rw[ea]at h';cases h'
  |some k =>
   cases eb:dw ds with
   |none=>rw[ea,eb]at h';cases h'
   |some kr =>
    rw[ea,eb]at h'
    by_cases hk:k=[]
    ·simp[hk]at h'
    ·simp only[hk,if_false,VA]at h';subst h';obtain⟨h1,h2⟩:=jS eb;rw[RN,<- h1,oR ea];refine⟨rfl,λx hx=>?_⟩;rcases Ra.mp hx with rfl|hx
     ·exact hk
     ·exact h2 x hx
 |.bB::_,_,h=>by cases h
 |.bl _::_,_,h=>by cases h
 |.str _::_,_,h=>by cases h
 |.obj _::_,_,h=>by cases h
 |.int _::_,_,h=>by cases h
 |.lst _::_,_,h=>by cases h
 |.dT _ _::_,_,h=>by cases h
 |.dK _ _::_,_,h=>by cases h
 |.sT _::_,_,h=>by cases h
 |.ob _::_,_,h=>by cases h
theorem hJ:∀{ks:List (List Int)},(∀k∈ks,k≠[])->dw (ks.map kD)=some ks
 |[],_=>rfl
 |k::ks,h=>by
  show (match cO (k.map D.int),dw (ks.map kD)with|some k,some ks=>if k=[] then none else some (k::ks)|_,_=>none)=_
  rw[lO,hJ λx hx=>h x (Rt _ hx)];simp[h k (Ru ..)]
section
variable {P:Q6}{w:Rl}{W:Addr->Prop}{H:Hp}
theorem hG:∀{ks:List (List Int)} {vs:List V},(∀k∈ks,k≠[])->ag P w W H (ks.map kD) vs->∃ts:List (Addr×List Int),vs=ts.map nH/\vh H ts/\ts.map (·.2)=ks
 |[],_,_,h=>⟨[],h,(λ_ z=>nomatch z),rfl⟩
 |k::ks,_,hk,⟨v,r,e,⟨a,us,e1,e2,e3⟩,h2⟩=>by
  obtain⟨ts,q1,q2,q3⟩:=hG (λx hx=>hk x (Rt _ hx)) h2;refine⟨(a,k)::ts,by rw[e,e1,q1];rfl,λt ht=>?_,by rw[RN,q3]⟩
  rcases Ra.mp ht with rfl|ht
  ·rw[bQ e3]at e2;exact⟨e2,hk k (Ru ..)⟩
  ·exact q2 t ht
theorem fz:∀{ts:List (Addr×List Int)},(∀t∈ts,H t.1=some (.tup (t.2.map V.int)))->ag P w W H ((ts.map (·.2)).map kD) (ts.map nH)
 |[],_=>rfl
 |t::ts,h=>⟨_,_,rfl,⟨t.1,_,rfl,h t (Ru ..),lN t.2⟩,fz λx hx=>h x (Rt _ hx)⟩
def mZ:List D->Option D
 |[.lst ds]=>match dw ds with
  |some ks=>if ks.length<=1000000 then some (.lst ((fL ks).map kD)) else none
  |none=>none
 |[.sT ts]=>if ts.length<=1000/\(∀k∈ts,k≠[]) then some (.lst ((fL ts).map kD)) else none
 |_=>none
theorem xQ:∀{ns:List Int} {its:List QZ},Vals (ns.map V.int) its->ItemsAre (intKind P w) ns its
 |[],_,.nil=>.nil
 |n::ns,_,.cons r t=>by
  obtain⟨tk,rfl⟩:=r;exact .cons (by show VN n (.int n tk)=true;simp[VN]) (xQ t)
theorem C6 {h:Heap}{ts:List (Addr×List Int)}(ok:eW P w H h)(T:∀t∈ts,H t.1=some (.tup (t.2.map V.int))):ST.BF P w h ts:=λt ht=>by
 obtain⟨_,its,r,o,ho,hc,n,hd⟩:=(show bH P w H h t.1 (.tup (t.2.map V.int)) from ok _ _ (T t ht))
 refine⟨o,its.toArray,n,ho,hc,hd,?_⟩;exact xQ r
def Cs:List D->Option D
 |[.lst ds]=>match dw ds with
  |some ks=>if ks.length<1000 then some (.sT (k_ ks)) else none
  |none=>none
 |_=>none
end
section
end
theorem vb {X:Cx} (hc:X.calm=true) (hu:X.A.units+16<Um):dC X (.type "set") Cs:=by
 intro pins s σ H xs us Q I r h;obtain⟨W,ds,d,hd,r1,e,q⟩:=h
 match ds,e with
 |[.lst es],e =>
  have e':(match dw es with|some ks=>if ks.length<1000 then some (D.sT (k_ ks)) else none|none=>none)=some d:=e
  cases ek:dw es with
  |none=>rw[ek]at e';cases e'
  |some ks =>
   rw[ek]at e';obtain⟨hl,rfl⟩:=eE e';obtain⟨rfl,hk⟩:=jS ek;obtain⟨x,rfl,p,vs,rfl,hp,n1,q1⟩:=kq r1;obtain⟨ts,rfl,T,rfl⟩:=hG hk q1;obtain⟨u,rfl,rx⟩:=vals1 r;cases rx;obtain⟨its,r',pl,hz⟩:=I.list (dg.of hp);obtain rfl:=gO r';refine ST.u9 (w:=X.w) (I.ok.hd hc) hu pl.isList (by simpa using hl) (C6 I.bj λt ht=>(T t ht).1) λh' tk o' cI es ep t kp ho S m1 m2=>?_
   have EK:H s.heap.objs.size=none:=I.bj.fresh (Q4 _);have nd:=fu (ts.map (·.2));refine⟨.ref s.heap.objs.size,_,I.laid (t':=tk) (o:=BH X.prog X.w s.heap.objs.size cI) kp (Q4 _) ?_,rfl,q _ _ (az.new EK) ⟨_,rfl,⟨cI,ao,λx hx=>?_,?_⟩,sU hd EK⟩⟩
   ·refine⟨⟨o',es,ep,t,ho,S⟩,⟨o',ho⟩,λh1 h2 yb k=>by obtain⟨o1,e1,P4,t1,g1,g2⟩:=yb;exact⟨o1,e1,P4,t1,k _ g1,g2⟩⟩
   ·exact(az.new EK) _ _ (T x (m1 x hx)).1
   ·refine(List.perm_ext_iff_of_nodup S.KA nd.1).mpr λk=>?_;rw[nd.2 k,R5,R5];constructor
    ·rintro⟨x,hx,rfl⟩;exact⟨x,m1 x hx,rfl⟩
    ·rintro⟨x,hx,rfl⟩;obtain⟨y,hy,e⟩:=m2 x hx;exact⟨y,hy,e⟩
def gz (ns:List Int):Prop:=∃x y:Int,ns=[x,y]/\0<=x/\0<=y/\y<2147483647
theorem Hand.ok {H:Hp}{h:Addr}(d:Hand H h):∃ns,H h=some (.lst (ns.map V.int))/\gz ns:=by
 obtain⟨x,y,e,h1,h2,h3⟩:=d;exact⟨[x,y],e,x,y,rfl,h1,h2,h3⟩
theorem gz.hand {H:Hp}{h:Addr}{ns:List Int}(e:H h=some (.lst (ns.map V.int)))(o:gz ns):Hand H h:=by
 obtain⟨x,y,rfl,h1,h2,h3⟩:=o;exact⟨x,y,e,h1,h2,h3⟩
def bI:FD:=λds R=>∃n:Int,ds=[.int n]/\0<n/\n<2 ^ 200/\∀r:Int,0<=r->r<n->R (.int r)
theorem bI.mono:dS bI:=λds R R' k ⟨n,e,h1,h2,q⟩=>⟨n,e,h1,h2,λr a b=>k _ (q r a b)⟩
section
end
section
variable {X:Cx}{W:Addr->Prop}{H:Hp}
theorem ux {p:Addr}{vs:List V}{ds:List D}(n:H p=none)(f:NL (.lst ds))(r:qc X W H ds vs):Rp X (λa=>H a≠none) (upd H p (.lst vs)) (.lst ds) (.ref p) :=
 ⟨p,vs,rfl,ao,λz=>z n,ag.flat f (r.same (az.new n))⟩
def J9 (X:Cx)(f:D->D->Option D):R2:=λx y H Q=>∃W d1 d2 d,Dm W H/\Rp X W H d1 x/\Rp X W H d2 y/\f d1 d2=some d/\∀v H',az H H'->Rp X W H' d v->(NL d->Rp X (λa=>H a≠none) H' d v)->Q v H'
def J8 (X:Cx)(f:List D->Option D):List V->Hp->VK->Prop:=λxs H Q=>∃W ds d,Dm W H/\qc X W H ds xs/\f ds=some d/\∀v H',az H H'->Rp X W H' d v->(NL d->Rp X (λa=>H a≠none) H' d v)->Q v H'
def F6 (X:Cx)(f:D->Option Int->Option Int->Option D):V->Option Int->Option Int->Hp->VK->Prop:=λx lo hi H Q=>∃W d1 d,Dm W H/\Rp X W H d1 x/\f d1 lo hi=some d/\∀v H',az H H'->Rp X W H' d v->(NL d->Rp X (λa=>H a≠none) H' d v)->Q v H'
abbrev Mr (X:Cx)(f:QZ->QZ->Sem QZ)(g:D->D->Option D):Prop:=gL X f (J9 X g)
abbrev rS (X:Cx)(f:QZ)(g:List D->Option D):Prop:=eR X f (J8 X g)
theorem ay:Mr X (Tq .Add) E5:=by
 intro pins s σ H x y v u Q I rx ry h;obtain⟨W,d1,d2,d,hd,r1,r2,e,q⟩:=h;rcases uF e with⟨a,b,rfl,rfl,e⟩|e
 ·obtain⟨hl,rfl⟩:=eE e;obtain⟨p,vs,rfl,h1,n1,q1⟩:=r1;obtain⟨p',vs',rfl,h2,n2,q2⟩:=r2;exact xm pins s σ H _ _ v u Q I rx ry ⟨p,p',vs,vs',rfl,rfl,h1,h2,by rw[q1.length,q2.length];exact hl,λl uR=>q _ _ (az.new uR) (Rp.g7 hd uR (q1.append q2)) λf=>ux uR f (q1.append q2)⟩
 ·obtain⟨i,j,rfl,rfl,e⟩:=hX e;cases e;cases r1;cases r2;exact qO pins s σ H _ _ v u Q I rx ry ⟨i,j,rfl,rfl,q _ _ (az.refl _) rfl λ_=>rfl⟩
theorem zN:Mp X (F6 X NP):=by
 intro pins s σ H x v vl vu lo hi sl Q I rx hs pl pu h;obtain⟨W,d1,d,hd,r1,e,q⟩:=h;cases d1 with
 |lst ds =>
  cases e;obtain⟨p,vs,rfl,h1,n1,q1⟩:=r1;have rr:qc X W H (cutD ds lo hi) (pK vs lo hi):=by
   unfold pK cutD;rw[q1.length];exact(ag.drop _ q1).take _
  exact r9 pins s σ H _ v vl vu lo hi sl Q I rx hs pl pu ⟨p,vs,rfl,dg.of h1,λl hl=>q _ _ (az.new hl) (Rp.g7 hd hl rr) λf=>ux hl f rr⟩
 |_=>cases e
theorem pN:rS X (.type "list") dList:=by
 intro pins s σ H xs us Q I r h;obtain⟨W,ds,d,hd,r1,e,q⟩:=h
 match ds,e with
 |[.lst es],e =>
  cases e;obtain⟨v,r',rfl,⟨p,vs,rfl,h1,n1,q1⟩,hr⟩:=r1;cases hr;exact gK pins s σ H _ us Q I r ⟨p,vs,rfl,.inl (dg.of h1),λl hl=>q _ _ (az.new hl) (Rp.g7 hd hl q1) λf=>ux hl f q1⟩
 |[.tup es],e =>
  cases e;obtain⟨v,r',rfl,⟨p,vs,rfl,h1,q1⟩,hr⟩:=r1;cases hr;exact gK pins s σ H _ us Q I r ⟨p,vs,rfl,.inr (vi.of h1),λl hl=>q _ _ (az.new hl) (Rp.g7 hd hl q1) λf=>ux hl f q1⟩
theorem m_:rS X (.builtin "sorted") (λds=>match ds with | [.lst ds]=>mZ [.lst ds]|_=>none):=by
 intro pins s σ H xs us Q I r h;obtain⟨W,ds,d,hd,r1,e,q⟩:=h
 match ds,e with
 |[.lst es],e =>
  have e':(match dw es with|some ks=>if ks.length<=1000000 then some (D.lst ((fL ks).map kD)) else none|none=>none)=some d:=e
  cases ek:dw es with
  |none=>rw[ek]at e';cases e'
  |some ks =>
   rw[ek]at e';obtain⟨hl,rfl⟩:=eE e';obtain⟨rfl,hk⟩:=jS ek;obtain⟨x,rfl,p,vs,rfl,hp,n1,q1⟩:=kq r1;obtain⟨ts,rfl,T,rfl⟩:=hG hk q1;refine m8 pins s σ H _ us Q I r ⟨p,ts,rfl,dg.of hp,T,by simpa using hl,λl cI uR Fu O_=>?_⟩
   have eq:cI.map (·.2)=fL (ts.map (·.2)):=v8 (Fu.map _) (Tj.mpr O_);rw[<- eq]at q;have rk:=fz (P:=X.prog) (w:=X.w) (W:=W) (H:=H) (ts:=cI) λt ht=>(T t (Fu.mem_iff.mp ht)).1;exact q _ _ (az.new uR) (Rp.g7 hd uR rk) λf=>ux uR f rk
theorem m9 (hc:X.calm=true):rS X (.builtin "sorted") (λds=>match ds with | [.sT ts]=>mZ [.sT ts]|_=>none):=by
 intro pins s σ H xs us Q I r h;obtain⟨W,ds,d,hd,r1,e,q⟩:=h
 match ds,e with
 |[.sT ks],e =>
  obtain⟨⟨hl,hk⟩,rfl⟩:=eE (show (if ks.length<=1000/\(∀k∈ks,k≠[]) then some (D.lst ((fL ks).map kD)) else none)=some d from e)
  obtain⟨x,rfl,p,rfl,⟨ts,hp,T,pm⟩,nW⟩:=kq r1;obtain⟨u,rfl,rx⟩:=vals1 r;cases rx;obtain⟨⟨o,es,ep,t,ho,S⟩,_,_⟩:=(show bH X.prog X.w H s.heap p (BH X.prog X.w p ts) from I.bj p _ hp)
  have tl:ts.length=ks.length:=by rw[<- pm.length_eq,Q3]
  have T':vh H ts:=λt ht=>⟨T t ht,hk _ (pm.mem_iff.mp (R5.mpr ⟨t,ht,rfl⟩))⟩;obtain⟨us,xV,col⟩:=ST.nB (s:=s) ho S (by omega)
  have T2:vh H us:=λt ht=>T' t (xV.mem_iff.mp ht);refine TS.qt (vs:=us.map λx=>Value.ref x.1) (kf:=qV H) (by rw[Q3,xV.length_eq];omega) (λR hR=>col _ _ R (by simp[I.ok.hd hc]) λh' tk kp=>hR h' tk kp) (rX I.bj T2 (Q4 _)) λout h1 h' tk n zk hs k1 kp A_=>?_
  ·obtain⟨e1,e2⟩:=lD T2 zk;have zl:out.length=us.length:=by rw[zk.length_eq,Q3]
   have eq:(out.map (Ck H)).map (·.2)=fL ks:=by
    refine v8 ((e2.trans xV).map _ |>.trans pm) ?_
    refine Tj.mpr (Tj.mpr ?_);refine hs.imp_of_mem λ{x y} hx hy hh=>?_;obtain⟨t,ht,rfl⟩:=R5.mp (zk.mem_iff.mp hx);obtain⟨t',O5,rfl⟩:=R5.mp (zk.mem_iff.mp hy);exact hh
   have I1:Inv X pins σ H {s with heap:=h1,toks:=s.toks}:=I.kept k1
   have EK:H h1.objs.size=none:=I1.bj.fresh (Q4 _);refine⟨.ref h1.objs.size,_,I1.laid (t':=tk) (o:=.lst ((out.map (Ck H)).map nH)) kp (Q4 _) ?_,rfl,q _ _ (az.new EK) ?_ ?_⟩
   ·refine⟨by rw[Q3,Q3,zl,xV.length_eq,Sd];omega,out,n,?_,A_⟩
    have:=gU (out.map (Ck H));rw[<- e1]at this;exact this
   ·rw[<- eq];exact Rp.g7 hd EK (fz λt ht=>(T2 t (e2.mem_iff.mp ht)).1)
   ·rw[<- eq];exact λf=>ux (W:=W) EK f (fz λt ht=>(T2 t (e2.mem_iff.mp ht)).1)
end
section
end
end L2
namespace L2.Q
open PySem PySem.Spec PySem.SeqAt PyProof.Rows
section
variable (P:Q6)(w:Rl)(H:Hp)
mutual
def Own:D->V->List Addr->Prop
 |.tup ds,v,A=>∃a vs,v=.ref a/\H a=some (.tup vs)/\aH ds vs A
 |.lst ds,v,A=>∃a vs A',v=.ref a/\H a=some (.lst vs)/\A=a::A'/\aH ds vs A'
 |.dT ks ds,v,A=>∃a vs A',v=.ref a/\H a=some (.dT (ks.zip vs))/\ks.length=vs.length/\A=a::A'/\aH ds vs A'
 |.dK ks ds,v,A=>∃a vs A',v=.ref a/\H a=some (.dK (ks.zip vs))/\ks.length=vs.length/\A=a::A'/\aH ds vs A'
 |.sT ts,v,A=>∃a,v=.ref a/\BG P w H a ts/\A=[a]
 |.ob φ,v,A=>∃a,v=.ref a/\(H a=some (φ a)/\∀xs,φ a≠.tup xs)/\A=[a]
 |.bB,v,A=>v=.bB/\A=[]
 |.bl b,v,A=>v=.bl b/\A=[]
 |.int i,v,A=>v=.int i/\A=[]
 |.str x,v,A=>v=.str x/\A=[]
 |.obj a,v,A=>v=.ref a/\A=[]
def aH:List D->List V->List Addr->Prop
 |[],vs,A=>vs=[]/\A=[]
 |d::ds,vs,A=>∃v r A1 A2,vs=v::r/\A=A1++A2/\Own d v A1/\aH ds r A2
end
end
section
variable {P:Q6}{w:Rl}{W:Addr->Prop}{H H':Hp}
theorem t6 {a:Addr}{ts:List (List Int)}(k:∀b xs,H b=some (.tup xs)->H' b=some (.tup xs))(ha:∀o,H a=some o->H' a=some o)(h:BG P w H a ts):BG P w H' a ts :=
 let ⟨cI,e,r,z⟩:=h;⟨cI,ha _ e,λx hx=>k _ _ (r x hx),z⟩
mutual
theorem Own.keep (k:∀b xs,H b=some (.tup xs)->H' b=some (.tup xs)):∀{d:D} {v:V} {A:List Addr},(∀c∈A,∀o,H c=some o->H' c=some o)->Own P w H d v A->Own P w H' d v A
 |.tup ds,_,_,ha,⟨a,vs,e,t,r⟩=>⟨a,vs,e,k a vs t,aH.keep k ha r⟩
 |.lst ds,_,_,ha,⟨a,vs,A',e,t,eA,r⟩=>⟨a,vs,A',e,ha a (by rw[eA];simp) _ t,eA,aH.keep k (λc hc=>ha c (by rw[eA];simp[hc])) r⟩
 |.dT ks ds,_,_,ha,⟨a,vs,A',e,t,l,eA,r⟩=>⟨a,vs,A',e,ha a (by rw[eA];simp) _ t,l,eA,aH.keep k (λc hc=>ha c (by rw[eA];simp[hc])) r⟩
 |.dK ks ds,_,_,ha,⟨a,vs,A',e,t,l,eA,r⟩=>⟨a,vs,A',e,ha a (by rw[eA];simp) _ t,l,eA,aH.keep k (λc hc=>ha c (by rw[eA];simp[hc])) r⟩
 |.sT ts,_,_,ha,⟨a,e,r,eA⟩=>⟨a,e,t6 k (λo ho=>ha a (by rw[eA];simp) o ho) r,eA⟩
 |.ob φ,_,_,ha,⟨a,e,r,eA⟩=>⟨a,e,⟨ha a (by rw[eA];simp) _ r.1,r.2⟩,eA⟩
 |.bB,_,_,_,h=>h
 |.bl _,_,_,_,h=>h
 |.int _,_,_,_,h=>h
 |.str _,_,_,_,h=>h
 |.obj _,_,_,_,h=>h
theorem aH.keep (k:∀b xs,H b=some (.tup xs)->H' b=some (.tup xs)):∀{ds:List D} {vs:List V} {A:List Addr},(∀c∈A,∀o,H c=some o->H' c=some o)->aH P w H ds vs A->aH P w H' ds vs A
 |[],_,_,_,h=>h
 |d::ds,_,_,ha,⟨v,r,A1,A2,e,eA,h1,h2⟩=>⟨v,r,A1,A2,e,eA,Own.keep k (λc hc=>ha c (by rw[eA];simp[hc])) h1,aH.keep k (λc hc=>ha c (by rw[eA];simp[hc])) h2⟩
end
mutual
theorem Own.rep:∀{d:D} {v:V} {A:List Addr},(∀c∈A,¬ W c)->Own P w H d v A->aw P w W H d v
 |.tup ds,_,_,ha,⟨a,vs,e,t,r⟩=>⟨a,vs,e,t,aH.rep ha r⟩
 |.lst ds,_,_,ha,⟨a,vs,A',e,t,eA,r⟩=>⟨a,vs,e,t,ha a (by rw[eA];simp),aH.rep (λc hc=>ha c (by rw[eA];simp[hc])) r⟩
 |.dT ks ds,_,_,ha,⟨a,vs,A',e,t,l,eA,r⟩=>⟨a,vs,e,t,l,ha a (by rw[eA];simp),aH.rep (λc hc=>ha c (by rw[eA];simp[hc])) r⟩
 |.dK ks ds,_,_,ha,⟨a,vs,A',e,t,l,eA,r⟩=>⟨a,vs,e,t,l,ha a (by rw[eA];simp),aH.rep (λc hc=>ha c (by rw[eA];simp[hc])) r⟩
 |.sT ts,_,_,ha,⟨a,e,r,eA⟩=>⟨a,e,r,ha a (by rw[eA];simp)⟩
 |.ob φ,_,_,ha,⟨a,e,r,eA⟩=>⟨a,e,r,ha a (by rw[eA];simp)⟩
 |.bB,_,_,_,h=>h.1
 |.bl _,_,_,_,h=>h.1
 |.int _,_,_,_,h=>h.1
 |.str _,_,_,_,h=>h.1
 |.obj _,_,_,_,h=>h.1
theorem aH.rep:∀{ds:List D} {vs:List V} {A:List Addr},(∀c∈A,¬ W c)->aH P w H ds vs A->ag P w W H ds vs
 |[],_,_,_,h=>h.1
 |d::ds,_,_,ha,⟨v,r,A1,A2,e,eA,h1,h2⟩=>⟨v,r,e,Own.rep (λc hc=>ha c (by rw[eA];simp[hc])) h1,aH.rep (λc hc=>ha c (by rw[eA];simp[hc])) h2⟩
end
mutual
theorem Own.kG:∀{d:D} {v:V} {A:List Addr},Own P w H d v A->∀c∈A,H c≠none/\∀xs,H c≠some (.tup xs)
 |.tup ds,_,_,⟨a,vs,e,t,r⟩,c,hc=>aH.kG r c hc
 |.lst ds,_,_,⟨a,vs,A',e,t,eA,r⟩,c,hc=>by
  rw[eA]at hc;rcases Ra.mp hc with rfl|hc
  ·rw[t];exact⟨λz=>(nomatch z),λxs z=>by cases z⟩
  ·exact aH.kG r c hc
 |.dT ks ds,_,_,⟨a,vs,A',e,t,l,eA,r⟩,c,hc=>by
  rw[eA]at hc;rcases Ra.mp hc with rfl|hc
  ·rw[t];exact⟨λz=>(nomatch z),λxs z=>by cases z⟩
  ·exact aH.kG r c hc
 |.dK ks ds,_,_,⟨a,vs,A',e,t,l,eA,r⟩,c,hc=>by
  rw[eA]at hc;rcases Ra.mp hc with rfl|hc
  ·rw[t];exact⟨λz=>(nomatch z),λxs z=>by cases z⟩
  ·exact aH.kG r c hc
 |.sT ts,_,_,⟨a,e,⟨cI,t,r,z⟩,eA⟩,c,hc=>by
  rw[eA]at hc;rw[Rk.mp hc,t];exact⟨λz=>(nomatch z),λxs z=>by cases z⟩
 |.ob φ,_,_,⟨a,e,⟨t,z⟩,eA⟩,c,hc=>by
  rw[eA]at hc;rw[Rk.mp hc,t];exact⟨λz=>(nomatch z),λxs q=>z xs (RC q)⟩
 |.bB,_,_,h,c,hc=>by rw[h.2]at hc;cases hc
 |.bl _,_,_,h,c,hc=>by rw[h.2]at hc;cases hc
 |.int _,_,_,h,c,hc=>by rw[h.2]at hc;cases hc
 |.str _,_,_,h,c,hc=>by rw[h.2]at hc;cases hc
 |.obj _,_,_,h,c,hc=>by rw[h.2]at hc;cases hc
theorem aH.kG:∀{ds:List D} {vs:List V} {A:List Addr},aH P w H ds vs A->∀c∈A,H c≠none/\∀xs,H c≠some (.tup xs)
 |[],_,_,h,c,hc=>by rw[h.2]at hc;cases hc
 |d::ds,_,_,⟨v,r,A1,A2,e,eA,h1,h2⟩,c,hc=>by
  rw[eA]at hc;rcases Rx.mp hc with hc|hc
  ·exact Own.kG h1 c hc
  ·exact aH.kG h2 c hc
end
mutual
theorem da:∀{d:D} {v:V},d.flat=true->aw P w W H d v->Own P w H d v []
 |.tup ds,_,f,⟨a,vs,e,t,r⟩=>⟨a,vs,e,t,fC (by simpa[D.flat] using f) r⟩
 |.lst ds,_,f,_=>by simp[D.flat]at f
 |.dT ks ds,_,f,_=>by simp[D.flat]at f
 |.dK ks ds,_,f,_=>by simp[D.flat]at f
 |.sT ts,_,f,_=>by simp[D.flat]at f
 |.ob φ,_,f,_=>by simp[D.flat]at f
 |.bB,_,_,h=>⟨h,rfl⟩
 |.bl _,_,_,h=>⟨h,rfl⟩
 |.int _,_,_,h=>⟨h,rfl⟩
 |.str _,_,_,h=>⟨h,rfl⟩
 |.obj _,_,_,h=>⟨h,rfl⟩
theorem fC:∀{ds:List D} {vs:List V},D.bR ds=true->ag P w W H ds vs->aH P w H ds vs []
 |[],_,_,h=>⟨h,rfl⟩
 |d::ds,_,f,⟨v,r,e,h1,h2⟩=>by
  have f':(d.flat&&D.bR ds)=true:=f;rw[RZ]at f';exact⟨v,r,[],[],e,rfl,da f'.1 h1,fC f'.2 h2⟩
end
theorem aH.length:∀{ds:List D} {vs:List V} {A:List Addr},aH P w H ds vs A->vs.length=ds.length
 |[],_,_,h=>by rw[h.1];rfl
 |d::ds,_,_,⟨v,r,A1,A2,e,eA,h1,h2⟩=>by rw[e,Rq,Rq,aH.length h2]
theorem aH.append:∀{ds ds':List D} {vs vs':List V} {A A':List Addr},aH P w H ds vs A->aH P w H ds' vs' A'->aH P w H (ds++ds') (vs++vs') (A++A')
 |[],_,_,_,_,_,h,h'=>by rw[h.1,h.2];exact h'
 |d::ds,_,_,_,_,_,⟨v,r,A1,A2,e,eA,h1,h2⟩,h'=>by
  subst e eA;exact⟨v,_,A1,_,rfl,by rw[R8],h1,aH.append h2 h'⟩
theorem aH.one {d:D}{v:V}{A:List Addr}(h:Own P w H d v A):aH P w H [d] [v] A:=⟨v,[],A,[],rfl,by simp,h,rfl,rfl⟩
theorem aH.split:∀{ds:List D} {vs:List V} {A:List Addr} {i:Nat} {d:D},aH P w H ds vs A->ds[i]?=some d->∃v A1 A2 A3,vs[i]?=some v/\A=A1++(A2++A3)/\aH P w H (ds.take i) (vs.take i) A1/\Own P w H d v A2/\aH P w H (ds.drop (i+1)) (vs.drop (i+1)) A3
 |[],_,_,_,_,_,e=>by simp at e
 |d::ds,_,_,0,_,⟨v,r,A1,A2,e,eA,h1,h2⟩,e'=>by
  simp at e';subst e' e eA;exact⟨v,[],A1,A2,by simp,by simp,⟨rfl,rfl⟩,h1,by simpa using h2⟩
 |d::ds,_,_,i+1,_,⟨v,r,A1,A2,e,eA,h1,h2⟩,e'=>by
  subst e eA;obtain⟨u,B1,B2,B3,g1,g2,g3,g4,g5⟩:=aH.split (i:=i) h2 (by simpa using e')
  exact⟨u,A1++B1,B2,B3,by simpa using g1,by rw[g2];simp[R8],by simpa using ⟨v,_,A1,B1,rfl,rfl,h1,g3⟩,g4,by simpa using g5⟩
end
inductive Kd where
 |own|dU|old|bor
inductive B where
 |val (y:Bool) (d:D)|own (d:D)|hand (ok:List Int->Prop)|shl (y:Bool) (d:D)
abbrev aX:=List (Option B)
structure Cfg where
 H0:Hp
 IO:Addr->Prop
 /-- is the result to be Gq own -/
 ro:Bool
 /-- what else KC data keeps off -/
 U:Addr->Prop:=λ_=>False
abbrev Wn (own:Nat->List Addr):Addr->Prop:=λa=>∃i,a∈own i
def av (C:Cfg)(W:Addr->Prop):Kd->Addr->Prop
 |.own,a=>W a\/C.H0 a≠none
 |.dU,a=>W a\/C.H0 a≠none
 |.old,a=>W a
 |.bor,_=>False
def eV (C:Cfg)(W:Addr->Prop)(k:Kd)(a:Addr):Prop:=av C W k a\/C.U a
abbrev yk (y:Bool):Kd:=match y with|true=>.dU|false=>.old
def Om:D->HO->List V->Prop
 |.lst _,o,vs=>o=.lst vs
 |.dT ks _,o,vs=>o=.dT (ks.zip vs)/\ks.length=vs.length
 |.dK ks _,o,vs=>o=.dK (ks.zip vs)/\ks.length=vs.length
 |_,_,_=>False
def Oo:D->List D
 |.lst ds=>ds
 |.dT _ ds=>ds
 |.dK _ ds=>ds
 |_=>[]
def FC (P:Q6)(w:Rl)(W:Addr->Prop)(H:Hp)(d:D)(v:V)(A:List Addr):Prop:=∃a o vs,v=.ref a/\A=[a]/\H a=some o/\Om d o vs/\ag P w W H (Oo d) vs
theorem FC.map {P:Q6}{w:Rl}{W W':Addr->Prop}{H H':Hp}{d:D}{v:V}{A:List Addr}(h:FC P w W H d v A)(ha:∀c∈A,∀o,H c=some o->H' c=some o)(hr:∀ds vs,ag P w W H ds vs->ag P w W' H' ds vs):FC P w W' H' d v A :=
 let ⟨a,o,vs,e1,e2,e3,e4,r⟩:=h;⟨a,o,vs,e1,e2,ha a (by rw[e2];simp) o e3,e4,hr _ _ r⟩
theorem FC.rep {P:Q6}{w:Rl}{W W':Addr->Prop}{H:Hp}{d:D}{v:V}{A:List Addr}(h:FC P w W H d v A)(ha:∀c∈A,¬ W' c)(hs:∀ds vs,ag P w W H ds vs->ag P w W' H ds vs):aw P w W' H d v:=by
 obtain⟨a,o,vs,rfl,rfl,e,sh,r⟩:=h;have na:=ha a (by simp)
 replace r:=hs _ _ r;cases d with
 |lst ds=>cases sh;exact⟨a,vs,rfl,e,na,r⟩
 |dT ks ds=>obtain⟨rfl,l⟩:=sh;exact⟨a,vs,rfl,e,l,na,r⟩
 |dK ks ds=>obtain⟨rfl,l⟩:=sh;exact⟨a,vs,rfl,e,l,na,r⟩
 |_=>exact sh.elim
structure bA (P:Q6)(w:Rl)(C:Cfg)(σ:St)(H:Hp)(β:aX)(own:Nat->List Addr):Prop where
 len:β.length=σ.length
 val:∀(i:Nat) (y:Bool) (d:D),β[i]?=some (some (.val y d))->∃v,σ[i]?=some (some v)/\aw P w (eV C (Wn own) (yk y)) H d v
 ow:∀(i:Nat) (d:D),β[i]?=some (some (.own d))->∃v,σ[i]?=some (some v)/\Own P w H d v (own i)/\∀c∈own i,C.H0 c=none
 kB:∀(i:Nat) (ok:List Int->Prop),β[i]?=some (some (.hand ok))->∃a ns,σ[i]?=some (some (.ref a))/\H a=some (.lst (ns.map V.int))/\ok ns/\own i=[a]/\((∀b,¬ C.IO b)\/C.IO a)
 dm:∀(i:Nat) (a:Addr),a∈own i->H a≠none/\(∀xs,H a≠some (.tup xs))/\(C.H0 a=none\/C.IO a)/\¬ C.U a
 iZ:∀(i j:Nat) (a:Addr),a∈own i->a∈own j->i=j
 kR:∀i,(own i).Nodup
 kp:Kp C.IO C.H0 H
 fT:∀a,C.H0 a≠none->H a≠none
 shl:∀(i:Nat) (y:Bool) (d:D),β[i]?=some (some (.shl y d))->∃v,σ[i]?=some (some v)/\FC P w (eV C (Wn own) (yk y)) H d v (own i)/\∀c∈own i,C.H0 c=none
abbrev SQ (X:Cx):=bA X.prog X.w
section
variable {P:Q6}{w:Rl}{C:Cfg}{σ:St}{H H':Hp}{β:aX}{own:Nat->List Addr}{W W':Addr->Prop}
theorem bA.uY (b:bA P w C σ H β own):Dm (Wn own) H:=λa ⟨i,h⟩=>(b.dm i a h).1
theorem bA.yC (b:bA P w C σ H β own)(k:Kd):Dm (av C (Wn own) k) H:=λa h=>by
 cases k with
 |own=>exact h.elim (b.uY a) (b.fT a)
 |dU=>exact h.elim (b.uY a) (b.fT a)
 |old=>exact b.uY a h
 |bor=>exact h.elim
theorem i6 (s:∀a,W' a->W a)(k:Kd):∀a,av C W' k a->av C W k a:=λa h=>by
 cases k with
 |own=>exact h.imp (s a) id
 |dU=>exact h.imp (s a) id
 |old=>exact s a h
 |bor=>exact h
theorem fv (s:∀a,W' a->W a)(k:Kd):∀a,eV C W' k a->eV C W k a:=λa h=>h.imp (i6 s k a) id
theorem bA.keep (b:bA P w C σ H β own)(k:Kp (λa=>H a=none) H H')(kp:Kp C.IO H H')(dn:∀a,H a≠none->H' a≠none):bA P w C σ H' β own:=by
 have ko:∀c o,H c=some o->H' c=some o:=λc o e=>k.out c o e (by rw[e];exact λz=>(nomatch z))
 have same:az H H':=ko;exact⟨b.len,λi y d e=>let ⟨v,h1,h2⟩:=b.val i y d e;⟨v,h1,h2.same same⟩,λi d e=>let ⟨v,h1,h2,h3⟩:=b.ow i d e;⟨v,h1,h2.keep (λ_ _ e=>same _ _ e) (λc _ o e=>same c o e),h3⟩,
  λi ok e=>let ⟨a,ns,h1,h2,h3⟩:=b.kB i ok e;⟨a,ns,h1,same _ _ h2,h3⟩,λi a h=>by
   obtain⟨h1,h2,h3⟩:=b.dm i a h;cases q:H a with
   |none=>exact absurd q h1
   |some o=>rw[same a o q];exact⟨λz=>(nomatch z),λxs z=>h2 xs (by rw[q];exact z),h3⟩,b.iZ,b.kR,b.kp.trans kp,λa z=>dn a (b.fT a z),λi y d e=>let ⟨v,h1,h2,h3⟩:=b.shl i y d e;⟨v,h1,h2.map (λc _ o e=>same c o e) (λ_ _ r=>r.same same),h3⟩⟩
theorem bA.same (b:bA P w C σ H β own)(s:az H H'):bA P w C σ H' β own:=b.keep s.kp s.kp λa z e=>z (s.free e)
theorem dD {own:Nat->List Addr}{i:Nat}{a:Addr}(h:Wn (aJ own i []) a):Wn own a:=let ⟨j,q⟩:=h;⟨j,(a5 q).1⟩
theorem a6 {own:Nat->List Addr}{i j:Nat}{A:List Addr}(h:i≠j):aJ own i A j=own j:=by unfold aJ;rw[if_neg (Ud h)]
theorem os_eq {own:Nat->List Addr}{i:Nat}{A:List Addr}:aJ own i A i=A:=by unfold aJ;rw[if_pos rfl]
theorem bA.dX {i:Nat}{d:D}{v:V}{y:Bool}(b:bA P w C σ H β own)(r:aw P w (eV C (Wn own) (yk y)) H d v):bA P w C (σ.set i (some v)) H (β.set i (some (.val y d))) (aJ own i []):=by
 have sub:∀y a,eV C (Wn (aJ own i [])) (yk y) a->eV C (Wn own) (yk y) a:=λy=>fv (λa h=>dD h) _;refine⟨by simp[b.len],λj y' d' e=>?_,λj d' e=>?_,λj ok e=>?_,λj a h=>b.dm j a (a5 h).1,λj k a h1 h2=>b.iZ j k a (a5 h1).1 (a5 h2).1,λj=>?_,b.kp,b.fT,λj y' d' e=>?_⟩
 ·by_cases aG:i=j
  ·subst aG;obtain⟨e',hl⟩:=aZ e;cases e';exact⟨v,get_set (by rw[<- b.len];exact hl),r.aP (sub _)⟩
  ·rw[aU aG]at e ⊢
   obtain⟨u,h1,h2⟩:=b.val j y' d' e;exact⟨u,h1,h2.aP (sub _)⟩
 ·by_cases aG:i=j
  ·subst aG;obtain⟨e',hl⟩:=aZ e;cases e'
  ·rw[aU aG]at e ⊢
   rw[a6 aG];exact b.ow j d' e
 ·by_cases aG:i=j
  ·subst aG;obtain⟨e',hl⟩:=aZ e;cases e'
  ·rw[aU aG]at e ⊢
   rw[a6 aG];exact b.kB j ok e
 ·by_cases aG:i=j
  ·rw[aG,os_eq];exact Sf
  ·rw[a6 aG];exact b.kR j
 ·by_cases aG:i=j
  ·subst aG;obtain⟨e',hl⟩:=aZ e;cases e'
  ·rw[aU aG]at e ⊢
   rw[a6 aG];obtain⟨u,h1,h2,h3⟩:=b.shl j y' d' e;exact⟨u,h1,h2.map (λ_ _ _ z=>z) (λ_ _ r=>ag.aP (sub _) r),h3⟩
theorem bA.wx {i:Nat}{d:D}{v:V}{A:List Addr}(b:bA P w C σ H β own)(r:Own P w H d v A)(nd:A.Nodup)(nw:∀c∈A,C.H0 c=none/\¬ Wn own c/\C.U c):
  bA P w {C with U:=λ_=>False} (σ.set i (some v)) H (β.set i (some (.own d))) (aJ own i A):=by
 have sub:∀y a,eV {C with U:=λ_=>False} (Wn (aJ own i A)) (yk y) a->eV C (Wn own) (yk y) a:=λy a h=>by
  have q:∀a,Wn (aJ own i A) a->Wn own a\/a∈A:=λa xW=>by
   obtain⟨j,q⟩:=xW
   by_cases aG:i=j
   ·rw[aG,os_eq]at q;exact .inr q
   ·rw[a6 aG]at q;exact .inl ⟨j,q⟩
  have q':∀a,Wn (aJ own i A) a->Wn own a\/C.U a:=λa z=>(q a z).imp id λz=>(nw a z).2.2;rcases h with h|h
  ·cases y with
   |true=>exact h.elim (λz=>(q' a z).imp .inl id) λz=>.inl (.inr z)
   |false=>exact q' a h
  ·exact h.elim
 have mem:∀{j c},c∈aJ own i A j->(i=j/\c∈A)\/(i≠j/\c∈own j):=λ{j c} h=>by
  by_cases aG:i=j
  ·subst aG;rw[os_eq]at h;exact .inl ⟨rfl,h⟩
  ·rw[a6 aG]at h;exact .inr ⟨aG,h⟩
 refine⟨by simp[b.len],λj y' d' e=>?_,λj d' e=>?_,λj ok e=>?_,λj a h=>?_,λj k a h1 h2=>?_,λj=>?_,b.kp,b.fT,λj y' d' e=>?_⟩
 ·by_cases aG:i=j
  ·subst aG;obtain⟨e',hl⟩:=aZ e;cases e'
  ·rw[aU aG]at e ⊢
   obtain⟨u,h1,h2⟩:=b.val j y' d' e;exact⟨u,h1,h2.aP (sub _)⟩
 ·by_cases aG:i=j
  ·subst aG;obtain⟨e',hl⟩:=aZ e;cases e';rw[os_eq];exact⟨v,get_set (by rw[<- b.len];exact hl),r,λc hc=>(nw c hc).1⟩
  ·rw[aU aG]at e ⊢
   rw[a6 aG];exact b.ow j d' e
 ·by_cases aG:i=j
  ·subst aG;obtain⟨e',hl⟩:=aZ e;cases e'
  ·rw[aU aG]at e ⊢
   rw[a6 aG];exact b.kB j ok e
 ·rcases mem h with⟨_,h⟩|⟨_,h⟩
  ·exact⟨(r.kG a h).1,(r.kG a h).2,.inl (nw a h).1,λz=>z⟩
  ·exact⟨(b.dm j a h).1,(b.dm j a h).2.1,(b.dm j a h).2.2.1,λz=>z⟩
 ·rcases mem h1 with⟨e1,h1⟩|⟨n1,h1⟩
  ·rcases mem h2 with⟨e2,h2⟩|⟨n2,h2⟩
   ·rw[<- e1,<- e2]
   ·exact absurd ⟨k,h2⟩ (nw a h1).2.1
  ·rcases mem h2 with⟨e2,h2⟩|⟨n2,h2⟩
   ·exact absurd ⟨j,h1⟩ (nw a h2).2.1
   ·exact b.iZ j k a h1 h2
 ·by_cases aG:i=j
  ·rw[<- aG,os_eq];exact nd
  ·rw[a6 aG];exact b.kR j
 ·by_cases aG:i=j
  ·subst aG;obtain⟨e',hl⟩:=aZ e;cases e'
  ·rw[aU aG]at e ⊢
   rw[a6 aG];obtain⟨u,h1,h2,h3⟩:=b.shl j y' d' e;exact⟨u,h1,h2.map (λ_ _ _ z=>z) (λ_ _ r=>ag.aP (sub _) r),h3⟩
theorem bA.freeze {i:Nat}{d:D}(b:bA P w C σ H β own)(h:β[i]?=some (some (.own d))):bA P w C σ H (β.set i (some (.val true d))) (aJ own i []):=by
 obtain⟨v,h1,h2,h3⟩:=b.ow i d h;have e:σ.set i (some v)=σ:=by
  apply To;intro j;rw[Tn]
  by_cases aG:i=j
  ·subst aG;rw[if_pos rfl,h1];have:i<σ.length:=(Rw.mp h1).1;rw[if_pos this]
  ·rw[if_neg aG]
 have q:=bA.dX (i:=i) (d:=d) (v:=v) (y:=true) (own:=aJ own i []) (C:=C) (P:=P) (w:=w) (σ:=σ) (H:=H) (β:=β.set i none);have b':bA P w C σ H (β.set i none) (aJ own i []):=by
  have sub:∀y a,eV C (Wn (aJ own i [])) (yk y) a->eV C (Wn own) (yk y) a:=λy=>fv (λa h=>dD h) _;refine⟨by simp[b.len],λj y' d' e=>?_,λj d' e=>?_,λj ok e=>?_,λj a h=>b.dm j a (a5 h).1,λj k a h1 h2=>b.iZ j k a (a5 h1).1 (a5 h2).1,λj=>?_,b.kp,b.fT,λj y' d' e=>?_⟩
  ·by_cases aG:i=j
   ·subst aG;obtain⟨e',hl⟩:=aZ e;cases e'
   ·rw[aU aG]at e;obtain⟨u,h1,h2⟩:=b.val j y' d' e;exact⟨u,h1,h2.aP (sub _)⟩
  ·by_cases aG:i=j
   ·subst aG;obtain⟨e',hl⟩:=aZ e;cases e'
   ·rw[aU aG]at e;rw[a6 aG];exact b.ow j d' e
  ·by_cases aG:i=j
   ·subst aG;obtain⟨e',hl⟩:=aZ e;cases e'
   ·rw[aU aG]at e;rw[a6 aG];exact b.kB j ok e
  ·by_cases aG:i=j
   ·rw[aG,os_eq];exact Sf
   ·rw[a6 aG];exact b.kR j
  ·by_cases aG:i=j
   ·subst aG;obtain⟨e',hl⟩:=aZ e;cases e'
   ·rw[aU aG]at e;rw[a6 aG];obtain⟨u,h1,h2,h3⟩:=b.shl j y' d' e;exact⟨u,h1,h2.map (λ_ _ _ z=>z) (λ_ _ r=>ag.aP (sub _) r),h3⟩
 have q:=bA.dX (i:=i) (d:=d) (v:=v) (y:=true) b' (h2.rep λc hc z=>by
  rcases z with (z|z)|z
  ·obtain⟨j,hj⟩:=z;obtain⟨hj,ne⟩:=a5 hj;exact ne (b.iZ j i c hj hc)
  ·exact z (h3 c hc)
  ·exact(b.dm i c hc).2.2.2 z)
 rw[e,List.set_set]at q;have eo:aJ (aJ own i []) i []=aJ own i []:=by
  funext j
  by_cases aG:i=j
  ·rw[<- aG,os_eq,os_eq]
  ·rw[a6 aG,a6 aG]
 rwa [eo]at q
abbrev Cfg.u (C:Cfg)(U:Addr->Prop):Cfg:={C with U:=U}
theorem bA.rV {U:Addr->Prop}(b:bA P w C σ H β own)(hU:∀a,U a->H a=none):bA P w (C.u U) σ H β own :=
 ⟨b.len,λi y d e=>let ⟨v,h1,h2⟩:=b.val i y d e;⟨v,h1,aw.grow (λa z=>z.elim (λz=>.inl (.inl z)) λz=>.inr (hU a z)) h2⟩,b.ow,b.kB,λi a h=>let ⟨h1,h2,h3,_⟩:=b.dm i a h;⟨h1,h2,h3,λz=>h1 (hU a z)⟩,b.iZ,b.kR,b.kp,b.fT,λi y d e=>let ⟨v,h1,h2,h3⟩:=b.shl i y d e;⟨v,h1,h2.map (λ_ _ _ z=>z) (λ_ _ r=>ag.grow (λa z=>z.elim (λz=>.inl (.inl z)) λz=>.inr (hU a z)) r),h3⟩⟩
theorem bA.OJ {U:Addr->Prop}(b:bA P w (C.u U) σ H β own):bA P w (C.u λ_=>False) σ H β own :=
 ⟨b.len,λi y d e=>let ⟨v,h1,h2⟩:=b.val i y d e;⟨v,h1,aw.aP (λa z=>z.elim .inl λz=>z.elim) h2⟩,b.ow,b.kB,λi a h=>let ⟨h1,h2,h3,_⟩:=b.dm i a h;⟨h1,h2,h3,λz=>z⟩,b.iZ,b.kR,b.kp,b.fT,λi y d e=>let ⟨v,h1,h2,h3⟩:=b.shl i y d e;⟨v,h1,h2.map (λ_ _ _ z=>z) (λ_ _ r=>ag.aP (λa z=>z.elim .inl λz=>z.elim) r),h3⟩⟩
theorem bA.iL {i:Nat}{y:Bool}{d:D}(b:bA P w C σ H β own)(e:β[i]?=some (some (.val y d))):∃v,σ[i]?=some (some v)/\aw P w (av C (Wn own) (yk y)) H d v:=let ⟨v,h1,h2⟩:=b.val i y d e;⟨v,h1,aw.aP (λa z=>.inl z) h2⟩
end
def KV (P:Q6)(w:Rl)(C:Cfg)(Z:Hp×(Addr->Prop))(own:Nat->List Addr)(H:Hp):Kd->D->V->Prop
 |.own,d,v=>∃A,Own P w H d v A/\A.Nodup/\∀c∈A,Z.1 c=none/\¬ Wn own c/\C.H0 c=none
 |.dU,d,v=>aw P w (av C (Wn own) .dU) H d v
 |.old,d,v=>aw P w (av C (Wn own) .old) H d v
 |.bor,d,v=>aw P w (av C (Wn own) .bor) H d v
structure Mq (P:Q6)(w:Rl)(C:Cfg)(σ:St)(H:Hp)(own:Nat->List Addr)(p:Bool)(β':aX)(H':Hp)(aK:Nat->List Addr):Prop where
 sq:bA P w C σ H' β' aK
 sn:Sn (H,Wn own) H' (Wn aK)
 pu:p=true->az H H'/\aK=own
 le:∀a,Wn aK a->Wn own a
abbrev Out (X:Cx):=Mq X.prog X.w
section
variable {X:Cx}{C:Cfg}{σ:St}{H H1 H2 H':Hp}{own aB a3:Nat->List Addr}{p p':Bool}{β β1 β2 β':aX}{Z:Hp×(Addr->Prop)}{d:D}{v:V}{k:Kd}{P:Q6}{w:Rl}
theorem Out.refl (s:SQ X C σ H β own)(p:Bool):Out X C σ H own p β H own:=⟨s,Sn.refl,λ_=>⟨az.refl _,rfl⟩,λ_ z=>z⟩
theorem Out.trans (a:Out X C σ H own p β1 H1 aB)(b:Out X C σ H1 aB p' β2 H2 a3):Out X C σ H own (p&&p') β2 H2 a3:=⟨b.sq,a.sn.trans b.sn,λh=>by
 rw[RZ]at h;obtain⟨s1,e1⟩:=a.pu h.1;obtain⟨s2,e2⟩:=b.pu h.2;exact⟨s1.trans s2,e2.trans e1⟩,λc z=>a.le c (b.le c z)⟩
theorem Out.same (a:Out X C σ H own p β1 H1 aB)(s:az H1 H2):Out X C σ H own p β1 H2 aB:=⟨a.sq.same s,a.sn.same s,λh=>let ⟨s1,e1⟩:=a.pu h;⟨s1.trans s,e1⟩,a.le⟩
theorem Out.wk (a:Out X C σ H own p β1 H1 aB)(h:p'=true->p=true):Out X C σ H own p' β1 H1 aB:=⟨a.sq,a.sn,λz=>a.pu (h z),a.le⟩
theorem KV.rep (h:KV P w C Z own H k d v):aw P w (av C (Wn own) k) H d v:=by
 cases k with
 |own=>obtain⟨A,h1,h2,h3⟩:=h;exact h1.rep λc hc z=>z.elim (h3 c hc).2.1 λz=>z (h3 c hc).2.2
 |_=>exact h
theorem KV.dU (h:KV P w C Z own H .own d v):KV P w C Z own H .dU d v:=KV.rep (k:=.own) h
theorem KV.flat {W:Addr->Prop}(f:d.flat=true)(h:aw P w W H d v):KV P w C Z own H .own d v:=⟨[],da f h,Sf,λc hc=>(nomatch hc)⟩
abbrev Kd.wk:Kd->Kd
 |.own=>.dU
 |.dU=>.dU
 |.old=>.old
 |.bor=>.bor
abbrev Kd.max:Kd->Kd->Kd
 |.bor,_=>.bor
 |_,.bor=>.bor
 |.old,_=>.old
 |_,.old=>.old
 |_,_=>.dU
theorem b6 {W:Addr->Prop}{a b:Kd}:∀c,av C W (a.max b) c->av C W a c:=λc h=>by
 cases a <;> cases b <;> first|exact h|exact h.elim|exact .inl h
theorem dB {W:Addr->Prop}{a b:Kd}:∀c,av C W (a.max b) c->av C W b c:=λc h=>by
 cases a <;> cases b <;> first|exact h|exact h.elim|exact .inl h
theorem KV.of (h:aw P w (av C (Wn own) k.wk) H d v):KV P w C Z own H k.wk d v:=by
 cases k <;> exact h
theorem KV.F0 (h:KV P w C Z own H k d v)(s:az H H'):KV P w C Z own H' k d v:=by
 cases k with
 |own=>obtain⟨A,h1,h2⟩:=h;exact⟨A,h1.keep (λb xs e=>s _ _ e) (λc _ o e=>s c o e),h2⟩
 |dU=>exact aw.same s h
 |old=>exact aw.same s h
 |bor=>exact aw.same s h
theorem KV.held (hk:k≠.bor)(h:KV P w C Z own H k d v)(n:Sn (H,Wn own) H2 (Wn a3)):KV P w C Z a3 H2 k d v:=by
 cases k with
 |own =>
  obtain⟨A,h1,h2,h3⟩:=h;refine⟨A,h1.keep n.k.tup (λc hc o e=>n.k.out c o e λz=>z.elim (h3 c hc).2.1 λz=>(h1.kG c hc).1 z),h2,λc hc=>⟨(h3 c hc).1,λz=>(n.w c z).elim (h3 c hc).2.1 λz=>(h1.kG c hc).1 z,(h3 c hc).2.2⟩⟩
 |dU =>
  have g:aw P w (λa=>av C (Wn own) .dU a\/H a=none) H d v:=aw.grow (λb z=>z) h;exact aw.aP (λb z=>z.elim (λz=>(n.w b z).imp .inl id) λz=>.inl (.inr z)) (aw.keep (n.k.mono λb z=>z.imp .inl id) g)
 |old=>exact held (W:=Wn own) h n
 |bor=>exact absurd rfl hk
theorem KV.Ig (h:KV P w C Z own H k d v)(s:az H H2)(e:a3=own):KV P w C Z a3 H2 k d v:=by rw[e];exact h.F0 s
abbrev hold (k:Kd)(p:Bool):Prop:=match k,p with
 |.bor,false=>False
 |_,_=>True
theorem KV.ho (h:KV P w C Z own H k d v)(o:Out X C σ H own p β' H2 a3)(hh:hold k p):KV P w C Z a3 H2 k d v:=by
 cases p with
 |true=>obtain⟨s,e⟩:=o.pu rfl;exact h.Ig s e
 |false=>exact h.held (by rintro rfl;exact hh) o.sn
theorem KV.later (h:KV P w C (H1,Wn aB) own H k d v)(n:Sn Z H1 (Wn aB)):KV P w C Z own H k d v:=by
 cases k with
 |own=>obtain⟨A,h1,h2,h3⟩:=h;exact⟨A,h1,h2,λc hc=>⟨n.free (h3 c hc).1,(h3 c hc).2⟩⟩
 |_=>exact h
end
abbrev aN:=aX->(D->Kd->aX->Prop)->Prop
abbrev aY:=aX->(Bool->aX->Prop)->Prop
abbrev bS:=aX->(List D->List Kd->aX->Prop)->Prop
def tQ (X:Cx)(C:Cfg)(p:Bool)(φ:aN):TE:=λσ H Q=>∃β own,SQ X C σ H β own/\φ β λd k β'=>∀v H' aK,Out X C σ H own p β' H' aK->KV X.prog X.w C (H,Wn own) aK H' k d v->Q v H'
def iM (X:Cx)(C:Cfg)(p:Bool)(φ:aY):TT:=λσ H Q=>∃β own,SQ X C σ H β own/\φ β λb β'=>∀H' aK,Out X C σ H own p β' H' aK->Q b H'
def KF (P:Q6)(w:Rl)(C:Cfg)(own:Nat->List Addr)(H:Hp):List Kd->List D->List V->List Addr->Prop
 |[],ds,vs,A=>ds=[]/\vs=[]/\A=[]
 |k::ks,ds,vs,A=>∃d dr v vr A1 A2,ds=d::dr/\vs=v::vr/\A=A1++A2/\(match k with | .own=>Own P w H d v A1|k=>A1=[]/\aw P w (av C (Wn own) k) H d v)/\KF P w C own H ks dr vr A2
def pW (P:Q6)(w:Rl)(C:Cfg)(Z:Hp×(Addr->Prop))(own:Nat->List Addr)(H:Hp)(ks:List Kd)(ds:List D)(vs:List V):Prop :=
 ∃A,KF P w C own H ks ds vs A/\A.Nodup/\∀c∈A,Z.1 c=none/\¬ Wn own c/\C.H0 c=none
def qp (X:Cx)(C:Cfg)(p:Bool)(φ:bS):TA:=λσ H Q=>∃β own,SQ X C σ H β own/\φ β λds ks β'=>∀vs H' aK,Out X C σ H own p β' H' aK->pW X.prog X.w C (H,Wn own) aK H' ks ds vs->Q vs H'
section
variable {C:Cfg}{H H1:Hp}{own aB:Nat->List Addr}{Z:Hp×(Addr->Prop)}{d:D}{v:V}{k:Kd}{P:Q6}{w:Rl}{ks:List Kd}{ds:List D}{vs:List V}
theorem pW.nil:pW P w C Z own H [] [] []:=⟨[],⟨rfl,rfl,rfl⟩,Sf,λc hc=>(nomatch hc)⟩
theorem KF.kG:∀{ks:List Kd} {ds:List D} {vs:List V} {A:List Addr},KF P w C own H ks ds vs A->∀c∈A,H c≠none
 |[],_,_,_,⟨_,_,e⟩,c,hc=>by rw[e]at hc;cases hc
 |k::ks,_,_,_,⟨d,dr,v,vr,A1,A2,rfl,rfl,rfl,h1,h2⟩,c,hc=>by
  rcases Rx.mp hc with hc|hc
  ·cases k with
   |own=>exact(Own.kG h1 c hc).1
   |_=>rw[h1.1]at hc;cases hc
  ·exact KF.kG h2 c hc
theorem pW.cons (h1:KV P w C Z aB H1 k d v)(n:Sn (H1,Wn aB) H (Wn own))(Bf:KV P w C Z own H k d v)(h2:pW P w C (H1,Wn aB) own H ks ds vs)(n0:Sn Z H1 (Wn aB)):pW P w C Z own H (k::ks) (d::ds) (v::vs):=by
 obtain⟨A2,f2,DV,q2⟩:=h2;have z2:∀c∈A2,Z.1 c=none/\¬ Wn own c/\C.H0 c=none:=λc hc=>⟨n0.free (q2 c hc).1,(q2 c hc).2⟩;cases k with
 |own =>
  obtain⟨A1,o1,AK,q1⟩:=h1;obtain⟨QY,QG,OM,MS⟩:=(show KV P w C Z own H .own d v from KV.held (k:=.own) (λz=>(nomatch z)) (⟨A1,o1,AK,q1⟩:KV P w C Z aB H1 .own d v) n)
  have Kx:Own P w H d v A1:=o1.keep n.k.tup (λc hc o e=>n.k.out c o e λz=>z.elim (q1 c hc).2.1 λz=>(o1.kG c hc).1 z);refine⟨A1++A2,⟨d,ds,v,vs,A1,A2,rfl,rfl,rfl,Kx,f2⟩,Sw.mpr ⟨AK,DV,λa ha b hb e=>?_⟩,λc hc=>?_⟩
  ·subst e;exact(o1.kG a ha).1 (q2 a hb).1
  ·rcases Rx.mp hc with hc|hc
   ·exact⟨(q1 c hc).1,λz=>(n.w c z).elim (q1 c hc).2.1 λz=>(o1.kG c hc).1 z,(q1 c hc).2.2⟩
   ·exact z2 c hc
 |dU=>exact⟨A2,⟨d,ds,v,vs,[],A2,rfl,rfl,rfl,⟨rfl,Bf⟩,f2⟩,DV,z2⟩
 |old=>exact⟨A2,⟨d,ds,v,vs,[],A2,rfl,rfl,rfl,⟨rfl,Bf⟩,f2⟩,DV,z2⟩
 |bor=>exact⟨A2,⟨d,ds,v,vs,[],A2,rfl,rfl,rfl,⟨rfl,Bf⟩,f2⟩,DV,z2⟩
abbrev f_:List Kd->Kd
 |[]=>.dU
 |k::ks=>Kd.max k (f_ ks)
theorem KF.gT:∀{ks:List Kd} {ds:List D} {vs:List V} {A:List Addr},KF P w C own H ks ds vs A->(∀c∈A,¬ Wn own c/\C.H0 c=none)->ag P w (av C (Wn own) (f_ ks)) H ds vs
 |[],_,_,_,⟨e1,e2,e⟩,_=>by rw[e1,e2];rfl
 |k::ks,_,_,_,⟨d,dr,v,vr,A1,A2,rfl,rfl,rfl,h1,h2⟩,hA=>by
  refine⟨v,vr,rfl,?_,ag.aP dB (KF.gT h2 λc hc=>hA c (RX _ hc))⟩;cases k with
  |own=>exact aw.aP b6 (Own.rep (W:=av C (Wn own) .own) (λc hc z=>z.elim (hA c (Sh _ hc)).1 λz=>z (hA c (Sh _ hc)).2) h1)
  |dU=>exact aw.aP (b6 (a:=.dU)) h1.2
  |old=>exact aw.aP (b6 (a:=.old)) h1.2
  |bor=>exact aw.aP (b6 (a:=.bor)) h1.2
theorem pW.gT (h:pW P w C Z own H ks ds vs):ag P w (av C (Wn own) (f_ ks)) H ds vs:=let ⟨A,h1,_,h3⟩:=h;h1.gT λc hc=>(h3 c hc).2
theorem pW.bor (h:pW P w C Z own H ks ds vs):ag P w (λ_=>False) H ds vs:=ag.aP (λ_ z=>z.elim) h.gT
def tN:List Kd->List D->Prop
 |k::ks,d::ds=>(match k with | .own=>True|_=>d.flat=true)/\tN ks ds
 |_,_=>True
theorem KF.DI:∀{ks:List Kd} {ds:List D} {vs:List V} {A:List Addr},KF P w C own H ks ds vs A->tN ks ds->aH P w H ds vs A
 |[],_,_,_,⟨e1,e2,e⟩,_=>by rw[e1,e2,e];exact⟨rfl,rfl⟩
 |k::ks,_,_,_,⟨d,dr,v,vr,A1,A2,rfl,rfl,rfl,h1,h2⟩,⟨f1,f2⟩=>by
  refine⟨v,vr,A1,A2,rfl,rfl,?_,KF.DI h2 f2⟩;cases k with
  |own=>exact h1
  |dU=>rw[h1.1];exact da f1 h1.2
  |old=>rw[h1.1];exact da f1 h1.2
  |bor=>rw[h1.1];exact da f1 h1.2
theorem gE:∀{ks:List Kd},(f_ ks).wk=f_ ks
 |[]=>rfl
 |k::ks=>by cases k <;> cases h:f_ ks <;> simp[f_,Kd.max,h]
def xN (ks:List Kd)(ds:List D)(K:Kd->Prop):Prop:=match ks.all (λk=>match k with | .own=>true|_=>false)with
 |true=>K .own
 |false=>(tN ks ds/\K .own)\/K (f_ ks)
theorem xN.mono {ks:List Kd}{ds:List D}{K K':Kd->Prop}(k:∀x,K x->K' x)(h:xN ks ds K):xN ks ds K':=by
 unfold xN at *
 split
 ·next e=>rw[e]at h;exact k _ h
 ·next e=>rw[e]at h;exact h.imp (λz=>⟨z.1,k _ z.2⟩) (k _)
theorem xN.of {ks:List Kd}{ds:List D}{K:Kd->Prop}(h:xN ks ds K):(tN ks ds/\K .own)\/K (f_ ks):=by
 unfold xN at h
 split at h
 ·next e =>
  refine .inl ⟨?_,h⟩
  clear h
  induction ks generalizing ds with
  |nil=>cases ds <;> trivial
  |cons k ks ih =>
   cases ds with
   |nil=>trivial
   |cons d ds =>
    rw[List.all_cons,RZ]at e;refine⟨?_,ih e.2⟩;have e1:=e.1;cases k <;> first|trivial|cases e1
 ·exact h
end
structure PQ (X:Cx)(C:Cfg)(p:Bool)(e:Expr)(φ:aN):Prop where
 mono:∀β R R',(∀d k β,R d k β->R' d k β)->φ β R->φ β R'
 pe:PE X e (tQ X C p φ)
structure qe (X:Cx)(C:Cfg)(p:Bool)(e:Expr)(φ:aY):Prop where
 mono:∀β R R',(∀d β,R d β->R' d β)->φ β R->φ β R'
 pt:PT X e (iM X C p φ)
structure vC (X:Cx)(C:Cfg)(p:Bool)(e:Expr)(φ:aY):Prop where
 mono:∀β R R',(∀d β,R d β->R' d β)->φ β R->φ β R'
 pw:PW X e (iM X C p φ)
structure pU (X:Cx)(C:Cfg)(p:Bool)(es:List Expr)(φ:bS):Prop where
 mono:∀β R R',(∀d k β,R d k β->R' d k β)->φ β R->φ β R'
 pa:PA X es (qp X C p φ)
section
variable {X:Cx}{C:Cfg}{a b c e:Expr}{es:List Expr}{φ φa φb:aN}{τ τa τb:aY}{φs:bS}{pos:Pos}{σ:St}{H H':Hp}{β:aX}{own:Nat->List Addr}{p p':Bool}
theorem tQ.of (h:PQ X C p e φ)(s:SQ X C σ H β own){R:D->Kd->aX->Prop}{Q:VK}(hr:φ β R)(k:∀d kd β' v H' aK,R d kd β'->Out X C σ H own p β' H' aK->KV X.prog X.w C (H,Wn own) aK H' kd d v->Q v H'):tQ X C p φ σ H Q :=
 ⟨β,own,s,h.mono β _ _ (λd kd β' hd v H' aK o r=>k d kd β' v H' aK hd o r) hr⟩
theorem iM.of (h:qe X C p e τ)(s:SQ X C σ H β own){R:Bool->aX->Prop}{Q:Bool->Hp->Prop}(hr:τ β R)(k:∀t β' H' aK,R t β'->Out X C σ H own p β' H' aK->Q t H'):iM X C p τ σ H Q :=
 ⟨β,own,s,h.mono β _ _ (λt β' hd H' aK o=>k t β' H' aK hd o) hr⟩
theorem qp.of (h:pU X C p es φs)(s:SQ X C σ H β own){R:List D->List Kd->aX->Prop}{Q:List V->Hp->Prop}(hr:φs β R)(k:∀ds ks β' vs H' aK,R ds ks β'->Out X C σ H own p β' H' aK->pW X.prog X.w C (H,Wn own) aK H' ks ds vs->Q vs H'):qp X C p φs σ H Q :=
 ⟨β,own,s,h.mono β _ _ (λd kd β' hd v H' aK o r=>k d kd β' v H' aK hd o r) hr⟩
theorem vC.t (h:vC X C p e τ):qe X C p e τ:=⟨h.mono,h.pw.pt⟩
abbrev vk (y:Bool):D->Kd
 |.int _=>.own
 |.bl _=>.own
 |.bB=>.own
 |.str _=>.own
 |_=>yk y
def qB:B->(D->Kd->Prop)->Prop
 |.val y d,K=>K d (vk y d)
 |.own d,K=>K d .bor
 |.hand _,_=>False
 |.shl _ _,_=>False
def Kb (i:Nat):aN:=λβ R=>∃b,β[i]?=some (some b)/\qB b λd k=>R d k β
theorem Ed {P:Q6}{w:Rl}{Z:Hp×(Addr->Prop)}{y:Bool}{d:D}{v:V}(h:aw P w (av C (Wn own) (yk y)) H d v):KV P w C Z own H (vk y d) d v:=by
 cases d with
 |int i=>exact KV.flat rfl h
 |bl i=>exact KV.flat rfl h
 |bB=>exact KV.flat rfl h
 |str i=>exact KV.flat rfl h
 |_=>cases y <;> exact h
theorem ae {i:Nat}{x:Str}(hN:X.N[i]?=some x:=by rfl)(hv:vB X.env.scope x:=by first|exact .inl rfl|exact .inr (.inl rfl)|exact .inr (.inr rfl))(hd:(x==("__debug__" : Str))=false:=by decide)(gM:(x==("__classdict__" : Str))=false:=by decide):
  PQ X C true (.Name x pos) (Kb i):=⟨λβ R R' k xW=>by obtain⟨b,e,h⟩:=xW;exact⟨b,e,by cases b <;> first|exact k _ _ _ h|exact h⟩,(d8 hN hv hd gM).pre λσ H Q A7=>by
 obtain⟨β,own,s,b,e,q⟩:=A7;cases b with
 |val y d=>obtain⟨v,h1,h2⟩:=s.iL e;exact⟨v,h1,q v H own (Out.refl s _) (Ed h2)⟩
 |own d=>obtain⟨v,h1,h2,h3⟩:=s.ow i d e;exact⟨v,h1,q v H own (Out.refl s _) (h2.rep λ_ _ z=>z)⟩
 |hand ok=>exact q.elim
 |shl _ _=>exact q.elim⟩
def Kk (i:Nat):aN:=λβ R=>∃d,β[i]?=some (some (.own d))/\R d .dU (β.set i (some (.val true d)))
theorem Dz {i:Nat}{x:Str}(hN:X.N[i]?=some x:=by rfl)(hv:vB X.env.scope x:=by first|exact .inl rfl|exact .inr (.inl rfl)|exact .inr (.inr rfl))(hd:(x==("__debug__" : Str))=false:=by decide)(gM:(x==("__classdict__" : Str))=false:=by decide):
  PQ X C false (.Name x pos) (Kk i):=⟨λβ R R' k Hk=>by obtain⟨b,e,h⟩:=Hk;exact⟨b,e,k _ _ _ h⟩,(d8 hN hv hd gM).pre λσ H Q Ex=>by
 obtain⟨β,own,s,d,e,q⟩:=Ex;have f:=s.freeze e;obtain⟨v,h1,h2⟩:=f.iL (y:=true) (get_set (by rw[s.len];obtain⟨v,h1,_⟩:=s.ow i d e;exact(Rw.mp h1).1))
 exact⟨v,h1,q v H _ ⟨f,⟨λb z=>.inl (dD z),Kp.refl,λ_ z=>z⟩,λz=>(nomatch z),λ_ z=>dD z⟩ h2⟩⟩
def qC (d:D):aN:=λβ R=>R d .own β
theorem ah {i j}:PQ X C true (.Constant (.int i) j pos) (qC (.int i)):=⟨λρ R R' k h=>k _ _ _ h,aV.pre λσ H Q Ew=>by obtain⟨β,own,s,q⟩:=Ew;exact q _ H own (Out.refl s _) (KV.flat (W:=λ_=>False) rfl rfl)⟩
theorem sD {b j}:PQ X C true (.Constant (.bool b) j pos) (qC (.bl b)):=⟨λρ R R' k h=>k _ _ _ h,BR.pre λσ H Q K8=>by obtain⟨β,own,s,q⟩:=K8;exact q _ H own (Out.refl s _) (KV.flat (W:=λ_=>False) rfl rfl)⟩
theorem jy {j}:PQ X C true (.Constant .none j pos) (qC .bB):=⟨λρ R R' k h=>k _ _ _ h,DE.pre λσ H Q Hj=>by obtain⟨β,own,s,q⟩:=Hj;exact q _ H own (Out.refl s _) (KV.flat (W:=λ_=>False) rfl rfl)⟩
theorem fg {x j}:PQ X C true (.Constant (.str x) j pos) (qC (.str x)):=⟨λρ R R' k h=>k _ _ _ h,DD.pre λσ H Q A6=>by obtain⟨β,own,s,q⟩:=A6;exact q _ H own (Out.refl s _) (KV.flat (W:=λ_=>False) rfl rfl)⟩
def uc (X:Cx)(f:D->D->Option D)(N:D->Prop):R2:=λx y H Q=>∃W d1 d2 d,Dm W H/\Rp X W H d1 x/\Rp X W H d2 y/\f d1 d2=some d/\∀v H',az H H'->Rp X W H' d v->(N d->Rp X (λa=>H a≠none) H' d v)->Q v H'
abbrev JC (X:Cx)(f:QZ->QZ->Sem QZ)(g:D->D->Option D)(N:D->Prop):Prop:=gL X f (uc X g N)
theorem b8.m {f:QZ->QZ->Sem QZ}{g:D->D->Option D}(h:b8 X f g):JC X f g NF:=λpins s σ H x y v u Q I rx ry ⟨W,d1,d2,d,hd,r1,r2,e,q⟩ =>
 h pins s σ H x y v u Q I rx ry ⟨W,d1,d2,d,hd,r1,r2,e,λv H' s r=>q v H' s r λf=>aw.flat f r⟩
def kN (N:D->Prop)(d:D)(k:Kd)(K:Kd->Prop):Prop:=match d with
 |.int _=>K .own
 |.bl _=>K .own
 |.bB=>K .own
 |.str _=>K .own
 |.tup _=>K k
 |_=>(N d/\K .own)\/K k
theorem kN.mono {N:D->Prop}{d:D}{k:Kd}{K K':Kd->Prop}(h:∀x,K x->K' x)(q:kN N d k K):kN N d k K':=by
 cases d <;> first|exact h _ q|exact q.imp (λz=>⟨z.1,h _ z.2⟩) (h _)
theorem fD {P:Q6}{w:Rl}{Z:Hp×(Addr->Prop)}{d:D}{v:V}(hd:Dm (Wn own) H)(h0:∀a,C.H0 a≠none->H a≠none)(hz:∀a,Z.1 a≠none->H a≠none)(f:NL d)(r:aw P w (λa=>H a≠none) H' d v):KV P w C Z own H' .own d v:=by
 have nn:∀{a:Addr},¬ (H a≠none)->H a=none:=λ{a} h=>R1 λz=>h z;have cl:∀{a:Addr},H a=none->Z.1 a=none/\¬ Wn own a/\C.H0 a=none:=λ{a} h=>⟨R1 λz=>hz a z h,λz=>hd a z h,R1 λz=>h0 a z h⟩;cases d with
 |lst ds =>
  obtain⟨a,vs,rfl,e,n,q⟩:=r;exact⟨[a],⟨a,vs,[],rfl,e,rfl,fC f q⟩,by simp,λc hc=>by rw[Rk.mp hc];exact cl (nn n)⟩
 |_=>exact KV.flat f r
theorem KV.kN {N:D->Prop}{P:Q6}{w:Rl}{Z:Hp×(Addr->Prop)}{d:D}{v:V}{k:Kd}{K:Kd->Prop}(hk:k.wk=k)(r:aw P w (av C (Wn own) k) H' d v)(ro:N d->KV P w C Z own H' .own d v)(q:kN N d k K):∃k',K k'/\KV P w C Z own H' k' d v:=by
 have rk:KV P w C Z own H' k d v:=by rw[<- hk];exact KV.of (by rw[hk];exact r)
 cases d with
 |int i=>exact⟨_,q,KV.flat rfl r⟩
 |bl i=>exact⟨_,q,KV.flat rfl r⟩
 |bB=>exact⟨_,q,KV.flat rfl r⟩
 |str i=>exact⟨_,q,KV.flat rfl r⟩
 |tup ds=>exact⟨_,q,rk⟩
 |_=>exact q.elim (λz=>⟨_,z.2,ro z.1⟩) λz=>⟨_,z,rk⟩
structure zv (N:D->Prop):Prop where
 nl:∀d,N d->NL d
theorem aF:zv NL:=⟨λ_ h=>h⟩
theorem ai:zv NF:=⟨λd h=>by cases d <;> first|exact h|cases h⟩
theorem xB {a b:Kd}:(a.max b).wk=a.max b:=by cases a <;> cases b <;> rfl
def vo (g:D->D->Option D)(N:D->Prop)(pb:Bool)(φa φb:aN):aN:=λβ R=>φa β λx ka β1=>hold ka pb/\φb β1 λy kb β2=>∃d,g x y=some d/\kN N d (ka.max kb) λk=>R d k β2
variable {g:D->D->Option D}{N:D->Prop}
theorem vo.mono (ha:PQ X C p a φa)(hb:PQ X C p' b φb):∀β R R',(∀d k β,R d k β->R' d k β)->vo g N p' φa φb β R->vo g N p' φa φb β R':=λβ R R' k h =>
 ha.mono β _ _ (λx ka β1 hx=>⟨hx.1,hb.mono β1 _ _ (λy kb β2 ya=>by obtain⟨d,e,q⟩:=ya;exact⟨d,e,q.mono λ_ z=>k _ _ _ z⟩) hx.2⟩) h
theorem qF (hn:zv N)(ha:PQ X C p a φa)(hb:PQ X C p' b φb):∀σ H Q,tQ X C (p&&p') (vo g N p' φa φb) σ H Q->FP (uc X g N) (tQ X C p φa) (tQ X C p' φb) σ H Q:=λσ H Q ⟨β,own,s,h⟩ =>
 tQ.of ha s h λd1 k1 β1 v1 H1 aB ⟨hh,h1⟩ o1 r1=>tQ.of hb o1.sq h1 λd2 k2 β2 v2 H2 a3 x_ o2 r2=>by
  obtain⟨d,e,q⟩:=x_;have z5:=r1.ho o2 hh;refine⟨av C (Wn a3) (k1.max k2),d1,d2,d,o2.sq.yC _,aw.aP b6 z5.rep,aw.aP dB r2.rep,e,λv H' s3 r3 n3=>?_⟩;have o:=(o1.trans o2).same s3;obtain⟨k,q,r⟩:=KV.kN (Z:=(H,Wn own)) xB r3 (λn=>fD (H:=H2) o2.sq.uY o2.sq.fT (λa z=>o2.sn.d a (o1.sn.d a z)) (hn.nl _ n) (n3 n)) q;exact q v H' a3 o r
theorem aE {op:Operator}(hn:zv N)(ho:JC X (Tq op) g N)(ha:PQ X C p a φa)(hb:PQ X C p' b φb):PQ X C (p&&p') (.BinOp a op b pos) (vo g N p' φa φb):=⟨vo.mono ha hb,(cC ho ha.pe hb.pe).pre (qF hn ha hb)⟩
theorem DA {op:Uu}(hn:zv N)(ho:JC X (Sk op) g N)(ha:PQ X C p a φa)(hb:PQ X C p' b φb)(hm:Td op b=false:=by first|exact ot _ (by decide) (by decide)|rfl):PQ X C (p&&p') (.Compare a [op] [b] pos) (vo g N p' φa φb) :=
 ⟨vo.mono ha hb,(sM ho ha.pe hb.pe hm).pre (qF hn ha hb)⟩
theorem bb (hn:zv N)(ho:CM X (uc X g N))(ha:PQ X C p a φa)(hb:PQ X C p' b φb)(hs:nh b:=by exact λ_ _=>rfl):PQ X C (p&&p') (.Subscript a b pos) (vo g N p' φa φb):=⟨vo.mono ha hb,(jA ho ha.pe hb.pe hs).pre (qF hn ha hb)⟩
def wF (φ:aN):aY:=λβ R=>φ β λd k β'=>∃b,d=.bl b/\R b β'
theorem aS {op:Uu}(hn:zv N)(ho:JC X (Sk op) g N)(ha:PQ X C p a φa)(hb:PQ X C p' b φb)(hm:Td op b=false:=by first|exact ot _ (by decide) (by decide)|rfl):qe X C (p&&p') (.Compare a [op] [b] pos) (wF (vo g N p' φa φb)) :=
 ⟨λβ R R' k h=>vo.mono ha hb β _ _ (λd kd β xZ=>by obtain⟨t,e,q⟩:=xZ;exact⟨t,e,k _ _ q⟩) h,(si ho ha.pe hb.pe hm).pre λσ H Q ⟨β,own,s,h⟩ =>
  tQ.of ha s h λd1 k1 β1 v1 H1 aB ⟨hh,h1⟩ o1 r1=>tQ.of hb o1.sq h1 λd2 k2 β2 v2 H2 a3 ED o2 r2=>by
   obtain⟨d,e,q⟩:=ED;have z5:=r1.ho o2 hh;refine⟨av C (Wn a3) (k1.max k2),d1,d2,d,o2.sq.yC _,aw.aP b6 z5.rep,aw.aP dB r2.rep,e,λv H' s3 r3 n3=>?_⟩;obtain⟨k,⟨t,et,q'⟩,r⟩:=KV.kN (Z:=(H,Wn own)) xB r3 (λn=>fD (H:=H2) o2.sq.uY o2.sq.fT (λa z=>o2.sn.d a (o1.sn.d a z)) (hn.nl _ n) (n3 n)) q;subst et;cases r3;exact⟨t,rfl,q' H' a3 ((o1.trans o2).same s3)⟩⟩
theorem sA (ha:PQ X C p a φa)(he:∀whole,VG a X.env whole=(do let v <- whole;UQ a.pos;holding [v] (truthy v)):=by intro _;rfl):qe X C p a (wF φa) :=
 ⟨λβ R R' k h=>ha.mono β _ _ (λd kd β' EC=>by obtain⟨b,e,q⟩:=EC;exact⟨b,e,k _ _ q⟩) h,(Dw ha.pe he).pre λσ H Q ⟨β,own,s,h⟩=>tQ.of ha s h λd k β' v H1 aB EA o1 r1=>by
  obtain⟨b,e,q⟩:=EA;subst e;cases r1.rep;exact⟨b,rfl,q H1 aB o1⟩⟩
def F8 (τ:aY):aY:=λβ R=>τ β λb β'=>R (!b) β'
theorem sC (ha:qe X C p a τ):qe X C p (.UnaryOp .Not a pos) (F8 τ) :=
 ⟨λβ R R' k h=>ha.mono β _ _ (λb β' q=>k _ _ q) h,(Dx ha.pt).pre λσ H Q Ez=>by obtain⟨β,own,s,h⟩:=Ez;exact iM.of ha s h λb β' H1 aB q o=>q H1 aB o⟩
variable {rest:List Expr}
def Gb (τa τb:aY):aY:=λβ R=>τa β λt β1=>if t=true then τb β1 R else R false β1
def Kg (τa τb:aY):aY:=λβ R=>τa β λt β1=>if t=true then R true β1 else τb β1 R
theorem n9 (ha:qe X C p a τ):vC X C p (.BoolOp .And [a] pos) τ:=⟨ha.mono,pw_and1 ha.pt⟩
theorem su (ha:qe X C p a τ):vC X C p (.BoolOp .Or [a] pos) τ:=⟨ha.mono,pw_or1 ha.pt⟩
theorem Fd {p q:Bool}(z:(p&&q)=true):p=true:=by cases p <;> first|rfl|cases z
theorem Mk {p q:Bool}(z:(p&&q)=true):q=true:=by cases p <;> first|exact z|cases z
theorem sv (ha:qe X C p a τa)(hb:vC X C p' (.BoolOp .And (b::rest) pos) τb):vC X C (p&&p') (.BoolOp .And (a::b::rest) pos) (Gb τa τb) :=
 ⟨λβ R R' k h=>ha.mono β _ _ (λt β1 q=>by
   cases t
   ·exact k _ _ q
   ·exact hb.mono β1 _ _ k q) h,(pw_and ha.pt hb.pw).pre λσ H Q ⟨β,own,s,h⟩=>iM.of ha s h λt β1 H1 aB q o1=>by
  cases t
  ·exact q H1 aB (o1.wk Fd)
  ·exact iM.of hb.t o1.sq q λt' β2 H2 a3 q2 o2=>q2 H2 a3 (o1.trans o2)⟩
theorem qI (ha:qe X C p a τa)(hb:vC X C p' (.BoolOp .Or (b::rest) pos) τb):vC X C (p&&p') (.BoolOp .Or (a::b::rest) pos) (Kg τa τb) :=
 ⟨λβ R R' k h=>ha.mono β _ _ (λt β1 q=>by
   cases t
   ·exact hb.mono β1 _ _ k q
   ·exact k _ _ q) h,(pw_or ha.pt hb.pw).pre λσ H Q ⟨β,own,s,h⟩=>iM.of ha s h λt β1 H1 aB q o1=>by
  cases t
  ·exact iM.of hb.t o1.sq q λt' β2 H2 a3 q2 o2=>q2 H2 a3 (o1.trans o2)
  ·exact q H1 aB (o1.wk Fd)⟩
theorem xK {P:Q6}{w:Rl}{Z:Hp×(Addr->Prop)}{b:Bool}:KV P w C Z own H .own (.bl b) (.bl b):=KV.flat (W:=λ_=>False) rfl rfl
def OB (g:D->Option D)(φa:aN):aN:=λβ R=>φa β λx _ β1=>∃d,g x=some d/\d.flat=true/\R d .own β1
theorem iA {op:UnaryOp}{g:D->Option D}(ho:II X (unaryOp op) (MQ X g))(ha:PQ X C p a φa):PQ X C p (.UnaryOp op a pos) (OB g φa) :=
 ⟨λβ R R' k h=>ha.mono β _ _ (λx _ β1 Lh=>by obtain⟨d,e,f,q⟩:=Lh;exact⟨d,e,f,k _ _ _ q⟩) h,(BQ ho ha.pe).pre λσ H Q ⟨β,own,s,h⟩ =>
  tQ.of ha s h λd1 k1 β1 v1 H1 aB Lg o1 r1=>by obtain⟨d,e,f,q⟩:=Lg;exact⟨_,d1,d,o1.sq.yC _,r1.rep,e,λv H' s2 r2=>q v H' aB (o1.same s2) (KV.flat f r2)⟩⟩
def Kh:bS:=λβ R=>R [] [] β
def Ga (pr:Bool)(φ:aN)(φs:bS):bS:=λβ R=>φ β λd k β1=>hold k pr/\φs β1 λds ks β2=>R (d::ds) (k::ks) β2
theorem af:pU X C true [] Kh:=⟨λβ R R' k h=>k _ _ _ h,cK.pre λσ H Q Lf=>by obtain⟨β,own,s,q⟩:=Lf;exact q [] H own (Out.refl s _) pW.nil⟩
theorem aa (ha:PQ X C p a φ)(hr:pU X C p' es φs)(hs:Rc (a::es) X.env=(false,eval a X.env)::Rc es X.env:=by rfl):pU X C (p&&p') (a::es) (Ga p' φ φs) :=
 ⟨λβ R R' k h=>ha.mono β _ _ (λd kd β1 q=>⟨q.1,hr.mono β1 _ _ (λds ks β2 q2=>k _ _ _ q2) q.2⟩) h,(bf ha.pe hr.pa hs).pre λσ H Q ⟨β,own,s,h⟩ =>
  tQ.of ha s h λd1 k1 β1 v1 H1 aB Lc o1 r1=>by obtain⟨hh,h1⟩:=Lc;exact qp.of hr o1.sq h1 λds ks β2 vs H2 a3 q o2 r2=>q (v1::vs) H2 a3 (o1.trans o2) (pW.cons r1 o2.sn (r1.ho o2 hh) r2 o1.sn)⟩
def Kc (φs:bS):aN:=λβ R=>φs β λds ks β1=>ds.length<=Ri/\xN ks ds λk=>R (.tup ds) k β1
def Kj (φs:bS):aN:=λβ R=>φs β λds ks β1=>ds.length<=Ri/\xN ks ds λk=>R (.lst ds) k β1
theorem aH.same {P:Q6}{w:Rl}{ds:List D}{vs:List V}{A:List Addr}(s:az H H')(h:aH P w H ds vs A):aH P w H' ds vs A:=h.keep (λb xs e=>s _ _ e) λc _ o e=>s c o e
theorem Ee {P:Q6}{w:Rl}{Z:Hp×(Addr->Prop)}{ks:List Kd}{ds:List D}{vs:List V}{K:Kd->Prop}{q:Addr}(hq:H q=none)(h:pW P w C Z own H ks ds vs)(m:xN ks ds K):∃k,K k/\KV P w C Z own (upd H q (.tup vs)) k (.tup ds) (.ref q):=by
 rcases m.of with⟨f,k⟩|k
 ·obtain⟨A,h1,h2,h3⟩:=h;exact⟨_,k,A,⟨q,vs,rfl,ao,(h1.DI f).same (az.new hq)⟩,h2,h3⟩
 ·refine⟨_,k,?_⟩;rw[<- gE];exact KV.of (by rw[gE];exact⟨q,vs,rfl,ao,h.gT.same (az.new hq)⟩)
theorem Ef {P:Q6}{w:Rl}{Z:Hp×(Addr->Prop)}{ks:List Kd}{ds:List D}{vs:List V}{K:Kd->Prop}{q:Addr}(hq:H q=none)(hd:Dm (Wn own) H)(h0:∀a,C.H0 a≠none->H a≠none)(hz:∀a,Z.1 a≠none->H a≠none)(h:pW P w C Z own H ks ds vs)(m:xN ks ds K):∃k,K k/\KV P w C Z own (upd H q (.lst vs)) k (.lst ds) (.ref q):=by
 rcases m.of with⟨f,k⟩|k
 ·obtain⟨A,h1,h2,h3⟩:=h;refine⟨_,k,q::A,⟨q,vs,A,rfl,ao,rfl,(h1.DI f).same (az.new hq)⟩,RM.mpr ⟨λz=>h1.kG q z hq,h2⟩,λc hc=>?_⟩;rcases Ra.mp hc with rfl|hc
  ·exact⟨R1 λz=>hz c z hq,λz=>hd c z hq,R1 λz=>h0 c z hq⟩
  ·exact h3 c hc
 ·refine⟨_,k,?_⟩;have nq:¬ av C (Wn own) (f_ ks) q:=λz=>by
   cases e:f_ ks <;> rw[e]at z <;> first|exact z.elim (λz=>hd q z hq) λz=>h0 q z hq|exact hd q z hq|exact z
  rw[<- gE];exact KV.of (by rw[gE];exact⟨q,vs,rfl,ao,nq,h.gT.same (az.new hq)⟩)
theorem pW.length {P:Q6}{w:Rl}{Z:Hp×(Addr->Prop)}{ks:List Kd}{ds:List D}{vs:List V}(h:pW P w C Z own H ks ds vs):vs.length=ds.length:=h.gT.length
theorem aQ {x1}(h:pU X C p es φs):PQ X C p (.Tuple es x1 pos) (Kc φs) :=
 ⟨λβ R R' k q=>h.mono β _ _ (λds ks β1 Lb=>by obtain⟨l,q⟩:=Lb;exact⟨l,q.mono λ_ z=>k _ _ _ z⟩) q,(w6 h.pa).pre λσ H Q ⟨β,own,s,q⟩=>qp.of h s q λds ks β1 vs H1 aB ⟨l,q1⟩ o1 r1 =>
  ⟨by rw[r1.length];exact l,λq hq=>let ⟨k,q1,r⟩:=Ee hq r1 q1;q1 _ _ aB (o1.same (az.new hq)) r⟩⟩
theorem a_ (h:pU X C p es φs):PQ X C p (.List es pos) (Kj φs) :=
 ⟨λβ R R' k q=>h.mono β _ _ (λds ks β1 La=>by obtain⟨l,q⟩:=La;exact⟨l,q.mono λ_ z=>k _ _ _ z⟩) q,(qM h.pa).pre λσ H Q ⟨β,own,s,q⟩=>qp.of h s q λds ks β1 vs H1 aB ⟨l,q1⟩ o1 r1 =>
  ⟨by rw[r1.length];exact l,λq hq=>let ⟨k,q1,r⟩:=Ef hq o1.sq.uY o1.sq.fT (λa z=>o1.sn.d a z) r1 q1;q1 _ _ aB (o1.same (az.new hq)) r⟩⟩
end
section
variable {X:Cx}{C:Cfg}{a b c e:Expr}{es:List Expr}{φ φa φb:aN}{φs:bS}{pos:Pos}{σ:St}{H H':Hp}{β:aX}{own:Nat->List Addr}{p:Bool}{g:D->D->Option D}{N:D->Prop}
abbrev mf:=D->Kd->aN
structure Jz (X:Cx)(C:Cfg)(ops:List Uu)(es:List Expr)(φ:mf):Prop where
 mono:∀x k β R R',(∀d k β,R d k β->R' d k β)->φ x k β R->φ x k β R'
 ch:Fi X ops es λx σ H Q=>∃β own d k,SQ X C σ H β own/\Rp X (av C (Wn own) k) H d x/\φ d k β λd' k' β'=>∀v H',az H H'->SQ X C σ H' β' own->KV X.prog X.w C (H,Wn own) own H' k' d' v->Q v H'
 NQ:pV X ops es λx σ H Q=>∃β own d k,SQ X C σ H β own/\Rp X (av C (Wn own) k) H d x/\φ d k β λd' k' β'=>∃b,d'=.bl b/\∀H',az H H'->SQ X C σ H' β' own->Q b H'
def Km (g:D->D->Option D)(φb:aN):mf:=λx _ β R=>φb β λy _ β1=>∃b,g x y=some (.bl b)/\R (.bl b) .own β1
def Kl (g:D->D->Option D)(φb:aN)(φr:mf):mf:=λx _ β R=>φb β λy ky β1=>∃k,g x y=some (.bl k)/\if k=true then φr y ky β1 R else R (.bl false) .own β1
variable {op DM:Uu}{ops:List Uu}{rs:List Expr}{φr:mf}
theorem z9 (ho:b8 X (Sk op) g)(hb:PQ X C true b φb):Jz X C [op] [b] (Km g φb) :=
 ⟨λx k β R R' h q=>hb.mono β _ _ (λy _ β1 yb=>by obtain⟨d,e,q⟩:=yb;exact⟨d,e,h _ _ _ q⟩) q,
  (E6 ho hb.pe).pre λx σ H Q ⟨β,own,d,k,s,r,h⟩=>tQ.of hb s h λd2 k2 β2 v2 H2 a3 A7 o2 r2=>by
    obtain⟨d',e,q⟩:=A7;obtain⟨s2,rfl⟩:=o2.pu rfl;exact⟨av C (Wn a3) (k.max k2),d,d2,.bl d',o2.sq.yC _,aw.aP b6 (r.same s2),aw.aP dB r2.rep,e,λv H' s3 r3=>q v H' (s2.trans s3) (o2.sq.same s3) (KV.flat rfl r3)⟩,
  (By ho hb.pe).pre λx σ H Q ⟨β,own,d,k,s,r,h⟩=>tQ.of hb s h λd2 k2 β2 v2 H2 a3 Ex o2 r2=>by
    obtain⟨d',e,b,eb,q⟩:=Ex;obtain⟨s2,rfl⟩:=o2.pu rfl;cases eb;exact⟨av C (Wn a3) (k.max k2),d,d2,.bl d',o2.sq.yC _,aw.aP b6 (r.same s2),aw.aP dB r2.rep,e,λv H' s3 r3=>by
      cases r3;exact⟨_,rfl,q H' (s2.trans s3) (o2.sq.same s3)⟩⟩⟩
theorem n_ (ho:b8 X (Sk op) g)(hb:PQ X C true b φb)(hc:Jz X C (DM::ops) (c::rs) φr):Jz X C (op::DM::ops) (b::c::rs) (Kl g φb φr) :=
 ⟨λx k β R R' h q=>hb.mono β _ _ (λy ky β1 ⟨d,e,q⟩=>⟨d,e,by
   cases d
   ·exact h _ _ _ q
   ·exact hc.mono y ky β1 _ _ h q⟩) q,
  (Bz ho hb.pe hc.ch).pre λx σ H Q ⟨β,own,d,k,s,r,h⟩=>tQ.of hb s h λd2 k2 β2 v2 H2 a3 Hj o2 r2=>by
    obtain⟨t,e,q⟩:=Hj;obtain⟨s2,rfl⟩:=o2.pu rfl;refine⟨av C (Wn a3) (k.max k2),d,d2,.bl t,o2.sq.yC _,aw.aP b6 (r.same s2),aw.aP dB r2.rep,e,λv H' s3 r3=>?_⟩;cases r3;refine⟨t,rfl,?_⟩;cases t
    · exact q _ H' (s2.trans s3) (o2.sq.same s3) xK
    · exact⟨β2,a3,d2,k2,o2.sq.same s3,r2.rep.same s3,hc.mono d2 k2 β2 _ _ (λd' k' β' q' v za s4 sq r4=>q' v za ((s2.trans s3).trans s4) sq (r4.later ((o2.same s3).sn))) q⟩,
  (yJ ho hb.pe hc.NQ).pre λx σ H Q ⟨β,own,d,k,s,r,h⟩=>tQ.of hb s h λd2 k2 β2 v2 H2 a3 rj o2 r2=>by
    obtain⟨t,e,q⟩:=rj;obtain⟨s2,rfl⟩:=o2.pu rfl;refine⟨av C (Wn a3) (k.max k2),d,d2,.bl t,o2.sq.yC _,aw.aP b6 (r.same s2),aw.aP dB r2.rep,e,λv H' s3 r3=>?_⟩;cases r3;refine⟨t,rfl,?_⟩;cases t
    · obtain⟨b,eb,q⟩:=q;cases eb;exact q H' (s2.trans s3) (o2.sq.same s3)
    · exact⟨β2,a3,d2,k2,o2.sq.same s3,r2.rep.same s3,hc.mono d2 k2 β2 _ _ (λd' k' β' ya=>by obtain⟨b,eb,q'⟩:=ya;exact⟨b,eb,λza s4 sq=>q' za ((s2.trans s3).trans s4) sq⟩) q⟩⟩
def Dv (φa:aN)(φr:mf):aN:=λβ R=>φa β λx k β1=>φr x k β1 R
theorem ue {jE jD:Uu}(ha:PQ X C true a φa)(hc:Jz X C (jE::jD::ops) (b::c::rs) φr)(hm:lastMarks (jE::jD::ops) (b::c::rs)=false:=by with_unfolding_all rfl):
  qe X C true (.Compare a (jE::jD::ops) (b::c::rs) pos) (wF (Dv φa φr)) :=
 ⟨λβ R R' k h=>ha.mono β _ _ (λx kx β1 q=>hc.mono x kx β1 _ _ (λd kd β' EE=>by obtain⟨b,e,q⟩:=EE;exact⟨b,e,k _ _ q⟩) q) h,(ud ha.pe hc.NQ hm).pre λσ H Q ⟨β,own,s,h⟩=>tQ.of ha s h λd k β1 v H1 aB q o1 r1=>by
  obtain⟨s1,rfl⟩:=o1.pu rfl;exact⟨β1,aB,d,k,o1.sq,r1.rep,hc.mono d k β1 _ _ (λd' k' β' xZ=>by obtain⟨b,e,q'⟩:=xZ;exact⟨b,e,λza s4 sq=>q' za aB ⟨sq,o1.sn.same s4,λ_=>⟨s1.trans s4,rfl⟩,o1.le⟩⟩) q⟩⟩
abbrev yZ:=aX->(Option Int->aX->Prop)->Prop
structure Jy (X:Cx)(C:Cfg)(e:Option Expr)(φ:yZ):Prop where
 mono:∀β R R',(∀d β,R d β->R' d β)->φ β R->φ β R'
 po:PO X e λσ H Q=>∃β own,SQ X C σ H β own/\φ β λo β'=>∀H',az H H'->SQ X C σ H' β' own->Q o H'
theorem wR:Jy X C none (λβ R=>R none β):=⟨λβ R R' k h=>k _ _ h,sG.pre λσ H Q xY=>by obtain⟨β,own,s,q⟩:=xY;exact q H (az.refl _) s⟩
theorem wQ (ha:PQ X C true a φ):Jy X C (some a) (λβ R=>φ β λd _ β1=>∃i,d=.int i/\R (some i) β1) :=
 ⟨λβ R R' k h=>ha.mono β _ _ (λd _ β1 xX=>by obtain⟨i,e,q⟩:=xX;exact⟨i,e,k _ _ q⟩) h,(sF ha.pe).pre λσ H Q ⟨β,own,s,h⟩=>tQ.of ha s h λd k β1 v H1 aB EC o1 r1=>by
  obtain⟨i,e,q⟩:=EC;subst e;cases r1.rep;obtain⟨s1,rfl⟩:=o1.pu rfl;exact⟨i,rfl,q H1 s1 o1.sq⟩⟩
def OC (φ:aN)(φl φh:yZ):aN:=λβ R=>φ β λx k β1=>φl β1 λl β2=>φh β2 λh β3=>∃d,NP x l h=some d/\kN NL d k.wk λk'=>R d k' β3
theorem BK {k:Kd}:k.wk.wk=k.wk:=by cases k <;> rfl
theorem yU {W:Addr->Prop}{k:Kd}:∀c,av C W k.wk c->av C W k c:=λc h=>by cases k <;> exact h
theorem Gg {lo hi:Option Expr}{φl φh:yZ}{p2:Pos}(ha:PQ X C p a φ)(hl:Jy X C lo φl)(hh:Jy X C hi φh):PQ X C p (.Subscript a (.Slice lo hi none p2) pos) (OC φ φl φh) :=
 ⟨λβ R R' k h=>ha.mono β _ _ (λx kx β1 q=>hl.mono β1 _ _ (λl β2 q=>hh.mono β2 _ _ (λu β3 EB=>by obtain⟨d,e,q⟩:=EB;exact⟨d,e,q.mono λ_ z=>k _ _ _ z⟩) q) q) h,
  (oh zN ha.pe hl.po hh.po).pre λσ H Q ⟨β,own,s,h⟩=>tQ.of ha s h λd k β1 v H1 aB q o1 r1 =>
    ⟨β1,aB,o1.sq,hl.mono β1 _ _ (λl β2 q H2 s2 J0=>⟨β2,aB,J0,hh.mono β2 _ _ (λu β3 Ez H3 s3 IX=>by
      obtain⟨d',e,q⟩:=Ez;refine⟨av C (Wn aB) k.wk,d,d',IX.yC _,((aw.aP yU r1.rep).same s2).same s3,e,λv H' s4 r4 n4=>?_⟩;obtain⟨k',q,r⟩:=KV.kN (Z:=(H,Wn own)) BK r4 (λn=>fD (H:=H3) IX.uY IX.fT (λa z e=>o1.sn.d a z (s2.free (s3.free e))) n (n4 n)) q;exact q v H' aB ⟨IX.same s4,o1.sn.same ((s2.trans s3).trans s4),λz=>⟨(o1.pu z).1.trans ((s2.trans s3).trans s4),(o1.pu z).2⟩,o1.le⟩ r) q⟩) q⟩⟩
def F5 (X:Cx)(f:List D->Option D)(N:D->Prop):List V->Hp->VK->Prop:=λxs H Q=>∃W ds d,Dm W H/\qc X W H ds xs/\f ds=some d/\∀v H',az H H'->Rp X W H' d v->(N d->Rp X (λa=>H a≠none) H' d v)->Q v H'
abbrev zc (X:Cx)(f:QZ)(g:List D->Option D)(N:D->Prop):Prop:=eR X f (F5 X g N)
theorem dC.m {f:QZ}{g:List D->Option D}(h:dC X f g):zc X f g NF:=λpins s σ H xs us Q I r ⟨W,ds,d,hd,r1,e,q⟩ =>
 h pins s σ H xs us Q I r ⟨W,ds,d,hd,r1,e,λv H' s r=>q v H' s r λf=>aw.flat f r⟩
def iu (g:List D->Option D)(N:D->Prop)(φs:bS):aN:=λβ R=>φs β λds ks β1=>∃d,g ds=some d/\kN N d (f_ ks) λk=>R d k β1
variable {x:Str}{pp:Pos}{id T:String}{gs:List D->Option D}
theorem iu.mono (h:pU X C p es φs):∀β R R',(∀d k β,R d k β->R' d k β)->iu gs N φs β R->iu gs N φs β R':=λβ R R' k q=>h.mono β _ _ (λds ks β1 Lq=>by obtain⟨d,e,q⟩:=Lq;exact⟨d,e,q.mono λ_ z=>k _ _ _ z⟩) q
theorem nZ (hn:zv N)(h:pU X C p es φs):∀σ H Q,tQ X C p (iu gs N φs) σ H Q->JU (F5 X gs N) (qp X C p φs) σ H Q:=λσ H Q ⟨β,own,s,q⟩=>qp.of h s q λds ks β1 vs H1 aB Lo o1 r1=>by
 obtain⟨d,e,q1⟩:=Lo;refine⟨av C (Wn aB) (f_ ks),ds,d,o1.sq.yC _,r1.gT,e,λv H' s2 r2 n2=>?_⟩;obtain⟨k',q,r⟩:=KV.kN (Z:=(H,Wn own)) gE r2 (λn=>fD (H:=H1) o1.sq.uY o1.sq.fT (λa z=>o1.sn.d a z) (hn.nl _ n) (n2 n)) q1;exact q v H' aB (o1.same s2) r
theorem c_ (ye:zv N)(hc:zc X (.builtin id) gs N)(hm:X.mg x=none)(hv:Si x=some (.builtin id))(ha:pU X C p (e::es) φs)(hg:Gl X x:=by rfl)(hn:x≠"__name__" := by decide)(hdb:(x==("__debug__" : Str))=false:=by decide)
  (gb:Rc (e::es) X.env=(false,eval e X.env)::Rc es X.env:=by rfl) (hpl:(SF pos (Rc es X.env)).any (·.1)=false:=by rfl) :
  PQ X C p (.Call (.Name x pp) (e::es) [] pos) (iu gs N φs):=⟨iu.mono ha,(gw hc hg hm hv ha.pa hn hdb (he:=gb) (hpl:=hpl)).pre (nZ ye ha)⟩
theorem gX (ye:zv N)(hc:zc X (.type T) gs N)(hm:X.mg x=none)(hv:Si x=some (.type T))(ha:pU X C p (e::es) φs)(hg:Gl X x:=by rfl)(hn:x≠"__name__" := by decide)(hdb:(x==("__debug__" : Str))=false:=by decide)
  (gb:Rc (e::es) X.env=(false,eval e X.env)::Rc es X.env:=by rfl) (hpl:(SF pos (Rc es X.env)).any (·.1)=false:=by rfl) :
  PQ X C p (.Call (.Name x pp) (e::es) [] pos) (iu gs N φs):=⟨iu.mono ha,(lE hc hg hm hv ha.pa hn hdb (he:=gb) (hpl:=hpl)).pre (nZ ye ha)⟩
end
def nr (P:Q6)(w:Rl)(ro:Bool)(H H':Hp)(d:D)(v:V):Prop:=match ro with
 |true=>∃A,Own P w H' d v A/\A.Nodup/\∀c∈A,H c=none
 |false=>aw P w (λa=>H a≠none) H' d v
abbrev rk (ro:Bool):Kd:=match ro with|true=>.own|false=>.dU
def fG (P:Q6)(w:Rl)(ro:Bool)(F:FD):Sp:=λvs H Q _=>∃ds,ag P w (λ_=>False) H ds vs/\F ds λd=>∀v H',az H H'->nr P w ro H H' d v->Q v H'
def gS (P:Q6)(w:Rl)(ok:List Int->Prop)(ro:Bool)(F:FD):Sp:=λvs H Q _=>∃h vs' ds ns,vs=.ref h::vs'/\H h=some (.lst (ns.map V.int))/\ok ns/\ag P w (λa=>a=h) H ds vs' /\
 F ds λd=>∀v H' ur,Kp (·=h) H H'->(∀c,H c≠none->H' c≠none)->H' h=some (.lst (ur.map V.int))->ok ur->nr P w ro H H' d v->Q v H'
section
variable {X:Cx}{C:Cfg}{k ih:Nat}{f:Addr}{fd:RY}{ps:List Str}{F:FD}{ro p:Bool}{x hx:Str}{pp pos px:Pos}{e:Expr}{es:List Expr}{φs:bS}{ok:List Int->Prop}{σ:St}{H H':Hp}{β:aX}{own:Nat->List Addr}{P:Q6}{w:Rl}
theorem nr.kv {Z:Hp×(Addr->Prop)}{d:D}{v:V}(hd:Dm (Wn own) H)(h0:∀a,C.H0 a≠none->H a≠none)(hz:∀a,Z.1 a≠none->H a≠none)(h:nr P w ro H H' d v):KV P w C Z own H' (rk ro) d v:=by
 cases ro with
 |true =>
  obtain⟨A,h1,h2,h3⟩:=h;exact⟨A,h1,h2,λc hc=>⟨R1 λz=>hz c z (h3 c hc),λz=>hd c z (h3 c hc),R1 λz=>h0 c z (h3 c hc)⟩⟩
 |false=>exact aw.aP (λa z=>z.elim (hd a) (h0 a)) h
def Kf (ro:Bool)(F:FD)(φs:bS):aN:=λβ R=>φs β λds _ β1=>F ds λd=>R d (rk ro) β1
theorem a8 (mF:dS F)(G:aM X.prog X.w X.K X.mg X.base bW k f fd ps (fG X.prog X.w ro F))(hr:cb k X.A)(hm:X.mg x=some (.ref f))(hk:PySem.W.keepIn X.K (.ref f)=true)(hb:Binds X.K fd ps [])(ha:pU X C p (e::es) φs)(hg:Gl X x:=by rfl)
  (hdb:(x==("__debug__" : Str))=false:=by decide)
  (gb:Rc (e::es) X.env=(false,eval e X.env)::Rc es X.env:=by rfl) (hpl:(SF pos (Rc es X.env)).any (·.1)=false:=by rfl) :
  PQ X C p (.Call (.Name x pp) (e::es) [] pos) (Kf ro F φs) :=
 ⟨λβ R R' k h=>ha.mono β _ _ (λds ks β1 q=>mF ds _ _ (λd q=>k _ _ _ q) q) h,(sN G hr hg hm hk hb .nil BS ha.pa (hdb:=hdb) (he:=gb) (hpl:=hpl)).pre λσ H Q ⟨β,own,s,h⟩=>qp.of ha s h λds ks β1 vs H1 aB q o1 r1=>by
  rw[Sr];exact⟨ds,r1.bor,mF ds _ _ (λd q2 v H' s2 r2=>q2 v H' aB (o1.same s2) (r2.kv o1.sq.uY o1.sq.fT λa z=>o1.sn.d a z)) q⟩⟩
theorem bA.drawn {i:Nat}{h:Addr}{ur:List Int}(b:bA P w C σ H β own)(e:β[i]?=some (some (.hand ok)))(hσ:σ[i]?=some (some (.ref h)))(k:Kp (·=h) H H')(e':H' h=some (.lst (ur.map V.int)))(o':ok ur)(dn:∀c,H c≠none->H' c≠none):bA P w C σ H' β own:=by
 obtain⟨a,ns,h1,h2,h3,h4,h5⟩:=b.kB i ok e;rw[hσ]at h1;cases h1;have wh:Wn own h:=⟨i,by rw[h4];simp⟩
 have kW:∀y,Kp (eV C (Wn own) (yk y)) H H':=λy=>k.mono λc z=>by rw[z];cases y <;> first|exact .inl wh|exact .inl (.inl wh)
 have ne:∀j,j≠i->∀c∈own j,c≠h:=λj hj c hc z=>hj (b.iZ j i c hc (by rw[h4,z];simp))
 refine⟨b.len,λj y d e=>let ⟨v,g1,g2⟩:=b.val j y d e;⟨v,g1,g2.keep (kW y)⟩,λj d ej=>?_,λj vq ej=>?_,λj c hc=>?_,b.iZ,b.kR,⟨λc o z n=>?_,λc xs z=>k.tup c xs (b.kp.tup c xs z)⟩,λc z=>dn c (b.fT c z),λj y d ej=>by
  obtain⟨v,g1,g2,g3⟩:=b.shl j y d ej;have hj:j≠i:=λz=>by rw[z,e]at ej;cases ej
  exact⟨v,g1,g2.map (λc hc o eo=>k.out c o eo (ne j hj c hc)) (λ_ _ r=>r.keep (kW y)),g3⟩⟩
 ·obtain⟨v,g1,g2,g3⟩:=b.ow j d ej;have hj:j≠i:=λz=>by rw[z,e]at ej;cases ej
  exact⟨v,g1,g2.keep k.tup (λc hc o eo=>k.out c o eo (ne j hj c hc)),g3⟩
 ·by_cases hj:j=i
  ·subst hj;rw[e]at ej;cases ej;exact⟨h,ur,hσ,e',o',h4,h5⟩
  ·obtain⟨a,ms,g1,g2,g3,g4,g5⟩:=b.kB j vq ej;exact⟨a,ms,g1,k.out a _ g2 (ne j hj a (by rw[g4];simp)),g3,g4,g5⟩
 ·obtain⟨g1,g2,g3⟩:=b.dm j c hc
  by_cases oV:c=h
  ·rw[oV,e'];rw[oV]at g3;exact⟨λz=>(nomatch z),λxs z=>(by cases z),g3⟩
  ·cases q:H c with
   |none=>exact absurd q g1
   |some o=>rw[k.out c o q oV];exact⟨λz=>(nomatch z),λxs z=>g2 xs (by rw[q];exact z),g3⟩
 ·refine k.out c o (b.kp.out c o z n) λq=>?_;subst q;rcases (b.dm i c (by rw[h4];simp)).2.2.1 with z0|z0
  ·rw[z0]at z;cases z
  ·exact n z0
def F_ (ih:Nat)(ok:List Int->Prop)(ro:Bool)(F:FD)(φs:bS):aN:=λβ R=>β[ih]?=some (some (.hand ok))/\φs β λds ks β1=>β1[ih]?=some (some (.hand ok))/\hold (f_ ks) false/\F ds λd=>R d (rk ro) β1
theorem bc (mF:dS F)(G:aM X.prog X.w X.K X.mg X.base bW k f fd ps (gS X.prog X.w ok ro F))(hr:cb k X.A)(hm:X.mg x=some (.ref f))(hk:PySem.W.keepIn X.K (.ref f)=true)(hb:Binds X.K fd ps [])(ha:pU X C p es φs)(hN:X.N[ih]?=some hx:=by rfl)
  (hv:vB X.env.scope hx:=by first|exact .inl rfl|exact .inr (.inl rfl)|exact .inr (.inr rfl)) (hd:(hx==("__debug__" : Str))=false:=by decide) (gM:(hx==("__classdict__" : Str))=false:=by decide) (hg:Gl X x:=by rfl) (hdb:(x==("__debug__" : Str))=false:=by decide)
  (gb:Rc (.Name hx px::es) X.env=(false,eval (.Name hx px) X.env)::Rc es X.env:=by rfl) (hpl:(SF pos (Rc es X.env)).any (·.1)=false:=by rfl) :
  PQ X C false (.Call (.Name x pp) (.Name hx px::es) [] pos) (F_ ih ok ro F φs) :=
 ⟨λβ R R' k Lm=>by obtain⟨e,h⟩:=Lm;exact⟨e,ha.mono β _ _ (λds ks β1 Ey=>by obtain⟨e,hh,q⟩:=Ey;exact⟨e,hh,mF ds _ _ (λd q=>k _ _ _ q) q⟩) h⟩,
  (sN G hr hg hm hk hb .nil BS (bf (d8 (pos:=px) hN hv hd gM) ha.pa gb) (hdb:=hdb) (he:=gb) (hpl:=hpl)).pre λσ H Q Ll=>by
  obtain⟨β,own,s,e,h⟩:=Ll;obtain⟨hh,ns,h1,h2,h3,h4⟩:=s.kB ih ok e;refine⟨.ref hh,h1,qp.of ha s h λds ks β1 vs H1 aB ⟨e1,ho,q⟩ o1 r1=>?_⟩;obtain⟨QQ,OI,g1,g2,g3,g4,g5⟩:=o1.sq.kB ih ok e1;rw[h1]at g1;cases g1;have wh:Wn aB hh:=⟨ih,by rw[g4];simp⟩
  rw[Sr];refine⟨hh,vs,ds,OI,rfl,g2,g3,ag.aP (λa z=>?_) r1.gT,mF ds _ _ (λd q v H' ur kp dn e' vq r=>?_) q⟩
  ·subst z;cases hk:f_ ks with
   |own=>exact .inl wh
   |dU=>exact .inl wh
   |old=>exact wh
   |bor=>rw[hk]at ho;exact ho.elim
  ·exact q v H' aB ⟨o1.sq.drawn e1 h1 kp e' vq dn,o1.sn.kp (kp.mono λb z=>by rw[z];exact wh) dn,λz=>(nomatch z),o1.le⟩ (r.kv o1.sq.uY o1.sq.fT λa z=>o1.sn.d a z)⟩
end
abbrev Cfg.z (C:Cfg):Cfg:=C.u λ_=>False
def SB (X:Cx)(C:Cfg)(Z:Hp×(Addr->Prop))(σ:St)(H:Hp)(β:aX):Prop:=∃own,SQ X C.z σ H β own/\Sn Z H (Wn own)
structure cQ where
 nx:aX->Prop
 rt:D->aX->Prop
 bk:aX->Prop:=λ_=>False
 ct:aX->Prop:=λ_=>False
def cQ.up (E:cQ)(n:aX->Prop):cQ:=⟨n,E.rt,E.bk,E.ct⟩
def cQ.lp (E:cQ)(n:aX->Prop):cQ:=⟨n,E.rt,E.nx,n⟩
structure NW (X:Cx)(C:Cfg)(Z:Hp×(Addr->Prop))(E:cQ)(D:Ends):Prop where
 nx:∀σ H β,SB X C Z σ H β->E.nx β->D.nx σ H
 rt:∀σ H β d v,SB X C Z σ H β->nr X.prog X.w C.ro C.H0 H d v->E.rt d β->D.rt v H
 bk:∀σ H β,SB X C Z σ H β->E.bk β->D.bk σ H
 ct:∀σ H β,SB X C Z σ H β->E.ct β->D.ct σ H
structure Le (E E':cQ):Prop where
 nx:∀β,E.nx β->E'.nx β
 rt:∀d β,E.rt d β->E'.rt d β
 bk:∀β,E.bk β->E'.bk β
 ct:∀β,E.ct β->E'.ct β
abbrev zt:=cQ->aX->Prop
def MF (X:Cx)(C:Cfg)(ψ:zt):TS:=λD σ H=>∃Z E β,SB X C Z σ H β/\ψ E β/\NW X C Z E D
structure PB (X:Cx)(C:Cfg)(st:Stmt)(ψ:zt):Prop where
 mono:∀E E' β,Le E E'->ψ E β->ψ E' β
 ps:PS X st (MF X C ψ)
structure ni (X:Cx)(C:Cfg)(st:List Stmt)(ψ:zt):Prop where
 mono:∀E E' β,Le E E'->ψ E β->ψ E' β
 ps:ny X st (MF X C ψ)
section
variable {X:Cx}{C:Cfg}{st:Stmt}{rest a b:List Stmt}{ψ ψ1 ψ2:zt}{Z:Hp×(Addr->Prop)}{σ:St}{H H':Hp}{β β':aX}{pos pos':Pos}{e c:Expr}{φ:aN}{τ:aY}{p:Bool}{own aK:Nat->List Addr}{i:Nat}{x:Str}
theorem Out.sb (n:Sn Z H (Wn own))(o:Out X C.z σ H own p β' H' aK):SB X C Z σ H' β':=⟨aK,o.sq,n.trans o.sn⟩
theorem a9:ni X C [] (λE β=>E.nx β):=⟨λE E' β l h=>l.nx β h,sj.pre λD σ H yb=>by obtain⟨Z,E,β,sb,h,ok⟩:=yb;exact ok.nx σ H β sb h⟩
theorem aj (h1:PB X C st ψ1)(h2:ni X C rest ψ2):ni X C (st::rest) (λE β=>ψ1 (E.up (ψ2 E)) β) :=
 ⟨λE E' β l h=>h1.mono {E with nx:=ψ2 E} {E' with nx:=ψ2 E'} β ⟨λβ' q=>h2.mono E E' β' l q,l.rt,l.bk,l.ct⟩ h,(c8 h1.ps h2.ps).pre λD σ H ⟨Z,E,β,sb,h,ok⟩ =>
  ⟨Z,{E with nx:=ψ2 E},β,sb,h,⟨λσ' H' β' qD h'=>⟨Z,E,β',qD,h',ok⟩,ok.rt,ok.bk,ok.ct⟩⟩⟩
theorem ar (h1:PB X C st ψ):ni X C [st] ψ:=⟨h1.mono,fA h1.ps⟩
theorem cu (h1:PB X C st ψ1)(h2:ni X C rest ψ2):ni X C (st::rest) (λE β=>∃J:aX->Prop,ψ1 (E.up J) β/\∀β',J β'->ψ2 E β') :=
 ⟨λE E' β l A7=>by obtain⟨J,h,k⟩:=A7;exact⟨J,h1.mono {E with nx:=J} {E' with nx:=J} β ⟨λ_ q=>q,l.rt,l.bk,l.ct⟩ h,λβ' q=>h2.mono E E' β' l (k β' q)⟩,(c8 h1.ps h2.ps).pre λD σ H ⟨Z,E,β,sb,⟨J,h,k⟩,ok⟩ =>
  ⟨Z,{E with nx:=J},β,sb,h,⟨λσ' H' β' qD h'=>⟨Z,E,β',qD,k β' h',ok⟩,ok.rt,ok.bk,ok.ct⟩⟩⟩
theorem cf (hc:qe X C.z p c τ)(ha:ni X C a ψ1)(hb:ni X C b ψ2):PB X C (.If c a b pos) (λE β=>τ β λt β'=>if t=true then ψ1 E β' else ψ2 E β') :=
 ⟨λE E' β l h=>hc.mono _ _ _ (λt β' q=>by
   cases t
   ·exact hb.mono E E' β' l q
   ·exact ha.mono E E' β' l q) h,(BO hc.pt ha.ps hb.ps).pre λD σ H A6=>by
  obtain⟨Z,E,β,⟨own,s,n⟩,h,ok⟩:=A6;refine iM.of hc s h λt β' H1 aB q o1=>?_;cases t
  ·exact⟨Z,E,β',o1.sb n,q,ok⟩
  ·exact⟨Z,E,β',o1.sb n,q,ok⟩⟩
abbrev B8 (d:D)(k:Kd)(K:B->Prop):Prop:=match k with
 |.own=>K (.val true d)
 |.dU=>K (.val true d)
 |.old=>K (.val false d)
 |.bor=>d.flat=true/\K (.val true d)
theorem B8.mono {d:D}{k:Kd}{K K':B->Prop}(h:∀b,K b->K' b)(q:B8 d k K):B8 d k K':=by
 cases k <;> first|exact h _ q|exact⟨q.1,h _ q.2⟩
theorem B8.of {P:Q6}{w:Rl}{d:D}{v:V}{k:Kd}{K:B->Prop}(r:KV P w C Z own H k d v)(q:B8 d k K):∃y,K (.val y d)/\aw P w (av C (Wn own) (yk y)) H d v:=by
 cases k with
 |own=>exact⟨true,q,r.dU⟩
 |dU=>exact⟨true,q,r⟩
 |old=>exact⟨false,q,r⟩
 |bor=>exact⟨true,q.2,aw.flat q.1 r⟩
theorem mB {own:Nat->List Addr}{i:Nat}(n:Sn Z H (Wn own)):Sn Z H (Wn (aJ own i [])):=⟨λb z=>n.w b (dD z),n.k,n.d⟩
theorem aW (he:PQ X C.z p e φ)(hN:X.N.Nodup)(hi:X.N[i]?=some x:=by rfl)(hx:Loc X.env.scope x:=by first|exact .inl rfl|exact .inr rfl)
  (hs:Tc e (some (.Name x pos')) pos.line X.env=pure false:=by rfl) (hf:X.fn x=true\/X.env.scope.names.lookup x=some .local:=by first|exact .inl rfl|exact .inr rfl|assumption) :
  PB X C (.Assign [.Name x pos'] e pos) (λE β=>φ β λd k β'=>B8 d k λb=>E.nx (β'.set i (some b))) :=
 ⟨λE E' β l q=>he.mono _ _ _ (λd k β' q=>q.mono λ_=>l.nx _) q,(qG hN hi hx he.pe hs hf).pre λD σ H ⟨Z,E,β,⟨own,s,n⟩,q,ok⟩=>tQ.of he s q λd k β' v H' aK q o r=>by
  obtain⟨y,q,r⟩:=q.of r;exact ok.nx _ _ _ ⟨_,o.sq.dX (aw.aP (λa z=>z.elim id λz=>z.elim) r),mB (n.trans o.sn)⟩ q⟩
abbrev B9 (k:Kd)(d:D):Prop:=match k with
 |.own=>True
 |_=>d.flat=true
theorem KV.fl {P:Q6}{w:Rl}{d:D}{v:V}{k:Kd}(f:B9 k d)(r:KV P w C Z own H k d v):KV P w C Z own H .own d v:=by
 cases k with
 |own=>exact r
 |dU=>exact KV.flat f r.rep
 |old=>exact KV.flat f r.rep
 |bor=>exact KV.flat f r.rep
theorem d9 (he:∀U,PQ X (C.u U) p e φ)(hN:X.N.Nodup)(hi:X.N[i]?=some x:=by rfl)(hx:Loc X.env.scope x:=by first|exact .inl rfl|exact .inr rfl)
  (hs:Tc e (some (.Name x pos')) pos.line X.env=pure false:=by rfl) (hf:X.fn x=true\/X.env.scope.names.lookup x=some .local:=by first|exact .inl rfl|exact .inr rfl|assumption) :
  PB X C (.Assign [.Name x pos'] e pos) (λE β=>φ β λd k β'=>B9 k d/\E.nx (β'.set i (some (.own d)))) :=
 ⟨λE E' β l q=>(he λ_=>False).mono _ _ _ (λd k β' q=>⟨q.1,l.nx _ q.2⟩) q,λpins s σ H D I ⟨Z,E,β,⟨own,sq,n⟩,q,ok⟩ =>
  qG hN hi hx (he λa=>H a=none).pe hs hf pins s σ H D I (tQ.of (he λa=>H a=none) (sq.rV (C:=C.z) (U:=λa=>H a=none) λa z=>z) q λd k β' v H' aK EF o r=>by
   obtain⟨f,q⟩:=EF;obtain⟨A,h1,h2,h3⟩:=r.fl f;refine ok.nx _ _ _ ⟨_,o.sq.wx h1 h2 λc hc=>⟨(h3 c hc).2.2,(h3 c hc).2.1,(h3 c hc).1⟩,?_⟩ q;have m:=n.trans o.sn;exact⟨λb EE=>by
    obtain⟨j,hj⟩:=EE
    by_cases aG:i=j
    ·rw[<- aG,os_eq]at hj;exact .inr (n.free (h3 b hj).1)
    ·rw[a6 aG]at hj;exact m.w b ⟨j,hj⟩,m.k,m.d⟩)⟩
theorem bA.Ge {P:Q6}{w:Rl}{U U2:Addr->Prop}{d d':D}{v:V}{A':List Addr}{c:Addr}{o:HO}(b:bA P w (C.u U) σ H β own)(e:β[i]?=some (some (.own d)))(hσ:σ[i]?=some (some v))(hc:c∈own i)
  (r:Own P w (upd H c o) d' v A') (nd:A'.Nodup) (hA:∀a∈A',a∈own i\/(C.H0 a=none/\¬ Wn own a/\U a)) (hU:∀a,U2 a->U a) (LZ:∀a∈A',¬ U2 a):bA P w (C.u U2) σ (upd H c o) (β.set i (some (.own d'))) (aJ own i A'):=by
 obtain⟨g1,g2,g3,g4⟩:=b.dm i c hc;obtain⟨oc,EG⟩:∃oc,H c=some oc:=by
  cases q:H c with
  |none=>exact absurd q g1
  |some oc=>exact⟨oc,rfl⟩
 have ht:∀xs,oc≠.tup xs:=λxs z=>g2 xs (by rw[EG,z])
 have k:Kp (·=c) H (upd H c o):=jQ EG ht;have h0:∀a∈own i,C.H0 a=none:=by obtain⟨_,_,_,h⟩:=b.ow i d e;exact h
 have wc:Wn own c:=⟨i,hc⟩;have sub:∀y a,eV (C.u U2) (Wn (aJ own i A')) (yk y) a->eV (C.u U) (Wn own) (yk y) a:=λy a h=>by
  have q:∀a,Wn (aJ own i A') a->Wn own a\/U a:=λa x_=>by
   obtain⟨j,q⟩:=x_
   by_cases aG:i=j
   ·rw[aG,os_eq]at q;rcases hA a q with z|z
    ·exact .inl ⟨i,z⟩
    ·exact .inr z.2.2
   ·rw[a6 aG]at q;exact .inl ⟨j,q⟩
  rcases h with h|h
  ·cases y with
   |true=>exact h.elim (λz=>(q a z).imp .inl id) λz=>.inl (.inr z)
   |false=>exact q a h
  ·exact .inr (hU a h)
 have mem:∀{j c},c∈aJ own i A' j->(i=j/\c∈A')\/(i≠j/\c∈own j):=λ{j c} h=>by
  by_cases aG:i=j
  ·subst aG;rw[os_eq]at h;exact .inl ⟨rfl,h⟩
  ·rw[a6 aG]at h;exact .inr ⟨aG,h⟩
 have Jb:∀j,i≠j->∀a∈own j,a≠c:=λj aG a ha z=>aG (b.iZ i j c hc (by rw[<- z];exact ha))
 refine⟨by simp[b.len],λj y' d2 e2=>?_,λj d2 e2=>?_,λj ok e2=>?_,λj a h=>?_,λj k2 a h1 h2=>?_,λj=>?_,⟨λa oa z n=>?_,λa xs z=>k.tup a xs (b.kp.tup a xs z)⟩,λa z=>?_,λj y' d2 e2=>by
  by_cases aG:i=j
  ·subst aG;obtain⟨e',hl⟩:=aZ e2;cases e'
  ·rw[aU aG]at e2;rw[a6 aG];obtain⟨u,h1,h2,h3⟩:=b.shl j y' d2 e2;exact⟨u,h1,h2.map (λa ha oa ea=>k.out a oa ea (Jb j aG a ha)) (λ_ _ r=>ag.aP (sub _) (r.keep (k.mono λa z=>by rw[z];cases y' <;> first|exact .inl wc|exact .inl (.inl wc)))),h3⟩⟩
 ·by_cases aG:i=j
  ·subst aG;obtain⟨e',hl⟩:=aZ e2;cases e'
  ·rw[aU aG]at e2;obtain⟨u,h1,h2⟩:=b.val j y' d2 e2;exact⟨u,h1,(h2.keep (k.mono λa z=>by rw[z];cases y' <;> first|exact .inl wc|exact .inl (.inl wc))).aP (sub _)⟩
 ·by_cases aG:i=j
  ·subst aG;obtain⟨e',hl⟩:=aZ e2;cases e';rw[os_eq];exact⟨v,hσ,r,λa ha=>(hA a ha).elim (h0 a) λz=>z.1⟩
  ·rw[aU aG]at e2;rw[a6 aG];obtain⟨u,h1,h2,h3⟩:=b.ow j d2 e2;exact⟨u,h1,h2.keep k.tup (λa ha oa ea=>k.out a oa ea (Jb j aG a ha)),h3⟩
 ·by_cases aG:i=j
  ·subst aG;obtain⟨e',hl⟩:=aZ e2;cases e'
  ·rw[aU aG]at e2;rw[a6 aG];obtain⟨a,ns,h1,h2,h3,h4,h5⟩:=b.kB j ok e2;exact⟨a,ns,h1,k.out a _ h2 (Jb j aG a (by rw[h4];simp)),h3,h4,h5⟩
 ·rcases mem h with⟨_,h⟩|⟨aG,h⟩
  ·exact⟨(r.kG a h).1,(r.kG a h).2,.inl ((hA a h).elim (h0 a) λz=>z.1),LZ a h⟩
  ·obtain⟨q1,q2,q3,q4⟩:=b.dm j a h;rw[ak (Jb j aG a h)];exact⟨q1,q2,q3,λz=>q4 (hU a z)⟩
 ·rcases mem h1 with⟨e1,h1⟩|⟨n1,h1⟩
  ·rcases mem h2 with⟨e2,h2⟩|⟨n2,h2⟩
   ·rw[<- e1,<- e2]
   ·rcases hA a h1 with z|z
    ·exact absurd (b.iZ i k2 a z h2) n2
    ·exact absurd ⟨k2,h2⟩ z.2.1
  ·rcases mem h2 with⟨e2,h2⟩|⟨n2,h2⟩
   ·rcases hA a h2 with z|z
    ·exact absurd (b.iZ i j a z h1) n1
    ·exact absurd ⟨j,h1⟩ z.2.1
   ·exact b.iZ j k2 a h1 h2
 ·by_cases aG:i=j
  ·rw[<- aG,os_eq];exact nd
  ·rw[a6 aG];exact b.kR j
 ·refine k.out a oa (b.kp.out a oa z n) λq=>?_;subst q;rw[h0 a hc]at z;cases z
 ·by_cases NK:a=c
  ·rw[NK,ao];exact λz=>(nomatch z)
  ·rw[ak NK];exact b.fT a z
theorem bA.putIn {P:Q6}{w:Rl}{U:Addr->Prop}{d d':D}{v:V}{A':List Addr}{c:Addr}{o:HO}(b:bA P w (C.u U) σ H β own)(e:β[i]?=some (some (.own d)))(hσ:σ[i]?=some (some v))(hc:c∈own i)
  (r:Own P w (upd H c o) d' v A') (nd:A'.Nodup) (hA:∀a∈A',a∈own i\/(C.H0 a=none/\¬ Wn own a/\U a)):bA P w C.z σ (upd H c o) (β.set i (some (.own d'))) (aJ own i A') :=
 b.Ge (U2:=λ_=>False) e hσ hc r nd hA (λ_ z=>z.elim) λ_ _ z=>z
theorem qz {A':List Addr}{c:Addr}{o:HO}{U:Addr->Prop}(n:Sn Z H (Wn own))(m:∀a,U a->Z.1 a=none)(hc:Wn own c)(EG:∃oc,H c=some oc/\∀xs,oc≠.tup xs)(hA:∀a∈A',a∈own i\/(C.H0 a=none/\¬ Wn own a/\U a)):Sn Z (upd H c o) (Wn (aJ own i A')):=by
 obtain⟨oc,h1,h2⟩:=EG;have u:=Sn.upd (o':=o) n h1 h2 hc;exact⟨λb xZ=>by
  obtain⟨j,hj⟩:=xZ
  by_cases aG:i=j
  ·rw[<- aG,os_eq]at hj;rcases hA b hj with z|z
   ·exact n.w b ⟨i,z⟩
   ·exact .inr (m b z.2.2)
  ·rw[a6 aG]at hj;exact n.w b ⟨j,hj⟩,u.k,u.d⟩
theorem bA.oI {P:Q6}{w:Rl}{ds:List D}(b:bA P w C σ H β own)(e:β[i]?=some (some (.own (.lst ds)))):∃a vs A',σ[i]?=some (some (.ref a))/\H a=some (.lst vs)/\own i=a::A'/\aH P w H ds vs A':=by
 obtain⟨v,h1,⟨a,vs,A',rfl,h2,h3,h4⟩,_⟩:=b.ow i _ e;exact⟨a,vs,A',h1,h2,h3,h4⟩
variable {px ap cp:Pos}
theorem cY (he:∀U,PQ X (C.u U) p e φ)(hN:X.N[i]?=some x:=by rfl)(hv:vB X.env.scope x:=by first|exact .inl rfl|exact .inr (.inl rfl)|exact .inr (.inr rfl))(hd:(x==("__debug__" : Str))=false:=by decide)(gM:(x==("__classdict__" : Str))=false:=by decide)
  (cE:S5 (.Name x px) "append" X.env (eval (.Name x px) X.env)=eval (.Name x px) X.env:=by rfl)
  (h_:((SF cp (Rc [e] X.env)).all (λx=>!x.1)&&(Va cp (Ue [] X.env)).all (λx=>x.1.isSome)&&decide ([e].length+([]:List TN).length+(if ([]:List TN).isEmpty then 0 else 1)<30))=true:=by rfl)
  (cD:(ap.endLine==cp.line)=true:=by rfl) (hs:Rc [e] X.env=(false,eval e X.env)::Rc [] X.env:=by rfl) (cm:(SF cp (Rc [] X.env)).any (·.1)=false:=by rfl)
  (pZ:Tc (.Call (.Attribute (.Name x px) "append" ap) [e] [] cp) none pos.line X.env=pure false:=by rfl) :
  PB X C (.Expr (.Call (.Attribute (.Name x px) "append" ap) [e] [] cp) pos) (λE β=>(∃ds,β[i]?=some (some (.own (.lst ds))))/\φ β λd k β'=>B9 k d/\∃ds,β'[i]?=some (some (.own (.lst ds)))/\ds.length<Ri/\E.nx (β'.set i (some (.own (.lst (ds++[d])))))):=by
 refine⟨λE E' β l xY=>by obtain⟨h1,q⟩:=xY;exact⟨h1,(he λ_=>False).mono _ _ _ (λd k β' xX=>by obtain⟨f,ds,h1,h2,q⟩:=xX;exact⟨f,ds,h1,h2,l.nx _ q⟩) q⟩,λpins s σ H D I ⟨Z,E,β,⟨own,sq,n⟩,⟨⟨P7,hb⟩,q⟩,ok⟩=>?_⟩
 refine iV (pos:=pos) (sO (apos:=ap) (cpos:=cp) PySem.F.plainAttrs_list PySem.F.slot_list_append PySem.F.type_list_append gZ (d8 (pos:=px) hN hv hd gM) (bf (he λa=>H a=none).pe cK hs) cE h_ cD hs cm) pZ pins s σ H D I ?_;obtain⟨a,vs,A',h1,h2,h3,h4⟩:=sq.oI hb;refine⟨.ref a,h1,.inl ⟨rfl,vs,dg.of h2⟩,tQ.of (he λa=>H a=none) (sq.rV (C:=C.z) (U:=λa=>H a=none) λa z=>z) q λd k β' v H1 aB ⟨f,ds,p_,hl,q⟩ o r=>?_⟩;obtain⟨a',vs',A1,g1,g2,g3,g4⟩:=o.sq.oI p_;rw[h1]at g1;cases g1;obtain⟨A,r1,r2,r3⟩:=r.fl f;have ha:a∈aB i:=by rw[g3];simp
 have nd:(a::(A1++A)).Nodup:=by
  have q:=o.sq.kR i;rw[g3]at q;refine RM.mpr ⟨λz=>?_,Sw.mpr ⟨(RM.mp q).2,r2,λx hx y hy e=>?_⟩⟩
  ·rcases Rx.mp z with z|z
   ·exact(RM.mp q).1 z
   ·exact(r3 a z).2.1 ⟨i,ha⟩
  ·subst e;exact(r3 x hy).2.1 ⟨i,by rw[g3];simp[hx]⟩
 have hA:∀b∈a::(A1++A),b∈aB i\/(C.H0 b=none/\¬ Wn aB b/\H b=none):=λb hb=>by
  rcases Ra.mp hb with rfl|hb
  ·exact .inl ha
  ·rcases Rx.mp hb with hb|hb
   ·exact .inl (by rw[g3];simp[hb])
   ·exact .inr ⟨(r3 b hb).2.2,(r3 b hb).2.1,(r3 b hb).1⟩
 have kt:∀b xs,H1 b=some (.tup xs)->upd H1 a (.lst (vs'++[v])) b=some (.tup xs):=λb xs z=>by
  rw[ak (λz'=>by rw[z',g2]at z;cases z)];exact z
 have ne1:∀c∈A1,c≠a:=λc hc z=>by
  have q:=o.sq.kR i;rw[g3]at q;exact(RM.mp q).1 (by rw[<- z];exact hc)
 have ne2:∀c∈A,c≠a:=λc hc z=>(r3 c hc).2.1 ⟨i,by rw[z];exact ha⟩
 have r':Own X.prog X.w (upd H1 a (.lst (vs'++[v]))) (.lst (ds++[d])) (.ref a) (a::(A1++A)) :=
  ⟨a,vs'++[v],A1++A,rfl,ao,rfl,(g4.keep kt λc hc oc ec=>by rw[ak (ne1 c hc)];exact ec).append (aH.one (r1.keep kt λc hc oc ec=>by rw[ak (ne2 c hc)];exact ec))⟩
 exact⟨a,vs',v,rfl,rfl,g2,by rw[g4.length];exact hl,ok.nx _ _ _ ⟨_,o.sq.putIn p_ h1 ha r' nd hA,qz (n.trans o.sn) (λb z=>n.free z) ⟨i,ha⟩ ⟨_,g2,λxs z=>by cases z⟩ hA⟩ q⟩
end
abbrev dj:=D->Kd->aX->(aX->Prop)->Prop
abbrev mh:=List D->Kd->aX->(aX->Prop)->Prop
structure vD (X:Cx)(C:Cfg)(tg:Expr)(T:List Nat)(γ:dj):Prop where
 mono:∀d k β R R',(∀r,R r->R' r)->γ d k β R->γ d k β R'
 pg:PG X tg λv σ H Q=>∃own β d k,SQ X C σ H β own/\Rp X (eV C (Wn own) k) H d v/\γ d k β λβ'=>∀σ' aK,SQ X C σ' H β' aK->(∀a,Wn aK a->Wn own a)->(∀j,j∉T->σ'[j]?=σ[j]?)->Q σ' H
structure BI (X:Cx)(C:Cfg)(tS:List Expr)(T:List Nat)(γ:mh):Prop where
 mono:∀d k β R R',(∀r,R r->R' r)->γ d k β R->γ d k β R'
 MU:CK X tS λvs σ H Q=>∃own β ds k,SQ X C σ H β own/\qc X (eV C (Wn own) k) H ds vs/\γ ds k β λβ'=>∀σ' aK,SQ X C σ' H β' aK->(∀a,Wn aK a->Wn own a)->(∀j,j∉T->σ'[j]?=σ[j]?)->Q σ' H
section
variable {X:Cx}{C:Cfg}{tg:Expr}{tS:List Expr}{γ:dj}{γs:mh}{T T':List Nat}{pos:Pos}{e:Expr}{φ:aN}{p:Bool}
def PM (i:Nat):dj:=λd k β R=>B8 d k λb=>R (β.set i (some b))
theorem aD {i:Nat}{x:Str}(hN:X.N.Nodup)(hi:X.N[i]?=some x:=by rfl)(hx:Loc X.env.scope x:=by first|exact .inl rfl|exact .inr rfl)
  (hf:X.fn x=true\/X.env.scope.names.lookup x=some .local:=by first|exact .inl rfl|exact .inr rfl|assumption):vD X C (.Name x pos) [i] (PM i) :=
 ⟨λd k β R R' h q=>B8.mono (d:=d) (k:=k) (K:=λb=>R (β.set i (some b))) (K':=λb=>R' (β.set i (some b))) (λ_=>h _) q,(Ah hN hi hx hf).pre λv σ H Q yb=>by
  obtain⟨own,β,d,k,s,r,q⟩:=yb;have IY:∀(v:V) (j:Nat),j∉[i]->(σ.set i (some v))[j]?=σ[j]?:=λv j hj=>aU (Ud (by simpa using hj))
  cases k with
  |own=>exact q _ _ (s.dX (y:=true) r) (λa h=>dD h) (IY v)
  |dU=>exact q _ _ (s.dX (y:=true) r) (λa h=>dD h) (IY v)
  |old=>exact q _ _ (s.dX (y:=false) r) (λa h=>dD h) (IY v)
  |bor=>exact q.2 _ _ (s.dX (y:=true) (aw.flat q.1 r)) (λa h=>dD h) (IY v)⟩
abbrev sk (k:Kd):D->Kd
 |.int _=>.own
 |.bl _=>.own
 |.bB=>.own
 |.str _=>.own
 |_=>k.wk
theorem mD {P:Q6}{w:Rl}{W:Addr->Prop}{H:Hp}{k:Kd}{d:D}{v:V}(r:aw P w (eV C W k) H d v):aw P w (eV C W (sk k d)) H d v:=by
 cases d with
 |int i=>exact aw.flat rfl r
 |bl i=>exact aw.flat rfl r
 |bB=>exact aw.flat rfl r
 |str i=>exact aw.flat rfl r
 |_=>exact aw.aP (λa z=>z.imp (yU a) id) r
def EU:mh:=λds _ β R=>ds=[]/\R β
def yn (γ:dj)(γs:mh):mh:=λds k β R=>∃d r,ds=d::r/\γ d (sk k d) β λβ'=>γs r k β' R
theorem dN:BI X C [] [] EU:=⟨λd k β R R' h q=>⟨q.1,h _ q.2⟩,Ag.pre λvs σ H Q xW=>by
 obtain⟨own,β,ds,k,s,r,e,q⟩:=xW;subst e;exact⟨r,q σ own s (λ_ z=>z) λ_ _=>rfl⟩⟩
theorem ba (h1:vD X C tg T γ)(h2:BI X C tS T' γs)(hs:(S9 (tg::tS) X.env).map (·.2)=assign tg X.env::(S9 tS X.env).map (·.2):=by rfl):BI X C (tg::tS) (T++T') (yn γ γs) :=
 ⟨λds k β R R' h A7=>by obtain⟨d,r,e,q⟩:=A7;exact⟨d,r,e,h1.mono _ _ β _ _ (λβ' q=>h2.mono r k β' _ _ h q) q⟩,
  (wY h1.pg h2.MU hs).pre λvs σ H Q Hk=>by
    obtain⟨own,β,ds,k,s,rr,d,r,e,q⟩:=Hk;subst e;obtain⟨v,vr,rfl,rv,Ou⟩:=rr;exact⟨v,vr,rfl,own,β,d,_,s,mD rv,h1.mono _ _ β _ _ (λβ' q σ' aK s' w' t'=>⟨aK,β',r,k,s',ag.aP (fv w' k) Ou,h2.mono r k β' _ _ (λβ2 q2 σ2 a3 s2 w2 t2=>q2 σ2 a3 s2 (λa z=>w' a (w2 a z)) λj hj=>(t2 j λz=>hj (RX _ z)).trans (t' j λz=>hj (Sh _ z))) q⟩) q⟩⟩
def PL (n:Nat)(γs:mh):dj:=λd k β R=>∃ds,d=.tup ds/\ds.length=n/\γs ds k β R
theorem fB {k:Nat}{n:Nat}(hc:X.calm=true)(h:BI X C tS T γs)(hn:(S9 tS X.env).length=n:=by rfl)(mU:(S9 tS X.env).findIdx? (·.1)=none:=by rfl):vD X C (.Tuple tS k pos) T (PL n γs) :=
 ⟨λd k β R R' hh Ex=>by obtain⟨ds,e,l,q⟩:=Ex;exact⟨ds,e,l,h.mono ds k β _ _ hh q⟩,(DC hc h.MU hn mU).pre λv σ H Q Ew=>by
  obtain⟨own,β,d,k,s,r,ds,e,l,q⟩:=Ew;subst e;obtain⟨a,vs,rfl,ha,rs⟩:=r;exact⟨a,vs,rfl,vi.of ha,by rw[rs.length];exact l,own,β,ds,k,s,rs,q⟩⟩
theorem gq {Z:Hp×(Addr->Prop)}{H:Hp}{own aK:Nat->List Addr}(n:Sn Z H (Wn own))(h:∀a,Wn aK a->Wn own a):Sn Z H (Wn aK):=⟨λb z=>n.w b (h b z),n.k,n.d⟩
theorem xb (he:PQ X C.z p e φ)(hg:vD X C.z tg T γ)(hs:swapsWithSole [tg] e pos.line X.env=pure false:=by rfl)(hw:swappedStores [tg] e X.env=pure none:=by rfl)
  (h1:(S9 [tg] X.env).map (·.2)=[assign tg X.env]:=by rfl):PB X C (.Assign [tg] e pos) (λE β=>φ β λd k β'=>γ d k β' E.nx) :=
 ⟨λE E' β l q=>he.mono _ _ _ (λd k β' q=>hg.mono _ _ _ _ _ l.nx q) q,(qH he.pe hg.pg hs hw h1).pre λD σ H ⟨Z,E,β,⟨own,s,n⟩,q,ok⟩=>tQ.of he s q λd k β' v H' aK q o r =>
  ⟨aK,β',d,k,o.sq,aw.aP (λa z=>z.elim id λz=>z.elim) r.rep,hg.mono _ _ _ _ _ (λβ2 q σ2 a3 s2 w2 _=>ok.nx _ _ _ ⟨a3,s2,gq (n.trans o.sn) w2⟩ q) q⟩⟩
abbrev Na (ro:Bool)(k:Kd)(d:D):Prop:=match k,ro with
 |.own,_=>True
 |.dU,false=>True
 |_,_=>d.flat=true
theorem cZ {P:Q6}{w:Rl}{W:Addr->Prop}{ro:Bool}{H H':Hp}{d:D}{v:V}(f:d.flat=true)(r:aw P w W H' d v):nr P w ro H H' d v:=by
 cases ro with
 |true=>exact⟨[],da f r,Sf,λc hc=>(nomatch hc)⟩
 |false=>exact aw.flat f r
theorem AH {P:Q6}{w:Rl}{Z:Hp×(Addr->Prop)}{own:Nat->List Addr}{ro:Bool}{H':Hp}{k:Kd}{d:D}{v:V}(f:Na ro k d)(r:KV P w C Z own H' k d v):nr P w ro C.H0 H' d v:=by
 cases k with
 |own =>
  cases ro with
  |true=>obtain⟨A,h1,h2,h3⟩:=r;exact⟨A,h1,h2,λc hc=>(h3 c hc).2.2⟩
  |false=>exact aw.aP (λa z=>.inr z) r.rep
 |dU =>
  cases ro with
  |true=>exact cZ f r.rep
  |false=>exact aw.aP (λa z=>.inr z) r.rep
 |old=>cases ro <;> exact cZ f r.rep
 |bor=>cases ro <;> exact cZ f r.rep
theorem bq (he:PQ X C.z p e φ):PB X C (.Return (some e) pos) (λE β=>φ β λd k β'=>Na C.ro k d/\E.rt d β') :=
 ⟨λE E' β l q=>he.mono _ _ _ (λd k β' q=>⟨q.1,l.rt _ _ q.2⟩) q,(gW he.pe).pre λD σ H A6=>by obtain⟨Z,E,β,⟨own,s,n⟩,q,ok⟩:=A6;exact tQ.of he s q λd k β' v H' aK q o r=>ok.rt _ _ _ _ _ (o.sb n) (AH (C:=C.z) q.1 r) q.2⟩
theorem iW {i:Nat}{x:Str}{px:Pos}(hN:X.N[i]?=some x:=by rfl)(hv:vB X.env.scope x:=by first|exact .inl rfl|exact .inr (.inl rfl)|exact .inr (.inr rfl))(hd:(x==("__debug__" : Str))=false:=by decide)(gM:(x==("__classdict__" : Str))=false:=by decide):
  PB X C (.Return (some (.Name x px)) pos) (λE β=>∃d,β[i]?=some (some (.own d))/\E.rt d β) :=
 ⟨λE E' β l rj=>by obtain⟨d,h1,q⟩:=rj;exact⟨d,h1,l.rt _ _ q⟩,(gW (d8 (pos:=px) hN hv hd gM)).pre λD σ H ya=>by
  obtain⟨Z,E,β,⟨own,s,n⟩,⟨d,h1,q⟩,ok⟩:=ya;obtain⟨v,e1,r,h0⟩:=s.ow i d h1;refine⟨_,e1,ok.rt _ _ _ _ _ ⟨own,s,n⟩ ?_ q⟩;cases hr:C.ro with
  |true=>exact⟨_,r,s.kR i,h0⟩
  |false=>exact r.rep λc hc z=>z (h0 c hc)⟩
end
abbrev cF:=aX->(List D->Kd->aX->Prop)->Prop
structure y_ (X:Cx)(C:Cfg)(p:Bool)(tg iter:Expr)(ι:cF):Prop where
 mono:∀β R R',(∀d k β,R d k β->R' d k β)->ι β R->ι β R'
 pi:PI X tg iter λσ H R=>∃β own,SQ X C σ H β own/\ι β λds k β'=>∀J H' aK,Out X C σ H own p β' H' aK->zw X (av C (Wn aK) k) J ds H'->R J H'
section
variable {X:Cx}{C:Cfg}{tg e a b:Expr}{φ:aN}{φs:bS}{p:Bool}{pp pos:Pos}
def KR (φ:aN):cF:=λβ R=>φ β λd k β'=>∃ds,d=.lst ds/\R ds k β'
theorem c9 (h:PQ X C p e φ):y_ X C p tg e (KR φ) :=
 ⟨λβ R R' k q=>h.mono β _ _ (λd kd β' EF=>by obtain⟨ds,e,q⟩:=EF;exact⟨ds,e,k _ _ _ q⟩) q,(sJ h.pe).pre λσ H R ⟨β,own,s,q⟩=>tQ.of h s q λd k β' v H1 aB x_ o1 r1=>by
  obtain⟨ds,e,q1⟩:=x_;subst e;obtain⟨a,vs,rfl,h1,n1,q2⟩:=r1.rep;exact⟨a,rfl,⟨vs,dg.of h1⟩,q1 _ _ aB o1 (oO h1 n1 q2)⟩⟩
def A4 (φs:bS):cF:=λβ R=>φs β λds _ β'=>∃j:Int,ds=[.int j]/\-(2 ^ 62)<=j/\j<2 ^ 62/\R (mG 0 j.toNat) .dU β'
def s9 (φs:bS):cF:=λβ R=>φs β λds _ β'=>∃i j:Int,ds=[.int i,.int j]/\(-(2 ^ 62)<=i/\i<2 ^ 62/\-(2 ^ 62)<=j/\j<2 ^ 62)/\R (mG i (j-i).toNat) .dU β'
theorem bN (hm:X.mg "range" = none) (ha:pU X C p [a] φs) (hg:Gl X "range" := by rfl) (hs:Rc [a] X.env=[(false,eval a X.env)]:=by rfl):y_ X C p tg (.Call (.Name "range" pp) [a] [] pos) (A4 φs) :=
 ⟨λβ R R' k q=>ha.mono β _ _ (λd kd β' ED=>by obtain⟨j,e,h1,h2,q⟩:=ED;exact⟨j,e,h1,h2,k _ _ _ q⟩) q,(uk hg hm ha.pa hs).pre λσ H R ⟨β,own,s,q⟩=>qp.of ha s q λds ks β' vs H1 aB EB o1 r1=>by
  obtain⟨j,e,h1,h2,q1⟩:=EB;subst e;obtain⟨x,rfl,hx⟩:=kq r1.gT;cases hx;exact⟨j,rfl,h1,h2,q1 _ _ aB o1 hV⟩⟩
theorem jx (hm:X.mg "range" = none) (ha:pU X C p [a,b] φs) (hg:Gl X "range" := by rfl) (hs:Rc [a,b] X.env=[(false,eval a X.env),(false,eval b X.env)]:=by rfl) (uQ:Rc [b] X.env=[(false,eval b X.env)]:=by rfl) :
  y_ X C p tg (.Call (.Name "range" pp) [a,b] [] pos) (s9 φs) :=
 ⟨λβ R R' k q=>ha.mono β _ _ (λd kd β' EA=>by obtain⟨i,j,e,h1,q⟩:=EA;exact⟨i,j,e,h1,k _ _ _ q⟩) q,(lC hg hm ha.pa hs uQ).pre λσ H R ⟨β,own,s,q⟩=>qp.of ha s q λds ks β' vs H1 aB Lr o1 r1=>by
  obtain⟨i,j,e,h1,q1⟩:=Lr;subst e;obtain⟨x,y,rfl,hx,hy⟩:=tK r1.gT;cases hx;cases hy;exact⟨i,j,rfl,h1,q1 _ _ aB o1 hV⟩⟩
end
def oY (γ:dj)(ψ:zt)(E:cQ)(ds:List D)(k:Kd)(β:aX):Prop:=∃I:Nat->aX->Prop,I 0 β/\(∀i d β,ds[i]?=some d->I i β->γ d (sk k d) β λβ1=>ψ (E.lp (I (i+1))) β1)/\∀β,I ds.length β->E.nx β
section
variable {X:Cx}{C:Cfg}{tg iter c:Expr}{γ:dj}{T:List Nat}{ψ:zt}{ι:cF}{τ:aY}{body:List Stmt}{pos:Pos}{p:Bool}
theorem oY.mono {E E':cQ}{ds:List D}{k:Kd}{β:aX}(hγ:∀d k β R R',(∀r,R r->R' r)->γ d k β R->γ d k β R')(hψ:∀E E' β,Le E E'->ψ E β->ψ E' β)(l:Le E E'):oY γ ψ E ds k β->oY γ ψ E' ds k β:=λ⟨I,h0,h1,h2⟩ =>
 ⟨I,h0,λi d β e q=>hγ d _ β _ _ (λβ1 q=>hψ {nx:=I (i+1),rt:=E.rt,bk:=E.nx,ct:=I (i+1)} {nx:=I (i+1),rt:=E'.rt,bk:=E'.nx,ct:=I (i+1)} β1 ⟨λ_ q=>q,l.rt,l.nx,λ_ q=>q⟩ q) (h1 i d β e q),λβ q=>l.nx _ (h2 β q)⟩
theorem BD {own a3:Nat->List Addr}{H H2:Hp}{k:Kd}(n:Sn (H,Wn own) H2 (Wn a3)):∀b,av C (Wn a3) k b->av C (Wn own) k b\/H b=none:=λb z=>by
 cases k with
 |own=>exact z.elim (λz=>(n.w b z).imp .inl id) λz=>.inl (.inr z)
 |dU=>exact z.elim (λz=>(n.w b z).imp .inl id) λz=>.inl (.inr z)
 |old=>exact n.w b z
 |bor=>exact z.elim
theorem d_ (hp:VH (model X.prog X.w) X.A X.env X.xe)(hc:X.calm=true)(hi:y_ X C.z p tg iter ι)(hg:vD X C.z tg T γ)(hb:ni X C body ψ)(hs:∀x,Se iter X.env x=pure x:=by intro _;rfl):
  PB X C (.For tg iter body [] pos) (λE β=>ι β λds k β1=>hold k false/\oY γ ψ E ds k β1) :=
 ⟨λE E' β l q=>hi.mono _ _ _ (λds k β1 q=>⟨q.1,q.2.mono hg.mono hb.mono l⟩) q,(wL hp hc hi.pi hg.pg hb.ps hs).pre λD σ H Lp=>by
  obtain⟨Z,E,β,⟨own,s,n⟩,q,ok⟩:=Lp;refine⟨β,own,s,hi.mono _ _ _ (λds k β1 ⟨hk,I,i0,i1,i2⟩ J H1 aB o1 it=>?_) q⟩;have n':=n.trans o1.sn;have ig:∀b,Wn aB b\/H1 b=none->av C.z (Wn aB) k b\/H1 b=none:=λb z=>by
   cases k with
   |own=>exact z.imp .inl id
   |dU=>exact z.imp .inl id
   |old=>exact z
   |bor=>exact hk.elim
  have Fs:=it (λb=>av C.z (Wn aB) k b\/H1 b=none) λb z=>z;refine⟨λi m σ H=>i<=ds.length/\m=ds.length-i/\∃β,SB X C (H1,Wn aB) σ H β/\I i β,⟨_,Rr _,rfl,β1,⟨aB,o1.sq,Sn.refl⟩,i0⟩,?_⟩;rintro i m σ2 H2 ⟨hi,rfl,β2,⟨a3,s2,n2⟩,hl⟩;obtain⟨cH,mR⟩:=Fs i H2 (n2.k.mono ig)
  by_cases fI:i<ds.length
  ·right
   have hd:ds[i]?=some ds[i]:=Rf fI;obtain⟨go,yl⟩:=cH _ hd;refine⟨go,λσ' H'=>∃β,SB X C (H1,Wn aB) σ' H' β/\I (i+1) β,λσ' H' Ln=>by obtain⟨β',qD,uR⟩:=Ln;exact⟨_,by lia,fI,rfl,β',qD,uR⟩,λx H3 y=>?_⟩
   obtain⟨s3,r3⟩:=yl x H3 y;refine⟨a3,β2,_,_,s2.same s3,mD (C:=C.z) (aw.aP (λb z=>BD (C:=C) n2 b (z.elim id λz=>z.elim)) r3),hg.mono _ _ _ _ _ (λβ4 q σ4 oj s4 w4 _=>?_) (i1 i _ β2 hd hl)⟩;refine⟨(H1,Wn aB),_,β4,⟨oj,s4,gq (n2.same s3) w4⟩,q,⟨λσ5 H5 β5 t8 q5=>⟨β5,t8,q5⟩,λσ5 H5 β5 d5 v5 t8 r5 q5=>?_,λσ5 H5 β5 t8 q5=>?_,λσ5 H5 β5 t8 q5=>⟨β5,t8,q5⟩⟩⟩
   ·obtain⟨kQ,s5,n5⟩:=t8;exact ok.rt _ _ _ _ _ ⟨kQ,s5,n'.trans n5⟩ r5 q5
   ·obtain⟨kQ,s5,n5⟩:=t8;exact ok.nx _ _ _ ⟨kQ,s5,n'.trans n5⟩ q5
  ·left
   have e:i=ds.length:=by lia
   subst e;exact⟨mR (Q4 _),ok.nx _ _ _ ⟨a3,s2,n'.trans n2⟩ (i2 β2 hl)⟩⟩
def C1 (τ:aY)(ψ:zt):zt:=λE β=>∃V:Nat->aX->Prop,(∃m,V m β)/\∀m β,V m β->τ β λt β1=>if t=true then ψ {nx:=λβ'=>∃m',m'<m/\V m' β',rt:=E.rt,bk:=E.nx,ct:=λβ'=>∃m',m'<m/\V m' β'} β1 else E.nx β1
theorem w_ (hp:VH (model X.prog X.w) X.A X.env X.xe)(hc:qe X C.z p c τ)(hb:ni X C body ψ):PB X C (.While c body [] pos) (C1 τ ψ) :=
 ⟨λE E' β l ⟨V,h0,h⟩=>⟨V,h0,λm β v=>hc.mono _ _ _ (λt β1 q=>by
   cases t
   ·exact l.nx _ q
   ·exact hb.mono {nx:=λβ'=>∃m',m'<m/\V m' β',rt:=E.rt,bk:=E.nx,ct:=λβ'=>∃m',m'<m/\V m' β'} {nx:=λβ'=>∃m',m'<m/\V m' β',rt:=E'.rt,bk:=E'.nx,ct:=λβ'=>∃m',m'<m/\V m' β'} β1 ⟨λ_ q=>q,l.rt,l.nx,λ_ q=>q⟩ q) (h m β v)⟩,(wK hp hc.pt hb.ps).pre λD σ H Ey=>by
  obtain⟨Z,E,β,sb,⟨V,⟨m0,v0⟩,h⟩,ok⟩:=Ey;refine⟨λm σ H=>∃β,SB X C Z σ H β/\V m β,⟨m0,β,sb,v0⟩,λm σ H ⟨β,⟨own,s,n⟩,v⟩=>?_⟩;refine iM.of hc s (h m β v) λt β1 H1 aB q o1=>?_;cases t
  ·exact ok.nx _ _ _ (o1.sb n) q
  ·exact⟨λσ' H'=>∃β',SB X C Z σ' H' β'/\∃m',m'<m/\V m' β',λσ' H' Lk=>by obtain⟨β',qD,m',hm,v'⟩:=Lk;exact⟨m',hm,β',qD,v'⟩,Z,_,β1,o1.sb n,q,λσ' H' β' qD q'=>⟨β',qD,q'⟩,ok.rt,ok.nx,λσ' H' β' qD q'=>⟨β',qD,q'⟩⟩⟩
end
def startB (N:List Str)(ds:List D):aX:=ds.map (λd=>some (.val false d))++Tt (N.length-ds.length) none
def gR (N:List Str)(ok:List Int->Prop)(ds:List D):aX:=some (.hand ok)::(ds.map (λd=>some (.val false d))++Tt (N.length-(ds.length+1)) none)
section
variable {P:Q6}{w:Rl}{K:PySem.W.Frag}{mg:Str->Option QZ}{base:Heap}
theorem fb {i n:Nat}{b:B}(h:(Tt n (none:Option B))[i]?=some (some b)):False:=by
 rw[List.getElem?_replicate]at h
 split at h <;> cases h
theorem dG {ds:List D}{n i:Nat}{b:B}(h:(ds.map (λd=>some (B.val false d))++Tt n none)[i]?=some (some b)):∃d,ds[i]?=some d/\b=.val false d:=by
 by_cases hi:i<ds.length
 ·rw[Su (by simpa using hi),Rn]at h
  cases q:ds[i]? with
  |none=>rw[q]at h;cases h
  |some d=>rw[q]at h;cases h;exact⟨d,rfl,rfl⟩
 ·rw[R9 (by simpa using hi)]at h
  exact(fb h).elim
theorem gQ {N:List Str}{vs:List V}{i:Nat}{v:V}(h:vs[i]?=some v):(start N vs)[i]?=some (some v):=by
 unfold start;rw[Su (by simpa using (Rw.mp h).1),Rn,h]
 rfl
theorem nM {N:List Str}{vs:List V}{ds:List D}{H:Hp}{ro:Bool}(r:ag P w (λ_=>False) H ds vs):bA P w ⟨H,λ_=>False,ro,λ_=>False⟩ (start N vs) H (startB N ds) (λ_=>[]):=by
 refine⟨?_,λi y d h=>?_,λi d h=>?_,λi ok h=>?_,λi a h=>(nomatch h),λi j a h=>(nomatch h),λi=>Sf,Kp.refl,λ_ z=>z,λi y d h=>by obtain⟨d',e,e'⟩:=dG h;cases e'⟩
 ·unfold startB start;simp[r.length]
 ·obtain⟨d',e,e'⟩:=dG h;cases e';obtain⟨v,e1,e2⟩:=ag.get r e;exact⟨v,gQ e1,aw.aP (λa z=>z.elim (λLj=>by obtain⟨_,q⟩:=Lj;exact(nomatch q)) λz=>z) e2⟩
 ·obtain⟨d',e,e'⟩:=dG h;cases e'
 ·obtain⟨d',e,e'⟩:=dG h;cases e'
theorem uo {x qual:Str}{st:Stmt}{f:Addr}{fd:RY}{N ps:List Str}{k:Nat}{F:FD}{ro:Bool}(G:zb K x qual st f fd)(S:aL N ps (au st))(len:∀ds R,F ds R->ds.length=ps.length)
  (gG:∀(b7:QZ) (A:R7) (outer:List Env) (s:Q1) (H:Hp) (E:XK),cb k (A.deeper (UC qual (au st) s.heap.objs.size f b7)) ->
   ∃ψ,ni (iR bW P w K mg base N qual (au st) f b7 A outer s H E).qP ⟨H,λ_=>False,ro,λ_=>False⟩ (cV st) ψ/\∀ds R,F ds R->ψ {nx:=λ_=>R .bB,rt:=λd _=>R d} (startB N ds)) :
  aM P w K mg base bW (k+1) f fd ps (fG P w ro F):=by
 refine G.ok S (λvs H Q E h=>?_) (λb7 A outer s H vs Q E hr h=>?_)
 ·obtain⟨ds,r,h⟩:=h;rw[r.length];exact len ds _ h
 ·obtain⟨ds,r,h⟩:=h;obtain⟨ψ,hb,hF⟩:=gG b7 A outer s H E hr;refine⟨_,hb.ps,(H,Wn λ_=>[]),_,startB N ds,⟨λ_=>[],nM r,Sn.refl⟩,hF ds _ h,λσ H' β sb q=>?_,λσ H' β d v sb rr q=>?_,λ_ _ _ _ z=>z.elim,λ_ _ _ _ z=>z.elim⟩
  ·obtain⟨own,s',n'⟩:=sb;exact q _ H' (λb o e=>s'.kp.out b o e (λz=>z)) (cZ (W:=λ_=>False) rfl rfl)
  ·obtain⟨own,s',n'⟩:=sb;exact q _ H' (λb o e=>s'.kp.out b o e (λz=>z)) rr
theorem tV {N:List Str}{ok:List Int->Prop}{h:Addr}{ns:List Int}{vs:List V}{ds:List D}{H:Hp}{ro:Bool}(hh:H h=some (.lst (ns.map V.int)))(ho:ok ns)(r:ag P w (λa=>a=h) H ds vs):
  bA P w ⟨H,(·=h),ro,λ_=>False⟩ (start N (.ref h::vs)) H (gR N ok ds) (λi=>if i=0 then [h] else []):=by
 have Ap:∀{i:Nat} {a:Addr},a∈(if i=0 then [h] else ([]:List Addr))->i=0/\a=h:=λ{i a} q=>by
  by_cases e:i=0
  ·rw[if_pos e]at q;exact⟨e,by simpa using q⟩
  ·rw[if_neg e]at q;cases q
 have Bh:∀{i:Nat} {b:B},(gR N ok ds)[i]?=some (some b)->(i=0/\b=.hand ok)\/∃j d,i=j+1/\ds[j]?=some d/\b=.val false d:=λ{i b} q=>by
  unfold gR at q;cases i with
  |zero=>simp at q;exact .inl ⟨rfl,q.symm⟩
  |succ i =>
   rw[TV]at q;obtain⟨d,e,e'⟩:=dG q;exact .inr ⟨i,d,rfl,e,e'⟩
 refine⟨?_,λi y d q=>?_,λi d q=>?_,λi vq q=>?_,λi a q=>?_,λi j a h1 h2=>?_,λi=>?_,Kp.refl,λ_ z=>z,λi y d q=>(Bh q).elim (λK4=> by obtain⟨_,e⟩ := K4;cases e) (λK3=> by obtain⟨j,d',_,_,e'⟩ := K3;cases e')⟩
 ·unfold gR start;simp[r.length]
 ·rcases Bh q with⟨_,e⟩|⟨j,d',rfl,e,e'⟩
  ·cases e
  ·cases e';obtain⟨v,e1,e2⟩:=ag.get r e;exact⟨v,gQ (by simpa using e1),aw.aP (λa z=>z.elim (λLi=>by obtain⟨j,q⟩:=Li;exact(Ap q).2) λz=>z.elim) e2⟩
 ·rcases Bh q with⟨_,e⟩|⟨j,d',_,_,e'⟩
  ·cases e
  ·cases e'
 ·rcases Bh q with⟨e0,e⟩|⟨j,d',_,_,e'⟩
  ·cases e;subst e0;exact⟨h,ns,gQ rfl,hh,ho,rfl,.inr rfl⟩
  ·cases e'
 ·obtain⟨_,rfl⟩:=Ap q;exact⟨by rw[hh];exact λz=>(nomatch z),λxs z=>(by rw[hh]at z;cases z),.inr rfl,λz=>z⟩
 ·rw[(Ap h1).1,(Ap h2).1]
 ·by_cases e:i=0
  ·simp[e]
  ·simp[e]
theorem DR {x qual:Str}{st:Stmt}{f:Addr}{fd:RY}{N ps:List Str}{k:Nat}{F:FD}{ok:List Int->Prop}{ro:Bool}(G:zb K x qual st f fd)(S:aL N ps (au st))(len:∀ds R,F ds R->ds.length+1=ps.length)
  (gG:∀(b7:QZ) (A:R7) (outer:List Env) (s:Q1) (H:Hp) (E:XK) (IO:Addr->Prop),cb k (A.deeper (UC qual (au st) s.heap.objs.size f b7)) ->
   ∃ψ,ni (iR bW P w K mg base N qual (au st) f b7 A outer s H E).qP ⟨H,IO,ro,λ_=>False⟩ (cV st) ψ/\∀ds R,F ds R->ψ {nx:=λ_=>False,rt:=λd β=>β[0]?=some (some (.hand ok))/\R d} (gR N ok ds)) :
  aM P w K mg base bW (k+1) f fd ps (gS P w ok ro F):=by
 refine G.ok S (λvs H Q E h=>?_) (λb7 A outer s H vs Q E hr h=>?_)
 ·obtain⟨h,vs',ds,ns,rfl,hh,ho,r,q⟩:=h;rw[Rq,r.length];exact len ds _ q
 ·obtain⟨h,vs',ds,ns,rfl,hh,ho,r,q⟩:=h;obtain⟨ψ,hb,hF⟩:=gG b7 A outer s H E (·=h) hr;refine⟨_,hb.ps,(H,_),_,gR N ok ds,⟨_,tV hh ho r,Sn.refl⟩,hF ds _ q,λσ H' β sb z=>z.elim,λσ H' β d v sb rr ⟨b0,q⟩=>?_,λ_ _ _ _ z=>z.elim,λ_ _ _ _ z=>z.elim⟩;obtain⟨own,s',n'⟩:=sb;obtain⟨a,ur,g1,g2,g3,g4,g5⟩:=s'.kB 0 ok b0;have ea:a=h:=g5.elim (λz=>(z h rfl).elim) λz=>z;subst ea;exact q v H' ur s'.kp s'.fT g2 g3 rr
end
end L2.Q
namespace L2
open PySem PySem.Spec PySem.SeqAt PyProof.Rows
theorem qd.pre {X:Cx}{ifs:List Expr}{t t':TT}(h:qd X ifs t)(k:∀σ H Q,t' σ H Q->t σ H Q):qd X ifs t':=λpins s σ H Q I q=>h pins s σ H Q I (k σ H Q q)
section
end
section
end
section
variable {X:Cx}{e:Expr}{g:TM}{gs:List TM}{scope:TU}{N':List Str}{lk:List (Option Nat)}{tg:Addr->TG}{tt:Addr->TT}{wi:TI}
theorem iJ {dF:Sem QZ}{o:HO}{after:QZ->Env->Sem Fin->Sem Fin}{ta:Addr->ku}(L:Links X scope N' lk)(hc:X.calm=true)(hA:kz X dF o)
  (F:∀acc env,fW e 0 g acc env (after acc env))
  (vw:∀a cl C s H ex,PG (aC X scope N' cl C s H ex) g.target (tg a)/\qd (aC X scope N' cl C s H ex) g.ifs (tt a)/\nj (aC X scope N' cl C s H ex) (after (.ref a) (aC X scope N' cl C s H ex).env) (ta a))
  {cl:List (Str×Addr)} (kU:∀x,(x,R4)∈scope.names->∃c,cl.lookup x=some c) (rl:∀x c,cl.lookup x=some c->X.env.cells.lookup x=some c)
  {pins:List (Addr×Obj)} {σ:St} {s:Q1} {Q:V->Hp->Prop} {B_:QZ} {E:QZ->Q1->Prop} {RR:QZ->Addr->Result->Q1->Prop}
  (h:JA X pins σ g.target (λJ H1=>∀a,H1 a=none->eZ J (tg a) (tt a) (ta a) (λ_ H'=>Q (.ref a) H') (di lk σ) (upd H1 a o)) B_ s)
  (hR:∀a H' C s',Inv X pins σ H' s'->gg X pins H' C->(∃m,s'.heap.Ns C m)->Q (.ref a) H'->RR (.ref a) C (.ok .next) s') :
  RA (model X.prog X.w) X.A dF (λacc s₃=>RA (model X.prog X.w) X.A (newFunctionEnv scope X.env.globals cl [] X.env.qual none .none (some X.env)) (λIF s₄ =>
   Up (model X.prog X.w) X.A (.compStart e 0 B_ acc {IF with scope:=relabel scope X.env}) (RR acc IF.locals) s₄) E s₃) E s:=by
 obtain⟨it,fp,tn,J,H2,e1,I2,T,eJ,f2,hl⟩:=h;subst e1;refine hA.ok pins s σ H2 _ E I2 λa s3 ha hn hk I3=>?_;refine wpAny_newFunctionEnv L.qQ (by intro y hy;simp at hy) (λh₁ EI Eu=>?_) L.kind
 have Ly:∀b∈fp,∃o,s3.heap.get? b=some o:=λb hb=>by
  obtain⟨ob,q,_⟩:=T.obj _ _ eJ b hb;exact⟨ob,hk b ob q⟩
 have Pz:∀b∈fp,b≠a:=λb hb=>by
  obtain⟨ob,q,_⟩:=T.obj _ _ eJ b hb;exact RQ (RF (Rj q) ha)
 have f3:∀b∈fp,gg X pins (upd H2 a o) b:=λb hb=>⟨by rw[ak (Pz b hb)];exact(f2 b hb).1,(f2 b hb).2⟩
 have LL:∀b ob,s3.heap.get? b=some ob->h₁.get? b=some ob:=λb ob q=>Eu.extBut b ob (RQ (Rj q)) (Q8 _ q);have Jk:h₁.Ns s3.heap.objs.size (λ_=>none):=EI;have I4:=xS (t':=s3.toks+([]:List (Str×QZ)).length) I3 L f3 Ly kU rl Jk LL;obtain⟨g1,g2,g3⟩:=vw a cl s3.heap.objs.size s3 (upd H2 a o) fp;have f4:∀b∈fp,gg (aC X scope N' cl s3.heap.objs.size s3 (upd H2 a o) fp) [] (upd H2 a o) b:=λb hb =>
  ⟨(f3 b hb).1,(I4.ok.EY b hb).1,I4.ok.pF b hb,.inl hb,(I4.ok.EY b hb).2,λp hp=>absurd (show p∈([]:List (Addr×Obj)) from hp) (by simp)⟩
 have FW:tn 0 h₁:=T.keep 0 _ _ eJ λb hb ob q=>LL b ob (hk b ob q);refine Tw (kl (X:=aC X scope N' cl s3.heap.objs.size s3 (upd H2 a o) fp) rfl hc (F (.ref a) _) g1 g2 g3 T I4 FW f4 (hl a hn)) λr s' hr=>?_;obtain⟨rfl,σ',H',J',q⟩:=hr;have I5:Inv X pins σ H' s':=xT (C:=s3.heap.objs.size) (h'':=s'.heap) I3 f3 J' (.refl ..);refine hR a H' s3.heap.objs.size s' I5 (I3.Bj (Q4 _) J'.free) ?_ q;obtain⟨m,hm,_⟩:=J'.loc;exact⟨m,hm⟩
theorem jB {dF:Sem QZ}{o:HO}{after:QZ->Env->Sem Fin->Sem Fin}{ta:Addr->ku}{pos:Pos}(L:Links X scope N' lk)(hc:X.calm=true)(hA:kz X dF o)
  (EL:eval e X.env=comprehension e scope X.env pos dF false (eval g.iter X.env)) (Bd:clausesOf e=g::gs)
  (F:∀acc env,fW e 0 g acc env (after acc env)) (hi:PI X g.target g.iter wi)
  (vw:∀a cl C s H ex,PG (aC X scope N' cl C s H ex) g.target (tg a)/\qd (aC X scope N' cl C s H ex) g.ifs (tt a)/\nj (aC X scope N' cl C s H ex) (after (.ref a) (aC X scope N' cl C s H ex).env) (ta a))
  (hs:∀x,Se g.iter X.env x=pure x) :
  PE X e (λσ H Q=>wi σ H λJ H1=>∀a,H1 a=none->eZ J (tg a) (tt a) (ta a) (λ_ H'=>Q (.ref a) H') (di lk σ) (upd H1 a o)):=by
 intro pins s σ H Q I h;rw[EL];obtain⟨cl,yi,kU,rl⟩:=fU (env:=X.env) (scope:=scope) λx hx=>I.ok.has x (L.free x hx);refine wpAny_comprehension_free (use:=none) Bd hs yi L.kind L.names (br (hi pins s σ H _ I h) λv s1 h1=>br h1 λB_ s2 h2=>?_);refine iJ (RR:=λacc C=>compPost (model X.prog X.w) X.A X.xe none (EP X pins σ Q) acc C) L hc hA F vw kU rl h2 λa H' C s' I' f ⟨m,hm⟩ q=>?_;exact⟨m,hm,λh' uP=>⟨.ref a,H',I'.sameBut f uP,rfl,q⟩⟩
theorem wM {dF:Sem QZ}{o:HO}{after:QZ->Env->Sem Fin->Sem Fin}{ta:Addr->ku}{pos pos' nN:Pos}{y:Str}{i:Nat}(L:Links X scope N' lk)(hc:X.calm=true)(hA:kz X dF o)
  (pZ:Tc e (some (.Name y pos')) nN.line X.env=pure true)
  (EL:evalThenUse e X.env (assign (.Name y pos') X.env)=(do let _ <- comprehension e scope X.env pos dF false (eval g.iter X.env) (some (assign (.Name y pos') X.env));pure ())) (Bd:clausesOf e=g::gs)
  (hN:X.N.Nodup) (hy:X.N[i]?=some y) (hx:Loc X.env.scope y) (hf:X.fn y=true\/X.env.scope.names.lookup y=some .local)
  (F:∀acc env,fW e 0 g acc env (after acc env)) (hi:PI X g.target g.iter wi)
  (vw:∀a cl C s H ex,PG (aC X scope N' cl C s H ex) g.target (tg a)/\qd (aC X scope N' cl C s H ex) g.ifs (tt a)/\nj (aC X scope N' cl C s H ex) (after (.ref a) (aC X scope N' cl C s H ex).env) (ta a))
  (hs:∀x,Se g.iter X.env x=pure x) :
  PS X (.Assign [.Name y pos'] e nN) (λD σ H=>wi σ H λJ H1=>∀a,H1 a=none->eZ J (tg a) (tt a) (ta a) (λ_ H'=>D.nx (σ.set i (some (.ref a))) H') (di lk σ) (upd H1 a o)):=by
 intro pins s σ H D I h;rw[exec_Assign_Name_used _ _ _ _ pZ,EL];refine Q0 (Tb (Q0 (Q0 ?_)));obtain⟨cl,yi,kU,rl⟩:=fU (env:=X.env) (scope:=scope) λx hx=>I.ok.has x (L.free x hx);refine br (wpAny_comprehension_free (use:=some (assign (.Name y pos') X.env)) (Q:=λ_ s'=>SP X pins D .next s') Bd hs yi L.kind L.names (br (hi pins s σ H _ I h) λv s1 h1=>br h1 λB_ s2 h2=>?_)) λ_ s' q=>Q_ (Q_ q)
 refine iJ (Q:=λv H'=>D.nx (σ.set i (some v)) H') (RR:=λacc C=>compPost (model X.prog X.w) X.A X.xe (some (assign (.Name y pos') X.env)) (λ_ s'=>SP X pins D .next s') acc C) L hc hA F vw kU rl h2 λa H' C s' I' f ⟨m,hm⟩ q=>?_
 show RA _ _ (assign (.Name y pos') X.env (.ref a)) _ _ s';have QU:∃o,s'.heap.get? C=some o:=by obtain⟨o,_,_,ho,_⟩:=hm;exact⟨o,ho⟩
 refine wpAny_assign_Name (lx I' hN hy hx (v:=.ref a) (u:=.ref a) rfl (λs4 I4 k4=>?_) hf);obtain⟨a4,Ot,PD⟩:=k4;have Ba:C≠a4:=by
  rcases PD with z|z
  ·rw[z];exact f.2.1
  ·exact(f.2.2.2.2.1 y a4 z).symm
 exact⟨m,hm.at' (λo e=>(Ot.2 C Ba).trans e),λh' uP=>⟨_,H',I4.sameBut f uP,q⟩⟩
end
end L2
namespace L2.Q
open PySem PySem.Spec PySem.SeqAt PyProof.Rows
def Nb:Option B->Option B
 |some (.own d)=>some (.val false d)
 |some (.shl _ d)=>some (.val false d)
 |b=>b
def cg (lk:List (Option Nat))(β:aX):aX:=lk.map λl=>match l with|some j=>(match β[j]? with|some b=>Nb b|none=>none)|none=>none
def Jh:Option (Option B)->Bool
 |some (some (.hand _))=>true
 |_=>false
def bh (lk:List (Option Nat))(β:aX)(own:Nat->List Addr)(i:Nat):List Addr:=match lk[i]? with
 |some (some j)=>if Jh β[j]?=true then own j else []
 |_=>[]
def eN:aX->aX->Prop
 |[],_=>True
 |some (.hand ok)::a,c=>c.head?=some (some (.hand ok))/\eN a c.tail
 |_::a,c=>eN a c.tail
theorem eN.get:∀{a c:aX} {i:Nat} {ok:List Int->Prop},eN a c->a[i]?=some (some (.hand ok))->c[i]?=some (some (.hand ok))
 |[],_,_,_,_,e=>by simp at e
 |x::a,c,0,ok,h,e=>by
  simp at e;subst e;rw[<- List.head?_eq_getElem?];exact h.1
 |x::a,c,i+1,ok,h,e=>by
  have h':eN a c.tail:=by
   cases x with
   |none=>exact h
   |some x=>cases x <;> first|exact h|exact h.2
  have:=eN.get (i:=i) h' (by simpa using e)
  rwa [List.getElem?_tail]at this
section
variable {P:Q6}{w:Rl}{C:Cfg}{σ σ':St}{H H' H1:Hp}{β βi:aX}{own gy:Nat->List Addr}{lk:List (Option Nat)}{a:Addr}
theorem bF {i:Nat}{c:Addr}(h:c∈bh lk β own i):∃j,lk[i]?=some (some j)/\Jh β[j]?=true/\c∈own j:=by
 unfold bh at h
 split at h
 ·next j e =>
  by_cases q:Jh β[j]?=true
  ·rw[if_pos q]at h;exact⟨j,e,q,h⟩
  ·rw[if_neg q]at h;cases h
 ·cases h
theorem a7:∀c,Wn (bh lk β own) c->Wn own c:=λc ⟨i,h⟩=>let ⟨j,_,_,h⟩:=bF h;⟨j,h⟩
theorem fo {i j:Nat}{v:V}(h:lk[i]?=some (some j))(e:σ[j]?=some (some v)):(di lk σ)[i]?=some (some v):=by
 unfold di;rw[Rn,h];simp only[UY];rw[e]
theorem fF {i:Nat}{b:B}(h:(cg lk β)[i]?=some (some b)):∃j b',lk[i]?=some (some j)/\β[j]?=some (some b')/\Nb (some b')=some b:=by
 unfold cg at h;rw[Rn]at h;cases q:lk[i]? with
 |none=>rw[q]at h;cases h
 |some l =>
  rw[q]at h;cases l with
  |none=>cases h
  |some j =>
   simp only[UY]at h;cases q2:β[j]? with
   |none=>rw[q2]at h;cases h
   |some b2 =>
    rw[q2]at h;simp only[VA]at h;cases b2 with
    |none=>cases h
    |some b'=>exact⟨j,b',rfl,q2,h⟩
theorem bA.enter (s:bA P w C σ H β own)(ha:H a=none)(inj:∀(i i' j:Nat),lk[i]?=some (some j)->lk[i']?=some (some j)->i=i'):
  bA P w (C.u λc=>c=a) (di lk σ) (upd H a (.lst [])) (cg lk β) (bh lk β own):=by
 have sm:az H (upd H a (.lst [])):=az.new ha;have na:∀{i c},c∈own i->c≠a:=λ{i c} hc z=>(s.dm i c hc).1 (by rw[z];exact ha)
 have gr:∀k,∀c,eV (C.u λc=>c=a) (Wn (bh lk β own)) k c->eV C (Wn own) k c\/H c=none:=λk c z=>by
  rcases z with z|z
  ·exact .inl (.inl (i6 a7 k c z))
  ·exact .inr (by rw[z];exact ha)
 refine⟨by unfold cg di;simp,λi y d e=>?_,λi d e=>?_,λi ok e=>?_,λi c h=>?_,λi i' c h1 h2=>?_,λi=>?_,s.kp.trans sm.kp,λc z e=>s.fT c z (sm.free e),λi y d e=>by
  obtain⟨j,b',e1,e2,e3⟩:=fF e;cases b' <;> cases e3⟩
 ·obtain⟨j,b',e1,e2,e3⟩:=fF e;cases b' with
  |val y' d' =>
   cases e3;obtain⟨v,h1,h2⟩:=s.val j y d e2;exact⟨v,fo e1 h1,(aw.grow (gr _) h2).same sm⟩
  |own d' =>
   cases e3;obtain⟨v,h1,h2,h3⟩:=s.ow j d e2;refine⟨v,fo e1 h1,aw.same sm (h2.rep λc hc z=>?_)⟩;rcases z with z|z
   ·obtain⟨i',cU⟩:=z;obtain⟨j',q1,q2,q3⟩:=bF cU;have:=s.iZ j j' c hc q3;subst this;rw[e2]at q2;cases q2
   ·exact na hc z
  |hand ok=>cases e3
  |shl y' d' =>
   cases e3;obtain⟨v,h1,h2,h3⟩:=s.shl j y' d e2;refine⟨v,fo e1 h1,aw.same sm (h2.rep (λc hc z=>?_) λds vs r=>ag.grow (λc z=>?_) r)⟩
   ·rcases z with z|z
    ·obtain⟨i',cU⟩:=z;obtain⟨j',q1,q2,q3⟩:=bF cU;have:=s.iZ j j' c hc q3;subst this;rw[e2]at q2;cases q2
    ·exact na hc z
   ·rcases gr _ c z with z|z
    ·refine .inl ?_;rcases z with z|z
     ·cases y' with
      |true=>exact .inl (.inl z)
      |false=>exact .inl z
     ·exact .inr z
    ·exact .inr z
 ·obtain⟨j,b',e1,e2,e3⟩:=fF e;cases b' <;> cases e3
 ·obtain⟨j,b',e1,e2,e3⟩:=fF e;cases b' with
  |val y' d'=>cases e3
  |own d'=>cases e3
  |shl y d=>cases e3
  |hand vq =>
   cases e3;obtain⟨h,ns,h1,h2,h3,h4,h5⟩:=s.kB j ok e2;refine⟨h,ns,fo e1 h1,sm _ _ h2,h3,?_,h5⟩;unfold bh;rw[e1];simp only;rw[e2];exact(if_pos rfl).trans h4
 ·obtain⟨j,q1,q2,q3⟩:=bF h;obtain⟨g1,g2,g3,g4⟩:=s.dm j c q3;rw[ak (na q3)];exact⟨g1,g2,g3,na q3⟩
 ·obtain⟨j,q1,q2,q3⟩:=bF h1;obtain⟨j',MS,QE,OD⟩:=bF h2;have:=s.iZ j j' c q3 OD;subst this;exact inj _ _ _ q1 MS
 ·unfold bh
  split
  ·next j e =>
   split
   ·exact s.kR j
   ·exact Sf
  ·exact Sf
theorem bA.Dl {o:HO}(s:bA P w (C.u λc=>c=a) σ H β own){oa:HO}(ha:H a=some oa)(ht:∀xs,oa≠.tup xs)(h0:C.H0 a=none):bA P w (C.u λc=>c=a) σ (upd H a o) β own:=by
 have k:Kp (·=a) H (upd H a o):=jQ ha ht;have na:∀{i c},c∈own i->c≠a:=λ{i c} hc=>(s.dm i c hc).2.2.2;refine⟨s.len,λi y d e=>let ⟨v,h1,h2⟩:=s.val i y d e;⟨v,h1,h2.keep (k.mono λc z=>.inr z)⟩,λi d e=>let ⟨v,h1,h2,h3⟩:=s.ow i d e;⟨v,h1,h2.keep k.tup (λc hc oc ec=>k.out c oc ec (na hc)),h3⟩,
  λi ok e=>?_,λi c h=>?_,s.iZ,s.kR,⟨λc oc z n=>k.out c oc (s.kp.out c oc z n) λq=>?_,λc xs z=>k.tup c xs (s.kp.tup c xs z)⟩,λc z=>?_,λi y d e=>let ⟨v,h1,h2,h3⟩:=s.shl i y d e;⟨v,h1,h2.map (λc hc oc ec=>k.out c oc ec (na hc)) (λ_ _ r=>r.keep (k.mono λc z=>.inr z)),h3⟩⟩
 ·obtain⟨h,ns,h1,h2,h3,h4,h5⟩:=s.kB i ok e;exact⟨h,ns,h1,k.out h _ h2 (na (by rw[h4];simp)),h3,h4,h5⟩
 ·rw[ak (na h)];exact s.dm i c h
 ·rw[q,h0]at z;cases z
 ·by_cases q:c=a
  ·rw[q,ao];exact λz=>(nomatch z)
  ·rw[ak q];exact s.fT c z
theorem bA.leave (s:bA P w C σ H1 β own)(i:bA P w (C.u λc=>c=a) σ' H' βi gy)(n:Sn (H1,Wn (bh lk β own)) H' (Wn gy))(le:∀c,Wn gy c->Wn (bh lk β own) c)
  (hh:eN (cg lk β) βi) (hσ:∀(j:Nat) (ok:List Int->Prop) (i:Nat),β[j]?=some (some (B.hand ok))->lk[i]?=some (some j)->σ'[i]?=(di lk σ)[i]?):bA P w C σ H' β own:=by
 have off:∀{j c},c∈own j->¬ Wn (bh lk β own) c->∀o,H1 c=some o->H' c=some o:=λ{j c} hc nw o e=>n.k.out c o e λz=>z.elim nw λz=>(s.dm j c hc).1 z;have Hh:∀{j c},c∈own j->Jh β[j]?=false->¬ Wn (bh lk β own) c:=λ{j c} hc q xW=>by
  obtain⟨i',cU⟩:=xW;obtain⟨j',q1,q2,q3⟩:=bF cU;have:=s.iZ j j' c hc q3;subst this;rw[q]at q2;cases q2
 have hN:∀(j:Nat) (ok:List Int->Prop),β[j]?=some (some (B.hand ok))->∃a ns,σ[j]?=some (some (V.ref a))/\H' a=some (.lst (ns.map V.int))/\ok ns/\own j=[a]/\((∀b,¬ C.IO b)\/C.IO a):=λj ok e=>by
  obtain⟨h,ns,h1,h2,h3,h4,h5⟩:=s.kB j ok e
  by_cases q:Wn (bh lk β own) h
  ·obtain⟨i',cU⟩:=q;obtain⟨j',q1,q2,q3⟩:=bF cU;have:=s.iZ j j' h (by rw[h4];simp) q3
   subst this;have eB:(cg lk β)[i']?=some (some (.hand ok)):=by
    unfold cg;rw[Rn,q1];simp only[UY];rw[e];rfl
   obtain⟨h',ur,g1,g2,g3,g4,g5⟩:=i.kB i' ok (hh.get eB);rw[hσ j ok i' e q1,fo q1 h1]at g1;cases g1;exact⟨h,ur,h1,g2,g3,h4,h5⟩
  ·exact⟨h,ns,h1,off (by rw[h4];simp) q _ h2,h3,h4,h5⟩
 refine⟨s.len,λj y d e=>?_,λj d e=>?_,hN,λj c hc=>?_,s.iZ,s.kR,i.kp,i.fT,λj y d e=>by
  obtain⟨v,h1,h2,h3⟩:=s.shl j y d e;refine⟨v,h1,h2.map (λc hc o eo=>off hc (Hh hc (by rw[e];rfl)) o eo) (λds vs r=>?_),h3⟩
  have g:ag P w (λc=>eV C (Wn own) (yk y) c\/H1 c=none) H1 ds vs:=ag.grow (λc z=>z) r;refine ag.aP (λc z=>.inl z) (g.keep (n.k.mono λc z=>z.imp (λz=>?_) id));cases y with
  |true=>exact .inl (.inl (a7 c z))
  |false=>exact .inl (a7 c z)⟩
 ·obtain⟨v,h1,h2⟩:=s.val j y d e;have g:aw P w (λc=>eV C (Wn own) (yk y) c\/H1 c=none) H1 d v:=aw.grow (λc z=>z) h2;refine⟨v,h1,aw.aP (λc z=>.inl z) (g.keep (n.k.mono λc z=>z.imp (λz=>?_) id))⟩;cases y with
  |true=>exact .inl (.inl (a7 c z))
  |false=>exact .inl (a7 c z)
 ·obtain⟨v,h1,h2,h3⟩:=s.ow j d e;exact⟨v,h1,h2.keep n.k.tup (λc hc o eo=>off hc (Hh hc (by rw[e];rfl)) o eo),h3⟩
 ·obtain⟨g1,g2,g3,g4⟩:=s.dm j c hc
  by_cases q:Wn (bh lk β own) c
  ·obtain⟨i',cU⟩:=q;obtain⟨j',q1,q2,q3⟩:=bF cU;have:=s.iZ j j' c hc q3;subst this;cases e:β[j]? with
   |none=>rw[e]at q2;cases q2
   |some b =>
    rw[e]at q2;cases b with
    |none=>cases q2
    |some b =>
     cases b with
     |val y d=>cases q2
     |own d=>cases q2
     |shl y d=>cases q2
     |hand ok =>
      obtain⟨h,ns,k1,k2,k3,k4,k5⟩:=hN j ok e;rw[k4]at hc;rw[Rk.mp hc]at g3 g4 ⊢
      rw[k2];exact⟨λz=>(nomatch z),λxs z=>(by cases z),g3,g4⟩
  ·cases e:H1 c with
   |none=>exact absurd e g1
   |some o=>rw[off hc q o e];exact⟨λz=>(nomatch z),λxs z=>g2 xs (by rw[e];exact z),g3,g4⟩
end
def FJ:aY:=λβ R=>R true β
theorem wO {X:Cx}{C:Cfg}:qd X [] (iM X C true FJ):=z7.pre λσ H Q ⟨β,own,s,q⟩=>q H own (Out.refl s _)
theorem wN {X:Cx}{C:Cfg}{p:Bool}{c:Expr}{τ:aY}(h:qe X C p c τ):qd X [c] (iM X C p τ):=z6 h.pt
def lI (γ:dj)(τ:aY)(φ:aN)(ds:List D)(k:Kd)(β0:aX)(K:List D->Prop):Prop:=∃I:Nat->aX->List D->Prop,I 0 β0 [] /\
 (∀i d β o,ds[i]?=some d->I i β o->γ d (sk k d) β λβ1=>τ β1 λt β2=>if t=true then φ β2 λx kx β3=>B9 kx x/\o.length<Ri/\I (i+1) β3 (o++[x]) else I (i+1) β2 o)/\∀β o,I ds.length β o->eN β0 β/\K o
theorem lI.mono {γ:dj}{τ:aY}{φ:aN}{ds:List D}{k:Kd}{β0:aX}{K K':List D->Prop}(h:∀o,K o->K' o)(q:lI γ τ φ ds k β0 K):lI γ τ φ ds k β0 K':=let ⟨I,h0,h1,h2⟩:=q;⟨I,h0,h1,λβ o z=>⟨(h2 β o z).1,h _ (h2 β o z).2⟩⟩
section
variable {X:Cx}{C:Cfg}{lk:List (Option Nat)}{γ:dj}{τ:aY}{φ:aN}{T:List Nat}{pc pe:Bool}
theorem l6 {σ:St}{H1:Hp}{β:aX}{own:Nat->List Addr}{a:Addr}{J:It}{ds:List D}{k:Kd}{K:List D->Prop}{End:Hp->Prop}
  (γm:∀d k β R R',(∀r,R r->R' r)->γ d k β R->γ d k β R') (τm:∀β R R',(∀d β,R d β->R' d β)->τ β R->τ β R') (φm:∀β R R',(∀d k β,R d k β->R' d k β)->φ β R->φ β R')
  (inj:∀(i i' j:Nat),lk[i]?=some (some j)->lk[i']?=some (some j)->i=i') (hT:∀i∈T,∀j,lk[i]?≠some (some j))
  (s1:SQ X C σ H1 β own) (ha:H1 a=none) {hp:Bool} (Nj:hp=true->(pc&&pe)=true) (hk:hold k hp) (it:zw X (av C (Wn own) k) J ds H1) (q:lI γ τ φ ds k (cg lk β) K)
  (fin:∀o H',K o->Out X C σ H1 own (pc&&pe) β H' own->KV X.prog X.w C (H1,Wn own) own H' .own (.lst o) (.ref a)->End H') :
  eZ J (λv σ H Q=>∃own β d k,SQ X (C.u λc=>c=a) σ H β own/\Rp X (eV (C.u λc=>c=a) (Wn own) k) H d v/\γ d k β λβ'=>∀σ' aK,SQ X (C.u λc=>c=a) σ' H β' aK->(∀a,Wn aK a->Wn own a)->(∀j,j∉T->σ'[j]?=σ[j]?)->Q σ' H)
   (iM X (C.u λc=>c=a) pc τ) (λN σ H=>tQ X (C.u λc=>c=a) pe φ σ H λv H1=>∃xs,H1 a=some (.lst xs)/\xs.length<Ri/\N σ (upd H1 a (.lst (xs++[v]))))
   (λ_ H'=>End H') (di lk σ) (upd H1 a (.lst [])):=by
 obtain⟨I,i0,i1,i2⟩:=q;have h0:C.H0 a=none:=R1 λz=>s1.fT a z ha;have sm:az H1 (upd H1 a (.lst [])):=az.new ha;have M7:∀c,Wn (bh lk β own) c->c≠a:=λc z e=>by
  obtain⟨j,hj⟩:=a7 c z;exact(s1.dm j c hj).1 (by rw[e];exact ha)
 let S:Nat->St->Hp->Prop:=λi σ' H'=>∃βi gy vs o A,SQ X (C.u λc=>c=a) σ' H' βi gy/\Sn (H1,Wn (bh lk β own)) H' (Wn gy)/\(∀c,Wn gy c->Wn (bh lk β own) c)/\H' a=some (.lst vs)/\aH X.prog X.w H' o vs A/\A.Nodup/\(∀c∈A,H1 c=none/\c≠a) /\
  ((pc&&pe)=true->az H1 H')/\(∀j,j∉T->σ'[j]?=(di lk σ)[j]?)/\I i βi o
 have W':Addr->Prop:=λb=>av C (Wn own) k b\/H1 b=none;have Fs:=it (λb=>av C (Wn own) k b\/H1 b=none) λb z=>z;have kI:∀{H':Hp} {gy:Nat->List Addr},Sn (H1,Wn (bh lk β own)) H' (Wn gy)->((pc&&pe)=true->az H1 H')->Kp (λb=>av C (Wn own) k b\/H1 b=none) H1 H':=λn pu=>by
  cases k with
  |own=>exact n.k.mono λb z=>z.imp (λz=>.inl (a7 b z)) id
  |dU=>exact n.k.mono λb z=>z.imp (λz=>.inl (a7 b z)) id
  |old=>exact n.k.mono λb z=>z.imp (a7 b) id
  |bor =>
   cases hp with
   |false=>exact hk.elim
   |true=>exact(pu (Nj rfl)).kp.mono λb z=>.inr z
 refine⟨λi m σ' H'=>i<=ds.length/\m=ds.length-i/\S i σ' H',⟨_,Rr _,rfl,cg lk β,bh lk β own,[],[],[],s1.enter ha inj,⟨λb z=>.inl z,sm.kp,λb z e=>z (sm.free e)⟩,λ_ z=>z,ao,⟨rfl,rfl⟩,Sf,λc hc=>(nomatch hc),λ_=>sm,λ_ _=>rfl,i0⟩,?_⟩;rintro i m σ2 H2 ⟨hi,rfl,βi,gy,vs,o,A,sq,sn,le,LW,os,nd,nw,pu,st,hl⟩;obtain⟨cH,mR⟩:=Fs i H2 (kI sn pu)
 by_cases fI:i<ds.length
 ·right
  have hd:ds[i]?=some ds[i]:=Rf fI;obtain⟨go,yl⟩:=cH _ hd;refine⟨go,λσ' H'=>S (i+1) σ' H',λσ' H' h=>⟨_,by omega,fI,rfl,h⟩,λx H3 y=>?_⟩
  obtain⟨s3,r3⟩:=yl x H3 y;have Qe:∀{gy:Nat->List Addr},(∀c,Wn gy c->Wn (bh lk β own) c)->∀c,eV (C.u λc=>c=a) (Wn gy) k c->av C (Wn own) k c\/H1 c=none:=λle c z=>z.elim (λz=>.inl (i6 (λc z=>a7 c (le c z)) k c z)) λz=>.inr (by rw[z];exact ha)
  refine⟨gy,βi,_,_,sq.same s3,mD (aw.aP (Qe le) r3),γm _ _ _ _ _ (λβ4 q σ4 oj s4 w4 t4=>?_) (i1 i _ βi o hd hl)⟩;have KL:∀c,Wn oj c->Wn (bh lk β own) c:=λc z=>le c (w4 c z);refine⟨β4,oj,s4,τm _ _ _ (λt β5 q H5 kQ o5=>?_) q⟩;have Jd:∀c,Wn kQ c->Wn (bh lk β own) c:=λc z=>KL c (o5.le c z);have xM:∀c,c∈a::A->∀oc,H2 c=some oc->H5 c=some oc:=λc hc oc e=>by
   refine o5.sn.k.out c oc (s3 c oc e) λz=>?_;rcases z with z|z
   ·rcases Ra.mp hc with rfl|hc
    ·exact M7 _ (KL _ z) rfl
    ·obtain⟨j,hj⟩:=a7 c (KL c z);exact(s1.dm j c hj).1 (nw c hc).1
   ·exact absurd ((s3 c oc e).symm.trans z) (λz=>(nomatch z))
  have OV:∀b xs,H2 b=some (.tup xs)->H5 b=some (.tup xs):=λb xs e=>o5.sn.k.tup b xs (s3 b _ e);have Ku:aH X.prog X.w H5 o vs A:=os.keep OV λc hc oc e=>xM c (by simp[hc]) oc e
  have J1:Sn (H1,Wn (bh lk β own)) H5 (Wn kQ):=(gq (sn.same s3) w4).trans o5.sn;have MT:(pc&&pe)=true->az H1 H5:=λz=>((pu z).trans s3).trans (o5.pu (Fd z)).1;have FW:∀j,j∉T->σ4[j]?=(di lk σ)[j]?:=λj hj=>(t4 j hj).trans (st j hj);cases t with
  |false=>exact⟨β5,kQ,vs,o,A,o5.sq,J1,Jd,xM a (by simp) _ LW,Ku,nd,nw,MT,FW,q⟩
  |true =>
   refine⟨β5,kQ,o5.sq,φm _ _ _ (λxd kx β6 ⟨f,hz,q⟩ v H6 Ao o6 r6=>?_) q⟩;obtain⟨B',r1,r2,Ka⟩:=r6.fl f;have Io:H5 a=some (.lst vs):=xM a (by simp) _ LW
   have B6:∀c,c∈a::A->∀oc,H5 c=some oc->H6 c=some oc:=λc hc oc e=>by
    refine o6.sn.k.out c oc e λz=>?_;rcases z with z|z
    ·rcases Ra.mp hc with rfl|hc
     ·exact M7 _ (Jd _ z) rfl
     ·obtain⟨j,hj⟩:=a7 c (Jd c z);exact(s1.dm j c hj).1 (nw c hc).1
    ·exact absurd (e.symm.trans z) (λz=>(nomatch z))
   have oX:H6 a=some (.lst vs):=B6 a (by simp) _ Io
   have MW:aH X.prog X.w H6 o vs A:=Ku.keep o6.sn.k.tup λc hc oc e=>B6 c (by simp[hc]) oc e
   have OK:∀c∈A,c≠a:=λc hc=>(nw c hc).2;have Gx:∀c∈B',c≠a:=λc hc z=>by rw[z]at hc;exact absurd (Io.symm.trans (Ka a hc).1) (λz=>(nomatch z))
   have kt:∀b xs,H6 b=some (.tup xs)->upd H6 a (.lst (vs++[v])) b=some (.tup xs):=λb xs z=>by rw[ak (λz'=>by rw[z',oX]at z;cases z)];exact z
   refine⟨vs,oX,by rw[MW.length];exact hz,β6,Ao,vs++[v],o++[xd],A++B',o6.sq.Dl oX (λxs z=>by cases z) h0,?_,λc z=>Jd c (o6.le c z),ao,?_,?_,λc hc=>?_,λz=>?_,FW,q⟩
   ·have m:=J1.trans o6.sn;refine⟨m.w,m.k.trans ((jQ oX (λxs z=>by cases z)).mono λb z=>.inr (by rw[z];exact ha)),λb z e=>?_⟩
    by_cases hb:b=a
    ·rw[hb,ao]at e;cases e
    ·rw[ak hb]at e;exact m.d b z e
   ·exact(MW.keep kt λc hc oc e=>by rw[ak (OK c hc)];exact e).append (aH.one (r1.keep kt λc hc oc e=>by rw[ak (Gx c hc)];exact e))
   ·refine Sw.mpr ⟨nd,r2,λx hx y hy e=>?_⟩;subst e;have:=(Ka x hy).1;exact(Ku.kG x hx).1 this
   ·rcases Rx.mp hc with hc|hc
    ·exact nw c hc
    ·exact⟨J1.free (Ka c hc).1,Gx c hc⟩
   ·refine λb ob e=>?_;rw[ak (λz'=>by rw[z',ha]at e;cases e)]
    exact(o6.pu (Mk z)).1 b ob (MT z b ob e)
 ·left
  have e:i=ds.length:=by omega
  subst e;obtain⟨hh,q⟩:=i2 βi o hl;have lv:SQ X C σ H2 β own:=s1.leave sq sn le hh λj ok i' e1 e2=>st i' λz=>hT i' z j e2;refine⟨mR (Q4 _),fin o H2 q ⟨lv,⟨λb z=>.inl z,sn.k.mono λb z=>z.imp (a7 b) id,sn.d⟩,λz=>⟨pu z,rfl⟩,λ_ z=>z⟩ ⟨a::A,⟨a,vs,A,rfl,LW,rfl,os⟩,RM.mpr ⟨λz=>(nw a z).2 rfl,nd⟩,λc hc=>?_⟩⟩;have kU:H1 c=none:=by
   rcases Ra.mp hc with rfl|hc
   ·exact ha
   ·exact(nw c hc).1
  exact⟨kU,λEx=>by obtain⟨j,hj⟩:=Ex;exact(s1.dm j c hj).1 kU,R1 λz=>s1.fT c z kU⟩
theorem c0 {scope:TU}{N':List Str}(L:Links X scope N' lk)(hN:N'.Nodup):∀(i i' j:Nat),lk[i]?=some (some j)->lk[i']?=some (some j)->i=i':=λi i' j h1 h2=>by
 obtain⟨x,a1,a2,_⟩:=L.link i j h1;obtain⟨y,b1,b2,_⟩:=L.link i' j h2;rw[a2]at b2;cases b2;exact(List.getElem?_inj (Rw.mp a1).1 hN).mp (a1.trans b1.symm)
def sg (lk:List (Option Nat))(ι:cF)(γ:dj)(τ:aY)(φ:aN):aN:=λβ R=>ι β λds k β1=>hold k false/\lI γ τ φ ds k (cg lk β1) λo=>R (.lst o) .own β1
variable {scope:TU}{N':List Str}{tg cH elt:Expr}{ifs:List Expr}{ι:cF}{pi:Bool}{pos pos' nN:Pos}{y:Str}{i:Nat}
theorem Gh (L:Links X scope N' lk)(uT:N'.Nodup)(hT:T.all (λi=>match lk[i]? with|some (some _)=>false|_=>true)=true)(hc:X.calm=true)(hi:y_ X C pi tg cH ι)
  (rg:∀a cl c s H ex,vD (aC X scope N' cl c s H ex) (C.u λc=>c=a) tg T γ) (mT:∀a cl c s H ex,qd (aC X scope N' cl c s H ex) ifs (iM (aC X scope N' cl c s H ex) (C.u λc=>c=a) pc τ)) (τm:∀β R R',(∀d β,R d β->R' d β)->τ β R->τ β R')
  (nu:∀a cl c s H ex,PQ (aC X scope N' cl c s H ex) (C.u λc=>c=a) pe elt φ) (γm:∀d k β R R',(∀r,R r->R' r)->γ d k β R->γ d k β R') (φm:∀β R R',(∀d k β,R d k β->R' d k β)->φ β R->φ β R')
  (hs:∀x,Se cH X.env x=pure x:=by intro _;rfl):PQ X C (pi&&(pc&&pe)) (.ListComp elt [⟨tg,cH,ifs,0⟩] scope pos) (sg lk ι γ τ φ):=by
 have ES:∀i∈T,∀j,lk[i]?≠some (some j):=λi hi j e=>by
  have:=S7.mp hT i hi;rw[e]at this;cases this
 refine⟨λβ R R' k h=>hi.mono β _ _ (λds kd β1 q=>⟨q.1,q.2.mono λo z=>k _ _ _ z⟩) h,?_⟩;refine(jB (g:=⟨tg,cH,ifs,0⟩) (gs:=[]) (tg:=λa v σ H Q=>∃own β d k,SQ X (C.u λc=>c=a) σ H β own/\Rp X (eV (C.u λc=>c=a) (Wn own) k) H d v/\γ d k β λβ'=>∀σ' aK,SQ X (C.u λc=>c=a) σ' H β' aK->(∀a,Wn aK a->Wn own a)->(∀j,j∉T->σ'[j]?=σ[j]?)->Q σ' H)
  (tt:=λa=>iM X (C.u λc=>c=a) pc τ) (ta:=λa N σ H=>tQ X (C.u λc=>c=a) pe φ σ H λv H1=>∃xs,H1 a=some (.lst xs)/\xs.length<Ri/\N σ (upd H1 a (.lst (xs++[v]))))
  L hc jK rfl rfl (λ_ _=>CB) hi.pi (λa cl c s H ex=>⟨(rg a cl c s H ex).pg,mT a cl c s H ex,jC rfl (nu a cl c s H ex).pe⟩) hs).pre λσ H Q ⟨β,own,s,h⟩=>?_
 refine⟨β,own,s,hi.mono β _ _ (λds k β1 ⟨hk,q⟩ J H1 aB o1 it a ha=>?_) h⟩;exact l6 γm τm φm (c0 L uT) ES o1.sq ha (hp:=false) (λz=>by cases z) hk it q λo H' q o2 r=>q _ _ aB (o1.trans o2) (r.later o1.sn)
theorem Gf {K:D->aX->cQ->Prop}(L:Links X scope N' lk)(uT:N'.Nodup)(hT:T.all (λi=>match lk[i]? with|some (some _)=>false|_=>true)=true)(hc:X.calm=true)(hi:∀U,y_ X (C.u U) pi tg cH ι)
  (rg:∀U cl c s H ex,vD (aC X scope N' cl c s H ex) (C.u U) tg T γ) (mT:∀U cl c s H ex,qd (aC X scope N' cl c s H ex) ifs (iM (aC X scope N' cl c s H ex) (C.u U) pc τ)) (τm:∀β R R',(∀d β,R d β->R' d β)->τ β R->τ β R')
  (nu:∀U cl c s H ex,PQ (aC X scope N' cl c s H ex) (C.u U) pe elt φ) (γm:∀d k β R R',(∀r,R r->R' r)->γ d k β R->γ d k β R') (φm:∀β R R',(∀d k β,R d k β->R' d k β)->φ β R->φ β R') (o:Bool)
  (hN:X.N.Nodup) (hy:X.N[i]?=some y:=by rfl) (hx:Loc X.env.scope y:=by first|exact .inl rfl|exact .inr rfl) (hf:X.fn y=true\/X.env.scope.names.lookup y=some .local:=by first|exact .inl rfl|exact .inr rfl|assumption)
  (pZ:Tc (.ListComp elt [⟨tg,cH,ifs,0⟩] scope pos) (some (.Name y pos')) nN.line X.env=pure true:=by rfl)
  (EL:evalThenUse (.ListComp elt [⟨tg,cH,ifs,0⟩] scope pos) X.env (assign (.Name y pos') X.env)=(do let _ <- comprehension (.ListComp elt [⟨tg,cH,ifs,0⟩] scope pos) scope X.env (firstIterPos [⟨tg,cH,ifs,0⟩] pos) (newList []) false (eval cH X.env) (some (assign (.Name y pos') X.env));pure ()):=by first|rfl|exact arm_evalThenUse_ListComp ..)
  (hs:∀x,Se cH X.env x=pure x:=by intro _;rfl) :
  PB X C (.Assign [.Name y pos'] (.ListComp elt [⟨tg,cH,ifs,0⟩] scope pos) nN) (λE β=>sg lk ι γ τ φ β λd _ β'=>E.nx (β'.set i (some (match o with|true=>.own d|false=>.val true d)))):=by
 have ES:∀i∈T,∀j,lk[i]?≠some (some j):=λi hi j e=>by
  have:=S7.mp hT i hi;rw[e]at this;cases this
 refine⟨λE E' β l h=>(hi λ_=>False).mono β _ _ (λds kd β1 q=>⟨q.1,q.2.mono λo z=>l.nx _ z⟩) h,λpins s σ H D I0 ⟨Z,E,β,⟨own,sq,n⟩,h,ok⟩=>?_⟩;refine wM (g:=⟨tg,cH,ifs,0⟩) (gs:=[]) (tg:=λa v σ H Q=>∃own β d k,SQ X (C.u λc=>c=a) σ H β own/\Rp X (eV (C.u λc=>c=a) (Wn own) k) H d v/\γ d k β λβ'=>∀σ' aK,SQ X (C.u λc=>c=a) σ' H β' aK->(∀a,Wn aK a->Wn own a)->(∀j,j∉T->σ'[j]?=σ[j]?)->Q σ' H)
  (tt:=λa=>iM X (C.u λc=>c=a) pc τ) (ta:=λa N σ H=>tQ X (C.u λc=>c=a) pe φ σ H λv H1=>∃xs,H1 a=some (.lst xs)/\xs.length<Ri/\N σ (upd H1 a (.lst (xs++[v]))))
  L hc jK pZ EL rfl hN hy hx hf (λ_ _=>CB) (hi λa=>H a=none).pi (λa cl c s H ex=>⟨(rg _ cl c s H ex).pg,mT _ cl c s H ex,jC rfl (nu _ cl c s H ex).pe⟩) hs pins s σ H D I0 ?_
 refine⟨β,own,sq.rV (C:=C.z) (U:=λa=>H a=none) λa z=>z,(hi λ_=>False).mono β _ _ (λds k β1 ⟨hk,q⟩ J H1 aB o1 it a ha=>?_) h⟩;refine l6 (C:=C.u λa=>H a=none) γm τm φm (c0 L uT) ES o1.sq ha (hp:=false) (λz=>by cases z) hk it q λol H' q o2 r=>?_
 have r':=r.later o1.sn;have oo:=o1.trans o2;have m:=n.trans oo.sn;cases o with
 |false=>exact ok.nx _ _ _ ⟨_,(bA.OJ oo.sq).dX (aw.aP (λa z=>z.elim id λz=>z.elim) (KV.rep r')),mB m⟩ q
 |true =>
  obtain⟨A,h1,h2,h3⟩:=r';refine ok.nx _ _ _ ⟨_,oo.sq.wx h1 h2 λc hc=>⟨(h3 c hc).2.2,(h3 c hc).2.1,(h3 c hc).1⟩,?_⟩ q;exact⟨λb rj=>by
   obtain⟨j,hj⟩:=rj
   by_cases aG:i=j
   ·rw[<- aG,os_eq]at hj;exact .inr (n.free (h3 b hj).1)
   ·rw[a6 aG]at hj;exact m.w b ⟨j,hj⟩,m.k,m.d⟩
end
end L2.Q
namespace L2
open PySem PySem.Spec PySem.SeqAt PyProof.Rows
section
end
theorem cB {lo:Int}{n i:Nat}{d:D}(h:(mG lo n)[i]?=some d):i<n/\d=.int (lo+i):=by
 unfold mG at h;rw[Rn]at h;have hi:i<n:=by
  by_cases hi:i<n
  ·exact hi
  ·rw[Sz (by simpa using hi)]at h;cases h
 rw[SO hi]at h;cases h;exact⟨hi,rfl⟩
theorem cz {lo:Int}{n:Nat}:(mG lo n).length=n:=by unfold mG;simp
section
end
structure Df (K:PySem.W.Frag)(mg:Str->Option QZ)(x:Str)(st:Stmt)(ps:List Str)(f:Addr)(fd:RY):Prop where
 F:zb K x x st f fd
 b:Binds K fd ps []
 m:mg x=some (.ref f)
structure Bs (mg:Str->Option QZ):Prop where
 max:mg "max" = none
 min:mg "min" = none
 int:mg "int" = none
 range:mg "range" = none
 sorted:mg "sorted" = none
 set:mg "set" = none
 len:mg "len" = none
 list:mg "list" = none
theorem Fb:Si "set" = some (.type "set"):=by decide +kernel
theorem cb.zH {k:Nat}{A:R7}(r:cb k A):A.units+16<Um:=by have:=r.un;lia
def Mo (n:Int)(t:List Int):Prop:=∃a b,t=[a,b]/\0<=a/\a<b/\b<n
theorem Mo.ne {n:Int}{t:List Int}(h:Mo n t):t≠[]:=by
 obtain⟨a,b,rfl,_⟩:=h;intro z;cases z
def bo (n:Int)(ts:List (List Int)):Prop:=∀t∈ts,Mo n t
theorem bo.ne {n:Int}{ts:List (List Int)}(h:bo n ts):∀k∈ts,k≠[]:=λk hk=>(h k hk).ne
theorem bo.nil {n:Int}:bo n []:=λ_ z=>(nomatch z)
theorem bo.app {n:Int}{ts us:List (List Int)}(h:bo n ts)(h':bo n us):bo n (ts++us):=λt ht=>(Rx.mp ht).elim (h t) (h' t)
theorem bo.one {n:Int}{a b:Int}(h1:0<=a)(h2:a<b)(h3:b<n):bo n [[a,b]]:=λt ht=>by
 rw[Rk.mp ht];exact⟨a,b,rfl,h1,h2,h3⟩
theorem dQ (ts:List (List Int)):D.bR (ts.map kD)=true:=by
 have fi:∀k:List Int,D.bR (k.map D.int)=true:=λk=>by
  induction k with
  |nil=>rfl
  |cons i k ih=>show (D.flat (.int i)&&D.bR (k.map D.int))=true;rw[ih];rfl
 induction ts with
 |nil=>rfl
 |cons t ts ih =>
  show (D.flat (kD t)&&D.bR (ts.map kD))=true;rw[ih];show (D.bR (t.map D.int)&&true)=true;rw[fi];rfl
theorem qw {ts:List (List Int)}(h:∀k∈ts,k≠[])(l:ts.length<=1000000):(match [D.lst (ts.map kD)]with | [.lst ds]=>mZ [.lst ds]|_=>none)=some (.lst ((fL ts).map kD)):=by
 show (match dw (ts.map kD)with|some ks=>if ks.length<=1000000 then some (D.lst ((fL ks).map kD)) else none|none=>none)=_
 rw[hJ h];show (if ts.length<=1000000 then some (D.lst ((fL ts).map kD)) else none)=_
 rw[if_pos l]
theorem v7 {n:Int}{ts:List (List Int)}(h:bo n ts):bo n (fL ts):=λt ht=>h t ((dJ ts).mem_iff.mp ht)
theorem wu {ts:List (List Int)}(h:∀k∈ts,k≠[])(l:ts.length<1000):Cs [.lst (ts.map kD)]=some (.sT (k_ ts)):=by
 show (match dw (ts.map kD)with|some ks=>if ks.length<1000 then some (D.sT (k_ ks)) else none|none=>none)=_
 rw[hJ h];show (if ts.length<1000 then some (D.sT (k_ ts)) else none)=_
 rw[if_pos l]
theorem qv {ts:List (List Int)}(h:∀k∈ts,k≠[])(l:ts.length<1000):(match [D.sT (k_ ts)]with | [.sT ts]=>mZ [.sT ts]|_=>none)=some (.lst ((fL (k_ ts)).map kD)):=by
 show (if (k_ ts).length<=1000/\(∀k∈k_ ts,k≠[]) then some (D.lst ((fL (k_ ts)).map kD)) else none)=_
 rw[if_pos ⟨by have:=tu ts;lia,λk hk=>h k (((fu ts).2 k).mp hk)⟩]
def pD:FD:=λds R=>∃n:Int,ds=[.int n]/\0<=n/\n<=1000/\∀ts:List (List Int),ts.length<=n.toNat->bo n ts->R (.lst (ts.map kD))
theorem pD.mono:dS pD:=λds R R' k ⟨n,e,h1,h2,q⟩=>⟨n,e,h1,h2,λts a b=>k _ (q ts a b)⟩
def Drawn (n:Int)(ts:List (List Int)):Prop:=ts.length<=300/\bo n ts/\rQ ts/\ts.Nodup
def pk:FD:=λds R=>∃n:Int,ds=[.int n]/\2<=n/\n<=40/\∀ts,Drawn n ts->R (.lst (ts.map kD))
theorem pk.mono:dS pk:=λds R R' k ⟨n,e,h1,h2,q⟩=>⟨n,e,h1,h2,λts a=>k _ (q ts a)⟩
def yu:FD:=λds R=>ds=[]/\∀(n:Int) ts,0<=n->n<=40->Drawn n ts->R (.tup [.int n,.lst (ts.map kD)])
theorem yu.mono:dS yu:=λds R R' k ⟨e,q⟩=>⟨e,λn ts a b c=>k _ (q n ts a b c)⟩
theorem yB {n:Int}{ks:List (List Int)}(h:bo n ks):∃ts,cutD ((fL (k_ ks)).map kD) none (some 300)=ts.map kD/\Drawn n ts:=by
 refine⟨(fL (k_ ks)).take (min 300 (fL (k_ ks)).length),?_,?_,?_,?_,?_⟩
 ·unfold cutD;rw[HT.wz,show (some (300:Int))=some ((300:Nat):Int) from rfl,HT.zV,List.drop_zero,<- Vn]
  simp
 ·rw[RL];lia
 ·exact λt ht=>h t (((fu ks).2 t).mp ((dJ _).mem_iff.mp (List.mem_of_mem_take ht)))
 ·exact List.Pairwise.take (jm _)
 ·exact List.Nodup.sublist (List.take_sublist _ _) ((dJ _).nodup_iff.mpr (fu ks).1)
theorem iT {fs:List (List Int)}{t:List Int}:(fs++[t]).map kD=fs.map kD++[kD t]:=by simp
theorem we {fs:List Int}{t:Int}:(fs++[t]).map D.int=fs.map D.int++[D.int t]:=by simp
theorem fK {a b:D}:[a,b].length<=Ri:=by show 2<=Ri;decide
theorem Oe {a b c:D}:[a,b,c].length<=Ri:=by show 3<=Ri;decide
theorem Fo {a:D}:[a].length<=Ri:=by show 1<=Ri;decide
theorem zi {b:Bool}{p q:Prop}(hb:b=true)(h:p):(if b=true then p else q):=by rw[if_pos hb];exact h
theorem jW {b:Bool}{p q:Prop}(hb:b=false)(h:q):(if b=true then p else q):=by rw[hb,if_neg (by simp)];exact h
theorem oS {c:Prop}[Decidable c]{p q:Prop}(h1:c->p)(h2:¬ c->q):(if decide c=true then p else q):=by
 by_cases h:c
 ·exact zi (by simp[h]) (h1 h)
 ·exact jW (by simp[h]) (h2 h)
theorem O0 {c:Prop}[Decidable c]{p q:Prop}(h1:¬ c->p)(h2:c->q):(if (!decide c)=true then p else q):=by
 by_cases h:c
 ·exact jW (by simp[h]) (h2 h)
 ·exact zi (by simp[h]) (h1 h)
theorem gx {α:Type}(f:α->D):∀l:List α,D.pY (l.map f)=l.map λa=>(f a).pd
 |[]=>rfl
 |a::l=>by
  show (f a).pd::D.pY (l.map f)=_;rw[gx f l];rfl
theorem ie {n:Nat}:∀{xs:List PyData},(∀x∈xs,x.canLay0=true/\x.depth<=n)->T3 xs=true/\Uk xs<=n
 |[],_=>⟨by simp[T3],by simp[Uk]⟩
 |x::xs,h=>by
  obtain⟨h1,h2⟩:=ie (n:=n) (xs:=xs) λy hy=>h y (by simp[hy])
  obtain⟨g1,g2⟩:=h x (by simp)
  refine⟨by simp[T3,h1,g1],?_⟩
  simp only[Uk];lia
theorem ly {n:Nat}{ds:List D}(h:∀d∈ds,d.pd.canLay0=true/\d.pd.depth<=n):(D.tup ds).pd.canLay0=true/\(D.tup ds).pd.depth<=n+1:=by
 have e:D.pY ds=ds.map λd=>d.pd:=by
  have:=gx (λd:D=>d) ds;simpa using this
 obtain⟨h1,h2⟩:=ie (n:=n) (xs:=D.pY ds) λx hx=>by
  rw[e]at hx;obtain⟨d,hd,rfl⟩:=R5.mp hx;exact h d hd
 refine⟨by simpa[D.pd,SK] using h1,?_⟩
 have:(D.tup ds).pd.depth=Uk (D.pY ds)+1:=by simp[D.pd,PyData.depth]
 lia
theorem lz {n:Nat}{ds:List D}(h:∀d∈ds,d.pd.canLay0=true/\d.pd.depth<=n):(D.lst ds).pd.canLay0=true/\(D.lst ds).pd.depth<=n+1:=by
 have e:D.pY ds=ds.map λd=>d.pd:=by
  have:=gx (λd:D=>d) ds;simpa using this
 obtain⟨h1,h2⟩:=ie (n:=n) (xs:=D.pY ds) λx hx=>by
  rw[e]at hx;obtain⟨d,hd,rfl⟩:=R5.mp hx;exact h d hd
 refine⟨by simpa[D.pd,SK] using h1,?_⟩
 have:(D.lst ds).pd.depth=Uk (D.pY ds)+1:=by simp[D.pd,PyData.depth]
 lia
theorem bP (i:Int):(D.int i).pd.canLay0=true/\(D.int i).pd.depth<=1:=⟨by simp[D.pd,SK],by simp[D.pd,PyData.depth]⟩
theorem wj (t:List Int):(kD t).pd.canLay0=true/\(kD t).pd.depth<=2:=ly λd hd=>by
 obtain⟨i,_,rfl⟩:=R5.mp hd;exact bP i
theorem qA (ts:List (List Int)):(D.lst (ts.map kD)).pd.canLay0=true/\(D.lst (ts.map kD)).pd.depth<=3:=lz λd hd=>by
 obtain⟨i,_,rfl⟩:=R5.mp hd;exact wj i
theorem jn (ts:List Int):(D.lst (ts.map D.int)).pd.canLay0=true/\(D.lst (ts.map D.int)).pd.depth<=2:=lz λd hd=>by
 obtain⟨i,_,rfl⟩:=R5.mp hd;exact bP i
theorem e9 {d:D}{n:Nat}(h:d.pd.canLay0=true/\d.pd.depth<=n)(hn:n<=64:=by decide):d.wq=true:=by
 show (d.pd.canLay0&&decide (d.pd.depth<=64))=true;rw[h.1,decide_eq_true (by lia)]
 rfl
theorem kc {α:Type}[DecidableEq α]{f:α->PyData}(hf:∀a b,Tr (f a) (f b)=decide (a=b)):∀xs ys:List α,UD (xs.map f) (ys.map f)=decide (xs=ys)
 |[],[]=>by simp[UD]
 |[],_::_=>by simp[UD]
 |_::_,[]=>by simp[UD]
 |x::xs,y::ys=>by
  simp only[RN,UD];rw[hf,kc hf xs ys]
  by_cases h1:x=y
  ·by_cases h2:xs=ys <;> simp[h1,h2]
  ·simp[h1]
theorem mX (i j:Int):Tr (D.int i).pd (D.int j).pd=decide (i=j):=by
 simp only[D.pd,Tr]
 by_cases h:i=j <;> simp[h]
theorem yw (ts us:List Int):Tr (D.lst (ts.map D.int)).pd (D.lst (us.map D.int)).pd=decide (ts=us):=by
 show Tr (.list (D.pY (ts.map D.int))) (.list (D.pY (us.map D.int)))=_;rw[gx,gx];simp only[Tr];exact kc mX ts us
theorem E4 {a b:D}{c:Bool}(h1:a.wq=true)(h2:b.wq=true)(e:Tr a.pd b.pd=c):Jw a b=some (.bl c):=by
 unfold Jw;rw[if_pos ⟨h1,h2⟩,e]
theorem rK {a b:D}{c:Bool}(h1:a.wq=true)(h2:b.wq=true)(e:Tr a.pd b.pd=c):Ct a b=some (.bl (!c)):=by
 unfold Ct;rw[if_pos ⟨h1,h2⟩,e]
theorem b5 (i j:Int):Jw (.int i) (.int j)=some (.bl (decide (i=j))):=E4 (e9 (bP i)) (e9 (bP j)) (mX i j)
theorem m6 (i j:Int):Ct (.int i) (.int j)=some (.bl (!decide (i=j))):=rK (e9 (bP i)) (e9 (bP j)) (mX i j)
theorem yE (ts us:List Int):Ct (.lst (ts.map D.int)) (.lst (us.map D.int))=some (.bl (!decide (ts=us))):=rK (e9 (jn ts)) (e9 (jn us)) (yw ts us)
theorem Mi {α:Type}{ds:List α}{i:Nat}{d:α}(h:ds[i]?=some d):ng ds (i:Int)=some d:=by
 have hl:i<ds.length:=(Rw.mp h).1;unfold ng zg;rw[if_pos (by lia),if_pos (by lia),VD]
 exact h
theorem yV {α:Type}{ds:List α}{i:Int}(h0:0<=i)(h1:i<ds.length):∃d∈ds,ng ds i=some d/\ds[i.toNat]?=some d:=by
 have hl:i.toNat<ds.length:=by lia
 refine⟨ds[i.toNat],Tz hl,?_,Rf hl⟩;have:=Mi (ds:=ds) (i:=i.toNat) (Rf hl)
 rwa [show ((i.toNat:Nat):Int)=i by lia]at this
theorem Bv {ds:List D}{i:Nat}{d:D}(h:ds[i]?=some d):vz (.lst ds) (.int (i:Int))=some d:=Mi h
theorem pick {ds:List D}{r:Int}{p:D->Prop}(h0:0<=r)(h1:r<ds.length)(h:∀d∈ds,p d):∃d,vz (.lst ds) (.int r)=some d/\p d:=by
 obtain⟨d,hd,e,_⟩:=yV h0 h1;exact⟨d,e,h d hd⟩
theorem pI {ks:List Int}{i:Int}(h0:0<=i)(h1:i<ks.length):∃r∈ks,vz (.lst (ks.map D.int)) (.int i)=some (.int r):=by
 obtain⟨r,hr,e,e'⟩:=yV h0 h1;refine⟨r,hr,?_⟩;show ng (ks.map D.int) i=_;have:=Mi (ds:=ks.map D.int) (i:=i.toNat) (d:=.int r) (by rw[Rn,e'];rfl)
 rwa [show ((i.toNat:Nat):Int)=i by lia]at this
end L2
namespace HT
open PySem PySem.Spec PyProof.Rows
theorem jY {α β:Type}{f g:α->Option β}:∀{l:List α},(∀x∈l,f x=g x)->l.filterMap f=l.filterMap g
 |[],_=>rfl
 |x::l,h=>by
  rw[RU,RU,h x (by simp),jY λy hy=>h y (by simp[hy])]
theorem wC {α:Type}(xs:List α):((Rz xs.length).filterMap λk=>xs[xs.length-1-k]?)=xs.reverse:=by
 have h:=pick_run xs.reverse.toArray 0 xs.length;rw[List.filterMap_map]at h;have e:((Rz xs.length).filterMap λk=>xs[xs.length-1-k]?)=(Rz xs.length).filterMap ((λx=>xs.reverse.toArray[x]?) ∘ λx=>0+x):=by
  refine jY λk hk=>?_;have Fv:=So.mp hk;show _=xs.reverse.toArray[0+k]?;rw[U5,S_,List.getElem?_reverse Fv]
 rw[e,h];simp only[List.drop_zero];exact SS (by simp)
theorem kL (items:Array QZ):slicePick items none none (some (-1))=items.toList.reverse.toArray:=by
 have e:(sliceRange (S8 none none (some (-1)) items.size).1 (S8 none none (some (-1)) items.size).2.1 (S8 none none (some (-1)) items.size).2.2)=(Rz items.size).map λk=>items.size-1-k:=by
  show sliceRange ((items.size:Int)-1) (-1) (-1)=_;unfold sliceRange;have c:(if (-1:Int)>0 then (if (items.size:Int)-1 < -1 then ((-1)-((items.size:Int)-1)+-1-1) / -1 else 0) else (if (items.size:Int)-1 > -1 then ((items.size:Int)-1-(-1)-(-1)-1) / (-(-1)) else 0)).toNat=items.size:=by
   rw[if_neg (by lia)]
   split
   ·rw[show (-(-1):Int)=1 by rfl,Int.ediv_one];lia
   ·lia
  simp only[c];refine SG λk hk=>?_;have:=So.mp hk;lia
 unfold slicePick;rw[e,List.filterMap_map]
 congr 1
 have:=wC items.toList;rw[Q9]at this;rw[<- this];refine jY λk hk=>?_;show items[items.size-1-k]?=_;rw[Rm]
section
end
end HT
namespace L2
open PySem PySem.Spec PySem.SeqAt PyProof.Rows
theorem ag.rev {P:Q6}{w:Rl}{W:Addr->Prop}{H:Hp}:∀{ds:List D} {vs:List V},ag P w W H ds vs->ag P w W H ds.reverse vs.reverse
 |[],_,h=>by rw[show _=[] from h];rfl
 |d::ds,_,⟨v,r,e,h1,h2⟩=>by
  subst e;rw[Uz,Uz];exact(ag.rev h2).append (.one h1)
theorem Vals.rev:∀{xs:List V} {us:List QZ},Vals xs us->Vals xs.reverse us.reverse
 |_,_,.nil=>.nil
 |_,_,.cons r t=>by
  rw[Uz,Uz];exact(Vals.rev t).append (.cons r .nil)
section
end
end L2
namespace L2.Q
open PySem PySem.Spec PySem.SeqAt PyProof.Rows
section
end
section
end
section
variable {P:Q6}{w:Rl}{C:Cfg}{σ:St}{H:Hp}{β:aX}{own:Nat->List Addr}{i:Nat}{ok:List Int->Prop}{ns:List Int}
theorem lG:∀{ns:List Int} {vs:List V} {A:List Addr},aH P w H (ns.map D.int) vs A->vs=ns.map V.int/\A=[]
 |[],_,_,h=>h
 |n::ns,_,_,⟨v,r,A1,A2,e,eA,h1,h2⟩=>by
  obtain⟨rfl,rfl⟩:=lG h2;obtain⟨rfl,rfl⟩:=h1;exact⟨e,by rw[eA];rfl⟩
theorem bA.toHand (s:bA P w C σ H β own)(e:β[i]?=some (some (.own (.lst (ns.map D.int)))))(ho:ok ns)(io:∀b,¬ C.IO b):bA P w C σ H (β.set i (some (.hand ok))) own:=by
 obtain⟨v,h1,⟨a,vs,A',rfl,h2,h3,h4⟩,h5⟩:=s.ow i _ e;obtain⟨rfl,rfl⟩:=lG h4;refine⟨by simp[s.len],λj y d q=>?_,λj d q=>?_,λj vq q=>?_,s.dm,s.iZ,s.kR,s.kp,s.fT,λj y d q=>by
  by_cases aG:i=j
  ·subst aG;obtain⟨e',_⟩:=aZ q;cases e'
  ·rw[aU aG]at q;exact s.shl j y d q⟩
 ·by_cases aG:i=j
  ·subst aG;obtain⟨e',_⟩:=aZ q;cases e'
  ·rw[aU aG]at q;exact s.val j y d q
 ·by_cases aG:i=j
  ·subst aG;obtain⟨e',_⟩:=aZ q;cases e'
  ·rw[aU aG]at q;exact s.ow j d q
 ·by_cases aG:i=j
  ·subst aG;obtain⟨e',_⟩:=aZ q;cases e';exact⟨a,ns,h1,h2,ho,h3,.inl io⟩
  ·rw[aU aG]at q;exact s.kB j vq q
end
section
variable {X:Cx}{C:Cfg}{e:Expr}{φ:aN}{p:Bool}{i:Nat}{x:Str}{pos pos' px ap cp:Pos}{ok:List Int->Prop}
theorem Ak (ok:List Int->Prop)(LN:∀b,¬ C.IO b)(he:∀U,PQ X (C.u U) p e φ)(hN:X.N.Nodup)(hi:X.N[i]?=some x:=by rfl)(hx:Loc X.env.scope x:=by first|exact .inl rfl|exact .inr rfl)
  (hs:Tc e (some (.Name x pos')) pos.line X.env=pure false:=by rfl) (hf:X.fn x=true\/X.env.scope.names.lookup x=some .local:=by first|exact .inl rfl|exact .inr rfl|assumption) :
  PB X C (.Assign [.Name x pos'] e pos) (λE β=>φ β λd k β'=>B9 k d/\i<β'.length/\∃ns:List Int,d=.lst (ns.map D.int)/\ok ns/\E.nx (β'.set i (some (.hand ok)))):=by
 have B:=d9 (C:=C) (i:=i) (pos:=pos) (pos':=pos') he hN hi hx hs hf;refine⟨λE E' β l q=>(he λ_=>False).mono _ _ _ (λd k β' Hk=>by obtain⟨f,h,ns,e,o,q⟩:=Hk;exact⟨f,h,ns,e,o,l.nx _ q⟩) q,B.ps.pre λDe σ H ⟨Z,E,β,sb,q,vq⟩=>?_⟩
 refine⟨Z,{E with nx:=λβ'=>∃(ns:List Int) (β2:aX),i<β2.length/\β'=β2.set i (some (.own (.lst (ns.map D.int))))/\ok ns/\E.nx (β2.set i (some (.hand ok)))},β,sb,(he λ_=>False).mono _ _ _ (λd k β' Ew=>by obtain⟨f,h,ns,e,o,q⟩:=Ew;exact⟨f,ns,β',h,by rw[e],o,q⟩) q,⟨λσ' H' β' qD ⟨ns,β2,hl,e,o,q⟩=>?_,vq.rt,vq.bk,vq.ct⟩⟩
 subst e;obtain⟨own,s,n⟩:=qD;have:=s.toHand (i:=i) (ok:=ok) (get_set hl) o LN;rw[List.set_set]at this;exact vq.nx _ _ _ ⟨own,this,n⟩ q
theorem bA.putL {P:Q6}{w:Rl}{σ:St}{H:Hp}{β:aX}{own:Nat->List Addr}{U U2:Addr->Prop}{ds ds':List D}{vs':List V}{a:Addr}{vs:List V}{A A':List Addr}(s:bA P w (C.u U) σ H β own)(e:β[i]?=some (some (.own (.lst ds))))(h1:σ[i]?=some (some (.ref a)))(h2:H a=some (.lst vs))(h3:own i=a::A)
  (r:aH P w H ds' vs' A') (nd:A'.Nodup) (hA:∀c∈A',c∈A\/(C.H0 c=none/\¬ Wn own c/\U c)) (hU:∀a,U2 a->U a) (LZ:∀c∈A',c∉A->¬ U2 c) :
  bA P w (C.u U2) σ (upd H a (.lst vs')) (β.set i (some (.own (.lst ds')))) (aJ own i (a::A'))/\∀c∈a::A',c∈own i\/(C.H0 c=none/\¬ Wn own c/\U c):=by
 have ha:a∈own i:=by rw[h3];simp
 have nA:a∉A:=by have:=s.kR i;rw[h3]at this;exact(RM.mp this).1
 have na:∀c∈A',c≠a:=λc hc z=>by
  subst z;rcases hA c hc with z|z
  ·exact nA z
  ·exact z.2.1 ⟨i,ha⟩
 have kt:∀b xs,H b=some (.tup xs)->upd H a (.lst vs') b=some (.tup xs):=λb xs z=>by rw[ak (λz'=>by rw[z',h2]at z;cases z)];exact z
 have NN:∀c∈a::A',c∈own i\/(C.H0 c=none/\¬ Wn own c/\U c):=λc hc=>by
  rcases Ra.mp hc with rfl|hc
  ·exact .inl ha
  ·exact(hA c hc).imp (λz=>by rw[h3];simp[z]) id
 refine⟨s.Ge e h1 ha ⟨a,vs',A',rfl,ao,rfl,r.keep kt λc hc oc ec=>by rw[ak (na c hc)];exact ec⟩ (RM.mpr ⟨λz=>na a z rfl,nd⟩) NN hU (λc hc z=>?_),NN⟩
 rcases Ra.mp hc with rfl|hc
 ·exact(s.dm i c ha).2.2.2 (hU c z)
 ·by_cases q:c∈A
  ·exact(s.dm i c (by rw[h3];simp[q])).2.2.2 (hU c z)
  ·exact LZ c hc q z
theorem xg {own:Nat->List Addr}{i:Nat}{A':List Addr}(h:∀c∈A',c∈own i):∀c,Wn (aJ own i A') c->Wn own c:=λc Hj=>by
 obtain⟨j,hj⟩:=Hj
 by_cases aG:i=j
 ·rw[<- aG,os_eq]at hj;exact⟨i,h c hj⟩
 ·rw[a6 aG]at hj;exact⟨j,hj⟩
theorem DB {P:Q6}{w:Rl}{H:Hp}{own:Nat->List Addr}{Z:Hp×(Addr->Prop)}{d:D}{v:V}{A:List Addr}(r:Own P w H d v A)(h:∀c∈A,¬ Wn own c/\C.H0 c=none):KV P w C Z own H (sk .dU d) d v:=by
 have q:aw P w (av C (Wn own) .dU) H d v:=r.rep λc hc z=>z.elim (h c hc).1 λz=>z (h c hc).2;cases d with
 |int i=>exact KV.flat rfl q
 |bl i=>exact KV.flat rfl q
 |bB=>exact KV.flat rfl q
 |str i=>exact KV.flat rfl q
 |_=>exact q
theorem aH.concat {P:Q6}{w:Rl}{H:Hp}{ds:List D}{d:D}{vs:List V}{A:List Addr}(h:aH P w H (ds++[d]) vs A):∃us v A1 A2,vs=us++[v]/\A=A1++A2/\aH P w H ds us A1/\Own P w H d v A2:=by
 obtain⟨v,A1,A2,A3,g1,g2,g3,g4,g5⟩:=h.split (i:=ds.length) (d:=d) (by simp)
 rw[List.take_left]at g3;have e3:aH P w H [] (vs.drop (ds.length+1)) A3:=by simpa using g5
 have hl:=h.length;rw[RT,T7]at hl;refine⟨vs.take ds.length,v,A1,A2,?_,by rw[g2,e3.2,Sr],g3,g4⟩
 have fI:ds.length<vs.length:=by lia
 have e1:vs=vs.take ds.length++vs.drop ds.length:=(S0 _ _).symm;rw[R_ fI,e3.1]at e1;have:vs[ds.length]=v:=by
  have:=Rf fI;rw[g1]at this;exact(RC this).symm
 rw[this]at e1;exact e1
theorem wU (hN:X.N[i]?=some x:=by rfl)(hv:vB X.env.scope x:=by first|exact .inl rfl|exact .inr (.inl rfl)|exact .inr (.inr rfl))(hd:(x==("__debug__" : Str))=false:=by decide)(gM:(x==("__classdict__" : Str))=false:=by decide)
  (cE:S5 (.Name x px) "pop" X.env (eval (.Name x px) X.env)=eval (.Name x px) X.env:=by rfl) (cD:(ap.endLine==cp.line)=true:=by rfl) :
  PQ X C false (.Call (.Attribute (.Name x px) "pop" ap) [] [] cp) (λβ R=>∃ds d,β[i]?=some (some (.own (.lst (ds++[d]))))/\R d (sk .dU d) (β.set i (some (.own (.lst ds))))) :=
 ⟨λβ R R' k A6=>by obtain⟨ds,d,h1,q⟩:=A6;exact⟨ds,d,h1,k _ _ _ q⟩,(DF (apos:=ap) (cpos:=cp) PySem.F.plainAttrs_list PySem.F.slot_list_pop PySem.F.type_list_pop DY (d8 (pos:=px) hN hv hd gM) cE cD).pre λσ H Q rj=>by
  obtain⟨β,own,s,ds,d,hb,q⟩:=rj;obtain⟨a,vs,A,h1,h2,h3,h4⟩:=s.oI hb;obtain⟨us,v,A1,A2,rfl,rfl,g3,g4⟩:=h4.concat;have nd:=s.kR i;rw[h3]at nd;obtain⟨AK,DV,Gy⟩:=Sw.mp (RM.mp nd).2;obtain⟨s2,hA⟩:=s.putL (C:=C) (U:=C.U) (U2:=C.U) (ds':=ds) (vs':=us) (A':=A1) hb h1 h2 h3 g3 AK (λc hc=>.inl (by simp[hc])) (λ_ z=>z) (λc hc n=>absurd (by simp[hc]) n)
  have h0:∀c∈own i,C.H0 c=none:=by obtain⟨_,_,_,h⟩:=s.ow i _ hb;exact h
  have kt:∀b xs,H b=some (.tup xs)->upd H a (.lst us) b=some (.tup xs):=λb xs z=>by rw[ak (λz'=>by rw[z',h2]at z;cases z)];exact z
  have na:∀c∈A2,c≠a:=λc hc z=>(RM.mp nd).1 (by rw[<- z];simp[hc])
  have le:∀c,Wn (aJ own i (a::A1)) c->Wn own c:=xg λc hc=>by rw[h3];rcases Ra.mp hc with rfl|hc <;> simp[*]
  refine⟨.ref a,h1,.inl ⟨rfl,_,dg.of h2⟩,a,_,v,rfl,rfl,h2,by simp,?_⟩
  rw[List.dropLast_concat];refine q v _ _ ⟨s2,?_,λz=>(nomatch z),le⟩ (DB (C:=C) (g4.keep kt λc hc oc ec=>by rw[ak (na c hc)];exact ec) λc hc=>⟨λ⟨j,hj⟩=>?_,h0 c (by rw[h3];simp[hc])⟩)
  ·have u:=Sn.upd (Z:=(H,Wn own)) (o':=.lst us) (Sn.refl (H:=H) (W:=Wn own)) h2 (λxs z=>by cases z) ⟨i,by rw[h3];simp⟩
   exact⟨λb z=>.inl (le b z),u.k,u.d⟩
  ·by_cases aG:i=j
   ·rw[<- aG,os_eq]at hj;rcases Ra.mp hj with rfl|hj
    ·exact na _ hc rfl
    ·exact Gy _ hj _ hc rfl
   ·rw[a6 aG]at hj;exact aG (s.iZ i j c (by rw[h3];simp[hc]) hj)⟩
end
section
variable {X:Cx}{C:Cfg}{e k:Expr}{φ:aN}{p:Bool}{i:Nat}{x:Str}{pos px ap cp:Pos}
theorem zM {Z:Hp×(Addr->Prop)}{H:Hp}{own:Nat->List Addr}{a:Addr}{o oa:HO}{A':List Addr}{U:Addr->Prop}(n:Sn Z H (Wn own))(m:∀a,U a->Z.1 a=none)(h2:H a=some oa)(ht:∀xs,oa≠.tup xs)(ha:Wn own a)(hA:∀c∈A',c∈own i\/(C.H0 c=none/\¬ Wn own c/\U c)):Sn Z (upd H a o) (Wn (aJ own i A')) :=
 qz n m ha ⟨oa,h2,ht⟩ hA
theorem lF (he:PQ X C.z p e φ)(hN:X.N[i]?=some x:=by rfl)(hv:vB X.env.scope x:=by first|exact .inl rfl|exact .inr (.inl rfl)|exact .inr (.inr rfl))(hd:(x==("__debug__" : Str))=false:=by decide)(gM:(x==("__classdict__" : Str))=false:=by decide)
  (cE:S5 (.Name x px) "extend" X.env (eval (.Name x px) X.env)=eval (.Name x px) X.env:=by rfl)
  (h_:((SF cp (Rc [e] X.env)).all (λx=>!x.1)&&(Va cp (Ue [] X.env)).all (λx=>x.1.isSome)&&decide ([e].length+([]:List TN).length+(if ([]:List TN).isEmpty then 0 else 1)<30))=true:=by rfl)
  (cD:(ap.endLine==cp.line)=true:=by rfl) (hs:Rc [e] X.env=(false,eval e X.env)::Rc [] X.env:=by rfl) (cm:(SF cp (Rc [] X.env)).any (·.1)=false:=by rfl)
  (pZ:Tc (.Call (.Attribute (.Name x px) "extend" ap) [e] [] cp) none pos.line X.env=pure false:=by rfl) :
  PB X C (.Expr (.Call (.Attribute (.Name x px) "extend" ap) [e] [] cp) pos) (λE β=>(∃ds,β[i]?=some (some (.own (.lst ds))))/\φ β λd _ β'=>∃ds es,d=.lst es/\D.bR es=true/\β'[i]?=some (some (.own (.lst ds)))/\ds.length+es.length<=Ri/\E.nx (β'.set i (some (.own (.lst (ds++es)))))):=by
 refine⟨λE E' β l Ew=>by obtain⟨h1,q⟩:=Ew;exact⟨h1,he.mono _ _ _ (λd k β' K8=>by obtain⟨ds,es,h1,h2,h3,h4,q⟩:=K8;exact⟨ds,es,h1,h2,h3,h4,l.nx _ q⟩) q⟩,
  (iV (pos:=pos) (sO (apos:=ap) (cpos:=cp) PySem.F.plainAttrs_list PySem.F.slot_list_extend PySem.F.type_list_extend uz (d8 (pos:=px) hN hv hd gM) (bf he.pe cK hs) cE h_ cD hs cm) pZ).pre λD σ H ⟨Z,E,β,⟨own,s0,n⟩,⟨⟨P7,Jr⟩,q⟩,ok⟩=>?_⟩
 obtain⟨a0,QA,A0,z1,z2,z3,z4⟩:=s0.oI Jr;refine⟨.ref a0,z1,.inl ⟨rfl,_,dg.of z2⟩,tQ.of he s0 q λd kk β' v H1 aB ⟨ds,es,e1,f,hb,hl,q⟩ o r=>?_⟩;subst e1;obtain⟨b,us,rfl,PC,_,rb⟩:=r.rep;obtain⟨a,vs,A,h1,h2,h3,h4⟩:=o.sq.oI hb;rw[z1]at h1;cases h1;have nd:=o.sq.kR i;rw[h3]at nd;obtain⟨s2,hA⟩:=o.sq.putL (C:=C) (U:=λ_=>False) (U2:=λ_=>False) (ds':=ds++es) (vs':=vs++us) (A':=A) hb z1 h2 h3 (by simpa using h4.append (fC f rb)) (RM.mp nd).2 (λc hc=>.inl hc) (λ_ z=>z) (λc hc n=>absurd hc n)
 exact⟨a0,b,vs,us,rfl,rfl,h2,PC,by rw[h4.length,rb.length];exact hl,ok.nx _ _ _ ⟨_,s2,zM (n.trans o.sn) (λ_ z=>z.elim) h2 (λxs z=>by cases z) ⟨i,by rw[h3];simp⟩ hA⟩ q⟩
end
end L2.Q
namespace L2
open PySem PySem.Spec PySem.SeqAt PyProof.Rows
section
end
namespace Q
section
variable {P:Q6}{w:Rl}{C:Cfg}{σ:St}{H:Hp}{β:aX}{own:Nat->List Addr}{lk:List (Option Nat)}{a:Addr}
theorem bA.EZ {o:HO}(ho:∀xs,o≠.tup xs)(s:bA P w C σ H β own)(ha:H a=none)(inj:∀(i i' j:Nat),lk[i]?=some (some j)->lk[i']?=some (some j)->i=i'):
  bA P w (C.u λc=>c=a) (di lk σ) (upd H a o) (cg lk β) (bh lk β own):=by
 have h0:C.H0 a=none:=R1 λz=>s.fT a z ha;have q:=(s.enter ha inj).Dl (o:=o) ao (λxs z=>by cases z) h0
 have e:upd (upd H a (.lst [])) a o=upd H a o:=by
  funext b
  by_cases hb:b=a
  ·rw[hb,ao,ao]
  ·rw[ak hb,ak hb,ak hb]
 rwa [e]at q
end
section
end
end Q
end L2
namespace L2.Q
open PySem PySem.Spec PySem.SeqAt PyProof.Rows
abbrev GO (l:Bool)(ds:List D):D:=match l with|true=>.lst ds|false=>.tup ds
section
variable {P:Q6}{w:Rl}{H:Hp}{A:List Addr}{v:V}{ds:List D}{l:Bool}
theorem oi {m:Nat}{es:List D}(r:Own P w H (GO l ds) v A)(nd:A.Nodup)(hm:ds[m]?=some (.lst es)):∃a vs c us B,v=.ref a/\H a=some (match l with|true=>.lst vs|false=>.tup vs)/\vs.length=ds.length/\vs[m]?=some (.ref c)/\H c=some (.lst us)/\c∈A/\aH P w H es us B/\(∀x∈B,x∈A/\x≠c)/\B.Nodup /\
  ∀dz rW B',aH P w H dz rW B'->B'.Nodup->(∀x∈B',x∈B\/x∉A)->(∀x∈B',x≠c)->∃A',Own P w (upd H c (.lst rW)) (GO l (ds.set m (.lst dz))) v A'/\A'.Nodup/\∀x∈A',x∈A\/x∈B':=by
 have core:∀{vs:List V} {A:List Addr},A.Nodup->aH P w H ds vs A->∃c us B,vs[m]?=some (.ref c)/\H c=some (.lst us)/\c∈A/\aH P w H es us B/\(∀x∈B,x∈A/\x≠c)/\B.Nodup /\
   ∀dz rW B',aH P w H dz rW B'->B'.Nodup->(∀x∈B',x∈B\/x∉A)->(∀x∈B',x≠c)->∃A',aH P w (upd H c (.lst rW)) (ds.set m (.lst dz)) vs A'/\A'.Nodup/\(∀x∈A',x∈A\/x∈B'):=λ{vs A} nd os=>by
  have hl:=os.length;have Pj:m<ds.length:=(Rw.mp hm).1;obtain⟨u,A1,A2,A3,g1,rfl,g3,⟨c,us,B,rfl,h2,rfl,h4⟩,g5⟩:=os.split hm;obtain⟨AK,DV,Gy⟩:=Sw.mp nd;obtain⟨M6,OL,M5⟩:=Sw.mp DV;have OO:=(RM.mp M6).1;refine⟨c,us,B,g1,h2,by simp,h4,λx hx=>⟨by simp[hx],λz=>OO (by rw[<- z];exact hx)⟩,(RM.mp M6).2,λdz rW B' o' n' p_ oW=>?_⟩
  have kt:∀b xs,H b=some (.tup xs)->upd H c (.lst rW) b=some (.tup xs):=λb xs z=>by rw[ak (λz'=>by rw[z',h2]at z;cases z)];exact z
  have n1:∀x∈A1,x≠c:=λx hx z=>Gy x hx c (by simp) z
  have n3:∀x∈A3,x≠c:=λx hx z=>M5 c (by simp) x hx z.symm
  have off:∀x∈B',x∉A1/\x∉A3:=λx hx=>by
   rcases p_ x hx with z|z
   ·exact⟨λq=>Gy x q x (by simp[z]) rfl,λq=>M5 x (by simp[z]) x q rfl⟩
   ·exact⟨λq=>z (by simp[q]),λq=>z (by simp[q])⟩
  have Nn:m<vs.length:=by lia
  have ev:vs=vs.take m++V.ref c::vs.drop (m+1):=by
   have e1:vs=vs.take m++vs.drop m:=(S0 _ _).symm;rw[R_ Nn]at e1;have:vs[m]=V.ref c:=by
    have:=Rf Nn;rw[g1]at this;exact(RC this).symm
   rwa [this]at e1
  refine⟨A1++((c::B')++A3),?_,Sw.mpr ⟨AK,Sw.mpr ⟨RM.mpr ⟨λz=>oW c z rfl,n'⟩,OL,λx hx y hy=>?_⟩,λx hx y hy z=>?_⟩,λx hx=>?_⟩
  ·rw[List.set_eq_take_append_cons_drop,if_pos Pj];have q:aH P w (upd H c (.lst rW)) (ds.take m++.lst dz::ds.drop (m+1)) (vs.take m++.ref c::vs.drop (m+1)) (A1++((c::B')++A3)) :=
    (g3.keep kt λx hx oc ec=>by rw[ak (n1 x hx)];exact ec).append ⟨.ref c,_,c::B',A3,rfl,rfl,⟨c,rW,B',rfl,ao,rfl,o'.keep kt λx hx oc ec=>by rw[ak (oW x hx)];exact ec⟩,g5.keep kt λx hx oc ec=>by rw[ak (n3 x hx)];exact ec⟩
   rw[<- ev]at q;exact q
  ·intro z;subst z;rcases Ra.mp hx with rfl|hx
   ·exact n3 _ hy rfl
   ·exact(off x hx).2 hy
  ·subst z;rcases Rx.mp hy with hy|hy
   ·rcases Ra.mp hy with rfl|hy
    ·exact n1 _ hx rfl
    ·exact(off x hy).1 hx
   ·exact Gy x hx x (by simp[hy]) rfl
  ·rcases Rx.mp hx with hx|hx
   ·exact .inl (by simp[hx])
   ·rcases Rx.mp hx with hx|hx
    ·rcases Ra.mp hx with rfl|hx
     ·exact .inl (by simp)
     ·exact .inr hx
    ·exact .inl (by simp[hx])
 cases l with
 |true =>
  obtain⟨a,vs,A',rfl,h2,rfl,h4⟩:=r;obtain⟨na,ON⟩:=RM.mp nd;obtain⟨c,us,B,q1,q2,q3,q4,q5,q6,q7⟩:=core ON h4;have ca:c≠a:=λz=>na (by rw[<- z];exact q3)
  refine⟨a,vs,c,us,B,rfl,h2,h4.length,q1,q2,by simp[q3],q4,λx hx=>⟨by simp[(q5 x hx).1],(q5 x hx).2⟩,q6,λdz rW B' o' n' p_ oW=>?_⟩
  obtain⟨A2,g1,g2,g3⟩:=q7 dz rW B' o' n' (λx hx=>(p_ x hx).imp id λz q=>z (by simp[q])) oW
  refine⟨a::A2,⟨a,vs,A2,rfl,by rw[ak ca.symm];exact h2,rfl,g1⟩,RM.mpr ⟨λz=>?_,g2⟩,λx hx=>?_⟩
  ·rcases g3 a z with z|z
   ·exact na z
   ·rcases p_ a z with z|z
    ·exact na (q5 a z).1
    ·exact z (by simp)
  ·rcases Ra.mp hx with rfl|hx
   ·exact .inl (by simp)
   ·exact(g3 x hx).imp (λz=>by simp[z]) id
 |false =>
  obtain⟨a,vs,rfl,h2,h4⟩:=r;obtain⟨c,us,B,q1,q2,q3,q4,q5,q6,q7⟩:=core nd h4;have ca:a≠c:=λz=>by rw[z,q2]at h2;cases h2
  refine⟨a,vs,c,us,B,rfl,h2,h4.length,q1,q2,q3,q4,q5,q6,λdz rW B' o' n' p_ oW=>?_⟩;obtain⟨A2,g1,g2,g3⟩:=q7 dz rW B' o' n' p_ oW;exact⟨A2,⟨a,vs,rfl,by rw[ak ca];exact h2,g1⟩,g2,g3⟩
end
section
variable {X:Cx}{C:Cfg}{e k:Expr}{φ φk:aN}{i:Nat}{x:Str}{pos px kp ap cp:Pos}
theorem iB (l:Bool)(he:∀U,PQ X (C.u U) true e φ)(hk:∀U,PQ X (C.u U) true k φk)(hN:X.N[i]?=some x:=by rfl)(hv:vB X.env.scope x:=by first|exact .inl rfl|exact .inr (.inl rfl)|exact .inr (.inr rfl))(hd:(x==("__debug__" : Str))=false:=by decide)(gM:(x==("__classdict__" : Str))=false:=by decide)
  (Po:nh k:=by exact λ_ _=>rfl)
  (cE:S5 (.Subscript (.Name x px) k kp) "append" X.env (eval (.Subscript (.Name x px) k kp) X.env)=eval (.Subscript (.Name x px) k kp) X.env:=by rfl)
  (h_:((SF cp (Rc [e] X.env)).all (λx=>!x.1)&&(Va cp (Ue [] X.env)).all (λx=>x.1.isSome)&&decide ([e].length+([]:List TN).length+(if ([]:List TN).isEmpty then 0 else 1)<30))=true:=by rfl)
  (cD:(ap.endLine==cp.line)=true:=by rfl) (hs:Rc [e] X.env=(false,eval e X.env)::Rc [] X.env:=by rfl) (cm:(SF cp (Rc [] X.env)).any (·.1)=false:=by rfl)
  (pZ:Tc (.Call (.Attribute (.Subscript (.Name x px) k kp) "append" ap) [e] [] cp) none pos.line X.env=pure false:=by rfl) :
  PB X C (.Expr (.Call (.Attribute (.Subscript (.Name x px) k kp) "append" ap) [e] [] cp) pos) (λE β=>(∃d0,β[i]?=some (some (.own d0)))/\φk β λjd _ β1=>∃ds j m es,jd=.int j/\β1[i]?=some (some (.own (GO l ds)))/\zg ds.length j=some m/\ds[m]?=some (.lst es)/\φ β1 λd kd β2=>B9 kd d/\β2[i]?=some (some (.own (GO l ds)))/\es.length<Ri/\E.nx (β2.set i (some (.own (GO l (ds.set m (.lst (es++[d]))))))) ):=by
 refine⟨λE E' β l HU=> by obtain⟨q0,q⟩ := HU;exact⟨q0,(hk λ_=>False).mono _ _ _ (λjd _ β1 HS=> by obtain⟨ds,j,m,es,h1,h2,h3,h4,q⟩ := HS;exact⟨ds,j,m,es,h1,h2,h3,h4,(he λ_=>False).mono _ _ _ (λd kd β2 HR=> by obtain⟨g1,g2,g3,q⟩ := HR;exact⟨g1,g2,g3,l.nx _ q⟩) q⟩) q⟩,λpins s σ H De I ⟨Z,E,β,⟨own,sq,n⟩,⟨⟨d0,Pu⟩,q⟩,ok⟩=>?_⟩
 have ix:CM X (λx y H Q=>F4 X.K x y H Q\/F3 X.K x y H Q):=λvalue slice pins s σ H x y v u Q I rx ry h hs=>h.elim (λh=>eC value slice pins s σ H x y v u Q I rx ry h hs) λh=>xO value slice pins s σ H x y v u Q I rx ry h hs;refine iV (pos:=pos) (sO (apos:=ap) (cpos:=cp) PySem.F.plainAttrs_list PySem.F.slot_list_append PySem.F.type_list_append gZ (jA (pos:=kp) ix (d8 (pos:=px) hN hv hd gM) (hk λa=>H a=none).pe Po) (bf (he λa=>H a=none).pe cK hs) cE h_ cD hs cm) pZ pins s σ H De I ?_;have Oh:=sq.rV (C:=C.z) (U:=λa=>H a=none) λa z=>z;obtain⟨v0,Ji,_,_⟩:=sq.ow i d0 Pu;refine⟨v0,Ji,tQ.of (hk λa=>H a=none) Oh q λjd kk β1 kv H1 aB ⟨ds,j,m,es,e1,hb,hj,hm,q⟩ o r=>?_⟩;subst e1;cases r.rep;obtain⟨v,Nf,ow,h0⟩:=o.sq.ow i _ hb;rw[Ji]at Nf;cases Nf;obtain⟨a,vs,c,us,B,rfl,q1,q2,q3,q4,q5,q6,q7,q8,q9⟩:=oi ow (o.sq.kR i) hm;have NS:ng vs j=some (.ref c):=by unfold ng;rw[q2,hj];exact q3
 have MZ:IV X.K "list" (.ref c) H1/\BM (tQ X (C.u λa=>H a=none) true φ) FQ σ H1 λxs H2=>sf (.ref c) xs H2 λ_ H1=>De.nx σ H1:=by
  refine⟨.inl ⟨rfl,us,dg.of q4⟩,tQ.of (he λa=>H a=none) o.sq q λd kd β2 v2 H2 a3 ⟨f,NJ,hl,q⟩ o2 r2=>?_⟩;obtain⟨s2,e2⟩:=o2.pu rfl;obtain⟨v',Ng,OG,QV⟩:=o2.sq.ow i _ NJ;rw[Ji]at Ng;cases Ng;obtain⟨a',vs',c',rW,B',ea,p1,p2,p3,p4,p5,p6,p7,p8,p9⟩:=oi OG (o2.sq.kR i) hm;cases ea;have e3:=s2 _ _ q1;rw[p1]at e3;have ev:vs'=vs:=by cases l <;> (cases e3;rfl)
  subst ev;rw[q3]at p3;cases p3;have e4:=s2 _ _ q4;rw[p4]at e4;cases e4;obtain⟨A,r1,rn,r3⟩:=r2.fl f;have DS:∀x∈A,x∉a3 i:=λx hx z=>(r3 x hx).2.1 ⟨i,z⟩;obtain⟨A',g1,g2,g3⟩:=p9 (es++[d]) (us++[v2]) (B'++A) (p6.append (aH.one r1)) (Sw.mpr ⟨p8,rn,λx hx y hy z=>DS y hy (by rw[<- z];exact(p7 x hx).1)⟩)
   (λx hx=>(Rx.mp hx).imp id (DS x)) (λx hx z=>by
    rcases Rx.mp hx with hx|hx
    ·exact(p7 x hx).2 z
    ·exact DS x hx (by rw[z];exact p5))
  have hA:∀x∈A',x∈a3 i\/(C.H0 x=none/\¬ Wn a3 x/\H x=none):=λx hx=>by
   rcases g3 x hx with z|z
   ·exact .inl z
   ·rcases Rx.mp z with z|z
    ·exact .inl (p7 x z).1
    ·exact .inr ⟨(r3 x z).2.2,(r3 x z).2.1,o.sn.free (r3 x z).1⟩
  exact⟨c,us,v2,rfl,rfl,p4,by rw[p6.length];exact hl,ok.nx _ _ _ ⟨_,o2.sq.putIn (C:=C) (U:=λa=>H a=none) NJ Ji p5 g1 g2 hA,qz ((n.trans o.sn).trans o2.sn) (λb z=>n.free z) ⟨i,p5⟩ ⟨_,p4,λxs z=>by cases z⟩ hA⟩ q⟩
 cases l with
 |true=>exact .inl ⟨a,vs,j,.ref c,rfl,rfl,dg.of q1,NS,MZ⟩
 |false=>exact .inr ⟨a,vs,j,.ref c,rfl,rfl,vi.of q1,NS,MZ⟩
end
end L2.Q
namespace L2
open PySem PySem.Spec PySem.SeqAt PyProof.Rows
structure Bs2 (mg:Str->Option QZ):Prop extends Bs mg where
 G1:mg "isinstance" = none
 tuple:mg "tuple" = none
 str:mg "str" = none
 bool:mg "bool" = none
 zip:mg "zip" = none
 enumerate:mg "enumerate" = none
theorem yD {d:D}{n:Nat}(h:d.pd.canLay0=true/\d.pd.depth<=n)(hn:n<=64:=by decide):Ct d d=some (.bl false):=rK (e9 h hn) (e9 h hn) (eqv_refl _ h.1)
end L2
namespace L2.Q
open PySem PySem.Spec PySem.SeqAt PyProof.Rows
structure rR (X:Cx)(C:Cfg)(p:Bool)(ifs:List Expr)(τ:aY):Prop where
 mono:∀β R R',(∀d β,R d β->R' d β)->τ β R->τ β R'
 pt:qd X ifs (iM X C p τ)
theorem gP {X:Cx}{C:Cfg}:rR X C true [] FJ:=⟨λ_ _ _ k h=>k _ _ h,wO⟩
theorem qo {X:Cx}{C:Cfg}{p:Bool}{c:Expr}{τ:aY}(h:qe X C p c τ):rR X C p [c] τ:=⟨h.mono,wN h⟩
section
variable {X:Cx}{C:Cfg}{lk:List (Option Nat)}{γ:dj}{τ:aY}{φ:aN}{T:List Nat}{pc pe pi:Bool}{scope:TU}{N':List Str}{tg cH elt:Expr}{ifs:List Expr}{ι:cF}{pos pos' nN:Pos}{y:Str}{i:Nat}
theorem M_ (N':List Str)(lk:List (Option Nat))(L:g8 X.env.scope.names X.N scope N' lk=true)(uT:N'.Nodup)(hc:X.calm=true)(hi:y_ X C pi tg cH ι)
  (rg:∀U cl c s H ex,vD (aC X scope N' cl c s H ex) (C.u U) tg T γ) (mT:∀U cl c s H ex,rR (aC X scope N' cl c s H ex) (C.u U) pc ifs τ) (nu:∀U cl c s H ex,PQ (aC X scope N' cl c s H ex) (C.u U) pe elt φ)
  (hT:T.all (λi=>match lk[i]? with|some (some _)=>false|_=>true)=true:=by rfl) (hs:∀x,Se cH X.env x=pure x:=by intro _;rfl):PQ X C (pi&&(pc&&pe)) (.ListComp elt [⟨tg,cH,ifs,0⟩] scope pos) (sg lk ι γ τ φ) :=
 Gh (Links.of L) uT hT hc hi (λa=>rg _) (λa cl c s H ex=>(mT _ cl c s H ex).pt) (mT (λ_=>False) [] 0 X.s₀ X.H₀ []).mono (λa=>nu _) (rg (λ_=>False) [] 0 X.s₀ X.H₀ []).mono (nu (λ_=>False) [] 0 X.s₀ X.H₀ []).mono hs
theorem zU (o:Bool)(N':List Str)(lk:List (Option Nat))(L:g8 X.env.scope.names X.N scope N' lk=true)(uT:N'.Nodup)(hc:X.calm=true)(hi:∀U,y_ X (C.u U) pi tg cH ι)
  (rg:∀U cl c s H ex,vD (aC X scope N' cl c s H ex) (C.u U) tg T γ) (mT:∀U cl c s H ex,rR (aC X scope N' cl c s H ex) (C.u U) pc ifs τ) (nu:∀U cl c s H ex,PQ (aC X scope N' cl c s H ex) (C.u U) pe elt φ)
  (hN:X.N.Nodup) (hT:T.all (λi=>match lk[i]? with|some (some _)=>false|_=>true)=true:=by rfl) (hy:X.N[i]?=some y:=by rfl) (hx:Loc X.env.scope y:=by first|exact .inl rfl|exact .inr rfl) (hf:X.fn y=true\/X.env.scope.names.lookup y=some .local:=by first|exact .inl rfl|exact .inr rfl|assumption)
  (pZ:Tc (.ListComp elt [⟨tg,cH,ifs,0⟩] scope pos) (some (.Name y pos')) nN.line X.env=pure true:=by rfl)
  (EL:evalThenUse (.ListComp elt [⟨tg,cH,ifs,0⟩] scope pos) X.env (assign (.Name y pos') X.env)=(do let _ <- comprehension (.ListComp elt [⟨tg,cH,ifs,0⟩] scope pos) scope X.env (firstIterPos [⟨tg,cH,ifs,0⟩] pos) (newList []) false (eval cH X.env) (some (assign (.Name y pos') X.env));pure ()):=by first|rfl|exact arm_evalThenUse_ListComp ..)
  (hs:∀x,Se cH X.env x=pure x:=by intro _;rfl) :
  PB X C (.Assign [.Name y pos'] (.ListComp elt [⟨tg,cH,ifs,0⟩] scope pos) nN) (λE β=>sg lk ι γ τ φ β λd _ β'=>E.nx (β'.set i (some (match o with|true=>.own d|false=>.val true d)))) :=
 Gf (K:=λ_ _ _=>True) (Links.of L) uT hT hc hi rg (λU cl c s H ex=>(mT U cl c s H ex).pt) (mT (λ_=>False) [] 0 X.s₀ X.H₀ []).mono nu (rg (λ_=>False) [] 0 X.s₀ X.H₀ []).mono (nu (λ_=>False) [] 0 X.s₀ X.H₀ []).mono o hN hy hx hf pZ EL hs
theorem b9:CM X (uc X vz NF):=λvalue slice pins s σ H x y v u Q I rx ry ⟨W,d1,d2,d,hd,r1,r2,e,q⟩ hs =>
 Em value slice pins s σ H x y v u Q I rx ry ⟨W,d1,d2,d,hd,r1,r2,e,λv H' s r=>q v H' s r λf=>aw.flat f r⟩ hs
end
section
variable {P:Q6}{w:Rl}{K:PySem.W.Frag}{mg:Str->Option QZ}{base:Heap}{k:Nat}{f:Addr}{fd:RY}{ps:List Str}
def pz:FD:=λds R=>∃c:Int,ds=[.int c]/\∀ns,gz ns->R (.lst (ns.map D.int))
theorem pz.mono:dS pz:=λds R R' k ⟨c,e,q⟩=>⟨c,e,λns o=>k _ (q ns o)⟩
theorem ER (G:aM P w K mg base bW k f fd ps wb):aM P w K mg base bW k f fd ps (fG P w true pz):=G.imp λvs H Q E h=>by
 obtain⟨ds,r,c,rfl,q⟩:=h;obtain⟨x,rr,rfl,hx,hr⟩:=r;cases (show rr=[] from hr)
 cases (show x=V.int c from hx)
 refine⟨c,rfl,λp H' hp hd sm=>?_⟩;obtain⟨ns,e,o⟩:=hd.ok;have rep:∀ns:List Int,aH P w H' (ns.map D.int) (ns.map V.int) []:=λns=>by
  induction ns with
  |nil=>exact⟨rfl,rfl⟩
  |cons n ns ih=>exact⟨_,_,[],[],rfl,rfl,⟨rfl,rfl⟩,ih⟩
 exact q ns o _ H' sm ⟨[p],⟨p,_,[],rfl,e,rfl,rep ns⟩,by simp,λc hc=>by rw[Rk.mp hc];exact hp⟩
theorem mw {ro:Bool}(G:aM P w K mg base bW k f fd ps v9):aM P w K mg base bW k f fd ps (gS P w gz ro bI):=G.imp λvs H Q E h=>by
 obtain⟨h,vs',ds,ns,rfl,e,o,r,n,rfl,n1,n2,q⟩:=h;obtain⟨x,rr,rfl,hx,hr⟩:=r;cases (show rr=[] from hr)
 cases (show x=V.int n from hx)
 refine⟨h,n,rfl,o.hand e,n1,n2,λr H' r0 r1 hd fm=>?_⟩;obtain⟨ur,e',o'⟩:=hd.ok;refine q r r0 r1 _ H' ur ⟨λb u hb nb=>fm b u hb nb,λb xs hb=>fm b _ hb λz=>by rw[z,e]at hb;cases hb⟩ (λc hc z=>?_) e' o' (cZ (W:=λ_=>False) rfl rfl)
 by_cases oV:c=h
 ·rw[oV,e']at z;cases z
 ·cases q:H c with
  |none=>exact hc q
  |some u=>rw[fm c u q oV]at z;cases z
end
end L2.Q
namespace kJ
open PySem L2 L2.Q
abbrev D0 (K:PySem.W.Frag)(mg:Str->Option QZ)(f:Addr)(fd:RY):Prop:=Df K mg "_law_arcs" d7 ["hand","many"] f fd
abbrev D1 (K:PySem.W.Frag)(mg:Str->Option QZ)(f:Addr)(fd:RY):Prop:=Df K mg "_law_take" c6 ["hand","many"] f fd
abbrev D2 (K:PySem.W.Frag)(mg:Str->Option QZ)(f:Addr)(fd:RY):Prop:=Df K mg "_law_ties" d3 ["hand","many"] f fd
abbrev D3 (K:PySem.W.Frag)(mg:Str->Option QZ)(f:Addr)(fd:RY):Prop:=Df K mg "_law_row" fx ["hand"] f fd
abbrev D4 (K:PySem.W.Frag)(mg:Str->Option QZ)(f:Addr)(fd:RY):Prop:=Df K mg "stretches_rising" bt ["many"] f fd
abbrev D5 (K:PySem.W.Frag)(mg:Str->Option QZ)(f:Addr)(fd:RY):Prop:=Df K mg "partners_of" cn ["row"] f fd
abbrev D6 (K:PySem.W.Frag)(mg:Str->Option QZ)(f:Addr)(fd:RY):Prop:=Df K mg "number_with" cq ["worth","table","i","k","j"] f fd
abbrev D7 (K:PySem.W.Frag)(mg:Str->Option QZ)(f:Addr)(fd:RY):Prop:=Df K mg "least_number" bX ["partners","worth","table","i","j"] f fd
abbrev D8 (K:PySem.W.Frag)(mg:Str->Option QZ)(f:Addr)(fd:RY):Prop:=Df K mg "greatest_table" bC ["row","worth"] f fd
abbrev D9 (K:PySem.W.Frag)(mg:Str->Option QZ)(f:Addr)(fd:RY):Prop:=Df K mg "one_each" dZ ["row"] f fd
abbrev JG (K:PySem.W.Frag)(mg:Str->Option QZ)(f:Addr)(fd:RY):Prop:=Df K mg "table_of" dY ["row"] f fd
abbrev IT (K:PySem.W.Frag)(mg:Str->Option QZ)(f:Addr)(fd:RY):Prop:=Df K mg "parts_left" cR ["i","k","j"] f fd
abbrev IS (K:PySem.W.Frag)(mg:Str->Option QZ)(f:Addr)(fd:RY):Prop:=Df K mg "best_choices" bY ["partners","worth","table","i","j"] f fd
abbrev JF (K:PySem.W.Frag)(mg:Str->Option QZ)(f:Addr)(fd:RY):Prop:=Df K mg "first_greatest" bD ["row","worth","table","i","j"] f fd
abbrev MB (K:PySem.W.Frag)(mg:Str->Option QZ)(f:Addr)(fd:RY):Prop:=Df K mg "most_of" dM ["row","i","j"] f fd
abbrev MA (K:PySem.W.Frag)(mg:Str->Option QZ)(f:Addr)(fd:RY):Prop:=Df K mg "_law_copied" cS ["row"] f fd
abbrev Mz (K:PySem.W.Frag)(mg:Str->Option QZ)(f:Addr)(fd:RY):Prop:=Df K mg "_law_kind" d6 ["caught"] f fd
abbrev NX (K:PySem.W.Frag)(mg:Str->Option QZ)(f:Addr)(fd:RY):Prop:=Df K mg "_law_said" d4 ["row","begin","end"] f fd
abbrev Qv (K:PySem.W.Frag)(mg:Str->Option QZ)(f:Addr)(fd:RY):Prop:=Df K mg "_law_hand" c7 ["cell"] f fd
section
variable {P:Q6}{w:Rl}{K:PySem.W.Frag}{mg:Str->Option QZ}{base:Heap}
theorem nR:aL ["cell"] ["cell"] (au c7):=⟨rfl,rfl,rfl,by decide +kernel,rfl,by decide +kernel,by decide +kernel⟩
theorem Az {f:Addr} {fd:RY} (F:zb K "_law_hand" "_law_hand" c7 f fd) (B:Qw mg):aM P w K mg base bW 1 f fd ["cell"] wb:=by
 refine F.ok nR (λvs H Q E h=>?_) (λb7 A outer s H vs Q E hr h=>?_)
 ·obtain⟨c,rfl,_⟩:=h;rfl
 ·obtain⟨c,rfl,k⟩:=h;refine⟨_,fA (gW (qM (bf (gw (l7 rfl) (by rfl) B.max rO (bf aV (bf (cC xh (pv 0) (cC jG aV aV)) cK)))
   (bf (cC xi (cC qO (cC jH (pv 0) aV) aV) (lE ic (by rfl) B.int yP (bf (sM Gk (pv 0) (cC jG aV aV) (xw _)) cK))) cK)))),?_⟩
  refine⟨_,rfl,_,_,rfl,rfl,wW,_,_,rfl,rfl,_,_,rfl,?_⟩;have m1:=iY (a:=c) (b:=2147483629) (by decide)
  refine⟨_,rfl,_,_,rfl,rfl,(by show (0:Int)<2147483629;decide),_,_,rfl,rfl,_,rfl,_,_,rfl,rfl,wW,rfl,.inr ⟨_,rfl,_,_,rfl,rfl,.inl ⟨by lia,by lia⟩,?_⟩⟩
  refine⟨(by show 2<=Ri;decide),λp hp=>k p _ hp ⟨_,_,ao,?_,?_⟩ (az.new hp)⟩
  ·split <;> lia
  ·split <;> constructor <;> lia
theorem ir:aL ["hand","many","taken"] ["hand","many"] (au c6):=⟨rfl,rfl,rfl,by decide +kernel,rfl,by decide +kernel,by decide +kernel⟩
theorem Ks {y:Int}(h:0<=y)(h':y<2147483647):rT (y+1) 7:=⟨by decide,by decide,by lia⟩
theorem iX {f:Addr} {fd:RY} (F:zb K "_law_take" "_law_take" c6 f fd):aM P w K mg base bW 1 f fd ["hand","many"] v9:=by
 refine F.ok ir (λvs H Q E h=>?_) (λb7 A outer s H vs Q E hr h=>?_)
 ·obtain⟨h,n,rfl,_⟩:=h;rfl
 ·obtain⟨h,n,rfl,⟨x,y,hx,x0,y0,y1⟩,n0,n1,k⟩:=h;refine⟨_,c8 (BO (si BV (jA eC (pv 0) aV (λ_ _=>rfl)) aV (xw _))
    (c8 (qG (i:=2) ir.nd rfl (Or.inl rfl) (cC jH (jA eC (pv 0) aV (λ_ _=>rfl)) (pv 1)))
    (c8 (qH (cC om (jA eC (pv 0) aV (λ_ _=>rfl)) (pv 1)) (wZ (pv 0) aV set_list))
    (fA (gW (pv 2))))) sj)
   (c8 (qH (cC jH (cC xi (jA eC (pv 0) aV (λ_ _=>rfl)) aV) aV) (wZ (pv 0) aV set_list))
   (fA (gW (cC jH (cC om (cC jG (cC qO (jA eC (pv 0) aV (λ_ _=>rfl)) aV) aV) aV) (pv 1))))),?_⟩
  refine⟨_,rfl,h,_,_,_,rfl,rfl,dg.of hx,rfl,_,_,rfl,rfl,_,rfl,?_⟩;refine KP (λhp=>?_) (λhp=>?_)
  ·refine⟨_,rfl,h,_,_,_,rfl,rfl,dg.of hx,rfl,_,rfl,_,_,rfl,rfl,n0,?_⟩;refine⟨_,rfl,h,_,_,_,rfl,rfl,dg.of hx,rfl,_,rfl,_,_,rfl,rfl,pX.of n0 n1,?_⟩;refine⟨_,rfl,h,_,_,0,rfl,rfl,hx,rfl,?_⟩;have m:=iY (a:=x) n0;exact⟨_,rfl,k _ _ m.1 m.2 ⟨_,_,ao,Int.ediv_nonneg x0 (Int.le_of_lt n0),y0,y1⟩ Fm.upd⟩
  ·have m1:=iY (a:=y*48271) (b:=2147483647) (by decide)
   refine⟨_,rfl,h,_,_,_,rfl,rfl,dg.of hx,rfl,_,_,rfl,rfl,.inr ⟨by decide,by decide⟩,_,_,rfl,rfl,(by show (0:Int)<2147483647;decide),?_⟩
   refine⟨_,rfl,h,_,_,1,rfl,rfl,hx,rfl,?_⟩;refine⟨_,rfl,h,_,_,_,rfl,rfl,dg.of ao,rfl,_,_,rfl,rfl,_,_,rfl,rfl,Ks m1.1 m1.2,_,_,rfl,rfl,pX.of (by decide) (by decide),_,rfl,_,_,rfl,rfl,n0,?_⟩
   have m:=iY (a:=(y*48271 % 2147483647+1) ^ (7:Int).toNat / 8) n0;exact k _ _ m.1 m.2 ⟨_,_,ao,x0,m1.1,m1.2⟩ Fm.upd
theorem cy:aL ["hand","many","found","piled","point","way"] ["hand","many"] (au d7):=⟨rfl,rfl,rfl,by decide +kernel,rfl,by decide +kernel,by decide +kernel⟩
theorem AD {Co o_} (dA:D0 K mg Co o_) {EW rB} (dT:D1 K mg EW rB) (B:Bs mg):aM P w K mg base bW 2 Co o_ ["hand","many"] (gS P w gz true pD):=by
 have GT:aM P w K mg base bW 1 _ _ _ (gS P w gz true bI):=mw (iX dT.F);refine DR dA.F cy (λds R HQ=> by obtain⟨n,e,_⟩ := HQ;subst e;rfl) λb7 A outer s H E IO hr=>⟨_,(aj (d9 (i:=2) (λ_=>(a_ af)) cy.nd)
    (aj (d9 (i:=3) (λ_=>(a_ af)) cy.nd)
    (aj (d_ SA rfl (bN B.range (aa (ae (i:=1)) af)) (aD (i:=4) cy.nd) (aj (aW (i:=5) (bc (ih:=0) bI.mono GT (hr.mono (by decide)) dT.m dT.F.kp dT.b (aa ah af)) cy.nd)
    (aj (cf (aS ai (b8.m (dE hr.units)) (ae (i:=5)) ah) (ar (cY (i:=3) (λ_=>(ae (i:=4))))) a9)
    (ar (cf (vC.t (sv (aS ai (b8.m (dE hr.units)) (ae (i:=5)) ah) (n9 (aS ai (b8.m (jI hr.units)) (ae (i:=3)) (a_ af))))) (ar (cY (i:=2) (λ_=>(aQ (aa (wU (i:=3)) (aa (ae (i:=4)) af)))))) a9)))))
    (ar (bq (c_ aF m_ B.sorted l8 (aa (ae (i:=2)) af))))))),λds R h=>?_⟩
 obtain⟨n,rfl,n0,n1,q⟩:=h;refine⟨Rr _,trivial,Rr _,trivial,_,rfl,trivial,n,rfl,by omega,by omega,trivial,?_⟩
 refine⟨λi β=>∃(fs:List (List Int)) (ps:List Int) (x4 x5:Option Q.B),β=[some (.hand gz),some (.val false (.int n)),some (.own (.lst (fs.map kD))),some (.own (.lst (ps.map D.int))),x4,x5]/\fs.length<=i/\ps.length<=i/\i<=n.toNat/\bo n fs/\(∀p∈ps,0<=p/\p<i),⟨[],[],_,_,rfl,Q4 _,Q4 _,Rr _,bo.nil,λ_ z=>(nomatch z)⟩,?_,?_⟩
 ·rintro i d β hd ⟨fs,ps,x4,x5,rfl,h1,h2,h3,h4,h5⟩;obtain⟨hi,rfl⟩:=cB hd;refine⟨rfl,trivial,rfl,trivial,3,rfl,by omega,by omega,λr r0 r1=>?_⟩
  refine⟨_,rfl,trivial,_,b5 _ _,_,rfl,?_⟩;have fin:∃(nv:List (List Int)) (Kq:List Int) (x4 x5:Option Q.B),[some (.hand gz),some (.val false (.int n)),some (.own (.lst (fs.map kD))),some (.own (.lst (ps.map D.int))),some (.val true (.int (0+(i:Int)))),some (.val true (.int r))]=[some (.hand gz),some (.val false (.int n)),some (.own (.lst (nv.map kD))),some (.own (.lst (Kq.map D.int))),x4,x5]/\nv.length<=i+1/\Kq.length<=i+1/\i+1<=n.toNat/\bo n nv/\(∀p∈Kq,0<=p/\p<((i+1:Nat):Int)) :=
    ⟨fs,ps,_,_,rfl,by omega,by omega,by omega,h4,λp hp=>by have:=h5 p hp;omega⟩
  refine oS (λz5=>?_) (λz5=>?_)
  ·refine⟨⟨_,rfl⟩,_,rfl,trivial,_,rfl,by rw[Q3,Sd];omega,?_⟩
   refine⟨_,rfl,trivial,_,b5 _ _,_,rfl,jW (by simp[z5]) (jW rfl ?_)⟩
   refine⟨fs,ps++[0+(i:Int)],_,_,by rw[we];rfl,by omega,by simp;omega,by omega,h4,λp hp=>?_⟩
   rcases Rx.mp hp with z|z
   ·have:=h5 p z;omega
   ·rw[Rk.mp z];omega
  ·refine⟨_,rfl,trivial,_,b5 _ _,_,rfl,oS (λr2=>?_) (λr2=>jW rfl fin)⟩;refine⟨_,rfl,trivial,Rr _,_,yE ps [],_,rfl,O0 (λhp=>?_) (λhp=>fin)⟩;obtain⟨qs,p,rfl⟩:∃qs p,ps=qs++[p]:=⟨ps.dropLast,ps.getLast hp,(List.dropLast_concat_getLast hp).symm⟩;have Nj:=h5 p (by simp)
   rw[RT,T7]at h2;refine⟨⟨_,rfl⟩,qs.map D.int,.int p,by simp,trivial,_,rfl,trivial,fK,trivial,fs.map kD,rfl,by rw[Q3,Sd];omega,?_⟩
   refine⟨fs++[[p,0+(i:Int)]],qs,_,_,by rw[iT];rfl,by simp;omega,by omega,by omega,h4.app (bo.one (by omega) (by omega) (by omega)),λx hx=>?_⟩
   have:=h5 x (by simp[hx])
   omega
 ·rintro β ⟨fs,ps,x4,x5,rfl,h1,h2,h3,h4,h5⟩;rw[cz]at h1;refine⟨_,rfl,trivial,_,qw h4.ne (by omega),.inl ⟨dQ _,trivial,rfl,q _ ?_ (v7 h4)⟩⟩
  rw[(dJ fs).length_eq];exact h1
end
section
variable {P:Q6}{w:Rl}{K:PySem.W.Frag}{mg:Str->Option QZ}{base:Heap}
theorem aO:aL ["hand","many","way","found","k","one","other","reach","kinds","wide"] ["hand","many"] (au d3):=⟨rfl,rfl,rfl,by decide +kernel,rfl,by decide +kernel,by decide +kernel⟩
def T9 (n way:Int)(f:Q.B)(β:Q.aX):Prop:=∃x4 x5 x6 x7 x8 x9:Option Q.B,β=[some (.hand gz),some (.val false (.int n)),some (.val true (.int way)),some f,x4,x5,x6,x7,x8,x9]
theorem Av {Fx uU} (dI:D2 K mg Fx uU) {EW rB} (dT:D1 K mg EW rB) {Co o_} (dA:D0 K mg Co o_) (B:Bs mg):aM P w K mg base bW 3 Fx uU ["hand","many"] (gS P w gz true pk):=by
 have GT:aM P w K mg base bW 1 _ _ _ (gS P w gz true bI):=mw (iX dT.F);have GA:aM P w K mg base bW 2 _ _ _ (gS P w gz true pD):=AD dA dT B;refine DR dI.F aO (λds R HP=> by obtain⟨n,e,_⟩ := HP;subst e;rfl) λb7 A outer s H E IO hr=>⟨_,(aj (aW (i:=2) (bc (ih:=0) bI.mono GT (hr.mono (by decide)) dT.m dT.F.kp dT.b (aa ah af)) aO.nd)
    (aj (d9 (i:=3) (λ_=>(a_ af)) aO.nd)
    (cu (cf (vC.t (qI (aS ai (b8.m (dE hr.units)) (ae (i:=2)) ah) (su (aS ai (b8.m (dE hr.units)) (ae (i:=2)) ah)))) (ar (d_ SA rfl (bN B.range (aa (bc (ih:=0) bI.mono GT (hr.mono (by decide)) dT.m dT.F.kp dT.b (aa (bb ai b9 (a_ (aa ah (aa ah (aa ah af)))) (bc (ih:=0) bI.mono GT (hr.mono (by decide)) dT.m dT.F.kp dT.b (aa ah af))) af)) af)) (aD (i:=4) aO.nd) (aj (aW (i:=5) (bc (ih:=0) bI.mono GT (hr.mono (by decide)) dT.m dT.F.kp dT.b (aa (ae (i:=1)) af)) aO.nd)
    (aj (aW (i:=6) (aE ai (b8.m Au) (aE aF ay (aE aF ay (ae (i:=5)) ah) (bc (ih:=0) bI.mono GT (hr.mono (by decide)) dT.m dT.F.kp dT.b (aa (aE ai (b8.m bu) (ae (i:=1)) ah) af))) (ae (i:=1))) aO.nd)
    (ar (cY (i:=3) (λ_=>(aQ (aa (c_ ai (dC.m (gf rfl)) B.min rN (aa (ae (i:=5)) (aa (ae (i:=6)) af))) (aa (c_ ai (dC.m (rM rfl)) B.max rO (aa (ae (i:=5)) (aa (ae (i:=6)) af))) af)))))))))) a9)
    (aj (aW (i:=7) (aE aF ay ah (bc (ih:=0) bI.mono GT (hr.mono (by decide)) dT.m dT.F.kp dT.b (aa ah af))) aO.nd)
    (cu (cf (aS ai (b8.m (dE hr.units)) (ae (i:=2)) ah) (ar (d_ SA rfl (bN B.range (aa (ae (i:=1)) af)) (aD (i:=5) aO.nd) (ar (d_ SA rfl (jx B.range (aa (aE aF ay (ae (i:=5)) ah) (aa (c_ ai (dC.m (gf rfl)) B.min rN (aa (ae (i:=1)) (aa (aE aF ay (aE aF ay (ae (i:=5)) ah) (ae (i:=7))) af))) af))) (aD (i:=6) aO.nd) (ar (cf (aS ai (b8.m xl) (bc (ih:=0) bI.mono GT (hr.mono (by decide)) dT.m dT.F.kp dT.b (aa ah af)) ah) (ar (cY (i:=3) (λ_=>(aQ (aa (ae (i:=5)) (aa (ae (i:=6)) af)))))) a9)))))) a9)
    (cu (cf (aS ai (b8.m (dE hr.units)) (ae (i:=2)) ah) (aj (aW (i:=8) (M_ ["point","hand"] [none,some 0] (by rfl) (by decide:(["point","hand"]:List Str).Nodup) rfl (bN B.range (aa (ae (i:=1)) af)) (λ_ _ _ _ _ _=>(aD (i:=0) (by decide:(["point","hand"]:List Str).Nodup))) (λ_ _ _ _ _ _=>gP) (λ_ _ _ _ _ _=>(bc (ih:=1) bI.mono GT (hr.mono (by decide)) dT.m dT.F.kp dT.b (aa ah af)))) aO.nd)
    (aj (aW (i:=9) (bb ai b9 (a_ (aa (ae (i:=1)) (aa ah af))) (gX ai (dC.m ve) B.int yP (aa (DA ai (b8.m xl) (ae (i:=1)) ah) af))) aO.nd)
    (ar (d_ SA rfl (bN B.range (aa (ae (i:=1)) af)) (aD (i:=5) aO.nd) (ar (lF (i:=3) (M_ ["k","one","kinds"] [none,some 5,some 8] (by rfl) (by decide:(["k","one","kinds"]:List Str).Nodup) rfl (jx B.range (aa (aE aF ay (ae (i:=5)) ah) (aa (c_ ai (dC.m (gf rfl)) B.min rN (aa (ae (i:=1)) (aa (aE aF ay (ae (i:=5)) (ae (i:=9))) af))) af))) (λ_ _ _ _ _ _=>(aD (i:=0) (by decide:(["k","one","kinds"]:List Str).Nodup))) (λ_ _ _ _ _ _=>(qo (aS ai (b8.m (dE hr.units)) (aE aF ay (bb ai b9 (ae (i:=2)) (ae (i:=1))) (bb ai b9 (ae (i:=2)) (ae (i:=0)))) ah))) (λ_ _ _ _ _ _=>(aQ (aa (ae (i:=1)) (aa (ae (i:=0)) af))))))))))) a9)
    (cu (cf (aS ai (b8.m (dE hr.units)) (ae (i:=2)) ah) (ar (d9 (i:=3) (λ_=>(aE aF ay (Dz (i:=3)) (bc (ih:=0) pD.mono GA (hr.mono (by decide)) dA.m dA.F.kp dA.b (aa (ae (i:=1)) af)))) aO.nd)) a9)
    (ar (bq (Gg (c_ aF (m9 rfl) B.sorted l8 (aa (gX ai (dC.m (vb rfl hr.zH)) B.set Fb (aa (ae (i:=3)) af)) af)) wR (wQ ah))))))))))),λds R h=>?_⟩
 obtain⟨n,rfl,n0,n1,q⟩:=h;refine⟨rfl,trivial,rfl,trivial,5,rfl,by lia,by lia,λway w0 w1=>?_⟩
 refine⟨Rr _,trivial,?_⟩;refine⟨λβ=>∃fs:List (List Int),T9 n way (.own (.lst (fs.map kD))) β/\bo n fs/\fs.length<=300/\(way≠1->way≠4->fs=[]),?_,?_⟩
 ·-- drawn N9
  have no:∃fs:List (List Int),T9 n way (.own (.lst (fs.map kD))) [some (.hand gz),some (.val false (.int n)),some (.val true (.int way)),some (.own (.lst [])),none,none,none,none,none,none]/\bo n fs/\fs.length<=300/\(way≠1->way≠4->fs=[]) :=
   ⟨[],⟨_,_,_,_,_,_,rfl⟩,bo.nil,by simp,λ_ _=>rfl⟩
  refine(λ(key:way=1\/way=4->_)=>⟨_,rfl,trivial,_,b5 _ _,_,rfl,oS (λh1=>zi rfl (key (.inl h1))) (λh1=>⟨_,rfl,trivial,_,b5 _ _,_,rfl,oS (λh4=>key (.inr h4)) (λh4=>no)⟩)⟩) ?_
  ·intro Qz;refine⟨rfl,trivial,trivial,trivial,Oe,trivial,rfl,trivial,rfl,trivial,3,rfl,by lia,by lia,λr r0 r1=>pick r0 (by simpa using r1) λd hd=>?_⟩
   obtain⟨m,rfl,m0,m1⟩:∃m:Int,d=.int m/\0<m/\m<=301:=by
    simp only[Ra,Tx,or_false]at hd;rcases hd with rfl|rfl|rfl
    ·exact⟨5,rfl,by lia,by lia⟩
    ·exact⟨12,rfl,by lia,by lia⟩
    ·exact⟨301,rfl,by lia,by lia⟩
   refine⟨trivial,rfl,trivial,m,rfl,m0,by lia,λj j0 j1=>⟨trivial,j,rfl,by lia,by lia,trivial,?_⟩⟩
   refine⟨λi β=>∃fs:List (List Int),T9 n way (.own (.lst (fs.map kD))) β/\bo n fs/\fs.length<=i,⟨[],⟨_,_,_,_,_,_,rfl⟩,bo.nil,by simp⟩,?_,?_⟩
   ·rintro i d β hd ⟨fs,⟨x4,x5,x6,x7,x8,x9,rfl⟩,ht,hl⟩;obtain⟨hi,rfl⟩:=cB hd;refine⟨rfl,_,rfl,trivial,rfl,trivial,n,rfl,by lia,by lia,λone o0 o1=>?_⟩
    refine⟨_,rfl,trivial,_,rfl,trivial,rfl,_,rfl,trivial,_,rfl,trivial,rfl,trivial,n-1,rfl,by lia,by lia,λr' QD z5=>?_⟩
    have LC:IA (.int (one+1+r')) (.int n)=some (.int ((one+1+r') % n)):=if_pos (by lia)
    refine⟨_,rfl,trivial,_,rfl,_,LC,?_⟩;refine⟨⟨_,rfl⟩,_,rfl,trivial,_,rfl,trivial,_,rfl,trivial,_,rfl,trivial,_,rfl,trivial,_,rfl,trivial,fK,trivial,_,rfl,by rw[Q3,Sd];lia,?_⟩
    have ye:(one+1+r') % n≠one/\0<=(one+1+r') % n/\(one+1+r') % n<n:=by
     by_cases fI:one+1+r'<n
     ·rw[Int.emod_eq_of_lt (by lia) fI];lia
     ·rw[show one+1+r'=(one+1+r' - n)+n by lia,Int.add_emod_right,Int.emod_eq_of_lt (by lia) (by lia)];lia
    generalize (one+1+r') % n=I9 at ye;refine⟨fs++[[if I9<one then I9 else one,if I9>one then I9 else one]],⟨_,_,_,_,_,_,by rw[iT];rfl⟩,ht.app (bo.one ?_ ?_ ?_),by simp;lia⟩
    all_goals (split <;> (try split) <;> lia)
   ·rintro β ⟨fs,h9,ht,hl⟩;rw[cz]at hl;exact⟨fs,h9,ht,by lia,λa b=>by lia⟩
 ·rintro β ⟨fs,⟨x4,x5,x6,x7,x8,x9,rfl⟩,ht,hl,hz⟩;refine⟨trivial,rfl,trivial,rfl,trivial,6,rfl,by lia,by lia,λreach e0 e1=>⟨_,rfl,?_⟩⟩
  refine⟨λβ=>∃fs:List (List Int),T9 n way (.own (.lst (fs.map kD))) β/\bo n fs/\fs.length<=300/\(way=3->fs=[]),?_,?_⟩
  ·have no:∃nv:List (List Int),T9 n way (.own (.lst (nv.map kD))) [some (.hand gz),some (.val false (.int n)),some (.val true (.int way)),some (.own (.lst (fs.map kD))),x4,x5,x6,some (.val true (.int (1+reach))),x8,x9]/\bo n nv/\nv.length<=300/\(way=3->nv=[]) :=
    ⟨fs,⟨_,_,_,_,_,_,rfl⟩,ht,hl,λh=>hz (by lia) (by lia)⟩
   refine⟨_,rfl,trivial,_,b5 _ _,_,rfl,oS (λw2=>?_) (λw2=>no)⟩;have KU:fs=[]:=hz (by lia) (by lia)
   subst KU;refine⟨_,rfl,trivial,n,rfl,by lia,by lia,trivial,?_⟩
   refine⟨λi β=>∃(fs:List (List Int)) (y4 y5 y6 y8 y9:Option Q.B),β=[some (.hand gz),some (.val false (.int n)),some (.val true (.int way)),some (.own (.lst (fs.map kD))),y4,y5,y6,some (.val true (.int (1+reach))),y8,y9]/\bo n fs/\fs.length<=i*6,⟨[],_,_,_,_,_,rfl,bo.nil,by simp⟩,?_,?_⟩
   ·rintro i d β hd ⟨fs,y4,y5,y6,y8,y9,rfl,ht,hl⟩;obtain⟨hi,rfl⟩:=cB hd;refine⟨_,rfl,trivial,_,rfl,trivial,_,rfl,trivial,_,rfl,trivial,_,rfl,trivial,_,rfl,_,rfl,trivial,_,rfl,trivial,_,_,rfl,⟨by lia,by lia,by split <;> lia,by split <;> lia⟩,trivial,?_⟩
    generalize Jn:(0:Int)+(i:Int)+1=lo;have LS:((if lo+(1+reach)<n then lo+(1+reach) else n)-lo).toNat<=6/\(if lo+(1+reach)<n then lo+(1+reach) else n)<=n:=by split <;> lia
    generalize (if lo+(1+reach)<n then lo+(1+reach) else n)=cU at LS
    refine⟨λk β=>∃(fs:List (List Int)) (y4 y6 y8 y9:Option Q.B),β=[some (.hand gz),some (.val false (.int n)),some (.val true (.int way)),some (.own (.lst (fs.map kD))),y4,some (.val true (.int (0+(i:Int)))),y6,some (.val true (.int (1+reach))),y8,y9]/\bo n fs/\fs.length<=i*6+k,⟨fs,_,_,_,_,rfl,ht,by lia⟩,?_,?_⟩
    ·rintro k d β hd ⟨fs,y4,y6,y8,y9,rfl,ht,hl⟩;obtain⟨hk,rfl⟩:=cB hd;refine⟨rfl,trivial,rfl,trivial,3,rfl,by lia,by lia,λr r0 r1=>⟨trivial,_,rfl,_,rfl,oS (λhp=>?_) (λhp=>?_)⟩⟩
     ·refine⟨⟨_,rfl⟩,_,rfl,trivial,_,rfl,trivial,fK,trivial,_,rfl,by rw[Q3,Sd];lia,?_⟩
      exact⟨fs++[[0+(i:Int),lo+(k:Int)]],_,_,_,_,by rw[iT];rfl,ht.app (bo.one (by lia) (by lia) (by lia)),by simp;lia⟩
     ·exact⟨fs,_,_,_,_,rfl,ht,by lia⟩
    ·rintro β ⟨fs,y4,y6,y8,y9,rfl,ht,hl⟩;rw[cz]at hl;exact⟨fs,_,_,_,_,_,rfl,ht,by lia⟩
   ·rintro β ⟨fs,y4,y5,y6,y8,y9,rfl,ht,hl⟩;rw[cz]at hl;exact⟨fs,⟨_,_,_,_,_,_,rfl⟩,ht,by lia,λh=>by lia⟩
  ·rintro β ⟨fs,⟨x4,x5,x6,x7,x8,x9,rfl⟩,ht,hl,hz⟩;refine⟨λβ=>∃fs:List (List Int),T9 n way (.own (.lst (fs.map kD))) β/\bo n fs/\fs.length<=960/\(way=4->fs.length<=300),?_,?_⟩
   ·have no:∃nv:List (List Int),T9 n way (.own (.lst (nv.map kD))) [some (.hand gz),some (.val false (.int n)),some (.val true (.int way)),some (.own (.lst (fs.map kD))),x4,x5,x6,x7,x8,x9]/\bo n nv/\nv.length<=960/\(way=4->nv.length<=300) :=
     ⟨fs,⟨_,_,_,_,_,_,rfl⟩,ht,by lia,λh=>hl⟩
    refine⟨_,rfl,trivial,_,b5 _ _,_,rfl,oS (λw3=>?_) (λw3=>no)⟩;have KU:fs=[]:=hz w3;subst KU;refine⟨_,rfl,trivial,n,rfl,by lia,by lia,trivial,?_⟩
    refine⟨λi β o=>(∃x0,β=[x0,some (.hand gz)])/\∃ks:List Int,o=ks.map D.int/\ks.length=i/\∀k∈ks,0<=k/\k<3,⟨⟨_,rfl⟩,[],rfl,rfl,λ_ z=>(nomatch z)⟩,?_,?_⟩
    ·rintro i d β o hd ⟨⟨x0,rfl⟩,ks,rfl,hk,Nt⟩;obtain⟨hi,rfl⟩:=cB hd;refine⟨rfl,trivial,rfl,trivial,3,rfl,by lia,by lia,λr r0 r1=>⟨trivial,by rw[Q3,Sd];lia,⟨_,rfl⟩,ks++[r],by simp,by simp[hk],λk hk=>?_⟩⟩
     rcases Rx.mp hk with z|z
     ·exact Nt k z
     ·rw[Rk.mp z];exact⟨r0,r1⟩
    rintro β o ⟨⟨x0,rfl⟩,ks,rfl,ho,Nt⟩;rw[cz]at ho;refine⟨⟨rfl,trivial⟩,?_⟩;obtain⟨wd,P0,Qy,Qx⟩:∃wd:Int,vz (.lst [.int n,.int 14]) (.int (if decide (n>24)=true then 1 else 0))=some (.int wd)/\0<=wd/\wd<=24:=by
     by_cases hn:n>24
     ·exact⟨14,by rw[if_pos (by simpa using hn)];rfl,by lia,by lia⟩
     ·exact⟨n,by rw[if_neg (by simpa using hn)];rfl,by lia,by lia⟩
    refine⟨_,rfl,trivial,trivial,fK,trivial,_,rfl,trivial,_,rfl,trivial,_,rfl,_,P0,?_⟩;refine⟨_,rfl,trivial,n,rfl,by lia,by lia,trivial,?_⟩
    refine⟨λi β=>∃(fs:List (List Int)) (y4 y5 y6 y7:Option Q.B),β=[some (.hand gz),some (.val false (.int n)),some (.val true (.int way)),some (.own (.lst (fs.map kD))),y4,y5,y6,y7,some (.val true (.lst (ks.map D.int))),some (.val true (.int wd))]/\bo n fs/\fs.length<=i*24,⟨[],_,_,_,_,rfl,bo.nil,by simp⟩,?_,?_⟩
    ·rintro i d β hd ⟨fs,y4,y5,y6,y7,rfl,ht,hl⟩;obtain⟨hi,rfl⟩:=cB hd;refine⟨⟨_,rfl⟩,_,rfl,trivial,_,rfl,trivial,_,rfl,trivial,_,rfl,trivial,_,rfl,_,rfl,trivial,_,rfl,trivial,_,_,rfl,⟨by lia,by lia,by split <;> lia,by split <;> lia⟩,trivial,?_⟩
     have LS:((if 0+(i:Int)+wd<n then 0+(i:Int)+wd else n)-(0+(i:Int)+1)).toNat<=24/\(if 0+(i:Int)+wd<n then 0+(i:Int)+wd else n)<=n:=by split <;> lia
     generalize (if 0+(i:Int)+wd<n then 0+(i:Int)+wd else n)=cU at LS
     refine⟨λj β o=>(∃x0,β=[x0,some (.val true (.int (0+(i:Int)))),some (.val true (.lst (ks.map D.int)))])/\∃us:List (List Int),o=us.map kD/\us.length<=j/\bo n us,⟨⟨_,rfl⟩,[],rfl,Q4 _,bo.nil⟩,?_,?_⟩
     ·rintro j d β o hd ⟨⟨x0,rfl⟩,us,rfl,hj,xV⟩;obtain⟨Fv,rfl⟩:=cB hd;obtain⟨r1,_,e1⟩:=pI (ks:=ks) (i:=0+(i:Int)) (by lia) (by lia)
      obtain⟨r2,_,e2⟩:=pI (ks:=ks) (i:=0+(i:Int)+1+(j:Int)) (by lia) (by lia)
      refine⟨_,rfl,trivial,_,rfl,_,e1,trivial,_,rfl,trivial,_,rfl,_,e2,_,rfl,trivial,_,b5 _ _,_,rfl,oS (λh=>?_) (λh=>⟨⟨_,rfl⟩,us,rfl,by lia,xV⟩)⟩
      refine⟨_,rfl,trivial,_,rfl,trivial,fK,trivial,by rw[Q3,Sd];lia,⟨_,rfl⟩,us++[[0+(i:Int),0+(i:Int)+1+(j:Int)]],by rw[iT];rfl,by simp;lia,xV.app (bo.one (by lia) (by lia) (by lia))⟩
     ·rintro β o ⟨⟨x0,rfl⟩,us,rfl,hlen,xV⟩;rw[cz]at hlen;refine⟨trivial,_,us.map kD,rfl,dQ us,rfl,by rw[Q3,Q3,Sd];lia,?_⟩
      exact⟨fs++us,_,_,_,_,by rw[RS];rfl,ht.app xV,by simp;lia⟩
    ·rintro β ⟨fs,y4,y5,y6,y7,rfl,ht,hl⟩;rw[cz]at hl;exact⟨fs,⟨_,_,_,_,_,_,rfl⟩,ht,by lia,λh=>by lia⟩
   ·rintro β ⟨fs,⟨x4,x5,x6,x7,x8,x9,rfl⟩,ht,hl,hz⟩;refine⟨λβ=>∃fs:List (List Int),T9 n way (.own (.lst (fs.map kD))) β/\bo n fs/\fs.length<1000,?_,?_⟩
    ·refine⟨_,rfl,trivial,_,b5 _ _,_,rfl,oS (λw4=>?_) (λw4=>⟨fs,⟨_,_,_,_,_,_,rfl⟩,ht,by lia⟩)⟩
     have:=hz w4;refine⟨_,rfl,trivial,rfl,_,rfl,trivial,rfl,trivial,n,rfl,by lia,by lia,λts tl tt=>?_⟩
     have ea:E5 (.lst (fs.map kD)) (.lst (ts.map kD))=some (.lst ((fs++ts).map kD)):=by
      rw[RS];exact if_pos (by rw[Q3,Q3,Sd];lia)
     exact⟨_,ea,.inl ⟨dQ _,trivial,fs++ts,⟨_,_,_,_,_,_,rfl⟩,ht.app tt,by simp;lia⟩⟩
    ·rintro β ⟨fs,⟨x4,x5,x6,x7,x8,x9,rfl⟩,ht,hl⟩;obtain⟨ts,e,mT⟩:=yB ht;refine⟨_,rfl,trivial,_,wu ht.ne hl,.inr ⟨trivial,_,qv ht.ne hl,.inl ⟨dQ _,300,rfl,_,rfl,?_⟩⟩⟩;rw[e];exact .inl ⟨dQ _,trivial,rfl,q _ mT⟩
theorem ju:aL ["hand","many"] ["hand"] (au fx):=⟨rfl,rfl,rfl,by decide +kernel,rfl,by decide +kernel,by decide +kernel⟩
theorem DO {Ju Bk} (dR:D3 K mg Ju Bk) {EW rB} (dT:D1 K mg EW rB) {Co o_} (dA:D0 K mg Co o_) {Fx uU} (dI:D2 K mg Fx uU) (B:Bs mg):aM P w K mg base bW 4 Ju Bk ["hand"] (gS P w gz true yu):=by
 have GT:aM P w K mg base bW 1 _ _ _ (gS P w gz true bI):=mw (iX dT.F);have GI:aM P w K mg base bW 3 _ _ _ (gS P w gz true pk):=Av dI dT dA B;refine DR dR.F ju (λds R HN=> by obtain⟨e,_⟩ := HN;subst e;rfl) λb7 A outer s H E IO hr=>⟨_,(aj (aW (i:=1) (bc (ih:=0) bI.mono GT (hr.mono (by decide)) dT.m dT.F.kp dT.b (aa (bb ai b9 (a_ (aa ah (aa ah (aa ah (aa ah af))))) (bc (ih:=0) bI.mono GT (hr.mono (by decide)) dT.m dT.F.kp dT.b (aa ah af))) af)) ju.nd)
    (aj (cf (aS ai (b8.m mI) (ae (i:=1)) ah) (ar (bq (aQ (aa (ae (i:=1)) (aa (a_ af) af))))) a9)
    (ar (bq (aQ (aa (ae (i:=1)) (aa (bc (ih:=0) pk.mono GI (hr.mono (by decide)) dI.m dI.F.kp dI.b (aa (ae (i:=1)) af)) af))))))),λds R h=>?_⟩
 obtain⟨rfl,q⟩:=h;refine⟨rfl,trivial,trivial,trivial,trivial,(by show 4<=Ri;decide),trivial,rfl,trivial,rfl,trivial,4,rfl,by lia,by lia,λr r0 r1=>pick r0 (by simpa using r1) λd hd=>?_⟩
 obtain⟨m,rfl,m0,m1⟩:∃m:Int,d=.int m/\0<m/\m<=41:=by
  simp only[Ra,Tx,or_false]at hd;rcases hd with rfl|rfl|rfl|rfl
  ·exact⟨7,rfl,by lia,by lia⟩
  ·exact⟨7,rfl,by lia,by lia⟩
  ·exact⟨11,rfl,by lia,by lia⟩
  ·exact⟨41,rfl,by lia,by lia⟩
 refine⟨trivial,rfl,trivial,m,rfl,m0,by lia,λn j0 j1=>?_⟩
 refine⟨_,rfl,trivial,_,rfl,_,rfl,oS (λh=>?_) (λh=>?_)⟩
 ·exact⟨_,rfl,trivial,Rr _,trivial,fK,trivial,rfl,q n [] j0 (by lia) ⟨by simp,bo.nil,List.Pairwise.nil,Sf⟩⟩
 ·exact⟨_,rfl,trivial,rfl,_,rfl,trivial,rfl,trivial,n,rfl,by lia,by lia,λts mT=>⟨trivial,fK,trivial,rfl,q n ts j0 (by lia) mT⟩⟩
end
end kJ
namespace L2.Q
open PySem PySem.Spec PySem.SeqAt PyProof.Rows
theorem u5 (ns:List Int)(lo hi:Option Int):∃ms:List Int,pK (ns.map V.int) lo hi=ms.map V.int/\ms.length<=ns.length:=by
 refine⟨(ns.drop (HT.jw (ns.map V.int).length 0 lo)).take (HT.jw (ns.map V.int).length (ns.map V.int).length hi-HT.jw (ns.map V.int).length 0 lo),?_,?_⟩
 ·unfold pK;rw[Vn,List.map_drop]
 ·rw[RL,UO];lia
section
variable {P:Q6}{w:Rl}
theorem bQ {W:Addr->Prop}{H:Hp}:∀ns:List Int,ag P w W H (ns.map D.int) (ns.map V.int)
 |[]=>rfl
 |n::ns=>⟨_,_,rfl,rfl,bQ ns⟩
theorem zK {N:List Str}{vs:List V}{H H':Hp}{n:Nat}{ro:Bool}{U:Addr->Prop}(hl:(L2.start N vs).length=n)(sm:az H H'):bA P w ⟨H,λ_=>False,ro,U⟩ (L2.start N vs) H' (Tt n none) (λ_=>[]) :=
 ⟨by rw[hl,List.length_replicate],λi y d h=>(fb h).elim,λi d h=>(fb h).elim,λi ok h=>(fb h).elim,λi a h=>(nomatch h),λi j a h=>(nomatch h),λi=>Sf,sm.kp,λa z e=>z (sm.free e),λi y d h=>(fb h).elim⟩
theorem F1 {ro:Bool}{H H':Hp}{b:Bool}{v:V}(h:nr P w ro H H' (.bl b) v):v=.bl b:=by
 cases ro with
 |true=>obtain⟨A,h1,_⟩:=h;exact h1.1
 |false=>exact h
end
end L2.Q
namespace L2
open PySem PySem.Spec PySem.SeqAt PyProof.Rows
abbrev Dr (n:Int)(rows:List (List Int)):D:=.tup [.int n,.lst (rows.map kD)]
theorem tX (n:Int)(rows:List (List Int)):(Dr n rows).pd.canLay0=true/\(Dr n rows).pd.depth<=4:=ly λd hd=>by
 rcases Ra.mp hd with rfl|hd
 ·exact⟨(bP n).1,R6 (bP n).2 (by decide)⟩
 ·rw[Rk.mp hd];exact qA rows
section
variable {κ:Type}[DecidableEq κ]
def eS (kvs:List (κ×V))(k:κ):Option V:=(kvs.find? λkv=>decide (kv.1=k)).map (·.2)
def putK (kvs:List (κ×V))(k:κ)(v:V):List (κ×V) :=
 if (kvs.any λkv=>decide (kv.1=k))=true then kvs.map (λkv=>if kv.1=k then (kv.1,v) else kv) else kvs++[(k,v)]
theorem i_ {p:κ×V}{r:List (κ×V)}{k:κ}(e:p.1=k):eS (p::r) k=some p.2:=by simp[eS,SD,e]
theorem je {p:κ×V}{r:List (κ×V)}{k:κ}(e:¬ p.1=k):eS (p::r) k=eS r k:=by simp[eS,SD,e]
theorem jf (k:κ):∀kvs:List (κ×V),(kvs.any λkv=>decide (kv.1=k))=(eS kvs k).isSome
 |[]=>rfl
 |p::r=>by
  rw[List.any_cons]
  by_cases e:p.1=k
  ·simp only[i_ e,decide_eq_true e,Bool.true_or,Option.isSome_some]
  ·rw[je e,decide_eq_false e,Bool.false_or];exact jf k r
theorem oM (kvs:List (κ×V))(k:κ)(v:V):(putK kvs k v).length<=kvs.length+1:=by
 unfold putK
 split
 ·rw[Q3];lia
 ·rw[RT,Rq,List.length_nil];lia
theorem wG {kvs:List (κ×V)}{k:κ}(v:V)(h:eS kvs k=none):putK kvs k v=kvs++[(k,v)]:=by
 unfold putK;rw[jf,h];exact if_neg (by decide)
theorem lh.uM {o:Option V}{u:Option QZ}(r:lh o u):o.isSome=u.isSome:=by
 cases o with
 |none=>cases u with
  |none=>rfl
  |some _=>exact(show False from r).elim
 |some _=>cases u with
  |none=>exact(show False from r).elim
  |some _=>rfl
theorem KV.val {kvs:List (κ×V)}{vs:List (κ×QZ)}(r:KV kvs vs)(k:κ):lh (eS kvs k) (Vv vs k):=by
 unfold KV at r
 induction r with
 |nil=>exact True.intro
 | @cons p q ps qs h t ih =>
  obtain⟨h1,h2⟩:=h
  by_cases e:p.1=k
  ·have e':q.1=k:=h1.symm.trans e;have b:Vv (q::qs) k=some q.2:=by simp[Vv,SD,e']
   rw[i_ e,b];exact h2
  ·have e':¬ q.1=k:=λz=>e (h1.trans z);have b:Vv (q::qs) k=Vv qs k:=by simp[Vv,SD,e']
   rw[je e,b];exact ih
end
theorem B7 {P:Q6}{w:Rl}{k:Key}{u:QZ}(r:RelV (kV k) u):(bE P w).is k u=true:=by
 cases k with
 |inl i=>obtain⟨t,e⟩:=(show ∃t,u=Value.int i t from r);subst e;exact oA P w i t
 |inr x=>obtain⟨t,e⟩:=(show ∃t,u=Value.str x t from r);subst e;exact oz P w x t
theorem lM {P:Q6}{w:Rl}:∀{ks:List Key} {us:List QZ},Vals (ks.map kV) us->ItemsAre (bE P w) ks us
 |[],_,r=>by rw[List.map_nil]at r;cases r;exact .nil
 |k::ks,_,r=>by
  rw[RN]at r;cases r with
  |cons h t=>exact .cons (B7 h) (lM t)
abbrev KT (H:Hp):List (List Key×V)->List (List Key×Addr×QZ)->Prop:=Paired λp q=>p.1=q.1/\H q.2.1=some (.tup (p.1.map kV))/\RelV p.2 q.2.2
theorem KT.val {H:Hp}{kvs:List (List Key×V)}{xs:List (List Key×Addr×QZ)}(r:KT H kvs xs)(k:List Key):lh (eS kvs k) ((VX xs k).map (·.2)):=by
 induction r with
 |nil=>exact True.intro
 | @cons p q ps qs h t ih =>
  obtain⟨h1,_,h2⟩:=h
  by_cases e:p.1=k
  ·have e':q.1=k:=h1.symm.trans e;have b:VX (q::qs) k=some q.2:=by simp[VX,SD,e']
   rw[i_ e,b];exact h2
  ·have e':¬ q.1=k:=λz=>e (h1.trans z);have b:VX (q::qs) k=VX qs k:=by simp[VX,SD,e']
   rw[je e,b];exact ih
theorem KT.J5 {H:Hp}{kvs:List (List Key×V)}{xs:List (List Key×Addr×QZ)}(r:KT H kvs xs)(k:List Key){y:V}{u:QZ}(ry:RelV y u):
  KT H (kvs.map λkv=>if kv.1=k then (kv.1,y) else kv) (xs.map (putAt k u)):=by
 induction r with
 |nil=>exact .nil
 | @cons p q ps qs h t ih =>
  rw[RN,RN];refine .cons ?_ ih;obtain⟨h1,h2,h3⟩:=h;unfold putAt
  by_cases e:p.1=k
  ·rw[if_pos e,if_pos (h1.symm.trans e)];exact⟨h1,h2,ry⟩
  ·rw[if_neg e,if_neg (λz=>e (h1.trans z))];exact⟨h1,h2,h3⟩
theorem KT.put {H:Hp}{kvs:List (List Key×V)}{xs:List (List Key×Addr×QZ)}(r:KT H kvs xs)(k:List Key){b:Addr}{y:V}{u:QZ}(hb:H b=some (.tup (k.map kV)))(ry:RelV y u):
  KT H (putK kvs k y) (storedH xs k b u):=by
 have e:(kvs.any λkv=>decide (kv.1=k))=(VX xs k).isSome:=by
  rw[jf,(r.val k).uM,Option.isSome_map]
 unfold putK storedH;rw[e]
 by_cases q:(VX xs k).isSome=true
 ·rw[if_pos q,if_pos q];exact r.J5 k ry
 ·rw[if_neg q,if_neg q];exact Paired.snoc r ⟨rfl,hb,ry⟩
theorem KT.keeps {H H':Hp}{kvs:List (List Key×V)}{xs:List (List Key×Addr×QZ)}(r:KT H kvs xs)(ht:∀b ys,H b=some (.tup ys)->H' b=some (.tup ys)):KT H' kvs xs :=
 Paired.DZ r λ_ _ z=>⟨z.1,ht _ _ z.2.1,z.2.2⟩
section
variable {P:Q6}{w:Rl}{H:Hp}{h:Heap}{a:Addr}
theorem BN {u:HO}(ok:eW P w H h)(e:Rd H a u):bH P w H h a u:=e.ok ok
theorem Cr {kvs:List (Key×V)}(ok:eW P w H h)(e:Rd H a (.dK kvs)):kvs.length<=Ri/\(a==Ua)=false/\∃vs,KV kvs vs/\h.DictOf (bE P w) a vs :=
 show bH P w H h a (.dK kvs) from BN ok e
theorem qW {ks:List Key}(ok:eW P w H h)(e:H a=some (.tup (ks.map kV))):(UJ (bE P w)).is h ks a:=by
 obtain⟨_,its,r,o,h1,h2,n,h3⟩:=(show bH P w H h a (.tup (ks.map kV)) from ok a _ e)
 exact⟨o,its.toArray,n,h1,h2,h3,by simpa using lM r⟩
theorem yz {kvs:List (List Key×V)}(ok:eW P w H h)(e:Rd H a (.dT kvs)):kvs.length<=Ri/\(a==Ua)=false /\
  ∃xs,KT H kvs xs/\h.DictOfH (UJ (bE P w)) a xs:=by
 obtain⟨z,y,xs,r,o,es,ep,h1,h2,h3,h4,h5⟩:=(show bH P w H h a (.dT kvs) from BN ok e)
 refine⟨z,y,xs,r,o,es,ep,h1,h2,h3,h4,λx hx=>?_,h5⟩;have all:∀{l:List (List Key×V)} {m:List (List Key×Addr×QZ)},KT H l m->∀x∈m,(UJ (bE P w)).is h x.1 x.2.1:=by
  intro l m q
  induction q with
  |nil=>intro x hx;exact nomatch hx
  | @cons p q ps qs hq t ih =>
   intro x hx;rcases Ra.mp hx with e|hx
   ·subst e;exact qW ok (by rw[<- hq.1];exact hq.2.1)
   ·exact ih x hx
 exact all r x hx
theorem Iv {kvs:List (List Key×V)}(ok:eW P w H h)(e:H a=some (.dT kvs)):kvs.length<=Ri/\(a==Ua)=false /\
  ∃xs,KT H kvs xs/\h.DictOfH (UJ (bE P w)) a xs:=yz ok (.inl e)
end
def vj (H:Hp)(a:Addr)(y:V)(r:Option V):Prop :=
 (∃kvs k,Rd H a (.dK kvs)/\y=kV k/\r=eS kvs k)\/∃kvs k b,Rd H a (.dT kvs)/\y=.ref b/\H b=some (.tup (k.map kV))/\r=eS kvs k
theorem vj.t {H:Hp}{a b:Addr}{kvs:List (List Key×V)}{k:List Key}(e:H a=some (.dT kvs))(eb:H b=some (.tup (k.map kV))):vj H a (.ref b) (eS kvs k):=.inr ⟨kvs,k,b,.inl e,rfl,eb,rfl⟩
section
variable {X:Cx}{pins:List (Addr×Obj)}{σ:St}{H:Hp}{s:Q1}{a:Addr}{y v:V}{u:QZ}{o:Option V}{A:R7}{E:QZ->Q1->Prop}
theorem Inv.big (I:Inv X pins σ H s):Ua<s.heap.objs.size:=by
 have h:S1<s.heap.objs.size:=(I.mod.glob.keeps I.bk).lt;exact Nat.lt_trans (by decide) h
theorem uZ {Q:QZ->Q1->Prop}(hu:A.units+1<Um)(I:Inv X pins σ H s)(g:vj H a y (some v))(ry:RelV y u)(h:∀w' s',Inv X pins σ H s'->RelV v w'->Q w' s'):
  RA (model X.prog X.w) A (getItem (.ref a) u) Q E s:=by
 rcases g with⟨kvs,k,e,ey,l⟩|⟨kvs,k,b,e,ey,eb,l⟩
 ·subst ey;obtain⟨z,hd,vs,rel,dd⟩:=Cr I.bj e;obtain⟨w',hw,zf⟩:=lh.some_of (v:=v) (o:=Vv vs k) (by rw[l];exact rel.val k)
  exact wpAny_getItem_of (B7 ry) dd.mapOf hw (h w' _ (I.tok _) zf)
 ·subst ey;cases (show u=Value.ref b from ry)
  obtain⟨z,hd,xs,rel,dd⟩:=yz I.bj e;obtain⟨w',hw,zf⟩:=lh.some_of (v:=v) (o:=(VX xs k).map (·.2)) (by rw[l];exact rel.val k)
  obtain⟨p,hp,Jj⟩:=RE.mp hw;refine wpAny_getItem_heap (tupleKind_room_in1 hu) (qW I.bj eb) dd hp ?_;rw[Jj];exact h w' _ (I.tok _) zf
theorem Bp {h':Heap}{t':Nat}{ob:HO}(I:Inv X pins σ H s)(mu:IM (H a))(hs:S3 a s.heap h')(he:∃q,h'.get? a=some q)(new:bH X.prog X.w (upd H a ob) h' a ob):
  Inv X pins σ (upd H a ob) {s with heap:=h',toks:=t'} :=
 I.write (x:=a) (e:=a) mu (.inl rfl) (λb q hb z=>(hs.2 b hb).trans z) he new
end
section
end
theorem pH {X:Cx} {pins:List (Addr×Obj)} {σ:St} {H:Hp} {s:Q1} {a:Addr} {y:V} {o:Option V} (I:Inv X pins σ H s) (g:vj H a y o):s.TypeIs (.ref a) "dict" := by
 rcases g with⟨kvs,k,e,_,_⟩|⟨kvs,k,b,e,_,_,_⟩
 ·obtain⟨_,_,vs,_,dd⟩:=Cr I.bj e;exact dd.typeIs
 ·obtain⟨_,_,xs,_,dd⟩:=yz I.bj e;exact dd.typeIs
section
end
theorem yA {P:Q6}{w:Rl}{H:Hp}(h:Heap)(hb:Ua<h.objs.size):bH P w H (h.push {cls:=.type "dict",data:=.dict #[]}) h.objs.size (.dT []) :=
 ⟨Rr _,beq_eq_false_iff_ne.mpr (Ud (RQ hb)),[],.nil,_,#[],0,RV _ rfl,⟨rfl,rfl,rfl⟩,rfl,rfl,Sf⟩
section
end
section
end
section
end
section
end
section
end
section
end
section
variable {κ:Type}[DecidableEq κ]
end
end L2
namespace L2.Q
open PySem PySem.Spec PySem.SeqAt PyProof.Rows
theorem _root_.L2.cb.vP {k:Nat}{A:R7}(r:cb k A):A.units+1<Um:=by have:=r.un;lia
def iK (t:List Int):List Key:=t.map Vh
theorem Ep {t u:List Int}(h:iK t=iK u):t=u:=by
 unfold iK at h
 induction t generalizing u with
 |nil=>cases u with|nil=>rfl|cons _ _=>cases h
 |cons a t ih =>
  cases u with
  |nil=>cases h
  |cons b u =>
   rw[RN,RN]at h;injection h with h1 h2
   injection h1 with h1
   rw[h1,ih h2]
theorem Ca (t:List Int):(iK t).map kV=t.map V.int:=by
 unfold iK;rw[SU];rfl
section
end
section
end
end L2.Q
namespace L2
open PySem PySem.Spec PySem.SeqAt PyProof.Rows
def D.int?:D->Option Int
 |.int i=>some i
 |_=>none
def D.AO:D->Option (List D)
 |.lst ds=>some ds
 |_=>none
theorem D.AY {d:D}{i:Int}(h:d.int?=some i):d=.int i:=by
 cases d <;> first|(cases h;rfl)|cases h
theorem D.mO {d:D}{ds:List D}(h:d.AO=some ds):d=.lst ds:=by
 cases d <;> first|(cases h;rfl)|cases h
def iI:List D->Option (List Int)
 |[]=>some []
 |d::ds=>d.int?.bind λi=>(iI ds).map (i::·)
theorem ki:∀{ds:List D} {ns:List Int},iI ds=some ns->ds=ns.map D.int
 |[],_,h=>by cases h;rfl
 |d::ds,ns,h=>by
  obtain⟨i,h1,h2⟩:=RW.mp h;obtain⟨ms,h3,rfl⟩:=RE.mp h2;rw[D.AY h1,ki h3];rfl
theorem ib:∀ns:List Int,iI (ns.map D.int)=some ns
 |[]=>rfl
 |n::ns=>by
  show (some n).bind (λi=>(iI (ns.map D.int)).map (i::·))=_;rw[ib ns];rfl
def i4 (f:List Int->Option Int):List D->Option D
 |[d]=>d.AO.bind λds=>(iI ds).bind λns=>(f ns).map D.int
 |_=>none
theorem rJ {f:List Int->Option Int}{ds:List D}{d:D}(h:i4 f ds=some d):∃ns i,ds=[.lst (ns.map D.int)]/\f ns=some i/\d=.int i:=by
 cases ds with
 |nil=>cases h
 |cons x r =>
  cases r with
  |cons _ _=>cases h
  |nil =>
   obtain⟨es,h1,h2⟩:=RW.mp h;obtain⟨ns,h3,h4⟩:=RW.mp h2;obtain⟨i,h5,rfl⟩:=RE.mp h4;exact⟨ns,i,by rw[D.mO h1,ki h3],h5,rfl⟩
theorem rH {f:List Int->Option Int}{ns:List Int}{i:Int}(h:f ns=some i):i4 f [.lst (ns.map D.int)]=some (.int i):=by
 show (some (ns.map D.int)).bind (λds=>(iI ds).bind λns=>(f ns).map D.int)=_;rw[Uc,ib,Uc,h];rfl
def oH:List Int->Option Int
 |[]=>none
 |n::ns=>some (ns.foldl max n)
theorem bZ:∀(ns:List Int) (n:Int),(ns.foldl max n∈n::ns)/\∀x∈n::ns,x<=ns.foldl max n
 |[],n=>⟨by simp,λx hx=>by simp at hx;rw[hx];exact Int.le_refl _⟩
 |m::ns,n=>by
  obtain⟨h1,h2⟩:=bZ ns (max n m);have hm:max n m<=ns.foldl max (max n m):=h2 _ (by simp)
  refine⟨?_,λx hx=>?_⟩
  ·rw[U1];rcases Ra.mp h1 with h|h
   ·rw[h]
    by_cases q:n<=m
    ·rw[show max n m=m by lia];simp
    ·rw[show max n m=n by lia];simp
   ·simp[h]
  ·rw[U1];rcases Ra.mp hx with rfl|hx
   ·lia
   ·rcases Ra.mp hx with rfl|hx
    ·lia
    ·exact h2 x (by simp[hx])
section
variable {X:Cx}
theorem i9:∀{ns:List Int} {us:List QZ},Vals (ns.map V.int) us->∃xs:Array (Int×Tok),us.toArray=intItems xs/\xs.toList.map (·.1)=ns
 |[],_,h=>by cases h;exact⟨#[],by simp[intItems],rfl⟩
 |n::ns,_,h=>by
  cases h with
  |cons h1 h2 =>
   obtain⟨t,rfl⟩:=h1;obtain⟨xs,e1,e2⟩:=i9 h2;refine⟨⟨(n,t)::xs.toList⟩,?_,by simp[e2]⟩
   have:=congrArg Array.toList e1;simp[intItems]at this ⊢
   exact this
theorem gY {xs:Array (Int×Tok)}{ns:List Int}(e:xs.toList.map (·.1)=ns)(i:Nat):numAt xs i=ns.getD i 0:=by
 subst e;unfold numAt;rw[SX,Rn,Rm]
theorem BE {xs:Array (Int×Tok)}{ns:List Int}(e:xs.toList.map (·.1)=ns){i:Nat}{v:QZ}(h:(intItems xs)[i]?=some v):RelV (.int (ns.getD i 0)) v:=by
 obtain⟨t,rfl⟩:=intItems_at h;exact⟨t,by rw[gY e]⟩
theorem ints_size {xs:Array (Int×Tok)}{ns:List Int}(e:xs.toList.map (·.1)=ns):xs.size=ns.length:=by rw[<- e];simp
theorem vd (hc:X.calm=true):dC X (.builtin "max") (i4 oH):=by
 intro pins s σ H xs us Q I r h;obtain⟨W,ds,d,hd,r1,e,q⟩:=h;obtain⟨ns,i,rfl,e1,rfl⟩:=rJ e;obtain⟨x,rfl,p,vs,rfl,h1,n1,q1⟩:=kq r1;obtain⟨u,rfl,ru⟩:=vals1 r;cases ru;rw[bQ q1]at h1;obtain⟨its,r2,ht,hz⟩:=I.list (dg.of h1);obtain⟨ys,P6,e2⟩:=i9 r2;have hs:=ints_size e2;cases ns with
 |nil=>cases e1
 |cons n ns =>
  rw[Rq]at hs;refine max_intList (I.ok.hd hc) (xs:=ys) (by rw[<- P6];exact ht.isList) (by lia) λv h' tk hv k=>⟨.int i,H,I.kept k,?_,q _ _ (az.refl _) rfl⟩
  have hr:=BE e2 hv;obtain⟨g1,g2⟩:=argBest_gt (numAt ys) (ys.size-1);generalize argBest (λi j=>decide (numAt ys i>numAt ys j)) (ys.size-1)=b at *
  have hb:b<(n::ns).length:=by rw[Rq];lia
  have:(n::ns).getD b 0=i:=by
   cases e1;obtain⟨f1,f2⟩:=bZ ns n;have hle:∀x∈n::ns,x<=(n::ns).getD b 0:=λx hx=>by
    obtain⟨j,hj,rfl⟩:=List.getElem_of_mem hx;have:=g2 j (by rw[Rq]at hj;lia)
    rw[gY e2,gY e2]at this;rw[SX,Rf hj]at this;exact this
   have kT:(n::ns).getD b 0∈n::ns:=by
    rw[SX,Rf hb];exact Tz hb
   have:=hle _ f1;have:=f2 _ kT;lia
  rw[<- this];exact hr
end
end L2
namespace L2.Q
open PySem PySem.Spec PySem.SeqAt PyProof.Rows
def dA (kvs:List (List Int×D)):D:=.dT (kvs.map λp=>iK p.1) (kvs.map (·.2))
def iL (kvs:List (List Int×D))(t:List Int):Option D:=(kvs.find? λp=>decide (p.1=t)).map (·.2)
def _root_.L2.D.G3:D->Option (List (List Key)×List D)
 |.dT ks ds=>some (ks,ds)
 |_=>none
theorem AX {d:D}{ks:List (List Key)}{ds:List D}(h:d.G3=some (ks,ds)):d=.dT ks ds:=by
 cases d <;> first|(cases h;rfl)|cases h
def ql (ks:List (List Key))(ds:List D)(k:List Key):Option D:=((ks.zip ds).find? λp=>decide (p.1=k)).map (·.2)
theorem AV {d:D}{es:List D}(h:d.G2=some es):d=.tup es:=by
 cases d <;> first|(cases h;rfl)|cases h
def Bu (a b:D):Option ((List (List Key)×List D)×List Int):=a.G3.bind λp=>b.G2.bind λes=>(iI es).map λt=>(p,t)
theorem Bt {a b:D}{ks:List (List Key)}{ds:List D}{t:List Int}(h:Bu a b=some ((ks,ds),t)):a=.dT ks ds/\b=.tup (t.map D.int):=by
 obtain⟨p,h1,h2⟩:=RW.mp h;obtain⟨es,h3,h4⟩:=RW.mp h2;obtain⟨t',h5,h6⟩:=RE.mp h4;cases h6;exact⟨AX h1,by rw[AV h3,ki h5]⟩
theorem Br {kvs:List (List Int×D)}{t:List Int}:Bu (dA kvs) (.tup (t.map D.int))=some ((kvs.map λp=>iK p.1,kvs.map (·.2)),t):=by
 show (some _).bind (λp=>(some (t.map D.int)).bind λes=>(iI es).map λt=>(p,t))=_;rw[Uc,Uc,ib];rfl
theorem qk {t:List Int}:∀{kvs:List (List Int×D)},ql (kvs.map λp=>iK p.1) (kvs.map (·.2)) (iK t)=iL kvs t
 |[]=>rfl
 |p::kvs=>by
  have ih:=qk (t:=t) (kvs:=kvs);unfold ql iL at *
  rw[RN,RN,Us,SD,SD]
  by_cases h:p.1=t
  ·rw[decide_eq_true (congrArg iK h),decide_eq_true h];rfl
  ·rw[decide_eq_false (λz=>h (Ep z)),decide_eq_false h];exact ih
def tF (a b:D):Option D:=(Bu a b).bind λz=>ql z.1.1 z.1.2 (iK z.2)
theorem Bw {kvs:List (List Int×D)}{t:List Int}:tF (dA kvs) (.tup (t.map D.int))=iL kvs t:=by
 unfold tF;rw[Br,Uc];exact qk
section
variable {P:Q6}{w:Rl}{W:Addr->Prop}{H:Hp}
theorem mH {k:List Key}:∀{ks:List (List Key)} {ds:List D} {vs:List V},ks.length=vs.length->ag P w W H ds vs->(eS (ks.zip vs) k).isSome=(ql ks ds k).isSome/\∀d,ql ks ds k=some d->∃v,eS (ks.zip vs) k=some v/\aw P w W H d v
 |[],ds,vs,_,_=>by
  unfold eS ql;rw[VC,VC];exact⟨rfl,λd h=>by cases h⟩
 |k'::ks,[],_,l,h=>by rw[show _=([]:List V) from h]at l;cases l
 |k'::ks,d::ds,_,l,⟨v,r,e,h1,h2⟩=>by
  subst e;obtain⟨i1,i2⟩:=mH (k:=k) (ks:=ks) (UR l) h2;unfold eS ql at *
  rw[Us,Us,SD,SD]
  by_cases hk:k'=k
  ·rw[decide_eq_true hk];exact⟨rfl,λd' e=>by cases e;exact⟨v,rfl,h1⟩⟩
  ·rw[decide_eq_false hk];exact⟨i1,i2⟩
end
section
variable {X:Cx}
theorem El {W:Addr->Prop}{H:Hp}{a b:D}{x y:V}{ks:List (List Key)}{ds:List D}{t:List Int}(h:Bu a b=some ((ks,ds),t))(r1:Rp X W H a x)(r2:Rp X W H b y):∃p vs,x=.ref p/\vj H p y (eS (ks.zip vs) (iK t))/\ks.length=vs.length/\ag X.prog X.w W H ds vs:=by
 obtain⟨rfl,rfl⟩:=Bt h;obtain⟨p,vs,rfl,e1,l,n,rs⟩:=r1;obtain⟨q,us,rfl,e2,rt⟩:=r2;rw[L2.bQ rt]at e2;exact⟨p,vs,rfl,vj.t e1 (by rw[Ca];exact e2),l,rs⟩
theorem GW (hu:X.A.units+1<Um):CM X (uc X tF NF):=by
 intro value slice pins s σ H x y v u Q I rx ry h hs;obtain⟨W,d1,d2,d,hd,r1,r2,e,q⟩:=h;obtain⟨⟨⟨ks,ds⟩,t⟩,h1,h2⟩:=RW.mp e;obtain⟨p,vs,rfl,g,l,rs⟩:=El h1 r1 r2;obtain⟨w',hw,zf⟩:=(mH l rs).2 d h2;rw[hw]at g;cases (show v=Value.ref p from rx)
 exact tail_any (pH I g) PySem.F.slot_dict_getitem.lookup (uZ hu I g ry λu' s' I' r'=>⟨w',H,I',r',q w' H (az.refl _) zf λf=>aw.flat f zf⟩) hs
end
theorem DJ {P:Q6}{w:Rl}{H:Hp}{kvs:List (List Int×D)}{a:Addr}{vs:List V}{A:List Addr}(h:H a=some (.dT ((kvs.map λp=>iK p.1).zip vs)))(o:aH P w H (kvs.map (·.2)) vs A):Own P w H (dA kvs) (.ref a) (a::A) :=
 ⟨a,vs,A,rfl,h,by rw[Q3,o.length,Q3],rfl,o⟩
theorem C3 {P:Q6}{w:Rl}{H:Hp}{kvs:List (List Int×D)}{vs:List V}{A:List Addr}{t:List Int}(o:aH P w H (kvs.map (·.2)) vs A)(h:iL kvs t=none):eS ((kvs.map λp=>iK p.1).zip vs) (iK t)=none:=by
 have:=(mH (k:=iK t) (ks:=kvs.map λp=>iK p.1) (W:=λ_=>False) (by rw[Q3,o.length,Q3]) (o.rep λc _ z=>z)).1
 rw[qk,h]at this;exact V3.mp (by rw[<- Option.not_isSome,this];rfl)
section
end
end L2.Q
namespace L2
open PySem PySem.Spec PySem.SeqAt PyProof.Rows
def JD (lo:Int)(n:Nat):It:=⟨λi _=>i<n,λi H x H'=>H'=H/\x=.int (lo-i),λi _=>n<=i⟩
theorem nE {P:Q6}{w:Rl}{K:PySem.W.Frag}{tg:Expr}(it:Addr)(lo:Int)(n:Nat):Turn P w K tg (JD lo n) [it] it (λi h=>VQ h it (lo+(i:Nat)*(-1)) ((n:Int)-(i:Nat)) (-1)) where
 mem:=by simp
 obj:=λi h st b hb=>by
  have e:b=it:=by simpa using hb
  subst e;exact⟨_,st,λv z=>by
   have z':Data.fields _=Data.cell v:=z;cases z'⟩
 keep:=λi h h' st k=>k it (by simp) _ st
 item:=by
  intro X hP hw hK hc i pins s σ H E I hf st hg;subst hP hw hK;obtain⟨f0,f1,f2,f3,f4,f5⟩:=hf it (by simp)
  have W:=Walks.range (prog:=X.prog) (w:=X.w) (I.ok.hd hc) it lo (-1) n;refine W.item i s _ _ hg st λv h' tk hv aA kk=>?_;obtain⟨t,rfl⟩:=hv;have I1:Inv X pins σ H {s with heap:=h',toks:=tk}:=I.turned (λb o hb e=>kk b o (by simpa using hb) e) f0 f1 f3 f4 f5
  refine⟨_,rfl,ym (s:={s with heap:=h',toks:=tk}) (n:="range_iterator") aA rfl rfl (by decide) ⟨.int (lo-i),H,I1,⟨t,?_⟩,⟨rfl,rfl⟩,aA,λb hb=>(hf b hb).1⟩⟩
  rw[Int.mul_neg,Int.mul_one];rfl
 done:=by
  intro X hP hw hK hc i pins s σ H E I hf st hg;subst hP hw hK;obtain⟨f0,f1,f2,f3,f4,f5⟩:=hf it (by simp)
  exact wpAny_pyNext_range_end (I.ok.hd hc) st (by have:n<=i:=hg;lia) λh' eb=>⟨rfl,I.turned (t':=s.toks) (λb o hb e=>eb b o hb e) f0 f1 f3 f4 f5⟩
 self:=λ_ _ _ _ _ st h=>wpAny_pyIter_rangeiter st h
theorem fN (a b:Int):TX a b (-1)=if b<a then a-b else 0:=by
 unfold TX;rw[if_neg (by decide)]
 by_cases h:b<a
 ·rw[if_pos h,if_pos h,show -(-1:Int)=1 by decide,Int.ediv_one];lia
 ·rw[if_neg h,if_neg h]
theorem tY {a b:Int}(ha:-(2 ^ 62)<=a)(Js:a<2 ^ 62)(hb:-(2 ^ 62)<=b)(p_:b<2 ^ 62):Builtin.Range.small a b (-1)=true:=by
 unfold Builtin.Range.small;rw[fN];simp only[Builtin.Range.rangeFitsLong,RZ,Bool.or_eq_true,decide_eq_true_eq,beq_iff_eq,show ¬ ((-1:Int)>0) by decide,if_false]
 split <;> lia
section
variable {X:Cx}{tg:Expr}
theorem ub {pins:List (Addr×Obj)}{σ:St}{H:Hp}{s:Q1}{R:It->Hp->Prop}{E:QZ->Q1->Prop}{lo hi:Int}{t u v:Tok}{tk:Nat}(I:Inv X pins σ H s)(h1:-(2 ^ 62)<=lo)(h2:lo<2 ^ 62)(h3:-(2 ^ 62)<=hi)(h4:hi<2 ^ 62)
  (q:R (JD lo (lo-hi).toNat) H):RA (model X.prog X.w) X.A (Vp (.ref s.heap.objs.size)) (JA X pins σ tg R) E {s with heap:=s.heap.push {cls:=.type "range",data:=.fields #[.int lo t,.int hi u,.int (-1) v]},toks:=tk}:=by
 refine wpAny_pyIter_range (IsRange.new ..) (tY h1 h2 h3 h4) ?_;have I1:Inv X pins σ H {s with heap:=s.heap.push {cls:=.type "range",data:=.fields #[.int lo t,.int hi u,.int (-1) v]},toks:=tk}:=I.kept λb o e=>Q8 _ e
 refine⟨(s.heap.push {cls:=.type "range",data:=.fields #[.int lo t,.int hi u,.int (-1) v]}).objs.size,[(s.heap.push {cls:=.type "range",data:=.fields #[.int lo t,.int hi u,.int (-1) v]}).objs.size],_,_,H,rfl,
  I1.kept (t':=tk) λb o e=>Q8 _ e,nE _ lo (lo-hi).toNat,?_,λb hb=>?_,q⟩
 ·have e1:lo+((0:Nat):Int)*(-1)=lo:=by simp
  have e2:(((lo-hi).toNat:Nat):Int)-((0:Nat):Int)=TX lo hi (-1):=by rw[fN];split <;> lia
  show VQ _ _ (lo+((0:Nat):Int)*(-1)) ((((lo-hi).toNat:Nat):Int)-((0:Nat):Int)) (-1);rw[e1,e2];exact RV _ rfl
 ·have e:b=(s.heap.push {cls:=.type "range",data:=.fields #[.int lo t,.int hi u,.int (-1) v]}).objs.size:=by simpa using hb
  subst e;exact I1.Bj (Q4 _) (I1.bj.fresh (Q4 _))
def G5 (ta:TA):TI:=λσ H R=>ta σ H λvs H1=>∃i j:Int,vs=[.int i,.int j,.int (-1)]/\(-(2 ^ 62)<=i/\i<2 ^ 62/\-(2 ^ 62)<=j/\j<2 ^ 62)/\R (JD i (i-j).toNat) H1
theorem uj {a b c:Expr} {ta:TA} {p pos:Pos} (hg:Gl X "range") (hm:X.mg "range" = none) (ha:PA X [a,b,c] ta) (hs:Rc [a,b,c] X.env=[(false,eval a X.env),(false,eval b X.env),(false,eval c X.env)]:=by rfl) (uQ:Rc [b,c] X.env=[(false,eval b X.env),(false,eval c X.env)]:=by rfl) :
  PI X tg (.Call (.Name "range" p) [a,b,c] [] pos) (G5 ta):=by
 intro pins s σ H R I h;refine Call_ (g_ I hg hm boot_range (Th (br (ha pos pins s σ H _ I h) λus s1 ⟨vs,H1,I1,r1,q1⟩=>?_) (by rw[hs,uQ]) (by rw[uQ];rfl)))
 obtain⟨i,j,e,⟨q1,q2,q3,q4⟩,q⟩:=q1;subst e;cases r1 with
 |cons r rr =>
  cases rr with
  |cons r' rr =>
   cases rr with
   |cons MR rr =>
    cases rr;obtain⟨t,rfl⟩:=r;obtain⟨t',rfl⟩:=r';obtain⟨QC,rfl⟩:=MR;exact call_range_3 (by decide) (ub I1 q1 q2 q3 q4 q) (.inl (PyProof.noPylong_of_log2 (by decide +kernel)))
def t_ (hi:Int)(n:Nat):List D:=(Rz n).map λ(k:Nat)=>D.int (hi-(k:Int))
theorem nV {hi:Int}{n i:Nat}{d:D}(h:(t_ hi n)[i]?=some d):i<n/\d=.int (hi-i):=by
 unfold t_ at h;rw[Rn]at h
 by_cases hi:i<n
 ·rw[SO hi]at h;cases h;exact⟨hi,rfl⟩
 ·rw[Sz (by simpa using hi)]at h;cases h
theorem nU {hi:Int}{n:Nat}:(t_ hi n).length=n:=by unfold t_;simp
theorem qY {W:Addr->Prop}{H:Hp}{lo:Int}{n:Nat}:zw X W (JD lo n) (t_ lo n) H:=λ_ _ i H' k=>by
 constructor
 ·intro d hd;obtain⟨hi,rfl⟩:=nV hd;refine⟨hi,λx H1 y=>?_⟩;obtain⟨rfl,rfl⟩:=y;exact⟨az.refl _,rfl⟩
 ·intro hl;rw[nU]at hl;exact hl
end
end L2
namespace L2.Q
open PySem PySem.Spec PySem.SeqAt PyProof.Rows
section
variable {X:Cx}{C:Cfg}{tg a b c:Expr}{φs:bS}{p:Bool}{pp pos:Pos}
def AZ (φs:bS):cF:=λβ R=>φs β λds _ β'=>∃i j:Int,ds=[.int i,.int j,.int (-1)]/\(-(2 ^ 62)<=i/\i<2 ^ 62/\-(2 ^ 62)<=j/\j<2 ^ 62)/\R (t_ i (i-j).toNat) .dU β'
theorem IH {W:Addr->Prop}{H:Hp}{a b c:D}{xs:List V}(h:qc X W H [a,b,c] xs):∃x y z,xs=[x,y,z]/\Rp X W H a x/\Rp X W H b y/\Rp X W H c z:=by
 obtain⟨x,r,rfl,hx,y,r',rfl,hy,z,MR,rfl,hz,hr⟩:=h;cases hr;exact⟨x,y,z,rfl,hx,hy,hz⟩
theorem qK (hm:X.mg "range" = none) (ha:pU X C p [a,b,c] φs) (hg:Gl X "range" := by rfl) (hs:Rc [a,b,c] X.env=[(false,eval a X.env),(false,eval b X.env),(false,eval c X.env)]:=by rfl) (uQ:Rc [b,c] X.env=[(false,eval b X.env),(false,eval c X.env)]:=by rfl) :
  y_ X C p tg (.Call (.Name "range" pp) [a,b,c] [] pos) (AZ φs) :=
 ⟨λβ R R' k q=>ha.mono β _ _ (λd kd β' h=>by obtain⟨i,j,e,h1,q⟩:=h;exact⟨i,j,e,h1,k _ _ _ q⟩) q,(uj hg hm ha.pa hs uQ).pre λσ H R h=>by
  obtain⟨β,own,s,q⟩:=h;refine qp.of ha s q λds ks β' vs H1 aB h o1 r1=>?_;obtain⟨i,j,e,h1,q1⟩:=h;subst e;obtain⟨x,y,z,rfl,hx,hy,hz⟩:=IH r1.gT;cases hx;cases hy;cases hz;exact⟨i,j,rfl,h1,q1 _ _ aB o1 qY⟩⟩
end
structure NU (X:Cx)(C:Cfg)(tg iter:Expr)(ι:cF):Prop where
 mono:∀β R R',(∀d k β,R d k β->R' d k β)->ι β R->ι β R'
 pi:PI X tg iter λσ H R=>∃β own,SQ X C σ H β own/\ι β λds k β'=>∀J H',az H H'->SQ X C σ H' β' own->zw X (eV C (Wn own) k) J ds H'->R J H'
section
variable {X:Cx}{C:Cfg}{tg a b:Expr}{φs:bS}{pp pos:Pos}{i:Nat}{x:Str}
theorem qJ (hm:X.mg "range" = none) (ha:pU X C true [a,b] φs) (hg:Gl X "range" := by rfl) (hs:Rc [a,b] X.env=[(false,eval a X.env),(false,eval b X.env)]:=by rfl) (uQ:Rc [b] X.env=[(false,eval b X.env)]:=by rfl) :
  NU X C tg (.Call (.Name "range" pp) [a,b] [] pos) (s9 φs) :=
 ⟨λβ R R' k q=>ha.mono β _ _ (λd kd β' h=>by obtain⟨i,j,e,h1,q⟩:=h;exact⟨i,j,e,h1,k _ _ _ q⟩) q,(lC hg hm ha.pa hs uQ).pre λσ H R h=>by
  obtain⟨β,own,s,q⟩:=h;refine qp.of ha s q λds ks β' vs H1 aB h o1 r1=>?_;obtain⟨i,j,e,h1,q1⟩:=h;subst e;obtain⟨s1,rfl⟩:=o1.pu rfl;obtain⟨x,y,rfl,hx,hy⟩:=tK r1.gT;cases hx;cases hy;exact⟨i,j,rfl,h1,q1 _ _ s1 o1.sq hV⟩⟩
end
structure SC (X:Cx)(C:Cfg)(W0:Addr->Prop)(T:List Nat)(σ0:St)(H1:Hp)(a:Addr)(Hb:Hp)(Wb:Addr->Prop)(Ac:Hp->Prop)(β:aX)(σ':St)(H':Hp)(own:Nat->List Addr):Prop where
 sq:SQ X (C.u λc=>c=a) σ' H' β own
 sn:Sn (H1,W0) H' (Wn own)
 le:∀c,Wn own c->Wb c
 ac:Ac H'
 pu:az H1 H'
 bs:∀b ob,b≠a->Hb b=some ob->H' b=some ob
 st:∀j,j∉T->σ'[j]?=σ0[j]?
abbrev pS {α:Type}(X:Cx)(C:Cfg)(W0:Addr->Prop)(T:List Nat)(σ0:St)(H1:Hp)(a:Addr)(Hb:Hp)(Wb:Addr->Prop)(Ac:α->Hp->Prop)(β:aX)(o:α)(σ':St)(H':Hp):Prop:=∃own,SC X C W0 T σ0 H1 a Hb Wb (Ac o) β σ' H' own
structure vn {α:Type}(a:Addr)(Ac:α->Hp->Prop):Prop where
 same:∀o H H',az H H'->Ac o H->Ac o H'
 Gu:∀o H xs,Ac o H->H a≠some (.tup xs)
abbrev Fn (X:Cx)(C:Cfg)(a:Addr)(T:List Nat)(γ:dj):TG:=λv σ H Q=>∃own β d k,SQ X (C.u λc=>c=a) σ H β own/\Rp X (eV (C.u λc=>c=a) (Wn own) k) H d v/\γ d k β λβ'=>∀σ' aK,SQ X (C.u λc=>c=a) σ' H β' aK->(∀a,Wn aK a->Wn own a)->(∀j,j∉T->σ'[j]?=σ[j]?)->Q σ' H
abbrev MD (X:Cx)(C:Cfg)(a:Addr)(φ:aN):ku:=λN σ H=>tQ X (C.u λc=>c=a) true φ σ H λv H1=>∃xs,H1 a=some (.lst xs)/\xs.length<Ri/\N σ (upd H1 a (.lst (xs++[v])))
section
variable {α:Type}{X:Cx}{C:Cfg}{W0:Addr->Prop}{T Tg:List Nat}{σ0:St}{H1:Hp}{a:Addr}{Hb:Hp}{Wb:Addr->Prop}{γ:dj}{τ:aY}{φ:aN}{Ac:α->Hp->Prop}
theorem SC.next {o:α}(hA:vn a Ac){β β':aX}{σ σ':St}{H H':Hp}{own aK:Nat->List Addr}(s:SC X C W0 T σ0 H1 a Hb Wb (Ac o) β σ H own)(sq:SQ X (C.u λc=>c=a) σ' H' β' aK)(w:∀c,Wn aK c->Wn own c)(sm:az H H')(t:∀j,j∉T->σ'[j]?=σ[j]?):
  SC X C W0 T σ0 H1 a Hb Wb (Ac o) β' σ' H' aK :=
 ⟨sq,gq (s.sn.same sm) w,λc z=>s.le c (w c z),hA.same o _ _ sm s.ac,s.pu.trans sm,λb ob n e=>sm _ _ (s.bs b ob n e),λj hj=>(t j hj).trans (s.st j hj)⟩
theorem SC.put {A:Hp->Prop}{A':Hp->Prop}(h0:C.H0 a=none)(ha:H1 a=none){β:aX}{σ:St}{H:Hp}{own:Nat->List Addr}{oa ob:HO}(s:SC X C W0 T σ0 H1 a Hb Wb A β σ H own)(e:H a=some oa)(nt:∀xs,oa≠.tup xs)(q:A' (upd H a ob)):
  SC X C W0 T σ0 H1 a Hb Wb A' β σ (upd H a ob) own:=by
 refine⟨s.sq.Dl e nt h0,⟨s.sn.w,s.sn.k.trans ((jQ e nt).mono λb z=>.inr (by rw[z];exact ha)),λb z e=>?_⟩,s.le,q,λb o e=>?_,λb o n e=>?_,s.st⟩
 ·by_cases hb:b=a
  ·rw[hb,ao]at e;cases e
  ·rw[ak hb]at e;exact s.sn.d b z e
 ·rw[ak (λz'=>by rw[z',ha]at e;cases e)]
  exact s.pu b o e
 ·rw[ak n];exact s.bs b o n e
def JH (P:Q6)(w:Rl)(H1:Hp)(a:Addr)(o:List D)(H:Hp):Prop:=∃vs A,H a=some (.lst vs)/\aH P w H o vs A/\A.Nodup/\∀c∈A,H1 c=none/\c≠a
theorem rP {P:Q6}{w:Rl}:vn a (JH P w H1 a):=⟨λo H H' s h=>by
  obtain⟨vs,A,h1,h2,h3,h4⟩:=h;exact⟨vs,A,s _ _ h1,h2.keep (λb xs e=>s _ _ e) λc _ oc e=>s _ _ e,h3,h4⟩,λo H xs h z=>by
  obtain⟨vs,A,h1,_⟩:=h;rw[h1]at z;cases z⟩
def Cp (φ:aN)(o:List D)(β:aX)(N:aX->List D->Prop):Prop:=φ β λx kx β3=>B9 kx x/\o.length<Ri/\N β3 (o++[x])
theorem zT (h0:C.H0 a=none)(ha:H1 a=none)(φm:∀β R R',(∀d k β,R d k β->R' d k β)->φ β R->φ β R'){β:aX}{o:List D}{σ:St}{H:Hp}{N:aX->List D->Prop}(s:pS X C W0 T σ0 H1 a Hb Wb (JH X.prog X.w H1 a) β o σ H)(q:Cp φ o β N):
  MD X C a φ (λσ' H'=>∃β' o',pS X C W0 T σ0 H1 a Hb Wb (JH X.prog X.w H1 a) β' o' σ' H'/\N β' o') σ H:=by
 obtain⟨own,s⟩:=s;refine⟨β,own,s.sq,φm _ _ _ (λxd kx β6 ⟨f,hz,q⟩ v H6 Ao o6 r6=>?_) q⟩;obtain⟨sm,rfl⟩:=o6.pu rfl;have s6:=s.next rP (o6.sq) (λ_ z=>z) sm (λ_ _=>rfl)
 obtain⟨B',r1,r2,r3⟩:=r6.fl f;obtain⟨vs,A,at',os,nd,nw⟩:=s.ac;have oX:H6 a=some (.lst vs):=sm _ _ at';have Gx:∀c∈B',c≠a:=λc hc z=>by rw[z]at hc;exact absurd (at'.symm.trans (r3 a hc).1) (λz=>(nomatch z))
 have kt:∀b xs,H6 b=some (.tup xs)->upd H6 a (.lst (vs++[v])) b=some (.tup xs):=λb xs z=>by rw[ak (λz'=>by rw[z',oX]at z;cases z)];exact z
 refine⟨vs,oX,by rw[os.length];exact hz,β6,o++[xd],⟨Ao,s6.put h0 ha oX (λxs z=>by cases z) ⟨vs++[v],A++B',ao,?_,?_,λc hc=>?_⟩⟩,q⟩
 ·exact(os.keep (λb xs e=>kt b xs (sm _ _ e)) λc hc oc e=>by rw[ak (nw c hc).2];exact sm _ _ e).append (aH.one (r1.keep kt λc hc oc e=>by rw[ak (Gx c hc)];exact e))
 ·refine Sw.mpr ⟨nd,r2,λx hx y hy e=>?_⟩;subst e;exact(os.kG x hx).1 (r3 x hy).1
 ·rcases Rx.mp hc with hc|hc
  ·exact nw c hc
  ·exact⟨s.sn.free (r3 c hc).1,Gx c hc⟩
def iD {α:Type}(γ:dj)(τ:aY)(Af:α->aX->(aX->α->Prop)->Prop)(ds:List D)(k:Kd)(β0:aX)(o0:α)(F:aX->α->Prop):Prop:=∃I:Nat->aX->α->Prop,I 0 β0 o0 /\
 (∀i d β o,ds[i]?=some d->I i β o->γ d (sk k d) β λβ1=>τ β1 λt β2=>if t=true then Af o β2 (I (i+1)) else I (i+1) β2 o)/\∀β o,I ds.length β o->F β o
theorem iD.mono {Af:α->aX->(aX->α->Prop)->Prop}{ds:List D}{k:Kd}{β0:aX}{o0:α}{F F':aX->α->Prop}(h:∀β o,F β o->F' β o)(q:iD γ τ Af ds k β0 o0 F):iD γ τ Af ds k β0 o0 F':=by
 obtain⟨I,h0,h1,h2⟩:=q;exact⟨I,h0,h1,λβ o z=>h _ _ (h2 β o z)⟩
theorem se (hA:vn a Ac)(hT:∀j∈Tg,j∈T)(γm:∀d k β R R',(∀r,R r->R' r)->γ d k β R->γ d k β R')(τm:∀β R R',(∀d β,R d β->R' d β)->τ β R->τ β R'){J:It}{ds:List D}{k:Kd}{Af:α->aX->(aX->α->Prop)->Prop}{ta:ku}{F:aX->α->Prop}{End:St->Hp->Prop}{β0:aX}{o0:α}{σ1:St}{Hs:Hp}
  (it:∀i β o σ' H',pS X C W0 T σ0 H1 a Hb Wb Ac β o σ' H'->(∀d,ds[i]?=some d->J.go i H'/\∀x H3,J.FE i H' x H3->az H' H3/\∀own,(∀c,Wn own c->Wb c)->aw X.prog X.w (eV (C.u λc=>c=a) (Wn own) k) H3 d x)/\(ds.length<=i->J.stop i H'))
  (Hf:∀β o σ' H' N,pS X C W0 T σ0 H1 a Hb Wb Ac β o σ' H'->Af o β N->ta (λvF za=>∃β' o',pS X C W0 T σ0 H1 a Hb Wb Ac β' o' vF za/\N β' o') σ' H')
  (s0:pS X C W0 T σ0 H1 a Hb Wb Ac β0 o0 σ1 Hs) (q:iD γ τ Af ds k β0 o0 F) (fin:∀β o σ' H',pS X C W0 T σ0 H1 a Hb Wb Ac β o σ' H'->F β o->End σ' H') :
  eZ J (Fn X C a Tg γ) (iM X (C.u λc=>c=a) true τ) ta End σ1 Hs:=by
 obtain⟨I,i0,i1,i2⟩:=q;refine⟨λi m σ' H'=>i<=ds.length/\m=ds.length-i/\∃β o,pS X C W0 T σ0 H1 a Hb Wb Ac β o σ' H'/\I i β o,⟨_,Rr _,rfl,β0,o0,s0,i0⟩,?_⟩;rintro i m σ2 H2 ⟨hi,rfl,β,o,sE,hl⟩;obtain⟨cH,mR⟩:=it i β o σ2 H2 sE
 by_cases fI:i<ds.length
 ·right
  have hd:ds[i]?=some ds[i]:=Rf fI;obtain⟨go,yl⟩:=cH _ hd;refine⟨go,λσ' H'=>∃β' o',pS X C W0 T σ0 H1 a Hb Wb Ac β' o' σ' H'/\I (i+1) β' o',λσ' H' h=>⟨_,by omega,fI,rfl,h⟩,λx H3 y=>?_⟩
  obtain⟨s3,r3⟩:=yl x H3 y;obtain⟨own,s⟩:=sE;refine⟨own,β,_,_,s.sq.same s3,mD (r3 own s.le),γm _ _ _ _ _ (λβ4 q σ4 oj s4 w4 t4=>?_) (i1 i _ β o hd hl)⟩;have Oq:=s.next hA s4 w4 s3 λj hj=>t4 j λz=>hj (hT j z)
  refine⟨β4,oj,s4,τm _ _ _ (λt β5 q H5 kQ o5=>?_) q⟩;obtain⟨Fp,rfl⟩:=o5.pu rfl;have MM:=Oq.next hA o5.sq (λ_ z=>z) Fp λ_ _=>rfl
  cases t with
  |false=>exact⟨β5,o,⟨_,MM⟩,q⟩
  |true=>exact Hf β5 o σ4 H5 _ ⟨_,MM⟩ q
 ·left
  have e:i=ds.length:=by omega
  subst e;exact⟨mR (Q4 _),fin β o σ2 H2 sE (i2 β o hl)⟩
def BX {α:Type}(ι:cF)(γ:dj)(τ:aY)(Af:α->aX->(aX->α->Prop)->Prop)(o:α)(β:aX)(N:aX->α->Prop):Prop:=ι β λds k β1=>iD γ τ Af ds k β1 o N
theorem zS (hA:vn a Ac){ι:cF}(hT:∀j∈Tg,j∈T)(γm:∀d k β R R',(∀r,R r->R' r)->γ d k β R->γ d k β R')(τm:∀β R R',(∀d β,R d β->R' d β)->τ β R->τ β R'){Af:α->aX->(aX->α->Prop)->Prop}{ta:ku}
  (Hf:∀Hb Wb β o σ' H' N,pS X C W0 T σ0 H1 a Hb Wb Ac β o σ' H'->Af o β N->ta (λvF za=>∃β' o',pS X C W0 T σ0 H1 a Hb Wb Ac β' o' vF za/\N β' o') σ' H')
  (ιm:∀β R R',(∀d k β,R d k β->R' d k β)->ι β R->ι β R') {β:aX} {o:α} {σ:St} {H:Hp} {N:aX->α->Prop} (s:pS X C W0 T σ0 H1 a Hb Wb Ac β o σ H) (q:BX ι γ τ Af o β N) :
  ∃β own,SQ X (C.u λc=>c=a) σ H β own/\ι β λds k β'=>∀J H',az H H'->SQ X (C.u λc=>c=a) σ H' β' own->zw X (eV (C.u λc=>c=a) (Wn own) k) J ds H' ->
   eZ J (Fn X C a Tg γ) (iM X (C.u λc=>c=a) true τ) ta (λσ' H'=>∃β' o',pS X C W0 T σ0 H1 a Hb Wb Ac β' o' σ' H'/\N β' o') σ H':=by
 obtain⟨own,s⟩:=s;refine⟨β,own,s.sq,ιm _ _ _ (λds k β1 q J H' sm sq OZ=>?_) q⟩;have s1:=s.next hA sq (λ_ z=>z) sm λ_ _=>rfl
 have hu:eV (C.u λc=>c=a) (Wn own) k a:=.inr rfl;refine se (Hb:=H') (Wb:=Wn own) hA hT γm τm (λi βx ox σx Hx sx=>?_) (λβx ox σx Hx Nx sx qx=>Hf _ _ _ _ _ _ _ sx qx) ⟨own,⟨s1.sq,s1.sn,λ_ z=>z,s1.ac,s1.pu,λ_ _ _ e=>e,s1.st⟩⟩ q λβx ox σx Hx sx hx=>?_
 ·obtain⟨An,sx⟩:=sx;have kp:Kp (λb=>eV (C.u λc=>c=a) (Wn own) k b\/H' b=none) H' Hx:=⟨λb ob e n=>sx.bs b ob (λz=>n (.inl (by rw[z];exact hu))) e,λb xs e=>sx.bs b _ (λz=>hA.Gu _ _ _ s1.ac (by rw[<- z];exact e)) e⟩
  obtain⟨g1,g2⟩:=OZ (λb=>eV (C.u λc=>c=a) (Wn own) k b\/H' b=none) (λb z=>z) i Hx kp;refine⟨λd hd=>?_,g2⟩;obtain⟨go,yl⟩:=g1 d hd;refine⟨go,λx H3 y=>?_⟩;obtain⟨s3,r3⟩:=yl x H3 y;exact⟨s3,λaK KN=>aw.aP (λb z=>.inl (fv KN k b z)) r3⟩
 ·obtain⟨An,sx⟩:=sx;exact⟨βx,ox,⟨An,⟨sx.sq,sx.sn,λc z=>s.le c (sx.le c z),sx.ac,sx.pu,λb ob n e=>sx.bs b ob n (s1.bs b ob n e),sx.st⟩⟩,hx⟩
theorem nS {lk:List (Option Nat)}{σ:St}{β:aX}{own:Nat->List Addr}{oa:HO}(hA:vn a Ac){Af:α->aX->(aX->α->Prop)->Prop}{ta:ku}{J:It}{ds:List D}{k:Kd}{o0:α}{K:α->Prop}{End:Hp->Prop}
  (γm:∀d k β R R',(∀r,R r->R' r)->γ d k β R->γ d k β R') (τm:∀β R R',(∀d β,R d β->R' d β)->τ β R->τ β R') (PF:∀j∈Tg,j∈T)
  (inj:∀(i i' j:Nat),lk[i]?=some (some j)->lk[i']?=some (some j)->i=i') (hT:∀i∈T,∀j,lk[i]?≠some (some j))
  (s1:SQ X C σ H1 β own) (ha:H1 a=none) (hk:hold k false) (it:zw X (av C (Wn own) k) J ds H1) (a0:Ac o0 (upd H1 a oa)) (ent:SQ X (C.u λc=>c=a) (di lk σ) (upd H1 a oa) (cg lk β) (bh lk β own))
  (Hf:∀Hb Wb β' o σ' H' N,C.H0 a=none->pS X C (Wn (bh lk β own)) T (di lk σ) H1 a Hb Wb Ac β' o σ' H'->Af o β' N->ta (λvF za=>∃β' o',pS X C (Wn (bh lk β own)) T (di lk σ) H1 a Hb Wb Ac β' o' vF za/\N β' o') σ' H')
  (q:iD γ τ Af ds k (cg lk β) o0 λβf o=>eN (cg lk β) βf/\K o)
  (fin:∀o H',K o->Out X C σ H1 own true β H' own->Ac o H'->End H') :
  eZ J (Fn X C a Tg γ) (iM X (C.u λc=>c=a) true τ) ta (λ_ H'=>End H') (di lk σ) (upd H1 a oa):=by
 have h0:C.H0 a=none:=R1 λz=>s1.fT a z ha;have sm:az H1 (upd H1 a oa):=az.new ha;refine se (W0:=Wn (bh lk β own)) (T:=T) (σ0:=di lk σ) (H1:=H1) (Hb:=H1) (Wb:=Wn (bh lk β own)) hA PF γm τm (λi βx ox σx Hx sx=>?_) (λβx ox σx Hx Nx sx qx=>Hf _ _ _ _ _ _ _ h0 sx qx)
  ⟨bh lk β own,⟨ent,⟨λb z=>.inl z,sm.kp,λb z e=>z (sm.free e)⟩,λ_ z=>z,a0,sm,λb ob n e=>sm _ _ e,λ_ _=>rfl⟩⟩ q λβx ox σx Hx sx hx=>?_
 ·obtain⟨An,sx⟩:=sx;have kI:Kp (λb=>av C (Wn own) k b\/H1 b=none) H1 Hx:=sx.pu.kp;obtain⟨g1,g2⟩:=it (λb=>av C (Wn own) k b\/H1 b=none) (λb z=>z) i Hx kI;refine⟨λd hd=>?_,g2⟩;obtain⟨go,yl⟩:=g1 d hd;refine⟨go,λx H3 y=>?_⟩;obtain⟨s3,r3⟩:=yl x H3 y;exact⟨s3,λaK KN=>aw.aP (λc z=>z.elim (λz=>.inl (i6 (λc z=>a7 c (KN c z)) k c z)) λz=>.inr (by rw[z];exact ha)) r3⟩
 ·obtain⟨An,sx⟩:=sx;obtain⟨hh,hK⟩:=hx;have lv:SQ X C σ Hx β own:=s1.leave sx.sq sx.sn sx.le hh λj ok i' e1 e2=>sx.st i' λz=>hT i' z j e2;exact fin ox Hx hK ⟨lv,⟨λb z=>.inl z,sx.sn.k.mono λb z=>z.imp (a7 b) id,sx.sn.d⟩,λz=>⟨sx.pu,rfl⟩,λ_ z=>z⟩ sx.ac
end
theorem Fe {X:Cx}{C:Cfg}{σ:St}{H1 H':Hp}{β:aX}{own:Nat->List Addr}{a:Addr}{o:List D}(s1:SQ X C σ H1 β own)(ha:H1 a=none)(h:JH X.prog X.w H1 a o H'):KV X.prog X.w C (H1,Wn own) own H' .own (.lst o) (.ref a):=by
 obtain⟨vs,A,at',os,nd,nw⟩:=h;refine⟨a::A,⟨a,vs,A,rfl,at',rfl,os⟩,RM.mpr ⟨λz=>(nw a z).2 rfl,nd⟩,λc hc=>?_⟩;have kU:H1 c=none:=by
  rcases Ra.mp hc with rfl|hc
  ·exact ha
  ·exact(nw c hc).1
 exact⟨kU,λh=>by obtain⟨j,hj⟩:=h;exact(s1.dm j c hj).1 kU,R1 λz=>s1.fT c z kU⟩
def Du (lk:List (Option Nat))(ι:cF)(γ:dj)(τ:aY)(ι2:cF)(γ2:dj)(τ2:aY)(φ:aN):aN:=λβ R=>ι β λds k β1=>hold k false/\iD γ τ (BX ι2 γ2 τ2 (Cp φ)) ds k (cg lk β1) [] λβf o=>eN (cg lk β1) βf/\R (.lst o) .own β1
section
variable {X:Cx}{C:Cfg}{lk:List (Option Nat)}{γ γ2:dj}{τ τ2:aY}{φ:aN}{T T2:List Nat}
variable {scope:TU}{tg cH vV mR elt:Expr}{ifs kS:List Expr}{ι ι2:cF}{pi:Bool}{pos:Pos}{i:Nat}
theorem OU (N':List Str)(lk:List (Option Nat))(L:g8 X.env.scope.names X.N scope N' lk=true)(uT:N'.Nodup)(hc:X.calm=true)(hi:y_ X C pi tg cH ι)
  (rg:∀a cl c s H ex,vD (aC X scope N' cl c s H ex) (C.u λc=>c=a) tg T γ) (mT:∀a cl c s H ex,rR (aC X scope N' cl c s H ex) (C.u λc=>c=a) true ifs τ)
  (NA:∀a cl c s H ex,NU (aC X scope N' cl c s H ex) (C.u λc=>c=a) vV mR ι2)
  (He:∀a cl c s H ex,vD (aC X scope N' cl c s H ex) (C.u λc=>c=a) vV T2 γ2) (Hd:∀a cl c s H ex,rR (aC X scope N' cl c s H ex) (C.u λc=>c=a) true kS τ2)
  (nu:∀a cl c s H ex,PQ (aC X scope N' cl c s H ex) (C.u λc=>c=a) true elt φ) (hT:(T++T2).all (λi=>match lk[i]? with|some (some _)=>false|_=>true)=true:=by rfl)
  (hs:∀x,Se cH X.env x=pure x:=by intro _;rfl) (uQ:∀cl c s H ex x,Se mR (aC X scope N' cl c s H ex).env x=pure x:=by intro _ _ _ _ _ _;rfl):PQ X C pi (.ListComp elt [⟨tg,cH,ifs,0⟩,⟨vV,mR,kS,0⟩] scope pos) (Du lk ι γ τ ι2 γ2 τ2 φ):=by
 have L:=Links.of L;have ES:∀i∈T++T2,∀j,lk[i]?≠some (some j):=λi hi j e=>by
  have:=S7.mp hT i hi;rw[e]at this;cases this
 have ax:Addr:=0;have QX:List (Str×Addr):=[];have γm:=(rg 0 [] 0 X.s₀ X.H₀ []).mono;have τm:=(mT 0 [] 0 X.s₀ X.H₀ []).mono;have JJ:=(He 0 [] 0 X.s₀ X.H₀ []).mono;have JI:=(Hd 0 [] 0 X.s₀ X.H₀ []).mono;have φm:=(nu 0 [] 0 X.s₀ X.H₀ []).mono;have ιm:=(NA 0 [] 0 X.s₀ X.H₀ []).mono;refine⟨λβ R R' k h=>hi.mono β _ _ (λds kd β1 q=>⟨q.1,q.2.mono λ_ _ z=>⟨z.1,k _ _ _ z.2⟩⟩) h,?_⟩;refine(jB (g:=⟨tg,cH,ifs,0⟩) (gs:=[⟨vV,mR,kS,0⟩]) (tg:=λa=>Fn X C a T γ) (tt:=λa=>iM X (C.u λc=>c=a) true τ)
  (ta:=λa N σ H=>∃β own,SQ X (C.u λc=>c=a) σ H β own/\ι2 β λds k β'=>∀J H',az H H'->SQ X (C.u λc=>c=a) σ H' β' own->zw X (eV (C.u λc=>c=a) (Wn own) k) J ds H' ->
   eZ J (Fn X C a T2 γ2) (iM X (C.u λc=>c=a) true τ2) (MD X C a φ) N σ H')
  L hc jK rfl rfl (λ_ _=>E8) hi.pi (λa cl c s H ex=>⟨(rg a cl c s H ex).pg,(mT a cl c s H ex).pt,Am (X:=aC X scope N' cl c s H ex) (g':=⟨vV,mR,kS,0⟩) rfl hc E7 (NA a cl c s H ex).pi (He a cl c s H ex).pg (Hd a cl c s H ex).pt (jC (X:=aC X scope N' cl c s H ex) rfl (nu a cl c s H ex).pe) (uQ cl c s H ex)⟩) hs).pre λσ H Q h=>?_
 obtain⟨β,own,s,h⟩:=h;refine⟨β,own,s,hi.mono β _ _ (λds k β1 h J H1 aB o1 it a ha=>?_) h⟩;obtain⟨hk,q⟩:=h;refine nS (T:=T++T2) (rP (P:=X.prog) (w:=X.w) (H1:=H1)) γm τm (λj hj=>Sh _ hj) (c0 L uT) ES o1.sq ha hk it ⟨[],[],ao,(show aH _ _ _ [] [] [] from ⟨rfl,rfl⟩),Sf,λc hc=>(nomatch hc)⟩ (o1.sq.enter ha (c0 L uT))
  (λHb Wb βx ox σx Hx Nx h0 sx qx=>zS rP (λj hj=>RX _ hj) JJ JI (λHb Wb βy oy σy Hy Ny sy qy=>zT h0 ha φm sy qy) ιm sx qx) q λo H' q o2 r=>?_
 refine q _ _ aB ⟨o2.sq,o1.sn.trans o2.sn,λz=>⟨(o1.pu z).1.trans (o2.pu rfl).1,(o1.pu z).2⟩,o1.le⟩ ((Fe o1.sq ha r).later o1.sn)
end
end L2.Q
namespace L2
open PySem PySem.Spec PySem.SeqAt PyProof.Rows
section
variable {X:Cx}
theorem uw:kz X newDict (.dT []) :=
 ⟨λpins s σ H Q E I h=>TY (h _ _ (Q4 _) I.fresh (λb o e=>Q8 _ e) (I.laid (t':=s.toks) (λ_ _ q=>Q8 _ q) (Q4 _) (yA _ I.big)))⟩
theorem xf {k v:Expr}{tk tv:TE}{a:Addr}(hx:X.xe=λ_ _=>False)(hu:X.A.units<Um)(hk:PE X k tk)(hv:PE X v tv):
  nj X (ji (yy k v (.ref a) X.env)) (λN σ H=>tk σ H λy H1=>tv σ H1 λv H2=>∃kvs key b,H2 a=some (.dT kvs)/\y=.ref b/\H2 b=some (.tup (key.map kV))/\kvs.length<Ri/\N σ (upd H2 a (.dT (putK kvs key v)))):=by
 intro pins s σ H N kk Q E I h hN;unfold ji yy;refine Q0 (Q0 (br (dv hx (hk pins s σ H _ I h)) λu s1 ⟨y,H1,I1,r1,q⟩=>?_));refine Q0 (Sj (br (dv hx (hv pins s1 σ H1 _ I1 q)) λw' s2 ⟨v,H2,I2,r2,kvs,key,b,e,ey,eb,l,q2⟩=>?_));subst ey;cases (show u=Value.ref b from r1)
 refine Q0 (Tb (Sj ?_));obtain⟨z,hd,xs,rel,dd⟩:=Iv I2.bj e;have hz:xs.length<=Ri:=by rw[<- Paired.length rel];exact z
 have hl:(putK kvs key v).length<=Ri:=by have:=oM kvs key v;lia
 refine wpAny_dictSet_heap (hsz:=hz) (knd:=UJ (bE X.prog X.w)) hu (qW I2.bj eb) dd λh' P8 hs=>hN σ _ _ ?_ q2;obtain⟨q,es,ep,hq,h2,h3,h4,_,h5⟩:=P8;refine Bp I2 (by rw[e];exact True.intro) hs ⟨q,hq⟩ ⟨hl,hd,_,(rel.put key eb r2).keeps λc ys ec=>?_,q,es,ep,hq,h2,h3,h4,h5⟩
 rw[ak (BY ec e (λz=>nomatch z))];exact ec
end
end L2
namespace L2.Q
open PySem PySem.Spec PySem.SeqAt PyProof.Rows
def MC (P:Q6)(w:Rl)(a:Addr)(o:List (List Int×D))(H:Hp):Prop:=∃vs,H a=some (.dT ((o.map λp=>iK p.1).zip vs))/\aH P w H (o.map (·.2)) vs []
theorem yX {P:Q6}{w:Rl}{a:Addr}:vn a (MC P w a):=⟨λo H H' s h=>by
  obtain⟨vs,h1,h2⟩:=h;exact⟨vs,s _ _ h1,h2.keep (λb xs e=>s _ _ e) λc hc=>(nomatch hc)⟩,λo H xs h z=>by
  obtain⟨vs,h1,_⟩:=h;rw[h1]at z;cases z⟩
abbrev ME (X:Cx)(C:Cfg)(a:Addr)(φk φ:aN):ku:=λN σ H=>tQ X (C.u λc=>c=a) true φk σ H λy H1=>tQ X (C.u λc=>c=a) true φ σ H1 λv H2=>∃kvs key b,H2 a=some (.dT kvs)/\y=.ref b/\H2 b=some (.tup (key.map kV))/\kvs.length<Ri/\N σ (upd H2 a (.dT (putK kvs key v)))
def yx (φk φ:aN)(o:List (List Int×D))(β:aX)(N:aX->List (List Int×D)->Prop):Prop:=φk β λkd _ β2=>φ β2 λx _ β3=>∃t,kd=.tup (t.map D.int)/\x.flat=true/\iL o t=none/\o.length<Ri/\N β3 (o++[(t,x)])
section
variable {X:Cx}{C:Cfg}{W0:Addr->Prop}{T:List Nat}{σ0:St}{H1:Hp}{a:Addr}{Hb:Hp}{Wb:Addr->Prop}{φ φk:aN}
theorem wy (h0:C.H0 a=none)(ha:H1 a=none)(CO:∀β R R',(∀d k β,R d k β->R' d k β)->φk β R->φk β R')(φm:∀β R R',(∀d k β,R d k β->R' d k β)->φ β R->φ β R'){β:aX}{o:List (List Int×D)}{σ:St}{H:Hp}{N:aX->List (List Int×D)->Prop}(s:pS X C W0 T σ0 H1 a Hb Wb (MC X.prog X.w a) β o σ H)(q:yx φk φ o β N):
  ME X C a φk φ (λσ' H'=>∃β' o',pS X C W0 T σ0 H1 a Hb Wb (MC X.prog X.w a) β' o' σ' H'/\N β' o') σ H:=by
 obtain⟨own,s⟩:=s;refine⟨β,own,s.sq,CO _ _ _ (λkd kk β5 q v5 H5 kQ o5 r5=>?_) q⟩;obtain⟨Fp,rfl⟩:=o5.pu rfl;refine⟨β5,_,o5.sq,φm _ _ _ (λxd kx β6 ⟨t,e1,f,hn,hz,q2⟩ v H6 Ao o6 r6=>?_) q⟩;obtain⟨sm,rfl⟩:=o6.pu rfl;have s6:=s.next yX o6.sq (λ_ z=>z) (Fp.trans sm) (λ_ _=>rfl)
 subst e1;obtain⟨b,us,rfl,hb,rt⟩:=r5.rep;rw[L2.bQ rt]at hb;obtain⟨vs,at',os⟩:=s6.ac;have Oy:Own X.prog X.w H6 xd v []:=da f r6.rep;have l:(o.map λp=>iK p.1).length=vs.length:=by rw[Q3,os.length,Q3]
 have LB:putK ((o.map λp=>iK p.1).zip vs) (iK t) v=((o++[(t,xd)]).map λp=>iK p.1).zip (vs++[v]):=by
  rw[wG v (C3 os hn),RS,List.zip_append l];rfl
 have kt:∀c xs,H6 c=some (.tup xs)->upd H6 a (.dT (putK ((o.map λp=>iK p.1).zip vs) (iK t) v)) c=some (.tup xs):=λc xs z=>by rw[ak (λz'=>by rw[z',at']at z;cases z)];exact z
 refine⟨_,iK t,b,at',rfl,by rw[Ca];exact sm _ _ hb,by rw[List.length_zip,<- l,Nat.min_self,Q3];exact hz,β6,o++[(t,xd)],⟨_,s6.put h0 ha at' (λxs z=>by cases z) ⟨vs++[v],by rw[ao,LB],?_⟩⟩,q2⟩
 rw[RS];exact(os.keep kt (A:=[]) λc hc=>by cases hc).append (aH.one (Oy.keep kt (A:=[]) λc hc=>by cases hc))
end
def Dt (lk:List (Option Nat))(ι:cF)(γ:dj)(τ:aY)(φk φ:aN):aN:=λβ R=>ι β λds k β1=>hold k false/\iD γ τ (yx φk φ) ds k (cg lk β1) [] λβf o=>eN (cg lk β1) βf/\R (dA o) .own β1
section
variable {X:Cx}{C:Cfg}{lk:List (Option Nat)}{γ:dj}{τ:aY}{φ φk:aN}{T:List Nat}
variable {scope:TU}{tg cH ke elt:Expr}{ifs:List Expr}{ι:cF}{pi:Bool}{pos:Pos}{i:Nat}
theorem P9 (hu:X.A.units<Um)(N':List Str)(lk:List (Option Nat))(L:g8 X.env.scope.names X.N scope N' lk=true)(uT:N'.Nodup)(hc:X.calm=true)(hi:y_ X C pi tg cH ι)
  (rg:∀a cl c s H ex,vD (aC X scope N' cl c s H ex) (C.u λc=>c=a) tg T γ) (mT:∀a cl c s H ex,rR (aC X scope N' cl c s H ex) (C.u λc=>c=a) true ifs τ)
  (Nu:∀a cl c s H ex,PQ (aC X scope N' cl c s H ex) (C.u λc=>c=a) true ke φk) (nu:∀a cl c s H ex,PQ (aC X scope N' cl c s H ex) (C.u λc=>c=a) true elt φ) (hT:T.all (λi=>match lk[i]? with|some (some _)=>false|_=>true)=true:=by rfl)
  (hs:∀x,Se cH X.env x=pure x:=by intro _;rfl):PQ X C pi (.DictComp ke elt [⟨tg,cH,ifs,0⟩] scope pos) (Dt lk ι γ τ φk φ):=by
 have L:=Links.of L;have ES:∀i∈T,∀j,lk[i]?≠some (some j):=λi hi j e=>by
  have:=S7.mp hT i hi;rw[e]at this;cases this
 have γm:=(rg 0 [] 0 X.s₀ X.H₀ []).mono;have τm:=(mT 0 [] 0 X.s₀ X.H₀ []).mono;have φm:=(nu 0 [] 0 X.s₀ X.H₀ []).mono;have CO:=(Nu 0 [] 0 X.s₀ X.H₀ []).mono;refine⟨λβ R R' k h=>hi.mono β _ _ (λds kd β1 q=>⟨q.1,q.2.mono λ_ _ z=>⟨z.1,k _ _ _ z.2⟩⟩) h,?_⟩;refine(jB (g:=⟨tg,cH,ifs,0⟩) (gs:=[]) (tg:=λa=>Fn X C a T γ) (tt:=λa=>iM X (C.u λc=>c=a) true τ) (ta:=λa=>ME X C a φk φ)
  L hc uw rfl rfl (λ_ _=>IE) hi.pi (λa cl c s H ex=>⟨(rg a cl c s H ex).pg,(mT a cl c s H ex).pt,xf (X:=aC X scope N' cl c s H ex) rfl hu (Nu a cl c s H ex).pe (nu a cl c s H ex).pe⟩) hs).pre λσ H Q h=>?_
 obtain⟨β,own,s,h⟩:=h;refine⟨β,own,s,hi.mono β _ _ (λds k β1 h J H1 aB o1 it a ha=>?_) h⟩;obtain⟨hk,q⟩:=h;refine nS (T:=T) (yX (P:=X.prog) (w:=X.w)) γm τm (λj hj=>hj) (c0 L uT) ES o1.sq ha hk it ⟨[],ao,(show aH _ _ _ [] [] [] from ⟨rfl,rfl⟩)⟩ (o1.sq.EZ (λxs z=>by cases z) ha (c0 L uT))
  (λHb Wb βx ox σx Hx Nx h0 sx qx=>wy h0 ha CO φm sx qx) q λo H' q o2 r=>?_
 refine q _ _ aB ⟨o2.sq,o1.sn.trans o2.sn,λz=>⟨(o1.pu z).1.trans (o2.pu rfl).1,(o1.pu z).2⟩,o1.le⟩ ?_;obtain⟨vs,at',os⟩:=r;refine⟨[a],DJ at' os,by simp,λc hc=>?_⟩
 rw[Rk.mp hc];exact⟨R1 λz=>o1.sn.d a z ha,λh=>by obtain⟨j,hj⟩:=h;exact(o1.sq.dm j a hj).1 ha,R1 λz=>o1.sq.fT a z ha⟩
end
structure vE (mg:Str->Option QZ):Prop extends Bs2 mg where
 sum:mg "sum" = none
def tI (p:Nat×Nat):List Int:=[(p.1:Int),(p.2:Int)]
theorem vY {p q:Nat×Nat}(h:tI p=tI q):p=q:=by
 unfold tI at h;injection h with h1 h2
 injection h2 with h2 _
 exact Prod.ext (Int.ofNat.inj h1) (Int.ofNat.inj h2)
def vT (ps:List (Nat×Nat)):D:=.lst (ps.map λp=>kD (tI p))
def iU (n:Nat)(ps:List (Nat×Nat)):D:=.tup [.int n,vT ps]
structure zu (n:Nat)(ps:List (Nat×Nat)):Prop where
 lt:∀p∈ps,p.1<p.2/\p.2<n
 nd:ps.Nodup
 le:n<=80
 sm:ps.length<=400
theorem vU {n:Int}{ts:List (List Int)}(n0:0<=n)(h:bo n ts):∃ps:List (Nat×Nat),ts=ps.map tI/\∀p∈ps,p.1<p.2/\p.2<n.toNat:=by
 induction ts with
 |nil=>exact⟨[],rfl,λ_ z=>(nomatch z)⟩
 |cons t ts ih =>
  obtain⟨ps,e,q⟩:=ih λu hu=>h u (by simp[hu])
  obtain⟨a,b,rfl,h1,h2,h3⟩:=h t (by simp)
  refine⟨(a.toNat,b.toNat)::ps,?_,λp hp=>?_⟩
  ·rw[RN,<- e]
   congr 1
   show [a,b]=[((a.toNat:Nat):Int),((b.toNat:Nat):Int)];rw[Vk h1,Vk (by lia)]
  ·rcases Ra.mp hp with rfl|hp
   ·exact⟨by show a.toNat<b.toNat;lia,by show b.toNat<n.toNat;lia⟩
   ·exact q p hp
theorem zW {n:Int}{ts:List (List Int)}(n0:0<=n)(n1:n<=80)(l:ts.length<=400)(h:bo n ts)(nd:ts.Nodup):∃(m:Nat) (ps:List (Nat×Nat)),zu m ps/\n=m/\ts=ps.map tI/\D.tup [.int n,.lst (ts.map kD)]=iU m ps:=by
 obtain⟨ps,e,q⟩:=vU n0 h;refine⟨n.toNat,ps,⟨q,?_,by lia,by rw[e,Q3]at l;exact l⟩,by lia,e,?_⟩
 ·rw[e]at nd;exact(Tj.mp nd).imp λz e=>z (congrArg tI e)
 ·unfold iU vT;rw[e,SU,Vk n0];rfl
def cO (l:List Nat):List D:=l.map λ(k:Nat)=>D.int (k:Int)
def kA (ps:List (Nat×Nat))(i:Nat):List Nat:=(ps.filter λp=>decide (p.1=i)).map (·.2)
theorem ee {ps:List (Nat×Nat)}{i k:Nat}:k∈kA ps i↔(i,k)∈ps:=by
 unfold kA;rw[R5];constructor
 ·rintro⟨p,hp,rfl⟩;obtain⟨h1,h2⟩:=SH.mp hp;rw[<- of_decide_eq_true h2];exact h1
 ·intro h;exact⟨(i,k),SH.mpr ⟨h,by simp⟩,rfl⟩
def wJ (n:Nat)(ps:List (Nat×Nat)):D:=.lst ((Rz n).map λi=>.lst (cO (kA ps i)))
def wD (ps:List (Nat×Nat))(w:Nat×Nat->Int):D:=dA (ps.map λp=>(tI p,.int (w p)))
theorem C2 {ps:List (Nat×Nat)}{w:Nat×Nat->Int}{p:Nat×Nat}(h:p∈ps):iL (ps.map λp=>(tI p,.int (w p))) (tI p)=some (.int (w p)):=by
 unfold iL
 induction ps with
 |nil=>cases h
 |cons q ps ih =>
  rw[RN,SD]
  by_cases e:q=p
  ·rw[e,decide_eq_true rfl];rfl
  ·rw[decide_eq_false λz=>e (vY z)];exact ih ((Ra.mp h).resolve_left λz=>e z.symm)
theorem AF {ps:List (Nat×Nat)}{w:Nat×Nat->Int}{p:Nat×Nat}(h:p∉ps):iL (ps.map λp=>(tI p,.int (w p))) (tI p)=none:=by
 unfold iL;rw[Option.map_eq_none_iff,List.find?_eq_none];intro x hx;obtain⟨q,hq,rfl⟩:=R5.mp hx;simp only[decide_eq_true_eq];intro e;exact h (vY e▸hq)
theorem ET {ps:List (Nat×Nat)}{w:Nat×Nat->Int}{i k:Nat}(h:(i,k)∈ps):tF (wD ps w) (.tup [.int (i:Int),.int (k:Int)])=some (.int (w (i,k))):=by
 have:=Bw (kvs:=ps.map λp=>(tI p,D.int (w p))) (t:=tI (i,k));rw[C2 h]at this;exact this
theorem dt {α:Type}{n i:Nat}{f:Nat->α}(h:i<n):((Rz n).map f)[i]?=some (f i):=by
 rw[Rn,SO h];rfl
theorem sY {ds:List D}{x:Int}{i:Nat}{d:D}(hx:x=(i:Int))(h:ds[i]?=some d):vz (.lst ds) (.int x)=some d:=by rw[hx];exact Bv h
theorem GX {n:Nat}{ps:List (Nat×Nat)}{x:Int}{i:Nat}(hx:x=(i:Int))(h:i<n):vz (wJ n ps) (.int x)=some (.lst (cO (kA ps i))):=sY hx (dt h)
def nG (L:Nat)(T:Nat->Int):List D:=(Rz L).map λl=>.int (T l)
def jj (n:Nat)(L:Nat->Nat)(T:Nat->Nat->Int):D:=.lst ((Rz (n+1)).map λi=>.lst (nG (L i) λl=>T l i))
theorem lL {L:Nat}{T:Nat->Int}{x:Int}{l:Nat}(hx:x=(l:Int))(h:l<L):vz (.lst (nG L T)) (.int x)=some (.int (T l)):=sY hx (dt h)
theorem lK {n:Nat}{L:Nat->Nat}{T:Nat->Nat->Int}{x:Int}{i:Nat}(hx:x=(i:Int))(h:i<=n):vz (jj n L T) (.int x)=some (.lst (nG (L i) λl=>T l i)):=sY hx (dt (by lia))
def iN (ps:List (Nat×Nat))(w:Nat×Nat->Int)(T:Nat->Nat->Int)(i j:Nat):Int:=(oH ((((kA ps i).filter λk=>decide (k<j)).map λk=>w (i,k)+T (k-i-1) (i+1)+T (j-k-1) (k+1))++[T (j-i-1) (i+1)])).getD 0
theorem uC {l:List Int}{x:Int}:oH (l++[x])=some ((oH (l++[x])).getD 0):=by
 cases l with
 |nil=>rfl
 |cons a l=>rfl
theorem jN {ps:List (Nat×Nat)}{w:Nat×Nat->Int}{T T':Nat->Nat->Int}{i j:Nat}(hp:∀p∈ps,p.1<p.2)(hj:i<j)(h:∀l,l<j-i->∀a,T l a=T' l a):iN ps w T i j=iN ps w T' i j:=by
 unfold iN;have e:((kA ps i).filter λk=>decide (k<j)).map (λk=>w (i,k)+T (k-i-1) (i+1)+T (j-k-1) (k+1))=((kA ps i).filter λk=>decide (k<j)).map λk=>w (i,k)+T' (k-i-1) (i+1)+T' (j-k-1) (k+1):=by
  refine SG λk hk=>?_;obtain⟨h1,h2⟩:=SH.mp hk;have h3:=hp _ (ee.mp h1);have h4:=of_decide_eq_true h2;dsimp only at h3;rw[h _ (by lia),h _ (by lia)]
 rw[e,h (j-i-1) (by lia)]
def C8 (ps:List (Nat×Nat))(w:Nat×Nat->Int):Nat->Nat->Nat->Int
 |0,_,_=>0
 |_+1,0,_=>0
 |n+1,l+1,i=>iN ps w (C8 ps w n) i (i+l+1)
theorem nF {ps:List (Nat×Nat)}{w:Nat×Nat->Int}(hp:∀p∈ps,p.1<p.2):∀{n m l i:Nat},l<=n->l<=m->C8 ps w n l i=C8 ps w m l i
 |0,0,_,_,_,_=>rfl
 |0,m+1,0,_,_,_=>rfl
 |0,m+1,l+1,_,h,_=>by lia
 |n+1,0,0,_,_,_=>rfl
 |n+1,0,l+1,_,_,h=>by lia
 |n+1,m+1,0,_,_,_=>rfl
 |n+1,m+1,l+1,i,h1,h2=>by
  unfold C8;exact jN hp (by lia) λl' hl a=>nF hp (by lia) (by lia)
def tW (ps:List (Nat×Nat))(w:Nat×Nat->Int)(l i:Nat):Int:=C8 ps w l l i
theorem rZ {ps:List (Nat×Nat)}{w:Nat×Nat->Int}(hp:∀p∈ps,p.1<p.2){l i:Nat}:tW ps w (l+1) i=iN ps w (tW ps w) i (i+l+1):=by
 show C8 ps w (l+1) (l+1) i=_;unfold C8;exact jN hp (by lia) λl' hl a=>nF hp (by lia) (by lia)
def dh (n a:Nat):List (Nat×Nat):=(Rz (a+1)).map λb=>(n-1-a,n-a+b)
def mx (n:Nat):List (Nat×Nat):=(Rz n).flatMap (dh n)
def vp (p:Nat×Nat):D:=.tup [.int (p.1:Int),.int (p.2:Int)]
def du (n a b:Nat):List (Nat×Nat):=(dh n a).drop b++((Rz n).drop (a+1)).flatMap (dh n)
theorem fZ {n a b:Nat}(h:b<=a):du n a b=(n-1-a,n-a+b)::du n a (b+1):=by
 unfold du dh;rw[R_ (by rw[Q3,Sg];lia)]
 simp
theorem l4 {n a:Nat}(h:a<n):((Rz n).drop a).flatMap (dh n)=du n a 0:=by
 unfold du;rw[R_ (by rw[Sg];exact h)]
 simp
theorem lB {n a:Nat}(h:a+1<n):du n a (a+1)=du n (a+1) 0:=by
 rw[<- l4 h];unfold du dh;simp
theorem qE {n a:Nat}(h:n<=a+1):du n a (a+1)=[]:=by
 unfold du dh;rw[List.drop_eq_nil_of_le (by simp),List.drop_eq_nil_of_le (by simpa using h)]
 rfl
theorem tT {n:Nat}(h:0<n):mx n=du n 0 0:=by rw[<- l4 h];rfl
theorem mP {α:Type}{γ:dj}{τ:aY}{φ:aN}{l:List α}{f:α->D}{k:Kd}{CC:aX}{K:List D->Prop}(t:α->Bool)(g:α->D)(h0:eN CC CC)(hl:l.length<=Ri)
  (h:∀x∈l,∀(x0:Option B) (o:List D) (J:aX->List D->Prop),o.length<Ri->(t x=true->∀x0,J (x0::CC) (o++[g x]))->(t x=false->∀x0,J (x0::CC) o)->γ (f x) (sk k (f x)) (x0::CC) λβ1=>τ β1 λt β2=>if t=true then φ β2 λx kx β3=>B9 kx x/\o.length<Ri/\J β3 (o++[x]) else J β2 o)
  (q:K ((l.filter t).map g)):lI γ τ φ (l.map f) k (none::CC) K:=by
 refine⟨λi β o=>i<=l.length/\(∃x0,β=x0::CC)/\o=((l.take i).filter t).map g,⟨Rr _,⟨_,rfl⟩,rfl⟩,?_,?_⟩
 ·rintro i d β o hd ⟨hi,⟨x0,rfl⟩,rfl⟩;rw[Rn]at hd;obtain⟨x,hx,rfl⟩:=RE.mp hd;have fI:i<l.length:=(Rw.mp hx).1;have hle:(((l.take i).filter t).map g).length<Ri:=by
   rw[Q3];have:=T8 t (l.take i);rw[RL]at this;lia
  have e:l.take (i+1)=l.take i++[x]:=by rw[Ti,hx];rfl
  refine h x (SE hx) x0 _ (λβ o=>i+1<=l.length/\(∃x0,β=x0::CC)/\o=((l.take (i+1)).filter t).map g) hle (λht x0=>?_) λht x0=>?_
  ·exact⟨fI,⟨_,rfl⟩,by rw[e,Vt,RS,VJ,if_pos ht];rfl⟩
  ·exact⟨fI,⟨_,rfl⟩,by rw[e,Vt,RS,VJ,if_neg (by rw[ht];simp)];simp⟩
 ·rintro β o ⟨_,⟨x0,rfl⟩,rfl⟩;rw[Q3,UM];exact⟨h0,q⟩
theorem iF {α:Type}{l:List α}:l.filter (λ_=>true)=l:=List.filter_eq_self.mpr λ_ _=>rfl
theorem yH {a b:List D}(h:a.length+b.length<=1000000):E5 (.lst a) (.lst b)=some (.lst (a++b)):=by
 show (if a.length+b.length<=Ri then _ else _)=_
 rw[if_pos (R6 h (by decide))]
theorem lV {α:Type}{f:α->Int}:∀{l:List α},D.bR (l.map λx=>D.int (f x))=true
 |[]=>rfl
 |_::l=>lV (l:=l)
theorem lW:∀{a b:List D},D.bR a=true->D.bR b=true->D.bR (a++b)=true
 |[],_,_,h=>h
 |d::a,b,h,h'=>by
  have f':(d.flat&&D.bR a)=true:=h;rw[RZ]at f';show (d.flat&&D.bR (a++b))=true;rw[f'.1,lW f'.2 h'];rfl
theorem xC {α:Type}{f:α->Int}{l:List α}{x:Int}:i4 oH [.lst ((l.map λk=>D.int (f k))++[D.int x])]=some (.int ((oH (l.map f++[x])).getD 0)):=by
 have e:(l.map λk=>D.int (f k))++[D.int x]=(l.map f++[x]).map D.int:=by simp
 rw[e];exact rH uC
theorem AJ {α:Type}{l:List α}{m:Nat}{x:α}(h:l.Nodup)(hx:l[m]?=some x):x∉l.take m:=λz=>by
 obtain⟨i,hi⟩:=List.mem_iff_getElem?.mp z;rw[List.getElem?_take]at hi
 split at hi
 ·next fI =>
  have:=(List.getElem?_inj (Rw.mp hi).1 h).mp (hi.trans hx.symm);lia
 ·cases hi
def yt:FD:=λds R=>∃n:Nat,ds=[.int n]/\n<=80/\R (.lst ((mx n).map vp))
theorem yt.mono:dS yt:=λds R R' k h=>by obtain⟨n,e,h1,q⟩:=h;exact⟨n,e,h1,k _ q⟩
def j5:FD:=λds R=>∃n ps,ds=[iU n ps]/\zu n ps/\R (wJ n ps)
theorem j5.mono:dS j5:=λds R R' k h=>by obtain⟨n,ps,e,h1,q⟩:=h;exact⟨n,ps,e,h1,k _ q⟩
def j6:FD:=λds R=>∃(n:Nat) (ps:List (Nat×Nat)) (w:Nat×Nat->Int) (L:Nat->Nat) (T:Nat->Nat->Int) (i k j:Nat),ds=[wD ps w,jj n L T,.int i,.int k,.int j]/\(i,k)∈ps/\i<k/\k<j/\j<=n/\k-i-1<L (i+1)/\j-k-1<L (k+1) /\
 R (.int (w (i,k)+T (k-i-1) (i+1)+T (j-k-1) (k+1)))
theorem j6.mono:dS j6:=λds R R' k h=>by obtain⟨n,ps,w,L,T,i,k',j,e,h1,h2,h3,h4,h5,h6,q⟩:=h;exact⟨n,ps,w,L,T,i,k',j,e,h1,h2,h3,h4,h5,h6,k _ q⟩
def j8:FD:=λds R=>∃(n:Nat) (ps:List (Nat×Nat)) (w:Nat×Nat->Int) (L:Nat->Nat) (T:Nat->Nat->Int) (i j:Nat),ds=[wJ n ps,wD ps w,jj n L T,.int i,.int j]/\zu n ps/\i<j/\j<=n/\(∀a,i<a->a<=n->n+1-a<=L a)/\R (.int (iN ps w T i j))
theorem j8.mono:dS j8:=λds R R' k h=>by obtain⟨n,ps,w,L,T,i,j,e,h1,h2,h3,h4,q⟩:=h;exact⟨n,ps,w,L,T,i,j,e,h1,h2,h3,h4,k _ q⟩
abbrev fO (n:Nat)(T:Nat->Nat->Int):D:=jj n (λi=>n+1-i) T
def j9:FD:=λds R=>∃(n:Nat) (ps:List (Nat×Nat)) (w:Nat×Nat->Int),ds=[iU n ps,wD ps w]/\zu n ps/\R (fO n (tW ps w))
theorem j9.mono:dS j9:=λds R R' k h=>by obtain⟨n,ps,w,e,h1,q⟩:=h;exact⟨n,ps,w,e,h1,k _ q⟩
def w1:Nat×Nat->Int:=λ_=>1
def rD:FD:=λds R=>∃(n:Nat) (ps:List (Nat×Nat)),ds=[iU n ps]/\zu n ps/\R (wD ps w1)
theorem rD.mono:dS rD:=λds R R' k h=>by obtain⟨n,ps,e,h1,q⟩:=h;exact⟨n,ps,e,h1,k _ q⟩
def jZ:FD:=λds R=>∃(n:Nat) (ps:List (Nat×Nat)),ds=[iU n ps]/\zu n ps/\R (fO n (tW ps w1))
theorem jZ.mono:dS jZ:=λds R R' k h=>by obtain⟨n,ps,e,h1,q⟩:=h;exact⟨n,ps,e,h1,k _ q⟩
theorem dq {n:Nat}(h:n<=1000):n<=Ri:=R6 h (by decide)
theorem nJ {n:Nat}(h:n<=1000):n<Ri:=Nat.lt_of_le_of_lt h (by decide)
theorem GY {n i:Nat}{x:Int}(hx:x=(i:Int))(h:i<n):zg n x=some i:=by
 subst hx;unfold zg;rw[if_pos (by lia),if_pos (by lia)]
 simp
theorem sd {α:Type}{n i:Nat}{f:Nat->α}{y:α}(h:i<n):((Rz n).map f).set i y=(Rz n).map λk=>if k=i then y else f k:=by
 refine To λk=>?_;rw[Tn]
 by_cases hk:k<n
 ·rw[dt hk,dt hk,Q3,Sg]
  by_cases e:i=k
  ·rw[if_pos e,if_pos (e▸hk),if_pos e.symm]
  ·rw[if_neg e,if_neg (Ud e)]
 ·rw[Sz (l:=(Rz n).map f) (by simpa using hk),Sz (l:=(Rz n).map λk=>if k=i then y else f k) (by simpa using hk),if_neg (by lia)]
theorem Dk {n i k:Nat}{ps:List (Nat×Nat)}(h:i<n):((Rz n).map λj=>D.lst (cO (kA ps j))).set i (.lst (cO (kA ps i)++[D.int k]))=(Rz n).map λj=>D.lst (cO (kA (ps++[(i,k)]) j)):=by
 rw[sd h];refine SG λj _=>?_;unfold kA cO;rw[Vt,RS,RS]
 by_cases e:j=i
 ·rw[if_pos e,e];simp
 ·rw[if_neg e,VJ,if_neg (by simpa using Ud e)];simp
theorem gv {ps:List (Nat×Nat)}{i:Nat}:(kA ps i).length<=ps.length:=by
 unfold kA;rw[Q3];exact T8 _ _
def eu (n a b:Nat)(i:Nat):Nat:=if n-1-a<i then n+1-i else if i=n-1-a then b+1 else 1
theorem zP {n a b:Nat}{T:Nat->Nat->Int}(ha:a<n)(hb:b<=a):
  ((Rz (n+1)).map λi=>D.lst (nG (eu n a b i) λl=>T l i)).set (n-1-a) (.lst (nG (b+1) (λl=>T l (n-1-a))++[D.int (T (b+1) (n-1-a))]))=(Rz (n+1)).map λi=>D.lst (nG (eu n a (b+1) i) λl=>T l i):=by
 rw[sd (by lia)]
 refine SG λi _=>?_;unfold eu
 by_cases e:i=n-1-a
 ·rw[if_pos e,e,if_neg (by lia),if_pos rfl]
  unfold nG;rw[UZ (n:=b+1),RS];rfl
 ·rw[if_neg e,if_neg e,if_neg e]
theorem uI {n a:Nat}(h:a+1<n)(i:Nat)(hi:i<=n):eu n a (a+1) i=eu n (a+1) 0 i:=by
 unfold eu
 by_cases h1:n-1-a<i
 ·rw[if_pos h1,if_pos (by omega)]
 ·rw[if_neg h1]
  by_cases h2:i=n-1-a
  ·rw[if_pos h2,if_pos (by omega)];omega
  ·rw[if_neg h2,if_neg (by omega)]
   split <;> rfl
theorem xG {n a:Nat}(h:n=a+1)(i:Nat)(hi:i<=n):eu n a (a+1) i=n+1-i:=by
 unfold eu
 split
 ·rfl
 ·split <;> lia
theorem qT {n:Nat}(h:0<n)(i:Nat)(hi:i<=n):eu n 0 0 i=1:=by
 unfold eu
 split
 ·lia
 ·split <;> rfl
theorem lr {n:Nat}{L L':Nat->Nat}{T:Nat->Nat->Int}(h:∀i,i<=n->L i=L' i):jj n L T=jj n L' T:=by
 unfold jj
 congr 1
 refine SG λi hi=>?_;rw[h i (by have:=So.mp hi;lia)]
def tO (n idx:Nat)(L:Nat->Nat):Prop:=(n=0/\L 0=1)\/∃a b,a<n/\b<=a+1/\(∀i,i<=n->L i=eu n a b i)/\(mx n).drop idx=du n a b
theorem pG {n:Nat}:tO n 0 λ_=>1:=by
 rcases Vs n with h|h
 ·exact .inl ⟨h,rfl⟩
 ·exact .inr ⟨0,0,h,Rr _,λi hi=>(qT h i hi).symm,tT h⟩
theorem uX {n:Nat}{L:Nat->Nat}(h:tO n (mx n).length L):∀i,i<=n->L i=n+1-i:=by
 rcases h with⟨rfl,h⟩|⟨a,b,h1,h2,h3,h4⟩
 ·intro i hi;rw[show i=0 by lia,h]
 ·intro i hi;rw[List.drop_length]at h4;have hb:b=a+1:=by
   rcases Sm a b with q|q
   ·lia
   ·rw[fZ q]at h4;cases h4
  have ha:n=a+1:=by
   rcases Sm (a+1) n with q|q
   ·rw[hb,lB q,fZ (Rr _)]at h4;cases h4
   ·lia
  rw[h3 i hi,hb];exact xG ha i hi
theorem rG {n idx:Nat}{L:Nat->Nat}{p:Nat×Nat}(h:tO n idx L)(hp:(mx n)[idx]?=some p):∃a b,a<n/\b<=a/\p=(n-1-a,n-a+b)/\(∀i,i<=n->L i=eu n a b i)/\(mx n).drop (idx+1)=du n a (b+1):=by
 have hd:(mx n).drop idx=p::(mx n).drop (idx+1):=by
  obtain⟨h1,h2⟩:=Rw.mp hp;rw[R_ h1,h2]
 rcases h with⟨rfl,h⟩|⟨a,b,h1,h2,h3,h4⟩
 ·cases hp
 ·have key:∃a b,a<n/\b<=a/\(∀i,i<=n->L i=eu n a b i)/\(mx n).drop idx=du n a b:=by
   rcases Sm a b with q|q
   ·have e:b=a+1:=by lia
    rcases Sm (a+1) n with q2|q2
    ·exact⟨a+1,0,q2,Rr _,λi hi=>by rw[h3 i hi,e,uI q2 i hi],by rw[h4,e,lB q2]⟩
    ·rw[h4,e,qE q2]at hd;cases hd
   ·exact⟨a,b,h1,q,h3,h4⟩
  obtain⟨a,b,h1,h2,h3,h4⟩:=key;rw[h4,fZ h2]at hd;injection hd with e1 e2
  exact⟨a,b,h1,h2,e1.symm,h3,e2.symm⟩
theorem nT {n a:Nat}:(dh n a).length=a+1:=by unfold dh;simp
theorem t9 {n a b:Nat}(h:b<a+1):(dh n a).take (b+1)=(dh n a).take b++[(n-1-a,n-a+b)]:=by
 rw[Ti];unfold dh;rw[dt h];rfl
theorem wB {n a:Nat}:(dh n a).take (a+1)=dh n a:=SS (by rw[nT];exact Q4 _)
theorem o3 {n:Nat}:∀a:Nat,a<=n->(((Rz n).take a).flatMap (dh n)).length<=a*a
 |0,_=>by simp
 |a+1,h=>by
  have:=o3 (n:=n) a (by lia)
  rw[Ti,SO (show a<n by lia),Vj,RT]
  have e:((some a).toList.flatMap (dh n)).length=a+1:=by simp[nT]
  rw[e,Nat.mul_add,Nat.add_mul];lia
theorem vZ {n a b:Nat}(hn:n<=80)(ha:a<n)(hb:b<a+1):(((Rz n).take a).flatMap (dh n)).length+((dh n a).take b).length<Ri:=by
 have h1:=o3 (n:=n) a (by lia)
 have h2:((dh n a).take b).length<=b:=by rw[RL];exact Nat.min_le_left _ _
 have h3:a*a<=80*80:=Nat.mul_le_mul (by lia) (by lia)
 have h4:80*80+80<Ri:=by decide
 lia
end L2.Q
namespace kJ
open PySem L2 L2.Q
section
variable {P:Q6}{w:Rl}{K:PySem.W.Frag}{mg:Str->Option QZ}{base:Heap}
theorem fH:aL ["many"] ["many"] (au bt):=⟨rfl,rfl,rfl,by decide +kernel,rfl,by decide +kernel,by decide +kernel⟩
theorem Aw {iP eO} (tw:D4 K mg iP eO) (B:vE mg):aM P w K mg base bW 1 iP eO ["many"] (fG P w true yt):=by
 refine uo tw.F fH (λds R HM=> by obtain⟨n,e,_⟩ := HM;subst e;rfl) λb7 A outer s H E hr=>⟨_,(ar (bq (OU ["i","j","many"] [none,none,some 0] (by rfl) (by decide:(["i","j","many"]:List Str).Nodup) rfl (qK B.range (aa (aE ai (b8.m bu) (ae (i:=0)) ah) (aa (iA dk ah) (aa (iA dk ah) af)))) (λ_ _ _ _ _ _=>(aD (i:=0) (by decide:(["i","j","many"]:List Str).Nodup))) (λ_ _ _ _ _ _=>gP) (λ_ _ _ _ _ _=>(qJ B.range (aa (aE aF ay (ae (i:=0)) ah) (aa (aE aF ay (ae (i:=2)) ah) af)))) (λ_ _ _ _ _ _=>(aD (i:=1) (by decide:(["i","j","many"]:List Str).Nodup))) (λ_ _ _ _ _ _=>gP) (λ_ _ _ _ _ _=>(aQ (aa (ae (i:=0)) (aa (ae (i:=1)) af))))))),λds R h=>?_⟩
 obtain⟨n,rfl,hn,q⟩:=h;refine⟨_,rfl,trivial,_,rfl,trivial,_,rfl,rfl,trivial,_,rfl,rfl,trivial,(n:Int)-1,-1,rfl,⟨by lia,by lia,by lia,by lia⟩,trivial,?_⟩
 have en:((n:Int)-1 - -1).toNat=n:=by lia
 rw[en];refine⟨λa β o=>a<=n/\(∃x0 x1,β=[x0,x1,some (.val false (.int n))])/\o=(((Rz n).take a).flatMap (dh n)).map vp,⟨Rr _,⟨_,_,rfl⟩,rfl⟩,?_,?_⟩
 ·rintro a d β o hd ⟨ha,⟨x0,x1,rfl⟩,rfl⟩;obtain⟨Js,rfl⟩:=nV hd;have e1:(n:Int)-1-a=((n-1-a:Nat):Int):=by lia
  rw[e1];refine⟨_,rfl,trivial,_,rfl,trivial,_,rfl,trivial,_,rfl,trivial,((n-1-a:Nat):Int)+1,(n:Int)+1,rfl,⟨by lia,by lia,by lia,by lia⟩,?_⟩
  have e2:((n:Int)+1-(((n-1-a:Nat):Int)+1)).toNat=a+1:=by lia
  rw[e2];refine⟨λb β o=>b<=a+1/\(∃x1,β=[some (.val true (.int ((n-1-a:Nat):Int))),x1,some (.val false (.int n))])/\o=(((Rz n).take a).flatMap (dh n)++(dh n a).take b).map vp,⟨Rr _,⟨_,rfl⟩,by simp⟩,?_,?_⟩
  ·rintro b d β o hd ⟨hb,⟨x1,rfl⟩,rfl⟩;obtain⟨p_,rfl⟩:=cB hd;refine⟨_,rfl,trivial,_,rfl,trivial,fK,trivial,?_,p_,⟨_,rfl⟩,?_⟩
   ·rw[Q3,RT];exact vZ hn Js p_
   ·rw[show ((n-1-a:Nat):Int)+1+(b:Int)=((n-a+b:Nat):Int) by lia,t9 p_,<- R8,RS,RS,RS]
    rfl
  ·rintro β o ⟨_,⟨x1,rfl⟩,rfl⟩;refine⟨Js,⟨_,_,rfl⟩,?_⟩;rw[cz,wB,Ti,SO Js,Vj];simp
 ·rintro β o ⟨_,⟨x0,x1,rfl⟩,rfl⟩;rw[nU,SS (by simp)]
  exact⟨trivial,trivial,q⟩
theorem bp:aL ["row","many","ties","partners","a","b"] ["row"] (au cn):=⟨rfl,rfl,rfl,by decide +kernel,rfl,by decide +kernel,by decide +kernel⟩
theorem sQ {gI dy} (l5:D5 K mg gI dy) (B:vE mg):aM P w K mg base bW 1 gI dy ["row"] (fG P w true j5):=by
 refine uo l5.F bp (λds R HL=> by obtain⟨n,ps,e,_⟩ := HL;subst e;rfl) λb7 A outer s H E hr=>⟨_,(aj (xb (ae (i:=0)) (fB (n:=2) rfl (ba (aD (i:=1) bp.nd) (ba (aD (i:=2) bp.nd) dN))))
    (aj (zU (i:=3) true ["point"] [none] (by rfl) (by decide:(["point"]:List Str).Nodup) rfl (λ_=>(bN B.range (aa (ae (i:=1)) af))) (λ_ _ _ _ _ _=>(aD (i:=0) (by decide:(["point"]:List Str).Nodup))) (λ_ _ _ _ _ _=>gP) (λ_ _ _ _ _ _=>(a_ af)) bp.nd)
    (aj (d_ SA rfl (c9 (ae (i:=2))) (fB (n:=2) rfl (ba (aD (i:=4) bp.nd) (ba (aD (i:=5) bp.nd) dN))) (ar (iB (i:=3) true (λ_=>(ae (i:=5))) (λ_=>(ae (i:=4))))))
    (ar (iW (i:=3)))))),λds R h=>?_⟩
 obtain⟨n,ps,rfl,ok,q⟩:=h;have hn:=ok.le;refine⟨_,rfl,_,rfl,rfl,_,_,rfl,_,_,rfl,rfl,_,rfl,trivial,n,rfl,by lia,by lia,trivial,?_⟩
 rw[VD];refine mP (λ_=>true) (λ_=>.lst []) trivial (by rw[Sg];exact dq (by lia)) (λx hx x0 o J ho h1 _=>⟨Rr _,trivial,ho,h1 rfl _⟩) ?_
 rw[iF];refine⟨_,rfl,_,rfl,trivial,?_⟩;refine⟨λm β=>∃x4 x5,β=[some (.val false (iU n ps)),some (.val true (.int n)),some (.val false (vT ps)),some (.own (wJ n (ps.take m))),x4,x5],⟨_,_,rfl⟩,?_,?_⟩
 ·rintro m d β hd ⟨x4,x5,rfl⟩;rw[Rn]at hd;obtain⟨p,hp,rfl⟩:=RE.mp hd;obtain⟨h1,h2⟩:=ok.lt p (SE hp);refine⟨_,rfl,rfl,_,_,rfl,_,_,rfl,rfl,⟨_,rfl⟩,_,rfl,_,_,_,_,rfl,rfl,by rw[Q3,Sg];exact GY rfl (show p.1<n by lia),dt (show p.1<n by lia),_,rfl,trivial,rfl,?_,?_⟩
  ·unfold Q.cO;rw[Q3];have:=gv (ps:=ps.take m) (i:=p.1);rw[RL]at this;have:=ok.sm;exact nJ (by lia)
  ·refine⟨some (.val true (.int p.1)),some (.val true (.int p.2)),?_⟩;have e:ps.take (m+1)=ps.take m++[(p.1,p.2)]:=by rw[Ti,hp];rfl
   rw[Dk (show p.1<n by lia),e]
   rfl
 ·rintro β ⟨x4,x5,rfl⟩;rw[Q3,UM];exact⟨_,rfl,q⟩
theorem jr:aL ["worth","table","i","k","j"] ["worth","table","i","k","j"] (au cq):=⟨rfl,rfl,rfl,by decide +kernel,rfl,by decide +kernel,by decide +kernel⟩
theorem sR {eU cj} (i5:D6 K mg eU cj):aM P w K mg base bW 1 eU cj ["worth","table","i","k","j"] (fG P w true j6):=by
 refine uo i5.F jr (λds R HJ=> by obtain⟨n,ps,w,L,T,i,k,j,e,_⟩ := HJ;subst e;rfl) λb7 A outer s H E hr=>⟨_,(ar (bq (aE aF ay (aE aF ay (bb ai (GW hr.vP) (ae (i:=0)) (aQ (aa (ae (i:=2)) (aa (ae (i:=3)) af)))) (bb ai b9 (bb ai b9 (ae (i:=1)) (aE aF ay (ae (i:=2)) ah)) (aE ai (b8.m bu) (aE ai (b8.m bu) (ae (i:=3)) (ae (i:=2))) ah))) (bb ai b9 (bb ai b9 (ae (i:=1)) (aE aF ay (ae (i:=3)) ah)) (aE ai (b8.m bu) (aE ai (b8.m bu) (ae (i:=4)) (ae (i:=3))) ah))))),λds R h=>?_⟩
 obtain⟨n,ps,w,L,T,i,k,j,rfl,hm,h1,h2,h3,h4,h5,q⟩:=h;exact⟨_,rfl,trivial,_,rfl,trivial,_,rfl,trivial,fK,_,ET hm,trivial,_,rfl,trivial,_,rfl,trivial,_,rfl,_,lK (i:=i+1) (by lia) (by lia),.inr ⟨trivial,_,rfl,trivial,_,rfl,_,rfl,trivial,_,rfl,_,lL (l:=k-i-1) (by lia) h4,_,rfl,trivial,
  _,rfl,trivial,_,rfl,trivial,_,rfl,_,lK (i:=k+1) (by lia) (by lia),.inr ⟨trivial,_,rfl,trivial,_,rfl,_,rfl,trivial,_,rfl,_,lL (l:=j-k-1) (by lia) h5,_,rfl,trivial,q⟩⟩⟩
theorem eK:aL ["partners","worth","table","i","j","numbers"] ["partners","worth","table","i","j"] (au bX):=⟨rfl,rfl,rfl,by decide +kernel,rfl,by decide +kernel,by decide +kernel⟩
theorem xr {iQ eP} (tD:D7 K mg iQ eP) {eU cj} (i5:D6 K mg eU cj) (B:vE mg):aM P w K mg base bW 2 iQ eP ["partners","worth","table","i","j"] (fG P w true j8):=by
 have My:aM P w K mg base bW 1 _ _ _ (fG P w true j6):= sR i5;refine uo tD.F eK (λds R HI=> by obtain⟨n,ps,w,L,T,i,j,e,_⟩ := HI;subst e;rfl) λb7 A outer s H E hr=>⟨_,(aj (zU (i:=5) false ["k","worth","table","i","j"] [none,some 1,some 2,some 3,some 4] (by rfl) (by decide:(["k","worth","table","i","j"]:List Str).Nodup) rfl (λ_=>(c9 (bb ai b9 (ae (i:=0)) (ae (i:=3))))) (λ_ _ _ _ _ _=>(aD (i:=0) (by decide:(["k","worth","table","i","j"]:List Str).Nodup))) (λ_ _ _ _ _ _=>(qo (aS ai (b8.m mI) (ae (i:=0)) (ae (i:=4))))) (λ_ _ _ _ _ _=>(a8 j6.mono My (hr.mono (by decide)) i5.m i5.F.kp i5.b (aa (ae (i:=1)) (aa (ae (i:=2)) (aa (ae (i:=3)) (aa (ae (i:=0)) (aa (ae (i:=4)) af))))))) eK.nd)
    (ar (bq (c_ ai (dC.m (vd rfl)) B.max rO (aa (aE aF ay (ae (i:=5)) (a_ (aa (bb ai b9 (bb ai b9 (ae (i:=2)) (aE aF ay (ae (i:=3)) ah)) (aE ai (b8.m bu) (aE ai (b8.m bu) (ae (i:=4)) (ae (i:=3))) ah)) af))) af))))),λds R h=>?_⟩
 obtain⟨n,ps,w,L,T,i,j,rfl,ok,h1,h2,h3,q⟩:=h;have Et:=ok.sm;have hle:=ok.le;have hl:((kA ps i).filter λk=>decide (k<j)).length<=400:=R6 (T8 _ _) (R6 gv Et);refine⟨_,rfl,trivial,_,rfl,_,GX rfl (by lia),.inr ⟨_,rfl,trivial,?_⟩⟩
 refine mP (λk=>decide (k<j)) (λk=>.int (w (i,k)+T (k-i-1) (i+1)+T (j-k-1) (k+1))) trivial (dq (R6 gv (by lia))) (λk hk x0 o J ho j1 j2=>?_) ?_
 ·have hm:=ee.mp hk;obtain⟨g1,g2⟩:=ok.lt _ hm;dsimp only at g1 g2;refine⟨_,rfl,trivial,_,rfl,_,rfl,_,rfl,oS (λLJ=>?_) (λLJ=>j2 (by simp;lia) _)⟩
  have yf:k<j:=by lia
  have a1:=h3 (i+1) (by lia) (by lia)
  have a2:=h3 (k+1) (by lia) (by lia)
  exact⟨_,rfl,trivial,_,rfl,trivial,_,rfl,trivial,_,rfl,trivial,_,rfl,trivial,n,ps,w,L,T,i,k,j,rfl,hm,g1,yf,h2,by lia,by lia,trivial,ho,j1 (by simpa using yf) _⟩
 ·have a1:=h3 (i+1) (by lia) (by lia)
  refine⟨_,rfl,trivial,_,rfl,trivial,_,rfl,trivial,_,rfl,_,lK (i:=i+1) (by lia) (by lia),.inr ⟨trivial,_,rfl,trivial,_,rfl,_,rfl,trivial,_,rfl,_,lL (l:=j-i-1) (by lia) (by lia),trivial,Fo,_,yH (by rw[Q3];show _+1<=_;lia),.inl ⟨lW lV rfl,trivial,_,xC,trivial,q⟩⟩⟩
theorem aT:aL ["row","worth","many","partners","table","i","j"] ["row","worth"] (au bC):=⟨rfl,rfl,rfl,by decide +kernel,rfl,by decide +kernel,by decide +kernel⟩
theorem xt {k8 fR} (tE:D8 K mg k8 fR) {gI dy} (l5:D5 K mg gI dy) {iP eO} (tw:D4 K mg iP eO) {iQ eP} (tD:D7 K mg iQ eP) {eU cj} (i5:D6 K mg eU cj) (B:vE mg):aM P w K mg base bW 3 k8 fR ["row","worth"] (fG P w true j9):=by
 have Mv:aM P w K mg base bW 1 _ _ _ (fG P w true j5):= sQ l5 B;have Ql:aM P w K mg base bW 1 _ _ _ (fG P w true yt):= Aw tw B;have Qo:aM P w K mg base bW 2 _ _ _ (fG P w true j8):= xr tD i5 B;refine uo tE.F aT (λds R HH=> by obtain⟨n,ps,w,e,_⟩ := HH;subst e;rfl) λb7 A outer s H E hr=>⟨_,(aj (aW (i:=2) (bb ai b9 (ae (i:=0)) ah) aT.nd)
    (aj (aW (i:=3) (a8 j5.mono Mv (hr.mono (by decide)) l5.m l5.F.kp l5.b (aa (ae (i:=0)) af)) aT.nd)
    (aj (zU (i:=4) true ["i"] [none] (by rfl) (by decide:(["i"]:List Str).Nodup) rfl (λ_=>(bN B.range (aa (aE aF ay (ae (i:=2)) ah) af))) (λ_ _ _ _ _ _=>(aD (i:=0) (by decide:(["i"]:List Str).Nodup))) (λ_ _ _ _ _ _=>gP) (λ_ _ _ _ _ _=>(a_ (aa ah af))) aT.nd)
    (aj (d_ SA rfl (c9 (a8 yt.mono Ql (hr.mono (by decide)) tw.m tw.F.kp tw.b (aa (ae (i:=2)) af))) (fB (n:=2) rfl (ba (aD (i:=5) aT.nd) (ba (aD (i:=6) aT.nd) dN))) (ar (iB (i:=4) true (λ_=>(a8 j8.mono Qo (hr.mono (by decide)) tD.m tD.F.kp tD.b (aa (ae (i:=3)) (aa (ae (i:=1)) (aa (ae (i:=4)) (aa (ae (i:=5)) (aa (ae (i:=6)) af))))))) (λ_=>(ae (i:=5))))))
    (ar (iW (i:=4))))))),λds R h=>?_⟩
 obtain⟨n,ps,w,rfl,ok,q⟩:=h;have hn:=ok.le;have hp:∀p∈ps,p.1<p.2:=λp hp=>(ok.lt p hp).1;refine⟨_,rfl,trivial,_,rfl,_,rfl,trivial,n,ps,rfl,ok,_,rfl,trivial,_,rfl,trivial,(n:Int)+1,rfl,by lia,by lia,trivial,?_⟩
 rw[show ((n:Int)+1).toNat=n+1 by lia]
 refine mP (λ_=>true) (λ_=>.lst [.int 0]) trivial (by rw[Sg];exact dq (by lia)) (λx hx x0 o J ho h1 _=>⟨trivial,Fo,trivial,ho,h1 rfl _⟩) ?_
 rw[iF];refine⟨_,rfl,trivial,n,rfl,hn,_,rfl,trivial,?_⟩;refine⟨λidx β=>∃L x5 x6,β=[some (.val false (iU n ps)),some (.val false (wD ps w)),some (.val true (.int n)),some (.val true (wJ n ps)),some (.own (jj n L (tW ps w))),x5,x6]/\tO n idx L,⟨λ_=>1,_,_,rfl,pG⟩,?_,?_⟩
 ·rintro idx d β hd ⟨L,x5,x6,rfl,dn⟩;rw[Rn]at hd;obtain⟨p,zk,rfl⟩:=RE.mp hd;obtain⟨a,b,ha,hb,rfl,hL,Hi⟩:=rG dn zk;have eL:jj n L (tW ps w)=jj n (eu n a b) (tW ps w):=lr hL;have e0:eu n a b (n-1-a)=b+1:=by unfold eu;rw[if_neg (by lia),if_pos rfl]
  rw[eL];refine⟨_,rfl,rfl,_,_,rfl,_,_,rfl,rfl,⟨_,rfl⟩,_,rfl,_,_,_,_,rfl,rfl,by rw[Q3,Sg];exact GY rfl (show n-1-a<n+1 by lia),dt (show n-1-a<n+1 by lia),
   _,rfl,trivial,_,rfl,trivial,_,rfl,trivial,_,rfl,trivial,_,rfl,trivial,n,ps,w,eu n a b,tW ps w,n-1-a,n-a+b,rfl,ok,by lia,by lia,λa' h1 h2=>by unfold eu;rw[if_pos h1];exact Q4 _,trivial,rfl,?_,?_⟩
  ·rw[e0];unfold nG;rw[Q3,Sg];exact nJ (by lia)
  ·refine⟨eu n a (b+1),some (.val true (.int ((n-1-a:Nat):Int))),some (.val true (.int ((n-a+b:Nat):Int))),?_,.inr ⟨a,b+1,ha,by lia,λ_ _=>rfl,Hi⟩⟩
   have ev:iN ps w (tW ps w) (n-1-a) (n-a+b)=tW ps w (b+1) (n-1-a):=by rw[rZ hp,show n-1-a+b+1=n-a+b by lia]
   rw[ev,e0,zP ha hb];rfl
 ·rintro β ⟨L,x5,x6,rfl,dn⟩;rw[Q3]at dn;have e:jj n L (tW ps w)=fO n (tW ps w):=lr (uX dn);rw[e];exact⟨_,rfl,q⟩
theorem nQ:aL ["row"] ["row"] (au dZ):=⟨rfl,rfl,rfl,by decide +kernel,rfl,by decide +kernel,by decide +kernel⟩
theorem xp {k7 fQ} (qb:D9 K mg k7 fQ):aM P w K mg base bW 1 k7 fQ ["row"] (fG P w true rD):=by
 refine uo qb.F nQ (λds R HG=> by obtain⟨n,ps,e,_⟩ := HG;subst e;rfl) λb7 A outer s H E hr=>⟨_,(ar (bq (P9 (Nat.lt_of_succ_lt hr.vP) ["tie"] [none] (by rfl) (by decide:(["tie"]:List Str).Nodup) rfl (c9 (bb ai b9 (ae (i:=0)) ah)) (λ_ _ _ _ _ _=>(aD (i:=0) (by decide:(["tie"]:List Str).Nodup))) (λ_ _ _ _ _ _=>gP) (λ_ _ _ _ _ _=>(ae (i:=0))) (λ_ _ _ _ _ _=>ah)))),λds R h=>?_⟩
 obtain⟨n,ps,rfl,ok,q⟩:=h;have Et:=ok.sm;refine⟨_,rfl,trivial,_,rfl,.inr ⟨_,rfl,trivial,?_⟩⟩;refine⟨λm β o=>m<=ps.length/\(∃x0,β=[x0])/\o=(ps.take m).map λp=>(tI p,D.int (w1 p)),⟨Rr _,⟨_,rfl⟩,rfl⟩,?_,?_⟩
 ·rintro m d β o hd ⟨hm,⟨x0,rfl⟩,rfl⟩;rw[Rn]at hd;obtain⟨p,hp,rfl⟩:=RE.mp hd;have fI:=(Rw.mp hp).1;refine⟨_,rfl,tI p,rfl,rfl,AF (AJ ok.nd hp),?_,fI,⟨_,rfl⟩,?_⟩
  ·rw[Q3,RL];exact nJ (by lia)
  ·rw[Ti,hp,RS];rfl
 ·rintro β o ⟨_,⟨x0,rfl⟩,rfl⟩;rw[Q3,UM];exact⟨trivial,trivial,q⟩
theorem nP:aL ["row"] ["row"] (au dY):=⟨rfl,rfl,rfl,by decide +kernel,rfl,by decide +kernel,by decide +kernel⟩
theorem xn {ph iG} (zq:JG K mg ph iG) {k8 fR} (tE:D8 K mg k8 fR) {gI dy} (l5:D5 K mg gI dy) {iP eO} (tw:D4 K mg iP eO) {iQ eP} (tD:D7 K mg iQ eP) {eU cj} (i5:D6 K mg eU cj) {k7 fQ} (qb:D9 K mg k7 fQ) (B:vE mg):aM P w K mg base bW 4 ph iG ["row"] (fG P w true jZ):=by
 have Qq:aM P w K mg base bW 3 _ _ _ (fG P w true j9):= xt tE l5 tw tD i5 B;have Mw:aM P w K mg base bW 1 _ _ _ (fG P w true rD):= xp qb;refine uo zq.F nP (λds R HF=> by obtain⟨n,ps,e,_⟩ := HF;subst e;rfl) λb7 A outer s H E hr=>⟨_,(ar (bq (a8 j9.mono Qq (hr.mono (by decide)) tE.m tE.F.kp tE.b (aa (ae (i:=0)) (aa (a8 rD.mono Mw (hr.mono (by decide)) qb.m qb.F.kp qb.b (aa (ae (i:=0)) af)) af))))),λds R h=>?_⟩
 obtain⟨n,ps,rfl,ok,q⟩:=h;exact⟨_,rfl,trivial,_,rfl,trivial,n,ps,rfl,ok,trivial,n,ps,w1,rfl,ok,trivial,q⟩
end
end kJ
namespace L2.Q
theorem uB {l:List Int}{x:Int}:(oH (l++[x])).getD 0∈l++[x]/\∀y∈l++[x],y<=(oH (l++[x])).getD 0:=by
 cases l with
 |nil=>exact bZ [] x
 |cons a l=>exact bZ (l++[x]) a
theorem uH {ps:List (Nat×Nat)}{w:Nat×Nat->Int}{T:Nat->Nat->Int}{i j:Nat}:
  (iN ps w T i j=T (j-i-1) (i+1)\/∃k,(i,k)∈ps/\k<j/\iN ps w T i j=w (i,k)+T (k-i-1) (i+1)+T (j-k-1) (k+1)) /\
  T (j-i-1) (i+1)<=iN ps w T i j/\∀k,(i,k)∈ps->k<j->w (i,k)+T (k-i-1) (i+1)+T (j-k-1) (k+1)<=iN ps w T i j:=by
 obtain⟨h1,h2⟩:=uB (l:=((kA ps i).filter λk=>decide (k<j)).map λk=>w (i,k)+T (k-i-1) (i+1)+T (j-k-1) (k+1)) (x:=T (j-i-1) (i+1));refine⟨?_,h2 _ (by simp),λk hk hj=>h2 _ (Sh _ (R5.mpr ⟨k,SH.mpr ⟨ee.mpr hk,decide_eq_true hj⟩,rfl⟩))⟩
 rcases Rx.mp h1 with h|h
 ·obtain⟨k,hk,e⟩:=R5.mp h;obtain⟨q1,q2⟩:=SH.mp hk;exact .inr ⟨k,ee.mp q1,of_decide_eq_true q2,e.symm⟩
 ·exact .inl (Rk.mp h)
open PySem PySem.Spec PySem.SeqAt PyProof.Rows
section
variable {X:Cx}{C:Cfg}{e a:Expr}{φ:aN}{p:Bool}{pos p2 p3 p4:Pos}{j:Nat}
theorem Ai {te:TE}(he:PE X e te):PE X (.Subscript e (.Slice none none (some (.UnaryOp .USub (.Constant (.int 1) j p3) p4)) p2) pos) (λσ H Q=>te σ H λx H1=>∃a xs,x=.ref a/\H1 a=some (.lst xs)/\∀p,H1 p=none->Q (.ref p) (upd H1 p (.lst xs.reverse))):=by
 intro pins s σ H Q I h;refine Subscript_ (br (he pins s σ H _ I h) λv s1 ⟨x,H1,I1,r1,q1⟩=>?_);refine wpAny_Slice ?_;rw[evalPart_none];refine Q_ (Q_ ?_);rw[evalPart_some];refine br (BQ (X:=X) (pos:=p4) vQ (aV (i:=1) (j:=j) (pos:=p3)) pins s1 σ H1 (λv H'=>v=.int (-1)/\H'=H1) I1 ⟨1,rfl,rfl,rfl⟩) λu s3 ⟨y,H3,I3,r3,ey,eH⟩=>?_;subst ey eH;obtain⟨tk,rfl⟩:=(show ∃t,u=Value.int (-1) t from r3)
 have I4:Inv X pins σ H3 {s3 with heap:=s3.heap.push {cls:=.type "slice",data:=.fields #[.none,.none,.int (-1) tk]}}:=I3.kept (t':=s3.toks) λb ob q=>Q8 _ q
 have Cc:(s3.heap.push {cls:=.type "slice",data:=.fields #[.none,.none,.int (-1) tk]}).IsSliceOf s3.heap.objs.size .none .none (.int (-1) tk):=Heap.IsSliceOf.new ..
 generalize O7:({s3 with heap:=s3.heap.push {cls:=.type "slice",data:=.fields #[.none,.none,.int (-1) tk]}}:Q1)=s4 at I4 ⊢
 have K2:s4.heap.IsSliceOf s3.heap.objs.size .none .none (.int (-1) tk):=by rw[<- O7];exact Cc
 have main:∃T id,typeLookup (.type T) "__getitem__" = pure (some (.builtin id))/\s4.TypeIs v T/\RA (model X.prog X.w) X.A (getItem v (.ref s3.heap.objs.size)) (EP X pins σ Q) X.xe s4:=by
  obtain⟨a,xs,rfl,hx,q⟩:=q1;cases (show v=Value.ref a from r1)
  obtain⟨its,r,ht,hz⟩:=I4.list (dg.of hx);have hlen:=r.length;refine⟨"list",_,Vw.lookup,ht.isList.typeIs,?_⟩;refine wpAny_getItem_list_slice ht.isList K2 .none .none (.int (-1) tk) (by simp) ?_ (by rw[Ry] <;> lia)
  rw[HT.kL];refine⟨.ref s4.heap.objs.size,_,I4.laid (t':=s4.toks) (o:=.lst xs.reverse) (λb ob q=>Q8 _ q) (Q4 _) ?_,rfl,q _ (I4.bj.fresh (Q4 _))⟩;exact⟨by rw[List.length_reverse];lia,_,0,by simpa using Vals.rev r,RV _ rfl⟩
 obtain⟨T,id,hT,ht,hg⟩:=main;show RA (model X.prog X.w) X.A (subscriptTail e (.Slice none none (some (.UnaryOp .USub (.Constant (.int 1) j p3) p4)) p2) v (.ref s3.heap.objs.size)) (EP X pins σ Q) X.xe s4;exact tail_any (ops:=[v,.ref s3.heap.objs.size]) ht hT hg (by with_unfolding_all rfl)
def Iw:D->Option D
 |.lst ds=>some (.lst ds.reverse)
 |_=>none
def F7 (φ:aN):aN:=λβ R=>φ β λx k β1=>∃d,Iw x=some d/\kN NL d k.wk λk'=>R d k' β1
theorem z_ {j:Nat}(ha:PQ X C p a φ):PQ X C p (.Subscript a (.Slice none none (some (.UnaryOp .USub (.Constant (.int 1) j p3) p4)) p2) pos) (F7 φ) :=
 ⟨λβ R R' k h=>ha.mono β _ _ (λx kx β1 h=>by obtain⟨d,e,q⟩:=h;exact⟨d,e,q.mono λ_ z=>k _ _ _ z⟩) h,
  (Ai ha.pe).pre λσ H Q h=>by
    obtain⟨β,own,s,h⟩:=h;refine tQ.of ha s h λd k β1 v H1 aB h o1 r1=>?_;obtain⟨d',e,q⟩:=h;have rr:=aw.aP yU r1.rep;cases d with
    |lst ds =>
      cases e;obtain⟨c,vs,rfl,h1,n1,rs⟩:=rr;refine⟨c,vs,rfl,h1,λp hp=>?_⟩;have sm:az H1 (upd H1 p (.lst vs.reverse)):=az.new hp;have hw:¬ av C (Wn aB) k.wk p:=λz=>o1.sq.yC _ p z hp;have r2:aw X.prog X.w (av C (Wn aB) k.wk) (upd H1 p (.lst vs.reverse)) (.lst ds.reverse) (.ref p):=⟨p,_,rfl,ao,hw,(ag.rev rs).same sm⟩;obtain⟨k',q,r⟩:=KV.kN (Z:=(H,Wn own)) BK r2 (λn=>fD (H:=H1) o1.sq.uY o1.sq.fT (λa z e=>o1.sn.d a z e) n ⟨p,_,rfl,ao,λz=>z hp,ag.flat n ((ag.rev rs).same sm)⟩) q;exact q _ _ aB (o1.same sm) r
    |_=>cases e⟩
end
section
variable {X:Cx}{C:Cfg}{a:Expr}{φ:aN}{p:Bool}
def Ke (φ:aN):aY:=λβ R=>φ β λd _ β'=>∃ds,d=.lst ds/\R (!ds.isEmpty) β'
theorem z8 (ha:PQ X C p a φ)(he:∀whole,VG a X.env whole=(do let v <- whole;UQ a.pos;holding [v] (truthy v)):=by intro _;rfl):qe X C p a (Ke φ) :=
 ⟨λβ R R' k h=>ha.mono β _ _ (λd kd β' h=>by obtain⟨b,e,q⟩:=h;exact⟨b,e,k _ _ q⟩) h,(wI ha.pe he).pre λσ H Q h=>by
  obtain⟨β,own,s,h⟩:=h;refine tQ.of ha s h λd k β' v H1 aB h o1 r1=>?_;obtain⟨ds,e,q⟩:=h;subst e;obtain⟨c,vs,rfl,h1,n1,rs⟩:=r1.rep;refine⟨!ds.isEmpty,.inl ⟨vs,dg.of h1,?_⟩,q H1 aB o1⟩;have:=rs.length;cases ds <;> cases vs <;> first|rfl|cases this⟩
end
def oD:Option Nat->D
 |none=>.bB
 |some k=>.int (k:Int)
def parts (i:Nat)(k:Option Nat)(j:Nat):List (Nat×Nat):=match k with
 |none=>[(i+1,j)]
 |some k=>[(i+1,k),(k+1,j)]
def eQ (ps:List (Nat×Nat))(w:Nat×Nat->Int)(T:Nat->Nat->Int)(i j:Nat):List (Option Nat) :=
 ((kA ps i).filter λk=>decide (k<j)&&decide (w (i,k)+T (k-i-1) (i+1)+T (j-k-1) (k+1)=T (j-i) i)).map some++(if T (j-i-1) (i+1)=T (j-i) i then [none] else [])
def OH (ps:List (Nat×Nat))(w:Nat×Nat->Int)(T:Nat->Nat->Int)(i j:Nat):Option Nat->Prop
 |none=>T (j-i-1) (i+1)=T (j-i) i
 |some k=>(i,k)∈ps/\k<j/\w (i,k)+T (k-i-1) (i+1)+T (j-k-1) (k+1)=T (j-i) i
theorem fE {ps:List (Nat×Nat)}{w:Nat×Nat->Int}{T:Nat->Nat->Int}{i j:Nat}{c:Option Nat}(h:c∈eQ ps w T i j):OH ps w T i j c:=by
 unfold eQ at h;rcases Rx.mp h with h|h
 ·obtain⟨k,hk,rfl⟩:=R5.mp h;obtain⟨h1,h2⟩:=SH.mp hk;rw[RZ,decide_eq_true_eq,decide_eq_true_eq]at h2;exact⟨ee.mp h1,h2.1,h2.2⟩
 ·split at h
  ·next e=>rw[Rk.mp h];exact e
  ·cases h
theorem pP {ps:List (Nat×Nat)}{w:Nat×Nat->Int}(hp:∀p∈ps,p.1<p.2){i j:Nat}(h:i<j):eQ ps w (tW ps w) i j≠[]:=by
 have e:tW ps w (j-i) i=iN ps w (tW ps w) i j:=by rw[show j-i=(j-i-1)+1 by lia,rZ hp,show i+(j-i-1)+1=j by lia]
 obtain⟨h1,_,_⟩:=uH (ps:=ps) (w:=w) (T:=tW ps w) (i:=i) (j:=j);rw[<- e]at h1;unfold eQ;intro z;obtain⟨z1,z2⟩:=List.append_eq_nil_iff.mp z;rcases h1 with q|⟨k,hk,hj,q⟩
 ·rw[if_pos q.symm]at z2;cases z2
 ·have:k∈(kA ps i).filter λk=>decide (k<j)&&decide (w (i,k)+tW ps w (k-i-1) (i+1)+tW ps w (j-k-1) (k+1)=tW ps w (j-i) i):=SH.mpr ⟨ee.mpr hk,by rw[RZ,decide_eq_true_eq,decide_eq_true_eq];exact⟨hj,q.symm⟩⟩
  rw[List.map_eq_nil_iff.mp z1]at this;cases this
def cM (ps:List (Nat×Nat))(w:Nat×Nat->Int)(i j:Nat):Option Nat:=(eQ ps w (tW ps w) i j).headD none
theorem eF {ps:List (Nat×Nat)}{w:Nat×Nat->Int}(hp:∀p∈ps,p.1<p.2){i j:Nat}(h:i<j):cM ps w i j∈eQ ps w (tW ps w) i j:=by
 have:=pP (w:=w) hp h;unfold cM;cases q:eQ ps w (tW ps w) i j with
 |nil=>exact absurd q this
 |cons a l=>simp
def kZ (ps:List (Nat×Nat))(w:Nat×Nat->Int):Nat->Nat->Nat->List (Nat×Nat)
 |0,_,_=>[]
 |n+1,i,j=>if i<j then match cM ps w i j with
   |none=>kZ ps w n (i+1) j
   |some k=>(i,k)::(kZ ps w n (i+1) k++kZ ps w n (k+1) j)
  else []
theorem c5 {ps:List (Nat×Nat)}{w:Nat×Nat->Int}(hp:∀p∈ps,p.1<p.2):∀{n m i j:Nat},j-i<=n->j-i<=m->kZ ps w n i j=kZ ps w m i j
 |0,0,_,_,_,_=>rfl
 |0,m+1,i,j,h,_=>by unfold kZ;rw[if_neg (by omega)]
 |n+1,0,i,j,_,h=>by unfold kZ;rw[if_neg (by omega)]
 |n+1,m+1,i,j,h1,h2=>by
  unfold kZ
  by_cases h:i<j
  ·rw[if_pos h,if_pos h];have hm:=fE (eF (w:=w) hp h);cases q:cM ps w i j with
   |none=>exact c5 hp (by omega) (by omega)
   |some k =>
    rw[q]at hm;have:=hp _ hm.1;dsimp only at this;have h3:=hm.2.1;dsimp only;rw[c5 hp (n:=n) (m:=m) (i:=i+1) (j:=k) (by omega) (by omega),c5 hp (n:=n) (m:=m) (i:=k+1) (j:=j) (by omega) (by omega)]
  ·rw[if_neg h,if_neg h]
def eT (ps:List (Nat×Nat))(w:Nat×Nat->Int)(i j:Nat):List (Nat×Nat):=kZ ps w (j-i) i j
theorem jX {ps:List (Nat×Nat)}{w:Nat×Nat->Int}{i j:Nat}(h:¬ i<j):eT ps w i j=[]:=by
 unfold eT;rw[show j-i=0 by lia]
 rfl
theorem lS {ps:List (Nat×Nat)}{w:Nat×Nat->Int}(hp:∀p∈ps,p.1<p.2){i j:Nat}(h:i<j):eT ps w i j=match cM ps w i j with
  |none=>eT ps w (i+1) j
  |some k=>(i,k)::(eT ps w (i+1) k++eT ps w (k+1) j):=by
 unfold eT;rw[show j-i=(j-i-1)+1 by lia]
 conv=>lhs;unfold kZ
 rw[if_pos h];have hm:=fE (eF (w:=w) hp h);cases q:cM ps w i j with
 |none=>exact c5 hp (by lia) (by lia)
 |some k =>
  rw[q]at hm;have:=hp _ hm.1;dsimp only at this;have h3:=hm.2.1;dsimp only;rw[c5 hp (n:=j-i-1) (m:=k-(i+1)) (i:=i+1) (j:=k) (by lia) (by lia),c5 hp (n:=j-i-1) (m:=j-(k+1)) (i:=k+1) (j:=j) (by lia) (by lia)]
def oU (i:Nat):Option Nat->List (Nat×Nat)
 |none=>[]
 |some k=>[(i,k)]
theorem rq {ps:List (Nat×Nat)}{w:Nat×Nat->Int}(hp:∀p∈ps,p.1<p.2){i j:Nat}(h:i<j):eT ps w i j=oU i (cM ps w i j)++(parts i (cM ps w i j) j).flatMap λp=>eT ps w p.1 p.2:=by
 rw[lS hp h];cases cM ps w i j with
 |none=>simp[parts,oU]
 |some k=>simp[parts,oU]
theorem yp {ps:List (Nat×Nat)}{w:Nat×Nat->Int}(hp:∀p∈ps,p.1<p.2):∀l i j,j-i<=l->2*(eT ps w i j).length<=j-i:=by
 intro l
 induction l with
 |zero=>intro i j h;rw[jX (by lia)];exact Rr _
 |succ l ih =>
  intro i j h
  by_cases aG:i<j
  ·rw[lS hp aG];have hm:=fE (eF (w:=w) hp aG);cases q:cM ps w i j with
   |none=>have:=ih (i+1) j (by lia);dsimp only;lia
   |some k =>
    rw[q]at hm;have h1:=hp _ hm.1;dsimp only at h1;have h3:=hm.2.1;have a1:=ih (i+1) k (by lia)
    have a2:=ih (k+1) j (by lia)
    dsimp only;rw[Rq,RT];lia
  ·rw[jX aG];exact Rr _
def j4:FD:=λds R=>∃(i:Nat) (k:Option Nat) (j:Nat),ds=[.int i,oD k,.int j]/\R (.lst ((parts i k j).map vp))
theorem j4.mono:dS j4:=λds R R' k h=>by obtain⟨i,c,j,e,q⟩:=h;exact⟨i,c,j,e,k _ q⟩
def pC:FD:=λds R=>∃(n:Nat) (ps:List (Nat×Nat)) (w:Nat×Nat->Int) (T:Nat->Nat->Int) (i j:Nat),ds=[wJ n ps,wD ps w,fO n T,.int i,.int j]/\zu n ps/\i<j/\j<=n/\R (.lst ((eQ ps w T i j).map oD))
theorem pC.mono:dS pC:=λds R R' k h=>by obtain⟨n,ps,w,T,i,j,e,h1,h2,h3,q⟩:=h;exact⟨n,ps,w,T,i,j,e,h1,h2,h3,k _ q⟩
def pA:FD:=λds R=>∃(n:Nat) (ps:List (Nat×Nat)) (w:Nat×Nat->Int) (i j:Nat),ds=[iU n ps,wD ps w,fO n (tW ps w),.int i,.int j]/\zu n ps/\i<=j/\j<=n/\R (vT (eT ps w i j))
theorem pA.mono:dS pA:=λds R R' k h=>by obtain⟨n,ps,w,i,j,e,h1,h2,h3,q⟩:=h;exact⟨n,ps,w,i,j,e,h1,h2,h3,k _ q⟩
def GN (ps:List (Nat×Nat))(i j:Nat):D:=.tup [.int (tW ps w1 (j-i) i),vT (eT ps w1 i j)]
def qj (ws:List (Nat×Nat)):Nat:=(ws.map λp=>2*(p.2-p.1)+1).sum
theorem mq {a b:List (Nat×Nat)}:qj (a++b)=qj a+qj b:=by unfold qj;rw[RS,List.sum_append]
theorem zF {a:List (Nat×Nat)}:qj a.reverse=qj a:=by
 unfold qj;rw[List.map_reverse];exact(List.reverse_perm _).sum_nat
theorem yr {ps:List (Nat×Nat)}:D.bR (ps.map λp=>kD (tI p))=true:=by
 have:=dQ (ps.map tI);rw[SU]at this;exact this
def pB:FD:=λds R=>∃n ps,ds=[iU n ps]/\R (iU n ps)
theorem pB.mono:dS pB:=λds R R' k h=>by obtain⟨n,ps,e,q⟩:=h;exact⟨n,ps,e,k _ q⟩
theorem wg (n:Nat)(ps:List (Nat×Nat)):(iU n ps).pd.canLay0=true/\(iU n ps).pd.depth<=4:=by
 have:=tX (n:Int) (ps.map tI);unfold Dr at this;rw[SU]at this;exact this
end L2.Q
namespace kJ
open PySem L2 L2.Q
section
variable {P:Q6}{w:Rl}{K:PySem.W.Frag}{mg:Str->Option QZ}{base:Heap}
theorem kO:aL ["i","k","j"] ["i","k","j"] (au cR):=⟨rfl,rfl,rfl,by decide +kernel,rfl,by decide +kernel,by decide +kernel⟩
theorem xo {k6 fP} (vy:IT K mg k6 fP):aM P w K mg base bW 1 k6 fP ["i","k","j"] (fG P w true j4):=by
 refine uo vy.F kO (λds R HE=> by obtain⟨i,k,j,e,_⟩ := HE;subst e;rfl) λb7 A outer s H E hr=>⟨_,(cu (cf (aS ai (b8.m sP) (ae (i:=1)) jy) (ar (bq (a_ (aa (aQ (aa (aE aF ay (ae (i:=0)) ah) (aa (ae (i:=2)) af))) af)))) a9)
    (ar (bq (a_ (aa (aQ (aa (aE aF ay (ae (i:=0)) ah) (aa (ae (i:=1)) af))) (aa (aQ (aa (aE aF ay (ae (i:=1)) ah) (aa (ae (i:=2)) af))) af)))))),λds R h=>?_⟩
 obtain⟨i,k,j,rfl,q⟩:=h;cases k with
 |none=>exact⟨λ_=>False,⟨_,rfl,trivial,_,rfl,_,rfl,zi rfl ⟨_,rfl,trivial,_,rfl,trivial,_,rfl,trivial,fK,trivial,Fo,trivial,q⟩⟩,λ_ z=>z.elim⟩
 |some k =>
  refine⟨λβ=>β=[some (.val false (.int i)),some (.val false (.int k)),some (.val false (.int j))],⟨_,rfl,trivial,_,rfl,_,rfl,jW rfl rfl⟩,?_⟩;rintro β rfl;exact⟨_,rfl,trivial,_,rfl,trivial,_,rfl,trivial,fK,trivial,_,rfl,trivial,_,rfl,trivial,_,rfl,trivial,fK,trivial,fK,trivial,q⟩
theorem cJ:aL ["partners","worth","table","i","j","best","choices"] ["partners","worth","table","i","j"] (au bY):=⟨rfl,rfl,rfl,by decide +kernel,rfl,by decide +kernel,by decide +kernel⟩
theorem AB {k9 fS} (vA:IS K mg k9 fS) {eU cj} (i5:D6 K mg eU cj) (B:vE mg):aM P w K mg base bW 2 k9 fS ["partners","worth","table","i","j"] (fG P w true pC):=by
 have My:aM P w K mg base bW 1 _ _ _ (fG P w true j6):= sR i5;refine uo vA.F cJ (λds R HD=> by obtain⟨n,ps,w,T,i,j,e,_⟩ := HD;subst e;rfl) λb7 A outer s H E hr=>⟨_,(aj (aW (i:=5) (bb ai b9 (bb ai b9 (ae (i:=2)) (ae (i:=3))) (aE ai (b8.m bu) (ae (i:=4)) (ae (i:=3)))) cJ.nd)
    (aj (zU (i:=6) true ["k","j","best","worth","table","i"] [none,some 4,some 5,some 1,some 2,some 3] (by rfl) (by decide:(["k","j","best","worth","table","i"]:List Str).Nodup) rfl (λ_=>(c9 (bb ai b9 (ae (i:=0)) (ae (i:=3))))) (λ_ _ _ _ _ _=>(aD (i:=0) (by decide:(["k","j","best","worth","table","i"]:List Str).Nodup))) (λ_ _ _ _ _ _=>(qo (vC.t (sv (aS ai (b8.m mI) (ae (i:=0)) (ae (i:=1))) (n9 (aS ai (b8.m (dE hr.units)) (a8 j6.mono My (hr.mono (by decide)) i5.m i5.F.kp i5.b (aa (ae (i:=3)) (aa (ae (i:=4)) (aa (ae (i:=5)) (aa (ae (i:=0)) (aa (ae (i:=1)) af)))))) (ae (i:=2)))))))) (λ_ _ _ _ _ _=>(ae (i:=0))) cJ.nd)
    (cu (cf (aS ai (b8.m (dE hr.units)) (bb ai b9 (bb ai b9 (ae (i:=2)) (aE aF ay (ae (i:=3)) ah)) (aE ai (b8.m bu) (aE ai (b8.m bu) (ae (i:=4)) (ae (i:=3))) ah)) (ae (i:=5))) (ar (cY (i:=6) (λ_=>jy))) a9)
    (ar (iW (i:=6)))))),λds R h=>?_⟩
 obtain⟨n,ps,w,T,i,j,rfl,ok,h1,h2,q⟩:=h;have Et:=ok.sm;have hle:=ok.le;refine⟨_,rfl,trivial,_,rfl,_,lK rfl (by lia),.inr ⟨trivial,_,rfl,trivial,_,rfl,_,rfl,_,lL (l:=j-i) (by lia) (by lia),?_⟩⟩
 refine⟨_,rfl,trivial,_,rfl,_,GX rfl (by lia),.inr ⟨_,rfl,trivial,?_⟩⟩
 refine mP (λk=>decide (k<j)&&decide (w (i,k)+T (k-i-1) (i+1)+T (j-k-1) (k+1)=T (j-i) i)) (λk=>.int (k:Int)) trivial (dq (R6 gv (by lia))) (λk hk x0 o J ho j1 j2=>?_) ?_
 ·have hm:=ee.mp hk;obtain⟨g1,g2⟩:=ok.lt _ hm;dsimp only at g1 g2;refine⟨_,rfl,trivial,_,rfl,_,rfl,_,rfl,oS (λLJ=>?_) (λLJ=>jW rfl (j2 ?_ _))⟩
  ·have yf:k<j:=by lia
   refine⟨_,rfl,trivial,_,rfl,trivial,_,rfl,trivial,_,rfl,trivial,_,rfl,trivial,n,ps,w,(λi=>n+1-i),T,i,k,j,rfl,hm,g1,yf,h2,by show _<n+1-(i+1);lia,by show _<n+1-(k+1);lia,trivial,_,rfl,_,b5 _ _,_,rfl,oS (λe=>?_) (λe=>j2 ?_ _)⟩
   ·exact⟨_,rfl,trivial,ho,j1 (by rw[RZ,decide_eq_true_eq,decide_eq_true_eq];exact⟨yf,e⟩) _⟩
   ·rw[Bool.and_eq_false_iff];exact .inr (decide_eq_false e)
  ·rw[Bool.and_eq_false_iff];exact .inl (decide_eq_false (by lia))
 ·have eb:eQ ps w T i j=((kA ps i).filter λk=>decide (k<j)&&decide (w (i,k)+T (k-i-1) (i+1)+T (j-k-1) (k+1)=T (j-i) i)).map some++(if T (j-i-1) (i+1)=T (j-i) i then [none] else []):=rfl
  have em:(((kA ps i).filter λk=>decide (k<j)&&decide (w (i,k)+T (k-i-1) (i+1)+T (j-k-1) (k+1)=T (j-i) i)).map λ(k:Nat)=>D.int (k:Int))=(((kA ps i).filter λk=>decide (k<j)&&decide (w (i,k)+T (k-i-1) (i+1)+T (j-k-1) (k+1)=T (j-i) i)).map some).map oD:=by rw[SU];rfl
  have hl:(((kA ps i).filter λk=>decide (k<j)&&decide (w (i,k)+T (k-i-1) (i+1)+T (j-k-1) (k+1)=T (j-i) i)).map some).length<=400:=by rw[Q3];exact R6 (T8 _ _) (R6 gv Et)
  rw[em];generalize ((kA ps i).filter λk=>decide (k<j)&&decide (w (i,k)+T (k-i-1) (i+1)+T (j-k-1) (k+1)=T (j-i) i)).map some=cs at eb hl ⊢
  refine⟨λβ=>β[6]?=some (some (.own (.lst ((eQ ps w T i j).map oD)))),?_,λβ hβ=>⟨_,hβ,q⟩⟩;refine⟨_,rfl,trivial,_,rfl,trivial,_,rfl,_,lK (i:=i+1) (by lia) (by lia),.inr ⟨trivial,_,rfl,trivial,_,rfl,_,rfl,trivial,_,rfl,_,lL (l:=j-i-1) (by lia) (by lia),trivial,_,rfl,_,b5 _ _,_,rfl,oS (λe=>?_) (λe=>?_)⟩⟩
  ·rw[if_pos e]at eb;refine⟨⟨_,rfl⟩,trivial,_,rfl,by rw[Q3];exact nJ (by lia),?_⟩
   rw[eb,RS];rfl
  ·rw[if_neg e,Sr]at eb;rw[eb];rfl
theorem aR:aL ["row","worth","table","i","j","partners","found","waiting","low","high","k"] ["row","worth","table","i","j"] (au bD):=⟨rfl,rfl,rfl,by decide +kernel,rfl,by decide +kernel,by decide +kernel⟩
theorem AA {pj iH} (zr:JF K mg pj iH) {gI dy} (l5:D5 K mg gI dy) {k9 fS} (vA:IS K mg k9 fS) {eU cj} (i5:D6 K mg eU cj) {k6 fP} (vy:IT K mg k6 fP) (B:vE mg):aM P w K mg base bW 3 pj iH ["row","worth","table","i","j"] (fG P w true pA):=by
 have Mv:aM P w K mg base bW 1 _ _ _ (fG P w true j5):= sQ l5 B;have Qu:aM P w K mg base bW 2 _ _ _ (fG P w true pC):= AB vA i5 B;have Qm:aM P w K mg base bW 1 _ _ _ (fG P w true j4):= xo vy;refine uo zr.F aR (λds R HC=> by obtain⟨n,ps,w,i,j,e,_⟩ := HC;subst e;rfl) λb7 A outer s H E hr=>⟨_,(aj (aW (i:=5) (a8 j5.mono Mv (hr.mono (by decide)) l5.m l5.F.kp l5.b (aa (ae (i:=0)) af)) aR.nd)
    (aj (d9 (i:=6) (λ_=>(a_ af)) aR.nd)
    (aj (d9 (i:=7) (λ_=>(a_ (aa (aQ (aa (ae (i:=3)) (aa (ae (i:=4)) af))) af))) aR.nd)
    (aj (w_ SA (z8 (ae (i:=7))) (aj (xb (wU (i:=7)) (fB (n:=2) rfl (ba (aD (i:=8) aR.nd) (ba (aD (i:=9) aR.nd) dN))))
    (ar (cf (aS ai (b8.m mI) (ae (i:=8)) (ae (i:=9))) (aj (aW (i:=10) (bb ai b9 (a8 pC.mono Qu (hr.mono (by decide)) vA.m vA.F.kp vA.b (aa (ae (i:=5)) (aa (ae (i:=1)) (aa (ae (i:=2)) (aa (ae (i:=8)) (aa (ae (i:=9)) af)))))) ah) aR.nd)
    (cu (cf (aS ai (b8.m xj) (ae (i:=10)) jy) (ar (cY (i:=6) (λ_=>(aQ (aa (ae (i:=8)) (aa (ae (i:=10)) af)))))) a9)
    (ar (lF (i:=7) (z_ (a8 j4.mono Qm (hr.mono (by decide)) vy.m vy.F.kp vy.b (aa (ae (i:=8)) (aa (ae (i:=10)) (aa (ae (i:=9)) af))))))))) a9))))
    (ar (iW (i:=6))))))),λds R h=>?_⟩
 obtain⟨n,ps,w,i,j,rfl,ok,h1,h2,q⟩:=h;have hn:=ok.le;have hp:∀p∈ps,p.1<p.2:=λp hp=>(ok.lt p hp).1;have QS:(eT ps w i j).length<=40:=by have:=yp (w:=w) hp (j-i) i j (Q4 _);lia
 refine⟨_,rfl,trivial,n,ps,rfl,ok,Rr _,trivial,_,rfl,trivial,_,rfl,trivial,fK,trivial,Fo,trivial,?_⟩;refine⟨λm β=>∃(ws:List (Nat×Nat)) (fs:List (Nat×Nat)) (x8 x9 FG:Option Q.B),β=[some (.val false (iU n ps)),some (.val false (wD ps w)),some (.val false (fO n (tW ps w))),some (.val false (.int i)),some (.val false (.int j)),some (.val true (wJ n ps)),some (.own (vT fs)),some (.own (.lst (ws.map vp))),x8,x9,FG]/\(∀p∈ws,p.2<=n)/\qj ws=m/\m<=200/\fs++(ws.reverse.flatMap λp=>eT ps w p.1 p.2)=eT ps w i j,⟨_,[(i,j)],[],_,_,_,rfl,λp hp=>by rw[Rk.mp hp];exact h2,rfl,by show 2*(j-i)+1+0<=200;lia,by simp⟩,?_⟩
 rintro m β ⟨ws,fs,x8,x9,FG,rfl,hw,hm,hl,hf⟩;rcases List.eq_nil_or_concat ws with rfl|⟨qf,⟨l,h⟩,rfl⟩
 ·refine⟨_,rfl,_,rfl,jW rfl ?_⟩;have hf:fs=eT ps w i j:=by simpa using hf
  rw[<- hf]at q;exact⟨_,rfl,q⟩
 ·rw[List.concat_eq_append]at hw hm hf ⊢
  rw[mq]at hm;have QN:qf.length<=qj qf:=by
   unfold qj
   clear hw hm hf
   induction qf with
   |nil=>exact Q4 _
   |cons a l ih=>rw[RN,List.sum_cons,Rq];lia
  have hm:qj qf+(2*(h-l)+1)=m:=hm;have hh:h<=n:=hw (l,h) (by simp)
  rw[Uo,List.reverse_singleton,List.singleton_append,List.flatMap_cons]at hf;refine⟨_,rfl,_,rfl,zi (by rw[RS];cases qf <;> rfl) ?_⟩
  rw[RS];refine⟨qf.map vp,vp (l,h),rfl,_,rfl,rfl,_,_,rfl,_,_,rfl,rfl,?_⟩;refine⟨_,rfl,trivial,_,rfl,_,rfl,_,rfl,oS (λCd=>?_) (λCd=>?_)⟩
  ·have Cd:l<h:=by lia
   have Ba:=pP (w:=w) hp Cd;have ND:=rq (w:=w) hp Cd;have kT:=fE (eF (w:=w) hp Cd);have Bb:cM ps w l h=(eQ ps w (tW ps w) l h).headD none:=rfl;cases hb:eQ ps w (tW ps w) l h with
   |nil=>exact absurd hb Ba
   |cons c cs =>
    rw[hb]at Bb;have Bb:cM ps w l h=c:=Bb;rw[Bb]at ND kT;rw[ND]at hf;have fin:∀(nv:List (Nat×Nat)) (FG:Option Q.B),nv=fs++oU l c->∃m',m'<m/\∃(ws:List (Nat×Nat)) (fs:List (Nat×Nat)) (x8 x9 NZ:Option Q.B),[some (Q.B.val false (iU n ps)),some (.val false (wD ps w)),some (.val false (fO n (tW ps w))),some (.val false (.int i)),some (.val false (.int j)),some (.val true (wJ n ps)),some (.own (vT nv)),some (.own (.lst (qf.map vp++(parts l c h).reverse.map vp))),some (.val true (.int l)),some (.val true (.int h)),FG]=[some (Q.B.val false (iU n ps)),some (.val false (wD ps w)),some (.val false (fO n (tW ps w))),some (.val false (.int i)),some (.val false (.int j)),some (.val true (wJ n ps)),some (.own (vT fs)),some (.own (.lst (ws.map vp))),x8,x9,NZ]/\(∀p∈ws,p.2<=n)/\qj ws=m'/\m'<=200/\fs++(ws.reverse.flatMap λp=>eT ps w p.1 p.2)=eT ps w i j:=λnv FG e=>by
     have QI:qj (parts l c h).reverse<2*(h-l)+1:=by
      rw[zF];cases c with
      |none=>show 2*(h-(l+1))+1+0<_;lia
      |some k =>
       have:=hp _ kT.1;dsimp only at this;have h3:=kT.2.1;show 2*(k-(l+1))+1+(2*(h-(k+1))+1+0)<_;lia
     refine⟨qj (qf++(parts l c h).reverse),by rw[mq];lia,qf++(parts l c h).reverse,nv,_,_,_,by rw[RS],λp zk=>?_,rfl,by rw[mq];lia,?_⟩
     ·rcases Rx.mp zk with z|z
      ·exact hw p (by simp[z])
      ·have z:=List.mem_reverse.mp z;cases c with
       |none=>rw[Rk.mp z];exact hh
       |some k =>
        have h3:=kT.2.1;rcases Ra.mp z with rfl|z
        ·show k<=n;lia
        ·rw[Rk.mp z];exact hh
     ·rw[<- hf,e,Uo,List.reverse_reverse,Vj];simp only[R8]
    refine⟨_,rfl,trivial,_,rfl,trivial,_,rfl,trivial,_,rfl,trivial,_,rfl,trivial,n,ps,w,tW ps w,l,h,rfl,ok,Cd,hh,trivial,oD c,sY (i:=0) rfl (by rw[hb];rfl),?_⟩
    cases c with
    |none =>
     refine⟨λβ=>β=[some (Q.B.val false (iU n ps)),some (.val false (wD ps w)),some (.val false (fO n (tW ps w))),some (.val false (.int i)),some (.val false (.int j)),some (.val true (wJ n ps)),some (.own (vT fs)),some (.own (.lst (qf.map vp))),some (.val true (.int l)),some (.val true (.int h)),some (.val true .bB)],⟨_,rfl,trivial,_,rfl,_,rfl,jW rfl rfl⟩,?_⟩;rintro β rfl;exact⟨⟨_,rfl⟩,_,rfl,trivial,_,rfl,trivial,_,rfl,trivial,l,none,h,rfl,_,rfl,.inl ⟨rfl,_,_,rfl,rfl,rfl,by rw[Q3];exact dq (show qf.length+1<=1000 by lia),fin fs _ (by simp[oU])⟩⟩
    |some k =>
     refine⟨λβ=>β=[some (Q.B.val false (iU n ps)),some (.val false (wD ps w)),some (.val false (fO n (tW ps w))),some (.val false (.int i)),some (.val false (.int j)),some (.val true (wJ n ps)),some (.own (vT (fs++[(l,k)]))),some (.own (.lst (qf.map vp))),some (.val true (.int l)),some (.val true (.int h)),some (.val true (.int k))],⟨_,rfl,trivial,_,rfl,_,rfl,zi rfl ⟨⟨_,rfl⟩,_,rfl,trivial,_,rfl,trivial,fK,trivial,_,rfl,?_,?_⟩⟩,?_⟩
     ·rw[Q3];have:=congrArg List.length hf;rw[RT]at this;exact nJ (by lia)
     ·unfold vT;rw[RS];rfl
     ·rintro β rfl;exact⟨⟨_,rfl⟩,_,rfl,trivial,_,rfl,trivial,_,rfl,trivial,l,some k,h,rfl,_,rfl,.inl ⟨rfl,_,_,rfl,rfl,rfl,by rw[Q3];exact dq (show qf.length+2<=1000 by lia),fin (fs++[(l,k)]) _ rfl⟩⟩
  ·have Cd:¬ l<h:=by lia
   rw[jX Cd]at hf;exact⟨qj qf,by lia,qf,fs,_,_,_,rfl,λp zk=>hw p (by simp[zk]),rfl,by lia,by simpa using hf⟩
end
end kJ
namespace L2.EX
open PySem PySem.W PySem.Spec PySem.Calls PyProof.Rows Builtin Builtin.ObjectAttr Builtin.Getset_descriptor
def ExcAt (a C:Addr)(h:Heap):Prop:=∃o vs,h.get? a=some o/\o.cls=.ref C/\o.data=.fields vs
theorem ExcAt.ty {a C:Addr}{h:Heap}{M:VP}(p:ExcAt a C h):Looks M h (typeOf (.ref a)) (.ref C):=by
 obtain⟨o,vs,h1,h2,_⟩:=p;exact h2▸(Looks.ld h1).andThen .now
section
variable {prog:Q6}{w:Rl}{A:R7}{E:QZ->Q1->Prop}{s:Q1}{K:Frag}{x C:Addr}{R:Result->Q1->Prop}
theorem class_get {tp:QZ} (X:K.In s.heap) (I:ExcAt x C s.heap) (hm:mroIn K C (.type "object")=some true)
  (h:R (.ok (.ret (.ref C))) s):Up (model prog w) A (.call (.builtin "getset_descriptor.__get__") ⟨[.builtin "object.__class__",.ref x,tp],[]⟩) R s:=by
 obtain⟨hh,g,dr,t,os⟩:=s;have L0:=I.ty (M:=model prog w);have L1:=looks_mroIn (M:=model prog w) X hm;refine U_ KF.slot_gs.plain KF.entry_gs (KF.slot_gs.check _ _ _ _ _ _ _ _ KF.type_class (KF.args_gs _ _ _) ?_);unfold S4.«getset_descriptor.__get__» descrGet;rw[dga_obj];refine Q0 (Q_ ?_);unfold descrGetter descrCheckInstance descrNameAndClass isInstance;simp only[KF.owner_class]
 repeat lk
 refine⟨Code.quiet_builtin _ (by decide +kernel),Uj KF.entry_class ?_⟩
 unfold S4.«object.__class__» shownTypeOf
 repeat lk
 exact h
structure XC (K:Frag)(C:Addr):Prop where
 obj:mroIn K C (.type "object")=some true
 base:mroIn K C (.type "BaseException")=some true
 ga:findIn K (.ref C) "__getattribute__" = some (some (.builtin "BaseException.__getattribute__"))
 hook:findIn K (.ref C) "__getattr__" = some none
 cls:findIn K (.ref C) "__class__" = some (some (.builtin "object.__class__"))
theorem yK {M:VP} {BZ:QZ} {Q:Unit->Q1->Prop} (X:K.In s.heap) (I:ExcAt x C s.heap) (Z:XC K C) (hq:Q () s):RA M A (UK "BaseException.__getattribute__" ⟨[.ref x,BZ],[]⟩) Q E s:=by
 obtain⟨hh,g,dr,t,os⟩:=s;have hk:builtinKind "BaseException.__getattribute__" = some .slot:=by decide +kernel
 have Es:splitId "BaseException.__getattribute__" = some ("BaseException","__getattribute__"):=by decide +kernel
 have ha:=F.args_bexc_ga (.ref x) BZ;have L0:=I.ty (M:=M);have L1:=looks_mroIn (M:=M) X Z.base;simp only[UK,hk,Es];refine Q0 ?_;unfold isInstance
 repeat lk
 exact hq
theorem pL {tk:Tok}{Q:Fin->Q1->Prop}(X:K.In s.heap)(I:ExcAt x C s.heap)(Z:XC K C)(hq:Q (.done (.ret (.ref C))) s):
  RA (model prog w) A (S4.«object.__getattribute__» ⟨[.ref x,.str "__class__" tk],[]⟩) Q E s:=by
 obtain⟨hh,g,dr,t,os⟩:=s;have L0:=I.ty (M:=model prog w);have L1:=looks_findIn (M:=model prog w) X Z.cls;have L2:=looks_specialIn (M:=model prog w) (K:=K) X (v:=.builtin "object.__class__") (name:="__get__") (r:=some (.builtin "getset_descriptor.__get__")) (by kernel_rfl)
 have L3:=looks_takesIn (M:=model prog w) (K:=K) X (a:=.builtin "object.__class__") (r:=true) (by kernel_rfl)
 unfold S4.«object.__getattribute__»
 repeat (first|(with_reducible refine Q0 (UP (class_get (s:=⟨hh,g,dr,t,os⟩) X I Z.obj ?_)))|(with_reducible refine UP (class_get (s:=⟨hh,g,dr,t,os⟩) X I Z.obj ?_))|lk)
 exact hq
theorem rL {Q:Option QZ->Q1->Prop}(X:K.In s.heap)(I:ExcAt x C s.heap)(Z:XC K C)(h:Q (some (.ref C)) {s with toks:=s.toks+1}):RA (model prog w) A (getAttr? (.ref x) "__class__") Q E s:=by
 obtain⟨hh,g,dr,t,os⟩:=s;have L0:=I.ty (M:=model prog w);have L1:=looks_findIn (M:=model prog w) X Z.ga;have L2:=looks_findIn (M:=model prog w) X Z.hook;have f3:=F.attr_ValueError.ga.bind (.ref x);have Er:(Vm "BaseException.__getattribute__" == Vm "object.__getattribute__")=false:=by decide +kernel
 have zj:(onTheHeap (Value.ref C)&&Vm "BaseException.__getattribute__" == Vm "object.__getattribute__")=false:=by rw[Er];rfl
 unfold getAttr? getAttrBy? getAttrBy;refine Q0 (wpAny_mkText (Q0 (UB (Sj (Q0 (L0.at (Q0 (L1.at ?_))))))));dsimp only;rw[if_neg (λq=>by rw[zj]at q;cases q)]
 unfold getAttrByItsOwn hookBefore onTheHeap callGetattribute boundAndCalled;dsimp only;rw[if_pos rfl];refine Q0 (L2.at (Q0 (UB (Sj ?_))));simp only[Bool.false_and,Uv,if_false];refine Q0 (VM f3 ?_);refine UP (U_ F.attr_ValueError.ga.plain F.entry_bexc_ga (yK (s:=⟨hh,g,dr,t+1,os⟩) X I Z (pL (s:=⟨hh,g,dr,t+1,os⟩) X I Z ?_)));exact handed_on rfl (Q_ h)
theorem oN (Z:XC K C):KitX K (.ref x) (.ref C) (ExcAt x C) where
 ty:=λ_ _ _ I=>I.ty
 it:=λ_ _ X _=>by
  obtain⟨cd,hc,_⟩:=RW.mp Z.obj;unfold clsIn at hc
  split at hc
  ·rename_i c' d' Qd r_ ho
   intro A' Q' E' s' k q;unfold isType loadHead;exact Q0 (wpAny_loadPart (k _ _ (X _ _ ho)) (Q_ q))
  ·cases hc
 ne:=λh tp dd its n sl X O4=>by
  obtain⟨cd,hc,_⟩:=RW.mp Z.obj;refine Bool.eq_false_iff.mpr λq=>?_;have e:C=tp:=Value.ref.inj (beq_iff_eq.mp q);subst e;unfold clsIn at hc
  split at hc
  ·rename_i c' d' Qd r_ ho
   have z:=(X _ _ ho).symm.trans O4;cases z
  ·cases hc
 ca:=λX I k=>rL X I Z k
end
end L2.EX
namespace L2
open PySem PySem.W PySem.Spec PyProof.Rows
abbrev il (C a:Addr):HO:=.ext (EX.ExcAt a C)
def D.exc (C:Addr):D:=.ob (il C)
structure Fj (P:Q6)(w:Rl)(outer:List Env)(H:Hp)(s:Q1)(a C:Addr)(H':Hp)(s':Q1):Prop where
 os:s'.os=s.os
 bare:UA s'.gens
 un:Un (eY outer) [] H H' s.heap s'.heap
 bj:eW P w H' s'.heap
 fl:∃(B:Heap) (a0:QZ),T5 B outer a (.ref C) a0 s'.heap/\(∀b,H' b≠none->∃o,B.get? b=some o) /\
  ∀b o,s.heap.get? b=some o->b∉eY outer->∃o',B.get? b=some o'/\(H b=none->o'=o)
 nt:H' a=none
 nw:s.heap.get? a=none
def CN (P:Q6)(w:Rl):vm:=λouter H s E e s'=>∃(a C:Addr) (H':Hp),e=.ref a/\Fj P w outer H s a C H' s'/\E (.ref C) none H'
section
variable {P:Q6}{w:Rl}{H:Hp}{h h' B:Heap}
theorem lQ (x:eW P w H h){b:Addr}(e:H b≠none):∃o,h.get? b=some o:=by
 cases q:H b with
 |none=>exact absurd q e
 |some u =>
  have z:=x b u q;cases u with
  |lst xs=>obtain⟨_,_,_,_,e⟩:=z;exact⟨_,e⟩
  |tup xs=>obtain⟨_,_,_,o,e,_⟩:=z;exact⟨_,e⟩
  |dK kvs=>obtain⟨_,_,_,_,o,_,_,e,_⟩:=z;exact⟨_,e⟩
  |dT kvs=>obtain⟨_,_,_,_,o,_,_,e,_⟩:=z;exact⟨_,e⟩
  |set S n=>obtain⟨o,_,_,_,e,_⟩:=z;exact⟨_,e⟩
  |ins C dx fs=>obtain⟨_,_,_,e,_⟩:=z;exact⟨_,e⟩
  |own y=>obtain⟨_,e⟩:=z;exact⟨_,e⟩
  |xd fs=>obtain⟨_,⟨_,_,_,e,_⟩,_⟩:=z;exact⟨_,e⟩
  |IZ lo hi=>obtain⟨_,_,_,e⟩:=z;exact⟨_,e⟩
  |yq ob u=>obtain⟨e,_⟩:=z;exact⟨_,e⟩
  |BL ps=>exact⟨_,(show h.get? b=some _ from z)⟩
  |met f y=>exact⟨_,(show h.get? b=some _ from z)⟩
  |ext φ=>obtain⟨_,e,_⟩:=z;exact e
theorem h8 (x:eW P w H h)(st:B.StaysIn h)(aA:B.StaysIn h')(tr:∀b,H b≠none->∃o,B.get? b=some o):eW P w H h':=λb u e =>
 (x b u e).mz (λc v hc q=>by
  have nc:H c≠none:=by
   rcases hc with rfl|z
   ·rw[e];exact λz=>(nomatch z)
   ·rw[z];exact λz=>(nomatch z)
  obtain⟨o,ho⟩:=tr c nc;rw[st c o ho]at q;cases q;exact aA c _ ho) (λ_ q=>q) λ_ _ q=>q
end
section
variable {X:Cx}{pins:List (Addr×Obj)}{σ:St}{H H':Hp}{s s':Q1}{e C:Addr}
theorem rA {B:Heap}{outer:List Env}{h0 h1 h2:Heap}{H0:Hp}(u:Un (eY outer) [] H0 H h0 h1)(ff:h1.FunFrames B outer)(st:B.StaysIn h2)(up:h1.UpToSlots h2)
  (tr:∀b o,h0.get? b=some o->b∉eY outer->∃o',B.get? b=some o'/\(H0 b=none->o'=o)):Un (eY outer) [] H0 H h0 h2 where
 keep:=λb o e n hb _=>by
  obtain⟨o',e1,e2⟩:=tr b o e hb;rw[<- e2 n];exact st b _ e1
 slot:=λb o e n hb hx=>by
  obtain⟨sl,e1⟩:=u.slot b o e n hb hx;obtain⟨_,o',e2,nf⟩:=ff.mem hb;rw[e1]at e2;cases e2;obtain⟨r_,e3⟩:=up b _ e1 nf;exact⟨r_,e3⟩
 free:=u.free
 there:=λb o e hx=>by
  by_cases hb:b∈eY outer
  ·obtain⟨_,o',e2,nf⟩:=ff.mem hb;obtain⟨r_,e3⟩:=up b _ e2 nf;exact⟨_,e3⟩
  ·obtain⟨o',e1,_⟩:=tr b o e hb;exact⟨o',st b _ e1⟩
 fX:=u.fX
 fJ:=u.fJ
 fY:=u.fY
theorem qU {vs:List QZ}{hs:Heap}{M:VP}{E:QZ->Q1->Prop}{Q:Unit->Q1->Prop}(I:Inv X pins σ H s)(hx:X.ex=[])(mU:X.stack=X.env::X.outer)(hf:X.env.frame=some X.env.locals)(m:Heap.MadeExcOf s.heap hs e (.ref C) vs)
  (k:∀wA,Fj X.prog X.w X.outer X.H₀ X.s₀ e C H wA->Q () wA):RA M X.A (leaving X.env (.ref e)) Q E {s with heap:=hs}:=by
 have fr:X.A.frames=some (X.env::X.outer):=by rw[<- mU];exact I.ok.frames
 have ff:s.heap.FunFrames X.base (X.env::X.outer):=by rw[<- mU];exact I.stack
 have vw:∀env∈(X.env::X.outer),∀b,env.frame=some b->b∈eY (X.env::X.outer):=λenv he b hb=>TR.mpr ⟨env,he,hb⟩;have nl:∀b o,X.s₀.heap.get? b=some o->b∉X.fs->b∉eY (X.env::X.outer):=λb o eb nb z=>by
  unfold eY at z;rw[RU,hf]at z;rcases Ra.mp z with z|z
  ·exact absurd (RF (Rj eb) I.ok.above) (by rw[z];exact Te _)
  ·exact nb z
 have I0:∀b,b∉X.ex:=λb z=>by rw[hx]at z;cases z
 have MG:(hideAll s.heap (eY (X.env::X.outer))).StaysIn s.heap:=λb o q=>of_hideAll _ q;refine wpAny_leaves_madeW (h:=s.heap) (base:=hideAll s.heap (eY (X.env::X.outer))) fr hf MG (funFrames_hide ff vw) m λh' t f1 f2 f3 f4=>k _ ?_;have tr:∀b,H b≠none->∃o,(hideAll s.heap (eY (X.env::X.outer))).get? b=some o:=λb nb=>by
  obtain⟨o,ho⟩:=lQ I.bj nb;exact⟨o,hideAll_get _ ho λz=>nb (I.my b (by rw[mU];exact z))⟩
 have ze:∀b o,X.s₀.heap.get? b=some o->b∉eY X.outer->∃o',(hideAll s.heap (eY (X.env::X.outer))).get? b=some o'/\(X.H₀ b=none->o'=o):=λb o eb nb=>by
  obtain⟨o1,e1⟩:=I.base.there b o eb (I0 b);refine⟨o1,hideAll_get _ e1 (nl b o eb nb),λn=>?_⟩;rw[I.base.keep b o eb n nb (I0 b)]at e1;exact(RC e1).symm
 have u0:Un (eY X.outer) [] X.H₀ H X.s₀.heap s.heap:=by
  have z:=I.base;rw[hx]at z;exact z
 have PU:s.heap.FunFrames (hideAll s.heap (eY (X.env::X.outer))) X.outer:=(funFrames_hide ff vw).2.2;refine⟨I.os,I.bare,rA u0 PU f1.1 ((Heap.UpToSlots.of_keeps m.keeps).trans f4) ze,h8 I.bj MG f1.1 tr,⟨_,_,f1,tr,ze⟩,?_,?_⟩
 ·cases q:H e with
  |none=>rfl
  |some u =>
   obtain⟨o,ho⟩:=lQ I.bj (b:=e) (by rw[q];exact λz=>(nomatch z))
   rw[m.new]at ho;cases ho
 ·cases q:X.s₀.heap.get? e with
  |none=>rfl
  |some o =>
   obtain⟨o',e1⟩:=I.base.there e o q (I0 e);rw[m.new]at e1;cases e1
theorem xI {M:VP}{E:QZ->Q1->Prop}{Q:Unit->Q1->Prop}(I:Inv X pins σ H s)(hx:X.ex=[])(mU:X.stack=X.env::X.outer)(hf:X.env.frame=some X.env.locals)(f:Fj X.prog X.w X.stack H s e C H' s')
  (k:∀wA,Fj X.prog X.w X.outer X.H₀ X.s₀ e C H' wA->Q () wA):RA M X.A (leaving X.env (.ref e)) Q E s':=by
 have fr:X.A.frames=some (X.env::X.outer):=by rw[<- mU];exact I.ok.frames
 have I0:∀b,b∉X.ex:=λb z=>by rw[hx]at z;cases z
 obtain⟨os,bare,un,bj,⟨B,a0,fl,tr,ze⟩,nt,nw⟩:=f;rw[mU]at fl un ze;have nl:∀b o,X.s₀.heap.get? b=some o->b∉X.fs->b∉eY (X.env::X.outer):=λb o eb nb z=>by
  unfold eY at z;rw[RU,hf]at z;rcases Ra.mp z with z|z
  ·exact absurd (RF (Rj eb) I.ok.above) (by rw[z];exact Te _)
  ·exact nb z
 refine wpAny_leaves_onW fr hf fl λh' f1 f4=>k _ ?_;have u0:Un (eY X.outer) [] X.H₀ H X.s₀.heap s.heap:=by
  have z:=I.base;rw[hx]at z;exact z
 have JM:∀b o,X.s₀.heap.get? b=some o->b∉eY X.outer->∃o',B.get? b=some o'/\(X.H₀ b=none->o'=o):=λb o eb nb=>by
  obtain⟨o1,e1⟩:=I.base.there b o eb (I0 b);obtain⟨o',e2,e3⟩:=ze b o1 e1 (nl b o eb nb);refine⟨o',e2,λn=>?_⟩;rw[I.base.keep b o eb n nb (I0 b)]at e1;cases e1;exact e3 (I.base.free b o eb n (I0 b))
 have u1:Un (eY X.outer) [] X.H₀ H' X.s₀.heap s'.heap:=by
  refine⟨λb o eb n nb _=>?_,λb o eb n hb hx=>?_,λb o eb n hx=>?_,λb o eb hx=>?_,λb xs q=>un.fX b xs (u0.fX b xs q),λb o q z=>un.fJ b o q (u0.fJ b o q z),λb ps q=>?_⟩
  ·obtain⟨o',e1,e2⟩:=JM b o eb nb;rw[<- e2 n];exact fl.1 b _ e1
  ·obtain⟨sl,e1⟩:=u0.slot b o eb n hb hx;have p_:b∈eY (X.env::X.outer):=by unfold eY;rw[RU,hf];exact Rt _ hb
   obtain⟨r_,e2⟩:=un.slot b _ e1 (u0.free b o eb n hx) p_ (by simp)
   exact⟨r_,e2⟩
  ·obtain⟨o',e1⟩:=u0.there b o eb hx;exact un.free b o' e1 (u0.free b o eb n hx) (by simp)
  ·obtain⟨o',e1⟩:=u0.there b o eb hx;exact un.there b o' e1 (by simp)
  ·obtain⟨m1,e1⟩:=u0.fY b ps q;obtain⟨m2,e2⟩:=un.fY b _ e1;exact⟨m1++m2,by rw[e2,Array.append_assoc]⟩
 refine⟨os.trans I.os,bare,rA u1 fl.2.2.1.2.2 f1.1 f4 JM,h8 bj fl.1 f1.1 tr,⟨B,a0,f1,tr,JM⟩,nt,?_⟩;cases q:X.s₀.heap.get? e with
 |none=>rfl
 |some o =>
  obtain⟨o',e1⟩:=I.base.there e o q (I0 e);rw[nw]at e1;cases e1
end
abbrev Cx.zm (X:Cx)(e:Addr):Cx:={X with A:=X.A.mark (some (.ref e)),calm:=false,xe:=λ_ _=>False}
section
variable {X:Cx}{pins:List (Addr×Obj)}{σ:St}{H H':Hp}{s s':Q1}{e C:Addr}
theorem Inv.zm (I:Inv X pins σ H s):Inv (X.zm e) pins σ H s :=
 ⟨⟨I.ok.mod,I.ok.kind,I.ok.glob,I.ok.blt,I.ok.above,I.ok.inj,I.ok.has,I.ok.CF,(λz=>by cases z),I.ok.frames,I.ok.C9,I.ok.EY,I.ok.bs,I.ok.yQ,I.ok.oq,I.ok.pF,I.ok.gH,I.ok.Bi⟩,I.os,I.bare,I.base,I.loc,I.cell,I.free,I.cP,I.pin,I.bj,I.len⟩
theorem Inv.FH (ok:X.Ok)(I:Inv (X.zm e) pins σ H s):Inv X pins σ H s:=⟨ok,I.os,I.bare,I.base,I.loc,I.cell,I.free,I.cP,I.pin,I.bj,I.len⟩
theorem Bg {M:VP}{A:R7}{E:QZ->Q1->Prop}{j:Nat}{n:Str}{pos:Pos}{Q:Unit->Q1->Prop}(I:Inv X pins σ H s)(hN:X.N.Nodup)(hj:X.N[j]?=some n)(hl:X.env.scope.names.lookup n=some .local)
  (h:∀s',Inv X pins (σ.set j none) H s'->Q () s'):RA M A (do bindName X.env n .none;unbindBehindTheSuite X.env n pos) Q E s:=by
 obtain⟨m,hn,uR⟩:=id I.loc;have EN:(X.env.scope.kind==.class || (X.env.scope.kind==.module&&X.env.locals != X.env.globals))=false:=by rw[I.ok.kind];rfl
 have yI:=I.yI;obtain⟨oL,_,_,Nk,_⟩:=id hn;refine wpAny_nameGoes_keeps hl hn EN λh' v ye hs=>h _ ?_;have Fl:eW X.prog X.w H h':=λb ob eb=>by
  refine(I.bj b ob eb).mz (λc w' hc q=>(hs.2 c ?_).trans q) (λ_ q=>q) λ_ _ q=>q;rintro rfl;rcases hc with rfl|hc
  ·rw[I.free]at eb;cases eb
  ·rw[I.free]at hc;cases hc
 have nL:∀b o,X.s₀.heap.get? b=some o->b≠X.env.locals:=λb o eb=>RQ (RF (Rj eb) I.ok.above);refine⟨I.ok,I.os,I.bare,⟨λb o eb nb hb hx=>(hs.2 b (nL b o eb)).trans (I.base.keep b o eb nb hb hx),λb o eb nb hb hx=>?_,I.base.free,λb o eb hx=>?_,I.base.fX,I.base.fJ,I.base.fY⟩,⟨_,ye,λi y v' e1 e2 e3=>?_⟩,λy c ec=>?_,I.free,I.cP,λp hp=>?_,Fl,by simpa using I.len⟩
 ·obtain⟨sl,e1⟩:=I.base.slot b o eb nb hb hx;exact⟨sl,(hs.2 b (nL b o eb)).trans e1⟩
 ·obtain⟨o',e1⟩:=I.base.there b o eb hx;exact⟨o',(hs.2 b (nL b o eb)).trans e1⟩
 ·by_cases aG:i=j
  ·subst aG;rw[Tn]at e2;rw[if_pos rfl]at e2
   split at e2 <;> cases e2
  ·rw[Vc (Ud aG)]at e2;obtain⟨u',r',q⟩:=uR i y v' e1 e2 e3;refine⟨u',r',?_⟩;rcases q with⟨k,z⟩|⟨k,c,z,z'⟩
   ·refine .inl ⟨k,?_⟩;have ne:y≠n:=λz=>aG (jJ hN e1 (z▸hj));simp[ne,z]
   ·exact .inr ⟨k,c,z,z'.sameBut hs (yI y c z)⟩
 ·obtain⟨w',z⟩:=I.cell y c ec;exact⟨w',z.sameBut hs (yI y c ec)⟩
 ·obtain⟨e1,n1,ne,nf,d⟩:=I.pin p hp;exact⟨(hs.2 p.1 ne).trans e1,n1,ne,nf,d⟩
theorem Fj.land {B:Heap}{a0:QZ}{h6:Heap}{t:Nat}(I:Inv X pins σ H s)(f:Fj X.prog X.w X.stack H s e C H' s')(fl:T5 B X.stack e (.ref C) a0 s'.heap)(tr:∀b,H' b≠none->∃o,B.get? b=some o)
  (ze:∀b o,s.heap.get? b=some o->b∉eY X.stack->∃o',B.get? b=some o'/\(H b=none->o'=o)) (f6:T5 B X.stack e (.ref C) a0 h6) (up:s'.heap.UpToSlots h6) :
  Inv X pins σ (upd H' e (il C e)) {s' with heap:=h6,toks:=t}:=by
 have u:=rA f.un fl.2.2.1 f6.1 up ze;obtain⟨oe,vs,g1,g2,g3,_⟩:=f6.first
 have ex:EX.ExcAt e C h6:=⟨oe,vs,g1,g2,g3⟩;have bj:eW X.prog X.w H' h6:=h8 f.bj fl.1 f6.1 tr;have ne:∀b u,H' b=some u->b≠e:=λb u q z=>by rw[z,f.nt]at q;cases q
 have Lv:eW X.prog X.w (upd H' e (il C e)) h6:=λb u q=>by
  by_cases hb:b=e
  ·subst hb;rw[ao]at q;cases q;exact⟨ex,⟨oe,g1⟩,λh1 h2 HB k=> by obtain⟨o,vs,z1,z2⟩ := HB;exact⟨o,vs,k o z1,z2⟩⟩
  ·rw[ak hb]at q;exact(bj b u q).mz (λc v _ q=>q) (λc q=>by rw[ak (ne c _ q)];exact q) λc xs q=>by rw[ak (ne c _ q)];exact q
 have u2:Un (eY X.stack) [] H (upd H' e (il C e)) s.heap h6:=by
  refine⟨u.keep,u.slot,λb o eb nb hx=>?_,u.there,λb xs q=>?_,λb o q z=>?_,λb ps q=>?_⟩
  ·rw[ak (λz=>by rw[z,f.nw]at eb;cases eb)]
   exact u.free b o eb nb hx
  ·have z:=u.fX b xs q;rw[ak (ne b _ z)];exact z
  ·have z':=u.fJ b o q z;rw[ak (ne b _ z')];exact z'
  ·obtain⟨more,z⟩:=u.fY b ps q;exact⟨more,by rw[ak (ne b _ z)];exact z⟩
 exact I.CD (s':={s' with heap:=h6,toks:=t}) f.os u2 Lv f.bare (λb z=>nomatch z)
theorem ExcAt.stays {B h:Heap}{l:List Env}{a0:QZ}(f:T5 B l e (.ref C) a0 h):EX.ExcAt e C h:=by
 obtain⟨oe,vs,g1,g2,g3,_⟩:=f.first
 exact⟨oe,vs,g1,g2,g3⟩
theorem E9 {xA n:Str}{CA:Addr}{j:Nat}{np A9:Pos}{b₀:Stmt}{nK:List Stmt}{Q:Flow->Q1->Prop}{E:QZ->Q1->Prop}(I:Inv X pins σ H s)(mU:X.stack=X.env::X.outer)(hf:X.env.frame=some X.env.locals)
  (f:Fj X.prog X.w X.stack H s e C H' s') (hm:X.mg xA=some (.ref CA)) (hg:Gl X xA) (hx:exmOne X.K (.ref C) (.ref CA)=some true) (hN:X.N.Nodup) (hj:X.N[j]?=some n) (hl:X.env.scope.names.lookup n=some .local)
  (k:∀s1,Inv (X.zm e) pins (σ.set j (some (.ref e))) (upd H' e (il C e)) s1->RA (model X.prog X.w) (X.zm e).A (execs (b₀::nK) X.env)
   (λf s4=>RA (model X.prog X.w) X.A (do bindName X.env n .none;unbindBehindTheSuite X.env n A9) (λ_ s5=>Q f s5) E s4) (λ_ _=>False) s1) (hd:(xA==("__debug__" : Str))=false:=by decide) :
  RA (model X.prog X.w) X.A (noteFrame (.ref e) X.env) (λ_ s₂=>RA (model X.prog X.w) X.A (setFlight (.ref e) none) (λ_ s₃ =>
   RA (model X.prog X.w) X.A (handleBy (.ref e) X.env [.ExceptHandler (some (.Name xA np)) (some n) (b₀::nK) A9]) Q E s₃) E s₂) E s':=by
 have fr:X.A.frames=some (X.env::X.outer):=by rw[<- mU];exact I.ok.frames
 obtain⟨B,a0,fl,tr,ze⟩:=f.fl;have PR:T5 B (X.env::X.outer) e (.ref C) a0 s'.heap:=by rw[<- mU];exact fl
 refine wpAny_looks_onW fr hf PR λh4 Ih MK=>?_;refine wpAny_landsW Ih λh5 Ie Fp=>?_;have Cg:T5 B X.stack e (.ref C) a0 h5:=by rw[mU];exact Ie
 have I5:Inv X pins σ (upd H' e (il C e)) {s' with heap:=h5}:=f.land (t:=s'.toks) I fl tr ze Cg (MK.trans Fp)
 refine wpAny_handleBy_cons (codeAny_handlers_test ?_) (by intro q;cases q)
 refine gD (X:=X.zm e) (Inv.zm I5) hg hm ?_ hd;refine(exm_one (M:=model X.prog X.w) I5.vt (ExcAt.stays Cg).ty hx).here ?_;rw[if_pos rfl];refine codeAny_handlers_suite_as ?_;refine lands_againW Ie λh6 LV Ol=>?_;have Ic:T5 B X.stack e (.ref C) a0 h6:=by rw[mU];exact LV
 have I6:Inv X pins σ (upd H' e (il C e)) {s' with heap:=h6}:=f.land (t:=s'.toks) I fl tr ze Ic ((MK.trans Fp).trans Ol)
 refine jk (X:=X.zm e) (Inv.zm I6) hN hj (.inl hl) (v:=.ref e) rfl (λs7 I7=>?_) (.inr hl);exact TQ (k s7 I7) (λf s8 z=>z) λ_ _ z=>z.elim
end
end L2
namespace L2.Q
open PySem PySem.W PySem.Spec PySem.SeqAt PyProof.Rows
abbrev IQ:=List D->(D->Prop)->(Addr->Prop)->Prop
def CL (F:IQ):Prop:=∀ds R R' T T',(∀d,R d->R' d)->(∀c,T c->T' c)->F ds R T->F ds R' T'
def zL (P:Q6)(w:Rl)(ro:Bool)(F:IQ):Sp:=λvs H Q E=>∃ds,ag P w (λ_=>False) H ds vs/\F ds (λd=>∀v H',az H H'->nr P w ro H H' d v->Q v H') (λcl=>∀H',az H H'->E (.ref cl) none H')
structure NT (X:Cx)(H0:Hp)(IO:Addr->Prop)(T:Addr->Prop):Prop where
 made:∀pins σ H s e cl hs vs,Inv X pins σ H s->Kp IO H0 H->Heap.MadeExcOf s.heap hs e (.ref cl) vs->T cl->X.xe (.ref e) {s with heap:=hs}
 pass:Passes (CN X.prog X.w) X (λcv _ H'=>∃cl,cv=.ref cl/\T cl/\Kp IO H0 H')
 own:VH (model X.prog X.w) X.A X.env X.xe
abbrev XR (H:Hp)(E:XK)(cl:Addr):Prop:=∀H',az H H'->E (.ref cl) none H'
theorem vG {P:Q6}{w:Rl}{K:Frag}{mg:Str->Option QZ}{base:Heap}{N:List Str}{qual:Str}{scope:TU}{f:Addr}{cd:QZ}{A:R7}{outer:List Env}{s:Q1}{H:Hp}{E:XK}:
  NT (iR (CN P w) P w K mg base N qual scope f cd A outer s H E) H (λ_=>False) (XR H E) where
 made:=λpins σ H1 s1 e cl hs vs I k m t=>qU I rfl rfl rfl m λwA fl=>⟨e,cl,H1,rfl,fl,t H1 λb o z=>k.out b o z λz=>z⟩
 pass:=λpins σ H1 s1 e s' I HA=> by
  obtain⟨a,cl,H',ea,fl,Qc,Ma,t,k⟩ := HA;cases ea;cases Ma;exact xI I rfl rfl rfl fl λwA fl=>⟨a,cl,H',rfl,fl,t H' λb o z=>k.out b o z λz=>z⟩
 own:=PassesOwn.leaving
abbrev Jx:List QZ:=[.type "ValueError",.type "Exception",.type "BaseException",.type "object"]
structure Xc (K:Frag)(mg:Str->Option QZ)(x:Str)(C:Addr):Prop where
 m:mg x=some (.ref C)
 exc:excIn K C Jx "ValueError.__new__" = true
theorem Xc.own {K:Frag} {mg:Str->Option QZ} {x:Str} {C:Addr} {h:Heap} (z:Xc K mg x C) (X:K.In h):OwnCls x C Jx "ValueError.__new__" mg h:=by
 refine⟨z.m,?_⟩;have q:=z.exc;unfold excIn at q
 split at q
 ·rename_i dd cd sl ho
  split at q
  ·rename_i C' bm k0 k1 k2 k3 n k5 hm hs
   simp only[RZ,beq_iff_eq,T6]at q;obtain⟨⟨⟨⟨⟨rfl,rfl⟩,Ij⟩,ht⟩,bj⟩,Jl⟩:=q;obtain⟨nm,bs,mro,ns,qn,hd,sn,sub,ab,col,del⟩:=cd;dsimp only at hm Ij bj Jl;subst hm Ij;have Cc:sl=#[k0,k1,k2,k3,some (.builtin "ValueError.__new__"),k5]:=by
    obtain⟨l⟩:=sl;simp only at hs;rw[hs]
   subst Cc;exact⟨bm,ns,nm,qn,bs,hd,sn,sub,ab,col,dd,k0,k1,k2,k3,k5,_,X _ _ ho,.of_isNs (isNs_of_in X bj),nsMap_none_of_in X bj Jl,tail_of_in X ht⟩
  ·cases q
 ·cases q
section
variable {X:Cx}{C:Cfg}{T:Addr->Prop}{x:Str}{cl:Addr}{np cpos pos ID:Pos}{m:Str}
theorem xa {j}(Z:NT X C.H0 C.IO T)(hc:X.calm=true)(hx:Xc X.K X.mg x cl)(hg:Gl X x:=by rfl)(hd:(x==("__debug__" : Str))=false:=by decide)
  (he:Rc [.Constant (.str m) j ID] X.env=[(false,eval (.Constant (.str m) j ID) X.env)]:=by rfl) (hp:(SF cpos (Rc [.Constant (.str m) j ID] X.env)).any (·.1)=false:=by rfl) :
  PB X C (.Raise (some (.Call (.Name x np) [.Constant (.str m) j ID] [] cpos)) none pos) (λ_ _=>T cl) :=
 ⟨λ_ _ _ _ h=>h,λpins s σ H D I Hz=> by
  obtain⟨_,E,β,⟨own,sq,n⟩,t,_⟩ := Hz;obtain⟨tl,N,nm,q,bs,hdct,sn,sub,ab,col,dd,k0,k1,k2,k3,k5,mN,hC,hN,Jl,TL⟩:=(hx.own I.vt).obj;have FB:=PySem.F.excBase_ValueError;refine wpAny_Raise_call_subT (C:=cl) (nm:=nm) (q:=q) (N:=N) (bs:=bs) (bm:=tl) (hdct:=hdct) (sn:=sn) (sub:=sub) (ab:=ab) (col:=col) (dd:=dd) (k0:=k0) (k1:=k1) (k2:=k2) (k3:=k3) (k5:=k5)
   FB (mN:=mN) (TL.hasType FB.hasBase) (I.ok.hd hc) hp Jl (gD I hg hx.m ⟨rfl,?_⟩ hd)
  rw[he];refine Calls.evalArgs_plain ?_;show RA _ _ (spliced ((false,eval (.Constant (.str m) j ID) X.env)::SF cpos [])) _ _ _;refine Calls.spliced_cons (Calls.Constant_str (Calls.spliced_nil ⟨rfl,(by show 1<=Ri;decide),hC,hN,TL,λh' e mk=>?_⟩))
  exact Z.made pins σ H {s with toks:=s.toks+1} e cl h' _ (I.tok _) sq.kp mk t⟩
end
section
end
theorem ni.qP {X:Cx}{C:Cfg}{st:List Stmt}{ψ:zt}(h:ni X.qP C st ψ):ni X C st ψ:=⟨h.mono,ny.qP (h.ps.pre λD σ H hq=>by obtain⟨Z,E,β,sb,q,ok⟩:=hq;exact⟨Z,E,β,sb,q,⟨ok.nx,ok.rt,ok.bk,ok.ct⟩⟩)⟩
section
variable {P:Q6}{w:Rl}{K:Frag}{mg:Str->Option QZ}{base:Heap}
theorem Kw {x qual:Str}{st:Stmt}{f:Addr}{fd:RY}{N ps:List Str}{k:Nat}{F:IQ}{ro:Bool}(G:zb K x qual st f fd)(S:aL N ps (au st))(len:∀ds R T,F ds R T->ds.length=ps.length)
  (gG:∀(b7:QZ) (A:R7) (outer:List Env) (s:Q1) (H:Hp) (E:XK),cb k (A.deeper (UC qual (au st) s.heap.objs.size f b7)) ->
   ∃ψ,ni (iR (CN P w) P w K mg base N qual (au st) f b7 A outer s H E) ⟨H,λ_=>False,ro,λ_=>False⟩ (cV st) ψ/\∀ds R,F ds R (XR H E)->ψ {nx:=λ_=>R .bB,rt:=λd _=>R d} (startB N ds)) :
  aM P w K mg base (CN P w) (k+1) f fd ps (zL P w ro F):=by
 obtain⟨oc,od,kV,doc,pm,an,b7,ct,BU,rfl,lk,gM⟩:=G.ex;refine Cn lk gM S (λvs H Q E h=>?_) (λA outer s H vs Q E hr h=>?_)
 ·obtain⟨ds,r,h⟩:=h;rw[r.length];exact len ds _ _ h
 ·obtain⟨ds,r,h⟩:=h;obtain⟨ψ,hb,hF⟩:=gG b7 A outer s H E hr;refine⟨_,hb.ps,(H,Wn λ_=>[]),_,startB N ds,⟨λ_=>[],nM r,Sn.refl⟩,hF ds _ h,λσ H' β sb q=>?_,λσ H' β d v sb rr q=>?_,λ_ _ _ _ z=>z.elim,λ_ _ _ _ z=>z.elim⟩
  ·obtain⟨own,s',n'⟩:=sb;exact q _ H' (λb o e=>s'.kp.out b o e (λz=>z)) (cZ (W:=λ_=>False) rfl rfl)
  ·obtain⟨own,s',n'⟩:=sb;exact q _ H' (λb o e=>s'.kp.out b o e (λz=>z)) rr
end
abbrev _root_.L2.Cx.Ae (X:Cx)(pins:List (Addr×Obj))(Eh:QZ->Q1->Prop):Cx:={X with pn:=X.pn++pins,xe:=Eh}
section
variable {X:Cx}{pins fk:List (Addr×Obj)}{σ:St}{H:Hp}{s:Q1}{Eh:QZ->Q1->Prop}
theorem DP (ok:X.Ok):(X.Ae pins Eh).Ok:=⟨ok.mod,ok.kind,ok.glob,ok.blt,ok.above,ok.inj,ok.has,ok.CF,ok.hd,ok.frames,ok.C9,ok.EY,ok.bs,ok.yQ,ok.oq,ok.pF,ok.gH,ok.Bi⟩
theorem sZ (I:Inv X (pins++fk) σ H s):Inv (X.Ae pins Eh) fk σ H s:=⟨DP I.ok,I.os,I.bare,I.base,I.loc,I.cell,I.free,I.cP,λp hp=>I.pin p (by rw[<- R8];exact hp),I.bj,I.len⟩
theorem wX (ok:(X.Ae pins Eh).Ok):X.Ok:=⟨ok.mod,ok.kind,ok.glob,ok.blt,ok.above,ok.inj,ok.has,ok.CF,ok.hd,ok.frames,ok.C9,ok.EY,ok.bs,ok.yQ,ok.oq,ok.pF,ok.gH,ok.Bi⟩
theorem Ad (I:Inv (X.Ae pins Eh) fk σ H s):Inv X (pins++fk) σ H s:=⟨wX I.ok,I.os,I.bare,I.base,I.loc,I.cell,I.free,I.cP,λp hp=>I.pin p (by rw[<- R8]at hp;exact hp),I.bj,I.len⟩
theorem fh (I:Inv (X.Ae pins Eh) fk σ H s):Inv X pins σ H s:=⟨wX I.ok,I.os,I.bare,I.base,I.loc,I.cell,I.free,I.cP,λp hp=>I.pin p (Sh _ hp),I.bj,I.len⟩
theorem DH {es:List Expr}{t:TA}(h:PA X.qP es t):PA (X.Ae pins Eh) es t:=λpos fk s σ H Q I q =>
 TQ (h pos (pins++fk) s σ H Q ((Ad I).i8 _) q) (λ_ _ Hw=> by obtain⟨vs,H',I',r,q⟩ := Hw;exact⟨vs,H',sZ I'.dW,r,q⟩) λ_ _ z=>z.elim
theorem Dj {D:Ends}{f:Flow}{s':Q1}(h:SP (X.Ae pins Eh) [] D f s'):SP X pins D f s':=by
 cases f with
 |next=>obtain⟨σ',H',I,q⟩:=h;exact⟨σ',H',fh I,q⟩
 |brk=>obtain⟨σ',H',I,q⟩:=h;exact⟨σ',H',fh I,q⟩
 |cont=>obtain⟨σ',H',I,q⟩:=h;exact⟨σ',H',fh I,q⟩
 |ret u=>obtain⟨v,σ',H',I,r,q⟩:=h;exact⟨v,σ',H',fh I,r,q⟩
end
theorem w9 {X:Cx}{CX:vm}{k:Nat}{f:Addr}{fd:RY}{ps:List Str}{sp:Sp}{x:Str}{p pos:Pos}{e:Expr}{es:List Expr}{t:TA}(F:aM X.prog X.w X.K X.mg X.base CX k f fd ps sp)(hr:cb k X.A)(hg:Gl X x)(hm:X.mg x=some (.ref f))
  (hk:PySem.W.keepIn X.K (.ref f)=true) (hb:Binds X.K fd ps []) (ha:PA X (e::es) t) (hdb:(x==("__debug__" : Str))=false:=by decide) (he:Rc (e::es) X.env=(false,eval e X.env)::Rc es X.env:=by rfl)
  (hpl:(SF pos (Rc es X.env)).any (·.1)=false:=by rfl) :
  PE X (.Call (.Name x p) (e::es) [] pos) (λσ H Q=>t σ H λvs H1=>∃E:XK,sp vs H1 Q E/\∀pins s e s',Inv X pins σ H1 s->CX X.stack H1 s E e s'->X.xe e s'):=by
 intro pins s σ H Q I h;refine Uq (gD I hg hm ?_ hdb);refine PySem.W.callWith_K (h₀:=X.base) I.ok.mod.Je hk (br (ha pos pins s σ H _ I h) λus s1 ⟨vs,H1,I1,r,q⟩=>⟨I1.vt,?_⟩) he hpl;obtain⟨E,q,hx⟩:=q;have r2:Vals (vs++[]) (us++[]):=r.append .nil;have hl:(us++[]).length=ps.length:=by rw[<- r2.length,Sr];exact F.len _ _ _ _ q
 refine UP (Tw (F.run X.A X.stack s1 H1 ⟨us,[]⟩ (us++[]) (vs++[]) Q E hr I1.Iu (hb s1 us I1.vt hl) r2 (by rw[Sr];exact q)) λr s' hq=>?_)
 cases r with
 |error e=>exact hx pins s1 e s' I1 hq
 |ok fl =>
  cases fl with
  |ret u=>exact I1.after hq
  |next=>exact SY hq
  |brk=>exact SY hq
  |cont=>exact SY hq
abbrev CG:=cQ->(Addr->Prop)->aX->Prop
structure TB (X:Cx)(C:Cfg)(body:List Stmt)(θ:CG):Prop where
 mono:∀E E' T T' β,Le E E'->(∀c,T c->T' c)->θ E T β->θ E' T' β
 run:∀(pins:List (Addr×Obj)) (s:Q1) (σ:St) (H:Hp) (D:Ends) (Eh:QZ->Q1->Prop) (Z:Hp×(Addr->Prop)) (E:cQ) (β:aX) (own:Nat->List Addr) (T:Addr->Prop),Inv X pins σ H s->SQ X C.z σ H β own->Sn Z H (Wn own)->NW X C Z E D->θ E T β ->
  (∀s1 H1 e s',Inv X pins σ H1 s1->az H H1->CN X.prog X.w X.stack H1 s1 (λcv _ H'=>∃cl,cv=.ref cl/\az H1 H'/\T cl) e s'->Eh e s')->RA (model X.prog X.w) X.A (execs body X.env) (SP X pins D) Eh s
section
variable {X:Cx}{C:Cfg}{k:Nat}{f:Addr}{fd:RY}{ps:List Str}{F:IQ}{ro:Bool}{x:Str}{pp pos cp:Pos}{e:Expr}{es:List Expr}{φs:bS}
theorem zI (mF:CL F)(G:aM X.prog X.w X.K X.mg X.base (CN X.prog X.w) k f fd ps (zL X.prog X.w ro F))(hr:cb k X.A)(hm:X.mg x=some (.ref f))(hk:PySem.W.keepIn X.K (.ref f)=true)(hb:Binds X.K fd ps [])(ha:pU X.qP C.z true (e::es) φs)(hg:Gl X x:=by rfl)
  (hdb:(x==("__debug__" : Str))=false:=by decide) (gb:Rc (e::es) X.env=(false,eval e X.env)::Rc es X.env:=by rfl) (hpl:(SF cp (Rc es X.env)).any (·.1)=false:=by rfl)
  (pZ:Tc (.Call (.Name x pp) (e::es) [] cp) none pos.line X.env=pure false:=by rfl) :
  TB X C [.Expr (.Call (.Name x pp) (e::es) [] cp) pos] (λE T β=>φs β λds _ β1=>F ds (λ_=>E.nx β1) T) where
 mono:=λE E' T T' β l m h=>ha.mono _ _ _ (λds ks β1 q=>mF ds _ _ _ _ (λ_ q=>l.nx _ q) m q) h
 run:=λpins s σ H D Eh Z E β own T I sq n ok h hE=>by
  have P:=fA (iV (X:=X.Ae pins Eh) (pos:=pos) (w9 (X:=X.Ae pins Eh) (p:=pp) (pos:=cp) G hr hg hm hk hb (DH ha.pa) hdb gb hpl) pZ);refine br (P [] s σ H D (sZ (by rw[Sr];exact I)) ?_) λfl s' q=>Dj q
  refine qp.of (X:=X.qP) ha sq h λds ks β1 vs H1 aB q o1 r1=>?_;obtain⟨sm,rfl⟩:=o1.pu rfl;refine⟨λcv _ H'=>∃cl,cv=.ref cl/\az H1 H'/\T cl,⟨ds,r1.bor,mF ds _ _ _ _ (λd q2 v H' s2 r2=>?_) (λcl t H' s2=>⟨cl,rfl,s2,t⟩) q⟩,λfk s1 e s' I1 q=>hE s1 H1 e s' (fh I1) sm q⟩;exact ok.nx _ _ _ ⟨aB,o1.sq.same s2,(n.same sm).same s2⟩ q2
end
section
variable {P:Q6}{w:Rl}{C:Cfg}{σ:St}{H:Hp}{β:aX}{own:Nat->List Addr}
theorem bA.zR {i:Nat}(b:bA P w C σ H β own):bA P w C (σ.set i none) H (β.set i none) (aJ own i []):=by
 have sub:∀y a,eV C (Wn (aJ own i [])) (yk y) a->eV C (Wn own) (yk y) a:=λy=>fv (λa h=>dD h) _;refine⟨by simp[b.len],λj y' d' e=>?_,λj d' e=>?_,λj ok e=>?_,λj a h=>b.dm j a (a5 h).1,λj k a h1 h2=>b.iZ j k a (a5 h1).1 (a5 h2).1,λj=>?_,b.kp,b.fT,λj y' d' e=>?_⟩
 ·by_cases aG:i=j
  ·subst aG;obtain⟨e',hl⟩:=aZ e;cases e'
  ·rw[aU aG]at e ⊢
   obtain⟨u,h1,h2⟩:=b.val j y' d' e;exact⟨u,h1,h2.aP (sub _)⟩
 ·by_cases aG:i=j
  ·subst aG;obtain⟨e',hl⟩:=aZ e;cases e'
  ·rw[aU aG]at e ⊢
   rw[a6 aG];exact b.ow j d' e
 ·by_cases aG:i=j
  ·subst aG;obtain⟨e',hl⟩:=aZ e;cases e'
  ·rw[aU aG]at e ⊢
   rw[a6 aG];exact b.kB j ok e
 ·by_cases aG:i=j
  ·rw[aG,os_eq];exact Sf
  ·rw[a6 aG];exact b.kR j
 ·by_cases aG:i=j
  ·subst aG;obtain⟨e',hl⟩:=aZ e;cases e'
  ·rw[aU aG]at e ⊢
   rw[a6 aG];obtain⟨u,h1,h2,h3⟩:=b.shl j y' d' e;exact⟨u,h1,h2.map (λ_ _ _ z=>z) (λ_ _ r=>ag.aP (sub _) r),h3⟩
end
section
variable {X:Cx}{C:Cfg}{body nK:List Stmt}{b₀:Stmt}{θ:CG}{ψ:zt}{j:Nat}{xA n:Str}{CA:Addr}{np A9 pos:Pos}
theorem zX {P:Q6}{w:Rl}{σ:St}{H H':Hp}{β:aX}{own:Nat->List Addr}{e cl:Addr}(b:bA P w C.z σ H β own)(sm:az H H')(nt:H' e=none):aw P w (eV C.z (Wn own) .dU) (upd H' e (il cl e)) (.exc cl) (.ref e) :=
 ⟨e,rfl,⟨ao,λxs z=>(by cases z)⟩,λz=>by
  have b':=b.same sm;rcases z with (z|z)|z
  ·exact b'.uY e z nt
  ·exact b'.fT e z nt
  ·exact z⟩
theorem DG (mU:X.stack=X.env::X.outer)(hf:X.env.frame=some X.env.locals)(hb:TB X C body θ)(hs:∀e,ni (X.zm e) C (b₀::nK) ψ)(hm:X.mg xA=some (.ref CA))(hN:X.N.Nodup)(hj:X.N[j]?=some n:=by rfl)(hl:X.env.scope.names.lookup n=some .local:=by rfl)(hg:Gl X xA:=by rfl)
  (hd:(xA==("__debug__" : Str))=false:=by decide) :
  PB X C (.Try body [.ExceptHandler (some (.Name xA np)) (some n) (b₀::nK) A9] [] [] pos)
   (λE β=>∃T:Addr->Prop,θ E T β/\∀cl,T cl->exmOne X.K (.ref cl) (.ref CA)=some true/\ψ {nx:=λβ'=>E.nx (β'.set j none),rt:=λ_ _=>False} (β.set j (some (.val true (.exc cl))))) :=
 ⟨λE E' β l Hv=> by obtain⟨T,h,k⟩ := Hv;exact⟨T,hb.mono E E' T T β l (λ_ z=>z) h,λcl t=>⟨(k cl t).1,(hs 0).mono {nx:=λβ'=>E.nx (β'.set j none),rt:=λ_ _=>False} {nx:=λβ'=>E'.nx (β'.set j none),rt:=λ_ _=>False} _ ⟨λβ' q=>l.nx _ q,λ_ _ z=>z,λ_ z=>z,λ_ z=>z⟩ (k cl t).2⟩⟩,λpins s σ H D I Hu=> by
  obtain⟨Z,E,β,⟨own,sq,sn⟩,⟨T,h,k⟩,ok⟩ := Hu;refine wpAny_Try_except (br (hb.run pins s σ H D _ Z E β own T I sq sn ok h λs1 H1 e s' I1 sm cx=>?_) λfl s1 q=>?_)
  ·obtain⟨a,cl,H',rfl,L7,Qc,Ma,ML,t⟩:=cx;cases Ma;obtain⟨hx,hk⟩:=k cl t;refine E9 (X:=X) I1 mU hf L7 hm hg hx hN hj hl (λs2 I2=>?_) hd;have s3:az H (upd H' a (il cl a)):=(sm.trans ML).trans (az.new L7.nt);have J0:SQ X C.z (σ.set j (some (.ref a))) (upd H' a (il cl a)) (β.set j (some (.val true (.exc cl)))) (aJ own j []):=(sq.same s3).dX (zX sq (sm.trans ML) L7.nt);refine br ((hs a).ps pins s2 _ _ {nx:=λσ' H'=>D.nx (σ'.set j none) H',rt:=λ_ _=>False} I2 ⟨Z,_,_,⟨_,J0,mB (sn.same s3)⟩,hk,⟨λσ' H' β' sb q=>?_,λ_ _ _ _ _ _ _ z=>z.elim,λ_ _ _ _ z=>z.elim,λ_ _ _ _ z=>z.elim⟩⟩) λfl s4 q=>?_
   ·obtain⟨aK,Oi,Oj⟩:=sb;exact ok.nx _ _ _ ⟨_,Oi.zR,mB Oj⟩ q
   ·cases fl with
    |next =>
     obtain⟨σ4,H4,I4,q4⟩:=q;exact Bg (X:=X) (I4.FH I1.ok) hN hj hl λs5 I5=>⟨_,H4,I5,q4⟩
    |brk=>obtain⟨_,_,_,z⟩:=q;exact z.elim
    |cont=>obtain⟨_,_,_,z⟩:=q;exact z.elim
    |ret u=>obtain⟨_,_,_,_,_,z⟩:=q;exact z.elim
  ·cases fl with
   |next=>exact Ui q
   |ret v=>exact q
   |brk=>exact q
   |cont=>exact q⟩
variable {e:Expr}{φ:aN}{p:Bool}{T:Str}{pp pT:Pos}{cA:Addr}
structure Xk (K:Frag)(cl:Addr)(c:QZ)(b:Bool):Prop where
 xc:EX.XC K cl
 is:kitOne K (.ref cl) c=some b
def Ds (K:Frag)(c:QZ)(φ:aN):aN:=λβ R=>φ β λd _ β1=>∃cl b,d=.exc cl/\Xk K cl c b/\R (.bl b) .own β1
inductive CV:V->QZ->Prop where
 |own (a:Addr):CV (.ref a) (.ref a)
 |ty (n:String):CV (.ty n) (.type n)
theorem CV.rel {v:V}{c u:QZ}(h:CV v c)(r:RelV v u):u=c:=by
 cases h with
 |own a=>exact r
 |ty n=>exact r
theorem yL {c:QZ} {vc:V} (hc:CV vc c):eR X (.builtin "isinstance") (λxs H Q=>∃a cl b,xs=[.ref a,vc]/\H a=some (il cl a)/\Xk X.K cl c b/\Q (.bl b) H):=by
 intro pins s σ H xs us Q I r h;obtain⟨a,cl,b,rfl,ha,z,q⟩:=h;obtain⟨u1,u2,rfl,r1,r2⟩:∃u1 u2,us=[u1,u2]/\RelV (.ref a) u1/\RelV vc u2:=by
  cases r with
  |cons r1 r =>
   cases r with
   |cons r2 r=>cases r;exact⟨_,_,rfl,r1,r2⟩
 cases r1;obtain⟨ex,_,_⟩:=I.bj a _ ha;have e2:=hc.rel r2;subst e2;exact kia_one (EX.oN z.xc) I.vt ex z.is (λz=>by cases z) λtk=>⟨.bl b,H,I.tok _,rfl,q⟩
theorem yv {P:Q6}{w:Rl}{W:Addr->Prop}{H:Hp}{cl:Addr}{v:V}(h:aw P w W H (.exc cl) v):∃a,v=.ref a/\H a=some (il cl a):=by
 obtain⟨a,rfl,⟨h1,_⟩,_⟩:=h;exact⟨a,rfl,h1⟩
theorem wV {c:QZ} {vc:V} {ce:Expr} (hm:X.mg "isinstance" = none) (he:PQ X C p e φ) (hc:CV vc c) (Px:PE X ce (tC vc)) (hg:Gl X "isinstance" := by rfl)
  (gb:Rc [e,ce] X.env=(false,eval e X.env)::Rc [ce] X.env:=by rfl) (rh:Rc [ce] X.env=(false,eval ce X.env)::Rc [] X.env:=by rfl) (hpl:(SF pos (Rc [ce] X.env)).any (·.1)=false:=by rfl) :
  PQ X C p (.Call (.Name "isinstance" pp) [e,ce] [] pos) (Ds X.K c φ) :=
 ⟨λβ R R' k h=>he.mono β _ _ (λd kd β1 Ht=> by obtain⟨cl,b,ed,z,q⟩ := Ht;exact⟨cl,b,ed,z,k _ _ _ q⟩) h,
  (gw (yL hc) hg hm yO (bf he.pe (bf Px cK rh) gb) (by decide) (by decide) (he:=gb) (hpl:=hpl)).pre λσ H Q ⟨β,own,s,h⟩=>tQ.of he s h λd kd β1 v H1 aB hq o1 r1=>by
  obtain⟨cl,b,ed,z,q⟩:=hq;subst ed;obtain⟨a,rfl,ha⟩:=yv r1.rep;exact⟨a,cl,b,rfl,ha,z,q _ H1 aB o1 xK⟩⟩
theorem qL (hm:X.mg "isinstance" = none) (he:PQ X C p e φ) (hT:X.mg T=some (.ref cA)) (hg:Gl X "isinstance" := by rfl) (Ib:Gl X T:=by rfl) (Ik:(T==("__debug__" : Str))=false:=by decide)
  (gb:Rc [e,.Name T pT] X.env=(false,eval e X.env)::Rc [.Name T pT] X.env:=by rfl) (rh:Rc [.Name T pT] X.env=(false,eval (.Name T pT) X.env)::Rc [] X.env:=by rfl) (hpl:(SF pos (Rc [.Name T pT] X.env)).any (·.1)=false:=by rfl) :
  PQ X C p (.Call (.Name "isinstance" pp) [e,.Name T pT] [] pos) (Ds X.K (.ref cA) φ):=wV hm he (.own cA) (sL Ib hT rfl Ik) hg gb rh hpl
theorem Dy {n:String} (hm:X.mg "isinstance" = none) (he:PQ X C p e φ) (hT:X.mg T=none) (bT:Si T=some (.type n)) (hg:Gl X "isinstance" := by rfl) (Ib:Gl X T:=by rfl) (Pe:T≠"__name__" := by decide) (Ik:(T==("__debug__" : Str))=false:=by decide)
  (gb:Rc [e,.Name T pT] X.env=(false,eval e X.env)::Rc [.Name T pT] X.env:=by rfl) (rh:Rc [.Name T pT] X.env=(false,eval (.Name T pT) X.env)::Rc [] X.env:=by rfl) (hpl:(SF pos (Rc [.Name T pT] X.env)).any (·.1)=false:=by rfl) :
  PQ X C p (.Call (.Name "isinstance" pp) [e,.Name T pT] [] pos) (Ds X.K (.type n) φ):=wV hm he (.ty n) (Aj Ib hT bT rfl Pe Ik) hg gb rh hpl
structure JB (X:Cx)(es:List Expr)(vs:List V)(cs:List QZ):Prop where
 pa:PA X es λ_ H Q=>Q vs H
 rel:Paired CV vs cs
theorem Al:JB X [] [] []:=⟨cK.pre λσ H Q h=>h,.nil⟩
theorem cT {es:List Expr}{vs:List V}{cs:List QZ}(h:JB X es vs cs)(hT:X.mg T=some (.ref cA))(Ib:Gl X T:=by rfl)(Ik:(T==("__debug__" : Str))=false:=by decide)(gb:Rc (.Name T pT::es) X.env=(false,eval (.Name T pT) X.env)::Rc es X.env:=by rfl):
  JB X (.Name T pT::es) (.ref cA::vs) (.ref cA::cs):=⟨(bf (sL (v:=.ref cA) (pos:=pT) Ib hT rfl Ik) h.pa gb).pre λσ H Q h=>h,.cons (.own cA) h.rel⟩
theorem tG:∀{vs:List V} {cs us:List QZ},Paired CV vs cs->Vals vs us->us=cs
 |_,_,_,.nil,.nil=>rfl
 |_,_,_,.cons h t,.cons r t'=>by rw[h.rel r,tG t t']
structure Mm (K:Frag)(cl:Addr)(cs:List QZ)(b:Bool):Prop where
 xc:EX.XC K cl
 is:kitAny K (.ref cl) cs=some b
theorem va {cs:List QZ} {vs:List V} (hc:Paired CV vs cs):eR X (.builtin "isinstance") (λxs H Q=>∃a t cl b,xs=[.ref a,.ref t]/\H a=some (il cl a)/\H t=some (.tup vs)/\Mm X.K cl cs b/\Q (.bl b) H):=by
 intro pins s σ H xs us Q I r h;obtain⟨a,t,cl,b,rfl,ha,ht,z,q⟩:=h;obtain⟨u1,u2,rfl,r1,r2⟩:∃u1 u2,us=[u1,u2]/\RelV (.ref a) u1/\RelV (.ref t) u2:=by
  cases r with
  |cons r1 r =>
   cases r with
   |cons r2 r=>cases r;exact⟨_,_,rfl,r1,r2⟩
 cases r1;cases r2;obtain⟨ex,_,_⟩:=I.bj a _ ha;obtain⟨_,its,rv,⟨⟨oc,dd,od,sl⟩,ho,Bd,n,hd⟩⟩:=I.bj t _ ht;have e2:=tG hc rv;subst e2;dsimp only at Bd hd;subst Bd hd;exact kia_tup (EX.oN z.xc) I.vt ex ho z.is (λz=>by cases z) λtk=>⟨.bl b,H,I.tok _,rfl,q⟩
def F9 (K:Frag)(cs:List QZ)(φ:aN):aN:=λβ R=>φ β λd _ β1=>∃cl b,d=.exc cl/\Mm K cl cs b/\R (.bl b) .own β1
theorem Aa {es:List Expr} {vs:List V} {cs:List QZ} {tk} (hm:X.mg "isinstance" = none) (he:PQ X C p e φ) (hc:JB X es vs cs) (hz:vs.length<=Ri) (hg:Gl X "isinstance" := by rfl)
  (gb:Rc [e,.Tuple es tk pT] X.env=(false,eval e X.env)::Rc [.Tuple es tk pT] X.env:=by rfl) (rh:Rc [.Tuple es tk pT] X.env=(false,eval (.Tuple es tk pT) X.env)::Rc [] X.env:=by rfl) (hpl:(SF pos (Rc [.Tuple es tk pT] X.env)).any (·.1)=false:=by rfl) :
  PQ X C p (.Call (.Name "isinstance" pp) [e,.Tuple es tk pT] [] pos) (F9 X.K cs φ) :=
 ⟨λβ R R' k h=>he.mono β _ _ (λd kd β1 Hr=> by obtain⟨cl,b,ed,z,q⟩ := Hr;exact⟨cl,b,ed,z,k _ _ _ q⟩) h,
  (gw (va hc.rel) hg hm yO (bf he.pe (bf (w6 hc.pa) cK rh) gb) (by decide) (by decide) (he:=gb) (hpl:=hpl)).pre λσ H Q ⟨β,own,s,h⟩=>tQ.of he s h λd kd β1 v H1 aB hq o1 r1=>by
  obtain⟨cl,b,ed,z,q⟩:=hq;subst ed;obtain⟨a,rfl,ha⟩:=yv r1.rep;refine⟨hz,λt ht=>⟨a,t,cl,b,rfl,?_,ao,z,q _ _ aB (o1.same (az.new ht)) xK⟩⟩;rw[ak (λz=>by rw[z,ht]at ha;cases ha)]
  exact ha⟩
end
def IU:List Str:=["NoRow","NoTie","NoStretch","NoWeights","NoNumber","NoSet","NoGap","NoPlace","NoShape","NoText","NoForm","NoneYet"]
structure XA (K:Frag)(mg:Str->Option QZ)(cA:Addr)(c:Nat->Addr):Prop where
 Mj:mg "ArchError" = some (.ref cA)
 nm:∀i x,IU[i]?=some x->mg x=some (.ref (c i))
 exc:∀i,i<12->excIn K (c i) Jx "ValueError.__new__" = true
 xc:∀i,i<12->EX.XC K (c i)
 is:∀i,i<12->∀j,j<12->kitOne K (.ref (c i)) (.ref (c j))=some (decide (i=j))
 val:∀i,i<12->kitOne K (.ref (c i)) (.type "ValueError")=some true
 PY:∀i,i<12->exmOne K (.ref (c i)) (.ref cA)=some true
def JK (K:Frag)(cA:Addr)(c:Nat->Addr):Bool:=(Rz 12).all λi=>excIn K (c i) Jx "ValueError.__new__" && (mroIn K (c i) (.type "object")==some true&&(mroIn K (c i) (.type "BaseException")==some true &&
 (findIn K (.ref (c i)) "__getattribute__" == some (some (.builtin "BaseException.__getattribute__"))&&(findIn K (.ref (c i)) "__getattr__" == some none&&(findIn K (.ref (c i)) "__class__" == some (some (.builtin "object.__class__")) &&
 (kitOne K (.ref (c i)) (.type "ValueError")==some true&&(exmOne K (.ref (c i)) (.ref cA)==some true&&(Rz 12).all λj=>kitOne K (.ref (c i)) (.ref (c j))==some (decide (i=j)))))))))
theorem FF {K:Frag} {mg:Str->Option QZ} {cA:Addr} {c:Nat->Addr} (h:JK K cA c=true) (a:mg "ArchError" = some (.ref cA)) (n:∀i x,IU[i]?=some x->mg x=some (.ref (c i))):XA K mg cA c:=by
 have q:∀i,i<12->_:=λi hi=>S7.mp h i (So.mpr hi);simp only[RZ,beq_iff_eq,S7,So]at q;exact⟨a,n,λi hi=>(q i hi).1,λi hi=>⟨(q i hi).2.1,(q i hi).2.2.1,(q i hi).2.2.2.1,(q i hi).2.2.2.2.1,(q i hi).2.2.2.2.2.1⟩,λi hi j hj=>(q i hi).2.2.2.2.2.2.2.2 j hj,λi hi=>(q i hi).2.2.2.2.2.2.1,λi hi=>(q i hi).2.2.2.2.2.2.2.1⟩
section
variable {K:Frag}{mg:Str->Option QZ}{cA:Addr}{c:Nat->Addr}
theorem XA.x (Z:XA K mg cA c)(i:Nat){x:Str}(h:IU[i]?=some x:=by rfl)(hi:i<12:=by decide):Xc K mg x (c i):=⟨Z.nm i x h,Z.exc i hi⟩
theorem XA.k (Z:XA K mg cA c){i j:Nat}(hi:i<12)(hj:j<12):Xk K (c i) (.ref (c j)) (decide (i=j)):=⟨Z.xc i hi,Z.is i hi j hj⟩
theorem XA.kv (Z:XA K mg cA c) {i:Nat} (hi:i<12):Xk K (c i) (.type "ValueError") true:=⟨Z.xc i hi,Z.val i hi⟩
theorem XA.any (Z:XA K mg cA c){i:Nat}(hi:i<12):∀(js:List Nat),(∀j∈js,j<12)->kitAny K (.ref (c i)) (js.map λj=>.ref (c j))=some (js.any λj=>decide (i=j))
 |[],_=>rfl
 |j::js,h=>by
  show (match kitOne K (.ref (c i)) (.ref (c j))with|some true=>some true|some false=>kitAny K (.ref (c i)) (js.map λj=>.ref (c j))|none=>none)=_
  rw[Z.is i hi j (h j Ru),List.any_cons]
  by_cases e:i=j
  ·rw[decide_eq_true e];rfl
  ·rw[decide_eq_false e];exact XA.any Z hi js λj hj=>h j (Rt _ hj)
theorem XA.ks (Z:XA K mg cA c){i:Nat}(hi:i<12)(js:List Nat)(h:∀j∈js,j<12:=by decide):Mm K (c i) (js.map λj=>.ref (c j)) (js.any λj=>decide (i=j)):=⟨Z.xc i hi,Z.any hi js h⟩
end
theorem E_:Si "ValueError" = some (.type "ValueError"):=by decide +kernel
section
variable {X:Cx}{C:Cfg}{p p':Bool}{a b:Expr}{φa φb:aN}{g:D->D->Option D}{name:Str}{id:String}{apos cpos:Pos}
def Ki (g:D->D->Option D)(pb:Bool)(φa φb:aN):aN:=λβ R=>φa β λx ka β1=>(∃ds,x=.lst ds)/\hold ka pb/\φb β1 λy kb β2=>∃d,g x y=some d/\kN NF d (ka.max kb) λk=>R d k β2
abbrev Fh (X:Cx)(id:String)(g:D->D->Option D):Prop:=Ms X id λx xs H Q=>∃y,xs=[y]/\uc X g NF x y H Q
theorem BP (slot:Slot "list" name id) (Hc:typeOf (.builtin id)=pure (.type "method_descriptor")) (hm:Fh X id g) (ha:PQ X C p a φa) (hb:PQ X C p' b φb)
  (cE:S5 a name X.env (eval a X.env)=eval a X.env:=by rfl)
  (h_:((SF cpos (Rc [b] X.env)).all (λx=>!x.1)&&(Va cpos (Ue [] X.env)).all (λx=>x.1.isSome)
   && decide ([b].length+([]:List TN).length+(if ([]:List TN).isEmpty then 0 else 1)<30))=true:=by rfl)
  (cD:(apos.endLine==cpos.line)=true:=by rfl) (hs:Rc [b] X.env=(false,eval b X.env)::Rc [] X.env:=by rfl) (cm:(SF cpos (Rc [] X.env)).any (·.1)=false:=by rfl) :
  PQ X C (p&&p') (.Call (.Attribute a name apos) [b] [] cpos) (Ki g p' φa φb) :=
 ⟨λβ R R' k h=>ha.mono β _ _ (λx ka β1 hx=>⟨hx.1,hx.2.1,hb.mono β1 _ _ (λy kb β2 hq=>by obtain⟨d,e,q⟩:=hq;exact⟨d,e,q.mono λ_ z=>k _ _ _ z⟩) hx.2.2⟩) h,
  (sO PySem.F.plainAttrs_list slot Hc hm ha.pe (bf hb.pe cK (hs:=hs)) cE h_ cD hs cm).pre λσ H Q hq=>by
    obtain⟨β,own,s,h⟩:=hq;refine tQ.of ha s h λd1 k1 β1 v1 H1 aB hx o1 r1=>?_;obtain⟨⟨ds,rfl⟩,hh,h1⟩:=hx;refine⟨?_,tQ.of hb o1.sq h1 λd2 k2 β2 v2 H2 a3 xW o2 r2=>?_⟩
    · obtain⟨l,vs,rfl,hl,_⟩:=r1.rep;exact .inl ⟨rfl,vs,dg.of hl⟩
    · obtain⟨d,e,q⟩:=xW;have z5:=r1.ho o2 hh;refine⟨v2,rfl,av C (Wn a3) (k1.max k2),.lst ds,d2,d,o2.sq.yC _,aw.aP b6 z5.rep,aw.aP dB r2.rep,e,λv H' s3 r3 n3=>?_⟩;have o:=(o1.trans o2).same s3;obtain⟨k,q,r⟩:=KV.kN (Z:=(H,Wn own)) xB r3 (λn=>fD (H:=H2) o2.sq.uY o2.sq.fT (λa z=>o2.sn.d a (o1.sn.d a z)) (ai.nl _ n) (n3 n)) q;exact q v H' a3 o r⟩
end
end L2.Q
namespace L2
open PySem PySem.Spec PySem.SeqAt PyProof.Rows
def yG:List D->Option (List Bool)
 |[]=>some []
 |.bl b::ds=>(yG ds).map (b::·)
 |_::_=>none
theorem m7:∀{ds:List D} {bs:List Bool},yG ds=some bs->ds=bs.map D.bl
 |[],_,h=>by cases h;rfl
 |d::ds,bs,h=>by
  cases d with
  |bl b =>
   obtain⟨r,h1,rfl⟩:=RE.mp (show (yG ds).map (b::·)=some bs from h)
   rw[m7 h1];rfl
  |_=>cases h
section
variable {P:Q6}{w:Rl}{W:Addr->Prop}{H:Hp}
theorem nX:∀{bs:List Bool} {vs:List V},ag P w W H (bs.map D.bl) vs->vs=bs.map V.bl
 |[],_,h=>h
 |b::bs,_,⟨v,r,e,h1,h2⟩=>by rw[e,show v=.bl b from h1,nX h2];rfl
end
theorem nD:∀{bs:List Bool} {us:List QZ},Vals (bs.map V.bl) us->us=bs.map Value.bool
 |[],_,.nil=>rfl
 |b::bs,_,.cons r q=>by rw[RN,<- nD q,show _=Value.bool b from r]
namespace Q
section
end
end Q
end L2
namespace L2.Q
open PySem PySem.Spec PySem.SeqAt PyProof.Rows
def _root_.L2.D.Mf:D->Option Bool
 |.bl b=>some b
 |_=>none
theorem D.yT {d:D}{b:Bool}(h:d.Mf=some b):d=.bl b:=by cases d <;> first|(cases h;rfl)|cases h
section
variable {X:Cx}{C:Cfg}{p p':Bool}{a b:Expr}{φa φb:aN}{apos cpos:Pos}
def uN (k:Bool):QZ->Bool
 |.bool b=>b==k
 |_=>false
theorem tf (k:Bool){A:R7}{s:Q1}{bs:List Bool}{y:QZ}(hy:y∈bs.map Value.bool):EqAt A s y (.bool k) (uN k y):=by
 obtain⟨b,_,rfl⟩:=R5.mp hy;exact EqAt.bool_bool b k
def Cz (a b:D):Option D:=a.AO.bind λds=>(yG ds).bind λbs=>b.Mf.map λk=>.int (bs.count k:Nat)
def Cw (a b:D):Option D:=a.AO.bind λds=>(yG ds).bind λbs=>b.Mf.bind λk=>if k∈bs/\bs.length<=Ri then some (.int (bs.idxOf k:Nat)) else none
theorem yS {pins:List (Addr×Obj)}{s:Q1}{σ:St}{H:Hp}{W:Addr->Prop}{bs:List Bool}{x:V}{v:QZ}(I:Inv X pins σ H s)(rx:RelV x v)(r1:Rp X W H (.lst (bs.map D.bl)) x):
  ∃l dd n sl,v=.ref l/\s.heap.get? l=some ⟨.type "list",dd,.seq (bs.map Value.bool).toArray n,sl⟩:=by
 obtain⟨l,vs,rfl,hl,_,rv⟩:=r1;rw[nX rv]at hl;cases (show v=.ref l from rx)
 obtain⟨_,its,n,r',ho⟩:=I.bj l _ hl;rw[nD r']at ho;exact⟨l,_,n,_,rfl,ho⟩
theorem uA:Fh X "list.count" Cz:=by
 intro pins s σ H x xs v us Q I rx rs h;obtain⟨y,rfl,W,d1,d2,d,hd,r1,r2,e,q⟩:=h;obtain⟨ds,e1,e2⟩:=RW.mp e;obtain⟨bs,e3,e4⟩:=RW.mp e2;obtain⟨k,e5,rfl⟩:=RE.mp e4;rw[D.mO e1,m7 e3]at r1;rw[D.yT e5]at r2;obtain⟨l,dd,n,sl,rfl,ho⟩:=yS I rx r1;obtain⟨u,rfl,ru⟩:=vals1 rs;cases (show y=.bl k from r2)
 cases ru;refine Vq PySem.F.slot_list_count ⟨_,ho,rfl⟩ PySem.F.entry_list_count (PySem.F.args_list_count_2 _ _) (list_countAt l (bs.map Value.bool).toArray n dd sl (.bool k) (uN k)) ⟨ho,λy hy=>tf k (by simpa using hy),?_⟩
 have ec:(bs.map Value.bool).countP (uN k)=bs.count k:=by
  rw[List.countP_map];rfl
 rw[show (bs.map Value.bool).toArray.toList=bs.map Value.bool from rfl,ec]
 exact⟨.int (bs.count k:Nat),H,I.tok _,⟨_,rfl⟩,q _ _ (az.refl _) rfl λ_=>rfl⟩
theorem uy:Fh X "list.index" Cw:=by
 intro pins s σ H x xs v us Q I rx rs h;obtain⟨y,rfl,W,d1,d2,d,hd,r1,r2,e,q⟩:=h;obtain⟨ds,e1,e2⟩:=RW.mp e;obtain⟨bs,e3,e4⟩:=RW.mp e2;obtain⟨k,e5,e6⟩:=RW.mp e4;obtain⟨⟨hk,hz⟩,rfl⟩:=eE e6;rw[D.mO e1,m7 e3]at r1;rw[D.yT e5]at r2;obtain⟨l,dd,n,sl,rfl,ho⟩:=yS I rx r1;obtain⟨u,rfl,ru⟩:=vals1 rs;cases (show y=.bl k from r2)
 cases ru;have hj:bs.idxOf k<bs.length:=List.idxOf_lt_length_iff.mpr hk;have hsz:Ri<2 ^ 63-1:=by decide
 refine Vq PySem.F.slot_list_index ⟨_,ho,rfl⟩ PySem.F.entry_list_index (PySem.F.args_list_index_2 _ _) (list_indexAt l (bs.map Value.bool).toArray n dd sl (.bool k) (uN k) (bs.idxOf k) (by simpa using hj) (by lia) ?_ ?_)
  ⟨ho,λy hy=>tf k (by simpa using hy),⟨.int (bs.idxOf k:Nat),H,I.tok _,⟨_,rfl⟩,q _ _ (az.refl _) rfl λ_=>rfl⟩⟩
 ·simp[uN]
 ·intro m hm fI;have Pk:m<bs.length:=by simpa using hm
  have:=List.not_of_lt_findIdx (p:=(·==k)) (xs:=bs) fI;simpa[uN] using this
theorem ug (ha:PQ X C p a φa) (hb:PQ X C p' b φb) (cE:S5 a "count" X.env (eval a X.env)=eval a X.env:=by rfl)
  (h_:((SF cpos (Rc [b] X.env)).all (λx=>!x.1)&&(Va cpos (Ue [] X.env)).all (λx=>x.1.isSome)
   && decide ([b].length+([]:List TN).length+(if ([]:List TN).isEmpty then 0 else 1)<30))=true:=by rfl)
  (cD:(apos.endLine==cpos.line)=true:=by rfl) (hs:Rc [b] X.env=(false,eval b X.env)::Rc [] X.env:=by rfl) (cm:(SF cpos (Rc [] X.env)).any (·.1)=false:=by rfl) :
  PQ X C (p&&p') (.Call (.Attribute a "count" apos) [b] [] cpos) (Ki Cz p' φa φb):=BP PySem.F.slot_list_count PySem.F.type_list_count uA ha hb cE h_ cD hs cm
theorem uf (ha:PQ X C p a φa) (hb:PQ X C p' b φb) (cE:S5 a "index" X.env (eval a X.env)=eval a X.env:=by rfl)
  (h_:((SF cpos (Rc [b] X.env)).all (λx=>!x.1)&&(Va cpos (Ue [] X.env)).all (λx=>x.1.isSome)
   && decide ([b].length+([]:List TN).length+(if ([]:List TN).isEmpty then 0 else 1)<30))=true:=by rfl)
  (cD:(apos.endLine==cpos.line)=true:=by rfl) (hs:Rc [b] X.env=(false,eval b X.env)::Rc [] X.env:=by rfl) (cm:(SF cpos (Rc [] X.env)).any (·.1)=false:=by rfl) :
  PQ X C (p&&p') (.Call (.Attribute a "index" apos) [b] [] cpos) (Ki Cw p' φa φb):=BP PySem.F.slot_list_index PySem.F.type_list_index uy ha hb cE h_ cD hs cm
end
theorem tx (a b:Str)(ha:(D.str a).wq=true:=by decide +kernel)(hb:(D.str b).wq=true:=by decide +kernel):Ct (.str a) (.str b)=some (.bl (!decide (a=b))):=by
 unfold Ct;rw[if_pos ⟨ha,hb⟩];show some (D.bl (!(a==b)))=_;rw[show (a==b)=decide (a=b) from Ul.mpr (by rw[beq_iff_eq,decide_eq_true_iff])]
end L2.Q
namespace kJ
open PySem L2 L2.Q
section
variable {P:Q6}{w:Rl}{K:PySem.W.Frag}{mg:Str->Option QZ}{base:Heap}{cA:Addr}{c:Nat->Addr}
def j7 (c:Nat->Addr):IQ:=λds R T=>∃(n:Nat) (ps:List (Nat×Nat)) (i j:Int),ds=[iU n ps,.int i,.int j]/\zu n ps/\(¬ (0<=i/\i<=j/\j<=n)->T (c 2))/\(0<=i->i<=j->j<=n->R (GN ps i.toNat j.toNat))
theorem j7.mono:CL (j7 c):=λds R R' T T' k l h=>by obtain⟨n,ps,i,j,e,h1,h2,q⟩:=h;exact⟨n,ps,i,j,e,h1,λz=>l _ (h2 z),λa b d=>k _ (q a b d)⟩
theorem jt:aL ["row","i","j","table"] ["row","i","j"] (au dM):=⟨rfl,rfl,rfl,by decide +kernel,rfl,by decide +kernel,by decide +kernel⟩
theorem xq {rC lX} (Cu:MB K mg rC lX) {ph iG} (zq:JG K mg ph iG) {k8 fR} (tE:D8 K mg k8 fR) {gI dy} (l5:D5 K mg gI dy) {iP eO} (tw:D4 K mg iP eO) {iQ eP} (tD:D7 K mg iQ eP) {eU cj} (i5:D6 K mg eU cj) {k7 fQ} (qb:D9 K mg k7 fQ) {pj iH} (zr:JF K mg pj iH) {k9 fS} (vA:IS K mg k9 fS) {k6 fP} (vy:IT K mg k6 fP) (B:vE mg) (ZA:XA K mg cA c):aM P w K mg base (CN P w) 5 rC lX ["row","i","j"] (zL P w true (j7 c)):=by
 have Qj:aM P w K mg base bW 4 _ _ _ (fG P w true jZ):= xn zq tE l5 tw tD i5 qb B;have Qr:aM P w K mg base bW 3 _ _ _ (fG P w true pA):= AA zr l5 vA i5 vy B;have Mw:aM P w K mg base bW 1 _ _ _ (fG P w true rD):= xp qb;refine Kw Cu.F jt (λds R T Hq=> by obtain⟨n,ps,i,j,e,_⟩ := Hq;subst e;rfl) λb7 A outer s H E hr=>?_
 have Z:=vG (P:=P) (w:=w) (K:=K) (mg:=mg) (base:=base) (N:=["row","i","j","table"]) (qual:="most_of") (scope:=au dM) (f:=rC) (cd:=b7) (A:=A) (outer:=outer) (s:=s) (H:=H) (E:=E);refine⟨_,(aj (cf (sC (ue ah (n_ qN (ae (i:=1)) (n_ qN (ae (i:=2)) (z9 qN (bb ai b9 (ae (i:=0)) ah)))))) (ar (xa Z rfl (XA.x ZA 2))) a9)
    (ni.qP (aj (aW (i:=3) (a8 jZ.mono Qj (hr.mono (by decide)) zq.m zq.F.kp zq.b (aa (ae (i:=0)) af)) jt.nd)
    (ar (bq (aQ (aa (bb ai b9 (bb ai b9 (ae (i:=3)) (ae (i:=1))) (aE ai (b8.m bu) (ae (i:=2)) (ae (i:=1)))) (aa (a8 pA.mono Qr (hr.mono (by decide)) zr.m zr.F.kp zr.b (aa (ae (i:=0)) (aa (a8 rD.mono Mw (hr.mono (by decide)) qb.m qb.F.kp qb.b (aa (ae (i:=0)) af)) (aa (ae (i:=3)) (aa (ae (i:=1)) (aa (ae (i:=2)) af)))))) af)))))))),λds R h=>?_⟩
 obtain⟨n,ps,i,j,rfl,ok,hx,q⟩:=h;refine⟨_,rfl,_,rfl,oS (λh1=>?_) λh1=>⟨_,rfl,zi rfl (hx λz=>h1 z.1)⟩⟩;refine⟨_,rfl,_,rfl,oS (λh2=>?_) λh2=>⟨_,rfl,zi rfl (hx λz=>h2 z.2.1)⟩⟩
 by_cases h3:j<=n
 ·refine⟨_,rfl,trivial,_,rfl,_,rfl,_,rfl,jW (by show (!decide _)=false;rw[decide_eq_true h3];rfl) ?_⟩
  have q:=q h1 h2 h3;obtain⟨i,rfl⟩:=Int.eq_ofNat_of_zero_le h1;obtain⟨j,rfl⟩:=Int.eq_ofNat_of_zero_le (Int.le_trans h1 h2);have ej:(j:Int)-(i:Int)=((j-i:Nat):Int):=by lia
  exact⟨_,rfl,trivial,n,ps,rfl,ok,_,rfl,trivial,_,rfl,_,lK rfl (by lia),.inr ⟨trivial,_,rfl,trivial,_,rfl,_,rfl,_,lL (l:=j-i) ej (by lia),trivial,_,rfl,trivial,_,rfl,trivial,n,ps,rfl,ok,trivial,_,rfl,trivial,_,rfl,trivial,_,rfl,trivial,n,ps,w1,i,j,rfl,ok,by lia,by lia,trivial,fK,trivial,q⟩⟩
 ·exact⟨_,rfl,trivial,_,rfl,_,rfl,_,rfl,zi (by show (!decide _)=true;rw[decide_eq_false h3];rfl) (hx λz=>h3 z.2.2)⟩
theorem kP:aL ["row"] ["row"] (au cS):=⟨rfl,rfl,rfl,by decide +kernel,rfl,by decide +kernel,by decide +kernel⟩
theorem um {uW lZ} (Cy:MA K mg uW lZ) (B:Bs mg):aM P w K mg base bW 1 uW lZ ["row"] (fG P w true pB):=by
 refine uo Cy.F kP (λds R Ho=> by obtain⟨n,ps,e,_⟩ := Ho;subst e;rfl) λb7 A outer s H E hr=>⟨_,(ar (bq (aQ (aa (bb ai b9 (ae (i:=0)) ah) (aa (gX aF pN B.list BB (aa (bb ai b9 (ae (i:=0)) ah) af)) af))))),λds R h=>?_⟩
 obtain⟨n,ps,rfl,q⟩:=h;exact⟨_,rfl,trivial,_,rfl,trivial,_,rfl,trivial,_,rfl,.inr ⟨trivial,_,rfl,.inl ⟨yr,trivial,fK,trivial,q⟩⟩⟩
theorem e_:aL ["caught","others","kinds"] ["caught"] (au d6):=⟨rfl,rfl,rfl,by decide +kernel,rfl,by decide +kernel,by decide +kernel⟩
def pq (c:Nat->Addr):FD:=λds R=>(ds=[.bB]/\R (.str "told"))\/∃i,i<3/\ds=[.exc (c i)]/\R (.str (IU.getD i ""))
theorem pq.mono:dS (pq c):=λds R R' k h=>h.imp (λz=>⟨z.1,k _ z.2⟩) λ⟨i,hi,e,q⟩=>⟨i,hi,e,k _ q⟩
theorem Ay {uV lY} (Cv:Mz K mg uV lY) (B:vE mg) (bV:mg "ValueError" = none) (ZA:XA K mg cA c):aM P w K mg base bW 1 uV lY ["caught"] (fG P w true (pq c)):=by
 refine uo Cv.F e_ (λds R h=>by rcases h with⟨e,_⟩|⟨_,_,e,_⟩ <;> (subst e;rfl)) λb7 A outer s H E hr=>⟨_,(cu (cf (aS ai (b8.m sP) (ae (i:=0)) jy) (ar (bq fg)) a9)
    (aj (aW (i:=1) (Aa B.G1 (ae (i:=0)) (cT (cT (cT (cT (cT (cT (cT (cT (cT Al (XA.x ZA 11).m) (XA.x ZA 3).m) (XA.x ZA 9).m) (XA.x ZA 8).m) (XA.x ZA 5).m) (XA.x ZA 7).m) (XA.x ZA 4).m) (XA.x ZA 6).m) (XA.x ZA 10).m) (by show 9<=Ri;decide)) e_.nd)
    (aj (aW (i:=2) (a_ (aa (qL B.G1 (ae (i:=0)) (XA.x ZA 0).m) (aa (qL B.G1 (ae (i:=0)) (XA.x ZA 1).m) (aa (qL B.G1 (ae (i:=0)) (XA.x ZA 2).m) af)))) e_.nd)
    (cu (cf (vC.t (qI (sA (ae (i:=1))) (qI (sC (sA (Dy B.G1 (ae (i:=0)) bV E_))) (su (aS ai (b8.m (jI hr.units)) (ug (ae (i:=2)) sD) ah))))) (ar (bq fg)) a9)
    (ar (bq (bb ai b9 (a_ (aa fg (aa fg (aa fg af)))) (uf (ae (i:=2)) sD)))))))),λds R h=>?_⟩
 rcases h with⟨rfl,q⟩|⟨i,hi,rfl,q⟩
 ·exact⟨λ_=>False,⟨_,rfl,trivial,_,rfl,_,rfl,zi rfl ⟨trivial,q⟩⟩,λ_ z=>z.elim⟩
 ·refine⟨λβ=>β=[some (.val false (.exc (c i))),none,none],⟨_,rfl,trivial,_,rfl,_,rfl,jW rfl rfl⟩,?_⟩;rintro β rfl;have cU:i<12:=by lia
  refine⟨_,rfl,c i,_,rfl,ZA.ks cU [10,6,4,7,5,8,9,3,11],?_⟩;refine⟨_,rfl,c i,_,rfl,ZA.k cU (j:=0) (by decide),trivial,_,rfl,c i,_,rfl,ZA.k cU (j:=1) (by decide),trivial,_,rfl,c i,_,rfl,ZA.k cU (j:=2) (by decide),trivial,dq (by show 3<=1000;decide),?_⟩
  match i,hi,cU,q with
  |0,_,cU,q =>
   refine⟨λβ=>β=[some (.val false (.exc (c 0))),some (.val true (.bl false)),some (.val true (.lst [.bl true,.bl false,.bl false]))],⟨_,rfl,_,rfl,jW rfl ⟨_,rfl,c 0,true,rfl,ZA.kv cU,_,rfl,jW rfl ⟨_,rfl,⟨_,rfl⟩,trivial,_,rfl,trivial,_,m6 _ _,_,rfl,jW rfl rfl⟩⟩⟩,?_⟩;rintro β rfl;exact⟨trivial,trivial,trivial,dq (by show 3<=1000;decide),trivial,_,rfl,⟨_,rfl⟩,trivial,_,rfl,_,rfl,trivial,q⟩
  |1,_,cU,q =>
   refine⟨λβ=>β=[some (.val false (.exc (c 1))),some (.val true (.bl false)),some (.val true (.lst [.bl false,.bl true,.bl false]))],⟨_,rfl,_,rfl,jW rfl ⟨_,rfl,c 1,true,rfl,ZA.kv cU,_,rfl,jW rfl ⟨_,rfl,⟨_,rfl⟩,trivial,_,rfl,trivial,_,m6 _ _,_,rfl,jW rfl rfl⟩⟩⟩,?_⟩;rintro β rfl;exact⟨trivial,trivial,trivial,dq (by show 3<=1000;decide),trivial,_,rfl,⟨_,rfl⟩,trivial,_,rfl,_,rfl,trivial,q⟩
  |2,_,cU,q =>
   refine⟨λβ=>β=[some (.val false (.exc (c 2))),some (.val true (.bl false)),some (.val true (.lst [.bl false,.bl false,.bl true]))],⟨_,rfl,_,rfl,jW rfl ⟨_,rfl,c 2,true,rfl,ZA.kv cU,_,rfl,jW rfl ⟨_,rfl,⟨_,rfl⟩,trivial,_,rfl,trivial,_,m6 _ _,_,rfl,jW rfl rfl⟩⟩⟩,?_⟩;rintro β rfl;exact⟨trivial,trivial,trivial,dq (by show 3<=1000;decide),trivial,_,rfl,⟨_,rfl⟩,trivial,_,rfl,_,rfl,trivial,q⟩
theorem cw:aL ["row","begin","end","caught","handed","e"] ["row","begin","end"] (au d4):=⟨rfl,rfl,rfl,by decide +kernel,rfl,by decide +kernel,by decide +kernel⟩
def l0 (c:Nat->Addr):FD:=λds R=>∃(n:Nat) (ps:List (Nat×Nat)) (i j:Int),ds=[iU n ps,.int i,.int j]/\zu n ps/\R (.str (if 0<=i/\i<=j/\j<=n then "told" else "NoStretch"))
theorem l0.mono:dS (l0 c):=λds R R' k ⟨n,ps,i,j,e,h,q⟩=>⟨n,ps,i,j,e,h,k _ q⟩
theorem Ax {Bl td} (Bq:NX K mg Bl td) {ph iG} (zq:JG K mg ph iG) {k8 fR} (tE:D8 K mg k8 fR) {gI dy} (l5:D5 K mg gI dy) {iP eO} (tw:D4 K mg iP eO) {iQ eP} (tD:D7 K mg iQ eP) {eU cj} (i5:D6 K mg eU cj) {k7 fQ} (qb:D9 K mg k7 fQ) {pj iH} (zr:JF K mg pj iH) {k9 fS} (vA:IS K mg k9 fS) {k6 fP} (vy:IT K mg k6 fP) {rC lX} (Cu:MB K mg rC lX) {uW lZ} (Cy:MA K mg uW lZ) {uV lY} (Cv:Mz K mg uV lY) (B:vE mg) (bV:mg "ValueError" = none) (ZA:XA K mg cA c):aM P w K mg base bW 6 Bl td ["row","begin","end"] (fG P w true (l0 c)):=by
 have Qn:aM P w K mg base (CN P w) 5 _ _ _ (zL P w true (j7 c)):=xq Cu zq tE l5 tw tD i5 qb zr vA vy B ZA;have Qs:aM P w K mg base bW 1 _ _ _ (fG P w true pB):=um Cy B.toBs;have Qp:aM P w K mg base bW 1 _ _ _ (fG P w true (pq c)):=Ay Cv B bV ZA;refine uo Bq.F cw (λds R Hn=> by obtain⟨n,ps,i,j,e,_⟩ := Hn;subst e;rfl) λb7 A outer s H E hr=>⟨_,(aj (aW (i:=3) jy cw.nd)
    (aj (aW (i:=4) (a8 pB.mono Qs (hr.mono (by decide)) Cy.m Cy.F.kp Cy.b (aa (ae (i:=0)) af)) cw.nd)
    (cu (DG (j:=5) rfl rfl (zI j7.mono Qn (hr.mono (by decide)) Cu.m Cu.F.kp Cu.b (aa (ae (i:=4)) (aa (ae (i:=1)) (aa (ae (i:=2)) af)))) (λ_=>(ar (aW (i:=3) (ae (i:=5)) cw.nd))) ZA.Mj cw.nd)
    (aj (cf (aS ai (b8.m (jI hr.units)) (ae (i:=4)) (ae (i:=0))) (ar (bq fg)) a9)
    (ar (bq (a8 pq.mono Qp (hr.mono (by decide)) Cv.m Cv.F.kp Cv.b (aa (ae (i:=3)) af)))))))),λds R h=>?_⟩
 obtain⟨n,ps,i,j,rfl,ok,q⟩:=h;refine⟨_,rfl,trivial,n,ps,rfl,?_⟩;refine⟨λβ=>∃d,β=[some (.val false (iU n ps)),some (.val false (.int i)),some (.val false (.int j)),some (.val true d),some (.val true (iU n ps)),none]/\((d=.bB/\(0<=i/\i<=j/\j<=n))\/(d=.exc (c 2)/\¬ (0<=i/\i<=j/\j<=n))),
  ⟨λcl=>cl=c 2/\¬ (0<=i/\i<=j/\j<=n),⟨_,rfl,trivial,_,rfl,trivial,_,rfl,trivial,n,ps,i,j,rfl,ok,λh=>⟨rfl,h⟩,λa b d=>⟨_,rfl,.inl ⟨rfl,a,b,d⟩⟩⟩,λcl h=>by
   obtain⟨rfl,h⟩:=h;exact⟨ZA.PY 2 (by decide),_,rfl,_,rfl,.inr ⟨rfl,h⟩⟩⟩,?_⟩
 rintro β ⟨d,rfl,hd⟩;refine⟨_,rfl,trivial,_,rfl,_,yD (wg n ps),_,rfl,jW rfl ?_⟩;rcases hd with⟨rfl,hv⟩|⟨rfl,hv⟩
 ·rw[if_pos hv]at q;exact⟨_,rfl,trivial,.inl ⟨rfl,trivial,q⟩⟩
 ·rw[if_neg hv]at q;exact⟨_,rfl,trivial,.inr ⟨2,by decide,rfl,trivial,q⟩⟩
end
section
variable {P:Q6}{w:Rl}{K:PySem.W.Frag}{mg:Str->Option QZ}{base:Heap}{cA:Addr}{c:Nat->Addr}
theorem ck:aL ["script","cell","hand","row","many","far","point","bads","begin","end"] ["script"] (au jv):=⟨rfl,rfl,rfl,by decide +kernel,rfl,by decide +kernel,by decide +kernel⟩
def v_ (K:PySem.W.Frag):Sp:=λvs H Q _=>∃(a:Addr) (ns:List Int),vs=[.ref a]/\dg K H a (ns.map V.int)/\ns.length<=63/\∀H',Q (.bl true) H'
def JL (β:Q.aX):Prop:=∃y0 y1 y2 y3 y4 y5 y6 y7 y8 y9:Option Q.B,β=[y0,y1,y2,y3,y4,y5,y6,y7,y8,y9]
theorem Gi:Iy (.int 10) (.int 29)=some (.int (10 ^ 29)):=by
 show (if rT 10 29 then some (D.int (10 ^ (29:Int).toNat)) else none)=_
 rw[if_pos ⟨by decide,by decide,by decide⟩]
 rfl
theorem DQ {f:Addr} {fd:RY} (F:zb K "law" "law" jv f fd) (B:vE mg) (bV:mg "ValueError" = none) (ZA:XA K mg cA c) {rC lX} (Cu:MB K mg rC lX) {ph iG} (zq:JG K mg ph iG) {k8 fR} (tE:D8 K mg k8 fR) {gI dy} (l5:D5 K mg gI dy) {iP eO} (tw:D4 K mg iP eO) {iQ eP} (tD:D7 K mg iQ eP) {eU cj} (i5:D6 K mg eU cj) {k7 fQ} (qb:D9 K mg k7 fQ) {pj iH} (zr:JF K mg pj iH) {k9 fS} (vA:IS K mg k9 fS) {k6 fP} (vy:IT K mg k6 fP) {PV L9} (dH:Qv K mg PV L9) {EW rB} (dT:D1 K mg EW rB) {Co o_} (dA:D0 K mg Co o_) {Fx uU} (dI:D2 K mg Fx uU) {Ju Bk} (dR:D3 K mg Ju Bk) {uW lZ} (Cy:MA K mg uW lZ) {uV lY} (Cv:Mz K mg uV lY) {Bl td} (Bq:NX K mg Bl td):aM P w K mg base bW 45 f fd ["script"] (v_ K):=by
 have GH:aM P w K mg base bW 1 _ _ _ (fG P w true pz):=ER (Az dH.F ⟨B.max,B.min,B.int⟩);have GT:aM P w K mg base bW 1 _ _ _ (gS P w gz true bI):=mw (iX dT.F);have GR:aM P w K mg base bW 4 _ _ _ (gS P w gz true yu):=DO dR dT dA dI B.toBs;have NV:aM P w K mg base bW 6 _ _ _ (fG P w true (l0 c)):=Ax Bq zq tE l5 tw tD i5 qb zr vA vy Cu Cy Cv B bV ZA;refine F.ok ck (λvs H Q E h=>?_) (λb7 A outer s H vs Qk E hr h=>?_)
 ·obtain⟨a,ns,rfl,_⟩:=h;rfl
 ·obtain⟨a,ns,rfl,hS,hlen,k⟩:=h;have LN:∀b:Addr,¬ (λ_=>False) b:=λb z=>z;obtain⟨ψ,hb,hψ⟩:∃ψ,Q.ni (iR bW P w K mg base _ "law" (au jv) f b7 A outer s H E).qP ⟨H,λ_=>False,true,λ_=>False⟩ (match (cV jv)with | .For _ _ b _ _::_=>b|_=>[]) ψ /\
    ∀(c:Int) (x0 x2 x3 x4 x5 x6 x7 x8 x9:Option Q.B),ψ {nx:=JL,rt:=λd _=>d=.bl true,bk:=JL,ct:=JL} [x0,some (.val true (.int c)),x2,x3,x4,x5,x6,x7,x8,x9]:=by
   refine⟨_,(aj (Ak (i:=2) gz LN (λ_=>(a8 pz.mono GH (hr.mono (by decide)) dH.m dH.F.kp dH.b (aa (ae (i:=1)) af))) ck.nd)
    (aj (aW (i:=3) (bc (ih:=2) yu.mono GR (hr.mono (by decide)) dR.m dR.F.kp dR.b af) ck.nd)
    (aj (aW (i:=4) (bb ai b9 (ae (i:=3)) ah) ck.nd)
    (aj (aW (i:=5) (bc (ih:=2) bI.mono GT (hr.mono (by decide)) dT.m dT.F.kp dT.b (aa (bb ai b9 (a_ (aa ah (aa ah (aa (aE ai (b8.m As) ah ah) af)))) (bc (ih:=2) bI.mono GT (hr.mono (by decide)) dT.m dT.F.kp dT.b (aa ah af))) af)) ck.nd)
    (aj (aW (i:=6) (bc (ih:=2) bI.mono GT (hr.mono (by decide)) dT.m dT.F.kp dT.b (aa (aE aF ay (ae (i:=4)) ah) af)) ck.nd)
    (aj (aW (i:=7) (a_ (aa (aQ (aa (iA dk ah) (aa (ae (i:=6)) af))) (aa (aQ (aa (aE ai (b8.m bu) (iA dk ah) (ae (i:=5))) (aa (ae (i:=6)) af))) (aa (aQ (aa (ae (i:=6)) (aa (aE aF ay (ae (i:=4)) ah) af))) (aa (aQ (aa (ae (i:=6)) (aa (aE aF ay (aE aF ay (ae (i:=4)) ah) (ae (i:=5))) af))) (aa (aQ (aa (iA dk ah) (aa (aE aF ay (ae (i:=4)) ah) af))) af)))))) ck.nd)
    (aj (aW (i:=7) (aE aF ay (ae (i:=7)) (a_ (aa (aQ (aa (aE aF ay (ae (i:=6)) ah) (aa (ae (i:=6)) af))) (aa (aQ (aa (aE aF ay (aE aF ay (ae (i:=6)) ah) (ae (i:=5))) (aa (ae (i:=6)) af))) (aa (aQ (aa (ae (i:=6)) (aa (aE ai (b8.m bu) (ae (i:=6)) ah) af))) (aa (aQ (aa (aE aF ay (ae (i:=4)) ah) (aa (aE aF ay (ae (i:=4)) ah) af))) (aa (aQ (aa (iA dk ah) (aa (iA dk ah) af))) af))))))) ck.nd)
    (aj (d_ SA rfl (c9 (aE aF ay (ae (i:=7)) (a_ (aa (aQ (aa (aE aF ay (aE aF ay (ae (i:=4)) ah) (ae (i:=5))) (aa (aE ai (b8.m bu) (iA dk ah) (ae (i:=5))) af))) af)))) (fB (n:=2) rfl (ba (aD (i:=8) ck.nd) (ba (aD (i:=9) ck.nd) dN))) (ar (cf (aS ai (b8.m (jI hr.units)) (a8 l0.mono NV (hr.mono (by decide)) Bq.m Bq.F.kp Bq.b (aa (ae (i:=3)) (aa (ae (i:=8)) (aa (ae (i:=9)) af)))) fg) (ar (bq sD)) a9)))
    (ar (d_ SA rfl (c9 (a_ (aa (aQ (aa ah (aa (ae (i:=4)) af))) (aa (aQ (aa (ae (i:=6)) (aa (ae (i:=6)) af))) (aa (aQ (aa (ae (i:=6)) (aa (ae (i:=4)) af))) (aa (aQ (aa ah (aa (ae (i:=6)) af))) af)))))) (fB (n:=2) rfl (ba (aD (i:=8) ck.nd) (ba (aD (i:=9) ck.nd) dN))) (ar (cf (aS ai (b8.m (jI hr.units)) (a8 l0.mono NV (hr.mono (by decide)) Bq.m Bq.F.kp Bq.b (aa (ae (i:=3)) (aa (ae (i:=8)) (aa (ae (i:=9)) af)))) fg) (ar (bq sD)) a9)))))))))))),λcc x0 x2 x3 x4 x5 x6 x7 x8 x9=>?_⟩
   refine⟨_,rfl,trivial,cc,rfl,λns hk=>⟨trivial,(by show 2<10;decide),ns,rfl,hk,?_⟩⟩
   refine⟨rfl,rfl,trivial,rfl,λn ts n0 n1 dr=>?_⟩;obtain⟨hl,tr,sr,nd⟩:=dr;obtain⟨m,ps,ok,en,QW,er⟩:=zW n0 (by lia) (by lia) tr nd
   rw[er];have hm:m<=40:=by lia
   refine⟨_,rfl,trivial,_,rfl,?_⟩;refine⟨rfl,trivial,trivial,trivial,.int (10 ^ 29),Gi,trivial,(by show 3<=Ri;decide),trivial,rfl,trivial,rfl,trivial,3,rfl,by lia,by lia,λr r0 r1=>pick r0 (by simpa using r1) λd hd=>?_⟩
   obtain⟨mm,rfl,m0,m1⟩:∃mm:Int,d=.int mm/\0<mm/\mm<=10 ^ 29:=by
    simp only[Ra,Tx,or_false]at hd;rcases hd with rfl|rfl|rfl
    ·exact⟨1,rfl,by lia,by lia⟩
    ·exact⟨9,rfl,by lia,by lia⟩
    ·exact⟨10 ^ 29,rfl,by lia,by lia⟩
   refine⟨trivial,rfl,trivial,mm,rfl,m0,by lia,λvx f0 f1=>?_⟩
   refine⟨rfl,_,rfl,trivial,_,rfl,trivial,rfl,trivial,(m:Int)+1,rfl,by lia,by lia,λpt p0 p1=>?_⟩
   refine⟨_,rfl,rfl,trivial,_,rfl,trivial,fK,trivial,_,rfl,rfl,trivial,_,rfl,_,rfl,trivial,_,rfl,trivial,fK,trivial,_,rfl,trivial,_,rfl,trivial,_,rfl,trivial,fK,trivial,_,rfl,trivial,_,rfl,trivial,_,rfl,trivial,_,rfl,_,rfl,trivial,fK,trivial,_,rfl,rfl,trivial,_,rfl,trivial,_,rfl,trivial,fK,trivial,dq (by show 5<=1000;decide),?_⟩
   refine⟨_,rfl,trivial,_,rfl,trivial,_,rfl,trivial,_,rfl,trivial,fK,trivial,_,rfl,trivial,_,rfl,trivial,_,rfl,_,rfl,trivial,_,rfl,trivial,fK,trivial,_,rfl,trivial,_,rfl,trivial,_,rfl,trivial,fK,trivial,_,rfl,trivial,_,rfl,trivial,_,rfl,trivial,_,rfl,trivial,fK,trivial,_,rfl,rfl,trivial,_,rfl,rfl,trivial,fK,trivial,dq (by show 5<=1000;decide),_,rfl,.inr ?_⟩
   refine⟨_,rfl,trivial,_,rfl,trivial,_,rfl,trivial,_,rfl,_,rfl,trivial,_,rfl,rfl,trivial,_,rfl,_,rfl,trivial,fK,trivial,dq (by show 1<=1000;decide),_,rfl,.inr ⟨_,rfl,trivial,?_⟩⟩
   obtain⟨b1,e1⟩:∃b1:List (Int×Int),b1=[(-1,pt),(-1-vx,pt),(pt,(m:Int)+1),(pt,(m:Int)+1+vx),(-1,(m:Int)+1),(pt+1,pt),(pt+1+vx,pt),(pt,pt-1),((m:Int)+1,(m:Int)+1),(-1,-1),((m:Int)+1+vx,-1-vx)]:=⟨_,rfl⟩;have bad:∀p∈b1,¬ (0<=p.1/\p.1<=p.2/\p.2<=(m:Int)):=λp hp=>by
    rw[e1]at hp;simp only[Ra,Tx,or_false]at hp;rcases hp with rfl|rfl|rfl|rfl|rfl|rfl|rfl|rfl|rfl|rfl|rfl <;> (dsimp only;lia)
   have eb:∀k β (E:Q.cQ) γ ψ,Q.oY γ ψ E (b1.map λp=>D.tup [.int p.1,.int p.2]) k β->Q.oY γ ψ E ([D.tup [D.int (-1),D.int pt],D.tup [D.int (-1-vx),D.int pt],D.tup [D.int pt,D.int ((m:Int)+1)],D.tup [D.int pt,D.int ((m:Int)+1+vx)],D.tup [D.int (-1),D.int ((m:Int)+1)]]++[D.tup [D.int (pt+1),D.int pt],D.tup [D.int (pt+1+vx),D.int pt],D.tup [D.int pt,D.int (pt-1)],D.tup [D.int ((m:Int)+1),D.int ((m:Int)+1)],D.tup [D.int (-1),D.int (-1)]]++[D.tup [D.int ((m:Int)+1+vx),D.int (-1-vx)]]) k β:=λk β E γ ψ h=>by
    rw[e1]at h;exact h
   refine eb _ _ _ _ _ ⟨λ_ β=>∃x7 x8 x9:Option Q.B,β=[x0,some (.val true (.int cc)),some (.hand gz),some (.val true (iU m ps)),some (.val true (.int m)),some (.val true (.int vx)),some (.val true (.int pt)),x7,x8,x9],⟨_,_,_,rfl⟩,?_,?_⟩
   ·rintro i d β hd ⟨x7,x8,x9,rfl⟩;rw[Rn]at hd;obtain⟨p,Fu,rfl⟩:=RE.mp hd;have hv:=bad p (SE Fu);refine⟨_,rfl,rfl,_,_,rfl,_,_,rfl,rfl,?_⟩;refine⟨_,rfl,trivial,_,rfl,trivial,_,rfl,trivial,m,ps,p.1,p.2,rfl,ok,?_⟩;rw[if_neg hv];exact⟨trivial,_,tx _ _,_,rfl,jW (by decide) ⟨_,_,_,rfl⟩⟩
   ·rintro β ⟨x7,x8,x9,rfl⟩;refine⟨trivial,_,rfl,trivial,fK,trivial,_,rfl,trivial,_,rfl,trivial,fK,trivial,_,rfl,trivial,_,rfl,trivial,fK,trivial,trivial,_,rfl,trivial,fK,trivial,dq (by show 4<=1000;decide),_,rfl,trivial,?_⟩
    obtain⟨b2,e2⟩:∃b2:List (Int×Int),b2=[(0,(m:Int)),(pt,pt),(pt,(m:Int)),(0,pt)]:=⟨_,rfl⟩;have good:∀p∈b2,0<=p.1/\p.1<=p.2/\p.2<=(m:Int):=λp hp=>by
     rw[e2]at hp;simp only[Ra,Tx,or_false]at hp;rcases hp with rfl|rfl|rfl|rfl <;> (dsimp only;lia)
    have P5:∀k β (E:Q.cQ) γ ψ,Q.oY γ ψ E (b2.map λp=>D.tup [.int p.1,.int p.2]) k β->Q.oY γ ψ E [D.tup [D.int 0,D.int m],D.tup [D.int pt,D.int pt],D.tup [D.int pt,D.int m],D.tup [D.int 0,D.int pt]] k β:=λk β E γ ψ h=>by
     rw[e2]at h;exact h
    refine P5 _ _ _ _ _ ⟨λ_ β=>∃x7 x8 x9:Option Q.B,β=[x0,some (.val true (.int cc)),some (.hand gz),some (.val true (iU m ps)),some (.val true (.int m)),some (.val true (.int vx)),some (.val true (.int pt)),x7,x8,x9],⟨_,_,_,rfl⟩,?_,?_⟩
    ·rintro i d β hd ⟨x7,x8,x9,rfl⟩;rw[Rn]at hd;obtain⟨p,Fu,rfl⟩:=RE.mp hd;have hv:=good p (SE Fu);refine⟨_,rfl,rfl,_,_,rfl,_,_,rfl,rfl,?_⟩;refine⟨_,rfl,trivial,_,rfl,trivial,_,rfl,trivial,m,ps,p.1,p.2,rfl,ok,?_⟩;rw[if_pos hv];exact⟨trivial,_,tx _ _,_,rfl,jW (by decide) ⟨_,_,_,rfl⟩⟩
    ·rintro β ⟨x7,x8,x9,rfl⟩;exact⟨_,_,_,_,_,_,_,_,_,_,rfl⟩
  refine⟨_,c8 (wL SA rfl (sJ (cC xm (qM (bf (cC jG aV aV) cK)) (oh r9 (pv 0) sG (sF aV)))) (Q.aD (C:=⟨H,λ_=>False,true,λ_=>False⟩) (i:=1) ck.nd).pg hb.ps) (fA (gW BR)),?_⟩;obtain⟨ms,em,hm⟩:=u5 ns none (some 10);refine⟨_,_,rfl,rfl,wW,(by show 1<=Ri;decide),λp1 HV=>⟨_,rfl,_,rfl,a,_,rfl,(az.new HV).seq hS,λp2 Jj=>?_⟩⟩
  have OP:p1≠p2:=bO ao Jj;refine⟨p1,p2,_,_,rfl,rfl,(by rw[ak OP];exact ao),ao,(by rw[em,Q3,Sd,T7];lia),λl hl=>⟨l,rfl,⟨_,dg.of ao⟩,?_⟩⟩
  rw[em];rw[em]at hl;have sm:az H (upd (upd (upd H p1 (.lst [V.int (10 ^ (18:Int).toNat)])) p2 (.lst (ms.map V.int))) l (.lst ([V.int (10 ^ (18:Int).toNat)]++ms.map V.int))):=((az.new HV).trans (az.new (by rw[em]at *;exact Jj))).trans (az.new hl)
  have lR:(upd (upd (upd H p1 (.lst [V.int (10 ^ (18:Int).toNat)])) p2 (.lst (ms.map V.int))) l (.lst ([V.int (10 ^ (18:Int).toNat)]++ms.map V.int))) l=some (.lst (((10 ^ (18:Int).toNat)::ms).map V.int)):=ao;generalize (upd (upd (upd H p1 (.lst [V.int (10 ^ (18:Int).toNat)])) p2 (.lst (ms.map V.int))) l (.lst ([V.int (10 ^ (18:Int).toNat)]++ms.map V.int)))=H1 at sm lR ⊢
  generalize ((10 ^ (18:Int).toNat)::ms)=cs at lR;let X:Cx:=(iR bW P w K mg base ["script","cell","hand","row","many","far","point","bads","begin","end"] "law" (au jv) f b7 A outer s H E).qP
  let C:Q.Cfg:=⟨H,λ_=>False,true,λ_=>False⟩
  have it:zw X (λ_=>False) (JE K l) (cs.map D.int) H1:=oO lR (λz=>z) (bQ cs);have Fs:=it (λb=>(λ_=>False) b\/H1 b=none) λb z=>z;have s':Q.bA P w C.z (L2.start ["script","cell","hand","row","many","far","point","bads","begin","end"] [.ref a]) H1 (Tt 10 none) (λ_=>[]):=zK (by rfl) sm
  generalize Pt:cs.map D.int=ds at Fs;have hint:∀d∈ds,∃c:Int,d=.int c:=λd hd=>by
   rw[<- Pt]at hd;obtain⟨c,_,rfl⟩:=R5.mp hd;exact⟨c,rfl⟩
  refine⟨λi m σ H'=>i<=ds.length/\m=ds.length-i/\∃β,Q.SB X C (H1,Q.Wn λ_=>[]) σ H' β/\JL β,⟨_,Rr _,rfl,_,⟨_,s',Sn.refl⟩,⟨_,_,_,_,_,_,_,_,_,_,rfl⟩⟩,?_⟩;rintro i m σ2 H2 ⟨hi,rfl,β2,⟨a3,s2,n2⟩,⟨y0,y1,y2,y3,y4,y5,y6,y7,y8,y9,rfl⟩⟩;obtain⟨cH,mR⟩:=Fs i H2 (n2.k.mono λb z=>z.imp (λHm=> by obtain⟨_,q⟩ := Hm;exact(nomatch q)) id)
  by_cases fI:i<ds.length
  ·right
   have hd:ds[i]?=some ds[i]:=Rf fI;obtain⟨go,yl⟩:=cH _ hd;obtain⟨c,hc⟩:=hint ds[i] (Tz fI);refine⟨go,λσ' H'=>∃β,Q.SB X C (H1,Q.Wn λ_=>[]) σ' H' β/\JL β,λσ' H' Hl=> by obtain⟨β',qD,uR⟩ := Hl;exact⟨_,by lia,fI,rfl,β',qD,uR⟩,λx H3 y=>?_⟩
   obtain⟨s3,r3⟩:=yl x H3 y;rw[hc]at r3;refine⟨a3,_,.int c,.own,s2.same s3,aw.flat rfl r3,λσ4 oj s4 w4 _=>?_⟩;exact⟨(H1,Q.Wn λ_=>[]),{nx:=JL,rt:=λd _=>d=.bl true,bk:=JL,ct:=JL},_,⟨oj,s4,Q.gq (n2.same s3) w4⟩,hψ c y0 y2 y3 y4 y5 y6 y7 y8 y9,⟨λσ5 H5 β5 t8 q5=>⟨β5,t8,q5⟩,λσ5 H5 β5 d5 v5 t8 r5 q5=>by
    subst q5;cases (show v5=V.bl true from F1 r5)
    exact k _,λσ5 H5 β5 t8 q5=>k _,λσ5 H5 β5 t8 q5=>⟨β5,t8,q5⟩⟩⟩
  ·left
   have e:i=ds.length:=by lia
   subst e;exact⟨mR (Q4 _),k _⟩
end
theorem g9 {α:Type}{P:List α->Prop}(h:∀a,P [a]):∀us:List α,us.length=1->P us:=λus e=>by
 obtain⟨a,rfl⟩:=List.length_eq_one_iff.mp e;exact h a
theorem xH {α:Type}{P:List α->Prop}(h:∀a b,P [a,b]):∀us:List α,us.length=2->P us:=λus e=>by
 cases us with
 |nil=>cases e
 |cons a us=>exact g9 (P:=λus=>P (a::us)) (h a) us (UR e)
theorem AS {α:Type}{P:List α->Prop}(h:∀a b c,P [a,b,c]):∀us:List α,us.length=3->P us:=λus e=>by
 cases us with
 |nil=>cases e
 |cons a us=>exact xH (P:=λus=>P (a::us)) (h a) us (UR e)
theorem KJ {α:Type}{P:List α->Prop}(h:∀a b c d,P [a,b,c,d]):∀us:List α,us.length=4->P us:=λus e=>by
 cases us with
 |nil=>cases e
 |cons a us=>exact AS (P:=λus=>P (a::us)) (h a) us (UR e)
theorem AR {α:Type}{P:List α->Prop}(h:∀a b c d e,P [a,b,c,d,e]):∀us:List α,us.length=5->P us:=λus e=>by
 cases us with
 |nil=>cases e
 |cons a us=>exact KJ (P:=λus=>P (a::us)) (h a) us (UR e)
theorem yo {K:PySem.W.Frag}{x m:Str}{st:Stmt}{t c f:Nat}(l:K.lookup f=some (kF st x m t c))(cd:PySem.W.codeIn K (.ref c) x=true)(k:PySem.W.keepIn K (.ref f)=true):zb K x x st f (Jf st x m t c):=EV l cd k
theorem b4 {K:PySem.W.Frag}{h:Heap}{mg:Str->Option QZ}{x m:Str}{st:Stmt}{t c f:Nat}{ps:List Str}(X:K.In h)(G:h.Ns S1 mg)(l:K.lookup f=some (kF st x m t c))(cd:PySem.W.codeIn K (.ref c) x=true)(k:PySem.W.keepIn K (.ref f)=true)
  (a:PySem.W.nsIn K S1 x=some (some (.ref f))) (b:∀us:List QZ,us.length=ps.length->bindArgs (Jf st x m t c) ⟨us,[]⟩=pure (ps.zip us)):Df K mg x st ps f (Jf st x m t c):=⟨yo l cd k,.all b,PySem.W.mg_of X G a⟩
abbrev cX (i:Nat):Addr:=[37,49,61,73,85,97,109,121,133,145,157,169].getD i 0
theorem all_mk {l:PySem.W.OpenLaw} (w:Rl) (mg:Str->Option QZ) (fa:Addr) (h:Heap) (X:(KK w.params).In h) (G:h.Ns S1 mg) (Pr:mg "law" = some (.ref fa))   :∃fd:RY,(∀(s:Q1) (v:QZ),BindsTo s fd ⟨[v],[]⟩ [("script",v)])/\∀base:Heap,(KK w.params).In base->base.Ns S1 mg->aM l.prog w (KK w.params) mg base bW 45 fa fd ["script"] (v_ (KK w.params)):=by
 have e:=Pr.symm.trans (PySem.W.mg_of X G (v:=.ref 297) (by kernel_rfl))
 cases e;have GJ:=PySem.W.mg_none_of X G (n:="max") (by kernel_rfl)
 have GG:=PySem.W.mg_none_of X G (n:="min") (by kernel_rfl)
 have GL:=PySem.W.mg_none_of X G (n:="int") (by kernel_rfl)
 have AM:=PySem.W.mg_none_of X G (n:="range") (by kernel_rfl)
 have xx:=PySem.W.mg_none_of X G (n:="sorted") (by kernel_rfl)
 have GF:=PySem.W.mg_none_of X G (n:="set") (by kernel_rfl)
 have GK:=PySem.W.mg_none_of X G (n:="len") (by kernel_rfl)
 have DW:=PySem.W.mg_none_of X G (n:="list") (by kernel_rfl)
 have mL:=PySem.W.mg_none_of X G (n:="isinstance") (by kernel_rfl)
 have AL:=PySem.W.mg_none_of X G (n:="tuple") (by kernel_rfl)
 have GD:=PySem.W.mg_none_of X G (n:="str") (by kernel_rfl)
 have DX:=PySem.W.mg_none_of X G (n:="bool") (by kernel_rfl)
 have GB:=PySem.W.mg_none_of X G (n:="zip") (by kernel_rfl)
 have ou:=PySem.W.mg_none_of X G (n:="enumerate") (by kernel_rfl)
 have GC:=PySem.W.mg_none_of X G (n:="sum") (by kernel_rfl)
 have mM:=PySem.W.mg_none_of X G (n:="ValueError") (by kernel_rfl)
 have B:=(⟨⟨⟨GJ,GG,GL,AM,xx,GF,GK,DW⟩,mL,AL,GD,DX,GB,ou⟩,GC⟩:vE mg);have ZA:XA (KK w.params) mg 24 cX:=FF (by kernel_rfl) (PySem.W.mg_of X G (v:=.ref 24) (by kernel_rfl)) λi x h=>by
  match i,h with
  |0,h=>cases h;exact PySem.W.mg_of X G (v:=.ref 37) (by kernel_rfl)
  |1,h=>cases h;exact PySem.W.mg_of X G (v:=.ref 49) (by kernel_rfl)
  |2,h=>cases h;exact PySem.W.mg_of X G (v:=.ref 61) (by kernel_rfl)
  |3,h=>cases h;exact PySem.W.mg_of X G (v:=.ref 73) (by kernel_rfl)
  |4,h=>cases h;exact PySem.W.mg_of X G (v:=.ref 85) (by kernel_rfl)
  |5,h=>cases h;exact PySem.W.mg_of X G (v:=.ref 97) (by kernel_rfl)
  |6,h=>cases h;exact PySem.W.mg_of X G (v:=.ref 109) (by kernel_rfl)
  |7,h=>cases h;exact PySem.W.mg_of X G (v:=.ref 121) (by kernel_rfl)
  |8,h=>cases h;exact PySem.W.mg_of X G (v:=.ref 133) (by kernel_rfl)
  |9,h=>cases h;exact PySem.W.mg_of X G (v:=.ref 145) (by kernel_rfl)
  |10,h=>cases h;exact PySem.W.mg_of X G (v:=.ref 157) (by kernel_rfl)
  |11,h=>cases h;exact PySem.W.mg_of X G (v:=.ref 169) (by kernel_rfl)
  |n+12,h=>cases h
 exact⟨_,λs v=>.of_eq rfl,λbase _ _=>DQ (yo (x:="law") (m:="law_archrow_k11_no_stretches") (st:=jv) (t:=493) (c:=296) (f:=297) (by kernel_rfl) (by kernel_rfl) (by kernel_rfl)) B mM ZA (b4 X G (x:="most_of") (m:="archrow.kept") (st:=dM) (t:=468) (c:=223) (f:=224) (ps:=["row","i","j"]) (by kernel_rfl) (by kernel_rfl) (by kernel_rfl) (by kernel_rfl) (AS λ_ _ _=>rfl))
  (b4 X G (x:="table_of") (m:="archrow.kept") (st:=dY) (t:=468) (c:=230) (f:=231) (ps:=["row"]) (by kernel_rfl) (by kernel_rfl) (by kernel_rfl) (by kernel_rfl) (g9 λ_=>rfl))
  (b4 X G (x:="greatest_table") (m:="archrow.stretches") (st:=bC) (t:=399) (c:=192) (f:=193) (ps:=["row","worth"]) (by kernel_rfl) (by kernel_rfl) (by kernel_rfl) (by kernel_rfl) (xH λ_ _=>rfl))
  (b4 X G (x:="partners_of") (m:="archrow.stretches") (st:=cn) (t:=399) (c:=180) (f:=181) (ps:=["row"]) (by kernel_rfl) (by kernel_rfl) (by kernel_rfl) (by kernel_rfl) (g9 λ_=>rfl))
  (b4 X G (x:="stretches_rising") (m:="archrow.stretches") (st:=bt) (t:=399) (c:=175) (f:=176) (ps:=["many"]) (by kernel_rfl) (by kernel_rfl) (by kernel_rfl) (by kernel_rfl) (g9 λ_=>rfl))
  (b4 X G (x:="least_number") (m:="archrow.stretches") (st:=bX) (t:=399) (c:=204) (f:=205) (ps:=["partners","worth","table","i","j"]) (by kernel_rfl) (by kernel_rfl) (by kernel_rfl) (by kernel_rfl) (AR λ_ _ _ _ _=>rfl))
  (b4 X G (x:="number_with") (m:="archrow.stretches") (st:=cq) (t:=399) (c:=199) (f:=200) (ps:=["worth","table","i","k","j"]) (by kernel_rfl) (by kernel_rfl) (by kernel_rfl) (by kernel_rfl) (AR λ_ _ _ _ _=>rfl))
  (b4 X G (x:="one_each") (m:="archrow.kept") (st:=dZ) (t:=468) (c:=235) (f:=236) (ps:=["row"]) (by kernel_rfl) (by kernel_rfl) (by kernel_rfl) (by kernel_rfl) (g9 λ_=>rfl))
  (b4 X G (x:="first_greatest") (m:="archrow.stretches") (st:=bD) (t:=399) (c:=216) (f:=217) (ps:=["row","worth","table","i","j"]) (by kernel_rfl) (by kernel_rfl) (by kernel_rfl) (by kernel_rfl) (AR λ_ _ _ _ _=>rfl))
  (b4 X G (x:="best_choices") (m:="archrow.stretches") (st:=bY) (t:=399) (c:=209) (f:=210) (ps:=["partners","worth","table","i","j"]) (by kernel_rfl) (by kernel_rfl) (by kernel_rfl) (by kernel_rfl) (AR λ_ _ _ _ _=>rfl))
  (b4 X G (x:="parts_left") (m:="archrow.stretches") (st:=cR) (t:=399) (c:=187) (f:=188) (ps:=["i","k","j"]) (by kernel_rfl) (by kernel_rfl) (by kernel_rfl) (by kernel_rfl) (AS λ_ _ _=>rfl))
  (b4 X G (x:="_law_hand") (m:="law_archrow_k11_no_stretches") (st:=c7) (t:=493) (c:=242) (f:=243) (ps:=["cell"]) (by kernel_rfl) (by kernel_rfl) (by kernel_rfl) (by kernel_rfl) (g9 λ_=>rfl))
  (b4 X G (x:="_law_take") (m:="law_archrow_k11_no_stretches") (st:=c6) (t:=493) (c:=249) (f:=250) (ps:=["hand","many"]) (by kernel_rfl) (by kernel_rfl) (by kernel_rfl) (by kernel_rfl) (xH λ_ _=>rfl))
  (b4 X G (x:="_law_arcs") (m:="law_archrow_k11_no_stretches") (st:=d7) (t:=493) (c:=256) (f:=257) (ps:=["hand","many"]) (by kernel_rfl) (by kernel_rfl) (by kernel_rfl) (by kernel_rfl) (xH λ_ _=>rfl))
  (b4 X G (x:="_law_ties") (m:="law_archrow_k11_no_stretches") (st:=d3) (t:=493) (c:=261) (f:=262) (ps:=["hand","many"]) (by kernel_rfl) (by kernel_rfl) (by kernel_rfl) (by kernel_rfl) (xH λ_ _=>rfl))
  (b4 X G (x:="_law_row") (m:="law_archrow_k11_no_stretches") (st:=fx) (t:=493) (c:=268) (f:=269) (ps:=["hand"]) (by kernel_rfl) (by kernel_rfl) (by kernel_rfl) (by kernel_rfl) (g9 λ_=>rfl))
  (b4 X G (x:="_law_copied") (m:="law_archrow_k11_no_stretches") (st:=cS) (t:=493) (c:=282) (f:=283) (ps:=["row"]) (by kernel_rfl) (by kernel_rfl) (by kernel_rfl) (by kernel_rfl) (g9 λ_=>rfl))
  (b4 X G (x:="_law_kind") (m:="law_archrow_k11_no_stretches") (st:=d6) (t:=493) (c:=275) (f:=276) (ps:=["caught"]) (by kernel_rfl) (by kernel_rfl) (by kernel_rfl) (by kernel_rfl) (g9 λ_=>rfl))
  (b4 X G (x:="_law_said") (m:="law_archrow_k11_no_stretches") (st:=d4) (t:=493) (c:=289) (f:=290) (ps:=["row","begin","end"]) (by kernel_rfl) (by kernel_rfl) (by kernel_rfl) (by kernel_rfl) (AS λ_ _ _=>rfl))⟩
end kJ
abbrev PySem.W.Fast.tw5588862887163987959:PySem.Program:=PySem.Challenge.pw_archrow_k11_no_stretches
theorem PySem.W.Fast.te5588862887163987959:PySem.Challenge.pw_archrow_k11_no_stretches=PySem.W.Fast.tw5588862887163987959:=rfl
open PySem PySem.W PyProof.Rows
set_option maxRecDepth 100000 in
set_option maxHeartbeats 0 in
theorem PySem.Challenge.cw_archrow_k11_no_stretches_holds : PySem.Challenge.rw_archrow_k11_no_stretches.Holds := by
 w_on;o_law
 refine holds_open (q:=kJ.view) (loose:=[]) (Xt:=λs=>xlAt kJ.view [] s&&recOk (RowW.records PySem.Challenge.rw_archrow_k11_no_stretches.row.toRowW) s) (XP:=XL kJ.view []) (Yf:=kJ.HK.obs) (Ya:=kJ.HK.val) (YP:=λw h=>(kJ.KK w.params).In h) (N:=6886) kJ.left kJ.HK.of kJ.HK.keeps (λs e=>xl_of s (Bool.and_eq_true_iff.mp e).1) XL.keeps (by rfl) (by rfl) (by rfl) (λs e=>recFacts_of (Bool.and_eq_true_iff.mp e).2) (by rfl) (by first|assumption|decide +kernel) (by decide +kernel) ⟨rfl,rfl,rfl,rfl,rfl,by decide +kernel⟩ ?hw ?hc
 (case hw=>w_witness2)
 case hc =>
  exact L2.zG (l:=PySem.Challenge.rw_archrow_k11_no_stretches) (K:=kJ.KK) (n:=63) (k:=45) (x:="script") (CX:=λ_=>L2.bW) (sp:=λw=>kJ.v_ (kJ.KK w.params)) rfl (by decide) rfl ⟨rfl,by decide,by decide⟩ (λw h Y=>Y) kJ.all_mk (λ_ _ a ns hl _ hS=>⟨a,ns,rfl,hS,hl,λ_=>rfl⟩) λ_ _ _ _ _ z=>z
#print axioms PySem.Challenge.cw_archrow_k11_no_stretches_holds
