import PyProof.Rows.All
import Wide.All
import OpenK.AllK
import Wide.FinOn
import OpenK.KLine
import Lean
import PyProof.EqAt
import PyProof.EqKinds
import PyProof.TupleCall
import PyProof.Rows.SortShell
import PyProof.Rows.SortWalk
import PyProof.CompFree
import PyProof.Rows.SortRuns
import PyProof.EqLayable
import PyProof.NeData
import PyProof.P3In
import PyProof.ZipIter
import PyProof.EnumMake
import PyProof.EnumFor
import PyProof.Rows.Range3
import PyProof.AttrMissSeq
import KE.KDictOf
import PyProof.Rows.SeqMore
import PyProof.ConsumeWalk
import KE.IntBitsLaws
import PyProof.ListNew
import PySem.Challenge.RW_archrow_k17_papers_of_weights_judged
set_option Elab.async false
set_option linter.all false
set_option maxRecDepth 100000
set_option maxHeartbeats 4000000
set_option compiler.extract_closed false
open PySem renaming wpAny_bind->P9,Value->P_,Shared->Qb,Program->Qd,wpAny_pure->Qn,sizeLine->Qp,World->Qq,starEach->Qt,wpAny->QE,foldedSetIterable->QX,FuncData->Q0,bootBuiltins->Rb,Around->Rj,mainGlobals->RE,binaryOp->RF,wpAny_callSpecial?_slot->RM,swapsWith->RN,wpAny_field->RT,sizeLine_eq->RU,wpAny_call_entry->RW,wpAny_newObj_type->R4,wpAny_holding->R8,sysModules->R9,assignEach->R_,Comprehension->Sa,Scope->Sd,wpAny_seqItems->Sf,NameKind->Sh,IsPair->Sk,wpAny_typeNameOfWhole_keyiter->Sm,wpAny_setField_rec->So,wpAny_rule->Sr,wpAny_standAt->SA,behindInMarks->SD,backTo->SF,compareOp->SU,wpAny_typeNameOf_keyiter->S0,wpAny_Call_Name_kw->S8,DictEntry->To,sliceBounds->Tq,wpAny_passesOwn->Tr,codeAny_mono->Tu,wpAny_mono->Tx,wpAny_comprehension_free->TL,wpAny_attempt->TM,tupleKind->TV,cellsFrom->TX,cLine->TY,IsZip->T1,standAt->T3,pyNext->T4,codeAny->T6,letOwnedTupleGo->T_,wpAny_updateSeq_pair->Ui,wpAny_setField->Uj,rawInt->Uk,firstArgMember->Ul,Keyword->Ur,wpAny_onRaise->Uv,swapsWithSole->Uw,swappedStores->Ux,attributeBase->Uy,pyIter->UA,Params->UB,wpAny_truthy_bool->UE,wpAny_dictEntries->UG,valueAt->UH,callerA->UI,Builtin->UO,wpAny_pyIter_zip->UP,treeTable->UQ,keywordEach->UU,IsRangeIter->UX,wpAny_loadPart'->UY,wpAny_execs_nil->UZ,wpAny_dictEpoch->U0,newFunctionEnv->U9,atKey->Vb
open List renaming length_map->Qa,mem_cons->Qc,getElem?_eq_some_iff->Qg,mem_singleton->Qj,getElem?_map->Ql,getElem?_eq_getElem->Qm,mem_append->Qr,length_append->Qu,replicate->Qw,length_cons->Qx,nodup_cons->QB,map_append->QD,length_take->QJ,mem_cons_of_mem->QM,getD_eq_getElem?_getD->QN,mem_map->QP,range->QQ,size_toArray->QR,map_cons->QS,not_mem_nil->QT,mem_append_right->QV,mem_of_getElem?->QW,map_map->QY,lookup_cons->QZ,nodup_nil->Q5,nodup_append->Q9,length_range->Q_,mem_cons_self->Ra,getElem?_eq_none->Rc,take_add_one->Rh,getElem?_append_right->Rn,find?_cons->Ro,replicate_succ->Rt,append_assoc->Ru,mem_filter->Rv,take_of_length_le->Rx,ext_getElem?->Ry,take_length->RC,mem_range->RK,mem_append_left->RL,map_congr_left->RS,length_drop->RX,pairwise_cons->RY,filter_append->RZ,getElem?_append_left->R1,getElem?_set->R5,getElem?_of_mem->R6,flatten_cons->R7,getElem?_range->Se,filter_cons->Si,all_eq_true->Sj,zip_cons_cons->Ss,foldl_cons->Sz,length_filter_le->SG,getElem?_zip_eq_some->SX,drop_eq_getElem_cons->SY,of_mem_zip->S6,append_nil->S7,set_eq_take_append_cons_drop->Tc,set_set->Tf,take_append_drop->Ti,getElem_mem->Tn,filterMap_cons->Ts,pairwise_map->TF,any_eq_false->TH,any_eq_true->TZ,drop_of_length_le->T7,length_zip->Ua,forIn_cons->Ub,length_singleton->Ud,length_replicate->Ue,mem_of_mem_take->Uo,length->Up,flatMap_append->Us,map_take->Uz,zip_nil_left->UM,getElem?_inj->UN,zipIdx_cons->UR,length_set->U3,forIn_nil->Vc,pairwise_iff_getElem->Vh,getElem?_eq_none_iff->Vi
open PyProof.Rows renaming Keyed->Qe,wpS_bind->Qh,wpS_pure->Qo,pendingOf->Qz,SortSt->QF,arrOf->QL,wpS_forRange->Rf,callWith_type1->Ri,setArr->Rl,wpS_mono->RD,wpS_modify->SK,SortKind->S3,seqObj->S9,failedOf->Td,setPending->Tj,wpS_get->TC,envOfC->T5,IntsAre->T8,AllBare->T9,wpS_lift->Uh,boot_range->U_
open Nat renaming le_refl->Qf,zero_le->Qv,lt_of_lt_of_le->QA,ne_of_lt->QO,le_trans->Q6,le_add_right->SW,lt_irrefl->S4,sub_self->Tw,le_succ->Um,lt_of_le_of_lt->UC,zero_add->UL,min_le_left->U1
open PySem.Heap renaming get?_push_of_some->Qi,lt_size->Qs,get?_push_size->QC,SameBut->Su,size_push->TB,get?_update_self->Ug
open Option renaming map_eq_some_iff->Qy,bind_eq_some_iff->Rk,bind_some->Sg,map_some->S5
open Decidable renaming by_contra->QG
open Array renaming length_toList->QH,getElem?_toList->QI,toList_append->Rz,toList_push->SI,getD_eq_getD_getElem?->SJ,perm_iff_toList_perm->SS,getElem?_eq_none->Th,toList_zip->UT,size_zip->Vf,mk->Vg
open PySem.NameKind renaming free->QK,cell->Q8
open Bool renaming and_eq_true->QU,false_ne_true->Sv,false_eq_true->Sw,not_eq_true'->TJ,not_eq_false'->UD,or_eq_true->U6,eq_iff_iff->U7
open PySem.PassesOwn renaming never->Q1
open Option.some renaming inj->Q3,injEq->UK
open PySem.Builtin.SmallTypes renaming nextOf->Q4,ownedTupleIsFree->RV,ownedTupleHandOut->Uu
open PySem.PyData renaming canLay0->Rm,eqv->Rw,depthAll->RA,canLayAll0->SH,depth->SV,eqvAll->TQ
open PySem.SeqAt renaming canLay_of_shaped->Rq
open Ne renaming symm->Rr
open Int renaming toNat_natCast->RQ,eq_ofNat_of_zero_le->Ta,toNat_of_nonneg->Ut
open PySem.Builtin.Range renaming rangeSize->Sl
open True renaming intro->SM
open PySem.Obj renaming mapSeq->SN,data_mapFields->Tz
open False renaming elim->SO
open PySem.W renaming boot_heap->S_,boot_drawn->Va
open Nat.succ renaming inj->Te
open PySem.Heap.SameBut renaming update->Tt
open PySem.Str renaming ofString->Tv
open PyProof renaming noPylong_of_log2->TN
open PySem.Code renaming compLoop->TR,compStart->Vd
open PySem.Builtin.List renaming listTooLong->TU
open ForInStep renaming yield->Uc
open Sum renaming inl->Uq,inr->UJ
open PySem.Data renaming cell->US
open Prod.mk renaming inj->UW
open List.Perm renaming of_eq->U4
open PySem.Builtin.Dict_items renaming ownsTuple->U5
open Array.Perm renaming refl->U8
open PySem.Calls renaming Name_function_global->Ve
noncomputable section
namespace L2
open PySem PySem.Spec PyProof.Rows
def ja (s:Stmt):Arguments:=match s with
 |.FunctionDef _ a _ _ _ _ _ _ _ _=>a
 |_=>{posonlyargs:=[],args:=[],vararg:=none,kwonlyargs:=[],kw_defaults:=[],kwarg:=none,defaults:=[]}
def dI (s:Stmt):List Stmt:=match s with
 |.FunctionDef _ _ b _ _ _ _ _ _ _=>b
 |_=>[]
def aC (s:Stmt):Sd:=match s with
 |.FunctionDef _ _ _ _ _ _ sc _ _ _=>sc
 |_=>{kind:=.function,names:=[],isGenerator:=false,isCoroutine:=false}
end L2
namespace L2.Hd
open PySem PySem.W PySem.Spec PyProof.Rows
noncomputable def gf (tb:String->Option UO)(p:Qd)(w:Qq)(n₀:Nat)(ann:Option P_):Nat->SharedT->Thread->Option SharedT
 |0,_,_=>none
 |n+1,s,t=>match through t with
  |true=>some s
  |false=>match stepOk n₀ ann t with
   |false=>none
   |true=>match stepT (denote tb) p w s t with
    |some (s',t')=>gf tb p w n₀ ann n s' t'
    |none=>none
theorem jj {tb:String->Option UO}{p:Qd}{w:Qq}{n₀:Nat}{ann:Option P_}:∀{n:Nat} {s s':SharedT} {t:Thread},gf tb p w n₀ ann n s t=some s'->topRun tb p w n₀ ann n s.abs t=some s'.abs
 |0,_,_,_,g=>by cases g
 |n+1,s,s',t,g=>by
  unfold gf at g;unfold topRun;cases ht:through t with
  |true=>rw[ht]at g;cases g;rfl
  |false =>
   rw[ht]at g;cases hk:stepOk n₀ ann t with
   |false=>rw[hk]at g;cases g
   |true =>
    rw[hk]at g;cases hq:stepT (denote tb) p w s t with
    |none=>rw[hq]at g;cases g
    |some r=>obtain⟨s₂,t₂⟩:=r;rw[hq]at g;dsimp only;rw[stepT_spec hq];exact jj g
noncomputable def Hr (P:UB):BT:=((S_ P).objs.toList.foldl (λ(x:BT×Nat) o=>(x.1.ins x.2 o,x.2+1)) (.nil,0)).1
noncomputable def xx (w:Qq)(os:OsState):SharedT:=⟨Hr w.params,11,(S_ w.params).life,Vg [],Va,boot_toks,os⟩
theorem boot_abs (w:Qq)(os:OsState):(xx w os).abs=⟨S_ w.params,Vg [],Va,boot_toks,os⟩:=by kernel_rfl
theorem z3 (P:UB):((S_ P).isNs RE&&((Vg []:Array GenState).size==0))=true:=by kernel_rfl
theorem uy (P:UB):(S_ P).objs.size=11:=by kernel_rfl
theorem xv (P:UB):(S_ P).nsMap RE "__annotations__" = some (.ref 6):=by kernel_rfl
def ends (p:Qd)(h0:Heap)(s₁:Qb):Option Qb:=match staticsOk (importedModules p.main.body) h0 s₁.heap&&namesBound p s₁.heap&&gensDone s₁&&laidKept h0 s₁.heap with
 |true=>some s₁
 |false=>none
theorem tP {p q:Qd}{loose:List Str}{Xt:Qb->Bool}{α:Type}{Yf:Qb->α}{Ya:Qq->α}{N:Nat}{g0:Bool}
  (g1:opening p=plainProg p.main.scope.names) (g2:Nat.ble 600 N=true) (g3:∀s,fenceModules? p s=some s)
  (g4:∀(w:Qq) (os:OsState),((gf UQ p w 11 (some (.ref 6)) N (xx w os) (topStub p)).bind λs₁=>ends p (S_ w.params) s₁.abs).map (λs=>(openSeen q loose (importedModules p.main.body) Xt g0 s,Yf s))=some (openGood q loose,Ya w)) :
  LeftO p q loose Xt Yf Ya N g0:=λw=>by
 obtain⟨⟨hp,gs,dr,tk,os⟩,e,v⟩:=Qy.mp (boot_open (N:=N) g1 g2 g3 w);obtain⟨v1,v⟩:=UW v;obtain⟨v2,v⟩:=UW v;obtain⟨v3,v4⟩:=UW v;dsimp only at v1 v2 v3 v4;subst v1 v2 v3 v4;have g:=g4 w os;unfold openEnds;rw[e];show (topFrom UQ p w N _).map _=_;have t:topFrom UQ p w N ⟨S_ w.params,Vg [],Va,boot_toks,os⟩=(topRun UQ p w 11 (some (.ref 6)) N ⟨S_ w.params,Vg [],Va,boot_toks,os⟩ (topStub p)).bind (ends p (S_ w.params)):=by
  unfold topFrom;rw[z3];dsimp only;rw[uy,xv];rfl
 rw[t];cases hT:gf UQ p w 11 (some (.ref 6)) N (xx w os) (topStub p)with
 |none=>rw[hT]at g;cases g
 |some s₁ =>
  have r:=jj hT;rw[boot_abs]at r;rw[hT]at g;rw[r];exact g
end L2.Hd
namespace jb
open PySem L2
def top (i:Nat):Stmt:=PySem.Challenge.pw_archrow_k17_papers_of_weights_judged.main.body.getD i (.Pass ⟨0,0,0,0⟩)
abbrev bF:Stmt:=top 4
abbrev cP:Stmt:=top 5
abbrev dE:Stmt:=top 6
abbrev cQ:Stmt:=top 7
abbrev cR:Stmt:=top 8
abbrev cI:Stmt:=top 9
abbrev cH:Stmt:=top 11
abbrev cq:Stmt:=top 12
abbrev cn:Stmt:=top 13
abbrev cT:Stmt:=top 15
abbrev dk:Stmt:=top 16
abbrev dj:Stmt:=top 17
abbrev fv:Stmt:=top 18
abbrev dc:Stmt:=top 19
abbrev cS:Stmt:=top 20
abbrev dD:Stmt:=top 21
abbrev eE:Stmt:=top 22
abbrev fw:Stmt:=top 23
abbrev dC:Stmt:=top 24
abbrev jr:Stmt:=top 25
noncomputable abbrev vS (x:Str)(t:Nat):P_:=.str x t
noncomputable abbrev kE (P:UB)(x:Str)(t:Nat)(v:P_):To:=⟨PyData.keyHash P x,.str x t,v⟩
noncomputable abbrev kC (n:Str)(t l p r8 NP Nk:Nat)(MZ MY MX:P_)(Nj NO M6:Nat):Obj:={cls:=.type "code",data:=.fields #[vS n t,vS n (t+1),vS "/claim/cut.py" (t+2),.int l 0,.int p 0,.int 0 0,.int 0 0,.int 3 0,.ref r8,.bool true,.int NP 0,.ref Nk,MZ,MY,MX,.ref Nj,.int NO 0,.int l 0,vS "/claim/cut.py" M6]}
noncomputable abbrev H_ (st:Stmt)(x m:Str)(t c:Nat):Q0:=PySem.W.fnOf x x (ja st) (dI st) (aC st) .none .none .none (vS m t) none (.ref c) .none
noncomputable abbrev kF (st:Stmt)(x m:Str)(t c:Nat):Obj:={cls:=.type "function",data:=.func (H_ st x m t c)}
noncomputable def KK:UB->PySem.W.Frag:=λP=>[(3,{cls:=.type "dict",data:=.dict #[kE P "__name__" 165 (vS "law_archrow_k17_papers_of_weights_judged" 291),kE P "__doc__" 166 .none,kE P "__package__" 167 .none,kE P "__loader__" 168 (.builtin "__main__.__loader__#opaque"),kE P "__spec__" 169 .none,kE P "__annotations__" 170 (.ref 6),kE P "__builtins__" 171 (.ref 4),kE P "__file__" 173 (vS "/claim/cut.py" 172),kE P "__cached__" 174 .none,kE P "ArchError" 206 (.ref 24),kE P "NoWeights" 222 (.ref 37),kE P "stretches_rising" 230 (.ref 44),kE P "partners_of" 236 (.ref 49),kE P "has_shape" 242 (.ref 54),kE P "paper_holds" 248 (.ref 59),kE P "number_with" 259 (.ref 66),kE P "least_number" 265 (.ref 71),kE P "weights_show" 276 (.ref 78),kE P "check_weights" 284 (.ref 85),kE P "weight_by_tie" 290 (.ref 90),kE P "_law_cell_at" 300 (.ref 97),kE P "_law_deck" 307 (.ref 104),kE P "_law_take" 317 (.ref 111),kE P "_law_row" 333 (.ref 118),kE P "_law_copied" 340 (.ref 125),kE P "_law_weights" 354 (.ref 132),kE P "_law_least" 360 (.ref 137),kE P "_law_bent" 366 (.ref 142),kE P "_law_due" 372 (.ref 147),kE P "_law_right" 378 (.ref 152),kE P "law" 384 (.ref 157)] 31}),
 (43,kC "stretches_rising" 225 7 1 40 181 41 .none .none .none 42 228 229),
 (44,kF bF "stretches_rising" "archrow.stretches" 223 43),
 (48,kC "partners_of" 231 9 1 45 181 46 .none .none .none 47 234 235),
 (49,kF cP "partners_of" "archrow.stretches" 223 48),
 (53,kC "has_shape" 237 15 2 50 181 51 .none .none .none 52 240 241),
 (54,kF dE "has_shape" "archrow.stretches" 223 53),
 (58,kC "paper_holds" 243 17 3 55 181 56 .none .none .none 57 246 247),
 (59,kF cQ "paper_holds" "archrow.stretches" 223 58),
 (65,kC "number_with" 249 25 5 60 181 61 .none (.ref 62) (.ref 63) 64 257 258),
 (66,kF cR "number_with" "archrow.stretches" 223 65),
 (70,kC "least_number" 260 27 5 67 181 68 .none .none .none 69 263 264),
 (71,kF cI "least_number" "archrow.stretches" 223 70),
 (77,kC "weights_show" 268 31 3 72 181 73 .none (.ref 74) (.ref 75) 76 274 275),
 (78,kF cH "weights_show" "archrow.weights" 266 77),
 (84,kC "check_weights" 277 34 2 79 181 80 .none (.ref 81) (.ref 82) 83 282 283),
 (85,kF cq "check_weights" "archrow.weights" 266 84),
 (89,kC "weight_by_tie" 285 37 2 86 181 87 .none .none .none 88 288 289),
 (90,kF cn "weight_by_tie" "archrow.weights" 266 89),
 (96,kC "_law_cell_at" 293 40 2 91 181 92 .none (.ref 93) (.ref 94) 95 298 299),
 (97,kF cT "_law_cell_at" "law_archrow_k17_papers_of_weights_judged" 291 96),
 (103,kC "_law_deck" 301 44 1 98 181 99 .none (.ref 100) (.ref 101) 102 305 306),
 (104,kF dk "_law_deck" "law_archrow_k17_papers_of_weights_judged" 291 103),
 (110,kC "_law_take" 308 46 2 105 181 106 .none (.ref 107) (.ref 108) 109 315 316),
 (111,kF dj "_law_take" "law_archrow_k17_papers_of_weights_judged" 291 110),
 (117,kC "_law_row" 318 55 2 112 181 113 .none (.ref 114) (.ref 115) 116 331 332),
 (118,kF fv "_law_row" "law_archrow_k17_papers_of_weights_judged" 291 117),
 (124,kC "_law_copied" 334 74 1 119 181 120 .none (.ref 121) (.ref 122) 123 338 339),
 (125,kF dc "_law_copied" "law_archrow_k17_papers_of_weights_judged" 291 124),
 (131,kC "_law_weights" 341 76 2 126 181 127 .none (.ref 128) (.ref 129) 130 352 353),
 (132,kF cS "_law_weights" "law_archrow_k17_papers_of_weights_judged" 291 131),
 (136,kC "_law_least" 355 91 2 133 181 134 .none .none .none 135 358 359),
 (137,kF dD "_law_least" "law_archrow_k17_papers_of_weights_judged" 291 136),
 (141,kC "_law_bent" 361 104 2 138 181 139 .none .none .none 140 364 365),
 (142,kF eE "_law_bent" "law_archrow_k17_papers_of_weights_judged" 291 141),
 (146,kC "_law_due" 367 129 3 143 181 144 .none .none .none 145 370 371),
 (147,kF fw "_law_due" "law_archrow_k17_papers_of_weights_judged" 291 146),
 (151,kC "_law_right" 373 146 3 148 181 149 .none .none .none 150 376 377),
 (152,kF dC "_law_right" "law_archrow_k17_papers_of_weights_judged" 291 151),
 (156,kC "law" 379 154 1 153 181 154 .none .none .none 155 382 383),
 (157,kF jr "law" "law_archrow_k17_papers_of_weights_judged" 291 156)]
noncomputable abbrev HK:PySem.W.Hook:=PySem.W.kHook KK [3,43,44,48,49,53,54,58,59,65,66,70,71,77,78,84,85,89,90,96,97,103,104,110,111,117,118,124,125,131,132,136,137,141,142,146,147,151,152,156,157] (λ_=>by kernel_rfl)
noncomputable def view:Qd:={PySem.Challenge.pw_archrow_k17_papers_of_weights_judged with main:={PySem.Challenge.pw_archrow_k17_papers_of_weights_judged.main with body:=[top 1,top 2,top 4,top 5,top 6,top 7,top 8,top 9,top 11,top 12,top 13,top 15,top 16,top 17,top 18,top 19,top 20,top 21,top 22,top 23,top 24,top 25]}}
theorem left:PySem.W.LeftO PySem.Challenge.pw_archrow_k17_papers_of_weights_judged view [] (λs=>PySem.W.xlAt view [] s&&PySem.W.recOk (PySem.W.RowW.records PySem.Challenge.rw_archrow_k17_papers_of_weights_judged.row.toRowW) s) HK.obs HK.val 2144:=L2.Hd.tP (by kernel_rfl) (by kernel_rfl) (λ_=>rfl) (λw os=>by kernel_rfl)
end jb
namespace L2
open PySem PySem.Spec PyProof.Rows
abbrev Key:=Sum Int Str
def ly:Key->P_->Bool
 |.inl k,v=>Value.isInt k v
 |.inr x,v=>Value.isStrOf x v
def JI (w:Qq):Key->Int
 |.inl k=>hashInt k
 |.inr x=>hashStr w x
theorem bq:∀{k:Key} {v:P_},ly k v=true->(∃i t,k=Uq i/\v=Value.int i t)\/(∃x t,k=UJ x/\v=Value.str x t)
 |.inl i,v,h=>by
  obtain⟨t,e⟩:=Value.isInt_shape (k:=i) (v:=v) h;exact .inl ⟨i,t,rfl,e⟩
 |.inr x,v,h=>by
  obtain⟨t,e⟩:=Value.isStrOf_shape (x:=x) (v:=v) h;exact .inr ⟨x,t,rfl,e⟩
theorem tU (i:Int)(t:Tok):ly (.inl i) (.int i t)=true:=by simp[ly,Value.isInt]
theorem tT (x:Str)(t:Tok):ly (.inr x) (.str x t)=true:=by simp[ly,Value.isStrOf]
theorem CC (a b:Int):decide ((Uq a:Key)=Uq b)=(a==b):=by
 by_cases e:a=b
 ·subst e;simp
 ·have h:¬ (Uq a:Key)=Uq b:=λq=>e (Sum.inl.inj q);rw[decide_eq_false h];exact(beq_eq_false_iff_ne.mpr e).symm
theorem Cz (a b:Str):decide ((UJ a:Key)=UJ b)=decide (a=b):=by
 by_cases e:a=b
 ·subst e;simp
 ·have h:¬ (UJ a:Key)=UJ b:=λq=>e (Sum.inr.inj q);rw[decide_eq_false h,decide_eq_false e]
theorem CB (a:Int)(b:Str):decide ((Uq a:Key)=UJ b)=false:=decide_eq_false (λq=>nomatch q)
theorem CA (a:Str)(b:Int):decide ((UJ a:Key)=Uq b)=false:=decide_eq_false (λq=>nomatch q)
def bN (prog:Qd)(w:Qq):PySem.KeyKind prog w Key where
 is:=ly
 hash:=JI w
 inj:=λv a b ha hb=>by
  rcases bq ha with⟨i,t,rfl,rfl⟩|⟨x,t,rfl,rfl⟩
  ·rcases bq hb with⟨j,u,rfl,e⟩|⟨y,u,rfl,e⟩
   ·injection e with e1 _;rw[e1]
   ·exact nomatch e
  ·rcases bq hb with⟨j,u,rfl,e⟩|⟨y,u,rfl,e⟩
   ·exact nomatch e
   ·injection e with e1 _;rw[e1]
 byValue:=λk v h=>by
  rcases bq h with⟨i,t,rfl,rfl⟩|⟨x,t,rfl,rfl⟩ <;> rfl
 pyHash:=λhv h=>by
  rcases bq hv with⟨i,t,rfl,rfl⟩|⟨x,t,rfl,rfl⟩
  ·exact wpAny_pyHash_int h
  ·exact wpAny_pyHash_str h
 eqBool:=λhu hv h=>by
  rcases bq hu with⟨i,t,rfl,rfl⟩|⟨x,t,rfl,rfl⟩
  ·rcases bq hv with⟨j,u,rfl,rfl⟩|⟨y,u,rfl,rfl⟩
   ·rw[CC]at h;exact wpAny_eqBool_int h
   ·rw[CB]at h;exact SeqAt.EqAt.int_str i t y u _ _ _ _ h
  ·rcases bq hv with⟨j,u,rfl,rfl⟩|⟨y,u,rfl,rfl⟩
   ·rw[CA]at h;exact SeqAt.EqAt.str_int x t j u _ _ _ _ h
   ·rw[Cz]at h;exact wpAny_eqBool_str h
 «strs»:=λk x t v h=>by
  rcases bq h with⟨i,u,rfl,e⟩|⟨y,u,rfl,e⟩
  ·exact nomatch e
  ·injection e with e1 _
   subst e1;cases v <;> rfl
theorem n_ (prog:Qd)(w:Qq)(i:Int)(t:Tok):(bN prog w).is (.inl i) (.int i t)=true:=tU i t
theorem n9 (prog:Qd)(w:Qq)(x:Str)(t:Tok):(bN prog w).is (.inr x) (.str x t)=true:=tT x t
inductive V where
 |d7|bl (b:Bool)|int (i:Int)|str (x:Str)|Lg (b:Array UInt8)|Es (b:UInt64)|ref (a:Addr)|ty (n:String)
 deriving DecidableEq
def RelV:V->P_->Prop
 |.d7,u=>u=Value.none
 |.bl b,u=>u=Value.bool b
 |.int i,u=>∃t,u=Value.int i t
 |.str x,u=>∃t,u=Value.str x t
 |.Lg b,u=>∃t,u=Value.bytes b t
 |.Es b,u=>∃t,u=Value.float b t
 |.ref a,u=>u=Value.ref a
 |.ty n,u=>u=Value.type n
abbrev Vals:List V->List P_->Prop:=Paired RelV
theorem Vals.length {xs:List V}{us:List P_}(r:Vals xs us):xs.length=us.length:=Paired.length r
theorem Vals.get:∀{xs:List V} {us:List P_} {i:Nat} {x:V},Vals xs us->xs[i]?=some x->∃u,us[i]?=some u/\RelV x u
 |_,_,_,_,.nil,e=>by simp at e
 |_,_,0,_,.cons r _,e=>by simp at e;subst e;exact⟨_,rfl,r⟩
 |_,_,i+1,x,.cons _ t,e=>by
  obtain⟨u,h1,h2⟩:=Vals.get (i:=i) (x:=x) t (by simpa using e)
  exact⟨u,by simpa using h1,h2⟩
theorem Vals.set {x:V}{u:P_}(r:RelV x u):∀{xs:List V} {us:List P_} (i:Nat),Vals xs us->Vals (xs.set i x) (us.set i u)
 |_,_,_,.nil=>.nil
 |_,_,0,.cons _ t=>.cons r t
 |_,_,i+1,.cons q t=>.cons q (Vals.set r i t)
theorem Vals.append:∀{xs ys:List V} {us ws:List P_},Vals xs us->Vals ys ws->Vals (xs++ys) (us++ws)
 |_,_,_,_,.nil,s=>s
 |_,_,_,_,.cons r t,s=>.cons r (Vals.append t s)
theorem Vals.take:∀{xs:List V} {us:List P_} (n:Nat),Vals xs us->Vals (xs.take n) (us.take n)
 |_,_,0,_=>.nil
 |_,_,_+1,.nil=>.nil
 |_,_,n+1,.cons r t=>.cons r (Vals.take n t)
theorem Vals.drop:∀{xs:List V} {us:List P_} (n:Nat),Vals xs us->Vals (xs.drop n) (us.drop n)
 |_,_,0,r=>r
 |_,_,_+1,.nil=>.nil
 |_,_,n+1,.cons _ t=>Vals.drop n t
theorem Vals.none_of:∀{xs:List V} {us:List P_} {i:Nat},Vals xs us->xs[i]?=none->us[i]?=none:=λ{xs us i} r e=>by
 have h1:=r.length;have h2:xs.length<=i:=Vi.mp e;exact Vi.mpr (by lia)
def j8:Option V->Option P_->Prop
 |some v,some u=>RelV v u
 |none,none=>True
 |_,_=>False
def KV {κ:Type}:List (κ×V)->List (κ×P_)->Prop:=Paired λ(p:κ×V) (q:κ×P_)=>p.1=q.1/\RelV p.2 q.2
def kV:Key->V
 |.inl i=>.int i
 |.inr x=>.str x
inductive HO where
 |lst (xs:List V)
 |tup (xs:List V)
 |dK (kvs:List (Key×V))|dT (kvs:List (List Key×V))
 |set (S:Int->Bool) (n:Nat)
 |ins (C dx:Addr) (fs:List (Str×V))
 |own (x:Addr)
 |xd (fs:List (Str×V))
 |met (f x:Addr)
 |Jb (lo hi:Int)
 |rL (o:Obj) (u:HO)
 |Bn (ps:Array P_)
 |ext (φ:Heap->Prop)
abbrev Hp:=Addr->Option HO
def upd (H:Hp)(a:Addr)(o:HO):Hp:=λb=>if b=a then some o else H b
theorem au {H:Hp}{a:Addr}{o:HO}:upd H a o a=some o:=by unfold upd;rw[if_pos rfl]
theorem aw {H:Hp}{a b:Addr}{o:HO}(h:b≠a):upd H a o b=H b:=by unfold upd;rw[if_neg h]
theorem v7 {H:Hp}{a b:Addr}{o u:HO}(h:H a=some o)(h':H b=some u)(d:o≠u):a≠b:=by
 intro e;subst e;rw[h]at h';exact d (Q3 h')
theorem cz {H:Hp}{a b:Addr}{o:HO}(h:H a=some o)(h':H b=none):a≠b:=by
 intro e;subst e;rw[h]at h';cases h'
section
variable (P:Qd)(w:Qq)
def bA (H:Hp)(h:Heap)(a:Addr):HO->Prop
 |.lst xs=>xs.length<=Qp/\∃(its:List P_) (n:Nat),Vals xs its/\h.get? a=some {cls:=.type "list",data:=.seq its.toArray n}
 |.tup xs=>xs.length<=Qp/\∃its:List P_,Vals xs its/\IsTup h a its.toArray
 |.dK kvs=>kvs.length<=Qp/\(a==R9)=false/\∃vs,KV kvs vs/\h.DictOf (bN P w) a vs
 |.dT kvs=>kvs.length<=Qp/\(a==R9)=false/\∃xs:List (List Key×Addr×P_),
   Paired (λ(p:List Key×V) (q:List Key×Addr×P_)=>p.1=q.1/\H q.2.1=some (.tup (p.1.map kV))/\RelV p.2 q.2.2) kvs xs /\
   ∃o es ep,h.get? a=some o/\o.ExactDict/\o.data=.dict es ep/\es.toList=xs.map (entryOfKey (TV (bN P w)))/\(xs.map (·.1)).Nodup
 |.set S n=>h.SetOf (intKind P w) a S n
 |.ins C dx fs=>H dx=some (.own a)/\fs.length<=1000/\dx≠a/\h.get? a=some (PySem.W.instObj C dx) /\
   ∃mA,h.Ns1 dx mA/\(∀f,j8 (fs.lookup f) (mA f))/\PySem.Within mA (fs.map (·.1))
 |.own _=>∃o,h.get? a=some o
 |.xd fs=>∃mA,h.Ns1 a mA/\∀f,j8 (fs.lookup f) (mA f)
 |.Jb lo hi=>∃t u v,h.get? a=some {cls:=.type "range",data:=.fields #[.int lo t,.int hi u,.int 1 v]}
 |.rL o u=>h.get? a=some o/\bA H h a u
 |.Bn ps=>h.get? a=some {cls:=.none,data:=.fields ps}
 |.met f x=>h.get? a=some (PySem.W.methodObj (.ref f) (.ref x))
 |.ext φ=>φ h/\(∃o,h.get? a=some o)/\∀h1 h2:Heap,φ h1->(∀o,h1.get? a=some o->h2.get? a=some o)->φ h2
def fY (H:Hp)(h:Heap):Prop:=∀a o,H a=some o->bA P w H h a o
end
section
variable {P:Qd}{w:Qq}{H H':Hp}{h h':Heap}{a:Addr}{o:HO}
theorem bA.lt (x:bA P w H h a o):a<h.objs.size:=by
 cases o with
 |lst xs=>obtain⟨_,_,_,_,e⟩:=x;exact Qs e
 |tup xs=>obtain⟨_,_,_,p⟩:=x;exact p.lt
 |dK kvs=>obtain⟨_,_,_,_,o,_,_,e,_⟩:=x;exact Qs e
 |dT kvs=>obtain⟨_,_,_,_,o,_,_,e,_⟩:=x;exact Qs e
 |set S n=>obtain⟨o,_,_,_,e,_⟩:=x;exact Qs e
 |ins C dx fs=>obtain⟨_,_,_,e,_⟩:=x;exact Qs e
 |own y=>obtain⟨_,e⟩:=x;exact Qs e
 |xd fs=>obtain⟨_,⟨_,_,_,e,_⟩,_⟩:=x;exact Qs e
 |Jb lo hi=>obtain⟨_,_,_,e⟩:=x;exact Qs e
 |rL ob u=>obtain⟨e,_⟩:=x;exact Qs e
 |Bn ps=>exact Qs (show h.get? a=some _ from x)
 |met f y=>exact Qs (show h.get? a=some _ from x)
 |ext φ=>obtain⟨_,⟨_,e⟩,_⟩:=x;exact Qs e
theorem Paired.Ci {α β:Type}{F G:α->β->Prop}:∀{l₁:List α} {l₂:List β},Paired F l₁ l₂->(∀a b,F a b->G a b)->Paired G l₁ l₂
 |_,_,.nil,_=>.nil
 |_,_,.cons r t,f=>.cons (f _ _ r) (Paired.Ci t f)
theorem bA.l3 (x:bA P w H h a o)(k:∀b u,(b=a\/H b=some (.own a))->h.get? b=some u->h'.get? b=some u)
  (ho:∀b,H b=some (.own a)->H' b=some (.own a)) (ht:∀b xs,H b=some (.tup xs)->H' b=some (.tup xs)):bA P w H' h' a o:=by
 induction o with
 |lst xs=>obtain⟨z,its,n,r,e⟩:=x;exact⟨z,its,n,r,k _ _ (.inl rfl) e⟩
 |tup xs=>obtain⟨z,its,r,ob,e,c⟩:=x;exact⟨z,its,r,ob,k _ _ (.inl rfl) e,c⟩
 |dK kvs=>obtain⟨z,y,vs,r,ob,es,ep,e,c⟩:=x;exact⟨z,y,vs,r,ob,es,ep,k _ _ (.inl rfl) e,c⟩
 |dT kvs =>
  obtain⟨z,y,xs,r,ob,es,ep,e,c⟩:=x;exact⟨z,y,xs,Paired.Ci r λp q z=>⟨z.1,ht _ _ z.2.1,z.2.2⟩,ob,es,ep,k _ _ (.inl rfl) e,c⟩
 |set S n=>obtain⟨ob,es,ep,t,e,c⟩:=x;exact⟨ob,es,ep,t,k _ _ (.inl rfl) e,c⟩
 |ins C dx fs =>
  obtain⟨d,z,ne,e,mA,⟨od,es,ep,e2,c⟩,r⟩:=x;exact⟨ho _ d,z,ne,k _ _ (.inl rfl) e,mA,⟨od,es,ep,k _ _ (.inr d) e2,c⟩,r⟩
 |own y=>obtain⟨ob,e⟩:=x;exact⟨ob,k _ _ (.inl rfl) e⟩
 |xd fs=>obtain⟨mA,⟨od,es,ep,e,c⟩,r⟩:=x;exact⟨mA,⟨od,es,ep,k _ _ (.inl rfl) e,c⟩,r⟩
 |Jb lo hi=>obtain⟨t,u,v,e⟩:=x;exact⟨t,u,v,k _ _ (.inl rfl) e⟩
 |rL ob u ih=>obtain⟨e,q⟩:=x;exact⟨k _ _ (.inl rfl) e,ih q⟩
 |Bn ps =>
  have e:h.get? a=some {cls:=.none,data:=.fields ps}:=x;show h'.get? a=some {cls:=.none,data:=.fields ps};exact k a _ (.inl rfl) e
 |met f y =>
  have e:h.get? a=some (PySem.W.methodObj (.ref f) (.ref y)):=x;show h'.get? a=some (PySem.W.methodObj (.ref f) (.ref y));exact k a _ (.inl rfl) e
 |ext φ=>obtain⟨p,⟨o,e⟩,st⟩:=x;exact⟨st _ _ p λo q=>k _ _ (.inl rfl) q,⟨o,k _ _ (.inl rfl) e⟩,st⟩
theorem fY.lt (x:fY P w H h)(e:H a=some o):a<h.objs.size:=(x a o e).lt
theorem fY.fresh (x:fY P w H h)(e:h.objs.size<=a):H a=none:=by
 cases q:H a with
 |none=>rfl
 |some u=>exact absurd (QA (x.lt q) e) (S4 _)
theorem fY.kept (x:fY P w H h)(k:∀b u,h.get? b=some u->h'.get? b=some u):fY P w H h':=λa o e =>
 (x a o e).l3 (λb u _ q=>k b u q) (λ_ q=>q) λ_ _ q=>q
theorem fY.laid (x:fY P w H h)(k:∀b u,h.get? b=some u->h'.get? b=some u)(hp:h.objs.size<=a)(new:bA P w (upd H a o) h' a o):fY P w (upd H a o) h':=λb u e=>by
 have hn:=x.fresh hp
 by_cases hb:b=a
 ·subst hb;rw[au]at e;cases e;exact new
 ·rw[aw hb]at e;exact(x b u e).l3 (λc v _ q=>k c v q) (λc q=>by rw[aw (cz q hn)];exact q) λc xs q=>by rw[aw (cz q hn)];exact q
end
def Rd (H:Hp)(a:Addr)(u:HO):Prop:=H a=some u\/∃o,H a=some (.rL o u)
theorem Rd.ok {P:Qd}{w:Qq}{H:Hp}{h:Heap}{a:Addr}{u:HO}(r:Rd H a u)(x:fY P w H h):bA P w H h a u:=by
 rcases r with r|⟨o,r⟩
 ·exact x a u r
 ·obtain⟨_,q⟩:=x a _ r;exact q
def HD:Option HO->Prop
 |some (.lst _)=>True
 |some (.dK _)=>True
 |some (.dT _)=>True
 |some (.set _ _)=>True
 |some (.ins _ _ _)=>True
 |some (.ext _)=>True
 |_=>False
section
variable {P:Qd}{w:Qq}{H:Hp}{h h':Heap}{x e:Addr}{o':HO}
theorem fY.write (ok:fY P w H h)(mu:HD (H x))(he:e=x\/H e=some (.own x))(k:∀b u,b≠e->h.get? b=some u->h'.get? b=some u)(Eo:∃u,h'.get? e=some u)
  (new:bA P w (upd H x o') h' x o'):fY P w (upd H x o') h':=λb u q=>by
 have Fs:∀c y,H c=some (.own y)->c≠x:=λc y r z=>by subst z;rw[r]at mu;exact mu
 have Jt:∀c xs,H c=some (.tup xs)->c≠x:=λc xs r z=>by subst z;rw[r]at mu;exact mu
 by_cases hb:b=x
 ·subst hb;rw[au]at q;cases q;exact new
 ·rw[aw hb]at q
  by_cases Dn:b=e
  ·have q':H b=some (.own x):=by
    rcases he with z|z
    ·exact absurd (Dn.trans z) hb
    ·rw[Dn];exact z
   rw[q]at q';cases q';obtain⟨v,hv⟩:=Eo;exact⟨v,by rw[Dn];exact hv⟩
  ·refine(ok b u q).l3 (λc v hc r=>k c v ?_ r) (λc r=>by rw[aw (Fs c b r)];exact r) λc xs r=>by rw[aw (Jt c xs r)];exact r
   rcases hc with rfl|hc
   ·exact Dn
   ·rintro rfl;rcases he with z|z
    ·exact Fs c b hc z
    ·rw[hc]at z;cases z;exact hb rfl
end
structure Un (fs ex:List Addr)(H H':Hp)(h h':Heap):Prop where
 keep:∀b o,h.get? b=some o->H b=none->b∉fs->b∉ex->h'.get? b=some o
 slot:∀b o,h.get? b=some o->H b=none->b∈fs->b∉ex->∃sl,h'.get? b=some {o with slots:=sl}
 free:∀b o,h.get? b=some o->H b=none->b∉ex->H' b=none
 there:∀b o,h.get? b=some o->b∉ex->∃o',h'.get? b=some o'
 kn:∀b xs,H b=some (.tup xs)->H' b=some (.tup xs)
 jV:∀b o u,H b=some (.rL o u)->H' b=some (.rL o u)
 kq:∀b ps,H b=some (.Bn ps)->∃more,H' b=some (.Bn (ps++more))
section
variable {fs ex:List Addr}{H H1:Hp}{h h1 h':Heap}{a x e:Addr}{o:HO}
theorem Un.any (u:Un fs ex H H1 h h1){b:Addr}{ob:Obj}(q:h.get? b=some ob)(n:H b=none)(hx:b∉ex):∃sl,h1.get? b=some {ob with slots:=sl}:=by
 by_cases hb:b∈fs
 ·exact u.slot b ob q n hb hx
 ·exact⟨ob.slots,u.keep b ob q n hb hx⟩
theorem Un.kept (k:∀b u,h.get? b=some u->h'.get? b=some u):Un fs ex H H h h' :=
 ⟨λb ob q _ _ _=>k b ob q,λb ob q _ _ _=>⟨ob.slots,k b ob q⟩,λ_ _ _ n _=>n,λb ob q _=>⟨ob,k b ob q⟩,λ_ _ q=>q,λ_ _ _ q=>q,λ_ ps q=>⟨#[],by rw[q];simp⟩⟩
theorem Un.refl:Un fs ex H H h h:=Un.kept λ_ _ q=>q
theorem Un.laid (k:∀b u,h.get? b=some u->h'.get? b=some u)(hp:h.objs.size<=a)(hn:H a=none):Un fs ex H (upd H a o) h h' where
 keep:=λb u q _ _ _=>k b u q
 slot:=λb u q _ _ _=>⟨u.slots,k b u q⟩
 free:=λb u q n _=>by rw[aw (QO (QA (Qs q) hp))];exact n
 there:=λb u q _=>⟨u,k b u q⟩
 kn:=λb xs q=>by rw[aw (cz q hn)];exact q
 jV:=λb u xs q=>by rw[aw (cz q hn)];exact q
 kq:=λb ps q=>⟨#[],by rw[aw (cz q hn),q];simp⟩
theorem Un.write (mu:HD (H x))(he:e=x\/H e=some (.own x))(k:∀b u,b≠e->h.get? b=some u->h'.get? b=some u)(Eo:∃u,h'.get? e=some u):Un fs ex H (upd H x o) h h':=by
 have hx:∀b,H b=none->b≠x:=λb n z=>by subst z;rw[n]at mu;exact mu
 have hb:∀b,H b=none->b≠e:=λb n z=>by
  subst z;rcases he with r|r
  ·exact hx b n r
  ·rw[n]at r;cases r
 have hm:∀b u,H b=some u->¬ HD (some u)->b≠x:=λb u q nm z=>by subst z;rw[q]at mu;exact nm mu
 refine⟨λb u q n _ _=>k b u (hb b n) q,λb u q n _ _=>⟨u.slots,k b u (hb b n) q⟩,λb u q n _=>by rw[aw (hx b n)];exact n,λb u q _=>?_,
  λb xs q=>by rw[aw (hm b _ q λz=>z)];exact q,λb u xs q=>by rw[aw (hm b _ q λz=>z)];exact q,λb ps q=>⟨#[],by rw[aw (hm b _ q λz=>z),q];simp⟩⟩
 by_cases Dn:b=e
 ·subst Dn;exact Eo
 ·exact⟨u,k b u Dn q⟩
end
def HI (h:Heap)(H:Hp):List Addr:=(QQ h.objs.size).filter λa=>(H a).isSome
def mQ (h:Heap)(H:Hp):Heap:=PySem.W.hideAll h (HI h H)
theorem ua (h:Heap)(H:Hp):(mQ h H).objs.size=h.objs.size:=PySem.W.hideAll_size _ _
theorem wO {h:Heap}{H:Hp}{b:Addr}{o:Obj}(e:h.get? b=some o)(n:H b=none):(mQ h H).get? b=some o :=
 PySem.W.hideAll_get _ e λhm=>by
  have q:(H b).isSome=true:=(Rv.mp hm).2;rw[n]at q;simp at q
theorem yX {h:Heap}{H:Hp}{b:Addr}{o:Obj}(e:(mQ h H).get? b=some o):h.get? b=some o/\H b=none:=by
 have e':h.get? b=some o:=PySem.W.of_hideAll (HI h H) e;refine⟨e',?_⟩;cases q:H b with
 |none=>rfl
 |some x =>
  have hm:b∈HI h H:=Rv.mpr ⟨RK.mpr (Qs e'),by simp[q]⟩
  have z:(mQ h H).get? b=none:=PySem.W.hideAll_none (HI h H) hm;rw[z]at e;cases e
structure Mod (K:PySem.W.Frag)(mg:Str->Option P_)(base:Heap):Prop where
 JH:K.In base
 glob:base.Ns RE mg
 blt:∃mb,base.Ns builtinsNs mb/\∀x:Str,x≠"__name__" -> mb x=Rb x
 nolimit:base.NoLimit
structure Cx where
 prog:Qd
 w:Qq
 K:PySem.W.Frag
 mg:Str->Option P_
 base:Heap
 A:Rj
 N:List Str
 s₀:Qb
 H₀:Hp
 env:Env
 outer:List Env
 stack:List Env
 ex:List Addr
 fn:Str->Bool
 calm:Bool
 pn:List (Addr×Obj)
 xe:P_->Qb->Prop
def wW (l:List Env):List Addr:=l.filterMap (·.frame)
abbrev Cx.fs (X:Cx):List Addr:=wW X.outer
def m6 (sc:Sd)(x:Str):Prop:=sc.names.lookup x=some .local\/sc.names.lookup x=some .cell\/sc.names.lookup x=some .free
def Loc (sc:Sd)(x:Str):Prop:=sc.names.lookup x=some .local\/sc.names.lookup x=some .cell
def Look (env:Env)(h:Heap)(m:Str->Option P_)(x:Str)(u:P_):Prop :=
 (env.kindOf x=some .local/\m x=some u)\/((env.kindOf x=some .cell\/env.kindOf x=some .free)/\∃c,env.cells.lookup x=some c/\h.IsCell c (some u))
structure Cx.Ok (X:Cx):Prop where
 mod:Mod X.K X.mg X.base
 kind:X.env.scope.kind=.function
 glob:X.env.globals=RE
 blt:X.env.builtins=builtinsNs
 above:X.s₀.heap.objs.size<=X.env.locals
 inj:∀x y c,X.env.cells.lookup x=some c->X.env.cells.lookup y=some c->x=y
 has:∀x,(X.env.kindOf x=some .cell\/X.env.kindOf x=some .free)->∃c,X.env.cells.lookup x=some c
 Hq:∀x c,X.fn x=true->X.env.cells.lookup x=some c->X.s₀.heap.objs.size<=c
 hd:X.calm=true->X.A.handled=none
 frames:X.A.frames=some X.stack
 HQ:X.stack=X.outer\/(X.stack=X.env::X.outer/\X.env.frame=some X.env.locals)
 Eu:∀b∈X.ex,b≠X.env.locals/\∀x c,X.env.cells.lookup x=some c->c≠b
 bs:∀b o,X.base.get? b=some o->X.s₀.heap.get? b=some o/\X.H₀ b=none
 xP:X.base.objs.size<=X.s₀.heap.objs.size
 tE:∀b o,X.base.get? b=some o->b∉X.ex
 uf:∀b∈X.ex,b∉X.fs
 jT:X.s₀.heap.FunFrames X.base X.outer
 Er:∀b∈X.fs,X.H₀ b=none
structure Inv (X:Cx)(pins:List (Addr×Obj))(σ:List (Option V))(H:Hp)(s:Qb):Prop where
 ok:X.Ok
 os:s.os=X.s₀.os
 bare:T9 s.gens
 base:Un X.fs X.ex X.H₀ H X.s₀.heap s.heap
 loc:∃m,s.heap.Ns X.env.locals m/\∀(i:Nat) (x:Str) (v:V),X.N[i]?=some x->σ[i]?=some (some v)->m6 X.env.scope x->∃u,RelV v u/\Look X.env s.heap m x u
 cell:∀x c,X.env.cells.lookup x=some c->∃v,s.heap.IsCell c v
 free:H X.env.locals=none
 fm:∀x c,X.env.cells.lookup x=some c->H c=none
 pin:∀p∈X.pn++pins,s.heap.get? p.1=some p.2/\H p.1=none/\p.1≠X.env.locals/\p.1∉X.fs/\∀v,p.2.data≠.cell v
 bz:fY X.prog X.w H s.heap
 len:σ.length=X.N.length
section
variable {X:Cx}{pins:List (Addr×Obj)}{σ:List (Option V)}{H H':Hp}{s:Qb}{h':Heap}
theorem Cx.Ok.Cc (ok:X.Ok){b:Addr}{o:Obj}(e:X.base.get? b=some o):b∉X.fs:=λhb=>by
 have:=(ok.jT.mem hb).1;rw[e]at this;cases this
theorem Inv.bs (I:Inv X pins σ H s):∀b o,X.base.get? b=some o->s.heap.get? b=some o/\H b=none:=λb o e =>
 ⟨I.base.keep b o (I.ok.bs b o e).1 (I.ok.bs b o e).2 (I.ok.Cc e) (I.ok.tE b o e),I.base.free b o (I.ok.bs b o e).1 (I.ok.bs b o e).2 (I.ok.tE b o e)⟩
theorem Inv.bk (I:Inv X pins σ H s):∀b o,X.base.get? b=some o->s.heap.get? b=some o:=λb o e=>(I.bs b o e).1
theorem Inv.mod (I:Inv X pins σ H s):Mod X.K X.mg X.base:=I.ok.mod
theorem Inv.oB (I:Inv X pins σ H s):X.K.In s.heap:=I.ok.mod.JH.keeps I.bk
theorem Inv.lt (I:Inv X pins σ H s):X.env.locals<s.heap.objs.size:=let ⟨_,hn,_⟩:=I.loc;hn.lt
theorem Inv.sz (I:Inv X pins σ H s):X.s₀.heap.objs.size<=s.heap.objs.size:=Q6 I.ok.above (Nat.le_of_lt I.lt)
theorem Inv.Ju (I:Inv X pins σ H s){a:Addr}(h:s.heap.objs.size<=a):a∉X.fs:=λhb=>by
 obtain⟨_,o,ho,_⟩:=I.ok.jT.mem hb;exact absurd (QA (Qs ho) (Q6 I.sz h)) (S4 _)
theorem Inv.DF (I:Inv X pins σ H s):∀x c,X.env.cells.lookup x=some c->c≠X.env.locals:=λx c e z=>by
 obtain⟨v,o,ho,hd⟩:=I.cell x c e;obtain⟨m,⟨o',es,ep,zw,Ox,_⟩,_⟩:=I.loc;rw[z,zw]at ho;cases ho;rw[Ox]at hd;cases hd
theorem Inv.jT (I:Inv X pins σ H s):s.heap.FunFrames X.base X.outer:=by
 have all:∀(l:List Env),(∀b∈wW l,b∈X.fs)->X.s₀.heap.FunFrames X.base l->s.heap.FunFrames X.base l:=by
  intro l
  induction l with
  |nil=>intro _ _;trivial
  |cons env r ih =>
   intro hs hl;obtain⟨hk,⟨L,o,hf,hn,ho,hd⟩,hr⟩:=hl;have hL:L∈X.fs:=hs L (by unfold wW;rw[Ts,hf];exact Ra)
   obtain⟨sl,e⟩:=I.base.slot L o ho (I.ok.Er L hL) hL λz=>I.ok.uf L z hL;exact⟨hk,⟨L,_,hf,hn,e,hd⟩,ih (λb hb=>hs b (by unfold wW;rw[Ts,hf];exact QM _ hb)) hr⟩
 exact all X.outer (λ_ hb=>hb) I.ok.jT
theorem Inv.stack (I:Inv X pins σ H s):s.heap.FunFrames X.base X.stack:=by
 rcases I.ok.HQ with e|⟨e,hf⟩
 ·rw[e];exact I.jT
 ·rw[e];obtain⟨m,hn,_⟩:=I.loc;refine .cons (by rw[I.ok.kind];decide) hf hn ?_ I.jT
  exact Heap.get?_none_of_le (Q6 I.ok.xP I.ok.above)
theorem Inv.lZ (I:Inv X pins σ H s):∀b∈wW X.stack,b∈X.env.locals::X.fs:=λb hb=>by
 rcases I.ok.HQ with e|⟨e,hf⟩
 ·rw[e]at hb;exact QM _ hb
 ·rw[e]at hb;unfold wW at hb;rw[Ts,hf]at hb;exact hb
theorem Inv.l0 (I:Inv X pins σ H s):∀b∈wW X.stack,H b=none:=λb hb=>by
 rcases Qc.mp (I.lZ b hb)with e|hb
 ·rw[e];exact I.free
 ·obtain⟨_,o,ho,_⟩:=I.ok.jT.mem hb;exact I.base.free b o ho (I.ok.Er b hb) λz=>I.ok.uf b z hb
theorem Inv.step {g':Array GenState}{t':Nat}{d':Drawn}{ch:List Addr}(I:Inv X pins σ H s)
  (rK:∀b∈ch,(b∈X.ex\/X.s₀.heap.objs.size<=b)/\b≠X.env.locals/\(∀x c,X.env.cells.lookup x=some c->c≠b)/\∀p∈X.pn++pins,p.1≠b)
  (keep:∀b o,b≠X.env.locals->b∉X.fs->b∉ch->s.heap.get? b=some o->H b=none->h'.get? b=some o)
  (slot:∀b o,b≠X.env.locals->b∈X.fs->b∉ch->s.heap.get? b=some o->H b=none->∃sl,h'.get? b=some {o with slots:=sl}) (free:∀b o,b∉ch->s.heap.get? b=some o->H b=none->H' b=none)
  (there:∀b o,b∉ch->s.heap.get? b=some o->∃o',h'.get? b=some o')
  (kn:∀b xs,H b=some (.tup xs)->H' b=some (.tup xs)) (jV:∀b o u,H b=some (.rL o u)->H' b=some (.rL o u)) (kq:∀b ps,H b=some (.Bn ps)->∃more,H' b=some (.Bn (ps++more)))
  (ns:∀m,s.heap.Ns X.env.locals m->h'.Ns X.env.locals m) (bz:fY X.prog X.w H' h') (hg:T9 g') :
  Inv X pins σ H' {s with heap:=h',gens:=g',drawn:=d',toks:=t'}:=by
 have LS:∀b o,X.s₀.heap.get? b=some o->b≠X.env.locals:=λb o e=>QO (QA (Qs e) I.ok.above);have HX:∀b o,X.s₀.heap.get? b=some o->b∉X.ex->b∉ch:=λb o e hx hb=>by
  rcases (rK b hb).1 with z|z
  ·exact hx z
  ·exact absurd (QA (Qs e) z) (S4 _)
 have cellK:∀x c,X.env.cells.lookup x=some c->∀v,s.heap.IsCell c v->h'.IsCell c v:=λx c e v C4=>by
  obtain⟨o,ho,hd⟩:=C4;have Fx:c∉ch:=λz=>(rK c z).2.2.1 x c e rfl
  by_cases hc:c∈X.fs
  ·obtain⟨sl,q⟩:=slot c o (I.DF x c e) hc Fx ho (I.fm x c e);exact⟨_,q,hd⟩
  ·exact⟨o,keep c o (I.DF x c e) hc Fx ho (I.fm x c e),hd⟩
 refine⟨I.ok,I.os,hg,⟨λb o e n hb hx=>?_,λb o e n hb hx=>?_,λb o e n hx=>?_,λb o e hx=>?_,λb xs e=>kn b xs (I.base.kn b xs e),λb o xs e=>jV b o xs (I.base.jV b o xs e),λb ps e=>?_⟩,?_,λx c e=>?_,?_,λx c e=>?_,λp hp=>?_,bz,I.len⟩
 ·exact keep b o (LS b o e) hb (HX b o e hx) (I.base.keep b o e n hb hx) (I.base.free b o e n hx)
 ·obtain⟨sl,e1⟩:=I.base.slot b o e n hb hx;obtain⟨Nc,e2⟩:=slot b _ (LS b o e) hb (HX b o e hx) e1 (I.base.free b o e n hx);exact⟨Nc,e2⟩
 ·obtain⟨o',e1⟩:=I.base.there b o e hx;exact free b o' (HX b o e hx) e1 (I.base.free b o e n hx)
 ·obtain⟨o',e1⟩:=I.base.there b o e hx;exact there b o' (HX b o e hx) e1
 ·obtain⟨m1,e1⟩:=I.base.kq b ps e;obtain⟨m2,e2⟩:=kq b _ e1;exact⟨m1++m2,by rw[e2,Array.append_assoc]⟩
 ·obtain⟨m,hn,hl⟩:=I.loc;refine⟨m,ns m hn,λi x v e1 e2 e3=>?_⟩;obtain⟨u,r,l⟩:=hl i x v e1 e2 e3;refine⟨u,r,?_⟩;rcases l with l|⟨k,c,e,z⟩
  ·exact .inl l
  ·exact .inr ⟨k,c,e,cellK x c e _ z⟩
 ·obtain⟨v,z⟩:=I.cell x c e;exact⟨v,cellK x c e v z⟩
 ·obtain⟨m,⟨o,_,_,ho,_⟩,_⟩:=I.loc;exact free _ o (λz=>(rK _ z).2.1 rfl) ho I.free
 ·obtain⟨v,o,ho,hd⟩:=I.cell x c e;exact free c o (λz=>(rK c z).2.2.1 x c e rfl) ho (I.fm x c e)
 ·obtain⟨e,n,ne,nf,d⟩:=I.pin p hp;have Fx:p.1∉ch:=λz=>(rK p.1 z).2.2.2 p hp rfl;exact⟨keep p.1 p.2 ne nf Fx e n,free p.1 p.2 Fx e n,ne,nf,d⟩
theorem Inv.un {t':Nat}(I:Inv X pins σ H s)(u:Un X.fs [] H H' s.heap h')(bz:fY X.prog X.w H' h'):Inv X pins σ H' {s with heap:=h',toks:=t'}:=by
 obtain⟨m,⟨o,es,ep,ho,r⟩,_⟩:=id I.loc;obtain⟨sl,hL⟩:=u.any ho I.free (by simp)
 exact I.step (g':=s.gens) (d':=s.drawn) (ch:=[]) (λ_ z=>nomatch z) (λb o _ hb _ e n=>u.keep b o e n hb (by simp)) (λb o _ hb _ e n=>u.slot b o e n hb (by simp)) (λb o _ e n=>u.free b o e n (by simp)) (λb o _ e=>u.there b o e (by simp)) u.kn u.jV u.kq (λm' hm=>by
  obtain⟨o',qw,K9,zw,r'⟩:=hm;rw[ho]at zw;cases zw;exact⟨_,qw,K9,hL,r'⟩) bz I.bare
theorem Inv.call {g':Array GenState}{t':Nat}{d':Drawn}{ch:List Addr}(I:Inv X pins σ H s)(u:Un (wW X.stack) ch H H' s.heap h')(bz:fY X.prog X.w H' h')(hg:T9 g')
  (rK:∀b∈ch,(b∈X.ex\/X.s₀.heap.objs.size<=b)/\b≠X.env.locals/\(∀x c,X.env.cells.lookup x=some c->c≠b)/\∀p∈X.pn++pins,p.1≠b) :
  Inv X pins σ H' {s with heap:=h',gens:=g',drawn:=d',toks:=t'}:=by
 obtain⟨m,⟨o,es,ep,ho,r⟩,_⟩:=id I.loc;obtain⟨sl,hL⟩:=u.any ho I.free λz=>(rK _ z).2.1 rfl;exact I.step (ch:=ch) rK (λb o hL hb hc e n=>u.keep b o e n (λz=>(Qc.mp (I.lZ b z)).elim hL hb) hc) (λb o _ _ hc e n=>u.any e n hc) (λb o hc e n=>u.free b o e n hc) (λb o hc e=>u.there b o e hc) u.kn u.jV u.kq (λm' hm=>by
  obtain⟨o',qw,K9,zw,r'⟩:=hm;rw[ho]at zw;cases zw;exact⟨_,qw,K9,hL,r'⟩) bz hg
theorem Inv.turned {t':Nat}{it:Addr}(I:Inv X pins σ H s)(k:∀b o,b≠it->s.heap.get? b=some o->h'.get? b=some o)(hn:H it=none)(hL:it≠X.env.locals)
  (h1:it∈X.ex\/X.s₀.heap.objs.size<=it) (h2:∀x c,X.env.cells.lookup x=some c->c≠it) (h3:∀p∈X.pn++pins,p.1≠it):Inv X pins σ H {s with heap:=h',toks:=t'}:=by
 have LR:∀b u,H b=some u->b≠it:=λb u e z=>by rw[z,hn]at e;cases e
 refine I.step (g':=s.gens) (d':=s.drawn) (ch:=[it]) (λb hb=>?_) (λb o _ _ hc e _=>k b o (λz=>hc (by simp[z])) e) (λb o _ _ hc e _=>⟨o.slots,k b o (λz=>hc (by simp[z])) e⟩) (λ_ _ _ _ n=>n)
  (λb o hc e=>⟨o,k b o (λz=>hc (by simp[z])) e⟩) (λ_ _ e=>e) (λ_ _ _ e=>e) (λb ps e=>⟨#[],by rw[e];simp⟩) (λm hm=>?_) (λb u e=>?_) I.bare
 ·have e:b=it:=by simpa using hb
  subst e;exact⟨h1,hL,h2,h3⟩
 ·obtain⟨o,es,ep,ho,r⟩:=hm;exact⟨o,es,ep,k _ o (Rr hL) ho,r⟩
 ·refine(I.bz b u e).l3 (λc v hc q=>k c v ?_ q) (λ_ q=>q) λ_ _ q=>q;rcases hc with z|z
  ·rw[z];exact LR b u e
  ·exact LR c _ z
theorem Inv.tok (I:Inv X pins σ H s)(t:Nat):Inv X pins σ H {s with toks:=t}:=I.un (h':=s.heap) (t':=t) Un.refl I.bz
theorem Inv.kept {t':Nat}(I:Inv X pins σ H s)(k:∀b u,s.heap.get? b=some u->h'.get? b=some u):Inv X pins σ H {s with heap:=h',toks:=t'}:=I.un (Un.kept k) (I.bz.kept k)
theorem Inv.laid {a:Addr}{o:HO}{t':Nat}(I:Inv X pins σ H s)(k:∀b u,s.heap.get? b=some u->h'.get? b=some u)(hp:s.heap.objs.size<=a)(new:bA X.prog X.w (upd H a o) h' a o):
  Inv X pins σ (upd H a o) {s with heap:=h',toks:=t'}:=I.un (Un.laid k hp (I.bz.fresh hp)) (I.bz.laid k hp new)
theorem Inv.write {x e:Addr}{o:HO}{t':Nat}(I:Inv X pins σ H s)(mu:HD (H x))(he:e=x\/H e=some (.own x))(k:∀b u,b≠e->s.heap.get? b=some u->h'.get? b=some u)(Eo:∃u,h'.get? e=some u)
  (new:bA X.prog X.w (upd H x o) h' x o):Inv X pins σ (upd H x o) {s with heap:=h',toks:=t'}:=I.un (Un.write mu he k Eo) (I.bz.write mu he k Eo new)
theorem Inv.rj {Al:List (Addr×Obj)}(I:Inv X pins σ H s)(h:∀p∈Al,s.heap.get? p.1=some p.2/\H p.1=none/\p.1≠X.env.locals/\p.1∉X.fs/\∀v,p.2.data≠.cell v):Inv X Al σ H s :=
 ⟨I.ok,I.os,I.bare,I.base,I.loc,I.cell,I.free,I.fm,λp hp=>(Qr.mp hp).elim (λz=>I.pin p (RL _ z)) (h p),I.bz,I.len⟩
theorem nV {N:List Str}(hN:N.Nodup){i j:Nat}{x:Str}(a:N[i]?=some x)(b:N[j]?=some x):i=j:=by
 obtain⟨h1,e1⟩:=Qg.mp a;obtain⟨h2,e2⟩:=Qg.mp b;exact(List.getElem_inj hN).mp (e1.trans e2.symm)
theorem k8 {M:Model}{A:Rj}{E:P_->Qb->Prop}{i:Nat}{x:Str}{v:V}{u:P_}{Q:Unit->Qb->Prop}(I:Inv X pins σ H s)(hN:X.N.Nodup)(hi:X.N[i]?=some x)(hx:Loc X.env.scope x)(r:RelV v u)
  (h:∀s',Inv X pins (σ.set i (some v)) H s'->(∃a,Su a s.heap s'.heap/\(a=X.env.locals\/X.env.cells.lookup x=some a))->Q () s') (hf:X.fn x=true\/X.env.scope.names.lookup x=some .local:=by first|exact .inl rfl|exact .inr rfl|assumption):QE M A (storeName X.env x u) Q E s:=by
 obtain⟨m,hn,hl⟩:=id I.loc;have KP:(X.env.scope.kind==.class || (X.env.scope.kind==.module&&X.env.locals != X.env.globals))=false:=by rw[I.ok.kind];rfl
 have GY:i<σ.length:=by rw[I.len];exact(Qg.mp hi).1
 have DF:=I.DF;have tracked:∀{a:Addr} {h':Heap},(∃o,s.heap.get? a=some o/\H a=none)->Su a s.heap h'->fY X.prog X.w H h':=λ{a h'} ha hs b ob e=>by
  obtain⟨_,_,AE⟩:=ha;refine(I.bz b ob e).l3 (λc w' hc q=>(hs.2 c ?_).trans q) (λ_ q=>q) λ_ _ q=>q;rintro rfl;rcases hc with rfl|hc
  ·rw[AE]at e;cases e
  ·rw[AE]at hc;cases hc
 rcases hx with hk|hk
 ·refine wpAny_storeName_local hk hn (λh' Dd hs=>?_) KP;obtain⟨oL,_,_,N7,_⟩:=id hn;refine h _ ⟨I.ok,I.os,I.bare,⟨λb o e n hb hx=>?_,λb o e n hb hx=>?_,I.base.free,λb o e hx=>?_,I.base.kn,I.base.jV,I.base.kq⟩,⟨_,Dd,λj y v' e1 e2 e3=>?_⟩,λy c e=>?_,I.free,I.fm,λp hp=>?_,tracked ⟨oL,N7,I.free⟩ hs,by simpa using I.len⟩ ⟨_,hs,.inl rfl⟩
  ·exact(hs.2 b (QO (QA (Qs e) I.ok.above))).trans (I.base.keep b o e n hb hx)
  ·obtain⟨sl,e1⟩:=I.base.slot b o e n hb hx;exact⟨sl,(hs.2 b (QO (QA (Qs e) I.ok.above))).trans e1⟩
  ·obtain⟨o',e1⟩:=I.base.there b o e hx;exact⟨o',(hs.2 b (QO (QA (Qs e) I.ok.above))).trans e1⟩
  ·by_cases hj:j=i
   ·subst hj;rw[hi]at e1;cases e1;rw[List.getElem?_set_self GY]at e2;cases e2;exact⟨u,r,.inl ⟨hk,by simp⟩⟩
   ·rw[List.getElem?_set_ne (Rr hj)]at e2;obtain⟨u',r',q⟩:=hl j y v' e1 e2 e3;refine⟨u',r',?_⟩;rcases q with⟨k,e⟩|⟨k,c,e,z⟩
    ·refine .inl ⟨k,?_⟩;have:y≠x:=λe=>hj (nV hN e1 (e▸hi));simp[this,e]
    ·exact .inr ⟨k,c,e,z.sameBut hs (DF y c e)⟩
  ·obtain⟨w',z⟩:=I.cell y c e;exact⟨w',z.sameBut hs (DF y c e)⟩
  ·obtain⟨e,n,ne,nf,d⟩:=I.pin p hp;exact⟨(hs.2 p.1 ne).trans e,n,ne,nf,d⟩
 ·have En:X.fn x=true:=by
   rcases hf with z|z
   ·exact z
   ·rw[z]at hk;cases hk
  obtain⟨c,hc⟩:=I.ok.has x (.inl hk);obtain⟨w',z⟩:=I.cell x c hc;refine wpAny_storeName_cell I.ok.kind hk hc z (λh' kg hs=>?_);obtain⟨oc,wJ,Kq⟩:=id z;refine h {s with heap:=h'} ⟨I.ok,I.os,I.bare,⟨λb o e n hb hx=>?_,λb o e n hb hx=>?_,I.base.free,λb o e hx=>?_,I.base.kn,I.base.jV,I.base.kq⟩,⟨m,hn.sameBut hs (Rr (DF x c hc)),λj y v' e1 e2 e3=>?_⟩,λy c' e=>?_,I.free,I.fm,λp hp=>?_,tracked ⟨oc,wJ,I.fm x c hc⟩ hs,by simpa using I.len⟩ ⟨c,hs,.inr hc⟩
  ·exact(hs.2 b (QO (QA (Qs e) (I.ok.Hq x c En hc)))).trans (I.base.keep b o e n hb hx)
  ·obtain⟨sl,e1⟩:=I.base.slot b o e n hb hx;exact⟨sl,(hs.2 b (QO (QA (Qs e) (I.ok.Hq x c En hc)))).trans e1⟩
  ·obtain⟨o',e1⟩:=I.base.there b o e hx;exact⟨o',(hs.2 b (QO (QA (Qs e) (I.ok.Hq x c En hc)))).trans e1⟩
  ·by_cases hj:j=i
   ·subst hj;rw[hi]at e1;cases e1;rw[List.getElem?_set_self GY]at e2;cases e2;exact⟨u,r,.inr ⟨.inl hk,c,hc,kg⟩⟩
   ·rw[List.getElem?_set_ne (Rr hj)]at e2;obtain⟨u',r',q⟩:=hl j y v' e1 e2 e3;refine⟨u',r',?_⟩;rcases q with q|⟨k,c',e,z'⟩
    ·exact .inl q
    ·refine .inr ⟨k,c',e,z'.sameBut hs ?_⟩;rintro rfl;exact hj (nV hN e1 (I.ok.inj _ _ _ e hc▸hi))
  ·by_cases AF:c'=c
   ·subst AF;exact⟨_,kg⟩
   ·obtain⟨w2,z2⟩:=I.cell y c' e;exact⟨w2,z2.sameBut hs AF⟩
  ·obtain⟨e,n,ne,nf,d⟩:=I.pin p hp;refine⟨(hs.2 p.1 ?_).trans e,n,ne,nf,d⟩;intro q;rw[q,wJ]at e;have q':oc=p.2:=Q3 e;exact d w' (by rw[<- q'];exact Kq)
theorem nB {M:Model}{A:Rj}{E:P_->Qb->Prop}{i:Nat}{x:Str}{v:V}{u:P_}{Q:Unit->Qb->Prop}(I:Inv X pins σ H s)(hN:X.N.Nodup)(hi:X.N[i]?=some x)(hx:Loc X.env.scope x)(r:RelV v u)
  (h:∀s',Inv X pins (σ.set i (some v)) H s'->Q () s') (hf:X.fn x=true\/X.env.scope.names.lookup x=some .local:=by first|exact .inl rfl|exact .inr rfl|assumption):QE M A (storeName X.env x u) Q E s :=
 k8 I hN hi hx r (λs' I' _=>h s' I') hf
theorem Inv.AS {s':Qb}{ch:List Addr}(I:Inv X pins σ H s)(ho:s'.os=s.os)(u:Un (wW X.stack) ch H H' s.heap s'.heap)(bz:fY X.prog X.w H' s'.heap)(hg:T9 s'.gens)
  (rK:∀b∈ch,(b∈X.ex\/X.s₀.heap.objs.size<=b)/\b≠X.env.locals/\(∀x c,X.env.cells.lookup x=some c->c≠b)/\∀p∈X.pn++pins,p.1≠b):Inv X pins σ H' s':=by
 obtain⟨h',g',d',t',o'⟩:=s';have e:o'=s.os:=ho;subst e;exact I.call (g':=g') (t':=t') (d':=d') u bz hg rK
end
abbrev XK:=P_->Option Addr->Hp->Prop
abbrev St:=List (Option V)
abbrev VK:=V->Hp->Prop
abbrev TE:=St->Hp->VK->Prop
abbrev TT:=St->Hp->(Bool->Hp->Prop)->Prop
abbrev TA:=St->Hp->(List V->Hp->Prop)->Prop
structure Ends where
 nx:St->Hp->Prop
 rt:VK
 bk:St->Hp->Prop:=λ_ _=>False
 ct:St->Hp->Prop:=λ_ _=>False
abbrev TS:=Ends->St->Hp->Prop
def EP (X:Cx)(pins:List (Addr×Obj))(σ:St)(Q:VK)(u:P_)(s':Qb):Prop:=∃v H',Inv X pins σ H' s'/\RelV v u/\Q v H'
def TP (X:Cx)(pins:List (Addr×Obj))(σ:St)(Q:Bool->Hp->Prop)(b:Bool)(s':Qb):Prop:=∃H',Inv X pins σ H' s'/\Q b H'
def AP (X:Cx)(pins:List (Addr×Obj))(σ:St)(Q:List V->Hp->Prop)(us:List P_)(s':Qb):Prop:=∃vs H',Inv X pins σ H' s'/\Vals vs us/\Q vs H'
def SP (X:Cx)(pins:List (Addr×Obj))(D:Ends)(f:Flow)(s':Qb):Prop :=
 match f with
 |.next=>∃σ' H',Inv X pins σ' H' s'/\D.nx σ' H'
 |.brk=>∃σ' H',Inv X pins σ' H' s'/\D.bk σ' H'
 |.cont=>∃σ' H',Inv X pins σ' H' s'/\D.ct σ' H'
 |.ret u=>∃v σ' H',Inv X pins σ' H' s'/\RelV v u/\D.rt v H'
def PE (X:Cx)(e:Expr)(t:TE):Prop :=
 ∀(pins:List (Addr×Obj)) (s:Qb) (σ:St) (H:Hp) (Q:VK),Inv X pins σ H s->t σ H Q->QE (model X.prog X.w) X.A (eval e X.env) (EP X pins σ Q) X.xe s
def PT (X:Cx)(e:Expr)(t:TT):Prop :=
 ∀(pins:List (Addr×Obj)) (s:Qb) (σ:St) (H:Hp) (Q:Bool->Hp->Prop),Inv X pins σ H s->t σ H Q->QE (model X.prog X.w) X.A (isTrue e X.env (eval e X.env)) (TP X pins σ Q) X.xe s
def PW (X:Cx)(e:Expr)(t:TT):Prop :=
 ∀(whole:Sem P_) (pins:List (Addr×Obj)) (s:Qb) (σ:St) (H:Hp) (Q:Bool->Hp->Prop),Inv X pins σ H s->t σ H Q->QE (model X.prog X.w) X.A (isTrue e X.env whole) (TP X pins σ Q) X.xe s
theorem PW.pt {X:Cx}{e:Expr}{t:TT}(h:PW X e t):PT X e t:=h _
def PA (X:Cx)(es:List Expr)(t:TA):Prop :=
 ∀(pos:Pos) (pins:List (Addr×Obj)) (s:Qb) (σ:St) (H:Hp) (Q:List V->Hp->Prop),Inv X pins σ H s->t σ H Q->QE (model X.prog X.w) X.A (spliced (SF pos (Qt es X.env))) (AP X pins σ Q) X.xe s
def PS (X:Cx)(st:Stmt)(t:TS):Prop :=
 ∀(pins:List (Addr×Obj)) (s:Qb) (σ:St) (H:Hp) (D:Ends),Inv X pins σ H s->t D σ H->QE (model X.prog X.w) X.A (exec st X.env) (SP X pins D) X.xe s
def pG (X:Cx)(st:List Stmt)(t:TS):Prop :=
 ∀(pins:List (Addr×Obj)) (s:Qb) (σ:St) (H:Hp) (D:Ends),Inv X pins σ H s->t D σ H->QE (model X.prog X.w) X.A (execs st X.env) (SP X pins D) X.xe s
theorem bQ {α:Type}{t:Sem α}{Q Q':α->Qb->Prop}{M:Model}{A:Rj}{E:P_->Qb->Prop}{s:Qb}(h:QE M A t Q E s)(hQ:∀a s,Q a s->Q' a s):QE M A t Q' E s:=Tx h hQ λ_ _ x=>x
section
variable {X:Cx}
def EJ (i:Nat):TE:=λσ H Q=>∃v,σ[i]?=some (some v)/\Q v H
def tC (v:V):TE:=λ_ H Q=>Q v H
theorem cy {i:Nat} {x:Str} {pos:Pos} (hN:X.N[i]?=some x) (hv:m6 X.env.scope x) (hd:(x==("__debug__" : Str))=false:=by decide) (ee:(x==("__classdict__" : Str))=false:=by decide):PE X (.Name x pos) (EJ i):=by
 intro pins s σ H Q I h;obtain⟨v,e,h⟩:=h;obtain⟨m,hn,hl⟩:=I.loc;obtain⟨u,r,l⟩:=hl i x v hN e hv;have fin:EP X pins σ Q u s:=⟨v,H,I,r,h⟩;rcases l with⟨hk,hm⟩|⟨hk,c,hc,iG⟩
 ·exact wpAny_Name (wpAny_loadName_local I.ok.kind hk hn hm fin) hd
 ·rcases hk with hk|hk
  ·exact wpAny_Name (wpAny_loadName_cell I.ok.kind hk hc iG fin) hd
  ·exact wpAny_Name (wpAny_loadName_free I.ok.kind hk hc iG fin ee) hd
theorem aU {i j pos}:PE X (.Constant (.int i) j pos) (tC (.int i)):=λ_ _ _ H _ I h=>wpAny_Constant_int ⟨.int i,H,I.tok _,⟨_,rfl⟩,h⟩
theorem vJ {b j pos}:PE X (.Constant (.bool b) j pos) (tC (.bl b)):=λ_ _ _ H _ I h=>Constant_bool ⟨.bl b,H,I,rfl,h⟩
def Gl (X:Cx)(x:Str):Prop:=X.env.kindOf x=some .globalImplicit
theorem zh {E:P_->Qb->Prop}{pins:List (Addr×Obj)}{s:Qb}{σ:St}{H:Hp}{x:Str}{u:P_}{pos:Pos}{Q:P_->Qb->Prop}(I:Inv X pins σ H s)(hg:Gl X x)(hm:X.mg x=some u)(h:Q u s)
  (hd:(x==("__debug__" : Str))=false:=by decide):QE (model X.prog X.w) X.A (eval (.Name x pos) X.env) Q E s :=
 Ve I.ok.kind hg (Calls.loadGlobal_global (by rw[I.ok.glob];exact I.mod.glob.keeps I.bk) hm h) hd
theorem dS {E:P_->Qb->Prop}{pins:List (Addr×Obj)}{s:Qb}{σ:St}{H:Hp}{x:Str}{u:P_}{pos:Pos}{Q:P_->Qb->Prop}(I:Inv X pins σ H s)(hg:Gl X x)(hm:X.mg x=none)(hv:Rb x=some u)(h:Q u s)
  (hn:x≠"__name__" := by decide) (hd:(x==("__debug__" : Str))=false:=by decide):QE (model X.prog X.w) X.A (eval (.Name x pos) X.env) Q E s:=by
 obtain⟨mb,h1,h2⟩:=I.mod.blt;exact Ve I.ok.kind hg (Calls.loadGlobal_builtin (by rw[I.ok.glob];exact I.mod.glob.keeps I.bk) hm (by rw[I.ok.blt];exact h1.keeps I.bk) ((h2 x hn).trans hv) h) hd
theorem yE {x:Str} {v:V} {u:P_} {pos:Pos} (hg:Gl X x) (hm:X.mg x=none) (hv:Rb x=some u) (r:RelV v u) (hn:x≠"__name__" := by decide) (hd:(x==("__debug__" : Str))=false:=by decide):PE X (.Name x pos) (tC v) :=
 λ_ _ _ H _ I h=>dS I hg hm hv ⟨v,H,I,r,h⟩ hn hd
variable {a b:Expr}{pos:Pos}
theorem nX (b:Expr){op:CmpOp}(h:op≠.In)(h2:op≠.NotIn):SD op b=false:=by
 have e1:(op==CmpOp.In)=false:=by cases op <;> first|rfl|exact absurd rfl h
 have e2:(op==CmpOp.NotIn)=false:=by cases op <;> first|rfl|exact absurd rfl h2
 cases b <;> simp[SD,e1,e2]
def tB (t:TE):TT:=λσ H Q=>t σ H λx H1=>∃c,x=.bl c/\Q c H1
theorem BN {e:Expr}{t:TE}(h:PE X e t)(he:∀whole,isTrue e X.env whole=(do let v <- whole;T3 e.pos;holding [v] (truthy v)):=by intro _;rfl):PT X e (tB t):=by
 intro pins s σ H Q I hw;refine isTrue_plain (bQ (h pins s σ H _ I hw) λv s1 ⟨x,H1,I1,r1,q1⟩=>?_) (he _);obtain⟨d,rfl,q⟩:=q1;cases r1;exact UE ⟨H1,I1,q⟩
variable {tA HP:TT}{rest:List Expr}
def IS (t u:TT):TT:=λσ H Q=>t σ H λc H1=>if c=true then u σ H1 Q else Q false H1
def M4 (t u:TT):TT:=λσ H Q=>t σ H λc H1=>if c=true then Q true H1 else u σ H1 Q
def IK (t:TT):TT:=λσ H Q=>t σ H λc H1=>Q (!c) H1
theorem pw_and1 (ha:PT X a tA):PW X (.BoolOp .And [a] pos) tA:=by
 intro wh pins s σ H Q I h;refine isTrue_and (bQ (ha pins s σ H Q I h) λc s1 e=>?_);cases c with
 |true=>exact isTrue_and_nil e
 |false=>exact e
theorem pw_or1 (ha:PT X a tA):PW X (.BoolOp .Or [a] pos) tA:=by
 intro wh pins s σ H Q I h;refine isTrue_or (bQ (ha pins s σ H Q I h) λc s1 e=>?_);cases c with
 |false=>exact isTrue_or_nil e
 |true=>exact e
theorem pw_and (ha:PT X a tA)(hb:PW X (.BoolOp .And (b::rest) pos) HP):PW X (.BoolOp .And (a::b::rest) pos) (IS tA HP):=by
 intro wh pins s σ H Q I h;refine isTrue_and (bQ (ha pins s σ H _ I h) λc s1 ⟨H1,I1,q1⟩=>?_);cases c with
 |true=>exact hb wh pins s1 σ H1 Q I1 q1
 |false=>exact⟨H1,I1,q1⟩
theorem pw_or (ha:PT X a tA)(hb:PW X (.BoolOp .Or (b::rest) pos) HP):PW X (.BoolOp .Or (a::b::rest) pos) (M4 tA HP):=by
 intro wh pins s σ H Q I h;refine isTrue_or (bQ (ha pins s σ H _ I h) λc s1 ⟨H1,I1,q1⟩=>?_);cases c with
 |true=>exact⟨H1,I1,q1⟩
 |false=>exact hb wh pins s1 σ H1 Q I1 q1
theorem BO (ha:PT X a tA):PT X (.UnaryOp .Not a pos) (IK tA):=by
 intro pins s σ H Q I h;exact isTrue_not (ha pins s σ H (λc H1=>Q (!c) H1) I h)
end
def c6 (K:PySem.W.Frag)(H:Hp)(a:Addr)(xs:List V):Prop :=
 Rd H a (.lst xs) \/
  ∃(o:Obj) (its:Array P_) (n:Nat),K.lookup a=some o/\o.cls=.type "list" /\ o.dict=none/\o.data=.seq its n/\its.size<=Qp/\Vals xs its.toList
def pL (K:PySem.W.Frag)(H:Hp)(a:Addr)(xs:List V):Prop :=
 Rd H a (.tup xs) \/
  ∃(o:Obj) (its:Array P_) (n:Nat),K.lookup a=some o/\o.cls=.type "tuple" /\ o.data=.seq its n/\its.size<=Qp/\Vals xs its.toList
noncomputable def Li:P_->Option V
 |.none=>some .d7
 |.bool b=>some (.bl b)
 |.int i _=>some (.int i)
 |.str x _=>some (.str x)
 |.bytes b _=>some (.Lg b)
 |.float b _=>some (.Es b)
 |.ref a=>some (.ref a)
 |.type n=>some (.ty n)
 |_=>none
theorem RelV.abs {x:V}{u:P_}(r:RelV x u):Li u=some x:=by
 cases x with
 |d7=>cases r;rfl
 |bl _=>cases r;rfl
 |int _=>obtain⟨t,rfl⟩:=r;rfl
 |str _=>obtain⟨t,rfl⟩:=r;rfl
 |Lg _=>obtain⟨t,rfl⟩:=r;rfl
 |Es _=>obtain⟨t,rfl⟩:=r;rfl
 |ref _=>cases r;rfl
 |ty _=>cases r;rfl
theorem RelV.inj {x y:V}{u:P_}(r:RelV x u)(q:RelV y u):x=y:=Q3 (r.abs.symm.trans q.abs)
theorem Vals.inj:∀{xs ys:List V} {us:List P_},Vals xs us->Vals ys us->xs=ys
 |_,_,_,.nil,.nil=>rfl
 |_,_,_,.cons r t,.cons r' t'=>by rw[r.inj r',Vals.inj t t']
section
variable {X:Cx}{pins:List (Addr×Obj)}{σ:St}{H:Hp}{s:Qb}{a:Addr}{xs ys:List V}
theorem c6.of {K:PySem.W.Frag}(h:H a=some (.lst xs)):c6 K H a xs:=.inl (.inl h)
theorem pL.of {K:PySem.W.Frag}(h:H a=some (.tup xs)):pL K H a xs:=.inl (.inl h)
theorem Inv.list (I:Inv X pins σ H s)(h:c6 X.K H a xs):∃its:List P_,Vals xs its/\PlainL s.heap a its.toArray/\xs.length<=Qp:=by
 rcases h with h|⟨o,its,n,hk,hc,hd,hs,hz,r⟩
 ·obtain⟨z,its,n,r,e⟩:=h.ok I.bz;exact⟨its,r,⟨_,n,e,rfl,rfl,rfl⟩,z⟩
 ·refine⟨its.toList,r,⟨o,n,I.oB a o hk,hc,hd,by simpa using hs⟩,?_⟩
  have e:=r.length;simp only[QH]at e;lia
theorem Inv.tuple (I:Inv X pins σ H s)(h:pL X.K H a xs):∃its:List P_,Vals xs its/\IsTup s.heap a its.toArray/\xs.length<=Qp:=by
 rcases h with h|⟨o,its,n,hk,hc,hs,hz,r⟩
 ·obtain⟨z,its,r,p⟩:=h.ok I.bz;exact⟨its,r,p,z⟩
 ·refine⟨its.toList,r,⟨o,I.oB a o hk,hc,n,by simpa using hs⟩,?_⟩
  have e:=r.length;simp only[QH]at e;lia
theorem Inv.v_ (I:Inv X pins σ H s)(h:c6 X.K H a xs)(h':c6 X.K H a ys):xs=ys:=by
 obtain⟨its,r,⟨o,n,e,_,_,d⟩,_⟩:=I.list h;obtain⟨its',r',⟨o',n',e',_,_,d'⟩,_⟩:=I.list h';rw[e]at e';cases e';rw[d]at d';injection d' with d1 _
 have:its=its':=by simpa using congrArg Array.toList d1
 subst this;exact r.inj r'
end
noncomputable abbrev Cx.kl (X:Cx)(E:P_->Qb->Prop):Cx:={X with xe:=E}
abbrev Cx.Aq (X:Cx):Cx:=X.kl λ_ _=>False
theorem Cx.Ok.kl {X:Cx}(ok:X.Ok)(E:P_->Qb->Prop):(X.kl E).Ok :=
 ⟨ok.mod,ok.kind,ok.glob,ok.blt,ok.above,ok.inj,ok.has,ok.Hq,ok.hd,ok.frames,ok.HQ,ok.Eu,ok.bs,ok.xP,ok.tE,ok.uf,ok.jT,ok.Er⟩
theorem Cx.Ok.eY {X:Cx}{E:P_->Qb->Prop}(ok:(X.kl E).Ok):X.Ok :=
 ⟨ok.mod,ok.kind,ok.glob,ok.blt,ok.above,ok.inj,ok.has,ok.Hq,ok.hd,ok.frames,ok.HQ,ok.Eu,ok.bs,ok.xP,ok.tE,ok.uf,ok.jT,ok.Er⟩
section
variable {X:Cx}{pins:List (Addr×Obj)}{σ:St}{H:Hp}{s:Qb}{E:P_->Qb->Prop}
theorem Inv.kl (I:Inv X pins σ H s)(E:P_->Qb->Prop):Inv (X.kl E) pins σ H s:=⟨I.ok.kl E,I.os,I.bare,I.base,I.loc,I.cell,I.free,I.fm,I.pin,I.bz,I.len⟩
theorem Inv.eY (I:Inv (X.kl E) pins σ H s):Inv X pins σ H s:=⟨I.ok.eY,I.os,I.bare,I.base,I.loc,I.cell,I.free,I.fm,I.pin,I.bz,I.len⟩
theorem SP.eY {D:Ends}{f:Flow}{s':Qb}(h:SP (X.kl E) pins D f s'):SP X pins D f s':=by
 cases f with
 |next=>obtain⟨σ',H',I,q⟩:=h;exact⟨σ',H',I.eY,q⟩
 |brk=>obtain⟨σ',H',I,q⟩:=h;exact⟨σ',H',I.eY,q⟩
 |cont=>obtain⟨σ',H',I,q⟩:=h;exact⟨σ',H',I.eY,q⟩
 |ret u=>obtain⟨v,σ',H',I,r,q⟩:=h;exact⟨v,σ',H',I.eY,r,q⟩
theorem pG.Aq {st:List Stmt}{t:TS}(h:pG X.Aq st t):pG X st t:=λpins s σ H D I hw =>
 Tx (h pins s σ H D (I.kl _) hw) (λ_ _ q=>q.eY) λ_ _ z=>SO z
end
section
variable {X:Cx}{st:Stmt}{rest:List Stmt}{t u:TS}{e:Expr}{te:TE}{pos:Pos}
def ER:TS:=λD σ H=>D.nx σ H
def II (t u:TS):TS:=λD σ H=>t {D with nx:=u D} σ H
theorem ml:pG X [] ER:=λ_ _ σ H _ I h=>UZ ⟨σ,H,I,h⟩
theorem cf (h1:PS X st t)(h2:pG X rest u):pG X (st::rest) (II t u):=by
 intro pins s σ H D I h;refine wpAny_execs_cons (bQ (h1 pins s σ H {D with nx:=u D} I h) λf s1 q=>?_)
 cases f with
 |next =>
  obtain⟨σ',H',I',q⟩:=q;exact h2 pins s1 σ' H' D I' q
 |ret v=>exact q
 |brk=>exact q
 |cont=>exact q
theorem eF (h1:PS X st t):pG X [st] t:=by
 intro pins s σ H D I h;refine wpAny_execs_cons (bQ (h1 pins s σ H D I h) λf s1 q=>?_);cases f with
 |next=>exact UZ q
 |ret v=>exact q
 |brk=>exact q
 |cont=>exact q
theorem Inv.quiet {pins:List (Addr×Obj)}{σ:St}{H:Hp}{s:Qb}(I:Inv X pins σ H s):interactive X.env=false:=by simp[interactive,I.ok.kind]
def ET (te:TE):TS:=λD σ H=>te σ H λ_ H1=>D.nx σ H1
theorem iX (he:PE X e te)(hs:RN e none pos.line X.env=pure false:=by rfl):PS X (.Expr e pos) (ET te):=by
 intro pins s σ H D I h;exact wpAny_Expr_any (bQ (he pins s σ H _ I h) λv s1 wH=>by obtain⟨x,H1,I1,r1,q1⟩:=wH;exact⟨σ,H1,I1,q1⟩) I.quiet hs
def IJ (te:TE):TS:=λD σ H=>te σ H D.rt
theorem fb (he:PE X e te):PS X (.Return (some e) pos) (IJ te):=by
 intro pins s σ H D I h;exact wpAny_Return_some (bQ (he pins s σ H _ I h) λv s1 wG=>by obtain⟨x,H1,I1,r1,q1⟩:=wG;exact⟨x,σ,H1,I1,r1,q1⟩)
def IM (c:TT)(t u:TS):TS:=λD σ H=>c σ H λb H1=>if b=true then t D σ H1 else u D σ H1
theorem vA {c:Expr}{a b:List Stmt}{tc:TT}(hc:PT X c tc)(ha:pG X a t)(hb:pG X b u):PS X (.If c a b pos) (IM tc t u):=by
 intro pins s σ H D I h;refine wpAny_If (bQ (hc pins s σ H _ I h) λd s1 ⟨H1,I1,q1⟩=>?_);cases d with
 |true=>exact ha pins s1 σ H1 D I1 q1
 |false=>exact hb pins s1 σ H1 D I1 q1
def Bq:TS:=λ_ _ _=>False
theorem sV {M8:List Stmt}:pG X M8 Bq:=λ_ _ _ _ _ _ h=>h.elim
end
abbrev TG:=V->St->Hp->(St->Hp->Prop)->Prop
abbrev AV:=List V->St->Hp->(St->Hp->Prop)->Prop
def PG (X:Cx)(target:Expr)(t:TG):Prop :=
 ∀(pins:List (Addr×Obj)) (s:Qb) (σ:St) (H:Hp) (v:V) (u:P_) (Q:St->Hp->Prop),Inv X pins σ H s->RelV v u->t v σ H Q ->
  QE (model X.prog X.w) X.A (assign target X.env u) (λ_ s'=>∃σ' H',Inv X pins σ' H' s'/\Q σ' H') X.xe s
def AY (X:Cx)(ts:List Expr)(t:AV):Prop :=
 ∀(pins:List (Addr×Obj)) (s:Qb) (σ:St) (H:Hp) (vs:List V) (us:List P_) (Q:St->Hp->Prop),Inv X pins σ H s->Vals vs us->t vs σ H Q ->
  QE (model X.prog X.w) X.A (assignInOrder ((R_ ts X.env).map (·.2)) us) (λ_ s'=>∃σ' H',Inv X pins σ' H' s'/\Q σ' H') X.xe s
abbrev DS:=V->V->V->Hp->(Hp->Prop)->Prop
def HB (X:Cx)(t:DS):Prop :=
 ∀(pins:List (Addr×Obj)) (s:Qb) (σ:St) (H:Hp) (o i v:V) (ov iv u:P_) (Q:Hp->Prop),Inv X pins σ H s->RelV o ov->RelV i iv->RelV v u->t o i v H Q ->
  QE (model X.prog X.w) X.A (setItem ov iv u) (λ_ s'=>∃H',Inv X pins σ H' s'/\Q H') X.xe s
section
variable {X:Cx}{pos:Pos}
def AI (i:Nat):TG:=λv σ H Q=>Q (σ.set i (some v)) H
theorem yC {i:Nat}{x:Str}(hN:X.N.Nodup)(hi:X.N[i]?=some x)(hx:Loc X.env.scope x)(hf:X.fn x=true\/X.env.scope.names.lookup x=some .local:=by first|exact .inl rfl|exact .inr rfl|assumption):PG X (.Name x pos) (AI i):=by
 intro pins s σ H v u Q I r h;exact wpAny_assign_Name (nB I hN hi hx r (λs' I'=>⟨_,H,I',h⟩) hf)
def Dr:AV:=λvs σ H Q=>vs=[]/\Q σ H
def wU (t:TG)(u:AV):AV:=λvs σ H Q=>∃v r,vs=v::r/\t v σ H λσ' H'=>u r σ' H' Q
theorem yB:AY X [] Dr:=by
 intro pins s σ H vs us Q I r h;obtain⟨e,h⟩:=h;subst e;cases r;exact assignInOrder_nil ⟨σ,H,I,h⟩
theorem vG {e:Expr}{es:List Expr}{t:TG}{u:AV}(h1:PG X e t)(h2:AY X es u)
  (hs:(R_ (e::es) X.env).map (·.2)=assign e X.env::(R_ es X.env).map (·.2):=by rfl):AY X (e::es) (wU t u):=by
 intro pins s σ H vs us Q I r h;obtain⟨v,vr,e1,h⟩:=h;subst e1;cases r with
 |cons r rr =>
  rw[hs];refine assignInOrder_cons (bQ (h1 pins s σ H _ _ _ I r h) λ_ s1 ⟨σ1,H1,I1,q1⟩=>?_);exact h2 pins s1 σ1 H1 _ _ Q I1 rr q1
def K0 (K:PySem.W.Frag)(n:Nat)(t:AV):TG:=λv σ H Q=>∃a xs,v=.ref a/\pL K H a xs/\xs.length=n/\t xs σ H Q
theorem BQ {es:List Expr}{k:Nat}{t:AV}{n:Nat}(hc:X.calm=true)(h:AY X es t)
  (hn:(R_ es X.env).length=n:=by rfl) (F6:(R_ es X.env).findIdx? (·.1)=none:=by rfl):PG X (.Tuple es k pos) (K0 X.K n t):=by
 intro pins s σ H v u Q I r hw;obtain⟨a,xs,e1,hq,hl,hw⟩:=hw;subst e1;cases r;obtain⟨its,rv,ht,hz⟩:=I.tuple hq;refine assign_Tuple_tuple (I.ok.hd hc) ht (by simp[hn,<- hl,rv.length]) F6 λh' hx=>?_
 have I1:Inv X pins σ H {s with heap:=h'}:=I.kept (t':=s.toks) λb o e=>hx b o (QO (Qs e)) e
 exact h pins _ σ H xs _ Q I1 (by simpa using rv) hw
def K1 (to ti:TE)(t:DS):TG:=λv σ H Q=>to σ H λo H1=>ti σ H1 λi H2=>t o i v H2 λH3=>Q σ H3
theorem mx {o i:Expr}{to ti:TE}{t:DS}(ho:PE X o to)(hi:PE X i ti)(hs:HB X t)
  (ha:∀v,assign (.Subscript o i pos) X.env v=(do
   let ov <- holding [v] (eval o X.env)
   let iv <- holding [v,ov] (eval i X.env)
   T3 pos
   holding [v,ov,iv] (setItem ov iv v)
   release [v,ov,iv] []):=by intro _;rfl):PG X (.Subscript o i pos) (K1 to ti t):=by
 intro pins s σ H v u Q I r h;rw[ha];refine P9 (R8 (bQ (ho pins s σ H _ I h) λov s1 ⟨x,H1,I1,r1,q1⟩=>?_));refine P9 (R8 (bQ (hi pins s1 σ H1 _ I1 q1) λiv s2 ⟨y,H2,I2,r2,q2⟩=>?_));refine P9 (SA (P9 (R8 (bQ (hs pins s2 σ H2 x y v ov iv u _ I2 r1 r2 r q2) λ_ s3 ⟨H3,I3,q3⟩=>?_))));exact wpAny_release ⟨σ,H3,I3,q3⟩
def EV (te:TE)(g:TG):TS:=λD σ H=>te σ H λx H1=>g x σ H1 D.nx
theorem jy {tg e:Expr}{te:TE}{g:TG}(he:PE X e te)(hg:PG X tg g)(hs:Uw [tg] e pos.line X.env=pure false:=by rfl)(hw:Ux [tg] e X.env=pure none:=by rfl)
  (h1:(R_ [tg] X.env).map (·.2)=[assign tg X.env]:=by rfl):PS X (.Assign [tg] e pos) (EV te g):=by
 intro pins s σ H D I h;refine wpAny_Assign_stores (bQ (he pins s σ H _ I h) λv s1 ⟨x,H1,I1,r1,q1⟩=>?_) hs hw;rw[h1];exact bQ (hg pins s1 σ H1 x v _ I1 r1 q1) λ_ s2 q=>q
theorem gW {i:Nat}{x:Str}{e:Expr}{te:TE}{pos':Pos}(hN:X.N.Nodup)(hi:X.N[i]?=some x)(hx:Loc X.env.scope x)(he:PE X e te)(hs:RN e (some (.Name x pos')) pos.line X.env=pure false:=by rfl)(hf:X.fn x=true\/X.env.scope.names.lookup x=some .local:=by first|exact .inl rfl|exact .inr rfl|assumption):
  PS X (.Assign [.Name x pos'] e pos) (EV te (AI i)):=by
 intro pins s σ H D I h;refine wpAny_Assign_Name (bQ (he pins s σ H _ I h) λv s1 ⟨y,H1,I1,r1,q1⟩=>?_) hs;exact nB I1 hN hi hx r1 (λs2 I2=>⟨_,H1,I2,q1⟩) hf
end
section
end
structure It where
 go:Nat->Hp->Prop
 EF:Nat->Hp->V->Hp->Prop
 stop:Nat->Hp->Prop
def dw (X:Cx)(pins:List (Addr×Obj))(H:Hp)(b:Addr):Prop :=
 H b=none/\b≠X.env.locals/\b∉X.fs/\(b∈X.ex\/X.s₀.heap.objs.size<=b)/\(∀x c,X.env.cells.lookup x=some c->c≠b)/\∀p∈X.pn++pins,p.1≠b
theorem Inv.qu {X:Cx}{pins:List (Addr×Obj)}{σ:St}{H H':Hp}{s:Qb}{b:Addr}(I:Inv X pins σ H s)(hb:s.heap.objs.size<=b)(hn:H' b=none):dw X pins H' b:=by
 refine⟨hn,Nat.ne_of_gt (QA I.lt hb),I.Ju hb,.inr (Q6 I.sz hb),λx c e z=>?_,λp hp z=>?_⟩
 ·obtain⟨v,q⟩:=I.cell x c e;exact absurd (QA q.lt (by rw[z];exact hb)) (S4 _)
 ·exact absurd (QA (Qs (I.pin p hp).1) (by rw[z];exact hb)) (S4 _)
structure Turn (P:Qd)(w:Qq)(K:PySem.W.Frag)(tg:Expr)(J:It)(fp:List Addr)(it:Addr)(tn:Nat->Heap->Prop):Prop where
 mem:it∈fp
 obj:∀i h,tn i h->∀b∈fp,∃o,h.get? b=some o/\∀v,o.data≠.cell v
 keep:∀i h h',tn i h->(∀b∈fp,∀o,h.get? b=some o->h'.get? b=some o)->tn i h'
 item:∀(X:Cx),X.prog=P->X.w=w->X.K=K->X.calm=true->∀(i:Nat) (pins:List (Addr×Obj)) (s:Qb) (σ:St) (H:Hp) (E:P_->Qb->Prop),Inv X pins σ H s->(∀b∈fp,dw X pins H b)->tn i s.heap->J.go i H ->
  QE (model P w) X.A (T4 (.ref it)) (λr s1=>∃u,r=some u /\
   QE (model P w) X.A (T_ tg (.ref it) u) (λ_ s2=>∃x H',Inv X pins σ H' s2/\RelV x u/\J.EF i H x H'/\tn (i+1) s2.heap/\∀b∈fp,H' b=none) E s1) E s
 done:∀(X:Cx),X.prog=P->X.w=w->X.K=K->X.calm=true->∀(i:Nat) (pins:List (Addr×Obj)) (s:Qb) (σ:St) (H:Hp) (E:P_->Qb->Prop),Inv X pins σ H s->(∀b∈fp,dw X pins H b)->tn i s.heap->J.stop i H ->
  QE (model P w) X.A (T4 (.ref it)) (λr s1=>r=none/\Inv X pins σ H s1) E s
 self:∀(A:Rj) (i:Nat) (s:Qb) (Q:P_->Qb->Prop) (E:P_->Qb->Prop),tn i s.heap->Q (.ref it) s->QE (model P w) A (UA (.ref it)) Q E s
abbrev TI:=St->Hp->(It->Hp->Prop)->Prop
def DX (X:Cx)(pins:List (Addr×Obj))(σ:St)(tg:Expr)(R:It->Hp->Prop)(uH:P_)(s2:Qb):Prop :=
 ∃(it:Addr) (fp:List Addr) (tn:Nat->Heap->Prop) (J:It) (H':Hp),uH=.ref it/\Inv X pins σ H' s2/\Turn X.prog X.w X.K tg J fp it tn/\tn 0 s2.heap/\(∀b∈fp,dw X pins H' b)/\R J H'
def PI (X:Cx)(tg iter:Expr)(wi:TI):Prop :=
 ∀(pins:List (Addr×Obj)) (s:Qb) (σ:St) (H:Hp) (R:It->Hp->Prop),Inv X pins σ H s->wi σ H R ->
  QE (model X.prog X.w) X.A (eval iter X.env) (λv s1=>QE (model X.prog X.w) X.A (UA v) (DX X pins σ tg R) X.xe s1) X.xe s
theorem wR {M:Model}{A:Rj}{E:P_->Qb->Prop}{s:Qb}{tg:Expr}{it:Addr}{u:P_}{o:Obj}{n:String}{vs:Array P_}{Q:Unit->Qb->Prop}(ho:s.heap.get? it=some o)(hc:o.cls=.type n)(hd:o.data=.fields vs)
  (hn:["enumerate","zip","dict_itemiterator","dict_reverseitemiterator","odict_iterator","itertools.zip_longest","itertools.pairwise"].contains n=false) (hQ:Q () s):QE M A (T_ tg (.ref it) u) Q E s:=by
 unfold T_;cases tg <;> first
  |exact Qn hQ
  | (cases u <;> first
    |exact Qn hQ
    | (refine P9 (wpAny_load ho ?_)
       rw[hc,hd];show QE M A (if (["enumerate","zip","dict_itemiterator","dict_reverseitemiterator","odict_iterator","itertools.zip_longest","itertools.pairwise"].contains n&&vs[0]?==some (Uk _))=true then _ else _) Q E s
       rw[if_neg (by intro h;rw[hn,Bool.false_and]at h;cases h)]
       exact Qn hQ))
def Iz (K:PySem.W.Frag)(a:Addr):It :=
 ⟨λi H=>∃xs x,c6 K H a xs/\xs[i]?=some x,λi H x H'=>H'=H/\∀xs,c6 K H a xs->xs[i]?=some x,λi H=>∃xs,c6 K H a xs/\xs.length<=i⟩
def HE (lo:Int)(n:Nat):It:=⟨λi _=>i<n,λi H x H'=>H'=H/\x=.int (lo+i),λi _=>n<=i⟩
theorem sH {P:Qd}{w:Qq}{K:PySem.W.Frag}{tg:Expr}(a it:Addr):Turn P w K tg (Iz K a) [it] it (λi h=>h.IsListIter it a i) where
 mem:=by simp
 obj:=λi h st b hb=>by
  have e:b=it:=by simpa using hb
  subst e;obtain⟨o,e,c,d⟩:=st;exact⟨o,e,λv z=>by rw[d]at z;cases z⟩
 keep:=λi h h' st k=>st.at λo e=>k it (by simp) o e
 item:=by
  intro X hP hw hK hc i pins s σ H E I hf st hg;subst hP hw hK;obtain⟨xs,x,hq,hx⟩:=hg;obtain⟨its,rv,p,hz⟩:=I.list hq;obtain⟨u,hu,ru⟩:=rv.get hx;obtain⟨f0,f1,f2,f3,f4,f5⟩:=hf it (by simp)
  refine wpAny_pyNext_list_item st p.isList (x:=u) (by simpa using hu) λh' aB sb=>?_
  have I1:Inv X pins σ H {s with heap:=h'}:=I.turned (t':=s.toks) (λb o hb e=>(sb.2 b hb).trans e) f0 f1 f3 f4 f5
  obtain⟨o,e,c,d⟩:=id aB;exact⟨u,rfl,wR (s:={s with heap:=h'}) e c d (by decide) ⟨x,H,I1,ru,⟨rfl,λys hy=>by rw[I.v_ hy hq];exact hx⟩,aB,λb hb=>(hf b hb).1⟩⟩
 done:=by
  intro X hP hw hK hc i pins s σ H E I hf st hg;subst hP hw hK;obtain⟨xs,hq,hx⟩:=hg;obtain⟨its,rv,p,hz⟩:=I.list hq;obtain⟨f0,f1,f2,f3,f4,f5⟩:=hf it (by simp)
  have hl:=rv.length;exact wpAny_pyNext_list_end (I.ok.hd hc) st p.isList (by simp;lia) λh' eb=>⟨rfl,I.turned (t':=s.toks) (λb o hb e=>eb b o hb e) f0 f1 f3 f4 f5⟩
 self:=λ_ _ _ _ _ st h=>wpAny_pyIter_listiter st h
theorem pS {P:Qd}{w:Qq}{K:PySem.W.Frag}{tg:Expr}(it:Addr)(lo:Int)(n:Nat):Turn P w K tg (HE lo n) [it] it (λi h=>UX h it (lo+(i:Nat)*1) ((n:Int)-(i:Nat)) 1) where
 mem:=by simp
 obj:=λi h st b hb=>by
  have e:b=it:=by simpa using hb
  subst e;exact⟨_,st,λv z=>by
   have z':Data.fields _=US v:=z;cases z'⟩
 keep:=λi h h' st k=>k it (by simp) _ st
 item:=by
  intro X hP hw hK hc i pins s σ H E I hf st hg;subst hP hw hK;obtain⟨f0,f1,f2,f3,f4,f5⟩:=hf it (by simp)
  have W:=Walks.range (prog:=X.prog) (w:=X.w) (I.ok.hd hc) it lo 1 n;refine W.item i s _ _ hg st λv h' tk hv aB kk=>?_;obtain⟨t,rfl⟩:=hv;have I1:Inv X pins σ H {s with heap:=h',toks:=tk}:=I.turned (λb o hb e=>kk b o (by simpa using hb) e) f0 f1 f3 f4 f5
  refine⟨_,rfl,wR (s:={s with heap:=h',toks:=tk}) (n:="range_iterator") aB rfl rfl (by decide) ⟨.int (lo+i),H,I1,⟨t,?_⟩,⟨rfl,rfl⟩,aB,λb hb=>(hf b hb).1⟩⟩
  rw[Int.mul_one]
 done:=by
  intro X hP hw hK hc i pins s σ H E I hf st hg;subst hP hw hK;obtain⟨f0,f1,f2,f3,f4,f5⟩:=hf it (by simp)
  exact wpAny_pyNext_range_end (I.ok.hd hc) st (by have:n<=i:=hg;lia) λh' eb=>⟨rfl,I.turned (t':=s.toks) (λb o hb e=>eb b o hb e) f0 f1 f3 f4 f5⟩
 self:=λ_ _ _ _ _ st h=>wpAny_pyIter_rangeiter st h
section
variable {X:Cx}{tg:Expr}
def FZ (K:PySem.W.Frag)(tl:TE):TI:=λσ H R=>tl σ H λx H1=>∃a,x=.ref a/\(∃xs,c6 K H1 a xs)/\R (Iz K a) H1
theorem mw {l:Expr}{tl:TE}(hl:PE X l tl):PI X tg l (FZ X.K tl):=by
 intro pins s σ H R I h;refine bQ (hl pins s σ H _ I h) λv s1 ⟨x,H1,I1,r1,q1⟩=>?_;obtain⟨a,e,⟨xs,hq⟩,q⟩:=q1;subst e;cases r1;obtain⟨its,rv,p,hz⟩:=I1.list hq;refine wpAny_pyIter_list p.isList ?_;refine⟨s1.heap.objs.size,[s1.heap.objs.size],_,_,H1,rfl,I1.kept (t':=s1.toks) λb o e=>Qi _ e,sH a _,⟨_,QC _ rfl,rfl,rfl⟩,λb hb=>?_,q⟩;have e:b=s1.heap.objs.size:=by simpa using hb
 subst e;exact I1.qu (Qf _) (I1.bz.fresh (Qf _))
theorem nJ {pins:List (Addr×Obj)}{σ:St}{H:Hp}{s:Qb}{R:It->Hp->Prop}{E:P_->Qb->Prop}{lo hi:Int}{t u v:Tok}{tk:Nat}(I:Inv X pins σ H s)(h1:-(2 ^ 62)<=lo)(h2:lo<2 ^ 62)(h3:-(2 ^ 62)<=hi)(h4:hi<2 ^ 62)
  (q:R (HE lo (hi-lo).toNat) H):QE (model X.prog X.w) X.A (UA (.ref s.heap.objs.size)) (DX X pins σ tg R) E {s with heap:=s.heap.push {cls:=.type "range",data:=.fields #[.int lo t,.int hi u,.int 1 v]},toks:=tk}:=by
 refine wpAny_pyIter_range (IsRange.new ..) (small_one h1 h2 h3 h4) ?_;have I1:Inv X pins σ H {s with heap:=s.heap.push {cls:=.type "range",data:=.fields #[.int lo t,.int hi u,.int 1 v]},toks:=tk}:=I.kept λb o e=>Qi _ e
 refine⟨(s.heap.push {cls:=.type "range",data:=.fields #[.int lo t,.int hi u,.int 1 v]}).objs.size,[(s.heap.push {cls:=.type "range",data:=.fields #[.int lo t,.int hi u,.int 1 v]}).objs.size],_,_,H,rfl,
  I1.kept (t':=tk) λb o e=>Qi _ e,pS _ lo (hi-lo).toNat,?_,λb hb=>?_,q⟩
 ·have e1:lo+((0:Nat):Int)*1=lo:=by simp
  have e2:(((hi-lo).toNat:Nat):Int)-((0:Nat):Int)=Sl lo hi 1:=by rw[rangeSize_one];split <;> lia
  show UX _ _ (lo+((0:Nat):Int)*1) ((((hi-lo).toNat:Nat):Int)-((0:Nat):Int)) 1;rw[e1,e2];exact QC _ rfl
 ·have e:b=(s.heap.push {cls:=.type "range",data:=.fields #[.int lo t,.int hi u,.int 1 v]}).objs.size:=by simpa using hb
  subst e;exact I1.qu (Qf _) (I1.bz.fresh (Qf _))
def FY (ta:TA):TI:=λσ H R=>ta σ H λvs H1=>∃j:Int,vs=[.int j]/\-(2 ^ 62)<=j/\j<2 ^ 62/\R (HE 0 j.toNat) H1
def FX (ta:TA):TI:=λσ H R=>ta σ H λvs H1=>∃i j:Int,vs=[.int i,.int j]/\(-(2 ^ 62)<=i/\i<2 ^ 62/\-(2 ^ 62)<=j/\j<2 ^ 62)/\R (HE i (j-i).toNat) H1
theorem sZ {a:Expr} {ta:TA} {p pos:Pos} (hg:Gl X "range") (hm:X.mg "range" = none) (ha:PA X [a] ta) (hs:Qt [a] X.env=[(false,eval a X.env)]:=by rfl):PI X tg (.Call (.Name "range" p) [a] [] pos) (FY ta):=by
 intro pins s σ H R I h;refine Call_ (dS I hg hm U_ (Ri (bQ (ha pos pins s σ H _ I h) λus s1 ⟨vs,H1,I1,r1,q1⟩=>?_) hs rfl));obtain⟨j,e,q1,q2,q⟩:=q1;subst e;cases r1 with
 |cons r rr =>
  cases rr;obtain⟨t,rfl⟩:=r;exact call_range_1 (nJ I1 (by lia) (by lia) q1 q2 (by simpa using q))
theorem ll {a b:Expr} {ta:TA} {p pos:Pos} (hg:Gl X "range") (hm:X.mg "range" = none) (ha:PA X [a,b] ta) (hs:Qt [a,b] X.env=[(false,eval a X.env),(false,eval b X.env)]:=by rfl) (h9:Qt [b] X.env=[(false,eval b X.env)]:=by rfl) :
  PI X tg (.Call (.Name "range" p) [a,b] [] pos) (FX ta):=by
 intro pins s σ H R I h;refine Call_ (dS I hg hm U_ (Ri (bQ (ha pos pins s σ H _ I h) λus s1 ⟨vs,H1,I1,r1,q1⟩=>?_) (by rw[hs,h9]) (by rw[h9];rfl)))
 obtain⟨i,j,e,⟨q1,q2,q3,q4⟩,q⟩:=q1;subst e;cases r1 with
 |cons r rr =>
  cases rr with
  |cons r' rr =>
   cases rr;obtain⟨t,rfl⟩:=r;obtain⟨t',rfl⟩:=r';exact call_range_2 (nJ I1 q1 q2 q3 q4 q)
def IP (wi:TI)(g:TG)(tb:TS):TS:=λD σ H=>wi σ H λJ H1=>∃W:Nat->Nat->St->Hp->Prop,(∃m,W 0 m σ H1)/\∀i m σ H,W i m σ H ->
 (J.stop i H/\D.nx σ H)\/(J.go i H/\∃N:St->Hp->Prop,(∀σ' H',N σ' H'->∃m',m'<m/\W (i+1) m' σ' H')/\∀x H',J.EF i H x H'->g x σ H' λσ2 H2=>tb {D with nx:=N,ct:=N,bk:=D.nx} σ2 H2)
def jA (fp:List Addr)(h:Heap):List (Addr×Obj):=fp.filterMap λb=>(h.get? b).map λo=>(b,o)
theorem eJ {fp:List Addr}{h:Heap}{b:Addr}{o:Obj}(hb:b∈fp)(e:h.get? b=some o):(b,o)∈jA fp h:=List.mem_filterMap.mpr ⟨b,hb,by rw[e];rfl⟩
theorem tq {fp:List Addr}{h:Heap}{p:Addr×Obj}(hp:p∈jA fp h):p.1∈fp/\h.get? p.1=some p.2:=by
 obtain⟨b,hb,e⟩:=List.mem_filterMap.mp hp;cases q:h.get? b with
 |none=>rw[q]at e;cases e
 |some o =>
  rw[q]at e;have e':(b,o)=p:=Q3 e;subst e';exact⟨hb,q⟩
theorem Inv.pinned {pins:List (Addr×Obj)}{σ:St}{H:Hp}{s:Qb}{fp:List Addr}(I:Inv X pins σ H s)(hf:∀b∈fp,dw X pins H b)(ho:∀b∈fp,∃o,s.heap.get? b=some o/\∀v,o.data≠.cell v):Inv X (pins++jA fp s.heap) σ H s :=
 I.rj λp hp=>(Qr.mp hp).elim (λz=>I.pin p (QV _ z)) λz=>by
  obtain⟨hb,e⟩:=tq z;obtain⟨f0,f1,f2,_⟩:=hf p.1 hb;obtain⟨o,e',d⟩:=ho p.1 hb;rw[e]at e';cases e';exact⟨e,f0,f1,f2,d⟩
theorem Inv.gd {pins pl:List (Addr×Obj)}{σ:St}{H:Hp}{s:Qb}(I:Inv X (pins++pl) σ H s):Inv X pins σ H s:=I.rj λp hp=>I.pin p (QV _ (RL _ hp))
theorem vB {iter:Expr}{body:List Stmt}{wi:TI}{g:TG}{tb:TS}{pos:Pos}(hp:PassesOwn (model X.prog X.w) X.A X.env X.xe)(hc:X.calm=true)(hi:PI X tg iter wi)(hg:PG X tg g)(hb:pG X body tb)
  (hs:∀x,QX iter X.env x=pure x:=by intro _;rfl):PS X (.For tg iter body [] pos) (IP wi g tb):=by
 intro pins s σ H D I h;refine wpAny_For (bQ (hi pins s σ H _ I h) λv s1 h1=>bQ h1 λuH s2 h2=>?_) hs;obtain⟨it,fp,tn,J,H2,e,I2,T,dW,f2,W,⟨m0,w0⟩,turn⟩:=h2;subst e;have pU:∀{H':Hp},(∀b∈fp,H' b=none)->∀b∈fp,dw X pins H' b:=λhn b hb=>⟨hn b hb,(f2 b hb).2⟩;refine codeAny_forLoop_any (λn s'=>∃i σ' H',Inv X pins σ' H' s'/\tn i s'.heap/\(∀b∈fp,H' b=none)/\W i n σ' H') ?_ m0 ⟨0,σ,H2,I2,dW,λb hb=>(f2 b hb).1,w0⟩;rintro n s3 ⟨i,σ3,H3,I3,jl,G9,w3⟩;rcases turn i n σ3 H3 w3 with⟨stop,qn⟩|⟨go,N,hN,step⟩
 ·refine Tr hp (bQ (T.done X rfl rfl rfl hc i pins s3 σ3 H3 X.xe I3 (pU G9) jl stop) λr s4 ⟨hr,I4⟩=>?_);subst hr;exact UZ ⟨σ3,H3,I4,qn⟩
 ·refine Tr hp (bQ (T.item X rfl rfl rfl hc i pins s3 σ3 H3 X.xe I3 (pU G9) jl go) λr s4 ⟨u,hr,h4⟩=>?_);subst hr;refine Tr hp (bQ h4 λ_ s5 ⟨x,H5,I5,r5,y5,Bu,K2⟩=>?_);have Ln:=I5.pinned (pU K2) (T.obj _ _ Bu);refine Tr hp (bQ (hg _ s5 σ3 H5 x u _ Ln r5 (step x H5 y5)) λ_ s6 ⟨σ6,H6,I6,q6⟩=>?_);refine Tr hp (bQ (hb _ s6 σ6 H6 _ I6 q6) λf s7 q7=>?_);have again:∀{σ7:St} {H7:Hp},Inv X (pins++jA fp s5.heap) σ7 H7 s7->N σ7 H7->∃m,m<n/\∃i σ' H',Inv X pins σ' H' s7/\tn i s7.heap/\(∀b∈fp,H' b=none)/\W i m σ' H':=λ{σ7 H7} I7 n7=>by
   obtain⟨m',hm,w7⟩:=hN σ7 H7 n7;refine⟨m',hm,i+1,σ7,H7,I7.gd,T.keep _ _ _ Bu λb hb o e=>(I7.pin (b,o) (QV _ (QV _ (eJ hb e)))).1,λb hb=>?_,w7⟩;obtain⟨o,e,d⟩:=T.obj _ _ Bu b hb;exact(I7.pin (b,o) (QV _ (QV _ (eJ hb e)))).2.1
  cases f with
  |next=>obtain⟨σ7,H7,I7,n7⟩:=q7;exact again I7 n7
  |cont=>obtain⟨σ7,H7,I7,n7⟩:=q7;exact again I7 n7
  |brk=>obtain⟨σ7,H7,I7,q7⟩:=q7;exact⟨σ7,H7,I7.gd,q7⟩
  |ret v=>obtain⟨x7,σ7,H7,I7,r7,q7⟩:=q7;exact⟨x7,σ7,H7,I7.gd,r7,q7⟩
end
abbrev R2:=V->V->Hp->VK->Prop
def j_ (X:Cx)(f:P_->P_->Sem P_)(r:R2):Prop :=
 ∀(pins:List (Addr×Obj)) (s:Qb) (σ:St) (H:Hp) (x y:V) (v u:P_) (Q:VK),Inv X pins σ H s->RelV x v->RelV y u->r x y H Q ->
  QE (model X.prog X.w) X.A (f v u) (EP X pins σ Q) X.xe s
def Hv (X:Cx)(f:P_->Sem P_)(r:V->Hp->VK->Prop):Prop :=
 ∀(pins:List (Addr×Obj)) (s:Qb) (σ:St) (H:Hp) (x:V) (v:P_) (Q:VK),Inv X pins σ H s->RelV x v->r x H Q ->
  QE (model X.prog X.w) X.A (f v) (EP X pins σ Q) X.xe s
def eU (X:Cx)(f:P_)(r:List V->Hp->VK->Prop):Prop :=
 ∀(pins:List (Addr×Obj)) (s:Qb) (σ:St) (H:Hp) (xs:List V) (us:List P_) (Q:VK),Inv X pins σ H s->Vals xs us->r xs H Q ->
  QE (model X.prog X.w) X.A (call f us) (EP X pins σ Q) X.xe s
def EN (r:R2)(ta tb:TE):TE:=λσ H Q=>ta σ H λx H1=>tb σ H1 λy H2=>r x y H2 Q
def M1 (r:V->Hp->VK->Prop)(ta:TE):TE:=λσ H Q=>ta σ H λx H1=>r x H1 Q
def rI (C:Int->Int->Prop)(g:Int->Int->V):R2:=λx y H Q=>∃i j,x=.int i/\y=.int j/\C i j/\Q (g i j) H
def Ai (g:Int->Int->V):R2:=λx y H Q=>∃i j,x=.int i/\y=.int j/\Q (g i j) H
def rU (g:Int->V):V->Hp->VK->Prop:=λx H Q=>∃i,x=.int i/\Q (g i) H
section
variable {X:Cx}{a b:Expr}{ta tb:TE}{pos:Pos}
theorem DM (ha:PE X a ta)(hb:PE X b tb){pins:List (Addr×Obj)}{s:Qb}{σ:St}{H:Hp}{R:V->V->Hp->Prop}(I:Inv X pins σ H s)
  (h:ta σ H λx H1=>tb σ H1 λy H2=>R x y H2) {Q:P_->Qb->Prop} {f:P_->P_->Sem P_}
  (hf:∀v u s2 x y H2,Inv X pins σ H2 s2->RelV x v->RelV y u->R x y H2->QE (model X.prog X.w) X.A (f v u) Q X.xe s2) :
  QE (model X.prog X.w) X.A (eval a X.env) (λv s₁=>QE (model X.prog X.w) X.A (eval b X.env) (λu s₂=>QE (model X.prog X.w) X.A (f v u) Q X.xe s₂) X.xe s₁) X.xe s:=by
 refine bQ (ha pins s σ H _ I h) λv s1 ⟨x,H1,I1,r1,q1⟩=>?_;refine bQ (hb pins s1 σ H1 _ I1 q1) λu s2 ⟨y,H2,I2,r2,q2⟩=>?_;exact hf v u s2 x y H2 I2 r1 r2 q2
theorem cg {op:Operator}{r:R2}(ho:j_ X (RF op) r)(ha:PE X a ta)(hb:PE X b tb):PE X (.BinOp a op b pos) (EN r ta tb):=by
 intro pins s σ H Q I h;exact wpAny_BinOp (DM ha hb I h λv u s2 x y H2 I2 rx ry q=>ho pins s2 σ H2 x y v u Q I2 rx ry q)
theorem Fi {op:UnaryOp}{r:V->Hp->VK->Prop}(ho:Hv X (unaryOp op) r)(ha:PE X a ta):PE X (.UnaryOp op a pos) (M1 r ta):=by
 intro pins s σ H Q I h;exact UnaryOp_ (bQ (ha pins s σ H _ I h) λv s1 J3=>by obtain⟨x,H1,I1,r1,q1⟩:=J3;exact ho pins s1 σ H1 x v Q I1 r1 q1)
theorem Fn {f:P_->P_->Sem P_}{C:Int->Int->Prop}{g:Int->Int->Int}
  (rule:∀(i j:Int) (t u:Tok) (s:Qb) (Q:P_->Qb->Prop) (E:P_->Qb->Prop),C i j->Q (.int (g i j) s.toks) {s with toks:=s.toks+1}->QE (model X.prog X.w) X.A (f (.int i t) (.int j u)) Q E s) :
  j_ X f (rI C λi j=>.int (g i j)):=by
 intro pins s σ H x y v u Q I rx ry h;obtain⟨i,j,rfl,rfl,hc,q⟩:=h;obtain⟨t,rfl⟩:=rx;obtain⟨t',rfl⟩:=ry;exact rule i j t t' s _ _ hc ⟨.int (g i j),H,I.tok _,⟨_,rfl⟩,q⟩
theorem Fm {f:P_->P_->Sem P_}{g:Int->Int->Int}
  (rule:∀(i j:Int) (t u:Tok) (s:Qb) (Q:P_->Qb->Prop) (E:P_->Qb->Prop),Q (.int (g i j) s.toks) {s with toks:=s.toks+1}->QE (model X.prog X.w) X.A (f (.int i t) (.int j u)) Q E s) :
  j_ X f (Ai λi j=>.int (g i j)):=by
 intro pins s σ H x y v u Q I rx ry h;obtain⟨i,j,rfl,rfl,q⟩:=h;obtain⟨t,rfl⟩:=rx;obtain⟨t',rfl⟩:=ry;exact rule i j t t' s _ _ ⟨.int (g i j),H,I.tok _,⟨_,rfl⟩,q⟩
theorem Fo {f:P_->P_->Sem P_}{g:Int->Int->Bool}
  (rule:∀(i j:Int) (t u:Tok) (s:Qb) (Q:P_->Qb->Prop) (E:P_->Qb->Prop),Q (.bool (g i j)) s->QE (model X.prog X.w) X.A (f (.int i t) (.int j u)) Q E s) :
  j_ X f (Ai λi j=>.bl (g i j)):=by
 intro pins s σ H x y v u Q I rx ry h;obtain⟨i,j,rfl,rfl,q⟩:=h;obtain⟨t,rfl⟩:=rx;obtain⟨t',rfl⟩:=ry;exact rule i j t t' s _ _ ⟨.bl (g i j),H,I,rfl,q⟩
def kT (i j:Int):Prop:=0<=j/\j<=1000000/\i.natAbs<2 ^ 64
def kU (i j:Int):Prop:=(-(2 ^ 64)<i/\i<2 ^ 64)\/(-(2 ^ 64)<j/\j<2 ^ 64)
theorem kU.ok {i j:Int}(h:kU i j):IntMulOk i j:=by
 rcases h with⟨h1,h2⟩|⟨h1,h2⟩
 ·exact .of_left (intBits_le_64 h1 h2)
 ·exact .of_right (intBits_le_64 h1 h2)
theorem mG:j_ X (RF .Add) (Ai λi j=>.int (i+j)):=Fm λ_ _ _ _ _ _ _ q=>add_int q
theorem vN:j_ X (RF .Sub) (Ai λi j=>.int (i-j)):=Fm λ_ _ _ _ _ _ _ q=>sub_int q
theorem gZ:j_ X (RF .Mult) (rI kU λi j=>.int (i*j)):=Fn λ_ _ _ _ _ _ _ hc q=>mul_int q hc.ok
theorem fe:j_ X (RF .Mod) (rI (λ_ j=>0<j) λi j=>.int (i % j)):=Fn λi j _ _ _ _ _ hc q=>by
 have h1:(0:Int)<j:=hc;exact mod_int' (by lia) (by rw[Int.fmod_eq_emod_of_nonneg i (by lia)];exact q)
theorem vO:j_ X (RF .Pow) (rI kT λi j=>.int (i ^ j.toNat)):=Fn λ_ _ _ _ _ _ _ hc q=>pow_int_small hc.1 hc.2.1 hc.2.2 q
theorem BX:j_ X (RF .LShift) (rI kT λi j=>.int (i*2 ^ j.toNat)):=Fn λ_ _ _ _ _ _ _ hc q=>lshift_int_small hc.1 hc.2.1 hc.2.2 q
theorem M0 {f:P_->Sem P_}{g:Int->Int}
  (rule:∀(i:Int) (t:Tok) (s:Qb) (Q:P_->Qb->Prop) (E:P_->Qb->Prop),Q (.int (g i) s.toks) {s with toks:=s.toks+1}->QE (model X.prog X.w) X.A (f (.int i t)) Q E s) :
  Hv X f (rU λi=>.int (g i)):=by
 intro pins s σ H x v Q I rx h;obtain⟨i,rfl,q⟩:=h;obtain⟨t,rfl⟩:=rx;exact rule i t s _ _ ⟨.int (g i),H,I.tok _,⟨_,rfl⟩,q⟩
theorem Bj:Hv X (unaryOp .USub) (rU λi=>.int (-i)):=M0 λ_ _ _ _ _ q=>neg_int q
end
section
variable {X:Cx}{a b c:Expr}{ta tb:TE}{pos:Pos}
theorem An:j_ X (SU .Lt) (Ai λi j=>.bl (decide (i<j))):=Fo λ_ _ _ _ _ _ _ q=>lt_int q
theorem Ao:j_ X (SU .Gt) (Ai λi j=>.bl (decide (j<i))):=Fo λ_ _ _ _ _ _ _ q=>gt_int q
theorem vX (b:Expr){op:CmpOp}(h:op≠.In:=by decide)(h2:op≠.NotIn:=by decide):SD op b=false:=by
 have e1:(op==CmpOp.In)=false:=by cases op <;> first|rfl|exact absurd rfl h
 have e2:(op==CmpOp.NotIn)=false:=by cases op <;> first|rfl|exact absurd rfl h2
 cases b <;> simp[SD,e1,e2]
theorem yD {op:CmpOp}{r:R2}(ho:j_ X (SU op) r)(ha:PE X a ta)(hb:PE X b tb)(hm:SD op b=false):PE X (.Compare a [op] [b] pos) (EN r ta tb):=by
 intro pins s σ H Q I h;exact wpAny_Compare1 (DM ha hb I h λv u s2 x y H2 I2 rx ry q=>ho pins s2 σ H2 x y v u Q I2 rx ry q) hm
def EL (t:TE):TT:=λσ H Q=>t σ H λx H'=>∃k,x=.bl k/\Q k H'
theorem mh {op:CmpOp}{r:R2}(ho:j_ X (SU op) r)(ha:PE X a ta)(hb:PE X b tb)(hm:SD op b=false):PT X (.Compare a [op] [b] pos) (EL (EN r ta tb)):=by
 intro pins s σ H Q I h;refine wpAny_isTrue_Compare1 (bQ (ha pins s σ H _ I h) λv s1 ⟨x,H1,I1,r1,q1⟩=>bQ (hb pins s1 σ H1 _ I1 q1) λu s2 ⟨y,H2,I2,r2,q2⟩ =>
  bQ (ho pins s2 σ H2 x y v u _ I2 r1 r2 q2) λc s3 ⟨z,H3,I3,r3,k,e,q3⟩=>?_) hm
 subst e;cases r3;exact UE ⟨H3,I3,q3⟩
theorem mN:(Qp:Nat)<2 ^ 63:=by rw[RU];decide
theorem vals1 {x:V}{us:List P_}(r:Vals [x] us):∃u,us=[u]/\RelV x u:=by
 cases r with
 |cons r1 r2=>cases r2;exact⟨_,rfl,r1⟩
theorem vals2 {x y:V}{us:List P_}(r:Vals [x,y] us):∃u w',us=[u,w']/\RelV x u/\RelV y w':=by
 cases r with
 |cons r1 r2 =>
  cases r2 with
  |cons r3 r4=>cases r4;exact⟨_,_,rfl,r1,r3⟩
theorem xt:eU X (.builtin "abs") (λxs H Q=>∃i,xs=[.int i]/\Q (.int (if i<0 then -i else i)) H):=by
 intro pins s σ H xs us Q I r h;obtain⟨i,rfl,q⟩:=h;obtain⟨u,rfl,t,rfl⟩:=vals1 r;exact call_abs_int λu tk=>⟨.int (if i<0 then -i else i),H,I.tok _,⟨_,rfl⟩,q⟩
theorem lL (hc:X.calm=true):eU X (.builtin "max") (λxs H Q=>∃i j,xs=[.int i,.int j]/\Q (.int (if j>i then j else i)) H):=by
 intro pins s σ H xs us Q I r h;obtain⟨i,j,rfl,q⟩:=h;obtain⟨u,w',rfl,⟨t,rfl⟩,⟨t',rfl⟩⟩:=vals2 r;refine max_two_ints (I.ok.hd hc) λh' tk k=>⟨_,H,I.kept k,?_,q⟩
 by_cases hj:j>i
 ·rw[if_pos hj,if_pos hj];exact⟨_,rfl⟩
 ·rw[if_neg hj,if_neg hj];exact⟨_,rfl⟩
theorem um (hc:X.calm=true):eU X (.builtin "min") (λxs H Q=>∃i j,xs=[.int i,.int j]/\Q (.int (if j<i then j else i)) H):=by
 intro pins s σ H xs us Q I r h;obtain⟨i,j,rfl,q⟩:=h;obtain⟨u,w',rfl,⟨t,rfl⟩,⟨t',rfl⟩⟩:=vals2 r;refine min_two_ints (I.ok.hd hc) λh' tk k=>⟨_,H,I.kept k,?_,q⟩
 by_cases hj:j<i
 ·rw[if_pos hj,if_pos hj];exact⟨_,rfl⟩
 ·rw[if_neg hj,if_neg hj];exact⟨_,rfl⟩
theorem lM:eU X (.type "int") (λxs H Q=>(∃i,xs=[.int i]/\Q (.int i) H)\/∃k,xs=[.bl k]/\Q (.int (if k then 1 else 0)) H):=by
 intro pins s σ H xs us Q I r h;rcases h with⟨i,rfl,q⟩|⟨k,rfl,q⟩
 ·obtain⟨u,rfl,t,rfl⟩:=vals1 r;exact call_int_int ⟨.int i,H,I,⟨_,rfl⟩,q⟩
 ·obtain⟨u,rfl,r1⟩:=vals1 r;cases r1;exact call_int_bool ⟨.int (if k then 1 else 0),H,I.tok _,⟨_,rfl⟩,q⟩
end
structure DZ (h:Heap)(x dx C:Addr)(mA:Str->Option P_):Prop where
 obj:h.get? x=some (PySem.W.instObj C dx)
 ns:h.Ns1 dx mA
 ne:dx≠x
theorem tO {h:Heap}{dx:Addr}{mA:Str->Option P_}(n:h.Ns1 dx mA):∃od,h.get? dx=some od/\∀name,PySem.W.lookIn name od=some (mA name):=by
 obtain⟨o,es,ep,ho,hd,hk,_,hm⟩:=n;refine⟨o,ho,λname=>?_⟩;have e:=hm name;unfold nsFind findBy at e;rw[<- Array.find?_toList]at e;unfold PySem.W.lookIn;rw[hd];dsimp only
 split
 ·rename_i y q
  rw[q]at e;exact congrArg some e
 ·rename_i q
  rw[q]at e;have a:es.toList.any (·.refKey)=false:=by
   rw[TH];intro y hy;obtain⟨z,t,Ky⟩:=hk y (Array.mem_toList_iff.mp hy);simp[DictEntry.refKey,Ky]
  have a':¬ es.toList.any (·.refKey)=true:=by rw[a];exact Sv
  rw[if_neg a'];exact congrArg some e
theorem DZ.look {h:Heap}{x dx C:Addr}{mA:Str->Option P_}(I:DZ h x dx C mA):∃od,PySem.W.InstAt h x (PySem.W.instObj C dx) C (some od)/\∀name,PySem.W.lookIn name od=some (mA name) :=
 let ⟨od,ho,hl⟩:=tO I.ns
 ⟨od,⟨I.obj,rfl,rfl,ho⟩,hl⟩
section
end
theorem j8.some_of {v:V}{o:Option P_}(r:j8 (some v) o):∃u,o=some u/\RelV v u:=by
 cases o with
 |none=>exact(show False from r).elim
 |some u=>exact⟨u,rfl,r⟩
section
variable {P:Qd}{w:Qq}{H:Hp}{h:Heap}{a C dx:Addr}{fs:List (Str×V)}
theorem zm (bz:fY P w H h)(e:H a=some (.ins C dx fs)):∃mA,DZ h a dx C mA/\(∀f,j8 (fs.lookup f) (mA f))/\PySem.Within mA (fs.map (·.1))/\fs.length<=1000/\H dx=some (.own a):=by
 obtain⟨d,z,ne,ob,mA,n,r,q⟩:=(show bA P w H h a (.ins C dx fs) from bz a _ e)
 exact⟨mA,⟨ob,n,ne⟩,r,q,z,d⟩
end
structure Lr (K:PySem.W.Frag)(C:Addr):Prop where
 pg:PySem.W.plainGet K C Str.empty=true
 hd:PySem.W.hasDictIn K C=true
 po:PySem.W.plainOver K C=true
 sa:PySem.W.findIn K (.ref C) "__setattr__" = some (some (.builtin "object.__setattr__"))
theorem Lr.get {K:PySem.W.Frag}{C:Addr}(c:Lr K C)(f:Str):PySem.W.plainGet K C f=true:=c.pg
section
end
section
end
section
variable {X:Cx}{pins:List (Addr×Obj)}{σ:St}{H:Hp}{s:Qb}{A:Rj}{E:P_->Qb->Prop}{Q:P_->Qb->Prop}{c:P_}{b:Bool}
inductive gN (K:PySem.W.Frag) (H:Hp):V->P_->Prop where
 |d7:gN K H .d7 (.type "NoneType")
 |bl (x:Bool):gN K H (.bl x) (.type "bool")
 |int (i:Int):gN K H (.int i) (.type "int")
 |str (x:Str):gN K H (.str x) (.type "str")
 |Es (x:UInt64):gN K H (.Es x) (.type "float")
 |lst {a:Addr} {xs:List V} (e:H a=some (.lst xs)):gN K H (.ref a) (.type "list")
 |rL {a:Addr} {o:Obj} {xs:List V} (e:H a=some (.rL o (.lst xs))):gN K H (.ref a) (.type "list")
 |tup {a:Addr} {xs:List V} (e:H a=some (.tup xs)):gN K H (.ref a) (.type "tuple")
 |dK {a:Addr} {kvs:List (Key×V)} (e:H a=some (.dK kvs)):gN K H (.ref a) (.type "dict")
 |dT {a:Addr} {kvs:List (List Key×V)} (e:H a=some (.dT kvs)):gN K H (.ref a) (.type "dict")
 |ins {a C dx:Addr} {fs:List (Str×V)} (e:H a=some (.ins C dx fs)) (cl:Lr K C) (ha:PySem.W.findIn K (.ref C) "__class__" = some (some (.builtin "object.__class__")))
   (hn:PySem.W.specialIn K (.builtin "object.__class__") "__get__" = some (some (.builtin "getset_descriptor.__get__"))) (Mb:PySem.W.takesIn K (.builtin "object.__class__")=some true)
   (hm:PySem.W.mroIn K C (.type "object")=some true):gN K H (.ref a) (.ref C)
theorem tY {x:V}{u t:P_}(I:Inv X pins σ H s)(rx:RelV x u)(ty:gN X.K H x t)(e:PySem.W.kitOne X.K t c=some b)(h:∀tk,Q (.bool b) {s with toks:=tk}):
  QE (model X.prog X.w) A (call (.builtin "isinstance") [u,c]) Q E s:=by
 cases ty with
 |d7=>cases (show u=Value.none from rx);exact PySem.W.kia_one PySem.W.kitx_none I.oB SM e (λz=>nomatch z) h
 |bl y=>cases (show u=Value.bool y from rx);exact PySem.W.kia_one PySem.W.kitx_bool I.oB SM e (λz=>nomatch z) h
 |int i=>obtain⟨t,q⟩:=(show ∃t,u=Value.int i t from rx);cases q;exact PySem.W.kia_one PySem.W.kitx_int I.oB SM e (λz=>nomatch z) h
 |str y=>obtain⟨t,q⟩:=(show ∃t,u=Value.str y t from rx);cases q;exact PySem.W.kia_one PySem.W.kitx_str I.oB SM e (λz=>nomatch z) h
 |Es y=>obtain⟨t,q⟩:=(show ∃t,u=Value.float y t from rx);cases q;exact PySem.W.kia_one PySem.W.kitx_float I.oB SM e (λz=>nomatch z) h
 | @lst a xs ea =>
  cases (show u=Value.ref a from rx)
  obtain⟨_,_,n,_,h1⟩:=(show bA X.prog X.w H s.heap a (.lst xs) from I.bz a _ ea)
  exact PySem.W.kia_one PySem.W.kitx_list I.oB ⟨_,h1,rfl⟩ e (λz=>nomatch z) h
 | @rL a ob xs ea =>
  cases (show u=Value.ref a from rx)
  obtain⟨_,_,_,n,_,h1⟩:=(show bA X.prog X.w H s.heap a (.rL ob (.lst xs)) from I.bz a _ ea)
  exact PySem.W.kia_one PySem.W.kitx_list I.oB ⟨_,h1,rfl⟩ e (λz=>nomatch z) h
 | @tup a xs ea =>
  cases (show u=Value.ref a from rx)
  obtain⟨_,_,_,p⟩:=(show bA X.prog X.w H s.heap a (.tup xs) from I.bz a _ ea)
  obtain⟨o,h1,h2,_⟩:=p;exact PySem.W.kia_one PySem.W.kitx_tuple I.oB ⟨o,h1,h2⟩ e (λz=>nomatch z) h
 | @dK a kvs ea =>
  cases (show u=Value.ref a from rx)
  obtain⟨_,_,vs,_,p⟩:=(show bA X.prog X.w H s.heap a (.dK kvs) from I.bz a _ ea)
  obtain⟨o,es,ep,h1,h2,_⟩:=p;exact PySem.W.kia_one PySem.W.kitx_dict I.oB ⟨o,h1,h2.1⟩ e (λz=>nomatch z) h
 | @dT a kvs ea =>
  cases (show u=Value.ref a from rx)
  obtain⟨_,_,xs,_,o,es,ep,h1,h2,_⟩:=(show bA X.prog X.w H s.heap a (.dT kvs) from I.bz a _ ea)
  exact PySem.W.kia_one PySem.W.kitx_dict I.oB ⟨o,h1,h2.1⟩ e (λz=>nomatch z) h
 | @ins a C dx fs ea cl ha hn Mb hm =>
  cases (show u=Value.ref a from rx)
  obtain⟨mA,O,_⟩:=zm I.bz ea;obtain⟨od,J,_⟩:=O.look;exact PySem.W.kia_one (PySem.W.kitx_own (cl.get _) cl.hd ha hn Mb hm) I.oB J e (λz=>nomatch z) h
end
structure da (k:Nat)(A:Rj):Prop where
 hd:A.handled=none
 dp:A.depth+3*k+5<recursionLimit
 un:A.units+16*k+200<TY
theorem da.mono {j k:Nat}{A:Rj}(r:da k A)(h:j<=k):da j A:=⟨r.hd,by have:=r.dp;lia,by have:=r.un;lia⟩
theorem da.deeper {k:Nat}{A:Rj}(r:da (k+1) A)(env:Env):da k (A.deeper env) :=
 ⟨r.hd,by have:=r.dp;show A.depth+1+3*k+5<_;lia,by have:=r.un;show A.units+3+16*k+200<_;lia⟩
theorem da.depth {k:Nat}{A:Rj}(r:da k A):A.depth<recursionLimit:=by have:=r.dp;lia
theorem da.units {k:Nat}{A:Rj}(r:da k A):A.units+64<TY:=by have:=r.un;lia
def EO:TA:=λ_ H Q=>Q [] H
def Ae (ta:TE)(tr:TA):TA:=λσ H Q=>ta σ H λx H1=>tr σ H1 λxs H2=>Q (x::xs) H2
section
variable {X:Cx}{e:Expr}{es:List Expr}{te:TE}{t:TA}{pos:Pos}
theorem dt:PA X [] EO:=λ_ _ _ _ H Q I h=>Calls.spliced_nil ⟨[],H,I,.nil,h⟩
theorem bo (ha:PE X e te)(hr:PA X es t)(hs:Qt (e::es) X.env=(false,eval e X.env)::Qt es X.env:=by rfl):PA X (e::es) (Ae te t):=by
 intro pos pins s σ H Q I h;rw[hs];show QE _ _ (spliced ((false,eval e X.env)::SF pos (Qt es X.env))) _ _ s;refine Calls.spliced_cons (bQ (ha pins s σ H _ I h) λu s1 ⟨x,H1,I1,r1,q1⟩=>?_);exact bQ (hr pos pins s1 σ H1 _ I1 q1) λus s2 ⟨xs,H2,I2,r2,q2⟩=>⟨x::xs,H2,I2,.cons r1 r2,q2⟩
def IH (t:TA):TE:=λσ H Q=>t σ H λxs H1=>xs.length<=Qp/\∀p,H1 p=none->Q (.ref p) (upd H1 p (.tup xs))
def IL (t:TA):TE:=λσ H Q=>t σ H λxs H1=>xs.length<=Qp/\∀p,H1 p=none->Q (.ref p) (upd H1 p (.lst xs))
theorem BR {x1}(h:PA X es t):PE X (.Tuple es x1 pos) (IH t):=by
 intro pins s σ H Q I hq;refine wpAny_Tuple_spliced (bQ (h pos pins s σ H _ I hq) λus s1 ⟨xs,H1,I1,r,z,q⟩=>⟨by rw[<- r.length];exact z,?_⟩)
 have hf:H1 s1.heap.objs.size=none:=I1.bz.fresh (Qf _);refine⟨.ref s1.heap.objs.size,upd H1 s1.heap.objs.size (.tup xs),I1.laid (t':=s1.toks) (λb u e=>Qi _ e) (Qf _) ?_,rfl,q _ hf⟩;exact⟨z,us,r,⟨_,QC _ rfl,rfl,_,rfl⟩⟩
theorem my (h:PA X es t):PE X (.List es pos) (IL t):=by
 intro pins s σ H Q I hq;refine wpAny_List_spliced (bQ (h pos pins s σ H _ I hq) λus s1 ⟨xs,H1,I1,r,z,q⟩=>⟨by rw[<- r.length];exact z,?_⟩)
 have hf:H1 s1.heap.objs.size=none:=I1.bz.fresh (Qf _);refine⟨.ref s1.heap.objs.size,upd H1 s1.heap.objs.size (.lst xs),I1.laid (t':=s1.toks) (λb u e=>Qi _ e) (Qf _) ?_,rfl,q _ hf⟩;exact⟨z,us,0,r,QC _ rfl⟩
end
abbrev Sp:=List V->Hp->VK->XK->Prop
abbrev xS:=List Env->Hp->Qb->XK->P_->Qb->Prop
structure Ab (P:Qd)(w:Qq)(K:PySem.W.Frag)(mg:Str->Option P_)(base:Heap)(A:Rj)(outer:List Env)(s:Qb)(H:Hp):Prop where
 frames:A.frames=some outer
 mod:Mod K mg base
 bs:∀b o,base.get? b=some o->s.heap.get? b=some o/\H b=none
 xP:base.objs.size<=s.heap.objs.size
 jT:s.heap.FunFrames base outer
 Er:∀b∈wW outer,H b=none
 bz:fY P w H s.heap
 bare:T9 s.gens
def CE (outer:List Env)(P:Qd)(w:Qq)(H:Hp)(s:Qb)(Q:VK)(u:P_)(s':Qb):Prop :=
 ∃v H',s'.os=s.os/\T9 s'.gens/\Un (wW outer) [] H H' s.heap s'.heap/\fY P w H' s'.heap/\RelV v u/\Q v H'
def CR (CX:xS)(outer:List Env)(P:Qd)(w:Qq)(H:Hp)(s:Qb)(Q:VK)(E:XK)(r:Result)(s':Qb):Prop :=
 match r with
 |.ok (.ret u)=>CE outer P w H s Q u s'
 |.ok _=>False
 |.error e=>CX outer H s E e s'
structure a9 (P:Qd)(w:Qq)(K:PySem.W.Frag)(mg:Str->Option P_)(base:Heap)(CX:xS)(k:Nat)(f:Addr)(fd:Q0)(ps:List Str)(sp:Sp):Prop where
 len:∀vs H Q E,sp vs H Q E->vs.length=ps.length
 run:∀(A:Rj) (outer:List Env) (s:Qb) (H:Hp) (args:Args) (us:List P_) (vs:List V) (Q:VK) (E:XK),da k A->Ab P w K mg base A outer s H->BindsTo s fd args (ps.zip us)->Vals vs us->sp vs H Q E ->
  T6 (model P w) A (.call (.ref f) args) (CR CX outer P w H s Q E) s
section
variable {X:Cx}{pins:List (Addr×Obj)}{σ:St}{H:Hp}{s s':Qb}
theorem Inv.K_ (I:Inv X pins σ H s):Ab X.prog X.w X.K X.mg X.base X.A X.stack s H :=
 ⟨I.ok.frames,I.ok.mod,I.bs,Q6 I.ok.xP I.sz,I.stack,I.l0,I.bz,I.bare⟩
theorem Inv.after {Q:VK}{u:P_}(I:Inv X pins σ H s)(h:CE X.stack X.prog X.w H s Q u s'):EP X pins σ Q u s':=by
 obtain⟨v,H',os,bare,un,bz,r,q⟩:=h;obtain⟨hh,g,d,t,Nr⟩:=s';obtain rfl:Nr=s.os:=os;exact⟨v,H',I.call (h':=hh) (g':=g) (d':=d) (t':=t) (ch:=[]) un bz bare (λb z=>absurd z (by simp)),r,q⟩
end
def EU (sp:Sp)(AJ:List V)(E:XK)(t:TA):TE:=λσ H Q=>t σ H λvs H1=>sp (vs++AJ) H1 Q E
def Binds (K:PySem.W.Frag)(fd:Q0)(ps:List Str)(ds:List P_):Prop :=
 ∀(s:Qb) (us:List P_),K.In s.heap->(us++ds).length=ps.length->BindsTo s fd ⟨us,[]⟩ (ps.zip (us++ds))
theorem Binds.all {K:PySem.W.Frag}{fd:Q0}{ps:List Str}(h:∀us:List P_,us.length=ps.length->bindArgs fd ⟨us,[]⟩=pure (ps.zip us)):Binds K fd ps []:=λs us _ hl=>by
 rw[S7]at hl ⊢
 exact .of_eq (h us hl)
def Passes (CX:xS)(X:Cx)(E:XK):Prop:=∀(pins:List (Addr×Obj)) (σ:St) (H:Hp) (s:Qb) (e:P_) (s':Qb),Inv X pins σ H s->CX X.stack H s E e s'->X.xe e s'
section
variable {X:Cx}{CX:xS}{k:Nat}{f:Addr}{fd:Q0}{ps:List Str}{sp:Sp}{AJ:List V}{ds:List P_}{E:XK}{x:Str}{p pos:Pos}{e:Expr}{es:List Expr}{t:TA}
theorem BG {pins:List (Addr×Obj)}{σ:St}{H:Hp}{s:Qb}{Q:VK}{us:List P_}{vs:List V}(F:a9 X.prog X.w X.K X.mg X.base CX k f fd ps sp)(hr:da k X.A)(hb:Binds X.K fd ps ds)(hd:Vals AJ ds)(hx:Passes CX X E)
  (I:Inv X pins σ H s) (r:Vals vs us) (h:sp (vs++AJ) H Q E):QE (model X.prog X.w) X.A (call (.ref f) us) (EP X pins σ Q) X.xe s:=by
 have r2:Vals (vs++AJ) (us++ds):=r.append hd;have hl:(us++ds).length=ps.length:=by rw[<- r2.length];exact F.len _ _ _ _ h
 refine wpAny_call (Tu (F.run X.A X.stack s H ⟨us,[]⟩ (us++ds) (vs++AJ) Q E hr I.K_ (hb s us I.oB hl) r2 h) λr s' hq=>?_);cases r with
 |error e=>exact hx pins σ H s e s' I hq
 |ok fl =>
  cases fl with
  |ret u=>exact I.after hq
  |next=>exact SO hq
  |brk=>exact SO hq
  |cont=>exact SO hq
theorem mz (F:a9 X.prog X.w X.K X.mg X.base CX k f fd ps sp)(hr:da k X.A)(hg:Gl X x)(hm:X.mg x=some (.ref f))(hk:PySem.W.keepIn X.K (.ref f)=true)(hb:Binds X.K fd ps ds)(hd:Vals AJ ds)(hx:Passes CX X E)
  (ha:PA X (e::es) t) (hdb:(x==("__debug__" : Str))=false:=by decide) (he:Qt (e::es) X.env=(false,eval e X.env)::Qt es X.env:=by rfl) (hpl:(SF pos (Qt es X.env)).any (·.1)=false:=by rfl) :
  PE X (.Call (.Name x p) (e::es) [] pos) (EU sp AJ E t):=by
 intro pins s σ H Q I h;refine S8 (zh I hg hm ?_ hdb);refine PySem.W.callWith_K (h₀:=X.base) I.ok.mod.JH hk (bQ (ha pos pins s σ H _ I h) λus s1 ⟨vs,H1,I1,r,q⟩=>⟨I1.oB,?_⟩) he hpl;exact BG F hr hb hd hx I1 r q
end
section
end
structure aS (N P:List Str)(sc:Sd):Prop where
 kind:sc.kind=.function
 co:sc.isCoroutine=false
 gen:sc.isGenerator=false
 nd:N.Nodup
 pre:N.take P.length=P
 par:∀x∈P,sc.names.lookup x=some .local\/sc.names.lookup x=some .cell
 Cb:∀y∈sc.names,y.2≠.free
theorem mkS{N P:List Str}{sc:Sd}(h0:sc.kind=.function:=by rfl)(h1:sc.isCoroutine=false:=by rfl)(h2:sc.isGenerator=false:=by rfl)(h3:N.Nodup:=by decide +kernel)(h4:N.take P.length=P:=by rfl)(h5:∀x∈P,sc.names.lookup x=some .local\/sc.names.lookup x=some .cell:=by decide +kernel)(h6:∀y∈sc.names,y.2≠.free:=by decide +kernel):aS N P sc:=⟨h0,h1,h2,h3,h4,h5,h6⟩
theorem lO {kindOf:Str->Option Sh}{x:Str}:∀{binds:List (Str×P_)} {m:Str->Option P_},(∀v,(x,v)∉binds)->bindL kindOf binds m x=m x
 |[],_,_=>rfl
 | (n,v)::r,m,h=>by
  unfold bindL;rw[lO λw hw=>h w (QM _ hw)]
  split
  ·have:x≠n:=by rintro rfl;exact h v Ra
   simp[this]
  ·rfl
theorem lQ {kindOf:Str->Option Sh}{x:Str}:∀{binds:List (Str×P_)} {m:Str->Option P_},(∀v,(x,v)∉binds)->bindC kindOf binds m x=m x
 |[],_,_=>rfl
 | (n,v)::r,m,h=>by
  unfold bindC;rw[lQ λw hw=>h w (QM _ hw)]
  split
  ·rfl
  ·have:x≠n:=by rintro rfl;exact h v Ra
   simp[this]
theorem lP {kindOf:Str->Option Sh}{x:Str}{v:P_}:∀{P:List Str} {vs:List P_} {i:Nat} {m:Str->Option P_},P.Nodup->P[i]?=some x->vs[i]?=some v->kindOf x=some .local ->
  bindL kindOf (P.zip vs) m x=some v
 |[],_,_,_,_,h,_,_=>by simp at h
 |_::_,[],_,_,_,_,h,_=>by simp at h
 |p::P,w::vs,0,m,nd,h1,h2,hk=>by
  simp at h1 h2;subst h1;subst h2;show bindL kindOf ((p,w)::P.zip vs) m p=_;unfold bindL;rw[lO λv hv=>(QB.mp nd).1 (S6 hv).1,if_pos hk];simp
 |p::P,w::vs,i+1,m,nd,h1,h2,hk=>by
  show bindL kindOf ((p,w)::P.zip vs) m x=_;unfold bindL;exact lP (i:=i) (QB.mp nd).2 (by simpa using h1) (by simpa using h2) hk
theorem lR {kindOf:Str->Option Sh}{x:Str}{v:P_}:∀{P:List Str} {vs:List P_} {i:Nat} {m:Str->Option P_},P.Nodup->P[i]?=some x->vs[i]?=some v->kindOf x≠some .local ->
  bindC kindOf (P.zip vs) m x=some v
 |[],_,_,_,_,h,_,_=>by simp at h
 |_::_,[],_,_,_,_,h,_=>by simp at h
 |p::P,w::vs,0,m,nd,h1,h2,hk=>by
  simp at h1 h2;subst h1;subst h2;show bindC kindOf ((p,w)::P.zip vs) m p=_;unfold bindC;rw[lQ λv hv=>(QB.mp nd).1 (S6 hv).1,if_neg hk];simp
 |p::P,w::vs,i+1,m,nd,h1,h2,hk=>by
  show bindC kindOf ((p,w)::P.zip vs) m x=_;unfold bindC;exact lR (i:=i) (QB.mp nd).2 (by simpa using h1) (by simpa using h2) hk
def start (N:List Str)(vs:List V):St:=vs.map some++Qw (N.length-vs.length) none
noncomputable def kS (CX:xS)(P:Qd)(w:Qq)(K:PySem.W.Frag)(mg:Str->Option P_)(base:Heap)(N:List Str)(qual:Str)(scope:Sd)(f:Addr)(cd:P_)(A:Rj)(outer:List Env)(s:Qb)(H:Hp)(E:XK):Cx where
 prog:=P
 w:=w
 K:=K
 mg:=mg
 base:=base
 A:=A.deeper (T5 qual scope s.heap.objs.size f cd)
 N:=N
 s₀:=s
 H₀:=H
 env:=T5 qual scope s.heap.objs.size f cd
 outer:=outer
 stack:=T5 qual scope s.heap.objs.size f cd::outer
 ex:=[]
 calm:=true
 fn:=λ_=>true
 pn:=[]
 xe:=λe s'=>QE (model P w) (A.deeper (T5 qual scope s.heap.objs.size f cd)) (leaving (T5 qual scope s.heap.objs.size f cd) e) (λ_ Ja=>CX outer H s E e Ja) (λe' Ja=>CX outer H s E e' Ja) s'
theorem pz {sc:Sd}{n:Nat}{x:Str}(h:sc.names.lookup x=some .cell):∃c,(TX n sc.names []).lookup x=some c:=by
 have q:=PySem.W.cellsFrom_some sc.names n [] (.inl h);exact Option.isSome_iff_exists.mp q
theorem t6 {CX:xS}{P:Qd}{w:Qq}{K:PySem.W.Frag}{mg:Str->Option P_}{base:Heap}{N ps:List Str}{qual:Str}{scope:Sd}{f:Addr}{cd:P_}{A:Rj}{outer:List Env}{s s1:Qb}{H:Hp}{E:XK}{us:List P_}{vs:List V}
  (S:aS N ps scope) (hd:A.handled=none) (e0:Ab P w K mg base A outer s H) (hl:vs.length=ps.length) (r:Vals vs us)
  (x:InCallC s s.heap.objs.size (bindL (T5 qual scope s.heap.objs.size f cd).kindOf (ps.zip us) λ_=>none) (TX (s.heap.objs.size+1) scope.names []) (bindC (T5 qual scope s.heap.objs.size f cd).kindOf (ps.zip us) λ_=>none) s1) :
  Inv (kS CX P w K mg base N qual scope f cd A outer s H E) [] (start N vs) H s1:=by
 have hpl:ps.length<=N.length:=by have:=congrArg Up S.pre;rw[QJ]at this;lia
 obtain⟨h1,tk,rfl,hk⟩:=x.done;have Fv:∀b:Addr,b∉(kS CX P w K mg base N qual scope f cd A outer s H E).ex:=λb z=>absurd (show b∈([]:List Addr) from z) (by simp)
 refine⟨⟨e0.mod,S.kind,rfl,rfl,Qf _,λy z c h1 h2=>?_,λy hy=>?_,λy c _ h=>?_,λ_=>hd,Around.frames_deeper e0.frames,.inr ⟨rfl,rfl⟩,λb z=>absurd z (Fv b),e0.bs,e0.xP,λb _ _=>Fv b,λb z=>absurd z (Fv b),e0.jT,e0.Er⟩,
  rfl,e0.bare,Un.kept hk,⟨_,x.toInCall.ns,λi y v h1 h2 h3=>?_⟩,λy c h=>⟨_,x.cell y c h⟩,e0.bz.fresh (Qf _),λy c h=>?_,λp hp=>absurd (show p∈([]:List (Addr×Obj)) from hp) (by simp),e0.bz.kept hk,?_⟩
 ·exact name_of_addr x.apart (PySem.mem_of_lookup h1) (PySem.mem_of_lookup h2)
 ·have hy:scope.names.lookup y=some .cell\/scope.names.lookup y=some .free:=hy;rcases hy with hy|hy
  ·exact pz hy
  ·exact absurd rfl (S.Cb _ (PySem.mem_of_lookup hy))
 ·exact Nat.le_of_lt (x.above y c (PySem.mem_of_lookup h))
 ·have hi:i<vs.length:=by
   unfold start at h2
   by_cases hi:i<vs.length
   ·exact hi
   ·rw[Rn (by simpa using hi)]at h2
    rw[List.getElem?_replicate]at h2
    split at h2 <;> cases h2
  have ha:vs[i]?=some v:=by
   unfold start at h2;rw[R1 (by simpa using hi),Ql]at h2
   cases e:vs[i]? with
   |none=>rw[e]at h2;cases h2
   |some a=>rw[e]at h2;cases h2;rfl
  obtain⟨u,hu,rv⟩:=r.get ha;have hp:ps[i]?=some y:=by
   rw[<- S.pre,List.getElem?_take_of_lt (by lia)];exact h1
  have LU:ps.Nodup:=by rw[<- S.pre];exact S.nd.sublist (List.take_sublist _ _)
  refine⟨u,rv,?_⟩;rcases S.par y (QW hp)with k|k
  ·exact .inl ⟨k,lP LU hp hu k⟩
  ·obtain⟨c,e⟩:=pz (n:=s.heap.objs.size+1) k;refine .inr ⟨.inl k,c,e,?_⟩;have q:=x.cell y c e;rw[lR LU hp hu (by show scope.names.lookup y≠_;rw[k];decide)]at q
   exact q
 ·exact e0.bz.fresh (Nat.le_of_lt (x.above y c (PySem.mem_of_lookup h)))
 ·unfold start;show _=N.length;rw[Qu,Qa,Ue];lia
theorem G_ {CX:xS}{P:Qd}{w:Qq}{K:PySem.W.Frag}{mg:Str->Option P_}{base:Heap}{k:Nat}{f:Addr}{name qual:Str}{params:Arguments}{body:List Stmt}{scope:Sd}{dV kV doc pm c5 ct oc:P_}{an od:Option Addr}
  {BW:Array (Option P_)} {N ps:List Str} {sp:Sp} (lk:K.lookup f=some ⟨oc,od,.func (PySem.W.fnOf name qual params body scope dV kV doc pm an c5 ct),BW⟩) (ee:PySem.W.codeIn K c5 qual=true) (S:aS N ps scope)
  (len:∀vs H Q E,sp vs H Q E->vs.length=ps.length)
  (jQ:∀(A:Rj) (outer:List Env) (s:Qb) (H:Hp) (vs:List V) (Q:VK) (E:XK),da k (A.deeper (T5 qual scope s.heap.objs.size f c5))->sp vs H Q E ->
   ∃t,pG (kS CX P w K mg base N qual scope f c5 A outer s H E) body t/\t {nx:=λ_ H'=>Q .d7 H',rt:=Q} (start N vs) H) :
  a9 P w K mg base CX (k+1) f (PySem.W.fnOf name qual params body scope dV kV doc pm an c5 ct) ps sp:=by
 refine⟨len,λA outer s H args us vs Q E hr e0 hb r lD=>?_⟩;have hl:=len _ _ _ _ lD;have KX:K.In s.heap:=e0.mod.JH.keeps λb o e=>(e0.bs b o e).1;have lim:s.heap.NoLimit:=e0.mod.nolimit.keeps λb o e=>(e0.bs b o e).1;have GX:∀y∈ps.zip us,scope.names.lookup y.1=some .local\/(scope.names.lookup y.1=some .cell/\((TX (s.heap.objs.size+1) scope.names []).lookup y.1).isSome=true):=λCO hy=>by
  obtain⟨n,v⟩:=CO;rcases S.par n (S6 hy).1 with q|q
  ·exact .inl q
  ·exact .inr ⟨q,PySem.W.cellsFrom_some _ _ _ (.inl q)⟩
 refine codeAny_call_function hr.depth (KX _ _ lk) rfl S.co S.gen rfl (PySem.W.codeRec_of KX ee) (hb _ _ _ _ ?_);refine wpAny_newFunctionEnv_cells S.kind GX λenv he s1 x=>?_;subst he;refine⟨lim.keeps x.toInCall.keep,codeAny_func ?_⟩;obtain⟨t,ht,hq⟩:=jQ A outer s H vs Q E (hr.deeper _) lD;have I:Inv (kS CX P w K mg base N qual scope f c5 A outer s H E) [] (start N vs) H s1:=t6 S hr.hd e0 hl r x;refine Tx (ht [] s1 (start N vs) H _ I hq) (λfl s' hs=>?_) λe s' hs=>hs;have fin:∀{σ':St} {H':Hp} {v:V} {u:P_},Inv (kS CX P w K mg base N qual scope f c5 A outer s H E) [] σ' H' s'->RelV v u->Q v H'->CE outer P w H s Q u s' :=
  λ{σ' H' v u} J rv q=>⟨v,H',J.os,J.bare,J.base,J.bz,rv,q⟩
 cases fl with
 |ret u =>
  obtain⟨v,σ',H',J,rv,q⟩:=hs;exact fin J rv q
 |next =>
  obtain⟨σ',H',J,q⟩:=hs;exact fin (v:=V.d7) (u:=Value.none) J rfl q
 |brk =>
  obtain⟨_,_,_,q⟩:=hs;exact SO q
 |cont =>
  obtain⟨_,_,_,q⟩:=hs;exact SO q
section
variable {X:Cx}{x:Str}{p pos:Pos}{e:Expr}{es:List Expr}{t:TA}{id T:String}{r:List V->Hp->VK->Prop}
def IQ (r:List V->Hp->VK->Prop)(t:TA):TE:=λσ H Q=>t σ H λvs H1=>r vs H1 Q
theorem gq (hc:eU X (.builtin id) r) (hg:Gl X x) (hm:X.mg x=none) (hv:Rb x=some (.builtin id)) (ha:PA X (e::es) t) (hn:x≠"__name__" := by decide) (hdb:(x==("__debug__" : Str))=false:=by decide)
  (he:Qt (e::es) X.env=(false,eval e X.env)::Qt es X.env:=by rfl) (hpl:(SF pos (Qt es X.env)).any (·.1)=false:=by rfl):PE X (.Call (.Name x p) (e::es) [] pos) (IQ r t):=by
 intro pins s σ H Q I h;refine S8 (dS I hg hm hv ?_ hn hdb);exact PyProof.Rows.callWith_builtin1 (bQ (ha pos pins s σ H _ I h) λus s1 JZ=>by obtain⟨vs,H1,I1,r1,q1⟩:=JZ;exact hc pins s1 σ H1 vs us Q I1 r1 q1) he hpl
theorem s_ (hc:eU X (.type T) r) (hg:Gl X x) (hm:X.mg x=none) (hv:Rb x=some (.type T)) (ha:PA X (e::es) t) (hn:x≠"__name__" := by decide) (hdb:(x==("__debug__" : Str))=false:=by decide)
  (he:Qt (e::es) X.env=(false,eval e X.env)::Qt es X.env:=by rfl) (hpl:(SF pos (Qt es X.env)).any (·.1)=false:=by rfl):PE X (.Call (.Name x p) (e::es) [] pos) (IQ r t):=by
 intro pins s σ H Q I h;refine S8 (dS I hg hm hv ?_ hn hdb);exact Ri (bQ (ha pos pins s σ H _ I h) λus s1 JY=>by obtain⟨vs,H1,I1,r1,q1⟩:=JY;exact hc pins s1 σ H1 vs us Q I1 r1 q1) he hpl
end
end L2
namespace HT
open PySem PyProof.Rows
def lexLt:List Int->List Int->Bool
 |[],[]=>false
 |[],_::_=>true
 |_::_,[]=>false
 |x::xs,y::ys=>if x=y then lexLt xs ys else decide (x<y)
theorem fP (x y:Int)(xs ys:List Int):lexLt (x::xs) (y::ys)=if x=y then lexLt xs ys else decide (x<y):=rfl
section
open PySem.SeqAt
open PySem.AutoSeq1 (wpAny_loadPart')
open PySem.MeetsSeq PySem.MeetsSeq2 PySem.MeetsSeq3
end
section
def jt (n d:Nat):Option Int->Nat
 |none=>d
 |some v=>if v<0 then (v+(n:Int)).toNat else min v.toNat n
theorem js (n d:Nat):jt n d none=d:=rfl
theorem l9 (n d k:Nat):jt n d (some (k:Int))=min k n:=by
 show (if (k:Int)<0 then ((k:Int)+(n:Int)).toNat else min (k:Int).toNat n)=min k n
 rw[if_neg (by lia),RQ]
end
end HT
namespace L2
open PySem PySem.Spec PyProof.Rows
abbrev TO:=St->Hp->(Option Int->Hp->Prop)->Prop
def PO (X:Cx)(e:Option Expr)(t:TO):Prop :=
 ∀(pins:List (Addr×Obj)) (s:Qb) (σ:St) (H:Hp) (Q:Option Int->Hp->Prop),Inv X pins σ H s->t σ H Q ->
  QE (model X.prog X.w) X.A (evalPart e X.env) (λu s'=>∃o H',Inv X pins σ H' s'/\IsPart u o/\Q o H') X.xe s
def yf:TO:=λ_ H Q=>Q none H
def EM (t:TE):TO:=λσ H Q=>t σ H λx H1=>∃i,x=.int i/\Q (some i) H1
theorem intsAre_of {ns:List Int}:∀{us:List P_},Vals (ns.map V.int) us->T8 us ns:=by
 induction ns with
 |nil=>intro us r;rw[List.map_nil]at r;cases r;exact .nil
 |cons n ns ih =>
  intro us r;rw[QS]at r;cases r with
  |cons r1 r2 =>
   obtain⟨t,e⟩:=r1;subst e;exact .cons n t (ih r2)
section
variable {X:Cx}{e:Expr}{te:TE}{lo hi:Option Expr}{tl th:TO}{pos p2:Pos}
theorem rh:PO X none yf:=by
 intro pins s σ H Q I h;rw[evalPart_none];exact Qn ⟨none,H,I,.none,h⟩
theorem rg (h:PE X e te):PO X (some e) (EM te):=by
 intro pins s σ H Q I hw;rw[evalPart_some];refine bQ (h pins s σ H _ I hw) λu s1 ⟨x,H1,I1,r1,q1⟩=>?_;obtain⟨i,rfl,q⟩:=q1;obtain⟨t,rfl⟩:=r1;exact⟨some i,H1,I1,.int i t,q⟩
def Lj (X:Cx)(r:V->Option Int->Option Int->Hp->VK->Prop):Prop :=
 ∀(pins:List (Addr×Obj)) (s:Qb) (σ:St) (H:Hp) (x:V) (v vl vu:P_) (lo hi:Option Int) (sl:Addr) (Q:VK),Inv X pins σ H s->RelV x v->s.heap.IsSliceOf sl vl vu .none->IsPart vl lo->IsPart vu hi->r x lo hi H Q ->
  ∃T id,typeLookup (.type T) "__getitem__" = pure (some (.builtin id))/\s.TypeIs v T/\QE (model X.prog X.w) X.A (getItem v (.ref sl)) (EP X pins σ Q) X.xe s
def M3 (r:V->Option Int->Option Int->Hp->VK->Prop)(te:TE)(tl th:TO):TE:=λσ H Q=>te σ H λx H1=>tl σ H1 λl H2=>th σ H2 λu H3=>r x l u H3 Q
theorem nN {r:V->Option Int->Option Int->Hp->VK->Prop}(hr:Lj X r)(he:PE X e te)(hl:PO X lo tl)(hu:PO X hi th):PE X (.Subscript e (.Slice lo hi none p2) pos) (M3 r te tl th):=by
 intro pins s σ H Q I h;refine Subscript_ (bQ (he pins s σ H _ I h) λv s1 ⟨x,H1,I1,r1,q1⟩=>?_);refine wpAny_Slice (bQ (hl pins s1 σ H1 _ I1 q1) λvl s2 ⟨l,H2,I2,pl,q2⟩=>bQ (hu pins s2 σ H2 _ I2 q2) λvu s3 ⟨u,H3,I3,pu,q3⟩=>?_);rw[evalPart_none];refine Qn ?_;have I4:Inv X pins σ H3 {s3 with heap:=s3.heap.push {cls:=.type "slice",data:=.fields #[vl,vu,.none]}}:=I3.kept (t':=s3.toks) λb ob q=>Qi _ q
 obtain⟨T,id,hT,ht,hg⟩:=hr pins {s3 with heap:=s3.heap.push {cls:=.type "slice",data:=.fields #[vl,vu,.none]}} σ H3 x v vl vu l u s3.heap.objs.size Q I4 r1 (Heap.IsSliceOf.new ..) pl pu q3
 show QE (model X.prog X.w) X.A (subscriptTail e (.Slice lo hi none p2) v (.ref s3.heap.objs.size)) (EP X pins σ Q) X.xe {s3 with heap:=s3.heap.push {cls:=.type "slice",data:=.fields #[vl,vu,.none]}}
 exact tail_any (ops:=[.ref s3.heap.objs.size,v]) ht hT hg (by with_unfolding_all rfl)
def pj (xs:List V)(lo hi:Option Int):List V:=(xs.drop (HT.jt xs.length 0 lo)).take (HT.jt xs.length xs.length hi-HT.jt xs.length 0 lo)
theorem ph (xs:List V)(lo hi:Option Int):(pj xs lo hi).length<=xs.length:=by
 unfold pj;rw[QJ,RX];lia
end
def lz (n:Nat)(i:Int):Option Nat:=if 0<=i then (if i<n then some i.toNat else none) else if -(n:Int)<=i then some (i+n).toNat else none
def j6 {α:Type}(xs:List α)(i:Int):Option α:=(lz xs.length i).bind λj=>xs[j]?
theorem rF {n:Nat}{i:Int}{j:Nat}(h:lz n i=some j):seqIndex? i n=some j/\j<n/\-(n:Int)<=i/\i<n:=by
 unfold lz at h
 by_cases h0:0<=i
 ·rw[if_pos h0]at h
  by_cases h1:i<n
  ·rw[if_pos h1]at h;have e:i.toNat=j:=Q3 h;exact⟨by rw[seqIndex_of h0 h1,e],by lia,by lia,h1⟩
  ·rw[if_neg h1]at h;cases h
 ·rw[if_neg h0]at h
  by_cases h1:-(n:Int)<=i
  ·rw[if_pos h1]at h;have e:(i+n).toNat=j:=Q3 h;exact⟨by rw[seqIndex_neg (by lia) h1,e],by lia,h1,by lia⟩
  ·rw[if_neg h1]at h;cases h
theorem si {α:Type}{xs:List α}{i:Int}{v:α}(h:j6 xs i=some v):∃j,seqIndex? i xs.length=some j/\xs[j]?=some v/\j<xs.length/\-(xs.length:Int)<=i/\i<xs.length:=by
 unfold j6 at h;cases e:lz xs.length i with
 |none=>rw[e]at h;cases h
 |some j =>
  rw[e]at h;obtain⟨h1,h2,h3,h4⟩:=rF e;exact⟨j,h1,h,h2,h3,h4⟩
def gP (b:Expr):Prop:=∀o i,subscripted b false o i=operate [o,i] (getItem o i)
def A0 (X:Cx)(r:R2):Prop :=
 ∀(value slice:Expr) (pins:List (Addr×Obj)) (s:Qb) (σ:St) (H:Hp) (x y:V) (v u:P_) (Q:VK),Inv X pins σ H s->RelV x v->RelV y u->r x y H Q ->
  subscripted slice false v u=operate [v,u] (getItem v u)->QE (model X.prog X.w) X.A (subscriptTail value slice v u) (EP X pins σ Q) X.xe s
def OV (X:Cx)(id:String)(r:V->List V->Hp->VK->Prop):Prop :=
 ∀(pins:List (Addr×Obj)) (s:Qb) (σ:St) (H:Hp) (x:V) (xs:List V) (v:P_) (us:List P_) (Q:VK),Inv X pins σ H s->RelV x v->Vals xs us->r x xs H Q ->
  QE (model X.prog X.w) X.A (call (.builtin id) (v::us)) (EP X pins σ Q) X.xe s
section
variable {X:Cx}{a b:Expr}{ta tb:TE}{pos:Pos}
theorem eR {r:R2}(hr:A0 X r)(ha:PE X a ta)(hb:PE X b tb)(hs:gP b):PE X (.Subscript a b pos) (EN r ta tb):=by
 intro pins s σ H Q I h;exact Subscript_ (DM ha hb I h λv u s2 x y H2 I2 rx ry q=>hr a b pins s2 σ H2 x y v u Q I2 rx ry q (hs _ _))
def E6 (K:PySem.W.Frag):R2:=λx y H Q=>∃p xs i v,x=.ref p/\y=.int i/\c6 K H p xs/\j6 xs i=some v/\Q v H
def E5 (K:PySem.W.Frag):R2:=λx y H Q=>∃p xs i v,x=.ref p/\y=.int i/\pL K H p xs/\j6 xs i=some v/\Q v H
theorem cu:A0 X (E6 X.K):=by
 intro value slice pins s σ H x y v u Q I rx ry h hs;obtain⟨p,xs,i,z,rfl,rfl,hq,he,q⟩:=h;cases rx;obtain⟨t,rfl⟩:=ry;obtain⟨its,r,pl,hz⟩:=I.list hq;obtain⟨j,h1,h2,h3,h4,h5⟩:=si he;obtain⟨w,ew,uE⟩:=r.get h2;have hl:=r.length;have hn:=mN;have fin:EP X pins σ Q w s:=⟨z,H,I,uE,q⟩
 by_cases h0:0<=i
 ·have hj:i.toNat=j:=by
   rw[seqIndex_of h0 h5]at h1;exact Q3 h1
  exact item_listR pl.isList h0 (by lia) (by rw[hj];simpa using ew) fin hs
 ·have hj:(i+(its.toArray.size:Int)).toNat=j:=by
   rw[seqIndex_neg (by lia) h4]at h1
   rw[QR,<- hl];exact Q3 h1
  exact subscriptTail_builtinR (x:=w) pl.isList.typeIs slot_list_getitem.lookup
   (wpAny_getItem_list_neg (Q:=λr s'=>r=w/\EP X pins σ Q r s') pl.isList (by lia) (by rw[QR] <;> lia) (by lia) (by rw[hj];simpa using ew) ⟨rfl,fin⟩) hs
theorem wu:A0 X (E5 X.K):=by
 intro value slice pins s σ H x y v u Q I rx ry h hs;obtain⟨p,xs,i,z,rfl,rfl,hq,he,q⟩:=h;cases rx;obtain⟨t,rfl⟩:=ry;obtain⟨its,r,pl,hz⟩:=I.tuple hq;obtain⟨j,h1,h2,h3,h4,h5⟩:=si he;obtain⟨w,ew,uE⟩:=r.get h2;have hl:=r.length;have hn:=mN;have fin:EP X pins σ Q w s:=⟨z,H,I,uE,q⟩;exact subscriptTail_builtinR (x:=w) pl.typeIs slot_tuple_getitem.lookup
  (getItem_tuple (j:=j) (Q:=λr s'=>r=w/\EP X pins σ Q r s') pl (by lia) (by lia) (by rw[QR,<- hl];exact h1) (by simpa using ew) ⟨rfl,fin⟩) hs
theorem qh (its:List P_)(n j:Nat)(u:P_):SN (·.setIfInBounds j u) {cls:=.type "list",data:=.seq its.toArray n}={cls:=.type "list",data:=.seq (its.set j u).toArray n}:=by
 simp[SN]
theorem Inv.lst {pins:List (Addr×Obj)}{σ:St}{H:Hp}{s:Qb}{p:Addr}{xs:List V}(I:Inv X pins σ H s)(h:H p=some (.lst xs)):
  ∃(its:List P_) (n:Nat),Vals xs its/\s.heap.get? p=some {cls:=.type "list",data:=.seq its.toArray n}/\xs.length<=Qp:=by
 obtain⟨z,its,n,r,e⟩:=I.bz p _ h;exact⟨its,n,r,e,z⟩
theorem Inv.Cm {pins:List (Addr×Obj)}{σ:St}{H:Hp}{s:Qb}{p:Addr}{xs ys:List V}{its its':List P_}{n n':Nat}{f:Obj->Obj}(I:Inv X pins σ H s)(h:H p=some (.lst xs))
  (ho:s.heap.get? p=some {cls:=.type "list",data:=.seq its.toArray n}) (hf:f {cls:=.type "list",data:=.seq its.toArray n}={cls:=.type "list",data:=.seq its'.toArray n'}) (r:Vals ys its') (hz:ys.length<=Qp) (t:Nat) :
  Inv X pins σ (upd H p (.lst ys)) {s with heap:=s.heap.update p f,toks:=t}:=by
 have e:(s.heap.update p f).get? p=some {cls:=.type "list",data:=.seq its'.toArray n'}:=by
  rw[Ug f ho (by rw[hf] <;> rfl),hf]
 refine I.write (x:=p) (e:=p) (by rw[h];trivial) (.inl rfl) (λb u hb q=>(Heap.get?_update_other _ _ (Rr hb)).trans q) ⟨_,e⟩ ?_
 exact⟨hz,its',n',r,e⟩
def E4:V->V->V->Hp->(Hp->Prop)->Prop:=λo i v H Q=>∃p xs k j,o=.ref p/\i=.int k/\H p=some (.lst xs)/\lz xs.length k=some j/\Q (upd H p (.lst (xs.set j v)))
theorem set_list:HB X E4:=by
 intro pins s σ H o i v ov iv u Q I ro ri rv h;obtain⟨p,xs,k,j,rfl,rfl,hp,hj,q⟩:=h;cases ro;obtain⟨t,rfl⟩:=ri;obtain⟨its,n,r,ho,hz⟩:=I.lst hp;obtain⟨h1,h2,h3,h4⟩:=rF hj;have hl:=r.length;have hn:=mN;have I':Inv X pins σ (upd H p (.lst (xs.set j v))) {s with heap:=s.heap.update p (SN (·.setIfInBounds j u))} :=
  I.Cm hp ho (qh its n j u) (r.set rv j) (by rw[U3];exact hz) s.toks
 by_cases h0:0<=k
 ·have hk:k.toNat=j:=by
   rw[seqIndex_of h0 h4]at h1;exact Q3 h1
  exact PySem.W.ki_setAt ho h0 (by lia) (by rw[QR,<- hl];exact h4) (by rw[hk];exact⟨_,I',q⟩)
 ·have hk:(k+(its.toArray.size:Int)).toNat=j:=by
   rw[seqIndex_neg (by lia) h3]at h1
   rw[QR,<- hl];exact Q3 h1
  exact PySem.W.ki_setBack ho (by lia) (by rw[QR,<- hl];exact h3) (by lia) (by rw[hk];exact⟨_,I',q⟩)
theorem l5 (lo hi:Option Int)(n:Nat):(Tq lo hi none n).1=((HT.jt n 0 lo:Nat):Int)/\(Tq lo hi none n).2.1=((HT.jt n n hi:Nat):Int)/\(Tq lo hi none n).2.2=1:=by
 refine⟨?_,?_,rfl⟩
 ·cases lo with
  |none=>simp[Tq,HT.jt]
  |some i =>
   simp only[Tq,HT.jt,Option.getD_none,show (1:Int)>0 by decide,if_true]
   by_cases h:i<0
   ·simp only[h,if_true] <;> lia
   ·simp only[h,if_false] <;> lia
 ·cases hi with
  |none=>simp[Tq,HT.jt]
  |some i =>
   simp only[Tq,HT.jt,Option.getD_none,show (1:Int)>0 by decide,if_true]
   by_cases h:i<0
   ·simp only[h,if_true] <;> lia
   ·simp only[h,if_false] <;> lia
theorem kr (its:List P_)(lo hi:Option Int):slicePick its.toArray lo hi none=((its.drop (HT.jt its.length 0 lo)).take (HT.jt its.length its.length hi-HT.jt its.length 0 lo)).toArray:=by
 obtain⟨h1,h2,h3⟩:=l5 lo hi its.toArray.size;unfold slicePick;rw[h1,h2,h3];simp only[sliceRange_one,pick_run,QR] <;> rfl
def Jc (K:PySem.W.Frag):V->Option Int->Option Int->Hp->VK->Prop:=λx lo hi H Q=>∃a xs,x=.ref a/\c6 K H a xs/\∀p,H p=none->Q (.ref p) (upd H p (.lst (pj xs lo hi)))
theorem qQ:Lj X (Jc X.K):=by
 intro pins s σ H x v vl vu lo hi sl Q I rx hs pl pu h;obtain⟨a,xs,rfl,hx,q⟩:=h;cases rx;obtain⟨its,r,ht,hz⟩:=I.list hx;have hlen:=r.length;refine⟨"list",_,slot_list_getitem.lookup,ht.isList.typeIs,?_⟩;refine wpAny_getItem_list_slice ht.isList hs pl pu .none (by simp) ?_ (by rw[QR] <;> lia)
 rw[kr,<- hlen];refine⟨.ref s.heap.objs.size,_,I.laid (t':=s.toks) (o:=.lst (pj xs lo hi)) (λb ob q=>Qi _ q) (Qf _) ?_,rfl,q _ (I.bz.fresh (Qf _))⟩;exact⟨Q6 (ph xs lo hi) hz,_,0,(r.drop (HT.jt xs.length 0 lo)).take (HT.jt xs.length xs.length hi-HT.jt xs.length 0 lo),QC _ rfl⟩
theorem eL:eU X (.builtin "len") (λxs H Q=>∃p ys,xs=[.ref p]/\(c6 X.K H p ys\/pL X.K H p ys)/\Q (.int ys.length) H):=by
 intro pins s σ H xs us Q I r h;obtain⟨p,ys,rfl,hq,q⟩:=h;obtain⟨u,rfl,rx⟩:=vals1 r;cases rx;have hn:=mN;rcases hq with hq|hq
 ·obtain⟨its,r',pl,hz⟩:=I.list hq;have hlen:=r'.length;exact Calls.call_len_list pl.isList (by simp only[QR] <;> lia) ⟨.int ys.length,H,I.tok _,⟨s.toks+1,by rw[QR,hlen]⟩,q⟩
 ·obtain⟨its,r',pl,hz⟩:=I.tuple hq;have hlen:=r'.length;exact len_tuple pl (by simp only[QR] <;> lia) ⟨.int ys.length,H,I.tok _,⟨s.toks+1,by rw[QR,hlen]⟩,q⟩
theorem gL:eU X (.type "list") (λxs H Q=>∃p ys,xs=[.ref p]/\(c6 X.K H p ys\/pL X.K H p ys)/\∀l,H l=none->Q (.ref l) (upd H l (.lst ys))):=by
 intro pins s σ H xs us Q I r h;obtain⟨p,ys,rfl,hq,q⟩:=h;obtain⟨u,rfl,rx⟩:=vals1 r;cases rx;have fin:∀(its:List P_),Vals ys its->ys.length<=Qp->∀(h':Heap) (c':Nat),(∀b o',s.heap.get? b=some o'->h'.get? b=some o') ->
   h'.get? s.heap.objs.size=some {cls:=.type "list",dict:=none,data:=.seq its.toArray c',slots:=#[]}->EP X pins σ Q (.ref s.heap.objs.size) {s with heap:=h'}:=λits r' hz h' c' kp e =>
  ⟨.ref s.heap.objs.size,_,I.laid (t':=s.toks) kp (Qf _) (show bA X.prog X.w _ h' _ (.lst ys) from ⟨hz,its,c',r',e⟩),rfl,q _ (I.bz.fresh (Qf _))⟩
 rcases hq with hq|hq
 ·obtain⟨its,r',pl,hz⟩:=I.list hq;have hlen:=r'.length;obtain⟨o,ho,hc,n,hd⟩:=pl.isList;exact call_list_seq p (.inl rfl) ho hc hd (λh' c' kp e=>fin its r' hz h' c' kp e) (by simp only[QR] <;> lia)
 ·obtain⟨its,r',pl,hz⟩:=I.tuple hq;have hlen:=r'.length;obtain⟨o,ho,hc,n,hd⟩:=pl;exact call_list_seq p (.inr rfl) ho hc hd (λh' c' kp e=>fin its r' hz h' c' kp e) (by simp only[QR] <;> lia)
def IF (K:PySem.W.Frag)(T:String)(x:V)(H:Hp):Prop:=match x with
 |.str _=>T="str"
 |.int _=>T="int"
 |.ref p=>(T="list" /\ ∃xs,c6 K H p xs)\/(T="tuple" /\ ∃o,K.lookup p=some o/\o.cls=.type "tuple" /\ o.dict=none) \/
   (T="dict" /\ ((∃kvs,H p=some (.dK kvs))\/∃kvs,H p=some (.dT kvs)))\/(T="set" /\ ∃S n,H p=some (.set S n))
 |_=>False
theorem Bk {pins:List (Addr×Obj)}{σ:St}{H:Hp}{s:Qb}{T:String}{x:V}{v:P_}(I:Inv X pins σ H s)(r:RelV x v)(ty:IF X.K T x H):
  s.TypeIs v T/\∀a,v=.ref a->∃ob,s.heap.get? a=some ob/\ob.dict=none:=by
 cases x with
 |str z =>
  obtain⟨t,rfl⟩:=r;cases (show T="str" from ty)
  exact⟨typeIs_str s z t,λ_ e=>nomatch e⟩
 |int i =>
  obtain⟨t,rfl⟩:=r;cases (show T="int" from ty)
  exact⟨typeIs_int s i t,λ_ e=>nomatch e⟩
 |ref p =>
  cases r;rcases ty with⟨rfl,xs,hq⟩|⟨rfl,o,hk,hc,hd⟩|⟨rfl,hk⟩|⟨rfl,S,n,hk⟩
  ·obtain⟨its,_,pl,_⟩:=I.list hq;refine⟨pl.isList.typeIs,λa e=>?_⟩;cases e;obtain⟨o,n,e,c,hd,_⟩:=pl;exact⟨o,e,hd⟩
  ·refine⟨⟨o,I.oB p o hk,hc⟩,λa e=>?_⟩;cases e;exact⟨o,I.oB _ o hk,hd⟩
  ·have z:∃o,s.heap.get? p=some o/\o.ExactDict:=by
    rcases hk with⟨kvs,hk⟩|⟨kvs,hk⟩
    ·obtain⟨_,_,_,_,o,_,_,e,ex,_⟩:=I.bz p _ hk;exact⟨o,e,ex⟩
    ·obtain⟨_,_,_,_,o,_,_,e,ex,_⟩:=I.bz p _ hk;exact⟨o,e,ex⟩
   obtain⟨o,e,ex⟩:=z;refine⟨⟨o,e,ex.1⟩,λa e2=>?_⟩;cases e2;exact⟨o,e,ex.2.1⟩
  ·obtain⟨o,_,_,_,e,ex,_⟩:=I.bz p _ hk;refine⟨⟨o,e,ex.1⟩,λa e2=>?_⟩;cases e2;exact⟨o,e,ex.2.1⟩
 |_=>exact SO ty
def M5 (K:PySem.W.Frag)(T:String)(r:V->List V->Hp->VK->Prop)(to:TE)(t:TA):TE:=λσ H Q=>to σ H λx H1=>IF K T x H1/\t σ H1 λxs H2=>r x xs H2 Q
variable {o e:Expr}{es:List Expr}{to:TE}{t:TA}{name:Str}{apos cpos:Pos}{T id:String}{r:V->List V->Hp->VK->Prop}
theorem vI (pa:PlainAttrs T) (slot:Slot T name id) (N1:typeOf (.builtin id)=pure (.type "method_descriptor")) (hm:OV X id r) (ho:PE X o to) (ha:PA X (e::es) t)
  (jR:Uy o name X.env (eval o X.env)=eval o X.env:=by rfl)
  (qr:((SF cpos (Qt (e::es) X.env)).all (λx=>!x.1)&&(backToKw cpos (UU [] X.env)).all (λx=>x.1.isSome)
   && decide ((e::es).length+([]:List Ur).length+(if ([]:List Ur).isEmpty then 0 else 1)<30))=true:=by rfl)
  (jP:(apos.endLine==cpos.line)=true:=by rfl) (hs:Qt (e::es) X.env=(false,eval e X.env)::Qt es X.env:=by rfl) (fR:(SF cpos (Qt es X.env)).any (·.1)=false:=by rfl) :
  PE X (.Call (.Attribute o name apos) (e::es) [] cpos) (M5 X.K T r to t):=by
 intro pins s σ H Q I h;refine wpAny_Call_method_late jR qr jP rfl (bQ (ho pins s σ H _ I h) λv s1 ⟨x,H1,I1,r1,ty,q1⟩=>?_);obtain⟨h1,h2⟩:=Bk I1 r1 ty;refine⟨T,id,pa,slot,N1,h1,h2,?_⟩;have hA:=ha cpos pins s1 σ H1 _ I1 q1;rw[hs]at hA ⊢
 refine Calls.callWith_builtin (by show (false || (SF cpos (Qt es X.env)).any (·.1))=false;rw[fR] <;> rfl) (Calls.evalArgs_plain ?_)
 exact bQ hA λus s2 ⟨vs,H2,I2,r2,q2⟩=>hm pins s2 σ H2 x vs v us Q I2 r1 r2 q2
end
def OW (X:Cx)(id:String)(r:V->List V->Hp->VK->Prop):Prop :=
 ∀(pins:List (Addr×Obj)) (s:Qb) (σ:St) (H:Hp) (x:V) (xs:List V) (v:P_) (us:List P_) (Q:VK),Inv X pins σ H s->RelV x v->Vals xs us->r x xs H Q ->
  QE (model X.prog X.w) X.A (call (.builtin id) (v::us)) (EP X pins σ Q) X.xe s
theorem Vals.one:∀{x:V} {us:List P_},Vals [x] us->∃u,us=[u]/\RelV x u
 |_,_,.cons r .nil=>⟨_,rfl,r⟩
theorem Vals.rep {xs:List V}{us:List P_}(h:Vals xs us):∀k:Nat,Vals (Qw k xs).flatten (Qw k us).flatten
 |0=>.nil
 |k+1=>by
  rw[Rt,Rt,R7,R7];exact Vals.append h (Vals.rep h k)
theorem foldl_rep (its:List P_):∀(k:Nat) (acc:List P_),
  List.foldl (λx1 x2=>x1++x2) acc.toArray (Qw k its.toArray)=(acc++(Qw k its).flatten).toArray
 |0,acc=>by simp
 |k+1,acc=>by
  have e:acc.toArray++its.toArray=(acc++its).toArray:=by simp
  have e2:(acc++its)++(Qw k its).flatten=acc++(Qw (k+1) its).flatten:=by
   rw[Rt,R7,Ru]
  rw[<- e2,<- foldl_rep its k (acc++its),<- e,Rt,Sz]
section
variable {X:Cx}{pins:List (Addr×Obj)}{σ:St}{H:Hp}{s:Qb}{l:Addr}{xs ys:List V}
theorem Inv.Jx {its its':List P_}{n:Nat}{f:Array P_->Array P_}{t':Nat}(I:Inv X pins σ H s)(hH:H l=some (.lst xs))
  (e:s.heap.get? l=some {cls:=.type "list",data:=.seq its.toArray n}) (hf:f its.toArray=its'.toArray) (hv:Vals ys its') (hz:ys.length<=Qp) :
  Inv X pins σ (upd H l (.lst ys)) {s with heap:=s.heap.update l (SN f),toks:=t'}:=by
 have q:=PySem.IsL.update e f;rw[hf]at q;refine I.write (x:=l) (e:=l) (by rw[hH];exact trivial) (.inl rfl) (λb' u hb hu=>(Heap.get?_update_other s.heap (SN f) (Rr hb)).trans hu) ⟨_,q⟩ ?_
 exact⟨hz,its',_,hv,q⟩
theorem Inv.Cp {its:List P_}{t':Nat}(I:Inv X pins σ H s)(hv:Vals ys its)(hz:ys.length<=Qp):
  Inv X pins σ (upd H s.heap.objs.size (.lst ys)) {s with heap:=s.heap.push {cls:=.type "list",data:=.seq its.toArray},toks:=t'} :=
 I.laid (λ_ _ q=>Qi _ q) (Qf _) ⟨hz,its,0,hv,QC _ rfl⟩
theorem Inv.fresh (I:Inv X pins σ H s):H s.heap.objs.size=none:=I.bz.fresh (Qf _)
theorem Inv.zd (I:Inv X pins σ H s)(hH:H l=some (.lst xs)):xs.length<=Qp/\∃(its:List P_) (n:Nat),Vals xs its/\xs.length=its.length/\s.heap.get? l=some {cls:=.type "list",data:=.seq its.toArray n}:=by
 obtain⟨z,its,n,r,e⟩:=I.bz l _ hH;exact⟨z,its,n,r,r.length,e⟩
theorem vW {n:Nat}(h:n<=Qp):TU n=false:=by
 unfold TU;exact decide_eq_false (by lia)
end
section
variable {X:Cx}
def qW:V->List V->Hp->VK->Prop:=λx vs H Q=>∃l xs y,x=.ref l/\vs=[y]/\H l=some (.lst xs)/\xs.length<Qp/\Q .d7 (upd H l (.lst (xs++[y])))
theorem fy:OW X "list.append" qW:=by
 intro pins s σ H x vs v us Q I rx rv h;obtain⟨l,xs,y,rfl,rfl,hH,hz,q⟩:=h;cases rx;obtain⟨u,rfl,ru⟩:=rv.one;obtain⟨z,its,n,r,hl,e⟩:=I.zd hH;refine call_meets F.slot_list_append ⟨_,e,rfl⟩ F.entry_list_append (F.args_list_append_2 _ _) (PySem.list_append l its.toArray n u (by rw[QR];lia)) ⟨e,?_⟩
 refine⟨.d7,_,I.Jx (its':=its++[u]) hH e (by simp) (r.append (.cons ru .nil)) ?_,rfl,q⟩
 rw[Qu,Ud];lia
def Jg:R2:=λx y H Q=>∃l b xs zs,x=.ref l/\y=.ref b/\H l=some (.lst xs)/\H b=some (.lst zs)/\xs.length+zs.length<=Qp/\∀p,H p=none->Q (.ref p) (upd H p (.lst (xs++zs)))
theorem vQ:j_ X (RF .Add) Jg:=by
 intro pins s σ H x y v u Q I rx ry h;obtain⟨l,b,xs,zs,rfl,rfl,hH,hB,hz,q⟩:=h;cases rx;cases ry;obtain⟨z,its,n,r,hl,e⟩:=I.zd hH;obtain⟨z2,tV,n2,r2,Ij,e2⟩:=I.zd hB;refine PySem.P.add_list e e2 ?_ (by rw[QR,QR];lia)
 have ea:its.toArray++tV.toArray=(its++tV).toArray:=by simp
 rw[ea];exact⟨.ref _,_,I.Cp (t':=s.toks) (r.append r2) (by rw[Qu];lia),rfl,q _ I.fresh⟩
def Jd:R2:=λx y H Q=>∃l k xs,x=.ref l/\y=.int k/\H l=some (.lst xs)/\-(2 ^ 63)<=k/\k<2 ^ 63/\xs.length*k.toNat<=Qp /\
 ∀p,H p=none->Q (.ref p) (upd H p (.lst (Qw k.toNat xs).flatten))
theorem len_rep {α:Type}(xs:List α)(k:Nat):(Qw k xs).flatten.length=k*xs.length:=by
 induction k with
 |zero=>simp
 |succ k ih=>rw[Rt,R7,Qu,ih,Nat.succ_mul,Nat.add_comm]
theorem BY:j_ X (RF .Mult) Jd:=by
 intro pins s σ H x y v u Q I rx ry h;obtain⟨l,k,xs,rfl,rfl,hH,h1,h2,hz,q⟩:=h;cases rx;obtain⟨t,rfl⟩:=ry;obtain⟨z,its,n,r,hl,e⟩:=I.zd hH;have hlen:its.toArray.size*k.toNat<=Qp:=by rw[QR,<- hl];exact hz
 have KQ:¬ its.toArray.size*k.toNat>(2 ^ 63-1) / 8:=by
  have:(Qp:Nat)<=(2 ^ 63-1) / 8:=by decide
  lia
 have KL:¬ (!Builtin.List.listFitsIndex k)=true:=by
  rw[fitsIndex_both h1 h2];exact Sv
 have GU:¬ TU (its.toArray.size*k.toNat)=true:=by
  rw[vW hlen];exact Sv
 have wK:List.foldl (λx1 x2=>x1++x2) #[] (Qw (if its.toArray.isEmpty=true then 0 else k.toNat) its.toArray)=(Qw k.toNat its).flatten.toArray:=by
  have f0:∀m:Nat,List.foldl (λx1 x2=>x1++x2) #[] (Qw m its.toArray)=(Qw m its).flatten.toArray:=λm=>by
   have:=foldl_rep its m [];rw[List.nil_append]at this;exact this
  rw[f0];cases its with
  |nil=>simp
  |cons a r'=>rw[if_neg (by simp)]
 refine wpAny_binaryOp_repeat_ref (T:="list") (U:="int") (by decide) ⟨_,e,rfl⟩ (λs'=>typeIs_int s' k t) noFill_list_mul F.fills_int_mul F.slot_int_rmul repeat_list F.slot_int_index.lookup
  (call_meets F.slot_int_rmul (typeIs_int s k t) F.entry_int_rmul (F.args_int_rmul_2 _ _) (int___rmul___int_list k t l its.toArray n)
   ⟨e,rfl,⟨_,e,rfl⟩,call_meets F.slot_list_mul ⟨_,e,rfl⟩ F.entry_list_mul (F.args_list_mul_2 _ _) (AutoListH.list___mul___list_int_3 l its.toArray n k t KL KQ GU) ⟨e,?_⟩⟩)
 rw[wK];exact⟨.ref _,_,I.Cp (t':=s.toks) (r.rep k.toNat) (by rw[len_rep,Nat.mul_comm];exact hz),rfl,q _ I.fresh⟩
end
section
end
section
end
end L2
namespace MT
open PySem PySem.W PySem.Calls PyProof.Rows
theorem iT {P:UB}{h:Heap}:∀(ns:List Int) (vs:List P_),WellAll P h vs (ns.map WData.int)->T8 vs ns:=by
 intro ns
 induction ns with
 |nil =>
  intro vs w;rw[List.map_nil]at w;cases w;exact .nil
 |cons n ns ih =>
  intro vs w;rw[QS]at w;cases w with
  |cons a b =>
   cases a;exact .cons _ _ (ih _ b)
theorem sP {l:OpenLaw}{n:Nat}(hn:l.most=some n){P:UB}{h:Heap}{args:List WData}{vals:List P_}
  (zv:l.row.toRowW.claim.pre args=true) (F1:WellAll P h vals args) :
  ∃a vs ns,vals=[Value.ref a]/\args=[WData.list (ns.map WData.int)]/\h.get? a=some {cls:=.type "list",data:=.seq vs.toArray}/\T8 vs ns/\ns.length<=n:=by
 have uI:WShape.hasAll [] args [.list .int]=true:=(pre_splitW zv).1;have hc:l.pre.holds [] {args:=args}=true:=(pre_splitW zv).2;obtain⟨d,r,rfl,h1,h2⟩:=hasAllW_cons uI;obtain rfl:=hasAllW_nil h2;obtain⟨xs,rfl,h3⟩:=hasW_list h1;obtain⟨ns,rfl⟩:=items_int h3;have hlen:ns.length<=n:=by
  unfold OpenLaw.pre at hc;have h4:(WTm.not (.lt (.lit (.int (n:Int))) (.len (.arg 0)))).holds [] {args:=[.list (ns.map .int)]}=true:=by
   have h4:=(holds_andW hc).1;rw[hn]at h4;exact h4
  have h5:=condW_of h4 (w_not (w_lt w_lit (w_len_list (w_arg rfl))));rw[Qa]at h5;refine Nat.le_of_not_lt λq=>?_;have q':(n:Int)<((ns.length:Nat):Int):=by lia
  first
   | (rw[decide_eq_true q']at h5;exact absurd h5 (by decide))
   | (simp at h5;lia)
 cases F1 with
 |cons w1 w2 =>
  cases w2;cases w1 with
  |list ho jS=>exact⟨_,_,ns,rfl,rfl,ho,iT ns _ jS,hlen⟩
theorem sX (l:OpenLaw)(args:List WData):l.row.toRowW.claim.post args (.bool true) args=true :=
 postW_of (r:=l.row.toRowW) (X:=(true==true))
  (show WShape.has [] (.bool true) .bool=true by first|rfl|decide|simp[WShape.has,WShape.arms,WShape.armsAll])
  (show (WTm.eq .res (.lit (.bool true))).value [] {args:=args,res:=some (.bool true),after:=args}=some (.bool (true==true)) from w_eq_bool (w_res rfl) w_lit) rfl
theorem pB {l:OpenLaw}{n:Nat}{q:Qd}{loose:List Str}{XP:(Str->Option P_)->Heap->Prop}{YP:Qq->Heap->Prop}{d:DefRec}
  (hn:l.most=some n) (KN:d.params.defaults=[])
  (call:∀(w:Qq) (s₀ s₁:Qb) (mg mb:Str->Option P_) (fa:Addr) (o:Obj) (pm cd doc:P_) (a:Addr) (vs:List P_) (ns:List Int),
   Ground q loose [] XP w s₀ mg mb s₁.heap->YP w s₁.heap ->
   s₁.heap.get? fa=some o->o.data=.func (docDef d.name d.params d.body d.scope pm cd doc)->s₁.heap.CodeRec cd d.name->mg d.name=some (.ref fa) ->
   s₁.heap.get? a=some {cls:=.type "list",data:=.seq vs.toArray}->T8 vs ns->ns.length<=n->s₁.gens=#[] ->
   T6 (model l.prog w) UI (.call (.ref fa) ⟨[.ref a],[]⟩) (λr s'=>r=.ok (.ret (.bool true))/\OldK s₁.heap s'.heap/\s'.os=s₁.os/\T9 s'.gens) s₁) :
  WalkO q loose XP YP l.row.toRowW d [] (λf vs=>PySem.call f vs):=by
 intro w s₀ s₁ mg mb G Y fa o pm cd doc dV kV ho hd ee hD Ku hg args vals as zv Og Pz F1 Kw;obtain rfl:dV=.none:=Dflts.none hD KN;obtain rfl:kV=.none:=Dflts.noKw hD;obtain⟨a,vs,ns,rfl,rfl,C7,hints,hlen⟩:=sP hn zv F1;refine enter_call (Tu (call w s₀ s₁ mg mb fa o pm cd doc a vs ns G Y ho (fd_plain hd) ee Ku C7 hints hlen hg) λr s' hq=>?_);obtain⟨rfl,h2,h3,h4⟩:=hq;exact⟨.inl ⟨.bool true,.bool true,[],rfl,λ_=>rfl,.bool true,sX l _,λ_=>⟨List.Pairwise.nil,λ_ hm=>(nomatch hm)⟩⟩,h2,h3,h4⟩
section
end
end MT
namespace L2
open PySem PySem.Spec PyProof.Rows
theorem kY:∀{vs:List P_} {ns:List Int},T8 vs ns->Vals (ns.map V.int) vs
 |_,_,.nil=>.nil
 |_,_,.cons n t h=>.cons ⟨t,rfl⟩ (kY h)
def DY (H:Hp):Prop:=∀b,H b=none\/∃o xs,H b=some (.rL o (.lst xs))
theorem we {P:Qd}{w:Qq}{K:PySem.W.Frag}{mg mb:Str->Option P_}{CX:xS}{k:Nat}{fa a:Addr}{fd:Q0}{x:Str}{sp:Sp}{s₁:Qb}{vs:List P_}{ns:List Int}
  (KX:K.In s₁.heap) (El:s₁.heap.Ns RE mg) (hb:s₁.heap.Ns builtinsNs mb) (Oz:∀x:Str,x≠"__name__" -> mb x=Rb x) (Kx:s₁.heap.NoLimit) (hg:s₁.gens=#[])
  (ha:s₁.heap.get? a=some {cls:=.type "list",data:=.seq vs.toArray}) (hi:T8 vs ns) (hl:ns.length<=Qp) (hr:da k UI)
  (F:∀base:Heap,K.In base->base.Ns RE mg->a9 P w K mg base CX k fa fd [x] sp) (G3:∀(s:Qb) (u:P_),BindsTo s fd ⟨[u],[]⟩ [(x,u)])
  (lD:∀H:Hp,DY H->c6 K H a (ns.map V.int)->sp [.ref a] H (λv _=>v=.bl true) λ_ _ _=>False)
  (KZ:∀H e s',CX [] H s₁ (λ_ _ _=>False) e s'->False) :
  T6 (model P w) UI (.call (.ref fa) ⟨[.ref a],[]⟩) (λr s'=>r=.ok (.ret (.bool true))/\OldK s₁.heap s'.heap/\s'.os=s₁.os/\T9 s'.gens) s₁:=by
 have rv:=kY hi;have JB:=hi.length;have core:∀H:Hp,DY H->c6 K H a (ns.map V.int)->fY P w H s₁.heap->(∀b,H b≠none->b=a)->(H a≠none->K.lookup a=none) ->
   T6 (model P w) UI (.call (.ref fa) ⟨[.ref a],[]⟩) (λr s'=>r=.ok (.ret (.bool true))/\OldK s₁.heap s'.heap/\s'.os=s₁.os/\T9 s'.gens) s₁:=by
  intro H hO hS bz hA hK;have sd:∀{b:Addr} {o:Obj},s₁.heap.get? b=some o->H b=none->(mQ s₁.heap H).get? b=some o:=λe n=>wO e n;have Fv:∀{b:Addr} {o:Obj} {es:Array To} {ep:Nat},s₁.heap.get? b=some o->o.data=.dict es ep->H b=none:=λ{b o es ep} e d=>by
   cases q:H b with
   |none=>rfl
   |some u =>
    have e':b=a:=hA b (by rw[q];simp)
    subst e';rw[ha]at e;cases e;have d':Data.seq vs.toArray _=Data.dict es ep:=d;cases d'
  have HV:∀{b:Addr} {m:Str->Option P_},s₁.heap.Ns b m->(mQ s₁.heap H).Ns b m:=λ{b m} ⟨o,es,ep,e,d,r⟩=>⟨o,es,ep,sd e (Fv e d),d,r⟩;have Mz:K.In (mQ s₁.heap H):=λb o e=>sd (KX b o e) (by
   cases q:H b with
   |none=>rfl
   |some u =>
    have e':b=a:=hA b (by rw[q];simp)
    subst e';rw[hK (by rw[q];simp)]at e;cases e)
  have hM:Mod K mg (mQ s₁.heap H):=⟨Mz,HV El,⟨mb,HV hb,Oz⟩,let ⟨mc,h1,h2⟩:=Kx;⟨mc,HV h1,h2⟩⟩
  have e0:Ab P w K mg (mQ s₁.heap H) UI [] s₁ H:=⟨rfl,hM,λb o e=>yX e,Nat.le_of_eq (ua _ _),trivial,λb hb=>absurd (show b∈([]:List Addr) from hb) (by simp),bz,.of_eq hg⟩
  refine Tu ((F _ Mz (HV El)).run UI [] s₁ H ⟨[.ref a],[]⟩ [.ref a] [.ref a] _ _ hr e0 (G3 s₁ (.ref a)) (.cons rfl .nil) (lD H hO hS)) λr s' h=>?_;cases r with
  |error e=>exact(KZ H e s' h).elim
  |ok fl =>
   cases fl with
   |next=>exact SO h
   |brk=>exact SO h
   |cont=>exact SO h
   |ret u =>
    obtain⟨v,H',os,bare,un,Ko,r',q⟩:=h;have q':v=.bl true:=q;subst q';obtain rfl:u=Value.bool true:=r';refine⟨rfl,OldK.of_keep λb o e=>?_,os,bare⟩;cases q:H b with
    |none=>exact un.keep b o e q (by intro z;exact absurd (show b∈([]:List Addr) from z) (by simp)) (by simp)
    |some u =>
     rcases hO b with z|⟨ob,xs,z⟩
     ·rw[q]at z;cases z
     ·have z2:=un.jV b ob _ z;obtain⟨e1,_⟩:=bz b _ z;obtain⟨e2,_⟩:=Ko b _ z2;rw[e]at e1;cases e1;exact e2
 cases hk:K.lookup a with
 |some o =>
  have e:=KX a o hk;rw[ha]at e;cases e;refine core (λ_=>none) (λ_=>.inl rfl) (.inr ⟨_,vs.toArray,_,hk,rfl,rfl,rfl,by rw[QR,JB];exact hl,by simpa using rv⟩) (λb u z=>by have z':(none:Option HO)=some u:=z;cases z') (λb z=>absurd rfl z) λz=>absurd rfl z
 |none =>
  refine core (λb=>if b=a then some (.rL {cls:=.type "list",data:=.seq vs.toArray} (.lst (ns.map V.int))) else none) (λb=>?_) (.inl (.inr ⟨{cls:=.type "list",data:=.seq vs.toArray},if_pos rfl⟩)) (λb u z=>?_) (λb z=>?_) λ_=>hk
  ·by_cases hb:b=a
   ·exact .inr ⟨_,_,if_pos hb⟩
   ·exact .inl (if_neg hb)
  ·by_cases hb:b=a
   ·have z':=(if_pos hb).symm.trans z;cases z';subst hb;exact⟨ha,by rw[Qa];exact hl,vs,_,rv,ha⟩
   ·have z':=(if_neg hb).symm.trans z;cases z'
  ·by_cases hb:b=a
   ·exact hb
   ·exact absurd (if_neg hb) z
theorem xX {l:PySem.W.OpenLaw}{n k:Nat}{q:Qd}{loose:List Str}{XP:(Str->Option P_)->Heap->Prop}{YP:Qq->Heap->Prop}{d:DefRec}{K:UB->PySem.W.Frag}{CX:Qq->xS}{sp:Qq->Sp}{x:Str}
  (hn:l.most=some n) (Ig:n<=Qp) (KN:d.params.defaults=[]) (hr:da k UI)
  (hY:∀(w:Qq) (h:Heap),YP w h->(K w.params).In h)
  (F:∀(w:Qq) (mg:Str->Option P_) (fa:Addr) (h:Heap),(K w.params).In h->h.Ns RE mg->mg d.name=some (.ref fa) ->
   ∃fd:Q0,(∀(s:Qb) (u:P_),BindsTo s fd ⟨[u],[]⟩ [(x,u)]) /\
    ∀base:Heap,(K w.params).In base->base.Ns RE mg->a9 l.prog w (K w.params) mg base (CX w) k fa fd [x] (sp w))
  (lD:∀(w:Qq) (H:Hp) (a:Addr) (ns:List Int),ns.length<=n->DY H->c6 (K w.params) H a (ns.map V.int)->sp w [.ref a] H (λv _=>v=.bl true) λ_ _ _=>False)
  (KZ:∀(w:Qq) (H:Hp) (s:Qb) (e:P_) (s':Qb),CX w [] H s (λ_ _ _=>False) e s'->False) :
  PySem.W.WalkO q loose XP YP l.row.toRowW d [] (λf vs=>PySem.call f vs):=by
 refine MT.pB hn KN λw s₀ s₁ mg mb fa o pm cd doc a vs ns G Y ho hd ee Ku C7 hints hlen hg=>?_;have KX:=hY w _ Y;obtain⟨fd,hb,hF⟩:=F w mg fa _ KX G.T.g Ku;exact we KX G.T.g G.T.b G.T.builtins G.T.nolimit hg C7 hints (Q6 hlen Ig) hr hF hb (λH hO hS=>lD w H a ns hlen hO hS) λH e s'=>KZ w H s₁ e s'
abbrev cW:xS:=λ_ _ _ _ _ _=>False
abbrev E0:XK:=λ_ _ _=>False
theorem vK {X:Cx}:Passes cW X E0:=λ_ _ _ _ _ _ _ h=>h.elim
structure xR (K:PySem.W.Frag)(x qual:Str)(st:Stmt)(f:Addr)(fd:Q0):Prop where
 ex:∃(oc:P_) (od:Option Addr) (kV doc pm:P_) (an:Option Addr) (c5 ct:P_) (BW:Array (Option P_)),
  fd=PySem.W.fnOf x qual (ja st) (dI st) (aC st) .none kV doc pm an c5 ct/\K.lookup f=some ⟨oc,od,.func fd,BW⟩/\PySem.W.codeIn K c5 qual=true
 kp:PySem.W.keepIn K (.ref f)=true
section
variable {P:Qd}{w:Qq}{K:PySem.W.Frag}{mg:Str->Option P_}{base:Heap}
theorem xR.ok {x qual:Str}{st:Stmt}{f:Addr}{fd:Q0}{N ps:List Str}{k:Nat}{sp:Sp}(F:xR K x qual st f fd)(S:aS N ps (aC st))(len:∀vs H Q E,sp vs H Q E->vs.length=ps.length)
  (jQ:∀(c5:P_) (A:Rj) (outer:List Env) (s:Qb) (H:Hp) (vs:List V) (Q:VK) (E:XK),da k (A.deeper (T5 qual (aC st) s.heap.objs.size f c5))->sp vs H Q E ->
   ∃t,pG (kS cW P w K mg base N qual (aC st) f c5 A outer s H E).Aq (dI st) t/\t {nx:=λ_ H'=>Q .d7 H',rt:=Q} (start N vs) H):a9 P w K mg base cW (k+1) f fd ps sp:=by
 obtain⟨oc,od,kV,doc,pm,an,c5,ct,BW,rfl,lk,ee⟩:=F.ex;refine G_ lk ee S len λA outer s H vs Q E hr lD=>?_;obtain⟨t,h,q⟩:=jQ c5 A outer s H vs Q E hr lD;exact⟨t,h.Aq,q⟩
theorem Ds {x qual:Str}{st:Stmt}{f:Addr}{oc:P_}{od an:Option Addr}{BW:Array (Option P_)}{kV doc pm c5 ct:P_}(l:K.lookup f=some ⟨oc,od,.func (PySem.W.fnOf x qual (ja st) (dI st) (aC st) .none kV doc pm an c5 ct),BW⟩)
  (c:PySem.W.codeIn K c5 qual=true) (k:PySem.W.keepIn K (.ref f)=true):xR K x qual st f (PySem.W.fnOf x qual (ja st) (dI st) (aC st) .none kV doc pm an c5 ct):=⟨⟨oc,od,kV,doc,pm,an,c5,ct,BW,rfl,l,c⟩,k⟩
end
section
variable {X:Cx}
theorem pv (i:Nat){x:Str}{pos:Pos}(hN:X.N[i]?=some x:=by rfl)(hv:m6 X.env.scope x:=by first|exact Or.inl rfl|exact Or.inr (Or.inl rfl)|exact Or.inr (Or.inr rfl))(hd:(x==("__debug__" : Str))=false:=by decide)
  (ee:(x==("__classdict__" : Str))=false:=by decide):PE X (.Name x pos) (EJ i):=cy hN hv hd ee
end
def az (H H':Hp):Prop:=∀b o,H b=some o->H' b=some o
theorem az.refl (H:Hp):az H H:=λ_ _ h=>h
theorem az.trans {H H1 H2:Hp}(a:az H H1)(b:az H1 H2):az H H2:=λc o h=>b c o (a c o h)
theorem az.free {H H':Hp}(e:az H H'){l:Addr}(h:H' l=Option.none):H l=Option.none:=by
 cases q:H l with
 |none=>rfl
 |some o =>
  rw[e l o q]at h;cases h
theorem az.seq {K:PySem.W.Frag}{H H':Hp}{a:Addr}{xs:List V}(e:az H H')(h:c6 K H a xs):c6 K H' a xs:=by
 rcases h with (h|⟨o,h⟩)|h
 ·exact .inl (.inl (e _ _ h))
 ·exact .inl (.inr ⟨o,e _ _ h⟩)
 ·exact .inr h
section
variable {X:Cx}
def lT (i j:Int):Prop:=0<j/\j.natAbs.log2<9000
theorem lT.of {i j:Int}(h0:0<j)(h:j<2 ^ 200):lT i j:=by
 refine⟨h0,?_⟩;have h2:j.natAbs<2 ^ 200:=by lia
 have:=(Nat.log2_lt (n:=j.natAbs) (k:=200) (by lia)).mpr h2
 lia
theorem jC:j_ X (RF .FloorDiv) (rI lT λi j=>.int (i / j)):=Fn λi j _ _ _ _ _ hc q=>by
 have h1:(0:Int)<j:=hc.1;exact floordiv_int (by lia) (by rw[Int.fdiv_eq_ediv_of_nonneg i (by lia)];exact q) (.inl (TN hc.2))
variable {r:R2}{t:V->TE}
theorem xr:eU X (.builtin "isinstance") (λxs H Q=>∃x n t k,xs=[x,.ty n]/\gN X.K H x t/\PySem.W.kitOne X.K t (.type n)=some k/\Q (.bl k) H):=by
 intro pins s σ H xs us Q I r h;obtain⟨x,n,t,k,rfl,ty,e,q⟩:=h;obtain⟨u,w',rfl,r1,r2⟩:=vals2 r;cases r2;exact tY I r1 ty e λtk=>⟨.bl k,H,I.tok _,rfl,q⟩
end
theorem mY:Rb "max" = some (.builtin "max"):=by decide +kernel
theorem mX:Rb "min" = some (.builtin "min"):=by decide +kernel
theorem DJ:Rb "int" = some (.type "int"):=by decide +kernel
theorem zZ:Rb "bool" = some (.type "bool"):=by decide +kernel
theorem fA:Rb "list" = some (.type "list"):=by decide +kernel
theorem ux:Rb "sorted" = some (.builtin "sorted"):=by decide +kernel
theorem DI:Rb "isinstance" = some (.builtin "isinstance"):=by decide +kernel
theorem eM:Rb "len" = some (.builtin "len"):=by decide +kernel
theorem FQ {c A B:Prop}[Decidable c](hc:c)(h:A):if decide c=true then A else B:=by
 rw[if_pos (decide_eq_true hc)];exact h
theorem FR {c A B:Prop}[Decidable c](hc:¬ c)(h:B):if decide c=true then A else B:=by
 rw[if_neg (by simp[hc])]
 exact h
theorem JN {c A B:Prop}[Decidable c](h1:c->A)(h2:¬ c->B):if decide c=true then A else B:=by
 by_cases h:c
 ·exact FQ h (h1 h)
 ·exact FR h (h2 h)
theorem az.new {H:Hp}{p:Addr}{o:HO}(n:H p=none):az H (L2.upd H p o):=λb u e=>by rw[aw (cz e n)];exact e
section
end
theorem Fh:kT 10 18:=⟨by decide,by decide,by decide⟩
section
theorem mK {a:Int}{b:Int}(h:0<b):0<=a % b/\a % b<b:=⟨Int.emod_nonneg a (by lia),Int.emod_lt_of_pos a h⟩
end
noncomputable def aF (X:Cx)(scope:Sd)(N':List Str)(cl:List (Str×Addr))(C:Addr)(s:Qb)(H:Hp)(ex:List Addr):Cx :=
 {X with N:=N',s₀:=s,H₀:=H,env:=compEnvC scope cl C X.env,outer:=X.stack,stack:=X.stack,ex:=ex,fn:=λ_=>false,pn:=[],xe:=λ_ _=>False}
theorem fU {env:Env}:∀(names:List (Str×Sh)) (cs:List (Str×Addr)),(∀x,(x,QK)∈names->∃c,env.cells.lookup x=some c) ->
  (∀x c,cs.lookup x=some c->env.cells.lookup x=some c) ->
  ∃cl,(forIn names cs λ(p:Str×Sh) (cs:List (Str×Addr))=>do
   if p.2==.free then do
    let a <- cellOf env p.1
    pure (Uc ((p.1,a)::cs))
   else pure (Uc cs):Sem (List (Str×Addr)))=pure cl /\
   (∀x,((x,QK)∈names\/(∃c,cs.lookup x=some c))->∃c,cl.lookup x=some c)/\∀x c,cl.lookup x=some c->env.cells.lookup x=some c
 |[],cs,_,Ik=>⟨cs,rfl,λx h=>h.elim (λz=>nomatch z) id,Ik⟩
 | (n,k)::names,cs,hf,Ik=>by
  by_cases hk:k=.free
  ·subst hk;obtain⟨c,hc⟩:=hf n (Ra ..);obtain⟨cl,e,h1,h2⟩:=fU names ((n,c)::cs) (λx hx=>hf x (QM _ hx)) (λx c' hx=>by
    rw[QZ]at hx;cases q:x==n with
    |true=>rw[q]at hx;cases hx;rw[eq_of_beq q];exact hc
    |false=>rw[q]at hx;exact Ik x c' hx)
   refine⟨cl,?_,λx hx=>h1 x ?_,h2⟩
   ·rw[Ub];have ec:cellOf env n=pure c:=by unfold cellOf;rw[hc]
    simp only[beq_self_eq_true,if_true,ec];exact e
   ·rcases hx with hx|⟨c',hx⟩
    ·rcases Qc.mp hx with z|z
     ·cases z;exact .inr ⟨c,by simp⟩
     ·exact .inl z
    ·right
     rw[QZ];cases q:x==n with
     |true=>exact⟨c,rfl⟩
     |false=>exact⟨c',hx⟩
  ·obtain⟨cl,e,h1,h2⟩:=fU names cs (λx hx=>hf x (QM _ hx)) Ik;refine⟨cl,?_,λx hx=>h1 x ?_,h2⟩
   ·rw[Ub];have hb:(k==QK)=false:=by simpa using hk
    simp only[hb,Sw,if_false];exact e
   ·rcases hx with hx|hx
    ·rcases Qc.mp hx with z|z
     ·cases z;exact absurd rfl hk
     ·exact .inl z
    ·exact .inr hx
theorem dU {env:Env}{scope:Sd}(h:∀x,(x,QK)∈scope.names->∃c,env.cells.lookup x=some c):
  ∃cl,closureFor scope env=pure cl/\(∀x,(x,QK)∈scope.names->∃c,cl.lookup x=some c)/\∀x c,cl.lookup x=some c->env.cells.lookup x=some c:=by
 obtain⟨cl,e,h1,h2⟩:=fU scope.names [] h (λx c z=>by simp at z)
 refine⟨cl,?_,λx hx=>h1 x (.inl hx),h2⟩;unfold closureFor;refine Eq.trans ?_ (congrArg (· >>= pure) e);rfl
structure Links (X:Cx)(scope:Sd)(N':List Str)(lk:List (Option Nat)):Prop where
 kind:scope.kind=.function
 qg:∀x∈scope.names,x.2≠.cell
 names:∀x∈scope.names,x.2=.local->scope.names.lookup x.1=some .local
 free:∀x,(x,QK)∈scope.names->X.env.kindOf x=some .cell\/X.env.kindOf x=some .free
 len:lk.length=N'.length
 link:∀(i j:Nat),lk[i]?=some (some j)->∃x,N'[i]?=some x/\X.N[j]?=some x/\(x,QK)∈scope.names/\scope.names.lookup x=some .free
noncomputable def fO (outer:List (Str×Sh))(N:List Str)(scope:Sd)(N':List Str)(lk:List (Option Nat)):Bool :=
 (scope.kind==.function)&&scope.names.all (λx=>x.2 != .cell&&(x.2 != .local || scope.names.lookup x.1==some .local)&&(x.2 != .free || outer.lookup x.1==some .cell || outer.lookup x.1==some .free)) &&
 lk.length==N'.length&&(QQ lk.length).all λi=>match lk[i]? with
  |some (some j)=>match N'[i]? with
   |some x=>N[j]?==some x&&scope.names.contains (x,.free)&&scope.names.lookup x==some .free
   |none=>false
  |_=>true
theorem Links.of {X:Cx}{scope:Sd}{N':List Str}{lk:List (Option Nat)}(h:fO X.env.scope.names X.N scope N' lk=true):Links X scope N' lk:=by
 simp only[fO,QU]at h;obtain⟨⟨⟨h1,h2⟩,h3⟩,h4⟩:=h;rw[Sj]at h2 h4;refine⟨by simpa using h1,λx hx=>?_,λx hx hl=>?_,λx hx=>?_,by simpa using h3,λi j aD=>?_⟩
 ·have:=h2 x hx;simp only[QU]at this;simpa using this.1.1
 ·have:=h2 x hx;simp only[QU]at this;have q:=this.1.2;rw[hl]at q;simpa using q
 ·have:=h2 _ hx;simp only[QU]at this;have q:=this.2;simp only[U6]at q;rcases q with (q|q)|q
  ·simp at q
  ·exact .inl (show X.env.scope.names.lookup x=some .cell by simpa using q)
  ·exact .inr (show X.env.scope.names.lookup x=some .free by simpa using q)
 ·have hi:i<lk.length:=(Qg.mp aD).1;have q:=h4 i (RK.mpr hi);rw[aD]at q;simp only at q;cases e:N'[i]? with
  |none=>rw[e]at q;simp at q
  |some x =>
   rw[e]at q;simp only[QU]at q;obtain⟨⟨q1,q2⟩,q3⟩:=q;exact⟨x,rfl,by simpa using q1,by simpa using q2,by simpa using q3⟩
noncomputable def cN (lk:List (Option Nat))(σ:St):St:=lk.map λl=>match l with|some j=>(match σ[j]? with|some v=>v|none=>none)|none=>none
theorem b_ {env:Env}:∀{names:List (Str×Sh)} {x:Str},names.lookup x=some .free ->
  (names.map λ(n,k)=>if (k==QK&&env.scope.kind==.function&&env.kindOf n==some .cell) then (n,Q8) else (n,k)).lookup x=some .cell \/
  (names.map λ(n,k)=>if (k==QK&&env.scope.kind==.function&&env.kindOf n==some .cell) then (n,Q8) else (n,k)).lookup x=some .free
 |[],_,h=>by simp at h
 | (n,k)::r,x,h=>by
  have ih:=@b_ env r x;show List.lookup x ((if (k==QK&&env.scope.kind==.function&&env.kindOf n==some .cell)=true then (n,Q8) else (n,k))::_)=_ \/
   List.lookup x ((if (k==QK&&env.scope.kind==.function&&env.kindOf n==some .cell)=true then (n,Q8) else (n,k))::_)=_
  cases hx:x==n with
  |true =>
   simp only[QZ,hx]at h;cases h
   by_cases hc:(QK==QK&&env.scope.kind==.function&&env.kindOf n==some .cell)=true
   ·rw[if_pos hc];left;simp[QZ,hx]
   ·rw[if_neg hc];right;simp[QZ,hx]
  |false =>
   simp only[QZ,hx]at h
   by_cases hc:(k==QK&&env.scope.kind==.function&&env.kindOf n==some .cell)=true
   ·rw[if_pos hc];simp only[QZ,hx];exact ih h
   ·rw[if_neg hc];simp only[QZ,hx];exact ih h
theorem c9 {env:Env}:∀{names:List (Str×Sh)} {x:Str} {k:Sh},(k=.cell\/k=.free)->(∀y∈names,y.2≠.cell) ->
  (names.map λ(n,k)=>if (k==QK&&env.scope.kind==.function&&env.kindOf n==some .cell) then (n,Q8) else (n,k)).lookup x=some k->(x,QK)∈names
 |[],_,_,_,_,h=>by simp at h
 | (n,k')::r,x,k,hk,hc,h=>by
  have ih:=@c9 env r x k hk (λy hy=>hc y (QM _ hy));have h':List.lookup x ((if (k'==QK&&env.scope.kind==.function&&env.kindOf n==some .cell)=true then (n,Q8) else (n,k'))::(r.map λ(n,k)=>if (k==QK&&env.scope.kind==.function&&env.kindOf n==some .cell) then (n,Q8) else (n,k)))=some k:=h
  have Kz:=hc (n,k') (Ra ..)
  by_cases zC:(k'==QK&&env.scope.kind==.function&&env.kindOf n==some .cell)=true
  ·rw[if_pos zC]at h';simp only[QU,beq_iff_eq]at zC;cases hx:x==n with
   |true=>rw[eq_of_beq hx,zC.1.1];exact Ra ..
   |false=>rw[QZ,hx]at h';exact QM _ (ih h')
  ·rw[if_neg zC]at h';cases hx:x==n with
   |true =>
    rw[QZ,hx]at h';have e:k'=k:=by simpa using h'
    subst e;rcases hk with hk|hk
    ·exact absurd hk Kz
    ·rw[eq_of_beq hx,hk];exact Ra ..
   |false=>rw[QZ,hx]at h';exact QM _ (ih h')
section
variable {X:Cx}{pins:List (Addr×Obj)}{σ:St}{H:Hp}{s:Qb}{scope:Sd}{N':List Str}{lk:List (Option Nat)}{cl:List (Str×Addr)}{ex:List Addr}
theorem wA {h':Heap}{t':Nat}(I:Inv X pins σ H s)(L:Links X scope N' lk)(hex:∀b∈ex,dw X pins H b)(C8:∀b∈ex,∃o,s.heap.get? b=some o)
  (gQ:∀x,(x,QK)∈scope.names->∃c,cl.lookup x=some c) (kc:∀x c,cl.lookup x=some c->X.env.cells.lookup x=some c)
  (hn:h'.Ns s.heap.objs.size (λ_=>none)) (hk:∀b o,s.heap.get? b=some o->h'.get? b=some o) :
  Inv (aF X scope N' cl s.heap.objs.size s H ex) [] (cN lk σ) H {s with heap:=h',toks:=t'}:=by
 obtain⟨m,hm,hl⟩:=I.loc;have Ip:∀b∈ex,b≠s.heap.objs.size:=λb hb=>by
  obtain⟨o,e⟩:=C8 b hb;exact QO (Qs e)
 refine⟨⟨I.ok.mod,L.kind,I.ok.glob,I.ok.blt,Qf _,λx y c h1 h2=>I.ok.inj x y c (kc _ _ h1) (kc _ _ h2),λx hx=>?_,λx c z=>(nomatch z),I.ok.hd,I.ok.frames,.inl rfl,
  λb hb=>⟨Ip b hb,λx c e=>(hex b hb).2.2.2.2.1 x c (kc _ _ e)⟩,I.bs,Q6 I.ok.xP I.sz,λb o e z=>?_,λb hb z=>?_,I.stack,I.l0⟩,
  rfl,I.bare,Un.kept hk,⟨_,hn,λi x v h1 h2 h3=>?_⟩,λx c e=>?_,I.bz.fresh (Qf _),λx c e=>I.fm x c (kc _ _ e),λp hp=>absurd (show p∈([]:List (Addr×Obj)) from hp) (by simp),I.bz.kept hk,?_⟩
 ·have xJ:(relabel scope X.env).names.lookup x=some .cell\/(relabel scope X.env).names.lookup x=some .free:=hx;rcases xJ with q|q
  ·exact gQ x (c9 (.inl rfl) L.qg q)
  ·exact gQ x (c9 (.inr rfl) L.qg q)
 ·obtain⟨f0,f1,f2,f3,_⟩:=hex b z;rcases f3 with q|q
  ·exact I.ok.tE b o e q
  ·have h1:=Qs e;have h2:=I.ok.xP;exact absurd (QA h1 (Q6 h2 q)) (S4 _)
 ·obtain⟨f0,f1,f2,f3,_⟩:=hex b hb;rcases Qc.mp (I.lZ b z)with q|q
  ·exact f1 q
  ·exact f2 q
 ·have hi:∃j,lk[i]?=some (some j)/\σ[j]?=some (some v):=by
   have kh:(cN lk σ)[i]?=some (some v):=h2;unfold cN at kh;rw[Ql]at kh;cases e:lk[i]? with
   |none=>rw[e]at kh;cases kh
   |some l =>
    cases l with
    |none=>rw[e]at kh;cases kh
    |some j =>
     rw[e]at kh;cases e2:σ[j]? with
     |none=>simp[e2]at kh
     |some w' =>
      simp only[S5,e2,UK]at kh;subst kh;exact⟨j,rfl,e2⟩
  obtain⟨j,hj,hσ⟩:=hi;obtain⟨y,e1,e2,e3,e4⟩:=L.link i j hj;have K7:x=y:=by
   have pK:N'[i]?=some x:=h1;rw[e1]at pK;exact(Q3 pK).symm
  subst K7;have CL:m6 X.env.scope x:=by
   rcases L.free x e3 with q|q
   ·exact .inr (.inl q)
   ·exact .inr (.inr q)
  obtain⟨u,ru,lu⟩:=hl j x v e2 hσ CL;refine⟨u,ru,.inr ⟨?_,?_⟩⟩
  ·exact b_ e4
  ·rcases lu with⟨k,_⟩|⟨_,c,hc,z⟩
   ·rcases L.free x e3 with q|q <;> (rw[k]at q;cases q)
   ·obtain⟨c',kg⟩:=gQ x e3;have:=kc x c' kg;rw[hc]at this;cases this;obtain⟨o,ho,hd⟩:=z;exact⟨c,kg,o,hk _ _ ho,hd⟩
 ·obtain⟨v,o,ho,hd⟩:=I.cell x c (kc _ _ e);exact⟨v,o,hk _ _ ho,hd⟩
 ·show (cN lk σ).length=N'.length;unfold cN;rw[Qa,L.len]
theorem wB {s':Qb}{σ':St}{H':Hp}{pl:List (Addr×Obj)}{C:Addr}{h'':Heap}(I:Inv X pins σ H s)(hex:∀b∈ex,dw X pins H b)
  (J:Inv (aF X scope N' cl s.heap.objs.size s H ex) pl σ' H' s') (hs:Su s.heap.objs.size s'.heap h''):Inv X pins σ H' {s' with heap:=h''}:=by
 have hC:H' s.heap.objs.size=none:=J.free;have u:=J.base;refine I.AS (ch:=ex) (s':={s' with heap:=h''}) J.os ?_ ?_ J.bare (λb hb=>?_)
 ·have kk:∀b o,b≠s.heap.objs.size->s'.heap.get? b=some o->h''.get? b=some o:=λb o hb e=>(hs.2 b hb).trans e;have ne:∀b o,s.heap.get? b=some o->b≠s.heap.objs.size:=λb o e=>QO (Qs e);refine⟨λb o e n hb hx=>kk b _ (ne b o e) (u.keep b o e n hb hx),λb o e n hb hx=>?_,u.free,λb o e hx=>?_,u.kn,u.jV,u.kq⟩
  ·obtain⟨sl,q⟩:=u.slot b o e n hb hx;exact⟨sl,kk b _ (ne b o e) q⟩
  ·obtain⟨o',q⟩:=u.there b o e hx;exact⟨o',kk b _ (ne b o e) q⟩
 ·intro b o e;have hb:b≠s.heap.objs.size:=λz=>by rw[z]at e;rw[hC]at e;cases e
  refine(J.bz b o e).l3 (λc v hc q=>(hs.2 c ?_).trans q) (λ_ q=>q) λ_ _ q=>q;rcases hc with z|z
  ·rw[z];exact hb
  ·intro z';rw[z']at z;rw[hC]at z;cases z
 ·obtain⟨f0,f1,f2,f3,f4,f5⟩:=hex b hb;exact⟨f3,f1,f4,f5⟩
end
noncomputable def jh (g:Sa)(after:Sem Fin->Sem Fin)(e:Expr)(d:Nat)(it acc:P_)(env:Env):Sem Fin:=do
 T3 g.iter.pos
 match <- T4 it with
 |none=>pure (.done .next)
 |some v =>
  T_ g.target it v
  assign g.target env v
  let mut ok:=true
  for c in g.ifs do
   if ok then ok <- isTrue c env (eval c env)
  if ok then after (again (.compLoop e d it acc env)) else again (.compLoop e d it acc env)
noncomputable def mI (e:Expr)(d:Nat)(g':Sa)(acc:P_)(env:Env)(k:Sem Fin):Sem Fin:=do
 let x <- eval g'.iter env
 T3 g'.iter.pos
 let x <- QX g'.iter env x
 let _ <- runOwn (.compStart e (d+1) (<- holding [x] (UA x)) acc env) env
 k
def jk (t:Sem Unit)(k:Sem Fin):Sem Fin:=do
 t
 k
def rS (elt:Expr)(acc:P_)(env:Env):Sem Unit:=do let _ <- call (.builtin "list.append") [acc,<- eval elt env]
noncomputable def xc (k v:Expr)(acc:P_)(env:Env):Sem Unit:=do
    let kv <- eval k env
    let vv <- holding [kv] (eval v env)
    match acc with
    |.ref d=>do
     T3 {k.pos with endLine:=v.pos.endLine,endCol:=v.pos.endCol}
     holding [kv,vv] (dictSet d kv vv)
    |_=>unsupported "internal:dictcomp"
structure eV (e:Expr)(d:Nat)(g:Sa)(acc:P_)(env:Env)(after:Sem Fin->Sem Fin):Prop where
 turn:∀it,compTurn e d it acc env=jh g after e d it acc env
 cl:(clausesOf e)[d]?=some g
 sync:g.is_async=0
 quiet:∀it,(TR e d it acc env).quiet=true
 under:∀(A:Rj) it,A.under (TR e d it acc env)=A
 Bi:∀(A:Rj) it,A.under (Vd e d it acc env)=A
 Cc:∀it,(TR e d it acc env).isFrame=false
 Fu:∀it,(Vd e d it acc env).isFrame=false
section
variable {elt tg va cj mP k v:Expr}{ifs kG:List Expr}{sc:Sd}{pos:Pos}{acc:P_}{env:Env}
theorem xo:eV (.ListComp elt [⟨tg,cj,ifs,0⟩] sc pos) 0 ⟨tg,cj,ifs,0⟩ acc env (jk (rS elt acc env)) :=
 ⟨λ_=>rfl,rfl,rfl,λ_=>rfl,λ_ _=>rfl,λ_ _=>rfl,λ_=>rfl,λ_=>rfl⟩
theorem Ho:eV (.DictComp k v [⟨tg,cj,ifs,0⟩] sc pos) 0 ⟨tg,cj,ifs,0⟩ acc env (jk (xc k v acc env)) :=
 ⟨λ_=>rfl,rfl,rfl,λ_=>rfl,λ_ _=>rfl,λ_ _=>rfl,λ_=>rfl,λ_=>rfl⟩
theorem DH:eV (.ListComp elt [⟨tg,cj,ifs,0⟩,⟨va,mP,kG,0⟩] sc pos) 0 ⟨tg,cj,ifs,0⟩ acc env (mI (.ListComp elt [⟨tg,cj,ifs,0⟩,⟨va,mP,kG,0⟩] sc pos) 0 ⟨va,mP,kG,0⟩ acc env) :=
 ⟨λ_=>rfl,rfl,rfl,λ_=>rfl,λ_ _=>rfl,λ_ _=>rfl,λ_=>rfl,λ_=>rfl⟩
theorem DG:eV (.ListComp elt [⟨tg,cj,ifs,0⟩,⟨va,mP,kG,0⟩] sc pos) 1 ⟨va,mP,kG,0⟩ acc env (jk (rS elt acc env)) :=
 ⟨λ_=>rfl,rfl,rfl,λ_=>rfl,λ_ _=>rfl,λ_ _=>rfl,λ_=>rfl,λ_=>rfl⟩
end
def EK:TT:=λ_ H Q=>Q true H
def nc (X:Cx)(ifs:List Expr)(t:TT):Prop :=
 ∀(pins:List (Addr×Obj)) (s:Qb) (σ:St) (H:Hp) (Q:Bool->Hp->Prop),Inv X pins σ H s->t σ H Q ->
  QE (model X.prog X.w) X.A (forIn ifs true λc r=>if r=true then do let ok <- isTrue c X.env (eval c X.env);pure (Uc ok) else pure (Uc r)) (TP X pins σ Q) X.xe s
theorem yw {X:Cx}:nc X [] EK:=λ_ _ _ H _ I h=>wpAny_tests_nil ⟨H,I,h⟩
theorem yv {X:Cx}{c:Expr}{t:TT}(h:PT X c t):nc X [c] t:=λpins s σ H Q I q=>wpAny_tests_one (h pins s σ H Q I q)
abbrev ik:=(St->Hp->Prop)->St->Hp->Prop
def j9 (X:Cx)(after:Sem Fin->Sem Fin)(t:ik):Prop :=
 ∀(pins:List (Addr×Obj)) (s:Qb) (σ:St) (H:Hp) (N:St->Hp->Prop) (k:Sem Fin) (Q:Fin->Qb->Prop) (E:P_->Qb->Prop),Inv X pins σ H s->t N σ H ->
  (∀σ' H' s',Inv X pins σ' H' s'->N σ' H'->QE (model X.prog X.w) X.A k Q E s')->QE (model X.prog X.w) X.A (after k) Q E s
theorem dF {X:Cx}(hx:X.xe=λ_ _=>False){α:Type}{t:Sem α}{Q:α->Qb->Prop}{E:P_->Qb->Prop}{s:Qb}(h:QE (model X.prog X.w) X.A t Q X.xe s):QE (model X.prog X.w) X.A t Q E s :=
 Tx h (λ_ _ q=>q) λe s q=>by rw[hx]at q;exact q.elim
def dX (J:It)(g:TG)(tt:TT)(ta:ik)(End:St->Hp->Prop):St->Hp->Prop:=λσ H =>
 ∃W:Nat->Nat->St->Hp->Prop,(∃m,W 0 m σ H)/\∀i m σ H,W i m σ H->(J.stop i H/\End σ H) \/
  (J.go i H/\∃N:St->Hp->Prop,(∀σ' H',N σ' H'->∃m',m'<m/\W (i+1) m' σ' H')/\∀x H',J.EF i H x H'->g x σ H' λσ2 H2=>tt σ2 H2 λb H3=>if b=true then ta N σ2 H3 else N σ2 H3)
section
variable {X:Cx}{e:Expr}{d:Nat}{g:Sa}{acc:P_}{after:Sem Fin->Sem Fin}{tg:TG}{tt:TT}{ta:ik}
theorem uk (hx:X.xe=λ_ _=>False)(hc:X.calm=true)(F:eV e d g acc X.env after)(hg:PG X g.target tg)(ht:nc X g.ifs tt)(ha:j9 X after ta)
  {it:Addr} {fp:List Addr} {tn:Nat->Heap->Prop} {J:It} (T:Turn X.prog X.w X.K g.target J fp it tn) {pins:List (Addr×Obj)} {σ:St} {H:Hp} {s:Qb} {End:St->Hp->Prop}
  (I:Inv X pins σ H s) (st:tn 0 s.heap) (hf:∀b∈fp,dw X pins H b) (h:dX J tg tt ta End σ H) :
  T6 (model X.prog X.w) X.A (.compLoop e d (.ref it) acc X.env) (λr s'=>r=.ok .next/\∃σ' H',Inv X pins σ' H' s'/\End σ' H') s:=by
 obtain⟨W,⟨m0,w0⟩,turn⟩:=h;have pU:∀{H':Hp},(∀b∈fp,H' b=none)->∀b∈fp,dw X pins H' b:=λhn b hb=>⟨hn b hb,(hf b hb).2⟩;refine codeAny_loop (F.quiet _) (λn s'=>∃i σ' H',Inv X pins σ' H' s'/\tn i s'.heap/\(∀b∈fp,H' b=none)/\W i n σ' H') (λn s3 hI=>?_) m0 ⟨0,σ,H,I,st,λb hb=>(hf b hb).1,w0⟩;obtain⟨i,σ3,H3,I3,jl,G9,w3⟩:=hI;rw[F.under];have Dl:(model X.prog X.w).den (.compLoop e d (.ref it) acc X.env)=(jh g after e d (.ref it) acc X.env).onRaise (λx=>do noteFrame x X.env;theTreesLotGoes x):=by
  rw[<- F.turn];show (if (TR e d (.ref it) acc X.env).isFrame then _ else _)=_
  rw[F.Cc];rfl
 rw[Dl];refine wpAny_noted ?_;unfold jh;rcases turn i n σ3 H3 w3 with⟨stop,qn⟩|⟨go,N,hN,step⟩
 ·refine P9 (SA (P9 (bQ (T.done X rfl rfl rfl hc i pins s3 σ3 H3 _ I3 (pU G9) jl stop) λr s4 ⟨hr,I4⟩=>?_)));subst hr;exact Qn ⟨rfl,σ3,H3,I4,qn⟩
 ·refine P9 (SA (P9 (bQ (T.item X rfl rfl rfl hc i pins s3 σ3 H3 _ I3 (pU G9) jl go) λr s4 ⟨u,hr,h4⟩=>?_)));subst hr;refine P9 (bQ h4 λ_ s5 ⟨x,H5,I5,r5,y5,Bu,K2⟩=>?_);have Ln:=I5.pinned (pU K2) (T.obj _ _ Bu);refine P9 (bQ (dF hx (hg _ s5 σ3 H5 x u _ Ln r5 (step x H5 y5))) λ_ s6 ⟨σ6,H6,I6,q6⟩=>?_);refine P9 (bQ (dF hx (ht _ s6 σ6 H6 _ I6 q6)) λok s7 ⟨H7,I7,q7⟩=>?_);have xA:∀{σ8:St} {H8:Hp} {s8:Qb},Inv X (pins++jA fp s5.heap) σ8 H8 s8->N σ8 H8->∃m,m<n/\∃i σ' H',Inv X pins σ' H' s8/\tn i s8.heap/\(∀b∈fp,H' b=none)/\W i m σ' H':=λ{σ8 H8 s8} I8 n8=>by
   obtain⟨m',hm,w8⟩:=hN σ8 H8 n8;refine⟨m',hm,i+1,σ8,H8,I8.gd,T.keep _ _ _ Bu λb hb o e=>(I8.pin (b,o) (QV _ (QV _ (eJ hb e)))).1,λb hb=>?_,w8⟩;obtain⟨o,e,d⟩:=T.obj _ _ Bu b hb;exact(I8.pin (b,o) (QV _ (QV _ (eJ hb e)))).2.1
  cases ok with
  |false=>exact Qn ⟨rfl,xA I7 (by simpa using q7)⟩
  |true =>
   exact ha _ s7 σ6 H7 N _ _ _ I7 (by simpa using q7) λσ8 H8 s8 I8 n8=>Qn ⟨rfl,xA I8 n8⟩
theorem fT (hx:X.xe=λ_ _=>False)(hc:X.calm=true)(F:eV e d g acc X.env after)(hg:PG X g.target tg)(ht:nc X g.ifs tt)(ha:j9 X after ta)
  {it:Addr} {fp:List Addr} {tn:Nat->Heap->Prop} {J:It} (T:Turn X.prog X.w X.K g.target J fp it tn) {pins:List (Addr×Obj)} {σ:St} {H:Hp} {s:Qb} {End:St->Hp->Prop}
  (I:Inv X pins σ H s) (st:tn 0 s.heap) (hf:∀b∈fp,dw X pins H b) (h:dX J tg tt ta End σ H) :
  T6 (model X.prog X.w) X.A (.compStart e d (.ref it) acc X.env) (λr s'=>r=.ok .next/\∃σ' H',Inv X pins σ' H' s'/\End σ' H') s:=by
 have lp:=uk hx hc F hg ht ha T I st hf h;refine codeAny_of_tree ?_;rw[F.Bi];have Dl:(model X.prog X.w).den (.compStart e d (.ref it) acc X.env)=(compStart e d (.ref it) acc X.env).onRaise (λx=>do noteFrame x X.env;T3 theWindowsPlace):=by
  show (if (Vd e d (.ref it) acc X.env).isFrame then _ else _)=_
  rw[F.Fu];rfl
 rw[Dl];refine wpAny_notedAt ?_;unfold compStart;rw[F.cl];simp only[Option.elim_some,F.sync];show QE _ _ (ask >>= _) _ _ s;refine P9 (wpAny_askSetting (wpAny_ite ?_))
 split
 ·first
   |exact P9 (Qn (Qn (And.intro (F.quiet _) lp)))
   |exact Qn (And.intro (F.quiet _) lp)
 ·have h2:∀(E:P_->Qb->Prop),QE (model X.prog X.w) X.A (UA (.ref it)) (λIa s'=>(TR e d Ia acc X.env).quiet=true/\T6 (model X.prog X.w) X.A (.compLoop e d Ia acc X.env) (λr s'=>r=.ok .next/\∃σ' H',Inv X pins σ' H' s'/\End σ' H') s') E s :=
   λE=>T.self X.A 0 s _ E st ⟨F.quiet _,lp⟩
  first
   |exact P9 (Sr (P9 (SA (P9 (Tx (h2 _) (λIa s' h'=>Qn h') λ_ _ x=>x)))))
   | (refine P9 (Sr ?_);exact P9 (SA (P9 (Tx (h2 _) (λIa s' h'=>Qn h') λ_ _ x=>x))))
theorem yI {g':Sa}{wi:TI}(hx:X.xe=λ_ _=>False)(hc:X.calm=true)(F:eV e (d+1) g' acc X.env after)(hi:PI X g'.target g'.iter wi)(hg:PG X g'.target tg)(ht:nc X g'.ifs tt)(ha:j9 X after ta)
  (hs:∀x,QX g'.iter X.env x=pure x:=by intro _;rfl) :
  j9 X (mI e d g' acc X.env) (λN σ H=>wi σ H λJ H1=>dX J tg tt ta N σ H1):=by
 intro pins s σ H N k Q E I h hk;unfold mI;refine P9 (bQ (dF hx (hi pins s σ H _ I h)) λx s1 h1=>?_);refine P9 (SA (P9 (wpAny_of_eq (hs x) ?_)));refine P9 (R8 (bQ (dF hx h1) λuH s2 h2=>?_));obtain⟨it,fp,tn,J,H2,e1,I2,T,dW,f2,hl⟩:=h2;subst e1;refine P9 (wpAny_runOwn (Tu (fT hx hc F hg ht ha T I2 dW f2 hl) λr s' hr=>?_));obtain⟨rfl,σ',H',I',q⟩:=hr;exact hk σ' H' s' I' q
theorem gv {elt:Expr}{te:TE}{a:Addr}(hx:X.xe=λ_ _=>False)(he:PE X elt te):
  j9 X (jk (rS elt (.ref a) X.env)) (λN σ H=>te σ H λv H1=>∃xs,H1 a=some (.lst xs)/\xs.length<Qp/\N σ (upd H1 a (.lst (xs++[v])))):=by
 intro pins s σ H N k Q E I h hk;unfold jk rS;refine P9 (P9 (bQ (dF hx (he pins s σ H _ I h)) λu s1 ⟨v,H1,I1,r1,xs,hH,hz,q⟩=>?_));refine P9 (bQ (dF hx <| fy (X:=X) pins s1 σ H1 (.ref a) [v] (.ref a) [u] (λw' H'=>N σ H') I1 rfl (.cons r1 .nil) ⟨a,xs,v,rfl,rfl,hH,hz,q⟩) λ_ s2 ⟨_,H2,I2,_,q2⟩=>?_)
 exact Qn (hk σ H2 s2 I2 q2)
end
section
variable {X:Cx}{e:Expr}
structure fW (X:Cx)(b9:Sem P_)(o:HO):Prop where
 ok:∀(pins:List (Addr×Obj)) (s:Qb) (σ:St) (H:Hp) (Q:P_->Qb->Prop) (E:P_->Qb->Prop),Inv X pins σ H s ->
  (∀a s',s.heap.objs.size<=a->H a=none->(∀b o,s.heap.get? b=some o->s'.heap.get? b=some o)->Inv X pins σ (upd H a o) s'->Q (.ref a) s')->QE (model X.prog X.w) X.A b9 Q E s
theorem gy:fW X (newList []) (.lst []) :=
 ⟨λpins s σ H Q E I h=>R4 (h _ _ (Qf _) I.fresh (λb o e=>Qi _ e) (I.Cp (its:=[]) (t':=s.toks) .nil (Qv _)))⟩
theorem Inv.sameBut {pins:List (Addr×Obj)}{σ:St}{H:Hp}{s:Qb}{C:Addr}{h':Heap}(I:Inv X pins σ H s)(f:dw X pins H C)(hs:Su C s.heap h'):Inv X pins σ H {s with heap:=h'}:=by
 obtain⟨f0,f1,f2,f3,f4,f5⟩:=f;exact I.turned (t':=s.toks) (λb o hb e=>(hs.2 b hb).trans e) f0 f1 f3 f4 f5
end
end L2
namespace ST
open PySem PySem.SetTable
def dM (m:Nat)(p:Probe):Probe:=advance {mask:=m,place:=#[],dummies:=#[],finger:=0,led:=true,moves:=0,plain:=true} p
def M9 (m:Nat)(h:Int):Probe:=probeStart {mask:=m,place:=#[],dummies:=#[],finger:=0,led:=true,moves:=0,plain:=true} h
noncomputable def LL (m:Nat)(h:Int):Nat->Probe
 |0=>M9 m h
 |n+1=>dM m (LL m h n)
def Lw (m:Nat)(h:Int)(n:Nat):Nat:=(LL m h n).j
abbrev g (xs:Array Nat)(i:Nat):Nat:=xs.getD i 0
def OU (xs:Array Nat):Prop:=∀i j,i<j->j<xs.size->g xs i<g xs j
def MM (t:SetTable)(x:Nat):Prop:=∃i,i<t.place.size/\g t.place i=x
structure WF (t:SetTable)(hs:List Int):Prop where
 P5:t.dummies=#[]
 sz:t.place.size=hs.length
 Pk:OU t.place
 P7:∀i,i<t.place.size->g t.place i<=t.mask
 NG:∃j,3<=j/\t.mask=2 ^ j-1
 room:t.place.size<=t.mask
 Pl:∀i h,hs[i]?=some h->∃n,Lw t.mask h n=g t.place i/\∀k,k<n->MM t (Lw t.mask h k)
instance (t:SetTable):DecidablePred (MM t):=λx=>decidable_of_iff (∃i,i<t.place.size/\g t.place i=x) Iff.rfl
end ST
namespace TS
open PySem PyProof.Rows
def cv:Bool->Qe->Array Qe->Nat->Nat->Nat->StateT QF Sem (Option Nat):=sortPriv% PySem.Builtin.gallop
def gz:Array Qe->Array Qe->StateT QF Sem (Array Qe):=sortPriv% PySem.Builtin.mergeLo
def gA:Array Qe->Array Qe->StateT QF Sem (Array Qe):=sortPriv% PySem.Builtin.mergeHi
abbrev cw (st:QF)(g:Nat):QF:=SortSt.mk' (kindOf st) (QL st) (Qz st) g (Td st)
theorem qt (left:Bool)(key:Qe)(arr:Array Qe)(base n hint:Nat):cv left key arr base n hint=(do
  let ask:=λ(at_:Nat)=>(do
   let z <- elem' arr (base+at_)
   if left then lt' z key else return (<- lt' key z).map (!·):StateT QF Sem (Option Bool))
  let mut before:=0
  let mut step:=1
  let mut u:=0
  let mut v:=0
  let some up <- ask hint|return none
  if up then
   let room:=n-hint
   for _ in [0:n] do
    if step >= room then break
    let some on <- ask (hint+step)|return none
    if !on then break
    before:=step
    step:=2*step+1
   u:=hint+before+1
   v:=hint+min step room
  else
   let room:=hint+1
   for _ in [0:n] do
    if step >= room then break
    let some hit <- ask (hint-step)|return none
    if hit then break
    before:=step
    step:=2*step+1
   u:=hint+1-min step room
   v:=hint-before
  for _ in [0:n] do
   if u >= v then break
   let mid:=u+(v-u) / 2
   let some on <- ask mid|return none
   if on then u:=mid+1 else v:=mid
  return some v):=rfl
theorem og (p q:Array Qe):gz p q=(do
  rule "list.sort.merge-lo"
  let all:=p.size+q.size
  let rest:=λ(to:Array Qe) (i j:Nat)=>to++p.extract i p.size++q.extract j q.size
  let tail:=λ(to:Array Qe) (i j:Nat)=>to++q.extract j q.size++p.extract i p.size
  let mut to:Array Qe:=#[<- elem' q 0]
  let mut i:=0
  let mut j:=1
  if j==q.size then return rest to i j
  if i+1==p.size then return tail to i j
  let mut mg:=gallopOf (<- get)
  for _ in [0:all] do
   let mut m:=0
   let mut n:=0
   for _ in [0:all] do
    let some Be <- lt' (<- elem' q j) (<- elem' p i)|return rest to i j
    if Be then
     to:=to.push (<- elem' q j);j:=j+1;n:=n+1;m:=0
     if j==q.size then return rest to i j
     if n >= mg then break
    else
     to:=to.push (<- elem' p i);i:=i+1;m:=m+1;n:=0
     if i+1==p.size then return tail to i j
     if m >= mg then break
   rule "list.sort.gallop"
   mg:=mg+1
   for _ in [0:all] do
    if mg>1 then mg:=mg-1
    modify λst=>cw st mg
    let some k <- cv false (<- elem' q j) p i (p.size-i) 0|return rest to i j
    m:=k
    if k>0 then
     to:=to++p.extract i (i+k);i:=i+k
     if i+1==p.size then return tail to i j
     if i==p.size then return rest to i j
    to:=to.push (<- elem' q j);j:=j+1
    if j==q.size then return rest to i j
    let some k <- cv true (<- elem' p i) q j (q.size-j) 0|return rest to i j
    n:=k
    if k>0 then
     to:=to++q.extract j (j+k);j:=j+k
     if j==q.size then return rest to i j
    to:=to.push (<- elem' p i);i:=i+1
    if i+1==p.size then return tail to i j
    if m<7&&n<7 then break
   mg:=mg+1
   modify λst=>cw st mg
  unsupported "internal:list.sort.merge-bound"):=rfl
theorem oj (p q:Array Qe):gA p q=(do
  rule "list.sort.merge-hi"
  let all:=p.size+q.size
  let rest:=λ(to:Array Qe) (i j:Nat)=>p.extract 0 i++q.extract 0 j++to.reverse
  let tail:=λ(to:Array Qe) (i j:Nat)=>q.extract 0 j++p.extract 0 i++to.reverse
  let mut i:=p.size-1
  let mut j:=q.size
  let mut to:Array Qe:=#[<- elem' p i]
  if i==0 then return rest to i j
  if j==1 then return tail to i j
  let mut mg:=gallopOf (<- get)
  for _ in [0:all] do
   let mut m:=0
   let mut n:=0
   for _ in [0:all] do
    let some Be <- lt' (<- elem' q (j-1)) (<- elem' p (i-1))|return rest to i j
    if Be then
     i:=i-1;to:=to.push (<- elem' p i);m:=m+1;n:=0
     if i==0 then return rest to i j
     if m >= mg then break
    else
     j:=j-1;to:=to.push (<- elem' q j);n:=n+1;m:=0
     if j==1 then return tail to i j
     if n >= mg then break
   rule "list.sort.gallop"
   mg:=mg+1
   for _ in [0:all] do
    if mg>1 then mg:=mg-1
    modify λst=>cw st mg
    let some h <- cv false (<- elem' q (j-1)) p 0 i (i-1)|return rest to i j
    let k:=i-h
    m:=k
    if k>0 then
     to:=to++(p.extract h i).reverse;i:=h
     if i==0 then return rest to i j
    j:=j-1;to:=to.push (<- elem' q j)
    if j==1 then return tail to i j
    let some h <- cv true (<- elem' p (i-1)) q 0 j (j-1)|return rest to i j
    let k:=j-h
    n:=k
    if k>0 then
     to:=to++(q.extract h j).reverse;j:=h
     if j==1 then return tail to i j
     if j==0 then return rest to i j
    i:=i-1;to:=to.push (<- elem' p i)
    if i==0 then return rest to i j
    if m<7&&n<7 then break
   mg:=mg+1
   modify λst=>cw st mg
  unsupported "internal:list.sort.merge-bound"):=rfl
theorem oq (i:Nat):mergeAt' i=(do
  let st <- get
  let (some (sa,na,pw),some (sb,nb,_)):=((Qz st)[i]?,(Qz st)[i+1]?)|unsupported "internal:list.sort.pending"
  set (Tj st (((Qz st).setIfInBounds i (sa,na+nb,pw)).eraseIdxIfInBounds (i+1)))
  let some k <- cv false (<- elem' (QL st) sb) (QL st) sa na 0|return false
  let (sa,na):=(sa+k,na-k)
  if na==0 then return true
  let some nb <- cv true (<- elem' (QL st) (sa+na-1)) (QL st) sb nb (nb-1)|return false
  if nb==0 then return true
  let x:=(QL st).extract sa sb
  let y:=(QL st).extract sb (sb+nb)
  let got <- if na<=nb then gz x y else gA x y
  modify λs2=>Rl s2 (got.toList.zipIdx.foldl (λa (p,j)=>a.setIfInBounds (sa+j) p) (QL s2))
  return (Td (<- get)).isNone):=rfl
structure cm (c:Qe->Qe->Bool):Prop where
 Ht:∀x y,c x y=true->c y x=false
 LQ:∀x y z,c x z=true->c x y=true\/c y z=true
def le (c:Qe->Qe->Bool)(x y:Qe):Prop:=c y x=false
section
variable {c:Qe->Qe->Bool}
theorem cm.refl (O:cm c)(x:Qe):le c x x:=by
 cases h:c x x
 ·exact h
 ·exact O.Ht _ _ h
theorem cm.trans (O:cm c){x y z:Qe}(h1:le c x y)(h2:le c y z):le c x z:=by
 cases h:c z x
 ·exact h
 ·rcases O.LQ _ y _ h with q|q
  ·exact absurd (q.symm.trans h2) (by simp)
  ·exact absurd (q.symm.trans h1) (by simp)
theorem cm.of_lt (O:cm c){x y:Qe}(h:c x y=true):le c x y:=O.Ht _ _ h
def el (a:Array Qe)(i:Nat):Qe:=a.getD i (Value.none,Value.none)
theorem gI {a:Array Qe}{i:Nat}(h:i<a.size):a[i]?=some (el a i):=by
 rw[getElem?_pos a i h,el,SJ,getElem?_pos a i h];rfl
theorem rT {a:Array Qe}{i:Nat}{x:Qe}(h:a[i]?=some x):el a i=x:=by
 rw[el,SJ,h];rfl
theorem du {a b:Array Qe}{i j:Nat}(h:a[i]?=b[j]?):el a i=el b j:=by
 rw[el,el,SJ,SJ,h]
def SR (c:Qe->Qe->Bool)(a:Array Qe)(lo hi:Nat):Prop:=∀i j,lo<=i->i<=j->j<hi->le c (el a i) (el a j)
def eO (prog:Qd)(w:Qq)(A:Rj)(E:P_->Qb->Prop)(s:Qb)(κ:S3)(c:Qe->Qe->Bool)(S:Qe->Prop):Prop :=
 ∀(x y:Qe) (st:QF) (Q:Option Bool->QF->Prop),S x->S y->kindOf st=κ->Q (some (c x y)) st->wpS (model prog w) A E s (lt' x y) Q st
end
section
variable {prog:Qd}{w:Qq}{A:Rj}{E:P_->Qb->Prop}{s:Qb}{κ:S3}{c:Qe->Qe->Bool}{S:Qe->Prop}
theorem aM {a:Array Qe}{i:Nat}{Q:Qe->QF->Prop}{st:QF}(h:i<a.size)(q:Q (el a i) st):wpS (model prog w) A E s (elem' a i) Q st:=by
 rw[elem'_eq,gI h];exact Qo q
def dy (c:Qe->Qe->Bool)(left:Bool)(key:Qe)(a:Array Qe)(base i:Nat):Bool:=if left=true then c (el a (base+i)) key else !c key (el a (base+i))
theorem zY (O:cm c){left:Bool}{key:Qe}{a:Array Qe}{base n i j:Nat}(hs:SR c a base (base+n))(aD:i<=j)(hj:j<n)(h:dy c left key a base j=true):dy c left key a base i=true:=by
 have hl:=hs (base+i) (base+j) (by lia) (by lia) (by lia)
 unfold dy at *
 cases left with
 |true =>
  rw[if_pos rfl]at *
  rcases O.LQ _ (el a (base+i)) _ h with q|q
  ·exact absurd (q.symm.trans hl) (by simp)
  ·exact q
 |false =>
  rw[if_neg (by simp)]at *
  rw[TJ]at *
  exact O.trans hl h
theorem gb (L:eO prog w A E s κ c S){left:Bool}{key:Qe}{a:Array Qe}{base n i:Nat}{Q:Option Bool->QF->Prop}{st:QF}(hk:kindOf st=κ)(hK:S key)(hA:∀i,i<n->S (el a (base+i)))(hn:base+n<=a.size)(hi:i<n)
  (h:Q (some (dy c left key a base i)) st):wpS (model prog w) A E s (do
   let z <- elem' a (base+i)
   if left then lt' z key else return (<- lt' key z).map (!·):StateT QF Sem (Option Bool)) Q st:=by
 refine Qh (aM (by lia) ?_)
 unfold dy at h;cases left with
 |true =>
  rw[if_pos rfl]at *
  exact L _ _ st Q (hA i hi) hK hk h
 |false =>
  rw[if_neg (by simp)]at *
  exact Qh (L _ _ st _ hK (hA i hi) hk (Qo h))
theorem df (O:cm c)(L:eO prog w A E s κ c S){left:Bool}{key:Qe}{a:Array Qe}{base n hint:Nat}{Q:Option Nat->QF->Prop}{st:QF}(hk:kindOf st=κ)(hK:S key)(hA:∀i,i<n->S (el a (base+i)))(hn:base+n<=a.size)
  (hs:SR c a base (base+n)) (hh:hint<n) (h:∀k,k<=n->(∀i,i<k->dy c left key a base i=true)->(∀i,k<=i->i<n->dy c left key a base i=false)->Q (some k) st) :
  wpS (model prog w) A E s (cv left key a base n hint) Q st:=by
 rw[qt];dsimp only;have up:∀{i j},i<=j->j<n->dy c left key a base j=true->dy c left key a base i=true:=λh1 h2 h3=>zY O hs h1 h2 h3;refine Qh (gb L hk hK hA hn hh ?_);dsimp only;have dn:∀{i j},i<=j->j<n->dy c left key a base i=false->dy c left key a base j=false:=λ{i j} h1 h2 h3=>by
  cases q:dy c left key a base j
  ·rfl
  ·rw[up h1 h2 q]at h3;exact absurd h3 (by simp)
 cases uK:dy c left key a base hint with
 |true =>
  rw[if_pos rfl];refine Qh (RD (Rf (I:=λx r aB=>aB=st/\∃be dM,r=(none,be,dM)/\hint+be<n/\be<dM/\x+1<=dM/\dy c left key a base (hint+be)=true)
   (Q:=λr aB=>aB=st/\∃be dM,r=(none,be,dM)/\hint+be<n/\be<dM/\dy c left key a base (hint+be)=true/\(n-hint<=dM\/(hint+dM<n/\dy c left key a base (hint+dM)=false))) ?_ ?_ ?_) ?_)
  ·rintro x r aB _ hx ⟨rfl,be,dM,rfl,h1,h2,h3,h4⟩;dsimp only
   by_cases hr:dM >= n-hint
   ·rw[if_pos hr];exact Qo ⟨rfl,be,dM,rfl,h1,h2,h4,.inl hr⟩
   ·rw[if_neg hr];refine Qh (gb L hk hK hA hn (by omega) ?_)
    dsimp only;cases hb:dy c left key a base (hint+dM)with
    |true =>
     rw[if_neg (by simp)]
     exact Qo ⟨rfl,dM,_,rfl,by omega,by omega,by omega,hb⟩
    |false =>
     rw[if_pos (by simp)]
     exact Qo ⟨rfl,be,dM,rfl,h1,h2,h4,.inr ⟨by omega,hb⟩⟩
  ·rintro r aB ⟨rfl,be,dM,rfl,h1,h2,h3,h4⟩;exact⟨rfl,be,dM,rfl,h1,h2,h4,.inl (by omega)⟩
  ·exact⟨rfl,0,1,rfl,by omega,by omega,by omega,uK⟩
  rintro r aB ⟨e0,be,dM,rfl,h1,h2,h4,h5⟩;rw[e0];dsimp only;have g1:∀i,i<hint+be+1->dy c left key a base i=true:=λi hi=>up (j:=hint+be) (by omega) h1 h4
  have g2:∀i,hint+min dM (n-hint)<=i->i<n->dy c left key a base i=false:=λi hi fF=>by
   rcases h5 with q|⟨q1,q2⟩
   ·omega
   ·exact dn (i:=hint+dM) (by omega) fF q2
  refine Qh (RD (Rf (I:=λx r aB=>aB=st/\∃u v,r=(none,u,v)/\u<=v/\v<=n/\v-u<=n-x/\(∀i,i<u->dy c left key a base i=true)/\(∀i,v<=i->i<n->dy c left key a base i=false))
   (Q:=λr aB=>aB=st/\∃v,r=(none,v,v)/\v<=n/\(∀i,i<v->dy c left key a base i=true)/\(∀i,v<=i->i<n->dy c left key a base i=false)) ?_ ?_ ?_) ?_)
  ·rintro x r aB _ hx ⟨rfl,u,v,rfl,h1,h2,h3,h4,h5⟩;dsimp only
   by_cases F2:u >= v
   ·rw[if_pos F2];obtain rfl:u=v:=by omega
    exact Qo ⟨rfl,u,rfl,h2,h4,h5⟩
   ·rw[if_neg F2];refine Qh (gb L hk hK hA hn (by omega) ?_)
    dsimp only;cases hb:dy c left key a base (u+(v-u) / 2)with
    |true =>
     rw[if_pos rfl];exact Qo ⟨rfl,_,v,rfl,by omega,h2,by omega,λi hi=>up (j:=u+(v-u) / 2) (by omega) (by omega) hb,h5⟩
    |false =>
     rw[if_neg (by simp)]
     exact Qo ⟨rfl,u,_,rfl,by omega,by omega,by omega,h4,λi hi fF=>dn (i:=u+(v-u) / 2) (by omega) (by omega) hb⟩
  ·rintro r aB ⟨rfl,u,v,rfl,h1,h2,h3,h4,h5⟩;obtain rfl:u=v:=by omega
   exact⟨rfl,u,rfl,h2,h4,h5⟩
  ·exact⟨rfl,_,_,rfl,by omega,by omega,by omega,by assumption,by assumption⟩
  ·rintro r aB ⟨rfl,v,rfl,h2,h4,h5⟩;exact Qo (h v h2 h4 h5)
 |false =>
  rw[if_neg (by simp)]
  refine Qh (RD (Rf (I:=λx r aB=>aB=st/\∃be dM,r=(none,be,dM)/\be<=hint/\be<dM/\x+1<=dM/\dy c left key a base (hint-be)=false)
   (Q:=λr aB=>aB=st/\∃be dM,r=(none,be,dM)/\be<=hint/\be<dM/\dy c left key a base (hint-be)=false/\(hint+1<=dM\/(dM<=hint/\dy c left key a base (hint-dM)=true))) ?_ ?_ ?_) ?_)
  ·rintro x r aB _ hx ⟨rfl,be,dM,rfl,h1,h2,h3,h4⟩;dsimp only
   by_cases hr:dM >= hint+1
   ·rw[if_pos hr];exact Qo ⟨rfl,be,dM,rfl,h1,h2,h4,.inl hr⟩
   ·rw[if_neg hr];refine Qh (gb L hk hK hA hn (by omega) ?_)
    dsimp only;cases hb:dy c left key a base (hint-dM)with
    |true =>
     rw[if_pos rfl];exact Qo ⟨rfl,be,dM,rfl,h1,h2,h4,.inr ⟨by omega,hb⟩⟩
    |false =>
     rw[if_neg (by simp)]
     exact Qo ⟨rfl,dM,_,rfl,by omega,by omega,by omega,hb⟩
  ·rintro r aB ⟨rfl,be,dM,rfl,h1,h2,h3,h4⟩;exact⟨rfl,be,dM,rfl,h1,h2,h4,.inl (by omega)⟩
  ·exact⟨rfl,0,1,rfl,by omega,by omega,by omega,uK⟩
  rintro r aB ⟨e0,be,dM,rfl,h1,h2,h4,h5⟩;rw[e0];dsimp only;have g1:∀i,i<hint+1-min dM (hint+1)->dy c left key a base i=true:=λi hi=>by
   rcases h5 with q|⟨q1,q2⟩
   ·omega
   ·exact up (j:=hint-dM) (by omega) (by omega) q2
  have g2:∀i,hint-be<=i->i<n->dy c left key a base i=false:=λi hi fF=>dn (i:=hint-be) hi fF h4;refine Qh (RD (Rf (I:=λx r aB=>aB=st/\∃u v,r=(none,u,v)/\u<=v/\v<=n/\v-u<=n-x/\(∀i,i<u->dy c left key a base i=true)/\(∀i,v<=i->i<n->dy c left key a base i=false))
   (Q:=λr aB=>aB=st/\∃v,r=(none,v,v)/\v<=n/\(∀i,i<v->dy c left key a base i=true)/\(∀i,v<=i->i<n->dy c left key a base i=false)) ?_ ?_ ?_) ?_)
  ·rintro x r aB _ hx ⟨rfl,u,v,rfl,h1,h2,h3,h4,h5⟩;dsimp only
   by_cases F2:u >= v
   ·rw[if_pos F2];obtain rfl:u=v:=by omega
    exact Qo ⟨rfl,u,rfl,h2,h4,h5⟩
   ·rw[if_neg F2];refine Qh (gb L hk hK hA hn (by omega) ?_)
    dsimp only;cases hb:dy c left key a base (u+(v-u) / 2)with
    |true =>
     rw[if_pos rfl];exact Qo ⟨rfl,_,v,rfl,by omega,h2,by omega,λi hi=>up (j:=u+(v-u) / 2) (by omega) (by omega) hb,h5⟩
    |false =>
     rw[if_neg (by simp)]
     exact Qo ⟨rfl,u,_,rfl,by omega,by omega,by omega,h4,λi hi fF=>dn (i:=u+(v-u) / 2) (by omega) (by omega) hb⟩
  ·rintro r aB ⟨rfl,u,v,rfl,h1,h2,h3,h4,h5⟩;obtain rfl:u=v:=by omega
   exact⟨rfl,u,rfl,h2,h4,h5⟩
  ·exact⟨rfl,_,_,rfl,by omega,by omega,by omega,by assumption,by assumption⟩
  ·rintro r aB ⟨rfl,v,rfl,h2,h4,h5⟩;exact Qo (h v h2 h4 h5)
end
section
variable {c:Qe->Qe->Bool}{p q:Array Qe}{t:List Qe}{i j:Nat}
theorem qP {a:Array Qe}{i:Nat}(h:i<a.size):a.toList.take (i+1)=a.toList.take i++[el a i]:=by
 have e:a.toList[i]?=some (el a i):=by rw[QI];exact gI h
 rw[List.take_succ,e];rfl
theorem rV {a:Array Qe}{i:Nat}(h:i<a.size):a.toList.drop i=el a i::a.toList.drop (i+1):=by
 have hl:i<a.toList.length:=by rw[QH];exact h
 have e:a.toList[i]=el a i:=by
  have h1:=Qm hl;rw[QI,gI h]at h1;exact(Q3 h1).symm
 rw[SY hl,e]
structure Mg (c:Qe->Qe->Bool)(p q:Array Qe)(t:List Qe)(i j:Nat):Prop where
 hi:i<=p.size
 hj:j<=q.size
 perm:t.Perm (p.toList.take i++q.toList.take j)
 iw:t.Pairwise (le c)
 ap:∀x∈t,∀k,i<=k->k<p.size->le c x (el p k)
 aq:∀x∈t,∀k,j<=k->k<q.size->le c x (el q k)
def Gd (c:Qe->Qe->Bool)(p q:Array Qe)(t:List Qe):Prop:=t.Perm (p.toList++q.toList)/\t.Pairwise (le c)
theorem nD {x:Qe}(h:t.Pairwise (le c))(hx:∀y∈t,le c y x):(t++[x]).Pairwise (le c):=by
 rw[List.pairwise_append];exact⟨h,List.pairwise_singleton _ _,λy hy z hz=>by rw[Qj.mp hz];exact hx y hy⟩
theorem Mg.iA (m:Mg c p q t i j)(hj:j<q.size)(sq:SR c q 0 q.size)(hle:∀k,i<=k->k<p.size->le c (el q j) (el p k)):Mg c p q (t++[el q j]) i (j+1) where
 hi:=m.hi
 hj:=hj
 perm:=by
  rw[qP hj,<- Ru];exact m.perm.append_right _
 iw:=nD m.iw λy hy=>m.aq y hy j (Qf _) hj
 ap:=λx hx k h1 h2=>by
  rcases Qr.mp hx with h|h
  ·exact m.ap x h k h1 h2
  ·rw[Qj.mp h];exact hle k h1 h2
 aq:=λx hx k h1 h2=>by
  rcases Qr.mp hx with h|h
  ·exact m.aq x h k (by lia) h2
  ·rw[Qj.mp h];exact sq j k (by lia) (by lia) h2
theorem Mg.iB (m:Mg c p q t i j)(hi:i<p.size)(sp:SR c p 0 p.size)(hle:∀k,j<=k->k<q.size->le c (el p i) (el q k)):Mg c p q (t++[el p i]) (i+1) j where
 hi:=hi
 hj:=m.hj
 perm:=by
  rw[qP hi];refine(m.perm.append_right _).trans ?_;rw[Ru,Ru];exact List.Perm.append_left _ List.perm_append_comm
 iw:=nD m.iw λy hy=>m.ap y hy i (Qf _) hi
 ap:=λx hx k h1 h2=>by
  rcases Qr.mp hx with h|h
  ·exact m.ap x h k (by lia) h2
  ·rw[Qj.mp h];exact sp i k (by lia) (by lia) h2
 aq:=λx hx k h1 h2=>by
  rcases Qr.mp hx with h|h
  ·exact m.aq x h k h1 h2
  ·rw[Qj.mp h];exact hle k h1 h2
theorem fq {a:Array Qe}{i k:Nat}(h:i+k<a.size):(a.toList.drop i).take (k+1)=(a.toList.drop i).take k++[el a (i+k)]:=by
 have e:(a.toList.drop i)[k]?=some (el a (i+k)):=by rw[List.getElem?_drop,QI];exact gI h
 rw[List.take_succ,e];rfl
theorem Mg.eP (m:Mg c p q t i j)(sp:SR c p 0 p.size):∀(k:Nat),i+k<=p.size->(∀x,x<k->∀y,j<=y->y<q.size->le c (el p (i+x)) (el q y))->Mg c p q (t++(p.toList.drop i).take k) (i+k) j
 |0,_,_=>by simpa using m
 |k+1,h,hle=>by
  have m':=Mg.eP m sp k (by lia) λx hx=>hle x (by lia)
  rw[fq (by lia),<- Ru,<- Nat.add_assoc]
  exact m'.iB (by lia) sp (hle k (by lia))
theorem Mg.gg (m:Mg c p q t i j)(sq:SR c q 0 q.size):∀(k:Nat),j+k<=q.size->(∀x,x<k->∀y,i<=y->y<p.size->le c (el q (j+x)) (el p y))->Mg c p q (t++(q.toList.drop j).take k) i (j+k)
 |0,_,_=>by simpa using m
 |k+1,h,hle=>by
  have m':=Mg.gg m sq k (by lia) λx hx=>hle x (by lia)
  rw[fq (by lia),<- Ru,<- Nat.add_assoc]
  exact m'.iA (by lia) sq (hle k (by lia))
theorem Mg.full (m:Mg c p q t p.size q.size):Gd c p q t:=by
 refine⟨?_,m.iw⟩;have h:=m.perm;rw[Rx (by rw[QH];lia),Rx (by rw[QH];lia)]at h
 exact h
theorem ck (a:Array Qe)(i j:Nat):(a.extract i j).toList=(a.toList.drop i).take (j-i):=by
 rw[Array.toList_extract,List.extract_eq_take_drop]
theorem oW {a:Array Qe}{i j:Nat}(h:a.size<=i):(a.toList.drop i).take (j-i)=[]:=by
 rw[T7 (by rw[QH];exact h)]
 simp
theorem Mg.done {to:Array Qe}(m:Mg c p q to.toList i j)(sp:SR c p 0 p.size)(sq:SR c q 0 q.size)(h:i=p.size\/j=q.size):Gd c p q (to++p.extract i p.size++q.extract j q.size).toList:=by
 rw[Rz,Rz,ck,ck];rcases h with rfl|rfl
 ·rw[oW (Qf _),S7];have m':=m.gg sq (q.size-j) (by have:=m.hj;lia) λx hx y h1 h2=>by lia
  rw[show j+(q.size-j)=q.size by have:=m.hj;lia]at m'
  exact m'.full
 ·rw[oW (a:=q) (Qf _),S7];have m':=m.eP sp (p.size-i) (by have:=m.hi;lia) λx hx y h1 h2=>by lia
  rw[show i+(p.size-i)=p.size by have:=m.hi;lia]at m'
  exact m'.full
theorem Mg.tail {to:Array Qe}(O:cm c)(m:Mg c p q to.toList i j)(sp:SR c p 0 p.size)(sq:SR c q 0 q.size)(h:i+1=p.size)(hl:∀y,y<q.size->c (el q y) (el p (p.size-1))=true):Gd c p q (to++q.extract j q.size++p.extract i p.size).toList:=by
 rw[Rz,Rz,ck,ck];have m':=m.gg sq (q.size-j) (by have:=m.hj;lia) λx hx y h1 h2=>by
  rw[show y=p.size-1 by lia]
  exact O.of_lt (hl _ (by lia))
 rw[show j+(q.size-j)=q.size by have:=m.hj;lia]at m'
 have m2:=m'.eP sp (p.size-i) (by have:=m.hi;lia) λx hx y h1 h2=>by lia
 rw[show i+(p.size-i)=p.size by have:=m.hi;lia]at m2
 exact m2.full
theorem su (to a:Array Qe)(i k:Nat):(to++a.extract i (i+k)).toList=to.toList++(a.toList.drop i).take k:=by
 rw[Rz,ck,show i+k-i=k by lia]
theorem Mg.start (O:cm c)(sp:SR c p 0 p.size)(sq:SR c q 0 q.size)(hq:0<q.size)(hp:0<p.size)(h:c (el q 0) (el p 0)=true):Mg c p q [el q 0] 0 1:=by
 have m:Mg c p q [] 0 0:=⟨Qv _,Qv _,(by simp),.nil,(λx hx=>by cases hx),(λx hx=>by cases hx)⟩
 exact m.iA hq sq λk _ hk=>O.trans (O.of_lt h) (sp 0 k (by lia) (by lia) hk)
end
structure ip (st aB:QF):Prop where
 kind:kindOf aB=kindOf st
 arr:QL aB=QL st
 pend:Qz aB=Qz st
 fail:Td aB=Td st
theorem ip.refl (st:QF):ip st st:=⟨rfl,rfl,rfl,rfl⟩
theorem ip.AH {st aB:QF}(e:ip st aB)(g:Nat):ip st (cw aB g):=⟨e.kind,e.arr,e.pend,e.fail⟩
abbrev RI:=Array Qe×Nat×Nat×Nat×Nat
abbrev RG:=Array Qe×Nat×Nat×Nat×Nat×Nat
abbrev RO:=Array Qe×Nat×Nat×Nat
noncomputable def Jz (p q t:Array Qe)(i j mg m n:Nat):StateT QF Sem (ForInStep (Option (Array Qe)×RG)):=do
 let z <- elem' p i
 if (i+1+1==p.size)=true then pure (.done (some (t.push z++q.extract j++p.extract (i+1)),t.push z,i+1,j,mg,m,n))
 else if (decide (m<7)&&decide (n<7))=true then pure (.done (none,t.push z,i+1,j,mg,m,n)) else pure (.yield (none,t.push z,i+1,j,mg,m,n))
noncomputable def JA (p q t:Array Qe)(i j mg m n:Nat):StateT QF Sem (ForInStep (Option (Array Qe)×RG)):=do
 let y <- elem' q j
 if (j+1==q.size)=true then pure (.done (some (t.push y++p.extract i++q.extract (j+1)),t.push y,i,j+1,mg,m,n))
 else do
  let x <- elem' p i
  let r <- cv true x q (j+1) (q.size-(j+1)) 0
  match r with
  |some k=>if k>0 then (if (j+1+k==q.size)=true then pure (.done (some (t.push y++q.extract (j+1) (j+1+k)++p.extract i++q.extract (j+1+k)),t.push y++q.extract (j+1) (j+1+k),i,j+1+k,mg,m,k))
    else Jz p q (t.push y++q.extract (j+1) (j+1+k)) i (j+1+k) mg m k) else Jz p q (t.push y) i (j+1) mg m k
  |_=>pure (.done (some (t.push y++p.extract i++q.extract (j+1)),t.push y,i,j+1,mg,m,n))
noncomputable def FO (p q t:Array Qe)(i j mg m n:Nat):StateT QF Sem (ForInStep (Option (Array Qe)×RG)):=do
 modify λst=>cw st mg
 let y <- elem' q j
 let r <- cv false y p i (p.size-i) 0
 match r with
 |some k=>if k>0 then (if (i+k+1==p.size)=true then pure (.done (some (t++p.extract i (i+k)++q.extract j++p.extract (i+k)),t++p.extract i (i+k),i+k,j,mg,k,n))
   else if (i+k==p.size)=true then pure (.done (some (t++p.extract i (i+k)++p.extract (i+k)++q.extract j),t++p.extract i (i+k),i+k,j,mg,k,n))
   else JA p q (t++p.extract i (i+k)) (i+k) j mg k n) else JA p q t i j mg k n
 |_=>pure (.done (some (t++p.extract i++q.extract j),t,i,j,mg,m,n))
def NJ (p q:Array Qe)(s:Option (Array Qe)×RG):StateT QF Sem (ForInStep (Option (Array Qe)×RG)):=if s.2.2.2.2.1>1 then FO p q s.2.1 s.2.2.1 s.2.2.2.1 (s.2.2.2.2.1-1) s.2.2.2.2.2.1 s.2.2.2.2.2.2 else FO p q s.2.1 s.2.2.1 s.2.2.2.1 s.2.2.2.2.1 s.2.2.2.2.2.1 s.2.2.2.2.2.2
noncomputable def FN (p q:Array Qe)(mg:Nat)(s:Option (Array Qe)×RI):StateT QF Sem (ForInStep (Option (Array Qe)×RI)):=do
 let y <- elem' q s.2.2.2.1
 if (s.2.2.2.1+1==q.size)=true then pure (.done (some (s.2.1.push y++p.extract s.2.2.1++q.extract (s.2.2.2.1+1)),s.2.1.push y,s.2.2.1,s.2.2.2.1+1,0,s.2.2.2.2.2+1))
 else if s.2.2.2.2.2+1 >= mg then pure (.done (none,s.2.1.push y,s.2.2.1,s.2.2.2.1+1,0,s.2.2.2.2.2+1)) else pure (.yield (none,s.2.1.push y,s.2.2.1,s.2.2.2.1+1,0,s.2.2.2.2.2+1))
noncomputable def FL (p q:Array Qe)(mg:Nat)(s:Option (Array Qe)×RI):StateT QF Sem (ForInStep (Option (Array Qe)×RI)):=do
 let x <- elem' p s.2.2.1
 if (s.2.2.1+1+1==p.size)=true then pure (.done (some (s.2.1.push x++q.extract s.2.2.2.1++p.extract (s.2.2.1+1)),s.2.1.push x,s.2.2.1+1,s.2.2.2.1,s.2.2.2.2.1+1,0))
 else if s.2.2.2.2.1+1 >= mg then pure (.done (none,s.2.1.push x,s.2.2.1+1,s.2.2.2.1,s.2.2.2.2.1+1,0)) else pure (.yield (none,s.2.1.push x,s.2.2.1+1,s.2.2.2.1,s.2.2.2.2.1+1,0))
noncomputable def Jy (p q:Array Qe)(mg:Nat)(s:Option (Array Qe)×RI):StateT QF Sem (ForInStep (Option (Array Qe)×RI)):=do
 let y <- elem' q s.2.2.2.1
 let x <- elem' p s.2.2.1
 let r <- lt' y x
 match r with
 |some Be=>if Be=true then FN p q mg s else FL p q mg s
 |_=>pure (.done (some (s.2.1++p.extract s.2.2.1++q.extract s.2.2.2.1),s.2.1,s.2.2.1,s.2.2.2.1,s.2.2.2.2.1,s.2.2.2.2.2))
noncomputable def L1 (p q:Array Qe)(s:Option (Array Qe)×RO):StateT QF Sem (ForInStep (Option (Array Qe)×RO)):=do
 let s1 <- forIn [:p.size+q.size] ((none,s.2.1,s.2.2.1,s.2.2.2.1,0,0):Option (Array Qe)×RI) λ_ r=>Jy p q s.2.2.2.2 r
 match s1.1 with
 |some r=>pure (.done (some r,s1.2.1,s1.2.2.1,s1.2.2.2.1,s.2.2.2.2))
 |none=>do
  liftM (rule "list.sort.gallop")
  let s2 <- forIn [:p.size+q.size] ((none,s1.2.1,s1.2.2.1,s1.2.2.2.1,s.2.2.2.2+1,s1.2.2.2.2.1,s1.2.2.2.2.2):Option (Array Qe)×RG) λ_ r=>NJ p q r
  match s2.1 with
  |some r=>pure (.done (some r,s2.2.1,s2.2.2.1,s2.2.2.2.1,s2.2.2.2.2.1))
  |none=>do
   modify λst=>cw st (s2.2.2.2.2.1+1)
   pure (.yield (none,s2.2.1,s2.2.2.1,s2.2.2.2.1,s2.2.2.2.2.1+1))
theorem oh (p q:Array Qe):gz p q=(do
  liftM (rule "list.sort.merge-lo")
  let y <- elem' q 0
  if (1==q.size)=true then pure (#[y]++p.extract 0++q.extract 1)
  else if (0+1==p.size)=true then pure (#[y]++q.extract 1++p.extract 0)
  else do
   let st <- get
   let s <- forIn [:p.size+q.size] ((none,#[y],0,1,gallopOf st):Option (Array Qe)×RO) λ_ s=>L1 p q s
   match s.1 with
   |some r=>pure r
   |none=>liftM (unsupported "internal:list.sort.merge-bound" : Sem (Array Qe))):=by
 rw[og];dsimp only;refine congrArg (bind _) (funext λ_=>?_);refine congrArg (bind _) (funext λy=>?_);refine congrArg (ite _ _) (congrArg (ite _ _) ?_);refine congrArg (bind _) (funext λy=>?_);refine congr (congrArg bind (congrArg _ (funext λ_=>funext λs=>?_))) (funext λs=>?_)
 ·refine congr (congrArg bind (congrArg _ (funext λ_=>funext λs=>?_))) (funext λs=>?_)
  ·rfl
  ·cases s.1
   ·refine congrArg (bind _) (funext λ_=>?_);refine congr (congrArg bind (congrArg _ (funext λ_=>funext λs=>?_))) (funext λs=>?_)
    ·rfl
    ·cases s.1 <;> rfl
   ·rfl
 ·cases s.1 <;> rfl
section
variable {prog:Qd}{w:Qq}{A:Rj}{E:P_->Qb->Prop}{s:Qb}{κ:S3}{c:Qe->Qe->Bool}{S:Qe->Prop}{p q:Array Qe}
theorem uW {st:QF}{Q:ForInStep (Option (Array Qe)×RG)->QF->Prop}{t:Array Qe}{i j mg m n:Nat}(O:cm c)(sp:SR c p 0 p.size)(sq:SR c q 0 q.size)(hl:∀y,y<q.size->c (el q y) (el p (p.size-1))=true)(m3:Mg c p q t.toList i j)(hi:i+1<p.size)(g3:∀y,j<=y->y<q.size->le c (el p i) (el q y))
  (hd:∀out r,Gd c p q out.toList->Q (.done (some out,r)) st) (hn:∀t' m n,Mg c p q t'.toList (i+1) j->i+1+1<p.size->Q (.done (none,t',i+1,j,mg,m,n)) st/\Q (.yield (none,t',i+1,j,mg,m,n)) st):wpS (model prog w) A E s (Jz p q t i j mg m n) Q st:=by
 refine Qh (aM (by lia) ?_)
 have m4:Mg c p q (t.push (el p i)).toList (i+1) j:=by
  rw[SI];exact m3.iB (by lia) sp g3
 by_cases e5:(i+1+1==p.size)=true
 ·rw[if_pos e5];exact Qo (hd _ _ (m4.tail O sp sq (by simpa using e5) hl))
 rw[if_neg e5];have h5:i+1+1≠p.size:=by simpa using e5
 obtain⟨h6,h7⟩:=hn (t.push (el p i)) m n m4 (by lia)
 split
 ·exact Qo h6
 ·exact Qo h7
theorem uX {st:QF}{Q:ForInStep (Option (Array Qe)×RG)->QF->Prop}{t:Array Qe}{i j mg m n:Nat}(O:cm c)(L:eO prog w A E s κ c S)(hk:kindOf st=κ)(Sp:∀i,i<p.size->S (el p i))(Sq:∀i,i<q.size->S (el q i))(sp:SR c p 0 p.size)(sq:SR c q 0 q.size)(hl:∀y,y<q.size->c (el q y) (el p (p.size-1))=true)(m1:Mg c p q t.toList i j)(hi:i+1<p.size)(hj:j<q.size)(g1:∀y,i<=y->y<p.size->le c (el q j) (el p y))
  (hd:∀out r,Gd c p q out.toList->Q (.done (some out,r)) st) (hn:∀t' j' m n,Mg c p q t'.toList (i+1) j'->i+1+1<p.size->j<j'->j'<q.size->Q (.done (none,t',i+1,j',mg,m,n)) st/\Q (.yield (none,t',i+1,j',mg,m,n)) st):wpS (model prog w) A E s (JA p q t i j mg m n) Q st:=by
 refine Qh (aM hj ?_);have m2:Mg c p q (t.push (el q j)).toList i (j+1):=by
  rw[SI];exact m1.iA hj sq g1
 by_cases e3:(j+1==q.size)=true
 ·rw[if_pos e3];exact Qo (hd _ _ (m2.done sp sq (.inr (by simpa using e3))))
 rw[if_neg e3];have h3:j+1≠q.size:=by simpa using e3
 refine Qh (aM (by lia) (Qh (df O L hk (Sp _ (by lia)) (λx hx=>Sq _ (by lia)) (by lia) (λa b h1 h2 h3=>sq a b (by lia) h2 (by lia)) (by lia) λk k1 k2 k3=>?_)))
 have g3:∀y,j+1+k<=y->y<q.size->le c (el p i) (el q y):=λy h1 h2=>by
  have:=k3 (y-(j+1)) (by lia) (by lia)
  unfold dy at this;rw[if_pos rfl,show j+1+(y-(j+1))=y by lia]at this
  exact this
 dsimp only
 by_cases wN:k>0
 ·rw[if_pos wN];have m3:Mg c p q (t.push (el q j)++q.extract (j+1) (j+1+k)).toList i (j+1+k):=by
   rw[su];exact m2.gg sq k (by lia) λx hx y h1 h2=>O.trans (O.of_lt (show c (el q (j+1+x)) (el p i)=true from k2 x hx)) (sp _ y (by lia) h1 h2)
  by_cases e4:(j+1+k==q.size)=true
  ·rw[if_pos e4];exact Qo (hd _ _ (m3.done sp sq (.inr (by simpa using e4))))
  rw[if_neg e4];have h4:j+1+k≠q.size:=by simpa using e4
  exact uW O sp sq hl m3 hi g3 hd λt' m n h1 h2=>hn t' _ m n h1 h2 (by lia) (by lia)
 ·rw[if_neg wN];exact uW O sp sq hl m2 hi (λy h1 h2=>g3 y (by lia) h2) hd λt' m n h1 h2=>hn t' _ m n h1 h2 (by lia) (by lia)
theorem A_ {st:QF}{Q:ForInStep (Option (Array Qe)×RG)->QF->Prop}{t:Array Qe}{i j mg m n:Nat}(O:cm c)(L:eO prog w A E s κ c S)(hk:kindOf st=κ)(Sp:∀i,i<p.size->S (el p i))(Sq:∀i,i<q.size->S (el q i))(sp:SR c p 0 p.size)(sq:SR c q 0 q.size)(hl:∀y,y<q.size->c (el q y) (el p (p.size-1))=true)(m0:Mg c p q t.toList i j)(hi:i+1<p.size)(hj:j<q.size)
  (hd:∀out r,Gd c p q out.toList->Q (.done (some out,r)) (cw st mg)) (hn:∀t' i' j' m n,Mg c p q t'.toList i' j'->i'+1<p.size->j'<q.size->i+j<i'+j'->Q (.done (none,t',i',j',mg,m,n)) (cw st mg)/\Q (.yield (none,t',i',j',mg,m,n)) (cw st mg)):wpS (model prog w) A E s (FO p q t i j mg m n) Q st:=by
 refine Qh (SK (Qh (aM hj (Qh (df O L hk (Sq _ hj) (λx hx=>Sp _ (by lia)) (by lia) (λa b h1 h2 h3=>sp a b (by lia) h2 (by lia)) (by lia) λk k1 k2 k3=>?_)))))
 have g0:∀x,x<k->le c (el p (i+x)) (el q j):=λx hx=>by
  have:=k2 x hx;unfold dy at this;rw[if_neg (by simp),TJ]at this
  exact this
 have g1:∀y,i+k<=y->y<p.size->le c (el q j) (el p y):=λy h1 h2=>by
  have:=k3 (y-i) (by lia) (by lia)
  unfold dy at this;rw[if_neg (by simp),UD,show i+(y-i)=y by lia]at this
  exact O.of_lt this
 have Mo:i+k<p.size:=by
  rcases Nat.lt_or_ge (i+k) p.size with eX|Mv
  ·exact eX
  ·have h1:=g0 (p.size-1-i) (by lia)
   rw[show i+(p.size-1-i)=p.size-1 by lia]at h1
   exact absurd ((hl j hj).symm.trans h1) (by simp)
 dsimp only
 by_cases wN:k>0
 ·rw[if_pos wN];have m1:Mg c p q (t++p.extract i (i+k)).toList (i+k) j:=by
   rw[su];exact m0.eP sp k (by lia) λx hx y h1 h2=>O.trans (g0 x hx) (sq j y (by lia) h1 h2)
  by_cases e1:(i+k+1==p.size)=true
  ·rw[if_pos e1];exact Qo (hd _ _ (m1.tail O sp sq (by simpa using e1) hl))
  rw[if_neg e1];have pK:i+k+1≠p.size:=by simpa using e1
  rw[if_neg (by simp;lia)]
  exact uX O L hk Sp Sq sp sq hl m1 (by lia) hj g1 hd λt' j' m n h1 h2 h3 h4=>hn t' _ j' m n h1 h2 h4 (by lia)
 ·rw[if_neg wN];exact uX O L hk Sp Sq sp sq hl m0 hi hj (λy h1 h2=>g1 y (by lia) h2) hd λt' j' m n h1 h2 h3 h4=>hn t' _ j' m n h1 h2 h4 (by lia)
theorem A9 {st:QF}{Q:ForInStep (Option (Array Qe)×RI)->QF->Prop}{t:Array Qe}{i j mg ma na:Nat}(O:cm c)(L:eO prog w A E s κ c S)(hk:kindOf st=κ)(Sp:∀i,i<p.size->S (el p i))(Sq:∀i,i<q.size->S (el q i))(sp:SR c p 0 p.size)(sq:SR c q 0 q.size)(hl:∀y,y<q.size->c (el q y) (el p (p.size-1))=true)(m:Mg c p q t.toList i j)(hi:i+1<p.size)(hj:j<q.size)
  (hd:∀out r,Gd c p q out.toList->Q (.done (some out,r)) st) (hn:∀t' i' j' m n,Mg c p q t'.toList i' j'->i'+1<p.size->j'<q.size->i+j<i'+j'->Q (.done (none,t',i',j',m,n)) st/\Q (.yield (none,t',i',j',m,n)) st):wpS (model prog w) A E s (Jy p q mg (none,t,i,j,ma,na)) Q st:=by
 unfold Jy FN FL;dsimp only;refine Qh (aM hj (Qh (aM (by lia) (Qh (L _ _ st _ (Sq _ hj) (Sp _ (by lia)) hk ?_)))))
 dsimp only;cases hc:c (el q j) (el p i)with
 |true =>
  rw[if_pos rfl];refine Qh (aM hj ?_);have m1:Mg c p q (t.push (el q j)).toList i (j+1):=by
   rw[SI];exact m.iA hj sq λk h1 h2=>O.trans (O.of_lt hc) (sp i k (by lia) h1 h2)
  by_cases e3:(j+1==q.size)=true
  ·rw[if_pos e3];exact Qo (hd _ _ (m1.done sp sq (.inr (by simpa using e3))))
  rw[if_neg e3];have h3:j+1≠q.size:=by simpa using e3
  obtain⟨h6,h7⟩:=hn _ _ _ 0 (na+1) m1 hi (by lia) (by lia)
  split
  ·exact Qo h6
  ·exact Qo h7
 |false =>
  rw[if_neg (by simp)]
  refine Qh (aM (by lia) ?_)
  have m1:Mg c p q (t.push (el p i)).toList (i+1) j:=by
   rw[SI];exact m.iB (by lia) sp λk h1 h2=>O.trans (show le c (el p i) (el q j) from hc) (sq j k (by lia) h1 h2)
  by_cases e3:(i+1+1==p.size)=true
  ·rw[if_pos e3];exact Qo (hd _ _ (m1.tail O sp sq (by simpa using e3) hl))
  rw[if_neg e3];have h3:i+1+1≠p.size:=by simpa using e3
  obtain⟨h6,h7⟩:=hn _ _ _ (ma+1) 0 m1 (by lia) hj (by lia)
  split
  ·exact Qo h6
  ·exact Qo h7
theorem pM (O:cm c)(L:eO prog w A E s κ c S){Q:Array Qe->QF->Prop}{st:QF}(hk:kindOf st=κ)(Sp:∀i,i<p.size->S (el p i))(Sq:∀i,i<q.size->S (el q i))(sp:SR c p 0 p.size)(sq:SR c q 0 q.size)
  (hp:0<p.size) (hq:0<q.size) (hf:c (el q 0) (el p 0)=true) (hl:∀y,y<q.size->c (el q y) (el p (p.size-1))=true) (h:∀to aB,ip st aB->Gd c p q to.toList->Q to aB) :
  wpS (model prog w) A E s (gz p q) Q st:=by
 rw[oh];refine Qh (Uh (Sr ⟨rfl,?_⟩));refine Qh (aM hq ?_);have m0:Mg c p q (#[el q 0]:Array Qe).toList 0 1:=Mg.start O sp sq hq hp hf
 by_cases h1:(1==q.size)=true
 ·rw[if_pos h1];exact Qo (h _ st (ip.refl st) (m0.done sp sq (.inr (by simpa using h1))))
 rw[if_neg h1]
 by_cases h2:(0+1==p.size)=true
 ·rw[if_pos h2];exact Qo (h _ st (ip.refl st) (m0.tail O sp sq (by simpa using h2) hl))
 rw[if_neg h2];refine Qh (TC ?_);refine Qh (RD (Rf
  (I:=λx r aB=>ip st aB/\∃to i j mg,r=(none,to,i,j,mg)/\Mg c p q to.toList i j/\i+1<p.size/\j<q.size/\x<i+j)
  (Q:=λr aB=>ip st aB/\∃out r',r=(some out,r')/\Gd c p q out.toList) ?_ ?_ ?_) ?_)
 ·rintro x r aB _ hx ⟨e,to,i,j,mg,rfl,m,hi,hj,hb⟩;unfold L1;dsimp only;refine Qh (RD (Rf
   (I:=λy r aB=>ip st aB/\∃to i j m n,r=(none,to,i,j,m,n)/\Mg c p q to.toList i j/\i+1<p.size/\j<q.size/\x+min y 1<i+j)
   (Q:=λr aB=>ip st aB/\((∃out r',r=(some out,r')/\Gd c p q out.toList)\/∃to i j m n,r=(none,to,i,j,m,n)/\Mg c p q to.toList i j/\i+1<p.size/\j<q.size/\x+1<i+j)) ?_ ?_ ?_) ?_)
  ·rintro y r dW _ hy ⟨e2,to,i,j,ma,na,rfl,m,hi,hj,hb⟩;exact A9 O L (e2.kind.trans hk) Sp Sq sp sq hl m hi hj (λout r h=>⟨e2,.inl ⟨_,_,rfl,h⟩⟩) λt' i' j' m n h1 h2 h3 h4=>⟨⟨e2,.inr ⟨_,_,_,_,_,rfl,h1,h2,h3,by lia⟩⟩,⟨e2,_,_,_,_,_,rfl,h1,h2,h3,by lia⟩⟩
  ·rintro r dW ⟨e2,to,i,j,ma,na,rfl,m,hi,hj,hb⟩;exact⟨e2,.inr ⟨_,_,_,_,_,rfl,m,hi,hj,by lia⟩⟩
  ·exact⟨e,_,_,_,_,_,rfl,m,hi,hj,by lia⟩
  rintro r dW ⟨e2,⟨out,r',rfl,g⟩|⟨to,i,j,ma,na,rfl,m,hi,hj,hb⟩⟩
  ·exact Qo ⟨e2,_,_,rfl,g⟩
  dsimp only;refine Qh (Uh (Sr ⟨rfl,?_⟩));refine Qh (RD (Rf
   (I:=λy r aB=>ip st aB/\∃to i j mg m n,r=(none,to,i,j,mg,m,n)/\Mg c p q to.toList i j/\i+1<p.size/\j<q.size/\x+1<i+j)
   (Q:=λr aB=>ip st aB/\((∃out r',r=(some out,r')/\Gd c p q out.toList)\/∃to i j mg m n,r=(none,to,i,j,mg,m,n)/\Mg c p q to.toList i j/\i+1<p.size/\j<q.size/\x+1<i+j)) ?_ ?_ ?_) ?_)
  ·rintro y r dW _ hy ⟨e2,to,i,j,mg,ma,na,rfl,m,hi,hj,hb⟩;show wpS (model prog w) A E s (if mg>1 then FO p q to i j (mg-1) ma na else FO p q to i j mg ma na) _ dW
   split <;> exact A_ O L (e2.kind.trans hk) Sp Sq sp sq hl m hi hj (λout r h=>⟨e2.AH _,.inl ⟨_,_,rfl,h⟩⟩) λt' i' j' m n h1 h2 h3 h4=>⟨⟨e2.AH _,.inr ⟨_,_,_,_,_,_,rfl,h1,h2,h3,by lia⟩⟩,⟨e2.AH _,_,_,_,_,_,_,rfl,h1,h2,h3,by lia⟩⟩
  ·rintro r dW ⟨e2,to,i,j,mg,ma,na,rfl,m,hi,hj,hb⟩;exact⟨e2,.inr ⟨_,_,_,_,_,_,rfl,m,hi,hj,hb⟩⟩
  ·exact⟨e2,_,_,_,_,_,_,rfl,m,hi,hj,hb⟩
  rintro r dW ⟨e2,⟨out,r',rfl,g⟩|⟨to,i,j,mg,ma,na,rfl,m,hi,hj,hb⟩⟩
  ·exact Qo ⟨e2,_,_,rfl,g⟩
  dsimp only;refine Qh (SK (Qo ⟨e2.AH _,_,_,_,_,rfl,m,hi,hj,by lia⟩))
 ·rintro r aB ⟨e,to,i,j,mg,rfl,m,hi,hj,hb⟩
  exfalso
  rw[show max 0 (p.size+q.size)=p.size+q.size by lia]at hb
  lia
 ·exact⟨ip.refl st,_,_,_,_,rfl,m0,by simp at h2;lia,by simp at h1;lia,by lia⟩
 ·rintro r aB ⟨e,out,r',rfl,g⟩;exact Qo (h _ aB e g)
end
section
variable {c:Qe->Qe->Bool}{p q:Array Qe}{t:List Qe}{i j:Nat}
structure Mh (c:Qe->Qe->Bool)(p q:Array Qe)(t:List Qe)(i j:Nat):Prop where
 hi:i<=p.size
 hj:j<=q.size
 perm:t.Perm (p.toList.drop i++q.toList.drop j)
 iw:t.Pairwise (le c)
 ap:∀x∈t,∀k,k<i->le c (el p k) x
 aq:∀x∈t,∀k,k<j->le c (el q k) x
theorem lJ {a:Array Qe}{i:Nat}(h0:0<i)(h:i<=a.size):a.toList.drop (i-1)=el a (i-1)::a.toList.drop i:=by
 rw[rV (by lia),show i-1+1=i by lia]
theorem Mh.iB (m:Mh c p q t i j)(h0:0<i)(sp:SR c p 0 p.size)(hle:∀k,k<j->le c (el q k) (el p (i-1))):Mh c p q (el p (i-1)::t) (i-1) j where
 hi:=by have:=m.hi;lia
 hj:=m.hj
 perm:=by
  rw[lJ h0 m.hi];exact m.perm.cons _
 iw:=RY.mpr ⟨λx hx=>m.ap x hx _ (by lia),m.iw⟩
 ap:=λx hx k hk=>by
  rcases Qc.mp hx with rfl|h
  ·exact sp k (i-1) (by lia) (by lia) (by have:=m.hi;lia)
  ·exact m.ap x h k (by lia)
 aq:=λx hx k hk=>by
  rcases Qc.mp hx with rfl|h
  ·exact hle k hk
  ·exact m.aq x h k hk
theorem Mh.iA (m:Mh c p q t i j)(h0:0<j)(sq:SR c q 0 q.size)(hle:∀k,k<i->le c (el p k) (el q (j-1))):Mh c p q (el q (j-1)::t) i (j-1) where
 hi:=m.hi
 hj:=by have:=m.hj;lia
 perm:=by
  rw[lJ h0 m.hj];exact(m.perm.cons _).trans List.perm_middle.symm
 iw:=RY.mpr ⟨λx hx=>m.aq x hx _ (by lia),m.iw⟩
 ap:=λx hx k hk=>by
  rcases Qc.mp hx with rfl|h
  ·exact hle k hk
  ·exact m.ap x h k hk
 aq:=λx hx k hk=>by
  rcases Qc.mp hx with rfl|h
  ·exact sq k (j-1) (by lia) (by lia) (by have:=m.hj;lia)
  ·exact m.aq x h k (by lia)
theorem k6 {a:Array Qe}{i k:Nat}(h0:k<i)(h:i<=a.size):(a.toList.drop (i-(k+1))).take (k+1)=el a (i-(k+1))::(a.toList.drop (i-k)).take k:=by
 rw[rV (by lia),show i-(k+1)+1=i-k by lia,List.take_succ_cons]
theorem Mh.vd (m:Mh c p q t i j)(sp:SR c p 0 p.size):∀(k:Nat),k<=i->(∀x,i-k<=x->x<i->∀y,y<j->le c (el q y) (el p x))->Mh c p q ((p.toList.drop (i-k)).take k++t) (i-k) j
 |0,_,_=>by simpa using m
 |k+1,h,hle=>by
  have m':=Mh.vd m sp k (by lia) λx h1 h2=>hle x (by lia) h2
  rw[k6 (by lia) m.hi,List.cons_append]
  exact m'.iB (by lia) sp λy hy=>hle _ (by lia) (by lia) y hy
theorem Mh.vc (m:Mh c p q t i j)(sq:SR c q 0 q.size):∀(k:Nat),k<=j->(∀x,j-k<=x->x<j->∀y,y<i->le c (el p y) (el q x))->Mh c p q ((q.toList.drop (j-k)).take k++t) i (j-k)
 |0,_,_=>by simpa using m
 |k+1,h,hle=>by
  have m':=Mh.vc m sq k (by lia) λx h1 h2=>hle x (by lia) h2
  rw[k6 (by lia) m.hj,List.cons_append]
  exact m'.iA (by lia) sq λy hy=>hle _ (by lia) (by lia) y hy
theorem Mh.eP (m:Mh c p q t i j)(sp:SR c p 0 p.size){h:Nat}(hh:h<=i)(hle:∀x,h<=x->x<i->∀y,y<j->le c (el q y) (el p x)):Mh c p q ((p.toList.drop h).take (i-h)++t) h j:=by
 have m':=m.vd sp (i-h) (by lia) λx h1 h2=>hle x (by lia) h2
 rw[show i-(i-h)=h by lia]at m'
 exact m'
theorem Mh.gg (m:Mh c p q t i j)(sq:SR c q 0 q.size){h:Nat}(hh:h<=j)(hle:∀x,h<=x->x<j->∀y,y<i->le c (el p y) (el q x)):Mh c p q ((q.toList.drop h).take (j-h)++t) i h:=by
 have m':=m.vc sq (j-h) (by lia) λx h1 h2=>hle x (by lia) h2
 rw[show j-(j-h)=h by lia]at m'
 exact m'
theorem Mh.full (m:Mh c p q t 0 0):Gd c p q t:=⟨m.perm,m.iw⟩
theorem Fl (a b to:Array Qe)(i j:Nat):(a.extract 0 i++b.extract 0 j++to.reverse).toList=(a.toList.drop 0).take (i-0)++((b.toList.drop 0).take (j-0)++to.toList.reverse):=by
 rw[Rz,Rz,ck,ck,Array.toList_reverse,Ru]
theorem Mh.done {to:Array Qe}(m:Mh c p q to.toList.reverse i j)(sp:SR c p 0 p.size)(sq:SR c q 0 q.size)(h:i=0\/j=0):Gd c p q (p.extract 0 i++q.extract 0 j++to.reverse).toList:=by
 rw[Fl];rcases h with rfl|rfl
 ·have m':=m.gg sq (h:=0) (Qv _) λx _ _ y hy=>by lia
  exact(m'.eP sp (h:=0) (Qv _) λx _ hx=>by lia).full
 ·have m':=m.gg sq (h:=0) (Qv _) λx _ hx=>by lia
  exact(m'.eP sp (h:=0) (Qv _) λx _ hx y hy=>by lia).full
theorem Mh.tail {to:Array Qe}(O:cm c)(m:Mh c p q to.toList.reverse i j)(sp:SR c p 0 p.size)(sq:SR c q 0 q.size)(h:j=1)(hf:c (el q 0) (el p 0)=true):Gd c p q (q.extract 0 j++p.extract 0 i++to.reverse).toList:=by
 rw[Fl];subst h;have m':=m.eP sp (h:=0) (Qv _) λx _ hx y hy=>by
  obtain rfl:y=0:=by lia
  exact O.trans (O.of_lt hf) (sp 0 x (by lia) (by lia) (by have:=m.hi;lia))
 exact(m'.gg sq (h:=0) (Qv _) λx _ _ y hy=>by lia).full
theorem gk (to:Array Qe)(x:Qe):(to.push x).toList.reverse=x::to.toList.reverse:=by
 rw[SI,List.reverse_append];rfl
theorem sj (to a:Array Qe)(h i:Nat):(to++(a.extract h i).reverse).toList.reverse=(a.toList.drop h).take (i-h)++to.toList.reverse:=by
 rw[Rz,List.reverse_append,Array.toList_reverse,List.reverse_reverse,ck]
theorem Mh.start (sp:SR c p 0 p.size)(O:cm c)(hp:0<p.size)(hl:∀y,y<q.size->c (el q y) (el p (p.size-1))=true):Mh c p q [el p (p.size-1)] (p.size-1) q.size:=by
 have m:Mh c p q [] p.size q.size:=⟨Qf _,Qf _,by rw[T7 (by simp),T7 (by simp)];exact .refl _,.nil,(λx hx=>by cases hx),(λx hx=>by cases hx)⟩
 exact m.iB hp sp λk hk=>O.of_lt (hl k hk)
end
abbrev RJ:=Nat×Nat×Array Qe×Nat×Nat
abbrev RH:=Nat×Nat×Array Qe×Nat×Nat×Nat
abbrev RP:=Nat×Nat×Array Qe×Nat
noncomputable def KG (p q t:Array Qe)(i j mg m n:Nat):StateT QF Sem (ForInStep (Option (Array Qe)×RH)):=do
 let z <- elem' p (i-1)
 if (i-1==0)=true then pure (.done (some (p.extract 0 (i-1)++q.extract 0 j++(t.push z).reverse),i-1,j,t.push z,mg,m,n))
 else if (decide (m<7)&&decide (n<7))=true then pure (.done (none,i-1,j,t.push z,mg,m,n)) else pure (.yield (none,i-1,j,t.push z,mg,m,n))
noncomputable def KH (p q t:Array Qe)(i j mg m n:Nat):StateT QF Sem (ForInStep (Option (Array Qe)×RH)):=do
 let y <- elem' q (j-1)
 if (j-1==1)=true then pure (.done (some (q.extract 0 (j-1)++p.extract 0 i++(t.push y).reverse),i,j-1,t.push y,mg,m,n))
 else do
  let x <- elem' p (i-1)
  let r <- cv true x q 0 (j-1) (j-1-1)
  match r with
  |some h=>if j-1-h>0 then (if (h==1)=true then pure (.done (some (q.extract 0 h++p.extract 0 i++(t.push y++(q.extract h (j-1)).reverse).reverse),i,h,t.push y++(q.extract h (j-1)).reverse,mg,m,j-1-h))
    else if (h==0)=true then pure (.done (some (p.extract 0 i++q.extract 0 h++(t.push y++(q.extract h (j-1)).reverse).reverse),i,h,t.push y++(q.extract h (j-1)).reverse,mg,m,j-1-h))
    else KG p q (t.push y++(q.extract h (j-1)).reverse) i h mg m (j-1-h)) else KG p q (t.push y) i (j-1) mg m (j-1-h)
  |_=>pure (.done (some (p.extract 0 i++q.extract 0 (j-1)++(t.push y).reverse),i,j-1,t.push y,mg,m,n))
noncomputable def GZ (p q t:Array Qe)(i j mg m n:Nat):StateT QF Sem (ForInStep (Option (Array Qe)×RH)):=do
 modify λst=>cw st mg
 let y <- elem' q (j-1)
 let r <- cv false y p 0 i (i-1)
 match r with
 |some h=>if i-h>0 then (if (h==0)=true then pure (.done (some (p.extract 0 h++q.extract 0 j++(t++(p.extract h i).reverse).reverse),h,j,t++(p.extract h i).reverse,mg,i-h,n))
   else KH p q (t++(p.extract h i).reverse) h j mg (i-h) n) else KH p q t i j mg (i-h) n
 |_=>pure (.done (some (p.extract 0 i++q.extract 0 j++t.reverse),i,j,t,mg,m,n))
def Ol (p q:Array Qe)(s:Option (Array Qe)×RH):StateT QF Sem (ForInStep (Option (Array Qe)×RH)):=if s.2.2.2.2.1>1 then GZ p q s.2.2.2.1 s.2.1 s.2.2.1 (s.2.2.2.2.1-1) s.2.2.2.2.2.1 s.2.2.2.2.2.2 else GZ p q s.2.2.2.1 s.2.1 s.2.2.1 s.2.2.2.2.1 s.2.2.2.2.2.1 s.2.2.2.2.2.2
noncomputable def KD (p q t:Array Qe)(mg i j m:Nat):StateT QF Sem (ForInStep (Option (Array Qe)×RJ)):=do
 let x <- elem' p (i-1)
 if (i-1==0)=true then pure (.done (some (p.extract 0 (i-1)++q.extract 0 j++(t.push x).reverse),i-1,j,t.push x,m+1,0))
 else if m+1 >= mg then pure (.done (none,i-1,j,t.push x,m+1,0)) else pure (.yield (none,i-1,j,t.push x,m+1,0))
noncomputable def KC (p q t:Array Qe)(mg i j n:Nat):StateT QF Sem (ForInStep (Option (Array Qe)×RJ)):=do
 let y <- elem' q (j-1)
 if (j-1==1)=true then pure (.done (some (q.extract 0 (j-1)++p.extract 0 i++(t.push y).reverse),i,j-1,t.push y,0,n+1))
 else if n+1 >= mg then pure (.done (none,i,j-1,t.push y,0,n+1)) else pure (.yield (none,i,j-1,t.push y,0,n+1))
noncomputable def Mt (p q t:Array Qe)(mg i j m n:Nat):StateT QF Sem (ForInStep (Option (Array Qe)×RJ)):=do
 let y <- elem' q (j-1)
 let x <- elem' p (i-1)
 let r <- lt' y x
 match r with
 |some Be=>if Be=true then KD p q t mg i j m else KC p q t mg i j n
 |_=>pure (.done (some (p.extract 0 i++q.extract 0 j++t.reverse),i,j,t,m,n))
noncomputable def Ms (p q:Array Qe)(s:Option (Array Qe)×RP):StateT QF Sem (ForInStep (Option (Array Qe)×RP)):=do
 let s1 <- forIn [:p.size+q.size] ((none,s.2.1,s.2.2.1,s.2.2.2.1,0,0):Option (Array Qe)×RJ) λ_ r=>Mt p q r.2.2.2.1 s.2.2.2.2 r.2.1 r.2.2.1 r.2.2.2.2.1 r.2.2.2.2.2
 match s1.1 with
 |some r=>pure (.done (some r,s1.2.1,s1.2.2.1,s1.2.2.2.1,s.2.2.2.2))
 |none=>do
  liftM (rule "list.sort.gallop")
  let s2 <- forIn [:p.size+q.size] ((none,s1.2.1,s1.2.2.1,s1.2.2.2.1,s.2.2.2.2+1,s1.2.2.2.2.1,s1.2.2.2.2.2):Option (Array Qe)×RH) λ_ r=>Ol p q r
  match s2.1 with
  |some r=>pure (.done (some r,s2.2.1,s2.2.2.1,s2.2.2.2.1,s2.2.2.2.2.1))
  |none=>do
   modify λst=>cw st (s2.2.2.2.2.1+1)
   pure (.yield (none,s2.2.1,s2.2.2.1,s2.2.2.2.1,s2.2.2.2.2.1+1))
theorem om (p q:Array Qe):gA p q=(do
  liftM (rule "list.sort.merge-hi")
  let y <- elem' p (p.size-1)
  if (p.size-1==0)=true then pure (p.extract 0 (p.size-1)++q.extract 0++#[y].reverse)
  else if (q.size==1)=true then pure (q.extract 0++p.extract 0 (p.size-1)++#[y].reverse)
  else do
   let st <- get
   let s <- forIn [:p.size+q.size] ((none,p.size-1,q.size,#[y],gallopOf st):Option (Array Qe)×RP) λ_ s=>Ms p q s
   match s.1 with
   |some r=>pure r
   |none=>liftM (unsupported "internal:list.sort.merge-bound" : Sem (Array Qe))):=by
 rw[oj];dsimp only;refine congrArg (bind _) (funext λ_=>?_);refine congrArg (bind _) (funext λy=>?_);refine congrArg (ite _ _) (congrArg (ite _ _) ?_);refine congrArg (bind _) (funext λy=>?_);refine congr (congrArg bind (congrArg _ (funext λ_=>funext λs=>?_))) (funext λs=>?_)
 ·refine congr (congrArg bind (congrArg _ (funext λ_=>funext λs=>?_))) (funext λs=>?_)
  ·rfl
  ·cases s.1
   ·refine congrArg (bind _) (funext λ_=>?_);refine congr (congrArg bind (congrArg _ (funext λ_=>funext λs=>?_))) (funext λs=>?_)
    ·rfl
    ·cases s.1 <;> rfl
   ·rfl
 ·cases s.1 <;> rfl
section
variable {prog:Qd}{w:Qq}{A:Rj}{E:P_->Qb->Prop}{s:Qb}{κ:S3}{c:Qe->Qe->Bool}{S:Qe->Prop}{p q:Array Qe}
theorem uY {st:QF}{Q:ForInStep (Option (Array Qe)×RH)->QF->Prop}{t:Array Qe}{i j mg m n:Nat}(sp:SR c p 0 p.size)(sq:SR c q 0 q.size)(m3:Mh c p q t.toList.reverse i j)(hi:0<i)(g3:∀k,k<j->le c (el q k) (el p (i-1)))
  (hd:∀out r,Gd c p q out.toList->Q (.done (some out,r)) st) (hn:∀t' m n,Mh c p q t'.toList.reverse (i-1) j->0<i-1->Q (.done (none,i-1,j,t',mg,m,n)) st/\Q (.yield (none,i-1,j,t',mg,m,n)) st):wpS (model prog w) A E s (KG p q t i j mg m n) Q st:=by
 have fF:=m3.hi;refine Qh (aM (by lia) ?_)
 have m4:Mh c p q (t.push (el p (i-1))).toList.reverse (i-1) j:=by
  rw[gk];exact m3.iB hi sp g3
 by_cases e5:(i-1==0)=true
 ·rw[if_pos e5];exact Qo (hd _ _ (m4.done sp sq (.inl (by simpa using e5))))
 rw[if_neg e5];have h5:i-1≠0:=by simpa using e5
 obtain⟨h6,h7⟩:=hn (t.push (el p (i-1))) m n m4 (by lia)
 split
 ·exact Qo h6
 ·exact Qo h7
theorem uZ {st:QF}{Q:ForInStep (Option (Array Qe)×RH)->QF->Prop}{t:Array Qe}{i j mg m n:Nat}(O:cm c)(L:eO prog w A E s κ c S)(hk:kindOf st=κ)(Sp:∀i,i<p.size->S (el p i))(Sq:∀i,i<q.size->S (el q i))(sp:SR c p 0 p.size)(sq:SR c q 0 q.size)(hf:c (el q 0) (el p 0)=true)(m1:Mh c p q t.toList.reverse i j)(hi:0<i)(hj:1<j)(g1:∀x,x<i->le c (el p x) (el q (j-1)))
  (hd:∀out r,Gd c p q out.toList->Q (.done (some out,r)) st) (hn:∀t' j' m n,Mh c p q t'.toList.reverse (i-1) j'->0<i-1->1<j'->j'<j->Q (.done (none,i-1,j',t',mg,m,n)) st/\Q (.yield (none,i-1,j',t',mg,m,n)) st):wpS (model prog w) A E s (KH p q t i j mg m n) Q st:=by
 have mi:=m1.hi;have mj:=m1.hj;refine Qh (aM (by lia) ?_)
 have m2:Mh c p q (t.push (el q (j-1))).toList.reverse i (j-1):=by
  rw[gk];exact m1.iA (by lia) sq g1
 by_cases e3:(j-1==1)=true
 ·rw[if_pos e3];exact Qo (hd _ _ (m2.tail O sp sq (by simpa using e3) hf))
 rw[if_neg e3];have h3:j-1≠1:=by simpa using e3
 refine Qh (aM (by lia) (Qh (df O L hk (Sp _ (by lia)) (λx hx=>Sq _ (by lia)) (by lia) (λa b h1 h2 h3=>sq a b (by lia) h2 (by lia)) (by lia) λh k1 k2 k3=>?_)))
 have g2:∀x,x<h->c (el q x) (el p (i-1))=true:=λx hx=>by
  have:=k2 x hx;unfold dy at this;rw[if_pos rfl,UL]at this;exact this
 have g4:∀x,h<=x->x<j-1->le c (el p (i-1)) (el q x):=λx h1 h2=>by
  have:=k3 x h1 h2;unfold dy at this;rw[if_pos rfl,UL]at this;exact this
 have hh:0<h:=by
  rcases Nat.eq_zero_or_pos h with z|z
  ·subst z;have h2:=O.trans (sp 0 (i-1) (by lia) (by lia) (by lia)) (g4 0 (Qf _) (by lia))
   exact absurd (hf.symm.trans h2) (by simp)
  ·exact z
 dsimp only
 by_cases wN:j-1-h>0
 ·rw[if_pos wN];have m3:Mh c p q (t.push (el q (j-1))++(q.extract h (j-1)).reverse).toList.reverse i h:=by
   rw[sj];exact m2.gg sq k1 λx h1 h2 y hy=>O.trans (sp y (i-1) (by lia) (by lia) (by lia)) (g4 x h1 h2)
  by_cases e4:(h==1)=true
  ·rw[if_pos e4];exact Qo (hd _ _ (m3.tail O sp sq (by simpa using e4) hf))
  rw[if_neg e4];have h4:h≠1:=by simpa using e4
  rw[if_neg (by simp;lia)]
  exact uY sp sq m3 hi (λk hk=>O.of_lt (g2 k hk)) hd λt' m n h1 h2=>hn t' _ m n h1 h2 (by lia) (by lia)
 ·rw[if_neg wN];exact uY sp sq m2 hi (λk hk=>O.of_lt (g2 k (by lia))) hd λt' m n h1 h2=>hn t' _ m n h1 h2 (by lia) (by lia)
theorem Bc {st:QF}{Q:ForInStep (Option (Array Qe)×RH)->QF->Prop}{t:Array Qe}{i j mg m n:Nat}(O:cm c)(L:eO prog w A E s κ c S)(hk:kindOf st=κ)(Sp:∀i,i<p.size->S (el p i))(Sq:∀i,i<q.size->S (el q i))(sp:SR c p 0 p.size)(sq:SR c q 0 q.size)(hf:c (el q 0) (el p 0)=true)(m0:Mh c p q t.toList.reverse i j)(hi:0<i)(hj:1<j)
  (hd:∀out r,Gd c p q out.toList->Q (.done (some out,r)) (cw st mg)) (hn:∀t' i' j' m n,Mh c p q t'.toList.reverse i' j'->0<i'->1<j'->i'+j'<i+j->Q (.done (none,i',j',t',mg,m,n)) (cw st mg)/\Q (.yield (none,i',j',t',mg,m,n)) (cw st mg)):wpS (model prog w) A E s (GZ p q t i j mg m n) Q st:=by
 have mi:=m0.hi;have mj:=m0.hj;refine Qh (SK (Qh (aM (by lia) (Qh (df O L hk (Sq _ (by lia)) (λx hx=>Sp _ (by lia)) (by lia) (λa b h1 h2 h3=>sp a b (by lia) h2 (by lia)) (by lia) λh k1 k2 k3=>?_)))))
 have g0:∀x,x<h->le c (el p x) (el q (j-1)):=λx hx=>by
  have:=k2 x hx;unfold dy at this;rw[if_neg (by simp),TJ,UL]at this
  exact this
 have g5:∀x,h<=x->x<i->le c (el q (j-1)) (el p x):=λx h1 h2=>by
  have:=k3 x h1 h2;unfold dy at this;rw[if_neg (by simp),UD,UL]at this
  exact O.of_lt this
 dsimp only
 by_cases wN:i-h>0
 ·rw[if_pos wN];have m1:Mh c p q (t++(p.extract h i).reverse).toList.reverse h j:=by
   rw[sj];exact m0.eP sp k1 λx h1 h2 y hy=>O.trans (sq y (j-1) (by lia) (by lia) (by lia)) (g5 x h1 h2)
  by_cases e1:(h==0)=true
  ·rw[if_pos e1];exact Qo (hd _ _ (m1.done sp sq (.inl (by simpa using e1))))
  rw[if_neg e1];have pK:h≠0:=by simpa using e1
  exact uZ O L hk Sp Sq sp sq hf m1 (by lia) hj g0 hd λt' j' m n h1 h2 h3 h4=>hn t' _ j' m n h1 h2 h3 (by lia)
 ·rw[if_neg wN];exact uZ O L hk Sp Sq sp sq hf m0 hi hj (λx hx=>g0 x (by lia)) hd λt' j' m n h1 h2 h3 h4=>hn t' _ j' m n h1 h2 h3 (by lia)
theorem Ba {st:QF}{Q:ForInStep (Option (Array Qe)×RJ)->QF->Prop}{t:Array Qe}{i j mg ma na:Nat}(O:cm c)(L:eO prog w A E s κ c S)(hk:kindOf st=κ)(Sp:∀i,i<p.size->S (el p i))(Sq:∀i,i<q.size->S (el q i))(sp:SR c p 0 p.size)(sq:SR c q 0 q.size)(hf:c (el q 0) (el p 0)=true)(m:Mh c p q t.toList.reverse i j)(hi:0<i)(hj:1<j)
  (hd:∀out r,Gd c p q out.toList->Q (.done (some out,r)) st) (hn:∀t' i' j' m n,Mh c p q t'.toList.reverse i' j'->0<i'->1<j'->i'+j'<i+j->Q (.done (none,i',j',t',m,n)) st/\Q (.yield (none,i',j',t',m,n)) st):wpS (model prog w) A E s (Mt p q t mg i j ma na) Q st:=by
 have fF:=m.hi;have PL:=m.hj;refine Qh (aM (by lia) (Qh (aM (by lia) (Qh (L _ _ st _ (Sq _ (by lia)) (Sp _ (by lia)) hk ?_)))))
 dsimp only;cases hc:c (el q (j-1)) (el p (i-1))with
 |true =>
  rw[if_pos rfl];refine Qh (aM (by lia) ?_)
  have m1:Mh c p q (t.push (el p (i-1))).toList.reverse (i-1) j:=by
   rw[gk];exact m.iB hi sp λk hk=>O.trans (sq k (j-1) (by lia) (by lia) (by lia)) (O.of_lt hc)
  by_cases e3:(i-1==0)=true
  ·rw[if_pos e3];exact Qo (hd _ _ (m1.done sp sq (.inl (by simpa using e3))))
  rw[if_neg e3];have h3:i-1≠0:=by simpa using e3
  obtain⟨h6,h7⟩:=hn _ _ _ (ma+1) 0 m1 (by lia) hj (by lia)
  split
  ·exact Qo h6
  ·exact Qo h7
 |false =>
  rw[if_neg (by simp)]
  refine Qh (aM (by lia) ?_)
  have m1:Mh c p q (t.push (el q (j-1))).toList.reverse i (j-1):=by
   rw[gk];exact m.iA (by lia) sq λk hk=>O.trans (sp k (i-1) (by lia) (by lia) (by lia)) (show le c (el p (i-1)) (el q (j-1)) from hc)
  by_cases e3:(j-1==1)=true
  ·rw[if_pos e3];exact Qo (hd _ _ (m1.tail O sp sq (by simpa using e3) hf))
  rw[if_neg e3];have h3:j-1≠1:=by simpa using e3
  obtain⟨h6,h7⟩:=hn _ _ _ 0 (na+1) m1 hi (by lia) (by lia)
  split
  ·exact Qo h6
  ·exact Qo h7
theorem pN (O:cm c)(L:eO prog w A E s κ c S){Q:Array Qe->QF->Prop}{st:QF}(hk:kindOf st=κ)(Sp:∀i,i<p.size->S (el p i))(Sq:∀i,i<q.size->S (el q i))(sp:SR c p 0 p.size)(sq:SR c q 0 q.size)
  (hp:0<p.size) (hq:0<q.size) (hf:c (el q 0) (el p 0)=true) (hl:∀y,y<q.size->c (el q y) (el p (p.size-1))=true) (h:∀to aB,ip st aB->Gd c p q to.toList->Q to aB) :
  wpS (model prog w) A E s (gA p q) Q st:=by
 rw[om];refine Qh (Uh (Sr ⟨rfl,?_⟩));refine Qh (aM (by lia) ?_)
 have m0:Mh c p q (#[el p (p.size-1)]:Array Qe).toList.reverse (p.size-1) q.size:=Mh.start sp O hp hl
 by_cases h1:(p.size-1==0)=true
 ·rw[if_pos h1];exact Qo (h _ st (ip.refl st) (m0.done sp sq (.inl (by simpa using h1))))
 rw[if_neg h1];have pK:p.size-1≠0:=by simpa using h1
 by_cases h2:(q.size==1)=true
 ·rw[if_pos h2];exact Qo (h _ st (ip.refl st) (m0.tail O sp sq (by simpa using h2) hf))
 rw[if_neg h2];have kh:q.size≠1:=by simpa using h2
 refine Qh (TC ?_);refine Qh (RD (Rf
  (I:=λx r aB=>ip st aB/\∃i j to mg,r=(none,i,j,to,mg)/\Mh c p q to.toList.reverse i j/\0<i/\1<j/\i+j+x<p.size+q.size)
  (Q:=λr aB=>ip st aB/\∃out r',r=(some out,r')/\Gd c p q out.toList) ?_ ?_ ?_) ?_)
 ·rintro x r aB _ hx ⟨e,i,j,to,mg,rfl,m,hi,hj,hb⟩;unfold Ms;dsimp only;refine Qh (RD (Rf
   (I:=λy r aB=>ip st aB/\∃i j to m n,r=(none,i,j,to,m,n)/\Mh c p q to.toList.reverse i j/\0<i/\1<j/\i+j+x+min y 1<p.size+q.size)
   (Q:=λr aB=>ip st aB/\((∃out r',r=(some out,r')/\Gd c p q out.toList)\/∃i j to m n,r=(none,i,j,to,m,n)/\Mh c p q to.toList.reverse i j/\0<i/\1<j/\i+j+x+1<p.size+q.size)) ?_ ?_ ?_) ?_)
  ·rintro y r dW _ hy ⟨e2,i,j,to,ma,na,rfl,m,hi,hj,hb⟩;exact Ba O L (e2.kind.trans hk) Sp Sq sp sq hf m hi hj (λout r h=>⟨e2,.inl ⟨_,_,rfl,h⟩⟩) λt' i' j' m n h1 h2 h3 h4=>⟨⟨e2,.inr ⟨_,_,_,_,_,rfl,h1,h2,h3,by lia⟩⟩,⟨e2,_,_,_,_,_,rfl,h1,h2,h3,by lia⟩⟩
  ·rintro r dW ⟨e2,i,j,to,ma,na,rfl,m,hi,hj,hb⟩;exact⟨e2,.inr ⟨_,_,_,_,_,rfl,m,hi,hj,by lia⟩⟩
  ·exact⟨e,_,_,_,_,_,rfl,m,hi,hj,by lia⟩
  rintro r dW ⟨e2,⟨out,r',rfl,g⟩|⟨i,j,to,ma,na,rfl,m,hi,hj,hb⟩⟩
  ·exact Qo ⟨e2,_,_,rfl,g⟩
  dsimp only;refine Qh (Uh (Sr ⟨rfl,?_⟩));refine Qh (RD (Rf
   (I:=λy r aB=>ip st aB/\∃i j to mg m n,r=(none,i,j,to,mg,m,n)/\Mh c p q to.toList.reverse i j/\0<i/\1<j/\i+j+x+1<p.size+q.size)
   (Q:=λr aB=>ip st aB/\((∃out r',r=(some out,r')/\Gd c p q out.toList)\/∃i j to mg m n,r=(none,i,j,to,mg,m,n)/\Mh c p q to.toList.reverse i j/\0<i/\1<j/\i+j+x+1<p.size+q.size)) ?_ ?_ ?_) ?_)
  ·rintro y r dW _ hy ⟨e2,i,j,to,mg,ma,na,rfl,m,hi,hj,hb⟩;show wpS (model prog w) A E s (if mg>1 then GZ p q to i j (mg-1) ma na else GZ p q to i j mg ma na) _ dW
   split <;> exact Bc O L (e2.kind.trans hk) Sp Sq sp sq hf m hi hj (λout r h=>⟨e2.AH _,.inl ⟨_,_,rfl,h⟩⟩) λt' i' j' m n h1 h2 h3 h4=>⟨⟨e2.AH _,.inr ⟨_,_,_,_,_,_,rfl,h1,h2,h3,by lia⟩⟩,⟨e2.AH _,_,_,_,_,_,_,rfl,h1,h2,h3,by lia⟩⟩
  ·rintro r dW ⟨e2,i,j,to,mg,ma,na,rfl,m,hi,hj,hb⟩;exact⟨e2,.inr ⟨_,_,_,_,_,_,rfl,m,hi,hj,hb⟩⟩
  ·exact⟨e2,_,_,_,_,_,_,rfl,m,hi,hj,hb⟩
  rintro r dW ⟨e2,⟨out,r',rfl,g⟩|⟨i,j,to,mg,ma,na,rfl,m,hi,hj,hb⟩⟩
  ·exact Qo ⟨e2,_,_,rfl,g⟩
  dsimp only;refine Qh (SK (Qo ⟨e2.AH _,_,_,_,_,rfl,m,hi,hj,by lia⟩))
 ·rintro r aB ⟨e,i,j,to,mg,rfl,m,hi,hj,hb⟩
  exfalso
  rw[show max 0 (p.size+q.size)=p.size+q.size by lia]at hb
  lia
 ·exact⟨ip.refl st,_,_,_,_,rfl,m0,by lia,by lia,by lia⟩
 ·rintro r aB ⟨e,out,r',rfl,g⟩;exact Qo (h _ aB e g)
end
section
variable {c:Qe->Qe->Bool}{a b:Array Qe}
structure Rg (a b:Array Qe)(lo hi:Nat):Prop where
 perm:b.Perm a
 out:∀k,(k<lo\/hi<=k)->el b k=el a k
theorem Rg.refl {lo hi:Nat}:Rg a a lo hi:=⟨U8 _,λ_ _=>rfl⟩
theorem Rg.trans {d:Array Qe}{lo hi:Nat}(x:Rg a b lo hi)(y:Rg b d lo hi):Rg a d lo hi:=⟨y.perm.trans x.perm,λk h=>(y.out k h).trans (x.out k h)⟩
theorem Rg.mono {lo hi Av fF:Nat}(x:Rg a b lo hi)(h1:Av<=lo)(h2:hi<=fF):Rg a b Av fF:=⟨x.perm,λk h=>x.out k (by lia)⟩
theorem Rg.size {lo hi:Nat}(x:Rg a b lo hi):b.size=a.size:=x.perm.size_eq
theorem SR.congr {lo hi:Nat}(h:SR c a lo hi)(e:∀k,lo<=k->k<hi->el b k=el a k):SR c b lo hi:=λi j h1 h2 h3=>by
 rw[e i h1 (by lia),e j (by lia) h3]
 exact h i j h1 h2 h3
def NI (c:Qe->Qe->Bool)(a:Array Qe)(lo hi:Nat):Prop:=∀i j,lo<=i->i<=j->j<hi->le c (el a j) (el a i)
theorem bZ {i j:Nat}(hj:j<=a.size)(k:Nat):el (mirror a i j ((j-i) / 2)) k=if i<=k/\k<j then el a (i+j-1-k) else el a k:=by
 have e:=getElem?_mirror_all (i:=i) hj k
 by_cases h:i<=k/\k<j
 ·rw[if_pos h]at e ⊢
  exact du e
 ·rw[if_neg h]at e ⊢
  exact du e
theorem d9 {i j:Nat}(hj:j<=a.size):Rg a (mirror a i j ((j-i) / 2)) i j:=⟨mirror_perm _ _ _ _,λk h=>by rw[bZ hj,if_neg (by lia)]⟩
theorem lr {i j:Nat}(hj:j<=a.size)(h:NI c a i j):SR c (mirror a i j ((j-i) / 2)) i j:=λx y h1 h2 h3=>by
 rw[bZ hj,bZ hj,if_pos (by lia),if_pos (by lia)]
 exact h _ _ (by lia) (by lia) (by lia)
theorem g_ {lo i j:Nat}(Kw:lo<=i)(hj:j<=a.size)(h:NI c a lo j)(he:∀x y,i<=x->x<j->i<=y->y<j->le c (el a x) (el a y)):NI c (mirror a i j ((j-i) / 2)) lo j:=λx y h1 h2 h3=>by
 rw[bZ hj,bZ hj]
 by_cases hx:i<=x/\x<j
 ·rw[if_pos hx,if_pos (by lia)]
  exact he _ _ (by lia) (by lia) (by lia) (by lia)
 ·rw[if_neg hx]
  by_cases hy:i<=y/\y<j
  ·rw[if_pos hy];exact h _ _ (by lia) (by lia) (by lia)
  ·rw[if_neg hy];exact h _ _ h1 h2 h3
theorem SR.snoc {lo n:Nat}(O:cm c)(h:SR c a lo (lo+n))(h1:0<n)(hn:le c (el a (lo+n-1)) (el a (lo+n))):SR c a lo (lo+(n+1)):=λi j h2 h3 h4=>by
 by_cases hj:j<lo+n
 ·exact h i j h2 h3 hj
 ·obtain rfl:j=lo+n:=by lia
  by_cases hi:i<lo+n
  ·exact O.trans (h i (lo+n-1) h2 (by lia) (by lia)) hn
  ·obtain rfl:i=lo+n:=by lia
   exact O.refl _
theorem NI.snoc {lo n:Nat}(O:cm c)(h:NI c a lo (lo+n))(h1:0<n)(hn:le c (el a (lo+n)) (el a (lo+n-1))):NI c a lo (lo+(n+1)):=λi j h2 h3 h4=>by
 by_cases hj:j<lo+n
 ·exact h i j h2 h3 hj
 ·obtain rfl:j=lo+n:=by lia
  by_cases hi:i<lo+n
  ·exact O.trans hn (h i (lo+n-1) h2 (by lia) (by lia))
  ·obtain rfl:i=lo+n:=by lia
   exact O.refl _
theorem SR.one {lo:Nat}(O:cm c):SR c a lo (lo+1):=λi j h1 h2 h3=>by
 obtain rfl:i=j:=by lia
 exact O.refl _
end
structure il (κ:S3)(a₀:Array Qe)(st:QF):Prop where
 kind:kindOf st=κ
 fail:Td st=none
 perm:(QL st).Perm a₀
section
variable {prog:Qd}{w:Qq}{A:Rj}{E:P_->Qb->Prop}{s:Qb}{κ:S3}{c:Qe->Qe->Bool}{a₀:Array Qe}
theorem il.size {st:QF}(h:il κ a₀ st):(QL st).size=a₀.size:=h.perm.size_eq
theorem il.mem {st:QF}(h:il κ a₀ st){i:Nat}(hi:i<a₀.size):el (QL st) i∈a₀.toList:=by
 have h1:i<(QL st).size:=by rw[h.size];exact hi
 refine(SS.mp h.perm).mem_iff.mp ?_;have:=gI h1;rw[<- QI]at this;exact QW this
theorem il.set {st:QF}{b:Array Qe}{lo hi:Nat}(h:il κ a₀ st)(r:Rg (QL st) b lo hi):il κ a₀ (Rl st b):=⟨h.kind,h.fail,r.perm.trans h.perm⟩
theorem lW (L:eO prog w A E s κ c (·∈a₀.toList)){st:QF}{i j:Nat}{Q:Option Bool->QF->Prop}(h:il κ a₀ st)(hi:i<a₀.size)(hj:j<a₀.size)(q:Q (some (c (el (QL st) i) (el (QL st) j))) st):
  wpS (model prog w) A E s (ltAt' i j) Q st:=by
 rw[ltAt'_eq];refine Qh (TC ?_);exact Qh (aM (by rw[h.size];exact hi) (Qh (aM (by rw[h.size];exact hj) (L _ _ st Q (h.mem hi) (h.mem hj) h.kind q))))
theorem f_ (L:eO prog w A E s κ c (·∈a₀.toList)){st:QF}{b:Array Qe}{i j lo hi:Nat}{Q:Option Bool->QF->Prop}(h:il κ a₀ st)(R:Rg (QL st) b lo hi)(hi:i<a₀.size)(hj:j<a₀.size)(q:Q (some (c (el b i) (el b j))) (Rl st b)):
  wpS (model prog w) A E s (ltAt' i j) Q (Rl st b):=lW L (h.set R) hi hj q
theorem f9 {st:QF}{i j:Nat}{Q:Unit->QF->Prop}(q:Q () (Rl st (mirror (QL st) i j ((j-i) / 2)))):wpS (model prog w) A E s (reverseSlice' i j) Q st:=by
 rw[reverseSlice'_eq];exact SK q
theorem u3 (O:cm c)(L:eO prog w A E s κ c (·∈a₀.toList)){st:QF}{lo d6:Nat}{Q:Option Nat->QF->Prop}(h0:il κ a₀ st)(h1:1<=d6)(hn:lo+d6<=a₀.size)
  (h:∀n b,1<=n->n<=d6->Rg (QL st) b lo (lo+d6)->SR c b lo (lo+n)->Q (some n) (Rl st b)):wpS (model prog w) A E s (countRun' lo d6) Q st:=by
 rw[countRun'_eq];dsimp only;refine Qh (RD (Rf (I:=λx r aB=>aB=st/\∃n,r=(none,n)/\n=x/\SR c (QL st) lo (lo+n))
  (Q:=λr aB=>aB=st/\∃n,r=(none,n)/\1<=n/\n<=d6/\SR c (QL st) lo (lo+n)/\(n=d6\/(n<d6/\c (el (QL st) (lo+n)) (el (QL st) (lo+n-1))=true))) ?_ ?_ ?_) ?_)
 ·rintro x r aB F0 hx ⟨rfl,n,rfl,rfl,hs⟩;dsimp only;refine Qh (lW L h0 (by lia) (by lia) ?_)
  dsimp only;cases hc:c (el (QL aB) (lo+n)) (el (QL aB) (lo+n-1))with
  |true =>
   rw[if_pos rfl];exact Qo ⟨rfl,n,rfl,F0,by lia,hs,.inr ⟨by lia,hc⟩⟩
  |false =>
   rw[if_neg (by simp)]
   exact Qo ⟨rfl,n+1,rfl,rfl,hs.snoc O F0 hc⟩
 ·rintro r aB ⟨rfl,n,rfl,hx,hs⟩;exact⟨rfl,n,rfl,by lia,by lia,hs,.inl (by lia)⟩
 ·exact⟨rfl,1,rfl,rfl,SR.one O⟩
 rintro r aB ⟨e0,n,rfl,Kr,Ig,hs,hc⟩;rw[e0];dsimp only
 by_cases C_:(n==d6)=true
 ·rw[if_pos C_];exact Qo (h n (QL st) Kr Ig Rg.refl hs)
 rw[if_neg C_];have N8:n≠d6:=by simpa using C_
 have hc:c (el (QL st) (lo+n)) (el (QL st) (lo+n-1))=true:=by
  rcases hc with q|q
  ·lia
  ·exact q.2
 refine(λ(key:∀b,Rg (QL st) b lo (lo+d6)->NI c b lo (lo+(n+1))->wpS (model prog w) A E s ?cont Q (Rl st b))=>?main) ?key
 case main =>
  by_cases h2:n>1
  ·rw[if_pos h2];refine Qh (lW L h0 (by lia) (by lia) ?_)
   dsimp only;cases hr:c (el (QL st) lo) (el (QL st) (lo+n-1))with
   |true =>
    rw[if_pos rfl];exact Qo (h n (QL st) Kr Ig Rg.refl hs)
   |false =>
    rw[if_neg (by simp)]
    refine Qh (f9 ?_);have hz:lo+n<=(QL st).size:=by have:=h0.size;lia
    have R0:Rg (QL st) (mirror (QL st) lo (lo+n) ((lo+n-lo) / 2)) lo (lo+d6):=(d9 hz).mono (Qf _) (by lia)
    have all:∀u v,lo<=u->u<lo+n->lo<=v->v<lo+n->le c (el (QL st) u) (el (QL st) v):=λu v h1 h2 h3 h4 =>
     O.trans (hs u (lo+n-1) h1 (by lia) (by lia)) (O.trans hr (hs lo v (Qf _) h3 h4))
    have N0:NI c (mirror (QL st) lo (lo+n) ((lo+n-lo) / 2)) lo (lo+(n+1)):=by
     refine NI.snoc O (g_ (Qf _) hz (λu v h1 h2 h3=>all v u (by lia) (by lia) h1 (by lia)) λu v h1 h2 h3 h4=>all u v h1 h2 h3 h4) (by lia) ?_
     rw[bZ hz,bZ hz,if_neg (by lia),if_pos (by lia)]
     exact O.trans (O.of_lt hc) (all _ _ (by lia) (by lia) (by lia) (by lia))
    exact key _ R0 N0
  ·rw[if_neg h2];have N0:NI c (QL st) lo (lo+(n+1)):=NI.snoc O (λu v h1 h2 h3=>by
    obtain rfl:u=v:=by lia
    exact O.refl _) (by lia) (O.of_lt hc)
   show wpS _ _ _ _ _ Q (Rl st (QL st));exact key _ Rg.refl N0
 case key =>
  intro b0 R0 N0;refine Qh (Uh (Sr ⟨rfl,?_⟩));refine Qh (RD (Rf (I:=λx r aB=>∃b n iD,aB=Rl st b/\r=(none,n,iD)/\n=x/\Rg (QL st) b lo (lo+d6)/\NI c b lo (lo+n)/\iD<n/\(∀u v,lo+n-1-iD<=u->u<lo+n->lo+n-1-iD<=v->v<lo+n->le c (el b u) (el b v)))
   (Q:=λr aB=>∃b n iD,aB=Rl st b/\r=(none,n,iD)/\1<=n/\n<=d6/\Rg (QL st) b lo (lo+d6)/\NI c b lo (lo+n)/\iD<n/\(∀u v,lo+n-1-iD<=u->u<lo+n->lo+n-1-iD<=v->v<lo+n->le c (el b u) (el b v))) ?_ ?_ ?_) ?_)
  ·rintro x r aB F0 hx ⟨b,n',iD,rfl,rfl,rfl,R,N,hq,he⟩;dsimp only;refine Qh (f_ L h0 R (by lia) (by lia) ?_)
   dsimp only;cases gQ:c (el b (lo+n')) (el b (lo+n' - 1))with
   |true =>
    rw[if_pos rfl]
    by_cases wL:iD>0
    ·rw[if_pos wL];refine Qh (f9 (Qo ?_));have hz:lo+n'<=b.size:=by have:=R.size;have:=h0.size;lia
     refine⟨mirror b (lo+n' - (iD+1)) (lo+n') ((lo+n' - (lo+n' - (iD+1))) / 2),n'+1,0,rfl,rfl,rfl,R.trans ((d9 hz).mono (by lia) (by lia)),?_,by lia,?_⟩
     ·refine NI.snoc O (g_ (by lia) hz N λu v h1 h2 h3 h4=>he u v (by lia) h2 (by lia) h4) (by lia) ?_
      rw[bZ hz,bZ hz,if_neg (by lia),if_pos (by lia)]
      exact O.trans (O.of_lt gQ) (he _ _ (by lia) (by lia) (by lia) (by lia))
     ·intro u v h1 h2 h3 h4;obtain rfl:u=v:=by lia
      exact O.refl _
    ·rw[if_neg wL];refine Qo ⟨b,n'+1,0,rfl,rfl,rfl,R,N.snoc O (by lia) (O.of_lt gQ),by lia,?_⟩
     intro u v h1 h2 h3 h4;obtain rfl:u=v:=by lia
     exact O.refl _
   |false =>
    rw[if_neg (by simp)]
    refine Qh (f_ L h0 R (by lia) (by lia) ?_)
    dsimp only;cases kc:c (el b (lo+n' - 1)) (el b (lo+n'))with
    |true =>
     rw[if_pos rfl];exact Qo ⟨b,n',iD,rfl,rfl,by lia,by lia,R,N,hq,he⟩
    |false =>
     rw[if_neg (by simp)]
     refine Qo ⟨b,n'+1,iD+1,rfl,rfl,rfl,R,N.snoc O (by lia) kc,by lia,?_⟩
     have hl:∀u,lo+n' - 1-iD<=u->u<lo+(n'+1)->le c (el b u) (el b (lo+n'))/\le c (el b (lo+n')) (el b u):=λu h1 h2=>by
      by_cases hu:u<lo+n'
      ·exact⟨O.trans (he u (lo+n' - 1) h1 hu (by lia) (by lia)) gQ,O.trans kc (he (lo+n' - 1) u (by lia) (by lia) h1 hu)⟩
      ·obtain rfl:u=lo+n':=by lia
       exact⟨O.refl _,O.refl _⟩
     intro u v h1 h2 h3 h4;exact O.trans (hl u (by lia) h2).1 (hl v (by lia) h4).2
  ·rintro r aB ⟨b,n',iD,rfl,rfl,hx,R,N,hq,he⟩;exact⟨b,n',iD,rfl,rfl,by lia,by lia,R,N,hq,he⟩
  ·refine⟨_,n+1,0,rfl,rfl,rfl,R0,N0,by lia,?_⟩
   intro u v h1 h2 h3 h4;obtain rfl:u=v:=by lia
   exact O.refl _
  rintro r aB ⟨b,n',iD,rfl,rfl,Oa,N_,RB,NB,hq,he⟩;dsimp only
  by_cases wL:iD>0
  ·rw[if_pos wL];refine Qh (f9 ?_);have hz:lo+n'<=b.size:=by have:=RB.size;have:=h0.size;lia
   have NB:=g_ (c:=c) (i:=lo+n' - (iD+1)) (by lia) hz NB λu v h1 h2 h3 h4=>he u v (by lia) h2 (by lia) h4
   have RB:=RB.trans ((d9 (i:=lo+n' - (iD+1)) hz).mono (by lia) (by lia:lo+n'<=lo+d6))
   show wpS _ _ _ _ _ Q (Rl st (mirror b (lo+n' - (iD+1)) (lo+n') ((lo+n' - (lo+n' - (iD+1))) / 2)));generalize mirror b (lo+n' - (iD+1)) (lo+n') ((lo+n' - (lo+n' - (iD+1))) / 2)=b1 at NB RB;refine Qh (f9 ?_);have R2:Rg (QL st) (mirror b1 lo (lo+n') ((lo+n' - lo) / 2)) lo (lo+d6):=RB.trans ((d9 (by have:=RB.size;have:=h0.size;lia)).mono (Qf _) (by lia))
   have S2:SR c (mirror b1 lo (lo+n') ((lo+n' - lo) / 2)) lo (lo+n'):=lr (by have:=RB.size;have:=h0.size;lia) NB
   show wpS _ _ _ _ _ Q (Rl st (mirror b1 lo (lo+n') ((lo+n' - lo) / 2)));generalize mirror b1 lo (lo+n') ((lo+n' - lo) / 2)=b2 at R2 S2;refine Qh (RD (Rf (I:=λx r aB=>aB=Rl st b2/\∃m,r=(none,m)/\m=x/\SR c b2 lo (lo+m))
    (Q:=λr aB=>aB=Rl st b2/\∃m,r=(none,m)/\1<=m/\m<=d6/\SR c b2 lo (lo+m)) ?_ ?_ ?_) ?_)
   ·rintro x r aB F0 hx ⟨rfl,m,rfl,rfl,hs⟩;dsimp only;refine Qh (f_ L h0 R2 (by lia) (by lia) ?_)
    dsimp only;cases hc:c (el b2 (lo+m)) (el b2 (lo+m-1))with
    |true =>
     rw[if_pos rfl];exact Qo ⟨rfl,m,rfl,by lia,by lia,hs⟩
    |false =>
     rw[if_neg (by simp)]
     exact Qo ⟨rfl,m+1,rfl,rfl,hs.snoc O (by lia) hc⟩
   ·rintro r aB ⟨rfl,m,rfl,hx,hs⟩;exact⟨rfl,m,rfl,by lia,by lia,hs⟩
   ·exact⟨rfl,n',rfl,rfl,S2⟩
   rintro r aB ⟨rfl,m,rfl,Ii,Di,hs⟩;exact Qo (h m b2 Ii Di R2 hs)
  ·rw[if_neg wL];refine Qh (f9 ?_);have R2:Rg (QL st) (mirror b lo (lo+n') ((lo+n' - lo) / 2)) lo (lo+d6):=RB.trans ((d9 (by have:=RB.size;have:=h0.size;lia)).mono (Qf _) (by lia))
   have S2:SR c (mirror b lo (lo+n') ((lo+n' - lo) / 2)) lo (lo+n'):=lr (by have:=RB.size;have:=h0.size;lia) NB
   show wpS _ _ _ _ _ Q (Rl st (mirror b lo (lo+n') ((lo+n' - lo) / 2)));generalize mirror b lo (lo+n') ((lo+n' - lo) / 2)=b2 at R2 S2;refine Qh (RD (Rf (I:=λx r aB=>aB=Rl st b2/\∃m,r=(none,m)/\m=x/\SR c b2 lo (lo+m))
    (Q:=λr aB=>aB=Rl st b2/\∃m,r=(none,m)/\1<=m/\m<=d6/\SR c b2 lo (lo+m)) ?_ ?_ ?_) ?_)
   ·rintro x r aB F0 hx ⟨rfl,m,rfl,rfl,hs⟩;dsimp only;refine Qh (f_ L h0 R2 (by lia) (by lia) ?_)
    dsimp only;cases hc:c (el b2 (lo+m)) (el b2 (lo+m-1))with
    |true =>
     rw[if_pos rfl];exact Qo ⟨rfl,m,rfl,by lia,by lia,hs⟩
    |false =>
     rw[if_neg (by simp)]
     exact Qo ⟨rfl,m+1,rfl,rfl,hs.snoc O (by lia) hc⟩
   ·rintro r aB ⟨rfl,m,rfl,hx,hs⟩;exact⟨rfl,m,rfl,by lia,by lia,hs⟩
   ·exact⟨rfl,n',rfl,rfl,S2⟩
   rintro r aB ⟨rfl,m,rfl,Ii,Di,hs⟩;exact Qo (h m b2 Ii Di R2 hs)
end
section
variable {c:Qe->Qe->Bool}{a:Array Qe}
theorem ib {src d:Nat}(hs:src<a.size)(hd:d<=src)(k:Nat):el (bubble a src d) k=if k=src-d then el a src else if src-d<k/\k<=src then el a (k-1) else el a k:=by
 have e:=getElem?_bubble hs d hd k
 by_cases h1:k=src-d
 ·rw[if_pos h1]at e ⊢
  exact du e
 ·rw[if_neg h1]at e ⊢
  by_cases h2:src-d<k/\k<=src
  ·rw[if_pos h2]at e ⊢
   exact du e
  ·rw[if_neg h2]at e ⊢
   exact du e
theorem uv {lo k l:Nat}(O:cm c)(hk:lo+k<a.size)(hl:l<=k)(h:SR c a lo (lo+k))(h1:∀i,i<l->le c (el a (lo+i)) (el a (lo+k)))(h2:∀i,l<=i->i<k->le c (el a (lo+k)) (el a (lo+i))):
  SR c (bubble a (lo+k) (lo+k-(lo+l))) lo (lo+(k+1)):=λi j g1 g2 g3=>by
 rw[ib hk (by lia),ib hk (by lia),show lo+k-(lo+k-(lo+l))=lo+l by lia]
 have q1:∀i,lo<=i->i<lo+l->le c (el a i) (el a (lo+k)):=λi x y=>by
  have:=h1 (i-lo) (by lia)
  rwa [show lo+(i-lo)=i by lia]at this
 have q2:∀i,lo+l<=i->i<lo+k->le c (el a (lo+k)) (el a i):=λi x y=>by
  have:=h2 (i-lo) (by lia) (by lia)
  rwa [show lo+(i-lo)=i by lia]at this
 by_cases ei:i=lo+l
 ·rw[if_pos ei]
  by_cases ej:j=lo+l
  ·rw[if_pos ej];exact O.refl _
  ·rw[if_neg ej,if_pos (by lia)]
   exact q2 _ (by lia) (by lia)
 ·rw[if_neg ei]
  by_cases ej:j=lo+l
  ·rw[if_pos ej,if_neg (by lia)]
   exact q1 _ (by lia) (by lia)
  ·rw[if_neg ej]
   by_cases fi:lo+l<i/\i<=lo+k
   ·rw[if_pos fi,if_pos (by lia)]
    exact h _ _ (by lia) (by lia) (by lia)
   ·rw[if_neg fi]
    by_cases fj:lo+l<j/\j<=lo+k
    ·rw[if_pos fj];exact h _ _ (by lia) (by lia) (by lia)
    ·rw[if_neg fj];exact h _ _ (by lia) (by lia) (by lia)
theorem uw {src d:Nat}(hs:src<a.size)(hd:d<=src):Rg a (bubble a src d) (src-d) (src+1):=⟨bubble_perm _ _ _,λk h=>by
 rw[ib hs hd,if_neg (by lia),if_neg (by lia)]⟩
end
section
variable {prog:Qd}{w:Qq}{A:Rj}{E:P_->Qb->Prop}{s:Qb}{κ:S3}{c:Qe->Qe->Bool}{a₀:Array Qe}
theorem Bd (O:cm c)(L:eO prog w A E s κ c (·∈a₀.toList)){st:QF}{lo n ok:Nat}{Q:Bool->QF->Prop}(h0:il κ a₀ st)(bz:ok<=n)(h1:1<=n)(hn:lo+n<=a₀.size)(hs:SR c (QL st) lo (lo+ok))
  (h:∀b,Rg (QL st) b lo (lo+n)->SR c b lo (lo+n)->Q true (Rl st b)):wpS (model prog w) A E s (binarySort' lo n ok) Q st:=by
 rw[binarySort'_eq];refine Qh (RD (Rf (I:=λk r aB=>r=(none,())/\k<=n/\∃b,aB=Rl st b/\Rg (QL st) b lo (lo+n)/\SR c b lo (lo+k))
  (Q:=λr aB=>r=(none,())/\∃b,aB=Rl st b/\Rg (QL st) b lo (lo+n)/\SR c b lo (lo+n)) ?_ ?_ ?_) ?_)
 ·rintro k r aB Em hk ⟨rfl,_,b,rfl,R,qo⟩;dsimp only;have hz:b.size=a₀.size:=R.size.trans h0.size;refine Qh (RD (Rf (I:=λx r aB=>aB=Rl st b/\∃l u,r=(none,l,u)/\l<=u/\u<=k/\u-l<=k-x/\(∀i,i<l->le c (el b (lo+i)) (el b (lo+k)))/\(∀i,u<=i->i<k->le c (el b (lo+k)) (el b (lo+i))))
   (Q:=λr aB=>aB=Rl st b/\∃l,r=(none,l,l)/\l<=k/\(∀i,i<l->le c (el b (lo+i)) (el b (lo+k)))/\(∀i,l<=i->i<k->le c (el b (lo+k)) (el b (lo+i)))) ?_ ?_ ?_) ?_)
  ·rintro x r aB _ hx ⟨rfl,l,u,rfl,g1,g2,g3,g4,g5⟩;dsimp only
   by_cases Mk:l >= u
   ·rw[if_pos Mk];obtain rfl:l=u:=by lia
    exact Qo ⟨rfl,l,rfl,g2,g4,g5⟩
   ·rw[if_neg Mk];refine Qh (f_ L h0 R (by lia) (by lia) ?_)
    dsimp only;cases hc:c (el b (lo+k)) (el b (lo+(l+u) / 2))with
    |true =>
     rw[if_pos rfl];exact Qo ⟨rfl,l,_,rfl,by lia,by lia,by lia,g4,λi h1 h2=>O.trans (O.of_lt hc) (qo _ _ (by lia) (by lia) (by lia))⟩
    |false =>
     rw[if_neg (by simp)]
     exact Qo ⟨rfl,_,u,rfl,by lia,by lia,by lia,λi h1=>O.trans (qo _ _ (by lia) (by lia) (by lia)) (show le c (el b (lo+(l+u) / 2)) (el b (lo+k)) from hc),g5⟩
  ·rintro r aB ⟨rfl,l,u,rfl,g1,g2,g3,g4,g5⟩;obtain rfl:l=u:=by lia
   exact⟨rfl,l,rfl,g2,g4,g5⟩
  ·exact⟨rfl,0,k,rfl,Qv _,Qf _,by lia,λi hi=>by lia,λi h1 h2=>by lia⟩
  rintro r aB ⟨rfl,l,rfl,g2,g4,g5⟩;dsimp only;rw[moveDown'_eq];refine Qh (SK (Qo ⟨rfl,by lia,_,rfl,R.trans ((uw (a:=b) (by lia) (by lia)).mono (by lia) (by lia)),uv (a:=b) O (by lia) g2 qo g4 g5⟩))
 ·rintro r aB ⟨rfl,hx,b,rfl,R,qo⟩;rw[show max (max ok 1) n=n by lia]at qo
  exact⟨rfl,b,rfl,R,qo⟩
 ·refine⟨rfl,by lia,QL st,rfl,Rg.refl,?_⟩
  by_cases h2:ok=0
  ·subst h2;exact SR.one O
  ·rw[show max ok 1=ok by lia]
   exact hs
 ·rintro r aB ⟨rfl,b,rfl,R,qo⟩;exact Qo (h b R qo)
theorem oI (base:Nat):∀(l:List Qe) (off:Nat) (a:Array Qe),base+off+l.length<=a.size->∀k:Nat,
  ((l.zipIdx off).foldl (λx (z:Qe×Nat)=>x.setIfInBounds (base+z.2) z.1) a)[k]?=if base+off<=k/\k<base+off+l.length then l[k-(base+off)]? else a[k]?
 |[],off,a,_,k=>by
  rw[if_neg (by rw[List.length_nil];lia)]
  rfl
 |x::l,off,a,h,k=>by
  rw[Qx]at h;rw[UR,Sz,oI base l (off+1) _ (by rw[Array.size_setIfInBounds];lia)]
  by_cases h1:base+(off+1)<=k/\k<base+(off+1)+l.length
  ·rw[if_pos h1,if_pos (by rw[Qx];lia),show k-(base+off)=k-(base+(off+1))+1 by lia,List.getElem?_cons_succ]
  ·rw[if_neg h1,Array.getElem?_setIfInBounds]
   by_cases h2:base+off=k
   ·subst h2;rw[if_pos rfl,if_pos (by lia),if_pos (by rw[Qx];lia),Tw]
    rfl
   ·rw[if_neg h2,if_neg (by rw[Qx];lia)]
def xV (a:Array Qe)(base:Nat)(l:List Qe):Array Qe:=l.zipIdx.foldl (λx (z:Qe×Nat)=>x.setIfInBounds (base+z.2) z.1) a
theorem lV {a:Array Qe}{base:Nat}{l:List Qe}(h:base+l.length<=a.size)(k:Nat):(xV a base l)[k]?=if base<=k/\k<base+l.length then l[k-base]? else a[k]?:=oI base l 0 a h k
theorem uV {a:Array Qe}{base:Nat}{l:List Qe}(h:base+l.length<=a.size):(xV a base l).toList=a.toList.take base++(l++a.toList.drop (base+l.length)):=by
 apply Ry;intro k;rw[QI,lV h];have hz:a.toList.length=a.size:=QH
 by_cases h1:base<=k/\k<base+l.length
 ·rw[if_pos h1,Rn (by rw[QJ];lia),QJ,R1 (by lia)]
  congr 1
  lia
 ·rw[if_neg h1]
  by_cases h2:k<base
  ·rw[R1 (by rw[QJ];lia),List.getElem?_take_of_lt h2,QI]
  ·rw[Rn (by rw[QJ];lia),QJ,Rn (by lia),List.getElem?_drop,QI]
   congr 1
   lia
theorem Bz (a:Array Qe)(base m:Nat):a.toList=a.toList.take base++((a.toList.drop base).take m++a.toList.drop (base+m)):=by
 have h1:=(Ti base a.toList).symm;have h2:=(Ti m (a.toList.drop base)).symm;rw[List.drop_drop]at h2;rw[<- h2];exact h1
theorem A8 {a:Array Qe}{base:Nat}{l:List Qe}(h:base+l.length<=a.size)(hp:l.Perm ((a.toList.drop base).take l.length)):Rg a (xV a base l) base (base+l.length) where
 perm:=by
  rw[SS,uV h];refine List.Perm.trans ?_ (U4 (Bz a base l.length).symm);exact List.Perm.append_left _ (hp.append_right _)
 out:=λk hk=>du (by rw[lV h,if_neg (by lia)])
end
section
variable {prog:Qd}{w:Qq}{A:Rj}{E:P_->Qb->Prop}{s:Qb}{κ:S3}{c:Qe->Qe->Bool}{a₀:Array Qe}
theorem xW {σ:Type}{M:Model}{Q:PUnit->σ->Prop}{st aB:σ}(h:Q ⟨⟩ aB):wpS M A E s (set aB:StateT σ Sem PUnit) Q st:=by
 unfold wpS;rw[StateT.run_set];exact Qn ⟨rfl,h⟩
theorem qz {a:Array Qe}{lo hi i:Nat}(h:i<hi-lo)(hh:hi<=a.size):el (a.extract lo hi) i=el a (lo+i) :=
 du (by rw[Array.getElem?_extract,if_pos (by lia)])
theorem jZ {a:Array Qe}{lo hi:Nat}(hh:hi<=a.size):(a.extract lo hi).size=hi-lo:=by
 rw[Array.size_extract];lia
theorem rC {a:Array Qe}{lo hi:Nat}(hh:hi<=a.size){z:Qe}(h:z∈(a.extract lo hi).toList):∃u,lo<=u/\u<hi/\z=el a u:=by
 obtain⟨i,fF⟩:=R6 h;rw[QI]at fF;have eX:i<(a.extract lo hi).size:=by
  rcases Nat.lt_or_ge i (a.extract lo hi).size with q|q
  ·exact q
  ·rw[Th q]at fF;cases fF
 rw[jZ hh]at eX;exact⟨lo+i,by lia,by lia,by rw[<- qz eX hh,rT fF]⟩
theorem pO (O:cm c)(L:eO prog w A E s κ c (·∈a₀.toList)){st:QF}{i sa na pw sb nb Jo:Nat}{Q:Bool->QF->Prop}(h0:il κ a₀ st)(p1:(Qz st)[i]?=some (sa,na,pw))(p2:(Qz st)[i+1]?=some (sb,nb,Jo))
  (qo:sb=sa+na) (PF:1<=na) (PD:1<=nb) (hz:sb+nb<=a₀.size) (s1:SR c (QL st) sa sb) (s2:SR c (QL st) sb (sb+nb))
  (h:∀aB,kindOf aB=κ->Td aB=none->Qz aB=((Qz st).setIfInBounds i (sa,na+nb,pw)).eraseIdxIfInBounds (i+1)->Rg (QL st) (QL aB) sa (sb+nb)->SR c (QL aB) sa (sb+nb)->Q true aB) :
  wpS (model prog w) A E s (mergeAt' i) Q st:=by
 rw[oq];refine Qh (TC ?_);rw[p1,p2];dsimp only;refine Qh (xW ?_);have hsz:=h0.size;have hm:∀{j},j<a₀.size->el (QL st) j∈a₀.toList:=λhj=>h0.mem hj;generalize ha:QL st=a at *
 have sL:kindOf (Tj st (((Qz st).setIfInBounds i (sa,na+nb,pw)).eraseIdxIfInBounds (i+1)))=κ:=h0.kind;have Bw:Td (Tj st (((Qz st).setIfInBounds i (sa,na+nb,pw)).eraseIdxIfInBounds (i+1)))=none:=h0.fail;have Bx:QL (Tj st (((Qz st).setIfInBounds i (sa,na+nb,pw)).eraseIdxIfInBounds (i+1)))=a:=ha;have EW:Qz (Tj st (((Qz st).setIfInBounds i (sa,na+nb,pw)).eraseIdxIfInBounds (i+1)))=((Qz st).setIfInBounds i (sa,na+nb,pw)).eraseIdxIfInBounds (i+1):=rfl;generalize hP:((Qz st).setIfInBounds i (sa,na+nb,pw)).eraseIdxIfInBounds (i+1)=P at *
 generalize Tj st P=IU at *
 refine Qh (aM (by lia) ?_)
 refine Qh (df O L sL (hm (by lia)) (λx hx=>hm (by lia)) (by lia) (λx y h1 h2 h3=>s1 x y h1 h2 (by lia)) (by lia) λk k1 k2 k3=>?_)
 dsimp only;have g0:∀x,sa<=x->x<sa+k->le c (el a x) (el a sb):=λx h1 h2=>by
  have:=k2 (x-sa) (by lia)
  unfold dy at this;rw[if_neg (by simp),TJ,show sa+(x-sa)=x by lia]at this
  exact this
 by_cases e1:(na-k==0)=true
 ·rw[if_pos e1];have e1:na-k=0:=by simpa using e1
  refine Qo (h IU sL Bw EW (by rw[Bx];exact Rg.refl) ?_)
  rw[Bx];intro x y h1 h2 h3
  by_cases hx:x<sb
  ·by_cases hy:y<sb
   ·exact s1 x y h1 h2 hy
   ·exact O.trans (g0 x h1 (by lia)) (s2 sb y (Qf _) (by lia) h3)
  ·exact s2 x y (by lia) h2 h3
 rw[if_neg e1];have e1:na-k≠0:=by simpa using e1
 have g1:c (el a sb) (el a (sa+k))=true:=by
  have:=k3 k (Qf _) (by lia)
  unfold dy at this;rw[if_neg (by simp),UD]at this
  exact this
 refine Qh (aM (by lia) ?_)
 refine Qh (df O L sL (hm (by lia)) (λx hx=>hm (by lia)) (by lia) (λx y h1 h2 h3=>s2 x y h1 h2 (by lia)) (by lia) λm m1 m2 m3=>?_)
 dsimp only;rw[show sa+k+(na-k)-1=sb-1 by lia]at m2 m3
 have g2:∀x,sb<=x->x<sb+m->c (el a x) (el a (sb-1))=true:=λx h1 h2=>by
  have:=m2 (x-sb) (by lia)
  unfold dy at this;rw[if_pos rfl,show sb+(x-sb)=x by lia]at this
  exact this
 have g3:∀x,sb+m<=x->x<sb+nb->le c (el a (sb-1)) (el a x):=λx h1 h2=>by
  have:=m3 (x-sb) (by lia) (by lia)
  unfold dy at this;rw[if_pos rfl,show sb+(x-sb)=x by lia]at this
  exact this
 by_cases e2:(m==0)=true
 ·exfalso
  have e2:m=0:=by simpa using e2
  have:=O.trans (s1 (sa+k) (sb-1) (by lia) (by lia) (by lia)) (g3 sb (by lia) (by lia))
  exact absurd (g1.symm.trans this) (by simp)
 rw[if_neg e2];have e2:m≠0:=by simpa using e2
 have zx:(a.extract (sa+k) sb).size=sb-(sa+k):=jZ (by lia)
 have zy:(a.extract sb (sb+m)).size=m:=by rw[jZ (by lia)];lia
 have ex:∀{t},t<sb-(sa+k)->el (a.extract (sa+k) sb) t=el a (sa+k+t):=λht=>qz ht (by lia)
 have ey:∀{t},t<m->el (a.extract sb (sb+m)) t=el a (sb+t):=λht=>qz (by lia) (by lia)
 have fin:∀(out:Array Qe) (dW:QF),ip IU dW->Gd c (a.extract (sa+k) sb) (a.extract sb (sb+m)) out.toList ->
   wpS (model prog w) A E s (do
    modify λs2=>Rl s2 (out.toList.zipIdx.foldl (λx z=>match z with|(p,j)=>x.setIfInBounds (sa+k+j) p) (QL s2))
    let y <- get
    pure (Td y).isNone:StateT QF Sem Bool) Q dW:=by
  rintro out dW e ⟨gp,gs⟩;refine Qh (SK (Qh (TC (Qo ?_))));show Q (Td dW).isNone (Rl dW (xV (QL dW) (sa+k) out.toList));rw[e.fail,Bw,e.arr,Bx];have zo:out.toList.length=sb-(sa+k)+m:=by
   rw[gp.length_eq,Qu,QH,QH,zx,zy]
  have hb:sa+k+out.toList.length<=a.size:=by lia
  have xy:(a.toList.drop (sa+k)).take out.toList.length=(a.extract (sa+k) sb).toList++(a.extract sb (sb+m)).toList:=by
   rw[ck,ck,zo,show sb+m-sb=m by lia,List.take_add,List.drop_drop,show sa+k+(sb-(sa+k))=sb by lia]
  have R:Rg a (xV a (sa+k) out.toList) (sa+k) (sa+k+out.toList.length):=A8 hb (by rw[xy];exact gp)
  refine h _ (e.kind.trans sL) (e.fail.trans Bw) (e.pend.trans EW) (R.mono (by lia) (by lia)) ?_
  show SR c (xV a (sa+k) out.toList) sa (sb+nb);have Dh:∀t,sa+k<=t->t<sb+m->∃z,out.toList[t-(sa+k)]?=some z/\el (xV a (sa+k) out.toList) t=z/\((∃u,sa+k<=u/\u<sb/\z=el a u)\/∃u,sb<=u/\u<sb+m/\z=el a u):=by
   intro t h1 h2;have hl:t-(sa+k)<out.toList.length:=by lia
   refine⟨out.toList[t-(sa+k)],Qm hl,rT (by rw[lV hb,if_pos (by lia)];exact Qm hl),?_⟩
   have qp:=gp.mem_iff.mp (Tn hl);rcases Qr.mp qp with q|q
   ·exact .inl (rC (by lia) q)
   ·exact .inr (rC (by lia) q)
  have MD:∀t,t<sa+k->el (xV a (sa+k) out.toList) t=el a t:=λt ht=>R.out t (.inl ht);have Iq:∀t,sb+m<=t->el (xV a (sa+k) out.toList) t=el a t:=λt ht=>R.out t (.inr (by lia))
  intro x y h1 h2 h3
  by_cases hx:x<sa+k
  ·rw[MD x hx]
   by_cases hy:y<sa+k
   ·rw[MD y hy];exact s1 x y h1 h2 (by lia)
   ·by_cases JR:y<sb+m
    ·obtain⟨z,_,ez,JQ⟩:=Dh y (by lia) JR
     rw[ez];rcases JQ with⟨u,u1,u2,rfl⟩|⟨u,u1,u2,rfl⟩
     ·exact s1 x u h1 (by lia) u2
     ·exact O.trans (g0 x h1 hx) (s2 sb u (Qf _) u1 (by lia))
    ·rw[Iq y (by lia)]
     exact O.trans (g0 x h1 hx) (s2 sb y (Qf _) (by lia) h3)
  ·by_cases NY:x<sb+m
   ·obtain⟨z,iz,ez,JQ⟩:=Dh x (by lia) NY
    rw[ez]
    by_cases JR:y<sb+m
    ·obtain⟨z',NQ,K6,_⟩:=Dh y (by lia) JR
     rw[K6]
     by_cases JS:x=y
     ·subst JS;rw[ez]at K6;rw[K6];exact O.refl _
     ·obtain⟨q1,q2⟩:=Qg.mp iz;obtain⟨q3,q4⟩:=Qg.mp NQ;have:=Vh.mp gs _ _ q1 q3 (by lia)
      rw[q2,q4]at this;exact this
    ·rw[Iq y (by lia)]
     rcases JQ with⟨u,u1,u2,rfl⟩|⟨u,u1,u2,rfl⟩
     ·exact O.trans (s1 u (sb-1) (by lia) (by lia) (by lia)) (g3 y (by lia) h3)
     ·exact s2 u y (by lia) (by lia) h3
   ·rw[Iq x (by lia),Iq y (by lia)]
    exact s2 x y (by lia) h2 h3
 have go:∀(out:Array Qe) (dW:QF),ip IU dW->Gd c (a.extract (sa+k) sb) (a.extract sb (sb+m)) out.toList->wpS (model prog w) A E s (do
    modify λs2=>Rl s2 (out.toList.zipIdx.foldl (λx z=>match z with|(p,j)=>x.setIfInBounds (sa+k+j) p) (QL s2))
    let y <- get
    pure (Td y).isNone:StateT QF Sem Bool) Q dW:=fin
 have JT:0<(a.extract (sa+k) sb).size:=by lia
 have L9:0<(a.extract sb (sb+m)).size:=by lia
 have Sx:∀t,t<(a.extract (sa+k) sb).size->el (a.extract (sa+k) sb) t∈a₀.toList:=λt ht=>by rw[ex (by lia)];exact hm (by lia)
 have Sy:∀t,t<(a.extract sb (sb+m)).size->el (a.extract sb (sb+m)) t∈a₀.toList:=λt ht=>by rw[ey (by lia)];exact hm (by lia)
 have LD:SR c (a.extract (sa+k) sb) 0 (a.extract (sa+k) sb).size:=λx y h1 h2 h3=>by
  rw[ex (by lia),ex (by lia)]
  exact s1 _ _ (by lia) (by lia) (by lia)
 have LC:SR c (a.extract sb (sb+m)) 0 (a.extract sb (sb+m)).size:=λx y h1 h2 h3=>by
  rw[ey (by lia),ey (by lia)]
  exact s2 _ _ (by lia) (by lia) (by lia)
 have hf:c (el (a.extract sb (sb+m)) 0) (el (a.extract (sa+k) sb) 0)=true:=by
  rw[ex (by lia),ey (by lia)]
  exact g1
 have hl:∀y,y<(a.extract sb (sb+m)).size->c (el (a.extract sb (sb+m)) y) (el (a.extract (sa+k) sb) ((a.extract (sa+k) sb).size-1))=true:=λy hy=>by
  rw[ey (by lia),ex (by lia),show sa+k+((a.extract (sa+k) sb).size-1)=sb-1 by lia]
  exact g2 _ (by lia) (by lia)
 by_cases e3:na-k<=m
 ·rw[if_pos e3];exact Qh (pM O L sL Sx Sy LD LC JT L9 hf hl go)
 ·rw[if_neg e3];exact Qh (pN O L sL Sx Sy LD LC JT L9 hf hl go)
end
section
variable {c:Qe->Qe->Bool}{a b:Array Qe}
def Runs (c:Qe->Qe->Bool)(a:Array Qe):List (Nat×Nat×Nat)->Nat->Nat->Prop
 |[],lo,hi=>lo=hi
 |z::r,lo,hi=>z.1=lo/\1<=z.2.1/\SR c a lo (lo+z.2.1)/\Runs c a r (lo+z.2.1) hi
theorem Runs.app:∀{l r:List (Nat×Nat×Nat)} {lo hi:Nat},Runs c a (l++r) lo hi->∃m,Runs c a l lo m/\Runs c a r m hi
 |[],r,lo,hi,h=>⟨lo,rfl,h⟩
 |z::l,r,lo,hi,⟨h1,h2,h3,h4⟩=>by
  obtain⟨m,g1,g2⟩:=Runs.app h4;exact⟨m,⟨h1,h2,h3,g1⟩,g2⟩
theorem Runs.join:∀{l r:List (Nat×Nat×Nat)} {lo m hi:Nat},Runs c a l lo m->Runs c a r m hi->Runs c a (l++r) lo hi
 |[],r,lo,m,hi,h,g=>by
  obtain rfl:lo=m:=h;exact g
 |z::l,r,lo,m,hi,⟨h1,h2,h3,h4⟩,g=>⟨h1,h2,h3,Runs.join h4 g⟩
theorem Runs.len:∀{l:List (Nat×Nat×Nat)} {lo hi:Nat},Runs c a l lo hi->lo+l.length<=hi
 |[],lo,hi,h=>Nat.le_of_eq h
 |z::l,lo,hi,⟨h1,h2,h3,h4⟩=>by
  have:=Runs.len h4;rw[Qx];lia
theorem Runs.congr:∀{l:List (Nat×Nat×Nat)} {lo hi:Nat},Runs c a l lo hi->(∀k,lo<=k->k<hi->el b k=el a k)->Runs c b l lo hi
 |[],lo,hi,h,_=>h
 |z::l,lo,hi,⟨h1,h2,h3,h4⟩,e=>by
  have hl:=Runs.len h4;exact⟨h1,h2,h3.congr λk g1 g2=>e k g1 (by lia),Runs.congr h4 λk g1 g2=>e k (by lia) g2⟩
theorem Runs.pow:∀{l l':List (Nat×Nat×Nat)} {lo hi:Nat},Runs c a l lo hi->l'.map (λz=>(z.1,z.2.1))=l.map (λz=>(z.1,z.2.1))->Runs c a l' lo hi
 |[],[],_,_,h,_=>h
 |[],z::l',_,_,_,e=>by cases e
 |z::l,[],_,_,_,e=>by cases e
 |z::l,z'::l',lo,hi,⟨h1,h2,h3,h4⟩,e=>by
  rw[QS,QS]at e;injection e with e1 e2
  injection e1 with e3 e4
  exact⟨e3.trans h1,by rw[e4];exact h2,by rw[e4];exact h3,by rw[e4];exact Runs.pow h4 e2⟩
end
section
variable {prog:Qd}{w:Qq}{A:Rj}{E:P_->Qb->Prop}{s:Qb}{κ:S3}{c:Qe->Qe->Bool}{a₀:Array Qe}
theorem BA {α:Type}{l:List α}{i:Nat}(h:i+1<l.length):∃l1 x y l2,l=l1++x::y::l2/\l1.length=i:=by
 refine⟨l.take i,l[i],l[i+1],l.drop (i+2),?_,by rw[QJ];lia⟩
 rw[<- SY h,<- SY (by lia),Ti]
theorem kX (O:cm c)(L:eO prog w A E s κ c (·∈a₀.toList)){st:QF}{i hi:Nat}{Q:Bool->QF->Prop}(h0:il κ a₀ st)(hr:Runs c (QL st) (Qz st).toList 0 hi)(hh:hi<=a₀.size)(KI:i+1<(Qz st).size)
  (h:∀aB,il κ a₀ aB->Rg (QL st) (QL aB) 0 hi->Runs c (QL aB) (Qz aB).toList 0 hi->(Qz aB).size+1=(Qz st).size->Q true aB) :
  wpS (model prog w) A E s (mergeAt' i) Q st:=by
 obtain⟨l1,⟨sa,na,pw⟩,⟨sb,nb,Jo⟩,l2,el,hl⟩:=BA (l:=(Qz st).toList) (i:=i) (by rw[QH];exact KI)
 rw[el]at hr;obtain⟨m,r1,r2⟩:=hr.app;obtain⟨x1,x2,x3,y1,y2,y3,r3⟩:=r2;dsimp only at x1 x2 x3 y1 y2 y3 r3;have hlen:=r3.len;have Mm:=r1.len;have p1:(Qz st)[i]?=some (sa,na,pw):=by
  rw[<- QI,el,Rn (by lia),hl,Tw]
  rfl
 have p2:(Qz st)[i+1]?=some (sb,nb,Jo):=by
  rw[<- QI,el,Rn (by lia),hl,show i+1-i=1 by lia]
  rfl
 subst x1;refine pO O L h0 p1 p2 y1 x2 y2 (by lia) (by rw[y1];exact x3) (by rw[y1];exact y3) λaB k1 k2 k3 R S=>?_
 have ep:(Qz aB).toList=l1++(sa,na+nb,pw)::l2:=by
  rw[k3];have hz:i+1<((Qz st).setIfInBounds i (sa,na+nb,pw)).size:=by rw[Array.size_setIfInBounds];exact KI
  have e1:(((Qz st).setIfInBounds i (sa,na+nb,pw)).eraseIdxIfInBounds (i+1)).toList=((Qz st).toList.set i (sa,na+nb,pw)).eraseIdx (i+1):=by
   unfold Array.eraseIdxIfInBounds;rw[dif_pos hz,Array.toList_eraseIdx,Array.toList_setIfInBounds]
  rw[e1,el,<- hl,List.set_append_right _ _ (Qf _),Tw,List.set_cons_zero,List.eraseIdx_append_of_length_le (by lia),show l1.length+1-l1.length=1 by lia]
  rfl
 have out:∀k,(k<sa\/sb+nb<=k)->TS.el (QL aB) k=TS.el (QL st) k:=R.out;refine h aB ⟨k1,k2,R.perm.trans h0.perm⟩ (R.mono (Qv _) (by lia)) ?_ ?_
 ·rw[ep];refine Runs.join (r1.congr λk g1 g2=>out k (.inl (by lia))) ⟨rfl,by show 1<=na+nb;lia,?_,?_⟩
  ·show SR c (QL aB) sa (sa+(na+nb));rw[show sa+(na+nb)=sb+nb by lia]
   exact S
  ·show Runs c (QL aB) l2 (sa+(na+nb)) hi;rw[show sa+(na+nb)=sa+na+nb by lia]
   exact r3.congr λk g1 g2=>out k (.inr (by lia))
 ·have e2:(Qz aB).size=l1.length+(l2.length+1):=by rw[<- QH,ep,Qu,Qx]
  have e3:(Qz st).size=l1.length+(l2.length+1+1):=by rw[<- QH,el,Qu,Qx,Qx]
  lia
theorem jF:∀(f n r:Nat),1<=n->1<=minRun' f n r
 |0,n,r,h=>by show 1<=n+r;lia
 |f+1,n,r,h=>by
  rw[minRun'_succ]
  split
  ·lia
  ·exact jF f _ _ (by lia)
theorem yA (p:Array (Nat×Nat×Nat))(i w:Nat):(p.modify i λx=>(x.1,x.2.1,w)).toList.map (λz=>(z.1,z.2.1))=p.toList.map (λz=>(z.1,z.2.1)):=by
 apply Ry;intro k;rw[Ql,Ql,QI,QI,Array.getElem?_modify]
 split
 ·rw[Option.map_map];rfl
 ·rfl
theorem ni (O:cm c)(L:eO prog w A E s κ c (·∈a₀.toList)){st:QF}{Q:Unit->QF->Prop}(h0:il κ a₀ st)(hp:Qz st=#[])(h2:2<=a₀.size)
  (h:∀aB,il κ a₀ aB->SR c (QL aB) 0 a₀.size->Q () aB):wpS (model prog w) A E s sortRuns' Q st:=by
 rw[sortRuns'_eq];refine Qh (TC ?_);dsimp only;rw[h0.size];have Ob:=jF a₀.size a₀.size 0 (by lia)
 generalize minRun' a₀.size a₀.size 0=mr at Ob;refine Qh (RD (Rf (I:=λx r aB=>il κ a₀ aB/\∃lo,r=(none,lo)/\lo<=a₀.size/\(a₀.size<=lo\/x<=lo)/\Runs c (QL aB) (Qz aB).toList 0 lo)
  (Q:=λr aB=>il κ a₀ aB/\r=(none,a₀.size)/\Runs c (QL aB) (Qz aB).toList 0 a₀.size) ?_ ?_ ?_) ?_)
 ·rintro x r aB _ hx ⟨hS,lo,rfl,Kw,Oe,hr⟩;dsimp only
  by_cases hl:lo >= a₀.size
  ·rw[if_pos hl];obtain rfl:lo=a₀.size:=by lia
   exact Qo ⟨hS,rfl,hr⟩
  rw[if_neg hl];refine Qh (u3 O L hS (by lia) (by lia) λn b n1 n2 R Sb=>?_)
  dsimp only;have pJ:il κ a₀ (Rl aB b):=hS.set R;have oF:Runs c (QL (Rl aB b)) (Qz (Rl aB b)).toList 0 lo:=Runs.congr (b:=b) hr λk q1 q2=>R.out k (.inl q2);refine(λ(key:∀(N:Nat) (stx:QF),1<=N->lo+N<=a₀.size->Runs c (QL stx) (Qz stx).toList 0 lo->il κ a₀ stx->SR c (QL stx) lo (lo+N)->(?G:Nat->QF->Prop) N stx)=>?main) ?key
  case main =>
   by_cases Mj:n<mr
   ·rw[if_pos Mj];refine Qh (Uh (Sr ⟨rfl,?_⟩));refine Qh (Bd O L pJ (by lia) (by lia) (by lia) Sb λb' R' OT=>?_)
    rw[if_neg (by simp)]
    have Im:1<=min (a₀.size-lo) mr:=by lia
    have KY:lo+min (a₀.size-lo) mr<=a₀.size:=by lia
    have oF:Runs c (QL (Rl (Rl aB b) b')) (Qz (Rl (Rl aB b) b')).toList 0 lo:=Runs.congr (b:=b') oF λk q1 q2=>R'.out k (.inl q2);have pJ:il κ a₀ (Rl (Rl aB b) b'):=pJ.set R';have AW:SR c (QL (Rl (Rl aB b) b')) lo (lo+(min (a₀.size-lo) mr)):=OT;generalize Rl (Rl aB b) b'=stx at oF pJ AW ⊢
    generalize min (a₀.size-lo) mr=N at Im KY AW ⊢
    exact key N stx Im KY oF pJ AW
   ·rw[if_neg Mj];have AW:SR c (QL (Rl aB b)) lo (lo+n):=Sb;exact key n _ n1 (by lia) oF pJ AW
  case key =>
   intro N stx Im KY oF pJ AW;refine Qh (TC ?_);have HA:∀(jl:QF),il κ a₀ jl->SR c (QL jl) lo (lo+N)->Runs c (QL jl) (Qz jl).toList 0 lo->il κ a₀ (Tj jl ((Qz jl).push (lo,N,0)))/\∃Av,((none,lo+N):Option Unit×Nat)=(none,Av)/\Av<=a₀.size/\(a₀.size<=Av\/x+1<=Av)/\Runs c (QL jl) ((Qz jl).push (lo,N,0)).toList 0 Av:=λjl g1 g2 g3 =>
    ⟨⟨g1.kind,g1.fail,g1.perm⟩,_,rfl,by lia,by lia,by rw[SI];exact g3.join ⟨rfl,Im,g2,rfl⟩⟩
   cases hb:(Qz stx).back? with
   |none =>
    dsimp only;exact Qh (SK (Qo (HA stx pJ AW oF)))
   |some z =>
    obtain⟨s1,n1,p1⟩:=z;dsimp only;refine Qh (RD (Rf (I:=λx r aB=>r=(none,())/\il κ a₀ aB/\SR c (QL aB) lo (lo+N)/\Runs c (QL aB) (Qz aB).toList 0 lo)
     (Q:=λr aB=>r=(none,())/\il κ a₀ aB/\SR c (QL aB) lo (lo+N)/\Runs c (QL aB) (Qz aB).toList 0 lo) ?_ ?_ ?_) ?_)
    ·rintro y r jl _ _ ⟨rfl,g1,g2,g3⟩;refine Qh (TC ?_)
     by_cases Ek:(Qz jl).size>1
     ·rw[if_pos Ek];cases hq:(Qz jl)[(Qz jl).size-2]? with
      |none =>
       dsimp only;exact Qo ⟨rfl,g1,g2,g3⟩
      |some z =>
       obtain⟨u,v,LO⟩:=z;dsimp only
       split
       ·exact Qo ⟨rfl,g1,g2,g3⟩
       ·refine Qh (kX O L g1 g3 (by lia) (by lia) λBv f1 f2 f3 f4=>?_)
        exact Qo ⟨rfl,f1,g2.congr λk q1 q2=>f2.out k (.inr q1),f3⟩
     ·rw[if_neg Ek];dsimp only;exact Qo ⟨rfl,g1,g2,g3⟩
    ·rintro r jl ⟨rfl,g1,g2,g3⟩;exact⟨rfl,g1,g2,g3⟩
    ·exact⟨rfl,pJ,AW,oF⟩
    rintro r jl ⟨rfl,g1,g2,g3⟩;dsimp only;refine Qh (SK (Qh (SK (Qo ?_))));exact HA (Tj jl _) ⟨g1.kind,g1.fail,g1.perm⟩ g2 (g3.pow (yA _ _ _))
 ·rintro r aB ⟨hS,lo,rfl,Kw,Oe,hr⟩;obtain rfl:lo=a₀.size:=by lia
  exact⟨hS,rfl,hr⟩
 ·exact⟨h0,0,rfl,Qv _,.inr (Qf _),by rw[hp];rfl⟩
 rintro r aB ⟨hS,rfl,hr⟩;dsimp only;refine Qh (RD (Rf (I:=λx r aB=>r=(none,())/\il κ a₀ aB/\Runs c (QL aB) (Qz aB).toList 0 a₀.size/\((Qz aB).size<=1\/(Qz aB).size+x<=a₀.size))
  (Q:=λr aB=>r=(none,())/\il κ a₀ aB/\Runs c (QL aB) (Qz aB).toList 0 a₀.size/\(Qz aB).size<=1) ?_ ?_ ?_) ?_)
 ·rintro x r dW _ hx ⟨rfl,pJ,oF,hz⟩;refine Qh (TC ?_)
  by_cases h1:(Qz dW).size<=1
  ·rw[if_pos h1];exact Qo ⟨rfl,pJ,oF,h1⟩
  rw[if_neg h1];refine Qh (kX O L pJ oF (Qf _) ?_ λjl OC R3 N3 Px=>?_)
  ·split
   ·split <;> lia
   ·rw[if_neg (by simp)]
    lia
  ·exact Qo ⟨rfl,OC,N3,.inr (by lia)⟩
 ·rintro r dW ⟨rfl,pJ,oF,hz⟩;exact⟨rfl,pJ,oF,by lia⟩
 ·refine⟨rfl,hS,hr,.inr ?_⟩;have:=hr.len;rw[QH]at this;lia
 ·rintro r dW ⟨rfl,pJ,oF,hz⟩;refine Qo (h dW pJ ?_)
  match hq:(Qz dW).toList,oF with
  |[],e=>
   have:(0:Nat)=a₀.size:=e;lia
  |[z],e =>
   obtain⟨e1,e2,e3,e4⟩:=e;have e4:0+z.2.1=a₀.size:=e4;rw[e4]at e3;exact e3
  |z::y::l,e =>
   have:(Qz dW).toList.length<=1:=by rw[QH];exact hz
   rw[hq]at this;simp at this
end
theorem lex_nil {y:List Int}:HT.lexLt [] y=decide (0<y.length):=by cases y <;> rfl
theorem gC {a b:Int}{x y:List Int}:HT.lexLt (a::x) (b::y)=if a=b then HT.lexLt x y else decide (a<b):=rfl
theorem oA:∀{x y:List Int},HT.lexLt x y=true->HT.lexLt y x=false
 |[],[],_=>rfl
 |[],_::_,_=>rfl
 |_::_,[],h=>by cases h
 |a::x,b::y,h=>by
  rw[gC]at h ⊢
  by_cases e:a=b
  ·rw[if_pos e]at h;rw[if_pos e.symm];exact oA h
  ·rw[if_neg e]at h;rw[if_neg λz=>e z.symm];have:=of_decide_eq_true h;exact decide_eq_false (by lia)
theorem rD:∀{x z:List Int} (y:List Int),HT.lexLt x z=true->HT.lexLt x y=true\/HT.lexLt y z=true
 |[],[],_,h=>by cases h
 |[],_::_,[],h=>.inr rfl
 |[],_::_,_::_,h=>.inl rfl
 |_::_,[],_,h=>by cases h
 |a::x,b::z,[],h=>.inr rfl
 |a::x,b::z,d::y,h=>by
  rw[gC]at h ⊢
  rw[gC]
  by_cases e:a=b
  ·subst e;rw[if_pos rfl]at h
   by_cases e2:a=d
   ·subst e2;rw[if_pos rfl,if_pos rfl];exact rD y h
   ·rw[if_neg e2,if_neg λq=>e2 q.symm]
    by_cases e3:a<d
    ·exact .inl (decide_eq_true e3)
    ·exact .inr (decide_eq_true (by lia))
  ·rw[if_neg e]at h;have h:=of_decide_eq_true h
   by_cases e2:a=d
   ·subst e2;rw[if_neg e];exact .inr (decide_eq_true h)
   ·rw[if_neg e2]
    by_cases e3:a<d
    ·exact .inl (decide_eq_true e3)
    ·rw[if_neg (by lia)]
     exact .inr (decide_eq_true (by lia))
def byKey (kf:P_->List Int)(x y:Qe):Bool:=HT.lexLt (kf x.1) (kf y.1)
theorem yM (kf:P_->List Int):cm (byKey kf):=⟨λ_ _ h=>oA h,λ_ y _ h=>rD (kf y.1) h⟩
section
variable {prog:Qd}{w:Qq}{A:Rj}{E:P_->Qb->Prop}{s:Qb}
theorem oz {b:Bool}{Q:Bool->Qb->Prop}:∀{ns ms:List Int} {us vs:List P_} (i:Nat),T8 us ns->T8 vs ms->Q (HT.lexLt ns ms) s->PySem.W.KatLex prog w A b (decide (ns.length<ms.length)) Q (us.zip vs) i s
 |[],ms,us,vs,i,hu,hv,q=>by
  cases hu;rw[UM];rw[lex_nil]at q;exact PySem.W.kat_nil q
 |n::ns,[],us,vs,i,hu,hv,q=>by
  cases hv;rw[List.zip_nil_right];exact PySem.W.kat_nil q
 |n::ns,m::ms,us,vs,i,hu,hv,q=>by
  cases hu with
  |cons _ t hu =>
   cases hv with
   |cons _ t' hv =>
    rw[Ss];refine PySem.W.kat_cons (wpAny_eqBool_int ?_);rw[gC]at q
    by_cases e:n=m
    ·subst e;rw[if_pos rfl]at q;rw[beq_self_eq_true];have:=oz (b:=b) (Q:=Q) (i+1) hu hv q;rw[show decide ((n::ns).length<(n::ms).length)=decide (ns.length<ms.length) by rw[Qx,Qx];congr 1;simp]
     exact PySem.W.kat_yes this
    ·rw[if_neg e]at q;rw[show (n==m)=false from beq_eq_false_iff_ne.mpr e]
     refine PySem.W.kat_no ?_;cases b&&i==0 with
     |true=>exact oneLt_int q
     |false=>exact PySem.W.kat_one _ _ (lt_int q)
def pD (h:Heap)(kf:P_->List Int)(a:Addr)(vs:List P_):Prop :=
 ∀v∈vs,∃t o xs k,v=.ref t/\t≠a/\h.get? t=some o/\o.cls=.type "tuple" /\ o.data=.seq xs k/\T8 xs.toList (kf v)/\kf v≠[]
theorem tL {kf:P_->List Int}{a:Addr}{vs:List P_}{b:Bool}{a₀:Array Qe}(T:pD s.heap kf a vs)(hm:∀z∈a₀.toList,z.1∈vs):eO prog w A E s (tuples' b) (byKey kf) (·∈a₀.toList):=by
 intro x y st Q hx hy hk q;obtain⟨t,o,xs,n,e1,_,e2,_,e3,e4,_⟩:=T _ (hm _ hx);obtain⟨t',o',Eb,n',f1,_,f2,_,f3,f4,_⟩:=T _ (hm _ hy);rw[lt'_eq];refine Qh (TC ?_);rw[hk,e1,f1];have z1:xs.size=(kf x.1).length:=by rw[<- QH];exact e4.length
 have z2:Eb.size=(kf y.1).length:=by rw[<- QH];exact f4.length
 refine Qh (Uh (TM (PySem.W.kat_lt e2 e3 f2 f3 ?_)));rw[z1,z2];exact oz 0 e4 f4 ⟨rfl,Qo q⟩
theorem ji {kf:P_->List Int}{a:Addr}{h:Heap}:∀{vs:List P_},pD h kf a vs->∃fs:List P_,PySem.W.KatTups h vs fs/\fs.length=vs.length/\∀f∈fs,∃n t,f=Value.int n t
 |[],_=>⟨[],trivial,rfl,λf hf=>by cases hf⟩
 |v::vs,T=>by
  obtain⟨fs,h1,h2,h3⟩:=ji (vs:=vs) λu hu=>T u (QM _ hu);obtain⟨t,o,xs,k,rfl,_,e2,e3,e4,e5,e6⟩:=T v Ra;obtain⟨f,r,ef,n,tk,hn⟩:∃f r,xs.toList=f::r/\∃n tk,f=Value.int n tk:=by
   generalize kf (.ref t)=ks at e5 e6;generalize xs.toList=us at e5;cases e5 with
   |nil=>exact absurd rfl e6
   |cons n tk r=>exact⟨_,_,rfl,_,_,rfl⟩
  have e:xs[0]?=some f:=by rw[<- QI,ef];rfl
  exact⟨f::fs,PySem.W.KatTups.cons e2 e3 e4 e h1,by rw[Qx,Qx,h2],λg hg=>by
   rcases Qc.mp hg with rfl|hg
   ·exact⟨_,_,hn⟩
   ·exact h3 g hg⟩
theorem tR {kf:P_->List Int}{a:Addr}{vs:List P_}{Q:S3->Qb->Prop}(T:pD s.heap kf a vs)(h0:0<vs.length)(q:Q (tuples' true) s):QE (model prog w) A (keyKind' vs.toArray) Q E s:=by
 obtain⟨fs,h1,h2,h3⟩:=ji T;refine PySem.W.kat_kind (T:=.type "int") h1 (by lia) (λv hv=>?_) (by decide) q
 obtain⟨n,t,rfl⟩:=h3 v hv;exact .now
theorem vq {α:Type}{R:α->α->Prop}:∀{l:List α},l.length<2->l.Pairwise R
 |[],_=>.nil
 |[x],_=>List.pairwise_singleton _ _
 |_::_::_,h=>by
  rw[Qx,Qx]at h;lia
theorem qj {a:Addr} {vs:List P_} {n:Nat} {κ:S3} {c:P_->P_->Bool} {P:PySem.Fin->Qb->Prop} (ho:s.heap.get? a=some (S9 "list" vs.toArray n)) (hz:vs.length<=1000000) (O:cm λx y=>c x.1 y.1)
  (T:∀s':Qb,(∀t o,t≠a->s.heap.get? t=some o->s'.heap.get? t=some o)->(2<=vs.length->∀(Q:S3->Qb->Prop),Q κ s'->QE (model prog w) A (keyKind' vs.toArray) Q E s')/\eO prog w A E s' κ (λx y=>c x.1 y.1) (·∈(vs.toArray.zip vs.toArray).toList))
  (h:∀out:List P_,out.Perm vs->out.Pairwise (λx y=>c y x=false)->P (.done (.ret .none)) {s with heap:=sortedHeap s.heap a vs out.toArray}) :
  QE (model prog w) A (UO.«list.sort» ⟨[.ref a],[]⟩) P E s:=by
 have la:a<s.heap.objs.size:=Qs ho;obtain⟨ep,hc⟩:∃ep,(s.heap.update a (SN λ_=>#[])).get? a=some (S9 "list" #[] ep):=⟨_,get?_update_seq ho (λ_=>#[])⟩;have old:∀t o,t≠a->s.heap.get? t=some o->(((s.heap.update a (SN λ_=>#[])).push (S9 "tuple" vs.toArray 0)).push (S9 "list" #[] 0)).get? t=some o:=λt o ht e =>
  Qi _ (Qi _ (by rw[Heap.get?_update_ne _ _ _ _ ht];exact e))
 have kg:(((s.heap.update a (SN λ_=>#[])).push (S9 "tuple" vs.toArray 0)).push (S9 "list" #[] 0)).get? a=some (S9 "list" #[] ep):=Qi _ (Qi _ hc);have big:∀m:Nat,m<=vs.length->m<=Qp:=λm hm=>by rw[RU];lia
 have zz:vs.toArray.size=vs.length:=by simp
 rw[list_sort_plain];refine P9 (listItems_at ho rfl ?_);refine P9 (listUpdate_at ho rfl ?_ (big _ (Nat.le_of_eq zz)) (Qv _));refine P9 (seqEpoch_at hc rfl ?_);refine P9 (wpAny_newTuple ?_ (big _ (Qf _)));refine P9 (wpAny_newList ?_ (Qv _));refine R8 ?_;show QE (model prog w) A _ P E {s with heap:=((s.heap.update a (SN λ_=>#[])).push (S9 "tuple" vs.toArray 0)).push (S9 "list" #[] 0)}
 dsimp only;have done:∀aB:QF,(QL aB).Perm (vs.toArray.zip vs.toArray)->(QL aB).toList.Pairwise (le λx y=>c x.1 y.1)->P (.done (.ret .none)) {s with heap:=sortedHeap s.heap a vs ((QL aB).map (·.2))}:=λaB hp hs=>by
  have h1:∀z∈(QL aB).toList,z.1=z.2:=λz hz=>by
   have:=(SS.mp hp).mem_iff.mp hz;rw[UT]at this;obtain⟨i,hi⟩:=R6 this;rw[SX]at hi;exact Q3 (hi.1.symm.trans hi.2)
  have e2:(QL aB).map (·.2)=((QL aB).toList.map (·.2)).toArray:=by
   apply Array.toList_inj.mp;rw[Array.toList_map]
  rw[e2];refine h _ ?_ ?_
  ·have:=(SS.mp hp).map (λz:Qe=>z.2);rw[UT]at this;refine this.trans (U4 ?_);exact List.map_snd_zip (by simp)
  ·rw[TF];refine hs.imp_of_mem λ{x y} hx hy hl=>?_;rw[<- h1 x hx,<- h1 y hy];exact hl
 by_cases h2:vs.toArray.size<2
 ·rw[if_pos h2,if_pos h2];refine P9 (Qn ?_);rw[StateT.run_pure];refine P9 (Qn ?_);dsimp only;refine P9 (seqEpoch_at kg rfl ?_);refine P9 (listUpdate_at kg rfl ?_ (Qv _) (by rw[Array.size_map,Vf];exact Q6 (big _ (by lia)) (Um _)))
  simp only[bne_self_eq_false,Sw,if_false];refine Qn (done (SortSt.mk' general' (vs.toArray.zip vs.toArray) #[] 7 none) (U8 _) ?_);refine vq ?_;show (vs.toArray.zip vs.toArray).toList.length<2;rw[QH,Vf];lia
 ·rw[if_neg h2,if_neg h2];obtain⟨hK,L⟩:=T {s with heap:=((s.heap.update a (SN λ_=>#[])).push (S9 "tuple" vs.toArray 0)).push (S9 "list" #[] 0)} old
  refine P9 (hK (by lia) _ ?_)
  have zp:(vs.toArray.zip vs.toArray).size=vs.length:=by rw[Vf];lia
  refine P9 (Tx (ni (Q:=λ_ aB=>(QL aB).Perm (vs.toArray.zip vs.toArray)/\Td aB=none/\SR (λx y=>c x.1 y.1) (QL aB) 0 vs.length) O L
   (st:=SortSt.mk' κ (vs.toArray.zip vs.toArray) #[] 7 none) ⟨rfl,rfl,U8 _⟩ rfl (by lia) λaB g1 g2=>⟨g1.perm,g1.fail,by rw[zp]at g2;exact g2⟩) ?_ λ_ _ e=>e)
  rintro⟨⟨⟩,aB⟩ s' ⟨rfl,hp,hf,hs⟩;dsimp only;have zs:(QL aB).size=vs.length:=hp.size_eq.trans zp;refine P9 (seqEpoch_at kg rfl ?_);refine P9 (listUpdate_at kg rfl ?_ (Qv _) (by rw[Array.size_map,zs];exact Q6 (big _ (Qf _)) (Um _)))
  rw[hf];simp only[bne_self_eq_false,Sw,if_false];refine Qn (done aB hp ?_);rw[Vh];intro i j hi hj aD;rw[QH]at hi hj;have:=hs i j (Qv _) (by lia) (by lia)
  have ei:el (QL aB) i=(QL aB).toList[i]:=rT (by rw[<- QI];exact Qm _)
  have ej:el (QL aB) j=(QL aB).toList[j]:=rT (by rw[<- QI];exact Qm _)
  rw[ei,ej]at this;exact this
theorem qi {a:Addr} {vs:List P_} {n:Nat} {kf:P_->List Int} {P:PySem.Fin->Qb->Prop} (ho:s.heap.get? a=some (S9 "list" vs.toArray n)) (hz:vs.length<=1000000) (T:pD s.heap kf a vs)
  (h:∀out:List P_,out.Perm vs->out.Pairwise (λx y=>HT.lexLt (kf y) (kf x)=false)->P (.done (.ret .none)) {s with heap:=sortedHeap s.heap a vs out.toArray}) :
  QE (model prog w) A (UO.«list.sort» ⟨[.ref a],[]⟩) P E s:=by
 refine qj (κ:=tuples' true) (c:=λx y=>HT.lexLt (kf x) (kf y)) ho hz (yM kf) (λs' kp=>?_) h;have T':pD s'.heap kf a vs:=λv hv=>by
  obtain⟨t,o,xs,k,e1,e2,e3,r⟩:=T v hv;exact⟨t,o,xs,k,e1,e2,kp t o e2 e3,r⟩
 exact⟨λh2 Q q=>tR T' (by lia) q,tL T' λz hz=>by
  rw[UT]at hz;exact(S6 hz).1⟩
end
end TS
namespace ST
open PySem PyProof.Rows
section
variable {prog:Qd}{w:Qq}
abbrev TK (prog:Qd)(w:Qq):=TV (intKind prog w)
abbrev kH (prog:Qd)(w:Qq)(k:List Int):Int:=(TK prog w).hash k
abbrev ent (prog:Qd)(w:Qq)(x:Addr×List Int):Int×P_:=(kH prog w x.2,.ref x.1)
structure Lk (prog:Qd)(w:Qq)(o:Obj)(ts:List (Addr×List Int))(es:Array (Int×P_))(ep:Nat)(t:SetTable):Prop where
 ex:o.ExactSet
 dat:o.data=.set es ep t
 P2:es.toList=ts.map (ent prog w)
 wf:WF t (ts.map λx=>kH prog w x.2)
 Pj:t.place.size*5<t.mask*3
 NG:t.mask<=8191
 led:t.led=!w.params.followText "set-order"
 Po:t.plain=true
 Pq:(ts.map (·.2)).Nodup
end
end ST
namespace L2
open PySem PySem.Spec PyProof.Rows
inductive D where
 |d7|bl (b:Bool)|int (i:Int)|str (x:Str)|obj (a:Addr)
 |tup (ds:List D)|lst (ds:List D)
 |dT (ks:List (List Key)) (ds:List D)|dK (ks:List Key) (ds:List D)
 |sT (ts:List (List Int))
 |ob (φ:Addr->HO)
def BF (P:Qd)(w:Qq)(a:Addr)(ts:List (Addr×List Int))(h:Heap):Prop:=∃o es ep t,h.get? a=some o/\ST.Lk P w o ts es ep t
abbrev Hw (P:Qd)(w:Qq)(a:Addr)(ts:List (Addr×List Int)):HO:=.ext (BF P w a ts)
def z_ (P:Qd)(w:Qq)(H:Hp)(a:Addr)(ts:List (List Int)):Prop :=
 ∃xH:List (Addr×List Int),H a=some (Hw P w a xH)/\(∀x∈xH,H x.1=some (.tup (x.2.map V.int)))/\(xH.map (·.2)).Perm ts
section
variable (P:Qd)(w:Qq)(W:Addr->Prop)(H:Hp)
mutual
def aA:D->V->Prop
 |.d7,v=>v=.d7
 |.bl b,v=>v=.bl b
 |.int i,v=>v=.int i
 |.str x,v=>v=.str x
 |.obj a,v=>v=.ref a
 |.tup ds,v=>∃a vs,v=.ref a/\H a=some (.tup vs)/\ah ds vs
 |.lst ds,v=>∃a vs,v=.ref a/\H a=some (.lst vs)/\¬ W a/\ah ds vs
 |.dT ks ds,v=>∃a vs,v=.ref a/\H a=some (.dT (ks.zip vs))/\ks.length=vs.length/\¬ W a/\ah ds vs
 |.dK ks ds,v=>∃a vs,v=.ref a/\H a=some (.dK (ks.zip vs))/\ks.length=vs.length/\¬ W a/\ah ds vs
 |.sT ts,v=>∃a,v=.ref a/\z_ P w H a ts/\¬ W a
 |.ob φ,v=>∃a,v=.ref a/\(H a=some (φ a)/\∀xs,φ a≠.tup xs)/\¬ W a
def ah:List D->List V->Prop
 |[],vs=>vs=[]
 |d::ds,vs=>∃v r,vs=v::r/\aA d v/\ah ds r
end
end
mutual
def D.flat:D->Bool
 |.tup ds=>D.cC ds
 |.lst _=>false
 |.dT _ _=>false
 |.dK _ _=>false
 |.sT _=>false
 |.ob _=>false
 |_=>true
def D.cC:List D->Bool
 |[]=>true
 |d::ds=>D.flat d&&D.cC ds
end
structure Kp (W:Addr->Prop)(H H':Hp):Prop where
 out:∀b o,H b=some o->¬ W b->H' b=some o
 tup:∀b xs,H b=some (.tup xs)->H' b=some (.tup xs)
theorem Kp.refl {W:Addr->Prop}{H:Hp}:Kp W H H:=⟨λ_ _ e _=>e,λ_ _ e=>e⟩
theorem Kp.trans {W:Addr->Prop}{H H1 H2:Hp}(a:Kp W H H1)(b:Kp W H1 H2):Kp W H H2:=⟨λc o e n=>b.out c o (a.out c o e n) n,λc xs e=>b.tup c xs (a.tup c xs e)⟩
theorem az.kp {W:Addr->Prop}{H H':Hp}(h:az H H'):Kp W H H':=⟨λb o e _=>h b o e,λb xs e=>h b _ e⟩
theorem Kp.mono {W W':Addr->Prop}{H H':Hp}(h:Kp W H H')(s:∀a,W a->W' a):Kp W' H H':=⟨λb o e n=>h.out b o e λz=>n (s b z),h.tup⟩
section
variable {P:Qd}{w:Qq}{W W':Addr->Prop}{H H':Hp}
mutual
theorem aA.keep (k:Kp W H H'):∀{d:D} {v:V},aA P w W H d v->aA P w W H' d v
 |.d7,_,h=>h
 |.bl _,_,h=>h
 |.int _,_,h=>h
 |.str _,_,h=>h
 |.obj _,_,h=>h
 |.tup ds,_,⟨a,vs,e,t,r⟩=>⟨a,vs,e,k.tup a vs t,ah.keep k r⟩
 |.lst ds,_,⟨a,vs,e,t,n,r⟩=>⟨a,vs,e,k.out a _ t n,n,ah.keep k r⟩
 |.dT ks ds,_,⟨a,vs,e,t,l,n,r⟩=>⟨a,vs,e,k.out a _ t n,l,n,ah.keep k r⟩
 |.dK ks ds,_,⟨a,vs,e,t,l,n,r⟩=>⟨a,vs,e,k.out a _ t n,l,n,ah.keep k r⟩
 |.sT ts,_,⟨a,e,⟨xH,t,r,z⟩,n⟩=>⟨a,e,⟨xH,k.out a _ t n,λx hx=>k.tup _ _ (r x hx),z⟩,n⟩
 |.ob φ,_,⟨a,e,⟨t,z⟩,n⟩=>⟨a,e,⟨k.out a _ t n,z⟩,n⟩
theorem ah.keep (k:Kp W H H'):∀{ds:List D} {vs:List V},ah P w W H ds vs->ah P w W H' ds vs
 |[],_,h=>h
 |d::ds,_,⟨v,r,e,h1,h2⟩=>⟨v,r,e,aA.keep k h1,ah.keep k h2⟩
end
mutual
theorem aA.aX (s:∀a,W' a->W a):∀{d:D} {v:V},aA P w W H d v->aA P w W' H d v
 |.d7,_,h=>h
 |.bl _,_,h=>h
 |.int _,_,h=>h
 |.str _,_,h=>h
 |.obj _,_,h=>h
 |.tup ds,_,⟨a,vs,e,t,r⟩=>⟨a,vs,e,t,ah.aX s r⟩
 |.lst ds,_,⟨a,vs,e,t,n,r⟩=>⟨a,vs,e,t,λz=>n (s a z),ah.aX s r⟩
 |.dT ks ds,_,⟨a,vs,e,t,l,n,r⟩=>⟨a,vs,e,t,l,λz=>n (s a z),ah.aX s r⟩
 |.dK ks ds,_,⟨a,vs,e,t,l,n,r⟩=>⟨a,vs,e,t,l,λz=>n (s a z),ah.aX s r⟩
 |.sT ts,_,⟨a,e,t,n⟩=>⟨a,e,t,λz=>n (s a z)⟩
 |.ob φ,_,⟨a,e,t,n⟩=>⟨a,e,t,λz=>n (s a z)⟩
theorem ah.aX (s:∀a,W' a->W a):∀{ds:List D} {vs:List V},ah P w W H ds vs->ah P w W' H ds vs
 |[],_,h=>h
 |d::ds,_,⟨v,r,e,h1,h2⟩=>⟨v,r,e,aA.aX s h1,ah.aX s h2⟩
end
mutual
theorem aA.flat:∀{d:D} {v:V},d.flat=true->aA P w W H d v->aA P w W' H d v
 |.d7,_,_,h=>h
 |.bl _,_,_,h=>h
 |.int _,_,_,h=>h
 |.str _,_,_,h=>h
 |.obj _,_,_,h=>h
 |.tup ds,_,f,⟨a,vs,e,t,r⟩=>⟨a,vs,e,t,ah.flat (by simpa[D.flat] using f) r⟩
 |.lst ds,_,f,_=>by simp[D.flat]at f
 |.dT ks ds,_,f,_=>by simp[D.flat]at f
 |.dK ks ds,_,f,_=>by simp[D.flat]at f
 |.sT ts,_,f,_=>by simp[D.flat]at f
 |.ob φ,_,f,_=>by simp[D.flat]at f
theorem ah.flat:∀{ds:List D} {vs:List V},D.cC ds=true->ah P w W H ds vs->ah P w W' H ds vs
 |[],_,_,h=>h
 |d::ds,_,f,⟨v,r,e,h1,h2⟩=>by
  have f':(d.flat&&D.cC ds)=true:=f;rw[QU]at f';exact⟨v,r,e,aA.flat f'.1 h1,ah.flat f'.2 h2⟩
end
theorem aA.same (s:az H H'){d:D}{v:V}(h:aA P w W H d v):aA P w W H' d v:=h.keep s.kp
theorem ah.same (s:az H H'){ds:List D}{vs:List V}(h:ah P w W H ds vs):ah P w W H' ds vs:=h.keep s.kp
theorem ah.length:∀{ds:List D} {vs:List V},ah P w W H ds vs->vs.length=ds.length
 |[],_,h=>by rw[show _=[] from h];rfl
 |d::ds,_,⟨v,r,e,h1,h2⟩=>by rw[e,Qx,Qx,ah.length h2]
theorem ah.get:∀{ds:List D} {vs:List V} {i:Nat} {d:D},ah P w W H ds vs->ds[i]?=some d->∃v,vs[i]?=some v/\aA P w W H d v
 |[],_,_,_,_,e=>by simp at e
 |d::ds,_,0,_,⟨v,r,e,h1,h2⟩,e'=>by simp at e';subst e' e;exact⟨v,by simp,h1⟩
 |d::ds,_,i+1,_,⟨v,r,e,h1,h2⟩,e'=>by
  subst e;obtain⟨u,e1,e2⟩:=ah.get (i:=i) h2 (by simpa using e')
  exact⟨u,by simpa using e1,e2⟩
theorem ah.append:∀{ds Hf:List D} {vs vs':List V},ah P w W H ds vs->ah P w W H Hf vs'->ah P w W H (ds++Hf) (vs++vs')
 |[],_,_,_,h,h'=>by rw[show _=[] from h];exact h'
 |d::ds,_,_,_,⟨v,r,e,h1,h2⟩,h'=>by subst e;exact⟨v,_,rfl,h1,ah.append h2 h'⟩
theorem ah.take:∀{ds:List D} {vs:List V} (n:Nat),ah P w W H ds vs->ah P w W H (ds.take n) (vs.take n)
 |[],_,n,h=>by rw[show _=[] from h];simp[ah]
 |d::ds,_,0,_=>by simp[ah]
 |d::ds,_,n+1,⟨v,r,e,h1,h2⟩=>by subst e;exact⟨v,_,rfl,h1,ah.take n h2⟩
theorem ah.drop:∀{ds:List D} {vs:List V} (n:Nat),ah P w W H ds vs->ah P w W H (ds.drop n) (vs.drop n)
 |[],_,n,h=>by rw[show _=[] from h];simp[ah]
 |d::ds,_,0,h=>h
 |d::ds,_,n+1,⟨v,r,e,h1,h2⟩=>by subst e;exact ah.drop n h2
theorem ah.set {d:D}{v:V}(hd:aA P w W H d v):∀{ds:List D} {vs:List V} (i:Nat),ah P w W H ds vs->ah P w W H (ds.set i d) (vs.set i v)
 |[],_,_,h=>by rw[show _=[] from h];simp[ah]
 |_::ds,_,0,⟨v,r,e,h1,h2⟩=>by subst e;exact⟨_,_,rfl,hd,h2⟩
 |_::ds,_,i+1,⟨v,r,e,h1,h2⟩=>by subst e;exact⟨_,_,rfl,h1,ah.set hd i h2⟩
end
open PySem.SeqAt
abbrev Dm (W:Addr->Prop)(H:Hp):Prop:=∀a,W a->H a≠none
theorem Dm.same {W:Addr->Prop}{H H':Hp}(d:Dm W H)(s:az H H'):Dm W H':=λa h e=>d a h (s.free e)
abbrev Rp (X:Cx)(W:Addr->Prop)(H:Hp)(d:D)(v:V):Prop:=aA X.prog X.w W H d v
abbrev gO (X:Cx)(W:Addr->Prop)(H:Hp)(ds:List D)(vs:List V):Prop:=ah X.prog X.w W H ds vs
def LI (X:Cx)(f:D->Option D):V->Hp->VK->Prop:=λx H Q=>∃W d1 d,Dm W H/\Rp X W H d1 x/\f d1=some d/\∀v H',az H H'->Rp X W H' d v->Q v H'
def LH (X:Cx)(f:D->D->Option D):R2:=λx y H Q=>∃W d1 d2 d,Dm W H/\Rp X W H d1 x/\Rp X W H d2 y/\f d1 d2=some d/\∀v H',az H H'->Rp X W H' d v->Q v H'
def Nh (X:Cx)(f:List D->Option D):List V->Hp->VK->Prop:=λxs H Q=>∃W ds d,Dm W H/\gO X W H ds xs/\f ds=some d/\∀v H',az H H'->Rp X W H' d v->Q v H'
abbrev bt (X:Cx)(f:P_->P_->Sem P_)(g:D->D->Option D):Prop:=j_ X f (LH X g)
abbrev bB (X:Cx)(f:P_)(g:List D->Option D):Prop:=eU X f (Nh X g)
section
variable {X:Cx}{W:Addr->Prop}{H:Hp}
theorem yY {p:Addr}(d:Dm W H)(n:H p=none):¬ W p:=λz=>d p z n
theorem Rp.hE {p:Addr}{vs:List V}{ds:List D}(d:Dm W H)(n:H p=none)(r:gO X W H ds vs):Rp X W (upd H p (.lst vs)) (.lst ds) (.ref p) :=
 ⟨p,vs,rfl,au,yY d n,r.same (az.new n)⟩
theorem Rp.Bl {p:Addr}{vs:List V}{ds:List D}(n:H p=none)(r:gO X W H ds vs):Rp X W (upd H p (.tup vs)) (.tup ds) (.ref p) :=
 ⟨p,vs,rfl,au,r.same (az.new n)⟩
theorem gO.nil:gO X W H [] []:=rfl
theorem gO.cons {d:D}{ds:List D}{v:V}{vs:List V}(h:Rp X W H d v)(r:gO X W H ds vs):gO X W H (d::ds) (v::vs):=⟨v,vs,rfl,h,r⟩
end
def D.CJ:D->Option Int
 |.int i=>some i
 |_=>none
def D.CI:D->Option (List D)
 |.lst a=>some a
 |_=>none
def D.FT:D->Option (List D)
 |.tup a=>some a
 |_=>none
theorem D.gG {d:D}{i:Int}(h:d.CJ=some i):d=.int i:=by cases d <;> first|(cases h;rfl)|cases h
theorem D.jM {d:D}{i:List D}(h:d.CI=some i):d=.lst i:=by cases d <;> first|(cases h;rfl)|cases h
theorem D.wz {d:D}{i:List D}(h:d.FT=some i):d=.tup i:=by cases d <;> first|(cases h;rfl)|cases h
def iU (f:Int->Int->Option D)(a b:D):Option D:=match a.CJ,b.CJ with
 |some i,some j=>f i j
 |_,_=>none
theorem hZ {f:Int->Int->Option D}{a b d:D}(h:iU f a b=some d):∃i j,a=.int i/\b=.int j/\f i j=some d:=by
 unfold iU at h;cases ha:a.CJ with
 |none=>rw[ha]at h;cases h
 |some i =>
  cases hb:b.CJ with
  |none=>rw[ha,hb]at h;cases h
  |some j=>rw[ha,hb]at h;exact⟨i,j,D.gG ha,D.gG hb,h⟩
def Cn (f:D->D->Option D)(g:List D->List D->Option D)(a b:D):Option D:=match a.CI,b.CI with
 |some i,some j=>g i j
 |_,_=>f a b
theorem tN {f:D->D->Option D}{g:List D->List D->Option D}{a b d:D}(h:Cn f g a b=some d):(∃i j,a=.lst i/\b=.lst j/\g i j=some d)\/f a b=some d:=by
 unfold Cn at h;cases ha:a.CI with
 |none=>rw[ha]at h;exact .inr h
 |some i =>
  cases hb:b.CI with
  |none=>rw[ha,hb]at h;exact .inr h
  |some j=>rw[ha,hb]at h;exact .inl ⟨i,j,D.jM ha,D.jM hb,h⟩
def xn:D->D->Option D:=Cn (iU λi j=>some (.int (i+j))) λa b=>if a.length+b.length<=Qp then some (.lst (a++b)) else none
def Lb:D->D->Option D:=iU λi j=>some (.int (i-j))
instance (i j:Int):Decidable (kU i j):=by unfold kU;infer_instance
instance (i j:Int):Decidable (kT i j):=by unfold kT;infer_instance
def DB:D->D->Option D:=iU λi j=>if kU i j then some (.int (i*j)) else none
def zQ:D->D->Option D:=iU λi j=>if 0<j then some (.int (i % j)) else none
def Hm:D->D->Option D:=iU λi j=>if 0<j/\j<2 ^ 200 then some (.int (i / j)) else none
def Dz:D->D->Option D:=iU λi j=>if kT i j then some (.int (i ^ j.toNat)) else none
def Lc:D->Option D
 |.int i=>some (.int (-i))
 |_=>none
section
variable {X:Cx}
theorem c_ {c:Prop}[Decidable c]{α:Type}{a b:α}(h:(if c then some a else none)=some b):c/\b=a:=by
 by_cases hc:c
 ·rw[if_pos hc]at h;cases h;exact⟨hc,rfl⟩
 ·rw[if_neg hc]at h;cases h
theorem nU {f:P_->P_->Sem P_}{C:Int->Int->Prop}{g:Int->Int->V}{h:Int->Int->D}{F:Int->Int->Option D}(ho:j_ X f (rI C g))(hF:∀i j d,F i j=some d->C i j/\d=h i j)
  (hg:∀(W:Addr->Prop) (H:Hp) i j,Rp X W H (h i j) (g i j)):bt X f (iU F):=by
 intro pins s σ H x y v u Q I rx ry hh;obtain⟨W,d1,d2,d,hd,r1,r2,e,q⟩:=hh;obtain⟨i,j,rfl,rfl,e⟩:=hZ e;obtain⟨c,rfl⟩:=hF _ _ _ e;cases r1;cases r2;exact ho pins s σ H _ _ v u Q I rx ry ⟨i,j,rfl,rfl,c,q _ _ (az.refl _) (hg W H i j)⟩
theorem vP {f:P_->P_->Sem P_}{g:Int->Int->V}{h:Int->Int->D}(ho:j_ X f (Ai g))
  (hg:∀(W:Addr->Prop) (H:Hp) i j,Rp X W H (h i j) (g i j)):bt X f (iU λi j=>some (h i j)):=by
 intro pins s σ H x y v u Q I rx ry hh;obtain⟨W,d1,d2,d,hd,r1,r2,e,q⟩:=hh;obtain⟨i,j,rfl,rfl,e⟩:=hZ e;cases e;cases r1;cases r2;exact ho pins s σ H _ _ v u Q I rx ry ⟨i,j,rfl,rfl,q _ _ (az.refl _) (hg W H i j)⟩
theorem aP:bt X (RF .Sub) Lb:=vP (h:=λi j=>.int (i-j)) vN λ_ _ _ _=>rfl
theorem i7:bt X (RF .Mult) DB:=nU (h:=λi j=>.int (i*j)) gZ (λ_ _ _ e=>c_ e) λ_ _ _ _=>rfl
theorem mE:bt X (RF .Mod) zQ:=nU (h:=λi j=>.int (i % j)) fe (λ_ _ _ e=>c_ e) λ_ _ _ _=>rfl
theorem yO:bt X (RF .FloorDiv) Hm:=nU (h:=λi j=>.int (i / j)) jC (λ_ _ _ e=>let ⟨c,e⟩:=c_ e;⟨lT.of c.1 c.2,e⟩) λ_ _ _ _=>rfl
theorem mD:bt X (RF .Pow) Dz:=nU (h:=λi j=>.int (i ^ j.toNat)) vO (λ_ _ _ e=>c_ e) λ_ _ _ _=>rfl
theorem bV:Hv X (unaryOp .USub) (LI X Lc):=by
 intro pins s σ H x v Q I rx h;obtain⟨W,d1,d,hd,r1,e,q⟩:=h;cases d1 with
 |int i=>cases e;cases r1;exact Bj pins s σ H _ v Q I rx ⟨i,rfl,q _ _ (az.refl _) rfl⟩
 |_=>cases e
end
def DE (p:Int->Int->Bool):D->D->Option D:=iU λi j=>some (.bl (p i j))
abbrev OP:D->D->Option D:=DE λi j=>decide (i<j)
abbrev OQ:D->D->Option D:=DE λi j=>decide (j<i)
section
variable {X:Cx}
theorem rA {p:Int->Int->Bool}{f:P_->P_->Sem P_}(ho:j_ X f (Ai λi j=>.bl (p i j))):bt X f (DE p):=vP (h:=λi j=>.bl (p i j)) ho λ_ _ _ _=>rfl
theorem dO:bt X (SU .Lt) OP:=rA An
theorem BZ:bt X (SU .Gt) OQ:=rA Ao
end
mutual
def D.pd:D->PyData
 |.d7=>.none
 |.bl b=>.bool b
 |.int i=>.int i
 |.str x=>.str x
 |.tup ds=>.tuple (D.f7 ds)
 |.lst ds=>.list (D.f7 ds)
 |_=>.dict []
def D.f7:List D->List PyData
 |[]=>[]
 |d::ds=>d.pd::D.f7 ds
end
abbrev D.pX (d:D):Bool:=shaped d.pd
mutual
theorem cJ {X:Cx}{pins:List (Addr×Obj)}{σ:St}{H:Hp}{s:Qb}(I:Inv X pins σ H s){W:Addr->Prop}:∀{d:D} {v:V} {u:P_},Rp X W H d v->RelV v u->d.pd.canLay0=true->∃as,Reads s.heap u d.pd as
 |.d7,_,_,h,r,_=>by cases h;cases r;exact⟨_,.none⟩
 |.bl b,_,_,h,r,_=>by cases h;cases r;exact⟨_,.bool b⟩
 |.int i,_,_,h,r,_=>by cases h;obtain⟨t,rfl⟩:=r;exact⟨_,.int i t⟩
 |.str x,_,_,h,r,_=>by cases h;obtain⟨t,rfl⟩:=r;exact⟨_,.str x t⟩
 |.tup ds,_,_,h,r,c=>by
  obtain⟨a,vs,rfl,e,q⟩:=h;cases r;obtain⟨its,rv,⟨o,ho,hc,n,hd⟩,hz⟩:=I.tuple (pL.of e);obtain⟨as,ha⟩:=e_ I q rv (by simpa[D.pd,Rm] using c)
  exact⟨_,.tuple ho hc hd (by simpa using ha)⟩
 |.lst ds,_,_,h,r,c=>by
  obtain⟨a,vs,rfl,e,_,q⟩:=h;cases r;obtain⟨z,its,n,rv,e'⟩:=I.bz a _ e;obtain⟨as,ha⟩:=e_ I q rv (by simpa[D.pd,Rm] using c)
  exact⟨_,.list e' rfl rfl (by simpa using ha)⟩
 |.obj _,_,_,_,_,c=>by simp[D.pd,Rm]at c
 |.dT _ _,_,_,_,_,c=>by simp[D.pd,Rm]at c
 |.dK _ _,_,_,_,_,c=>by simp[D.pd,Rm]at c
 |.sT _,_,_,_,_,c=>by simp[D.pd,Rm]at c
 |.ob _,_,_,_,_,c=>by simp[D.pd,Rm]at c
theorem e_ {X:Cx}{pins:List (Addr×Obj)}{σ:St}{H:Hp}{s:Qb}(I:Inv X pins σ H s){W:Addr->Prop}:∀{ds:List D} {vs:List V} {us:List P_},gO X W H ds vs->Vals vs us->SH (D.f7 ds)=true->∃as,ReadsAll s.heap us (D.f7 ds) as
 |[],_,_,h,r,_=>by
  rw[show _=[] from h]at r
  cases r;exact⟨_,.nil⟩
 |d::ds,_,_,⟨v,vr,e,h1,h2⟩,r,c=>by
  subst e;have c':(d.pd.canLay0&&SH (D.f7 ds))=true:=c;rw[QU]at c';cases r with
  |cons r1 r2 =>
   obtain⟨as,ha⟩:=cJ I h1 r1 c'.1;obtain⟨bs,hb⟩:=e_ I h2 r2 c'.2;exact⟨_,.cons ha hb⟩
end
def EB (a b:D):Option D:=if a.pX=true/\b.pX=true then some (.bl (Rw a.pd b.pd)) else none
def zP (a b:D):Option D:=if a.pX=true/\b.pX=true then some (.bl (!Rw a.pd b.pd)) else none
section
variable {X:Cx}
theorem b8 (hu:X.A.units+64<TY):bt X (SU .Eq) EB:=by
 intro pins s σ H x y v u Q I rx ry h;obtain⟨W,d1,d2,d,hd,r1,r2,e,q⟩:=h;obtain⟨⟨s1,s2⟩,rfl⟩:=c_ e;obtain⟨as,ra⟩:=cJ I r1 rx (Rq s1);obtain⟨bs,rb⟩:=cJ I r2 ry (Rq s2);exact compareEq_shaped ra rb s1 s2 hu ⟨.bl _,H,I,rfl,q _ _ (az.refl _) rfl⟩
theorem g9 (hu:X.A.units+64<TY):bt X (SU .NotEq) zP:=by
 intro pins s σ H x y v u Q I rx ry h;obtain⟨W,d1,d2,d,hd,r1,r2,e,q⟩:=h;obtain⟨⟨s1,s2⟩,rfl⟩:=c_ e;obtain⟨as,ra⟩:=cJ I r1 rx (Rq s1);obtain⟨bs,rb⟩:=cJ I r2 ry (Rq s2);exact compareNe_shaped ra rb s1 s2 hu ⟨.bl _,H,I,rfl,q _ _ (az.refl _) rfl⟩
end
noncomputable def DC:D->D->Option Bool
 |a,.lst ds=>if a.pX=true/\(D.lst ds).pX=true then some ((D.f7 ds).any λy=>Rw y a.pd) else none
 |a,.tup ds=>if a.pX=true/\(D.tup ds).pX=true then some ((D.f7 ds).any λy=>Rw y a.pd) else none
 |_,_=>none
def qD (a b:D):Option D:=(DC a b).map λc=>.bl (!c)
theorem qS {ds:List D}{n:PyData}(hn:n=.list (D.f7 ds)\/n=.tuple (D.f7 ds))(h:shaped n=true):SH (D.f7 ds)=true/\RA (D.f7 ds)<=64:=by
 have h1:=Rq h;have h2:=depth_of_shaped h;rcases hn with rfl|rfl
 ·refine⟨by simpa[Rm] using h1,?_⟩
  have:SV (.list (D.f7 ds))=RA (D.f7 ds)+1:=by simp[SV]
  lia
 ·refine⟨by simpa[Rm] using h1,?_⟩
  have:SV (.tuple (D.f7 ds))=RA (D.f7 ds)+1:=by simp[SV]
  lia
section
variable {X:Cx}
theorem tj (hu:X.A.units+64+1<TY):bt X (SU .NotIn) qD:=by
 intro pins s σ H x y v u Q I rx ry h;obtain⟨W,d1,d2,d,hd,r1,r2,e,q⟩:=h;cases d2 with
 |lst ds =>
  obtain⟨b,e1,rfl⟩:=Qy.mp e;obtain⟨⟨s1,s2⟩,rfl⟩:=c_ e1;obtain⟨as,ra⟩:=cJ I r1 rx (Rq s1);obtain⟨bs,rb⟩:=cJ I r2 ry (Rq s2);obtain⟨c1,c2⟩:=qS (.inl rfl) s2;exact notIn_list_reads rb ra c1 (Rq s1) (by have:=U1 (RA (D.f7 ds)) d1.pd.depth;lia) ⟨.bl _,H,I,rfl,q _ _ (az.refl _) rfl⟩
 |tup ds =>
  obtain⟨b,e1,rfl⟩:=Qy.mp e;obtain⟨⟨s1,s2⟩,rfl⟩:=c_ e1;obtain⟨as,ra⟩:=cJ I r1 rx (Rq s1);obtain⟨bs,rb⟩:=cJ I r2 ry (Rq s2);obtain⟨c1,c2⟩:=qS (.inr rfl) s2;exact notIn_tuple_reads rb ra c1 (Rq s1) (by have:=U1 (RA (D.f7 ds)) d1.pd.depth;lia) ⟨.bl _,H,I,rfl,q _ _ (az.refl _) rfl⟩
 |_=>cases e
def rY (a b:D):Option D:=match b.CJ with
 |some i=>match a.CI with
  |some ds=>j6 ds i
  |none=>match a.FT with
   |some ds=>j6 ds i
   |none=>none
 |none=>none
theorem xk {a b d:D}(h:rY a b=some d):∃ds i,(a=.lst ds\/a=.tup ds)/\b=.int i/\j6 ds i=some d:=by
 unfold rY at h;cases hb:b.CJ with
 |none=>rw[hb]at h;cases h
 |some i =>
  rw[hb]at h;cases ha:a.CI with
  |some ds=>rw[ha]at h;exact⟨ds,i,.inl (D.jM ha),D.gG hb,h⟩
  |none =>
   rw[ha]at h;cases ht:a.FT with
   |some ds=>rw[ht]at h;exact⟨ds,i,.inr (D.wz ht),D.gG hb,h⟩
   |none=>rw[ht]at h;cases h
theorem gO.j6 {W:Addr->Prop}{H:Hp}{ds:List D}{vs:List V}{i:Int}{d:D}(h:gO X W H ds vs)(e:L2.j6 ds i=some d):∃v,L2.j6 vs i=some v/\Rp X W H d v:=by
 unfold L2.j6 at *
 rw[h.length];cases q:lz ds.length i with
 |none=>rw[q]at e;cases e
 |some j =>
  rw[q]at e;exact ah.get h e
theorem CF:A0 X (LH X rY):=by
 intro value slice pins s σ H x y v u Q I rx ry h hs;obtain⟨W,d1,d2,d,hd,r1,r2,e,q⟩:=h;obtain⟨ds,i,h,rfl,e⟩:=xk e;cases r2;rcases h with rfl|rfl
 ·obtain⟨p,vs,rfl,h1,n1,q1⟩:=r1;obtain⟨z,hz,rz⟩:=gO.j6 (X:=X) q1 e;exact cu value slice pins s σ H _ _ v u Q I rx ry ⟨p,vs,i,z,rfl,rfl,c6.of h1,hz,q _ _ (az.refl _) rz⟩ hs
 ·obtain⟨p,vs,rfl,h1,q1⟩:=r1;obtain⟨z,hz,rz⟩:=gO.j6 (X:=X) q1 e;exact wu value slice pins s σ H _ _ v u Q I rx ry ⟨p,vs,i,z,rfl,rfl,pL.of h1,hz,q _ _ (az.refl _) rz⟩ hs
def cutD (xs:List D)(lo hi:Option Int):List D:=(xs.drop (HT.jt xs.length 0 lo)).take (HT.jt xs.length xs.length hi-HT.jt xs.length 0 lo)
def xM:D->Option Int->Option Int->Option D
 |.lst ds,lo,hi=>some (.lst (cutD ds lo hi))
 |_,_,_=>none
def kR:List D->Option D
 |[.lst ds]=>some (.int ds.length)
 |[.tup ds]=>some (.int ds.length)
 |_=>none
theorem cD:bB X (.builtin "len") kR:=by
 intro pins s σ H xs us Q I r h;obtain⟨W,ds,d,hd,r1,e,q⟩:=h
 match ds,e with
 |[.lst es],e =>
  cases e;obtain⟨v,r',rfl,⟨p,vs,rfl,h1,n1,q1⟩,hr⟩:=r1;cases hr;refine eL pins s σ H _ us Q I r ⟨p,vs,rfl,.inl (c6.of h1),?_⟩;rw[q1.length];exact q _ _ (az.refl _) rfl
 |[.tup es],e =>
  cases e;obtain⟨v,r',rfl,⟨p,vs,rfl,h1,q1⟩,hr⟩:=r1;cases hr;refine eL pins s σ H _ us Q I r ⟨p,vs,rfl,.inr (pL.of h1),?_⟩;rw[q1.length];exact q _ _ (az.refl _) rfl
def dList:List D->Option D
 |[.lst ds]=>some (.lst ds)
 |[.tup ds]=>some (.lst ds)
 |_=>none
def Hl:List D->Option D
 |[.int i,.int j]=>some (.int (if j>i then j else i))
 |_=>none
def o9:List D->Option D
 |[.int i,.int j]=>some (.int (if j<i then j else i))
 |_=>none
theorem j7 {W:Addr->Prop}{H:Hp}{a b:D}{xs:List V}(h:gO X W H [a,b] xs):∃x y,xs=[x,y]/\Rp X W H a x/\Rp X W H b y:=by
 obtain⟨x,r,rfl,hx,y,r',rfl,hy,hr⟩:=h;cases hr;exact⟨x,y,rfl,hx,hy⟩
theorem iN {W:Addr->Prop}{H:Hp}{a:D}{xs:List V}(h:gO X W H [a] xs):∃x,xs=[x]/\Rp X W H a x:=by
 obtain⟨x,r,rfl,hx,hr⟩:=h;cases hr;exact⟨x,rfl,hx⟩
theorem qG (hc:X.calm=true):bB X (.builtin "max") Hl:=by
 intro pins s σ H xs us Q I r h;obtain⟨W,ds,d,hd,r1,e,q⟩:=h
 match ds,e with
 |[.int i,.int j],e =>
  cases e;obtain⟨x,y,rfl,hx,hy⟩:=j7 r1;cases hx;cases hy;exact lL hc pins s σ H _ us Q I r ⟨i,j,rfl,q _ _ (az.refl _) rfl⟩
theorem fV (hc:X.calm=true):bB X (.builtin "min") o9:=by
 intro pins s σ H xs us Q I r h;obtain⟨W,ds,d,hd,r1,e,q⟩:=h
 match ds,e with
 |[.int i,.int j],e =>
  cases e;obtain⟨x,y,rfl,hx,hy⟩:=j7 r1;cases hx;cases hy;exact um hc pins s σ H _ us Q I r ⟨i,j,rfl,q _ _ (az.refl _) rfl⟩
def Ld:List D->Option D
 |[.int i]=>some (.int i)
 |[.bl k]=>some (.int (if k then 1 else 0))
 |_=>none
theorem uq:bB X (.type "int") Ld:=by
 intro pins s σ H xs us Q I r h;obtain⟨W,ds,d,hd,r1,e,q⟩:=h
 match ds,e with
 |[.int i],e =>
  cases e;obtain⟨x,rfl,hx⟩:=iN r1;cases hx;exact lM pins s σ H _ us Q I r (.inl ⟨i,rfl,q _ _ (az.refl _) rfl⟩)
 |[.bl k],e =>
  cases e;obtain⟨x,rfl,hx⟩:=iN r1;cases hx;exact lM pins s σ H _ us Q I r (.inr ⟨k,rfl,q _ _ (az.refl _) rfl⟩)
def Lf:List D->Option D
 |[.int i]=>some (.int (if i<0 then -i else i))
 |_=>none
theorem uu:bB X (.builtin "abs") Lf:=by
 intro pins s σ H xs us Q I r h;obtain⟨W,ds,d,hd,r1,e,q⟩:=h
 match ds,e with
 |[.int i],e =>
  cases e;obtain⟨x,rfl,hx⟩:=iN r1;cases hx;exact xt pins s σ H _ us Q I r ⟨i,rfl,q _ _ (az.refl _) rfl⟩
end
abbrev uP:=List (Option D)
abbrev DW:=uP->(D->Prop)->Prop
abbrev pF:=uP->(List D->Prop)->Prop
def qM (P:Qd)(w:Qq)(W:Addr->Prop)(H:Hp)(σ:St)(ρ:uP):Prop:=∀(i:Nat) (d:D),ρ[i]?=some (some d)->∃v,σ[i]?=some (some v)/\aA P w W H d v
theorem qM.keep {P:Qd}{w:Qq}{W:Addr->Prop}{H H':Hp}{σ:St}{ρ:uP}(e:qM P w W H σ ρ)(k:Kp W H H'):qM P w W H' σ ρ:=λi d h=>by
 obtain⟨v,h1,h2⟩:=e i d h;exact⟨v,h1,h2.keep k⟩
theorem qM.same {P:Qd}{w:Qq}{W:Addr->Prop}{H H':Hp}{σ:St}{ρ:uP}(e:qM P w W H σ ρ)(s:az H H'):qM P w W H' σ ρ:=e.keep s.kp
theorem PE.pre {X:Cx}{e:Expr}{t t':TE}(h:PE X e t)(k:∀σ H Q,t' σ H Q->t σ H Q):PE X e t':=λpins s σ H Q I q=>h pins s σ H Q I (k σ H Q q)
theorem PT.pre {X:Cx}{e:Expr}{t t':TT}(h:PT X e t)(k:∀σ H Q,t' σ H Q->t σ H Q):PT X e t':=λpins s σ H Q I q=>h pins s σ H Q I (k σ H Q q)
theorem PA.pre {X:Cx}{es:List Expr}{t t':TA}(h:PA X es t)(k:∀σ H Q,t' σ H Q->t σ H Q):PA X es t':=λpos pins s σ H Q I q=>h pos pins s σ H Q I (k σ H Q q)
structure EE (P:Qd)(w:Qq)(W:Addr->Prop)(σ:St)(H:Hp)(ρ:uP):Prop where
 dm:Dm W H
 env:qM P w W H σ ρ
abbrev SE (X:Cx):(Addr->Prop)->St->Hp->uP->Prop:=EE X.prog X.w
theorem EE.same {P:Qd}{w:Qq}{W:Addr->Prop}{σ:St}{H H':Hp}{ρ:uP}(e:EE P w W σ H ρ)(s:az H H'):EE P w W σ H' ρ:=⟨e.dm.same s,e.env.same s⟩
def tD (X:Cx)(φ:DW):TE:=λσ H Q=>∃W ρ,SE X W σ H ρ/\φ ρ λd=>∀v H',az H H'->Rp X W H' d v->Q v H'
def ES (X:Cx)(φ:pF):TA:=λσ H Q=>∃W ρ,SE X W σ H ρ/\φ ρ λds=>∀vs H',az H H'->gO X W H' ds vs->Q vs H'
structure PV (X:Cx)(e:Expr)(φ:DW):Prop where
 mono:∀ρ R R',(∀d,R d->R' d)->φ ρ R->φ ρ R'
 pe:PE X e (tD X φ)
structure Hz (X:Cx)(es:List Expr)(φ:pF):Prop where
 mono:∀ρ R R',(∀d,R d->R' d)->φ ρ R->φ ρ R'
 pa:PA X es (ES X φ)
section
variable {X:Cx}{a e:Expr}{es:List Expr}{φ:DW}{φs:pF}{pos:Pos}{W:Addr->Prop}{σ:St}{H:Hp}{ρ:uP}
theorem tD.of (h:PV X e φ)(se:SE X W σ H ρ){R:D->Prop}{Q:VK}(hr:φ ρ R)(k:∀d v H',R d->az H H'->Rp X W H' d v->Q v H'):tD X φ σ H Q :=
 ⟨W,ρ,se,h.mono ρ _ _ (λd hd v H' s r=>k d v H' hd s r) hr⟩
theorem ES.of (h:Hz X es φs)(se:SE X W σ H ρ){R:List D->Prop}{Q:List V->Hp->Prop}(hr:φs ρ R)(k:∀ds vs H',R ds->az H H'->gO X W H' ds vs->Q vs H'):ES X φs σ H Q :=
 ⟨W,ρ,se,h.mono ρ _ _ (λd hd v H' s r=>k d v H' hd s r) hr⟩
def K4 (i:Nat):DW:=λρ R=>∃d,ρ[i]?=some (some d)/\R d
theorem jx {i:Nat}{x:Str}(hN:X.N[i]?=some x:=by rfl)(hv:m6 X.env.scope x:=by first|exact .inl rfl|exact .inr (.inl rfl)|exact .inr (.inr rfl))(hd:(x==("__debug__" : Str))=false:=by decide)(ee:(x==("__classdict__" : Str))=false:=by decide):
  PV X (.Name x pos) (K4 i):=⟨λρ R R' k J5=> by obtain⟨d,e,h⟩ := J5;exact⟨d,e,k d h⟩,(cy hN hv hd ee).pre λσ H Q J4=> by
 obtain⟨W,ρ,se,d,e,q⟩ := J4;obtain⟨v,h1,h2⟩:=se.env i d e;exact⟨v,h1,q v H (az.refl _) h2⟩⟩
theorem PW.pre {t t':TT}(h:PW X e t)(k:∀σ H Q,t' σ H Q->t σ H Q):PW X e t':=λw pins s σ H Q I q=>h w pins s σ H Q I (k σ H Q q)
def K5:pF:=λ_ R=>R []
def Hc (φ:DW)(φs:pF):pF:=λρ R=>φ ρ λd=>φs ρ λds=>R (d::ds)
theorem qY:Hz X [] K5:=⟨λρ R R' k h=>k _ h,dt.pre λσ H Q CP=> by obtain⟨W,ρ,se,q⟩ := CP;exact q [] H (az.refl _) rfl⟩
theorem gj (ha:PV X a φ)(hr:Hz X es φs)(hs:Qt (a::es) X.env=(false,eval a X.env)::Qt es X.env:=by rfl):Hz X (a::es) (Hc φ φs) :=
 ⟨λρ R R' k h=>ha.mono ρ _ _ (λd q=>hr.mono ρ _ _ (λds q2=>k _ q2) q) h,(bo ha.pe hr.pa hs).pre λσ H Q ⟨W,ρ,se,h⟩ =>
  tD.of ha se h λd1 v1 H1 h1 s1 r1=>ES.of hr (se.same s1) h1 λds vs H2 q s2 r2=>q (v1::vs) H2 (s1.trans s2) (.cons (r1.same s2) r2)⟩
end
abbrev FD:=List D->(D->Prop)->Prop
def eN (F:FD):Prop:=∀ds R R',(∀d,R d->R' d)->F ds R->F ds R'
section
end
section
variable {X:Cx}{e:Expr}{σ:St}{H:Hp}
theorem PO.pre {e:Option Expr}{t t':TO}(h:PO X e t)(k:∀σ H Q,t' σ H Q->t σ H Q):PO X e t':=λpins s σ H Q I q=>h pins s σ H Q I (k σ H Q q)
end
abbrev NF:D->Prop:=λd=>d.flat=true
section
abbrev NL:D->Prop:=λd=>match d with | .lst ds=>D.cC ds=true|d=>d.flat=true
end
section
variable {P:Qd}{w:Qq}{W W':Addr->Prop}{H:Hp}
mutual
theorem aA.grow (s:∀a,W' a->W a\/H a=none):∀{d:D} {v:V},aA P w W H d v->aA P w W' H d v
 |.d7,_,h=>h
 |.bl _,_,h=>h
 |.int _,_,h=>h
 |.str _,_,h=>h
 |.obj _,_,h=>h
 |.tup ds,_,⟨a,vs,e,t,r⟩=>⟨a,vs,e,t,ah.grow s r⟩
 |.lst ds,_,⟨a,vs,e,t,n,r⟩=>⟨a,vs,e,t,λz=>(s a z).elim n λq=>(by rw[t]at q;cases q),ah.grow s r⟩
 |.dT ks ds,_,⟨a,vs,e,t,l,n,r⟩=>⟨a,vs,e,t,l,λz=>(s a z).elim n λq=>(by rw[t]at q;cases q),ah.grow s r⟩
 |.dK ks ds,_,⟨a,vs,e,t,l,n,r⟩=>⟨a,vs,e,t,l,λz=>(s a z).elim n λq=>(by rw[t]at q;cases q),ah.grow s r⟩
 |.sT ts,_,⟨a,e,⟨xH,t,r,z⟩,n⟩=>⟨a,e,⟨xH,t,r,z⟩,λz=>(s a z).elim n λq=>(by rw[t]at q;cases q)⟩
 |.ob φ,_,⟨a,e,⟨t,z⟩,n⟩=>⟨a,e,⟨t,z⟩,λz=>(s a z).elim n λq=>(by rw[t]at q;cases q)⟩
theorem ah.grow (s:∀a,W' a->W a\/H a=none):∀{ds:List D} {vs:List V},ah P w W H ds vs->ah P w W' H ds vs
 |[],_,h=>h
 |d::ds,_,⟨v,r,e,h1,h2⟩=>⟨v,r,e,aA.grow s h1,ah.grow s h2⟩
end
end
def OX (X:Cx)(W:Addr->Prop)(J:It)(ds:List D)(H0:Hp):Prop:=∀(i:Nat) (H:Hp),Kp W H0 H ->
 (∀d,ds[i]?=some d->J.go i H/\∀x H1,J.EF i H x H1->az H H1/\Rp X W H1 d x)/\(ds.length<=i->J.stop i H)
def sF (X:Cx)(W:Addr->Prop)(J:It)(ds:List D)(H0:Hp):Prop:=∀W':Addr->Prop,(∀b,W' b->W b\/H0 b=none)->OX X W' J ds H0
abbrev DV:=uP->(List D->Prop)->Prop
structure ML (X:Cx)(tg iter:Expr)(ι:DV):Prop where
 mono:∀ρ R R',(∀d,R d->R' d)->ι ρ R->ι ρ R'
 pi:PI X tg iter λσ H R=>∃W ρ,SE X W σ H ρ/\ι ρ λds=>∀J H',az H H'->sF X W J ds H'->R J H'
section
variable {X:Cx}{tg e:Expr}
theorem PI.pre {iter:Expr}{t t':TI}(h:PI X tg iter t)(k:∀σ H R,t' σ H R->t σ H R):PI X tg iter t':=λpins s σ H R I q=>h pins s σ H R I (k σ H R q)
theorem jL {W:Addr->Prop}{H:Hp}{p:Addr}{vs:List V}{ds:List D}(h1:H p=some (.lst vs))(n1:¬ W p)(q1:gO X W H ds vs):sF X W (Iz X.K p) ds H:=λW' hW i H' k=>by
 have h2:=k.out p _ h1 λz=>(hW p z).elim n1 λq=>by rw[h1]at q;cases q
 replace q1:=ah.grow hW q1;constructor
 ·intro d hd;obtain⟨v,hv,rv⟩:=ah.get q1 hd;refine⟨⟨vs,v,c6.of h2,hv⟩,λx H1 y=>?_⟩;obtain⟨rfl,y⟩:=y;have e:=y vs (c6.of h2);rw[hv]at e;cases e;exact⟨az.refl _,rv.keep k⟩
 ·intro hl;exact⟨vs,c6.of h2,by rw[q1.length];exact hl⟩
def md (lo:Int)(n:Nat):List D:=(QQ n).map λ(k:Nat)=>D.int (lo+(k:Int))
theorem hX {W:Addr->Prop}{H:Hp}{lo:Int}{n:Nat}:sF X W (HE lo n) (md lo n) H:=λ_ _ i H' k=>by
 constructor
 ·intro d hd;unfold md at hd;rw[Ql]at hd;have hi:i<n:=by
   by_cases h:i<n
   ·exact h
   ·rw[Rc (by simpa using h)]at hd;cases hd
  rw[Se hi]at hd;cases hd;refine⟨hi,λx H1 y=>?_⟩;obtain⟨rfl,rfl⟩:=y;exact⟨az.refl _,rfl⟩
 ·intro hl;unfold md at hl;rw[Qa,Q_]at hl;exact hl
end
section
variable {X:Cx}{tg:Expr}{sI:List Expr}
theorem PG.pre {t t':TG}(h:PG X tg t)(k:∀v σ H Q,t' v σ H Q->t v σ H Q):PG X tg t':=λpins s σ H v u Q I r q=>h pins s σ H v u Q I r (k v σ H Q q)
theorem AY.pre {t t':AV}(h:AY X sI t)(k:∀v σ H Q,t' v σ H Q->t v σ H Q):AY X sI t':=λpins s σ H v u Q I r q=>h pins s σ H v u Q I r (k v σ H Q q)
end
theorem hV {H:Hp}{a:Addr}{o o':HO}(h:H a=some o)(ht:∀xs,o≠.tup xs):Kp (·=a) H (upd H a o') :=
 ⟨λb u e n=>by rw[aw n];exact e,λb xs e=>by rw[aw (v7 e h (λz=>ht xs z.symm))];exact e⟩
section
end
section
end
section
end
section
variable {σ:St}{β:ba}{own:Nat->List Addr}
def aG (own:Nat->List Addr)(i:Nat)(as:List Addr):Nat->List Addr:=λj=>if j=i then as else own j
theorem bH {own:Nat->List Addr}{i j:Nat}{a:Addr}(h:a∈aG own i [] j):a∈own j/\j≠i:=by
 unfold aG at h
 by_cases e:j=i
 ·rw[if_pos e]at h;cases h
 ·rw[if_neg e]at h;exact⟨h,e⟩
theorem aO {α:Type}{β:List α}{i j:Nat}{x:α}(h:i≠j):(β.set i x)[j]?=β[j]?:=by rw[R5,if_neg h]
theorem aQ {α:Type}{β:List α}{i:Nat}{x y:α}(h:(β.set i x)[i]?=some y):y=x/\i<β.length:=by
 rw[R5,if_pos rfl]at h
 by_cases hi:i<β.length
 ·rw[if_pos hi]at h;cases h;exact⟨rfl,hi⟩
 ·rw[if_neg hi]at h;cases h
theorem get_set {α:Type}{σ:List α}{i:Nat}{x:α}(h:i<σ.length):(σ.set i x)[i]?=some x:=by rw[R5,if_pos rfl,if_pos h]
end
structure Sn (Z:Hp×(Addr->Prop))(H:Hp)(W:Addr->Prop):Prop where
 w:∀b,W b->Z.2 b\/Z.1 b=none
 k:Kp (λb=>Z.2 b\/Z.1 b=none) Z.1 H
 d:∀b,Z.1 b≠none->H b≠none
theorem Sn.refl {H:Hp}{W:Addr->Prop}:Sn (H,W) H W:=⟨λ_ z=>.inl z,Kp.refl,λ_ z=>z⟩
theorem Sn.same {Z:Hp×(Addr->Prop)}{H H':Hp}{W:Addr->Prop}(n:Sn Z H W)(s:az H H'):Sn Z H' W:=⟨n.w,n.k.trans s.kp,λb z e=>n.d b z (s.free e)⟩
theorem Sn.free {Z:Hp×(Addr->Prop)}{H:Hp}{W:Addr->Prop}(n:Sn Z H W){a:Addr}(h:H a=none):Z.1 a=none:=by
 cases q:Z.1 a with
 |none=>rfl
 |some o=>exact absurd h (n.d a (by rw[q];intro z;cases z))
theorem Sn.upd {Z:Hp×(Addr->Prop)}{H:Hp}{W:Addr->Prop}(n:Sn Z H W){a:Addr}{o o':HO}(h:H a=some o)(ht:∀xs,o≠.tup xs)(wa:W a):Sn Z (L2.upd H a o') W :=
 ⟨n.w,n.k.trans ((hV h ht).mono λb z=>by rw[z];exact n.w a wa),λb z e=>by
  by_cases hb:b=a
  ·subst hb;rw[au]at e;cases e
  ·rw[aw hb]at e;exact n.d b z e⟩
theorem Sn.trans {Z:Hp×(Addr->Prop)}{H1 H:Hp}{W1 W:Addr->Prop}(n1:Sn Z H1 W1)(n:Sn (H1,W1) H W):Sn Z H W:=by
 have big:∀b,W1 b\/H1 b=none->Z.2 b\/Z.1 b=none:=λb z=>z.elim (n1.w b) λq=>.inr (n1.free q);exact⟨λb z=>big b (n.w b z),n1.k.trans (n.k.mono big),λb z=>n.d b (n1.d b z)⟩
section
variable {X:Cx}{st:Stmt}{rest:List Stmt}{σ:St}{H:Hp}
theorem PS.pre {t t':TS}(h:PS X st t)(k:∀D σ H,t' D σ H->t D σ H):PS X st t':=λpins s σ H D I q=>h pins s σ H D I (k D σ H q)
theorem pG.pre {t t':TS}(h:pG X rest t)(k:∀D σ H,t' D σ H->t D σ H):pG X rest t':=λpins s σ H D I q=>h pins s σ H D I (k D σ H q)
end
section
variable {b:Expr}{H:Hp}
theorem held {P:Qd}{w:Qq}{W W2:Addr->Prop}{H2:Hp}{d:D}{v:V}(r:aA P w W H d v)(n:Sn (H,W) H2 W2):aA P w W2 H2 d v :=
 aA.aX n.w (aA.keep n.k (aA.grow (λb z=>z) r))
end
theorem Sn.kp {Z:Hp×(Addr->Prop)}{H H':Hp}{W:Addr->Prop}(n:Sn Z H W)(k:Kp W H H')(dn:∀c,H c≠none->H' c≠none):Sn Z H' W:=⟨n.w,n.k.trans (k.mono n.w),λb z=>dn b (n.d b z)⟩
section
end
section
end
end L2
namespace OY
open PySem PySem.Spec PyProof.Rows
section
open PySem.SeqAt
open PySem.AutoSeq1 (wpAny_loadPart')
open PySem.MeetsSeq PySem.MeetsSeq2 PySem.MeetsSeq3
end
section
end
section
open PySem.SeqAt
open PySem.AutoSeq1 (wpAny_loadPart')
open PySem.MeetsSeq PySem.MeetsSeq2 PySem.MeetsSeq3
end
section
end
end OY
namespace L2
open PySem PySem.Spec PySem.SeqAt PyProof.Rows
theorem bW {P:Qd}{w:Qq}{W:Addr->Prop}{H:Hp}:∀{ns:List Int} {vs:List V},ah P w W H (ns.map D.int) vs->vs=ns.map V.int
 |[],_,h=>h
 |n::ns,_,⟨v,r,e,h1,h2⟩=>by rw[e,bW h2,show v=V.int n from h1];rfl
theorem lB {P:Qd}{w:Qq}{W:Addr->Prop}{H:Hp}:∀(ns:List Int),ah P w W H (ns.map D.int) (ns.map V.int)
 |[]=>rfl
 |n::ns=>⟨_,_,rfl,rfl,lB ns⟩
section
end
end L2
namespace TS
open PySem PyProof.Rows
section
end
end TS
namespace L2
open PySem PySem.Spec PyProof.Rows
def tS (H:Hp):P_->List Int
 |.ref t=>match H t with
  |some (.tup xs)=>xs.filterMap fun
   |.int i=>some i
   |_=>none
  |_=>[]
 |_=>[]
theorem oK:∀ns:List Int,((ns.map V.int).filterMap fun
   |.int i=>some i
   |_=>none)=ns
 |[]=>rfl
 |n::ns=>by
  rw[QS,Ts];dsimp only;rw[oK ns]
theorem jK {H:Hp}{t:Addr}{ns:List Int}(h:H t=some (.tup (ns.map V.int))):tS H (.ref t)=ns:=by
 unfold tS;dsimp only;rw[h];exact oK ns
def Dq (H:Hp):P_->Addr×List Int
 |.ref t=>(t,tS H (.ref t))
 |_=>(0,[])
abbrev DR (H:Hp)(ts:List (Addr×List Int)):Prop:=∀t∈ts,H t.1=some (.tup (t.2.map V.int))/\t.2≠[]
abbrev ye (t:Addr×List Int):V:=.ref t.1
theorem lj:∀(ts:List (Addr×List Int)),Vals (ts.map ye) (ts.map λt=>Value.ref t.1)
 |[]=>.nil
 |t::ts=>.cons rfl (lj ts)
theorem s9 {H:Hp}{ts:List (Addr×List Int)}(T:DR H ts){out:List P_}(hp:out.Perm (ts.map λt=>Value.ref t.1)):out=(out.map (Dq H)).map (λt=>Value.ref t.1)/\(out.map (Dq H)).Perm ts:=by
 constructor
 ·rw[QY];refine(RS (g:=id) λv hv=>?_).trans (List.map_id _) |>.symm
  obtain⟨t,ht,rfl⟩:=QP.mp (hp.mem_iff.mp hv);rfl
 ·refine(hp.map (Dq H)).trans (U4 ?_);rw[QY];refine(RS (g:=id) λt ht=>?_).trans (List.map_id _);show (t.1,tS H (.ref t.1))=t;rw[jK (T t ht).1]
theorem yb {P:Qd}{w:Qq}{H:Hp}{h:Heap}{ts:List (Addr×List Int)}(ok:fY P w H h)(T:DR H ts){a:Addr}(ha:h.objs.size<=a):TS.pD h (tS H) a (ts.map λt=>Value.ref t.1):=λv hv=>by
 obtain⟨t,ht,rfl⟩:=QP.mp hv;obtain⟨h1,h2⟩:=T t ht;obtain⟨_,its,r,o,ho,hc,n,hd⟩:=(show bA P w H h t.1 (.tup (t.2.map V.int)) from ok _ _ h1)
 exact⟨t.1,o,_,n,rfl,QO (QA (Qs ho) ha),ho,hc,hd,by rw[jK h1];exact intsAre_of (by simpa using r),by rw[jK h1];exact h2⟩
section
end
end L2
namespace TS
open PySem PyProof.Rows
section
variable {prog:Qd}{w:Qq}{A:Rj}{E:P_->Qb->Prop}{s:Qb}
theorem pV {x:P_}{vs:List P_}{kf:P_->List Int}{Q:P_->Qb->Prop}(hz:vs.length<=1000000)
  (col:∀(R:List P_->Qb->Prop),(∀(h':Heap) (tk:Nat),(∀b o,s.heap.get? b=some o->h'.get? b=some o)->R vs {s with heap:=h',toks:=tk})->QE (model prog w) A.in1 (collect x) R E s)
  (T:pD s.heap kf s.heap.objs.size vs)
  (h:∀(out:List P_) (h1 h':Heap) (tk:Nat) (n:Nat),out.Perm vs->out.Pairwise (λx y=>HT.lexLt (kf y) (kf x)=false)->(∀b o,s.heap.get? b=some o->h1.get? b=some o)->(∀b o,h1.get? b=some o->h'.get? b=some o)->h'.get? h1.objs.size=some (S9 "list" out.toArray n)->Q (.ref h1.objs.size) {s with heap:=h',toks:=tk}) :
  QE (model prog w) A (call (.builtin "sorted") [x]) Q E s:=by
 refine Calls.call_function_entry kind_sorted plain_sorted entry_sorted (args_sorted1 _) ?_;unfold UO.«sorted»
 refine P9 (m:=checkCount "sorted" 1 1 _) (Qn ?_);refine P9 (col _ λh' tk kp=>?_);have nl:vs.length<=Qp:=by rw[RU];lia
 refine P9 (wpAny_newList ?_ nl);have hl:(h'.push (S9 "list" vs.toArray 0)).get? h'.objs.size=some (S9 "list" vs.toArray 0):=QC _ rfl;have T':pD (h'.push (S9 "list" vs.toArray 0)) kf h'.objs.size vs:=λv hv=>by
  obtain⟨t,o,xs,k,e1,_,e3,r⟩:=T v hv;exact⟨t,o,xs,k,e1,QO (Qs (kp _ _ e3)),Qi _ (kp _ _ e3),r⟩
 refine P9 (R8 (RW slot_list_sort ⟨_,hl,rfl⟩ entry_list_sort (qi (s:={s with heap:=h'.push (S9 "list" vs.toArray 0),toks:=tk}) hl hz T' λout hp hs=>⟨_,rfl,?_⟩) (args_list_sort _)))
 obtain⟨n,hn⟩:=sortedHeap_at (out:=out.toArray) hl;refine Qn ⟨_,rfl,h out h' _ tk n hp hs kp (λb o e=>?_) hn⟩;have hb:=Qs e;rw[sortedHeap_old (QO hb) (by rw[size_push'];exact Nat.lt_succ_of_lt hb)]
 exact Qi _ e
end
end TS
namespace ST
open PySem PyProof.Rows
section
end
end ST
namespace L2
open PySem PySem.Spec PySem.SeqAt PyProof.Rows HT
theorem fQ:∀{a b:List Int},lexLt a b=false->lexLt b a=false->a=b
 |[],[],_,_=>rfl
 |[],_::_,h,_=>by cases h
 |_::_,[],_,h=>by cases h
 |x::xs,y::ys,h1,h2=>by
  rw[fP]at h1 h2
  by_cases e:x=y
  ·subst e;rw[if_pos rfl]at h1 h2;rw[fQ h1 h2]
  ·rw[if_neg e]at h1;rw[if_neg (λz=>e z.symm)]at h2;have:=of_decide_eq_false h1;have:=of_decide_eq_false h2;omega
theorem jJ:∀{a b:List Int},lexLt a b=true->lexLt b a=false
 |[],[],h=>by cases h
 |[],_::_,_=>rfl
 |_::_,[],h=>by cases h
 |x::xs,y::ys,h=>by
  rw[fP]at h ⊢
  by_cases e:x=y
  ·subst e;rw[if_pos rfl]at h ⊢
   exact jJ h
  ·rw[if_neg e]at h;rw[if_neg (λz=>e z.symm)];have:=of_decide_eq_true h;exact decide_eq_false (by lia)
theorem iE:∀{a b c:List Int},lexLt a b=true->lexLt b c=true->lexLt a c=true
 |[],[],_,h,_=>by cases h
 |[],_::_,[],_,h=>by cases h
 |[],_::_,_::_,_,_=>rfl
 |_::_,[],_,h,_=>by cases h
 |x::xs,y::ys,[],_,h=>by cases h
 |x::xs,y::ys,z::zs,h1,h2=>by
  rw[fP]at h1 h2 ⊢
  by_cases e:x=y
  ·subst e;rw[if_pos rfl]at h1
   by_cases e2:x=z
   ·subst e2;rw[if_pos rfl]at h2 ⊢
    exact iE h1 h2
   ·rw[if_neg e2]at h2 ⊢
    exact h2
  ·rw[if_neg e]at h1;have q1:=of_decide_eq_true h1
   by_cases e2:y=z
   ·subst e2;rw[if_neg e];exact h1
   ·rw[if_neg e2]at h2;have q2:=of_decide_eq_true h2;rw[if_neg (by omega)]
    exact decide_eq_true (by omega)
noncomputable def qm (k:List Int):List (List Int)->List (List Int)
 |[]=>[k]
 |x::xs=>if lexLt x k=true then x::qm k xs else k::x::xs
def iw:List (List Int)->List (List Int)
 |[]=>[]
 |k::ks=>qm k (iw ks)
theorem h8 (k:List Int):∀xs,(qm k xs).Perm (k::xs)
 |[]=>.refl _
 |x::xs=>by
  unfold qm
  split
  ·exact((h8 k xs).cons x).trans (List.Perm.swap _ _ _)
  ·exact .refl _
theorem gh:∀ks,(iw ks).Perm ks
 |[]=>.refl _
 |k::ks=>(h8 k (iw ks)).trans ((gh ks).cons k)
abbrev qI (ks:List (List Int)):Prop:=ks.Pairwise λx y=>HT.lexLt y x=false
theorem le_trans' {a b c:List Int}(h1:lexLt b a=false)(h2:lexLt c b=false):lexLt c a=false:=by
 cases h:lexLt c a with
 |false=>rfl
 |true =>
  cases hb:lexLt a b with
  |true=>rw[iE h hb]at h2;cases h2
  |false =>
   have:=fQ hb h1;subst this;rw[h]at h2;cases h2
theorem lC (k:List Int):∀xs,qI xs->qI (qm k xs)
 |[],_=>by simp[qm]
 |x::xs,h=>by
  obtain⟨h1,h2⟩:=RY.mp h;unfold qm
  split
  ·rename_i hx
   refine RY.mpr ⟨λy hy=>?_,lC k xs h2⟩;rcases Qc.mp ((h8 k xs).mem_iff.mp hy)with rfl|hy
   ·exact jJ hx
   ·exact h1 y hy
  ·rename_i hx
   have xJ:lexLt x k=false:=by cases q:lexLt x k <;> simp_all
   refine RY.mpr ⟨λy hy=>?_,h⟩;rcases Qc.mp hy with rfl|hy
   ·exact xJ
   ·exact le_trans' xJ (h1 y hy)
theorem jm:∀ks,qI (iw ks)
 |[]=>.nil
 |k::ks=>lC k _ (jm ks)
theorem iu:∀{a b:List (List Int)},a.Perm b->qI a->qI b->a=b
 |[],b,p,_,_=>by rw[List.nil_perm.mp p]
 |x::a,[],p,_,_=>by have:=p.length_eq;simp at this
 |x::a,y::b,p,ha,hb=>by
  obtain⟨a1,a2⟩:=RY.mp ha;obtain⟨b1,b2⟩:=RY.mp hb;have JS:x=y:=by
   rcases Qc.mp (p.mem_iff.mp (Ra (a:=x) (l:=a)))with h|h
   ·exact h
   ·rcases Qc.mp (p.mem_iff.mpr (Ra (a:=y) (l:=b)))with h' | h'
    ·exact h'.symm
    ·exact fQ (b1 x h) (a1 y h')
  subst JS;rw[iu (List.perm_cons x |>.mp p) a2 b2]
theorem By {a b:List (List Int)}(p:a.Perm b)(h:qI a):a=iw b:=iu (p.trans (gh b).symm) h (jm b)
abbrev kD (k:List Int):D:=.tup (k.map D.int)
section
variable {P:Qd}{w:Qq}{W:Addr->Prop}{H:Hp}
theorem lh:∀{ts:List (Addr×List Int)},(∀t∈ts,H t.1=some (.tup (t.2.map V.int)))->ah P w W H ((ts.map (·.2)).map kD) (ts.map ye)
 |[],_=>rfl
 |t::ts,h=>⟨_,_,rfl,⟨t.1,_,rfl,h t (Ra ..),lB t.2⟩,lh λx hx=>h x (QM _ hx)⟩
end
section
end
def bc:FD:=λds R=>∃n:Int,ds=[.int n]/\0<n/\n<2 ^ 200/\∀r:Int,0<=r->r<n->R (.int r)
theorem bc.mono:eN bc:=λds R R' k ⟨n,e,h1,h2,q⟩=>⟨n,e,h1,h2,λr a b=>k _ (q r a b)⟩
section
end
section
variable {X:Cx}{W:Addr->Prop}{H:Hp}
theorem tG {p:Addr}{vs:List V}{ds:List D}(n:H p=none)(f:NL (.lst ds))(r:gO X W H ds vs):Rp X (λa=>H a≠none) (upd H p (.lst vs)) (.lst ds) (.ref p) :=
 ⟨p,vs,rfl,au,λz=>z n,ah.flat f (r.same (az.new n))⟩
def Jf (X:Cx)(f:D->D->Option D):R2:=λx y H Q=>∃W d1 d2 d,Dm W H/\Rp X W H d1 x/\Rp X W H d2 y/\f d1 d2=some d/\∀v H',az H H'->Rp X W H' d v->(NL d->Rp X (λa=>H a≠none) H' d v)->Q v H'
def Je (X:Cx)(f:List D->Option D):List V->Hp->VK->Prop:=λxs H Q=>∃W ds d,Dm W H/\gO X W H ds xs/\f ds=some d/\∀v H',az H H'->Rp X W H' d v->(NL d->Rp X (λa=>H a≠none) H' d v)->Q v H'
def E8 (X:Cx)(f:D->Option Int->Option Int->Option D):V->Option Int->Option Int->Hp->VK->Prop:=λx lo hi H Q=>∃W d1 d,Dm W H/\Rp X W H d1 x/\f d1 lo hi=some d/\∀v H',az H H'->Rp X W H' d v->(NL d->Rp X (λa=>H a≠none) H' d v)->Q v H'
abbrev HC (X:Cx)(f:P_->P_->Sem P_)(g:D->D->Option D):Prop:=j_ X f (Jf X g)
abbrev xG (X:Cx)(f:P_)(g:List D->Option D):Prop:=eU X f (Je X g)
theorem aj:HC X (RF .Add) xn:=by
 intro pins s σ H x y v u Q I rx ry h;obtain⟨W,d1,d2,d,hd,r1,r2,e,q⟩:=h;rcases tN e with⟨a,b,rfl,rfl,e⟩|e
 ·obtain⟨hl,rfl⟩:=c_ e;obtain⟨p,vs,rfl,h1,n1,q1⟩:=r1;obtain⟨p',vs',rfl,h2,n2,q2⟩:=r2;exact vQ pins s σ H _ _ v u Q I rx ry ⟨p,p',vs,vs',rfl,rfl,h1,h2,by rw[q1.length,q2.length];exact hl,λl wM=>q _ _ (az.new wM) (Rp.hE hd wM (q1.append q2)) λf=>tG wM f (q1.append q2)⟩
 ·obtain⟨i,j,rfl,rfl,e⟩:=hZ e;cases e;cases r1;cases r2;exact mG pins s σ H _ _ v u Q I rx ry ⟨i,j,rfl,rfl,q _ _ (az.refl _) rfl λ_=>rfl⟩
theorem ym:Lj X (E8 X xM):=by
 intro pins s σ H x v vl vu lo hi sl Q I rx hs pl pu h;obtain⟨W,d1,d,hd,r1,e,q⟩:=h;cases d1 with
 |lst ds =>
  cases e;obtain⟨p,vs,rfl,h1,n1,q1⟩:=r1;have rr:gO X W H (cutD ds lo hi) (pj vs lo hi):=by
   unfold pj cutD;rw[q1.length];exact(ah.drop _ q1).take _
  exact qQ pins s σ H _ v vl vu lo hi sl Q I rx hs pl pu ⟨p,vs,rfl,c6.of h1,λl hl=>q _ _ (az.new hl) (Rp.hE hd hl rr) λf=>tG hl f rr⟩
 |_=>cases e
theorem cY:xG X (.type "list") dList:=by
 intro pins s σ H xs us Q I r h;obtain⟨W,ds,d,hd,r1,e,q⟩:=h
 match ds,e with
 |[.lst es],e =>
  cases e;obtain⟨v,r',rfl,⟨p,vs,rfl,h1,n1,q1⟩,hr⟩:=r1;cases hr;exact gL pins s σ H _ us Q I r ⟨p,vs,rfl,.inl (c6.of h1),λl hl=>q _ _ (az.new hl) (Rp.hE hd hl q1) λf=>tG hl f q1⟩
 |[.tup es],e =>
  cases e;obtain⟨v,r',rfl,⟨p,vs,rfl,h1,q1⟩,hr⟩:=r1;cases hr;exact gL pins s σ H _ us Q I r ⟨p,vs,rfl,.inr (pL.of h1),λl hl=>q _ _ (az.new hl) (Rp.hE hd hl q1) λf=>tG hl f q1⟩
end
section
end
end L2
namespace L2.Q
open PySem PySem.Spec PySem.SeqAt PyProof.Rows
section
variable (P:Qd)(w:Qq)(H:Hp)
mutual
def Own:D->V->List Addr->Prop
 |.tup ds,v,A=>∃a vs,v=.ref a/\H a=some (.tup vs)/\aK ds vs A
 |.lst ds,v,A=>∃a vs A',v=.ref a/\H a=some (.lst vs)/\A=a::A'/\aK ds vs A'
 |.dT ks ds,v,A=>∃a vs A',v=.ref a/\H a=some (.dT (ks.zip vs))/\ks.length=vs.length/\A=a::A'/\aK ds vs A'
 |.dK ks ds,v,A=>∃a vs A',v=.ref a/\H a=some (.dK (ks.zip vs))/\ks.length=vs.length/\A=a::A'/\aK ds vs A'
 |.sT ts,v,A=>∃a,v=.ref a/\z_ P w H a ts/\A=[a]
 |.ob φ,v,A=>∃a,v=.ref a/\(H a=some (φ a)/\∀xs,φ a≠.tup xs)/\A=[a]
 |.d7,v,A=>v=.d7/\A=[]
 |.bl b,v,A=>v=.bl b/\A=[]
 |.int i,v,A=>v=.int i/\A=[]
 |.str x,v,A=>v=.str x/\A=[]
 |.obj a,v,A=>v=.ref a/\A=[]
def aK:List D->List V->List Addr->Prop
 |[],vs,A=>vs=[]/\A=[]
 |d::ds,vs,A=>∃v r A1 A2,vs=v::r/\A=A1++A2/\Own d v A1/\aK ds r A2
end
end
section
variable {P:Qd}{w:Qq}{W:Addr->Prop}{H H':Hp}
theorem sO {a:Addr}{ts:List (List Int)}(k:∀b xs,H b=some (.tup xs)->H' b=some (.tup xs))(ha:∀o,H a=some o->H' a=some o)(h:z_ P w H a ts):z_ P w H' a ts :=
 let ⟨xH,e,r,z⟩:=h;⟨xH,ha _ e,λx hx=>k _ _ (r x hx),z⟩
mutual
theorem Own.keep (k:∀b xs,H b=some (.tup xs)->H' b=some (.tup xs)):∀{d:D} {v:V} {A:List Addr},(∀c∈A,∀o,H c=some o->H' c=some o)->Own P w H d v A->Own P w H' d v A
 |.tup ds,_,_,ha,⟨a,vs,e,t,r⟩=>⟨a,vs,e,k a vs t,aK.keep k ha r⟩
 |.lst ds,_,_,ha,⟨a,vs,A',e,t,eA,r⟩=>⟨a,vs,A',e,ha a (by rw[eA];simp) _ t,eA,aK.keep k (λc hc=>ha c (by rw[eA];simp[hc])) r⟩
 |.dT ks ds,_,_,ha,⟨a,vs,A',e,t,l,eA,r⟩=>⟨a,vs,A',e,ha a (by rw[eA];simp) _ t,l,eA,aK.keep k (λc hc=>ha c (by rw[eA];simp[hc])) r⟩
 |.dK ks ds,_,_,ha,⟨a,vs,A',e,t,l,eA,r⟩=>⟨a,vs,A',e,ha a (by rw[eA];simp) _ t,l,eA,aK.keep k (λc hc=>ha c (by rw[eA];simp[hc])) r⟩
 |.sT ts,_,_,ha,⟨a,e,r,eA⟩=>⟨a,e,sO k (λo ho=>ha a (by rw[eA];simp) o ho) r,eA⟩
 |.ob φ,_,_,ha,⟨a,e,r,eA⟩=>⟨a,e,⟨ha a (by rw[eA];simp) _ r.1,r.2⟩,eA⟩
 |.d7,_,_,_,h=>h
 |.bl _,_,_,_,h=>h
 |.int _,_,_,_,h=>h
 |.str _,_,_,_,h=>h
 |.obj _,_,_,_,h=>h
theorem aK.keep (k:∀b xs,H b=some (.tup xs)->H' b=some (.tup xs)):∀{ds:List D} {vs:List V} {A:List Addr},(∀c∈A,∀o,H c=some o->H' c=some o)->aK P w H ds vs A->aK P w H' ds vs A
 |[],_,_,_,h=>h
 |d::ds,_,_,ha,⟨v,r,A1,A2,e,eA,h1,h2⟩=>⟨v,r,A1,A2,e,eA,Own.keep k (λc hc=>ha c (by rw[eA];simp[hc])) h1,aK.keep k (λc hc=>ha c (by rw[eA];simp[hc])) h2⟩
end
mutual
theorem Own.rep:∀{d:D} {v:V} {A:List Addr},(∀c∈A,¬ W c)->Own P w H d v A->aA P w W H d v
 |.tup ds,_,_,ha,⟨a,vs,e,t,r⟩=>⟨a,vs,e,t,aK.rep ha r⟩
 |.lst ds,_,_,ha,⟨a,vs,A',e,t,eA,r⟩=>⟨a,vs,e,t,ha a (by rw[eA];simp),aK.rep (λc hc=>ha c (by rw[eA];simp[hc])) r⟩
 |.dT ks ds,_,_,ha,⟨a,vs,A',e,t,l,eA,r⟩=>⟨a,vs,e,t,l,ha a (by rw[eA];simp),aK.rep (λc hc=>ha c (by rw[eA];simp[hc])) r⟩
 |.dK ks ds,_,_,ha,⟨a,vs,A',e,t,l,eA,r⟩=>⟨a,vs,e,t,l,ha a (by rw[eA];simp),aK.rep (λc hc=>ha c (by rw[eA];simp[hc])) r⟩
 |.sT ts,_,_,ha,⟨a,e,r,eA⟩=>⟨a,e,r,ha a (by rw[eA];simp)⟩
 |.ob φ,_,_,ha,⟨a,e,r,eA⟩=>⟨a,e,r,ha a (by rw[eA];simp)⟩
 |.d7,_,_,_,h=>h.1
 |.bl _,_,_,_,h=>h.1
 |.int _,_,_,_,h=>h.1
 |.str _,_,_,_,h=>h.1
 |.obj _,_,_,_,h=>h.1
theorem aK.rep:∀{ds:List D} {vs:List V} {A:List Addr},(∀c∈A,¬ W c)->aK P w H ds vs A->ah P w W H ds vs
 |[],_,_,_,h=>h.1
 |d::ds,_,_,ha,⟨v,r,A1,A2,e,eA,h1,h2⟩=>⟨v,r,e,Own.rep (λc hc=>ha c (by rw[eA];simp[hc])) h1,aK.rep (λc hc=>ha c (by rw[eA];simp[hc])) h2⟩
end
mutual
theorem Own.ki:∀{d:D} {v:V} {A:List Addr},Own P w H d v A->∀c∈A,H c≠none/\∀xs,H c≠some (.tup xs)
 |.tup ds,_,_,⟨a,vs,e,t,r⟩,c,hc=>aK.ki r c hc
 |.lst ds,_,_,⟨a,vs,A',e,t,eA,r⟩,c,hc=>by
  rw[eA]at hc;rcases Qc.mp hc with rfl|hc
  ·rw[t];exact⟨λz=>(nomatch z),λxs z=>by cases z⟩
  ·exact aK.ki r c hc
 |.dT ks ds,_,_,⟨a,vs,A',e,t,l,eA,r⟩,c,hc=>by
  rw[eA]at hc;rcases Qc.mp hc with rfl|hc
  ·rw[t];exact⟨λz=>(nomatch z),λxs z=>by cases z⟩
  ·exact aK.ki r c hc
 |.dK ks ds,_,_,⟨a,vs,A',e,t,l,eA,r⟩,c,hc=>by
  rw[eA]at hc;rcases Qc.mp hc with rfl|hc
  ·rw[t];exact⟨λz=>(nomatch z),λxs z=>by cases z⟩
  ·exact aK.ki r c hc
 |.sT ts,_,_,⟨a,e,⟨xH,t,r,z⟩,eA⟩,c,hc=>by
  rw[eA]at hc;rw[Qj.mp hc,t];exact⟨λz=>(nomatch z),λxs z=>by cases z⟩
 |.ob φ,_,_,⟨a,e,⟨t,z⟩,eA⟩,c,hc=>by
  rw[eA]at hc;rw[Qj.mp hc,t];exact⟨λz=>(nomatch z),λxs q=>z xs (Q3 q)⟩
 |.d7,_,_,h,c,hc=>by rw[h.2]at hc;cases hc
 |.bl _,_,_,h,c,hc=>by rw[h.2]at hc;cases hc
 |.int _,_,_,h,c,hc=>by rw[h.2]at hc;cases hc
 |.str _,_,_,h,c,hc=>by rw[h.2]at hc;cases hc
 |.obj _,_,_,h,c,hc=>by rw[h.2]at hc;cases hc
theorem aK.ki:∀{ds:List D} {vs:List V} {A:List Addr},aK P w H ds vs A->∀c∈A,H c≠none/\∀xs,H c≠some (.tup xs)
 |[],_,_,h,c,hc=>by rw[h.2]at hc;cases hc
 |d::ds,_,_,⟨v,r,A1,A2,e,eA,h1,h2⟩,c,hc=>by
  rw[eA]at hc;rcases Qr.mp hc with hc|hc
  ·exact Own.ki h1 c hc
  ·exact aK.ki h2 c hc
end
mutual
theorem cX:∀{d:D} {v:V},d.flat=true->aA P w W H d v->Own P w H d v []
 |.tup ds,_,f,⟨a,vs,e,t,r⟩=>⟨a,vs,e,t,gY (by simpa[D.flat] using f) r⟩
 |.lst ds,_,f,_=>by simp[D.flat]at f
 |.dT ks ds,_,f,_=>by simp[D.flat]at f
 |.dK ks ds,_,f,_=>by simp[D.flat]at f
 |.sT ts,_,f,_=>by simp[D.flat]at f
 |.ob φ,_,f,_=>by simp[D.flat]at f
 |.d7,_,_,h=>⟨h,rfl⟩
 |.bl _,_,_,h=>⟨h,rfl⟩
 |.int _,_,_,h=>⟨h,rfl⟩
 |.str _,_,_,h=>⟨h,rfl⟩
 |.obj _,_,_,h=>⟨h,rfl⟩
theorem gY:∀{ds:List D} {vs:List V},D.cC ds=true->ah P w W H ds vs->aK P w H ds vs []
 |[],_,_,h=>⟨h,rfl⟩
 |d::ds,_,f,⟨v,r,e,h1,h2⟩=>by
  have f':(d.flat&&D.cC ds)=true:=f;rw[QU]at f';exact⟨v,r,[],[],e,rfl,cX f'.1 h1,gY f'.2 h2⟩
end
theorem aK.length:∀{ds:List D} {vs:List V} {A:List Addr},aK P w H ds vs A->vs.length=ds.length
 |[],_,_,h=>by rw[h.1];rfl
 |d::ds,_,_,⟨v,r,A1,A2,e,eA,h1,h2⟩=>by rw[e,Qx,Qx,aK.length h2]
theorem aK.append:∀{ds Hf:List D} {vs vs':List V} {A A':List Addr},aK P w H ds vs A->aK P w H Hf vs' A'->aK P w H (ds++Hf) (vs++vs') (A++A')
 |[],_,_,_,_,_,h,h'=>by rw[h.1,h.2];exact h'
 |d::ds,_,_,_,_,_,⟨v,r,A1,A2,e,eA,h1,h2⟩,h'=>by
  subst e eA;exact⟨v,_,A1,_,rfl,by rw[Ru],h1,aK.append h2 h'⟩
theorem aK.one {d:D}{v:V}{A:List Addr}(h:Own P w H d v A):aK P w H [d] [v] A:=⟨v,[],A,[],rfl,by simp,h,rfl,rfl⟩
theorem aK.split:∀{ds:List D} {vs:List V} {A:List Addr} {i:Nat} {d:D},aK P w H ds vs A->ds[i]?=some d->∃v A1 A2 A3,vs[i]?=some v/\A=A1++(A2++A3)/\aK P w H (ds.take i) (vs.take i) A1/\Own P w H d v A2/\aK P w H (ds.drop (i+1)) (vs.drop (i+1)) A3
 |[],_,_,_,_,_,e=>by simp at e
 |d::ds,_,_,0,_,⟨v,r,A1,A2,e,eA,h1,h2⟩,e'=>by
  simp at e';subst e' e eA;exact⟨v,[],A1,A2,by simp,by simp,⟨rfl,rfl⟩,h1,by simpa using h2⟩
 |d::ds,_,_,i+1,_,⟨v,r,A1,A2,e,eA,h1,h2⟩,e'=>by
  subst e eA;obtain⟨u,B1,B2,B3,g1,g2,g3,g4,g5⟩:=aK.split (i:=i) h2 (by simpa using e')
  exact⟨u,A1++B1,B2,B3,by simpa using g1,by rw[g2];simp[Ru],by simpa using ⟨v,_,A1,B1,rfl,rfl,h1,g3⟩,g4,by simpa using g5⟩
end
inductive Kd where
 |own|de|old|bor
inductive B where
 |val (y:Bool) (d:D)|own (d:D)|hand (ok:List Int->Prop)|shl (y:Bool) (d:D)
abbrev ba:=List (Option B)
structure Cfg where
 H0:Hp
 IO:Addr->Prop
 ro:Bool
 U:Addr->Prop:=λ_=>False
abbrev Wn (own:Nat->List Addr):Addr->Prop:=λa=>∃i,a∈own i
def av (C:Cfg)(W:Addr->Prop):Kd->Addr->Prop
 |.own,a=>W a\/C.H0 a≠none
 |.de,a=>W a\/C.H0 a≠none
 |.old,a=>W a
 |.bor,_=>False
def eg (C:Cfg)(W:Addr->Prop)(k:Kd)(a:Addr):Prop:=av C W k a\/C.U a
abbrev yk (y:Bool):Kd:=match y with|true=>.de|false=>.old
def Ed:D->HO->List V->Prop
 |.lst _,o,vs=>o=.lst vs
 |.dT ks _,o,vs=>o=.dT (ks.zip vs)/\ks.length=vs.length
 |.dK ks _,o,vs=>o=.dK (ks.zip vs)/\ks.length=vs.length
 |_,_,_=>False
def EY:D->List D
 |.lst ds=>ds
 |.dT _ ds=>ds
 |.dK _ ds=>ds
 |_=>[]
def DT (P:Qd)(w:Qq)(W:Addr->Prop)(H:Hp)(d:D)(v:V)(A:List Addr):Prop:=∃a o vs,v=.ref a/\A=[a]/\H a=some o/\Ed d o vs/\ah P w W H (EY d) vs
theorem DT.map {P:Qd}{w:Qq}{W W':Addr->Prop}{H H':Hp}{d:D}{v:V}{A:List Addr}(h:DT P w W H d v A)(ha:∀c∈A,∀o,H c=some o->H' c=some o)(hr:∀ds vs,ah P w W H ds vs->ah P w W' H' ds vs):DT P w W' H' d v A :=
 let ⟨a,o,vs,e1,e2,e3,e4,r⟩:=h;⟨a,o,vs,e1,e2,ha a (by rw[e2];simp) o e3,e4,hr _ _ r⟩
theorem DT.rep {P:Qd}{w:Qq}{W W':Addr->Prop}{H:Hp}{d:D}{v:V}{A:List Addr}(h:DT P w W H d v A)(ha:∀c∈A,¬ W' c)(hs:∀ds vs,ah P w W H ds vs->ah P w W' H ds vs):aA P w W' H d v:=by
 obtain⟨a,o,vs,rfl,rfl,e,sh,r⟩:=h;have na:=ha a (by simp)
 replace r:=hs _ _ r;cases d with
 |lst ds=>cases sh;exact⟨a,vs,rfl,e,na,r⟩
 |dT ks ds=>obtain⟨rfl,l⟩:=sh;exact⟨a,vs,rfl,e,l,na,r⟩
 |dK ks ds=>obtain⟨rfl,l⟩:=sh;exact⟨a,vs,rfl,e,l,na,r⟩
 |_=>exact sh.elim
structure bD (P:Qd)(w:Qq)(C:Cfg)(σ:St)(H:Hp)(β:ba)(own:Nat->List Addr):Prop where
 len:β.length=σ.length
 val:∀(i:Nat) (y:Bool) (d:D),β[i]?=some (some (.val y d))->∃v,σ[i]?=some (some v)/\aA P w (eg C (Wn own) (yk y)) H d v
 ow:∀(i:Nat) (d:D),β[i]?=some (some (.own d))->∃v,σ[i]?=some (some v)/\Own P w H d v (own i)/\∀c∈own i,C.H0 c=none
 lE:∀(i:Nat) (ok:List Int->Prop),β[i]?=some (some (.hand ok))->∃a ns,σ[i]?=some (some (.ref a))/\H a=some (.lst (ns.map V.int))/\ok ns/\own i=[a]/\((∀b,¬ C.IO b)\/C.IO a)
 dm:∀(i:Nat) (a:Addr),a∈own i->H a≠none/\(∀xs,H a≠some (.tup xs))/\(C.H0 a=none\/C.IO a)/\¬ C.U a
 ic:∀(i j:Nat) (a:Addr),a∈own i->a∈own j->i=j
 i8:∀i,(own i).Nodup
 kp:Kp C.IO C.H0 H
 ft:∀a,C.H0 a≠none->H a≠none
 shl:∀(i:Nat) (y:Bool) (d:D),β[i]?=some (some (.shl y d))->∃v,σ[i]?=some (some v)/\DT P w (eg C (Wn own) (yk y)) H d v (own i)/\∀c∈own i,C.H0 c=none
abbrev SQ (X:Cx):=bD X.prog X.w
section
variable {P:Qd}{w:Qq}{C:Cfg}{σ:St}{H H':Hp}{β:ba}{own:Nat->List Addr}{W W':Addr->Prop}
theorem bD.rW (b:bD P w C σ H β own):Dm (Wn own) H:=λa ⟨i,h⟩=>(b.dm i a h).1
theorem bD.Ew (b:bD P w C σ H β own)(k:Kd):Dm (av C (Wn own) k) H:=λa h=>by
 cases k with
 |own=>exact h.elim (b.rW a) (b.ft a)
 |de=>exact h.elim (b.rW a) (b.ft a)
 |old=>exact b.rW a h
 |bor=>exact h.elim
theorem gM (s:∀a,W' a->W a)(k:Kd):∀a,av C W' k a->av C W k a:=λa h=>by
 cases k with
 |own=>exact h.imp (s a) id
 |de=>exact h.imp (s a) id
 |old=>exact s a h
 |bor=>exact h
theorem d_ (s:∀a,W' a->W a)(k:Kd):∀a,eg C W' k a->eg C W k a:=λa h=>h.imp (gM s k a) id
theorem bD.keep (b:bD P w C σ H β own)(k:Kp (λa=>H a=none) H H')(kp:Kp C.IO H H')(dn:∀a,H a≠none->H' a≠none):bD P w C σ H' β own:=by
 have ko:∀c o,H c=some o->H' c=some o:=λc o e=>k.out c o e (by rw[e];exact λz=>(nomatch z))
 have same:az H H':=ko;exact⟨b.len,λi y d e=>let ⟨v,h1,h2⟩:=b.val i y d e;⟨v,h1,h2.same same⟩,λi d e=>let ⟨v,h1,h2,h3⟩:=b.ow i d e;⟨v,h1,h2.keep (λ_ _ e=>same _ _ e) (λc _ o e=>same c o e),h3⟩,
  λi ok e=>let ⟨a,ns,h1,h2,h3⟩:=b.lE i ok e;⟨a,ns,h1,same _ _ h2,h3⟩,λi a h=>by
   obtain⟨h1,h2,h3⟩:=b.dm i a h;cases q:H a with
   |none=>exact absurd q h1
   |some o=>rw[same a o q];exact⟨λz=>(nomatch z),λxs z=>h2 xs (by rw[q];exact z),h3⟩,b.ic,b.i8,b.kp.trans kp,λa z=>dn a (b.ft a z),λi y d e=>let ⟨v,h1,h2,h3⟩:=b.shl i y d e;⟨v,h1,h2.map (λc _ o e=>same c o e) (λ_ _ r=>r.same same),h3⟩⟩
theorem bD.same (b:bD P w C σ H β own)(s:az H H'):bD P w C σ H' β own:=b.keep s.kp s.kp λa z e=>z (s.free e)
theorem dJ {own:Nat->List Addr}{i:Nat}{a:Addr}(h:Wn (aG own i []) a):Wn own a:=let ⟨j,q⟩:=h;⟨j,(bH q).1⟩
theorem a5 {own:Nat->List Addr}{i j:Nat}{A:List Addr}(h:i≠j):aG own i A j=own j:=by unfold aG;rw[if_neg (Rr h)]
theorem os_eq {own:Nat->List Addr}{i:Nat}{A:List Addr}:aG own i A i=A:=by unfold aG;rw[if_pos rfl]
theorem bD.eC {i:Nat}{d:D}{v:V}{y:Bool}(b:bD P w C σ H β own)(r:aA P w (eg C (Wn own) (yk y)) H d v):bD P w C (σ.set i (some v)) H (β.set i (some (.val y d))) (aG own i []):=by
 have sub:∀y a,eg C (Wn (aG own i [])) (yk y) a->eg C (Wn own) (yk y) a:=λy=>d_ (λa h=>dJ h) _;refine⟨by simp[b.len],λj y' d' e=>?_,λj d' e=>?_,λj ok e=>?_,λj a h=>b.dm j a (bH h).1,λj k a h1 h2=>b.ic j k a (bH h1).1 (bH h2).1,λj=>?_,b.kp,b.ft,λj y' d' e=>?_⟩
 ·by_cases aD:i=j
  ·subst aD;obtain⟨e',hl⟩:=aQ e;cases e';exact⟨v,get_set (by rw[<- b.len];exact hl),r.aX (sub _)⟩
  ·rw[aO aD]at e ⊢
   obtain⟨u,h1,h2⟩:=b.val j y' d' e;exact⟨u,h1,h2.aX (sub _)⟩
 ·by_cases aD:i=j
  ·subst aD;obtain⟨e',hl⟩:=aQ e;cases e'
  ·rw[aO aD]at e ⊢
   rw[a5 aD];exact b.ow j d' e
 ·by_cases aD:i=j
  ·subst aD;obtain⟨e',hl⟩:=aQ e;cases e'
  ·rw[aO aD]at e ⊢
   rw[a5 aD];exact b.lE j ok e
 ·by_cases aD:i=j
  ·rw[aD,os_eq];exact Q5
  ·rw[a5 aD];exact b.i8 j
 ·by_cases aD:i=j
  ·subst aD;obtain⟨e',hl⟩:=aQ e;cases e'
  ·rw[aO aD]at e ⊢
   rw[a5 aD];obtain⟨u,h1,h2,h3⟩:=b.shl j y' d' e;exact⟨u,h1,h2.map (λ_ _ _ z=>z) (λ_ _ r=>ah.aX (sub _) r),h3⟩
theorem bD.pY {i:Nat}{d:D}{v:V}{A:List Addr}(b:bD P w C σ H β own)(r:Own P w H d v A)(nd:A.Nodup)(nw:∀c∈A,C.H0 c=none/\¬ Wn own c/\C.U c):
  bD P w {C with U:=λ_=>False} (σ.set i (some v)) H (β.set i (some (.own d))) (aG own i A):=by
 have sub:∀y a,eg {C with U:=λ_=>False} (Wn (aG own i A)) (yk y) a->eg C (Wn own) (yk y) a:=λy a h=>by
  have q:∀a,Wn (aG own i A) a->Wn own a\/a∈A:=λa zu=>by
   obtain⟨j,q⟩:=zu
   by_cases aD:i=j
   ·rw[aD,os_eq]at q;exact .inr q
   ·rw[a5 aD]at q;exact .inl ⟨j,q⟩
  have q':∀a,Wn (aG own i A) a->Wn own a\/C.U a:=λa z=>(q a z).imp id λz=>(nw a z).2.2;rcases h with h|h
  ·cases y with
   |true=>exact h.elim (λz=>(q' a z).imp .inl id) λz=>.inl (.inr z)
   |false=>exact q' a h
  ·exact h.elim
 have mem:∀{j c},c∈aG own i A j->(i=j/\c∈A)\/(i≠j/\c∈own j):=λ{j c} h=>by
  by_cases aD:i=j
  ·subst aD;rw[os_eq]at h;exact .inl ⟨rfl,h⟩
  ·rw[a5 aD]at h;exact .inr ⟨aD,h⟩
 refine⟨by simp[b.len],λj y' d' e=>?_,λj d' e=>?_,λj ok e=>?_,λj a h=>?_,λj k a h1 h2=>?_,λj=>?_,b.kp,b.ft,λj y' d' e=>?_⟩
 ·by_cases aD:i=j
  ·subst aD;obtain⟨e',hl⟩:=aQ e;cases e'
  ·rw[aO aD]at e ⊢
   obtain⟨u,h1,h2⟩:=b.val j y' d' e;exact⟨u,h1,h2.aX (sub _)⟩
 ·by_cases aD:i=j
  ·subst aD;obtain⟨e',hl⟩:=aQ e;cases e';rw[os_eq];exact⟨v,get_set (by rw[<- b.len];exact hl),r,λc hc=>(nw c hc).1⟩
  ·rw[aO aD]at e ⊢
   rw[a5 aD];exact b.ow j d' e
 ·by_cases aD:i=j
  ·subst aD;obtain⟨e',hl⟩:=aQ e;cases e'
  ·rw[aO aD]at e ⊢
   rw[a5 aD];exact b.lE j ok e
 ·rcases mem h with⟨_,h⟩|⟨_,h⟩
  ·exact⟨(r.ki a h).1,(r.ki a h).2,.inl (nw a h).1,λz=>z⟩
  ·exact⟨(b.dm j a h).1,(b.dm j a h).2.1,(b.dm j a h).2.2.1,λz=>z⟩
 ·rcases mem h1 with⟨e1,h1⟩|⟨n1,h1⟩
  ·rcases mem h2 with⟨e2,h2⟩|⟨n2,h2⟩
   ·rw[<- e1,<- e2]
   ·exact absurd ⟨k,h2⟩ (nw a h1).2.1
  ·rcases mem h2 with⟨e2,h2⟩|⟨n2,h2⟩
   ·exact absurd ⟨j,h1⟩ (nw a h2).2.1
   ·exact b.ic j k a h1 h2
 ·by_cases aD:i=j
  ·rw[<- aD,os_eq];exact nd
  ·rw[a5 aD];exact b.i8 j
 ·by_cases aD:i=j
  ·subst aD;obtain⟨e',hl⟩:=aQ e;cases e'
  ·rw[aO aD]at e ⊢
   rw[a5 aD];obtain⟨u,h1,h2,h3⟩:=b.shl j y' d' e;exact⟨u,h1,h2.map (λ_ _ _ z=>z) (λ_ _ r=>ah.aX (sub _) r),h3⟩
theorem bD.freeze {i:Nat}{d:D}(b:bD P w C σ H β own)(h:β[i]?=some (some (.own d))):bD P w C σ H (β.set i (some (.val true d))) (aG own i []):=by
 obtain⟨v,h1,h2,h3⟩:=b.ow i d h;have e:σ.set i (some v)=σ:=by
  apply Ry;intro j;rw[R5]
  by_cases aD:i=j
  ·subst aD;rw[if_pos rfl,h1];have:i<σ.length:=(Qg.mp h1).1;rw[if_pos this]
  ·rw[if_neg aD]
 have q:=bD.eC (i:=i) (d:=d) (v:=v) (y:=true) (own:=aG own i []) (C:=C) (P:=P) (w:=w) (σ:=σ) (H:=H) (β:=β.set i none);have b':bD P w C σ H (β.set i none) (aG own i []):=by
  have sub:∀y a,eg C (Wn (aG own i [])) (yk y) a->eg C (Wn own) (yk y) a:=λy=>d_ (λa h=>dJ h) _;refine⟨by simp[b.len],λj y' d' e=>?_,λj d' e=>?_,λj ok e=>?_,λj a h=>b.dm j a (bH h).1,λj k a h1 h2=>b.ic j k a (bH h1).1 (bH h2).1,λj=>?_,b.kp,b.ft,λj y' d' e=>?_⟩
  ·by_cases aD:i=j
   ·subst aD;obtain⟨e',hl⟩:=aQ e;cases e'
   ·rw[aO aD]at e;obtain⟨u,h1,h2⟩:=b.val j y' d' e;exact⟨u,h1,h2.aX (sub _)⟩
  ·by_cases aD:i=j
   ·subst aD;obtain⟨e',hl⟩:=aQ e;cases e'
   ·rw[aO aD]at e;rw[a5 aD];exact b.ow j d' e
  ·by_cases aD:i=j
   ·subst aD;obtain⟨e',hl⟩:=aQ e;cases e'
   ·rw[aO aD]at e;rw[a5 aD];exact b.lE j ok e
  ·by_cases aD:i=j
   ·rw[aD,os_eq];exact Q5
   ·rw[a5 aD];exact b.i8 j
  ·by_cases aD:i=j
   ·subst aD;obtain⟨e',hl⟩:=aQ e;cases e'
   ·rw[aO aD]at e;rw[a5 aD];obtain⟨u,h1,h2,h3⟩:=b.shl j y' d' e;exact⟨u,h1,h2.map (λ_ _ _ z=>z) (λ_ _ r=>ah.aX (sub _) r),h3⟩
 have q:=bD.eC (i:=i) (d:=d) (v:=v) (y:=true) b' (h2.rep λc hc z=>by
  rcases z with (z|z)|z
  ·obtain⟨j,hj⟩:=z;obtain⟨hj,ne⟩:=bH hj;exact ne (b.ic j i c hj hc)
  ·exact z (h3 c hc)
  ·exact(b.dm i c hc).2.2.2 z)
 rw[e,Tf]at q;have eo:aG (aG own i []) i []=aG own i []:=by
  funext j
  by_cases aD:i=j
  ·rw[<- aD,os_eq,os_eq]
  ·rw[a5 aD,a5 aD]
 rwa [eo]at q
abbrev Cfg.u (C:Cfg)(U:Addr->Prop):Cfg:={C with U:=U}
theorem bD.gc {U:Addr->Prop}(b:bD P w C σ H β own)(hU:∀a,U a->H a=none):bD P w (C.u U) σ H β own :=
 ⟨b.len,λi y d e=>let ⟨v,h1,h2⟩:=b.val i y d e;⟨v,h1,aA.grow (λa z=>z.elim (λz=>.inl (.inl z)) λz=>.inr (hU a z)) h2⟩,b.ow,b.lE,λi a h=>let ⟨h1,h2,h3,_⟩:=b.dm i a h;⟨h1,h2,h3,λz=>h1 (hU a z)⟩,b.ic,b.i8,b.kp,b.ft,λi y d e=>let ⟨v,h1,h2,h3⟩:=b.shl i y d e;⟨v,h1,h2.map (λ_ _ _ z=>z) (λ_ _ r=>ah.grow (λa z=>z.elim (λz=>.inl (.inl z)) λz=>.inr (hU a z)) r),h3⟩⟩
theorem bD.Nu {U:Addr->Prop}(b:bD P w (C.u U) σ H β own):bD P w (C.u λ_=>False) σ H β own :=
 ⟨b.len,λi y d e=>let ⟨v,h1,h2⟩:=b.val i y d e;⟨v,h1,aA.aX (λa z=>z.elim .inl λz=>z.elim) h2⟩,b.ow,b.lE,λi a h=>let ⟨h1,h2,h3,_⟩:=b.dm i a h;⟨h1,h2,h3,λz=>z⟩,b.ic,b.i8,b.kp,b.ft,λi y d e=>let ⟨v,h1,h2,h3⟩:=b.shl i y d e;⟨v,h1,h2.map (λ_ _ _ z=>z) (λ_ _ r=>ah.aX (λa z=>z.elim .inl λz=>z.elim) r),h3⟩⟩
theorem bD.dz {i:Nat}{y:Bool}{d:D}(b:bD P w C σ H β own)(e:β[i]?=some (some (.val y d))):∃v,σ[i]?=some (some v)/\aA P w (av C (Wn own) (yk y)) H d v:=let ⟨v,h1,h2⟩:=b.val i y d e;⟨v,h1,aA.aX (λa z=>.inl z) h2⟩
end
def KV (P:Qd)(w:Qq)(C:Cfg)(Z:Hp×(Addr->Prop))(own:Nat->List Addr)(H:Hp):Kd->D->V->Prop
 |.own,d,v=>∃A,Own P w H d v A/\A.Nodup/\∀c∈A,Z.1 c=none/\¬ Wn own c/\C.H0 c=none
 |.de,d,v=>aA P w (av C (Wn own) .de) H d v
 |.old,d,v=>aA P w (av C (Wn own) .old) H d v
 |.bor,d,v=>aA P w (av C (Wn own) .bor) H d v
structure Lm (P:Qd)(w:Qq)(C:Cfg)(σ:St)(H:Hp)(own:Nat->List Addr)(p:Bool)(β':ba)(H':Hp)(aN:Nat->List Addr):Prop where
 sq:bD P w C σ H' β' aN
 sn:Sn (H,Wn own) H' (Wn aN)
 pu:p=true->az H H'/\aN=own
 le:∀a,Wn aN a->Wn own a
abbrev Out (X:Cx):=Lm X.prog X.w
section
variable {X:Cx}{C:Cfg}{σ:St}{H H1 H2 H':Hp}{own aE bp:Nat->List Addr}{p p':Bool}{β β1 β2 β':ba}{Z:Hp×(Addr->Prop)}{d:D}{v:V}{k:Kd}{P:Qd}{w:Qq}
theorem Out.refl (s:SQ X C σ H β own)(p:Bool):Out X C σ H own p β H own:=⟨s,Sn.refl,λ_=>⟨az.refl _,rfl⟩,λ_ z=>z⟩
theorem Out.trans (a:Out X C σ H own p β1 H1 aE)(b:Out X C σ H1 aE p' β2 H2 bp):Out X C σ H own (p&&p') β2 H2 bp:=⟨b.sq,a.sn.trans b.sn,λh=>by
 rw[QU]at h;obtain⟨s1,e1⟩:=a.pu h.1;obtain⟨s2,e2⟩:=b.pu h.2;exact⟨s1.trans s2,e2.trans e1⟩,λc z=>a.le c (b.le c z)⟩
theorem Out.same (a:Out X C σ H own p β1 H1 aE)(s:az H1 H2):Out X C σ H own p β1 H2 aE:=⟨a.sq.same s,a.sn.same s,λh=>let ⟨s1,e1⟩:=a.pu h;⟨s1.trans s,e1⟩,a.le⟩
theorem Out.wk (a:Out X C σ H own p β1 H1 aE)(h:p'=true->p=true):Out X C σ H own p' β1 H1 aE:=⟨a.sq,a.sn,λz=>a.pu (h z),a.le⟩
theorem KV.rep (h:KV P w C Z own H k d v):aA P w (av C (Wn own) k) H d v:=by
 cases k with
 |own=>obtain⟨A,h1,h2,h3⟩:=h;exact h1.rep λc hc z=>z.elim (h3 c hc).2.1 λz=>z (h3 c hc).2.2
 |_=>exact h
theorem KV.de (h:KV P w C Z own H .own d v):KV P w C Z own H .de d v:=KV.rep (k:=.own) h
theorem KV.flat {W:Addr->Prop}(f:d.flat=true)(h:aA P w W H d v):KV P w C Z own H .own d v:=⟨[],cX f h,Q5,λc hc=>(nomatch hc)⟩
noncomputable abbrev Kd.wk:Kd->Kd
 |.own=>.de
 |.de=>.de
 |.old=>.old
 |.bor=>.bor
abbrev Kd.max:Kd->Kd->Kd
 |.bor,_=>.bor
 |_,.bor=>.bor
 |.old,_=>.old
 |_,.old=>.old
 |_,_=>.de
theorem fB {W:Addr->Prop}{a b:Kd}:∀c,av C W (a.max b) c->av C W a c:=λc h=>by
 cases a <;> cases b <;> first|exact h|exact h.elim|exact .inl h
theorem mZ {W:Addr->Prop}{a b:Kd}:∀c,av C W (a.max b) c->av C W b c:=λc h=>by
 cases a <;> cases b <;> first|exact h|exact h.elim|exact .inl h
theorem KV.of (h:aA P w (av C (Wn own) k.wk) H d v):KV P w C Z own H k.wk d v:=by
 cases k <;> exact h
theorem KV.E1 (h:KV P w C Z own H k d v)(s:az H H'):KV P w C Z own H' k d v:=by
 cases k with
 |own=>obtain⟨A,h1,h2⟩:=h;exact⟨A,h1.keep (λb xs e=>s _ _ e) (λc _ o e=>s c o e),h2⟩
 |de=>exact aA.same s h
 |old=>exact aA.same s h
 |bor=>exact aA.same s h
theorem KV.held (hk:k≠.bor)(h:KV P w C Z own H k d v)(n:Sn (H,Wn own) H2 (Wn bp)):KV P w C Z bp H2 k d v:=by
 cases k with
 |own =>
  obtain⟨A,h1,h2,h3⟩:=h;refine⟨A,h1.keep n.k.tup (λc hc o e=>n.k.out c o e λz=>z.elim (h3 c hc).2.1 λz=>(h1.ki c hc).1 z),h2,λc hc=>⟨(h3 c hc).1,λz=>(n.w c z).elim (h3 c hc).2.1 λz=>(h1.ki c hc).1 z,(h3 c hc).2.2⟩⟩
 |de =>
  have g:aA P w (λa=>av C (Wn own) .de a\/H a=none) H d v:=aA.grow (λb z=>z) h;exact aA.aX (λb z=>z.elim (λz=>(n.w b z).imp .inl id) λz=>.inl (.inr z)) (aA.keep (n.k.mono λb z=>z.imp .inl id) g)
 |old=>exact held (W:=Wn own) h n
 |bor=>exact absurd rfl hk
theorem KV.G0 (h:KV P w C Z own H k d v)(s:az H H2)(e:bp=own):KV P w C Z bp H2 k d v:=by rw[e];exact h.E1 s
abbrev hold (k:Kd)(p:Bool):Prop:=match k,p with
 |.bor,false=>False
 |_,_=>True
theorem KV.ho (h:KV P w C Z own H k d v)(o:Out X C σ H own p β' H2 bp)(hh:hold k p):KV P w C Z bp H2 k d v:=by
 cases p with
 |true=>obtain⟨s,e⟩:=o.pu rfl;exact h.G0 s e
 |false=>exact h.held (by rintro rfl;exact hh) o.sn
theorem KV.later (h:KV P w C (H1,Wn aE) own H k d v)(n:Sn Z H1 (Wn aE)):KV P w C Z own H k d v:=by
 cases k with
 |own=>obtain⟨A,h1,h2,h3⟩:=h;exact⟨A,h1,h2,λc hc=>⟨n.free (h3 c hc).1,(h3 c hc).2⟩⟩
 |_=>exact h
end
abbrev aY:=ba->(D->Kd->ba->Prop)->Prop
abbrev a_:=ba->(Bool->ba->Prop)->Prop
abbrev bP:=ba->(List D->List Kd->ba->Prop)->Prop
def tQ (X:Cx)(C:Cfg)(p:Bool)(φ:aY):TE:=λσ H Q=>∃β own,SQ X C σ H β own/\φ β λd k β'=>∀v H' aN,Out X C σ H own p β' H' aN->KV X.prog X.w C (H,Wn own) aN H' k d v->Q v H'
def iO (X:Cx)(C:Cfg)(p:Bool)(φ:a_):TT:=λσ H Q=>∃β own,SQ X C σ H β own/\φ β λb β'=>∀H' aN,Out X C σ H own p β' H' aN->Q b H'
def KF (P:Qd)(w:Qq)(C:Cfg)(own:Nat->List Addr)(H:Hp):List Kd->List D->List V->List Addr->Prop
 |[],ds,vs,A=>ds=[]/\vs=[]/\A=[]
 |k::ks,ds,vs,A=>∃d dr v vr A1 A2,ds=d::dr/\vs=v::vr/\A=A1++A2/\(match k with | .own=>Own P w H d v A1|k=>A1=[]/\aA P w (av C (Wn own) k) H d v)/\KF P w C own H ks dr vr A2
def pH (P:Qd)(w:Qq)(C:Cfg)(Z:Hp×(Addr->Prop))(own:Nat->List Addr)(H:Hp)(ks:List Kd)(ds:List D)(vs:List V):Prop :=
 ∃A,KF P w C own H ks ds vs A/\A.Nodup/\∀c∈A,Z.1 c=none/\¬ Wn own c/\C.H0 c=none
def nz (X:Cx)(C:Cfg)(p:Bool)(φ:bP):TA:=λσ H Q=>∃β own,SQ X C σ H β own/\φ β λds ks β'=>∀vs H' aN,Out X C σ H own p β' H' aN->pH X.prog X.w C (H,Wn own) aN H' ks ds vs->Q vs H'
section
variable {C:Cfg}{H H1:Hp}{own aE:Nat->List Addr}{Z:Hp×(Addr->Prop)}{d:D}{v:V}{k:Kd}{P:Qd}{w:Qq}{ks:List Kd}{ds:List D}{vs:List V}
theorem pH.nil:pH P w C Z own H [] [] []:=⟨[],⟨rfl,rfl,rfl⟩,Q5,λc hc=>(nomatch hc)⟩
theorem KF.ki:∀{ks:List Kd} {ds:List D} {vs:List V} {A:List Addr},KF P w C own H ks ds vs A->∀c∈A,H c≠none
 |[],_,_,_,⟨_,_,e⟩,c,hc=>by rw[e]at hc;cases hc
 |k::ks,_,_,_,⟨d,dr,v,vr,A1,A2,rfl,rfl,rfl,h1,h2⟩,c,hc=>by
  rcases Qr.mp hc with hc|hc
  ·cases k with
   |own=>exact(Own.ki h1 c hc).1
   |_=>rw[h1.1]at hc;cases hc
  ·exact KF.ki h2 c hc
theorem pH.cons (h1:KV P w C Z aE H1 k d v)(n:Sn (H1,Wn aE) H (Wn own))(pK:KV P w C Z own H k d v)(h2:pH P w C (H1,Wn aE) own H ks ds vs)(n0:Sn Z H1 (Wn aE)):pH P w C Z own H (k::ks) (d::ds) (v::vs):=by
 obtain⟨A2,f2,Ef,q2⟩:=h2;have z2:∀c∈A2,Z.1 c=none/\¬ Wn own c/\C.H0 c=none:=λc hc=>⟨n0.free (q2 c hc).1,(q2 c hc).2⟩;cases k with
 |own =>
  obtain⟨A1,o1,HY,q1⟩:=h1;obtain⟨P8,Pp,NA,LJ⟩:=(show KV P w C Z own H .own d v from KV.held (k:=.own) (λz=>(nomatch z)) (⟨A1,o1,HY,q1⟩:KV P w C Z aE H1 .own d v) n)
  have Js:Own P w H d v A1:=o1.keep n.k.tup (λc hc o e=>n.k.out c o e λz=>z.elim (q1 c hc).2.1 λz=>(o1.ki c hc).1 z);refine⟨A1++A2,⟨d,ds,v,vs,A1,A2,rfl,rfl,rfl,Js,f2⟩,Q9.mpr ⟨HY,Ef,λa ha b hb e=>?_⟩,λc hc=>?_⟩
  ·subst e;exact(o1.ki a ha).1 (q2 a hb).1
  ·rcases Qr.mp hc with hc|hc
   ·exact⟨(q1 c hc).1,λz=>(n.w c z).elim (q1 c hc).2.1 λz=>(o1.ki c hc).1 z,(q1 c hc).2.2⟩
   ·exact z2 c hc
 |de=>exact⟨A2,⟨d,ds,v,vs,[],A2,rfl,rfl,rfl,⟨rfl,pK⟩,f2⟩,Ef,z2⟩
 |old=>exact⟨A2,⟨d,ds,v,vs,[],A2,rfl,rfl,rfl,⟨rfl,pK⟩,f2⟩,Ef,z2⟩
 |bor=>exact⟨A2,⟨d,ds,v,vs,[],A2,rfl,rfl,rfl,⟨rfl,pK⟩,f2⟩,Ef,z2⟩
abbrev eK:List Kd->Kd
 |[]=>.de
 |k::ks=>Kd.max k (eK ks)
theorem KF.fD:∀{ks:List Kd} {ds:List D} {vs:List V} {A:List Addr},KF P w C own H ks ds vs A->(∀c∈A,¬ Wn own c/\C.H0 c=none)->ah P w (av C (Wn own) (eK ks)) H ds vs
 |[],_,_,_,⟨e1,e2,e⟩,_=>by rw[e1,e2];rfl
 |k::ks,_,_,_,⟨d,dr,v,vr,A1,A2,rfl,rfl,rfl,h1,h2⟩,hA=>by
  refine⟨v,vr,rfl,?_,ah.aX mZ (KF.fD h2 λc hc=>hA c (QV _ hc))⟩;cases k with
  |own=>exact aA.aX fB (Own.rep (W:=av C (Wn own) .own) (λc hc z=>z.elim (hA c (RL _ hc)).1 λz=>z (hA c (RL _ hc)).2) h1)
  |de=>exact aA.aX (fB (a:=.de)) h1.2
  |old=>exact aA.aX (fB (a:=.old)) h1.2
  |bor=>exact aA.aX (fB (a:=.bor)) h1.2
theorem pH.fD (h:pH P w C Z own H ks ds vs):ah P w (av C (Wn own) (eK ks)) H ds vs:=let ⟨A,h1,_,h3⟩:=h;h1.fD λc hc=>(h3 c hc).2
theorem pH.bor (h:pH P w C Z own H ks ds vs):ah P w (λ_=>False) H ds vs:=ah.aX (λ_ z=>z.elim) h.fD
def sD:List Kd->List D->Prop
 |k::ks,d::ds=>(match k with | .own=>True|_=>d.flat=true)/\sD ks ds
 |_,_=>True
theorem KF.BS:∀{ks:List Kd} {ds:List D} {vs:List V} {A:List Addr},KF P w C own H ks ds vs A->sD ks ds->aK P w H ds vs A
 |[],_,_,_,⟨e1,e2,e⟩,_=>by rw[e1,e2,e];exact⟨rfl,rfl⟩
 |k::ks,_,_,_,⟨d,dr,v,vr,A1,A2,rfl,rfl,rfl,h1,h2⟩,⟨f1,f2⟩=>by
  refine⟨v,vr,A1,A2,rfl,rfl,?_,KF.BS h2 f2⟩;cases k with
  |own=>exact h1
  |de=>rw[h1.1];exact cX f1 h1.2
  |old=>rw[h1.1];exact cX f1 h1.2
  |bor=>rw[h1.1];exact cX f1 h1.2
theorem gD:∀{ks:List Kd},(eK ks).wk=eK ks
 |[]=>rfl
 |k::ks=>by cases k <;> cases h:eK ks <;> simp[eK,Kd.max,h]
def wq (ks:List Kd)(ds:List D)(K:Kd->Prop):Prop:=match ks.all (λk=>match k with | .own=>true|_=>false)with
 |true=>K .own
 |false=>(sD ks ds/\K .own)\/K (eK ks)
theorem wq.mono {ks:List Kd}{ds:List D}{K K':Kd->Prop}(k:∀x,K x->K' x)(h:wq ks ds K):wq ks ds K':=by
 unfold wq at *
 split
 ·next e=>rw[e]at h;exact k _ h
 ·next e=>rw[e]at h;exact h.imp (λz=>⟨z.1,k _ z.2⟩) (k _)
theorem wq.of {ks:List Kd}{ds:List D}{K:Kd->Prop}(h:wq ks ds K):(sD ks ds/\K .own)\/K (eK ks):=by
 unfold wq at h
 split at h
 ·next e =>
  refine .inl ⟨?_,h⟩
  clear h
  induction ks generalizing ds with
  |nil=>cases ds <;> trivial
  |cons k ks ih =>
   cases ds with
   |nil=>trivial
   |cons d ds =>
    rw[List.all_cons,QU]at e;refine⟨?_,ih e.2⟩;have e1:=e.1;cases k <;> first|trivial|cases e1
 ·exact h
end
structure PQ (X:Cx)(C:Cfg)(p:Bool)(e:Expr)(φ:aY):Prop where
 mono:∀β R R',(∀d k β,R d k β->R' d k β)->φ β R->φ β R'
 pe:PE X e (tQ X C p φ)
structure uz (X:Cx)(C:Cfg)(p:Bool)(e:Expr)(φ:a_):Prop where
 mono:∀β R R',(∀d β,R d β->R' d β)->φ β R->φ β R'
 pt:PT X e (iO X C p φ)
structure qJ (X:Cx)(C:Cfg)(p:Bool)(e:Expr)(φ:a_):Prop where
 mono:∀β R R',(∀d β,R d β->R' d β)->φ β R->φ β R'
 pw:PW X e (iO X C p φ)
structure m8 (X:Cx)(C:Cfg)(p:Bool)(es:List Expr)(φ:bP):Prop where
 mono:∀β R R',(∀d k β,R d k β->R' d k β)->φ β R->φ β R'
 pa:PA X es (nz X C p φ)
section
variable {X:Cx}{C:Cfg}{a b c e:Expr}{es:List Expr}{φ φa φb:aY}{τ τa τb:a_}{φs:bP}{pos:Pos}{σ:St}{H H':Hp}{β:ba}{own:Nat->List Addr}{p p':Bool}
theorem tQ.of (h:PQ X C p e φ)(s:SQ X C σ H β own){R:D->Kd->ba->Prop}{Q:VK}(hr:φ β R)(k:∀d kd β' v H' aN,R d kd β'->Out X C σ H own p β' H' aN->KV X.prog X.w C (H,Wn own) aN H' kd d v->Q v H'):tQ X C p φ σ H Q :=
 ⟨β,own,s,h.mono β _ _ (λd kd β' hd v H' aN o r=>k d kd β' v H' aN hd o r) hr⟩
theorem iO.of (h:uz X C p e τ)(s:SQ X C σ H β own){R:Bool->ba->Prop}{Q:Bool->Hp->Prop}(hr:τ β R)(k:∀t β' H' aN,R t β'->Out X C σ H own p β' H' aN->Q t H'):iO X C p τ σ H Q :=
 ⟨β,own,s,h.mono β _ _ (λt β' hd H' aN o=>k t β' H' aN hd o) hr⟩
theorem nz.of (h:m8 X C p es φs)(s:SQ X C σ H β own){R:List D->List Kd->ba->Prop}{Q:List V->Hp->Prop}(hr:φs β R)(k:∀ds ks β' vs H' aN,R ds ks β'->Out X C σ H own p β' H' aN->pH X.prog X.w C (H,Wn own) aN H' ks ds vs->Q vs H'):nz X C p φs σ H Q :=
 ⟨β,own,s,h.mono β _ _ (λd kd β' hd v H' aN o r=>k d kd β' v H' aN hd o r) hr⟩
theorem qJ.t (h:qJ X C p e τ):uz X C p e τ:=⟨h.mono,h.pw.pt⟩
noncomputable abbrev vk (y:Bool):D->Kd
 |.int _=>.own
 |.bl _=>.own
 |.d7=>.own
 |.str _=>.own
 |_=>yk y
def qB:B->(D->Kd->Prop)->Prop
 |.val y d,K=>K d (vk y d)
 |.own d,K=>K d .bor
 |.hand _,_=>False
 |.shl _ _,_=>False
def Ji (i:Nat):aY:=λβ R=>∃b,β[i]?=some (some b)/\qB b λd k=>R d k β
theorem Cs {P:Qd}{w:Qq}{Z:Hp×(Addr->Prop)}{y:Bool}{d:D}{v:V}(h:aA P w (av C (Wn own) (yk y)) H d v):KV P w C Z own H (vk y d) d v:=by
 cases d with
 |int i=>exact KV.flat rfl h
 |bl i=>exact KV.flat rfl h
 |d7=>exact KV.flat rfl h
 |str i=>exact KV.flat rfl h
 |_=>cases y <;> exact h
theorem ab {i:Nat}{x:Str}(hN:X.N[i]?=some x:=by rfl)(hv:m6 X.env.scope x:=by first|exact .inl rfl|exact .inr (.inl rfl)|exact .inr (.inr rfl))(hd:(x==("__debug__" : Str))=false:=by decide)(ee:(x==("__classdict__" : Str))=false:=by decide):
  PQ X C true (.Name x pos) (Ji i):=⟨λβ R R' k zu=>by obtain⟨b,e,h⟩:=zu;exact⟨b,e,by cases b <;> first|exact k _ _ _ h|exact h⟩,(cy hN hv hd ee).pre λσ H Q CQ=>by
 obtain⟨β,own,s,b,e,q⟩:=CQ;cases b with
 |val y d=>obtain⟨v,h1,h2⟩:=s.dz e;exact⟨v,h1,q v H own (Out.refl s _) (Cs h2)⟩
 |own d=>obtain⟨v,h1,h2,h3⟩:=s.ow i d e;exact⟨v,h1,q v H own (Out.refl s _) (h2.rep λ_ _ z=>z)⟩
 |hand ok=>exact q.elim
 |shl _ _=>exact q.elim⟩
def qC (d:D):aY:=λβ R=>R d .own β
theorem af {i j}:PQ X C true (.Constant (.int i) j pos) (qC (.int i)):=⟨λρ R R' k h=>k _ _ _ h,aU.pre λσ H Q F9=>by obtain⟨β,own,s,q⟩:=F9;exact q _ H own (Out.refl s _) (KV.flat (W:=λ_=>False) rfl rfl)⟩
theorem fc {b j}:PQ X C true (.Constant (.bool b) j pos) (qC (.bl b)):=⟨λρ R R' k h=>k _ _ _ h,vJ.pre λσ H Q N6=>by obtain⟨β,own,s,q⟩:=N6;exact q _ H own (Out.refl s _) (KV.flat (W:=λ_=>False) rfl rfl)⟩
def vz (X:Cx)(f:D->D->Option D)(N:D->Prop):R2:=λx y H Q=>∃W d1 d2 d,Dm W H/\Rp X W H d1 x/\Rp X W H d2 y/\f d1 d2=some d/\∀v H',az H H'->Rp X W H' d v->(N d->Rp X (λa=>H a≠none) H' d v)->Q v H'
abbrev Iw (X:Cx)(f:P_->P_->Sem P_)(g:D->D->Option D)(N:D->Prop):Prop:=j_ X f (vz X g N)
theorem bt.m {f:P_->P_->Sem P_}{g:D->D->Option D}(h:bt X f g):Iw X f g NF:=λpins s σ H x y v u Q I rx ry ⟨W,d1,d2,d,hd,r1,r2,e,q⟩ =>
 h pins s σ H x y v u Q I rx ry ⟨W,d1,d2,d,hd,r1,r2,e,λv H' s r=>q v H' s r λf=>aA.flat f r⟩
noncomputable def kN (N:D->Prop)(d:D)(k:Kd)(K:Kd->Prop):Prop:=match d with
 |.int _=>K .own
 |.bl _=>K .own
 |.d7=>K .own
 |.str _=>K .own
 |.tup _=>K k
 |_=>(N d/\K .own)\/K k
theorem kN.mono {N:D->Prop}{d:D}{k:Kd}{K K':Kd->Prop}(h:∀x,K x->K' x)(q:kN N d k K):kN N d k K':=by
 cases d <;> first|exact h _ q|exact q.imp (λz=>⟨z.1,h _ z.2⟩) (h _)
theorem i6 {P:Qd}{w:Qq}{Z:Hp×(Addr->Prop)}{d:D}{v:V}(hd:Dm (Wn own) H)(h0:∀a,C.H0 a≠none->H a≠none)(hz:∀a,Z.1 a≠none->H a≠none)(f:NL d)(r:aA P w (λa=>H a≠none) H' d v):KV P w C Z own H' .own d v:=by
 have nn:∀{a:Addr},¬ (H a≠none)->H a=none:=λ{a} h=>QG λz=>h z;have cl:∀{a:Addr},H a=none->Z.1 a=none/\¬ Wn own a/\C.H0 a=none:=λ{a} h=>⟨QG λz=>hz a z h,λz=>hd a z h,QG λz=>h0 a z h⟩;cases d with
 |lst ds =>
  obtain⟨a,vs,rfl,e,n,q⟩:=r;exact⟨[a],⟨a,vs,[],rfl,e,rfl,gY f q⟩,by simp,λc hc=>by rw[Qj.mp hc];exact cl (nn n)⟩
 |_=>exact KV.flat f r
theorem KV.kN {N:D->Prop}{P:Qd}{w:Qq}{Z:Hp×(Addr->Prop)}{d:D}{v:V}{k:Kd}{K:Kd->Prop}(hk:k.wk=k)(r:aA P w (av C (Wn own) k) H' d v)(ro:N d->KV P w C Z own H' .own d v)(q:kN N d k K):∃k',K k'/\KV P w C Z own H' k' d v:=by
 have rk:KV P w C Z own H' k d v:=by rw[<- hk];exact KV.of (by rw[hk];exact r)
 cases d with
 |int i=>exact⟨_,q,KV.flat rfl r⟩
 |bl i=>exact⟨_,q,KV.flat rfl r⟩
 |d7=>exact⟨_,q,KV.flat rfl r⟩
 |str i=>exact⟨_,q,KV.flat rfl r⟩
 |tup ds=>exact⟨_,q,rk⟩
 |_=>exact q.elim (λz=>⟨_,z.2,ro z.1⟩) λz=>⟨_,z,rk⟩
structure xQ (N:D->Prop):Prop where
 nl:∀d,N d->NL d
theorem ay:xQ NL:=⟨λ_ h=>h⟩
theorem ag:xQ NF:=⟨λd h=>by cases d <;> first|exact h|cases h⟩
theorem As {a b:Kd}:(a.max b).wk=a.max b:=by cases a <;> cases b <;> rfl
def uF (g:D->D->Option D)(N:D->Prop)(pb:Bool)(φa φb:aY):aY:=λβ R=>φa β λx ka β1=>hold ka pb/\φb β1 λy kb β2=>∃d,g x y=some d/\kN N d (ka.max kb) λk=>R d k β2
variable {g:D->D->Option D}{N:D->Prop}
theorem uF.mono (ha:PQ X C p a φa)(hb:PQ X C p' b φb):∀β R R',(∀d k β,R d k β->R' d k β)->uF g N p' φa φb β R->uF g N p' φa φb β R':=λβ R R' k h =>
 ha.mono β _ _ (λx ka β1 hx=>⟨hx.1,hb.mono β1 _ _ (λy kb β2 C0=>by obtain⟨d,e,q⟩:=C0;exact⟨d,e,q.mono λ_ z=>k _ _ _ z⟩) hx.2⟩) h
theorem pZ (hn:xQ N)(ha:PQ X C p a φa)(hb:PQ X C p' b φb):∀σ H Q,tQ X C (p&&p') (uF g N p' φa φb) σ H Q->EN (vz X g N) (tQ X C p φa) (tQ X C p' φb) σ H Q:=λσ H Q ⟨β,own,s,h⟩ =>
 tQ.of ha s h λd1 k1 β1 v1 H1 aE ⟨hh,h1⟩ o1 r1=>tQ.of hb o1.sq h1 λd2 k2 β2 v2 H2 bp wI o2 r2=>by
  obtain⟨d,e,q⟩:=wI;have HU:=r1.ho o2 hh;refine⟨av C (Wn bp) (k1.max k2),d1,d2,d,o2.sq.Ew _,aA.aX fB HU.rep,aA.aX mZ r2.rep,e,λv H' s3 r3 n3=>?_⟩;have o:=(o1.trans o2).same s3;obtain⟨k,q,r⟩:=KV.kN (Z:=(H,Wn own)) As r3 (λn=>i6 (H:=H2) o2.sq.rW o2.sq.ft (λa z=>o2.sn.d a (o1.sn.d a z)) (hn.nl _ n) (n3 n)) q;exact q v H' bp o r
theorem ao {op:Operator}(hn:xQ N)(ho:Iw X (RF op) g N)(ha:PQ X C p a φa)(hb:PQ X C p' b φb):PQ X C (p&&p') (.BinOp a op b pos) (uF g N p' φa φb):=⟨uF.mono ha hb,(cg ho ha.pe hb.pe).pre (pZ hn ha hb)⟩
theorem qd {op:CmpOp}(hn:xQ N)(ho:Iw X (SU op) g N)(ha:PQ X C p a φa)(hb:PQ X C p' b φb)(hm:SD op b=false:=by first|exact nX _ (by decide) (by decide)|rfl):PQ X C (p&&p') (.Compare a [op] [b] pos) (uF g N p' φa φb) :=
 ⟨uF.mono ha hb,(yD ho ha.pe hb.pe hm).pre (pZ hn ha hb)⟩
theorem aL (hn:xQ N)(ho:A0 X (vz X g N))(ha:PQ X C p a φa)(hb:PQ X C p' b φb)(hs:gP b:=by exact λ_ _=>rfl):PQ X C (p&&p') (.Subscript a b pos) (uF g N p' φa φb):=⟨uF.mono ha hb,(eR ho ha.pe hb.pe hs).pre (pZ hn ha hb)⟩
def Aj (φ:aY):a_:=λβ R=>φ β λd k β'=>∃b,d=.bl b/\R b β'
theorem aI {op:CmpOp}(hn:xQ N)(ho:Iw X (SU op) g N)(ha:PQ X C p a φa)(hb:PQ X C p' b φb)(hm:SD op b=false:=by first|exact nX _ (by decide) (by decide)|rfl):uz X C (p&&p') (.Compare a [op] [b] pos) (Aj (uF g N p' φa φb)) :=
 ⟨λβ R R' k h=>uF.mono ha hb β _ _ (λd kd β CY=>by obtain⟨t,e,q⟩:=CY;exact⟨t,e,k _ _ q⟩) h,(mh ho ha.pe hb.pe hm).pre λσ H Q ⟨β,own,s,h⟩ =>
  tQ.of ha s h λd1 k1 β1 v1 H1 aE ⟨hh,h1⟩ o1 r1=>tQ.of hb o1.sq h1 λd2 k2 β2 v2 H2 bp CW o2 r2=>by
   obtain⟨d,e,q⟩:=CW;have HU:=r1.ho o2 hh;refine⟨av C (Wn bp) (k1.max k2),d1,d2,d,o2.sq.Ew _,aA.aX fB HU.rep,aA.aX mZ r2.rep,e,λv H' s3 r3 n3=>?_⟩;obtain⟨k,⟨t,et,q'⟩,r⟩:=KV.kN (Z:=(H,Wn own)) As r3 (λn=>i6 (H:=H2) o2.sq.rW o2.sq.ft (λa z=>o2.sn.d a (o1.sn.d a z)) (hn.nl _ n) (n3 n)) q;subst et;cases r3;exact⟨t,rfl,q' H' bp ((o1.trans o2).same s3)⟩⟩
theorem i3 (ha:PQ X C p a φa)(he:∀whole,isTrue a X.env whole=(do let v <- whole;T3 a.pos;holding [v] (truthy v)):=by intro _;rfl):uz X C p a (Aj φa) :=
 ⟨λβ R R' k h=>ha.mono β _ _ (λd kd β' CV=>by obtain⟨b,e,q⟩:=CV;exact⟨b,e,k _ _ q⟩) h,(BN ha.pe he).pre λσ H Q ⟨β,own,s,h⟩=>tQ.of ha s h λd k β' v H1 aE CT o1 r1=>by
  obtain⟨b,e,q⟩:=CT;subst e;cases r1.rep;exact⟨b,rfl,q H1 aE o1⟩⟩
def E9 (τ:a_):a_:=λβ R=>τ β λb β'=>R (!b) β'
theorem mv (ha:uz X C p a τ):uz X C p (.UnaryOp .Not a pos) (E9 τ) :=
 ⟨λβ R R' k h=>ha.mono β _ _ (λb β' q=>k _ _ q) h,(BO ha.pt).pre λσ H Q CS=>by obtain⟨β,own,s,h⟩:=CS;exact iO.of ha s h λb β' H1 aE q o=>q H1 aE o⟩
variable {rest:List Expr}
def Fe (τa τb:a_):a_:=λβ R=>τa β λt β1=>if t=true then τb β1 R else R false β1
def Jl (τa τb:a_):a_:=λβ R=>τa β λt β1=>if t=true then R true β1 else τb β1 R
theorem gm (ha:uz X C p a τ):qJ X C p (.BoolOp .And [a] pos) τ:=⟨ha.mono,pw_and1 ha.pt⟩
theorem mn (ha:uz X C p a τ):qJ X C p (.BoolOp .Or [a] pos) τ:=⟨ha.mono,pw_or1 ha.pt⟩
theorem DQ {p q:Bool}(z:(p&&q)=true):p=true:=by cases p <;> first|rfl|cases z
theorem Lh {p q:Bool}(z:(p&&q)=true):q=true:=by cases p <;> first|exact z|cases z
theorem iZ (ha:uz X C p a τa)(hb:qJ X C p' (.BoolOp .And (b::rest) pos) τb):qJ X C (p&&p') (.BoolOp .And (a::b::rest) pos) (Fe τa τb) :=
 ⟨λβ R R' k h=>ha.mono β _ _ (λt β1 q=>by
   cases t
   ·exact k _ _ q
   ·exact hb.mono β1 _ _ k q) h,(pw_and ha.pt hb.pw).pre λσ H Q ⟨β,own,s,h⟩=>iO.of ha s h λt β1 H1 aE q o1=>by
  cases t
  ·exact q H1 aE (o1.wk DQ)
  ·exact iO.of hb.t o1.sq q λt' β2 H2 bp q2 o2=>q2 H2 bp (o1.trans o2)⟩
theorem mq (ha:uz X C p a τa)(hb:qJ X C p' (.BoolOp .Or (b::rest) pos) τb):qJ X C (p&&p') (.BoolOp .Or (a::b::rest) pos) (Jl τa τb) :=
 ⟨λβ R R' k h=>ha.mono β _ _ (λt β1 q=>by
   cases t
   ·exact hb.mono β1 _ _ k q
   ·exact k _ _ q) h,(pw_or ha.pt hb.pw).pre λσ H Q ⟨β,own,s,h⟩=>iO.of ha s h λt β1 H1 aE q o1=>by
  cases t
  ·exact iO.of hb.t o1.sq q λt' β2 H2 bp q2 o2=>q2 H2 bp (o1.trans o2)
  ·exact q H1 aE (o1.wk DQ)⟩
def Nl (g:D->Option D)(φa:aY):aY:=λβ R=>φa β λx _ β1=>∃d,g x=some d/\d.flat=true/\R d .own β1
theorem d3 {op:UnaryOp}{g:D->Option D}(ho:Hv X (unaryOp op) (LI X g))(ha:PQ X C p a φa):PQ X C p (.UnaryOp op a pos) (Nl g φa) :=
 ⟨λβ R R' k h=>ha.mono β _ _ (λx _ β1 Ka=>by obtain⟨d,e,f,q⟩:=Ka;exact⟨d,e,f,k _ _ _ q⟩) h,(Fi ho ha.pe).pre λσ H Q ⟨β,own,s,h⟩ =>
  tQ.of ha s h λd1 k1 β1 v1 H1 aE J_ o1 r1=>by obtain⟨d,e,f,q⟩:=J_;exact⟨_,d1,d,o1.sq.Ew _,r1.rep,e,λv H' s2 r2=>q v H' aE (o1.same s2) (KV.flat f r2)⟩⟩
def Jm:bP:=λβ R=>R [] [] β
def Fd (pr:Bool)(φ:aY)(φs:bP):bP:=λβ R=>φ β λd k β1=>hold k pr/\φs β1 λds ks β2=>R (d::ds) (k::ks) β2
theorem ae:m8 X C true [] Jm:=⟨λβ R R' k h=>k _ _ _ h,dt.pre λσ H Q J9=>by obtain⟨β,own,s,q⟩:=J9;exact q [] H own (Out.refl s _) pH.nil⟩
theorem aa (ha:PQ X C p a φ)(hr:m8 X C p' es φs)(hs:Qt (a::es) X.env=(false,eval a X.env)::Qt es X.env:=by rfl):m8 X C (p&&p') (a::es) (Fd p' φ φs) :=
 ⟨λβ R R' k h=>ha.mono β _ _ (λd kd β1 q=>⟨q.1,hr.mono β1 _ _ (λds ks β2 q2=>k _ _ _ q2) q.2⟩) h,(bo ha.pe hr.pa hs).pre λσ H Q ⟨β,own,s,h⟩ =>
  tQ.of ha s h λd1 k1 β1 v1 H1 aE J7 o1 r1=>by obtain⟨hh,h1⟩:=J7;exact nz.of hr o1.sq h1 λds ks β2 vs H2 bp q o2 r2=>q (v1::vs) H2 bp (o1.trans o2) (pH.cons r1 o2.sn (r1.ho o2 hh) r2 o1.sn)⟩
def Jj (φs:bP):aY:=λβ R=>φs β λds ks β1=>ds.length<=Qp/\wq ks ds λk=>R (.tup ds) k β1
def Jn (φs:bP):aY:=λβ R=>φs β λds ks β1=>ds.length<=Qp/\wq ks ds λk=>R (.lst ds) k β1
theorem aK.same {P:Qd}{w:Qq}{ds:List D}{vs:List V}{A:List Addr}(s:az H H')(h:aK P w H ds vs A):aK P w H' ds vs A:=h.keep (λb xs e=>s _ _ e) λc _ o e=>s c o e
theorem Cu {P:Qd}{w:Qq}{Z:Hp×(Addr->Prop)}{ks:List Kd}{ds:List D}{vs:List V}{K:Kd->Prop}{q:Addr}(hq:H q=none)(h:pH P w C Z own H ks ds vs)(m:wq ks ds K):∃k,K k/\KV P w C Z own (upd H q (.tup vs)) k (.tup ds) (.ref q):=by
 rcases m.of with⟨f,k⟩|k
 ·obtain⟨A,h1,h2,h3⟩:=h;exact⟨_,k,A,⟨q,vs,rfl,au,(h1.BS f).same (az.new hq)⟩,h2,h3⟩
 ·refine⟨_,k,?_⟩;rw[<- gD];exact KV.of (by rw[gD];exact⟨q,vs,rfl,au,h.fD.same (az.new hq)⟩)
theorem Cw {P:Qd}{w:Qq}{Z:Hp×(Addr->Prop)}{ks:List Kd}{ds:List D}{vs:List V}{K:Kd->Prop}{q:Addr}(hq:H q=none)(hd:Dm (Wn own) H)(h0:∀a,C.H0 a≠none->H a≠none)(hz:∀a,Z.1 a≠none->H a≠none)(h:pH P w C Z own H ks ds vs)(m:wq ks ds K):∃k,K k/\KV P w C Z own (upd H q (.lst vs)) k (.lst ds) (.ref q):=by
 rcases m.of with⟨f,k⟩|k
 ·obtain⟨A,h1,h2,h3⟩:=h;refine⟨_,k,q::A,⟨q,vs,A,rfl,au,rfl,(h1.BS f).same (az.new hq)⟩,QB.mpr ⟨λz=>h1.ki q z hq,h2⟩,λc hc=>?_⟩;rcases Qc.mp hc with rfl|hc
  ·exact⟨QG λz=>hz c z hq,λz=>hd c z hq,QG λz=>h0 c z hq⟩
  ·exact h3 c hc
 ·refine⟨_,k,?_⟩;have nq:¬ av C (Wn own) (eK ks) q:=λz=>by
   cases e:eK ks <;> rw[e]at z <;> first|exact z.elim (λz=>hd q z hq) λz=>h0 q z hq|exact hd q z hq|exact z
  rw[<- gD];exact KV.of (by rw[gD];exact⟨q,vs,rfl,au,nq,h.fD.same (az.new hq)⟩)
theorem pH.length {P:Qd}{w:Qq}{Z:Hp×(Addr->Prop)}{ks:List Kd}{ds:List D}{vs:List V}(h:pH P w C Z own H ks ds vs):vs.length=ds.length:=h.fD.length
theorem cx {x1}(h:m8 X C p es φs):PQ X C p (.Tuple es x1 pos) (Jj φs) :=
 ⟨λβ R R' k q=>h.mono β _ _ (λds ks β1 J6=>by obtain⟨l,q⟩:=J6;exact⟨l,q.mono λ_ z=>k _ _ _ z⟩) q,(BR h.pa).pre λσ H Q ⟨β,own,s,q⟩=>nz.of h s q λds ks β1 vs H1 aE ⟨l,q1⟩ o1 r1 =>
  ⟨by rw[r1.length];exact l,λq hq=>let ⟨k,q1,r⟩:=Cu hq r1 q1;q1 _ _ aE (o1.same (az.new hq)) r⟩⟩
theorem aW (h:m8 X C p es φs):PQ X C p (.List es pos) (Jn φs) :=
 ⟨λβ R R' k q=>h.mono β _ _ (λds ks β1 CP=>by obtain⟨l,q⟩:=CP;exact⟨l,q.mono λ_ z=>k _ _ _ z⟩) q,(my h.pa).pre λσ H Q ⟨β,own,s,q⟩=>nz.of h s q λds ks β1 vs H1 aE ⟨l,q1⟩ o1 r1 =>
  ⟨by rw[r1.length];exact l,λq hq=>let ⟨k,q1,r⟩:=Cw hq o1.sq.rW o1.sq.ft (λa z=>o1.sn.d a z) r1 q1;q1 _ _ aE (o1.same (az.new hq)) r⟩⟩
end
section
variable {X:Cx}{C:Cfg}{a c e:Expr}{es:List Expr}{φ:aY}{φs:bP}{pos:Pos}{σ:St}{H H':Hp}{β:ba}{own:Nat->List Addr}{p:Bool}{g:D->D->Option D}{N:D->Prop}
abbrev xD:=ba->(Option Int->ba->Prop)->Prop
structure Iv (X:Cx)(C:Cfg)(e:Option Expr)(φ:xD):Prop where
 mono:∀β R R',(∀d β,R d β->R' d β)->φ β R->φ β R'
 po:PO X e λσ H Q=>∃β own,SQ X C σ H β own/\φ β λo β'=>∀H',az H H'->SQ X C σ H' β' own->Q o H'
theorem cL:Iv X C none (λβ R=>R none β):=⟨λβ R R' k h=>k _ _ h,rh.pre λσ H Q wH=>by obtain⟨β,own,s,q⟩:=wH;exact q H (az.refl _) s⟩
theorem cK (ha:PQ X C true a φ):Iv X C (some a) (λβ R=>φ β λd _ β1=>∃i,d=.int i/\R (some i) β1) :=
 ⟨λβ R R' k h=>ha.mono β _ _ (λd _ β1 wG=>by obtain⟨i,e,q⟩:=wG;exact⟨i,e,k _ _ q⟩) h,(rg ha.pe).pre λσ H Q ⟨β,own,s,h⟩=>tQ.of ha s h λd k β1 v H1 aE CV o1 r1=>by
  obtain⟨i,e,q⟩:=CV;subst e;cases r1.rep;obtain⟨s1,rfl⟩:=o1.pu rfl;exact⟨i,rfl,q H1 s1 o1.sq⟩⟩
def Nm (φ:aY)(φl φh:xD):aY:=λβ R=>φ β λx k β1=>φl β1 λl β2=>φh β2 λh β3=>∃d,xM x l h=some d/\kN NL d k.wk λk'=>R d k' β3
theorem EG {k:Kd}:k.wk.wk=k.wk:=by cases k <;> rfl
theorem AU {W:Addr->Prop}{k:Kd}:∀c,av C W k.wk c->av C W k c:=λc h=>by cases k <;> exact h
theorem gn {lo hi:Option Expr}{φl φh:xD}{p2:Pos}(ha:PQ X C p a φ)(hl:Iv X C lo φl)(hh:Iv X C hi φh):PQ X C p (.Subscript a (.Slice lo hi none p2) pos) (Nm φ φl φh) :=
 ⟨λβ R R' k h=>ha.mono β _ _ (λx kx β1 q=>hl.mono β1 _ _ (λl β2 q=>hh.mono β2 _ _ (λu β3 CU=>by obtain⟨d,e,q⟩:=CU;exact⟨d,e,q.mono λ_ z=>k _ _ _ z⟩) q) q) h,
  (nN ym ha.pe hl.po hh.po).pre λσ H Q ⟨β,own,s,h⟩=>tQ.of ha s h λd k β1 v H1 aE q o1 r1 =>
    ⟨β1,aE,o1.sq,hl.mono β1 _ _ (λl β2 q H2 s2 Na=>⟨β2,aE,Na,hh.mono β2 _ _ (λu β3 CS H3 s3 HR=>by
      obtain⟨d',e,q⟩:=CS;refine⟨av C (Wn aE) k.wk,d,d',HR.Ew _,((aA.aX AU r1.rep).same s2).same s3,e,λv H' s4 r4 n4=>?_⟩;obtain⟨k',q,r⟩:=KV.kN (Z:=(H,Wn own)) EG r4 (λn=>i6 (H:=H3) HR.rW HR.ft (λa z e=>o1.sn.d a z (s2.free (s3.free e))) n (n4 n)) q;exact q v H' aE ⟨HR.same s4,o1.sn.same ((s2.trans s3).trans s4),λz=>⟨(o1.pu z).1.trans ((s2.trans s3).trans s4),(o1.pu z).2⟩,o1.le⟩ r) q⟩) q⟩⟩
def E7 (X:Cx)(f:List D->Option D)(N:D->Prop):List V->Hp->VK->Prop:=λxs H Q=>∃W ds d,Dm W H/\gO X W H ds xs/\f ds=some d/\∀v H',az H H'->Rp X W H' d v->(N d->Rp X (λa=>H a≠none) H' d v)->Q v H'
abbrev xF (X:Cx)(f:P_)(g:List D->Option D)(N:D->Prop):Prop:=eU X f (E7 X g N)
theorem bB.m {f:P_}{g:List D->Option D}(h:bB X f g):xF X f g NF:=λpins s σ H xs us Q I r ⟨W,ds,d,hd,r1,e,q⟩ =>
 h pins s σ H xs us Q I r ⟨W,ds,d,hd,r1,e,λv H' s r=>q v H' s r λf=>aA.flat f r⟩
def iy (g:List D->Option D)(N:D->Prop)(φs:bP):aY:=λβ R=>φs β λds ks β1=>∃d,g ds=some d/\kN N d (eK ks) λk=>R d k β1
variable {x:Str}{pp:Pos}{id T:String}{gs:List D->Option D}
theorem iy.mono (h:m8 X C p es φs):∀β R R',(∀d k β,R d k β->R' d k β)->iy gs N φs β R->iy gs N φs β R':=λβ R R' k q=>h.mono β _ _ (λds ks β1 Kk=>by obtain⟨d,e,q⟩:=Kk;exact⟨d,e,q.mono λ_ z=>k _ _ _ z⟩) q
theorem nL (hn:xQ N)(h:m8 X C p es φs):∀σ H Q,tQ X C p (iy gs N φs) σ H Q->IQ (E7 X gs N) (nz X C p φs) σ H Q:=λσ H Q ⟨β,own,s,q⟩=>nz.of h s q λds ks β1 vs H1 aE Ki o1 r1=>by
 obtain⟨d,e,q1⟩:=Ki;refine⟨av C (Wn aE) (eK ks),ds,d,o1.sq.Ew _,r1.fD,e,λv H' s2 r2 n2=>?_⟩;obtain⟨k',q,r⟩:=KV.kN (Z:=(H,Wn own)) gD r2 (λn=>i6 (H:=H1) o1.sq.rW o1.sq.ft (λa z=>o1.sn.d a z) (hn.nl _ n) (n2 n)) q1;exact q v H' aE (o1.same s2) r
theorem a6 (Dd:xQ N)(hc:xF X (.builtin id) gs N)(hm:X.mg x=none)(hv:Rb x=some (.builtin id))(ha:m8 X C p (e::es) φs)(hg:Gl X x:=by rfl)(hn:x≠"__name__" := by decide)(hdb:(x==("__debug__" : Str))=false:=by decide)
  (lD:Qt (e::es) X.env=(false,eval e X.env)::Qt es X.env:=by rfl) (hpl:(SF pos (Qt es X.env)).any (·.1)=false:=by rfl) :
  PQ X C p (.Call (.Name x pp) (e::es) [] pos) (iy gs N φs):=⟨iy.mono ha,(gq hc hg hm hv ha.pa hn hdb (he:=lD) (hpl:=hpl)).pre (nL Dd ha)⟩
theorem dg (Dd:xQ N)(hc:xF X (.type T) gs N)(hm:X.mg x=none)(hv:Rb x=some (.type T))(ha:m8 X C p (e::es) φs)(hg:Gl X x:=by rfl)(hn:x≠"__name__" := by decide)(hdb:(x==("__debug__" : Str))=false:=by decide)
  (lD:Qt (e::es) X.env=(false,eval e X.env)::Qt es X.env:=by rfl) (hpl:(SF pos (Qt es X.env)).any (·.1)=false:=by rfl) :
  PQ X C p (.Call (.Name x pp) (e::es) [] pos) (iy gs N φs):=⟨iy.mono ha,(s_ hc hg hm hv ha.pa hn hdb (he:=lD) (hpl:=hpl)).pre (nL Dd ha)⟩
end
def m9 (P:Qd)(w:Qq)(ro:Bool)(H H':Hp)(d:D)(v:V):Prop:=match ro with
 |true=>∃A,Own P w H' d v A/\A.Nodup/\∀c∈A,H c=none
 |false=>aA P w (λa=>H a≠none) H' d v
abbrev rk (ro:Bool):Kd:=match ro with|true=>.own|false=>.de
def fZ (P:Qd)(w:Qq)(ro:Bool)(F:FD):Sp:=λvs H Q _=>∃ds,ah P w (λ_=>False) H ds vs/\F ds λd=>∀v H',az H H'->m9 P w ro H H' d v->Q v H'
def iP (P:Qd)(w:Qq)(ok:List Int->Prop)(ro:Bool)(F:FD):Sp:=λvs H Q _=>∃h vs' ds ns,vs=.ref h::vs'/\H h=some (.lst (ns.map V.int))/\ok ns/\ah P w (λa=>a=h) H ds vs' /\
 F ds λd=>∀v H' vV,Kp (·=h) H H'->(∀c,H c≠none->H' c≠none)->H' h=some (.lst (vV.map V.int))->ok vV->m9 P w ro H H' d v->Q v H'
section
variable {X:Cx}{C:Cfg}{k ih:Nat}{f:Addr}{fd:Q0}{ps:List Str}{F:FD}{ro p:Bool}{x hx:Str}{pp pos px:Pos}{e:Expr}{es:List Expr}{φs:bP}{ok:List Int->Prop}{σ:St}{H H':Hp}{β:ba}{own:Nat->List Addr}{P:Qd}{w:Qq}
theorem m9.kv {Z:Hp×(Addr->Prop)}{d:D}{v:V}(hd:Dm (Wn own) H)(h0:∀a,C.H0 a≠none->H a≠none)(hz:∀a,Z.1 a≠none->H a≠none)(h:m9 P w ro H H' d v):KV P w C Z own H' (rk ro) d v:=by
 cases ro with
 |true =>
  obtain⟨A,h1,h2,h3⟩:=h;exact⟨A,h1,h2,λc hc=>⟨QG λz=>hz c z (h3 c hc),λz=>hd c z (h3 c hc),QG λz=>h0 c z (h3 c hc)⟩⟩
 |false=>exact aA.aX (λa z=>z.elim (hd a) (h0 a)) h
def Jk (ro:Bool)(F:FD)(φs:bP):aY:=λβ R=>φs β λds _ β1=>F ds λd=>R d (rk ro) β1
theorem bL (mF:eN F)(G:a9 X.prog X.w X.K X.mg X.base cW k f fd ps (fZ X.prog X.w ro F))(hr:da k X.A)(hm:X.mg x=some (.ref f))(hk:PySem.W.keepIn X.K (.ref f)=true)(hb:Binds X.K fd ps [])(ha:m8 X C p (e::es) φs)(hg:Gl X x:=by rfl)
  (hdb:(x==("__debug__" : Str))=false:=by decide)
  (lD:Qt (e::es) X.env=(false,eval e X.env)::Qt es X.env:=by rfl) (hpl:(SF pos (Qt es X.env)).any (·.1)=false:=by rfl) :
  PQ X C p (.Call (.Name x pp) (e::es) [] pos) (Jk ro F φs) :=
 ⟨λβ R R' k h=>ha.mono β _ _ (λds ks β1 q=>mF ds _ _ (λd q=>k _ _ _ q) q) h,(mz G hr hg hm hk hb .nil vK ha.pa (hdb:=hdb) (he:=lD) (hpl:=hpl)).pre λσ H Q ⟨β,own,s,h⟩=>nz.of ha s h λds ks β1 vs H1 aE q o1 r1=>by
  rw[S7];exact⟨ds,r1.bor,mF ds _ _ (λd q2 v H' s2 r2=>q2 v H' aE (o1.same s2) (r2.kv o1.sq.rW o1.sq.ft λa z=>o1.sn.d a z)) q⟩⟩
theorem bD.drawn {i:Nat}{h:Addr}{vV:List Int}(b:bD P w C σ H β own)(e:β[i]?=some (some (.hand ok)))(hσ:σ[i]?=some (some (.ref h)))(k:Kp (·=h) H H')(e':H' h=some (.lst (vV.map V.int)))(o':ok vV)(dn:∀c,H c≠none->H' c≠none):bD P w C σ H' β own:=by
 obtain⟨a,ns,h1,h2,h3,h4,h5⟩:=b.lE i ok e;rw[hσ]at h1;cases h1;have wh:Wn own h:=⟨i,by rw[h4];simp⟩
 have kW:∀y,Kp (eg C (Wn own) (yk y)) H H':=λy=>k.mono λc z=>by rw[z];cases y <;> first|exact .inl wh|exact .inl (.inl wh)
 have ne:∀j,j≠i->∀c∈own j,c≠h:=λj hj c hc z=>hj (b.ic j i c hc (by rw[h4,z];simp))
 refine⟨b.len,λj y d e=>let ⟨v,g1,g2⟩:=b.val j y d e;⟨v,g1,g2.keep (kW y)⟩,λj d ej=>?_,λj uG ej=>?_,λj c hc=>?_,b.ic,b.i8,⟨λc o z n=>?_,λc xs z=>k.tup c xs (b.kp.tup c xs z)⟩,λc z=>dn c (b.ft c z),λj y d ej=>by
  obtain⟨v,g1,g2,g3⟩:=b.shl j y d ej;have hj:j≠i:=λz=>by rw[z,e]at ej;cases ej
  exact⟨v,g1,g2.map (λc hc o eo=>k.out c o eo (ne j hj c hc)) (λ_ _ r=>r.keep (kW y)),g3⟩⟩
 ·obtain⟨v,g1,g2,g3⟩:=b.ow j d ej;have hj:j≠i:=λz=>by rw[z,e]at ej;cases ej
  exact⟨v,g1,g2.keep k.tup (λc hc o eo=>k.out c o eo (ne j hj c hc)),g3⟩
 ·by_cases hj:j=i
  ·subst hj;rw[e]at ej;cases ej;exact⟨h,vV,hσ,e',o',h4,h5⟩
  ·obtain⟨a,ms,g1,g2,g3,g4,g5⟩:=b.lE j uG ej;exact⟨a,ms,g1,k.out a _ g2 (ne j hj a (by rw[g4];simp)),g3,g4,g5⟩
 ·obtain⟨g1,g2,g3⟩:=b.dm j c hc
  by_cases rK:c=h
  ·rw[rK,e'];rw[rK]at g3;exact⟨λz=>(nomatch z),λxs z=>(by cases z),g3⟩
  ·cases q:H c with
   |none=>exact absurd q g1
   |some o=>rw[k.out c o q rK];exact⟨λz=>(nomatch z),λxs z=>g2 xs (by rw[q];exact z),g3⟩
 ·refine k.out c o (b.kp.out c o z n) λq=>?_;subst q;rcases (b.dm i c (by rw[h4];simp)).2.2.1 with z0|z0
  ·rw[z0]at z;cases z
  ·exact n z0
def Fc (ih:Nat)(ok:List Int->Prop)(ro:Bool)(F:FD)(φs:bP):aY:=λβ R=>β[ih]?=some (some (.hand ok))/\φs β λds ks β1=>β1[ih]?=some (some (.hand ok))/\hold (eK ks) false/\F ds λd=>R d (rk ro) β1
theorem aJ (mF:eN F)(G:a9 X.prog X.w X.K X.mg X.base cW k f fd ps (iP X.prog X.w ok ro F))(hr:da k X.A)(hm:X.mg x=some (.ref f))(hk:PySem.W.keepIn X.K (.ref f)=true)(hb:Binds X.K fd ps [])(ha:m8 X C p es φs)(hN:X.N[ih]?=some hx:=by rfl)
  (hv:m6 X.env.scope hx:=by first|exact .inl rfl|exact .inr (.inl rfl)|exact .inr (.inr rfl)) (hd:(hx==("__debug__" : Str))=false:=by decide) (ee:(hx==("__classdict__" : Str))=false:=by decide) (hg:Gl X x:=by rfl) (hdb:(x==("__debug__" : Str))=false:=by decide)
  (lD:Qt (.Name hx px::es) X.env=(false,eval (.Name hx px) X.env)::Qt es X.env:=by rfl) (hpl:(SF pos (Qt es X.env)).any (·.1)=false:=by rfl) :
  PQ X C false (.Call (.Name x pp) (.Name hx px::es) [] pos) (Fc ih ok ro F φs) :=
 ⟨λβ R R' k Kg=>by obtain⟨e,h⟩:=Kg;exact⟨e,ha.mono β _ _ (λds ks β1 Kf=>by obtain⟨e,hh,q⟩:=Kf;exact⟨e,hh,mF ds _ _ (λd q=>k _ _ _ q) q⟩) h⟩,
  (mz G hr hg hm hk hb .nil vK (bo (cy (pos:=px) hN hv hd ee) ha.pa lD) (hdb:=hdb) (he:=lD) (hpl:=hpl)).pre λσ H Q Ke=>by
  obtain⟨β,own,s,e,h⟩:=Ke;obtain⟨hh,ns,h1,h2,h3,h4⟩:=s.lE ih ok e;refine⟨.ref hh,h1,nz.of ha s h λds ks β1 vs H1 aE ⟨e1,ho,q⟩ o1 r1=>?_⟩;obtain⟨PN,Nt,g1,g2,g3,g4,g5⟩:=o1.sq.lE ih ok e1;rw[h1]at g1;cases g1;have wh:Wn aE hh:=⟨ih,by rw[g4];simp⟩
  rw[S7];refine⟨hh,vs,ds,Nt,rfl,g2,g3,ah.aX (λa z=>?_) r1.fD,mF ds _ _ (λd q v H' vV kp dn e' uG r=>?_) q⟩
  ·subst z;cases hk:eK ks with
   |own=>exact .inl wh
   |de=>exact .inl wh
   |old=>exact wh
   |bor=>rw[hk]at ho;exact ho.elim
  ·exact q v H' aE ⟨o1.sq.drawn e1 h1 kp e' uG dn,o1.sn.kp (kp.mono λb z=>by rw[z];exact wh) dn,λz=>(nomatch z),o1.le⟩ (r.kv o1.sq.rW o1.sq.ft λa z=>o1.sn.d a z)⟩
end
abbrev Cfg.z (C:Cfg):Cfg:=C.u λ_=>False
def SB (X:Cx)(C:Cfg)(Z:Hp×(Addr->Prop))(σ:St)(H:Hp)(β:ba):Prop:=∃own,SQ X C.z σ H β own/\Sn Z H (Wn own)
structure eT where
 nx:ba->Prop
 rt:D->ba->Prop
 bk:ba->Prop:=λ_=>False
 ct:ba->Prop:=λ_=>False
def eT.up (E:eT)(n:ba->Prop):eT:=⟨n,E.rt,E.bk,E.ct⟩
def eT.lp (E:eT)(n:ba->Prop):eT:=⟨n,E.rt,E.nx,n⟩
structure Pd (X:Cx)(C:Cfg)(Z:Hp×(Addr->Prop))(E:eT)(D:Ends):Prop where
 nx:∀σ H β,SB X C Z σ H β->E.nx β->D.nx σ H
 rt:∀σ H β d v,SB X C Z σ H β->m9 X.prog X.w C.ro C.H0 H d v->E.rt d β->D.rt v H
 bk:∀σ H β,SB X C Z σ H β->E.bk β->D.bk σ H
 ct:∀σ H β,SB X C Z σ H β->E.ct β->D.ct σ H
structure Le (E E':eT):Prop where
 nx:∀β,E.nx β->E'.nx β
 rt:∀d β,E.rt d β->E'.rt d β
 bk:∀β,E.bk β->E'.bk β
 ct:∀β,E.ct β->E'.ct β
abbrev DU:=eT->ba->Prop
def LA (X:Cx)(C:Cfg)(ψ:DU):TS:=λD σ H=>∃Z E β,SB X C Z σ H β/\ψ E β/\Pd X C Z E D
structure PB (X:Cx)(C:Cfg)(st:Stmt)(ψ:DU):Prop where
 mono:∀E E' β,Le E E'->ψ E β->ψ E' β
 ps:PS X st (LA X C ψ)
structure qL (X:Cx)(C:Cfg)(st:List Stmt)(ψ:DU):Prop where
 mono:∀E E' β,Le E E'->ψ E β->ψ E' β
 ps:pG X st (LA X C ψ)
section
variable {X:Cx}{C:Cfg}{st:Stmt}{rest a b:List Stmt}{ψ ψ1 ψ2:DU}{Z:Hp×(Addr->Prop)}{σ:St}{H H':Hp}{β β':ba}{pos pos':Pos}{e c:Expr}{φ:aY}{τ:a_}{p:Bool}{own aN:Nat->List Addr}{i:Nat}{x:Str}
theorem Out.sb (n:Sn Z H (Wn own))(o:Out X C.z σ H own p β' H' aN):SB X C Z σ H' β':=⟨aN,o.sq,n.trans o.sn⟩
theorem aT:qL X C [] (λE β=>E.nx β):=⟨λE E' β l h=>l.nx β h,ml.pre λD σ H C4=>by obtain⟨Z,E,β,sb,h,ok⟩:=C4;exact ok.nx σ H β sb h⟩
theorem ai (h1:PB X C st ψ1)(h2:qL X C rest ψ2):qL X C (st::rest) (λE β=>ψ1 (E.up (ψ2 E)) β) :=
 ⟨λE E' β l h=>h1.mono {E with nx:=ψ2 E} {E' with nx:=ψ2 E'} β ⟨λβ' q=>h2.mono E E' β' l q,l.rt,l.bk,l.ct⟩ h,(cf h1.ps h2.ps).pre λD σ H ⟨Z,E,β,sb,h,ok⟩ =>
  ⟨Z,{E with nx:=ψ2 E},β,sb,h,⟨λσ' H' β' yp h'=>⟨Z,E,β',yp,h',ok⟩,ok.rt,ok.bk,ok.ct⟩⟩⟩
theorem ar (h1:PB X C st ψ):qL X C [st] ψ:=⟨h1.mono,eF h1.ps⟩
theorem bX (h1:PB X C st ψ1)(h2:qL X C rest ψ2):qL X C (st::rest) (λE β=>∃J:ba->Prop,ψ1 (E.up J) β/\∀β',J β'->ψ2 E β') :=
 ⟨λE E' β l CQ=>by obtain⟨J,h,k⟩:=CQ;exact⟨J,h1.mono {E with nx:=J} {E' with nx:=J} β ⟨λ_ q=>q,l.rt,l.bk,l.ct⟩ h,λβ' q=>h2.mono E E' β' l (k β' q)⟩,(cf h1.ps h2.ps).pre λD σ H ⟨Z,E,β,sb,⟨J,h,k⟩,ok⟩ =>
  ⟨Z,{E with nx:=J},β,sb,h,⟨λσ' H' β' yp h'=>⟨Z,E,β',yp,k β' h',ok⟩,ok.rt,ok.bk,ok.ct⟩⟩⟩
theorem tf:qL X C a (λ_ _=>False):=⟨λ_ _ _ _ h=>h.elim,sV.pre λD σ H J1=>by obtain⟨Z,E,β,sb,h,ok⟩:=J1;exact h.elim⟩
theorem bM (hc:uz X C.z p c τ)(ha:qL X C a ψ1)(hb:qL X C b ψ2):PB X C (.If c a b pos) (λE β=>τ β λt β'=>if t=true then ψ1 E β' else ψ2 E β') :=
 ⟨λE E' β l h=>hc.mono _ _ _ (λt β' q=>by
   cases t
   ·exact hb.mono E E' β' l q
   ·exact ha.mono E E' β' l q) h,(vA hc.pt ha.ps hb.ps).pre λD σ H JX=>by
  obtain⟨Z,E,β,⟨own,s,n⟩,h,ok⟩:=JX;refine iO.of hc s h λt β' H1 aE q o1=>?_;cases t
  ·exact⟨Z,E,β',o1.sb n,q,ok⟩
  ·exact⟨Z,E,β',o1.sb n,q,ok⟩⟩
abbrev Ay (d:D)(k:Kd)(K:B->Prop):Prop:=match k with
 |.own=>K (.val true d)
 |.de=>K (.val true d)
 |.old=>K (.val false d)
 |.bor=>d.flat=true/\K (.val true d)
theorem Ay.mono {d:D}{k:Kd}{K K':B->Prop}(h:∀b,K b->K' b)(q:Ay d k K):Ay d k K':=by
 cases k <;> first|exact h _ q|exact⟨q.1,h _ q.2⟩
theorem Ay.of {P:Qd}{w:Qq}{d:D}{v:V}{k:Kd}{K:B->Prop}(r:KV P w C Z own H k d v)(q:Ay d k K):∃y,K (.val y d)/\aA P w (av C (Wn own) (yk y)) H d v:=by
 cases k with
 |own=>exact⟨true,q,r.de⟩
 |de=>exact⟨true,q,r⟩
 |old=>exact⟨false,q,r⟩
 |bor=>exact⟨true,q.2,aA.flat q.1 r⟩
theorem l4 {own:Nat->List Addr}{i:Nat}(n:Sn Z H (Wn own)):Sn Z H (Wn (aG own i [])):=⟨λb z=>n.w b (dJ z),n.k,n.d⟩
theorem aV (he:PQ X C.z p e φ)(hN:X.N.Nodup)(hi:X.N[i]?=some x:=by rfl)(hx:Loc X.env.scope x:=by first|exact .inl rfl|exact .inr rfl)
  (hs:RN e (some (.Name x pos')) pos.line X.env=pure false:=by rfl) (hf:X.fn x=true\/X.env.scope.names.lookup x=some .local:=by first|exact .inl rfl|exact .inr rfl|assumption) :
  PB X C (.Assign [.Name x pos'] e pos) (λE β=>φ β λd k β'=>Ay d k λb=>E.nx (β'.set i (some b))) :=
 ⟨λE E' β l q=>he.mono _ _ _ (λd k β' q=>q.mono λ_=>l.nx _) q,(gW hN hi hx he.pe hs hf).pre λD σ H ⟨Z,E,β,⟨own,s,n⟩,q,ok⟩=>tQ.of he s q λd k β' v H' aN q o r=>by
  obtain⟨y,q,r⟩:=q.of r;exact ok.nx _ _ _ ⟨_,o.sq.eC (aA.aX (λa z=>z.elim id λz=>z.elim) r),l4 (n.trans o.sn)⟩ q⟩
abbrev xI (k:Kd)(d:D):Prop:=match k with
 |.own=>True
 |_=>d.flat=true
theorem KV.fl {P:Qd}{w:Qq}{d:D}{v:V}{k:Kd}(f:xI k d)(r:KV P w C Z own H k d v):KV P w C Z own H .own d v:=by
 cases k with
 |own=>exact r
 |de=>exact KV.flat f r.rep
 |old=>exact KV.flat f r.rep
 |bor=>exact KV.flat f r.rep
theorem fx (he:∀U,PQ X (C.u U) p e φ)(hN:X.N.Nodup)(hi:X.N[i]?=some x:=by rfl)(hx:Loc X.env.scope x:=by first|exact .inl rfl|exact .inr rfl)
  (hs:RN e (some (.Name x pos')) pos.line X.env=pure false:=by rfl) (hf:X.fn x=true\/X.env.scope.names.lookup x=some .local:=by first|exact .inl rfl|exact .inr rfl|assumption) :
  PB X C (.Assign [.Name x pos'] e pos) (λE β=>φ β λd k β'=>xI k d/\E.nx (β'.set i (some (.own d)))) :=
 ⟨λE E' β l q=>(he λ_=>False).mono _ _ _ (λd k β' q=>⟨q.1,l.nx _ q.2⟩) q,λpins s σ H D I ⟨Z,E,β,⟨own,sq,n⟩,q,ok⟩ =>
  gW hN hi hx (he λa=>H a=none).pe hs hf pins s σ H D I (tQ.of (he λa=>H a=none) (sq.gc (C:=C.z) (U:=λa=>H a=none) λa z=>z) q λd k β' v H' aN CZ o r=>by
   obtain⟨f,q⟩:=CZ;obtain⟨A,h1,h2,h3⟩:=r.fl f;refine ok.nx _ _ _ ⟨_,o.sq.pY h1 h2 λc hc=>⟨(h3 c hc).2.2,(h3 c hc).2.1,(h3 c hc).1⟩,?_⟩ q;have m:=n.trans o.sn;exact⟨λb Km=>by
    obtain⟨j,hj⟩:=Km
    by_cases aD:i=j
    ·rw[<- aD,os_eq]at hj;exact .inr (n.free (h3 b hj).1)
    ·rw[a5 aD]at hj;exact m.w b ⟨j,hj⟩,m.k,m.d⟩)⟩
theorem bD.BM {P:Qd}{w:Qq}{U U2:Addr->Prop}{d d':D}{v:V}{A':List Addr}{c:Addr}{o:HO}(b:bD P w (C.u U) σ H β own)(e:β[i]?=some (some (.own d)))(hσ:σ[i]?=some (some v))(hc:c∈own i)
  (r:Own P w (upd H c o) d' v A') (nd:A'.Nodup) (hA:∀a∈A',a∈own i\/(C.H0 a=none/\¬ Wn own a/\U a)) (hU:∀a,U2 a->U a) (OD:∀a∈A',¬ U2 a):bD P w (C.u U2) σ (upd H c o) (β.set i (some (.own d'))) (aG own i A'):=by
 obtain⟨g1,g2,g3,g4⟩:=b.dm i c hc;obtain⟨oc,wJ⟩:∃oc,H c=some oc:=by
  cases q:H c with
  |none=>exact absurd q g1
  |some oc=>exact⟨oc,rfl⟩
 have ht:∀xs,oc≠.tup xs:=λxs z=>g2 xs (by rw[wJ,z])
 have k:Kp (·=c) H (upd H c o):=hV wJ ht;have h0:∀a∈own i,C.H0 a=none:=by obtain⟨_,_,_,h⟩:=b.ow i d e;exact h
 have wc:Wn own c:=⟨i,hc⟩;have sub:∀y a,eg (C.u U2) (Wn (aG own i A')) (yk y) a->eg (C.u U) (Wn own) (yk y) a:=λy a h=>by
  have q:∀a,Wn (aG own i A') a->Wn own a\/U a:=λa wI=>by
   obtain⟨j,q⟩:=wI
   by_cases aD:i=j
   ·rw[aD,os_eq]at q;rcases hA a q with z|z
    ·exact .inl ⟨i,z⟩
    ·exact .inr z.2.2
   ·rw[a5 aD]at q;exact .inl ⟨j,q⟩
  rcases h with h|h
  ·cases y with
   |true=>exact h.elim (λz=>(q a z).imp .inl id) λz=>.inl (.inr z)
   |false=>exact q a h
  ·exact .inr (hU a h)
 have mem:∀{j c},c∈aG own i A' j->(i=j/\c∈A')\/(i≠j/\c∈own j):=λ{j c} h=>by
  by_cases aD:i=j
  ·subst aD;rw[os_eq]at h;exact .inl ⟨rfl,h⟩
  ·rw[a5 aD]at h;exact .inr ⟨aD,h⟩
 have HW:∀j,i≠j->∀a∈own j,a≠c:=λj aD a ha z=>aD (b.ic i j c hc (by rw[<- z];exact ha))
 refine⟨by simp[b.len],λj y' d2 e2=>?_,λj d2 e2=>?_,λj ok e2=>?_,λj a h=>?_,λj k2 a h1 h2=>?_,λj=>?_,⟨λa oa z n=>?_,λa xs z=>k.tup a xs (b.kp.tup a xs z)⟩,λa z=>?_,λj y' d2 e2=>by
  by_cases aD:i=j
  ·subst aD;obtain⟨e',hl⟩:=aQ e2;cases e'
  ·rw[aO aD]at e2;rw[a5 aD];obtain⟨u,h1,h2,h3⟩:=b.shl j y' d2 e2;exact⟨u,h1,h2.map (λa ha oa ea=>k.out a oa ea (HW j aD a ha)) (λ_ _ r=>ah.aX (sub _) (r.keep (k.mono λa z=>by rw[z];cases y' <;> first|exact .inl wc|exact .inl (.inl wc)))),h3⟩⟩
 ·by_cases aD:i=j
  ·subst aD;obtain⟨e',hl⟩:=aQ e2;cases e'
  ·rw[aO aD]at e2;obtain⟨u,h1,h2⟩:=b.val j y' d2 e2;exact⟨u,h1,(h2.keep (k.mono λa z=>by rw[z];cases y' <;> first|exact .inl wc|exact .inl (.inl wc))).aX (sub _)⟩
 ·by_cases aD:i=j
  ·subst aD;obtain⟨e',hl⟩:=aQ e2;cases e';rw[os_eq];exact⟨v,hσ,r,λa ha=>(hA a ha).elim (h0 a) λz=>z.1⟩
  ·rw[aO aD]at e2;rw[a5 aD];obtain⟨u,h1,h2,h3⟩:=b.ow j d2 e2;exact⟨u,h1,h2.keep k.tup (λa ha oa ea=>k.out a oa ea (HW j aD a ha)),h3⟩
 ·by_cases aD:i=j
  ·subst aD;obtain⟨e',hl⟩:=aQ e2;cases e'
  ·rw[aO aD]at e2;rw[a5 aD];obtain⟨a,ns,h1,h2,h3,h4,h5⟩:=b.lE j ok e2;exact⟨a,ns,h1,k.out a _ h2 (HW j aD a (by rw[h4];simp)),h3,h4,h5⟩
 ·rcases mem h with⟨_,h⟩|⟨aD,h⟩
  ·exact⟨(r.ki a h).1,(r.ki a h).2,.inl ((hA a h).elim (h0 a) λz=>z.1),OD a h⟩
  ·obtain⟨q1,q2,q3,q4⟩:=b.dm j a h;rw[aw (HW j aD a h)];exact⟨q1,q2,q3,λz=>q4 (hU a z)⟩
 ·rcases mem h1 with⟨e1,h1⟩|⟨n1,h1⟩
  ·rcases mem h2 with⟨e2,h2⟩|⟨n2,h2⟩
   ·rw[<- e1,<- e2]
   ·rcases hA a h1 with z|z
    ·exact absurd (b.ic i k2 a z h2) n2
    ·exact absurd ⟨k2,h2⟩ z.2.1
  ·rcases mem h2 with⟨e2,h2⟩|⟨n2,h2⟩
   ·rcases hA a h2 with z|z
    ·exact absurd (b.ic i j a z h1) n1
    ·exact absurd ⟨j,h1⟩ z.2.1
   ·exact b.ic j k2 a h1 h2
 ·by_cases aD:i=j
  ·rw[<- aD,os_eq];exact nd
  ·rw[a5 aD];exact b.i8 j
 ·refine k.out a oa (b.kp.out a oa z n) λq=>?_;subst q;rw[h0 a hc]at z;cases z
 ·by_cases My:a=c
  ·rw[My,au];exact λz=>(nomatch z)
  ·rw[aw My];exact b.ft a z
theorem bD.putIn {P:Qd}{w:Qq}{U:Addr->Prop}{d d':D}{v:V}{A':List Addr}{c:Addr}{o:HO}(b:bD P w (C.u U) σ H β own)(e:β[i]?=some (some (.own d)))(hσ:σ[i]?=some (some v))(hc:c∈own i)
  (r:Own P w (upd H c o) d' v A') (nd:A'.Nodup) (hA:∀a∈A',a∈own i\/(C.H0 a=none/\¬ Wn own a/\U a)):bD P w C.z σ (upd H c o) (β.set i (some (.own d'))) (aG own i A') :=
 b.BM (U2:=λ_=>False) e hσ hc r nd hA (λ_ z=>z.elim) λ_ _ z=>z
theorem fM {A':List Addr}{c:Addr}{o:HO}{U:Addr->Prop}(n:Sn Z H (Wn own))(m:∀a,U a->Z.1 a=none)(hc:Wn own c)(wJ:∃oc,H c=some oc/\∀xs,oc≠.tup xs)(hA:∀a∈A',a∈own i\/(C.H0 a=none/\¬ Wn own a/\U a)):Sn Z (upd H c o) (Wn (aG own i A')):=by
 obtain⟨oc,h1,h2⟩:=wJ;have u:=Sn.upd (o':=o) n h1 h2 hc;exact⟨λb CY=>by
  obtain⟨j,hj⟩:=CY
  by_cases aD:i=j
  ·rw[<- aD,os_eq]at hj;rcases hA b hj with z|z
   ·exact n.w b ⟨i,z⟩
   ·exact .inr (m b z.2.2)
  ·rw[a5 aD]at hj;exact n.w b ⟨j,hj⟩,u.k,u.d⟩
theorem bD.Au {P:Qd}{w:Qq}{ds:List D}(b:bD P w C σ H β own)(e:β[i]?=some (some (.own (.lst ds)))):∃a vs A',σ[i]?=some (some (.ref a))/\H a=some (.lst vs)/\own i=a::A'/\aK P w H ds vs A':=by
 obtain⟨v,h1,⟨a,vs,A',rfl,h2,h3,h4⟩,_⟩:=b.ow i _ e;exact⟨a,vs,A',h1,h2,h3,h4⟩
variable {px ap cp:Pos}
theorem gX (he:∀U,PQ X (C.u U) p e φ)(hN:X.N[i]?=some x:=by rfl)(hv:m6 X.env.scope x:=by first|exact .inl rfl|exact .inr (.inl rfl)|exact .inr (.inr rfl))(hd:(x==("__debug__" : Str))=false:=by decide)(ee:(x==("__classdict__" : Str))=false:=by decide)
  (jR:Uy (.Name x px) "append" X.env (eval (.Name x px) X.env)=eval (.Name x px) X.env:=by rfl)
  (qr:((SF cp (Qt [e] X.env)).all (λx=>!x.1)&&(backToKw cp (UU [] X.env)).all (λx=>x.1.isSome)&&decide ([e].length+([]:List Ur).length+(if ([]:List Ur).isEmpty then 0 else 1)<30))=true:=by rfl)
  (jP:(ap.endLine==cp.line)=true:=by rfl) (hs:Qt [e] X.env=(false,eval e X.env)::Qt [] X.env:=by rfl) (fR:(SF cp (Qt [] X.env)).any (·.1)=false:=by rfl)
  (t_:RN (.Call (.Attribute (.Name x px) "append" ap) [e] [] cp) none pos.line X.env=pure false:=by rfl) :
  PB X C (.Expr (.Call (.Attribute (.Name x px) "append" ap) [e] [] cp) pos) (λE β=>(∃ds,β[i]?=some (some (.own (.lst ds))))/\φ β λd k β'=>xI k d/\∃ds,β'[i]?=some (some (.own (.lst ds)))/\ds.length<Qp/\E.nx (β'.set i (some (.own (.lst (ds++[d])))))):=by
 refine⟨λE E' β l wH=>by obtain⟨h1,q⟩:=wH;exact⟨h1,(he λ_=>False).mono _ _ _ (λd k β' wG=>by obtain⟨f,ds,h1,h2,q⟩:=wG;exact⟨f,ds,h1,h2,l.nx _ q⟩) q⟩,λpins s σ H D I ⟨Z,E,β,⟨own,sq,n⟩,⟨⟨MG,hb⟩,q⟩,ok⟩=>?_⟩
 refine iX (pos:=pos) (vI (apos:=ap) (cpos:=cp) PySem.F.plainAttrs_list PySem.F.slot_list_append PySem.F.type_list_append fy (cy (pos:=px) hN hv hd ee) (bo (he λa=>H a=none).pe dt hs) jR qr jP hs fR) t_ pins s σ H D I ?_;obtain⟨a,vs,A',h1,h2,h3,h4⟩:=sq.Au hb;refine⟨.ref a,h1,.inl ⟨rfl,vs,c6.of h2⟩,tQ.of (he λa=>H a=none) (sq.gc (C:=C.z) (U:=λa=>H a=none) λa z=>z) q λd k β' v H1 aE ⟨f,ds,iV,hl,q⟩ o r=>?_⟩;obtain⟨a',vs',A1,g1,g2,g3,g4⟩:=o.sq.Au iV;rw[h1]at g1;cases g1;obtain⟨A,r1,r2,r3⟩:=r.fl f;have ha:a∈aE i:=by rw[g3];simp
 have nd:(a::(A1++A)).Nodup:=by
  have q:=o.sq.i8 i;rw[g3]at q;refine QB.mpr ⟨λz=>?_,Q9.mpr ⟨(QB.mp q).2,r2,λx hx y hy e=>?_⟩⟩
  ·rcases Qr.mp z with z|z
   ·exact(QB.mp q).1 z
   ·exact(r3 a z).2.1 ⟨i,ha⟩
  ·subst e;exact(r3 x hy).2.1 ⟨i,by rw[g3];simp[hx]⟩
 have hA:∀b∈a::(A1++A),b∈aE i\/(C.H0 b=none/\¬ Wn aE b/\H b=none):=λb hb=>by
  rcases Qc.mp hb with rfl|hb
  ·exact .inl ha
  ·rcases Qr.mp hb with hb|hb
   ·exact .inl (by rw[g3];simp[hb])
   ·exact .inr ⟨(r3 b hb).2.2,(r3 b hb).2.1,(r3 b hb).1⟩
 have kt:∀b xs,H1 b=some (.tup xs)->upd H1 a (.lst (vs'++[v])) b=some (.tup xs):=λb xs z=>by
  rw[aw (λz'=>by rw[z',g2]at z;cases z)];exact z
 have ne1:∀c∈A1,c≠a:=λc hc z=>by
  have q:=o.sq.i8 i;rw[g3]at q;exact(QB.mp q).1 (by rw[<- z];exact hc)
 have ne2:∀c∈A,c≠a:=λc hc z=>(r3 c hc).2.1 ⟨i,by rw[z];exact ha⟩
 have r':Own X.prog X.w (upd H1 a (.lst (vs'++[v]))) (.lst (ds++[d])) (.ref a) (a::(A1++A)) :=
  ⟨a,vs'++[v],A1++A,rfl,au,rfl,(g4.keep kt λc hc oc ec=>by rw[aw (ne1 c hc)];exact ec).append (aK.one (r1.keep kt λc hc oc ec=>by rw[aw (ne2 c hc)];exact ec))⟩
 exact⟨a,vs',v,rfl,rfl,g2,by rw[g4.length];exact hl,ok.nx _ _ _ ⟨_,o.sq.putIn iV h1 ha r' nd hA,fM (n.trans o.sn) (λb z=>n.free z) ⟨i,ha⟩ ⟨_,g2,λxs z=>by cases z⟩ hA⟩ q⟩
end
abbrev cZ:=D->Kd->ba->(ba->Prop)->Prop
abbrev lS:=List D->Kd->ba->(ba->Prop)->Prop
structure sC (X:Cx)(C:Cfg)(tg:Expr)(T:List Nat)(γ:cZ):Prop where
 mono:∀d k β R R',(∀r,R r->R' r)->γ d k β R->γ d k β R'
 pg:PG X tg λv σ H Q=>∃own β d k,SQ X C σ H β own/\Rp X (eg C (Wn own) k) H d v/\γ d k β λβ'=>∀σ' aN,SQ X C σ' H β' aN->(∀a,Wn aN a->Wn own a)->(∀j,j∉T->σ'[j]?=σ[j]?)->Q σ' H
structure Aa (X:Cx)(C:Cfg)(sI:List Expr)(T:List Nat)(γ:lS):Prop where
 mono:∀d k β R R',(∀r,R r->R' r)->γ d k β R->γ d k β R'
 LM:AY X sI λvs σ H Q=>∃own β ds k,SQ X C σ H β own/\gO X (eg C (Wn own) k) H ds vs/\γ ds k β λβ'=>∀σ' aN,SQ X C σ' H β' aN->(∀a,Wn aN a->Wn own a)->(∀j,j∉T->σ'[j]?=σ[j]?)->Q σ' H
section
variable {X:Cx}{C:Cfg}{tg:Expr}{sI:List Expr}{γ:cZ}{γs:lS}{T T':List Nat}{pos:Pos}{e:Expr}{φ:aY}{p:Bool}
def OH (i:Nat):cZ:=λd k β R=>Ay d k λb=>R (β.set i (some b))
theorem ak {i:Nat}{x:Str}(hN:X.N.Nodup)(hi:X.N[i]?=some x:=by rfl)(hx:Loc X.env.scope x:=by first|exact .inl rfl|exact .inr rfl)
  (hf:X.fn x=true\/X.env.scope.names.lookup x=some .local:=by first|exact .inl rfl|exact .inr rfl|assumption):sC X C (.Name x pos) [i] (OH i) :=
 ⟨λd k β R R' h q=>Ay.mono (d:=d) (k:=k) (K:=λb=>R (β.set i (some b))) (K':=λb=>R' (β.set i (some b))) (λ_=>h _) q,(yC hN hi hx hf).pre λv σ H Q C4=>by
  obtain⟨own,β,d,k,s,r,q⟩:=C4;have HS:∀(v:V) (j:Nat),j∉[i]->(σ.set i (some v))[j]?=σ[j]?:=λv j hj=>aO (Rr (by simpa using hj))
  cases k with
  |own=>exact q _ _ (s.eC (y:=true) r) (λa h=>dJ h) (HS v)
  |de=>exact q _ _ (s.eC (y:=true) r) (λa h=>dJ h) (HS v)
  |old=>exact q _ _ (s.eC (y:=false) r) (λa h=>dJ h) (HS v)
  |bor=>exact q.2 _ _ (s.eC (y:=true) (aA.flat q.1 r)) (λa h=>dJ h) (HS v)⟩
abbrev sk (k:Kd):D->Kd
 |.int _=>.own
 |.bl _=>.own
 |.d7=>.own
 |.str _=>.own
 |_=>k.wk
theorem l6 {P:Qd}{w:Qq}{W:Addr->Prop}{H:Hp}{k:Kd}{d:D}{v:V}(r:aA P w (eg C W k) H d v):aA P w (eg C W (sk k d)) H d v:=by
 cases d with
 |int i=>exact aA.flat rfl r
 |bl i=>exact aA.flat rfl r
 |d7=>exact aA.flat rfl r
 |str i=>exact aA.flat rfl r
 |_=>exact aA.aX (λa z=>z.imp (AU a) id) r
def Dr:lS:=λds _ β R=>ds=[]/\R β
def wU (γ:cZ)(γs:lS):lS:=λds k β R=>∃d r,ds=d::r/\γ d (sk k d) β λβ'=>γs r k β' R
theorem bS:Aa X C [] [] Dr:=⟨λd k β R R' h q=>⟨q.1,h _ q.2⟩,yB.pre λvs σ H Q zu=>by
 obtain⟨own,β,ds,k,s,r,e,q⟩:=zu;subst e;exact⟨r,q σ own s (λ_ z=>z) λ_ _=>rfl⟩⟩
theorem aH (h1:sC X C tg T γ)(h2:Aa X C sI T' γs)(hs:(R_ (tg::sI) X.env).map (·.2)=assign tg X.env::(R_ sI X.env).map (·.2):=by rfl):Aa X C (tg::sI) (T++T') (wU γ γs) :=
 ⟨λds k β R R' h CQ=>by obtain⟨d,r,e,q⟩:=CQ;exact⟨d,r,e,h1.mono _ _ β _ _ (λβ' q=>h2.mono r k β' _ _ h q) q⟩,
  (vG h1.pg h2.LM hs).pre λvs σ H Q J8=>by
    obtain⟨own,β,ds,k,s,rr,d,r,e,q⟩:=J8;subst e;obtain⟨v,vr,rfl,rv,Ng⟩:=rr;exact⟨v,vr,rfl,own,β,d,_,s,l6 rv,h1.mono _ _ β _ _ (λβ' q σ' aN s' w' t'=>⟨aN,β',r,k,s',ah.aX (d_ w' k) Ng,h2.mono r k β' _ _ (λβ2 q2 σ2 bp s2 w2 t2=>q2 σ2 bp s2 (λa z=>w' a (w2 a z)) λj hj=>(t2 j λz=>hj (QV _ z)).trans (t' j λz=>hj (RL _ z))) q⟩) q⟩⟩
def OG (n:Nat)(γs:lS):cZ:=λd k β R=>∃ds,d=.tup ds/\ds.length=n/\γs ds k β R
theorem cM {k:Nat}{n:Nat}(hc:X.calm=true)(h:Aa X C sI T γs)(hn:(R_ sI X.env).length=n:=by rfl)(F6:(R_ sI X.env).findIdx? (·.1)=none:=by rfl):sC X C (.Tuple sI k pos) T (OG n γs) :=
 ⟨λd k β R R' hh J2=>by obtain⟨ds,e,l,q⟩:=J2;exact⟨ds,e,l,h.mono ds k β _ _ hh q⟩,(BQ hc h.LM hn F6).pre λv σ H Q F9=>by
  obtain⟨own,β,d,k,s,r,ds,e,l,q⟩:=F9;subst e;obtain⟨a,vs,rfl,ha,rs⟩:=r;exact⟨a,vs,rfl,pL.of ha,by rw[rs.length];exact l,own,β,ds,k,s,rs,q⟩⟩
theorem fu {Z:Hp×(Addr->Prop)}{H:Hp}{own aN:Nat->List Addr}(n:Sn Z H (Wn own))(h:∀a,Wn aN a->Wn own a):Sn Z H (Wn aN):=⟨λb z=>n.w b (h b z),n.k,n.d⟩
theorem qe (he:PQ X C.z p e φ)(hg:sC X C.z tg T γ)(hs:Uw [tg] e pos.line X.env=pure false:=by rfl)(hw:Ux [tg] e X.env=pure none:=by rfl)
  (h1:(R_ [tg] X.env).map (·.2)=[assign tg X.env]:=by rfl):PB X C (.Assign [tg] e pos) (λE β=>φ β λd k β'=>γ d k β' E.nx) :=
 ⟨λE E' β l q=>he.mono _ _ _ (λd k β' q=>hg.mono _ _ _ _ _ l.nx q) q,(jy he.pe hg.pg hs hw h1).pre λD σ H ⟨Z,E,β,⟨own,s,n⟩,q,ok⟩=>tQ.of he s q λd k β' v H' aN q o r =>
  ⟨aN,β',d,k,o.sq,aA.aX (λa z=>z.elim id λz=>z.elim) r.rep,hg.mono _ _ _ _ _ (λβ2 q σ2 bp s2 w2 _=>ok.nx _ _ _ ⟨bp,s2,fu (n.trans o.sn) w2⟩ q) q⟩⟩
theorem yH (he:PQ X C.z p e φ)(t_:RN e none pos.line X.env=pure false:=by rfl):PB X C (.Expr e pos) (λE β=>φ β λ_ _ β'=>E.nx β') :=
 ⟨λE E' β l q=>he.mono _ _ _ (λd k β' q=>l.nx _ q) q,(iX he.pe t_).pre λD σ H J1=>by obtain⟨Z,E,β,⟨own,s,n⟩,q,ok⟩:=J1;exact tQ.of he s q λd k β' v H' aN q o r=>ok.nx _ _ _ (o.sb n) q⟩
abbrev L6 (ro:Bool)(k:Kd)(d:D):Prop:=match k,ro with
 |.own,_=>True
 |.de,false=>True
 |_,_=>d.flat=true
theorem d8 {P:Qd}{w:Qq}{W:Addr->Prop}{ro:Bool}{H H':Hp}{d:D}{v:V}(f:d.flat=true)(r:aA P w W H' d v):m9 P w ro H H' d v:=by
 cases ro with
 |true=>exact⟨[],cX f r,Q5,λc hc=>(nomatch hc)⟩
 |false=>exact aA.flat f r
theorem yZ {P:Qd}{w:Qq}{Z:Hp×(Addr->Prop)}{own:Nat->List Addr}{ro:Bool}{H':Hp}{k:Kd}{d:D}{v:V}(f:L6 ro k d)(r:KV P w C Z own H' k d v):m9 P w ro C.H0 H' d v:=by
 cases k with
 |own =>
  cases ro with
  |true=>obtain⟨A,h1,h2,h3⟩:=r;exact⟨A,h1,h2,λc hc=>(h3 c hc).2.2⟩
  |false=>exact aA.aX (λa z=>.inr z) r.rep
 |de =>
  cases ro with
  |true=>exact d8 f r.rep
  |false=>exact aA.aX (λa z=>.inr z) r.rep
 |old=>cases ro <;> exact d8 f r.rep
 |bor=>cases ro <;> exact d8 f r.rep
theorem bw (he:PQ X C.z p e φ):PB X C (.Return (some e) pos) (λE β=>φ β λd k β'=>L6 C.ro k d/\E.rt d β') :=
 ⟨λE E' β l q=>he.mono _ _ _ (λd k β' q=>⟨q.1,l.rt _ _ q.2⟩) q,(fb he.pe).pre λD σ H JX=>by obtain⟨Z,E,β,⟨own,s,n⟩,q,ok⟩:=JX;exact tQ.of he s q λd k β' v H' aN q o r=>ok.rt _ _ _ _ _ (o.sb n) (yZ (C:=C.z) q.1 r) q.2⟩
theorem rl {i:Nat}{x:Str}{px:Pos}(hN:X.N[i]?=some x:=by rfl)(hv:m6 X.env.scope x:=by first|exact .inl rfl|exact .inr (.inl rfl)|exact .inr (.inr rfl))(hd:(x==("__debug__" : Str))=false:=by decide)(ee:(x==("__classdict__" : Str))=false:=by decide):
  PB X C (.Return (some (.Name x px)) pos) (λE β=>∃d,β[i]?=some (some (.own d))/\E.rt d β) :=
 ⟨λE E' β l C3=>by obtain⟨d,h1,q⟩:=C3;exact⟨d,h1,l.rt _ _ q⟩,(fb (cy (pos:=px) hN hv hd ee)).pre λD σ H C0=>by
  obtain⟨Z,E,β,⟨own,s,n⟩,⟨d,h1,q⟩,ok⟩:=C0;obtain⟨v,e1,r,h0⟩:=s.ow i d h1;refine⟨_,e1,ok.rt _ _ _ _ _ ⟨own,s,n⟩ ?_ q⟩;cases hr:C.ro with
  |true=>exact⟨_,r,s.i8 i,h0⟩
  |false=>exact r.rep λc hc z=>z (h0 c hc)⟩
end
abbrev b5:=ba->(List D->Kd->ba->Prop)->Prop
structure qK (X:Cx)(C:Cfg)(p:Bool)(tg iter:Expr)(ι:b5):Prop where
 mono:∀β R R',(∀d k β,R d k β->R' d k β)->ι β R->ι β R'
 pi:PI X tg iter λσ H R=>∃β own,SQ X C σ H β own/\ι β λds k β'=>∀J H' aN,Out X C σ H own p β' H' aN->sF X (av C (Wn aN) k) J ds H'->R J H'
section
variable {X:Cx}{C:Cfg}{tg e a b:Expr}{φ:aY}{φs:bP}{p:Bool}{pp pos:Pos}
def JP (φ:aY):b5:=λβ R=>φ β λd k β'=>∃ds,d=.lst ds/\R ds k β'
theorem bj (h:PQ X C p e φ):qK X C p tg e (JP φ) :=
 ⟨λβ R R' k q=>h.mono β _ _ (λd kd β' CZ=>by obtain⟨ds,e,q⟩:=CZ;exact⟨ds,e,k _ _ _ q⟩) q,(mw h.pe).pre λσ H R ⟨β,own,s,q⟩=>tQ.of h s q λd k β' v H1 aE wI o1 r1=>by
  obtain⟨ds,e,q1⟩:=wI;subst e;obtain⟨a,vs,rfl,h1,n1,q2⟩:=r1.rep;exact⟨a,rfl,⟨vs,c6.of h1⟩,q1 _ _ aE o1 (jL h1 n1 q2)⟩⟩
def zt (φs:bP):b5:=λβ R=>φs β λds _ β'=>∃j:Int,ds=[.int j]/\-(2 ^ 62)<=j/\j<2 ^ 62/\R (md 0 j.toNat) .de β'
def rJ (φs:bP):b5:=λβ R=>φs β λds _ β'=>∃i j:Int,ds=[.int i,.int j]/\(-(2 ^ 62)<=i/\i<2 ^ 62/\-(2 ^ 62)<=j/\j<2 ^ 62)/\R (md i (j-i).toNat) .de β'
theorem bG (hm:X.mg "range" = none) (ha:m8 X C p [a] φs) (hg:Gl X "range" := by rfl) (hs:Qt [a] X.env=[(false,eval a X.env)]:=by rfl):qK X C p tg (.Call (.Name "range" pp) [a] [] pos) (zt φs) :=
 ⟨λβ R R' k q=>ha.mono β _ _ (λd kd β' CW=>by obtain⟨j,e,h1,h2,q⟩:=CW;exact⟨j,e,h1,h2,k _ _ _ q⟩) q,(sZ hg hm ha.pa hs).pre λσ H R ⟨β,own,s,q⟩=>nz.of ha s q λds ks β' vs H1 aE CU o1 r1=>by
  obtain⟨j,e,h1,h2,q1⟩:=CU;subst e;obtain⟨x,rfl,hx⟩:=iN r1.fD;cases hx;exact⟨j,rfl,h1,h2,q1 _ _ aE o1 hX⟩⟩
theorem dq (hm:X.mg "range" = none) (ha:m8 X C p [a,b] φs) (hg:Gl X "range" := by rfl) (hs:Qt [a,b] X.env=[(false,eval a X.env),(false,eval b X.env)]:=by rfl) (h9:Qt [b] X.env=[(false,eval b X.env)]:=by rfl) :
  qK X C p tg (.Call (.Name "range" pp) [a,b] [] pos) (rJ φs) :=
 ⟨λβ R R' k q=>ha.mono β _ _ (λd kd β' CT=>by obtain⟨i,j,e,h1,q⟩:=CT;exact⟨i,j,e,h1,k _ _ _ q⟩) q,(ll hg hm ha.pa hs h9).pre λσ H R ⟨β,own,s,q⟩=>nz.of ha s q λds ks β' vs H1 aE Kl o1 r1=>by
  obtain⟨i,j,e,h1,q1⟩:=Kl;subst e;obtain⟨x,y,rfl,hx,hy⟩:=j7 r1.fD;cases hx;cases hy;exact⟨i,j,rfl,h1,q1 _ _ aE o1 hX⟩⟩
end
def zF (γ:cZ)(ψ:DU)(E:eT)(ds:List D)(k:Kd)(β:ba):Prop:=∃I:Nat->ba->Prop,I 0 β/\(∀i d β,ds[i]?=some d->I i β->γ d (sk k d) β λβ1=>ψ (E.lp (I (i+1))) β1)/\∀β,I ds.length β->E.nx β
section
variable {X:Cx}{C:Cfg}{tg iter:Expr}{γ:cZ}{T:List Nat}{ψ:DU}{ι:b5}{body:List Stmt}{pos:Pos}{p:Bool}
theorem zF.mono {E E':eT}{ds:List D}{k:Kd}{β:ba}(hγ:∀d k β R R',(∀r,R r->R' r)->γ d k β R->γ d k β R')(hψ:∀E E' β,Le E E'->ψ E β->ψ E' β)(l:Le E E'):zF γ ψ E ds k β->zF γ ψ E' ds k β:=λ⟨I,h0,h1,h2⟩ =>
 ⟨I,h0,λi d β e q=>hγ d _ β _ _ (λβ1 q=>hψ {nx:=I (i+1),rt:=E.rt,bk:=E.nx,ct:=I (i+1)} {nx:=I (i+1),rt:=E'.rt,bk:=E'.nx,ct:=I (i+1)} β1 ⟨λ_ q=>q,l.rt,l.nx,λ_ q=>q⟩ q) (h1 i d β e q),λβ q=>l.nx _ (h2 β q)⟩
theorem z9 {own bp:Nat->List Addr}{H H2:Hp}{k:Kd}(n:Sn (H,Wn own) H2 (Wn bp)):∀b,av C (Wn bp) k b->av C (Wn own) k b\/H b=none:=λb z=>by
 cases k with
 |own=>exact z.elim (λz=>(n.w b z).imp .inl id) λz=>.inl (.inr z)
 |de=>exact z.elim (λz=>(n.w b z).imp .inl id) λz=>.inl (.inr z)
 |old=>exact n.w b z
 |bor=>exact z.elim
theorem b7 (hp:PassesOwn (model X.prog X.w) X.A X.env X.xe)(hc:X.calm=true)(hi:qK X C.z p tg iter ι)(hg:sC X C.z tg T γ)(hb:qL X C body ψ)(hs:∀x,QX iter X.env x=pure x:=by intro _;rfl):
  PB X C (.For tg iter body [] pos) (λE β=>ι β λds k β1=>hold k false/\zF γ ψ E ds k β1) :=
 ⟨λE E' β l q=>hi.mono _ _ _ (λds k β1 q=>⟨q.1,q.2.mono hg.mono hb.mono l⟩) q,(vB hp hc hi.pi hg.pg hb.ps hs).pre λD σ H Kj=>by
  obtain⟨Z,E,β,⟨own,s,n⟩,q,ok⟩:=Kj;refine⟨β,own,s,hi.mono _ _ _ (λds k β1 ⟨hk,I,i0,i1,i2⟩ J H1 aE o1 it=>?_) q⟩;have n':=n.trans o1.sn;have ig:∀b,Wn aE b\/H1 b=none->av C.z (Wn aE) k b\/H1 b=none:=λb z=>by
   cases k with
   |own=>exact z.imp .inl id
   |de=>exact z.imp .inl id
   |old=>exact z
   |bor=>exact hk.elim
  have Eh:=it (λb=>av C.z (Wn aE) k b\/H1 b=none) λb z=>z;refine⟨λi m σ H=>i<=ds.length/\m=ds.length-i/\∃β,SB X C (H1,Wn aE) σ H β/\I i β,⟨_,Qv _,rfl,β1,⟨aE,o1.sq,Sn.refl⟩,i0⟩,?_⟩;rintro i m σ2 H2 ⟨hi,rfl,β2,⟨bp,s2,n2⟩,hl⟩;obtain⟨cj,mP⟩:=Eh i H2 (n2.k.mono ig)
  by_cases eX:i<ds.length
  ·right
   have hd:ds[i]?=some ds[i]:=Qm eX;obtain⟨go,yl⟩:=cj _ hd;refine⟨go,λσ' H'=>∃β,SB X C (H1,Wn aE) σ' H' β/\I (i+1) β,λσ' H' Kh=>by obtain⟨β',yp,wM⟩:=Kh;exact⟨_,by lia,eX,rfl,β',yp,wM⟩,λx H3 y=>?_⟩
   obtain⟨s3,r3⟩:=yl x H3 y;refine⟨bp,β2,_,_,s2.same s3,l6 (C:=C.z) (aA.aX (λb z=>z9 (C:=C) n2 b (z.elim id λz=>z.elim)) r3),hg.mono _ _ _ _ _ (λβ4 q σ4 nS s4 w4 _=>?_) (i1 i _ β2 hd hl)⟩;refine⟨(H1,Wn aE),_,β4,⟨nS,s4,fu (n2.same s3) w4⟩,q,⟨λσ5 H5 β5 sQ q5=>⟨β5,sQ,q5⟩,λσ5 H5 β5 d5 v5 sQ r5 q5=>?_,λσ5 H5 β5 sQ q5=>?_,λσ5 H5 β5 sQ q5=>⟨β5,sQ,q5⟩⟩⟩
   ·obtain⟨kA,s5,n5⟩:=sQ;exact ok.rt _ _ _ _ _ ⟨kA,s5,n'.trans n5⟩ r5 q5
   ·obtain⟨kA,s5,n5⟩:=sQ;exact ok.nx _ _ _ ⟨kA,s5,n'.trans n5⟩ q5
  ·left
   have e:i=ds.length:=by lia
   subst e;exact⟨mP (Qf _),ok.nx _ _ _ ⟨bp,s2,n'.trans n2⟩ (i2 β2 hl)⟩⟩
end
def startB (N:List Str)(ds:List D):ba:=ds.map (λd=>some (.val false d))++Qw (N.length-ds.length) none
def gS (N:List Str)(ok:List Int->Prop)(ds:List D):ba:=some (.hand ok)::(ds.map (λd=>some (.val false d))++Qw (N.length-(ds.length+1)) none)
section
variable {P:Qd}{w:Qq}{K:PySem.W.Frag}{mg:Str->Option P_}{base:Heap}
theorem e9 {i n:Nat}{b:B}(h:(Qw n (none:Option B))[i]?=some (some b)):False:=by
 rw[List.getElem?_replicate]at h
 split at h <;> cases h
theorem dY {ds:List D}{n i:Nat}{b:B}(h:(ds.map (λd=>some (B.val false d))++Qw n none)[i]?=some (some b)):∃d,ds[i]?=some d/\b=.val false d:=by
 by_cases hi:i<ds.length
 ·rw[R1 (by simpa using hi),Ql]at h
  cases q:ds[i]? with
  |none=>rw[q]at h;cases h
  |some d=>rw[q]at h;cases h;exact⟨d,rfl,rfl⟩
 ·rw[Rn (by simpa using hi)]at h
  exact(e9 h).elim
theorem gR {N:List Str}{vs:List V}{i:Nat}{v:V}(h:vs[i]?=some v):(start N vs)[i]?=some (some v):=by
 unfold start;rw[R1 (by simpa using (Qg.mp h).1),Ql,h]
 rfl
theorem vi {N:List Str}{vs:List V}{ds:List D}{H:Hp}{ro:Bool}(r:ah P w (λ_=>False) H ds vs):bD P w ⟨H,λ_=>False,ro,λ_=>False⟩ (start N vs) H (startB N ds) (λ_=>[]):=by
 refine⟨?_,λi y d h=>?_,λi d h=>?_,λi ok h=>?_,λi a h=>(nomatch h),λi j a h=>(nomatch h),λi=>Q5,Kp.refl,λ_ z=>z,λi y d h=>by obtain⟨d',e,e'⟩:=dY h;cases e'⟩
 ·unfold startB start;simp[r.length]
 ·obtain⟨d',e,e'⟩:=dY h;cases e';obtain⟨v,e1,e2⟩:=ah.get r e;exact⟨v,gR e1,aA.aX (λa z=>z.elim (λKc=>by obtain⟨_,q⟩:=Kc;exact(nomatch q)) λz=>z) e2⟩
 ·obtain⟨d',e,e'⟩:=dY h;cases e'
 ·obtain⟨d',e,e'⟩:=dY h;cases e'
theorem tp {x qual:Str}{st:Stmt}{f:Addr}{fd:Q0}{N ps:List Str}{k:Nat}{F:FD}{ro:Bool}(G:xR K x qual st f fd)(S:aS N ps (aC st))(len:∀ds R,F ds R->ds.length=ps.length)
  (jQ:∀(c5:P_) (A:Rj) (outer:List Env) (s:Qb) (H:Hp) (E:XK),da k (A.deeper (T5 qual (aC st) s.heap.objs.size f c5)) ->
   ∃ψ,qL (kS cW P w K mg base N qual (aC st) f c5 A outer s H E).Aq ⟨H,λ_=>False,ro,λ_=>False⟩ (dI st) ψ/\∀ds R,F ds R->ψ {nx:=λ_=>R .d7,rt:=λd _=>R d} (startB N ds)) :
  a9 P w K mg base cW (k+1) f fd ps (fZ P w ro F):=by
 refine G.ok S (λvs H Q E h=>?_) (λc5 A outer s H vs Q E hr h=>?_)
 ·obtain⟨ds,r,h⟩:=h;rw[r.length];exact len ds _ h
 ·obtain⟨ds,r,h⟩:=h;obtain⟨ψ,hb,hF⟩:=jQ c5 A outer s H E hr;refine⟨_,hb.ps,(H,Wn λ_=>[]),_,startB N ds,⟨λ_=>[],vi r,Sn.refl⟩,hF ds _ h,λσ H' β sb q=>?_,λσ H' β d v sb rr q=>?_,λ_ _ _ _ z=>z.elim,λ_ _ _ _ z=>z.elim⟩
  ·obtain⟨own,s',n'⟩:=sb;exact q _ H' (λb o e=>s'.kp.out b o e (λz=>z)) (d8 (W:=λ_=>False) rfl rfl)
  ·obtain⟨own,s',n'⟩:=sb;exact q _ H' (λb o e=>s'.kp.out b o e (λz=>z)) rr
theorem sM {N:List Str}{ok:List Int->Prop}{h:Addr}{ns:List Int}{vs:List V}{ds:List D}{H:Hp}{ro:Bool}(hh:H h=some (.lst (ns.map V.int)))(ho:ok ns)(r:ah P w (λa=>a=h) H ds vs):
  bD P w ⟨H,(·=h),ro,λ_=>False⟩ (start N (.ref h::vs)) H (gS N ok ds) (λi=>if i=0 then [h] else []):=by
 have yL:∀{i:Nat} {a:Addr},a∈(if i=0 then [h] else ([]:List Addr))->i=0/\a=h:=λ{i a} q=>by
  by_cases e:i=0
  ·rw[if_pos e]at q;exact⟨e,by simpa using q⟩
  ·rw[if_neg e]at q;cases q
 have zE:∀{i:Nat} {b:B},(gS N ok ds)[i]?=some (some b)->(i=0/\b=.hand ok)\/∃j d,i=j+1/\ds[j]?=some d/\b=.val false d:=λ{i b} q=>by
  unfold gS at q;cases i with
  |zero=>simp at q;exact .inl ⟨rfl,q.symm⟩
  |succ i =>
   rw[List.getElem?_cons_succ]at q;obtain⟨d,e,e'⟩:=dY q;exact .inr ⟨i,d,rfl,e,e'⟩
 refine⟨?_,λi y d q=>?_,λi d q=>?_,λi uG q=>?_,λi a q=>?_,λi j a h1 h2=>?_,λi=>?_,Kp.refl,λ_ z=>z,λi y d q=>(zE q).elim (λJ0=> by obtain⟨_,e⟩ := J0;cases e) (λCO=> by obtain⟨j,d',_,_,e'⟩ := CO;cases e')⟩
 ·unfold gS start;simp[r.length]
 ·rcases zE q with⟨_,e⟩|⟨j,d',rfl,e,e'⟩
  ·cases e
  ·cases e';obtain⟨v,e1,e2⟩:=ah.get r e;exact⟨v,gR (by simpa using e1),aA.aX (λa z=>z.elim (λKb=>by obtain⟨j,q⟩:=Kb;exact(yL q).2) λz=>z.elim) e2⟩
 ·rcases zE q with⟨_,e⟩|⟨j,d',_,_,e'⟩
  ·cases e
  ·cases e'
 ·rcases zE q with⟨e0,e⟩|⟨j,d',_,_,e'⟩
  ·cases e;subst e0;exact⟨h,ns,gR rfl,hh,ho,rfl,.inr rfl⟩
  ·cases e'
 ·obtain⟨_,rfl⟩:=yL q;exact⟨by rw[hh];exact λz=>(nomatch z),λxs z=>(by rw[hh]at z;cases z),.inr rfl,λz=>z⟩
 ·rw[(yL h1).1,(yL h2).1]
 ·by_cases e:i=0
  ·simp[e]
  ·simp[e]
theorem B_ {x qual:Str}{st:Stmt}{f:Addr}{fd:Q0}{N ps:List Str}{k:Nat}{F:FD}{ok:List Int->Prop}{ro:Bool}(G:xR K x qual st f fd)(S:aS N ps (aC st))(len:∀ds R,F ds R->ds.length+1=ps.length)
  (jQ:∀(c5:P_) (A:Rj) (outer:List Env) (s:Qb) (H:Hp) (E:XK) (IO:Addr->Prop),da k (A.deeper (T5 qual (aC st) s.heap.objs.size f c5)) ->
   ∃ψ,qL (kS cW P w K mg base N qual (aC st) f c5 A outer s H E).Aq ⟨H,IO,ro,λ_=>False⟩ (dI st) ψ/\∀ds R,F ds R->ψ {nx:=λ_=>False,rt:=λd β=>β[0]?=some (some (.hand ok))/\R d} (gS N ok ds)) :
  a9 P w K mg base cW (k+1) f fd ps (iP P w ok ro F):=by
 refine G.ok S (λvs H Q E h=>?_) (λc5 A outer s H vs Q E hr h=>?_)
 ·obtain⟨h,vs',ds,ns,rfl,hh,ho,r,q⟩:=h;rw[Qx,r.length];exact len ds _ q
 ·obtain⟨h,vs',ds,ns,rfl,hh,ho,r,q⟩:=h;obtain⟨ψ,hb,hF⟩:=jQ c5 A outer s H E (·=h) hr;refine⟨_,hb.ps,(H,_),_,gS N ok ds,⟨_,sM hh ho r,Sn.refl⟩,hF ds _ q,λσ H' β sb z=>z.elim,λσ H' β d v sb rr ⟨b0,q⟩=>?_,λ_ _ _ _ z=>z.elim,λ_ _ _ _ z=>z.elim⟩;obtain⟨own,s',n'⟩:=sb;obtain⟨a,vV,g1,g2,g3,g4,g5⟩:=s'.lE 0 ok b0;have ea:a=h:=g5.elim (λz=>(z h rfl).elim) λz=>z;subst ea;exact q v H' vV s'.kp s'.ft g2 g3 rr
end
end L2.Q
namespace L2
open PySem PySem.Spec PySem.SeqAt PyProof.Rows
theorem nc.pre {X:Cx}{ifs:List Expr}{t t':TT}(h:nc X ifs t)(k:∀σ H Q,t' σ H Q->t σ H Q):nc X ifs t':=λpins s σ H Q I q=>h pins s σ H Q I (k σ H Q q)
section
end
section
end
section
variable {X:Cx}{e:Expr}{g:Sa}{gs:List Sa}{scope:Sd}{N':List Str}{lk:List (Option Nat)}{tg:Addr->TG}{tt:Addr->TT}{wi:TI}
theorem iM {b9:Sem P_}{o:HO}{after:P_->Env->Sem Fin->Sem Fin}{ta:Addr->ik}(L:Links X scope N' lk)(hc:X.calm=true)(hA:fW X b9 o)
  (F:∀acc env,eV e 0 g acc env (after acc env))
  (kK:∀a cl C s H ex,PG (aF X scope N' cl C s H ex) g.target (tg a)/\nc (aF X scope N' cl C s H ex) g.ifs (tt a)/\j9 (aF X scope N' cl C s H ex) (after (.ref a) (aF X scope N' cl C s H ex).env) (ta a))
  {cl:List (Str×Addr)} (gQ:∀x,(x,QK)∈scope.names->∃c,cl.lookup x=some c) (kc:∀x c,cl.lookup x=some c->X.env.cells.lookup x=some c)
  {pins:List (Addr×Obj)} {σ:St} {s:Qb} {Q:V->Hp->Prop} {uH:P_} {E:P_->Qb->Prop} {RR:P_->Addr->Result->Qb->Prop}
  (h:DX X pins σ g.target (λJ H1=>∀a,H1 a=none->dX J (tg a) (tt a) (ta a) (λ_ H'=>Q (.ref a) H') (cN lk σ) (upd H1 a o)) uH s)
  (hR:∀a H' C s',Inv X pins σ H' s'->dw X pins H' C->(∃m,s'.heap.Ns C m)->Q (.ref a) H'->RR (.ref a) C (.ok .next) s') :
  QE (model X.prog X.w) X.A b9 (λacc s₃=>QE (model X.prog X.w) X.A (U9 scope X.env.globals cl [] X.env.qual none .none (some X.env)) (λxp s₄ =>
   T6 (model X.prog X.w) X.A (.compStart e 0 uH acc {xp with scope:=relabel scope X.env}) (RR acc xp.locals) s₄) E s₃) E s:=by
 obtain⟨it,fp,tn,J,H2,e1,I2,T,dW,f2,hl⟩:=h;subst e1;refine hA.ok pins s σ H2 _ E I2 λa s3 ha hn hk I3=>?_;refine wpAny_newFunctionEnv L.qg (by intro y hy;simp at hy) (λh₁ C9 CN=>?_) L.kind
 have C8:∀b∈fp,∃o,s3.heap.get? b=some o:=λb hb=>by
  obtain⟨ob,q,_⟩:=T.obj _ _ dW b hb;exact⟨ob,hk b ob q⟩
 have KR:∀b∈fp,b≠a:=λb hb=>by
  obtain⟨ob,q,_⟩:=T.obj _ _ dW b hb;exact QO (QA (Qs q) ha)
 have f3:∀b∈fp,dw X pins (upd H2 a o) b:=λb hb=>⟨by rw[aw (KR b hb)];exact(f2 b hb).1,(f2 b hb).2⟩
 have Em:∀b ob,s3.heap.get? b=some ob->h₁.get? b=some ob:=λb ob q=>CN.extBut b ob (QO (Qs q)) (Qi _ q);have El:h₁.Ns s3.heap.objs.size (λ_=>none):=C9;have I4:=wA (t':=s3.toks+([]:List (Str×P_)).length) I3 L f3 C8 gQ kc El Em;obtain⟨g1,g2,g3⟩:=kK a cl s3.heap.objs.size s3 (upd H2 a o) fp;have f4:∀b∈fp,dw (aF X scope N' cl s3.heap.objs.size s3 (upd H2 a o) fp) [] (upd H2 a o) b:=λb hb =>
  ⟨(f3 b hb).1,(I4.ok.Eu b hb).1,I4.ok.uf b hb,.inl hb,(I4.ok.Eu b hb).2,λp hp=>absurd (show p∈([]:List (Addr×Obj)) from hp) (by simp)⟩
 have Bv:tn 0 h₁:=T.keep 0 _ _ dW λb hb ob q=>Em b ob (hk b ob q);refine Tu (fT (X:=aF X scope N' cl s3.heap.objs.size s3 (upd H2 a o) fp) rfl hc (F (.ref a) _) g1 g2 g3 T I4 Bv f4 (hl a hn)) λr s' hr=>?_;obtain⟨rfl,σ',H',J',q⟩:=hr;have I5:Inv X pins σ H' s':=wB (C:=s3.heap.objs.size) (h'':=s'.heap) I3 f3 J' (.refl ..);refine hR a H' s3.heap.objs.size s' I5 (I3.qu (Qf _) J'.free) ?_ q;obtain⟨m,hm,_⟩:=J'.loc;exact⟨m,hm⟩
theorem jB {b9:Sem P_}{o:HO}{after:P_->Env->Sem Fin->Sem Fin}{ta:Addr->ik}{pos:Pos}(L:Links X scope N' lk)(hc:X.calm=true)(hA:fW X b9 o)
  (wQ:eval e X.env=comprehension e scope X.env pos b9 false (eval g.iter X.env)) (Ep:clausesOf e=g::gs)
  (F:∀acc env,eV e 0 g acc env (after acc env)) (hi:PI X g.target g.iter wi)
  (kK:∀a cl C s H ex,PG (aF X scope N' cl C s H ex) g.target (tg a)/\nc (aF X scope N' cl C s H ex) g.ifs (tt a)/\j9 (aF X scope N' cl C s H ex) (after (.ref a) (aF X scope N' cl C s H ex).env) (ta a))
  (hs:∀x,QX g.iter X.env x=pure x) :
  PE X e (λσ H Q=>wi σ H λJ H1=>∀a,H1 a=none->dX J (tg a) (tt a) (ta a) (λ_ H'=>Q (.ref a) H') (cN lk σ) (upd H1 a o)):=by
 intro pins s σ H Q I h;rw[wQ];obtain⟨cl,oG,gQ,kc⟩:=dU (env:=X.env) (scope:=scope) λx hx=>I.ok.has x (L.free x hx);refine TL (use:=none) Ep hs oG L.kind L.names (bQ (hi pins s σ H _ I h) λv s1 h1=>bQ h1 λuH s2 h2=>?_);refine iM (RR:=λacc C=>compPost (model X.prog X.w) X.A X.xe none (EP X pins σ Q) acc C) L hc hA F kK gQ kc h2 λa H' C s' I' f ⟨m,hm⟩ q=>?_;exact⟨m,hm,λh' qo=>⟨.ref a,H',I'.sameBut f qo,rfl,q⟩⟩
theorem vC {b9:Sem P_}{o:HO}{after:P_->Env->Sem Fin->Sem Fin}{ta:Addr->ik}{pos pos' nC:Pos}{y:Str}{i:Nat}(L:Links X scope N' lk)(hc:X.calm=true)(hA:fW X b9 o)
  (t_:RN e (some (.Name y pos')) nC.line X.env=pure true)
  (wQ:evalThenUse e X.env (assign (.Name y pos') X.env)=(do let _ <- comprehension e scope X.env pos b9 false (eval g.iter X.env) (some (assign (.Name y pos') X.env));pure ())) (Ep:clausesOf e=g::gs)
  (hN:X.N.Nodup) (hy:X.N[i]?=some y) (hx:Loc X.env.scope y) (hf:X.fn y=true\/X.env.scope.names.lookup y=some .local)
  (F:∀acc env,eV e 0 g acc env (after acc env)) (hi:PI X g.target g.iter wi)
  (kK:∀a cl C s H ex,PG (aF X scope N' cl C s H ex) g.target (tg a)/\nc (aF X scope N' cl C s H ex) g.ifs (tt a)/\j9 (aF X scope N' cl C s H ex) (after (.ref a) (aF X scope N' cl C s H ex).env) (ta a))
  (hs:∀x,QX g.iter X.env x=pure x) :
  PS X (.Assign [.Name y pos'] e nC) (λD σ H=>wi σ H λJ H1=>∀a,H1 a=none->dX J (tg a) (tt a) (ta a) (λ_ H'=>D.nx (σ.set i (some (.ref a))) H') (cN lk σ) (upd H1 a o)):=by
 intro pins s σ H D I h;rw[exec_Assign_Name_used _ _ _ _ t_,wQ];refine P9 (SA (P9 (P9 ?_)));obtain⟨cl,oG,gQ,kc⟩:=dU (env:=X.env) (scope:=scope) λx hx=>I.ok.has x (L.free x hx);refine bQ (TL (use:=some (assign (.Name y pos') X.env)) (Q:=λ_ s'=>SP X pins D .next s') Ep hs oG L.kind L.names (bQ (hi pins s σ H _ I h) λv s1 h1=>bQ h1 λuH s2 h2=>?_)) λ_ s' q=>Qn (Qn q)
 refine iM (Q:=λv H'=>D.nx (σ.set i (some v)) H') (RR:=λacc C=>compPost (model X.prog X.w) X.A X.xe (some (assign (.Name y pos') X.env)) (λ_ s'=>SP X pins D .next s') acc C) L hc hA F kK gQ kc h2 λa H' C s' I' f ⟨m,hm⟩ q=>?_
 show QE _ _ (assign (.Name y pos') X.env (.ref a)) _ _ s';have PU:∃o,s'.heap.get? C=some o:=by obtain⟨o,_,_,ho,_⟩:=hm;exact⟨o,ho⟩
 refine wpAny_assign_Name (k8 I' hN hy hx (v:=.ref a) (u:=.ref a) rfl (λs4 I4 k4=>?_) hf);obtain⟨a4,Nf,OA⟩:=k4;have zA:C≠a4:=by
  rcases OA with z|z
  ·rw[z];exact f.2.1
  ·exact(f.2.2.2.2.1 y a4 z).symm
 exact⟨m,hm.at' (λo e=>(Nf.2 C zA).trans e),λh' qo=>⟨_,H',I4.sameBut f qo,q⟩⟩
end
end L2
namespace L2.Q
open PySem PySem.Spec PySem.SeqAt PyProof.Rows
noncomputable def L7:Option B->Option B
 |some (.own d)=>some (.val false d)
 |some (.shl _ d)=>some (.val false d)
 |b=>b
def cB (lk:List (Option Nat))(β:ba):ba:=lk.map λl=>match l with|some j=>(match β[j]? with|some b=>L7 b|none=>none)|none=>none
def Ib:Option (Option B)->Bool
 |some (some (.hand _))=>true
 |_=>false
def br (lk:List (Option Nat))(β:ba)(own:Nat->List Addr)(i:Nat):List Addr:=match lk[i]? with
 |some (some j)=>if Ib β[j]?=true then own j else []
 |_=>[]
def dG:ba->ba->Prop
 |[],_=>True
 |some (.hand ok)::a,c=>c.head?=some (some (.hand ok))/\dG a c.tail
 |_::a,c=>dG a c.tail
theorem dG.get:∀{a c:ba} {i:Nat} {ok:List Int->Prop},dG a c->a[i]?=some (some (.hand ok))->c[i]?=some (some (.hand ok))
 |[],_,_,_,_,e=>by simp at e
 |x::a,c,0,ok,h,e=>by
  simp at e;subst e;rw[<- List.head?_eq_getElem?];exact h.1
 |x::a,c,i+1,ok,h,e=>by
  have h':dG a c.tail:=by
   cases x with
   |none=>exact h
   |some x=>cases x <;> first|exact h|exact h.2
  have:=dG.get (i:=i) h' (by simpa using e)
  rwa [List.getElem?_tail]at this
section
variable {P:Qd}{w:Qq}{C:Cfg}{σ σ':St}{H H' H1:Hp}{β βi:ba}{own gw:Nat->List Addr}{lk:List (Option Nat)}{a:Addr}
theorem bY {i:Nat}{c:Addr}(h:c∈br lk β own i):∃j,lk[i]?=some (some j)/\Ib β[j]?=true/\c∈own j:=by
 unfold br at h
 split at h
 ·next j e =>
  by_cases q:Ib β[j]?=true
  ·rw[if_pos q]at h;exact⟨j,e,q,h⟩
  ·rw[if_neg q]at h;cases h
 ·cases h
theorem bh:∀c,Wn (br lk β own) c->Wn own c:=λc ⟨i,h⟩=>let ⟨j,_,_,h⟩:=bY h;⟨j,h⟩
theorem fk {i j:Nat}{v:V}(h:lk[i]?=some (some j))(e:σ[j]?=some (some v)):(cN lk σ)[i]?=some (some v):=by
 unfold cN;rw[Ql,h];simp only[S5];rw[e]
theorem fz {i:Nat}{b:B}(h:(cB lk β)[i]?=some (some b)):∃j b',lk[i]?=some (some j)/\β[j]?=some (some b')/\L7 (some b')=some b:=by
 unfold cB at h;rw[Ql]at h;cases q:lk[i]? with
 |none=>rw[q]at h;cases h
 |some l =>
  rw[q]at h;cases l with
  |none=>cases h
  |some j =>
   simp only[S5]at h;cases q2:β[j]? with
   |none=>rw[q2]at h;cases h
   |some b2 =>
    rw[q2]at h;simp only[UK]at h;cases b2 with
    |none=>cases h
    |some b'=>exact⟨j,b',rfl,q2,h⟩
theorem bD.enter (s:bD P w C σ H β own)(ha:H a=none)(inj:∀(i i' j:Nat),lk[i]?=some (some j)->lk[i']?=some (some j)->i=i'):
  bD P w (C.u λc=>c=a) (cN lk σ) (upd H a (.lst [])) (cB lk β) (br lk β own):=by
 have sm:az H (upd H a (.lst [])):=az.new ha;have na:∀{i c},c∈own i->c≠a:=λ{i c} hc z=>(s.dm i c hc).1 (by rw[z];exact ha)
 have gr:∀k,∀c,eg (C.u λc=>c=a) (Wn (br lk β own)) k c->eg C (Wn own) k c\/H c=none:=λk c z=>by
  rcases z with z|z
  ·exact .inl (.inl (gM bh k c z))
  ·exact .inr (by rw[z];exact ha)
 refine⟨by unfold cB cN;simp,λi y d e=>?_,λi d e=>?_,λi ok e=>?_,λi c h=>?_,λi i' c h1 h2=>?_,λi=>?_,s.kp.trans sm.kp,λc z e=>s.ft c z (sm.free e),λi y d e=>by
  obtain⟨j,b',e1,e2,e3⟩:=fz e;cases b' <;> cases e3⟩
 ·obtain⟨j,b',e1,e2,e3⟩:=fz e;cases b' with
  |val y' d' =>
   cases e3;obtain⟨v,h1,h2⟩:=s.val j y d e2;exact⟨v,fk e1 h1,(aA.grow (gr _) h2).same sm⟩
  |own d' =>
   cases e3;obtain⟨v,h1,h2,h3⟩:=s.ow j d e2;refine⟨v,fk e1 h1,aA.same sm (h2.rep λc hc z=>?_)⟩;rcases z with z|z
   ·obtain⟨i',fF⟩:=z;obtain⟨j',q1,q2,q3⟩:=bY fF;have:=s.ic j j' c hc q3;subst this;rw[e2]at q2;cases q2
   ·exact na hc z
  |hand ok=>cases e3
  |shl y' d' =>
   cases e3;obtain⟨v,h1,h2,h3⟩:=s.shl j y' d e2;refine⟨v,fk e1 h1,aA.same sm (h2.rep (λc hc z=>?_) λds vs r=>ah.grow (λc z=>?_) r)⟩
   ·rcases z with z|z
    ·obtain⟨i',fF⟩:=z;obtain⟨j',q1,q2,q3⟩:=bY fF;have:=s.ic j j' c hc q3;subst this;rw[e2]at q2;cases q2
    ·exact na hc z
   ·rcases gr _ c z with z|z
    ·refine .inl ?_;rcases z with z|z
     ·cases y' with
      |true=>exact .inl (.inl z)
      |false=>exact .inl z
     ·exact .inr z
    ·exact .inr z
 ·obtain⟨j,b',e1,e2,e3⟩:=fz e;cases b' <;> cases e3
 ·obtain⟨j,b',e1,e2,e3⟩:=fz e;cases b' with
  |val y' d'=>cases e3
  |own d'=>cases e3
  |shl y d=>cases e3
  |hand uG =>
   cases e3;obtain⟨h,ns,h1,h2,h3,h4,h5⟩:=s.lE j ok e2;refine⟨h,ns,fk e1 h1,sm _ _ h2,h3,?_,h5⟩;unfold br;rw[e1];simp only;rw[e2];exact(if_pos rfl).trans h4
 ·obtain⟨j,q1,q2,q3⟩:=bY h;obtain⟨g1,g2,g3,g4⟩:=s.dm j c q3;rw[aw (na q3)];exact⟨g1,g2,g3,na q3⟩
 ·obtain⟨j,q1,q2,q3⟩:=bY h1;obtain⟨j',LJ,Pn,Nn⟩:=bY h2;have:=s.ic j j' c q3 Nn;subst this;exact inj _ _ _ q1 LJ
 ·unfold br
  split
  ·next j e =>
   split
   ·exact s.i8 j
   ·exact Q5
  ·exact Q5
theorem bD.BE {o:HO}(s:bD P w (C.u λc=>c=a) σ H β own){oa:HO}(ha:H a=some oa)(ht:∀xs,oa≠.tup xs)(h0:C.H0 a=none):bD P w (C.u λc=>c=a) σ (upd H a o) β own:=by
 have k:Kp (·=a) H (upd H a o):=hV ha ht;have na:∀{i c},c∈own i->c≠a:=λ{i c} hc=>(s.dm i c hc).2.2.2;refine⟨s.len,λi y d e=>let ⟨v,h1,h2⟩:=s.val i y d e;⟨v,h1,h2.keep (k.mono λc z=>.inr z)⟩,λi d e=>let ⟨v,h1,h2,h3⟩:=s.ow i d e;⟨v,h1,h2.keep k.tup (λc hc oc ec=>k.out c oc ec (na hc)),h3⟩,
  λi ok e=>?_,λi c h=>?_,s.ic,s.i8,⟨λc oc z n=>k.out c oc (s.kp.out c oc z n) λq=>?_,λc xs z=>k.tup c xs (s.kp.tup c xs z)⟩,λc z=>?_,λi y d e=>let ⟨v,h1,h2,h3⟩:=s.shl i y d e;⟨v,h1,h2.map (λc hc oc ec=>k.out c oc ec (na hc)) (λ_ _ r=>r.keep (k.mono λc z=>.inr z)),h3⟩⟩
 ·obtain⟨h,ns,h1,h2,h3,h4,h5⟩:=s.lE i ok e;exact⟨h,ns,h1,k.out h _ h2 (na (by rw[h4];simp)),h3,h4,h5⟩
 ·rw[aw (na h)];exact s.dm i c h
 ·rw[q,h0]at z;cases z
 ·by_cases q:c=a
  ·rw[q,au];exact λz=>(nomatch z)
  ·rw[aw q];exact s.ft c z
theorem bD.leave (s:bD P w C σ H1 β own)(i:bD P w (C.u λc=>c=a) σ' H' βi gw)(n:Sn (H1,Wn (br lk β own)) H' (Wn gw))(le:∀c,Wn gw c->Wn (br lk β own) c)
  (hh:dG (cB lk β) βi) (hσ:∀(j:Nat) (ok:List Int->Prop) (i:Nat),β[j]?=some (some (B.hand ok))->lk[i]?=some (some j)->σ'[i]?=(cN lk σ)[i]?):bD P w C σ H' β own:=by
 have off:∀{j c},c∈own j->¬ Wn (br lk β own) c->∀o,H1 c=some o->H' c=some o:=λ{j c} hc nw o e=>n.k.out c o e λz=>z.elim nw λz=>(s.dm j c hc).1 z;have F7:∀{j c},c∈own j->Ib β[j]?=false->¬ Wn (br lk β own) c:=λ{j c} hc q zu=>by
  obtain⟨i',fF⟩:=zu;obtain⟨j',q1,q2,q3⟩:=bY fF;have:=s.ic j j' c hc q3;subst this;rw[q]at q2;cases q2
 have hN:∀(j:Nat) (ok:List Int->Prop),β[j]?=some (some (B.hand ok))->∃a ns,σ[j]?=some (some (V.ref a))/\H' a=some (.lst (ns.map V.int))/\ok ns/\own j=[a]/\((∀b,¬ C.IO b)\/C.IO a):=λj ok e=>by
  obtain⟨h,ns,h1,h2,h3,h4,h5⟩:=s.lE j ok e
  by_cases q:Wn (br lk β own) h
  ·obtain⟨i',fF⟩:=q;obtain⟨j',q1,q2,q3⟩:=bY fF;have:=s.ic j j' h (by rw[h4];simp) q3
   subst this;have eB:(cB lk β)[i']?=some (some (.hand ok)):=by
    unfold cB;rw[Ql,q1];simp only[S5];rw[e];rfl
   obtain⟨h',vV,g1,g2,g3,g4,g5⟩:=i.lE i' ok (hh.get eB);rw[hσ j ok i' e q1,fk q1 h1]at g1;cases g1;exact⟨h,vV,h1,g2,g3,h4,h5⟩
  ·exact⟨h,ns,h1,off (by rw[h4];simp) q _ h2,h3,h4,h5⟩
 refine⟨s.len,λj y d e=>?_,λj d e=>?_,hN,λj c hc=>?_,s.ic,s.i8,i.kp,i.ft,λj y d e=>by
  obtain⟨v,h1,h2,h3⟩:=s.shl j y d e;refine⟨v,h1,h2.map (λc hc o eo=>off hc (F7 hc (by rw[e];rfl)) o eo) (λds vs r=>?_),h3⟩
  have g:ah P w (λc=>eg C (Wn own) (yk y) c\/H1 c=none) H1 ds vs:=ah.grow (λc z=>z) r;refine ah.aX (λc z=>.inl z) (g.keep (n.k.mono λc z=>z.imp (λz=>?_) id));cases y with
  |true=>exact .inl (.inl (bh c z))
  |false=>exact .inl (bh c z)⟩
 ·obtain⟨v,h1,h2⟩:=s.val j y d e;have g:aA P w (λc=>eg C (Wn own) (yk y) c\/H1 c=none) H1 d v:=aA.grow (λc z=>z) h2;refine⟨v,h1,aA.aX (λc z=>.inl z) (g.keep (n.k.mono λc z=>z.imp (λz=>?_) id))⟩;cases y with
  |true=>exact .inl (.inl (bh c z))
  |false=>exact .inl (bh c z)
 ·obtain⟨v,h1,h2,h3⟩:=s.ow j d e;exact⟨v,h1,h2.keep n.k.tup (λc hc o eo=>off hc (F7 hc (by rw[e];rfl)) o eo),h3⟩
 ·obtain⟨g1,g2,g3,g4⟩:=s.dm j c hc
  by_cases q:Wn (br lk β own) c
  ·obtain⟨i',fF⟩:=q;obtain⟨j',q1,q2,q3⟩:=bY fF;have:=s.ic j j' c hc q3;subst this;cases e:β[j]? with
   |none=>rw[e]at q2;cases q2
   |some b =>
    rw[e]at q2;cases b with
    |none=>cases q2
    |some b =>
     cases b with
     |val y d=>cases q2
     |own d=>cases q2
     |shl y d=>cases q2
     |hand ok =>
      obtain⟨h,ns,k1,k2,k3,k4,k5⟩:=hN j ok e;rw[k4]at hc;rw[Qj.mp hc]at g3 g4 ⊢
      rw[k2];exact⟨λz=>(nomatch z),λxs z=>(by cases z),g3,g4⟩
  ·cases e:H1 c with
   |none=>exact absurd e g1
   |some o=>rw[off hc q o e];exact⟨λz=>(nomatch z),λxs z=>g2 xs (by rw[e];exact z),g3,g4⟩
end
def EI:a_:=λβ R=>R true β
theorem vE {X:Cx}{C:Cfg}:nc X [] (iO X C true EI):=yw.pre λσ H Q ⟨β,own,s,q⟩=>q H own (Out.refl s _)
theorem vD {X:Cx}{C:Cfg}{p:Bool}{c:Expr}{τ:a_}(h:uz X C p c τ):nc X [c] (iO X C p τ):=yv h.pt
def jG (γ:cZ)(τ:a_)(φ:aY)(ds:List D)(k:Kd)(β0:ba)(K:List D->Prop):Prop:=∃I:Nat->ba->List D->Prop,I 0 β0 [] /\
 (∀i d β o,ds[i]?=some d->I i β o->γ d (sk k d) β λβ1=>τ β1 λt β2=>if t=true then φ β2 λx kx β3=>xI kx x/\o.length<Qp/\I (i+1) β3 (o++[x]) else I (i+1) β2 o)/\∀β o,I ds.length β o->dG β0 β/\K o
theorem jG.mono {γ:cZ}{τ:a_}{φ:aY}{ds:List D}{k:Kd}{β0:ba}{K K':List D->Prop}(h:∀o,K o->K' o)(q:jG γ τ φ ds k β0 K):jG γ τ φ ds k β0 K':=let ⟨I,h0,h1,h2⟩:=q;⟨I,h0,h1,λβ o z=>⟨(h2 β o z).1,h _ (h2 β o z).2⟩⟩
section
variable {X:Cx}{C:Cfg}{lk:List (Option Nat)}{γ:cZ}{τ:a_}{φ:aY}{T:List Nat}{pc pe:Bool}
theorem lK {σ:St}{H1:Hp}{β:ba}{own:Nat->List Addr}{a:Addr}{J:It}{ds:List D}{k:Kd}{K:List D->Prop}{End:Hp->Prop}
  (γm:∀d k β R R',(∀r,R r->R' r)->γ d k β R->γ d k β R') (τm:∀β R R',(∀d β,R d β->R' d β)->τ β R->τ β R') (φm:∀β R R',(∀d k β,R d k β->R' d k β)->φ β R->φ β R')
  (inj:∀(i i' j:Nat),lk[i]?=some (some j)->lk[i']?=some (some j)->i=i') (hT:∀i∈T,∀j,lk[i]?≠some (some j))
  (s1:SQ X C σ H1 β own) (ha:H1 a=none) {hp:Bool} (Kn:hp=true->(pc&&pe)=true) (hk:hold k hp) (it:sF X (av C (Wn own) k) J ds H1) (q:jG γ τ φ ds k (cB lk β) K)
  (fin:∀o H',K o->Out X C σ H1 own (pc&&pe) β H' own->KV X.prog X.w C (H1,Wn own) own H' .own (.lst o) (.ref a)->End H') :
  dX J (λv σ H Q=>∃own β d k,SQ X (C.u λc=>c=a) σ H β own/\Rp X (eg (C.u λc=>c=a) (Wn own) k) H d v/\γ d k β λβ'=>∀σ' aN,SQ X (C.u λc=>c=a) σ' H β' aN->(∀a,Wn aN a->Wn own a)->(∀j,j∉T->σ'[j]?=σ[j]?)->Q σ' H)
   (iO X (C.u λc=>c=a) pc τ) (λN σ H=>tQ X (C.u λc=>c=a) pe φ σ H λv H1=>∃xs,H1 a=some (.lst xs)/\xs.length<Qp/\N σ (upd H1 a (.lst (xs++[v]))))
   (λ_ H'=>End H') (cN lk σ) (upd H1 a (.lst [])):=by
 obtain⟨I,i0,i1,i2⟩:=q;have h0:C.H0 a=none:=QG λz=>s1.ft a z ha;have sm:az H1 (upd H1 a (.lst [])):=az.new ha;have LZ:∀c,Wn (br lk β own) c->c≠a:=λc z e=>by
  obtain⟨j,hj⟩:=bh c z;exact(s1.dm j c hj).1 (by rw[e];exact ha)
 let S:Nat->St->Hp->Prop:=λi σ' H'=>∃βi gw vs o A,SQ X (C.u λc=>c=a) σ' H' βi gw/\Sn (H1,Wn (br lk β own)) H' (Wn gw)/\(∀c,Wn gw c->Wn (br lk β own) c)/\H' a=some (.lst vs)/\aK X.prog X.w H' o vs A/\A.Nodup/\(∀c∈A,H1 c=none/\c≠a) /\
  ((pc&&pe)=true->az H1 H')/\(∀j,j∉T->σ'[j]?=(cN lk σ)[j]?)/\I i βi o
 have W':Addr->Prop:=λb=>av C (Wn own) k b\/H1 b=none;have Eh:=it (λb=>av C (Wn own) k b\/H1 b=none) λb z=>z;have kI:∀{H':Hp} {gw:Nat->List Addr},Sn (H1,Wn (br lk β own)) H' (Wn gw)->((pc&&pe)=true->az H1 H')->Kp (λb=>av C (Wn own) k b\/H1 b=none) H1 H':=λn pu=>by
  cases k with
  |own=>exact n.k.mono λb z=>z.imp (λz=>.inl (bh b z)) id
  |de=>exact n.k.mono λb z=>z.imp (λz=>.inl (bh b z)) id
  |old=>exact n.k.mono λb z=>z.imp (bh b) id
  |bor =>
   cases hp with
   |false=>exact hk.elim
   |true=>exact(pu (Kn rfl)).kp.mono λb z=>.inr z
 refine⟨λi m σ' H'=>i<=ds.length/\m=ds.length-i/\S i σ' H',⟨_,Qv _,rfl,cB lk β,br lk β own,[],[],[],s1.enter ha inj,⟨λb z=>.inl z,sm.kp,λb z e=>z (sm.free e)⟩,λ_ z=>z,au,⟨rfl,rfl⟩,Q5,λc hc=>(nomatch hc),λ_=>sm,λ_ _=>rfl,i0⟩,?_⟩;rintro i m σ2 H2 ⟨hi,rfl,βi,gw,vs,o,A,sq,sn,le,KS,os,nd,nw,pu,st,hl⟩;obtain⟨cj,mP⟩:=Eh i H2 (kI sn pu)
 by_cases eX:i<ds.length
 ·right
  have hd:ds[i]?=some ds[i]:=Qm eX;obtain⟨go,yl⟩:=cj _ hd;refine⟨go,λσ' H'=>S (i+1) σ' H',λσ' H' h=>⟨_,by omega,eX,rfl,h⟩,λx H3 y=>?_⟩
  obtain⟨s3,r3⟩:=yl x H3 y;have OR:∀{gw:Nat->List Addr},(∀c,Wn gw c->Wn (br lk β own) c)->∀c,eg (C.u λc=>c=a) (Wn gw) k c->av C (Wn own) k c\/H1 c=none:=λle c z=>z.elim (λz=>.inl (gM (λc z=>bh c (le c z)) k c z)) λz=>.inr (by rw[z];exact ha)
  refine⟨gw,βi,_,_,sq.same s3,l6 (aA.aX (OR le) r3),γm _ _ _ _ _ (λβ4 q σ4 nS s4 w4 t4=>?_) (i1 i _ βi o hd hl)⟩;have JF:∀c,Wn nS c->Wn (br lk β own) c:=λc z=>le c (w4 c z);refine⟨β4,nS,s4,τm _ _ _ (λt β5 q H5 kA o5=>?_) q⟩;have HZ:∀c,Wn kA c->Wn (br lk β own) c:=λc z=>JF c (o5.le c z);have wm:∀c,c∈a::A->∀oc,H2 c=some oc->H5 c=some oc:=λc hc oc e=>by
   refine o5.sn.k.out c oc (s3 c oc e) λz=>?_;rcases z with z|z
   ·rcases Qc.mp hc with rfl|hc
    ·exact LZ _ (JF _ z) rfl
    ·obtain⟨j,hj⟩:=bh c (JF c z);exact(s1.dm j c hj).1 (nw c hc).1
   ·exact absurd ((s3 c oc e).symm.trans z) (λz=>(nomatch z))
  have NN:∀b xs,H2 b=some (.tup xs)->H5 b=some (.tup xs):=λb xs e=>o5.sn.k.tup b xs (s3 b _ e);have Jr:aK X.prog X.w H5 o vs A:=os.keep NN λc hc oc e=>wm c (by simp[hc]) oc e
  have IX:Sn (H1,Wn (br lk β own)) H5 (Wn kA):=(fu (sn.same s3) w4).trans o5.sn;have LK:(pc&&pe)=true->az H1 H5:=λz=>((pu z).trans s3).trans (o5.pu (DQ z)).1;have Bv:∀j,j∉T->σ4[j]?=(cN lk σ)[j]?:=λj hj=>(t4 j hj).trans (st j hj);cases t with
  |false=>exact⟨β5,kA,vs,o,A,o5.sq,IX,HZ,wm a (by simp) _ KS,Jr,nd,nw,LK,Bv,q⟩
  |true =>
   refine⟨β5,kA,o5.sq,φm _ _ _ (λxd kx β6 ⟨f,hz,q⟩ v H6 yK o6 r6=>?_) q⟩;obtain⟨B',r1,r2,Jh⟩:=r6.fl f;have G6:H5 a=some (.lst vs):=wm a (by simp) _ KS
   have Ax:∀c,c∈a::A->∀oc,H5 c=some oc->H6 c=some oc:=λc hc oc e=>by
    refine o6.sn.k.out c oc e λz=>?_;rcases z with z|z
    ·rcases Qc.mp hc with rfl|hc
     ·exact LZ _ (HZ _ z) rfl
     ·obtain⟨j,hj⟩:=bh c (HZ c z);exact(s1.dm j c hj).1 (nw c hc).1
    ·exact absurd (e.symm.trans z) (λz=>(nomatch z))
   have oH:H6 a=some (.lst vs):=Ax a (by simp) _ G6
   have LN:aK X.prog X.w H6 o vs A:=Jr.keep o6.sn.k.tup λc hc oc e=>Ax c (by simp[hc]) oc e
   have Nv:∀c∈A,c≠a:=λc hc=>(nw c hc).2;have Fw:∀c∈B',c≠a:=λc hc z=>by rw[z]at hc;exact absurd (G6.symm.trans (Jh a hc).1) (λz=>(nomatch z))
   have kt:∀b xs,H6 b=some (.tup xs)->upd H6 a (.lst (vs++[v])) b=some (.tup xs):=λb xs z=>by rw[aw (λz'=>by rw[z',oH]at z;cases z)];exact z
   refine⟨vs,oH,by rw[LN.length];exact hz,β6,yK,vs++[v],o++[xd],A++B',o6.sq.BE oH (λxs z=>by cases z) h0,?_,λc z=>HZ c (o6.le c z),au,?_,?_,λc hc=>?_,λz=>?_,Bv,q⟩
   ·have m:=IX.trans o6.sn;refine⟨m.w,m.k.trans ((hV oH (λxs z=>by cases z)).mono λb z=>.inr (by rw[z];exact ha)),λb z e=>?_⟩
    by_cases hb:b=a
    ·rw[hb,au]at e;cases e
    ·rw[aw hb]at e;exact m.d b z e
   ·exact(LN.keep kt λc hc oc e=>by rw[aw (Nv c hc)];exact e).append (aK.one (r1.keep kt λc hc oc e=>by rw[aw (Fw c hc)];exact e))
   ·refine Q9.mpr ⟨nd,r2,λx hx y hy e=>?_⟩;subst e;have:=(Jh x hy).1;exact(Jr.ki x hx).1 this
   ·rcases Qr.mp hc with hc|hc
    ·exact nw c hc
    ·exact⟨IX.free (Jh c hc).1,Fw c hc⟩
   ·refine λb ob e=>?_;rw[aw (λz'=>by rw[z',ha]at e;cases e)]
    exact(o6.pu (Lh z)).1 b ob (LK z b ob e)
 ·left
  have e:i=ds.length:=by omega
  subst e;obtain⟨hh,q⟩:=i2 βi o hl;have lv:SQ X C σ H2 β own:=s1.leave sq sn le hh λj ok i' e1 e2=>st i' λz=>hT i' z j e2;refine⟨mP (Qf _),fin o H2 q ⟨lv,⟨λb z=>.inl z,sn.k.mono λb z=>z.imp (bh b) id,sn.d⟩,λz=>⟨pu z,rfl⟩,λ_ z=>z⟩ ⟨a::A,⟨a,vs,A,rfl,KS,rfl,os⟩,QB.mpr ⟨λz=>(nw a z).2 rfl,nd⟩,λc hc=>?_⟩⟩;have gQ:H1 c=none:=by
   rcases Qc.mp hc with rfl|hc
   ·exact ha
   ·exact(nw c hc).1
  exact⟨gQ,λJ2=>by obtain⟨j,hj⟩:=J2;exact(s1.dm j c hj).1 gQ,QG λz=>s1.ft c z gQ⟩
theorem dh {scope:Sd}{N':List Str}(L:Links X scope N' lk)(hN:N'.Nodup):∀(i i' j:Nat),lk[i]?=some (some j)->lk[i']?=some (some j)->i=i':=λi i' j h1 h2=>by
 obtain⟨x,a1,a2,_⟩:=L.link i j h1;obtain⟨y,b1,b2,_⟩:=L.link i' j h2;rw[a2]at b2;cases b2;exact(UN (Qg.mp a1).1 hN).mp (a1.trans b1.symm)
def nK (lk:List (Option Nat))(ι:b5)(γ:cZ)(τ:a_)(φ:aY):aY:=λβ R=>ι β λds k β1=>hold k false/\jG γ τ φ ds k (cB lk β1) λo=>R (.lst o) .own β1
variable {scope:Sd}{N':List Str}{tg cj elt:Expr}{ifs:List Expr}{ι:b5}{pi:Bool}{pos pos' nC:Pos}{y:Str}{i:Nat}
theorem Ak (L:Links X scope N' lk)(m_:N'.Nodup)(hT:T.all (λi=>match lk[i]? with|some (some _)=>false|_=>true)=true)(hc:X.calm=true)(hi:qK X C pi tg cj ι)
  (kJ:∀a cl c s H ex,sC (aF X scope N' cl c s H ex) (C.u λc=>c=a) tg T γ) (iF:∀a cl c s H ex,nc (aF X scope N' cl c s H ex) ifs (iO (aF X scope N' cl c s H ex) (C.u λc=>c=a) pc τ)) (τm:∀β R R',(∀d β,R d β->R' d β)->τ β R->τ β R')
  (kL:∀a cl c s H ex,PQ (aF X scope N' cl c s H ex) (C.u λc=>c=a) pe elt φ) (γm:∀d k β R R',(∀r,R r->R' r)->γ d k β R->γ d k β R') (φm:∀β R R',(∀d k β,R d k β->R' d k β)->φ β R->φ β R')
  (hs:∀x,QX cj X.env x=pure x:=by intro _;rfl):PQ X C (pi&&(pc&&pe)) (.ListComp elt [⟨tg,cj,ifs,0⟩] scope pos) (nK lk ι γ τ φ):=by
 have zD:∀i∈T,∀j,lk[i]?≠some (some j):=λi hi j e=>by
  have:=Sj.mp hT i hi;rw[e]at this;cases this
 refine⟨λβ R R' k h=>hi.mono β _ _ (λds kd β1 q=>⟨q.1,q.2.mono λo z=>k _ _ _ z⟩) h,?_⟩;refine(jB (g:=⟨tg,cj,ifs,0⟩) (gs:=[]) (tg:=λa v σ H Q=>∃own β d k,SQ X (C.u λc=>c=a) σ H β own/\Rp X (eg (C.u λc=>c=a) (Wn own) k) H d v/\γ d k β λβ'=>∀σ' aN,SQ X (C.u λc=>c=a) σ' H β' aN->(∀a,Wn aN a->Wn own a)->(∀j,j∉T->σ'[j]?=σ[j]?)->Q σ' H)
  (tt:=λa=>iO X (C.u λc=>c=a) pc τ) (ta:=λa N σ H=>tQ X (C.u λc=>c=a) pe φ σ H λv H1=>∃xs,H1 a=some (.lst xs)/\xs.length<Qp/\N σ (upd H1 a (.lst (xs++[v]))))
  L hc gy rfl rfl (λ_ _=>xo) hi.pi (λa cl c s H ex=>⟨(kJ a cl c s H ex).pg,iF a cl c s H ex,gv rfl (kL a cl c s H ex).pe⟩) hs).pre λσ H Q ⟨β,own,s,h⟩=>?_
 refine⟨β,own,s,hi.mono β _ _ (λds k β1 ⟨hk,q⟩ J H1 aE o1 it a ha=>?_) h⟩;exact lK γm τm φm (dh L m_) zD o1.sq ha (hp:=false) (λz=>by cases z) hk it q λo H' q o2 r=>q _ _ aE (o1.trans o2) (r.later o1.sn)
theorem Fg {K:D->ba->eT->Prop}(L:Links X scope N' lk)(m_:N'.Nodup)(hT:T.all (λi=>match lk[i]? with|some (some _)=>false|_=>true)=true)(hc:X.calm=true)(hi:∀U,qK X (C.u U) pi tg cj ι)
  (kJ:∀U cl c s H ex,sC (aF X scope N' cl c s H ex) (C.u U) tg T γ) (iF:∀U cl c s H ex,nc (aF X scope N' cl c s H ex) ifs (iO (aF X scope N' cl c s H ex) (C.u U) pc τ)) (τm:∀β R R',(∀d β,R d β->R' d β)->τ β R->τ β R')
  (kL:∀U cl c s H ex,PQ (aF X scope N' cl c s H ex) (C.u U) pe elt φ) (γm:∀d k β R R',(∀r,R r->R' r)->γ d k β R->γ d k β R') (φm:∀β R R',(∀d k β,R d k β->R' d k β)->φ β R->φ β R') (o:Bool)
  (hN:X.N.Nodup) (hy:X.N[i]?=some y:=by rfl) (hx:Loc X.env.scope y:=by first|exact .inl rfl|exact .inr rfl) (hf:X.fn y=true\/X.env.scope.names.lookup y=some .local:=by first|exact .inl rfl|exact .inr rfl|assumption)
  (t_:RN (.ListComp elt [⟨tg,cj,ifs,0⟩] scope pos) (some (.Name y pos')) nC.line X.env=pure true:=by rfl)
  (wQ:evalThenUse (.ListComp elt [⟨tg,cj,ifs,0⟩] scope pos) X.env (assign (.Name y pos') X.env)=(do let _ <- comprehension (.ListComp elt [⟨tg,cj,ifs,0⟩] scope pos) scope X.env (firstIterPos [⟨tg,cj,ifs,0⟩] pos) (newList []) false (eval cj X.env) (some (assign (.Name y pos') X.env));pure ()):=by first|rfl|exact arm_evalThenUse_ListComp ..)
  (hs:∀x,QX cj X.env x=pure x:=by intro _;rfl) :
  PB X C (.Assign [.Name y pos'] (.ListComp elt [⟨tg,cj,ifs,0⟩] scope pos) nC) (λE β=>nK lk ι γ τ φ β λd _ β'=>E.nx (β'.set i (some (match o with|true=>.own d|false=>.val true d)))):=by
 have zD:∀i∈T,∀j,lk[i]?≠some (some j):=λi hi j e=>by
  have:=Sj.mp hT i hi;rw[e]at this;cases this
 refine⟨λE E' β l h=>(hi λ_=>False).mono β _ _ (λds kd β1 q=>⟨q.1,q.2.mono λo z=>l.nx _ z⟩) h,λpins s σ H D I0 ⟨Z,E,β,⟨own,sq,n⟩,h,ok⟩=>?_⟩;refine vC (g:=⟨tg,cj,ifs,0⟩) (gs:=[]) (tg:=λa v σ H Q=>∃own β d k,SQ X (C.u λc=>c=a) σ H β own/\Rp X (eg (C.u λc=>c=a) (Wn own) k) H d v/\γ d k β λβ'=>∀σ' aN,SQ X (C.u λc=>c=a) σ' H β' aN->(∀a,Wn aN a->Wn own a)->(∀j,j∉T->σ'[j]?=σ[j]?)->Q σ' H)
  (tt:=λa=>iO X (C.u λc=>c=a) pc τ) (ta:=λa N σ H=>tQ X (C.u λc=>c=a) pe φ σ H λv H1=>∃xs,H1 a=some (.lst xs)/\xs.length<Qp/\N σ (upd H1 a (.lst (xs++[v]))))
  L hc gy t_ wQ rfl hN hy hx hf (λ_ _=>xo) (hi λa=>H a=none).pi (λa cl c s H ex=>⟨(kJ _ cl c s H ex).pg,iF _ cl c s H ex,gv rfl (kL _ cl c s H ex).pe⟩) hs pins s σ H D I0 ?_
 refine⟨β,own,sq.gc (C:=C.z) (U:=λa=>H a=none) λa z=>z,(hi λ_=>False).mono β _ _ (λds k β1 ⟨hk,q⟩ J H1 aE o1 it a ha=>?_) h⟩;refine lK (C:=C.u λa=>H a=none) γm τm φm (dh L m_) zD o1.sq ha (hp:=false) (λz=>by cases z) hk it q λol H' q o2 r=>?_
 have r':=r.later o1.sn;have oo:=o1.trans o2;have m:=n.trans oo.sn;cases o with
 |false=>exact ok.nx _ _ _ ⟨_,(bD.Nu oo.sq).eC (aA.aX (λa z=>z.elim id λz=>z.elim) (KV.rep r')),l4 m⟩ q
 |true =>
  obtain⟨A,h1,h2,h3⟩:=r';refine ok.nx _ _ _ ⟨_,oo.sq.pY h1 h2 λc hc=>⟨(h3 c hc).2.2,(h3 c hc).2.1,(h3 c hc).1⟩,?_⟩ q;exact⟨λb C3=>by
   obtain⟨j,hj⟩:=C3
   by_cases aD:i=j
   ·rw[<- aD,os_eq]at hj;exact .inr (n.free (h3 b hj).1)
   ·rw[a5 aD]at hj;exact m.w b ⟨j,hj⟩,m.k,m.d⟩
end
end L2.Q
namespace Zp
open PySem PySem.Spec PyProof.Rows
structure D_ (prog:Qd)(w:Qq)(i l:Addr)(vs:List P_)(St:Nat->Heap->Prop)(Ct:Heap->Prop):Prop where
 obj:∀k h,St k h->∃o,h.get? i=some o/\∀v,o.data≠.cell v
 keep:∀k h h',St k h->(∀o,h.get? i=some o->h'.get? i=some o)->St k h'
 kept:∀h h',Ct h->(∀o,h.get? l=some o->h'.get? l=some o)->Ct h'
 item:∀(A:Rj) (E:P_->Qb->Prop) (s:Qb) (k:Nat) (x:P_) (Q:P_->Qb->Prop),St k s.heap->Ct s.heap->vs[k]?=some x ->
  (∀h',St (k+1) h'->Su i s.heap h'->Q x {s with heap:=h'})->QE (model prog w) A (Q4 (.ref i)) Q E s
 done:∀(A:Rj) (E:P_->Qb->Prop) (s:Qb) (k:Nat) (Q:P_->Qb->Prop),A.handled=none->St k s.heap->Ct s.heap->vs[k]?=none ->
  (∀h' e,Heap.ExtBut i s.heap h'->(∃o,h'.get? e=some o/\o.cls=.type "StopIteration")->E (.ref e) {s with heap:=h'})->QE (model prog w) A (Q4 (.ref i)) Q E s
variable {prog:Qd}{w:Qq}
theorem xg {i l:Addr}{vs:List P_}:D_ prog w i l vs (λk h=>h.IsListIter i l k) (λh=>h.IsList l vs.toArray) where
 obj:=λk h ⟨o,a,_,d⟩=>⟨o,a,λv z=>by rw[d]at z;cases z⟩
 keep:=λk h h' a k1=>a.at k1
 kept:=λh h' b k2=>b.at k2
 item:=λA E s k x Q a b hx q=>wpAny_nextOf_list_item a b (by simpa using hx) λh' a' sb=>q h' a' sb
 done:=λA E s k Q hh a b hx q=>wpAny_nextOf_list_end hh a b (by simpa using hx) q
theorem vY {A:Rj}{E:P_->Qb->Prop}{s:Qb}{i l:Addr}{k:Nat}{its:Array P_}{x:P_}{Q:P_->Qb->Prop}(a:s.heap.IsTupleIter i l k)(b:s.heap.IsTuple l its)(hx:its[k]?=some x)
  (q:∀h',h'.IsTupleIter i l (k+1)->Su i s.heap h'->Q x {s with heap:=h'}):QE (model prog w) A (Q4 (.ref i)) Q E s:=by
 have hT:=a.typeIs;obtain⟨oi,gi,ci,di⟩:=a;obtain⟨ol,gl,cl,nl,dl⟩:=b;unfold Q4;apply P9;apply RM (name:=Tv "__next__") hT F.slot_tuple_iterator_next;apply RW F.slot_tuple_iterator_next hT F.entry_tuple_iterator_next _ (F.args_tuple_iterator_next_1 _)
 change QE (model prog w) _ (field (.ref i) 0 >>= _) _ _ s
 apply P9;apply RT gi di (x:=.ref l) rfl;rw[if_neg (by intro z;cases z)]
 change QE (model prog w) _ (field (.ref i) 1 >>= _) _ _ s
 apply P9;apply RT gi di (x:=.int k 0) rfl
 change QE (model prog w) _ (seqItems? (.ref l) >>= _) _ _ s
 apply P9;apply Sf gl dl;simp only[RQ,hx];apply P9;apply Uj gi di (by simp)
 refine Qn ⟨x,rfl,?_⟩;refine Qn (q _ ⟨_,Ug _ gi (Obj.isFreed_of_fields (Tz di _)),?_,?_⟩ (Tt ..))
 ·rw[Obj.cls_mapFields];exact ci
 ·rw[Tz di];simp[Uk]
theorem zM {A:Rj}{E:P_->Qb->Prop}{s:Qb}{i l:Addr}{k:Nat}{its:Array P_}{Q:P_->Qb->Prop}(hh:A.handled=none)(a:s.heap.IsTupleIter i l k)(b:s.heap.IsTuple l its)(hx:its[k]?=none)
  (q:∀h' e,Heap.ExtBut i s.heap h'->(∃o,h'.get? e=some o/\o.cls=.type "StopIteration")->E (.ref e) {s with heap:=h'}):QE (model prog w) A (Q4 (.ref i)) Q E s:=by
 have hT:=a.typeIs;obtain⟨oi,gi,ci,di⟩:=a;obtain⟨ol,gl,cl,nl,dl⟩:=b;unfold Q4;apply P9;apply RM (name:=Tv "__next__") hT F.slot_tuple_iterator_next;apply RW F.slot_tuple_iterator_next hT F.entry_tuple_iterator_next _ (F.args_tuple_iterator_next_1 _)
 change QE (model prog w) _ (field (.ref i) 0 >>= _) _ _ s
 apply P9;apply RT gi di (x:=.ref l) rfl;rw[if_neg (by intro z;cases z)]
 change QE (model prog w) _ (field (.ref i) 1 >>= _) _ _ s
 apply P9;apply RT gi di (x:=.int k 0) rfl
 change QE (model prog w) _ (seqItems? (.ref l) >>= _) _ _ s
 apply P9;apply Sf gl dl;simp only[RQ,hx];apply P9;apply Sr;apply P9;apply Uj gi di (by simp)
 change QE (model prog w) _ (newExc (.type "StopIteration") [] >>= _) _ _ _
 apply P9;simp only[newExc,newTuple];apply P9;refine R4 ?_ (by size_fits)
 apply P9 (m:=Ul _ _);apply wpAny_of_eq (a:=Value.none)
 ·first|rfl|(simp only[Ul];rfl)
 refine R4 ?_ (by size_fits);simp only[raiseNew]
 apply P9;apply wpAny_handled;have AD:A.in1.handled=none:=hh
 first|rw[AD]|rw[hh]
 refine P9 (Qn (wpAny_throw (q _ _ (((Tt ..).extBut.push _).push _) ⟨_,QC _ rfl,rfl⟩)))
theorem zN {i l:Addr}{vs:List P_}:D_ prog w i l vs (λk h=>h.IsTupleIter i l k) (λh=>h.IsTuple l vs.toArray) where
 obj:=λk h ⟨o,a,_,d⟩=>⟨o,a,λv z=>by rw[d]at z;cases z⟩
 keep:=λk h h' ⟨o,a1,a2⟩ k1=>⟨o,k1 o a1,a2⟩
 kept:=λh h' ⟨o',b1,b2⟩ k2=>⟨o',k2 o' b1,b2⟩
 item:=λA E s k x Q a b hx q=>vY a b (by simpa using hx) λh' a' sb=>q h' a' sb
 done:=λA E s k Q hh a b hx q=>zM hh a b (by simpa using hx) q
structure Apart (z TI TO i1 i2 l1 l2:Addr):Prop where
 nd:[z,TI,TO,i1,i2].Nodup
 o1:∀c∈[z,TO,i1,i2],l1≠c
 o2:∀c∈[z,TO,i1,i2],l2≠c
section
variable {A:Rj}{E:P_->Qb->Prop}{s:Qb}{z TI TO i1 i2 l1 l2:Addr}{vs us:List P_}{S1 S2:Nat->Heap->Prop}{C1 C2:Heap->Prop}
theorem uU (P:Apart z TI TO i1 i2 l1 l2)(D1:D_ prog w i1 l1 vs S1 C1)(D2:D_ prog w i2 l2 us S2 C2){k:Nat}{x y a b:P_}{Q:Option P_->Qb->Prop}(hz:T1 s.heap z TI TO .none)(KW:Sk s.heap TI (.ref i1) (.ref i2))(KU:Sk s.heap TO a b)
  (h1:S1 k s.heap) (h2:S2 k s.heap) (c1:C1 s.heap) (c2:C2 s.heap) (hx:vs[k]?=some x) (hy:us[k]?=some y)
  (q:∀h',T1 h' z TI TO (Uk s.heap.objs.size)->Sk h' TO x y->S1 (k+1) h'->S2 (k+1) h'->Sk h' s.heap.objs.size x y->(∀c o,c∉[z,TO,i1,i2]->s.heap.get? c=some o->h'.get? c=some o)->Q (some (.ref s.heap.objs.size)) {s with heap:=h'}) :
  QE (model prog w) A (T4 (.ref z)) Q E s:=by
 have hT:s.TypeIs (.ref z) "zip" := ⟨_,hz,rfl⟩;obtain⟨nd,o1,o2⟩:=P;simp only[QB,Qc,QT,or_false,not_or,Q5,not_false_eq_true,and_true]at nd;obtain⟨⟨MU,A7,A6,Ea⟩,⟨TITO,TIi1,TIi2⟩,⟨TOi1,TOi2⟩,i12⟩:=nd;have a1:=o1 z (by simp);have a2:=o1 TO (by simp);have a3:=o1 i1 (by simp);have a4:=o1 i2 (by simp)
 have b1:=o2 z (by simp);have b2:=o2 TO (by simp);have b3:=o2 i1 (by simp);have b4:=o2 i2 (by simp)
 unfold T4;apply P9;apply TM;apply RM (name:=Tv "__next__") hT F.slot_zip_next;refine RW F.slot_zip_next hT F.entry_zip_next ?_ (F.args_zip_next_1 _)
 change QE (model prog w) _ (field (.ref z) 2 >>= _) _ _ _
 apply P9;apply RT hz rfl (x:=.bool false) rfl
 change QE (model prog w) _ (field (.ref z) 3 >>= _) _ _ _
 apply P9;apply RT hz rfl (x:=.ref TI) rfl;apply P9;apply Sf KW rfl
 change QE (model prog w) _ (RV (.ref z) >>= _) _ _ _
 apply P9;unfold RV;apply P9;apply RT hz rfl (x:=.none) rfl;apply Qn;simp only[if_true];apply P9;apply Sr;apply P9;apply RT hz rfl (x:=.ref TO) rfl;apply P9;refine So hz (by simp) λg1 y1 e1=>?_
 have z1:T1 g1 z TI TO .ellipsis:=y1;apply P9;simp only[UR,List.zipIdx_nil,Ub,Vc];apply P9;apply P9;apply Uv
 change QE (model prog w) _ (Q4 (.ref i1) >>= _) _ _ _
 apply P9;refine D1.item _ _ _ k x _ (D1.keep k _ _ h1 (λo e=>e1.extBut _ _ (Rr A6) e)) (D1.kept _ _ c1 λo e=>e1.extBut _ _ a1 e) hx λg2 s2 e2=>Qn ?_;have t2:Sk g2 TO a b:=e2.extBut _ _ TOi1 (e1.extBut _ _ (Rr A7) KU);apply P9;apply Sf t2 rfl;apply P9;refine Ui t2 λg3 y3 e3=>?_;have t3:Sk g3 TO x b:=y3;apply P9;refine wpAny_letGo (Qn ?_);apply P9;apply P9;apply Uv
 change QE (model prog w) _ (Q4 (.ref i2) >>= _) _ _ _
 apply P9;have k2:S2 k g3:=D2.keep k _ _ h2 λo e=>e3.extBut _ _ (Rr TOi2) (e2.extBut _ _ (Rr i12) (e1.extBut _ _ (Rr Ea) e));have k3:C2 g3:=D2.kept _ _ c2 λo e=>e3.extBut _ _ b2 (e2.extBut _ _ b3 (e1.extBut _ _ b1 e));refine D2.item _ _ _ k y _ k2 k3 hy λg4 s4 e4=>Qn ?_;have t4:Sk g4 TO x b:=e4.extBut _ _ TOi2 t3;apply P9;apply Sf t4 rfl;apply P9;refine Ui t4 λg5 y5 e5=>?_;have t5:Sk g5 TO x y:=y5;apply P9;refine wpAny_letGo (Qn (Qn ?_));apply P9;apply Sf t5 rfl;apply P9;refine wpAny_newTuple ?_;have hsz:g5.objs.size=s.heap.objs.size:=by rw[e5.1,e4.1,e3.1,e2.1,e1.1]
 have z5:T1 g5 z TI TO .ellipsis:=e5.extBut _ _ A7 (e4.extBut _ _ Ea (e3.extBut _ _ A7 (e2.extBut _ _ A6 z1)));have old:∀c o,c∉[z,TO,i1,i2]->s.heap.get? c=some o->g5.get? c=some o:=λc o hc e=>by
  simp only[Qc,QT,or_false,not_or]at hc;obtain⟨c1,c2,c3,c4⟩:=hc;exact e5.extBut _ _ c2 (e4.extBut _ _ c4 (e3.extBut _ _ c2 (e2.extBut _ _ c3 (e1.extBut _ _ c1 e))))
 have n1:S1 (k+1) g5:=D1.keep _ _ _ s2 λo e=>e5.extBut _ _ (Rr TOi1) (e4.extBut _ _ i12 (e3.extBut _ _ (Rr TOi1) e));have n2:S2 (k+1) g5:=D2.keep _ _ _ s4 λo e=>e5.extBut _ _ (Rr TOi2) e;have Lu:=Qs z5
 change QE (model prog w) _ (Uu (.ref z) (.ref g5.objs.size) >>= _) _ _ _
 apply P9;unfold Uu;have z6:T1 (g5.push {cls:=.type "tuple",data:=.seq #[x,y]}) z TI TO .ellipsis:=Qi _ z5;apply P9;refine So z6 (by simp) λg7 y7 e7=>?_
 have z7:T1 g7 z TI TO (Uk g5.objs.size):=y7;refine So z7 (by simp) λg8 y8 e8=>?_
 have z8:T1 g8 z TI TO (Uk g5.objs.size):=y8;have up:∀c o,c≠z->g5.get? c=some o->g8.get? c=some o:=λc o c1 e=>e8.extBut _ _ c1 (e7.extBut _ _ c1 (Qi _ e));have t8:Sk g8 g5.objs.size x y:=e8.extBut _ _ (Nat.ne_of_gt Lu) (e7.extBut _ _ (Nat.ne_of_gt Lu) (QC _ rfl));rw[hsz]at z8 t8;refine Qn ⟨_,rfl,Qn ?_⟩;show Q (some (.ref g5.objs.size)) _;rw[hsz];exact q g8 z8 (up _ _ (Rr A7) t5) (D1.keep _ _ _ n1 λo e=>up _ _ (Rr A6) e) (D2.keep _ _ _ n2 λo e=>up _ _ (Rr Ea) e) t8 λc o hc e=>up c o (λw=>hc (by simp[w])) (old c o hc e)
theorem xU (P:Apart z TI TO i1 i2 l1 l2)(D1:D_ prog w i1 l1 vs S1 C1)(D2:D_ prog w i2 l2 us S2 C2)(hh:A.handled=none){k:Nat}{a b:P_}{Q:Option P_->Qb->Prop}(hz:T1 s.heap z TI TO .none)(KW:Sk s.heap TI (.ref i1) (.ref i2))(KU:Sk s.heap TO a b)
  (h1:S1 k s.heap) (h2:S2 k s.heap) (c1:C1 s.heap) (c2:C2 s.heap) (hx:vs[k]?=none\/us[k]?=none)
  (q:∀h',(∀c o,c∉[z,TO,i1,i2]->s.heap.get? c=some o->h'.get? c=some o)->Q none {s with heap:=h'}) :
  QE (model prog w) A (T4 (.ref z)) Q E s:=by
 have hT:s.TypeIs (.ref z) "zip" := ⟨_,hz,rfl⟩;obtain⟨nd,o1,o2⟩:=P;simp only[QB,Qc,QT,or_false,not_or,Q5,not_false_eq_true,and_true]at nd;obtain⟨⟨MU,A7,A6,Ea⟩,⟨TITO,TIi1,TIi2⟩,⟨TOi1,TOi2⟩,i12⟩:=nd;have a1:=o1 z (by simp);have b1:=o2 z (by simp);have b2:=o2 TO (by simp);have b3:=o2 i1 (by simp)
 have oc:∀{c:Addr},c∉[z,TO,i1,i2]->c≠z/\c≠TO/\c≠i1/\c≠i2:=λhc=>by simpa[not_or] using hc
 have AD:A.in1.handled=none:=hh;unfold T4;apply P9;apply TM;apply RM (name:=Tv "__next__") hT F.slot_zip_next;refine RW F.slot_zip_next hT F.entry_zip_next ?_ (F.args_zip_next_1 _);have fin:∀(h':Heap) (e:Addr),(∀c o,c∉[z,TO,i1,i2]->s.heap.get? c=some o->h'.get? c=some o)->(∃o,h'.get? e=some o/\o.cls=.type "StopIteration") ->
   QE (model prog w) A (do if <- isInstance (.ref e) (.type "StopIteration") then pure none else throw (.ref e)) Q E {s with heap:=h'}:=λh' e hk JW=> by
  obtain⟨o,ho,hc⟩ := JW;apply P9;refine wpAny_isInstance (T:="StopIteration") (b:=true) ⟨o,ho,hc⟩ isSubtype_stop ?_;exact Qn (q h' hk)
 change QE (model prog w) _ (field (.ref z) 2 >>= _) _ _ _
 apply P9;apply RT hz rfl (x:=.bool false) rfl
 change QE (model prog w) _ (field (.ref z) 3 >>= _) _ _ _
 apply P9;apply RT hz rfl (x:=.ref TI) rfl;apply P9;apply Sf KW rfl
 change QE (model prog w) _ (RV (.ref z) >>= _) _ _ _
 apply P9;unfold RV;apply P9;apply RT hz rfl (x:=.none) rfl;apply Qn;simp only[if_true];apply P9;apply Sr;apply P9;apply RT hz rfl (x:=.ref TO) rfl;apply P9;refine So hz (by simp) λg1 y1 e1=>?_
 have z1:T1 g1 z TI TO .ellipsis:=y1;apply P9;simp only[UR,List.zipIdx_nil,Ub,Vc];apply P9;apply P9;apply Uv
 change QE (model prog w) _ (Q4 (.ref i1) >>= _) _ _ _
 apply P9;have f1:S1 k g1:=D1.keep k _ _ h1 λo e=>e1.extBut _ _ (Rr A6) e;have f2:C1 g1:=D1.kept _ _ c1 λo e=>e1.extBut _ _ a1 e;cases ex:vs[k]? with
 |none =>
  refine D1.done _ _ _ k _ AD f1 f2 ex λg2 e e2 he=>?_;obtain⟨oe,ge,ce⟩:=he;have z2:T1 g2 z TI TO .ellipsis:=e2 _ _ A6 z1;have ez:e≠z:=λw=>by subst w;rw[z2]at ge;cases ge;simp at ce
  refine So z2 (by simp) λg3 _ e3=>fin g3 e (λc o hc x=>?_) ⟨oe,e3.extBut _ _ ez ge,ce⟩
  obtain⟨q1,q2,q3,q4⟩:=oc hc;exact e3.extBut _ _ q1 (e2 _ _ q3 (e1.extBut _ _ q1 x))
 |some x =>
  have ey:us[k]?=none:=hx.resolve_left (by rw[ex];intro z;cases z)
  refine D1.item _ _ _ k x _ f1 f2 ex λg2 s2 e2=>Qn ?_;have t2:Sk g2 TO a b:=e2.extBut _ _ TOi1 (e1.extBut _ _ (Rr A7) KU);apply P9;apply Sf t2 rfl;apply P9;refine Ui t2 λg3 y3 e3=>?_;apply P9;refine wpAny_letGo (Qn ?_);apply P9;apply P9;apply Uv
  change QE (model prog w) _ (Q4 (.ref i2) >>= _) _ _ _
  apply P9;have k2:S2 k g3:=D2.keep k _ _ h2 λo e=>e3.extBut _ _ (Rr TOi2) (e2.extBut _ _ (Rr i12) (e1.extBut _ _ (Rr Ea) e));have k3:C2 g3:=D2.kept _ _ c2 λo e=>e3.extBut _ _ b2 (e2.extBut _ _ b3 (e1.extBut _ _ b1 e));refine D2.done _ _ _ k _ AD k2 k3 ey λg4 e e4 he=>?_;obtain⟨oe,ge,ce⟩:=he;have z4:T1 g4 z TI TO .ellipsis:=e4 _ _ Ea (e3.extBut _ _ A7 (e2.extBut _ _ A6 z1));have ez:e≠z:=λw=>by subst w;rw[z4]at ge;cases ge;simp at ce
  refine So z4 (by simp) λg5 _ e5=>fin g5 e (λc o hc x=>?_) ⟨oe,e5.extBut _ _ ez ge,ce⟩
  obtain⟨q1,q2,q3,q4⟩:=oc hc;exact e5.extBut _ _ q1 (e4 _ _ q4 (e3.extBut _ _ q2 (e2.extBut _ _ q3 (e1.extBut _ _ q1 x))))
end
section
variable {prog:Qd}{w:Qq}{A:Rj}{E:P_->Qb->Prop}{s:Qb}
abbrev HN (h:Heap)(l1:Addr):Heap:=h.push {cls:=.type "tuple_iterator",data:=.fields #[.ref l1,.int 0 0]}
abbrev HM (h:Heap)(l1 l2:Addr):Heap:=(HN h l1).push {cls:=.type "tuple_iterator",data:=.fields #[.ref l2,.int 0 0]}
abbrev HL (h:Heap)(l1 l2:Addr):Heap:=(HM h l1 l2).push {cls:=.type "tuple",data:=.seq #[.ref h.objs.size,.ref (HN h l1).objs.size]}
abbrev HJ (h:Heap)(l1 l2:Addr):Heap:=(HL h l1 l2).push {cls:=.type "tuple",data:=.seq #[.none,.none]}
noncomputable abbrev Ec (h:Heap)(l1 l2:Addr):Heap:=(HJ h l1 l2).push {cls:=.type "zip",data:=.fields #[.none,.bool false,.bool false,.ref (HM h l1 l2).objs.size,.ref (HL h l1 l2).objs.size]}
theorem sG (l1 l2:Addr)(xs ys:Array P_):
  Meets (UO.«zip.__new__» ⟨[.type "zip",.ref l1,.ref l2],[]⟩) (λ_ R s=>s.heap.IsTuple l1 xs/\s.heap.IsTuple l2 ys/\R (.ok (.ret (.ref (HJ s.heap l1 l2).objs.size))) {s with heap:=Ec s.heap l1 l2}) :=
 .of_wp λprog w A R s h=>by
  obtain⟨hp,g,d,tk,os⟩:=s;obtain⟨u1,u2,h⟩:=h;have M7:=sub_zip;have m1:Heap.IsTuple (Shared.heap ⟨hp,g,d,tk,os⟩) l1 xs:=u1;have m2:Heap.IsTuple (Shared.heap ⟨hp.push {cls:=.type "tuple_iterator",data:=.fields #[.ref l1,.int 0 0]},g,d,tk,os⟩) l2 ys:=Heap.IsTuple.push u2 _
  wp_walk using wpAny_pyIter_tuple m1,wpAny_pyIter_tuple m2
  exact⟨_,rfl,h⟩
theorem uS {l1 l2:Addr}{xs ys:Array P_}{Q:P_->Qb->Prop}(u1:s.heap.IsTuple l1 xs)(u2:s.heap.IsTuple l2 ys)
  (q:∀h',T1 h' (s.heap.objs.size+4) (s.heap.objs.size+2) (s.heap.objs.size+3) .none->Sk h' (s.heap.objs.size+2) (.ref s.heap.objs.size) (.ref (s.heap.objs.size+1))->Sk h' (s.heap.objs.size+3) .none .none ->
   h'.IsTupleIter s.heap.objs.size l1 0->h'.IsTupleIter (s.heap.objs.size+1) l2 0->(∀c o,s.heap.get? c=some o->h'.get? c=some o)->Q (.ref (s.heap.objs.size+4)) {s with heap:=h'}) :
  QE (model prog w) A (call (.type "zip") [.ref l1,.ref l2]) Q E s:=by
 refine callType_new F.called_zip (by decide) (F.typeCall_zip_2 _ _) (F.newCall_zip_2 _ _) (λobj=>F.args_object_init_3 obj _ _) F.entry_zip_new (sG l1 l2 xs ys) ⟨u1,u2,?_⟩
 have n1:(HN s.heap l1).objs.size=s.heap.objs.size+1:=TB ..
 have n2:(HM s.heap l1 l2).objs.size=s.heap.objs.size+2:=by rw[TB,n1]
 have n3:(HL s.heap l1 l2).objs.size=s.heap.objs.size+3:=by rw[TB,n2]
 have n4:(HJ s.heap l1 l2).objs.size=s.heap.objs.size+4:=by rw[TB,n3]
 have up:∀{h:Heap} {o:Obj} {c:Addr} {u:Obj},h.get? c=some u->(h.push o).get? c=some u:=λe=>Qi _ e;have w5:(Ec s.heap l1 l2).get? (HJ s.heap l1 l2).objs.size=some _:=QC _ rfl;have w4:(Ec s.heap l1 l2).get? (HL s.heap l1 l2).objs.size=some _:=up (QC _ rfl);have w3:(Ec s.heap l1 l2).get? (HM s.heap l1 l2).objs.size=some _:=up (up (QC _ rfl));have w2:(Ec s.heap l1 l2).get? (HN s.heap l1).objs.size=some _:=up (up (up (QC _ rfl)));have w1:(Ec s.heap l1 l2).get? s.heap.objs.size=some _:=up (up (up (up (QC _ rfl))));show _/\_;rw[n2,n3,n4]at w5;rw[n1,n2]at w3;rw[n3]at w4;rw[n1]at w2;rw[n4];exact⟨⟨_,w5,rfl⟩,q _ w5 w3 w4 ⟨_,w1,rfl,rfl⟩ ⟨_,w2,rfl,rfl⟩ λc o e=>up (up (up (up (up e))))⟩
end
end Zp
namespace L2
open PySem PySem.Spec PySem.SeqAt PyProof.Rows Zp
abbrev Iu:=Hp->List V->Prop
def MN (c1 c2:Iu):It :=
 ⟨λi H=>∃xs ys x y,c1 H xs/\c2 H ys/\xs[i]?=some x/\ys[i]?=some y,
  λi H x H'=>∃T,H T=none/\x=.ref T/\∀xs ys,c1 H xs->c2 H ys->∃a b,xs[i]?=some a/\ys[i]?=some b/\H'=upd H T (.tup [a,b]),
  λi H=>∃xs ys,c1 H xs/\c2 H ys/\(xs[i]?=none\/ys[i]?=none)⟩
structure Src (P:Qd)(w:Qq)(K:PySem.W.Frag)(i l:Addr)(c:Iu)(S:Nat->Heap->Prop):Prop where
 «at»:∀(X:Cx) (pins:List (Addr×Obj)) (σ:St) (H:Hp) (s:Qb) (xs:List V),X.prog=P->X.w=w->X.K=K->Inv X pins σ H s->c H xs->∃vs Ct,Vals xs vs/\D_ P w i l vs S Ct/\Ct s.heap
 obj:∀k h,S k h->∃o,h.get? i=some o/\∀v,o.data≠.cell v
 keep:∀k h h',S k h->(∀o,h.get? i=some o->h'.get? i=some o)->S k h'
 inj:∀(H:Hp) (xs ys:List V),c H xs->c H ys->xs=ys
 old:∀(H:Hp) (xs:List V),c H xs->H l≠none
theorem src_list {P:Qd}{w:Qq}{K:PySem.W.Frag}{i l:Addr}:Src P w K i l (λH xs=>H l=some (.lst xs)) (λk h=>h.IsListIter i l k) where
 «at»:=λX pins σ H s xs hp hw hk I h=>by
  obtain⟨its,r',pl,_⟩:=I.list (c6.of h);exact⟨its,_,r',xg,pl.isList⟩
 obj:=λk h ⟨o,a,_,d⟩=>⟨o,a,λv z=>by rw[d]at z;cases z⟩
 keep:=λk h h' a k1=>a.at k1
 inj:=λH xs ys h h'=>by rw[h]at h';cases h';rfl
 old:=λH xs h z=>by rw[h]at z;cases z
theorem yh {P:Qd}{w:Qq}{K:PySem.W.Frag}{i l:Addr}:Src P w K i l (λH xs=>H l=some (.tup xs)) (λk h=>h.IsTupleIter i l k) where
 «at»:=λX pins σ H s xs hp hw hk I h=>by
  obtain⟨its,r',pl,_⟩:=I.tuple (pL.of h);exact⟨its,_,r',zN,(show s.heap.IsTuple l its.toArray from pl)⟩
 obj:=λk h ⟨o,a,_,d⟩=>⟨o,a,λv z=>by rw[d]at z;cases z⟩
 keep:=λk h h' ⟨o,a1,a2⟩ k1=>⟨o,k1 o a1,a2⟩
 inj:=λH xs ys h h'=>by rw[h]at h';cases h';rfl
 old:=λH xs h z=>by rw[h]at z;cases z
theorem Inv.ya {X:Cx}{pins:List (Addr×Obj)}{σ:St}{H:Hp}{s:Qb}{fp:List Addr}{h':Heap}{x y:V}{u v:P_}(I:Inv X pins σ H s)(hf:∀b∈fp,dw X pins H b)(k:∀c o,c∉fp->s.heap.get? c=some o->h'.get? c=some o)
  (rx:RelV x u) (ry:RelV y v) (hT:Sk h' s.heap.objs.size u v):Inv X pins σ (upd H s.heap.objs.size (.tup [x,y])) {s with heap:=h'}:=by
 have hn:H s.heap.objs.size=none:=I.bz.fresh (Qf _);have ne:∀{b:Addr} {o:Obj},s.heap.get? b=some o->b≠s.heap.objs.size:=λe=>QO (Qs e);have nt:∀{b:Addr} {o:HO},H b=some o->b≠s.heap.objs.size:=λe z=>by rw[z,hn]at e;cases e
 have nf:∀{b:Addr} {o:HO},H b=some o->b∉fp:=λe z=>by rw[(hf _ z).1]at e;cases e
 refine I.call (g':=s.gens) (t':=s.toks) (d':=s.drawn) (ch:=fp) ⟨λb o e n _ hc=>k b o hc e,λb o e n _ hc=>⟨o.slots,k b o hc e⟩,λb o e n _=>by rw[aw (ne e)];exact n,λb o e hc=>⟨o,k b o hc e⟩,
  λb xs e=>by rw[aw (nt e)];exact e,λb o u e=>by rw[aw (nt e)];exact e,λb ps e=>⟨#[],by rw[aw (nt e),e];simp⟩⟩ (λb u e=>?_) I.bare λb hb=>?_
 ·by_cases hb:b=s.heap.objs.size
  ·subst hb;rw[au]at e;cases e;exact⟨by show 2<=Qp;decide,[_,_],.cons rx (.cons ry .nil),⟨_,hT,rfl,_,rfl⟩⟩
  ·rw[aw hb]at e;refine(I.bz b u e).l3 (λc v hc q=>k c v ?_ q) (λc q=>by rw[aw (nt q)];exact q) λc xs q=>by rw[aw (nt q)];exact q
   rcases hc with z|z
   ·rw[z];exact nf e
   ·exact nf z
 ·obtain⟨f0,f1,f2,f3,f4,f5⟩:=hf b hb;exact⟨f3,f1,f4,f5⟩
theorem Inv.qO {X:Cx}{pins:List (Addr×Obj)}{σ:St}{H:Hp}{s:Qb}{fp:List Addr}{h':Heap}(I:Inv X pins σ H s)(hf:∀b∈fp,dw X pins H b)(k:∀c o,c∉fp->s.heap.get? c=some o->h'.get? c=some o):Inv X pins σ H {s with heap:=h'}:=by
 have nf:∀{b:Addr} {o:HO},H b=some o->b∉fp:=λe z=>by rw[(hf _ z).1]at e;cases e
 refine I.call (g':=s.gens) (t':=s.toks) (d':=s.drawn) (ch:=fp) ⟨λb o e n _ hc=>k b o hc e,λb o e n _ hc=>⟨o.slots,k b o hc e⟩,λb o e n _=>n,λb o e hc=>⟨o,k b o hc e⟩,λb xs e=>e,λb o u e=>e,λb ps e=>⟨#[],by rw[e];simp⟩⟩ (λb u e=>?_) I.bare λb hb=>?_
 ·refine(I.bz b u e).l3 (λc v hc q=>k c v ?_ q) (λc q=>q) λc xs q=>q;rcases hc with z|z
  ·rw[z];exact nf e
  ·exact nf z
 ·obtain⟨f0,f1,f2,f3,f4,f5⟩:=hf b hb;exact⟨f3,f1,f4,f5⟩
theorem nr {P:Qd}{w:Qq}{K:PySem.W.Frag}{elts:List Expr}{kk:Nat}{pos:Pos}{z TI TO i1 i2 l1 l2:Addr}{c1 c2:Iu}{S1 S2:Nat->Heap->Prop}(Ap:Apart z TI TO i1 i2 l1 l2)(s1:Src P w K i1 l1 c1 S1)(s2:Src P w K i2 l2 c2 S2):
  Turn P w K (.Tuple elts kk pos) (MN c1 c2) [z,TI,TO,i1,i2] z (λk h=>T1 h z TI TO .none/\Sk h TI (.ref i1) (.ref i2)/\(∃a b,Sk h TO a b)/\S1 k h/\S2 k h) where
 mem:=by simp
 obj:=λk h GP c hc=> by
  obtain⟨h1,h2,⟨a,b,h3⟩,h4,h5⟩ := GP;simp only[Qc,QT,or_false]at hc;rcases hc with rfl|rfl|rfl|rfl|rfl
  ·exact⟨_,h1,λv z=>by cases (show Data.fields _=US v from z)⟩
  ·exact⟨_,h2,λv z=>by cases (show Data.seq _ _=US v from z)⟩
  ·exact⟨_,h3,λv z=>by cases (show Data.seq _ _=US v from z)⟩
  ·exact s1.obj k h h4
  ·exact s2.obj k h h5
 keep:=λk h h' ⟨h1,h2,⟨a,b,h3⟩,h4,h5⟩ kp=>⟨kp z (by simp) _ h1,kp TI (by simp) _ h2,⟨a,b,kp TO (by simp) _ h3⟩,s1.keep k h h' h4 (λo e=>kp i1 (by simp) o e),s2.keep k h h' h5 λo e=>kp i2 (by simp) o e⟩
 item:=by
  intro X hP hw hK hc i pins s σ H E I hf st hg;obtain⟨g1,g2,⟨a,b,g3⟩,g4,g5⟩:=st;obtain⟨xs,ys,x,y,hx,hy,ex,ey⟩:=hg;obtain⟨vs,C1,r1,D1,k1⟩:=s1.at X pins σ H s xs hP hw hK I hx;obtain⟨us,C2,r2,D2,k2⟩:=s2.at X pins σ H s ys hP hw hK I hy;obtain⟨u,eu,ru⟩:=r1.get ex;obtain⟨v,ev,rv⟩:=r2.get ey;have sub:∀c∈[z,TO,i1,i2],c∈[z,TI,TO,i1,i2]:=λc hc=>by simp at hc ⊢;rcases hc with h|h|h|h <;> simp[h]
  refine uU Ap D1 D2 g1 g2 g3 g4 g5 k1 k2 eu ev λh' y1 y2 y3 y4 y5 y6=>?_;have I1:=I.ya (fp:=[z,TI,TO,i1,i2]) hf (λc o AF e=>y6 c o (λq=>AF (sub c q)) e) ru rv y5;have nT:∀b∈[z,TI,TO,i1,i2],upd H s.heap.objs.size (.tup [x,y]) b=none:=λb hb=>by
   have:b≠s.heap.objs.size:=by
    have:=(show (∃o,s.heap.get? b=some o) from by
     simp only[Qc,QT,or_false]at hb;rcases hb with rfl|rfl|rfl|rfl|rfl
     ·exact⟨_,g1⟩
     ·exact⟨_,g2⟩
     ·exact⟨_,g3⟩
     ·exact⟨_,(s1.obj i _ g4).choose_spec.1⟩
     ·exact⟨_,(s2.obj i _ g5).choose_spec.1⟩)
    obtain⟨o,e⟩:=this;exact QO (Qs e)
   rw[aw this];exact(hf b hb).1
  have OS:Sk h' TI (.ref i1) (.ref i2):=y6 TI _ (by
   have:=Ap.nd;simp only[QB,Qc,QT,or_false,not_or]at this ⊢
   obtain⟨⟨q1,_⟩,⟨q2,q3,q4⟩,_⟩:=this;exact⟨Rr q1,q2,q3,q4⟩) g2
  refine⟨_,rfl,wpAny_letOwnedTupleGo_zip y1 λh'' z' sb=>?_⟩;have I2:Inv X pins σ (upd H s.heap.objs.size (.tup [x,y])) {s with heap:=h''}:=by
   refine I1.qO (fp:=[z]) (λb hb=>?_) λc o AF e=>sb.extBut _ _ (by simpa using AF) e
   have e:b=z:=by simpa using hb
   subst e;exact⟨nT b (by simp),(hf b (by simp)).2⟩
  have HH:∀c∈[TI,TO,i1,i2],c≠z:=λc hc q=>by
   have:=Ap.nd;rw[QB]at this;exact this.1 (by rw[<- q];exact hc)
  refine⟨.ref s.heap.objs.size,_,I2,rfl,⟨s.heap.objs.size,I.bz.fresh (Qf _),rfl,λEb MV xJ NV=>?_⟩,⟨z',sb.extBut _ _ (HH TI (by simp)) OS,⟨_,_,sb.extBut _ _ (HH TO (by simp)) y2⟩,s1.keep _ _ _ y3 (λo e=>sb.extBut _ _ (HH i1 (by simp)) e),s2.keep _ _ _ y4 λo e=>sb.extBut _ _ (HH i2 (by simp)) e⟩,nT⟩
  rw[s1.inj H Eb xs xJ hx,s2.inj H MV ys NV hy];exact⟨x,y,ex,ey,rfl⟩
 done:=by
  intro X hP hw hK hc i pins s σ H E I hf st hg;obtain⟨g1,g2,⟨a,b,g3⟩,g4,g5⟩:=st;obtain⟨xs,ys,hx,hy,ex⟩:=hg;obtain⟨vs,C1,r1,D1,k1⟩:=s1.at X pins σ H s xs hP hw hK I hx;obtain⟨us,C2,r2,D2,k2⟩:=s2.at X pins σ H s ys hP hw hK I hy;have sub:∀c∈[z,TO,i1,i2],c∈[z,TI,TO,i1,i2]:=λc hc=>by simp at hc ⊢;rcases hc with h|h|h|h <;> simp[h]
  refine xU Ap D1 D2 (I.ok.hd hc) g1 g2 g3 g4 g5 k1 k2 (ex.imp (λq=>r1.none_of q) λq=>r2.none_of q) λh' y6=>?_;exact⟨rfl,I.qO (fp:=[z,TI,TO,i1,i2]) hf λc o AF e=>y6 c o (λq=>AF (sub c q)) e⟩
 self:=λA i s Q E ⟨h1,_⟩ q=>UP h1 q
theorem xu:Rb "zip" = some (.type "zip"):=by decide +kernel
noncomputable def eh:List D->List D->List D
 |a::as,b::bs=>.tup [a,b]::eh as bs
 |_,_=>[]
theorem nh:∀{as bs:List D} {i:Nat} {d:D},(eh as bs)[i]?=some d->∃a b,as[i]?=some a/\bs[i]?=some b/\d=.tup [a,b]
 |[],_,_,_,h=>by simp[eh]at h
 |_::_,[],_,_,h=>by simp[eh]at h
 |a::as,b::bs,0,_,h=>by simp[eh]at h;exact⟨a,b,rfl,rfl,h.symm⟩
 |a::as,b::bs,i+1,_,h=>by
  obtain⟨x,y,h1,h2,h3⟩:=nh (as:=as) (bs:=bs) (i:=i) (by simpa[eh] using h)
  exact⟨x,y,by simpa using h1,by simpa using h2,h3⟩
theorem ng:∀(as bs:List D),(eh as bs).length=min as.length bs.length
 |[],_=>by simp[eh]
 |_::_,[]=>by simp[eh]
 |a::as,b::bs=>by simp[eh,ng as bs]
section
variable {X:Cx}{W:Addr->Prop}{H:Hp}{l1 l2:Addr}{xs ys:List V}{ds es:List D}
def qH (t:Bool)(l:Addr):Iu:=λH xs=>if t=true then H l=some (.tup xs) else H l=some (.lst xs)
theorem rG (t:Bool)(h1:qH t l1 H xs)(h2:qH t l2 H ys)(n1:t=false->¬ W l1)(n2:t=false->¬ W l2)(r1:gO X W H ds xs)(r2:gO X W H es ys):sF X W (MN (qH t l1) (qH t l2)) (eh ds es) H:=λW' hW i H' k=>by
 have st:∀{l:Addr} {xs:List V},qH t l H xs->(t=false->¬ W l)->qH t l H' xs:=λ{l xs} h n=>by
  unfold qH at h ⊢
  cases t with
  |true=>exact k.tup l xs h
  |false=>exact k.out l _ h λz=>(hW l z).elim (n rfl) λq=>by rw[show H l=some (HO.lst xs) from h]at q;cases q
 have inj:∀{l:Addr} {xs ys:List V},qH t l H' xs->qH t l H' ys->xs=ys:=λ{l xs ys} a b=>by
  unfold qH at a b;cases t with
  |true=>rw[show H' l=some (HO.tup xs) from a]at b;cases b;rfl
  |false=>rw[show H' l=some (HO.lst xs) from a]at b;cases b;rfl
 have q1:=(ah.grow hW r1).keep k;have q2:=(ah.grow hW r2).keep k;constructor
 ·intro d hd;obtain⟨a,b,ha,hb,rfl⟩:=nh hd;obtain⟨x,ex,rx⟩:=ah.get q1 ha;obtain⟨y,ey,ry⟩:=ah.get q2 hb;refine⟨⟨xs,ys,x,y,st h1 n1,st h2 n2,ex,ey⟩,λv H1 ⟨T,hT,e,yl⟩=>?_⟩;obtain⟨x',y',MC,MB,eH⟩:=yl xs ys (st h1 n1) (st h2 n2);rw[ex]at MC;rw[ey]at MB;cases MC;cases MB;subst e eH;exact⟨az.new hT,Rp.Bl hT (.cons rx (.cons ry .nil))⟩
 ·intro hl;rw[ng]at hl;have z1:=q1.length;have z2:=q2.length;refine⟨xs,ys,st h1 n1,st h2 n2,?_⟩
  by_cases h:ds.length<=i
  ·exact .inl (Rc (by lia))
  ·exact .inr (Rc (by lia))
variable {φs:pF}{elts:List Expr}{kk:Nat}{u9:Pos}
def JO (φs:pF):DV:=λρ R=>φs ρ λl=>∃as bs,(l=[.lst as,.lst bs]\/l=[.tup as,.tup bs])/\R (eh as bs)
theorem vh {P:Qd}{w:Qq}{K:PySem.W.Frag}{i l:Addr}(t:Bool):∃S:Nat->Heap->Prop,Src P w K i l (qH t l) S/\∀h,(t=true->h.IsTupleIter i l 0)->(t=false->h.IsListIter i l 0)->S 0 h:=by
 cases t with
 |true=>exact⟨_,yh,λh a b=>a rfl⟩
 |false=>exact⟨_,src_list,λh a b=>b rfl⟩
theorem qX {a b:Expr} {p pos:Pos} (hm:X.mg "zip" = none) (ha:Hz X [a,b] φs) (hg:Gl X "zip" := by rfl) (hs:Qt [a,b] X.env=[(false,eval a X.env),(false,eval b X.env)]:=by rfl) (h9:Qt [b] X.env=[(false,eval b X.env)]:=by rfl) :
  ML X (.Tuple elts kk u9) (.Call (.Name "zip" p) [a,b] [] pos) (JO φs):=by
 refine⟨λρ R R' k q=>ha.mono ρ _ _ (λl GO=> by obtain⟨as,bs,e,q⟩ := GO;exact⟨as,bs,e,k _ q⟩) q,λpins s σ H R I ⟨W,ρ,se,q⟩=>?_⟩
 refine Call_ (dS I hg hm xu (Ri (bQ (ha.pa pos pins s σ H _ I (ES.of ha se q λds vs H1 h s1 r1=>(⟨ds,h,s1,r1⟩:∃ds,(∃as bs,(ds=[.lst as,.lst bs]\/ds=[.tup as,.tup bs])/\∀J H',az H H'->sF X W J (eh as bs) H'->R J H')/\az H H1/\gO X W H1 ds vs)))
  λus s1 ⟨vs,H1,I1,rv,h⟩=>?_) (by rw[hs,h9]) (by rw[h9];rfl)))
 obtain⟨ds,⟨as,bs,e,q⟩,sm,r1⟩:=h;have main:∀(t:Bool) (l1 l2:Addr) (xs ys:List V),vs=[.ref l1,.ref l2]->qH t l1 H1 xs->qH t l2 H1 ys->(t=false->¬ W l1)->(t=false->¬ W l2)->gO X W H1 as xs->gO X W H1 bs ys ->
   QE (model X.prog X.w) X.A (call (.type "zip") us) (λv s1=>QE (model X.prog X.w) X.A (UA v) (DX X pins σ (.Tuple elts kk u9) R) X.xe s1) X.xe s1:=by
  intro t l1 l2 xs ys ev g1 g2 n1 n2 w1 w2;subst ev;have it:=rG t g1 g2 n1 n2 w1 w2;obtain⟨v1,v2,rfl,e1,e2⟩:∃v1 v2,us=[v1,v2]/\RelV (.ref l1) v1/\RelV (.ref l2) v2:=by
   cases rv with
   |cons a rr=>cases rr with
    |cons b rr=>cases rr;exact⟨_,_,rfl,a,b⟩
  cases e1;cases e2;have Ck:l1<s1.heap.objs.size:=I1.bz.lt (o:=if t=true then .tup xs else .lst xs) (by unfold qH at g1;cases t <;> exact g1)
  have Cj:l2<s1.heap.objs.size:=I1.bz.lt (o:=if t=true then .tup ys else .lst ys) (by unfold qH at g2;cases t <;> exact g2)
  have Ap:Apart (s1.heap.objs.size+4) (s1.heap.objs.size+2) (s1.heap.objs.size+3) s1.heap.objs.size (s1.heap.objs.size+1) l1 l2:=by
   generalize s1.heap.objs.size=n at Ck Cj
   change (l1:Nat)<n at Ck
   change (l2:Nat)<n at Cj
   refine⟨?_,λc hc=>?_,λc hc=>?_⟩
   ·have q:∀(i j:Nat),i≠j->(n+i:Nat)≠n+j:=λi j h z=>h (Nat.add_left_cancel z);simp only[QB,Qc,QT,or_false,not_or,Q5,not_false_eq_true,and_true];exact⟨⟨q 4 2 (by decide),q 4 3 (by decide),q 4 0 (by decide),q 4 1 (by decide)⟩,⟨q 2 3 (by decide),q 2 0 (by decide),q 2 1 (by decide)⟩,⟨q 3 0 (by decide),q 3 1 (by decide)⟩,q 0 1 (by decide)⟩
   ·simp only[Qc,QT,or_false]at hc;rcases hc with rfl|rfl|rfl|rfl <;> exact QO (QA Ck (by first|exact SW _ _|exact Qf _))
   ·simp only[Qc,QT,or_false]at hc;rcases hc with rfl|rfl|rfl|rfl <;> exact QO (QA Cj (by first|exact SW _ _|exact Qf _))
  obtain⟨S1,IW,z1⟩:=vh (P:=X.prog) (w:=X.w) (K:=X.K) (i:=s1.heap.objs.size) (l:=l1) t;obtain⟨S2,IV,z2⟩:=vh (P:=X.prog) (w:=X.w) (K:=X.K) (i:=s1.heap.objs.size+1) (l:=l2) t;have fin:∀h',T1 h' (s1.heap.objs.size+4) (s1.heap.objs.size+2) (s1.heap.objs.size+3) .none->Sk h' (s1.heap.objs.size+2) (.ref s1.heap.objs.size) (.ref (s1.heap.objs.size+1))->Sk h' (s1.heap.objs.size+3) .none .none ->
    S1 0 h'->S2 0 h'->(∀c o,s1.heap.get? c=some o->h'.get? c=some o)->QE (model X.prog X.w) X.A (UA (.ref (s1.heap.objs.size+4))) (DX X pins σ (.Tuple elts kk u9) R) X.xe {s1 with heap:=h'}:=λh' y1 y2 y3 y4 y5 y6=>by
   refine UP y1 ?_;have I2:Inv X pins σ H1 {s1 with heap:=h'}:=I1.kept (t':=s1.toks) y6
   refine⟨_,_,_,_,H1,rfl,I2,nr Ap IW IV,⟨y1,y2,⟨_,_,y3⟩,y4,y5⟩,λb hb=>?_,q _ _ sm it⟩;have iV:s1.heap.objs.size<=b:=by
    simp only[Qc,QT,or_false]at hb;rcases hb with rfl|rfl|rfl|rfl|rfl <;> first|exact SW _ _|exact Qf _
   exact I1.qu iV (I1.bz.fresh iV)
  cases t with
  |true =>
   obtain⟨CH,_,p1,_⟩:=I1.tuple (pL.of (show H1 l1=some (.tup xs) from g1))
   obtain⟨tV,_,p2,_⟩:=I1.tuple (pL.of (show H1 l2=some (.tup ys) from g2))
   exact uS (show s1.heap.IsTuple l1 CH.toArray from p1) (show s1.heap.IsTuple l2 tV.toArray from p2) λh' y1 y2 y3 y4 y5 y6=>fin h' y1 y2 y3 (z1 h' (λ_=>y4) λz=>by cases z) (z2 h' (λ_=>y5) λz=>by cases z) y6
  |false =>
   obtain⟨CH,_,p1,_⟩:=I1.list (c6.of (show H1 l1=some (.lst xs) from g1))
   obtain⟨tV,_,p2,_⟩:=I1.list (c6.of (show H1 l2=some (.lst ys) from g2))
   exact call_zip_2 p1.isList p2.isList λh' y1 y2 y3 y4 y5 y6 y7=>fin h' y1 y2 y3 (z1 h' (λz=>by cases z) λ_=>y4) (z2 h' (λz=>by cases z) λ_=>y5) y7
 rcases e with rfl|rfl
 ·obtain⟨x,y,rfl,⟨l1,xs,rfl,g1,n1,w1⟩,⟨l2,ys,rfl,g2,n2,w2⟩⟩:=j7 r1;exact main false l1 l2 xs ys rfl g1 g2 (λ_=>n1) (λ_=>n2) w1 w2
 ·obtain⟨x,y,rfl,⟨l1,xs,rfl,g1,w1⟩,⟨l2,ys,rfl,g2,w2⟩⟩:=j7 r1;exact main true l1 l2 xs ys rfl g1 g2 (λz=>by cases z) (λz=>by cases z) w1 w2
end
section
end
theorem bK {lo:Int}{n i:Nat}{d:D}(h:(md lo n)[i]?=some d):i<n/\d=.int (lo+i):=by
 unfold md at h;rw[Ql]at h;have hi:i<n:=by
  by_cases hi:i<n
  ·exact hi
  ·rw[Rc (by simpa using hi)]at h;cases h
 rw[Se hi]at h;cases h;exact⟨hi,rfl⟩
theorem bR {lo:Int}{n:Nat}:(md lo n).length=n:=by unfold md;simp
section
end
structure Df (K:PySem.W.Frag)(mg:Str->Option P_)(x:Str)(st:Stmt)(ps:List Str)(f:Addr)(fd:Q0):Prop where
 F:xR K x x st f fd
 b:Binds K fd ps []
 m:mg x=some (.ref f)
structure Bs (mg:Str->Option P_):Prop where
 max:mg "max" = none
 min:mg "min" = none
 int:mg "int" = none
 range:mg "range" = none
 sorted:mg "sorted" = none
 set:mg "set" = none
 len:mg "len" = none
 list:mg "list" = none
theorem da.xZ {k:Nat}{A:Rj}(r:da k A):A.units+64+1<TY:=by have:=r.un;lia
def Ir (n:Int)(t:List Int):Prop:=∃a b,t=[a,b]/\0<=a/\a<b/\b<n
theorem Ir.ne {n:Int}{t:List Int}(h:Ir n t):t≠[]:=by
 obtain⟨a,b,rfl,_⟩:=h;intro z;cases z
def fE (n:Int)(ts:List (List Int)):Prop:=∀t∈ts,Ir n t
theorem fE.ne {n:Int}{ts:List (List Int)}(h:fE n ts):∀k∈ts,k≠[]:=λk hk=>(h k hk).ne
theorem fE.nil {n:Int}:fE n []:=λ_ z=>(nomatch z)
theorem jW (ts:List (List Int)):D.cC (ts.map kD)=true:=by
 have fi:∀k:List Int,D.cC (k.map D.int)=true:=λk=>by
  induction k with
  |nil=>rfl
  |cons i k ih=>show (D.flat (.int i)&&D.cC (k.map D.int))=true;rw[ih];rfl
 induction ts with
 |nil=>rfl
 |cons t ts ih =>
  show (D.flat (kD t)&&D.cC (ts.map kD))=true;rw[ih];show (D.cC (t.map D.int)&&true)=true;rw[fi];rfl
def Drawn (n:Int)(ts:List (List Int)):Prop:=ts.length<=300/\fE n ts/\qI ts/\ts.Nodup
theorem k7 {a b:D}:[a,b].length<=Qp:=by show 2<=Qp;decide
theorem LB {a b c:D}:[a,b,c].length<=Qp:=by show 3<=Qp;decide
theorem uD {a:D}:[a].length<=Qp:=by show 1<=Qp;decide
theorem zq {b:Bool}{p q:Prop}(hb:b=true)(h:p):(if b=true then p else q):=by rw[if_pos hb];exact h
theorem pI {b:Bool}{p q:Prop}(hb:b=false)(h:q):(if b=true then p else q):=by rw[hb,if_neg (by simp)];exact h
theorem jO {c:Prop}[Decidable c]{p q:Prop}(h1:c->p)(h2:¬ c->q):(if decide c=true then p else q):=by
 by_cases h:c
 ·exact zq (by simp[h]) (h1 h)
 ·exact pI (by simp[h]) (h2 h)
theorem NT {c:Prop}[Decidable c]{p q:Prop}(h1:¬ c->p)(h2:c->q):(if (!decide c)=true then p else q):=by
 by_cases h:c
 ·exact pI (by simp[h]) (h2 h)
 ·exact zq (by simp[h]) (h1 h)
theorem gu {α:Type}(f:α->D):∀l:List α,D.f7 (l.map f)=l.map λa=>(f a).pd
 |[]=>rfl
 |a::l=>by
  show (f a).pd::D.f7 (l.map f)=_;rw[gu f l];rfl
theorem ij {n:Nat}:∀{xs:List PyData},(∀x∈xs,x.canLay0=true/\x.depth<=n)->SH xs=true/\RA xs<=n
 |[],_=>⟨by simp[SH],by simp[RA]⟩
 |x::xs,h=>by
  obtain⟨h1,h2⟩:=ij (n:=n) (xs:=xs) λy hy=>h y (by simp[hy])
  obtain⟨g1,g2⟩:=h x (by simp)
  refine⟨by simp[SH,h1,g1],?_⟩
  simp only[RA];lia
theorem k9 {n:Nat}{ds:List D}(h:∀d∈ds,d.pd.canLay0=true/\d.pd.depth<=n):(D.tup ds).pd.canLay0=true/\(D.tup ds).pd.depth<=n+1:=by
 have e:D.f7 ds=ds.map λd=>d.pd:=by
  have:=gu (λd:D=>d) ds;simpa using this
 obtain⟨h1,h2⟩:=ij (n:=n) (xs:=D.f7 ds) λx hx=>by
  rw[e]at hx;obtain⟨d,hd,rfl⟩:=QP.mp hx;exact h d hd
 refine⟨by simpa[D.pd,Rm] using h1,?_⟩
 have:(D.tup ds).pd.depth=RA (D.f7 ds)+1:=by simp[D.pd,SV]
 lia
theorem dZ {n:Nat}{ds:List D}(h:∀d∈ds,d.pd.canLay0=true/\d.pd.depth<=n):(D.lst ds).pd.canLay0=true/\(D.lst ds).pd.depth<=n+1:=by
 have e:D.f7 ds=ds.map λd=>d.pd:=by
  have:=gu (λd:D=>d) ds;simpa using this
 obtain⟨h1,h2⟩:=ij (n:=n) (xs:=D.f7 ds) λx hx=>by
  rw[e]at hx;obtain⟨d,hd,rfl⟩:=QP.mp hx;exact h d hd
 refine⟨by simpa[D.pd,Rm] using h1,?_⟩
 have:(D.lst ds).pd.depth=RA (D.f7 ds)+1:=by simp[D.pd,SV]
 lia
theorem cA (i:Int):(D.int i).pd.canLay0=true/\(D.int i).pd.depth<=1:=⟨by simp[D.pd,Rm],by simp[D.pd,SV]⟩
theorem vp (b:Bool):(D.bl b).pd.canLay0=true/\(D.bl b).pd.depth<=1:=⟨by simp[D.pd,Rm],by simp[D.pd,SV]⟩
theorem vo (t:List Int):(kD t).pd.canLay0=true/\(kD t).pd.depth<=2:=k9 λd hd=>by
 obtain⟨i,_,rfl⟩:=QP.mp hd;exact cA i
theorem pW (ts:List (List Int)):(D.lst (ts.map kD)).pd.canLay0=true/\(D.lst (ts.map kD)).pd.depth<=3:=dZ λd hd=>by
 obtain⟨i,_,rfl⟩:=QP.mp hd;exact vo i
theorem bu (ts:List Int):(D.lst (ts.map D.int)).pd.canLay0=true/\(D.lst (ts.map D.int)).pd.depth<=2:=dZ λd hd=>by
 obtain⟨i,_,rfl⟩:=QP.mp hd;exact cA i
theorem cE {d:D}{n:Nat}(h:d.pd.canLay0=true/\d.pd.depth<=n)(hn:n<=64:=by decide):d.pX=true:=by
 show (d.pd.canLay0&&decide (d.pd.depth<=64))=true;rw[h.1,decide_eq_true (by lia)]
 rfl
theorem j3 {α:Type}[DecidableEq α]{f:α->PyData}(hf:∀a b,Rw (f a) (f b)=decide (a=b)):∀xs ys:List α,TQ (xs.map f) (ys.map f)=decide (xs=ys)
 |[],[]=>by simp[TQ]
 |[],_::_=>by simp[TQ]
 |_::_,[]=>by simp[TQ]
 |x::xs,y::ys=>by
  simp only[QS,TQ];rw[hf,j3 hf xs ys]
  by_cases h1:x=y
  ·by_cases h2:xs=ys <;> simp[h1,h2]
  ·simp[h1]
theorem mS (i j:Int):Rw (D.int i).pd (D.int j).pd=decide (i=j):=by
 simp only[D.pd,Rw]
 by_cases h:i=j <;> simp[h]
theorem j0 (ts us:List Int):Rw (D.lst (ts.map D.int)).pd (D.lst (us.map D.int)).pd=decide (ts=us):=by
 show Rw (.list (D.f7 (ts.map D.int))) (.list (D.f7 (us.map D.int)))=_;rw[gu,gu];simp only[Rw];exact j3 mS ts us
theorem xl {a b:D}{c:Bool}(h1:a.pX=true)(h2:b.pX=true)(e:Rw a.pd b.pd=c):EB a b=some (.bl c):=by
 unfold EB;rw[if_pos ⟨h1,h2⟩,e]
theorem mU {a b:D}{c:Bool}(h1:a.pX=true)(h2:b.pX=true)(e:Rw a.pd b.pd=c):zP a b=some (.bl (!c)):=by
 unfold zP;rw[if_pos ⟨h1,h2⟩,e]
theorem bI (i j:Int):EB (.int i) (.int j)=some (.bl (decide (i=j))):=xl (cE (cA i)) (cE (cA j)) (mS i j)
theorem zO (i j:Int):zP (.int i) (.int j)=some (.bl (!decide (i=j))):=mU (cE (cA i)) (cE (cA j)) (mS i j)
theorem xm (ts us:List Int):EB (.lst (ts.map D.int)) (.lst (us.map D.int))=some (.bl (decide (ts=us))):=xl (cE (bu ts)) (cE (bu us)) (j0 ts us)
theorem o7 (ts us:List Int):zP (.lst (ts.map D.int)) (.lst (us.map D.int))=some (.bl (!decide (ts=us))):=mU (cE (bu ts)) (cE (bu us)) (j0 ts us)
theorem any_map {α:Type}[DecidableEq α]{f:α->D}(hf:∀a b,Rw (f a).pd (f b).pd=decide (a=b))(t:α):∀xs:List α,((D.f7 (xs.map f)).any λy=>Rw y (f t).pd)=decide (t∈xs)
 |[]=>rfl
 |x::xs=>by
  show (Rw (f x).pd (f t).pd || (D.f7 (xs.map f)).any λy=>Rw y (f t).pd)=_
  rw[any_map hf t xs,hf]
  by_cases h:x=t
  ·simp[h]
  ·have h':¬ t=x:=λz=>h z.symm;simp[h,h']
theorem MK {α:Type}{ds:List α}{i:Nat}{d:α}(h:ds[i]?=some d):j6 ds (i:Int)=some d:=by
 have hl:i<ds.length:=(Qg.mp h).1;unfold j6 lz;rw[if_pos (by lia),if_pos (by lia),RQ]
 exact h
theorem DP {α:Type}{ds:List α}{i:Int}(h0:0<=i)(h1:i<ds.length):∃d∈ds,j6 ds i=some d/\ds[i.toNat]?=some d:=by
 have hl:i.toNat<ds.length:=by lia
 refine⟨ds[i.toNat],Tn hl,?_,Qm hl⟩;have:=MK (ds:=ds) (i:=i.toNat) (Qm hl)
 rwa [show ((i.toNat:Nat):Int)=i by lia]at this
theorem zU {ds:List D}{i:Nat}{d:D}(h:ds[i]?=some d):rY (.lst ds) (.int (i:Int))=some d:=MK h
theorem pick {ds:List D}{r:Int}{p:D->Prop}(h0:0<=r)(h1:r<ds.length)(h:∀d∈ds,p d):∃d,rY (.lst ds) (.int r)=some d/\p d:=by
 obtain⟨d,hd,e,_⟩:=DP h0 h1;exact⟨d,e,h d hd⟩
theorem o8 {i j:Int}:o9 [.int i,.int j]=some (.int (if j<i then j else i)):=by
 first|rfl|(simp[o9])
def Ly:D->Option String
 |.d7=>some "NoneType"
 |.bl _=>some "bool"
 |.int _=>some "int"
 |.str _=>some "str"
 |.tup _=>some "tuple"
 |.lst _=>some "list"
 |_=>none
section
variable {X:Cx}{W:Addr->Prop}{H:Hp}
theorem Rp.ty {d:D}{v:V}{T:String}(h:Rp X W H d v)(e:Ly d=some T):gN X.K H v (.type T):=by
 cases d with
 |d7=>cases h;cases e;exact .d7
 |bl b=>cases h;cases e;exact .bl _
 |int b=>cases h;cases e;exact .int _
 |str b=>cases h;cases e;exact .str _
 |tup ds=>obtain⟨a,vs,rfl,h1,_⟩:=h;cases e;exact .tup h1
 |lst ds=>obtain⟨a,vs,rfl,h1,_⟩:=h;cases e;exact .lst h1
 |_=>cases e
end
section
variable {X:Cx}{a:Expr}{φ:DW}{T:Str}{n:String}{p p2 pos:Pos}
theorem yt (hm:X.mg "isinstance" = none) (ha:PV X a φ) (hT:X.mg T=none) (bT:Rb T=some (.type n)) (hg:Gl X "isinstance" := by rfl) (Om:Gl X T:=by rfl) (N9:T≠"__name__" := by decide) (Ov:(T==("__debug__" : Str))=false:=by decide)
  (lD:Qt [a,.Name T p2] X.env=(false,eval a X.env)::Qt [.Name T p2] X.env:=by rfl) (JU:Qt [.Name T p2] X.env=(false,eval (.Name T p2) X.env)::Qt [] X.env:=by rfl) (hpl:(SF pos (Qt [.Name T p2] X.env)).any (·.1)=false:=by rfl) :
  PV X (.Call (.Name "isinstance" p) [a,.Name T p2] [] pos) (λρ R=>φ ρ λd=>∃t k,Ly d=some t/\PySem.W.kitOne X.K (.type t) (.type n)=some k/\R (.bl k)) :=
 ⟨λρ R R' k h=>ha.mono ρ _ _ (λd GN=> by obtain⟨t,b,h1,h2,q⟩ := GN;exact⟨t,b,h1,h2,k _ q⟩) h,
  (gq xr hg hm DI (bo ha.pe (bo (yE (v:=.ty n) Om hT bT rfl N9 Ov) dt JU) lD) (he:=lD) (hpl:=hpl)).pre λσ H Q ⟨W,ρ,se,h⟩=>tD.of ha se h λd v H1 ⟨t,k,h1,h2,q⟩ s1 r1 =>
    ⟨v,n,_,k,rfl,r1.ty h1,h2,q _ H1 s1 rfl⟩⟩
end
end L2
namespace L2.Q
open PySem PySem.Spec PySem.SeqAt PyProof.Rows
def allB (β:ba):uP:=β.map λb=>match b with|some (.val _ d)=>some d|some (.own d)=>some d|_=>none
def Bh (β:ba):uP:=β.map λb=>match b with|some (.val _ d)=>some d|_=>none
section
variable {P:Qd}{w:Qq}{C:Cfg}{σ:St}{H:Hp}{β:ba}{own:Nat->List Addr}{i:Nat}
theorem bD.I9 (s:bD P w C σ H β own):EE P w (λ_=>False) σ H (allB β):=⟨λa z=>z.elim,λi d e=>by
 unfold allB at e;rw[Ql]at e;cases q:β[i]? with
 |none=>rw[q]at e;cases e
 |some x =>
  rw[q]at e;cases x with
  |none=>cases e
  |some x =>
   cases x with
   |val y d'=>cases e;obtain⟨v,h1,h2⟩:=s.val i y d q;exact⟨v,h1,h2.aX λ_ z=>z.elim⟩
   |own d'=>cases e;obtain⟨v,h1,h2,_⟩:=s.ow i d q;exact⟨v,h1,h2.rep λ_ _ z=>z⟩
   |hand ok=>cases e
   |shl y d=>cases e⟩
theorem bD.IZ (s:bD P w C σ H β own):EE P w (av C (Wn own) .old) σ H (Bh β):=⟨s.Ew .old,λi d e=>by
 unfold Bh at e;rw[Ql]at e;cases q:β[i]? with
 |none=>rw[q]at e;cases e
 |some x =>
  rw[q]at e;cases x with
  |none=>cases e
  |some x =>
   cases x with
   |val y d'=>cases e;obtain⟨v,h1,h2⟩:=s.val i y d q;exact⟨v,h1,h2.aX λa z=>by cases y <;> first|exact .inl z|exact .inl (.inl z)⟩
   |own d'=>cases e
   |hand ok=>cases e
   |shl y d=>cases e⟩
end
section
variable {X:Cx}{C:Cfg}{e tg it:Expr}{φ:DW}{ι:DV}
theorem BP (h:PV X e φ):PQ X C true e (λβ R=>φ (allB β) λd=>d.flat=true/\R d .own β) :=
 ⟨λβ R R' k q=>h.mono _ _ _ (λd q=>⟨q.1,k _ _ _ q.2⟩) q,h.pe.pre λσ H Q C4=>by obtain⟨β,own,s,q⟩:=C4;exact tD.of h s.I9 q λd v H1 zu s1 r1=>by obtain⟨f,q⟩:=zu;exact q v H1 own ((Out.refl s true).same s1) (KV.flat f r1)⟩
theorem q_ (h:ML X tg it ι):qK X C true tg it (λβ R=>ι (Bh β) λds=>R ds .old β) :=
 ⟨λβ R R' k q=>h.mono _ _ _ (λd q=>k _ _ _ q) q,h.pi.pre λσ H R CQ=>by obtain⟨β,own,s,q⟩:=CQ;exact⟨_,_,s.IZ,h.mono _ _ _ (λds q J H' s1 it=>q J H' own ((Out.refl s true).same s1) it) q⟩⟩
end
section
variable {P:Qd}{w:Qq}{C:Cfg}{σ:St}{H:Hp}{β:ba}{own:Nat->List Addr}{i:Nat}{ok:List Int->Prop}{ns:List Int}
theorem lq:∀{ns:List Int} {vs:List V} {A:List Addr},aK P w H (ns.map D.int) vs A->vs=ns.map V.int/\A=[]
 |[],_,_,h=>h
 |n::ns,_,_,⟨v,r,A1,A2,e,eA,h1,h2⟩=>by
  obtain⟨rfl,rfl⟩:=lq h2;obtain⟨rfl,rfl⟩:=h1;exact⟨e,by rw[eA];rfl⟩
theorem bD.toHand (s:bD P w C σ H β own)(e:β[i]?=some (some (.own (.lst (ns.map D.int)))))(ho:ok ns)(io:∀b,¬ C.IO b):bD P w C σ H (β.set i (some (.hand ok))) own:=by
 obtain⟨v,h1,⟨a,vs,A',rfl,h2,h3,h4⟩,h5⟩:=s.ow i _ e;obtain⟨rfl,rfl⟩:=lq h4;refine⟨by simp[s.len],λj y d q=>?_,λj d q=>?_,λj uG q=>?_,s.dm,s.ic,s.i8,s.kp,s.ft,λj y d q=>by
  by_cases aD:i=j
  ·subst aD;obtain⟨e',_⟩:=aQ q;cases e'
  ·rw[aO aD]at q;exact s.shl j y d q⟩
 ·by_cases aD:i=j
  ·subst aD;obtain⟨e',_⟩:=aQ q;cases e'
  ·rw[aO aD]at q;exact s.val j y d q
 ·by_cases aD:i=j
  ·subst aD;obtain⟨e',_⟩:=aQ q;cases e'
  ·rw[aO aD]at q;exact s.ow j d q
 ·by_cases aD:i=j
  ·subst aD;obtain⟨e',_⟩:=aQ q;cases e';exact⟨a,ns,h1,h2,ho,h3,.inl io⟩
  ·rw[aO aD]at q;exact s.lE j uG q
end
section
variable {X:Cx}{C:Cfg}{e:Expr}{φ:aY}{p:Bool}{i:Nat}{x:Str}{pos pos':Pos}{ok:List Int->Prop}
theorem yF (ok:List Int->Prop)(KA:∀b,¬ C.IO b)(he:∀U,PQ X (C.u U) p e φ)(hN:X.N.Nodup)(hi:X.N[i]?=some x:=by rfl)(hx:Loc X.env.scope x:=by first|exact .inl rfl|exact .inr rfl)
  (hs:RN e (some (.Name x pos')) pos.line X.env=pure false:=by rfl) (hf:X.fn x=true\/X.env.scope.names.lookup x=some .local:=by first|exact .inl rfl|exact .inr rfl|assumption) :
  PB X C (.Assign [.Name x pos'] e pos) (λE β=>φ β λd k β'=>xI k d/\i<β'.length/\∃ns:List Int,d=.lst (ns.map D.int)/\ok ns/\E.nx (β'.set i (some (.hand ok)))):=by
 have B:=fx (C:=C) (i:=i) (pos:=pos) (pos':=pos') he hN hi hx hs hf;refine⟨λE E' β l q=>(he λ_=>False).mono _ _ _ (λd k β' J8=>by obtain⟨f,h,ns,e,o,q⟩:=J8;exact⟨f,h,ns,e,o,l.nx _ q⟩) q,B.ps.pre λDe σ H ⟨Z,E,β,sb,q,uG⟩=>?_⟩
 refine⟨Z,{E with nx:=λβ'=>∃(ns:List Int) (β2:ba),i<β2.length/\β'=β2.set i (some (.own (.lst (ns.map D.int))))/\ok ns/\E.nx (β2.set i (some (.hand ok)))},β,sb,(he λ_=>False).mono _ _ _ (λd k β' F9=>by obtain⟨f,h,ns,e,o,q⟩:=F9;exact⟨f,ns,β',h,by rw[e],o,q⟩) q,⟨λσ' H' β' yp ⟨ns,β2,hl,e,o,q⟩=>?_,uG.rt,uG.bk,uG.ct⟩⟩
 subst e;obtain⟨own,s,n⟩:=yp;have:=s.toHand (i:=i) (ok:=ok) (get_set hl) o KA;rw[Tf]at this;exact uG.nx _ _ _ ⟨own,this,n⟩ q
end
section
variable {k:Expr}
theorem CG {n:Nat}{j:Int}{k:Nat}(h:lz n j=some k):k<n:=by
 unfold lz at h
 by_cases h0:0<=j
 ·rw[if_pos h0]at h
  by_cases h1:j<n
  ·rw[if_pos h1]at h;cases h;lia
  ·rw[if_neg h1]at h;cases h
 ·rw[if_neg h0]at h
  by_cases h1:-(n:Int)<=j
  ·rw[if_pos h1]at h;cases h;lia
  ·rw[if_neg h1]at h;cases h
end
end L2.Q
namespace L2
open PySem PySem.Spec PySem.SeqAt PyProof.Rows
section
end
namespace Q
section
variable {P:Qd}{w:Qq}{C:Cfg}{σ:St}{H:Hp}{β:ba}{own:Nat->List Addr}{lk:List (Option Nat)}{a:Addr}
theorem bD.Du {o:HO}(ho:∀xs,o≠.tup xs)(s:bD P w C σ H β own)(ha:H a=none)(inj:∀(i i' j:Nat),lk[i]?=some (some j)->lk[i']?=some (some j)->i=i'):
  bD P w (C.u λc=>c=a) (cN lk σ) (upd H a o) (cB lk β) (br lk β own):=by
 have h0:C.H0 a=none:=QG λz=>s.ft a z ha;have q:=(s.enter ha inj).BE (o:=o) au (λxs z=>by cases z) h0
 have e:upd (upd H a (.lst [])) a o=upd H a o:=by
  funext b
  by_cases hb:b=a
  ·rw[hb,au,au]
  ·rw[aw hb,aw hb,aw hb]
 rwa [e]at q
end
section
end
end Q
end L2
namespace L2.Q
open PySem PySem.Spec PySem.SeqAt PyProof.Rows
abbrev FK (l:Bool)(ds:List D):D:=match l with|true=>.lst ds|false=>.tup ds
section
variable {P:Qd}{w:Qq}{H:Hp}{A:List Addr}{v:V}{ds:List D}{l:Bool}
theorem gx {m:Nat}{es:List D}(r:Own P w H (FK l ds) v A)(nd:A.Nodup)(hm:ds[m]?=some (.lst es)):∃a vs c us B,v=.ref a/\H a=some (match l with|true=>.lst vs|false=>.tup vs)/\vs.length=ds.length/\vs[m]?=some (.ref c)/\H c=some (.lst us)/\c∈A/\aK P w H es us B/\(∀x∈B,x∈A/\x≠c)/\B.Nodup /\
  ∀qw pR B',aK P w H qw pR B'->B'.Nodup->(∀x∈B',x∈B\/x∉A)->(∀x∈B',x≠c)->∃A',Own P w (upd H c (.lst pR)) (FK l (ds.set m (.lst qw))) v A'/\A'.Nodup/\∀x∈A',x∈A\/x∈B':=by
 have core:∀{vs:List V} {A:List Addr},A.Nodup->aK P w H ds vs A->∃c us B,vs[m]?=some (.ref c)/\H c=some (.lst us)/\c∈A/\aK P w H es us B/\(∀x∈B,x∈A/\x≠c)/\B.Nodup /\
   ∀qw pR B',aK P w H qw pR B'->B'.Nodup->(∀x∈B',x∈B\/x∉A)->(∀x∈B',x≠c)->∃A',aK P w (upd H c (.lst pR)) (ds.set m (.lst qw)) vs A'/\A'.Nodup/\(∀x∈A',x∈A\/x∈B'):=λ{vs A} nd os=>by
  have hl:=os.length;have Od:m<ds.length:=(Qg.mp hm).1;obtain⟨u,A1,A2,A3,g1,rfl,g3,⟨c,us,B,rfl,h2,rfl,h4⟩,g5⟩:=os.split hm;obtain⟨HY,Ef,Jv⟩:=Q9.mp nd;obtain⟨LW,Nz,LV⟩:=Q9.mp Ef;have NC:=(QB.mp LW).1;refine⟨c,us,B,g1,h2,by simp,h4,λx hx=>⟨by simp[hx],λz=>NC (by rw[<- z];exact hx)⟩,(QB.mp LW).2,λqw pR B' o' n' iV kg=>?_⟩
  have kt:∀b xs,H b=some (.tup xs)->upd H c (.lst pR) b=some (.tup xs):=λb xs z=>by rw[aw (λz'=>by rw[z',h2]at z;cases z)];exact z
  have n1:∀x∈A1,x≠c:=λx hx z=>Jv x hx c (by simp) z
  have n3:∀x∈A3,x≠c:=λx hx z=>LV c (by simp) x hx z.symm
  have off:∀x∈B',x∉A1/\x∉A3:=λx hx=>by
   rcases iV x hx with z|z
   ·exact⟨λq=>Jv x q x (by simp[z]) rfl,λq=>LV x (by simp[z]) x q rfl⟩
   ·exact⟨λq=>z (by simp[q]),λq=>z (by simp[q])⟩
  have Ih:m<vs.length:=by lia
  have ev:vs=vs.take m++V.ref c::vs.drop (m+1):=by
   have e1:vs=vs.take m++vs.drop m:=(Ti _ _).symm;rw[SY Ih]at e1;have:vs[m]=V.ref c:=by
    have:=Qm Ih;rw[g1]at this;exact(Q3 this).symm
   rwa [this]at e1
  refine⟨A1++((c::B')++A3),?_,Q9.mpr ⟨HY,Q9.mpr ⟨QB.mpr ⟨λz=>kg c z rfl,n'⟩,Nz,λx hx y hy=>?_⟩,λx hx y hy z=>?_⟩,λx hx=>?_⟩
  ·rw[Tc,if_pos Od];have q:aK P w (upd H c (.lst pR)) (ds.take m++.lst qw::ds.drop (m+1)) (vs.take m++.ref c::vs.drop (m+1)) (A1++((c::B')++A3)) :=
    (g3.keep kt λx hx oc ec=>by rw[aw (n1 x hx)];exact ec).append ⟨.ref c,_,c::B',A3,rfl,rfl,⟨c,pR,B',rfl,au,rfl,o'.keep kt λx hx oc ec=>by rw[aw (kg x hx)];exact ec⟩,g5.keep kt λx hx oc ec=>by rw[aw (n3 x hx)];exact ec⟩
   rw[<- ev]at q;exact q
  ·intro z;subst z;rcases Qc.mp hx with rfl|hx
   ·exact n3 _ hy rfl
   ·exact(off x hx).2 hy
  ·subst z;rcases Qr.mp hy with hy|hy
   ·rcases Qc.mp hy with rfl|hy
    ·exact n1 _ hx rfl
    ·exact(off x hy).1 hx
   ·exact Jv x hx x (by simp[hy]) rfl
  ·rcases Qr.mp hx with hx|hx
   ·exact .inl (by simp[hx])
   ·rcases Qr.mp hx with hx|hx
    ·rcases Qc.mp hx with rfl|hx
     ·exact .inl (by simp)
     ·exact .inr hx
    ·exact .inl (by simp[hx])
 cases l with
 |true =>
  obtain⟨a,vs,A',rfl,h2,rfl,h4⟩:=r;obtain⟨na,LX⟩:=QB.mp nd;obtain⟨c,us,B,q1,q2,q3,q4,q5,q6,q7⟩:=core LX h4;have ca:c≠a:=λz=>na (by rw[<- z];exact q3)
  refine⟨a,vs,c,us,B,rfl,h2,h4.length,q1,q2,by simp[q3],q4,λx hx=>⟨by simp[(q5 x hx).1],(q5 x hx).2⟩,q6,λqw pR B' o' n' iV kg=>?_⟩
  obtain⟨A2,g1,g2,g3⟩:=q7 qw pR B' o' n' (λx hx=>(iV x hx).imp id λz q=>z (by simp[q])) kg
  refine⟨a::A2,⟨a,vs,A2,rfl,by rw[aw ca.symm];exact h2,rfl,g1⟩,QB.mpr ⟨λz=>?_,g2⟩,λx hx=>?_⟩
  ·rcases g3 a z with z|z
   ·exact na z
   ·rcases iV a z with z|z
    ·exact na (q5 a z).1
    ·exact z (by simp)
  ·rcases Qc.mp hx with rfl|hx
   ·exact .inl (by simp)
   ·exact(g3 x hx).imp (λz=>by simp[z]) id
 |false =>
  obtain⟨a,vs,rfl,h2,h4⟩:=r;obtain⟨c,us,B,q1,q2,q3,q4,q5,q6,q7⟩:=core nd h4;have ca:a≠c:=λz=>by rw[z,q2]at h2;cases h2
  refine⟨a,vs,c,us,B,rfl,h2,h4.length,q1,q2,q3,q4,q5,q6,λqw pR B' o' n' iV kg=>?_⟩;obtain⟨A2,g1,g2,g3⟩:=q7 qw pR B' o' n' iV kg;exact⟨A2,⟨a,vs,rfl,by rw[aw ca];exact h2,g1⟩,g2,g3⟩
end
section
variable {X:Cx}{C:Cfg}{e k:Expr}{φ φk:aY}{i:Nat}{x:Str}{pos px kp ap cp:Pos}
theorem nQ (l:Bool)(he:∀U,PQ X (C.u U) true e φ)(hk:∀U,PQ X (C.u U) true k φk)(hN:X.N[i]?=some x:=by rfl)(hv:m6 X.env.scope x:=by first|exact .inl rfl|exact .inr (.inl rfl)|exact .inr (.inr rfl))(hd:(x==("__debug__" : Str))=false:=by decide)(ee:(x==("__classdict__" : Str))=false:=by decide)
  (Dj:gP k:=by exact λ_ _=>rfl)
  (jR:Uy (.Subscript (.Name x px) k kp) "append" X.env (eval (.Subscript (.Name x px) k kp) X.env)=eval (.Subscript (.Name x px) k kp) X.env:=by rfl)
  (qr:((SF cp (Qt [e] X.env)).all (λx=>!x.1)&&(backToKw cp (UU [] X.env)).all (λx=>x.1.isSome)&&decide ([e].length+([]:List Ur).length+(if ([]:List Ur).isEmpty then 0 else 1)<30))=true:=by rfl)
  (jP:(ap.endLine==cp.line)=true:=by rfl) (hs:Qt [e] X.env=(false,eval e X.env)::Qt [] X.env:=by rfl) (fR:(SF cp (Qt [] X.env)).any (·.1)=false:=by rfl)
  (t_:RN (.Call (.Attribute (.Subscript (.Name x px) k kp) "append" ap) [e] [] cp) none pos.line X.env=pure false:=by rfl) :
  PB X C (.Expr (.Call (.Attribute (.Subscript (.Name x px) k kp) "append" ap) [e] [] cp) pos) (λE β=>(∃d0,β[i]?=some (some (.own d0)))/\φk β λjd _ β1=>∃ds j m es,jd=.int j/\β1[i]?=some (some (.own (FK l ds)))/\lz ds.length j=some m/\ds[m]?=some (.lst es)/\φ β1 λd kd β2=>xI kd d/\β2[i]?=some (some (.own (FK l ds)))/\es.length<Qp/\E.nx (β2.set i (some (.own (FK l (ds.set m (.lst (es++[d]))))))) ):=by
 refine⟨λE E' β l GL=> by obtain⟨q0,q⟩ := GL;exact⟨q0,(hk λ_=>False).mono _ _ _ (λjd _ β1 GK=> by obtain⟨ds,j,m,es,h1,h2,h3,h4,q⟩ := GK;exact⟨ds,j,m,es,h1,h2,h3,h4,(he λ_=>False).mono _ _ _ (λd kd β2 GJ=> by obtain⟨g1,g2,g3,q⟩ := GJ;exact⟨g1,g2,g3,l.nx _ q⟩) q⟩) q⟩,λpins s σ H De I ⟨Z,E,β,⟨own,sq,n⟩,⟨⟨d0,Ow⟩,q⟩,ok⟩=>?_⟩
 have ix:A0 X (λx y H Q=>E6 X.K x y H Q\/E5 X.K x y H Q):=λvalue slice pins s σ H x y v u Q I rx ry h hs=>h.elim (λh=>cu value slice pins s σ H x y v u Q I rx ry h hs) λh=>wu value slice pins s σ H x y v u Q I rx ry h hs;refine iX (pos:=pos) (vI (apos:=ap) (cpos:=cp) PySem.F.plainAttrs_list PySem.F.slot_list_append PySem.F.type_list_append fy (eR (pos:=kp) ix (cy (pos:=px) hN hv hd ee) (hk λa=>H a=none).pe Dj) (bo (he λa=>H a=none).pe dt hs) jR qr jP hs fR) t_ pins s σ H De I ?_;have M_:=sq.gc (C:=C.z) (U:=λa=>H a=none) λa z=>z;obtain⟨v0,i_,_,_⟩:=sq.ow i d0 Ow;refine⟨v0,i_,tQ.of (hk λa=>H a=none) M_ q λjd kk β1 kv H1 aE ⟨ds,j,m,es,e1,hb,hj,hm,q⟩ o r=>?_⟩;subst e1;cases r.rep;obtain⟨v,wF,ow,h0⟩:=o.sq.ow i _ hb;rw[i_]at wF;cases wF;obtain⟨a,vs,c,us,B,rfl,q1,q2,q3,q4,q5,q6,q7,q8,q9⟩:=gx ow (o.sq.i8 i) hm;have ED:j6 vs j=some (.ref c):=by unfold j6;rw[q2,hj];exact q3
 have LP:IF X.K "list" (.ref c) H1/\Ae (tQ X (C.u λa=>H a=none) true φ) EO σ H1 λxs H2=>qW (.ref c) xs H2 λ_ H1=>De.nx σ H1:=by
  refine⟨.inl ⟨rfl,us,c6.of q4⟩,tQ.of (he λa=>H a=none) o.sq q λd kd β2 v2 H2 bp ⟨f,Il,hl,q⟩ o2 r2=>?_⟩;obtain⟨s2,e2⟩:=o2.pu rfl;obtain⟨v',Ma,Jq,PY⟩:=o2.sq.ow i _ Il;rw[i_]at Ma;cases Ma;obtain⟨a',vs',c',pR,B',ea,p1,p2,p3,p4,p5,p6,p7,p8,p9⟩:=gx Jq (o2.sq.i8 i) hm;cases ea;have e3:=s2 _ _ q1;rw[p1]at e3;have ev:vs'=vs:=by cases l <;> (cases e3;rfl)
  subst ev;rw[q3]at p3;cases p3;have e4:=s2 _ _ q4;rw[p4]at e4;cases e4;obtain⟨A,r1,rn,r3⟩:=r2.fl f;have Ca:∀x∈A,x∉bp i:=λx hx z=>(r3 x hx).2.1 ⟨i,z⟩;obtain⟨A',g1,g2,g3⟩:=p9 (es++[d]) (us++[v2]) (B'++A) (p6.append (aK.one r1)) (Q9.mpr ⟨p8,rn,λx hx y hy z=>Ca y hy (by rw[<- z];exact(p7 x hx).1)⟩)
   (λx hx=>(Qr.mp hx).imp id (Ca x)) (λx hx z=>by
    rcases Qr.mp hx with hx|hx
    ·exact(p7 x hx).2 z
    ·exact Ca x hx (by rw[z];exact p5))
  have hA:∀x∈A',x∈bp i\/(C.H0 x=none/\¬ Wn bp x/\H x=none):=λx hx=>by
   rcases g3 x hx with z|z
   ·exact .inl z
   ·rcases Qr.mp z with z|z
    ·exact .inl (p7 x z).1
    ·exact .inr ⟨(r3 x z).2.2,(r3 x z).2.1,o.sn.free (r3 x z).1⟩
  exact⟨c,us,v2,rfl,rfl,p4,by rw[p6.length];exact hl,ok.nx _ _ _ ⟨_,o2.sq.putIn (C:=C) (U:=λa=>H a=none) Il i_ p5 g1 g2 hA,fM ((n.trans o.sn).trans o2.sn) (λb z=>n.free z) ⟨i,p5⟩ ⟨_,p4,λxs z=>by cases z⟩ hA⟩ q⟩
 cases l with
 |true=>exact .inl ⟨a,vs,j,.ref c,rfl,rfl,c6.of q1,ED,LP⟩
 |false=>exact .inr ⟨a,vs,j,.ref c,rfl,rfl,pL.of q1,ED,LP⟩
end
end L2.Q
namespace L2
open PySem PySem.Spec PySem.SeqAt PyProof.Rows
structure Bs2 (mg:Str->Option P_):Prop extends Bs mg where
 NS:mg "isinstance" = none
 tuple:mg "tuple" = none
 str:mg "str" = none
 bool:mg "bool" = none
 zip:mg "zip" = none
 enumerate:mg "enumerate" = none
theorem oZ {d:D}{n:Nat}(h:d.pd.canLay0=true/\d.pd.depth<=n)(hn:n<=64:=by decide):zP d d=some (.bl false):=mU (cE h hn) (cE h hn) (eqv_refl _ h.1)
end L2
namespace L2.Q
open PySem PySem.Spec PySem.SeqAt PyProof.Rows
structure m7 (X:Cx)(C:Cfg)(p:Bool)(ifs:List Expr)(τ:a_):Prop where
 mono:∀β R R',(∀d β,R d β->R' d β)->τ β R->τ β R'
 pt:nc X ifs (iO X C p τ)
theorem b6 {X:Cx}{C:Cfg}:m7 X C true [] EI:=⟨λ_ _ _ k h=>k _ _ h,vE⟩
theorem pT {X:Cx}{C:Cfg}{p:Bool}{c:Expr}{τ:a_}(h:uz X C p c τ):m7 X C p [c] τ:=⟨h.mono,vD h⟩
section
variable {X:Cx}{C:Cfg}{lk:List (Option Nat)}{γ:cZ}{τ:a_}{φ:aY}{T:List Nat}{pc pe pi:Bool}{scope:Sd}{N':List Str}{tg cj elt:Expr}{ifs:List Expr}{ι:b5}{pos pos' nC:Pos}{y:Str}{i:Nat}
theorem Eg (N':List Str)(lk:List (Option Nat))(L:fO X.env.scope.names X.N scope N' lk=true)(m_:N'.Nodup)(hc:X.calm=true)(hi:qK X C pi tg cj ι)
  (kJ:∀U cl c s H ex,sC (aF X scope N' cl c s H ex) (C.u U) tg T γ) (iF:∀U cl c s H ex,m7 (aF X scope N' cl c s H ex) (C.u U) pc ifs τ) (kL:∀U cl c s H ex,PQ (aF X scope N' cl c s H ex) (C.u U) pe elt φ)
  (hT:T.all (λi=>match lk[i]? with|some (some _)=>false|_=>true)=true:=by rfl) (hs:∀x,QX cj X.env x=pure x:=by intro _;rfl):PQ X C (pi&&(pc&&pe)) (.ListComp elt [⟨tg,cj,ifs,0⟩] scope pos) (nK lk ι γ τ φ) :=
 Ak (Links.of L) m_ hT hc hi (λa=>kJ _) (λa cl c s H ex=>(iF _ cl c s H ex).pt) (iF (λ_=>False) [] 0 X.s₀ X.H₀ []).mono (λa=>kL _) (kJ (λ_=>False) [] 0 X.s₀ X.H₀ []).mono (kL (λ_=>False) [] 0 X.s₀ X.H₀ []).mono hs
theorem vw (o:Bool)(N':List Str)(lk:List (Option Nat))(L:fO X.env.scope.names X.N scope N' lk=true)(m_:N'.Nodup)(hc:X.calm=true)(hi:∀U,qK X (C.u U) pi tg cj ι)
  (kJ:∀U cl c s H ex,sC (aF X scope N' cl c s H ex) (C.u U) tg T γ) (iF:∀U cl c s H ex,m7 (aF X scope N' cl c s H ex) (C.u U) pc ifs τ) (kL:∀U cl c s H ex,PQ (aF X scope N' cl c s H ex) (C.u U) pe elt φ)
  (hN:X.N.Nodup) (hT:T.all (λi=>match lk[i]? with|some (some _)=>false|_=>true)=true:=by rfl) (hy:X.N[i]?=some y:=by rfl) (hx:Loc X.env.scope y:=by first|exact .inl rfl|exact .inr rfl) (hf:X.fn y=true\/X.env.scope.names.lookup y=some .local:=by first|exact .inl rfl|exact .inr rfl|assumption)
  (t_:RN (.ListComp elt [⟨tg,cj,ifs,0⟩] scope pos) (some (.Name y pos')) nC.line X.env=pure true:=by rfl)
  (wQ:evalThenUse (.ListComp elt [⟨tg,cj,ifs,0⟩] scope pos) X.env (assign (.Name y pos') X.env)=(do let _ <- comprehension (.ListComp elt [⟨tg,cj,ifs,0⟩] scope pos) scope X.env (firstIterPos [⟨tg,cj,ifs,0⟩] pos) (newList []) false (eval cj X.env) (some (assign (.Name y pos') X.env));pure ()):=by first|rfl|exact arm_evalThenUse_ListComp ..)
  (hs:∀x,QX cj X.env x=pure x:=by intro _;rfl) :
  PB X C (.Assign [.Name y pos'] (.ListComp elt [⟨tg,cj,ifs,0⟩] scope pos) nC) (λE β=>nK lk ι γ τ φ β λd _ β'=>E.nx (β'.set i (some (match o with|true=>.own d|false=>.val true d)))) :=
 Fg (K:=λ_ _ _=>True) (Links.of L) m_ hT hc hi kJ (λU cl c s H ex=>(iF U cl c s H ex).pt) (iF (λ_=>False) [] 0 X.s₀ X.H₀ []).mono kL (kJ (λ_=>False) [] 0 X.s₀ X.H₀ []).mono (kL (λ_=>False) [] 0 X.s₀ X.H₀ []).mono o hN hy hx hf t_ wQ hs
theorem bx:A0 X (vz X rY NF):=λvalue slice pins s σ H x y v u Q I rx ry ⟨W,d1,d2,d,hd,r1,r2,e,q⟩ hs =>
 CF value slice pins s σ H x y v u Q I rx ry ⟨W,d1,d2,d,hd,r1,r2,e,λv H' s r=>q v H' s r λf=>aA.flat f r⟩ hs
end
section
end
theorem uj (ns:List Int)(lo hi:Option Int):∃ms:List Int,pj (ns.map V.int) lo hi=ms.map V.int/\ms.length<=ns.length:=by
 refine⟨(ns.drop (HT.jt (ns.map V.int).length 0 lo)).take (HT.jt (ns.map V.int).length (ns.map V.int).length hi-HT.jt (ns.map V.int).length 0 lo),?_,?_⟩
 ·unfold pj;rw[Uz,List.map_drop]
 ·rw[QJ,RX];lia
section
variable {P:Qd}{w:Qq}
theorem bW {W:Addr->Prop}{H:Hp}:∀ns:List Int,ah P w W H (ns.map D.int) (ns.map V.int)
 |[]=>rfl
 |n::ns=>⟨_,_,rfl,rfl,bW ns⟩
theorem yi {N:List Str}{vs:List V}{H H':Hp}{n:Nat}{ro:Bool}{U:Addr->Prop}(hl:(L2.start N vs).length=n)(sm:az H H'):bD P w ⟨H,λ_=>False,ro,U⟩ (L2.start N vs) H' (Qw n none) (λ_=>[]) :=
 ⟨by rw[hl,Ue],λi y d h=>(e9 h).elim,λi d h=>(e9 h).elim,λi ok h=>(e9 h).elim,λi a h=>(nomatch h),λi j a h=>(nomatch h),λi=>Q5,sm.kp,λa z e=>z (sm.free e),λi y d h=>(e9 h).elim⟩
theorem E3 {ro:Bool}{H H':Hp}{b:Bool}{v:V}(h:m9 P w ro H H' (.bl b) v):v=.bl b:=by
 cases ro with
 |true=>obtain⟨A,h1,_⟩:=h;exact h1.1
 |false=>exact h
end
end L2.Q
namespace L2
open PySem PySem.Spec PySem.SeqAt PyProof.Rows
abbrev BH (n:Int)(rows:List (List Int)):D:=.tup [.int n,.lst (rows.map kD)]
theorem sN (n:Int)(rows:List (List Int)):(BH n rows).pd.canLay0=true/\(BH n rows).pd.depth<=4:=k9 λd hd=>by
 rcases Qc.mp hd with rfl|hd
 ·exact⟨(cA n).1,Q6 (cA n).2 (by decide)⟩
 ·rw[Qj.mp hd];exact pW rows
end L2
namespace L2.Q
open PySem PySem.Spec PySem.SeqAt PyProof.Rows
def iR (ns:List Int):Prop:=∃x y z:Int,ns=[x,y,z]/\0<=x
def w9:FD:=λds R=>∃c:Int,ds=[.int c]/\∀ns,iR ns->R (.lst (ns.map D.int))
theorem w9.mono:eN w9:=λds R R' k ⟨c,e,q⟩=>⟨c,e,λns o=>k _ (q ns o)⟩
section
variable {P:Qd}{w:Qq}{H:Hp}{h:Addr}
theorem nR {H:Hp}:∀ns:List Int,aK P w H (ns.map D.int) (ns.map V.int) []
 |[]=>⟨rfl,rfl⟩
 |n::ns=>⟨_,_,[],[],rfl,rfl,⟨rfl,rfl⟩,nR ns⟩
theorem p_ {xs ys:List V}(e:H h=some (.lst xs)):Kp (·=h) H (upd H h (.lst ys)):=⟨λb u hb nb=>by rw[aw nb];exact hb,λb Eb hb=>by rw[aw λz=>by rw[z,e]at hb;cases hb];exact hb⟩
theorem qa {ys:List V}:∀c,H c≠none->upd H h (.lst ys) c≠none:=λc hc=>by
 by_cases z:c=h
 ·rw[z,au];exact λz=>(nomatch z)
 ·rw[aw z];exact hc
theorem rB {H':Hp}{r:Int}:m9 P w true H H' (.int r) (.int r):=d8 (W:=λ_=>False) rfl rfl
end
end L2.Q
namespace jb
open PySem L2 L2.Q
section
variable (K:PySem.W.Frag)(mg:Str->Option P_)(f:Addr)(fd:Q0)
abbrev D0:Prop:=Df K mg "_law_row" fv ["deck","most"] f fd
abbrev D1:Prop:=Df K mg "_law_take" dj ["deck","many"] f fd
abbrev D2:Prop:=Df K mg "stretches_rising" bF ["many"] f fd
abbrev D3:Prop:=Df K mg "partners_of" cP ["row"] f fd
abbrev D4:Prop:=Df K mg "number_with" cR ["worth","table","i","k","j"] f fd
abbrev D5:Prop:=Df K mg "least_number" cI ["partners","worth","table","i","j"] f fd
abbrev D6:Prop:=Df K mg "has_shape" dE ["paper","many"] f fd
abbrev D7:Prop:=Df K mg "paper_holds" cQ ["row","worth","paper"] f fd
abbrev D8:Prop:=Df K mg "_law_weights" cS ["deck","many"] f fd
abbrev D9:Prop:=Df K mg "check_weights" cq ["row","weights"] f fd
abbrev IA:Prop:=Df K mg "weight_by_tie" cn ["row","weights"] f fd
abbrev Lq:Prop:=Df K mg "weights_show" cH ["row","weights","paper"] f fd
abbrev MS:Prop:=Df K mg "_law_least" dD ["row","weights"] f fd
abbrev Lp:Prop:=Df K mg "_law_due" fw ["row","weights","paper"] f fd
abbrev MR:Prop:=Df K mg "_law_bent" eE ["deck","paper"] f fd
abbrev Lo:Prop:=Df K mg "_law_copied" dc ["row"] f fd
abbrev MQ:Prop:=Df K mg "_law_right" dC ["row","weights","paper"] f fd
abbrev MP:Prop:=Df K mg "_law_cell_at" cT ["script","k"] f fd
abbrev Pe:Prop:=Df K mg "_law_deck" dk ["cell"] f fd
end
section
variable {P:Qd}{w:Qq}{K:PySem.W.Frag}{mg:Str->Option P_}{base:Heap}
theorem nG:aS ["cell"] ["cell"] (aC dk):=mkS
theorem yT {f:Addr} {fd:Q0} (F:xR K "_law_deck" "_law_deck" dk f fd) (B:Bs mg):a9 P w K mg base cW 1 f fd ["cell"] (fZ P w true w9):=by
 refine F.ok nG (λvs H Q E h=>?_) (λc5 A outer s H vs Q E hr h=>?_)
 ·obtain⟨ds,r,c,rfl,_⟩:=h;obtain⟨x,rr,rfl,_,hr⟩:=r;cases (show rr=[] from hr)
  rfl
 ·obtain⟨ds,r,c,rfl,q⟩:=h;obtain⟨x,rr,rfl,hx,F8⟩:=r;cases (show rr=[] from F8)
  cases (show x=V.int c from hx)
  refine⟨_,eF (fb (my (bo (gq (lL rfl) (by rfl) B.max mY (bo aU (bo (cg vN (pv 0) (cg vO aU aU)) dt)))
   (bo (cg fe (pv 0) aU) (bo aU dt))))),?_⟩
  refine⟨_,rfl,_,_,rfl,rfl,Fh,_,_,rfl,rfl,_,_,rfl,?_⟩;refine⟨_,rfl,_,_,rfl,rfl,(by show (0:Int)<2147483629;decide),(by show 3<=Qp;decide),λp hp=>?_⟩
  refine q [_,_,_] ⟨_,_,_,rfl,?_⟩ _ _ (az.new hp) ⟨[p],⟨p,_,[],rfl,au,rfl,nR [_,_,_]⟩,by simp,λc hc=>by rw[Qj.mp hc];exact hp⟩
  split <;> lia
theorem dB:aS ["deck","many","digit","stir"] ["deck","many"] (aC dj):=mkS
theorem mH {f:Addr} {fd:Q0} (F:xR K "_law_take" "_law_take" dj f fd):a9 P w K mg base cW 1 f fd ["deck","many"] (iP P w iR true bc):=by
 refine F.ok dB (λvs H Q E h=>?_) (λc5 A outer s H vs Q E hr h=>?_)
 ·obtain⟨h,vs',ds,ns,rfl,_,_,r,n,rfl,_⟩:=h;obtain⟨x,rr,rfl,_,hr⟩:=r;cases (show rr=[] from hr)
  rfl
 ·obtain⟨h,vs',ds,ns,rfl,e,⟨x,y,z,rfl,x0⟩,r,n,rfl,n0,n1,q⟩:=h;obtain⟨x',rr,rfl,xJ,F8⟩:=r;cases (show rr=[] from F8)
  cases (show x'=V.int n from xJ)
  have hx:H h=some (.lst [.int x,.int y,.int z]):=e;refine⟨_,cf (jy (cg mG (eR cu (pv 0) aU (λ_ _=>rfl)) aU) (mx (pv 0) aU set_list))
   (cf (vA (mh Ao (eR cu (pv 0) aU (λ_ _=>rfl)) aU (vX _))
    (cf (gW (i:=2) dB.nd rfl (Or.inl rfl) (cg fe (eR cu (pv 0) aU (λ_ _=>rfl)) aU))
    (cf (jy (cg jC (eR cu (pv 0) aU (λ_ _=>rfl)) aU) (mx (pv 0) aU set_list))
    (eF (fb (cg fe (pv 2) (pv 1)))))) ml)
   (cf (gW (i:=3) dB.nd rfl (Or.inl rfl) (cg fe (cg gZ (cg mG (eR cu (pv 0) aU (λ_ _=>rfl)) (cg gZ aU (eR cu (pv 0) aU (λ_ _=>rfl)))) aU) aU))
   (cf (gW (i:=3) dB.nd rfl (Or.inl rfl) (cg fe (cg gZ (pv 3) (pv 3)) aU))
   (eF (fb (cg fe (cg jC (cg fe (cg gZ (cg mG (pv 3) (cg gZ aU (eR cu (pv 0) aU (λ_ _=>rfl)))) aU) aU) aU) (pv 1))))))),?_⟩
  refine⟨_,rfl,h,_,_,_,rfl,rfl,c6.of hx,rfl,_,_,rfl,rfl,?_⟩;refine⟨_,rfl,h,_,_,2,rfl,rfl,hx,rfl,?_⟩;have hy:upd H h (.lst ([V.int x,V.int y,V.int z].set 2 (V.int (z+1)))) h=some (.lst [V.int x,V.int y,V.int (z+1)]):=au;refine⟨_,rfl,h,_,_,_,rfl,rfl,c6.of hy,rfl,_,_,rfl,rfl,_,rfl,?_⟩;refine JN (λhp=>?_) (λhp=>?_)
  ·refine⟨_,rfl,h,_,_,_,rfl,rfl,c6.of hy,rfl,_,_,rfl,rfl,(by show (0:Int)<65536;decide),?_⟩
   refine⟨_,rfl,h,_,_,_,rfl,rfl,c6.of hy,rfl,_,_,rfl,rfl,lT.of (by decide) (by decide),?_⟩
   refine⟨_,rfl,h,_,_,0,rfl,rfl,hy,rfl,?_⟩;have m:=mK (a:=x % 65536) n0;exact⟨_,rfl,_,rfl,_,_,rfl,rfl,n0,q _ m.1 m.2 _ _ [x / 65536,y,z+1] ((p_ hx).trans (p_ hy)) (λc hc=>qa c (qa c hc)) au ⟨_,_,_,rfl,Int.ediv_nonneg x0 (by decide)⟩ rB⟩
  ·refine⟨_,rfl,h,_,_,_,rfl,rfl,c6.of hy,rfl,_,rfl,h,_,_,_,rfl,rfl,c6.of hy,rfl,_,_,rfl,rfl,.inl ⟨by decide,by decide⟩,_,_,rfl,rfl,_,_,rfl,rfl,.inr ⟨by decide,by decide⟩,_,_,rfl,rfl,(by show (0:Int)<2147483647;decide),?_⟩
   have m1:=mK (a:=(y+7919*(z+1))*48271) (b:=2147483647) (by decide)
   refine⟨_,rfl,_,rfl,_,_,rfl,rfl,.inl ⟨Int.lt_of_lt_of_le (by decide) m1.1,Int.lt_trans m1.2 (by decide)⟩,_,_,rfl,rfl,(by show (0:Int)<2147483629;decide),?_⟩
   refine⟨_,rfl,_,rfl,h,_,_,_,rfl,rfl,c6.of hy,rfl,_,_,rfl,rfl,.inl ⟨by decide,by decide⟩,_,_,rfl,rfl,_,_,rfl,rfl,.inr ⟨by decide,by decide⟩,_,_,rfl,rfl,(by show (0:Int)<2147483563;decide),_,_,rfl,rfl,lT.of (by decide) (by decide),_,rfl,_,_,rfl,rfl,n0,?_⟩
   have m:=λa:Int=>mK (a:=a) n0;exact q _ (m _).1 (m _).2 _ _ [x,y,z+1] (p_ hx) qa au ⟨_,_,_,rfl,x0⟩ rB
end
end jb
namespace L2
open PySem PySem.Spec PyProof.Rows
section
variable {κ:Type}[DecidableEq κ]
def eW (kvs:List (κ×V))(k:κ):Option V:=(kvs.find? λkv=>decide (kv.1=k)).map (·.2)
def putK (kvs:List (κ×V))(k:κ)(v:V):List (κ×V) :=
 if (kvs.any λkv=>decide (kv.1=k))=true then kvs.map (λkv=>if kv.1=k then (kv.1,v) else kv) else kvs++[(k,v)]
theorem je {p:κ×V}{r:List (κ×V)}{k:κ}(e:p.1=k):eW (p::r) k=some p.2:=by simp[eW,Ro,e]
theorem jf {p:κ×V}{r:List (κ×V)}{k:κ}(e:¬ p.1=k):eW (p::r) k=eW r k:=by simp[eW,Ro,e]
theorem jg (k:κ):∀kvs:List (κ×V),(kvs.any λkv=>decide (kv.1=k))=(eW kvs k).isSome
 |[]=>rfl
 |p::r=>by
  rw[List.any_cons]
  by_cases e:p.1=k
  ·simp only[je e,decide_eq_true e,Bool.true_or,Option.isSome_some]
  ·rw[jf e,decide_eq_false e,Bool.false_or];exact jg k r
theorem fh (kvs:List (κ×V))(k:κ)(v:V):(putK kvs k v).length<=kvs.length+1:=by
 unfold putK
 split
 ·rw[Qa];lia
 ·rw[Qu,Qx,List.length_nil];lia
theorem nM {kvs:List (κ×V)}{k:κ}(v:V)(h:eW kvs k=none):putK kvs k v=kvs++[(k,v)]:=by
 unfold putK;rw[jg,h];exact if_neg (by decide)
theorem j8.tZ {o:Option V}{u:Option P_}(r:j8 o u):o.isSome=u.isSome:=by
 cases o with
 |none=>cases u with
  |none=>rfl
  |some _=>exact(show False from r).elim
 |some _=>cases u with
  |none=>exact(show False from r).elim
  |some _=>rfl
theorem KV.val {kvs:List (κ×V)}{vs:List (κ×P_)}(r:KV kvs vs)(k:κ):j8 (eW kvs k) (UH vs k):=by
 unfold KV at r
 induction r with
 |nil=>exact SM
 | @cons p q ps qs h t ih =>
  obtain⟨h1,h2⟩:=h
  by_cases e:p.1=k
  ·have e':q.1=k:=h1.symm.trans e;have b:UH (q::qs) k=some q.2:=by simp[UH,Ro,e']
   rw[je e,b];exact h2
  ·have e':¬ q.1=k:=λz=>e (h1.trans z);have b:UH (q::qs) k=UH qs k:=by simp[UH,Ro,e']
   rw[jf e,b];exact ih
theorem KV.any {kvs:List (κ×V)}{vs:List (κ×P_)}(r:KV kvs vs)(k:κ):(kvs.any λkv=>decide (kv.1=k))=vs.any λkv=>decide (kv.1=k):=by
 unfold KV at r
 induction r with
 |nil=>rfl
 |cons h t ih=>rw[List.any_cons,List.any_cons,ih,h.1]
theorem KV.BI {kvs:List (κ×V)}{vs:List (κ×P_)}(r:KV kvs vs)(k:κ){y:V}{u:P_}(ry:RelV y u):
  KV (kvs.map λkv=>if kv.1=k then (kv.1,y) else kv) (vs.map λkv=>if kv.1=k then (kv.1,u) else kv):=by
 unfold KV at r ⊢
 induction r with
 |nil=>exact .nil
 | @cons p q ps qs h t ih =>
  rw[QS,QS];refine .cons ?_ ih;obtain⟨h1,h2⟩:=h
  by_cases e:p.1=k
  ·rw[if_pos e,if_pos (h1.symm.trans e)];exact⟨h1,ry⟩
  ·rw[if_neg e,if_neg (λz=>e (h1.trans z))];exact⟨h1,h2⟩
theorem KV.put {kvs:List (κ×V)}{vs:List (κ×P_)}(r:KV kvs vs)(k:κ){y:V}{u:P_}(ry:RelV y u):KV (putK kvs k y) (stored vs k u):=by
 unfold putK stored;rw[r.any k]
 by_cases e:(vs.any λkv=>decide (kv.1=k))=true
 ·rw[if_pos e,if_pos e];exact r.BI k ry
 ·rw[if_neg e,if_neg e];exact Paired.snoc r ⟨rfl,ry⟩
theorem KV.length {kvs:List (κ×V)}{vs:List (κ×P_)}(r:KV kvs vs):kvs.length=vs.length:=Paired.length r
end
theorem wo {P:Qd}{w:Qq}{k:Key}{u:P_}(r:RelV (kV k) u):(bN P w).is k u=true:=by
 cases k with
 |inl i=>obtain⟨t,e⟩:=(show ∃t,u=Value.int i t from r);subst e;exact n_ P w i t
 |inr x=>obtain⟨t,e⟩:=(show ∃t,u=Value.str x t from r);subst e;exact n9 P w x t
theorem lA {P:Qd}{w:Qq}:∀{ks:List Key} {us:List P_},Vals (ks.map kV) us->ItemsAre (bN P w) ks us
 |[],_,r=>by rw[List.map_nil]at r;cases r;exact .nil
 |k::ks,_,r=>by
  rw[QS]at r;cases r with
  |cons h t=>exact .cons (wo h) (lA t)
abbrev KT (H:Hp):List (List Key×V)->List (List Key×Addr×P_)->Prop:=Paired λp q=>p.1=q.1/\H q.2.1=some (.tup (p.1.map kV))/\RelV p.2 q.2.2
theorem KT.val {H:Hp}{kvs:List (List Key×V)}{xs:List (List Key×Addr×P_)}(r:KT H kvs xs)(k:List Key):j8 (eW kvs k) ((Vb xs k).map (·.2)):=by
 induction r with
 |nil=>exact SM
 | @cons p q ps qs h t ih =>
  obtain⟨h1,_,h2⟩:=h
  by_cases e:p.1=k
  ·have e':q.1=k:=h1.symm.trans e;have b:Vb (q::qs) k=some q.2:=by simp[Vb,Ro,e']
   rw[je e,b];exact h2
  ·have e':¬ q.1=k:=λz=>e (h1.trans z);have b:Vb (q::qs) k=Vb qs k:=by simp[Vb,Ro,e']
   rw[jf e,b];exact ih
theorem KT.BI {H:Hp}{kvs:List (List Key×V)}{xs:List (List Key×Addr×P_)}(r:KT H kvs xs)(k:List Key){y:V}{u:P_}(ry:RelV y u):
  KT H (kvs.map λkv=>if kv.1=k then (kv.1,y) else kv) (xs.map (putAt k u)):=by
 induction r with
 |nil=>exact .nil
 | @cons p q ps qs h t ih =>
  rw[QS,QS];refine .cons ?_ ih;obtain⟨h1,h2,h3⟩:=h;unfold putAt
  by_cases e:p.1=k
  ·rw[if_pos e,if_pos (h1.symm.trans e)];exact⟨h1,h2,ry⟩
  ·rw[if_neg e,if_neg (λz=>e (h1.trans z))];exact⟨h1,h2,h3⟩
theorem KT.put {H:Hp}{kvs:List (List Key×V)}{xs:List (List Key×Addr×P_)}(r:KT H kvs xs)(k:List Key){b:Addr}{y:V}{u:P_}(hb:H b=some (.tup (k.map kV)))(ry:RelV y u):
  KT H (putK kvs k y) (storedH xs k b u):=by
 have e:(kvs.any λkv=>decide (kv.1=k))=(Vb xs k).isSome:=by
  rw[jg,(r.val k).tZ,Option.isSome_map]
 unfold putK storedH;rw[e]
 by_cases q:(Vb xs k).isSome=true
 ·rw[if_pos q,if_pos q];exact r.BI k ry
 ·rw[if_neg q,if_neg q];exact Paired.snoc r ⟨rfl,hb,ry⟩
theorem KT.keeps {H H':Hp}{kvs:List (List Key×V)}{xs:List (List Key×Addr×P_)}(r:KT H kvs xs)(ht:∀b ys,H b=some (.tup ys)->H' b=some (.tup ys)):KT H' kvs xs :=
 Paired.Ci r λ_ _ z=>⟨z.1,ht _ _ z.2.1,z.2.2⟩
section
variable {P:Qd}{w:Qq}{H:Hp}{h:Heap}{a:Addr}
theorem Ah {u:HO}(ok:fY P w H h)(e:Rd H a u):bA P w H h a u:=e.ok ok
theorem xh {kvs:List (Key×V)}(ok:fY P w H h)(e:Rd H a (.dK kvs)):kvs.length<=Qp/\(a==R9)=false/\∃vs,KV kvs vs/\h.DictOf (bN P w) a vs :=
 show bA P w H h a (.dK kvs) from Ah ok e
theorem Hh {kvs:List (Key×V)}(ok:fY P w H h)(e:H a=some (.dK kvs)):kvs.length<=Qp/\(a==R9)=false/\∃vs,KV kvs vs/\h.DictOf (bN P w) a vs:=xh ok (.inl e)
theorem mO {ks:List Key}(ok:fY P w H h)(e:H a=some (.tup (ks.map kV))):(TV (bN P w)).is h ks a:=by
 obtain⟨_,its,r,o,h1,h2,n,h3⟩:=(show bA P w H h a (.tup (ks.map kV)) from ok a _ e)
 exact⟨o,its.toArray,n,h1,h2,h3,by simpa using lA r⟩
theorem xf {kvs:List (List Key×V)}(ok:fY P w H h)(e:Rd H a (.dT kvs)):kvs.length<=Qp/\(a==R9)=false /\
  ∃xs,KT H kvs xs/\h.DictOfH (TV (bN P w)) a xs:=by
 obtain⟨z,y,xs,r,o,es,ep,h1,h2,h3,h4,h5⟩:=(show bA P w H h a (.dT kvs) from Ah ok e)
 refine⟨z,y,xs,r,o,es,ep,h1,h2,h3,h4,λx hx=>?_,h5⟩;have all:∀{l:List (List Key×V)} {m:List (List Key×Addr×P_)},KT H l m->∀x∈m,(TV (bN P w)).is h x.1 x.2.1:=by
  intro l m q
  induction q with
  |nil=>intro x hx;exact nomatch hx
  | @cons p q ps qs hq t ih =>
   intro x hx;rcases Qc.mp hx with e|hx
   ·subst e;exact mO ok (by rw[<- hq.1];exact hq.2.1)
   ·exact ih x hx
 exact all r x hx
theorem AK {kvs:List (List Key×V)}(ok:fY P w H h)(e:H a=some (.dT kvs)):kvs.length<=Qp/\(a==R9)=false /\
  ∃xs,KT H kvs xs/\h.DictOfH (TV (bN P w)) a xs:=xf ok (.inl e)
end
def uA (H:Hp)(a:Addr)(y:V)(r:Option V):Prop :=
 (∃kvs k,Rd H a (.dK kvs)/\y=kV k/\r=eW kvs k)\/∃kvs k b,Rd H a (.dT kvs)/\y=.ref b/\H b=some (.tup (k.map kV))/\r=eW kvs k
def HG (H:Hp)(a:Addr)(y v:V)(H':Hp):Prop :=
 (∃kvs k,H a=some (.dK kvs)/\y=kV k/\kvs.length<Qp/\H'=upd H a (.dK (putK kvs k v))) \/
 ∃kvs k b,H a=some (.dT kvs)/\y=.ref b/\H b=some (.tup (k.map kV))/\kvs.length<Qp/\H'=upd H a (.dT (putK kvs k v))
theorem uA.t {H:Hp}{a b:Addr}{kvs:List (List Key×V)}{k:List Key}(e:H a=some (.dT kvs))(eb:H b=some (.tup (k.map kV))):uA H a (.ref b) (eW kvs k):=.inr ⟨kvs,k,b,.inl e,rfl,eb,rfl⟩
section
variable {X:Cx}{pins:List (Addr×Obj)}{σ:St}{H:Hp}{s:Qb}{a:Addr}{y v:V}{u r:P_}{o:Option V}{A:Rj}{E:P_->Qb->Prop}
theorem Inv.big (I:Inv X pins σ H s):R9<s.heap.objs.size:=by
 have h:RE<s.heap.objs.size:=(I.mod.glob.keeps I.bk).lt;exact Nat.lt_trans (by decide) h
theorem ui {Q:P_->Qb->Prop}(hu:A.units+1<TY)(I:Inv X pins σ H s)(g:uA H a y (some v))(ry:RelV y u)(h:∀w' s',Inv X pins σ H s'->RelV v w'->Q w' s'):
  QE (model X.prog X.w) A (getItem (.ref a) u) Q E s:=by
 rcases g with⟨kvs,k,e,ey,l⟩|⟨kvs,k,b,e,ey,eb,l⟩
 ·subst ey;obtain⟨z,hd,vs,rel,dd⟩:=xh I.bz e;obtain⟨w',hw,uE⟩:=j8.some_of (v:=v) (o:=UH vs k) (by rw[l];exact rel.val k)
  exact wpAny_getItem_of (wo ry) dd.mapOf hw (h w' _ (I.tok _) uE)
 ·subst ey;cases (show u=Value.ref b from ry)
  obtain⟨z,hd,xs,rel,dd⟩:=xf I.bz e;obtain⟨w',hw,uE⟩:=j8.some_of (v:=v) (o:=(Vb xs k).map (·.2)) (by rw[l];exact rel.val k)
  obtain⟨p,hp,Ic⟩:=Qy.mp hw;refine wpAny_getItem_heap (tupleKind_room_in1 hu) (mO I.bz eb) dd hp ?_;rw[Ic];exact h w' _ (I.tok _) uE
theorem mT {h':Heap}{t':Nat}{ob:HO}(I:Inv X pins σ H s)(mu:HD (H a))(hs:Su a s.heap h')(he:∃q,h'.get? a=some q)(new:bA X.prog X.w (upd H a ob) h' a ob):
  Inv X pins σ (upd H a ob) {s with heap:=h',toks:=t'} :=
 I.write (x:=a) (e:=a) mu (.inl rfl) (λb q hb z=>(hs.2 b hb).trans z) he new
theorem Dw {P:Qd}{w:Qq}{H':Hp}{h':Heap}{kvs:List (Key×V)}{vs:List (Key×P_)}(z:kvs.length<=Qp)(hd:(a==R9)=false)(rel:KV kvs vs)(dd:h'.DictOf (bN P w) a vs):
  bA P w H' h' a (.dK kvs):=⟨z,hd,vs,rel,dd⟩
theorem uh {H':Hp}{Q:Unit->Qb->Prop}(hu:A.units+1<TY)(I:Inv X pins σ H s)(g:HG H a y v H')(ry:RelV y u)(rv:RelV v r)(h:∀s',Inv X pins σ H' s'->Q () s'):
  QE (model X.prog X.w) A (setItem (.ref a) u r) Q E s:=by
 rcases g with⟨kvs,k,e,ey,l,eH⟩|⟨kvs,k,b,e,ey,eb,l,eH⟩
 ·subst ey eH;obtain⟨z,hd,vs,rel,dd⟩:=Hh I.bz e;have hz:vs.length<=Qp:=by rw[<- rel.length];exact z
  have hl:(putK kvs k v).length<=Qp:=by have:=fh kvs k v;lia
  refine wpAny_setItem_pairs (hsz:=hz) (wo ry) dd λh' Ex hs=>h _ ?_;have he:∃q,h'.get? a=some q:=let ⟨q,_,_,hq,_⟩:=Ex;⟨q,hq⟩
  exact mT I (by rw[e];exact SM) hs he (Dw hl hd (rel.put k rv) Ex)
 ·subst ey eH;cases (show u=Value.ref b from ry)
  obtain⟨z,hd,xs,rel,dd⟩:=AK I.bz e;have hz:xs.length<=Qp:=by rw[<- Paired.length rel];exact z
  have hl:(putK kvs k v).length<=Qp:=by have:=fh kvs k v;lia
  refine wpAny_setItem_heap (hsz:=hz) (tupleKind_room_in1 hu) (mO I.bz eb) dd λh' Ex hs=>h _ ?_;obtain⟨q,es,ep,hq,h2,h3,h4,_,h5⟩:=Ex;refine mT I (by rw[e];exact SM) hs ⟨q,hq⟩ ⟨hl,hd,_,(rel.put k eb rv).keeps λc ys ec=>?_,q,es,ep,hq,h2,h3,h4,h5⟩
  rw[aw (v7 ec e (λz=>nomatch z))];exact ec
end
section
end
theorem oY {X:Cx} {pins:List (Addr×Obj)} {σ:St} {H:Hp} {s:Qb} {a:Addr} {y:V} {o:Option V} (I:Inv X pins σ H s) (g:uA H a y o):s.TypeIs (.ref a) "dict" := by
 rcases g with⟨kvs,k,e,_,_⟩|⟨kvs,k,b,e,_,_,_⟩
 ·obtain⟨_,_,vs,_,dd⟩:=xh I.bz e;exact dd.typeIs
 ·obtain⟨_,_,xs,_,dd⟩:=xf I.bz e;exact dd.typeIs
def E2 (td ty tv:TE):TS:=λD σ H=>tv σ H λv H1=>td σ H1 λx H2=>ty σ H2 λy H3=>∃a H4,x=.ref a/\HG H3 a y v H4/\D.nx σ H4
section
variable {X:Cx}{o i value:Expr}{pos pos':Pos}{td ty tv:TE}
theorem qZ (hu:X.A.units+1<TY)(ho:PE X o td)(hi:PE X i ty)(hv:PE X value tv)(hs:RN value (some (.Subscript o i pos')) pos.line X.env=pure false):
  PS X (.Assign [.Subscript o i pos'] value pos) (E2 td ty tv):=by
 intro pins s σ H D I h;refine wpAny_Assign_Subscript (bQ (hv pins s σ H _ I h) λr s1 ⟨v,H1,I1,rv,q1⟩=>bQ (ho pins s1 σ H1 _ I1 q1) λu s2 ⟨x,H2,I2,rx,q2⟩=>bQ (hi pins s2 σ H2 _ I2 q2) λiv s3 ⟨y,H3,I3,ry,a,H4,ex,g,q3⟩=>?_) hs;subst ex;obtain rfl:u=Value.ref a:=rx;exact uh hu I3 g ry rv λs4 I4=>⟨σ,H4,I4,q3⟩
end
theorem oX {P:Qd}{w:Qq}{H:Hp}(h:Heap)(hb:R9<h.objs.size):bA P w H (h.push {cls:=.type "dict",data:=.dict #[]}) h.objs.size (.dT []) :=
 ⟨Qv _,beq_eq_false_iff_ne.mpr (Rr (QO hb)),[],.nil,_,#[],0,QC _ rfl,⟨rfl,rfl,rfl⟩,rfl,rfl,Q5⟩
def Br:TE:=λ_ H Q=>∀p,H p=none->Q (.ref p) (upd H p (.dT []))
section
variable {X:Cx}{pos:Pos}
theorem nO:PE X (.Dict [] [] pos) Br:=λpins s σ H Q I h =>
 wpAny_Dict_empty ⟨.ref s.heap.objs.size,_,I.laid (a:=s.heap.objs.size) (o:=.dT []) (t':=s.toks) (λ_ _ q=>Qi _ q) (Qf _) (oX s.heap I.big),rfl,h _ (I.bz.fresh (Qf _))⟩
end
section
end
section
end
section
end
section
end
section
end
section
variable {κ:Type}[DecidableEq κ]
end
end L2
namespace L2.Q
open PySem PySem.Spec PySem.SeqAt PyProof.Rows
theorem _root_.L2.da.c7 {k:Nat}{A:Rj}(r:da k A):A.units+1<TY:=by have:=r.un;lia
def iK (t:List Int):List Key:=t.map Uq
theorem wC {t u:List Int}(h:iK t=iK u):t=u:=by
 unfold iK at h
 induction t generalizing u with
 |nil=>cases u with|nil=>rfl|cons _ _=>cases h
 |cons a t ih =>
  cases u with
  |nil=>cases h
  |cons b u =>
   rw[QS,QS]at h;injection h with h1 h2
   injection h1 with h1
   rw[h1,ih h2]
theorem oE (t:List Int):(iK t).map kV=t.map V.int:=by
 unfold iK;rw[QY];rfl
def dP (ts:List (List Int))(b:Bool):D:=.dT (ts.map iK) (Qw ts.length (.bl b))
def pC (ts:List (List Int))(t:List Int):List (List Int):=if t∈ts then ts else ts++[t]
theorem mf {v:V}:∀{ks:List (List Key)} {n:Nat},ks.length=n->ks.zip (Qw n v)=ks.map λk=>(k,v)
 |[],_,_=>by simp
 |k::ks,0,h=>by cases h
 |k::ks,n+1,h=>by
  rw[Rt,Ss,mf (Te h)];rfl
theorem yu {v:V}{ts:List (List Int)}{t:List Int}:putK ((ts.map iK).map λk=>(k,v)) (iK t) v=((pC ts t).map iK).map λk=>(k,v):=by
 unfold putK pC;have any:(((ts.map iK).map λk=>(k,v)).any λkv=>decide (kv.1=iK t))=decide (t∈ts):=by
  rw[U7,TZ,decide_eq_true_eq];constructor
  ·rintro⟨kv,h1,h2⟩;obtain⟨k,h3,rfl⟩:=QP.mp h1;obtain⟨u,h4,rfl⟩:=QP.mp h3;have:=wC (of_decide_eq_true h2);rw[<- this];exact h4
  ·intro h;exact⟨(iK t,v),QP.mpr ⟨iK t,QP.mpr ⟨t,h,rfl⟩,rfl⟩,by simp⟩
 rw[any]
 by_cases h:t∈ts
 ·rw[if_pos (by simpa using h),if_pos h,QY]
  refine RS λk _=>?_;show (if k=iK t then (k,v) else (k,v))=(k,v)
  split <;> rfl
 ·rw[if_neg (by simpa using h),if_neg h,QD,QD]
  rfl
section
variable {P:Qd}{w:Qq}{H:Hp}{a:Addr}
theorem rq {b:Bool}:∀{n:Nat},aK P w H (Qw n (.bl b)) (Qw n (V.bl b)) []
 |0=>⟨rfl,rfl⟩
 |n+1=>⟨_,_,[],[],rfl,rfl,⟨rfl,rfl⟩,rq⟩
theorem r_ {b:Bool}:∀{n:Nat} {vs:List V} {A:List Addr},aK P w H (Qw n (.bl b)) vs A->vs=Qw n (V.bl b)/\A=[]
 |0,_,_,h=>h
 |n+1,_,_,⟨v,r,A1,A2,e,eA,h1,h2⟩=>by
  obtain⟨e1,e2⟩:=h1;obtain⟨e3,e4⟩:=r_ h2;rw[e,eA,e1,e2,e3,e4];exact⟨rfl,rfl⟩
theorem vM {ts:List (List Int)}{b:Bool}(h:H a=some (.dT ((ts.map iK).map λk=>(k,V.bl b)))):Own P w H (dP ts b) (.ref a) [a] :=
 ⟨a,Qw ts.length (V.bl b),[],rfl,by rw[mf (by simp)];exact h,by simp,rfl,rq⟩
theorem DA {ts:List (List Int)}{b:Bool}{v:V}{A:List Addr}(h:Own P w H (dP ts b) v A):∃a,v=.ref a/\A=[a]/\H a=some (.dT ((ts.map iK).map λk=>(k,V.bl b))):=by
 obtain⟨a,vs,A',e,h1,l,eA,h2⟩:=h;obtain⟨e3,e4⟩:=r_ h2;rw[e3,mf (by simp)]at h1
 exact⟨a,e,by rw[eA,e4],h1⟩
end
section
variable {X:Cx}{C:Cfg}{k:Expr}{φk:aY}{i:Nat}{x:Str}{pos pos' px pc:Pos}{b:Bool}
theorem yz (b:Bool):PQ X C true (.Dict [] [] pos) (λβ R=>R (dP [] b) .own β) :=
 ⟨λβ R R' k h=>k _ _ _ h,nO.pre λσ H Q h p hp=>by
  obtain⟨β,own,s,q⟩:=h;refine q _ _ own ((Out.refl s _).same (az.new hp)) ⟨[p],vM au,by simp,λc hc=>?_⟩
  rw[Qj.mp hc];exact⟨hp,λz=>s.rW p z hp,QG λz=>s.ft p z hp⟩⟩
theorem i4 {j}(hu:X.A.units+1<TY)(hk:PQ X C.z true k φk)(hN:X.N[i]?=some x:=by rfl)(hv:m6 X.env.scope x:=by first|exact .inl rfl|exact .inr (.inl rfl)|exact .inr (.inr rfl))(hd:(x==("__debug__" : Str))=false:=by decide)(ee:(x==("__classdict__" : Str))=false:=by decide)
  (hs:RN (.Constant (.bool b) j pc) (some (.Subscript (.Name x px) k pos')) pos.line X.env=pure false:=by rfl) :
  PB X C (.Assign [.Subscript (.Name x px) k pos'] (.Constant (.bool b) j pc) pos) (λE β=>(∃ts,β[i]?=some (some (.own (dP ts b))))/\φk β λjd _ β2=>∃ts t,jd=kD t/\β2[i]?=some (some (.own (dP ts b)))/\ts.length<Qp/\E.nx (β2.set i (some (.own (dP (pC ts t) b))))):=by
 refine⟨λE E' β l h=>⟨h.1,hk.mono _ _ _ (λjd _ β2 h=>by obtain⟨ts,t,h1,h2,h3,q⟩:=h;exact⟨ts,t,h1,h2,h3,l.nx _ q⟩) h.2⟩,(qZ hu (cy (pos:=px) hN hv hd ee) hk.pe (vJ (j:=j) (pos:=pc)) hs).pre λDe σ H h=>?_⟩
 obtain⟨Z,E,β,⟨own,s0,n⟩,⟨⟨Pg,uK⟩,q⟩,ok⟩:=h;obtain⟨v0,i_,Nq,_⟩:=s0.ow i _ uK;refine⟨v0,i_,tQ.of hk s0 q λjd kk β2 v H1 aE h o r=>?_⟩;obtain⟨ts,t,e1,hb,hl,q⟩:=h;subst e1;obtain⟨v1,wF,ow,h0⟩:=o.sq.ow i _ hb;rw[i_]at wF;cases wF;obtain⟨a,rfl,eA,ha⟩:=DA ow;obtain⟨p,vs,rfl,hp,rv⟩:=r.rep;have ev:vs=(iK t).map kV:=by
  rw[oE];have key:∀(t:List Int) (vs:List V),ah X.prog X.w (av C.z (Wn aE) kk) H1 (t.map D.int) vs->vs=t.map V.int:=λt=>by
   induction t with
   |nil=>intro vs h;exact h
   |cons y t ih =>
    intro vs h;obtain⟨z,r',e1,e2,e3⟩:=h;rw[e1,ih r' e3,show z=V.int y from e2]
    rfl
  exact key t vs rv
 have AB:a∈aE i:=by rw[eA];simp
 refine⟨a,_,rfl,.inr ⟨_,iK t,p,ha,rfl,by rw[<- ev];exact hp,by rw[Qa,Qa];exact hl,rfl⟩,?_⟩
 have hA:∀c∈[a],c∈aE i\/(C.H0 c=none/\¬ Wn aE c/\(λ_=>False) c):=λc hc=>.inl (by rw[Qj.mp hc];exact AB)
 have r':Own X.prog X.w (upd H1 a (.dT (putK ((ts.map iK).map λk=>(k,V.bl b)) (iK t) (V.bl b)))) (dP (pC ts t) b) (.ref a) [a]:=vM (by rw[yu];exact au)
 exact ok.nx _ _ _ ⟨_,o.sq.BM (C:=C) (U:=λ_=>False) (U2:=λ_=>False) hb i_ AB r' (by simp) hA (λ_ z=>z) (λ_ _ z=>z),fM (C:=C) (n.trans o.sn) (λ_ z=>z.elim) ⟨i,AB⟩ ⟨_,ha,λxs z=>by cases z⟩ hA⟩ q
end
end L2.Q
namespace Dk
open PySem PySem.Spec PyProof.Rows
def At (h:Heap)(d:Addr)(es:Array To)(ep:Nat):Prop:=∃o,h.get? d=some o/\o.ExactDict/\o.data=.dict es ep
theorem At.at' {h h':Heap}{d:Addr}{es:Array To}{ep:Nat}(x:At h d es ep)(e:∀o,h.get? d=some o->h'.get? d=some o):At h' d es ep:=by
 obtain⟨o,h1,r⟩:=x;exact⟨o,e _ h1,r⟩
theorem At.lt {h:Heap}{d:Addr}{es:Array To}{ep:Nat}(x:At h d es ep):d<h.objs.size:=by
 obtain⟨o,h1,_⟩:=x;exact Qs h1
theorem At.typeIs {s:Qb} {d:Addr} {es:Array To} {ep:Nat} (x:At s.heap d es ep):s.TypeIs (.ref d) "dict" := by
 obtain⟨o,h1,h2,_⟩:=x;exact⟨o,h1,h2.1⟩
section
variable {prog:Qd}{w:Qq}{A:Rj}{E:P_->Qb->Prop}{s:Qb}{d it:Addr}{es:Array To}{i ep:Nat}
theorem tX {Q:P_->Qb->Prop}(hd:(d==R9)=false)(hm:At s.heap d es ep)
  (hQ:Q (.ref s.heap.objs.size) {s with heap:=s.heap.push {cls:=.type "dict_keyiterator",data:=.fields #[.ref d,.int 0 0,.int es.size 0,.int ep 0]}}):QE (model prog w) A (UA (.ref d)) Q E s:=by
 have hT:=hm.typeIs;obtain⟨o,ho,hc,G2⟩:=id hm;refine wpAny_pyIter_slot hT F.slot_dict_iter (RW F.slot_dict_iter hT F.entry_dict_iter ?_ (F.args_dict_iter_1 _));unfold UO.«dict.__iter__»
 refine P9 ?_;unfold Builtin.Dict.dictSlotNone;refine P9 (wpAny_notOrdered_dict hT ?_);show QE _ _ (pure (Value.ref d)) _ _ s;refine Qn ?_;show QE _ _ (Builtin.Dict.showsAll d >>= _) _ _ s;unfold Builtin.Dict.showsAll;rw[if_neg (by rw[hd];exact Sv)]
 refine P9 (Qn ?_);refine P9 (UG ho G2 ?_);refine P9 (U0 ho G2 ?_);refine P9 (R4 (Qn ⟨_,rfl,"dict_keyiterator",_,⟨_,QC _ rfl,rfl⟩,F.slot_dict_keyiterator_next.lookup,?_⟩));simpa[Uk] using hQ
theorem next_item {Q:Option P_->Qb->Prop}(hit:s.heap.IsKeyIter it d i es.size ep)(hm:At s.heap d es ep)(Kv:i<es.size)
  (hQ:∀h',h'.IsKeyIter it d (i+1) es.size ep->Su it s.heap h'->Q (some es[i].key) {s with heap:=h'}):QE (model prog w) A (T4 (.ref it)) Q E s:=by
 obtain⟨o,ho,hc,hd⟩:=id hit;obtain⟨od,GS,ee,G1⟩:=id hm;unfold T4;refine P9 (TM (RM (name:=Tv "__next__") hit.typeIs F.slot_dict_keyiterator_next
  (RW F.slot_dict_keyiterator_next hit.typeIs F.entry_dict_keyiterator_next ?_ (F.args_dict_keyiterator_next_1 _))))
 refine P9 (Qn ?_);refine P9 ?_;refine P9 ?_
 first|refine P9 (Sm hit.typeIs (Qn ?_))|refine P9 (S0 hit.typeIs (Qn ?_))
 refine P9 (wpAny_fieldsOf ho hd ?_);have C6:U5 "dict_keyiterator" = false:=by decide
 simp only[C6,Sw,if_false];show QE _ _ (if (Value.ref d==Value.none)=true then _ else _) _ _ s
 rw[if_neg (show ¬ ((Value.ref d==Value.none)=true) from Sv)]
 refine P9 (Qn ?_);refine P9 (UG GS G1 ?_);rw[if_neg (by simp)]
 refine P9 (Qn ?_);refine P9 (U0 GS G1 ?_);rw[if_neg (by simp)]
 refine Qn ?_;simp only[show ¬ ((i:Int)<0) from by lia,if_false,RQ,Array.getElem?_eq_getElem Kv]
 refine P9 ?_
 first|refine P9 (Sm hit.typeIs (Qn ?_))|refine P9 (S0 hit.typeIs (Qn ?_))
 refine P9 (wpAny_isOneOf_keyiter hit.typeIs ?_);show QE _ _ (setField (.ref it) 1 (Uk ((i:Int)+1)) >>= _) _ _ s;refine P9 (Uj ho hd (by simp) ?_)
 have zB:(s.heap.update it (Obj.mapFields (·.setIfInBounds 1 (Uk ((i:Int)+1))))).IsKeyIter it d (i+1) es.size ep :=
  ⟨_,Ug _ ho (Obj.isFreed_of_fields (Tz hd _)),(Obj.cls_mapFields ..).trans hc,by rw[Tz hd];simp[Uk]⟩
 refine P9 (R8 ?_);refine P9 (wpAny_isOneOf_keyiter (s:={s with heap:=s.heap.update it (Obj.mapFields (·.setIfInBounds 1 (Uk ((i:Int)+1))))}) zB.typeIs ?_)
 show QE _ _ (pure es[i].key) _ _ _;exact Qn (Qn ⟨_,rfl,Qn (hQ _ zB (Tt ..))⟩)
end
section
variable {prog:Qd}{w:Qq}{A:Rj}{E:P_->Qb->Prop}{s:Qb}{d it:Addr}{es:Array To}{i ep:Nat}
theorem next_end {Q:Option P_->Qb->Prop}(hh:A.handled=none)(hit:s.heap.IsKeyIter it d i es.size ep)(hm:At s.heap d es ep)(Mv:es.size<=i)
  (hQ:∀h',Heap.ExtBut it s.heap h'->Q none {s with heap:=h'}):QE (model prog w) A (T4 (.ref it)) Q E s:=by
 obtain⟨o,ho,hc,hd⟩:=id hit;obtain⟨od,GS,ee,G1⟩:=id hm;unfold T4;refine P9 (TM (RM (name:=Tv "__next__") hit.typeIs F.slot_dict_keyiterator_next
  (RW F.slot_dict_keyiterator_next hit.typeIs F.entry_dict_keyiterator_next ?_ (F.args_dict_keyiterator_next_1 _))))
 refine P9 (Qn ?_);refine P9 ?_;refine P9 ?_
 first|refine P9 (Sm hit.typeIs (Qn ?_))|refine P9 (S0 hit.typeIs (Qn ?_))
 refine P9 (wpAny_fieldsOf ho hd ?_);have C6:U5 "dict_keyiterator" = false:=by decide
 simp only[C6,Sw,if_false];show QE _ _ (if (Value.ref d==Value.none)=true then _ else _) _ _ s
 rw[if_neg (show ¬ ((Value.ref d==Value.none)=true) from Sv)]
 refine P9 (Qn ?_);refine P9 (UG GS G1 ?_);rw[if_neg (by simp)]
 refine P9 (Qn ?_);refine P9 (U0 GS G1 ?_);rw[if_neg (by simp)]
 refine Qn ?_;simp only[show ¬ ((i:Int)<0) from by lia,if_false,RQ,Th Mv]
 refine P9 ?_
 first|refine P9 (Sm hit.typeIs (Qn ?_))|refine P9 (S0 hit.typeIs (Qn ?_))
 show QE _ _ (setField (.ref it) 0 .none >>= _) _ _ s;refine P9 (Uj ho hd (by simp) ?_)
 show QE _ _ (newExc (.type "StopIteration") [] >>= _) _ _ _;refine P9 ?_;simp only[newExc,newTuple];refine P9 (R4 ?_ (by size_fits))
 refine P9 (m:=Ul _ _) (wpAny_of_eq (a:=Value.none) (by first|rfl|(simp only[Ul];rfl)) ?_)
 refine R4 ?_ (by size_fits)
 simp only[raiseNew];refine P9 (wpAny_handled ?_);rw[show A.in1.handled=none from hh]
 refine P9 (Qn (wpAny_throw ?_));refine P9 (wpAny_isInstance (T:="StopIteration") (b:=true) ⟨_,QC _ rfl,rfl⟩ isSubtype_stop ?_);exact Qn (hQ _ (((Tt ..).extBut.push _).push _))
theorem walks (hh:A.handled=none)(I d:Addr)(zA:d≠I)(es:Array To)(ep:Nat):
  Walks prog w A I [I,d] [I] es.size (λi v=>∃h:i<es.size,v=es[i].key) (λi h=>h.IsKeyIter I d i es.size ep/\At h d es ep) where
 sub:=λb hb=>by simp at hb;simp[hb]
 frame:=λ_ _ _ st hk=>⟨st.1.at λo e=>hk I (by simp) o e,st.2.at' λo e=>hk d (by simp) o e⟩
 item:=λi s Q E hi st hQ=>by
  refine next_item st.1 st.2 hi λh' zB Mc=>?_;exact hQ _ h' s.toks ⟨hi,rfl⟩ ⟨zB,st.2.at' λo e=>Mc.extBut d o zA e⟩ λb o hb e=>Mc.extBut b o (λh=>hb (by simp[h])) e
 done:=λs Q E st hQ=>next_end hh st.1 st.2 (Qf _) λh' Ot=>hQ h' s.toks λb o hb e=>Ot b o (λh=>hb (by simp[h])) e
 self:=λ_ _ _ _ st hQ=>wpAny_pyIter_keyiter st.1 hQ
theorem src (lo:(d==R9)=false):PySem.W.KdlSrc prog w "dict" d d es.size (λi v=>∃h:i<es.size,v=es[i].key) (λh=>At h d es ep) where
 type:=λ_ hm=>hm.typeIs
 there:=λ_ hm=>⟨hm.lt,hm.lt⟩
 keep:=λ_ _ hm hk=>hm.at' λo e=>hk d (.inl rfl) o e
 notList:=by decide
 notTuple:=by decide
 hint:=λ_ _ _ _ hm hq=>PySem.W.kdl_hint_dict hm.typeIs hq
 iter:=λ_ _ hh hm=>⟨_,_,(λ_ _ hq=>tX lo hm hq),walks hh _ d (QO hm.lt) es ep,⟨⟨_,QC _ rfl,rfl,rfl⟩,hm.at' λo e=>Qi _ e⟩⟩
theorem mV {R:List P_->Qb->Prop}(lo:(d==R9)=false)(hm:At s.heap d es ep)(hn:es.size<=Qp)(hh:A.handled=none)
  (h:∀(h':Heap) (tk:Nat),(∀b o,s.heap.get? b=some o->h'.get? b=some o)->R (es.toList.map (·.key)) {s with heap:=h',toks:=tk}):QE (model prog w) A (collect (.ref d)) R E s:=by
 refine PySem.W.kdu_collect (src (es:=es) (ep:=ep) lo) hh hm hn λh' tk acc hk G7=>?_;have e:acc.toList=es.toList.map (·.key):=by
  apply Ry;intro i;rw[Ql,QI,QI]
  by_cases hi:i<acc.size
  ·obtain⟨g1,g2⟩:=G7.2 i acc[i] (getElem?_pos acc i hi);rw[getElem?_pos acc i hi,getElem?_pos es i g1,g2];rfl
  ·have:=G7.1;rw[Th (by lia),Th (by lia)]
   rfl
 rw[e];exact h h' tk hk
end
end Dk
namespace L2.Q
open PySem PySem.Spec PySem.SeqAt PyProof.Rows HT
noncomputable def x_:List Key->Option (List Int)
 |[]=>some []
 |.inl i::r=>(x_ r).map (i::·)
 |.inr _::_=>none
noncomputable def km:List (List Key)->Option (List (List Int))
 |[]=>some []
 |k::r=>match x_ k,km r with
  |some t,some ts=>some (t::ts)
  |_,_=>none
theorem u5:∀t:List Int,x_ (iK t)=some t
 |[]=>rfl
 |i::t=>by
  show (x_ (iK t)).map (i::·)=_;rw[u5 t];rfl
theorem nk:∀ts:List (List Int),km (ts.map iK)=some ts
 |[]=>rfl
 |t::ts=>by
  show (match x_ (iK t),km (ts.map iK)with|some t,some ts=>some (t::ts)|_,_=>none)=_
  rw[u5,nk ts]
theorem u6:∀{k:List Key} {t:List Int},x_ k=some t->k=iK t
 |[],t,h=>by cases h;rfl
 |.inl i::r,t,h=>by
  obtain⟨u,h1,h2⟩:=Qy.mp (show (x_ r).map (i::·)=some t from h)
  rw[<- h2,u6 h1];rfl
 |.inr _::_,t,h=>by cases h
theorem qN:∀{ks:List (List Key)} {ts:List (List Int)},km ks=some ts->ks=ts.map iK
 |[],ts,h=>by cases h;rfl
 |k::r,ts,h=>by
  have h:(match x_ k,km r with|some t,some ts=>some (t::ts)|_,_=>none)=some ts:=h
  cases h1:x_ k with
  |none=>rw[h1]at h;cases h
  |some t =>
   cases h2:km r with
   |none=>rw[h1,h2]at h;cases h
   |some us =>
    rw[h1,h2]at h;cases h;rw[u6 h1,qN h2];rfl
noncomputable def xi:List D->Option D
 |[.dT ks _]=>match km ks with
  |some ts=>if ts.length<=1000/\(∀k∈ts,k≠[]) then some (.lst ((iw ts).map kD)) else none
  |none=>none
 |_=>none
theorem yj {ts:List (List Int)}{b:Bool}(h:∀k∈ts,k≠[])(l:ts.length<=1000):xi [dP ts b]=some (.lst ((iw ts).map kD)):=by
 show (match km (ts.map iK)with|some ts=>if ts.length<=1000/\(∀k∈ts,k≠[]) then some (D.lst ((iw ts).map kD)) else none|none=>none)=_
 rw[nk];exact if_pos ⟨l,h⟩
theorem rE {H:Hp}:∀{ts:List (List Int)} {vs:List V} {xs:List (List Key×Addr×P_)},(ts.map iK).length=vs.length ->
  Paired (λ(p:List Key×V) (q:List Key×Addr×P_)=>p.1=q.1/\H q.2.1=some (.tup (p.1.map kV))/\RelV p.2 q.2.2) ((ts.map iK).zip vs) xs->∃us:List (Addr×List Int),xs.map (λq=>Value.ref q.2.1)=us.map (λx=>Value.ref x.1)/\us.map (·.2)=ts/\∀u∈us,H u.1=some (.tup (u.2.map V.int))
 |[],vs,xs,_,p=>by cases p;exact⟨[],rfl,rfl,λ_ z=>(nomatch z)⟩
 |t::ts,[],xs,l,p=>by cases l
 |t::ts,v::vs,xs,l,p=>by
  cases p with
  |cons h r =>
   obtain⟨us,h1,h2,h3⟩:=rE (Te l) r
   rename_i q Eb
   refine⟨(q.2.1,t)::us,by rw[QS,QS,h1],by rw[QS,h2],λu hu=>?_⟩
   rcases Qc.mp hu with rfl|hu
   ·have:=h.2.1;rw[oE]at this;exact this
   ·exact h3 u hu
theorem mW {X:Cx} (hc:X.calm=true):xG X (.builtin "sorted") xi:=by
 intro pins s σ H xs Pf Q I r h;obtain⟨W,ds,d,hd,r1,e,q⟩:=h
 match ds,e with
 |[.dT ks fs],e =>
  have e:(match km ks with|some ts=>if ts.length<=1000/\(∀k∈ts,k≠[]) then some (D.lst ((iw ts).map kD)) else none|none=>none)=some d:=e
  cases hk:km ks with
  |none=>rw[hk]at e;cases e
  |some ts =>
   rw[hk]at e;obtain⟨⟨hl,zA⟩,rfl⟩:=c_ e;have:=qN hk;subst this;obtain⟨x,rfl,p,vs,rfl,hp,Of,nW,rs⟩:=iN r1;obtain⟨u,rfl,rx⟩:=vals1 r;cases rx;obtain⟨z,y,Eb,pr,o,es,ep,h1,h2,h3,h4,h5⟩:=(show bA X.prog X.w H s.heap p (.dT ((ts.map iK).zip vs)) from I.bz p _ hp)
   obtain⟨us,eu,ek,T⟩:=rE Of pr;have T2:DR H us:=λt ht=>⟨T t ht,zA _ (by rw[<- ek];exact QP.mpr ⟨t,ht,rfl⟩)⟩
   have ul:us.length=ts.length:=by rw[<- ek,Qa]
   have ev:es.toList.map (·.key)=us.map λx=>Value.ref x.1:=by
    rw[h4,QY,<- eu];rfl
   have OL:es.size=us.length:=by
    have:=congrArg Up ev;rw[Qa,Qa,QH]at this;exact this
   refine TS.pV (vs:=us.map λx=>Value.ref x.1) (kf:=tS H) (by rw[Qa];lia) (λR hR=>Dk.mV (es:=es) (ep:=ep) y ⟨o,h1,h2,h3⟩ (by rw[OL,ul,RU];lia) (by simp[I.ok.hd hc]) λh' tk kp=>by rw[ev];exact hR h' tk kp) (yb I.bz T2 (Qf _)) λout pK h' tk n C5 hs k1 kp zw=>?_
   ·obtain⟨e1,e2⟩:=s9 T2 C5;have zl:out.length=us.length:=by rw[C5.length_eq,Qa]
    have eq:(out.map (Dq H)).map (·.2)=iw ts:=by
     refine By (by rw[<- ek];exact e2.map _) ?_
     refine TF.mpr (TF.mpr ?_);refine hs.imp_of_mem λ{x y} hx hy hh=>?_;obtain⟨t,ht,rfl⟩:=QP.mp (C5.mem_iff.mp hx);obtain⟨t',Py,rfl⟩:=QP.mp (C5.mem_iff.mp hy);exact hh
    have I1:Inv X pins σ H {s with heap:=pK,toks:=s.toks}:=I.kept k1
    have KJ:H pK.objs.size=none:=I1.bz.fresh (Qf _);have rk:ah X.prog X.w W H ((iw ts).map kD) ((out.map (Dq H)).map ye):=by rw[<- eq];exact lh λt ht=>(T2 t (e2.mem_iff.mp ht)).1
    refine⟨.ref pK.objs.size,_,I1.laid (t':=tk) (o:=.lst ((out.map (Dq H)).map ye)) kp (Qf _) ?_,rfl,q _ _ (az.new KJ) (Rp.hE hd KJ rk) λf=>tG KJ f rk⟩;refine⟨by rw[Qa,Qa,zl,ul,RU];lia,out,n,?_,zw⟩
    have:=lj (out.map (Dq H));rw[<- e1]at this;exact this
end L2.Q
namespace L2
open PySem PySem.Spec PySem.SeqAt PyProof.Rows
def D.int?:D->Option Int
 |.int i=>some i
 |_=>none
def D.tM:D->Option (List D)
 |.lst ds=>some ds
 |_=>none
theorem D.rH {d:D}{i:Int}(h:d.int?=some i):d=.int i:=by
 cases d <;> first|(cases h;rfl)|cases h
theorem D.mL {d:D}{ds:List D}(h:d.tM=some ds):d=.lst ds:=by
 cases d <;> first|(cases h;rfl)|cases h
noncomputable def iL:List D->Option (List Int)
 |[]=>some []
 |d::ds=>d.int?.bind λi=>(iL ds).map (i::·)
theorem j5:∀{ds:List D} {ns:List Int},iL ds=some ns->ds=ns.map D.int
 |[],_,h=>by cases h;rfl
 |d::ds,ns,h=>by
  obtain⟨i,h1,h2⟩:=Rk.mp h;obtain⟨ms,h3,rfl⟩:=Qy.mp h2;rw[D.rH h1,j5 h3];rfl
theorem ie:∀ns:List Int,iL (ns.map D.int)=some ns
 |[]=>rfl
 |n::ns=>by
  show (some n).bind (λi=>(iL (ns.map D.int)).map (i::·))=_;rw[ie ns];rfl
noncomputable def gJ (f:List Int->Option Int):List D->Option D
 |[d]=>d.tM.bind λds=>(iL ds).bind λns=>(f ns).map D.int
 |_=>none
theorem j4 {f:List Int->Option Int}{ds:List D}{d:D}(h:gJ f ds=some d):∃ns i,ds=[.lst (ns.map D.int)]/\f ns=some i/\d=.int i:=by
 cases ds with
 |nil=>cases h
 |cons x r =>
  cases r with
  |cons _ _=>cases h
  |nil =>
   obtain⟨es,h1,h2⟩:=Rk.mp h;obtain⟨ns,h3,h4⟩:=Rk.mp h2;obtain⟨i,h5,rfl⟩:=Qy.mp h4;exact⟨ns,i,by rw[D.mL h1,j5 h3],h5,rfl⟩
theorem fS {f:List Int->Option Int}{ns:List Int}{i:Int}(h:f ns=some i):gJ f [.lst (ns.map D.int)]=some (.int i):=by
 show (some (ns.map D.int)).bind (λds=>(iL ds).bind λns=>(f ns).map D.int)=_;rw[Sg,ie,Sg,h];rfl
def iS:List Int->Option Int
 |[]=>none
 |n::ns=>some (ns.foldl max n)
def Cg:List Int->Option Int
 |[]=>none
 |n::ns=>some (ns.foldl min n)
theorem bU:∀(ns:List Int) (n:Int),(ns.foldl max n∈n::ns)/\∀x∈n::ns,x<=ns.foldl max n
 |[],n=>⟨by simp,λx hx=>by simp at hx;rw[hx];exact Int.le_refl _⟩
 |m::ns,n=>by
  obtain⟨h1,h2⟩:=bU ns (max n m);have hm:max n m<=ns.foldl max (max n m):=h2 _ (by simp)
  refine⟨?_,λx hx=>?_⟩
  ·rw[Sz];rcases Qc.mp h1 with h|h
   ·rw[h]
    by_cases q:n<=m
    ·rw[show max n m=m by lia];simp
    ·rw[show max n m=n by lia];simp
   ·simp[h]
  ·rw[Sz];rcases Qc.mp hx with rfl|hx
   ·lia
   ·rcases Qc.mp hx with rfl|hx
    ·lia
    ·exact h2 x (by simp[hx])
theorem fo:∀(ns:List Int) (n:Int),(ns.foldl min n∈n::ns)/\∀x∈n::ns,ns.foldl min n<=x
 |[],n=>⟨by simp,λx hx=>by simp at hx;rw[hx];exact Int.le_refl _⟩
 |m::ns,n=>by
  obtain⟨h1,h2⟩:=fo ns (min n m);have hm:ns.foldl min (min n m)<=min n m:=h2 _ (by simp)
  refine⟨?_,λx hx=>?_⟩
  ·rw[Sz];rcases Qc.mp h1 with h|h
   ·rw[h]
    by_cases q:n<=m
    ·rw[show min n m=n by lia];simp
    ·rw[show min n m=m by lia];simp
   ·simp[h]
  ·rw[Sz];rcases Qc.mp hx with rfl|hx
   ·lia
   ·rcases Qc.mp hx with rfl|hx
    ·lia
    ·exact h2 x (by simp[hx])
section
variable {X:Cx}
theorem fL:∀{ns:List Int} {us:List P_},Vals (ns.map V.int) us->∃xs:Array (Int×Tok),us.toArray=intItems xs/\xs.toList.map (·.1)=ns
 |[],_,h=>by cases h;exact⟨#[],by simp[intItems],rfl⟩
 |n::ns,_,h=>by
  cases h with
  |cons h1 h2 =>
   obtain⟨t,rfl⟩:=h1;obtain⟨xs,e1,e2⟩:=fL h2;refine⟨⟨(n,t)::xs.toList⟩,?_,by simp[e2]⟩
   have:=congrArg Array.toList e1;simp[intItems]at this ⊢
   exact this
theorem d4 {xs:Array (Int×Tok)}{ns:List Int}(e:xs.toList.map (·.1)=ns)(i:Nat):numAt xs i=ns.getD i 0:=by
 subst e;unfold numAt;rw[QN,Ql,QI]
theorem sf {xs:Array (Int×Tok)}{ns:List Int}(e:xs.toList.map (·.1)=ns){i:Nat}{v:P_}(h:(intItems xs)[i]?=some v):RelV (.int (ns.getD i 0)) v:=by
 obtain⟨t,rfl⟩:=intItems_at h;exact⟨t,by rw[d4 e]⟩
theorem ints_size {xs:Array (Int×Tok)}{ns:List Int}(e:xs.toList.map (·.1)=ns):xs.size=ns.length:=by rw[<- e];simp
theorem lN (hc:X.calm=true):bB X (.builtin "max") (gJ iS):=by
 intro pins s σ H xs us Q I r h;obtain⟨W,ds,d,hd,r1,e,q⟩:=h;obtain⟨ns,i,rfl,e1,rfl⟩:=j4 e;obtain⟨x,rfl,p,vs,rfl,h1,n1,q1⟩:=iN r1;obtain⟨u,rfl,ru⟩:=vals1 r;cases ru;rw[bW q1]at h1;obtain⟨its,r2,ht,hz⟩:=I.list (c6.of h1);obtain⟨ys,La,e2⟩:=fL r2;have hs:=ints_size e2;cases ns with
 |nil=>cases e1
 |cons n ns =>
  rw[Qx]at hs;refine max_intList (I.ok.hd hc) (xs:=ys) (by rw[<- La];exact ht.isList) (by lia) λv h' tk hv k=>⟨.int i,H,I.kept k,?_,q _ _ (az.refl _) rfl⟩
  have hr:=sf e2 hv;obtain⟨g1,g2⟩:=argBest_gt (numAt ys) (ys.size-1);generalize argBest (λi j=>decide (numAt ys i>numAt ys j)) (ys.size-1)=b at *
  have hb:b<(n::ns).length:=by rw[Qx];lia
  have:(n::ns).getD b 0=i:=by
   cases e1;obtain⟨f1,f2⟩:=bU ns n;have hle:∀x∈n::ns,x<=(n::ns).getD b 0:=λx hx=>by
    obtain⟨j,hj,rfl⟩:=List.getElem_of_mem hx;have:=g2 j (by rw[Qx]at hj;lia)
    rw[d4 e2,d4 e2]at this;rw[QN,Qm hj]at this;exact this
   have qp:(n::ns).getD b 0∈n::ns:=by
    rw[QN,Qm hb];exact Tn hb
   have:=hle _ f1;have:=f2 _ qp;lia
  rw[<- this];exact hr
theorem uo (hc:X.calm=true):bB X (.builtin "min") (gJ Cg):=by
 intro pins s σ H xs us Q I r h;obtain⟨W,ds,d,hd,r1,e,q⟩:=h;obtain⟨ns,i,rfl,e1,rfl⟩:=j4 e;obtain⟨x,rfl,p,vs,rfl,h1,n1,q1⟩:=iN r1;obtain⟨u,rfl,ru⟩:=vals1 r;cases ru;rw[bW q1]at h1;obtain⟨its,r2,ht,hz⟩:=I.list (c6.of h1);obtain⟨ys,La,e2⟩:=fL r2;have hs:=ints_size e2;cases ns with
 |nil=>cases e1
 |cons n ns =>
  rw[Qx]at hs;refine min_intList (I.ok.hd hc) (xs:=ys) (by rw[<- La];exact ht.isList) (by lia) λv h' tk hv k=>⟨.int i,H,I.kept k,?_,q _ _ (az.refl _) rfl⟩
  have hr:=sf e2 hv;obtain⟨g1,g2⟩:=argBest_lt (numAt ys) (ys.size-1);generalize argBest (λi j=>decide (numAt ys i<numAt ys j)) (ys.size-1)=b at *
  have hb:b<(n::ns).length:=by rw[Qx];lia
  have:(n::ns).getD b 0=i:=by
   cases e1;obtain⟨f1,f2⟩:=fo ns n;have hle:∀x∈n::ns,(n::ns).getD b 0<=x:=λx hx=>by
    obtain⟨j,hj,rfl⟩:=List.getElem_of_mem hx;have:=g2 j (by rw[Qx]at hj;lia)
    rw[d4 e2,d4 e2]at this;rw[QN (l:=n::ns) (i:=j),Qm hj]at this;exact this
   have qp:(n::ns).getD b 0∈n::ns:=by
    rw[QN,Qm hb];exact Tn hb
   have:=hle _ f1;have:=f2 _ qp;lia
  rw[<- this];exact hr
end
end L2
namespace L2.Q
open PySem PySem.Spec PySem.SeqAt PyProof.Rows
def dA (kvs:List (List Int×D)):D:=.dT (kvs.map λp=>iK p.1) (kvs.map (·.2))
def dz (kvs:List (List Int×D))(t:List Int):Option D:=(kvs.find? λp=>decide (p.1=t)).map (·.2)
def _root_.L2.D.FU:D->Option (List (List Key)×List D)
 |.dT ks ds=>some (ks,ds)
 |_=>none
theorem zk {d:D}{ks:List (List Key)}{ds:List D}(h:d.FU=some (ks,ds)):d=.dT ks ds:=by
 cases d <;> first|(cases h;rfl)|cases h
def pQ (ks:List (List Key))(ds:List D)(k:List Key):Option D:=((ks.zip ds).find? λp=>decide (p.1=k)).map (·.2)
theorem zj {d:D}{es:List D}(h:d.FT=some es):d=.tup es:=by
 cases d <;> first|(cases h;rfl)|cases h
def zT (a b:D):Option ((List (List Key)×List D)×List Int):=a.FU.bind λp=>b.FT.bind λes=>(iL es).map λt=>(p,t)
theorem zS {a b:D}{ks:List (List Key)}{ds:List D}{t:List Int}(h:zT a b=some ((ks,ds),t)):a=.dT ks ds/\b=.tup (t.map D.int):=by
 obtain⟨p,h1,h2⟩:=Rk.mp h;obtain⟨es,h3,h4⟩:=Rk.mp h2;obtain⟨t',h5,h6⟩:=Qy.mp h4;cases h6;exact⟨zk h1,by rw[zj h3,j5 h5]⟩
theorem zR {kvs:List (List Int×D)}{t:List Int}:zT (dA kvs) (.tup (t.map D.int))=some ((kvs.map λp=>iK p.1,kvs.map (·.2)),t):=by
 show (some _).bind (λp=>(some (t.map D.int)).bind λes=>(iL es).map λt=>(p,t))=_;rw[Sg,Sg,ie];rfl
theorem pP {t:List Int}:∀{kvs:List (List Int×D)},pQ (kvs.map λp=>iK p.1) (kvs.map (·.2)) (iK t)=dz kvs t
 |[]=>rfl
 |p::kvs=>by
  have ih:=pP (t:=t) (kvs:=kvs);unfold pQ dz at *
  rw[QS,QS,Ss,Ro,Ro]
  by_cases h:p.1=t
  ·rw[decide_eq_true (congrArg iK h),decide_eq_true h];rfl
  ·rw[decide_eq_false (λz=>h (wC z)),decide_eq_false h];exact ih
def o_ (a b:D):Option D:=(zT a b).bind λz=>pQ z.1.1 z.1.2 (iK z.2)
theorem rZ {kvs:List (List Int×D)}{t:List Int}:o_ (dA kvs) (.tup (t.map D.int))=dz kvs t:=by
 unfold o_;rw[zR,Sg];exact pP
section
variable {P:Qd}{w:Qq}{W:Addr->Prop}{H:Hp}
theorem me {k:List Key}:∀{ks:List (List Key)} {ds:List D} {vs:List V},ks.length=vs.length->ah P w W H ds vs->(eW (ks.zip vs) k).isSome=(pQ ks ds k).isSome/\∀d,pQ ks ds k=some d->∃v,eW (ks.zip vs) k=some v/\aA P w W H d v
 |[],ds,vs,_,_=>by
  unfold eW pQ;rw[UM,UM];exact⟨rfl,λd h=>by cases h⟩
 |k'::ks,[],_,l,h=>by rw[show _=([]:List V) from h]at l;cases l
 |k'::ks,d::ds,_,l,⟨v,r,e,h1,h2⟩=>by
  subst e;obtain⟨i1,i2⟩:=me (k:=k) (ks:=ks) (Te l) h2;unfold eW pQ at *
  rw[Ss,Ss,Ro,Ro]
  by_cases hk:k'=k
  ·rw[decide_eq_true hk];exact⟨rfl,λd' e=>by cases e;exact⟨v,rfl,h1⟩⟩
  ·rw[decide_eq_false hk];exact⟨i1,i2⟩
end
section
variable {X:Cx}
theorem CD {W:Addr->Prop}{H:Hp}{a b:D}{x y:V}{ks:List (List Key)}{ds:List D}{t:List Int}(h:zT a b=some ((ks,ds),t))(r1:Rp X W H a x)(r2:Rp X W H b y):∃p vs,x=.ref p/\uA H p y (eW (ks.zip vs) (iK t))/\ks.length=vs.length/\ah X.prog X.w W H ds vs:=by
 obtain⟨rfl,rfl⟩:=zS h;obtain⟨p,vs,rfl,e1,l,n,rs⟩:=r1;obtain⟨q,us,rfl,e2,rt⟩:=r2;rw[L2.bW rt]at e2;exact⟨p,vs,rfl,uA.t e1 (by rw[oE];exact e2),l,rs⟩
theorem oC (hu:X.A.units+1<TY):A0 X (vz X o_ NF):=by
 intro value slice pins s σ H x y v u Q I rx ry h hs;obtain⟨W,d1,d2,d,hd,r1,r2,e,q⟩:=h;obtain⟨⟨⟨ks,ds⟩,t⟩,h1,h2⟩:=Rk.mp e;obtain⟨p,vs,rfl,g,l,rs⟩:=CD h1 r1 r2;obtain⟨w',hw,uE⟩:=(me l rs).2 d h2;rw[hw]at g;cases (show v=Value.ref p from rx)
 exact tail_any (oY I g) PySem.F.slot_dict_getitem.lookup (ui hu I g ry λu' s' I' r'=>⟨w',H,I',r',q w' H (az.refl _) uE λf=>aA.flat f uE⟩) hs
end
theorem qf {P:Qd}{w:Qq}{H:Hp}{kvs:List (List Int×D)}{a:Addr}{vs:List V}{A:List Addr}(h:H a=some (.dT ((kvs.map λp=>iK p.1).zip vs)))(o:aK P w H (kvs.map (·.2)) vs A):Own P w H (dA kvs) (.ref a) (a::A) :=
 ⟨a,vs,A,rfl,h,by rw[Qa,o.length,Qa],rfl,o⟩
theorem u4 {P:Qd}{w:Qq}{H:Hp}{kvs:List (List Int×D)}{vs:List V}{A:List Addr}{t:List Int}(o:aK P w H (kvs.map (·.2)) vs A)(h:dz kvs t=none):eW ((kvs.map λp=>iK p.1).zip vs) (iK t)=none:=by
 have:=(me (k:=iK t) (ks:=kvs.map λp=>iK p.1) (W:=λ_=>False) (by rw[Qa,o.length,Qa]) (o.rep λc _ z=>z)).1
 rw[pP,h]at this;exact Option.isNone_iff_eq_none.mp (by rw[<- Option.not_isSome,this];rfl)
section
variable {X:Cx}{C:Cfg}{k e:Expr}{φ φk:aY}{i:Nat}{x:Str}{pos pos' px:Pos}{p pk:Bool}
theorem vF:PQ X C true (.Dict [] [] pos) (λβ R=>R (dA []) .own β) :=
 ⟨λβ R R' k h=>k _ _ _ h,nO.pre λσ H Q h p hp=>by
  obtain⟨β,own,s,q⟩:=h;refine q _ _ own ((Out.refl s _).same (az.new hp)) ⟨[p],qf (kvs:=[]) (vs:=[]) au ⟨rfl,rfl⟩,by simp,λc hc=>?_⟩
  rw[Qj.mp hc];exact⟨hp,λz=>s.rW p z hp,QG λz=>s.ft p z hp⟩⟩
theorem rm (hu:X.A.units+1<TY)(he:∀U,PQ X (C.u U) p e φ)(hk:∀U,PQ X (C.u U) pk k φk)(hN:X.N[i]?=some x:=by rfl)(hv:m6 X.env.scope x:=by first|exact .inl rfl|exact .inr (.inl rfl)|exact .inr (.inr rfl))(hd:(x==("__debug__" : Str))=false:=by decide)(ee:(x==("__classdict__" : Str))=false:=by decide)
  (hs:RN e (some (.Subscript (.Name x px) k pos')) pos.line X.env=pure false:=by rfl) :
  PB X C (.Assign [.Subscript (.Name x px) k pos'] e pos) (λE β=>φ β λd kd β1=>xI kd d/\(∃kvs,β1[i]?=some (some (.own (dA kvs))))/\φk β1 λjd _ β2=>∃kvs t,jd=.tup (t.map D.int)/\β2[i]?=some (some (.own (dA kvs)))/\dz kvs t=none/\kvs.length<Qp/\E.nx (β2.set i (some (.own (dA (kvs++[(t,d)])))))):=by
 refine⟨λE E' β l q=>(he λ_=>False).mono _ _ _ (λd kd β1 h=>by obtain⟨f,h0,q⟩:=h;exact⟨f,h0,(hk λ_=>False).mono _ _ _ (λjd _ β2 h=>by obtain⟨kvs,t,h1,h2,h3,h4,q⟩:=h;exact⟨kvs,t,h1,h2,h3,h4,l.nx _ q⟩) q⟩) q,λpins s σ H De I ⟨Z,E,β,⟨own,sq,n⟩,q,ok⟩=>?_⟩
 refine qZ hu (cy (pos:=px) hN hv hd ee) (hk λa=>H a=none).pe (he λa=>H a=none).pe hs pins s σ H De I ?_;refine tQ.of (he λa=>H a=none) (sq.gc (C:=C.z) (U:=λa=>H a=none) λa z=>z) q λd kd β1 v H1 aE ⟨f,⟨NM,uK⟩,q⟩ o r=>?_;obtain⟨v0,i_,Nq,_⟩:=o.sq.ow i _ uK;refine⟨v0,i_,tQ.of (hk λa=>H a=none) o.sq q λjd kj β2 jv H2 bp ⟨kvs,t,e1,hb,hn,hl,q⟩ o2 r2=>?_⟩;subst e1;obtain⟨A,r1,rn,r3⟩:=(r.fl f).held (by intro z;cases z) o2.sn
 obtain⟨v1,wF,ow,h0⟩:=o2.sq.ow i _ hb;rw[i_]at wF;cases wF;obtain⟨a,vs,A',rfl,ha,l,eA,os⟩:=ow;obtain⟨b,us,rfl,G5,rt⟩:=r2.rep;rw[L2.bW rt]at G5;have AB:a∈bp i:=by rw[eA];simp
 have nd:=o2.sq.i8 i;rw[eA]at nd;have wK:putK ((kvs.map λp=>iK p.1).zip vs) (iK t) v=((kvs++[(t,d)]).map λp=>iK p.1).zip (vs++[v]):=by
  rw[nM v (u4 os hn),QD,List.zip_append l];rfl
 refine⟨a,_,rfl,.inr ⟨_,iK t,b,ha,rfl,by rw[oE];exact G5,by rw[Ua,<- l,Nat.min_self,Qa];exact hl,rfl⟩,?_⟩
 have kt:∀c xs,H2 c=some (.tup xs)->upd H2 a (.dT (putK ((kvs.map λp=>iK p.1).zip vs) (iK t) v)) c=some (.tup xs):=λc xs z=>by rw[aw (λz'=>by rw[z',ha]at z;cases z)];exact z
 have LY:∀c∈A',c≠a:=λc hc z=>(QB.mp nd).1 (z▸hc);have nA:∀c∈A,c≠a:=λc hc z=>(r3 c hc).2.1 ⟨i,by rw[z];exact AB⟩
 have r':Own X.prog X.w (upd H2 a (.dT (putK ((kvs.map λp=>iK p.1).zip vs) (iK t) v))) (dA (kvs++[(t,d)])) (.ref a) (a::(A'++A)):=by
  refine qf (vs:=vs++[v]) (by rw[au,wK]) ?_
  rw[QD];exact(os.keep kt λc hc oc z=>by rw[aw (LY c hc)];exact z).append (aK.one (r1.keep kt λc hc oc z=>by rw[aw (nA c hc)];exact z))
 have Nw:(a::(A'++A)).Nodup:=by
  refine QB.mpr ⟨λz=>?_,Q9.mpr ⟨(QB.mp nd).2,rn,λc hc c' kg z=>(r3 c' kg).2.1 ⟨i,by rw[eA,<- z];simp[hc]⟩⟩⟩
  rcases Qr.mp z with z|z
  ·exact LY a z rfl
  ·exact nA a z rfl
 have hA:∀c∈a::(A'++A),c∈bp i\/(C.H0 c=none/\¬ Wn bp c/\(λa=>H a=none) c):=λc hc=>by
  rcases Qc.mp hc with rfl|hc
  ·exact .inl AB
  ·rcases Qr.mp hc with hc|hc
   ·exact .inl (by rw[eA];simp[hc])
   ·exact .inr ⟨(r3 c hc).2.2,(r3 c hc).2.1,(r3 c hc).1⟩
 exact ok.nx _ _ _ ⟨_,o2.sq.BM (C:=C) (U:=λa=>H a=none) (U2:=λ_=>False) hb i_ AB r' Nw hA (λ_ z=>z.elim) (λ_ _ z=>z),fM (C:=C) ((n.trans o.sn).trans o2.sn) (λb z=>n.free z) ⟨i,AB⟩ ⟨_,ha,λxs z=>by cases z⟩ hA⟩ q
end
end L2.Q
namespace L2
open PySem PySem.Spec PySem.SeqAt PyProof.Rows
def Iy (lo:Int)(n:Nat):It:=⟨λi _=>i<n,λi H x H'=>H'=H/\x=.int (lo-i),λi _=>n<=i⟩
theorem nv {P:Qd}{w:Qq}{K:PySem.W.Frag}{tg:Expr}(it:Addr)(lo:Int)(n:Nat):Turn P w K tg (Iy lo n) [it] it (λi h=>UX h it (lo+(i:Nat)*(-1)) ((n:Int)-(i:Nat)) (-1)) where
 mem:=by simp
 obj:=λi h st b hb=>by
  have e:b=it:=by simpa using hb
  subst e;exact⟨_,st,λv z=>by
   have z':Data.fields _=US v:=z;cases z'⟩
 keep:=λi h h' st k=>k it (by simp) _ st
 item:=by
  intro X hP hw hK hc i pins s σ H E I hf st hg;subst hP hw hK;obtain⟨f0,f1,f2,f3,f4,f5⟩:=hf it (by simp)
  have W:=Walks.range (prog:=X.prog) (w:=X.w) (I.ok.hd hc) it lo (-1) n;refine W.item i s _ _ hg st λv h' tk hv aB kk=>?_;obtain⟨t,rfl⟩:=hv;have I1:Inv X pins σ H {s with heap:=h',toks:=tk}:=I.turned (λb o hb e=>kk b o (by simpa using hb) e) f0 f1 f3 f4 f5
  refine⟨_,rfl,wR (s:={s with heap:=h',toks:=tk}) (n:="range_iterator") aB rfl rfl (by decide) ⟨.int (lo-i),H,I1,⟨t,?_⟩,⟨rfl,rfl⟩,aB,λb hb=>(hf b hb).1⟩⟩
  rw[Int.mul_neg,Int.mul_one];rfl
 done:=by
  intro X hP hw hK hc i pins s σ H E I hf st hg;subst hP hw hK;obtain⟨f0,f1,f2,f3,f4,f5⟩:=hf it (by simp)
  exact wpAny_pyNext_range_end (I.ok.hd hc) st (by have:n<=i:=hg;lia) λh' eb=>⟨rfl,I.turned (t':=s.toks) (λb o hb e=>eb b o hb e) f0 f1 f3 f4 f5⟩
 self:=λ_ _ _ _ _ st h=>wpAny_pyIter_rangeiter st h
theorem dN (a b:Int):Sl a b (-1)=if b<a then a-b else 0:=by
 unfold Sl;rw[if_neg (by decide)]
 by_cases h:b<a
 ·rw[if_pos h,if_pos h,show -(-1:Int)=1 by decide,Int.ediv_one];lia
 ·rw[if_neg h,if_neg h]
theorem k_ {a b:Int}(ha:-(2 ^ 62)<=a)(AG:a<2 ^ 62)(hb:-(2 ^ 62)<=b)(iV:b<2 ^ 62):Builtin.Range.small a b (-1)=true:=by
 unfold Builtin.Range.small;rw[dN];simp only[Builtin.Range.rangeFitsLong,QU,U6,decide_eq_true_eq,beq_iff_eq,show ¬ ((-1:Int)>0) by decide,if_false]
 split <;> lia
section
variable {X:Cx}{tg:Expr}
theorem sS {pins:List (Addr×Obj)}{σ:St}{H:Hp}{s:Qb}{R:It->Hp->Prop}{E:P_->Qb->Prop}{lo hi:Int}{t u v:Tok}{tk:Nat}(I:Inv X pins σ H s)(h1:-(2 ^ 62)<=lo)(h2:lo<2 ^ 62)(h3:-(2 ^ 62)<=hi)(h4:hi<2 ^ 62)
  (q:R (Iy lo (lo-hi).toNat) H):QE (model X.prog X.w) X.A (UA (.ref s.heap.objs.size)) (DX X pins σ tg R) E {s with heap:=s.heap.push {cls:=.type "range",data:=.fields #[.int lo t,.int hi u,.int (-1) v]},toks:=tk}:=by
 refine wpAny_pyIter_range (IsRange.new ..) (k_ h1 h2 h3 h4) ?_;have I1:Inv X pins σ H {s with heap:=s.heap.push {cls:=.type "range",data:=.fields #[.int lo t,.int hi u,.int (-1) v]},toks:=tk}:=I.kept λb o e=>Qi _ e
 refine⟨(s.heap.push {cls:=.type "range",data:=.fields #[.int lo t,.int hi u,.int (-1) v]}).objs.size,[(s.heap.push {cls:=.type "range",data:=.fields #[.int lo t,.int hi u,.int (-1) v]}).objs.size],_,_,H,rfl,
  I1.kept (t':=tk) λb o e=>Qi _ e,nv _ lo (lo-hi).toNat,?_,λb hb=>?_,q⟩
 ·have e1:lo+((0:Nat):Int)*(-1)=lo:=by simp
  have e2:(((lo-hi).toNat:Nat):Int)-((0:Nat):Int)=Sl lo hi (-1):=by rw[dN];split <;> lia
  show UX _ _ (lo+((0:Nat):Int)*(-1)) ((((lo-hi).toNat:Nat):Int)-((0:Nat):Int)) (-1);rw[e1,e2];exact QC _ rfl
 ·have e:b=(s.heap.push {cls:=.type "range",data:=.fields #[.int lo t,.int hi u,.int (-1) v]}).objs.size:=by simpa using hb
  subst e;exact I1.qu (Qf _) (I1.bz.fresh (Qf _))
def FW (ta:TA):TI:=λσ H R=>ta σ H λvs H1=>∃i j:Int,vs=[.int i,.int j,.int (-1)]/\(-(2 ^ 62)<=i/\i<2 ^ 62/\-(2 ^ 62)<=j/\j<2 ^ 62)/\R (Iy i (i-j).toNat) H1
theorem sY {a b c:Expr} {ta:TA} {p pos:Pos} (hg:Gl X "range") (hm:X.mg "range" = none) (ha:PA X [a,b,c] ta) (hs:Qt [a,b,c] X.env=[(false,eval a X.env),(false,eval b X.env),(false,eval c X.env)]:=by rfl) (h9:Qt [b,c] X.env=[(false,eval b X.env),(false,eval c X.env)]:=by rfl) :
  PI X tg (.Call (.Name "range" p) [a,b,c] [] pos) (FW ta):=by
 intro pins s σ H R I h;refine Call_ (dS I hg hm U_ (Ri (bQ (ha pos pins s σ H _ I h) λus s1 ⟨vs,H1,I1,r1,q1⟩=>?_) (by rw[hs,h9]) (by rw[h9];rfl)))
 obtain⟨i,j,e,⟨q1,q2,q3,q4⟩,q⟩:=q1;subst e;cases r1 with
 |cons r rr =>
  cases rr with
  |cons r' rr =>
   cases rr with
   |cons Ee rr =>
    cases rr;obtain⟨t,rfl⟩:=r;obtain⟨t',rfl⟩:=r';obtain⟨Ph,rfl⟩:=Ee;exact call_range_3 (by decide) (sS I1 q1 q2 q3 q4 q) (.inl (TN (by decide +kernel)))
def l_ (hi:Int)(n:Nat):List D:=(QQ n).map λ(k:Nat)=>D.int (hi-(k:Int))
theorem jw {hi:Int}{n i:Nat}{d:D}(h:(l_ hi n)[i]?=some d):i<n/\d=.int (hi-i):=by
 unfold l_ at h;rw[Ql]at h
 by_cases hi:i<n
 ·rw[Se hi]at h;cases h;exact⟨hi,rfl⟩
 ·rw[Rc (by simpa using hi)]at h;cases h
theorem ju {hi:Int}{n:Nat}:(l_ hi n).length=n:=by unfold l_;simp
theorem ql {W:Addr->Prop}{H:Hp}{lo:Int}{n:Nat}:sF X W (Iy lo n) (l_ lo n) H:=λ_ _ i H' k=>by
 constructor
 ·intro d hd;obtain⟨hi,rfl⟩:=jw hd;refine⟨hi,λx H1 y=>?_⟩;obtain⟨rfl,rfl⟩:=y;exact⟨az.refl _,rfl⟩
 ·intro hl;rw[ju]at hl;exact hl
end
end L2
namespace L2.Q
open PySem PySem.Spec PySem.SeqAt PyProof.Rows
section
variable {X:Cx}{C:Cfg}{tg a b c:Expr}{φs:bP}{p:Bool}{pp pos:Pos}
def zr (φs:bP):b5:=λβ R=>φs β λds _ β'=>∃i j:Int,ds=[.int i,.int j,.int (-1)]/\(-(2 ^ 62)<=i/\i<2 ^ 62/\-(2 ^ 62)<=j/\j<2 ^ 62)/\R (l_ i (i-j).toNat) .de β'
theorem Hu {W:Addr->Prop}{H:Hp}{a b c:D}{xs:List V}(h:gO X W H [a,b,c] xs):∃x y z,xs=[x,y,z]/\Rp X W H a x/\Rp X W H b y/\Rp X W H c z:=by
 obtain⟨x,r,rfl,hx,y,r',rfl,hy,z,Ee,rfl,hz,hr⟩:=h;cases hr;exact⟨x,y,z,rfl,hx,hy,hz⟩
theorem jz (hm:X.mg "range" = none) (ha:m8 X C p [a,b,c] φs) (hg:Gl X "range" := by rfl) (hs:Qt [a,b,c] X.env=[(false,eval a X.env),(false,eval b X.env),(false,eval c X.env)]:=by rfl) (h9:Qt [b,c] X.env=[(false,eval b X.env),(false,eval c X.env)]:=by rfl) :
  qK X C p tg (.Call (.Name "range" pp) [a,b,c] [] pos) (zr φs) :=
 ⟨λβ R R' k q=>ha.mono β _ _ (λd kd β' h=>by obtain⟨i,j,e,h1,q⟩:=h;exact⟨i,j,e,h1,k _ _ _ q⟩) q,(sY hg hm ha.pa hs h9).pre λσ H R h=>by
  obtain⟨β,own,s,q⟩:=h;refine nz.of ha s q λds ks β' vs H1 aE h o1 r1=>?_;obtain⟨i,j,e,h1,q1⟩:=h;subst e;obtain⟨x,y,z,rfl,hx,hy,hz⟩:=Hu r1.fD;cases hx;cases hy;cases hz;exact⟨i,j,rfl,h1,q1 _ _ aE o1 ql⟩⟩
end
structure Ll (X:Cx)(C:Cfg)(tg iter:Expr)(ι:b5):Prop where
 mono:∀β R R',(∀d k β,R d k β->R' d k β)->ι β R->ι β R'
 pi:PI X tg iter λσ H R=>∃β own,SQ X C σ H β own/\ι β λds k β'=>∀J H',az H H'->SQ X C σ H' β' own->sF X (eg C (Wn own) k) J ds H'->R J H'
section
variable {X:Cx}{C:Cfg}{tg a b:Expr}{φs:bP}{pp pos:Pos}{i:Nat}{x:Str}
theorem qc (hm:X.mg "range" = none) (ha:m8 X C true [a,b] φs) (hg:Gl X "range" := by rfl) (hs:Qt [a,b] X.env=[(false,eval a X.env),(false,eval b X.env)]:=by rfl) (h9:Qt [b] X.env=[(false,eval b X.env)]:=by rfl) :
  Ll X C tg (.Call (.Name "range" pp) [a,b] [] pos) (rJ φs) :=
 ⟨λβ R R' k q=>ha.mono β _ _ (λd kd β' h=>by obtain⟨i,j,e,h1,q⟩:=h;exact⟨i,j,e,h1,k _ _ _ q⟩) q,(ll hg hm ha.pa hs h9).pre λσ H R h=>by
  obtain⟨β,own,s,q⟩:=h;refine nz.of ha s q λds ks β' vs H1 aE h o1 r1=>?_;obtain⟨i,j,e,h1,q1⟩:=h;subst e;obtain⟨s1,rfl⟩:=o1.pu rfl;obtain⟨x,y,rfl,hx,hy⟩:=j7 r1.fD;cases hx;cases hy;exact⟨i,j,rfl,h1,q1 _ _ s1 o1.sq hX⟩⟩
def CK (i:Nat):b5:=λβ R=>∃y ds,β[i]?=some (some (.val y (.lst ds)))/\R ds (yk y) β
theorem sW (hN:X.N[i]?=some x:=by rfl)(hv:m6 X.env.scope x:=by first|exact .inl rfl|exact .inr (.inl rfl)|exact .inr (.inr rfl))(hd:(x==("__debug__" : Str))=false:=by decide)(ee:(x==("__classdict__" : Str))=false:=by decide):Ll X C tg (.Name x pos) (CK i) :=
 ⟨λβ R R' k h=>by obtain⟨y,ds,e,q⟩:=h;exact⟨y,ds,e,k _ _ _ q⟩,(mw (cy (pos:=pos) hN hv hd ee)).pre λσ H R h=>by
  obtain⟨β,own,s,y,ds,e,q⟩:=h;obtain⟨v,hv,p,vs,rfl,h1,n1,rs⟩:=s.val i y _ e;exact⟨_,hv,p,rfl,⟨vs,c6.of h1⟩,q _ _ (az.refl _) s (jL h1 n1 rs)⟩⟩
end
structure SC (X:Cx)(C:Cfg)(W0:Addr->Prop)(T:List Nat)(σ0:St)(H1:Hp)(a:Addr)(Hb:Hp)(Wb:Addr->Prop)(Ac:Hp->Prop)(β:ba)(σ':St)(H':Hp)(own:Nat->List Addr):Prop where
 sq:SQ X (C.u λc=>c=a) σ' H' β own
 sn:Sn (H1,W0) H' (Wn own)
 le:∀c,Wn own c->Wb c
 ac:Ac H'
 pu:az H1 H'
 bs:∀b ob,b≠a->Hb b=some ob->H' b=some ob
 st:∀j,j∉T->σ'[j]?=σ0[j]?
abbrev pE {α:Type}(X:Cx)(C:Cfg)(W0:Addr->Prop)(T:List Nat)(σ0:St)(H1:Hp)(a:Addr)(Hb:Hp)(Wb:Addr->Prop)(Ac:α->Hp->Prop)(β:ba)(o:α)(σ':St)(H':Hp):Prop:=∃own,SC X C W0 T σ0 H1 a Hb Wb (Ac o) β σ' H' own
structure uB {α:Type}(a:Addr)(Ac:α->Hp->Prop):Prop where
 same:∀o H H',az H H'->Ac o H->Ac o H'
 Ft:∀o H xs,Ac o H->H a≠some (.tup xs)
abbrev Bm (X:Cx)(C:Cfg)(a:Addr)(T:List Nat)(γ:cZ):TG:=λv σ H Q=>∃own β d k,SQ X (C.u λc=>c=a) σ H β own/\Rp X (eg (C.u λc=>c=a) (Wn own) k) H d v/\γ d k β λβ'=>∀σ' aN,SQ X (C.u λc=>c=a) σ' H β' aN->(∀a,Wn aN a->Wn own a)->(∀j,j∉T->σ'[j]?=σ[j]?)->Q σ' H
abbrev IG (X:Cx)(C:Cfg)(a:Addr)(φ:aY):ik:=λN σ H=>tQ X (C.u λc=>c=a) true φ σ H λv H1=>∃xs,H1 a=some (.lst xs)/\xs.length<Qp/\N σ (upd H1 a (.lst (xs++[v])))
section
variable {α:Type}{X:Cx}{C:Cfg}{W0:Addr->Prop}{T Tg:List Nat}{σ0:St}{H1:Hp}{a:Addr}{Hb:Hp}{Wb:Addr->Prop}{γ:cZ}{τ:a_}{φ:aY}{Ac:α->Hp->Prop}
theorem SC.next {o:α}(hA:uB a Ac){β β':ba}{σ σ':St}{H H':Hp}{own aN:Nat->List Addr}(s:SC X C W0 T σ0 H1 a Hb Wb (Ac o) β σ H own)(sq:SQ X (C.u λc=>c=a) σ' H' β' aN)(w:∀c,Wn aN c->Wn own c)(sm:az H H')(t:∀j,j∉T->σ'[j]?=σ[j]?):
  SC X C W0 T σ0 H1 a Hb Wb (Ac o) β' σ' H' aN :=
 ⟨sq,fu (s.sn.same sm) w,λc z=>s.le c (w c z),hA.same o _ _ sm s.ac,s.pu.trans sm,λb ob n e=>sm _ _ (s.bs b ob n e),λj hj=>(t j hj).trans (s.st j hj)⟩
theorem SC.put {A:Hp->Prop}{A':Hp->Prop}(h0:C.H0 a=none)(ha:H1 a=none){β:ba}{σ:St}{H:Hp}{own:Nat->List Addr}{oa ob:HO}(s:SC X C W0 T σ0 H1 a Hb Wb A β σ H own)(e:H a=some oa)(nt:∀xs,oa≠.tup xs)(q:A' (upd H a ob)):
  SC X C W0 T σ0 H1 a Hb Wb A' β σ (upd H a ob) own:=by
 refine⟨s.sq.BE e nt h0,⟨s.sn.w,s.sn.k.trans ((hV e nt).mono λb z=>.inr (by rw[z];exact ha)),λb z e=>?_⟩,s.le,q,λb o e=>?_,λb o n e=>?_,s.st⟩
 ·by_cases hb:b=a
  ·rw[hb,au]at e;cases e
  ·rw[aw hb]at e;exact s.sn.d b z e
 ·rw[aw (λz'=>by rw[z',ha]at e;cases e)]
  exact s.pu b o e
 ·rw[aw n];exact s.bs b o n e
def IC (P:Qd)(w:Qq)(H1:Hp)(a:Addr)(o:List D)(H:Hp):Prop:=∃vs A,H a=some (.lst vs)/\aK P w H o vs A/\A.Nodup/\∀c∈A,H1 c=none/\c≠a
theorem m5 {P:Qd}{w:Qq}:uB a (IC P w H1 a):=⟨λo H H' s h=>by
  obtain⟨vs,A,h1,h2,h3,h4⟩:=h;exact⟨vs,A,s _ _ h1,h2.keep (λb xs e=>s _ _ e) λc _ oc e=>s _ _ e,h3,h4⟩,λo H xs h z=>by
  obtain⟨vs,A,h1,_⟩:=h;rw[h1]at z;cases z⟩
def xa (φ:aY)(o:List D)(β:ba)(N:ba->List D->Prop):Prop:=φ β λx kx β3=>xI kx x/\o.length<Qp/\N β3 (o++[x])
theorem qV (h0:C.H0 a=none)(ha:H1 a=none)(φm:∀β R R',(∀d k β,R d k β->R' d k β)->φ β R->φ β R'){β:ba}{o:List D}{σ:St}{H:Hp}{N:ba->List D->Prop}(s:pE X C W0 T σ0 H1 a Hb Wb (IC X.prog X.w H1 a) β o σ H)(q:xa φ o β N):
  IG X C a φ (λσ' H'=>∃β' o',pE X C W0 T σ0 H1 a Hb Wb (IC X.prog X.w H1 a) β' o' σ' H'/\N β' o') σ H:=by
 obtain⟨own,s⟩:=s;refine⟨β,own,s.sq,φm _ _ _ (λxd kx β6 ⟨f,hz,q⟩ v H6 yK o6 r6=>?_) q⟩;obtain⟨sm,rfl⟩:=o6.pu rfl;have s6:=s.next m5 (o6.sq) (λ_ z=>z) sm (λ_ _=>rfl)
 obtain⟨B',r1,r2,r3⟩:=r6.fl f;obtain⟨vs,A,at',os,nd,nw⟩:=s.ac;have oH:H6 a=some (.lst vs):=sm _ _ at';have Fw:∀c∈B',c≠a:=λc hc z=>by rw[z]at hc;exact absurd (at'.symm.trans (r3 a hc).1) (λz=>(nomatch z))
 have kt:∀b xs,H6 b=some (.tup xs)->upd H6 a (.lst (vs++[v])) b=some (.tup xs):=λb xs z=>by rw[aw (λz'=>by rw[z',oH]at z;cases z)];exact z
 refine⟨vs,oH,by rw[os.length];exact hz,β6,o++[xd],⟨yK,s6.put h0 ha oH (λxs z=>by cases z) ⟨vs++[v],A++B',au,?_,?_,λc hc=>?_⟩⟩,q⟩
 ·exact(os.keep (λb xs e=>kt b xs (sm _ _ e)) λc hc oc e=>by rw[aw (nw c hc).2];exact sm _ _ e).append (aK.one (r1.keep kt λc hc oc e=>by rw[aw (Fw c hc)];exact e))
 ·refine Q9.mpr ⟨nd,r2,λx hx y hy e=>?_⟩;subst e;exact(os.ki x hx).1 (r3 x hy).1
 ·rcases Qr.mp hc with hc|hc
  ·exact nw c hc
  ·exact⟨s.sn.free (r3 c hc).1,Fw c hc⟩
def gB {α:Type}(γ:cZ)(τ:a_)(Af:α->ba->(ba->α->Prop)->Prop)(ds:List D)(k:Kd)(β0:ba)(o0:α)(F:ba->α->Prop):Prop:=∃I:Nat->ba->α->Prop,I 0 β0 o0 /\
 (∀i d β o,ds[i]?=some d->I i β o->γ d (sk k d) β λβ1=>τ β1 λt β2=>if t=true then Af o β2 (I (i+1)) else I (i+1) β2 o)/\∀β o,I ds.length β o->F β o
theorem gB.mono {Af:α->ba->(ba->α->Prop)->Prop}{ds:List D}{k:Kd}{β0:ba}{o0:α}{F F':ba->α->Prop}(h:∀β o,F β o->F' β o)(q:gB γ τ Af ds k β0 o0 F):gB γ τ Af ds k β0 o0 F':=by
 obtain⟨I,h0,h1,h2⟩:=q;exact⟨I,h0,h1,λβ o z=>h _ _ (h2 β o z)⟩
theorem qU (hA:uB a Ac)(hT:∀j∈Tg,j∈T)(γm:∀d k β R R',(∀r,R r->R' r)->γ d k β R->γ d k β R')(τm:∀β R R',(∀d β,R d β->R' d β)->τ β R->τ β R'){J:It}{ds:List D}{k:Kd}{Af:α->ba->(ba->α->Prop)->Prop}{ta:ik}{F:ba->α->Prop}{End:St->Hp->Prop}{β0:ba}{o0:α}{σ1:St}{Hs:Hp}
  (it:∀i β o σ' H',pE X C W0 T σ0 H1 a Hb Wb Ac β o σ' H'->(∀d,ds[i]?=some d->J.go i H'/\∀x H3,J.EF i H' x H3->az H' H3/\∀own,(∀c,Wn own c->Wb c)->aA X.prog X.w (eg (C.u λc=>c=a) (Wn own) k) H3 d x)/\(ds.length<=i->J.stop i H'))
  (F5:∀β o σ' H' N,pE X C W0 T σ0 H1 a Hb Wb Ac β o σ' H'->Af o β N->ta (λuR HF=>∃β' o',pE X C W0 T σ0 H1 a Hb Wb Ac β' o' uR HF/\N β' o') σ' H')
  (s0:pE X C W0 T σ0 H1 a Hb Wb Ac β0 o0 σ1 Hs) (q:gB γ τ Af ds k β0 o0 F) (fin:∀β o σ' H',pE X C W0 T σ0 H1 a Hb Wb Ac β o σ' H'->F β o->End σ' H') :
  dX J (Bm X C a Tg γ) (iO X (C.u λc=>c=a) true τ) ta End σ1 Hs:=by
 obtain⟨I,i0,i1,i2⟩:=q;refine⟨λi m σ' H'=>i<=ds.length/\m=ds.length-i/\∃β o,pE X C W0 T σ0 H1 a Hb Wb Ac β o σ' H'/\I i β o,⟨_,Qv _,rfl,β0,o0,s0,i0⟩,?_⟩;rintro i m σ2 H2 ⟨hi,rfl,β,o,sE,hl⟩;obtain⟨cj,mP⟩:=it i β o σ2 H2 sE
 by_cases eX:i<ds.length
 ·right
  have hd:ds[i]?=some ds[i]:=Qm eX;obtain⟨go,yl⟩:=cj _ hd;refine⟨go,λσ' H'=>∃β' o',pE X C W0 T σ0 H1 a Hb Wb Ac β' o' σ' H'/\I (i+1) β' o',λσ' H' h=>⟨_,by omega,eX,rfl,h⟩,λx H3 y=>?_⟩
  obtain⟨s3,r3⟩:=yl x H3 y;obtain⟨own,s⟩:=sE;refine⟨own,β,_,_,s.sq.same s3,l6 (r3 own s.le),γm _ _ _ _ _ (λβ4 q σ4 nS s4 w4 t4=>?_) (i1 i _ β o hd hl)⟩;have Nd:=s.next hA s4 w4 s3 λj hj=>t4 j λz=>hj (hT j z)
  refine⟨β4,nS,s4,τm _ _ _ (λt β5 q H5 kA o5=>?_) q⟩;obtain⟨IY,rfl⟩:=o5.pu rfl;have LG:=Nd.next hA o5.sq (λ_ z=>z) IY λ_ _=>rfl
  cases t with
  |false=>exact⟨β5,o,⟨_,LG⟩,q⟩
  |true=>exact F5 β5 o σ4 H5 _ ⟨_,LG⟩ q
 ·left
  have e:i=ds.length:=by omega
  subst e;exact⟨mP (Qf _),fin β o σ2 H2 sE (i2 β o hl)⟩
def Ar {α:Type}(ι:b5)(γ:cZ)(τ:a_)(Af:α->ba->(ba->α->Prop)->Prop)(o:α)(β:ba)(N:ba->α->Prop):Prop:=ι β λds k β1=>gB γ τ Af ds k β1 o N
theorem yo (hA:uB a Ac){ι:b5}(hT:∀j∈Tg,j∈T)(γm:∀d k β R R',(∀r,R r->R' r)->γ d k β R->γ d k β R')(τm:∀β R R',(∀d β,R d β->R' d β)->τ β R->τ β R'){Af:α->ba->(ba->α->Prop)->Prop}{ta:ik}
  (F5:∀Hb Wb β o σ' H' N,pE X C W0 T σ0 H1 a Hb Wb Ac β o σ' H'->Af o β N->ta (λuR HF=>∃β' o',pE X C W0 T σ0 H1 a Hb Wb Ac β' o' uR HF/\N β' o') σ' H')
  (ιm:∀β R R',(∀d k β,R d k β->R' d k β)->ι β R->ι β R') {β:ba} {o:α} {σ:St} {H:Hp} {N:ba->α->Prop} (s:pE X C W0 T σ0 H1 a Hb Wb Ac β o σ H) (q:Ar ι γ τ Af o β N) :
  ∃β own,SQ X (C.u λc=>c=a) σ H β own/\ι β λds k β'=>∀J H',az H H'->SQ X (C.u λc=>c=a) σ H' β' own->sF X (eg (C.u λc=>c=a) (Wn own) k) J ds H' ->
   dX J (Bm X C a Tg γ) (iO X (C.u λc=>c=a) true τ) ta (λσ' H'=>∃β' o',pE X C W0 T σ0 H1 a Hb Wb Ac β' o' σ' H'/\N β' o') σ H':=by
 obtain⟨own,s⟩:=s;refine⟨β,own,s.sq,ιm _ _ _ (λds k β1 q J H' sm sq NR=>?_) q⟩;have s1:=s.next hA sq (λ_ z=>z) sm λ_ _=>rfl
 have hu:eg (C.u λc=>c=a) (Wn own) k a:=.inr rfl;refine qU (Hb:=H') (Wb:=Wn own) hA hT γm τm (λi βx ox σx Hx sx=>?_) (λβx ox σx Hx Nx sx qx=>F5 _ _ _ _ _ _ _ sx qx) ⟨own,⟨s1.sq,s1.sn,λ_ z=>z,s1.ac,s1.pu,λ_ _ _ e=>e,s1.st⟩⟩ q λβx ox σx Hx sx hx=>?_
 ·obtain⟨yJ,sx⟩:=sx;have kp:Kp (λb=>eg (C.u λc=>c=a) (Wn own) k b\/H' b=none) H' Hx:=⟨λb ob e n=>sx.bs b ob (λz=>n (.inl (by rw[z];exact hu))) e,λb xs e=>sx.bs b _ (λz=>hA.Ft _ _ _ s1.ac (by rw[<- z];exact e)) e⟩
  obtain⟨g1,g2⟩:=NR (λb=>eg (C.u λc=>c=a) (Wn own) k b\/H' b=none) (λb z=>z) i Hx kp;refine⟨λd hd=>?_,g2⟩;obtain⟨go,yl⟩:=g1 d hd;refine⟨go,λx H3 y=>?_⟩;obtain⟨s3,r3⟩:=yl x H3 y;exact⟨s3,λaN JG=>aA.aX (λb z=>.inl (d_ JG k b z)) r3⟩
 ·obtain⟨yJ,sx⟩:=sx;exact⟨βx,ox,⟨yJ,⟨sx.sq,sx.sn,λc z=>s.le c (sx.le c z),sx.ac,sx.pu,λb ob n e=>sx.bs b ob n (s1.bs b ob n e),sx.st⟩⟩,hx⟩
theorem jq {lk:List (Option Nat)}{σ:St}{β:ba}{own:Nat->List Addr}{oa:HO}(hA:uB a Ac){Af:α->ba->(ba->α->Prop)->Prop}{ta:ik}{J:It}{ds:List D}{k:Kd}{o0:α}{K:α->Prop}{End:Hp->Prop}
  (γm:∀d k β R R',(∀r,R r->R' r)->γ d k β R->γ d k β R') (τm:∀β R R',(∀d β,R d β->R' d β)->τ β R->τ β R') (OB:∀j∈Tg,j∈T)
  (inj:∀(i i' j:Nat),lk[i]?=some (some j)->lk[i']?=some (some j)->i=i') (hT:∀i∈T,∀j,lk[i]?≠some (some j))
  (s1:SQ X C σ H1 β own) (ha:H1 a=none) (hk:hold k false) (it:sF X (av C (Wn own) k) J ds H1) (a0:Ac o0 (upd H1 a oa)) (ent:SQ X (C.u λc=>c=a) (cN lk σ) (upd H1 a oa) (cB lk β) (br lk β own))
  (F5:∀Hb Wb β' o σ' H' N,C.H0 a=none->pE X C (Wn (br lk β own)) T (cN lk σ) H1 a Hb Wb Ac β' o σ' H'->Af o β' N->ta (λuR HF=>∃β' o',pE X C (Wn (br lk β own)) T (cN lk σ) H1 a Hb Wb Ac β' o' uR HF/\N β' o') σ' H')
  (q:gB γ τ Af ds k (cB lk β) o0 λβf o=>dG (cB lk β) βf/\K o)
  (fin:∀o H',K o->Out X C σ H1 own true β H' own->Ac o H'->End H') :
  dX J (Bm X C a Tg γ) (iO X (C.u λc=>c=a) true τ) ta (λ_ H'=>End H') (cN lk σ) (upd H1 a oa):=by
 have h0:C.H0 a=none:=QG λz=>s1.ft a z ha;have sm:az H1 (upd H1 a oa):=az.new ha;refine qU (W0:=Wn (br lk β own)) (T:=T) (σ0:=cN lk σ) (H1:=H1) (Hb:=H1) (Wb:=Wn (br lk β own)) hA OB γm τm (λi βx ox σx Hx sx=>?_) (λβx ox σx Hx Nx sx qx=>F5 _ _ _ _ _ _ _ h0 sx qx)
  ⟨br lk β own,⟨ent,⟨λb z=>.inl z,sm.kp,λb z e=>z (sm.free e)⟩,λ_ z=>z,a0,sm,λb ob n e=>sm _ _ e,λ_ _=>rfl⟩⟩ q λβx ox σx Hx sx hx=>?_
 ·obtain⟨yJ,sx⟩:=sx;have kI:Kp (λb=>av C (Wn own) k b\/H1 b=none) H1 Hx:=sx.pu.kp;obtain⟨g1,g2⟩:=it (λb=>av C (Wn own) k b\/H1 b=none) (λb z=>z) i Hx kI;refine⟨λd hd=>?_,g2⟩;obtain⟨go,yl⟩:=g1 d hd;refine⟨go,λx H3 y=>?_⟩;obtain⟨s3,r3⟩:=yl x H3 y;exact⟨s3,λaN JG=>aA.aX (λc z=>z.elim (λz=>.inl (gM (λc z=>bh c (JG c z)) k c z)) λz=>.inr (by rw[z];exact ha)) r3⟩
 ·obtain⟨yJ,sx⟩:=sx;obtain⟨hh,hK⟩:=hx;have lv:SQ X C σ Hx β own:=s1.leave sx.sq sx.sn sx.le hh λj ok i' e1 e2=>sx.st i' λz=>hT i' z j e2;exact fin ox Hx hK ⟨lv,⟨λb z=>.inl z,sx.sn.k.mono λb z=>z.imp (bh b) id,sx.sn.d⟩,λz=>⟨sx.pu,rfl⟩,λ_ z=>z⟩ sx.ac
end
theorem xB {X:Cx}{C:Cfg}{σ:St}{H1 H':Hp}{β:ba}{own:Nat->List Addr}{a:Addr}{o:List D}(s1:SQ X C σ H1 β own)(ha:H1 a=none)(h:IC X.prog X.w H1 a o H'):KV X.prog X.w C (H1,Wn own) own H' .own (.lst o) (.ref a):=by
 obtain⟨vs,A,at',os,nd,nw⟩:=h;refine⟨a::A,⟨a,vs,A,rfl,at',rfl,os⟩,QB.mpr ⟨λz=>(nw a z).2 rfl,nd⟩,λc hc=>?_⟩;have gQ:H1 c=none:=by
  rcases Qc.mp hc with rfl|hc
  ·exact ha
  ·exact(nw c hc).1
 exact⟨gQ,λh=>by obtain⟨j,hj⟩:=h;exact(s1.dm j c hj).1 gQ,QG λz=>s1.ft c z gQ⟩
def BL (lk:List (Option Nat))(ι:b5)(γ:cZ)(τ:a_)(ι2:b5)(γ2:cZ)(τ2:a_)(φ:aY):aY:=λβ R=>ι β λds k β1=>hold k false/\gB γ τ (Ar ι2 γ2 τ2 (xa φ)) ds k (cB lk β1) [] λβf o=>dG (cB lk β1) βf/\R (.lst o) .own β1
section
variable {X:Cx}{C:Cfg}{lk:List (Option Nat)}{γ γ2:cZ}{τ τ2:a_}{φ:aY}{T T2:List Nat}
variable {scope:Sd}{tg cj va mP elt:Expr}{ifs kG:List Expr}{ι ι2:b5}{pi:Bool}{pos:Pos}{i:Nat}
theorem L5 (N':List Str)(lk:List (Option Nat))(L:fO X.env.scope.names X.N scope N' lk=true)(m_:N'.Nodup)(hc:X.calm=true)(hi:qK X C pi tg cj ι)
  (kJ:∀a cl c s H ex,sC (aF X scope N' cl c s H ex) (C.u λc=>c=a) tg T γ) (iF:∀a cl c s H ex,m7 (aF X scope N' cl c s H ex) (C.u λc=>c=a) true ifs τ)
  (Mu:∀a cl c s H ex,Ll (aF X scope N' cl c s H ex) (C.u λc=>c=a) va mP ι2)
  (F4:∀a cl c s H ex,sC (aF X scope N' cl c s H ex) (C.u λc=>c=a) va T2 γ2) (F3:∀a cl c s H ex,m7 (aF X scope N' cl c s H ex) (C.u λc=>c=a) true kG τ2)
  (kL:∀a cl c s H ex,PQ (aF X scope N' cl c s H ex) (C.u λc=>c=a) true elt φ) (hT:(T++T2).all (λi=>match lk[i]? with|some (some _)=>false|_=>true)=true:=by rfl)
  (hs:∀x,QX cj X.env x=pure x:=by intro _;rfl) (h9:∀cl c s H ex x,QX mP (aF X scope N' cl c s H ex).env x=pure x:=by intro _ _ _ _ _ _;rfl):PQ X C pi (.ListComp elt [⟨tg,cj,ifs,0⟩,⟨va,mP,kG,0⟩] scope pos) (BL lk ι γ τ ι2 γ2 τ2 φ):=by
 have L:=Links.of L;have zD:∀i∈T++T2,∀j,lk[i]?≠some (some j):=λi hi j e=>by
  have:=Sj.mp hT i hi;rw[e]at this;cases this
 have ax:Addr:=0;have P6:List (Str×Addr):=[];have γm:=(kJ 0 [] 0 X.s₀ X.H₀ []).mono;have τm:=(iF 0 [] 0 X.s₀ X.H₀ []).mono;have IE:=(F4 0 [] 0 X.s₀ X.H₀ []).mono;have ID:=(F3 0 [] 0 X.s₀ X.H₀ []).mono;have φm:=(kL 0 [] 0 X.s₀ X.H₀ []).mono;have ιm:=(Mu 0 [] 0 X.s₀ X.H₀ []).mono;refine⟨λβ R R' k h=>hi.mono β _ _ (λds kd β1 q=>⟨q.1,q.2.mono λ_ _ z=>⟨z.1,k _ _ _ z.2⟩⟩) h,?_⟩;refine(jB (g:=⟨tg,cj,ifs,0⟩) (gs:=[⟨va,mP,kG,0⟩]) (tg:=λa=>Bm X C a T γ) (tt:=λa=>iO X (C.u λc=>c=a) true τ)
  (ta:=λa N σ H=>∃β own,SQ X (C.u λc=>c=a) σ H β own/\ι2 β λds k β'=>∀J H',az H H'->SQ X (C.u λc=>c=a) σ H' β' own->sF X (eg (C.u λc=>c=a) (Wn own) k) J ds H' ->
   dX J (Bm X C a T2 γ2) (iO X (C.u λc=>c=a) true τ2) (IG X C a φ) N σ H')
  L hc gy rfl rfl (λ_ _=>DH) hi.pi (λa cl c s H ex=>⟨(kJ a cl c s H ex).pg,(iF a cl c s H ex).pt,yI (X:=aF X scope N' cl c s H ex) (g':=⟨va,mP,kG,0⟩) rfl hc DG (Mu a cl c s H ex).pi (F4 a cl c s H ex).pg (F3 a cl c s H ex).pt (gv (X:=aF X scope N' cl c s H ex) rfl (kL a cl c s H ex).pe) (h9 cl c s H ex)⟩) hs).pre λσ H Q h=>?_
 obtain⟨β,own,s,h⟩:=h;refine⟨β,own,s,hi.mono β _ _ (λds k β1 h J H1 aE o1 it a ha=>?_) h⟩;obtain⟨hk,q⟩:=h;refine jq (T:=T++T2) (m5 (P:=X.prog) (w:=X.w) (H1:=H1)) γm τm (λj hj=>RL _ hj) (dh L m_) zD o1.sq ha hk it ⟨[],[],au,(show aK _ _ _ [] [] [] from ⟨rfl,rfl⟩),Q5,λc hc=>(nomatch hc)⟩ (o1.sq.enter ha (dh L m_))
  (λHb Wb βx ox σx Hx Nx h0 sx qx=>yo m5 (λj hj=>QV _ hj) IE ID (λHb Wb βy oy σy Hy Ny sy qy=>qV h0 ha φm sy qy) ιm sx qx) q λo H' q o2 r=>?_
 refine q _ _ aE ⟨o2.sq,o1.sn.trans o2.sn,λz=>⟨(o1.pu z).1.trans (o2.pu rfl).1,(o1.pu z).2⟩,o1.le⟩ ((xB o1.sq ha r).later o1.sn)
end
end L2.Q
namespace L2
open PySem PySem.Spec PySem.SeqAt PyProof.Rows
section
variable {X:Cx}
theorem tF:fW X newDict (.dT []) :=
 ⟨λpins s σ H Q E I h=>R4 (h _ _ (Qf _) I.fresh (λb o e=>Qi _ e) (I.laid (t':=s.toks) (λ_ _ q=>Qi _ q) (Qf _) (oX _ I.big)))⟩
theorem vL {k v:Expr}{tk tv:TE}{a:Addr}(hx:X.xe=λ_ _=>False)(hu:X.A.units<TY)(hk:PE X k tk)(hv:PE X v tv):
  j9 X (jk (xc k v (.ref a) X.env)) (λN σ H=>tk σ H λy H1=>tv σ H1 λv H2=>∃kvs key b,H2 a=some (.dT kvs)/\y=.ref b/\H2 b=some (.tup (key.map kV))/\kvs.length<Qp/\N σ (upd H2 a (.dT (putK kvs key v)))):=by
 intro pins s σ H N kk Q E I h hN;unfold jk xc;refine P9 (P9 (bQ (dF hx (hk pins s σ H _ I h)) λu s1 ⟨y,H1,I1,r1,q⟩=>?_));refine P9 (R8 (bQ (dF hx (hv pins s1 σ H1 _ I1 q)) λw' s2 ⟨v,H2,I2,r2,kvs,key,b,e,ey,eb,l,q2⟩=>?_));subst ey;cases (show u=Value.ref b from r1)
 refine P9 (SA (R8 ?_));obtain⟨z,hd,xs,rel,dd⟩:=AK I2.bz e;have hz:xs.length<=Qp:=by rw[<- Paired.length rel];exact z
 have hl:(putK kvs key v).length<=Qp:=by have:=fh kvs key v;lia
 refine wpAny_dictSet_heap (hsz:=hz) (knd:=TV (bN X.prog X.w)) hu (mO I2.bz eb) dd λh' Ex hs=>hN σ _ _ ?_ q2;obtain⟨q,es,ep,hq,h2,h3,h4,_,h5⟩:=Ex;refine mT I2 (by rw[e];exact SM) hs ⟨q,hq⟩ ⟨hl,hd,_,(rel.put key eb r2).keeps λc ys ec=>?_,q,es,ep,hq,h2,h3,h4,h5⟩
 rw[aw (v7 ec e (λz=>nomatch z))];exact ec
end
end L2
namespace L2.Q
open PySem PySem.Spec PySem.SeqAt PyProof.Rows
def Ls (P:Qd)(w:Qq)(a:Addr)(o:List (List Int×D))(H:Hp):Prop:=∃vs,H a=some (.dT ((o.map λp=>iK p.1).zip vs))/\aK P w H (o.map (·.2)) vs []
theorem xC {P:Qd}{w:Qq}{a:Addr}:uB a (Ls P w a):=⟨λo H H' s h=>by
  obtain⟨vs,h1,h2⟩:=h;exact⟨vs,s _ _ h1,h2.keep (λb xs e=>s _ _ e) λc hc=>(nomatch hc)⟩,λo H xs h z=>by
  obtain⟨vs,h1,_⟩:=h;rw[h1]at z;cases z⟩
abbrev Lz (X:Cx)(C:Cfg)(a:Addr)(φk φ:aY):ik:=λN σ H=>tQ X (C.u λc=>c=a) true φk σ H λy H1=>tQ X (C.u λc=>c=a) true φ σ H1 λv H2=>∃kvs key b,H2 a=some (.dT kvs)/\y=.ref b/\H2 b=some (.tup (key.map kV))/\kvs.length<Qp/\N σ (upd H2 a (.dT (putK kvs key v)))
def xb (φk φ:aY)(o:List (List Int×D))(β:ba)(N:ba->List (List Int×D)->Prop):Prop:=φk β λkd _ β2=>φ β2 λx _ β3=>∃t,kd=.tup (t.map D.int)/\x.flat=true/\dz o t=none/\o.length<Qp/\N β3 (o++[(t,x)])
section
variable {X:Cx}{C:Cfg}{W0:Addr->Prop}{T:List Nat}{σ0:St}{H1:Hp}{a:Addr}{Hb:Hp}{Wb:Addr->Prop}{φ φk:aY}
theorem vt (h0:C.H0 a=none)(ha:H1 a=none)(A4:∀β R R',(∀d k β,R d k β->R' d k β)->φk β R->φk β R')(φm:∀β R R',(∀d k β,R d k β->R' d k β)->φ β R->φ β R'){β:ba}{o:List (List Int×D)}{σ:St}{H:Hp}{N:ba->List (List Int×D)->Prop}(s:pE X C W0 T σ0 H1 a Hb Wb (Ls X.prog X.w a) β o σ H)(q:xb φk φ o β N):
  Lz X C a φk φ (λσ' H'=>∃β' o',pE X C W0 T σ0 H1 a Hb Wb (Ls X.prog X.w a) β' o' σ' H'/\N β' o') σ H:=by
 obtain⟨own,s⟩:=s;refine⟨β,own,s.sq,A4 _ _ _ (λkd kk β5 q v5 H5 kA o5 r5=>?_) q⟩;obtain⟨IY,rfl⟩:=o5.pu rfl;refine⟨β5,_,o5.sq,φm _ _ _ (λxd kx β6 ⟨t,e1,f,hn,hz,q2⟩ v H6 yK o6 r6=>?_) q⟩;obtain⟨sm,rfl⟩:=o6.pu rfl;have s6:=s.next xC o6.sq (λ_ z=>z) (IY.trans sm) (λ_ _=>rfl)
 subst e1;obtain⟨b,us,rfl,hb,rt⟩:=r5.rep;rw[L2.bW rt]at hb;obtain⟨vs,at',os⟩:=s6.ac;have Ni:Own X.prog X.w H6 xd v []:=cX f r6.rep;have l:(o.map λp=>iK p.1).length=vs.length:=by rw[Qa,os.length,Qa]
 have wK:putK ((o.map λp=>iK p.1).zip vs) (iK t) v=((o++[(t,xd)]).map λp=>iK p.1).zip (vs++[v]):=by
  rw[nM v (u4 os hn),QD,List.zip_append l];rfl
 have kt:∀c xs,H6 c=some (.tup xs)->upd H6 a (.dT (putK ((o.map λp=>iK p.1).zip vs) (iK t) v)) c=some (.tup xs):=λc xs z=>by rw[aw (λz'=>by rw[z',at']at z;cases z)];exact z
 refine⟨_,iK t,b,at',rfl,by rw[oE];exact sm _ _ hb,by rw[Ua,<- l,Nat.min_self,Qa];exact hz,β6,o++[(t,xd)],⟨_,s6.put h0 ha at' (λxs z=>by cases z) ⟨vs++[v],by rw[au,wK],?_⟩⟩,q2⟩
 rw[QD];exact(os.keep kt (A:=[]) λc hc=>by cases hc).append (aK.one (Ni.keep kt (A:=[]) λc hc=>by cases hc))
end
def BK (lk:List (Option Nat))(ι:b5)(γ:cZ)(τ:a_)(φk φ:aY):aY:=λβ R=>ι β λds k β1=>hold k false/\gB γ τ (xb φk φ) ds k (cB lk β1) [] λβf o=>dG (cB lk β1) βf/\R (dA o) .own β1
section
variable {X:Cx}{C:Cfg}{lk:List (Option Nat)}{γ:cZ}{τ:a_}{φ φk:aY}{T:List Nat}
variable {scope:Sd}{tg cj ke elt:Expr}{ifs:List Expr}{ι:b5}{pi:Bool}{pos:Pos}{i:Nat}
theorem OO (hu:X.A.units<TY)(N':List Str)(lk:List (Option Nat))(L:fO X.env.scope.names X.N scope N' lk=true)(m_:N'.Nodup)(hc:X.calm=true)(hi:qK X C pi tg cj ι)
  (kJ:∀a cl c s H ex,sC (aF X scope N' cl c s H ex) (C.u λc=>c=a) tg T γ) (iF:∀a cl c s H ex,m7 (aF X scope N' cl c s H ex) (C.u λc=>c=a) true ifs τ)
  (Mp:∀a cl c s H ex,PQ (aF X scope N' cl c s H ex) (C.u λc=>c=a) true ke φk) (kL:∀a cl c s H ex,PQ (aF X scope N' cl c s H ex) (C.u λc=>c=a) true elt φ) (hT:T.all (λi=>match lk[i]? with|some (some _)=>false|_=>true)=true:=by rfl)
  (hs:∀x,QX cj X.env x=pure x:=by intro _;rfl):PQ X C pi (.DictComp ke elt [⟨tg,cj,ifs,0⟩] scope pos) (BK lk ι γ τ φk φ):=by
 have L:=Links.of L;have zD:∀i∈T,∀j,lk[i]?≠some (some j):=λi hi j e=>by
  have:=Sj.mp hT i hi;rw[e]at this;cases this
 have γm:=(kJ 0 [] 0 X.s₀ X.H₀ []).mono;have τm:=(iF 0 [] 0 X.s₀ X.H₀ []).mono;have φm:=(kL 0 [] 0 X.s₀ X.H₀ []).mono;have A4:=(Mp 0 [] 0 X.s₀ X.H₀ []).mono;refine⟨λβ R R' k h=>hi.mono β _ _ (λds kd β1 q=>⟨q.1,q.2.mono λ_ _ z=>⟨z.1,k _ _ _ z.2⟩⟩) h,?_⟩;refine(jB (g:=⟨tg,cj,ifs,0⟩) (gs:=[]) (tg:=λa=>Bm X C a T γ) (tt:=λa=>iO X (C.u λc=>c=a) true τ) (ta:=λa=>Lz X C a φk φ)
  L hc tF rfl rfl (λ_ _=>Ho) hi.pi (λa cl c s H ex=>⟨(kJ a cl c s H ex).pg,(iF a cl c s H ex).pt,vL (X:=aF X scope N' cl c s H ex) rfl hu (Mp a cl c s H ex).pe (kL a cl c s H ex).pe⟩) hs).pre λσ H Q h=>?_
 obtain⟨β,own,s,h⟩:=h;refine⟨β,own,s,hi.mono β _ _ (λds k β1 h J H1 aE o1 it a ha=>?_) h⟩;obtain⟨hk,q⟩:=h;refine jq (T:=T) (xC (P:=X.prog) (w:=X.w)) γm τm (λj hj=>hj) (dh L m_) zD o1.sq ha hk it ⟨[],au,(show aK _ _ _ [] [] [] from ⟨rfl,rfl⟩)⟩ (o1.sq.Du (λxs z=>by cases z) ha (dh L m_))
  (λHb Wb βx ox σx Hx Nx h0 sx qx=>vt h0 ha A4 φm sx qx) q λo H' q o2 r=>?_
 refine q _ _ aE ⟨o2.sq,o1.sn.trans o2.sn,λz=>⟨(o1.pu z).1.trans (o2.pu rfl).1,(o1.pu z).2⟩,o1.le⟩ ?_;obtain⟨vs,at',os⟩:=r;refine⟨[a],qf at' os,by simp,λc hc=>?_⟩
 rw[Qj.mp hc];exact⟨QG λz=>o1.sn.d a z ha,λh=>by obtain⟨j,hj⟩:=h;exact(o1.sq.dm j a hj).1 ha,QG λz=>o1.sq.ft a z ha⟩
end
end L2.Q
namespace L2
open PySem PySem.Spec PyProof.Rows
def bC (X:Cx)(x0:Str)(scope:Sd)(N':List Str)(cl:List (Str×Addr))(C:Addr)(s:Qb)(H:Hp)(ex:List Addr):Cx :=
 {X with N:=N',s₀:=s,H₀:=H,env:=compEnvC scope ((x0,C+1)::cl) C X.env,outer:=X.stack,stack:=X.stack,ex:=ex,fn:=λx=>x==x0,pn:=[],xe:=λ_ _=>False}
structure fX (X:Cx)(x0:Str)(scope:Sd)(N':List Str)(lk:List (Option Nat)):Prop where
 kind:scope.kind=.function
 one:scope.names.filter (λx=>x.2==Q8)=[(x0,.cell)]
 names:∀x∈scope.names,x.2=.local->scope.names.lookup x.1=some .local
 free:∀x,(x,QK)∈scope.names->x≠x0/\(X.env.kindOf x=some .cell\/X.env.kindOf x=some .free)
 len:lk.length=N'.length
 link:∀(i j:Nat),lk[i]?=some (some j)->∃x,N'[i]?=some x/\X.N[j]?=some x/\(x,QK)∈scope.names/\scope.names.lookup x=some .free
def qk (outer:List (Str×Sh))(N:List Str)(x0:Str)(scope:Sd)(N':List Str)(lk:List (Option Nat)):Bool :=
 (scope.kind==.function)&&(scope.names.filter (λx=>x.2==Q8)==[(x0,.cell)])&&scope.names.all (λx=>(x.2 != .local || scope.names.lookup x.1==some .local)&&(x.2 != .free || x.1 != x0&&(outer.lookup x.1==some .cell || outer.lookup x.1==some .free))) &&
 lk.length==N'.length&&(QQ lk.length).all λi=>match lk[i]? with
  |some (some j)=>match N'[i]? with
   |some x=>N[j]?==some x&&scope.names.contains (x,.free)&&scope.names.lookup x==some .free
   |none=>false
  |_=>true
theorem fX.of {X:Cx}{x0:Str}{scope:Sd}{N':List Str}{lk:List (Option Nat)}(h:qk X.env.scope.names X.N x0 scope N' lk=true):fX X x0 scope N' lk:=by
 simp only[qk,QU]at h;obtain⟨⟨⟨⟨h1,h0⟩,h2⟩,h3⟩,h4⟩:=h;rw[Sj]at h2 h4;refine⟨by simpa using h1,by simpa using h0,λx hx hl=>?_,λx hx=>?_,by simpa using h3,λi j aD=>?_⟩
 ·have:=h2 x hx;simp only[QU]at this;have q:=this.1;rw[hl]at q;simpa using q
 ·have:=h2 _ hx;simp only[QU]at this;have q:=this.2;simp only[U6,QU]at q;rcases q with q|⟨q1,q⟩
  ·simp at q
  ·refine⟨by simpa using q1,?_⟩
   rcases q with q|q
   ·exact .inl (show X.env.scope.names.lookup x=some .cell by simpa using q)
   ·exact .inr (show X.env.scope.names.lookup x=some .free by simpa using q)
 ·have hi:i<lk.length:=(Qg.mp aD).1;have q:=h4 i (RK.mpr hi);rw[aD]at q;simp only at q;cases e:N'[i]? with
  |none=>rw[e]at q;simp at q
  |some x =>
   rw[e]at q;simp only[QU]at q;obtain⟨⟨q1,q2⟩,q3⟩:=q;exact⟨x,rfl,by simpa using q1,by simpa using q2,by simpa using q3⟩
theorem dQ {env:Env}{k:Sh}(hk:k=.cell\/k=.free):∀{names:List (Str×Sh)} {x:Str},
  (names.map λ(n,k)=>if (k==QK&&env.scope.kind==.function&&env.kindOf n==some .cell) then (n,Q8) else (n,k)).lookup x=some k->(x,QK)∈names\/(x,Q8)∈names
 |[],_,h=>by simp at h
 | (n,k')::r,x,h=>by
  have ih:=@dQ env k hk r x;rw[QS]at h
  by_cases hc:(k'==QK&&env.scope.kind==.function&&env.kindOf n==some .cell)=true
  ·simp only[hc,if_true]at h;rw[QZ]at h;cases q:x==n with
   |true =>
    rw[eq_of_beq q];simp only[QU]at hc;have:k'=.free:=by simpa using hc.1.1
    rw[this];simp
   |false =>
    rw[q]at h;exact(ih h).imp (λz=>QM _ z) λz=>QM _ z
  ·simp only[hc]at h;simp only[Sw,if_false]at h;rw[QZ]at h;cases q:x==n with
   |true =>
    rw[q]at h;cases h;rw[eq_of_beq q];rcases hk with rfl|rfl
    ·exact .inr (by simp)
    ·exact .inl (by simp)
   |false =>
    rw[q]at h;exact(ih h).imp (λz=>QM _ z) λz=>QM _ z
theorem xq {x0:Str}:∀{names:List (Str×Sh)} {n:Nat} {cl:List (Str×Addr)} {h:Heap},names.filter (λx=>x.2==Q8)=[(x0,.cell)]->TX n names cl=(x0,n)::cl/\pushCells h names=h.push {cls:=.type "cell",data:=.cell none}
 |[],_,_,_,e=>by cases e
 | (y,k)::r,n,cl,h,e=>by
  have no:∀{r:List (Str×Sh)} {n:Nat} {cl:List (Str×Addr)} {h:Heap},r.filter (λx=>x.2==Q8)=[]->TX n r cl=cl/\pushCells h r=h:=λ{r}=>by
   induction r with
   |nil=>intro n cl h _;exact⟨rfl,rfl⟩
   |cons p r ih =>
    intro n cl h e;obtain⟨y,k⟩:=p;rw[Si]at e
    by_cases hk:(k==Q8)=true
    ·rw[if_pos hk]at e;cases e
    ·rw[if_neg hk]at e;unfold TX pushCells;rw[if_neg hk,if_neg hk];exact ih e
  rw[Si]at e;unfold TX pushCells
  by_cases hk:(k==Q8)=true
  ·rw[if_pos hk]at e;rw[if_pos hk,if_pos hk];injection e with e1 e2
   injection e1 with e1 _
   subst e1;exact no e2
  ·rw[if_neg hk]at e;rw[if_neg hk,if_neg hk];exact xq e
section
variable {X:Cx}{x0:Str}{scope:Sd}{N':List Str}{lk:List (Option Nat)}{cl:List (Str×Addr)}{pins:List (Addr×Obj)}{σ:St}{H:Hp}{s:Qb}{ex:List Addr}
theorem t7 {h':Heap}{t':Nat}(I:Inv X pins σ H s)(L:fX X x0 scope N' lk)(hex:∀b∈ex,dw X pins H b)(C8:∀b∈ex,∃o,s.heap.get? b=some o)
  (gQ:∀x,(x,QK)∈scope.names->∃c,cl.lookup x=some c) (kc:∀x c,cl.lookup x=some c->X.env.cells.lookup x=some c)
  (hn:h'.Ns s.heap.objs.size (λ_=>none)) (hk:∀b o,s.heap.get? b=some o->h'.get? b=some o) (h0:h'.IsCell (s.heap.objs.size+1) none) :
  Inv (bC X x0 scope N' cl s.heap.objs.size s H ex) [] (cN lk σ) H {s with heap:=h',toks:=t'}:=by
 obtain⟨m,hm,hl⟩:=I.loc;have Ip:∀b∈ex,b<s.heap.objs.size:=λb hb=>by
  obtain⟨o,e⟩:=C8 b hb;exact Qs e
 have two:∀x c,(((x0,s.heap.objs.size+1)::cl).lookup x=some c)->(x=x0/\c=s.heap.objs.size+1)\/(x≠x0/\X.env.cells.lookup x=some c):=λx c e=>by
  rw[QZ]at e;cases q:x==x0 with
  |true=>rw[q]at e;cases e;exact .inl ⟨eq_of_beq q,rfl⟩
  |false=>rw[q]at e;exact .inr ⟨λz=>by rw[z]at q;simp at q,kc _ _ e⟩
 have old:∀x c,X.env.cells.lookup x=some c->c<s.heap.objs.size:=λx c e=>by
  obtain⟨v,o,ho,_⟩:=I.cell x c e;exact Qs ho
 have skip:∀x c,x≠x0->cl.lookup x=some c->((x0,s.heap.objs.size+1)::cl).lookup x=some c:=λx c n e=>by
  rw[QZ];have:(x==x0)=false:=beq_eq_false_iff_ne.mpr n;rw[this];exact e
 refine⟨⟨I.ok.mod,L.kind,I.ok.glob,I.ok.blt,Qf _,λx y c h1 h2=>?_,λx hx=>?_,λx c z e=>?_,I.ok.hd,I.ok.frames,.inl rfl,
  λb hb=>⟨QO (Ip b hb),λx c e=>?_⟩,I.bs,Q6 I.ok.xP I.sz,λb o e z=>?_,λb hb z=>?_,I.stack,I.l0⟩,
  rfl,I.bare,Un.kept hk,⟨_,hn,λi x v h1 h2 h3=>?_⟩,λx c e=>?_,I.bz.fresh (Qf _),λx c e=>?_,λp hp=>absurd (show p∈([]:List (Addr×Obj)) from hp) (by simp),I.bz.kept hk,?_⟩
 ·rcases two x c h1 with⟨rfl,e1⟩|⟨n1,e1⟩ <;> rcases two y c h2 with⟨rfl,e2⟩|⟨n2,e2⟩
  ·rfl
  ·exact absurd (show s.heap.objs.size+1<s.heap.objs.size from e1▸old _ _ e2) (Nat.not_lt.mpr (Um _))
  ·exact absurd (show s.heap.objs.size+1<s.heap.objs.size from e2▸old _ _ e1) (Nat.not_lt.mpr (Um _))
  ·exact I.ok.inj x y c e1 e2
 ·have xJ:(relabel scope X.env).names.lookup x=some .cell\/(relabel scope X.env).names.lookup x=some .free:=hx;have key:(x,QK)∈scope.names\/(x,Q8)∈scope.names:=xJ.elim (λq=>dQ (.inl rfl) q) λq=>dQ (.inr rfl) q;rcases key with q|q
  ·obtain⟨c,hc⟩:=gQ x q;exact⟨c,skip x c (L.free x q).1 hc⟩
  ·have:(x,Q8)∈scope.names.filter (λx=>x.2==Q8):=Rv.mpr ⟨q,rfl⟩;rw[L.one]at this;have e:=congrArg Prod.fst (Qj.mp this);exact⟨s.heap.objs.size+1,by show ((x0,_)::cl).lookup x=_;rw[show x=x0 from e,QZ];simp⟩
 ·rcases two x c e with⟨_,e1⟩|⟨n1,_⟩
  ·show s.heap.objs.size<=c;lia
  ·exact absurd (eq_of_beq z) n1
 ·rcases two x c e with⟨_,e1⟩|⟨_,e1⟩
  ·intro q;exact absurd (show s.heap.objs.size+1<s.heap.objs.size from (e1▸q:s.heap.objs.size+1=b)▸Ip b hb) (Nat.not_lt.mpr (Um _))
  ·exact(hex b hb).2.2.2.2.1 x c e1
 ·obtain⟨f0,f1,f2,f3,_⟩:=hex b z;rcases f3 with q|q
  ·exact I.ok.tE b o e q
  ·have h1:=Qs e;have h2:=I.ok.xP;exact absurd (QA h1 (Q6 h2 q)) (S4 _)
 ·obtain⟨f0,f1,f2,f3,_⟩:=hex b hb;rcases Qc.mp (I.lZ b z)with q|q
  ·exact f1 q
  ·exact f2 q
 ·have hi:∃j,lk[i]?=some (some j)/\σ[j]?=some (some v):=by
   have kh:(cN lk σ)[i]?=some (some v):=h2;unfold cN at kh;rw[Ql]at kh;cases e:lk[i]? with
   |none=>rw[e]at kh;cases kh
   |some l =>
    cases l with
    |none=>rw[e]at kh;cases kh
    |some j =>
     rw[e]at kh;cases e2:σ[j]? with
     |none=>simp[e2]at kh
     |some w' =>
      simp only[S5,e2,UK]at kh;subst kh;exact⟨j,rfl,e2⟩
  obtain⟨j,hj,hσ⟩:=hi;obtain⟨y,e1,e2,e3,e4⟩:=L.link i j hj;have K7:x=y:=by
   have pK:N'[i]?=some x:=h1;rw[e1]at pK;exact(Q3 pK).symm
  subst K7;have CL:m6 X.env.scope x:=by
   rcases (L.free x e3).2 with q|q
   ·exact .inr (.inl q)
   ·exact .inr (.inr q)
  obtain⟨u,ru,lu⟩:=hl j x v e2 hσ CL;refine⟨u,ru,.inr ⟨?_,?_⟩⟩
  ·exact b_ e4
  ·rcases lu with⟨k,_⟩|⟨_,c,hc,z⟩
   ·rcases (L.free x e3).2 with q|q <;> (rw[k]at q;cases q)
   ·obtain⟨c',kg⟩:=gQ x e3;have:=kc x c' kg;rw[hc]at this;cases this;obtain⟨o,ho,hd⟩:=z;exact⟨c,skip x c (L.free x e3).1 kg,o,hk _ _ ho,hd⟩
 ·rcases two x c e with⟨_,e1⟩|⟨_,e1⟩
  ·exact⟨none,by rw[e1];exact h0⟩
  ·obtain⟨v,o,ho,hd⟩:=I.cell x c e1;exact⟨v,o,hk _ _ ho,hd⟩
 ·rcases two x c e with⟨_,e1⟩|⟨_,e1⟩
  ·rw[e1];exact I.bz.fresh (by lia)
  ·exact I.fm x c e1
 ·show (cN lk σ).length=N'.length;unfold cN;rw[Qa,L.len]
theorem t9 {s':Qb}{σ':St}{H':Hp}{pl:List (Addr×Obj)}{h'':Heap}(I:Inv X pins σ H s)(hex:∀b∈ex,dw X pins H b)
  (J:Inv (bC X x0 scope N' cl s.heap.objs.size s H ex) pl σ' H' s') (hs:Su s.heap.objs.size s'.heap h''):Inv X pins σ H' {s' with heap:=h''}:=by
 have hC:H' s.heap.objs.size=none:=J.free;have u:=J.base;refine I.AS (ch:=ex) (s':={s' with heap:=h''}) J.os ?_ ?_ J.bare (λb hb=>?_)
 ·have kk:∀b o,b≠s.heap.objs.size->s'.heap.get? b=some o->h''.get? b=some o:=λb o hb e=>(hs.2 b hb).trans e;have ne:∀b o,s.heap.get? b=some o->b≠s.heap.objs.size:=λb o e=>QO (Qs e);refine⟨λb o e n hb hx=>kk b _ (ne b o e) (u.keep b o e n hb hx),λb o e n hb hx=>?_,u.free,λb o e hx=>?_,u.kn,u.jV,u.kq⟩
  ·obtain⟨sl,q⟩:=u.slot b o e n hb hx;exact⟨sl,kk b _ (ne b o e) q⟩
  ·obtain⟨o',q⟩:=u.there b o e hx;exact⟨o',kk b _ (ne b o e) q⟩
 ·intro b o e;have hb:b≠s.heap.objs.size:=λz=>by rw[z]at e;rw[hC]at e;cases e
  refine(J.bz b o e).l3 (λc v hc q=>(hs.2 c ?_).trans q) (λ_ q=>q) λ_ _ q=>q;rcases hc with z|z
  ·rw[z];exact hb
  ·intro z';rw[z']at z;rw[hC]at z;cases z
 ·obtain⟨f0,f1,f2,f3,f4,f5⟩:=hex b hb;exact⟨f3,f1,f4,f5⟩
end
section
variable {X:Cx}{x0:Str}{e:Expr}{g:Sa}{gs:List Sa}{scope:Sd}{N':List Str}{lk:List (Option Nat)}{tg:Addr->TG}{tt:Addr->TT}{wi:TI}
theorem pq {b9:Sem P_}{o:HO}{after:P_->Env->Sem Fin->Sem Fin}{ta:Addr->ik}(L:fX X x0 scope N' lk)(hc:X.calm=true)(hA:fW X b9 o)
  (F:∀acc env,eV e 0 g acc env (after acc env))
  (kK:∀a cl C s H ex,PG (bC X x0 scope N' cl C s H ex) g.target (tg a)/\nc (bC X x0 scope N' cl C s H ex) g.ifs (tt a)/\j9 (bC X x0 scope N' cl C s H ex) (after (.ref a) (bC X x0 scope N' cl C s H ex).env) (ta a))
  {cl:List (Str×Addr)} (gQ:∀x,(x,QK)∈scope.names->∃c,cl.lookup x=some c) (kc:∀x c,cl.lookup x=some c->X.env.cells.lookup x=some c)
  {pins:List (Addr×Obj)} {σ:St} {s:Qb} {Q:V->Hp->Prop} {uH:P_} {E:P_->Qb->Prop} {RR:P_->Addr->Result->Qb->Prop}
  (h:DX X pins σ g.target (λJ H1=>∀a,H1 a=none->dX J (tg a) (tt a) (ta a) (λ_ H'=>Q (.ref a) H') (cN lk σ) (upd H1 a o)) uH s)
  (hR:∀a H' C s',Inv X pins σ H' s'->dw X pins H' C->(∃m,s'.heap.Ns C m)->Q (.ref a) H'->RR (.ref a) C (.ok .next) s') :
  QE (model X.prog X.w) X.A b9 (λacc s₃=>QE (model X.prog X.w) X.A (U9 scope X.env.globals cl [] X.env.qual none .none (some X.env)) (λxp s₄ =>
   T6 (model X.prog X.w) X.A (.compStart e 0 uH acc {xp with scope:=relabel scope X.env}) (RR acc xp.locals) s₄) E s₃) E s:=by
 obtain⟨it,fp,tn,J,H2,e1,I2,T,dW,f2,hl⟩:=h;subst e1;refine hA.ok pins s σ H2 _ E I2 λa s3 ha hn hk I3=>?_;simp only[U9,Option.isSome_some,if_true];refine P9 (wpAny_alloc ?_);refine P9 (wpAny_layCells _ (λname kind cells=>by cases Oh:kind==Q8 <;> simp[Oh]) _ _ _ _ ?_)
 obtain⟨c1,c2⟩:=xq (n:=s3.heap.objs.size+1) (cl:=cl) (h:=s3.heap.push {cls:=.type "dict",data:=.dict #[]}) L.one;have hsz:(s3.heap.push {cls:=.type "dict",data:=.dict #[]}).objs.size=s3.heap.objs.size+1:=TB ..
 dsimp only;rw[hsz,c1,c2];refine P9 ?_;rw[Vc];refine Qn (Qn ?_);generalize AD:(s3.heap.push {cls:=.type "dict",data:=.dict #[]}).push {cls:=.type "cell",data:=.cell none}=h₁;have C8:∀b∈fp,∃o,s3.heap.get? b=some o:=λb hb=>by
  obtain⟨ob,q,_⟩:=T.obj _ _ dW b hb;exact⟨ob,hk b ob q⟩
 have KR:∀b∈fp,b≠a:=λb hb=>by
  obtain⟨ob,q,_⟩:=T.obj _ _ dW b hb;exact QO (QA (Qs q) ha)
 have f3:∀b∈fp,dw X pins (upd H2 a o) b:=λb hb=>⟨by rw[aw (KR b hb)];exact(f2 b hb).1,(f2 b hb).2⟩
 have Em:∀b ob,s3.heap.get? b=some ob->h₁.get? b=some ob:=λb ob q=>by rw[<- AD];exact Qi _ (Qi _ q)
 have El:h₁.Ns s3.heap.objs.size (λ_=>none):=by rw[<- AD];exact(Heap.Ns.new s3.heap (.type "dict")).keeps λb ob q=>Qi _ q
 have iG:h₁.IsCell (s3.heap.objs.size+1) none:=by rw[<- AD,<- hsz];exact⟨_,QC _ rfl,rfl⟩
 have I4:=t7 (t':=s3.toks) I3 L f3 C8 gQ kc El Em iG;obtain⟨g1,g2,g3⟩:=kK a cl s3.heap.objs.size s3 (upd H2 a o) fp;have f4:∀b∈fp,dw (bC X x0 scope N' cl s3.heap.objs.size s3 (upd H2 a o) fp) [] (upd H2 a o) b:=λb hb =>
  ⟨(f3 b hb).1,(I4.ok.Eu b hb).1,I4.ok.uf b hb,.inl hb,(I4.ok.Eu b hb).2,λp hp=>absurd (show p∈([]:List (Addr×Obj)) from hp) (by simp)⟩
 have Bv:tn 0 h₁:=T.keep 0 _ _ dW λb hb ob q=>Em b ob (hk b ob q);refine Tu (fT (X:=bC X x0 scope N' cl s3.heap.objs.size s3 (upd H2 a o) fp) rfl hc (F (.ref a) _) g1 g2 g3 T I4 Bv f4 (hl a hn)) λr s' hr=>?_;obtain⟨rfl,σ',H',J',q⟩:=hr;have I5:Inv X pins σ H' s':=t9 (h'':=s'.heap) I3 f3 J' (.refl ..);refine hR a H' s3.heap.objs.size s' I5 (I3.qu (Qf _) J'.free) ?_ q;obtain⟨m,hm,_⟩:=J'.loc;exact⟨m,hm⟩
theorem vH {b9:Sem P_}{o:HO}{after:P_->Env->Sem Fin->Sem Fin}{ta:Addr->ik}{pos:Pos}(L:fX X x0 scope N' lk)(hc:X.calm=true)(hA:fW X b9 o)
  (wQ:eval e X.env=comprehension e scope X.env pos b9 false (eval g.iter X.env)) (Ep:clausesOf e=g::gs)
  (F:∀acc env,eV e 0 g acc env (after acc env)) (hi:PI X g.target g.iter wi)
  (kK:∀a cl C s H ex,PG (bC X x0 scope N' cl C s H ex) g.target (tg a)/\nc (bC X x0 scope N' cl C s H ex) g.ifs (tt a)/\j9 (bC X x0 scope N' cl C s H ex) (after (.ref a) (bC X x0 scope N' cl C s H ex).env) (ta a))
  (hs:∀x,QX g.iter X.env x=pure x) :
  PE X e (λσ H Q=>wi σ H λJ H1=>∀a,H1 a=none->dX J (tg a) (tt a) (ta a) (λ_ H'=>Q (.ref a) H') (cN lk σ) (upd H1 a o)):=by
 intro pins s σ H Q I h;rw[wQ];obtain⟨cl,oG,gQ,kc⟩:=dU (env:=X.env) (scope:=scope) λx hx=>I.ok.has x (L.free x hx).2;refine TL (use:=none) Ep hs oG L.kind L.names (bQ (hi pins s σ H _ I h) λv s1 h1=>bQ h1 λuH s2 h2=>?_);refine pq (RR:=λacc C=>compPost (model X.prog X.w) X.A X.xe none (EP X pins σ Q) acc C) L hc hA F kK gQ kc h2 λa H' C s' I' f hm q=>?_;obtain⟨m,hm⟩:=hm;exact⟨m,hm,λh' qo=>⟨.ref a,H',I'.sameBut f qo,rfl,q⟩⟩
end
end L2
namespace L2.Q
open PySem PySem.Spec PySem.SeqAt PyProof.Rows
def BJ (lk:List (Option Nat))(ι:b5)(γ:cZ)(τ:a_)(φ:aY):aY:=λβ R=>ι β λds k β1=>hold k false/\gB γ τ (xa φ) ds k (cB lk β1) [] λβf o=>dG (cB lk β1) βf/\R (.lst o) .own β1
section
variable {X:Cx}{scope:Sd}{y:Str}{i:Nat}
theorem jI {x0:Str}{N':List Str}{lk:List (Option Nat)}(L:fX X x0 scope N' lk)(hN:N'.Nodup):∀(i i' j:Nat),lk[i]?=some (some j)->lk[i']?=some (some j)->i=i':=λi i' j h1 h2=>by
 obtain⟨x,a1,a2,_⟩:=L.link i j h1;obtain⟨y,b1,b2,_⟩:=L.link i' j h2;rw[a2]at b2;cases b2;exact(UN (Qg.mp a1).1 hN).mp (a1.trans b1.symm)
end
section
end
section
end
section
variable {X:Cx}{C:Cfg}{γ:cZ}{τ:a_}{φ:aY}{T:List Nat}{scope:Sd}{tg cj elt:Expr}{ifs:List Expr}{ι:b5}{pos:Pos}
theorem L4 (N':List Str)(lk:List (Option Nat))(L:fO X.env.scope.names X.N scope N' lk=true)(m_:N'.Nodup)(hc:X.calm=true)(hi:qK X C true tg cj ι)
  (kJ:∀a cl c s H ex,sC (aF X scope N' cl c s H ex) (C.u λc=>c=a) tg T γ) (iF:∀a cl c s H ex,m7 (aF X scope N' cl c s H ex) (C.u λc=>c=a) true ifs τ)
  (kL:∀a cl c s H ex,PQ (aF X scope N' cl c s H ex) (C.u λc=>c=a) true elt φ) (hT:T.all (λi=>match lk[i]? with|some (some _)=>false|_=>true)=true:=by rfl)
  (hs:∀x,QX cj X.env x=pure x:=by intro _;rfl):PQ X C true (.ListComp elt [⟨tg,cj,ifs,0⟩] scope pos) (nK lk ι γ τ φ) :=
 Ak (pi:=true) (pc:=true) (pe:=true) (Links.of L) m_ hT hc hi kJ (λa cl c s H ex=>(iF a cl c s H ex).pt) (iF 0 [] 0 X.s₀ X.H₀ []).mono kL (kJ 0 [] 0 X.s₀ X.H₀ []).mono (kL 0 [] 0 X.s₀ X.H₀ []).mono hs
end
structure Bs3 (mg:Str->Option P_):Prop extends Bs2 mg where
 sum:mg "sum" = none
def tI (p:Nat×Nat):List Int:=[(p.1:Int),(p.2:Int)]
theorem lY {p q:Nat×Nat}(h:tI p=tI q):p=q:=by
 unfold tI at h;injection h with h1 h2
 injection h2 with h2 _
 exact Prod.ext (Int.ofNat.inj h1) (Int.ofNat.inj h2)
def u7 (ps:List (Nat×Nat)):D:=.lst (ps.map λp=>kD (tI p))
def f6 (n:Nat)(ps:List (Nat×Nat)):D:=.tup [.int n,u7 ps]
structure AZ (n:Nat)(ps:List (Nat×Nat)):Prop where
 lt:∀p∈ps,p.1<p.2/\p.2<n
 nd:ps.Nodup
 le:n<=80
 sm:ps.length<=400
theorem u_ {n:Int}{ts:List (List Int)}(n0:0<=n)(h:fE n ts):∃ps:List (Nat×Nat),ts=ps.map tI/\∀p∈ps,p.1<p.2/\p.2<n.toNat:=by
 induction ts with
 |nil=>exact⟨[],rfl,λ_ z=>(nomatch z)⟩
 |cons t ts ih =>
  obtain⟨ps,e,q⟩:=ih λu hu=>h u (by simp[hu])
  obtain⟨a,b,rfl,h1,h2,h3⟩:=h t (by simp)
  refine⟨(a.toNat,b.toNat)::ps,?_,λp hp=>?_⟩
  ·rw[QS,<- e]
   congr 1
   show [a,b]=[((a.toNat:Nat):Int),((b.toNat:Nat):Int)];rw[Ut h1,Ut (by lia)]
  ·rcases Qc.mp hp with rfl|hp
   ·exact⟨by show a.toNat<b.toNat;lia,by show b.toNat<n.toNat;lia⟩
   ·exact q p hp
theorem yq {n:Int}{ts:List (List Int)}(n0:0<=n)(n1:n<=80)(l:ts.length<=400)(h:fE n ts)(nd:ts.Nodup):∃(m:Nat) (ps:List (Nat×Nat)),AZ m ps/\n=m/\ts=ps.map tI/\D.tup [.int n,.lst (ts.map kD)]=f6 m ps:=by
 obtain⟨ps,e,q⟩:=u_ n0 h;refine⟨n.toNat,ps,⟨q,?_,by lia,by rw[e,Qa]at l;exact l⟩,by lia,e,?_⟩
 ·rw[e]at nd;exact(TF.mp nd).imp λz e=>z (congrArg tI e)
 ·unfold f6 u7;rw[e,QY,Ut n0];rfl
noncomputable def jN (l:List Nat):List D:=l.map λ(k:Nat)=>D.int (k:Int)
def iC (ps:List (Nat×Nat))(i:Nat):List Nat:=(ps.filter λp=>decide (p.1=i)).map (·.2)
theorem eI {ps:List (Nat×Nat)}{i k:Nat}:k∈iC ps i↔(i,k)∈ps:=by
 unfold iC;rw[QP];constructor
 ·rintro⟨p,hp,rfl⟩;obtain⟨h1,h2⟩:=Rv.mp hp;rw[<- of_decide_eq_true h2];exact h1
 ·intro h;exact⟨(i,k),Rv.mpr ⟨h,by simp⟩,rfl⟩
def Ff (n:Nat)(ps:List (Nat×Nat)):D:=.lst ((QQ n).map λi=>.lst (jN (iC ps i)))
def wD (ps:List (Nat×Nat))(w:Nat×Nat->Int):D:=dA (ps.map λp=>(tI p,.int (w p)))
theorem Bg {ps:List (Nat×Nat)}{w:Nat×Nat->Int}{p:Nat×Nat}(h:p∈ps):dz (ps.map λp=>(tI p,.int (w p))) (tI p)=some (.int (w p)):=by
 unfold dz
 induction ps with
 |nil=>cases h
 |cons q ps ih =>
  rw[QS,Ro]
  by_cases e:q=p
  ·rw[e,decide_eq_true rfl];rfl
  ·rw[decide_eq_false λz=>e (lY z)];exact ih ((Qc.mp h).resolve_left λz=>e z.symm)
theorem Dp {ps:List (Nat×Nat)}{w:Nat×Nat->Int}{i k:Nat}(h:(i,k)∈ps):o_ (wD ps w) (.tup [.int (i:Int),.int (k:Int)])=some (.int (w (i,k))):=by
 have:=rZ (kvs:=ps.map λp=>(tI p,D.int (w p))) (t:=tI (i,k));rw[Bg h]at this;exact this
theorem cU {α:Type}{n i:Nat}{f:Nat->α}(h:i<n):((QQ n).map f)[i]?=some (f i):=by
 rw[Ql,Se h];rfl
theorem oD {ds:List D}{x:Int}{i:Nat}{d:D}(hx:x=(i:Int))(h:ds[i]?=some d):rY (.lst ds) (.int x)=some d:=by rw[hx];exact zU h
theorem JM {n:Nat}{ps:List (Nat×Nat)}{x:Int}{i:Nat}(hx:x=(i:Int))(h:i<n):rY (Ff n ps) (.int x)=some (.lst (jN (iC ps i))):=oD hx (cU h)
def vf (L:Nat)(T:Nat->Int):List D:=(QQ L).map λl=>.int (T l)
def ve (n:Nat)(L:Nat->Nat)(T:Nat->Nat->Int):D:=.lst ((QQ (n+1)).map λi=>.lst (vf (L i) λl=>T l i))
theorem gF {L:Nat}{T:Nat->Int}{x:Int}{l:Nat}(hx:x=(l:Int))(h:l<L):rY (.lst (vf L T)) (.int x)=some (.int (T l)):=oD hx (cU h)
theorem gE {n:Nat}{L:Nat->Nat}{T:Nat->Nat->Int}{x:Int}{i:Nat}(hx:x=(i:Int))(h:i<=n):rY (ve n L T) (.int x)=some (.lst (vf (L i) λl=>T l i)):=oD hx (cU (by lia))
def hG (ps:List (Nat×Nat))(w:Nat×Nat->Int)(T:Nat->Nat->Int)(i j:Nat):Int:=(iS ((((iC ps i).filter λk=>decide (k<j)).map λk=>w (i,k)+T (k-i-1) (i+1)+T (j-k-1) (k+1))++[T (j-i-1) (i+1)])).getD 0
theorem tK {l:List Int}{x:Int}:iS (l++[x])=some ((iS (l++[x])).getD 0):=by
 cases l with
 |nil=>rfl
 |cons a l=>rfl
theorem jH {ps:List (Nat×Nat)}{w:Nat×Nat->Int}{T T':Nat->Nat->Int}{i j:Nat}(hp:∀p∈ps,p.1<p.2)(hj:i<j)(h:∀l,l<j-i->∀a,T l a=T' l a):hG ps w T i j=hG ps w T' i j:=by
 unfold hG;have e:((iC ps i).filter λk=>decide (k<j)).map (λk=>w (i,k)+T (k-i-1) (i+1)+T (j-k-1) (k+1))=((iC ps i).filter λk=>decide (k<j)).map λk=>w (i,k)+T' (k-i-1) (i+1)+T' (j-k-1) (k+1):=by
  refine RS λk hk=>?_;obtain⟨h1,h2⟩:=Rv.mp hk;have h3:=hp _ (eI.mp h1);have h4:=of_decide_eq_true h2;dsimp only at h3;rw[h _ (by lia),h _ (by lia)]
 rw[e,h (j-i-1) (by lia)]
def Bp (ps:List (Nat×Nat))(w:Nat×Nat->Int):Nat->Nat->Nat->Int
 |0,_,_=>0
 |_+1,0,_=>0
 |n+1,l+1,i=>hG ps w (Bp ps w n) i (i+l+1)
theorem ny {ps:List (Nat×Nat)}{w:Nat×Nat->Int}(hp:∀p∈ps,p.1<p.2):∀{n m l i:Nat},l<=n->l<=m->Bp ps w n l i=Bp ps w m l i
 |0,0,_,_,_,_=>rfl
 |0,m+1,0,_,_,_=>rfl
 |0,m+1,l+1,_,h,_=>by lia
 |n+1,0,0,_,_,_=>rfl
 |n+1,0,l+1,_,_,h=>by lia
 |n+1,m+1,0,_,_,_=>rfl
 |n+1,m+1,l+1,i,h1,h2=>by
  unfold Bp;exact jH hp (by lia) λl' hl a=>ny hp (by lia) (by lia)
def tW (ps:List (Nat×Nat))(w:Nat×Nat->Int)(l i:Nat):Int:=Bp ps w l l i
theorem yd {ps:List (Nat×Nat)}{w:Nat×Nat->Int}(hp:∀p∈ps,p.1<p.2){l i:Nat}:tW ps w (l+1) i=hG ps w (tW ps w) i (i+l+1):=by
 show Bp ps w (l+1) (l+1) i=_;unfold Bp;exact jH hp (by lia) λl' hl a=>ny hp (by lia) (by lia)
def eZ (n a:Nat):List (Nat×Nat):=(QQ (a+1)).map λb=>(n-1-a,n-a+b)
def sJ (n:Nat):List (Nat×Nat):=(QQ n).flatMap (eZ n)
def Jp (p:Nat×Nat):D:=.tup [.int (p.1:Int),.int (p.2:Int)]
theorem c8 {α:Type}{γ:cZ}{τ:a_}{φ:aY}{l:List α}{f:α->D}{k:Kd}{pA:ba}{K:List D->Prop}(t:α->Bool)(g:α->D)(h0:dG pA pA)(hl:l.length<=Qp)
  (h:∀x∈l,∀(x0:Option B) (o:List D) (J:ba->List D->Prop),o.length<Qp->(t x=true->∀x0,J (x0::pA) (o++[g x]))->(t x=false->∀x0,J (x0::pA) o)->γ (f x) (sk k (f x)) (x0::pA) λβ1=>τ β1 λt β2=>if t=true then φ β2 λx kx β3=>xI kx x/\o.length<Qp/\J β3 (o++[x]) else J β2 o)
  (q:K ((l.filter t).map g)):jG γ τ φ (l.map f) k (none::pA) K:=by
 refine⟨λi β o=>i<=l.length/\(∃x0,β=x0::pA)/\o=((l.take i).filter t).map g,⟨Qv _,⟨_,rfl⟩,rfl⟩,?_,?_⟩
 ·rintro i d β o hd ⟨hi,⟨x0,rfl⟩,rfl⟩;rw[Ql]at hd;obtain⟨x,hx,rfl⟩:=Qy.mp hd;have eX:i<l.length:=(Qg.mp hx).1;have hle:(((l.take i).filter t).map g).length<Qp:=by
   rw[Qa];have:=SG t (l.take i);rw[QJ]at this;lia
  have e:l.take (i+1)=l.take i++[x]:=by rw[Rh,hx];rfl
  refine h x (QW hx) x0 _ (λβ o=>i+1<=l.length/\(∃x0,β=x0::pA)/\o=((l.take (i+1)).filter t).map g) hle (λht x0=>?_) λht x0=>?_
  ·exact⟨eX,⟨_,rfl⟩,by rw[e,RZ,QD,Si,if_pos ht];rfl⟩
  ·exact⟨eX,⟨_,rfl⟩,by rw[e,RZ,QD,Si,if_neg (by rw[ht];simp)];simp⟩
 ·rintro β o ⟨_,⟨x0,rfl⟩,rfl⟩;rw[Qa,RC];exact⟨h0,q⟩
theorem a8 {α:Type}{l:List α}:l.filter (λ_=>true)=l:=List.filter_eq_self.mpr λ_ _=>rfl
theorem gK {a b:List D}(h:a.length+b.length<=1000000):xn (.lst a) (.lst b)=some (.lst (a++b)):=by
 show (if a.length+b.length<=Qp then _ else _)=_
 rw[if_pos (Q6 h (by decide))]
theorem h_ {α:Type}{f:α->Int}:∀{l:List α},D.cC (l.map λx=>D.int (f x))=true
 |[]=>rfl
 |_::l=>h_ (l:=l)
theorem lF:∀{a b:List D},D.cC a=true->D.cC b=true->D.cC (a++b)=true
 |[],_,_,h=>h
 |d::a,b,h,h'=>by
  have f':(d.flat&&D.cC a)=true:=h;rw[QU]at f';show (d.flat&&D.cC (a++b))=true;rw[f'.1,lF f'.2 h'];rfl
theorem v9 {α:Type}{f:α->Int}{l:List α}{x:Int}:gJ iS [.lst ((l.map λk=>D.int (f k))++[D.int x])]=some (.int ((iS (l.map f++[x])).getD 0)):=by
 have e:(l.map λk=>D.int (f k))++[D.int x]=(l.map f++[x]).map D.int:=by simp
 rw[e];exact fS tK
def w6:FD:=λds R=>∃n:Nat,ds=[.int n]/\n<=80/\R (.lst ((sJ n).map Jp))
theorem w6.mono:eN w6:=λds R R' k h=>by obtain⟨n,e,h1,q⟩:=h;exact⟨n,e,h1,k _ q⟩
def oR:FD:=λds R=>∃n ps,ds=[f6 n ps]/\AZ n ps/\R (Ff n ps)
theorem oR.mono:eN oR:=λds R R' k h=>by obtain⟨n,ps,e,h1,q⟩:=h;exact⟨n,ps,e,h1,k _ q⟩
def oS:FD:=λds R=>∃(n:Nat) (ps:List (Nat×Nat)) (w:Nat×Nat->Int) (L:Nat->Nat) (T:Nat->Nat->Int) (i k j:Nat),ds=[wD ps w,ve n L T,.int i,.int k,.int j]/\(i,k)∈ps/\i<k/\k<j/\j<=n/\k-i-1<L (i+1)/\j-k-1<L (k+1) /\
 R (.int (w (i,k)+T (k-i-1) (i+1)+T (j-k-1) (k+1)))
theorem oS.mono:eN oS:=λds R R' k h=>by obtain⟨n,ps,w,L,T,i,k',j,e,h1,h2,h3,h4,h5,h6,q⟩:=h;exact⟨n,ps,w,L,T,i,k',j,e,h1,h2,h3,h4,h5,h6,k _ q⟩
def jX:FD:=λds R=>∃(n:Nat) (ps:List (Nat×Nat)) (w:Nat×Nat->Int) (L:Nat->Nat) (T:Nat->Nat->Int) (i j:Nat),ds=[Ff n ps,wD ps w,ve n L T,.int i,.int j]/\AZ n ps/\i<j/\j<=n/\(∀a,i<a->a<=n->n+1-a<=L a)/\R (.int (hG ps w T i j))
theorem jX.mono:eN jX:=λds R R' k h=>by obtain⟨n,ps,w,L,T,i,j,e,h1,h2,h3,h4,q⟩:=h;exact⟨n,ps,w,L,T,i,j,e,h1,h2,h3,h4,k _ q⟩
abbrev jU (n:Nat)(T:Nat->Nat->Int):D:=ve n (λi=>n+1-i) T
theorem cb {n:Nat}(h:n<=1000):n<=Qp:=Q6 h (by decide)
theorem ir {n:Nat}(h:n<=1000):n<Qp:=UC h (by decide)
theorem zi {n i:Nat}{x:Int}(hx:x=(i:Int))(h:i<n):lz n x=some i:=by
 subst hx;unfold lz;rw[if_pos (by lia),if_pos (by lia)]
 simp
theorem yn {α:Type}{n i:Nat}{f:Nat->α}{y:α}(h:i<n):((QQ n).map f).set i y=(QQ n).map λk=>if k=i then y else f k:=by
 refine Ry λk=>?_;rw[R5]
 by_cases hk:k<n
 ·rw[cU hk,cU hk,Qa,Q_]
  by_cases e:i=k
  ·rw[if_pos e,if_pos (e▸hk),if_pos e.symm]
  ·rw[if_neg e,if_neg (Rr e)]
 ·rw[Rc (l:=(QQ n).map f) (by simpa using hk),Rc (l:=(QQ n).map λk=>if k=i then y else f k) (by simpa using hk),if_neg (by lia)]
theorem BD {n i k:Nat}{ps:List (Nat×Nat)}(h:i<n):((QQ n).map λj=>D.lst (jN (iC ps j))).set i (.lst (jN (iC ps i)++[D.int k]))=(QQ n).map λj=>D.lst (jN (iC (ps++[(i,k)]) j)):=by
 rw[yn h];refine RS λj _=>?_;unfold iC jN;rw[RZ,QD,QD]
 by_cases e:j=i
 ·rw[if_pos e,e];simp
 ·rw[if_neg e,Si,if_neg (by simpa using Rr e)];simp
theorem iY {ps:List (Nat×Nat)}{i:Nat}:(iC ps i).length<=ps.length:=by
 unfold iC;rw[Qa];exact SG _ _
theorem nH {n a:Nat}:(eZ n a).length=a+1:=by unfold eZ;simp
theorem sR {n a b:Nat}(h:b<a+1):(eZ n a).take (b+1)=(eZ n a).take b++[(n-1-a,n-a+b)]:=by
 rw[Rh];unfold eZ;rw[cU h];rfl
theorem vx {n a:Nat}:(eZ n a).take (a+1)=eZ n a:=Rx (by rw[nH];exact Qf _)
theorem oJ {n:Nat}:∀a:Nat,a<=n->(((QQ n).take a).flatMap (eZ n)).length<=a*a
 |0,_=>by simp
 |a+1,h=>by
  have:=oJ (n:=n) a (by lia)
  rw[Rh,Se (show a<n by lia),Us,Qu]
  have e:((some a).toList.flatMap (eZ n)).length=a+1:=by simp[nH]
  rw[e,Nat.mul_add,Nat.add_mul];lia
theorem vg {n a b:Nat}(hn:n<=80)(ha:a<n)(hb:b<a+1):(((QQ n).take a).flatMap (eZ n)).length+((eZ n a).take b).length<Qp:=by
 have h1:=oJ (n:=n) a (by lia)
 have h2:((eZ n a).take b).length<=b:=by rw[QJ];exact U1 _ _
 have h3:a*a<=80*80:=Nat.mul_le_mul (by lia) (by lia)
 have h4:80*80+80<Qp:=by decide
 lia
theorem tJ {l:List Int}{x:Int}:(iS (l++[x])).getD 0∈l++[x]/\∀y∈l++[x],y<=(iS (l++[x])).getD 0:=by
 cases l with
 |nil=>exact bU [] x
 |cons a l=>exact bU (l++[x]) a
theorem lx {ps:List (Nat×Nat)}{w:Nat×Nat->Int}{T:Nat->Nat->Int}{i j:Nat}:
  (hG ps w T i j=T (j-i-1) (i+1)\/∃k,(i,k)∈ps/\k<j/\hG ps w T i j=w (i,k)+T (k-i-1) (i+1)+T (j-k-1) (k+1)) /\
  T (j-i-1) (i+1)<=hG ps w T i j/\∀k,(i,k)∈ps->k<j->w (i,k)+T (k-i-1) (i+1)+T (j-k-1) (k+1)<=hG ps w T i j:=by
 obtain⟨h1,h2⟩:=tJ (l:=((iC ps i).filter λk=>decide (k<j)).map λk=>w (i,k)+T (k-i-1) (i+1)+T (j-k-1) (k+1)) (x:=T (j-i-1) (i+1));refine⟨?_,h2 _ (by simp),λk hk hj=>h2 _ (RL _ (QP.mpr ⟨k,Rv.mpr ⟨eI.mpr hk,decide_eq_true hj⟩,rfl⟩))⟩
 rcases Qr.mp h1 with h|h
 ·obtain⟨k,hk,e⟩:=QP.mp h;obtain⟨q1,q2⟩:=Rv.mp hk;exact .inr ⟨k,eI.mp q1,of_decide_eq_true q2,e.symm⟩
 ·exact .inl (Qj.mp h)
theorem wX {ps:List (Nat×Nat)}:D.cC (ps.map λp=>kD (tI p))=true:=by
 have:=jW (ps.map tI);rw[QY]at this;exact this
def oU:FD:=λds R=>∃n ps,ds=[f6 n ps]/\R (f6 n ps)
theorem oU.mono:eN oU:=λds R R' k h=>by obtain⟨n,ps,e,q⟩:=h;exact⟨n,ps,e,k _ q⟩
theorem qE {a b:Int}(h:kU a b):DB (.int a) (.int b)=some (.int (a*b)):=by
 show (if kU a b then _ else _)=_
 rw[if_pos h]
theorem kZ {kvs:List (List Int×D)}{t u:List Int}{d:D}(h:dz kvs t=none):dz (kvs++[(t,d)]) u=if u=t then some d else dz kvs u:=by
 unfold dz at *
 rw[List.find?_append]
 by_cases e:u=t
 ·subst e;rw[if_pos rfl,Option.map_eq_none_iff.mp h];simp
 ·rw[if_neg e];cases q:kvs.find? λp=>decide (p.1=u)with
  |some p=>rfl
  |none=>simp[Rr e]
theorem mR {kvs:List (List Int×D)}{x y:Int}{i j:Nat}{d:D}(hx:x=(i:Int))(hy:y=(j:Int))(h:dz kvs (tI (i,j))=some d):o_ (dA kvs) (.tup [.int x,.int y])=some d:=by
 subst hx hy;rw[<- h];exact rZ (t:=tI (i,j))
theorem vn (n:Nat)(ps:List (Nat×Nat)):(f6 n ps).pd.canLay0=true/\(f6 n ps).pd.depth<=4:=by
 have:=sN (n:Int) (ps.map tI);unfold BH at this;rw[QY]at this;exact this
section
theorem zc {l:List Int}{m:Int}(h:iS l=some m):m∈l/\∀x∈l,x<=m:=by
 cases l with
 |nil=>cases h
 |cons a l=>cases h;exact bU l a
theorem zb {l:List Int}{m:Int}(h1:m∈l)(h2:∀x∈l,x<=m):iS l=some m:=by
 cases h:iS l with
 |none=>cases l with|nil=>cases h1|cons a l=>cases h
 |some k =>
  obtain⟨g1,g2⟩:=zc h;have:=h2 _ g1;have:=g2 _ h1;rw[show k=m by lia]
end
section
end
def Ha:V->D
 |.d7=>.d7
 |.bl b=>.bl b
 |.int i=>.int i
 |.str x=>.str x
 |.ref a=>.obj a
 |_=>.d7
def Lx:D->List V->D
 |.lst _,vs=>.lst (vs.map Ha)
 |.dT ks _,vs=>.dT ks (vs.map Ha)
 |.dK ks _,vs=>.dK ks (vs.map Ha)
 |d,_=>d
section
variable {P:Qd}{w:Qq}{C:Cfg}{σ:St}{H:Hp}{β:ba}{own:Nat->List Addr}{i:Nat}
theorem BV {W:Addr->Prop}{H':Hp}{d:D}{v:V}(r:aA P w W H' d v):Own P w H (Ha v) v []:=by
 cases d with
 |tup ds=>obtain⟨a,vs,rfl,_⟩:=r;exact⟨rfl,rfl⟩
 |lst ds=>obtain⟨a,vs,rfl,_⟩:=r;exact⟨rfl,rfl⟩
 |dT ks ds=>obtain⟨a,vs,rfl,_⟩:=r;exact⟨rfl,rfl⟩
 |dK ks ds=>obtain⟨a,vs,rfl,_⟩:=r;exact⟨rfl,rfl⟩
 |sT ts=>obtain⟨a,rfl,_⟩:=r;exact⟨rfl,rfl⟩
 |ob φ=>obtain⟨a,rfl,_⟩:=r;exact⟨rfl,rfl⟩
 |d7=>cases (show v=_ from r);exact⟨rfl,rfl⟩
 |bl b=>cases (show v=_ from r);exact⟨rfl,rfl⟩
 |int b=>cases (show v=_ from r);exact⟨rfl,rfl⟩
 |str b=>cases (show v=_ from r);exact⟨rfl,rfl⟩
 |obj b=>cases (show v=_ from r);exact⟨rfl,rfl⟩
theorem i5 {W:Addr->Prop}{H':Hp}:∀{ds:List D} {vs:List V},ah P w W H' ds vs->aK P w H (vs.map Ha) vs []
 |[],_,e=>by cases e;exact⟨rfl,rfl⟩
 |_::_,_,⟨v,vs,rfl,h1,h2⟩=>⟨v,vs,[],[],rfl,rfl,BV h1,i5 h2⟩
theorem mC {W:Addr->Prop}{H':Hp}{d:D}{o:HO}{vs:List V}{a:Addr}(r:ah P w W H' (EY d) vs)(sh:Ed d o vs)(h:H a=some o):Own P w H (Lx d vs) (.ref a) [a]:=by
 cases d with
 |lst ds=>cases sh;exact⟨a,vs,[],rfl,h,rfl,i5 r⟩
 |dT ks ds=>obtain⟨rfl,l⟩:=sh;exact⟨a,vs,[],rfl,h,l,rfl,i5 r⟩
 |dK ks ds=>obtain⟨rfl,l⟩:=sh;exact⟨a,vs,[],rfl,h,l,rfl,i5 r⟩
 |_=>exact sh.elim
theorem EX {d:D}{o:HO}{vs:List V}(sh:Ed d o vs):∀xs,o≠.tup xs:=λxs z=>by
 cases d with
 |lst ds=>cases sh;cases z
 |dT ks ds=>obtain⟨rfl,l⟩:=sh;cases z
 |dK ks ds=>obtain⟨rfl,l⟩:=sh;cases z
 |_=>exact sh.elim
theorem bD.toShl {d0 d:D}{v:V}{y:Bool}(s:bD P w C σ H β own)(e:β[i]?=some (some (.own d0)))(hσ:σ[i]?=some (some v))(r:DT P w (eg C (Wn own) (yk y)) H d v (own i)):bD P w C σ H (β.set i (some (.shl y d))) own:=by
 refine⟨by simp[s.len],λj y' d' q=>?_,λj d' q=>?_,λj ok q=>?_,s.dm,s.ic,s.i8,s.kp,s.ft,λj y' d' q=>?_⟩
 ·by_cases aD:i=j
  ·subst aD;obtain⟨e',_⟩:=aQ q;cases e'
  ·rw[aO aD]at q;exact s.val j y' d' q
 ·by_cases aD:i=j
  ·subst aD;obtain⟨e',_⟩:=aQ q;cases e'
  ·rw[aO aD]at q;exact s.ow j d' q
 ·by_cases aD:i=j
  ·subst aD;obtain⟨e',_⟩:=aQ q;cases e'
  ·rw[aO aD]at q;exact s.lE j ok q
 ·by_cases aD:i=j
  ·subst aD;obtain⟨e',_⟩:=aQ q;cases e';obtain⟨_,_,_,h0⟩:=s.ow i d0 e;exact⟨v,hσ,r,h0⟩
  ·rw[aO aD]at q;exact s.shl j y' d' q
theorem bD.iq {d:D}{y:Bool}(s:bD P w C σ H β own)(e:β[i]?=some (some (.shl y d))):∃a o vs,σ[i]?=some (some (.ref a))/\own i=[a]/\H a=some o/\Ed d o vs/\ah P w (eg C (Wn own) (yk y)) H (EY d) vs/\C.H0 a=none/\bD P w C σ H (β.set i (some (.own (Lx d vs)))) own:=by
 obtain⟨v,h1,⟨a,o,vs,rfl,h2,h3,h4,h5⟩,h6⟩:=s.shl i y d e;refine⟨a,o,vs,h1,h2,h3,h4,h5,h6 a (by rw[h2];simp),by simp[s.len],λj y' d' q=>?_,λj d' q=>?_,λj ok q=>?_,s.dm,s.ic,s.i8,s.kp,s.ft,λj y' d' q=>?_⟩
 ·by_cases aD:i=j
  ·subst aD;obtain⟨e',_⟩:=aQ q;cases e'
  ·rw[aO aD]at q;exact s.val j y' d' q
 ·by_cases aD:i=j
  ·subst aD;obtain⟨e',_⟩:=aQ q;cases e';exact⟨.ref a,h1,by rw[h2];exact mC h5 h4 h3,h6⟩
  ·rw[aO aD]at q;exact s.ow j d' q
 ·by_cases aD:i=j
  ·subst aD;obtain⟨e',_⟩:=aQ q;cases e'
  ·rw[aO aD]at q;exact s.lE j ok q
 ·by_cases aD:i=j
  ·subst aD;obtain⟨e',_⟩:=aQ q;cases e'
  ·rw[aO aD]at q;exact s.shl j y' d' q
theorem BC {W:Addr->Prop}{d:D}{o:HO}{vs:List V}{a:Addr}(sh:Ed d o vs)(h:H a=some o)(nw:¬ W a)(r:ah P w W H (EY d) vs):aA P w W H d (.ref a):=by
 cases d with
 |lst ds=>cases sh;exact⟨a,vs,rfl,h,nw,r⟩
 |dT ks ds=>obtain⟨rfl,l⟩:=sh;exact⟨a,vs,rfl,h,l,nw,r⟩
 |dK ks ds=>obtain⟨rfl,l⟩:=sh;exact⟨a,vs,rfl,h,l,nw,r⟩
 |_=>exact sh.elim
theorem bD.rM {d:D}{y:Bool}(s:bD P w C σ H β own)(e:β[i]?=some (some (.shl y d))):bD P w C σ H (β.set i (some (.val y d))) (aG own i []):=by
 obtain⟨a,o,vs,h1,h2,h3,h4,h5,h6,s'⟩:=s.iq e;have hl:i<β.length:=(Qg.mp e).1;have f:=s'.freeze (get_set hl);have sub:∀c,eg C (Wn (aG own i [])) (yk y) c->eg C (Wn own) (yk y) c:=d_ (λc z=>dJ z) _;have q:=bD.eC (i:=i) (d:=d) (v:=.ref a) (y:=y) f (BC h4 h3 (λz=>?_) (ah.aX sub h5))
 ·have es:σ.set i (some (.ref a))=σ:=by
   apply Ry;intro j;rw[R5]
   by_cases aD:i=j
   ·subst aD;rw[if_pos rfl,h1,if_pos (Qg.mp h1).1]
   ·rw[if_neg aD]
  have eo:aG (aG own i []) i []=aG own i []:=by
   funext j
   by_cases aD:i=j
   ·rw[<- aD,os_eq,os_eq]
   ·rw[a5 aD,a5 aD]
  rw[es,Tf,Tf,eo]at q;exact q
 ·have nW:¬ Wn (aG own i []) a:=λGI=> by
   obtain⟨j,hj⟩ := GI;obtain⟨hj,ne⟩:=bH hj;exact ne (s.ic j i a hj (by rw[h2];simp))
  rcases z with z|z
  ·cases y with
   |true=>exact z.elim nW λz=>z h6
   |false=>exact nW z
  ·exact(s.dm i a (by rw[h2];simp)).2.2.2 z
end
abbrev JK (k:Kd)(d:D):Prop:=match k with
 |.own=>True
 |.de=>True
 |_=>d.flat=true
theorem KV.yg {P:Qd}{w:Qq}{C:Cfg}{Z:Hp×(Addr->Prop)}{own:Nat->List Addr}{H:Hp}{d:D}{v:V}{k:Kd}(f:JK k d)(r:KV P w C Z own H k d v):aA P w (av C (Wn own) .de) H d v:=by
 cases k with
 |own=>exact r.de
 |de=>exact r
 |old=>exact aA.flat f r
 |bor=>exact aA.flat f r
theorem ah.snoc {P:Qd}{w:Qq}{W:Addr->Prop}{H:Hp}{d:D}{v:V}(h:aA P w W H d v):∀{ds:List D} {vs:List V},ah P w W H ds vs->ah P w W H (ds++[d]) (vs++[v])
 |[],_,e=>by cases e;exact⟨v,[],rfl,h,rfl⟩
 |_::_,_,⟨u,r,rfl,h1,h2⟩=>⟨u,r++[v],rfl,h1,ah.snoc h h2⟩
section
variable {X:Cx}{C:Cfg}{k e:Expr}{es:List Expr}{φ:aY}{φs:bP}{i:Nat}{x:Str}{pos pos' px pc ap cp:Pos}{p:Bool}
def Fb (i:Nat):aY:=λβ R=>∃d,β[i]?=some (some (.shl true d))/\R d .de (β.set i (some (.val true d)))
theorem yy (hN:X.N[i]?=some x:=by rfl)(hv:m6 X.env.scope x:=by first|exact .inl rfl|exact .inr (.inl rfl)|exact .inr (.inr rfl))(hd:(x==("__debug__" : Str))=false:=by decide)(ee:(x==("__classdict__" : Str))=false:=by decide):
  PQ X C false (.Name x pos) (Fb i):=⟨λβ R R' k h=>by obtain⟨b,e,h⟩:=h;exact⟨b,e,k _ _ _ h⟩,(cy hN hv hd ee).pre λσ H Q h=>by
 obtain⟨β,own,s,d,e,q⟩:=h;have f:=s.rM e;obtain⟨v,h1,h2⟩:=f.dz (y:=true) (get_set (Qg.mp e).1);exact⟨v,h1,q v H _ ⟨f,⟨λb z=>.inl (dJ z),Kp.refl,λ_ z=>z⟩,λz=>(nomatch z),λ_ z=>dJ z⟩ h2⟩⟩
theorem Bt {own:Nat->List Addr}{i:Nat}{a:Addr}(h:own i=[a]):∀c,Wn (aG own i [a]) c->Wn own c:=λc GG=> by
 obtain⟨j,hj⟩ := GG
 by_cases aD:i=j
 ·rw[<- aD,os_eq]at hj;exact⟨i,by rw[h];exact hj⟩
 ·rw[a5 aD]at hj;exact⟨j,hj⟩
theorem bD.qb {P:Qd}{w:Qq}{U:Addr->Prop}{σ:St}{H:Hp}{β:ba}{own:Nat->List Addr}{d d':D}{a:Addr}{o:HO}{vs':List V}(b:bD P w (C.u U) σ H β own)(e:β[i]?=some (some (.shl true d)))(hσ:σ[i]?=some (some (.ref a)))
  (sh:Ed d' o vs') (r:ah P w (av (C.u U) (Wn own) .de) (upd H a o) (EY d') vs'):bD P w C.z σ (upd H a o) (β.set i (some (.shl true d'))) (aG own i [a])/\(∀c∈[a],c∈own i\/(C.H0 c=none/\¬ Wn own c/\U c))/\Wn own a/\∃oc,H a=some oc/\∀xs,oc≠.tup xs:=by
 obtain⟨a',o1,vs,h1,h2,h3,h4,h5,h6,s'⟩:=b.iq e;rw[hσ]at h1;cases h1;have hl:i<β.length:=(Qg.mp e).1;have ha:a∈own i:=by rw[h2];simp
 have hA:∀c∈[a],c∈own i\/(C.H0 c=none/\¬ Wn own c/\U c):=λc hc=>.inl (by rw[h2];exact hc)
 have q:=s'.putIn (get_set hl) hσ ha (mC r sh au) (by simp) hA
 rw[Tf]at q;have q2:=q.toShl (d:=d') (y:=true) (get_set (by simpa using hl)) hσ ⟨a,o,vs',rfl,by rw[os_eq],au,sh,ah.aX (λc z=>?_) r⟩
 ·rw[Tf]at q2;exact⟨q2,hA,⟨i,ha⟩,o1,h3,EX h4⟩
 ·rcases z with z|z
  ·exact gM (C:=C) (Bt h2) .de c z
  ·exact z.elim
theorem wj {H:Hp}{a:Addr}{o oc:HO}{W:Addr->Prop}(h:H a=some oc)(ht:∀xs,oc≠.tup xs)(hw:W a):Kp W H (upd H a o):=(hV h ht).mono λc z=>by rw[z];exact hw
theorem rp (he:∀U,PQ X (C.u U) p e φ)(hN:X.N[i]?=some x:=by rfl)(hv:m6 X.env.scope x:=by first|exact .inl rfl|exact .inr (.inl rfl)|exact .inr (.inr rfl))(hd:(x==("__debug__" : Str))=false:=by decide)(ee:(x==("__classdict__" : Str))=false:=by decide)
  (jR:Uy (.Name x px) "append" X.env (eval (.Name x px) X.env)=eval (.Name x px) X.env:=by rfl)
  (qr:((SF cp (Qt [e] X.env)).all (λx=>!x.1)&&(backToKw cp (UU [] X.env)).all (λx=>x.1.isSome)&&decide ([e].length+([]:List Ur).length+(if ([]:List Ur).isEmpty then 0 else 1)<30))=true:=by rfl)
  (jP:(ap.endLine==cp.line)=true:=by rfl) (hs:Qt [e] X.env=(false,eval e X.env)::Qt [] X.env:=by rfl) (fR:(SF cp (Qt [] X.env)).any (·.1)=false:=by rfl)
  (t_:RN (.Call (.Attribute (.Name x px) "append" ap) [e] [] cp) none pos.line X.env=pure false:=by rfl) :
  PB X C (.Expr (.Call (.Attribute (.Name x px) "append" ap) [e] [] cp) pos) (λE β=>(∃ds,β[i]?=some (some (.shl true (.lst ds))))/\φ β λd k β'=>JK k d/\∃ds,β'[i]?=some (some (.shl true (.lst ds)))/\ds.length<Qp/\E.nx (β'.set i (some (.shl true (.lst (ds++[d])))))):=by
 refine⟨λE E' β l h=>by obtain⟨h1,q⟩:=h;exact⟨h1,(he λ_=>False).mono _ _ _ (λd k β' h=>by obtain⟨f,ds,h1,h2,q⟩:=h;exact⟨f,ds,h1,h2,l.nx _ q⟩) q⟩,λpins s σ H D I ⟨Z,E,β,⟨own,sq,n⟩,⟨⟨MG,hb⟩,q⟩,ok⟩=>?_⟩
 refine iX (pos:=pos) (vI (apos:=ap) (cpos:=cp) PySem.F.plainAttrs_list PySem.F.slot_list_append PySem.F.type_list_append fy (cy (pos:=px) hN hv hd ee) (bo (he λa=>H a=none).pe dt hs) jR qr jP hs fR) t_ pins s σ H D I ?_;obtain⟨a,o0,vs,h1,h2,h3,h4,_⟩:=sq.iq hb;cases h4;refine⟨.ref a,h1,.inl ⟨rfl,vs,c6.of h3⟩,tQ.of (he λa=>H a=none) (sq.gc (C:=C.z) (U:=λa=>H a=none) λa z=>z) q λd k β' v H1 aE ⟨f,ds,iV,hl,q⟩ o r=>?_⟩;obtain⟨a',o1,vs',g1,g2,g3,g4,g5,_,_⟩:=o.sq.iq iV;rw[h1]at g1;cases g1;cases g4;have wa:av (C.u λa=>H a=none) (Wn aE) .de a:=.inl ⟨i,by rw[g2];simp⟩
 have kp:Kp (av (C.u λa=>H a=none) (Wn aE) .de) H1 (upd H1 a (.lst (vs'++[v]))):=wj g3 (λxs z=>by cases z) wa
 obtain⟨s2,hA,hw,wJ⟩:=o.sq.qb (d':=.lst (ds++[d])) (o:=.lst (vs'++[v])) (vs':=vs'++[v]) iV h1 rfl (ah.snoc ((r.yg f).keep kp) ((ah.aX (λc z=>.inl z) g5).keep kp));exact⟨a,vs',v,rfl,rfl,g3,by rw[g5.length];exact hl,ok.nx _ _ _ ⟨_,s2,fM (C:=C) (n.trans o.sn) (λb z=>n.free z) hw wJ hA⟩ q⟩
theorem yG (he:∀U,m8 X (C.u U) p es φs)(hN:X.N.Nodup)(hi:X.N[i]?=some x:=by rfl)(hx:Loc X.env.scope x:=by first|exact .inl rfl|exact .inr rfl)
  (hs:RN (.List es pc) (some (.Name x pos')) pos.line X.env=pure false:=by rfl) (hf:X.fn x=true\/X.env.scope.names.lookup x=some .local:=by first|exact .inl rfl|exact .inr rfl|assumption) :
  PB X C (.Assign [.Name x pos'] (.List es pc) pos) (λE β=>φs β λds ks β'=>eK ks=.de/\ds.length<=Qp/\i<β'.length/\E.nx (β'.set i (some (.shl true (.lst ds))))) :=
 ⟨λE E' β l h=>(he λ_=>False).mono _ _ _ (λds ks β' h=>⟨h.1,h.2.1,h.2.2.1,l.nx _ h.2.2.2⟩) h,λpins s σ H D I GF=> by
  obtain⟨Z,E,β,⟨own,sq,n⟩,q,ok⟩ := GF;refine gW hN hi hx (my (he λa=>H a=none).pa) hs hf pins s σ H D I ?_;refine nz.of (he λa=>H a=none) (sq.gc (C:=C.z) (U:=λa=>H a=none) λa z=>z) q λds ks β1 vs H1 aE ⟨hk,hl,Mr,q⟩ o r=>⟨by rw[r.length];exact hl,λa ha=>?_⟩
  have MA:H a=none:=o.sn.free ha;have h0:C.H0 a=none:=QG λz=>o.sq.ft a z ha;have nw:¬ Wn aE a:=λz=>o.sq.rW a z ha;have rr:=r.fD;rw[hk]at rr;have s1:=o.sq.same (az.new (o:=.lst vs) ha);have s2:=s1.pY (i:=i) (mC (d:=.lst ds) (vs:=vs) rr rfl au) (by simp) λc hc=>⟨by rw[Qj.mp hc];exact h0,by rw[Qj.mp hc];exact nw,by rw[Qj.mp hc];exact MA⟩
  have s3:=s2.toShl (d:=.lst ds) (y:=true) (get_set Mr) (get_set (by rw[<- o.sq.len];exact Mr)) ⟨a,.lst vs,vs,rfl,by rw[os_eq],au,rfl,(ah.grow (λc z=>?_) rr).same (az.new ha)⟩
  ·rw[Tf]at s3;refine ok.nx _ _ _ ⟨_,s3,?_⟩ q;have m:=(n.trans o.sn).same (az.new (o:=.lst vs) ha);exact⟨λb GD=> by
    obtain⟨j,hj⟩ := GD
    by_cases aD:i=j
    ·rw[<- aD,os_eq]at hj;rw[Qj.mp hj];exact .inr (n.free MA)
    ·rw[a5 aD]at hj;exact m.w b ⟨j,hj⟩,m.k,m.d⟩
  ·rcases z with z|z
   ·rcases z with⟨j,hj⟩|z
    ·by_cases aD:i=j
     ·rw[<- aD,os_eq]at hj;rw[Qj.mp hj];exact .inr ha
     ·rw[a5 aD]at hj;exact .inl (.inl ⟨j,hj⟩)
    ·exact .inl (.inr z)
   ·exact z.elim⟩
end
section
variable {X:Cx}{C:Cfg}{e k k2:Expr}{φ φk φj:aY}{i:Nat}{x:Str}{pos pos' px kp:Pos}{p:Bool}
theorem nP (he:∀U,PQ X (C.u U) p e φ)(hk:∀U,PQ X (C.u U) true k φk)(hj:∀U,PQ X (C.u U) true k2 φj)(hN:X.N[i]?=some x:=by rfl)(hv:m6 X.env.scope x:=by first|exact .inl rfl|exact .inr (.inl rfl)|exact .inr (.inr rfl))(hd:(x==("__debug__" : Str))=false:=by decide)(ee:(x==("__classdict__" : Str))=false:=by decide)
  (Dj:gP k:=by exact λ_ _=>rfl)
  (ha:∀v,assign (.Subscript (.Subscript (.Name x px) k kp) k2 pos') X.env v=(do
   let ov <- holding [v] (eval (.Subscript (.Name x px) k kp) X.env)
   let iv <- holding [v,ov] (eval k2 X.env)
   T3 pos'
   holding [v,ov,iv] (setItem ov iv v)
   release [v,ov,iv] []):=by intro _;rfl) (hs:Uw [.Subscript (.Subscript (.Name x px) k kp) k2 pos'] e pos.line X.env=pure false:=by rfl) (hw:Ux [.Subscript (.Subscript (.Name x px) k kp) k2 pos'] e X.env=pure none:=by rfl)
  (h1:(R_ [.Subscript (.Subscript (.Name x px) k kp) k2 pos'] X.env).map (·.2)=[assign (.Subscript (.Subscript (.Name x px) k kp) k2 pos') X.env]:=by rfl) :
  PB X C (.Assign [.Subscript (.Subscript (.Name x px) k kp) k2 pos'] e pos) (λE β=>φ β λd kd β1=>d.flat=true/\(∃d0,β1[i]?=some (some (.own d0)))/\φk β1 λjd _ β2=>∃ds j m es,jd=.int j/\β2[i]?=some (some (.own (.lst ds)))/\lz ds.length j=some m/\ds[m]?=some (.lst es) /\
   φj β2 λid _ β3=>∃j2 m2,id=.int j2/\β3[i]?=some (some (.own (.lst ds)))/\lz es.length j2=some m2/\E.nx (β3.set i (some (.own (.lst (ds.set m (.lst (es.set m2 d)))))))):=by
 refine⟨λE E' β l q=>(he λ_=>False).mono _ _ _ (λd kd β1 h=>by
  obtain⟨f,h0,q⟩:=h;exact⟨f,h0,(hk λ_=>False).mono _ _ _ (λjd _ β2 h=>by
   obtain⟨ds,j,m,es,g1,g2,g3,g4,q⟩:=h;exact⟨ds,j,m,es,g1,g2,g3,g4,(hj λ_=>False).mono _ _ _ (λid _ β3 h=>by obtain⟨j2,m2,g5,g6,g7,q⟩:=h;exact⟨j2,m2,g5,g6,g7,l.nx _ q⟩) q⟩) q⟩) q,λpins s σ H De I ⟨Z,E,β,⟨own,sq,n⟩,q,ok⟩=>?_⟩
 refine jy (he λa=>H a=none).pe (mx (eR (pos:=kp) cu (cy (pos:=px) hN hv hd ee) (hk λa=>H a=none).pe Dj) (hj λa=>H a=none).pe set_list ha) hs hw h1 pins s σ H De I ?_;refine tQ.of (he λa=>H a=none) (sq.gc (C:=C.z) (U:=λa=>H a=none) λa z=>z) q λd kd β1 v H1 aE ⟨f,⟨d0,uK⟩,q⟩ o r=>?_;obtain⟨v0,i_,_,_⟩:=o.sq.ow i d0 uK;refine⟨v0,i_,tQ.of (hk λa=>H a=none) o.sq q λjd kk β2 kv H2 bp ⟨ds,j,m,es,e1,hb,Oi,hm,q⟩ o2 r2=>?_⟩;subst e1;cases r2.rep;obtain⟨v1,wF,ow,h0⟩:=o2.sq.ow i _ hb;rw[i_]at wF;cases wF;obtain⟨a,vs,c,us,B,rfl,q1,q2,q3,q4,q5,q6,q7,q8,q9⟩:=gx (l:=true) ow (o2.sq.i8 i) hm;have ED:j6 vs j=some (.ref c):=by unfold j6;rw[q2,Oi];exact q3
 refine⟨a,vs,j,.ref c,rfl,rfl,c6.of q1,ED,tQ.of (hj λa=>H a=none) o2.sq q λid kj β3 iv H3 Fj ⟨j2,m2,e2,Mw,Mq,q⟩ o3 r3=>?_⟩;subst e2;cases r3.rep;obtain⟨s3,e3⟩:=o3.pu rfl;subst e3;obtain⟨v2,L_,Np,PX⟩:=o3.sq.ow i _ Mw;rw[i_]at L_;cases L_;obtain⟨a',vs',c',pR,B',ea,p1,p2,p3,p4,p5,p6,p7,p8,p9⟩:=gx (l:=true) Np (o3.sq.i8 i) hm;cases ea;have e4:=s3 _ _ q1;rw[p1]at e4;cases e4;rw[q3]at p3;cases p3;have e5:=s3 _ _ q4;rw[p4]at e5;cases e5;have Di:m2<es.length:=CG Mq;have Oc:es[m2]?=some es[m2]:=Qm Di;obtain⟨w0,B1,B2,B3,k1,rfl,k3,k4,k5⟩:=p6.split Oc;have Ih:m2<us.length:=by rw[p6.length];exact Di
 have rf:Own X.prog X.w H3 d v []:=cX f (((aA.flat (W':=λ_=>True) f r.rep).keep (o2.sn.k.mono λ_ _=>trivial)).same s3);have Jq:aK X.prog X.w H3 (es.set m2 d) (us.set m2 v) (B1++([]++B3)):=by
  rw[Tc,if_pos Di,Tc,if_pos Ih];exact k3.append ⟨v,_,[],B3,rfl,rfl,rf,k5⟩
 have nd:=p8;obtain⟨n1,n2,n3⟩:=Q9.mp nd;obtain⟨n4,n5,n6⟩:=Q9.mp n2;obtain⟨A',g1,g2,g3⟩:=p9 (es.set m2 d) (us.set m2 v) (B1++([]++B3)) Jq (Q9.mpr ⟨n1,n5,λx hx y hy=>n3 x hx y (QV _ hy)⟩)
  (λx hx=>.inl ((Qr.mp hx).elim (λz=>by simp[z]) λz=>by simp[show x∈B3 from z])) (λx hx=>(p7 x ((Qr.mp hx).elim (λz=>by simp[z]) λz=>by simp[show x∈B3 from z])).2)
 have hA:∀x∈A',x∈Fj i\/(C.H0 x=none/\¬ Wn Fj x/\H x=none):=λx hx=>by
  rcases g3 x hx with z|z
  ·exact .inl z
  ·exact .inl (p7 x ((Qr.mp z).elim (λz=>by simp[z]) λz=>by simp[show x∈B3 from z])).1
 exact⟨c,us,j2,m2,rfl,rfl,p4,by rw[p6.length];exact Mq,ok.nx _ _ _ ⟨_,o3.sq.putIn (C:=C) (U:=λa=>H a=none) Mw i_ p5 g1 g2 hA,fM (((n.trans o.sn).trans o2.sn).trans o3.sn) (λb z=>n.free z) ⟨i,p5⟩ ⟨_,p4,λxs z=>by cases z⟩ hA⟩ q⟩
end
end L2.Q
namespace L2
open PySem PySem.Spec PySem.SeqAt PyProof.Rows
def Dx (a b:D):Option D:=a.tM.bind λds=>b.int?.bind λk=>if 0<=k/\k<2 ^ 62/\ds.length*k.toNat<=Qp then some (.lst (Qw k.toNat ds).flatten) else none
theorem gV {P:Qd}{w:Qq}{W:Addr->Prop}{H:Hp}{ds:List D}{vs:List V}(h:ah P w W H ds vs):∀k:Nat,ah P w W H (Qw k ds).flatten (Qw k vs).flatten
 |0=>rfl
 |k+1=>by
  rw[Rt,R7,Rt,R7];exact h.append (gV h k)
theorem jD {X:Cx}:HC X (RF .Mult) Dx:=by
 intro pins s σ H x y v u Q I rx ry h;obtain⟨W,d1,d2,d,hd,r1,r2,e,q⟩:=h;obtain⟨ds,h1,e⟩:=Rk.mp e;obtain⟨k,h2,e⟩:=Rk.mp e;obtain⟨⟨k0,k1,hl⟩,rfl⟩:=c_ e;rw[D.mL h1]at r1;rw[D.rH h2]at r2;obtain⟨p,vs,rfl,g1,n1,q1⟩:=r1;exact BY pins s σ H _ _ v u Q I rx ry ⟨p,k,vs,rfl,r2,g1,by lia,by lia,by rw[q1.length];exact hl,λl wM=>q _ _ (az.new wM) (Rp.hE hd wM (gV q1 _)) λf=>tG wM f (gV q1 _)⟩
namespace Q
theorem yr {d:D}{k:Nat}:(Qw k [d]).flatten=Qw k d:=by
 induction k with
 |zero=>rfl
 |succ k ih=>rw[Rt,R7,ih];rfl
section
end
end Q
end L2
namespace jb
open PySem L2 L2.Q
def oQ:FD:=λds R=>∃m:Int,ds=[.int m]/\0<=m/\m<=40/\∀(n:Int) ts,0<=n->n<=m->Drawn n ts->R (.tup [.int n,.lst (ts.map kD)])
theorem oQ.mono:eN oQ:=λds R R' k h=>by obtain⟨m,e,h1,h2,q⟩:=h;exact⟨m,e,h1,h2,λn ts a b c=>k _ (q n ts a b c)⟩
theorem ug {n:Int}{ks:List (List Int)}(h:fE n ks)(nd:ks.Nodup):∃ts,cutD ((iw ks).map kD) none (some 300)=ts.map kD/\Drawn n ts:=by
 refine⟨(iw ks).take (min 300 (iw ks).length),?_,?_,?_,?_,?_⟩
 ·unfold cutD;rw[HT.js,show (some (300:Int))=some ((300:Nat):Int) from rfl,HT.l9,List.drop_zero,<- Uz]
  simp
 ·rw[QJ];lia
 ·exact λt ht=>h t ((gh _).mem_iff.mp (Uo ht))
 ·exact List.Pairwise.take (jm _)
 ·exact List.Nodup.sublist (List.take_sublist _ _) ((gh _).nodup_iff.mpr nd)
section
variable {P:Qd}{w:Qq}{K:PySem.W.Frag}{mg:Str->Option P_}{base:Heap}
theorem bf:aS ["deck","most","size","great","many","ties","way","a","b","k"] ["deck","most"] (aC fv):=mkS
theorem B6 {Io zG} (dR:D0 K mg Io zG) {Dt qv} (dT:D1 K mg Dt qv) (B:Bs mg):a9 P w K mg base cW 3 Io zG ["deck","most"] (iP P w iR true oQ):=by
 have GT:a9 P w K mg base cW 1 _ _ _ (iP P w iR true bc):=mH dT.F;refine B_ dR.F bf (λds R GC=> by obtain⟨m,e,_⟩ := GC;subst e;rfl) λc5 A outer s H E IO hr=>⟨_,(ai (aV (i:=2) (aL ag bx (ao ay aj (ao ay aj (ao ay jD (aW (aa af ae)) af) (ao ay jD (aW (aa af ae)) af)) (aW (aa af ae))) (aJ (ih:=0) bc.mono GT (hr.mono (by decide)) dT.m dT.F.kp dT.b (aa af ae))) bf.nd)
    (ai (aV (i:=3) (aL ag bx (aW (aa (aJ (ih:=0) bc.mono GT (hr.mono (by decide)) dT.m dT.F.kp dT.b (aa (ao ay aj (ab (i:=1)) af) ae)) (aa (ab (i:=1)) ae))) (aJ (ih:=0) bc.mono GT (hr.mono (by decide)) dT.m dT.F.kp dT.b (aa af ae))) bf.nd)
    (ai (aV (i:=4) (a6 ag (bB.m (fV rfl)) B.min mX (aa (ab (i:=1)) (aa (aL ag bx (aW (aa (aJ (ih:=0) bc.mono GT (hr.mono (by decide)) dT.m dT.F.kp dT.b (aa af ae)) (aa (aJ (ih:=0) bc.mono GT (hr.mono (by decide)) dT.m dT.F.kp dT.b (aa af ae)) (aa (ab (i:=3)) ae)))) (ab (i:=2))) ae))) bf.nd)
    (ai (fx (i:=5) (λ_=>(yz true)) bf.nd)
    (ai (aV (i:=6) (aJ (ih:=0) bc.mono GT (hr.mono (by decide)) dT.m dT.F.kp dT.b (aa af ae)) bf.nd)
    (ai (b7 Q1 rfl (bG B.range (aa (ab (i:=4)) ae)) (ak (i:=7) bf.nd) (bX (bM (qJ.t (iZ (aI ag (bt.m (b8 hr.units)) (ab (i:=6)) af) (gm (aI ag (bt.m dO) (ao ay aj (ab (i:=7)) af) (ab (i:=4)))))) (ar (i4 (i:=5) hr.c7 (cx (aa (ab (i:=7)) (aa (ao ay aj (ab (i:=7)) af) ae))))) aT)
    (bX (bM (qJ.t (iZ (aI ag (bt.m (b8 hr.units)) (ab (i:=6)) af) (gm (aI ag (bt.m dO) (ab (i:=7)) (ao ag (bt.m aP) (ao ag (bt.m aP) (ab (i:=4)) af) (ab (i:=7))))))) (ar (i4 (i:=5) hr.c7 (cx (aa (ab (i:=7)) (aa (ao ag (bt.m aP) (ao ag (bt.m aP) (ab (i:=4)) af) (ab (i:=7))) ae))))) aT)
    (ar (b7 Q1 rfl (dq B.range (aa (ao ay aj (ab (i:=7)) af) (aa (a6 ag (bB.m (fV rfl)) B.min mX (aa (ab (i:=4)) (aa af ae))) ae))) (ak (i:=8) bf.nd) (ar (bM (qJ.t (mq (aI ag (bt.m (b8 hr.units)) (ab (i:=6)) af) (mn (qJ.t (iZ (aI ag (bt.m (b8 hr.units)) (ab (i:=6)) af) (gm (aI ag (bt.m (b8 hr.units)) (aJ (ih:=0) bc.mono GT (hr.mono (by decide)) dT.m dT.F.kp dT.b (aa af ae)) af))))))) (ar (i4 (i:=5) hr.c7 (cx (aa (ab (i:=7)) (aa (ab (i:=8)) ae))))) aT)))))))
    (ai (b7 Q1 rfl (bG B.range (aa (ao ag (bt.m i7) (aJ (ih:=0) bc.mono GT (hr.mono (by decide)) dT.m dT.F.kp dT.b (aa (aL ag bx (aW (aa af (aa af (aa af ae)))) (aJ (ih:=0) bc.mono GT (hr.mono (by decide)) dT.m dT.F.kp dT.b (aa af ae))) ae)) (dg ag (bB.m uq) B.int DJ (aa (qd ag (bt.m BZ) (ab (i:=4)) af) ae))) ae)) (ak (i:=9) bf.nd) (ai (aV (i:=7) (aJ (ih:=0) bc.mono GT (hr.mono (by decide)) dT.m dT.F.kp dT.b (aa (ab (i:=4)) ae)) bf.nd)
    (ai (aV (i:=8) (ao ag (bt.m mE) (ao ay aj (ao ay aj (ab (i:=7)) af) (aJ (ih:=0) bc.mono GT (hr.mono (by decide)) dT.m dT.F.kp dT.b (aa (ao ag (bt.m aP) (ab (i:=4)) af) ae))) (ab (i:=4))) bf.nd)
    (ar (i4 (i:=5) hr.c7 (cx (aa (a6 ag (bB.m (fV rfl)) B.min mX (aa (ab (i:=7)) (aa (ab (i:=8)) ae))) (aa (a6 ag (bB.m (qG rfl)) B.max mY (aa (ab (i:=7)) (aa (ab (i:=8)) ae))) ae))))))))
    (ar (bw (cx (aa (ab (i:=4)) (aa (gn (a6 ay (mW rfl) B.sorted ux (aa (ab (i:=5)) ae)) cL (cK af)) ae)))))))))))),λds R h=>?_⟩
 obtain⟨m,rfl,PH,Ii,q⟩:=h;have uD:(1:Nat)<=Qp:=cb (by lia)
 refine⟨trivial,uD,trivial,_,rfl,.inl ⟨rfl,trivial,trivial,uD,trivial,_,rfl,.inl ⟨rfl,_,rfl,.inl ⟨rfl,trivial,trivial,uD,_,rfl,.inl ⟨rfl,trivial,rfl,trivial,rfl,trivial,16,rfl,by lia,by lia,λr r0 r1=>pick r0 (by simpa using r1) λd hd=>?_⟩⟩⟩⟩⟩
 obtain⟨sz,rfl,s0,s1⟩:∃s:Nat,d=.int (s:Int)/\0<=s/\s<=2:=by
  simp at hd;rcases hd with rfl|rfl|rfl
  ·exact⟨0,rfl,by lia,by lia⟩
  ·exact⟨1,rfl,by lia,by lia⟩
  ·exact⟨2,rfl,by lia,by lia⟩
 refine⟨rfl,_,rfl,trivial,_,rfl,trivial,rfl,trivial,m+1,rfl,by lia,by lia,λg0 P1 P0=>⟨trivial,_,rfl,trivial,k7,trivial,rfl,trivial,rfl,trivial,2,rfl,by lia,by lia,λr r0 r1=>pick r0 (by simpa using r1) λd hd=>?_⟩⟩
 obtain⟨gr,rfl,OE,PZ⟩:∃s:Int,d=.int s/\0<=s/\s<=m:=by
  simp only[Qc,QT,or_false]at hd;rcases hd with rfl|rfl
  ·exact⟨g0,rfl,by lia,by lia⟩
  ·exact⟨m,rfl,by lia,by lia⟩
 refine⟨_,rfl,trivial,rfl,trivial,rfl,trivial,7,rfl,by lia,by lia,λu u0 u1=>⟨trivial,rfl,trivial,rfl,trivial,11,rfl,by lia,by lia,λv v0 v1=>⟨trivial,_,rfl,trivial,LB,trivial,_,rfl,pick (by lia) (by show (sz:Int)<3;lia) λd hd=>?_⟩⟩⟩
 obtain⟨x,rfl,JT⟩:∃s:Int,d=.int s/\0<=s:=by
  simp only[Qc,QT,or_false]at hd;rcases hd with rfl|rfl|rfl
  ·exact⟨u,rfl,u0⟩
  ·exact⟨v,rfl,v0⟩
  ·exact⟨gr,rfl,OE⟩
 obtain⟨n,hn,n0,n1⟩:∃n:Int,o9 [.int m,.int x]=some (.int n)/\0<=n/\n<=m:=⟨_,o8,by split <;> lia,by split <;> lia⟩
 refine⟨trivial,_,hn,trivial,?_⟩;refine⟨rfl,trivial,rfl,trivial,6,rfl,by lia,by lia,λway w0 w1=>?_⟩
 have add:∀{ts:List (List Int)} {t:List Int},ts.Nodup->fE n ts->Ir n t->(pC ts t).Nodup/\fE n (pC ts t)/\(pC ts t).length<=ts.length+1:=λ{ts t} h1 h2 h3=>by
  unfold pC
  split
  ·exact⟨h1,h2,by lia⟩
  ·next hn =>
   refine⟨Q9.mpr ⟨h1,by simp,λx hx y hy z=>?_⟩,λu hu=>?_,by simp⟩
   ·rw[Qj.mp hy]at z;exact hn (by rw[<- z];exact hx)
   ·rcases Qr.mp hu with z|z
    ·exact h2 u z
    ·rw[Qj.mp z];exact h3
 refine⟨_,rfl,trivial,n,rfl,by lia,by lia,trivial,?_⟩
 refine⟨λi β=>∃(ts:List (List Int)) (x7 x8 x9:Option Q.B),β=[some (.hand iR),some (.val false (.int m)),some (.val true (.int sz)),some (.val true (.int gr)),some (.val true (.int n)),some (.own (dP ts true)),some (.val true (.int way)),x7,x8,x9]/\ts.Nodup/\fE n ts/\ts.length<=2*i+23*min i 23,⟨[],_,_,_,rfl,Q5,fE.nil,by simp⟩,?_,?_⟩
 ·rintro i d β hd ⟨ts,x7,x8,x9,rfl,h1,h2,h3⟩;obtain⟨hi,rfl⟩:=bK hd;refine⟨λβ=>∃(ts:List (List Int)) (x8 x9:Option Q.B),β=[some (.hand iR),some (.val false (.int m)),some (.val true (.int sz)),some (.val true (.int gr)),some (.val true (.int n)),some (.own (dP ts true)),some (.val true (.int way)),some (.val true (.int (0+(i:Int)))),x8,x9]/\ts.Nodup/\fE n ts/\ts.length<=2*i+23*min i 23+1,?_,?_⟩
  ·refine⟨_,rfl,trivial,_,bI _ _,_,rfl,jO (λ_=>⟨_,rfl,trivial,_,rfl,trivial,_,rfl,_,rfl,_,rfl,jO (λeX=>?_) (λ_=>⟨ts,_,_,rfl,h1,h2,by lia⟩)⟩) (λ_=>pI rfl ⟨ts,_,_,rfl,h1,h2,by lia⟩)⟩
   obtain⟨g1,g2,g3⟩:=add h1 h2 (t:=[0+(i:Int),0+(i:Int)+1]) ⟨_,_,rfl,by lia,by lia,by lia⟩
   exact⟨⟨_,rfl⟩,_,rfl,trivial,_,rfl,trivial,_,rfl,trivial,k7,ts,[0+(i:Int),0+(i:Int)+1],rfl,rfl,by rw[RU];lia,_,_,_,rfl,g1,g2,by lia⟩
  rintro β ⟨ts,x8,x9,rfl,h1,h2,h3⟩;refine⟨λβ=>∃(ts:List (List Int)) (x8 x9:Option Q.B),β=[some (.hand iR),some (.val false (.int m)),some (.val true (.int sz)),some (.val true (.int gr)),some (.val true (.int n)),some (.own (dP ts true)),some (.val true (.int way)),some (.val true (.int (0+(i:Int)))),x8,x9]/\ts.Nodup/\fE n ts/\ts.length<=2*i+23*min i 23+2,?_,?_⟩
  ·refine⟨_,rfl,trivial,_,bI _ _,_,rfl,jO (λ_=>⟨_,rfl,trivial,_,rfl,trivial,_,rfl,trivial,_,rfl,_,rfl,_,rfl,_,rfl,jO (λeX=>?_) (λ_=>⟨ts,_,_,rfl,h1,h2,by lia⟩)⟩) (λ_=>pI rfl ⟨ts,_,_,rfl,h1,h2,by lia⟩)⟩
   obtain⟨g1,g2,g3⟩:=add h1 h2 (t:=[0+(i:Int),n-1-(0+(i:Int))]) ⟨_,_,rfl,by lia,by lia,by lia⟩
   exact⟨⟨_,rfl⟩,_,rfl,trivial,_,rfl,trivial,_,rfl,trivial,_,rfl,_,rfl,trivial,k7,ts,[0+(i:Int),n-1-(0+(i:Int))],rfl,rfl,by rw[RU];lia,_,_,_,rfl,g1,g2,by lia⟩
  rintro β ⟨ts,x8,x9,rfl,h1,h2,h3⟩;obtain⟨fF,Kt,PM,KI⟩:∃h:Int,o9 [.int n,.int 24]=some (.int h)/\h<=n/\h<=24/\0<=h:=⟨_,o8,by split <;> lia,by split <;> lia,by split <;> lia⟩
  refine⟨_,rfl,trivial,_,rfl,trivial,_,rfl,trivial,trivial,_,Kt,trivial,0+(i:Int)+1,fF,rfl,⟨by lia,by lia,by lia,by lia⟩,trivial,?_⟩
  refine⟨λj β=>∃(ts:List (List Int)) (x8 x9:Option Q.B),β=[some (.hand iR),some (.val false (.int m)),some (.val true (.int sz)),some (.val true (.int gr)),some (.val true (.int n)),some (.own (dP ts true)),some (.val true (.int way)),some (.val true (.int (0+(i:Int)))),x8,x9]/\ts.Nodup/\fE n ts/\ts.length<=2*i+23*min i 23+2+j,⟨ts,_,_,rfl,h1,h2,by lia⟩,?_,?_⟩
  ·rintro j d β hd ⟨ts,x8,x9,rfl,h1,h2,h3⟩;obtain⟨hj,rfl⟩:=bK hd;obtain⟨g1,g2,g3⟩:=add h1 h2 (t:=[0+(i:Int),0+(i:Int)+1+(j:Int)]) ⟨_,_,rfl,by lia,by lia,by lia⟩
   refine⟨_,rfl,trivial,_,bI _ _,_,rfl,jO (λ_=>zq rfl ?_) (λ_=>⟨_,rfl,trivial,_,bI _ _,_,rfl,jO (λ_=>⟨rfl,trivial,rfl,trivial,3,rfl,by lia,by lia,λr r0 r1=>⟨trivial,_,bI _ _,_,rfl,jO (λ_=>?_) (λ_=>⟨ts,_,_,rfl,h1,h2,by lia⟩)⟩⟩) (λ_=>pI rfl ⟨ts,_,_,rfl,h1,h2,by lia⟩)⟩)⟩
   ·exact⟨⟨_,rfl⟩,_,rfl,trivial,_,rfl,trivial,k7,ts,[0+(i:Int),0+(i:Int)+1+(j:Int)],rfl,rfl,by rw[RU];lia,_,_,_,rfl,g1,g2,by lia⟩
   ·exact⟨⟨_,rfl⟩,_,rfl,trivial,_,rfl,trivial,k7,ts,[0+(i:Int),0+(i:Int)+1+(j:Int)],rfl,rfl,by rw[RU];lia,_,_,_,rfl,g1,g2,by lia⟩
  ·rintro β ⟨ts,x8,x9,rfl,h1,h2,h3⟩;rw[bR]at h3;exact⟨ts,_,_,_,rfl,h1,h2,by lia⟩
 ·rintro β ⟨ts,x7,x8,x9,rfl,h1,h2,h3⟩;rw[bR]at h3;refine⟨rfl,trivial,trivial,trivial,LB,trivial,rfl,trivial,rfl,trivial,3,rfl,by lia,by lia,λr r0 r1=>pick r0 (by simpa using r1) λd hd=>?_⟩
  obtain⟨mm,rfl,NH,Pr⟩:∃m:Int,d=.int m/\0<m/\m<=301:=by
   simp only[Qc,QT,or_false]at hd;rcases hd with rfl|rfl|rfl
   ·exact⟨5,rfl,by lia,by lia⟩
   ·exact⟨21,rfl,by lia,by lia⟩
   ·exact⟨301,rfl,by lia,by lia⟩
  refine⟨trivial,rfl,trivial,mm,rfl,NH,by lia,λc c0 c1=>?_⟩
  have He:DB (.int c) (.int (if decide (n>1)=true then 1 else 0))=some (.int (c*(if decide (n>1)=true then 1 else 0))):=by
   show (if kU c _ then some _ else none)=_
   rw[if_pos (show kU c (if decide (n>1)=true then 1 else 0) from .inl ⟨by lia,by lia⟩)]
  have hj:0<=c*(if decide (n>1)=true then 1 else 0)/\c*(if decide (n>1)=true then 1 else 0)<=300/\(¬ n>1->c*(if decide (n>1)=true then 1 else 0)=0):=by
   by_cases hn:n>1
   ·simp[hn];lia
   ·simp[hn]
  generalize c*(if decide (n>1)=true then 1 else 0)=j at He hj
  refine⟨trivial,_,rfl,trivial,_,rfl,trivial,_,rfl,_,He,trivial,j,rfl,by lia,by lia,trivial,?_⟩
  refine⟨λi β=>∃(ts:List (List Int)) (x7 x8 x9:Option Q.B),β=[some (.hand iR),some (.val false (.int m)),some (.val true (.int sz)),some (.val true (.int gr)),some (.val true (.int n)),some (.own (dP ts true)),some (.val true (.int way)),x7,x8,x9]/\ts.Nodup/\fE n ts/\ts.length<=609+i,⟨ts,_,_,_,rfl,h1,h2,by lia⟩,?_,?_⟩
  ·rintro i d β hd ⟨ts,x7,x8,x9,rfl,h1,h2,h3⟩;obtain⟨hi,rfl⟩:=bK hd;have Kr:n>1:=QG λz=>by have:=hj.2.2 z;lia
   refine⟨rfl,_,rfl,trivial,rfl,trivial,n,rfl,by lia,by lia,λone o0 o1=>?_⟩
   refine⟨_,rfl,trivial,_,rfl,trivial,rfl,_,rfl,trivial,_,rfl,trivial,rfl,trivial,n-1,rfl,by lia,by lia,λr' Pm HU=>?_⟩
   have Dg:zQ (.int (one+1+r')) (.int n)=some (.int ((one+1+r') % n)):=if_pos (by lia)
   refine⟨_,rfl,trivial,_,rfl,_,Dg,?_⟩;have Dd:(one+1+r') % n≠one/\0<=(one+1+r') % n/\(one+1+r') % n<n:=by
    by_cases eX:one+1+r'<n
    ·rw[Int.emod_eq_of_lt (by lia) eX];lia
    ·rw[show one+1+r'=(one+1+r' - n)+n by lia,Int.add_emod_right,Int.emod_eq_of_lt (by lia) (by lia)];lia
   generalize (one+1+r') % n=Am at Dd;obtain⟨g1,g2,g3⟩:=add h1 h2 (t:=[if Am<one then Am else one,if Am>one then Am else one]) ⟨_,_,rfl,by split <;> lia,by split <;> (try split) <;> lia,by split <;> lia⟩
   exact⟨⟨_,rfl⟩,_,rfl,trivial,_,rfl,trivial,_,rfl,trivial,_,rfl,trivial,_,rfl,trivial,_,rfl,trivial,k7,ts,[if Am<one then Am else one,if Am>one then Am else one],rfl,rfl,by rw[RU];lia,_,_,_,_,rfl,g1,g2,by lia⟩
  ·rintro β ⟨ts,x7,x8,x9,rfl,h1,h2,h3⟩;rw[bR]at h3;refine⟨_,rfl,trivial,_,rfl,trivial,_,yj h2.ne (by lia),.inl ⟨jW _,300,rfl,_,rfl,?_⟩⟩
   obtain⟨us,e,dr⟩:=ug h2 h1;rw[e];exact .inl ⟨jW _,trivial,k7,trivial,rfl,q n us n0 n1 dr⟩
end
section
variable {P:Qd}{w:Qq}{K:PySem.W.Frag}{mg:Str->Option P_}{base:Heap}
theorem fC:aS ["many"] ["many"] (aC bF):=mkS
theorem yP {kM fH} (uL:D2 K mg kM fH) (B:Bs3 mg):a9 P w K mg base cW 1 kM fH ["many"] (fZ P w true w6):=by
 refine tp uL.F fC (λds R GB=> by obtain⟨n,e,_⟩ := GB;subst e;rfl) λc5 A outer s H E hr=>⟨_,(ar (bw (L5 ["i","j","many"] [none,none,some 0] (by rfl) (by decide:(["i","j","many"]:List Str).Nodup) rfl (jz B.range (aa (ao ag (bt.m aP) (ab (i:=0)) af) (aa (d3 bV af) (aa (d3 bV af) ae)))) (λ_ _ _ _ _ _=>(ak (i:=0) (by decide:(["i","j","many"]:List Str).Nodup))) (λ_ _ _ _ _ _=>b6) (λ_ _ _ _ _ _=>(qc B.range (aa (ao ay aj (ab (i:=0)) af) (aa (ao ay aj (ab (i:=2)) af) ae)))) (λ_ _ _ _ _ _=>(ak (i:=1) (by decide:(["i","j","many"]:List Str).Nodup))) (λ_ _ _ _ _ _=>b6) (λ_ _ _ _ _ _=>(cx (aa (ab (i:=0)) (aa (ab (i:=1)) ae))))))),λds R h=>?_⟩
 obtain⟨n,rfl,hn,q⟩:=h;refine⟨_,rfl,trivial,_,rfl,trivial,_,rfl,rfl,trivial,_,rfl,rfl,trivial,(n:Int)-1,-1,rfl,⟨by lia,by lia,by lia,by lia⟩,trivial,?_⟩
 have en:((n:Int)-1 - -1).toNat=n:=by lia
 rw[en];refine⟨λa β o=>a<=n/\(∃x0 x1,β=[x0,x1,some (.val false (.int n))])/\o=(((QQ n).take a).flatMap (eZ n)).map Jp,⟨Qv _,⟨_,_,rfl⟩,rfl⟩,?_,?_⟩
 ·rintro a d β o hd ⟨ha,⟨x0,x1,rfl⟩,rfl⟩;obtain⟨AG,rfl⟩:=jw hd;have e1:(n:Int)-1-a=((n-1-a:Nat):Int):=by lia
  rw[e1];refine⟨_,rfl,trivial,_,rfl,trivial,_,rfl,trivial,_,rfl,trivial,((n-1-a:Nat):Int)+1,(n:Int)+1,rfl,⟨by lia,by lia,by lia,by lia⟩,?_⟩
  have e2:((n:Int)+1-(((n-1-a:Nat):Int)+1)).toNat=a+1:=by lia
  rw[e2];refine⟨λb β o=>b<=a+1/\(∃x1,β=[some (.val true (.int ((n-1-a:Nat):Int))),x1,some (.val false (.int n))])/\o=(((QQ n).take a).flatMap (eZ n)++(eZ n a).take b).map Jp,⟨Qv _,⟨_,rfl⟩,by simp⟩,?_,?_⟩
  ·rintro b d β o hd ⟨hb,⟨x1,rfl⟩,rfl⟩;obtain⟨iV,rfl⟩:=bK hd;refine⟨_,rfl,trivial,_,rfl,trivial,k7,trivial,?_,iV,⟨_,rfl⟩,?_⟩
   ·rw[Qa,Qu];exact vg hn AG iV
   ·rw[show ((n-1-a:Nat):Int)+1+(b:Int)=((n-a+b:Nat):Int) by lia,sR iV,<- Ru,QD,QD,QD]
    rfl
  ·rintro β o ⟨_,⟨x1,rfl⟩,rfl⟩;refine⟨AG,⟨_,_,rfl⟩,?_⟩;rw[bR,vx,Rh,Se AG,Us];simp
 ·rintro β o ⟨_,⟨x0,x1,rfl⟩,rfl⟩;rw[ju,Rx (by simp)]
  exact⟨trivial,trivial,q⟩
theorem bE:aS ["row","many","ties","partners","a","b"] ["row"] (aC cP):=mkS
theorem yQ {kO fI} (uM:D3 K mg kO fI) (B:Bs3 mg):a9 P w K mg base cW 1 kO fI ["row"] (fZ P w true oR):=by
 refine tp uM.F bE (λds R GA=> by obtain⟨n,ps,e,_⟩ := GA;subst e;rfl) λc5 A outer s H E hr=>⟨_,(ai (qe (ab (i:=0)) (cM (n:=2) rfl (aH (ak (i:=1) bE.nd) (aH (ak (i:=2) bE.nd) bS))))
    (ai (vw (i:=3) true ["point"] [none] (by rfl) (by decide:(["point"]:List Str).Nodup) rfl (λ_=>(bG B.range (aa (ab (i:=1)) ae))) (λ_ _ _ _ _ _=>(ak (i:=0) (by decide:(["point"]:List Str).Nodup))) (λ_ _ _ _ _ _=>b6) (λ_ _ _ _ _ _=>(aW ae)) bE.nd)
    (ai (b7 Q1 rfl (bj (ab (i:=2))) (cM (n:=2) rfl (aH (ak (i:=4) bE.nd) (aH (ak (i:=5) bE.nd) bS))) (ar (nQ (i:=3) true (λ_=>(ab (i:=5))) (λ_=>(ab (i:=4))))))
    (ar (rl (i:=3)))))),λds R h=>?_⟩
 obtain⟨n,ps,rfl,ok,q⟩:=h;have hn:=ok.le;refine⟨_,rfl,_,rfl,rfl,_,_,rfl,_,_,rfl,rfl,_,rfl,trivial,n,rfl,by lia,by lia,trivial,?_⟩
 rw[RQ];refine c8 (λ_=>true) (λ_=>.lst []) trivial (by rw[Q_];exact cb (by lia)) (λx hx x0 o J ho h1 _=>⟨Qv _,trivial,ho,h1 rfl _⟩) ?_
 rw[a8];refine⟨_,rfl,_,rfl,trivial,?_⟩;refine⟨λm β=>∃x4 x5,β=[some (.val false (f6 n ps)),some (.val true (.int n)),some (.val false (u7 ps)),some (.own (Ff n (ps.take m))),x4,x5],⟨_,_,rfl⟩,?_,?_⟩
 ·rintro m d β hd ⟨x4,x5,rfl⟩;rw[Ql]at hd;obtain⟨p,hp,rfl⟩:=Qy.mp hd;obtain⟨h1,h2⟩:=ok.lt p (QW hp);refine⟨_,rfl,rfl,_,_,rfl,_,_,rfl,rfl,⟨_,rfl⟩,_,rfl,_,_,_,_,rfl,rfl,by rw[Qa,Q_];exact zi rfl (show p.1<n by lia),cU (show p.1<n by lia),_,rfl,trivial,rfl,?_,?_⟩
  ·unfold Q.jN;rw[Qa];have:=iY (ps:=ps.take m) (i:=p.1);rw[QJ]at this;have:=ok.sm;exact ir (by lia)
  ·refine⟨some (.val true (.int p.1)),some (.val true (.int p.2)),?_⟩;have e:ps.take (m+1)=ps.take m++[(p.1,p.2)]:=by rw[Rh,hp];rfl
   rw[BD (show p.1<n by lia),e]
   rfl
 ·rintro β ⟨x4,x5,rfl⟩;rw[Qa,RC];exact⟨_,rfl,q⟩
theorem jn:aS ["worth","table","i","k","j"] ["worth","table","i","k","j"] (aC cR):=mkS
theorem yR {iW eS} (rX:D4 K mg iW eS):a9 P w K mg base cW 1 iW eS ["worth","table","i","k","j"] (fZ P w true oS):=by
 refine tp rX.F jn (λds R Gz=> by obtain⟨n,ps,w,L,T,i,k,j,e,_⟩ := Gz;subst e;rfl) λc5 A outer s H E hr=>⟨_,(ar (bw (ao ay aj (ao ay aj (aL ag (oC hr.c7) (ab (i:=0)) (cx (aa (ab (i:=2)) (aa (ab (i:=3)) ae)))) (aL ag bx (aL ag bx (ab (i:=1)) (ao ay aj (ab (i:=2)) af)) (ao ag (bt.m aP) (ao ag (bt.m aP) (ab (i:=3)) (ab (i:=2))) af))) (aL ag bx (aL ag bx (ab (i:=1)) (ao ay aj (ab (i:=3)) af)) (ao ag (bt.m aP) (ao ag (bt.m aP) (ab (i:=4)) (ab (i:=3))) af))))),λds R h=>?_⟩
 obtain⟨n,ps,w,L,T,i,k,j,rfl,hm,h1,h2,h3,h4,h5,q⟩:=h;exact⟨_,rfl,trivial,_,rfl,trivial,_,rfl,trivial,k7,_,Dp hm,trivial,_,rfl,trivial,_,rfl,trivial,_,rfl,_,gE (i:=i+1) (by lia) (by lia),.inr ⟨trivial,_,rfl,trivial,_,rfl,_,rfl,trivial,_,rfl,_,gF (l:=k-i-1) (by lia) h4,_,rfl,trivial,
  _,rfl,trivial,_,rfl,trivial,_,rfl,_,gE (i:=k+1) (by lia) (by lia),.inr ⟨trivial,_,rfl,trivial,_,rfl,_,rfl,trivial,_,rfl,_,gF (l:=j-k-1) (by lia) h5,_,rfl,trivial,q⟩⟩⟩
theorem eQ:aS ["partners","worth","table","i","j","numbers"] ["partners","worth","table","i","j"] (aC cI):=mkS
theorem vT {kP fJ} (uN:D5 K mg kP fJ) {iW eS} (rX:D4 K mg iW eS) (B:Bs3 mg):a9 P w K mg base cW 2 kP fJ ["partners","worth","table","i","j"] (fZ P w true jX):=by
 have O5:a9 P w K mg base cW 1 _ _ _ (fZ P w true oS):= yR rX;refine tp uN.F eQ (λds R Gy=> by obtain⟨n,ps,w,L,T,i,j,e,_⟩ := Gy;subst e;rfl) λc5 A outer s H E hr=>⟨_,(ai (vw (i:=5) false ["k","worth","table","i","j"] [none,some 1,some 2,some 3,some 4] (by rfl) (by decide:(["k","worth","table","i","j"]:List Str).Nodup) rfl (λ_=>(bj (aL ag bx (ab (i:=0)) (ab (i:=3))))) (λ_ _ _ _ _ _=>(ak (i:=0) (by decide:(["k","worth","table","i","j"]:List Str).Nodup))) (λ_ _ _ _ _ _=>(pT (aI ag (bt.m dO) (ab (i:=0)) (ab (i:=4))))) (λ_ _ _ _ _ _=>(bL oS.mono O5 (hr.mono (by decide)) rX.m rX.F.kp rX.b (aa (ab (i:=1)) (aa (ab (i:=2)) (aa (ab (i:=3)) (aa (ab (i:=0)) (aa (ab (i:=4)) ae))))))) eQ.nd)
    (ar (bw (a6 ag (bB.m (lN rfl)) B.max mY (aa (ao ay aj (ab (i:=5)) (aW (aa (aL ag bx (aL ag bx (ab (i:=2)) (ao ay aj (ab (i:=3)) af)) (ao ag (bt.m aP) (ao ag (bt.m aP) (ab (i:=4)) (ab (i:=3))) af)) ae))) ae))))),λds R h=>?_⟩
 obtain⟨n,ps,w,L,T,i,j,rfl,ok,h1,h2,h3,q⟩:=h;have CM:=ok.sm;have hle:=ok.le;have hl:((iC ps i).filter λk=>decide (k<j)).length<=400:=Q6 (SG _ _) (Q6 iY CM);refine⟨_,rfl,trivial,_,rfl,_,JM rfl (by lia),.inr ⟨_,rfl,trivial,?_⟩⟩
 refine c8 (λk=>decide (k<j)) (λk=>.int (w (i,k)+T (k-i-1) (i+1)+T (j-k-1) (k+1))) trivial (cb (Q6 iY (by lia))) (λk hk x0 o J ho j1 j2=>?_) ?_
 ·have hm:=eI.mp hk;obtain⟨g1,g2⟩:=ok.lt _ hm;dsimp only at g1 g2;refine⟨_,rfl,trivial,_,rfl,_,rfl,_,rfl,jO (λGW=>?_) (λGW=>j2 (by simp;lia) _)⟩
  have GV:k<j:=by lia
  have a1:=h3 (i+1) (by lia) (by lia)
  have a2:=h3 (k+1) (by lia) (by lia)
  exact⟨_,rfl,trivial,_,rfl,trivial,_,rfl,trivial,_,rfl,trivial,_,rfl,trivial,n,ps,w,L,T,i,k,j,rfl,hm,g1,GV,h2,by lia,by lia,trivial,ho,j1 (by simpa using GV) _⟩
 ·have a1:=h3 (i+1) (by lia) (by lia)
  refine⟨_,rfl,trivial,_,rfl,trivial,_,rfl,trivial,_,rfl,_,gE (i:=i+1) (by lia) (by lia),.inr ⟨trivial,_,rfl,trivial,_,rfl,_,rfl,trivial,_,rfl,_,gF (l:=j-i-1) (by lia) (by lia),trivial,uD,_,gK (by rw[Qa];show _+1<=_;lia),.inl ⟨lF h_ rfl,trivial,_,v9,trivial,q⟩⟩⟩
end
end jb
namespace L2
open PySem PySem.Spec PySem.SeqAt PyProof.Rows
def qF:List D->Option (List Bool)
 |[]=>some []
 |.bl b::ds=>(qF ds).map (b::·)
 |_::_=>none
theorem r9:∀{ds:List D} {bs:List Bool},qF ds=some bs->ds=bs.map D.bl
 |[],_,h=>by cases h;rfl
 |d::ds,bs,h=>by
  cases d with
  |bl b =>
   obtain⟨r,h1,rfl⟩:=Qy.mp (show (qF ds).map (b::·)=some bs from h)
   rw[r9 h1];rfl
  |_=>cases h
theorem pf:∀bs:List Bool,qF (bs.map D.bl)=some bs
 |[]=>rfl
 |b::bs=>by show (qF (bs.map D.bl)).map (b::·)=_;rw[pf bs];rfl
def Hn:List D->Option D
 |[d]=>d.tM.bind λds=>(qF ds).map λbs=>.bl (bs.any id)
 |_=>none
theorem zW (bs:List Bool):Hn [.lst (bs.map D.bl)]=some (.bl (bs.any id)):=by
 show (qF (bs.map D.bl)).map _=_;rw[pf];rfl
section
variable {P:Qd}{w:Qq}{W:Addr->Prop}{H:Hp}
theorem nI:∀{bs:List Bool} {vs:List V},ah P w W H (bs.map D.bl) vs->vs=bs.map V.bl
 |[],_,h=>h
 |b::bs,_,⟨v,r,e,h1,h2⟩=>by rw[e,show v=.bl b from h1,nI h2];rfl
end
theorem nj:∀{bs:List Bool} {us:List P_},Vals (bs.map V.bl) us->us=bs.map Value.bool
 |[],_,.nil=>rfl
 |b::bs,_,.cons r q=>by rw[QS,<- nj q,show _=Value.bool b from r]
variable {X:Cx}
theorem ur (hc:X.calm=true):bB X (.builtin "any") Hn:=by
 intro pins s σ H xs us Q I r h;obtain⟨W,ds,d,hd,r1,e,q⟩:=h
 match ds,e with
 |[x],e =>
  obtain⟨es,e1,e2⟩:=Rk.mp (show x.tM.bind _=some d from e)
  obtain⟨bs,e3,rfl⟩:=Qy.mp e2;rw[D.mL e1,r9 e3]at r1;obtain⟨x,rfl,p,vs,rfl,h1,n1,q1⟩:=iN r1;obtain⟨u,rfl,ru⟩:=vals1 r;cases ru;rw[nI q1]at h1;obtain⟨its,r2,ht,hz⟩:=I.list (c6.of h1);obtain rfl:=nj r2;obtain⟨ol,gl,_⟩:=id ht.isList;have lt:p<s.heap.objs.size:=Qs gl;have Wk:=Walks.list (prog:=X.prog) (w:=X.w) (A:=X.A.in1) (I.ok.hd hc) s.heap.objs.size p (QO lt) (bs.map Value.bool).toArray;refine call_any_walk (wpAny_pyIter_list ht.isList ⟨s.heap.objs.size,_,_,_,_,_,λj=>bs.getD j false,rfl,Wk,⟨⟨_,QC _ rfl,rfl,rfl⟩,ht.isList.push _⟩,λj v s' Q' E' hv hq=>?_,λh' tk k=>?_⟩)
  ·have hv:((bs.map Value.bool).toArray)[j]?=some v:=hv;rw[List.getElem?_toArray,Ql]at hv;obtain⟨b,hb,rfl⟩:=Qy.mp hv;have hq:Q' (bs.getD j false) s':=hq;rw[QN,hb]at hq;exact UE hq
  ·have ea:((QQ (bs.map Value.bool).toArray.size).any λj=>bs.getD j false)=bs.any id:=by
    rw[U7,TZ,TZ];constructor
    ·rintro⟨j,hj,hb⟩;rw[QN]at hb;cases hg:bs[j]? with
     |none=>rw[hg]at hb;cases hb
     |some b=>rw[hg]at hb;exact⟨b,QW hg,hb⟩
    ·rintro⟨b,hb,ht⟩;obtain⟨j,hj⟩:=R6 hb;refine⟨j,?_,by rw[QN,hj];exact ht⟩
     rw[RK];have:=(Qg.mp hj).1;simpa using this
   rw[ea];exact⟨.bl (bs.any id),H,I.kept (t':=tk) λb o e=>k b o (by
    have:=Qs e;simp only[Qj];exact QO this) (Qi _ e),rfl,q _ _ (az.refl _) rfl⟩
namespace Q
section
variable {C:Cfg}{a b c:Expr}{p p' pos pos':Pos}
theorem wx {i:Int}{n:Nat}{acc:Array P_}(h:ItemsOf (λk v=>∃t,v=Value.int (i+k*(-1)) t) acc n):Vals ((QQ n).map λk:Nat=>V.int (i-(k:Int))) acc.toList:=by
 have key:∀(l:List P_) (i:Int),(∀j v,l[j]?=some v->∃t,v=Value.int (i-((j:Nat):Int)) t)->Vals ((QQ l.length).map λk:Nat=>V.int (i-(k:Int))) l:=λl=>by
  induction l with
  |nil=>intro i _;exact .nil
  |cons x r ih =>
   intro i h;rw[Qx,List.range_succ_eq_map,QS,QY];obtain⟨t,rfl⟩:=h 0 x rfl;refine .cons ⟨t,rfl⟩ ?_;have:=ih (i-1) λj v e=>by
    obtain⟨t,e'⟩:=h (j+1) v (by simpa using e)
    exact⟨t,by rw[e'];congr 1;lia⟩
   refine(show (λk:Nat=>V.int (i-(k:Int))) ∘ Nat.succ=λk:Nat=>V.int (i-1-(k:Int)) from ?_)▸this
   funext k
   show V.int (i-((k+1:Nat):Int))=_
   congr 1
   lia
 have:=key acc.toList i λj v e=>by
  obtain⟨t,e'⟩:=h.2 j v (by simpa using e)
  exact⟨t,by rw[e',Int.mul_neg,Int.mul_one];rfl⟩
 rwa [QH,h.1]at this
theorem kz {ta:TA} (hc:X.calm=true) (uJ:Gl X "list") (Ks:X.mg "list" = none) (hg:Gl X "range") (hm:X.mg "range" = none) (ha:PA X [a,b,c] ta) (hs:Qt [a,b,c] X.env=[(false,eval a X.env),(false,eval b X.env),(false,eval c X.env)]:=by rfl) (h9:Qt [b,c] X.env=[(false,eval b X.env),(false,eval c X.env)]:=by rfl)
  (hl:Qt [.Call (.Name "range" p) [a,b,c] [] pos] X.env=[(false,eval (.Call (.Name "range" p) [a,b,c] [] pos) X.env)]:=by rfl) :
  PE X (.Call (.Name "list" p') [.Call (.Name "range" p) [a,b,c] [] pos] [] pos') (λσ H Q=>ta σ H λvs H1=>∃i j:Int,vs=[.int i,.int j,.int (-1)]/\(-(2 ^ 62)<=i/\i<2 ^ 62/\-(2 ^ 62)<=j/\j<2 ^ 62)/\(i-j).toNat<=2 ^ 24/\∀p,H1 p=none->Q (.ref p) (upd H1 p (.lst ((QQ (i-j).toNat).map λk:Nat=>V.int (i-(k:Int)))))):=by
 intro pins s σ H Q I h;refine S8 (dS I uJ Ks fA ?_ (by decide) (by decide))
 refine Ri ?_ hl rfl;rw[hl];show QE _ _ (spliced ((false,eval (.Call (.Name "range" p) [a,b,c] [] pos) X.env)::[])) _ _ s;refine Calls.spliced_cons ?_;refine S8 (dS I hg hm U_ ?_ (by decide) (by decide))
 refine Ri (bQ (ha pos pins s σ H _ I h) λus s1 h1=>?_) (by rw[hs,h9]) (by rw[h9];rfl)
 obtain⟨vs,H1,I1,r1,i,j,rfl,⟨q1,q2,q3,q4⟩,hz,q⟩:=h1;cases r1 with
 |cons r rr =>
 cases rr with
 |cons r' rr =>
 cases rr with
 |cons Ee rr =>
 cases rr;obtain⟨t1,rfl⟩:=r;obtain⟨t2,rfl⟩:=r';obtain⟨t3,rfl⟩:=Ee;refine call_range_3 (by decide) (Calls.spliced_nil ?_) (.inl (TN (by decide +kernel)))
 have e2:Sl i j (-1)=(((i-j).toNat:Nat):Int):=by rw[dN];split <;> lia
 refine call_list_range (n:=(i-j).toNat) (I.ok.hd hc) (IsRange.new ..) (k_ q1 q2 q3 q4) e2 hz λh' tk acc c kp hS ha=>?_;have I2:=I1.kept (t':=s1.toks) (h':=s1.heap.push {cls:=.type "range",data:=.fields #[.int i t1,.int j t2,.int (-1) t3]}) λb o e=>Qi _ e;have fr:=I2.bz.fresh (Qf _);refine⟨.ref (s1.heap.push {cls:=.type "range",data:=.fields #[.int i t1,.int j t2,.int (-1) t3]}).objs.size,_,I2.laid (o:=.lst _) kp (Qf _) ⟨?_,acc.toList,c,wx ha,?_⟩,rfl,q _ fr⟩
 ·rw[Qa,Q_];exact hz
 ·simpa using hS
def sU (φs:bP):aY:=λβ R=>φs β λds _ β1=>∃i j:Int,ds=[.int i,.int j,.int (-1)]/\(-(2 ^ 62)<=i/\i<2 ^ 62/\-(2 ^ 62)<=j/\j<2 ^ 62)/\(i-j).toNat<=2 ^ 24/\R (.lst (l_ i (i-j).toNat)) .own β1
theorem lg {P:Qd}{w:Qq}{H:Hp}{i:Int}:∀(l:List Nat),aK P w H (l.map λk:Nat=>D.int (i-(k:Int))) (l.map λk:Nat=>V.int (i-(k:Int))) []
 |[]=>⟨rfl,rfl⟩
 |k::l=>⟨_,_,[],[],rfl,rfl,⟨rfl,rfl⟩,lg l⟩
theorem ky {φs:bP} {q:Bool} (hc:X.calm=true) (Ks:X.mg "list" = none) (hm:X.mg "range" = none) (ha:m8 X C q [a,b,c] φs) (uJ:Gl X "list" := by rfl) (hg:Gl X "range" := by rfl) (hs:Qt [a,b,c] X.env=[(false,eval a X.env),(false,eval b X.env),(false,eval c X.env)]:=by rfl) (h9:Qt [b,c] X.env=[(false,eval b X.env),(false,eval c X.env)]:=by rfl)
  (hl:Qt [.Call (.Name "range" p) [a,b,c] [] pos] X.env=[(false,eval (.Call (.Name "range" p) [a,b,c] [] pos) X.env)]:=by rfl):PQ X C q (.Call (.Name "list" p') [.Call (.Name "range" p) [a,b,c] [] pos] [] pos') (sU φs) :=
 ⟨λβ R R' k h=>ha.mono β _ _ (λds ks β1 h=>by obtain⟨i,j,e,h1,h2,q⟩:=h;exact⟨i,j,e,h1,h2,k _ _ _ q⟩) h,(kz hc uJ Ks hg hm ha.pa hs h9 hl).pre λσ H Q h=>by
  obtain⟨β,own,s,h⟩:=h;refine nz.of ha s h λds ks β1 vs H1 aE h o1 r1=>?_;obtain⟨i,j,rfl,h1,h2,q⟩:=h;obtain⟨x,r,rfl,rx,y,r',rfl,ry,z,Ee,rfl,rz,rr⟩:=r1.fD;cases (show x=V.int i from rx)
  cases (show y=V.int j from ry)
  cases (show z=V.int (-1) from rz)
  cases (show Ee=[] from rr)
  refine⟨i,j,rfl,h1,h2,λp hp=>q _ _ aE (o1.same (az.new hp)) ⟨[p],⟨p,_,[],rfl,au,rfl,lg _⟩,by simp,λc hc=>?_⟩⟩
  rw[Qj.mp hc];exact⟨QG λz=>o1.sn.d p z hp,λz=>o1.sq.rW p z hp,QG λz=>o1.sq.ft p z hp⟩⟩
end
end Q
end L2
namespace L2.Q
open PySem PySem.Spec PySem.SeqAt PyProof.Rows
structure Bs4 (mg:Str->Option P_):Prop extends Bs3 mg where
 any:mg "any" = none
theorem DK:Rb "any" = some (.builtin "any"):=by decide +kernel
def bJ (l:List Int):D:=.lst (l.map D.int)
def cV (pp:List (List Int)):D:=.lst (pp.map bJ)
def xE (pp:List (List Int)):Prop:=pp.length<=200/\∀l∈pp,l.length<=200
def l7 (n:Nat):List Int:=(QQ (n+1)).map λk:Nat=>(n:Int)+1-(k:Int)
def nF (n:Nat)(pp:List (List Int)):Bool:=decide (pp.map (λl=>(l.length:Int))=l7 n)
def Tp (pp:List (List Int))(l i:Nat):Int:=(pp.getD i []).getD l 0
def AX (n:Nat)(ps:List (Nat×Nat))(w:Nat×Nat->Int)(pp:List (List Int)):Prop:=nF n pp=true/\(∀l∈pp,∀x∈l,0<=x)/\∀i j,i<j->j<=n->hG ps w (Tp pp) i j<=Tp pp (j-i) i
theorem qT {n:Nat}{pp:List (List Int)}(h:nF n pp=true):pp.length=n+1/\∀i,i<=n->(pp.getD i []).length=n+1-i:=by
 have h:=of_decide_eq_true h;have hl:pp.length=n+1:=by have:=congrArg Up h;unfold l7 at this;simpa using this
 refine⟨hl,λi hi=>?_⟩;have fF:i<pp.length:=by lia
 have e:pp[i]?=some pp[i]:=Qm fF;have:=congrArg (λl=>l[i]?) h;unfold l7 at this;rw[Ql,e,cU (by lia)]at this
 have this:((pp[i].length:Nat):Int)=(n:Int)+1-(i:Int):=Q3 this;rw[QN,e];show pp[i].length=_;lia
theorem zg {l:List Int}:bJ l=.lst (vf l.length λk=>l.getD k 0):=by
 unfold bJ vf
 congr 1
 apply Ry;intro k;rw[Ql]
 by_cases hk:k<l.length
 ·rw[cU hk];show _=some (D.int (l.getD k 0));rw[QN,Qm hk];rfl
 ·rw[Rc (by lia),Rc (by rw[Qa,Q_];lia)];rfl
theorem rd {n:Nat}{pp:List (List Int)}(h:nF n pp=true):cV pp=jU n (Tp pp):=by
 obtain⟨h1,h2⟩:=qT h;unfold cV jU ve
 congr 1
 apply Ry;intro i;rw[Ql]
 by_cases hi:i<n+1
 ·have fF:i<pp.length:=by lia
  have e:pp[i]?=some pp[i]:=Qm fF;rw[cU hi,e,S5,zg];have h3:=h2 i (by lia)
  have e2:pp.getD i []=pp[i]:=by rw[QN,e];rfl
  rw[e2]at h3;rw[h3];unfold Tp;rw[e2]
 ·rw[Rc (by lia),Rc (by rw[Qa,Q_];lia)];rfl
theorem mM {ps:List (Nat×Nat)}{w:Nat×Nat->Int}{T:Nat->Nat->Int}{i j:Nat}{x:Int}:hG ps w T i j<=x↔T (j-i-1) (i+1)<=x/\∀k,(i,k)∈ps->k<j->w (i,k)+T (k-i-1) (i+1)+T (j-k-1) (k+1)<=x:=by
 obtain⟨h1,h2,h3⟩:=lx (ps:=ps) (w:=w) (T:=T) (i:=i) (j:=j);constructor
 ·intro h;exact⟨Int.le_trans h2 h,λk hk hj=>Int.le_trans (h3 k hk hj) h⟩
 ·rintro⟨a,b⟩;rcases h1 with e|⟨k,hk,hj,e⟩
  ·rw[e];exact a
  ·rw[e];exact b k hk hj
theorem ot {n i j:Nat}:(i,j)∈sJ n↔i<j/\j<=n:=by
 unfold sJ eZ;rw[List.mem_flatMap];constructor
 ·rintro⟨a,ha,h⟩;obtain⟨b,hb,e⟩:=QP.mp h;have ha:=RK.mp ha;have hb:=RK.mp hb;obtain⟨e1,e2⟩:=UW e;lia
 ·rintro⟨h1,h2⟩;refine⟨n-1-i,RK.mpr (by lia),QP.mpr ⟨j-i-1,RK.mpr (by lia),?_⟩⟩
  exact Prod.ext (by show n-1-(n-1-i)=i;lia) (by show n-(n-1-i)+(j-i-1)=j;lia)
def oT:FD:=λds R=>∃(n:Nat) (pp:List (List Int)),ds=[cV pp,.int n]/\n<=40/\xE pp/\R (.bl (nF n pp))
theorem oT.mono:eN oT:=λds R R' k h=>by obtain⟨n,pp,e,h1,h2,q⟩:=h;exact⟨n,pp,e,h1,h2,k _ q⟩
def jY:FD:=λds R=>∃(n:Nat) (ps:List (Nat×Nat)) (w:Nat×Nat->Int) (pp:List (List Int)),ds=[f6 n ps,wD ps w,cV pp]/\AZ n ps/\n<=40/\xE pp/\∀b:Bool,(b=true↔AX n ps w pp)->R (.bl b)
theorem jY.mono:eN jY:=λds R R' k h=>by obtain⟨n,ps,w,pp,e,h1,h2,h3,q⟩:=h;exact⟨n,ps,w,pp,e,h1,h2,h3,λb hb=>k _ (q b hb)⟩
theorem vy {n:Nat}:l_ ((n:Int)+1) (n+1)=(l7 n).map D.int:=by
 unfold l_ l7;rw[QY];rfl
def jE (pp:List (List Int)):List Bool:=pp.flatMap λl=>l.map λx=>decide (x<0)
theorem nY {pp:List (List Int)}:(jE pp).any id=false↔∀l∈pp,∀x∈l,0<=x:=by
 unfold jE;rw[List.any_flatMap,TH];refine forall_congr' λl=>forall_congr' λ_=>?_;rw[Bool.not_eq_true,List.any_map,TH];refine forall_congr' λx=>forall_congr' λ_=>?_;simp only[Function.comp,id,decide_eq_true_eq];lia
theorem vZ {pp:List (List Int)}(h:xE pp):∀m,(jE (pp.take m)).length<=200*pp.length:=by
 intro m;have:∀q:List (List Int),(∀l∈q,l.length<=200)->(jE q).length<=200*q.length:=λq=>by
  induction q with
  |nil=>intro _;exact Qf _
  |cons l q ih =>
   intro hq;have h1:=ih λx hx=>hq x (QM _ hx);have h2:=hq l Ra;unfold jE at *
   rw[List.flatMap_cons,Qu,Qa,Qx];lia
 have h1:=this (pp.take m) λl hl=>h.2 l (Uo hl);rw[QJ]at h1;have:min m pp.length<=pp.length:=Nat.min_le_right _ _;lia
end L2.Q
namespace jb
open PySem L2 L2.Q
section
variable {P:Qd}{w:Qq}{K:PySem.W.Frag}{mg:Str->Option P_}{base:Heap}
theorem l8:aS ["paper","many"] ["paper","many"] (aC dE):=mkS
theorem yS {kQ fK} (uO:D6 K mg kQ fK) (B:Bs3 mg):a9 P w K mg base cW 1 kQ fK ["paper","many"] (fZ P w true oT):=by
 refine tp uO.F l8 (λds R Gx=> by obtain⟨n,pp,e,_⟩ := Gx;subst e;rfl) λc5 A outer s H E hr=>⟨_,(ar (bw (qd ag (bt.m (b8 hr.units)) (Eg ["numbers"] [none] (by rfl) (by decide:(["numbers"]:List Str).Nodup) rfl (bj (ab (i:=0))) (λ_ _ _ _ _ _=>(ak (i:=0) (by decide:(["numbers"]:List Str).Nodup))) (λ_ _ _ _ _ _=>b6) (λ_ _ _ _ _ _=>(a6 ag (bB.m cD) B.len eM (aa (ab (i:=0)) ae)))) (ky rfl B.list B.range (aa (ao ay aj (ab (i:=1)) af) (aa af (aa (d3 bV af) ae))))))),λds R h=>?_⟩
 obtain⟨n,pp,rfl,hn,hb,q⟩:=h;have hlen:∀l:List Int,kR [bJ l]=some (.int (l.length:Int)):=λl=>by show some (D.int (((l.map D.int).length:Nat):Int))=_;rw[Qa]
 refine⟨_,rfl,_,rfl,trivial,?_⟩;refine c8 (λ_=>true) (λl=>.int (l.length:Int)) trivial (cb (by have:=hb.1;lia)) (λl hl y0 o J ho h1 _=>?_) ?_
 ·exact⟨_,rfl,trivial,_,hlen l,trivial,ho,h1 rfl _⟩
 rw[a8];refine⟨trivial,_,rfl,trivial,_,rfl,trivial,trivial,_,rfl,rfl,trivial,(n:Int)+1,0,rfl,⟨by lia,by lia,by lia,by lia⟩,by lia,?_⟩
 rw[show ((n:Int)+1-0).toNat=n+1 by lia,vy]
 have e:EB (.lst (pp.map λl=>D.int (l.length:Int))) (.lst ((l7 n).map D.int))=some (.bl (nF n pp)):=by
  have:=xm (pp.map λl=>(l.length:Int)) (l7 n);rw[QY]at this;exact this
 exact⟨_,e,trivial,q⟩
theorem cF:aS ["row","worth","paper","partners","i","j"] ["row","worth","paper"] (aC cQ):=mkS
theorem vU {oN iI} (xN:D7 K mg oN iI) {kQ fK} (uO:D6 K mg kQ fK) {kO fI} (uM:D3 K mg kO fI) {kM fH} (uL:D2 K mg kM fH) {kP fJ} (uN:D5 K mg kP fJ) {iW eS} (rX:D4 K mg iW eS) (B:Bs4 mg):a9 P w K mg base cW 3 oN iI ["row","worth","paper"] (fZ P w true jY):=by
 have O8:a9 P w K mg base cW 1 _ _ _ (fZ P w true oT):= yS uO B.toBs3;have O4:a9 P w K mg base cW 1 _ _ _ (fZ P w true oR):= yQ uM B.toBs3;have O2:a9 P w K mg base cW 1 _ _ _ (fZ P w true w6):= yP uL B.toBs3;have O6:a9 P w K mg base cW 2 _ _ _ (fZ P w true jX):= vT uN rX B.toBs3;refine tp xN.F cF (λds R Gw=> by obtain⟨n,ps,w,pp,e,_⟩ := Gw;subst e;rfl) λc5 A outer s H E hr=>⟨_,(ai (bM (qJ.t (mq (mv (i3 (bL oT.mono O8 (hr.mono (by decide)) uO.m uO.F.kp uO.b (aa (ab (i:=2)) (aa (aL ag bx (ab (i:=0)) af) ae))))) (mn (i3 (a6 ag (bB.m (ur rfl)) B.any DK (aa (L5 ["numbers","number"] [none,none] (by rfl) (by decide:(["numbers","number"]:List Str).Nodup) rfl (bj (ab (i:=2))) (λ_ _ _ _ _ _=>(ak (i:=0) (by decide:(["numbers","number"]:List Str).Nodup))) (λ_ _ _ _ _ _=>b6) (λ_ _ _ _ _ _=>(sW (i:=0))) (λ_ _ _ _ _ _=>(ak (i:=1) (by decide:(["numbers","number"]:List Str).Nodup))) (λ_ _ _ _ _ _=>b6) (λ_ _ _ _ _ _=>(qd ag (bt.m dO) (ab (i:=1)) af))) ae)))))) (ar (bw fc)) aT)
    (ai (aV (i:=3) (bL oR.mono O4 (hr.mono (by decide)) uM.m uM.F.kp uM.b (aa (ab (i:=0)) ae)) cF.nd)
    (ai (b7 Q1 rfl (bj (bL w6.mono O2 (hr.mono (by decide)) uL.m uL.F.kp uL.b (aa (aL ag bx (ab (i:=0)) af) ae))) (cM (n:=2) rfl (aH (ak (i:=4) cF.nd) (aH (ak (i:=5) cF.nd) bS))) (ar (bM (aI ag (bt.m dO) (aL ag bx (aL ag bx (ab (i:=2)) (ab (i:=4))) (ao ag (bt.m aP) (ab (i:=5)) (ab (i:=4)))) (bL jX.mono O6 (hr.mono (by decide)) uN.m uN.F.kp uN.b (aa (ab (i:=3)) (aa (ab (i:=1)) (aa (ab (i:=2)) (aa (ab (i:=4)) (aa (ab (i:=5)) ae))))))) (ar (bw fc)) aT)))
    (ar (bw fc))))),λds R h=>?_⟩
 obtain⟨n,ps,w,pp,rfl,ok,hn,hb,q⟩:=h;refine⟨_,rfl,trivial,_,rfl,trivial,_,rfl,trivial,n,pp,rfl,hn,hb,_,rfl,?_⟩;cases uI:nF n pp with
 |false=>exact zq rfl ⟨trivial,q false ⟨λz=>(nomatch z),λz=>by have:=z.1;rw[uI]at this;cases this⟩⟩
 |true =>
  refine pI rfl ?_;obtain⟨Mn,Ij⟩:=hb;have Ie:=vZ ⟨Mn,Ij⟩;refine⟨_,rfl,_,rfl,trivial,?_⟩;refine⟨λa β o=>a<=pp.length/\(∃x0 x1,β=[x0,x1])/\o=(jE (pp.take a)).map D.bl,⟨Qv _,⟨_,_,rfl⟩,rfl⟩,?_,?_⟩
  ·rintro a d β o hd ⟨ha,⟨x0,x1,rfl⟩,rfl⟩;rw[Ql]at hd;obtain⟨l,hl,rfl⟩:=Qy.mp hd;have AG:=(Qg.mp hl).1;have P4:=Ij l (QW hl);have et:pp.take (a+1)=pp.take a++[l]:=by rw[Rh,hl];rfl
   have en:jE (pp.take (a+1))=jE (pp.take a)++l.map λx=>decide (x<0):=by
    rw[et];unfold jE;rw[Us];simp
   refine⟨_,_,rfl,?_⟩;refine⟨λb β o=>b<=l.length/\(∃x1,β=[some (.val false (bJ l)),x1])/\o=(jE (pp.take a)++(l.take b).map λx=>decide (x<0)).map D.bl,⟨Qv _,⟨_,rfl⟩,by simp⟩,?_,?_⟩
   ·rintro b d β o hd ⟨hb,⟨x1,rfl⟩,rfl⟩;rw[Ql]at hd;obtain⟨x,hx,rfl⟩:=Qy.mp hd;have iV:=(Qg.mp hx).1;have OK:l.take (b+1)=l.take b++[x]:=by rw[Rh,hx];rfl
    refine⟨_,rfl,trivial,_,rfl,trivial,?_,iV,⟨_,rfl⟩,?_⟩
    ·rw[Qa,Qu,Qa,QJ];have:=Ie a;rw[RU];lia
    ·rw[OK];simp
   ·rintro β o ⟨_,⟨x1,rfl⟩,rfl⟩;refine⟨AG,⟨_,_,rfl⟩,?_⟩;rw[Qa,RC,en]
  ·rintro β o ⟨_,⟨x0,x1,rfl⟩,rfl⟩;rw[Qa,RC];refine⟨trivial,trivial,_,zW _,_,rfl,?_⟩;cases Dc:(jE pp).any id with
   |true=>exact zq rfl ⟨trivial,q false ⟨λz=>(nomatch z),λz=>by rw[nY.mpr z.2.1]at Dc;cases Dc⟩⟩
   |false =>
    refine pI rfl ?_;have Dc:=nY.mp Dc;rw[rd uI];refine⟨_,rfl,trivial,n,ps,rfl,ok,?_⟩;refine⟨_,rfl,trivial,_,rfl,trivial,n,rfl,by lia,_,rfl,trivial,?_⟩
    refine⟨λm β=>(∀s∈(sJ n).take m,hG ps w (Tp pp) s.1 s.2<=Tp pp (s.2-s.1) s.1)/\∃x4 x5,β=[some (.val false (f6 n ps)),some (.val false (wD ps w)),some (.val false (jU n (Tp pp))),some (.val true (Ff n ps)),x4,x5],⟨λs hs=>(nomatch hs),_,_,rfl⟩,?_,?_⟩
    ·rintro m d β hd ⟨jS,x4,x5,rfl⟩;rw[Ql]at hd;obtain⟨⟨i,j⟩,hs,rfl⟩:=Qy.mp hd;obtain⟨h1,h2⟩:=ot.mp (QW hs);have et:(sJ n).take (m+1)=(sJ n).take m++[(i,j)]:=by rw[Rh,hs];rfl
     refine⟨_,rfl,rfl,_,_,rfl,_,_,rfl,rfl,?_⟩;refine⟨_,rfl,trivial,_,rfl,_,gE (i:=i) rfl (by lia),.inr ⟨trivial,_,rfl,trivial,_,rfl,_,rfl,_,gF (l:=j-i) (by lia) (by lia),trivial,?_⟩⟩
     refine⟨_,rfl,trivial,_,rfl,trivial,_,rfl,trivial,_,rfl,trivial,_,rfl,trivial,n,ps,w,(λi=>n+1-i),Tp pp,i,j,rfl,ok,h1,h2,λa _ _=>Qf _,_,rfl,_,rfl,jO (λeX=>?_) (λeX=>?_)⟩
     ·exact⟨trivial,q false ⟨λz=>(nomatch z),λz=>absurd (z.2.2 i j h1 h2) (by lia)⟩⟩
     ·refine⟨λs hs=>?_,_,_,rfl⟩;rw[et]at hs;rcases Qr.mp hs with z|z
      ·exact jS s z
      ·rw[Qj.mp z];dsimp only;lia
    ·rintro β ⟨jS,x4,x5,rfl⟩;rw[Qa,RC]at jS;exact⟨trivial,q true ⟨λ_=>⟨uI,Dc,λi j h1 h2=>jS (i,j) (ot.mpr ⟨h1,h2⟩)⟩,λ_=>rfl⟩⟩
end
end jb
namespace L2
open PySem PySem.Spec PySem.SeqAt PyProof.Rows Zp
section
variable {X:Cx}
theorem uT {A:Rj}{E:P_->Qb->Prop}{pins:List (Addr×Obj)}{σ:St}{H1:Hp}{s1:Qb}{l1 l2:Addr}{xs ys:List V}{us:List P_}{Q:P_->Qb->Prop}(I1:Inv X pins σ H1 s1)(rv:Vals [.ref l1,.ref l2] us)(g1:H1 l1=some (.lst xs))(g2:H1 l2=some (.lst ys))
  (q:∀h' z TI TO i1 i2,Zp.Apart z TI TO i1 i2 l1 l2->T1 h' z TI TO .none->Sk h' TI (.ref i1) (.ref i2)->Sk h' TO .none .none->h'.IsListIter i1 l1 0->h'.IsListIter i2 l2 0->Inv X pins σ H1 {s1 with heap:=h'}->(∀b∈[z,TI,TO,i1,i2],dw X pins H1 b)->Q (.ref z) {s1 with heap:=h'}) :
  QE (model X.prog X.w) A (call (.type "zip") us) Q E s1:=by
 obtain⟨v1,v2,rfl,e1,e2⟩:∃v1 v2,us=[v1,v2]/\RelV (.ref l1) v1/\RelV (.ref l2) v2:=by
  cases rv with
  |cons a rr=>cases rr with
   |cons b rr=>cases rr;exact⟨_,_,rfl,a,b⟩
 cases e1;cases e2;have Ck:l1<s1.heap.objs.size:=I1.bz.lt g1;have Cj:l2<s1.heap.objs.size:=I1.bz.lt g2;obtain⟨CH,_,p1,_⟩:=I1.list (c6.of g1);obtain⟨tV,_,p2,_⟩:=I1.list (c6.of g2);refine call_zip_2 p1.isList p2.isList λh' y1 y2 y3 y4 y5 y6 y7=>?_;have I2:Inv X pins σ H1 {s1 with heap:=h'}:=I1.kept (t':=s1.toks) y7
 refine q h' _ _ _ _ _ ?_ y1 y2 y3 y4 y5 I2 λb hb=>?_
 ·generalize s1.heap.objs.size=n at Ck Cj
  change (l1:Nat)<n at Ck
  change (l2:Nat)<n at Cj
  refine⟨?_,λc hc=>?_,λc hc=>?_⟩
  ·have q:∀(i j:Nat),i≠j->(n+i:Nat)≠n+j:=λi j h z=>h (Nat.add_left_cancel z);simp only[QB,Qc,QT,or_false,not_or,Q5,not_false_eq_true,and_true];exact⟨⟨q 4 2 (by decide),q 4 3 (by decide),q 4 0 (by decide),q 4 1 (by decide)⟩,⟨q 2 3 (by decide),q 2 0 (by decide),q 2 1 (by decide)⟩,⟨q 3 0 (by decide),q 3 1 (by decide)⟩,q 0 1 (by decide)⟩
  ·simp only[Qc,QT,or_false]at hc;rcases hc with rfl|rfl|rfl|rfl <;> exact QO (QA Ck (by first|exact SW _ _|exact Qf _))
  ·simp only[Qc,QT,or_false]at hc;rcases hc with rfl|rfl|rfl|rfl <;> exact QO (QA Cj (by first|exact SW _ _|exact Qf _))
 ·have iV:s1.heap.objs.size<=b:=by
   simp only[Qc,QT,or_false]at hb;rcases hb with rfl|rfl|rfl|rfl|rfl <;> first|exact SW _ _|exact Qf _
  exact I1.qu iV (I1.bz.fresh iV)
end
namespace Q
section
variable {X:Cx}{C:Cfg}{p:Bool}{a b:Expr}{φs:bP}{pp pos:Pos}{elts:List Expr}{kk:Nat}{u9:Pos}
def FV (φs:bP):b5:=λβ R=>φs β λl ks β1=>∃as bs,l=[.lst as,.lst bs]/\R (eh as bs) (eK ks) β1
theorem yx (hm:X.mg "zip" = none) (ha:m8 X C p [a,b] φs) (hg:Gl X "zip" := by rfl) (hs:Qt [a,b] X.env=(false,eval a X.env)::Qt [b] X.env:=by rfl) (h9:(SF pos (Qt [b] X.env)).any (·.1)=false:=by rfl) :
  qK X C p (.Tuple elts kk u9) (.Call (.Name "zip" pp) [a,b] [] pos) (FV φs):=by
 refine⟨λβ R R' k q=>ha.mono β _ _ (λl ks β1 Gv=> by obtain⟨as,bs,e,q⟩ := Gv;exact⟨as,bs,e,k _ _ _ q⟩) q,λpins s σ H R I h=>?_⟩
 obtain⟨β,own,sq,h⟩:=h;refine Call_ (dS I hg hm xu (Ri (bQ (ha.pa pos pins s σ H _ I (nz.of ha sq h λds ks β' vs H1 aE h o1 r1=>(⟨ds,ks,β',aE,h,o1,r1.fD⟩:∃ds ks β' aE,(∃as bs,ds=[.lst as,.lst bs]/\∀J H' aN,Out X C σ H own p β' H' aN->sF X (av C (Wn aN) (eK ks)) J (eh as bs) H'->R J H')/\Out X C σ H own p β' H1 aE/\ah X.prog X.w (av C (Wn aE) (eK ks)) H1 ds vs)))
  λus s1 ⟨vs,H1,I1,rv,h⟩=>?_) hs h9))
 obtain⟨ds,ks,β',aE,⟨as,bs,rfl,q⟩,o1,r1⟩:=h;obtain⟨x,y,rfl,⟨l1,xs,rfl,g1,n1,w1⟩,⟨l2,ys,rfl,g2,n2,w2⟩⟩:=j7 r1;refine uT I1 rv g1 g2 λh' z TI TO i1 i2 Ap y1 y2 y3 y4 y5 I2 fp=>?_;refine UP y1 ⟨_,_,_,_,H1,rfl,I2,nr Ap src_list src_list,⟨y1,y2,⟨_,_,y3⟩,y4,y5⟩,fp,?_⟩;exact q _ _ aE o1 (rG false g1 g2 (λ_=>n1) (λ_=>n2) w1 w2)
end
end Q
end L2
namespace L2.Q
open PySem PySem.Spec PySem.SeqAt PyProof.Rows
theorem Ag {ds:List D}{x:Int}{h:Nat}(hx:x=(h:Int)):xM (.lst ds) none (some x)=some (.lst (ds.take h)):=by
 subst hx;show some (D.lst (cutD _ _ _))=_;unfold cutD;rw[HT.js,HT.l9,List.drop_zero]
 congr 2
 rcases Nat.le_total h ds.length with q|q
 ·rw[Nat.min_eq_left q,Nat.sub_zero]
 ·rw[Nat.min_eq_right q,Nat.sub_zero,Rx (Qf _),Rx q]
theorem qR {ds:List D}{x:Int}{h:Nat}(hx:x=(h:Int)):xM (.lst ds) (some x) none=some (.lst (ds.drop h)):=by
 subst hx;show some (D.lst (cutD _ _ _))=_;unfold cutD;rw[HT.js,HT.l9]
 congr 2
 rcases Nat.le_total h ds.length with q|q
 ·rw[Nat.min_eq_left q,Rx (by rw[RX];lia)]
 ·rw[Nat.min_eq_right q,Tw,List.take_zero,List.drop_eq_nil_of_le q]
theorem i9 {l:List Int}{r:Int}(h0:0<=r)(h1:r<l.length):∃x,rY (.lst (l.map D.int)) (.int r)=some (.int x):=by
 obtain⟨n,rfl⟩:=Ta h0;refine⟨l.getD n 0,oD rfl ?_⟩;rw[Ql,QN,Qm (show n<l.length by lia)]
 rfl
theorem ze {l:List Int}{h:Nat}:(l.map D.int).take h=(l.take h).map D.int:=by rw[Uz]
theorem zf {l:List Int}{h:Nat}:(l.map D.int).drop h=(l.drop h).map D.int:=by rw[List.map_drop]
theorem dv {ds:List D}{n:Nat}(h:ds.length=n):kR [.lst ds]=some (.int (n:Int)):=by subst h;rfl
inductive Cv:Option B->Option B->Prop
 |rfl {b:Option B}:Cv b b
 |ov {d:D}:Cv (some (.own d)) (some (.val true d))
 |os {ds:List D}:Cv (some (.own (.lst ds))) (some (.shl true (.lst ds)))
 |sv {d:D}:Cv (some (.shl true d)) (some (.val true d))
section
variable {P:Qd}{w:Qq}{C:Cfg}{σ:St}{H:Hp}{β:ba}{own:Nat->List Addr}{i:Nat}
theorem Bf {own:Nat->List Addr}{i:Nat}{a:Addr}{A:List Addr}(h:own i=a::A):∀c,Wn (aG own i [a]) c->Wn own c:=λc Gu=> by
 obtain⟨j,hj⟩ := Gu
 by_cases aD:i=j
 ·rw[<- aD,os_eq]at hj;exact⟨i,by rw[h,Qj.mp hj];simp⟩
 ·rw[a5 aD]at hj;exact⟨j,hj⟩
theorem bD.shell {ds:List D}(s:bD P w C σ H β own)(e:β[i]?=some (some (.own (.lst ds)))):∃a,bD P w C σ H (β.set i (some (.shl true (.lst ds)))) (aG own i [a])/\∀c,Wn (aG own i [a]) c->Wn own c:=by
 obtain⟨v,h1,⟨a,vs,A',rfl,h2,h3,h4⟩,h5⟩:=s.ow i _ e;have hl:i<β.length:=(Qg.mp e).1;have le:=Bf h3;have nd:=s.i8 i;rw[h3]at nd;obtain⟨na,LX⟩:=QB.mp nd;have sub:∀y c,eg C (Wn (aG own i [a])) (yk y) c->eg C (Wn own) (yk y) c:=λy=>d_ le _;refine⟨a,⟨by simp[s.len],λj y' d' q=>?_,λj d' q=>?_,λj ok q=>?_,λj c hc=>?_,λj k c c1 c2=>?_,λj=>?_,s.kp,s.ft,λj y' d' q=>?_⟩,le⟩
 ·by_cases aD:i=j
  ·subst aD;obtain⟨e',_⟩:=aQ q;cases e'
  ·rw[aO aD]at q;obtain⟨u,g1,g2⟩:=s.val j y' d' q;exact⟨u,g1,g2.aX (sub _)⟩
 ·by_cases aD:i=j
  ·subst aD;obtain⟨e',_⟩:=aQ q;cases e'
  ·rw[aO aD]at q;rw[a5 aD];exact s.ow j d' q
 ·by_cases aD:i=j
  ·subst aD;obtain⟨e',_⟩:=aQ q;cases e'
  ·rw[aO aD]at q;rw[a5 aD];exact s.lE j ok q
 ·by_cases aD:i=j
  ·rw[<- aD,os_eq]at hc;exact s.dm i c (by rw[h3,Qj.mp hc];simp)
  ·rw[a5 aD]at hc;exact s.dm j c hc
 ·have m:∀{j c},c∈aG own i [a] j->c∈own j:=λ{j c} hc=>by
   by_cases aD:i=j
   ·rw[<- aD,os_eq]at hc;rw[<- aD,h3,Qj.mp hc];simp
   ·rw[a5 aD]at hc;exact hc
  exact s.ic j k c (m c1) (m c2)
 ·by_cases aD:i=j
  ·rw[<- aD,os_eq];simp
  ·rw[a5 aD];exact s.i8 j
 ·by_cases aD:i=j
  ·subst aD;obtain⟨e',_⟩:=aQ q;cases e';rw[os_eq];refine⟨.ref a,h1,⟨a,.lst vs,vs,rfl,rfl,h2,rfl,h4.rep λc hc z=>?_⟩,λc hc=>h5 c (by rw[h3,Qj.mp hc];simp)⟩
   have KO:c∈own i:=by rw[h3];simp[hc]
   rcases z with (⟨j,hj⟩|z)|z
   ·by_cases aD:i=j
    ·rw[<- aD,os_eq]at hj;exact na (by rw[<- Qj.mp hj];exact hc)
    ·rw[a5 aD]at hj;exact aD (s.ic i j c KO hj)
   ·exact z (h5 c KO)
   ·exact(s.dm i c KO).2.2.2 z
  ·rw[aO aD]at q;rw[a5 aD];obtain⟨u,g1,g2,g3⟩:=s.shl j y' d' q;exact⟨u,g1,g2.map (λ_ _ _ z=>z) (λ_ _ r=>ah.aX (sub _) r),g3⟩
theorem fN {X:Cx}{C:Cfg}{a:List Stmt}{ψ:DU}(i:Nat)(h:qL X C a ψ):qL X C a (λE β=>∃b b',β[i]?=some b/\Cv b b'/\ψ E (β.set i b')) :=
 ⟨λE E' β l q=>by obtain⟨b,b',e,c,q⟩:=q;exact⟨b,b',e,c,h.mono E E' _ l q⟩,h.ps.pre λD σ H z=>by
  obtain⟨Z,E,β,⟨own,s,n⟩,⟨b,b',e,c,q⟩,ok⟩:=z;cases c with
  |rfl =>
   have:β.set i b=β:=by
    apply Ry;intro j;rw[R5]
    by_cases aD:i=j
    ·subst aD;rw[if_pos rfl,e,if_pos (Qg.mp e).1]
    ·rw[if_neg aD]
   rw[this]at q;exact⟨Z,E,_,⟨own,s,n⟩,q,ok⟩
  |ov=>exact⟨Z,E,_,⟨_,s.freeze e,l4 n⟩,q,ok⟩
  |sv=>exact⟨Z,E,_,⟨_,s.rM e,l4 n⟩,q,ok⟩
  |os =>
   obtain⟨a,s2,le⟩:=s.shell e;exact⟨Z,E,_,⟨_,s2,fu n le⟩,q,ok⟩⟩
end
section
variable {X:Cx}{C:Cfg}{k e:Expr}{φ φk:aY}{i:Nat}{x:Str}{pos pos' px:Pos}{p pk:Bool}
def E_ (i:Nat)(φk:aY):aY:=λβ R=>(∃d,β[i]?=some (some (.shl true d)))/\φk β λjd _ β1=>∃ds t m d,jd=.int t/\β1[i]?=some (some (.shl true (.lst ds)))/\lz ds.length t=some m/\ds[m]?=some d/\R d .de β1
theorem eG (hk:PQ X C pk k φk)(hN:X.N[i]?=some x:=by rfl)(hv:m6 X.env.scope x:=by first|exact .inl rfl|exact .inr (.inl rfl)|exact .inr (.inr rfl))(hd:(x==("__debug__" : Str))=false:=by decide)(ee:(x==("__classdict__" : Str))=false:=by decide)(hs:gP k:=by exact λ_ _=>rfl):
  PQ X C pk (.Subscript (.Name x px) k pos) (E_ i φk) :=
 ⟨λβ R R' kk h=>⟨h.1,hk.mono _ _ _ (λjd _ β1 Gs=> by obtain⟨ds,t,m,d,h1,h2,h3,h4,q⟩ := Gs;exact⟨ds,t,m,d,h1,h2,h3,h4,kk _ _ _ q⟩) h.2⟩,(eR cu (cy (pos:=px) hN hv hd ee) hk.pe hs).pre λσ H Q Gr=> by
  obtain⟨β,own,sq,⟨d0,uK⟩,q⟩ := Gr;obtain⟨a0,_,_,i_,_⟩:=sq.iq uK;refine⟨_,i_,tQ.of hk sq q λjd kj β1 jv H1 aE ⟨ds,t,m,d,e1,hb,hm,hg,q⟩ o r=>?_⟩;subst e1;obtain⟨a,o1,vs,g1,g2,g3,g4,g5,_,_⟩:=o.sq.iq hb;rw[i_]at g1;cases g1;cases g4;cases (show jv=.int t from r.rep)
  obtain⟨w',hw,uE⟩:=ah.get g5 hg;have ED:j6 vs t=some w':=by unfold j6;rw[show vs.length=ds.length from g5.length,hm];exact hw
  exact⟨a0,vs,t,w',rfl,rfl,c6.of g3,ED,q _ _ aE o (aA.aX (λc z=>.inl z) uE)⟩⟩
theorem mB (he:∀U,PQ X (C.u U) p e φ)(hk:∀U,PQ X (C.u U) pk k φk)(hN:X.N[i]?=some x:=by rfl)(hv:m6 X.env.scope x:=by first|exact .inl rfl|exact .inr (.inl rfl)|exact .inr (.inr rfl))(hd:(x==("__debug__" : Str))=false:=by decide)(ee:(x==("__classdict__" : Str))=false:=by decide)
  (hs:Uw [.Subscript (.Name x px) k pos'] e pos.line X.env=pure false:=by rfl) (F6:Ux [.Subscript (.Name x px) k pos'] e X.env=pure none:=by rfl)
  (ha:∀v,assign (.Subscript (.Name x px) k pos') X.env v=(do
   let ov <- holding [v] (eval (.Name x px) X.env)
   let iv <- holding [v,ov] (eval k X.env)
   T3 pos'
   holding [v,ov,iv] (setItem ov iv v)
   release [v,ov,iv] []):=by intro _;rfl) :
  PB X C (.Assign [.Subscript (.Name x px) k pos'] e pos) (λE β=>φ β λd kd β1=>(JK kd d/\kd≠.bor)/\(∃ds,β1[i]?=some (some (.shl true (.lst ds))))/\φk β1 λjd _ β2=>∃ds t m,jd=.int t/\β2[i]?=some (some (.shl true (.lst ds)))/\lz ds.length t=some m/\E.nx (β2.set i (some (.shl true (.lst (ds.set m d)))))):=by
 refine⟨λE E' β l q=>(he λ_=>False).mono _ _ _ (λd kd β1 Gq=> by obtain⟨f,h0,q⟩ := Gq;exact⟨f,h0,(hk λ_=>False).mono _ _ _ (λjd _ β2 Gp=> by obtain⟨ds,t,m,h1,h2,h3,q⟩ := Gp;exact⟨ds,t,m,h1,h2,h3,l.nx _ q⟩) q⟩) q,λpins s σ H De I ⟨Z,E,β,⟨own,sq,n⟩,q,ok⟩=>?_⟩
 refine jy (he λa=>H a=none).pe (mx (cy (pos:=px) hN hv hd ee) (hk λa=>H a=none).pe set_list ha) hs F6 rfl pins s σ H De I ?_;refine tQ.of (he λa=>H a=none) (sq.gc (C:=C.z) (U:=λa=>H a=none) λa z=>z) q λd kd β1 v H1 aE ⟨⟨f,nb⟩,⟨MG,uK⟩,q⟩ o r=>?_;obtain⟨a0,_,_,i_,_⟩:=o.sq.iq uK;refine⟨_,i_,tQ.of (hk λa=>H a=none) o.sq q λjd kj β2 jv H2 bp ⟨ds,t,m,e1,hb,hm,q⟩ o2 r2=>?_⟩;subst e1;have rv:=(KV.held (Z:=(H,Wn own)) nb r o2.sn).yg f;obtain⟨a,o1,vs,g1,g2,g3,g4,g5,_,_⟩:=o2.sq.iq hb;rw[i_]at g1;cases g1;cases g4;cases (show jv=.int t from r2.rep)
 refine⟨a0,vs,t,m,rfl,rfl,g3,by rw[show vs.length=ds.length from g5.length];exact hm,?_⟩
 have wa:av (C.u λa=>H a=none) (Wn bp) .de a0:=.inl ⟨i,by rw[g2];simp⟩
 have kp:Kp (av (C.u λa=>H a=none) (Wn bp) .de) H2 (upd H2 a0 (.lst (vs.set m v))):=wj g3 (λxs z=>by cases z) wa
 obtain⟨s2,hA,hw,wJ⟩:=o2.sq.qb (d':=.lst (ds.set m d)) (o:=.lst (vs.set m v)) (vs':=vs.set m v) hb i_ rfl (ah.set (rv.keep kp) m ((ah.aX (λc z=>.inl z) g5).keep kp));exact ok.nx _ _ _ ⟨_,s2,fM (C:=C) ((n.trans o.sn).trans o2.sn) (λb z=>n.free z) hw wJ hA⟩ q
end
section
variable {X:Cx}
def Hi:D->D->Option D:=iU λi j=>if kT i j then some (.int (i*2 ^ j.toNat)) else none
theorem yN:bt X (RF .LShift) Hi:=nU (h:=λi j=>.int (i*2 ^ j.toNat)) BX (λ_ _ _ e=>c_ e) λ_ _ _ _=>rfl
theorem DL:Rb "abs" = some (.builtin "abs"):=by decide +kernel
end
structure IB (mg:Str->Option P_):Prop extends Bs4 mg where
 abs:mg "abs" = none
def wY:FD:=λds R=>∃m:Nat,ds=[.int (m:Int)]/\m<=300/\∀ws:List Int,ws.length=m->R (bJ ws)
theorem wY.mono:eN wY:=λds R R' k ⟨m,e,h,q⟩=>⟨m,e,h,λws h=>k _ (q ws h)⟩
def wf (ps:List (Nat×Nat))(ws:List Int)(p:Nat×Nat):Int:=(((ps.zip ws).find? λq=>decide (q.1=p)).map (·.2)).getD 0
def oV:FD:=λds R=>∃(n:Nat) (ps:List (Nat×Nat)) (ws:List Int),ds=[f6 n ps,bJ ws]/\ws.length=ps.length/\R .d7
theorem oV.mono:eN oV:=λds R R' k ⟨n,ps,ws,e,h,q⟩=>⟨n,ps,ws,e,h,k _ q⟩
def wZ:FD:=λds R=>∃(n:Nat) (ps:List (Nat×Nat)) (ws:List Int),ds=[f6 n ps,bJ ws]/\AZ n ps/\ws.length=ps.length/\R (wD ps (wf ps ws))
theorem wZ.mono:eN wZ:=λds R R' k ⟨n,ps,ws,e,h1,h2,q⟩=>⟨n,ps,ws,e,h1,h2,k _ q⟩
theorem lX {ps:List (Nat×Nat)}{ws:List Int}(nd:ps.Nodup){q:(Nat×Nat)×Int}(h:q∈ps.zip ws):wf ps ws q.1=q.2:=by
 unfold wf
 induction ps generalizing ws with
 |nil=>simp at h
 |cons p ps ih =>
  cases ws with
  |nil=>simp at h
  |cons x ws =>
   rw[Ss]at h ⊢
   rw[Ro]
   by_cases e:p=q.1
   ·rw[decide_eq_true e];rcases Qc.mp h with rfl|h
    ·rfl
    ·exact absurd (e▸(S6 h).1) (QB.mp nd).1
   ·rw[decide_eq_false e];rcases Qc.mp h with rfl|h
    ·exact absurd rfl e
    ·exact ih (QB.mp nd).2 h
theorem A5 {ps:List (Nat×Nat)}{ws:List Int}(nd:ps.Nodup)(hl:ws.length=ps.length):(ps.zip ws).map (λq=>(tI q.1,D.int q.2))=ps.map λp=>(tI p,D.int (wf ps ws p)):=by
 have e:(ps.zip ws).map (λq=>(tI q.1,D.int q.2))=(ps.zip ws).map λq=>(tI q.1,D.int (wf ps ws q.1)):=RS λq hq=>by rw[lX nd hq]
 rw[e];have e2:(ps.zip ws).map (λq=>(tI q.1,D.int (wf ps ws q.1)))=((ps.zip ws).map (·.1)).map λp=>(tI p,D.int (wf ps ws p)):=by rw[QY];rfl
 rw[e2,List.map_fst_zip (by lia)]
theorem lU:∀(ps:List (Nat×Nat)) (ws:List Int),eh (ps.map λp=>kD (tI p)) (ws.map D.int)=(ps.zip ws).map λq=>D.tup [kD (tI q.1),.int q.2]
 |[],ws=>by simp[eh]
 |p::ps,[]=>by simp[eh]
 |p::ps,x::ws=>by
  show D.tup [_,_]::eh _ _=_;rw[lU ps ws];rfl
theorem xY {α:Type}{l:List α}{k:α->Nat×Nat}{f:α->D}{p:Nat×Nat}(h:∀q∈l,k q≠p):dz (l.map λq=>(tI (k q),f q)) (tI p)=none:=by
 unfold dz;rw[Option.map_eq_none_iff,List.find?_eq_none];intro x hx;obtain⟨q,hq,rfl⟩:=QP.mp hx;simp only[decide_eq_true_eq];intro e;exact h q hq (lY e)
theorem xT {ps:List (Nat×Nat)}{ws:List Int}(nd:ps.Nodup){m:Nat}{q:(Nat×Nat)×Int}(h:(ps.zip ws)[m]?=some q):∀r∈(ps.zip ws).take m,r.1≠q.1:=by
 intro r hr e;obtain⟨i,hi⟩:=R6 hr;rw[List.getElem?_take]at hi
 split at hi
 ·next eX =>
  have h1:=(SX.mp h).1;have h2:=(SX.mp hi).1;rw[e]at h2;have:=(UN (Qg.mp h2).1 nd).mp (h2.trans h1.symm);lia
 ·cases hi
structure Tb (T:Nat->Nat->Int)(kvs:List (List Int×D))(n i J:Nat):Prop where
 ge:∀a b,a<=b->b<=n->(i<a\/(a=i/\b<J))->dz kvs (tI (a,b))=some (.int (T a b))
 no:∀a b,¬ (i<a\/(a=i/\b<J))->dz kvs (tI (a,b))=none
 len:kvs.length<=(n+1-i)*100+(J-i)
theorem vb {T:Nat->Nat->Int}{kvs:List (List Int×D)}{n i J:Nat}(k:Tb T kvs n i J)(hJ:i<=J):dz kvs (tI (i,J))=none/\Tb T (kvs++[(tI (i,J),.int (T i J))]) n i (J+1):=by
 have hn:dz kvs (tI (i,J))=none:=k.no i J (by lia)
 refine⟨hn,λa b G8 hb d=>?_,λa b d=>?_,by have:=k.len;rw[Qu];show _+1<=_;lia⟩
 ·rw[kZ hn]
  by_cases e:tI (a,b)=tI (i,J)
  ·have e2:=lY e;injection e2 with e3 e4
   rw[if_pos e,e3,e4]
  ·rw[if_neg e];have:¬ (a=i/\b=J):=λz=>e (by rw[z.1,z.2])
   exact k.ge a b G8 hb (by lia)
 ·rw[kZ hn,if_neg (λe=>?_)]
  ·exact k.no a b (by lia)
  ·have e2:=lY e;injection e2 with e3 e4
   lia
theorem yc {T:Nat->Nat->Int}{kvs:List (List Int×D)}{n i:Nat}(hn:n<=90)(hi:i<=n)(k:Tb T kvs n (i+1) (n+1)):Tb T kvs n i i :=
 ⟨λa b G8 hb d=>k.ge a b G8 hb (by lia),λa b d=>k.no a b (by lia),by have:=k.len;lia⟩
theorem Bo {T:Nat->Nat->Int}{n:Nat}:Tb T [] n (n+1) (n+1):=⟨λa b G8 hb d=>by lia,λ_ _ _=>rfl,Qv _⟩
theorem bO {l:List Int}:D.cC (l.map D.int)=true:=by
 have:=h_ (f:=id) (l:=l);exact this
end L2.Q
namespace jb
open PySem L2 L2.Q
section
variable {P:Qd}{w:Qq}{K:PySem.W.Frag}{mg:Str->Option P_}{base:Heap}
theorem aR:aS ["deck","many","way","found","k","far","some","own"] ["deck","many"] (aC cS):=mkS
theorem B0 {zH rN} (Ey:D8 K mg zH rN) {Dt qv} (dT:D1 K mg Dt qv) (B:Bs3 mg):a9 P w K mg base cW 2 zH rN ["deck","many"] (iP P w iR true wY):=by
 have GT:a9 P w K mg base cW 1 _ _ _ (iP P w iR true bc):=mH dT.F;refine B_ Ey.F aR (λds R Gn=> by obtain⟨m,e,_⟩ := Gn;subst e;rfl) λc5 A outer s H E IO hr=>⟨_,(ai (aV (i:=2) (aJ (ih:=0) bc.mono GT (hr.mono (by decide)) dT.m dT.F.kp dT.b (aa af ae)) aR.nd)
    (ai (fx (i:=3) (λ_=>(aW ae)) aR.nd)
    (ai (b7 Q1 rfl (bG B.range (aa (ab (i:=1)) ae)) (ak (i:=4) aR.nd) (ai (aV (i:=5) (ao ag (bt.m i7) (aJ (ih:=0) bc.mono GT (hr.mono (by decide)) dT.m dT.F.kp dT.b (aa af ae)) (ao ag (bt.m yO) (ao ag (bt.m mD) af af) af)) aR.nd)
    (ai (aV (i:=6) (aW (aa af (aa (ao ag (bt.m aP) (aJ (ih:=0) bc.mono GT (hr.mono (by decide)) dT.m dT.F.kp dT.b (aa af ae)) af) (aa (aJ (ih:=0) bc.mono GT (hr.mono (by decide)) dT.m dT.F.kp dT.b (aa af ae)) (aa (ab (i:=5)) (aa (ao ag (bt.m aP) af (ab (i:=5))) ae)))))) aR.nd)
    (ai (fx (i:=6) (λ_=>(ao ay aj (ab (i:=6)) (aW (aa (ao ag (bt.m aP) (d3 bV af) (aJ (ih:=0) bc.mono GT (hr.mono (by decide)) dT.m dT.F.kp dT.b (aa af ae))) (aa (aL ag bx (aW (aa af (aa af (aa af (aa (d3 bV af) ae))))) (ao ag (bt.m mE) (ab (i:=4)) af)) ae))))) aR.nd)
    (bX (bM (aI ag (bt.m (b8 hr.units)) (ab (i:=2)) af) (ar (aV (i:=2) (ao ay aj af (aJ (ih:=0) bc.mono GT (hr.mono (by decide)) dT.m dT.F.kp dT.b (aa af ae))) aR.nd)) aT)
    (bX (bM (aI ag (bt.m (b8 hr.units)) (ab (i:=2)) af) (ai (aV (i:=7) (ao ag (bt.m yN) (aJ (ih:=0) bc.mono GT (hr.mono (by decide)) dT.m dT.F.kp dT.b (aa af ae)) (ao ag (bt.m i7) af (aJ (ih:=0) bc.mono GT (hr.mono (by decide)) dT.m dT.F.kp dT.b (aa af ae)))) aR.nd)
    (ai (aV (i:=7) (ao ay aj (ab (i:=7)) (aJ (ih:=0) bc.mono GT (hr.mono (by decide)) dT.m dT.F.kp dT.b (aa af ae))) aR.nd)
    (ar (gX (i:=6) (λ_=>(ao ag (bt.m i7) (ab (i:=7)) (aL ag bx (aW (aa af (aa (d3 bV af) ae))) (aJ (ih:=0) bc.mono GT (hr.mono (by decide)) dT.m dT.F.kp dT.b (aa af ae))))))))) aT)
    (ar (gX (i:=3) (λ_=>(aL ag bx (ab (i:=6)) (ab (i:=2))))))))))))
    (ar (rl (i:=3)))))),λds R h=>?_⟩
 obtain⟨m,rfl,hm,q⟩:=h;have Dy:Dz (.int 10) (.int 29)=some (.int (10 ^ 29)):=by
  show (if kT 10 29 then _ else none)=_
  rw[if_pos (by decide)]
  rfl
 have DD:Hm (.int (10 ^ 29)) (.int 65536)=some (.int (10 ^ 29 / 65536)):=by rfl
 refine⟨rfl,trivial,rfl,trivial,8,rfl,by decide,by decide,λwy w0 w1=>?_⟩
 refine⟨Qv _,trivial,?_⟩;refine⟨_,rfl,trivial,(m:Int),rfl,by lia,by lia,trivial,?_⟩
 rw[RQ];refine⟨λi β=>i<=m/\∃wy ws x4 x5 x6 x7,β=[some (.hand iR),some (.val false (.int (m:Int))),some (.val true (.int wy)),some (.own (bJ ws)),x4,x5,x6,x7]/\0<=wy/\wy<8/\ws.length=i,⟨Qv _,wy,[],_,_,_,_,rfl,w0,w1,rfl⟩,?_,?_⟩
 ·rintro i d β hd ⟨_,wy,ws,x4,x5,x6,x7,rfl,w0,w1,Az⟩;obtain⟨hi,rfl⟩:=bK hd;have hk:(0:Int)+(i:Int)=(i:Int):=by lia
  rw[hk];refine⟨rfl,trivial,rfl,trivial,65536,rfl,by decide,by decide,λfr f0 f1=>⟨trivial,trivial,_,Dy,trivial,_,DD,_,qE (.inl ⟨by lia,by lia⟩),?_⟩⟩
  generalize fr*(10 ^ 29 / 65536)=Et;refine⟨trivial,rfl,trivial,rfl,trivial,9,rfl,by decide,by decide,λa a0 a1=>⟨trivial,_,rfl,trivial,?_⟩⟩
  refine⟨rfl,trivial,rfl,trivial,3,rfl,by decide,by decide,λb b0 b1=>⟨trivial,_,rfl,trivial,trivial,_,rfl,_,rfl,trivial,cb (by show 5<=1000;decide),?_⟩⟩
  have ub:∀x y:List Int,x.length+y.length<=1000->xn (.lst (x.map D.int)) (.lst (y.map D.int))=some (.lst ((x++y).map D.int)):=λx y z=>(gK (by rw[Qa,Qa];lia)).trans (by rw[QD])
  obtain⟨Lv,NX⟩:=i9 (l:=[5,3,3,-2]) (r:=(i:Int) % 4) (by lia) (by show _<(4:Int);lia)
  have Hk:zQ (.int (i:Int)) (.int 4)=some (.int ((i:Int) % 4)):=rfl;refine⟨_,rfl,trivial,_,rfl,rfl,trivial,rfl,trivial,rfl,trivial,4,rfl,by decide,by decide,λe e0 e1=>⟨_,rfl,trivial,trivial,trivial,trivial,_,rfl,rfl,trivial,cb (by show 4<=1000;decide),trivial,_,rfl,trivial,_,Hk,_,NX,trivial,k7,_,ub [1,a-3,b,Et,0-Et] [-1-e,Lv] (by show 5+2<=1000;decide),.inl ⟨bO,trivial,?_⟩⟩⟩
  obtain⟨sm,CM⟩:∃sm,sm=[1,a-3,b,Et,0-Et]++[-1-e,Lv]:=⟨_,rfl⟩;have AA:sm.length=7:=by rw[CM];rfl
  rw[<- CM];refine⟨λβ=>∃wy x7,β=[some (.hand iR),some (.val false (.int (m:Int))),some (.val true (.int wy)),some (.own (bJ ws)),some (.val true (.int (i:Int))),some (.val true (.int Et)),some (.own (.lst (sm.map D.int))),x7]/\0<=wy/\wy<8,?_,?_⟩
  ·refine⟨_,rfl,trivial,_,bI _ _,_,rfl,jO (λh3=>?_) λh3=>⟨wy,x7,rfl,w0,w1⟩⟩;exact⟨trivial,rfl,trivial,rfl,trivial,2,rfl,by decide,by decide,λu u0 u1=>⟨_,rfl,3+u,x7,rfl,by lia,by lia⟩⟩
  rintro β ⟨wy,y7,rfl,w0,w1⟩;refine⟨λβ=>∃(sm:List Int) (x7:Option Q.B),β=[some (.hand iR),some (.val false (.int (m:Int))),some (.val true (.int wy)),some (.own (bJ ws)),some (.val true (.int (i:Int))),some (.val true (.int Et)),some (.own (.lst (sm.map D.int))),x7]/\wy<(sm.length:Int),?_,?_⟩
  ·refine⟨_,rfl,trivial,_,bI _ _,_,rfl,jO (λh7=>?_) λh7=>⟨sm,y7,rfl,by lia⟩⟩
   refine⟨rfl,trivial,rfl,trivial,65536,rfl,by decide,by decide,λo1 p0 p1=>⟨trivial,trivial,rfl,trivial,rfl,trivial,6,rfl,by decide,by decide,λo2 r0 r1=>⟨_,qE (.inl ⟨by decide,by decide⟩),?_⟩⟩⟩
   have uI:Hi (.int o1) (.int (16*o2))=some (.int (o1*2 ^ (16*o2).toNat)):=by
    show (if kT o1 (16*o2) then _ else none)=_
    rw[if_pos ⟨by lia,by lia,by lia⟩]
   refine⟨_,uI,?_⟩;generalize o1*2 ^ (16*o2).toNat=ow;refine⟨_,rfl,trivial,rfl,trivial,rfl,trivial,65536,rfl,by decide,by decide,λo3 s0 s1=>⟨_,rfl,?_⟩⟩
   generalize ow+o3=ow;refine⟨⟨_,rfl⟩,_,rfl,trivial,trivial,_,rfl,rfl,trivial,k7,trivial,rfl,trivial,rfl,trivial,2,rfl,by decide,by decide,λo4 t0 t1=>?_⟩
   obtain⟨sg,N2,G5,Il⟩:∃sg:Int,rY (.lst [.int 1,.int (-1)]) (.int o4)=some (.int sg)/\-(2 ^ 64)<sg/\sg<2 ^ 64:=by
    obtain⟨v,rfl⟩:=Ta t0;have hv:v=0\/v=1:=by lia
    rcases hv with rfl|rfl
    ·exact⟨1,rfl,by decide,by decide⟩
    ·exact⟨-1,rfl,by decide,by decide⟩
   refine⟨_,N2,_,qE (.inr ⟨G5,Il⟩),trivial,_,rfl,by rw[Qa];exact ir (by lia),sm++[ow*sg],some (.val true (.int ow)),?_,by rw[Qu];show _<((_+1:Nat):Int);lia⟩
   rw[QD];rfl
  rintro β ⟨sm,y7,rfl,F1⟩;obtain⟨xw,NW⟩:=i9 (l:=sm) (r:=wy) w0 F1;refine⟨⟨_,rfl⟩,_,rfl,trivial,_,rfl,_,NW,trivial,_,rfl,by rw[Qa];exact ir (by lia),hi,wy,ws++[xw],_,_,_,_,by rw[show bJ (ws++[xw])=.lst (ws.map D.int++[.int xw]) by unfold bJ;rw[QD];rfl] <;> rfl,w0,w1,by rw[Qu,Az];rfl⟩
 ·rintro β ⟨_,wy,ws,x4,x5,x6,x7,rfl,w0,w1,Az⟩;rw[bR]at Az;exact⟨_,rfl,rfl,q ws Az⟩
theorem gU:aS ["row","weights"] ["row","weights"] (aC cq):=mkS
theorem yU {oO iJ} (xO:D9 K mg oO iJ) (B:Bs3 mg):a9 P w K mg base cW 1 oO iJ ["row","weights"] (fZ P w true oV):=by
 refine tp xO.F gU (λds R Gm=> by obtain⟨n,ps,ws,e,_⟩ := Gm;subst e;rfl) λc5 A outer s H E hr=>⟨_,(ar (bM (aI ag (bt.m (g9 hr.units)) (a6 ag (bB.m cD) B.len eM (aa (ab (i:=1)) ae)) (a6 ag (bB.m cD) B.len eM (aa (aL ag bx (ab (i:=0)) af) ae))) tf aT)),λds R h=>?_⟩
 obtain⟨n,ps,ws,rfl,hl,q⟩:=h;have h1:kR [bJ ws]=some (.int (ws.length:Int)):=dv (by rw[Qa])
 have h2:kR [u7 ps]=some (.int (ps.length:Int)):=dv (by rw[Qa])
 exact⟨_,rfl,trivial,_,h1,trivial,_,rfl,trivial,_,rfl,.inr ⟨trivial,_,h2,_,zO _ _,_,rfl,pI (by rw[decide_eq_true (by lia)];rfl) q⟩⟩
theorem gT:aS ["row","weights"] ["row","weights"] (aC cn):=mkS
theorem B5 {oM iH} (xK:IA K mg oM iH) (B:Bs3 mg):a9 P w K mg base cW 1 oM iH ["row","weights"] (fZ P w true wZ):=by
 refine tp xK.F gT (λds R Gk=> by obtain⟨n,ps,ws,e,_⟩ := Gk;subst e;rfl) λc5 A outer s H E hr=>⟨_,(ar (bw (OO (Nat.lt_of_succ_lt hr.c7) ["tie","weight"] [none,none] (by rfl) (by decide:(["tie","weight"]:List Str).Nodup) rfl (yx B.zip (aa (aL ag bx (ab (i:=0)) af) (aa (ab (i:=1)) ae))) (λ_ _ _ _ _ _=>(cM (n:=2) rfl (aH (ak (i:=0) (by decide:(["tie","weight"]:List Str).Nodup)) (aH (ak (i:=1) (by decide:(["tie","weight"]:List Str).Nodup)) bS)))) (λ_ _ _ _ _ _=>b6) (λ_ _ _ _ _ _=>(ab (i:=0))) (λ_ _ _ _ _ _=>(ab (i:=1)))))),λds R h=>?_⟩
 obtain⟨n,ps,ws,rfl,ok,hl,q⟩:=h;have CM:=ok.sm;have NU:(ps.zip ws).length<=400:=by rw[Ua];lia
 refine⟨_,rfl,trivial,_,rfl,.inr ⟨trivial,_,rfl,trivial,_,_,rfl,trivial,?_⟩⟩;rw[lU];refine⟨λm β o=>m<=(ps.zip ws).length/\(∃x0 x1,β=[x0,x1])/\o=((ps.zip ws).take m).map λq=>(tI q.1,D.int q.2),⟨Qv _,⟨_,_,rfl⟩,rfl⟩,?_,?_⟩
 ·rintro m d β o hd ⟨hm,⟨x0,x1,rfl⟩,rfl⟩;rw[Ql]at hd;obtain⟨z,hz,rfl⟩:=Qy.mp hd;have eX:=(Qg.mp hz).1;refine⟨_,rfl,rfl,_,_,rfl,_,_,rfl,rfl,?_⟩;refine⟨_,rfl,_,rfl,tI z.1,rfl,rfl,xY (k:=λq:(Nat×Nat)×Int=>q.1) (xT ok.nd hz),?_,eX,⟨_,_,rfl⟩,?_⟩
  ·rw[Qa,QJ];exact ir (by lia)
  ·rw[Rh,hz,QD];rfl
 ·rintro β o ⟨_,⟨x0,x1,rfl⟩,rfl⟩;rw[Qa,RC,A5 ok.nd hl];exact⟨trivial,trivial,q⟩
end
end jb
namespace L2.Q
open PySem PySem.Spec PySem.SeqAt PyProof.Rows
def oP:FD:=λds R=>∃(n:Nat) (ps:List (Nat×Nat)) (ws:List Int) (pp:List (List Int)),ds=[f6 n ps,bJ ws,cV pp]/\AZ n ps/\n<=40/\ws.length=ps.length/\xE pp/\∀b:Bool,(b=true↔AX n ps (wf ps ws) pp)->R (.bl b)
theorem oP.mono:eN oP:=λds R R' k ⟨n,ps,ws,pp,e,h1,h2,h3,h4,q⟩=>⟨n,ps,ws,pp,e,h1,h2,h3,h4,λb hb=>k _ (q b hb)⟩
def Aw (n:Nat)(ps:List (Nat×Nat))(w:Nat×Nat->Int):List (List Int):=(QQ (n+1)).map λi=>(QQ (n+1-i)).map λr=>tW ps w r i
def w_:FD:=λds R=>∃(n:Nat) (ps:List (Nat×Nat)) (ws:List Int),ds=[f6 n ps,bJ ws]/\AZ n ps/\n<=40/\ws.length=ps.length/\R (cV (Aw n ps (wf ps ws)))
theorem w_.mono:eN w_:=λds R R' k ⟨n,ps,ws,e,h1,h2,h3,q⟩=>⟨n,ps,ws,e,h1,h2,h3,k _ q⟩
theorem BU {ps:List (Nat×Nat)}{ws:List Int}(nd:ps.Nodup)(hl:ws.length=ps.length)(i:Nat):((ps.zip ws).filter λq=>decide (q.1.1=i)).map (λq=>D.tup [.int (q.1.2:Int),.int q.2])=(iC ps i).map λk:Nat=>D.tup [.int (k:Int),.int (wf ps ws (i,k))]:=by
 have e1:((ps.zip ws).filter λq=>decide (q.1.1=i)).map (λq=>D.tup [.int (q.1.2:Int),.int q.2])=((ps.zip ws).filter λq=>decide (q.1.1=i)).map ((λp:Nat×Nat=>D.tup [.int (p.2:Int),.int (wf ps ws (i,p.2))]) ∘ (·.1)):=RS λq hq=>by
  obtain⟨h1,h2⟩:=Rv.mp hq;have h2:=of_decide_eq_true h2;have:wf ps ws (i,q.1.2)=q.2:=by rw[<- lX nd h1,<- h2]
  show D.tup [.int (q.1.2:Int),.int q.2]=D.tup [.int (q.1.2:Int),.int (wf ps ws (i,q.1.2))];rw[this]
 rw[e1,<- QY];have e2:((ps.zip ws).filter λq=>decide (q.1.1=i)).map (·.1)=ps.filter λp=>decide (p.1=i):=by
  have h:=List.map_fst_zip (l₁:=ps) (l₂:=ws) (by lia)
  have h3:(((ps.zip ws).map Prod.fst).filter λp=>decide (p.1=i))=((ps.zip ws).filter λq=>decide (q.1.1=i)).map Prod.fst:=by rw[List.filter_map];rfl
  rw[<- h3,h]
 rw[e2];unfold iC;rw[QY];rfl
theorem Co {α:Type}{γ:cZ}{τ:a_}{φ:aY}{l:List α}{f:α->D}{k:Kd}{pA:ba}{K:List D->Prop}(t:α->Bool)(g:α->D)(h0:dG pA pA)(hl:l.length<=Qp)
  (h:∀x∈l,∀(x0 x1 x2:Option B) (o:List D) (J:ba->List D->Prop),o.length<Qp->(t x=true->∀x0 x1 x2,J (x0::x1::x2::pA) (o++[g x]))->(t x=false->∀x0 x1 x2,J (x0::x1::x2::pA) o)->γ (f x) (sk k (f x)) (x0::x1::x2::pA) λβ1=>τ β1 λt β2=>if t=true then φ β2 λx kx β3=>xI kx x/\o.length<Qp/\J β3 (o++[x]) else J β2 o)
  (q:K ((l.filter t).map g)):jG γ τ φ (l.map f) k (none::none::none::pA) K:=by
 refine⟨λi β o=>i<=l.length/\(∃x0 x1 x2,β=x0::x1::x2::pA)/\o=((l.take i).filter t).map g,⟨Qv _,⟨_,_,_,rfl⟩,rfl⟩,?_,?_⟩
 ·rintro i d β o hd ⟨hi,⟨x0,x1,x2,rfl⟩,rfl⟩;rw[Ql]at hd;obtain⟨x,hx,rfl⟩:=Qy.mp hd;have eX:i<l.length:=(Qg.mp hx).1;have hle:(((l.take i).filter t).map g).length<Qp:=by
   rw[Qa];have:=SG t (l.take i);rw[QJ]at this;lia
  have e:l.take (i+1)=l.take i++[x]:=by rw[Rh,hx];rfl
  refine h x (QW hx) x0 x1 x2 _ (λβ o=>i+1<=l.length/\(∃x0 x1 x2,β=x0::x1::x2::pA)/\o=((l.take (i+1)).filter t).map g) hle (λht x0 x1 x2=>?_) λht x0 x1 x2=>?_
  ·exact⟨eX,⟨_,_,_,rfl⟩,by rw[e,RZ,QD,Si,if_pos ht];rfl⟩
  ·exact⟨eX,⟨_,_,_,rfl⟩,by rw[e,RZ,QD,Si,if_neg (by rw[ht];simp)];simp⟩
 ·rintro β o ⟨_,⟨x0,x1,x2,rfl⟩,rfl⟩;rw[Qa,RC];exact⟨h0,q⟩
def fg (ps:List (Nat×Nat))(w:Nat×Nat->Int)(i j q:Nat):List Int:=tW ps w (j-(i+1)) (i+1)::(((iC ps i).take q).filter λk=>decide (k<j)).map λk=>w (i,k)+tW ps w (k-(i+1)) (i+1)+tW ps w (j-(k+1)) (k+1)
theorem tu {ps:List (Nat×Nat)}{w:Nat×Nat->Int}{i j q k:Nat}(hk:(iC ps i)[q]?=some k)(h:k<j):fg ps w i j (q+1)=fg ps w i j q++[w (i,k)+tW ps w (k-(i+1)) (i+1)+tW ps w (j-(k+1)) (k+1)]:=by
 unfold fg;rw[Rh,hk,RZ,show List.filter (λk=>decide (k<j)) (some k).toList=[k] by simp[h],QD]
 rfl
theorem tw {ps:List (Nat×Nat)}{w:Nat×Nat->Int}{i j q k:Nat}(hk:(iC ps i)[q]?=some k)(h:¬ k<j):fg ps w i j (q+1)=fg ps w i j q:=by
 unfold fg;rw[Rh,hk,RZ,show List.filter (λk=>decide (k<j)) (some k).toList=[] by simp[h],S7]
theorem tx {ps:List (Nat×Nat)}{w:Nat×Nat->Int}(hp:∀p∈ps,p.1<p.2){i j:Nat}(h:i<j):iS (fg ps w i j (iC ps i).length)=some (tW ps w (j-i) i):=by
 obtain⟨l,rfl⟩:∃l,j=i+l+1:=⟨j-i-1,by lia⟩
 rw[show i+l+1-i=l+1 by lia,yd hp]
 obtain⟨h1,h2,h3⟩:=lx (ps:=ps) (w:=w) (T:=tW ps w) (i:=i) (j:=i+l+1);have e0:i+l+1-(i+1)=i+l+1-i-1:=by lia
 unfold fg;rw[RC,e0];refine zb ?_ λx hx=>?_
 ·rcases h1 with e|⟨k,hk,hj,e⟩
  ·rw[e];exact Ra
  ·refine QM _ (QP.mpr ⟨k,Rv.mpr ⟨eI.mpr hk,decide_eq_true hj⟩,?_⟩);rw[e,show k-(i+1)=k-i-1 by lia,show i+l+1-(k+1)=i+l+1-k-1 by lia]
 ·rcases Qc.mp hx with rfl|hx
  ·exact h2
  ·obtain⟨k,hk,rfl⟩:=QP.mp hx;obtain⟨g1,g2⟩:=Rv.mp hk;have:=h3 k (eI.mp g1) (of_decide_eq_true g2);rw[show k-(i+1)=k-i-1 by lia,show i+l+1-(k+1)=i+l+1-k-1 by lia]
   exact this
theorem fG:∀(ns:List Int) (n:Int),(ns.foldl min n∈n::ns)/\∀x∈n::ns,ns.foldl min n<=x
 |[],n=>⟨by simp,λx hx=>by simp at hx;rw[hx];exact Int.le_refl _⟩
 |m::ns,n=>by
  obtain⟨h1,h2⟩:=fG ns (min n m);have hm:ns.foldl min (min n m)<=min n m:=h2 _ (by simp)
  rw[Sz];refine⟨?_,λx hx=>?_⟩
  ·rcases Qc.mp h1 with h|h
   ·rw[h]
    by_cases q:n<=m
    ·rw[show min n m=n by lia];simp
    ·rw[show min n m=m by lia];simp
   ·simp[h]
  ·rcases Qc.mp hx with rfl|hx
   ·lia
   ·rcases Qc.mp hx with rfl|hx
    ·lia
    ·exact h2 x (by simp[hx])
theorem tH {l:List Int}(h:l≠[]):∃m,Cg l=some m/\(m<0↔∃x∈l,x<0):=by
 obtain⟨m,e⟩:∃m,Cg l=some m:=by cases l with|nil=>exact absurd rfl h|cons a r=>exact⟨_,rfl⟩
 obtain⟨h1,h2⟩:m∈l/\∀x∈l,m<=x:=by cases l with|nil=>cases e|cons a r=>cases e;exact fG r a
 exact⟨m,e,λz=>⟨m,h1,z⟩,λGj=> by obtain⟨x,hx,z⟩ := Gj;have:=h2 x hx;lia⟩
def uQ (k:Nat)(pp:List (List Int)):Prop:=pp.length<=41+k/\∀l∈pp,l.length<=41+k
def ia:FD:=λds R=>∃(k:Nat) (pp:List (List Int)),ds=[cV pp]/\uQ k pp/\k<=2/\pp≠[]/\(∀l∈pp,l≠[])/\∀qq,uQ (k+1) qq->R (cV qq)
theorem ia.mono:eN ia:=λds R R' l ⟨k,pp,e,h1,h2,h3,h4,q⟩=>⟨k,pp,e,h1,h2,h3,h4,λqq h=>l _ (q qq h)⟩
def sA (c:Option B)(qq:List (List Int)):Prop:=c=some (.own (cV qq))\/c=some (.shl true (cV qq))\/c=some (.val true (cV qq))
theorem sA.val {c:Option B}{qq:List (List Int)}(h:sA c qq):Cv c (some (.val true (cV qq))):=by
 rcases h with rfl|rfl|rfl
 ·exact .ov
 ·exact .sv
 ·exact .rfl
section
variable {X:Cx}{C:Cfg}{lk:List (Option Nat)}{γ:cZ}{τ:a_}{φ:aY}{T:List Nat}{pi:Bool}{scope:Sd}{N':List Str}{tg cj elt:Expr}{ifs:List Expr}{ι:b5}{pos:Pos}
theorem NK (x0:Str)(N':List Str)(lk:List (Option Nat))(L:qk X.env.scope.names X.N x0 scope N' lk=true)(m_:N'.Nodup)(hc:X.calm=true)(hi:qK X C pi tg cj ι)
  (kJ:∀U cl c s H ex,sC (bC X x0 scope N' cl c s H ex) (C.u U) tg T γ) (iF:∀U cl c s H ex,m7 (bC X x0 scope N' cl c s H ex) (C.u U) true ifs τ)
  (kL:∀U cl c s H ex,PQ (bC X x0 scope N' cl c s H ex) (C.u U) true elt φ)
  (hT:T.all (λi=>match lk[i]? with|some (some _)=>false|_=>true)=true:=by rfl)
  (wQ:eval (.ListComp elt [⟨tg,cj,ifs,0⟩] scope pos) X.env=comprehension (.ListComp elt [⟨tg,cj,ifs,0⟩] scope pos) scope X.env (firstIterPos [⟨tg,cj,ifs,0⟩] pos) (newList []) false (eval cj X.env):=by first|rfl|exact arm_eval_ListComp ..)
  (hs:∀x,QX cj X.env x=pure x:=by intro _;rfl) :
  PQ X C false (.ListComp elt [⟨tg,cj,ifs,0⟩] scope pos) (BJ lk ι γ τ φ):=by
 have L:=fX.of L;have zD:∀i∈T,∀j,lk[i]?≠some (some j):=λi hi j e=>by
  have:=Sj.mp hT i hi;rw[e]at this;cases this
 have γm:=(kJ (λ_=>False) [] 0 X.s₀ X.H₀ []).mono;have τm:=(iF (λ_=>False) [] 0 X.s₀ X.H₀ []).mono;have φm:=(kL (λ_=>False) [] 0 X.s₀ X.H₀ []).mono;refine⟨λβ R R' l h=>hi.mono β _ _ (λds kd β1 q=>⟨q.1,q.2.mono λ_ _ z=>⟨z.1,l _ _ _ z.2⟩⟩) h,(vH (g:=⟨tg,cj,ifs,0⟩) (gs:=[]) (tg:=λa=>Bm X C a T γ) (tt:=λa=>iO X (C.u λc=>c=a) true τ) (ta:=λa=>IG X C a φ)
  L hc gy wQ rfl (λ_ _=>xo) hi.pi (λa cl c s H ex=>⟨(kJ _ cl c s H ex).pg,(iF _ cl c s H ex).pt,gv (X:=bC X x0 scope N' cl c s H ex) rfl (kL _ cl c s H ex).pe⟩) hs).pre λσ H Q ⟨β,own,sq,h⟩=>?_⟩
 refine⟨β,own,sq,hi.mono β _ _ (λds k β1 h J H1 aE o1 it a ha=>?_) h⟩;obtain⟨hk,q⟩:=h;refine jq (C:=C) (T:=T) (m5 (P:=X.prog) (w:=X.w) (H1:=H1)) γm τm (λj hj=>hj) (jI L m_) zD o1.sq ha hk it ⟨[],[],au,(show aK _ _ _ [] [] [] from ⟨rfl,rfl⟩),Q5,λc hc=>(nomatch hc)⟩ (o1.sq.enter ha (jI L m_))
  (λHb Wb βx ox σx Hx Nx h0 sx qx=>qV h0 ha φm sx qx) q λol H' q o2 r=>?_
 have r':=(xB o1.sq ha r).later o1.sn;exact q _ _ _ ((o1.trans o2).wk λz=>(nomatch z)) r'
end
end L2.Q
namespace jb
open PySem L2 L2.Q
section
variable {P:Qd}{w:Qq}{K:PySem.W.Frag}{mg:Str->Option P_}{base:Heap}
theorem iQ:aS ["row","weights","paper"] ["row","weights","paper"] (aC cH):=mkS
theorem B4 {uc lG} (AO:Lq K mg uc lG) {oO iJ} (xO:D9 K mg oO iJ) {oM iH} (xK:IA K mg oM iH) {oN iI} (xN:D7 K mg oN iI) {kQ fK} (uO:D6 K mg kQ fK) {kO fI} (uM:D3 K mg kO fI) {kM fH} (uL:D2 K mg kM fH) {kP fJ} (uN:D5 K mg kP fJ) {iW eS} (rX:D4 K mg iW eS) (B:Bs4 mg):a9 P w K mg base cW 4 uc lG ["row","weights","paper"] (fZ P w true oP):=by
 have Pb:a9 P w K mg base cW 1 _ _ _ (fZ P w true oV):=yU xO B.toBs3;have O1:a9 P w K mg base cW 1 _ _ _ (fZ P w true wZ):=B5 xK B.toBs3;have O9:a9 P w K mg base cW 3 _ _ _ (fZ P w true jY):=vU xN uO uM uL uN rX B;refine tp AO.F iQ (λds R Gi=> by obtain⟨n,ps,ws,pp,e,_⟩ := Gi;subst e;rfl) λc5 A outer s H E hr=>⟨_,(ai (yH (bL oV.mono Pb (hr.mono (by decide)) xO.m xO.F.kp xO.b (aa (ab (i:=0)) (aa (ab (i:=1)) ae))))
    (ar (bw (bL jY.mono O9 (hr.mono (by decide)) xN.m xN.F.kp xN.b (aa (ab (i:=0)) (aa (bL wZ.mono O1 (hr.mono (by decide)) xK.m xK.F.kp xK.b (aa (ab (i:=0)) (aa (ab (i:=1)) ae))) (aa (ab (i:=2)) ae))))))),λds R h=>?_⟩
 obtain⟨n,ps,ws,pp,rfl,ok,hn,hl,hb,q⟩:=h;exact⟨_,rfl,trivial,_,rfl,trivial,n,ps,ws,rfl,hl,_,rfl,trivial,_,rfl,trivial,_,rfl,trivial,n,ps,ws,rfl,ok,hl,trivial,_,rfl,trivial,n,ps,wf ps ws,pp,rfl,ok,hn,hb,λb hb=>⟨trivial,q b hb⟩⟩
theorem a7:aS ["row","weights","many","ties","known","i","own","j","some","k","weight"] ["row","weights"] (aC dD):=mkS
theorem B7 {zJ rP} (EA:MS K mg zJ rP) (B:Bs3 mg):a9 P w K mg base cW 1 zJ rP ["row","weights"] (fZ P w true w_):=by
 refine tp EA.F a7 (λds R Gh=> by obtain⟨n,ps,ws,e,_⟩ := Gh;subst e;rfl) λc5 A outer s H E hr=>⟨_,(ai (qe (ab (i:=0)) (cM (n:=2) rfl (aH (ak (i:=2) a7.nd) (aH (ak (i:=3) a7.nd) bS))))
    (ai (fx (i:=4) (λ_=>vF) a7.nd)
    (ai (b7 Q1 rfl (jz B.range (aa (ab (i:=2)) (aa (d3 bV af) (aa (d3 bV af) ae)))) (ak (i:=5) a7.nd) (ai (rm (i:=4) hr.c7 (λ_=>af) (λ_=>(cx (aa (ab (i:=5)) (aa (ab (i:=5)) ae)))))
    (ai (vw (i:=6) false ["a","k","weight","i"] [none,none,none,some 5] (by rfl) (by decide:(["a","k","weight","i"]:List Str).Nodup) rfl (λ_=>(q_ (qX B.zip (gj (jx (i:=3)) (gj (jx (i:=1)) qY))))) (λ_ _ _ _ _ _=>(cM (n:=2) rfl (aH (cM (n:=2) rfl (aH (ak (i:=0) (by decide:(["a","k","weight","i"]:List Str).Nodup)) (aH (ak (i:=1) (by decide:(["a","k","weight","i"]:List Str).Nodup)) bS))) (aH (ak (i:=2) (by decide:(["a","k","weight","i"]:List Str).Nodup)) bS)))) (λ_ _ _ _ _ _=>(pT (aI ag (bt.m (b8 hr.units)) (ab (i:=0)) (ab (i:=3))))) (λ_ _ _ _ _ _=>(cx (aa (ab (i:=1)) (aa (ab (i:=2)) ae)))) a7.nd)
    (ar (b7 Q1 rfl (dq B.range (aa (ao ay aj (ab (i:=5)) af) (aa (ao ay aj (ab (i:=2)) af) ae))) (ak (i:=7) a7.nd) (ai (fx (i:=8) (λ_=>(aW (aa (aL ag (oC hr.c7) (ab (i:=4)) (cx (aa (ao ay aj (ab (i:=5)) af) (aa (ab (i:=7)) ae)))) ae))) a7.nd)
    (ai (b7 Q1 rfl (bj (ab (i:=6))) (cM (n:=2) rfl (aH (ak (i:=9) a7.nd) (aH (ak (i:=10) a7.nd) bS))) (ar (bM (aI ag (bt.m dO) (ab (i:=9)) (ab (i:=7))) (ar (gX (i:=8) (λ_=>(ao ay aj (ao ay aj (ab (i:=10)) (aL ag (oC hr.c7) (ab (i:=4)) (cx (aa (ao ay aj (ab (i:=5)) af) (aa (ab (i:=9)) ae))))) (aL ag (oC hr.c7) (ab (i:=4)) (cx (aa (ao ay aj (ab (i:=9)) af) (aa (ab (i:=7)) ae)))))))) aT)))
    (ar (rm (i:=4) hr.c7 (λ_=>(a6 ag (bB.m (lN rfl)) B.max mY (aa (ab (i:=8)) ae))) (λ_=>(cx (aa (ab (i:=5)) (aa (ab (i:=7)) ae)))))))))))))
    (fN 4 (ar (bw (NK "i" ["i","known","many"] [none,some 4,some 2] (by rfl) (by decide:(["i","known","many"]:List Str).Nodup) rfl (bG B.range (aa (ao ay aj (ab (i:=2)) af) ae)) (λ_ _ _ _ _ _=>(ak (i:=0) (by decide:(["i","known","many"]:List Str).Nodup))) (λ_ _ _ _ _ _=>b6) (λ_ _ _ _ _ _=>(L4 ["j","known","i"] [none,some 1,some 0] (by rfl) (by decide:(["j","known","i"]:List Str).Nodup) rfl (dq B.range (aa (ab (i:=0)) (aa (ao ay aj (ab (i:=2)) af) ae))) (λ_ _ _ _ _ _=>(ak (i:=0) (by decide:(["j","known","i"]:List Str).Nodup))) (λ_ _ _ _ _ _=>b6) (λ_ _ _ _ _ _=>(aL ag (oC hr.c7) (ab (i:=1)) (cx (aa (ab (i:=2)) (aa (ab (i:=0)) ae)))))))))))))),λds R h=>?_⟩
 obtain⟨n,ps,ws,rfl,ok,hn,hl,q⟩:=h;have CM:=ok.sm;have hp:∀p∈ps,p.1<p.2:=λp hp=>(ok.lt p hp).1;obtain⟨wg,Ei⟩:∃wg,wg=wf ps ws:=⟨_,rfl⟩;have NU:(ps.zip ws).length<=400:=by rw[Ua];lia
 refine⟨_,rfl,_,rfl,rfl,_,_,rfl,_,_,rfl,rfl,trivial,?_⟩;refine⟨_,rfl,trivial,_,rfl,rfl,trivial,_,rfl,rfl,trivial,(n:Int),-1,rfl,⟨by lia,by lia,by lia,by lia⟩,trivial,?_⟩
 rw[show ((n:Int) - -1).toNat=n+1 by lia]
 refine⟨λm β=>m<=n+1/\∃kvs x5 x6 x7 x8 x9 jc,β=[some (.val false (f6 n ps)),some (.val false (bJ ws)),some (.val true (.int n)),some (.val false (u7 ps)),some (.own (dA kvs)),x5,x6,x7,x8,x9,jc]/\Tb (λa b=>tW ps wg (b-a) a) kvs n (n+1-m) (n+1),⟨Qv _,[],_,_,_,_,_,_,rfl,Bo⟩,?_,?_⟩
 ·rintro m d β hd ⟨_,kvs,x5,x6,x7,x8,x9,jc,rfl,tb⟩;obtain⟨hm,rfl⟩:=jw hd;obtain⟨i,hi⟩:∃i,i=n-m:=⟨_,rfl⟩;rw[show (n:Int)-(m:Int)=((i:Nat):Int) by lia]
  rw[show n+1-m=i+1 by lia]at tb
  obtain⟨v0,tb⟩:=vb (yc (by lia) (by lia) tb) (Qf _)
  have hlen:=tb.len;rw[Qu]at hlen;have e1:tW ps wg (i-i) i=0:=by rw[Tw];rfl
  have Mo:kvs.length<=9000:=by have:[((tI (i,i):List Int),D.int (tW ps wg (i-i) i))].length=1:=rfl;lia
  rw[e1]at tb;refine⟨trivial,⟨_,rfl⟩,_,rfl,trivial,_,rfl,trivial,k7,kvs,tI (i,i),rfl,rfl,v0,UC Mo (by decide),?_⟩
  refine⟨_,rfl,_,rfl,_,_,.inl rfl,trivial,?_⟩;rw[lU];refine Co (λz:(Nat×Nat)×Int=>decide (z.1.1=i)) (λz=>.tup [.int (z.1.2:Int),.int z.2]) trivial (cb (by lia)) (λz hz y0 y1 y2 ou J GQ j1 j2=>?_) ?_
  ·refine⟨_,rfl,rfl,_,_,rfl,_,rfl,rfl,_,_,rfl,_,_,rfl,rfl,_,_,rfl,rfl,_,rfl,trivial,_,rfl,_,bI _ _,_,rfl,jO (λh=>?_) (λh=>j2 (by simp;lia) _ _ _)⟩
   exact⟨_,rfl,trivial,_,rfl,trivial,k7,trivial,GQ,j1 (by simp;lia) _ _ _⟩
  rw[BU ok.nd hl i,<- Ei];refine⟨_,rfl,trivial,_,rfl,trivial,_,rfl,trivial,_,rfl,trivial,(i:Int)+1,(n:Int)+1,rfl,⟨by lia,by lia,by lia,by lia⟩,trivial,?_⟩
  rw[show ((n:Int)+1-((i:Int)+1)).toNat=n-i by lia]
  refine⟨λr β=>r<=n-i/\∃kvs x7 x8 x9 jc,β=[some (.val false (f6 n ps)),some (.val false (bJ ws)),some (.val true (.int n)),some (.val false (u7 ps)),some (.own (dA kvs)),some (.val true (.int (i:Int))),some (.val true (.lst ((iC ps i).map λk:Nat=>D.tup [.int (k:Int),.int (wg (i,k))]))),x7,x8,x9,jc]/\Tb (λa b=>tW ps wg (b-a) a) kvs n i (i+1+r),⟨Qv _,_,_,_,_,_,rfl,tb⟩,?_,?_⟩
  ·rintro r d β hd ⟨_,kvs,x7,x8,x9,jc,rfl,tb⟩;obtain⟨F8,rfl⟩:=bK hd;obtain⟨j,hj⟩:∃j,j=i+r+1:=⟨_,rfl⟩;rw[show (i:Int)+1+(r:Int)=((j:Nat):Int) by lia]
   rw[show i+1+r=j by lia]at tb
   have hlen:=tb.len;refine⟨_,rfl,trivial,_,rfl,trivial,_,rfl,trivial,_,rfl,trivial,k7,_,mR (i:=i+1) (j:=j) rfl rfl (tb.ge (i+1) j (by lia) (by lia) (.inl (by lia))),trivial,uD,trivial,?_⟩
   refine⟨_,rfl,_,rfl,trivial,?_⟩;refine⟨λz β=>z<=(iC ps i).length/\∃x9 jc,β=[some (.val false (f6 n ps)),some (.val false (bJ ws)),some (.val true (.int n)),some (.val false (u7 ps)),some (.own (dA kvs)),some (.val true (.int (i:Int))),some (.val true (.lst ((iC ps i).map λk:Nat=>D.tup [.int (k:Int),.int (wg (i,k))]))),some (.val true (.int (j:Int))),some (.own (bJ (fg ps wg i j z))),x9,jc],⟨Qv _,x9,jc,rfl⟩,?_,?_⟩
   ·rintro z d β hd ⟨_,y9,MW,rfl⟩;rw[Ql]at hd;obtain⟨k,hk,rfl⟩:=Qy.mp hd;have Me:=(Qg.mp hk).1;have Oj:=eI.mp (QW hk);have h1:=ok.lt _ Oj;dsimp only at h1;have hpl:(iC ps i).length<=400:=Q6 iY CM;have Ie:(fg ps wg i j z).length<=401:=by
     unfold fg;rw[Qx,Qa];have:=SG (λk=>decide (k<j)) ((iC ps i).take z);rw[QJ]at this;lia
    refine⟨_,rfl,rfl,_,_,rfl,_,_,rfl,rfl,?_⟩;refine⟨_,rfl,trivial,_,rfl,_,rfl,_,rfl,jO (λGW=>?_) λGW=>⟨Me,some (.val true (.int (k:Int))),some (.val true (.int (wg (i,k)))),?_⟩⟩
    ·have GW:k<j:=by lia
     refine⟨⟨_,rfl⟩,_,rfl,trivial,_,rfl,trivial,_,rfl,trivial,_,rfl,trivial,_,rfl,trivial,k7,_,mR (i:=i+1) (j:=k) rfl rfl (tb.ge (i+1) k (by lia) (by lia) (.inl (by lia))),?_⟩
     refine⟨_,rfl,trivial,_,rfl,trivial,_,rfl,trivial,_,rfl,trivial,_,rfl,trivial,k7,_,mR (i:=k+1) (j:=j) rfl rfl (tb.ge (k+1) j (by lia) (by lia) (.inl (by lia))),_,rfl,trivial,_,rfl,by rw[Qa];exact ir (by lia),Me,some (.val true (.int (k:Int))),some (.val true (.int (wg (i,k)))),?_⟩
     rw[tu hk GW];unfold bJ;rw[QD];rfl
    ·rw[tw hk (by lia)]
     rfl
   ·rintro β ⟨_,y9,MW,rfl⟩;rw[Qa];obtain⟨v1,tb⟩:=vb tb (by lia)
    refine⟨_,rfl,trivial,_,fS (tx hp (by lia)),trivial,⟨_,rfl⟩,_,rfl,trivial,_,rfl,trivial,k7,kvs,tI (i,j),rfl,rfl,v1,UC (show kvs.length<=9000 by lia) (by decide),F8,_,_,_,_,_,rfl,?_⟩
    rw[show i+1+(r+1)=j+1 by lia]
    exact tb
  ·rintro β ⟨_,kvs,x7,x8,x9,jc,rfl,tb⟩;rw[bR]at tb;refine⟨hm,_,_,_,_,_,_,_,rfl,?_⟩;rw[show n+1-(m+1)=i by lia]
   rw[show i+1+(n-i)=n+1 by lia]at tb
   exact tb
 ·rintro β ⟨_,kvs,x5,x6,x7,x8,x9,jc,rfl,tb⟩;rw[ju,Tw]at tb;refine⟨_,_,rfl,.ov,?_⟩;refine⟨_,rfl,trivial,_,rfl,trivial,(n:Int)+1,rfl,by lia,by lia,trivial,?_⟩
  rw[show ((n:Int)+1).toNat=n+1 by lia]
  refine⟨λa β o=>a<=n+1/\(∃x0,β=[x0,some (.val true (dA kvs)),some (.val true (.int n))])/\o=(QQ a).map λi=>bJ ((QQ (n+1-i)).map λr=>tW ps wg r i),⟨Qv _,⟨_,rfl⟩,rfl⟩,?_,?_⟩
  ·rintro a d β o hd ⟨ha,⟨x0,rfl⟩,rfl⟩;obtain⟨AG,rfl⟩:=bK hd;rw[Int.zero_add];refine⟨_,rfl,trivial,_,rfl,trivial,_,rfl,trivial,(a:Int),(n:Int)+1,rfl,⟨by lia,by lia,by lia,by lia⟩,trivial,?_⟩
   rw[show ((n:Int)+1-(a:Int)).toNat=n+1-a by lia]
   refine c8 (l:=QQ (n+1-a)) (λ_=>true) (λr:Nat=>.int (tW ps wg r a)) trivial (by rw[Q_];exact cb (by lia)) (λr N4 y0 ou J GQ j1 _=>?_) ⟨trivial,by rw[Qa,Q_];exact ir (by lia),AG,⟨_,rfl⟩,?_⟩
   ·have PC:=RK.mp N4;have hg:=tb.ge a (a+r) (by lia) (by lia) (by lia)
    rw[show a+r-a=r by lia]at hg
    exact⟨_,rfl,trivial,_,rfl,trivial,_,rfl,trivial,k7,_,mR (i:=a) (j:=a+r) rfl (by lia) hg,trivial,GQ,j1 rfl _⟩
   ·rw[List.range_succ,QD,a8];unfold bJ;rw[QS,QY];rfl
  ·rintro β o ⟨_,⟨x0,rfl⟩,rfl⟩;rw[bR];refine⟨trivial,trivial,?_⟩;have:D.lst ((QQ (n+1)).map λi=>bJ ((QQ (n+1-i)).map λr=>tW ps wg r i))=cV (Aw n ps (wf ps ws)):=by
    unfold cV Aw;rw[QY,Ei];rfl
   rw[this];exact q
theorem bg:aS ["row","weights","paper","many","ties","i","j","a","k","weight","beneath","behind"] ["row","weights","paper"] (aC fw):=mkS
theorem B9 {ud lH} (AQ:Lp K mg ud lH) (B:Bs3 mg):a9 P w K mg base cW 1 ud lH ["row","weights","paper"] (fZ P w true oP):=by
 refine tp AQ.F bg (λds R Gg=> by obtain⟨n,ps,ws,pp,e,_⟩ := Gg;subst e;rfl) λc5 A outer s H E hr=>⟨_,(ai (qe (ab (i:=0)) (cM (n:=2) rfl (aH (ak (i:=3) bg.nd) (aH (ak (i:=4) bg.nd) bS))))
    (ai (bM (aI ag (bt.m (g9 hr.units)) (Eg ["numbers"] [none] (by rfl) (by decide:(["numbers"]:List Str).Nodup) rfl (bj (ab (i:=2))) (λ_ _ _ _ _ _=>(ak (i:=0) (by decide:(["numbers"]:List Str).Nodup))) (λ_ _ _ _ _ _=>b6) (λ_ _ _ _ _ _=>(a6 ag (bB.m cD) B.len eM (aa (ab (i:=0)) ae)))) (Eg ["i","many"] [none,some 3] (by rfl) (by decide:(["i","many"]:List Str).Nodup) rfl (bG B.range (aa (ao ay aj (ab (i:=3)) af) ae)) (λ_ _ _ _ _ _=>(ak (i:=0) (by decide:(["i","many"]:List Str).Nodup))) (λ_ _ _ _ _ _=>b6) (λ_ _ _ _ _ _=>(ao ag (bt.m aP) (ao ay aj (ab (i:=1)) af) (ab (i:=0)))))) (ar (bw fc)) aT)
    (ai (bM (aI ag (bt.m (g9 hr.units)) (Eg ["numbers"] [none] (by rfl) (by decide:(["numbers"]:List Str).Nodup) rfl (bj (ab (i:=2))) (λ_ _ _ _ _ _=>(ak (i:=0) (by decide:(["numbers"]:List Str).Nodup))) (λ_ _ _ _ _ _=>(pT (aI ag (bt.m dO) (a6 ag (bB.m (uo rfl)) B.min mX (aa (ab (i:=0)) ae)) af))) (λ_ _ _ _ _ _=>af)) (aW ae)) (ar (bw fc)) aT)
    (ai (b7 Q1 rfl (bG B.range (aa (ab (i:=3)) ae)) (ak (i:=5) bg.nd) (ar (b7 Q1 rfl (dq B.range (aa (ao ay aj (ab (i:=5)) af) (aa (ao ay aj (ab (i:=3)) af) ae))) (ak (i:=6) bg.nd) (ar (bM (aI ag (bt.m dO) (aL ag bx (aL ag bx (ab (i:=2)) (ab (i:=5))) (ao ag (bt.m aP) (ab (i:=6)) (ab (i:=5)))) (aL ag bx (aL ag bx (ab (i:=2)) (ao ay aj (ab (i:=5)) af)) (ao ag (bt.m aP) (ao ag (bt.m aP) (ab (i:=6)) (ab (i:=5))) af))) (ar (bw fc)) aT)))))
    (ai (b7 Q1 rfl (q_ (qX B.zip (gj (jx (i:=4)) (gj (jx (i:=1)) qY)))) (cM (n:=2) rfl (aH (cM (n:=2) rfl (aH (ak (i:=7) bg.nd) (aH (ak (i:=8) bg.nd) bS))) (aH (ak (i:=9) bg.nd) bS))) (ar (b7 Q1 rfl (dq B.range (aa (ao ay aj (ab (i:=8)) af) (aa (ao ay aj (ab (i:=3)) af) ae))) (ak (i:=6) bg.nd) (ai (aV (i:=10) (aL ag bx (aL ag bx (ab (i:=2)) (ao ay aj (ab (i:=7)) af)) (ao ag (bt.m aP) (ao ag (bt.m aP) (ab (i:=8)) (ab (i:=7))) af)) bg.nd)
    (ai (aV (i:=11) (aL ag bx (aL ag bx (ab (i:=2)) (ao ay aj (ab (i:=8)) af)) (ao ag (bt.m aP) (ao ag (bt.m aP) (ab (i:=6)) (ab (i:=8))) af)) bg.nd)
    (ar (bM (aI ag (bt.m dO) (aL ag bx (aL ag bx (ab (i:=2)) (ab (i:=7))) (ao ag (bt.m aP) (ab (i:=6)) (ab (i:=7)))) (ao ay aj (ao ay aj (ab (i:=9)) (ab (i:=10))) (ab (i:=11)))) (ar (bw fc)) aT)))))))
    (ar (bw fc))))))),λds R h=>?_⟩
 obtain⟨n,ps,ws,pp,rfl,ok,hn,hl,hb,q⟩:=h;obtain⟨Mn,Ij⟩:=id hb;obtain⟨wg,Ei⟩:∃wg,wg=wf ps ws:=⟨_,rfl⟩;rw[<- Ei]at q;have hlen:∀l:List Int,kR [bJ l]=some (.int (l.length:Int)):=λl=>dv (by rw[Qa])
 have ff:∀{α:Type} (l:List α),l.filter (λ_=>true)=l:=λl=>a8;refine⟨_,rfl,_,rfl,rfl,_,_,rfl,_,_,rfl,rfl,?_⟩;refine⟨_,rfl,_,rfl,trivial,?_⟩;refine c8 (λ_=>true) (λl=>.int (l.length:Int)) trivial (cb (by lia)) (λl hl y0 o J ho h1 _=>?_) ?_
 ·exact⟨_,rfl,trivial,_,hlen l,trivial,ho,h1 rfl _⟩
 rw[a8];refine⟨trivial,_,rfl,trivial,_,rfl,trivial,(n:Int)+1,rfl,by lia,by lia,trivial,?_⟩
 rw[show ((n:Int)+1).toNat=n+1 by lia]
 refine c8 (l:=QQ (n+1)) (λ_=>true) (λk:Nat=>.int ((n:Int)+1-(k:Int))) trivial (by rw[Q_];exact cb (by lia)) (λk hk y0 o J ho h1 _=>?_) ?_
 ·refine⟨_,rfl,trivial,_,rfl,trivial,_,rfl,_,rfl,trivial,ho,?_⟩;rw[Int.zero_add];exact h1 rfl _
 rw[a8];have e:zP (.lst (pp.map λl=>D.int (l.length:Int))) (.lst ((QQ (n+1)).map λk:Nat=>D.int ((n:Int)+1-(k:Int))))=some (.bl (!nF n pp)):=by
  have:=o7 (pp.map λl=>(l.length:Int)) (l7 n);unfold l7 at this;rw[QY,QY]at this;exact this
 refine⟨_,e,_,rfl,?_⟩;cases uI:nF n pp with
 |false=>exact zq rfl ⟨trivial,q false ⟨λz=>(nomatch z),λz=>by have:=z.1;rw[uI]at this;cases this⟩⟩
 |true =>
  refine pI rfl ?_;obtain⟨s1,s2⟩:=qT uI;have zA:∀l∈pp,l≠[]:=λl hl z=>by
   obtain⟨i,hi⟩:=R6 hl;have fF:=(Qg.mp hi).1;have:=s2 i (by lia)
   rw[QN,hi,z]at this;have:0=n+1-i:=this;lia
  refine⟨_,rfl,_,rfl,trivial,?_⟩;refine c8 (λl:List Int=>l.any λx=>decide (x<0)) (λ_=>.int 1) trivial (cb (by lia)) (λl hl y0 o J ho j1 j2=>?_) ?_
  ·obtain⟨m,em,hm⟩:=tH (zA l hl);have ed:decide (m<0)=l.any λx=>decide (x<0):=by
    rw[U7,decide_eq_true_eq,hm,TZ];simp only[decide_eq_true_eq]
   refine⟨_,rfl,trivial,_,fS em,trivial,_,rfl,_,rfl,?_⟩;cases z:l.any λx=>decide (x<0)with
   |true=>exact zq (ed.trans z) ⟨trivial,ho,j1 z _⟩
   |false=>exact pI (ed.trans z) (j2 z _)
  have Oo:∀fl:List (List Int),zP (.lst (fl.map λ_=>D.int 1)) (.lst [])=some (.bl (!decide (fl=[]))):=λfl=>by
   have:=o7 (fl.map λ_=>(1:Int)) [];rw[QY]at this;refine this.trans ?_;cases fl <;> rfl
  refine⟨trivial,Qv _,_,Oo _,_,rfl,?_⟩;have En:(pp.filter λl:List Int=>l.any λx=>decide (x<0))=[]↔∀l∈pp,∀x∈l,0<=x:=by
   rw[List.filter_eq_nil_iff];refine forall_congr' λl=>forall_congr' λ_=>?_;rw[Bool.not_eq_true,TH];refine forall_congr' λx=>forall_congr' λ_=>?_;rw[decide_eq_true_eq];lia
  refine NT (λhf=>⟨trivial,q false ⟨λz=>(nomatch z),λz=>absurd (En.mpr z.2.1) hf⟩⟩) (λhf=>?_);have Dc:=En.mp hf;rw[rd uI];have hp:∀p∈ps,p.1<p.2/\p.2<n:=ok.lt;refine⟨_,rfl,trivial,n,rfl,by lia,by lia,trivial,?_⟩
  refine⟨λa β=>a<=n/\(∀i,i<a->∀k,1<=k->k<n+1-i->Tp pp (k-1) (i+1)<=Tp pp k i)/\∃x5 x6 x7 x8 x9 jc uC,β=[some (.val false (f6 n ps)),some (.val false (bJ ws)),some (.val false (jU n (Tp pp))),some (.val true (.int n)),some (.val false (u7 ps)),x5,x6,x7,x8,x9,jc,uC],⟨Qv _,λi hi=>by lia,_,_,_,_,_,_,_,rfl⟩,?_,?_⟩
  ·rintro a d β hd ⟨_,jS,x5,x6,x7,x8,x9,jc,uC,rfl⟩;obtain⟨ha,rfl⟩:=bK hd;rw[Int.zero_add];have ha:a<n:=by simpa using ha
   refine⟨_,rfl,trivial,_,rfl,trivial,_,rfl,trivial,_,rfl,trivial,(a:Int)+1,(n:Int)+1,rfl,⟨by lia,by lia,by lia,by lia⟩,trivial,?_⟩
   rw[show ((n:Int)+1-((a:Int)+1)).toNat=n-a by lia]
   refine⟨λk β=>k<=n-a/\(∀m,1<=m->m<k+1->Tp pp (m-1) (a+1)<=Tp pp m a)/\∃x6,β=[some (.val false (f6 n ps)),some (.val false (bJ ws)),some (.val false (jU n (Tp pp))),some (.val true (.int n)),some (.val false (u7 ps)),some (.val true (.int a)),x6,x7,x8,x9,jc,uC],⟨Qv _,λm h1 h2=>by lia,_,rfl⟩,?_,?_⟩
   ·rintro k d β hd ⟨_,hk,x6,rfl⟩;obtain⟨Kz,rfl⟩:=bK hd;refine⟨_,rfl,trivial,_,rfl,_,gE (i:=a) rfl (by lia),.inr ⟨trivial,_,rfl,trivial,_,rfl,_,rfl,_,gF (l:=k+1) (by lia) (by lia),trivial,_,rfl,trivial,_,rfl,trivial,_,rfl,_,gE (i:=a+1) (by lia) (by lia),.inr ⟨trivial,_,rfl,trivial,_,rfl,_,rfl,trivial,_,rfl,_,gF (l:=k) (by lia) (by lia),_,rfl,_,rfl,jO (λeX=>?_) (λeX=>?_)⟩⟩⟩
    ·refine⟨trivial,q false ⟨λz=>(nomatch z),λz=>?_⟩⟩;have:=(mM.mp (z.2.2 a (a+k+1) (by lia) (by lia))).1
     rw[show a+k+1-a-1=k by lia,show a+k+1-a=k+1 by lia]at this
     exact absurd this (by lia)
    ·refine⟨by lia,λm h1 h2=>?_,_,rfl⟩
     by_cases e:m=k+1
     ·rw[e,show k+1-1=k by lia];lia
     ·exact hk m h1 (by lia)
   ·rintro β ⟨_,hk,x6,rfl⟩;rw[bR]at hk;refine⟨by lia,λi hi m h1 h2=>?_,_,_,_,_,_,_,_,rfl⟩
    by_cases e:i=a
    ·subst e;exact hk m h1 (by lia)
    ·exact jS i (by lia) m h1 h2
  ·rintro β ⟨_,jS,x5,x6,x7,x8,x9,jc,uC,rfl⟩;rw[bR]at jS;refine⟨_,rfl,_,rfl,_,_,.inl rfl,trivial,?_⟩;rw[lU];refine⟨λa β=>(∀z∈(ps.zip ws).take a,∀e,z.1.2<e->e<=n->z.2+Tp pp (z.1.2-z.1.1-1) (z.1.1+1)+Tp pp (e-z.1.2-1) (z.1.2+1)<=Tp pp (e-z.1.1) z.1.1)/\∃x6 x7 x8 x9 jc uC,β=[some (.val false (f6 n ps)),some (.val false (bJ ws)),some (.val false (jU n (Tp pp))),some (.val true (.int n)),some (.val false (u7 ps)),x5,x6,x7,x8,x9,jc,uC],⟨λp hp=>(nomatch hp),_,_,_,_,_,_,rfl⟩,?_,?_⟩
   ·rintro a d β hd ⟨iF,x6,x7,x8,x9,jc,uC,rfl⟩;rw[Ql]at hd;obtain⟨⟨⟨b,c⟩,wt⟩,Mf,rfl⟩:=Qy.mp hd;have L8:=QW Mf;have hm:(b,c)∈ps:=(S6 L8).1;have NZ:wg (b,c)=wt:=by rw[Ei];exact lX ok.nd L8
    obtain⟨h1,h2⟩:=hp _ hm;dsimp only at h1 h2;have et:(ps.zip ws).take (a+1)=(ps.zip ws).take a++[((b,c),wt)]:=by rw[Rh,Mf];rfl
    refine⟨_,rfl,rfl,_,_,rfl,_,rfl,rfl,_,_,rfl,_,_,rfl,rfl,_,_,rfl,rfl,?_⟩;refine⟨_,rfl,trivial,_,rfl,trivial,_,rfl,trivial,_,rfl,trivial,(c:Int)+1,(n:Int)+1,rfl,⟨by lia,by lia,by lia,by lia⟩,trivial,?_⟩
    rw[show ((n:Int)+1-((c:Int)+1)).toNat=n-c by lia]
    refine⟨λk β=>k<=n-c/\(∀e,c<e->e<c+1+k->wt+Tp pp (c-b-1) (b+1)+Tp pp (e-c-1) (c+1)<=Tp pp (e-b) b)/\∃x6 jc uC,β=[some (.val false (f6 n ps)),some (.val false (bJ ws)),some (.val false (jU n (Tp pp))),some (.val true (.int n)),some (.val false (u7 ps)),x5,x6,some (.val true (.int b)),some (.val true (.int c)),some (.val true (.int wt)),jc,uC],⟨Qv _,λe h1 h2=>by lia,_,_,_,rfl⟩,?_,?_⟩
    ·rintro k d β hd ⟨_,hk,x6,jc,uC,rfl⟩;obtain⟨Kz,rfl⟩:=bK hd;obtain⟨e,he⟩:∃e,e=c+1+k:=⟨_,rfl⟩;rw[show (c:Int)+1+(k:Int)=(e:Int) by lia]
     refine⟨_,rfl,trivial,_,rfl,trivial,_,rfl,_,gE (i:=b+1) (by lia) (by lia),.inr ⟨trivial,_,rfl,trivial,_,rfl,_,rfl,trivial,_,rfl,_,gF (l:=c-b-1) (by lia) (by lia),?_⟩⟩
     refine⟨_,rfl,trivial,_,rfl,trivial,_,rfl,_,gE (i:=c+1) (by lia) (by lia),.inr ⟨trivial,_,rfl,trivial,_,rfl,_,rfl,trivial,_,rfl,_,gF (l:=e-c-1) (by lia) (by lia),?_⟩⟩
     refine⟨_,rfl,trivial,_,rfl,_,gE (i:=b) rfl (by lia),.inr ⟨trivial,_,rfl,trivial,_,rfl,_,rfl,_,gF (l:=e-b) (by lia) (by lia),trivial,_,rfl,trivial,_,rfl,_,rfl,trivial,_,rfl,_,rfl,_,rfl,_,rfl,jO (λeX=>?_) (λeX=>?_)⟩⟩
     ·refine⟨trivial,q false ⟨λz=>(nomatch z),λz=>?_⟩⟩;have:=(mM.mp (z.2.2 b e (by lia) (by lia))).2 c hm (by lia)
      rw[NZ]at this;exact absurd this (by lia)
     ·refine⟨by lia,λe' h1 h2=>?_,_,_,_,rfl⟩
      by_cases z:e'=e
      ·rw[z];lia
      ·exact hk e' h1 (by lia)
    ·rintro β ⟨_,hk,x6,jc,uC,rfl⟩;rw[bR]at hk;refine⟨λz C5 e h3 h4=>?_,_,_,_,_,_,_,rfl⟩;rw[et]at C5;rcases Qr.mp C5 with y|y
     ·exact iF z y e h3 h4
     ·rw[Qj.mp y]at h3 ⊢
      exact hk e h3 (by dsimp only at h3;lia)
   ·rintro β ⟨iF,x6,x7,x8,x9,jc,uC,rfl⟩;rw[Qa,RC]at iF;refine⟨trivial,q true ⟨λ_=>⟨uI,Dc,λi j h1 h2=>mM.mpr ⟨?_,λk hk hj=>?_⟩⟩,λ_=>rfl⟩⟩
    ·have:=jS i (by lia) (j-i) (by lia) (by lia)
     exact this
    ·have qp:((i,k),wf ps ws (i,k))∈ps.zip ws:=by
      obtain⟨t,ht⟩:=R6 hk;have eX:=(Qg.mp ht).1;have hz:(ps.zip ws)[t]?=some ((i,k),ws[t]'(by lia)):=SX.mpr ⟨ht,Qm (by lia)⟩
      have hm:=QW hz;have:=lX ok.nd hm;dsimp only at this;rw[this];exact hm
     have:=iF _ qp j hj h2;rw[Ei];exact this
end
section
variable {P:Qd}{w:Qq}{K:PySem.W.Frag}{mg:Str->Option P_}{base:Heap}
theorem aZ:aS ["deck","paper","found","at","to","some","by","way","own"] ["deck","paper"] (aC eE):=mkS
theorem yW {zL rR} (zV:MR K mg zL rR) {Dt qv} (dT:D1 K mg Dt qv) (B:IB mg):a9 P w K mg base cW 2 zL rR ["deck","paper"] (iP P w iR false ia):=by
 have GT:a9 P w K mg base cW 1 _ _ _ (iP P w iR true bc):=mH dT.F;refine B_ zV.F aZ (λds R Gf=> by obtain⟨k,pp,e,_⟩ := Gf;subst e;rfl) λc5 A outer s H E IO hr=>⟨_,(ai (vw (i:=2) true ["numbers"] [none] (by rfl) (by decide:(["numbers"]:List Str).Nodup) rfl (λ_=>(bj (ab (i:=1)))) (λ_ _ _ _ _ _=>(ak (i:=0) (by decide:(["numbers"]:List Str).Nodup))) (λ_ _ _ _ _ _=>b6) (λ_ _ _ _ _ _=>(dg ay cY B.list fA (aa (ab (i:=0)) ae))) aZ.nd)
    (ai (aV (i:=3) (aJ (ih:=0) bc.mono GT (hr.mono (by decide)) dT.m dT.F.kp dT.b (aa (a6 ag (bB.m cD) B.len eM (aa (ab (i:=2)) ae)) ae)) aZ.nd)
    (ai (aV (i:=4) (aJ (ih:=0) bc.mono GT (hr.mono (by decide)) dT.m dT.F.kp dT.b (aa (a6 ag (bB.m cD) B.len eM (aa (aL ag bx (ab (i:=2)) (ab (i:=3))) ae)) ae)) aZ.nd)
    (ai (aV (i:=5) (aW (aa af (aa (d3 bV af) (aa (ao ay aj af (aJ (ih:=0) bc.mono GT (hr.mono (by decide)) dT.m dT.F.kp dT.b (aa af ae))) (aa (ao ag (bt.m aP) af (aJ (ih:=0) bc.mono GT (hr.mono (by decide)) dT.m dT.F.kp dT.b (aa af ae))) (aa (ao ag (bt.m mD) af af) (aa (d3 bV (ao ag (bt.m mD) af af)) ae))))))) aZ.nd)
    (ai (aV (i:=6) (aL ag bx (ab (i:=5)) (aJ (ih:=0) bc.mono GT (hr.mono (by decide)) dT.m dT.F.kp dT.b (aa af ae))) aZ.nd)
    (ai (aV (i:=7) (aJ (ih:=0) bc.mono GT (hr.mono (by decide)) dT.m dT.F.kp dT.b (aa af ae)) aZ.nd)
    (bX (bM (aI ag (bt.m dO) (ab (i:=7)) af) (ar (nP (i:=2) (λ_=>(ao ay aj (aL ag bx (aL ag bx (ab (i:=2)) (ab (i:=3))) (ab (i:=4))) (ab (i:=6)))) (λ_=>(ab (i:=3))) (λ_=>(ab (i:=4))))) aT)
    (fN 2 (bX (bM (aI ag (bt.m (b8 hr.units)) (ab (i:=7)) af) (fN 2 (ar (vw (i:=2) true ["numbers","by"] [none,some 6] (by rfl) (by decide:(["numbers","by"]:List Str).Nodup) rfl (λ_=>(bj (ab (i:=2)))) (λ_ _ _ _ _ _=>(ak (i:=0) (by decide:(["numbers","by"]:List Str).Nodup))) (λ_ _ _ _ _ _=>b6) (λ_ _ _ _ _ _=>(L4 ["number","by"] [none,some 1] (by rfl) (by decide:(["number","by"]:List Str).Nodup) rfl (bj (ab (i:=0))) (λ_ _ _ _ _ _=>(ak (i:=0) (by decide:(["number","by"]:List Str).Nodup))) (λ_ _ _ _ _ _=>b6) (λ_ _ _ _ _ _=>(ao ay aj (ab (i:=0)) (a6 ag (bB.m uu) B.abs DL (aa (ab (i:=1)) ae)))))) aZ.nd))) aT)
    (bX (bM (aI ag (bt.m (b8 hr.units)) (ab (i:=7)) af) (fN 2 (ar (aV (i:=2) (ao ay aj (gn (ab (i:=2)) cL (cK (ab (i:=3)))) (gn (ab (i:=2)) (cK (ao ay aj (ab (i:=3)) af)) cL)) aZ.nd))) aT)
    (bX (bM (aI ag (bt.m (b8 hr.units)) (ab (i:=7)) af) (ar (mB (i:=2) (λ_=>(ao ay aj (gn (eG (i:=2) (ab (i:=3))) cL (cK (ab (i:=4)))) (gn (eG (i:=2) (ab (i:=3))) (cK (ao ay aj (ab (i:=4)) af)) cL))) (λ_=>(ab (i:=3))))) aT)
    (bX (bM (aI ag (bt.m (b8 hr.units)) (ab (i:=7)) af) (ar (mB (i:=2) (λ_=>(ao ay aj (eG (i:=2) (ab (i:=3))) (aW (aa af ae)))) (λ_=>(ab (i:=3))))) aT)
    (bX (bM (aI ag (bt.m (b8 hr.units)) (ab (i:=7)) af) (fN 2 (ar (aV (i:=2) (ao ay aj (ao ay aj (gn (ab (i:=2)) cL (cK (ab (i:=3)))) (aW (aa (dg ay cY B.list fA (aa (aL ag bx (ab (i:=2)) (ab (i:=3))) ae)) ae))) (gn (ab (i:=2)) (cK (ab (i:=3))) cL)) aZ.nd))) aT)
    (bX (bM (aI ag (bt.m (b8 hr.units)) (ab (i:=7)) af) (fN 2 (ar (aV (i:=2) (ao ay aj (ab (i:=2)) (aW (aa (aL ag bx (aW (aa (aW ae) (aa (aW (aa af ae)) ae))) (ao ag (bt.m mE) (ab (i:=4)) af)) ae))) aZ.nd))) aT)
    (bX (bM (aI ag (bt.m (b8 hr.units)) (ab (i:=7)) af) (ai (aV (i:=8) (eG (i:=2) (ab (i:=3))) aZ.nd)
    (ar (mB (i:=2) (λ_=>(ao ay aj (ao ay aj (gn (ab (i:=8)) cL (cK (ab (i:=4)))) (aW (aa (aL ag bx (ab (i:=8)) (ab (i:=4))) ae))) (gn (ab (i:=8)) (cK (ab (i:=4))) cL))) (λ_=>(ab (i:=3)))))) aT)
    (fN 2 (ar (bw (ab (i:=2)))))))))))))))))))),λds R h=>?_⟩
 obtain⟨k,pp,rfl,bd,hk,zA,Ie,q⟩:=h;have hpl:1<=pp.length:=List.length_pos_iff.mpr zA;have PR:=bd.1;have JD:kR [cV pp]=some (.int (pp.length:Int)):=dv (by rw[Qa])
 have xj:Dz (.int 10) (.int 28)=some (.int (10 ^ 28)):=by
  show (if kT 10 28 then _ else none)=_
  rw[if_pos (by decide)]
  rfl
 refine⟨_,rfl,_,rfl,trivial,?_⟩;refine c8 (λ_=>true) (λl:List Int=>bJ l) trivial (cb (by lia)) (λl hl x0 o J ho j1 _=>⟨_,rfl,trivial,_,rfl,.inl ⟨bO,trivial,ho,j1 rfl _⟩⟩) ?_
 rw[a8];refine⟨rfl,_,rfl,trivial,_,JD,trivial,rfl,trivial,(pp.length:Int),rfl,by lia,by lia,λr r0 r1=>?_⟩
 obtain⟨t,rfl⟩:=Ta r0;have ht:t<pp.length:=by lia
 obtain⟨l,hl⟩:∃l,pp[t]?=some l:=⟨_,Qm ht⟩;have Ml:=QW hl;have PK:=bd.2 l Ml;have PJ:1<=l.length:=List.length_pos_iff.mpr (Ie l Ml);have Dj:rY (cV pp) (.int (t:Int))=some (bJ l):=oD rfl (by rw[Ql,hl];rfl)
 have Cq:kR [bJ l]=some (.int (l.length:Int)):=dv (by rw[Qa])
 refine⟨rfl,_,rfl,trivial,_,rfl,_,Dj,.inr ⟨trivial,_,Cq,trivial,rfl,trivial,(l.length:Int),rfl,by lia,by lia,λr r0 r1=>?_⟩⟩
 obtain⟨h,rfl⟩:=Ta r0;have hh:h<l.length:=by lia
 refine⟨trivial,_,rfl,rfl,trivial,trivial,rfl,trivial,rfl,trivial,9,rfl,by decide,by decide,λa a0 a1=>⟨_,rfl,trivial,trivial,rfl,trivial,rfl,trivial,9,rfl,by decide,by decide,λb b0 b1=>⟨_,rfl,trivial,trivial,_,xj,trivial,trivial,_,xj,_,rfl,rfl,trivial,cb (by show 6<=1000;decide),?_⟩⟩⟩
 refine⟨_,rfl,trivial,rfl,trivial,rfl,trivial,6,rfl,by decide,by decide,λr r0 r1=>?_⟩
 obtain⟨bv,Oy⟩:=i9 (l:=[1,-1,1+a,0-b,10 ^ 28,-10 ^ 28]) (r:=r) r0 r1;refine⟨_,Oy,?_⟩;refine⟨rfl,trivial,rfl,trivial,11,rfl,by decide,by decide,λwy w0 w1=>?_⟩
 have AM:∀x:Nat,xM (bJ l) (some (x:Int)) none=some (.lst ((l.drop x).map D.int)):=λx=>(qR rfl).trans (by rw[zf])
 have Ad:xM (bJ l) none (some (h:Int))=some (.lst ((l.take h).map D.int)):=(Ag rfl).trans (by rw[ze])
 have Hg:xM (bJ l) (some ((h:Int)+1)) none=some (.lst ((l.drop (h+1)).map D.int)):=AM (h+1);have ub:∀a b:List Int,a.length+b.length<=1000->xn (.lst (a.map D.int)) (.lst (b.map D.int))=some (.lst ((a++b).map D.int)):=λa b z=>(gK (by rw[Qa,Qa];lia)).trans (by rw[QD])
 have MI:∀x∈pp.take t,x.length<=41+(k+1):=λx hx=>by have:=bd.2 x (Uo hx);lia
 have MJ:∀n,∀x∈pp.drop n,x.length<=41+(k+1):=λn x hx=>by have:=bd.2 x (List.mem_of_mem_drop hx);lia
 have eP:xM (cV pp) none (some (t:Int))=some (.lst ((pp.take t).map bJ)):=(Ag rfl).trans (by rw[Uz])
 have AL:∀x:Nat,xM (cV pp) (some (x:Int)) none=some (.lst ((pp.drop x).map bJ)):=λx=>(qR rfl).trans (by rw[List.map_drop])
 have Dv:xM (cV pp) (some ((t:Int)+1)) none=some (.lst ((pp.drop (t+1)).map bJ)):=AL (t+1);have zX:∀a b:List (List Int),a.length+b.length<=1000->xn (.lst (a.map bJ)) (.lst (b.map bJ))=some (.lst ((a++b).map bJ)):=λa b z=>(gK (by rw[Qa,Qa];lia)).trans (by rw[QD])
 have L0:(pp.take t).length=t:=by rw[QJ];lia
 have H9:∀x,(pp.drop x).length=pp.length-x:=λx=>RX;have Pt:=H9 (t+1);have Pu:=H9 t;have qb:∀c:List Int,c.length<=41+(k+1)->uQ (k+1) (pp.set t c):=λc hc=>by
  refine⟨by rw[U3];lia,λy hy=>?_⟩
  rcases List.mem_or_eq_of_mem_set hy with hy|rfl
  ·have:=bd.2 y hy;lia
  ·exact hc
 have EZ:∀c:List Int,(pp.map bJ).set t (bJ c)=(pp.set t c).map bJ:=λc=>by rw[List.map_set]
 obtain⟨nu,Mi⟩:=i9 (l:=l) (r:=(h:Int)) (by lia) (by lia)
 let bb:Option Q.B->Option Q.B->List (Option Q.B):=λc o=>[some (.hand iR),some (.val false (cV pp)),c,some (.val true (.int t)),some (.val true (.int h)),some (.val true (.lst [.int 1,.int (-1),.int (1+a),.int (0-b),.int (10 ^ 28),.int (-10 ^ 28)])),some (.val true (.int bv)),some (.val true (.int wy)),o]
 refine⟨λβ=>∃qq,β=bb (some (.own (cV qq))) none/\((wy<4/\uQ (k+1) qq)\/(4<=wy/\qq=pp)),⟨_,rfl,trivial,_,rfl,_,rfl,jO (λh4=>?_) λh4=>?_⟩,?_⟩
 ·refine⟨_,rfl,trivial,_,rfl,_,Dj,.inr ⟨trivial,_,rfl,_,Mi,trivial,_,rfl,_,rfl,rfl,⟨_,rfl⟩,_,rfl,_,(t:Int),t,l.map D.int,rfl,rfl,by rw[Qa];exact zi rfl ht,by rw[Ql,hl];rfl,_,rfl,(h:Int),h,rfl,rfl,by rw[Qa];exact zi rfl hh,?_⟩⟩
  refine⟨pp.set t (l.set h (nu+bv)),?_,.inl ⟨h4,qb _ (by rw[U3];lia)⟩⟩
  have:(pp.map bJ).set t (.lst ((l.map D.int).set h (.int (nu+bv))))=(pp.set t (l.set h (nu+bv))).map bJ:=by rw[<- EZ,<- List.map_set];rfl
  exact congrArg (λz=>bb (some (.own (.lst z))) none) this
 ·exact⟨pp,rfl,.inr ⟨by lia,rfl⟩⟩
 intro β ⟨qq,e,hq⟩;subst e;refine⟨_,_,rfl,.os,?_⟩;let Cd:Int->Option Q.B->Prop:=λk0 c=>(wy<=k0/\∃qq,uQ (k+1) qq/\sA c qq)\/(k0<wy/\c=some (.shl true (cV pp)))
 let JJ:Int->List (Option Q.B)->Prop:=λk0 β=>∃c o,β=bb c o/\Cd k0 c
 have BB:∀{k0 c},Cd k0 c->wy≠k0+1->Cd (k0+1) c:=λz n=>z.elim (λz=>.inl ⟨by lia,z.2⟩) λz=>.inr ⟨by lia,z.2⟩
 have DO:∀{k0 c},Cd k0 c->wy=k0+1->c=some (.shl true (cV pp)):=λz n=>z.elim (λz=>absurd z.1 (by lia)) λz=>z.2
 have dn:∀{k0 c o} qq,uQ (k+1) qq->sA c qq->wy=k0->JJ k0 (bb c o):=λqq b z n=>⟨_,_,rfl,.inl ⟨by lia,qq,b,z⟩⟩
 obtain⟨c,hc,z⟩:∃c,c=some (.shl true (.lst (qq.map bJ)))/\Cd 3 c:=⟨_,rfl,hq.elim (λz=>.inl ⟨by lia,qq,z.2,.inr (.inl rfl)⟩) λz=>.inr ⟨by lia,by rw[z.2]⟩⟩
 rw[<- hc]
 clear hc hq
 refine⟨JJ 4,⟨_,rfl,trivial,_,bI _ _,_,rfl,jO (λh4=>?_) λh4=>?_⟩,?_⟩
 ·obtain rfl:=DO z h4;refine⟨_,_,rfl,.sv,?_⟩;refine⟨_,rfl,_,rfl,trivial,?_⟩;refine c8 (λ_=>true) (λl:List Int=>bJ (l.map λn=>n+(if bv<0 then -bv else bv))) trivial (cb (by lia)) (λl hl x0 o J ho j1 _=>⟨_,rfl,_,rfl,trivial,?_⟩) ?_
  ·refine c8 (λ_=>true) (λn:Int=>.int (n+(if bv<0 then -bv else bv))) trivial (cb (by have:=bd.2 l hl;lia)) (λn hn y0 ou J GQ j2 _=>⟨_,rfl,trivial,_,rfl,trivial,_,rfl,_,rfl,trivial,GQ,j2 rfl _⟩) ?_
   rw[a8];have e:(l.map λn=>D.int (n+(if bv<0 then -bv else bv)))=(l.map λn=>n+(if bv<0 then -bv else bv)).map D.int:=by rw[QY];rfl
   rw[e];exact⟨trivial,ho,j1 rfl _⟩
  ·rw[a8];refine dn (pp.map λl=>l.map λn=>n+(if bv<0 then -bv else bv)) ⟨by rw[Qa];lia,λy hy=>?_⟩ (.inl (by show some (Q.B.own _)=some (Q.B.own (.lst _));rw[QY];rfl)) h4
   obtain⟨x,hx,rfl⟩:=QP.mp hy;rw[Qa];have:=bd.2 x hx;lia
 ·exact⟨_,_,rfl,BB z h4⟩
 intro β ⟨c,o,e,z⟩;subst e;refine⟨JJ 5,⟨_,rfl,trivial,_,bI _ _,_,rfl,jO (λh4=>?_) λh4=>?_⟩,?_⟩
 ·obtain rfl:=DO z h4;refine⟨_,_,rfl,.sv,?_⟩;refine⟨_,rfl,_,rfl,_,rfl,_,eP,.inr ⟨trivial,?_⟩⟩;refine⟨_,rfl,_,rfl,trivial,_,rfl,_,rfl,_,Dv,.inr ⟨_,zX (pp.take t) (pp.drop (t+1)) (by lia),.inr ?_⟩⟩
  refine dn (pp.take t++pp.drop (t+1)) ⟨?_,λy hy=>?_⟩ (.inr (.inr rfl)) h4
  ·rw[Qu,L0,H9];lia
  ·exact(Qr.mp hy).elim (MI y) (MJ _ y)
 ·exact⟨_,_,rfl,BB z h4⟩
 intro β ⟨c,o,e,z⟩;subst e;have uJ:(pp.map bJ)[t]?=some (bJ l):=by rw[Ql,hl];rfl
 have kK:lz (pp.map bJ).length (t:Int)=some t:=by rw[Qa];exact zi rfl ht
 have setB:∀(c:List Int) o,bb (some (.shl true (.lst ((pp.map bJ).set t (.lst (c.map D.int)))))) o=bb (some (.shl true (cV (pp.set t c)))) o:=λc o=>congrArg (λz=>bb (some (.shl true (.lst z))) o) (EZ c);refine⟨JJ 6,⟨_,rfl,trivial,_,bI _ _,_,rfl,jO (λh4=>?_) λh4=>?_⟩,?_⟩
 ·obtain rfl:=DO z h4;refine⟨⟨_,rfl⟩,_,rfl,_,(t:Int),t,_,rfl,rfl,kK,uJ,_,rfl,_,rfl,_,Ad,.inl ⟨bO,trivial,⟨_,rfl⟩,_,rfl,_,(t:Int),t,_,rfl,rfl,kK,uJ,_,rfl,trivial,_,rfl,_,rfl,_,Hg,.inl ⟨bO,_,ub (l.take h) (l.drop (h+1)) (by rw[QJ,RX];lia),.inl ⟨bO,⟨trivial,nofun⟩,⟨_,rfl⟩,_,rfl,_,(t:Int),t,rfl,rfl,kK,?_⟩⟩⟩⟩
  show JJ 6 (bb (some (.shl true (.lst ((pp.map bJ).set t (.lst ((l.take h++l.drop (h+1)).map D.int)))))) o);rw[setB];exact dn _ (qb _ (by rw[Qu,QJ,RX];lia)) (.inr (.inl rfl)) h4
 ·exact⟨_,_,rfl,BB z h4⟩
 intro β ⟨c,o,e,z⟩;subst e;refine⟨JJ 7,⟨_,rfl,trivial,_,bI _ _,_,rfl,jO (λh4=>?_) λh4=>?_⟩,?_⟩
 ·obtain rfl:=DO z h4;refine⟨⟨_,rfl⟩,_,rfl,_,(t:Int),t,_,rfl,rfl,kK,uJ,trivial,trivial,uD,_,ub l [0] (by show _+1<=_;lia),.inl ⟨bO,⟨trivial,nofun⟩,⟨_,rfl⟩,_,rfl,_,(t:Int),t,rfl,rfl,kK,?_⟩⟩
  show JJ 7 (bb (some (.shl true (.lst ((pp.map bJ).set t (.lst ((l++[0]).map D.int)))))) o);rw[setB];exact dn _ (qb _ (by rw[Qu];show _+1<=_;lia)) (.inr (.inl rfl)) h4
 ·exact⟨_,_,rfl,BB z h4⟩
 intro β ⟨c,o,e,z⟩;subst e;refine⟨JJ 8,⟨_,rfl,trivial,_,bI _ _,_,rfl,jO (λh4=>?_) λh4=>?_⟩,?_⟩
 ·obtain rfl:=DO z h4;refine⟨_,_,rfl,.sv,?_⟩;refine⟨_,rfl,_,rfl,_,rfl,_,eP,.inr ⟨trivial,_,rfl,trivial,_,rfl,_,Dj,.inr ⟨trivial,_,rfl,.inl ⟨bO,trivial,uD,_,zX (pp.take t) [l] (by show _+1<=_;lia),.inr ⟨trivial,?_⟩⟩⟩⟩⟩
  refine⟨_,rfl,_,rfl,_,rfl,_,AL t,.inr ⟨_,zX (pp.take t++[l]) (pp.drop t) (by rw[Qu];show _+1+_<=_;lia),.inr ?_⟩⟩
  refine dn (pp.take t++[l]++pp.drop t) ⟨?_,λy hy=>?_⟩ (.inr (.inr rfl)) h4
  ·rw[Qu,Qu,L0,H9];show t+1+_<=_;lia
  ·rcases Qr.mp hy with hy|hy
   ·rcases Qr.mp hy with hy|hy
    ·exact MI y hy
    ·rw[Qj.mp hy];lia
   ·exact MJ _ y hy
 ·exact⟨_,_,rfl,BB z h4⟩
 intro β ⟨c,o,e,z⟩;subst e;refine⟨JJ 9,⟨_,rfl,trivial,_,bI _ _,_,rfl,jO (λh4=>?_) λh4=>?_⟩,?_⟩
 ·obtain rfl:=DO z h4;refine⟨_,_,rfl,.sv,?_⟩;obtain⟨c,hc,Ep⟩:∃c:List Int,rY (.lst [bJ [],bJ [0]]) (.int ((h:Int) % 2))=some (bJ c)/\c.length<=1:=by
   rcases Nat.mod_two_eq_zero_or_one h with e|e
   ·rw[show (h:Int) % 2=0 by lia];exact⟨[],rfl,Qv _⟩
   ·rw[show (h:Int) % 2=1 by lia];exact⟨[0],rfl,Qf _⟩
  have Dg:zQ (.int (h:Int)) (.int 2)=some (.int ((h:Int) % 2)):=rfl;refine⟨_,rfl,trivial,?_⟩;refine⟨Qv _,trivial,trivial,uD,trivial,k7,trivial,_,rfl,trivial,_,Dg,_,hc,.inr ⟨trivial,uD,.inr ⟨_,zX pp [c] (by show _+1<=_;lia),.inr ?_⟩⟩⟩
  refine dn (pp++[c]) ⟨by rw[Qu];show _+1<=_;lia,λy hy=>?_⟩ (.inr (.inr rfl)) h4
  rcases Qr.mp hy with hy|hy
  ·have:=bd.2 y hy;lia
  ·rw[Qj.mp hy];lia
 ·exact⟨_,_,rfl,BB z h4⟩
 intro β ⟨c,o,e,z⟩;subst e;refine⟨JJ 10,⟨_,rfl,trivial,_,bI _ _,_,rfl,jO (λh4=>?_) λh4=>?_⟩,?_⟩
 ·obtain rfl:=DO z h4;refine⟨⟨_,rfl⟩,_,rfl,_,(t:Int),t,_,rfl,rfl,kK,uJ,_,rfl,_,rfl,_,rfl,_,Ad,.inl ⟨bO,trivial,_,rfl,trivial,_,rfl,_,Mi,trivial,uD,_,ub (l.take h) [nu] (by rw[QJ];show _+1<=_;lia),.inl ⟨bO,trivial,_,rfl,_,rfl,_,rfl,_,AM h,.inl ⟨bO,_,ub (l.take h++[nu]) (l.drop h) (by rw[Qu,QJ,RX];show _+1+_<=_;lia),.inl ⟨bO,⟨trivial,nofun⟩,⟨_,rfl⟩,_,rfl,_,(t:Int),t,rfl,rfl,kK,?_⟩⟩⟩⟩⟩
  show JJ 10 (bb (some (.shl true (.lst ((pp.map bJ).set t (.lst ((l.take h++[nu]++l.drop h).map D.int)))))) _);rw[setB];exact dn _ (qb _ (by rw[Qu,Qu,QJ,RX];show _+1+_<=_;lia)) (.inr (.inl rfl)) h4
 ·exact⟨_,_,rfl,BB z h4⟩
 intro β ⟨c,o,e,z⟩;subst e;obtain⟨_,qq,hq,pc⟩:=z.elim id λz=>absurd z.1 (by lia)
 exact⟨_,_,rfl,pc.val,_,rfl,trivial,rfl,q qq hq⟩
end
theorem Cy {K:PySem.W.Frag}:PySem.W.kitOne K (.type "bool") (.type "bool")=some true:=by rfl
def gH:FD:=λds R=>∃(n:Nat) (ps:List (Nat×Nat)) (ws:List Int) (pp:List (List Int)),ds=[f6 n ps,bJ ws,cV pp]/\AZ n ps/\n<=40/\ws.length=ps.length/\ws.length<=900/\xE pp/\R (.bl true)
theorem gH.mono:eN gH:=λds R R' k ⟨n,ps,ws,pp,e,h1,h2,h3,h4,h5,q⟩=>⟨n,ps,ws,pp,e,h1,h2,h3,h4,h5,k _ q⟩
section
variable {P:Qd}{w:Qq}{K:PySem.W.Frag}{mg:Str->Option P_}{base:Heap}
theorem ku:aS ["row"] ["row"] (aC dc):=mkS
theorem tm {ue lI} (AR:Lo K mg ue lI) (B:Bs mg):a9 P w K mg base cW 1 ue lI ["row"] (fZ P w true oU):=by
 refine tp AR.F ku (λds R Ge=> by obtain⟨n,ps,e,_⟩ := Ge;subst e;rfl) λc5 A outer s H E hr=>⟨_,(ar (bw (cx (aa (aL ag bx (ab (i:=0)) af) (aa (dg ay cY B.list fA (aa (aL ag bx (ab (i:=0)) af) ae)) ae))))),λds R h=>?_⟩
 obtain⟨n,ps,rfl,q⟩:=h;exact⟨_,rfl,trivial,_,rfl,trivial,_,rfl,trivial,_,rfl,.inr ⟨trivial,_,rfl,.inl ⟨wX,trivial,k7,trivial,q⟩⟩⟩
theorem cG:aS ["row","weights","paper","handed","due","again","found"] ["row","weights","paper"] (aC dC):=mkS
theorem vR {zI rO} (Ez:MQ K mg zI rO) {ue lI} (AR:Lo K mg ue lI) {ud lH} (AQ:Lp K mg ud lH) {uc lG} (AO:Lq K mg uc lG) {oO iJ} (xO:D9 K mg oO iJ) {oM iH} (xK:IA K mg oM iH) {oN iI} (xN:D7 K mg oN iI) {kQ fK} (uO:D6 K mg kQ fK) {kO fI} (uM:D3 K mg kO fI) {kM fH} (uL:D2 K mg kM fH) {kP fJ} (uN:D5 K mg kP fJ) {iW eS} (rX:D4 K mg iW eS) (B:IB mg):a9 P w K mg base cW 5 zI rO ["row","weights","paper"] (fZ P w true gH):=by
 have Pa:a9 P w K mg base cW 1 _ _ _ (fZ P w true oU):=tm AR B.toBs;have O_:a9 P w K mg base cW 1 _ _ _ (fZ P w true oP):=B9 AQ B.toBs3;have O0:a9 P w K mg base cW 4 _ _ _ (fZ P w true oP):=B4 AO xO xK xN uO uM uL uN rX B.toBs4;refine tp Ez.F cG (λds R Gb=> by obtain⟨n,ps,ws,pp,e,_⟩ := Gb;subst e;rfl) λc5 A outer s H E hr=>⟨_,(ai (aV (i:=3) (aW (aa (bL oU.mono Pa (hr.mono (by decide)) AR.m AR.F.kp AR.b (aa (ab (i:=0)) ae)) (aa (dg ay cY B.list fA (aa (ab (i:=1)) ae)) (aa (Eg ["numbers"] [none] (by rfl) (by decide:(["numbers"]:List Str).Nodup) rfl (bj (ab (i:=2))) (λ_ _ _ _ _ _=>(ak (i:=0) (by decide:(["numbers"]:List Str).Nodup))) (λ_ _ _ _ _ _=>b6) (λ_ _ _ _ _ _=>(dg ay cY B.list fA (aa (ab (i:=0)) ae)))) ae)))) cG.nd)
    (ai (aV (i:=4) (bL oP.mono O_ (hr.mono (by decide)) AQ.m AQ.F.kp AQ.b (aa (ab (i:=0)) (aa (ab (i:=1)) (aa (ab (i:=2)) ae)))) cG.nd)
    (ai (b7 Q1 rfl (bG B.range (aa af ae)) (ak (i:=5) cG.nd) (ai (aV (i:=6) (bL oP.mono O0 (hr.mono (by decide)) AO.m AO.F.kp AO.b (aa (aL ag bx (ab (i:=3)) af) (aa (aL ag bx (ab (i:=3)) af) (aa (aL ag bx (ab (i:=3)) af) ae)))) cG.nd)
    (ar (bM (qJ.t (mq (mv (i3 (BP (yt B.NS (jx (i:=6)) B.bool zZ)))) (mq (aI ag (bt.m (g9 hr.units)) (ab (i:=6)) (ab (i:=4))) (mn (aI ag (bt.m (g9 hr.units)) (ab (i:=3)) (aW (aa (ab (i:=0)) (aa (ab (i:=1)) (aa (ab (i:=2)) ae))))))))) (ar (bw fc)) aT))))
    (ar (bw fc))))),λds R h=>?_⟩
 obtain⟨n,ps,ws,pp,rfl,ok,hn,hl,Az,hb,q⟩:=h;have G5:=hb.1;have LF:(cV pp).pd.canLay0=true/\(cV pp).pd.depth<=3:=dZ λd hd=>by
  obtain⟨l,_,rfl⟩:=QP.mp hd;exact bu l
 refine⟨_,rfl,trivial,n,ps,rfl,trivial,_,rfl,trivial,_,rfl,.inl ⟨bO,trivial,_,rfl,_,rfl,trivial,?_⟩⟩;refine c8 (λ_=>true) (λl:List Int=>bJ l) trivial (cb (by lia)) (λl hl x0 o J ho j1 _=>⟨_,rfl,trivial,_,rfl,.inl ⟨bO,trivial,ho,j1 rfl _⟩⟩) ?_
 rw[a8];refine⟨trivial,cb (by show 3<=1000;decide),_,rfl,trivial,_,rfl,trivial,_,rfl,trivial,n,ps,ws,pp,rfl,ok,hn,hl,hb,λb1 MF=>?_⟩
 refine⟨trivial,2,rfl,by decide,by decide,trivial,?_⟩
 refine⟨λ_ β=>∃x4 x5,β=[some (.val false (f6 n ps)),some (.val false (bJ ws)),some (.val false (cV pp)),some (.val true (.lst [f6 n ps,bJ ws,cV pp])),some (.val true (.bl b1)),x4,x5],⟨_,_,rfl⟩,?_,?_⟩
 ·rintro i d β hd ⟨x4,x5,rfl⟩;obtain⟨_,rfl⟩:=bK hd;refine⟨_,rfl,trivial,_,rfl,trivial,_,rfl,trivial,_,rfl,.inr ⟨trivial,_,rfl,trivial,_,rfl,.inr ⟨trivial,n,ps,ws,pp,rfl,ok,hn,hl,hb,λb2 ME=>?_⟩⟩⟩;have ON:b2=b1:=by
   cases b1 with
   |true=>exact ME.mpr (MF.mp rfl)
   |false=>cases b2 with
    |false=>rfl
    |true=>exact absurd (MF.mpr (ME.mp rfl)) (by decide)
  subst ON;refine⟨_,rfl,_,_,rfl,Cy,rfl,_,rfl,pI rfl ⟨_,rfl,trivial,_,rfl,_,oZ (vp _),_,rfl,pI rfl ?_⟩⟩;have Nb:(D.lst [f6 n ps,bJ ws,cV pp]).pd.canLay0=true/\(D.lst [f6 n ps,bJ ws,cV pp]).pd.depth<=5:=dZ λd hd=>by
   simp only[Qc,QT,or_false]at hd;rcases hd with rfl|rfl|rfl
   ·exact vn n ps
   ·exact⟨(bu ws).1,Q6 (bu ws).2 (by decide)⟩
   ·exact⟨LF.1,by have:=LF.2;lia⟩
  exact⟨_,rfl,trivial,_,rfl,trivial,_,rfl,trivial,_,rfl,trivial,cb (by show 3<=1000;decide),.inr ⟨_,oZ Nb,_,rfl,pI rfl ⟨_,_,rfl⟩⟩⟩
 ·rintro β ⟨x4,x5,rfl⟩;exact⟨trivial,q⟩
end
section
variable {P:Qd}{w:Qq}{K:PySem.W.Frag}{mg:Str->Option P_}{base:Heap}
theorem Hj {n:Nat}(hn:n<=900):Dx (.lst [.int 0]) (.int (n:Int))=some (bJ (Qw n 0)):=by
 unfold Dx D.tM D.int?;rw[Sg,Sg,if_pos ⟨by lia,by lia,by rw[Ud,Nat.one_mul,show (n:Int).toNat=n by lia];exact cb (by lia)⟩,yr,show (n:Int).toNat=n by lia]
 unfold bJ;rw[List.map_replicate]
theorem nE (qq:List (List Int)):(cV qq).pd.canLay0=true/\(cV qq).pd.depth<=3:=dZ λd hd=>by
 obtain⟨l,_,rfl⟩:=QP.mp hd;exact bu l
theorem qA (qq:List (List Int)):qD (.lst []) (cV qq)=some (.bl (!decide ([]∈qq))):=by
 have:DC (bJ []) (cV qq)=some (decide ([]∈qq)):=by
  show (if (bJ []).pX=true/\(cV qq).pX=true then some _ else none)=_
  rw[if_pos ⟨cE (bu []),cE (nE qq)⟩,any_map (f:=bJ) (λa b=>j0 a b)];exact congrArg some (decide_eq_decide.mpr Iff.rfl)
 unfold qD;show (DC (bJ []) (cV qq)).map _=_;rw[this];rfl
theorem Cr {n:Nat}{ps:List (Nat×Nat)}{w:Nat×Nat->Int}(hn:n<=40):uQ 0 (Aw n ps w)/\Aw n ps w≠[]/\∀l∈Aw n ps w,l≠[]:=by
 unfold Aw;refine⟨⟨by rw[Qa,Q_];lia,λl hl=>?_⟩,λe=>?_,λl hl e=>?_⟩
 ·obtain⟨i,_,rfl⟩:=QP.mp hl;rw[Qa,Q_];lia
 ·have:=congrArg Up e;rw[Qa,Q_]at this;exact absurd this (by simp)
 ·obtain⟨i,hi,rfl⟩:=QP.mp hl;have h1:=RK.mp hi;have:=congrArg Up e;rw[Qa,Q_]at this;have:n+1-i=0:=this;lia
theorem jo:aS ["script","k"] ["script","k"] (aC cT):=mkS
def vm (K:PySem.W.Frag):Sp:=λvs H Q _=>∃(a:Addr) (ns:List Int),vs=[.ref a,.int 0]/\c6 K H a (ns.map V.int)/\∀c:Int,Q (.int c) H
theorem yV {zK rQ} (EC:MP K mg zK rQ) (B:Bs mg):a9 P w K mg base cW 1 zK rQ ["script","k"] (vm K):=by
 refine EC.F.ok jo (λvs H Q E h=>?_) (λc5 A outer s H vs Qk E hr h=>?_)
 ·obtain⟨a,ns,rfl,_⟩:=h;rfl
 ·obtain⟨a,ns,rfl,hS,k⟩:=h;refine⟨_,cf (vA (mh An (pv 1) (gq eL (by rfl) B.len eM (bo (pv 0) dt)) (vX _)) (eF (fb (eR cu (pv 0) (pv 1) (λ_ _=>rfl)))) ml) (eF (fb aU)),?_⟩
  refine⟨_,rfl,_,rfl,a,_,rfl,.inl hS,0,_,rfl,rfl,_,rfl,?_⟩;dsimp only
  split
  ·rename_i hl
   cases ns with
   |nil=>exact absurd hl (by decide)
   |cons n ns=>exact⟨_,rfl,_,rfl,a,_,0,.int n,rfl,rfl,hS,(by unfold j6;rw[show lz (List.map V.int (n::ns)).length 0=some 0 by unfold lz;rw[if_pos (by decide),if_pos (by rw[Qa,Qx];lia)];rfl];rfl),k n⟩
  ·exact k 0
theorem eD:aS ["script","cell","deck","row","weights","least","papers","k","paper"] ["script"] (aC jr):=mkS
def vj (K:PySem.W.Frag):Sp:=λvs H Q _=>∃(a:Addr) (ns:List Int),vs=[.ref a]/\c6 K H a (ns.map V.int)/\ns.length<=63/\∀H',Q (.bl true) H'
def JL (β:Q.ba):Prop:=∃y0 y1 y2 y3 y4 y5 y6 y7 y8:Option Q.B,β=[y0,y1,y2,y3,y4,y5,y6,y7,y8]
theorem B8 {f:Addr} {fd:Q0} (F:xR K "law" "law" jr f fd) (B:IB mg) {zI rO} (Ez:MQ K mg zI rO) {ue lI} (AR:Lo K mg ue lI) {ud lH} (AQ:Lp K mg ud lH) {uc lG} (AO:Lq K mg uc lG) {oO iJ} (xO:D9 K mg oO iJ) {oM iH} (xK:IA K mg oM iH) {oN iI} (xN:D7 K mg oN iI) {kQ fK} (uO:D6 K mg kQ fK) {kO fI} (uM:D3 K mg kO fI) {kM fH} (uL:D2 K mg kM fH) {kP fJ} (uN:D5 K mg kP fJ) {iW eS} (rX:D4 K mg iW eS) {zK rQ} (EC:MP K mg zK rQ) {OI K3} (dH:Pe K mg OI K3) {Dt qv} (dT:D1 K mg Dt qv) {Io zG} (dR:D0 K mg Io zG) {zH rN} (Ey:D8 K mg zH rN) {zJ rP} (EA:MS K mg zJ rP) {zL rR} (zV:MR K mg zL rR):a9 P w K mg base cW 6 f fd ["script"] (vj K):=by
 have Pc:a9 P w K mg base cW 1 _ _ _ (vm K):=yV EC B.toBs;have GH:a9 P w K mg base cW 1 _ _ _ (fZ P w true w9):=yT dH.F B.toBs;have GR:a9 P w K mg base cW 3 _ _ _ (iP P w iR true oQ):=B6 dR dT B.toBs;have OZ:a9 P w K mg base cW 2 _ _ _ (iP P w iR true wY):=B0 Ey dT B.toBs3;have O7:a9 P w K mg base cW 1 _ _ _ (fZ P w true w_):=B7 EA B.toBs3;have MO:a9 P w K mg base cW 2 _ _ _ (iP P w iR false ia):=yW zV dT B;have O3:a9 P w K mg base cW 5 _ _ _ (fZ P w true gH):=vR Ez AR AQ AO xO xK xN uO uM uL uN rX B;refine F.ok eD (λvs H Q E h=>?_) (λc5 A outer s H vs Qk E hr h=>?_)
 ·obtain⟨a,ns,rfl,_⟩:=h;rfl
 ·obtain⟨a,ns,rfl,hS,hlen,k⟩:=h;have KA:∀b:Addr,¬ (λ_=>False) b:=λb z=>z;obtain⟨ψ,hb,hψ⟩:∃ψ,Q.qL (kS cW P w K mg base ["script","cell","deck","row","weights","least","papers","k","paper"] "law" (aC jr) f c5 A outer s H E).Aq ⟨H,λ_=>False,true,λ_=>False⟩ (match (dI jr)with | .For _ _ b _ _::_=>b|_=>[]) ψ /\
    ∀(c:Int) (x0 x2 x3 x4 x5 x6 x7 x8:Option Q.B),ψ {nx:=JL,rt:=λd _=>d=.bl true,bk:=JL,ct:=JL} [x0,some (.val true (.int c)),x2,x3,x4,x5,x6,x7,x8]:=by
   refine⟨_,(ai (yF (i:=2) iR KA (λ_=>(bL w9.mono GH (hr.mono (by decide)) dH.m dH.F.kp dH.b (aa (ab (i:=1)) ae))) eD.nd)
    (ai (aV (i:=3) (aJ (ih:=2) oQ.mono GR (hr.mono (by decide)) dR.m dR.F.kp dR.b (aa af ae)) eD.nd)
    (ai (aV (i:=4) (aJ (ih:=2) wY.mono OZ (hr.mono (by decide)) Ey.m Ey.F.kp Ey.b (aa (a6 ag (bB.m cD) B.len eM (aa (aL ag bx (ab (i:=3)) af) ae)) ae)) eD.nd)
    (ai (aV (i:=5) (bL w_.mono O7 (hr.mono (by decide)) EA.m EA.F.kp EA.b (aa (ab (i:=3)) (aa (ab (i:=4)) ae))) eD.nd)
    (ai (yG (i:=6) (λ_=>(aa (ab (i:=5)) (aa (Eg ["numbers"] [none] (by rfl) (by decide:(["numbers"]:List Str).Nodup) rfl (bj (ab (i:=5))) (λ_ _ _ _ _ _=>(ak (i:=0) (by decide:(["numbers"]:List Str).Nodup))) (λ_ _ _ _ _ _=>b6) (λ_ _ _ _ _ _=>(ao ay jD (aW (aa af ae)) (a6 ag (bB.m cD) B.len eM (aa (ab (i:=0)) ae))))) (aa (aW ae) ae)))) eD.nd)
    (ai (b7 Q1 rfl (bG B.range (aa af ae)) (ak (i:=7) eD.nd) (ar (rp (i:=6) (λ_=>(aJ (ih:=2) ia.mono MO (hr.mono (by decide)) zV.m zV.F.kp zV.b (aa (ab (i:=5)) ae))))))
    (bX (bM (qJ.t (iZ (aI ag (bt.m (g9 hr.units)) (eG (i:=6) (d3 bV af)) (aW ae)) (gm (aI ag (bt.m (tj hr.xZ)) (aW ae) (eG (i:=6) (d3 bV af)))))) (ar (rp (i:=6) (λ_=>(aJ (ih:=2) ia.mono MO (hr.mono (by decide)) zV.m zV.F.kp zV.b (aa (eG (i:=6) (d3 bV af)) ae))))) aT)
    (ar (b7 Q1 rfl (bj (yy (i:=6))) (ak (i:=8) eD.nd) (ar (bM (mv (i3 (bL gH.mono O3 (hr.mono (by decide)) Ez.m Ez.F.kp Ez.b (aa (ab (i:=3)) (aa (ab (i:=4)) (aa (ab (i:=8)) ae)))))) (ar (bw fc)) aT))))))))))),λcc x0 x2 x3 x4 x5 x6 x7 x8=>?_⟩
   refine⟨_,rfl,trivial,cc,rfl,λns hk=>⟨trivial,(by show 2<9;decide),ns,rfl,hk,?_⟩⟩
   refine⟨rfl,trivial,rfl,trivial,40,rfl,by decide,by decide,λn ts n0 n1 dr=>?_⟩
   obtain⟨hl,tr,sr,nd⟩:=dr;obtain⟨m,ps,ok,en,OJ,er⟩:=yq n0 (by lia) (by lia) tr nd
   rw[er];have hm:m<=40:=by lia
   have hpl:ps.length<=300:=by rw[OJ,Qa]at hl;exact hl
   have JC:kR [.lst (ps.map λp=>kD (tI p))]=some (.int (ps.length:Int)):=dv (by rw[Qa])
   refine⟨rfl,_,rfl,trivial,_,rfl,.inr ⟨trivial,_,JC,trivial,rfl,trivial,ps.length,rfl,hpl,λws Az=>?_⟩⟩;refine⟨_,rfl,trivial,_,rfl,trivial,m,ps,ws,rfl,ok,hm,Az,?_⟩;obtain⟨lb,ln,L3⟩:=Cr (n:=m) (ps:=ps) (w:=wf ps ws) hm;generalize Aw m ps (wf ps ws)=le at lb ln L3 ⊢
   have Pw:=lb.1;refine⟨_,rfl,trivial,_,rfl,_,rfl,trivial,?_⟩;refine c8 (λ_=>true) (λl:List Int=>bJ (Qw l.length 0)) trivial (cb (by lia)) (λl hl x0 o J ho j1 _=>?_) ?_
   ·have:=lb.2 l hl;have Cq:kR [bJ l]=some (.int (l.length:Int)):=dv (by rw[Qa])
    exact⟨trivial,uD,trivial,_,rfl,trivial,_,Cq,_,Hj (by lia),.inl ⟨bO,trivial,ho,j1 rfl _⟩⟩
   rw[a8];have MH:∀{a b:Nat} {pp:List (List Int)},a<=b->uQ a pp->uQ b pp:=λG8 h=>⟨by have:=h.1;lia,λl hl=>by have:=h.2 l hl;lia⟩
   let Bb:List (List (List Int))->Option Q.B->Option Q.B->List (Option Q.B):=λss x7 x8=>[x0,some (.val true (.int cc)),some (.hand iR),some (.val true (f6 m ps)),some (.val true (bJ ws)),some (.val true (cV le)),some (.shl true (.lst (ss.map cV))),x7,x8]
   refine⟨trivial,Qv _,trivial,rfl,cb (by show 3<=1000;decide),by show 6<9;decide,?_⟩
   refine⟨trivial,5,rfl,by decide,by decide,trivial,?_⟩
   refine⟨λi β=>i<=5/\∃ss x7 x8,β=Bb ss x7 x8/\(∀pp∈ss,uQ 1 pp)/\ss.length=3+i,⟨Qv _,[le,le.map λl=>Qw l.length 0,[]],x7,x8,?_,λpp hp=>?_,rfl⟩,?_,?_⟩
   ·show [x0,some (.val true (.int cc)),some (.hand iR),some (.val true (f6 m ps)),some (.val true (bJ ws)),some (.val true (cV le)),some (.shl true (.lst [cV le,.lst (le.map λl=>bJ (Qw l.length 0)),.lst []])),x7,x8]=[x0,some (.val true (.int cc)),some (.hand iR),some (.val true (f6 m ps)),some (.val true (bJ ws)),some (.val true (cV le)),some (.shl true (.lst [cV le,.lst ((le.map λl=>Qw l.length 0).map bJ),.lst []])),x7,x8];rw[QY];rfl
   ·simp only[Qc,QT,or_false]at hp;rcases hp with rfl|rfl|rfl
    ·exact MH (by lia) lb
    ·refine⟨by rw[Qa];lia,λl hl=>?_⟩
     obtain⟨x,hx,rfl⟩:=QP.mp hl;rw[Ue];have:=lb.2 x hx;lia
    ·exact⟨Qv _,λl hl=>nomatch hl⟩
   ·rintro i d β hd ⟨_,ss,y7,y8,rfl,Ej,AA⟩;have hi:i<5:=by
     have:=(Qg.mp hd).1
     rwa [bR]at this
    obtain⟨_,rfl⟩:=bK hd;refine⟨⟨_,rfl⟩,rfl,_,rfl,trivial,rfl,trivial,0,le,rfl,lb,by lia,ln,L3,λqq hq=>⟨trivial,_,rfl,by rw[Qa];exact ir (by lia),?_⟩⟩
    have K8:ss.map cV++[cV qq]=(ss++[qq]).map cV:=by rw[QD];rfl
    rw[K8];refine⟨hi,ss++[qq],_,_,rfl,λpp hp=>?_,by rw[Qu,AA];rfl⟩
    rcases Qr.mp hp with hp|hp
    ·exact Ej pp hp
    ·rw[Qj.mp hp];exact hq
   ·rintro β ⟨_,ss,y7,y8,rfl,Ej,AA⟩;have AA:ss.length=8:=AA;obtain⟨qq,Md⟩:∃qq,ss[7]?=some qq:=⟨_,Qm (by lia)⟩
    have N5:=Ej qq (QW Md);have kK:lz (ss.map cV).length (-1)=some 7:=by rw[Qa,AA];rfl
    have uJ:(ss.map cV)[7]?=some (cV qq):=by rw[Ql,Md];rfl
    have OM:zP (cV qq) (.lst [])=some (.bl (!decide (qq=[]))):=mU (c:=decide (qq=[])) (cE (nE qq)) (cE (bu [])) (by cases qq <;> rfl)
    have h9:∀pp∈ss,uQ 2 pp:=λpp hp=>MH (by lia) (Ej pp hp)
    refine⟨λβ=>∃ss x7 x8,β=Bb ss x7 x8/\(∀pp∈ss,uQ 2 pp)/\ss.length<=9,?_,?_⟩
    ·refine⟨⟨_,rfl⟩,_,rfl,rfl,_,(-1:Int),7,_,rfl,rfl,kK,uJ,trivial,Qv _,_,OM,_,rfl,?_⟩
     by_cases JV:qq=[]
     ·exact pI (by rw[decide_eq_true JV];rfl) ⟨ss,_,_,rfl,h9,by lia⟩
     refine zq (by rw[decide_eq_false JV];rfl) ⟨Qv _,trivial,⟨_,rfl⟩,_,rfl,rfl,_,(-1:Int),7,_,rfl,rfl,kK,uJ,_,qA qq,_,rfl,?_⟩
     by_cases C_:[]∈qq
     ·exact pI (by rw[decide_eq_true C_];rfl) ⟨ss,_,_,rfl,h9,by lia⟩
     refine zq (by rw[decide_eq_false C_];rfl) ⟨⟨_,rfl⟩,rfl,⟨_,rfl⟩,_,rfl,rfl,_,(-1:Int),7,_,rfl,rfl,kK,uJ,trivial,rfl,trivial,1,qq,rfl,N5,by lia,JV,λl hl e=>C_ (e▸hl),λrr oF=>⟨trivial,_,rfl,by rw[Qa];exact ir (by lia),?_⟩⟩
     have K8:ss.map cV++[cV rr]=(ss++[rr]).map cV:=by rw[QD];rfl
     rw[K8];refine⟨ss++[rr],_,_,rfl,λpp hp=>?_,by rw[Qu,AA];exact Qf 9⟩
     rcases Qr.mp hp with hp|hp
     ·exact h9 pp hp
     ·rw[Qj.mp hp];exact oF
    rintro β ⟨ss,y7,y8,rfl,Ej,AA⟩;refine⟨_,rfl,_,rfl,trivial,?_⟩;refine⟨λi β=>∃z6 z8,β=[x0,some (.val true (.int cc)),some (.hand iR),some (.val true (f6 m ps)),some (.val true (bJ ws)),some (.val true (cV le)),z6,y7,z8],⟨_,_,rfl⟩,?_,?_⟩
    ·rintro i d β hd ⟨z6,z8,rfl⟩;rw[Ql]at hd;obtain⟨pp,Kn,rfl⟩:=Qy.mp hd;have hb:=Ej pp (QW Kn);exact⟨_,rfl,trivial,_,rfl,trivial,_,rfl,trivial,m,ps,ws,pp,rfl,ok,hm,Az,by lia,⟨by have:=hb.1;lia,λl hl=>by have:=hb.2 l hl;lia⟩,_,rfl,pI rfl ⟨_,_,rfl⟩⟩
    ·rintro β ⟨z6,z8,rfl⟩;exact⟨_,_,_,_,_,_,_,_,_,rfl⟩
  refine⟨_,cf (vB Q1 rfl (mw (cg vQ (nN qQ (pv 0) rh (rg aU)) (my (bo (mz Pc (hr.mono (by decide)) (by rfl) EC.m EC.F.kp EC.b .nil vK (bo (pv 0) (bo aU dt))) dt)))) (Q.ak (C:=⟨H,λ_=>False,true,λ_=>False⟩) (i:=1) eD.nd).pg hb.ps) (eF (fb vJ)),?_⟩
  obtain⟨ms,em,hm⟩:=uj ns none (some 5);refine⟨_,rfl,_,rfl,a,_,rfl,hS,λp2 Ic=>⟨_,rfl,a,ns,rfl,(az.new Ic).seq hS,λc0=>⟨(by show 1<=Qp;decide),λp1 Ek=>?_⟩⟩⟩
  have ND:p2≠p1:=cz au Ek;refine⟨p2,p1,_,_,rfl,rfl,(by rw[aw ND];exact au),au,(by rw[em,Qa,RU,Ud];lia),λl hl=>⟨l,rfl,⟨_,c6.of au⟩,?_⟩⟩
  rw[em];rw[em]at hl;rw[em]at Ek;have sm:az H (upd (upd (upd H p2 (.lst (ms.map V.int))) p1 (.lst [V.int c0])) l (.lst (ms.map V.int++[V.int c0]))):=((az.new Ic).trans (az.new Ek)).trans (az.new hl);have iG:(upd (upd (upd H p2 (.lst (ms.map V.int))) p1 (.lst [V.int c0])) l (.lst (ms.map V.int++[V.int c0]))) l=some (.lst ((ms++[c0]).map V.int)):=by rw[QD];exact au
  generalize (upd (upd (upd H p2 (.lst (ms.map V.int))) p1 (.lst [V.int c0])) l (.lst (ms.map V.int++[V.int c0])))=H1 at sm iG ⊢
  generalize (ms++[c0])=cs at iG;let X:Cx:=(kS cW P w K mg base ["script","cell","deck","row","weights","least","papers","k","paper"] "law" (aC jr) f c5 A outer s H E).Aq
  let C:Q.Cfg:=⟨H,λ_=>False,true,λ_=>False⟩
  have it:sF X (λ_=>False) (Iz K l) (cs.map D.int) H1:=jL iG (λz=>z) (bW cs);have Eh:=it (λb=>(λ_=>False) b\/H1 b=none) λb z=>z;have s':Q.bD P w C.z (L2.start ["script","cell","deck","row","weights","least","papers","k","paper"] [.ref a]) H1 (Qw 9 none) (λ_=>[]):=yi (by rfl) sm
  generalize Ou:cs.map D.int=ds at Eh;have hint:∀d∈ds,∃c:Int,d=.int c:=λd hd=>by
   rw[<- Ou]at hd;obtain⟨c,_,rfl⟩:=QP.mp hd;exact⟨c,rfl⟩
  refine⟨λi m σ H'=>i<=ds.length/\m=ds.length-i/\∃β,Q.SB X C (H1,Q.Wn λ_=>[]) σ H' β/\JL β,⟨_,Qv _,rfl,_,⟨_,s',Sn.refl⟩,⟨_,_,_,_,_,_,_,_,_,rfl⟩⟩,?_⟩;rintro i m σ2 H2 ⟨hi,rfl,β2,⟨bp,s2,n2⟩,⟨y0,y1,y2,y3,y4,y5,y6,y7,y8,rfl⟩⟩;obtain⟨cj,mP⟩:=Eh i H2 (n2.k.mono λb z=>z.imp (λGa=> by obtain⟨_,q⟩ := Ga;exact(nomatch q)) id)
  by_cases eX:i<ds.length
  ·right
   have hd:ds[i]?=some ds[i]:=Qm eX;obtain⟨go,yl⟩:=cj _ hd;obtain⟨c,hc⟩:=hint ds[i] (Tn eX);refine⟨go,λσ' H'=>∃β,Q.SB X C (H1,Q.Wn λ_=>[]) σ' H' β/\JL β,λσ' H' F_=> by obtain⟨β',yp,wM⟩ := F_;exact⟨_,by lia,eX,rfl,β',yp,wM⟩,λx H3 y=>?_⟩
   obtain⟨s3,r3⟩:=yl x H3 y;rw[hc]at r3;refine⟨bp,_,.int c,.own,s2.same s3,aA.flat rfl r3,λσ4 nS s4 w4 _=>?_⟩;exact⟨(H1,Q.Wn λ_=>[]),{nx:=JL,rt:=λd _=>d=.bl true,bk:=JL,ct:=JL},_,⟨nS,s4,Q.fu (n2.same s3) w4⟩,hψ c y0 y2 y3 y4 y5 y6 y7 y8,⟨λσ5 H5 β5 sQ q5=>⟨β5,sQ,q5⟩,λσ5 H5 β5 d5 v5 sQ r5 q5=>by
    subst q5;cases (show v5=V.bl true from E3 r5)
    exact k _,λσ5 H5 β5 sQ q5=>k _,λσ5 H5 β5 sQ q5=>⟨β5,sQ,q5⟩⟩⟩
  ·left
   have e:i=ds.length:=by lia
   subst e;exact⟨mP (Qf _),k _⟩
end
theorem wd {α:Type}{P:List α->Prop}(h:∀a,P [a]):∀us:List α,us.length=1->P us:=λus e=>by
 obtain⟨a,rfl⟩:=List.length_eq_one_iff.mp e;exact h a
theorem kB {α:Type}{P:List α->Prop}(h:∀a b,P [a,b]):∀us:List α,us.length=2->P us:=λus e=>by
 cases us with
 |nil=>cases e
 |cons a us=>exact wd (P:=λus=>P (a::us)) (h a) us (Te e)
theorem wb {α:Type}{P:List α->Prop}(h:∀a b c,P [a,b,c]):∀us:List α,us.length=3->P us:=λus e=>by
 cases us with
 |nil=>cases e
 |cons a us=>exact kB (P:=λus=>P (a::us)) (h a) us (Te e)
theorem JE {α:Type}{P:List α->Prop}(h:∀a b c d,P [a,b,c,d]):∀us:List α,us.length=4->P us:=λus e=>by
 cases us with
 |nil=>cases e
 |cons a us=>exact wb (P:=λus=>P (a::us)) (h a) us (Te e)
theorem FP {α:Type}{P:List α->Prop}(h:∀a b c d e,P [a,b,c,d,e]):∀us:List α,us.length=5->P us:=λus e=>by
 cases us with
 |nil=>cases e
 |cons a us=>exact JE (P:=λus=>P (a::us)) (h a) us (Te e)
theorem wV {K:PySem.W.Frag}{x m:Str}{st:Stmt}{t c f:Nat}(l:K.lookup f=some (kF st x m t c))(cd:PySem.W.codeIn K (.ref c) x=true)(k:PySem.W.keepIn K (.ref f)=true):xR K x x st f (H_ st x m t c):=Ds l cd k
theorem cO {K:PySem.W.Frag}{h:Heap}{mg:Str->Option P_}{x m:Str}{st:Stmt}{t c f:Nat}{ps:List Str}(X:K.In h)(G:h.Ns RE mg)(l:K.lookup f=some (kF st x m t c))(cd:PySem.W.codeIn K (.ref c) x=true)(k:PySem.W.keepIn K (.ref f)=true)
  (a:PySem.W.nsIn K RE x=some (some (.ref f))) (b:∀us:List P_,us.length=ps.length->bindArgs (H_ st x m t c) ⟨us,[]⟩=pure (ps.zip us)):Df K mg x st ps f (H_ st x m t c):=⟨wV l cd k,.all b,PySem.W.mg_of X G a⟩
theorem all_mk {l:PySem.W.OpenLaw} (w:Qq) (mg:Str->Option P_) (fa:Addr) (h:Heap) (X:(KK w.params).In h) (G:h.Ns RE mg) (Oq:mg "law" = some (.ref fa))   :∃fd:Q0,(∀(s:Qb) (v:P_),BindsTo s fd ⟨[v],[]⟩ [("script",v)])/\∀base:Heap,(KK w.params).In base->base.Ns RE mg->a9 l.prog w (KK w.params) mg base cW 6 fa fd ["script"] (vj (KK w.params)):=by
 have e:=Oq.symm.trans (PySem.W.mg_of X G (v:=.ref 157) (by kernel_rfl))
 cases e;have FF:=PySem.W.mg_none_of X G (n:="max") (by kernel_rfl)
 have FE:=PySem.W.mg_none_of X G (n:="min") (by kernel_rfl)
 have FH:=PySem.W.mg_none_of X G (n:="int") (by kernel_rfl)
 have za:=PySem.W.mg_none_of X G (n:="range") (by kernel_rfl)
 have v8:=PySem.W.mg_none_of X G (n:="sorted") (by kernel_rfl)
 have FC:=PySem.W.mg_none_of X G (n:="set") (by kernel_rfl)
 have FG:=PySem.W.mg_none_of X G (n:="len") (by kernel_rfl)
 have Ce:=PySem.W.mg_none_of X G (n:="list") (by kernel_rfl)
 have mJ:=PySem.W.mg_none_of X G (n:="isinstance") (by kernel_rfl)
 have y_:=PySem.W.mg_none_of X G (n:="tuple") (by kernel_rfl)
 have FA:=PySem.W.mg_none_of X G (n:="str") (by kernel_rfl)
 have Cf:=PySem.W.mg_none_of X G (n:="bool") (by kernel_rfl)
 have Fy:=PySem.W.mg_none_of X G (n:="zip") (by kernel_rfl)
 have nZ:=PySem.W.mg_none_of X G (n:="enumerate") (by kernel_rfl)
 have Fz:=PySem.W.mg_none_of X G (n:="sum") (by kernel_rfl)
 have FI:=PySem.W.mg_none_of X G (n:="any") (by kernel_rfl)
 have FJ:=PySem.W.mg_none_of X G (n:="abs") (by kernel_rfl)
 have B:=(⟨⟨(⟨⟨⟨FF,FE,FH,za,v8,FC,FG,Ce⟩,mJ,y_,FA,Cf,Fy,nZ⟩,Fz⟩:Bs3 mg),FI⟩,FJ⟩:IB mg);exact⟨_,λs v=>.of_eq rfl,λbase _ _=>B8 (wV (x:="law") (m:="law_archrow_k17_papers_of_weights_judged") (st:=jr) (t:=291) (c:=156) (f:=157) (by kernel_rfl) (by kernel_rfl) (by kernel_rfl)) B (cO X G (x:="_law_right") (m:="law_archrow_k17_papers_of_weights_judged") (st:=dC) (t:=291) (c:=151) (f:=152) (ps:=["row","weights","paper"]) (by kernel_rfl) (by kernel_rfl) (by kernel_rfl) (by kernel_rfl) (wb λ_ _ _=>rfl))
  (cO X G (x:="_law_copied") (m:="law_archrow_k17_papers_of_weights_judged") (st:=dc) (t:=291) (c:=124) (f:=125) (ps:=["row"]) (by kernel_rfl) (by kernel_rfl) (by kernel_rfl) (by kernel_rfl) (wd λ_=>rfl))
  (cO X G (x:="_law_due") (m:="law_archrow_k17_papers_of_weights_judged") (st:=fw) (t:=291) (c:=146) (f:=147) (ps:=["row","weights","paper"]) (by kernel_rfl) (by kernel_rfl) (by kernel_rfl) (by kernel_rfl) (wb λ_ _ _=>rfl))
  (cO X G (x:="weights_show") (m:="archrow.weights") (st:=cH) (t:=266) (c:=77) (f:=78) (ps:=["row","weights","paper"]) (by kernel_rfl) (by kernel_rfl) (by kernel_rfl) (by kernel_rfl) (wb λ_ _ _=>rfl))
  (cO X G (x:="check_weights") (m:="archrow.weights") (st:=cq) (t:=266) (c:=84) (f:=85) (ps:=["row","weights"]) (by kernel_rfl) (by kernel_rfl) (by kernel_rfl) (by kernel_rfl) (kB λ_ _=>rfl))
  (cO X G (x:="weight_by_tie") (m:="archrow.weights") (st:=cn) (t:=266) (c:=89) (f:=90) (ps:=["row","weights"]) (by kernel_rfl) (by kernel_rfl) (by kernel_rfl) (by kernel_rfl) (kB λ_ _=>rfl))
  (cO X G (x:="paper_holds") (m:="archrow.stretches") (st:=cQ) (t:=223) (c:=58) (f:=59) (ps:=["row","worth","paper"]) (by kernel_rfl) (by kernel_rfl) (by kernel_rfl) (by kernel_rfl) (wb λ_ _ _=>rfl))
  (cO X G (x:="has_shape") (m:="archrow.stretches") (st:=dE) (t:=223) (c:=53) (f:=54) (ps:=["paper","many"]) (by kernel_rfl) (by kernel_rfl) (by kernel_rfl) (by kernel_rfl) (kB λ_ _=>rfl))
  (cO X G (x:="partners_of") (m:="archrow.stretches") (st:=cP) (t:=223) (c:=48) (f:=49) (ps:=["row"]) (by kernel_rfl) (by kernel_rfl) (by kernel_rfl) (by kernel_rfl) (wd λ_=>rfl))
  (cO X G (x:="stretches_rising") (m:="archrow.stretches") (st:=bF) (t:=223) (c:=43) (f:=44) (ps:=["many"]) (by kernel_rfl) (by kernel_rfl) (by kernel_rfl) (by kernel_rfl) (wd λ_=>rfl))
  (cO X G (x:="least_number") (m:="archrow.stretches") (st:=cI) (t:=223) (c:=70) (f:=71) (ps:=["partners","worth","table","i","j"]) (by kernel_rfl) (by kernel_rfl) (by kernel_rfl) (by kernel_rfl) (FP λ_ _ _ _ _=>rfl))
  (cO X G (x:="number_with") (m:="archrow.stretches") (st:=cR) (t:=223) (c:=65) (f:=66) (ps:=["worth","table","i","k","j"]) (by kernel_rfl) (by kernel_rfl) (by kernel_rfl) (by kernel_rfl) (FP λ_ _ _ _ _=>rfl))
  (cO X G (x:="_law_cell_at") (m:="law_archrow_k17_papers_of_weights_judged") (st:=cT) (t:=291) (c:=96) (f:=97) (ps:=["script","k"]) (by kernel_rfl) (by kernel_rfl) (by kernel_rfl) (by kernel_rfl) (kB λ_ _=>rfl))
  (cO X G (x:="_law_deck") (m:="law_archrow_k17_papers_of_weights_judged") (st:=dk) (t:=291) (c:=103) (f:=104) (ps:=["cell"]) (by kernel_rfl) (by kernel_rfl) (by kernel_rfl) (by kernel_rfl) (wd λ_=>rfl))
  (cO X G (x:="_law_take") (m:="law_archrow_k17_papers_of_weights_judged") (st:=dj) (t:=291) (c:=110) (f:=111) (ps:=["deck","many"]) (by kernel_rfl) (by kernel_rfl) (by kernel_rfl) (by kernel_rfl) (kB λ_ _=>rfl))
  (cO X G (x:="_law_row") (m:="law_archrow_k17_papers_of_weights_judged") (st:=fv) (t:=291) (c:=117) (f:=118) (ps:=["deck","most"]) (by kernel_rfl) (by kernel_rfl) (by kernel_rfl) (by kernel_rfl) (kB λ_ _=>rfl))
  (cO X G (x:="_law_weights") (m:="law_archrow_k17_papers_of_weights_judged") (st:=cS) (t:=291) (c:=131) (f:=132) (ps:=["deck","many"]) (by kernel_rfl) (by kernel_rfl) (by kernel_rfl) (by kernel_rfl) (kB λ_ _=>rfl))
  (cO X G (x:="_law_least") (m:="law_archrow_k17_papers_of_weights_judged") (st:=dD) (t:=291) (c:=136) (f:=137) (ps:=["row","weights"]) (by kernel_rfl) (by kernel_rfl) (by kernel_rfl) (by kernel_rfl) (kB λ_ _=>rfl))
  (cO X G (x:="_law_bent") (m:="law_archrow_k17_papers_of_weights_judged") (st:=eE) (t:=291) (c:=141) (f:=142) (ps:=["deck","paper"]) (by kernel_rfl) (by kernel_rfl) (by kernel_rfl) (by kernel_rfl) (kB λ_ _=>rfl))⟩
end jb
abbrev PySem.W.Fast.tw4799590455101752530:PySem.Program:=PySem.Challenge.pw_archrow_k17_papers_of_weights_judged
theorem PySem.W.Fast.te4799590455101752530:PySem.Challenge.pw_archrow_k17_papers_of_weights_judged=PySem.W.Fast.tw4799590455101752530:=rfl
open PySem PySem.W PyProof.Rows
set_option maxRecDepth 100000 in
set_option maxHeartbeats 0 in
theorem PySem.Challenge.cw_archrow_k17_papers_of_weights_judged_holds : PySem.Challenge.rw_archrow_k17_papers_of_weights_judged.Holds := by
 w_on;o_law
 refine holds_open (q:=jb.view) (loose:=[]) (Xt:=λs=>xlAt jb.view [] s&&recOk (RowW.records PySem.Challenge.rw_archrow_k17_papers_of_weights_judged.row.toRowW) s) (XP:=XL jb.view []) (Yf:=jb.HK.obs) (Ya:=jb.HK.val) (YP:=λw h=>(jb.KK w.params).In h) (N:=2144) jb.left jb.HK.of jb.HK.keeps (λs e=>xl_of s (Bool.and_eq_true_iff.mp e).1) XL.keeps (by rfl) (by rfl) (by rfl) (λs e=>recFacts_of (Bool.and_eq_true_iff.mp e).2) (by rfl) (by first|assumption|decide +kernel) (by decide +kernel) ⟨rfl,rfl,rfl,rfl,rfl,by decide +kernel⟩ ?hw ?hc
 (case hw=>w_witness2)
 case hc =>
  exact L2.xX (l:=PySem.Challenge.rw_archrow_k17_papers_of_weights_judged) (K:=jb.KK) (n:=63) (k:=6) (x:="script") (CX:=λ_=>L2.cW) (sp:=λw=>jb.vj (jb.KK w.params)) rfl (by decide) rfl ⟨rfl,by decide,by decide⟩ (λw h Y=>Y) jb.all_mk (λ_ _ a ns hl _ hS=>⟨a,ns,rfl,hS,hl,λ_=>rfl⟩) λ_ _ _ _ _ z=>z
#print axioms PySem.Challenge.cw_archrow_k17_papers_of_weights_judged_holds
