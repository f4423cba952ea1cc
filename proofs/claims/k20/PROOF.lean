import PyProof.Rows.All
import Wide.All
import OpenK.AllK
import Wide.FinOn
import OpenK.KLine
import Lean
import PyProof.EqAt
import PyProof.EqKinds
import PyProof.TupleCall
import PyProof.Rows.SortShell
import PyProof.Rows.SortWalk
import PyProof.CompFree
import PyProof.Rows.SortRuns
import PyProof.EqLayable
import PyProof.NeData
import PyProof.P3In
import PyProof.ZipIter
import PyProof.EnumMake
import PyProof.EnumFor
import PyProof.Rows.Range3
import PyProof.AttrMissSeq
import KE.KDictOf
import PyProof.Rows.SeqMore
import PyProof.ConsumeWalk
import PyProof.Rows.SeqMore2
import PyProof.Rows.CountFlat
import KE.IntBitsLaws
import PyProof.ListNew
import PySem.Challenge.RW_archrow_k20_sets_counted
set_option Elab.async false
set_option linter.all false
set_option maxRecDepth 100000
set_option maxHeartbeats 4000000
set_option compiler.extract_closed false
open PySem renaming Value->UQ,Shared->UT,wpAny_bind->UU,Program->UY,starEach->U5,sizeLine->U8,World->Vc,wpAny_pure->Vl,wpAny->Vy,FuncData->VI,bootBuiltins->VO,compareOp->VY,foldedSetIterable->V1,Around->V6,swapsWith->Wg,sizeLine_eq->Wl,backTo->Wq,attributeBase->Wr,mainGlobals->Wt,wpAny_truthy_bool->Wv,sysModules->WM,assignEach->WN,binaryOp->WR,wpAny_typeNameOfWhole_keyiter->WU,sliceBounds->WV,wpAny_passesOwn->WX,behindInMarks->WY,Keyword->W6,wpAny_typeNameOf_keyiter->Xf,wpAny_standAt->Xg,wpAny_holding->Xh,Comprehension->Xk,wpAny_loadPart'->Xm,keywordEach->Xp,Scope->XA,wpAny_rule->XB,DictEntry->XE,NameKind->XI,CmpOp->XS,wpAny_mono->XW,cLine->XX,wpAny_newObj_type->XZ,wpAny_call_entry->X4,backToKw->X5,codeAny_mono->X_,wpAny_execs_nil->Yh,letOwnedTupleGo->Yi,tupleKind->Yr,codeAny->Ys,wpAny_Call_Name_kw->Yw,call_meets->Yx,Params->Yy,wpAny_dictEntries->YC,valueAt->YD,standAt->YE,slot_list_getitem->YF,seqIndex_neg->YG,callerA->YH,Builtin->YL,treeTable->YN,seqIndex_of->YR,IsRangeIter->YU,wpAny_dictEpoch->YV,getItem->Y5,pyNext->Y6,pyIter->Y7,atKey->Y9
open List renaming length_map->UR,mem_cons->UW,mem_cons_of_mem->UZ,mem_cons_self->U1,mem_singleton->U3,getElem?_eq_getElem->U4,getElem?_eq_some_iff->U6,replicate->U9,length_append->U_,getElem?_map->Vd,length_cons->Ve,map_append->Vf,mem_append->Vh,getD_eq_getElem?_getD->Vi,map_cons->Vj,size_toArray->Vk,mem_map->Vq,nodup_cons->Vt,nodup_append->Vu,mem_append_right->Vw,range->Vx,length_range->VA,getElem?_eq_none->VD,mem_of_getElem?->VG,mem_filter->VH,pairwise_cons->VJ,getElem?_append_right->VN,append_assoc->VP,map_congr_left->VQ,length_take->VV,append_nil->VW,take_add_one->V2,drop_eq_getElem_cons->V3,map_map->V4,filter_append->V5,nodup_nil->V7,lookup_cons->Wa,getElem?_append_left->Wc,replicate_succ->Wd,foldl_cons->Wf,sum_cons->Wh,take_of_length_le->Wi,pairwise_map->Wj,find?_cons->Wo,mem_range->Wu,getElem?_range->Wx,take_length->WA,mem_flatMap->WB,filter_cons->WC,zip_cons_cons->WD,length_filter_le->WE,pairwise_append->WH,mem_append_left->WI,getElem?_set->WJ,ext_getElem?->WK,filterMap_cons->WQ,pairwise_singleton->WS,not_mem_nil->WT,take_append_drop->WZ,length_singleton->W3,flatten_cons->W5,all_eq_true->Xd,set_eq_take_append_cons_drop->Xs,set_set->Xw,reverse_cons->Xx,cons_append->XD,reverse_reverse->XJ,length_nil->XM,dropLast_concat_getLast->XN,length_reverse->XQ,filter_eq_self->XR,zip_nil_left->X0,getElem_mem->X8,map_nil->Yb,foldl->Yc,filter_eq_nil_iff->Yd,drop_of_length_le->Ye,sum_append->Yk,of_mem_zip->Yl,set_append_right->Yn,length_replicate->Yo,reverse_append->Yu,filter_filter->YA,filter_congr->YJ,range_succ->YX,nil_append->YY,length_set->YZ,drop_zero->Za,pairwise_iff_getElem->Zg,getElem?_eq_none_iff->Zh
open Nat renaming le_refl->US,zero_le->Vb,lt_of_lt_of_le->Vz,le_trans->VB,ne_of_lt->VT,zero_add->We,lt_or_ge->Wz,sub_self->WG,mul_le_mul->Xv,lt_irrefl->XF,add_assoc->XG,one_mul->XH,lt_succ_self->X7,lt_of_le_of_lt->Yz,le_of_not_lt->YO,add_mul->YT,min_le_left->YW
open PyProof.Rows renaming Keyed->UX,wpS_bind->U0,wpS_pure->U7,pendingOf->Vm,SortSt->Vr,arrOf->Vv,wpS_forRange->VX,setArr->V8,wpS_mono->Ws,callWith_type1->Wy,IntsAre->WW,wpS_modify->W9,SortKind->Xi,seqObj->Xn,failedOf->Xu,setPending->XC,wpS_get->XY,envOfC->X9,AllBare->Yg,wpS_lift->Yp
open PySem.Heap renaming get?_push_of_some->Vg,lt_size->Vn,get?_push_size->VR,SameBut->XU
open Array renaming getElem?_toList->Vo,length_toList->Vs,toList_append->Wk,toList_push->W7,getD_eq_getD_getElem?->W8,perm_iff_toList_perm->Xb,getElem?_eq_none->Xz,toList_zip->YQ,size_zip->Ze,mk->Zf
open Option renaming map_eq_some_iff->Vp,bind_eq_some_iff->VZ,bind_some->X6,map_some->Yj
open PySem.PassesOwn renaming never->VC
open Bool renaming false_ne_true->VE,and_eq_true_iff->VU,and_eq_true->V0,false_eq_true->Xo,eq_iff_iff->XO,not_eq_true'->X1,not_eq_false'->YB,eq_false_iff->YM,or_eq_true->Y3,and_false->Zd
open Decidable renaming by_contra->VF
open Option.some renaming inj->VL
open PySem.NameKind renaming free->VM,cell->Xj
open PySem.PyData renaming eqv->VS,canLay0->V9,depthAll->Wm,canLayAll0->W4,depth->Xc,eqvAll->X2
open PySem.SeqAt renaming canLay_of_shaped->V_
open True renaming intro->Ww
open Int renaming toNat_natCast->WL,add_zero->Xe,zero_add->Xy,le_refl->Yq,toNat_of_nonneg->Yv,natCast_add->Y1
open Ne renaming symm->WO
open PySem.Obj renaming mapSeq->W_
open False renaming elim->Xa
open PySem.Builtin.List renaming listTooLong->Xl
open PySem.W renaming boot_heap->Xq,boot_drawn->Y8
open PySem.Builtin.Range renaming rangeSize->Xr
open Nat.succ renaming inj->XT
open PySem.Code renaming compLoop->X3,compStart->Zb
open ForInStep renaming yield->Ym
open Sum renaming inl->Yt,inr->YI
open List.Pairwise renaming nil->YK
open Prod.mk renaming inj->YS
open List.Perm renaming of_eq->Y0
open PySem.Builtin.Dict_items renaming ownsTuple->Y2
open Array.Perm renaming refl->Y4
open Or renaming inl->Y_
open PySem.Calls renaming Name_function_global->Zc
noncomputable section
namespace L2
open PySem PySem.Spec PyProof.Rows
def j7 (s:Stmt):Arguments:=match s with
 |.FunctionDef _ a _ _ _ _ _ _ _ _=>a
 |_=>{posonlyargs:=[],args:=[],vararg:=none,kwonlyargs:=[],kw_defaults:=[],kwarg:=none,defaults:=[]}
def d4 (s:Stmt):List Stmt:=match s with
 |.FunctionDef _ _ b _ _ _ _ _ _ _=>b
 |_=>[]
def az (s:Stmt):XA:=match s with
 |.FunctionDef _ _ _ _ _ _ sc _ _ _=>sc
 |_=>{kind:=.function,names:=[],isGenerator:=false,isCoroutine:=false}
end L2
namespace L2.Hd
open PySem PySem.W PySem.Spec PyProof.Rows
noncomputable def hE (tb:String->Option YL)(p:UY)(w:Vc)(n₀:Nat)(ann:Option UQ):Nat->SharedT->Thread->Option SharedT
 |0,_,_=>none
 |n+1,s,t=>match through t with
  |true=>some s
  |false=>match stepOk n₀ ann t with
   |false=>none
   |true=>match stepT (denote tb) p w s t with
    |some (s',t')=>hE tb p w n₀ ann n s' t'
    |none=>none
theorem kq {tb:String->Option YL}{p:UY}{w:Vc}{n₀:Nat}{ann:Option UQ}:∀{n:Nat} {s s':SharedT} {t:Thread},hE tb p w n₀ ann n s t=some s'->topRun tb p w n₀ ann n s.abs t=some s'.abs
 |0,_,_,_,g=>by cases g
 |n+1,s,s',t,g=>by
  unfold hE at g;unfold topRun;cases ht:through t with
  |true=>rw[ht]at g;cases g;rfl
  |false =>
   rw[ht]at g;cases hk:stepOk n₀ ann t with
   |false=>rw[hk]at g;cases g
   |true =>
    rw[hk]at g;cases hq:stepT (denote tb) p w s t with
    |none=>rw[hq]at g;cases g
    |some r=>obtain⟨s₂,t₂⟩:=r;rw[hq]at g;dsimp only;rw[stepT_spec hq];exact kq g
noncomputable def Lw (P:Yy):BT:=((Xq P).objs.toList.foldl (λ(x:BT×Nat) o=>(x.1.ins x.2 o,x.2+1)) (.nil,0)).1
noncomputable def AD (w:Vc)(os:OsState):SharedT:=⟨Lw w.params,11,(Xq w.params).life,Zf [],Y8,boot_toks,os⟩
theorem boot_abs (w:Vc)(os:OsState):(AD w os).abs=⟨Xq w.params,Zf [],Y8,boot_toks,os⟩:=by kernel_rfl
theorem Dy (P:Yy):((Xq P).isNs Wt&&((Zf []:Array GenState).size==0))=true:=by kernel_rfl
theorem xo (P:Yy):(Xq P).objs.size=11:=by kernel_rfl
theorem AB (P:Yy):(Xq P).nsMap Wt "__annotations__" = some (.ref 6):=by kernel_rfl
def ends (p:UY)(h0:Heap)(s₁:UT):Option UT:=match staticsOk (importedModules p.main.body) h0 s₁.heap&&namesBound p s₁.heap&&gensDone s₁&&laidKept h0 s₁.heap with
 |true=>some s₁
 |false=>none
theorem wD {p q:UY}{loose:List Str}{Xt:UT->Bool}{α:Type}{Yf:UT->α}{Ya:Vc->α}{N:Nat}{g0:Bool}
  (g1:opening p=plainProg p.main.scope.names) (g2:Nat.ble 600 N=true) (g3:∀s,fenceModules? p s=some s)
  (g4:∀(w:Vc) (os:OsState),((hE YN p w 11 (some (.ref 6)) N (AD w os) (topStub p)).bind λs₁=>ends p (Xq w.params) s₁.abs).map (λs=>(openSeen q loose (importedModules p.main.body) Xt g0 s,Yf s))=some (openGood q loose,Ya w)) :
  LeftO p q loose Xt Yf Ya N g0:=λw=>by
 obtain⟨⟨hp,gs,dr,tk,os⟩,e,v⟩:=Vp.mp (boot_open (N:=N) g1 g2 g3 w);obtain⟨v1,v⟩:=YS v;obtain⟨v2,v⟩:=YS v;obtain⟨v3,v4⟩:=YS v;dsimp only at v1 v2 v3 v4;subst v1 v2 v3 v4;have g:=g4 w os;unfold openEnds;rw[e];show (topFrom YN p w N _).map _=_;have t:topFrom YN p w N ⟨Xq w.params,Zf [],Y8,boot_toks,os⟩=(topRun YN p w 11 (some (.ref 6)) N ⟨Xq w.params,Zf [],Y8,boot_toks,os⟩ (topStub p)).bind (ends p (Xq w.params)):=by
  unfold topFrom;rw[Dy];dsimp only;rw[xo,AB];rfl
 rw[t];cases hT:hE YN p w 11 (some (.ref 6)) N (AD w os) (topStub p)with
 |none=>rw[hT]at g;cases g
 |some s₁ =>
  have r:=kq hT;rw[boot_abs]at r;rw[hT]at g;rw[r];exact g
end L2.Hd
namespace gZ
open PySem L2
def top (i:Nat):Stmt:=PySem.Challenge.pw_archrow_k20_sets_counted.main.body.getD i (.Pass ⟨0,0,0,0⟩)
abbrev bE:Stmt:=top 1
abbrev cN:Stmt:=top 2
abbrev c_:Stmt:=top 3
abbrev fX:Stmt:=top 4
abbrev fY:Stmt:=top 5
abbrev de:Stmt:=top 7
abbrev f6:Stmt:=top 8
abbrev dW:Stmt:=top 9
abbrev dX:Stmt:=top 10
abbrev cO:Stmt:=top 12
abbrev du:Stmt:=top 13
abbrev dq:Stmt:=top 14
abbrev fZ:Stmt:=top 15
abbrev dc:Stmt:=top 16
abbrev cC:Stmt:=top 17
abbrev eX:Stmt:=top 18
abbrev eV:Stmt:=top 19
abbrev eW:Stmt:=top 20
abbrev da:Stmt:=top 21
abbrev dU:Stmt:=top 22
abbrev kK:Stmt:=top 23
noncomputable abbrev vS (x:Str)(t:Nat):UQ:=.str x t
noncomputable abbrev kE (P:Yy)(x:Str)(t:Nat)(v:UQ):XE:=⟨PyData.keyHash P x,.str x t,v⟩
noncomputable abbrev kC (n:Str)(t l p r8 R9 RD:Nat)(Rf Rc Rb:UQ)(RC R8 Rm:Nat):Obj:={cls:=.type "code",data:=.fields #[vS n t,vS n (t+1),vS "/claim/cut.py" (t+2),.int l 0,.int p 0,.int 0 0,.int 0 0,.int 3 0,.ref r8,.bool true,.int R9 0,.ref RD,Rf,Rc,Rb,.ref RC,.int R8 0,.int l 0,vS "/claim/cut.py" Rm]}
noncomputable abbrev LY (st:Stmt)(x m:Str)(t c:Nat):VI:=PySem.W.fnOf x x (j7 st) (d4 st) (az st) .none .none .none (vS m t) none (.ref c) .none
noncomputable abbrev kF (st:Stmt)(x m:Str)(t c:Nat):Obj:={cls:=.type "function",data:=.func (LY st x m t c)}
noncomputable def KK:Yy->PySem.W.Frag:=λP=>[(3,{cls:=.type "dict",data:=.dict #[kE P "__name__" 165 (vS "law_archrow_k20_sets_counted" 259),kE P "__doc__" 166 .none,kE P "__package__" 167 .none,kE P "__loader__" 168 (.builtin "__main__.__loader__#opaque"),kE P "__spec__" 169 .none,kE P "__annotations__" 170 (.ref 6),kE P "__builtins__" 171 (.ref 4),kE P "__file__" 173 (vS "/claim/cut.py" 172),kE P "__cached__" 174 .none,kE P "stretches_rising" 194 (.ref 19),kE P "partners_of" 200 (.ref 24),kE P "parts_left" 209 (.ref 31),kE P "ways_in" 220 (.ref 38),kE P "ways_by" 226 (.ref 43),kE P "count_sets" 235 (.ref 50),kE P "by_size" 241 (.ref 55),kE P "counts_of" 247 (.ref 60),kE P "add_sizes" 258 (.ref 67),kE P "_law_cell_at" 268 (.ref 74),kE P "_law_deck" 275 (.ref 81),kE P "_law_take" 285 (.ref 88),kE P "_law_row" 301 (.ref 95),kE P "_law_copied" 308 (.ref 102),kE P "_law_do_cross" 316 (.ref 109),kE P "_law_fits" 325 (.ref 116),kE P "_law_sets" 331 (.ref 121),kE P "_law_same" 337 (.ref 126),kE P "_law_counts" 343 (.ref 131),kE P "_law_right" 349 (.ref 136),kE P "law" 357 (.ref 143)] 30}),
 (18,kC "stretches_rising" 189 2 1 15 181 16 .none .none .none 17 192 193),
 (19,kF bE "stretches_rising" "archrow.stretches" 187 18),
 (23,kC "partners_of" 195 4 1 20 181 21 .none .none .none 22 198 199),
 (24,kF cN "partners_of" "archrow.stretches" 187 23),
 (30,kC "parts_left" 201 10 3 25 181 26 .none (.ref 27) (.ref 28) 29 207 208),
 (31,kF c_ "parts_left" "archrow.stretches" 187 30),
 (37,kC "ways_in" 210 14 2 32 181 33 .none (.ref 34) (.ref 35) 36 218 219),
 (38,kF fX "ways_in" "archrow.stretches" 187 37),
 (42,kC "ways_by" 221 19 4 39 181 40 .none .none .none 41 224 225),
 (43,kF fY "ways_by" "archrow.stretches" 187 42),
 (49,kC "count_sets" 229 22 1 44 181 45 .none (.ref 46) (.ref 47) 48 233 234),
 (50,kF de "count_sets" "archrow.counted" 227 49),
 (54,kC "by_size" 236 24 1 51 181 52 .none .none .none 53 239 240),
 (55,kF f6 "by_size" "archrow.counted" 227 54),
 (59,kC "counts_of" 242 35 1 56 181 57 .none .none .none 58 245 246),
 (60,kF dW "counts_of" "archrow.counted" 227 59),
 (66,kC "add_sizes" 248 43 3 61 181 62 .none (.ref 63) (.ref 64) 65 256 257),
 (67,kF dX "add_sizes" "archrow.counted" 227 66),
 (73,kC "_law_cell_at" 261 50 2 68 181 69 .none (.ref 70) (.ref 71) 72 266 267),
 (74,kF cO "_law_cell_at" "law_archrow_k20_sets_counted" 259 73),
 (80,kC "_law_deck" 269 54 1 75 181 76 .none (.ref 77) (.ref 78) 79 273 274),
 (81,kF du "_law_deck" "law_archrow_k20_sets_counted" 259 80),
 (87,kC "_law_take" 276 56 2 82 181 83 .none (.ref 84) (.ref 85) 86 283 284),
 (88,kF dq "_law_take" "law_archrow_k20_sets_counted" 259 87),
 (94,kC "_law_row" 286 65 2 89 181 90 .none (.ref 91) (.ref 92) 93 299 300),
 (95,kF fZ "_law_row" "law_archrow_k20_sets_counted" 259 94),
 (101,kC "_law_copied" 302 84 1 96 181 97 .none (.ref 98) (.ref 99) 100 306 307),
 (102,kF dc "_law_copied" "law_archrow_k20_sets_counted" 259 101),
 (108,kC "_law_do_cross" 309 86 2 103 181 104 .none (.ref 105) (.ref 106) 107 314 315),
 (109,kF cC "_law_do_cross" "law_archrow_k20_sets_counted" 259 108),
 (115,kC "_law_fits" 317 88 2 110 181 111 .none (.ref 112) (.ref 113) 114 323 324),
 (116,kF eX "_law_fits" "law_archrow_k20_sets_counted" 259 115),
 (120,kC "_law_sets" 326 93 1 117 181 118 .none .none .none 119 329 330),
 (121,kF eV "_law_sets" "law_archrow_k20_sets_counted" 259 120),
 (125,kC "_law_same" 332 102 2 122 181 123 .none .none .none 124 335 336),
 (126,kF eW "_law_same" "law_archrow_k20_sets_counted" 259 125),
 (130,kC "_law_counts" 338 112 1 127 181 128 .none .none .none 129 341 342),
 (131,kF da "_law_counts" "law_archrow_k20_sets_counted" 259 130),
 (135,kC "_law_right" 344 130 1 132 181 133 .none .none .none 134 347 348),
 (136,kF dU "_law_right" "law_archrow_k20_sets_counted" 259 135),
 (142,kC "law" 350 147 1 137 181 138 .none (.ref 139) (.ref 140) 141 355 356),
 (143,kF kK "law" "law_archrow_k20_sets_counted" 259 142)]
noncomputable abbrev HK:PySem.W.Hook:=PySem.W.kHook KK [3,18,19,23,24,30,31,37,38,42,43,49,50,54,55,59,60,66,67,73,74,80,81,87,88,94,95,101,102,108,109,115,116,120,121,125,126,130,131,135,136,142,143] (λ_=>by kernel_rfl)
noncomputable def view:UY:={PySem.Challenge.pw_archrow_k20_sets_counted with main:={PySem.Challenge.pw_archrow_k20_sets_counted.main with body:=[top 1,top 2,top 3,top 4,top 5,top 7,top 8,top 9,top 10,top 12,top 13,top 14,top 15,top 16,top 17,top 18,top 19,top 20,top 21,top 22,top 23]}}
theorem left:PySem.W.LeftO PySem.Challenge.pw_archrow_k20_sets_counted view [] (λs=>PySem.W.xlAt view [] s&&PySem.W.recOk (PySem.W.RowW.records PySem.Challenge.rw_archrow_k20_sets_counted.row.toRowW) s) HK.obs HK.val 1398:=L2.Hd.wD (by kernel_rfl) (by kernel_rfl) (λ_=>rfl) (λw os=>by kernel_rfl)
end gZ
namespace L2
open PySem PySem.Spec PyProof.Rows
abbrev Key:=Sum Int Str
def m5:Key->UQ->Bool
 |.inl k,v=>Value.isInt k v
 |.inr x,v=>Value.isStrOf x v
def Nz (w:Vc):Key->Int
 |.inl k=>hashInt k
 |.inr x=>hashStr w x
theorem bg:∀{k:Key} {v:UQ},m5 k v=true->(∃i t,k=Yt i/\v=Value.int i t)\/(∃x t,k=YI x/\v=Value.str x t)
 |.inl i,v,h=>by
  obtain⟨t,e⟩:=Value.isInt_shape (k:=i) (v:=v) h;exact .inl ⟨i,t,rfl,e⟩
 |.inr x,v,h=>by
  obtain⟨t,e⟩:=Value.isStrOf_shape (x:=x) (v:=v) h;exact .inr ⟨x,t,rfl,e⟩
theorem wI (i:Int)(t:Tok):m5 (.inl i) (.int i t)=true:=by simp[m5,Value.isInt]
theorem wH (x:Str)(t:Tok):m5 (.inr x) (.str x t)=true:=by simp[m5,Value.isStrOf]
theorem Gi (a b:Int):decide ((Yt a:Key)=Yt b)=(a==b):=by
 by_cases e:a=b
 ·subst e;simp
 ·have h:¬ (Yt a:Key)=Yt b:=λq=>e (Sum.inl.inj q);rw[decide_eq_false h];exact(beq_eq_false_iff_ne.mpr e).symm
theorem Gf (a b:Str):decide ((YI a:Key)=YI b)=decide (a=b):=by
 by_cases e:a=b
 ·subst e;simp
 ·have h:¬ (YI a:Key)=YI b:=λq=>e (Sum.inr.inj q);rw[decide_eq_false h,decide_eq_false e]
theorem Gh (a:Int)(b:Str):decide ((Yt a:Key)=YI b)=false:=decide_eq_false (λq=>nomatch q)
theorem Gg (a:Str)(b:Int):decide ((YI a:Key)=Yt b)=false:=decide_eq_false (λq=>nomatch q)
def bV (prog:UY)(w:Vc):PySem.KeyKind prog w Key where
 is:=m5
 hash:=Nz w
 inj:=λv a b ha hb=>by
  rcases bg ha with⟨i,t,rfl,rfl⟩|⟨x,t,rfl,rfl⟩
  ·rcases bg hb with⟨j,u,rfl,e⟩|⟨y,u,rfl,e⟩
   ·injection e with e1 _;rw[e1]
   ·exact nomatch e
  ·rcases bg hb with⟨j,u,rfl,e⟩|⟨y,u,rfl,e⟩
   ·exact nomatch e
   ·injection e with e1 _;rw[e1]
 byValue:=λk v h=>by
  rcases bg h with⟨i,t,rfl,rfl⟩|⟨x,t,rfl,rfl⟩ <;> rfl
 pyHash:=λhv h=>by
  rcases bg hv with⟨i,t,rfl,rfl⟩|⟨x,t,rfl,rfl⟩
  ·exact wpAny_pyHash_int h
  ·exact wpAny_pyHash_str h
 eqBool:=λhu hv h=>by
  rcases bg hu with⟨i,t,rfl,rfl⟩|⟨x,t,rfl,rfl⟩
  ·rcases bg hv with⟨j,u,rfl,rfl⟩|⟨y,u,rfl,rfl⟩
   ·rw[Gi]at h;exact wpAny_eqBool_int h
   ·rw[Gh]at h;exact SeqAt.EqAt.int_str i t y u _ _ _ _ h
  ·rcases bg hv with⟨j,u,rfl,rfl⟩|⟨y,u,rfl,rfl⟩
   ·rw[Gg]at h;exact SeqAt.EqAt.str_int x t j u _ _ _ _ h
   ·rw[Gf]at h;exact wpAny_eqBool_str h
 «strs»:=λk x t v h=>by
  rcases bg h with⟨i,u,rfl,e⟩|⟨y,u,rfl,e⟩
  ·exact nomatch e
  ·injection e with e1 _
   subst e1;cases v <;> rfl
theorem qJ (prog:UY)(w:Vc)(i:Int)(t:Tok):(bV prog w).is (.inl i) (.int i t)=true:=wI i t
theorem qI (prog:UY)(w:Vc)(x:Str)(t:Tok):(bV prog w).is (.inr x) (.str x t)=true:=wH x t
inductive V where
 |bC|bl (b:Bool)|int (i:Int)|str (x:Str)|Du (b:Array UInt8)|G9 (b:UInt64)|ref (a:Addr)|ty (n:String)
 deriving DecidableEq
def RelV:V->UQ->Prop
 |.bC,u=>u=Value.none
 |.bl b,u=>u=Value.bool b
 |.int i,u=>∃t,u=Value.int i t
 |.str x,u=>∃t,u=Value.str x t
 |.Du b,u=>∃t,u=Value.bytes b t
 |.G9 b,u=>∃t,u=Value.float b t
 |.ref a,u=>u=Value.ref a
 |.ty n,u=>u=Value.type n
abbrev Vals:List V->List UQ->Prop:=Paired RelV
theorem Vals.length {xs:List V}{us:List UQ}(r:Vals xs us):xs.length=us.length:=Paired.length r
theorem Vals.get:∀{xs:List V} {us:List UQ} {i:Nat} {x:V},Vals xs us->xs[i]?=some x->∃u,us[i]?=some u/\RelV x u
 |_,_,_,_,.nil,e=>by simp at e
 |_,_,0,_,.cons r _,e=>by simp at e;subst e;exact⟨_,rfl,r⟩
 |_,_,i+1,x,.cons _ t,e=>by
  obtain⟨u,h1,h2⟩:=Vals.get (i:=i) (x:=x) t (by simpa using e)
  exact⟨u,by simpa using h1,h2⟩
theorem Vals.set {x:V}{u:UQ}(r:RelV x u):∀{xs:List V} {us:List UQ} (i:Nat),Vals xs us->Vals (xs.set i x) (us.set i u)
 |_,_,_,.nil=>.nil
 |_,_,0,.cons _ t=>.cons r t
 |_,_,i+1,.cons q t=>.cons q (Vals.set r i t)
theorem Vals.append:∀{xs ys:List V} {us ws:List UQ},Vals xs us->Vals ys ws->Vals (xs++ys) (us++ws)
 |_,_,_,_,.nil,s=>s
 |_,_,_,_,.cons r t,s=>.cons r (Vals.append t s)
theorem Vals.take:∀{xs:List V} {us:List UQ} (n:Nat),Vals xs us->Vals (xs.take n) (us.take n)
 |_,_,0,_=>.nil
 |_,_,_+1,.nil=>.nil
 |_,_,n+1,.cons r t=>.cons r (Vals.take n t)
theorem Vals.drop:∀{xs:List V} {us:List UQ} (n:Nat),Vals xs us->Vals (xs.drop n) (us.drop n)
 |_,_,0,r=>r
 |_,_,_+1,.nil=>.nil
 |_,_,n+1,.cons _ t=>Vals.drop n t
theorem Vals.none_of:∀{xs:List V} {us:List UQ} {i:Nat},Vals xs us->xs[i]?=none->us[i]?=none:=λ{xs us i} r e=>by
 have h1:=r.length;have h2:xs.length<=i:=Zh.mp e;exact Zh.mpr (by lia)
def l4:Option V->Option UQ->Prop
 |some v,some u=>RelV v u
 |none,none=>True
 |_,_=>False
def KV {κ:Type}:List (κ×V)->List (κ×UQ)->Prop:=Paired λ(p:κ×V) (q:κ×UQ)=>p.1=q.1/\RelV p.2 q.2
def kV:Key->V
 |.inl i=>.int i
 |.inr x=>.str x
inductive HO where
 |lst (xs:List V)
 |tup (xs:List V)
 |dK (kvs:List (Key×V))|dT (kvs:List (List Key×V))
 |set (S:Int->Bool) (n:Nat)
 |ins (C dx:Addr) (fs:List (Str×V))
 |own (x:Addr)
 |xd (fs:List (Str×V))
 |met (f x:Addr)
 |MR (lo hi:Int)
 |sv (o:Obj) (u:HO)
 |E1 (ps:Array UQ)
 |ext (φ:Heap->Prop)
abbrev Hp:=Addr->Option HO
def upd (H:Hp)(a:Addr)(o:HO):Hp:=λb=>if b=a then some o else H b
theorem aj {H:Hp}{a:Addr}{o:HO}:upd H a o a=some o:=by unfold upd;rw[if_pos rfl]
theorem ak {H:Hp}{a b:Addr}{o:HO}(h:b≠a):upd H a o b=H b:=by unfold upd;rw[if_neg h]
theorem DX {H:Hp}{a b:Addr}{o u:HO}(h:H a=some o)(h':H b=some u)(d:o≠u):a≠b:=by
 intro e;subst e;rw[h]at h';exact d (VL h')
theorem cf {H:Hp}{a b:Addr}{o:HO}(h:H a=some o)(h':H b=none):a≠b:=by
 intro e;subst e;rw[h]at h';cases h'
section
variable (P:UY)(w:Vc)
def a6 (H:Hp)(h:Heap)(a:Addr):HO->Prop
 |.lst xs=>xs.length<=U8/\∃(its:List UQ) (n:Nat),Vals xs its/\h.get? a=some {cls:=.type "list",data:=.seq its.toArray n}
 |.tup xs=>xs.length<=U8/\∃its:List UQ,Vals xs its/\IsTup h a its.toArray
 |.dK kvs=>kvs.length<=U8/\(a==WM)=false/\∃vs,KV kvs vs/\h.DictOf (bV P w) a vs
 |.dT kvs=>kvs.length<=U8/\(a==WM)=false/\∃xs:List (List Key×Addr×UQ),
   Paired (λ(p:List Key×V) (q:List Key×Addr×UQ)=>p.1=q.1/\H q.2.1=some (.tup (p.1.map kV))/\RelV p.2 q.2.2) kvs xs /\
   ∃o es ep,h.get? a=some o/\o.ExactDict/\o.data=.dict es ep/\es.toList=xs.map (entryOfKey (Yr (bV P w)))/\(xs.map (·.1)).Nodup
 |.set S n=>h.SetOf (intKind P w) a S n
 |.ins C dx fs=>H dx=some (.own a)/\fs.length<=1000/\dx≠a/\h.get? a=some (PySem.W.instObj C dx) /\
   ∃mA,h.Ns1 dx mA/\(∀f,l4 (fs.lookup f) (mA f))/\PySem.Within mA (fs.map (·.1))
 |.own _=>∃o,h.get? a=some o
 |.xd fs=>∃mA,h.Ns1 a mA/\∀f,l4 (fs.lookup f) (mA f)
 |.MR lo hi=>∃t u v,h.get? a=some {cls:=.type "range",data:=.fields #[.int lo t,.int hi u,.int 1 v]}
 |.sv o u=>h.get? a=some o/\a6 H h a u
 |.E1 ps=>h.get? a=some {cls:=.none,data:=.fields ps}
 |.met f x=>h.get? a=some (PySem.W.methodObj (.ref f) (.ref x))
 |.ext φ=>φ h/\(∃o,h.get? a=some o)/\∀h1 h2:Heap,φ h1->(∀o,h1.get? a=some o->h2.get? a=some o)->φ h2
def gW (H:Hp)(h:Heap):Prop:=∀a o,H a=some o->a6 P w H h a o
end
section
variable {P:UY}{w:Vc}{H H':Hp}{h h':Heap}{a:Addr}{o:HO}
theorem a6.lt (x:a6 P w H h a o):a<h.objs.size:=by
 cases o with
 |lst xs=>obtain⟨_,_,_,_,e⟩:=x;exact Vn e
 |tup xs=>obtain⟨_,_,_,p⟩:=x;exact p.lt
 |dK kvs=>obtain⟨_,_,_,_,o,_,_,e,_⟩:=x;exact Vn e
 |dT kvs=>obtain⟨_,_,_,_,o,_,_,e,_⟩:=x;exact Vn e
 |set S n=>obtain⟨o,_,_,_,e,_⟩:=x;exact Vn e
 |ins C dx fs=>obtain⟨_,_,_,e,_⟩:=x;exact Vn e
 |own y=>obtain⟨_,e⟩:=x;exact Vn e
 |xd fs=>obtain⟨_,⟨_,_,_,e,_⟩,_⟩:=x;exact Vn e
 |MR lo hi=>obtain⟨_,_,_,e⟩:=x;exact Vn e
 |sv ob u=>obtain⟨e,_⟩:=x;exact Vn e
 |E1 ps=>exact Vn (show h.get? a=some _ from x)
 |met f y=>exact Vn (show h.get? a=some _ from x)
 |ext φ=>obtain⟨_,⟨_,e⟩,_⟩:=x;exact Vn e
theorem Paired.F2 {α β:Type}{F G:α->β->Prop}:∀{l₁:List α} {l₂:List β},Paired F l₁ l₂->(∀a b,F a b->G a b)->Paired G l₁ l₂
 |_,_,.nil,_=>.nil
 |_,_,.cons r t,f=>.cons (f _ _ r) (Paired.F2 t f)
theorem a6.p0 (x:a6 P w H h a o)(k:∀b u,(b=a\/H b=some (.own a))->h.get? b=some u->h'.get? b=some u)
  (ho:∀b,H b=some (.own a)->H' b=some (.own a)) (ht:∀b xs,H b=some (.tup xs)->H' b=some (.tup xs)):a6 P w H' h' a o:=by
 induction o with
 |lst xs=>obtain⟨z,its,n,r,e⟩:=x;exact⟨z,its,n,r,k _ _ (.inl rfl) e⟩
 |tup xs=>obtain⟨z,its,r,ob,e,c⟩:=x;exact⟨z,its,r,ob,k _ _ (.inl rfl) e,c⟩
 |dK kvs=>obtain⟨z,y,vs,r,ob,es,ep,e,c⟩:=x;exact⟨z,y,vs,r,ob,es,ep,k _ _ (.inl rfl) e,c⟩
 |dT kvs =>
  obtain⟨z,y,xs,r,ob,es,ep,e,c⟩:=x;exact⟨z,y,xs,Paired.F2 r λp q z=>⟨z.1,ht _ _ z.2.1,z.2.2⟩,ob,es,ep,k _ _ (.inl rfl) e,c⟩
 |set S n=>obtain⟨ob,es,ep,t,e,c⟩:=x;exact⟨ob,es,ep,t,k _ _ (.inl rfl) e,c⟩
 |ins C dx fs =>
  obtain⟨d,z,ne,e,mA,⟨od,es,ep,e2,c⟩,r⟩:=x;exact⟨ho _ d,z,ne,k _ _ (.inl rfl) e,mA,⟨od,es,ep,k _ _ (.inr d) e2,c⟩,r⟩
 |own y=>obtain⟨ob,e⟩:=x;exact⟨ob,k _ _ (.inl rfl) e⟩
 |xd fs=>obtain⟨mA,⟨od,es,ep,e,c⟩,r⟩:=x;exact⟨mA,⟨od,es,ep,k _ _ (.inl rfl) e,c⟩,r⟩
 |MR lo hi=>obtain⟨t,u,v,e⟩:=x;exact⟨t,u,v,k _ _ (.inl rfl) e⟩
 |sv ob u ih=>obtain⟨e,q⟩:=x;exact⟨k _ _ (.inl rfl) e,ih q⟩
 |E1 ps =>
  have e:h.get? a=some {cls:=.none,data:=.fields ps}:=x;show h'.get? a=some {cls:=.none,data:=.fields ps};exact k a _ (.inl rfl) e
 |met f y =>
  have e:h.get? a=some (PySem.W.methodObj (.ref f) (.ref y)):=x;show h'.get? a=some (PySem.W.methodObj (.ref f) (.ref y));exact k a _ (.inl rfl) e
 |ext φ=>obtain⟨p,⟨o,e⟩,st⟩:=x;exact⟨st _ _ p λo q=>k _ _ (.inl rfl) q,⟨o,k _ _ (.inl rfl) e⟩,st⟩
theorem gW.lt (x:gW P w H h)(e:H a=some o):a<h.objs.size:=(x a o e).lt
theorem gW.fresh (x:gW P w H h)(e:h.objs.size<=a):H a=none:=by
 cases q:H a with
 |none=>rfl
 |some u=>exact absurd (Vz (x.lt q) e) (XF _)
theorem gW.kept (x:gW P w H h)(k:∀b u,h.get? b=some u->h'.get? b=some u):gW P w H h':=λa o e =>
 (x a o e).p0 (λb u _ q=>k b u q) (λ_ q=>q) λ_ _ q=>q
theorem gW.laid (x:gW P w H h)(k:∀b u,h.get? b=some u->h'.get? b=some u)(hp:h.objs.size<=a)(new:a6 P w (upd H a o) h' a o):gW P w (upd H a o) h':=λb u e=>by
 have hn:=x.fresh hp
 by_cases hb:b=a
 ·subst hb;rw[aj]at e;cases e;exact new
 ·rw[ak hb]at e;exact(x b u e).p0 (λc v _ q=>k c v q) (λc q=>by rw[ak (cf q hn)];exact q) λc xs q=>by rw[ak (cf q hn)];exact q
end
def Rd (H:Hp)(a:Addr)(u:HO):Prop:=H a=some u\/∃o,H a=some (.sv o u)
theorem Rd.ok {P:UY}{w:Vc}{H:Hp}{h:Heap}{a:Addr}{u:HO}(r:Rd H a u)(x:gW P w H h):a6 P w H h a u:=by
 rcases r with r|⟨o,r⟩
 ·exact x a u r
 ·obtain⟨_,q⟩:=x a _ r;exact q
def LF:Option HO->Prop
 |some (.lst _)=>True
 |some (.dK _)=>True
 |some (.dT _)=>True
 |some (.set _ _)=>True
 |some (.ins _ _ _)=>True
 |some (.ext _)=>True
 |_=>False
section
variable {P:UY}{w:Vc}{H:Hp}{h h':Heap}{x e:Addr}{o':HO}
theorem gW.write (ok:gW P w H h)(mu:LF (H x))(he:e=x\/H e=some (.own x))(k:∀b u,b≠e->h.get? b=some u->h'.get? b=some u)(HU:∃u,h'.get? e=some u)
  (new:a6 P w (upd H x o') h' x o'):gW P w (upd H x o') h':=λb u q=>by
 have Jm:∀c y,H c=some (.own y)->c≠x:=λc y r z=>by subst z;rw[r]at mu;exact mu
 have Ng:∀c xs,H c=some (.tup xs)->c≠x:=λc xs r z=>by subst z;rw[r]at mu;exact mu
 by_cases hb:b=x
 ·subst hb;rw[aj]at q;cases q;exact new
 ·rw[ak hb]at q
  by_cases G4:b=e
  ·have q':H b=some (.own x):=by
    rcases he with z|z
    ·exact absurd (G4.trans z) hb
    ·rw[G4];exact z
   rw[q]at q';cases q';obtain⟨v,hv⟩:=HU;exact⟨v,by rw[G4];exact hv⟩
  ·refine(ok b u q).p0 (λc v hc r=>k c v ?_ r) (λc r=>by rw[ak (Jm c b r)];exact r) λc xs r=>by rw[ak (Ng c xs r)];exact r
   rcases hc with rfl|hc
   ·exact G4
   ·rintro rfl;rcases he with z|z
    ·exact Jm c b hc z
    ·rw[hc]at z;cases z;exact hb rfl
end
structure Un (fs ex:List Addr)(H H':Hp)(h h':Heap):Prop where
 keep:∀b o,h.get? b=some o->H b=none->b∉fs->b∉ex->h'.get? b=some o
 slot:∀b o,h.get? b=some o->H b=none->b∈fs->b∉ex->∃sl,h'.get? b=some {o with slots:=sl}
 free:∀b o,h.get? b=some o->H b=none->b∉ex->H' b=none
 there:∀b o,h.get? b=some o->b∉ex->∃o',h'.get? b=some o'
 nZ:∀b xs,H b=some (.tup xs)->H' b=some (.tup xs)
 mz:∀b o u,H b=some (.sv o u)->H' b=some (.sv o u)
 n9:∀b ps,H b=some (.E1 ps)->∃more,H' b=some (.E1 (ps++more))
section
variable {fs ex:List Addr}{H H1:Hp}{h h1 h':Heap}{a x e:Addr}{o:HO}
theorem Un.any (u:Un fs ex H H1 h h1){b:Addr}{ob:Obj}(q:h.get? b=some ob)(n:H b=none)(hx:b∉ex):∃sl,h1.get? b=some {ob with slots:=sl}:=by
 by_cases hb:b∈fs
 ·exact u.slot b ob q n hb hx
 ·exact⟨ob.slots,u.keep b ob q n hb hx⟩
theorem Un.kept (k:∀b u,h.get? b=some u->h'.get? b=some u):Un fs ex H H h h' :=
 ⟨λb ob q _ _ _=>k b ob q,λb ob q _ _ _=>⟨ob.slots,k b ob q⟩,λ_ _ _ n _=>n,λb ob q _=>⟨ob,k b ob q⟩,λ_ _ q=>q,λ_ _ _ q=>q,λ_ ps q=>⟨#[],by rw[q];simp⟩⟩
theorem Un.refl:Un fs ex H H h h:=Un.kept λ_ _ q=>q
theorem Un.laid (k:∀b u,h.get? b=some u->h'.get? b=some u)(hp:h.objs.size<=a)(hn:H a=none):Un fs ex H (upd H a o) h h' where
 keep:=λb u q _ _ _=>k b u q
 slot:=λb u q _ _ _=>⟨u.slots,k b u q⟩
 free:=λb u q n _=>by rw[ak (VT (Vz (Vn q) hp))];exact n
 there:=λb u q _=>⟨u,k b u q⟩
 nZ:=λb xs q=>by rw[ak (cf q hn)];exact q
 mz:=λb u xs q=>by rw[ak (cf q hn)];exact q
 n9:=λb ps q=>⟨#[],by rw[ak (cf q hn),q];simp⟩
theorem Un.write (mu:LF (H x))(he:e=x\/H e=some (.own x))(k:∀b u,b≠e->h.get? b=some u->h'.get? b=some u)(HU:∃u,h'.get? e=some u):Un fs ex H (upd H x o) h h':=by
 have hx:∀b,H b=none->b≠x:=λb n z=>by subst z;rw[n]at mu;exact mu
 have hb:∀b,H b=none->b≠e:=λb n z=>by
  subst z;rcases he with r|r
  ·exact hx b n r
  ·rw[n]at r;cases r
 have hm:∀b u,H b=some u->¬ LF (some u)->b≠x:=λb u q nm z=>by subst z;rw[q]at mu;exact nm mu
 refine⟨λb u q n _ _=>k b u (hb b n) q,λb u q n _ _=>⟨u.slots,k b u (hb b n) q⟩,λb u q n _=>by rw[ak (hx b n)];exact n,λb u q _=>?_,
  λb xs q=>by rw[ak (hm b _ q λz=>z)];exact q,λb u xs q=>by rw[ak (hm b _ q λz=>z)];exact q,λb ps q=>⟨#[],by rw[ak (hm b _ q λz=>z),q];simp⟩⟩
 by_cases G4:b=e
 ·subst G4;exact HU
 ·exact⟨u,k b u G4 q⟩
end
def LK (h:Heap)(H:Hp):List Addr:=(Vx h.objs.size).filter λa=>(H a).isSome
def o9 (h:Heap)(H:Hp):Heap:=PySem.W.hideAll h (LK h H)
theorem wR (h:Heap)(H:Hp):(o9 h H).objs.size=h.objs.size:=PySem.W.hideAll_size _ _
theorem zT {h:Heap}{H:Hp}{b:Addr}{o:Obj}(e:h.get? b=some o)(n:H b=none):(o9 h H).get? b=some o :=
 PySem.W.hideAll_get _ e λhm=>by
  have q:(H b).isSome=true:=(VH.mp hm).2;rw[n]at q;simp at q
theorem Cr {h:Heap}{H:Hp}{b:Addr}{o:Obj}(e:(o9 h H).get? b=some o):h.get? b=some o/\H b=none:=by
 have e':h.get? b=some o:=PySem.W.of_hideAll (LK h H) e;refine⟨e',?_⟩;cases q:H b with
 |none=>rfl
 |some x =>
  have hm:b∈LK h H:=VH.mpr ⟨Wu.mpr (Vn e'),by simp[q]⟩
  have z:(o9 h H).get? b=none:=PySem.W.hideAll_none (LK h H) hm;rw[z]at e;cases e
structure Mod (K:PySem.W.Frag)(mg:Str->Option UQ)(base:Heap):Prop where
 Nw:K.In base
 glob:base.Ns Wt mg
 blt:∃mb,base.Ns builtinsNs mb/\∀x:Str,x≠"__name__" -> mb x=VO x
 nolimit:base.NoLimit
structure Cx where
 prog:UY
 w:Vc
 K:PySem.W.Frag
 mg:Str->Option UQ
 base:Heap
 A:V6
 N:List Str
 s₀:UT
 H₀:Hp
 env:Env
 outer:List Env
 stack:List Env
 ex:List Addr
 fn:Str->Bool
 calm:Bool
 pn:List (Addr×Obj)
 xe:UQ->UT->Prop
def z6 (l:List Env):List Addr:=l.filterMap (·.frame)
abbrev Cx.fs (X:Cx):List Addr:=z6 X.outer
def j9 (sc:XA)(x:Str):Prop:=sc.names.lookup x=some .local\/sc.names.lookup x=some .cell\/sc.names.lookup x=some .free
def Loc (sc:XA)(x:Str):Prop:=sc.names.lookup x=some .local\/sc.names.lookup x=some .cell
def Look (env:Env)(h:Heap)(m:Str->Option UQ)(x:Str)(u:UQ):Prop :=
 (env.kindOf x=some .local/\m x=some u)\/((env.kindOf x=some .cell\/env.kindOf x=some .free)/\∃c,env.cells.lookup x=some c/\h.IsCell c (some u))
structure Cx.Ok (X:Cx):Prop where
 mod:Mod X.K X.mg X.base
 kind:X.env.scope.kind=.function
 glob:X.env.globals=Wt
 blt:X.env.builtins=builtinsNs
 above:X.s₀.heap.objs.size<=X.env.locals
 inj:∀x y c,X.env.cells.lookup x=some c->X.env.cells.lookup y=some c->x=y
 has:∀x,(X.env.kindOf x=some .cell\/X.env.kindOf x=some .free)->∃c,X.env.cells.lookup x=some c
 Lv:∀x c,X.fn x=true->X.env.cells.lookup x=some c->X.s₀.heap.objs.size<=c
 hd:X.calm=true->X.A.handled=none
 frames:X.A.frames=some X.stack
 LN:X.stack=X.outer\/(X.stack=X.env::X.outer/\X.env.frame=some X.env.locals)
 Mc:∀b∈X.ex,b≠X.env.locals/\∀x c,X.env.cells.lookup x=some c->c≠b
 bs:∀b o,X.base.get? b=some o->X.s₀.heap.get? b=some o/\X.H₀ b=none
 EB:X.base.objs.size<=X.s₀.heap.objs.size
 ze:∀b o,X.base.get? b=some o->b∉X.ex
 Aa:∀b∈X.ex,b∉X.fs
 lF:X.s₀.heap.FunFrames X.base X.outer
 HX:∀b∈X.fs,X.H₀ b=none
structure Inv (X:Cx)(pins:List (Addr×Obj))(σ:List (Option V))(H:Hp)(s:UT):Prop where
 ok:X.Ok
 os:s.os=X.s₀.os
 bare:Yg s.gens
 base:Un X.fs X.ex X.H₀ H X.s₀.heap s.heap
 loc:∃m,s.heap.Ns X.env.locals m/\∀(i:Nat) (x:Str) (v:V),X.N[i]?=some x->σ[i]?=some (some v)->j9 X.env.scope x->∃u,RelV v u/\Look X.env s.heap m x u
 cell:∀x c,X.env.cells.lookup x=some c->∃v,s.heap.IsCell c v
 free:H X.env.locals=none
 gx:∀x c,X.env.cells.lookup x=some c->H c=none
 pin:∀p∈X.pn++pins,s.heap.get? p.1=some p.2/\H p.1=none/\p.1≠X.env.locals/\p.1∉X.fs/\∀v,p.2.data≠.cell v
 bA:gW X.prog X.w H s.heap
 len:σ.length=X.N.length
section
variable {X:Cx}{pins:List (Addr×Obj)}{σ:List (Option V)}{H H':Hp}{s:UT}{h':Heap}
theorem Cx.Ok.FX (ok:X.Ok){b:Addr}{o:Obj}(e:X.base.get? b=some o):b∉X.fs:=λhb=>by
 have:=(ok.lF.mem hb).1;rw[e]at this;cases this
theorem Inv.bs (I:Inv X pins σ H s):∀b o,X.base.get? b=some o->s.heap.get? b=some o/\H b=none:=λb o e =>
 ⟨I.base.keep b o (I.ok.bs b o e).1 (I.ok.bs b o e).2 (I.ok.FX e) (I.ok.ze b o e),I.base.free b o (I.ok.bs b o e).1 (I.ok.bs b o e).2 (I.ok.ze b o e)⟩
theorem Inv.bk (I:Inv X pins σ H s):∀b o,X.base.get? b=some o->s.heap.get? b=some o:=λb o e=>(I.bs b o e).1
theorem Inv.mod (I:Inv X pins σ H s):Mod X.K X.mg X.base:=I.ok.mod
theorem Inv.ja (I:Inv X pins σ H s):X.K.In s.heap:=I.ok.mod.Nw.keeps I.bk
theorem Inv.lt (I:Inv X pins σ H s):X.env.locals<s.heap.objs.size:=let ⟨_,hn,_⟩:=I.loc;hn.lt
theorem Inv.sz (I:Inv X pins σ H s):X.s₀.heap.objs.size<=s.heap.objs.size:=VB I.ok.above (Nat.le_of_lt I.lt)
theorem Inv.Nh (I:Inv X pins σ H s){a:Addr}(h:s.heap.objs.size<=a):a∉X.fs:=λhb=>by
 obtain⟨_,o,ho,_⟩:=I.ok.lF.mem hb;exact absurd (Vz (Vn ho) (VB I.sz h)) (XF _)
theorem Inv.Hk (I:Inv X pins σ H s):∀x c,X.env.cells.lookup x=some c->c≠X.env.locals:=λx c e z=>by
 obtain⟨v,o,ho,hd⟩:=I.cell x c e;obtain⟨m,⟨o',es,ep,CO,K9,_⟩,_⟩:=I.loc;rw[z,CO]at ho;cases ho;rw[K9]at hd;cases hd
theorem Inv.lF (I:Inv X pins σ H s):s.heap.FunFrames X.base X.outer:=by
 have all:∀(l:List Env),(∀b∈z6 l,b∈X.fs)->X.s₀.heap.FunFrames X.base l->s.heap.FunFrames X.base l:=by
  intro l
  induction l with
  |nil=>intro _ _;trivial
  |cons env r ih =>
   intro hs hl;obtain⟨hk,⟨L,o,hf,hn,ho,hd⟩,hr⟩:=hl;have hL:L∈X.fs:=hs L (by unfold z6;rw[WQ,hf];exact U1)
   obtain⟨sl,e⟩:=I.base.slot L o ho (I.ok.HX L hL) hL λz=>I.ok.Aa L z hL;exact⟨hk,⟨L,_,hf,hn,e,hd⟩,ih (λb hb=>hs b (by unfold z6;rw[WQ,hf];exact UZ _ hb)) hr⟩
 exact all X.outer (λ_ hb=>hb) I.ok.lF
theorem Inv.stack (I:Inv X pins σ H s):s.heap.FunFrames X.base X.stack:=by
 rcases I.ok.LN with e|⟨e,hf⟩
 ·rw[e];exact I.lF
 ·rw[e];obtain⟨m,hn,_⟩:=I.loc;refine .cons (by rw[I.ok.kind];decide) hf hn ?_ I.lF
  exact Heap.get?_none_of_le (VB I.ok.EB I.ok.above)
theorem Inv.sO (I:Inv X pins σ H s):∀b∈z6 X.stack,b∈X.env.locals::X.fs:=λb hb=>by
 rcases I.ok.LN with e|⟨e,hf⟩
 ·rw[e]at hb;exact UZ _ hb
 ·rw[e]at hb;unfold z6 at hb;rw[WQ,hf]at hb;exact hb
theorem Inv.uv (I:Inv X pins σ H s):∀b∈z6 X.stack,H b=none:=λb hb=>by
 rcases UW.mp (I.sO b hb)with e|hb
 ·rw[e];exact I.free
 ·obtain⟨_,o,ho,_⟩:=I.ok.lF.mem hb;exact I.base.free b o ho (I.ok.HX b hb) λz=>I.ok.Aa b z hb
theorem Inv.step {g':Array GenState}{t':Nat}{d':Drawn}{ch:List Addr}(I:Inv X pins σ H s)
  (pF:∀b∈ch,(b∈X.ex\/X.s₀.heap.objs.size<=b)/\b≠X.env.locals/\(∀x c,X.env.cells.lookup x=some c->c≠b)/\∀p∈X.pn++pins,p.1≠b)
  (keep:∀b o,b≠X.env.locals->b∉X.fs->b∉ch->s.heap.get? b=some o->H b=none->h'.get? b=some o)
  (slot:∀b o,b≠X.env.locals->b∈X.fs->b∉ch->s.heap.get? b=some o->H b=none->∃sl,h'.get? b=some {o with slots:=sl}) (free:∀b o,b∉ch->s.heap.get? b=some o->H b=none->H' b=none)
  (there:∀b o,b∉ch->s.heap.get? b=some o->∃o',h'.get? b=some o')
  (nZ:∀b xs,H b=some (.tup xs)->H' b=some (.tup xs)) (mz:∀b o u,H b=some (.sv o u)->H' b=some (.sv o u)) (n9:∀b ps,H b=some (.E1 ps)->∃more,H' b=some (.E1 (ps++more)))
  (ns:∀m,s.heap.Ns X.env.locals m->h'.Ns X.env.locals m) (bA:gW X.prog X.w H' h') (hg:Yg g') :
  Inv X pins σ H' {s with heap:=h',gens:=g',drawn:=d',toks:=t'}:=by
 have Qc:∀b o,X.s₀.heap.get? b=some o->b≠X.env.locals:=λb o e=>VT (Vz (Vn e) I.ok.above);have LW:∀b o,X.s₀.heap.get? b=some o->b∉X.ex->b∉ch:=λb o e hx hb=>by
  rcases (pF b hb).1 with z|z
  ·exact hx z
  ·exact absurd (Vz (Vn e) z) (XF _)
 have cellK:∀x c,X.env.cells.lookup x=some c->∀v,s.heap.IsCell c v->h'.IsCell c v:=λx c e v wQ=>by
  obtain⟨o,ho,hd⟩:=wQ;have Js:c∉ch:=λz=>(pF c z).2.2.1 x c e rfl
  by_cases hc:c∈X.fs
  ·obtain⟨sl,q⟩:=slot c o (I.Hk x c e) hc Js ho (I.gx x c e);exact⟨_,q,hd⟩
  ·exact⟨o,keep c o (I.Hk x c e) hc Js ho (I.gx x c e),hd⟩
 refine⟨I.ok,I.os,hg,⟨λb o e n hb hx=>?_,λb o e n hb hx=>?_,λb o e n hx=>?_,λb o e hx=>?_,λb xs e=>nZ b xs (I.base.nZ b xs e),λb o xs e=>mz b o xs (I.base.mz b o xs e),λb ps e=>?_⟩,?_,λx c e=>?_,?_,λx c e=>?_,λp hp=>?_,bA,I.len⟩
 ·exact keep b o (Qc b o e) hb (LW b o e hx) (I.base.keep b o e n hb hx) (I.base.free b o e n hx)
 ·obtain⟨sl,e1⟩:=I.base.slot b o e n hb hx;obtain⟨Rv,e2⟩:=slot b _ (Qc b o e) hb (LW b o e hx) e1 (I.base.free b o e n hx);exact⟨Rv,e2⟩
 ·obtain⟨o',e1⟩:=I.base.there b o e hx;exact free b o' (LW b o e hx) e1 (I.base.free b o e n hx)
 ·obtain⟨o',e1⟩:=I.base.there b o e hx;exact there b o' (LW b o e hx) e1
 ·obtain⟨m1,e1⟩:=I.base.n9 b ps e;obtain⟨m2,e2⟩:=n9 b _ e1;exact⟨m1++m2,by rw[e2,Array.append_assoc]⟩
 ·obtain⟨m,hn,hl⟩:=I.loc;refine⟨m,ns m hn,λi x v e1 e2 e3=>?_⟩;obtain⟨u,r,l⟩:=hl i x v e1 e2 e3;refine⟨u,r,?_⟩;rcases l with l|⟨k,c,e,z⟩
  ·exact .inl l
  ·exact .inr ⟨k,c,e,cellK x c e _ z⟩
 ·obtain⟨v,z⟩:=I.cell x c e;exact⟨v,cellK x c e v z⟩
 ·obtain⟨m,⟨o,_,_,ho,_⟩,_⟩:=I.loc;exact free _ o (λz=>(pF _ z).2.1 rfl) ho I.free
 ·obtain⟨v,o,ho,hd⟩:=I.cell x c e;exact free c o (λz=>(pF c z).2.2.1 x c e rfl) ho (I.gx x c e)
 ·obtain⟨e,n,ne,nf,d⟩:=I.pin p hp;have Js:p.1∉ch:=λz=>(pF p.1 z).2.2.2 p hp rfl;exact⟨keep p.1 p.2 ne nf Js e n,free p.1 p.2 Js e n,ne,nf,d⟩
theorem Inv.un {t':Nat}(I:Inv X pins σ H s)(u:Un X.fs [] H H' s.heap h')(bA:gW X.prog X.w H' h'):Inv X pins σ H' {s with heap:=h',toks:=t'}:=by
 obtain⟨m,⟨o,es,ep,ho,r⟩,_⟩:=id I.loc;obtain⟨sl,hL⟩:=u.any ho I.free (by simp)
 exact I.step (g':=s.gens) (d':=s.drawn) (ch:=[]) (λ_ z=>nomatch z) (λb o _ hb _ e n=>u.keep b o e n hb (by simp)) (λb o _ hb _ e n=>u.slot b o e n hb (by simp)) (λb o _ e n=>u.free b o e n (by simp)) (λb o _ e=>u.there b o e (by simp)) u.nZ u.mz u.n9 (λm' hm=>by
  obtain⟨o',tX,Es,CO,r'⟩:=hm;rw[ho]at CO;cases CO;exact⟨_,tX,Es,hL,r'⟩) bA I.bare
theorem Inv.call {g':Array GenState}{t':Nat}{d':Drawn}{ch:List Addr}(I:Inv X pins σ H s)(u:Un (z6 X.stack) ch H H' s.heap h')(bA:gW X.prog X.w H' h')(hg:Yg g')
  (pF:∀b∈ch,(b∈X.ex\/X.s₀.heap.objs.size<=b)/\b≠X.env.locals/\(∀x c,X.env.cells.lookup x=some c->c≠b)/\∀p∈X.pn++pins,p.1≠b) :
  Inv X pins σ H' {s with heap:=h',gens:=g',drawn:=d',toks:=t'}:=by
 obtain⟨m,⟨o,es,ep,ho,r⟩,_⟩:=id I.loc;obtain⟨sl,hL⟩:=u.any ho I.free λz=>(pF _ z).2.1 rfl;exact I.step (ch:=ch) pF (λb o hL hb hc e n=>u.keep b o e n (λz=>(UW.mp (I.sO b z)).elim hL hb) hc) (λb o _ _ hc e n=>u.any e n hc) (λb o hc e n=>u.free b o e n hc) (λb o hc e=>u.there b o e hc) u.nZ u.mz u.n9 (λm' hm=>by
  obtain⟨o',tX,Es,CO,r'⟩:=hm;rw[ho]at CO;cases CO;exact⟨_,tX,Es,hL,r'⟩) bA hg
theorem Inv.turned {t':Nat}{it:Addr}(I:Inv X pins σ H s)(k:∀b o,b≠it->s.heap.get? b=some o->h'.get? b=some o)(hn:H it=none)(hL:it≠X.env.locals)
  (h1:it∈X.ex\/X.s₀.heap.objs.size<=it) (h2:∀x c,X.env.cells.lookup x=some c->c≠it) (h3:∀p∈X.pn++pins,p.1≠it):Inv X pins σ H {s with heap:=h',toks:=t'}:=by
 have Qb:∀b u,H b=some u->b≠it:=λb u e z=>by rw[z,hn]at e;cases e
 refine I.step (g':=s.gens) (d':=s.drawn) (ch:=[it]) (λb hb=>?_) (λb o _ _ hc e _=>k b o (λz=>hc (by simp[z])) e) (λb o _ _ hc e _=>⟨o.slots,k b o (λz=>hc (by simp[z])) e⟩) (λ_ _ _ _ n=>n)
  (λb o hc e=>⟨o,k b o (λz=>hc (by simp[z])) e⟩) (λ_ _ e=>e) (λ_ _ _ e=>e) (λb ps e=>⟨#[],by rw[e];simp⟩) (λm hm=>?_) (λb u e=>?_) I.bare
 ·have e:b=it:=by simpa using hb
  subst e;exact⟨h1,hL,h2,h3⟩
 ·obtain⟨o,es,ep,ho,r⟩:=hm;exact⟨o,es,ep,k _ o (WO hL) ho,r⟩
 ·refine(I.bA b u e).p0 (λc v hc q=>k c v ?_ q) (λ_ q=>q) λ_ _ q=>q;rcases hc with z|z
  ·rw[z];exact Qb b u e
  ·exact Qb c _ z
theorem Inv.tok (I:Inv X pins σ H s)(t:Nat):Inv X pins σ H {s with toks:=t}:=I.un (h':=s.heap) (t':=t) Un.refl I.bA
theorem Inv.kept {t':Nat}(I:Inv X pins σ H s)(k:∀b u,s.heap.get? b=some u->h'.get? b=some u):Inv X pins σ H {s with heap:=h',toks:=t'}:=I.un (Un.kept k) (I.bA.kept k)
theorem Inv.laid {a:Addr}{o:HO}{t':Nat}(I:Inv X pins σ H s)(k:∀b u,s.heap.get? b=some u->h'.get? b=some u)(hp:s.heap.objs.size<=a)(new:a6 X.prog X.w (upd H a o) h' a o):
  Inv X pins σ (upd H a o) {s with heap:=h',toks:=t'}:=I.un (Un.laid k hp (I.bA.fresh hp)) (I.bA.laid k hp new)
theorem Inv.write {x e:Addr}{o:HO}{t':Nat}(I:Inv X pins σ H s)(mu:LF (H x))(he:e=x\/H e=some (.own x))(k:∀b u,b≠e->s.heap.get? b=some u->h'.get? b=some u)(HU:∃u,h'.get? e=some u)
  (new:a6 X.prog X.w (upd H x o) h' x o):Inv X pins σ (upd H x o) {s with heap:=h',toks:=t'}:=I.un (Un.write mu he k HU) (I.bA.write mu he k HU new)
theorem Inv.uL {DP:List (Addr×Obj)}(I:Inv X pins σ H s)(h:∀p∈DP,s.heap.get? p.1=some p.2/\H p.1=none/\p.1≠X.env.locals/\p.1∉X.fs/\∀v,p.2.data≠.cell v):Inv X DP σ H s :=
 ⟨I.ok,I.os,I.bare,I.base,I.loc,I.cell,I.free,I.gx,λp hp=>(Vh.mp hp).elim (λz=>I.pin p (WI _ z)) (h p),I.bA,I.len⟩
theorem qF {N:List Str}(hN:N.Nodup){i j:Nat}{x:Str}(a:N[i]?=some x)(b:N[j]?=some x):i=j:=by
 obtain⟨h1,e1⟩:=U6.mp a;obtain⟨h2,e2⟩:=U6.mp b;exact(List.getElem_inj hN).mp (e1.trans e2.symm)
theorem mO {M:Model}{A:V6}{E:UQ->UT->Prop}{i:Nat}{x:Str}{v:V}{u:UQ}{Q:Unit->UT->Prop}(I:Inv X pins σ H s)(hN:X.N.Nodup)(hi:X.N[i]?=some x)(hx:Loc X.env.scope x)(r:RelV v u)
  (h:∀s',Inv X pins (σ.set i (some v)) H s'->(∃a,XU a s.heap s'.heap/\(a=X.env.locals\/X.env.cells.lookup x=some a))->Q () s') (hf:X.fn x=true\/X.env.scope.names.lookup x=some .local:=by first|exact .inl rfl|exact .inr rfl|assumption):Vy M A (storeName X.env x u) Q E s:=by
 obtain⟨m,hn,hl⟩:=id I.loc;have OP:(X.env.scope.kind==.class || (X.env.scope.kind==.module&&X.env.locals != X.env.globals))=false:=by rw[I.ok.kind];rfl
 have K0:i<σ.length:=by rw[I.len];exact(U6.mp hi).1
 have Hk:=I.Hk;have tracked:∀{a:Addr} {h':Heap},(∃o,s.heap.get? a=some o/\H a=none)->XU a s.heap h'->gW X.prog X.w H h':=λ{a h'} ha hs b ob e=>by
  obtain⟨_,_,El⟩:=ha;refine(I.bA b ob e).p0 (λc w' hc q=>(hs.2 c ?_).trans q) (λ_ q=>q) λ_ _ q=>q;rintro rfl;rcases hc with rfl|hc
  ·rw[El]at e;cases e
  ·rw[El]at hc;cases hc
 rcases hx with hk|hk
 ·refine wpAny_storeName_local hk hn (λh' GW hs=>?_) OP;obtain⟨oL,_,_,Sv,_⟩:=id hn;refine h _ ⟨I.ok,I.os,I.bare,⟨λb o e n hb hx=>?_,λb o e n hb hx=>?_,I.base.free,λb o e hx=>?_,I.base.nZ,I.base.mz,I.base.n9⟩,⟨_,GW,λj y v' e1 e2 e3=>?_⟩,λy c e=>?_,I.free,I.gx,λp hp=>?_,tracked ⟨oL,Sv,I.free⟩ hs,by simpa using I.len⟩ ⟨_,hs,.inl rfl⟩
  ·exact(hs.2 b (VT (Vz (Vn e) I.ok.above))).trans (I.base.keep b o e n hb hx)
  ·obtain⟨sl,e1⟩:=I.base.slot b o e n hb hx;exact⟨sl,(hs.2 b (VT (Vz (Vn e) I.ok.above))).trans e1⟩
  ·obtain⟨o',e1⟩:=I.base.there b o e hx;exact⟨o',(hs.2 b (VT (Vz (Vn e) I.ok.above))).trans e1⟩
  ·by_cases hj:j=i
   ·subst hj;rw[hi]at e1;cases e1;rw[List.getElem?_set_self K0]at e2;cases e2;exact⟨u,r,.inl ⟨hk,by simp⟩⟩
   ·rw[List.getElem?_set_ne (WO hj)]at e2;obtain⟨u',r',q⟩:=hl j y v' e1 e2 e3;refine⟨u',r',?_⟩;rcases q with⟨k,e⟩|⟨k,c,e,z⟩
    ·refine .inl ⟨k,?_⟩;have:y≠x:=λe=>hj (qF hN e1 (e▸hi));simp[this,e]
    ·exact .inr ⟨k,c,e,z.sameBut hs (Hk y c e)⟩
  ·obtain⟨w',z⟩:=I.cell y c e;exact⟨w',z.sameBut hs (Hk y c e)⟩
  ·obtain⟨e,n,ne,nf,d⟩:=I.pin p hp;exact⟨(hs.2 p.1 ne).trans e,n,ne,nf,d⟩
 ·have OJ:X.fn x=true:=by
   rcases hf with z|z
   ·exact z
   ·rw[z]at hk;cases hk
  obtain⟨c,hc⟩:=I.ok.has x (.inl hk);obtain⟨w',z⟩:=I.cell x c hc;refine wpAny_storeName_cell I.ok.kind hk hc z (λh' my hs=>?_);obtain⟨oc,zO,Of⟩:=id z;refine h {s with heap:=h'} ⟨I.ok,I.os,I.bare,⟨λb o e n hb hx=>?_,λb o e n hb hx=>?_,I.base.free,λb o e hx=>?_,I.base.nZ,I.base.mz,I.base.n9⟩,⟨m,hn.sameBut hs (WO (Hk x c hc)),λj y v' e1 e2 e3=>?_⟩,λy c' e=>?_,I.free,I.gx,λp hp=>?_,tracked ⟨oc,zO,I.gx x c hc⟩ hs,by simpa using I.len⟩ ⟨c,hs,.inr hc⟩
  ·exact(hs.2 b (VT (Vz (Vn e) (I.ok.Lv x c OJ hc)))).trans (I.base.keep b o e n hb hx)
  ·obtain⟨sl,e1⟩:=I.base.slot b o e n hb hx;exact⟨sl,(hs.2 b (VT (Vz (Vn e) (I.ok.Lv x c OJ hc)))).trans e1⟩
  ·obtain⟨o',e1⟩:=I.base.there b o e hx;exact⟨o',(hs.2 b (VT (Vz (Vn e) (I.ok.Lv x c OJ hc)))).trans e1⟩
  ·by_cases hj:j=i
   ·subst hj;rw[hi]at e1;cases e1;rw[List.getElem?_set_self K0]at e2;cases e2;exact⟨u,r,.inr ⟨.inl hk,c,hc,my⟩⟩
   ·rw[List.getElem?_set_ne (WO hj)]at e2;obtain⟨u',r',q⟩:=hl j y v' e1 e2 e3;refine⟨u',r',?_⟩;rcases q with q|⟨k,c',e,z'⟩
    ·exact .inl q
    ·refine .inr ⟨k,c',e,z'.sameBut hs ?_⟩;rintro rfl;exact hj (qF hN e1 (I.ok.inj _ _ _ e hc▸hi))
  ·by_cases CT:c'=c
   ·subst CT;exact⟨_,my⟩
   ·obtain⟨w2,z2⟩:=I.cell y c' e;exact⟨w2,z2.sameBut hs CT⟩
  ·obtain⟨e,n,ne,nf,d⟩:=I.pin p hp;refine⟨(hs.2 p.1 ?_).trans e,n,ne,nf,d⟩;intro q;rw[q,zO]at e;have q':oc=p.2:=VL e;exact d w' (by rw[<- q'];exact Of)
theorem pZ {M:Model}{A:V6}{E:UQ->UT->Prop}{i:Nat}{x:Str}{v:V}{u:UQ}{Q:Unit->UT->Prop}(I:Inv X pins σ H s)(hN:X.N.Nodup)(hi:X.N[i]?=some x)(hx:Loc X.env.scope x)(r:RelV v u)
  (h:∀s',Inv X pins (σ.set i (some v)) H s'->Q () s') (hf:X.fn x=true\/X.env.scope.names.lookup x=some .local:=by first|exact .inl rfl|exact .inr rfl|assumption):Vy M A (storeName X.env x u) Q E s :=
 mO I hN hi hx r (λs' I' _=>h s' I') hf
theorem Inv.Lu {s':UT}{ch:List Addr}(I:Inv X pins σ H s)(ho:s'.os=s.os)(u:Un (z6 X.stack) ch H H' s.heap s'.heap)(bA:gW X.prog X.w H' s'.heap)(hg:Yg s'.gens)
  (pF:∀b∈ch,(b∈X.ex\/X.s₀.heap.objs.size<=b)/\b≠X.env.locals/\(∀x c,X.env.cells.lookup x=some c->c≠b)/\∀p∈X.pn++pins,p.1≠b):Inv X pins σ H' s':=by
 obtain⟨h',g',d',t',o'⟩:=s';have e:o'=s.os:=ho;subst e;exact I.call (g':=g') (t':=t') (d':=d') u bA hg pF
end
abbrev XK:=UQ->Option Addr->Hp->Prop
abbrev St:=List (Option V)
abbrev VK:=V->Hp->Prop
abbrev TE:=St->Hp->VK->Prop
abbrev TT:=St->Hp->(Bool->Hp->Prop)->Prop
abbrev TA:=St->Hp->(List V->Hp->Prop)->Prop
structure Ends where
 nx:St->Hp->Prop
 rt:VK
 bk:St->Hp->Prop:=λ_ _=>False
 ct:St->Hp->Prop:=λ_ _=>False
abbrev TS:=Ends->St->Hp->Prop
def EP (X:Cx)(pins:List (Addr×Obj))(σ:St)(Q:VK)(u:UQ)(s':UT):Prop:=∃v H',Inv X pins σ H' s'/\RelV v u/\Q v H'
def TP (X:Cx)(pins:List (Addr×Obj))(σ:St)(Q:Bool->Hp->Prop)(b:Bool)(s':UT):Prop:=∃H',Inv X pins σ H' s'/\Q b H'
def AP (X:Cx)(pins:List (Addr×Obj))(σ:St)(Q:List V->Hp->Prop)(us:List UQ)(s':UT):Prop:=∃vs H',Inv X pins σ H' s'/\Vals vs us/\Q vs H'
def SP (X:Cx)(pins:List (Addr×Obj))(D:Ends)(f:Flow)(s':UT):Prop :=
 match f with
 |.next=>∃σ' H',Inv X pins σ' H' s'/\D.nx σ' H'
 |.brk=>∃σ' H',Inv X pins σ' H' s'/\D.bk σ' H'
 |.cont=>∃σ' H',Inv X pins σ' H' s'/\D.ct σ' H'
 |.ret u=>∃v σ' H',Inv X pins σ' H' s'/\RelV v u/\D.rt v H'
def PE (X:Cx)(e:Expr)(t:TE):Prop :=
 ∀(pins:List (Addr×Obj)) (s:UT) (σ:St) (H:Hp) (Q:VK),Inv X pins σ H s->t σ H Q->Vy (model X.prog X.w) X.A (eval e X.env) (EP X pins σ Q) X.xe s
def PT (X:Cx)(e:Expr)(t:TT):Prop :=
 ∀(pins:List (Addr×Obj)) (s:UT) (σ:St) (H:Hp) (Q:Bool->Hp->Prop),Inv X pins σ H s->t σ H Q->Vy (model X.prog X.w) X.A (isTrue e X.env (eval e X.env)) (TP X pins σ Q) X.xe s
def PW (X:Cx)(e:Expr)(t:TT):Prop :=
 ∀(whole:Sem UQ) (pins:List (Addr×Obj)) (s:UT) (σ:St) (H:Hp) (Q:Bool->Hp->Prop),Inv X pins σ H s->t σ H Q->Vy (model X.prog X.w) X.A (isTrue e X.env whole) (TP X pins σ Q) X.xe s
theorem PW.pt {X:Cx}{e:Expr}{t:TT}(h:PW X e t):PT X e t:=h _
def PA (X:Cx)(es:List Expr)(t:TA):Prop :=
 ∀(pos:Pos) (pins:List (Addr×Obj)) (s:UT) (σ:St) (H:Hp) (Q:List V->Hp->Prop),Inv X pins σ H s->t σ H Q->Vy (model X.prog X.w) X.A (spliced (Wq pos (U5 es X.env))) (AP X pins σ Q) X.xe s
def PS (X:Cx)(st:Stmt)(t:TS):Prop :=
 ∀(pins:List (Addr×Obj)) (s:UT) (σ:St) (H:Hp) (D:Ends),Inv X pins σ H s->t D σ H->Vy (model X.prog X.w) X.A (exec st X.env) (SP X pins D) X.xe s
def r9 (X:Cx)(st:List Stmt)(t:TS):Prop :=
 ∀(pins:List (Addr×Obj)) (s:UT) (σ:St) (H:Hp) (D:Ends),Inv X pins σ H s->t D σ H->Vy (model X.prog X.w) X.A (execs st X.env) (SP X pins D) X.xe s
theorem bj {α:Type}{t:Sem α}{Q Q':α->UT->Prop}{M:Model}{A:V6}{E:UQ->UT->Prop}{s:UT}(h:Vy M A t Q E s)(hQ:∀a s,Q a s->Q' a s):Vy M A t Q' E s:=XW h hQ λ_ _ x=>x
section
variable {X:Cx}
def Ik (i:Nat):TE:=λσ H Q=>∃v,σ[i]?=some (some v)/\Q v H
def tC (v:V):TE:=λ_ H Q=>Q v H
theorem bp {i:Nat} {x:Str} {pos:Pos} (hN:X.N[i]?=some x) (hv:j9 X.env.scope x) (hd:(x==("__debug__" : Str))=false:=by decide) (c7:(x==("__classdict__" : Str))=false:=by decide):PE X (.Name x pos) (Ik i):=by
 intro pins s σ H Q I h;obtain⟨v,e,h⟩:=h;obtain⟨m,hn,hl⟩:=I.loc;obtain⟨u,r,l⟩:=hl i x v hN e hv;have fin:EP X pins σ Q u s:=⟨v,H,I,r,h⟩;rcases l with⟨hk,hm⟩|⟨hk,c,hc,m_⟩
 ·exact wpAny_Name (wpAny_loadName_local I.ok.kind hk hn hm fin) hd
 ·rcases hk with hk|hk
  ·exact wpAny_Name (wpAny_loadName_cell I.ok.kind hk hc m_ fin) hd
  ·exact wpAny_Name (wpAny_loadName_free I.ok.kind hk hc m_ fin c7) hd
theorem aO {i j pos}:PE X (.Constant (.int i) j pos) (tC (.int i)):=λ_ _ _ H _ I h=>wpAny_Constant_int ⟨.int i,H,I.tok _,⟨_,rfl⟩,h⟩
theorem yP {b j pos}:PE X (.Constant (.bool b) j pos) (tC (.bl b)):=λ_ _ _ H _ I h=>Constant_bool ⟨.bl b,H,I,rfl,h⟩
theorem FC {j pos}:PE X (.Constant .none j pos) (tC .bC):=λ_ _ _ H _ I h=>Constant_none ⟨.bC,H,I,rfl,h⟩
def Gl (X:Cx)(x:Str):Prop:=X.env.kindOf x=some .globalImplicit
theorem CD {E:UQ->UT->Prop}{pins:List (Addr×Obj)}{s:UT}{σ:St}{H:Hp}{x:Str}{u:UQ}{pos:Pos}{Q:UQ->UT->Prop}(I:Inv X pins σ H s)(hg:Gl X x)(hm:X.mg x=some u)(h:Q u s)
  (hd:(x==("__debug__" : Str))=false:=by decide):Vy (model X.prog X.w) X.A (eval (.Name x pos) X.env) Q E s :=
 Zc I.ok.kind hg (Calls.loadGlobal_global (by rw[I.ok.glob];exact I.mod.glob.keeps I.bk) hm h) hd
theorem gN {E:UQ->UT->Prop}{pins:List (Addr×Obj)}{s:UT}{σ:St}{H:Hp}{x:Str}{u:UQ}{pos:Pos}{Q:UQ->UT->Prop}(I:Inv X pins σ H s)(hg:Gl X x)(hm:X.mg x=none)(hv:VO x=some u)(h:Q u s)
  (hn:x≠"__name__" := by decide) (hd:(x==("__debug__" : Str))=false:=by decide):Vy (model X.prog X.w) X.A (eval (.Name x pos) X.env) Q E s:=by
 obtain⟨mb,h1,h2⟩:=I.mod.blt;exact Zc I.ok.kind hg (Calls.loadGlobal_builtin (by rw[I.ok.glob];exact I.mod.glob.keeps I.bk) hm (by rw[I.ok.blt];exact h1.keeps I.bk) ((h2 x hn).trans hv) h) hd
theorem oK {x:Str} {v:V} {u:UQ} {pos:Pos} (hg:Gl X x) (hm:X.mg x=none) (hv:VO x=some u) (r:RelV v u) (hn:x≠"__name__" := by decide) (hd:(x==("__debug__" : Str))=false:=by decide):PE X (.Name x pos) (tC v) :=
 λ_ _ _ H _ I h=>gN I hg hm hv ⟨v,H,I,r,h⟩ hn hd
variable {a b:Expr}{ta tb:TE}{pos:Pos}
theorem qG (b:Expr){op:XS}(h:op≠.In)(h2:op≠.NotIn):WY op b=false:=by
 have e1:(op==CmpOp.In)=false:=by cases op <;> first|rfl|exact absurd rfl h
 have e2:(op==CmpOp.NotIn)=false:=by cases op <;> first|rfl|exact absurd rfl h2
 cases b <;> simp[WY,e1,e2]
def tB (t:TE):TT:=λσ H Q=>t σ H λx H1=>∃c,x=.bl c/\Q c H1
theorem Ft {e:Expr}{t:TE}(h:PE X e t)(he:∀whole,isTrue e X.env whole=(do let v <- whole;YE e.pos;holding [v] (truthy v)):=by intro _;rfl):PT X e (tB t):=by
 intro pins s σ H Q I hw;refine isTrue_plain (bj (h pins s σ H _ I hw) λv s1 ⟨x,H1,I1,r1,q1⟩=>?_) (he _);obtain⟨d,rfl,q⟩:=q1;cases r1;exact Wv ⟨H1,I1,q⟩
variable {tA LM:TT}{rest:List Expr}
def MI (t u:TT):TT:=λσ H Q=>t σ H λc H1=>if c=true then u σ H1 Q else Q false H1
def Rk (t u:TT):TT:=λσ H Q=>t σ H λc H1=>if c=true then Q true H1 else u σ H1 Q
def MC (t:TT):TT:=λσ H Q=>t σ H λc H1=>Q (!c) H1
theorem pw_and1 (ha:PT X a tA):PW X (.BoolOp .And [a] pos) tA:=by
 intro wh pins s σ H Q I h;refine isTrue_and (bj (ha pins s σ H Q I h) λc s1 e=>?_);cases c with
 |true=>exact isTrue_and_nil e
 |false=>exact e
theorem pw_or1 (ha:PT X a tA):PW X (.BoolOp .Or [a] pos) tA:=by
 intro wh pins s σ H Q I h;refine isTrue_or (bj (ha pins s σ H Q I h) λc s1 e=>?_);cases c with
 |false=>exact isTrue_or_nil e
 |true=>exact e
theorem pw_and (ha:PT X a tA)(hb:PW X (.BoolOp .And (b::rest) pos) LM):PW X (.BoolOp .And (a::b::rest) pos) (MI tA LM):=by
 intro wh pins s σ H Q I h;refine isTrue_and (bj (ha pins s σ H _ I h) λc s1 ⟨H1,I1,q1⟩=>?_);cases c with
 |true=>exact hb wh pins s1 σ H1 Q I1 q1
 |false=>exact⟨H1,I1,q1⟩
theorem pw_or (ha:PT X a tA)(hb:PW X (.BoolOp .Or (b::rest) pos) LM):PW X (.BoolOp .Or (a::b::rest) pos) (Rk tA LM):=by
 intro wh pins s σ H Q I h;refine isTrue_or (bj (ha pins s σ H _ I h) λc s1 ⟨H1,I1,q1⟩=>?_);cases c with
 |true=>exact⟨H1,I1,q1⟩
 |false=>exact hb wh pins s1 σ H1 Q I1 q1
theorem Fu (ha:PT X a tA):PT X (.UnaryOp .Not a pos) (MC tA):=by
 intro pins s σ H Q I h;exact isTrue_not (ha pins s σ H (λc H1=>Q (!c) H1) I h)
def Iz (ta tb:TE):TE:=λσ H Q=>ta σ H λx H1=>∃c,x=.bl c/\if c=true then tb σ H1 Q else Q (.bl false) H1
def MB (ta tb:TE):TE:=λσ H Q=>ta σ H λx H1=>∃c,x=.bl c/\if c=true then Q (.bl true) H1 else tb σ H1 Q
def Iq (ta:TE):TE:=λσ H Q=>ta σ H λx H1=>∃c,x=.bl c/\Q (.bl (!c)) H1
theorem Fz {op}{t:TE}(h:PE X a t):PE X (.BoolOp op [a] pos) t:=λpins s σ H Q I hw=>BoolOp_one (h pins s σ H Q I hw)
theorem FE (ha:PE X a ta)(hb:PE X (.BoolOp .And (b::rest) pos) tb):PE X (.BoolOp .And (a::b::rest) pos) (Iz ta tb):=by
 intro pins s σ H Q I h;refine BoolOp_and (bj (ha pins s σ H _ I h) λv s1 ⟨x,H1,I1,r1,q1⟩=>?_);obtain⟨c,rfl,q1⟩:=q1;cases r1;refine Wv ?_;cases c with
 |true=>exact hb pins s1 σ H1 Q I1 q1
 |false=>exact⟨.bl false,H1,I1,rfl,q1⟩
theorem Je (ha:PE X a ta)(hb:PE X (.BoolOp .Or (b::rest) pos) tb):PE X (.BoolOp .Or (a::b::rest) pos) (MB ta tb):=by
 intro pins s σ H Q I h;refine BoolOp_or (bj (ha pins s σ H _ I h) λv s1 ⟨x,H1,I1,r1,q1⟩=>?_);obtain⟨c,rfl,q1⟩:=q1;cases r1;refine Wv ?_;cases c with
 |false=>exact hb pins s1 σ H1 Q I1 q1
 |true=>exact⟨.bl true,H1,I1,rfl,q1⟩
theorem FA (ha:PE X a ta):PE X (.UnaryOp .Not a pos) (Iq ta):=by
 intro pins s σ H Q I h;refine UnaryOp_ (bj (ha pins s σ H _ I h) λv s1 ⟨x,H1,I1,r1,q1⟩=>?_);obtain⟨c,rfl,q1⟩:=q1;cases r1;exact not_of (Wv ⟨.bl (!c),H1,I1,rfl,q1⟩)
end
def b3 (K:PySem.W.Frag)(H:Hp)(a:Addr)(xs:List V):Prop :=
 Rd H a (.lst xs) \/
  ∃(o:Obj) (its:Array UQ) (n:Nat),K.lookup a=some o/\o.cls=.type "list" /\ o.dict=none/\o.data=.seq its n/\its.size<=U8/\Vals xs its.toList
def rZ (K:PySem.W.Frag)(H:Hp)(a:Addr)(xs:List V):Prop :=
 Rd H a (.tup xs) \/
  ∃(o:Obj) (its:Array UQ) (n:Nat),K.lookup a=some o/\o.cls=.type "tuple" /\ o.data=.seq its n/\its.size<=U8/\Vals xs its.toList
noncomputable def Pm:UQ->Option V
 |.none=>some .bC
 |.bool b=>some (.bl b)
 |.int i _=>some (.int i)
 |.str x _=>some (.str x)
 |.bytes b _=>some (.Du b)
 |.float b _=>some (.G9 b)
 |.ref a=>some (.ref a)
 |.type n=>some (.ty n)
 |_=>none
theorem RelV.abs {x:V}{u:UQ}(r:RelV x u):Pm u=some x:=by
 cases x with
 |bC=>cases r;rfl
 |bl _=>cases r;rfl
 |int _=>obtain⟨t,rfl⟩:=r;rfl
 |str _=>obtain⟨t,rfl⟩:=r;rfl
 |Du _=>obtain⟨t,rfl⟩:=r;rfl
 |G9 _=>obtain⟨t,rfl⟩:=r;rfl
 |ref _=>cases r;rfl
 |ty _=>cases r;rfl
theorem RelV.inj {x y:V}{u:UQ}(r:RelV x u)(q:RelV y u):x=y:=VL (r.abs.symm.trans q.abs)
theorem Vals.inj:∀{xs ys:List V} {us:List UQ},Vals xs us->Vals ys us->xs=ys
 |_,_,_,.nil,.nil=>rfl
 |_,_,_,.cons r t,.cons r' t'=>by rw[r.inj r',Vals.inj t t']
section
variable {X:Cx}{pins:List (Addr×Obj)}{σ:St}{H:Hp}{s:UT}{a:Addr}{xs ys:List V}
theorem b3.of {K:PySem.W.Frag}(h:H a=some (.lst xs)):b3 K H a xs:=.inl (.inl h)
theorem rZ.of {K:PySem.W.Frag}(h:H a=some (.tup xs)):rZ K H a xs:=.inl (.inl h)
theorem Inv.list (I:Inv X pins σ H s)(h:b3 X.K H a xs):∃its:List UQ,Vals xs its/\PlainL s.heap a its.toArray/\xs.length<=U8:=by
 rcases h with h|⟨o,its,n,hk,hc,hd,hs,hz,r⟩
 ·obtain⟨z,its,n,r,e⟩:=h.ok I.bA;exact⟨its,r,⟨_,n,e,rfl,rfl,rfl⟩,z⟩
 ·refine⟨its.toList,r,⟨o,n,I.ja a o hk,hc,hd,by simpa using hs⟩,?_⟩
  have e:=r.length;simp only[Vs]at e;lia
theorem Inv.tuple (I:Inv X pins σ H s)(h:rZ X.K H a xs):∃its:List UQ,Vals xs its/\IsTup s.heap a its.toArray/\xs.length<=U8:=by
 rcases h with h|⟨o,its,n,hk,hc,hs,hz,r⟩
 ·obtain⟨z,its,r,p⟩:=h.ok I.bA;exact⟨its,r,p,z⟩
 ·refine⟨its.toList,r,⟨o,I.ja a o hk,hc,n,by simpa using hs⟩,?_⟩
  have e:=r.length;simp only[Vs]at e;lia
theorem Inv.zk (I:Inv X pins σ H s)(h:b3 X.K H a xs)(h':b3 X.K H a ys):xs=ys:=by
 obtain⟨its,r,⟨o,n,e,_,_,d⟩,_⟩:=I.list h;obtain⟨its',r',⟨o',n',e',_,_,d'⟩,_⟩:=I.list h';rw[e]at e';cases e';rw[d]at d';injection d' with d1 _
 have:its=its':=by simpa using congrArg Array.toList d1
 subst this;exact r.inj r'
end
noncomputable abbrev Cx.l8 (X:Cx)(E:UQ->UT->Prop):Cx:={X with xe:=E}
abbrev Cx.DV (X:Cx):Cx:=X.l8 λ_ _=>False
theorem Cx.Ok.l8 {X:Cx}(ok:X.Ok)(E:UQ->UT->Prop):(X.l8 E).Ok :=
 ⟨ok.mod,ok.kind,ok.glob,ok.blt,ok.above,ok.inj,ok.has,ok.Lv,ok.hd,ok.frames,ok.LN,ok.Mc,ok.bs,ok.EB,ok.ze,ok.Aa,ok.lF,ok.HX⟩
theorem Cx.Ok.fy {X:Cx}{E:UQ->UT->Prop}(ok:(X.l8 E).Ok):X.Ok :=
 ⟨ok.mod,ok.kind,ok.glob,ok.blt,ok.above,ok.inj,ok.has,ok.Lv,ok.hd,ok.frames,ok.LN,ok.Mc,ok.bs,ok.EB,ok.ze,ok.Aa,ok.lF,ok.HX⟩
section
variable {X:Cx}{pins:List (Addr×Obj)}{σ:St}{H:Hp}{s:UT}{E:UQ->UT->Prop}
theorem Inv.l8 (I:Inv X pins σ H s)(E:UQ->UT->Prop):Inv (X.l8 E) pins σ H s:=⟨I.ok.l8 E,I.os,I.bare,I.base,I.loc,I.cell,I.free,I.gx,I.pin,I.bA,I.len⟩
theorem Inv.fy (I:Inv (X.l8 E) pins σ H s):Inv X pins σ H s:=⟨I.ok.fy,I.os,I.bare,I.base,I.loc,I.cell,I.free,I.gx,I.pin,I.bA,I.len⟩
theorem SP.fy {D:Ends}{f:Flow}{s':UT}(h:SP (X.l8 E) pins D f s'):SP X pins D f s':=by
 cases f with
 |next=>obtain⟨σ',H',I,q⟩:=h;exact⟨σ',H',I.fy,q⟩
 |brk=>obtain⟨σ',H',I,q⟩:=h;exact⟨σ',H',I.fy,q⟩
 |cont=>obtain⟨σ',H',I,q⟩:=h;exact⟨σ',H',I.fy,q⟩
 |ret u=>obtain⟨v,σ',H',I,r,q⟩:=h;exact⟨v,σ',H',I.fy,r,q⟩
theorem r9.DV {st:List Stmt}{t:TS}(h:r9 X.DV st t):r9 X st t:=λpins s σ H D I hw =>
 XW (h pins s σ H D (I.l8 _) hw) (λ_ _ q=>q.fy) λ_ _ z=>Xa z
end
section
variable {X:Cx}{st:Stmt}{rest:List Stmt}{t u:TS}{e:Expr}{te:TE}{pos:Pos}
def Ir:TS:=λD σ H=>D.nx σ H
def Mz (t u:TS):TS:=λD σ H=>t {D with nx:=u D} σ H
theorem jZ:r9 X [] Ir:=λ_ _ σ H _ I h=>Yh ⟨σ,H,I,h⟩
theorem bN (h1:PS X st t)(h2:r9 X rest u):r9 X (st::rest) (Mz t u):=by
 intro pins s σ H D I h;refine wpAny_execs_cons (bj (h1 pins s σ H {D with nx:=u D} I h) λf s1 q=>?_)
 cases f with
 |next =>
  obtain⟨σ',H',I',q⟩:=q;exact h2 pins s1 σ' H' D I' q
 |ret v=>exact q
 |brk=>exact q
 |cont=>exact q
theorem cF (h1:PS X st t):r9 X [st] t:=by
 intro pins s σ H D I h;refine wpAny_execs_cons (bj (h1 pins s σ H D I h) λf s1 q=>?_);cases f with
 |next=>exact Yh q
 |ret v=>exact q
 |brk=>exact q
 |cont=>exact q
theorem Inv.quiet {pins:List (Addr×Obj)}{σ:St}{H:Hp}{s:UT}(I:Inv X pins σ H s):interactive X.env=false:=by simp[interactive,I.ok.kind]
def Iu (te:TE):TS:=λD σ H=>te σ H λ_ H1=>D.nx σ H1
theorem dZ (he:PE X e te)(hs:Wg e none pos.line X.env=pure false:=by rfl):PS X (.Expr e pos) (Iu te):=by
 intro pins s σ H D I h;exact wpAny_Expr_any (bj (he pins s σ H _ I h) λv s1 zM=>by obtain⟨x,H1,I1,r1,q1⟩:=zM;exact⟨σ,H1,I1,q1⟩) I.quiet hs
def MA (te:TE):TS:=λD σ H=>te σ H D.rt
theorem eY (he:PE X e te):PS X (.Return (some e) pos) (MA te):=by
 intro pins s σ H D I h;exact wpAny_Return_some (bj (he pins s σ H _ I h) λv s1 zL=>by obtain⟨x,H1,I1,r1,q1⟩:=zL;exact⟨x,σ,H1,I1,r1,q1⟩)
def ME (c:TT)(t u:TS):TS:=λD σ H=>c σ H λb H1=>if b=true then t D σ H1 else u D σ H1
theorem uG {c:Expr}{a b:List Stmt}{tc:TT}(hc:PT X c tc)(ha:r9 X a t)(hb:r9 X b u):PS X (.If c a b pos) (ME tc t u):=by
 intro pins s σ H D I h;refine wpAny_If (bj (hc pins s σ H _ I h) λd s1 ⟨H1,I1,q1⟩=>?_);cases d with
 |true=>exact ha pins s1 σ H1 D I1 q1
 |false=>exact hb pins s1 σ H1 D I1 q1
end
abbrev TG:=V->St->Hp->(St->Hp->Prop)->Prop
abbrev ED:=List V->St->Hp->(St->Hp->Prop)->Prop
def PG (X:Cx)(target:Expr)(t:TG):Prop :=
 ∀(pins:List (Addr×Obj)) (s:UT) (σ:St) (H:Hp) (v:V) (u:UQ) (Q:St->Hp->Prop),Inv X pins σ H s->RelV v u->t v σ H Q ->
  Vy (model X.prog X.w) X.A (assign target X.env u) (λ_ s'=>∃σ' H',Inv X pins σ' H' s'/\Q σ' H') X.xe s
def EG (X:Cx)(ts:List Expr)(t:ED):Prop :=
 ∀(pins:List (Addr×Obj)) (s:UT) (σ:St) (H:Hp) (vs:List V) (us:List UQ) (Q:St->Hp->Prop),Inv X pins σ H s->Vals vs us->t vs σ H Q ->
  Vy (model X.prog X.w) X.A (assignInOrder ((WN ts X.env).map (·.2)) us) (λ_ s'=>∃σ' H',Inv X pins σ' H' s'/\Q σ' H') X.xe s
abbrev AQ:=V->V->V->Hp->(Hp->Prop)->Prop
def Hw (X:Cx)(t:AQ):Prop :=
 ∀(pins:List (Addr×Obj)) (s:UT) (σ:St) (H:Hp) (o i v:V) (ov iv u:UQ) (Q:Hp->Prop),Inv X pins σ H s->RelV o ov->RelV i iv->RelV v u->t o i v H Q ->
  Vy (model X.prog X.w) X.A (setItem ov iv u) (λ_ s'=>∃H',Inv X pins σ H' s'/\Q H') X.xe s
abbrev Mj:=V->V->Hp->VK->Prop
def QV (X:Cx)(op:Operator)(t:Mj):Prop :=
 ∀(pins:List (Addr×Obj)) (s:UT) (σ:St) (H:Hp) (x y:V) (v u:UQ) (Q:VK),Inv X pins σ H s->RelV x v->RelV y u->t x y H Q ->
  Vy (model X.prog X.w) X.A (inplaceOp op v u) (EP X pins σ Q) X.xe s
section
variable {X:Cx}{pos:Pos}
def En (i:Nat):TG:=λv σ H Q=>Q (σ.set i (some v)) H
theorem oI {i:Nat}{x:Str}(hN:X.N.Nodup)(hi:X.N[i]?=some x)(hx:Loc X.env.scope x)(hf:X.fn x=true\/X.env.scope.names.lookup x=some .local:=by first|exact .inl rfl|exact .inr rfl|assumption):PG X (.Name x pos) (En i):=by
 intro pins s σ H v u Q I r h;exact wpAny_assign_Name (pZ I hN hi hx r (λs' I'=>⟨_,H,I',h⟩) hf)
def G6:ED:=λvs σ H Q=>vs=[]/\Q σ H
def zZ (t:TG)(u:ED):ED:=λvs σ H Q=>∃v r,vs=v::r/\t v σ H λσ' H'=>u r σ' H' Q
theorem B0:EG X [] G6:=by
 intro pins s σ H vs us Q I r h;obtain⟨e,h⟩:=h;subst e;cases r;exact assignInOrder_nil ⟨σ,H,I,h⟩
theorem yM {e:Expr}{es:List Expr}{t:TG}{u:ED}(h1:PG X e t)(h2:EG X es u)
  (hs:(WN (e::es) X.env).map (·.2)=assign e X.env::(WN es X.env).map (·.2):=by rfl):EG X (e::es) (zZ t u):=by
 intro pins s σ H vs us Q I r h;obtain⟨v,vr,e1,h⟩:=h;subst e1;cases r with
 |cons r rr =>
  rw[hs];refine assignInOrder_cons (bj (h1 pins s σ H _ _ _ I r h) λ_ s1 ⟨σ1,H1,I1,q1⟩=>?_);exact h2 pins s1 σ1 H1 _ _ Q I1 rr q1
def OZ (K:PySem.W.Frag)(n:Nat)(t:ED):TG:=λv σ H Q=>∃a xs,v=.ref a/\rZ K H a xs/\xs.length=n/\t xs σ H Q
theorem Fy {es:List Expr}{k:Nat}{t:ED}{n:Nat}(hc:X.calm=true)(h:EG X es t)
  (hn:(WN es X.env).length=n:=by rfl) (zK:(WN es X.env).findIdx? (·.1)=none:=by rfl):PG X (.Tuple es k pos) (OZ X.K n t):=by
 intro pins s σ H v u Q I r hw;obtain⟨a,xs,e1,hq,hl,hw⟩:=hw;subst e1;cases r;obtain⟨its,rv,ht,hz⟩:=I.tuple hq;refine assign_Tuple_tuple (I.ok.hd hc) ht (by simp[hn,<- hl,rv.length]) zK λh' hx=>?_
 have I1:Inv X pins σ H {s with heap:=h'}:=I.kept (t':=s.toks) λb o e=>hx b o (VT (Vn e)) e
 exact h pins _ σ H xs _ Q I1 (by simpa using rv) hw
def O0 (to ti:TE)(t:AQ):TG:=λv σ H Q=>to σ H λo H1=>ti σ H1 λi H2=>t o i v H2 λH3=>Q σ H3
theorem s_ {o i:Expr}{to ti:TE}{t:AQ}(ho:PE X o to)(hi:PE X i ti)(hs:Hw X t)
  (ha:∀v,assign (.Subscript o i pos) X.env v=(do
   let ov <- holding [v] (eval o X.env)
   let iv <- holding [v,ov] (eval i X.env)
   YE pos
   holding [v,ov,iv] (setItem ov iv v)
   release [v,ov,iv] []):=by intro _;rfl):PG X (.Subscript o i pos) (O0 to ti t):=by
 intro pins s σ H v u Q I r h;rw[ha];refine UU (Xh (bj (ho pins s σ H _ I h) λov s1 ⟨x,H1,I1,r1,q1⟩=>?_));refine UU (Xh (bj (hi pins s1 σ H1 _ I1 q1) λiv s2 ⟨y,H2,I2,r2,q2⟩=>?_));refine UU (Xg (UU (Xh (bj (hs pins s2 σ H2 x y v ov iv u _ I2 r1 r2 r q2) λ_ s3 ⟨H3,I3,q3⟩=>?_))));exact wpAny_release ⟨σ,H3,I3,q3⟩
def Iy (te:TE)(g:TG):TS:=λD σ H=>te σ H λx H1=>g x σ H1 D.nx
theorem oF {tg e:Expr}{te:TE}{g:TG}(he:PE X e te)(hg:PG X tg g)(hs:swapsWithSole [tg] e pos.line X.env=pure false:=by rfl)(hw:swappedStores [tg] e X.env=pure none:=by rfl)
  (h1:(WN [tg] X.env).map (·.2)=[assign tg X.env]:=by rfl):PS X (.Assign [tg] e pos) (Iy te g):=by
 intro pins s σ H D I h;refine wpAny_Assign_stores (bj (he pins s σ H _ I h) λv s1 ⟨x,H1,I1,r1,q1⟩=>?_) hs hw;rw[h1];exact bj (hg pins s1 σ H1 x v _ I1 r1 q1) λ_ s2 q=>q
theorem gH {i:Nat}{x:Str}{e:Expr}{te:TE}{pos':Pos}(hN:X.N.Nodup)(hi:X.N[i]?=some x)(hx:Loc X.env.scope x)(he:PE X e te)(hs:Wg e (some (.Name x pos')) pos.line X.env=pure false:=by rfl)(hf:X.fn x=true\/X.env.scope.names.lookup x=some .local:=by first|exact .inl rfl|exact .inr rfl|assumption):
  PS X (.Assign [.Name x pos'] e pos) (Iy te (En i)):=by
 intro pins s σ H D I h;refine wpAny_Assign_Name (bj (he pins s σ H _ I h) λv s1 ⟨y,H1,I1,r1,q1⟩=>?_) hs;exact pZ I1 hN hi hx r1 (λs2 I2=>⟨_,H1,I2,q1⟩) hf
def Iw (to ti te:TE)(Bt:V->V->Hp->VK->Prop)(LL:Mj)(Bo:AQ):TS:=λD σ H=>to σ H λo H1=>ti σ H1 λi H2=>Bt o i H2 λx H3=>te σ H3 λy H4=>LL x y H4 λz H5=>Bo o i z H5 λH6=>D.nx σ H6
def LC (X:Cx)(t:V->V->Hp->VK->Prop):Prop :=
 ∀(pins:List (Addr×Obj)) (s:UT) (σ:St) (H:Hp) (o i:V) (ov iv:UQ) (Q:VK),Inv X pins σ H s->RelV o ov->RelV i iv->t o i H Q ->
  Vy (model X.prog X.w) X.A (Y5 ov iv) (EP X pins σ Q) X.xe s
theorem BU {o i e:Expr}{to ti te:TE}{Bt:V->V->Hp->VK->Prop}{LL:Mj}{Bo:AQ}{op:Operator}{EZ:Pos}(ho:PE X o to)(hi:PE X i ti)(hg:LC X Bt)(he:PE X e te)(hp:QV X op LL)(hs:Hw X Bo)
  (ha:∀ov iv new,augStore i ov iv new=(do holding [new,ov,iv] (setItem ov iv new);release [new,ov,iv] [];pure .next):=by intros;rfl):PS X (.AugAssign (.Subscript o i EZ) op e pos) (Iw to ti te Bt LL Bo):=by
 intro pins s σ H D I h;refine wpAny_AugAssign_SubscriptAny (bj (ho pins s σ H _ I h) λov s1 ⟨x1,H1,I1,r1,q1⟩=>?_) ha;refine bj (hi pins s1 σ H1 _ I1 q1) λiv s2 ⟨x2,H2,I2,r2,q2⟩=>?_;refine bj (hg pins s2 σ H2 x1 x2 ov iv _ I2 r1 r2 q2) λold s3 ⟨x3,H3,I3,r3,q3⟩=>?_;refine bj (he pins s3 σ H3 _ I3 q3) λv s4 ⟨x4,H4,I4,r4,q4⟩=>?_;refine bj (hp pins s4 σ H4 x3 x4 old v _ I4 r3 r4 q4) λnew s5 ⟨x5,H5,I5,r5,q5⟩=>?_;exact bj (hs pins s5 σ H5 x1 x2 x5 ov iv new _ I5 r1 r2 r5 q5) λ_ s6 ⟨H6,I6,q6⟩=>⟨σ,H6,I6,q6⟩
def Sd (f:Int->Int->Int):Mj:=λx y H Q=>∃i j,x=.int i/\y=.int j/\Q (.int (f i j)) H
theorem Gp:QV X .Add (Sd λi j=>i+j):=by
 intro pins s σ H x y v u Q I r1 r2 h;obtain⟨i,j,e1,e2,q⟩:=h;subst e1;subst e2;obtain⟨t,rfl⟩:=r1;obtain⟨t',rfl⟩:=r2;exact iadd_int ⟨.int _,H,I.tok _,⟨_,rfl⟩,q⟩
end
section
variable {X:Cx}{pos:Pos}
def E2 (c:TT)(tb:TS):TS:=λD σ H=>∃W:Nat->St->Hp->Prop,(∃m,W m σ H)/\∀m σ H,W m σ H ->
 c σ H λb H1=>if b=true then ∃N:St->Hp->Prop,(∀σ' H',N σ' H'->∃m',m'<m/\W m' σ' H')/\tb {D with nx:=N,ct:=N,bk:=D.nx} σ H1 else D.nx σ H1
theorem yA {c:Expr}{body:List Stmt}{tc:TT}{tb:TS}(hp:PassesOwn (model X.prog X.w) X.A X.env X.xe)(hc:PT X c tc)(hb:r9 X body tb):PS X (.While c body [] pos) (E2 tc tb):=by
 intro pins s σ H D I h;obtain⟨W,⟨m0,w0⟩,turn⟩:=h;refine wpAny_While (codeAny_whileLoop (λn s'=>∃σ' H',Inv X pins σ' H' s'/\W n σ' H') ?_ m0 ⟨σ,H,I,w0⟩);rintro n s1 ⟨σ1,H1,I1,w1⟩;refine WX hp (bj (hc pins s1 σ1 H1 _ I1 (turn n σ1 H1 w1)) λb s2 ⟨H2,I2,q2⟩=>?_);cases b with
 |true =>
  obtain⟨N,hN,q2⟩:=q2;rw[if_pos rfl];refine WX hp (bj (hb pins s2 σ1 H2 _ I2 q2) λf s3 q3=>?_);cases f with
  |next =>
   obtain⟨σ3,H3,I3,n3⟩:=q3;obtain⟨m',hm,w3⟩:=hN σ3 H3 n3;exact⟨m',hm,σ3,H3,I3,w3⟩
  |cont =>
   obtain⟨σ3,H3,I3,n3⟩:=q3;obtain⟨m',hm,w3⟩:=hN σ3 H3 n3;exact⟨m',hm,σ3,H3,I3,w3⟩
  |brk=>exact q3
  |ret v=>exact q3
 |false =>
  rw[if_neg VE];exact Yh ⟨σ1,H2,I2,q2⟩
end
structure It where
 go:Nat->Hp->Prop
 Ic:Nat->Hp->V->Hp->Prop
 stop:Nat->Hp->Prop
def fU (X:Cx)(pins:List (Addr×Obj))(H:Hp)(b:Addr):Prop :=
 H b=none/\b≠X.env.locals/\b∉X.fs/\(b∈X.ex\/X.s₀.heap.objs.size<=b)/\(∀x c,X.env.cells.lookup x=some c->c≠b)/\∀p∈X.pn++pins,p.1≠b
theorem Inv.z7 {X:Cx}{pins:List (Addr×Obj)}{σ:St}{H H':Hp}{s:UT}{b:Addr}(I:Inv X pins σ H s)(hb:s.heap.objs.size<=b)(hn:H' b=none):fU X pins H' b:=by
 refine⟨hn,Nat.ne_of_gt (Vz I.lt hb),I.Nh hb,.inr (VB I.sz hb),λx c e z=>?_,λp hp z=>?_⟩
 ·obtain⟨v,q⟩:=I.cell x c e;exact absurd (Vz q.lt (by rw[z];exact hb)) (XF _)
 ·exact absurd (Vz (Vn (I.pin p hp).1) (by rw[z];exact hb)) (XF _)
structure Turn (P:UY)(w:Vc)(K:PySem.W.Frag)(tg:Expr)(J:It)(fp:List Addr)(it:Addr)(tn:Nat->Heap->Prop):Prop where
 mem:it∈fp
 obj:∀i h,tn i h->∀b∈fp,∃o,h.get? b=some o/\∀v,o.data≠.cell v
 keep:∀i h h',tn i h->(∀b∈fp,∀o,h.get? b=some o->h'.get? b=some o)->tn i h'
 item:∀(X:Cx),X.prog=P->X.w=w->X.K=K->X.calm=true->∀(i:Nat) (pins:List (Addr×Obj)) (s:UT) (σ:St) (H:Hp) (E:UQ->UT->Prop),Inv X pins σ H s->(∀b∈fp,fU X pins H b)->tn i s.heap->J.go i H ->
  Vy (model P w) X.A (Y6 (.ref it)) (λr s1=>∃u,r=some u /\
   Vy (model P w) X.A (Yi tg (.ref it) u) (λ_ s2=>∃x H',Inv X pins σ H' s2/\RelV x u/\J.Ic i H x H'/\tn (i+1) s2.heap/\∀b∈fp,H' b=none) E s1) E s
 done:∀(X:Cx),X.prog=P->X.w=w->X.K=K->X.calm=true->∀(i:Nat) (pins:List (Addr×Obj)) (s:UT) (σ:St) (H:Hp) (E:UQ->UT->Prop),Inv X pins σ H s->(∀b∈fp,fU X pins H b)->tn i s.heap->J.stop i H ->
  Vy (model P w) X.A (Y6 (.ref it)) (λr s1=>r=none/\Inv X pins σ H s1) E s
 self:∀(A:V6) (i:Nat) (s:UT) (Q:UQ->UT->Prop) (E:UQ->UT->Prop),tn i s.heap->Q (.ref it) s->Vy (model P w) A (Y7 (.ref it)) Q E s
abbrev TI:=St->Hp->(It->Hp->Prop)->Prop
def Mm (X:Cx)(pins:List (Addr×Obj))(σ:St)(tg:Expr)(R:It->Hp->Prop)(Ee:UQ)(s2:UT):Prop :=
 ∃(it:Addr) (fp:List Addr) (tn:Nat->Heap->Prop) (J:It) (H':Hp),Ee=.ref it/\Inv X pins σ H' s2/\Turn X.prog X.w X.K tg J fp it tn/\tn 0 s2.heap/\(∀b∈fp,fU X pins H' b)/\R J H'
def PI (X:Cx)(tg iter:Expr)(wi:TI):Prop :=
 ∀(pins:List (Addr×Obj)) (s:UT) (σ:St) (H:Hp) (R:It->Hp->Prop),Inv X pins σ H s->wi σ H R ->
  Vy (model X.prog X.w) X.A (eval iter X.env) (λv s1=>Vy (model X.prog X.w) X.A (Y7 v) (Mm X pins σ tg R) X.xe s1) X.xe s
theorem zX {M:Model}{A:V6}{E:UQ->UT->Prop}{s:UT}{tg:Expr}{it:Addr}{u:UQ}{o:Obj}{n:String}{vs:Array UQ}{Q:Unit->UT->Prop}(ho:s.heap.get? it=some o)(hc:o.cls=.type n)(hd:o.data=.fields vs)
  (hn:["enumerate","zip","dict_itemiterator","dict_reverseitemiterator","odict_iterator","itertools.zip_longest","itertools.pairwise"].contains n=false) (hQ:Q () s):Vy M A (Yi tg (.ref it) u) Q E s:=by
 unfold Yi;cases tg <;> first
  |exact Vl hQ
  | (cases u <;> first
    |exact Vl hQ
    | (refine UU (wpAny_load ho ?_)
       rw[hc,hd];show Vy M A (if (["enumerate","zip","dict_itemiterator","dict_reverseitemiterator","odict_iterator","itertools.zip_longest","itertools.pairwise"].contains n&&vs[0]?==some (rawInt _))=true then _ else _) Q E s
       rw[if_neg (by intro h;rw[hn,Bool.false_and]at h;cases h)]
       exact Vl hQ))
def Mp (K:PySem.W.Frag)(a:Addr):It :=
 ⟨λi H=>∃xs x,b3 K H a xs/\xs[i]?=some x,λi H x H'=>H'=H/\∀xs,b3 K H a xs->xs[i]?=some x,λi H=>∃xs,b3 K H a xs/\xs.length<=i⟩
def LH (lo:Int)(n:Nat):It:=⟨λi _=>i<n,λi H x H'=>H'=H/\x=.int (lo+i),λi _=>n<=i⟩
theorem vF {P:UY}{w:Vc}{K:PySem.W.Frag}{tg:Expr}(a it:Addr):Turn P w K tg (Mp K a) [it] it (λi h=>h.IsListIter it a i) where
 mem:=by simp
 obj:=λi h st b hb=>by
  have e:b=it:=by simpa using hb
  subst e;obtain⟨o,e,c,d⟩:=st;exact⟨o,e,λv z=>by rw[d]at z;cases z⟩
 keep:=λi h h' st k=>st.at λo e=>k it (by simp) o e
 item:=by
  intro X hP hw hK hc i pins s σ H E I hf st hg;subst hP hw hK;obtain⟨xs,x,hq,hx⟩:=hg;obtain⟨its,rv,p,hz⟩:=I.list hq;obtain⟨u,hu,ru⟩:=rv.get hx;obtain⟨f0,f1,f2,f3,f4,f5⟩:=hf it (by simp)
  refine wpAny_pyNext_list_item st p.isList (x:=u) (by simpa using hu) λh' aA sb=>?_
  have I1:Inv X pins σ H {s with heap:=h'}:=I.turned (t':=s.toks) (λb o hb e=>(sb.2 b hb).trans e) f0 f1 f3 f4 f5
  obtain⟨o,e,c,d⟩:=id aA;exact⟨u,rfl,zX (s:={s with heap:=h'}) e c d (by decide) ⟨x,H,I1,ru,⟨rfl,λys hy=>by rw[I.zk hy hq];exact hx⟩,aA,λb hb=>(hf b hb).1⟩⟩
 done:=by
  intro X hP hw hK hc i pins s σ H E I hf st hg;subst hP hw hK;obtain⟨xs,hq,hx⟩:=hg;obtain⟨its,rv,p,hz⟩:=I.list hq;obtain⟨f0,f1,f2,f3,f4,f5⟩:=hf it (by simp)
  have hl:=rv.length;exact wpAny_pyNext_list_end (I.ok.hd hc) st p.isList (by simp;lia) λh' eb=>⟨rfl,I.turned (t':=s.toks) (λb o hb e=>eb b o hb e) f0 f1 f3 f4 f5⟩
 self:=λ_ _ _ _ _ st h=>wpAny_pyIter_listiter st h
theorem sM {P:UY}{w:Vc}{K:PySem.W.Frag}{tg:Expr}(it:Addr)(lo:Int)(n:Nat):Turn P w K tg (LH lo n) [it] it (λi h=>YU h it (lo+(i:Nat)*1) ((n:Int)-(i:Nat)) 1) where
 mem:=by simp
 obj:=λi h st b hb=>by
  have e:b=it:=by simpa using hb
  subst e;exact⟨_,st,λv z=>by
   have z':Data.fields _=Data.cell v:=z;cases z'⟩
 keep:=λi h h' st k=>k it (by simp) _ st
 item:=by
  intro X hP hw hK hc i pins s σ H E I hf st hg;subst hP hw hK;obtain⟨f0,f1,f2,f3,f4,f5⟩:=hf it (by simp)
  have W:=Walks.range (prog:=X.prog) (w:=X.w) (I.ok.hd hc) it lo 1 n;refine W.item i s _ _ hg st λv h' tk hv aA kk=>?_;obtain⟨t,rfl⟩:=hv;have I1:Inv X pins σ H {s with heap:=h',toks:=tk}:=I.turned (λb o hb e=>kk b o (by simpa using hb) e) f0 f1 f3 f4 f5
  refine⟨_,rfl,zX (s:={s with heap:=h',toks:=tk}) (n:="range_iterator") aA rfl rfl (by decide) ⟨.int (lo+i),H,I1,⟨t,?_⟩,⟨rfl,rfl⟩,aA,λb hb=>(hf b hb).1⟩⟩
  rw[Int.mul_one]
 done:=by
  intro X hP hw hK hc i pins s σ H E I hf st hg;subst hP hw hK;obtain⟨f0,f1,f2,f3,f4,f5⟩:=hf it (by simp)
  exact wpAny_pyNext_range_end (I.ok.hd hc) st (by have:n<=i:=hg;lia) λh' eb=>⟨rfl,I.turned (t':=s.toks) (λb o hb e=>eb b o hb e) f0 f1 f3 f4 f5⟩
 self:=λ_ _ _ _ _ st h=>wpAny_pyIter_rangeiter st h
section
variable {X:Cx}{tg:Expr}
def JO (K:PySem.W.Frag)(tl:TE):TI:=λσ H R=>tl σ H λx H1=>∃a,x=.ref a/\(∃xs,b3 K H1 a xs)/\R (Mp K a) H1
theorem uN {l:Expr}{tl:TE}(hl:PE X l tl):PI X tg l (JO X.K tl):=by
 intro pins s σ H R I h;refine bj (hl pins s σ H _ I h) λv s1 ⟨x,H1,I1,r1,q1⟩=>?_;obtain⟨a,e,⟨xs,hq⟩,q⟩:=q1;subst e;cases r1;obtain⟨its,rv,p,hz⟩:=I1.list hq;refine wpAny_pyIter_list p.isList ?_;refine⟨s1.heap.objs.size,[s1.heap.objs.size],_,_,H1,rfl,I1.kept (t':=s1.toks) λb o e=>Vg _ e,vF a _,⟨_,VR _ rfl,rfl,rfl⟩,λb hb=>?_,q⟩;have e:b=s1.heap.objs.size:=by simpa using hb
 subst e;exact I1.z7 (US _) (I1.bA.fresh (US _))
theorem qj {pins:List (Addr×Obj)}{σ:St}{H:Hp}{s:UT}{R:It->Hp->Prop}{E:UQ->UT->Prop}{lo hi:Int}{t u v:Tok}{tk:Nat}(I:Inv X pins σ H s)(h1:-(2 ^ 62)<=lo)(h2:lo<2 ^ 62)(h3:-(2 ^ 62)<=hi)(h4:hi<2 ^ 62)
  (q:R (LH lo (hi-lo).toNat) H):Vy (model X.prog X.w) X.A (Y7 (.ref s.heap.objs.size)) (Mm X pins σ tg R) E {s with heap:=s.heap.push {cls:=.type "range",data:=.fields #[.int lo t,.int hi u,.int 1 v]},toks:=tk}:=by
 refine wpAny_pyIter_range (IsRange.new ..) (small_one h1 h2 h3 h4) ?_;have I1:Inv X pins σ H {s with heap:=s.heap.push {cls:=.type "range",data:=.fields #[.int lo t,.int hi u,.int 1 v]},toks:=tk}:=I.kept λb o e=>Vg _ e
 refine⟨(s.heap.push {cls:=.type "range",data:=.fields #[.int lo t,.int hi u,.int 1 v]}).objs.size,[(s.heap.push {cls:=.type "range",data:=.fields #[.int lo t,.int hi u,.int 1 v]}).objs.size],_,_,H,rfl,
  I1.kept (t':=tk) λb o e=>Vg _ e,sM _ lo (hi-lo).toNat,?_,λb hb=>?_,q⟩
 ·have e1:lo+((0:Nat):Int)*1=lo:=by simp
  have e2:(((hi-lo).toNat:Nat):Int)-((0:Nat):Int)=Xr lo hi 1:=by rw[rangeSize_one];split <;> lia
  show YU _ _ (lo+((0:Nat):Int)*1) ((((hi-lo).toNat:Nat):Int)-((0:Nat):Int)) 1;rw[e1,e2];exact VR _ rfl
 ·have e:b=(s.heap.push {cls:=.type "range",data:=.fields #[.int lo t,.int hi u,.int 1 v]}).objs.size:=by simpa using hb
  subst e;exact I1.z7 (US _) (I1.bA.fresh (US _))
def JN (ta:TA):TI:=λσ H R=>ta σ H λvs H1=>∃j:Int,vs=[.int j]/\-(2 ^ 62)<=j/\j<2 ^ 62/\R (LH 0 j.toNat) H1
def JM (ta:TA):TI:=λσ H R=>ta σ H λvs H1=>∃i j:Int,vs=[.int i,.int j]/\(-(2 ^ 62)<=i/\i<2 ^ 62/\-(2 ^ 62)<=j/\j<2 ^ 62)/\R (LH i (j-i).toNat) H1
theorem i5 {a:Expr} {ta:TA} {p pos:Pos} (hg:Gl X "range") (hm:X.mg "range" = none) (ha:PA X [a] ta) (hs:U5 [a] X.env=[(false,eval a X.env)]:=by rfl):PI X tg (.Call (.Name "range" p) [a] [] pos) (JN ta):=by
 intro pins s σ H R I h;refine Call_ (gN I hg hm boot_range (Wy (bj (ha pos pins s σ H _ I h) λus s1 ⟨vs,H1,I1,r1,q1⟩=>?_) hs rfl));obtain⟨j,e,q1,q2,q⟩:=q1;subst e;cases r1 with
 |cons r rr =>
  cases rr;obtain⟨t,rfl⟩:=r;exact call_range_1 (qj I1 (by lia) (by lia) q1 q2 (by simpa using q))
theorem mU {a b:Expr} {ta:TA} {p pos:Pos} (hg:Gl X "range") (hm:X.mg "range" = none) (ha:PA X [a,b] ta) (hs:U5 [a,b] X.env=[(false,eval a X.env),(false,eval b X.env)]:=by rfl) (tP:U5 [b] X.env=[(false,eval b X.env)]:=by rfl) :
  PI X tg (.Call (.Name "range" p) [a,b] [] pos) (JM ta):=by
 intro pins s σ H R I h;refine Call_ (gN I hg hm boot_range (Wy (bj (ha pos pins s σ H _ I h) λus s1 ⟨vs,H1,I1,r1,q1⟩=>?_) (by rw[hs,tP]) (by rw[tP];rfl)))
 obtain⟨i,j,e,⟨q1,q2,q3,q4⟩,q⟩:=q1;subst e;cases r1 with
 |cons r rr =>
  cases rr with
  |cons r' rr =>
   cases rr;obtain⟨t,rfl⟩:=r;obtain⟨t',rfl⟩:=r';exact call_range_2 (qj I1 q1 q2 q3 q4 q)
def MF (wi:TI)(g:TG)(tb:TS):TS:=λD σ H=>wi σ H λJ H1=>∃W:Nat->Nat->St->Hp->Prop,(∃m,W 0 m σ H1)/\∀i m σ H,W i m σ H ->
 (J.stop i H/\D.nx σ H)\/(J.go i H/\∃N:St->Hp->Prop,(∀σ' H',N σ' H'->∃m',m'<m/\W (i+1) m' σ' H')/\∀x H',J.Ic i H x H'->g x σ H' λσ2 H2=>tb {D with nx:=N,ct:=N,bk:=D.nx} σ2 H2)
def kS (fp:List Addr)(h:Heap):List (Addr×Obj):=fp.filterMap λb=>(h.get? b).map λo=>(b,o)
theorem e7 {fp:List Addr}{h:Heap}{b:Addr}{o:Obj}(hb:b∈fp)(e:h.get? b=some o):(b,o)∈kS fp h:=List.mem_filterMap.mpr ⟨b,hb,by rw[e];rfl⟩
theorem wq {fp:List Addr}{h:Heap}{p:Addr×Obj}(hp:p∈kS fp h):p.1∈fp/\h.get? p.1=some p.2:=by
 obtain⟨b,hb,e⟩:=List.mem_filterMap.mp hp;cases q:h.get? b with
 |none=>rw[q]at e;cases e
 |some o =>
  rw[q]at e;have e':(b,o)=p:=VL e;subst e';exact⟨hb,q⟩
theorem Inv.pinned {pins:List (Addr×Obj)}{σ:St}{H:Hp}{s:UT}{fp:List Addr}(I:Inv X pins σ H s)(hf:∀b∈fp,fU X pins H b)(ho:∀b∈fp,∃o,s.heap.get? b=some o/\∀v,o.data≠.cell v):Inv X (pins++kS fp s.heap) σ H s :=
 I.uL λp hp=>(Vh.mp hp).elim (λz=>I.pin p (Vw _ z)) λz=>by
  obtain⟨hb,e⟩:=wq z;obtain⟨f0,f1,f2,_⟩:=hf p.1 hb;obtain⟨o,e',d⟩:=ho p.1 hb;rw[e]at e';cases e';exact⟨e,f0,f1,f2,d⟩
theorem Inv.g_ {pins pl:List (Addr×Obj)}{σ:St}{H:Hp}{s:UT}(I:Inv X (pins++pl) σ H s):Inv X pins σ H s:=I.uL λp hp=>I.pin p (Vw _ (WI _ hp))
theorem oE {iter:Expr}{body:List Stmt}{wi:TI}{g:TG}{tb:TS}{pos:Pos}(hp:PassesOwn (model X.prog X.w) X.A X.env X.xe)(hc:X.calm=true)(hi:PI X tg iter wi)(hg:PG X tg g)(hb:r9 X body tb)
  (hs:∀x,V1 iter X.env x=pure x:=by intro _;rfl):PS X (.For tg iter body [] pos) (MF wi g tb):=by
 intro pins s σ H D I h;refine wpAny_For (bj (hi pins s σ H _ I h) λv s1 h1=>bj h1 λEe s2 h2=>?_) hs;obtain⟨it,fp,tn,J,H2,e,I2,T,fh,f2,W,⟨m0,w0⟩,turn⟩:=h2;subst e;have sP:∀{H':Hp},(∀b∈fp,H' b=none)->∀b∈fp,fU X pins H' b:=λhn b hb=>⟨hn b hb,(f2 b hb).2⟩;refine codeAny_forLoop_any (λn s'=>∃i σ' H',Inv X pins σ' H' s'/\tn i s'.heap/\(∀b∈fp,H' b=none)/\W i n σ' H') ?_ m0 ⟨0,σ,H2,I2,fh,λb hb=>(f2 b hb).1,w0⟩;rintro n s3 ⟨i,σ3,H3,I3,kA,Lf,w3⟩;rcases turn i n σ3 H3 w3 with⟨stop,qn⟩|⟨go,N,hN,step⟩
 ·refine WX hp (bj (T.done X rfl rfl rfl hc i pins s3 σ3 H3 X.xe I3 (sP Lf) kA stop) λr s4 ⟨hr,I4⟩=>?_);subst hr;exact Yh ⟨σ3,H3,I4,qn⟩
 ·refine WX hp (bj (T.item X rfl rfl rfl hc i pins s3 σ3 H3 X.xe I3 (sP Lf) kA go) λr s4 ⟨u,hr,h4⟩=>?_);subst hr;refine WX hp (bj h4 λ_ s5 ⟨x,H5,I5,r5,y5,E6,O1⟩=>?_);have Pt:=I5.pinned (sP O1) (T.obj _ _ E6);refine WX hp (bj (hg _ s5 σ3 H5 x u _ Pt r5 (step x H5 y5)) λ_ s6 ⟨σ6,H6,I6,q6⟩=>?_);refine WX hp (bj (hb _ s6 σ6 H6 _ I6 q6) λf s7 q7=>?_);have again:∀{σ7:St} {H7:Hp},Inv X (pins++kS fp s5.heap) σ7 H7 s7->N σ7 H7->∃m,m<n/\∃i σ' H',Inv X pins σ' H' s7/\tn i s7.heap/\(∀b∈fp,H' b=none)/\W i m σ' H':=λ{σ7 H7} I7 n7=>by
   obtain⟨m',hm,w7⟩:=hN σ7 H7 n7;refine⟨m',hm,i+1,σ7,H7,I7.g_,T.keep _ _ _ E6 λb hb o e=>(I7.pin (b,o) (Vw _ (Vw _ (e7 hb e)))).1,λb hb=>?_,w7⟩;obtain⟨o,e,d⟩:=T.obj _ _ E6 b hb;exact(I7.pin (b,o) (Vw _ (Vw _ (e7 hb e)))).2.1
  cases f with
  |next=>obtain⟨σ7,H7,I7,n7⟩:=q7;exact again I7 n7
  |cont=>obtain⟨σ7,H7,I7,n7⟩:=q7;exact again I7 n7
  |brk=>obtain⟨σ7,H7,I7,q7⟩:=q7;exact⟨σ7,H7,I7.g_,q7⟩
  |ret v=>obtain⟨x7,σ7,H7,I7,r7,q7⟩:=q7;exact⟨x7,σ7,H7,I7.g_,r7,q7⟩
end
abbrev R2:=V->V->Hp->VK->Prop
def iJ (X:Cx)(f:UQ->UQ->Sem UQ)(r:R2):Prop :=
 ∀(pins:List (Addr×Obj)) (s:UT) (σ:St) (H:Hp) (x y:V) (v u:UQ) (Q:VK),Inv X pins σ H s->RelV x v->RelV y u->r x y H Q ->
  Vy (model X.prog X.w) X.A (f v u) (EP X pins σ Q) X.xe s
def Lz (X:Cx)(f:UQ->Sem UQ)(r:V->Hp->VK->Prop):Prop :=
 ∀(pins:List (Addr×Obj)) (s:UT) (σ:St) (H:Hp) (x:V) (v:UQ) (Q:VK),Inv X pins σ H s->RelV x v->r x H Q ->
  Vy (model X.prog X.w) X.A (f v) (EP X pins σ Q) X.xe s
def fv (X:Cx)(f:UQ)(r:List V->Hp->VK->Prop):Prop :=
 ∀(pins:List (Addr×Obj)) (s:UT) (σ:St) (H:Hp) (xs:List V) (us:List UQ) (Q:VK),Inv X pins σ H s->Vals xs us->r xs H Q ->
  Vy (model X.prog X.w) X.A (call f us) (EP X pins σ Q) X.xe s
def Ip (r:R2)(ta tb:TE):TE:=λσ H Q=>ta σ H λx H1=>tb σ H1 λy H2=>r x y H2 Q
def Ri (r:V->Hp->VK->Prop)(ta:TE):TE:=λσ H Q=>ta σ H λx H1=>r x H1 Q
def rI (C:Int->Int->Prop)(g:Int->Int->V):R2:=λx y H Q=>∃i j,x=.int i/\y=.int j/\C i j/\Q (g i j) H
def BN (g:Int->Int->V):R2:=λx y H Q=>∃i j,x=.int i/\y=.int j/\Q (g i j) H
def rU (g:Int->V):V->Hp->VK->Prop:=λx H Q=>∃i,x=.int i/\Q (g i) H
section
variable {X:Cx}{a b:Expr}{ta tb:TE}{pos:Pos}
theorem Ho (ha:PE X a ta)(hb:PE X b tb){pins:List (Addr×Obj)}{s:UT}{σ:St}{H:Hp}{R:V->V->Hp->Prop}(I:Inv X pins σ H s)
  (h:ta σ H λx H1=>tb σ H1 λy H2=>R x y H2) {Q:UQ->UT->Prop} {f:UQ->UQ->Sem UQ}
  (hf:∀v u s2 x y H2,Inv X pins σ H2 s2->RelV x v->RelV y u->R x y H2->Vy (model X.prog X.w) X.A (f v u) Q X.xe s2) :
  Vy (model X.prog X.w) X.A (eval a X.env) (λv s₁=>Vy (model X.prog X.w) X.A (eval b X.env) (λu s₂=>Vy (model X.prog X.w) X.A (f v u) Q X.xe s₂) X.xe s₁) X.xe s:=by
 refine bj (ha pins s σ H _ I h) λv s1 ⟨x,H1,I1,r1,q1⟩=>?_;refine bj (hb pins s1 σ H1 _ I1 q1) λu s2 ⟨y,H2,I2,r2,q2⟩=>?_;exact hf v u s2 x y H2 I2 r1 r2 q2
theorem bB {op:Operator}{r:R2}(ho:iJ X (WR op) r)(ha:PE X a ta)(hb:PE X b tb):PE X (.BinOp a op b pos) (Ip r ta tb):=by
 intro pins s σ H Q I h;exact wpAny_BinOp (Ho ha hb I h λv u s2 x y H2 I2 rx ry q=>ho pins s2 σ H2 x y v u Q I2 rx ry q)
theorem DQ {op:UnaryOp}{r:V->Hp->VK->Prop}(ho:Lz X (unaryOp op) r)(ha:PE X a ta):PE X (.UnaryOp op a pos) (Ri r ta):=by
 intro pins s σ H Q I h;exact UnaryOp_ (bj (ha pins s σ H _ I h) λv s1 N1=>by obtain⟨x,H1,I1,r1,q1⟩:=N1;exact ho pins s1 σ H1 x v Q I1 r1 q1)
theorem LS {f:UQ->UQ->Sem UQ}{C:Int->Int->Prop}{g:Int->Int->Int}
  (rule:∀(i j:Int) (t u:Tok) (s:UT) (Q:UQ->UT->Prop) (E:UQ->UT->Prop),C i j->Q (.int (g i j) s.toks) {s with toks:=s.toks+1}->Vy (model X.prog X.w) X.A (f (.int i t) (.int j u)) Q E s) :
  iJ X f (rI C λi j=>.int (g i j)):=by
 intro pins s σ H x y v u Q I rx ry h;obtain⟨i,j,rfl,rfl,hc,q⟩:=h;obtain⟨t,rfl⟩:=rx;obtain⟨t',rfl⟩:=ry;exact rule i j t t' s _ _ hc ⟨.int (g i j),H,I.tok _,⟨_,rfl⟩,q⟩
theorem Jh {f:UQ->UQ->Sem UQ}{g:Int->Int->Int}
  (rule:∀(i j:Int) (t u:Tok) (s:UT) (Q:UQ->UT->Prop) (E:UQ->UT->Prop),Q (.int (g i j) s.toks) {s with toks:=s.toks+1}->Vy (model X.prog X.w) X.A (f (.int i t) (.int j u)) Q E s) :
  iJ X f (BN λi j=>.int (g i j)):=by
 intro pins s σ H x y v u Q I rx ry h;obtain⟨i,j,rfl,rfl,q⟩:=h;obtain⟨t,rfl⟩:=rx;obtain⟨t',rfl⟩:=ry;exact rule i j t t' s _ _ ⟨.int (g i j),H,I.tok _,⟨_,rfl⟩,q⟩
theorem Ji {f:UQ->UQ->Sem UQ}{g:Int->Int->Bool}
  (rule:∀(i j:Int) (t u:Tok) (s:UT) (Q:UQ->UT->Prop) (E:UQ->UT->Prop),Q (.bool (g i j)) s->Vy (model X.prog X.w) X.A (f (.int i t) (.int j u)) Q E s) :
  iJ X f (BN λi j=>.bl (g i j)):=by
 intro pins s σ H x y v u Q I rx ry h;obtain⟨i,j,rfl,rfl,q⟩:=h;obtain⟨t,rfl⟩:=rx;obtain⟨t',rfl⟩:=ry;exact rule i j t t' s _ _ ⟨.bl (g i j),H,I,rfl,q⟩
def DE (i j:Int):Prop:=0<=j/\j<=1000000/\i.natAbs<2 ^ 64
def jr (i j:Int):Prop:=(-(2 ^ 64)<i/\i<2 ^ 64)\/(-(2 ^ 64)<j/\j<2 ^ 64)
theorem jr.ok {i j:Int}(h:jr i j):IntMulOk i j:=by
 rcases h with⟨h1,h2⟩|⟨h1,h2⟩
 ·exact .of_left (intBits_le_64 h1 h2)
 ·exact .of_right (intBits_le_64 h1 h2)
theorem fK:iJ X (WR .Add) (BN λi j=>.int (i+j)):=Jh λ_ _ _ _ _ _ _ q=>add_int q
theorem yZ:iJ X (WR .Sub) (BN λi j=>.int (i-j)):=Jh λ_ _ _ _ _ _ _ q=>sub_int q
theorem gL:iJ X (WR .Mult) (rI jr λi j=>.int (i*j)):=LS λ_ _ _ _ _ _ _ hc q=>mul_int q hc.ok
theorem fJ:iJ X (WR .Mod) (rI (λ_ j=>0<j) λi j=>.int (i % j)):=LS λi j _ _ _ _ _ hc q=>by
 have h1:(0:Int)<j:=hc;exact mod_int' (by lia) (by rw[Int.fmod_eq_emod_of_nonneg i (by lia)];exact q)
theorem FK:iJ X (WR .Pow) (rI DE λi j=>.int (i ^ j.toNat)):=LS λ_ _ _ _ _ _ _ hc q=>pow_int_small hc.1 hc.2.1 hc.2.2 q
theorem Rh {f:UQ->Sem UQ}{g:Int->Int}
  (rule:∀(i:Int) (t:Tok) (s:UT) (Q:UQ->UT->Prop) (E:UQ->UT->Prop),Q (.int (g i) s.toks) {s with toks:=s.toks+1}->Vy (model X.prog X.w) X.A (f (.int i t)) Q E s) :
  Lz X f (rU λi=>.int (g i)):=by
 intro pins s σ H x v Q I rx h;obtain⟨i,rfl,q⟩:=h;obtain⟨t,rfl⟩:=rx;exact rule i t s _ _ ⟨.int (g i),H,I.tok _,⟨_,rfl⟩,q⟩
theorem xO:Lz X (unaryOp .USub) (rU λi=>.int (-i)):=Rh λ_ _ _ _ _ q=>neg_int q
end
def MP:V->V->Bool
 |.bC,.bC=>true | .bC,.int _=>true | .int _,.bC=>true | .bC,.bl _=>true | .bl _,.bC=>true | .bC,.str _=>true | .str _,.bC=>true
 |.int _,.int _=>true | .bl _,.bl _=>true | .str _,.str _=>true | .Du _,.Du _=>true
 |.int _,.str _=>true | .str _,.int _=>true | .bl _,.str _=>true | .str _,.bl _=>true
 |_,_=>false
def Rz:R2:=λx y H Q=>MP x y=true/\Q (.bl (decide (x=y))) H
theorem Dh {i j:Int}:decide (V.int i=V.int j)=(i==j):=by
 rw[XO];simp
theorem He {i j:Bool}:decide (V.bl i=V.bl j)=(i==j):=by
 rw[XO];simp
theorem Dg {i j:Str}:decide (V.str i=V.str j)=(i==j):=by
 rw[XO];simp
theorem Di {i j:Array UInt8}:decide (V.Du i=V.Du j)=(i.toList==j.toList):=by
 rw[XO];cases i;cases j;simp
section
variable {X:Cx}{a b c:Expr}{ta tb:TE}{pos:Pos}
theorem bZ {pins:List (Addr×Obj)}{σ:St}{H:Hp}{s:UT}{Q:VK}{k k':Bool}(I:Inv X pins σ H s)(q:Q (.bl k) H)(e:k=k'):EP X pins σ Q (.bool k') s:=by
 subst e;exact⟨.bl k,H,I,rfl,q⟩
theorem Jg:iJ X (VY .Eq) Rz:=by
 intro pins s σ H x y v u Q I rx ry h;obtain⟨hs,q⟩:=h;cases x with
 |bC =>
  cases rx;cases y with
  |bC=>cases ry;exact PySem.EqNone.eq_none_none (bZ I q (by simp))
  |bl j=>cases ry;exact PySem.EqNone.eq_none_bool (bZ I q (by simp))
  |int j=>obtain⟨t',rfl⟩:=ry;exact PySem.EqNone.eq_none_int (bZ I q (by simp))
  |str j=>obtain⟨t',rfl⟩:=ry;exact PySem.EqNone.eq_none_str (bZ I q (by simp))
  |_=>exact absurd (show false=true from hs) VE
 |bl i =>
  cases rx;cases y with
  |bC=>cases ry;exact PySem.EqNone.eq_bool_none (bZ I q (by simp))
  |bl j=>cases ry;exact eq_bool (bZ I q He)
  |str j=>obtain⟨t',rfl⟩:=ry;exact PySem.EqMixed.eq_bool_str (bZ I q (by simp))
  |_=>exact absurd (show false=true from hs) VE
 |int i =>
  obtain⟨t,rfl⟩:=rx;cases y with
  |bC=>cases ry;exact PySem.EqNone.eq_int_none (bZ I q (by simp))
  |int j=>obtain⟨t',rfl⟩:=ry;exact eq_int (bZ I q Dh)
  |str j=>obtain⟨t',rfl⟩:=ry;exact PySem.EqMixed.eq_int_str (bZ I q (by simp))
  |_=>exact absurd (show false=true from hs) VE
 |str i =>
  obtain⟨t,rfl⟩:=rx;cases y with
  |bC=>cases ry;exact PySem.EqNone.eq_str_none (bZ I q (by simp))
  |bl j=>cases ry;exact PySem.EqMixed.eq_str_bool (bZ I q (by simp))
  |int j=>obtain⟨t',rfl⟩:=ry;exact PySem.EqMixed.eq_str_int (bZ I q (by simp))
  |str j=>obtain⟨t',rfl⟩:=ry;exact eq_str (bZ I q Dg)
  |_=>exact absurd (show false=true from hs) VE
 |Du i =>
  obtain⟨t,rfl⟩:=rx;cases y with
  |Du j=>obtain⟨t',rfl⟩:=ry;exact PySem.W.eq_bytes (bZ I q Di)
  |_=>exact absurd (show false=true from hs) VE
 |_=>cases y <;> exact absurd (show false=true from hs) VE
theorem DS:iJ X (VY .Lt) (BN λi j=>.bl (decide (i<j))):=Ji λ_ _ _ _ _ _ _ q=>lt_int q
theorem y6:iJ X (VY .Gt) (BN λi j=>.bl (decide (j<i))):=Ji λ_ _ _ _ _ _ _ q=>gt_int q
theorem FN:iJ X (VY .Is) (λx y H Q=>y=.bC/\Q (.bl (decide (x=.bC))) H):=by
 intro pins s σ H x y v u Q I rx ry h;obtain⟨rfl,q⟩:=h;cases ry;refine is_none_gen (bZ I q ?_);cases x <;> first
  | (cases rx;rfl)
  | (obtain⟨t,rfl⟩:=rx;rfl)
theorem tw (b:Expr){op:XS}(h:op≠.In:=by decide)(h2:op≠.NotIn:=by decide):WY op b=false:=by
 have e1:(op==CmpOp.In)=false:=by cases op <;> first|rfl|exact absurd rfl h
 have e2:(op==CmpOp.NotIn)=false:=by cases op <;> first|rfl|exact absurd rfl h2
 cases b <;> simp[WY,e1,e2]
theorem B5 {op:XS}{r:R2}(ho:iJ X (VY op) r)(ha:PE X a ta)(hb:PE X b tb)(hm:WY op b=false):PE X (.Compare a [op] [b] pos) (Ip r ta tb):=by
 intro pins s σ H Q I h;exact wpAny_Compare1 (Ho ha hb I h λv u s2 x y H2 I2 rx ry q=>ho pins s2 σ H2 x y v u Q I2 rx ry q) hm
def Im (t:TE):TT:=λσ H Q=>t σ H λx H'=>∃k,x=.bl k/\Q k H'
theorem jY {op:XS}{r:R2}(ho:iJ X (VY op) r)(ha:PE X a ta)(hb:PE X b tb)(hm:WY op b=false):PT X (.Compare a [op] [b] pos) (Im (Ip r ta tb)):=by
 intro pins s σ H Q I h;refine wpAny_isTrue_Compare1 (bj (ha pins s σ H _ I h) λv s1 ⟨x,H1,I1,r1,q1⟩=>bj (hb pins s1 σ H1 _ I1 q1) λu s2 ⟨y,H2,I2,r2,q2⟩ =>
  bj (ho pins s2 σ H2 x y v u _ I2 r1 r2 q2) λc s3 ⟨z,H3,I3,r3,k,e,q3⟩=>?_) hm
 subst e;cases r3;exact Wv ⟨H3,I3,q3⟩
theorem lr:(U8:Nat)<2 ^ 63:=by rw[Wl];decide
theorem vals1 {x:V}{us:List UQ}(r:Vals [x] us):∃u,us=[u]/\RelV x u:=by
 cases r with
 |cons r1 r2=>cases r2;exact⟨_,rfl,r1⟩
theorem vals2 {x y:V}{us:List UQ}(r:Vals [x,y] us):∃u w',us=[u,w']/\RelV x u/\RelV y w':=by
 cases r with
 |cons r1 r2 =>
  cases r2 with
  |cons r3 r4=>cases r4;exact⟨_,_,rfl,r1,r3⟩
theorem nG (hc:X.calm=true):fv X (.builtin "max") (λxs H Q=>∃i j,xs=[.int i,.int j]/\Q (.int (if j>i then j else i)) H):=by
 intro pins s σ H xs us Q I r h;obtain⟨i,j,rfl,q⟩:=h;obtain⟨u,w',rfl,⟨t,rfl⟩,⟨t',rfl⟩⟩:=vals2 r;refine max_two_ints (I.ok.hd hc) λh' tk k=>⟨_,H,I.kept k,?_,q⟩
 by_cases hj:j>i
 ·rw[if_pos hj,if_pos hj];exact⟨_,rfl⟩
 ·rw[if_neg hj,if_neg hj];exact⟨_,rfl⟩
theorem xh (hc:X.calm=true):fv X (.builtin "min") (λxs H Q=>∃i j,xs=[.int i,.int j]/\Q (.int (if j<i then j else i)) H):=by
 intro pins s σ H xs us Q I r h;obtain⟨i,j,rfl,q⟩:=h;obtain⟨u,w',rfl,⟨t,rfl⟩,⟨t',rfl⟩⟩:=vals2 r;refine min_two_ints (I.ok.hd hc) λh' tk k=>⟨_,H,I.kept k,?_,q⟩
 by_cases hj:j<i
 ·rw[if_pos hj,if_pos hj];exact⟨_,rfl⟩
 ·rw[if_neg hj,if_neg hj];exact⟨_,rfl⟩
theorem nH:fv X (.type "int") (λxs H Q=>(∃i,xs=[.int i]/\Q (.int i) H)\/∃k,xs=[.bl k]/\Q (.int (if k then 1 else 0)) H):=by
 intro pins s σ H xs us Q I r h;rcases h with⟨i,rfl,q⟩|⟨k,rfl,q⟩
 ·obtain⟨u,rfl,t,rfl⟩:=vals1 r;exact call_int_int ⟨.int i,H,I,⟨_,rfl⟩,q⟩
 ·obtain⟨u,rfl,r1⟩:=vals1 r;cases r1;exact call_int_bool ⟨.int (if k then 1 else 0),H,I.tok _,⟨_,rfl⟩,q⟩
end
structure HA (h:Heap)(x dx C:Addr)(mA:Str->Option UQ):Prop where
 obj:h.get? x=some (PySem.W.instObj C dx)
 ns:h.Ns1 dx mA
 ne:dx≠x
theorem wB {h:Heap}{dx:Addr}{mA:Str->Option UQ}(n:h.Ns1 dx mA):∃od,h.get? dx=some od/\∀name,PySem.W.lookIn name od=some (mA name):=by
 obtain⟨o,es,ep,ho,hd,hk,_,hm⟩:=n;refine⟨o,ho,λname=>?_⟩;have e:=hm name;unfold nsFind findBy at e;rw[<- Array.find?_toList]at e;unfold PySem.W.lookIn;rw[hd];dsimp only
 split
 ·rename_i y q
  rw[q]at e;exact congrArg some e
 ·rename_i q
  rw[q]at e;have a:es.toList.any (·.refKey)=false:=by
   rw[List.any_eq_false];intro y hy;obtain⟨z,t,Oy⟩:=hk y (Array.mem_toList_iff.mp hy);simp[DictEntry.refKey,Oy]
  have a':¬ es.toList.any (·.refKey)=true:=by rw[a];exact VE
  rw[if_neg a'];exact congrArg some e
theorem HA.look {h:Heap}{x dx C:Addr}{mA:Str->Option UQ}(I:HA h x dx C mA):∃od,PySem.W.InstAt h x (PySem.W.instObj C dx) C (some od)/\∀name,PySem.W.lookIn name od=some (mA name) :=
 let ⟨od,ho,hl⟩:=wB I.ns
 ⟨od,⟨I.obj,rfl,rfl,ho⟩,hl⟩
section
end
theorem l4.some_of {v:V}{o:Option UQ}(r:l4 (some v) o):∃u,o=some u/\RelV v u:=by
 cases o with
 |none=>exact(show False from r).elim
 |some u=>exact⟨u,rfl,r⟩
section
variable {P:UY}{w:Vc}{H:Hp}{h:Heap}{a C dx:Addr}{fs:List (Str×V)}
theorem CJ (bA:gW P w H h)(e:H a=some (.ins C dx fs)):∃mA,HA h a dx C mA/\(∀f,l4 (fs.lookup f) (mA f))/\PySem.Within mA (fs.map (·.1))/\fs.length<=1000/\H dx=some (.own a):=by
 obtain⟨d,z,ne,ob,mA,n,r,q⟩:=(show a6 P w H h a (.ins C dx fs) from bA a _ e)
 exact⟨mA,⟨ob,n,ne⟩,r,q,z,d⟩
end
structure PD (K:PySem.W.Frag)(C:Addr):Prop where
 pg:PySem.W.plainGet K C Str.empty=true
 hd:PySem.W.hasDictIn K C=true
 po:PySem.W.plainOver K C=true
 sa:PySem.W.findIn K (.ref C) "__setattr__" = some (some (.builtin "object.__setattr__"))
theorem PD.get {K:PySem.W.Frag}{C:Addr}(c:PD K C)(f:Str):PySem.W.plainGet K C f=true:=c.pg
section
end
section
end
section
variable {X:Cx}{pins:List (Addr×Obj)}{σ:St}{H:Hp}{s:UT}{A:V6}{E:UQ->UT->Prop}{Q:UQ->UT->Prop}{c:UQ}{b:Bool}
inductive gV (K:PySem.W.Frag) (H:Hp):V->UQ->Prop where
 |bC:gV K H .bC (.type "NoneType")
 |bl (x:Bool):gV K H (.bl x) (.type "bool")
 |int (i:Int):gV K H (.int i) (.type "int")
 |str (x:Str):gV K H (.str x) (.type "str")
 |G9 (x:UInt64):gV K H (.G9 x) (.type "float")
 |lst {a:Addr} {xs:List V} (e:H a=some (.lst xs)):gV K H (.ref a) (.type "list")
 |sv {a:Addr} {o:Obj} {xs:List V} (e:H a=some (.sv o (.lst xs))):gV K H (.ref a) (.type "list")
 |tup {a:Addr} {xs:List V} (e:H a=some (.tup xs)):gV K H (.ref a) (.type "tuple")
 |dK {a:Addr} {kvs:List (Key×V)} (e:H a=some (.dK kvs)):gV K H (.ref a) (.type "dict")
 |dT {a:Addr} {kvs:List (List Key×V)} (e:H a=some (.dT kvs)):gV K H (.ref a) (.type "dict")
 |ins {a C dx:Addr} {fs:List (Str×V)} (e:H a=some (.ins C dx fs)) (cl:PD K C) (ha:PySem.W.findIn K (.ref C) "__class__" = some (some (.builtin "object.__class__")))
   (hn:PySem.W.specialIn K (.builtin "object.__class__") "__get__" = some (some (.builtin "getset_descriptor.__get__"))) (Ql:PySem.W.takesIn K (.builtin "object.__class__")=some true)
   (hm:PySem.W.mroIn K C (.type "object")=some true):gV K H (.ref a) (.ref C)
theorem wK {x:V}{u t:UQ}(I:Inv X pins σ H s)(rx:RelV x u)(ty:gV X.K H x t)(e:PySem.W.kitOne X.K t c=some b)(h:∀tk,Q (.bool b) {s with toks:=tk}):
  Vy (model X.prog X.w) A (call (.builtin "isinstance") [u,c]) Q E s:=by
 cases ty with
 |bC=>cases (show u=Value.none from rx);exact PySem.W.kia_one PySem.W.kitx_none I.ja Ww e (λz=>nomatch z) h
 |bl y=>cases (show u=Value.bool y from rx);exact PySem.W.kia_one PySem.W.kitx_bool I.ja Ww e (λz=>nomatch z) h
 |int i=>obtain⟨t,q⟩:=(show ∃t,u=Value.int i t from rx);cases q;exact PySem.W.kia_one PySem.W.kitx_int I.ja Ww e (λz=>nomatch z) h
 |str y=>obtain⟨t,q⟩:=(show ∃t,u=Value.str y t from rx);cases q;exact PySem.W.kia_one PySem.W.kitx_str I.ja Ww e (λz=>nomatch z) h
 |G9 y=>obtain⟨t,q⟩:=(show ∃t,u=Value.float y t from rx);cases q;exact PySem.W.kia_one PySem.W.kitx_float I.ja Ww e (λz=>nomatch z) h
 | @lst a xs ea =>
  cases (show u=Value.ref a from rx)
  obtain⟨_,_,n,_,h1⟩:=(show a6 X.prog X.w H s.heap a (.lst xs) from I.bA a _ ea)
  exact PySem.W.kia_one PySem.W.kitx_list I.ja ⟨_,h1,rfl⟩ e (λz=>nomatch z) h
 | @sv a ob xs ea =>
  cases (show u=Value.ref a from rx)
  obtain⟨_,_,_,n,_,h1⟩:=(show a6 X.prog X.w H s.heap a (.sv ob (.lst xs)) from I.bA a _ ea)
  exact PySem.W.kia_one PySem.W.kitx_list I.ja ⟨_,h1,rfl⟩ e (λz=>nomatch z) h
 | @tup a xs ea =>
  cases (show u=Value.ref a from rx)
  obtain⟨_,_,_,p⟩:=(show a6 X.prog X.w H s.heap a (.tup xs) from I.bA a _ ea)
  obtain⟨o,h1,h2,_⟩:=p;exact PySem.W.kia_one PySem.W.kitx_tuple I.ja ⟨o,h1,h2⟩ e (λz=>nomatch z) h
 | @dK a kvs ea =>
  cases (show u=Value.ref a from rx)
  obtain⟨_,_,vs,_,p⟩:=(show a6 X.prog X.w H s.heap a (.dK kvs) from I.bA a _ ea)
  obtain⟨o,es,ep,h1,h2,_⟩:=p;exact PySem.W.kia_one PySem.W.kitx_dict I.ja ⟨o,h1,h2.1⟩ e (λz=>nomatch z) h
 | @dT a kvs ea =>
  cases (show u=Value.ref a from rx)
  obtain⟨_,_,xs,_,o,es,ep,h1,h2,_⟩:=(show a6 X.prog X.w H s.heap a (.dT kvs) from I.bA a _ ea)
  exact PySem.W.kia_one PySem.W.kitx_dict I.ja ⟨o,h1,h2.1⟩ e (λz=>nomatch z) h
 | @ins a C dx fs ea cl ha hn Ql hm =>
  cases (show u=Value.ref a from rx)
  obtain⟨mA,O,_⟩:=CJ I.bA ea;obtain⟨od,J,_⟩:=O.look;exact PySem.W.kia_one (PySem.W.kitx_own (cl.get _) cl.hd ha hn Ql hm) I.ja J e (λz=>nomatch z) h
end
structure cL (k:Nat)(A:V6):Prop where
 hd:A.handled=none
 dp:A.depth+3*k+5<recursionLimit
 un:A.units+16*k+200<XX
theorem cL.mono {j k:Nat}{A:V6}(r:cL k A)(h:j<=k):cL j A:=⟨r.hd,by have:=r.dp;lia,by have:=r.un;lia⟩
theorem cL.deeper {k:Nat}{A:V6}(r:cL (k+1) A)(env:Env):cL k (A.deeper env) :=
 ⟨r.hd,by have:=r.dp;show A.depth+1+3*k+5<_;lia,by have:=r.un;show A.units+3+16*k+200<_;lia⟩
theorem cL.depth {k:Nat}{A:V6}(r:cL k A):A.depth<recursionLimit:=by have:=r.dp;lia
theorem cL.units {k:Nat}{A:V6}(r:cL k A):A.units+64<XX:=by have:=r.un;lia
theorem cL.EW {k:Nat}{A:V6}(r:cL k A):A.units<XX:=by have:=r.un;lia
def E3:TA:=λ_ H Q=>Q [] H
def xZ (ta:TE)(tr:TA):TA:=λσ H Q=>ta σ H λx H1=>tr σ H1 λxs H2=>Q (x::xs) H2
section
variable {X:Cx}{e:Expr}{es:List Expr}{te:TE}{t:TA}{pos:Pos}
theorem bq:PA X [] E3:=λ_ _ _ _ H Q I h=>Calls.spliced_nil ⟨[],H,I,.nil,h⟩
theorem aF (ha:PE X e te)(hr:PA X es t)(hs:U5 (e::es) X.env=(false,eval e X.env)::U5 es X.env:=by rfl):PA X (e::es) (xZ te t):=by
 intro pos pins s σ H Q I h;rw[hs];show Vy _ _ (spliced ((false,eval e X.env)::Wq pos (U5 es X.env))) _ _ s;refine Calls.spliced_cons (bj (ha pins s σ H _ I h) λu s1 ⟨x,H1,I1,r1,q1⟩=>?_);exact bj (hr pos pins s1 σ H1 _ I1 q1) λus s2 ⟨xs,H2,I2,r2,q2⟩=>⟨x::xs,H2,I2,.cons r1 r2,q2⟩
def My (t:TA):TE:=λσ H Q=>t σ H λxs H1=>xs.length<=U8/\∀p,H1 p=none->Q (.ref p) (upd H1 p (.tup xs))
def MD (t:TA):TE:=λσ H Q=>t σ H λxs H1=>xs.length<=U8/\∀p,H1 p=none->Q (.ref p) (upd H1 p (.lst xs))
theorem yN {x1}(h:PA X es t):PE X (.Tuple es x1 pos) (My t):=by
 intro pins s σ H Q I hq;refine wpAny_Tuple_spliced (bj (h pos pins s σ H _ I hq) λus s1 ⟨xs,H1,I1,r,z,q⟩=>⟨by rw[<- r.length];exact z,?_⟩)
 have hf:H1 s1.heap.objs.size=none:=I1.bA.fresh (US _);refine⟨.ref s1.heap.objs.size,upd H1 s1.heap.objs.size (.tup xs),I1.laid (t':=s1.toks) (λb u e=>Vg _ e) (US _) ?_,rfl,q _ hf⟩;exact⟨z,us,r,⟨_,VR _ rfl,rfl,_,rfl⟩⟩
theorem oJ (h:PA X es t):PE X (.List es pos) (MD t):=by
 intro pins s σ H Q I hq;refine wpAny_List_spliced (bj (h pos pins s σ H _ I hq) λus s1 ⟨xs,H1,I1,r,z,q⟩=>⟨by rw[<- r.length];exact z,?_⟩)
 have hf:H1 s1.heap.objs.size=none:=I1.bA.fresh (US _);refine⟨.ref s1.heap.objs.size,upd H1 s1.heap.objs.size (.lst xs),I1.laid (t':=s1.toks) (λb u e=>Vg _ e) (US _) ?_,rfl,q _ hf⟩;exact⟨z,us,0,r,VR _ rfl⟩
end
abbrev Sp:=List V->Hp->VK->XK->Prop
abbrev AY:=List Env->Hp->UT->XK->UQ->UT->Prop
structure DD (P:UY)(w:Vc)(K:PySem.W.Frag)(mg:Str->Option UQ)(base:Heap)(A:V6)(outer:List Env)(s:UT)(H:Hp):Prop where
 frames:A.frames=some outer
 mod:Mod K mg base
 bs:∀b o,base.get? b=some o->s.heap.get? b=some o/\H b=none
 EB:base.objs.size<=s.heap.objs.size
 lF:s.heap.FunFrames base outer
 HX:∀b∈z6 outer,H b=none
 bA:gW P w H s.heap
 bare:Yg s.gens
def CE (outer:List Env)(P:UY)(w:Vc)(H:Hp)(s:UT)(Q:VK)(u:UQ)(s':UT):Prop :=
 ∃v H',s'.os=s.os/\Yg s'.gens/\Un (z6 outer) [] H H' s.heap s'.heap/\gW P w H' s'.heap/\RelV v u/\Q v H'
def CR (CX:AY)(outer:List Env)(P:UY)(w:Vc)(H:Hp)(s:UT)(Q:VK)(E:XK)(r:Result)(s':UT):Prop :=
 match r with
 |.ok (.ret u)=>CE outer P w H s Q u s'
 |.ok _=>False
 |.error e=>CX outer H s E e s'
structure aX (P:UY)(w:Vc)(K:PySem.W.Frag)(mg:Str->Option UQ)(base:Heap)(CX:AY)(k:Nat)(f:Addr)(fd:VI)(ps:List Str)(sp:Sp):Prop where
 len:∀vs H Q E,sp vs H Q E->vs.length=ps.length
 run:∀(A:V6) (outer:List Env) (s:UT) (H:Hp) (args:Args) (us:List UQ) (vs:List V) (Q:VK) (E:XK),cL k A->DD P w K mg base A outer s H->BindsTo s fd args (ps.zip us)->Vals vs us->sp vs H Q E ->
  Ys (model P w) A (.call (.ref f) args) (CR CX outer P w H s Q E) s
theorem aX.imp {P:UY}{w:Vc}{K:PySem.W.Frag}{mg:Str->Option UQ}{base:Heap}{CX:AY}{k:Nat}{f:Addr}{fd:VI}{ps:List Str}{sp PY:Sp}(F:aX P w K mg base CX k f fd ps sp)
  (h:∀vs H Q E,PY vs H Q E->sp vs H Q E):aX P w K mg base CX k f fd ps PY :=
 ⟨λvs H Q E q=>F.len vs H Q E (h _ _ _ _ q),λA outer s H args us vs Q E hr he hb hv hs=>F.run A outer s H args us vs Q E hr he hb hv (h _ _ _ _ hs)⟩
section
variable {X:Cx}{pins:List (Addr×Obj)}{σ:St}{H:Hp}{s s':UT}
theorem Inv.O_ (I:Inv X pins σ H s):DD X.prog X.w X.K X.mg X.base X.A X.stack s H :=
 ⟨I.ok.frames,I.ok.mod,I.bs,VB I.ok.EB I.sz,I.stack,I.uv,I.bA,I.bare⟩
theorem Inv.after {Q:VK}{u:UQ}(I:Inv X pins σ H s)(h:CE X.stack X.prog X.w H s Q u s'):EP X pins σ Q u s':=by
 obtain⟨v,H',os,bare,un,bA,r,q⟩:=h;obtain⟨hh,g,d,t,RQ⟩:=s';obtain rfl:RQ=s.os:=os;exact⟨v,H',I.call (h':=hh) (g':=g) (d':=d) (t':=t) (ch:=[]) un bA bare (λb z=>absurd z (by simp)),r,q⟩
end
def Iv (sp:Sp)(Eu:List V)(E:XK)(t:TA):TE:=λσ H Q=>t σ H λvs H1=>sp (vs++Eu) H1 Q E
def Binds (K:PySem.W.Frag)(fd:VI)(ps:List Str)(ds:List UQ):Prop :=
 ∀(s:UT) (us:List UQ),K.In s.heap->(us++ds).length=ps.length->BindsTo s fd ⟨us,[]⟩ (ps.zip (us++ds))
theorem Binds.all {K:PySem.W.Frag}{fd:VI}{ps:List Str}(h:∀us:List UQ,us.length=ps.length->bindArgs fd ⟨us,[]⟩=pure (ps.zip us)):Binds K fd ps []:=λs us _ hl=>by
 rw[VW]at hl ⊢
 exact .of_eq (h us hl)
def Passes (CX:AY)(X:Cx)(E:XK):Prop:=∀(pins:List (Addr×Obj)) (σ:St) (H:Hp) (s:UT) (e:UQ) (s':UT),Inv X pins σ H s->CX X.stack H s E e s'->X.xe e s'
section
variable {X:Cx}{CX:AY}{k:Nat}{f:Addr}{fd:VI}{ps:List Str}{sp:Sp}{Eu:List V}{ds:List UQ}{E:XK}{x:Str}{p pos:Pos}{e:Expr}{es:List Expr}{t:TA}
theorem Fl {pins:List (Addr×Obj)}{σ:St}{H:Hp}{s:UT}{Q:VK}{us:List UQ}{vs:List V}(F:aX X.prog X.w X.K X.mg X.base CX k f fd ps sp)(hr:cL k X.A)(hb:Binds X.K fd ps ds)(hd:Vals Eu ds)(hx:Passes CX X E)
  (I:Inv X pins σ H s) (r:Vals vs us) (h:sp (vs++Eu) H Q E):Vy (model X.prog X.w) X.A (call (.ref f) us) (EP X pins σ Q) X.xe s:=by
 have r2:Vals (vs++Eu) (us++ds):=r.append hd;have hl:(us++ds).length=ps.length:=by rw[<- r2.length];exact F.len _ _ _ _ h
 refine wpAny_call (X_ (F.run X.A X.stack s H ⟨us,[]⟩ (us++ds) (vs++Eu) Q E hr I.O_ (hb s us I.ja hl) r2 h) λr s' hq=>?_);cases r with
 |error e=>exact hx pins σ H s e s' I hq
 |ok fl =>
  cases fl with
  |ret u=>exact I.after hq
  |next=>exact Xa hq
  |brk=>exact Xa hq
  |cont=>exact Xa hq
theorem ik (F:aX X.prog X.w X.K X.mg X.base CX k f fd ps sp)(hr:cL k X.A)(hg:Gl X x)(hm:X.mg x=some (.ref f))(hk:PySem.W.keepIn X.K (.ref f)=true)(hb:Binds X.K fd ps ds)(hd:Vals Eu ds)(hx:Passes CX X E)
  (ha:PA X (e::es) t) (hdb:(x==("__debug__" : Str))=false:=by decide) (he:U5 (e::es) X.env=(false,eval e X.env)::U5 es X.env:=by rfl) (hpl:(Wq pos (U5 es X.env)).any (·.1)=false:=by rfl) :
  PE X (.Call (.Name x p) (e::es) [] pos) (Iv sp Eu E t):=by
 intro pins s σ H Q I h;refine Yw (CD I hg hm ?_ hdb);refine PySem.W.callWith_K (h₀:=X.base) I.ok.mod.Nw hk (bj (ha pos pins s σ H _ I h) λus s1 ⟨vs,H1,I1,r,q⟩=>⟨I1.ja,?_⟩) he hpl;exact Fl F hr hb hd hx I1 r q
end
section
end
structure aP (N P:List Str)(sc:XA):Prop where
 kind:sc.kind=.function
 co:sc.isCoroutine=false
 gen:sc.isGenerator=false
 nd:N.Nodup
 pre:N.take P.length=P
 par:∀x∈P,sc.names.lookup x=some .local\/sc.names.lookup x=some .cell
 FW:∀y∈sc.names,y.2≠.free
theorem mkS{N P:List Str}{sc:XA}(h0:sc.kind=.function:=by rfl)(h1:sc.isCoroutine=false:=by rfl)(h2:sc.isGenerator=false:=by rfl)(h3:N.Nodup:=by decide +kernel)(h4:N.take P.length=P:=by rfl)(h5:∀x∈P,sc.names.lookup x=some .local\/sc.names.lookup x=some .cell:=by decide +kernel)(h6:∀y∈sc.names,y.2≠.free:=by decide +kernel):aP N P sc:=⟨h0,h1,h2,h3,h4,h5,h6⟩
theorem nJ {kindOf:Str->Option XI}{x:Str}:∀{binds:List (Str×UQ)} {m:Str->Option UQ},(∀v,(x,v)∉binds)->bindL kindOf binds m x=m x
 |[],_,_=>rfl
 | (n,v)::r,m,h=>by
  unfold bindL;rw[nJ λw hw=>h w (UZ _ hw)]
  split
  ·have:x≠n:=by rintro rfl;exact h v U1
   simp[this]
  ·rfl
theorem nL {kindOf:Str->Option XI}{x:Str}:∀{binds:List (Str×UQ)} {m:Str->Option UQ},(∀v,(x,v)∉binds)->bindC kindOf binds m x=m x
 |[],_,_=>rfl
 | (n,v)::r,m,h=>by
  unfold bindC;rw[nL λw hw=>h w (UZ _ hw)]
  split
  ·rfl
  ·have:x≠n:=by rintro rfl;exact h v U1
   simp[this]
theorem nK {kindOf:Str->Option XI}{x:Str}{v:UQ}:∀{P:List Str} {vs:List UQ} {i:Nat} {m:Str->Option UQ},P.Nodup->P[i]?=some x->vs[i]?=some v->kindOf x=some .local ->
  bindL kindOf (P.zip vs) m x=some v
 |[],_,_,_,_,h,_,_=>by simp at h
 |_::_,[],_,_,_,_,h,_=>by simp at h
 |p::P,w::vs,0,m,nd,h1,h2,hk=>by
  simp at h1 h2;subst h1;subst h2;show bindL kindOf ((p,w)::P.zip vs) m p=_;unfold bindL;rw[nJ λv hv=>(Vt.mp nd).1 (Yl hv).1,if_pos hk];simp
 |p::P,w::vs,i+1,m,nd,h1,h2,hk=>by
  show bindL kindOf ((p,w)::P.zip vs) m x=_;unfold bindL;exact nK (i:=i) (Vt.mp nd).2 (by simpa using h1) (by simpa using h2) hk
theorem nM {kindOf:Str->Option XI}{x:Str}{v:UQ}:∀{P:List Str} {vs:List UQ} {i:Nat} {m:Str->Option UQ},P.Nodup->P[i]?=some x->vs[i]?=some v->kindOf x≠some .local ->
  bindC kindOf (P.zip vs) m x=some v
 |[],_,_,_,_,h,_,_=>by simp at h
 |_::_,[],_,_,_,_,h,_=>by simp at h
 |p::P,w::vs,0,m,nd,h1,h2,hk=>by
  simp at h1 h2;subst h1;subst h2;show bindC kindOf ((p,w)::P.zip vs) m p=_;unfold bindC;rw[nL λv hv=>(Vt.mp nd).1 (Yl hv).1,if_neg hk];simp
 |p::P,w::vs,i+1,m,nd,h1,h2,hk=>by
  show bindC kindOf ((p,w)::P.zip vs) m x=_;unfold bindC;exact nM (i:=i) (Vt.mp nd).2 (by simpa using h1) (by simpa using h2) hk
def start (N:List Str)(vs:List V):St:=vs.map some++U9 (N.length-vs.length) none
noncomputable def mE (CX:AY)(P:UY)(w:Vc)(K:PySem.W.Frag)(mg:Str->Option UQ)(base:Heap)(N:List Str)(qual:Str)(scope:XA)(f:Addr)(cd:UQ)(A:V6)(outer:List Env)(s:UT)(H:Hp)(E:XK):Cx where
 prog:=P
 w:=w
 K:=K
 mg:=mg
 base:=base
 A:=A.deeper (X9 qual scope s.heap.objs.size f cd)
 N:=N
 s₀:=s
 H₀:=H
 env:=X9 qual scope s.heap.objs.size f cd
 outer:=outer
 stack:=X9 qual scope s.heap.objs.size f cd::outer
 ex:=[]
 calm:=true
 fn:=λ_=>true
 pn:=[]
 xe:=λe s'=>Vy (model P w) (A.deeper (X9 qual scope s.heap.objs.size f cd)) (leaving (X9 qual scope s.heap.objs.size f cd) e) (λ_ MQ=>CX outer H s E e MQ) (λe' MQ=>CX outer H s E e' MQ) s'
theorem rO {sc:XA}{n:Nat}{x:Str}(h:sc.names.lookup x=some .cell):∃c,(cellsFrom n sc.names []).lookup x=some c:=by
 have q:=PySem.W.cellsFrom_some sc.names n [] (.inl h);exact Option.isSome_iff_exists.mp q
theorem wM {CX:AY}{P:UY}{w:Vc}{K:PySem.W.Frag}{mg:Str->Option UQ}{base:Heap}{N ps:List Str}{qual:Str}{scope:XA}{f:Addr}{cd:UQ}{A:V6}{outer:List Env}{s s1:UT}{H:Hp}{E:XK}{us:List UQ}{vs:List V}
  (S:aP N ps scope) (hd:A.handled=none) (e0:DD P w K mg base A outer s H) (hl:vs.length=ps.length) (r:Vals vs us)
  (x:InCallC s s.heap.objs.size (bindL (X9 qual scope s.heap.objs.size f cd).kindOf (ps.zip us) λ_=>none) (cellsFrom (s.heap.objs.size+1) scope.names []) (bindC (X9 qual scope s.heap.objs.size f cd).kindOf (ps.zip us) λ_=>none) s1) :
  Inv (mE CX P w K mg base N qual scope f cd A outer s H E) [] (start N vs) H s1:=by
 have hpl:ps.length<=N.length:=by have:=congrArg List.length S.pre;rw[VV]at this;lia
 obtain⟨h1,tk,rfl,hk⟩:=x.done;have Jp:∀b:Addr,b∉(mE CX P w K mg base N qual scope f cd A outer s H E).ex:=λb z=>absurd (show b∈([]:List Addr) from z) (by simp)
 refine⟨⟨e0.mod,S.kind,rfl,rfl,US _,λy z c h1 h2=>?_,λy hy=>?_,λy c _ h=>?_,λ_=>hd,Around.frames_deeper e0.frames,.inr ⟨rfl,rfl⟩,λb z=>absurd z (Jp b),e0.bs,e0.EB,λb _ _=>Jp b,λb z=>absurd z (Jp b),e0.lF,e0.HX⟩,
  rfl,e0.bare,Un.kept hk,⟨_,x.toInCall.ns,λi y v h1 h2 h3=>?_⟩,λy c h=>⟨_,x.cell y c h⟩,e0.bA.fresh (US _),λy c h=>?_,λp hp=>absurd (show p∈([]:List (Addr×Obj)) from hp) (by simp),e0.bA.kept hk,?_⟩
 ·exact name_of_addr x.apart (PySem.mem_of_lookup h1) (PySem.mem_of_lookup h2)
 ·have hy:scope.names.lookup y=some .cell\/scope.names.lookup y=some .free:=hy;rcases hy with hy|hy
  ·exact rO hy
  ·exact absurd rfl (S.FW _ (PySem.mem_of_lookup hy))
 ·exact Nat.le_of_lt (x.above y c (PySem.mem_of_lookup h))
 ·have hi:i<vs.length:=by
   unfold start at h2
   by_cases hi:i<vs.length
   ·exact hi
   ·rw[VN (by simpa using hi)]at h2
    rw[List.getElem?_replicate]at h2
    split at h2 <;> cases h2
  have ha:vs[i]?=some v:=by
   unfold start at h2;rw[Wc (by simpa using hi),Vd]at h2
   cases e:vs[i]? with
   |none=>rw[e]at h2;cases h2
   |some a=>rw[e]at h2;cases h2;rfl
  obtain⟨u,hu,rv⟩:=r.get ha;have hp:ps[i]?=some y:=by
   rw[<- S.pre,List.getElem?_take_of_lt (by lia)];exact h1
  have Qd:ps.Nodup:=by rw[<- S.pre];exact S.nd.sublist (List.take_sublist _ _)
  refine⟨u,rv,?_⟩;rcases S.par y (VG hp)with k|k
  ·exact .inl ⟨k,nK Qd hp hu k⟩
  ·obtain⟨c,e⟩:=rO (n:=s.heap.objs.size+1) k;refine .inr ⟨.inl k,c,e,?_⟩;have q:=x.cell y c e;rw[nM Qd hp hu (by show scope.names.lookup y≠_;rw[k];decide)]at q
   exact q
 ·exact e0.bA.fresh (Nat.le_of_lt (x.above y c (PySem.mem_of_lookup h)))
 ·unfold start;show _=N.length;rw[U_,UR,Yo];lia
theorem Lg {CX:AY}{P:UY}{w:Vc}{K:PySem.W.Frag}{mg:Str->Option UQ}{base:Heap}{k:Nat}{f:Addr}{name qual:Str}{params:Arguments}{body:List Stmt}{scope:XA}{dV kV doc pm cV ct oc:UQ}{an od:Option Addr}
  {FI:Array (Option UQ)} {N ps:List Str} {sp:Sp} (lk:K.lookup f=some ⟨oc,od,.func (PySem.W.fnOf name qual params body scope dV kV doc pm an cV ct),FI⟩) (c7:PySem.W.codeIn K cV qual=true) (S:aP N ps scope)
  (len:∀vs H Q E,sp vs H Q E->vs.length=ps.length)
  (lD:∀(A:V6) (outer:List Env) (s:UT) (H:Hp) (vs:List V) (Q:VK) (E:XK),cL k (A.deeper (X9 qual scope s.heap.objs.size f cV))->sp vs H Q E ->
   ∃t,r9 (mE CX P w K mg base N qual scope f cV A outer s H E) body t/\t {nx:=λ_ H'=>Q .bC H',rt:=Q} (start N vs) H) :
  aX P w K mg base CX (k+1) f (PySem.W.fnOf name qual params body scope dV kV doc pm an cV ct) ps sp:=by
 refine⟨len,λA outer s H args us vs Q E hr e0 hb r iy=>?_⟩;have hl:=len _ _ _ _ iy;have KX:K.In s.heap:=e0.mod.Nw.keeps λb o e=>(e0.bs b o e).1;have lim:s.heap.NoLimit:=e0.mod.nolimit.keeps λb o e=>(e0.bs b o e).1;have KY:∀y∈ps.zip us,scope.names.lookup y.1=some .local\/(scope.names.lookup y.1=some .cell/\((cellsFrom (s.heap.objs.size+1) scope.names []).lookup y.1).isSome=true):=λNW hy=>by
  obtain⟨n,v⟩:=NW;rcases S.par n (Yl hy).1 with q|q
  ·exact .inl q
  ·exact .inr ⟨q,PySem.W.cellsFrom_some _ _ _ (.inl q)⟩
 refine codeAny_call_function hr.depth (KX _ _ lk) rfl S.co S.gen rfl (PySem.W.codeRec_of KX c7) (hb _ _ _ _ ?_);refine wpAny_newFunctionEnv_cells S.kind KY λenv he s1 x=>?_;subst he;refine⟨lim.keeps x.toInCall.keep,codeAny_func ?_⟩;obtain⟨t,ht,hq⟩:=lD A outer s H vs Q E (hr.deeper _) iy;have I:Inv (mE CX P w K mg base N qual scope f cV A outer s H E) [] (start N vs) H s1:=wM S hr.hd e0 hl r x;refine XW (ht [] s1 (start N vs) H _ I hq) (λfl s' hs=>?_) λe s' hs=>hs;have fin:∀{σ':St} {H':Hp} {v:V} {u:UQ},Inv (mE CX P w K mg base N qual scope f cV A outer s H E) [] σ' H' s'->RelV v u->Q v H'->CE outer P w H s Q u s' :=
  λ{σ' H' v u} J rv q=>⟨v,H',J.os,J.bare,J.base,J.bA,rv,q⟩
 cases fl with
 |ret u =>
  obtain⟨v,σ',H',J,rv,q⟩:=hs;exact fin J rv q
 |next =>
  obtain⟨σ',H',J,q⟩:=hs;exact fin (v:=V.bC) (u:=Value.none) J rfl q
 |brk =>
  obtain⟨_,_,_,q⟩:=hs;exact Xa q
 |cont =>
  obtain⟨_,_,_,q⟩:=hs;exact Xa q
section
variable {X:Cx}{x:Str}{p pos:Pos}{e:Expr}{es:List Expr}{t:TA}{id T:String}{r:List V->Hp->VK->Prop}
def MG (r:List V->Hp->VK->Prop)(t:TA):TE:=λσ H Q=>t σ H λvs H1=>r vs H1 Q
theorem cU (hc:fv X (.builtin id) r) (hg:Gl X x) (hm:X.mg x=none) (hv:VO x=some (.builtin id)) (ha:PA X (e::es) t) (hn:x≠"__name__" := by decide) (hdb:(x==("__debug__" : Str))=false:=by decide)
  (he:U5 (e::es) X.env=(false,eval e X.env)::U5 es X.env:=by rfl) (hpl:(Wq pos (U5 es X.env)).any (·.1)=false:=by rfl):PE X (.Call (.Name x p) (e::es) [] pos) (MG r t):=by
 intro pins s σ H Q I h;refine Yw (gN I hg hm hv ?_ hn hdb);exact PyProof.Rows.callWith_builtin1 (bj (ha pos pins s σ H _ I h) λus s1 NV=>by obtain⟨vs,H1,I1,r1,q1⟩:=NV;exact hc pins s1 σ H1 vs us Q I1 r1 q1) he hpl
theorem we (hc:fv X (.type T) r) (hg:Gl X x) (hm:X.mg x=none) (hv:VO x=some (.type T)) (ha:PA X (e::es) t) (hn:x≠"__name__" := by decide) (hdb:(x==("__debug__" : Str))=false:=by decide)
  (he:U5 (e::es) X.env=(false,eval e X.env)::U5 es X.env:=by rfl) (hpl:(Wq pos (U5 es X.env)).any (·.1)=false:=by rfl):PE X (.Call (.Name x p) (e::es) [] pos) (MG r t):=by
 intro pins s σ H Q I h;refine Yw (gN I hg hm hv ?_ hn hdb);exact Wy (bj (ha pos pins s σ H _ I h) λus s1 NU=>by obtain⟨vs,H1,I1,r1,q1⟩:=NU;exact hc pins s1 σ H1 vs us Q I1 r1 q1) he hpl
end
end L2
namespace HT
open PySem PyProof.Rows
def lexLt:List Int->List Int->Bool
 |[],[]=>false
 |[],_::_=>true
 |_::_,[]=>false
 |x::xs,y::ys=>if x=y then lexLt xs ys else decide (x<y)
theorem cg (x y:Int)(xs ys:List Int):lexLt (x::xs) (y::ys)=if x=y then lexLt xs ys else decide (x<y):=rfl
theorem Ag (A:V6)(s:UT)(a:Int)(t:Tok)(c:Int)(u:Tok):∃e,SeqAt.EqAt A s (.int a t) (.int c u) e/\(e=true↔a=c) :=
 ⟨(a==c),SeqAt.EqAt.int_int a t c u,by simp⟩
section
open PySem.SeqAt
open PySem.AutoSeq1 (wpAny_loadPart')
open PySem.MeetsSeq PySem.MeetsSeq2 PySem.MeetsSeq3
end
section
def jW (n d:Nat):Option Int->Nat
 |none=>d
 |some v=>if v<0 then (v+(n:Int)).toNat else min v.toNat n
theorem qf (n d:Nat):jW n d none=d:=rfl
theorem BK (n d k:Nat):jW n d (some (k:Int))=min k n:=by
 show (if (k:Int)<0 then ((k:Int)+(n:Int)).toNat else min (k:Int).toNat n)=min k n
 rw[if_neg (by lia),WL]
end
end HT
namespace L2
open PySem PySem.Spec PyProof.Rows
abbrev TO:=St->Hp->(Option Int->Hp->Prop)->Prop
def PO (X:Cx)(e:Option Expr)(t:TO):Prop :=
 ∀(pins:List (Addr×Obj)) (s:UT) (σ:St) (H:Hp) (Q:Option Int->Hp->Prop),Inv X pins σ H s->t σ H Q ->
  Vy (model X.prog X.w) X.A (evalPart e X.env) (λu s'=>∃o H',Inv X pins σ H' s'/\IsPart u o/\Q o H') X.xe s
def Bw:TO:=λ_ H Q=>Q none H
def Io (t:TE):TO:=λσ H Q=>t σ H λx H1=>∃i,x=.int i/\Q (some i) H1
theorem intsAre_of {ns:List Int}:∀{us:List UQ},Vals (ns.map V.int) us->WW us ns:=by
 induction ns with
 |nil=>intro us r;rw[Yb]at r;cases r;exact .nil
 |cons n ns ih =>
  intro us r;rw[Vj]at r;cases r with
  |cons r1 r2 =>
   obtain⟨t,e⟩:=r1;subst e;exact .cons n t (ih r2)
section
variable {X:Cx}{e:Expr}{te:TE}{lo hi:Option Expr}{tl th:TO}{pos p2:Pos}
theorem uK:PO X none Bw:=by
 intro pins s σ H Q I h;rw[evalPart_none];exact Vl ⟨none,H,I,.none,h⟩
theorem uJ (h:PE X e te):PO X (some e) (Io te):=by
 intro pins s σ H Q I hw;rw[evalPart_some];refine bj (h pins s σ H _ I hw) λu s1 ⟨x,H1,I1,r1,q1⟩=>?_;obtain⟨i,rfl,q⟩:=q1;obtain⟨t,rfl⟩:=r1;exact⟨some i,H1,I1,.int i t,q⟩
def Pn (X:Cx)(r:V->Option Int->Option Int->Hp->VK->Prop):Prop :=
 ∀(pins:List (Addr×Obj)) (s:UT) (σ:St) (H:Hp) (x:V) (v vl vu:UQ) (lo hi:Option Int) (sl:Addr) (Q:VK),Inv X pins σ H s->RelV x v->s.heap.IsSliceOf sl vl vu .none->IsPart vl lo->IsPart vu hi->r x lo hi H Q ->
  ∃T id,typeLookup (.type T) "__getitem__" = pure (some (.builtin id))/\s.TypeIs v T/\Vy (model X.prog X.w) X.A (Y5 v (.ref sl)) (EP X pins σ Q) X.xe s
def Rj (r:V->Option Int->Option Int->Hp->VK->Prop)(te:TE)(tl th:TO):TE:=λσ H Q=>te σ H λx H1=>tl σ H1 λl H2=>th σ H2 λu H3=>r x l u H3 Q
theorem qr {r:V->Option Int->Option Int->Hp->VK->Prop}(hr:Pn X r)(he:PE X e te)(hl:PO X lo tl)(hu:PO X hi th):PE X (.Subscript e (.Slice lo hi none p2) pos) (Rj r te tl th):=by
 intro pins s σ H Q I h;refine Subscript_ (bj (he pins s σ H _ I h) λv s1 ⟨x,H1,I1,r1,q1⟩=>?_);refine wpAny_Slice (bj (hl pins s1 σ H1 _ I1 q1) λvl s2 ⟨l,H2,I2,pl,q2⟩=>bj (hu pins s2 σ H2 _ I2 q2) λvu s3 ⟨u,H3,I3,pu,q3⟩=>?_);rw[evalPart_none];refine Vl ?_;have I4:Inv X pins σ H3 {s3 with heap:=s3.heap.push {cls:=.type "slice",data:=.fields #[vl,vu,.none]}}:=I3.kept (t':=s3.toks) λb ob q=>Vg _ q
 obtain⟨T,id,hT,ht,hg⟩:=hr pins {s3 with heap:=s3.heap.push {cls:=.type "slice",data:=.fields #[vl,vu,.none]}} σ H3 x v vl vu l u s3.heap.objs.size Q I4 r1 (Heap.IsSliceOf.new ..) pl pu q3
 show Vy (model X.prog X.w) X.A (subscriptTail e (.Slice lo hi none p2) v (.ref s3.heap.objs.size)) (EP X pins σ Q) X.xe {s3 with heap:=s3.heap.push {cls:=.type "slice",data:=.fields #[vl,vu,.none]}}
 exact tail_any (ops:=[.ref s3.heap.objs.size,v]) ht hT hg (by with_unfolding_all rfl)
def rM (xs:List V)(lo hi:Option Int):List V:=(xs.drop (HT.jW xs.length 0 lo)).take (HT.jW xs.length xs.length hi-HT.jW xs.length 0 lo)
theorem rL (xs:List V)(lo hi:Option Int):(rM xs lo hi).length<=xs.length:=by
 unfold rM;rw[VV,List.length_drop];lia
end
def mw (n:Nat)(i:Int):Option Nat:=if 0<=i then (if i<n then some i.toNat else none) else if -(n:Int)<=i then some (i+n).toNat else none
def gU {α:Type}(xs:List α)(i:Int):Option α:=(mw xs.length i).bind λj=>xs[j]?
theorem u4 {n:Nat}{i:Int}{j:Nat}(h:mw n i=some j):seqIndex? i n=some j/\j<n/\-(n:Int)<=i/\i<n:=by
 unfold mw at h
 by_cases h0:0<=i
 ·rw[if_pos h0]at h
  by_cases h1:i<n
  ·rw[if_pos h1]at h;have e:i.toNat=j:=VL h;exact⟨by rw[YR h0 h1,e],by lia,by lia,h1⟩
  ·rw[if_neg h1]at h;cases h
 ·rw[if_neg h0]at h
  by_cases h1:-(n:Int)<=i
  ·rw[if_pos h1]at h;have e:(i+n).toNat=j:=VL h;exact⟨by rw[YG (by lia) h1,e],by lia,h1,by lia⟩
  ·rw[if_neg h1]at h;cases h
theorem pA {α:Type}{xs:List α}{i:Int}{v:α}(h:gU xs i=some v):∃j,seqIndex? i xs.length=some j/\xs[j]?=some v/\j<xs.length/\-(xs.length:Int)<=i/\i<xs.length:=by
 unfold gU at h;cases e:mw xs.length i with
 |none=>rw[e]at h;cases h
 |some j =>
  rw[e]at h;obtain⟨h1,h2,h3,h4⟩:=u4 e;exact⟨j,h1,h,h2,h3,h4⟩
def d8 (b:Expr):Prop:=∀o i,subscripted b false o i=operate [o,i] (Y5 o i)
def Bf (X:Cx)(r:R2):Prop :=
 ∀(value slice:Expr) (pins:List (Addr×Obj)) (s:UT) (σ:St) (H:Hp) (x y:V) (v u:UQ) (Q:VK),Inv X pins σ H s->RelV x v->RelV y u->r x y H Q ->
  subscripted slice false v u=operate [v,u] (Y5 v u)->Vy (model X.prog X.w) X.A (subscriptTail value slice v u) (EP X pins σ Q) X.xe s
def Pq (X:Cx)(id:String)(r:V->List V->Hp->VK->Prop):Prop :=
 ∀(pins:List (Addr×Obj)) (s:UT) (σ:St) (H:Hp) (x:V) (xs:List V) (v:UQ) (us:List UQ) (Q:VK),Inv X pins σ H s->RelV x v->Vals xs us->r x xs H Q ->
  Vy (model X.prog X.w) X.A (call (.builtin id) (v::us)) (EP X pins σ Q) X.xe s
section
variable {X:Cx}{a b:Expr}{ta tb:TE}{pos:Pos}
theorem cT {r:R2}(hr:Bf X r)(ha:PE X a ta)(hb:PE X b tb)(hs:d8 b):PE X (.Subscript a b pos) (Ip r ta tb):=by
 intro pins s σ H Q I h;exact Subscript_ (Ho ha hb I h λv u s2 x y H2 I2 rx ry q=>hr a b pins s2 σ H2 x y v u Q I2 rx ry q (hs _ _))
def yw (K:PySem.W.Frag):R2:=λx y H Q=>∃p xs i v,x=.ref p/\y=.int i/\b3 K H p xs/\gU xs i=some v/\Q v H
def BM (K:PySem.W.Frag):R2:=λx y H Q=>∃p xs i v,x=.ref p/\y=.int i/\rZ K H p xs/\gU xs i=some v/\Q v H
theorem bw:Bf X (yw X.K):=by
 intro value slice pins s σ H x y v u Q I rx ry h hs;obtain⟨p,xs,i,z,rfl,rfl,hq,he,q⟩:=h;cases rx;obtain⟨t,rfl⟩:=ry;obtain⟨its,r,pl,hz⟩:=I.list hq;obtain⟨j,h1,h2,h3,h4,h5⟩:=pA he;obtain⟨w,ew,yp⟩:=r.get h2;have hl:=r.length;have hn:=lr;have fin:EP X pins σ Q w s:=⟨z,H,I,yp,q⟩
 by_cases h0:0<=i
 ·have hj:i.toNat=j:=by
   rw[YR h0 h5]at h1;exact VL h1
  exact item_listR pl.isList h0 (by lia) (by rw[hj];simpa using ew) fin hs
 ·have hj:(i+(its.toArray.size:Int)).toNat=j:=by
   rw[YG (by lia) h4]at h1
   rw[Vk,<- hl];exact VL h1
  exact subscriptTail_builtinR (x:=w) pl.isList.typeIs YF.lookup
   (wpAny_getItem_list_neg (Q:=λr s'=>r=w/\EP X pins σ Q r s') pl.isList (by lia) (by rw[Vk] <;> lia) (by lia) (by rw[hj];simpa using ew) ⟨rfl,fin⟩) hs
theorem oW:Bf X (BM X.K):=by
 intro value slice pins s σ H x y v u Q I rx ry h hs;obtain⟨p,xs,i,z,rfl,rfl,hq,he,q⟩:=h;cases rx;obtain⟨t,rfl⟩:=ry;obtain⟨its,r,pl,hz⟩:=I.tuple hq;obtain⟨j,h1,h2,h3,h4,h5⟩:=pA he;obtain⟨w,ew,yp⟩:=r.get h2;have hl:=r.length;have hn:=lr;have fin:EP X pins σ Q w s:=⟨z,H,I,yp,q⟩;exact subscriptTail_builtinR (x:=w) pl.typeIs slot_tuple_getitem.lookup
  (getItem_tuple (j:=j) (Q:=λr s'=>r=w/\EP X pins σ Q r s') pl (by lia) (by lia) (by rw[Vk,<- hl];exact h1) (by simpa using ew) ⟨rfl,fin⟩) hs
theorem tE (its:List UQ)(n j:Nat)(u:UQ):W_ (·.setIfInBounds j u) {cls:=.type "list",data:=.seq its.toArray n}={cls:=.type "list",data:=.seq (its.set j u).toArray n}:=by
 simp[W_]
theorem Inv.lst {pins:List (Addr×Obj)}{σ:St}{H:Hp}{s:UT}{p:Addr}{xs:List V}(I:Inv X pins σ H s)(h:H p=some (.lst xs)):
  ∃(its:List UQ) (n:Nat),Vals xs its/\s.heap.get? p=some {cls:=.type "list",data:=.seq its.toArray n}/\xs.length<=U8:=by
 obtain⟨z,its,n,r,e⟩:=I.bA p _ h;exact⟨its,n,r,e,z⟩
theorem Inv.F3 {pins:List (Addr×Obj)}{σ:St}{H:Hp}{s:UT}{p:Addr}{xs ys:List V}{its its':List UQ}{n n':Nat}{f:Obj->Obj}(I:Inv X pins σ H s)(h:H p=some (.lst xs))
  (ho:s.heap.get? p=some {cls:=.type "list",data:=.seq its.toArray n}) (hf:f {cls:=.type "list",data:=.seq its.toArray n}={cls:=.type "list",data:=.seq its'.toArray n'}) (r:Vals ys its') (hz:ys.length<=U8) (t:Nat) :
  Inv X pins σ (upd H p (.lst ys)) {s with heap:=s.heap.update p f,toks:=t}:=by
 have e:(s.heap.update p f).get? p=some {cls:=.type "list",data:=.seq its'.toArray n'}:=by
  rw[Heap.get?_update_self f ho (by rw[hf] <;> rfl),hf]
 refine I.write (x:=p) (e:=p) (by rw[h];trivial) (.inl rfl) (λb u hb q=>(Heap.get?_update_other _ _ (WO hb)).trans q) ⟨_,e⟩ ?_
 exact⟨hz,its',n',r,e⟩
def IJ:V->V->V->Hp->(Hp->Prop)->Prop:=λo i v H Q=>∃p xs k j,o=.ref p/\i=.int k/\H p=some (.lst xs)/\mw xs.length k=some j/\Q (upd H p (.lst (xs.set j v)))
theorem set_list:Hw X IJ:=by
 intro pins s σ H o i v ov iv u Q I ro ri rv h;obtain⟨p,xs,k,j,rfl,rfl,hp,hj,q⟩:=h;cases ro;obtain⟨t,rfl⟩:=ri;obtain⟨its,n,r,ho,hz⟩:=I.lst hp;obtain⟨h1,h2,h3,h4⟩:=u4 hj;have hl:=r.length;have hn:=lr;have I':Inv X pins σ (upd H p (.lst (xs.set j v))) {s with heap:=s.heap.update p (W_ (·.setIfInBounds j u))} :=
  I.F3 hp ho (tE its n j u) (r.set rv j) (by rw[YZ];exact hz) s.toks
 by_cases h0:0<=k
 ·have hk:k.toNat=j:=by
   rw[YR h0 h4]at h1;exact VL h1
  exact PySem.W.ki_setAt ho h0 (by lia) (by rw[Vk,<- hl];exact h4) (by rw[hk];exact⟨_,I',q⟩)
 ·have hk:(k+(its.toArray.size:Int)).toNat=j:=by
   rw[YG (by lia) h3]at h1
   rw[Vk,<- hl];exact VL h1
  exact PySem.W.ki_setBack ho (by lia) (by rw[Vk,<- hl];exact h3) (by lia) (by rw[hk];exact⟨_,I',q⟩)
theorem oj (lo hi:Option Int)(n:Nat):(WV lo hi none n).1=((HT.jW n 0 lo:Nat):Int)/\(WV lo hi none n).2.1=((HT.jW n n hi:Nat):Int)/\(WV lo hi none n).2.2=1:=by
 refine⟨?_,?_,rfl⟩
 ·cases lo with
  |none=>simp[WV,HT.jW]
  |some i =>
   simp only[WV,HT.jW,Option.getD_none,show (1:Int)>0 by decide,if_true]
   by_cases h:i<0
   ·simp only[h,if_true] <;> lia
   ·simp only[h,if_false] <;> lia
 ·cases hi with
  |none=>simp[WV,HT.jW]
  |some i =>
   simp only[WV,HT.jW,Option.getD_none,show (1:Int)>0 by decide,if_true]
   by_cases h:i<0
   ·simp only[h,if_true] <;> lia
   ·simp only[h,if_false] <;> lia
theorem mf (its:List UQ)(lo hi:Option Int):slicePick its.toArray lo hi none=((its.drop (HT.jW its.length 0 lo)).take (HT.jW its.length its.length hi-HT.jW its.length 0 lo)).toArray:=by
 obtain⟨h1,h2,h3⟩:=oj lo hi its.toArray.size;unfold slicePick;rw[h1,h2,h3];simp only[sliceRange_one,pick_run,Vk] <;> rfl
def MS (K:PySem.W.Frag):V->Option Int->Option Int->Hp->VK->Prop:=λx lo hi H Q=>∃a xs,x=.ref a/\b3 K H a xs/\∀p,H p=none->Q (.ref p) (upd H p (.lst (rM xs lo hi)))
theorem uz:Pn X (MS X.K):=by
 intro pins s σ H x v vl vu lo hi sl Q I rx hs pl pu h;obtain⟨a,xs,rfl,hx,q⟩:=h;cases rx;obtain⟨its,r,ht,hz⟩:=I.list hx;have hlen:=r.length;refine⟨"list",_,YF.lookup,ht.isList.typeIs,?_⟩;refine wpAny_getItem_list_slice ht.isList hs pl pu .none (by simp) ?_ (by rw[Vk] <;> lia)
 rw[mf,<- hlen];refine⟨.ref s.heap.objs.size,_,I.laid (t':=s.toks) (o:=.lst (rM xs lo hi)) (λb ob q=>Vg _ q) (US _) ?_,rfl,q _ (I.bA.fresh (US _))⟩;exact⟨VB (rL xs lo hi) hz,_,0,(r.drop (HT.jW xs.length 0 lo)).take (HT.jW xs.length xs.length hi-HT.jW xs.length 0 lo),VR _ rfl⟩
theorem bY:fv X (.builtin "len") (λxs H Q=>∃p ys,xs=[.ref p]/\(b3 X.K H p ys\/rZ X.K H p ys)/\Q (.int ys.length) H):=by
 intro pins s σ H xs us Q I r h;obtain⟨p,ys,rfl,hq,q⟩:=h;obtain⟨u,rfl,rx⟩:=vals1 r;cases rx;have hn:=lr;rcases hq with hq|hq
 ·obtain⟨its,r',pl,hz⟩:=I.list hq;have hlen:=r'.length;exact Calls.call_len_list pl.isList (by simp only[Vk] <;> lia) ⟨.int ys.length,H,I.tok _,⟨s.toks+1,by rw[Vk,hlen]⟩,q⟩
 ·obtain⟨its,r',pl,hz⟩:=I.tuple hq;have hlen:=r'.length;exact len_tuple pl (by simp only[Vk] <;> lia) ⟨.int ys.length,H,I.tok _,⟨s.toks+1,by rw[Vk,hlen]⟩,q⟩
theorem iH:fv X (.type "list") (λxs H Q=>∃p ys,xs=[.ref p]/\(b3 X.K H p ys\/rZ X.K H p ys)/\∀l,H l=none->Q (.ref l) (upd H l (.lst ys))):=by
 intro pins s σ H xs us Q I r h;obtain⟨p,ys,rfl,hq,q⟩:=h;obtain⟨u,rfl,rx⟩:=vals1 r;cases rx;have fin:∀(its:List UQ),Vals ys its->ys.length<=U8->∀(h':Heap) (c':Nat),(∀b o',s.heap.get? b=some o'->h'.get? b=some o') ->
   h'.get? s.heap.objs.size=some {cls:=.type "list",dict:=none,data:=.seq its.toArray c',slots:=#[]}->EP X pins σ Q (.ref s.heap.objs.size) {s with heap:=h'}:=λits r' hz h' c' kp e =>
  ⟨.ref s.heap.objs.size,_,I.laid (t':=s.toks) kp (US _) (show a6 X.prog X.w _ h' _ (.lst ys) from ⟨hz,its,c',r',e⟩),rfl,q _ (I.bA.fresh (US _))⟩
 rcases hq with hq|hq
 ·obtain⟨its,r',pl,hz⟩:=I.list hq;have hlen:=r'.length;obtain⟨o,ho,hc,n,hd⟩:=pl.isList;exact call_list_seq p (.inl rfl) ho hc hd (λh' c' kp e=>fin its r' hz h' c' kp e) (by simp only[Vk] <;> lia)
 ·obtain⟨its,r',pl,hz⟩:=I.tuple hq;have hlen:=r'.length;obtain⟨o,ho,hc,n,hd⟩:=pl;exact call_list_seq p (.inr rfl) ho hc hd (λh' c' kp e=>fin its r' hz h' c' kp e) (by simp only[Vk] <;> lia)
def HE (K:PySem.W.Frag)(T:String)(x:V)(H:Hp):Prop:=match x with
 |.str _=>T="str"
 |.int _=>T="int"
 |.ref p=>(T="list" /\ ∃xs,b3 K H p xs)\/(T="tuple" /\ ∃o,K.lookup p=some o/\o.cls=.type "tuple" /\ o.dict=none) \/
   (T="dict" /\ ((∃kvs,H p=some (.dK kvs))\/∃kvs,H p=some (.dT kvs)))\/(T="set" /\ ∃S n,H p=some (.set S n))
 |_=>False
theorem xR {pins:List (Addr×Obj)}{σ:St}{H:Hp}{s:UT}{T:String}{x:V}{v:UQ}(I:Inv X pins σ H s)(r:RelV x v)(ty:HE X.K T x H):
  s.TypeIs v T/\∀a,v=.ref a->∃ob,s.heap.get? a=some ob/\ob.dict=none:=by
 cases x with
 |str z =>
  obtain⟨t,rfl⟩:=r;cases (show T="str" from ty)
  exact⟨typeIs_str s z t,λ_ e=>nomatch e⟩
 |int i =>
  obtain⟨t,rfl⟩:=r;cases (show T="int" from ty)
  exact⟨typeIs_int s i t,λ_ e=>nomatch e⟩
 |ref p =>
  cases r;rcases ty with⟨rfl,xs,hq⟩|⟨rfl,o,hk,hc,hd⟩|⟨rfl,hk⟩|⟨rfl,S,n,hk⟩
  ·obtain⟨its,_,pl,_⟩:=I.list hq;refine⟨pl.isList.typeIs,λa e=>?_⟩;cases e;obtain⟨o,n,e,c,hd,_⟩:=pl;exact⟨o,e,hd⟩
  ·refine⟨⟨o,I.ja p o hk,hc⟩,λa e=>?_⟩;cases e;exact⟨o,I.ja _ o hk,hd⟩
  ·have z:∃o,s.heap.get? p=some o/\o.ExactDict:=by
    rcases hk with⟨kvs,hk⟩|⟨kvs,hk⟩
    ·obtain⟨_,_,_,_,o,_,_,e,ex,_⟩:=I.bA p _ hk;exact⟨o,e,ex⟩
    ·obtain⟨_,_,_,_,o,_,_,e,ex,_⟩:=I.bA p _ hk;exact⟨o,e,ex⟩
   obtain⟨o,e,ex⟩:=z;refine⟨⟨o,e,ex.1⟩,λa e2=>?_⟩;cases e2;exact⟨o,e,ex.2.1⟩
  ·obtain⟨o,_,_,_,e,ex,_⟩:=I.bA p _ hk;refine⟨⟨o,e,ex.1⟩,λa e2=>?_⟩;cases e2;exact⟨o,e,ex.2.1⟩
 |_=>exact Xa ty
def MH (K:PySem.W.Frag)(T:String)(r:V->List V->Hp->VK->Prop)(to:TE):TE:=λσ H Q=>to σ H λx H1=>HE K T x H1/\r x [] H1 Q
def Rl (K:PySem.W.Frag)(T:String)(r:V->List V->Hp->VK->Prop)(to:TE)(t:TA):TE:=λσ H Q=>to σ H λx H1=>HE K T x H1/\t σ H1 λxs H2=>r x xs H2 Q
variable {o e:Expr}{es:List Expr}{to:TE}{t:TA}{name:Str}{apos cpos:Pos}{T id:String}{r:V->List V->Hp->VK->Prop}
theorem yO (pa:PlainAttrs T) (slot:Slot T name id) (JR:typeOf (.builtin id)=pure (.type "method_descriptor")) (hm:Pq X id r) (ho:PE X o to)
  (b5:Wr o name X.env (eval o X.env)=eval o X.env:=by rfl) (b4:(apos.endLine==cpos.line)=true:=by rfl):PE X (.Call (.Attribute o name apos) [] [] cpos) (MH X.K T r to):=by
 intro pins s σ H Q I h;refine wpAny_Call_method0_late b5 b4 (bj (ho pins s σ H _ I h) λv s1 ⟨x,H1,I1,r1,ty,q1⟩=>?_);obtain⟨h1,h2⟩:=xR I1 r1 ty;exact⟨T,id,pa,slot,JR,h1,h2,Calls.callWith_builtin rfl (PySem.evalArgs_none (hm pins s1 σ H1 x [] v [] Q I1 r1 .nil q1))⟩
theorem kU (pa:PlainAttrs T) (slot:Slot T name id) (JR:typeOf (.builtin id)=pure (.type "method_descriptor")) (hm:Pq X id r) (ho:PE X o to) (ha:PA X (e::es) t)
  (b5:Wr o name X.env (eval o X.env)=eval o X.env:=by rfl)
  (gO:((Wq cpos (U5 (e::es) X.env)).all (λx=>!x.1)&&(X5 cpos (Xp [] X.env)).all (λx=>x.1.isSome)
   && decide ((e::es).length+([]:List W6).length+(if ([]:List W6).isEmpty then 0 else 1)<30))=true:=by rfl)
  (b4:(apos.endLine==cpos.line)=true:=by rfl) (hs:U5 (e::es) X.env=(false,eval e X.env)::U5 es X.env:=by rfl) (cj:(Wq cpos (U5 es X.env)).any (·.1)=false:=by rfl) :
  PE X (.Call (.Attribute o name apos) (e::es) [] cpos) (Rl X.K T r to t):=by
 intro pins s σ H Q I h;refine wpAny_Call_method_late b5 gO b4 rfl (bj (ho pins s σ H _ I h) λv s1 ⟨x,H1,I1,r1,ty,q1⟩=>?_);obtain⟨h1,h2⟩:=xR I1 r1 ty;refine⟨T,id,pa,slot,JR,h1,h2,?_⟩;have hA:=ha cpos pins s1 σ H1 _ I1 q1;rw[hs]at hA ⊢
 refine Calls.callWith_builtin (by show (false || (Wq cpos (U5 es X.env)).any (·.1))=false;rw[cj] <;> rfl) (Calls.evalArgs_plain ?_)
 exact bj hA λus s2 ⟨vs,H2,I2,r2,q2⟩=>hm pins s2 σ H2 x vs v us Q I2 r1 r2 q2
end
def Pr (X:Cx)(id:String)(r:V->List V->Hp->VK->Prop):Prop :=
 ∀(pins:List (Addr×Obj)) (s:UT) (σ:St) (H:Hp) (x:V) (xs:List V) (v:UQ) (us:List UQ) (Q:VK),Inv X pins σ H s->RelV x v->Vals xs us->r x xs H Q ->
  Vy (model X.prog X.w) X.A (call (.builtin id) (v::us)) (EP X pins σ Q) X.xe s
theorem Vals.one:∀{x:V} {us:List UQ},Vals [x] us->∃u,us=[u]/\RelV x u
 |_,_,.cons r .nil=>⟨_,rfl,r⟩
theorem Vals.zero:∀{us:List UQ},Vals [] us->us=[]
 |_,.nil=>rfl
theorem Vals.dropLast {xs:List V}{us:List UQ}(h:Vals xs us):Vals xs.dropLast us.dropLast:=by
 induction h with
 |nil=>exact .nil
 |cons r t ih =>
  cases t with
  |nil=>exact .nil
  |cons q t'=>exact .cons r ih
theorem Vals.rep {xs:List V}{us:List UQ}(h:Vals xs us):∀k:Nat,Vals (U9 k xs).flatten (U9 k us).flatten
 |0=>.nil
 |k+1=>by
  rw[Wd,Wd,W5,W5];exact Vals.append h (Vals.rep h k)
theorem tY {α:Type}(l:List α):l.eraseIdx (l.length-1)=l.dropLast:=by
 induction l with
 |nil=>rfl
 |cons a r ih =>
  cases r with
  |nil=>rfl
  |cons b r =>
   have e:(a::b::r).length-1=((b::r).length-1)+1:=by
    have h1:(a::b::r).length=r.length+2:=rfl;have h2:(b::r).length=r.length+1:=rfl;lia
   rw[e,List.eraseIdx_cons_succ,ih]
   all_goals rfl
theorem foldl_rep (its:List UQ):∀(k:Nat) (acc:List UQ),
  Yc (λx1 x2=>x1++x2) acc.toArray (U9 k its.toArray)=(acc++(U9 k its).flatten).toArray
 |0,acc=>by simp
 |k+1,acc=>by
  have e:acc.toArray++its.toArray=(acc++its).toArray:=by simp
  have e2:(acc++its)++(U9 k its).flatten=acc++(U9 (k+1) its).flatten:=by
   rw[Wd,W5,VP]
  rw[<- e2,<- foldl_rep its k (acc++its),<- e,Wd,Wf]
section
variable {X:Cx}{pins:List (Addr×Obj)}{σ:St}{H:Hp}{s:UT}{l:Addr}{xs ys:List V}
theorem Inv.F5 {its its':List UQ}{n:Nat}{f:Array UQ->Array UQ}{t':Nat}(I:Inv X pins σ H s)(hH:H l=some (.lst xs))
  (e:s.heap.get? l=some {cls:=.type "list",data:=.seq its.toArray n}) (hf:f its.toArray=its'.toArray) (hv:Vals ys its') (hz:ys.length<=U8) :
  Inv X pins σ (upd H l (.lst ys)) {s with heap:=s.heap.update l (W_ f),toks:=t'}:=by
 have q:=PySem.IsL.update e f;rw[hf]at q;refine I.write (x:=l) (e:=l) (by rw[hH];exact trivial) (.inl rfl) (λb' u hb hu=>(Heap.get?_update_other s.heap (W_ f) (WO hb)).trans hu) ⟨_,q⟩ ?_
 exact⟨hz,its',_,hv,q⟩
theorem Inv.F7 {its:List UQ}{t':Nat}(I:Inv X pins σ H s)(hv:Vals ys its)(hz:ys.length<=U8):
  Inv X pins σ (upd H s.heap.objs.size (.lst ys)) {s with heap:=s.heap.push {cls:=.type "list",data:=.seq its.toArray},toks:=t'} :=
 I.laid (λ_ _ q=>Vg _ q) (US _) ⟨hz,its,0,hv,VR _ rfl⟩
theorem Inv.fresh (I:Inv X pins σ H s):H s.heap.objs.size=none:=I.bA.fresh (US _)
theorem Inv.tF (I:Inv X pins σ H s)(hH:H l=some (.lst xs)):xs.length<=U8/\∃(its:List UQ) (n:Nat),Vals xs its/\xs.length=its.length/\s.heap.get? l=some {cls:=.type "list",data:=.seq its.toArray n}:=by
 obtain⟨z,its,n,r,e⟩:=I.bA l _ hH;exact⟨z,its,n,r,r.length,e⟩
theorem qE {n:Nat}(h:n<=U8):Xl n=false:=by
 unfold Xl;exact decide_eq_false (by lia)
end
section
variable {X:Cx}
def oC:V->List V->Hp->VK->Prop:=λx vs H Q=>∃l xs y,x=.ref l/\vs=[y]/\H l=some (.lst xs)/\xs.length<U8/\Q .bC (upd H l (.lst (xs++[y])))
theorem di:Pr X "list.append" oC:=by
 intro pins s σ H x vs v us Q I rx rv h;obtain⟨l,xs,y,rfl,rfl,hH,hz,q⟩:=h;cases rx;obtain⟨u,rfl,ru⟩:=rv.one;obtain⟨z,its,n,r,hl,e⟩:=I.tF hH;refine Yx F.slot_list_append ⟨_,e,rfl⟩ F.entry_list_append (F.args_list_append_2 _ _) (PySem.list_append l its.toArray n u (by rw[Vk];lia)) ⟨e,?_⟩
 refine⟨.bC,_,I.F5 (its':=its++[u]) hH e (by simp) (r.append (.cons ru .nil)) ?_,rfl,q⟩
 rw[U_,W3];lia
def BO:V->List V->Hp->VK->Prop:=λx vs H Q=>∃l b xs zs,x=.ref l/\vs=[.ref b]/\H l=some (.lst xs)/\H b=some (.lst zs)/\xs.length+zs.length<=U8/\Q .bC (upd H l (.lst (xs++zs)))
theorem wx:Pr X "list.extend" BO:=by
 intro pins s σ H x vs v us Q I rx rv h;obtain⟨l,b,xs,zs,rfl,rfl,hH,hB,hz,q⟩:=h;cases rx;obtain⟨u,rfl,ru⟩:=rv.one;cases ru;obtain⟨z,its,n,r,hl,e⟩:=I.tF hH;obtain⟨z2,qV,n2,r2,SM,e2⟩:=I.tF hB;have hsz:its.toArray.size+qV.toArray.size<=U8:=by rw[Vk,Vk];lia
 have zQ:¬ (!its.toArray.isEmpty&&Xl (its.toArray.size+qV.toArray.size))=true:=by
  rw[qE hsz,Zd];exact VE
 refine Yx F.slot_list_extend ⟨_,e,rfl⟩ F.entry_list_extend (F.args_list_extend_2 _ _)
  (AutoSeq1.list_extend_list_list_0 l its.toArray n b qV.toArray n2 zQ (by rw[Vk];lia) (by lia)) ⟨e,e2,?_⟩
 refine⟨.bC,_,I.F5 (its':=its++qV) hH e (by simp) (r.append r2) ?_,rfl,q⟩
 rw[U_];lia
def IL:V->List V->Hp->VK->Prop:=λx vs H Q=>∃l xs y,x=.ref l/\vs=[]/\H l=some (.lst xs)/\xs[xs.length-1]?=some y/\Q y (upd H l (.lst xs.dropLast))
theorem zi:Pr X "list.pop" IL:=by
 intro pins s σ H x vs v us Q I rx rv h;obtain⟨l,xs,y,rfl,rfl,hH,hy,q⟩:=h;cases rx;have Sl:=rv.zero;subst Sl;obtain⟨z,its,n,r,hl,e⟩:=I.tF hH;obtain⟨u,hu,ru⟩:=r.get hy;have Sh:its.toArray[its.toArray.size-1]?=some u:=by
  show its.toArray[its.length-1]?=some u;rw[<- Vo,<- hl];exact hu
 refine Yx F.slot_list_pop ⟨_,e,rfl⟩ F.entry_list_pop (F.args_list_pop_1 _) (MeetsSeq.list_pop_last l its.toArray n u Sh (by rw[Vk];lia)) ⟨e,?_⟩
 refine⟨y,_,I.F5 (its':=its.dropLast) hH e ?_ r.dropLast ?_,ru,q⟩
 ·show its.toArray.eraseIdxIfInBounds (its.toArray.size-1)=its.dropLast.toArray;rw[Vk,List.eraseIdxIfInBounds_toArray,tY]
 ·rw[List.length_dropLast];lia
def MX:R2:=λx y H Q=>∃l b xs zs,x=.ref l/\y=.ref b/\H l=some (.lst xs)/\H b=some (.lst zs)/\xs.length+zs.length<=U8/\∀p,H p=none->Q (.ref p) (upd H p (.lst (xs++zs)))
theorem zb:iJ X (WR .Add) MX:=by
 intro pins s σ H x y v u Q I rx ry h;obtain⟨l,b,xs,zs,rfl,rfl,hH,hB,hz,q⟩:=h;cases rx;cases ry;obtain⟨z,its,n,r,hl,e⟩:=I.tF hH;obtain⟨z2,qV,n2,r2,SM,e2⟩:=I.tF hB;refine PySem.P.add_list e e2 ?_ (by rw[Vk,Vk];lia)
 have ea:its.toArray++qV.toArray=(its++qV).toArray:=by simp
 rw[ea];exact⟨.ref _,_,I.F7 (t':=s.toks) (r.append r2) (by rw[U_];lia),rfl,q _ I.fresh⟩
def MU:R2:=λx y H Q=>∃l k xs,x=.ref l/\y=.int k/\H l=some (.lst xs)/\-(2 ^ 63)<=k/\k<2 ^ 63/\xs.length*k.toNat<=U8 /\
 ∀p,H p=none->Q (.ref p) (upd H p (.lst (U9 k.toNat xs).flatten))
theorem len_rep {α:Type}(xs:List α)(k:Nat):(U9 k xs).flatten.length=k*xs.length:=by
 induction k with
 |zero=>simp
 |succ k ih=>rw[Wd,W5,U_,ih,Nat.succ_mul,Nat.add_comm]
theorem FJ:iJ X (WR .Mult) MU:=by
 intro pins s σ H x y v u Q I rx ry h;obtain⟨l,k,xs,rfl,rfl,hH,h1,h2,hz,q⟩:=h;cases rx;obtain⟨t,rfl⟩:=ry;obtain⟨z,its,n,r,hl,e⟩:=I.tF hH;have hlen:its.toArray.size*k.toNat<=U8:=by rw[Vk,<- hl];exact hz
 have OS:¬ its.toArray.size*k.toNat>(2 ^ 63-1) / 8:=by
  have:(U8:Nat)<=(2 ^ 63-1) / 8:=by decide
  lia
 have OK:¬ (!Builtin.List.listFitsIndex k)=true:=by
  rw[fitsIndex_both h1 h2];exact VE
 have zQ:¬ Xl (its.toArray.size*k.toNat)=true:=by
  rw[qE hlen];exact VE
 have GV:Yc (λx1 x2=>x1++x2) #[] (U9 (if its.toArray.isEmpty=true then 0 else k.toNat) its.toArray)=(U9 k.toNat its).flatten.toArray:=by
  have f0:∀m:Nat,Yc (λx1 x2=>x1++x2) #[] (U9 m its.toArray)=(U9 m its).flatten.toArray:=λm=>by
   have:=foldl_rep its m [];rw[YY]at this;exact this
  rw[f0];cases its with
  |nil=>simp
  |cons a r'=>rw[if_neg (by simp)]
 refine wpAny_binaryOp_repeat_ref (T:="list") (U:="int") (by decide) ⟨_,e,rfl⟩ (λs'=>typeIs_int s' k t) noFill_list_mul F.fills_int_mul F.slot_int_rmul repeat_list F.slot_int_index.lookup
  (Yx F.slot_int_rmul (typeIs_int s k t) F.entry_int_rmul (F.args_int_rmul_2 _ _) (int___rmul___int_list k t l its.toArray n)
   ⟨e,rfl,⟨_,e,rfl⟩,Yx F.slot_list_mul ⟨_,e,rfl⟩ F.entry_list_mul (F.args_list_mul_2 _ _) (AutoListH.list___mul___list_int_3 l its.toArray n k t OK OS zQ) ⟨e,?_⟩⟩)
 rw[GV];exact⟨.ref _,_,I.F7 (t':=s.toks) (r.rep k.toNat) (by rw[len_rep,Nat.mul_comm];exact hz),rfl,q _ I.fresh⟩
end
section
end
section
end
end L2
namespace Q3
open PySem PySem.W PySem.Calls PyProof.Rows
theorem jQ {P:Yy}{h:Heap}:∀(ns:List Int) (vs:List UQ),WellAll P h vs (ns.map WData.int)->WW vs ns:=by
 intro ns
 induction ns with
 |nil =>
  intro vs w;rw[Yb]at w;cases w;exact .nil
 |cons n ns ih =>
  intro vs w;rw[Vj]at w;cases w with
  |cons a b =>
   cases a;exact .cons _ _ (ih _ b)
theorem vT {l:OpenLaw}{n:Nat}(hn:l.most=some n){P:Yy}{h:Heap}{args:List WData}{vals:List UQ}
  (CN:l.row.toRowW.claim.pre args=true) (NM:WellAll P h vals args) :
  ∃a vs ns,vals=[Value.ref a]/\args=[WData.list (ns.map WData.int)]/\h.get? a=some {cls:=.type "list",data:=.seq vs.toArray}/\WW vs ns/\ns.length<=n:=by
 have Sm:WShape.hasAll [] args [.list .int]=true:=(pre_splitW CN).1;have hc:l.pre.holds [] {args:=args}=true:=(pre_splitW CN).2;obtain⟨d,r,rfl,h1,h2⟩:=hasAllW_cons Sm;obtain rfl:=hasAllW_nil h2;obtain⟨xs,rfl,h3⟩:=hasW_list h1;obtain⟨ns,rfl⟩:=items_int h3;have hlen:ns.length<=n:=by
  unfold OpenLaw.pre at hc;have h4:(WTm.not (.lt (.lit (.int (n:Int))) (.len (.arg 0)))).holds [] {args:=[.list (ns.map .int)]}=true:=by
   have h4:=(holds_andW hc).1;rw[hn]at h4;exact h4
  have h5:=condW_of h4 (w_not (w_lt w_lit (w_len_list (w_arg rfl))));rw[UR]at h5;refine YO λq=>?_;have q':(n:Int)<((ns.length:Nat):Int):=by lia
  first
   | (rw[decide_eq_true q']at h5;exact absurd h5 (by decide))
   | (simp at h5;lia)
 cases NM with
 |cons w1 w2 =>
  cases w2;cases w1 with
  |list ho OW=>exact⟨_,_,ns,rfl,rfl,ho,jQ ns _ OW,hlen⟩
theorem v7 (l:OpenLaw)(args:List WData):l.row.toRowW.claim.post args (.bool true) args=true :=
 postW_of (r:=l.row.toRowW) (X:=(true==true))
  (show WShape.has [] (.bool true) .bool=true by first|rfl|decide|simp[WShape.has,WShape.arms,WShape.armsAll])
  (show (WTm.eq .res (.lit (.bool true))).value [] {args:=args,res:=some (.bool true),after:=args}=some (.bool (true==true)) from w_eq_bool (w_res rfl) w_lit) rfl
theorem rR {l:OpenLaw}{n:Nat}{q:UY}{loose:List Str}{XP:(Str->Option UQ)->Heap->Prop}{YP:Vc->Heap->Prop}{d:DefRec}
  (hn:l.most=some n) (OL:d.params.defaults=[])
  (call:∀(w:Vc) (s₀ s₁:UT) (mg mb:Str->Option UQ) (fa:Addr) (o:Obj) (pm cd doc:UQ) (a:Addr) (vs:List UQ) (ns:List Int),
   Ground q loose [] XP w s₀ mg mb s₁.heap->YP w s₁.heap ->
   s₁.heap.get? fa=some o->o.data=.func (docDef d.name d.params d.body d.scope pm cd doc)->s₁.heap.CodeRec cd d.name->mg d.name=some (.ref fa) ->
   s₁.heap.get? a=some {cls:=.type "list",data:=.seq vs.toArray}->WW vs ns->ns.length<=n->s₁.gens=#[] ->
   Ys (model l.prog w) YH (.call (.ref fa) ⟨[.ref a],[]⟩) (λr s'=>r=.ok (.ret (.bool true))/\OldK s₁.heap s'.heap/\s'.os=s₁.os/\Yg s'.gens) s₁) :
  WalkO q loose XP YP l.row.toRowW d [] (λf vs=>PySem.call f vs):=by
 intro w s₀ s₁ mg mb G Y fa o pm cd doc dV kV ho hd c7 hD Oq hg args vals as CN SK Uq NM Ov;obtain rfl:dV=.none:=Dflts.none hD OL;obtain rfl:kV=.none:=Dflts.noKw hD;obtain⟨a,vs,ns,rfl,rfl,GS,hints,hlen⟩:=vT hn CN NM;refine enter_call (X_ (call w s₀ s₁ mg mb fa o pm cd doc a vs ns G Y ho (fd_plain hd) c7 Oq GS hints hlen hg) λr s' hq=>?_);obtain⟨rfl,h2,h3,h4⟩:=hq;exact⟨.inl ⟨.bool true,.bool true,[],rfl,λ_=>rfl,.bool true,v7 l _,λ_=>⟨YK,λ_ hm=>(nomatch hm)⟩⟩,h2,h3,h4⟩
section
end
end Q3
namespace L2
open PySem PySem.Spec PyProof.Rows
theorem mI:∀{vs:List UQ} {ns:List Int},WW vs ns->Vals (ns.map V.int) vs
 |_,_,.nil=>.nil
 |_,_,.cons n t h=>.cons ⟨t,rfl⟩ (mI h)
def Hz (H:Hp):Prop:=∀b,H b=none\/∃o xs,H b=some (.sv o (.lst xs))
theorem zu {P:UY}{w:Vc}{K:PySem.W.Frag}{mg mb:Str->Option UQ}{CX:AY}{k:Nat}{fa a:Addr}{fd:VI}{x:Str}{sp:Sp}{s₁:UT}{vs:List UQ}{ns:List Int}
  (KX:K.In s₁.heap) (L6:s₁.heap.Ns Wt mg) (hb:s₁.heap.Ns builtinsNs mb) (S5:∀x:Str,x≠"__name__" -> mb x=VO x) (Ow:s₁.heap.NoLimit) (hg:s₁.gens=#[])
  (ha:s₁.heap.get? a=some {cls:=.type "list",data:=.seq vs.toArray}) (hi:WW vs ns) (hl:ns.length<=U8) (hr:cL k YH)
  (F:∀base:Heap,K.In base->base.Ns Wt mg->aX P w K mg base CX k fa fd [x] sp) (K_:∀(s:UT) (u:UQ),BindsTo s fd ⟨[u],[]⟩ [(x,u)])
  (iy:∀H:Hp,Hz H->b3 K H a (ns.map V.int)->sp [.ref a] H (λv _=>v=.bl true) λ_ _ _=>False)
  (OX:∀H e s',CX [] H s₁ (λ_ _ _=>False) e s'->False) :
  Ys (model P w) YH (.call (.ref fa) ⟨[.ref a],[]⟩) (λr s'=>r=.ok (.ret (.bool true))/\OldK s₁.heap s'.heap/\s'.os=s₁.os/\Yg s'.gens) s₁:=by
 have rv:=mI hi;have Nq:=hi.length;have core:∀H:Hp,Hz H->b3 K H a (ns.map V.int)->gW P w H s₁.heap->(∀b,H b≠none->b=a)->(H a≠none->K.lookup a=none) ->
   Ys (model P w) YH (.call (.ref fa) ⟨[.ref a],[]⟩) (λr s'=>r=.ok (.ret (.bool true))/\OldK s₁.heap s'.heap/\s'.os=s₁.os/\Yg s'.gens) s₁:=by
  intro H hO hS bA hA hK;have vx:∀{b:Addr} {o:Obj},s₁.heap.get? b=some o->H b=none->(o9 s₁.heap H).get? b=some o:=λe n=>zT e n;have Jp:∀{b:Addr} {o:Obj} {es:Array XE} {ep:Nat},s₁.heap.get? b=some o->o.data=.dict es ep->H b=none:=λ{b o es ep} e d=>by
   cases q:H b with
   |none=>rfl
   |some u =>
    have e':b=a:=hA b (by rw[q];simp)
    subst e';rw[ha]at e;cases e;have d':Data.seq vs.toArray _=Data.dict es ep:=d;cases d'
  have LU:∀{b:Addr} {m:Str->Option UQ},s₁.heap.Ns b m->(o9 s₁.heap H).Ns b m:=λ{b m} ⟨o,es,ep,e,d,r⟩=>⟨o,es,ep,vx e (Jp e d),d,r⟩;have QI:K.In (o9 s₁.heap H):=λb o e=>vx (KX b o e) (by
   cases q:H b with
   |none=>rfl
   |some u =>
    have e':b=a:=hA b (by rw[q];simp)
    subst e';rw[hK (by rw[q];simp)]at e;cases e)
  have hM:Mod K mg (o9 s₁.heap H):=⟨QI,LU L6,⟨mb,LU hb,S5⟩,let ⟨mc,h1,h2⟩:=Ow;⟨mc,LU h1,h2⟩⟩
  have e0:DD P w K mg (o9 s₁.heap H) YH [] s₁ H:=⟨rfl,hM,λb o e=>Cr e,Nat.le_of_eq (wR _ _),trivial,λb hb=>absurd (show b∈([]:List Addr) from hb) (by simp),bA,.of_eq hg⟩
  refine X_ ((F _ QI (LU L6)).run YH [] s₁ H ⟨[.ref a],[]⟩ [.ref a] [.ref a] _ _ hr e0 (K_ s₁ (.ref a)) (.cons rfl .nil) (iy H hO hS)) λr s' h=>?_;cases r with
  |error e=>exact(OX H e s' h).elim
  |ok fl =>
   cases fl with
   |next=>exact Xa h
   |brk=>exact Xa h
   |cont=>exact Xa h
   |ret u =>
    obtain⟨v,H',os,bare,un,Oe,r',q⟩:=h;have q':v=.bl true:=q;subst q';obtain rfl:u=Value.bool true:=r';refine⟨rfl,OldK.of_keep λb o e=>?_,os,bare⟩;cases q:H b with
    |none=>exact un.keep b o e q (by intro z;exact absurd (show b∈([]:List Addr) from z) (by simp)) (by simp)
    |some u =>
     rcases hO b with z|⟨ob,xs,z⟩
     ·rw[q]at z;cases z
     ·have z2:=un.mz b ob _ z;obtain⟨e1,_⟩:=bA b _ z;obtain⟨e2,_⟩:=Oe b _ z2;rw[e]at e1;cases e1;exact e2
 cases hk:K.lookup a with
 |some o =>
  have e:=KX a o hk;rw[ha]at e;cases e;refine core (λ_=>none) (λ_=>.inl rfl) (.inr ⟨_,vs.toArray,_,hk,rfl,rfl,rfl,by rw[Vk,Nq];exact hl,by simpa using rv⟩) (λb u z=>by have z':(none:Option HO)=some u:=z;cases z') (λb z=>absurd rfl z) λz=>absurd rfl z
 |none =>
  refine core (λb=>if b=a then some (.sv {cls:=.type "list",data:=.seq vs.toArray} (.lst (ns.map V.int))) else none) (λb=>?_) (.inl (.inr ⟨{cls:=.type "list",data:=.seq vs.toArray},if_pos rfl⟩)) (λb u z=>?_) (λb z=>?_) λ_=>hk
  ·by_cases hb:b=a
   ·exact .inr ⟨_,_,if_pos hb⟩
   ·exact .inl (if_neg hb)
  ·by_cases hb:b=a
   ·have z':=(if_pos hb).symm.trans z;cases z';subst hb;exact⟨ha,by rw[UR];exact hl,vs,_,rv,ha⟩
   ·have z':=(if_neg hb).symm.trans z;cases z'
  ·by_cases hb:b=a
   ·exact hb
   ·exact absurd (if_neg hb) z
theorem Bk {l:PySem.W.OpenLaw}{n k:Nat}{q:UY}{loose:List Str}{XP:(Str->Option UQ)->Heap->Prop}{YP:Vc->Heap->Prop}{d:DefRec}{K:Yy->PySem.W.Frag}{CX:Vc->AY}{sp:Vc->Sp}{x:Str}
  (hn:l.most=some n) (L7:n<=U8) (OL:d.params.defaults=[]) (hr:cL k YH)
  (hY:∀(w:Vc) (h:Heap),YP w h->(K w.params).In h)
  (F:∀(w:Vc) (mg:Str->Option UQ) (fa:Addr) (h:Heap),(K w.params).In h->h.Ns Wt mg->mg d.name=some (.ref fa) ->
   ∃fd:VI,(∀(s:UT) (u:UQ),BindsTo s fd ⟨[u],[]⟩ [(x,u)]) /\
    ∀base:Heap,(K w.params).In base->base.Ns Wt mg->aX l.prog w (K w.params) mg base (CX w) k fa fd [x] (sp w))
  (iy:∀(w:Vc) (H:Hp) (a:Addr) (ns:List Int),ns.length<=n->Hz H->b3 (K w.params) H a (ns.map V.int)->sp w [.ref a] H (λv _=>v=.bl true) λ_ _ _=>False)
  (OX:∀(w:Vc) (H:Hp) (s:UT) (e:UQ) (s':UT),CX w [] H s (λ_ _ _=>False) e s'->False) :
  PySem.W.WalkO q loose XP YP l.row.toRowW d [] (λf vs=>PySem.call f vs):=by
 refine Q3.rR hn OL λw s₀ s₁ mg mb fa o pm cd doc a vs ns G Y ho hd c7 Oq GS hints hlen hg=>?_;have KX:=hY w _ Y;obtain⟨fd,hb,hF⟩:=F w mg fa _ KX G.T.g Oq;exact zu KX G.T.g G.T.b G.T.builtins G.T.nolimit hg GS hints (VB hlen L7) hr hF hb (λH hO hS=>iy w H a ns hlen hO hS) λH e s'=>OX w H s₁ e s'
abbrev cy:AY:=λ_ _ _ _ _ _=>False
abbrev E0:XK:=λ_ _ _=>False
theorem qz {X:Cx}:Passes cy X E0:=λ_ _ _ _ _ _ _ h=>h.elim
structure Bg (K:PySem.W.Frag)(x qual:Str)(st:Stmt)(f:Addr)(fd:VI):Prop where
 ex:∃(oc:UQ) (od:Option Addr) (kV doc pm:UQ) (an:Option Addr) (cV ct:UQ) (FI:Array (Option UQ)),
  fd=PySem.W.fnOf x qual (j7 st) (d4 st) (az st) .none kV doc pm an cV ct/\K.lookup f=some ⟨oc,od,.func fd,FI⟩/\PySem.W.codeIn K cV qual=true
 kp:PySem.W.keepIn K (.ref f)=true
section
variable {P:UY}{w:Vc}{K:PySem.W.Frag}{mg:Str->Option UQ}{base:Heap}
theorem Bg.ok {x qual:Str}{st:Stmt}{f:Addr}{fd:VI}{N ps:List Str}{k:Nat}{sp:Sp}(F:Bg K x qual st f fd)(S:aP N ps (az st))(len:∀vs H Q E,sp vs H Q E->vs.length=ps.length)
  (lD:∀(cV:UQ) (A:V6) (outer:List Env) (s:UT) (H:Hp) (vs:List V) (Q:VK) (E:XK),cL k (A.deeper (X9 qual (az st) s.heap.objs.size f cV))->sp vs H Q E ->
   ∃t,r9 (mE cy P w K mg base N qual (az st) f cV A outer s H E).DV (d4 st) t/\t {nx:=λ_ H'=>Q .bC H',rt:=Q} (start N vs) H):aX P w K mg base cy (k+1) f fd ps sp:=by
 obtain⟨oc,od,kV,doc,pm,an,cV,ct,FI,rfl,lk,c7⟩:=F.ex;refine Lg lk c7 S len λA outer s H vs Q E hr iy=>?_;obtain⟨t,h,q⟩:=lD cV A outer s H vs Q E hr iy;exact⟨t,h.DV,q⟩
theorem G7 {x qual:Str}{st:Stmt}{f:Addr}{oc:UQ}{od an:Option Addr}{FI:Array (Option UQ)}{kV doc pm cV ct:UQ}(l:K.lookup f=some ⟨oc,od,.func (PySem.W.fnOf x qual (j7 st) (d4 st) (az st) .none kV doc pm an cV ct),FI⟩)
  (c:PySem.W.codeIn K cV qual=true) (k:PySem.W.keepIn K (.ref f)=true):Bg K x qual st f (PySem.W.fnOf x qual (j7 st) (d4 st) (az st) .none kV doc pm an cV ct):=⟨⟨oc,od,kV,doc,pm,an,cV,ct,FI,rfl,l,c⟩,k⟩
end
section
variable {X:Cx}
theorem pv (i:Nat){x:Str}{pos:Pos}(hN:X.N[i]?=some x:=by rfl)(hv:j9 X.env.scope x:=by first|exact Y_ rfl|exact Or.inr (Y_ rfl)|exact Or.inr (Or.inr rfl))(hd:(x==("__debug__" : Str))=false:=by decide)
  (c7:(x==("__classdict__" : Str))=false:=by decide):PE X (.Name x pos) (Ik i):=bp hN hv hd c7
end
def ay (H H':Hp):Prop:=∀b o,H b=some o->H' b=some o
theorem ay.refl (H:Hp):ay H H:=λ_ _ h=>h
theorem ay.trans {H H1 H2:Hp}(a:ay H H1)(b:ay H1 H2):ay H H2:=λc o h=>b c o (a c o h)
theorem ay.free {H H':Hp}(e:ay H H'){l:Addr}(h:H' l=Option.none):H l=Option.none:=by
 cases q:H l with
 |none=>rfl
 |some o =>
  rw[e l o q]at h;cases h
theorem ay.seq {K:PySem.W.Frag}{H H':Hp}{a:Addr}{xs:List V}(e:ay H H')(h:b3 K H a xs):b3 K H' a xs:=by
 rcases h with (h|⟨o,h⟩)|h
 ·exact .inl (.inl (e _ _ h))
 ·exact .inl (.inr ⟨o,e _ _ h⟩)
 ·exact .inr h
section
variable {X:Cx}{a b c:Expr}{ta tb:TE}{pos:Pos}
def sg (i j:Int):Prop:=0<j/\j.natAbs.log2<9000
theorem sg.of {i j:Int}(h0:0<j)(h:j<2 ^ 200):sg i j:=by
 refine⟨h0,?_⟩;have h2:j.natAbs<2 ^ 200:=by lia
 have:=(Nat.log2_lt (n:=j.natAbs) (k:=200) (by lia)).mpr h2
 lia
theorem qD:iJ X (WR .FloorDiv) (rI sg λi j=>.int (i / j)):=LS λi j _ _ _ _ _ hc q=>by
 have h1:(0:Int)<j:=hc.1;exact floordiv_int (by lia) (by rw[Int.fdiv_eq_ediv_of_nonneg i (by lia)];exact q) (.inl (PyProof.noPylong_of_log2 hc.2))
def EI (X:Cx)(ops:List XS)(rs:List Expr)(t:V->TE):Prop :=
 ∀(pos:Pos) (pins:List (Addr×Obj)) (s:UT) (σ:St) (H:Hp) (x:V) (v:UQ) (Q:VK),Inv X pins σ H s->RelV x v->t x σ H Q ->
  Vy (model X.prog X.w) X.A (compareChain pos v ops (evalEach rs X.env)) (EP X pins σ Q) X.xe s
def ud (X:Cx)(ops:List XS)(rs:List Expr)(t:V->TT):Prop :=
 ∀(pos:Pos) (pins:List (Addr×Obj)) (s:UT) (σ:St) (H:Hp) (x:V) (v:UQ) (Q:Bool->Hp->Prop),Inv X pins σ H s->RelV x v->t x σ H Q ->
  Vy (model X.prog X.w) X.A (testChain pos v ops (evalEach rs X.env)) (TP X pins σ Q) X.xe s
variable {op FP:XS}{ops:List XS}{rs:List Expr}{r:R2}{t:V->TE}{tt:V->TT}
theorem Hl (ho:iJ X (VY op) r)(hb:PE X b tb):EI X [op] [b] (λx σ H Q=>tb σ H λy H2=>r x y H2 Q):=by
 intro pos pins s σ H x v Q I rx h;exact chain_last (bj (hb pins s σ H _ I h) λu s1 wQ=>by obtain⟨y,H1,I1,r1,q1⟩:=wQ;exact ho pins s1 σ H1 x y v u Q I1 rx r1 q1)
theorem Dt (ho:iJ X (VY op) r)(hb:PE X b tb)(hc:EI X (FP::ops) (c::rs) t):
  EI X (op::FP::ops) (b::c::rs) (λx σ H Q=>tb σ H λy H2=>r x y H2 λz H3=>∃k,z=.bl k/\(if k=true then t y σ H3 Q else Q (.bl false) H3)):=by
 intro pos pins s σ H x v Q I rx h;refine chain_link (bj (hb pins s σ H _ I h) λu s1 ⟨y,H1,I1,r1,q1⟩=>bj (ho pins s1 σ H1 x y v u _ I1 rx r1 q1) λd s3 ⟨z,H3,I3,r3,k,e,q3⟩=>?_);subst e;cases r3;refine Wv ?_;cases k with
 |false=>exact ite_ff ⟨.bl false,H3,I3,rfl,q3⟩
 |true=>exact ite_tt (hc pos pins s3 σ H3 y u Q I3 r1 q3)
theorem wd {k8 k7:XS}(ha:PE X a ta)(hc:EI X (k8::k7::ops) (b::c::rs) t)(hm:lastMarks (k8::k7::ops) (b::c::rs)=false:=by with_unfolding_all rfl):
  PE X (.Compare a (k8::k7::ops) (b::c::rs) pos) (λσ H Q=>ta σ H λx H1=>t x σ H1 Q):=by
 intro pins s σ H Q I h;exact Compare_chain (bj (ha pins s σ H _ I h) λv s1 JX=>by obtain⟨x,H1,I1,r1,q1⟩:=JX;exact hc pos pins s1 σ H1 x v Q I1 r1 q1) hm
theorem Ds (ho:iJ X (VY op) r)(hb:PE X b tb):ud X [op] [b] (λx σ H Q=>tb σ H λy H2=>r x y H2 λz H3=>∃k,z=.bl k/\Q k H3):=by
 intro pos pins s σ H x v Q I rx h;refine test_last (bj (hb pins s σ H _ I h) λu s1 ⟨y,H1,I1,r1,q1⟩=>bj (ho pins s1 σ H1 x y v u _ I1 rx r1 q1) λd s3 ⟨z,H3,I3,r3,k,e,q3⟩=>?_);subst e;cases r3;exact Wv ⟨H3,I3,q3⟩
theorem Av (ho:iJ X (VY op) r)(hb:PE X b tb)(hc:ud X (FP::ops) (c::rs) tt):
  ud X (op::FP::ops) (b::c::rs) (λx σ H Q=>tb σ H λy H2=>r x y H2 λz H3=>∃k,z=.bl k/\(if k=true then tt y σ H3 Q else Q false H3)):=by
 intro pos pins s σ H x v Q I rx h;refine test_link (bj (hb pins s σ H _ I h) λu s1 ⟨y,H1,I1,r1,q1⟩=>bj (ho pins s1 σ H1 x y v u _ I1 rx r1 q1) λd s3 ⟨z,H3,I3,r3,k,e,q3⟩=>?_);subst e;cases r3;refine Wv ?_;cases k with
 |false=>exact ite_ff ⟨H3,I3,q3⟩
 |true=>exact ite_tt (hc pos pins s3 σ H3 y u Q I3 r1 q3)
theorem Ax:fv X (.builtin "isinstance") (λxs H Q=>∃x n t k,xs=[x,.ty n]/\gV X.K H x t/\PySem.W.kitOne X.K t (.type n)=some k/\Q (.bl k) H):=by
 intro pins s σ H xs us Q I r h;obtain⟨x,n,t,k,rfl,ty,e,q⟩:=h;obtain⟨u,w',rfl,r1,r2⟩:=vals2 r;cases r2;exact wK I r1 ty e λtk=>⟨.bl k,H,I.tok _,rfl,q⟩
end
theorem t_:VO "max" = some (.builtin "max"):=by decide +kernel
theorem t9:VO "min" = some (.builtin "min"):=by decide +kernel
theorem AA:VO "int" = some (.type "int"):=by decide +kernel
theorem Dx:VO "bool" = some (.type "bool"):=by decide +kernel
theorem rQ:VO "tuple" = some (.type "tuple"):=by decide +kernel
theorem gj:VO "list" = some (.type "list"):=by decide +kernel
theorem xn:VO "sorted" = some (.builtin "sorted"):=by decide +kernel
theorem Az:VO "isinstance" = some (.builtin "isinstance"):=by decide +kernel
theorem fR:VO "len" = some (.builtin "len"):=by decide +kernel
theorem JH {c A B:Prop}[Decidable c](hc:c)(h:A):if decide c=true then A else B:=by
 rw[if_pos (decide_eq_true hc)];exact h
theorem JI {c A B:Prop}[Decidable c](hc:¬ c)(h:B):if decide c=true then A else B:=by
 rw[if_neg (by simp[hc])]
 exact h
theorem JJ {c A B:Prop}[Decidable c](h1:c->A)(h2:¬ c->B):if decide c=true then A else B:=by
 by_cases h:c
 ·exact JH h (h1 h)
 ·exact JI h (h2 h)
theorem ay.new {H:Hp}{p:Addr}{o:HO}(n:H p=none):ay H (L2.upd H p o):=λb u e=>by rw[ak (cf e n)];exact e
section
end
theorem Jc:DE 10 18:=⟨by decide,by decide,by decide⟩
section
theorem oT {a:Int}{b:Int}(h:0<b):0<=a % b/\a % b<b:=⟨Int.emod_nonneg a (by lia),Int.emod_lt_of_pos a h⟩
end
noncomputable def aG (X:Cx)(scope:XA)(N':List Str)(cl:List (Str×Addr))(C:Addr)(s:UT)(H:Hp)(ex:List Addr):Cx :=
 {X with N:=N',s₀:=s,H₀:=H,env:=compEnvC scope cl C X.env,outer:=X.stack,stack:=X.stack,ex:=ex,fn:=λ_=>false,pn:=[],xe:=λ_ _=>False}
theorem gS {env:Env}:∀(names:List (Str×XI)) (cs:List (Str×Addr)),(∀x,(x,VM)∈names->∃c,env.cells.lookup x=some c) ->
  (∀x c,cs.lookup x=some c->env.cells.lookup x=some c) ->
  ∃cl,(forIn names cs λ(p:Str×XI) (cs:List (Str×Addr))=>do
   if p.2==.free then do
    let a <- cellOf env p.1
    pure (Ym ((p.1,a)::cs))
   else pure (Ym cs):Sem (List (Str×Addr)))=pure cl /\
   (∀x,((x,VM)∈names\/(∃c,cs.lookup x=some c))->∃c,cl.lookup x=some c)/\∀x c,cl.lookup x=some c->env.cells.lookup x=some c
 |[],cs,_,L9=>⟨cs,rfl,λx h=>h.elim (λz=>nomatch z) id,L9⟩
 | (n,k)::names,cs,hf,L9=>by
  by_cases hk:k=.free
  ·subst hk;obtain⟨c,hc⟩:=hf n (U1 ..);obtain⟨cl,e,h1,h2⟩:=gS names ((n,c)::cs) (λx hx=>hf x (UZ _ hx)) (λx c' hx=>by
    rw[Wa]at hx;cases q:x==n with
    |true=>rw[q]at hx;cases hx;rw[eq_of_beq q];exact hc
    |false=>rw[q]at hx;exact L9 x c' hx)
   refine⟨cl,?_,λx hx=>h1 x ?_,h2⟩
   ·rw[List.forIn_cons];have ec:cellOf env n=pure c:=by unfold cellOf;rw[hc]
    simp only[beq_self_eq_true,if_true,ec];exact e
   ·rcases hx with hx|⟨c',hx⟩
    ·rcases UW.mp hx with z|z
     ·cases z;exact .inr ⟨c,by simp⟩
     ·exact .inl z
    ·right
     rw[Wa];cases q:x==n with
     |true=>exact⟨c,rfl⟩
     |false=>exact⟨c',hx⟩
  ·obtain⟨cl,e,h1,h2⟩:=gS names cs (λx hx=>hf x (UZ _ hx)) L9;refine⟨cl,?_,λx hx=>h1 x ?_,h2⟩
   ·rw[List.forIn_cons];have hb:(k==VM)=false:=by simpa using hk
    simp only[hb,Xo,if_false];exact e
   ·rcases hx with hx|hx
    ·rcases UW.mp hx with z|z
     ·cases z;exact absurd rfl hk
     ·exact .inl z
    ·exact .inr hx
theorem gA {env:Env}{scope:XA}(h:∀x,(x,VM)∈scope.names->∃c,env.cells.lookup x=some c):
  ∃cl,closureFor scope env=pure cl/\(∀x,(x,VM)∈scope.names->∃c,cl.lookup x=some c)/\∀x c,cl.lookup x=some c->env.cells.lookup x=some c:=by
 obtain⟨cl,e,h1,h2⟩:=gS scope.names [] h (λx c z=>by simp at z)
 refine⟨cl,?_,λx hx=>h1 x (.inl hx),h2⟩;unfold closureFor;refine Eq.trans ?_ (congrArg (· >>= pure) e);rfl
structure Links (X:Cx)(scope:XA)(N':List Str)(lk:List (Option Nat)):Prop where
 kind:scope.kind=.function
 tx:∀x∈scope.names,x.2≠.cell
 names:∀x∈scope.names,x.2=.local->scope.names.lookup x.1=some .local
 free:∀x,(x,VM)∈scope.names->X.env.kindOf x=some .cell\/X.env.kindOf x=some .free
 len:lk.length=N'.length
 link:∀(i j:Nat),lk[i]?=some (some j)->∃x,N'[i]?=some x/\X.N[j]?=some x/\(x,VM)∈scope.names/\scope.names.lookup x=some .free
noncomputable def lq (outer:List (Str×XI))(N:List Str)(scope:XA)(N':List Str)(lk:List (Option Nat)):Bool :=
 (scope.kind==.function)&&scope.names.all (λx=>x.2 != .cell&&(x.2 != .local || scope.names.lookup x.1==some .local)&&(x.2 != .free || outer.lookup x.1==some .cell || outer.lookup x.1==some .free)) &&
 lk.length==N'.length&&(Vx lk.length).all λi=>match lk[i]? with
  |some (some j)=>match N'[i]? with
   |some x=>N[j]?==some x&&scope.names.contains (x,.free)&&scope.names.lookup x==some .free
   |none=>false
  |_=>true
theorem Links.of {X:Cx}{scope:XA}{N':List Str}{lk:List (Option Nat)}(h:lq X.env.scope.names X.N scope N' lk=true):Links X scope N' lk:=by
 simp only[lq,V0]at h;obtain⟨⟨⟨h1,h2⟩,h3⟩,h4⟩:=h;rw[Xd]at h2 h4;refine⟨by simpa using h1,λx hx=>?_,λx hx hl=>?_,λx hx=>?_,by simpa using h3,λi j aB=>?_⟩
 ·have:=h2 x hx;simp only[V0]at this;simpa using this.1.1
 ·have:=h2 x hx;simp only[V0]at this;have q:=this.1.2;rw[hl]at q;simpa using q
 ·have:=h2 _ hx;simp only[V0]at this;have q:=this.2;simp only[Y3]at q;rcases q with (q|q)|q
  ·simp at q
  ·exact .inl (show X.env.scope.names.lookup x=some .cell by simpa using q)
  ·exact .inr (show X.env.scope.names.lookup x=some .free by simpa using q)
 ·have hi:i<lk.length:=(U6.mp aB).1;have q:=h4 i (Wu.mpr hi);rw[aB]at q;simp only at q;cases e:N'[i]? with
  |none=>rw[e]at q;simp at q
  |some x =>
   rw[e]at q;simp only[V0]at q;obtain⟨⟨q1,q2⟩,q3⟩:=q;exact⟨x,rfl,by simpa using q1,by simpa using q2,by simpa using q3⟩
noncomputable def ee (lk:List (Option Nat))(σ:St):St:=lk.map λl=>match l with|some j=>(match σ[j]? with|some v=>v|none=>none)|none=>none
theorem c5 {env:Env}:∀{names:List (Str×XI)} {x:Str},names.lookup x=some .free ->
  (names.map λ(n,k)=>if (k==VM&&env.scope.kind==.function&&env.kindOf n==some .cell) then (n,Xj) else (n,k)).lookup x=some .cell \/
  (names.map λ(n,k)=>if (k==VM&&env.scope.kind==.function&&env.kindOf n==some .cell) then (n,Xj) else (n,k)).lookup x=some .free
 |[],_,h=>by simp at h
 | (n,k)::r,x,h=>by
  have ih:=@c5 env r x;show List.lookup x ((if (k==VM&&env.scope.kind==.function&&env.kindOf n==some .cell)=true then (n,Xj) else (n,k))::_)=_ \/
   List.lookup x ((if (k==VM&&env.scope.kind==.function&&env.kindOf n==some .cell)=true then (n,Xj) else (n,k))::_)=_
  cases hx:x==n with
  |true =>
   simp only[Wa,hx]at h;cases h
   by_cases hc:(VM==VM&&env.scope.kind==.function&&env.kindOf n==some .cell)=true
   ·rw[if_pos hc];left;simp[Wa,hx]
   ·rw[if_neg hc];right;simp[Wa,hx]
  |false =>
   simp only[Wa,hx]at h
   by_cases hc:(k==VM&&env.scope.kind==.function&&env.kindOf n==some .cell)=true
   ·rw[if_pos hc];simp only[Wa,hx];exact ih h
   ·rw[if_neg hc];simp only[Wa,hx];exact ih h
theorem cZ {env:Env}:∀{names:List (Str×XI)} {x:Str} {k:XI},(k=.cell\/k=.free)->(∀y∈names,y.2≠.cell) ->
  (names.map λ(n,k)=>if (k==VM&&env.scope.kind==.function&&env.kindOf n==some .cell) then (n,Xj) else (n,k)).lookup x=some k->(x,VM)∈names
 |[],_,_,_,_,h=>by simp at h
 | (n,k')::r,x,k,hk,hc,h=>by
  have ih:=@cZ env r x k hk (λy hy=>hc y (UZ _ hy));have h':List.lookup x ((if (k'==VM&&env.scope.kind==.function&&env.kindOf n==some .cell)=true then (n,Xj) else (n,k'))::(r.map λ(n,k)=>if (k==VM&&env.scope.kind==.function&&env.kindOf n==some .cell) then (n,Xj) else (n,k)))=some k:=h
  have GZ:=hc (n,k') (U1 ..)
  by_cases CS:(k'==VM&&env.scope.kind==.function&&env.kindOf n==some .cell)=true
  ·rw[if_pos CS]at h';simp only[V0,beq_iff_eq]at CS;cases hx:x==n with
   |true=>rw[eq_of_beq hx,CS.1.1];exact U1 ..
   |false=>rw[Wa,hx]at h';exact UZ _ (ih h')
  ·rw[if_neg CS]at h';cases hx:x==n with
   |true =>
    rw[Wa,hx]at h';have e:k'=k:=by simpa using h'
    subst e;rcases hk with hk|hk
    ·exact absurd hk GZ
    ·rw[eq_of_beq hx,hk];exact U1 ..
   |false=>rw[Wa,hx]at h';exact UZ _ (ih h')
section
variable {X:Cx}{pins:List (Addr×Obj)}{σ:St}{H:Hp}{s:UT}{scope:XA}{N':List Str}{lk:List (Option Nat)}{cl:List (Str×Addr)}{ex:List Addr}
theorem zH {h':Heap}{t':Nat}(I:Inv X pins σ H s)(L:Links X scope N' lk)(hex:∀b∈ex,fU X pins H b)(Og:∀b∈ex,∃o,s.heap.get? b=some o)
  (lC:∀x,(x,VM)∈scope.names->∃c,cl.lookup x=some c) (pG:∀x c,cl.lookup x=some c->X.env.cells.lookup x=some c)
  (hn:h'.Ns s.heap.objs.size (λ_=>none)) (hk:∀b o,s.heap.get? b=some o->h'.get? b=some o) :
  Inv (aG X scope N' cl s.heap.objs.size s H ex) [] (ee lk σ) H {s with heap:=h',toks:=t'}:=by
 obtain⟨m,hm,hl⟩:=I.loc;have Ti:∀b∈ex,b≠s.heap.objs.size:=λb hb=>by
  obtain⟨o,e⟩:=Og b hb;exact VT (Vn e)
 refine⟨⟨I.ok.mod,L.kind,I.ok.glob,I.ok.blt,US _,λx y c h1 h2=>I.ok.inj x y c (pG _ _ h1) (pG _ _ h2),λx hx=>?_,λx c z=>(nomatch z),I.ok.hd,I.ok.frames,.inl rfl,
  λb hb=>⟨Ti b hb,λx c e=>(hex b hb).2.2.2.2.1 x c (pG _ _ e)⟩,I.bs,VB I.ok.EB I.sz,λb o e z=>?_,λb hb z=>?_,I.stack,I.uv⟩,
  rfl,I.bare,Un.kept hk,⟨_,hn,λi x v h1 h2 h3=>?_⟩,λx c e=>?_,I.bA.fresh (US _),λx c e=>I.gx x c (pG _ _ e),λp hp=>absurd (show p∈([]:List (Addr×Obj)) from hp) (by simp),I.bA.kept hk,?_⟩
 ·have CM:(relabel scope X.env).names.lookup x=some .cell\/(relabel scope X.env).names.lookup x=some .free:=hx;rcases CM with q|q
  ·exact lC x (cZ (.inl rfl) L.tx q)
  ·exact lC x (cZ (.inr rfl) L.tx q)
 ·obtain⟨f0,f1,f2,f3,_⟩:=hex b z;rcases f3 with q|q
  ·exact I.ok.ze b o e q
  ·have h1:=Vn e;have h2:=I.ok.EB;exact absurd (Vz h1 (VB h2 q)) (XF _)
 ·obtain⟨f0,f1,f2,f3,_⟩:=hex b hb;rcases UW.mp (I.sO b z)with q|q
  ·exact f1 q
  ·exact f2 q
 ·have hi:∃j,lk[i]?=some (some j)/\σ[j]?=some (some v):=by
   have zW:(ee lk σ)[i]?=some (some v):=h2;unfold ee at zW;rw[Vd]at zW;cases e:lk[i]? with
   |none=>rw[e]at zW;cases zW
   |some l =>
    cases l with
    |none=>rw[e]at zW;cases zW
    |some j =>
     rw[e]at zW;cases e2:σ[j]? with
     |none=>simp[e2]at zW
     |some w' =>
      simp only[Yj,e2,Option.some.injEq]at zW;subst zW;exact⟨j,rfl,e2⟩
  obtain⟨j,hj,hσ⟩:=hi;obtain⟨y,e1,e2,e3,e4⟩:=L.link i j hj;have Th:x=y:=by
   have wU:N'[i]?=some x:=h1;rw[e1]at wU;exact(VL wU).symm
  subst Th;have NP:j9 X.env.scope x:=by
   rcases L.free x e3 with q|q
   ·exact .inr (.inl q)
   ·exact .inr (.inr q)
  obtain⟨u,ru,lu⟩:=hl j x v e2 hσ NP;refine⟨u,ru,.inr ⟨?_,?_⟩⟩
  ·exact c5 e4
  ·rcases lu with⟨k,_⟩|⟨_,c,hc,z⟩
   ·rcases L.free x e3 with q|q <;> (rw[k]at q;cases q)
   ·obtain⟨c',my⟩:=lC x e3;have:=pG x c' my;rw[hc]at this;cases this;obtain⟨o,ho,hd⟩:=z;exact⟨c,my,o,hk _ _ ho,hd⟩
 ·obtain⟨v,o,ho,hd⟩:=I.cell x c (pG _ _ e);exact⟨v,o,hk _ _ ho,hd⟩
 ·show (ee lk σ).length=N'.length;unfold ee;rw[UR,L.len]
theorem zI {s':UT}{σ':St}{H':Hp}{pl:List (Addr×Obj)}{C:Addr}{h'':Heap}(I:Inv X pins σ H s)(hex:∀b∈ex,fU X pins H b)
  (J:Inv (aG X scope N' cl s.heap.objs.size s H ex) pl σ' H' s') (hs:XU s.heap.objs.size s'.heap h''):Inv X pins σ H' {s' with heap:=h''}:=by
 have hC:H' s.heap.objs.size=none:=J.free;have u:=J.base;refine I.Lu (ch:=ex) (s':={s' with heap:=h''}) J.os ?_ ?_ J.bare (λb hb=>?_)
 ·have kk:∀b o,b≠s.heap.objs.size->s'.heap.get? b=some o->h''.get? b=some o:=λb o hb e=>(hs.2 b hb).trans e;have ne:∀b o,s.heap.get? b=some o->b≠s.heap.objs.size:=λb o e=>VT (Vn e);refine⟨λb o e n hb hx=>kk b _ (ne b o e) (u.keep b o e n hb hx),λb o e n hb hx=>?_,u.free,λb o e hx=>?_,u.nZ,u.mz,u.n9⟩
  ·obtain⟨sl,q⟩:=u.slot b o e n hb hx;exact⟨sl,kk b _ (ne b o e) q⟩
  ·obtain⟨o',q⟩:=u.there b o e hx;exact⟨o',kk b _ (ne b o e) q⟩
 ·intro b o e;have hb:b≠s.heap.objs.size:=λz=>by rw[z]at e;rw[hC]at e;cases e
  refine(J.bA b o e).p0 (λc v hc q=>(hs.2 c ?_).trans q) (λ_ q=>q) λ_ _ q=>q;rcases hc with z|z
  ·rw[z];exact hb
  ·intro z';rw[z']at z;rw[hC]at z;cases z
 ·obtain⟨f0,f1,f2,f3,f4,f5⟩:=hex b hb;exact⟨f3,f1,f4,f5⟩
end
noncomputable def ki (g:Xk)(after:Sem Fin->Sem Fin)(e:Expr)(d:Nat)(it acc:UQ)(env:Env):Sem Fin:=do
 YE g.iter.pos
 match <- Y6 it with
 |none=>pure (.done .next)
 |some v =>
  Yi g.target it v
  assign g.target env v
  let mut ok:=true
  for c in g.ifs do
   if ok then ok <- isTrue c env (eval c env)
  if ok then after (again (.compLoop e d it acc env)) else again (.compLoop e d it acc env)
noncomputable def oR (e:Expr)(d:Nat)(g':Xk)(acc:UQ)(env:Env)(k:Sem Fin):Sem Fin:=do
 let x <- eval g'.iter env
 YE g'.iter.pos
 let x <- V1 g'.iter env x
 let _ <- runOwn (.compStart e (d+1) (<- holding [x] (Y7 x)) acc env) env
 k
def uk (t:Sem Unit)(k:Sem Fin):Sem Fin:=do
 t
 k
def vi (elt:Expr)(acc:UQ)(env:Env):Sem Unit:=do let _ <- call (.builtin "list.append") [acc,<- eval elt env]
structure iL (e:Expr)(d:Nat)(g:Xk)(acc:UQ)(env:Env)(after:Sem Fin->Sem Fin):Prop where
 turn:∀it,compTurn e d it acc env=ki g after e d it acc env
 cl:(clausesOf e)[d]?=some g
 sync:g.is_async=0
 quiet:∀it,(X3 e d it acc env).quiet=true
 under:∀(A:V6) it,A.under (X3 e d it acc env)=A
 EX:∀(A:V6) it,A.under (Zb e d it acc env)=A
 FX:∀it,(X3 e d it acc env).isFrame=false
 Jo:∀it,(Zb e d it acc env).isFrame=false
section
variable {elt tg xV dN oY:Expr}{ifs mx:List Expr}{sc:XA}{pos:Pos}{acc:UQ}{env:Env}
theorem EA:iL (.ListComp elt [⟨tg,dN,ifs,0⟩] sc pos) 0 ⟨tg,dN,ifs,0⟩ acc env (uk (vi elt acc env)) :=
 ⟨λ_=>rfl,rfl,rfl,λ_=>rfl,λ_ _=>rfl,λ_ _=>rfl,λ_=>rfl,λ_=>rfl⟩
theorem Hn:iL (.ListComp elt [⟨tg,dN,ifs,0⟩,⟨xV,oY,mx,0⟩] sc pos) 0 ⟨tg,dN,ifs,0⟩ acc env (oR (.ListComp elt [⟨tg,dN,ifs,0⟩,⟨xV,oY,mx,0⟩] sc pos) 0 ⟨xV,oY,mx,0⟩ acc env) :=
 ⟨λ_=>rfl,rfl,rfl,λ_=>rfl,λ_ _=>rfl,λ_ _=>rfl,λ_=>rfl,λ_=>rfl⟩
theorem Hm:iL (.ListComp elt [⟨tg,dN,ifs,0⟩,⟨xV,oY,mx,0⟩] sc pos) 1 ⟨xV,oY,mx,0⟩ acc env (uk (vi elt acc env)) :=
 ⟨λ_=>rfl,rfl,rfl,λ_=>rfl,λ_ _=>rfl,λ_ _=>rfl,λ_=>rfl,λ_=>rfl⟩
end
def Il:TT:=λ_ H Q=>Q true H
def sF (X:Cx)(ifs:List Expr)(t:TT):Prop :=
 ∀(pins:List (Addr×Obj)) (s:UT) (σ:St) (H:Hp) (Q:Bool->Hp->Prop),Inv X pins σ H s->t σ H Q ->
  Vy (model X.prog X.w) X.A (forIn ifs true λc r=>if r=true then do let ok <- isTrue c X.env (eval c X.env);pure (Ym ok) else pure (Ym r)) (TP X pins σ Q) X.xe s
theorem BS {X:Cx}:sF X [] Il:=λ_ _ _ H _ I h=>wpAny_tests_nil ⟨H,I,h⟩
theorem BR {X:Cx}{c:Expr}{t:TT}(h:PT X c t):sF X [c] t:=λpins s σ H Q I q=>wpAny_tests_one (h pins s σ H Q I q)
abbrev mG:=(St->Hp->Prop)->St->Hp->Prop
def r_ (X:Cx)(after:Sem Fin->Sem Fin)(t:mG):Prop :=
 ∀(pins:List (Addr×Obj)) (s:UT) (σ:St) (H:Hp) (N:St->Hp->Prop) (k:Sem Fin) (Q:Fin->UT->Prop) (E:UQ->UT->Prop),Inv X pins σ H s->t N σ H ->
  (∀σ' H' s',Inv X pins σ' H' s'->N σ' H'->Vy (model X.prog X.w) X.A k Q E s')->Vy (model X.prog X.w) X.A (after k) Q E s
theorem gb {X:Cx}(hx:X.xe=λ_ _=>False){α:Type}{t:Sem α}{Q:α->UT->Prop}{E:UQ->UT->Prop}{s:UT}(h:Vy (model X.prog X.w) X.A t Q X.xe s):Vy (model X.prog X.w) X.A t Q E s :=
 XW h (λ_ _ q=>q) λe s q=>by rw[hx]at q;exact q.elim
def fB (J:It)(g:TG)(tt:TT)(ta:mG)(End:St->Hp->Prop):St->Hp->Prop:=λσ H =>
 ∃W:Nat->Nat->St->Hp->Prop,(∃m,W 0 m σ H)/\∀i m σ H,W i m σ H->(J.stop i H/\End σ H) \/
  (J.go i H/\∃N:St->Hp->Prop,(∀σ' H',N σ' H'->∃m',m'<m/\W (i+1) m' σ' H')/\∀x H',J.Ic i H x H'->g x σ H' λσ2 H2=>tt σ2 H2 λb H3=>if b=true then ta N σ2 H3 else N σ2 H3)
section
variable {X:Cx}{e:Expr}{d:Nat}{g:Xk}{acc:UQ}{after:Sem Fin->Sem Fin}{tg:TG}{tt:TT}{ta:mG}
theorem xc (hx:X.xe=λ_ _=>False)(hc:X.calm=true)(F:iL e d g acc X.env after)(hg:PG X g.target tg)(ht:sF X g.ifs tt)(ha:r_ X after ta)
  {it:Addr} {fp:List Addr} {tn:Nat->Heap->Prop} {J:It} (T:Turn X.prog X.w X.K g.target J fp it tn) {pins:List (Addr×Obj)} {σ:St} {H:Hp} {s:UT} {End:St->Hp->Prop}
  (I:Inv X pins σ H s) (st:tn 0 s.heap) (hf:∀b∈fp,fU X pins H b) (h:fB J tg tt ta End σ H) :
  Ys (model X.prog X.w) X.A (.compLoop e d (.ref it) acc X.env) (λr s'=>r=.ok .next/\∃σ' H',Inv X pins σ' H' s'/\End σ' H') s:=by
 obtain⟨W,⟨m0,w0⟩,turn⟩:=h;have sP:∀{H':Hp},(∀b∈fp,H' b=none)->∀b∈fp,fU X pins H' b:=λhn b hb=>⟨hn b hb,(hf b hb).2⟩;refine codeAny_loop (F.quiet _) (λn s'=>∃i σ' H',Inv X pins σ' H' s'/\tn i s'.heap/\(∀b∈fp,H' b=none)/\W i n σ' H') (λn s3 hI=>?_) m0 ⟨0,σ,H,I,st,λb hb=>(hf b hb).1,w0⟩;obtain⟨i,σ3,H3,I3,kA,Lf,w3⟩:=hI;rw[F.under];have G2:(model X.prog X.w).den (.compLoop e d (.ref it) acc X.env)=(ki g after e d (.ref it) acc X.env).onRaise (λx=>do noteFrame x X.env;theTreesLotGoes x):=by
  rw[<- F.turn];show (if (X3 e d (.ref it) acc X.env).isFrame then _ else _)=_
  rw[F.FX];rfl
 rw[G2];refine wpAny_noted ?_;unfold ki;rcases turn i n σ3 H3 w3 with⟨stop,qn⟩|⟨go,N,hN,step⟩
 ·refine UU (Xg (UU (bj (T.done X rfl rfl rfl hc i pins s3 σ3 H3 _ I3 (sP Lf) kA stop) λr s4 ⟨hr,I4⟩=>?_)));subst hr;exact Vl ⟨rfl,σ3,H3,I4,qn⟩
 ·refine UU (Xg (UU (bj (T.item X rfl rfl rfl hc i pins s3 σ3 H3 _ I3 (sP Lf) kA go) λr s4 ⟨u,hr,h4⟩=>?_)));subst hr;refine UU (bj h4 λ_ s5 ⟨x,H5,I5,r5,y5,E6,O1⟩=>?_);have Pt:=I5.pinned (sP O1) (T.obj _ _ E6);refine UU (bj (gb hx (hg _ s5 σ3 H5 x u _ Pt r5 (step x H5 y5))) λ_ s6 ⟨σ6,H6,I6,q6⟩=>?_);refine UU (bj (gb hx (ht _ s6 σ6 H6 _ I6 q6)) λok s7 ⟨H7,I7,q7⟩=>?_);have AM:∀{σ8:St} {H8:Hp} {s8:UT},Inv X (pins++kS fp s5.heap) σ8 H8 s8->N σ8 H8->∃m,m<n/\∃i σ' H',Inv X pins σ' H' s8/\tn i s8.heap/\(∀b∈fp,H' b=none)/\W i m σ' H':=λ{σ8 H8 s8} I8 n8=>by
   obtain⟨m',hm,w8⟩:=hN σ8 H8 n8;refine⟨m',hm,i+1,σ8,H8,I8.g_,T.keep _ _ _ E6 λb hb o e=>(I8.pin (b,o) (Vw _ (Vw _ (e7 hb e)))).1,λb hb=>?_,w8⟩;obtain⟨o,e,d⟩:=T.obj _ _ E6 b hb;exact(I8.pin (b,o) (Vw _ (Vw _ (e7 hb e)))).2.1
  cases ok with
  |false=>exact Vl ⟨rfl,AM I7 (by simpa using q7)⟩
  |true =>
   exact ha _ s7 σ6 H7 N _ _ _ I7 (by simpa using q7) λσ8 H8 s8 I8 n8=>Vl ⟨rfl,AM I8 n8⟩
theorem lW (hx:X.xe=λ_ _=>False)(hc:X.calm=true)(F:iL e d g acc X.env after)(hg:PG X g.target tg)(ht:sF X g.ifs tt)(ha:r_ X after ta)
  {it:Addr} {fp:List Addr} {tn:Nat->Heap->Prop} {J:It} (T:Turn X.prog X.w X.K g.target J fp it tn) {pins:List (Addr×Obj)} {σ:St} {H:Hp} {s:UT} {End:St->Hp->Prop}
  (I:Inv X pins σ H s) (st:tn 0 s.heap) (hf:∀b∈fp,fU X pins H b) (h:fB J tg tt ta End σ H) :
  Ys (model X.prog X.w) X.A (.compStart e d (.ref it) acc X.env) (λr s'=>r=.ok .next/\∃σ' H',Inv X pins σ' H' s'/\End σ' H') s:=by
 have lp:=xc hx hc F hg ht ha T I st hf h;refine codeAny_of_tree ?_;rw[F.EX];have G2:(model X.prog X.w).den (.compStart e d (.ref it) acc X.env)=(compStart e d (.ref it) acc X.env).onRaise (λx=>do noteFrame x X.env;YE theWindowsPlace):=by
  show (if (Zb e d (.ref it) acc X.env).isFrame then _ else _)=_
  rw[F.Jo];rfl
 rw[G2];refine wpAny_notedAt ?_;unfold compStart;rw[F.cl];simp only[Option.elim_some,F.sync];show Vy _ _ (ask >>= _) _ _ s;refine UU (wpAny_askSetting (wpAny_ite ?_))
 split
 ·first
   |exact UU (Vl (Vl (And.intro (F.quiet _) lp)))
   |exact Vl (And.intro (F.quiet _) lp)
 ·have h2:∀(E:UQ->UT->Prop),Vy (model X.prog X.w) X.A (Y7 (.ref it)) (λLZ s'=>(X3 e d LZ acc X.env).quiet=true/\Ys (model X.prog X.w) X.A (.compLoop e d LZ acc X.env) (λr s'=>r=.ok .next/\∃σ' H',Inv X pins σ' H' s'/\End σ' H') s') E s :=
   λE=>T.self X.A 0 s _ E st ⟨F.quiet _,lp⟩
  first
   |exact UU (XB (UU (Xg (UU (XW (h2 _) (λLZ s' h'=>Vl h') λ_ _ x=>x)))))
   | (refine UU (XB ?_);exact UU (Xg (UU (XW (h2 _) (λLZ s' h'=>Vl h') λ_ _ x=>x))))
theorem B9 {g':Xk}{wi:TI}(hx:X.xe=λ_ _=>False)(hc:X.calm=true)(F:iL e (d+1) g' acc X.env after)(hi:PI X g'.target g'.iter wi)(hg:PG X g'.target tg)(ht:sF X g'.ifs tt)(ha:r_ X after ta)
  (hs:∀x,V1 g'.iter X.env x=pure x:=by intro _;rfl) :
  r_ X (oR e d g' acc X.env) (λN σ H=>wi σ H λJ H1=>fB J tg tt ta N σ H1):=by
 intro pins s σ H N k Q E I h hk;unfold oR;refine UU (bj (gb hx (hi pins s σ H _ I h)) λx s1 h1=>?_);refine UU (Xg (UU (wpAny_of_eq (hs x) ?_)));refine UU (Xh (bj (gb hx h1) λEe s2 h2=>?_));obtain⟨it,fp,tn,J,H2,e1,I2,T,fh,f2,hl⟩:=h2;subst e1;refine UU (wpAny_runOwn (X_ (lW hx hc F hg ht ha T I2 fh f2 hl) λr s' hr=>?_));obtain⟨rfl,σ',H',I',q⟩:=hr;exact hk σ' H' s' I' q
theorem kY {elt:Expr}{te:TE}{a:Addr}(hx:X.xe=λ_ _=>False)(he:PE X elt te):
  r_ X (uk (vi elt (.ref a) X.env)) (λN σ H=>te σ H λv H1=>∃xs,H1 a=some (.lst xs)/\xs.length<U8/\N σ (upd H1 a (.lst (xs++[v])))):=by
 intro pins s σ H N k Q E I h hk;unfold uk vi;refine UU (UU (bj (gb hx (he pins s σ H _ I h)) λu s1 ⟨v,H1,I1,r1,xs,hH,hz,q⟩=>?_));refine UU (bj (gb hx <| di (X:=X) pins s1 σ H1 (.ref a) [v] (.ref a) [u] (λw' H'=>N σ H') I1 rfl (.cons r1 .nil) ⟨a,xs,v,rfl,rfl,hH,hz,q⟩) λ_ s2 ⟨_,H2,I2,_,q2⟩=>?_)
 exact Vl (hk σ H2 s2 I2 q2)
end
section
variable {X:Cx}{e:Expr}
structure pD (X:Cx)(d_:Sem UQ)(o:HO):Prop where
 ok:∀(pins:List (Addr×Obj)) (s:UT) (σ:St) (H:Hp) (Q:UQ->UT->Prop) (E:UQ->UT->Prop),Inv X pins σ H s ->
  (∀a s',s.heap.objs.size<=a->H a=none->(∀b o,s.heap.get? b=some o->s'.heap.get? b=some o)->Inv X pins σ (upd H a o) s'->Q (.ref a) s')->Vy (model X.prog X.w) X.A d_ Q E s
theorem k_:pD X (newList []) (.lst []) :=
 ⟨λpins s σ H Q E I h=>XZ (h _ _ (US _) I.fresh (λb o e=>Vg _ e) (I.F7 (its:=[]) (t':=s.toks) .nil (Vb _)))⟩
theorem Inv.sameBut {pins:List (Addr×Obj)}{σ:St}{H:Hp}{s:UT}{C:Addr}{h':Heap}(I:Inv X pins σ H s)(f:fU X pins H C)(hs:XU C s.heap h'):Inv X pins σ H {s with heap:=h'}:=by
 obtain⟨f0,f1,f2,f3,f4,f5⟩:=f;exact I.turned (t':=s.toks) (λb o hb e=>(hs.2 b hb).trans e) f0 f1 f3 f4 f5
end
end L2
namespace ST
open PySem PySem.SetTable
def cq (m:Nat)(p:Probe):Probe:=advance {mask:=m,place:=#[],dummies:=#[],finger:=0,led:=true,moves:=0,plain:=true} p
def Rn (m:Nat)(h:Int):Probe:=probeStart {mask:=m,place:=#[],dummies:=#[],finger:=0,led:=true,moves:=0,plain:=true} h
noncomputable def P7 (m:Nat)(h:Int):Nat->Probe
 |0=>Rn m h
 |n+1=>cq m (P7 m h n)
def PJ (m:Nat)(h:Int)(n:Nat):Nat:=(P7 m h n).j
abbrev g (xs:Array Nat)(i:Nat):Nat:=xs.getD i 0
def TL (xs:Array Nat):Prop:=∀i j,i<j->j<xs.size->g xs i<g xs j
def QW (t:SetTable)(x:Nat):Prop:=∃i,i<t.place.size/\g t.place i=x
structure WF (t:SetTable)(hs:List Int):Prop where
 UK:t.dummies=#[]
 sz:t.place.size=hs.length
 Ub:TL t.place
 UM:∀i,i<t.place.size->g t.place i<=t.mask
 RZ:∃j,3<=j/\t.mask=2 ^ j-1
 room:t.place.size<=t.mask
 Uc:∀i h,hs[i]?=some h->∃n,PJ t.mask h n=g t.place i/\∀k,k<n->QW t (PJ t.mask h k)
instance (t:SetTable):DecidablePred (QW t):=λx=>decidable_of_iff (∃i,i<t.place.size/\g t.place i=x) Iff.rfl
end ST
namespace TS
open PySem PyProof.Rows
def b9:Bool->UX->Array UX->Nat->Nat->Nat->StateT Vr Sem (Option Nat):=sortPriv% PySem.Builtin.gallop
def iq:Array UX->Array UX->StateT Vr Sem (Array UX):=sortPriv% PySem.Builtin.mergeLo
def ir:Array UX->Array UX->StateT Vr Sem (Array UX):=sortPriv% PySem.Builtin.mergeHi
abbrev b_ (st:Vr)(g:Nat):Vr:=SortSt.mk' (kindOf st) (Vv st) (Vm st) g (Xu st)
theorem tV (left:Bool)(key:UX)(arr:Array UX)(base n hint:Nat):b9 left key arr base n hint=(do
  let ask:=λ(at_:Nat)=>(do
   let z <- elem' arr (base+at_)
   if left then lt' z key else return (<- lt' key z).map (!·):StateT Vr Sem (Option Bool))
  let mut before:=0
  let mut step:=1
  let mut u:=0
  let mut v:=0
  let some up <- ask hint|return none
  if up then
   let room:=n-hint
   for _ in [0:n] do
    if step >= room then break
    let some on <- ask (hint+step)|return none
    if !on then break
    before:=step
    step:=2*step+1
   u:=hint+before+1
   v:=hint+min step room
  else
   let room:=hint+1
   for _ in [0:n] do
    if step >= room then break
    let some hit <- ask (hint-step)|return none
    if hit then break
    before:=step
    step:=2*step+1
   u:=hint+1-min step room
   v:=hint-before
  for _ in [0:n] do
   if u >= v then break
   let mid:=u+(v-u) / 2
   let some on <- ask mid|return none
   if on then u:=mid+1 else v:=mid
  return some v):=rfl
theorem qK (p q:Array UX):iq p q=(do
  rule "list.sort.merge-lo"
  let all:=p.size+q.size
  let rest:=λ(to:Array UX) (i j:Nat)=>to++p.extract i p.size++q.extract j q.size
  let tail:=λ(to:Array UX) (i j:Nat)=>to++q.extract j q.size++p.extract i p.size
  let mut to:Array UX:=#[<- elem' q 0]
  let mut i:=0
  let mut j:=1
  if j==q.size then return rest to i j
  if i+1==p.size then return tail to i j
  let mut mg:=gallopOf (<- get)
  for _ in [0:all] do
   let mut m:=0
   let mut n:=0
   for _ in [0:all] do
    let some ES <- lt' (<- elem' q j) (<- elem' p i)|return rest to i j
    if ES then
     to:=to.push (<- elem' q j);j:=j+1;n:=n+1;m:=0
     if j==q.size then return rest to i j
     if n >= mg then break
    else
     to:=to.push (<- elem' p i);i:=i+1;m:=m+1;n:=0
     if i+1==p.size then return tail to i j
     if m >= mg then break
   rule "list.sort.gallop"
   mg:=mg+1
   for _ in [0:all] do
    if mg>1 then mg:=mg-1
    modify λst=>b_ st mg
    let some k <- b9 false (<- elem' q j) p i (p.size-i) 0|return rest to i j
    m:=k
    if k>0 then
     to:=to++p.extract i (i+k);i:=i+k
     if i+1==p.size then return tail to i j
     if i==p.size then return rest to i j
    to:=to.push (<- elem' q j);j:=j+1
    if j==q.size then return rest to i j
    let some k <- b9 true (<- elem' p i) q j (q.size-j) 0|return rest to i j
    n:=k
    if k>0 then
     to:=to++q.extract j (j+k);j:=j+k
     if j==q.size then return rest to i j
    to:=to.push (<- elem' p i);i:=i+1
    if i+1==p.size then return tail to i j
    if m<7&&n<7 then break
   mg:=mg+1
   modify λst=>b_ st mg
  unsupported "internal:list.sort.merge-bound"):=rfl
theorem qM (p q:Array UX):ir p q=(do
  rule "list.sort.merge-hi"
  let all:=p.size+q.size
  let rest:=λ(to:Array UX) (i j:Nat)=>p.extract 0 i++q.extract 0 j++to.reverse
  let tail:=λ(to:Array UX) (i j:Nat)=>q.extract 0 j++p.extract 0 i++to.reverse
  let mut i:=p.size-1
  let mut j:=q.size
  let mut to:Array UX:=#[<- elem' p i]
  if i==0 then return rest to i j
  if j==1 then return tail to i j
  let mut mg:=gallopOf (<- get)
  for _ in [0:all] do
   let mut m:=0
   let mut n:=0
   for _ in [0:all] do
    let some ES <- lt' (<- elem' q (j-1)) (<- elem' p (i-1))|return rest to i j
    if ES then
     i:=i-1;to:=to.push (<- elem' p i);m:=m+1;n:=0
     if i==0 then return rest to i j
     if m >= mg then break
    else
     j:=j-1;to:=to.push (<- elem' q j);n:=n+1;m:=0
     if j==1 then return tail to i j
     if n >= mg then break
   rule "list.sort.gallop"
   mg:=mg+1
   for _ in [0:all] do
    if mg>1 then mg:=mg-1
    modify λst=>b_ st mg
    let some h <- b9 false (<- elem' q (j-1)) p 0 i (i-1)|return rest to i j
    let k:=i-h
    m:=k
    if k>0 then
     to:=to++(p.extract h i).reverse;i:=h
     if i==0 then return rest to i j
    j:=j-1;to:=to.push (<- elem' q j)
    if j==1 then return tail to i j
    let some h <- b9 true (<- elem' p (i-1)) q 0 j (j-1)|return rest to i j
    let k:=j-h
    n:=k
    if k>0 then
     to:=to++(q.extract h j).reverse;j:=h
     if j==1 then return tail to i j
     if j==0 then return rest to i j
    i:=i-1;to:=to.push (<- elem' p i)
    if i==0 then return rest to i j
    if m<7&&n<7 then break
   mg:=mg+1
   modify λst=>b_ st mg
  unsupported "internal:list.sort.merge-bound"):=rfl
theorem qO (i:Nat):mergeAt' i=(do
  let st <- get
  let (some (sa,na,pw),some (sb,nb,_)):=((Vm st)[i]?,(Vm st)[i+1]?)|unsupported "internal:list.sort.pending"
  set (XC st (((Vm st).setIfInBounds i (sa,na+nb,pw)).eraseIdxIfInBounds (i+1)))
  let some k <- b9 false (<- elem' (Vv st) sb) (Vv st) sa na 0|return false
  let (sa,na):=(sa+k,na-k)
  if na==0 then return true
  let some nb <- b9 true (<- elem' (Vv st) (sa+na-1)) (Vv st) sb nb (nb-1)|return false
  if nb==0 then return true
  let x:=(Vv st).extract sa sb
  let y:=(Vv st).extract sb (sb+nb)
  let got <- if na<=nb then iq x y else ir x y
  modify λs2=>V8 s2 (got.toList.zipIdx.foldl (λa (p,j)=>a.setIfInBounds (sa+j) p) (Vv s2))
  return (Xu (<- get)).isNone):=rfl
structure b7 (c:UX->UX->Bool):Prop where
 Lx:∀x y,c x y=true->c y x=false
 Qa:∀x y z,c x z=true->c x y=true\/c y z=true
def le (c:UX->UX->Bool)(x y:UX):Prop:=c y x=false
section
variable {c:UX->UX->Bool}
theorem b7.refl (O:b7 c)(x:UX):le c x x:=by
 cases h:c x x
 ·exact h
 ·exact O.Lx _ _ h
theorem b7.trans (O:b7 c){x y z:UX}(h1:le c x y)(h2:le c y z):le c x z:=by
 cases h:c z x
 ·exact h
 ·rcases O.Qa _ y _ h with q|q
  ·exact absurd (q.symm.trans h2) (by simp)
  ·exact absurd (q.symm.trans h1) (by simp)
theorem b7.of_lt (O:b7 c){x y:UX}(h:c x y=true):le c x y:=O.Lx _ _ h
def el (a:Array UX)(i:Nat):UX:=a.getD i (Value.none,Value.none)
theorem iF {a:Array UX}{i:Nat}(h:i<a.size):a[i]?=some (el a i):=by
 rw[getElem?_pos a i h,el,W8,getElem?_pos a i h];rfl
theorem vm {a:Array UX}{i:Nat}{x:UX}(h:a[i]?=some x):el a i=x:=by
 rw[el,W8,h];rfl
theorem dF {a b:Array UX}{i j:Nat}(h:a[i]?=b[j]?):el a i=el b j:=by
 rw[el,el,W8,W8,h]
def SR (c:UX->UX->Bool)(a:Array UX)(lo hi:Nat):Prop:=∀i j,lo<=i->i<=j->j<hi->le c (el a i) (el a j)
def fg (prog:UY)(w:Vc)(A:V6)(E:UQ->UT->Prop)(s:UT)(κ:Xi)(c:UX->UX->Bool)(S:UX->Prop):Prop :=
 ∀(x y:UX) (st:Vr) (Q:Option Bool->Vr->Prop),S x->S y->kindOf st=κ->Q (some (c x y)) st->wpS (model prog w) A E s (lt' x y) Q st
end
section
variable {prog:UY}{w:Vc}{A:V6}{E:UQ->UT->Prop}{s:UT}{κ:Xi}{c:UX->UX->Bool}{S:UX->Prop}
theorem aK {a:Array UX}{i:Nat}{Q:UX->Vr->Prop}{st:Vr}(h:i<a.size)(q:Q (el a i) st):wpS (model prog w) A E s (elem' a i) Q st:=by
 rw[elem'_eq,iF h];exact U7 q
def dG (c:UX->UX->Bool)(left:Bool)(key:UX)(a:Array UX)(base i:Nat):Bool:=if left=true then c (el a (base+i)) key else !c key (el a (base+i))
theorem Dv (O:b7 c){left:Bool}{key:UX}{a:Array UX}{base n i j:Nat}(hs:SR c a base (base+n))(aB:i<=j)(hj:j<n)(h:dG c left key a base j=true):dG c left key a base i=true:=by
 have hl:=hs (base+i) (base+j) (by lia) (by lia) (by lia)
 unfold dG at *
 cases left with
 |true =>
  rw[if_pos rfl]at *
  rcases O.Qa _ (el a (base+i)) _ h with q|q
  ·exact absurd (q.symm.trans hl) (by simp)
  ·exact q
 |false =>
  rw[if_neg (by simp)]at *
  rw[X1]at *
  exact O.trans hl h
theorem g8 (L:fg prog w A E s κ c S){left:Bool}{key:UX}{a:Array UX}{base n i:Nat}{Q:Option Bool->Vr->Prop}{st:Vr}(hk:kindOf st=κ)(hK:S key)(hA:∀i,i<n->S (el a (base+i)))(hn:base+n<=a.size)(hi:i<n)
  (h:Q (some (dG c left key a base i)) st):wpS (model prog w) A E s (do
   let z <- elem' a (base+i)
   if left then lt' z key else return (<- lt' key z).map (!·):StateT Vr Sem (Option Bool)) Q st:=by
 refine U0 (aK (by lia) ?_)
 unfold dG at h;cases left with
 |true =>
  rw[if_pos rfl]at *
  exact L _ _ st Q (hA i hi) hK hk h
 |false =>
  rw[if_neg (by simp)]at *
  exact U0 (L _ _ st _ hK (hA i hi) hk (U7 h))
theorem dg (O:b7 c)(L:fg prog w A E s κ c S){left:Bool}{key:UX}{a:Array UX}{base n hint:Nat}{Q:Option Nat->Vr->Prop}{st:Vr}(hk:kindOf st=κ)(hK:S key)(hA:∀i,i<n->S (el a (base+i)))(hn:base+n<=a.size)
  (hs:SR c a base (base+n)) (hh:hint<n) (h:∀k,k<=n->(∀i,i<k->dG c left key a base i=true)->(∀i,k<=i->i<n->dG c left key a base i=false)->Q (some k) st) :
  wpS (model prog w) A E s (b9 left key a base n hint) Q st:=by
 rw[tV];dsimp only;have up:∀{i j},i<=j->j<n->dG c left key a base j=true->dG c left key a base i=true:=λh1 h2 h3=>Dv O hs h1 h2 h3;refine U0 (g8 L hk hK hA hn hh ?_);dsimp only;have dn:∀{i j},i<=j->j<n->dG c left key a base i=false->dG c left key a base j=false:=λ{i j} h1 h2 h3=>by
  cases q:dG c left key a base j
  ·rfl
  ·rw[up h1 h2 q]at h3;exact absurd h3 (by simp)
 cases A9:dG c left key a base hint with
 |true =>
  rw[if_pos rfl];refine U0 (Ws (VX (I:=λx r aA=>aA=st/\∃be cq,r=(none,be,cq)/\hint+be<n/\be<cq/\x+1<=cq/\dG c left key a base (hint+be)=true)
   (Q:=λr aA=>aA=st/\∃be cq,r=(none,be,cq)/\hint+be<n/\be<cq/\dG c left key a base (hint+be)=true/\(n-hint<=cq\/(hint+cq<n/\dG c left key a base (hint+cq)=false))) ?_ ?_ ?_) ?_)
  ·rintro x r aA _ hx ⟨rfl,be,cq,rfl,h1,h2,h3,h4⟩;dsimp only
   by_cases hr:cq >= n-hint
   ·rw[if_pos hr];exact U7 ⟨rfl,be,cq,rfl,h1,h2,h4,.inl hr⟩
   ·rw[if_neg hr];refine U0 (g8 L hk hK hA hn (by omega) ?_)
    dsimp only;cases hb:dG c left key a base (hint+cq)with
    |true =>
     rw[if_neg (by simp)]
     exact U7 ⟨rfl,cq,_,rfl,by omega,by omega,by omega,hb⟩
    |false =>
     rw[if_pos (by simp)]
     exact U7 ⟨rfl,be,cq,rfl,h1,h2,h4,.inr ⟨by omega,hb⟩⟩
  ·rintro r aA ⟨rfl,be,cq,rfl,h1,h2,h3,h4⟩;exact⟨rfl,be,cq,rfl,h1,h2,h4,.inl (by omega)⟩
  ·exact⟨rfl,0,1,rfl,by omega,by omega,by omega,A9⟩
  rintro r aA ⟨e0,be,cq,rfl,h1,h2,h4,h5⟩;rw[e0];dsimp only;have g1:∀i,i<hint+be+1->dG c left key a base i=true:=λi hi=>up (j:=hint+be) (by omega) h1 h4
  have g2:∀i,hint+min cq (n-hint)<=i->i<n->dG c left key a base i=false:=λi hi jg=>by
   rcases h5 with q|⟨q1,q2⟩
   ·omega
   ·exact dn (i:=hint+cq) (by omega) jg q2
  refine U0 (Ws (VX (I:=λx r aA=>aA=st/\∃u v,r=(none,u,v)/\u<=v/\v<=n/\v-u<=n-x/\(∀i,i<u->dG c left key a base i=true)/\(∀i,v<=i->i<n->dG c left key a base i=false))
   (Q:=λr aA=>aA=st/\∃v,r=(none,v,v)/\v<=n/\(∀i,i<v->dG c left key a base i=true)/\(∀i,v<=i->i<n->dG c left key a base i=false)) ?_ ?_ ?_) ?_)
  ·rintro x r aA _ hx ⟨rfl,u,v,rfl,h1,h2,h3,h4,h5⟩;dsimp only
   by_cases JQ:u >= v
   ·rw[if_pos JQ];obtain rfl:u=v:=by omega
    exact U7 ⟨rfl,u,rfl,h2,h4,h5⟩
   ·rw[if_neg JQ];refine U0 (g8 L hk hK hA hn (by omega) ?_)
    dsimp only;cases hb:dG c left key a base (u+(v-u) / 2)with
    |true =>
     rw[if_pos rfl];exact U7 ⟨rfl,_,v,rfl,by omega,h2,by omega,λi hi=>up (j:=u+(v-u) / 2) (by omega) (by omega) hb,h5⟩
    |false =>
     rw[if_neg (by simp)]
     exact U7 ⟨rfl,u,_,rfl,by omega,by omega,by omega,h4,λi hi jg=>dn (i:=u+(v-u) / 2) (by omega) (by omega) hb⟩
  ·rintro r aA ⟨rfl,u,v,rfl,h1,h2,h3,h4,h5⟩;obtain rfl:u=v:=by omega
   exact⟨rfl,u,rfl,h2,h4,h5⟩
  ·exact⟨rfl,_,_,rfl,by omega,by omega,by omega,by assumption,by assumption⟩
  ·rintro r aA ⟨rfl,v,rfl,h2,h4,h5⟩;exact U7 (h v h2 h4 h5)
 |false =>
  rw[if_neg (by simp)]
  refine U0 (Ws (VX (I:=λx r aA=>aA=st/\∃be cq,r=(none,be,cq)/\be<=hint/\be<cq/\x+1<=cq/\dG c left key a base (hint-be)=false)
   (Q:=λr aA=>aA=st/\∃be cq,r=(none,be,cq)/\be<=hint/\be<cq/\dG c left key a base (hint-be)=false/\(hint+1<=cq\/(cq<=hint/\dG c left key a base (hint-cq)=true))) ?_ ?_ ?_) ?_)
  ·rintro x r aA _ hx ⟨rfl,be,cq,rfl,h1,h2,h3,h4⟩;dsimp only
   by_cases hr:cq >= hint+1
   ·rw[if_pos hr];exact U7 ⟨rfl,be,cq,rfl,h1,h2,h4,.inl hr⟩
   ·rw[if_neg hr];refine U0 (g8 L hk hK hA hn (by omega) ?_)
    dsimp only;cases hb:dG c left key a base (hint-cq)with
    |true =>
     rw[if_pos rfl];exact U7 ⟨rfl,be,cq,rfl,h1,h2,h4,.inr ⟨by omega,hb⟩⟩
    |false =>
     rw[if_neg (by simp)]
     exact U7 ⟨rfl,cq,_,rfl,by omega,by omega,by omega,hb⟩
  ·rintro r aA ⟨rfl,be,cq,rfl,h1,h2,h3,h4⟩;exact⟨rfl,be,cq,rfl,h1,h2,h4,.inl (by omega)⟩
  ·exact⟨rfl,0,1,rfl,by omega,by omega,by omega,A9⟩
  rintro r aA ⟨e0,be,cq,rfl,h1,h2,h4,h5⟩;rw[e0];dsimp only;have g1:∀i,i<hint+1-min cq (hint+1)->dG c left key a base i=true:=λi hi=>by
   rcases h5 with q|⟨q1,q2⟩
   ·omega
   ·exact up (j:=hint-cq) (by omega) (by omega) q2
  have g2:∀i,hint-be<=i->i<n->dG c left key a base i=false:=λi hi jg=>dn (i:=hint-be) hi jg h4;refine U0 (Ws (VX (I:=λx r aA=>aA=st/\∃u v,r=(none,u,v)/\u<=v/\v<=n/\v-u<=n-x/\(∀i,i<u->dG c left key a base i=true)/\(∀i,v<=i->i<n->dG c left key a base i=false))
   (Q:=λr aA=>aA=st/\∃v,r=(none,v,v)/\v<=n/\(∀i,i<v->dG c left key a base i=true)/\(∀i,v<=i->i<n->dG c left key a base i=false)) ?_ ?_ ?_) ?_)
  ·rintro x r aA _ hx ⟨rfl,u,v,rfl,h1,h2,h3,h4,h5⟩;dsimp only
   by_cases JQ:u >= v
   ·rw[if_pos JQ];obtain rfl:u=v:=by omega
    exact U7 ⟨rfl,u,rfl,h2,h4,h5⟩
   ·rw[if_neg JQ];refine U0 (g8 L hk hK hA hn (by omega) ?_)
    dsimp only;cases hb:dG c left key a base (u+(v-u) / 2)with
    |true =>
     rw[if_pos rfl];exact U7 ⟨rfl,_,v,rfl,by omega,h2,by omega,λi hi=>up (j:=u+(v-u) / 2) (by omega) (by omega) hb,h5⟩
    |false =>
     rw[if_neg (by simp)]
     exact U7 ⟨rfl,u,_,rfl,by omega,by omega,by omega,h4,λi hi jg=>dn (i:=u+(v-u) / 2) (by omega) (by omega) hb⟩
  ·rintro r aA ⟨rfl,u,v,rfl,h1,h2,h3,h4,h5⟩;obtain rfl:u=v:=by omega
   exact⟨rfl,u,rfl,h2,h4,h5⟩
  ·exact⟨rfl,_,_,rfl,by omega,by omega,by omega,by assumption,by assumption⟩
  ·rintro r aA ⟨rfl,v,rfl,h2,h4,h5⟩;exact U7 (h v h2 h4 h5)
end
section
variable {c:UX->UX->Bool}{p q:Array UX}{t:List UX}{i j:Nat}
theorem uq {a:Array UX}{i:Nat}(h:i<a.size):a.toList.take (i+1)=a.toList.take i++[el a i]:=by
 have e:a.toList[i]?=some (el a i):=by rw[Vo];exact iF h
 rw[List.take_succ,e];rfl
theorem vn {a:Array UX}{i:Nat}(h:i<a.size):a.toList.drop i=el a i::a.toList.drop (i+1):=by
 have hl:i<a.toList.length:=by rw[Vs];exact h
 have e:a.toList[i]=el a i:=by
  have h1:=U4 hl;rw[Vo,iF h]at h1;exact(VL h1).symm
 rw[V3 hl,e]
structure Mg (c:UX->UX->Bool)(p q:Array UX)(t:List UX)(i j:Nat):Prop where
 hi:i<=p.size
 hj:j<=q.size
 perm:t.Perm (p.toList.take i++q.toList.take j)
 jw:t.Pairwise (le c)
 ap:∀x∈t,∀k,i<=k->k<p.size->le c x (el p k)
 aq:∀x∈t,∀k,j<=k->k<q.size->le c x (el q k)
def Gd (c:UX->UX->Bool)(p q:Array UX)(t:List UX):Prop:=t.Perm (p.toList++q.toList)/\t.Pairwise (le c)
theorem qa {x:UX}(h:t.Pairwise (le c))(hx:∀y∈t,le c y x):(t++[x]).Pairwise (le c):=by
 rw[WH];exact⟨h,WS _ _,λy hy z hz=>by rw[U3.mp hz];exact hx y hy⟩
theorem Mg.jz (m:Mg c p q t i j)(hj:j<q.size)(sq:SR c q 0 q.size)(hle:∀k,i<=k->k<p.size->le c (el q j) (el p k)):Mg c p q (t++[el q j]) i (j+1) where
 hi:=m.hi
 hj:=hj
 perm:=by
  rw[uq hj,<- VP];exact m.perm.append_right _
 jw:=qa m.jw λy hy=>m.aq y hy j (US _) hj
 ap:=λx hx k h1 h2=>by
  rcases Vh.mp hx with h|h
  ·exact m.ap x h k h1 h2
  ·rw[U3.mp h];exact hle k h1 h2
 aq:=λx hx k h1 h2=>by
  rcases Vh.mp hx with h|h
  ·exact m.aq x h k (by lia) h2
  ·rw[U3.mp h];exact sq j k (by lia) (by lia) h2
theorem Mg.jA (m:Mg c p q t i j)(hi:i<p.size)(sp:SR c p 0 p.size)(hle:∀k,j<=k->k<q.size->le c (el p i) (el q k)):Mg c p q (t++[el p i]) (i+1) j where
 hi:=hi
 hj:=m.hj
 perm:=by
  rw[uq hi];refine(m.perm.append_right _).trans ?_;rw[VP,VP];exact List.Perm.append_left _ List.perm_append_comm
 jw:=qa m.jw λy hy=>m.ap y hy i (US _) hi
 ap:=λx hx k h1 h2=>by
  rcases Vh.mp hx with h|h
  ·exact m.ap x h k (by lia) h2
  ·rw[U3.mp h];exact sp i k (by lia) (by lia) h2
 aq:=λx hx k h1 h2=>by
  rcases Vh.mp hx with h|h
  ·exact m.aq x h k h1 h2
  ·rw[U3.mp h];exact hle k h1 h2
theorem fP {a:Array UX}{i k:Nat}(h:i+k<a.size):(a.toList.drop i).take (k+1)=(a.toList.drop i).take k++[el a (i+k)]:=by
 have e:(a.toList.drop i)[k]?=some (el a (i+k)):=by rw[List.getElem?_drop,Vo];exact iF h
 rw[List.take_succ,e];rfl
theorem Mg.hX (m:Mg c p q t i j)(sp:SR c p 0 p.size):∀(k:Nat),i+k<=p.size->(∀x,x<k->∀y,j<=y->y<q.size->le c (el p (i+x)) (el q y))->Mg c p q (t++(p.toList.drop i).take k) (i+k) j
 |0,_,_=>by simpa using m
 |k+1,h,hle=>by
  have m':=Mg.hX m sp k (by lia) λx hx=>hle x (by lia)
  rw[fP (by lia),<- VP,<- XG]
  exact m'.jA (by lia) sp (hle k (by lia))
theorem Mg.hV (m:Mg c p q t i j)(sq:SR c q 0 q.size):∀(k:Nat),j+k<=q.size->(∀x,x<k->∀y,i<=y->y<p.size->le c (el q (j+x)) (el p y))->Mg c p q (t++(q.toList.drop j).take k) i (j+k)
 |0,_,_=>by simpa using m
 |k+1,h,hle=>by
  have m':=Mg.hV m sq k (by lia) λx hx=>hle x (by lia)
  rw[fP (by lia),<- VP,<- XG]
  exact m'.jz (by lia) sq (hle k (by lia))
theorem Mg.full (m:Mg c p q t p.size q.size):Gd c p q t:=by
 refine⟨?_,m.jw⟩;have h:=m.perm;rw[Wi (by rw[Vs];lia),Wi (by rw[Vs];lia)]at h
 exact h
theorem b6 (a:Array UX)(i j:Nat):(a.extract i j).toList=(a.toList.drop i).take (j-i):=by
 rw[Array.toList_extract,List.extract_eq_take_drop]
theorem rG {a:Array UX}{i j:Nat}(h:a.size<=i):(a.toList.drop i).take (j-i)=[]:=by
 rw[Ye (by rw[Vs];exact h)]
 simp
theorem Mg.done {to:Array UX}(m:Mg c p q to.toList i j)(sp:SR c p 0 p.size)(sq:SR c q 0 q.size)(h:i=p.size\/j=q.size):Gd c p q (to++p.extract i p.size++q.extract j q.size).toList:=by
 rw[Wk,Wk,b6,b6];rcases h with rfl|rfl
 ·rw[rG (US _),VW];have m':=m.hV sq (q.size-j) (by have:=m.hj;lia) λx hx y h1 h2=>by lia
  rw[show j+(q.size-j)=q.size by have:=m.hj;lia]at m'
  exact m'.full
 ·rw[rG (a:=q) (US _),VW];have m':=m.hX sp (p.size-i) (by have:=m.hi;lia) λx hx y h1 h2=>by lia
  rw[show i+(p.size-i)=p.size by have:=m.hi;lia]at m'
  exact m'.full
theorem Mg.tail {to:Array UX}(O:b7 c)(m:Mg c p q to.toList i j)(sp:SR c p 0 p.size)(sq:SR c q 0 q.size)(h:i+1=p.size)(hl:∀y,y<q.size->c (el q y) (el p (p.size-1))=true):Gd c p q (to++q.extract j q.size++p.extract i p.size).toList:=by
 rw[Wk,Wk,b6,b6];have m':=m.hV sq (q.size-j) (by have:=m.hj;lia) λx hx y h1 h2=>by
  rw[show y=p.size-1 by lia]
  exact O.of_lt (hl _ (by lia))
 rw[show j+(q.size-j)=q.size by have:=m.hj;lia]at m'
 have m2:=m'.hX sp (p.size-i) (by have:=m.hi;lia) λx hx y h1 h2=>by lia
 rw[show i+(p.size-i)=p.size by have:=m.hi;lia]at m2
 exact m2.full
theorem vA (to a:Array UX)(i k:Nat):(to++a.extract i (i+k)).toList=to.toList++(a.toList.drop i).take k:=by
 rw[Wk,b6,show i+k-i=k by lia]
theorem Mg.start (O:b7 c)(sp:SR c p 0 p.size)(sq:SR c q 0 q.size)(hq:0<q.size)(hp:0<p.size)(h:c (el q 0) (el p 0)=true):Mg c p q [el q 0] 0 1:=by
 have m:Mg c p q [] 0 0:=⟨Vb _,Vb _,(by simp),.nil,(λx hx=>by cases hx),(λx hx=>by cases hx)⟩
 exact m.jz hq sq λk _ hk=>O.trans (O.of_lt h) (sp 0 k (by lia) (by lia) hk)
end
structure jq (st aA:Vr):Prop where
 kind:kindOf aA=kindOf st
 arr:Vv aA=Vv st
 pend:Vm aA=Vm st
 fail:Xu aA=Xu st
theorem jq.refl (st:Vr):jq st st:=⟨rfl,rfl,rfl,rfl⟩
theorem jq.Em {st aA:Vr}(e:jq st aA)(g:Nat):jq st (b_ aA g):=⟨e.kind,e.arr,e.pend,e.fail⟩
abbrev RI:=Array UX×Nat×Nat×Nat×Nat
abbrev RG:=Array UX×Nat×Nat×Nat×Nat×Nat
abbrev RO:=Array UX×Nat×Nat×Nat
noncomputable def Nn (p q t:Array UX)(i j mg m n:Nat):StateT Vr Sem (ForInStep (Option (Array UX)×RG)):=do
 let z <- elem' p i
 if (i+1+1==p.size)=true then pure (.done (some (t.push z++q.extract j++p.extract (i+1)),t.push z,i+1,j,mg,m,n))
 else if (decide (m<7)&&decide (n<7))=true then pure (.done (none,t.push z,i+1,j,mg,m,n)) else pure (.yield (none,t.push z,i+1,j,mg,m,n))
noncomputable def Np (p q t:Array UX)(i j mg m n:Nat):StateT Vr Sem (ForInStep (Option (Array UX)×RG)):=do
 let y <- elem' q j
 if (j+1==q.size)=true then pure (.done (some (t.push y++p.extract i++q.extract (j+1)),t.push y,i,j+1,mg,m,n))
 else do
  let x <- elem' p i
  let r <- b9 true x q (j+1) (q.size-(j+1)) 0
  match r with
  |some k=>if k>0 then (if (j+1+k==q.size)=true then pure (.done (some (t.push y++q.extract (j+1) (j+1+k)++p.extract i++q.extract (j+1+k)),t.push y++q.extract (j+1) (j+1+k),i,j+1+k,mg,m,k))
    else Nn p q (t.push y++q.extract (j+1) (j+1+k)) i (j+1+k) mg m k) else Nn p q (t.push y) i (j+1) mg m k
  |_=>pure (.done (some (t.push y++p.extract i++q.extract (j+1)),t.push y,i,j+1,mg,m,n))
noncomputable def JD (p q t:Array UX)(i j mg m n:Nat):StateT Vr Sem (ForInStep (Option (Array UX)×RG)):=do
 modify λst=>b_ st mg
 let y <- elem' q j
 let r <- b9 false y p i (p.size-i) 0
 match r with
 |some k=>if k>0 then (if (i+k+1==p.size)=true then pure (.done (some (t++p.extract i (i+k)++q.extract j++p.extract (i+k)),t++p.extract i (i+k),i+k,j,mg,k,n))
   else if (i+k==p.size)=true then pure (.done (some (t++p.extract i (i+k)++p.extract (i+k)++q.extract j),t++p.extract i (i+k),i+k,j,mg,k,n))
   else Np p q (t++p.extract i (i+k)) (i+k) j mg k n) else Np p q t i j mg k n
 |_=>pure (.done (some (t++p.extract i++q.extract j),t,i,j,mg,m,n))
def R4 (p q:Array UX)(s:Option (Array UX)×RG):StateT Vr Sem (ForInStep (Option (Array UX)×RG)):=if s.2.2.2.2.1>1 then JD p q s.2.1 s.2.2.1 s.2.2.2.1 (s.2.2.2.2.1-1) s.2.2.2.2.2.1 s.2.2.2.2.2.2 else JD p q s.2.1 s.2.2.1 s.2.2.2.1 s.2.2.2.2.1 s.2.2.2.2.2.1 s.2.2.2.2.2.2
noncomputable def JC (p q:Array UX)(mg:Nat)(s:Option (Array UX)×RI):StateT Vr Sem (ForInStep (Option (Array UX)×RI)):=do
 let y <- elem' q s.2.2.2.1
 if (s.2.2.2.1+1==q.size)=true then pure (.done (some (s.2.1.push y++p.extract s.2.2.1++q.extract (s.2.2.2.1+1)),s.2.1.push y,s.2.2.1,s.2.2.2.1+1,0,s.2.2.2.2.2+1))
 else if s.2.2.2.2.2+1 >= mg then pure (.done (none,s.2.1.push y,s.2.2.1,s.2.2.2.1+1,0,s.2.2.2.2.2+1)) else pure (.yield (none,s.2.1.push y,s.2.2.1,s.2.2.2.1+1,0,s.2.2.2.2.2+1))
noncomputable def JB (p q:Array UX)(mg:Nat)(s:Option (Array UX)×RI):StateT Vr Sem (ForInStep (Option (Array UX)×RI)):=do
 let x <- elem' p s.2.2.1
 if (s.2.2.1+1+1==p.size)=true then pure (.done (some (s.2.1.push x++q.extract s.2.2.2.1++p.extract (s.2.2.1+1)),s.2.1.push x,s.2.2.1+1,s.2.2.2.1,s.2.2.2.2.1+1,0))
 else if s.2.2.2.2.1+1 >= mg then pure (.done (none,s.2.1.push x,s.2.2.1+1,s.2.2.2.1,s.2.2.2.2.1+1,0)) else pure (.yield (none,s.2.1.push x,s.2.2.1+1,s.2.2.2.1,s.2.2.2.2.1+1,0))
noncomputable def Nm (p q:Array UX)(mg:Nat)(s:Option (Array UX)×RI):StateT Vr Sem (ForInStep (Option (Array UX)×RI)):=do
 let y <- elem' q s.2.2.2.1
 let x <- elem' p s.2.2.1
 let r <- lt' y x
 match r with
 |some ES=>if ES=true then JC p q mg s else JB p q mg s
 |_=>pure (.done (some (s.2.1++p.extract s.2.2.1++q.extract s.2.2.2.1),s.2.1,s.2.2.1,s.2.2.2.1,s.2.2.2.2.1,s.2.2.2.2.2))
noncomputable def Qf (p q:Array UX)(s:Option (Array UX)×RO):StateT Vr Sem (ForInStep (Option (Array UX)×RO)):=do
 let s1 <- forIn [:p.size+q.size] ((none,s.2.1,s.2.2.1,s.2.2.2.1,0,0):Option (Array UX)×RI) λ_ r=>Nm p q s.2.2.2.2 r
 match s1.1 with
 |some r=>pure (.done (some r,s1.2.1,s1.2.2.1,s1.2.2.2.1,s.2.2.2.2))
 |none=>do
  liftM (rule "list.sort.gallop")
  let s2 <- forIn [:p.size+q.size] ((none,s1.2.1,s1.2.2.1,s1.2.2.2.1,s.2.2.2.2+1,s1.2.2.2.2.1,s1.2.2.2.2.2):Option (Array UX)×RG) λ_ r=>R4 p q r
  match s2.1 with
  |some r=>pure (.done (some r,s2.2.1,s2.2.2.1,s2.2.2.2.1,s2.2.2.2.2.1))
  |none=>do
   modify λst=>b_ st (s2.2.2.2.2.1+1)
   pure (.yield (none,s2.2.1,s2.2.2.1,s2.2.2.2.1,s2.2.2.2.2.1+1))
theorem qL (p q:Array UX):iq p q=(do
  liftM (rule "list.sort.merge-lo")
  let y <- elem' q 0
  if (1==q.size)=true then pure (#[y]++p.extract 0++q.extract 1)
  else if (0+1==p.size)=true then pure (#[y]++q.extract 1++p.extract 0)
  else do
   let st <- get
   let s <- forIn [:p.size+q.size] ((none,#[y],0,1,gallopOf st):Option (Array UX)×RO) λ_ s=>Qf p q s
   match s.1 with
   |some r=>pure r
   |none=>liftM (unsupported "internal:list.sort.merge-bound" : Sem (Array UX))):=by
 rw[qK];dsimp only;refine congrArg (bind _) (funext λ_=>?_);refine congrArg (bind _) (funext λy=>?_);refine congrArg (ite _ _) (congrArg (ite _ _) ?_);refine congrArg (bind _) (funext λy=>?_);refine congr (congrArg bind (congrArg _ (funext λ_=>funext λs=>?_))) (funext λs=>?_)
 ·refine congr (congrArg bind (congrArg _ (funext λ_=>funext λs=>?_))) (funext λs=>?_)
  ·rfl
  ·cases s.1
   ·refine congrArg (bind _) (funext λ_=>?_);refine congr (congrArg bind (congrArg _ (funext λ_=>funext λs=>?_))) (funext λs=>?_)
    ·rfl
    ·cases s.1 <;> rfl
   ·rfl
 ·cases s.1 <;> rfl
section
variable {prog:UY}{w:Vc}{A:V6}{E:UQ->UT->Prop}{s:UT}{κ:Xi}{c:UX->UX->Bool}{S:UX->Prop}{p q:Array UX}
theorem xG {st:Vr}{Q:ForInStep (Option (Array UX)×RG)->Vr->Prop}{t:Array UX}{i j mg m n:Nat}(O:b7 c)(sp:SR c p 0 p.size)(sq:SR c q 0 q.size)(hl:∀y,y<q.size->c (el q y) (el p (p.size-1))=true)(m3:Mg c p q t.toList i j)(hi:i+1<p.size)(g3:∀y,j<=y->y<q.size->le c (el p i) (el q y))
  (hd:∀out r,Gd c p q out.toList->Q (.done (some out,r)) st) (hn:∀t' m n,Mg c p q t'.toList (i+1) j->i+1+1<p.size->Q (.done (none,t',i+1,j,mg,m,n)) st/\Q (.yield (none,t',i+1,j,mg,m,n)) st):wpS (model prog w) A E s (Nn p q t i j mg m n) Q st:=by
 refine U0 (aK (by lia) ?_)
 have m4:Mg c p q (t.push (el p i)).toList (i+1) j:=by
  rw[W7];exact m3.jA (by lia) sp g3
 by_cases e5:(i+1+1==p.size)=true
 ·rw[if_pos e5];exact U7 (hd _ _ (m4.tail O sp sq (by simpa using e5) hl))
 rw[if_neg e5];have h5:i+1+1≠p.size:=by simpa using e5
 obtain⟨h6,h7⟩:=hn (t.push (el p i)) m n m4 (by lia)
 split
 ·exact U7 h6
 ·exact U7 h7
theorem xH {st:Vr}{Q:ForInStep (Option (Array UX)×RG)->Vr->Prop}{t:Array UX}{i j mg m n:Nat}(O:b7 c)(L:fg prog w A E s κ c S)(hk:kindOf st=κ)(Sp:∀i,i<p.size->S (el p i))(Sq:∀i,i<q.size->S (el q i))(sp:SR c p 0 p.size)(sq:SR c q 0 q.size)(hl:∀y,y<q.size->c (el q y) (el p (p.size-1))=true)(m1:Mg c p q t.toList i j)(hi:i+1<p.size)(hj:j<q.size)(g1:∀y,i<=y->y<p.size->le c (el q j) (el p y))
  (hd:∀out r,Gd c p q out.toList->Q (.done (some out,r)) st) (hn:∀t' j' m n,Mg c p q t'.toList (i+1) j'->i+1+1<p.size->j<j'->j'<q.size->Q (.done (none,t',i+1,j',mg,m,n)) st/\Q (.yield (none,t',i+1,j',mg,m,n)) st):wpS (model prog w) A E s (Np p q t i j mg m n) Q st:=by
 refine U0 (aK hj ?_);have m2:Mg c p q (t.push (el q j)).toList i (j+1):=by
  rw[W7];exact m1.jz hj sq g1
 by_cases e3:(j+1==q.size)=true
 ·rw[if_pos e3];exact U7 (hd _ _ (m2.done sp sq (.inr (by simpa using e3))))
 rw[if_neg e3];have h3:j+1≠q.size:=by simpa using e3
 refine U0 (aK (by lia) (U0 (dg O L hk (Sp _ (by lia)) (λx hx=>Sq _ (by lia)) (by lia) (λa b h1 h2 h3=>sq a b (by lia) h2 (by lia)) (by lia) λk k1 k2 k3=>?_)))
 have g3:∀y,j+1+k<=y->y<q.size->le c (el p i) (el q y):=λy h1 h2=>by
  have:=k3 (y-(j+1)) (by lia) (by lia)
  unfold dG at this;rw[if_pos rfl,show j+1+(y-(j+1))=y by lia]at this
  exact this
 dsimp only
 by_cases zS:k>0
 ·rw[if_pos zS];have m3:Mg c p q (t.push (el q j)++q.extract (j+1) (j+1+k)).toList i (j+1+k):=by
   rw[vA];exact m2.hV sq k (by lia) λx hx y h1 h2=>O.trans (O.of_lt (show c (el q (j+1+x)) (el p i)=true from k2 x hx)) (sp _ y (by lia) h1 h2)
  by_cases e4:(j+1+k==q.size)=true
  ·rw[if_pos e4];exact U7 (hd _ _ (m3.done sp sq (.inr (by simpa using e4))))
  rw[if_neg e4];have h4:j+1+k≠q.size:=by simpa using e4
  exact xG O sp sq hl m3 hi g3 hd λt' m n h1 h2=>hn t' _ m n h1 h2 (by lia) (by lia)
 ·rw[if_neg zS];exact xG O sp sq hl m2 hi (λy h1 h2=>g3 y (by lia) h2) hd λt' m n h1 h2=>hn t' _ m n h1 h2 (by lia) (by lia)
theorem EM {st:Vr}{Q:ForInStep (Option (Array UX)×RG)->Vr->Prop}{t:Array UX}{i j mg m n:Nat}(O:b7 c)(L:fg prog w A E s κ c S)(hk:kindOf st=κ)(Sp:∀i,i<p.size->S (el p i))(Sq:∀i,i<q.size->S (el q i))(sp:SR c p 0 p.size)(sq:SR c q 0 q.size)(hl:∀y,y<q.size->c (el q y) (el p (p.size-1))=true)(m0:Mg c p q t.toList i j)(hi:i+1<p.size)(hj:j<q.size)
  (hd:∀out r,Gd c p q out.toList->Q (.done (some out,r)) (b_ st mg)) (hn:∀t' i' j' m n,Mg c p q t'.toList i' j'->i'+1<p.size->j'<q.size->i+j<i'+j'->Q (.done (none,t',i',j',mg,m,n)) (b_ st mg)/\Q (.yield (none,t',i',j',mg,m,n)) (b_ st mg)):wpS (model prog w) A E s (JD p q t i j mg m n) Q st:=by
 refine U0 (W9 (U0 (aK hj (U0 (dg O L hk (Sq _ hj) (λx hx=>Sp _ (by lia)) (by lia) (λa b h1 h2 h3=>sp a b (by lia) h2 (by lia)) (by lia) λk k1 k2 k3=>?_)))))
 have g0:∀x,x<k->le c (el p (i+x)) (el q j):=λx hx=>by
  have:=k2 x hx;unfold dG at this;rw[if_neg (by simp),X1]at this
  exact this
 have g1:∀y,i+k<=y->y<p.size->le c (el q j) (el p y):=λy h1 h2=>by
  have:=k3 (y-i) (by lia) (by lia)
  unfold dG at this;rw[if_neg (by simp),YB,show i+(y-i)=y by lia]at this
  exact O.of_lt this
 have Ux:i+k<p.size:=by
  rcases Wz (i+k) p.size with gh|QA
  ·exact gh
  ·have h1:=g0 (p.size-1-i) (by lia)
   rw[show i+(p.size-1-i)=p.size-1 by lia]at h1
   exact absurd ((hl j hj).symm.trans h1) (by simp)
 dsimp only
 by_cases zS:k>0
 ·rw[if_pos zS];have m1:Mg c p q (t++p.extract i (i+k)).toList (i+k) j:=by
   rw[vA];exact m0.hX sp k (by lia) λx hx y h1 h2=>O.trans (g0 x hx) (sq j y (by lia) h1 h2)
  by_cases e1:(i+k+1==p.size)=true
  ·rw[if_pos e1];exact U7 (hd _ _ (m1.tail O sp sq (by simpa using e1) hl))
  rw[if_neg e1];have wU:i+k+1≠p.size:=by simpa using e1
  rw[if_neg (by simp;lia)]
  exact xH O L hk Sp Sq sp sq hl m1 (by lia) hj g1 hd λt' j' m n h1 h2 h3 h4=>hn t' _ j' m n h1 h2 h4 (by lia)
 ·rw[if_neg zS];exact xH O L hk Sp Sq sp sq hl m0 hi hj (λy h1 h2=>g1 y (by lia) h2) hd λt' j' m n h1 h2 h3 h4=>hn t' _ j' m n h1 h2 h4 (by lia)
theorem EL {st:Vr}{Q:ForInStep (Option (Array UX)×RI)->Vr->Prop}{t:Array UX}{i j mg ma na:Nat}(O:b7 c)(L:fg prog w A E s κ c S)(hk:kindOf st=κ)(Sp:∀i,i<p.size->S (el p i))(Sq:∀i,i<q.size->S (el q i))(sp:SR c p 0 p.size)(sq:SR c q 0 q.size)(hl:∀y,y<q.size->c (el q y) (el p (p.size-1))=true)(m:Mg c p q t.toList i j)(hi:i+1<p.size)(hj:j<q.size)
  (hd:∀out r,Gd c p q out.toList->Q (.done (some out,r)) st) (hn:∀t' i' j' m n,Mg c p q t'.toList i' j'->i'+1<p.size->j'<q.size->i+j<i'+j'->Q (.done (none,t',i',j',m,n)) st/\Q (.yield (none,t',i',j',m,n)) st):wpS (model prog w) A E s (Nm p q mg (none,t,i,j,ma,na)) Q st:=by
 unfold Nm JC JB;dsimp only;refine U0 (aK hj (U0 (aK (by lia) (U0 (L _ _ st _ (Sq _ hj) (Sp _ (by lia)) hk ?_)))))
 dsimp only;cases hc:c (el q j) (el p i)with
 |true =>
  rw[if_pos rfl];refine U0 (aK hj ?_);have m1:Mg c p q (t.push (el q j)).toList i (j+1):=by
   rw[W7];exact m.jz hj sq λk h1 h2=>O.trans (O.of_lt hc) (sp i k (by lia) h1 h2)
  by_cases e3:(j+1==q.size)=true
  ·rw[if_pos e3];exact U7 (hd _ _ (m1.done sp sq (.inr (by simpa using e3))))
  rw[if_neg e3];have h3:j+1≠q.size:=by simpa using e3
  obtain⟨h6,h7⟩:=hn _ _ _ 0 (na+1) m1 hi (by lia) (by lia)
  split
  ·exact U7 h6
  ·exact U7 h7
 |false =>
  rw[if_neg (by simp)]
  refine U0 (aK (by lia) ?_)
  have m1:Mg c p q (t.push (el p i)).toList (i+1) j:=by
   rw[W7];exact m.jA (by lia) sp λk h1 h2=>O.trans (show le c (el p i) (el q j) from hc) (sq j k (by lia) h1 h2)
  by_cases e3:(i+1+1==p.size)=true
  ·rw[if_pos e3];exact U7 (hd _ _ (m1.tail O sp sq (by simpa using e3) hl))
  rw[if_neg e3];have h3:i+1+1≠p.size:=by simpa using e3
  obtain⟨h6,h7⟩:=hn _ _ _ (ma+1) 0 m1 (by lia) hj (by lia)
  split
  ·exact U7 h6
  ·exact U7 h7
theorem sH (O:b7 c)(L:fg prog w A E s κ c S){Q:Array UX->Vr->Prop}{st:Vr}(hk:kindOf st=κ)(Sp:∀i,i<p.size->S (el p i))(Sq:∀i,i<q.size->S (el q i))(sp:SR c p 0 p.size)(sq:SR c q 0 q.size)
  (hp:0<p.size) (hq:0<q.size) (hf:c (el q 0) (el p 0)=true) (hl:∀y,y<q.size->c (el q y) (el p (p.size-1))=true) (h:∀to aA,jq st aA->Gd c p q to.toList->Q to aA) :
  wpS (model prog w) A E s (iq p q) Q st:=by
 rw[qL];refine U0 (Yp (XB ⟨rfl,?_⟩));refine U0 (aK hq ?_);have m0:Mg c p q (#[el q 0]:Array UX).toList 0 1:=Mg.start O sp sq hq hp hf
 by_cases h1:(1==q.size)=true
 ·rw[if_pos h1];exact U7 (h _ st (jq.refl st) (m0.done sp sq (.inr (by simpa using h1))))
 rw[if_neg h1]
 by_cases h2:(0+1==p.size)=true
 ·rw[if_pos h2];exact U7 (h _ st (jq.refl st) (m0.tail O sp sq (by simpa using h2) hl))
 rw[if_neg h2];refine U0 (XY ?_);refine U0 (Ws (VX
  (I:=λx r aA=>jq st aA/\∃to i j mg,r=(none,to,i,j,mg)/\Mg c p q to.toList i j/\i+1<p.size/\j<q.size/\x<i+j)
  (Q:=λr aA=>jq st aA/\∃out r',r=(some out,r')/\Gd c p q out.toList) ?_ ?_ ?_) ?_)
 ·rintro x r aA _ hx ⟨e,to,i,j,mg,rfl,m,hi,hj,hb⟩;unfold Qf;dsimp only;refine U0 (Ws (VX
   (I:=λy r aA=>jq st aA/\∃to i j m n,r=(none,to,i,j,m,n)/\Mg c p q to.toList i j/\i+1<p.size/\j<q.size/\x+min y 1<i+j)
   (Q:=λr aA=>jq st aA/\((∃out r',r=(some out,r')/\Gd c p q out.toList)\/∃to i j m n,r=(none,to,i,j,m,n)/\Mg c p q to.toList i j/\i+1<p.size/\j<q.size/\x+1<i+j)) ?_ ?_ ?_) ?_)
  ·rintro y r fh _ hy ⟨e2,to,i,j,ma,na,rfl,m,hi,hj,hb⟩;exact EL O L (e2.kind.trans hk) Sp Sq sp sq hl m hi hj (λout r h=>⟨e2,.inl ⟨_,_,rfl,h⟩⟩) λt' i' j' m n h1 h2 h3 h4=>⟨⟨e2,.inr ⟨_,_,_,_,_,rfl,h1,h2,h3,by lia⟩⟩,⟨e2,_,_,_,_,_,rfl,h1,h2,h3,by lia⟩⟩
  ·rintro r fh ⟨e2,to,i,j,ma,na,rfl,m,hi,hj,hb⟩;exact⟨e2,.inr ⟨_,_,_,_,_,rfl,m,hi,hj,by lia⟩⟩
  ·exact⟨e,_,_,_,_,_,rfl,m,hi,hj,by lia⟩
  rintro r fh ⟨e2,⟨out,r',rfl,g⟩|⟨to,i,j,ma,na,rfl,m,hi,hj,hb⟩⟩
  ·exact U7 ⟨e2,_,_,rfl,g⟩
  dsimp only;refine U0 (Yp (XB ⟨rfl,?_⟩));refine U0 (Ws (VX
   (I:=λy r aA=>jq st aA/\∃to i j mg m n,r=(none,to,i,j,mg,m,n)/\Mg c p q to.toList i j/\i+1<p.size/\j<q.size/\x+1<i+j)
   (Q:=λr aA=>jq st aA/\((∃out r',r=(some out,r')/\Gd c p q out.toList)\/∃to i j mg m n,r=(none,to,i,j,mg,m,n)/\Mg c p q to.toList i j/\i+1<p.size/\j<q.size/\x+1<i+j)) ?_ ?_ ?_) ?_)
  ·rintro y r fh _ hy ⟨e2,to,i,j,mg,ma,na,rfl,m,hi,hj,hb⟩;show wpS (model prog w) A E s (if mg>1 then JD p q to i j (mg-1) ma na else JD p q to i j mg ma na) _ fh
   split <;> exact EM O L (e2.kind.trans hk) Sp Sq sp sq hl m hi hj (λout r h=>⟨e2.Em _,.inl ⟨_,_,rfl,h⟩⟩) λt' i' j' m n h1 h2 h3 h4=>⟨⟨e2.Em _,.inr ⟨_,_,_,_,_,_,rfl,h1,h2,h3,by lia⟩⟩,⟨e2.Em _,_,_,_,_,_,_,rfl,h1,h2,h3,by lia⟩⟩
  ·rintro r fh ⟨e2,to,i,j,mg,ma,na,rfl,m,hi,hj,hb⟩;exact⟨e2,.inr ⟨_,_,_,_,_,_,rfl,m,hi,hj,hb⟩⟩
  ·exact⟨e2,_,_,_,_,_,_,rfl,m,hi,hj,hb⟩
  rintro r fh ⟨e2,⟨out,r',rfl,g⟩|⟨to,i,j,mg,ma,na,rfl,m,hi,hj,hb⟩⟩
  ·exact U7 ⟨e2,_,_,rfl,g⟩
  dsimp only;refine U0 (W9 (U7 ⟨e2.Em _,_,_,_,_,rfl,m,hi,hj,by lia⟩))
 ·rintro r aA ⟨e,to,i,j,mg,rfl,m,hi,hj,hb⟩
  exfalso
  rw[show max 0 (p.size+q.size)=p.size+q.size by lia]at hb
  lia
 ·exact⟨jq.refl st,_,_,_,_,rfl,m0,by simp at h2;lia,by simp at h1;lia,by lia⟩
 ·rintro r aA ⟨e,out,r',rfl,g⟩;exact U7 (h _ aA e g)
end
section
variable {c:UX->UX->Bool}{p q:Array UX}{t:List UX}{i j:Nat}
structure Mh (c:UX->UX->Bool)(p q:Array UX)(t:List UX)(i j:Nat):Prop where
 hi:i<=p.size
 hj:j<=q.size
 perm:t.Perm (p.toList.drop i++q.toList.drop j)
 jw:t.Pairwise (le c)
 ap:∀x∈t,∀k,k<i->le c (el p k) x
 aq:∀x∈t,∀k,k<j->le c (el q k) x
theorem nB {a:Array UX}{i:Nat}(h0:0<i)(h:i<=a.size):a.toList.drop (i-1)=el a (i-1)::a.toList.drop i:=by
 rw[vn (by lia),show i-1+1=i by lia]
theorem Mh.jA (m:Mh c p q t i j)(h0:0<i)(sp:SR c p 0 p.size)(hle:∀k,k<j->le c (el q k) (el p (i-1))):Mh c p q (el p (i-1)::t) (i-1) j where
 hi:=by have:=m.hi;lia
 hj:=m.hj
 perm:=by
  rw[nB h0 m.hi];exact m.perm.cons _
 jw:=VJ.mpr ⟨λx hx=>m.ap x hx _ (by lia),m.jw⟩
 ap:=λx hx k hk=>by
  rcases UW.mp hx with rfl|h
  ·exact sp k (i-1) (by lia) (by lia) (by have:=m.hi;lia)
  ·exact m.ap x h k (by lia)
 aq:=λx hx k hk=>by
  rcases UW.mp hx with rfl|h
  ·exact hle k hk
  ·exact m.aq x h k hk
theorem Mh.jz (m:Mh c p q t i j)(h0:0<j)(sq:SR c q 0 q.size)(hle:∀k,k<i->le c (el p k) (el q (j-1))):Mh c p q (el q (j-1)::t) i (j-1) where
 hi:=m.hi
 hj:=by have:=m.hj;lia
 perm:=by
  rw[nB h0 m.hj];exact(m.perm.cons _).trans List.perm_middle.symm
 jw:=VJ.mpr ⟨λx hx=>m.aq x hx _ (by lia),m.jw⟩
 ap:=λx hx k hk=>by
  rcases UW.mp hx with rfl|h
  ·exact hle k hk
  ·exact m.ap x h k hk
 aq:=λx hx k hk=>by
  rcases UW.mp hx with rfl|h
  ·exact sq k (j-1) (by lia) (by lia) (by have:=m.hj;lia)
  ·exact m.aq x h k (by lia)
theorem mK {a:Array UX}{i k:Nat}(h0:k<i)(h:i<=a.size):(a.toList.drop (i-(k+1))).take (k+1)=el a (i-(k+1))::(a.toList.drop (i-k)).take k:=by
 rw[vn (by lia),show i-(k+1)+1=i-k by lia,List.take_succ_cons]
theorem Mh.xY (m:Mh c p q t i j)(sp:SR c p 0 p.size):∀(k:Nat),k<=i->(∀x,i-k<=x->x<i->∀y,y<j->le c (el q y) (el p x))->Mh c p q ((p.toList.drop (i-k)).take k++t) (i-k) j
 |0,_,_=>by simpa using m
 |k+1,h,hle=>by
  have m':=Mh.xY m sp k (by lia) λx h1 h2=>hle x (by lia) h2
  rw[mK (by lia) m.hi,XD]
  exact m'.jA (by lia) sp λy hy=>hle _ (by lia) (by lia) y hy
theorem Mh.xX (m:Mh c p q t i j)(sq:SR c q 0 q.size):∀(k:Nat),k<=j->(∀x,j-k<=x->x<j->∀y,y<i->le c (el p y) (el q x))->Mh c p q ((q.toList.drop (j-k)).take k++t) i (j-k)
 |0,_,_=>by simpa using m
 |k+1,h,hle=>by
  have m':=Mh.xX m sq k (by lia) λx h1 h2=>hle x (by lia) h2
  rw[mK (by lia) m.hj,XD]
  exact m'.jz (by lia) sq λy hy=>hle _ (by lia) (by lia) y hy
theorem Mh.hX (m:Mh c p q t i j)(sp:SR c p 0 p.size){h:Nat}(hh:h<=i)(hle:∀x,h<=x->x<i->∀y,y<j->le c (el q y) (el p x)):Mh c p q ((p.toList.drop h).take (i-h)++t) h j:=by
 have m':=m.xY sp (i-h) (by lia) λx h1 h2=>hle x (by lia) h2
 rw[show i-(i-h)=h by lia]at m'
 exact m'
theorem Mh.hV (m:Mh c p q t i j)(sq:SR c q 0 q.size){h:Nat}(hh:h<=j)(hle:∀x,h<=x->x<j->∀y,y<i->le c (el p y) (el q x)):Mh c p q ((q.toList.drop h).take (j-h)++t) i h:=by
 have m':=m.xX sq (j-h) (by lia) λx h1 h2=>hle x (by lia) h2
 rw[show j-(j-h)=h by lia]at m'
 exact m'
theorem Mh.full (m:Mh c p q t 0 0):Gd c p q t:=⟨m.perm,m.jw⟩
theorem Jf (a b to:Array UX)(i j:Nat):(a.extract 0 i++b.extract 0 j++to.reverse).toList=(a.toList.drop 0).take (i-0)++((b.toList.drop 0).take (j-0)++to.toList.reverse):=by
 rw[Wk,Wk,b6,b6,Array.toList_reverse,VP]
theorem Mh.done {to:Array UX}(m:Mh c p q to.toList.reverse i j)(sp:SR c p 0 p.size)(sq:SR c q 0 q.size)(h:i=0\/j=0):Gd c p q (p.extract 0 i++q.extract 0 j++to.reverse).toList:=by
 rw[Jf];rcases h with rfl|rfl
 ·have m':=m.hV sq (h:=0) (Vb _) λx _ _ y hy=>by lia
  exact(m'.hX sp (h:=0) (Vb _) λx _ hx=>by lia).full
 ·have m':=m.hV sq (h:=0) (Vb _) λx _ hx=>by lia
  exact(m'.hX sp (h:=0) (Vb _) λx _ hx y hy=>by lia).full
theorem Mh.tail {to:Array UX}(O:b7 c)(m:Mh c p q to.toList.reverse i j)(sp:SR c p 0 p.size)(sq:SR c q 0 q.size)(h:j=1)(hf:c (el q 0) (el p 0)=true):Gd c p q (q.extract 0 j++p.extract 0 i++to.reverse).toList:=by
 rw[Jf];subst h;have m':=m.hX sp (h:=0) (Vb _) λx _ hx y hy=>by
  obtain rfl:y=0:=by lia
  exact O.trans (O.of_lt hf) (sp 0 x (by lia) (by lia) (by have:=m.hi;lia))
 exact(m'.hV sq (h:=0) (Vb _) λx _ _ y hy=>by lia).full
theorem ib (to:Array UX)(x:UX):(to.push x).toList.reverse=x::to.toList.reverse:=by
 rw[W7,Yu];rfl
theorem vz (to a:Array UX)(h i:Nat):(to++(a.extract h i).reverse).toList.reverse=(a.toList.drop h).take (i-h)++to.toList.reverse:=by
 rw[Wk,Yu,Array.toList_reverse,XJ,b6]
theorem Mh.start (sp:SR c p 0 p.size)(O:b7 c)(hp:0<p.size)(hl:∀y,y<q.size->c (el q y) (el p (p.size-1))=true):Mh c p q [el p (p.size-1)] (p.size-1) q.size:=by
 have m:Mh c p q [] p.size q.size:=⟨US _,US _,by rw[Ye (by simp),Ye (by simp)];exact .refl _,.nil,(λx hx=>by cases hx),(λx hx=>by cases hx)⟩
 exact m.jA hp sp λk hk=>O.of_lt (hl k hk)
end
abbrev RJ:=Nat×Nat×Array UX×Nat×Nat
abbrev RH:=Nat×Nat×Array UX×Nat×Nat×Nat
abbrev RP:=Nat×Nat×Array UX×Nat
noncomputable def OC (p q t:Array UX)(i j mg m n:Nat):StateT Vr Sem (ForInStep (Option (Array UX)×RH)):=do
 let z <- elem' p (i-1)
 if (i-1==0)=true then pure (.done (some (p.extract 0 (i-1)++q.extract 0 j++(t.push z).reverse),i-1,j,t.push z,mg,m,n))
 else if (decide (m<7)&&decide (n<7))=true then pure (.done (none,i-1,j,t.push z,mg,m,n)) else pure (.yield (none,i-1,j,t.push z,mg,m,n))
noncomputable def OD (p q t:Array UX)(i j mg m n:Nat):StateT Vr Sem (ForInStep (Option (Array UX)×RH)):=do
 let y <- elem' q (j-1)
 if (j-1==1)=true then pure (.done (some (q.extract 0 (j-1)++p.extract 0 i++(t.push y).reverse),i,j-1,t.push y,mg,m,n))
 else do
  let x <- elem' p (i-1)
  let r <- b9 true x q 0 (j-1) (j-1-1)
  match r with
  |some h=>if j-1-h>0 then (if (h==1)=true then pure (.done (some (q.extract 0 h++p.extract 0 i++(t.push y++(q.extract h (j-1)).reverse).reverse),i,h,t.push y++(q.extract h (j-1)).reverse,mg,m,j-1-h))
    else if (h==0)=true then pure (.done (some (p.extract 0 i++q.extract 0 h++(t.push y++(q.extract h (j-1)).reverse).reverse),i,h,t.push y++(q.extract h (j-1)).reverse,mg,m,j-1-h))
    else OC p q (t.push y++(q.extract h (j-1)).reverse) i h mg m (j-1-h)) else OC p q (t.push y) i (j-1) mg m (j-1-h)
  |_=>pure (.done (some (p.extract 0 i++q.extract 0 (j-1)++(t.push y).reverse),i,j-1,t.push y,mg,m,n))
noncomputable def K5 (p q t:Array UX)(i j mg m n:Nat):StateT Vr Sem (ForInStep (Option (Array UX)×RH)):=do
 modify λst=>b_ st mg
 let y <- elem' q (j-1)
 let r <- b9 false y p 0 i (i-1)
 match r with
 |some h=>if i-h>0 then (if (h==0)=true then pure (.done (some (p.extract 0 h++q.extract 0 j++(t++(p.extract h i).reverse).reverse),h,j,t++(p.extract h i).reverse,mg,i-h,n))
   else OD p q (t++(p.extract h i).reverse) h j mg (i-h) n) else OD p q t i j mg (i-h) n
 |_=>pure (.done (some (p.extract 0 i++q.extract 0 j++t.reverse),i,j,t,mg,m,n))
def SS (p q:Array UX)(s:Option (Array UX)×RH):StateT Vr Sem (ForInStep (Option (Array UX)×RH)):=if s.2.2.2.2.1>1 then K5 p q s.2.2.2.1 s.2.1 s.2.2.1 (s.2.2.2.2.1-1) s.2.2.2.2.2.1 s.2.2.2.2.2.2 else K5 p q s.2.2.2.1 s.2.1 s.2.2.1 s.2.2.2.2.1 s.2.2.2.2.2.1 s.2.2.2.2.2.2
noncomputable def OB (p q t:Array UX)(mg i j m:Nat):StateT Vr Sem (ForInStep (Option (Array UX)×RJ)):=do
 let x <- elem' p (i-1)
 if (i-1==0)=true then pure (.done (some (p.extract 0 (i-1)++q.extract 0 j++(t.push x).reverse),i-1,j,t.push x,m+1,0))
 else if m+1 >= mg then pure (.done (none,i-1,j,t.push x,m+1,0)) else pure (.yield (none,i-1,j,t.push x,m+1,0))
noncomputable def OA (p q t:Array UX)(mg i j n:Nat):StateT Vr Sem (ForInStep (Option (Array UX)×RJ)):=do
 let y <- elem' q (j-1)
 if (j-1==1)=true then pure (.done (some (q.extract 0 (j-1)++p.extract 0 i++(t.push y).reverse),i,j-1,t.push y,0,n+1))
 else if n+1 >= mg then pure (.done (none,i,j-1,t.push y,0,n+1)) else pure (.yield (none,i,j-1,t.push y,0,n+1))
noncomputable def Qw (p q t:Array UX)(mg i j m n:Nat):StateT Vr Sem (ForInStep (Option (Array UX)×RJ)):=do
 let y <- elem' q (j-1)
 let x <- elem' p (i-1)
 let r <- lt' y x
 match r with
 |some ES=>if ES=true then OB p q t mg i j m else OA p q t mg i j n
 |_=>pure (.done (some (p.extract 0 i++q.extract 0 j++t.reverse),i,j,t,m,n))
noncomputable def Qv (p q:Array UX)(s:Option (Array UX)×RP):StateT Vr Sem (ForInStep (Option (Array UX)×RP)):=do
 let s1 <- forIn [:p.size+q.size] ((none,s.2.1,s.2.2.1,s.2.2.2.1,0,0):Option (Array UX)×RJ) λ_ r=>Qw p q r.2.2.2.1 s.2.2.2.2 r.2.1 r.2.2.1 r.2.2.2.2.1 r.2.2.2.2.2
 match s1.1 with
 |some r=>pure (.done (some r,s1.2.1,s1.2.2.1,s1.2.2.2.1,s.2.2.2.2))
 |none=>do
  liftM (rule "list.sort.gallop")
  let s2 <- forIn [:p.size+q.size] ((none,s1.2.1,s1.2.2.1,s1.2.2.2.1,s.2.2.2.2+1,s1.2.2.2.2.1,s1.2.2.2.2.2):Option (Array UX)×RH) λ_ r=>SS p q r
  match s2.1 with
  |some r=>pure (.done (some r,s2.2.1,s2.2.2.1,s2.2.2.2.1,s2.2.2.2.2.1))
  |none=>do
   modify λst=>b_ st (s2.2.2.2.2.1+1)
   pure (.yield (none,s2.2.1,s2.2.2.1,s2.2.2.2.1,s2.2.2.2.2.1+1))
theorem qN (p q:Array UX):ir p q=(do
  liftM (rule "list.sort.merge-hi")
  let y <- elem' p (p.size-1)
  if (p.size-1==0)=true then pure (p.extract 0 (p.size-1)++q.extract 0++#[y].reverse)
  else if (q.size==1)=true then pure (q.extract 0++p.extract 0 (p.size-1)++#[y].reverse)
  else do
   let st <- get
   let s <- forIn [:p.size+q.size] ((none,p.size-1,q.size,#[y],gallopOf st):Option (Array UX)×RP) λ_ s=>Qv p q s
   match s.1 with
   |some r=>pure r
   |none=>liftM (unsupported "internal:list.sort.merge-bound" : Sem (Array UX))):=by
 rw[qM];dsimp only;refine congrArg (bind _) (funext λ_=>?_);refine congrArg (bind _) (funext λy=>?_);refine congrArg (ite _ _) (congrArg (ite _ _) ?_);refine congrArg (bind _) (funext λy=>?_);refine congr (congrArg bind (congrArg _ (funext λ_=>funext λs=>?_))) (funext λs=>?_)
 ·refine congr (congrArg bind (congrArg _ (funext λ_=>funext λs=>?_))) (funext λs=>?_)
  ·rfl
  ·cases s.1
   ·refine congrArg (bind _) (funext λ_=>?_);refine congr (congrArg bind (congrArg _ (funext λ_=>funext λs=>?_))) (funext λs=>?_)
    ·rfl
    ·cases s.1 <;> rfl
   ·rfl
 ·cases s.1 <;> rfl
section
variable {prog:UY}{w:Vc}{A:V6}{E:UQ->UT->Prop}{s:UT}{κ:Xi}{c:UX->UX->Bool}{S:UX->Prop}{p q:Array UX}
theorem xI {st:Vr}{Q:ForInStep (Option (Array UX)×RH)->Vr->Prop}{t:Array UX}{i j mg m n:Nat}(sp:SR c p 0 p.size)(sq:SR c q 0 q.size)(m3:Mh c p q t.toList.reverse i j)(hi:0<i)(g3:∀k,k<j->le c (el q k) (el p (i-1)))
  (hd:∀out r,Gd c p q out.toList->Q (.done (some out,r)) st) (hn:∀t' m n,Mh c p q t'.toList.reverse (i-1) j->0<i-1->Q (.done (none,i-1,j,t',mg,m,n)) st/\Q (.yield (none,i-1,j,t',mg,m,n)) st):wpS (model prog w) A E s (OC p q t i j mg m n) Q st:=by
 have jg:=m3.hi;refine U0 (aK (by lia) ?_)
 have m4:Mh c p q (t.push (el p (i-1))).toList.reverse (i-1) j:=by
  rw[ib];exact m3.jA hi sp g3
 by_cases e5:(i-1==0)=true
 ·rw[if_pos e5];exact U7 (hd _ _ (m4.done sp sq (.inl (by simpa using e5))))
 rw[if_neg e5];have h5:i-1≠0:=by simpa using e5
 obtain⟨h6,h7⟩:=hn (t.push (el p (i-1))) m n m4 (by lia)
 split
 ·exact U7 h6
 ·exact U7 h7
theorem xJ {st:Vr}{Q:ForInStep (Option (Array UX)×RH)->Vr->Prop}{t:Array UX}{i j mg m n:Nat}(O:b7 c)(L:fg prog w A E s κ c S)(hk:kindOf st=κ)(Sp:∀i,i<p.size->S (el p i))(Sq:∀i,i<q.size->S (el q i))(sp:SR c p 0 p.size)(sq:SR c q 0 q.size)(hf:c (el q 0) (el p 0)=true)(m1:Mh c p q t.toList.reverse i j)(hi:0<i)(hj:1<j)(g1:∀x,x<i->le c (el p x) (el q (j-1)))
  (hd:∀out r,Gd c p q out.toList->Q (.done (some out,r)) st) (hn:∀t' j' m n,Mh c p q t'.toList.reverse (i-1) j'->0<i-1->1<j'->j'<j->Q (.done (none,i-1,j',t',mg,m,n)) st/\Q (.yield (none,i-1,j',t',mg,m,n)) st):wpS (model prog w) A E s (OD p q t i j mg m n) Q st:=by
 have mi:=m1.hi;have mj:=m1.hj;refine U0 (aK (by lia) ?_)
 have m2:Mh c p q (t.push (el q (j-1))).toList.reverse i (j-1):=by
  rw[ib];exact m1.jz (by lia) sq g1
 by_cases e3:(j-1==1)=true
 ·rw[if_pos e3];exact U7 (hd _ _ (m2.tail O sp sq (by simpa using e3) hf))
 rw[if_neg e3];have h3:j-1≠1:=by simpa using e3
 refine U0 (aK (by lia) (U0 (dg O L hk (Sp _ (by lia)) (λx hx=>Sq _ (by lia)) (by lia) (λa b h1 h2 h3=>sq a b (by lia) h2 (by lia)) (by lia) λh k1 k2 k3=>?_)))
 have g2:∀x,x<h->c (el q x) (el p (i-1))=true:=λx hx=>by
  have:=k2 x hx;unfold dG at this;rw[if_pos rfl,We]at this;exact this
 have g4:∀x,h<=x->x<j-1->le c (el p (i-1)) (el q x):=λx h1 h2=>by
  have:=k3 x h1 h2;unfold dG at this;rw[if_pos rfl,We]at this;exact this
 have hh:0<h:=by
  rcases Nat.eq_zero_or_pos h with z|z
  ·subst z;have h2:=O.trans (sp 0 (i-1) (by lia) (by lia) (by lia)) (g4 0 (US _) (by lia))
   exact absurd (hf.symm.trans h2) (by simp)
  ·exact z
 dsimp only
 by_cases zS:j-1-h>0
 ·rw[if_pos zS];have m3:Mh c p q (t.push (el q (j-1))++(q.extract h (j-1)).reverse).toList.reverse i h:=by
   rw[vz];exact m2.hV sq k1 λx h1 h2 y hy=>O.trans (sp y (i-1) (by lia) (by lia) (by lia)) (g4 x h1 h2)
  by_cases e4:(h==1)=true
  ·rw[if_pos e4];exact U7 (hd _ _ (m3.tail O sp sq (by simpa using e4) hf))
  rw[if_neg e4];have h4:h≠1:=by simpa using e4
  rw[if_neg (by simp;lia)]
  exact xI sp sq m3 hi (λk hk=>O.of_lt (g2 k hk)) hd λt' m n h1 h2=>hn t' _ m n h1 h2 (by lia) (by lia)
 ·rw[if_neg zS];exact xI sp sq m2 hi (λk hk=>O.of_lt (g2 k (by lia))) hd λt' m n h1 h2=>hn t' _ m n h1 h2 (by lia) (by lia)
theorem EO {st:Vr}{Q:ForInStep (Option (Array UX)×RH)->Vr->Prop}{t:Array UX}{i j mg m n:Nat}(O:b7 c)(L:fg prog w A E s κ c S)(hk:kindOf st=κ)(Sp:∀i,i<p.size->S (el p i))(Sq:∀i,i<q.size->S (el q i))(sp:SR c p 0 p.size)(sq:SR c q 0 q.size)(hf:c (el q 0) (el p 0)=true)(m0:Mh c p q t.toList.reverse i j)(hi:0<i)(hj:1<j)
  (hd:∀out r,Gd c p q out.toList->Q (.done (some out,r)) (b_ st mg)) (hn:∀t' i' j' m n,Mh c p q t'.toList.reverse i' j'->0<i'->1<j'->i'+j'<i+j->Q (.done (none,i',j',t',mg,m,n)) (b_ st mg)/\Q (.yield (none,i',j',t',mg,m,n)) (b_ st mg)):wpS (model prog w) A E s (K5 p q t i j mg m n) Q st:=by
 have mi:=m0.hi;have mj:=m0.hj;refine U0 (W9 (U0 (aK (by lia) (U0 (dg O L hk (Sq _ (by lia)) (λx hx=>Sp _ (by lia)) (by lia) (λa b h1 h2 h3=>sp a b (by lia) h2 (by lia)) (by lia) λh k1 k2 k3=>?_)))))
 have g0:∀x,x<h->le c (el p x) (el q (j-1)):=λx hx=>by
  have:=k2 x hx;unfold dG at this;rw[if_neg (by simp),X1,We]at this
  exact this
 have g5:∀x,h<=x->x<i->le c (el q (j-1)) (el p x):=λx h1 h2=>by
  have:=k3 x h1 h2;unfold dG at this;rw[if_neg (by simp),YB,We]at this
  exact O.of_lt this
 dsimp only
 by_cases zS:i-h>0
 ·rw[if_pos zS];have m1:Mh c p q (t++(p.extract h i).reverse).toList.reverse h j:=by
   rw[vz];exact m0.hX sp k1 λx h1 h2 y hy=>O.trans (sq y (j-1) (by lia) (by lia) (by lia)) (g5 x h1 h2)
  by_cases e1:(h==0)=true
  ·rw[if_pos e1];exact U7 (hd _ _ (m1.done sp sq (.inl (by simpa using e1))))
  rw[if_neg e1];have wU:h≠0:=by simpa using e1
  exact xJ O L hk Sp Sq sp sq hf m1 (by lia) hj g0 hd λt' j' m n h1 h2 h3 h4=>hn t' _ j' m n h1 h2 h3 (by lia)
 ·rw[if_neg zS];exact xJ O L hk Sp Sq sp sq hf m0 hi hj (λx hx=>g0 x (by lia)) hd λt' j' m n h1 h2 h3 h4=>hn t' _ j' m n h1 h2 h3 (by lia)
theorem EN {st:Vr}{Q:ForInStep (Option (Array UX)×RJ)->Vr->Prop}{t:Array UX}{i j mg ma na:Nat}(O:b7 c)(L:fg prog w A E s κ c S)(hk:kindOf st=κ)(Sp:∀i,i<p.size->S (el p i))(Sq:∀i,i<q.size->S (el q i))(sp:SR c p 0 p.size)(sq:SR c q 0 q.size)(hf:c (el q 0) (el p 0)=true)(m:Mh c p q t.toList.reverse i j)(hi:0<i)(hj:1<j)
  (hd:∀out r,Gd c p q out.toList->Q (.done (some out,r)) st) (hn:∀t' i' j' m n,Mh c p q t'.toList.reverse i' j'->0<i'->1<j'->i'+j'<i+j->Q (.done (none,i',j',t',m,n)) st/\Q (.yield (none,i',j',t',m,n)) st):wpS (model prog w) A E s (Qw p q t mg i j ma na) Q st:=by
 have jg:=m.hi;have Uy:=m.hj;refine U0 (aK (by lia) (U0 (aK (by lia) (U0 (L _ _ st _ (Sq _ (by lia)) (Sp _ (by lia)) hk ?_)))))
 dsimp only;cases hc:c (el q (j-1)) (el p (i-1))with
 |true =>
  rw[if_pos rfl];refine U0 (aK (by lia) ?_)
  have m1:Mh c p q (t.push (el p (i-1))).toList.reverse (i-1) j:=by
   rw[ib];exact m.jA hi sp λk hk=>O.trans (sq k (j-1) (by lia) (by lia) (by lia)) (O.of_lt hc)
  by_cases e3:(i-1==0)=true
  ·rw[if_pos e3];exact U7 (hd _ _ (m1.done sp sq (.inl (by simpa using e3))))
  rw[if_neg e3];have h3:i-1≠0:=by simpa using e3
  obtain⟨h6,h7⟩:=hn _ _ _ (ma+1) 0 m1 (by lia) hj (by lia)
  split
  ·exact U7 h6
  ·exact U7 h7
 |false =>
  rw[if_neg (by simp)]
  refine U0 (aK (by lia) ?_)
  have m1:Mh c p q (t.push (el q (j-1))).toList.reverse i (j-1):=by
   rw[ib];exact m.jz (by lia) sq λk hk=>O.trans (sp k (i-1) (by lia) (by lia) (by lia)) (show le c (el p (i-1)) (el q (j-1)) from hc)
  by_cases e3:(j-1==1)=true
  ·rw[if_pos e3];exact U7 (hd _ _ (m1.tail O sp sq (by simpa using e3) hf))
  rw[if_neg e3];have h3:j-1≠1:=by simpa using e3
  obtain⟨h6,h7⟩:=hn _ _ _ 0 (na+1) m1 hi (by lia) (by lia)
  split
  ·exact U7 h6
  ·exact U7 h7
theorem sI (O:b7 c)(L:fg prog w A E s κ c S){Q:Array UX->Vr->Prop}{st:Vr}(hk:kindOf st=κ)(Sp:∀i,i<p.size->S (el p i))(Sq:∀i,i<q.size->S (el q i))(sp:SR c p 0 p.size)(sq:SR c q 0 q.size)
  (hp:0<p.size) (hq:0<q.size) (hf:c (el q 0) (el p 0)=true) (hl:∀y,y<q.size->c (el q y) (el p (p.size-1))=true) (h:∀to aA,jq st aA->Gd c p q to.toList->Q to aA) :
  wpS (model prog w) A E s (ir p q) Q st:=by
 rw[qN];refine U0 (Yp (XB ⟨rfl,?_⟩));refine U0 (aK (by lia) ?_)
 have m0:Mh c p q (#[el p (p.size-1)]:Array UX).toList.reverse (p.size-1) q.size:=Mh.start sp O hp hl
 by_cases h1:(p.size-1==0)=true
 ·rw[if_pos h1];exact U7 (h _ st (jq.refl st) (m0.done sp sq (.inl (by simpa using h1))))
 rw[if_neg h1];have wU:p.size-1≠0:=by simpa using h1
 by_cases h2:(q.size==1)=true
 ·rw[if_pos h2];exact U7 (h _ st (jq.refl st) (m0.tail O sp sq (by simpa using h2) hf))
 rw[if_neg h2];have zW:q.size≠1:=by simpa using h2
 refine U0 (XY ?_);refine U0 (Ws (VX
  (I:=λx r aA=>jq st aA/\∃i j to mg,r=(none,i,j,to,mg)/\Mh c p q to.toList.reverse i j/\0<i/\1<j/\i+j+x<p.size+q.size)
  (Q:=λr aA=>jq st aA/\∃out r',r=(some out,r')/\Gd c p q out.toList) ?_ ?_ ?_) ?_)
 ·rintro x r aA _ hx ⟨e,i,j,to,mg,rfl,m,hi,hj,hb⟩;unfold Qv;dsimp only;refine U0 (Ws (VX
   (I:=λy r aA=>jq st aA/\∃i j to m n,r=(none,i,j,to,m,n)/\Mh c p q to.toList.reverse i j/\0<i/\1<j/\i+j+x+min y 1<p.size+q.size)
   (Q:=λr aA=>jq st aA/\((∃out r',r=(some out,r')/\Gd c p q out.toList)\/∃i j to m n,r=(none,i,j,to,m,n)/\Mh c p q to.toList.reverse i j/\0<i/\1<j/\i+j+x+1<p.size+q.size)) ?_ ?_ ?_) ?_)
  ·rintro y r fh _ hy ⟨e2,i,j,to,ma,na,rfl,m,hi,hj,hb⟩;exact EN O L (e2.kind.trans hk) Sp Sq sp sq hf m hi hj (λout r h=>⟨e2,.inl ⟨_,_,rfl,h⟩⟩) λt' i' j' m n h1 h2 h3 h4=>⟨⟨e2,.inr ⟨_,_,_,_,_,rfl,h1,h2,h3,by lia⟩⟩,⟨e2,_,_,_,_,_,rfl,h1,h2,h3,by lia⟩⟩
  ·rintro r fh ⟨e2,i,j,to,ma,na,rfl,m,hi,hj,hb⟩;exact⟨e2,.inr ⟨_,_,_,_,_,rfl,m,hi,hj,by lia⟩⟩
  ·exact⟨e,_,_,_,_,_,rfl,m,hi,hj,by lia⟩
  rintro r fh ⟨e2,⟨out,r',rfl,g⟩|⟨i,j,to,ma,na,rfl,m,hi,hj,hb⟩⟩
  ·exact U7 ⟨e2,_,_,rfl,g⟩
  dsimp only;refine U0 (Yp (XB ⟨rfl,?_⟩));refine U0 (Ws (VX
   (I:=λy r aA=>jq st aA/\∃i j to mg m n,r=(none,i,j,to,mg,m,n)/\Mh c p q to.toList.reverse i j/\0<i/\1<j/\i+j+x+1<p.size+q.size)
   (Q:=λr aA=>jq st aA/\((∃out r',r=(some out,r')/\Gd c p q out.toList)\/∃i j to mg m n,r=(none,i,j,to,mg,m,n)/\Mh c p q to.toList.reverse i j/\0<i/\1<j/\i+j+x+1<p.size+q.size)) ?_ ?_ ?_) ?_)
  ·rintro y r fh _ hy ⟨e2,i,j,to,mg,ma,na,rfl,m,hi,hj,hb⟩;show wpS (model prog w) A E s (if mg>1 then K5 p q to i j (mg-1) ma na else K5 p q to i j mg ma na) _ fh
   split <;> exact EO O L (e2.kind.trans hk) Sp Sq sp sq hf m hi hj (λout r h=>⟨e2.Em _,.inl ⟨_,_,rfl,h⟩⟩) λt' i' j' m n h1 h2 h3 h4=>⟨⟨e2.Em _,.inr ⟨_,_,_,_,_,_,rfl,h1,h2,h3,by lia⟩⟩,⟨e2.Em _,_,_,_,_,_,_,rfl,h1,h2,h3,by lia⟩⟩
  ·rintro r fh ⟨e2,i,j,to,mg,ma,na,rfl,m,hi,hj,hb⟩;exact⟨e2,.inr ⟨_,_,_,_,_,_,rfl,m,hi,hj,hb⟩⟩
  ·exact⟨e2,_,_,_,_,_,_,rfl,m,hi,hj,hb⟩
  rintro r fh ⟨e2,⟨out,r',rfl,g⟩|⟨i,j,to,mg,ma,na,rfl,m,hi,hj,hb⟩⟩
  ·exact U7 ⟨e2,_,_,rfl,g⟩
  dsimp only;refine U0 (W9 (U7 ⟨e2.Em _,_,_,_,_,rfl,m,hi,hj,by lia⟩))
 ·rintro r aA ⟨e,i,j,to,mg,rfl,m,hi,hj,hb⟩
  exfalso
  rw[show max 0 (p.size+q.size)=p.size+q.size by lia]at hb
  lia
 ·exact⟨jq.refl st,_,_,_,_,rfl,m0,by lia,by lia,by lia⟩
 ·rintro r aA ⟨e,out,r',rfl,g⟩;exact U7 (h _ aA e g)
end
section
variable {c:UX->UX->Bool}{a b:Array UX}
structure Rg (a b:Array UX)(lo hi:Nat):Prop where
 perm:b.Perm a
 out:∀k,(k<lo\/hi<=k)->el b k=el a k
theorem Rg.refl {lo hi:Nat}:Rg a a lo hi:=⟨Y4 _,λ_ _=>rfl⟩
theorem Rg.trans {d:Array UX}{lo hi:Nat}(x:Rg a b lo hi)(y:Rg b d lo hi):Rg a d lo hi:=⟨y.perm.trans x.perm,λk h=>(y.out k h).trans (x.out k h)⟩
theorem Rg.mono {lo hi D_ jg:Nat}(x:Rg a b lo hi)(h1:D_<=lo)(h2:hi<=jg):Rg a b D_ jg:=⟨x.perm,λk h=>x.out k (by lia)⟩
theorem Rg.size {lo hi:Nat}(x:Rg a b lo hi):b.size=a.size:=x.perm.size_eq
theorem SR.congr {lo hi:Nat}(h:SR c a lo hi)(e:∀k,lo<=k->k<hi->el b k=el a k):SR c b lo hi:=λi j h1 h2 h3=>by
 rw[e i h1 (by lia),e j (by lia) h3]
 exact h i j h1 h2 h3
def NI (c:UX->UX->Bool)(a:Array UX)(lo hi:Nat):Prop:=∀i j,lo<=i->i<=j->j<hi->le c (el a j) (el a i)
theorem bX {i j:Nat}(hj:j<=a.size)(k:Nat):el (mirror a i j ((j-i) / 2)) k=if i<=k/\k<j then el a (i+j-1-k) else el a k:=by
 have e:=getElem?_mirror_all (i:=i) hj k
 by_cases h:i<=k/\k<j
 ·rw[if_pos h]at e ⊢
  exact dF e
 ·rw[if_neg h]at e ⊢
  exact dF e
theorem eJ {i j:Nat}(hj:j<=a.size):Rg a (mirror a i j ((j-i) / 2)) i j:=⟨mirror_perm _ _ _ _,λk h=>by rw[bX hj,if_neg (by lia)]⟩
theorem mW {i j:Nat}(hj:j<=a.size)(h:NI c a i j):SR c (mirror a i j ((j-i) / 2)) i j:=λx y h1 h2 h3=>by
 rw[bX hj,bX hj,if_pos (by lia),if_pos (by lia)]
 exact h _ _ (by lia) (by lia) (by lia)
theorem i9 {lo i j:Nat}(Ov:lo<=i)(hj:j<=a.size)(h:NI c a lo j)(he:∀x y,i<=x->x<j->i<=y->y<j->le c (el a x) (el a y)):NI c (mirror a i j ((j-i) / 2)) lo j:=λx y h1 h2 h3=>by
 rw[bX hj,bX hj]
 by_cases hx:i<=x/\x<j
 ·rw[if_pos hx,if_pos (by lia)]
  exact he _ _ (by lia) (by lia) (by lia) (by lia)
 ·rw[if_neg hx]
  by_cases hy:i<=y/\y<j
  ·rw[if_pos hy];exact h _ _ (by lia) (by lia) (by lia)
  ·rw[if_neg hy];exact h _ _ h1 h2 h3
theorem SR.snoc {lo n:Nat}(O:b7 c)(h:SR c a lo (lo+n))(h1:0<n)(hn:le c (el a (lo+n-1)) (el a (lo+n))):SR c a lo (lo+(n+1)):=λi j h2 h3 h4=>by
 by_cases hj:j<lo+n
 ·exact h i j h2 h3 hj
 ·obtain rfl:j=lo+n:=by lia
  by_cases hi:i<lo+n
  ·exact O.trans (h i (lo+n-1) h2 (by lia) (by lia)) hn
  ·obtain rfl:i=lo+n:=by lia
   exact O.refl _
theorem NI.snoc {lo n:Nat}(O:b7 c)(h:NI c a lo (lo+n))(h1:0<n)(hn:le c (el a (lo+n)) (el a (lo+n-1))):NI c a lo (lo+(n+1)):=λi j h2 h3 h4=>by
 by_cases hj:j<lo+n
 ·exact h i j h2 h3 hj
 ·obtain rfl:j=lo+n:=by lia
  by_cases hi:i<lo+n
  ·exact O.trans hn (h i (lo+n-1) h2 (by lia) (by lia))
  ·obtain rfl:i=lo+n:=by lia
   exact O.refl _
theorem SR.one {lo:Nat}(O:b7 c):SR c a lo (lo+1):=λi j h1 h2 h3=>by
 obtain rfl:i=j:=by lia
 exact O.refl _
end
structure jn (κ:Xi)(a₀:Array UX)(st:Vr):Prop where
 kind:kindOf st=κ
 fail:Xu st=none
 perm:(Vv st).Perm a₀
section
variable {prog:UY}{w:Vc}{A:V6}{E:UQ->UT->Prop}{s:UT}{κ:Xi}{c:UX->UX->Bool}{a₀:Array UX}
theorem jn.size {st:Vr}(h:jn κ a₀ st):(Vv st).size=a₀.size:=h.perm.size_eq
theorem jn.mem {st:Vr}(h:jn κ a₀ st){i:Nat}(hi:i<a₀.size):el (Vv st) i∈a₀.toList:=by
 have h1:i<(Vv st).size:=by rw[h.size];exact hi
 refine(Xb.mp h.perm).mem_iff.mp ?_;have:=iF h1;rw[<- Vo]at this;exact VG this
theorem jn.set {st:Vr}{b:Array UX}{lo hi:Nat}(h:jn κ a₀ st)(r:Rg (Vv st) b lo hi):jn κ a₀ (V8 st b):=⟨h.kind,h.fail,r.perm.trans h.perm⟩
theorem nV (L:fg prog w A E s κ c (·∈a₀.toList)){st:Vr}{i j:Nat}{Q:Option Bool->Vr->Prop}(h:jn κ a₀ st)(hi:i<a₀.size)(hj:j<a₀.size)(q:Q (some (c (el (Vv st) i) (el (Vv st) j))) st):
  wpS (model prog w) A E s (ltAt' i j) Q st:=by
 rw[ltAt'_eq];refine U0 (XY ?_);exact U0 (aK (by rw[h.size];exact hi) (U0 (aK (by rw[h.size];exact hj) (L _ _ st Q (h.mem hi) (h.mem hj) h.kind q))))
theorem g7 (L:fg prog w A E s κ c (·∈a₀.toList)){st:Vr}{b:Array UX}{i j lo hi:Nat}{Q:Option Bool->Vr->Prop}(h:jn κ a₀ st)(R:Rg (Vv st) b lo hi)(hi:i<a₀.size)(hj:j<a₀.size)(q:Q (some (c (el b i) (el b j))) (V8 st b)):
  wpS (model prog w) A E s (ltAt' i j) Q (V8 st b):=nV L (h.set R) hi hj q
theorem g6 {st:Vr}{i j:Nat}{Q:Unit->Vr->Prop}(q:Q () (V8 st (mirror (Vv st) i j ((j-i) / 2)))):wpS (model prog w) A E s (reverseSlice' i j) Q st:=by
 rw[reverseSlice'_eq];exact W9 q
theorem xK (O:b7 c)(L:fg prog w A E s κ c (·∈a₀.toList)){st:Vr}{lo eG:Nat}{Q:Option Nat->Vr->Prop}(h0:jn κ a₀ st)(h1:1<=eG)(hn:lo+eG<=a₀.size)
  (h:∀n b,1<=n->n<=eG->Rg (Vv st) b lo (lo+eG)->SR c b lo (lo+n)->Q (some n) (V8 st b)):wpS (model prog w) A E s (countRun' lo eG) Q st:=by
 rw[countRun'_eq];dsimp only;refine U0 (Ws (VX (I:=λx r aA=>aA=st/\∃n,r=(none,n)/\n=x/\SR c (Vv st) lo (lo+n))
  (Q:=λr aA=>aA=st/\∃n,r=(none,n)/\1<=n/\n<=eG/\SR c (Vv st) lo (lo+n)/\(n=eG\/(n<eG/\c (el (Vv st) (lo+n)) (el (Vv st) (lo+n-1))=true))) ?_ ?_ ?_) ?_)
 ·rintro x r aA Eg hx ⟨rfl,n,rfl,rfl,hs⟩;dsimp only;refine U0 (nV L h0 (by lia) (by lia) ?_)
  dsimp only;cases hc:c (el (Vv aA) (lo+n)) (el (Vv aA) (lo+n-1))with
  |true =>
   rw[if_pos rfl];exact U7 ⟨rfl,n,rfl,Eg,by lia,hs,.inr ⟨by lia,hc⟩⟩
  |false =>
   rw[if_neg (by simp)]
   exact U7 ⟨rfl,n+1,rfl,rfl,hs.snoc O Eg hc⟩
 ·rintro r aA ⟨rfl,n,rfl,hx,hs⟩;exact⟨rfl,n,rfl,by lia,by lia,hs,.inl (by lia)⟩
 ·exact⟨rfl,1,rfl,rfl,SR.one O⟩
 rintro r aA ⟨e0,n,rfl,Ol,L7,hs,hc⟩;rw[e0];dsimp only
 by_cases Oh:(n==eG)=true
 ·rw[if_pos Oh];exact U7 (h n (Vv st) Ol L7 Rg.refl hs)
 rw[if_neg Oh];have Sw:n≠eG:=by simpa using Oh
 have hc:c (el (Vv st) (lo+n)) (el (Vv st) (lo+n-1))=true:=by
  rcases hc with q|q
  ·lia
  ·exact q.2
 refine(λ(key:∀b,Rg (Vv st) b lo (lo+eG)->NI c b lo (lo+(n+1))->wpS (model prog w) A E s ?cont Q (V8 st b))=>?main) ?key
 case main =>
  by_cases h2:n>1
  ·rw[if_pos h2];refine U0 (nV L h0 (by lia) (by lia) ?_)
   dsimp only;cases hr:c (el (Vv st) lo) (el (Vv st) (lo+n-1))with
   |true =>
    rw[if_pos rfl];exact U7 (h n (Vv st) Ol L7 Rg.refl hs)
   |false =>
    rw[if_neg (by simp)]
    refine U0 (g6 ?_);have hz:lo+n<=(Vv st).size:=by have:=h0.size;lia
    have R0:Rg (Vv st) (mirror (Vv st) lo (lo+n) ((lo+n-lo) / 2)) lo (lo+eG):=(eJ hz).mono (US _) (by lia)
    have all:∀u v,lo<=u->u<lo+n->lo<=v->v<lo+n->le c (el (Vv st) u) (el (Vv st) v):=λu v h1 h2 h3 h4 =>
     O.trans (hs u (lo+n-1) h1 (by lia) (by lia)) (O.trans hr (hs lo v (US _) h3 h4))
    have N0:NI c (mirror (Vv st) lo (lo+n) ((lo+n-lo) / 2)) lo (lo+(n+1)):=by
     refine NI.snoc O (i9 (US _) hz (λu v h1 h2 h3=>all v u (by lia) (by lia) h1 (by lia)) λu v h1 h2 h3 h4=>all u v h1 h2 h3 h4) (by lia) ?_
     rw[bX hz,bX hz,if_neg (by lia),if_pos (by lia)]
     exact O.trans (O.of_lt hc) (all _ _ (by lia) (by lia) (by lia) (by lia))
    exact key _ R0 N0
  ·rw[if_neg h2];have N0:NI c (Vv st) lo (lo+(n+1)):=NI.snoc O (λu v h1 h2 h3=>by
    obtain rfl:u=v:=by lia
    exact O.refl _) (by lia) (O.of_lt hc)
   show wpS _ _ _ _ _ Q (V8 st (Vv st));exact key _ Rg.refl N0
 case key =>
  intro b0 R0 N0;refine U0 (Yp (XB ⟨rfl,?_⟩));refine U0 (Ws (VX (I:=λx r aA=>∃b n jE,aA=V8 st b/\r=(none,n,jE)/\n=x/\Rg (Vv st) b lo (lo+eG)/\NI c b lo (lo+n)/\jE<n/\(∀u v,lo+n-1-jE<=u->u<lo+n->lo+n-1-jE<=v->v<lo+n->le c (el b u) (el b v)))
   (Q:=λr aA=>∃b n jE,aA=V8 st b/\r=(none,n,jE)/\1<=n/\n<=eG/\Rg (Vv st) b lo (lo+eG)/\NI c b lo (lo+n)/\jE<n/\(∀u v,lo+n-1-jE<=u->u<lo+n->lo+n-1-jE<=v->v<lo+n->le c (el b u) (el b v))) ?_ ?_ ?_) ?_)
  ·rintro x r aA Eg hx ⟨b,n',jE,rfl,rfl,rfl,R,N,hq,he⟩;dsimp only;refine U0 (g7 L h0 R (by lia) (by lia) ?_)
   dsimp only;cases lC:c (el b (lo+n')) (el b (lo+n' - 1))with
   |true =>
    rw[if_pos rfl]
    by_cases zP:jE>0
    ·rw[if_pos zP];refine U0 (g6 (U7 ?_));have hz:lo+n'<=b.size:=by have:=R.size;have:=h0.size;lia
     refine⟨mirror b (lo+n' - (jE+1)) (lo+n') ((lo+n' - (lo+n' - (jE+1))) / 2),n'+1,0,rfl,rfl,rfl,R.trans ((eJ hz).mono (by lia) (by lia)),?_,by lia,?_⟩
     ·refine NI.snoc O (i9 (by lia) hz N λu v h1 h2 h3 h4=>he u v (by lia) h2 (by lia) h4) (by lia) ?_
      rw[bX hz,bX hz,if_neg (by lia),if_pos (by lia)]
      exact O.trans (O.of_lt lC) (he _ _ (by lia) (by lia) (by lia) (by lia))
     ·intro u v h1 h2 h3 h4;obtain rfl:u=v:=by lia
      exact O.refl _
    ·rw[if_neg zP];refine U7 ⟨b,n'+1,0,rfl,rfl,rfl,R,N.snoc O (by lia) (O.of_lt lC),by lia,?_⟩
     intro u v h1 h2 h3 h4;obtain rfl:u=v:=by lia
     exact O.refl _
   |false =>
    rw[if_neg (by simp)]
    refine U0 (g7 L h0 R (by lia) (by lia) ?_)
    dsimp only;cases pG:c (el b (lo+n' - 1)) (el b (lo+n'))with
    |true =>
     rw[if_pos rfl];exact U7 ⟨b,n',jE,rfl,rfl,by lia,by lia,R,N,hq,he⟩
    |false =>
     rw[if_neg (by simp)]
     refine U7 ⟨b,n'+1,jE+1,rfl,rfl,rfl,R,N.snoc O (by lia) pG,by lia,?_⟩
     have hl:∀u,lo+n' - 1-jE<=u->u<lo+(n'+1)->le c (el b u) (el b (lo+n'))/\le c (el b (lo+n')) (el b u):=λu h1 h2=>by
      by_cases hu:u<lo+n'
      ·exact⟨O.trans (he u (lo+n' - 1) h1 hu (by lia) (by lia)) lC,O.trans pG (he (lo+n' - 1) u (by lia) (by lia) h1 hu)⟩
      ·obtain rfl:u=lo+n':=by lia
       exact⟨O.refl _,O.refl _⟩
     intro u v h1 h2 h3 h4;exact O.trans (hl u (by lia) h2).1 (hl v (by lia) h4).2
  ·rintro r aA ⟨b,n',jE,rfl,rfl,hx,R,N,hq,he⟩;exact⟨b,n',jE,rfl,rfl,by lia,by lia,R,N,hq,he⟩
  ·refine⟨_,n+1,0,rfl,rfl,rfl,R0,N0,by lia,?_⟩
   intro u v h1 h2 h3 h4;obtain rfl:u=v:=by lia
   exact O.refl _
  rintro r aA ⟨b,n',jE,rfl,rfl,SA,Sz,RB,NB,hq,he⟩;dsimp only
  by_cases zP:jE>0
  ·rw[if_pos zP];refine U0 (g6 ?_);have hz:lo+n'<=b.size:=by have:=RB.size;have:=h0.size;lia
   have NB:=i9 (c:=c) (i:=lo+n' - (jE+1)) (by lia) hz NB λu v h1 h2 h3 h4=>he u v (by lia) h2 (by lia) h4
   have RB:=RB.trans ((eJ (i:=lo+n' - (jE+1)) hz).mono (by lia) (by lia:lo+n'<=lo+eG))
   show wpS _ _ _ _ _ Q (V8 st (mirror b (lo+n' - (jE+1)) (lo+n') ((lo+n' - (lo+n' - (jE+1))) / 2)));generalize mirror b (lo+n' - (jE+1)) (lo+n') ((lo+n' - (lo+n' - (jE+1))) / 2)=b1 at NB RB;refine U0 (g6 ?_);have R2:Rg (Vv st) (mirror b1 lo (lo+n') ((lo+n' - lo) / 2)) lo (lo+eG):=RB.trans ((eJ (by have:=RB.size;have:=h0.size;lia)).mono (US _) (by lia))
   have S2:SR c (mirror b1 lo (lo+n') ((lo+n' - lo) / 2)) lo (lo+n'):=mW (by have:=RB.size;have:=h0.size;lia) NB
   show wpS _ _ _ _ _ Q (V8 st (mirror b1 lo (lo+n') ((lo+n' - lo) / 2)));generalize mirror b1 lo (lo+n') ((lo+n' - lo) / 2)=b2 at R2 S2;refine U0 (Ws (VX (I:=λx r aA=>aA=V8 st b2/\∃m,r=(none,m)/\m=x/\SR c b2 lo (lo+m))
    (Q:=λr aA=>aA=V8 st b2/\∃m,r=(none,m)/\1<=m/\m<=eG/\SR c b2 lo (lo+m)) ?_ ?_ ?_) ?_)
   ·rintro x r aA Eg hx ⟨rfl,m,rfl,rfl,hs⟩;dsimp only;refine U0 (g7 L h0 R2 (by lia) (by lia) ?_)
    dsimp only;cases hc:c (el b2 (lo+m)) (el b2 (lo+m-1))with
    |true =>
     rw[if_pos rfl];exact U7 ⟨rfl,m,rfl,by lia,by lia,hs⟩
    |false =>
     rw[if_neg (by simp)]
     exact U7 ⟨rfl,m+1,rfl,rfl,hs.snoc O (by lia) hc⟩
   ·rintro r aA ⟨rfl,m,rfl,hx,hs⟩;exact⟨rfl,m,rfl,by lia,by lia,hs⟩
   ·exact⟨rfl,n',rfl,rfl,S2⟩
   rintro r aA ⟨rfl,m,rfl,Ej,KW,hs⟩;exact U7 (h m b2 Ej KW R2 hs)
  ·rw[if_neg zP];refine U0 (g6 ?_);have R2:Rg (Vv st) (mirror b lo (lo+n') ((lo+n' - lo) / 2)) lo (lo+eG):=RB.trans ((eJ (by have:=RB.size;have:=h0.size;lia)).mono (US _) (by lia))
   have S2:SR c (mirror b lo (lo+n') ((lo+n' - lo) / 2)) lo (lo+n'):=mW (by have:=RB.size;have:=h0.size;lia) NB
   show wpS _ _ _ _ _ Q (V8 st (mirror b lo (lo+n') ((lo+n' - lo) / 2)));generalize mirror b lo (lo+n') ((lo+n' - lo) / 2)=b2 at R2 S2;refine U0 (Ws (VX (I:=λx r aA=>aA=V8 st b2/\∃m,r=(none,m)/\m=x/\SR c b2 lo (lo+m))
    (Q:=λr aA=>aA=V8 st b2/\∃m,r=(none,m)/\1<=m/\m<=eG/\SR c b2 lo (lo+m)) ?_ ?_ ?_) ?_)
   ·rintro x r aA Eg hx ⟨rfl,m,rfl,rfl,hs⟩;dsimp only;refine U0 (g7 L h0 R2 (by lia) (by lia) ?_)
    dsimp only;cases hc:c (el b2 (lo+m)) (el b2 (lo+m-1))with
    |true =>
     rw[if_pos rfl];exact U7 ⟨rfl,m,rfl,by lia,by lia,hs⟩
    |false =>
     rw[if_neg (by simp)]
     exact U7 ⟨rfl,m+1,rfl,rfl,hs.snoc O (by lia) hc⟩
   ·rintro r aA ⟨rfl,m,rfl,hx,hs⟩;exact⟨rfl,m,rfl,by lia,by lia,hs⟩
   ·exact⟨rfl,n',rfl,rfl,S2⟩
   rintro r aA ⟨rfl,m,rfl,Ej,KW,hs⟩;exact U7 (h m b2 Ej KW R2 hs)
end
section
variable {c:UX->UX->Bool}{a:Array UX}
theorem ji {src d:Nat}(hs:src<a.size)(hd:d<=src)(k:Nat):el (bubble a src d) k=if k=src-d then el a src else if src-d<k/\k<=src then el a (k-1) else el a k:=by
 have e:=getElem?_bubble hs d hd k
 by_cases h1:k=src-d
 ·rw[if_pos h1]at e ⊢
  exact dF e
 ·rw[if_neg h1]at e ⊢
  by_cases h2:src-d<k/\k<=src
  ·rw[if_pos h2]at e ⊢
   exact dF e
  ·rw[if_neg h2]at e ⊢
   exact dF e
theorem xl {lo k l:Nat}(O:b7 c)(hk:lo+k<a.size)(hl:l<=k)(h:SR c a lo (lo+k))(h1:∀i,i<l->le c (el a (lo+i)) (el a (lo+k)))(h2:∀i,l<=i->i<k->le c (el a (lo+k)) (el a (lo+i))):
  SR c (bubble a (lo+k) (lo+k-(lo+l))) lo (lo+(k+1)):=λi j g1 g2 g3=>by
 rw[ji hk (by lia),ji hk (by lia),show lo+k-(lo+k-(lo+l))=lo+l by lia]
 have q1:∀i,lo<=i->i<lo+l->le c (el a i) (el a (lo+k)):=λi x y=>by
  have:=h1 (i-lo) (by lia)
  rwa [show lo+(i-lo)=i by lia]at this
 have q2:∀i,lo+l<=i->i<lo+k->le c (el a (lo+k)) (el a i):=λi x y=>by
  have:=h2 (i-lo) (by lia) (by lia)
  rwa [show lo+(i-lo)=i by lia]at this
 by_cases ei:i=lo+l
 ·rw[if_pos ei]
  by_cases ej:j=lo+l
  ·rw[if_pos ej];exact O.refl _
  ·rw[if_neg ej,if_pos (by lia)]
   exact q2 _ (by lia) (by lia)
 ·rw[if_neg ei]
  by_cases ej:j=lo+l
  ·rw[if_pos ej,if_neg (by lia)]
   exact q1 _ (by lia) (by lia)
  ·rw[if_neg ej]
   by_cases fi:lo+l<i/\i<=lo+k
   ·rw[if_pos fi,if_pos (by lia)]
    exact h _ _ (by lia) (by lia) (by lia)
   ·rw[if_neg fi]
    by_cases fj:lo+l<j/\j<=lo+k
    ·rw[if_pos fj];exact h _ _ (by lia) (by lia) (by lia)
    ·rw[if_neg fj];exact h _ _ (by lia) (by lia) (by lia)
theorem xm {src d:Nat}(hs:src<a.size)(hd:d<=src):Rg a (bubble a src d) (src-d) (src+1):=⟨bubble_perm _ _ _,λk h=>by
 rw[ji hs hd,if_neg (by lia),if_neg (by lia)]⟩
end
section
variable {prog:UY}{w:Vc}{A:V6}{E:UQ->UT->Prop}{s:UT}{κ:Xi}{c:UX->UX->Bool}{a₀:Array UX}
theorem ER (O:b7 c)(L:fg prog w A E s κ c (·∈a₀.toList)){st:Vr}{lo n ok:Nat}{Q:Bool->Vr->Prop}(h0:jn κ a₀ st)(bA:ok<=n)(h1:1<=n)(hn:lo+n<=a₀.size)(hs:SR c (Vv st) lo (lo+ok))
  (h:∀b,Rg (Vv st) b lo (lo+n)->SR c b lo (lo+n)->Q true (V8 st b)):wpS (model prog w) A E s (binarySort' lo n ok) Q st:=by
 rw[binarySort'_eq];refine U0 (Ws (VX (I:=λk r aA=>r=(none,())/\k<=n/\∃b,aA=V8 st b/\Rg (Vv st) b lo (lo+n)/\SR c b lo (lo+k))
  (Q:=λr aA=>r=(none,())/\∃b,aA=V8 st b/\Rg (Vv st) b lo (lo+n)/\SR c b lo (lo+n)) ?_ ?_ ?_) ?_)
 ·rintro k r aA Ek hk ⟨rfl,_,b,rfl,R,wN⟩;dsimp only;have hz:b.size=a₀.size:=R.size.trans h0.size;refine U0 (Ws (VX (I:=λx r aA=>aA=V8 st b/\∃l u,r=(none,l,u)/\l<=u/\u<=k/\u-l<=k-x/\(∀i,i<l->le c (el b (lo+i)) (el b (lo+k)))/\(∀i,u<=i->i<k->le c (el b (lo+k)) (el b (lo+i))))
   (Q:=λr aA=>aA=V8 st b/\∃l,r=(none,l,l)/\l<=k/\(∀i,i<l->le c (el b (lo+i)) (el b (lo+k)))/\(∀i,l<=i->i<k->le c (el b (lo+k)) (el b (lo+i)))) ?_ ?_ ?_) ?_)
  ·rintro x r aA _ hx ⟨rfl,l,u,rfl,g1,g2,g3,g4,g5⟩;dsimp only
   by_cases Qs:l >= u
   ·rw[if_pos Qs];obtain rfl:l=u:=by lia
    exact U7 ⟨rfl,l,rfl,g2,g4,g5⟩
   ·rw[if_neg Qs];refine U0 (g7 L h0 R (by lia) (by lia) ?_)
    dsimp only;cases hc:c (el b (lo+k)) (el b (lo+(l+u) / 2))with
    |true =>
     rw[if_pos rfl];exact U7 ⟨rfl,l,_,rfl,by lia,by lia,by lia,g4,λi h1 h2=>O.trans (O.of_lt hc) (wN _ _ (by lia) (by lia) (by lia))⟩
    |false =>
     rw[if_neg (by simp)]
     exact U7 ⟨rfl,_,u,rfl,by lia,by lia,by lia,λi h1=>O.trans (wN _ _ (by lia) (by lia) (by lia)) (show le c (el b (lo+(l+u) / 2)) (el b (lo+k)) from hc),g5⟩
  ·rintro r aA ⟨rfl,l,u,rfl,g1,g2,g3,g4,g5⟩;obtain rfl:l=u:=by lia
   exact⟨rfl,l,rfl,g2,g4,g5⟩
  ·exact⟨rfl,0,k,rfl,Vb _,US _,by lia,λi hi=>by lia,λi h1 h2=>by lia⟩
  rintro r aA ⟨rfl,l,rfl,g2,g4,g5⟩;dsimp only;rw[moveDown'_eq];refine U0 (W9 (U7 ⟨rfl,by lia,_,rfl,R.trans ((xm (a:=b) (by lia) (by lia)).mono (by lia) (by lia)),xl (a:=b) O (by lia) g2 wN g4 g5⟩))
 ·rintro r aA ⟨rfl,hx,b,rfl,R,wN⟩;rw[show max (max ok 1) n=n by lia]at wN
  exact⟨rfl,b,rfl,R,wN⟩
 ·refine⟨rfl,by lia,Vv st,rfl,Rg.refl,?_⟩
  by_cases h2:ok=0
  ·subst h2;exact SR.one O
  ·rw[show max ok 1=ok by lia]
   exact hs
 ·rintro r aA ⟨rfl,b,rfl,R,wN⟩;exact U7 (h b R wN)
theorem rf (base:Nat):∀(l:List UX) (off:Nat) (a:Array UX),base+off+l.length<=a.size->∀k:Nat,
  ((l.zipIdx off).foldl (λx (z:UX×Nat)=>x.setIfInBounds (base+z.2) z.1) a)[k]?=if base+off<=k/\k<base+off+l.length then l[k-(base+off)]? else a[k]?
 |[],off,a,_,k=>by
  rw[if_neg (by rw[XM];lia)]
  rfl
 |x::l,off,a,h,k=>by
  rw[Ve]at h;rw[List.zipIdx_cons,Wf,rf base l (off+1) _ (by rw[Array.size_setIfInBounds];lia)]
  by_cases h1:base+(off+1)<=k/\k<base+(off+1)+l.length
  ·rw[if_pos h1,if_pos (by rw[Ve];lia),show k-(base+off)=k-(base+(off+1))+1 by lia,List.getElem?_cons_succ]
  ·rw[if_neg h1,Array.getElem?_setIfInBounds]
   by_cases h2:base+off=k
   ·subst h2;rw[if_pos rfl,if_pos (by lia),if_pos (by rw[Ve];lia),WG]
    rfl
   ·rw[if_neg h2,if_neg (by rw[Ve];lia)]
def Bh (a:Array UX)(base:Nat)(l:List UX):Array UX:=l.zipIdx.foldl (λx (z:UX×Nat)=>x.setIfInBounds (base+z.2) z.1) a
theorem nU {a:Array UX}{base:Nat}{l:List UX}(h:base+l.length<=a.size)(k:Nat):(Bh a base l)[k]?=if base<=k/\k<base+l.length then l[k-base]? else a[k]?:=rf base l 0 a h k
theorem xF {a:Array UX}{base:Nat}{l:List UX}(h:base+l.length<=a.size):(Bh a base l).toList=a.toList.take base++(l++a.toList.drop (base+l.length)):=by
 apply WK;intro k;rw[Vo,nU h];have hz:a.toList.length=a.size:=Vs
 by_cases h1:base<=k/\k<base+l.length
 ·rw[if_pos h1,VN (by rw[VV];lia),VV,Wc (by lia)]
  congr 1
  lia
 ·rw[if_neg h1]
  by_cases h2:k<base
  ·rw[Wc (by rw[VV];lia),List.getElem?_take_of_lt h2,Vo]
  ·rw[VN (by rw[VV];lia),VV,VN (by lia),List.getElem?_drop,Vo]
   congr 1
   lia
theorem Fb (a:Array UX)(base m:Nat):a.toList=a.toList.take base++((a.toList.drop base).take m++a.toList.drop (base+m)):=by
 have h1:=(WZ base a.toList).symm;have h2:=(WZ m (a.toList.drop base)).symm;rw[List.drop_drop]at h2;rw[<- h2];exact h1
theorem EK {a:Array UX}{base:Nat}{l:List UX}(h:base+l.length<=a.size)(hp:l.Perm ((a.toList.drop base).take l.length)):Rg a (Bh a base l) base (base+l.length) where
 perm:=by
  rw[Xb,xF h];refine List.Perm.trans ?_ (Y0 (Fb a base l.length).symm);exact List.Perm.append_left _ (hp.append_right _)
 out:=λk hk=>dF (by rw[nU h,if_neg (by lia)])
end
section
variable {prog:UY}{w:Vc}{A:V6}{E:UQ->UT->Prop}{s:UT}{κ:Xi}{c:UX->UX->Bool}{a₀:Array UX}
theorem Bi {σ:Type}{M:Model}{Q:PUnit->σ->Prop}{st aA:σ}(h:Q ⟨⟩ aA):wpS M A E s (set aA:StateT σ Sem PUnit) Q st:=by
 unfold wpS;rw[StateT.run_set];exact Vl ⟨rfl,h⟩
theorem tZ {a:Array UX}{lo hi i:Nat}(h:i<hi-lo)(hh:hi<=a.size):el (a.extract lo hi) i=el a (lo+i) :=
 dF (by rw[Array.getElem?_extract,if_pos (by lia)])
theorem lO {a:Array UX}{lo hi:Nat}(hh:hi<=a.size):(a.extract lo hi).size=hi-lo:=by
 rw[Array.size_extract];lia
theorem uU {a:Array UX}{lo hi:Nat}(hh:hi<=a.size){z:UX}(h:z∈(a.extract lo hi).toList):∃u,lo<=u/\u<hi/\z=el a u:=by
 obtain⟨i,jg⟩:=List.getElem?_of_mem h;rw[Vo]at jg;have gh:i<(a.extract lo hi).size:=by
  rcases Wz i (a.extract lo hi).size with q|q
  ·exact q
  ·rw[Xz q]at jg;cases jg
 rw[lO hh]at gh;exact⟨lo+i,by lia,by lia,by rw[<- tZ gh hh,vm jg]⟩
theorem sJ (O:b7 c)(L:fg prog w A E s κ c (·∈a₀.toList)){st:Vr}{i sa na pw sb nb M9:Nat}{Q:Bool->Vr->Prop}(h0:jn κ a₀ st)(p1:(Vm st)[i]?=some (sa,na,pw))(p2:(Vm st)[i+1]?=some (sb,nb,M9))
  (wN:sb=sa+na) (Uu:1<=na) (Ut:1<=nb) (hz:sb+nb<=a₀.size) (s1:SR c (Vv st) sa sb) (s2:SR c (Vv st) sb (sb+nb))
  (h:∀aA,kindOf aA=κ->Xu aA=none->Vm aA=((Vm st).setIfInBounds i (sa,na+nb,pw)).eraseIdxIfInBounds (i+1)->Rg (Vv st) (Vv aA) sa (sb+nb)->SR c (Vv aA) sa (sb+nb)->Q true aA) :
  wpS (model prog w) A E s (mergeAt' i) Q st:=by
 rw[qO];refine U0 (XY ?_);rw[p1,p2];dsimp only;refine U0 (Bi ?_);have hsz:=h0.size;have hm:∀{j},j<a₀.size->el (Vv st) j∈a₀.toList:=λhj=>h0.mem hj;generalize ha:Vv st=a at *
 have vM:kindOf (XC st (((Vm st).setIfInBounds i (sa,na+nb,pw)).eraseIdxIfInBounds (i+1)))=κ:=h0.kind;have E7:Xu (XC st (((Vm st).setIfInBounds i (sa,na+nb,pw)).eraseIdxIfInBounds (i+1)))=none:=h0.fail;have E8:Vv (XC st (((Vm st).setIfInBounds i (sa,na+nb,pw)).eraseIdxIfInBounds (i+1)))=a:=ha;have IB:Vm (XC st (((Vm st).setIfInBounds i (sa,na+nb,pw)).eraseIdxIfInBounds (i+1)))=((Vm st).setIfInBounds i (sa,na+nb,pw)).eraseIdxIfInBounds (i+1):=rfl;generalize hP:((Vm st).setIfInBounds i (sa,na+nb,pw)).eraseIdxIfInBounds (i+1)=P at *
 generalize XC st P=MK at *
 refine U0 (aK (by lia) ?_)
 refine U0 (dg O L vM (hm (by lia)) (λx hx=>hm (by lia)) (by lia) (λx y h1 h2 h3=>s1 x y h1 h2 (by lia)) (by lia) λk k1 k2 k3=>?_)
 dsimp only;have g0:∀x,sa<=x->x<sa+k->le c (el a x) (el a sb):=λx h1 h2=>by
  have:=k2 (x-sa) (by lia)
  unfold dG at this;rw[if_neg (by simp),X1,show sa+(x-sa)=x by lia]at this
  exact this
 by_cases e1:(na-k==0)=true
 ·rw[if_pos e1];have e1:na-k=0:=by simpa using e1
  refine U7 (h MK vM E7 IB (by rw[E8];exact Rg.refl) ?_)
  rw[E8];intro x y h1 h2 h3
  by_cases hx:x<sb
  ·by_cases hy:y<sb
   ·exact s1 x y h1 h2 hy
   ·exact O.trans (g0 x h1 (by lia)) (s2 sb y (US _) (by lia) h3)
  ·exact s2 x y (by lia) h2 h3
 rw[if_neg e1];have e1:na-k≠0:=by simpa using e1
 have g1:c (el a sb) (el a (sa+k))=true:=by
  have:=k3 k (US _) (by lia)
  unfold dG at this;rw[if_neg (by simp),YB]at this
  exact this
 refine U0 (aK (by lia) ?_)
 refine U0 (dg O L vM (hm (by lia)) (λx hx=>hm (by lia)) (by lia) (λx y h1 h2 h3=>s2 x y h1 h2 (by lia)) (by lia) λm m1 m2 m3=>?_)
 dsimp only;rw[show sa+k+(na-k)-1=sb-1 by lia]at m2 m3
 have g2:∀x,sb<=x->x<sb+m->c (el a x) (el a (sb-1))=true:=λx h1 h2=>by
  have:=m2 (x-sb) (by lia)
  unfold dG at this;rw[if_pos rfl,show sb+(x-sb)=x by lia]at this
  exact this
 have g3:∀x,sb+m<=x->x<sb+nb->le c (el a (sb-1)) (el a x):=λx h1 h2=>by
  have:=m3 (x-sb) (by lia) (by lia)
  unfold dG at this;rw[if_pos rfl,show sb+(x-sb)=x by lia]at this
  exact this
 by_cases e2:(m==0)=true
 ·exfalso
  have e2:m=0:=by simpa using e2
  have:=O.trans (s1 (sa+k) (sb-1) (by lia) (by lia) (by lia)) (g3 sb (by lia) (by lia))
  exact absurd (g1.symm.trans this) (by simp)
 rw[if_neg e2];have e2:m≠0:=by simpa using e2
 have zx:(a.extract (sa+k) sb).size=sb-(sa+k):=lO (by lia)
 have zy:(a.extract sb (sb+m)).size=m:=by rw[lO (by lia)];lia
 have ex:∀{t},t<sb-(sa+k)->el (a.extract (sa+k) sb) t=el a (sa+k+t):=λht=>tZ ht (by lia)
 have ey:∀{t},t<m->el (a.extract sb (sb+m)) t=el a (sb+t):=λht=>tZ (by lia) (by lia)
 have fin:∀(out:Array UX) (fh:Vr),jq MK fh->Gd c (a.extract (sa+k) sb) (a.extract sb (sb+m)) out.toList ->
   wpS (model prog w) A E s (do
    modify λs2=>V8 s2 (out.toList.zipIdx.foldl (λx z=>match z with|(p,j)=>x.setIfInBounds (sa+k+j) p) (Vv s2))
    let y <- get
    pure (Xu y).isNone:StateT Vr Sem Bool) Q fh:=by
  rintro out fh e ⟨gp,gs⟩;refine U0 (W9 (U0 (XY (U7 ?_))));show Q (Xu fh).isNone (V8 fh (Bh (Vv fh) (sa+k) out.toList));rw[e.fail,E7,e.arr,E8];have zo:out.toList.length=sb-(sa+k)+m:=by
   rw[gp.length_eq,U_,Vs,Vs,zx,zy]
  have hb:sa+k+out.toList.length<=a.size:=by lia
  have xy:(a.toList.drop (sa+k)).take out.toList.length=(a.extract (sa+k) sb).toList++(a.extract sb (sb+m)).toList:=by
   rw[b6,b6,zo,show sb+m-sb=m by lia,List.take_add,List.drop_drop,show sa+k+(sb-(sa+k))=sb by lia]
  have R:Rg a (Bh a (sa+k) out.toList) (sa+k) (sa+k+out.toList.length):=EK hb (by rw[xy];exact gp)
  refine h _ (e.kind.trans vM) (e.fail.trans E7) (e.pend.trans IB) (R.mono (by lia) (by lia)) ?_
  show SR c (Bh a (sa+k) out.toList) sa (sb+nb);have GX:∀t,sa+k<=t->t<sb+m->∃z,out.toList[t-(sa+k)]?=some z/\el (Bh a (sa+k) out.toList) t=z/\((∃u,sa+k<=u/\u<sb/\z=el a u)\/∃u,sb<=u/\u<sb+m/\z=el a u):=by
   intro t h1 h2;have hl:t-(sa+k)<out.toList.length:=by lia
   refine⟨out.toList[t-(sa+k)],U4 hl,vm (by rw[nU hb,if_pos (by lia)];exact U4 hl),?_⟩
   have GY:=gp.mem_iff.mp (X8 hl);rcases Vh.mp GY with q|q
   ·exact .inl (uU (by lia) q)
   ·exact .inr (uU (by lia) q)
  have QN:∀t,t<sa+k->el (Bh a (sa+k) out.toList) t=el a t:=λt ht=>R.out t (.inl ht);have Md:∀t,sb+m<=t->el (Bh a (sa+k) out.toList) t=el a t:=λt ht=>R.out t (.inr (by lia))
  intro x y h1 h2 h3
  by_cases hx:x<sa+k
  ·rw[QN x hx]
   by_cases hy:y<sa+k
   ·rw[QN y hy];exact s1 x y h1 h2 (by lia)
   ·by_cases JP:y<sb+m
    ·obtain⟨z,_,ez,NG⟩:=GX y (by lia) JP
     rw[ez];rcases NG with⟨u,u1,u2,rfl⟩|⟨u,u1,u2,rfl⟩
     ·exact s1 x u h1 (by lia) u2
     ·exact O.trans (g0 x h1 hx) (s2 sb u (US _) u1 (by lia))
    ·rw[Md y (by lia)]
     exact O.trans (g0 x h1 hx) (s2 sb y (US _) (by lia) h3)
  ·by_cases NJ:x<sb+m
   ·obtain⟨z,iz,ez,NG⟩:=GX x (by lia) NJ
    rw[ez]
    by_cases JP:y<sb+m
    ·obtain⟨z',R_,O5,_⟩:=GX y (by lia) JP
     rw[O5]
     by_cases NH:x=y
     ·subst NH;rw[ez]at O5;rw[O5];exact O.refl _
     ·obtain⟨q1,q2⟩:=U6.mp iz;obtain⟨q3,q4⟩:=U6.mp R_;have:=Zg.mp gs _ _ q1 q3 (by lia)
      rw[q2,q4]at this;exact this
    ·rw[Md y (by lia)]
     rcases NG with⟨u,u1,u2,rfl⟩|⟨u,u1,u2,rfl⟩
     ·exact O.trans (s1 u (sb-1) (by lia) (by lia) (by lia)) (g3 y (by lia) h3)
     ·exact s2 u y (by lia) (by lia) h3
   ·rw[Md x (by lia),Md y (by lia)]
    exact s2 x y (by lia) h2 h3
 have go:∀(out:Array UX) (fh:Vr),jq MK fh->Gd c (a.extract (sa+k) sb) (a.extract sb (sb+m)) out.toList->wpS (model prog w) A E s (do
    modify λs2=>V8 s2 (out.toList.zipIdx.foldl (λx z=>match z with|(p,j)=>x.setIfInBounds (sa+k+j) p) (Vv s2))
    let y <- get
    pure (Xu y).isNone:StateT Vr Sem Bool) Q fh:=fin
 have NK:0<(a.extract (sa+k) sb).size:=by lia
 have Qj:0<(a.extract sb (sb+m)).size:=by lia
 have Sx:∀t,t<(a.extract (sa+k) sb).size->el (a.extract (sa+k) sb) t∈a₀.toList:=λt ht=>by rw[ex (by lia)];exact hm (by lia)
 have Sy:∀t,t<(a.extract sb (sb+m)).size->el (a.extract sb (sb+m)) t∈a₀.toList:=λt ht=>by rw[ey (by lia)];exact hm (by lia)
 have PX:SR c (a.extract (sa+k) sb) 0 (a.extract (sa+k) sb).size:=λx y h1 h2 h3=>by
  rw[ex (by lia),ex (by lia)]
  exact s1 _ _ (by lia) (by lia) (by lia)
 have PU:SR c (a.extract sb (sb+m)) 0 (a.extract sb (sb+m)).size:=λx y h1 h2 h3=>by
  rw[ey (by lia),ey (by lia)]
  exact s2 _ _ (by lia) (by lia) (by lia)
 have hf:c (el (a.extract sb (sb+m)) 0) (el (a.extract (sa+k) sb) 0)=true:=by
  rw[ex (by lia),ey (by lia)]
  exact g1
 have hl:∀y,y<(a.extract sb (sb+m)).size->c (el (a.extract sb (sb+m)) y) (el (a.extract (sa+k) sb) ((a.extract (sa+k) sb).size-1))=true:=λy hy=>by
  rw[ey (by lia),ex (by lia),show sa+k+((a.extract (sa+k) sb).size-1)=sb-1 by lia]
  exact g2 _ (by lia) (by lia)
 by_cases e3:na-k<=m
 ·rw[if_pos e3];exact U0 (sH O L vM Sx Sy PX PU NK Qj hf hl go)
 ·rw[if_neg e3];exact U0 (sI O L vM Sx Sy PX PU NK Qj hf hl go)
end
section
variable {c:UX->UX->Bool}{a b:Array UX}
def Runs (c:UX->UX->Bool)(a:Array UX):List (Nat×Nat×Nat)->Nat->Nat->Prop
 |[],lo,hi=>lo=hi
 |z::r,lo,hi=>z.1=lo/\1<=z.2.1/\SR c a lo (lo+z.2.1)/\Runs c a r (lo+z.2.1) hi
theorem Runs.app:∀{l r:List (Nat×Nat×Nat)} {lo hi:Nat},Runs c a (l++r) lo hi->∃m,Runs c a l lo m/\Runs c a r m hi
 |[],r,lo,hi,h=>⟨lo,rfl,h⟩
 |z::l,r,lo,hi,⟨h1,h2,h3,h4⟩=>by
  obtain⟨m,g1,g2⟩:=Runs.app h4;exact⟨m,⟨h1,h2,h3,g1⟩,g2⟩
theorem Runs.join:∀{l r:List (Nat×Nat×Nat)} {lo m hi:Nat},Runs c a l lo m->Runs c a r m hi->Runs c a (l++r) lo hi
 |[],r,lo,m,hi,h,g=>by
  obtain rfl:lo=m:=h;exact g
 |z::l,r,lo,m,hi,⟨h1,h2,h3,h4⟩,g=>⟨h1,h2,h3,Runs.join h4 g⟩
theorem Runs.len:∀{l:List (Nat×Nat×Nat)} {lo hi:Nat},Runs c a l lo hi->lo+l.length<=hi
 |[],lo,hi,h=>Nat.le_of_eq h
 |z::l,lo,hi,⟨h1,h2,h3,h4⟩=>by
  have:=Runs.len h4;rw[Ve];lia
theorem Runs.congr:∀{l:List (Nat×Nat×Nat)} {lo hi:Nat},Runs c a l lo hi->(∀k,lo<=k->k<hi->el b k=el a k)->Runs c b l lo hi
 |[],lo,hi,h,_=>h
 |z::l,lo,hi,⟨h1,h2,h3,h4⟩,e=>by
  have hl:=Runs.len h4;exact⟨h1,h2,h3.congr λk g1 g2=>e k g1 (by lia),Runs.congr h4 λk g1 g2=>e k (by lia) g2⟩
theorem Runs.pow:∀{l l':List (Nat×Nat×Nat)} {lo hi:Nat},Runs c a l lo hi->l'.map (λz=>(z.1,z.2.1))=l.map (λz=>(z.1,z.2.1))->Runs c a l' lo hi
 |[],[],_,_,h,_=>h
 |[],z::l',_,_,_,e=>by cases e
 |z::l,[],_,_,_,e=>by cases e
 |z::l,z'::l',lo,hi,⟨h1,h2,h3,h4⟩,e=>by
  rw[Vj,Vj]at e;injection e with e1 e2
  injection e1 with e3 e4
  exact⟨e3.trans h1,by rw[e4];exact h2,by rw[e4];exact h3,by rw[e4];exact Runs.pow h4 e2⟩
end
section
variable {prog:UY}{w:Vc}{A:V6}{E:UQ->UT->Prop}{s:UT}{κ:Xi}{c:UX->UX->Bool}{a₀:Array UX}
theorem Fc {α:Type}{l:List α}{i:Nat}(h:i+1<l.length):∃l1 x y l2,l=l1++x::y::l2/\l1.length=i:=by
 refine⟨l.take i,l[i],l[i+1],l.drop (i+2),?_,by rw[VV];lia⟩
 rw[<- V3 h,<- V3 (by lia),WZ]
theorem mH (O:b7 c)(L:fg prog w A E s κ c (·∈a₀.toList)){st:Vr}{i hi:Nat}{Q:Bool->Vr->Prop}(h0:jn κ a₀ st)(hr:Runs c (Vv st) (Vm st).toList 0 hi)(hh:hi<=a₀.size)(OE:i+1<(Vm st).size)
  (h:∀aA,jn κ a₀ aA->Rg (Vv st) (Vv aA) 0 hi->Runs c (Vv aA) (Vm aA).toList 0 hi->(Vm aA).size+1=(Vm st).size->Q true aA) :
  wpS (model prog w) A E s (mergeAt' i) Q st:=by
 obtain⟨l1,⟨sa,na,pw⟩,⟨sb,nb,M9⟩,l2,el,hl⟩:=Fc (l:=(Vm st).toList) (i:=i) (by rw[Vs];exact OE)
 rw[el]at hr;obtain⟨m,r1,r2⟩:=hr.app;obtain⟨x1,x2,x3,y1,y2,y3,r3⟩:=r2;dsimp only at x1 x2 x3 y1 y2 y3 r3;have hlen:=r3.len;have Qt:=r1.len;have p1:(Vm st)[i]?=some (sa,na,pw):=by
  rw[<- Vo,el,VN (by lia),hl,WG]
  rfl
 have p2:(Vm st)[i+1]?=some (sb,nb,M9):=by
  rw[<- Vo,el,VN (by lia),hl,show i+1-i=1 by lia]
  rfl
 subst x1;refine sJ O L h0 p1 p2 y1 x2 y2 (by lia) (by rw[y1];exact x3) (by rw[y1];exact y3) λaA k1 k2 k3 R S=>?_
 have ep:(Vm aA).toList=l1++(sa,na+nb,pw)::l2:=by
  rw[k3];have hz:i+1<((Vm st).setIfInBounds i (sa,na+nb,pw)).size:=by rw[Array.size_setIfInBounds];exact OE
  have e1:(((Vm st).setIfInBounds i (sa,na+nb,pw)).eraseIdxIfInBounds (i+1)).toList=((Vm st).toList.set i (sa,na+nb,pw)).eraseIdx (i+1):=by
   unfold Array.eraseIdxIfInBounds;rw[dif_pos hz,Array.toList_eraseIdx,Array.toList_setIfInBounds]
  rw[e1,el,<- hl,Yn _ _ (US _),WG,List.set_cons_zero,List.eraseIdx_append_of_length_le (by lia),show l1.length+1-l1.length=1 by lia]
  rfl
 have out:∀k,(k<sa\/sb+nb<=k)->TS.el (Vv aA) k=TS.el (Vv st) k:=R.out;refine h aA ⟨k1,k2,R.perm.trans h0.perm⟩ (R.mono (Vb _) (by lia)) ?_ ?_
 ·rw[ep];refine Runs.join (r1.congr λk g1 g2=>out k (.inl (by lia))) ⟨rfl,by show 1<=na+nb;lia,?_,?_⟩
  ·show SR c (Vv aA) sa (sa+(na+nb));rw[show sa+(na+nb)=sb+nb by lia]
   exact S
  ·show Runs c (Vv aA) l2 (sa+(na+nb)) hi;rw[show sa+(na+nb)=sa+na+nb by lia]
   exact r3.congr λk g1 g2=>out k (.inr (by lia))
 ·have e2:(Vm aA).size=l1.length+(l2.length+1):=by rw[<- Vs,ep,U_,Ve]
  have e3:(Vm st).size=l1.length+(l2.length+1+1):=by rw[<- Vs,el,U_,Ve,Ve]
  lia
theorem lb:∀(f n r:Nat),1<=n->1<=minRun' f n r
 |0,n,r,h=>by show 1<=n+r;lia
 |f+1,n,r,h=>by
  rw[minRun'_succ]
  split
  ·lia
  ·exact lb f _ _ (by lia)
theorem BZ (p:Array (Nat×Nat×Nat))(i w:Nat):(p.modify i λx=>(x.1,x.2.1,w)).toList.map (λz=>(z.1,z.2.1))=p.toList.map (λz=>(z.1,z.2.1)):=by
 apply WK;intro k;rw[Vd,Vd,Vo,Vo,Array.getElem?_modify]
 split
 ·rw[Option.map_map];rfl
 ·rfl
theorem pN (O:b7 c)(L:fg prog w A E s κ c (·∈a₀.toList)){st:Vr}{Q:Unit->Vr->Prop}(h0:jn κ a₀ st)(hp:Vm st=#[])(h2:2<=a₀.size)
  (h:∀aA,jn κ a₀ aA->SR c (Vv aA) 0 a₀.size->Q () aA):wpS (model prog w) A E s sortRuns' Q st:=by
 rw[sortRuns'_eq];refine U0 (XY ?_);dsimp only;rw[h0.size];have SD:=lb a₀.size a₀.size 0 (by lia)
 generalize minRun' a₀.size a₀.size 0=mr at SD;refine U0 (Ws (VX (I:=λx r aA=>jn κ a₀ aA/\∃lo,r=(none,lo)/\lo<=a₀.size/\(a₀.size<=lo\/x<=lo)/\Runs c (Vv aA) (Vm aA).toList 0 lo)
  (Q:=λr aA=>jn κ a₀ aA/\r=(none,a₀.size)/\Runs c (Vv aA) (Vm aA).toList 0 a₀.size) ?_ ?_ ?_) ?_)
 ·rintro x r aA _ hx ⟨hS,lo,rfl,Ov,SH,hr⟩;dsimp only
  by_cases hl:lo >= a₀.size
  ·rw[if_pos hl];obtain rfl:lo=a₀.size:=by lia
   exact U7 ⟨hS,rfl,hr⟩
  rw[if_neg hl];refine U0 (xK O L hS (by lia) (by lia) λn b n1 n2 R Sb=>?_)
  dsimp only;have su:jn κ a₀ (V8 aA b):=hS.set R;have tR:Runs c (Vv (V8 aA b)) (Vm (V8 aA b)).toList 0 lo:=Runs.congr (b:=b) hr λk q1 q2=>R.out k (.inl q2);refine(λ(key:∀(N:Nat) (stx:Vr),1<=N->lo+N<=a₀.size->Runs c (Vv stx) (Vm stx).toList 0 lo->jn κ a₀ stx->SR c (Vv stx) lo (lo+N)->(?G:Nat->Vr->Prop) N stx)=>?main) ?key
  case main =>
   by_cases Qq:n<mr
   ·rw[if_pos Qq];refine U0 (Yp (XB ⟨rfl,?_⟩));refine U0 (ER O L su (by lia) (by lia) (by lia) Sb λb' R' TJ=>?_)
    rw[if_neg (by simp)]
    have Ma:1<=min (a₀.size-lo) mr:=by lia
    have Ld:lo+min (a₀.size-lo) mr<=a₀.size:=by lia
    have tR:Runs c (Vv (V8 (V8 aA b) b')) (Vm (V8 (V8 aA b) b')).toList 0 lo:=Runs.congr (b:=b') tR λk q1 q2=>R'.out k (.inl q2);have su:jn κ a₀ (V8 (V8 aA b) b'):=su.set R';have EE:SR c (Vv (V8 (V8 aA b) b')) lo (lo+(min (a₀.size-lo) mr)):=TJ;generalize V8 (V8 aA b) b'=stx at tR su EE ⊢
    generalize min (a₀.size-lo) mr=N at Ma Ld EE ⊢
    exact key N stx Ma Ld tR su EE
   ·rw[if_neg Qq];have EE:SR c (Vv (V8 aA b)) lo (lo+n):=Sb;exact key n _ n1 (by lia) tR su EE
  case key =>
   intro N stx Ma Ld tR su EE;refine U0 (XY ?_);have LB:∀(kA:Vr),jn κ a₀ kA->SR c (Vv kA) lo (lo+N)->Runs c (Vv kA) (Vm kA).toList 0 lo->jn κ a₀ (XC kA ((Vm kA).push (lo,N,0)))/\∃D_,((none,lo+N):Option Unit×Nat)=(none,D_)/\D_<=a₀.size/\(a₀.size<=D_\/x+1<=D_)/\Runs c (Vv kA) ((Vm kA).push (lo,N,0)).toList 0 D_:=λkA g1 g2 g3 =>
    ⟨⟨g1.kind,g1.fail,g1.perm⟩,_,rfl,by lia,by lia,by rw[W7];exact g3.join ⟨rfl,Ma,g2,rfl⟩⟩
   cases hb:(Vm stx).back? with
   |none =>
    dsimp only;exact U0 (W9 (U7 (LB stx su EE tR)))
   |some z =>
    obtain⟨s1,n1,p1⟩:=z;dsimp only;refine U0 (Ws (VX (I:=λx r aA=>r=(none,())/\jn κ a₀ aA/\SR c (Vv aA) lo (lo+N)/\Runs c (Vv aA) (Vm aA).toList 0 lo)
     (Q:=λr aA=>r=(none,())/\jn κ a₀ aA/\SR c (Vv aA) lo (lo+N)/\Runs c (Vv aA) (Vm aA).toList 0 lo) ?_ ?_ ?_) ?_)
    ·rintro y r kA _ _ ⟨rfl,g1,g2,g3⟩;refine U0 (XY ?_)
     by_cases HR:(Vm kA).size>1
     ·rw[if_pos HR];cases hq:(Vm kA)[(Vm kA).size-2]? with
      |none =>
       dsimp only;exact U7 ⟨rfl,g1,g2,g3⟩
      |some z =>
       obtain⟨u,v,P_⟩:=z;dsimp only
       split
       ·exact U7 ⟨rfl,g1,g2,g3⟩
       ·refine U0 (mH O L g1 g3 (by lia) (by lia) λIA f1 f2 f3 f4=>?_)
        exact U7 ⟨rfl,f1,g2.congr λk q1 q2=>f2.out k (.inr q1),f3⟩
     ·rw[if_neg HR];dsimp only;exact U7 ⟨rfl,g1,g2,g3⟩
    ·rintro r kA ⟨rfl,g1,g2,g3⟩;exact⟨rfl,g1,g2,g3⟩
    ·exact⟨rfl,su,EE,tR⟩
    rintro r kA ⟨rfl,g1,g2,g3⟩;dsimp only;refine U0 (W9 (U0 (W9 (U7 ?_))));exact LB (XC kA _) ⟨g1.kind,g1.fail,g1.perm⟩ g2 (g3.pow (BZ _ _ _))
 ·rintro r aA ⟨hS,lo,rfl,Ov,SH,hr⟩;obtain rfl:lo=a₀.size:=by lia
  exact⟨hS,rfl,hr⟩
 ·exact⟨h0,0,rfl,Vb _,.inr (US _),by rw[hp];rfl⟩
 rintro r aA ⟨hS,rfl,hr⟩;dsimp only;refine U0 (Ws (VX (I:=λx r aA=>r=(none,())/\jn κ a₀ aA/\Runs c (Vv aA) (Vm aA).toList 0 a₀.size/\((Vm aA).size<=1\/(Vm aA).size+x<=a₀.size))
  (Q:=λr aA=>r=(none,())/\jn κ a₀ aA/\Runs c (Vv aA) (Vm aA).toList 0 a₀.size/\(Vm aA).size<=1) ?_ ?_ ?_) ?_)
 ·rintro x r fh _ hx ⟨rfl,su,tR,hz⟩;refine U0 (XY ?_)
  by_cases h1:(Vm fh).size<=1
  ·rw[if_pos h1];exact U7 ⟨rfl,su,tR,h1⟩
  rw[if_neg h1];refine U0 (mH O L su tR (US _) ?_ λkA Ta R3 Ss Uo=>?_)
  ·split
   ·split <;> lia
   ·rw[if_neg (by simp)]
    lia
  ·exact U7 ⟨rfl,Ta,Ss,.inr (by lia)⟩
 ·rintro r fh ⟨rfl,su,tR,hz⟩;exact⟨rfl,su,tR,by lia⟩
 ·refine⟨rfl,hS,hr,.inr ?_⟩;have:=hr.len;rw[Vs]at this;lia
 ·rintro r fh ⟨rfl,su,tR,hz⟩;refine U7 (h fh su ?_)
  match hq:(Vm fh).toList,tR with
  |[],e=>
   have:(0:Nat)=a₀.size:=e;lia
  |[z],e =>
   obtain⟨e1,e2,e3,e4⟩:=e;have e4:0+z.2.1=a₀.size:=e4;rw[e4]at e3;exact e3
  |z::y::l,e =>
   have:(Vm fh).toList.length<=1:=by rw[Vs];exact hz
   rw[hq]at this;simp at this
end
theorem lex_nil {y:List Int}:HT.lexLt [] y=decide (0<y.length):=by cases y <;> rfl
theorem fL {a b:Int}{x y:List Int}:HT.lexLt (a::x) (b::y)=if a=b then HT.lexLt x y else decide (a<b):=rfl
theorem qR:∀{x y:List Int},HT.lexLt x y=true->HT.lexLt y x=false
 |[],[],_=>rfl
 |[],_::_,_=>rfl
 |_::_,[],h=>by cases h
 |a::x,b::y,h=>by
  rw[fL]at h ⊢
  by_cases e:a=b
  ·rw[if_pos e]at h;rw[if_pos e.symm];exact qR h
  ·rw[if_neg e]at h;rw[if_neg λz=>e z.symm];have:=of_decide_eq_true h;exact decide_eq_false (by lia)
theorem uW:∀{x z:List Int} (y:List Int),HT.lexLt x z=true->HT.lexLt x y=true\/HT.lexLt y z=true
 |[],[],_,h=>by cases h
 |[],_::_,[],h=>.inr rfl
 |[],_::_,_::_,h=>.inl rfl
 |_::_,[],_,h=>by cases h
 |a::x,b::z,[],h=>.inr rfl
 |a::x,b::z,d::y,h=>by
  rw[fL]at h ⊢
  rw[fL]
  by_cases e:a=b
  ·subst e;rw[if_pos rfl]at h
   by_cases e2:a=d
   ·subst e2;rw[if_pos rfl,if_pos rfl];exact uW y h
   ·rw[if_neg e2,if_neg λq=>e2 q.symm]
    by_cases e3:a<d
    ·exact .inl (decide_eq_true e3)
    ·exact .inr (decide_eq_true (by lia))
  ·rw[if_neg e]at h;have h:=of_decide_eq_true h
   by_cases e2:a=d
   ·subst e2;rw[if_neg e];exact .inr (decide_eq_true h)
   ·rw[if_neg e2]
    by_cases e3:a<d
    ·exact .inl (decide_eq_true e3)
    ·rw[if_neg (by lia)]
     exact .inr (decide_eq_true (by lia))
theorem mY:∀{x y:List Int},HT.lexLt x y=false->HT.lexLt y x=false->x=y
 |[],[],_,_=>rfl
 |[],_::_,h,_=>by cases h
 |_::_,[],_,h=>by cases h
 |a::x,b::y,h1,h2=>by
  rw[fL]at h1 h2
  by_cases e:a=b
  ·subst e;rw[if_pos rfl]at h1 h2;rw[mY h1 h2]
  ·rw[if_neg e]at h1;rw[if_neg λq=>e q.symm]at h2;have h1:=of_decide_eq_false h1;have h2:=of_decide_eq_false h2;lia
def byKey (kf:UQ->List Int)(x y:UX):Bool:=HT.lexLt (kf x.1) (kf y.1)
theorem Cb (kf:UQ->List Int):b7 (byKey kf):=⟨λ_ _ h=>qR h,λ_ y _ h=>uW (kf y.1) h⟩
section
variable {prog:UY}{w:Vc}{A:V6}{E:UQ->UT->Prop}{s:UT}
theorem qQ {b:Bool}{Q:Bool->UT->Prop}:∀{ns ms:List Int} {us vs:List UQ} (i:Nat),WW us ns->WW vs ms->Q (HT.lexLt ns ms) s->PySem.W.KatLex prog w A b (decide (ns.length<ms.length)) Q (us.zip vs) i s
 |[],ms,us,vs,i,hu,hv,q=>by
  cases hu;rw[X0];rw[lex_nil]at q;exact PySem.W.kat_nil q
 |n::ns,[],us,vs,i,hu,hv,q=>by
  cases hv;rw[List.zip_nil_right];exact PySem.W.kat_nil q
 |n::ns,m::ms,us,vs,i,hu,hv,q=>by
  cases hu with
  |cons _ t hu =>
   cases hv with
   |cons _ t' hv =>
    rw[WD];refine PySem.W.kat_cons (wpAny_eqBool_int ?_);rw[fL]at q
    by_cases e:n=m
    ·subst e;rw[if_pos rfl]at q;rw[beq_self_eq_true];have:=qQ (b:=b) (Q:=Q) (i+1) hu hv q;rw[show decide ((n::ns).length<(n::ms).length)=decide (ns.length<ms.length) by rw[Ve,Ve];congr 1;simp]
     exact PySem.W.kat_yes this
    ·rw[if_neg e]at q;rw[show (n==m)=false from beq_eq_false_iff_ne.mpr e]
     refine PySem.W.kat_no ?_;cases b&&i==0 with
     |true=>exact oneLt_int q
     |false=>exact PySem.W.kat_one _ _ (lt_int q)
def rX (h:Heap)(kf:UQ->List Int)(a:Addr)(vs:List UQ):Prop :=
 ∀v∈vs,∃t o xs k,v=.ref t/\t≠a/\h.get? t=some o/\o.cls=.type "tuple" /\ o.data=.seq xs k/\WW xs.toList (kf v)/\kf v≠[]
theorem wz {kf:UQ->List Int}{a:Addr}{vs:List UQ}{b:Bool}{a₀:Array UX}(T:rX s.heap kf a vs)(hm:∀z∈a₀.toList,z.1∈vs):fg prog w A E s (tuples' b) (byKey kf) (·∈a₀.toList):=by
 intro x y st Q hx hy hk q;obtain⟨t,o,xs,n,e1,_,e2,_,e3,e4,_⟩:=T _ (hm _ hx);obtain⟨t',o',Ie,n',f1,_,f2,_,f3,f4,_⟩:=T _ (hm _ hy);rw[lt'_eq];refine U0 (XY ?_);rw[hk,e1,f1];have z1:xs.size=(kf x.1).length:=by rw[<- Vs];exact e4.length
 have z2:Ie.size=(kf y.1).length:=by rw[<- Vs];exact f4.length
 refine U0 (Yp (wpAny_attempt (PySem.W.kat_lt e2 e3 f2 f3 ?_)));rw[z1,z2];exact qQ 0 e4 f4 ⟨rfl,U7 q⟩
theorem km {kf:UQ->List Int}{a:Addr}{h:Heap}:∀{vs:List UQ},rX h kf a vs->∃fs:List UQ,PySem.W.KatTups h vs fs/\fs.length=vs.length/\∀f∈fs,∃n t,f=Value.int n t
 |[],_=>⟨[],trivial,rfl,λf hf=>by cases hf⟩
 |v::vs,T=>by
  obtain⟨fs,h1,h2,h3⟩:=km (vs:=vs) λu hu=>T u (UZ _ hu);obtain⟨t,o,xs,k,rfl,_,e2,e3,e4,e5,e6⟩:=T v U1;obtain⟨f,r,ef,n,tk,hn⟩:∃f r,xs.toList=f::r/\∃n tk,f=Value.int n tk:=by
   generalize kf (.ref t)=ks at e5 e6;generalize xs.toList=us at e5;cases e5 with
   |nil=>exact absurd rfl e6
   |cons n tk r=>exact⟨_,_,rfl,_,_,rfl⟩
  have e:xs[0]?=some f:=by rw[<- Vo,ef];rfl
  exact⟨f::fs,PySem.W.KatTups.cons e2 e3 e4 e h1,by rw[Ve,Ve,h2],λg hg=>by
   rcases UW.mp hg with rfl|hg
   ·exact⟨_,_,hn⟩
   ·exact h3 g hg⟩
theorem wF {kf:UQ->List Int}{a:Addr}{vs:List UQ}{Q:Xi->UT->Prop}(T:rX s.heap kf a vs)(h0:0<vs.length)(q:Q (tuples' true) s):Vy (model prog w) A (keyKind' vs.toArray) Q E s:=by
 obtain⟨fs,h1,h2,h3⟩:=km T;refine PySem.W.kat_kind (T:=.type "int") h1 (by lia) (λv hv=>?_) (by decide) q
 obtain⟨n,t,rfl⟩:=h3 v hv;exact .now
theorem yh {α:Type}{R:α->α->Prop}:∀{l:List α},l.length<2->l.Pairwise R
 |[],_=>.nil
 |[x],_=>WS _ _
 |_::_::_,h=>by
  rw[Ve,Ve]at h;lia
theorem tH {a:Addr} {vs:List UQ} {n:Nat} {κ:Xi} {c:UQ->UQ->Bool} {P:PySem.Fin->UT->Prop} (ho:s.heap.get? a=some (Xn "list" vs.toArray n)) (hz:vs.length<=1000000) (O:b7 λx y=>c x.1 y.1)
  (T:∀s':UT,(∀t o,t≠a->s.heap.get? t=some o->s'.heap.get? t=some o)->(2<=vs.length->∀(Q:Xi->UT->Prop),Q κ s'->Vy (model prog w) A (keyKind' vs.toArray) Q E s')/\fg prog w A E s' κ (λx y=>c x.1 y.1) (·∈(vs.toArray.zip vs.toArray).toList))
  (h:∀out:List UQ,out.Perm vs->out.Pairwise (λx y=>c y x=false)->P (.done (.ret .none)) {s with heap:=sortedHeap s.heap a vs out.toArray}) :
  Vy (model prog w) A (YL.«list.sort» ⟨[.ref a],[]⟩) P E s:=by
 have la:a<s.heap.objs.size:=Vn ho;obtain⟨ep,hc⟩:∃ep,(s.heap.update a (W_ λ_=>#[])).get? a=some (Xn "list" #[] ep):=⟨_,get?_update_seq ho (λ_=>#[])⟩;have old:∀t o,t≠a->s.heap.get? t=some o->(((s.heap.update a (W_ λ_=>#[])).push (Xn "tuple" vs.toArray 0)).push (Xn "list" #[] 0)).get? t=some o:=λt o ht e =>
  Vg _ (Vg _ (by rw[Heap.get?_update_ne _ _ _ _ ht];exact e))
 have my:(((s.heap.update a (W_ λ_=>#[])).push (Xn "tuple" vs.toArray 0)).push (Xn "list" #[] 0)).get? a=some (Xn "list" #[] ep):=Vg _ (Vg _ hc);have big:∀m:Nat,m<=vs.length->m<=U8:=λm hm=>by rw[Wl];lia
 have zz:vs.toArray.size=vs.length:=by simp
 rw[list_sort_plain];refine UU (listItems_at ho rfl ?_);refine UU (listUpdate_at ho rfl ?_ (big _ (Nat.le_of_eq zz)) (Vb _));refine UU (seqEpoch_at hc rfl ?_);refine UU (wpAny_newTuple ?_ (big _ (US _)));refine UU (wpAny_newList ?_ (Vb _));refine Xh ?_;show Vy (model prog w) A _ P E {s with heap:=((s.heap.update a (W_ λ_=>#[])).push (Xn "tuple" vs.toArray 0)).push (Xn "list" #[] 0)}
 dsimp only;have done:∀aA:Vr,(Vv aA).Perm (vs.toArray.zip vs.toArray)->(Vv aA).toList.Pairwise (le λx y=>c x.1 y.1)->P (.done (.ret .none)) {s with heap:=sortedHeap s.heap a vs ((Vv aA).map (·.2))}:=λaA hp hs=>by
  have h1:∀z∈(Vv aA).toList,z.1=z.2:=λz hz=>by
   have:=(Xb.mp hp).mem_iff.mp hz;rw[YQ]at this;obtain⟨i,hi⟩:=List.getElem?_of_mem this;rw[List.getElem?_zip_eq_some]at hi;exact VL (hi.1.symm.trans hi.2)
  have e2:(Vv aA).map (·.2)=((Vv aA).toList.map (·.2)).toArray:=by
   apply Array.toList_inj.mp;rw[Array.toList_map]
  rw[e2];refine h _ ?_ ?_
  ·have:=(Xb.mp hp).map (λz:UX=>z.2);rw[YQ]at this;refine this.trans (Y0 ?_);exact List.map_snd_zip (by simp)
  ·rw[Wj];refine hs.imp_of_mem λ{x y} hx hy hl=>?_;rw[<- h1 x hx,<- h1 y hy];exact hl
 by_cases h2:vs.toArray.size<2
 ·rw[if_pos h2,if_pos h2];refine UU (Vl ?_);rw[StateT.run_pure];refine UU (Vl ?_);dsimp only;refine UU (seqEpoch_at my rfl ?_);refine UU (listUpdate_at my rfl ?_ (Vb _) (by rw[Array.size_map,Ze];exact VB (big _ (by lia)) (Nat.le_succ _)))
  simp only[bne_self_eq_false,Xo,if_false];refine Vl (done (SortSt.mk' general' (vs.toArray.zip vs.toArray) #[] 7 none) (Y4 _) ?_);refine yh ?_;show (vs.toArray.zip vs.toArray).toList.length<2;rw[Vs,Ze];lia
 ·rw[if_neg h2,if_neg h2];obtain⟨hK,L⟩:=T {s with heap:=((s.heap.update a (W_ λ_=>#[])).push (Xn "tuple" vs.toArray 0)).push (Xn "list" #[] 0)} old
  refine UU (hK (by lia) _ ?_)
  have zp:(vs.toArray.zip vs.toArray).size=vs.length:=by rw[Ze];lia
  refine UU (XW (pN (Q:=λ_ aA=>(Vv aA).Perm (vs.toArray.zip vs.toArray)/\Xu aA=none/\SR (λx y=>c x.1 y.1) (Vv aA) 0 vs.length) O L
   (st:=SortSt.mk' κ (vs.toArray.zip vs.toArray) #[] 7 none) ⟨rfl,rfl,Y4 _⟩ rfl (by lia) λaA g1 g2=>⟨g1.perm,g1.fail,by rw[zp]at g2;exact g2⟩) ?_ λ_ _ e=>e)
  rintro⟨⟨⟩,aA⟩ s' ⟨rfl,hp,hf,hs⟩;dsimp only;have zs:(Vv aA).size=vs.length:=hp.size_eq.trans zp;refine UU (seqEpoch_at my rfl ?_);refine UU (listUpdate_at my rfl ?_ (Vb _) (by rw[Array.size_map,zs];exact VB (big _ (US _)) (Nat.le_succ _)))
  rw[hf];simp only[bne_self_eq_false,Xo,if_false];refine Vl (done aA hp ?_);rw[Zg];intro i j hi hj aB;rw[Vs]at hi hj;have:=hs i j (Vb _) (by lia) (by lia)
  have ei:el (Vv aA) i=(Vv aA).toList[i]:=vm (by rw[<- Vo];exact U4 _)
  have ej:el (Vv aA) j=(Vv aA).toList[j]:=vm (by rw[<- Vo];exact U4 _)
  rw[ei,ej]at this;exact this
theorem tG {a:Addr} {vs:List UQ} {n:Nat} {kf:UQ->List Int} {P:PySem.Fin->UT->Prop} (ho:s.heap.get? a=some (Xn "list" vs.toArray n)) (hz:vs.length<=1000000) (T:rX s.heap kf a vs)
  (h:∀out:List UQ,out.Perm vs->out.Pairwise (λx y=>HT.lexLt (kf y) (kf x)=false)->P (.done (.ret .none)) {s with heap:=sortedHeap s.heap a vs out.toArray}) :
  Vy (model prog w) A (YL.«list.sort» ⟨[.ref a],[]⟩) P E s:=by
 refine tH (κ:=tuples' true) (c:=λx y=>HT.lexLt (kf x) (kf y)) ho hz (Cb kf) (λs' kp=>?_) h;have T':rX s'.heap kf a vs:=λv hv=>by
  obtain⟨t,o,xs,k,e1,e2,e3,r⟩:=T v hv;exact⟨t,o,xs,k,e1,e2,kp t o e2 e3,r⟩
 exact⟨λh2 Q q=>wF T' (by lia) q,wz T' λz hz=>by
  rw[YQ]at hz;exact(Yl hz).1⟩
end
end TS
namespace ST
open PySem PyProof.Rows
section
variable {prog:UY}{w:Vc}
abbrev TK (prog:UY)(w:Vc):=Yr (intKind prog w)
abbrev kH (prog:UY)(w:Vc)(k:List Int):Int:=(TK prog w).hash k
abbrev ent (prog:UY)(w:Vc)(x:Addr×List Int):Int×UQ:=(kH prog w x.2,.ref x.1)
structure Po (prog:UY)(w:Vc)(o:Obj)(ts:List (Addr×List Int))(es:Array (Int×UQ))(ep:Nat)(t:SetTable):Prop where
 ex:o.ExactSet
 dat:o.data=.set es ep t
 UJ:es.toList=ts.map (ent prog w)
 wf:WF t (ts.map λx=>kH prog w x.2)
 Ua:t.place.size*5<t.mask*3
 RZ:t.mask<=8191
 led:t.led=!w.params.followText "set-order"
 Ug:t.plain=true
 Uj:(ts.map (·.2)).Nodup
end
end ST
namespace L2
open PySem PySem.Spec PyProof.Rows
inductive D where
 |bC|bl (b:Bool)|int (i:Int)|str (x:Str)|obj (a:Addr)
 |tup (ds:List D)|lst (ds:List D)
 |dT (ks:List (List Key)) (ds:List D)|dK (ks:List Key) (ds:List D)
 |sT (ts:List (List Int))
 |ob (φ:Addr->HO)
def Fi (P:UY)(w:Vc)(a:Addr)(ts:List (Addr×List Int))(h:Heap):Prop:=∃o es ep t,h.get? a=some o/\ST.Po P w o ts es ep t
abbrev LA (P:UY)(w:Vc)(a:Addr)(ts:List (Addr×List Int)):HO:=.ext (Fi P w a ts)
def DB (P:UY)(w:Vc)(H:Hp)(a:Addr)(ts:List (List Int)):Prop :=
 ∃A4:List (Addr×List Int),H a=some (LA P w a A4)/\(∀x∈A4,H x.1=some (.tup (x.2.map V.int)))/\(A4.map (·.2)).Perm ts
section
variable (P:UY)(w:Vc)(W:Addr->Prop)(H:Hp)
mutual
def au:D->V->Prop
 |.bC,v=>v=.bC
 |.bl b,v=>v=.bl b
 |.int i,v=>v=.int i
 |.str x,v=>v=.str x
 |.obj a,v=>v=.ref a
 |.tup ds,v=>∃a vs,v=.ref a/\H a=some (.tup vs)/\af ds vs
 |.lst ds,v=>∃a vs,v=.ref a/\H a=some (.lst vs)/\¬ W a/\af ds vs
 |.dT ks ds,v=>∃a vs,v=.ref a/\H a=some (.dT (ks.zip vs))/\ks.length=vs.length/\¬ W a/\af ds vs
 |.dK ks ds,v=>∃a vs,v=.ref a/\H a=some (.dK (ks.zip vs))/\ks.length=vs.length/\¬ W a/\af ds vs
 |.sT ts,v=>∃a,v=.ref a/\DB P w H a ts/\¬ W a
 |.ob φ,v=>∃a,v=.ref a/\(H a=some (φ a)/\∀xs,φ a≠.tup xs)/\¬ W a
def af:List D->List V->Prop
 |[],vs=>vs=[]
 |d::ds,vs=>∃v r,vs=v::r/\au d v/\af ds r
end
end
mutual
def D.flat:D->Bool
 |.tup ds=>D.c8 ds
 |.lst _=>false
 |.dT _ _=>false
 |.dK _ _=>false
 |.sT _=>false
 |.ob _=>false
 |_=>true
def D.c8:List D->Bool
 |[]=>true
 |d::ds=>D.flat d&&D.c8 ds
end
structure Kp (W:Addr->Prop)(H H':Hp):Prop where
 out:∀b o,H b=some o->¬ W b->H' b=some o
 tup:∀b xs,H b=some (.tup xs)->H' b=some (.tup xs)
theorem Kp.refl {W:Addr->Prop}{H:Hp}:Kp W H H:=⟨λ_ _ e _=>e,λ_ _ e=>e⟩
theorem Kp.trans {W:Addr->Prop}{H H1 H2:Hp}(a:Kp W H H1)(b:Kp W H1 H2):Kp W H H2:=⟨λc o e n=>b.out c o (a.out c o e n) n,λc xs e=>b.tup c xs (a.tup c xs e)⟩
theorem ay.kp {W:Addr->Prop}{H H':Hp}(h:ay H H'):Kp W H H':=⟨λb o e _=>h b o e,λb xs e=>h b _ e⟩
theorem Kp.mono {W W':Addr->Prop}{H H':Hp}(h:Kp W H H')(s:∀a,W a->W' a):Kp W' H H':=⟨λb o e n=>h.out b o e λz=>n (s b z),h.tup⟩
section
variable {P:UY}{w:Vc}{W W':Addr->Prop}{H H':Hp}
mutual
theorem au.keep (k:Kp W H H'):∀{d:D} {v:V},au P w W H d v->au P w W H' d v
 |.bC,_,h=>h
 |.bl _,_,h=>h
 |.int _,_,h=>h
 |.str _,_,h=>h
 |.obj _,_,h=>h
 |.tup ds,_,⟨a,vs,e,t,r⟩=>⟨a,vs,e,k.tup a vs t,af.keep k r⟩
 |.lst ds,_,⟨a,vs,e,t,n,r⟩=>⟨a,vs,e,k.out a _ t n,n,af.keep k r⟩
 |.dT ks ds,_,⟨a,vs,e,t,l,n,r⟩=>⟨a,vs,e,k.out a _ t n,l,n,af.keep k r⟩
 |.dK ks ds,_,⟨a,vs,e,t,l,n,r⟩=>⟨a,vs,e,k.out a _ t n,l,n,af.keep k r⟩
 |.sT ts,_,⟨a,e,⟨A4,t,r,z⟩,n⟩=>⟨a,e,⟨A4,k.out a _ t n,λx hx=>k.tup _ _ (r x hx),z⟩,n⟩
 |.ob φ,_,⟨a,e,⟨t,z⟩,n⟩=>⟨a,e,⟨k.out a _ t n,z⟩,n⟩
theorem af.keep (k:Kp W H H'):∀{ds:List D} {vs:List V},af P w W H ds vs->af P w W H' ds vs
 |[],_,h=>h
 |d::ds,_,⟨v,r,e,h1,h2⟩=>⟨v,r,e,au.keep k h1,af.keep k h2⟩
end
mutual
theorem au.aL (s:∀a,W' a->W a):∀{d:D} {v:V},au P w W H d v->au P w W' H d v
 |.bC,_,h=>h
 |.bl _,_,h=>h
 |.int _,_,h=>h
 |.str _,_,h=>h
 |.obj _,_,h=>h
 |.tup ds,_,⟨a,vs,e,t,r⟩=>⟨a,vs,e,t,af.aL s r⟩
 |.lst ds,_,⟨a,vs,e,t,n,r⟩=>⟨a,vs,e,t,λz=>n (s a z),af.aL s r⟩
 |.dT ks ds,_,⟨a,vs,e,t,l,n,r⟩=>⟨a,vs,e,t,l,λz=>n (s a z),af.aL s r⟩
 |.dK ks ds,_,⟨a,vs,e,t,l,n,r⟩=>⟨a,vs,e,t,l,λz=>n (s a z),af.aL s r⟩
 |.sT ts,_,⟨a,e,t,n⟩=>⟨a,e,t,λz=>n (s a z)⟩
 |.ob φ,_,⟨a,e,t,n⟩=>⟨a,e,t,λz=>n (s a z)⟩
theorem af.aL (s:∀a,W' a->W a):∀{ds:List D} {vs:List V},af P w W H ds vs->af P w W' H ds vs
 |[],_,h=>h
 |d::ds,_,⟨v,r,e,h1,h2⟩=>⟨v,r,e,au.aL s h1,af.aL s h2⟩
end
mutual
theorem au.flat:∀{d:D} {v:V},d.flat=true->au P w W H d v->au P w W' H d v
 |.bC,_,_,h=>h
 |.bl _,_,_,h=>h
 |.int _,_,_,h=>h
 |.str _,_,_,h=>h
 |.obj _,_,_,h=>h
 |.tup ds,_,f,⟨a,vs,e,t,r⟩=>⟨a,vs,e,t,af.flat (by simpa[D.flat] using f) r⟩
 |.lst ds,_,f,_=>by simp[D.flat]at f
 |.dT ks ds,_,f,_=>by simp[D.flat]at f
 |.dK ks ds,_,f,_=>by simp[D.flat]at f
 |.sT ts,_,f,_=>by simp[D.flat]at f
 |.ob φ,_,f,_=>by simp[D.flat]at f
theorem af.flat:∀{ds:List D} {vs:List V},D.c8 ds=true->af P w W H ds vs->af P w W' H ds vs
 |[],_,_,h=>h
 |d::ds,_,f,⟨v,r,e,h1,h2⟩=>by
  have f':(d.flat&&D.c8 ds)=true:=f;rw[V0]at f';exact⟨v,r,e,au.flat f'.1 h1,af.flat f'.2 h2⟩
end
theorem au.same (s:ay H H'){d:D}{v:V}(h:au P w W H d v):au P w W H' d v:=h.keep s.kp
theorem af.same (s:ay H H'){ds:List D}{vs:List V}(h:af P w W H ds vs):af P w W H' ds vs:=h.keep s.kp
theorem af.length:∀{ds:List D} {vs:List V},af P w W H ds vs->vs.length=ds.length
 |[],_,h=>by rw[show _=[] from h];rfl
 |d::ds,_,⟨v,r,e,h1,h2⟩=>by rw[e,Ve,Ve,af.length h2]
theorem af.get:∀{ds:List D} {vs:List V} {i:Nat} {d:D},af P w W H ds vs->ds[i]?=some d->∃v,vs[i]?=some v/\au P w W H d v
 |[],_,_,_,_,e=>by simp at e
 |d::ds,_,0,_,⟨v,r,e,h1,h2⟩,e'=>by simp at e';subst e' e;exact⟨v,by simp,h1⟩
 |d::ds,_,i+1,_,⟨v,r,e,h1,h2⟩,e'=>by
  subst e;obtain⟨u,e1,e2⟩:=af.get (i:=i) h2 (by simpa using e')
  exact⟨u,by simpa using e1,e2⟩
theorem af.append:∀{ds ds':List D} {vs vs':List V},af P w W H ds vs->af P w W H ds' vs'->af P w W H (ds++ds') (vs++vs')
 |[],_,_,_,h,h'=>by rw[show _=[] from h];exact h'
 |d::ds,_,_,_,⟨v,r,e,h1,h2⟩,h'=>by subst e;exact⟨v,_,rfl,h1,af.append h2 h'⟩
theorem af.one {d:D}{v:V}(h:au P w W H d v):af P w W H [d] [v]:=⟨v,[],rfl,h,rfl⟩
theorem af.take:∀{ds:List D} {vs:List V} (n:Nat),af P w W H ds vs->af P w W H (ds.take n) (vs.take n)
 |[],_,n,h=>by rw[show _=[] from h];simp[af]
 |d::ds,_,0,_=>by simp[af]
 |d::ds,_,n+1,⟨v,r,e,h1,h2⟩=>by subst e;exact⟨v,_,rfl,h1,af.take n h2⟩
theorem af.drop:∀{ds:List D} {vs:List V} (n:Nat),af P w W H ds vs->af P w W H (ds.drop n) (vs.drop n)
 |[],_,n,h=>by rw[show _=[] from h];simp[af]
 |d::ds,_,0,h=>h
 |d::ds,_,n+1,⟨v,r,e,h1,h2⟩=>by subst e;exact af.drop n h2
end
open PySem.SeqAt
abbrev Dm (W:Addr->Prop)(H:Hp):Prop:=∀a,W a->H a≠none
abbrev Rp (X:Cx)(W:Addr->Prop)(H:Hp)(d:D)(v:V):Prop:=au X.prog X.w W H d v
abbrev l3 (X:Cx)(W:Addr->Prop)(H:Hp)(ds:List D)(vs:List V):Prop:=af X.prog X.w W H ds vs
def P1 (X:Cx)(f:D->Option D):V->Hp->VK->Prop:=λx H Q=>∃W d1 d,Dm W H/\Rp X W H d1 x/\f d1=some d/\∀v H',ay H H'->Rp X W H' d v->Q v H'
def P0 (X:Cx)(f:D->D->Option D):R2:=λx y H Q=>∃W d1 d2 d,Dm W H/\Rp X W H d1 x/\Rp X W H d2 y/\f d1 d2=some d/\∀v H',ay H H'->Rp X W H' d v->Q v H'
def RA (X:Cx)(f:List D->Option D):List V->Hp->VK->Prop:=λxs H Q=>∃W ds d,Dm W H/\l3 X W H ds xs/\f ds=some d/\∀v H',ay H H'->Rp X W H' d v->Q v H'
abbrev b8 (X:Cx)(f:UQ->UQ->Sem UQ)(g:D->D->Option D):Prop:=iJ X f (P0 X g)
abbrev cx (X:Cx)(f:UQ)(g:List D->Option D):Prop:=fv X f (RA X g)
section
variable {X:Cx}{W:Addr->Prop}{H:Hp}
theorem Cu {p:Addr}(d:Dm W H)(n:H p=none):¬ W p:=λz=>d p z n
theorem Rp.i_ {p:Addr}{vs:List V}{ds:List D}(d:Dm W H)(n:H p=none)(r:l3 X W H ds vs):Rp X W (upd H p (.lst vs)) (.lst ds) (.ref p) :=
 ⟨p,vs,rfl,aj,Cu d n,r.same (ay.new n)⟩
theorem Rp.EY {p:Addr}{vs:List V}{ds:List D}(n:H p=none)(r:l3 X W H ds vs):Rp X W (upd H p (.tup vs)) (.tup ds) (.ref p) :=
 ⟨p,vs,rfl,aj,r.same (ay.new n)⟩
theorem l3.nil:l3 X W H [] []:=rfl
theorem l3.cons {d:D}{ds:List D}{v:V}{vs:List V}(h:Rp X W H d v)(r:l3 X W H ds vs):l3 X W H (d::ds) (v::vs):=⟨v,vs,rfl,h,r⟩
end
def D.Gn:D->Option Int
 |.int i=>some i
 |_=>none
def D.Gm:D->Option (List D)
 |.lst a=>some a
 |_=>none
def D.Gk:D->Option (List D)
 |.tup a=>some a
 |_=>none
def D.Ef:D->Bool
 |.bC=>true
 |_=>false
theorem D.iw {d:D}{i:Int}(h:d.Gn=some i):d=.int i:=by cases d <;> first|(cases h;rfl)|cases h
theorem D.lA {d:D}{i:List D}(h:d.Gm=some i):d=.lst i:=by cases d <;> first|(cases h;rfl)|cases h
theorem D.lz {d:D}{i:List D}(h:d.Gk=some i):d=.tup i:=by cases d <;> first|(cases h;rfl)|cases h
theorem D.qX {d:D}(h:d.Ef=true):d=.bC:=by cases d <;> first|rfl|cases h
theorem D.CI {d:D}:d=.bC↔d.Ef=true:=⟨λe=>by rw[e];rfl,D.qX⟩
def o3 (f:Int->Int->Option D)(a b:D):Option D:=match a.Gn,b.Gn with
 |some i,some j=>f i j
 |_,_=>none
theorem je {f:Int->Int->Option D}{a b d:D}(h:o3 f a b=some d):∃i j,a=.int i/\b=.int j/\f i j=some d:=by
 unfold o3 at h;cases ha:a.Gn with
 |none=>rw[ha]at h;cases h
 |some i =>
  cases hb:b.Gn with
  |none=>rw[ha,hb]at h;cases h
  |some j=>rw[ha,hb]at h;exact⟨i,j,D.iw ha,D.iw hb,h⟩
def F4 (f:D->D->Option D)(g:List D->List D->Option D)(a b:D):Option D:=match a.Gm,b.Gm with
 |some i,some j=>g i j
 |_,_=>f a b
theorem wA {f:D->D->Option D}{g:List D->List D->Option D}{a b d:D}(h:F4 f g a b=some d):(∃i j,a=.lst i/\b=.lst j/\g i j=some d)\/f a b=some d:=by
 unfold F4 at h;cases ha:a.Gm with
 |none=>rw[ha]at h;exact .inr h
 |some i =>
  cases hb:b.Gm with
  |none=>rw[ha,hb]at h;exact .inr h
  |some j=>rw[ha,hb]at h;exact .inl ⟨i,j,D.lA ha,D.lA hb,h⟩
def xa:D->D->Option D:=F4 (o3 λi j=>some (.int (i+j))) λa b=>if a.length+b.length<=U8 then some (.lst (a++b)) else none
def Pd:D->D->Option D:=o3 λi j=>some (.int (i-j))
instance (i j:Int):Decidable (jr i j):=by unfold jr;infer_instance
instance (i j:Int):Decidable (DE i j):=by unfold DE;infer_instance
def Hh:D->D->Option D:=o3 λi j=>if jr i j then some (.int (i*j)) else none
def Ln:D->D->Option D:=o3 λi j=>if 0<j then some (.int (i % j)) else none
def Pf:D->Option D
 |.int i=>some (.int (-i))
 |_=>none
section
variable {X:Cx}
theorem fb {c:Prop}[Decidable c]{α:Type}{a b:α}(h:(if c then some a else none)=some b):c/\b=a:=by
 by_cases hc:c
 ·rw[if_pos hc]at h;cases h;exact⟨hc,rfl⟩
 ·rw[if_neg hc]at h;cases h
theorem DT {f:UQ->UQ->Sem UQ}{C:Int->Int->Prop}{g:Int->Int->V}{h:Int->Int->D}{F:Int->Int->Option D}(ho:iJ X f (rI C g))(hF:∀i j d,F i j=some d->C i j/\d=h i j)
  (hg:∀(W:Addr->Prop) (H:Hp) i j,Rp X W H (h i j) (g i j)):b8 X f (o3 F):=by
 intro pins s σ H x y v u Q I rx ry hh;obtain⟨W,d1,d2,d,hd,r1,r2,e,q⟩:=hh;obtain⟨i,j,rfl,rfl,e⟩:=je e;obtain⟨c,rfl⟩:=hF _ _ _ e;cases r1;cases r2;exact ho pins s σ H _ _ v u Q I rx ry ⟨i,j,rfl,rfl,c,q _ _ (ay.refl _) (hg W H i j)⟩
theorem y_ {f:UQ->UQ->Sem UQ}{g:Int->Int->V}{h:Int->Int->D}(ho:iJ X f (BN g))
  (hg:∀(W:Addr->Prop) (H:Hp) i j,Rp X W H (h i j) (g i j)):b8 X f (o3 λi j=>some (h i j)):=by
 intro pins s σ H x y v u Q I rx ry hh;obtain⟨W,d1,d2,d,hd,r1,r2,e,q⟩:=hh;obtain⟨i,j,rfl,rfl,e⟩:=je e;cases e;cases r1;cases r2;exact ho pins s σ H _ _ v u Q I rx ry ⟨i,j,rfl,rfl,q _ _ (ay.refl _) (hg W H i j)⟩
theorem bU:b8 X (WR .Sub) Pd:=y_ (h:=λi j=>.int (i-j)) yZ λ_ _ _ _=>rfl
theorem oN:b8 X (WR .Mult) Hh:=DT (h:=λi j=>.int (i*j)) gL (λ_ _ _ e=>fb e) λ_ _ _ _=>rfl
theorem Cc:b8 X (WR .Mod) Ln:=DT (h:=λi j=>.int (i % j)) fJ (λ_ _ _ e=>fb e) λ_ _ _ _=>rfl
theorem dQ:Lz X (unaryOp .USub) (P1 X Pf):=by
 intro pins s σ H x v Q I rx h;obtain⟨W,d1,d,hd,r1,e,q⟩:=h;cases d1 with
 |int i=>cases e;cases r1;exact xO pins s σ H _ v Q I rx ⟨i,rfl,q _ _ (ay.refl _) rfl⟩
 |_=>cases e
end
def Ar (p:Int->Int->Bool):D->D->Option D:=o3 λi j=>some (.bl (p i j))
abbrev Mf:D->D->Option D:=Ar λi j=>decide (i<j)
abbrev Tw:D->D->Option D:=Ar λi j=>decide (j<i)
section
variable {X:Cx}
theorem oP {p:Int->Int->Bool}{f:UQ->UQ->Sem UQ}(ho:iJ X f (BN λi j=>.bl (p i j))):b8 X f (Ar p):=y_ (h:=λi j=>.bl (p i j)) ho λ_ _ _ _=>rfl
theorem cY:b8 X (VY .Lt) Mf:=oP DS
theorem FO:b8 X (VY .Gt) Tw:=oP y6
end
mutual
def D.pd:D->PyData
 |.bC=>.none
 |.bl b=>.bool b
 |.int i=>.int i
 |.str x=>.str x
 |.tup ds=>.tuple (D.fx ds)
 |.lst ds=>.list (D.fx ds)
 |_=>.dict []
def D.fx:List D->List PyData
 |[]=>[]
 |d::ds=>d.pd::D.fx ds
end
abbrev D.sS (d:D):Bool:=shaped d.pd
mutual
theorem cE {X:Cx}{pins:List (Addr×Obj)}{σ:St}{H:Hp}{s:UT}(I:Inv X pins σ H s){W:Addr->Prop}:∀{d:D} {v:V} {u:UQ},Rp X W H d v->RelV v u->d.pd.canLay0=true->∃as,Reads s.heap u d.pd as
 |.bC,_,_,h,r,_=>by cases h;cases r;exact⟨_,.none⟩
 |.bl b,_,_,h,r,_=>by cases h;cases r;exact⟨_,.bool b⟩
 |.int i,_,_,h,r,_=>by cases h;obtain⟨t,rfl⟩:=r;exact⟨_,.int i t⟩
 |.str x,_,_,h,r,_=>by cases h;obtain⟨t,rfl⟩:=r;exact⟨_,.str x t⟩
 |.tup ds,_,_,h,r,c=>by
  obtain⟨a,vs,rfl,e,q⟩:=h;cases r;obtain⟨its,rv,⟨o,ho,hc,n,hd⟩,hz⟩:=I.tuple (rZ.of e);obtain⟨as,ha⟩:=fI I q rv (by simpa[D.pd,V9] using c)
  exact⟨_,.tuple ho hc hd (by simpa using ha)⟩
 |.lst ds,_,_,h,r,c=>by
  obtain⟨a,vs,rfl,e,_,q⟩:=h;cases r;obtain⟨z,its,n,rv,e'⟩:=I.bA a _ e;obtain⟨as,ha⟩:=fI I q rv (by simpa[D.pd,V9] using c)
  exact⟨_,.list e' rfl rfl (by simpa using ha)⟩
 |.obj _,_,_,_,_,c=>by simp[D.pd,V9]at c
 |.dT _ _,_,_,_,_,c=>by simp[D.pd,V9]at c
 |.dK _ _,_,_,_,_,c=>by simp[D.pd,V9]at c
 |.sT _,_,_,_,_,c=>by simp[D.pd,V9]at c
 |.ob _,_,_,_,_,c=>by simp[D.pd,V9]at c
theorem fI {X:Cx}{pins:List (Addr×Obj)}{σ:St}{H:Hp}{s:UT}(I:Inv X pins σ H s){W:Addr->Prop}:∀{ds:List D} {vs:List V} {us:List UQ},l3 X W H ds vs->Vals vs us->W4 (D.fx ds)=true->∃as,ReadsAll s.heap us (D.fx ds) as
 |[],_,_,h,r,_=>by
  rw[show _=[] from h]at r
  cases r;exact⟨_,.nil⟩
 |d::ds,_,_,⟨v,vr,e,h1,h2⟩,r,c=>by
  subst e;have c':(d.pd.canLay0&&W4 (D.fx ds))=true:=c;rw[V0]at c';cases r with
  |cons r1 r2 =>
   obtain⟨as,ha⟩:=cE I h1 r1 c'.1;obtain⟨bs,hb⟩:=fI I h2 r2 c'.2;exact⟨_,.cons ha hb⟩
end
def HZ (a b:D):Option D:=if a.sS=true/\b.sS=true then some (.bl (VS a.pd b.pd)) else none
def Hg (a b:D):Option D:=if a.sS=true/\b.sS=true then some (.bl (!VS a.pd b.pd)) else none
section
variable {X:Cx}
theorem dy (hu:X.A.units+64<XX):b8 X (VY .Eq) HZ:=by
 intro pins s σ H x y v u Q I rx ry h;obtain⟨W,d1,d2,d,hd,r1,r2,e,q⟩:=h;obtain⟨⟨s1,s2⟩,rfl⟩:=fb e;obtain⟨as,ra⟩:=cE I r1 rx (V_ s1);obtain⟨bs,rb⟩:=cE I r2 ry (V_ s2);exact compareEq_shaped ra rb s1 s2 hu ⟨.bl _,H,I,rfl,q _ _ (ay.refl _) rfl⟩
theorem i7 (hu:X.A.units+64<XX):b8 X (VY .NotEq) Hg:=by
 intro pins s σ H x y v u Q I rx ry h;obtain⟨W,d1,d2,d,hd,r1,r2,e,q⟩:=h;obtain⟨⟨s1,s2⟩,rfl⟩:=fb e;obtain⟨as,ra⟩:=cE I r1 rx (V_ s1);obtain⟨bs,rb⟩:=cE I r2 ry (V_ s2);exact compareNe_shaped ra rb s1 s2 hu ⟨.bl _,H,I,rfl,q _ _ (ay.refl _) rfl⟩
def Pg (a b:D):Option D:=match b.Ef with
 |true=>some (.bl a.Ef)
 |false=>none
theorem Rp.Cs {W:Addr->Prop}{H:Hp}{d:D}{v:V}(h:Rp X W H d v):v=.bC↔d=.bC:=by
 cases d with
 |bC=>cases h;simp
 |bl b=>cases h;simp
 |int i=>cases h;simp
 |str x=>cases h;simp
 |obj a=>cases h;simp
 |tup ds=>obtain⟨a,vs,rfl,_⟩:=h;simp
 |lst ds=>obtain⟨a,vs,rfl,_⟩:=h;simp
 |dT ks ds=>obtain⟨a,vs,rfl,_⟩:=h;simp
 |dK ks ds=>obtain⟨a,vs,rfl,_⟩:=h;simp
 |sT ts=>obtain⟨a,rfl,_⟩:=h;simp
 |ob φ=>obtain⟨a,rfl,_⟩:=h;simp
theorem zG {b d e:D}(h:(match b.Ef with|true=>some d|false=>none)=some e):b=.bC/\e=d:=by
 cases q:b.Ef with
 |true=>rw[q]at h;cases h;exact⟨D.qX q,rfl⟩
 |false=>rw[q]at h;cases h
theorem Rp.Ct {W:Addr->Prop}{H:Hp}{d:D}{v:V}(h:Rp X W H d v):decide (v=.bC)=d.Ef:=by
 have q:=h.Cs.trans D.CI;cases e:d.Ef with
 |true=>exact decide_eq_true (q.mpr e)
 |false=>exact decide_eq_false λz=>by rw[q.mp z]at e;cases e
theorem oO:b8 X (VY .Is) Pg:=by
 intro pins s σ H x y v u Q I rx ry h;obtain⟨W,d1,d2,d,hd,r1,r2,e,q⟩:=h;obtain⟨rfl,rfl⟩:=zG e;cases r2;exact FN pins s σ H _ _ v u Q I rx ry ⟨rfl,q _ _ (ay.refl _) (congrArg V.bl r1.Ct)⟩
end
noncomputable def Lq:D->D->Option Bool
 |a,.lst ds=>if a.sS=true/\(D.lst ds).sS=true then some ((D.fx ds).any λy=>VS y a.pd) else none
 |a,.tup ds=>if a.sS=true/\(D.tup ds).sS=true then some ((D.fx ds).any λy=>VS y a.pd) else none
 |_,_=>none
def Pj (a b:D):Option D:=(Lq a b).map .bl
theorem uA {ds:List D}{n:PyData}(hn:n=.list (D.fx ds)\/n=.tuple (D.fx ds))(h:shaped n=true):W4 (D.fx ds)=true/\Wm (D.fx ds)<=64:=by
 have h1:=V_ h;have h2:=depth_of_shaped h;rcases hn with rfl|rfl
 ·refine⟨by simpa[V9] using h1,?_⟩
  have:Xc (.list (D.fx ds))=Wm (D.fx ds)+1:=by simp[Xc]
  lia
 ·refine⟨by simpa[V9] using h1,?_⟩
  have:Xc (.tuple (D.fx ds))=Wm (D.fx ds)+1:=by simp[Xc]
  lia
section
variable {X:Cx}
theorem y8 (hu:X.A.units+64+1<XX):b8 X (VY .In) Pj:=by
 intro pins s σ H x y v u Q I rx ry h;obtain⟨W,d1,d2,d,hd,r1,r2,e,q⟩:=h;cases d2 with
 |lst ds =>
  obtain⟨b,e1,rfl⟩:=Vp.mp e;obtain⟨⟨s1,s2⟩,rfl⟩:=fb e1;obtain⟨as,ra⟩:=cE I r1 rx (V_ s1);obtain⟨bs,rb⟩:=cE I r2 ry (V_ s2);obtain⟨c1,c2⟩:=uA (.inl rfl) s2;exact in_list_reads rb ra c1 (V_ s1) (by have:=YW (Wm (D.fx ds)) d1.pd.depth;lia) ⟨.bl _,H,I,rfl,q _ _ (ay.refl _) rfl⟩
 |tup ds =>
  obtain⟨b,e1,rfl⟩:=Vp.mp e;obtain⟨⟨s1,s2⟩,rfl⟩:=fb e1;obtain⟨as,ra⟩:=cE I r1 rx (V_ s1);obtain⟨bs,rb⟩:=cE I r2 ry (V_ s2);obtain⟨c1,c2⟩:=uA (.inr rfl) s2;exact in_tuple_reads rb ra c1 (V_ s1) (by have:=YW (Wm (D.fx ds)) d1.pd.depth;lia) ⟨.bl _,H,I,rfl,q _ _ (ay.refl _) rfl⟩
 |_=>cases e
def jL (a b:D):Option D:=match b.Gn with
 |some i=>match a.Gm with
  |some ds=>gU ds i
  |none=>match a.Gk with
   |some ds=>gU ds i
   |none=>none
 |none=>none
theorem Ao {a b d:D}(h:jL a b=some d):∃ds i,(a=.lst ds\/a=.tup ds)/\b=.int i/\gU ds i=some d:=by
 unfold jL at h;cases hb:b.Gn with
 |none=>rw[hb]at h;cases h
 |some i =>
  rw[hb]at h;cases ha:a.Gm with
  |some ds=>rw[ha]at h;exact⟨ds,i,.inl (D.lA ha),D.iw hb,h⟩
  |none =>
   rw[ha]at h;cases ht:a.Gk with
   |some ds=>rw[ht]at h;exact⟨ds,i,.inr (D.lz ht),D.iw hb,h⟩
   |none=>rw[ht]at h;cases h
theorem l3.gU {W:Addr->Prop}{H:Hp}{ds:List D}{vs:List V}{i:Int}{d:D}(h:l3 X W H ds vs)(e:L2.gU ds i=some d):∃v,L2.gU vs i=some v/\Rp X W H d v:=by
 unfold L2.gU at *
 rw[h.length];cases q:mw ds.length i with
 |none=>rw[q]at e;cases e
 |some j =>
  rw[q]at e;exact af.get h e
theorem Gj:Bf X (P0 X jL):=by
 intro value slice pins s σ H x y v u Q I rx ry h hs;obtain⟨W,d1,d2,d,hd,r1,r2,e,q⟩:=h;obtain⟨ds,i,h,rfl,e⟩:=Ao e;cases r2;rcases h with rfl|rfl
 ·obtain⟨p,vs,rfl,h1,n1,q1⟩:=r1;obtain⟨z,hz,rz⟩:=l3.gU (X:=X) q1 e;exact bw value slice pins s σ H _ _ v u Q I rx ry ⟨p,vs,i,z,rfl,rfl,b3.of h1,hz,q _ _ (ay.refl _) rz⟩ hs
 ·obtain⟨p,vs,rfl,h1,q1⟩:=r1;obtain⟨z,hz,rz⟩:=l3.gU (X:=X) q1 e;exact oW value slice pins s σ H _ _ v u Q I rx ry ⟨p,vs,i,z,rfl,rfl,rZ.of h1,hz,q _ _ (ay.refl _) rz⟩ hs
def cutD (xs:List D)(lo hi:Option Int):List D:=(xs.drop (HT.jW xs.length 0 lo)).take (HT.jW xs.length xs.length hi-HT.jW xs.length 0 lo)
def Pe:D->Option Int->Option Int->Option D
 |.lst ds,lo,hi=>some (.lst (cutD ds lo hi))
 |_,_,_=>none
def Lp:List D->Option D
 |[.lst ds]=>some (.int ds.length)
 |[.tup ds]=>some (.int ds.length)
 |_=>none
theorem gi:cx X (.builtin "len") Lp:=by
 intro pins s σ H xs us Q I r h;obtain⟨W,ds,d,hd,r1,e,q⟩:=h
 match ds,e with
 |[.lst es],e =>
  cases e;obtain⟨v,r',rfl,⟨p,vs,rfl,h1,n1,q1⟩,hr⟩:=r1;cases hr;refine bY pins s σ H _ us Q I r ⟨p,vs,rfl,.inl (b3.of h1),?_⟩;rw[q1.length];exact q _ _ (ay.refl _) rfl
 |[.tup es],e =>
  cases e;obtain⟨v,r',rfl,⟨p,vs,rfl,h1,q1⟩,hr⟩:=r1;cases hr;refine bY pins s σ H _ us Q I r ⟨p,vs,rfl,.inr (rZ.of h1),?_⟩;rw[q1.length];exact q _ _ (ay.refl _) rfl
def dList:List D->Option D
 |[.lst ds]=>some (.lst ds)
 |[.tup ds]=>some (.lst ds)
 |_=>none
def Lo:List D->Option D
 |[.int i,.int j]=>some (.int (if j>i then j else i))
 |_=>none
def rK:List D->Option D
 |[.int i,.int j]=>some (.int (if j<i then j else i))
 |_=>none
theorem vy {W:Addr->Prop}{H:Hp}{a b:D}{xs:List V}(h:l3 X W H [a,b] xs):∃x y,xs=[x,y]/\Rp X W H a x/\Rp X W H b y:=by
 obtain⟨x,r,rfl,hx,y,r',rfl,hy,hr⟩:=h;cases hr;exact⟨x,y,rfl,hx,hy⟩
theorem lZ {W:Addr->Prop}{H:Hp}{a:D}{xs:List V}(h:l3 X W H [a] xs):∃x,xs=[x]/\Rp X W H a x:=by
 obtain⟨x,r,rfl,hx,hr⟩:=h;cases hr;exact⟨x,rfl,hx⟩
theorem t8 (hc:X.calm=true):cx X (.builtin "max") Lo:=by
 intro pins s σ H xs us Q I r h;obtain⟨W,ds,d,hd,r1,e,q⟩:=h
 match ds,e with
 |[.int i,.int j],e =>
  cases e;obtain⟨x,y,rfl,hx,hy⟩:=vy r1;cases hx;cases hy;exact nG hc pins s σ H _ us Q I r ⟨i,j,rfl,q _ _ (ay.refl _) rfl⟩
theorem gT (hc:X.calm=true):cx X (.builtin "min") rK:=by
 intro pins s σ H xs us Q I r h;obtain⟨W,ds,d,hd,r1,e,q⟩:=h
 match ds,e with
 |[.int i,.int j],e =>
  cases e;obtain⟨x,y,rfl,hx,hy⟩:=vy r1;cases hx;cases hy;exact xh hc pins s σ H _ us Q I r ⟨i,j,rfl,q _ _ (ay.refl _) rfl⟩
def Ph:List D->Option D
 |[.int i]=>some (.int i)
 |[.bl k]=>some (.int (if k then 1 else 0))
 |_=>none
theorem xk:cx X (.type "int") Ph:=by
 intro pins s σ H xs us Q I r h;obtain⟨W,ds,d,hd,r1,e,q⟩:=h
 match ds,e with
 |[.int i],e =>
  cases e;obtain⟨x,rfl,hx⟩:=lZ r1;cases hx;exact nH pins s σ H _ us Q I r (.inl ⟨i,rfl,q _ _ (ay.refl _) rfl⟩)
 |[.bl k],e =>
  cases e;obtain⟨x,rfl,hx⟩:=lZ r1;cases hx;exact nH pins s σ H _ us Q I r (.inr ⟨k,rfl,q _ _ (ay.refl _) rfl⟩)
end
abbrev H_:=List (Option D)
abbrev Ia:=H_->(D->Prop)->Prop
def Px (P:UY)(w:Vc)(W:Addr->Prop)(H:Hp)(σ:St)(ρ:H_):Prop:=∀(i:Nat) (d:D),ρ[i]?=some (some d)->∃v,σ[i]?=some (some v)/\au P w W H d v
theorem PE.pre {X:Cx}{e:Expr}{t t':TE}(h:PE X e t)(k:∀σ H Q,t' σ H Q->t σ H Q):PE X e t':=λpins s σ H Q I q=>h pins s σ H Q I (k σ H Q q)
theorem PT.pre {X:Cx}{e:Expr}{t t':TT}(h:PT X e t)(k:∀σ H Q,t' σ H Q->t σ H Q):PT X e t':=λpins s σ H Q I q=>h pins s σ H Q I (k σ H Q q)
theorem PA.pre {X:Cx}{es:List Expr}{t t':TA}(h:PA X es t)(k:∀σ H Q,t' σ H Q->t σ H Q):PA X es t':=λpos pins s σ H Q I q=>h pos pins s σ H Q I (k σ H Q q)
structure QS (P:UY)(w:Vc)(W:Addr->Prop)(σ:St)(H:Hp)(ρ:H_):Prop where
 dm:Dm W H
 env:Px P w W H σ ρ
abbrev SE (X:Cx):(Addr->Prop)->St->Hp->H_->Prop:=QS X.prog X.w
def tD (X:Cx)(φ:Ia):TE:=λσ H Q=>∃W ρ,SE X W σ H ρ/\φ ρ λd=>∀v H',ay H H'->Rp X W H' d v->Q v H'
structure PV (X:Cx)(e:Expr)(φ:Ia):Prop where
 mono:∀ρ R R',(∀d,R d->R' d)->φ ρ R->φ ρ R'
 pe:PE X e (tD X φ)
section
variable {X:Cx}{e:Expr}{φ:Ia}{pos:Pos}{W:Addr->Prop}{σ:St}{H:Hp}{ρ:H_}
theorem tD.of (h:PV X e φ)(se:SE X W σ H ρ){R:D->Prop}{Q:VK}(hr:φ ρ R)(k:∀d v H',R d->ay H H'->Rp X W H' d v->Q v H'):tD X φ σ H Q :=
 ⟨W,ρ,se,h.mono ρ _ _ (λd hd v H' s r=>k d v H' hd s r) hr⟩
def O4 (i:Nat):Ia:=λρ R=>∃d,ρ[i]?=some (some d)/\R d
theorem iY {i:Nat}{x:Str}(hN:X.N[i]?=some x:=by rfl)(hv:j9 X.env.scope x:=by first|exact .inl rfl|exact .inr (.inl rfl)|exact .inr (.inr rfl))(hd:(x==("__debug__" : Str))=false:=by decide)(c7:(x==("__classdict__" : Str))=false:=by decide):
  PV X (.Name x pos) (O4 i):=⟨λρ R R' k NZ=> by obtain⟨d,e,h⟩ := NZ;exact⟨d,e,k d h⟩,(bp hN hv hd c7).pre λσ H Q NX=> by
 obtain⟨W,ρ,se,d,e,q⟩ := NX;obtain⟨v,h1,h2⟩:=se.env i d e;exact⟨v,h1,q v H (ay.refl _) h2⟩⟩
theorem PW.pre {t t':TT}(h:PW X e t)(k:∀σ H Q,t' σ H Q->t σ H Q):PW X e t':=λw pins s σ H Q I q=>h w pins s σ H Q I (k σ H Q q)
end
abbrev FD:=List D->(D->Prop)->Prop
def dO (F:FD):Prop:=∀ds R R',(∀d,R d->R' d)->F ds R->F ds R'
section
end
section
variable {X:Cx}{e:Expr}{pos:Pos}{σ:St}{H:Hp}
theorem EI.pre {ops:List XS}{rs:List Expr}{t t':V->TE}(h:EI X ops rs t)(k:∀x σ H Q,t' x σ H Q->t x σ H Q):EI X ops rs t':=λpos pins s σ H x v Q I r q=>h pos pins s σ H x v Q I r (k x σ H Q q)
theorem ud.pre {ops:List XS}{rs:List Expr}{t t':V->TT}(h:ud X ops rs t)(k:∀x σ H Q,t' x σ H Q->t x σ H Q):ud X ops rs t':=λpos pins s σ H x v Q I r q=>h pos pins s σ H x v Q I r (k x σ H Q q)
theorem PO.pre {e:Option Expr}{t t':TO}(h:PO X e t)(k:∀σ H Q,t' σ H Q->t σ H Q):PO X e t':=λpins s σ H Q I q=>h pins s σ H Q I (k σ H Q q)
end
abbrev NF:D->Prop:=λd=>d.flat=true
section
abbrev NL:D->Prop:=λd=>match d with | .lst ds=>D.c8 ds=true|d=>d.flat=true
end
section
variable {P:UY}{w:Vc}{W W':Addr->Prop}{H:Hp}
mutual
theorem au.grow (s:∀a,W' a->W a\/H a=none):∀{d:D} {v:V},au P w W H d v->au P w W' H d v
 |.bC,_,h=>h
 |.bl _,_,h=>h
 |.int _,_,h=>h
 |.str _,_,h=>h
 |.obj _,_,h=>h
 |.tup ds,_,⟨a,vs,e,t,r⟩=>⟨a,vs,e,t,af.grow s r⟩
 |.lst ds,_,⟨a,vs,e,t,n,r⟩=>⟨a,vs,e,t,λz=>(s a z).elim n λq=>(by rw[t]at q;cases q),af.grow s r⟩
 |.dT ks ds,_,⟨a,vs,e,t,l,n,r⟩=>⟨a,vs,e,t,l,λz=>(s a z).elim n λq=>(by rw[t]at q;cases q),af.grow s r⟩
 |.dK ks ds,_,⟨a,vs,e,t,l,n,r⟩=>⟨a,vs,e,t,l,λz=>(s a z).elim n λq=>(by rw[t]at q;cases q),af.grow s r⟩
 |.sT ts,_,⟨a,e,⟨A4,t,r,z⟩,n⟩=>⟨a,e,⟨A4,t,r,z⟩,λz=>(s a z).elim n λq=>(by rw[t]at q;cases q)⟩
 |.ob φ,_,⟨a,e,⟨t,z⟩,n⟩=>⟨a,e,⟨t,z⟩,λz=>(s a z).elim n λq=>(by rw[t]at q;cases q)⟩
theorem af.grow (s:∀a,W' a->W a\/H a=none):∀{ds:List D} {vs:List V},af P w W H ds vs->af P w W' H ds vs
 |[],_,h=>h
 |d::ds,_,⟨v,r,e,h1,h2⟩=>⟨v,r,e,au.grow s h1,af.grow s h2⟩
end
end
def TM (X:Cx)(W:Addr->Prop)(J:It)(ds:List D)(H0:Hp):Prop:=∀(i:Nat) (H:Hp),Kp W H0 H ->
 (∀d,ds[i]?=some d->J.go i H/\∀x H1,J.Ic i H x H1->ay H H1/\Rp X W H1 d x)/\(ds.length<=i->J.stop i H)
def xC (X:Cx)(W:Addr->Prop)(J:It)(ds:List D)(H0:Hp):Prop:=∀W':Addr->Prop,(∀b,W' b->W b\/H0 b=none)->TM X W' J ds H0
section
variable {X:Cx}{tg e:Expr}
theorem PI.pre {iter:Expr}{t t':TI}(h:PI X tg iter t)(k:∀σ H R,t' σ H R->t σ H R):PI X tg iter t':=λpins s σ H R I q=>h pins s σ H R I (k σ H R q)
theorem qW {W:Addr->Prop}{H:Hp}{p:Addr}{vs:List V}{ds:List D}(h1:H p=some (.lst vs))(n1:¬ W p)(q1:l3 X W H ds vs):xC X W (Mp X.K p) ds H:=λW' hW i H' k=>by
 have h2:=k.out p _ h1 λz=>(hW p z).elim n1 λq=>by rw[h1]at q;cases q
 replace q1:=af.grow hW q1;constructor
 ·intro d hd;obtain⟨v,hv,rv⟩:=af.get q1 hd;refine⟨⟨vs,v,b3.of h2,hv⟩,λx H1 y=>?_⟩;obtain⟨rfl,y⟩:=y;have e:=y vs (b3.of h2);rw[hv]at e;cases e;exact⟨ay.refl _,rv.keep k⟩
 ·intro hl;exact⟨vs,b3.of h2,by rw[q1.length];exact hl⟩
def mv (lo:Int)(n:Nat):List D:=(Vx n).map λ(k:Nat)=>D.int (lo+(k:Int))
theorem jb {W:Addr->Prop}{H:Hp}{lo:Int}{n:Nat}:xC X W (LH lo n) (mv lo n) H:=λ_ _ i H' k=>by
 constructor
 ·intro d hd;unfold mv at hd;rw[Vd]at hd;have hi:i<n:=by
   by_cases h:i<n
   ·exact h
   ·rw[VD (by simpa using h)]at hd;cases hd
  rw[Wx hi]at hd;cases hd;refine⟨hi,λx H1 y=>?_⟩;obtain⟨rfl,rfl⟩:=y;exact⟨ay.refl _,rfl⟩
 ·intro hl;unfold mv at hl;rw[UR,VA]at hl;exact hl
end
section
variable {X:Cx}{tg:Expr}{vI:List Expr}
theorem PG.pre {t t':TG}(h:PG X tg t)(k:∀v σ H Q,t' v σ H Q->t v σ H Q):PG X tg t':=λpins s σ H v u Q I r q=>h pins s σ H v u Q I r (k v σ H Q q)
theorem EG.pre {t t':ED}(h:EG X vI t)(k:∀v σ H Q,t' v σ H Q->t v σ H Q):EG X vI t':=λpins s σ H v u Q I r q=>h pins s σ H v u Q I r (k v σ H Q q)
end
theorem e_ {H:Hp}{a:Addr}{o o':HO}(h:H a=some o)(ht:∀xs,o≠.tup xs):Kp (·=a) H (upd H a o') :=
 ⟨λb u e n=>by rw[ak n];exact e,λb xs e=>by rw[ak (DX e h (λz=>ht xs z.symm))];exact e⟩
section
end
section
end
section
end
section
variable {σ:St}{β:a7}{own:Nat->List Addr}
def aC (own:Nat->List Addr)(i:Nat)(as:List Addr):Nat->List Addr:=λj=>if j=i then as else own j
theorem a3 {own:Nat->List Addr}{i j:Nat}{a:Addr}(h:a∈aC own i [] j):a∈own j/\j≠i:=by
 unfold aC at h
 by_cases e:j=i
 ·rw[if_pos e]at h;cases h
 ·rw[if_neg e]at h;exact⟨h,e⟩
theorem aW {α:Type}{β:List α}{i j:Nat}{x:α}(h:i≠j):(β.set i x)[j]?=β[j]?:=by rw[WJ,if_neg h]
theorem a5 {α:Type}{β:List α}{i:Nat}{x y:α}(h:(β.set i x)[i]?=some y):y=x/\i<β.length:=by
 rw[WJ,if_pos rfl]at h
 by_cases hi:i<β.length
 ·rw[if_pos hi]at h;cases h;exact⟨rfl,hi⟩
 ·rw[if_neg hi]at h;cases h
theorem get_set {α:Type}{σ:List α}{i:Nat}{x:α}(h:i<σ.length):(σ.set i x)[i]?=some x:=by rw[WJ,if_pos rfl,if_pos h]
end
structure Sn (Z:Hp×(Addr->Prop))(H:Hp)(W:Addr->Prop):Prop where
 w:∀b,W b->Z.2 b\/Z.1 b=none
 k:Kp (λb=>Z.2 b\/Z.1 b=none) Z.1 H
 d:∀b,Z.1 b≠none->H b≠none
theorem Sn.refl {H:Hp}{W:Addr->Prop}:Sn (H,W) H W:=⟨λ_ z=>.inl z,Kp.refl,λ_ z=>z⟩
theorem Sn.same {Z:Hp×(Addr->Prop)}{H H':Hp}{W:Addr->Prop}(n:Sn Z H W)(s:ay H H'):Sn Z H' W:=⟨n.w,n.k.trans s.kp,λb z e=>n.d b z (s.free e)⟩
theorem Sn.free {Z:Hp×(Addr->Prop)}{H:Hp}{W:Addr->Prop}(n:Sn Z H W){a:Addr}(h:H a=none):Z.1 a=none:=by
 cases q:Z.1 a with
 |none=>rfl
 |some o=>exact absurd h (n.d a (by rw[q];intro z;cases z))
theorem Sn.upd {Z:Hp×(Addr->Prop)}{H:Hp}{W:Addr->Prop}(n:Sn Z H W){a:Addr}{o o':HO}(h:H a=some o)(ht:∀xs,o≠.tup xs)(wa:W a):Sn Z (L2.upd H a o') W :=
 ⟨n.w,n.k.trans ((e_ h ht).mono λb z=>by rw[z];exact n.w a wa),λb z e=>by
  by_cases hb:b=a
  ·subst hb;rw[aj]at e;cases e
  ·rw[ak hb]at e;exact n.d b z e⟩
theorem Sn.trans {Z:Hp×(Addr->Prop)}{H1 H:Hp}{W1 W:Addr->Prop}(n1:Sn Z H1 W1)(n:Sn (H1,W1) H W):Sn Z H W:=by
 have big:∀b,W1 b\/H1 b=none->Z.2 b\/Z.1 b=none:=λb z=>z.elim (n1.w b) λq=>.inr (n1.free q);exact⟨λb z=>big b (n.w b z),n1.k.trans (n.k.mono big),λb z=>n.d b (n1.d b z)⟩
section
variable {X:Cx}{st:Stmt}{rest:List Stmt}{σ:St}{H:Hp}
theorem PS.pre {t t':TS}(h:PS X st t)(k:∀D σ H,t' D σ H->t D σ H):PS X st t':=λpins s σ H D I q=>h pins s σ H D I (k D σ H q)
theorem r9.pre {t t':TS}(h:r9 X rest t)(k:∀D σ H,t' D σ H->t D σ H):r9 X rest t':=λpins s σ H D I q=>h pins s σ H D I (k D σ H q)
end
section
variable {b:Expr}{H:Hp}
theorem held {P:UY}{w:Vc}{W W2:Addr->Prop}{H2:Hp}{d:D}{v:V}(r:au P w W H d v)(n:Sn (H,W) H2 W2):au P w W2 H2 d v :=
 au.aL n.w (au.keep n.k (au.grow (λb z=>z) r))
end
theorem Sn.kp {Z:Hp×(Addr->Prop)}{H H':Hp}{W:Addr->Prop}(n:Sn Z H W)(k:Kp W H H')(dn:∀c,H c≠none->H' c≠none):Sn Z H' W:=⟨n.w,n.k.trans (k.mono n.w),λb z=>dn b (n.d b z)⟩
section
end
section
end
end L2
namespace HC
open PySem PySem.Spec PyProof.Rows
def c6:List Int->List Int->Bool
 |[],_=>false
 |_::_,[]=>true
 |x::xs,y::ys=>if x=y then c6 xs ys else decide (y<x)
theorem qT (x y:Int)(xs ys:List Int):c6 (x::xs) (y::ys)=if x=y then c6 xs ys else decide (y<x):=rfl
theorem zm:c6 [] []=false:=rfl
theorem zq (y:Int)(ys:List Int):c6 [] (y::ys)=false:=rfl
theorem zr (x:Int)(xs:List Int):c6 (x::xs) []=true:=rfl
section
open PySem.SeqAt
open PySem.AutoSeq1 (wpAny_loadPart')
open PySem.MeetsSeq PySem.MeetsSeq2 PySem.MeetsSeq3
end
section
end
theorem yu (A:V6)(s:UT)(a:Int)(t:Tok)(c:Int)(u:Tok)(prog:UY)(w:Vc)(E:UQ->UT->Prop)(Q:UQ->UT->Prop)(h:Q (.bool (decide (c<a))) s):
  Vy (model prog w) A (richCompare .Gt (.int a t) (.int c u)) Q E s :=
 (PyProof.Rows.gt_int h:Vy (model prog w) A (VY .Gt (.int a t) (.int c u)) Q E s)
section
open PySem.SeqAt
open PySem.AutoSeq1 (wpAny_loadPart')
open PySem.MeetsSeq PySem.MeetsSeq2 PySem.MeetsSeq3
theorem l_ (l b:Addr)(items cJ:Array UQ)(n n2:Nat)(dd Pc:Option Addr)(sl MM:Array (Option UQ))(ns ms:List Int)(hi:WW items.toList ns)(hj:WW cJ.toList ms):
  Meets (YL.«tuple.__gt__» ⟨[.ref l,.ref b],[]⟩)
   (λ_ R s=>s.heap.get? l=some {cls:=.type "tuple",dict:=dd,data:=.seq items n,slots:=sl}/\s.heap.get? b=some {cls:=.type "tuple",dict:=Pc,data:=.seq cJ n2,slots:=MM} /\
    R (.ok (.ret (.bool (c6 ns ms)))) s) :=
 .of_wp λprog w A R s h=>by
  obtain⟨hp,g,d,tk,os⟩:=s;obtain⟨hl,hb,h⟩:=h;have f2:=AutoSeq1.sub_tuple_tuple;have z1:items.size=ns.length:=by rw[<- hi.length];simp
  have z2:cJ.size=ms.length:=by rw[<- hj.length];simp
  wp_walk using Xm hl,Xm hb,wpAny_forIn_list _ (λrest b s'=>b.1=none/\s'=⟨hp,g,d,tk,os⟩/\∃(vs ws:List UQ) (oQ HJ:List Int),rest=vs.zip ws /\
   WW vs oQ/\WW ws HJ/\oQ.length+cJ.size=HJ.length+items.size/\R (.ok (.ret (.bool (c6 oQ HJ)))) ⟨hp,g,d,tk,os⟩) _
  case turn =>
   rintro⟨y,x⟩ rest b s' ⟨gY,rfl,vs,ws,oQ,HJ,hz,NR,L1,hlen,hR⟩;cases NR with
   |nil=>rw[X0]at hz;cases hz
   |cons a t NQ =>
    cases L1 with
    |nil=>rw[List.zip_nil_right]at hz;cases hz
    |cons c u NO =>
     rw[WD]at hz;injection hz with Sf qY
     injection Sf with hy hx
     subst hy hx;rw[qT]at hR;simp only[Ve]at hlen;obtain⟨e,he,K4⟩:=HT.Ag A.in1 ⟨hp,g,d,tk,os⟩ a t c u;refine UU (he prog w _ _ ?_);cases e with
     |true =>
      rw[if_pos (K4.mp rfl)]at hR
      wp_walk
      exact⟨rfl,rfl,_,_,_,_,qY,NQ,NO,by lia,hR⟩
     |false =>
      rw[if_neg (λq=>absurd (K4.mpr q) VE)]at hR;have Sr:=yu A.in1 ⟨hp,g,d,tk,os⟩ a t c u prog w
      wp_walk using Sr
      exact⟨_,rfl,by simpa using hR⟩
  case fin =>
   rintro⟨b1,b2⟩ s' ⟨gY,rfl,vs,ws,oQ,HJ,hz,NR,L1,hlen,hR⟩;simp only at gY;subst gY;have hv:c6 oQ HJ=decide (cJ.size<items.size):=by
    cases NR with
    |nil =>
     cases L1 with
     |nil =>
      simp only[XM]at hlen;rw[zm];exact(decide_eq_false (by lia)).symm
     |cons c u hw =>
      simp only[XM,Ve]at hlen;rw[zq];exact(decide_eq_false (by lia)).symm
    |cons a t hv =>
     cases L1 with
     |nil =>
      simp only[XM,Ve]at hlen;rw[zr];exact(decide_eq_true (by lia)).symm
     |cons c u hw =>
      rw[WD]at hz;cases hz
   rw[hv]at hR
   wp_walk
   exact⟨_,rfl,by simpa[Builtin.Tuple.tupleCompareSizes] using hR⟩
  case h =>
   exact⟨rfl,rfl,items.toList,cJ.toList,ns,ms,rfl,hi,hj,by lia,h⟩
end
section
variable {prog:UY}{w:Vc}{A:V6}{E:UQ->UT->Prop}{s:UT}
theorem tU {l b:Addr}{items cJ:Array UQ}{ns ms:List Int}{Q:UQ->UT->Prop}(hl:IsTup s.heap l items)(hb:IsTup s.heap b cJ)(hi:WW items.toList ns)(hj:WW cJ.toList ms)
  (hu:A.units<XX) (h:Q (.bool (c6 ns ms)) s):Vy (model prog w) A (VY .Gt (.ref l) (.ref b)) Q E s:=by
 obtain⟨⟨cls,dd,data,sl⟩,ho,hc,n,hd⟩:=id hl;obtain⟨⟨Tx,Pc,data2,MM⟩,Qp,pG,n2,hd2⟩:=id hb;simp only at hc hd pG hd2;subst hc hd pG hd2;exact richCompare_meets_room (op:=.Gt) ⟨_,ho,rfl⟩ ⟨_,Qp,rfl⟩ PySem.F.slot_tuple_gt PySem.F.entry_tuple_gt (PySem.F.args_tuple_gt_2 _ _) (l_ l b items cJ n n2 dd Pc sl MM ns ms hi hj)
  ⟨ho,Qp,show Value.bool (c6 ns ms)≠Value.notImplemented/\Q (.bool (c6 ns ms)) s from ⟨(λx=>nomatch x),h⟩⟩ hu
end
end HC
namespace L2
open PySem PySem.Spec PySem.SeqAt PyProof.Rows
noncomputable def bR:List D->Option (List Int)
 |[]=>some []
 |.int i::ds=>(bR ds).map (i::·)
 |_::_=>none
theorem lB:∀{ds:List D} {ns:List Int},bR ds=some ns->ds=ns.map D.int
 |[],_,h=>by cases h;rfl
 |.int i::ds,_,h=>by
  obtain⟨ns,h1,rfl⟩:=Vp.mp h;rw[Vj,<- lB h1]
 |.bC::_,_,h=>by cases h
 |.bl _::_,_,h=>by cases h
 |.str _::_,_,h=>by cases h
 |.obj _::_,_,h=>by cases h
 |.tup _::_,_,h=>by cases h
 |.lst _::_,_,h=>by cases h
 |.dT _ _::_,_,h=>by cases h
 |.dK _ _::_,_,h=>by cases h
 |.sT _::_,_,h=>by cases h
 |.ob _::_,_,h=>by cases h
theorem jc:∀(ns:List Int),bR (ns.map D.int)=some ns
 |[]=>rfl
 |n::ns=>by rw[Vj];show (bR (ns.map D.int)).map _=_;rw[jc ns];rfl
theorem a8 {P:UY}{w:Vc}{W:Addr->Prop}{H:Hp}:∀{ns:List Int} {vs:List V},af P w W H (ns.map D.int) vs->vs=ns.map V.int
 |[],_,h=>h
 |n::ns,_,⟨v,r,e,h1,h2⟩=>by rw[e,a8 h2,show v=V.int n from h1];rfl
theorem m8 {P:UY}{w:Vc}{W:Addr->Prop}{H:Hp}:∀(ns:List Int),af P w W H (ns.map D.int) (ns.map V.int)
 |[]=>rfl
 |n::ns=>⟨_,_,rfl,rfl,m8 ns⟩
noncomputable def vt (p:Int->Int->Bool)(lex:List Int->List Int->Bool)(a b:D):Option D:=match a.Gk,b.Gk with
 |some a,some b=>match bR a,bR b with
  |some ns,some ms=>some (.bl (lex ns ms))
  |_,_=>none
 |_,_=>Ar p a b
theorem vH {p:Int->Int->Bool}{lex:List Int->List Int->Bool}{a b d:D}(h:vt p lex a b=some d):(∃i j ns ms,a=.tup i/\b=.tup j/\bR i=some ns/\bR j=some ms/\d=.bl (lex ns ms))\/Ar p a b=some d:=by
 unfold vt at h;cases ha:a.Gk with
 |none=>rw[ha]at h;exact .inr h
 |some i =>
  cases hb:b.Gk with
  |none=>rw[ha,hb]at h;exact .inr h
  |some j =>
   rw[ha,hb]at h;cases ea:bR i with
   |none=>simp only[ea]at h;cases h
   |some ns =>
    cases eb:bR j with
    |none=>simp only[ea,eb]at h;cases h
    |some ms=>simp only[ea,eb]at h;cases h;exact .inl ⟨i,j,ns,ms,D.lz ha,D.lz hb,ea,eb,rfl⟩
abbrev Lr:D->D->Option D:=vt (λi j=>decide (j<i)) HC.c6
section
variable {X:Cx}
theorem za {p:Int->Int->Bool}{lex:List Int->List Int->Bool}{op:XS}(ho:iJ X (VY op) (BN λi j=>.bl (p i j)))
  (ht:∀(s:UT) (E:UQ->UT->Prop) (l b:Addr) (items cJ:Array UQ) (ns ms:List Int) (Q:UQ->UT->Prop),IsTup s.heap l items->IsTup s.heap b cJ->WW items.toList ns->WW cJ.toList ms->Q (.bool (lex ns ms)) s->Vy (model X.prog X.w) X.A (VY op (.ref l) (.ref b)) Q E s) :
  b8 X (VY op) (vt p lex):=by
 intro pins s σ H x y v u Q I rx ry h;obtain⟨W,d1,d2,d,hd,r1,r2,e,q⟩:=h;rcases vH e with⟨a,b,ns,ms,rfl,rfl,ea,eb,rfl⟩|e
 ·rw[lB ea]at r1;rw[lB eb]at r2;obtain⟨pa,vs,rfl,ha,ra⟩:=r1;obtain⟨pb,us,rfl,hb,rb⟩:=r2;rw[a8 ra]at ha;rw[a8 rb]at hb;cases rx;cases ry;obtain⟨its,q1,p1,_⟩:=I.tuple (rZ.of ha);obtain⟨qV,q2,p2,_⟩:=I.tuple (rZ.of hb);exact ht s _ pa pb _ _ ns ms _ p1 p2 (by simpa using intsAre_of q1) (by simpa using intsAre_of q2) ⟨.bl _,H,I,rfl,q _ _ (ay.refl _) rfl⟩
 ·exact oP ho pins s σ H x y v u Q I rx ry ⟨W,_,_,d,hd,r1,r2,e,q⟩
theorem Cd (hu:X.A.units<XX):b8 X (VY .Gt) Lr:=za y6 λs E l b items cJ ns ms Q h1 h2 h3 h4 h5=>HC.tU h1 h2 h3 h4 hu h5
end
end L2
namespace TS
open PySem PyProof.Rows
section
end
end TS
namespace L2
open PySem PySem.Spec PyProof.Rows
def wG (H:Hp):UQ->List Int
 |.ref t=>match H t with
  |some (.tup xs)=>xs.filterMap fun
   |.int i=>some i
   |_=>none
  |_=>[]
 |_=>[]
theorem rh:∀ns:List Int,((ns.map V.int).filterMap fun
   |.int i=>some i
   |_=>none)=ns
 |[]=>rfl
 |n::ns=>by
  rw[Vj,WQ];dsimp only;rw[rh ns]
theorem ly {H:Hp}{t:Addr}{ns:List Int}(h:H t=some (.tup (ns.map V.int))):wG H (.ref t)=ns:=by
 unfold wG;dsimp only;rw[h];exact rh ns
def G5 (H:Hp):UQ->Addr×List Int
 |.ref t=>(t,wG H (.ref t))
 |_=>(0,[])
abbrev Ht (H:Hp)(ts:List (Addr×List Int)):Prop:=∀t∈ts,H t.1=some (.tup (t.2.map V.int))/\t.2≠[]
abbrev Bv (t:Addr×List Int):V:=.ref t.1
theorem mT:∀(ts:List (Addr×List Int)),Vals (ts.map Bv) (ts.map λt=>Value.ref t.1)
 |[]=>.nil
 |t::ts=>.cons rfl (mT ts)
theorem v_ {H:Hp}{ts:List (Addr×List Int)}(T:Ht H ts){out:List UQ}(hp:out.Perm (ts.map λt=>Value.ref t.1)):out=(out.map (G5 H)).map (λt=>Value.ref t.1)/\(out.map (G5 H)).Perm ts:=by
 constructor
 ·rw[V4];refine(VQ (g:=id) λv hv=>?_).trans (List.map_id _) |>.symm
  obtain⟨t,ht,rfl⟩:=Vq.mp (hp.mem_iff.mp hv);rfl
 ·refine(hp.map (G5 H)).trans (Y0 ?_);rw[V4];refine(VQ (g:=id) λt ht=>?_).trans (List.map_id _);show (t.1,wG H (.ref t.1))=t;rw[ly (T t ht).1]
theorem Bn {P:UY}{w:Vc}{H:Hp}{h:Heap}{ts:List (Addr×List Int)}(ok:gW P w H h)(T:Ht H ts){a:Addr}(ha:h.objs.size<=a):TS.rX h (wG H) a (ts.map λt=>Value.ref t.1):=λv hv=>by
 obtain⟨t,ht,rfl⟩:=Vq.mp hv;obtain⟨h1,h2⟩:=T t ht;obtain⟨_,its,r,o,ho,hc,n,hd⟩:=(show a6 P w H h t.1 (.tup (t.2.map V.int)) from ok _ _ h1)
 exact⟨t.1,o,_,n,rfl,VT (Vz (Vn ho) ha),ho,hc,hd,by rw[ly h1];exact intsAre_of (by simpa using r),by rw[ly h1];exact h2⟩
section
end
end L2
namespace TS
open PySem PyProof.Rows
section
variable {prog:UY}{w:Vc}{A:V6}{E:UQ->UT->Prop}{s:UT}
theorem sR {x:UQ}{vs:List UQ}{kf:UQ->List Int}{Q:UQ->UT->Prop}(hz:vs.length<=1000000)
  (col:∀(R:List UQ->UT->Prop),(∀(h':Heap) (tk:Nat),(∀b o,s.heap.get? b=some o->h'.get? b=some o)->R vs {s with heap:=h',toks:=tk})->Vy (model prog w) A.in1 (collect x) R E s)
  (T:rX s.heap kf s.heap.objs.size vs)
  (h:∀(out:List UQ) (h1 h':Heap) (tk:Nat) (n:Nat),out.Perm vs->out.Pairwise (λx y=>HT.lexLt (kf y) (kf x)=false)->(∀b o,s.heap.get? b=some o->h1.get? b=some o)->(∀b o,h1.get? b=some o->h'.get? b=some o)->h'.get? h1.objs.size=some (Xn "list" out.toArray n)->Q (.ref h1.objs.size) {s with heap:=h',toks:=tk}) :
  Vy (model prog w) A (call (.builtin "sorted") [x]) Q E s:=by
 refine Calls.call_function_entry kind_sorted plain_sorted entry_sorted (args_sorted1 _) ?_;unfold YL.«sorted»
 refine UU (m:=checkCount "sorted" 1 1 _) (Vl ?_);refine UU (col _ λh' tk kp=>?_);have nl:vs.length<=U8:=by rw[Wl];lia
 refine UU (wpAny_newList ?_ nl);have hl:(h'.push (Xn "list" vs.toArray 0)).get? h'.objs.size=some (Xn "list" vs.toArray 0):=VR _ rfl;have T':rX (h'.push (Xn "list" vs.toArray 0)) kf h'.objs.size vs:=λv hv=>by
  obtain⟨t,o,xs,k,e1,_,e3,r⟩:=T v hv;exact⟨t,o,xs,k,e1,VT (Vn (kp _ _ e3)),Vg _ (kp _ _ e3),r⟩
 refine UU (Xh (X4 slot_list_sort ⟨_,hl,rfl⟩ entry_list_sort (tG (s:={s with heap:=h'.push (Xn "list" vs.toArray 0),toks:=tk}) hl hz T' λout hp hs=>⟨_,rfl,?_⟩) (args_list_sort _)))
 obtain⟨n,hn⟩:=sortedHeap_at (out:=out.toArray) hl;refine Vl ⟨_,rfl,h out h' _ tk n hp hs kp (λb o e=>?_) hn⟩;have hb:=Vn e;rw[sortedHeap_old (VT hb) (by rw[size_push'];exact Nat.lt_succ_of_lt hb)]
 exact Vg _ e
end
end TS
namespace ST
open PySem PyProof.Rows
section
end
end ST
namespace L2
open PySem PySem.Spec PySem.SeqAt PyProof.Rows HT
theorem mZ:∀a:List Int,lexLt a a=false
 |[]=>rfl
 |x::xs=>by rw[cg,if_pos rfl];exact mZ xs
theorem e9:∀{a b:List Int},lexLt a b=false->lexLt b a=false->a=b
 |[],[],_,_=>rfl
 |[],_::_,h,_=>by cases h
 |_::_,[],_,h=>by cases h
 |x::xs,y::ys,h1,h2=>by
  rw[cg]at h1 h2
  by_cases e:x=y
  ·subst e;rw[if_pos rfl]at h1 h2;rw[e9 h1 h2]
  ·rw[if_neg e]at h1;rw[if_neg (λz=>e z.symm)]at h2;have:=of_decide_eq_false h1;have:=of_decide_eq_false h2;omega
theorem gM:∀{a b:List Int},lexLt a b=true->lexLt b a=false
 |[],[],h=>by cases h
 |[],_::_,_=>rfl
 |_::_,[],h=>by cases h
 |x::xs,y::ys,h=>by
  rw[cg]at h ⊢
  by_cases e:x=y
  ·subst e;rw[if_pos rfl]at h ⊢
   exact gM h
  ·rw[if_neg e]at h;rw[if_neg (λz=>e z.symm)];have:=of_decide_eq_true h;exact decide_eq_false (by lia)
theorem fM:∀{a b c:List Int},lexLt a b=true->lexLt b c=true->lexLt a c=true
 |[],[],_,h,_=>by cases h
 |[],_::_,[],_,h=>by cases h
 |[],_::_,_::_,_,_=>rfl
 |_::_,[],_,h,_=>by cases h
 |x::xs,y::ys,[],_,h=>by cases h
 |x::xs,y::ys,z::zs,h1,h2=>by
  rw[cg]at h1 h2 ⊢
  by_cases e:x=y
  ·subst e;rw[if_pos rfl]at h1
   by_cases e2:x=z
   ·subst e2;rw[if_pos rfl]at h2 ⊢
    exact fM h1 h2
   ·rw[if_neg e2]at h2 ⊢
    exact h2
  ·rw[if_neg e]at h1;have q1:=of_decide_eq_true h1
   by_cases e2:y=z
   ·subst e2;rw[if_neg e];exact h1
   ·rw[if_neg e2]at h2;have q2:=of_decide_eq_true h2;rw[if_neg (by omega)]
    exact decide_eq_true (by omega)
noncomputable def tO (k:List Int):List (List Int)->List (List Int)
 |[]=>[k]
 |x::xs=>if lexLt x k=true then x::tO k xs else k::x::xs
def jw:List (List Int)->List (List Int)
 |[]=>[]
 |k::ks=>tO k (jw ks)
theorem jf (k:List Int):∀xs,(tO k xs).Perm (k::xs)
 |[]=>.refl _
 |x::xs=>by
  unfold tO
  split
  ·exact((jf k xs).cons x).trans (List.Perm.swap _ _ _)
  ·exact .refl _
theorem h_:∀ks,(jw ks).Perm ks
 |[]=>.refl _
 |k::ks=>(jf k (jw ks)).trans ((h_ ks).cons k)
abbrev rY (ks:List (List Int)):Prop:=ks.Pairwise λx y=>HT.lexLt y x=false
theorem le_trans' {a b c:List Int}(h1:lexLt b a=false)(h2:lexLt c b=false):lexLt c a=false:=by
 cases h:lexLt c a with
 |false=>rfl
 |true =>
  cases hb:lexLt a b with
  |true=>rw[fM h hb]at h2;cases h2
  |false =>
   have:=e9 hb h1;subst this;rw[h]at h2;cases h2
theorem m9 (k:List Int):∀xs,rY xs->rY (tO k xs)
 |[],_=>by simp[tO]
 |x::xs,h=>by
  obtain⟨h1,h2⟩:=VJ.mp h;unfold tO
  split
  ·rename_i hx
   refine VJ.mpr ⟨λy hy=>?_,m9 k xs h2⟩;rcases UW.mp ((jf k xs).mem_iff.mp hy)with rfl|hy
   ·exact gM hx
   ·exact h1 y hy
  ·rename_i hx
   have CM:lexLt x k=false:=by cases q:lexLt x k <;> simp_all
   refine VJ.mpr ⟨λy hy=>?_,h⟩;rcases UW.mp hy with rfl|hy
   ·exact CM
   ·exact le_trans' CM (h1 y hy)
theorem kB:∀ks,rY (jw ks)
 |[]=>.nil
 |k::ks=>m9 k _ (kB ks)
theorem ju:∀{a b:List (List Int)},a.Perm b->rY a->rY b->a=b
 |[],b,p,_,_=>by rw[List.nil_perm.mp p]
 |x::a,[],p,_,_=>by have:=p.length_eq;simp at this
 |x::a,y::b,p,ha,hb=>by
  obtain⟨a1,a2⟩:=VJ.mp ha;obtain⟨b1,b2⟩:=VJ.mp hb;have NH:x=y:=by
   rcases UW.mp (p.mem_iff.mp (U1 (a:=x) (l:=a)))with h|h
   ·exact h
   ·rcases UW.mp (p.mem_iff.mpr (U1 (a:=y) (l:=b)))with h' | h'
    ·exact h'.symm
    ·exact e9 (b1 x h) (a1 y h')
  subst NH;rw[ju (List.perm_cons x |>.mp p) a2 b2]
theorem E_ {a b:List (List Int)}(p:a.Perm b)(h:rY a):a=jw b:=ju (p.trans (h_ b).symm) h (kB b)
abbrev kD (k:List Int):D:=.tup (k.map D.int)
section
variable {P:UY}{w:Vc}{W:Addr->Prop}{H:Hp}
theorem mS:∀{ts:List (Addr×List Int)},(∀t∈ts,H t.1=some (.tup (t.2.map V.int)))->af P w W H ((ts.map (·.2)).map kD) (ts.map Bv)
 |[],_=>rfl
 |t::ts,h=>⟨_,_,rfl,⟨t.1,_,rfl,h t (U1 ..),m8 t.2⟩,mS λx hx=>h x (UZ _ hx)⟩
end
section
end
def dD:FD:=λds R=>∃n:Int,ds=[.int n]/\0<n/\n<2 ^ 200/\∀r:Int,0<=r->r<n->R (.int r)
theorem dD.mono:dO dD:=λds R R' k ⟨n,e,h1,h2,q⟩=>⟨n,e,h1,h2,λr a b=>k _ (q r a b)⟩
section
end
section
variable {X:Cx}{W:Addr->Prop}{H:Hp}
theorem wt {p:Addr}{vs:List V}{ds:List D}(n:H p=none)(f:NL (.lst ds))(r:l3 X W H ds vs):Rp X (λa=>H a≠none) (upd H p (.lst vs)) (.lst ds) (.ref p) :=
 ⟨p,vs,rfl,aj,λz=>z n,af.flat f (r.same (ay.new n))⟩
def MW (X:Cx)(f:D->D->Option D):R2:=λx y H Q=>∃W d1 d2 d,Dm W H/\Rp X W H d1 x/\Rp X W H d2 y/\f d1 d2=some d/\∀v H',ay H H'->Rp X W H' d v->(NL d->Rp X (λa=>H a≠none) H' d v)->Q v H'
def MV (X:Cx)(f:List D->Option D):List V->Hp->VK->Prop:=λxs H Q=>∃W ds d,Dm W H/\l3 X W H ds xs/\f ds=some d/\∀v H',ay H H'->Rp X W H' d v->(NL d->Rp X (λa=>H a≠none) H' d v)->Q v H'
def IP (X:Cx)(f:D->Option Int->Option Int->Option D):V->Option Int->Option Int->Hp->VK->Prop:=λx lo hi H Q=>∃W d1 d,Dm W H/\Rp X W H d1 x/\f d1 lo hi=some d/\∀v H',ay H H'->Rp X W H' d v->(NL d->Rp X (λa=>H a≠none) H' d v)->Q v H'
abbrev LD (X:Cx)(f:UQ->UQ->Sem UQ)(g:D->D->Option D):Prop:=iJ X f (MW X g)
abbrev AX (X:Cx)(f:UQ)(g:List D->Option D):Prop:=fv X f (MV X g)
theorem aD:LD X (WR .Add) xa:=by
 intro pins s σ H x y v u Q I rx ry h;obtain⟨W,d1,d2,d,hd,r1,r2,e,q⟩:=h;rcases wA e with⟨a,b,rfl,rfl,e⟩|e
 ·obtain⟨hl,rfl⟩:=fb e;obtain⟨p,vs,rfl,h1,n1,q1⟩:=r1;obtain⟨p',vs',rfl,h2,n2,q2⟩:=r2;exact zb pins s σ H _ _ v u Q I rx ry ⟨p,p',vs,vs',rfl,rfl,h1,h2,by rw[q1.length,q2.length];exact hl,λl zR=>q _ _ (ay.new zR) (Rp.i_ hd zR (q1.append q2)) λf=>wt zR f (q1.append q2)⟩
 ·obtain⟨i,j,rfl,rfl,e⟩:=je e;cases e;cases r1;cases r2;exact fK pins s σ H _ _ v u Q I rx ry ⟨i,j,rfl,rfl,q _ _ (ay.refl _) rfl λ_=>rfl⟩
theorem BG:Pn X (IP X Pe):=by
 intro pins s σ H x v vl vu lo hi sl Q I rx hs pl pu h;obtain⟨W,d1,d,hd,r1,e,q⟩:=h;cases d1 with
 |lst ds =>
  cases e;obtain⟨p,vs,rfl,h1,n1,q1⟩:=r1;have rr:l3 X W H (cutD ds lo hi) (rM vs lo hi):=by
   unfold rM cutD;rw[q1.length];exact(af.drop _ q1).take _
  exact uz pins s σ H _ v vl vu lo hi sl Q I rx hs pl pu ⟨p,vs,rfl,b3.of h1,λl hl=>q _ _ (ay.new hl) (Rp.i_ hd hl rr) λf=>wt hl f rr⟩
 |_=>cases e
theorem jO:AX X (.type "list") dList:=by
 intro pins s σ H xs us Q I r h;obtain⟨W,ds,d,hd,r1,e,q⟩:=h
 match ds,e with
 |[.lst es],e =>
  cases e;obtain⟨v,r',rfl,⟨p,vs,rfl,h1,n1,q1⟩,hr⟩:=r1;cases hr;exact iH pins s σ H _ us Q I r ⟨p,vs,rfl,.inl (b3.of h1),λl hl=>q _ _ (ay.new hl) (Rp.i_ hd hl q1) λf=>wt hl f q1⟩
 |[.tup es],e =>
  cases e;obtain⟨v,r',rfl,⟨p,vs,rfl,h1,q1⟩,hr⟩:=r1;cases hr;exact iH pins s σ H _ us Q I r ⟨p,vs,rfl,.inr (rZ.of h1),λl hl=>q _ _ (ay.new hl) (Rp.i_ hd hl q1) λf=>wt hl f q1⟩
end
section
end
end L2
namespace L2.Q
open PySem PySem.Spec PySem.SeqAt PyProof.Rows
section
variable (P:UY)(w:Vc)(H:Hp)
mutual
def Own:D->V->List Addr->Prop
 |.tup ds,v,A=>∃a vs,v=.ref a/\H a=some (.tup vs)/\aH ds vs A
 |.lst ds,v,A=>∃a vs A',v=.ref a/\H a=some (.lst vs)/\A=a::A'/\aH ds vs A'
 |.dT ks ds,v,A=>∃a vs A',v=.ref a/\H a=some (.dT (ks.zip vs))/\ks.length=vs.length/\A=a::A'/\aH ds vs A'
 |.dK ks ds,v,A=>∃a vs A',v=.ref a/\H a=some (.dK (ks.zip vs))/\ks.length=vs.length/\A=a::A'/\aH ds vs A'
 |.sT ts,v,A=>∃a,v=.ref a/\DB P w H a ts/\A=[a]
 |.ob φ,v,A=>∃a,v=.ref a/\(H a=some (φ a)/\∀xs,φ a≠.tup xs)/\A=[a]
 |.bC,v,A=>v=.bC/\A=[]
 |.bl b,v,A=>v=.bl b/\A=[]
 |.int i,v,A=>v=.int i/\A=[]
 |.str x,v,A=>v=.str x/\A=[]
 |.obj a,v,A=>v=.ref a/\A=[]
def aH:List D->List V->List Addr->Prop
 |[],vs,A=>vs=[]/\A=[]
 |d::ds,vs,A=>∃v r A1 A2,vs=v::r/\A=A1++A2/\Own d v A1/\aH ds r A2
end
end
section
variable {P:UY}{w:Vc}{W:Addr->Prop}{H H':Hp}
theorem vR {a:Addr}{ts:List (List Int)}(k:∀b xs,H b=some (.tup xs)->H' b=some (.tup xs))(ha:∀o,H a=some o->H' a=some o)(h:DB P w H a ts):DB P w H' a ts :=
 let ⟨A4,e,r,z⟩:=h;⟨A4,ha _ e,λx hx=>k _ _ (r x hx),z⟩
mutual
theorem Own.keep (k:∀b xs,H b=some (.tup xs)->H' b=some (.tup xs)):∀{d:D} {v:V} {A:List Addr},(∀c∈A,∀o,H c=some o->H' c=some o)->Own P w H d v A->Own P w H' d v A
 |.tup ds,_,_,ha,⟨a,vs,e,t,r⟩=>⟨a,vs,e,k a vs t,aH.keep k ha r⟩
 |.lst ds,_,_,ha,⟨a,vs,A',e,t,eA,r⟩=>⟨a,vs,A',e,ha a (by rw[eA];simp) _ t,eA,aH.keep k (λc hc=>ha c (by rw[eA];simp[hc])) r⟩
 |.dT ks ds,_,_,ha,⟨a,vs,A',e,t,l,eA,r⟩=>⟨a,vs,A',e,ha a (by rw[eA];simp) _ t,l,eA,aH.keep k (λc hc=>ha c (by rw[eA];simp[hc])) r⟩
 |.dK ks ds,_,_,ha,⟨a,vs,A',e,t,l,eA,r⟩=>⟨a,vs,A',e,ha a (by rw[eA];simp) _ t,l,eA,aH.keep k (λc hc=>ha c (by rw[eA];simp[hc])) r⟩
 |.sT ts,_,_,ha,⟨a,e,r,eA⟩=>⟨a,e,vR k (λo ho=>ha a (by rw[eA];simp) o ho) r,eA⟩
 |.ob φ,_,_,ha,⟨a,e,r,eA⟩=>⟨a,e,⟨ha a (by rw[eA];simp) _ r.1,r.2⟩,eA⟩
 |.bC,_,_,_,h=>h
 |.bl _,_,_,_,h=>h
 |.int _,_,_,_,h=>h
 |.str _,_,_,_,h=>h
 |.obj _,_,_,_,h=>h
theorem aH.keep (k:∀b xs,H b=some (.tup xs)->H' b=some (.tup xs)):∀{ds:List D} {vs:List V} {A:List Addr},(∀c∈A,∀o,H c=some o->H' c=some o)->aH P w H ds vs A->aH P w H' ds vs A
 |[],_,_,_,h=>h
 |d::ds,_,_,ha,⟨v,r,A1,A2,e,eA,h1,h2⟩=>⟨v,r,A1,A2,e,eA,Own.keep k (λc hc=>ha c (by rw[eA];simp[hc])) h1,aH.keep k (λc hc=>ha c (by rw[eA];simp[hc])) h2⟩
end
mutual
theorem Own.rep:∀{d:D} {v:V} {A:List Addr},(∀c∈A,¬ W c)->Own P w H d v A->au P w W H d v
 |.tup ds,_,_,ha,⟨a,vs,e,t,r⟩=>⟨a,vs,e,t,aH.rep ha r⟩
 |.lst ds,_,_,ha,⟨a,vs,A',e,t,eA,r⟩=>⟨a,vs,e,t,ha a (by rw[eA];simp),aH.rep (λc hc=>ha c (by rw[eA];simp[hc])) r⟩
 |.dT ks ds,_,_,ha,⟨a,vs,A',e,t,l,eA,r⟩=>⟨a,vs,e,t,l,ha a (by rw[eA];simp),aH.rep (λc hc=>ha c (by rw[eA];simp[hc])) r⟩
 |.dK ks ds,_,_,ha,⟨a,vs,A',e,t,l,eA,r⟩=>⟨a,vs,e,t,l,ha a (by rw[eA];simp),aH.rep (λc hc=>ha c (by rw[eA];simp[hc])) r⟩
 |.sT ts,_,_,ha,⟨a,e,r,eA⟩=>⟨a,e,r,ha a (by rw[eA];simp)⟩
 |.ob φ,_,_,ha,⟨a,e,r,eA⟩=>⟨a,e,r,ha a (by rw[eA];simp)⟩
 |.bC,_,_,_,h=>h.1
 |.bl _,_,_,_,h=>h.1
 |.int _,_,_,_,h=>h.1
 |.str _,_,_,_,h=>h.1
 |.obj _,_,_,_,h=>h.1
theorem aH.rep:∀{ds:List D} {vs:List V} {A:List Addr},(∀c∈A,¬ W c)->aH P w H ds vs A->af P w W H ds vs
 |[],_,_,_,h=>h.1
 |d::ds,_,_,ha,⟨v,r,A1,A2,e,eA,h1,h2⟩=>⟨v,r,e,Own.rep (λc hc=>ha c (by rw[eA];simp[hc])) h1,aH.rep (λc hc=>ha c (by rw[eA];simp[hc])) h2⟩
end
mutual
theorem Own.l7:∀{d:D} {v:V} {A:List Addr},Own P w H d v A->∀c∈A,H c≠none/\∀xs,H c≠some (.tup xs)
 |.tup ds,_,_,⟨a,vs,e,t,r⟩,c,hc=>aH.l7 r c hc
 |.lst ds,_,_,⟨a,vs,A',e,t,eA,r⟩,c,hc=>by
  rw[eA]at hc;rcases UW.mp hc with rfl|hc
  ·rw[t];exact⟨λz=>(nomatch z),λxs z=>by cases z⟩
  ·exact aH.l7 r c hc
 |.dT ks ds,_,_,⟨a,vs,A',e,t,l,eA,r⟩,c,hc=>by
  rw[eA]at hc;rcases UW.mp hc with rfl|hc
  ·rw[t];exact⟨λz=>(nomatch z),λxs z=>by cases z⟩
  ·exact aH.l7 r c hc
 |.dK ks ds,_,_,⟨a,vs,A',e,t,l,eA,r⟩,c,hc=>by
  rw[eA]at hc;rcases UW.mp hc with rfl|hc
  ·rw[t];exact⟨λz=>(nomatch z),λxs z=>by cases z⟩
  ·exact aH.l7 r c hc
 |.sT ts,_,_,⟨a,e,⟨A4,t,r,z⟩,eA⟩,c,hc=>by
  rw[eA]at hc;rw[U3.mp hc,t];exact⟨λz=>(nomatch z),λxs z=>by cases z⟩
 |.ob φ,_,_,⟨a,e,⟨t,z⟩,eA⟩,c,hc=>by
  rw[eA]at hc;rw[U3.mp hc,t];exact⟨λz=>(nomatch z),λxs q=>z xs (VL q)⟩
 |.bC,_,_,h,c,hc=>by rw[h.2]at hc;cases hc
 |.bl _,_,_,h,c,hc=>by rw[h.2]at hc;cases hc
 |.int _,_,_,h,c,hc=>by rw[h.2]at hc;cases hc
 |.str _,_,_,h,c,hc=>by rw[h.2]at hc;cases hc
 |.obj _,_,_,h,c,hc=>by rw[h.2]at hc;cases hc
theorem aH.l7:∀{ds:List D} {vs:List V} {A:List Addr},aH P w H ds vs A->∀c∈A,H c≠none/\∀xs,H c≠some (.tup xs)
 |[],_,_,h,c,hc=>by rw[h.2]at hc;cases hc
 |d::ds,_,_,⟨v,r,A1,A2,e,eA,h1,h2⟩,c,hc=>by
  rw[eA]at hc;rcases Vh.mp hc with hc|hc
  ·exact Own.l7 h1 c hc
  ·exact aH.l7 h2 c hc
end
mutual
theorem eF:∀{d:D} {v:V},d.flat=true->au P w W H d v->Own P w H d v []
 |.tup ds,_,f,⟨a,vs,e,t,r⟩=>⟨a,vs,e,t,i6 (by simpa[D.flat] using f) r⟩
 |.lst ds,_,f,_=>by simp[D.flat]at f
 |.dT ks ds,_,f,_=>by simp[D.flat]at f
 |.dK ks ds,_,f,_=>by simp[D.flat]at f
 |.sT ts,_,f,_=>by simp[D.flat]at f
 |.ob φ,_,f,_=>by simp[D.flat]at f
 |.bC,_,_,h=>⟨h,rfl⟩
 |.bl _,_,_,h=>⟨h,rfl⟩
 |.int _,_,_,h=>⟨h,rfl⟩
 |.str _,_,_,h=>⟨h,rfl⟩
 |.obj _,_,_,h=>⟨h,rfl⟩
theorem i6:∀{ds:List D} {vs:List V},D.c8 ds=true->af P w W H ds vs->aH P w H ds vs []
 |[],_,_,h=>⟨h,rfl⟩
 |d::ds,_,f,⟨v,r,e,h1,h2⟩=>by
  have f':(d.flat&&D.c8 ds)=true:=f;rw[V0]at f';exact⟨v,r,[],[],e,rfl,eF f'.1 h1,i6 f'.2 h2⟩
end
theorem aH.length:∀{ds:List D} {vs:List V} {A:List Addr},aH P w H ds vs A->vs.length=ds.length
 |[],_,_,h=>by rw[h.1];rfl
 |d::ds,_,_,⟨v,r,A1,A2,e,eA,h1,h2⟩=>by rw[e,Ve,Ve,aH.length h2]
theorem aH.append:∀{ds ds':List D} {vs vs':List V} {A A':List Addr},aH P w H ds vs A->aH P w H ds' vs' A'->aH P w H (ds++ds') (vs++vs') (A++A')
 |[],_,_,_,_,_,h,h'=>by rw[h.1,h.2];exact h'
 |d::ds,_,_,_,_,_,⟨v,r,A1,A2,e,eA,h1,h2⟩,h'=>by
  subst e eA;exact⟨v,_,A1,_,rfl,by rw[VP],h1,aH.append h2 h'⟩
theorem aH.one {d:D}{v:V}{A:List Addr}(h:Own P w H d v A):aH P w H [d] [v] A:=⟨v,[],A,[],rfl,by simp,h,rfl,rfl⟩
theorem aH.split:∀{ds:List D} {vs:List V} {A:List Addr} {i:Nat} {d:D},aH P w H ds vs A->ds[i]?=some d->∃v A1 A2 A3,vs[i]?=some v/\A=A1++(A2++A3)/\aH P w H (ds.take i) (vs.take i) A1/\Own P w H d v A2/\aH P w H (ds.drop (i+1)) (vs.drop (i+1)) A3
 |[],_,_,_,_,_,e=>by simp at e
 |d::ds,_,_,0,_,⟨v,r,A1,A2,e,eA,h1,h2⟩,e'=>by
  simp at e';subst e' e eA;exact⟨v,[],A1,A2,by simp,by simp,⟨rfl,rfl⟩,h1,by simpa using h2⟩
 |d::ds,_,_,i+1,_,⟨v,r,A1,A2,e,eA,h1,h2⟩,e'=>by
  subst e eA;obtain⟨u,B1,B2,B3,g1,g2,g3,g4,g5⟩:=aH.split (i:=i) h2 (by simpa using e')
  exact⟨u,A1++B1,B2,B3,by simpa using g1,by rw[g2];simp[VP],by simpa using ⟨v,_,A1,B1,rfl,rfl,h1,g3⟩,g4,by simpa using g5⟩
end
inductive Kd where
 |own|cQ|old|bor
inductive B where
 |val (y:Bool) (d:D)|own (d:D)|hand (ok:List Int->Prop)|shl (y:Bool) (d:D)
abbrev a7:=List (Option B)
structure Cfg where
 H0:Hp
 IO:Addr->Prop
 ro:Bool
 U:Addr->Prop:=λ_=>False
abbrev Wn (own:Nat->List Addr):Addr->Prop:=λa=>∃i,a∈own i
def av (C:Cfg)(W:Addr->Prop):Kd->Addr->Prop
 |.own,a=>W a\/C.H0 a≠none
 |.cQ,a=>W a\/C.H0 a≠none
 |.old,a=>W a
 |.bor,_=>False
def eN (C:Cfg)(W:Addr->Prop)(k:Kd)(a:Addr):Prop:=av C W k a\/C.U a
abbrev yk (y:Bool):Kd:=match y with|true=>.cQ|false=>.old
def HF:D->HO->List V->Prop
 |.lst _,o,vs=>o=.lst vs
 |.dT ks _,o,vs=>o=.dT (ks.zip vs)/\ks.length=vs.length
 |.dK ks _,o,vs=>o=.dK (ks.zip vs)/\ks.length=vs.length
 |_,_,_=>False
def IE:D->List D
 |.lst ds=>ds
 |.dT _ ds=>ds
 |.dK _ ds=>ds
 |_=>[]
def Hv (P:UY)(w:Vc)(W:Addr->Prop)(H:Hp)(d:D)(v:V)(A:List Addr):Prop:=∃a o vs,v=.ref a/\A=[a]/\H a=some o/\HF d o vs/\af P w W H (IE d) vs
theorem Hv.map {P:UY}{w:Vc}{W W':Addr->Prop}{H H':Hp}{d:D}{v:V}{A:List Addr}(h:Hv P w W H d v A)(ha:∀c∈A,∀o,H c=some o->H' c=some o)(hr:∀ds vs,af P w W H ds vs->af P w W' H' ds vs):Hv P w W' H' d v A :=
 let ⟨a,o,vs,e1,e2,e3,e4,r⟩:=h;⟨a,o,vs,e1,e2,ha a (by rw[e2];simp) o e3,e4,hr _ _ r⟩
theorem Hv.rep {P:UY}{w:Vc}{W W':Addr->Prop}{H:Hp}{d:D}{v:V}{A:List Addr}(h:Hv P w W H d v A)(ha:∀c∈A,¬ W' c)(hs:∀ds vs,af P w W H ds vs->af P w W' H ds vs):au P w W' H d v:=by
 obtain⟨a,o,vs,rfl,rfl,e,sh,r⟩:=h;have na:=ha a (by simp)
 replace r:=hs _ _ r;cases d with
 |lst ds=>cases sh;exact⟨a,vs,rfl,e,na,r⟩
 |dT ks ds=>obtain⟨rfl,l⟩:=sh;exact⟨a,vs,rfl,e,l,na,r⟩
 |dK ks ds=>obtain⟨rfl,l⟩:=sh;exact⟨a,vs,rfl,e,l,na,r⟩
 |_=>exact sh.elim
structure bh (P:UY)(w:Vc)(C:Cfg)(σ:St)(H:Hp)(β:a7)(own:Nat->List Addr):Prop where
 len:β.length=σ.length
 val:∀(i:Nat) (y:Bool) (d:D),β[i]?=some (some (.val y d))->∃v,σ[i]?=some (some v)/\au P w (eN C (Wn own) (yk y)) H d v
 ow:∀(i:Nat) (d:D),β[i]?=some (some (.own d))->∃v,σ[i]?=some (some v)/\Own P w H d v (own i)/\∀c∈own i,C.H0 c=none
 l6:∀(i:Nat) (ok:List Int->Prop),β[i]?=some (some (.hand ok))->∃a ns,σ[i]?=some (some (.ref a))/\H a=some (.lst (ns.map V.int))/\ok ns/\own i=[a]/\((∀b,¬ C.IO b)\/C.IO a)
 dm:∀(i:Nat) (a:Addr),a∈own i->H a≠none/\(∀xs,H a≠some (.tup xs))/\(C.H0 a=none\/C.IO a)/\¬ C.U a
 fQ:∀(i j:Nat) (a:Addr),a∈own i->a∈own j->i=j
 gX:∀i,(own i).Nodup
 kp:Kp C.IO C.H0 H
 fw:∀a,C.H0 a≠none->H a≠none
 shl:∀(i:Nat) (y:Bool) (d:D),β[i]?=some (some (.shl y d))->∃v,σ[i]?=some (some v)/\Hv P w (eN C (Wn own) (yk y)) H d v (own i)/\∀c∈own i,C.H0 c=none
abbrev SQ (X:Cx):=bh X.prog X.w
section
variable {P:UY}{w:Vc}{C:Cfg}{σ:St}{H H':Hp}{β:a7}{own:Nat->List Addr}{W W':Addr->Prop}
theorem bh.sA (b:bh P w C σ H β own):Dm (Wn own) H:=λa ⟨i,h⟩=>(b.dm i a h).1
theorem bh.Aj (b:bh P w C σ H β own)(k:Kd):Dm (av C (Wn own) k) H:=λa h=>by
 cases k with
 |own=>exact h.elim (b.sA a) (b.fw a)
 |cQ=>exact h.elim (b.sA a) (b.fw a)
 |old=>exact b.sA a h
 |bor=>exact h.elim
theorem gk (s:∀a,W' a->W a)(k:Kd):∀a,av C W' k a->av C W k a:=λa h=>by
 cases k with
 |own=>exact h.imp (s a) id
 |cQ=>exact h.imp (s a) id
 |old=>exact s a h
 |bor=>exact h
theorem fT (s:∀a,W' a->W a)(k:Kd):∀a,eN C W' k a->eN C W k a:=λa h=>h.imp (gk s k a) id
theorem bh.keep (b:bh P w C σ H β own)(k:Kp (λa=>H a=none) H H')(kp:Kp C.IO H H')(dn:∀a,H a≠none->H' a≠none):bh P w C σ H' β own:=by
 have ko:∀c o,H c=some o->H' c=some o:=λc o e=>k.out c o e (by rw[e];exact λz=>(nomatch z))
 have same:ay H H':=ko;exact⟨b.len,λi y d e=>let ⟨v,h1,h2⟩:=b.val i y d e;⟨v,h1,h2.same same⟩,λi d e=>let ⟨v,h1,h2,h3⟩:=b.ow i d e;⟨v,h1,h2.keep (λ_ _ e=>same _ _ e) (λc _ o e=>same c o e),h3⟩,
  λi ok e=>let ⟨a,ns,h1,h2,h3⟩:=b.l6 i ok e;⟨a,ns,h1,same _ _ h2,h3⟩,λi a h=>by
   obtain⟨h1,h2,h3⟩:=b.dm i a h;cases q:H a with
   |none=>exact absurd q h1
   |some o=>rw[same a o q];exact⟨λz=>(nomatch z),λxs z=>h2 xs (by rw[q];exact z),h3⟩,b.fQ,b.gX,b.kp.trans kp,λa z=>dn a (b.fw a z),λi y d e=>let ⟨v,h1,h2,h3⟩:=b.shl i y d e;⟨v,h1,h2.map (λc _ o e=>same c o e) (λ_ _ r=>r.same same),h3⟩⟩
theorem bh.same (b:bh P w C σ H β own)(s:ay H H'):bh P w C σ H' β own:=b.keep s.kp s.kp λa z e=>z (s.free e)
theorem cM {own:Nat->List Addr}{i:Nat}{a:Addr}(h:Wn (aC own i []) a):Wn own a:=let ⟨j,q⟩:=h;⟨j,(a3 q).1⟩
theorem aV {own:Nat->List Addr}{i j:Nat}{A:List Addr}(h:i≠j):aC own i A j=own j:=by unfold aC;rw[if_neg (WO h)]
theorem os_eq {own:Nat->List Addr}{i:Nat}{A:List Addr}:aC own i A i=A:=by unfold aC;rw[if_pos rfl]
theorem bh.eT {i:Nat}{d:D}{v:V}{y:Bool}(b:bh P w C σ H β own)(r:au P w (eN C (Wn own) (yk y)) H d v):bh P w C (σ.set i (some v)) H (β.set i (some (.val y d))) (aC own i []):=by
 have sub:∀y a,eN C (Wn (aC own i [])) (yk y) a->eN C (Wn own) (yk y) a:=λy=>fT (λa h=>cM h) _;refine⟨by simp[b.len],λj y' d' e=>?_,λj d' e=>?_,λj ok e=>?_,λj a h=>b.dm j a (a3 h).1,λj k a h1 h2=>b.fQ j k a (a3 h1).1 (a3 h2).1,λj=>?_,b.kp,b.fw,λj y' d' e=>?_⟩
 ·by_cases aB:i=j
  ·subst aB;obtain⟨e',hl⟩:=a5 e;cases e';exact⟨v,get_set (by rw[<- b.len];exact hl),r.aL (sub _)⟩
  ·rw[aW aB]at e ⊢
   obtain⟨u,h1,h2⟩:=b.val j y' d' e;exact⟨u,h1,h2.aL (sub _)⟩
 ·by_cases aB:i=j
  ·subst aB;obtain⟨e',hl⟩:=a5 e;cases e'
  ·rw[aW aB]at e ⊢
   rw[aV aB];exact b.ow j d' e
 ·by_cases aB:i=j
  ·subst aB;obtain⟨e',hl⟩:=a5 e;cases e'
  ·rw[aW aB]at e ⊢
   rw[aV aB];exact b.l6 j ok e
 ·by_cases aB:i=j
  ·rw[aB,os_eq];exact V7
  ·rw[aV aB];exact b.gX j
 ·by_cases aB:i=j
  ·subst aB;obtain⟨e',hl⟩:=a5 e;cases e'
  ·rw[aW aB]at e ⊢
   rw[aV aB];obtain⟨u,h1,h2,h3⟩:=b.shl j y' d' e;exact⟨u,h1,h2.map (λ_ _ _ z=>z) (λ_ _ r=>af.aL (sub _) r),h3⟩
theorem bh.oz {i:Nat}{d:D}{v:V}{A:List Addr}(b:bh P w C σ H β own)(r:Own P w H d v A)(nd:A.Nodup)(nw:∀c∈A,C.H0 c=none/\¬ Wn own c/\C.U c):
  bh P w {C with U:=λ_=>False} (σ.set i (some v)) H (β.set i (some (.own d))) (aC own i A):=by
 have sub:∀y a,eN {C with U:=λ_=>False} (Wn (aC own i A)) (yk y) a->eN C (Wn own) (yk y) a:=λy a h=>by
  have q:∀a,Wn (aC own i A) a->Wn own a\/a∈A:=λa wO=>by
   obtain⟨j,q⟩:=wO
   by_cases aB:i=j
   ·rw[aB,os_eq]at q;exact .inr q
   ·rw[aV aB]at q;exact .inl ⟨j,q⟩
  have q':∀a,Wn (aC own i A) a->Wn own a\/C.U a:=λa z=>(q a z).imp id λz=>(nw a z).2.2;rcases h with h|h
  ·cases y with
   |true=>exact h.elim (λz=>(q' a z).imp .inl id) λz=>.inl (.inr z)
   |false=>exact q' a h
  ·exact h.elim
 have mem:∀{j c},c∈aC own i A j->(i=j/\c∈A)\/(i≠j/\c∈own j):=λ{j c} h=>by
  by_cases aB:i=j
  ·subst aB;rw[os_eq]at h;exact .inl ⟨rfl,h⟩
  ·rw[aV aB]at h;exact .inr ⟨aB,h⟩
 refine⟨by simp[b.len],λj y' d' e=>?_,λj d' e=>?_,λj ok e=>?_,λj a h=>?_,λj k a h1 h2=>?_,λj=>?_,b.kp,b.fw,λj y' d' e=>?_⟩
 ·by_cases aB:i=j
  ·subst aB;obtain⟨e',hl⟩:=a5 e;cases e'
  ·rw[aW aB]at e ⊢
   obtain⟨u,h1,h2⟩:=b.val j y' d' e;exact⟨u,h1,h2.aL (sub _)⟩
 ·by_cases aB:i=j
  ·subst aB;obtain⟨e',hl⟩:=a5 e;cases e';rw[os_eq];exact⟨v,get_set (by rw[<- b.len];exact hl),r,λc hc=>(nw c hc).1⟩
  ·rw[aW aB]at e ⊢
   rw[aV aB];exact b.ow j d' e
 ·by_cases aB:i=j
  ·subst aB;obtain⟨e',hl⟩:=a5 e;cases e'
  ·rw[aW aB]at e ⊢
   rw[aV aB];exact b.l6 j ok e
 ·rcases mem h with⟨_,h⟩|⟨_,h⟩
  ·exact⟨(r.l7 a h).1,(r.l7 a h).2,.inl (nw a h).1,λz=>z⟩
  ·exact⟨(b.dm j a h).1,(b.dm j a h).2.1,(b.dm j a h).2.2.1,λz=>z⟩
 ·rcases mem h1 with⟨e1,h1⟩|⟨n1,h1⟩
  ·rcases mem h2 with⟨e2,h2⟩|⟨n2,h2⟩
   ·rw[<- e1,<- e2]
   ·exact absurd ⟨k,h2⟩ (nw a h1).2.1
  ·rcases mem h2 with⟨e2,h2⟩|⟨n2,h2⟩
   ·exact absurd ⟨j,h1⟩ (nw a h2).2.1
   ·exact b.fQ j k a h1 h2
 ·by_cases aB:i=j
  ·rw[<- aB,os_eq];exact nd
  ·rw[aV aB];exact b.gX j
 ·by_cases aB:i=j
  ·subst aB;obtain⟨e',hl⟩:=a5 e;cases e'
  ·rw[aW aB]at e ⊢
   rw[aV aB];obtain⟨u,h1,h2,h3⟩:=b.shl j y' d' e;exact⟨u,h1,h2.map (λ_ _ _ z=>z) (λ_ _ r=>af.aL (sub _) r),h3⟩
theorem bh.freeze {i:Nat}{d:D}(b:bh P w C σ H β own)(h:β[i]?=some (some (.own d))):bh P w C σ H (β.set i (some (.val true d))) (aC own i []):=by
 obtain⟨v,h1,h2,h3⟩:=b.ow i d h;have e:σ.set i (some v)=σ:=by
  apply WK;intro j;rw[WJ]
  by_cases aB:i=j
  ·subst aB;rw[if_pos rfl,h1];have:i<σ.length:=(U6.mp h1).1;rw[if_pos this]
  ·rw[if_neg aB]
 have q:=bh.eT (i:=i) (d:=d) (v:=v) (y:=true) (own:=aC own i []) (C:=C) (P:=P) (w:=w) (σ:=σ) (H:=H) (β:=β.set i none);have b':bh P w C σ H (β.set i none) (aC own i []):=by
  have sub:∀y a,eN C (Wn (aC own i [])) (yk y) a->eN C (Wn own) (yk y) a:=λy=>fT (λa h=>cM h) _;refine⟨by simp[b.len],λj y' d' e=>?_,λj d' e=>?_,λj ok e=>?_,λj a h=>b.dm j a (a3 h).1,λj k a h1 h2=>b.fQ j k a (a3 h1).1 (a3 h2).1,λj=>?_,b.kp,b.fw,λj y' d' e=>?_⟩
  ·by_cases aB:i=j
   ·subst aB;obtain⟨e',hl⟩:=a5 e;cases e'
   ·rw[aW aB]at e;obtain⟨u,h1,h2⟩:=b.val j y' d' e;exact⟨u,h1,h2.aL (sub _)⟩
  ·by_cases aB:i=j
   ·subst aB;obtain⟨e',hl⟩:=a5 e;cases e'
   ·rw[aW aB]at e;rw[aV aB];exact b.ow j d' e
  ·by_cases aB:i=j
   ·subst aB;obtain⟨e',hl⟩:=a5 e;cases e'
   ·rw[aW aB]at e;rw[aV aB];exact b.l6 j ok e
  ·by_cases aB:i=j
   ·rw[aB,os_eq];exact V7
   ·rw[aV aB];exact b.gX j
  ·by_cases aB:i=j
   ·subst aB;obtain⟨e',hl⟩:=a5 e;cases e'
   ·rw[aW aB]at e;rw[aV aB];obtain⟨u,h1,h2,h3⟩:=b.shl j y' d' e;exact⟨u,h1,h2.map (λ_ _ _ z=>z) (λ_ _ r=>af.aL (sub _) r),h3⟩
 have q:=bh.eT (i:=i) (d:=d) (v:=v) (y:=true) b' (h2.rep λc hc z=>by
  rcases z with (z|z)|z
  ·obtain⟨j,hj⟩:=z;obtain⟨hj,ne⟩:=a3 hj;exact ne (b.fQ j i c hj hc)
  ·exact z (h3 c hc)
  ·exact(b.dm i c hc).2.2.2 z)
 rw[e,Xw]at q;have eo:aC (aC own i []) i []=aC own i []:=by
  funext j
  by_cases aB:i=j
  ·rw[<- aB,os_eq,os_eq]
  ·rw[aV aB,aV aB]
 rwa [eo]at q
abbrev Cfg.u (C:Cfg)(U:Addr->Prop):Cfg:={C with U:=U}
theorem bh.gu {U:Addr->Prop}(b:bh P w C σ H β own)(hU:∀a,U a->H a=none):bh P w (C.u U) σ H β own :=
 ⟨b.len,λi y d e=>let ⟨v,h1,h2⟩:=b.val i y d e;⟨v,h1,au.grow (λa z=>z.elim (λz=>.inl (.inl z)) λz=>.inr (hU a z)) h2⟩,b.ow,b.l6,λi a h=>let ⟨h1,h2,h3,_⟩:=b.dm i a h;⟨h1,h2,h3,λz=>h1 (hU a z)⟩,b.fQ,b.gX,b.kp,b.fw,λi y d e=>let ⟨v,h1,h2,h3⟩:=b.shl i y d e;⟨v,h1,h2.map (λ_ _ _ z=>z) (λ_ _ r=>af.grow (λa z=>z.elim (λz=>.inl (.inl z)) λz=>.inr (hU a z)) r),h3⟩⟩
theorem bh.RT {U:Addr->Prop}(b:bh P w (C.u U) σ H β own):bh P w (C.u λ_=>False) σ H β own :=
 ⟨b.len,λi y d e=>let ⟨v,h1,h2⟩:=b.val i y d e;⟨v,h1,au.aL (λa z=>z.elim .inl λz=>z.elim) h2⟩,b.ow,b.l6,λi a h=>let ⟨h1,h2,h3,_⟩:=b.dm i a h;⟨h1,h2,h3,λz=>z⟩,b.fQ,b.gX,b.kp,b.fw,λi y d e=>let ⟨v,h1,h2,h3⟩:=b.shl i y d e;⟨v,h1,h2.map (λ_ _ _ z=>z) (λ_ _ r=>af.aL (λa z=>z.elim .inl λz=>z.elim) r),h3⟩⟩
theorem bh.gm {i:Nat}{y:Bool}{d:D}(b:bh P w C σ H β own)(e:β[i]?=some (some (.val y d))):∃v,σ[i]?=some (some v)/\au P w (av C (Wn own) (yk y)) H d v:=let ⟨v,h1,h2⟩:=b.val i y d e;⟨v,h1,au.aL (λa z=>.inl z) h2⟩
end
def KV (P:UY)(w:Vc)(C:Cfg)(Z:Hp×(Addr->Prop))(own:Nat->List Addr)(H:Hp):Kd->D->V->Prop
 |.own,d,v=>∃A,Own P w H d v A/\A.Nodup/\∀c∈A,Z.1 c=none/\¬ Wn own c/\C.H0 c=none
 |.cQ,d,v=>au P w (av C (Wn own) .cQ) H d v
 |.old,d,v=>au P w (av C (Wn own) .old) H d v
 |.bor,d,v=>au P w (av C (Wn own) .bor) H d v
structure Pp (P:UY)(w:Vc)(C:Cfg)(σ:St)(H:Hp)(own:Nat->List Addr)(p:Bool)(β':a7)(H':Hp)(aN:Nat->List Addr):Prop where
 sq:bh P w C σ H' β' aN
 sn:Sn (H,Wn own) H' (Wn aN)
 pu:p=true->ay H H'/\aN=own
 le:∀a,Wn aN a->Wn own a
abbrev Out (X:Cx):=Pp X.prog X.w
section
variable {X:Cx}{C:Cfg}{σ:St}{H H1 H2 H':Hp}{own ao aY:Nat->List Addr}{p p':Bool}{β β1 β2 β':a7}{Z:Hp×(Addr->Prop)}{d:D}{v:V}{k:Kd}{P:UY}{w:Vc}
theorem Out.refl (s:SQ X C σ H β own)(p:Bool):Out X C σ H own p β H own:=⟨s,Sn.refl,λ_=>⟨ay.refl _,rfl⟩,λ_ z=>z⟩
theorem Out.trans (a:Out X C σ H own p β1 H1 ao)(b:Out X C σ H1 ao p' β2 H2 aY):Out X C σ H own (p&&p') β2 H2 aY:=⟨b.sq,a.sn.trans b.sn,λh=>by
 rw[V0]at h;obtain⟨s1,e1⟩:=a.pu h.1;obtain⟨s2,e2⟩:=b.pu h.2;exact⟨s1.trans s2,e2.trans e1⟩,λc z=>a.le c (b.le c z)⟩
theorem Out.same (a:Out X C σ H own p β1 H1 ao)(s:ay H1 H2):Out X C σ H own p β1 H2 ao:=⟨a.sq.same s,a.sn.same s,λh=>let ⟨s1,e1⟩:=a.pu h;⟨s1.trans s,e1⟩,a.le⟩
theorem Out.wk (a:Out X C σ H own p β1 H1 ao)(h:p'=true->p=true):Out X C σ H own p' β1 H1 ao:=⟨a.sq,a.sn,λz=>a.pu (h z),a.le⟩
theorem KV.rep (h:KV P w C Z own H k d v):au P w (av C (Wn own) k) H d v:=by
 cases k with
 |own=>obtain⟨A,h1,h2,h3⟩:=h;exact h1.rep λc hc z=>z.elim (h3 c hc).2.1 λz=>z (h3 c hc).2.2
 |_=>exact h
theorem KV.cQ (h:KV P w C Z own H .own d v):KV P w C Z own H .cQ d v:=KV.rep (k:=.own) h
theorem KV.flat {W:Addr->Prop}(f:d.flat=true)(h:au P w W H d v):KV P w C Z own H .own d v:=⟨[],eF f h,V7,λc hc=>(nomatch hc)⟩
noncomputable abbrev Kd.wk:Kd->Kd
 |.own=>.cQ
 |.cQ=>.cQ
 |.old=>.old
 |.bor=>.bor
abbrev Kd.max:Kd->Kd->Kd
 |.bor,_=>.bor
 |_,.bor=>.bor
 |.old,_=>.old
 |_,.old=>.old
 |_,_=>.cQ
theorem cK {W:Addr->Prop}{a b:Kd}:∀c,av C W (a.max b) c->av C W a c:=λc h=>by
 cases a <;> cases b <;> first|exact h|exact h.elim|exact .inl h
theorem d7 {W:Addr->Prop}{a b:Kd}:∀c,av C W (a.max b) c->av C W b c:=λc h=>by
 cases a <;> cases b <;> first|exact h|exact h.elim|exact .inl h
theorem KV.of (h:au P w (av C (Wn own) k.wk) H d v):KV P w C Z own H k.wk d v:=by
 cases k <;> exact h
theorem KV.IG (h:KV P w C Z own H k d v)(s:ay H H'):KV P w C Z own H' k d v:=by
 cases k with
 |own=>obtain⟨A,h1,h2⟩:=h;exact⟨A,h1.keep (λb xs e=>s _ _ e) (λc _ o e=>s c o e),h2⟩
 |cQ=>exact au.same s h
 |old=>exact au.same s h
 |bor=>exact au.same s h
theorem KV.held (hk:k≠.bor)(h:KV P w C Z own H k d v)(n:Sn (H,Wn own) H2 (Wn aY)):KV P w C Z aY H2 k d v:=by
 cases k with
 |own =>
  obtain⟨A,h1,h2,h3⟩:=h;refine⟨A,h1.keep n.k.tup (λc hc o e=>n.k.out c o e λz=>z.elim (h3 c hc).2.1 λz=>(h1.l7 c hc).1 z),h2,λc hc=>⟨(h3 c hc).1,λz=>(n.w c z).elim (h3 c hc).2.1 λz=>(h1.l7 c hc).1 z,(h3 c hc).2.2⟩⟩
 |cQ =>
  have g:au P w (λa=>av C (Wn own) .cQ a\/H a=none) H d v:=au.grow (λb z=>z) h;exact au.aL (λb z=>z.elim (λz=>(n.w b z).imp .inl id) λz=>.inl (.inr z)) (au.keep (n.k.mono λb z=>z.imp .inl id) g)
 |old=>exact held (W:=Wn own) h n
 |bor=>exact absurd rfl hk
theorem KV.K6 (h:KV P w C Z own H k d v)(s:ay H H2)(e:aY=own):KV P w C Z aY H2 k d v:=by rw[e];exact h.IG s
abbrev hold (k:Kd)(p:Bool):Prop:=match k,p with
 |.bor,false=>False
 |_,_=>True
theorem KV.ho (h:KV P w C Z own H k d v)(o:Out X C σ H own p β' H2 aY)(hh:hold k p):KV P w C Z aY H2 k d v:=by
 cases p with
 |true=>obtain⟨s,e⟩:=o.pu rfl;exact h.K6 s e
 |false=>exact h.held (by rintro rfl;exact hh) o.sn
theorem KV.later (h:KV P w C (H1,Wn ao) own H k d v)(n:Sn Z H1 (Wn ao)):KV P w C Z own H k d v:=by
 cases k with
 |own=>obtain⟨A,h1,h2,h3⟩:=h;exact⟨A,h1,h2,λc hc=>⟨n.free (h3 c hc).1,(h3 c hc).2⟩⟩
 |_=>exact h
end
abbrev aM:=a7->(D->Kd->a7->Prop)->Prop
abbrev bb:=a7->(Bool->a7->Prop)->Prop
abbrev bI:=a7->(List D->List Kd->a7->Prop)->Prop
def tQ (X:Cx)(C:Cfg)(p:Bool)(φ:aM):TE:=λσ H Q=>∃β own,SQ X C σ H β own/\φ β λd k β'=>∀v H' aN,Out X C σ H own p β' H' aN->KV X.prog X.w C (H,Wn own) aN H' k d v->Q v H'
def jU (X:Cx)(C:Cfg)(p:Bool)(φ:bb):TT:=λσ H Q=>∃β own,SQ X C σ H β own/\φ β λb β'=>∀H' aN,Out X C σ H own p β' H' aN->Q b H'
def KF (P:UY)(w:Vc)(C:Cfg)(own:Nat->List Addr)(H:Hp):List Kd->List D->List V->List Addr->Prop
 |[],ds,vs,A=>ds=[]/\vs=[]/\A=[]
 |k::ks,ds,vs,A=>∃d dr v vr A1 A2,ds=d::dr/\vs=v::vr/\A=A1++A2/\(match k with | .own=>Own P w H d v A1|k=>A1=[]/\au P w (av C (Wn own) k) H d v)/\KF P w C own H ks dr vr A2
def sd (P:UY)(w:Vc)(C:Cfg)(Z:Hp×(Addr->Prop))(own:Nat->List Addr)(H:Hp)(ks:List Kd)(ds:List D)(vs:List V):Prop :=
 ∃A,KF P w C own H ks ds vs A/\A.Nodup/\∀c∈A,Z.1 c=none/\¬ Wn own c/\C.H0 c=none
def pE (X:Cx)(C:Cfg)(p:Bool)(φ:bI):TA:=λσ H Q=>∃β own,SQ X C σ H β own/\φ β λds ks β'=>∀vs H' aN,Out X C σ H own p β' H' aN->sd X.prog X.w C (H,Wn own) aN H' ks ds vs->Q vs H'
section
variable {C:Cfg}{H H1:Hp}{own ao:Nat->List Addr}{Z:Hp×(Addr->Prop)}{d:D}{v:V}{k:Kd}{P:UY}{w:Vc}{ks:List Kd}{ds:List D}{vs:List V}
theorem sd.nil:sd P w C Z own H [] [] []:=⟨[],⟨rfl,rfl,rfl⟩,V7,λc hc=>(nomatch hc)⟩
theorem KF.l7:∀{ks:List Kd} {ds:List D} {vs:List V} {A:List Addr},KF P w C own H ks ds vs A->∀c∈A,H c≠none
 |[],_,_,_,⟨_,_,e⟩,c,hc=>by rw[e]at hc;cases hc
 |k::ks,_,_,_,⟨d,dr,v,vr,A1,A2,rfl,rfl,rfl,h1,h2⟩,c,hc=>by
  rcases Vh.mp hc with hc|hc
  ·cases k with
   |own=>exact(Own.l7 h1 c hc).1
   |_=>rw[h1.1]at hc;cases hc
  ·exact KF.l7 h2 c hc
theorem sd.cons (h1:KV P w C Z ao H1 k d v)(n:Sn (H1,Wn ao) H (Wn own))(wU:KV P w C Z own H k d v)(h2:sd P w C (H1,Wn ao) own H ks ds vs)(n0:Sn Z H1 (Wn ao)):sd P w C Z own H (k::ks) (d::ds) (v::vs):=by
 obtain⟨A2,f2,wu,q2⟩:=h2;have z2:∀c∈A2,Z.1 c=none/\¬ Wn own c/\C.H0 c=none:=λc hc=>⟨n0.free (q2 c hc).1,(q2 c hc).2⟩;cases k with
 |own =>
  obtain⟨A1,o1,DZ,q1⟩:=h1;obtain⟨UP,Ui,RW,P5⟩:=(show KV P w C Z own H .own d v from KV.held (k:=.own) (λz=>(nomatch z)) (⟨A1,o1,DZ,q1⟩:KV P w C Z ao H1 .own d v) n)
  have Nf:Own P w H d v A1:=o1.keep n.k.tup (λc hc o e=>n.k.out c o e λz=>z.elim (q1 c hc).2.1 λz=>(o1.l7 c hc).1 z);refine⟨A1++A2,⟨d,ds,v,vs,A1,A2,rfl,rfl,rfl,Nf,f2⟩,Vu.mpr ⟨DZ,wu,λa ha b hb e=>?_⟩,λc hc=>?_⟩
  ·subst e;exact(o1.l7 a ha).1 (q2 a hb).1
  ·rcases Vh.mp hc with hc|hc
   ·exact⟨(q1 c hc).1,λz=>(n.w c z).elim (q1 c hc).2.1 λz=>(o1.l7 c hc).1 z,(q1 c hc).2.2⟩
   ·exact z2 c hc
 |cQ=>exact⟨A2,⟨d,ds,v,vs,[],A2,rfl,rfl,rfl,⟨rfl,wU⟩,f2⟩,wu,z2⟩
 |old=>exact⟨A2,⟨d,ds,v,vs,[],A2,rfl,rfl,rfl,⟨rfl,wU⟩,f2⟩,wu,z2⟩
 |bor=>exact⟨A2,⟨d,ds,v,vs,[],A2,rfl,rfl,rfl,⟨rfl,wU⟩,f2⟩,wu,z2⟩
abbrev ed:List Kd->Kd
 |[]=>.cQ
 |k::ks=>Kd.max k (ed ks)
theorem KF.fG:∀{ks:List Kd} {ds:List D} {vs:List V} {A:List Addr},KF P w C own H ks ds vs A->(∀c∈A,¬ Wn own c/\C.H0 c=none)->af P w (av C (Wn own) (ed ks)) H ds vs
 |[],_,_,_,⟨e1,e2,e⟩,_=>by rw[e1,e2];rfl
 |k::ks,_,_,_,⟨d,dr,v,vr,A1,A2,rfl,rfl,rfl,h1,h2⟩,hA=>by
  refine⟨v,vr,rfl,?_,af.aL d7 (KF.fG h2 λc hc=>hA c (Vw _ hc))⟩;cases k with
  |own=>exact au.aL cK (Own.rep (W:=av C (Wn own) .own) (λc hc z=>z.elim (hA c (WI _ hc)).1 λz=>z (hA c (WI _ hc)).2) h1)
  |cQ=>exact au.aL (cK (a:=.cQ)) h1.2
  |old=>exact au.aL (cK (a:=.old)) h1.2
  |bor=>exact au.aL (cK (a:=.bor)) h1.2
theorem sd.fG (h:sd P w C Z own H ks ds vs):af P w (av C (Wn own) (ed ks)) H ds vs:=let ⟨A,h1,_,h3⟩:=h;h1.fG λc hc=>(h3 c hc).2
theorem sd.bor (h:sd P w C Z own H ks ds vs):af P w (λ_=>False) H ds vs:=af.aL (λ_ z=>z.elim) h.fG
def vC:List Kd->List D->Prop
 |k::ks,d::ds=>(match k with | .own=>True|_=>d.flat=true)/\vC ks ds
 |_,_=>True
theorem KF.FF:∀{ks:List Kd} {ds:List D} {vs:List V} {A:List Addr},KF P w C own H ks ds vs A->vC ks ds->aH P w H ds vs A
 |[],_,_,_,⟨e1,e2,e⟩,_=>by rw[e1,e2,e];exact⟨rfl,rfl⟩
 |k::ks,_,_,_,⟨d,dr,v,vr,A1,A2,rfl,rfl,rfl,h1,h2⟩,⟨f1,f2⟩=>by
  refine⟨v,vr,A1,A2,rfl,rfl,?_,KF.FF h2 f2⟩;cases k with
  |own=>exact h1
  |cQ=>rw[h1.1];exact eF f1 h1.2
  |old=>rw[h1.1];exact eF f1 h1.2
  |bor=>rw[h1.1];exact eF f1 h1.2
theorem iu:∀{ks:List Kd},(ed ks).wk=ed ks
 |[]=>rfl
 |k::ks=>by cases k <;> cases h:ed ks <;> simp[ed,Kd.max,h]
def zD (ks:List Kd)(ds:List D)(K:Kd->Prop):Prop:=match ks.all (λk=>match k with | .own=>true|_=>false)with
 |true=>K .own
 |false=>(vC ks ds/\K .own)\/K (ed ks)
theorem zD.mono {ks:List Kd}{ds:List D}{K K':Kd->Prop}(k:∀x,K x->K' x)(h:zD ks ds K):zD ks ds K':=by
 unfold zD at *
 split
 ·next e=>rw[e]at h;exact k _ h
 ·next e=>rw[e]at h;exact h.imp (λz=>⟨z.1,k _ z.2⟩) (k _)
theorem zD.of {ks:List Kd}{ds:List D}{K:Kd->Prop}(h:zD ks ds K):(vC ks ds/\K .own)\/K (ed ks):=by
 unfold zD at h
 split at h
 ·next e =>
  refine .inl ⟨?_,h⟩
  clear h
  induction ks generalizing ds with
  |nil=>cases ds <;> trivial
  |cons k ks ih =>
   cases ds with
   |nil=>trivial
   |cons d ds =>
    rw[List.all_cons,V0]at e;refine⟨?_,ih e.2⟩;have e1:=e.1;cases k <;> first|trivial|cases e1
 ·exact h
end
structure PQ (X:Cx)(C:Cfg)(p:Bool)(e:Expr)(φ:aM):Prop where
 mono:∀β R R',(∀d k β,R d k β->R' d k β)->φ β R->φ β R'
 pe:PE X e (tQ X C p φ)
structure vB (X:Cx)(C:Cfg)(p:Bool)(e:Expr)(φ:bb):Prop where
 mono:∀β R R',(∀d β,R d β->R' d β)->φ β R->φ β R'
 pt:PT X e (jU X C p φ)
structure sG (X:Cx)(C:Cfg)(p:Bool)(e:Expr)(φ:bb):Prop where
 mono:∀β R R',(∀d β,R d β->R' d β)->φ β R->φ β R'
 pw:PW X e (jU X C p φ)
structure nO (X:Cx)(C:Cfg)(p:Bool)(es:List Expr)(φ:bI):Prop where
 mono:∀β R R',(∀d k β,R d k β->R' d k β)->φ β R->φ β R'
 pa:PA X es (pE X C p φ)
section
variable {X:Cx}{C:Cfg}{a b c e:Expr}{es:List Expr}{φ φa φb:aM}{τ τa τb:bb}{φs:bI}{pos:Pos}{σ:St}{H H':Hp}{β:a7}{own:Nat->List Addr}{p p':Bool}
theorem tQ.of (h:PQ X C p e φ)(s:SQ X C σ H β own){R:D->Kd->a7->Prop}{Q:VK}(hr:φ β R)(k:∀d kd β' v H' aN,R d kd β'->Out X C σ H own p β' H' aN->KV X.prog X.w C (H,Wn own) aN H' kd d v->Q v H'):tQ X C p φ σ H Q :=
 ⟨β,own,s,h.mono β _ _ (λd kd β' hd v H' aN o r=>k d kd β' v H' aN hd o r) hr⟩
theorem jU.of (h:vB X C p e τ)(s:SQ X C σ H β own){R:Bool->a7->Prop}{Q:Bool->Hp->Prop}(hr:τ β R)(k:∀t β' H' aN,R t β'->Out X C σ H own p β' H' aN->Q t H'):jU X C p τ σ H Q :=
 ⟨β,own,s,h.mono β _ _ (λt β' hd H' aN o=>k t β' H' aN hd o) hr⟩
theorem pE.of (h:nO X C p es φs)(s:SQ X C σ H β own){R:List D->List Kd->a7->Prop}{Q:List V->Hp->Prop}(hr:φs β R)(k:∀ds ks β' vs H' aN,R ds ks β'->Out X C σ H own p β' H' aN->sd X.prog X.w C (H,Wn own) aN H' ks ds vs->Q vs H'):pE X C p φs σ H Q :=
 ⟨β,own,s,h.mono β _ _ (λd kd β' hd v H' aN o r=>k d kd β' v H' aN hd o r) hr⟩
theorem sG.t (h:sG X C p e τ):vB X C p e τ:=⟨h.mono,h.pw.pt⟩
noncomputable abbrev vk (y:Bool):D->Kd
 |.int _=>.own
 |.bl _=>.own
 |.bC=>.own
 |.str _=>.own
 |_=>yk y
def qB:B->(D->Kd->Prop)->Prop
 |.val y d,K=>K d (vk y d)
 |.own d,K=>K d .bor
 |.hand _,_=>False
 |.shl _ _,_=>False
def MZ (i:Nat):aM:=λβ R=>∃b,β[i]?=some (some b)/\qB b λd k=>R d k β
theorem F9 {P:UY}{w:Vc}{Z:Hp×(Addr->Prop)}{y:Bool}{d:D}{v:V}(h:au P w (av C (Wn own) (yk y)) H d v):KV P w C Z own H (vk y d) d v:=by
 cases d with
 |int i=>exact KV.flat rfl h
 |bl i=>exact KV.flat rfl h
 |bC=>exact KV.flat rfl h
 |str i=>exact KV.flat rfl h
 |_=>cases y <;> exact h
theorem ab {i:Nat}{x:Str}(hN:X.N[i]?=some x:=by rfl)(hv:j9 X.env.scope x:=by first|exact .inl rfl|exact .inr (.inl rfl)|exact .inr (.inr rfl))(hd:(x==("__debug__" : Str))=false:=by decide)(c7:(x==("__classdict__" : Str))=false:=by decide):
  PQ X C true (.Name x pos) (MZ i):=⟨λβ R R' k wO=>by obtain⟨b,e,h⟩:=wO;exact⟨b,e,by cases b <;> first|exact k _ _ _ h|exact h⟩,(bp hN hv hd c7).pre λσ H Q GD=>by
 obtain⟨β,own,s,b,e,q⟩:=GD;cases b with
 |val y d=>obtain⟨v,h1,h2⟩:=s.gm e;exact⟨v,h1,q v H own (Out.refl s _) (F9 h2)⟩
 |own d=>obtain⟨v,h1,h2,h3⟩:=s.ow i d e;exact⟨v,h1,q v H own (Out.refl s _) (h2.rep λ_ _ z=>z)⟩
 |hand ok=>exact q.elim
 |shl _ _=>exact q.elim⟩
def M7 (i:Nat):aM:=λβ R=>∃d,β[i]?=some (some (.own d))/\R d .cQ (β.set i (some (.val true d)))
theorem Fw {i:Nat}{x:Str}(hN:X.N[i]?=some x:=by rfl)(hv:j9 X.env.scope x:=by first|exact .inl rfl|exact .inr (.inl rfl)|exact .inr (.inr rfl))(hd:(x==("__debug__" : Str))=false:=by decide)(c7:(x==("__classdict__" : Str))=false:=by decide):
  PQ X C false (.Name x pos) (M7 i):=⟨λβ R R' k JX=>by obtain⟨b,e,h⟩:=JX;exact⟨b,e,k _ _ _ h⟩,(bp hN hv hd c7).pre λσ H Q Gz=>by
 obtain⟨β,own,s,d,e,q⟩:=Gz;have f:=s.freeze e;obtain⟨v,h1,h2⟩:=f.gm (y:=true) (get_set (by rw[s.len];obtain⟨v,h1,_⟩:=s.ow i d e;exact(U6.mp h1).1))
 exact⟨v,h1,q v H _ ⟨f,⟨λb z=>.inl (cM z),Kp.refl,λ_ z=>z⟩,λz=>(nomatch z),λ_ z=>cM z⟩ h2⟩⟩
def qC (d:D):aM:=λβ R=>R d .own β
theorem ah {i j}:PQ X C true (.Constant (.int i) j pos) (qC (.int i)):=⟨λρ R R' k h=>k _ _ _ h,aO.pre λσ H Q NY=>by obtain⟨β,own,s,q⟩:=NY;exact q _ H own (Out.refl s _) (KV.flat (W:=λ_=>False) rfl rfl)⟩
theorem jC {b j}:PQ X C true (.Constant (.bool b) j pos) (qC (.bl b)):=⟨λρ R R' k h=>k _ _ _ h,yP.pre λσ H Q Su=>by obtain⟨β,own,s,q⟩:=Su;exact q _ H own (Out.refl s _) (KV.flat (W:=λ_=>False) rfl rfl)⟩
theorem oH {j}:PQ X C true (.Constant .none j pos) (qC .bC):=⟨λρ R R' k h=>k _ _ _ h,FC.pre λσ H Q Gy=>by obtain⟨β,own,s,q⟩:=Gy;exact q _ H own (Out.refl s _) (KV.flat (W:=λ_=>False) rfl rfl)⟩
def yx (X:Cx)(f:D->D->Option D)(N:D->Prop):R2:=λx y H Q=>∃W d1 d2 d,Dm W H/\Rp X W H d1 x/\Rp X W H d2 y/\f d1 d2=some d/\∀v H',ay H H'->Rp X W H' d v->(N d->Rp X (λa=>H a≠none) H' d v)->Q v H'
abbrev Mn (X:Cx)(f:UQ->UQ->Sem UQ)(g:D->D->Option D)(N:D->Prop):Prop:=iJ X f (yx X g N)
theorem b8.m {f:UQ->UQ->Sem UQ}{g:D->D->Option D}(h:b8 X f g):Mn X f g NF:=λpins s σ H x y v u Q I rx ry ⟨W,d1,d2,d,hd,r1,r2,e,q⟩ =>
 h pins s σ H x y v u Q I rx ry ⟨W,d1,d2,d,hd,r1,r2,e,λv H' s r=>q v H' s r λf=>au.flat f r⟩
noncomputable def kN (N:D->Prop)(d:D)(k:Kd)(K:Kd->Prop):Prop:=match d with
 |.int _=>K .own
 |.bl _=>K .own
 |.bC=>K .own
 |.str _=>K .own
 |.tup _=>K k
 |_=>(N d/\K .own)\/K k
theorem kN.mono {N:D->Prop}{d:D}{k:Kd}{K K':Kd->Prop}(h:∀x,K x->K' x)(q:kN N d k K):kN N d k K':=by
 cases d <;> first|exact h _ q|exact q.imp (λz=>⟨z.1,h _ z.2⟩) (h _)
theorem f_ {P:UY}{w:Vc}{Z:Hp×(Addr->Prop)}{d:D}{v:V}(hd:Dm (Wn own) H)(h0:∀a,C.H0 a≠none->H a≠none)(hz:∀a,Z.1 a≠none->H a≠none)(f:NL d)(r:au P w (λa=>H a≠none) H' d v):KV P w C Z own H' .own d v:=by
 have nn:∀{a:Addr},¬ (H a≠none)->H a=none:=λ{a} h=>VF λz=>h z;have cl:∀{a:Addr},H a=none->Z.1 a=none/\¬ Wn own a/\C.H0 a=none:=λ{a} h=>⟨VF λz=>hz a z h,λz=>hd a z h,VF λz=>h0 a z h⟩;cases d with
 |lst ds =>
  obtain⟨a,vs,rfl,e,n,q⟩:=r;exact⟨[a],⟨a,vs,[],rfl,e,rfl,i6 f q⟩,by simp,λc hc=>by rw[U3.mp hc];exact cl (nn n)⟩
 |_=>exact KV.flat f r
theorem KV.kN {N:D->Prop}{P:UY}{w:Vc}{Z:Hp×(Addr->Prop)}{d:D}{v:V}{k:Kd}{K:Kd->Prop}(hk:k.wk=k)(r:au P w (av C (Wn own) k) H' d v)(ro:N d->KV P w C Z own H' .own d v)(q:kN N d k K):∃k',K k'/\KV P w C Z own H' k' d v:=by
 have rk:KV P w C Z own H' k d v:=by rw[<- hk];exact KV.of (by rw[hk];exact r)
 cases d with
 |int i=>exact⟨_,q,KV.flat rfl r⟩
 |bl i=>exact⟨_,q,KV.flat rfl r⟩
 |bC=>exact⟨_,q,KV.flat rfl r⟩
 |str i=>exact⟨_,q,KV.flat rfl r⟩
 |tup ds=>exact⟨_,q,rk⟩
 |_=>exact q.elim (λz=>⟨_,z.2,ro z.1⟩) λz=>⟨_,z,rk⟩
structure Be (N:D->Prop):Prop where
 nl:∀d,N d->NL d
theorem aJ:Be NL:=⟨λ_ h=>h⟩
theorem ag:Be NF:=⟨λd h=>by cases d <;> first|exact h|cases h⟩
theorem zh {a b:Kd}:(a.max b).wk=a.max b:=by cases a <;> cases b <;> rfl
def xu (g:D->D->Option D)(N:D->Prop)(pb:Bool)(φa φb:aM):aM:=λβ R=>φa β λx ka β1=>hold ka pb/\φb β1 λy kb β2=>∃d,g x y=some d/\kN N d (ka.max kb) λk=>R d k β2
variable {g:D->D->Option D}{N:D->Prop}
theorem xu.mono (ha:PQ X C p a φa)(hb:PQ X C p' b φb):∀β R R',(∀d k β,R d k β->R' d k β)->xu g N p' φa φb β R->xu g N p' φa φb β R':=λβ R R' k h =>
 ha.mono β _ _ (λx ka β1 hx=>⟨hx.1,hb.mono β1 _ _ (λy kb β2 tS=>by obtain⟨d,e,q⟩:=tS;exact⟨d,e,q.mono λ_ z=>k _ _ _ z⟩) hx.2⟩) h
theorem sW (hn:Be N)(ha:PQ X C p a φa)(hb:PQ X C p' b φb):∀σ H Q,tQ X C (p&&p') (xu g N p' φa φb) σ H Q->Ip (yx X g N) (tQ X C p φa) (tQ X C p' φb) σ H Q:=λσ H Q ⟨β,own,s,h⟩ =>
 tQ.of ha s h λd1 k1 β1 v1 H1 ao ⟨hh,h1⟩ o1 r1=>tQ.of hb o1.sq h1 λd2 k2 β2 v2 H2 aY zN o2 r2=>by
  obtain⟨d,e,q⟩:=zN;have HG:=r1.ho o2 hh;refine⟨av C (Wn aY) (k1.max k2),d1,d2,d,o2.sq.Aj _,au.aL cK HG.rep,au.aL d7 r2.rep,e,λv H' s3 r3 n3=>?_⟩;have o:=(o1.trans o2).same s3;obtain⟨k,q,r⟩:=KV.kN (Z:=(H,Wn own)) zh r3 (λn=>f_ (H:=H2) o2.sq.sA o2.sq.fw (λa z=>o2.sn.d a (o1.sn.d a z)) (hn.nl _ n) (n3 n)) q;exact q v H' aY o r
theorem aI {op:Operator}(hn:Be N)(ho:Mn X (WR op) g N)(ha:PQ X C p a φa)(hb:PQ X C p' b φb):PQ X C (p&&p') (.BinOp a op b pos) (xu g N p' φa φb):=⟨xu.mono ha hb,(bB ho ha.pe hb.pe).pre (sW hn ha hb)⟩
theorem kR {op:XS}(hn:Be N)(ho:Mn X (VY op) g N)(ha:PQ X C p a φa)(hb:PQ X C p' b φb)(hm:WY op b=false:=by first|exact qG _ (by decide) (by decide)|rfl):PQ X C (p&&p') (.Compare a [op] [b] pos) (xu g N p' φa φb) :=
 ⟨xu.mono ha hb,(B5 ho ha.pe hb.pe hm).pre (sW hn ha hb)⟩
theorem aR (hn:Be N)(ho:Bf X (yx X g N))(ha:PQ X C p a φa)(hb:PQ X C p' b φb)(hs:d8 b:=by exact λ_ _=>rfl):PQ X C (p&&p') (.Subscript a b pos) (xu g N p' φa φb):=⟨xu.mono ha hb,(cT ho ha.pe hb.pe hs).pre (sW hn ha hb)⟩
def DL (φ:aM):bb:=λβ R=>φ β λd k β'=>∃b,d=.bl b/\R b β'
theorem aS {op:XS}(hn:Be N)(ho:Mn X (VY op) g N)(ha:PQ X C p a φa)(hb:PQ X C p' b φb)(hm:WY op b=false:=by first|exact qG _ (by decide) (by decide)|rfl):vB X C (p&&p') (.Compare a [op] [b] pos) (DL (xu g N p' φa φb)) :=
 ⟨λβ R R' k h=>xu.mono ha hb β _ _ (λd kd β GO=>by obtain⟨t,e,q⟩:=GO;exact⟨t,e,k _ _ q⟩) h,(jY ho ha.pe hb.pe hm).pre λσ H Q ⟨β,own,s,h⟩ =>
  tQ.of ha s h λd1 k1 β1 v1 H1 ao ⟨hh,h1⟩ o1 r1=>tQ.of hb o1.sq h1 λd2 k2 β2 v2 H2 aY GN o2 r2=>by
   obtain⟨d,e,q⟩:=GN;have HG:=r1.ho o2 hh;refine⟨av C (Wn aY) (k1.max k2),d1,d2,d,o2.sq.Aj _,au.aL cK HG.rep,au.aL d7 r2.rep,e,λv H' s3 r3 n3=>?_⟩;obtain⟨k,⟨t,et,q'⟩,r⟩:=KV.kN (Z:=(H,Wn own)) zh r3 (λn=>f_ (H:=H2) o2.sq.sA o2.sq.fw (λa z=>o2.sn.d a (o1.sn.d a z)) (hn.nl _ n) (n3 n)) q;subst et;cases r3;exact⟨t,rfl,q' H' aY ((o1.trans o2).same s3)⟩⟩
theorem d3 (ha:PQ X C p a φa)(he:∀whole,isTrue a X.env whole=(do let v <- whole;YE a.pos;holding [v] (truthy v)):=by intro _;rfl):vB X C p a (DL φa) :=
 ⟨λβ R R' k h=>ha.mono β _ _ (λd kd β' GL=>by obtain⟨b,e,q⟩:=GL;exact⟨b,e,k _ _ q⟩) h,(Ft ha.pe he).pre λσ H Q ⟨β,own,s,h⟩=>tQ.of ha s h λd k β' v H1 ao GJ o1 r1=>by
  obtain⟨b,e,q⟩:=GJ;subst e;cases r1.rep;exact⟨b,rfl,q H1 ao o1⟩⟩
def IS (τ:bb):bb:=λβ R=>τ β λb β'=>R (!b) β'
theorem ie (ha:vB X C p a τ):vB X C p (.UnaryOp .Not a pos) (IS τ) :=
 ⟨λβ R R' k h=>ha.mono β _ _ (λb β' q=>k _ _ q) h,(Fu ha.pt).pre λσ H Q GI=>by obtain⟨β,own,s,h⟩:=GI;exact jU.of ha s h λb β' H1 ao q o=>q H1 ao o⟩
variable {rest:List Expr}
def IY (τa τb:bb):bb:=λβ R=>τa β λt β1=>if t=true then τb β1 R else R false β1
def M3 (τa τb:bb):bb:=λβ R=>τa β λt β1=>if t=true then R true β1 else τb β1 R
theorem kO (ha:vB X C p a τ):sG X C p (.BoolOp .And [a] pos) τ:=⟨ha.mono,pw_and1 ha.pt⟩
theorem ic (ha:vB X C p a τ):sG X C p (.BoolOp .Or [a] pos) τ:=⟨ha.mono,pw_or1 ha.pt⟩
theorem AL {p q:Bool}(z:(p&&q)=true):p=true:=by cases p <;> first|rfl|cases z
theorem Pl {p q:Bool}(z:(p&&q)=true):q=true:=by cases p <;> first|exact z|cases z
theorem oG (ha:vB X C p a τa)(hb:sG X C p' (.BoolOp .And (b::rest) pos) τb):sG X C (p&&p') (.BoolOp .And (a::b::rest) pos) (IY τa τb) :=
 ⟨λβ R R' k h=>ha.mono β _ _ (λt β1 q=>by
   cases t
   ·exact k _ _ q
   ·exact hb.mono β1 _ _ k q) h,(pw_and ha.pt hb.pw).pre λσ H Q ⟨β,own,s,h⟩=>jU.of ha s h λt β1 H1 ao q o1=>by
  cases t
  ·exact q H1 ao (o1.wk AL)
  ·exact jU.of hb.t o1.sq q λt' β2 H2 aY q2 o2=>q2 H2 aY (o1.trans o2)⟩
theorem gK (ha:vB X C p a τa)(hb:sG X C p' (.BoolOp .Or (b::rest) pos) τb):sG X C (p&&p') (.BoolOp .Or (a::b::rest) pos) (M3 τa τb) :=
 ⟨λβ R R' k h=>ha.mono β _ _ (λt β1 q=>by
   cases t
   ·exact hb.mono β1 _ _ k q
   ·exact k _ _ q) h,(pw_or ha.pt hb.pw).pre λσ H Q ⟨β,own,s,h⟩=>jU.of ha s h λt β1 H1 ao q o1=>by
  cases t
  ·exact jU.of hb.t o1.sq q λt' β2 H2 aY q2 o2=>q2 H2 aY (o1.trans o2)
  ·exact q H1 ao (o1.wk AL)⟩
def M8 (φa φb:aM):aM:=λβ R=>φa β λx _ β1=>∃c,x=.bl c/\if c=true then φb β1 R else R (.bl false) .own β1
def RK (φa φb:aM):aM:=λβ R=>φa β λx _ β1=>∃c,x=.bl c/\if c=true then R (.bl true) .own β1 else φb β1 R
def M4 (φa:aM):aM:=λβ R=>φa β λx _ β1=>∃c,x=.bl c/\R (.bl (!c)) .own β1
theorem sZ {op}(h:PQ X C p a φ):PQ X C p (.BoolOp op [a] pos) φ:=⟨h.mono,Fz h.pe⟩
theorem uX {P:UY}{w:Vc}{Z:Hp×(Addr->Prop)}{b:Bool}:KV P w C Z own H .own (.bl b) (.bl b):=KV.flat (W:=λ_=>False) rfl rfl
theorem s9 (ha:PQ X C p a φa)(hb:PQ X C p' (.BoolOp .And (b::rest) pos) φb):PQ X C (p&&p') (.BoolOp .And (a::b::rest) pos) (M8 φa φb) :=
 ⟨λβ R R' k h=>ha.mono β _ _ (λd kd β1 ⟨c,e,q⟩=>⟨c,e,by
   cases c
   ·exact k _ _ _ q
   ·exact hb.mono β1 _ _ k q⟩) h,(FE ha.pe hb.pe).pre λσ H Q ⟨β,own,s,h⟩=>tQ.of ha s h λd kd β1 v H1 ao GG o1 r1=>by
  obtain⟨c,e,q⟩:=GG;subst e;cases r1.rep;refine⟨c,rfl,?_⟩;cases c
  ·exact q _ H1 ao (o1.wk AL) uX
  ·exact tQ.of hb o1.sq q λd2 k2 β2 v2 H2 aY q2 o2 r2=>q2 v2 H2 aY (o1.trans o2) (r2.later o1.sn)⟩
theorem I_ (ha:PQ X C p a φa)(hb:PQ X C p' (.BoolOp .Or (b::rest) pos) φb):PQ X C (p&&p') (.BoolOp .Or (a::b::rest) pos) (RK φa φb) :=
 ⟨λβ R R' k h=>ha.mono β _ _ (λd kd β1 ⟨c,e,q⟩=>⟨c,e,by
   cases c
   ·exact hb.mono β1 _ _ k q
   ·exact k _ _ _ q⟩) h,(Je ha.pe hb.pe).pre λσ H Q ⟨β,own,s,h⟩=>tQ.of ha s h λd kd β1 v H1 ao GC o1 r1=>by
  obtain⟨c,e,q⟩:=GC;subst e;cases r1.rep;refine⟨c,rfl,?_⟩;cases c
  ·exact tQ.of hb o1.sq q λd2 k2 β2 v2 H2 aY q2 o2 r2=>q2 v2 H2 aY (o1.trans o2) (r2.later o1.sn)
  ·exact q _ H1 ao (o1.wk AL) uX⟩
theorem Fv (ha:PQ X C p a φa):PQ X C p (.UnaryOp .Not a pos) (M4 φa) :=
 ⟨λβ R R' k h=>ha.mono β _ _ (λd kd β1 GB=>by obtain⟨c,e,q⟩:=GB;exact⟨c,e,k _ _ _ q⟩) h,(FA ha.pe).pre λσ H Q ⟨β,own,s,h⟩=>tQ.of ha s h λd kd β1 v H1 ao GA o1 r1=>by
  obtain⟨c,e,q⟩:=GA;subst e;cases r1.rep;exact⟨c,rfl,q _ H1 ao o1 uX⟩⟩
def RE (g:D->Option D)(φa:aM):aM:=λβ R=>φa β λx _ β1=>∃d,g x=some d/\d.flat=true/\R d .own β1
theorem jB {op:UnaryOp}{g:D->Option D}(ho:Lz X (unaryOp op) (P1 X g))(ha:PQ X C p a φa):PQ X C p (.UnaryOp op a pos) (RE g φa) :=
 ⟨λβ R R' k h=>ha.mono β _ _ (λx _ β1 N7=>by obtain⟨d,e,f,q⟩:=N7;exact⟨d,e,f,k _ _ _ q⟩) h,(DQ ho ha.pe).pre λσ H Q ⟨β,own,s,h⟩ =>
  tQ.of ha s h λd1 k1 β1 v1 H1 ao N6 o1 r1=>by obtain⟨d,e,f,q⟩:=N6;exact⟨_,d1,d,o1.sq.Aj _,r1.rep,e,λv H' s2 r2=>q v H' ao (o1.same s2) (KV.flat f r2)⟩⟩
def M5:bI:=λβ R=>R [] [] β
def IW (pr:Bool)(φ:aM)(φs:bI):bI:=λβ R=>φ β λd k β1=>hold k pr/\φs β1 λds ks β2=>R (d::ds) (k::ks) β2
theorem ae:nO X C true [] M5:=⟨λβ R R' k h=>k _ _ _ h,bq.pre λσ H Q N5=>by obtain⟨β,own,s,q⟩:=N5;exact q [] H own (Out.refl s _) sd.nil⟩
theorem aa (ha:PQ X C p a φ)(hr:nO X C p' es φs)(hs:U5 (a::es) X.env=(false,eval a X.env)::U5 es X.env:=by rfl):nO X C (p&&p') (a::es) (IW p' φ φs) :=
 ⟨λβ R R' k h=>ha.mono β _ _ (λd kd β1 q=>⟨q.1,hr.mono β1 _ _ (λds ks β2 q2=>k _ _ _ q2) q.2⟩) h,(aF ha.pe hr.pa hs).pre λσ H Q ⟨β,own,s,h⟩ =>
  tQ.of ha s h λd1 k1 β1 v1 H1 ao N4 o1 r1=>by obtain⟨hh,h1⟩:=N4;exact pE.of hr o1.sq h1 λds ks β2 vs H2 aY q o2 r2=>q (v1::vs) H2 aY (o1.trans o2) (sd.cons r1 o2.sn (r1.ho o2 hh) r2 o1.sn)⟩
def M0 (φs:bI):aM:=λβ R=>φs β λds ks β1=>ds.length<=U8/\zD ks ds λk=>R (.tup ds) k β1
def M6 (φs:bI):aM:=λβ R=>φs β λds ks β1=>ds.length<=U8/\zD ks ds λk=>R (.lst ds) k β1
theorem aH.same {P:UY}{w:Vc}{ds:List D}{vs:List V}{A:List Addr}(s:ay H H')(h:aH P w H ds vs A):aH P w H' ds vs A:=h.keep (λb xs e=>s _ _ e) λc _ o e=>s c o e
theorem F_ {P:UY}{w:Vc}{Z:Hp×(Addr->Prop)}{ks:List Kd}{ds:List D}{vs:List V}{K:Kd->Prop}{q:Addr}(hq:H q=none)(h:sd P w C Z own H ks ds vs)(m:zD ks ds K):∃k,K k/\KV P w C Z own (upd H q (.tup vs)) k (.tup ds) (.ref q):=by
 rcases m.of with⟨f,k⟩|k
 ·obtain⟨A,h1,h2,h3⟩:=h;exact⟨_,k,A,⟨q,vs,rfl,aj,(h1.FF f).same (ay.new hq)⟩,h2,h3⟩
 ·refine⟨_,k,?_⟩;rw[<- iu];exact KV.of (by rw[iu];exact⟨q,vs,rfl,aj,h.fG.same (ay.new hq)⟩)
theorem Ga {P:UY}{w:Vc}{Z:Hp×(Addr->Prop)}{ks:List Kd}{ds:List D}{vs:List V}{K:Kd->Prop}{q:Addr}(hq:H q=none)(hd:Dm (Wn own) H)(h0:∀a,C.H0 a≠none->H a≠none)(hz:∀a,Z.1 a≠none->H a≠none)(h:sd P w C Z own H ks ds vs)(m:zD ks ds K):∃k,K k/\KV P w C Z own (upd H q (.lst vs)) k (.lst ds) (.ref q):=by
 rcases m.of with⟨f,k⟩|k
 ·obtain⟨A,h1,h2,h3⟩:=h;refine⟨_,k,q::A,⟨q,vs,A,rfl,aj,rfl,(h1.FF f).same (ay.new hq)⟩,Vt.mpr ⟨λz=>h1.l7 q z hq,h2⟩,λc hc=>?_⟩;rcases UW.mp hc with rfl|hc
  ·exact⟨VF λz=>hz c z hq,λz=>hd c z hq,VF λz=>h0 c z hq⟩
  ·exact h3 c hc
 ·refine⟨_,k,?_⟩;have nq:¬ av C (Wn own) (ed ks) q:=λz=>by
   cases e:ed ks <;> rw[e]at z <;> first|exact z.elim (λz=>hd q z hq) λz=>h0 q z hq|exact hd q z hq|exact z
  rw[<- iu];exact KV.of (by rw[iu];exact⟨q,vs,rfl,aj,nq,h.fG.same (ay.new hq)⟩)
theorem sd.length {P:UY}{w:Vc}{Z:Hp×(Addr->Prop)}{ks:List Kd}{ds:List D}{vs:List V}(h:sd P w C Z own H ks ds vs):vs.length=ds.length:=h.fG.length
theorem bP {x1}(h:nO X C p es φs):PQ X C p (.Tuple es x1 pos) (M0 φs) :=
 ⟨λβ R R' k q=>h.mono β _ _ (λds ks β1 N3=>by obtain⟨l,q⟩:=N3;exact⟨l,q.mono λ_ z=>k _ _ _ z⟩) q,(yN h.pa).pre λσ H Q ⟨β,own,s,q⟩=>pE.of h s q λds ks β1 vs H1 ao ⟨l,q1⟩ o1 r1 =>
  ⟨by rw[r1.length];exact l,λq hq=>let ⟨k,q1,r⟩:=F_ hq r1 q1;q1 _ _ ao (o1.same (ay.new hq)) r⟩⟩
theorem bc (h:nO X C p es φs):PQ X C p (.List es pos) (M6 φs) :=
 ⟨λβ R R' k q=>h.mono β _ _ (λds ks β1 N2=>by obtain⟨l,q⟩:=N2;exact⟨l,q.mono λ_ z=>k _ _ _ z⟩) q,(oJ h.pa).pre λσ H Q ⟨β,own,s,q⟩=>pE.of h s q λds ks β1 vs H1 ao ⟨l,q1⟩ o1 r1 =>
  ⟨by rw[r1.length];exact l,λq hq=>let ⟨k,q1,r⟩:=Ga hq o1.sq.sA o1.sq.fw (λa z=>o1.sn.d a z) r1 q1;q1 _ _ ao (o1.same (ay.new hq)) r⟩⟩
end
section
variable {X:Cx}{C:Cfg}{a b c e:Expr}{es:List Expr}{φ φa φb:aM}{φs:bI}{pos:Pos}{σ:St}{H H':Hp}{β:a7}{own:Nat->List Addr}{p:Bool}{g:D->D->Option D}{N:D->Prop}
abbrev nN:=D->Kd->aM
structure Ml (X:Cx)(C:Cfg)(ops:List XS)(es:List Expr)(φ:nN):Prop where
 mono:∀x k β R R',(∀d k β,R d k β->R' d k β)->φ x k β R->φ x k β R'
 ch:EI X ops es λx σ H Q=>∃β own d k,SQ X C σ H β own/\Rp X (av C (Wn own) k) H d x/\φ d k β λd' k' β'=>∀v H',ay H H'->SQ X C σ H' β' own->KV X.prog X.w C (H,Wn own) own H' k' d' v->Q v H'
 Tz:ud X ops es λx σ H Q=>∃β own d k,SQ X C σ H β own/\Rp X (av C (Wn own) k) H d x/\φ d k β λd' k' β'=>∃b,d'=.bl b/\∀H',ay H H'->SQ X C σ H' β' own->Q b H'
def IX (g:D->D->Option D)(φb:aM):nN:=λx _ β R=>φb β λy _ β1=>∃b,g x y=some (.bl b)/\R (.bl b) .own β1
def Fs (g:D->D->Option D)(φb:aM)(φr:nN):nN:=λx _ β R=>φb β λy ky β1=>∃k,g x y=some (.bl k)/\if k=true then φr y ky β1 R else R (.bl false) .own β1
variable {op FP:XS}{ops:List XS}{rs:List Expr}{φr:nN}
theorem uI (ho:b8 X (VY op) g)(hb:PQ X C true b φb):Ml X C [op] [b] (IX g φb) :=
 ⟨λx k β R R' h q=>hb.mono β _ _ (λy _ β1 wQ=>by obtain⟨d,e,q⟩:=wQ;exact⟨d,e,h _ _ _ q⟩) q,
  (Hl ho hb.pe).pre λx σ H Q ⟨β,own,d,k,s,r,h⟩=>tQ.of hb s h λd2 k2 β2 v2 H2 aY GD o2 r2=>by
    obtain⟨d',e,q⟩:=GD;obtain⟨s2,rfl⟩:=o2.pu rfl;exact⟨av C (Wn aY) (k.max k2),d,d2,.bl d',o2.sq.Aj _,au.aL cK (r.same s2),au.aL d7 r2.rep,e,λv H' s3 r3=>q v H' (s2.trans s3) (o2.sq.same s3) (KV.flat rfl r3)⟩,
  (Ds ho hb.pe).pre λx σ H Q ⟨β,own,d,k,s,r,h⟩=>tQ.of hb s h λd2 k2 β2 v2 H2 aY Gz o2 r2=>by
    obtain⟨d',e,b,eb,q⟩:=Gz;obtain⟨s2,rfl⟩:=o2.pu rfl;cases eb;exact⟨av C (Wn aY) (k.max k2),d,d2,.bl d',o2.sq.Aj _,au.aL cK (r.same s2),au.aL d7 r2.rep,e,λv H' s3 r3=>by
      cases r3;exact⟨_,rfl,q H' (s2.trans s3) (o2.sq.same s3)⟩⟩⟩
theorem ij (ho:b8 X (VY op) g)(hb:PQ X C true b φb)(hc:Ml X C (FP::ops) (c::rs) φr):Ml X C (op::FP::ops) (b::c::rs) (Fs g φb φr) :=
 ⟨λx k β R R' h q=>hb.mono β _ _ (λy ky β1 ⟨d,e,q⟩=>⟨d,e,by
   cases d
   ·exact h _ _ _ q
   ·exact hc.mono y ky β1 _ _ h q⟩) q,
  (Dt ho hb.pe hc.ch).pre λx σ H Q ⟨β,own,d,k,s,r,h⟩=>tQ.of hb s h λd2 k2 β2 v2 H2 aY Gy o2 r2=>by
    obtain⟨t,e,q⟩:=Gy;obtain⟨s2,rfl⟩:=o2.pu rfl;refine⟨av C (Wn aY) (k.max k2),d,d2,.bl t,o2.sq.Aj _,au.aL cK (r.same s2),au.aL d7 r2.rep,e,λv H' s3 r3=>?_⟩;cases r3;refine⟨t,rfl,?_⟩;cases t
    · exact q _ H' (s2.trans s3) (o2.sq.same s3) uX
    · exact⟨β2,aY,d2,k2,o2.sq.same s3,r2.rep.same s3,hc.mono d2 k2 β2 _ _ (λd' k' β' q' v AV s4 sq r4=>q' v AV ((s2.trans s3).trans s4) sq (r4.later ((o2.same s3).sn))) q⟩,
  (Av ho hb.pe hc.Tz).pre λx σ H Q ⟨β,own,d,k,s,r,h⟩=>tQ.of hb s h λd2 k2 β2 v2 H2 aY o8 o2 r2=>by
    obtain⟨t,e,q⟩:=o8;obtain⟨s2,rfl⟩:=o2.pu rfl;refine⟨av C (Wn aY) (k.max k2),d,d2,.bl t,o2.sq.Aj _,au.aL cK (r.same s2),au.aL d7 r2.rep,e,λv H' s3 r3=>?_⟩;cases r3;refine⟨t,rfl,?_⟩;cases t
    · obtain⟨b,eb,q⟩:=q;cases eb;exact q H' (s2.trans s3) (o2.sq.same s3)
    · exact⟨β2,aY,d2,k2,o2.sq.same s3,r2.rep.same s3,hc.mono d2 k2 β2 _ _ (λd' k' β' tS=>by obtain⟨b,eb,q'⟩:=tS;exact⟨b,eb,λAV s4 sq=>q' AV ((s2.trans s3).trans s4) sq⟩) q⟩⟩
def yy (φa:aM)(φr:nN):aM:=λβ R=>φa β λx k β1=>φr x k β1 R
theorem qq {k8 k7:XS}(ha:PQ X C true a φa)(hc:Ml X C (k8::k7::ops) (b::c::rs) φr)(hm:lastMarks (k8::k7::ops) (b::c::rs)=false:=by with_unfolding_all rfl):
  PQ X C true (.Compare a (k8::k7::ops) (b::c::rs) pos) (yy φa φr) :=
 ⟨λβ R R' k h=>ha.mono β _ _ (λx kx β1 q=>hc.mono x kx β1 _ _ k q) h,(wd ha.pe hc.ch hm).pre λσ H Q ⟨β,own,s,h⟩=>tQ.of ha s h λd k β1 v H1 ao q o1 r1=>by
  obtain⟨s1,rfl⟩:=o1.pu rfl;exact⟨β1,ao,d,k,o1.sq,r1.rep,hc.mono d k β1 _ _ (λd' k' β' q' v AV s4 sq r4=>q' v AV ao ⟨sq,o1.sn.same s4,λ_=>⟨s1.trans s4,rfl⟩,o1.le⟩ (r4.later o1.sn)) q⟩⟩
abbrev AR:=a7->(Option Int->a7->Prop)->Prop
structure Mk (X:Cx)(C:Cfg)(e:Option Expr)(φ:AR):Prop where
 mono:∀β R R',(∀d β,R d β->R' d β)->φ β R->φ β R'
 po:PO X e λσ H Q=>∃β own,SQ X C σ H β own/\φ β λo β'=>∀H',ay H H'->SQ X C σ H' β' own->Q o H'
theorem qo:Mk X C none (λβ R=>R none β):=⟨λβ R R' k h=>k _ _ h,uK.pre λσ H Q zM=>by obtain⟨β,own,s,q⟩:=zM;exact q H (ay.refl _) s⟩
theorem qm (ha:PQ X C true a φ):Mk X C (some a) (λβ R=>φ β λd _ β1=>∃i,d=.int i/\R (some i) β1) :=
 ⟨λβ R R' k h=>ha.mono β _ _ (λd _ β1 zL=>by obtain⟨i,e,q⟩:=zL;exact⟨i,e,k _ _ q⟩) h,(uJ ha.pe).pre λσ H Q ⟨β,own,s,h⟩=>tQ.of ha s h λd k β1 v H1 ao GL o1 r1=>by
  obtain⟨i,e,q⟩:=GL;subst e;cases r1.rep;obtain⟨s1,rfl⟩:=o1.pu rfl;exact⟨i,rfl,q H1 s1 o1.sq⟩⟩
def RF (φ:aM)(φl φh:AR):aM:=λβ R=>φ β λx k β1=>φl β1 λl β2=>φh β2 λh β3=>∃d,Pe x l h=some d/\kN NL d k.wk λk'=>R d k' β3
theorem DF {k:Kd}:k.wk.wk=k.wk:=by cases k <;> rfl
theorem AJ {W:Addr->Prop}{k:Kd}:∀c,av C W k.wk c->av C W k c:=λc h=>by cases k <;> exact h
theorem DO {lo hi:Option Expr}{φl φh:AR}{p2:Pos}(ha:PQ X C p a φ)(hl:Mk X C lo φl)(hh:Mk X C hi φh):PQ X C p (.Subscript a (.Slice lo hi none p2) pos) (RF φ φl φh) :=
 ⟨λβ R R' k h=>ha.mono β _ _ (λx kx β1 q=>hl.mono β1 _ _ (λl β2 q=>hh.mono β2 _ _ (λu β3 GK=>by obtain⟨d,e,q⟩:=GK;exact⟨d,e,q.mono λ_ z=>k _ _ _ z⟩) q) q) h,
  (qr BG ha.pe hl.po hh.po).pre λσ H Q ⟨β,own,s,h⟩=>tQ.of ha s h λd k β1 v H1 ao q o1 r1 =>
    ⟨β1,ao,o1.sq,hl.mono β1 _ _ (λl β2 q H2 s2 Rq=>⟨β2,ao,Rq,hh.mono β2 _ _ (λu β3 GI H3 s3 LO=>by
      obtain⟨d',e,q⟩:=GI;refine⟨av C (Wn ao) k.wk,d,d',LO.Aj _,((au.aL AJ r1.rep).same s2).same s3,e,λv H' s4 r4 n4=>?_⟩;obtain⟨k',q,r⟩:=KV.kN (Z:=(H,Wn own)) DF r4 (λn=>f_ (H:=H3) LO.sA LO.fw (λa z e=>o1.sn.d a z (s2.free (s3.free e))) n (n4 n)) q;exact q v H' ao ⟨LO.same s4,o1.sn.same ((s2.trans s3).trans s4),λz=>⟨(o1.pu z).1.trans ((s2.trans s3).trans s4),(o1.pu z).2⟩,o1.le⟩ r) q⟩) q⟩⟩
def IM (X:Cx)(f:List D->Option D)(N:D->Prop):List V->Hp->VK->Prop:=λxs H Q=>∃W ds d,Dm W H/\l3 X W H ds xs/\f ds=some d/\∀v H',ay H H'->Rp X W H' d v->(N d->Rp X (λa=>H a≠none) H' d v)->Q v H'
abbrev AW (X:Cx)(f:UQ)(g:List D->Option D)(N:D->Prop):Prop:=fv X f (IM X g N)
theorem cx.m {f:UQ}{g:List D->Option D}(h:cx X f g):AW X f g NF:=λpins s σ H xs us Q I r ⟨W,ds,d,hd,r1,e,q⟩ =>
 h pins s σ H xs us Q I r ⟨W,ds,d,hd,r1,e,λv H' s r=>q v H' s r λf=>au.flat f r⟩
def jy (g:List D->Option D)(N:D->Prop)(φs:bI):aM:=λβ R=>φs β λds ks β1=>∃d,g ds=some d/\kN N d (ed ks) λk=>R d k β1
variable {x:Str}{pp:Pos}{id T:String}{gs:List D->Option D}
theorem jy.mono (h:nO X C p es φs):∀β R R',(∀d k β,R d k β->R' d k β)->jy gs N φs β R->jy gs N φs β R':=λβ R R' k q=>h.mono β _ _ (λds ks β1 Ob=>by obtain⟨d,e,q⟩:=Ob;exact⟨d,e,q.mono λ_ z=>k _ _ _ z⟩) q
theorem qk (hn:Be N)(h:nO X C p es φs):∀σ H Q,tQ X C p (jy gs N φs) σ H Q->MG (IM X gs N) (pE X C p φs) σ H Q:=λσ H Q ⟨β,own,s,q⟩=>pE.of h s q λds ks β1 vs H1 ao N_ o1 r1=>by
 obtain⟨d,e,q1⟩:=N_;refine⟨av C (Wn ao) (ed ks),ds,d,o1.sq.Aj _,r1.fG,e,λv H' s2 r2 n2=>?_⟩;obtain⟨k',q,r⟩:=KV.kN (Z:=(H,Wn own)) iu r2 (λn=>f_ (H:=H1) o1.sq.sA o1.sq.fw (λa z=>o1.sn.d a z) (hn.nl _ n) (n2 n)) q1;exact q v H' ao (o1.same s2) r
theorem bH (GW:Be N)(hc:AW X (.builtin id) gs N)(hm:X.mg x=none)(hv:VO x=some (.builtin id))(ha:nO X C p (e::es) φs)(hg:Gl X x:=by rfl)(hn:x≠"__name__" := by decide)(hdb:(x==("__debug__" : Str))=false:=by decide)
  (iy:U5 (e::es) X.env=(false,eval e X.env)::U5 es X.env:=by rfl) (hpl:(Wq pos (U5 es X.env)).any (·.1)=false:=by rfl) :
  PQ X C p (.Call (.Name x pp) (e::es) [] pos) (jy gs N φs):=⟨jy.mono ha,(cU hc hg hm hv ha.pa hn hdb (he:=iy) (hpl:=hpl)).pre (qk GW ha)⟩
theorem i4 (GW:Be N)(hc:AW X (.type T) gs N)(hm:X.mg x=none)(hv:VO x=some (.type T))(ha:nO X C p (e::es) φs)(hg:Gl X x:=by rfl)(hn:x≠"__name__" := by decide)(hdb:(x==("__debug__" : Str))=false:=by decide)
  (iy:U5 (e::es) X.env=(false,eval e X.env)::U5 es X.env:=by rfl) (hpl:(Wq pos (U5 es X.env)).any (·.1)=false:=by rfl) :
  PQ X C p (.Call (.Name x pp) (e::es) [] pos) (jy gs N φs):=⟨jy.mono ha,(we hc hg hm hv ha.pa hn hdb (he:=iy) (hpl:=hpl)).pre (qk GW ha)⟩
end
def pC (P:UY)(w:Vc)(ro:Bool)(H H':Hp)(d:D)(v:V):Prop:=match ro with
 |true=>∃A,Own P w H' d v A/\A.Nodup/\∀c∈A,H c=none
 |false=>au P w (λa=>H a≠none) H' d v
abbrev rk (ro:Bool):Kd:=match ro with|true=>.own|false=>.cQ
def fk (P:UY)(w:Vc)(ro:Bool)(F:FD):Sp:=λvs H Q _=>∃ds,af P w (λ_=>False) H ds vs/\F ds λd=>∀v H',ay H H'->pC P w ro H H' d v->Q v H'
def sQ (P:UY)(w:Vc)(ok:List Int->Prop)(ro:Bool)(F:FD):Sp:=λvs H Q _=>∃h vs' ds ns,vs=.ref h::vs'/\H h=some (.lst (ns.map V.int))/\ok ns/\af P w (λa=>a=h) H ds vs' /\
 F ds λd=>∀v H' oQ,Kp (·=h) H H'->(∀c,H c≠none->H' c≠none)->H' h=some (.lst (oQ.map V.int))->ok oQ->pC P w ro H H' d v->Q v H'
section
variable {X:Cx}{C:Cfg}{k ih:Nat}{f:Addr}{fd:VI}{ps:List Str}{F:FD}{ro p:Bool}{x hx:Str}{pp pos px:Pos}{e:Expr}{es:List Expr}{φs:bI}{ok:List Int->Prop}{σ:St}{H H':Hp}{β:a7}{own:Nat->List Addr}{P:UY}{w:Vc}
theorem pC.kv {Z:Hp×(Addr->Prop)}{d:D}{v:V}(hd:Dm (Wn own) H)(h0:∀a,C.H0 a≠none->H a≠none)(hz:∀a,Z.1 a≠none->H a≠none)(h:pC P w ro H H' d v):KV P w C Z own H' (rk ro) d v:=by
 cases ro with
 |true =>
  obtain⟨A,h1,h2,h3⟩:=h;exact⟨A,h1,h2,λc hc=>⟨VF λz=>hz c z (h3 c hc),λz=>hd c z (h3 c hc),VF λz=>h0 c z (h3 c hc)⟩⟩
 |false=>exact au.aL (λa z=>z.elim (hd a) (h0 a)) h
def M1 (ro:Bool)(F:FD)(φs:bI):aM:=λβ R=>φs β λds _ β1=>F ds λd=>R d (rk ro) β1
theorem aZ (mF:dO F)(G:aX X.prog X.w X.K X.mg X.base cy k f fd ps (fk X.prog X.w ro F))(hr:cL k X.A)(hm:X.mg x=some (.ref f))(hk:PySem.W.keepIn X.K (.ref f)=true)(hb:Binds X.K fd ps [])(ha:nO X C p (e::es) φs)(hg:Gl X x:=by rfl)
  (hdb:(x==("__debug__" : Str))=false:=by decide)
  (iy:U5 (e::es) X.env=(false,eval e X.env)::U5 es X.env:=by rfl) (hpl:(Wq pos (U5 es X.env)).any (·.1)=false:=by rfl) :
  PQ X C p (.Call (.Name x pp) (e::es) [] pos) (M1 ro F φs) :=
 ⟨λβ R R' k h=>ha.mono β _ _ (λds ks β1 q=>mF ds _ _ (λd q=>k _ _ _ q) q) h,(ik G hr hg hm hk hb .nil qz ha.pa (hdb:=hdb) (he:=iy) (hpl:=hpl)).pre λσ H Q ⟨β,own,s,h⟩=>pE.of ha s h λds ks β1 vs H1 ao q o1 r1=>by
  rw[VW];exact⟨ds,r1.bor,mF ds _ _ (λd q2 v H' s2 r2=>q2 v H' ao (o1.same s2) (r2.kv o1.sq.sA o1.sq.fw λa z=>o1.sn.d a z)) q⟩⟩
theorem bh.drawn {i:Nat}{h:Addr}{oQ:List Int}(b:bh P w C σ H β own)(e:β[i]?=some (some (.hand ok)))(hσ:σ[i]?=some (some (.ref h)))(k:Kp (·=h) H H')(e':H' h=some (.lst (oQ.map V.int)))(o':ok oQ)(dn:∀c,H c≠none->H' c≠none):bh P w C σ H' β own:=by
 obtain⟨a,ns,h1,h2,h3,h4,h5⟩:=b.l6 i ok e;rw[hσ]at h1;cases h1;have wh:Wn own h:=⟨i,by rw[h4];simp⟩
 have kW:∀y,Kp (eN C (Wn own) (yk y)) H H':=λy=>k.mono λc z=>by rw[z];cases y <;> first|exact .inl wh|exact .inl (.inl wh)
 have ne:∀j,j≠i->∀c∈own j,c≠h:=λj hj c hc z=>hj (b.fQ j i c hc (by rw[h4,z];simp))
 refine⟨b.len,λj y d e=>let ⟨v,g1,g2⟩:=b.val j y d e;⟨v,g1,g2.keep (kW y)⟩,λj d ej=>?_,λj HI ej=>?_,λj c hc=>?_,b.fQ,b.gX,⟨λc o z n=>?_,λc xs z=>k.tup c xs (b.kp.tup c xs z)⟩,λc z=>dn c (b.fw c z),λj y d ej=>by
  obtain⟨v,g1,g2,g3⟩:=b.shl j y d ej;have hj:j≠i:=λz=>by rw[z,e]at ej;cases ej
  exact⟨v,g1,g2.map (λc hc o eo=>k.out c o eo (ne j hj c hc)) (λ_ _ r=>r.keep (kW y)),g3⟩⟩
 ·obtain⟨v,g1,g2,g3⟩:=b.ow j d ej;have hj:j≠i:=λz=>by rw[z,e]at ej;cases ej
  exact⟨v,g1,g2.keep k.tup (λc hc o eo=>k.out c o eo (ne j hj c hc)),g3⟩
 ·by_cases hj:j=i
  ·subst hj;rw[e]at ej;cases ej;exact⟨h,oQ,hσ,e',o',h4,h5⟩
  ·obtain⟨a,ms,g1,g2,g3,g4,g5⟩:=b.l6 j HI ej;exact⟨a,ms,g1,k.out a _ g2 (ne j hj a (by rw[g4];simp)),g3,g4,g5⟩
 ·obtain⟨g1,g2,g3⟩:=b.dm j c hc
  by_cases pF:c=h
  ·rw[pF,e'];rw[pF]at g3;exact⟨λz=>(nomatch z),λxs z=>(by cases z),g3⟩
  ·cases q:H c with
   |none=>exact absurd q g1
   |some o=>rw[k.out c o q pF];exact⟨λz=>(nomatch z),λxs z=>g2 xs (by rw[q];exact z),g3⟩
 ·refine k.out c o (b.kp.out c o z n) λq=>?_;subst q;rcases (b.dm i c (by rw[h4];simp)).2.2.1 with z0|z0
  ·rw[z0]at z;cases z
  ·exact n z0
def IV (ih:Nat)(ok:List Int->Prop)(ro:Bool)(F:FD)(φs:bI):aM:=λβ R=>β[ih]?=some (some (.hand ok))/\φs β λds ks β1=>β1[ih]?=some (some (.hand ok))/\hold (ed ks) false/\F ds λd=>R d (rk ro) β1
theorem cG (mF:dO F)(G:aX X.prog X.w X.K X.mg X.base cy k f fd ps (sQ X.prog X.w ok ro F))(hr:cL k X.A)(hm:X.mg x=some (.ref f))(hk:PySem.W.keepIn X.K (.ref f)=true)(hb:Binds X.K fd ps [])(ha:nO X C p es φs)(hN:X.N[ih]?=some hx:=by rfl)
  (hv:j9 X.env.scope hx:=by first|exact .inl rfl|exact .inr (.inl rfl)|exact .inr (.inr rfl)) (hd:(hx==("__debug__" : Str))=false:=by decide) (c7:(hx==("__classdict__" : Str))=false:=by decide) (hg:Gl X x:=by rfl) (hdb:(x==("__debug__" : Str))=false:=by decide)
  (iy:U5 (.Name hx px::es) X.env=(false,eval (.Name hx px) X.env)::U5 es X.env:=by rfl) (hpl:(Wq pos (U5 es X.env)).any (·.1)=false:=by rfl) :
  PQ X C false (.Call (.Name x pp) (.Name hx px::es) [] pos) (IV ih ok ro F φs) :=
 ⟨λβ R R' k N9=>by obtain⟨e,h⟩:=N9;exact⟨e,ha.mono β _ _ (λds ks β1 GF=>by obtain⟨e,hh,q⟩:=GF;exact⟨e,hh,mF ds _ _ (λd q=>k _ _ _ q) q⟩) h⟩,
  (ik G hr hg hm hk hb .nil qz (aF (bp (pos:=px) hN hv hd c7) ha.pa iy) (hdb:=hdb) (he:=iy) (hpl:=hpl)).pre λσ H Q GC=>by
  obtain⟨β,own,s,e,h⟩:=GC;obtain⟨hh,ns,h1,h2,h3,h4⟩:=s.l6 ih ok e;refine⟨.ref hh,h1,pE.of ha s h λds ks β1 vs H1 ao ⟨e1,ho,q⟩ o1 r1=>?_⟩;obtain⟨UB,RS,g1,g2,g3,g4,g5⟩:=o1.sq.l6 ih ok e1;rw[h1]at g1;cases g1;have wh:Wn ao hh:=⟨ih,by rw[g4];simp⟩
  rw[VW];refine⟨hh,vs,ds,RS,rfl,g2,g3,af.aL (λa z=>?_) r1.fG,mF ds _ _ (λd q v H' oQ kp dn e' HI r=>?_) q⟩
  ·subst z;cases hk:ed ks with
   |own=>exact .inl wh
   |cQ=>exact .inl wh
   |old=>exact wh
   |bor=>rw[hk]at ho;exact ho.elim
  ·exact q v H' ao ⟨o1.sq.drawn e1 h1 kp e' HI dn,o1.sn.kp (kp.mono λb z=>by rw[z];exact wh) dn,λz=>(nomatch z),o1.le⟩ (r.kv o1.sq.sA o1.sq.fw λa z=>o1.sn.d a z)⟩
end
abbrev Cfg.z (C:Cfg):Cfg:=C.u λ_=>False
def SB (X:Cx)(C:Cfg)(Z:Hp×(Addr->Prop))(σ:St)(H:Hp)(β:a7):Prop:=∃own,SQ X C.z σ H β own/\Sn Z H (Wn own)
structure fu where
 nx:a7->Prop
 rt:D->a7->Prop
 bk:a7->Prop:=λ_=>False
 ct:a7->Prop:=λ_=>False
def fu.up (E:fu)(n:a7->Prop):fu:=⟨n,E.rt,E.bk,E.ct⟩
def fu.lp (E:fu)(n:a7->Prop):fu:=⟨n,E.rt,E.nx,n⟩
structure T6 (X:Cx)(C:Cfg)(Z:Hp×(Addr->Prop))(E:fu)(D:Ends):Prop where
 nx:∀σ H β,SB X C Z σ H β->E.nx β->D.nx σ H
 rt:∀σ H β d v,SB X C Z σ H β->pC X.prog X.w C.ro C.H0 H d v->E.rt d β->D.rt v H
 bk:∀σ H β,SB X C Z σ H β->E.bk β->D.bk σ H
 ct:∀σ H β,SB X C Z σ H β->E.ct β->D.ct σ H
structure Le (E E':fu):Prop where
 nx:∀β,E.nx β->E'.nx β
 rt:∀d β,E.rt d β->E'.rt d β
 bk:∀β,E.bk β->E'.bk β
 ct:∀β,E.ct β->E'.ct β
abbrev EF:=fu->a7->Prop
def PM (X:Cx)(C:Cfg)(ψ:EF):TS:=λD σ H=>∃Z E β,SB X C Z σ H β/\ψ E β/\T6 X C Z E D
structure PB (X:Cx)(C:Cfg)(st:Stmt)(ψ:EF):Prop where
 mono:∀E E' β,Le E E'->ψ E β->ψ E' β
 ps:PS X st (PM X C ψ)
structure xr (X:Cx)(C:Cfg)(st:List Stmt)(ψ:EF):Prop where
 mono:∀E E' β,Le E E'->ψ E β->ψ E' β
 ps:r9 X st (PM X C ψ)
section
variable {X:Cx}{C:Cfg}{st:Stmt}{rest a b:List Stmt}{ψ ψ1 ψ2:EF}{Z:Hp×(Addr->Prop)}{σ:St}{H H':Hp}{β β':a7}{pos pos':Pos}{e c:Expr}{φ:aM}{τ:bb}{p:Bool}{own aN:Nat->List Addr}{i:Nat}{x:Str}
theorem Out.sb (n:Sn Z H (Wn own))(o:Out X C.z σ H own p β' H' aN):SB X C Z σ H' β':=⟨aN,o.sq,n.trans o.sn⟩
theorem bu:xr X C [] (λE β=>E.nx β):=⟨λE E' β l h=>l.nx β h,jZ.pre λD σ H wQ=>by obtain⟨Z,E,β,sb,h,ok⟩:=wQ;exact ok.nx σ H β sb h⟩
theorem ai (h1:PB X C st ψ1)(h2:xr X C rest ψ2):xr X C (st::rest) (λE β=>ψ1 (E.up (ψ2 E)) β) :=
 ⟨λE E' β l h=>h1.mono {E with nx:=ψ2 E} {E' with nx:=ψ2 E'} β ⟨λβ' q=>h2.mono E E' β' l q,l.rt,l.bk,l.ct⟩ h,(bN h1.ps h2.ps).pre λD σ H ⟨Z,E,β,sb,h,ok⟩ =>
  ⟨Z,{E with nx:=ψ2 E},β,sb,h,⟨λσ' H' β' vV h'=>⟨Z,E,β',vV,h',ok⟩,ok.rt,ok.bk,ok.ct⟩⟩⟩
theorem ar (h1:PB X C st ψ):xr X C [st] ψ:=⟨h1.mono,cF h1.ps⟩
theorem j3 (h1:PB X C st ψ1)(h2:xr X C rest ψ2):xr X C (st::rest) (λE β=>∃J:a7->Prop,ψ1 (E.up J) β/\∀β',J β'->ψ2 E β') :=
 ⟨λE E' β l GD=>by obtain⟨J,h,k⟩:=GD;exact⟨J,h1.mono {E with nx:=J} {E' with nx:=J} β ⟨λ_ q=>q,l.rt,l.bk,l.ct⟩ h,λβ' q=>h2.mono E E' β' l (k β' q)⟩,(bN h1.ps h2.ps).pre λD σ H ⟨Z,E,β,sb,⟨J,h,k⟩,ok⟩ =>
  ⟨Z,{E with nx:=J},β,sb,h,⟨λσ' H' β' vV h'=>⟨Z,E,β',vV,k β' h',ok⟩,ok.rt,ok.bk,ok.ct⟩⟩⟩
theorem c4 (hc:vB X C.z p c τ)(ha:xr X C a ψ1)(hb:xr X C b ψ2):PB X C (.If c a b pos) (λE β=>τ β λt β'=>if t=true then ψ1 E β' else ψ2 E β') :=
 ⟨λE E' β l h=>hc.mono _ _ _ (λt β' q=>by
   cases t
   ·exact hb.mono E E' β' l q
   ·exact ha.mono E E' β' l q) h,(uG hc.pt ha.ps hb.ps).pre λD σ H JW=>by
  obtain⟨Z,E,β,⟨own,s,n⟩,h,ok⟩:=JW;refine jU.of hc s h λt β' H1 ao q o1=>?_;cases t
  ·exact⟨Z,E,β',o1.sb n,q,ok⟩
  ·exact⟨Z,E,β',o1.sb n,q,ok⟩⟩
abbrev Eb (d:D)(k:Kd)(K:B->Prop):Prop:=match k with
 |.own=>K (.val true d)
 |.cQ=>K (.val true d)
 |.old=>K (.val false d)
 |.bor=>d.flat=true/\K (.val true d)
theorem Eb.mono {d:D}{k:Kd}{K K':B->Prop}(h:∀b,K b->K' b)(q:Eb d k K):Eb d k K':=by
 cases k <;> first|exact h _ q|exact⟨q.1,h _ q.2⟩
theorem Eb.of {P:UY}{w:Vc}{d:D}{v:V}{k:Kd}{K:B->Prop}(r:KV P w C Z own H k d v)(q:Eb d k K):∃y,K (.val y d)/\au P w (av C (Wn own) (yk y)) H d v:=by
 cases k with
 |own=>exact⟨true,q,r.cQ⟩
 |cQ=>exact⟨true,q,r⟩
 |old=>exact⟨false,q,r⟩
 |bor=>exact⟨true,q.2,au.flat q.1 r⟩
theorem ye {own:Nat->List Addr}{i:Nat}(n:Sn Z H (Wn own)):Sn Z H (Wn (aC own i [])):=⟨λb z=>n.w b (cM z),n.k,n.d⟩
theorem bG (he:PQ X C.z p e φ)(hN:X.N.Nodup)(hi:X.N[i]?=some x:=by rfl)(hx:Loc X.env.scope x:=by first|exact .inl rfl|exact .inr rfl)
  (hs:Wg e (some (.Name x pos')) pos.line X.env=pure false:=by rfl) (hf:X.fn x=true\/X.env.scope.names.lookup x=some .local:=by first|exact .inl rfl|exact .inr rfl|assumption) :
  PB X C (.Assign [.Name x pos'] e pos) (λE β=>φ β λd k β'=>Eb d k λb=>E.nx (β'.set i (some b))) :=
 ⟨λE E' β l q=>he.mono _ _ _ (λd k β' q=>q.mono λ_=>l.nx _) q,(gH hN hi hx he.pe hs hf).pre λD σ H ⟨Z,E,β,⟨own,s,n⟩,q,ok⟩=>tQ.of he s q λd k β' v H' aN q o r=>by
  obtain⟨y,q,r⟩:=q.of r;exact ok.nx _ _ _ ⟨_,o.sq.eT (au.aL (λa z=>z.elim id λz=>z.elim) r),ye (n.trans o.sn)⟩ q⟩
abbrev CH (k:Kd)(d:D):Prop:=match k with
 |.own=>True
 |_=>d.flat=true
theorem KV.fl {P:UY}{w:Vc}{d:D}{v:V}{k:Kd}(f:CH k d)(r:KV P w C Z own H k d v):KV P w C Z own H .own d v:=by
 cases k with
 |own=>exact r
 |cQ=>exact KV.flat f r.rep
 |old=>exact KV.flat f r.rep
 |bor=>exact KV.flat f r.rep
theorem f9 (he:∀U,PQ X (C.u U) p e φ)(hN:X.N.Nodup)(hi:X.N[i]?=some x:=by rfl)(hx:Loc X.env.scope x:=by first|exact .inl rfl|exact .inr rfl)
  (hs:Wg e (some (.Name x pos')) pos.line X.env=pure false:=by rfl) (hf:X.fn x=true\/X.env.scope.names.lookup x=some .local:=by first|exact .inl rfl|exact .inr rfl|assumption) :
  PB X C (.Assign [.Name x pos'] e pos) (λE β=>φ β λd k β'=>CH k d/\E.nx (β'.set i (some (.own d)))) :=
 ⟨λE E' β l q=>(he λ_=>False).mono _ _ _ (λd k β' q=>⟨q.1,l.nx _ q.2⟩) q,λpins s σ H D I ⟨Z,E,β,⟨own,sq,n⟩,q,ok⟩ =>
  gH hN hi hx (he λa=>H a=none).pe hs hf pins s σ H D I (tQ.of (he λa=>H a=none) (sq.gu (C:=C.z) (U:=λa=>H a=none) λa z=>z) q λd k β' v H' aN GP o r=>by
   obtain⟨f,q⟩:=GP;obtain⟨A,h1,h2,h3⟩:=r.fl f;refine ok.nx _ _ _ ⟨_,o.sq.oz h1 h2 λc hc=>⟨(h3 c hc).2.2,(h3 c hc).2.1,(h3 c hc).1⟩,?_⟩ q;have m:=n.trans o.sn;exact⟨λb Od=>by
    obtain⟨j,hj⟩:=Od
    by_cases aB:i=j
    ·rw[<- aB,os_eq]at hj;exact .inr (n.free (h3 b hj).1)
    ·rw[aV aB]at hj;exact m.w b ⟨j,hj⟩,m.k,m.d⟩)⟩
theorem bh.BQ {P:UY}{w:Vc}{U U2:Addr->Prop}{d d':D}{v:V}{A':List Addr}{c:Addr}{o:HO}(b:bh P w (C.u U) σ H β own)(e:β[i]?=some (some (.own d)))(hσ:σ[i]?=some (some v))(hc:c∈own i)
  (r:Own P w (upd H c o) d' v A') (nd:A'.Nodup) (hA:∀a∈A',a∈own i\/(C.H0 a=none/\¬ Wn own a/\U a)) (hU:∀a,U2 a->U a) (OY:∀a∈A',¬ U2 a):bh P w (C.u U2) σ (upd H c o) (β.set i (some (.own d'))) (aC own i A'):=by
 obtain⟨g1,g2,g3,g4⟩:=b.dm i c hc;obtain⟨oc,zO⟩:∃oc,H c=some oc:=by
  cases q:H c with
  |none=>exact absurd q g1
  |some oc=>exact⟨oc,rfl⟩
 have ht:∀xs,oc≠.tup xs:=λxs z=>g2 xs (by rw[zO,z])
 have k:Kp (·=c) H (upd H c o):=e_ zO ht;have h0:∀a∈own i,C.H0 a=none:=by obtain⟨_,_,_,h⟩:=b.ow i d e;exact h
 have wc:Wn own c:=⟨i,hc⟩;have sub:∀y a,eN (C.u U2) (Wn (aC own i A')) (yk y) a->eN (C.u U) (Wn own) (yk y) a:=λy a h=>by
  have q:∀a,Wn (aC own i A') a->Wn own a\/U a:=λa zN=>by
   obtain⟨j,q⟩:=zN
   by_cases aB:i=j
   ·rw[aB,os_eq]at q;rcases hA a q with z|z
    ·exact .inl ⟨i,z⟩
    ·exact .inr z.2.2
   ·rw[aV aB]at q;exact .inl ⟨j,q⟩
  rcases h with h|h
  ·cases y with
   |true=>exact h.elim (λz=>(q a z).imp .inl id) λz=>.inl (.inr z)
   |false=>exact q a h
  ·exact .inr (hU a h)
 have mem:∀{j c},c∈aC own i A' j->(i=j/\c∈A')\/(i≠j/\c∈own j):=λ{j c} h=>by
  by_cases aB:i=j
  ·subst aB;rw[os_eq]at h;exact .inl ⟨rfl,h⟩
  ·rw[aV aB]at h;exact .inr ⟨aB,h⟩
 have LV:∀j,i≠j->∀a∈own j,a≠c:=λj aB a ha z=>aB (b.fQ i j c hc (by rw[<- z];exact ha))
 refine⟨by simp[b.len],λj y' d2 e2=>?_,λj d2 e2=>?_,λj ok e2=>?_,λj a h=>?_,λj k2 a h1 h2=>?_,λj=>?_,⟨λa oa z n=>?_,λa xs z=>k.tup a xs (b.kp.tup a xs z)⟩,λa z=>?_,λj y' d2 e2=>by
  by_cases aB:i=j
  ·subst aB;obtain⟨e',hl⟩:=a5 e2;cases e'
  ·rw[aW aB]at e2;rw[aV aB];obtain⟨u,h1,h2,h3⟩:=b.shl j y' d2 e2;exact⟨u,h1,h2.map (λa ha oa ea=>k.out a oa ea (LV j aB a ha)) (λ_ _ r=>af.aL (sub _) (r.keep (k.mono λa z=>by rw[z];cases y' <;> first|exact .inl wc|exact .inl (.inl wc)))),h3⟩⟩
 ·by_cases aB:i=j
  ·subst aB;obtain⟨e',hl⟩:=a5 e2;cases e'
  ·rw[aW aB]at e2;obtain⟨u,h1,h2⟩:=b.val j y' d2 e2;exact⟨u,h1,(h2.keep (k.mono λa z=>by rw[z];cases y' <;> first|exact .inl wc|exact .inl (.inl wc))).aL (sub _)⟩
 ·by_cases aB:i=j
  ·subst aB;obtain⟨e',hl⟩:=a5 e2;cases e';rw[os_eq];exact⟨v,hσ,r,λa ha=>(hA a ha).elim (h0 a) λz=>z.1⟩
  ·rw[aW aB]at e2;rw[aV aB];obtain⟨u,h1,h2,h3⟩:=b.ow j d2 e2;exact⟨u,h1,h2.keep k.tup (λa ha oa ea=>k.out a oa ea (LV j aB a ha)),h3⟩
 ·by_cases aB:i=j
  ·subst aB;obtain⟨e',hl⟩:=a5 e2;cases e'
  ·rw[aW aB]at e2;rw[aV aB];obtain⟨a,ns,h1,h2,h3,h4,h5⟩:=b.l6 j ok e2;exact⟨a,ns,h1,k.out a _ h2 (LV j aB a (by rw[h4];simp)),h3,h4,h5⟩
 ·rcases mem h with⟨_,h⟩|⟨aB,h⟩
  ·exact⟨(r.l7 a h).1,(r.l7 a h).2,.inl ((hA a h).elim (h0 a) λz=>z.1),OY a h⟩
  ·obtain⟨q1,q2,q3,q4⟩:=b.dm j a h;rw[ak (LV j aB a h)];exact⟨q1,q2,q3,λz=>q4 (hU a z)⟩
 ·rcases mem h1 with⟨e1,h1⟩|⟨n1,h1⟩
  ·rcases mem h2 with⟨e2,h2⟩|⟨n2,h2⟩
   ·rw[<- e1,<- e2]
   ·rcases hA a h1 with z|z
    ·exact absurd (b.fQ i k2 a z h2) n2
    ·exact absurd ⟨k2,h2⟩ z.2.1
  ·rcases mem h2 with⟨e2,h2⟩|⟨n2,h2⟩
   ·rcases hA a h2 with z|z
    ·exact absurd (b.fQ i j a z h1) n1
    ·exact absurd ⟨j,h1⟩ z.2.1
   ·exact b.fQ j k2 a h1 h2
 ·by_cases aB:i=j
  ·rw[<- aB,os_eq];exact nd
  ·rw[aV aB];exact b.gX j
 ·refine k.out a oa (b.kp.out a oa z n) λq=>?_;subst q;rw[h0 a hc]at z;cases z
 ·by_cases QH:a=c
  ·rw[QH,aj];exact λz=>(nomatch z)
  ·rw[ak QH];exact b.fw a z
theorem bh.putIn {P:UY}{w:Vc}{U:Addr->Prop}{d d':D}{v:V}{A':List Addr}{c:Addr}{o:HO}(b:bh P w (C.u U) σ H β own)(e:β[i]?=some (some (.own d)))(hσ:σ[i]?=some (some v))(hc:c∈own i)
  (r:Own P w (upd H c o) d' v A') (nd:A'.Nodup) (hA:∀a∈A',a∈own i\/(C.H0 a=none/\¬ Wn own a/\U a)):bh P w C.z σ (upd H c o) (β.set i (some (.own d'))) (aC own i A') :=
 b.BQ (U2:=λ_=>False) e hσ hc r nd hA (λ_ z=>z.elim) λ_ _ z=>z
theorem gD {A':List Addr}{c:Addr}{o:HO}{U:Addr->Prop}(n:Sn Z H (Wn own))(m:∀a,U a->Z.1 a=none)(hc:Wn own c)(zO:∃oc,H c=some oc/\∀xs,oc≠.tup xs)(hA:∀a∈A',a∈own i\/(C.H0 a=none/\¬ Wn own a/\U a)):Sn Z (upd H c o) (Wn (aC own i A')):=by
 obtain⟨oc,h1,h2⟩:=zO;have u:=Sn.upd (o':=o) n h1 h2 hc;exact⟨λb GO=>by
  obtain⟨j,hj⟩:=GO
  by_cases aB:i=j
  ·rw[<- aB,os_eq]at hj;rcases hA b hj with z|z
   ·exact n.w b ⟨i,z⟩
   ·exact .inr (m b z.2.2)
  ·rw[aV aB]at hj;exact n.w b ⟨j,hj⟩,u.k,u.d⟩
theorem bh.lh {P:UY}{w:Vc}{ds:List D}(b:bh P w C σ H β own)(e:β[i]?=some (some (.own (.lst ds)))):∃a vs A',σ[i]?=some (some (.ref a))/\H a=some (.lst vs)/\own i=a::A'/\aH P w H ds vs A':=by
 obtain⟨v,h1,⟨a,vs,A',rfl,h2,h3,h4⟩,_⟩:=b.ow i _ e;exact⟨a,vs,A',h1,h2,h3,h4⟩
variable {px ap cp:Pos}
theorem wj (he:∀U,PQ X (C.u U) p e φ)(hN:X.N[i]?=some x:=by rfl)(hv:j9 X.env.scope x:=by first|exact .inl rfl|exact .inr (.inl rfl)|exact .inr (.inr rfl))(hd:(x==("__debug__" : Str))=false:=by decide)(c7:(x==("__classdict__" : Str))=false:=by decide)
  (b5:Wr (.Name x px) "append" X.env (eval (.Name x px) X.env)=eval (.Name x px) X.env:=by rfl)
  (gO:((Wq cp (U5 [e] X.env)).all (λx=>!x.1)&&(X5 cp (Xp [] X.env)).all (λx=>x.1.isSome)&&decide ([e].length+([]:List W6).length+(if ([]:List W6).isEmpty then 0 else 1)<30))=true:=by rfl)
  (b4:(ap.endLine==cp.line)=true:=by rfl) (hs:U5 [e] X.env=(false,eval e X.env)::U5 [] X.env:=by rfl) (cj:(Wq cp (U5 [] X.env)).any (·.1)=false:=by rfl)
  (o7:Wg (.Call (.Attribute (.Name x px) "append" ap) [e] [] cp) none pos.line X.env=pure false:=by rfl) :
  PB X C (.Expr (.Call (.Attribute (.Name x px) "append" ap) [e] [] cp) pos) (λE β=>(∃ds,β[i]?=some (some (.own (.lst ds))))/\φ β λd k β'=>CH k d/\∃ds,β'[i]?=some (some (.own (.lst ds)))/\ds.length<U8/\E.nx (β'.set i (some (.own (.lst (ds++[d])))))):=by
 refine⟨λE E' β l zM=>by obtain⟨h1,q⟩:=zM;exact⟨h1,(he λ_=>False).mono _ _ _ (λd k β' zL=>by obtain⟨f,ds,h1,h2,q⟩:=zL;exact⟨f,ds,h1,h2,l.nx _ q⟩) q⟩,λpins s σ H D I ⟨Z,E,β,⟨own,sq,n⟩,⟨⟨Pa,hb⟩,q⟩,ok⟩=>?_⟩
 refine dZ (pos:=pos) (kU (apos:=ap) (cpos:=cp) PySem.F.plainAttrs_list PySem.F.slot_list_append PySem.F.type_list_append di (bp (pos:=px) hN hv hd c7) (aF (he λa=>H a=none).pe bq hs) b5 gO b4 hs cj) o7 pins s σ H D I ?_;obtain⟨a,vs,A',h1,h2,h3,h4⟩:=sq.lh hb;refine⟨.ref a,h1,.inl ⟨rfl,vs,b3.of h2⟩,tQ.of (he λa=>H a=none) (sq.gu (C:=C.z) (U:=λa=>H a=none) λa z=>z) q λd k β' v H1 ao ⟨f,ds,gY,hl,q⟩ o r=>?_⟩;obtain⟨a',vs',A1,g1,g2,g3,g4⟩:=o.sq.lh gY;rw[h1]at g1;cases g1;obtain⟨A,r1,r2,r3⟩:=r.fl f;have ha:a∈ao i:=by rw[g3];simp
 have nd:(a::(A1++A)).Nodup:=by
  have q:=o.sq.gX i;rw[g3]at q;refine Vt.mpr ⟨λz=>?_,Vu.mpr ⟨(Vt.mp q).2,r2,λx hx y hy e=>?_⟩⟩
  ·rcases Vh.mp z with z|z
   ·exact(Vt.mp q).1 z
   ·exact(r3 a z).2.1 ⟨i,ha⟩
  ·subst e;exact(r3 x hy).2.1 ⟨i,by rw[g3];simp[hx]⟩
 have hA:∀b∈a::(A1++A),b∈ao i\/(C.H0 b=none/\¬ Wn ao b/\H b=none):=λb hb=>by
  rcases UW.mp hb with rfl|hb
  ·exact .inl ha
  ·rcases Vh.mp hb with hb|hb
   ·exact .inl (by rw[g3];simp[hb])
   ·exact .inr ⟨(r3 b hb).2.2,(r3 b hb).2.1,(r3 b hb).1⟩
 have kt:∀b xs,H1 b=some (.tup xs)->upd H1 a (.lst (vs'++[v])) b=some (.tup xs):=λb xs z=>by
  rw[ak (λz'=>by rw[z',g2]at z;cases z)];exact z
 have ne1:∀c∈A1,c≠a:=λc hc z=>by
  have q:=o.sq.gX i;rw[g3]at q;exact(Vt.mp q).1 (by rw[<- z];exact hc)
 have ne2:∀c∈A,c≠a:=λc hc z=>(r3 c hc).2.1 ⟨i,by rw[z];exact ha⟩
 have r':Own X.prog X.w (upd H1 a (.lst (vs'++[v]))) (.lst (ds++[d])) (.ref a) (a::(A1++A)) :=
  ⟨a,vs'++[v],A1++A,rfl,aj,rfl,(g4.keep kt λc hc oc ec=>by rw[ak (ne1 c hc)];exact ec).append (aH.one (r1.keep kt λc hc oc ec=>by rw[ak (ne2 c hc)];exact ec))⟩
 exact⟨a,vs',v,rfl,rfl,g2,by rw[g4.length];exact hl,ok.nx _ _ _ ⟨_,o.sq.putIn gY h1 ha r' nd hA,gD (n.trans o.sn) (λb z=>n.free z) ⟨i,ha⟩ ⟨_,g2,λxs z=>by cases z⟩ hA⟩ q⟩
end
abbrev eC:=D->Kd->a7->(a7->Prop)->Prop
abbrev nP:=List D->Kd->a7->(a7->Prop)->Prop
structure AU (X:Cx)(C:Cfg)(tg:Expr)(T:List Nat)(γ:eC):Prop where
 mono:∀d k β R R',(∀r,R r->R' r)->γ d k β R->γ d k β R'
 pg:PG X tg λv σ H Q=>∃own β d k,SQ X C σ H β own/\Rp X (eN C (Wn own) k) H d v/\γ d k β λβ'=>∀σ' aN,SQ X C σ' H β' aN->(∀a,Wn aN a->Wn own a)->(∀j,j∉T->σ'[j]?=σ[j]?)->Q σ' H
structure DC (X:Cx)(C:Cfg)(vI:List Expr)(T:List Nat)(γ:nP):Prop where
 mono:∀d k β R R',(∀r,R r->R' r)->γ d k β R->γ d k β R'
 P8:EG X vI λvs σ H Q=>∃own β ds k,SQ X C σ H β own/\l3 X (eN C (Wn own) k) H ds vs/\γ ds k β λβ'=>∀σ' aN,SQ X C σ' H β' aN->(∀a,Wn aN a->Wn own a)->(∀j,j∉T->σ'[j]?=σ[j]?)->Q σ' H
section
variable {X:Cx}{C:Cfg}{tg:Expr}{vI:List Expr}{γ:eC}{γs:nP}{T T':List Nat}{pos:Pos}{e:Expr}{φ:aM}{p:Bool}
def Te (i:Nat):eC:=λd k β R=>Eb d k λb=>R (β.set i (some b))
theorem aw {i:Nat}{x:Str}(hN:X.N.Nodup)(hi:X.N[i]?=some x:=by rfl)(hx:Loc X.env.scope x:=by first|exact .inl rfl|exact .inr rfl)
  (hf:X.fn x=true\/X.env.scope.names.lookup x=some .local:=by first|exact .inl rfl|exact .inr rfl|assumption):AU X C (.Name x pos) [i] (Te i) :=
 ⟨λd k β R R' h q=>Eb.mono (d:=d) (k:=k) (K:=λb=>R (β.set i (some b))) (K':=λb=>R' (β.set i (some b))) (λ_=>h _) q,(oI hN hi hx hf).pre λv σ H Q wQ=>by
  obtain⟨own,β,d,k,s,r,q⟩:=wQ;have LP:∀(v:V) (j:Nat),j∉[i]->(σ.set i (some v))[j]?=σ[j]?:=λv j hj=>aW (WO (by simpa using hj))
  cases k with
  |own=>exact q _ _ (s.eT (y:=true) r) (λa h=>cM h) (LP v)
  |cQ=>exact q _ _ (s.eT (y:=true) r) (λa h=>cM h) (LP v)
  |old=>exact q _ _ (s.eT (y:=false) r) (λa h=>cM h) (LP v)
  |bor=>exact q.2 _ _ (s.eT (y:=true) (au.flat q.1 r)) (λa h=>cM h) (LP v)⟩
abbrev sk (k:Kd):D->Kd
 |.int _=>.own
 |.bl _=>.own
 |.bC=>.own
 |.str _=>.own
 |_=>k.wk
theorem om {P:UY}{w:Vc}{W:Addr->Prop}{H:Hp}{k:Kd}{d:D}{v:V}(r:au P w (eN C W k) H d v):au P w (eN C W (sk k d)) H d v:=by
 cases d with
 |int i=>exact au.flat rfl r
 |bl i=>exact au.flat rfl r
 |bC=>exact au.flat rfl r
 |str i=>exact au.flat rfl r
 |_=>exact au.aL (λa z=>z.imp (AJ a) id) r
def G6:nP:=λds _ β R=>ds=[]/\R β
def zZ (γ:eC)(γs:nP):nP:=λds k β R=>∃d r,ds=d::r/\γ d (sk k d) β λβ'=>γs r k β' R
theorem cI:DC X C [] [] G6:=⟨λd k β R R' h q=>⟨q.1,h _ q.2⟩,B0.pre λvs σ H Q wO=>by
 obtain⟨own,β,ds,k,s,r,e,q⟩:=wO;subst e;exact⟨r,q σ own s (λ_ z=>z) λ_ _=>rfl⟩⟩
theorem aQ (h1:AU X C tg T γ)(h2:DC X C vI T' γs)(hs:(WN (tg::vI) X.env).map (·.2)=assign tg X.env::(WN vI X.env).map (·.2):=by rfl):DC X C (tg::vI) (T++T') (zZ γ γs) :=
 ⟨λds k β R R' h GD=>by obtain⟨d,r,e,q⟩:=GD;exact⟨d,r,e,h1.mono _ _ β _ _ (λβ' q=>h2.mono r k β' _ _ h q) q⟩,
  (yM h1.pg h2.P8 hs).pre λvs σ H Q JX=>by
    obtain⟨own,β,ds,k,s,rr,d,r,e,q⟩:=JX;subst e;obtain⟨v,vr,rfl,rv,Ry⟩:=rr;exact⟨v,vr,rfl,own,β,d,_,s,om rv,h1.mono _ _ β _ _ (λβ' q σ' aN s' w' t'=>⟨aN,β',r,k,s',af.aL (fT w' k) Ry,h2.mono r k β' _ _ (λβ2 q2 σ2 aY s2 w2 t2=>q2 σ2 aY s2 (λa z=>w' a (w2 a z)) λj hj=>(t2 j λz=>hj (Vw _ z)).trans (t' j λz=>hj (WI _ z))) q⟩) q⟩⟩
def Td (n:Nat)(γs:nP):eC:=λd k β R=>∃ds,d=.tup ds/\ds.length=n/\γs ds k β R
theorem df {k:Nat}{n:Nat}(hc:X.calm=true)(h:DC X C vI T γs)(hn:(WN vI X.env).length=n:=by rfl)(zK:(WN vI X.env).findIdx? (·.1)=none:=by rfl):AU X C (.Tuple vI k pos) T (Td n γs) :=
 ⟨λd k β R R' hh Gz=>by obtain⟨ds,e,l,q⟩:=Gz;exact⟨ds,e,l,h.mono ds k β _ _ hh q⟩,(Fy hc h.P8 hn zK).pre λv σ H Q NY=>by
  obtain⟨own,β,d,k,s,r,ds,e,l,q⟩:=NY;subst e;obtain⟨a,vs,rfl,ha,rs⟩:=r;exact⟨a,vs,rfl,rZ.of ha,by rw[rs.length];exact l,own,β,ds,k,s,rs,q⟩⟩
theorem eS {Z:Hp×(Addr->Prop)}{H:Hp}{own aN:Nat->List Addr}(n:Sn Z H (Wn own))(h:∀a,Wn aN a->Wn own a):Sn Z H (Wn aN):=⟨λb z=>n.w b (h b z),n.k,n.d⟩
theorem yS (he:PQ X C.z p e φ)(hg:AU X C.z tg T γ)(hs:swapsWithSole [tg] e pos.line X.env=pure false:=by rfl)(hw:swappedStores [tg] e X.env=pure none:=by rfl)
  (h1:(WN [tg] X.env).map (·.2)=[assign tg X.env]:=by rfl):PB X C (.Assign [tg] e pos) (λE β=>φ β λd k β'=>γ d k β' E.nx) :=
 ⟨λE E' β l q=>he.mono _ _ _ (λd k β' q=>hg.mono _ _ _ _ _ l.nx q) q,(oF he.pe hg.pg hs hw h1).pre λD σ H ⟨Z,E,β,⟨own,s,n⟩,q,ok⟩=>tQ.of he s q λd k β' v H' aN q o r =>
  ⟨aN,β',d,k,o.sq,au.aL (λa z=>z.elim id λz=>z.elim) r.rep,hg.mono _ _ _ _ _ (λβ2 q σ2 aY s2 w2 _=>ok.nx _ _ _ ⟨aY,s2,eS (n.trans o.sn) w2⟩ q) q⟩⟩
theorem B7 (he:PQ X C.z p e φ)(o7:Wg e none pos.line X.env=pure false:=by rfl):PB X C (.Expr e pos) (λE β=>φ β λ_ _ β'=>E.nx β') :=
 ⟨λE E' β l q=>he.mono _ _ _ (λd k β' q=>l.nx _ q) q,(dZ he.pe o7).pre λD σ H Gy=>by obtain⟨Z,E,β,⟨own,s,n⟩,q,ok⟩:=Gy;exact tQ.of he s q λd k β' v H' aN q o r=>ok.nx _ _ _ (o.sb n) q⟩
abbrev Qg (ro:Bool)(k:Kd)(d:D):Prop:=match k,ro with
 |.own,_=>True
 |.cQ,false=>True
 |_,_=>d.flat=true
theorem eI {P:UY}{w:Vc}{W:Addr->Prop}{ro:Bool}{H H':Hp}{d:D}{v:V}(f:d.flat=true)(r:au P w W H' d v):pC P w ro H H' d v:=by
 cases ro with
 |true=>exact⟨[],eF f r,V7,λc hc=>(nomatch hc)⟩
 |false=>exact au.flat f r
theorem Cv {P:UY}{w:Vc}{Z:Hp×(Addr->Prop)}{own:Nat->List Addr}{ro:Bool}{H':Hp}{k:Kd}{d:D}{v:V}(f:Qg ro k d)(r:KV P w C Z own H' k d v):pC P w ro C.H0 H' d v:=by
 cases k with
 |own =>
  cases ro with
  |true=>obtain⟨A,h1,h2,h3⟩:=r;exact⟨A,h1,h2,λc hc=>(h3 c hc).2.2⟩
  |false=>exact au.aL (λa z=>.inr z) r.rep
 |cQ =>
  cases ro with
  |true=>exact eI f r.rep
  |false=>exact au.aL (λa z=>.inr z) r.rep
 |old=>cases ro <;> exact eI f r.rep
 |bor=>cases ro <;> exact eI f r.rep
theorem a_ (he:PQ X C.z p e φ):PB X C (.Return (some e) pos) (λE β=>φ β λd k β'=>Qg C.ro k d/\E.rt d β') :=
 ⟨λE E' β l q=>he.mono _ _ _ (λd k β' q=>⟨q.1,l.rt _ _ q.2⟩) q,(eY he.pe).pre λD σ H JW=>by obtain⟨Z,E,β,⟨own,s,n⟩,q,ok⟩:=JW;exact tQ.of he s q λd k β' v H' aN q o r=>ok.rt _ _ _ _ _ (o.sb n) (Cv (C:=C.z) q.1 r) q.2⟩
theorem uO {i:Nat}{x:Str}{px:Pos}(hN:X.N[i]?=some x:=by rfl)(hv:j9 X.env.scope x:=by first|exact .inl rfl|exact .inr (.inl rfl)|exact .inr (.inr rfl))(hd:(x==("__debug__" : Str))=false:=by decide)(c7:(x==("__classdict__" : Str))=false:=by decide):
  PB X C (.Return (some (.Name x px)) pos) (λE β=>∃d,β[i]?=some (some (.own d))/\E.rt d β) :=
 ⟨λE E' β l o8=>by obtain⟨d,h1,q⟩:=o8;exact⟨d,h1,l.rt _ _ q⟩,(eY (bp (pos:=px) hN hv hd c7)).pre λD σ H tS=>by
  obtain⟨Z,E,β,⟨own,s,n⟩,⟨d,h1,q⟩,ok⟩:=tS;obtain⟨v,e1,r,h0⟩:=s.ow i d h1;refine⟨_,e1,ok.rt _ _ _ _ _ ⟨own,s,n⟩ ?_ q⟩;cases hr:C.ro with
  |true=>exact⟨_,r,s.gX i,h0⟩
  |false=>exact r.rep λc hc z=>z (h0 c hc)⟩
end
abbrev c9:=a7->(List D->Kd->a7->Prop)->Prop
structure AS (X:Cx)(C:Cfg)(p:Bool)(tg iter:Expr)(ι:c9):Prop where
 mono:∀β R R',(∀d k β,R d k β->R' d k β)->ι β R->ι β R'
 pi:PI X tg iter λσ H R=>∃β own,SQ X C σ H β own/\ι β λds k β'=>∀J H' aN,Out X C σ H own p β' H' aN->xC X (av C (Wn aN) k) J ds H'->R J H'
section
variable {X:Cx}{C:Cfg}{tg e a b:Expr}{φ:aM}{φs:bI}{p:Bool}{pp pos:Pos}
def ND (φ:aM):c9:=λβ R=>φ β λd k β'=>∃ds,d=.lst ds/\R ds k β'
theorem bz (h:PQ X C p e φ):AS X C p tg e (ND φ) :=
 ⟨λβ R R' k q=>h.mono β _ _ (λd kd β' GP=>by obtain⟨ds,e,q⟩:=GP;exact⟨ds,e,k _ _ _ q⟩) q,(uN h.pe).pre λσ H R ⟨β,own,s,q⟩=>tQ.of h s q λd k β' v H1 ao zN o1 r1=>by
  obtain⟨ds,e,q1⟩:=zN;subst e;obtain⟨a,vs,rfl,h1,n1,q2⟩:=r1.rep;exact⟨a,rfl,⟨vs,b3.of h1⟩,q1 _ _ ao o1 (qW h1 n1 q2)⟩⟩
def CL (φs:bI):c9:=λβ R=>φs β λds _ β'=>∃j:Int,ds=[.int j]/\-(2 ^ 62)<=j/\j<2 ^ 62/\R (mv 0 j.toNat) .cQ β'
def u5 (φs:bI):c9:=λβ R=>φs β λds _ β'=>∃i j:Int,ds=[.int i,.int j]/\(-(2 ^ 62)<=i/\i<2 ^ 62/\-(2 ^ 62)<=j/\j<2 ^ 62)/\R (mv i (j-i).toNat) .cQ β'
theorem bO (hm:X.mg "range" = none) (ha:nO X C p [a] φs) (hg:Gl X "range" := by rfl) (hs:U5 [a] X.env=[(false,eval a X.env)]:=by rfl):AS X C p tg (.Call (.Name "range" pp) [a] [] pos) (CL φs) :=
 ⟨λβ R R' k q=>ha.mono β _ _ (λd kd β' GN=>by obtain⟨j,e,h1,h2,q⟩:=GN;exact⟨j,e,h1,h2,k _ _ _ q⟩) q,(i5 hg hm ha.pa hs).pre λσ H R ⟨β,own,s,q⟩=>pE.of ha s q λds ks β' vs H1 ao GK o1 r1=>by
  obtain⟨j,e,h1,h2,q1⟩:=GK;subst e;obtain⟨x,rfl,hx⟩:=lZ r1.fG;cases hx;exact⟨j,rfl,h1,h2,q1 _ _ ao o1 jb⟩⟩
theorem kQ (hm:X.mg "range" = none) (ha:nO X C p [a,b] φs) (hg:Gl X "range" := by rfl) (hs:U5 [a,b] X.env=[(false,eval a X.env),(false,eval b X.env)]:=by rfl) (tP:U5 [b] X.env=[(false,eval b X.env)]:=by rfl) :
  AS X C p tg (.Call (.Name "range" pp) [a,b] [] pos) (u5 φs) :=
 ⟨λβ R R' k q=>ha.mono β _ _ (λd kd β' GJ=>by obtain⟨i,j,e,h1,q⟩:=GJ;exact⟨i,j,e,h1,k _ _ _ q⟩) q,(mU hg hm ha.pa hs tP).pre λσ H R ⟨β,own,s,q⟩=>pE.of ha s q λds ks β' vs H1 ao Oc o1 r1=>by
  obtain⟨i,j,e,h1,q1⟩:=Oc;subst e;obtain⟨x,y,rfl,hx,hy⟩:=vy r1.fG;cases hx;cases hy;exact⟨i,j,rfl,h1,q1 _ _ ao o1 jb⟩⟩
end
def CW (γ:eC)(ψ:EF)(E:fu)(ds:List D)(k:Kd)(β:a7):Prop:=∃I:Nat->a7->Prop,I 0 β/\(∀i d β,ds[i]?=some d->I i β->γ d (sk k d) β λβ1=>ψ (E.lp (I (i+1))) β1)/\∀β,I ds.length β->E.nx β
section
variable {X:Cx}{C:Cfg}{tg iter c:Expr}{γ:eC}{T:List Nat}{ψ:EF}{ι:c9}{τ:bb}{body:List Stmt}{pos:Pos}{p:Bool}
theorem CW.mono {E E':fu}{ds:List D}{k:Kd}{β:a7}(hγ:∀d k β R R',(∀r,R r->R' r)->γ d k β R->γ d k β R')(hψ:∀E E' β,Le E E'->ψ E β->ψ E' β)(l:Le E E'):CW γ ψ E ds k β->CW γ ψ E' ds k β:=λ⟨I,h0,h1,h2⟩ =>
 ⟨I,h0,λi d β e q=>hγ d _ β _ _ (λβ1 q=>hψ {nx:=I (i+1),rt:=E.rt,bk:=E.nx,ct:=I (i+1)} {nx:=I (i+1),rt:=E'.rt,bk:=E'.nx,ct:=I (i+1)} β1 ⟨λ_ q=>q,l.rt,l.nx,λ_ q=>q⟩ q) (h1 i d β e q),λβ q=>l.nx _ (h2 β q)⟩
theorem Dz {own aY:Nat->List Addr}{H H2:Hp}{k:Kd}(n:Sn (H,Wn own) H2 (Wn aY)):∀b,av C (Wn aY) k b->av C (Wn own) k b\/H b=none:=λb z=>by
 cases k with
 |own=>exact z.elim (λz=>(n.w b z).imp .inl id) λz=>.inl (.inr z)
 |cQ=>exact z.elim (λz=>(n.w b z).imp .inl id) λz=>.inl (.inr z)
 |old=>exact n.w b z
 |bor=>exact z.elim
theorem cb (hp:PassesOwn (model X.prog X.w) X.A X.env X.xe)(hc:X.calm=true)(hi:AS X C.z p tg iter ι)(hg:AU X C.z tg T γ)(hb:xr X C body ψ)(hs:∀x,V1 iter X.env x=pure x:=by intro _;rfl):
  PB X C (.For tg iter body [] pos) (λE β=>ι β λds k β1=>hold k false/\CW γ ψ E ds k β1) :=
 ⟨λE E' β l q=>hi.mono _ _ _ (λds k β1 q=>⟨q.1,q.2.mono hg.mono hb.mono l⟩) q,(oE hp hc hi.pi hg.pg hb.ps hs).pre λD σ H Oa=>by
  obtain⟨Z,E,β,⟨own,s,n⟩,q,ok⟩:=Oa;refine⟨β,own,s,hi.mono _ _ _ (λds k β1 ⟨hk,I,i0,i1,i2⟩ J H1 ao o1 it=>?_) q⟩;have n':=n.trans o1.sn;have ig:∀b,Wn ao b\/H1 b=none->av C.z (Wn ao) k b\/H1 b=none:=λb z=>by
   cases k with
   |own=>exact z.imp .inl id
   |cQ=>exact z.imp .inl id
   |old=>exact z
   |bor=>exact hk.elim
  have HM:=it (λb=>av C.z (Wn ao) k b\/H1 b=none) λb z=>z;refine⟨λi m σ H=>i<=ds.length/\m=ds.length-i/\∃β,SB X C (H1,Wn ao) σ H β/\I i β,⟨_,Vb _,rfl,β1,⟨ao,o1.sq,Sn.refl⟩,i0⟩,?_⟩;rintro i m σ2 H2 ⟨hi,rfl,β2,⟨aY,s2,n2⟩,hl⟩;obtain⟨dN,oY⟩:=HM i H2 (n2.k.mono ig)
  by_cases gh:i<ds.length
  ·right
   have hd:ds[i]?=some ds[i]:=U4 gh;obtain⟨go,yl⟩:=dN _ hd;refine⟨go,λσ' H'=>∃β,SB X C (H1,Wn ao) σ' H' β/\I (i+1) β,λσ' H' GG=>by obtain⟨β',vV,zR⟩:=GG;exact⟨_,by lia,gh,rfl,β',vV,zR⟩,λx H3 y=>?_⟩
   obtain⟨s3,r3⟩:=yl x H3 y;refine⟨aY,β2,_,_,s2.same s3,om (C:=C.z) (au.aL (λb z=>Dz (C:=C) n2 b (z.elim id λz=>z.elim)) r3),hg.mono _ _ _ _ _ (λβ4 q σ4 qA s4 w4 _=>?_) (i1 i _ β2 hd hl)⟩;refine⟨(H1,Wn ao),_,β4,⟨qA,s4,eS (n2.same s3) w4⟩,q,⟨λσ5 H5 β5 vU q5=>⟨β5,vU,q5⟩,λσ5 H5 β5 d5 v5 vU r5 q5=>?_,λσ5 H5 β5 vU q5=>?_,λσ5 H5 β5 vU q5=>⟨β5,vU,q5⟩⟩⟩
   ·obtain⟨oM,s5,n5⟩:=vU;exact ok.rt _ _ _ _ _ ⟨oM,s5,n'.trans n5⟩ r5 q5
   ·obtain⟨oM,s5,n5⟩:=vU;exact ok.nx _ _ _ ⟨oM,s5,n'.trans n5⟩ q5
  ·left
   have e:i=ds.length:=by lia
   subst e;exact⟨oY (US _),ok.nx _ _ _ ⟨aY,s2,n'.trans n2⟩ (i2 β2 hl)⟩⟩
def EU (τ:bb)(ψ:EF):EF:=λE β=>∃V:Nat->a7->Prop,(∃m,V m β)/\∀m β,V m β->τ β λt β1=>if t=true then ψ {nx:=λβ'=>∃m',m'<m/\V m' β',rt:=E.rt,bk:=E.nx,ct:=λβ'=>∃m',m'<m/\V m' β'} β1 else E.nx β1
theorem qv (hp:PassesOwn (model X.prog X.w) X.A X.env X.xe)(hc:vB X C.z p c τ)(hb:xr X C body ψ):PB X C (.While c body [] pos) (EU τ ψ) :=
 ⟨λE E' β l ⟨V,h0,h⟩=>⟨V,h0,λm β v=>hc.mono _ _ _ (λt β1 q=>by
   cases t
   ·exact l.nx _ q
   ·exact hb.mono {nx:=λβ'=>∃m',m'<m/\V m' β',rt:=E.rt,bk:=E.nx,ct:=λβ'=>∃m',m'<m/\V m' β'} {nx:=λβ'=>∃m',m'<m/\V m' β',rt:=E'.rt,bk:=E'.nx,ct:=λβ'=>∃m',m'<m/\V m' β'} β1 ⟨λ_ q=>q,l.rt,l.nx,λ_ q=>q⟩ q) (h m β v)⟩,(yA hp hc.pt hb.ps).pre λD σ H GF=>by
  obtain⟨Z,E,β,sb,⟨V,⟨m0,v0⟩,h⟩,ok⟩:=GF;refine⟨λm σ H=>∃β,SB X C Z σ H β/\V m β,⟨m0,β,sb,v0⟩,λm σ H ⟨β,⟨own,s,n⟩,v⟩=>?_⟩;refine jU.of hc s (h m β v) λt β1 H1 ao q o1=>?_;cases t
  ·exact ok.nx _ _ _ (o1.sb n) q
  ·exact⟨λσ' H'=>∃β',SB X C Z σ' H' β'/\∃m',m'<m/\V m' β',λσ' H' GB=>by obtain⟨β',vV,m',hm,v'⟩:=GB;exact⟨m',hm,β',vV,v'⟩,Z,_,β1,o1.sb n,q,λσ' H' β' vV q'=>⟨β',vV,q'⟩,ok.rt,ok.nx,λσ' H' β' vV q'=>⟨β',vV,q'⟩⟩⟩
end
def startB (N:List Str)(ds:List D):a7:=ds.map (λd=>some (.val false d))++U9 (N.length-ds.length) none
def iU (N:List Str)(ok:List Int->Prop)(ds:List D):a7:=some (.hand ok)::(ds.map (λd=>some (.val false d))++U9 (N.length-(ds.length+1)) none)
section
variable {P:UY}{w:Vc}{K:PySem.W.Frag}{mg:Str->Option UQ}{base:Heap}
theorem fH {i n:Nat}{b:B}(h:(U9 n (none:Option B))[i]?=some (some b)):False:=by
 rw[List.getElem?_replicate]at h
 split at h <;> cases h
theorem eE {ds:List D}{n i:Nat}{b:B}(h:(ds.map (λd=>some (B.val false d))++U9 n none)[i]?=some (some b)):∃d,ds[i]?=some d/\b=.val false d:=by
 by_cases hi:i<ds.length
 ·rw[Wc (by simpa using hi),Vd]at h
  cases q:ds[i]? with
  |none=>rw[q]at h;cases h
  |some d=>rw[q]at h;cases h;exact⟨d,rfl,rfl⟩
 ·rw[VN (by simpa using hi)]at h
  exact(fH h).elim
theorem iT {N:List Str}{vs:List V}{i:Nat}{v:V}(h:vs[i]?=some v):(start N vs)[i]?=some (some v):=by
 unfold start;rw[Wc (by simpa using (U6.mp h).1),Vd,h]
 rfl
theorem yb {N:List Str}{vs:List V}{ds:List D}{H:Hp}{ro:Bool}(r:af P w (λ_=>False) H ds vs):bh P w ⟨H,λ_=>False,ro,λ_=>False⟩ (start N vs) H (startB N ds) (λ_=>[]):=by
 refine⟨?_,λi y d h=>?_,λi d h=>?_,λi ok h=>?_,λi a h=>(nomatch h),λi j a h=>(nomatch h),λi=>V7,Kp.refl,λ_ z=>z,λi y d h=>by obtain⟨d',e,e'⟩:=eE h;cases e'⟩
 ·unfold startB start;simp[r.length]
 ·obtain⟨d',e,e'⟩:=eE h;cases e';obtain⟨v,e1,e2⟩:=af.get r e;exact⟨v,iT e1,au.aL (λa z=>z.elim (λN8=>by obtain⟨_,q⟩:=N8;exact(nomatch q)) λz=>z) e2⟩
 ·obtain⟨d',e,e'⟩:=eE h;cases e'
 ·obtain⟨d',e,e'⟩:=eE h;cases e'
theorem tm {x qual:Str}{st:Stmt}{f:Addr}{fd:VI}{N ps:List Str}{k:Nat}{F:FD}{ro:Bool}(G:Bg K x qual st f fd)(S:aP N ps (az st))(len:∀ds R,F ds R->ds.length=ps.length)
  (lD:∀(cV:UQ) (A:V6) (outer:List Env) (s:UT) (H:Hp) (E:XK),cL k (A.deeper (X9 qual (az st) s.heap.objs.size f cV)) ->
   ∃ψ,xr (mE cy P w K mg base N qual (az st) f cV A outer s H E).DV ⟨H,λ_=>False,ro,λ_=>False⟩ (d4 st) ψ/\∀ds R,F ds R->ψ {nx:=λ_=>R .bC,rt:=λd _=>R d} (startB N ds)) :
  aX P w K mg base cy (k+1) f fd ps (fk P w ro F):=by
 refine G.ok S (λvs H Q E h=>?_) (λcV A outer s H vs Q E hr h=>?_)
 ·obtain⟨ds,r,h⟩:=h;rw[r.length];exact len ds _ h
 ·obtain⟨ds,r,h⟩:=h;obtain⟨ψ,hb,hF⟩:=lD cV A outer s H E hr;refine⟨_,hb.ps,(H,Wn λ_=>[]),_,startB N ds,⟨λ_=>[],yb r,Sn.refl⟩,hF ds _ h,λσ H' β sb q=>?_,λσ H' β d v sb rr q=>?_,λ_ _ _ _ z=>z.elim,λ_ _ _ _ z=>z.elim⟩
  ·obtain⟨own,s',n'⟩:=sb;exact q _ H' (λb o e=>s'.kp.out b o e (λz=>z)) (eI (W:=λ_=>False) rfl rfl)
  ·obtain⟨own,s',n'⟩:=sb;exact q _ H' (λb o e=>s'.kp.out b o e (λz=>z)) rr
theorem vN {N:List Str}{ok:List Int->Prop}{h:Addr}{ns:List Int}{vs:List V}{ds:List D}{H:Hp}{ro:Bool}(hh:H h=some (.lst (ns.map V.int)))(ho:ok ns)(r:af P w (λa=>a=h) H ds vs):
  bh P w ⟨H,(·=h),ro,λ_=>False⟩ (start N (.ref h::vs)) H (iU N ok ds) (λi=>if i=0 then [h] else []):=by
 have Ca:∀{i:Nat} {a:Addr},a∈(if i=0 then [h] else ([]:List Addr))->i=0/\a=h:=λ{i a} q=>by
  by_cases e:i=0
  ·rw[if_pos e]at q;exact⟨e,by simpa using q⟩
  ·rw[if_neg e]at q;cases q
 have CU:∀{i:Nat} {b:B},(iU N ok ds)[i]?=some (some b)->(i=0/\b=.hand ok)\/∃j d,i=j+1/\ds[j]?=some d/\b=.val false d:=λ{i b} q=>by
  unfold iU at q;cases i with
  |zero=>simp at q;exact .inl ⟨rfl,q.symm⟩
  |succ i =>
   rw[List.getElem?_cons_succ]at q;obtain⟨d,e,e'⟩:=eE q;exact .inr ⟨i,d,rfl,e,e'⟩
 refine⟨?_,λi y d q=>?_,λi d q=>?_,λi HI q=>?_,λi a q=>?_,λi j a h1 h2=>?_,λi=>?_,Kp.refl,λ_ z=>z,λi y d q=>(CU q).elim (λKS=> by obtain⟨_,e⟩ := KS;cases e) (λKR=> by obtain⟨j,d',_,_,e'⟩ := KR;cases e')⟩
 ·unfold iU start;simp[r.length]
 ·rcases CU q with⟨_,e⟩|⟨j,d',rfl,e,e'⟩
  ·cases e
  ·cases e';obtain⟨v,e1,e2⟩:=af.get r e;exact⟨v,iT (by simpa using e1),au.aL (λa z=>z.elim (λGA=>by obtain⟨j,q⟩:=GA;exact(Ca q).2) λz=>z.elim) e2⟩
 ·rcases CU q with⟨_,e⟩|⟨j,d',_,_,e'⟩
  ·cases e
  ·cases e'
 ·rcases CU q with⟨e0,e⟩|⟨j,d',_,_,e'⟩
  ·cases e;subst e0;exact⟨h,ns,iT rfl,hh,ho,rfl,.inr rfl⟩
  ·cases e'
 ·obtain⟨_,rfl⟩:=Ca q;exact⟨by rw[hh];exact λz=>(nomatch z),λxs z=>(by rw[hh]at z;cases z),.inr rfl,λz=>z⟩
 ·rw[(Ca h1).1,(Ca h2).1]
 ·by_cases e:i=0
  ·simp[e]
  ·simp[e]
theorem Nb {x qual:Str}{st:Stmt}{f:Addr}{fd:VI}{N ps:List Str}{k:Nat}{F:FD}{ok:List Int->Prop}{ro:Bool}(G:Bg K x qual st f fd)(S:aP N ps (az st))(len:∀ds R,F ds R->ds.length+1=ps.length)
  (lD:∀(cV:UQ) (A:V6) (outer:List Env) (s:UT) (H:Hp) (E:XK) (IO:Addr->Prop),cL k (A.deeper (X9 qual (az st) s.heap.objs.size f cV)) ->
   ∃ψ,xr (mE cy P w K mg base N qual (az st) f cV A outer s H E).DV ⟨H,IO,ro,λ_=>False⟩ (d4 st) ψ/\∀ds R,F ds R->ψ {nx:=λ_=>False,rt:=λd β=>β[0]?=some (some (.hand ok))/\R d} (iU N ok ds)) :
  aX P w K mg base cy (k+1) f fd ps (sQ P w ok ro F):=by
 refine G.ok S (λvs H Q E h=>?_) (λcV A outer s H vs Q E hr h=>?_)
 ·obtain⟨h,vs',ds,ns,rfl,hh,ho,r,q⟩:=h;rw[Ve,r.length];exact len ds _ q
 ·obtain⟨h,vs',ds,ns,rfl,hh,ho,r,q⟩:=h;obtain⟨ψ,hb,hF⟩:=lD cV A outer s H E (·=h) hr;refine⟨_,hb.ps,(H,_),_,iU N ok ds,⟨_,vN hh ho r,Sn.refl⟩,hF ds _ q,λσ H' β sb z=>z.elim,λσ H' β d v sb rr ⟨b0,q⟩=>?_,λ_ _ _ _ z=>z.elim,λ_ _ _ _ z=>z.elim⟩;obtain⟨own,s',n'⟩:=sb;obtain⟨a,oQ,g1,g2,g3,g4,g5⟩:=s'.l6 0 ok b0;have ea:a=h:=g5.elim (λz=>(z h rfl).elim) λz=>z;subst ea;exact q v H' oQ s'.kp s'.fw g2 g3 rr
end
end L2.Q
namespace L2
open PySem PySem.Spec PySem.SeqAt PyProof.Rows
theorem sF.pre {X:Cx}{ifs:List Expr}{t t':TT}(h:sF X ifs t)(k:∀σ H Q,t' σ H Q->t σ H Q):sF X ifs t':=λpins s σ H Q I q=>h pins s σ H Q I (k σ H Q q)
section
end
section
end
section
variable {X:Cx}{e:Expr}{g:Xk}{gs:List Xk}{scope:XA}{N':List Str}{lk:List (Option Nat)}{tg:Addr->TG}{tt:Addr->TT}{wi:TI}
theorem jN {d_:Sem UQ}{o:HO}{after:UQ->Env->Sem Fin->Sem Fin}{ta:Addr->mG}(L:Links X scope N' lk)(hc:X.calm=true)(hA:pD X d_ o)
  (F:∀acc env,iL e 0 g acc env (after acc env))
  (K1:∀a cl C s H ex,PG (aG X scope N' cl C s H ex) g.target (tg a)/\sF (aG X scope N' cl C s H ex) g.ifs (tt a)/\r_ (aG X scope N' cl C s H ex) (after (.ref a) (aG X scope N' cl C s H ex).env) (ta a))
  {cl:List (Str×Addr)} (lC:∀x,(x,VM)∈scope.names->∃c,cl.lookup x=some c) (pG:∀x c,cl.lookup x=some c->X.env.cells.lookup x=some c)
  {pins:List (Addr×Obj)} {σ:St} {s:UT} {Q:V->Hp->Prop} {Ee:UQ} {E:UQ->UT->Prop} {RR:UQ->Addr->Result->UT->Prop}
  (h:Mm X pins σ g.target (λJ H1=>∀a,H1 a=none->fB J (tg a) (tt a) (ta a) (λ_ H'=>Q (.ref a) H') (ee lk σ) (upd H1 a o)) Ee s)
  (hR:∀a H' C s',Inv X pins σ H' s'->fU X pins H' C->(∃m,s'.heap.Ns C m)->Q (.ref a) H'->RR (.ref a) C (.ok .next) s') :
  Vy (model X.prog X.w) X.A d_ (λacc s₃=>Vy (model X.prog X.w) X.A (newFunctionEnv scope X.env.globals cl [] X.env.qual none .none (some X.env)) (λLs s₄ =>
   Ys (model X.prog X.w) X.A (.compStart e 0 Ee acc {Ls with scope:=relabel scope X.env}) (RR acc Ls.locals) s₄) E s₃) E s:=by
 obtain⟨it,fp,tn,J,H2,e1,I2,T,fh,f2,hl⟩:=h;subst e1;refine hA.ok pins s σ H2 _ E I2 λa s3 ha hn hk I3=>?_;refine wpAny_newFunctionEnv L.tx (by intro y hy;simp at hy) (λh₁ GU Gw=>?_) L.kind
 have Og:∀b∈fp,∃o,s3.heap.get? b=some o:=λb hb=>by
  obtain⟨ob,q,_⟩:=T.obj _ _ fh b hb;exact⟨ob,hk b ob q⟩
 have S6:∀b∈fp,b≠a:=λb hb=>by
  obtain⟨ob,q,_⟩:=T.obj _ _ fh b hb;exact VT (Vz (Vn q) ha)
 have f3:∀b∈fp,fU X pins (upd H2 a o) b:=λb hb=>⟨by rw[ak (S6 b hb)];exact(f2 b hb).1,(f2 b hb).2⟩
 have Ek:∀b ob,s3.heap.get? b=some ob->h₁.get? b=some ob:=λb ob q=>Gw.extBut b ob (VT (Vn q)) (Vg _ q);have L6:h₁.Ns s3.heap.objs.size (λ_=>none):=GU;have I4:=zH (t':=s3.toks+([]:List (Str×UQ)).length) I3 L f3 Og lC pG L6 Ek;obtain⟨g1,g2,g3⟩:=K1 a cl s3.heap.objs.size s3 (upd H2 a o) fp;have f4:∀b∈fp,fU (aG X scope N' cl s3.heap.objs.size s3 (upd H2 a o) fp) [] (upd H2 a o) b:=λb hb =>
  ⟨(f3 b hb).1,(I4.ok.Mc b hb).1,I4.ok.Aa b hb,.inl hb,(I4.ok.Mc b hb).2,λp hp=>absurd (show p∈([]:List (Addr×Obj)) from hp) (by simp)⟩
 have IA:tn 0 h₁:=T.keep 0 _ _ fh λb hb ob q=>Ek b ob (hk b ob q);refine X_ (lW (X:=aG X scope N' cl s3.heap.objs.size s3 (upd H2 a o) fp) rfl hc (F (.ref a) _) g1 g2 g3 T I4 IA f4 (hl a hn)) λr s' hr=>?_;obtain⟨rfl,σ',H',J',q⟩:=hr;have I5:Inv X pins σ H' s':=zI (C:=s3.heap.objs.size) (h'':=s'.heap) I3 f3 J' (.refl ..);refine hR a H' s3.heap.objs.size s' I5 (I3.z7 (US _) J'.free) ?_ q;obtain⟨m,hm,_⟩:=J'.loc;exact⟨m,hm⟩
theorem qu {d_:Sem UQ}{o:HO}{after:UQ->Env->Sem Fin->Sem Fin}{ta:Addr->mG}{pos:Pos}(L:Links X scope N' lk)(hc:X.calm=true)(hA:pD X d_ o)
  (G1:eval e X.env=comprehension e scope X.env pos d_ false (eval g.iter X.env)) (OQ:clausesOf e=g::gs)
  (F:∀acc env,iL e 0 g acc env (after acc env)) (hi:PI X g.target g.iter wi)
  (K1:∀a cl C s H ex,PG (aG X scope N' cl C s H ex) g.target (tg a)/\sF (aG X scope N' cl C s H ex) g.ifs (tt a)/\r_ (aG X scope N' cl C s H ex) (after (.ref a) (aG X scope N' cl C s H ex).env) (ta a))
  (hs:∀x,V1 g.iter X.env x=pure x) :
  PE X e (λσ H Q=>wi σ H λJ H1=>∀a,H1 a=none->fB J (tg a) (tt a) (ta a) (λ_ H'=>Q (.ref a) H') (ee lk σ) (upd H1 a o)):=by
 intro pins s σ H Q I h;rw[G1];obtain⟨cl,zU,lC,pG⟩:=gA (env:=X.env) (scope:=scope) λx hx=>I.ok.has x (L.free x hx);refine wpAny_comprehension_free (use:=none) OQ hs zU L.kind L.names (bj (hi pins s σ H _ I h) λv s1 h1=>bj h1 λEe s2 h2=>?_);refine jN (RR:=λacc C=>compPost (model X.prog X.w) X.A X.xe none (EP X pins σ Q) acc C) L hc hA F K1 lC pG h2 λa H' C s' I' f ⟨m,hm⟩ q=>?_;exact⟨m,hm,λh' wN=>⟨.ref a,H',I'.sameBut f wN,rfl,q⟩⟩
theorem yB {d_:Sem UQ}{o:HO}{after:UQ->Env->Sem Fin->Sem Fin}{ta:Addr->mG}{pos pos' p_:Pos}{y:Str}{i:Nat}(L:Links X scope N' lk)(hc:X.calm=true)(hA:pD X d_ o)
  (o7:Wg e (some (.Name y pos')) p_.line X.env=pure true)
  (G1:evalThenUse e X.env (assign (.Name y pos') X.env)=(do let _ <- comprehension e scope X.env pos d_ false (eval g.iter X.env) (some (assign (.Name y pos') X.env));pure ())) (OQ:clausesOf e=g::gs)
  (hN:X.N.Nodup) (hy:X.N[i]?=some y) (hx:Loc X.env.scope y) (hf:X.fn y=true\/X.env.scope.names.lookup y=some .local)
  (F:∀acc env,iL e 0 g acc env (after acc env)) (hi:PI X g.target g.iter wi)
  (K1:∀a cl C s H ex,PG (aG X scope N' cl C s H ex) g.target (tg a)/\sF (aG X scope N' cl C s H ex) g.ifs (tt a)/\r_ (aG X scope N' cl C s H ex) (after (.ref a) (aG X scope N' cl C s H ex).env) (ta a))
  (hs:∀x,V1 g.iter X.env x=pure x) :
  PS X (.Assign [.Name y pos'] e p_) (λD σ H=>wi σ H λJ H1=>∀a,H1 a=none->fB J (tg a) (tt a) (ta a) (λ_ H'=>D.nx (σ.set i (some (.ref a))) H') (ee lk σ) (upd H1 a o)):=by
 intro pins s σ H D I h;rw[exec_Assign_Name_used _ _ _ _ o7,G1];refine UU (Xg (UU (UU ?_)));obtain⟨cl,zU,lC,pG⟩:=gA (env:=X.env) (scope:=scope) λx hx=>I.ok.has x (L.free x hx);refine bj (wpAny_comprehension_free (use:=some (assign (.Name y pos') X.env)) (Q:=λ_ s'=>SP X pins D .next s') OQ hs zU L.kind L.names (bj (hi pins s σ H _ I h) λv s1 h1=>bj h1 λEe s2 h2=>?_)) λ_ s' q=>Vl (Vl q)
 refine jN (Q:=λv H'=>D.nx (σ.set i (some v)) H') (RR:=λacc C=>compPost (model X.prog X.w) X.A X.xe (some (assign (.Name y pos') X.env)) (λ_ s'=>SP X pins D .next s') acc C) L hc hA F K1 lC pG h2 λa H' C s' I' f ⟨m,hm⟩ q=>?_
 show Vy _ _ (assign (.Name y pos') X.env (.ref a)) _ _ s';have UD:∃o,s'.heap.get? C=some o:=by obtain⟨o,_,_,ho,_⟩:=hm;exact⟨o,ho⟩
 refine wpAny_assign_Name (mO I' hN hy hx (v:=.ref a) (u:=.ref a) rfl (λs4 I4 k4=>?_) hf);obtain⟨a4,Rx,S8⟩:=k4;have tT:C≠a4:=by
  rcases S8 with z|z
  ·rw[z];exact f.2.1
  ·exact(f.2.2.2.2.1 y a4 z).symm
 exact⟨m,hm.at' (λo e=>(Rx.2 C tT).trans e),λh' wN=>⟨_,H',I4.sameBut f wN,q⟩⟩
end
end L2
namespace L2.Q
open PySem PySem.Spec PySem.SeqAt PyProof.Rows
noncomputable def Qh:Option B->Option B
 |some (.own d)=>some (.val false d)
 |some (.shl _ d)=>some (.val false d)
 |b=>b
def dz (lk:List (Option Nat))(β:a7):a7:=lk.map λl=>match l with|some j=>(match β[j]? with|some b=>Qh b|none=>none)|none=>none
def L0:Option (Option B)->Bool
 |some (some (.hand _))=>true
 |_=>false
def bt (lk:List (Option Nat))(β:a7)(own:Nat->List Addr)(i:Nat):List Addr:=match lk[i]? with
 |some (some j)=>if L0 β[j]?=true then own j else []
 |_=>[]
def fm:a7->a7->Prop
 |[],_=>True
 |some (.hand ok)::a,c=>c.head?=some (some (.hand ok))/\fm a c.tail
 |_::a,c=>fm a c.tail
theorem fm.get:∀{a c:a7} {i:Nat} {ok:List Int->Prop},fm a c->a[i]?=some (some (.hand ok))->c[i]?=some (some (.hand ok))
 |[],_,_,_,_,e=>by simp at e
 |x::a,c,0,ok,h,e=>by
  simp at e;subst e;rw[<- List.head?_eq_getElem?];exact h.1
 |x::a,c,i+1,ok,h,e=>by
  have h':fm a c.tail:=by
   cases x with
   |none=>exact h
   |some x=>cases x <;> first|exact h|exact h.2
  have:=fm.get (i:=i) h' (by simpa using e)
  rwa [List.getElem?_tail]at this
section
variable {P:UY}{w:Vc}{C:Cfg}{σ σ':St}{H H' H1:Hp}{β βi:a7}{own il:Nat->List Addr}{lk:List (Option Nat)}{a:Addr}
theorem bW {i:Nat}{c:Addr}(h:c∈bt lk β own i):∃j,lk[i]?=some (some j)/\L0 β[j]?=true/\c∈own j:=by
 unfold bt at h
 split at h
 ·next j e =>
  by_cases q:L0 β[j]?=true
  ·rw[if_pos q]at h;exact⟨j,e,q,h⟩
  ·rw[if_neg q]at h;cases h
 ·cases h
theorem ba:∀c,Wn (bt lk β own) c->Wn own c:=λc ⟨i,h⟩=>let ⟨j,_,_,h⟩:=bW h;⟨j,h⟩
theorem fN {i j:Nat}{v:V}(h:lk[i]?=some (some j))(e:σ[j]?=some (some v)):(ee lk σ)[i]?=some (some v):=by
 unfold ee;rw[Vd,h];simp only[Yj];rw[e]
theorem gf {i:Nat}{b:B}(h:(dz lk β)[i]?=some (some b)):∃j b',lk[i]?=some (some j)/\β[j]?=some (some b')/\Qh (some b')=some b:=by
 unfold dz at h;rw[Vd]at h;cases q:lk[i]? with
 |none=>rw[q]at h;cases h
 |some l =>
  rw[q]at h;cases l with
  |none=>cases h
  |some j =>
   simp only[Yj]at h;cases q2:β[j]? with
   |none=>rw[q2]at h;cases h
   |some b2 =>
    rw[q2]at h;simp only[Option.some.injEq]at h;cases b2 with
    |none=>cases h
    |some b'=>exact⟨j,b',rfl,q2,h⟩
theorem bh.enter (s:bh P w C σ H β own)(ha:H a=none)(inj:∀(i i' j:Nat),lk[i]?=some (some j)->lk[i']?=some (some j)->i=i'):
  bh P w (C.u λc=>c=a) (ee lk σ) (upd H a (.lst [])) (dz lk β) (bt lk β own):=by
 have sm:ay H (upd H a (.lst [])):=ay.new ha;have na:∀{i c},c∈own i->c≠a:=λ{i c} hc z=>(s.dm i c hc).1 (by rw[z];exact ha)
 have gr:∀k,∀c,eN (C.u λc=>c=a) (Wn (bt lk β own)) k c->eN C (Wn own) k c\/H c=none:=λk c z=>by
  rcases z with z|z
  ·exact .inl (.inl (gk ba k c z))
  ·exact .inr (by rw[z];exact ha)
 refine⟨by unfold dz ee;simp,λi y d e=>?_,λi d e=>?_,λi ok e=>?_,λi c h=>?_,λi i' c h1 h2=>?_,λi=>?_,s.kp.trans sm.kp,λc z e=>s.fw c z (sm.free e),λi y d e=>by
  obtain⟨j,b',e1,e2,e3⟩:=gf e;cases b' <;> cases e3⟩
 ·obtain⟨j,b',e1,e2,e3⟩:=gf e;cases b' with
  |val y' d' =>
   cases e3;obtain⟨v,h1,h2⟩:=s.val j y d e2;exact⟨v,fN e1 h1,(au.grow (gr _) h2).same sm⟩
  |own d' =>
   cases e3;obtain⟨v,h1,h2,h3⟩:=s.ow j d e2;refine⟨v,fN e1 h1,au.same sm (h2.rep λc hc z=>?_)⟩;rcases z with z|z
   ·obtain⟨i',jg⟩:=z;obtain⟨j',q1,q2,q3⟩:=bW jg;have:=s.fQ j j' c hc q3;subst this;rw[e2]at q2;cases q2
   ·exact na hc z
  |hand ok=>cases e3
  |shl y' d' =>
   cases e3;obtain⟨v,h1,h2,h3⟩:=s.shl j y' d e2;refine⟨v,fN e1 h1,au.same sm (h2.rep (λc hc z=>?_) λds vs r=>af.grow (λc z=>?_) r)⟩
   ·rcases z with z|z
    ·obtain⟨i',jg⟩:=z;obtain⟨j',q1,q2,q3⟩:=bW jg;have:=s.fQ j j' c hc q3;subst this;rw[e2]at q2;cases q2
    ·exact na hc z
   ·rcases gr _ c z with z|z
    ·refine .inl ?_;rcases z with z|z
     ·cases y' with
      |true=>exact .inl (.inl z)
      |false=>exact .inl z
     ·exact .inr z
    ·exact .inr z
 ·obtain⟨j,b',e1,e2,e3⟩:=gf e;cases b' <;> cases e3
 ·obtain⟨j,b',e1,e2,e3⟩:=gf e;cases b' with
  |val y' d'=>cases e3
  |own d'=>cases e3
  |shl y d=>cases e3
  |hand HI =>
   cases e3;obtain⟨h,ns,h1,h2,h3,h4,h5⟩:=s.l6 j ok e2;refine⟨h,ns,fN e1 h1,sm _ _ h2,h3,?_,h5⟩;unfold bt;rw[e1];simp only;rw[e2];exact(if_pos rfl).trans h4
 ·obtain⟨j,q1,q2,q3⟩:=bW h;obtain⟨g1,g2,g3,g4⟩:=s.dm j c q3;rw[ak (na q3)];exact⟨g1,g2,g3,na q3⟩
 ·obtain⟨j,q1,q2,q3⟩:=bW h1;obtain⟨j',P5,Ue,RM⟩:=bW h2;have:=s.fQ j j' c q3 RM;subst this;exact inj _ _ _ q1 P5
 ·unfold bt
  split
  ·next j e =>
   split
   ·exact s.gX j
   ·exact V7
  ·exact V7
theorem bh.IF {o:HO}(s:bh P w (C.u λc=>c=a) σ H β own){oa:HO}(ha:H a=some oa)(ht:∀xs,oa≠.tup xs)(h0:C.H0 a=none):bh P w (C.u λc=>c=a) σ (upd H a o) β own:=by
 have k:Kp (·=a) H (upd H a o):=e_ ha ht;have na:∀{i c},c∈own i->c≠a:=λ{i c} hc=>(s.dm i c hc).2.2.2;refine⟨s.len,λi y d e=>let ⟨v,h1,h2⟩:=s.val i y d e;⟨v,h1,h2.keep (k.mono λc z=>.inr z)⟩,λi d e=>let ⟨v,h1,h2,h3⟩:=s.ow i d e;⟨v,h1,h2.keep k.tup (λc hc oc ec=>k.out c oc ec (na hc)),h3⟩,
  λi ok e=>?_,λi c h=>?_,s.fQ,s.gX,⟨λc oc z n=>k.out c oc (s.kp.out c oc z n) λq=>?_,λc xs z=>k.tup c xs (s.kp.tup c xs z)⟩,λc z=>?_,λi y d e=>let ⟨v,h1,h2,h3⟩:=s.shl i y d e;⟨v,h1,h2.map (λc hc oc ec=>k.out c oc ec (na hc)) (λ_ _ r=>r.keep (k.mono λc z=>.inr z)),h3⟩⟩
 ·obtain⟨h,ns,h1,h2,h3,h4,h5⟩:=s.l6 i ok e;exact⟨h,ns,h1,k.out h _ h2 (na (by rw[h4];simp)),h3,h4,h5⟩
 ·rw[ak (na h)];exact s.dm i c h
 ·rw[q,h0]at z;cases z
 ·by_cases q:c=a
  ·rw[q,aj];exact λz=>(nomatch z)
  ·rw[ak q];exact s.fw c z
theorem bh.leave (s:bh P w C σ H1 β own)(i:bh P w (C.u λc=>c=a) σ' H' βi il)(n:Sn (H1,Wn (bt lk β own)) H' (Wn il))(le:∀c,Wn il c->Wn (bt lk β own) c)
  (hh:fm (dz lk β) βi) (hσ:∀(j:Nat) (ok:List Int->Prop) (i:Nat),β[j]?=some (some (B.hand ok))->lk[i]?=some (some j)->σ'[i]?=(ee lk σ)[i]?):bh P w C σ H' β own:=by
 have off:∀{j c},c∈own j->¬ Wn (bt lk β own) c->∀o,H1 c=some o->H' c=some o:=λ{j c} hc nw o e=>n.k.out c o e λz=>z.elim nw λz=>(s.dm j c hc).1 z;have JV:∀{j c},c∈own j->L0 β[j]?=false->¬ Wn (bt lk β own) c:=λ{j c} hc q wO=>by
  obtain⟨i',jg⟩:=wO;obtain⟨j',q1,q2,q3⟩:=bW jg;have:=s.fQ j j' c hc q3;subst this;rw[q]at q2;cases q2
 have hN:∀(j:Nat) (ok:List Int->Prop),β[j]?=some (some (B.hand ok))->∃a ns,σ[j]?=some (some (V.ref a))/\H' a=some (.lst (ns.map V.int))/\ok ns/\own j=[a]/\((∀b,¬ C.IO b)\/C.IO a):=λj ok e=>by
  obtain⟨h,ns,h1,h2,h3,h4,h5⟩:=s.l6 j ok e
  by_cases q:Wn (bt lk β own) h
  ·obtain⟨i',jg⟩:=q;obtain⟨j',q1,q2,q3⟩:=bW jg;have:=s.fQ j j' h (by rw[h4];simp) q3
   subst this;have eB:(dz lk β)[i']?=some (some (.hand ok)):=by
    unfold dz;rw[Vd,q1];simp only[Yj];rw[e];rfl
   obtain⟨h',oQ,g1,g2,g3,g4,g5⟩:=i.l6 i' ok (hh.get eB);rw[hσ j ok i' e q1,fN q1 h1]at g1;cases g1;exact⟨h,oQ,h1,g2,g3,h4,h5⟩
  ·exact⟨h,ns,h1,off (by rw[h4];simp) q _ h2,h3,h4,h5⟩
 refine⟨s.len,λj y d e=>?_,λj d e=>?_,hN,λj c hc=>?_,s.fQ,s.gX,i.kp,i.fw,λj y d e=>by
  obtain⟨v,h1,h2,h3⟩:=s.shl j y d e;refine⟨v,h1,h2.map (λc hc o eo=>off hc (JV hc (by rw[e];rfl)) o eo) (λds vs r=>?_),h3⟩
  have g:af P w (λc=>eN C (Wn own) (yk y) c\/H1 c=none) H1 ds vs:=af.grow (λc z=>z) r;refine af.aL (λc z=>.inl z) (g.keep (n.k.mono λc z=>z.imp (λz=>?_) id));cases y with
  |true=>exact .inl (.inl (ba c z))
  |false=>exact .inl (ba c z)⟩
 ·obtain⟨v,h1,h2⟩:=s.val j y d e;have g:au P w (λc=>eN C (Wn own) (yk y) c\/H1 c=none) H1 d v:=au.grow (λc z=>z) h2;refine⟨v,h1,au.aL (λc z=>.inl z) (g.keep (n.k.mono λc z=>z.imp (λz=>?_) id))⟩;cases y with
  |true=>exact .inl (.inl (ba c z))
  |false=>exact .inl (ba c z)
 ·obtain⟨v,h1,h2,h3⟩:=s.ow j d e;exact⟨v,h1,h2.keep n.k.tup (λc hc o eo=>off hc (JV hc (by rw[e];rfl)) o eo),h3⟩
 ·obtain⟨g1,g2,g3,g4⟩:=s.dm j c hc
  by_cases q:Wn (bt lk β own) c
  ·obtain⟨i',jg⟩:=q;obtain⟨j',q1,q2,q3⟩:=bW jg;have:=s.fQ j j' c hc q3;subst this;cases e:β[j]? with
   |none=>rw[e]at q2;cases q2
   |some b =>
    rw[e]at q2;cases b with
    |none=>cases q2
    |some b =>
     cases b with
     |val y d=>cases q2
     |own d=>cases q2
     |shl y d=>cases q2
     |hand ok =>
      obtain⟨h,ns,k1,k2,k3,k4,k5⟩:=hN j ok e;rw[k4]at hc;rw[U3.mp hc]at g3 g4 ⊢
      rw[k2];exact⟨λz=>(nomatch z),λxs z=>(by cases z),g3,g4⟩
  ·cases e:H1 c with
   |none=>exact absurd e g1
   |some o=>rw[off hc q o e];exact⟨λz=>(nomatch z),λxs z=>g2 xs (by rw[e];exact z),g3,g4⟩
end
def Ii:bb:=λβ R=>R true β
theorem yE {X:Cx}{C:Cfg}:sF X [] (jU X C true Ii):=BS.pre λσ H Q ⟨β,own,s,q⟩=>q H own (Out.refl s _)
theorem yD {X:Cx}{C:Cfg}{p:Bool}{c:Expr}{τ:bb}(h:vB X C p c τ):sF X [c] (jU X C p τ):=BR h.pt
def lj (γ:eC)(τ:bb)(φ:aM)(ds:List D)(k:Kd)(β0:a7)(K:List D->Prop):Prop:=∃I:Nat->a7->List D->Prop,I 0 β0 [] /\
 (∀i d β o,ds[i]?=some d->I i β o->γ d (sk k d) β λβ1=>τ β1 λt β2=>if t=true then φ β2 λx kx β3=>CH kx x/\o.length<U8/\I (i+1) β3 (o++[x]) else I (i+1) β2 o)/\∀β o,I ds.length β o->fm β0 β/\K o
theorem lj.mono {γ:eC}{τ:bb}{φ:aM}{ds:List D}{k:Kd}{β0:a7}{K K':List D->Prop}(h:∀o,K o->K' o)(q:lj γ τ φ ds k β0 K):lj γ τ φ ds k β0 K':=let ⟨I,h0,h1,h2⟩:=q;⟨I,h0,h1,λβ o z=>⟨(h2 β o z).1,h _ (h2 β o z).2⟩⟩
section
variable {X:Cx}{C:Cfg}{lk:List (Option Nat)}{γ:eC}{τ:bb}{φ:aM}{T:List Nat}{pc pe:Bool}
theorem nE {σ:St}{H1:Hp}{β:a7}{own:Nat->List Addr}{a:Addr}{J:It}{ds:List D}{k:Kd}{K:List D->Prop}{End:Hp->Prop}
  (γm:∀d k β R R',(∀r,R r->R' r)->γ d k β R->γ d k β R') (τm:∀β R R',(∀d β,R d β->R' d β)->τ β R->τ β R') (φm:∀β R R',(∀d k β,R d k β->R' d k β)->φ β R->φ β R')
  (inj:∀(i i' j:Nat),lk[i]?=some (some j)->lk[i']?=some (some j)->i=i') (hT:∀i∈T,∀j,lk[i]?≠some (some j))
  (s1:SQ X C σ H1 β own) (ha:H1 a=none) {hp:Bool} (HQ:hp=true->(pc&&pe)=true) (hk:hold k hp) (it:xC X (av C (Wn own) k) J ds H1) (q:lj γ τ φ ds k (dz lk β) K)
  (fin:∀o H',K o->Out X C σ H1 own (pc&&pe) β H' own->KV X.prog X.w C (H1,Wn own) own H' .own (.lst o) (.ref a)->End H') :
  fB J (λv σ H Q=>∃own β d k,SQ X (C.u λc=>c=a) σ H β own/\Rp X (eN (C.u λc=>c=a) (Wn own) k) H d v/\γ d k β λβ'=>∀σ' aN,SQ X (C.u λc=>c=a) σ' H β' aN->(∀a,Wn aN a->Wn own a)->(∀j,j∉T->σ'[j]?=σ[j]?)->Q σ' H)
   (jU X (C.u λc=>c=a) pc τ) (λN σ H=>tQ X (C.u λc=>c=a) pe φ σ H λv H1=>∃xs,H1 a=some (.lst xs)/\xs.length<U8/\N σ (upd H1 a (.lst (xs++[v]))))
   (λ_ H'=>End H') (ee lk σ) (upd H1 a (.lst [])):=by
 obtain⟨I,i0,i1,i2⟩:=q;have h0:C.H0 a=none:=VF λz=>s1.fw a z ha;have sm:ay H1 (upd H1 a (.lst [])):=ay.new ha;have Qe:∀c,Wn (bt lk β own) c->c≠a:=λc z e=>by
  obtain⟨j,hj⟩:=ba c z;exact(s1.dm j c hj).1 (by rw[e];exact ha)
 let S:Nat->St->Hp->Prop:=λi σ' H'=>∃βi il vs o A,SQ X (C.u λc=>c=a) σ' H' βi il/\Sn (H1,Wn (bt lk β own)) H' (Wn il)/\(∀c,Wn il c->Wn (bt lk β own) c)/\H' a=some (.lst vs)/\aH X.prog X.w H' o vs A/\A.Nodup/\(∀c∈A,H1 c=none/\c≠a) /\
  ((pc&&pe)=true->ay H1 H')/\(∀j,j∉T->σ'[j]?=(ee lk σ)[j]?)/\I i βi o
 have W':Addr->Prop:=λb=>av C (Wn own) k b\/H1 b=none;have HM:=it (λb=>av C (Wn own) k b\/H1 b=none) λb z=>z;have kI:∀{H':Hp} {il:Nat->List Addr},Sn (H1,Wn (bt lk β own)) H' (Wn il)->((pc&&pe)=true->ay H1 H')->Kp (λb=>av C (Wn own) k b\/H1 b=none) H1 H':=λn pu=>by
  cases k with
  |own=>exact n.k.mono λb z=>z.imp (λz=>.inl (ba b z)) id
  |cQ=>exact n.k.mono λb z=>z.imp (λz=>.inl (ba b z)) id
  |old=>exact n.k.mono λb z=>z.imp (ba b) id
  |bor =>
   cases hp with
   |false=>exact hk.elim
   |true=>exact(pu (HQ rfl)).kp.mono λb z=>.inr z
 refine⟨λi m σ' H'=>i<=ds.length/\m=ds.length-i/\S i σ' H',⟨_,Vb _,rfl,dz lk β,bt lk β own,[],[],[],s1.enter ha inj,⟨λb z=>.inl z,sm.kp,λb z e=>z (sm.free e)⟩,λ_ z=>z,aj,⟨rfl,rfl⟩,V7,λc hc=>(nomatch hc),λ_=>sm,λ_ _=>rfl,i0⟩,?_⟩;rintro i m σ2 H2 ⟨hi,rfl,βi,il,vs,o,A,sq,sn,le,OV,os,nd,nw,pu,st,hl⟩;obtain⟨dN,oY⟩:=HM i H2 (kI sn pu)
 by_cases gh:i<ds.length
 ·right
  have hd:ds[i]?=some ds[i]:=U4 gh;obtain⟨go,yl⟩:=dN _ hd;refine⟨go,λσ' H'=>S (i+1) σ' H',λσ' H' h=>⟨_,by omega,gh,rfl,h⟩,λx H3 y=>?_⟩
  obtain⟨s3,r3⟩:=yl x H3 y;have TF:∀{il:Nat->List Addr},(∀c,Wn il c->Wn (bt lk β own) c)->∀c,eN (C.u λc=>c=a) (Wn il) k c->av C (Wn own) k c\/H1 c=none:=λle c z=>z.elim (λz=>.inl (gk (λc z=>ba c (le c z)) k c z)) λz=>.inr (by rw[z];exact ha)
  refine⟨il,βi,_,_,sq.same s3,om (au.aL (TF le) r3),γm _ _ _ _ _ (λβ4 q σ4 qA s4 w4 t4=>?_) (i1 i _ βi o hd hl)⟩;have Nt:∀c,Wn qA c->Wn (bt lk β own) c:=λc z=>le c (w4 c z);refine⟨β4,qA,s4,τm _ _ _ (λt β5 q H5 oM o5=>?_) q⟩;have LX:∀c,Wn oM c->Wn (bt lk β own) c:=λc z=>Nt c (o5.le c z);have zB:∀c,c∈a::A->∀oc,H2 c=some oc->H5 c=some oc:=λc hc oc e=>by
   refine o5.sn.k.out c oc (s3 c oc e) λz=>?_;rcases z with z|z
   ·rcases UW.mp hc with rfl|hc
    ·exact Qe _ (Nt _ z) rfl
    ·obtain⟨j,hj⟩:=ba c (Nt c z);exact(s1.dm j c hj).1 (nw c hc).1
   ·exact absurd ((s3 c oc e).symm.trans z) (λz=>(nomatch z))
  have R7:∀b xs,H2 b=some (.tup xs)->H5 b=some (.tup xs):=λb xs e=>o5.sn.k.tup b xs (s3 b _ e);have M_:aH X.prog X.w H5 o vs A:=os.keep R7 λc hc oc e=>zB c (by simp[hc]) oc e
  have ML:Sn (H1,Wn (bt lk β own)) H5 (Wn oM):=(eS (sn.same s3) w4).trans o5.sn;have P6:(pc&&pe)=true->ay H1 H5:=λz=>((pu z).trans s3).trans (o5.pu (AL z)).1;have IA:∀j,j∉T->σ4[j]?=(ee lk σ)[j]?:=λj hj=>(t4 j hj).trans (st j hj);cases t with
  |false=>exact⟨β5,oM,vs,o,A,o5.sq,ML,LX,zB a (by simp) _ OV,M_,nd,nw,P6,IA,q⟩
  |true =>
   refine⟨β5,oM,o5.sq,φm _ _ _ (λxd kx β6 ⟨f,hz,q⟩ v H6 FH o6 r6=>?_) q⟩;obtain⟨B',r1,r2,MY⟩:=r6.fl f;have La:H5 a=some (.lst vs):=zB a (by simp) _ OV
   have Ea:∀c,c∈a::A->∀oc,H5 c=some oc->H6 c=some oc:=λc hc oc e=>by
    refine o6.sn.k.out c oc e λz=>?_;rcases z with z|z
    ·rcases UW.mp hc with rfl|hc
     ·exact Qe _ (LX _ z) rfl
     ·obtain⟨j,hj⟩:=ba c (LX c z);exact(s1.dm j c hj).1 (nw c hc).1
    ·exact absurd (e.symm.trans z) (λz=>(nomatch z))
   have q_:H6 a=some (.lst vs):=Ea a (by simp) _ La
   have P9:aH X.prog X.w H6 o vs A:=M_.keep o6.sn.k.tup λc hc oc e=>Ea c (by simp[hc]) oc e
   have RU:∀c∈A,c≠a:=λc hc=>(nw c hc).2;have Jq:∀c∈B',c≠a:=λc hc z=>by rw[z]at hc;exact absurd (La.symm.trans (MY a hc).1) (λz=>(nomatch z))
   have kt:∀b xs,H6 b=some (.tup xs)->upd H6 a (.lst (vs++[v])) b=some (.tup xs):=λb xs z=>by rw[ak (λz'=>by rw[z',q_]at z;cases z)];exact z
   refine⟨vs,q_,by rw[P9.length];exact hz,β6,FH,vs++[v],o++[xd],A++B',o6.sq.IF q_ (λxs z=>by cases z) h0,?_,λc z=>LX c (o6.le c z),aj,?_,?_,λc hc=>?_,λz=>?_,IA,q⟩
   ·have m:=ML.trans o6.sn;refine⟨m.w,m.k.trans ((e_ q_ (λxs z=>by cases z)).mono λb z=>.inr (by rw[z];exact ha)),λb z e=>?_⟩
    by_cases hb:b=a
    ·rw[hb,aj]at e;cases e
    ·rw[ak hb]at e;exact m.d b z e
   ·exact(P9.keep kt λc hc oc e=>by rw[ak (RU c hc)];exact e).append (aH.one (r1.keep kt λc hc oc e=>by rw[ak (Jq c hc)];exact e))
   ·refine Vu.mpr ⟨nd,r2,λx hx y hy e=>?_⟩;subst e;have:=(MY x hy).1;exact(M_.l7 x hx).1 this
   ·rcases Vh.mp hc with hc|hc
    ·exact nw c hc
    ·exact⟨ML.free (MY c hc).1,Jq c hc⟩
   ·refine λb ob e=>?_;rw[ak (λz'=>by rw[z',ha]at e;cases e)]
    exact(o6.pu (Pl z)).1 b ob (P6 z b ob e)
 ·left
  have e:i=ds.length:=by omega
  subst e;obtain⟨hh,q⟩:=i2 βi o hl;have lv:SQ X C σ H2 β own:=s1.leave sq sn le hh λj ok i' e1 e2=>st i' λz=>hT i' z j e2;refine⟨oY (US _),fin o H2 q ⟨lv,⟨λb z=>.inl z,sn.k.mono λb z=>z.imp (ba b) id,sn.d⟩,λz=>⟨pu z,rfl⟩,λ_ z=>z⟩ ⟨a::A,⟨a,vs,A,rfl,OV,rfl,os⟩,Vt.mpr ⟨λz=>(nw a z).2 rfl,nd⟩,λc hc=>?_⟩⟩;have lC:H1 c=none:=by
   rcases UW.mp hc with rfl|hc
   ·exact ha
   ·exact(nw c hc).1
  exact⟨lC,λGz=>by obtain⟨j,hj⟩:=Gz;exact(s1.dm j c hj).1 lC,VF λz=>s1.fw c z lC⟩
theorem gd {scope:XA}{N':List Str}(L:Links X scope N' lk)(hN:N'.Nodup):∀(i i' j:Nat),lk[i]?=some (some j)->lk[i']?=some (some j)->i=i':=λi i' j h1 h2=>by
 obtain⟨x,a1,a2,_⟩:=L.link i j h1;obtain⟨y,b1,b2,_⟩:=L.link i' j h2;rw[a2]at b2;cases b2;exact(List.getElem?_inj (U6.mp a1).1 hN).mp (a1.trans b1.symm)
def uE (lk:List (Option Nat))(ι:c9)(γ:eC)(τ:bb)(φ:aM):aM:=λβ R=>ι β λds k β1=>hold k false/\lj γ τ φ ds k (dz lk β1) λo=>R (.lst o) .own β1
variable {scope:XA}{N':List Str}{tg dN elt:Expr}{ifs:List Expr}{ι:c9}{pi:Bool}{pos pos' p_:Pos}{y:Str}{i:Nat}
theorem Jb (L:Links X scope N' lk)(A_:N'.Nodup)(hT:T.all (λi=>match lk[i]? with|some (some _)=>false|_=>true)=true)(hc:X.calm=true)(hi:AS X C pi tg dN ι)
  (xx:∀a cl c s H ex,AU (aG X scope N' cl c s H ex) (C.u λc=>c=a) tg T γ) (xw:∀a cl c s H ex,sF (aG X scope N' cl c s H ex) ifs (jU (aG X scope N' cl c s H ex) (C.u λc=>c=a) pc τ)) (τm:∀β R R',(∀d β,R d β->R' d β)->τ β R->τ β R')
  (u_:∀a cl c s H ex,PQ (aG X scope N' cl c s H ex) (C.u λc=>c=a) pe elt φ) (γm:∀d k β R R',(∀r,R r->R' r)->γ d k β R->γ d k β R') (φm:∀β R R',(∀d k β,R d k β->R' d k β)->φ β R->φ β R')
  (hs:∀x,V1 dN X.env x=pure x:=by intro _;rfl):PQ X C (pi&&(pc&&pe)) (.ListComp elt [⟨tg,dN,ifs,0⟩] scope pos) (uE lk ι γ τ φ):=by
 have Lc:∀i∈T,∀j,lk[i]?≠some (some j):=λi hi j e=>by
  have:=Xd.mp hT i hi;rw[e]at this;cases this
 refine⟨λβ R R' k h=>hi.mono β _ _ (λds kd β1 q=>⟨q.1,q.2.mono λo z=>k _ _ _ z⟩) h,?_⟩;refine(qu (g:=⟨tg,dN,ifs,0⟩) (gs:=[]) (tg:=λa v σ H Q=>∃own β d k,SQ X (C.u λc=>c=a) σ H β own/\Rp X (eN (C.u λc=>c=a) (Wn own) k) H d v/\γ d k β λβ'=>∀σ' aN,SQ X (C.u λc=>c=a) σ' H β' aN->(∀a,Wn aN a->Wn own a)->(∀j,j∉T->σ'[j]?=σ[j]?)->Q σ' H)
  (tt:=λa=>jU X (C.u λc=>c=a) pc τ) (ta:=λa N σ H=>tQ X (C.u λc=>c=a) pe φ σ H λv H1=>∃xs,H1 a=some (.lst xs)/\xs.length<U8/\N σ (upd H1 a (.lst (xs++[v]))))
  L hc k_ rfl rfl (λ_ _=>EA) hi.pi (λa cl c s H ex=>⟨(xx a cl c s H ex).pg,xw a cl c s H ex,kY rfl (u_ a cl c s H ex).pe⟩) hs).pre λσ H Q ⟨β,own,s,h⟩=>?_
 refine⟨β,own,s,hi.mono β _ _ (λds k β1 ⟨hk,q⟩ J H1 ao o1 it a ha=>?_) h⟩;exact nE γm τm φm (gd L A_) Lc o1.sq ha (hp:=false) (λz=>by cases z) hk it q λo H' q o2 r=>q _ _ ao (o1.trans o2) (r.later o1.sn)
theorem I9 {K:D->a7->fu->Prop}(L:Links X scope N' lk)(A_:N'.Nodup)(hT:T.all (λi=>match lk[i]? with|some (some _)=>false|_=>true)=true)(hc:X.calm=true)(hi:∀U,AS X (C.u U) pi tg dN ι)
  (xx:∀U cl c s H ex,AU (aG X scope N' cl c s H ex) (C.u U) tg T γ) (xw:∀U cl c s H ex,sF (aG X scope N' cl c s H ex) ifs (jU (aG X scope N' cl c s H ex) (C.u U) pc τ)) (τm:∀β R R',(∀d β,R d β->R' d β)->τ β R->τ β R')
  (u_:∀U cl c s H ex,PQ (aG X scope N' cl c s H ex) (C.u U) pe elt φ) (γm:∀d k β R R',(∀r,R r->R' r)->γ d k β R->γ d k β R') (φm:∀β R R',(∀d k β,R d k β->R' d k β)->φ β R->φ β R') (o:Bool)
  (hN:X.N.Nodup) (hy:X.N[i]?=some y:=by rfl) (hx:Loc X.env.scope y:=by first|exact .inl rfl|exact .inr rfl) (hf:X.fn y=true\/X.env.scope.names.lookup y=some .local:=by first|exact .inl rfl|exact .inr rfl|assumption)
  (o7:Wg (.ListComp elt [⟨tg,dN,ifs,0⟩] scope pos) (some (.Name y pos')) p_.line X.env=pure true:=by rfl)
  (G1:evalThenUse (.ListComp elt [⟨tg,dN,ifs,0⟩] scope pos) X.env (assign (.Name y pos') X.env)=(do let _ <- comprehension (.ListComp elt [⟨tg,dN,ifs,0⟩] scope pos) scope X.env (firstIterPos [⟨tg,dN,ifs,0⟩] pos) (newList []) false (eval dN X.env) (some (assign (.Name y pos') X.env));pure ()):=by first|rfl|exact arm_evalThenUse_ListComp ..)
  (hs:∀x,V1 dN X.env x=pure x:=by intro _;rfl) :
  PB X C (.Assign [.Name y pos'] (.ListComp elt [⟨tg,dN,ifs,0⟩] scope pos) p_) (λE β=>uE lk ι γ τ φ β λd _ β'=>E.nx (β'.set i (some (match o with|true=>.own d|false=>.val true d)))):=by
 have Lc:∀i∈T,∀j,lk[i]?≠some (some j):=λi hi j e=>by
  have:=Xd.mp hT i hi;rw[e]at this;cases this
 refine⟨λE E' β l h=>(hi λ_=>False).mono β _ _ (λds kd β1 q=>⟨q.1,q.2.mono λo z=>l.nx _ z⟩) h,λpins s σ H D I0 ⟨Z,E,β,⟨own,sq,n⟩,h,ok⟩=>?_⟩;refine yB (g:=⟨tg,dN,ifs,0⟩) (gs:=[]) (tg:=λa v σ H Q=>∃own β d k,SQ X (C.u λc=>c=a) σ H β own/\Rp X (eN (C.u λc=>c=a) (Wn own) k) H d v/\γ d k β λβ'=>∀σ' aN,SQ X (C.u λc=>c=a) σ' H β' aN->(∀a,Wn aN a->Wn own a)->(∀j,j∉T->σ'[j]?=σ[j]?)->Q σ' H)
  (tt:=λa=>jU X (C.u λc=>c=a) pc τ) (ta:=λa N σ H=>tQ X (C.u λc=>c=a) pe φ σ H λv H1=>∃xs,H1 a=some (.lst xs)/\xs.length<U8/\N σ (upd H1 a (.lst (xs++[v]))))
  L hc k_ o7 G1 rfl hN hy hx hf (λ_ _=>EA) (hi λa=>H a=none).pi (λa cl c s H ex=>⟨(xx _ cl c s H ex).pg,xw _ cl c s H ex,kY rfl (u_ _ cl c s H ex).pe⟩) hs pins s σ H D I0 ?_
 refine⟨β,own,sq.gu (C:=C.z) (U:=λa=>H a=none) λa z=>z,(hi λ_=>False).mono β _ _ (λds k β1 ⟨hk,q⟩ J H1 ao o1 it a ha=>?_) h⟩;refine nE (C:=C.u λa=>H a=none) γm τm φm (gd L A_) Lc o1.sq ha (hp:=false) (λz=>by cases z) hk it q λol H' q o2 r=>?_
 have r':=r.later o1.sn;have oo:=o1.trans o2;have m:=n.trans oo.sn;cases o with
 |false=>exact ok.nx _ _ _ ⟨_,(bh.RT oo.sq).eT (au.aL (λa z=>z.elim id λz=>z.elim) (KV.rep r')),ye m⟩ q
 |true =>
  obtain⟨A,h1,h2,h3⟩:=r';refine ok.nx _ _ _ ⟨_,oo.sq.oz h1 h2 λc hc=>⟨(h3 c hc).2.2,(h3 c hc).2.1,(h3 c hc).1⟩,?_⟩ q;exact⟨λb o8=>by
   obtain⟨j,hj⟩:=o8
   by_cases aB:i=j
   ·rw[<- aB,os_eq]at hj;exact .inr (n.free (h3 b hj).1)
   ·rw[aV aB]at hj;exact m.w b ⟨j,hj⟩,m.k,m.d⟩
end
end L2.Q
namespace Zp
open PySem PySem.Spec PyProof.Rows
section
end
end Zp
namespace L2
open PySem PySem.Spec PySem.SeqAt PyProof.Rows Zp
theorem Inv.Bm {X:Cx}{pins:List (Addr×Obj)}{σ:St}{H:Hp}{s:UT}{fp:List Addr}{h':Heap}{x y:V}{u v:UQ}(I:Inv X pins σ H s)(hf:∀b∈fp,fU X pins H b)(k:∀c o,c∉fp->s.heap.get? c=some o->h'.get? c=some o)
  (rx:RelV x u) (ry:RelV y v) (hT:IsPair h' s.heap.objs.size u v):Inv X pins σ (upd H s.heap.objs.size (.tup [x,y])) {s with heap:=h'}:=by
 have hn:H s.heap.objs.size=none:=I.bA.fresh (US _);have ne:∀{b:Addr} {o:Obj},s.heap.get? b=some o->b≠s.heap.objs.size:=λe=>VT (Vn e);have nt:∀{b:Addr} {o:HO},H b=some o->b≠s.heap.objs.size:=λe z=>by rw[z,hn]at e;cases e
 have nf:∀{b:Addr} {o:HO},H b=some o->b∉fp:=λe z=>by rw[(hf _ z).1]at e;cases e
 refine I.call (g':=s.gens) (t':=s.toks) (d':=s.drawn) (ch:=fp) ⟨λb o e n _ hc=>k b o hc e,λb o e n _ hc=>⟨o.slots,k b o hc e⟩,λb o e n _=>by rw[ak (ne e)];exact n,λb o e hc=>⟨o,k b o hc e⟩,
  λb xs e=>by rw[ak (nt e)];exact e,λb o u e=>by rw[ak (nt e)];exact e,λb ps e=>⟨#[],by rw[ak (nt e),e];simp⟩⟩ (λb u e=>?_) I.bare λb hb=>?_
 ·by_cases hb:b=s.heap.objs.size
  ·subst hb;rw[aj]at e;cases e;exact⟨by show 2<=U8;decide,[_,_],.cons rx (.cons ry .nil),⟨_,hT,rfl,_,rfl⟩⟩
  ·rw[ak hb]at e;refine(I.bA b u e).p0 (λc v hc q=>k c v ?_ q) (λc q=>by rw[ak (nt q)];exact q) λc xs q=>by rw[ak (nt q)];exact q
   rcases hc with z|z
   ·rw[z];exact nf e
   ·exact nf z
 ·obtain⟨f0,f1,f2,f3,f4,f5⟩:=hf b hb;exact⟨f3,f1,f4,f5⟩
theorem Inv.uj {X:Cx}{pins:List (Addr×Obj)}{σ:St}{H:Hp}{s:UT}{fp:List Addr}{h':Heap}(I:Inv X pins σ H s)(hf:∀b∈fp,fU X pins H b)(k:∀c o,c∉fp->s.heap.get? c=some o->h'.get? c=some o):Inv X pins σ H {s with heap:=h'}:=by
 have nf:∀{b:Addr} {o:HO},H b=some o->b∉fp:=λe z=>by rw[(hf _ z).1]at e;cases e
 refine I.call (g':=s.gens) (t':=s.toks) (d':=s.drawn) (ch:=fp) ⟨λb o e n _ hc=>k b o hc e,λb o e n _ hc=>⟨o.slots,k b o hc e⟩,λb o e n _=>n,λb o e hc=>⟨o,k b o hc e⟩,λb xs e=>e,λb o u e=>e,λb ps e=>⟨#[],by rw[e];simp⟩⟩ (λb u e=>?_) I.bare λb hb=>?_
 ·refine(I.bA b u e).p0 (λc v hc q=>k c v ?_ q) (λc q=>q) λc xs q=>q;rcases hc with z|z
  ·rw[z];exact nf e
  ·exact nf z
 ·obtain⟨f0,f1,f2,f3,f4,f5⟩:=hf b hb;exact⟨f3,f1,f4,f5⟩
noncomputable def j_:List D->List D->List D
 |a::as,b::bs=>.tup [a,b]::j_ as bs
 |_,_=>[]
theorem pL:∀{as bs:List D} {i:Nat} {d:D},(j_ as bs)[i]?=some d->∃a b,as[i]?=some a/\bs[i]?=some b/\d=.tup [a,b]
 |[],_,_,_,h=>by simp[j_]at h
 |_::_,[],_,_,h=>by simp[j_]at h
 |a::as,b::bs,0,_,h=>by simp[j_]at h;exact⟨a,b,rfl,rfl,h.symm⟩
 |a::as,b::bs,i+1,_,h=>by
  obtain⟨x,y,h1,h2,h3⟩:=pL (as:=as) (bs:=bs) (i:=i) (by simpa[j_] using h)
  exact⟨x,y,by simpa using h1,by simpa using h2,h3⟩
theorem pK:∀(as bs:List D),(j_ as bs).length=min as.length bs.length
 |[],_=>by simp[j_]
 |_::_,[]=>by simp[j_]
 |a::as,b::bs=>by simp[j_,pK as bs]
section
end
section
end
theorem cD {lo:Int}{n i:Nat}{d:D}(h:(mv lo n)[i]?=some d):i<n/\d=.int (lo+i):=by
 unfold mv at h;rw[Vd]at h;have hi:i<n:=by
  by_cases hi:i<n
  ·exact hi
  ·rw[VD (by simpa using hi)]at h;cases h
 rw[Wx hi]at h;cases h;exact⟨hi,rfl⟩
theorem cS {lo:Int}{n:Nat}:(mv lo n).length=n:=by unfold mv;simp
section
end
structure Df (K:PySem.W.Frag)(mg:Str->Option UQ)(x:Str)(st:Stmt)(ps:List Str)(f:Addr)(fd:VI):Prop where
 F:Bg K x x st f fd
 b:Binds K fd ps []
 m:mg x=some (.ref f)
structure Bs (mg:Str->Option UQ):Prop where
 max:mg "max" = none
 min:mg "min" = none
 int:mg "int" = none
 range:mg "range" = none
 sorted:mg "sorted" = none
 set:mg "set" = none
 len:mg "len" = none
 list:mg "list" = none
theorem cL.uh {k:Nat}{A:V6}(r:cL k A):A.units+64+1<XX:=by have:=r.un;lia
def Mi (n:Int)(t:List Int):Prop:=∃a b,t=[a,b]/\0<=a/\a<b/\b<n
theorem Mi.ne {n:Int}{t:List Int}(h:Mi n t):t≠[]:=by
 obtain⟨a,b,rfl,_⟩:=h;intro z;cases z
def gq (n:Int)(ts:List (List Int)):Prop:=∀t∈ts,Mi n t
theorem gq.ne {n:Int}{ts:List (List Int)}(h:gq n ts):∀k∈ts,k≠[]:=λk hk=>(h k hk).ne
theorem gq.nil {n:Int}:gq n []:=λ_ z=>(nomatch z)
theorem lI (ts:List (List Int)):D.c8 (ts.map kD)=true:=by
 have fi:∀k:List Int,D.c8 (k.map D.int)=true:=λk=>by
  induction k with
  |nil=>rfl
  |cons i k ih=>show (D.flat (.int i)&&D.c8 (k.map D.int))=true;rw[ih];rfl
 induction ts with
 |nil=>rfl
 |cons t ts ih =>
  show (D.flat (kD t)&&D.c8 (ts.map kD))=true;rw[ih];show (D.c8 (t.map D.int)&&true)=true;rw[fi];rfl
def Drawn (n:Int)(ts:List (List Int)):Prop:=ts.length<=300/\gq n ts/\rY ts/\ts.Nodup
theorem mM {a b:D}:[a,b].length<=U8:=by show 2<=U8;decide
theorem PR {a b c:D}:[a,b,c].length<=U8:=by show 3<=U8;decide
theorem vJ {a:D}:[a].length<=U8:=by show 1<=U8;decide
theorem o4 {b:Bool}{p q:Prop}(hb:b=true)(h:p):(if b=true then p else q):=by rw[if_pos hb];exact h
theorem gg {b:Bool}{p q:Prop}(hb:b=false)(h:q):(if b=true then p else q):=by rw[hb,if_neg (by simp)];exact h
theorem si {c:Prop}[Decidable c]{p q:Prop}(h1:c->p)(h2:¬ c->q):(if decide c=true then p else q):=by
 by_cases h:c
 ·exact o4 (by simp[h]) (h1 h)
 ·exact gg (by simp[h]) (h2 h)
theorem cH {α:Type}(f:α->D):∀l:List α,D.fx (l.map f)=l.map λa=>(f a).pd
 |[]=>rfl
 |a::l=>by
  show (f a).pd::D.fx (l.map f)=_;rw[cH f l];rfl
theorem jm {n:Nat}:∀{xs:List PyData},(∀x∈xs,x.canLay0=true/\x.depth<=n)->W4 xs=true/\Wm xs<=n
 |[],_=>⟨by simp[W4],by simp[Wm]⟩
 |x::xs,h=>by
  obtain⟨h1,h2⟩:=jm (n:=n) (xs:=xs) λy hy=>h y (by simp[hy])
  obtain⟨g1,g2⟩:=h x (by simp)
  refine⟨by simp[W4,h1,g1],?_⟩
  simp only[Wm];lia
theorem mP {n:Nat}{ds:List D}(h:∀d∈ds,d.pd.canLay0=true/\d.pd.depth<=n):(D.tup ds).pd.canLay0=true/\(D.tup ds).pd.depth<=n+1:=by
 have e:D.fx ds=ds.map λd=>d.pd:=by
  have:=cH (λd:D=>d) ds;simpa using this
 obtain⟨h1,h2⟩:=jm (n:=n) (xs:=D.fx ds) λx hx=>by
  rw[e]at hx;obtain⟨d,hd,rfl⟩:=Vq.mp hx;exact h d hd
 refine⟨by simpa[D.pd,V9] using h1,?_⟩
 have:(D.tup ds).pd.depth=Wm (D.fx ds)+1:=by simp[D.pd,Xc]
 lia
theorem fV {n:Nat}{ds:List D}(h:∀d∈ds,d.pd.canLay0=true/\d.pd.depth<=n):(D.lst ds).pd.canLay0=true/\(D.lst ds).pd.depth<=n+1:=by
 have e:D.fx ds=ds.map λd=>d.pd:=by
  have:=cH (λd:D=>d) ds;simpa using this
 obtain⟨h1,h2⟩:=jm (n:=n) (xs:=D.fx ds) λx hx=>by
  rw[e]at hx;obtain⟨d,hd,rfl⟩:=Vq.mp hx;exact h d hd
 refine⟨by simpa[D.pd,V9] using h1,?_⟩
 have:(D.lst ds).pd.depth=Wm (D.fx ds)+1:=by simp[D.pd,Xc]
 lia
theorem bJ (i:Int):(D.int i).pd.canLay0=true/\(D.int i).pd.depth<=1:=⟨by simp[D.pd,V9],by simp[D.pd,Xc]⟩
theorem qb (b:Bool):(D.bl b).pd.canLay0=true/\(D.bl b).pd.depth<=1:=⟨by simp[D.pd,V9],by simp[D.pd,Xc]⟩
theorem ia (t:List Int):(kD t).pd.canLay0=true/\(kD t).pd.depth<=2:=mP λd hd=>by
 obtain⟨i,_,rfl⟩:=Vq.mp hd;exact bJ i
theorem gE (ts:List (List Int)):(D.lst (ts.map kD)).pd.canLay0=true/\(D.lst (ts.map kD)).pd.depth<=3:=fV λd hd=>by
 obtain⟨i,_,rfl⟩:=Vq.mp hd;exact ia i
theorem gF (ts:List Int):(D.lst (ts.map D.int)).pd.canLay0=true/\(D.lst (ts.map D.int)).pd.depth<=2:=fV λd hd=>by
 obtain⟨i,_,rfl⟩:=Vq.mp hd;exact bJ i
theorem cz {d:D}{n:Nat}(h:d.pd.canLay0=true/\d.pd.depth<=n)(hn:n<=64:=by decide):d.sS=true:=by
 show (d.pd.canLay0&&decide (d.pd.depth<=64))=true;rw[h.1,decide_eq_true (by lia)]
 rfl
theorem dE {α:Type}[DecidableEq α]{f:α->PyData}(hf:∀a b,VS (f a) (f b)=decide (a=b)):∀xs ys:List α,X2 (xs.map f) (ys.map f)=decide (xs=ys)
 |[],[]=>by simp[X2]
 |[],_::_=>by simp[X2]
 |_::_,[]=>by simp[X2]
 |x::xs,y::ys=>by
  simp only[Vj,X2];rw[hf,dE hf xs ys]
  by_cases h1:x=y
  ·by_cases h2:xs=ys <;> simp[h1,h2]
  ·simp[h1]
theorem ph (i j:Int):VS (D.int i).pd (D.int j).pd=decide (i=j):=by
 simp only[D.pd,VS]
 by_cases h:i=j <;> simp[h]
theorem Ae (t u:List Int):VS (kD t).pd (kD u).pd=decide (t=u):=by
 show VS (.tuple (D.fx (t.map D.int))) (.tuple (D.fx (u.map D.int)))=_;rw[cH,cH];simp only[VS];exact dE ph t u
theorem Ad (ts us:List (List Int)):VS (D.lst (ts.map kD)).pd (D.lst (us.map kD)).pd=decide (ts=us):=by
 show VS (.list (D.fx (ts.map kD))) (.list (D.fx (us.map kD)))=_;rw[cH,cH];simp only[VS];exact dE Ae ts us
theorem t6 {a b:D}{c:Bool}(h1:a.sS=true)(h2:b.sS=true)(e:VS a.pd b.pd=c):HZ a b=some (.bl c):=by
 unfold HZ;rw[if_pos ⟨h1,h2⟩,e]
theorem t5 {a b:D}{c:Bool}(h1:a.sS=true)(h2:b.sS=true)(e:VS a.pd b.pd=c):Hg a b=some (.bl (!c)):=by
 unfold Hg;rw[if_pos ⟨h1,h2⟩,e]
theorem d6 (i j:Int):HZ (.int i) (.int j)=some (.bl (decide (i=j))):=t6 (cz (bJ i)) (cz (bJ j)) (ph i j)
theorem Am (ts us:List (List Int)):Hg (.lst (ts.map kD)) (.lst (us.map kD))=some (.bl (!decide (ts=us))):=t5 (cz (gE ts)) (cz (gE us)) (Ad ts us)
theorem any_map {α:Type}[DecidableEq α]{f:α->D}(hf:∀a b,VS (f a).pd (f b).pd=decide (a=b))(t:α):∀xs:List α,((D.fx (xs.map f)).any λy=>VS y (f t).pd)=decide (t∈xs)
 |[]=>rfl
 |x::xs=>by
  show (VS (f x).pd (f t).pd || (D.fx (xs.map f)).any λy=>VS y (f t).pd)=_
  rw[any_map hf t xs,hf]
  by_cases h:x=t
  ·simp[h]
  ·have h':¬ t=x:=λz=>h z.symm;simp[h,h']
theorem Dn (i:Int)(t:List Int):Lq (.int i) (kD t)=some (decide (i∈t)):=by
 show (if (D.int i).sS=true/\(D.tup (t.map D.int)).sS=true then some _ else none)=_
 rw[if_pos ⟨cz (bJ i),cz (ia t)⟩,any_map ph]
theorem Ap (i:Int)(t:List Int):Pj (.int i) (kD t)=some (.bl (decide (i∈t))):=by unfold Pj;rw[Dn];rfl
theorem Pk {α:Type}{ds:List α}{i:Nat}{d:α}(h:ds[i]?=some d):gU ds (i:Int)=some d:=by
 have hl:i<ds.length:=(U6.mp h).1;unfold gU mw;rw[if_pos (by lia),if_pos (by lia),WL]
 exact h
theorem Hq {α:Type}{ds:List α}{i:Int}(h0:0<=i)(h1:i<ds.length):∃d∈ds,gU ds i=some d/\ds[i.toNat]?=some d:=by
 have hl:i.toNat<ds.length:=by lia
 refine⟨ds[i.toNat],X8 hl,?_,U4 hl⟩;have:=Pk (ds:=ds) (i:=i.toNat) (U4 hl)
 rwa [show ((i.toNat:Nat):Int)=i by lia]at this
theorem vq {ds:List D}{i:Nat}{d:D}(h:ds[i]?=some d):jL (.lst ds) (.int (i:Int))=some d:=Pk h
theorem Dl {ds:List D}{i:Nat}{d:D}(h:ds[i]?=some d):jL (.tup ds) (.int (i:Int))=some d:=Pk h
theorem pick {ds:List D}{r:Int}{p:D->Prop}(h0:0<=r)(h1:r<ds.length)(h:∀d∈ds,p d):∃d,jL (.lst ds) (.int r)=some d/\p d:=by
 obtain⟨d,hd,e,_⟩:=Hq h0 h1;exact⟨d,e,h d hd⟩
theorem rJ {i j:Int}:rK [.int i,.int j]=some (.int (if j<i then j else i)):=by
 first|rfl|(simp[rK])
def Mw:D->Option String
 |.bC=>some "NoneType"
 |.bl _=>some "bool"
 |.int _=>some "int"
 |.str _=>some "str"
 |.tup _=>some "tuple"
 |.lst _=>some "list"
 |_=>none
section
variable {X:Cx}{W:Addr->Prop}{H:Hp}{pins:List (Addr×Obj)}{σ:St}{s:UT}
theorem Rp.ty {d:D}{v:V}{T:String}(h:Rp X W H d v)(e:Mw d=some T):gV X.K H v (.type T):=by
 cases d with
 |bC=>cases h;cases e;exact .bC
 |bl b=>cases h;cases e;exact .bl _
 |int b=>cases h;cases e;exact .int _
 |str b=>cases h;cases e;exact .str _
 |tup ds=>obtain⟨a,vs,rfl,h1,_⟩:=h;cases e;exact .tup h1
 |lst ds=>obtain⟨a,vs,rfl,h1,_⟩:=h;cases e;exact .lst h1
 |_=>cases e
theorem xi:fv X (.builtin "isinstance") (λxs H Q=>∃x p n1 n2 T k,xs=[x,.ref p]/\H p=some (.tup [.ty n1,.ty n2])/\gV X.K H x (.type T)/\PySem.W.kitAny X.K (.type T) [.type n1,.type n2]=some k/\Q (.bl k) H):=by
 intro pins s σ H xs us Q I r h;obtain⟨x,p,n1,n2,T,k,rfl,hp,ty,e,q⟩:=h;obtain⟨u,w',rfl,r1,r2⟩:=vals2 r;cases (show w'=Value.ref p from r2)
 obtain⟨_,its,rv,o,ho,hc,n,hd⟩:=(show a6 X.prog X.w H s.heap p (.tup [.ty n1,.ty n2]) from I.bA p _ hp)
 obtain⟨u1,u2,rfl,e1,e2⟩:∃u1 u2,its=[u1,u2]/\RelV (.ty n1) u1/\RelV (.ty n2) u2:=by
  cases rv with
  |cons a rr=>cases rr with
   |cons b rr=>cases rr;exact⟨_,_,rfl,a,b⟩
 cases (show u1=Value.type n1 from e1)
 cases (show u2=Value.type n2 from e2)
 obtain⟨c,dd,dt,sl⟩:=o;simp only at hc hd;subst hc hd;have fin:∀tk,EP X pins σ Q (.bool k) {s with toks:=tk}:=λtk=>⟨.bl k,H,I.tok _,rfl,q⟩
 cases ty with
 |bC=>cases (show u=Value.none from r1);exact PySem.W.kia_tup PySem.W.kitx_none I.ja Ww ho e (λz=>nomatch z) fin
 |bl y=>cases (show u=Value.bool y from r1);exact PySem.W.kia_tup PySem.W.kitx_bool I.ja Ww ho e (λz=>nomatch z) fin
 |int i=>obtain⟨t,q⟩:=(show ∃t,u=Value.int i t from r1);cases q;exact PySem.W.kia_tup PySem.W.kitx_int I.ja Ww ho e (λz=>nomatch z) fin
 |str y=>obtain⟨t,q⟩:=(show ∃t,u=Value.str y t from r1);cases q;exact PySem.W.kia_tup PySem.W.kitx_str I.ja Ww ho e (λz=>nomatch z) fin
 |G9 y=>obtain⟨t,q⟩:=(show ∃t,u=Value.float y t from r1);cases q;exact PySem.W.kia_tup PySem.W.kitx_float I.ja Ww ho e (λz=>nomatch z) fin
 | @lst a xs ea =>
  cases (show u=Value.ref a from r1)
  obtain⟨_,_,n,_,h1⟩:=(show a6 X.prog X.w H s.heap a (.lst xs) from I.bA a _ ea)
  exact PySem.W.kia_tup PySem.W.kitx_list I.ja ⟨_,h1,rfl⟩ ho e (λz=>nomatch z) fin
 | @sv a ob xs ea =>
  cases (show u=Value.ref a from r1)
  obtain⟨_,_,_,n,_,h1⟩:=(show a6 X.prog X.w H s.heap a (.sv ob (.lst xs)) from I.bA a _ ea)
  exact PySem.W.kia_tup PySem.W.kitx_list I.ja ⟨_,h1,rfl⟩ ho e (λz=>nomatch z) fin
 | @tup a xs ea =>
  cases (show u=Value.ref a from r1)
  obtain⟨_,_,_,p⟩:=(show a6 X.prog X.w H s.heap a (.tup xs) from I.bA a _ ea)
  obtain⟨o,h1,h2,_⟩:=p;exact PySem.W.kia_tup PySem.W.kitx_tuple I.ja ⟨o,h1,h2⟩ ho e (λz=>nomatch z) fin
 | @dK a kvs ea =>
  cases (show u=Value.ref a from r1)
  obtain⟨_,_,vs,_,p⟩:=(show a6 X.prog X.w H s.heap a (.dK kvs) from I.bA a _ ea)
  obtain⟨o,es,ep,h1,h2,_⟩:=p;exact PySem.W.kia_tup PySem.W.kitx_dict I.ja ⟨o,h1,h2.1⟩ ho e (λz=>nomatch z) fin
 | @dT a kvs ea =>
  cases (show u=Value.ref a from r1)
  obtain⟨_,_,xs,_,o,es,ep,h1,h2,_⟩:=(show a6 X.prog X.w H s.heap a (.dT kvs) from I.bA a _ ea)
  exact PySem.W.kia_tup PySem.W.kitx_dict I.ja ⟨o,h1,h2.1⟩ ho e (λz=>nomatch z) fin
end
section
variable {X:Cx}{a:Expr}{φ:Ia}{T T2:Str}{n n2:String}{p p2 p3 tp pos:Pos}{x1:Nat}
theorem jX (hm:X.mg "isinstance" = none) (ha:PV X a φ) (hT:X.mg T=none) (bT:VO T=some (.type n)) (hg:Gl X "isinstance" := by rfl) (OH:Gl X T:=by rfl) (Oj:T≠"__name__" := by decide) (ON:(T==("__debug__" : Str))=false:=by decide)
  (iy:U5 [a,.Name T p2] X.env=(false,eval a X.env)::U5 [.Name T p2] X.env:=by rfl) (Gv:U5 [.Name T p2] X.env=(false,eval (.Name T p2) X.env)::U5 [] X.env:=by rfl) (hpl:(Wq pos (U5 [.Name T p2] X.env)).any (·.1)=false:=by rfl) :
  PV X (.Call (.Name "isinstance" p) [a,.Name T p2] [] pos) (λρ R=>φ ρ λd=>∃t k,Mw d=some t/\PySem.W.kitOne X.K (.type t) (.type n)=some k/\R (.bl k)) :=
 ⟨λρ R R' k h=>ha.mono ρ _ _ (λd KQ=> by obtain⟨t,b,h1,h2,q⟩ := KQ;exact⟨t,b,h1,h2,k _ q⟩) h,
  (cU Ax hg hm Az (aF ha.pe (aF (oK (v:=.ty n) OH hT bT rfl Oj ON) bq Gv) iy) (he:=iy) (hpl:=hpl)).pre λσ H Q ⟨W,ρ,se,h⟩=>tD.of ha se h λd v H1 ⟨t,k,h1,h2,q⟩ s1 r1 =>
    ⟨v,n,_,k,rfl,r1.ty h1,h2,q _ H1 s1 rfl⟩⟩
theorem uF (hm:X.mg "isinstance" = none) (ha:PV X a φ) (hT:X.mg T=none) (bT:VO T=some (.type n)) (S_:X.mg T2=none) (TC:VO T2=some (.type n2)) (hg:Gl X "isinstance" := by rfl) (OH:Gl X T:=by rfl) (Oj:T≠"__name__" := by decide) (ON:(T==("__debug__" : Str))=false:=by decide) (OG:Gl X T2:=by rfl) (Oi:T2≠"__name__" := by decide) (OM:(T2==("__debug__" : Str))=false:=by decide)
  (iy:U5 [a,.Tuple [.Name T p2,.Name T2 p3] x1 tp] X.env=(false,eval a X.env)::U5 [.Tuple [.Name T p2,.Name T2 p3] x1 tp] X.env:=by rfl) (Gv:U5 [.Tuple [.Name T p2,.Name T2 p3] x1 tp] X.env=(false,eval (.Tuple [.Name T p2,.Name T2 p3] x1 tp) X.env)::U5 [] X.env:=by rfl) (hpl:(Wq pos (U5 [.Tuple [.Name T p2,.Name T2 p3] x1 tp] X.env)).any (·.1)=false:=by rfl)
  (wQ:U5 [.Name T p2,.Name T2 p3] X.env=(false,eval (.Name T p2) X.env)::U5 [.Name T2 p3] X.env:=by rfl) (wO:U5 [.Name T2 p3] X.env=(false,eval (.Name T2 p3) X.env)::U5 [] X.env:=by rfl) :
  PV X (.Call (.Name "isinstance" p) [a,.Tuple [.Name T p2,.Name T2 p3] x1 tp] [] pos) (λρ R=>φ ρ λd=>∃t k,Mw d=some t/\PySem.W.kitAny X.K (.type t) [.type n,.type n2]=some k/\R (.bl k)) :=
 ⟨λρ R R' k h=>ha.mono ρ _ _ (λd KP=> by obtain⟨t,b,h1,h2,q⟩ := KP;exact⟨t,b,h1,h2,k _ q⟩) h,
  (cU xi hg hm Az (aF ha.pe (aF (yN (aF (oK (v:=.ty n) OH hT bT rfl Oj ON) (aF (oK (v:=.ty n2) OG S_ TC rfl Oi OM) bq wO) wQ)) bq Gv) iy) (he:=iy) (hpl:=hpl)).pre λσ H Q ⟨W,ρ,se,h⟩=>tD.of ha se h λd v H1 ⟨t,k,h1,h2,q⟩ s1 r1 =>
    ⟨by show 2<=U8;decide,λp hp=>⟨v,p,n,n2,t,k,rfl,aj,Rp.ty (X:=X) (r1.same (ay.new hp)) h1,h2,q _ _ (s1.trans (ay.new hp)) rfl⟩⟩⟩
end
theorem zA {K:PySem.W.Frag}:PySem.W.kitOne K (.type "list") (.type "list")=some true:=rfl
theorem zw {K:PySem.W.Frag}:PySem.W.kitOne K (.type "tuple") (.type "list")=some false:=rfl
theorem Gb {K:PySem.W.Frag}:PySem.W.kitOne K (.type "int") (.type "int")=some true:=rfl
theorem Ge {K:PySem.W.Frag}:PySem.W.kitOne K (.type "int") (.type "bool")=some false:=rfl
theorem CG {K:PySem.W.Frag}:PySem.W.kitAny K (.type "int") [.type "list",.type "tuple"]=some false:=rfl
theorem CF {K:PySem.W.Frag}:PySem.W.kitAny K (.type "NoneType") [.type "list",.type "tuple"]=some false:=rfl
theorem uY {K:PySem.W.Frag}:PySem.W.kitAny K (.type "tuple") [.type "list",.type "tuple"]=some true:=rfl
theorem uZ {K:PySem.W.Frag}:PySem.W.kitAny K (.type "list") [.type "list",.type "tuple"]=some true:=rfl
theorem Dw:VO "enumerate" = some (.type "enumerate"):=by decide +kernel
def QX (l:Addr):It :=
 ⟨λi H=>∃xs x,H l=some (.lst xs)/\xs[i]?=some x,
  λi H x H'=>∃T,H T=none/\x=.ref T/\∀xs,H l=some (.lst xs)->∃a,xs[i]?=some a/\H'=upd H T (.tup [.int i,a]),
  λi H=>∃xs,H l=some (.lst xs)/\xs[i]?=none⟩
theorem vG {P:UY}{w:Vc}{K:PySem.W.Frag}{elts:List Expr}{kk:Nat}{pos:Pos}{e it l:Addr}(ne:e≠it):
  Turn P w K (.Tuple elts kk pos) (QX l) [e,it] e (λk h=>(∃old,IsEnum h e it (k:Int) old)/\h.IsListIter it l k) where
 mem:=by simp
 obj:=λk h KO c hc=> by
  obtain⟨⟨old,h1⟩,h2⟩ := KO;simp only[UW,WT,or_false]at hc;rcases hc with rfl|rfl
  ·exact⟨_,h1,λv z=>by cases (show Data.fields _=Data.cell v from z)⟩
  ·obtain⟨o,a,_,d⟩:=h2;exact⟨o,a,λv z=>by rw[d]at z;cases z⟩
 keep:=λk h h' ⟨⟨old,h1⟩,h2⟩ kp=>⟨⟨old,kp e (by simp) _ h1⟩,h2.at λo q=>kp it (by simp) o q⟩
 item:=by
  intro X hP hw hK hc i pins s σ H E I hf st hg;obtain⟨⟨old,g1⟩,g2⟩:=st;obtain⟨xs,x,hx,ex⟩:=hg;obtain⟨its,r',pl,_⟩:=I.list (b3.of hx);obtain⟨u,eu,ru⟩:=r'.get ex;refine wpAny_pyNext_enum_item g1 g2 pl.isList (by simpa using eu) ne λh' y1 y2 y3 y4 y5=>?_
  have I1:=(I.Bm (fp:=[e,it]) (x:=.int i) (u:=.int i s.toks) hf (λc o CT q=>y5 c o (λz=>CT (by simp[z])) (λz=>CT (by simp[z])) q) ⟨_,rfl⟩ ru y3).tok (s.toks+1)
  have nT:∀b∈[e,it],upd H s.heap.objs.size (.tup [.int i,x]) b=none:=λb hb=>by
   have:b≠s.heap.objs.size:=by
    simp only[UW,WT,or_false]at hb;rcases hb with rfl|rfl
    ·exact VT (Vn g1)
    ·obtain⟨o,a,_⟩:=g2;exact VT (Vn a)
   rw[ak this];exact(hf b hb).1
  refine⟨_,rfl,wpAny_letOwnedTupleGo_enum y1 λh'' z' sb=>?_⟩;have I2:Inv X pins σ (upd H s.heap.objs.size (.tup [.int i,x])) {s with heap:=h'',toks:=s.toks+1}:=by
   refine I1.uj (fp:=[e]) (λb hb=>?_) λc o CT q=>sb.extBut _ _ (by simpa using CT) q
   have q:b=e:=by simpa using hb
   subst q;exact⟨nT b (by simp),(hf b (by simp)).2⟩
  refine⟨.ref s.heap.objs.size,_,I2,rfl,⟨s.heap.objs.size,I.bA.fresh (US _),rfl,λIe CM=>?_⟩,⟨⟨_,z'⟩,y2.at λo q=>sb.extBut _ _ (WO ne) q⟩,nT⟩;rw[hx]at CM;cases CM;exact⟨x,ex,rfl⟩
 done:=by
  intro X hP hw hK hc i pins s σ H E I hf st hg;obtain⟨⟨old,g1⟩,g2⟩:=st;obtain⟨xs,hx,ex⟩:=hg;obtain⟨its,r',pl,_⟩:=I.list (b3.of hx);refine wpAny_pyNext_enum_end (I.ok.hd hc) g1 g2 pl.isList (by simpa using r'.none_of ex) λh' y=>?_
  exact⟨rfl,I.uj (fp:=[e,it]) hf λc o CT q=>y c o (λz=>CT (by simp[z])) q⟩
 self:=λA i s Q E ⟨⟨old,h1⟩,_⟩ q=>wpAny_pyIter_enum h1 q
def lP (ds:List D):List D:=j_ (mv 0 ds.length) ds
section
variable {X:Cx}{W:Addr->Prop}{H:Hp}{l:Addr}{xs:List V}{ds:List D}
theorem nz {i:Nat}{d:D}(h:(lP ds)[i]?=some d):∃b,ds[i]?=some b/\d=.tup [.int i,b]:=by
 obtain⟨a,b,h1,h2,rfl⟩:=pL h;obtain⟨_,rfl⟩:=cD h1;exact⟨b,h2,by simp⟩
theorem jh:(lP ds).length=ds.length:=by unfold lP;rw[pK,cS];simp
theorem zF (h1:H l=some (.lst xs))(n1:¬ W l)(r1:l3 X W H ds xs):xC X W (QX l) (lP ds) H:=λW' hW i H' k=>by
 have st:H' l=some (.lst xs):=k.out l _ h1 λz=>(hW l z).elim n1 λq=>by rw[h1]at q;cases q
 have q1:=(af.grow hW r1).keep k;constructor
 ·intro d hd;obtain⟨b,hb,rfl⟩:=nz hd;obtain⟨x,ex,rx⟩:=af.get q1 hb;refine⟨⟨xs,x,st,ex⟩,λv H1 ⟨T,hT,e,yl⟩=>?_⟩;obtain⟨x',QL,eH⟩:=yl xs st;rw[ex]at QL;cases QL;subst e eH;exact⟨ay.new hT,Rp.EY hT (.cons rfl (.cons rx .nil))⟩
 ·intro hl;rw[jh]at hl;exact⟨xs,st,VD (by rw[q1.length];exact hl)⟩
end
end L2
namespace HT
open PySem PySem.Spec PyProof.Rows
theorem lG {α β:Type}{f g:α->Option β}:∀{l:List α},(∀x∈l,f x=g x)->l.filterMap f=l.filterMap g
 |[],_=>rfl
 |x::l,h=>by
  rw[WQ,WQ,h x (by simp),lG λy hy=>h y (by simp[hy])]
theorem yt {α:Type}(xs:List α):((Vx xs.length).filterMap λk=>xs[xs.length-1-k]?)=xs.reverse:=by
 have h:=pick_run xs.reverse.toArray 0 xs.length;rw[List.filterMap_map]at h;have e:((Vx xs.length).filterMap λk=>xs[xs.length-1-k]?)=(Vx xs.length).filterMap ((λx=>xs.reverse.toArray[x]?) ∘ λx=>0+x):=by
  refine lG λk hk=>?_;have GZ:=Wu.mp hk;show _=xs.reverse.toArray[0+k]?;rw[List.getElem?_toArray,We,List.getElem?_reverse GZ]
 rw[e,h];simp only[Za];exact Wi (by simp)
theorem me (items:Array UQ):slicePick items none none (some (-1))=items.toList.reverse.toArray:=by
 have e:(sliceRange (WV none none (some (-1)) items.size).1 (WV none none (some (-1)) items.size).2.1 (WV none none (some (-1)) items.size).2.2)=(Vx items.size).map λk=>items.size-1-k:=by
  show sliceRange ((items.size:Int)-1) (-1) (-1)=_;unfold sliceRange;have c:(if (-1:Int)>0 then (if (items.size:Int)-1 < -1 then ((-1)-((items.size:Int)-1)+-1-1) / -1 else 0) else (if (items.size:Int)-1 > -1 then ((items.size:Int)-1-(-1)-(-1)-1) / (-(-1)) else 0)).toNat=items.size:=by
   rw[if_neg (by lia)]
   split
   ·rw[show (-(-1):Int)=1 by rfl,Int.ediv_one];lia
   ·lia
  simp only[c];refine VQ λk hk=>?_;have:=Wu.mp hk;lia
 unfold slicePick;rw[e,List.filterMap_map]
 congr 1
 have:=yt items.toList;rw[Vs]at this;rw[<- this];refine lG λk hk=>?_;show items[items.size-1-k]?=_;rw[Vo]
section
end
end HT
namespace L2
open PySem PySem.Spec PySem.SeqAt PyProof.Rows
theorem af.rev {P:UY}{w:Vc}{W:Addr->Prop}{H:Hp}:∀{ds:List D} {vs:List V},af P w W H ds vs->af P w W H ds.reverse vs.reverse
 |[],_,h=>by rw[show _=[] from h];rfl
 |d::ds,_,⟨v,r,e,h1,h2⟩=>by
  subst e;rw[Xx,Xx];exact(af.rev h2).append (.one h1)
theorem Vals.rev:∀{xs:List V} {us:List UQ},Vals xs us->Vals xs.reverse us.reverse
 |_,_,.nil=>.nil
 |_,_,.cons r t=>by
  rw[Xx,Xx];exact(Vals.rev t).append (.cons r .nil)
section
end
end L2
namespace L2.Q
open PySem PySem.Spec PySem.SeqAt PyProof.Rows
def allB (β:a7):H_:=β.map λb=>match b with|some (.val _ d)=>some d|some (.own d)=>some d|_=>none
section
variable {P:UY}{w:Vc}{C:Cfg}{σ:St}{H:Hp}{β:a7}{own:Nat->List Addr}{i:Nat}
theorem bh.MN (s:bh P w C σ H β own):QS P w (λ_=>False) σ H (allB β):=⟨λa z=>z.elim,λi d e=>by
 unfold allB at e;rw[Vd]at e;cases q:β[i]? with
 |none=>rw[q]at e;cases e
 |some x =>
  rw[q]at e;cases x with
  |none=>cases e
  |some x =>
   cases x with
   |val y d'=>cases e;obtain⟨v,h1,h2⟩:=s.val i y d q;exact⟨v,h1,h2.aL λ_ z=>z.elim⟩
   |own d'=>cases e;obtain⟨v,h1,h2,_⟩:=s.ow i d q;exact⟨v,h1,h2.rep λ_ _ z=>z⟩
   |hand ok=>cases e
   |shl y d=>cases e⟩
end
section
variable {X:Cx}{C:Cfg}{e:Expr}{φ:Ia}
theorem i3 (h:PV X e φ):PQ X C true e (λβ R=>φ (allB β) λd=>d.flat=true/\R d .own β) :=
 ⟨λβ R R' k q=>h.mono _ _ _ (λd q=>⟨q.1,k _ _ _ q.2⟩) q,h.pe.pre λσ H Q wQ=>by obtain⟨β,own,s,q⟩:=wQ;exact tD.of h s.MN q λd v H1 wO s1 r1=>by obtain⟨f,q⟩:=wO;exact q v H1 own ((Out.refl s true).same s1) (KV.flat f r1)⟩
end
section
end
section
variable {X:Cx}{C:Cfg}{e:Expr}{i:Nat}{x:Str}{pos px ap cp:Pos}
theorem bh.putL {P:UY}{w:Vc}{σ:St}{H:Hp}{β:a7}{own:Nat->List Addr}{U U2:Addr->Prop}{ds ds':List D}{vs':List V}{a:Addr}{vs:List V}{A A':List Addr}(s:bh P w (C.u U) σ H β own)(e:β[i]?=some (some (.own (.lst ds))))(h1:σ[i]?=some (some (.ref a)))(h2:H a=some (.lst vs))(h3:own i=a::A)
  (r:aH P w H ds' vs' A') (nd:A'.Nodup) (hA:∀c∈A',c∈A\/(C.H0 c=none/\¬ Wn own c/\U c)) (hU:∀a,U2 a->U a) (OY:∀c∈A',c∉A->¬ U2 c) :
  bh P w (C.u U2) σ (upd H a (.lst vs')) (β.set i (some (.own (.lst ds')))) (aC own i (a::A'))/\∀c∈a::A',c∈own i\/(C.H0 c=none/\¬ Wn own c/\U c):=by
 have ha:a∈own i:=by rw[h3];simp
 have nA:a∉A:=by have:=s.gX i;rw[h3]at this;exact(Vt.mp this).1
 have na:∀c∈A',c≠a:=λc hc z=>by
  subst z;rcases hA c hc with z|z
  ·exact nA z
  ·exact z.2.1 ⟨i,ha⟩
 have kt:∀b xs,H b=some (.tup xs)->upd H a (.lst vs') b=some (.tup xs):=λb xs z=>by rw[ak (λz'=>by rw[z',h2]at z;cases z)];exact z
 have QK:∀c∈a::A',c∈own i\/(C.H0 c=none/\¬ Wn own c/\U c):=λc hc=>by
  rcases UW.mp hc with rfl|hc
  ·exact .inl ha
  ·exact(hA c hc).imp (λz=>by rw[h3];simp[z]) id
 refine⟨s.BQ e h1 ha ⟨a,vs',A',rfl,aj,rfl,r.keep kt λc hc oc ec=>by rw[ak (na c hc)];exact ec⟩ (Vt.mpr ⟨λz=>na a z rfl,nd⟩) QK hU (λc hc z=>?_),QK⟩
 rcases UW.mp hc with rfl|hc
 ·exact(s.dm i c ha).2.2.2 (hU c z)
 ·by_cases q:c∈A
  ·exact(s.dm i c (by rw[h3];simp[q])).2.2.2 (hU c z)
  ·exact OY c hc q z
theorem yX {own:Nat->List Addr}{i:Nat}{A':List Addr}(h:∀c∈A',c∈own i):∀c,Wn (aC own i A') c->Wn own c:=λc Gy=>by
 obtain⟨j,hj⟩:=Gy
 by_cases aB:i=j
 ·rw[<- aB,os_eq]at hj;exact⟨i,h c hj⟩
 ·rw[aV aB]at hj;exact⟨j,hj⟩
theorem Fx {P:UY}{w:Vc}{H:Hp}{own:Nat->List Addr}{Z:Hp×(Addr->Prop)}{d:D}{v:V}{A:List Addr}(r:Own P w H d v A)(h:∀c∈A,¬ Wn own c/\C.H0 c=none):KV P w C Z own H (sk .cQ d) d v:=by
 have q:au P w (av C (Wn own) .cQ) H d v:=r.rep λc hc z=>z.elim (h c hc).1 λz=>z (h c hc).2;cases d with
 |int i=>exact KV.flat rfl q
 |bl i=>exact KV.flat rfl q
 |bC=>exact KV.flat rfl q
 |str i=>exact KV.flat rfl q
 |_=>exact q
theorem aH.concat {P:UY}{w:Vc}{H:Hp}{ds:List D}{d:D}{vs:List V}{A:List Addr}(h:aH P w H (ds++[d]) vs A):∃us v A1 A2,vs=us++[v]/\A=A1++A2/\aH P w H ds us A1/\Own P w H d v A2:=by
 obtain⟨v,A1,A2,A3,g1,g2,g3,g4,g5⟩:=h.split (i:=ds.length) (d:=d) (by simp)
 rw[List.take_left]at g3;have e3:aH P w H [] (vs.drop (ds.length+1)) A3:=by simpa using g5
 have hl:=h.length;rw[U_,W3]at hl;refine⟨vs.take ds.length,v,A1,A2,?_,by rw[g2,e3.2,VW],g3,g4⟩
 have gh:ds.length<vs.length:=by lia
 have e1:vs=vs.take ds.length++vs.drop ds.length:=(WZ _ _).symm;rw[V3 gh,e3.1]at e1;have:vs[ds.length]=v:=by
  have:=U4 gh;rw[g1]at this;exact(VL this).symm
 rw[this]at e1;exact e1
theorem yG (hN:X.N[i]?=some x:=by rfl)(hv:j9 X.env.scope x:=by first|exact .inl rfl|exact .inr (.inl rfl)|exact .inr (.inr rfl))(hd:(x==("__debug__" : Str))=false:=by decide)(c7:(x==("__classdict__" : Str))=false:=by decide)
  (b5:Wr (.Name x px) "pop" X.env (eval (.Name x px) X.env)=eval (.Name x px) X.env:=by rfl) (b4:(ap.endLine==cp.line)=true:=by rfl) :
  PQ X C false (.Call (.Attribute (.Name x px) "pop" ap) [] [] cp) (λβ R=>∃ds d,β[i]?=some (some (.own (.lst (ds++[d]))))/\R d (sk .cQ d) (β.set i (some (.own (.lst ds))))) :=
 ⟨λβ R R' k JW=>by obtain⟨ds,d,h1,q⟩:=JW;exact⟨ds,d,h1,k _ _ _ q⟩,(yO (apos:=ap) (cpos:=cp) PySem.F.plainAttrs_list PySem.F.slot_list_pop PySem.F.type_list_pop zi (bp (pos:=px) hN hv hd c7) b5 b4).pre λσ H Q o8=>by
  obtain⟨β,own,s,ds,d,hb,q⟩:=o8;obtain⟨a,vs,A,h1,h2,h3,h4⟩:=s.lh hb;obtain⟨us,v,A1,A2,rfl,rfl,g3,g4⟩:=h4.concat;have nd:=s.gX i;rw[h3]at nd;obtain⟨DZ,wu,FZ⟩:=Vu.mp (Vt.mp nd).2;obtain⟨s2,hA⟩:=s.putL (C:=C) (U:=C.U) (U2:=C.U) (ds':=ds) (vs':=us) (A':=A1) hb h1 h2 h3 g3 DZ (λc hc=>.inl (by simp[hc])) (λ_ z=>z) (λc hc n=>absurd (by simp[hc]) n)
  have h0:∀c∈own i,C.H0 c=none:=by obtain⟨_,_,_,h⟩:=s.ow i _ hb;exact h
  have kt:∀b xs,H b=some (.tup xs)->upd H a (.lst us) b=some (.tup xs):=λb xs z=>by rw[ak (λz'=>by rw[z',h2]at z;cases z)];exact z
  have na:∀c∈A2,c≠a:=λc hc z=>(Vt.mp nd).1 (by rw[<- z];simp[hc])
  have le:∀c,Wn (aC own i (a::A1)) c->Wn own c:=yX λc hc=>by rw[h3];rcases UW.mp hc with rfl|hc <;> simp[*]
  refine⟨.ref a,h1,.inl ⟨rfl,_,b3.of h2⟩,a,_,v,rfl,rfl,h2,by simp,?_⟩
  rw[List.dropLast_concat];refine q v _ _ ⟨s2,?_,λz=>(nomatch z),le⟩ (Fx (C:=C) (g4.keep kt λc hc oc ec=>by rw[ak (na c hc)];exact ec) λc hc=>⟨λ⟨j,hj⟩=>?_,h0 c (by rw[h3];simp[hc])⟩)
  ·have u:=Sn.upd (Z:=(H,Wn own)) (o':=.lst us) (Sn.refl (H:=H) (W:=Wn own)) h2 (λxs z=>by cases z) ⟨i,by rw[h3];simp⟩
   exact⟨λb z=>.inl (le b z),u.k,u.d⟩
  ·by_cases aB:i=j
   ·rw[<- aB,os_eq]at hj;rcases UW.mp hj with rfl|hj
    ·exact na _ hc rfl
    ·exact FZ _ hj _ hc rfl
   ·rw[aV aB]at hj;exact aB (s.fQ i j c (by rw[h3];simp[hc]) hj)⟩
end
section
variable {X:Cx}{C:Cfg}{e k:Expr}{φ φk:aM}{p pk:Bool}{i:Nat}{x:Str}{pos pos' px:Pos}
theorem tM {n:Nat}{j:Int}{k:Nat}(h:mw n j=some k):k<n:=by
 unfold mw at h
 by_cases h0:0<=j
 ·rw[if_pos h0]at h
  by_cases h1:j<n
  ·rw[if_pos h1]at h;cases h;lia
  ·rw[if_neg h1]at h;cases h
 ·rw[if_neg h0]at h
  by_cases h1:-(n:Int)<=j
  ·rw[if_pos h1]at h;cases h;lia
  ·rw[if_neg h1]at h;cases h
theorem uy {Z:Hp×(Addr->Prop)}{H:Hp}{own:Nat->List Addr}{a:Addr}{o oa:HO}{A':List Addr}{U:Addr->Prop}(n:Sn Z H (Wn own))(m:∀a,U a->Z.1 a=none)(h2:H a=some oa)(ht:∀xs,oa≠.tup xs)(ha:Wn own a)(hA:∀c∈A',c∈own i\/(C.H0 c=none/\¬ Wn own c/\U c)):Sn Z (upd H a o) (Wn (aC own i A')) :=
 gD n m ha ⟨oa,h2,ht⟩ hA
theorem tf (he:∀U,PQ X (C.u U) p e φ)(hk:∀U,PQ X (C.u U) pk k φk)(hN:X.N[i]?=some x:=by rfl)(hv:j9 X.env.scope x:=by first|exact .inl rfl|exact .inr (.inl rfl)|exact .inr (.inr rfl))(hd:(x==("__debug__" : Str))=false:=by decide)(c7:(x==("__classdict__" : Str))=false:=by decide)
  (ha:∀v,assign (.Subscript (.Name x px) k pos') X.env v=(do
   let ov <- holding [v] (eval (.Name x px) X.env)
   let iv <- holding [v,ov] (eval k X.env)
   YE pos'
   holding [v,ov,iv] (setItem ov iv v)
   release [v,ov,iv] []):=by intro _;rfl) (hs:swapsWithSole [.Subscript (.Name x px) k pos'] e pos.line X.env=pure false:=by rfl) (hw:swappedStores [.Subscript (.Name x px) k pos'] e X.env=pure none:=by rfl)
  (h1:(WN [.Subscript (.Name x px) k pos'] X.env).map (·.2)=[assign (.Subscript (.Name x px) k pos') X.env]:=by rfl) :
  PB X C (.Assign [.Subscript (.Name x px) k pos'] e pos) (λE β=>φ β λd kd β1=>CH kd d/\(∃ds,β1[i]?=some (some (.own (.lst ds))))/\φk β1 λjd _ β2=>∃ds j m,jd=.int j/\β2[i]?=some (some (.own (.lst ds)))/\mw ds.length j=some m/\E.nx (β2.set i (some (.own (.lst (ds.set m d)))))):=by
 refine⟨λE E' β l q=>(he λ_=>False).mono _ _ _ (λd kd β1 o8=>by obtain⟨f,h0,q⟩:=o8;exact⟨f,h0,(hk λ_=>False).mono _ _ _ (λjd _ β2 tS=>by obtain⟨ds,j,m,h1,h2,h3,q⟩:=tS;exact⟨ds,j,m,h1,h2,h3,l.nx _ q⟩) q⟩) q,λpins s σ H De I ⟨Z,E,β,⟨own,sq,n⟩,q,ok⟩=>?_⟩
 refine oF (he λa=>H a=none).pe (s_ (bp (pos:=px) hN hv hd c7) (hk λa=>H a=none).pe set_list ha) hs hw h1 pins s σ H De I ?_;refine tQ.of (he λa=>H a=none) (sq.gu (C:=C.z) (U:=λa=>H a=none) λa z=>z) q λd kd β1 v H1 ao ⟨f,⟨Pa,A9⟩,q⟩ o r=>?_;obtain⟨a0,PH,A0,z1,z2,z3,z4⟩:=o.sq.lh A9;refine⟨.ref a0,z1,tQ.of (hk λa=>H a=none) o.sq q λjd kj β2 jv H2 aY ⟨ds,j,m,e1,hb,hj,q⟩ o2 r2=>?_⟩;subst e1;cases r2.rep;obtain⟨A,r1,rn,r3⟩:=(r.fl f).held (by intro z;cases z) o2.sn
 obtain⟨a,vs,A',g1,g2,g3,g4⟩:=o2.sq.lh hb;rw[z1]at g1;cases g1;have SF:m<ds.length:=tM hj;have hm:ds[m]?=some ds[m]:=U4 SF;obtain⟨v0,B1,B2,B3,k1,rfl,k3,k4,k5⟩:=g4.split hm;have nd:=o2.sq.gX i;rw[g3]at nd;obtain⟨DZ,wu,FZ⟩:=Vu.mp (Vt.mp nd).2;obtain⟨Nk,Nj,Ni⟩:=Vu.mp wu;have L8:m<vs.length:=by rw[g4.length];exact tM hj
 have ow:aH X.prog X.w H2 (ds.set m d) (vs.set m v) (B1++(A++B3)):=by
  rw[Xs,if_pos (tM hj),Xs,if_pos L8];exact k3.append ⟨v,_,A,B3,rfl,rfl,r1,k5⟩
 have off:∀c∈A,∀c'∈B1++(B2++B3),c≠c':=λc hc c' my z=>(r3 c hc).2.1 ⟨i,by rw[g3,z];simp only[UW];exact .inr my⟩
 have RV:(B1++(A++B3)).Nodup:=Vu.mpr ⟨DZ,Vu.mpr ⟨rn,Nj,λx hx y hy=>off x hx y (by simp[hy])⟩,λx hx y hy z=>by
  rcases Vh.mp hy with hy|hy
  ·exact off y hy x (by simp[hx]) z.symm
  ·exact FZ x hx y (Vw _ hy) z⟩
 obtain⟨s2,hA⟩:=o2.sq.putL (C:=C) (U:=λa=>H a=none) (U2:=λ_=>False) (ds':=ds.set m d) (vs':=vs.set m v) (A':=B1++(A++B3)) hb z1 g2 g3 ow RV (λc hc=>by
  rcases Vh.mp hc with hc|hc
  ·exact .inl (by simp[hc])
  ·rcases Vh.mp hc with hc|hc
   ·exact .inr ⟨(r3 c hc).2.2,(r3 c hc).2.1,(r3 c hc).1⟩
   ·exact .inl (by simp[hc])) (λ_ z=>z.elim) (λc hc n z=>z)
 exact⟨a0,vs,j,m,rfl,rfl,g2,by rw[g4.length];exact hj,ok.nx _ _ _ ⟨_,s2,uy ((n.trans o.sn).trans o2.sn) (λb z=>n.free z) g2 (λxs z=>by cases z) ⟨i,by rw[g3];simp⟩ hA⟩ q⟩
end
abbrev A6 (l:Bool)(ds:List D):D:=match l with|true=>.lst ds|false=>.tup ds
section
variable {P:UY}{w:Vc}{H:Hp}{A:List Addr}{v:V}{ds:List D}{l:Bool}
theorem ip {m:Nat}{es:List D}(r:Own P w H (A6 l ds) v A)(nd:A.Nodup)(hm:ds[m]?=some (.lst es)):∃a vs c us B,v=.ref a/\H a=some (match l with|true=>.lst vs|false=>.tup vs)/\vs.length=ds.length/\vs[m]?=some (.ref c)/\H c=some (.lst us)/\c∈A/\aH P w H es us B/\(∀x∈B,x∈A/\x≠c)/\B.Nodup /\
  ∀tX nY B',aH P w H tX nY B'->B'.Nodup->(∀x∈B',x∈B\/x∉A)->(∀x∈B',x≠c)->∃A',Own P w (upd H c (.lst nY)) (A6 l (ds.set m (.lst tX))) v A'/\A'.Nodup/\∀x∈A',x∈A\/x∈B':=by
 have core:∀{vs:List V} {A:List Addr},A.Nodup->aH P w H ds vs A->∃c us B,vs[m]?=some (.ref c)/\H c=some (.lst us)/\c∈A/\aH P w H es us B/\(∀x∈B,x∈A/\x≠c)/\B.Nodup /\
   ∀tX nY B',aH P w H tX nY B'->B'.Nodup->(∀x∈B',x∈B\/x∉A)->(∀x∈B',x≠c)->∃A',aH P w (upd H c (.lst nY)) (ds.set m (.lst tX)) vs A'/\A'.Nodup/\(∀x∈A',x∈A\/x∈B'):=λ{vs A} nd os=>by
  have hl:=os.length;have SG:m<ds.length:=(U6.mp hm).1;obtain⟨u,A1,A2,A3,g1,rfl,g3,⟨c,us,B,rfl,h2,rfl,h4⟩,g5⟩:=os.split hm;obtain⟨DZ,wu,FZ⟩:=Vu.mp nd;obtain⟨Nk,Nj,Ni⟩:=Vu.mp wu;have RX:=(Vt.mp Nk).1;refine⟨c,us,B,g1,h2,by simp,h4,λx hx=>⟨by simp[hx],λz=>RX (by rw[<- z];exact hx)⟩,(Vt.mp Nk).2,λtX nY B' o' n' gY my=>?_⟩
  have kt:∀b xs,H b=some (.tup xs)->upd H c (.lst nY) b=some (.tup xs):=λb xs z=>by rw[ak (λz'=>by rw[z',h2]at z;cases z)];exact z
  have n1:∀x∈A1,x≠c:=λx hx z=>FZ x hx c (by simp) z
  have n3:∀x∈A3,x≠c:=λx hx z=>Ni c (by simp) x hx z.symm
  have off:∀x∈B',x∉A1/\x∉A3:=λx hx=>by
   rcases gY x hx with z|z
   ·exact⟨λq=>FZ x q x (by simp[z]) rfl,λq=>Ni x (by simp[z]) x q rfl⟩
   ·exact⟨λq=>z (by simp[q]),λq=>z (by simp[q])⟩
  have L8:m<vs.length:=by lia
  have ev:vs=vs.take m++V.ref c::vs.drop (m+1):=by
   have e1:vs=vs.take m++vs.drop m:=(WZ _ _).symm;rw[V3 L8]at e1;have:vs[m]=V.ref c:=by
    have:=U4 L8;rw[g1]at this;exact(VL this).symm
   rwa [this]at e1
  refine⟨A1++((c::B')++A3),?_,Vu.mpr ⟨DZ,Vu.mpr ⟨Vt.mpr ⟨λz=>my c z rfl,n'⟩,Nj,λx hx y hy=>?_⟩,λx hx y hy z=>?_⟩,λx hx=>?_⟩
  ·rw[Xs,if_pos SG];have q:aH P w (upd H c (.lst nY)) (ds.take m++.lst tX::ds.drop (m+1)) (vs.take m++.ref c::vs.drop (m+1)) (A1++((c::B')++A3)) :=
    (g3.keep kt λx hx oc ec=>by rw[ak (n1 x hx)];exact ec).append ⟨.ref c,_,c::B',A3,rfl,rfl,⟨c,nY,B',rfl,aj,rfl,o'.keep kt λx hx oc ec=>by rw[ak (my x hx)];exact ec⟩,g5.keep kt λx hx oc ec=>by rw[ak (n3 x hx)];exact ec⟩
   rw[<- ev]at q;exact q
  ·intro z;subst z;rcases UW.mp hx with rfl|hx
   ·exact n3 _ hy rfl
   ·exact(off x hx).2 hy
  ·subst z;rcases Vh.mp hy with hy|hy
   ·rcases UW.mp hy with rfl|hy
    ·exact n1 _ hx rfl
    ·exact(off x hy).1 hx
   ·exact FZ x hx x (by simp[hy]) rfl
  ·rcases Vh.mp hx with hx|hx
   ·exact .inl (by simp[hx])
   ·rcases Vh.mp hx with hx|hx
    ·rcases UW.mp hx with rfl|hx
     ·exact .inl (by simp)
     ·exact .inr hx
    ·exact .inl (by simp[hx])
 cases l with
 |true =>
  obtain⟨a,vs,A',rfl,h2,rfl,h4⟩:=r;obtain⟨na,Jr⟩:=Vt.mp nd;obtain⟨c,us,B,q1,q2,q3,q4,q5,q6,q7⟩:=core Jr h4;have ca:c≠a:=λz=>na (by rw[<- z];exact q3)
  refine⟨a,vs,c,us,B,rfl,h2,h4.length,q1,q2,by simp[q3],q4,λx hx=>⟨by simp[(q5 x hx).1],(q5 x hx).2⟩,q6,λtX nY B' o' n' gY my=>?_⟩
  obtain⟨A2,g1,g2,g3⟩:=q7 tX nY B' o' n' (λx hx=>(gY x hx).imp id λz q=>z (by simp[q])) my
  refine⟨a::A2,⟨a,vs,A2,rfl,by rw[ak ca.symm];exact h2,rfl,g1⟩,Vt.mpr ⟨λz=>?_,g2⟩,λx hx=>?_⟩
  ·rcases g3 a z with z|z
   ·exact na z
   ·rcases gY a z with z|z
    ·exact na (q5 a z).1
    ·exact z (by simp)
  ·rcases UW.mp hx with rfl|hx
   ·exact .inl (by simp)
   ·exact(g3 x hx).imp (λz=>by simp[z]) id
 |false =>
  obtain⟨a,vs,rfl,h2,h4⟩:=r;obtain⟨c,us,B,q1,q2,q3,q4,q5,q6,q7⟩:=core nd h4;have ca:a≠c:=λz=>by rw[z,q2]at h2;cases h2
  refine⟨a,vs,c,us,B,rfl,h2,h4.length,q1,q2,q3,q4,q5,q6,λtX nY B' o' n' gY my=>?_⟩;obtain⟨A2,g1,g2,g3⟩:=q7 tX nY B' o' n' gY my;exact⟨A2,⟨a,vs,rfl,by rw[ak ca];exact h2,g1⟩,g2,g3⟩
end
section
variable {X:Cx}{C:Cfg}{e k:Expr}{φ φk:aM}{i:Nat}{x:Str}{pos px kp ap cp:Pos}
theorem jD (l:Bool)(he:∀U,PQ X (C.u U) true e φ)(hk:∀U,PQ X (C.u U) true k φk)(hN:X.N[i]?=some x:=by rfl)(hv:j9 X.env.scope x:=by first|exact .inl rfl|exact .inr (.inl rfl)|exact .inr (.inr rfl))(hd:(x==("__debug__" : Str))=false:=by decide)(c7:(x==("__classdict__" : Str))=false:=by decide)
  (G0:d8 k:=by exact λ_ _=>rfl)
  (b5:Wr (.Subscript (.Name x px) k kp) "append" X.env (eval (.Subscript (.Name x px) k kp) X.env)=eval (.Subscript (.Name x px) k kp) X.env:=by rfl)
  (gO:((Wq cp (U5 [e] X.env)).all (λx=>!x.1)&&(X5 cp (Xp [] X.env)).all (λx=>x.1.isSome)&&decide ([e].length+([]:List W6).length+(if ([]:List W6).isEmpty then 0 else 1)<30))=true:=by rfl)
  (b4:(ap.endLine==cp.line)=true:=by rfl) (hs:U5 [e] X.env=(false,eval e X.env)::U5 [] X.env:=by rfl) (cj:(Wq cp (U5 [] X.env)).any (·.1)=false:=by rfl)
  (o7:Wg (.Call (.Attribute (.Subscript (.Name x px) k kp) "append" ap) [e] [] cp) none pos.line X.env=pure false:=by rfl) :
  PB X C (.Expr (.Call (.Attribute (.Subscript (.Name x px) k kp) "append" ap) [e] [] cp) pos) (λE β=>(∃d0,β[i]?=some (some (.own d0)))/\φk β λjd _ β1=>∃ds j m es,jd=.int j/\β1[i]?=some (some (.own (A6 l ds)))/\mw ds.length j=some m/\ds[m]?=some (.lst es)/\φ β1 λd kd β2=>CH kd d/\β2[i]?=some (some (.own (A6 l ds)))/\es.length<U8/\E.nx (β2.set i (some (.own (A6 l (ds.set m (.lst (es++[d]))))))) ):=by
 refine⟨λE E' β l KN=> by obtain⟨q0,q⟩ := KN;exact⟨q0,(hk λ_=>False).mono _ _ _ (λjd _ β1 KL=> by obtain⟨ds,j,m,es,h1,h2,h3,h4,q⟩ := KL;exact⟨ds,j,m,es,h1,h2,h3,h4,(he λ_=>False).mono _ _ _ (λd kd β2 KJ=> by obtain⟨g1,g2,g3,q⟩ := KJ;exact⟨g1,g2,g3,l.nx _ q⟩) q⟩) q⟩,λpins s σ H De I ⟨Z,E,β,⟨own,sq,n⟩,⟨⟨d0,G3⟩,q⟩,ok⟩=>?_⟩
 have ix:Bf X (λx y H Q=>yw X.K x y H Q\/BM X.K x y H Q):=λvalue slice pins s σ H x y v u Q I rx ry h hs=>h.elim (λh=>bw value slice pins s σ H x y v u Q I rx ry h hs) λh=>oW value slice pins s σ H x y v u Q I rx ry h hs;refine dZ (pos:=pos) (kU (apos:=ap) (cpos:=cp) PySem.F.plainAttrs_list PySem.F.slot_list_append PySem.F.type_list_append di (cT (pos:=kp) ix (bp (pos:=px) hN hv hd c7) (hk λa=>H a=none).pe G0) (aF (he λa=>H a=none).pe bq hs) b5 gO b4 hs cj) o7 pins s σ H De I ?_;have Ro:=sq.gu (C:=C.z) (U:=λa=>H a=none) λa z=>z;obtain⟨v0,jG,_,_⟩:=sq.ow i d0 G3;refine⟨v0,jG,tQ.of (hk λa=>H a=none) Ro q λjd kk β1 kv H1 ao ⟨ds,j,m,es,e1,hb,hj,hm,q⟩ o r=>?_⟩;subst e1;cases r.rep;obtain⟨v,u9,ow,h0⟩:=o.sq.ow i _ hb;rw[jG]at u9;cases u9;obtain⟨a,vs,c,us,B,rfl,q1,q2,q3,q4,q5,q6,q7,q8,q9⟩:=ip ow (o.sq.gX i) hm;have sD:gU vs j=some (.ref c):=by unfold gU;rw[q2,hj];exact q3
 have DU:HE X.K "list" (.ref c) H1/\xZ (tQ X (C.u λa=>H a=none) true φ) E3 σ H1 λxs H2=>oC (.ref c) xs H2 λ_ H1=>De.nx σ H1:=by
  refine⟨.inl ⟨rfl,us,b3.of q4⟩,tQ.of (he λa=>H a=none) o.sq q λd kd β2 v2 H2 aY ⟨f,HV,hl,q⟩ o2 r2=>?_⟩;obtain⟨s2,e2⟩:=o2.pu rfl;obtain⟨v',Gu,RN,UE⟩:=o2.sq.ow i _ HV;rw[jG]at Gu;cases Gu;obtain⟨a',vs',c',nY,B',ea,p1,p2,p3,p4,p5,p6,p7,p8,p9⟩:=ip RN (o2.sq.gX i) hm;cases ea;have e3:=s2 _ _ q1;rw[p1]at e3;have ev:vs'=vs:=by cases l <;> (cases e3;rfl)
  subst ev;rw[q3]at p3;cases p3;have e4:=s2 _ _ q4;rw[p4]at e4;cases e4;obtain⟨A,r1,rn,r3⟩:=r2.fl f;have tu:∀x∈A,x∉aY i:=λx hx z=>(r3 x hx).2.1 ⟨i,z⟩;obtain⟨A',g1,g2,g3⟩:=p9 (es++[d]) (us++[v2]) (B'++A) (p6.append (aH.one r1)) (Vu.mpr ⟨p8,rn,λx hx y hy z=>tu y hy (by rw[<- z];exact(p7 x hx).1)⟩)
   (λx hx=>(Vh.mp hx).imp id (tu x)) (λx hx z=>by
    rcases Vh.mp hx with hx|hx
    ·exact(p7 x hx).2 z
    ·exact tu x hx (by rw[z];exact p5))
  have hA:∀x∈A',x∈aY i\/(C.H0 x=none/\¬ Wn aY x/\H x=none):=λx hx=>by
   rcases g3 x hx with z|z
   ·exact .inl z
   ·rcases Vh.mp z with z|z
    ·exact .inl (p7 x z).1
    ·exact .inr ⟨(r3 x z).2.2,(r3 x z).2.1,o.sn.free (r3 x z).1⟩
  exact⟨c,us,v2,rfl,rfl,p4,by rw[p6.length];exact hl,ok.nx _ _ _ ⟨_,o2.sq.putIn (C:=C) (U:=λa=>H a=none) HV jG p5 g1 g2 hA,gD ((n.trans o.sn).trans o2.sn) (λb z=>n.free z) ⟨i,p5⟩ ⟨_,p4,λxs z=>by cases z⟩ hA⟩ q⟩
 cases l with
 |true=>exact .inl ⟨a,vs,j,.ref c,rfl,rfl,b3.of q1,sD,DU⟩
 |false=>exact .inr ⟨a,vs,j,.ref c,rfl,rfl,rZ.of q1,sD,DU⟩
end
end L2.Q
namespace L2
open PySem PySem.Spec PySem.SeqAt PyProof.Rows
theorem Qi {b:Bool}{p q:Prop}(h1:b=true->p)(h2:b=false->q):(if b=true then p else q):=by
 cases b
 ·exact gg rfl (h2 rfl)
 ·exact o4 rfl (h1 rfl)
def jk (a b c d:Int):Bool:=(decide (a<c)&&(decide (c<b)&&decide (b<d))) || (decide (c<a)&&(decide (a<d)&&decide (d<b)))
def c3:List Int->List Int->Bool
 |[a,b],[c,d]=>jk a b c d
 |_,_=>false
def Pair (t:List Int):Prop:=∃a b,t=[a,b]
def lN:FD:=λds R=>∃t u,ds=[kD t,kD u]/\Pair t/\Pair u/\R (.bl (c3 t u))
theorem lN.mono:dO lN:=λds R R' k ⟨t,u,e,h1,h2,q⟩=>⟨t,u,e,h1,h2,k _ q⟩
def cX (t u:List Int):Bool:=t.any λi=>decide (i∈u)
def Pairs (ts:List (List Int)):Prop:=∀t∈ts,Pair t
structure Bs2 (mg:Str->Option UQ):Prop extends Bs mg where
 HN:mg "isinstance" = none
 tuple:mg "tuple" = none
 str:mg "str" = none
 bool:mg "bool" = none
 zip:mg "zip" = none
 enumerate:mg "enumerate" = none
theorem iG {d:D}{n:Nat}(h:d.pd.canLay0=true/\d.pd.depth<=n)(hn:n<=64:=by decide):HZ d d=some (.bl true):=t6 (cz h hn) (cz h hn) (eqv_refl _ h.1)
theorem eK {d:D}{n:Nat}(h:d.pd.canLay0=true/\d.pd.depth<=n)(hn:n<=64:=by decide):Hg d d=some (.bl false):=t5 (cz h hn) (cz h hn) (eqv_refl _ h.1)
end L2
namespace L2.Q
open PySem PySem.Spec PySem.SeqAt PyProof.Rows
structure xq (X:Cx)(C:Cfg)(p:Bool)(ifs:List Expr)(τ:bb):Prop where
 mono:∀β R R',(∀d β,R d β->R' d β)->τ β R->τ β R'
 pt:sF X ifs (jU X C p τ)
theorem fA {X:Cx}{C:Cfg}:xq X C true [] Ii:=⟨λ_ _ _ k h=>k _ _ h,yE⟩
theorem kn {X:Cx}{C:Cfg}{p:Bool}{c:Expr}{τ:bb}(h:vB X C p c τ):xq X C p [c] τ:=⟨h.mono,yD h⟩
section
variable {X:Cx}{C:Cfg}{lk:List (Option Nat)}{γ:eC}{τ:bb}{φ:aM}{T:List Nat}{pc pe pi:Bool}{scope:XA}{N':List Str}{tg dN elt:Expr}{ifs:List Expr}{ι:c9}{pos pos' p_:Pos}{y:Str}{i:Nat}
theorem HL (N':List Str)(lk:List (Option Nat))(L:lq X.env.scope.names X.N scope N' lk=true)(A_:N'.Nodup)(hc:X.calm=true)(hi:AS X C pi tg dN ι)
  (xx:∀U cl c s H ex,AU (aG X scope N' cl c s H ex) (C.u U) tg T γ) (xw:∀U cl c s H ex,xq (aG X scope N' cl c s H ex) (C.u U) pc ifs τ) (u_:∀U cl c s H ex,PQ (aG X scope N' cl c s H ex) (C.u U) pe elt φ)
  (hT:T.all (λi=>match lk[i]? with|some (some _)=>false|_=>true)=true:=by rfl) (hs:∀x,V1 dN X.env x=pure x:=by intro _;rfl):PQ X C (pi&&(pc&&pe)) (.ListComp elt [⟨tg,dN,ifs,0⟩] scope pos) (uE lk ι γ τ φ) :=
 Jb (Links.of L) A_ hT hc hi (λa=>xx _) (λa cl c s H ex=>(xw _ cl c s H ex).pt) (xw (λ_=>False) [] 0 X.s₀ X.H₀ []).mono (λa=>u_ _) (xx (λ_=>False) [] 0 X.s₀ X.H₀ []).mono (u_ (λ_=>False) [] 0 X.s₀ X.H₀ []).mono hs
theorem yo (o:Bool)(N':List Str)(lk:List (Option Nat))(L:lq X.env.scope.names X.N scope N' lk=true)(A_:N'.Nodup)(hc:X.calm=true)(hi:∀U,AS X (C.u U) pi tg dN ι)
  (xx:∀U cl c s H ex,AU (aG X scope N' cl c s H ex) (C.u U) tg T γ) (xw:∀U cl c s H ex,xq (aG X scope N' cl c s H ex) (C.u U) pc ifs τ) (u_:∀U cl c s H ex,PQ (aG X scope N' cl c s H ex) (C.u U) pe elt φ)
  (hN:X.N.Nodup) (hT:T.all (λi=>match lk[i]? with|some (some _)=>false|_=>true)=true:=by rfl) (hy:X.N[i]?=some y:=by rfl) (hx:Loc X.env.scope y:=by first|exact .inl rfl|exact .inr rfl) (hf:X.fn y=true\/X.env.scope.names.lookup y=some .local:=by first|exact .inl rfl|exact .inr rfl|assumption)
  (o7:Wg (.ListComp elt [⟨tg,dN,ifs,0⟩] scope pos) (some (.Name y pos')) p_.line X.env=pure true:=by rfl)
  (G1:evalThenUse (.ListComp elt [⟨tg,dN,ifs,0⟩] scope pos) X.env (assign (.Name y pos') X.env)=(do let _ <- comprehension (.ListComp elt [⟨tg,dN,ifs,0⟩] scope pos) scope X.env (firstIterPos [⟨tg,dN,ifs,0⟩] pos) (newList []) false (eval dN X.env) (some (assign (.Name y pos') X.env));pure ()):=by first|rfl|exact arm_evalThenUse_ListComp ..)
  (hs:∀x,V1 dN X.env x=pure x:=by intro _;rfl) :
  PB X C (.Assign [.Name y pos'] (.ListComp elt [⟨tg,dN,ifs,0⟩] scope pos) p_) (λE β=>uE lk ι γ τ φ β λd _ β'=>E.nx (β'.set i (some (match o with|true=>.own d|false=>.val true d)))) :=
 I9 (K:=λ_ _ _=>True) (Links.of L) A_ hT hc hi xx (λU cl c s H ex=>(xw U cl c s H ex).pt) (xw (λ_=>False) [] 0 X.s₀ X.H₀ []).mono u_ (xx (λ_=>False) [] 0 X.s₀ X.H₀ []).mono (u_ (λ_=>False) [] 0 X.s₀ X.H₀ []).mono o hN hy hx hf o7 G1 hs
theorem br:Bf X (yx X jL NF):=λvalue slice pins s σ H x y v u Q I rx ry ⟨W,d1,d2,d,hd,r1,r2,e,q⟩ hs =>
 Gj value slice pins s σ H x y v u Q I rx ry ⟨W,d1,d2,d,hd,r1,r2,e,λv H' s r=>q v H' s r λf=>au.flat f r⟩ hs
end
section
end
theorem xb (ns:List Int)(lo hi:Option Int):∃ms:List Int,rM (ns.map V.int) lo hi=ms.map V.int/\ms.length<=ns.length:=by
 refine⟨(ns.drop (HT.jW (ns.map V.int).length 0 lo)).take (HT.jW (ns.map V.int).length (ns.map V.int).length hi-HT.jW (ns.map V.int).length 0 lo),?_,?_⟩
 ·unfold rM;rw[List.map_take,List.map_drop]
 ·rw[VV,List.length_drop];lia
section
variable {P:UY}{w:Vc}
theorem a8 {W:Addr->Prop}{H:Hp}:∀ns:List Int,af P w W H (ns.map D.int) (ns.map V.int)
 |[]=>rfl
 |n::ns=>⟨_,_,rfl,rfl,a8 ns⟩
theorem BD {N:List Str}{vs:List V}{H H':Hp}{n:Nat}{ro:Bool}{U:Addr->Prop}(hl:(L2.start N vs).length=n)(sm:ay H H'):bh P w ⟨H,λ_=>False,ro,U⟩ (L2.start N vs) H' (U9 n none) (λ_=>[]) :=
 ⟨by rw[hl,Yo],λi y d h=>(fH h).elim,λi d h=>(fH h).elim,λi ok h=>(fH h).elim,λi a h=>(nomatch h),λi j a h=>(nomatch h),λi=>V7,sm.kp,λa z e=>z (sm.free e),λi y d h=>(fH h).elim⟩
theorem II {ro:Bool}{H H':Hp}{b:Bool}{v:V}(h:pC P w ro H H' (.bl b) v):v=.bl b:=by
 cases ro with
 |true=>obtain⟨A,h1,_⟩:=h;exact h1.1
 |false=>exact h
end
end L2.Q
namespace L2
open PySem PySem.Spec PySem.SeqAt PyProof.Rows
abbrev Fm (n:Int)(rows:List (List Int)):D:=.tup [.int n,.lst (rows.map kD)]
theorem vP (n:Int)(rows:List (List Int)):(Fm n rows).pd.canLay0=true/\(Fm n rows).pd.depth<=4:=mP λd hd=>by
 rcases UW.mp hd with rfl|hd
 ·exact⟨(bJ n).1,VB (bJ n).2 (by decide)⟩
 ·rw[U3.mp hd];exact gE rows
end L2
namespace L2.Q
open PySem PySem.Spec PySem.SeqAt PyProof.Rows
def A5 (ns:List Int):Prop:=∃x y z:Int,ns=[x,y,z]/\0<=x
def z_:FD:=λds R=>∃c:Int,ds=[.int c]/\∀ns,A5 ns->R (.lst (ns.map D.int))
theorem z_.mono:dO z_:=λds R R' k ⟨c,e,q⟩=>⟨c,e,λns o=>k _ (q ns o)⟩
section
variable {P:UY}{w:Vc}{H:Hp}{h:Addr}
theorem k6 {H:Hp}:∀ns:List Int,aH P w H (ns.map D.int) (ns.map V.int) []
 |[]=>⟨rfl,rfl⟩
 |n::ns=>⟨_,_,[],[],rfl,rfl,⟨rfl,rfl⟩,k6 ns⟩
theorem sX {xs ys:List V}(e:H h=some (.lst xs)):Kp (·=h) H (upd H h (.lst ys)):=⟨λb u hb nb=>by rw[ak nb];exact hb,λb Ie hb=>by rw[ak λz=>by rw[z,e]at hb;cases hb];exact hb⟩
theorem iZ {ys:List V}:∀c,H c≠none->upd H h (.lst ys) c≠none:=λc hc=>by
 by_cases z:c=h
 ·rw[z,aj];exact λz=>(nomatch z)
 ·rw[ak z];exact hc
theorem uT {H':Hp}{r:Int}:pC P w true H H' (.int r) (.int r):=eI (W:=λ_=>False) rfl rfl
end
end L2.Q
namespace gZ
open PySem L2 L2.Q
section
variable (K:PySem.W.Frag)(mg:Str->Option UQ)(f:Addr)(fd:VI)
abbrev D0:Prop:=Df K mg "_law_row" fZ ["deck","most"] f fd
abbrev D1:Prop:=Df K mg "_law_take" dq ["deck","many"] f fd
abbrev D2:Prop:=Df K mg "stretches_rising" bE ["many"] f fd
abbrev D3:Prop:=Df K mg "partners_of" cN ["row"] f fd
abbrev D4:Prop:=Df K mg "parts_left" c_ ["i","k","j"] f fd
abbrev D5:Prop:=Df K mg "ways_in" fX ["counts","parts"] f fd
abbrev D6:Prop:=Df K mg "ways_by" fY ["counts","choices","i","j"] f fd
abbrev D7:Prop:=Df K mg "counts_of" dW ["row"] f fd
abbrev D8:Prop:=Df K mg "count_sets" de ["row"] f fd
abbrev D9:Prop:=Df K mg "_law_copied" dc ["row"] f fd
abbrev LJ:Prop:=Df K mg "_law_do_cross" cC ["one","other"] f fd
abbrev Ms:Prop:=Df K mg "_law_fits" eX ["some","tie"] f fd
abbrev PC:Prop:=Df K mg "_law_sets" eV ["row"] f fd
abbrev Mr:Prop:=Df K mg "add_sizes" dX ["sizes","beneath","behind"] f fd
abbrev Pz:Prop:=Df K mg "by_size" f6 ["row"] f fd
abbrev Py:Prop:=Df K mg "_law_counts" da ["row"] f fd
abbrev Mq:Prop:=Df K mg "_law_same" eW ["found","due"] f fd
abbrev Q1:Prop:=Df K mg "_law_right" dU ["row"] f fd
abbrev Q0:Prop:=Df K mg "_law_cell_at" cO ["script","k"] f fd
abbrev T7:Prop:=Df K mg "_law_deck" du ["cell"] f fd
end
section
variable {P:UY}{w:Vc}{K:PySem.W.Frag}{mg:Str->Option UQ}{base:Heap}
theorem qd:aP ["cell"] ["cell"] (az du):=mkS
theorem Ck {f:Addr} {fd:VI} (F:Bg K "_law_deck" "_law_deck" du f fd) (B:Bs mg):aX P w K mg base cy 1 f fd ["cell"] (fk P w true z_):=by
 refine F.ok qd (λvs H Q E h=>?_) (λcV A outer s H vs Q E hr h=>?_)
 ·obtain⟨ds,r,c,rfl,_⟩:=h;obtain⟨x,rr,rfl,_,hr⟩:=r;cases (show rr=[] from hr)
  rfl
 ·obtain⟨ds,r,c,rfl,q⟩:=h;obtain⟨x,rr,rfl,hx,Gx⟩:=r;cases (show rr=[] from Gx)
  cases (show x=V.int c from hx)
  refine⟨_,cF (eY (oJ (aF (cU (nG rfl) (by rfl) B.max t_ (aF aO (aF (bB yZ (pv 0) (bB FK aO aO)) bq)))
   (aF (bB fJ (pv 0) aO) (aF aO bq))))),?_⟩
  refine⟨_,rfl,_,_,rfl,rfl,Jc,_,_,rfl,rfl,_,_,rfl,?_⟩;refine⟨_,rfl,_,_,rfl,rfl,(by show (0:Int)<2147483629;decide),(by show 3<=U8;decide),λp hp=>?_⟩
  refine q [_,_,_] ⟨_,_,_,rfl,?_⟩ _ _ (ay.new hp) ⟨[p],⟨p,_,[],rfl,aj,rfl,k6 [_,_,_]⟩,by simp,λc hc=>by rw[U3.mp hc];exact hp⟩
  split <;> lia
theorem dS:aP ["deck","many","digit","stir"] ["deck","many"] (az dq):=mkS
theorem Cf {f:Addr} {fd:VI} (F:Bg K "_law_take" "_law_take" dq f fd):aX P w K mg base cy 1 f fd ["deck","many"] (sQ P w A5 true dD):=by
 refine F.ok dS (λvs H Q E h=>?_) (λcV A outer s H vs Q E hr h=>?_)
 ·obtain⟨h,vs',ds,ns,rfl,_,_,r,n,rfl,_⟩:=h;obtain⟨x,rr,rfl,_,hr⟩:=r;cases (show rr=[] from hr)
  rfl
 ·obtain⟨h,vs',ds,ns,rfl,e,⟨x,y,z,rfl,x0⟩,r,n,rfl,n0,n1,q⟩:=h;obtain⟨x',rr,rfl,CM,Gx⟩:=r;cases (show rr=[] from Gx)
  cases (show x'=V.int n from CM)
  have hx:H h=some (.lst [.int x,.int y,.int z]):=e;refine⟨_,bN (oF (bB fK (cT bw (pv 0) aO (λ_ _=>rfl)) aO) (s_ (pv 0) aO set_list))
   (bN (uG (jY y6 (cT bw (pv 0) aO (λ_ _=>rfl)) aO (tw _))
    (bN (gH (i:=2) dS.nd rfl (Y_ rfl) (bB fJ (cT bw (pv 0) aO (λ_ _=>rfl)) aO))
    (bN (oF (bB qD (cT bw (pv 0) aO (λ_ _=>rfl)) aO) (s_ (pv 0) aO set_list))
    (cF (eY (bB fJ (pv 2) (pv 1)))))) jZ)
   (bN (gH (i:=3) dS.nd rfl (Y_ rfl) (bB fJ (bB gL (bB fK (cT bw (pv 0) aO (λ_ _=>rfl)) (bB gL aO (cT bw (pv 0) aO (λ_ _=>rfl)))) aO) aO))
   (bN (gH (i:=3) dS.nd rfl (Y_ rfl) (bB fJ (bB gL (pv 3) (pv 3)) aO))
   (cF (eY (bB fJ (bB qD (bB fJ (bB gL (bB fK (pv 3) (bB gL aO (cT bw (pv 0) aO (λ_ _=>rfl)))) aO) aO) aO) (pv 1))))))),?_⟩
  refine⟨_,rfl,h,_,_,_,rfl,rfl,b3.of hx,rfl,_,_,rfl,rfl,?_⟩;refine⟨_,rfl,h,_,_,2,rfl,rfl,hx,rfl,?_⟩;have hy:upd H h (.lst ([V.int x,V.int y,V.int z].set 2 (V.int (z+1)))) h=some (.lst [V.int x,V.int y,V.int (z+1)]):=aj;refine⟨_,rfl,h,_,_,_,rfl,rfl,b3.of hy,rfl,_,_,rfl,rfl,_,rfl,?_⟩;refine JJ (λhp=>?_) (λhp=>?_)
  ·refine⟨_,rfl,h,_,_,_,rfl,rfl,b3.of hy,rfl,_,_,rfl,rfl,(by show (0:Int)<65536;decide),?_⟩
   refine⟨_,rfl,h,_,_,_,rfl,rfl,b3.of hy,rfl,_,_,rfl,rfl,sg.of (by decide) (by decide),?_⟩
   refine⟨_,rfl,h,_,_,0,rfl,rfl,hy,rfl,?_⟩;have m:=oT (a:=x % 65536) n0;exact⟨_,rfl,_,rfl,_,_,rfl,rfl,n0,q _ m.1 m.2 _ _ [x / 65536,y,z+1] ((sX hx).trans (sX hy)) (λc hc=>iZ c (iZ c hc)) aj ⟨_,_,_,rfl,Int.ediv_nonneg x0 (by decide)⟩ uT⟩
  ·refine⟨_,rfl,h,_,_,_,rfl,rfl,b3.of hy,rfl,_,rfl,h,_,_,_,rfl,rfl,b3.of hy,rfl,_,_,rfl,rfl,.inl ⟨by decide,by decide⟩,_,_,rfl,rfl,_,_,rfl,rfl,.inr ⟨by decide,by decide⟩,_,_,rfl,rfl,(by show (0:Int)<2147483647;decide),?_⟩
   have m1:=oT (a:=(y+7919*(z+1))*48271) (b:=2147483647) (by decide)
   refine⟨_,rfl,_,rfl,_,_,rfl,rfl,.inl ⟨Int.lt_of_lt_of_le (by decide) m1.1,Int.lt_trans m1.2 (by decide)⟩,_,_,rfl,rfl,(by show (0:Int)<2147483629;decide),?_⟩
   refine⟨_,rfl,_,rfl,h,_,_,_,rfl,rfl,b3.of hy,rfl,_,_,rfl,rfl,.inl ⟨by decide,by decide⟩,_,_,rfl,rfl,_,_,rfl,rfl,.inr ⟨by decide,by decide⟩,_,_,rfl,rfl,(by show (0:Int)<2147483563;decide),_,_,rfl,rfl,sg.of (by decide) (by decide),_,rfl,_,_,rfl,rfl,n0,?_⟩
   have m:=λa:Int=>oT (a:=a) n0;exact q _ (m _).1 (m _).2 _ _ [x,y,z+1] (sX hx) iZ aj ⟨_,_,_,rfl,x0⟩ uT
end
end gZ
namespace L2
open PySem PySem.Spec PyProof.Rows
section
variable {κ:Type}[DecidableEq κ]
def eP (kvs:List (κ×V))(k:κ):Option V:=(kvs.find? λkv=>decide (kv.1=k)).map (·.2)
def putK (kvs:List (κ×V))(k:κ)(v:V):List (κ×V) :=
 if (kvs.any λkv=>decide (kv.1=k))=true then kvs.map (λkv=>if kv.1=k then (kv.1,v) else kv) else kvs++[(k,v)]
theorem kc {p:κ×V}{r:List (κ×V)}{k:κ}(e:p.1=k):eP (p::r) k=some p.2:=by simp[eP,Wo,e]
theorem ke {p:κ×V}{r:List (κ×V)}{k:κ}(e:¬ p.1=k):eP (p::r) k=eP r k:=by simp[eP,Wo,e]
theorem kg (k:κ):∀kvs:List (κ×V),(kvs.any λkv=>decide (kv.1=k))=(eP kvs k).isSome
 |[]=>rfl
 |p::r=>by
  rw[List.any_cons]
  by_cases e:p.1=k
  ·simp only[kc e,decide_eq_true e,Bool.true_or,Option.isSome_some]
  ·rw[ke e,decide_eq_false e,Bool.false_or];exact kg k r
theorem jF (kvs:List (κ×V))(k:κ)(v:V):(putK kvs k v).length<=kvs.length+1:=by
 unfold putK
 split
 ·rw[UR];lia
 ·rw[U_,Ve,XM];lia
theorem yz {kvs:List (κ×V)}{k:κ}(v:V)(h:eP kvs k=none):putK kvs k v=kvs++[(k,v)]:=by
 unfold putK;rw[kg,h];exact if_neg (by decide)
theorem l4.wL {o:Option V}{u:Option UQ}(r:l4 o u):o.isSome=u.isSome:=by
 cases o with
 |none=>cases u with
  |none=>rfl
  |some _=>exact(show False from r).elim
 |some _=>cases u with
  |none=>exact(show False from r).elim
  |some _=>rfl
theorem KV.val {kvs:List (κ×V)}{vs:List (κ×UQ)}(r:KV kvs vs)(k:κ):l4 (eP kvs k) (YD vs k):=by
 unfold KV at r
 induction r with
 |nil=>exact Ww
 | @cons p q ps qs h t ih =>
  obtain⟨h1,h2⟩:=h
  by_cases e:p.1=k
  ·have e':q.1=k:=h1.symm.trans e;have b:YD (q::qs) k=some q.2:=by simp[YD,Wo,e']
   rw[kc e,b];exact h2
  ·have e':¬ q.1=k:=λz=>e (h1.trans z);have b:YD (q::qs) k=YD qs k:=by simp[YD,Wo,e']
   rw[ke e,b];exact ih
theorem KV.any {kvs:List (κ×V)}{vs:List (κ×UQ)}(r:KV kvs vs)(k:κ):(kvs.any λkv=>decide (kv.1=k))=vs.any λkv=>decide (kv.1=k):=by
 unfold KV at r
 induction r with
 |nil=>rfl
 |cons h t ih=>rw[List.any_cons,List.any_cons,ih,h.1]
theorem KV.Fn {kvs:List (κ×V)}{vs:List (κ×UQ)}(r:KV kvs vs)(k:κ){y:V}{u:UQ}(ry:RelV y u):
  KV (kvs.map λkv=>if kv.1=k then (kv.1,y) else kv) (vs.map λkv=>if kv.1=k then (kv.1,u) else kv):=by
 unfold KV at r ⊢
 induction r with
 |nil=>exact .nil
 | @cons p q ps qs h t ih =>
  rw[Vj,Vj];refine .cons ?_ ih;obtain⟨h1,h2⟩:=h
  by_cases e:p.1=k
  ·rw[if_pos e,if_pos (h1.symm.trans e)];exact⟨h1,ry⟩
  ·rw[if_neg e,if_neg (λz=>e (h1.trans z))];exact⟨h1,h2⟩
theorem KV.put {kvs:List (κ×V)}{vs:List (κ×UQ)}(r:KV kvs vs)(k:κ){y:V}{u:UQ}(ry:RelV y u):KV (putK kvs k y) (stored vs k u):=by
 unfold putK stored;rw[r.any k]
 by_cases e:(vs.any λkv=>decide (kv.1=k))=true
 ·rw[if_pos e,if_pos e];exact r.Fn k ry
 ·rw[if_neg e,if_neg e];exact Paired.snoc r ⟨rfl,ry⟩
theorem KV.length {kvs:List (κ×V)}{vs:List (κ×UQ)}(r:KV kvs vs):kvs.length=vs.length:=Paired.length r
end
theorem zC {P:UY}{w:Vc}{k:Key}{u:UQ}(r:RelV (kV k) u):(bV P w).is k u=true:=by
 cases k with
 |inl i=>obtain⟨t,e⟩:=(show ∃t,u=Value.int i t from r);subst e;exact qJ P w i t
 |inr x=>obtain⟨t,e⟩:=(show ∃t,u=Value.str x t from r);subst e;exact qI P w x t
theorem m7 {P:UY}{w:Vc}:∀{ks:List Key} {us:List UQ},Vals (ks.map kV) us->ItemsAre (bV P w) ks us
 |[],_,r=>by rw[Yb]at r;cases r;exact .nil
 |k::ks,_,r=>by
  rw[Vj]at r;cases r with
  |cons h t=>exact .cons (zC h) (m7 t)
abbrev KT (H:Hp):List (List Key×V)->List (List Key×Addr×UQ)->Prop:=Paired λp q=>p.1=q.1/\H q.2.1=some (.tup (p.1.map kV))/\RelV p.2 q.2.2
theorem KT.val {H:Hp}{kvs:List (List Key×V)}{xs:List (List Key×Addr×UQ)}(r:KT H kvs xs)(k:List Key):l4 (eP kvs k) ((Y9 xs k).map (·.2)):=by
 induction r with
 |nil=>exact Ww
 | @cons p q ps qs h t ih =>
  obtain⟨h1,_,h2⟩:=h
  by_cases e:p.1=k
  ·have e':q.1=k:=h1.symm.trans e;have b:Y9 (q::qs) k=some q.2:=by simp[Y9,Wo,e']
   rw[kc e,b];exact h2
  ·have e':¬ q.1=k:=λz=>e (h1.trans z);have b:Y9 (q::qs) k=Y9 qs k:=by simp[Y9,Wo,e']
   rw[ke e,b];exact ih
theorem KT.Fn {H:Hp}{kvs:List (List Key×V)}{xs:List (List Key×Addr×UQ)}(r:KT H kvs xs)(k:List Key){y:V}{u:UQ}(ry:RelV y u):
  KT H (kvs.map λkv=>if kv.1=k then (kv.1,y) else kv) (xs.map (putAt k u)):=by
 induction r with
 |nil=>exact .nil
 | @cons p q ps qs h t ih =>
  rw[Vj,Vj];refine .cons ?_ ih;obtain⟨h1,h2,h3⟩:=h;unfold putAt
  by_cases e:p.1=k
  ·rw[if_pos e,if_pos (h1.symm.trans e)];exact⟨h1,h2,ry⟩
  ·rw[if_neg e,if_neg (λz=>e (h1.trans z))];exact⟨h1,h2,h3⟩
theorem KT.put {H:Hp}{kvs:List (List Key×V)}{xs:List (List Key×Addr×UQ)}(r:KT H kvs xs)(k:List Key){b:Addr}{y:V}{u:UQ}(hb:H b=some (.tup (k.map kV)))(ry:RelV y u):
  KT H (putK kvs k y) (storedH xs k b u):=by
 have e:(kvs.any λkv=>decide (kv.1=k))=(Y9 xs k).isSome:=by
  rw[kg,(r.val k).wL,Option.isSome_map]
 unfold putK storedH;rw[e]
 by_cases q:(Y9 xs k).isSome=true
 ·rw[if_pos q,if_pos q];exact r.Fn k ry
 ·rw[if_neg q,if_neg q];exact Paired.snoc r ⟨rfl,hb,ry⟩
theorem KT.keeps {H H':Hp}{kvs:List (List Key×V)}{xs:List (List Key×Addr×UQ)}(r:KT H kvs xs)(ht:∀b ys,H b=some (.tup ys)->H' b=some (.tup ys)):KT H' kvs xs :=
 Paired.F2 r λ_ _ z=>⟨z.1,ht _ _ z.2.1,z.2.2⟩
section
variable {P:UY}{w:Vc}{H:Hp}{h:Heap}{a:Addr}
theorem DJ {u:HO}(ok:gW P w H h)(e:Rd H a u):a6 P w H h a u:=e.ok ok
theorem Ak {kvs:List (Key×V)}(ok:gW P w H h)(e:Rd H a (.dK kvs)):kvs.length<=U8/\(a==WM)=false/\∃vs,KV kvs vs/\h.DictOf (bV P w) a vs :=
 show a6 P w H h a (.dK kvs) from DJ ok e
theorem Ll {kvs:List (Key×V)}(ok:gW P w H h)(e:H a=some (.dK kvs)):kvs.length<=U8/\(a==WM)=false/\∃vs,KV kvs vs/\h.DictOf (bV P w) a vs:=Ak ok (.inl e)
theorem tK {ks:List Key}(ok:gW P w H h)(e:H a=some (.tup (ks.map kV))):(Yr (bV P w)).is h ks a:=by
 obtain⟨_,its,r,o,h1,h2,n,h3⟩:=(show a6 P w H h a (.tup (ks.map kV)) from ok a _ e)
 exact⟨o,its.toArray,n,h1,h2,h3,by simpa using m7 r⟩
theorem Ah {kvs:List (List Key×V)}(ok:gW P w H h)(e:Rd H a (.dT kvs)):kvs.length<=U8/\(a==WM)=false /\
  ∃xs,KT H kvs xs/\h.DictOfH (Yr (bV P w)) a xs:=by
 obtain⟨z,y,xs,r,o,es,ep,h1,h2,h3,h4,h5⟩:=(show a6 P w H h a (.dT kvs) from DJ ok e)
 refine⟨z,y,xs,r,o,es,ep,h1,h2,h3,h4,λx hx=>?_,h5⟩;have all:∀{l:List (List Key×V)} {m:List (List Key×Addr×UQ)},KT H l m->∀x∈m,(Yr (bV P w)).is h x.1 x.2.1:=by
  intro l m q
  induction q with
  |nil=>intro x hx;exact nomatch hx
  | @cons p q ps qs hq t ih =>
   intro x hx;rcases UW.mp hx with e|hx
   ·subst e;exact tK ok (by rw[<- hq.1];exact hq.2.1)
   ·exact ih x hx
 exact all r x hx
theorem Lj {kvs:List (List Key×V)}(ok:gW P w H h)(e:H a=some (.dT kvs)):kvs.length<=U8/\(a==WM)=false /\
  ∃xs,KT H kvs xs/\h.DictOfH (Yr (bV P w)) a xs:=Ah ok (.inl e)
end
def xt (H:Hp)(a:Addr)(y:V)(r:Option V):Prop :=
 (∃kvs k,Rd H a (.dK kvs)/\y=kV k/\r=eP kvs k)\/∃kvs k b,Rd H a (.dT kvs)/\y=.ref b/\H b=some (.tup (k.map kV))/\r=eP kvs k
def LI (H:Hp)(a:Addr)(y v:V)(H':Hp):Prop :=
 (∃kvs k,H a=some (.dK kvs)/\y=kV k/\kvs.length<U8/\H'=upd H a (.dK (putK kvs k v))) \/
 ∃kvs k b,H a=some (.dT kvs)/\y=.ref b/\H b=some (.tup (k.map kV))/\kvs.length<U8/\H'=upd H a (.dT (putK kvs k v))
theorem xt.t {H:Hp}{a b:Addr}{kvs:List (List Key×V)}{k:List Key}(e:H a=some (.dT kvs))(eb:H b=some (.tup (k.map kV))):xt H a (.ref b) (eP kvs k):=.inr ⟨kvs,k,b,.inl e,rfl,eb,rfl⟩
section
variable {X:Cx}{pins:List (Addr×Obj)}{σ:St}{H:Hp}{s:UT}{a:Addr}{y v:V}{u r:UQ}{o:Option V}{A:V6}{E:UQ->UT->Prop}
theorem Inv.big (I:Inv X pins σ H s):WM<s.heap.objs.size:=by
 have h:Wt<s.heap.objs.size:=(I.mod.glob.keeps I.bk).lt;exact Nat.lt_trans (by decide) h
theorem w9 {Q:UQ->UT->Prop}(hu:A.units+1<XX)(I:Inv X pins σ H s)(g:xt H a y (some v))(ry:RelV y u)(h:∀w' s',Inv X pins σ H s'->RelV v w'->Q w' s'):
  Vy (model X.prog X.w) A (Y5 (.ref a) u) Q E s:=by
 rcases g with⟨kvs,k,e,ey,l⟩|⟨kvs,k,b,e,ey,eb,l⟩
 ·subst ey;obtain⟨z,hd,vs,rel,dd⟩:=Ak I.bA e;obtain⟨w',hw,yp⟩:=l4.some_of (v:=v) (o:=YD vs k) (by rw[l];exact rel.val k)
  exact wpAny_getItem_of (zC ry) dd.mapOf hw (h w' _ (I.tok _) yp)
 ·subst ey;cases (show u=Value.ref b from ry)
  obtain⟨z,hd,xs,rel,dd⟩:=Ah I.bA e;obtain⟨w',hw,yp⟩:=l4.some_of (v:=v) (o:=(Y9 xs k).map (·.2)) (by rw[l];exact rel.val k)
  obtain⟨p,hp,L4⟩:=Vp.mp hw;refine wpAny_getItem_heap (tupleKind_room_in1 hu) (tK I.bA eb) dd hp ?_;rw[L4];exact h w' _ (I.tok _) yp
theorem vo {h':Heap}{t':Nat}{ob:HO}(I:Inv X pins σ H s)(mu:LF (H a))(hs:XU a s.heap h')(he:∃q,h'.get? a=some q)(new:a6 X.prog X.w (upd H a ob) h' a ob):
  Inv X pins σ (upd H a ob) {s with heap:=h',toks:=t'} :=
 I.write (x:=a) (e:=a) mu (.inl rfl) (λb q hb z=>(hs.2 b hb).trans z) he new
theorem Hc {P:UY}{w:Vc}{H':Hp}{h':Heap}{kvs:List (Key×V)}{vs:List (Key×UQ)}(z:kvs.length<=U8)(hd:(a==WM)=false)(rel:KV kvs vs)(dd:h'.DictOf (bV P w) a vs):
  a6 P w H' h' a (.dK kvs):=⟨z,hd,vs,rel,dd⟩
theorem w6 {H':Hp}{Q:Unit->UT->Prop}(hu:A.units+1<XX)(I:Inv X pins σ H s)(g:LI H a y v H')(ry:RelV y u)(rv:RelV v r)(h:∀s',Inv X pins σ H' s'->Q () s'):
  Vy (model X.prog X.w) A (setItem (.ref a) u r) Q E s:=by
 rcases g with⟨kvs,k,e,ey,l,eH⟩|⟨kvs,k,b,e,ey,eb,l,eH⟩
 ·subst ey eH;obtain⟨z,hd,vs,rel,dd⟩:=Ll I.bA e;have hz:vs.length<=U8:=by rw[<- rel.length];exact z
  have hl:(putK kvs k v).length<=U8:=by have:=jF kvs k v;lia
  refine wpAny_setItem_pairs (hsz:=hz) (zC ry) dd λh' Me hs=>h _ ?_;have he:∃q,h'.get? a=some q:=let ⟨q,_,_,hq,_⟩:=Me;⟨q,hq⟩
  exact vo I (by rw[e];exact Ww) hs he (Hc hl hd (rel.put k rv) Me)
 ·subst ey eH;cases (show u=Value.ref b from ry)
  obtain⟨z,hd,xs,rel,dd⟩:=Lj I.bA e;have hz:xs.length<=U8:=by rw[<- Paired.length rel];exact z
  have hl:(putK kvs k v).length<=U8:=by have:=jF kvs k v;lia
  refine wpAny_setItem_heap (hsz:=hz) (tupleKind_room_in1 hu) (tK I.bA eb) dd λh' Me hs=>h _ ?_;obtain⟨q,es,ep,hq,h2,h3,h4,_,h5⟩:=Me;refine vo I (by rw[e];exact Ww) hs ⟨q,hq⟩ ⟨hl,hd,_,(rel.put k eb rv).keeps λc ys ec=>?_,q,es,ep,hq,h2,h3,h4,h5⟩
  rw[ak (DX ec e (λz=>nomatch z))];exact ec
end
section
end
theorem rH {X:Cx} {pins:List (Addr×Obj)} {σ:St} {H:Hp} {s:UT} {a:Addr} {y:V} {o:Option V} (I:Inv X pins σ H s) (g:xt H a y o):s.TypeIs (.ref a) "dict" := by
 rcases g with⟨kvs,k,e,_,_⟩|⟨kvs,k,b,e,_,_,_⟩
 ·obtain⟨_,_,vs,_,dd⟩:=Ak I.bA e;exact dd.typeIs
 ·obtain⟨_,_,xs,_,dd⟩:=Ah I.bA e;exact dd.typeIs
def IH (td ty tv:TE):TS:=λD σ H=>tv σ H λv H1=>td σ H1 λx H2=>ty σ H2 λy H3=>∃a H4,x=.ref a/\LI H3 a y v H4/\D.nx σ H4
section
variable {X:Cx}{o i value:Expr}{pos pos':Pos}{td ty tv:TE}
theorem uH (hu:X.A.units+1<XX)(ho:PE X o td)(hi:PE X i ty)(hv:PE X value tv)(hs:Wg value (some (.Subscript o i pos')) pos.line X.env=pure false):
  PS X (.Assign [.Subscript o i pos'] value pos) (IH td ty tv):=by
 intro pins s σ H D I h;refine wpAny_Assign_Subscript (bj (hv pins s σ H _ I h) λr s1 ⟨v,H1,I1,rv,q1⟩=>bj (ho pins s1 σ H1 _ I1 q1) λu s2 ⟨x,H2,I2,rx,q2⟩=>bj (hi pins s2 σ H2 _ I2 q2) λiv s3 ⟨y,H3,I3,ry,a,H4,ex,g,q3⟩=>?_) hs;subst ex;obtain rfl:u=Value.ref a:=rx;exact w6 hu I3 g ry rv λs4 I4=>⟨σ,H4,I4,q3⟩
end
theorem Ai {P:UY}{w:Vc}{H:Hp}(h:Heap)(hb:WM<h.objs.size):a6 P w H (h.push {cls:=.type "dict",data:=.dict #[]}) h.objs.size (.dT []) :=
 ⟨Vb _,beq_eq_false_iff_ne.mpr (WO (VT hb)),[],.nil,_,#[],0,VR _ rfl,⟨rfl,rfl,rfl⟩,rfl,rfl,V7⟩
def E4:TE:=λ_ H Q=>∀p,H p=none->Q (.ref p) (upd H p (.dT []))
section
variable {X:Cx}{pos:Pos}
theorem qt:PE X (.Dict [] [] pos) E4:=λpins s σ H Q I h =>
 wpAny_Dict_empty ⟨.ref s.heap.objs.size,_,I.laid (a:=s.heap.objs.size) (o:=.dT []) (t':=s.toks) (λ_ _ q=>Vg _ q) (US _) (Ai s.heap I.big),rfl,h _ (I.bA.fresh (US _))⟩
end
section
end
section
end
section
end
section
end
section
end
section
variable {κ:Type}[DecidableEq κ]
end
end L2
namespace L2.Q
open PySem PySem.Spec PySem.SeqAt PyProof.Rows
theorem _root_.L2.cL.d9 {k:Nat}{A:V6}(r:cL k A):A.units+1<XX:=by have:=r.un;lia
def iK (t:List Int):List Key:=t.map Yt
theorem zJ {t u:List Int}(h:iK t=iK u):t=u:=by
 unfold iK at h
 induction t generalizing u with
 |nil=>cases u with|nil=>rfl|cons _ _=>cases h
 |cons a t ih =>
  cases u with
  |nil=>cases h
  |cons b u =>
   rw[Vj,Vj]at h;injection h with h1 h2
   injection h1 with h1
   rw[h1,ih h2]
theorem u6 (t:List Int):(iK t).map kV=t.map V.int:=by
 unfold iK;rw[V4];rfl
def dP (ts:List (List Int))(b:Bool):D:=.dT (ts.map iK) (U9 ts.length (.bl b))
def rV (ts:List (List Int))(t:List Int):List (List Int):=if t∈ts then ts else ts++[t]
theorem oB {v:V}:∀{ks:List (List Key)} {n:Nat},ks.length=n->ks.zip (U9 n v)=ks.map λk=>(k,v)
 |[],_,_=>by simp
 |k::ks,0,h=>by cases h
 |k::ks,n+1,h=>by
  rw[Wd,WD,oB (XT h)];rfl
theorem BP {v:V}{ts:List (List Int)}{t:List Int}:putK ((ts.map iK).map λk=>(k,v)) (iK t) v=((rV ts t).map iK).map λk=>(k,v):=by
 unfold putK rV;have any:(((ts.map iK).map λk=>(k,v)).any λkv=>decide (kv.1=iK t))=decide (t∈ts):=by
  rw[XO,List.any_eq_true,decide_eq_true_eq];constructor
  ·rintro⟨kv,h1,h2⟩;obtain⟨k,h3,rfl⟩:=Vq.mp h1;obtain⟨u,h4,rfl⟩:=Vq.mp h3;have:=zJ (of_decide_eq_true h2);rw[<- this];exact h4
  ·intro h;exact⟨(iK t,v),Vq.mpr ⟨iK t,Vq.mpr ⟨t,h,rfl⟩,rfl⟩,by simp⟩
 rw[any]
 by_cases h:t∈ts
 ·rw[if_pos (by simpa using h),if_pos h,V4]
  refine VQ λk _=>?_;show (if k=iK t then (k,v) else (k,v))=(k,v)
  split <;> rfl
 ·rw[if_neg (by simpa using h),if_neg h,Vf,Vf]
  rfl
section
variable {P:UY}{w:Vc}{H:Hp}{a:Addr}
theorem uP {b:Bool}:∀{n:Nat},aH P w H (U9 n (.bl b)) (U9 n (V.bl b)) []
 |0=>⟨rfl,rfl⟩
 |n+1=>⟨_,_,[],[],rfl,rfl,⟨rfl,rfl⟩,uP⟩
theorem vw {b:Bool}:∀{n:Nat} {vs:List V} {A:List Addr},aH P w H (U9 n (.bl b)) vs A->vs=U9 n (V.bl b)/\A=[]
 |0,_,_,h=>h
 |n+1,_,_,⟨v,r,A1,A2,e,eA,h1,h2⟩=>by
  obtain⟨e1,e2⟩:=h1;obtain⟨e3,e4⟩:=vw h2;rw[e,eA,e1,e2,e3,e4];exact⟨rfl,rfl⟩
theorem yY {ts:List (List Int)}{b:Bool}(h:H a=some (.dT ((ts.map iK).map λk=>(k,V.bl b)))):Own P w H (dP ts b) (.ref a) [a] :=
 ⟨a,U9 ts.length (V.bl b),[],rfl,by rw[oB (by simp)];exact h,by simp,rfl,uP⟩
theorem Hf {ts:List (List Int)}{b:Bool}{v:V}{A:List Addr}(h:Own P w H (dP ts b) v A):∃a,v=.ref a/\A=[a]/\H a=some (.dT ((ts.map iK).map λk=>(k,V.bl b))):=by
 obtain⟨a,vs,A',e,h1,l,eA,h2⟩:=h;obtain⟨e3,e4⟩:=vw h2;rw[e3,oB (by simp)]at h1
 exact⟨a,e,by rw[eA,e4],h1⟩
end
section
variable {X:Cx}{C:Cfg}{k:Expr}{φk:aM}{i:Nat}{x:Str}{pos pos' px pc:Pos}{b:Bool}
theorem BY (b:Bool):PQ X C true (.Dict [] [] pos) (λβ R=>R (dP [] b) .own β) :=
 ⟨λβ R R' k h=>k _ _ _ h,qt.pre λσ H Q h p hp=>by
  obtain⟨β,own,s,q⟩:=h;refine q _ _ own ((Out.refl s _).same (ay.new hp)) ⟨[p],yY aj,by simp,λc hc=>?_⟩
  rw[U3.mp hc];exact⟨hp,λz=>s.sA p z hp,VF λz=>s.fw p z hp⟩⟩
theorem j4 {j}(hu:X.A.units+1<XX)(hk:PQ X C.z true k φk)(hN:X.N[i]?=some x:=by rfl)(hv:j9 X.env.scope x:=by first|exact .inl rfl|exact .inr (.inl rfl)|exact .inr (.inr rfl))(hd:(x==("__debug__" : Str))=false:=by decide)(c7:(x==("__classdict__" : Str))=false:=by decide)
  (hs:Wg (.Constant (.bool b) j pc) (some (.Subscript (.Name x px) k pos')) pos.line X.env=pure false:=by rfl) :
  PB X C (.Assign [.Subscript (.Name x px) k pos'] (.Constant (.bool b) j pc) pos) (λE β=>(∃ts,β[i]?=some (some (.own (dP ts b))))/\φk β λjd _ β2=>∃ts t,jd=kD t/\β2[i]?=some (some (.own (dP ts b)))/\ts.length<U8/\E.nx (β2.set i (some (.own (dP (rV ts t) b))))):=by
 refine⟨λE E' β l h=>⟨h.1,hk.mono _ _ _ (λjd _ β2 h=>by obtain⟨ts,t,h1,h2,h3,q⟩:=h;exact⟨ts,t,h1,h2,h3,l.nx _ q⟩) h.2⟩,(uH hu (bp (pos:=px) hN hv hd c7) hk.pe (yP (j:=j) (pos:=pc)) hs).pre λDe σ H h=>?_⟩
 obtain⟨Z,E,β,⟨own,s0,n⟩,⟨⟨T9,A9⟩,q⟩,ok⟩:=h;obtain⟨v0,jG,Uh,_⟩:=s0.ow i _ A9;refine⟨v0,jG,tQ.of hk s0 q λjd kk β2 v H1 ao h o r=>?_⟩;obtain⟨ts,t,e1,hb,hl,q⟩:=h;subst e1;obtain⟨v1,u9,ow,h0⟩:=o.sq.ow i _ hb;rw[jG]at u9;cases u9;obtain⟨a,rfl,eA,ha⟩:=Hf ow;obtain⟨p,vs,rfl,hp,rv⟩:=r.rep;have ev:vs=(iK t).map kV:=by
  rw[u6];have key:∀(t:List Int) (vs:List V),af X.prog X.w (av C.z (Wn ao) kk) H1 (t.map D.int) vs->vs=t.map V.int:=λt=>by
   induction t with
   |nil=>intro vs h;exact h
   |cons y t ih =>
    intro vs h;obtain⟨z,r',e1,e2,e3⟩:=h;rw[e1,ih r' e3,show z=V.int y from e2]
    rfl
  exact key t vs rv
 have Ot:a∈ao i:=by rw[eA];simp
 refine⟨a,_,rfl,.inr ⟨_,iK t,p,ha,rfl,by rw[<- ev];exact hp,by rw[UR,UR];exact hl,rfl⟩,?_⟩
 have hA:∀c∈[a],c∈ao i\/(C.H0 c=none/\¬ Wn ao c/\(λ_=>False) c):=λc hc=>.inl (by rw[U3.mp hc];exact Ot)
 have r':Own X.prog X.w (upd H1 a (.dT (putK ((ts.map iK).map λk=>(k,V.bl b)) (iK t) (V.bl b)))) (dP (rV ts t) b) (.ref a) [a]:=yY (by rw[BP];exact aj)
 exact ok.nx _ _ _ ⟨_,o.sq.BQ (C:=C) (U:=λ_=>False) (U2:=λ_=>False) hb jG Ot r' (by simp) hA (λ_ z=>z) (λ_ _ z=>z),gD (C:=C) (n.trans o.sn) (λ_ z=>z.elim) ⟨i,Ot⟩ ⟨_,ha,λxs z=>by cases z⟩ hA⟩ q
end
end L2.Q
namespace Dk
open PySem PySem.Spec PyProof.Rows
def At (h:Heap)(d:Addr)(es:Array XE)(ep:Nat):Prop:=∃o,h.get? d=some o/\o.ExactDict/\o.data=.dict es ep
theorem At.at' {h h':Heap}{d:Addr}{es:Array XE}{ep:Nat}(x:At h d es ep)(e:∀o,h.get? d=some o->h'.get? d=some o):At h' d es ep:=by
 obtain⟨o,h1,r⟩:=x;exact⟨o,e _ h1,r⟩
theorem At.lt {h:Heap}{d:Addr}{es:Array XE}{ep:Nat}(x:At h d es ep):d<h.objs.size:=by
 obtain⟨o,h1,_⟩:=x;exact Vn h1
theorem At.typeIs {s:UT} {d:Addr} {es:Array XE} {ep:Nat} (x:At s.heap d es ep):s.TypeIs (.ref d) "dict" := by
 obtain⟨o,h1,h2,_⟩:=x;exact⟨o,h1,h2.1⟩
section
variable {prog:UY}{w:Vc}{A:V6}{E:UQ->UT->Prop}{s:UT}{d it:Addr}{es:Array XE}{i ep:Nat}
theorem wJ {Q:UQ->UT->Prop}(hd:(d==WM)=false)(hm:At s.heap d es ep)
  (hQ:Q (.ref s.heap.objs.size) {s with heap:=s.heap.push {cls:=.type "dict_keyiterator",data:=.fields #[.ref d,.int 0 0,.int es.size 0,.int ep 0]}}):Vy (model prog w) A (Y7 (.ref d)) Q E s:=by
 have hT:=hm.typeIs;obtain⟨o,ho,hc,K8⟩:=id hm;refine wpAny_pyIter_slot hT F.slot_dict_iter (X4 F.slot_dict_iter hT F.entry_dict_iter ?_ (F.args_dict_iter_1 _));unfold YL.«dict.__iter__»
 refine UU ?_;unfold Builtin.Dict.dictSlotNone;refine UU (wpAny_notOrdered_dict hT ?_);show Vy _ _ (pure (Value.ref d)) _ _ s;refine Vl ?_;show Vy _ _ (Builtin.Dict.showsAll d >>= _) _ _ s;unfold Builtin.Dict.showsAll;rw[if_neg (by rw[hd];exact VE)]
 refine UU (Vl ?_);refine UU (YC ho K8 ?_);refine UU (YV ho K8 ?_);refine UU (XZ (Vl ⟨_,rfl,"dict_keyiterator",_,⟨_,VR _ rfl,rfl⟩,F.slot_dict_keyiterator_next.lookup,?_⟩));simpa[rawInt] using hQ
theorem next_item {Q:Option UQ->UT->Prop}(hit:s.heap.IsKeyIter it d i es.size ep)(hm:At s.heap d es ep)(Ou:i<es.size)
  (hQ:∀h',h'.IsKeyIter it d (i+1) es.size ep->XU it s.heap h'->Q (some es[i].key) {s with heap:=h'}):Vy (model prog w) A (Y6 (.ref it)) Q E s:=by
 obtain⟨o,ho,hc,hd⟩:=id hit;obtain⟨od,KU,c7,K7⟩:=id hm;unfold Y6;refine UU (wpAny_attempt (wpAny_callSpecial?_slot (name:=Str.ofString "__next__") hit.typeIs F.slot_dict_keyiterator_next
  (X4 F.slot_dict_keyiterator_next hit.typeIs F.entry_dict_keyiterator_next ?_ (F.args_dict_keyiterator_next_1 _))))
 refine UU (Vl ?_);refine UU ?_;refine UU ?_
 first|refine UU (WU hit.typeIs (Vl ?_))|refine UU (Xf hit.typeIs (Vl ?_))
 refine UU (wpAny_fieldsOf ho hd ?_);have GQ:Y2 "dict_keyiterator" = false:=by decide
 simp only[GQ,Xo,if_false];show Vy _ _ (if (Value.ref d==Value.none)=true then _ else _) _ _ s
 rw[if_neg (show ¬ ((Value.ref d==Value.none)=true) from VE)]
 refine UU (Vl ?_);refine UU (YC KU K7 ?_);rw[if_neg (by simp)]
 refine UU (Vl ?_);refine UU (YV KU K7 ?_);rw[if_neg (by simp)]
 refine Vl ?_;simp only[show ¬ ((i:Int)<0) from by lia,if_false,WL,Array.getElem?_eq_getElem Ou]
 refine UU ?_
 first|refine UU (WU hit.typeIs (Vl ?_))|refine UU (Xf hit.typeIs (Vl ?_))
 refine UU (wpAny_isOneOf_keyiter hit.typeIs ?_);show Vy _ _ (setField (.ref it) 1 (rawInt ((i:Int)+1)) >>= _) _ _ s;refine UU (wpAny_setField ho hd (by simp) ?_)
 have CQ:(s.heap.update it (Obj.mapFields (·.setIfInBounds 1 (rawInt ((i:Int)+1))))).IsKeyIter it d (i+1) es.size ep :=
  ⟨_,Heap.get?_update_self _ ho (Obj.isFreed_of_fields (Obj.data_mapFields hd _)),(Obj.cls_mapFields ..).trans hc,by rw[Obj.data_mapFields hd];simp[rawInt]⟩
 refine UU (Xh ?_);refine UU (wpAny_isOneOf_keyiter (s:={s with heap:=s.heap.update it (Obj.mapFields (·.setIfInBounds 1 (rawInt ((i:Int)+1))))}) CQ.typeIs ?_)
 show Vy _ _ (pure es[i].key) _ _ _;exact Vl (Vl ⟨_,rfl,Vl (hQ _ CQ (Heap.SameBut.update ..))⟩)
end
section
variable {prog:UY}{w:Vc}{A:V6}{E:UQ->UT->Prop}{s:UT}{d it:Addr}{es:Array XE}{i ep:Nat}
theorem next_end {Q:Option UQ->UT->Prop}(hh:A.handled=none)(hit:s.heap.IsKeyIter it d i es.size ep)(hm:At s.heap d es ep)(QA:es.size<=i)
  (hQ:∀h',Heap.ExtBut it s.heap h'->Q none {s with heap:=h'}):Vy (model prog w) A (Y6 (.ref it)) Q E s:=by
 obtain⟨o,ho,hc,hd⟩:=id hit;obtain⟨od,KU,c7,K7⟩:=id hm;unfold Y6;refine UU (wpAny_attempt (wpAny_callSpecial?_slot (name:=Str.ofString "__next__") hit.typeIs F.slot_dict_keyiterator_next
  (X4 F.slot_dict_keyiterator_next hit.typeIs F.entry_dict_keyiterator_next ?_ (F.args_dict_keyiterator_next_1 _))))
 refine UU (Vl ?_);refine UU ?_;refine UU ?_
 first|refine UU (WU hit.typeIs (Vl ?_))|refine UU (Xf hit.typeIs (Vl ?_))
 refine UU (wpAny_fieldsOf ho hd ?_);have GQ:Y2 "dict_keyiterator" = false:=by decide
 simp only[GQ,Xo,if_false];show Vy _ _ (if (Value.ref d==Value.none)=true then _ else _) _ _ s
 rw[if_neg (show ¬ ((Value.ref d==Value.none)=true) from VE)]
 refine UU (Vl ?_);refine UU (YC KU K7 ?_);rw[if_neg (by simp)]
 refine UU (Vl ?_);refine UU (YV KU K7 ?_);rw[if_neg (by simp)]
 refine Vl ?_;simp only[show ¬ ((i:Int)<0) from by lia,if_false,WL,Xz QA]
 refine UU ?_
 first|refine UU (WU hit.typeIs (Vl ?_))|refine UU (Xf hit.typeIs (Vl ?_))
 show Vy _ _ (setField (.ref it) 0 .none >>= _) _ _ s;refine UU (wpAny_setField ho hd (by simp) ?_)
 show Vy _ _ (newExc (.type "StopIteration") [] >>= _) _ _ _;refine UU ?_;simp only[newExc,newTuple];refine UU (XZ ?_ (by size_fits))
 refine UU (m:=firstArgMember _ _) (wpAny_of_eq (a:=Value.none) (by first|rfl|(simp only[firstArgMember];rfl)) ?_)
 refine XZ ?_ (by size_fits)
 simp only[raiseNew];refine UU (wpAny_handled ?_);rw[show A.in1.handled=none from hh]
 refine UU (Vl (wpAny_throw ?_));refine UU (wpAny_isInstance (T:="StopIteration") (b:=true) ⟨_,VR _ rfl,rfl⟩ isSubtype_stop ?_);exact Vl (hQ _ (((Heap.SameBut.update ..).extBut.push _).push _))
theorem walks (hh:A.handled=none)(I d:Addr)(tT:d≠I)(es:Array XE)(ep:Nat):
  Walks prog w A I [I,d] [I] es.size (λi v=>∃h:i<es.size,v=es[i].key) (λi h=>h.IsKeyIter I d i es.size ep/\At h d es ep) where
 sub:=λb hb=>by simp at hb;simp[hb]
 frame:=λ_ _ _ st hk=>⟨st.1.at λo e=>hk I (by simp) o e,st.2.at' λo e=>hk d (by simp) o e⟩
 item:=λi s Q E hi st hQ=>by
  refine next_item st.1 st.2 hi λh' CQ HP=>?_;exact hQ _ h' s.toks ⟨hi,rfl⟩ ⟨CQ,st.2.at' λo e=>HP.extBut d o tT e⟩ λb o hb e=>HP.extBut b o (λh=>hb (by simp[h])) e
 done:=λs Q E st hQ=>next_end hh st.1 st.2 (US _) λh' SY=>hQ h' s.toks λb o hb e=>SY b o (λh=>hb (by simp[h])) e
 self:=λ_ _ _ _ st hQ=>wpAny_pyIter_keyiter st.1 hQ
theorem src (lo:(d==WM)=false):PySem.W.KdlSrc prog w "dict" d d es.size (λi v=>∃h:i<es.size,v=es[i].key) (λh=>At h d es ep) where
 type:=λ_ hm=>hm.typeIs
 there:=λ_ hm=>⟨hm.lt,hm.lt⟩
 keep:=λ_ _ hm hk=>hm.at' λo e=>hk d (.inl rfl) o e
 notList:=by decide
 notTuple:=by decide
 hint:=λ_ _ _ _ hm hq=>PySem.W.kdl_hint_dict hm.typeIs hq
 iter:=λ_ _ hh hm=>⟨_,_,(λ_ _ hq=>wJ lo hm hq),walks hh _ d (VT hm.lt) es ep,⟨⟨_,VR _ rfl,rfl,rfl⟩,hm.at' λo e=>Vg _ e⟩⟩
theorem pj {R:List UQ->UT->Prop}(lo:(d==WM)=false)(hm:At s.heap d es ep)(hn:es.size<=U8)(hh:A.handled=none)
  (h:∀(h':Heap) (tk:Nat),(∀b o,s.heap.get? b=some o->h'.get? b=some o)->R (es.toList.map (·.key)) {s with heap:=h',toks:=tk}):Vy (model prog w) A (collect (.ref d)) R E s:=by
 refine PySem.W.kdu_collect (src (es:=es) (ep:=ep) lo) hh hm hn λh' tk acc hk Lb=>?_;have e:acc.toList=es.toList.map (·.key):=by
  apply WK;intro i;rw[Vd,Vo,Vo]
  by_cases hi:i<acc.size
  ·obtain⟨g1,g2⟩:=Lb.2 i acc[i] (getElem?_pos acc i hi);rw[getElem?_pos acc i hi,getElem?_pos es i g1,g2];rfl
  ·have:=Lb.1;rw[Xz (by lia),Xz (by lia)]
   rfl
 rw[e];exact h h' tk hk
end
end Dk
namespace L2.Q
open PySem PySem.Spec PySem.SeqAt PyProof.Rows HT
noncomputable def Bl:List Key->Option (List Int)
 |[]=>some []
 |.inl i::r=>(Bl r).map (i::·)
 |.inr _::_=>none
noncomputable def l9:List (List Key)->Option (List (List Int))
 |[]=>some []
 |k::r=>match Bl k,l9 r with
  |some t,some ts=>some (t::ts)
  |_,_=>none
theorem xP:∀t:List Int,Bl (iK t)=some t
 |[]=>rfl
 |i::t=>by
  show (Bl (iK t)).map (i::·)=_;rw[xP t];rfl
theorem pO:∀ts:List (List Int),l9 (ts.map iK)=some ts
 |[]=>rfl
 |t::ts=>by
  show (match Bl (iK t),l9 (ts.map iK)with|some t,some ts=>some (t::ts)|_,_=>none)=_
  rw[xP,pO ts]
theorem xQ:∀{k:List Key} {t:List Int},Bl k=some t->k=iK t
 |[],t,h=>by cases h;rfl
 |.inl i::r,t,h=>by
  obtain⟨u,h1,h2⟩:=Vp.mp (show (Bl r).map (i::·)=some t from h)
  rw[<- h2,xQ h1];rfl
 |.inr _::_,t,h=>by cases h
theorem ui:∀{ks:List (List Key)} {ts:List (List Int)},l9 ks=some ts->ks=ts.map iK
 |[],ts,h=>by cases h;rfl
 |k::r,ts,h=>by
  have h:(match Bl k,l9 r with|some t,some ts=>some (t::ts)|_,_=>none)=some ts:=h
  cases h1:Bl k with
  |none=>rw[h1]at h;cases h
  |some t =>
   cases h2:l9 r with
   |none=>rw[h1,h2]at h;cases h
   |some us =>
    rw[h1,h2]at h;cases h;rw[xQ h1,ui h2];rfl
noncomputable def Al:List D->Option D
 |[.dT ks _]=>match l9 ks with
  |some ts=>if ts.length<=1000/\(∀k∈ts,k≠[]) then some (.lst ((jw ts).map kD)) else none
  |none=>none
 |_=>none
theorem BE {ts:List (List Int)}{b:Bool}(h:∀k∈ts,k≠[])(l:ts.length<=1000):Al [dP ts b]=some (.lst ((jw ts).map kD)):=by
 show (match l9 (ts.map iK)with|some ts=>if ts.length<=1000/\(∀k∈ts,k≠[]) then some (D.lst ((jw ts).map kD)) else none|none=>none)=_
 rw[pO];exact if_pos ⟨l,h⟩
theorem u3 {H:Hp}:∀{ts:List (List Int)} {vs:List V} {xs:List (List Key×Addr×UQ)},(ts.map iK).length=vs.length ->
  Paired (λ(p:List Key×V) (q:List Key×Addr×UQ)=>p.1=q.1/\H q.2.1=some (.tup (p.1.map kV))/\RelV p.2 q.2.2) ((ts.map iK).zip vs) xs->∃us:List (Addr×List Int),xs.map (λq=>Value.ref q.2.1)=us.map (λx=>Value.ref x.1)/\us.map (·.2)=ts/\∀u∈us,H u.1=some (.tup (u.2.map V.int))
 |[],vs,xs,_,p=>by cases p;exact⟨[],rfl,rfl,λ_ z=>(nomatch z)⟩
 |t::ts,[],xs,l,p=>by cases l
 |t::ts,v::vs,xs,l,p=>by
  cases p with
  |cons h r =>
   obtain⟨us,h1,h2,h3⟩:=u3 (XT l) r
   rename_i q Ie
   refine⟨(q.2.1,t)::us,by rw[Vj,Vj,h1],by rw[Vj,h2],λu hu=>?_⟩
   rcases UW.mp hu with rfl|hu
   ·have:=h.2.1;rw[u6]at this;exact this
   ·exact h3 u hu
theorem pq {X:Cx} (hc:X.calm=true):AX X (.builtin "sorted") Al:=by
 intro pins s σ H xs T8 Q I r h;obtain⟨W,ds,d,hd,r1,e,q⟩:=h
 match ds,e with
 |[.dT ks fs],e =>
  have e:(match l9 ks with|some ts=>if ts.length<=1000/\(∀k∈ts,k≠[]) then some (D.lst ((jw ts).map kD)) else none|none=>none)=some d:=e
  cases hk:l9 ks with
  |none=>rw[hk]at e;cases e
  |some ts =>
   rw[hk]at e;obtain⟨⟨hl,tT⟩,rfl⟩:=fb e;have:=ui hk;subst this;obtain⟨x,rfl,p,vs,rfl,hp,SI,nW,rs⟩:=lZ r1;obtain⟨u,rfl,rx⟩:=vals1 r;cases rx;obtain⟨z,y,Ie,pr,o,es,ep,h1,h2,h3,h4,h5⟩:=(show a6 X.prog X.w H s.heap p (.dT ((ts.map iK).zip vs)) from I.bA p _ hp)
   obtain⟨us,eu,ek,T⟩:=u3 SI pr;have T2:Ht H us:=λt ht=>⟨T t ht,tT _ (by rw[<- ek];exact Vq.mpr ⟨t,ht,rfl⟩)⟩
   have ul:us.length=ts.length:=by rw[<- ek,UR]
   have ev:es.toList.map (·.key)=us.map λx=>Value.ref x.1:=by
    rw[h4,V4,<- eu];rfl
   have Tn:es.size=us.length:=by
    have:=congrArg List.length ev;rw[UR,UR,Vs]at this;exact this
   refine TS.sR (vs:=us.map λx=>Value.ref x.1) (kf:=wG H) (by rw[UR];lia) (λR hR=>Dk.pj (es:=es) (ep:=ep) y ⟨o,h1,h2,h3⟩ (by rw[Tn,ul,Wl];lia) (by simp[I.ok.hd hc]) λh' tk kp=>by rw[ev];exact hR h' tk kp) (Bn I.bA T2 (US _)) λout wU h' tk n Ei hs k1 kp CO=>?_
   ·obtain⟨e1,e2⟩:=v_ T2 Ei;have zl:out.length=us.length:=by rw[Ei.length_eq,UR]
    have eq:(out.map (G5 H)).map (·.2)=jw ts:=by
     refine E_ (by rw[<- ek];exact e2.map _) ?_
     refine Wj.mpr (Wj.mpr ?_);refine hs.imp_of_mem λ{x y} hx hy hh=>?_;obtain⟨t,ht,rfl⟩:=Vq.mp (Ei.mem_iff.mp hx);obtain⟨t',Up,rfl⟩:=Vq.mp (Ei.mem_iff.mp hy);exact hh
    have I1:Inv X pins σ H {s with heap:=wU,toks:=s.toks}:=I.kept k1
    have OI:H wU.objs.size=none:=I1.bA.fresh (US _);have rk:af X.prog X.w W H ((jw ts).map kD) ((out.map (G5 H)).map Bv):=by rw[<- eq];exact mS λt ht=>(T2 t (e2.mem_iff.mp ht)).1
    refine⟨.ref wU.objs.size,_,I1.laid (t':=tk) (o:=.lst ((out.map (G5 H)).map Bv)) kp (US _) ?_,rfl,q _ _ (ay.new OI) (Rp.i_ hd OI rk) λf=>wt OI f rk⟩;refine⟨by rw[UR,UR,zl,ul,Wl];lia,out,n,?_,CO⟩
    have:=mT (out.map (G5 H));rw[<- e1]at this;exact this
end L2.Q
namespace L2
open PySem PySem.Spec PySem.SeqAt PyProof.Rows
theorem Ay:VO "sum" = some (.builtin "sum"):=by decide +kernel
def D.int?:D->Option Int
 |.int i=>some i
 |_=>none
def D.CB:D->Option (List D)
 |.lst ds=>some ds
 |_=>none
theorem D.oZ {d:D}{i:Int}(h:d.int?=some i):d=.int i:=by
 cases d <;> first|(cases h;rfl)|cases h
theorem D.oV {d:D}{ds:List D}(h:d.CB=some ds):d=.lst ds:=by
 cases d <;> first|(cases h;rfl)|cases h
noncomputable def jM:List D->Option (List Int)
 |[]=>some []
 |d::ds=>d.int?.bind λi=>(jM ds).map (i::·)
theorem lT:∀{ds:List D} {ns:List Int},jM ds=some ns->ds=ns.map D.int
 |[],_,h=>by cases h;rfl
 |d::ds,ns,h=>by
  obtain⟨i,h1,h2⟩:=VZ.mp h;obtain⟨ms,h3,rfl⟩:=Vp.mp h2;rw[D.oZ h1,lT h3];rfl
theorem jj:∀ns:List Int,jM (ns.map D.int)=some ns
 |[]=>rfl
 |n::ns=>by
  show (some n).bind (λi=>(jM (ns.map D.int)).map (i::·))=_;rw[jj ns];rfl
noncomputable def ff (f:List Int->Option Int):List D->Option D
 |[d]=>d.CB.bind λds=>(jM ds).bind λns=>(f ns).map D.int
 |_=>none
theorem lR {f:List Int->Option Int}{ds:List D}{d:D}(h:ff f ds=some d):∃ns i,ds=[.lst (ns.map D.int)]/\f ns=some i/\d=.int i:=by
 cases ds with
 |nil=>cases h
 |cons x r =>
  cases r with
  |cons _ _=>cases h
  |nil =>
   obtain⟨es,h1,h2⟩:=VZ.mp h;obtain⟨ns,h3,h4⟩:=VZ.mp h2;obtain⟨i,h5,rfl⟩:=Vp.mp h4;exact⟨ns,i,by rw[D.oV h1,lT h3],h5,rfl⟩
theorem gR {f:List Int->Option Int}{ns:List Int}{i:Int}(h:f ns=some i):ff f [.lst (ns.map D.int)]=some (.int i):=by
 show (some (ns.map D.int)).bind (λds=>(jM ds).bind λns=>(f ns).map D.int)=_;rw[X6,jj,X6,h];rfl
def wy:List Int->Option Int
 |[]=>none
 |n::ns=>some (ns.foldl max n)
theorem dB:∀(ns:List Int) (n:Int),(ns.foldl max n∈n::ns)/\∀x∈n::ns,x<=ns.foldl max n
 |[],n=>⟨by simp,λx hx=>by simp at hx;rw[hx];exact Yq _⟩
 |m::ns,n=>by
  obtain⟨h1,h2⟩:=dB ns (max n m);have hm:max n m<=ns.foldl max (max n m):=h2 _ (by simp)
  refine⟨?_,λx hx=>?_⟩
  ·rw[Wf];rcases UW.mp h1 with h|h
   ·rw[h]
    by_cases q:n<=m
    ·rw[show max n m=m by lia];simp
    ·rw[show max n m=n by lia];simp
   ·simp[h]
  ·rw[Wf];rcases UW.mp hx with rfl|hx
   ·lia
   ·rcases UW.mp hx with rfl|hx
    ·lia
    ·exact h2 x (by simp[hx])
section
variable {X:Cx}
theorem gC:∀{ns:List Int} {us:List UQ},Vals (ns.map V.int) us->∃xs:Array (Int×Tok),us.toArray=intItems xs/\xs.toList.map (·.1)=ns
 |[],_,h=>by cases h;exact⟨#[],by simp[intItems],rfl⟩
 |n::ns,_,h=>by
  cases h with
  |cons h1 h2 =>
   obtain⟨t,rfl⟩:=h1;obtain⟨xs,e1,e2⟩:=gC h2;refine⟨⟨(n,t)::xs.toList⟩,?_,by simp[e2]⟩
   have:=congrArg Array.toList e1;simp[intItems]at this ⊢
   exact this
theorem i8 {xs:Array (Int×Tok)}{ns:List Int}(e:xs.toList.map (·.1)=ns)(i:Nat):numAt xs i=ns.getD i 0:=by
 subst e;unfold numAt;rw[Vi,Vd,Vo]
theorem DA {xs:Array (Int×Tok)}{ns:List Int}(e:xs.toList.map (·.1)=ns){i:Nat}{v:UQ}(h:(intItems xs)[i]?=some v):RelV (.int (ns.getD i 0)) v:=by
 obtain⟨t,rfl⟩:=intItems_at h;exact⟨t,by rw[i8 e]⟩
theorem ints_size {xs:Array (Int×Tok)}{ns:List Int}(e:xs.toList.map (·.1)=ns):xs.size=ns.length:=by rw[<- e];simp
theorem nI (hc:X.calm=true):cx X (.builtin "sum") (ff λns=>some ns.sum):=by
 intro pins s σ H xs us Q I r h;obtain⟨W,ds,d,hd,r1,e,q⟩:=h;obtain⟨ns,i,rfl,e1,rfl⟩:=lR e;cases e1;obtain⟨x,rfl,p,vs,rfl,h1,n1,q1⟩:=lZ r1;obtain⟨u,rfl,ru⟩:=vals1 r;cases ru;rw[a8 q1]at h1;obtain⟨its,r2,ht,hz⟩:=I.list (b3.of h1);obtain⟨ys,e1,e2⟩:=gC r2;refine sum_intListG (I.ok.hd hc) (xs:=ys) (by rw[<- e1];exact ht.isList) λh' tk t' k=>⟨.int ns.sum,H,I.kept k,⟨t',?_⟩,q _ _ (ay.refl _) rfl⟩
 rw[preSum_eq,Wi (by simp),e2]
theorem xj (hc:X.calm=true):cx X (.builtin "max") (ff wy):=by
 intro pins s σ H xs us Q I r h;obtain⟨W,ds,d,hd,r1,e,q⟩:=h;obtain⟨ns,i,rfl,e1,rfl⟩:=lR e;obtain⟨x,rfl,p,vs,rfl,h1,n1,q1⟩:=lZ r1;obtain⟨u,rfl,ru⟩:=vals1 r;cases ru;rw[a8 q1]at h1;obtain⟨its,r2,ht,hz⟩:=I.list (b3.of h1);obtain⟨ys,Tv,e2⟩:=gC r2;have hs:=ints_size e2;cases ns with
 |nil=>cases e1
 |cons n ns =>
  rw[Ve]at hs;refine max_intList (I.ok.hd hc) (xs:=ys) (by rw[<- Tv];exact ht.isList) (by lia) λv h' tk hv k=>⟨.int i,H,I.kept k,?_,q _ _ (ay.refl _) rfl⟩
  have hr:=DA e2 hv;obtain⟨g1,g2⟩:=argBest_gt (numAt ys) (ys.size-1);generalize argBest (λi j=>decide (numAt ys i>numAt ys j)) (ys.size-1)=b at *
  have hb:b<(n::ns).length:=by rw[Ve];lia
  have:(n::ns).getD b 0=i:=by
   cases e1;obtain⟨f1,f2⟩:=dB ns n;have hle:∀x∈n::ns,x<=(n::ns).getD b 0:=λx hx=>by
    obtain⟨j,hj,rfl⟩:=List.getElem_of_mem hx;have:=g2 j (by rw[Ve]at hj;lia)
    rw[i8 e2,i8 e2]at this;rw[Vi,U4 hj]at this;exact this
   have GY:(n::ns).getD b 0∈n::ns:=by
    rw[Vi,U4 hb];exact X8 hb
   have:=hle _ f1;have:=f2 _ GY;lia
  rw[<- this];exact hr
end
end L2
namespace L2.Q
open PySem PySem.Spec PySem.SeqAt PyProof.Rows
def dA (kvs:List (List Int×D)):D:=.dT (kvs.map λp=>iK p.1) (kvs.map (·.2))
def gm (kvs:List (List Int×D))(t:List Int):Option D:=(kvs.find? λp=>decide (p.1=t)).map (·.2)
def vE (ks:List (List Key))(ds:List D)(k:List Key):Option D:=((ks.zip ds).find? λp=>decide (p.1=k)).map (·.2)
theorem sL {t:List Int}:∀{kvs:List (List Int×D)},vE (kvs.map λp=>iK p.1) (kvs.map (·.2)) (iK t)=gm kvs t
 |[]=>rfl
 |p::kvs=>by
  have ih:=sL (t:=t) (kvs:=kvs);unfold vE gm at *
  rw[Vj,Vj,WD,Wo,Wo]
  by_cases h:p.1=t
  ·rw[decide_eq_true (congrArg iK h),decide_eq_true h];rfl
  ·rw[decide_eq_false (λz=>h (zJ z)),decide_eq_false h];exact ih
section
variable {P:UY}{w:Vc}{W:Addr->Prop}{H:Hp}
theorem oA {k:List Key}:∀{ks:List (List Key)} {ds:List D} {vs:List V},ks.length=vs.length->af P w W H ds vs->(eP (ks.zip vs) k).isSome=(vE ks ds k).isSome/\∀d,vE ks ds k=some d->∃v,eP (ks.zip vs) k=some v/\au P w W H d v
 |[],ds,vs,_,_=>by
  unfold eP vE;rw[X0,X0];exact⟨rfl,λd h=>by cases h⟩
 |k'::ks,[],_,l,h=>by rw[show _=([]:List V) from h]at l;cases l
 |k'::ks,d::ds,_,l,⟨v,r,e,h1,h2⟩=>by
  subst e;obtain⟨i1,i2⟩:=oA (k:=k) (ks:=ks) (XT l) h2;unfold eP vE at *
  rw[WD,WD,Wo,Wo]
  by_cases hk:k'=k
  ·rw[decide_eq_true hk];exact⟨rfl,λd' e=>by cases e;exact⟨v,rfl,h1⟩⟩
  ·rw[decide_eq_false hk];exact⟨i1,i2⟩
end
section
end
section
end
end L2.Q
namespace L2
open PySem PySem.Spec PySem.SeqAt PyProof.Rows
def Mo (lo:Int)(n:Nat):It:=⟨λi _=>i<n,λi H x H'=>H'=H/\x=.int (lo-i),λi _=>n<=i⟩
theorem pP {P:UY}{w:Vc}{K:PySem.W.Frag}{tg:Expr}(it:Addr)(lo:Int)(n:Nat):Turn P w K tg (Mo lo n) [it] it (λi h=>YU h it (lo+(i:Nat)*(-1)) ((n:Int)-(i:Nat)) (-1)) where
 mem:=by simp
 obj:=λi h st b hb=>by
  have e:b=it:=by simpa using hb
  subst e;exact⟨_,st,λv z=>by
   have z':Data.fields _=Data.cell v:=z;cases z'⟩
 keep:=λi h h' st k=>k it (by simp) _ st
 item:=by
  intro X hP hw hK hc i pins s σ H E I hf st hg;subst hP hw hK;obtain⟨f0,f1,f2,f3,f4,f5⟩:=hf it (by simp)
  have W:=Walks.range (prog:=X.prog) (w:=X.w) (I.ok.hd hc) it lo (-1) n;refine W.item i s _ _ hg st λv h' tk hv aA kk=>?_;obtain⟨t,rfl⟩:=hv;have I1:Inv X pins σ H {s with heap:=h',toks:=tk}:=I.turned (λb o hb e=>kk b o (by simpa using hb) e) f0 f1 f3 f4 f5
  refine⟨_,rfl,zX (s:={s with heap:=h',toks:=tk}) (n:="range_iterator") aA rfl rfl (by decide) ⟨.int (lo-i),H,I1,⟨t,?_⟩,⟨rfl,rfl⟩,aA,λb hb=>(hf b hb).1⟩⟩
  rw[Int.mul_neg,Int.mul_one];rfl
 done:=by
  intro X hP hw hK hc i pins s σ H E I hf st hg;subst hP hw hK;obtain⟨f0,f1,f2,f3,f4,f5⟩:=hf it (by simp)
  exact wpAny_pyNext_range_end (I.ok.hd hc) st (by have:n<=i:=hg;lia) λh' eb=>⟨rfl,I.turned (t':=s.toks) (λb o hb e=>eb b o hb e) f0 f1 f3 f4 f5⟩
 self:=λ_ _ _ _ _ st h=>wpAny_pyIter_rangeiter st h
theorem gw (a b:Int):Xr a b (-1)=if b<a then a-b else 0:=by
 unfold Xr;rw[if_neg (by decide)]
 by_cases h:b<a
 ·rw[if_pos h,if_pos h,show -(-1:Int)=1 by decide,Int.ediv_one];lia
 ·rw[if_neg h,if_neg h]
theorem vQ {a b:Int}(ha:-(2 ^ 62)<=a)(sj:a<2 ^ 62)(hb:-(2 ^ 62)<=b)(gY:b<2 ^ 62):Builtin.Range.small a b (-1)=true:=by
 unfold Builtin.Range.small;rw[gw];simp only[Builtin.Range.rangeFitsLong,V0,Y3,decide_eq_true_eq,beq_iff_eq,show ¬ ((-1:Int)>0) by decide,if_false]
 split <;> lia
section
variable {X:Cx}{tg:Expr}
theorem vY {pins:List (Addr×Obj)}{σ:St}{H:Hp}{s:UT}{R:It->Hp->Prop}{E:UQ->UT->Prop}{lo hi:Int}{t u v:Tok}{tk:Nat}(I:Inv X pins σ H s)(h1:-(2 ^ 62)<=lo)(h2:lo<2 ^ 62)(h3:-(2 ^ 62)<=hi)(h4:hi<2 ^ 62)
  (q:R (Mo lo (lo-hi).toNat) H):Vy (model X.prog X.w) X.A (Y7 (.ref s.heap.objs.size)) (Mm X pins σ tg R) E {s with heap:=s.heap.push {cls:=.type "range",data:=.fields #[.int lo t,.int hi u,.int (-1) v]},toks:=tk}:=by
 refine wpAny_pyIter_range (IsRange.new ..) (vQ h1 h2 h3 h4) ?_;have I1:Inv X pins σ H {s with heap:=s.heap.push {cls:=.type "range",data:=.fields #[.int lo t,.int hi u,.int (-1) v]},toks:=tk}:=I.kept λb o e=>Vg _ e
 refine⟨(s.heap.push {cls:=.type "range",data:=.fields #[.int lo t,.int hi u,.int (-1) v]}).objs.size,[(s.heap.push {cls:=.type "range",data:=.fields #[.int lo t,.int hi u,.int (-1) v]}).objs.size],_,_,H,rfl,
  I1.kept (t':=tk) λb o e=>Vg _ e,pP _ lo (lo-hi).toNat,?_,λb hb=>?_,q⟩
 ·have e1:lo+((0:Nat):Int)*(-1)=lo:=by simp
  have e2:(((lo-hi).toNat:Nat):Int)-((0:Nat):Int)=Xr lo hi (-1):=by rw[gw];split <;> lia
  show YU _ _ (lo+((0:Nat):Int)*(-1)) ((((lo-hi).toNat:Nat):Int)-((0:Nat):Int)) (-1);rw[e1,e2];exact VR _ rfl
 ·have e:b=(s.heap.push {cls:=.type "range",data:=.fields #[.int lo t,.int hi u,.int (-1) v]}).objs.size:=by simpa using hb
  subst e;exact I1.z7 (US _) (I1.bA.fresh (US _))
def JK (ta:TA):TI:=λσ H R=>ta σ H λvs H1=>∃i j:Int,vs=[.int i,.int j,.int (-1)]/\(-(2 ^ 62)<=i/\i<2 ^ 62/\-(2 ^ 62)<=j/\j<2 ^ 62)/\R (Mo i (i-j).toNat) H1
theorem v9 {a b c:Expr} {ta:TA} {p pos:Pos} (hg:Gl X "range") (hm:X.mg "range" = none) (ha:PA X [a,b,c] ta) (hs:U5 [a,b,c] X.env=[(false,eval a X.env),(false,eval b X.env),(false,eval c X.env)]:=by rfl) (tP:U5 [b,c] X.env=[(false,eval b X.env),(false,eval c X.env)]:=by rfl) :
  PI X tg (.Call (.Name "range" p) [a,b,c] [] pos) (JK ta):=by
 intro pins s σ H R I h;refine Call_ (gN I hg hm boot_range (Wy (bj (ha pos pins s σ H _ I h) λus s1 ⟨vs,H1,I1,r1,q1⟩=>?_) (by rw[hs,tP]) (by rw[tP];rfl)))
 obtain⟨i,j,e,⟨q1,q2,q3,q4⟩,q⟩:=q1;subst e;cases r1 with
 |cons r rr =>
  cases rr with
  |cons r' rr =>
   cases rr with
   |cons P2 rr =>
    cases rr;obtain⟨t,rfl⟩:=r;obtain⟨t',rfl⟩:=r';obtain⟨T_,rfl⟩:=P2;exact call_range_3 (by decide) (vY I1 q1 q2 q3 q4 q) (.inl (PyProof.noPylong_of_log2 (by decide +kernel)))
def vX (hi:Int)(n:Nat):List D:=(Vx n).map λ(k:Nat)=>D.int (hi-(k:Int))
theorem kM {hi:Int}{n i:Nat}{d:D}(h:(vX hi n)[i]?=some d):i<n/\d=.int (hi-i):=by
 unfold vX at h;rw[Vd]at h
 by_cases hi:i<n
 ·rw[Wx hi]at h;cases h;exact⟨hi,rfl⟩
 ·rw[VD (by simpa using hi)]at h;cases h
theorem kL {hi:Int}{n:Nat}:(vX hi n).length=n:=by unfold vX;simp
theorem tN {W:Addr->Prop}{H:Hp}{lo:Int}{n:Nat}:xC X W (Mo lo n) (vX lo n) H:=λ_ _ i H' k=>by
 constructor
 ·intro d hd;obtain⟨hi,rfl⟩:=kM hd;refine⟨hi,λx H1 y=>?_⟩;obtain⟨rfl,rfl⟩:=y;exact⟨ay.refl _,rfl⟩
 ·intro hl;rw[kL]at hl;exact hl
end
end L2
namespace L2.Q
open PySem PySem.Spec PySem.SeqAt PyProof.Rows
section
variable {X:Cx}{C:Cfg}{tg a b c:Expr}{φs:bI}{p:Bool}{pp pos:Pos}
def CK (φs:bI):c9:=λβ R=>φs β λds _ β'=>∃i j:Int,ds=[.int i,.int j,.int (-1)]/\(-(2 ^ 62)<=i/\i<2 ^ 62/\-(2 ^ 62)<=j/\j<2 ^ 62)/\R (vX i (i-j).toNat) .cQ β'
theorem Ly {W:Addr->Prop}{H:Hp}{a b c:D}{xs:List V}(h:l3 X W H [a,b,c] xs):∃x y z,xs=[x,y,z]/\Rp X W H a x/\Rp X W H b y/\Rp X W H c z:=by
 obtain⟨x,r,rfl,hx,y,r',rfl,hy,z,P2,rfl,hz,hr⟩:=h;cases hr;exact⟨x,y,z,rfl,hx,hy,hz⟩
theorem kP (hm:X.mg "range" = none) (ha:nO X C p [a,b,c] φs) (hg:Gl X "range" := by rfl) (hs:U5 [a,b,c] X.env=[(false,eval a X.env),(false,eval b X.env),(false,eval c X.env)]:=by rfl) (tP:U5 [b,c] X.env=[(false,eval b X.env),(false,eval c X.env)]:=by rfl) :
  AS X C p tg (.Call (.Name "range" pp) [a,b,c] [] pos) (CK φs) :=
 ⟨λβ R R' k q=>ha.mono β _ _ (λd kd β' h=>by obtain⟨i,j,e,h1,q⟩:=h;exact⟨i,j,e,h1,k _ _ _ q⟩) q,(v9 hg hm ha.pa hs tP).pre λσ H R h=>by
  obtain⟨β,own,s,q⟩:=h;refine pE.of ha s q λds ks β' vs H1 ao h o1 r1=>?_;obtain⟨i,j,e,h1,q1⟩:=h;subst e;obtain⟨x,y,z,rfl,hx,hy,hz⟩:=Ly r1.fG;cases hx;cases hy;cases hz;exact⟨i,j,rfl,h1,q1 _ _ ao o1 tN⟩⟩
end
structure QU (X:Cx)(C:Cfg)(tg iter:Expr)(ι:c9):Prop where
 mono:∀β R R',(∀d k β,R d k β->R' d k β)->ι β R->ι β R'
 pi:PI X tg iter λσ H R=>∃β own,SQ X C σ H β own/\ι β λds k β'=>∀J H',ay H H'->SQ X C σ H' β' own->xC X (eN C (Wn own) k) J ds H'->R J H'
section
variable {X:Cx}{C:Cfg}{tg a b:Expr}{φs:bI}{pp pos:Pos}{i:Nat}{x:Str}
theorem sY (hm:X.mg "range" = none) (ha:nO X C true [a,b] φs) (hg:Gl X "range" := by rfl) (hs:U5 [a,b] X.env=[(false,eval a X.env),(false,eval b X.env)]:=by rfl) (tP:U5 [b] X.env=[(false,eval b X.env)]:=by rfl) :
  QU X C tg (.Call (.Name "range" pp) [a,b] [] pos) (u5 φs) :=
 ⟨λβ R R' k q=>ha.mono β _ _ (λd kd β' h=>by obtain⟨i,j,e,h1,q⟩:=h;exact⟨i,j,e,h1,k _ _ _ q⟩) q,(mU hg hm ha.pa hs tP).pre λσ H R h=>by
  obtain⟨β,own,s,q⟩:=h;refine pE.of ha s q λds ks β' vs H1 ao h o1 r1=>?_;obtain⟨i,j,e,h1,q1⟩:=h;subst e;obtain⟨s1,rfl⟩:=o1.pu rfl;obtain⟨x,y,rfl,hx,hy⟩:=vy r1.fG;cases hx;cases hy;exact⟨i,j,rfl,h1,q1 _ _ s1 o1.sq jb⟩⟩
end
structure SC (X:Cx)(C:Cfg)(W0:Addr->Prop)(T:List Nat)(σ0:St)(H1:Hp)(a:Addr)(Hb:Hp)(Wb:Addr->Prop)(Ac:Hp->Prop)(β:a7)(σ':St)(H':Hp)(own:Nat->List Addr):Prop where
 sq:SQ X (C.u λc=>c=a) σ' H' β own
 sn:Sn (H1,W0) H' (Wn own)
 le:∀c,Wn own c->Wb c
 ac:Ac H'
 pu:ay H1 H'
 bs:∀b ob,b≠a->Hb b=some ob->H' b=some ob
 st:∀j,j∉T->σ'[j]?=σ0[j]?
abbrev uc {α:Type}(X:Cx)(C:Cfg)(W0:Addr->Prop)(T:List Nat)(σ0:St)(H1:Hp)(a:Addr)(Hb:Hp)(Wb:Addr->Prop)(Ac:α->Hp->Prop)(β:a7)(o:α)(σ':St)(H':Hp):Prop:=∃own,SC X C W0 T σ0 H1 a Hb Wb (Ac o) β σ' H' own
structure AZ {α:Type}(a:Addr)(Ac:α->Hp->Prop):Prop where
 same:∀o H H',ay H H'->Ac o H->Ac o H'
 Jn:∀o H xs,Ac o H->H a≠some (.tup xs)
abbrev Ih (X:Cx)(C:Cfg)(a:Addr)(T:List Nat)(γ:eC):TG:=λv σ H Q=>∃own β d k,SQ X (C.u λc=>c=a) σ H β own/\Rp X (eN (C.u λc=>c=a) (Wn own) k) H d v/\γ d k β λβ'=>∀σ' aN,SQ X (C.u λc=>c=a) σ' H β' aN->(∀a,Wn aN a->Wn own a)->(∀j,j∉T->σ'[j]?=σ[j]?)->Q σ' H
abbrev PL (X:Cx)(C:Cfg)(a:Addr)(φ:aM):mG:=λN σ H=>tQ X (C.u λc=>c=a) true φ σ H λv H1=>∃xs,H1 a=some (.lst xs)/\xs.length<U8/\N σ (upd H1 a (.lst (xs++[v])))
section
variable {α:Type}{X:Cx}{C:Cfg}{W0:Addr->Prop}{T Tg:List Nat}{σ0:St}{H1:Hp}{a:Addr}{Hb:Hp}{Wb:Addr->Prop}{γ:eC}{τ:bb}{φ:aM}{Ac:α->Hp->Prop}
theorem SC.next {o:α}(hA:AZ a Ac){β β':a7}{σ σ':St}{H H':Hp}{own aN:Nat->List Addr}(s:SC X C W0 T σ0 H1 a Hb Wb (Ac o) β σ H own)(sq:SQ X (C.u λc=>c=a) σ' H' β' aN)(w:∀c,Wn aN c->Wn own c)(sm:ay H H')(t:∀j,j∉T->σ'[j]?=σ[j]?):
  SC X C W0 T σ0 H1 a Hb Wb (Ac o) β' σ' H' aN :=
 ⟨sq,eS (s.sn.same sm) w,λc z=>s.le c (w c z),hA.same o _ _ sm s.ac,s.pu.trans sm,λb ob n e=>sm _ _ (s.bs b ob n e),λj hj=>(t j hj).trans (s.st j hj)⟩
theorem SC.put {A:Hp->Prop}{A':Hp->Prop}(h0:C.H0 a=none)(ha:H1 a=none){β:a7}{σ:St}{H:Hp}{own:Nat->List Addr}{oa ob:HO}(s:SC X C W0 T σ0 H1 a Hb Wb A β σ H own)(e:H a=some oa)(nt:∀xs,oa≠.tup xs)(q:A' (upd H a ob)):
  SC X C W0 T σ0 H1 a Hb Wb A' β σ (upd H a ob) own:=by
 refine⟨s.sq.IF e nt h0,⟨s.sn.w,s.sn.k.trans ((e_ e nt).mono λb z=>.inr (by rw[z];exact ha)),λb z e=>?_⟩,s.le,q,λb o e=>?_,λb o n e=>?_,s.st⟩
 ·by_cases hb:b=a
  ·rw[hb,aj]at e;cases e
  ·rw[ak hb]at e;exact s.sn.d b z e
 ·rw[ak (λz'=>by rw[z',ha]at e;cases e)]
  exact s.pu b o e
 ·rw[ak n];exact s.bs b o n e
def Mt (P:UY)(w:Vc)(H1:Hp)(a:Addr)(o:List D)(H:Hp):Prop:=∃vs A,H a=some (.lst vs)/\aH P w H o vs A/\A.Nodup/\∀c∈A,H1 c=none/\c≠a
theorem ub {P:UY}{w:Vc}:AZ a (Mt P w H1 a):=⟨λo H H' s h=>by
  obtain⟨vs,A,h1,h2,h3,h4⟩:=h;exact⟨vs,A,s _ _ h1,h2.keep (λb xs e=>s _ _ e) λc _ oc e=>s _ _ e,h3,h4⟩,λo H xs h z=>by
  obtain⟨vs,A,h1,_⟩:=h;rw[h1]at z;cases z⟩
def Et (φ:aM)(o:List D)(β:a7)(N:a7->List D->Prop):Prop:=φ β λx kx β3=>CH kx x/\o.length<U8/\N β3 (o++[x])
theorem BJ (h0:C.H0 a=none)(ha:H1 a=none)(φm:∀β R R',(∀d k β,R d k β->R' d k β)->φ β R->φ β R'){β:a7}{o:List D}{σ:St}{H:Hp}{N:a7->List D->Prop}(s:uc X C W0 T σ0 H1 a Hb Wb (Mt X.prog X.w H1 a) β o σ H)(q:Et φ o β N):
  PL X C a φ (λσ' H'=>∃β' o',uc X C W0 T σ0 H1 a Hb Wb (Mt X.prog X.w H1 a) β' o' σ' H'/\N β' o') σ H:=by
 obtain⟨own,s⟩:=s;refine⟨β,own,s.sq,φm _ _ _ (λxd kx β6 ⟨f,hz,q⟩ v H6 FH o6 r6=>?_) q⟩;obtain⟨sm,rfl⟩:=o6.pu rfl;have s6:=s.next ub (o6.sq) (λ_ z=>z) sm (λ_ _=>rfl)
 obtain⟨B',r1,r2,r3⟩:=r6.fl f;obtain⟨vs,A,at',os,nd,nw⟩:=s.ac;have q_:H6 a=some (.lst vs):=sm _ _ at';have Jq:∀c∈B',c≠a:=λc hc z=>by rw[z]at hc;exact absurd (at'.symm.trans (r3 a hc).1) (λz=>(nomatch z))
 have kt:∀b xs,H6 b=some (.tup xs)->upd H6 a (.lst (vs++[v])) b=some (.tup xs):=λb xs z=>by rw[ak (λz'=>by rw[z',q_]at z;cases z)];exact z
 refine⟨vs,q_,by rw[os.length];exact hz,β6,o++[xd],⟨FH,s6.put h0 ha q_ (λxs z=>by cases z) ⟨vs++[v],A++B',aj,?_,?_,λc hc=>?_⟩⟩,q⟩
 ·exact(os.keep (λb xs e=>kt b xs (sm _ _ e)) λc hc oc e=>by rw[ak (nw c hc).2];exact sm _ _ e).append (aH.one (r1.keep kt λc hc oc e=>by rw[ak (Jq c hc)];exact e))
 ·refine Vu.mpr ⟨nd,r2,λx hx y hy e=>?_⟩;subst e;exact(os.l7 x hx).1 (r3 x hy).1
 ·rcases Vh.mp hc with hc|hc
  ·exact nw c hc
  ·exact⟨s.sn.free (r3 c hc).1,Jq c hc⟩
def ll {α:Type}(γ:eC)(τ:bb)(Af:α->a7->(a7->α->Prop)->Prop)(ds:List D)(k:Kd)(β0:a7)(o0:α)(F:a7->α->Prop):Prop:=∃I:Nat->a7->α->Prop,I 0 β0 o0 /\
 (∀i d β o,ds[i]?=some d->I i β o->γ d (sk k d) β λβ1=>τ β1 λt β2=>if t=true then Af o β2 (I (i+1)) else I (i+1) β2 o)/\∀β o,I ds.length β o->F β o
theorem ll.mono {Af:α->a7->(a7->α->Prop)->Prop}{ds:List D}{k:Kd}{β0:a7}{o0:α}{F F':a7->α->Prop}(h:∀β o,F β o->F' β o)(q:ll γ τ Af ds k β0 o0 F):ll γ τ Af ds k β0 o0 F':=by
 obtain⟨I,h0,h1,h2⟩:=q;exact⟨I,h0,h1,λβ o z=>h _ _ (h2 β o z)⟩
theorem uB (hA:AZ a Ac)(hT:∀j∈Tg,j∈T)(γm:∀d k β R R',(∀r,R r->R' r)->γ d k β R->γ d k β R')(τm:∀β R R',(∀d β,R d β->R' d β)->τ β R->τ β R'){J:It}{ds:List D}{k:Kd}{Af:α->a7->(a7->α->Prop)->Prop}{ta:mG}{F:a7->α->Prop}{End:St->Hp->Prop}{β0:a7}{o0:α}{σ1:St}{Hs:Hp}
  (it:∀i β o σ' H',uc X C W0 T σ0 H1 a Hb Wb Ac β o σ' H'->(∀d,ds[i]?=some d->J.go i H'/\∀x H3,J.Ic i H' x H3->ay H' H3/\∀own,(∀c,Wn own c->Wb c)->au X.prog X.w (eN (C.u λc=>c=a) (Wn own) k) H3 d x)/\(ds.length<=i->J.stop i H'))
  (JU:∀β o σ' H' N,uc X C W0 T σ0 H1 a Hb Wb Ac β o σ' H'->Af o β N->ta (λxE AV=>∃β' o',uc X C W0 T σ0 H1 a Hb Wb Ac β' o' xE AV/\N β' o') σ' H')
  (s0:uc X C W0 T σ0 H1 a Hb Wb Ac β0 o0 σ1 Hs) (q:ll γ τ Af ds k β0 o0 F) (fin:∀β o σ' H',uc X C W0 T σ0 H1 a Hb Wb Ac β o σ' H'->F β o->End σ' H') :
  fB J (Ih X C a Tg γ) (jU X (C.u λc=>c=a) true τ) ta End σ1 Hs:=by
 obtain⟨I,i0,i1,i2⟩:=q;refine⟨λi m σ' H'=>i<=ds.length/\m=ds.length-i/\∃β o,uc X C W0 T σ0 H1 a Hb Wb Ac β o σ' H'/\I i β o,⟨_,Vb _,rfl,β0,o0,s0,i0⟩,?_⟩;rintro i m σ2 H2 ⟨hi,rfl,β,o,sE,hl⟩;obtain⟨dN,oY⟩:=it i β o σ2 H2 sE
 by_cases gh:i<ds.length
 ·right
  have hd:ds[i]?=some ds[i]:=U4 gh;obtain⟨go,yl⟩:=dN _ hd;refine⟨go,λσ' H'=>∃β' o',uc X C W0 T σ0 H1 a Hb Wb Ac β' o' σ' H'/\I (i+1) β' o',λσ' H' h=>⟨_,by omega,gh,rfl,h⟩,λx H3 y=>?_⟩
  obtain⟨s3,r3⟩:=yl x H3 y;obtain⟨own,s⟩:=sE;refine⟨own,β,_,_,s.sq.same s3,om (r3 own s.le),γm _ _ _ _ _ (λβ4 q σ4 qA s4 w4 t4=>?_) (i1 i _ β o hd hl)⟩;have Rw:=s.next hA s4 w4 s3 λj hj=>t4 j λz=>hj (hT j z)
  refine⟨β4,qA,s4,τm _ _ _ (λt β5 q H5 oM o5=>?_) q⟩;obtain⟨Ru,rfl⟩:=o5.pu rfl;have PZ:=Rw.next hA o5.sq (λ_ z=>z) Ru λ_ _=>rfl
  cases t with
  |false=>exact⟨β5,o,⟨_,PZ⟩,q⟩
  |true=>exact JU β5 o σ4 H5 _ ⟨_,PZ⟩ q
 ·left
  have e:i=ds.length:=by omega
  subst e;exact⟨oY (US _),fin β o σ2 H2 sE (i2 β o hl)⟩
def DW {α:Type}(ι:c9)(γ:eC)(τ:bb)(Af:α->a7->(a7->α->Prop)->Prop)(o:α)(β:a7)(N:a7->α->Prop):Prop:=ι β λds k β1=>ll γ τ Af ds k β1 o N
theorem BI (hA:AZ a Ac){ι:c9}(hT:∀j∈Tg,j∈T)(γm:∀d k β R R',(∀r,R r->R' r)->γ d k β R->γ d k β R')(τm:∀β R R',(∀d β,R d β->R' d β)->τ β R->τ β R'){Af:α->a7->(a7->α->Prop)->Prop}{ta:mG}
  (JU:∀Hb Wb β o σ' H' N,uc X C W0 T σ0 H1 a Hb Wb Ac β o σ' H'->Af o β N->ta (λxE AV=>∃β' o',uc X C W0 T σ0 H1 a Hb Wb Ac β' o' xE AV/\N β' o') σ' H')
  (ιm:∀β R R',(∀d k β,R d k β->R' d k β)->ι β R->ι β R') {β:a7} {o:α} {σ:St} {H:Hp} {N:a7->α->Prop} (s:uc X C W0 T σ0 H1 a Hb Wb Ac β o σ H) (q:DW ι γ τ Af o β N) :
  ∃β own,SQ X (C.u λc=>c=a) σ H β own/\ι β λds k β'=>∀J H',ay H H'->SQ X (C.u λc=>c=a) σ H' β' own->xC X (eN (C.u λc=>c=a) (Wn own) k) J ds H' ->
   fB J (Ih X C a Tg γ) (jU X (C.u λc=>c=a) true τ) ta (λσ' H'=>∃β' o',uc X C W0 T σ0 H1 a Hb Wb Ac β' o' σ' H'/\N β' o') σ H':=by
 obtain⟨own,s⟩:=s;refine⟨β,own,s.sq,ιm _ _ _ (λds k β1 q J H' sm sq Sa=>?_) q⟩;have s1:=s.next hA sq (λ_ z=>z) sm λ_ _=>rfl
 have hu:eN (C.u λc=>c=a) (Wn own) k a:=.inr rfl;refine uB (Hb:=H') (Wb:=Wn own) hA hT γm τm (λi βx ox σx Hx sx=>?_) (λβx ox σx Hx Nx sx qx=>JU _ _ _ _ _ _ _ sx qx) ⟨own,⟨s1.sq,s1.sn,λ_ z=>z,s1.ac,s1.pu,λ_ _ _ e=>e,s1.st⟩⟩ q λβx ox σx Hx sx hx=>?_
 ·obtain⟨B_,sx⟩:=sx;have kp:Kp (λb=>eN (C.u λc=>c=a) (Wn own) k b\/H' b=none) H' Hx:=⟨λb ob e n=>sx.bs b ob (λz=>n (.inl (by rw[z];exact hu))) e,λb xs e=>sx.bs b _ (λz=>hA.Jn _ _ _ s1.ac (by rw[<- z];exact e)) e⟩
  obtain⟨g1,g2⟩:=Sa (λb=>eN (C.u λc=>c=a) (Wn own) k b\/H' b=none) (λb z=>z) i Hx kp;refine⟨λd hd=>?_,g2⟩;obtain⟨go,yl⟩:=g1 d hd;refine⟨go,λx H3 y=>?_⟩;obtain⟨s3,r3⟩:=yl x H3 y;exact⟨s3,λaN Nu=>au.aL (λb z=>.inl (fT Nu k b z)) r3⟩
 ·obtain⟨B_,sx⟩:=sx;exact⟨βx,ox,⟨B_,⟨sx.sq,sx.sn,λc z=>s.le c (sx.le c z),sx.ac,sx.pu,λb ob n e=>sx.bs b ob n (s1.bs b ob n e),sx.st⟩⟩,hx⟩
theorem ym {lk:List (Option Nat)}{σ:St}{β:a7}{own:Nat->List Addr}{oa:HO}(hA:AZ a Ac){Af:α->a7->(a7->α->Prop)->Prop}{ta:mG}{J:It}{ds:List D}{k:Kd}{o0:α}{K:α->Prop}{End:Hp->Prop}
  (γm:∀d k β R R',(∀r,R r->R' r)->γ d k β R->γ d k β R') (τm:∀β R R',(∀d β,R d β->R' d β)->τ β R->τ β R') (S9:∀j∈Tg,j∈T)
  (inj:∀(i i' j:Nat),lk[i]?=some (some j)->lk[i']?=some (some j)->i=i') (hT:∀i∈T,∀j,lk[i]?≠some (some j))
  (s1:SQ X C σ H1 β own) (ha:H1 a=none) (hk:hold k false) (it:xC X (av C (Wn own) k) J ds H1) (a0:Ac o0 (upd H1 a oa)) (ent:SQ X (C.u λc=>c=a) (ee lk σ) (upd H1 a oa) (dz lk β) (bt lk β own))
  (JU:∀Hb Wb β' o σ' H' N,C.H0 a=none->uc X C (Wn (bt lk β own)) T (ee lk σ) H1 a Hb Wb Ac β' o σ' H'->Af o β' N->ta (λxE AV=>∃β' o',uc X C (Wn (bt lk β own)) T (ee lk σ) H1 a Hb Wb Ac β' o' xE AV/\N β' o') σ' H')
  (q:ll γ τ Af ds k (dz lk β) o0 λβf o=>fm (dz lk β) βf/\K o)
  (fin:∀o H',K o->Out X C σ H1 own true β H' own->Ac o H'->End H') :
  fB J (Ih X C a Tg γ) (jU X (C.u λc=>c=a) true τ) ta (λ_ H'=>End H') (ee lk σ) (upd H1 a oa):=by
 have h0:C.H0 a=none:=VF λz=>s1.fw a z ha;have sm:ay H1 (upd H1 a oa):=ay.new ha;refine uB (W0:=Wn (bt lk β own)) (T:=T) (σ0:=ee lk σ) (H1:=H1) (Hb:=H1) (Wb:=Wn (bt lk β own)) hA S9 γm τm (λi βx ox σx Hx sx=>?_) (λβx ox σx Hx Nx sx qx=>JU _ _ _ _ _ _ _ h0 sx qx)
  ⟨bt lk β own,⟨ent,⟨λb z=>.inl z,sm.kp,λb z e=>z (sm.free e)⟩,λ_ z=>z,a0,sm,λb ob n e=>sm _ _ e,λ_ _=>rfl⟩⟩ q λβx ox σx Hx sx hx=>?_
 ·obtain⟨B_,sx⟩:=sx;have kI:Kp (λb=>av C (Wn own) k b\/H1 b=none) H1 Hx:=sx.pu.kp;obtain⟨g1,g2⟩:=it (λb=>av C (Wn own) k b\/H1 b=none) (λb z=>z) i Hx kI;refine⟨λd hd=>?_,g2⟩;obtain⟨go,yl⟩:=g1 d hd;refine⟨go,λx H3 y=>?_⟩;obtain⟨s3,r3⟩:=yl x H3 y;exact⟨s3,λaN Nu=>au.aL (λc z=>z.elim (λz=>.inl (gk (λc z=>ba c (Nu c z)) k c z)) λz=>.inr (by rw[z];exact ha)) r3⟩
 ·obtain⟨B_,sx⟩:=sx;obtain⟨hh,hK⟩:=hx;have lv:SQ X C σ Hx β own:=s1.leave sx.sq sx.sn sx.le hh λj ok i' e1 e2=>sx.st i' λz=>hT i' z j e2;exact fin ox Hx hK ⟨lv,⟨λb z=>.inl z,sx.sn.k.mono λb z=>z.imp (ba b) id,sx.sn.d⟩,λz=>⟨sx.pu,rfl⟩,λ_ z=>z⟩ sx.ac
end
theorem Hr {X:Cx}{C:Cfg}{σ:St}{H1 H':Hp}{β:a7}{own:Nat->List Addr}{a:Addr}{o:List D}(s1:SQ X C σ H1 β own)(ha:H1 a=none)(h:Mt X.prog X.w H1 a o H'):KV X.prog X.w C (H1,Wn own) own H' .own (.lst o) (.ref a):=by
 obtain⟨vs,A,at',os,nd,nw⟩:=h;refine⟨a::A,⟨a,vs,A,rfl,at',rfl,os⟩,Vt.mpr ⟨λz=>(nw a z).2 rfl,nd⟩,λc hc=>?_⟩;have lC:H1 c=none:=by
  rcases UW.mp hc with rfl|hc
  ·exact ha
  ·exact(nw c hc).1
 exact⟨lC,λh=>by obtain⟨j,hj⟩:=h;exact(s1.dm j c hj).1 lC,VF λz=>s1.fw c z lC⟩
def Fq (lk:List (Option Nat))(ι:c9)(γ:eC)(τ:bb)(ι2:c9)(γ2:eC)(τ2:bb)(φ:aM):aM:=λβ R=>ι β λds k β1=>hold k false/\ll γ τ (DW ι2 γ2 τ2 (Et φ)) ds k (dz lk β1) [] λβf o=>fm (dz lk β1) βf/\R (.lst o) .own β1
section
variable {X:Cx}{C:Cfg}{lk:List (Option Nat)}{γ γ2:eC}{τ τ2:bb}{φ:aM}{T T2:List Nat}
variable {scope:XA}{tg dN xV oY elt:Expr}{ifs mx:List Expr}{ι ι2:c9}{pi:Bool}{pos:Pos}{i:Nat}
theorem R5 (N':List Str)(lk:List (Option Nat))(L:lq X.env.scope.names X.N scope N' lk=true)(A_:N'.Nodup)(hc:X.calm=true)(hi:AS X C pi tg dN ι)
  (xx:∀a cl c s H ex,AU (aG X scope N' cl c s H ex) (C.u λc=>c=a) tg T γ) (xw:∀a cl c s H ex,xq (aG X scope N' cl c s H ex) (C.u λc=>c=a) true ifs τ)
  (Qx:∀a cl c s H ex,QU (aG X scope N' cl c s H ex) (C.u λc=>c=a) xV oY ι2)
  (JT:∀a cl c s H ex,AU (aG X scope N' cl c s H ex) (C.u λc=>c=a) xV T2 γ2) (JS:∀a cl c s H ex,xq (aG X scope N' cl c s H ex) (C.u λc=>c=a) true mx τ2)
  (u_:∀a cl c s H ex,PQ (aG X scope N' cl c s H ex) (C.u λc=>c=a) true elt φ) (hT:(T++T2).all (λi=>match lk[i]? with|some (some _)=>false|_=>true)=true:=by rfl)
  (hs:∀x,V1 dN X.env x=pure x:=by intro _;rfl) (tP:∀cl c s H ex x,V1 oY (aG X scope N' cl c s H ex).env x=pure x:=by intro _ _ _ _ _ _;rfl):PQ X C pi (.ListComp elt [⟨tg,dN,ifs,0⟩,⟨xV,oY,mx,0⟩] scope pos) (Fq lk ι γ τ ι2 γ2 τ2 φ):=by
 have L:=Links.of L;have Lc:∀i∈T++T2,∀j,lk[i]?≠some (some j):=λi hi j e=>by
  have:=Xd.mp hT i hi;rw[e]at this;cases this
 have ax:Addr:=0;have UL:List (Str×Addr):=[];have γm:=(xx 0 [] 0 X.s₀ X.H₀ []).mono;have τm:=(xw 0 [] 0 X.s₀ X.H₀ []).mono;have Mv:=(JT 0 [] 0 X.s₀ X.H₀ []).mono;have Mu:=(JS 0 [] 0 X.s₀ X.H₀ []).mono;have φm:=(u_ 0 [] 0 X.s₀ X.H₀ []).mono;have ιm:=(Qx 0 [] 0 X.s₀ X.H₀ []).mono;refine⟨λβ R R' k h=>hi.mono β _ _ (λds kd β1 q=>⟨q.1,q.2.mono λ_ _ z=>⟨z.1,k _ _ _ z.2⟩⟩) h,?_⟩;refine(qu (g:=⟨tg,dN,ifs,0⟩) (gs:=[⟨xV,oY,mx,0⟩]) (tg:=λa=>Ih X C a T γ) (tt:=λa=>jU X (C.u λc=>c=a) true τ)
  (ta:=λa N σ H=>∃β own,SQ X (C.u λc=>c=a) σ H β own/\ι2 β λds k β'=>∀J H',ay H H'->SQ X (C.u λc=>c=a) σ H' β' own->xC X (eN (C.u λc=>c=a) (Wn own) k) J ds H' ->
   fB J (Ih X C a T2 γ2) (jU X (C.u λc=>c=a) true τ2) (PL X C a φ) N σ H')
  L hc k_ rfl rfl (λ_ _=>Hn) hi.pi (λa cl c s H ex=>⟨(xx a cl c s H ex).pg,(xw a cl c s H ex).pt,B9 (X:=aG X scope N' cl c s H ex) (g':=⟨xV,oY,mx,0⟩) rfl hc Hm (Qx a cl c s H ex).pi (JT a cl c s H ex).pg (JS a cl c s H ex).pt (kY (X:=aG X scope N' cl c s H ex) rfl (u_ a cl c s H ex).pe) (tP cl c s H ex)⟩) hs).pre λσ H Q h=>?_
 obtain⟨β,own,s,h⟩:=h;refine⟨β,own,s,hi.mono β _ _ (λds k β1 h J H1 ao o1 it a ha=>?_) h⟩;obtain⟨hk,q⟩:=h;refine ym (T:=T++T2) (ub (P:=X.prog) (w:=X.w) (H1:=H1)) γm τm (λj hj=>WI _ hj) (gd L A_) Lc o1.sq ha hk it ⟨[],[],aj,(show aH _ _ _ [] [] [] from ⟨rfl,rfl⟩),V7,λc hc=>(nomatch hc)⟩ (o1.sq.enter ha (gd L A_))
  (λHb Wb βx ox σx Hx Nx h0 sx qx=>BI ub (λj hj=>Vw _ hj) Mv Mu (λHb Wb βy oy σy Hy Ny sy qy=>BJ h0 ha φm sy qy) ιm sx qx) q λo H' q o2 r=>?_
 refine q _ _ ao ⟨o2.sq,o1.sn.trans o2.sn,λz=>⟨(o1.pu z).1.trans (o2.pu rfl).1,(o1.pu z).2⟩,o1.le⟩ ((Hr o1.sq ha r).later o1.sn)
end
section
variable {P:UY}{w:Vc}{C:Cfg}{σ:St}{H H':Hp}{β:a7}{own:Nat->List Addr}{U:Addr->Prop}{a:Addr}
theorem bh.ET (b:bh P w C σ H β own):bh P w (C.u λa=>C.U a\/H a=none) σ H β own :=
 ⟨b.len,λi y d e=>by obtain⟨v,h1,h2⟩:=b.val i y d e;exact⟨v,h1,au.grow (λa z=>z.elim (λz=>.inl (.inl z)) λz=>z.elim (λz=>.inl (.inr z)) .inr) h2⟩,b.ow,b.l6,λi a h=>by obtain⟨h1,h2,h3,h4⟩:=b.dm i a h;exact⟨h1,h2,h3,λz=>z.elim h4 h1⟩,b.fQ,b.gX,b.kp,b.fw,λi y d e=>by obtain⟨v,h1,h2,h3⟩:=b.shl i y d e;exact⟨v,h1,h2.map (λ_ _ _ z=>z) (λ_ _ r=>af.grow (λa z=>z.elim (λz=>.inl (.inl z)) λz=>z.elim (λz=>.inl (.inr z)) .inr) r),h3⟩⟩
theorem bh.Lk (b:bh P w (C.u U) σ H β own)(h:∀a,C.U a->U a):bh P w C σ H β own :=
 ⟨b.len,λi y d e=>by obtain⟨v,h1,h2⟩:=b.val i y d e;exact⟨v,h1,au.aL (λa z=>z.imp id (h a)) h2⟩,b.ow,b.l6,λi a q=>by obtain⟨h1,h2,h3,h4⟩:=b.dm i a q;exact⟨h1,h2,h3,λz=>h4 (h a z)⟩,b.fQ,b.gX,b.kp,b.fw,λi y d e=>by obtain⟨v,h1,h2,h3⟩:=b.shl i y d e;exact⟨v,h1,h2.map (λ_ _ _ z=>z) (λ_ _ r=>af.aL (λa z=>z.imp id (h a)) r),h3⟩⟩
theorem bh.Nd (b:bh P w (C.u U) σ H β own)(k:Kp (·=a) H H')(hu:U a)(h0:C.H0 a=none)(dn:∀c,H c≠none->H' c≠none):bh P w (C.u U) σ H' β own:=by
 have na:∀i,a∉own i:=λi z=>(b.dm i a z).2.2.2 hu;have kp:Kp C.IO C.H0 H':=⟨λc o z n=>k.out c o (b.kp.out c o z n) λq=>by rw[q]at z;exact absurd (z.symm.trans h0) (λz=>(nomatch z)),λc xs z=>k.tup c xs (b.kp.tup c xs z)⟩
 refine⟨b.len,λj y d e=>?_,λj d e=>?_,λj ok e=>?_,λj c hc=>?_,b.fQ,b.gX,kp,λc z=>dn c (b.fw c z),λj y d e=>by
  obtain⟨v,g1,g2,g3⟩:=b.shl j y d e;exact⟨v,g1,g2.map (λc hc o eo=>k.out c o eo λz=>na j (z▸hc)) (λ_ _ r=>r.keep (k.mono λc z=>.inr (by rw[z];exact hu))),g3⟩⟩
 ·obtain⟨v,g1,g2⟩:=b.val j y d e;exact⟨v,g1,g2.keep (k.mono λc z=>.inr (by rw[z];exact hu))⟩
 ·obtain⟨v,g1,g2,g3⟩:=b.ow j d e;exact⟨v,g1,g2.keep k.tup (λc hc o eo=>k.out c o eo λz=>na j (z▸hc)),g3⟩
 ·obtain⟨h,ns,g1,g2,g3,g4,g5⟩:=b.l6 j ok e;exact⟨h,ns,g1,k.out h _ g2 (λz=>na j (by rw[g4,<- z];simp)),g3,g4,g5⟩
 ·obtain⟨g1,g2,g3,g4⟩:=b.dm j c hc;have S1:c≠a:=λz=>na j (z▸hc);cases q:H c with
  |none=>exact absurd q g1
  |some o=>rw[k.out c o q S1];exact⟨λz=>(nomatch z),λxs z=>g2 xs (by rw[q];exact z),g3,g4⟩
end
theorem kZ {P:UY}{w:Vc}{H:Hp}:∀{ns:List Int} {vs:List V} {A:List Addr},aH P w H (ns.map D.int) vs A->vs=ns.map V.int/\A=[]
 |[],_,_,h=>h
 |n::ns,_,_,h=>by
  obtain⟨v,r,A1,A2,rfl,rfl,h1,h2⟩:=h;obtain⟨e1,e2⟩:=kZ h2;obtain⟨e3,e4⟩:=h1;rw[e1,e2,e3,e4];exact⟨rfl,rfl⟩
section
variable {X:Cx}{C:Cfg}{k:Nat}{f:Addr}{fd:VI}{ps:List Str}{F:FD}{ro p:Bool}{x:Str}{pp pos:Pos}{e:Expr}{es:List Expr}{φ:aM}{φs:bI}{ok:List Int->Prop}
def Fp (ok:List Int->Prop)(ro:Bool)(F:FD)(φ:aM)(φs:bI):aM:=λβ R=>φ β λd kd β1=>∃ns,d=.lst (ns.map D.int)/\kd=.own/\ok ns/\φs β1 λds _ β2=>D.c8 ds=true/\F ds λd=>R d (rk ro) β2
theorem yH (mF:dO F)(G:aX X.prog X.w X.K X.mg X.base cy k f fd ps (sQ X.prog X.w ok ro F))(hr:cL k X.A)(hm:X.mg x=some (.ref f))(hk:PySem.W.keepIn X.K (.ref f)=true)(hb:Binds X.K fd ps [])(he:∀U,PQ X (C.u U) p e φ)(ha:∀U,nO X (C.u U) true es φs)(hg:Gl X x:=by rfl)(hdb:(x==("__debug__" : Str))=false:=by decide)
  (iy:U5 (e::es) X.env=(false,eval e X.env)::U5 es X.env:=by rfl) (hpl:(Wq pos (U5 es X.env)).any (·.1)=false:=by rfl) :
  PQ X C false (.Call (.Name x pp) (e::es) [] pos) (Fp ok ro F φ φs):=by
 refine⟨λβ R R' k h=>(he C.U).mono β _ _ (λd kd β1 h=>by obtain⟨ns,e1,e2,o,q⟩:=h;exact⟨ns,e1,e2,o,(ha C.U).mono β1 _ _ (λds ks β2 h=>⟨h.1,mF ds _ _ (λd q=>k _ _ _ q) h.2⟩) q⟩) h,λpins s σ H Q I h=>?_⟩
 obtain⟨β,own,sq,h⟩:=h;refine ik G hr hg hm hk hb .nil qz (aF (he λa=>C.U a\/H a=none).pe (ha λa=>C.U a\/H a=none).pa iy) (hdb:=hdb) (he:=iy) (hpl:=hpl) pins s σ H Q I ?_;refine tQ.of (he λa=>C.U a\/H a=none) sq.ET h λd kd β1 v H1 ao h o1 r1=>?_;obtain⟨ns,rfl,rfl,ho,h⟩:=h;obtain⟨A,r,nd,nw⟩:=r1;obtain⟨a,vs,A',rfl,L_,eA,os⟩:=r;obtain⟨rfl,rfl⟩:=kZ os;obtain⟨n1,n2,n3⟩:=nw a (by rw[eA];simp)
 have n1:H a=none:=n1;refine pE.of (ha λa=>C.U a\/H a=none) o1.sq h λds ks β2 us H2 aY h o2 r2=>?_;obtain⟨fl,q⟩:=h;obtain⟨sm,rfl⟩:=o2.pu rfl;rw[VW];refine⟨a,us,ds,ns,rfl,sm _ _ L_,ho,af.flat fl r2.fG,mF ds _ _ (λd q v H' oQ kp dn e' HI rv=>?_) q⟩;have Rt:=((o2.sq).Nd kp (.inr n1) n3 dn).Lk λc z=>.inl z;have LQ:=o1.sn.same sm;refine q v H' aY ⟨Rt,⟨LQ.w,LQ.k.trans (kp.mono λb z=>.inr (by rw[z];exact n1)),λb z=>dn b (LQ.d b z)⟩,λz=>(nomatch z),o1.le⟩ (rv.kv o2.sq.sA o2.sq.fw λb z e=>?_)
 exact LQ.d b z e
end
section
end
section
variable {X:Cx}{C:Cfg}{e a:Expr}{φ:aM}{p:Bool}{pos p2 p3 p4:Pos}{j:Nat}
theorem B4 {te:TE}(he:PE X e te):PE X (.Subscript e (.Slice none none (some (.UnaryOp .USub (.Constant (.int 1) j p3) p4)) p2) pos) (λσ H Q=>te σ H λx H1=>∃a xs,x=.ref a/\H1 a=some (.lst xs)/\∀p,H1 p=none->Q (.ref p) (upd H1 p (.lst xs.reverse))):=by
 intro pins s σ H Q I h;refine Subscript_ (bj (he pins s σ H _ I h) λv s1 ⟨x,H1,I1,r1,q1⟩=>?_);refine wpAny_Slice ?_;rw[evalPart_none];refine Vl (Vl ?_);rw[evalPart_some];refine bj (DQ (X:=X) (pos:=p4) xO (aO (i:=1) (j:=j) (pos:=p3)) pins s1 σ H1 (λv H'=>v=.int (-1)/\H'=H1) I1 ⟨1,rfl,rfl,rfl⟩) λu s3 ⟨y,H3,I3,r3,ey,eH⟩=>?_;subst ey eH;obtain⟨tk,rfl⟩:=(show ∃t,u=Value.int (-1) t from r3)
 have I4:Inv X pins σ H3 {s3 with heap:=s3.heap.push {cls:=.type "slice",data:=.fields #[.none,.none,.int (-1) tk]}}:=I3.kept (t':=s3.toks) λb ob q=>Vg _ q
 have Qn:(s3.heap.push {cls:=.type "slice",data:=.fields #[.none,.none,.int (-1) tk]}).IsSliceOf s3.heap.objs.size .none .none (.int (-1) tk):=Heap.IsSliceOf.new ..
 generalize L3:({s3 with heap:=s3.heap.push {cls:=.type "slice",data:=.fields #[.none,.none,.int (-1) tk]}}:UT)=s4 at I4 ⊢
 have NT:s4.heap.IsSliceOf s3.heap.objs.size .none .none (.int (-1) tk):=by rw[<- L3];exact Qn
 have main:∃T id,typeLookup (.type T) "__getitem__" = pure (some (.builtin id))/\s4.TypeIs v T/\Vy (model X.prog X.w) X.A (Y5 v (.ref s3.heap.objs.size)) (EP X pins σ Q) X.xe s4:=by
  obtain⟨a,xs,rfl,hx,q⟩:=q1;cases (show v=Value.ref a from r1)
  obtain⟨its,r,ht,hz⟩:=I4.list (b3.of hx);have hlen:=r.length;refine⟨"list",_,YF.lookup,ht.isList.typeIs,?_⟩;refine wpAny_getItem_list_slice ht.isList NT .none .none (.int (-1) tk) (by simp) ?_ (by rw[Vk] <;> lia)
  rw[HT.me];refine⟨.ref s4.heap.objs.size,_,I4.laid (t':=s4.toks) (o:=.lst xs.reverse) (λb ob q=>Vg _ q) (US _) ?_,rfl,q _ (I4.bA.fresh (US _))⟩;exact⟨by rw[XQ];lia,_,0,by simpa using Vals.rev r,VR _ rfl⟩
 obtain⟨T,id,hT,ht,hg⟩:=main;show Vy (model X.prog X.w) X.A (subscriptTail e (.Slice none none (some (.UnaryOp .USub (.Constant (.int 1) j p3) p4)) p2) v (.ref s3.heap.objs.size)) (EP X pins σ Q) X.xe s4;exact tail_any (ops:=[v,.ref s3.heap.objs.size]) ht hT hg (by with_unfolding_all rfl)
def Ex:D->Option D
 |.lst ds=>some (.lst ds.reverse)
 |_=>none
def IQ (φ:aM):aM:=λβ R=>φ β λx k β1=>∃d,Ex x=some d/\kN NL d k.wk λk'=>R d k' β1
theorem BW {j:Nat}(ha:PQ X C p a φ):PQ X C p (.Subscript a (.Slice none none (some (.UnaryOp .USub (.Constant (.int 1) j p3) p4)) p2) pos) (IQ φ) :=
 ⟨λβ R R' k h=>ha.mono β _ _ (λx kx β1 h=>by obtain⟨d,e,q⟩:=h;exact⟨d,e,q.mono λ_ z=>k _ _ _ z⟩) h,
  (B4 ha.pe).pre λσ H Q h=>by
    obtain⟨β,own,s,h⟩:=h;refine tQ.of ha s h λd k β1 v H1 ao h o1 r1=>?_;obtain⟨d',e,q⟩:=h;have rr:=au.aL AJ r1.rep;cases d with
    |lst ds =>
      cases e;obtain⟨c,vs,rfl,h1,n1,rs⟩:=rr;refine⟨c,vs,rfl,h1,λp hp=>?_⟩;have sm:ay H1 (upd H1 p (.lst vs.reverse)):=ay.new hp;have hw:¬ av C (Wn ao) k.wk p:=λz=>o1.sq.Aj _ p z hp;have r2:au X.prog X.w (av C (Wn ao) k.wk) (upd H1 p (.lst vs.reverse)) (.lst ds.reverse) (.ref p):=⟨p,_,rfl,aj,hw,(af.rev rs).same sm⟩;obtain⟨k',q,r⟩:=KV.kN (Z:=(H,Wn own)) DF r2 (λn=>f_ (H:=H1) o1.sq.sA o1.sq.fw (λa z e=>o1.sn.d a z e) n ⟨p,_,rfl,aj,λz=>z hp,af.flat n ((af.rev rs).same sm)⟩) q;exact q _ _ ao (o1.same sm) r
    |_=>cases e⟩
end
end L2.Q
namespace L2
open PySem PySem.Spec PySem.SeqAt PyProof.Rows
def Apart (t u:List Int):Prop:=cX t u=false/\c3 t u=false
theorem dj {t u:List Int}:cX t u=true↔∃i∈t,i∈u:=by
 unfold cX;rw[List.any_eq_true];simp
theorem lV {a b c d:Int}:jk a b c d=true↔(a<c/\c<b/\b<d)\/(c<a/\a<d/\d<b):=by
 unfold jk;simp[Y3,V0]
end L2
namespace L2.Q
open PySem PySem.Spec PySem.SeqAt PyProof.Rows
structure xD (mg:Str->Option UQ):Prop extends Bs2 mg where
 sum:mg "sum" = none
def tI (p:Nat×Nat):List Int:=[(p.1:Int),(p.2:Int)]
theorem iS {p q:Nat×Nat}(h:tI p=tI q):p=q:=by
 unfold tI at h;injection h with h1 h2
 injection h2 with h2 _
 exact Prod.ext (Int.ofNat.inj h1) (Int.ofNat.inj h2)
def dI (ps:List (Nat×Nat)):D:=.lst (ps.map λp=>kD (tI p))
def iN (n:Nat)(ps:List (Nat×Nat)):D:=.tup [.int n,dI ps]
structure l5 (n:Nat)(ps:List (Nat×Nat)):Prop where
 lt:∀p∈ps,p.1<p.2/\p.2<n
 nd:ps.Nodup
 le:n<=80
 sm:ps.length<=400
theorem xU {n:Int}{ts:List (List Int)}(n0:0<=n)(h:gq n ts):∃ps:List (Nat×Nat),ts=ps.map tI/\∀p∈ps,p.1<p.2/\p.2<n.toNat:=by
 induction ts with
 |nil=>exact⟨[],rfl,λ_ z=>(nomatch z)⟩
 |cons t ts ih =>
  obtain⟨ps,e,q⟩:=ih λu hu=>h u (by simp[hu])
  obtain⟨a,b,rfl,h1,h2,h3⟩:=h t (by simp)
  refine⟨(a.toNat,b.toNat)::ps,?_,λp hp=>?_⟩
  ·rw[Vj,<- e]
   congr 1
   show [a,b]=[((a.toNat:Nat):Int),((b.toNat:Nat):Int)];rw[Yv h1,Yv (by lia)]
  ·rcases UW.mp hp with rfl|hp
   ·exact⟨by show a.toNat<b.toNat;lia,by show b.toNat<n.toNat;lia⟩
   ·exact q p hp
theorem BL {n:Int}{ts:List (List Int)}(n0:0<=n)(n1:n<=80)(l:ts.length<=400)(h:gq n ts)(nd:ts.Nodup):∃(m:Nat) (ps:List (Nat×Nat)),l5 m ps/\n=m/\ts=ps.map tI/\D.tup [.int n,.lst (ts.map kD)]=iN m ps:=by
 obtain⟨ps,e,q⟩:=xU n0 h;refine⟨n.toNat,ps,⟨q,?_,by lia,by rw[e,UR]at l;exact l⟩,by lia,e,?_⟩
 ·rw[e]at nd;exact(Wj.mp nd).imp λz e=>z (congrArg tI e)
 ·unfold iN dI;rw[e,V4,Yv n0];rfl
noncomputable def bR (l:List Nat):List D:=l.map λ(k:Nat)=>D.int (k:Int)
def eD (ps:List (Nat×Nat))(i:Nat):List Nat:=(ps.filter λp=>decide (p.1=i)).map (·.2)
theorem cP {ps:List (Nat×Nat)}{i k:Nat}:k∈eD ps i↔(i,k)∈ps:=by
 unfold eD;rw[Vq];constructor
 ·rintro⟨p,hp,rfl⟩;obtain⟨h1,h2⟩:=VH.mp hp;rw[<- of_decide_eq_true h2];exact h1
 ·intro h;exact⟨(i,k),VH.mpr ⟨h,by simp⟩,rfl⟩
def HH (n:Nat)(ps:List (Nat×Nat)):D:=.lst ((Vx n).map λi=>.lst (bR (eD ps i)))
theorem bS {α:Type}{n i:Nat}{f:Nat->α}(h:i<n):((Vx n).map f)[i]?=some (f i):=by
 rw[Vd,Wx h];rfl
theorem m6 {ds:List D}{x:Int}{i:Nat}{d:D}(hx:x=(i:Int))(h:ds[i]?=some d):jL (.lst ds) (.int x)=some d:=by rw[hx];exact vq h
theorem JG {n:Nat}{ps:List (Nat×Nat)}{x:Int}{i:Nat}(hx:x=(i:Int))(h:i<n):jL (HH n ps) (.int x)=some (.lst (bR (eD ps i))):=m6 hx (bS h)
def pQ (L:Nat)(T:Nat->Int):List D:=(Vx L).map λl=>.int (T l)
def iR (n:Nat)(L:Nat->Nat)(T:Nat->Nat->Int):D:=.lst ((Vx (n+1)).map λi=>.lst (pQ (L i) λl=>T l i))
theorem Ed {L:Nat}{T:Nat->Int}{x:Int}{l:Nat}(hx:x=(l:Int))(h:l<L):jL (.lst (pQ L T)) (.int x)=some (.int (T l)):=m6 hx (bS h)
theorem Ec {n:Nat}{L:Nat->Nat}{T:Nat->Nat->Int}{x:Int}{i:Nat}(hx:x=(i:Int))(h:i<=n):jL (iR n L T) (.int x)=some (.lst (pQ (L i) λl=>T l i)):=m6 hx (bS (by lia))
def dJ (n a:Nat):List (Nat×Nat):=(Vx (a+1)).map λb=>(n-1-a,n-a+b)
def og (n:Nat):List (Nat×Nat):=(Vx n).flatMap (dJ n)
def DM (p:Nat×Nat):D:=.tup [.int (p.1:Int),.int (p.2:Int)]
def dY (n a b:Nat):List (Nat×Nat):=(dJ n a).drop b++((Vx n).drop (a+1)).flatMap (dJ n)
theorem gG {n a b:Nat}(h:b<=a):dY n a b=(n-1-a,n-a+b)::dY n a (b+1):=by
 unfold dY dJ;rw[V3 (by rw[UR,VA];lia)]
 simp
theorem nC {n a:Nat}(h:a<n):((Vx n).drop a).flatMap (dJ n)=dY n a 0:=by
 unfold dY;rw[V3 (by rw[VA];exact h)]
 simp
theorem mR {n a:Nat}(h:a+1<n):dY n a (a+1)=dY n (a+1) 0:=by
 rw[<- nC h];unfold dY dJ;simp
theorem sV {n a:Nat}(h:n<=a+1):dY n a (a+1)=[]:=by
 unfold dY dJ;rw[List.drop_eq_nil_of_le (by simp),List.drop_eq_nil_of_le (by simpa using h)]
 rfl
theorem vL {n:Nat}(h:0<n):og n=dY n 0 0:=by rw[<- nC h];rfl
theorem e8 {α:Type}{γ:eC}{τ:bb}{φ:aM}{l:List α}{f:α->D}{k:Kd}{rP:a7}{K:List D->Prop}(t:α->Bool)(g:α->D)(h0:fm rP rP)(hl:l.length<=U8)
  (h:∀x∈l,∀(x0:Option B) (o:List D) (J:a7->List D->Prop),o.length<U8->(t x=true->∀x0,J (x0::rP) (o++[g x]))->(t x=false->∀x0,J (x0::rP) o)->γ (f x) (sk k (f x)) (x0::rP) λβ1=>τ β1 λt β2=>if t=true then φ β2 λx kx β3=>CH kx x/\o.length<U8/\J β3 (o++[x]) else J β2 o)
  (q:K ((l.filter t).map g)):lj γ τ φ (l.map f) k (none::rP) K:=by
 refine⟨λi β o=>i<=l.length/\(∃x0,β=x0::rP)/\o=((l.take i).filter t).map g,⟨Vb _,⟨_,rfl⟩,rfl⟩,?_,?_⟩
 ·rintro i d β o hd ⟨hi,⟨x0,rfl⟩,rfl⟩;rw[Vd]at hd;obtain⟨x,hx,rfl⟩:=Vp.mp hd;have gh:i<l.length:=(U6.mp hx).1;have hle:(((l.take i).filter t).map g).length<U8:=by
   rw[UR];have:=WE t (l.take i);rw[VV]at this;lia
  have e:l.take (i+1)=l.take i++[x]:=by rw[V2,hx];rfl
  refine h x (VG hx) x0 _ (λβ o=>i+1<=l.length/\(∃x0,β=x0::rP)/\o=((l.take (i+1)).filter t).map g) hle (λht x0=>?_) λht x0=>?_
  ·exact⟨gh,⟨_,rfl⟩,by rw[e,V5,Vf,WC,if_pos ht];rfl⟩
  ·exact⟨gh,⟨_,rfl⟩,by rw[e,V5,Vf,WC,if_neg (by rw[ht];simp)];simp⟩
 ·rintro β o ⟨_,⟨x0,rfl⟩,rfl⟩;rw[UR,WA];exact⟨h0,q⟩
theorem F6 {α:Type}{γ:eC}{τ:bb}{φ:aM}{l:List α}{f:α->D}{k:Kd}{rP:a7}{K:List D->Prop}(t:α->Bool)(g:α->D)(h0:fm rP rP)(hl:l.length<=U8)
  (h:∀x∈l,∀(x0 x1:Option B) (o:List D) (J:a7->List D->Prop),o.length<U8->(t x=true->∀x0 x1,J (x0::x1::rP) (o++[g x]))->(t x=false->∀x0 x1,J (x0::x1::rP) o)->γ (f x) (sk k (f x)) (x0::x1::rP) λβ1=>τ β1 λt β2=>if t=true then φ β2 λx kx β3=>CH kx x/\o.length<U8/\J β3 (o++[x]) else J β2 o)
  (q:K ((l.filter t).map g)):lj γ τ φ (l.map f) k (none::none::rP) K:=by
 refine⟨λi β o=>i<=l.length/\(∃x0 x1,β=x0::x1::rP)/\o=((l.take i).filter t).map g,⟨Vb _,⟨_,_,rfl⟩,rfl⟩,?_,?_⟩
 ·rintro i d β o hd ⟨hi,⟨x0,x1,rfl⟩,rfl⟩;rw[Vd]at hd;obtain⟨x,hx,rfl⟩:=Vp.mp hd;have gh:i<l.length:=(U6.mp hx).1;have hle:(((l.take i).filter t).map g).length<U8:=by
   rw[UR];have:=WE t (l.take i);rw[VV]at this;lia
  have e:l.take (i+1)=l.take i++[x]:=by rw[V2,hx];rfl
  refine h x (VG hx) x0 x1 _ (λβ o=>i+1<=l.length/\(∃x0 x1,β=x0::x1::rP)/\o=((l.take (i+1)).filter t).map g) hle (λht x0 x1=>?_) λht x0 x1=>?_
  ·exact⟨gh,⟨_,_,rfl⟩,by rw[e,V5,Vf,WC,if_pos ht];rfl⟩
  ·exact⟨gh,⟨_,_,rfl⟩,by rw[e,V5,Vf,WC,if_neg (by rw[ht];simp)];simp⟩
 ·rintro β o ⟨_,⟨x0,x1,rfl⟩,rfl⟩;rw[UR,WA];exact⟨h0,q⟩
theorem cu {α:Type}{l:List α}:l.filter (λ_=>true)=l:=XR.mpr λ_ _=>rfl
theorem lU {a b:List D}(h:a.length+b.length<=1000000):xa (.lst a) (.lst b)=some (.lst (a++b)):=by
 show (if a.length+b.length<=U8 then _ else _)=_
 rw[if_pos (VB h (by decide))]
theorem ng {α:Type}{f:α->Int}:∀{l:List α},D.c8 (l.map λx=>D.int (f x))=true
 |[]=>rfl
 |_::l=>ng (l:=l)
def tW:FD:=λds R=>∃n:Nat,ds=[.int n]/\n<=80/\R (.lst ((og n).map DM))
theorem tW.mono:dO tW:=λds R R' k h=>by obtain⟨n,e,h1,q⟩:=h;exact⟨n,e,h1,k _ q⟩
def lM:FD:=λds R=>∃n ps,ds=[iN n ps]/\l5 n ps/\R (HH n ps)
theorem lM.mono:dO lM:=λds R R' k h=>by obtain⟨n,ps,e,h1,q⟩:=h;exact⟨n,ps,e,h1,k _ q⟩
abbrev Eo (n:Nat)(T:Nat->Nat->Int):D:=iR n (λi=>n+1-i) T
theorem gv {n:Nat}(h:n<=1000):n<=U8:=VB h (by decide)
theorem pR {n:Nat}(h:n<=1000):n<U8:=Yz h (by decide)
theorem oX {n i:Nat}{x:Int}(hx:x=(i:Int))(h:i<n):mw n x=some i:=by
 subst hx;unfold mw;rw[if_pos (by lia),if_pos (by lia)]
 simp
theorem oq {α:Type}{n i:Nat}{f:Nat->α}{y:α}(h:i<n):((Vx n).map f).set i y=(Vx n).map λk=>if k=i then y else f k:=by
 refine WK λk=>?_;rw[WJ]
 by_cases hk:k<n
 ·rw[bS hk,bS hk,UR,VA]
  by_cases e:i=k
  ·rw[if_pos e,if_pos (e▸hk),if_pos e.symm]
  ·rw[if_neg e,if_neg (WO e)]
 ·rw[VD (l:=(Vx n).map f) (by simpa using hk),VD (l:=(Vx n).map λk=>if k=i then y else f k) (by simpa using hk),if_neg (by lia)]
theorem Fh {n i k:Nat}{ps:List (Nat×Nat)}(h:i<n):((Vx n).map λj=>D.lst (bR (eD ps j))).set i (.lst (bR (eD ps i)++[D.int k]))=(Vx n).map λj=>D.lst (bR (eD (ps++[(i,k)]) j)):=by
 rw[oq h];refine VQ λj _=>?_;unfold eD bR;rw[V5,Vf,Vf]
 by_cases e:j=i
 ·rw[if_pos e,e];simp
 ·rw[if_neg e,WC,if_neg (by simpa using WO e)];simp
theorem BV {ps:List (Nat×Nat)}{i:Nat}:(eD ps i).length<=ps.length:=by
 unfold eD;rw[UR];exact WE _ _
def bK (n a b:Nat)(i:Nat):Nat:=if n-1-a<i then n+1-i else if i=n-1-a then b+1 else 1
theorem BH {n a b:Nat}{T:Nat->Nat->Int}(ha:a<n)(hb:b<=a):
  ((Vx (n+1)).map λi=>D.lst (pQ (bK n a b i) λl=>T l i)).set (n-1-a) (.lst (pQ (b+1) (λl=>T l (n-1-a))++[D.int (T (b+1) (n-1-a))]))=(Vx (n+1)).map λi=>D.lst (pQ (bK n a (b+1) i) λl=>T l i):=by
 rw[oq (by lia)]
 refine VQ λi _=>?_;unfold bK
 by_cases e:i=n-1-a
 ·rw[if_pos e,e,if_neg (by lia),if_pos rfl]
  unfold pQ;rw[YX (n:=b+1),Vf];rfl
 ·rw[if_neg e,if_neg e,if_neg e]
theorem wC {n a:Nat}(h:a+1<n)(i:Nat)(hi:i<=n):bK n a (a+1) i=bK n (a+1) 0 i:=by
 unfold bK
 by_cases h1:n-1-a<i
 ·rw[if_pos h1,if_pos (by omega)]
 ·rw[if_neg h1]
  by_cases h2:i=n-1-a
  ·rw[if_pos h2,if_pos (by omega)];omega
  ·rw[if_neg h2,if_neg (by omega)]
   split <;> rfl
theorem zt {n a:Nat}(h:n=a+1)(i:Nat)(hi:i<=n):bK n a (a+1) i=n+1-i:=by
 unfold bK
 split
 ·rfl
 ·split <;> lia
theorem tJ {n:Nat}(h:0<n)(i:Nat)(hi:i<=n):bK n 0 0 i=1:=by
 unfold bK
 split
 ·lia
 ·split <;> rfl
theorem mL {n:Nat}{L L':Nat->Nat}{T:Nat->Nat->Int}(h:∀i,i<=n->L i=L' i):iR n L T=iR n L' T:=by
 unfold iR
 congr 1
 refine VQ λi hi=>?_;rw[h i (by have:=Wu.mp hi;lia)]
def sf (n idx:Nat)(L:Nat->Nat):Prop:=(n=0/\L 0=1)\/∃a b,a<n/\b<=a+1/\(∀i,i<=n->L i=bK n a b i)/\(og n).drop idx=dY n a b
theorem jK {n:Nat}:sf n 0 λ_=>1:=by
 rcases Nat.eq_zero_or_pos n with h|h
 ·exact .inl ⟨h,rfl⟩
 ·exact .inr ⟨0,0,h,Vb _,λi hi=>(tJ h i hi).symm,vL h⟩
theorem nD {n:Nat}{L:Nat->Nat}(h:sf n (og n).length L):∀i,i<=n->L i=n+1-i:=by
 rcases h with⟨rfl,h⟩|⟨a,b,h1,h2,h3,h4⟩
 ·intro i hi;rw[show i=0 by lia,h]
 ·intro i hi;rw[List.drop_length]at h4;have hb:b=a+1:=by
   rcases Wz a b with q|q
   ·lia
   ·rw[gG q]at h4;cases h4
  have ha:n=a+1:=by
   rcases Wz (a+1) n with q|q
   ·rw[hb,mR q,gG (Vb _)]at h4;cases h4
   ·lia
  rw[h3 i hi,hb];exact zt ha i hi
theorem lQ {n idx:Nat}{L:Nat->Nat}{p:Nat×Nat}(h:sf n idx L)(hp:(og n)[idx]?=some p):∃a b,a<n/\b<=a/\p=(n-1-a,n-a+b)/\(∀i,i<=n->L i=bK n a b i)/\(og n).drop (idx+1)=dY n a (b+1):=by
 have hd:(og n).drop idx=p::(og n).drop (idx+1):=by
  obtain⟨h1,h2⟩:=U6.mp hp;rw[V3 h1,h2]
 rcases h with⟨rfl,h⟩|⟨a,b,h1,h2,h3,h4⟩
 ·cases hp
 ·have key:∃a b,a<n/\b<=a/\(∀i,i<=n->L i=bK n a b i)/\(og n).drop idx=dY n a b:=by
   rcases Wz a b with q|q
   ·have e:b=a+1:=by lia
    rcases Wz (a+1) n with q2|q2
    ·exact⟨a+1,0,q2,Vb _,λi hi=>by rw[h3 i hi,e,wC q2 i hi],by rw[h4,e,mR q2]⟩
    ·rw[h4,e,sV q2]at hd;cases hd
   ·exact⟨a,b,h1,q,h3,h4⟩
  obtain⟨a,b,h1,h2,h3,h4⟩:=key;rw[h4,gG h2]at hd;injection hd with e1 e2
  exact⟨a,b,h1,h2,e1.symm,h3,e2.symm⟩
theorem qg {n a:Nat}:(dJ n a).length=a+1:=by unfold dJ;simp
theorem vW {n a b:Nat}(h:b<a+1):(dJ n a).take (b+1)=(dJ n a).take b++[(n-1-a,n-a+b)]:=by
 rw[V2];unfold dJ;rw[bS h];rfl
theorem yq {n a:Nat}:(dJ n a).take (a+1)=dJ n a:=Wi (by rw[qg];exact US _)
theorem rg {n:Nat}:∀a:Nat,a<=n->(((Vx n).take a).flatMap (dJ n)).length<=a*a
 |0,_=>by simp
 |a+1,h=>by
  have:=rg (n:=n) a (by lia)
  rw[V2,Wx (show a<n by lia),List.flatMap_append,U_]
  have e:((some a).toList.flatMap (dJ n)).length=a+1:=by simp[qg]
  rw[e,Nat.mul_add,YT];lia
theorem ya {n a b:Nat}(hn:n<=80)(ha:a<n)(hb:b<a+1):(((Vx n).take a).flatMap (dJ n)).length+((dJ n a).take b).length<U8:=by
 have h1:=rg (n:=n) a (by lia)
 have h2:((dJ n a).take b).length<=b:=by rw[VV];exact YW _ _
 have h3:a*a<=80*80:=Xv (by lia) (by lia)
 have h4:80*80+80<U8:=by decide
 lia
def oD:Option Nat->D
 |none=>.bC
 |some k=>.int (k:Int)
def parts (i:Nat)(k:Option Nat)(j:Nat):List (Nat×Nat):=match k with
 |none=>[(i+1,j)]
 |some k=>[(i+1,k),(k+1,j)]
def lL:FD:=λds R=>∃(i:Nat) (k:Option Nat) (j:Nat),ds=[.int i,oD k,.int j]/\R (.lst ((parts i k j).map DM))
theorem lL.mono:dO lL:=λds R R' k h=>by obtain⟨i,c,j,e,q⟩:=h;exact⟨i,c,j,e,k _ q⟩
theorem DY:∀{i:Nat} {l:List Nat},l.Nodup->(∀x∈l,x<i)->l.length<=i
 |0,l,_,h=>by
  cases l with
  |nil=>exact US _
  |cons x l=>exact absurd (h x (by simp)) (Nat.not_lt_zero _)
 |i+1,l,nd,h=>by
  have q:=DY (i:=i) (nd.erase i) λx hx=>by
   have:=nd.mem_erase_iff.mp hx;have:=h x this.2;lia
  have:=List.length_erase (a:=i) (l:=l)
  split at this <;> lia
theorem lS {ds:List D}{d:D}:jL (.lst (ds++[d])) (.int (-1))=some d:=by
 show gU (ds++[d]) (-1)=some d;unfold gU mw;rw[if_neg (by decide),if_pos (by rw[U_,W3];lia),X6,U_,W3,show (-1+((ds.length+1:Nat):Int)).toNat=ds.length by lia,VN (US _),WG]
 rfl
theorem lH {ps:List (Nat×Nat)}:D.c8 (ps.map λp=>kD (tI p))=true:=by
 have:=lI (ps.map tI);rw[V4]at this;exact this
def rE:FD:=λds R=>∃n ps,ds=[iN n ps]/\R (iN n ps)
theorem rE.mono:dO rE:=λds R R' k h=>by obtain⟨n,ps,e,q⟩:=h;exact⟨n,ps,e,k _ q⟩
theorem pT {α:Type}{f:α->Nat}:∀{l:List α},(l.map λa=>((f a:Nat):Int)).sum=((l.map f).sum:Nat)
 |[]=>rfl
 |a::l=>by rw[Vj,Wh,Vj,Wh,pT];lia
def mD:Nat->Nat
 |0=>1
 |n+1=>(n+1)*mD n
theorem pf (a:Nat):∀b,mD a*mD b<=mD (a+b)
 |0=>by show mD a*1<=mD a;lia
 |b+1=>by
  show mD a*((b+1)*mD b)<=(a+b+1)*mD (a+b);rw[Nat.mul_left_comm];exact Xv (by lia) (pf a b)
theorem fO {a b:Nat}(h:a<=b):mD a<=mD b:=by
 induction b with
 |zero=>rw[show a=0 by lia];exact US _
 |succ b ih =>
  rcases Wz b a with q|q
  ·rw[show a=b+1 by lia];exact US _
  ·exact VB (ih q) (Nat.le_mul_of_pos_left _ (by lia))
theorem An {a b:Int}(h:jr a b):Hh (.int a) (.int b)=some (.int (a*b)):=by
 show (if jr a b then _ else _)=_
 rw[if_pos h]
theorem sum_ints {α:Type}{f:α->Int}{l:List α}:ff (λns=>some ns.sum) [.lst (l.map λk=>D.int (f k))]=some (.int (l.map f).sum):=by
 have e:(l.map λk=>D.int (f k))=(l.map f).map D.int:=by simp
 rw[e];exact gR rfl
theorem mJ {kvs:List (List Int×D)}{t u:List Int}{d:D}(h:gm kvs t=none):gm (kvs++[(t,d)]) u=if u=t then some d else gm kvs u:=by
 unfold gm at *
 rw[List.find?_append]
 by_cases e:u=t
 ·subst e;rw[if_pos rfl,Option.map_eq_none_iff.mp h];simp
 ·rw[if_neg e];cases q:kvs.find? λp=>decide (p.1=u)with
  |some p=>rfl
  |none=>simp[WO e]
theorem yf (n:Nat)(ps:List (Nat×Nat)):(iN n ps).pd.canLay0=true/\(iN n ps).pd.depth<=4:=by
 have:=vP (n:Int) (ps.map tI);unfold Fm at this;rw[V4]at this;exact this
section
theorem CA {l:List Int}{m:Int}(h:wy l=some m):m∈l/\∀x∈l,x<=m:=by
 cases l with
 |nil=>cases h
 |cons a l=>cases h;exact dB l a
theorem Cz {l:List Int}{m:Int}(h1:m∈l)(h2:∀x∈l,x<=m):wy l=some m:=by
 cases h:wy l with
 |none=>cases l with|nil=>cases h1|cons a l=>cases h
 |some k =>
  obtain⟨g1,g2⟩:=CA h;have:=h2 _ g1;have:=g2 _ h1;rw[show k=m by lia]
end
section
end
def Lh:V->D
 |.bC=>.bC
 |.bl b=>.bl b
 |.int i=>.int i
 |.str x=>.str x
 |.ref a=>.obj a
 |_=>.bC
def PK:D->List V->D
 |.lst _,vs=>.lst (vs.map Lh)
 |.dT ks _,vs=>.dT ks (vs.map Lh)
 |.dK ks _,vs=>.dK ks (vs.map Lh)
 |d,_=>d
section
variable {P:UY}{w:Vc}{C:Cfg}{σ:St}{H:Hp}{β:a7}{own:Nat->List Addr}{i:Nat}
theorem FG {W:Addr->Prop}{H':Hp}{d:D}{v:V}(r:au P w W H' d v):Own P w H (Lh v) v []:=by
 cases d with
 |tup ds=>obtain⟨a,vs,rfl,_⟩:=r;exact⟨rfl,rfl⟩
 |lst ds=>obtain⟨a,vs,rfl,_⟩:=r;exact⟨rfl,rfl⟩
 |dT ks ds=>obtain⟨a,vs,rfl,_⟩:=r;exact⟨rfl,rfl⟩
 |dK ks ds=>obtain⟨a,vs,rfl,_⟩:=r;exact⟨rfl,rfl⟩
 |sT ts=>obtain⟨a,rfl,_⟩:=r;exact⟨rfl,rfl⟩
 |ob φ=>obtain⟨a,rfl,_⟩:=r;exact⟨rfl,rfl⟩
 |bC=>cases (show v=_ from r);exact⟨rfl,rfl⟩
 |bl b=>cases (show v=_ from r);exact⟨rfl,rfl⟩
 |int b=>cases (show v=_ from r);exact⟨rfl,rfl⟩
 |str b=>cases (show v=_ from r);exact⟨rfl,rfl⟩
 |obj b=>cases (show v=_ from r);exact⟨rfl,rfl⟩
theorem j5 {W:Addr->Prop}{H':Hp}:∀{ds:List D} {vs:List V},af P w W H' ds vs->aH P w H (vs.map Lh) vs []
 |[],_,e=>by cases e;exact⟨rfl,rfl⟩
 |_::_,_,⟨v,vs,rfl,h1,h2⟩=>⟨v,vs,[],[],rfl,rfl,FG h1,j5 h2⟩
theorem j6 {W:Addr->Prop}{H':Hp}{d:D}{o:HO}{vs:List V}{a:Addr}(r:af P w W H' (IE d) vs)(sh:HF d o vs)(h:H a=some o):Own P w H (PK d vs) (.ref a) [a]:=by
 cases d with
 |lst ds=>cases sh;exact⟨a,vs,[],rfl,h,rfl,j5 r⟩
 |dT ks ds=>obtain⟨rfl,l⟩:=sh;exact⟨a,vs,[],rfl,h,l,rfl,j5 r⟩
 |dK ks ds=>obtain⟨rfl,l⟩:=sh;exact⟨a,vs,[],rfl,h,l,rfl,j5 r⟩
 |_=>exact sh.elim
theorem ID {d:D}{o:HO}{vs:List V}(sh:HF d o vs):∀xs,o≠.tup xs:=λxs z=>by
 cases d with
 |lst ds=>cases sh;cases z
 |dT ks ds=>obtain⟨rfl,l⟩:=sh;cases z
 |dK ks ds=>obtain⟨rfl,l⟩:=sh;cases z
 |_=>exact sh.elim
theorem bh.toShl {d0 d:D}{v:V}{y:Bool}(s:bh P w C σ H β own)(e:β[i]?=some (some (.own d0)))(hσ:σ[i]?=some (some v))(r:Hv P w (eN C (Wn own) (yk y)) H d v (own i)):bh P w C σ H (β.set i (some (.shl y d))) own:=by
 refine⟨by simp[s.len],λj y' d' q=>?_,λj d' q=>?_,λj ok q=>?_,s.dm,s.fQ,s.gX,s.kp,s.fw,λj y' d' q=>?_⟩
 ·by_cases aB:i=j
  ·subst aB;obtain⟨e',_⟩:=a5 q;cases e'
  ·rw[aW aB]at q;exact s.val j y' d' q
 ·by_cases aB:i=j
  ·subst aB;obtain⟨e',_⟩:=a5 q;cases e'
  ·rw[aW aB]at q;exact s.ow j d' q
 ·by_cases aB:i=j
  ·subst aB;obtain⟨e',_⟩:=a5 q;cases e'
  ·rw[aW aB]at q;exact s.l6 j ok q
 ·by_cases aB:i=j
  ·subst aB;obtain⟨e',_⟩:=a5 q;cases e';obtain⟨_,_,_,h0⟩:=s.ow i d0 e;exact⟨v,hσ,r,h0⟩
  ·rw[aW aB]at q;exact s.shl j y' d' q
theorem bh.jt {d:D}{y:Bool}(s:bh P w C σ H β own)(e:β[i]?=some (some (.shl y d))):∃a o vs,σ[i]?=some (some (.ref a))/\own i=[a]/\H a=some o/\HF d o vs/\af P w (eN C (Wn own) (yk y)) H (IE d) vs/\C.H0 a=none/\bh P w C σ H (β.set i (some (.own (PK d vs)))) own:=by
 obtain⟨v,h1,⟨a,o,vs,rfl,h2,h3,h4,h5⟩,h6⟩:=s.shl i y d e;refine⟨a,o,vs,h1,h2,h3,h4,h5,h6 a (by rw[h2];simp),by simp[s.len],λj y' d' q=>?_,λj d' q=>?_,λj ok q=>?_,s.dm,s.fQ,s.gX,s.kp,s.fw,λj y' d' q=>?_⟩
 ·by_cases aB:i=j
  ·subst aB;obtain⟨e',_⟩:=a5 q;cases e'
  ·rw[aW aB]at q;exact s.val j y' d' q
 ·by_cases aB:i=j
  ·subst aB;obtain⟨e',_⟩:=a5 q;cases e';exact⟨.ref a,h1,by rw[h2];exact j6 h5 h4 h3,h6⟩
  ·rw[aW aB]at q;exact s.ow j d' q
 ·by_cases aB:i=j
  ·subst aB;obtain⟨e',_⟩:=a5 q;cases e'
  ·rw[aW aB]at q;exact s.l6 j ok q
 ·by_cases aB:i=j
  ·subst aB;obtain⟨e',_⟩:=a5 q;cases e'
  ·rw[aW aB]at q;exact s.shl j y' d' q
theorem Fg {W:Addr->Prop}{d:D}{o:HO}{vs:List V}{a:Addr}(sh:HF d o vs)(h:H a=some o)(nw:¬ W a)(r:af P w W H (IE d) vs):au P w W H d (.ref a):=by
 cases d with
 |lst ds=>cases sh;exact⟨a,vs,rfl,h,nw,r⟩
 |dT ks ds=>obtain⟨rfl,l⟩:=sh;exact⟨a,vs,rfl,h,l,nw,r⟩
 |dK ks ds=>obtain⟨rfl,l⟩:=sh;exact⟨a,vs,rfl,h,l,nw,r⟩
 |_=>exact sh.elim
theorem bh.CV {d:D}{y:Bool}(s:bh P w C σ H β own)(e:β[i]?=some (some (.shl y d))):bh P w C σ H (β.set i (some (.val y d))) (aC own i []):=by
 obtain⟨a,o,vs,h1,h2,h3,h4,h5,h6,s'⟩:=s.jt e;have hl:i<β.length:=(U6.mp e).1;have f:=s'.freeze (get_set hl);have sub:∀c,eN C (Wn (aC own i [])) (yk y) c->eN C (Wn own) (yk y) c:=fT (λc z=>cM z) _;have q:=bh.eT (i:=i) (d:=d) (v:=.ref a) (y:=y) f (Fg h4 h3 (λz=>?_) (af.aL sub h5))
 ·have es:σ.set i (some (.ref a))=σ:=by
   apply WK;intro j;rw[WJ]
   by_cases aB:i=j
   ·subst aB;rw[if_pos rfl,h1,if_pos (U6.mp h1).1]
   ·rw[if_neg aB]
  have eo:aC (aC own i []) i []=aC own i []:=by
   funext j
   by_cases aB:i=j
   ·rw[<- aB,os_eq,os_eq]
   ·rw[aV aB,aV aB]
  rw[es,Xw,Xw,eo]at q;exact q
 ·have nW:¬ Wn (aC own i []) a:=λKI=> by
   obtain⟨j,hj⟩ := KI;obtain⟨hj,ne⟩:=a3 hj;exact ne (s.fQ j i a hj (by rw[h2];simp))
  rcases z with z|z
  ·cases y with
   |true=>exact z.elim nW λz=>z h6
   |false=>exact nW z
  ·exact(s.dm i a (by rw[h2];simp)).2.2.2 z
end
abbrev NA (k:Kd)(d:D):Prop:=match k with
 |.own=>True
 |.cQ=>True
 |_=>d.flat=true
theorem KV.yg {P:UY}{w:Vc}{C:Cfg}{Z:Hp×(Addr->Prop)}{own:Nat->List Addr}{H:Hp}{d:D}{v:V}{k:Kd}(f:NA k d)(r:KV P w C Z own H k d v):au P w (av C (Wn own) .cQ) H d v:=by
 cases k with
 |own=>exact r.cQ
 |cQ=>exact r
 |old=>exact au.flat f r
 |bor=>exact au.flat f r
theorem af.snoc {P:UY}{w:Vc}{W:Addr->Prop}{H:Hp}{d:D}{v:V}(h:au P w W H d v):∀{ds:List D} {vs:List V},af P w W H ds vs->af P w W H (ds++[d]) (vs++[v])
 |[],_,e=>by cases e;exact⟨v,[],rfl,h,rfl⟩
 |_::_,_,⟨u,r,rfl,h1,h2⟩=>⟨u,r++[v],rfl,h1,af.snoc h h2⟩
section
variable {X:Cx}{C:Cfg}{k e:Expr}{es:List Expr}{φ φk:aM}{φs:bI}{i:Nat}{x:Str}{pos pos' px pc ap cp:Pos}{p pk:Bool}
def IU (i:Nat):aM:=λβ R=>∃d,β[i]?=some (some (.shl true d))/\R d .cQ (β.set i (some (.val true d)))
theorem BX (hN:X.N[i]?=some x:=by rfl)(hv:j9 X.env.scope x:=by first|exact .inl rfl|exact .inr (.inl rfl)|exact .inr (.inr rfl))(hd:(x==("__debug__" : Str))=false:=by decide)(c7:(x==("__classdict__" : Str))=false:=by decide):
  PQ X C false (.Name x pos) (IU i):=⟨λβ R R' k h=>by obtain⟨b,e,h⟩:=h;exact⟨b,e,k _ _ _ h⟩,(bp hN hv hd c7).pre λσ H Q h=>by
 obtain⟨β,own,s,d,e,q⟩:=h;have f:=s.CV e;obtain⟨v,h1,h2⟩:=f.gm (y:=true) (get_set (U6.mp e).1);exact⟨v,h1,q v H _ ⟨f,⟨λb z=>.inl (cM z),Kp.refl,λ_ z=>z⟩,λz=>(nomatch z),λ_ z=>cM z⟩ h2⟩⟩
theorem E5 {own:Nat->List Addr}{i:Nat}{a:Addr}(h:own i=[a]):∀c,Wn (aC own i [a]) c->Wn own c:=λc KH=> by
 obtain⟨j,hj⟩ := KH
 by_cases aB:i=j
 ·rw[<- aB,os_eq]at hj;exact⟨i,by rw[h];exact hj⟩
 ·rw[aV aB]at hj;exact⟨j,hj⟩
theorem bh.IZ {P:UY}{w:Vc}{U:Addr->Prop}{σ:St}{H:Hp}{β:a7}{own:Nat->List Addr}{d d':D}{a:Addr}{o:HO}{vs':List V}(b:bh P w (C.u U) σ H β own)(e:β[i]?=some (some (.shl true d)))(hσ:σ[i]?=some (some (.ref a)))
  (sh:HF d' o vs') (r:af P w (av (C.u U) (Wn own) .cQ) (upd H a o) (IE d') vs'):bh P w C.z σ (upd H a o) (β.set i (some (.shl true d'))) (aC own i [a])/\(∀c∈[a],c∈own i\/(C.H0 c=none/\¬ Wn own c/\U c))/\Wn own a/\∃oc,H a=some oc/\∀xs,oc≠.tup xs:=by
 obtain⟨a',o1,vs,h1,h2,h3,h4,h5,h6,s'⟩:=b.jt e;rw[hσ]at h1;cases h1;have hl:i<β.length:=(U6.mp e).1;have ha:a∈own i:=by rw[h2];simp
 have hA:∀c∈[a],c∈own i\/(C.H0 c=none/\¬ Wn own c/\U c):=λc hc=>.inl (by rw[h2];exact hc)
 have q:=s'.putIn (get_set hl) hσ ha (j6 r sh aj) (by simp) hA
 rw[Xw]at q;have q2:=q.toShl (d:=d') (y:=true) (get_set (by simpa using hl)) hσ ⟨a,o,vs',rfl,by rw[os_eq],aj,sh,af.aL (λc z=>?_) r⟩
 ·rw[Xw]at q2;exact⟨q2,hA,⟨i,ha⟩,o1,h3,ID h4⟩
 ·rcases z with z|z
  ·exact gk (C:=C) (E5 h2) .cQ c z
  ·exact z.elim
theorem zv {H:Hp}{a:Addr}{o oc:HO}{W:Addr->Prop}(h:H a=some oc)(ht:∀xs,oc≠.tup xs)(hw:W a):Kp W H (upd H a o):=(e_ h ht).mono λc z=>by rw[z];exact hw
theorem B8 (he:∀U,PQ X (C.u U) p e φ)(hN:X.N[i]?=some x:=by rfl)(hv:j9 X.env.scope x:=by first|exact .inl rfl|exact .inr (.inl rfl)|exact .inr (.inr rfl))(hd:(x==("__debug__" : Str))=false:=by decide)(c7:(x==("__classdict__" : Str))=false:=by decide)
  (b5:Wr (.Name x px) "append" X.env (eval (.Name x px) X.env)=eval (.Name x px) X.env:=by rfl)
  (gO:((Wq cp (U5 [e] X.env)).all (λx=>!x.1)&&(X5 cp (Xp [] X.env)).all (λx=>x.1.isSome)&&decide ([e].length+([]:List W6).length+(if ([]:List W6).isEmpty then 0 else 1)<30))=true:=by rfl)
  (b4:(ap.endLine==cp.line)=true:=by rfl) (hs:U5 [e] X.env=(false,eval e X.env)::U5 [] X.env:=by rfl) (cj:(Wq cp (U5 [] X.env)).any (·.1)=false:=by rfl)
  (o7:Wg (.Call (.Attribute (.Name x px) "append" ap) [e] [] cp) none pos.line X.env=pure false:=by rfl) :
  PB X C (.Expr (.Call (.Attribute (.Name x px) "append" ap) [e] [] cp) pos) (λE β=>(∃ds,β[i]?=some (some (.shl true (.lst ds))))/\φ β λd k β'=>NA k d/\∃ds,β'[i]?=some (some (.shl true (.lst ds)))/\ds.length<U8/\E.nx (β'.set i (some (.shl true (.lst (ds++[d])))))):=by
 refine⟨λE E' β l h=>by obtain⟨h1,q⟩:=h;exact⟨h1,(he λ_=>False).mono _ _ _ (λd k β' h=>by obtain⟨f,ds,h1,h2,q⟩:=h;exact⟨f,ds,h1,h2,l.nx _ q⟩) q⟩,λpins s σ H D I ⟨Z,E,β,⟨own,sq,n⟩,⟨⟨Pa,hb⟩,q⟩,ok⟩=>?_⟩
 refine dZ (pos:=pos) (kU (apos:=ap) (cpos:=cp) PySem.F.plainAttrs_list PySem.F.slot_list_append PySem.F.type_list_append di (bp (pos:=px) hN hv hd c7) (aF (he λa=>H a=none).pe bq hs) b5 gO b4 hs cj) o7 pins s σ H D I ?_;obtain⟨a,o0,vs,h1,h2,h3,h4,_⟩:=sq.jt hb;cases h4;refine⟨.ref a,h1,.inl ⟨rfl,vs,b3.of h3⟩,tQ.of (he λa=>H a=none) (sq.gu (C:=C.z) (U:=λa=>H a=none) λa z=>z) q λd k β' v H1 ao ⟨f,ds,gY,hl,q⟩ o r=>?_⟩;obtain⟨a',o1,vs',g1,g2,g3,g4,g5,_,_⟩:=o.sq.jt gY;rw[h1]at g1;cases g1;cases g4;have wa:av (C.u λa=>H a=none) (Wn ao) .cQ a:=.inl ⟨i,by rw[g2];simp⟩
 have kp:Kp (av (C.u λa=>H a=none) (Wn ao) .cQ) H1 (upd H1 a (.lst (vs'++[v]))):=zv g3 (λxs z=>by cases z) wa
 obtain⟨s2,hA,hw,zO⟩:=o.sq.IZ (d':=.lst (ds++[d])) (o:=.lst (vs'++[v])) (vs':=vs'++[v]) gY h1 rfl (af.snoc ((r.yg f).keep kp) ((af.aL (λc z=>.inl z) g5).keep kp));exact⟨a,vs',v,rfl,rfl,g3,by rw[g5.length];exact hl,ok.nx _ _ _ ⟨_,s2,gD (C:=C) (n.trans o.sn) (λb z=>n.free z) hw zO hA⟩ q⟩
theorem qw (hu:X.A.units+1<XX)(he:∀U,PQ X (C.u U) p e φ)(hk:∀U,PQ X (C.u U) pk k φk)(hN:X.N[i]?=some x:=by rfl)(hv:j9 X.env.scope x:=by first|exact .inl rfl|exact .inr (.inl rfl)|exact .inr (.inr rfl))(hd:(x==("__debug__" : Str))=false:=by decide)(c7:(x==("__classdict__" : Str))=false:=by decide)
  (hs:Wg e (some (.Subscript (.Name x px) k pos')) pos.line X.env=pure false:=by rfl) :
  PB X C (.Assign [.Subscript (.Name x px) k pos'] e pos) (λE β=>φ β λd kd β1=>(NA kd d/\kd≠.bor)/\(∃kvs,β1[i]?=some (some (.shl true (dA kvs))))/\φk β1 λjd _ β2=>∃kvs t,jd=.tup (t.map D.int)/\β2[i]?=some (some (.shl true (dA kvs)))/\gm kvs t=none/\kvs.length<U8/\E.nx (β2.set i (some (.shl true (dA (kvs++[(t,d)])))))):=by
 refine⟨λE E' β l q=>(he λ_=>False).mono _ _ _ (λd kd β1 h=>by obtain⟨f,h0,q⟩:=h;exact⟨f,h0,(hk λ_=>False).mono _ _ _ (λjd _ β2 h=>by obtain⟨kvs,t,h1,h2,h3,h4,q⟩:=h;exact⟨kvs,t,h1,h2,h3,h4,l.nx _ q⟩) q⟩) q,λpins s σ H De I ⟨Z,E,β,⟨own,sq,n⟩,q,ok⟩=>?_⟩
 refine uH hu (bp (pos:=px) hN hv hd c7) (hk λa=>H a=none).pe (he λa=>H a=none).pe hs pins s σ H De I ?_;refine tQ.of (he λa=>H a=none) (sq.gu (C:=C.z) (U:=λa=>H a=none) λa z=>z) q λd kd β1 v H1 ao ⟨⟨f,nb⟩,⟨R6,A9⟩,q⟩ o r=>?_;obtain⟨a0,_,_,jG,_⟩:=o.sq.jt A9;refine⟨_,jG,tQ.of (hk λa=>H a=none) o.sq q λjd kj β2 jv H2 aY ⟨kvs,t,e1,hb,hn,hl,q⟩ o2 r2=>?_⟩;subst e1;have rv:=(KV.held (Z:=(H,Wn own)) nb r o2.sn).yg f;obtain⟨a,o1,vs,g1,g2,g3,g4,g5,_,_⟩:=o2.sq.jt hb;rw[jG]at g1;cases g1;obtain⟨rfl,l⟩:=g4;obtain⟨b,us,rfl,zV,rt⟩:=r2.rep;rw[L2.a8 rt]at zV;have Gs:eP ((kvs.map λp=>iK p.1).zip vs) (iK t)=none:=by
  have:=(oA (k:=iK t) (ks:=kvs.map λp=>iK p.1) (ds:=kvs.map (·.2)) l g5).1;rw[sL,hn]at this;exact Option.isNone_iff_eq_none.mp (by rw[<- Option.not_isSome,this];rfl)
 have GV:putK ((kvs.map λp=>iK p.1).zip vs) (iK t) v=((kvs++[(t,d)]).map λp=>iK p.1).zip (vs++[v]):=by
  rw[yz v Gs,Vf,List.zip_append l];rfl
 refine⟨a0,_,rfl,.inr ⟨_,iK t,b,g3,rfl,by rw[u6];exact zV,by rw[List.length_zip,<- l,Nat.min_self,UR];exact hl,rfl⟩,?_⟩
 have wa:av (C.u λa=>H a=none) (Wn aY) .cQ a0:=.inl ⟨i,by rw[g2];simp⟩
 have kp:Kp (av (C.u λa=>H a=none) (Wn aY) .cQ) H2 (upd H2 a0 (.dT (putK ((kvs.map λp=>iK p.1).zip vs) (iK t) v))):=zv g3 (λxs z=>by cases z) wa
 obtain⟨s2,hA,hw,zO⟩:=o2.sq.IZ (d':=dA (kvs++[(t,d)])) (o:=.dT (putK ((kvs.map λp=>iK p.1).zip vs) (iK t) v)) (vs':=vs++[v]) hb jG ⟨by rw[GV],by rw[UR,U_,U_,<- l,UR];rfl⟩
  (by show af _ _ _ _ ((kvs++[(t,d)]).map (·.2)) _;rw[Vf];exact af.snoc (rv.keep kp) ((af.aL (λc z=>.inl z) g5).keep kp))
 exact ok.nx _ _ _ ⟨_,s2,gD (C:=C) ((n.trans o.sn).trans o2.sn) (λb z=>n.free z) hw zO hA⟩ q
theorem yQ (hN:X.N.Nodup)(hi:X.N[i]?=some x:=by rfl)(hx:Loc X.env.scope x:=by first|exact .inl rfl|exact .inr rfl)
  (hs:Wg (.Dict [] [] pc) (some (.Name x pos')) pos.line X.env=pure false:=by rfl) (hf:X.fn x=true\/X.env.scope.names.lookup x=some .local:=by first|exact .inl rfl|exact .inr rfl|assumption) :
  PB X C (.Assign [.Name x pos'] (.Dict [] [] pc) pos) (λE β=>i<β.length/\E.nx (β.set i (some (.shl true (dA []))))) :=
 ⟨λE E' β l h=>⟨h.1,l.nx _ h.2⟩,λpins s σ H D I KG=> by
  obtain⟨Z,E,β,⟨own,sq,n⟩,⟨K2,q⟩,ok⟩ := KG;refine gH hN hi hx qt hs hf pins s σ H D I λa ha=>?_;have h0:C.H0 a=none:=VF λz=>sq.fw a z ha;have nw:¬ Wn own a:=λz=>sq.sA a z ha;have s1:=(sq.gu (C:=C.z) (U:=λc=>c=a) λc z=>by rw[z];exact ha).same (ay.new (o:=.dT []) ha)
  have s2:=s1.oz (i:=i) (j6 (d:=dA []) (vs:=[]) (W:=λ_=>False) (H':=H) (by rfl) ⟨rfl,rfl⟩ aj) (by simp) λc hc=>⟨by rw[U3.mp hc];exact h0,by rw[U3.mp hc];exact nw,U3.mp hc⟩
  have s3:=s2.toShl (d:=dA []) (y:=true) (get_set K2) (get_set (by rw[<- sq.len];exact K2)) ⟨a,.dT [],[],rfl,by rw[os_eq],aj,⟨rfl,rfl⟩,rfl⟩
  rw[Xw]at s3;refine ok.nx _ _ _ ⟨_,s3,?_⟩ q;have m:=n.same (ay.new (o:=.dT []) ha);exact⟨λb KD=> by
   obtain⟨j,hj⟩ := KD
   by_cases aB:i=j
   ·rw[<- aB,os_eq]at hj;rw[U3.mp hj];exact .inr (n.free ha)
   ·rw[aV aB]at hj;exact m.w b ⟨j,hj⟩,m.k,m.d⟩⟩
theorem B6 (he:∀U,nO X (C.u U) p es φs)(hN:X.N.Nodup)(hi:X.N[i]?=some x:=by rfl)(hx:Loc X.env.scope x:=by first|exact .inl rfl|exact .inr rfl)
  (hs:Wg (.List es pc) (some (.Name x pos')) pos.line X.env=pure false:=by rfl) (hf:X.fn x=true\/X.env.scope.names.lookup x=some .local:=by first|exact .inl rfl|exact .inr rfl|assumption) :
  PB X C (.Assign [.Name x pos'] (.List es pc) pos) (λE β=>φs β λds ks β'=>ed ks=.cQ/\ds.length<=U8/\i<β'.length/\E.nx (β'.set i (some (.shl true (.lst ds))))) :=
 ⟨λE E' β l h=>(he λ_=>False).mono _ _ _ (λds ks β' h=>⟨h.1,h.2.1,h.2.2.1,l.nx _ h.2.2.2⟩) h,λpins s σ H D I KC=> by
  obtain⟨Z,E,β,⟨own,sq,n⟩,q,ok⟩ := KC;refine gH hN hi hx (oJ (he λa=>H a=none).pa) hs hf pins s σ H D I ?_;refine pE.of (he λa=>H a=none) (sq.gu (C:=C.z) (U:=λa=>H a=none) λa z=>z) q λds ks β1 vs H1 ao ⟨hk,hl,K2,q⟩ o r=>⟨by rw[r.length];exact hl,λa ha=>?_⟩
  have QJ:H a=none:=o.sn.free ha;have h0:C.H0 a=none:=VF λz=>o.sq.fw a z ha;have nw:¬ Wn ao a:=λz=>o.sq.sA a z ha;have rr:=r.fG;rw[hk]at rr;have s1:=o.sq.same (ay.new (o:=.lst vs) ha);have s2:=s1.oz (i:=i) (j6 (d:=.lst ds) (vs:=vs) rr rfl aj) (by simp) λc hc=>⟨by rw[U3.mp hc];exact h0,by rw[U3.mp hc];exact nw,by rw[U3.mp hc];exact QJ⟩
  have s3:=s2.toShl (d:=.lst ds) (y:=true) (get_set K2) (get_set (by rw[<- o.sq.len];exact K2)) ⟨a,.lst vs,vs,rfl,by rw[os_eq],aj,rfl,(af.grow (λc z=>?_) rr).same (ay.new ha)⟩
  ·rw[Xw]at s3;refine ok.nx _ _ _ ⟨_,s3,?_⟩ q;have m:=(n.trans o.sn).same (ay.new (o:=.lst vs) ha);exact⟨λb KA=> by
    obtain⟨j,hj⟩ := KA
    by_cases aB:i=j
    ·rw[<- aB,os_eq]at hj;rw[U3.mp hj];exact .inr (n.free QJ)
    ·rw[aV aB]at hj;exact m.w b ⟨j,hj⟩,m.k,m.d⟩
  ·rcases z with z|z
   ·rcases z with⟨j,hj⟩|z
    ·by_cases aB:i=j
     ·rw[<- aB,os_eq]at hj;rw[U3.mp hj];exact .inr ha
     ·rw[aV aB]at hj;exact .inl (.inl ⟨j,hj⟩)
    ·exact .inl (.inr z)
   ·exact z.elim⟩
def MT:R2:=λx y H Q=>∃(p:Addr) (ks:List (List Key)) (vs:List V) (t:List Int) (v:V),x=.ref p/\xt H p y (eP (ks.zip vs) (iK t))/\eP (ks.zip vs) (iK t)=some v/\Q v H
theorem JF (hu:X.A.units+1<XX):Bf X MT:=by
 intro value slice pins s σ H x y v u Q I rx ry h hs;obtain⟨p,ks,vs,t,w',rfl,g,hw,q⟩:=h;rw[hw]at g;cases (show v=Value.ref p from rx)
 exact tail_any (rH I g) PySem.F.slot_dict_getitem.lookup (w9 hu I g ry λu' s' I' r'=>⟨w',H,I',r',q⟩) hs
def IT (i:Nat)(φk:aM):aM:=λβ R=>(∃d,β[i]?=some (some (.shl true d)))/\φk β λjd _ β1=>∃kvs t d,jd=.tup (t.map D.int)/\β1[i]?=some (some (.shl true (dA kvs)))/\gm kvs t=some d/\R d .cQ β1
theorem j0 (hu:X.A.units+1<XX)(hk:PQ X C pk k φk)(hN:X.N[i]?=some x:=by rfl)(hv:j9 X.env.scope x:=by first|exact .inl rfl|exact .inr (.inl rfl)|exact .inr (.inr rfl))(hd:(x==("__debug__" : Str))=false:=by decide)(c7:(x==("__classdict__" : Str))=false:=by decide)(hs:d8 k:=by exact λ_ _=>rfl):
  PQ X C pk (.Subscript (.Name x px) k pos) (IT i φk) :=
 ⟨λβ R R' kk h=>⟨h.1,hk.mono _ _ _ (λjd _ β1 h=>by obtain⟨kvs,t,d,h1,h2,h3,q⟩:=h;exact⟨kvs,t,d,h1,h2,h3,kk _ _ _ q⟩) h.2⟩,(cT (JF hu) (bp (pos:=px) hN hv hd c7) hk.pe hs).pre λσ H Q Kz=> by
  obtain⟨β,own,sq,⟨d0,A9⟩,q⟩ := Kz;obtain⟨a0,_,_,jG,_⟩:=sq.jt A9;refine⟨_,jG,tQ.of hk sq q λjd kj β1 jv H1 ao ⟨kvs,t,d,e1,hb,Gs,q⟩ o r=>?_⟩;subst e1;obtain⟨a,o1,vs,g1,g2,g3,g4,g5,_,_⟩:=o.sq.jt hb;rw[jG]at g1;cases g1;obtain⟨rfl,l⟩:=g4;obtain⟨b,us,rfl,zV,rt⟩:=r.rep;rw[L2.a8 rt]at zV;obtain⟨w',hw,yp⟩:=(oA (k:=iK t) (ks:=kvs.map λp=>iK p.1) (ds:=kvs.map (·.2)) l g5).2 d (by rw[sL];exact Gs)
  exact⟨a0,_,vs,t,w',rfl,xt.t g3 (by rw[u6];exact zV),hw,q _ _ ao o (au.aL (λc z=>.inl z) yp)⟩⟩
end
end L2.Q
namespace L2
open PySem PySem.Spec PySem.SeqAt PyProof.Rows
def Lm (a b:D):Option D:=a.CB.bind λds=>b.int?.bind λk=>if 0<=k/\k<2 ^ 62/\ds.length*k.toNat<=U8 then some (.lst (U9 k.toNat ds).flatten) else none
theorem iX {P:UY}{w:Vc}{W:Addr->Prop}{H:Hp}{ds:List D}{vs:List V}(h:af P w W H ds vs):∀k:Nat,af P w W H (U9 k ds).flatten (U9 k vs).flatten
 |0=>rfl
 |k+1=>by
  rw[Wd,W5,Wd,W5];exact h.append (iX h k)
theorem k9 {X:Cx}:LD X (WR .Mult) Lm:=by
 intro pins s σ H x y v u Q I rx ry h;obtain⟨W,d1,d2,d,hd,r1,r2,e,q⟩:=h;obtain⟨ds,h1,e⟩:=VZ.mp e;obtain⟨k,h2,e⟩:=VZ.mp e;obtain⟨⟨k0,k1,hl⟩,rfl⟩:=fb e;rw[D.oV h1]at r1;rw[D.oZ h2]at r2;obtain⟨p,vs,rfl,g1,n1,q1⟩:=r1;exact FJ pins s σ H _ _ v u Q I rx ry ⟨p,k,vs,rfl,r2,g1,by lia,by lia,by rw[q1.length];exact hl,λl zR=>q _ _ (ay.new zR) (Rp.i_ hd zR (iX q1 _)) λf=>wt zR f (iX q1 _)⟩
namespace Q
section
end
end Q
end L2
namespace gZ
open PySem L2 L2.Q
def rC:FD:=λds R=>∃m:Int,ds=[.int m]/\0<=m/\m<=40/\∀(n:Int) ts,0<=n->n<=m->Drawn n ts->R (.tup [.int n,.lst (ts.map kD)])
theorem rC.mono:dO rC:=λds R R' k h=>by obtain⟨m,e,h1,h2,q⟩:=h;exact⟨m,e,h1,h2,λn ts a b c=>k _ (q n ts a b c)⟩
theorem w5 {n:Int}{ks:List (List Int)}(h:gq n ks)(nd:ks.Nodup):∃ts,cutD ((jw ks).map kD) none (some 300)=ts.map kD/\Drawn n ts:=by
 refine⟨(jw ks).take (min 300 (jw ks).length),?_,?_,?_,?_,?_⟩
 ·unfold cutD;rw[HT.qf,show (some (300:Int))=some ((300:Nat):Int) from rfl,HT.BK,Za,<- List.map_take]
  simp
 ·rw[VV];lia
 ·exact λt ht=>h t ((h_ _).mem_iff.mp (List.mem_of_mem_take ht))
 ·exact List.Pairwise.take (kB _)
 ·exact List.Nodup.sublist (List.take_sublist _ _) ((h_ _).nodup_iff.mpr nd)
section
variable {P:UY}{w:Vc}{K:PySem.W.Frag}{mg:Str->Option UQ}{base:Heap}
theorem a9:aP ["deck","most","size","great","many","ties","way","a","b","k"] ["deck","most"] (az fZ):=mkS
theorem FT {Mb C1} (dR:D0 K mg Mb C1) {O3 G_} (dT:D1 K mg O3 G_) (B:Bs mg):aX P w K mg base cy 3 Mb C1 ["deck","most"] (sQ P w A5 true rC):=by
 have GT:aX P w K mg base cy 1 _ _ _ (sQ P w A5 true dD):=Cf dT.F;refine Nb dR.F a9 (λds R Ky=> by obtain⟨m,e,_⟩ := Ky;subst e;rfl) λcV A outer s H E IO hr=>⟨_,(ai (bG (i:=2) (aR ag br (aI aJ aD (aI aJ aD (aI aJ k9 (bc (aa ah ae)) ah) (aI aJ k9 (bc (aa ah ae)) ah)) (bc (aa ah ae))) (cG (ih:=0) dD.mono GT (hr.mono (by decide)) dT.m dT.F.kp dT.b (aa ah ae))) a9.nd)
    (ai (bG (i:=3) (aR ag br (bc (aa (cG (ih:=0) dD.mono GT (hr.mono (by decide)) dT.m dT.F.kp dT.b (aa (aI aJ aD (ab (i:=1)) ah) ae)) (aa (ab (i:=1)) ae))) (cG (ih:=0) dD.mono GT (hr.mono (by decide)) dT.m dT.F.kp dT.b (aa ah ae))) a9.nd)
    (ai (bG (i:=4) (bH ag (cx.m (gT rfl)) B.min t9 (aa (ab (i:=1)) (aa (aR ag br (bc (aa (cG (ih:=0) dD.mono GT (hr.mono (by decide)) dT.m dT.F.kp dT.b (aa ah ae)) (aa (cG (ih:=0) dD.mono GT (hr.mono (by decide)) dT.m dT.F.kp dT.b (aa ah ae)) (aa (ab (i:=3)) ae)))) (ab (i:=2))) ae))) a9.nd)
    (ai (f9 (i:=5) (λ_=>(BY true)) a9.nd)
    (ai (bG (i:=6) (cG (ih:=0) dD.mono GT (hr.mono (by decide)) dT.m dT.F.kp dT.b (aa ah ae)) a9.nd)
    (ai (cb VC rfl (bO B.range (aa (ab (i:=4)) ae)) (aw (i:=7) a9.nd) (j3 (c4 (sG.t (oG (aS ag (b8.m (dy hr.units)) (ab (i:=6)) ah) (kO (aS ag (b8.m cY) (aI aJ aD (ab (i:=7)) ah) (ab (i:=4)))))) (ar (j4 (i:=5) hr.d9 (bP (aa (ab (i:=7)) (aa (aI aJ aD (ab (i:=7)) ah) ae))))) bu)
    (j3 (c4 (sG.t (oG (aS ag (b8.m (dy hr.units)) (ab (i:=6)) ah) (kO (aS ag (b8.m cY) (ab (i:=7)) (aI ag (b8.m bU) (aI ag (b8.m bU) (ab (i:=4)) ah) (ab (i:=7))))))) (ar (j4 (i:=5) hr.d9 (bP (aa (ab (i:=7)) (aa (aI ag (b8.m bU) (aI ag (b8.m bU) (ab (i:=4)) ah) (ab (i:=7))) ae))))) bu)
    (ar (cb VC rfl (kQ B.range (aa (aI aJ aD (ab (i:=7)) ah) (aa (bH ag (cx.m (gT rfl)) B.min t9 (aa (ab (i:=4)) (aa ah ae))) ae))) (aw (i:=8) a9.nd) (ar (c4 (sG.t (gK (aS ag (b8.m (dy hr.units)) (ab (i:=6)) ah) (ic (sG.t (oG (aS ag (b8.m (dy hr.units)) (ab (i:=6)) ah) (kO (aS ag (b8.m (dy hr.units)) (cG (ih:=0) dD.mono GT (hr.mono (by decide)) dT.m dT.F.kp dT.b (aa ah ae)) ah))))))) (ar (j4 (i:=5) hr.d9 (bP (aa (ab (i:=7)) (aa (ab (i:=8)) ae))))) bu)))))))
    (ai (cb VC rfl (bO B.range (aa (aI ag (b8.m oN) (cG (ih:=0) dD.mono GT (hr.mono (by decide)) dT.m dT.F.kp dT.b (aa (aR ag br (bc (aa ah (aa ah (aa ah ae)))) (cG (ih:=0) dD.mono GT (hr.mono (by decide)) dT.m dT.F.kp dT.b (aa ah ae))) ae)) (i4 ag (cx.m xk) B.int AA (aa (kR ag (b8.m FO) (ab (i:=4)) ah) ae))) ae)) (aw (i:=9) a9.nd) (ai (bG (i:=7) (cG (ih:=0) dD.mono GT (hr.mono (by decide)) dT.m dT.F.kp dT.b (aa (ab (i:=4)) ae)) a9.nd)
    (ai (bG (i:=8) (aI ag (b8.m Cc) (aI aJ aD (aI aJ aD (ab (i:=7)) ah) (cG (ih:=0) dD.mono GT (hr.mono (by decide)) dT.m dT.F.kp dT.b (aa (aI ag (b8.m bU) (ab (i:=4)) ah) ae))) (ab (i:=4))) a9.nd)
    (ar (j4 (i:=5) hr.d9 (bP (aa (bH ag (cx.m (gT rfl)) B.min t9 (aa (ab (i:=7)) (aa (ab (i:=8)) ae))) (aa (bH ag (cx.m (t8 rfl)) B.max t_ (aa (ab (i:=7)) (aa (ab (i:=8)) ae))) ae))))))))
    (ar (a_ (bP (aa (ab (i:=4)) (aa (DO (bH aJ (pq rfl) B.sorted xn (aa (ab (i:=5)) ae)) qo (qm ah)) ae)))))))))))),λds R h=>?_⟩
 obtain⟨m,rfl,Uw,Ej,q⟩:=h;have vJ:(1:Nat)<=U8:=gv (by lia)
 refine⟨trivial,vJ,trivial,_,rfl,.inl ⟨rfl,trivial,trivial,vJ,trivial,_,rfl,.inl ⟨rfl,_,rfl,.inl ⟨rfl,trivial,trivial,vJ,_,rfl,.inl ⟨rfl,trivial,rfl,trivial,rfl,trivial,16,rfl,by lia,by lia,λr r0 r1=>pick r0 (by simpa using r1) λd hd=>?_⟩⟩⟩⟩⟩
 obtain⟨sz,rfl,s0,s1⟩:∃s:Nat,d=.int (s:Int)/\0<=s/\s<=2:=by
  simp at hd;rcases hd with rfl|rfl|rfl
  ·exact⟨0,rfl,by lia,by lia⟩
  ·exact⟨1,rfl,by lia,by lia⟩
  ·exact⟨2,rfl,by lia,by lia⟩
 refine⟨rfl,_,rfl,trivial,_,rfl,trivial,rfl,trivial,m+1,rfl,by lia,by lia,λg0 UI UH=>⟨trivial,_,rfl,trivial,mM,trivial,rfl,trivial,rfl,trivial,2,rfl,by lia,by lia,λr r0 r1=>pick r0 (by simpa using r1) λd hd=>?_⟩⟩
 obtain⟨gr,rfl,Tc,UG⟩:∃s:Int,d=.int s/\0<=s/\s<=m:=by
  simp only[UW,WT,or_false]at hd;rcases hd with rfl|rfl
  ·exact⟨g0,rfl,by lia,by lia⟩
  ·exact⟨m,rfl,by lia,by lia⟩
 refine⟨_,rfl,trivial,rfl,trivial,rfl,trivial,7,rfl,by lia,by lia,λu u0 u1=>⟨trivial,rfl,trivial,rfl,trivial,11,rfl,by lia,by lia,λv v0 v1=>⟨trivial,_,rfl,trivial,PR,trivial,_,rfl,pick (by lia) (by show (sz:Int)<3;lia) λd hd=>?_⟩⟩⟩
 obtain⟨x,rfl,NK⟩:∃s:Int,d=.int s/\0<=s:=by
  simp only[UW,WT,or_false]at hd;rcases hd with rfl|rfl|rfl
  ·exact⟨u,rfl,u0⟩
  ·exact⟨v,rfl,v0⟩
  ·exact⟨gr,rfl,Tc⟩
 obtain⟨n,hn,n0,n1⟩:∃n:Int,rK [.int m,.int x]=some (.int n)/\0<=n/\n<=m:=⟨_,rJ,by split <;> lia,by split <;> lia⟩
 refine⟨trivial,_,hn,trivial,?_⟩;refine⟨rfl,trivial,rfl,trivial,6,rfl,by lia,by lia,λway w0 w1=>?_⟩
 have add:∀{ts:List (List Int)} {t:List Int},ts.Nodup->gq n ts->Mi n t->(rV ts t).Nodup/\gq n (rV ts t)/\(rV ts t).length<=ts.length+1:=λ{ts t} h1 h2 h3=>by
  unfold rV
  split
  ·exact⟨h1,h2,by lia⟩
  ·next hn =>
   refine⟨Vu.mpr ⟨h1,by simp,λx hx y hy z=>?_⟩,λu hu=>?_,by simp⟩
   ·rw[U3.mp hy]at z;exact hn (by rw[<- z];exact hx)
   ·rcases Vh.mp hu with z|z
    ·exact h2 u z
    ·rw[U3.mp z];exact h3
 refine⟨_,rfl,trivial,n,rfl,by lia,by lia,trivial,?_⟩
 refine⟨λi β=>∃(ts:List (List Int)) (x7 x8 x9:Option Q.B),β=[some (.hand A5),some (.val false (.int m)),some (.val true (.int sz)),some (.val true (.int gr)),some (.val true (.int n)),some (.own (dP ts true)),some (.val true (.int way)),x7,x8,x9]/\ts.Nodup/\gq n ts/\ts.length<=2*i+23*min i 23,⟨[],_,_,_,rfl,V7,gq.nil,by simp⟩,?_,?_⟩
 ·rintro i d β hd ⟨ts,x7,x8,x9,rfl,h1,h2,h3⟩;obtain⟨hi,rfl⟩:=cD hd;refine⟨λβ=>∃(ts:List (List Int)) (x8 x9:Option Q.B),β=[some (.hand A5),some (.val false (.int m)),some (.val true (.int sz)),some (.val true (.int gr)),some (.val true (.int n)),some (.own (dP ts true)),some (.val true (.int way)),some (.val true (.int (0+(i:Int)))),x8,x9]/\ts.Nodup/\gq n ts/\ts.length<=2*i+23*min i 23+1,?_,?_⟩
  ·refine⟨_,rfl,trivial,_,d6 _ _,_,rfl,si (λ_=>⟨_,rfl,trivial,_,rfl,trivial,_,rfl,_,rfl,_,rfl,si (λgh=>?_) (λ_=>⟨ts,_,_,rfl,h1,h2,by lia⟩)⟩) (λ_=>gg rfl ⟨ts,_,_,rfl,h1,h2,by lia⟩)⟩
   obtain⟨g1,g2,g3⟩:=add h1 h2 (t:=[0+(i:Int),0+(i:Int)+1]) ⟨_,_,rfl,by lia,by lia,by lia⟩
   exact⟨⟨_,rfl⟩,_,rfl,trivial,_,rfl,trivial,_,rfl,trivial,mM,ts,[0+(i:Int),0+(i:Int)+1],rfl,rfl,by rw[Wl];lia,_,_,_,rfl,g1,g2,by lia⟩
  rintro β ⟨ts,x8,x9,rfl,h1,h2,h3⟩;refine⟨λβ=>∃(ts:List (List Int)) (x8 x9:Option Q.B),β=[some (.hand A5),some (.val false (.int m)),some (.val true (.int sz)),some (.val true (.int gr)),some (.val true (.int n)),some (.own (dP ts true)),some (.val true (.int way)),some (.val true (.int (0+(i:Int)))),x8,x9]/\ts.Nodup/\gq n ts/\ts.length<=2*i+23*min i 23+2,?_,?_⟩
  ·refine⟨_,rfl,trivial,_,d6 _ _,_,rfl,si (λ_=>⟨_,rfl,trivial,_,rfl,trivial,_,rfl,trivial,_,rfl,_,rfl,_,rfl,_,rfl,si (λgh=>?_) (λ_=>⟨ts,_,_,rfl,h1,h2,by lia⟩)⟩) (λ_=>gg rfl ⟨ts,_,_,rfl,h1,h2,by lia⟩)⟩
   obtain⟨g1,g2,g3⟩:=add h1 h2 (t:=[0+(i:Int),n-1-(0+(i:Int))]) ⟨_,_,rfl,by lia,by lia,by lia⟩
   exact⟨⟨_,rfl⟩,_,rfl,trivial,_,rfl,trivial,_,rfl,trivial,_,rfl,_,rfl,trivial,mM,ts,[0+(i:Int),n-1-(0+(i:Int))],rfl,rfl,by rw[Wl];lia,_,_,_,rfl,g1,g2,by lia⟩
  rintro β ⟨ts,x8,x9,rfl,h1,h2,h3⟩;obtain⟨jg,Oo,UA,OE⟩:∃h:Int,rK [.int n,.int 24]=some (.int h)/\h<=n/\h<=24/\0<=h:=⟨_,rJ,by split <;> lia,by split <;> lia,by split <;> lia⟩
  refine⟨_,rfl,trivial,_,rfl,trivial,_,rfl,trivial,trivial,_,Oo,trivial,0+(i:Int)+1,jg,rfl,⟨by lia,by lia,by lia,by lia⟩,trivial,?_⟩
  refine⟨λj β=>∃(ts:List (List Int)) (x8 x9:Option Q.B),β=[some (.hand A5),some (.val false (.int m)),some (.val true (.int sz)),some (.val true (.int gr)),some (.val true (.int n)),some (.own (dP ts true)),some (.val true (.int way)),some (.val true (.int (0+(i:Int)))),x8,x9]/\ts.Nodup/\gq n ts/\ts.length<=2*i+23*min i 23+2+j,⟨ts,_,_,rfl,h1,h2,by lia⟩,?_,?_⟩
  ·rintro j d β hd ⟨ts,x8,x9,rfl,h1,h2,h3⟩;obtain⟨hj,rfl⟩:=cD hd;obtain⟨g1,g2,g3⟩:=add h1 h2 (t:=[0+(i:Int),0+(i:Int)+1+(j:Int)]) ⟨_,_,rfl,by lia,by lia,by lia⟩
   refine⟨_,rfl,trivial,_,d6 _ _,_,rfl,si (λ_=>o4 rfl ?_) (λ_=>⟨_,rfl,trivial,_,d6 _ _,_,rfl,si (λ_=>⟨rfl,trivial,rfl,trivial,3,rfl,by lia,by lia,λr r0 r1=>⟨trivial,_,d6 _ _,_,rfl,si (λ_=>?_) (λ_=>⟨ts,_,_,rfl,h1,h2,by lia⟩)⟩⟩) (λ_=>gg rfl ⟨ts,_,_,rfl,h1,h2,by lia⟩)⟩)⟩
   ·exact⟨⟨_,rfl⟩,_,rfl,trivial,_,rfl,trivial,mM,ts,[0+(i:Int),0+(i:Int)+1+(j:Int)],rfl,rfl,by rw[Wl];lia,_,_,_,rfl,g1,g2,by lia⟩
   ·exact⟨⟨_,rfl⟩,_,rfl,trivial,_,rfl,trivial,mM,ts,[0+(i:Int),0+(i:Int)+1+(j:Int)],rfl,rfl,by rw[Wl];lia,_,_,_,rfl,g1,g2,by lia⟩
  ·rintro β ⟨ts,x8,x9,rfl,h1,h2,h3⟩;rw[cS]at h3;exact⟨ts,_,_,_,rfl,h1,h2,by lia⟩
 ·rintro β ⟨ts,x7,x8,x9,rfl,h1,h2,h3⟩;rw[cS]at h3;refine⟨rfl,trivial,trivial,trivial,PR,trivial,rfl,trivial,rfl,trivial,3,rfl,by lia,by lia,λr r0 r1=>pick r0 (by simpa using r1) λd hd=>?_⟩
  obtain⟨mm,rfl,R1,Uk⟩:∃m:Int,d=.int m/\0<m/\m<=301:=by
   simp only[UW,WT,or_false]at hd;rcases hd with rfl|rfl|rfl
   ·exact⟨5,rfl,by lia,by lia⟩
   ·exact⟨21,rfl,by lia,by lia⟩
   ·exact⟨301,rfl,by lia,by lia⟩
  refine⟨trivial,rfl,trivial,mm,rfl,R1,by lia,λc c0 c1=>?_⟩
  have Li:Hh (.int c) (.int (if decide (n>1)=true then 1 else 0))=some (.int (c*(if decide (n>1)=true then 1 else 0))):=by
   show (if jr c _ then some _ else none)=_
   rw[if_pos (show jr c (if decide (n>1)=true then 1 else 0) from .inl ⟨by lia,by lia⟩)]
  have hj:0<=c*(if decide (n>1)=true then 1 else 0)/\c*(if decide (n>1)=true then 1 else 0)<=300/\(¬ n>1->c*(if decide (n>1)=true then 1 else 0)=0):=by
   by_cases hn:n>1
   ·simp[hn];lia
   ·simp[hn]
  generalize c*(if decide (n>1)=true then 1 else 0)=j at Li hj
  refine⟨trivial,_,rfl,trivial,_,rfl,trivial,_,rfl,_,Li,trivial,j,rfl,by lia,by lia,trivial,?_⟩
  refine⟨λi β=>∃(ts:List (List Int)) (x7 x8 x9:Option Q.B),β=[some (.hand A5),some (.val false (.int m)),some (.val true (.int sz)),some (.val true (.int gr)),some (.val true (.int n)),some (.own (dP ts true)),some (.val true (.int way)),x7,x8,x9]/\ts.Nodup/\gq n ts/\ts.length<=609+i,⟨ts,_,_,_,rfl,h1,h2,by lia⟩,?_,?_⟩
  ·rintro i d β hd ⟨ts,x7,x8,x9,rfl,h1,h2,h3⟩;obtain⟨hi,rfl⟩:=cD hd;have Ol:n>1:=VF λz=>by have:=hj.2.2 z;lia
   refine⟨rfl,_,rfl,trivial,rfl,trivial,n,rfl,by lia,by lia,λone o0 o1=>?_⟩
   refine⟨_,rfl,trivial,_,rfl,trivial,rfl,_,rfl,trivial,_,rfl,trivial,rfl,trivial,n-1,rfl,by lia,by lia,λr' Ud HG=>?_⟩
   have Om:Ln (.int (one+1+r')) (.int n)=some (.int ((one+1+r') % n)):=if_pos (by lia)
   refine⟨_,rfl,trivial,_,rfl,_,Om,?_⟩;have GW:(one+1+r') % n≠one/\0<=(one+1+r') % n/\(one+1+r') % n<n:=by
    by_cases gh:one+1+r'<n
    ·rw[Int.emod_eq_of_lt (by lia) gh];lia
    ·rw[show one+1+r'=(one+1+r' - n)+n by lia,Int.add_emod_right,Int.emod_eq_of_lt (by lia) (by lia)];lia
   generalize (one+1+r') % n=DR at GW;obtain⟨g1,g2,g3⟩:=add h1 h2 (t:=[if DR<one then DR else one,if DR>one then DR else one]) ⟨_,_,rfl,by split <;> lia,by split <;> (try split) <;> lia,by split <;> lia⟩
   exact⟨⟨_,rfl⟩,_,rfl,trivial,_,rfl,trivial,_,rfl,trivial,_,rfl,trivial,_,rfl,trivial,_,rfl,trivial,mM,ts,[if DR<one then DR else one,if DR>one then DR else one],rfl,rfl,by rw[Wl];lia,_,_,_,_,rfl,g1,g2,by lia⟩
  ·rintro β ⟨ts,x7,x8,x9,rfl,h1,h2,h3⟩;rw[cS]at h3;refine⟨_,rfl,trivial,_,rfl,trivial,_,BE h2.ne (by lia),.inl ⟨lI _,300,rfl,_,rfl,?_⟩⟩
   obtain⟨us,e,dr⟩:=w5 h2 h1;rw[e];exact .inl ⟨lI _,trivial,mM,trivial,rfl,q n us n0 n1 dr⟩
end
section
variable {P:UY}{w:Vc}{K:PySem.W.Frag}{mg:Str->Option UQ}{base:Heap}
theorem gn:aP ["many"] ["many"] (az bE):=mkS
theorem uR {jR fo} (pI:D2 K mg jR fo) (B:xD mg):aX P w K mg base cy 1 jR fo ["many"] (fk P w true tW):=by
 refine tm pI.F gn (λds R Kx=> by obtain⟨n,e,_⟩ := Kx;subst e;rfl) λcV A outer s H E hr=>⟨_,(ar (a_ (R5 ["i","j","many"] [none,none,some 0] (by rfl) (by decide:(["i","j","many"]:List Str).Nodup) rfl (kP B.range (aa (aI ag (b8.m bU) (ab (i:=0)) ah) (aa (jB dQ ah) (aa (jB dQ ah) ae)))) (λ_ _ _ _ _ _=>(aw (i:=0) (by decide:(["i","j","many"]:List Str).Nodup))) (λ_ _ _ _ _ _=>fA) (λ_ _ _ _ _ _=>(sY B.range (aa (aI aJ aD (ab (i:=0)) ah) (aa (aI aJ aD (ab (i:=2)) ah) ae)))) (λ_ _ _ _ _ _=>(aw (i:=1) (by decide:(["i","j","many"]:List Str).Nodup))) (λ_ _ _ _ _ _=>fA) (λ_ _ _ _ _ _=>(bP (aa (ab (i:=0)) (aa (ab (i:=1)) ae))))))),λds R h=>?_⟩
 obtain⟨n,rfl,hn,q⟩:=h;refine⟨_,rfl,trivial,_,rfl,trivial,_,rfl,rfl,trivial,_,rfl,rfl,trivial,(n:Int)-1,-1,rfl,⟨by lia,by lia,by lia,by lia⟩,trivial,?_⟩
 have en:((n:Int)-1 - -1).toNat=n:=by lia
 rw[en];refine⟨λa β o=>a<=n/\(∃x0 x1,β=[x0,x1,some (.val false (.int n))])/\o=(((Vx n).take a).flatMap (dJ n)).map DM,⟨Vb _,⟨_,_,rfl⟩,rfl⟩,?_,?_⟩
 ·rintro a d β o hd ⟨ha,⟨x0,x1,rfl⟩,rfl⟩;obtain⟨sj,rfl⟩:=kM hd;have e1:(n:Int)-1-a=((n-1-a:Nat):Int):=by lia
  rw[e1];refine⟨_,rfl,trivial,_,rfl,trivial,_,rfl,trivial,_,rfl,trivial,((n-1-a:Nat):Int)+1,(n:Int)+1,rfl,⟨by lia,by lia,by lia,by lia⟩,?_⟩
  have e2:((n:Int)+1-(((n-1-a:Nat):Int)+1)).toNat=a+1:=by lia
  rw[e2];refine⟨λb β o=>b<=a+1/\(∃x1,β=[some (.val true (.int ((n-1-a:Nat):Int))),x1,some (.val false (.int n))])/\o=(((Vx n).take a).flatMap (dJ n)++(dJ n a).take b).map DM,⟨Vb _,⟨_,rfl⟩,by simp⟩,?_,?_⟩
  ·rintro b d β o hd ⟨hb,⟨x1,rfl⟩,rfl⟩;obtain⟨gY,rfl⟩:=cD hd;refine⟨_,rfl,trivial,_,rfl,trivial,mM,trivial,?_,gY,⟨_,rfl⟩,?_⟩
   ·rw[UR,U_];exact ya hn sj gY
   ·rw[show ((n-1-a:Nat):Int)+1+(b:Int)=((n-a+b:Nat):Int) by lia,vW gY,<- VP,Vf,Vf,Vf]
    rfl
  ·rintro β o ⟨_,⟨x1,rfl⟩,rfl⟩;refine⟨sj,⟨_,_,rfl⟩,?_⟩;rw[cS,yq,V2,Wx sj,List.flatMap_append];simp
 ·rintro β o ⟨_,⟨x0,x1,rfl⟩,rfl⟩;rw[kL,Wi (by simp)]
  exact⟨trivial,trivial,q⟩
theorem bx:aP ["row","many","ties","partners","a","b"] ["row"] (az cN):=mkS
theorem uS {jS fq} (pJ:D3 K mg jS fq) (B:xD mg):aX P w K mg base cy 1 jS fq ["row"] (fk P w true lM):=by
 refine tm pJ.F bx (λds R Kw=> by obtain⟨n,ps,e,_⟩ := Kw;subst e;rfl) λcV A outer s H E hr=>⟨_,(ai (yS (ab (i:=0)) (df (n:=2) rfl (aQ (aw (i:=1) bx.nd) (aQ (aw (i:=2) bx.nd) cI))))
    (ai (yo (i:=3) true ["point"] [none] (by rfl) (by decide:(["point"]:List Str).Nodup) rfl (λ_=>(bO B.range (aa (ab (i:=1)) ae))) (λ_ _ _ _ _ _=>(aw (i:=0) (by decide:(["point"]:List Str).Nodup))) (λ_ _ _ _ _ _=>fA) (λ_ _ _ _ _ _=>(bc ae)) bx.nd)
    (ai (cb VC rfl (bz (ab (i:=2))) (df (n:=2) rfl (aQ (aw (i:=4) bx.nd) (aQ (aw (i:=5) bx.nd) cI))) (ar (jD (i:=3) true (λ_=>(ab (i:=5))) (λ_=>(ab (i:=4))))))
    (ar (uO (i:=3)))))),λds R h=>?_⟩
 obtain⟨n,ps,rfl,ok,q⟩:=h;have hn:=ok.le;refine⟨_,rfl,_,rfl,rfl,_,_,rfl,_,_,rfl,rfl,_,rfl,trivial,n,rfl,by lia,by lia,trivial,?_⟩
 rw[WL];refine e8 (λ_=>true) (λ_=>.lst []) trivial (by rw[VA];exact gv (by lia)) (λx hx x0 o J ho h1 _=>⟨Vb _,trivial,ho,h1 rfl _⟩) ?_
 rw[cu];refine⟨_,rfl,_,rfl,trivial,?_⟩;refine⟨λm β=>∃x4 x5,β=[some (.val false (iN n ps)),some (.val true (.int n)),some (.val false (dI ps)),some (.own (HH n (ps.take m))),x4,x5],⟨_,_,rfl⟩,?_,?_⟩
 ·rintro m d β hd ⟨x4,x5,rfl⟩;rw[Vd]at hd;obtain⟨p,hp,rfl⟩:=Vp.mp hd;obtain⟨h1,h2⟩:=ok.lt p (VG hp);refine⟨_,rfl,rfl,_,_,rfl,_,_,rfl,rfl,⟨_,rfl⟩,_,rfl,_,_,_,_,rfl,rfl,by rw[UR,VA];exact oX rfl (show p.1<n by lia),bS (show p.1<n by lia),_,rfl,trivial,rfl,?_,?_⟩
  ·unfold Q.bR;rw[UR];have:=BV (ps:=ps.take m) (i:=p.1);rw[VV]at this;have:=ok.sm;exact pR (by lia)
  ·refine⟨some (.val true (.int p.1)),some (.val true (.int p.2)),?_⟩;have e:ps.take (m+1)=ps.take m++[(p.1,p.2)]:=by rw[V2,hp];rfl
   rw[Fh (show p.1<n by lia),e]
   rfl
 ·rintro β ⟨x4,x5,rfl⟩;rw[UR,WA];exact⟨_,rfl,q⟩
end
section
variable {P:UY}{w:Vc}{K:PySem.W.Frag}{mg:Str->Option UQ}{base:Heap}
theorem mh:aP ["i","k","j"] ["i","k","j"] (az c_):=mkS
theorem zd {jT ft} (vp:D4 K mg jT ft):aX P w K mg base cy 1 jT ft ["i","k","j"] (fk P w true lL):=by
 refine tm vp.F mh (λds R Kv=> by obtain⟨i,k,j,e,_⟩ := Kv;subst e;rfl) λcV A outer s H E hr=>⟨_,(j3 (c4 (aS ag (b8.m oO) (ab (i:=1)) oH) (ar (a_ (bc (aa (bP (aa (aI aJ aD (ab (i:=0)) ah) (aa (ab (i:=2)) ae))) ae)))) bu)
    (ar (a_ (bc (aa (bP (aa (aI aJ aD (ab (i:=0)) ah) (aa (ab (i:=1)) ae))) (aa (bP (aa (aI aJ aD (ab (i:=1)) ah) (aa (ab (i:=2)) ae))) ae)))))),λds R h=>?_⟩
 obtain⟨i,k,j,rfl,q⟩:=h;cases k with
 |none=>exact⟨λ_=>False,⟨_,rfl,trivial,_,rfl,_,rfl,o4 rfl ⟨_,rfl,trivial,_,rfl,trivial,_,rfl,trivial,mM,trivial,vJ,trivial,q⟩⟩,λ_ z=>z.elim⟩
 |some k =>
  refine⟨λβ=>β=[some (.val false (.int i)),some (.val false (.int k)),some (.val false (.int j))],⟨_,rfl,trivial,_,rfl,_,rfl,gg rfl rfl⟩,?_⟩;rintro β rfl;exact⟨_,rfl,trivial,_,rfl,trivial,_,rfl,trivial,mM,trivial,_,rfl,trivial,_,rfl,trivial,_,rfl,trivial,mM,trivial,mM,trivial,q⟩
end
end gZ
namespace L2.Q
open PySem PySem.Spec PySem.SeqAt PyProof.Rows
theorem fc {α:Type}{f g:α->Nat}:∀{l:List α} {b:Nat},(∀p∈l,f p=g p)->l.foldl (λa p=>a*f p) b=l.foldl (λa p=>a*g p) b
 |[],_,_=>rfl
 |x::l,b,h=>by
  rw[Wf,Wf,h x (by simp)]
  exact fc λp hp=>h p (by simp[hp])
theorem yC {ps:List (Nat×Nat)}{i:Nat}(h:ps.Nodup):(eD ps i).Nodup:=by
 unfold eD;refine Wj.mpr (List.Pairwise.imp_of_mem ?_ (List.Pairwise.filter _ h));intro a b ha hb HW e;have h1:=(VH.mp ha).2;have h2:=(VH.mp hb).2;simp only[decide_eq_true_eq]at h1 h2;exact HW (Prod.ext (by rw[h1,h2]) e)
theorem zf:∀{n i:Nat} {l:List Nat},l.Nodup->(∀x∈l,i<=x/\x<i+n)->l.length<=n
 |0,i,l,_,h=>by
  cases l with
  |nil=>exact US _
  |cons x l=>have:=h x (by simp);lia
 |n+1,i,l,nd,h=>by
  have q:=zf (n:=n) (i:=i) (nd.erase (i+n)) λx hx=>by
   have:=nd.mem_erase_iff.mp hx;have:=h x this.2;lia
  have:=List.length_erase (a:=i+n) (l:=l)
  split at this <;> lia
theorem uu {α:Type}{f:α->Nat}{c:Nat}:∀{l:List α},(∀x∈l,f x<=c)->(l.map f).sum<=l.length*c
 |[],_=>Vb _
 |x::l,h=>by
  have h1:=h x (by simp)
  have h2:=uu (l:=l) λy hy=>h y (by simp[hy])
  rw[Vj,Wh,Ve,YT,XH];lia
def eg (ps:List (Nat×Nat))(i j:Nat):List (Option Nat):=((eD ps i).filter λk=>decide (k<j)).map some++[none]
theorem lg {ps:List (Nat×Nat)}{i j:Nat}{c:Option Nat}(h:c∈eg ps i j):match c with|none=>True|some k=>(i,k)∈ps/\k<j/\True:=by
 cases c with
 |none=>trivial
 |some k =>
  rcases Vh.mp h with h|h
  ·obtain⟨k',h',e⟩:=Vq.mp h;cases e;obtain⟨h1,h2⟩:=VH.mp h';exact⟨cP.mp h1,of_decide_eq_true h2,trivial⟩
  ·cases U3.mp h
def LR (ps:List (Nat×Nat)):Nat->Nat->Nat->Nat
 |0,_,_=>1
 |_+1,0,_=>1
 |n+1,l+1,i=>((eg ps i (i+l+1)).map λc=>(parts i c (i+l+1)).foldl (λa p=>a*LR ps n (p.2-p.1) p.1) 1).sum
def sa (ps:List (Nat×Nat))(l i:Nat):Nat:=LR ps l l i
theorem kX {ps:List (Nat×Nat)}(hp:∀p∈ps,p.1<p.2){i l:Nat}{c:Option Nat}(hc:c∈eg ps i (i+l+1)){p:Nat×Nat}(h:p∈parts i c (i+l+1)):i<p.1/\p.1<=p.2/\p.2<=i+l+1:=by
 have o:=lg hc;cases c with
 |none =>
  rw[U3.mp h];exact⟨X7 _,by show i+1<=i+l+1;lia,US _⟩
 |some k =>
  obtain⟨o1,o2,_⟩:=o;have:=hp _ o1;dsimp only at this;rcases UW.mp h with rfl|h
  ·exact⟨X7 _,by show i+1<=k;lia,by show k<=_;lia⟩
  ·rw[U3.mp h];exact⟨by show i<k+1;lia,by show k+1<=_;lia,US _⟩
theorem qe {ps:List (Nat×Nat)}(hp:∀p∈ps,p.1<p.2):∀{n m l i:Nat},l<=n->l<=m->LR ps n l i=LR ps m l i
 |0,m,l,i,h1,h2=>by
  rw[show l=0 by lia]
  cases m <;> rfl
 |n+1,m,0,i,h1,h2=>by cases m <;> rfl
 |n+1,0,l+1,i,h1,h2=>by lia
 |n+1,m+1,l+1,i,h1,h2=>by
  show ((eg ps i (i+l+1)).map _).sum=((eg ps i (i+l+1)).map _).sum
  congr 1
  refine VQ λc hc=>fc λp h=>?_;obtain⟨a,b,d⟩:=kX hp hc h;exact qe hp (by lia) (by lia)
theorem jV {ps:List (Nat×Nat)}(hp:∀p∈ps,p.1<p.2){l i:Nat}:sa ps (l+1) i=((eg ps i (i+l+1)).map λc=>(parts i c (i+l+1)).foldl (λa p=>a*sa ps (p.2-p.1) p.1) 1).sum:=by
 show ((eg ps i (i+l+1)).map _).sum=_
 congr 1
 refine VQ λc hc=>fc λp h=>?_;obtain⟨a,b,d⟩:=kX hp hc h;exact qe hp (by lia) (US _)
theorem rT {ps:List (Nat×Nat)}(hp:∀p∈ps,p.1<p.2)(nd:ps.Nodup){l i:Nat}:(eg ps i (i+l+1)).length<=l+1:=by
 unfold eg;rw[U_,UR];have h:=zf (n:=l) (i:=i+1) ((yC nd).sublist (List.filter_sublist (p:=λk=>decide (k<i+l+1)))) λx hx=>by
  obtain⟨h1,h2⟩:=VH.mp hx;have:=hp (i,x) (cP.mp h1);have:=of_decide_eq_true h2;dsimp only at *
  lia
 show _+1<=_;lia
def dw (ps:List (Nat×Nat))(i j:Nat)(c:Option Nat):Nat:=(parts i c j).foldl (λa p=>a*sa ps (p.2-p.1) p.1) 1
theorem gJ {ps:List (Nat×Nat)}{i j:Nat}:dw ps i j none=sa ps (j-(i+1)) (i+1):=by
 show 1*_=_;rw[XH]
theorem gI {ps:List (Nat×Nat)}{i j k:Nat}:dw ps i j (some k)=sa ps (k-(i+1)) (i+1)*sa ps (j-(k+1)) (k+1):=by
 show 1*_*_=_;rw[XH]
theorem uC {ps:List (Nat×Nat)}(hp:∀p∈ps,p.1<p.2)(nd:ps.Nodup):∀l i,sa ps l i<=mD (l+1):=by
 intro l
 induction l using Nat.strongRecOn with
 |_ l ih =>
 intro i;cases l with
 |zero=>exact US _
 |succ l =>
  rw[jV hp];refine VB (uu (c:=mD (l+1)) λc hc=>?_) ?_
  ·show dw ps i (i+l+1) c<=_;have o:=lg hc;cases c with
   |none =>
    rw[gJ,show i+l+1-(i+1)=l by lia]
    exact ih l (by lia) _
   |some k =>
    obtain⟨o1,o2,_⟩:=o;have:=hp _ o1;dsimp only at this;rw[gI];have h1:=ih (k-(i+1)) (by lia) (i+1)
    have h2:=ih (i+l+1-(k+1)) (by lia) (k+1)
    have h3:=pf (k-(i+1)+1) (i+l+1-(k+1)+1);rw[show k-(i+1)+1+(i+l+1-(k+1)+1)=l+1 by lia]at h3
    exact VB (Xv h1 h2) h3
  ·show _<=(l+2)*mD (l+1);exact Xv (VB (rT hp nd) (by lia)) (US _)
theorem kJ {ps:List (Nat×Nat)}(hp:∀p∈ps,p.1<p.2)(nd:ps.Nodup){l i:Nat}(h:l<=19):((sa ps l i:Nat):Int)<2 ^ 64:=by
 have h1:=uC hp nd l i;have h2:=fO (show l+1<=20 by lia)
 have h3:mD 20<2 ^ 64:=by decide
 lia
abbrev sT (ps:List (Nat×Nat)):Nat->Nat->Int:=λl i=>((sa ps l i:Nat):Int)
def lJ:FD:=λds R=>∃(n:Nat) (ps:List (Nat×Nat)) (L:Nat->Nat) (i j:Nat) (c:Option Nat),ds=[iR n L (sT ps),.lst ((parts i c j).map DM)]/\c∈eg ps i j/\l5 n ps/\n<=40/\i<j/\j<=n/\(∀a,i<a->a<=n->n+1-a<=L a)/\R (.int (dw ps i j c:Nat))
theorem lJ.mono:dO lJ:=λds R R' k h=>by obtain⟨n,ps,L,i,j,c,e,h1,h2,h3,h4,h5,h6,q⟩:=h;exact⟨n,ps,L,i,j,c,e,h1,h2,h3,h4,h5,h6,k _ q⟩
def rA:FD:=λds R=>∃(n:Nat) (ps:List (Nat×Nat)) (L:Nat->Nat) (i j:Nat),ds=[iR n L (sT ps),.lst ((eg ps i j).map oD),.int i,.int j]/\l5 n ps/\n<=40/\i<j/\j<=n/\(∀a,i<a->a<=n->n+1-a<=L a)/\R (.int (sT ps (j-i) i))
theorem rA.mono:dO rA:=λds R R' k h=>by obtain⟨n,ps,L,i,j,e,h2,h3,h4,h5,h6,q⟩:=h;exact⟨n,ps,L,i,j,e,h2,h3,h4,h5,h6,k _ q⟩
theorem sN {ps:List (Nat×Nat)}{l:List (Nat×Nat)}{m:Nat}{p:Nat×Nat}(h:l[m]?=some p):(l.take (m+1)).foldl (λa p=>a*sa ps (p.2-p.1) p.1) 1=(l.take m).foldl (λa p=>a*sa ps (p.2-p.1) p.1) 1*sa ps (p.2-p.1) p.1:=by
 rw[V2,h,List.foldl_append];rfl
def iC:FD:=λds R=>∃(n:Nat) (ps:List (Nat×Nat)),ds=[iN n ps]/\l5 n ps/\n<=40/\R (Eo n (sT ps))
theorem iC.mono:dO iC:=λds R R' k h=>by obtain⟨n,ps,e,h2,h3,q⟩:=h;exact⟨n,ps,e,h2,h3,k _ q⟩
def iE:FD:=λds R=>∃(n:Nat) (ps:List (Nat×Nat)),ds=[iN n ps]/\l5 n ps/\n<=40/\R (.int (sT ps n 0))
theorem iE.mono:dO iE:=λds R R' k h=>by obtain⟨n,ps,e,h2,h3,q⟩:=h;exact⟨n,ps,e,h2,h3,k _ q⟩
theorem all_map {ps:List (Nat×Nat)}{i j:Nat}:((eD ps i).filter λk=>decide (k<j)).map (λk:Nat=>D.int (k:Int))++[D.bC]=(eg ps i j).map oD:=by
 unfold eg;rw[Vf,V4];rfl
def gB (n:Nat):Nat->List (Nat×Nat)->Prop
 |_,[]=>True
 |lo,p::ws=>lo<=p.1/\p.1<=p.2/\p.2<=n/\gB n (p.2+1) ws
theorem gB.lo {n:Nat}:∀{ws:List (Nat×Nat)} {a b:Nat},gB n a ws->b<=a->gB n b ws
 |[],_,_,_,_=>trivial
 |_::_,_,_,h,hb=>⟨VB hb h.1,h.2⟩
theorem gB.mem {n:Nat}:∀{ws:List (Nat×Nat)} {a:Nat},gB n a ws->∀p∈ws,a<=p.1/\p.1<=p.2/\p.2<=n
 |[],_,_,_,h=>nomatch h
 |q::ws,a,h,p,hp=>by
  rcases UW.mp hp with rfl|hp
  ·exact⟨h.1,h.2.1,h.2.2.1⟩
  ·have:=gB.mem h.2.2.2 p hp;have:=h.1;have:=h.2.1;lia
abbrev fW (ps:List (Nat×Nat)):Nat->Nat×Nat->Nat:=λa p=>a*sa ps (p.2-p.1) p.1
abbrev aT (ps ws:List (Nat×Nat)):Nat:=ws.foldl (fW ps) 1
theorem C5 (n:Nat):1<=mD n:=by
 induction n with
 |zero=>exact US _
 |succ n ih=>exact VB ih (Nat.le_mul_of_pos_left _ (by lia))
theorem ql {ps:List (Nat×Nat)}(hp:∀p∈ps,p.1<p.2)(nd:ps.Nodup){n:Nat}{p:Nat×Nat}:∀{ws:List (Nat×Nat)} {lo m acc:Nat},gB n lo ws->ws[m]?=some p->(ws.take m).foldl (fW ps) acc<=acc*mD (p.1-lo)
 |[],_,_,_,_,e=>nomatch e
 |q::ws,lo,0,acc,h,e=>by
  show acc<=_;exact Nat.le_mul_of_pos_right _ (C5 _)
 |q::ws,lo,m+1,acc,h,e=>by
  have k:=ql hp nd (m:=m) (acc:=fW ps acc q) h.2.2.2 e;have k1:=(gB.mem h.2.2.2 p (VG (i:=m) e)).1;have k2:=h.2.1;have k3:=h.1;refine VB k ?_;have s1:=uC hp nd (q.2-q.1) q.1;have s2:=pf (q.2-q.1+1) (p.1-(q.2+1));have s3:=fO (show q.2-q.1+1+(p.1-(q.2+1))<=p.1-lo by lia)
  show acc*sa ps (q.2-q.1) q.1*_<=_;rw[Nat.mul_assoc];exact Xv (US _) (VB (VB (Xv s1 (US _)) s2) s3)
theorem Bj {ps:List (Nat×Nat)}(hp:∀p∈ps,p.1<p.2)(nd:ps.Nodup){n m:Nat}{p:Nat×Nat}{ws:List (Nat×Nat)}(hn:n<=40)(h:gB n 0 ws)(e:ws[m]?=some p):
  jr ((aT ps (ws.take m):Nat):Int) ((sa ps (p.2-p.1) p.1:Nat):Int):=by
 have a:aT ps (ws.take m)<=1*mD (p.1-0):=ql hp nd (acc:=1) h e;have b:=h.mem p (VG e);rcases Wz 20 p.1 with q|q
 ·exact .inr ⟨by lia,kJ hp nd (by lia)⟩
 ·refine .inl ⟨by lia,?_⟩
  have h2:=fO (show p.1-0<=20 by lia)
  have h3:mD 20<2 ^ 64:=by decide
  rw[XH]at a;lia
theorem Ij {ps ws:List (Nat×Nat)}{m:Nat}{p:Nat×Nat}(h:ws[m]?=some p):aT ps (ws.take (m+1))=aT ps (ws.take m)*sa ps (p.2-p.1) p.1:=sN h
def Er:FD:=λds R=>∃(n:Nat) (ps:List (Nat×Nat)) (L:Nat->Nat) (ws:List (Nat×Nat)),ds=[iR n L (sT ps),.lst (ws.map DM)]/\l5 n ps/\n<=40/\gB n 0 ws/\(∀p∈ws,n+1-p.1<=L p.1)/\R (.int (aT ps ws:Nat))
theorem lJ.toW {ds:List D}{R:D->Prop}(h:lJ ds R):Er ds R:=by
 obtain⟨n,ps,L,i,j,c,rfl,hc,ok,hn,h1,h2,h3,q⟩:=h;have hp:∀p∈ps,p.1<p.2:=λp hp=>(ok.lt p hp).1;have o:=lg hc;refine⟨n,ps,L,parts i c j,rfl,ok,hn,?_,λp h=>?_,q⟩
 ·cases c with
  |none=>exact⟨Vb _,h1,h2,trivial⟩
  |some k =>
   have:=hp _ o.1;dsimp only at this;exact⟨Vb _,this,by show k<=n;lia,US _,o.2.1,h2,trivial⟩
 ·obtain⟨l,rfl⟩:∃l,j=i+l+1:=⟨j-i-1,by lia⟩
  have:=kX hp hc h;exact h3 p.1 this.1 (by lia)
def wb:List (Nat×Nat)->Nat×Nat->Option (List (Nat×Nat))
 |[],_=>none
 |v::ws,p=>if v.1<=p.1/\p.2<v.2 then some ((p.1+1,p.2)::(p.2+1,v.2)::ws) else wb ws p
def HB (ws:List (Nat×Nat))(p:Nat×Nat):Prop:=∃v∈ws,v.1<=p.1/\p.2<v.2
theorem ue {p:Nat×Nat}:∀{ws:List (Nat×Nat)},HB ws p->∃l,wb ws p=some l
 |[],⟨_,h,_⟩=>nomatch h
 |v::ws,⟨u,h,k⟩=>by
  show ∃l,(if v.1<=p.1/\p.2<v.2 then some _ else wb ws p)=some l
  by_cases c:v.1<=p.1/\p.2<v.2
  ·exact⟨_,if_pos c⟩
  ·rw[if_neg c];rcases UW.mp h with rfl|h
   ·exact absurd k c
   ·exact ue ⟨u,h,k⟩
theorem js {n:Nat}{p:Nat×Nat}(hp:p.1<p.2):∀{ws l:List (Nat×Nat)} {lo:Nat},gB n lo ws->wb ws p=some l->gB n lo l
 |[],_,_,_,e=>nomatch e
 |v::ws,l,lo,h,e=>by
  change (if v.1<=p.1/\p.2<v.2 then some _ else wb ws p)=some l at e
  by_cases c:v.1<=p.1/\p.2<v.2
  ·rw[if_pos c]at e;cases e;have:=h.1;have:=h.2.2.1;exact⟨by show lo<=p.1+1;lia,hp,by show p.2<=n;lia,US _,c.2,h.2.2.1,h.2.2.2⟩
  ·rw[if_neg c]at e;have:=h.1;have:=h.2.1;exact(js hp h.2.2.2 e).lo (by lia)
def HD (s t:Nat×Nat):Prop:=t.2<s.2\/s.2<t.1
theorem uf {n:Nat}{s t:Nat×Nat}(hs:s.1<s.2)(ht:t.1<t.2)(hl:s.1<t.1)(ha:HD s t):∀{ws l:List (Nat×Nat)} {lo:Nat},gB n lo ws->HB ws t->wb ws s=some l->HB l t
 |[],_,_,_,_,e=>nomatch e
 |v::ws,l,lo,h,⟨u,hu,k⟩,e=>by
  change (if v.1<=s.1/\s.2<v.2 then some _ else wb ws s)=some l at e
  by_cases c:v.1<=s.1/\s.2<v.2
  ·rw[if_pos c]at e;cases e;rcases UW.mp hu with rfl|hu
   ·rcases ha with a|a
    ·exact⟨_,U1,hl,a⟩
    ·exact⟨_,UZ _ U1,a,k.2⟩
   ·exact⟨u,UZ _ (UZ _ hu),k⟩
  ·rw[if_neg c]at e;rcases UW.mp hu with rfl|hu
   ·-- t lies in the first,s beyond it
    exfalso
    have:HB ws s:=by
     revert e
     clear h k hu
     induction ws with
     |nil=>exact λe=>nomatch e
     |cons v ws ih =>
      intro e
      change (if v.1<=s.1/\s.2<v.2 then some _ else wb ws s)=some l at e
      by_cases c:v.1<=s.1/\s.2<v.2
      ·exact⟨v,U1,c⟩
      ·rw[if_neg c]at e;obtain⟨x,hx,kx⟩:=ih e;exact⟨x,UZ _ hx,kx⟩
    obtain⟨x,hx,kx⟩:=this;have:=h.2.2.2.mem x hx;lia
   ·exact uf hs ht hl ha h.2.2.2 ⟨u,hu,k⟩ e
def wa:List (Nat×Nat)->List (Nat×Nat)->Option (List (Nat×Nat))
 |ws,[]=>some ws
 |ws,p::ts=>(wb ws p).bind λl=>wa l ts
def vD (ts:List (Nat×Nat)):Prop:=ts.Pairwise λs t=>s.1<t.1/\HD s t
theorem ug {n:Nat}:∀{ts ws:List (Nat×Nat)},gB n 0 ws->(∀t∈ts,t.1<t.2/\HB ws t)->vD ts->∃l,wa ws ts=some l/\gB n 0 l
 |[],ws,h,_,_=>⟨ws,rfl,h⟩
 |t::ts,ws,h,hi,g=>by
  obtain⟨l,e⟩:=ue (hi t U1).2;have g':=VJ.mp g;obtain⟨l',e',k⟩:=ug (js (hi t U1).1 h e) (λu hu=>⟨(hi u (UZ _ hu)).1,uf (hi t U1).1 (hi u (UZ _ hu)).1 (g'.1 u hu).1 (g'.1 u hu).2 h (hi u (UZ _ hu)).2 e⟩) g'.2;exact⟨l',by show (wb ws t).bind _=_;rw[e];exact e',k⟩
def pB (ps ns:List (Nat×Nat)):Prop:=(∀p∈ns,p∈ps)/\vD ns
theorem TH {s t:Nat×Nat}(hs:s.1<s.2)(ht:t.1<t.2)(l:HT.lexLt (tI s) (tI t)=true)(a:Apart (tI s) (tI t)):s.1<t.1/\HD s t:=by
 obtain⟨s1,s2⟩:=s;obtain⟨t1,t2⟩:=t;dsimp only at hs ht;have sh:∀x:Int,x∈tI (s1,s2)->x∈tI (t1,t2)->False:=λx h1 h2=>by
  have:=dj.mpr ⟨x,h1,h2⟩;rw[a.1]at this;cases this
 have e1:s1≠t1:=λe=>sh s1 (by simp[tI]) (by simp[tI,e])
 have e2:s2≠t1:=λe=>sh s2 (by simp[tI]) (by simp[tI,e])
 have e3:s2≠t2:=λe=>sh s2 (by simp[tI]) (by simp[tI,e])
 have l1:s1<t1:=by
  change HT.lexLt ((s1:Int)::[(s2:Int)]) ((t1:Int)::[(t2:Int)])=true at l
  rw[HT.cg,if_neg (by lia)]at l
  have:=of_decide_eq_true l;lia
 refine⟨l1,?_⟩;have c:=a.2;have c':¬ (((s1:Nat):Int)<t1/\((t1:Nat):Int)<s2/\((s2:Nat):Int)<t2):=λz=>by
  have:jk (s1:Int) s2 t1 t2=true:=lV.mpr (.inl z);have c:jk (s1:Int) s2 t1 t2=false:=c;rw[this]at c;cases c
 show t2<s2\/s2<t1;lia
theorem pB.Se {n:Nat}{ps ns:List (Nat×Nat)}(ok:l5 n ps)(h:pB ps ns):∀t∈ns,t.1<t.2/\HB [(0,n)] t:=λt ht=>⟨(ok.lt t (h.1 t ht)).1,(0,n),U1,Vb _,(ok.lt t (h.1 t ht)).2⟩
theorem iO {n:Nat}:gB n 0 [(0,n)]:=⟨US _,Vb _,US _,trivial⟩
theorem pB.wa {n:Nat}{ps ns:List (Nat×Nat)}(ok:l5 n ps)(h:pB ps ns):∃l,wa [(0,n)] ns=some l/\gB n 0 l:=ug iO (h.Se ok) h.2
theorem xN:∀{a b ws:List (Nat×Nat)},wa ws (a++b)=(wa ws a).bind λl=>wa l b
 |[],b,ws=>rfl
 |p::a,b,ws=>by
  show (wb ws p).bind (λl=>wa l (a++b))=((wb ws p).bind λl=>wa l a).bind _;cases wb ws p with
  |none=>rfl
  |some l=>exact xN
def Br (ps ws:List (Nat×Nat)):List (Nat×Nat):=ps.filter λp=>(wb ws p).isSome
def vO (ps ws:List (Nat×Nat))(t:Nat×Nat):Nat:=1+(((Br ps ws).filter λo=>HT.lexLt (tI o) (tI t)).map λo=>aT ps ((wb ws o).getD [])).sum
def md (ps:List (Nat×Nat)):List (Nat×Nat)->List (Nat×Nat)->Nat
 |_,[]=>0
 |ws,t::ts=>vO ps ws t+md ps ((wb ws t).getD []) ts
def mq (ps:List (Nat×Nat))(u:List (Nat×Nat)×List (Nat×Nat)×Int)(p:Nat×Nat):List (Nat×Nat)×List (Nat×Nat)×Int:=match wb u.1 p with
 |none=>u
 |some l=>if 0<u.2.2 then (if u.2.2<=((aT ps l:Nat):Int) then (l,u.2.1++[p],u.2.2-1) else (u.1,u.2.1,u.2.2-((aT ps l:Nat):Int))) else u
def sat (ps:List (Nat×Nat))(n:Nat)(k:Int):List (Nat×Nat):=(ps.foldl (mq ps) ([(0,n)],[],k)).2.1
end L2.Q
namespace gZ
open PySem L2 L2.Q
section
variable {P:UY}{w:Vc}{K:PySem.W.Frag}{mg:Str->Option UQ}{base:Heap}
theorem dk:aP ["counts","parts","ways","low","high"] ["counts","parts"] (az fX):=mkS
theorem Ce {gQ dC} (sC:D5 K mg gQ dC):aX P w K mg base cy 1 gQ dC ["counts","parts"] (fk P w true Er):=by
 refine tm sC.F dk (λds R Ku=> by obtain⟨n,ps,L,ws,e,_⟩ := Ku;subst e;rfl) λcV A outer s H E hr=>⟨_,(ai (bG (i:=2) ah dk.nd)
    (ai (cb VC rfl (bz (ab (i:=1))) (df (n:=2) rfl (aQ (aw (i:=3) dk.nd) (aQ (aw (i:=4) dk.nd) cI))) (ar (bG (i:=2) (aI ag (b8.m oN) (ab (i:=2)) (aR ag br (aR ag br (ab (i:=0)) (ab (i:=3))) (aI ag (b8.m bU) (ab (i:=4)) (ab (i:=3))))) dk.nd)))
    (ar (a_ (ab (i:=2)))))),λds R h=>?_⟩
 obtain⟨n,ps,L,ws,rfl,ok,hn,hw,h3,q⟩:=h;have hp:∀p∈ps,p.1<p.2:=λp hp=>(ok.lt p hp).1;refine⟨_,rfl,_,rfl,trivial,?_⟩;refine⟨λm β=>∃x3 x4,β=[some (.val false (iR n L (sT ps))),some (.val false (.lst (ws.map DM))),some (.val true (.int ((aT ps (ws.take m):Nat):Int))),x3,x4],⟨_,_,rfl⟩,?_,?_⟩
 ·rintro m d β hd ⟨x3,x4,rfl⟩;rw[Vd]at hd;obtain⟨p,HQ,rfl⟩:=Vp.mp hd;have b:=hw.mem p (VG HQ);have hl:=h3 p (VG HQ);refine⟨_,rfl,rfl,_,_,rfl,_,_,rfl,rfl,?_⟩;refine⟨_,rfl,trivial,_,rfl,trivial,_,rfl,_,Ec rfl (by lia),.inr ⟨trivial,_,rfl,trivial,_,rfl,_,rfl,_,Ed (l:=p.2-p.1) (by lia) (by lia),_,An (Bj hp ok.nd (by lia) hw HQ),_,_,by rw[Ij HQ,Int.natCast_mul];rfl⟩⟩
 ·rintro β ⟨x3,x4,rfl⟩;rw[UR,WA];exact⟨_,rfl,trivial,q⟩
theorem FQ {gQ dC} (sC:D5 K mg gQ dC):aX P w K mg base cy 1 gQ dC ["counts","parts"] (fk P w true lJ):=(Ce sC).imp λvs H Q E ⟨ds,r,h⟩=>⟨ds,r,h.toW⟩
theorem sU:aP ["counts","choices","i","j"] ["counts","choices","i","j"] (az fY):=mkS
theorem FR {mB gy} (xA:D6 K mg mB gy) {gQ dC} (sC:D5 K mg gQ dC) {jT ft} (vp:D4 K mg jT ft) (B:xD mg):aX P w K mg base cy 2 mB gy ["counts","choices","i","j"] (fk P w true rA):=by
 have TN:aX P w K mg base cy 1 _ _ _ (fk P w true lJ):= FQ sC;have TV:aX P w K mg base cy 1 _ _ _ (fk P w true lL):= zd vp;refine tm xA.F sU (λds R Kt=> by obtain⟨n,ps,L,i,j,e,_⟩ := Kt;subst e;rfl) λcV A outer s H E hr=>⟨_,(ar (a_ (bH ag (cx.m (nI rfl)) B.sum Ay (aa (HL ["k","counts","i","j"] [none,some 0,some 2,some 3] (by rfl) (by decide:(["k","counts","i","j"]:List Str).Nodup) rfl (bz (ab (i:=1))) (λ_ _ _ _ _ _=>(aw (i:=0) (by decide:(["k","counts","i","j"]:List Str).Nodup))) (λ_ _ _ _ _ _=>fA) (λ_ _ _ _ _ _=>(aZ lJ.mono TN (hr.mono (by decide)) sC.m sC.F.kp sC.b (aa (ab (i:=1)) (aa (aZ lL.mono TV (hr.mono (by decide)) vp.m vp.F.kp vp.b (aa (ab (i:=2)) (aa (ab (i:=0)) (aa (ab (i:=3)) ae)))) ae))))) ae)))),λds R h=>?_⟩
 obtain⟨n,ps,L,i,j,rfl,ok,hn,h1,h2,h3,q⟩:=h;have hp:∀p∈ps,p.1<p.2:=λp hp=>(ok.lt p hp).1;have bl:(eg ps i j).length<=41:=by
  obtain⟨l,rfl⟩:∃l,j=i+l+1:=⟨j-i-1,by lia⟩
  exact VB (rT hp ok.nd) (by lia)
 refine⟨_,rfl,_,rfl,trivial,?_⟩;refine e8 (λ_=>true) (λc=>.int ((dw ps i j c:Nat):Int)) trivial (gv (by lia)) (λc hc x0 o J ho j1 _=>?_) ?_
 ·cases c with
  |none=>exact⟨_,rfl,trivial,_,rfl,trivial,_,rfl,trivial,_,rfl,trivial,i,none,j,rfl,trivial,n,ps,L,i,j,none,rfl,hc,ok,hn,h1,h2,h3,trivial,ho,j1 rfl _⟩
  |some k=>exact⟨_,rfl,trivial,_,rfl,trivial,_,rfl,trivial,_,rfl,trivial,i,some k,j,rfl,trivial,n,ps,L,i,j,some k,rfl,hc,ok,hn,h1,h2,h3,trivial,ho,j1 rfl _⟩
 ·rw[cu];refine⟨trivial,_,sum_ints,trivial,?_⟩;obtain⟨l,rfl⟩:∃l,j=i+l+1:=⟨j-i-1,by lia⟩
  have e:((eg ps i (i+l+1)).map λc=>((dw ps i (i+l+1) c:Nat):Int)).sum=sT ps (i+l+1-i) i:=by
   rw[pT,show i+l+1-i=l+1 by lia]
   show _=((sa ps (l+1) i:Nat):Int);rw[jV hp];rfl
  rw[e];exact q
theorem bD:aP ["row","many","partners","counts","i","j","choices"] ["row"] (az dW):=mkS
theorem wm {rp jI} (Bb:D7 K mg rp jI) {jS fq} (pJ:D3 K mg jS fq) {jR fo} (pI:D2 K mg jR fo) {mB gy} (xA:D6 K mg mB gy) {gQ dC} (sC:D5 K mg gQ dC) {jT ft} (vp:D4 K mg jT ft) (B:xD mg):aX P w K mg base cy 3 rp jI ["row"] (fk P w true iC):=by
 have Pw:aX P w K mg base cy 1 _ _ _ (fk P w true lM):= uS pJ B;have Pu:aX P w K mg base cy 1 _ _ _ (fk P w true tW):= uR pI B;have TQ:aX P w K mg base cy 2 _ _ _ (fk P w true rA):= FR xA sC vp B;refine tm Bb.F bD (λds R Ks=> by obtain⟨n,ps,e,_⟩ := Ks;subst e;rfl) λcV A outer s H E hr=>⟨_,(ai (bG (i:=1) (aR ag br (ab (i:=0)) ah) bD.nd)
    (ai (bG (i:=2) (aZ lM.mono Pw (hr.mono (by decide)) pJ.m pJ.F.kp pJ.b (aa (ab (i:=0)) ae)) bD.nd)
    (ai (yo (i:=3) true ["i"] [none] (by rfl) (by decide:(["i"]:List Str).Nodup) rfl (λ_=>(bO B.range (aa (aI aJ aD (ab (i:=1)) ah) ae))) (λ_ _ _ _ _ _=>(aw (i:=0) (by decide:(["i"]:List Str).Nodup))) (λ_ _ _ _ _ _=>fA) (λ_ _ _ _ _ _=>(bc (aa ah ae))) bD.nd)
    (ai (cb VC rfl (bz (aZ tW.mono Pu (hr.mono (by decide)) pI.m pI.F.kp pI.b (aa (ab (i:=1)) ae))) (df (n:=2) rfl (aQ (aw (i:=4) bD.nd) (aQ (aw (i:=5) bD.nd) cI))) (ai (bG (i:=6) (aI aJ aD (HL ["k","j"] [none,some 5] (by rfl) (by decide:(["k","j"]:List Str).Nodup) rfl (bz (aR ag br (ab (i:=2)) (ab (i:=4)))) (λ_ _ _ _ _ _=>(aw (i:=0) (by decide:(["k","j"]:List Str).Nodup))) (λ_ _ _ _ _ _=>(kn (aS ag (b8.m cY) (ab (i:=0)) (ab (i:=1))))) (λ_ _ _ _ _ _=>(ab (i:=0)))) (bc (aa oH ae))) bD.nd)
    (ar (jD (i:=3) true (λ_=>(aZ rA.mono TQ (hr.mono (by decide)) xA.m xA.F.kp xA.b (aa (ab (i:=3)) (aa (ab (i:=6)) (aa (ab (i:=4)) (aa (ab (i:=5)) ae)))))) (λ_=>(ab (i:=4)))))))
    (ar (uO (i:=3))))))),λds R h=>?_⟩
 obtain⟨n,ps,rfl,ok,CP,q⟩:=h;have hn:=ok.le;have hp:∀p∈ps,p.1<p.2:=λp hp=>(ok.lt p hp).1;refine⟨_,rfl,trivial,_,rfl,_,rfl,trivial,n,ps,rfl,ok,_,rfl,trivial,_,rfl,trivial,(n:Int)+1,rfl,by lia,by lia,trivial,?_⟩
 rw[show ((n:Int)+1).toNat=n+1 by lia]
 refine e8 (λ_=>true) (λ_=>.lst [.int 1]) trivial (by rw[VA];exact gv (by lia)) (λx hx x0 o J ho h1 _=>⟨trivial,vJ,trivial,ho,h1 rfl _⟩) ?_
 rw[cu];refine⟨_,rfl,trivial,n,rfl,hn,_,rfl,trivial,?_⟩;refine⟨λidx β=>∃L x4 x5 x6,β=[some (.val false (iN n ps)),some (.val true (.int n)),some (.val true (HH n ps)),some (.own (iR n L (sT ps))),x4,x5,x6]/\sf n idx L,⟨λ_=>1,_,_,_,rfl,jK⟩,?_,?_⟩
 ·rintro idx d β hd ⟨L,x4,x5,x6,rfl,dn⟩;rw[Vd]at hd;obtain⟨p,Ei,rfl⟩:=Vp.mp hd;obtain⟨a,b,ha,hb,rfl,hL,qY⟩:=lQ dn Ei;have eL:iR n L (sT ps)=iR n (bK n a b) (sT ps):=mL hL;have e0:bK n a b (n-1-a)=b+1:=by unfold bK;rw[if_neg (by lia),if_pos rfl]
  rw[eL];refine⟨_,rfl,rfl,_,_,rfl,_,_,rfl,rfl,?_⟩;have hpl:(eD ps (n-1-a)).length<=400:=by unfold eD;rw[UR];exact VB (WE _ _) ok.sm
  refine⟨_,rfl,trivial,_,rfl,_,JG rfl (by lia),.inr ⟨_,rfl,trivial,?_⟩⟩
  refine e8 (λk:Nat=>decide (k<n-a+b)) (λk=>.int (k:Int)) trivial (gv (VB hpl (by decide))) (λk hk y0 o J ho j1 j2=>?_) ?_
  ·refine⟨_,rfl,trivial,_,rfl,_,rfl,_,rfl,?_⟩
   by_cases A7:(k:Int)<((n-a+b:Nat):Int)
   ·exact o4 (decide_eq_true A7) ⟨_,rfl,trivial,ho,j1 (decide_eq_true (by lia)) _⟩
   ·exact gg (decide_eq_false A7) (j2 (decide_eq_false (by lia)) _)
  have ea:xa (.lst (((eD ps (n-1-a)).filter λk=>decide (k<n-a+b)).map λk:Nat=>D.int (k:Int))) (.lst [.bC])=some (.lst ((eg ps (n-1-a) (n-a+b)).map oD)):=by
   rw[<- all_map];exact lU (by rw[UR];have:=WE (λk=>decide (k<n-a+b)) (eD ps (n-1-a));show _+1<=_;lia)
  refine⟨trivial,trivial,vJ,_,ea,.inr ?_⟩;refine⟨⟨_,rfl⟩,_,rfl,_,_,_,_,rfl,rfl,by rw[UR,VA];exact oX rfl (show n-1-a<n+1 by lia),bS (show n-1-a<n+1 by lia),?_⟩
  refine⟨_,rfl,trivial,_,rfl,trivial,_,rfl,trivial,_,rfl,trivial,n,ps,bK n a b,n-1-a,n-a+b,rfl,ok,CP,by lia,by lia,λa' h1 h2=>by unfold bK;rw[if_pos h1];exact US _,trivial,rfl,?_,?_⟩
  ·rw[e0];unfold pQ;rw[UR,VA];exact pR (by lia)
  ·refine⟨bK n a (b+1),some (.val true (.int ((n-1-a:Nat):Int))),some (.val true (.int ((n-a+b:Nat):Int))),some (.val true (.lst ((eg ps (n-1-a) (n-a+b)).map oD))),?_,.inr ⟨a,b+1,ha,by lia,λ_ _=>rfl,qY⟩⟩
   rw[show n-a+b-(n-1-a)=b+1 by lia,e0,BH ha hb]
   rfl
 ·rintro β ⟨L,x4,x5,x6,rfl,dn⟩;rw[UR]at dn;have e:iR n L (sT ps)=Eo n (sT ps):=mL (nD dn);rw[e];exact⟨_,rfl,q⟩
theorem mn:aP ["row"] ["row"] (az de):=mkS
theorem Cn {wW ni} (Ey:D8 K mg wW ni) {rp jI} (Bb:D7 K mg rp jI) {jS fq} (pJ:D3 K mg jS fq) {jR fo} (pI:D2 K mg jR fo) {mB gy} (xA:D6 K mg mB gy) {gQ dC} (sC:D5 K mg gQ dC) {jT ft} (vp:D4 K mg jT ft) (B:xD mg):aX P w K mg base cy 4 wW ni ["row"] (fk P w true iE):=by
 have TY:aX P w K mg base cy 3 _ _ _ (fk P w true iC):= wm Bb pJ pI xA sC vp B;refine tm Ey.F mn (λds R Kr=> by obtain⟨n,ps,e,_⟩ := Kr;subst e;rfl) λcV A outer s H E hr=>⟨_,(ar (a_ (aR ag br (aR ag br (aZ iC.mono TY (hr.mono (by decide)) Bb.m Bb.F.kp Bb.b (aa (ab (i:=0)) ae)) ah) (aR ag br (ab (i:=0)) ah)))),λds R h=>?_⟩
 obtain⟨n,ps,rfl,ok,CP,q⟩:=h;exact⟨_,rfl,trivial,n,ps,rfl,ok,CP,trivial,_,Ec (i:=0) rfl (Vb _),.inr ⟨trivial,_,rfl,trivial,_,rfl,_,Ed (l:=n) rfl (by lia),trivial,q⟩⟩
end
end gZ
namespace L2.Q
open PySem PySem.Spec PySem.SeqAt PyProof.Rows
section
variable {X:Cx}{C:Cfg}{p p':Bool}{a b:Expr}{φa φb:aM}{g:D->D->Option D}{name:Str}{id:String}{apos cpos:Pos}
def P4 (g:D->D->Option D)(pb:Bool)(φa φb:aM):aM:=λβ R=>φa β λx ka β1=>(∃ds,x=.lst ds)/\hold ka pb/\φb β1 λy kb β2=>∃d,g x y=some d/\kN NF d (ka.max kb) λk=>R d k β2
abbrev LG (X:Cx)(id:String)(g:D->D->Option D):Prop:=Pq X id λx xs H Q=>∃y,xs=[y]/\yx X g NF x y H Q
theorem Ja (slot:Slot "list" name id) (JR:typeOf (.builtin id)=pure (.type "method_descriptor")) (hm:LG X id g) (ha:PQ X C p a φa) (hb:PQ X C p' b φb)
  (b5:Wr a name X.env (eval a X.env)=eval a X.env:=by rfl)
  (gO:((Wq cpos (U5 [b] X.env)).all (λx=>!x.1)&&(X5 cpos (Xp [] X.env)).all (λx=>x.1.isSome)
   && decide ([b].length+([]:List W6).length+(if ([]:List W6).isEmpty then 0 else 1)<30))=true:=by rfl)
  (b4:(apos.endLine==cpos.line)=true:=by rfl) (hs:U5 [b] X.env=(false,eval b X.env)::U5 [] X.env:=by rfl) (cj:(Wq cpos (U5 [] X.env)).any (·.1)=false:=by rfl) :
  PQ X C (p&&p') (.Call (.Attribute a name apos) [b] [] cpos) (P4 g p' φa φb) :=
 ⟨λβ R R' k h=>ha.mono β _ _ (λx ka β1 hx=>⟨hx.1,hx.2.1,hb.mono β1 _ _ (λy kb β2 hq=>by obtain⟨d,e,q⟩:=hq;exact⟨d,e,q.mono λ_ z=>k _ _ _ z⟩) hx.2.2⟩) h,
  (kU PySem.F.plainAttrs_list slot JR hm ha.pe (aF hb.pe bq (hs:=hs)) b5 gO b4 hs cj).pre λσ H Q hq=>by
    obtain⟨β,own,s,h⟩:=hq;refine tQ.of ha s h λd1 k1 β1 v1 H1 ao hx o1 r1=>?_;obtain⟨⟨ds,rfl⟩,hh,h1⟩:=hx;refine⟨?_,tQ.of hb o1.sq h1 λd2 k2 β2 v2 H2 aY wO o2 r2=>?_⟩
    · obtain⟨l,vs,rfl,hl,_⟩:=r1.rep;exact .inl ⟨rfl,vs,b3.of hl⟩
    · obtain⟨d,e,q⟩:=wO;have HG:=r1.ho o2 hh;refine⟨v2,rfl,av C (Wn aY) (k1.max k2),.lst ds,d2,d,o2.sq.Aj _,au.aL cK HG.rep,au.aL d7 r2.rep,e,λv H' s3 r3 n3=>?_⟩;have o:=(o1.trans o2).same s3;obtain⟨k,q,r⟩:=KV.kN (Z:=(H,Wn own)) zh r3 (λn=>f_ (H:=H2) o2.sq.sA o2.sq.fw (λa z=>o2.sn.d a (o1.sn.d a z)) (ag.nl _ n) (n3 n)) q;exact q v H' aY o r⟩
def Hi (a b:D):Option D:=a.CB.bind λds=>(jM ds).bind λns=>b.int?.map λk=>.int (ns.count k:Nat)
theorem zj:LG X "list.count" Hi:=by
 intro pins s σ H x xs v us Q I rx rs h;obtain⟨y,rfl,W,d1,d2,d,hd,r1,r2,e,q⟩:=h;obtain⟨ds,e1,e2⟩:=VZ.mp e;obtain⟨ns,e3,e4⟩:=VZ.mp e2;obtain⟨k,e5,rfl⟩:=Vp.mp e4;rw[D.oV e1,lT e3]at r1;rw[D.oZ e5]at r2;obtain⟨l,vs,rfl,hl,_,rv⟩:=r1;rw[_root_.L2.a8 rv]at hl;cases (show v=.ref l from rx)
 obtain⟨u,rfl,ru⟩:=vals1 rs;cases (show y=.int k from r2)
 obtain⟨t,rfl⟩:=ru;obtain⟨its,r',pl,_⟩:=I.list (b3.of hl);refine count_list_ints pl.isList (intsAre_of r') ?_;exact⟨.int (ns.count k:Nat),H,I.tok _,⟨_,rfl⟩,q _ _ (ay.refl _) rfl λ_=>rfl⟩
theorem yI (ha:PQ X C p a φa) (hb:PQ X C p' b φb) (b5:Wr a "count" X.env (eval a X.env)=eval a X.env:=by rfl)
  (gO:((Wq cpos (U5 [b] X.env)).all (λx=>!x.1)&&(X5 cpos (Xp [] X.env)).all (λx=>x.1.isSome)
   && decide ([b].length+([]:List W6).length+(if ([]:List W6).isEmpty then 0 else 1)<30))=true:=by rfl)
  (b4:(apos.endLine==cpos.line)=true:=by rfl) (hs:U5 [b] X.env=(false,eval b X.env)::U5 [] X.env:=by rfl) (cj:(Wq cpos (U5 [] X.env)).any (·.1)=false:=by rfl) :
  PQ X C (p&&p') (.Call (.Attribute a "count" apos) [b] [] cpos) (P4 Hi p' φa φb):=Ja PySem.F.slot_list_count PySem.F.type_list_count zj ha hb b5 gO b4 hs cj
end
end L2.Q
namespace gZ
open PySem L2 L2.Q
section
variable {P:UY}{w:Vc}{K:PySem.W.Frag}{mg:Str->Option UQ}{base:Heap}{c:Nat->Addr}
theorem Aw {β:Q.a7}{φ1 φ2 φ3 φ4:aM}{a b c d:Int}{R:D->Kd->Q.a7->Prop}(h1:∀R:D->Kd->Q.a7->Prop,R (.int a) .own β->φ1 β R)(h2:∀R:D->Kd->Q.a7->Prop,R (.int b) .own β->φ2 β R)(h3:∀R:D->Kd->Q.a7->Prop,R (.int c) .own β->φ3 β R)(h4:∀R:D->Kd->Q.a7->Prop,R (.int d) .own β->φ4 β R)
  (q:R (.bl (decide (a<b)&&(decide (b<c)&&decide (c<d)))) .own β):yy φ1 (Fs Mf φ2 (Fs Mf φ3 (IX Mf φ4))) β R:=by
 refine h1 _ (h2 _ ⟨_,rfl,si (λz1=>h3 _ ⟨_,rfl,si (λz2=>h4 _ ⟨_,rfl,?_⟩) (λz2=>?_)⟩) (λz1=>?_)⟩)
 ·simpa[z1,z2] using q
 ·simpa[z1,z2] using q
 ·simpa[z1] using q
theorem ml:aP ["row"] ["row"] (az dc):=mkS
theorem wo {wX nj} (Ez:D9 K mg wX nj) (B:Bs mg):aX P w K mg base cy 1 wX nj ["row"] (fk P w true rE):=by
 refine tm Ez.F ml (λds R Kq=> by obtain⟨n,ps,e,_⟩ := Kq;subst e;rfl) λcV A outer s H E hr=>⟨_,(ar (a_ (bP (aa (aR ag br (ab (i:=0)) ah) (aa (i4 aJ jO B.list gj (aa (aR ag br (ab (i:=0)) ah) ae)) ae))))),λds R h=>?_⟩
 obtain⟨n,ps,rfl,q⟩:=h;exact⟨_,rfl,trivial,_,rfl,trivial,_,rfl,trivial,_,rfl,.inr ⟨trivial,_,rfl,.inl ⟨lH,trivial,mM,trivial,q⟩⟩⟩
theorem jP:aP ["one","other"] ["one","other"] (az cC):=mkS
theorem FV {mC gz} (xB:LJ K mg mC gz):aX P w K mg base cy 1 mC gz ["one","other"] (fk P w true lN):=by
 refine tm xB.F jP (λds R Ko=> by obtain⟨t,u,e,_⟩ := Ko;subst e;rfl) λcV A outer s H E hr=>⟨_,(ar (a_ (I_ (qq (aR ag br (ab (i:=0)) ah) (ij cY (aR ag br (ab (i:=1)) ah) (ij cY (aR ag br (ab (i:=0)) ah) (uI cY (aR ag br (ab (i:=1)) ah))))) (sZ (qq (aR ag br (ab (i:=1)) ah) (ij cY (aR ag br (ab (i:=0)) ah) (ij cY (aR ag br (ab (i:=1)) ah) (uI cY (aR ag br (ab (i:=0)) ah))))))))),λds R h=>?_⟩
 obtain⟨t,u,rfl,⟨a,b,rfl⟩,⟨c,d,rfl⟩,q⟩:=h;refine Aw (a:=a) (b:=c) (c:=b) (d:=d) (λR h=>⟨_,rfl,trivial,_,rfl,h⟩) (λR h=>⟨_,rfl,trivial,_,rfl,h⟩) (λR h=>⟨_,rfl,trivial,_,rfl,h⟩) (λR h=>⟨_,rfl,trivial,_,rfl,h⟩) ⟨_,rfl,Qi (λh=>⟨trivial,?_⟩) (λh=>Aw (a:=c) (b:=a) (c:=d) (d:=b) (λR h=>⟨_,rfl,trivial,_,rfl,h⟩) (λR h=>⟨_,rfl,trivial,_,rfl,h⟩) (λR h=>⟨_,rfl,trivial,_,rfl,h⟩) (λR h=>⟨_,rfl,trivial,_,rfl,h⟩) ⟨trivial,?_⟩)⟩
 ·have:c3 [a,b] [c,d]=true:=by show (_ || _)=true;rw[h];rfl
  rw[<- this];exact q
 ·have:c3 [a,b] [c,d]=(decide (c<a)&&(decide (a<d)&&decide (d<b))):=by show (_ || _)=_;rw[h];rfl
  rw[<- this];exact q
def rD:FD:=λds R=>∃(ts:List (List Int)) (t:List Int),ds=[.lst (ts.map kD),kD t]/\Pairs ts/\Pair t/\R (.bl (ts.all λu=>!cX u t&&!c3 u t))
theorem rD.mono:dO rD:=λds R R' k h=>by obtain⟨ts,t,e,h1,h2,q⟩:=h;exact⟨ts,t,e,h1,h2,k _ q⟩
theorem jx:aP ["some","tie","one"] ["some","tie"] (az eX):=mkS
theorem Cj {rm jH} (Ba:Ms K mg rm jH) {mC gz} (xB:LJ K mg mC gz):aX P w K mg base cy 2 rm jH ["some","tie"] (fk P w true rD):=by
 have T1:aX P w K mg base cy 1 _ _ _ (fk P w true lN):=FV xB;refine tm Ba.F jx (λds R Kn=> by obtain⟨ss,p,e,_⟩ := Kn;subst e;rfl) λcV A outer s H E hr=>⟨_,(ai (cb VC rfl (bz (ab (i:=0))) (aw (i:=2) jx.nd) (ar (c4 (sG.t (gK (aS ag (b8.m (y8 hr.uh)) (aR ag br (ab (i:=2)) ah) (ab (i:=1))) (gK (aS ag (b8.m (y8 hr.uh)) (aR ag br (ab (i:=2)) ah) (ab (i:=1))) (ic (d3 (aZ lN.mono T1 (hr.mono (by decide)) xB.m xB.F.kp xB.b (aa (ab (i:=2)) (aa (ab (i:=1)) ae)))))))) (ar (a_ jC)) bu)))
    (ar (a_ jC))),λds R h=>?_⟩
 obtain⟨ts,t,rfl,hp,ht,q⟩:=h;refine⟨_,rfl,_,rfl,trivial,?_⟩;refine⟨λm β=>(∃x2,β=[some (.val false (.lst (ts.map kD))),some (.val false (kD t)),x2])/\(ts.take m).all (λu=>!cX u t&&!c3 u t)=true,⟨⟨_,rfl⟩,by rfl⟩,?_,?_⟩
 ·rintro m d β hd ⟨⟨x2,rfl⟩,hm⟩;rw[Vd]at hd;obtain⟨u,hu,rfl⟩:=Vp.mp hd;have um:=VG hu;obtain⟨a,b,rfl⟩:=hp u um;have bad:(!cX [a,b] t&&!c3 [a,b] t)=false->R (.bl false):=λz=>by
   have e:ts.all (λu=>!cX u t&&!c3 u t)=false:=List.all_eq_false.mpr ⟨_,um,by rw[z];exact VE⟩
   rw[e]at q;exact q
  refine⟨_,rfl,trivial,_,rfl,trivial,_,rfl,_,Ap a t,_,rfl,si (λz=>o4 rfl ⟨trivial,bad ?_⟩) (λz=>⟨_,rfl,trivial,_,rfl,trivial,_,rfl,_,Ap b t,_,rfl,si (λz2=>o4 rfl ⟨trivial,bad ?_⟩) (λz2=>⟨_,rfl,trivial,_,rfl,trivial,[a,b],t,rfl,⟨_,_,rfl⟩,ht,_,rfl,Qi (λz3=>⟨trivial,bad ?_⟩) (λz3=>⟨⟨_,rfl⟩,?_⟩)⟩)⟩)⟩
  ·rw[dj.mpr ⟨a,by simp,z⟩];rfl
  ·rw[dj.mpr ⟨b,by simp,z2⟩];rfl
  ·rw[z3,Bool.not_true,Zd]
  ·have hs:cX [a,b] t=false:=YM.mpr λh=>by
    obtain⟨i,h1,h2⟩:=dj.mp h;rcases UW.mp h1 with rfl|h1
    ·exact z h2
    ·rw[U3.mp h1]at h2;exact z2 h2
   rw[V2,hu,List.all_append,hm,Bool.true_and];show ((!cX [a,b] t&&!c3 [a,b] t)&&true)=true;rw[hs,z3];rfl
 ·rintro β ⟨⟨x2,rfl⟩,hm⟩;rw[UR,WA]at hm;rw[hm]at q;exact⟨trivial,q⟩
end
end gZ
namespace L2.Q
open PySem PySem.Spec PySem.SeqAt PyProof.Rows
section
variable {X:Cx}{C:Cfg}{e k:Expr}{φ:aM}{p:Bool}{i:Nat}{x:Str}{pos px ap cp:Pos}
theorem tj (he:∀U,PQ X (C.u U) p e φ)(hN:X.N[i]?=some x:=by rfl)(hv:j9 X.env.scope x:=by first|exact .inl rfl|exact .inr (.inl rfl)|exact .inr (.inr rfl))(hd:(x==("__debug__" : Str))=false:=by decide)(c7:(x==("__classdict__" : Str))=false:=by decide)
  (b5:Wr (.Name x px) "extend" X.env (eval (.Name x px) X.env)=eval (.Name x px) X.env:=by rfl)
  (gO:((Wq cp (U5 [e] X.env)).all (λx=>!x.1)&&(X5 cp (Xp [] X.env)).all (λx=>x.1.isSome)&&decide ([e].length+([]:List W6).length+(if ([]:List W6).isEmpty then 0 else 1)<30))=true:=by rfl)
  (b4:(ap.endLine==cp.line)=true:=by rfl) (hs:U5 [e] X.env=(false,eval e X.env)::U5 [] X.env:=by rfl) (cj:(Wq cp (U5 [] X.env)).any (·.1)=false:=by rfl)
  (o7:Wg (.Call (.Attribute (.Name x px) "extend" ap) [e] [] cp) none pos.line X.env=pure false:=by rfl) :
  PB X C (.Expr (.Call (.Attribute (.Name x px) "extend" ap) [e] [] cp) pos) (λE β=>(∃ds,β[i]?=some (some (.own (.lst ds))))/\φ β λd k β'=>k=.own/\∃ds es,d=.lst es/\β'[i]?=some (some (.own (.lst ds)))/\ds.length+es.length<=U8/\E.nx (β'.set i (some (.own (.lst (ds++es)))))):=by
 refine⟨λE E' β l g=>by obtain⟨h1,q⟩:=g;exact⟨h1,(he λ_=>False).mono _ _ _ (λd k β' g=>by obtain⟨h0,ds,es,h1,h2,h3,q⟩:=g;exact⟨h0,ds,es,h1,h2,h3,l.nx _ q⟩) q⟩,λpins s σ H De I ⟨Z,E,β,⟨own,sq,n⟩,⟨⟨Pa,hb⟩,q⟩,ok⟩=>?_⟩
 refine dZ (pos:=pos) (kU (apos:=ap) (cpos:=cp) PySem.F.plainAttrs_list PySem.F.slot_list_extend PySem.F.type_list_extend wx (bp (pos:=px) hN hv hd c7) (aF (he λa=>H a=none).pe bq hs) b5 gO b4 hs cj) o7 pins s σ H De I ?_;obtain⟨a,PH,A0,h1,h2,h3,h4⟩:=sq.lh hb;refine⟨.ref a,h1,.inl ⟨rfl,_,b3.of h2⟩,tQ.of (he λa=>H a=none) (sq.gu (C:=C.z) (U:=λa=>H a=none) λa z=>z) q λd k β' v H1 ao ⟨ek,ds,es,e1,gY,hl,q⟩ o r=>?_⟩;subst ek e1;obtain⟨A2,⟨b,us,A3,rfl,zV,rfl,ow⟩,wu,r3⟩:=r;obtain⟨a',vs,A,g1,g2,g3,g4⟩:=o.sq.lh gY;rw[h1]at g1;cases g1;have nd:=o.sq.gX i;rw[g3]at nd;have off:∀c∈A3,∀c'∈A,c≠c':=λc hc c' my z=>(r3 c (by simp[hc])).2.1 ⟨i,by rw[g3,z];simp[my]⟩
 obtain⟨s2,hA⟩:=o.sq.putL (C:=C) (U:=λa=>H a=none) (U2:=λ_=>False) (ds':=ds++es) (vs':=vs++us) (A':=A++A3) gY h1 g2 g3 (g4.append ow)
  (Vu.mpr ⟨(Vt.mp nd).2,(Vt.mp wu).2,λx hx y hy z=>off y hy x hx z.symm⟩)
  (λc hc=>by
   rcases Vh.mp hc with hc|hc
   ·exact .inl hc
   ·have:=r3 c (by simp[hc])
    exact .inr ⟨this.2.2,this.2.1,this.1⟩) (λ_ z=>z.elim) (λc hc n z=>z)
 exact⟨a,b,vs,us,rfl,rfl,g2,zV,by rw[g4.length,ow.length];exact hl,ok.nx _ _ _ ⟨_,s2,uy (n.trans o.sn) (λb z=>n.free z) g2 (λxs z=>by cases z) ⟨i,by rw[g3];simp⟩ hA⟩ q⟩
end
abbrev PN:=Nat×Nat
def sumF (ps:List PN)(c:PN->Bool)(f:PN->Nat):Nat:=((ps.filter c).map f).sum
theorem h9 {c:PN->Bool}{f:PN->Nat}:sumF [] c f=0:=rfl
theorem aU {p:PN}{ps:List PN}{c:PN->Bool}{f:PN->Nat}:sumF (p::ps) c f=(if c p=true then f p else 0)+sumF ps c f:=by
 unfold sumF
 by_cases h:c p=true
 ·rw[List.filter_cons_of_pos h,if_pos h,Vj,Wh]
 ·rw[List.filter_cons_of_neg h,if_neg h,We]
theorem pX {f:PN->Nat}{c:PN->Bool}:∀{as bs:List PN},sumF (as++bs) c f=sumF as c f+sumF bs c f
 |[],bs=>by rw[YY,h9,We]
 |a::as,bs=>by rw[XD,aU,aU,pX,XG]
theorem eR {c d:PN->Bool}{f g:PN->Nat}:∀{ps:List PN},(∀p∈ps,c p=d p/\(c p=true->f p=g p))->sumF ps c f=sumF ps d g
 |[],_=>rfl
 |p::ps,h=>by
  rw[aU,aU,eR λq hq=>h q (UZ _ hq)];obtain⟨h1,h2⟩:=h p U1;rw[<- h1]
  by_cases hc:c p=true
  ·rw[if_pos hc,if_pos hc,h2 hc]
  ·rw[if_neg hc,if_neg hc]
theorem dh {c:PN->Bool}{f:PN->Nat}:∀{ps:List PN},(∀p∈ps,c p=false)->sumF ps c f=0
 |[],_=>rfl
 |p::ps,h=>by
  rw[aU,h p U1,dh λq hq=>h q (UZ _ hq)];rfl
theorem hZ {c d e:PN->Bool}{f:PN->Nat}:∀{ps:List PN},(∀p∈ps,c p=(d p || e p)/\¬ (d p=true/\e p=true))->sumF ps c f=sumF ps d f+sumF ps e f
 |[],_=>rfl
 |p::ps,h=>by
  rw[aU,aU,aU,hZ λq hq=>h q (UZ _ hq)];obtain⟨h1,h2⟩:=h p U1;rw[h1];cases hd:d p <;> cases he:e p
  ·simp
  ·simp;lia
  ·simp;lia
  ·exact absurd ⟨hd,he⟩ h2
theorem n_ {c d:PN->Bool}{f:PN->Nat}:∀{ps:List PN},(∀p∈ps,c p=true->d p=true)->sumF ps c f<=sumF ps d f
 |[],_=>US _
 |p::ps,h=>by
  rw[aU,aU];have:=n_ (f:=f) λq hq=>h q (UZ _ hq)
  by_cases hc:c p=true
  ·rw[if_pos hc,if_pos (h p U1 hc)];lia
  ·rw[if_neg hc];lia
theorem pW {c:PN->Bool}{f:PN->Nat}{a:Nat}:∀{ps:List PN},sumF ps c (λp=>f p*a)=sumF ps c f*a
 |[]=>by rw[h9,h9,Nat.zero_mul]
 |p::ps=>by
  rw[aU,aU,pW,YT]
  congr 1
  by_cases hc:c p=true
  ·rw[if_pos hc,if_pos hc]
  ·rw[if_neg hc,if_neg hc,Nat.zero_mul]
theorem oe {p:PN}{f:PN->Nat}:∀{ps:List PN},ps.Nodup->p∈ps->sumF ps (λo=>decide (o=p)) f=f p
 |[],_,h=>nomatch h
 |q::ps,nd,h=>by
  rw[aU];have Jr:=Vt.mp nd;rcases UW.mp h with rfl|h
  ·rw[if_pos (decide_eq_true rfl),dh (c:=λo=>decide (o=p)) λo ho=>decide_eq_false λ(z:o=p)=>Jr.1 (z▸ho)];rfl
  ·have ne:q≠p:=λz=>Jr.1 (z▸h);rw[if_neg (λz=>ne (of_decide_eq_true z)),oe Jr.2 h,We]
def xv (v p:PN):Bool:=decide (v.1<=p.1/\p.2<v.2)
theorem yn {ps:List PN}(hp:∀p∈ps,p.1<p.2):∀l i,sa ps l i=1+sumF ps (xv (i,i+l)) (λp=>sa ps (p.2-(p.1+1)) (p.1+1)*sa ps (i+l-(p.2+1)) (p.2+1))
 |0,i=>by
  rw[dh (c:=xv (i,i+0)) λp h=>decide_eq_false λz=>?_]
  ·rfl
  ·have:=hp p h;have:=z.1;have:=z.2;dsimp only at *
   lia
 |l+1,i=>by
  have e:sa ps (l+1) i=((eg ps i (i+l+1)).map (dw ps i (i+l+1))).sum:=jV hp;rw[e];unfold eg;rw[Vf,Yk,Vj,Yb,Wh,List.sum_nil,Nat.add_zero,gJ,show i+l+1-(i+1)=l by lia,yn hp l (i+1)]
  have a:(((((eD ps i).filter λk=>decide (k<i+l+1)).map some).map (dw ps i (i+l+1))).sum)=sumF ps (λp=>decide (p.1=i)&&decide (p.2<i+l+1)) (λp=>sa ps (p.2-(p.1+1)) (p.1+1)*sa ps (i+(l+1)-(p.2+1)) (p.2+1)):=by
   unfold eD sumF;rw[List.filter_map,V4,V4,YA]
   congr 1
   rw[YJ (q:=λp=>decide (p.1=i)&&decide (p.2<i+l+1)) λp hp=>by simp only[Function.comp];exact Bool.and_comm _ _]
   refine VQ λp hp=>?_;obtain⟨_,h⟩:=VH.mp hp;have h1:=of_decide_eq_true (VU.mp h).1;show dw ps i (i+l+1) (some p.2)=_;rw[gI,h1];rfl
  rw[a];generalize hA:sumF ps (λp=>decide (p.fst=i)&&decide (p.snd<i+l+1)) _=A;rw[show ∀B:Nat,A+(1+B+0)=1+(A+B) from λB=>by lia,<- hA]
  refine congrArg (1+·) ?_;rw[hZ (c:=xv (i,i+(l+1))) (d:=λp=>decide (p.1=i)&&decide (p.2<i+l+1)) (e:=xv (i+1,i+1+l))]
  ·congr 1
   refine eR λp h=>⟨rfl,λ_=>by rw[show i+(l+1)-(p.2+1)=i+1+l-(p.2+1) by lia]⟩
  ·intro p h;constructor
   ·unfold xv;rw[<- Bool.decide_and,<- Bool.decide_or];refine decide_eq_decide.mpr ?_;dsimp only;lia
   ·rintro⟨z1,z2⟩;have z1:=of_decide_eq_true (VU.mp z1).1;have z2:=of_decide_eq_true z2;have:=z2.1;dsimp only at this;lia
theorem z8 {ps:List PN}:∀{ws:List PN} {a:Nat},ws.foldl (fW ps) a=a*aT ps ws
 |[],a=>by show a=a*1;rw[Nat.mul_one]
 |v::ws,a=>by
  show ws.foldl (fW ps) (a*_)=a*ws.foldl (fW ps) (1*_);rw[z8,z8 (a:=1*_),XH,Nat.mul_assoc]
theorem eZ {ps ws:List PN}{v:PN}:aT ps (v::ws)=sa ps (v.2-v.1) v.1*aT ps ws:=by
 show ws.foldl (fW ps) (1*_)=_;rw[z8,XH]
theorem eO {v p:PN}{ws:List PN}:wb (v::ws) p=if v.1<=p.1/\p.2<v.2 then some ((p.1+1,p.2)::(p.2+1,v.2)::ws) else wb ws p:=rfl
theorem nX {p:PN}:∀{ws l:List PN},wb ws p=some l->HB ws p
 |[],_,e=>nomatch e
 |v::ws,l,e=>by
  rw[eO]at e
  by_cases c:v.1<=p.1/\p.2<v.2
  ·exact⟨v,U1,c⟩
  ·rw[if_neg c]at e;obtain⟨x,hx,kx⟩:=nX e;exact⟨x,UZ _ hx,kx⟩
abbrev fits (ws:List PN)(p:PN):Bool:=(wb ws p).isSome
abbrev below (ps ws:List PN)(p:PN):Nat:=aT ps ((wb ws p).getD [])
theorem iB {ws:List PN}{p:PN}(h:fits ws p=true):∃l,wb ws p=some l:=Option.isSome_iff_exists.mp h
theorem t7 {ps:List PN}(hp:∀p∈ps,p.1<p.2){n:Nat}:∀{ws:List PN} {lo:Nat},gB n lo ws->aT ps ws=1+sumF ps (fits ws) (below ps ws)
 |[],_,_=>by rw[dh (c:=fits []) λ_ _=>rfl];rfl
 |v::ws,lo,h=>by
  have ih:=t7 hp h.2.2.2;have fQ:∀p∈ps,xv v p=true->wb ws p=none:=λp hm hs=>by
   cases e:wb ws p with
   |none=>rfl
   |some l =>
    obtain⟨x,hx,kx⟩:=nX e;have:=h.2.2.2.mem x hx;have:=of_decide_eq_true hs;have:=hp p hm;lia
  rw[hZ (d:=xv v) (e:=fits ws)]
  ·rw[eR (c:=xv v) (d:=xv (v.1,v.1+(v.2-v.1))) (g:=λp=>(sa ps (p.2-(p.1+1)) (p.1+1)*sa ps (v.1+(v.2-v.1)-(p.2+1)) (p.2+1))*aT ps ws),pW,eR (c:=fits ws) (d:=fits ws) (g:=below ps ws)]
   ·rw[eZ,yn hp (v.2-v.1) v.1];generalize sumF ps (xv (v.1,v.1+(v.2-v.1))) _=A;rw[YT,XH];lia
   ·intro p hm;refine⟨rfl,λhf=>?_⟩;show aT ps ((wb (v::ws) p).getD [])=_;rw[eO,if_neg];intro z;obtain⟨l,e⟩:=iB hf;rw[fQ p hm (decide_eq_true z)]at e;cases e
   ·intro p hm;have hv:v.1+(v.2-v.1)=v.2:=by have:=h.2.1;lia
    rw[hv];refine⟨rfl,λhs=>?_⟩;show aT ps ((wb (v::ws) p).getD [])=_;rw[eO,if_pos (of_decide_eq_true hs)];show aT ps (_::_::ws)=_;rw[eZ,eZ,Nat.mul_assoc]
  ·intro p hm;constructor
   ·show (wb (v::ws) p).isSome=_;rw[eO]
    by_cases c:v.1<=p.1/\p.2<v.2
    ·rw[if_pos c,show xv v p=true from decide_eq_true c];rfl
    ·rw[if_neg c,show xv v p=false from decide_eq_false c];rfl
   ·rintro⟨z1,z2⟩;obtain⟨l,e⟩:=iB z2;rw[fQ p hm z1]at e;cases e
end L2.Q
namespace QR
open PySem PySem.Spec PyProof.Rows TS
def CC:List (List Int)->List (List Int)->Bool
 |[],y=>decide (0<y.length)
 |_::_,[]=>false
 |a::x,b::y=>if a=b then CC x y else HT.lexLt a b
theorem uV {b:List Int}{y:List (List Int)}:CC [] (b::y)=true:=decide_eq_true (Nat.succ_pos _)
theorem qP {a b:List Int}{x y:List (List Int)}:CC (a::x) (b::y)=if a=b then CC x y else HT.lexLt a b:=rfl
theorem mX:∀{x y:List (List Int)},CC x y=false->CC y x=false->x=y
 |[],[],_,_=>rfl
 |[],_::_,h,_=>by rw[uV]at h;cases h
 |_::_,[],_,h=>by rw[uV]at h;cases h
 |a::x,b::y,h1,h2=>by
  rw[qP]at h1 h2
  by_cases e:a=b
  ·subst e;rw[if_pos rfl]at h1 h2;rw[mX h1 h2]
  ·rw[if_neg e]at h1;rw[if_neg (WO e)]at h2;exact absurd (mY h1 h2) e
section
end
section
open PySem.SeqAt
open PySem.AutoSeq1 (wpAny_loadPart')
open PySem.MeetsSeq PySem.MeetsSeq2 PySem.MeetsSeq3
end
end QR
namespace L2.Q
open PySem PySem.Spec PySem.SeqAt PyProof.Rows QR
abbrev iM (p q:PN):Bool:=HT.lexLt (tI p) (tI q)
theorem n6 {p q:PN}(h:p.1<q.1):iM p q=true:=by
 show HT.lexLt ((p.1:Int)::[(p.2:Int)]) ((q.1:Int)::[(q.2:Int)])=true;rw[HT.cg,if_neg (by lia)]
 exact decide_eq_true (by lia)
theorem hG (p:PN):iM p p=false:=mZ _
theorem kr {p q:PN}(h:iM p q=true):iM q p=false:=gM h
theorem xS {p q r:PN}(h:iM p q=true)(k:iM q r=true):iM p r=true:=fM h k
theorem xT {p q:PN}(h:iM p q=false)(k:iM q p=false):p=q:=iS (e9 h k)
def xp (ps:List PN):Prop:=ps.Pairwise λp q=>iM p q=true
def Va (ps:List PN):List PN->List PN->Prop
 |_,[]=>True
 |ws,t::ts=>t∈ps/\∃l,wb ws t=some l/\Va ps l ts
theorem iV {ps ws:List PN}{t:PN}:vO ps ws t=1+sumF ps (λo=>iM o t&&fits ws o) (below ps ws):=by
 unfold vO Br sumF;rw[YA]
theorem fC {ps ws ts l:List PN}{t:PN}(e:wb ws t=some l):md ps ws (t::ts)=vO ps ws t+md ps l ts:=by
 show vO ps ws t+md ps ((wb ws t).getD []) ts=_;rw[e];rfl
section
variable {ps:List PN}{n:Nat}
theorem Ff (hp:∀p∈ps,p.1<p.2)(nd:ps.Nodup){ws l:List PN}{lo:Nat}{t:PN}(h:gB n lo ws)(ht:t∈ps)(e:wb ws t=some l):vO ps ws t+aT ps l<=aT ps ws:=by
 rw[iV,t7 hp h];have a:sumF ps (λo=>decide (o=t)) (below ps ws)=aT ps l:=by
  rw[oe nd ht];show aT ps ((wb ws t).getD [])=_;rw[e];rfl
 have b:=hZ (f:=below ps ws) (ps:=ps) (c:=λo=>(iM o t&&fits ws o) || decide (o=t)) (d:=λo=>iM o t&&fits ws o) (e:=λo=>decide (o=t)) λp _=>⟨rfl,λKm=> by
  obtain⟨z1,z2⟩ := Km;have z2:=of_decide_eq_true z2;rw[z2,hG]at z1;cases z1⟩
 have c:=n_ (f:=below ps ws) (ps:=ps) (c:=λo=>(iM o t&&fits ws o) || decide (o=t)) (d:=fits ws) λp _ z=>by
  rcases Bool.or_eq_true_iff.mp z with z|z
  ·exact(VU.mp z).2
  ·rw[of_decide_eq_true z];show (wb ws t).isSome=true;rw[e];rfl
 lia
theorem Fe (nd:ps.Nodup){ws l:List PN}{t u:PN}(ht:t∈ps)(e:wb ws t=some l)(h:iM t u=true):vO ps ws t+aT ps l<=vO ps ws u:=by
 rw[iV,iV];have a:sumF ps (λo=>decide (o=t)) (below ps ws)=aT ps l:=by
  rw[oe nd ht];show aT ps ((wb ws t).getD [])=_;rw[e];rfl
 have b:=hZ (f:=below ps ws) (ps:=ps) (c:=λo=>(iM o t&&fits ws o) || decide (o=t)) (d:=λo=>iM o t&&fits ws o) (e:=λo=>decide (o=t)) λp _=>⟨rfl,λKl=> by
  obtain⟨z1,z2⟩ := Kl;have z2:=of_decide_eq_true z2;rw[z2,hG]at z1;cases z1⟩
 have c:=n_ (f:=below ps ws) (ps:=ps) (c:=λo=>(iM o t&&fits ws o) || decide (o=t)) (d:=λo=>iM o u&&fits ws o) λp _ z=>by
  rcases Bool.or_eq_true_iff.mp z with z|z
  ·exact VU.mpr ⟨xS (VU.mp z).1 h,(VU.mp z).2⟩
  ·rw[of_decide_eq_true z,h];show (true&&(wb ws t).isSome)=true;rw[e];rfl
 lia
theorem oh (hp:∀p∈ps,p.1<p.2)(nd:ps.Nodup):∀{ts ws:List PN} {lo:Nat},gB n lo ws->Va ps ws ts->md ps ws ts<aT ps ws
 |[],ws,_,h,_=>by
  rw[t7 hp h];show 0<_;lia
 |t::ts,ws,lo,h,⟨ht,l,e,v⟩=>by
  have:=oh hp nd (js (hp t ht) h e) v;have:=Ff hp nd h ht e;rw[fC e];lia
theorem oi (hp:∀p∈ps,p.1<p.2)(nd:ps.Nodup):∀{ts us ws:List PN} {lo:Nat},gB n lo ws->Va ps ws ts->Va ps ws us->CC (ts.map tI) (us.map tI)=true->md ps ws ts<md ps ws us
 |[],[],_,_,_,_,_,z=>by cases z
 |[],u::us,ws,_,h,_,_,_=>by
  show 0<vO ps ws u+_;rw[iV];lia
 |_::_,[],_,_,_,_,_,z=>by cases z
 |t::ts,u::us,ws,lo,h,⟨ht,l,e,v⟩,⟨hu,m,e',v'⟩,z=>by
  rw[Vj,Vj,qP]at z;rw[fC e,fC e']
  by_cases c:tI t=tI u
  ·rw[if_pos c]at z;cases iS c;rw[e]at e';cases e';have:=oi hp nd (js (hp t ht) h e) v v' z;lia
  ·rw[if_neg c]at z;have:=Fe nd ht e z;have:=oh hp nd (js (hp t ht) h e) v;lia
theorem ur:∀{ts us:List PN},ts.map tI=us.map tI->ts=us
 |[],[],_=>rfl
 |[],_::_,z=>by cases z
 |_::_,[],z=>by cases z
 |t::ts,u::us,z=>by
  rw[Vj,Vj]at z;obtain⟨a,b⟩:=List.cons.inj z;rw[iS a,ur b]
theorem uw (hp:∀p∈ps,p.1<p.2)(nd:ps.Nodup){ts us ws:List PN}{lo:Nat}(h:gB n lo ws)(v:Va ps ws ts)(v':Va ps ws us)(e:md ps ws ts=md ps ws us):ts=us:=by
 refine ur (mX ?_ ?_)
 ·cases z:CC (ts.map tI) (us.map tI)with
  |false=>rfl
  |true=>have:=oi hp nd h v v' z;lia
 ·cases z:CC (us.map tI) (ts.map tI)with
  |false=>rfl
  |true=>have:=oi hp nd h v' v z;lia
theorem DG {p:PN}(hp:p.1<p.2):∀{ws l:List PN} {lo:Nat},gB n lo ws->wb ws p=some l->gB n (p.1+1) l
 |[],_,_,_,e=>nomatch e
 |v::ws,l,lo,h,e=>by
  rw[eO]at e
  by_cases c:v.1<=p.1/\p.2<v.2
  ·rw[if_pos c]at e;cases e;have:=h.2.2.1;exact⟨US _,hp,by show p.2<=n;lia,US _,c.2,h.2.2.1,h.2.2.2⟩
  ·rw[if_neg c]at e;exact DG hp h.2.2.2 e
theorem CY {p:PN}{ws:List PN}{lo:Nat}(h:gB n lo ws)(f:fits ws p=true):lo<=p.1:=by
 obtain⟨l,e⟩:=iB f;obtain⟨x,hx,k⟩:=nX e;have:=h.mem x hx;lia
def IC (ps qs ws:List PN):List PN->Nat
 |[]=>0
 |t::ts=>1+sumF qs (λo=>iM o t&&fits ws o) (below ps ws)+md ps ((wb ws t).getD []) ts
theorem BF {ws:List PN}:∀ts:List PN,IC ps ps ws ts=md ps ws ts
 |[]=>rfl
 |t::ts=>by
  show 1+_+_=vO ps ws t+_;rw[iV]
theorem fE (hp:∀p∈ps,p.1<p.2)(hs:xp ps):∀(qs as ws ch:List PN) (k:Nat),ps=as++qs->gB n 0 ws->k<=sumF qs (fits ws) (below ps ws) ->
  ∃ts,(qs.foldl (mq ps) (ws,ch,(k:Int))).2.1=ch++ts/\Va ps ws ts/\IC ps qs ws ts=k/\∀t us,ts=t::us->t∈qs
 |[],as,ws,ch,k,_,_,h=>by
  rw[h9]at h;exact⟨[],(VW _).symm,trivial,by show 0=k;lia,λt us z=>nomatch z⟩
 |q::qs,as,ws,ch,k,ep,hw,h=>by
  have Es:ps=(as++[q])++qs:=by rw[ep,VP];rfl
  have hq:q∈ps:=by rw[ep];exact Vw _ U1
  rw[ep]at hs;obtain⟨_,tP,So⟩:=WH.mp hs;have L3:=VJ.mp tP;rw[<- ep]at hs;rw[aU]at h;rw[Wf];cases e:wb ws q with
  |none =>
   have ef:fits ws q=false:=by show (wb ws q).isSome=false;rw[e];rfl
   have es:mq ps (ws,ch,(k:Int)) q=(ws,ch,(k:Int)):=by unfold mq;rw[e]
   rw[es];rw[if_neg (by rw[ef];decide),We]at h
   obtain⟨ts,h1,h2,h3,h4⟩:=fE hp hs qs _ ws ch k Es hw h;refine⟨ts,h1,h2,?_,λt us z=>UZ _ (h4 t us z)⟩;cases ts with
   |nil=>exact h3
   |cons t ts =>
    rw[<- h3];show 1+sumF (q::qs) _ _+_=1+sumF qs _ _+_;rw[aU,if_neg (by rw[ef,Zd];decide),We]
  |some l =>
   have ef:fits ws q=true:=by show (wb ws q).isSome=true;rw[e];rfl
   have eb:below ps ws q=aT ps l:=by show aT ps ((wb ws q).getD [])=_;rw[e];rfl
   rw[if_pos ef,eb]at h
   by_cases k0:k=0
   ·subst k0;have es:mq ps (ws,ch,((0:Nat):Int)) q=(ws,ch,((0:Nat):Int)):=by unfold mq;rw[e];exact if_neg (by dsimp only;lia)
    rw[es];obtain⟨ts,h1,h2,h3,h4⟩:=fE hp hs qs _ ws ch 0 Es hw (Vb _);cases ts with
    |nil=>exact⟨[],h1,trivial,rfl,λt us z=>nomatch z⟩
    |cons t ts=>change 1+_+_=0 at h3;lia
   by_cases kl:k<=aT ps l
   ·have es:mq ps (ws,ch,(k:Int)) q=(l,ch++[q],((k-1:Nat):Int)):=by
     unfold mq;rw[e];show (if (0:Int)<k then (if (k:Int)<=_ then _ else _) else _)=_
     rw[if_pos (by lia),if_pos (by lia),show (k:Int)-1=((k-1:Nat):Int) by lia]
    rw[es];have hl:=DG (hp q hq) hw e;have Qu:=js (hp q hq) hw e;have out:∀p,p∈as\/p=q->fits l p=false:=λp Eh=>by
     cases z:fits l p with
     |false=>rfl
     |true =>
      have z1:=CY hl z;have z2:=n6 (p:=q) (q:=p) (by lia)
      rcases Eh with hm|rfl
      ·have:=kr z2;rw[So p hm q U1]at this;cases this
      ·rw[hG]at z2;cases z2
    have sm:∀c:PN->Bool,(∀p,c p=true->fits l p=true)->sumF ps c (below ps l)=sumF qs c (below ps l):=λc hc=>by
     have o2:∀p,p∈as\/p=q->c p=false:=λp Eh=>by
      cases z:c p with
      |false=>rfl
      |true=>exact absurd (hc p z) (by rw[out p Eh];decide)
     conv=>lhs;arg 1;rw[ep]
     rw[pX,dh λp hm=>o2 p (.inl hm),aU,if_neg (by rw[o2 q (.inr rfl)];decide)]
     lia
    obtain⟨ts,h1,h2,h3,h4⟩:=fE hp hs qs _ l (ch++[q]) (k-1) Es Qu (by
     have:=t7 hp Qu;rw[sm _ λ_ z=>z]at this;lia)
    refine⟨q::ts,by rw[h1,VP];rfl,⟨hq,l,e,h2⟩,?_,λt us z=>by cases z;exact U1⟩
    show 1+sumF (q::qs) _ _+md ps ((wb ws q).getD []) ts=k;rw[e,dh λp hm=>?_]
    ·show 1+0+md ps l ts=k;have:md ps l ts=k-1:=by
      rw[<- h3];cases ts with
      |nil=>rfl
      |cons t ts =>
       show vO ps l t+_=1+_+_;rw[iV,sm _ λp z=>(VU.mp z).2]
     lia
    ·rcases UW.mp hm with rfl|hm
     ·rw[hG];rfl
     ·rw[kr (L3.1 p hm)];rfl
   ·have es:mq ps (ws,ch,(k:Int)) q=(ws,ch,((k-aT ps l:Nat):Int)):=by
     unfold mq;rw[e];show (if (0:Int)<k then (if (k:Int)<=_ then _ else _) else _)=_
     rw[if_pos (by lia),if_neg (by lia),show (k:Int)-((aT ps l:Nat):Int)=((k-aT ps l:Nat):Int) by lia]
    rw[es];obtain⟨ts,h1,h2,h3,h4⟩:=fE hp hs qs _ ws ch (k-aT ps l) Es hw (by lia)
    refine⟨ts,h1,h2,?_,λt us z=>UZ _ (h4 t us z)⟩;cases ts with
    |nil=>change 0=_ at h3;lia
    |cons t ts =>
     change 1+sumF qs _ _+_=_ at h3
     show 1+sumF (q::qs) _ _+_=k;rw[aU,if_pos (by rw[ef,L3.1 t (h4 t ts rfl)];rfl),eb]
     lia
theorem f7:aT ps [(0,n)]=sa ps n 0:=by
 rw[eZ];show sa ps (n-0) 0*1=_;rw[Nat.mul_one,Nat.sub_zero]
theorem fD (hp:∀p∈ps,p.1<p.2)(hs:xp ps){k:Nat}(hk:k<sa ps n 0):Va ps [(0,n)] (sat ps n k)/\md ps [(0,n)] (sat ps n k)=k:=by
 have:=t7 hp (iO (n:=n));rw[f7]at this;obtain⟨ts,h1,h2,h3,_⟩:=fE hp hs ps [] [(0,n)] [] k rfl iO (by lia)
 have e:sat ps n k=ts:=h1;rw[e];exact⟨h2,by rw[<- h3,BF]⟩
end
section
variable {ps:List PN}{n:Nat}
theorem kh:∀{a b ws:List PN},Va ps ws (a++b)↔Va ps ws a/\∃l,wa ws a=some l/\Va ps l b
 |[],b,ws=>⟨λh=>⟨trivial,ws,rfl,h⟩,λKk=> by obtain⟨_,l,e,h⟩ := Kk;cases e;exact h⟩
 |t::a,b,ws=>by
  constructor
  ·rintro⟨ht,l,e,v⟩;obtain⟨h1,m,e',h2⟩:=kh.mp v;exact⟨⟨ht,l,e,h1⟩,m,by show (wb ws t).bind _=_;rw[e];exact e',h2⟩
  ·rintro⟨⟨ht,l,e,h1⟩,m,e',h2⟩
   change (wb ws t).bind _=_ at e'
   rw[e]at e';exact⟨ht,l,e,kh.mpr ⟨h1,m,e',h2⟩⟩
theorem xM (hp:∀p∈ps,p.1<p.2):∀{a ws l:List PN} {lo:Nat},gB n lo ws->Va ps ws a->wa ws a=some l->gB n lo l
 |[],ws,l,lo,h,_,e=>by cases e;exact h
 |t::a,ws,l,lo,h,⟨ht,m,e,v⟩,e'=>by
  change (wb ws t).bind _=_ at e'
  rw[e]at e';exact xM hp (js (hp t ht) h e) v e'
theorem ux:∀{a b ws l:List PN},wa ws a=some l->md ps ws (a++b)=md ps ws a+md ps l b
 |[],b,ws,l,e=>by cases e;show _=0+_;rw[We];rfl
 |t::a,b,ws,l,e=>by
  change (wb ws t).bind _=_ at e
  obtain⟨m,e1,e2⟩:=VZ.mp e;rw[XD,fC e1,fC e1,ux e2,XG]
theorem DH:∀{ts ws l:List PN},(∀t∈ts,t∈ps)->wa ws ts=some l->Va ps ws ts
 |[],_,_,_,_=>trivial
 |t::ts,ws,l,h,e=>by
  change (wb ws t).bind _=_ at e
  obtain⟨m,e1,e2⟩:=VZ.mp e;exact⟨h t U1,m,e1,DH (λu hu=>h u (UZ _ hu)) e2⟩
theorem pB.va (ok:l5 n ps){ns:List PN}(h:pB ps ns):Va ps [(0,n)] ns:=by
 obtain⟨l,e,_⟩:=h.wa ok;exact DH h.1 e
def Fr (s:PN)(ws:List PN):Prop:=∀v∈ws,s.1<v.1/\(v.2<=s.2\/s.2<v.1)
theorem Ep {s p:PN}(hp:p.1<p.2):∀{ws l:List PN},Fr s ws->wb ws p=some l->Fr s l
 |[],_,_,e=>nomatch e
 |v::ws,l,h,e=>by
  rw[eO]at e
  by_cases c:v.1<=p.1/\p.2<v.2
  ·rw[if_pos c]at e;cases e;have hv:=h v U1;intro u hu;rcases UW.mp hu with rfl|hu
   ·dsimp only;lia
   rcases UW.mp hu with rfl|hu
   ·dsimp only;lia
   exact h u (UZ _ hu)
  ·rw[if_neg c]at e;exact Ep hp (λu hu=>h u (UZ _ hu)) e
theorem vc {p:PN}(hp:p.1<p.2):∀{ws l:List PN} {lo:Nat},gB n lo ws->wb ws p=some l->Fr p l
 |[],_,_,_,e=>nomatch e
 |v::ws,l,lo,h,e=>by
  rw[eO]at e
  by_cases c:v.1<=p.1/\p.2<v.2
  ·rw[if_pos c]at e;cases e;intro u hu;rcases UW.mp hu with rfl|hu
   ·dsimp only;lia
   rcases UW.mp hu with rfl|hu
   ·dsimp only;lia
   have:=h.2.2.2.mem u hu;lia
  ·rw[if_neg c]at e;exact vc hp h.2.2.2 e
theorem DI (hp:∀p∈ps,p.1<p.2){s:PN}:∀{ts ws:List PN},Fr s ws->Va ps ws ts->∀t∈ts,s.1<t.1/\HD s t
 |[],_,_,_,t,ht=>nomatch ht
 |u::ts,ws,f,⟨hu,l,e,v⟩,t,ht=>by
  rcases UW.mp ht with rfl|ht
  ·obtain⟨x,hx,k⟩:=nX e;have:=f x hx;show s.1<t.1/\(t.2<s.2\/s.2<t.1);lia
  ·exact DI hp (Ep (hp u hu) f e) v t ht
theorem g9 (hp:∀p∈ps,p.1<p.2):∀{ts ws:List PN} {lo:Nat},gB n lo ws->Va ps ws ts->vD ts
 |[],_,_,_,_=>YK
 |t::ts,ws,lo,h,⟨ht,l,e,v⟩=>VJ.mpr ⟨λu hu=>DI hp (vc (hp t ht) h e) v u hu,g9 hp (js (hp t ht) h e) v⟩
theorem iP:∀{ts ws:List PN},Va ps ws ts->∀t∈ts,t∈ps
 |[],_,_,_,h=>nomatch h
 |t::ts,ws,⟨ht,l,e,v⟩,u,hu=>by
  rcases UW.mp hu with rfl|hu
  ·exact ht
  ·exact iP v u hu
theorem Va.set (ok:l5 n ps){ns:List PN}(h:Va ps [(0,n)] ns):pB ps ns:=⟨iP h,g9 (λp hp=>(ok.lt p hp).1) iO h⟩
end
section
variable {ps:List PN}{n:Nat}
def cA (s:List PN)(o:PN):Bool:=match s.getLast? with
 |none=>true
 |some z=>iM z o
def cB (s:List PN)(o:PN):Bool:=(s.map tI).all λu=>!cX u (tI o)&&!c3 u (tI o)
theorem AK {s o:PN}(hs:s.1<s.2)(ho:o.1<o.2)(h:s.1<o.1/\HD s o):(!cX (tI s) (tI o)&&!c3 (tI s) (tI o))=true:=by
 obtain⟨s1,s2⟩:=s;obtain⟨o1,o2⟩:=o;obtain⟨h1,h2⟩:=h
 change o2<s2\/s2<o1 at h2
 dsimp only at hs ho h1;have a:cX (tI (s1,s2)) (tI (o1,o2))=false:=YM.mpr λz=>by
  obtain⟨x,z1,z2⟩:=dj.mp z;simp only[tI,UW,WT,or_false]at z1 z2;lia
 have b:c3 (tI (s1,s2)) (tI (o1,o2))=false:=YM.mpr λz=>by
  have z:jk (s1:Int) s2 o1 o2=true:=z;have:=lV.mp z;lia
 rw[a,b];rfl
theorem vb:∀{s:List PN},vD s->∀z,s.getLast?=some z->∀u∈s,u=z\/u.1<z.1
 |[],_,_,_,_,h=>nomatch h
 |[a],_,z,e,u,hu=>by
  cases e;exact .inl (U3.mp hu)
 |a::b::s,h,z,e,u,hu=>by
  have h':=VJ.mp h;rw[List.getLast?_cons_cons]at e;rcases UW.mp hu with rfl|hu
  ·exact .inr (h'.1 z (List.mem_of_getLast? e)).1
  ·exact vb h'.2 z e u hu
theorem CZ (ok:l5 n ps){s ws:List PN}(hv:Va ps [(0,n)] s)(ew:wa [(0,n)] s=some ws){o:PN}(ho:o∈ps):(cA s o&&cB s o)=fits ws o:=by
 have hp:∀p∈ps,p.1<p.2:=λp h=>(ok.lt p h).1;have hg:=g9 hp iO hv;cases f:fits ws o with
 |true =>
  obtain⟨l,el⟩:=iB f;have Gu:Va ps [(0,n)] (s++[o]):=kh.mpr ⟨hv,ws,ew,ho,l,el,trivial⟩;have SV:=WH.mp (g9 hp iO Gu);have key:∀u∈s,u.1<o.1/\HD u o:=λu hu=>SV.2.2 u hu o (U3.mpr rfl);rw[VU];constructor
  ·unfold cA;cases e:s.getLast? with
   |none=>rfl
   |some z=>exact n6 (key z (List.mem_of_getLast? e)).1
  ·refine Xd.mpr λu hu=>?_;obtain⟨x,hx,rfl⟩:=Vq.mp hu;exact AK (hp x (iP hv x hx)) (hp o ho) (key x hx)
 |false =>
  cases z:(cA s o&&cB s o)with
  |false=>rfl
  |true =>
   exfalso
   obtain⟨z1,z2⟩:=VU.mp z;have key:∀u∈s,u.1<o.1/\HD u o:=λu hu=>by
    have lt:iM u o=true:=by
     unfold cA at z1;cases e:s.getLast? with
     |none=>rw[List.getLast?_eq_none_iff.mp e]at hu;cases hu
     |some x =>
      rw[e]at z1;rcases vb hg x e u hu with rfl|h
      ·exact z1
      ·exact xS (n6 h) z1
    have ap:=Xd.mp z2 (tI u) (List.mem_map_of_mem hu);obtain⟨a1,a2⟩:=VU.mp ap;exact TH (hp u (iP hv u hu)) (hp o ho) lt ⟨by simpa using a1,by simpa using a2⟩
   have HP:pB ps (s++[o]):=⟨λp Eh=>by
    rcases Vh.mp Eh with h|h
    ·exact iP hv p h
    ·rw[U3.mp h];exact ho,WH.mpr ⟨hg,WS _ _,λu hu v hv=>by rw[U3.mp hv];exact key u hu⟩⟩
   obtain⟨_,l,e1,_,m,e2,_⟩:=kh.mp (HP.va ok);rw[ew]at e1;cases e1;have:fits ws o=true:=by show (wb ws o).isSome=true;rw[e2];rfl
   rw[f]at this;cases this
theorem G8 (ok:l5 n ps){s ws:List PN}(hv:Va ps [(0,n)] s)(ew:wa [(0,n)] s=some ws):(ps.filter (cA s)).reverse.filter (cB s)=(Br ps ws).reverse:=by
 rw[List.filter_reverse,YA]
 congr 1
 refine YJ λo ho=>?_;rw[Bool.and_comm];exact CZ ok hv ew ho
def eh (ps:List PN)(n:Nat):Nat->List (List PN)->Prop
 |m,[]=>m=sa ps n 0
 |m,s::r=>Va ps [(0,n)] s/\md ps [(0,n)] s=m/\∃l,wa [(0,n)] s=some l/\eh ps n (m+aT ps l) r
theorem Jd:eh ps n 0 [[]]:=⟨trivial,rfl,[(0,n)],rfl,by show 0+aT ps [(0,n)]=_;rw[f7,We]⟩
theorem vZ {ws:List PN}(hp:∀p∈ps,p.1<p.2){lo:Nat}(h:gB n lo ws):1<=aT ps ws:=by rw[t7 hp h];lia
theorem kT (hp:∀p∈ps,p.1<p.2):∀{r:List (List PN)} {m:Nat},eh ps n m r->m+r.length<=sa ps n 0
 |[],m,h=>by rw[show m=_ from h];exact US _
 |s::r,m,⟨v,_,l,e,h⟩=>by
  have:=kT hp h;have:=vZ hp (xM hp iO v e);rw[Ve];lia
theorem BC:∀{a b:List PN} {o:PN},(a++o::b).Pairwise (λp q=>iM p q=true)->(a++o::b).filter (λp=>iM p o)=a:=by
 intro a b o h;obtain⟨_,h2,h3⟩:=WH.mp h;have h4:=VJ.mp h2;rw[V5,XR.mpr λp hp=>h3 p hp o U1,List.filter_cons_of_neg (by rw[hG];decide),Yd.mpr λp hp=>by rw[kr (h4.1 p hp)];decide,VW]
theorem uM (hp:∀p∈ps,p.1<p.2)(hs:xp ps){s l:List PN}{r:List (List PN)}(v:Va ps [(0,n)] s)(e:wa [(0,n)] s=some l)(hr:eh ps n (md ps [(0,n)] s+aT ps l) r):
  ∀{cs dn:List PN} {m:Nat},Br ps l=dn++cs->m=md ps [(0,n)] s+1+(dn.map (below ps l)).sum->eh ps n m (cs.map (λo=>s++[o])++r)
 |[],dn,m,et,em=>by
  rw[VW]at et;show eh ps n m r;have:aT ps l=1+((Br ps l).map (below ps l)).sum:=t7 hp (xM hp iO v e);rw[et]at this;rw[em,XG,<- this];exact hr
 |o::cs,dn,m,et,em=>by
  have ho:o∈Br ps l:=by rw[et];exact Vw _ U1
  obtain⟨h1,h2⟩:=VH.mp ho;obtain⟨u,eu⟩:=iB h2;refine⟨kh.mpr ⟨v,l,e,h1,u,eu,trivial⟩,?_,u,?_,uM hp hs v e hr (cs:=cs) (dn:=dn++[o]) (by rw[et,VP];rfl) ?_⟩
  ·rw[ux e,em];show _+(vO ps l o+0)=_;unfold vO;have Qm:(Br ps l).Pairwise λp q=>iM p q=true:=List.Pairwise.filter _ hs;rw[et]at Qm;rw[et,BC Qm];show _+(1+(dn.map (below ps l)).sum+0)=_;lia
  ·rw[xN,e,X6];show (wb l o).bind _=_;rw[eu];rfl
  ·rw[em,Vf,Yk];show _=_+1+(_+(aT ps ((wb l o).getD [])+0));rw[eu];show _+aT ps u=_+1+(_+(aT ps u+0));lia
theorem v8 (hp:∀p∈ps,p.1<p.2)(hs:xp ps){s l:List PN}{r:List (List PN)}{m:Nat}(h:eh ps n m (s::r))(e:wa [(0,n)] s=some l):eh ps n (m+1) ((Br ps l).map (λo=>s++[o])++r):=by
 obtain⟨v,rfl,l',e',hr⟩:=h;rw[e]at e';cases e';exact uM hp hs v e hr (dn:=[]) rfl rfl
theorem yL (hp:∀p∈ps,p.1<p.2)(nd:ps.Nodup)(hs:xp ps){s:List PN}{r:List (List PN)}{m:Nat}(h:eh ps n m (s::r)):m<sa ps n 0/\s=sat ps n m:=by
 obtain⟨v,em,l,e,_⟩:=h;have h1:=oh hp nd iO v;rw[em,f7]at h1;obtain⟨v2,e2⟩:=fD hp hs h1;exact⟨h1,uw hp nd iO v v2 (by rw[em,e2])⟩
theorem EV (ok:l5 n ps){s:List PN}(v:Va ps [(0,n)] s):s.length<=n:=by
 have hp:∀p∈ps,p.1<p.2:=λp h=>(ok.lt p h).1;have hg:=g9 hp iO v;have nd:(s.map (·.1)).Nodup:=Wj.mpr (hg.imp λh z=>by lia)
 have:=DY nd (i:=n) λx hx=>by
  obtain⟨p,hm,rfl⟩:=Vq.mp hx;have:=ok.lt p (iP v p hm);lia
 rwa [UR]at this
def pH (ps:List PN)(n m:Nat):List (List PN):=(Vx m).map λ(k:Nat)=>sat ps n (k:Int)
theorem Ab {m:Nat}:pH ps n (m+1)=pH ps n m++[sat ps n (m:Int)]:=by
 unfold pH;rw[YX,Vf];rfl
theorem E9 (h:rY (ps.map tI))(nd:ps.Nodup):xp ps:=by
 have h1:ps.Pairwise λx y=>HT.lexLt (tI y) (tI x)=false:=Wj.mp h;refine(List.Pairwise.and h1 nd).imp λ{a b} ⟨q1,q2⟩=>?_;cases z:iM a b with
 |true=>rfl
 |false=>exact absurd (xT z q1) q2
end
theorem Dc (p q:PN):VS (kD (tI p)).pd (kD (tI q)).pd=decide (p=q):=by
 rw[Ae];exact decide_eq_decide.mpr ⟨iS,λh=>by rw[h]⟩
theorem vg (a b:List PN):VS (dI a).pd (dI b).pd=decide (a=b):=by
 show VS (.list (D.fx (a.map λp=>kD (tI p)))) (.list (D.fx (b.map λp=>kD (tI p))))=_;rw[cH,cH];simp only[VS];exact dE Dc a b
theorem iW (a:List PN):(dI a).pd.canLay0=true/\(dI a).pd.depth<=3:=fV λd hd=>by
 obtain⟨i,_,rfl⟩:=Vq.mp hd;exact ia _
theorem Dd (a b:List (List PN)):VS (D.lst (a.map dI)).pd (D.lst (b.map dI)).pd=decide (a=b):=by
 show VS (.list (D.fx (a.map dI))) (.list (D.fx (b.map dI)))=_;rw[cH,cH];simp only[VS];exact dE vg a b
theorem mQ (a:List (List PN)):(D.lst (a.map dI)).pd.canLay0=true/\(D.lst (a.map dI)).pd.depth<=4:=fV λd hd=>by
 obtain⟨i,_,rfl⟩:=Vq.mp hd;exact iW _
theorem Dj (a b:List (List PN)):Hg (.lst (a.map dI)) (.lst (b.map dI))=some (.bl (!decide (a=b))):=t5 (cz (mQ a)) (cz (mQ b)) (Dd a b)
theorem Dq (a b:List PN):HZ (dI a) (dI b)=some (.bl (decide (a=b))):=t6 (cz (iW a)) (cz (iW b)) (vg a b)
inductive EJ:Nat->D->Prop
 |int {n:Nat} {i:Int}:EJ n (.int i)
 |bC {n:Nat}:EJ n .bC
 |tup {n:Nat} {es:List D} (l:es.length<=1000000) (h:∀x∈es,EJ n x):EJ (n+1) (.tup es)
 |lst {n:Nat} {es:List D} (l:es.length<=1000000) (h:∀x∈es,EJ n x):EJ (n+1) (.lst es)
def fe (n:Nat):FD:=λds R=>∃d,ds=[d,d]/\EJ n d/\R (.bl true)
theorem fe.mono {n:Nat}:dO (fe n):=λds R R' k h=>by obtain⟨d,e,h,q⟩:=h;exact⟨d,e,h,k _ q⟩
section
variable {ps:List PN}{n:Nat}
theorem C_ {m:Nat}:(pH ps n m).length=m:=by unfold pH;rw[UR,VA]
end
section
variable {ps:List PN}
theorem C8 {n:Nat}(ok:l5 n ps)(hs:xp ps){x:List PN}:x∈pH ps n (sa ps n 0)↔Va ps [(0,n)] x:=by
 have hp:∀p∈ps,p.1<p.2:=λp h=>(ok.lt p h).1;constructor
 ·intro h;obtain⟨k,hk,rfl⟩:=Vq.mp h;exact(fD hp hs (Wu.mp hk)).1
 ·intro h;have h1:=oh hp ok.nd iO h;rw[f7]at h1;obtain⟨v,e⟩:=fD hp hs h1;refine Vq.mpr ⟨_,Wu.mpr h1,?_⟩;exact uw hp ok.nd iO v h e
theorem Ha {n:Nat}(ok:l5 n ps)(hs:xp ps):(pH ps n (sa ps n 0)).Nodup:=by
 have hp:∀p∈ps,p.1<p.2:=λp h=>(ok.lt p h).1;refine Wj.mpr (List.Pairwise.imp_of_mem (λ{a b} ha hb ne e=>ne ?_) (List.nodup_range (n:=sa ps n 0)));have h1:=(fD hp hs (Wu.mp ha)).2;have h2:=(fD hp hs (Wu.mp hb)).2;rw[e]at h1;exact h1.symm.trans h2
end
end L2.Q
namespace L2
open PySem PySem.Spec PySem.SeqAt PyProof.Rows L2.Q
theorem Bp {ns:List (Nat×Nat)}:dI ns=.lst ((ns.map tI).map kD):=by
 unfold dI;rw[V4];rfl
theorem Bq {bs:List (Nat×Nat)}{p:Nat×Nat}(h:bs.length<=1000):xa (dI bs) (.lst [kD (tI p)])=some (.lst ((bs++[p]).map DM)):=by
 rw[Vf];exact lU (by rw[UR];show _+1<=_;lia)
theorem qS:∀t u:List Int,HC.c6 t u=HT.lexLt u t
 |[],[]=>rfl
 |[],_::_=>rfl
 |_::_,[]=>rfl
 |x::xs,y::ys=>by
  rw[HC.qT,HT.cg,qS xs ys]
  by_cases h:x=y
  ·rw[if_pos h,if_pos h.symm]
  ·rw[if_neg h,if_neg λe=>h e.symm]
theorem Dp (t u:List Int):Lr (kD t) (kD u)=some (.bl (HT.lexLt u t)):=by
 show (match bR (t.map D.int),bR (u.map D.int)with|some ns,some ms=>some (D.bl (HC.c6 ns ms))|_,_=>none)=_
 rw[jc,jc];show some (D.bl (HC.c6 t u))=_;rw[qS]
theorem w_ (ps:List (Nat×Nat)):Hg (.lst (ps.map λp=>kD (tI p))) (.lst [])=some (.bl (!decide (ps=[]))):=by
 have:=Am (ps.map tI) [];rw[V4]at this;refine this.trans ?_;cases ps <;> rfl
end L2
namespace gZ
open PySem L2 L2.Q
def rB:FD:=λds R=>∃(n:Nat) (ps:List (Nat×Nat)),ds=[iN n ps]/\l5 n ps/\n<=8/\xp ps/\R (.lst ((pH ps n (sa ps n 0)).map dI))
theorem rB.mono:dO rB:=λds R R' k h=>by obtain⟨n,ps,e,h1,h2,h3,q⟩:=h;exact⟨n,ps,e,h1,h2,h3,k _ q⟩
section
variable {P:UY}{w:Vc}{K:PySem.W.Frag}{mg:Str->Option UQ}{base:Heap}
theorem cR:aP ["row","found","pile","some","later"] ["row"] (az eV):=mkS
theorem Cg {wV nh} (Ew:PC K mg wV nh) {rm jH} (Ba:Ms K mg rm jH) {mC gz} (xB:LJ K mg mC gz) (B:xD mg):aX P w K mg base cy 3 wV nh ["row"] (fk P w false rB):=by
 have TX:aX P w K mg base cy 2 _ _ _ (fk P w true rD):=Cj Ba xB;refine tm Ew.F cR (λds R Kj=> by obtain⟨n,ps,e,_⟩ := Kj;subst e;rfl) λcV A outer s H E hr=>⟨_,(ai (B6 (i:=1) (λ_=>ae) cR.nd)
    (ai (f9 (i:=2) (λ_=>(bc (aa (bc ae) ae))) cR.nd)
    (ai (qv VC (aS ag (b8.m (i7 hr.units)) (ab (i:=2)) (bc ae)) (ai (bG (i:=3) (yG (i:=2)) cR.nd)
    (ai (B8 (i:=1) (λ_=>(ab (i:=3))))
    (ai (yo (i:=4) false ["tie","some"] [none,some 3] (by rfl) (by decide:(["tie","some"]:List Str).Nodup) rfl (λ_=>(bz (aR ag br (ab (i:=0)) ah))) (λ_ _ _ _ _ _=>(aw (i:=0) (by decide:(["tie","some"]:List Str).Nodup))) (λ_ _ _ _ _ _=>(kn (sG.t (gK (aS ag (b8.m (dy hr.units)) (ab (i:=1)) (bc ae)) (ic (aS ag (b8.m (Cd hr.EW)) (ab (i:=0)) (aR ag br (ab (i:=1)) (jB dQ ah)))))))) (λ_ _ _ _ _ _=>(ab (i:=0))) cR.nd)
    (ar (tj (i:=2) (λ_=>(HL ["tie","some"] [none,some 3] (by rfl) (by decide:(["tie","some"]:List Str).Nodup) rfl (bz (BW (ab (i:=4)))) (λ_ _ _ _ _ _=>(aw (i:=0) (by decide:(["tie","some"]:List Str).Nodup))) (λ_ _ _ _ _ _=>(kn (d3 (aZ rD.mono TX (hr.mono (by decide)) Ba.m Ba.F.kp Ba.b (aa (ab (i:=1)) (aa (ab (i:=0)) ae)))))) (λ_ _ _ _ _ _=>(aI aJ aD (ab (i:=1)) (bc (aa (ab (i:=0)) ae))))))))))))
    (ar (a_ (BX (i:=1))))))),λds R h=>?_⟩
 obtain⟨n,ps,rfl,ok,hn,hs,q⟩:=h;have hp:∀p∈ps,p.1<p.2:=λp h=>(ok.lt p h).1;have hN:sa ps n 0<=362880:=by
  have h1:=uC hp ok.nd n 0;have h2:=fO (show n+1<=9 by lia)
  have h3:mD 9=362880:=by decide
  lia
 refine⟨rfl,Vb _,by show 1<5;decide,?_⟩
 refine⟨Vb _,trivial,vJ,trivial,?_⟩;refine⟨λv β=>∃m pl x3 x4,β=[some (.val false (iN n ps)),some (.shl true (.lst ((pH ps n m).map dI))),some (.own (.lst (pl.map dI))),x3,x4]/\eh ps n m pl.reverse/\v=sa ps n 0-m,⟨_,0,[[]],none,none,rfl,Jd,rfl⟩,?_⟩;rintro v β ⟨m,pl,x3,x4,rfl,hpl,rfl⟩;have Ur:=kT hp hpl;refine⟨_,rfl,trivial,Vb _,_,Dj pl [],_,rfl,?_⟩
 by_cases qZ:pl=[]
 ·subst qZ;have hm:m=sa ps n 0:=hpl;subst hm;exact gg rfl ⟨_,rfl,trivial,q⟩
 ·refine o4 (by rw[decide_eq_false qZ];rfl) ?_
  obtain⟨s,r,er⟩:∃s r,pl.reverse=s::r:=by
   cases e:pl.reverse with
   |nil=>exact absurd (List.reverse_eq_nil_iff.mp e) qZ
   |cons s r=>exact⟨s,r,rfl⟩
  have Tq:pl=r.reverse++[s]:=by rw[<- XJ pl,er,Xx]
  rw[er]at hpl;obtain⟨Uv,es⟩:=yL hp ok.nd hs hpl;obtain⟨hv,em,l,ew,_⟩:=id hpl;have zK:=v8 hp hs hpl ew;have Qn:=EV ok hv;subst Tq;rw[Vf];refine⟨r.reverse.map dI,dI s,rfl,?_⟩;refine⟨⟨_,rfl⟩,_,rfl,trivial,_,rfl,?_,?_⟩
  ·rw[UR];unfold pH;rw[UR,VA];rw[Wl];lia
  have NS:=ok.sm;refine⟨_,rfl,trivial,_,rfl,.inr ⟨_,rfl,trivial,e8 (cA s) (λp=>kD (tI p)) trivial (gv (by lia)) (λo ho x0 ou J HS j1 j2=>?_) ?_⟩⟩
  ·refine⟨_,rfl,trivial,Vb _,_,Dq s [],_,rfl,si (λh1=>?_) λh1=>?_⟩
   ·exact o4 rfl ⟨_,rfl,rfl,HS,j1 (by rw[h1];rfl) _⟩
   ·obtain⟨s0,z,e⟩:∃s0 z,s=s0++[z]:=⟨s.dropLast,s.getLast h1,(XN h1).symm⟩;have ez:jL (dI s) (.int (-1))=some (kD (tI z)):=by
     rw[e];unfold dI;rw[Vf];exact lS
    have ec:cA s o=iM z o:=by
     unfold cA;rw[e,List.getLast?_append,List.getLast?_singleton];rfl
    refine⟨_,rfl,trivial,_,rfl,trivial,_,rfl,rfl,_,ez,_,Dp _ _,_,rfl,?_⟩;cases q2:iM z o with
    |true=>exact o4 q2 ⟨_,rfl,rfl,HS,j1 (by rw[ec,q2]) _⟩
    |false=>exact gg q2 (j2 (by rw[ec,q2]) _)
  have Tp:Ex (.lst ((ps.filter (cA s)).map λp=>kD (tI p)))=some (.lst ((ps.filter (cA s)).reverse.map λp=>kD (tI p))):=by
   show some (D.lst _)=_;rw[List.map_reverse]
  have hle:=WE (cA s) ps;refine⟨⟨_,rfl⟩,_,rfl,_,Tp,.inr ⟨_,rfl,trivial,e8 (cB s) (λo=>dI (s++[o])) trivial (gv (by rw[XQ];lia)) (λo ho x0 ou J HS j1 j2=>?_) ?_⟩⟩
  ·have Us:o∈ps:=(VH.mp (List.mem_reverse.mp ho)).1;refine⟨_,rfl,trivial,_,rfl,trivial,s.map tI,tI o,by rw[Bp],λu hu=>?_,⟨_,_,rfl⟩,_,rfl,?_⟩
   ·obtain⟨p,_,rfl⟩:=Vq.mp hu;exact⟨_,_,rfl⟩
   have et:xa (dI s) (.lst [kD (tI o)])=some (dI (s++[o])):=Bq (by lia)
   cases q2:cB s o with
   |true=>exact o4 q2 ⟨_,rfl,trivial,_,rfl,trivial,vJ,.inl ⟨⟨rfl,trivial⟩,_,et,.inl ⟨lH,trivial,HS,j1 q2 _⟩⟩⟩
   |false=>exact gg q2 (j2 q2 _)
  rw[G8 ok hv ew];have Ox:=kT hp zK;rw[U_,UR]at Ox;refine⟨rfl,_,_,rfl,rfl,?_,sa ps n 0-(m+1),by lia,m+1,r.reverse++(Br ps l).reverse.map (λo=>s++[o]),some (.val true (dI s)),some (.val true (.lst ((ps.filter (cA s)).map λp=>kD (tI p)))),?_,?_,rfl⟩
  ·rw[UR,UR,XQ,XQ,Wl];lia
  ·rw[Ab,Vf,Vf,V4,<- es];rfl
  ·rw[Yu,XJ,<- List.map_reverse,XJ];exact zK
end
end gZ
namespace L2.Q
open PySem PySem.Spec PySem.SeqAt PyProof.Rows
section
variable {X:Cx}{C:Cfg}{p:Bool}{a:Expr}{φs:bI}{pp pos:Pos}{elts:List Expr}{kk:Nat}{EZ:Pos}
def Gq (φs:bI):c9:=λβ R=>φs β λl ks β1=>∃as,l=[.lst as]/\R (lP as) (ed ks) β1
theorem qp (hm:X.mg "enumerate" = none) (ha:nO X C p [a] φs) (hg:Gl X "enumerate" := by rfl) (hs:U5 [a] X.env=[(false,eval a X.env)]:=by rfl) :
  AS X C p (.Tuple elts kk EZ) (.Call (.Name "enumerate" pp) [a] [] pos) (Gq φs):=by
 refine⟨λβ R R' k q=>ha.mono β _ _ (λl ks β1 Ki=> by obtain⟨as,e,q⟩ := Ki;exact⟨as,e,k _ _ _ q⟩) q,λpins s σ H R I h=>?_⟩
 obtain⟨β,own,sq,h⟩:=h;refine Call_ (gN I hg hm Dw (Wy (bj (ha.pa pos pins s σ H _ I (pE.of ha sq h λds ks β' vs H1 ao h o1 r1=>(⟨ds,ks,β',ao,h,o1,r1.fG⟩:∃ds ks β' ao,(∃as,ds=[.lst as]/\∀J H' aN,Out X C σ H own p β' H' aN->xC X (av C (Wn aN) (ed ks)) J (lP as) H'->R J H')/\Out X C σ H own p β' H1 ao/\af X.prog X.w (av C (Wn ao) (ed ks)) H1 ds vs)))
  λus s1 ⟨vs,H1,I1,rv,h⟩=>?_) hs rfl))
 obtain⟨ds,ks,β',ao,⟨as,rfl,q⟩,o1,r1⟩:=h;obtain⟨x,rfl,⟨l1,xs,rfl,g1,n1,w1⟩⟩:=lZ r1;obtain⟨v1,rfl,e1⟩:=vals1 rv;cases (show v1=Value.ref l1 from e1)
 obtain⟨its,_,p1,_⟩:=I1.list (b3.of g1);refine call_enumerate_list p1.isList λh' y1 y2 y3 y4=>wpAny_pyIter_enum y1 ?_;have I2:Inv X pins σ H1 {s1 with heap:=h'}:=I1.kept (t':=s1.toks) y4
 refine⟨_,_,_,_,H1,rfl,I2,vG (Nat.succ_ne_self _),⟨⟨_,y1⟩,y2⟩,λb hb=>?_,q _ _ ao o1 (zF g1 n1 w1)⟩;have gY:s1.heap.objs.size<=b:=by
  simp only[UW,WT,or_false]at hb;rcases hb with rfl|rfl <;> first|exact Nat.le_add_right _ _|exact US _
 exact I1.z7 gY (I1.bA.fresh gY)
end
abbrev FL:=List Int->List D->(List Int->Prop)->Prop
abbrev EH (F:FL):Prop:=∀ns ds R R',(∀ms,R ms->R' ms)->F ns ds R->F ns ds R'
def Fd (P:UY)(w:Vc)(F:FL):Sp:=λvs H Q _=>∃h vs' ds ns,vs=.ref h::vs'/\H h=some (.lst (ns.map V.int))/\af P w (λa=>a=h) H ds vs' /\
 F ns ds λms=>∀H',Kp (·=h) H H'->(∀c,H c≠none->H' c≠none)->H' h=some (.lst (ms.map V.int))->Q .bC H'
theorem mV {P:UY}{w:Vc}{H:Hp}:∀{ns:List Int} {vs:List V} {A:List Addr},aH P w H (ns.map D.int) vs A->vs=ns.map V.int/\A=[]
 |[],_,_,h=>h
 |n::ns,_,_,⟨v,r,A1,A2,e,eA,h1,h2⟩=>by
  obtain⟨i1,i2⟩:=mV (ns:=ns) h2;obtain⟨j1,j2⟩:=(show v=.int n/\A1=[] from h1)
  subst e eA i1 i2 j1 j2;exact⟨rfl,rfl⟩
section
variable {X:Cx}{C:Cfg}{k i j:Nat}{f:Addr}{fd:VI}{ps:List Str}{F:FL}{x hx:Str}{pp pos px cp:Pos}{es:List Expr}{φs:bI}
theorem yR (mF:EH F)(G:aX X.prog X.w X.K X.mg X.base cy k f fd ps (Fd X.prog X.w F))(hr:cL k X.A)(hm:X.mg x=some (.ref f))(hk:PySem.W.keepIn X.K (.ref f)=true)(hb:Binds X.K fd ps [])(ha:nO X C.z true es φs)(aB:i≠j)(hN:X.N[i]?=some hx:=by rfl)
  (hv:j9 X.env.scope hx:=by first|exact .inl rfl|exact .inr (.inl rfl)|exact .inr (.inr rfl)) (hd:(hx==("__debug__" : Str))=false:=by decide) (c7:(hx==("__classdict__" : Str))=false:=by decide) (hg:Gl X x:=by rfl) (hdb:(x==("__debug__" : Str))=false:=by decide)
  (iy:U5 (.Name hx px::es) X.env=(false,eval (.Name hx px) X.env)::U5 es X.env:=by rfl) (hpl:(Wq cp (U5 es X.env)).any (·.1)=false:=by rfl)
  (o7:Wg (.Call (.Name x pp) (.Name hx px::es) [] cp) none pos.line X.env=pure false:=by rfl) :
  PB X C (.Expr (.Call (.Name x pp) (.Name hx px::es) [] cp) pos) (λE β=>∃dt ns,β[j]?=some (some (.own dt))/\β[i]?=some (some (.own (.lst (ns.map D.int))))/\φs (β.set j (some (.val true dt))) λds ks _=>hold (ed ks) false/\F ns ds λms=>E.nx (β.set i (some (.own (.lst (ms.map D.int)))))) :=
 ⟨λE E' β l Kh=> by obtain⟨dt,ns,h1,h2,q⟩ := Kh;exact⟨dt,ns,h1,h2,ha.mono _ _ _ (λds ks _ Kg=> by obtain⟨g,q⟩ := Kg;exact⟨g,mF _ _ _ _ (λms q=>l.nx _ q) q⟩) q⟩,
  (dZ (ik G hr hg hm hk hb .nil qz (aF (bp (pos:=px) hN hv hd c7) ha.pa iy) (hdb:=hdb) (he:=iy) (hpl:=hpl)) o7).pre λDe σ H Kf=> by
  obtain⟨Z,E,β,⟨own,sq,n⟩,⟨dt,ns,hj,hi,q⟩,ok⟩ := Kf;have fz:=sq.freeze hj;obtain⟨v,Gu,ow,h0⟩:=sq.ow i _ hi;obtain⟨a,PH,A',rfl,L_,eA,os⟩:=ow;obtain⟨rfl,rfl⟩:=mV os;refine⟨.ref a,Gu,pE.of ha fz q λds ks β1 vs H1 ao ⟨ho,q⟩ o1 r1=>?_⟩;obtain⟨s1,e1⟩:=o1.pu rfl;subst e1;rw[VW];have wa:Wn (aC own j []) a:=⟨i,by rw[aV (WO aB),eA];simp⟩
  refine⟨a,vs,ds,ns,rfl,s1 _ _ L_,af.aL (λc z=>?_) r1.fG,mF _ _ _ _ (λms q H' kp dn e'=>?_) q⟩
  ·subst z;cases hk:ed ks with
   |own=>exact .inl wa
   |cQ=>exact .inl wa
   |old=>exact wa
   |bor=>rw[hk]at ho;exact ho.elim
  ·have Rr:=sq.same s1;have n1:=n.same s1;have Ej:a∈own i:=by rw[eA];simp
   have hA:∀c∈[a],c∈own i\/(C.z.H0 c=none/\¬ Wn own c/\False):=λc hc=>.inl (by rw[U3.mp hc];exact Ej)
   have oo:Own X.prog X.w (upd H1 a (.lst (ms.map V.int))) (.lst (ms.map D.int)) (.ref a) [a]:=⟨a,_,[],rfl,aj,rfl,k6 ms⟩;have s2:=bh.putIn (C:=C) (U:=λ_=>False) Rr hi Gu Ej oo (by simp) hA
   have sm:ay (upd H1 a (.lst (ms.map V.int))) H':=λc o z=>by
    by_cases hc:c=a
    ·rw[hc,aj]at z;rw[hc,e'];exact z
    ·rw[ak hc]at z;exact kp.out c o z hc
   have n2:=gD (C:=C) (i:=i) (o:=.lst (ms.map V.int)) (U:=λ_=>False) n1 (λ_ z=>z.elim) ⟨i,Ej⟩ ⟨_,s1 _ _ L_,λxs z=>by cases z⟩ hA
   exact ok.nx _ _ _ ⟨_,s2.same sm,n2.same sm⟩ q⟩
end
section
variable {P:UY}{w:Vc}{C:Cfg}{σ:St}{H:Hp}{β:a7}{own:Nat->List Addr}{j:Nat}{d:D}
theorem bh.give (b:bh P w C.z σ H β own)(h:β[j]?=some (some (.own d))):bh P w (C.u λa=>a∈own j) σ H (β.set j none) (aC own j []):=by
 have sub:∀y a,eN (C.u λa=>a∈own j) (Wn (aC own j [])) (yk y) a->eN C.z (Wn own) (yk y) a:=λy a z=>by
  rcases z with z|z
  ·exact .inl (gk (C:=C.z) (λa h=>cM h) _ a z)
  ·cases y with
   |true=>exact .inl (.inl ⟨j,z⟩)
   |false=>exact .inl ⟨j,z⟩
 refine⟨by simp[b.len],λk y' d' e=>?_,λk d' e=>?_,λk ok e=>?_,λk a h=>?_,λk l a h1 h2=>b.fQ k l a (a3 h1).1 (a3 h2).1,λk=>?_,b.kp,b.fw,λk y' d' e=>?_⟩
 ·by_cases aB:j=k
  ·subst aB;obtain⟨e',hl⟩:=a5 e;cases e'
  ·rw[aW aB]at e;obtain⟨u,h1,h2⟩:=b.val k y' d' e;exact⟨u,h1,h2.aL (sub _)⟩
 ·by_cases aB:j=k
  ·subst aB;obtain⟨e',hl⟩:=a5 e;cases e'
  ·rw[aW aB]at e;rw[aV aB];exact b.ow k d' e
 ·by_cases aB:j=k
  ·subst aB;obtain⟨e',hl⟩:=a5 e;cases e'
  ·rw[aW aB]at e;rw[aV aB];exact b.l6 k ok e
 ·obtain⟨hk,ne⟩:=a3 h;obtain⟨g1,g2,g3,g4⟩:=b.dm k a hk;exact⟨g1,g2,g3,λz=>ne (b.fQ k j a hk z)⟩
 ·by_cases aB:j=k
  ·rw[aB,os_eq];exact V7
  ·rw[aV aB];exact b.gX k
 ·by_cases aB:j=k
  ·subst aB;obtain⟨e',hl⟩:=a5 e;cases e'
  ·rw[aW aB]at e;rw[aV aB];obtain⟨u,h1,h2,h3⟩:=b.shl k y' d' e;exact⟨u,h1,h2.map (λ_ _ _ z=>z) (λ_ _ r=>af.aL (sub _) r),h3⟩
theorem uQ {v:V}{A:List Addr}{ds:List D}{m:Nat}(r:Own P w H (.lst ds) v A)(nd:A.Nodup)(hm:ds[m]?=some d):∃a vs u A2,v=.ref a/\H a=some (.lst vs)/\vs.length=ds.length/\vs[m]?=some u/\Own P w H d u A2/\A2.Nodup/\∀c∈A2,c∈A:=by
 obtain⟨a,vs,A',rfl,h1,rfl,os⟩:=r;obtain⟨u,A1,A2,A3,g1,rfl,g3,g4,g5⟩:=os.split hm;have wu:=(Vu.mp (Vt.mp nd).2).2.1;exact⟨a,vs,u,A2,rfl,h1,os.length,g1,g4,(Vu.mp wu).1,λc hc=>by simp[hc]⟩
end
section
variable {X:Cx}{C:Cfg}{k k2:Expr}{φk φ2:aM}{i j:Nat}{x y:Str}{pos px py kp ap cp p2:Pos}
theorem yT (l:Bool)(aB:i≠j)(hk:PQ X C.z true k φk)(hN:X.N[i]?=some x:=by rfl)(hv:j9 X.env.scope x:=by first|exact .inl rfl|exact .inr (.inl rfl)|exact .inr (.inr rfl))(hd:(x==("__debug__" : Str))=false:=by decide)(c7:(x==("__classdict__" : Str))=false:=by decide)
  (Ld:X.N[j]?=some y:=by rfl) (Sk:j9 X.env.scope y:=by first|exact .inl rfl|exact .inr (.inl rfl)|exact .inr (.inr rfl)) (hd2:(y==("__debug__" : Str))=false:=by decide) (OR:(y==("__classdict__" : Str))=false:=by decide)
  (G0:d8 k:=by exact λ_ _=>rfl)
  (b5:Wr (.Subscript (.Name x px) k kp) "append" X.env (eval (.Subscript (.Name x px) k kp) X.env)=eval (.Subscript (.Name x px) k kp) X.env:=by rfl)
  (gO:((Wq cp (U5 [.Name y py] X.env)).all (λx=>!x.1)&&(X5 cp (Xp [] X.env)).all (λx=>x.1.isSome)&&decide ([Expr.Name y py].length+([]:List W6).length+(if ([]:List W6).isEmpty then 0 else 1)<30))=true:=by rfl)
  (b4:(ap.endLine==cp.line)=true:=by rfl) (hs:U5 [.Name y py] X.env=(false,eval (.Name y py) X.env)::U5 [] X.env:=by rfl) (cj:(Wq cp (U5 [] X.env)).any (·.1)=false:=by rfl)
  (o7:Wg (.Call (.Attribute (.Subscript (.Name x px) k kp) "append" ap) [.Name y py] [] cp) none pos.line X.env=pure false:=by rfl) :
  PB X C (.Expr (.Call (.Attribute (.Subscript (.Name x px) k kp) "append" ap) [.Name y py] [] cp) pos) (λE β=>(∃d0,β[i]?=some (some (.own d0)))/\φk β λjd _ β1=>∃ds t m es d,jd=.int t/\β1[i]?=some (some (.own (A6 l ds)))/\mw ds.length t=some m/\ds[m]?=some (.lst es)/\β1[j]?=some (some (.own d))/\es.length<U8/\E.nx ((β1.set j none).set i (some (.own (A6 l (ds.set m (.lst (es++[d])))))))):=by
 refine⟨λE E' β l Ke=> by obtain⟨q0,q⟩ := Ke;exact⟨q0,hk.mono _ _ _ (λjd _ β1 Kc=> by obtain⟨ds,t,m,es,d,h1,h2,h3,h4,h5,h6,q⟩ := Kc;exact⟨ds,t,m,es,d,h1,h2,h3,h4,h5,h6,l.nx _ q⟩) q⟩,λpins s σ H De I ⟨Z,E,β,⟨own,sq,n⟩,⟨⟨d0,G3⟩,q⟩,ok⟩=>?_⟩
 have ix:Bf X (λx y H Q=>yw X.K x y H Q\/BM X.K x y H Q):=λvalue slice pins s σ H x y v u Q I rx ry h hs=>h.elim (λh=>bw value slice pins s σ H x y v u Q I rx ry h hs) λh=>oW value slice pins s σ H x y v u Q I rx ry h hs;refine dZ (pos:=pos) (kU (apos:=ap) (cpos:=cp) PySem.F.plainAttrs_list PySem.F.slot_list_append PySem.F.type_list_append di (cT (pos:=kp) ix (bp (pos:=px) hN hv hd c7) hk.pe G0) (aF (bp (pos:=py) Ld Sk hd2 OR) bq hs) b5 gO b4 hs cj) o7 pins s σ H De I ?_;obtain⟨v0,jG,_,_⟩:=sq.ow i d0 G3;refine⟨v0,jG,tQ.of hk sq q λjd kk β1 kv H1 ao ⟨ds,t,m,es,d,e1,hb,hj,hm,QE,hl,q⟩ o r=>?_⟩;subst e1;cases r.rep;have g:=o.sq.give QE;have gY:(β1.set j none)[i]?=some (some (.own (A6 l ds))):=by rw[aW (WO aB)];exact hb
 obtain⟨vj,Sj,rj,Tb⟩:=o.sq.ow j _ QE;obtain⟨v,u9,ow,h0⟩:=g.ow i _ gY;rw[jG]at u9;cases u9;obtain⟨a,vs,c,us,B,rfl,q1,q2,q3,q4,q5,q6,q7,q8,q9⟩:=ip ow (g.gX i) hm;have sD:gU vs t=some (.ref c):=by unfold gU;rw[q2,hj];exact q3
 have Nc:aC ao j [] i=ao i:=aV (WO aB);have tu:∀x∈ao j,x∉aC ao j [] i:=λx hx z=>aB (o.sq.fQ i j x (by rw[<- Nc];exact z) hx)
 have DU:HE X.K "list" (.ref c) H1/\xZ (λσ H Q=>∃v,σ[j]?=some (some v)/\Q v H) E3 σ H1 λxs H2=>oC (.ref c) xs H2 λ_ H1=>De.nx σ H1:=by
  refine⟨.inl ⟨rfl,us,b3.of q4⟩,vj,Sj,?_⟩;obtain⟨A',g1,g2,g3⟩:=q9 (es++[d]) (us++[vj]) (B++ao j) (q6.append (aH.one rj)) (Vu.mpr ⟨q8,o.sq.gX j,λx hx y hy z=>tu y hy (by rw[<- z];exact(q7 x hx).1)⟩)
   (λx hx=>(Vh.mp hx).imp id (tu x)) (λx hx z=>by
    rcases Vh.mp hx with hx|hx
    ·exact(q7 x hx).2 z
    ·exact tu x hx (by rw[z];exact q5))
  have hA:∀x∈A',x∈aC ao j [] i\/(C.H0 x=none/\¬ Wn (aC ao j []) x/\x∈ao j):=λx hx=>by
   rcases g3 x hx with z|z
   ·exact .inl z
   ·rcases Vh.mp z with z|z
    ·exact .inl (q7 x z).1
    ·refine .inr ⟨Tb x z,λ⟨k,hk⟩=>?_,z⟩;obtain⟨hk,ne⟩:=a3 hk;exact ne (o.sq.fQ k j x hk z)
  have n1:=n.trans o.sn;have n2:Sn Z (upd H1 c (.lst (us++[vj]))) (Wn ao):=n1.upd q4 (λxs z=>by cases z) ⟨i,by rw[<- Nc];exact q5⟩
  refine⟨c,us,vj,rfl,rfl,q4,by rw[q6.length];exact hl,ok.nx _ _ _ ⟨_,g.putIn (C:=C) (U:=λa=>a∈ao j) gY jG q5 g1 g2 hA,eS n2 λb ⟨k,hk⟩=>?_⟩ q⟩
  by_cases K3:i=k
  ·rw[<- K3,os_eq]at hk;rcases hA b hk with z|z
   ·exact⟨i,by rw[<- Nc];exact z⟩
   ·exact⟨j,z.2.2⟩
  ·rw[aV K3]at hk;exact⟨k,(a3 hk).1⟩
 cases l with
 |true=>exact .inl ⟨a,vs,t,.ref c,rfl,rfl,b3.of q1,sD,DU⟩
 |false=>exact .inr ⟨a,vs,t,.ref c,rfl,rfl,rZ.of q1,sD,DU⟩
theorem wg (hk:PQ X C.z true k φk)(A8:PQ X C.z true k2 φ2)(hN:X.N[i]?=some x:=by rfl)(hv:j9 X.env.scope x:=by first|exact .inl rfl|exact .inr (.inl rfl)|exact .inr (.inr rfl))(hd:(x==("__debug__" : Str))=false:=by decide)(c7:(x==("__classdict__" : Str))=false:=by decide)
  (G0:d8 k:=by exact λ_ _=>rfl) (Oz:d8 k2:=by exact λ_ _=>rfl) :
  PB X C (.Return (some (.Subscript (.Subscript (.Name x px) k kp) k2 p2)) pos) (λE β=>(∃d0,β[i]?=some (some (.own d0)))/\φk β λjd _ β1=>∃ds t m es,jd=.int t/\β1[i]?=some (some (.own (.lst ds)))/\mw ds.length t=some m/\ds[m]?=some (.lst es)/\φ2 β1 λNC _ β2=>∃t2 m2 d,NC=.int t2/\β2[i]?=some (some (.own (.lst ds)))/\mw es.length t2=some m2/\es[m2]?=some d/\E.rt d β2) :=
 ⟨λE E' β l Kb=> by obtain⟨q0,q⟩ := Kb;exact⟨q0,hk.mono _ _ _ (λjd _ β1 Ka=> by obtain⟨ds,t,m,es,h1,h2,h3,h4,q⟩ := Ka;exact⟨ds,t,m,es,h1,h2,h3,h4,A8.mono _ _ _ (λNC _ β2 J_=> by obtain⟨t2,m2,d,g1,g2,g3,g4,q⟩ := J_;exact⟨t2,m2,d,g1,g2,g3,g4,l.rt _ _ q⟩) q⟩) q⟩,(eY (cT (pos:=p2) bw (cT (pos:=kp) bw (bp (pos:=px) hN hv hd c7) hk.pe G0) A8.pe Oz)).pre λDe σ H J9=> by
  obtain⟨Z,E,β,⟨own,s,n⟩,⟨⟨d0,G3⟩,q⟩,ok⟩ := J9;obtain⟨v0,jG,_,_⟩:=s.ow i d0 G3;refine⟨v0,jG,tQ.of hk s q λjd kk β1 kv H1 ao ⟨ds,t,m,es,e1,hb,hj,hm,q⟩ o r=>?_⟩;subst e1;cases r.rep;obtain⟨v,u9,ow,h0⟩:=o.sq.ow i _ hb;rw[jG]at u9;cases u9;obtain⟨a,vs,u,A2,rfl,q1,q2,q3,q4,q5,q6⟩:=uQ ow (o.sq.gX i) hm;have sD:gU vs t=some u:=by unfold gU;rw[q2,hj];exact q3
  refine⟨a,vs,t,u,rfl,rfl,b3.of q1,sD,tQ.of A8 o.sq q λNC Um β2 Ul H2 aY ⟨t2,m2,d,e2,HV,SO,KW,q⟩ o2 r2=>?_⟩;subst e2;cases r2.rep;obtain⟨s2,eo⟩:=o2.pu rfl;subst eo;have RL:=q4.keep (H':=H2) (λb xs e=>s2 _ _ e) (λc _ o e=>s2 c o e);obtain⟨a2,PF,u2,A3,rfl,p1,p2,p3,p4,p5,p6⟩:=uQ RL q5 KW;have at2:gU PF t2=some u2:=by unfold gU;rw[p2,SO];exact p3
  refine⟨a2,PF,t2,u2,rfl,rfl,b3.of p1,at2,ok.rt _ _ _ _ _ ⟨_,o2.sq,(n.trans o.sn).trans o2.sn⟩ ?_ q⟩;cases hr:C.ro with
  |true=>exact⟨_,p4,p5,λc hc=>h0 c (q6 c (p6 c hc))⟩
  |false=>exact p4.rep λc hc z=>z (h0 c (q6 c (p6 c hc)))⟩
end
theorem Fj {ps:List PN}(hp:∀p∈ps,p.1<p.2)(l i:Nat):sa ps (l+1) i=dw ps i (i+l+1) none+(((eD ps i).filter λk=>decide (k<i+l+1)).map λk=>dw ps i (i+l+1) (some k)).sum:=by
 have e:sa ps (l+1) i=((eg ps i (i+l+1)).map (dw ps i (i+l+1))).sum:=jV hp;rw[e];unfold eg;rw[Vf,Yk,Vj,Yb,Wh,List.sum_nil,V4,Nat.add_comm];rfl
abbrev NN:=Nat×Nat
def QT (p q:NN):Prop:=p.1<q.1/\(p.2<q.1\/q.2<p.2)
structure Bd (ps:List NN)(i j:Nat)(S:List NN):Prop where
 pw:S.Pairwise QT
 of:∀p∈S,p∈ps/\i<=p.1/\p.2<j
section
variable {ps:List NN}(hp:∀p∈ps,p.1<p.2){i j:Nat}{S A B:List NN}
theorem Bd.nil:Bd ps i j []:=⟨YK,λ_ z=>nomatch z⟩
include hp in
theorem pY (h:¬ i<j)(s:Bd ps i j S):S=[]:=by
 cases S with
 |nil=>rfl
 |cons p S=>obtain⟨h1,h2,h3⟩:=s.of p U1;have:=hp p h1;lia
theorem vv {k:Nat}:∀{T:List NN},T.Pairwise QT->(∀q∈T,q.1<q.2/\(q.2<k\/k<q.1))->T=T.filter (λq=>decide (q.2<k))++T.filter (λq=>decide (k<q.1))
 |[],_,_=>rfl
 |q::T,hw,h=>by
  obtain⟨w1,w2⟩:=VJ.mp hw;obtain⟨a1,a2⟩:=h q U1;have ih:=vv w2 λx hx=>h x (UZ _ hx);rcases a2 with a2|a2
  ·rw[WC,WC,if_pos (decide_eq_true a2),if_neg (by rw[decide_eq_true_eq];lia),XD,<- ih]
  ·have e1:(q::T).filter (λq=>decide (q.2<k))=[]:=by
    rw[Yd];intro x hx;rw[decide_eq_true_eq];rcases UW.mp hx with rfl|hx
    ·lia
    ·have:=(w1 x hx).1;have:=(h x (UZ _ hx)).1;lia
   have e2:(q::T).filter (λq=>decide (k<q.1))=q::T:=by
    rw[XR];intro x hx;rw[decide_eq_true_eq];rcases UW.mp hx with rfl|hx
    ·lia
    ·have:=(w1 x hx).1;lia
   rw[e1,e2,YY]
include hp in
theorem vK (h:i<j):Bd ps i j S↔Bd ps (i+1) j S\/∃k A B,(i,k)∈ps/\k<j/\S=(i,k)::(A++B)/\Bd ps (i+1) k A/\Bd ps (k+1) j B:=by
 constructor
 ·intro s;cases S with
  |nil=>exact .inl .nil
  |cons p T =>
   obtain⟨w1,w2⟩:=VJ.mp s.pw;obtain⟨h1,h2,h3⟩:=s.of p U1;have ot:∀q∈T,q∈ps/\i<=q.1/\q.2<j:=λq hq=>s.of q (UZ _ hq)
   by_cases e:p.1=i
   ·right
    obtain⟨a,k⟩:=p;dsimp only at e h2 h3;subst e;refine⟨k,T.filter (λq=>decide (q.2<k)),T.filter (λq=>decide (k<q.1)),h1,h3,?_,⟨w2.filter _,λq hq=>?_⟩,⟨w2.filter _,λq hq=>?_⟩⟩
    ·rw[<- vv w2 λq hq=>⟨hp q (ot q hq).1,(w1 q hq).2.symm⟩]
    ·obtain⟨g1,g2⟩:=VH.mp hq;have:=(w1 q g1).1;dsimp only at this;exact⟨(ot q g1).1,by lia,of_decide_eq_true g2⟩
    ·obtain⟨g1,g2⟩:=VH.mp hq;exact⟨(ot q g1).1,of_decide_eq_true g2,(ot q g1).2.2⟩
   ·left
    refine⟨s.pw,λq hq=>?_⟩;rcases UW.mp hq with rfl|hq
    ·exact⟨h1,by lia,h3⟩
    ·have:=(w1 q hq).1;exact⟨(ot q hq).1,by lia,(ot q hq).2.2⟩
 ·rintro (s|⟨k,A,B,h1,h2,rfl,a,b⟩)
  ·exact⟨s.pw,λp hp=>let ⟨a,b,c⟩:=s.of p hp;⟨a,by lia,c⟩⟩
  ·have hk:=hp _ h1;dsimp only at hk;refine⟨VJ.mpr ⟨λq hq=>?_,WH.mpr ⟨a.pw,b.pw,λx hx y hy=>?_⟩⟩,λq hq=>?_⟩
   ·rcases Vh.mp hq with z|z
    ·obtain⟨g1,g2,g3⟩:=a.of q z;exact⟨by dsimp only;lia,.inr g3⟩
    ·obtain⟨g1,g2,g3⟩:=b.of q z;exact⟨by dsimp only;lia,.inl g2⟩
   ·obtain⟨g1,g2,g3⟩:=a.of x hx;obtain⟨f1,f2,f3⟩:=b.of y hy;have:=hp x g1;exact⟨by lia,.inl (by lia)⟩
   ·rcases UW.mp hq with rfl|hq
    ·exact⟨h1,US _,h2⟩
    ·rcases Vh.mp hq with z|z
     ·obtain⟨g1,g2,g3⟩:=a.of q z;exact⟨g1,by lia,by lia⟩
     ·obtain⟨g1,g2,g3⟩:=b.of q z;exact⟨g1,by lia,g3⟩
def vh (ps:List NN):Nat->Nat->Nat->List (List NN)
 |0,_,_=>[[]]
 |f+1,i,j=>if i<j then (((eD ps i).filter λk=>decide (k<j)).flatMap λk=>(vh ps f (i+1) k).flatMap λA=>(vh ps f (k+1) j).map λB=>(i,k)::(A++B))++vh ps f (i+1) j else [[]]
include hp in
theorem gc:∀(f i j:Nat) (S:List NN),j-i<=f->(S∈vh ps f i j↔Bd ps i j S):=by
 intro f
 induction f with
 |zero=>intro i j S h;exact⟨λz=>by rw[U3.mp z];exact .nil,λs=>by rw[pY hp (by lia) s];exact U3.mpr rfl⟩
 |succ f ih =>
  intro i j S h;unfold vh
  by_cases aB:i<j
  ·rw[if_pos aB,vK hp aB,Vh,ih (i+1) j S (by lia)]
   refine⟨λz=>z.elim (λz=>?_) .inl,λz=>z.elim .inr λz=>.inl ?_⟩
   ·obtain⟨k,hk,z⟩:=WB.mp z;obtain⟨Ek,A8⟩:=VH.mp hk;have A8:=of_decide_eq_true A8;have KZ:=hp _ (cP.mp Ek);dsimp only at KZ;obtain⟨A,ha,z⟩:=WB.mp z;obtain⟨B,hb,rfl⟩:=Vq.mp z;exact .inr ⟨k,A,B,cP.mp Ek,A8,rfl,(ih _ _ _ (by lia)).mp ha,(ih _ _ _ (by lia)).mp hb⟩
   ·obtain⟨k,A,B,h1,h2,rfl,a,b⟩:=z;have KZ:=hp _ h1;dsimp only at KZ;exact WB.mpr ⟨k,VH.mpr ⟨cP.mpr h1,decide_eq_true h2⟩,WB.mpr ⟨A,(ih _ _ _ (by lia)).mpr a,Vq.mpr ⟨B,(ih _ _ _ (by lia)).mpr b,rfl⟩⟩⟩
  ·rw[if_neg aB];exact⟨λz=>by rw[U3.mp z];exact .nil,λs=>by rw[pY hp aB s];exact U3.mpr rfl⟩
end
section
variable {ps:List NN}(hp:∀p∈ps,p.1<p.2){i j:Nat}{S A B:List NN}
theorem C0 {α:Type}{q:α->Bool}{l:List α}(h:∀x∈l,q x=true):l.filter q=l:=XR.mpr h
theorem z9 {α:Type}{q:α->Bool}{l:List α}(h:∀x∈l,q x=false):l.filter q=[]:=Yd.mpr λx hx=>by rw[h x hx];simp
include hp in
theorem FY (nd:ps.Nodup):∀(f i j:Nat),j-i<=f->(vh ps f i j).Nodup:=by
 intro f
 induction f with
 |zero=>intro i j _;exact(WS _ _)
 |succ f ih =>
  intro i j h;unfold vh
  by_cases aB:i<j
  ·rw[if_pos aB,Vu];refine⟨?_,ih _ _ (by lia),λx hx y hy e=>?_⟩
   ·rw[List.nodup_iff_pairwise_ne,List.pairwise_flatMap];refine⟨λk hk=>?_,?_⟩
    ·obtain⟨Ek,A8⟩:=VH.mp hk;have A8:=of_decide_eq_true A8;have KZ:=hp _ (cP.mp Ek);dsimp only at KZ;rw[List.pairwise_flatMap];refine⟨λA ha=>?_,?_⟩
     ·rw[Wj];refine(ih (k+1) j (by lia)).imp λ{x y} tT e=>tT ?_
      injection e with _ e
      exact List.append_cancel_left e
     ·refine(ih (i+1) k (by lia)).imp_of_mem λ{x y} hx hy tT u hu v hv e=>tT ?_
      obtain⟨b,hb,rfl⟩:=Vq.mp hu;obtain⟨c,hc,rfl⟩:=Vq.mp hv;injection e with _ e
      have sx:=(gc hp _ _ _ _ (by lia)).mp hx
      have sy:=(gc hp _ _ _ _ (by lia)).mp hy
      have sb:=(gc hp _ _ _ _ (by lia)).mp hb
      have sc:=(gc hp _ _ _ _ (by lia)).mp hc
      have e2:=congrArg (List.filter λq:NN=>decide (q.2<k)) e;have lo:∀{T:List NN} {a:Nat},Bd ps a k T->T.filter (λq:NN=>decide (q.2<k))=T:=λs=>C0 λq hq=>decide_eq_true (s.of q hq).2.2;have hi:∀{T:List NN},Bd ps (k+1) j T->T.filter (λq:NN=>decide (q.2<k))=[]:=λs=>z9 λq hq=>decide_eq_false (by have:=s.of q hq;have:=hp q this.1;lia)
      rw[V5,V5,lo sx,lo sy,hi sb,hi sc,VW,VW]at e2;exact e2
    ·refine((yC nd).filter _).imp λ{a b} tT x hx y hy e=>tT ?_;obtain⟨A,_,hx⟩:=WB.mp hx;obtain⟨A',_,hy⟩:=WB.mp hy;obtain⟨B,_,rfl⟩:=Vq.mp hx;obtain⟨B',_,rfl⟩:=Vq.mp hy;injection e with e _
     exact(YS e).2
   ·subst e;have s:=(gc hp _ _ _ _ (by lia)).mp hy
    obtain⟨k,_,hx⟩:=WB.mp hx;obtain⟨A,_,hx⟩:=WB.mp hx;obtain⟨B,_,rfl⟩:=Vq.mp hx;have:=(s.of _ U1).2.1;dsimp only at this;lia
  ·rw[if_neg aB];exact(WS _ _)
def ck (m:Int)(L:List (List NN)):Nat:=(L.filter λS=>decide ((S.length:Int)=m)).length
theorem rN {m:Int}{L L':List (List NN)}:ck m (L++L')=ck m L+ck m L':=by unfold ck;rw[V5,U_]
theorem xf {m:Int}{L:List (List NN)}(h:∀S∈L,(S.length:Int)≠m):ck m L=0:=by unfold ck;rw[z9 λS hS=>decide_eq_false (h S hS)];rfl
theorem jl {α:Type}{m:Int}{f:α->List (List NN)}:∀{l:List α},ck m (l.flatMap f)=(l.map λa=>ck m (f a)).sum
 |[]=>rfl
 |a::l=>by rw[List.flatMap_cons,rN,jl,Vj,Wh]
theorem Au {m m':Int}{f:List NN->List NN}{L:List (List NN)}(h:∀S∈L,((f S).length:Int)=m↔(S.length:Int)=m'):ck m (L.map f)=ck m' L:=by
 unfold ck;rw[List.filter_map,UR]
 congr 1
 exact YJ λS hS=>by simp only[Function.comp];exact decide_eq_decide.mpr (h S hS)
theorem xg {m:Int}{L L':List (List NN)}(h:L.Perm L'):ck m L=ck m L':=(h.filter _).length_eq
end
def cq (c:List Int)(t:Nat)(v:Int):List Int:=if t=c.length then c++[v] else c.set t (c.getD t 0+v)
theorem Bz {c:List Int}{t:Nat}{v:Int}(h:t<=c.length):(cq c t v).length=max c.length (t+1):=by
 unfold cq
 split
 ·rw[U_];show c.length+1=_;lia
 ·rw[YZ];lia
theorem rd {c:List Int}{v:Int}{s:Nat}:(c++[v]).getD s 0=c.getD s 0+if s=c.length then v else 0:=by
 simp only[Vi];rcases Nat.lt_trichotomy s c.length with h|h|h
 ·rw[Wc h,if_neg (by lia),Xe]
 ·subst h;rw[VN (US _),if_pos rfl,VD (l:=c) (US _),WG];exact(Xy v).symm
 ·rw[VD (by rw[U_];show c.length+1<=s;lia),VD (l:=c) (by lia),if_neg (by lia)]
  rfl
theorem BA {c:List Int}{t:Nat}{v:Int}(h:t<=c.length)(s:Nat):(cq c t v).getD s 0=c.getD s 0+if s=t then v else 0:=by
 unfold cq
 split
 ·next e=>subst e;exact rd
 ·simp only[Vi];rw[WJ]
  by_cases e:t=s
  ·subst e;rw[if_pos rfl,if_pos (show t<c.length by lia),if_pos rfl]
   rfl
  ·rw[if_neg e,if_neg (WO e),Xe]
theorem kz {c:List Int}{v:Int}:(c++[v]).sum=c.sum+v:=by rw[Yk];simp
theorem sum_set:∀{c:List Int} {t:Nat} {v:Int},t<c.length->(c.set t (c.getD t 0+v)).sum=c.sum+v
 |[],_,_,h=>by cases h
 |x::c,0,v,_=>by show (x+v)+c.sum=x+c.sum+v;lia
 |x::c,t+1,v,h=>by
  have:=sum_set (c:=c) (t:=t) (v:=v) (by simpa using h)
  show x+(c.set t (c.getD t 0+v)).sum=x+c.sum+v;rw[this];lia
theorem Bx {c:List Int}{t:Nat}{v:Int}(h:t<=c.length):(cq c t v).sum=c.sum+v:=by
 unfold cq
 split
 ·exact kz
 ·exact sum_set (by lia)
def fF (c:List Int)(low:Nat)(x:Int)(hs:List Int):Nat->List Int
 |0=>c
 |m+1=>cq (fF c low x hs m) (low+m+1) (x*hs.getD m 0)
def cn (c bs hs:List Int):Nat->List Int
 |0=>c
 |m+1=>fF (cn c bs hs m) m (bs.getD m 0) hs hs.length
theorem dv {c:List Int}{low:Nat}{x:Int}{hs:List Int}(h:low+1<=c.length):∀m,(fF c low x hs m).length=max c.length (low+m+1)
 |0=>by show c.length=_;lia
 |m+1=>by
  have:=dv h m (x:=x) (hs:=hs);show (cq _ _ _).length=_;rw[Bz (by lia),this]
  lia
theorem cW {c bs hs:List Int}(h:1<=c.length)(h2:1<=hs.length):∀m,(cn c bs hs m).length=max c.length (if m=0 then 0 else m+hs.length)
 |0=>by show c.length=_;rw[if_pos rfl];lia
 |m+1=>by
  have:=cW h h2 m (bs:=bs);show (fF _ _ _ _ _).length=_;rw[if_neg (by lia)]
  by_cases e:m=0
  ·rw[if_pos e]at this;rw[dv (by lia),this]
   lia
  ·rw[if_neg e]at this;rw[dv (by lia),this]
   lia
theorem j8 {c bs hs:List Int}(h:1<=c.length)(h2:1<=hs.length)(m:Nat):m+1<=(cn c bs hs m).length:=by
 rw[cW h h2]
 split <;> lia
def rS (s low:Nat)(x:Int)(hs:List Int):Nat->Int
 |0=>0
 |m+1=>rS s low x hs m+if s=low+m+1 then x*hs.getD m 0 else 0
def pS (s:Nat)(bs hs:List Int):Nat->Int
 |0=>0
 |m+1=>pS s bs hs m+rS s m (bs.getD m 0) hs hs.length
theorem qi {c:List Int}{low:Nat}{x:Int}{hs:List Int}(h:low+1<=c.length)(s:Nat):∀m,(fF c low x hs m).getD s 0=c.getD s 0+rS s low x hs m
 |0=>(Xe _).symm
 |m+1=>by
  have e:=dv h m (x:=x) (hs:=hs);show (cq _ _ _).getD s 0=_;rw[BA (by lia),qi h s m,Int.add_assoc]
  rfl
theorem l0 {c bs hs:List Int}(h:1<=c.length)(h2:1<=hs.length)(s:Nat):∀m,(cn c bs hs m).getD s 0=c.getD s 0+pS s bs hs m
 |0=>(Xe _).symm
 |m+1=>by
  show (fF _ _ _ _ _).getD s 0=_;rw[qi (j8 h h2 m) s,l0 h h2 s m,Int.add_assoc];rfl
theorem qh {c:List Int}{low:Nat}{x:Int}{hs:List Int}(h:low+1<=c.length):∀m,m<=hs.length->(fF c low x hs m).sum=c.sum+x*(hs.take m).sum
 |0,_=>by show c.sum=c.sum+x*0;lia
 |m+1,hm=>by
  have e:=dv h m (x:=x) (hs:=hs);show (cq _ _ _).sum=_;rw[Bx (by lia),qh h m (by lia),V2,U4 (show m<hs.length by lia),Vi,U4 (show m<hs.length by lia),show (some hs[m]).toList=[hs[m]] from rfl,kz,Int.mul_add]
  show c.sum+x*_+x*hs[m]=_;lia
theorem rW {c bs hs:List Int}(h:1<=c.length)(h2:1<=hs.length):∀m,m<=bs.length->(cn c bs hs m).sum=c.sum+(bs.take m).sum*hs.sum
 |0,_=>by show c.sum=c.sum+0*_;lia
 |m+1,hm=>by
  show (fF _ _ _ _ _).sum=_;rw[qh (j8 h h2 m) _ (US _),WA,rW h h2 m (by lia),V2,U4 (show m<bs.length by lia),Vi,U4 (show m<bs.length by lia),show (some bs[m]).toList=[bs[m]] from rfl,kz,Int.add_mul]
  show c.sum+_+bs[m]*_=_;lia
def jo (l:List Int):Prop:=∀s,s<l.length->0<l.getD s 0
theorem jo.nn {l:List Int}(h:jo l)(s:Nat):0<=l.getD s 0:=by
 by_cases hs:s<l.length
 ·have:=h s hs;lia
 ·rw[Vi,VD (by lia)];exact Yq _
theorem uD {s low:Nat}{x:Int}{hs:List Int}(hx:0<=x)(hh:∀s,0<=hs.getD s 0):∀m,0<=rS s low x hs m
 |0=>Yq _
 |m+1=>by
  have:=uD (s:=s) (low:=low) hx hh m;have h2:=Int.mul_nonneg hx (hh m);show 0<=rS s low x hs m+_
  split <;> lia
theorem yW {s:Nat}{bs hs:List Int}(hb:∀s,0<=bs.getD s 0)(hh:∀s,0<=hs.getD s 0):∀m,0<=pS s bs hs m
 |0=>Yq _
 |m+1=>by
  have:=yW (s:=s) hb hh m;have h2:=uD (s:=s) (low:=m) (hb m) hh hs.length;show 0<=pS s bs hs m+_;lia
theorem yv {s low high:Nat}{x:Int}{hs:List Int}(hx:0<x)(hh:jo hs):∀m,m<=hs.length->high<m->s=low+high+1->0<rS s low x hs m
 |0,_,h,_=>by lia
 |m+1,hm,h,e=>by
  have n:=uD (s:=s) (low:=low) (Int.le_of_lt hx) hh.nn m;show 0<rS s low x hs m+_
  by_cases q:high<m
  ·have:=yv hx hh m (by lia) q e
   have h2:=Int.mul_nonneg (Int.le_of_lt hx) (hh.nn m)
   split <;> lia
  ·have:=Int.mul_pos hx (hh m (by lia))
   rw[if_pos (by lia)]
   lia
theorem yV {s low high:Nat}{bs hs:List Int}(hb:jo bs)(hh:jo hs)(h1:high<hs.length)(e:s=low+high+1):∀m,m<=bs.length->low<m->0<pS s bs hs m
 |0,_,h=>by lia
 |m+1,hm,h=>by
  have n:=yW (s:=s) hb.nn hh.nn m;have n2:=uD (s:=s) (low:=m) (hb.nn m) hh.nn hs.length;show 0<pS s bs hs m+_
  by_cases q:low<m
  ·have:=yV hb hh h1 e m (by lia) q
   lia
  ·have:low=m:=by lia
   subst this;have:=yv (s:=s) (hb low (by lia)) hh hs.length (US _) h1 e
   lia
theorem AO {c bs hs:List Int}(hc:jo c)(hb:jo bs)(hh:jo hs)(c1:1<=c.length)(b1:1<=bs.length)(h1:1<=hs.length):jo (cn c bs hs bs.length):=by
 intro s HP;rw[cW c1 h1,if_neg (by lia)]at HP
 rw[l0 c1 h1];have n:=yW (s:=s) hb.nn hh.nn bs.length
 by_cases q:s<c.length
 ·have:=hc s q;lia
 ·have:=hc.nn s;have:=yV (s:=s) (low:=min (s-1) (bs.length-1)) (high:=s-1-min (s-1) (bs.length-1)) hb hh (by lia) (by lia) bs.length (US _) (by lia)
  lia
theorem yJ {l:List Int}(h:jo l):∀s,l.getD s 0<=l.sum:=by
 induction l with
 |nil=>intro s;exact Yq _
 |cons x l ih =>
  have hx:0<x:=h 0 (by simp)
  have hl:jo l:=λs hs=>h (s+1) (by simpa using hs)
  have hn:0<=l.sum:=by have:=ih hl 0;have:=hl.nn 0;lia
  intro s;cases s with
  |zero=>show x<=x+l.sum;lia
  |succ s=>have:=ih hl s;show l.getD s 0<=x+l.sum;lia
def bF (ps:List PN):Nat->Nat->Nat->List Int
 |0,_,_=>[1]
 |_+1,0,_=>[1]
 |n+1,l+1,i=>((eD ps i).filter λk=>decide (k<i+l+1)).foldl (λc k=>cn c (bF ps n (k-(i+1)) (i+1)) (bF ps n (i+l+1-(k+1)) (k+1)) (bF ps n (k-(i+1)) (i+1)).length) (bF ps n l (i+1))
def bL (ps:List PN)(l i:Nat):List Int:=bF ps l l i
theorem gP {α β:Type}{f g:α->β->α}:∀{l:List β} {a:α},(∀x∈l,∀a,f a x=g a x)->l.foldl f a=l.foldl g a
 |[],_,_=>rfl
 |x::l,a,h=>by rw[Wf,Wf,h x U1];exact gP λy hy=>h y (UZ _ hy)
theorem oU {ps:List PN}(hp:∀p∈ps,p.1<p.2){i j k:Nat}(h:k∈(eD ps i).filter λk=>decide (k<j)):i<k/\k<j:=by
 obtain⟨h1,h2⟩:=VH.mp h;exact⟨hp _ (cP.mp h1),of_decide_eq_true h2⟩
theorem iI {ps:List PN}(hp:∀p∈ps,p.1<p.2):∀{n m l i:Nat},l<=n->l<=m->bF ps n l i=bF ps m l i
 |0,m,l,i,h1,h2=>by
  rw[show l=0 by lia]
  cases m <;> rfl
 |n+1,m,0,i,h1,h2=>by cases m <;> rfl
 |n+1,0,l+1,i,h1,h2=>by lia
 |n+1,m+1,l+1,i,h1,h2=>by
  show Yc _ _ _=Yc _ _ _;rw[iI hp (n:=n) (m:=m) (l:=l) (i:=i+1) (by lia) (by lia)]
  refine gP λk hk c=>?_;obtain⟨a,b⟩:=oU hp hk;rw[iI hp (n:=n) (m:=m) (l:=k-(i+1)) (by lia) (by lia),iI hp (n:=n) (m:=m) (l:=i+l+1-(k+1)) (by lia) (by lia)]
def lY (ps:List PN)(i j:Nat)(c:List Int)(k:Nat):List Int:=cn c (bL ps (k-(i+1)) (i+1)) (bL ps (j-(k+1)) (k+1)) (bL ps (k-(i+1)) (i+1)).length
theorem pz {ps:List PN}(hp:∀p∈ps,p.1<p.2){l i:Nat}:bL ps (l+1) i=((eD ps i).filter λk=>decide (k<i+l+1)).foldl (lY ps i (i+l+1)) (bL ps l (i+1)):=by
 show Yc _ _ _=_;refine gP λk hk c=>?_;obtain⟨a,b⟩:=oU hp hk;show cn _ _ _ _=cn _ _ _ _;rw[iI hp (n:=l) (m:=k-(i+1)) (l:=k-(i+1)) (by lia) (by lia),iI hp (n:=l) (m:=i+l+1-(k+1)) (l:=i+l+1-(k+1)) (by lia) (by lia)]
 rfl
structure Ib (l:Nat)(c:List Int)(t:Int):Prop where
 one:1<=c.length
 le:2*c.length<=l+2
 pos:jo c
 sum:c.sum=t
theorem lX {ps:List PN}(hp:∀p∈ps,p.1<p.2){i l:Nat}(ih:∀m,m<=l->∀a,Ib m (bL ps m a) (sa ps m a:Nat)):∀(ks:List Nat) (c:List Int) (t:Nat),(∀k∈ks,i<k/\k<i+l+1)->Ib (l+1) c (t:Nat) ->
  Ib (l+1) (ks.foldl (lY ps i (i+l+1)) c) ((t+(ks.map λk=>dw ps i (i+l+1) (some k)).sum:Nat):Int)
 |[],c,t,_,h=>h
 |k::ks,c,t,hk,h=>by
  obtain⟨h1,h2⟩:=hk k U1;have b1:=ih (k-(i+1)) (by lia) (i+1)
  have b2:=ih (i+l+1-(k+1)) (by lia) (k+1)
  have h':Ib (l+1) (lY ps i (i+l+1) c k) ((t+dw ps i (i+l+1) (some k):Nat):Int):=by
   refine⟨?_,?_,AO h.pos b1.pos b2.pos h.one b1.one b2.one,?_⟩
   ·show 1<=(cn _ _ _ _).length;rw[cW h.one b2.one];have:=h.one;lia
   ·show 2*(cn _ _ _ _).length<=_;rw[cW h.one b2.one,if_neg (by have:=b1.one;lia)]
    have:=h.le;have:=b1.le;have:=b2.le;lia
   ·show (cn _ _ _ _).sum=_;rw[rW h.one b2.one _ (US _),WA,h.sum,b1.sum,b2.sum,gI]
    push_cast
    rfl
  have:=lX hp ih ks _ _ (λk GZ=>hk k (UZ _ GZ)) h';rw[Wf,Vj,Wh,<- XG];exact this
theorem ua {ps:List PN}(hp:∀p∈ps,p.1<p.2):∀l i,Ib l (bL ps l i) (sa ps l i:Nat):=by
 intro l
 induction l using Nat.strongRecOn with
 |_ l ih =>
 intro i;cases l with
 |zero=>exact⟨US _,US _,λs hs=>by cases s with|zero=>exact Int.one_pos|succ s=>exact absurd (show s+1<1 from hs) (by lia),rfl⟩
 |succ l =>
  have h0:=ih l (X7 _) (i+1);have:=lX hp (i:=i) (l:=l) (λm hm a=>ih m (by lia) a) ((eD ps i).filter λk=>decide (k<i+l+1)) (bL ps l (i+1)) (sa ps l (i+1)) (λk hk=>oU hp hk) ⟨h0.one,by have:=h0.le;lia,h0.pos,h0.sum⟩
  rw[pz hp,Fj hp,gJ,show i+l+1-(i+1)=l by lia]
  exact this
end L2.Q
namespace L2
open PySem PySem.Spec PySem.SeqAt PyProof.Rows
theorem zY {X:Cx}:LC X (yw X.K):=by
 intro pins s σ H o i ov iv Q I ro ri h;obtain⟨p,xs,k,z,rfl,rfl,hq,he,q⟩:=h;cases ro;obtain⟨t,rfl⟩:=ri;obtain⟨its,r,pl,hz⟩:=I.list hq;obtain⟨j,h1,h2,h3,h4,h5⟩:=pA he;obtain⟨w,ew,yp⟩:=r.get h2;have hl:=r.length;have hn:=lr;have fin:EP X pins σ Q w s:=⟨z,H,I,yp,q⟩
 by_cases h0:0<=k
 ·have hj:k.toNat=j:=by
   rw[YR h0 h5]at h1;exact VL h1
  exact wpAny_getItem_list pl.isList h0 (by lia) (by rw[hj];simpa using ew) fin
 ·have hj:(k+(its.toArray.size:Int)).toNat=j:=by
   rw[YG (by lia) h4]at h1
   rw[Vk,<- hl];exact VL h1
  exact wpAny_getItem_list_neg pl.isList (by lia) (by rw[Vk] <;> lia) (by lia) (by rw[hj];simpa using ew) fin
end L2
namespace L2.Q
open PySem PySem.Spec PySem.SeqAt PyProof.Rows
def rF:FL:=λns ds R=>∃bs hs:List Int,ds=[.lst (bs.map D.int),.lst (hs.map D.int)]/\1<=ns.length/\1<=hs.length/\ns.length+bs.length+hs.length<=900/\(∀a b,jr (bs.getD a 0) (hs.getD b 0))/\R (cn ns bs hs bs.length)
theorem rF.mono:EH rF:=λns ds R R' k ⟨bs,hs,e,h1,h2,h3,h4,q⟩=>⟨bs,hs,e,h1,h2,h3,h4,k _ q⟩
theorem eM {l:List Int}{x:Int}{t:Nat}(hx:x=(t:Int))(h:t<l.length):gU (l.map V.int) x=some (.int (l.getD t 0)):=by
 subst hx;unfold gU;rw[UR,show mw l.length (t:Int)=some t from oX rfl h]
 show (l.map V.int)[t]?=_;rw[Vd,Vi,U4 h];rfl
theorem BB {c:List Int}{t:Nat}{v:Int}(e:t=c.length):((c.map V.int)++[V.int 0]).set t (.int ((c++[0]).getD t 0+v))=(cq c t v).map V.int:=by
 unfold cq;subst e;rw[if_pos rfl,Vf,Yn _ _ (by rw[UR];exact US _),UR,WG,rd,if_pos rfl,Vi,VD (US _)]
 show _++[V.int ((0:Int)+0+v)]=_++[V.int v];rw[Xe,Xy]
theorem By {c:List Int}{t:Nat}{v:Int}(e:t≠c.length):(c.map V.int).set t (.int (c.getD t 0+v))=(cq c t v).map V.int:=by
 unfold cq;rw[if_neg e,List.map_set]
def iA (L:Nat)(T:Nat->D):List D:=(Vx L).map T
def iQ (n:Nat)(L:Nat->Nat)(T:Nat->Nat->D):D:=.lst ((Vx (n+1)).map λi=>.lst (iA (L i) λl=>T l i))
theorem tL {L:Nat}{T:Nat->D}{x:Int}{l:Nat}(hx:x=(l:Int))(h:l<L):jL (.lst (iA L T)) (.int x)=some (T l):=m6 hx (bS h)
theorem zE {n:Nat}{L:Nat->Nat}{T:Nat->Nat->D}{x:Int}{i:Nat}(hx:x=(i:Int))(h:i<=n):jL (iQ n L T) (.int x)=some (.lst (iA (L i) λl=>T l i)):=m6 hx (bS (by lia))
theorem yi {n a b:Nat}{T:Nat->Nat->D}(ha:a<n)(hb:b<=a):
  ((Vx (n+1)).map λi=>D.lst (iA (bK n a b i) λl=>T l i)).set (n-1-a) (.lst (iA (b+1) (λl=>T l (n-1-a))++[T (b+1) (n-1-a)]))=(Vx (n+1)).map λi=>D.lst (iA (bK n a (b+1) i) λl=>T l i):=by
 rw[oq (by lia)]
 refine VQ λi _=>?_;unfold bK
 by_cases e:i=n-1-a
 ·rw[if_pos e,e,if_neg (by lia),if_pos rfl]
  unfold iA;rw[YX (n:=b+1),Vf];rfl
 ·rw[if_neg e,if_neg e,if_neg e]
theorem ku {n:Nat}{L L':Nat->Nat}{T:Nat->Nat->D}(h:∀i,i<=n->L i=L' i):iQ n L T=iQ n L' T:=by
 unfold iQ
 congr 1
 refine VQ λi hi=>?_;rw[h i (by have:=Wu.mp hi;lia)]
def iD (l:List Int):D:=.lst (l.map D.int)
abbrev bT (ps:List PN):Nat->Nat->D:=λl i=>iD (bL ps l i)
def nv:FD:=λds R=>∃(n:Nat) (ps:List (Nat×Nat)),ds=[iN n ps]/\l5 n ps/\n<=40/\R (iD (bL ps n 0))
theorem nv.mono:dO nv:=λds R R' k ⟨n,ps,e,h1,h2,q⟩=>⟨n,ps,e,h1,h2,k _ q⟩
def bQ (ps:List PN)(i j q:Nat):List Int:=(((eD ps i).take q).filter λk=>decide (k<j)).foldl (lY ps i j) (bL ps (j-(i+1)) (i+1))
theorem AE {ps:List PN}{i j q k:Nat}(hk:(eD ps i)[q]?=some k)(h:k<j):bQ ps i j (q+1)=lY ps i j (bQ ps i j q) k:=by
 unfold bQ;rw[V2,hk,V5,show List.filter (λk=>decide (k<j)) (some k).toList=[k] by simp[h],List.foldl_append]
 rfl
theorem AF {ps:List PN}{i j q k:Nat}(hk:(eD ps i)[q]?=some k)(h:¬ k<j):bQ ps i j (q+1)=bQ ps i j q:=by
 unfold bQ;rw[V2,hk,V5,show List.filter (λk=>decide (k<j)) (some k).toList=[] by simp[h],VW]
theorem AG {ps:List PN}(hp:∀p∈ps,p.1<p.2){i j:Nat}(h:i<j):bQ ps i j (eD ps i).length=bL ps (j-i) i:=by
 obtain⟨l,rfl⟩:∃l,j=i+l+1:=⟨j-i-1,by lia⟩
 rw[show i+l+1-i=l+1 by lia,pz hp]
 unfold bQ;rw[WA,show i+l+1-(i+1)=l by lia]
theorem EC {ps:List PN}(hp:∀p∈ps,p.1<p.2){i j q:Nat}(h:i<j):∃t:Nat,Ib (j-i) (bQ ps i j q) (t:Int):=by
 obtain⟨l,rfl⟩:∃l,j=i+l+1:=⟨j-i-1,by lia⟩
 have h0:=ua hp l (i+1);refine⟨sa ps l (i+1)+((((eD ps i).take q).filter λk=>decide (k<i+l+1)).map λk=>dw ps i (i+l+1) (some k)).sum,?_⟩;rw[show i+l+1-i=l+1 by lia]
 unfold bQ;rw[show i+l+1-(i+1)=l by lia]
 exact lX hp (i:=i) (l:=l) (λm _ a=>ua hp m a) _ _ (sa ps l (i+1)) (λk hk=>by
  obtain⟨h1,h2⟩:=VH.mp hk;exact⟨hp _ (cP.mp (List.mem_of_mem_take h1)),of_decide_eq_true h2⟩) ⟨h0.one,by have:=h0.le;lia,h0.pos,h0.sum⟩
theorem AI {ps:List PN}(hp:∀p∈ps,p.1<p.2)(nd:ps.Nodup){l m i j:Nat}(h:l+m<=39)(a b:Nat):jr ((bL ps l i).getD a 0) ((bL ps m j).getD b 0):=by
 have b1:=ua hp l i;have b2:=ua hp m j;have h1:=yJ b1.pos a;have h2:=yJ b2.pos b;have h3:=b1.pos.nn a;have h4:=b2.pos.nn b;rw[b1.sum]at h1;rw[b2.sum]at h2;rcases Wz 19 l with q|q
 ·have:=kJ hp nd (l:=m) (i:=j) (by lia)
  exact .inr ⟨by lia,by lia⟩
 ·have:=kJ hp nd (l:=l) (i:=i) q;exact .inl ⟨by lia,by lia⟩
theorem u7 {l:List Int}:D.c8 (l.map D.int)=true:=by
 have:=ng (f:=id) (l:=l);exact this
end L2.Q
namespace gZ
open PySem L2 L2.Q
section
variable {P:UY}{w:Vc}{K:PySem.W.Frag}{mg:Str->Option UQ}{base:Heap}
theorem eU:aP ["sizes","beneath","behind","low","high"] ["sizes","beneath","behind"] (az dX):=mkS
theorem Cq {rq jJ} (Bc:Mr K mg rq jJ) (B:xD mg):aX P w K mg base cy 1 rq jJ ["sizes","beneath","behind"] (Fd P w rF):=by
 refine Bc.F.ok eU (λvs H Q E h=>?_) (λcV A outer s H vs Q E hr h=>?_)
 ·obtain⟨h,vs',ds,ns,rfl,_,r,bs,hs,rfl,_⟩:=h;obtain⟨x,rr,rfl,_,x2,r2,rfl,_,hr⟩:=r;cases (show r2=[] from hr)
  rfl
 ·obtain⟨h,vs',ds,ns,rfl,e,r,bs,hs,rfl,n1,h1,sz,cm,q⟩:=h;obtain⟨x,rr,rfl,⟨b,bv,rfl,hb,nb,rb⟩,x2,r2,rfl,⟨c,cv,rfl,hc,nc,rc⟩,Gx⟩:=r;cases (show r2=[] from Gx)
  cases a8 rb;cases a8 rc;refine⟨_,cF (oE VC rfl (i5 (by rfl) B.range (aF (cU bY (by rfl) B.len fR (aF (pv 1) bq)) bq)) (oI (i:=3) eU.nd rfl (Y_ rfl))
   (cF (oE VC rfl (i5 (by rfl) B.range (aF (cU bY (by rfl) B.len fR (aF (pv 2) bq)) bq)) (oI (i:=4) eU.nd rfl (Y_ rfl))
    (bN (uG (jY Jg (bB fK (bB fK (pv 3) (pv 4)) aO) (cU bY (by rfl) B.len fR (aF (pv 0) bq)) (tw _))
      (cF (dZ (kU PySem.F.plainAttrs_list PySem.F.slot_list_append PySem.F.type_list_append di (pv 0) (aF aO bq)))) jZ)
     (cF (BU (pv 0) (bB fK (bB fK (pv 3) (pv 4)) aO) zY (bB gL (cT bw (pv 1) (pv 3) (λ_ _=>rfl)) (cT bw (pv 2) (pv 4) (λ_ _=>rfl))) Gp set_list)))))),?_⟩
  have QF:b≠h:=nb;have pF:c≠h:=nc;refine⟨_,rfl,b,_,rfl,.inl (b3.of hb),_,rfl,by rw[UR];lia,by rw[UR];lia,?_⟩
  rw[UR,show ((bs.length:Nat):Int).toNat=bs.length by lia]
  refine⟨λlow m σ H'=>low<=bs.length/\m=bs.length-low/\(∃x3 x4,σ=[some (.ref h),some (.ref b),some (.ref c),x3,x4])/\Kp (·=h) H H'/\(∀a,H a≠none->H' a≠none)/\H' h=some (.lst ((cn ns bs hs low).map V.int)),⟨_,Vb _,rfl,⟨_,_,rfl⟩,Kp.refl,λ_ z=>z,e⟩,?_⟩;rintro low m σ H1 ⟨SJ,rfl,⟨x3,x4,rfl⟩,Nv,QQ,e1⟩
  by_cases hl:low<bs.length
  ·right
   refine⟨hl,λσ H'=>(∃x3 x4,σ=[some (.ref h),some (.ref b),some (.ref c),x3,x4])/\Kp (·=h) H H'/\(∀a,H a≠none->H' a≠none)/\H' h=some (.lst ((cn ns bs hs (low+1)).map V.int)),λσ' H' z=>⟨_,by lia,hl,rfl,z⟩,?_⟩
   rintro x H2 ⟨rfl,rfl⟩;have lC:H2 c=some (.lst (hs.map V.int)):=Nv.out c _ hc pF;refine⟨_,rfl,c,_,rfl,.inl (b3.of lC),_,rfl,by rw[UR];lia,by rw[UR];lia,?_⟩
   rw[UR,show ((hs.length:Nat):Int).toNat=hs.length by lia]
   refine⟨λhigh m σ H'=>high<=hs.length/\m=hs.length-high/\(∃x4,σ=[some (.ref h),some (.ref b),some (.ref c),some (.int (0+(low:Int))),x4])/\Kp (·=h) H H'/\(∀a,H a≠none->H' a≠none)/\H' h=some (.lst ((fF (cn ns bs hs low) low (bs.getD low 0) hs high).map V.int)),⟨_,Vb _,rfl,⟨_,rfl⟩,Nv,QQ,e1⟩,?_⟩;rintro high m σ H3 ⟨Qz,rfl,⟨y4,rfl⟩,JE,Pb,e3⟩
   by_cases hh:high<hs.length
   ·right
    refine⟨hh,λσ H'=>(∃x4,σ=[some (.ref h),some (.ref b),some (.ref c),some (.int (0+(low:Int))),x4])/\Kp (·=h) H H'/\(∀a,H a≠none->H' a≠none)/\H' h=some (.lst ((fF (cn ns bs hs low) low (bs.getD low 0) hs (high+1)).map V.int)),λσ' H' z=>⟨_,by lia,hh,rfl,z⟩,?_⟩
    rintro x H4 ⟨rfl,rfl⟩;have ge:=j8 n1 h1 low (bs:=bs);have cl:=dv ge high (x:=bs.getD low 0) (hs:=hs);have al:=cW n1 h1 low (bs:=bs);have UN:(cn ns bs hs low).length<=900:=by rw[al];split <;> lia
    have e3:H4 h=some (.lst ((fF (cn ns bs hs low) low (bs.getD low 0) hs high).map V.int)):=e3;generalize OO:fF (cn ns bs hs low) low (bs.getD low 0) hs high=cur at e3 cl;have zK:fF (cn ns bs hs low) low (bs.getD low 0) hs (high+1)=cq cur (low+high+1) (bs.getD low 0*hs.getD high 0):=by rw[<- OO];rfl
    rw[zK];have ei:(0+(low:Int))+(0+(high:Int))+1=((low+high+1:Nat):Int):=by lia
    have QC:H4 b=some (.lst (bs.map V.int)):=JE.out b _ hb QF;have QB:H4 c=some (.lst (hs.map V.int)):=JE.out c _ hc pF;refine⟨_,rfl,_,rfl,_,_,rfl,rfl,_,_,rfl,rfl,_,rfl,h,_,rfl,.inl (b3.of e3),rfl,_,rfl,?_⟩;refine JJ (λht=>?_) (λht=>?_)
    ·have z:(0+(low:Int))+(0+(high:Int))+1=((cur.map V.int).length:Int):=V.int.inj ht;rw[UR]at z;have ht:low+high+1=cur.length:=by lia
     refine⟨_,rfl,.inl ⟨rfl,_,b3.of e3⟩,h,_,_,rfl,rfl,e3,by rw[UR];exact pR (by lia),?_⟩
     have e4:upd H4 h (.lst (cur.map V.int++[V.int 0])) h=some (.lst ((cur++[0]).map V.int)):=by rw[aj,Vf];rfl
     have OU:upd H4 h (.lst (cur.map V.int++[V.int 0])) b=some (.lst (bs.map V.int)):=by rw[ak QF];exact QC
     have S3:upd H4 h (.lst (cur.map V.int++[V.int 0])) c=some (.lst (hs.map V.int)):=by rw[ak pF];exact QB
     refine⟨_,rfl,_,rfl,_,rfl,_,_,rfl,rfl,_,_,rfl,rfl,h,_,_,_,rfl,rfl,b3.of e4,eM ei (by rw[U_];show _<_+1;lia),_,rfl,_,rfl,b,_,_,_,rfl,rfl,b3.of OU,eM (t:=low) (by lia) hl,_,rfl,_,rfl,c,_,_,_,rfl,rfl,b3.of S3,eM (t:=high) (by lia) hh,_,_,rfl,rfl,cm _ _,_,_,rfl,rfl,h,_,_,low+high+1,rfl,rfl,e4,?_,?_⟩
     ·rw[UR,U_];exact oX ei (by show _<_+1;lia)
     ·refine⟨⟨_,rfl⟩,(JE.trans (e_ e3 (λxs z=>by cases z))).trans (e_ e4 (λxs z=>by cases z)),λa z=>iZ a (iZ a (Pb a z)),?_⟩
      rw[aj,Vf];exact congrArg (λl=>some (HO.lst l)) (BB ht)
    ·have ht:low+high+1≠cur.length:=λz=>ht (congrArg V.int (show (0+(low:Int))+(0+(high:Int))+1=((cur.map V.int).length:Int) by rw[UR];lia))
     refine⟨_,rfl,_,rfl,_,rfl,_,_,rfl,rfl,_,_,rfl,rfl,h,_,_,_,rfl,rfl,b3.of e3,eM ei (by lia),_,rfl,_,rfl,b,_,_,_,rfl,rfl,b3.of QC,eM (t:=low) (by lia) hl,_,rfl,_,rfl,c,_,_,_,rfl,rfl,b3.of QB,eM (t:=high) (by lia) hh,_,_,rfl,rfl,cm _ _,_,_,rfl,rfl,h,_,_,low+high+1,rfl,rfl,e3,?_,?_⟩
     ·rw[UR];exact oX ei (by lia)
     ·refine⟨⟨_,rfl⟩,JE.trans (e_ e3 (λxs z=>by cases z)),λa z=>iZ a (Pb a z),?_⟩
      rw[aj];exact congrArg (λl=>some (HO.lst l)) (By ht)
   ·left
    refine⟨YO hh,?_⟩;have:high=hs.length:=by lia
    subst this;exact⟨⟨_,_,rfl⟩,JE,Pb,e3⟩
  ·left
   refine⟨YO hl,?_⟩;have:low=bs.length:=by lia
   subst this;exact q H1 Nv QQ e1
theorem bM:aP ["row","many","partners","table","i","j","sizes","k"] ["row"] (az f6):=mkS
theorem Cp {wZ nr} (As:Pz K mg wZ nr) {rq jJ} (Bc:Mr K mg rq jJ) {jS fq} (pJ:D3 K mg jS fq) {jR fo} (pI:D2 K mg jR fo) (B:xD mg):aX P w K mg base cy 2 wZ nr ["row"] (fk P w true nv):=by
 have Pw:aX P w K mg base cy 1 _ _ _ (fk P w true lM):=uS pJ B;have Pu:aX P w K mg base cy 1 _ _ _ (fk P w true tW):=uR pI B;have T5:aX P w K mg base cy 1 _ _ _ (Fd P w rF):=Cq Bc B;refine tm As.F bM (λds R J8=> by obtain⟨n,ps,e,_⟩ := J8;subst e;rfl) λcV A outer s H E hr=>⟨_,(ai (bG (i:=1) (aR ag br (ab (i:=0)) ah) bM.nd)
    (ai (bG (i:=2) (aZ lM.mono Pw (hr.mono (by decide)) pJ.m pJ.F.kp pJ.b (aa (ab (i:=0)) ae)) bM.nd)
    (ai (yo (i:=3) true ["i"] [none] (by rfl) (by decide:(["i"]:List Str).Nodup) rfl (λ_=>(bO B.range (aa (aI aJ aD (ab (i:=1)) ah) ae))) (λ_ _ _ _ _ _=>(aw (i:=0) (by decide:(["i"]:List Str).Nodup))) (λ_ _ _ _ _ _=>fA) (λ_ _ _ _ _ _=>(bc (aa (bc (aa ah ae)) ae))) bM.nd)
    (ai (cb VC rfl (bz (aZ tW.mono Pu (hr.mono (by decide)) pI.m pI.F.kp pI.b (aa (ab (i:=1)) ae))) (df (n:=2) rfl (aQ (aw (i:=4) bM.nd) (aQ (aw (i:=5) bM.nd) cI))) (ai (f9 (i:=6) (λ_=>(i4 aJ jO B.list gj (aa (aR ag br (aR ag br (ab (i:=3)) (aI aJ aD (ab (i:=4)) ah)) (aI ag (b8.m bU) (aI ag (b8.m bU) (ab (i:=5)) (ab (i:=4))) ah)) ae))) bM.nd)
    (ai (cb VC rfl (bz (aR ag br (ab (i:=2)) (ab (i:=4)))) (aw (i:=7) bM.nd) (ar (c4 (aS ag (b8.m cY) (ab (i:=7)) (ab (i:=5))) (ar (yR (i:=6) (j:=3) rF.mono T5 (hr.mono (by decide)) Bc.m Bc.F.kp Bc.b (aa (aR ag br (aR ag br (ab (i:=3)) (aI aJ aD (ab (i:=4)) ah)) (aI ag (b8.m bU) (aI ag (b8.m bU) (ab (i:=7)) (ab (i:=4))) ah)) (aa (aR ag br (aR ag br (ab (i:=3)) (aI aJ aD (ab (i:=7)) ah)) (aI ag (b8.m bU) (aI ag (b8.m bU) (ab (i:=5)) (ab (i:=7))) ah)) ae)) (by decide))) bu)))
    (ar (yT (i:=3) (j:=6) true (by decide) (ab (i:=4)))))))
    (ar (wg (i:=3) ah (ab (i:=1)))))))),λds R h=>?_⟩
 obtain⟨n,ps,rfl,ok,CP,q⟩:=h;have hn:=ok.le;have hp:∀p∈ps,p.1<p.2:=λp hp=>(ok.lt p hp).1;refine⟨_,rfl,trivial,_,rfl,_,rfl,trivial,n,ps,rfl,ok,_,rfl,trivial,_,rfl,trivial,(n:Int)+1,rfl,by lia,by lia,trivial,?_⟩
 rw[show ((n:Int)+1).toNat=n+1 by lia]
 refine e8 (λ_=>true) (λ_=>.lst [.lst [.int 1]]) trivial (by rw[VA];exact gv (by lia)) (λx hx x0 o J ho h1 _=>⟨trivial,vJ,trivial,vJ,trivial,ho,h1 rfl _⟩) ?_
 rw[cu];refine⟨_,rfl,trivial,n,rfl,hn,_,rfl,trivial,?_⟩;refine⟨λidx β=>∃L x4 x5 x6 x7,β=[some (.val false (iN n ps)),some (.val true (.int n)),some (.val true (HH n ps)),some (.own (iQ n L (bT ps))),x4,x5,x6,x7]/\sf n idx L,⟨λ_=>1,_,_,_,_,rfl,jK⟩,?_,?_⟩
 ·rintro idx d β hd ⟨L,x4,x5,x6,x7,rfl,dn⟩;rw[Vd]at hd;obtain⟨p,Ei,rfl⟩:=Vp.mp hd;obtain⟨a,b,ha,hb,rfl,hL,qY⟩:=lQ dn Ei;have eL:iQ n L (bT ps)=iQ n (bK n a b) (bT ps):=ku hL;have e0:bK n a b (n-1-a)=b+1:=by unfold bK;rw[if_neg (by lia),if_pos rfl]
  rw[eL];refine⟨_,rfl,rfl,_,_,rfl,_,_,rfl,rfl,?_⟩;have Eg:jL (iQ n (bK n a b) (bT ps)) (.int (((n-1-a:Nat):Int)+1))=some (.lst (iA (bK n a b (n-a)) λl=>bT ps l (n-a))):=zE (by lia) (by lia)
  have hlen:∀m,n-1-a<m->m<=n->bK n a b m=n+1-m:=λm h1 h2=>by unfold bK;rw[if_pos h1]
  have NJ:jL (.lst (iA (bK n a b (n-a)) λl=>bT ps l (n-a))) (.int (((n-a+b:Nat):Int)-((n-1-a:Nat):Int)-1))=some (iD (bL ps b (n-a))):=tL (T:=λl=>bT ps l (n-a)) (by lia) (by rw[hlen _ (by lia) (by lia)];lia)
  refine⟨_,rfl,trivial,_,rfl,trivial,_,rfl,_,Eg,.inr ⟨trivial,_,rfl,trivial,_,rfl,_,rfl,trivial,_,rfl,_,NJ,.inr ⟨trivial,_,rfl,.inl ⟨u7,trivial,?_⟩⟩⟩⟩;refine⟨_,rfl,trivial,_,rfl,_,JG rfl (by lia),.inr ⟨_,rfl,trivial,?_⟩⟩
  have eb:bL ps b (n-a)=bQ ps (n-1-a) (n-a+b) 0:=by
   unfold bQ;rw[show n-a+b-(n-1-a+1)=b by lia,show n-1-a+1=n-a by lia]
   rfl
  refine⟨λm β=>m<=(eD ps (n-1-a)).length/\∃x7,β=[some (.val false (iN n ps)),some (.val true (.int n)),some (.val true (HH n ps)),some (.own (iQ n (bK n a b) (bT ps))),some (.val true (.int ((n-1-a:Nat):Int))),some (.val true (.int ((n-a+b:Nat):Int))),some (.own (iD (bQ ps (n-1-a) (n-a+b) m))),x7],⟨Vb _,x7,by rw[<- eb];rfl⟩,?_,?_⟩
  ·rintro m d β K9 ⟨hm,y7,rfl⟩;unfold Q.bR at K9;rw[Vd]at K9;obtain⟨k,hk,rfl⟩:=Vp.mp K9;have Qr:=(U6.mp hk).1;have K3:n-1-a<k:=hp _ (cP.mp (VG hk));refine⟨_,rfl,trivial,_,rfl,_,rfl,_,rfl,si (λA7=>?_) λA7=>?_⟩
   ·have A7:k<n-a+b:=by lia
    have Sg:jL (.lst (iA (bK n a b (n-a)) λl=>bT ps l (n-a))) (.int ((k:Int)-((n-1-a:Nat):Int)-1))=some (iD (bL ps (k-(n-1-a+1)) (n-1-a+1))):=by
     rw[show n-1-a+1=n-a by lia]
     exact tL (T:=λl=>bT ps l (n-a)) (by lia) (by rw[hlen _ (by lia) (by lia)];lia)
    have Si:jL (iQ n (bK n a b) (bT ps)) (.int ((k:Int)+1))=some (.lst (iA (bK n a b (k+1)) λl=>bT ps l (k+1))):=zE (by lia) (by lia)
    have JP:jL (.lst (iA (bK n a b (k+1)) λl=>bT ps l (k+1))) (.int (((n-a+b:Nat):Int)-(k:Int)-1))=some (iD (bL ps (n-a+b-(k+1)) (k+1))):=tL (T:=λl=>bT ps l (k+1)) (by lia) (by rw[hlen _ (by lia) (by lia)];lia)
    obtain⟨tq,bo⟩:=EC hp (i:=n-1-a) (j:=n-a+b) (q:=m) (by lia)
    have b1:=ua hp (k-(n-1-a+1)) (n-1-a+1);have b2:=ua hp (n-a+b-(k+1)) (k+1);refine⟨_,bQ ps (n-1-a) (n-a+b) m,rfl,rfl,_,rfl,trivial,_,rfl,trivial,_,rfl,_,Eg,.inr ⟨trivial,_,rfl,trivial,_,rfl,_,rfl,trivial,_,rfl,_,Sg,.inr ⟨trivial,?_⟩⟩⟩;refine⟨_,rfl,trivial,_,rfl,trivial,_,rfl,_,Si,.inr ⟨trivial,_,rfl,trivial,_,rfl,_,rfl,trivial,_,rfl,_,JP,.inr ⟨trivial,trivial,?_⟩⟩⟩;refine⟨_,_,rfl,bo.one,b2.one,?_,λx y=>AI hp ok.nd (by lia) x y,Qr,some (.val true (.int (k:Int))),?_⟩
    ·have:=bo.le;have:=b1.le;have:=b2.le;lia
    ·rw[AE hk A7];rfl
   ·exact⟨Qr,some (.val true (.int (k:Int))),by rw[AF hk (by lia)];rfl⟩
  ·rintro β ⟨_,y7,rfl⟩;rw[show (Q.bR (eD ps (n-1-a))).length=(eD ps (n-1-a)).length by unfold Q.bR;rw[UR],AG hp (by lia),show n-a+b-(n-1-a)=b+1 by lia]
   refine⟨⟨_,rfl⟩,_,rfl,_,_,_,_,_,rfl,rfl,by rw[UR,VA];exact oX rfl (show n-1-a<n+1 by lia),bS (show n-1-a<n+1 by lia),rfl,?_,?_⟩
   ·rw[e0];unfold iA;rw[UR,VA];exact pR (by lia)
   ·refine⟨bK n a (b+1),some (.val true (.int ((n-1-a:Nat):Int))),some (.val true (.int ((n-a+b:Nat):Int))),none,y7,?_,.inr ⟨a,b+1,ha,by lia,λ_ _=>rfl,qY⟩⟩
    rw[e0];have:=yi (T:=bT ps) ha hb;unfold iQ;rw[<- this];rfl
 ·rintro β ⟨L,x4,x5,x6,x7,rfl,dn⟩;rw[UR]at dn;have e:iQ n L (bT ps)=iQ n (λi=>n+1-i) (bT ps):=ku (nD dn);rw[e];exact⟨⟨_,rfl⟩,_,_,0,_,rfl,rfl,by rw[UR,VA];exact oX rfl (by lia),bS (by lia),_,rfl,_,n,_,rfl,rfl,by unfold iA;rw[UR,VA];exact oX rfl (show n<n+1-0 by lia),bS (show n<n+1-0 by lia),q⟩
end
end gZ
namespace L2.Q
open PySem PySem.Spec PySem.SeqAt PyProof.Rows
structure Hu (T:Nat->Nat->D)(kvs:List (List Int×D))(n i J:Nat):Prop where
 ge:∀a b,a<=b->b<=n->(i<a\/(a=i/\b<J))->gm kvs (tI (a,b))=some (T a b)
 no:∀a b,¬ (i<a\/(a=i/\b<J))->gm kvs (tI (a,b))=none
 len:kvs.length<=(n+1-i)*100+(J-i)
theorem uo {T:Nat->Nat->D}{kvs:List (List Int×D)}{n i J:Nat}(k:Hu T kvs n i J)(hJ:i<=J):gm kvs (tI (i,J))=none/\Hu T (kvs++[(tI (i,J),T i J)]) n i (J+1):=by
 have hn:gm kvs (tI (i,J))=none:=k.no i J (by lia)
 refine⟨hn,λa b HW hb d=>?_,λa b d=>?_,by have:=k.len;rw[U_];show _+1<=_;lia⟩
 ·rw[mJ hn]
  by_cases e:tI (a,b)=tI (i,J)
  ·have e2:=iS e;injection e2 with e3 e4
   rw[if_pos e,e3,e4]
  ·rw[if_neg e];have:¬ (a=i/\b=J):=λz=>e (by rw[z.1,z.2])
   exact k.ge a b HW hb (by lia)
 ·rw[mJ hn,if_neg (λe=>?_)]
  ·exact k.no a b (by lia)
  ·have e2:=iS e;injection e2 with e3 e4
   lia
theorem xW {T:Nat->Nat->D}{kvs:List (List Int×D)}{n i:Nat}(hn:n<=90)(hi:i<=n)(k:Hu T kvs n (i+1) (n+1)):Hu T kvs n i i :=
 ⟨λa b HW hb d=>k.ge a b HW hb (by lia),λa b d=>k.no a b (by lia),by have:=k.len;lia⟩
theorem Bu {T:Nat->Nat->D}{n:Nat}:Hu T [] n (n+1) (n+1):=⟨λa b HW hb d=>by lia,λ_ _ _=>rfl,Vb _⟩
def ext (c:List Int)(m:Nat):List Int:=c++U9 (m-c.length) 0
theorem C7 {c:List Int}{m:Nat}(h:c.length<=m):(ext c m).length=m:=by
 unfold ext;rw[U_,Yo];lia
theorem C6 {c:List Int}{m t:Nat}{v:Int}(h1:t<=c.length)(h2:t<m)(h3:c.length<=m):(ext c m).set t ((ext c m).getD t 0+v)=ext (cq c t v) m:=by
 unfold ext cq
 by_cases e:t=c.length
 ·subst e;obtain⟨r,hr⟩:∃r,m-c.length=r+1:=⟨m-c.length-1,by lia⟩
  rw[if_pos rfl,hr,Wd,Yn _ _ (US _),WG,Vi,VN (US _),WG,U_,show m-(c.length+[v].length)=r by show m-(c.length+1)=r;lia,VP]
  show c++(0+v)::U9 r 0=c++([v]++U9 r 0);rw[Xy];rfl
 ·rw[if_neg e,List.set_append_left _ _ (by lia),YZ,Vi,Wc (by lia),<- Vi]
theorem Gr {c:List Int}{x:Int}{t:Nat}(hx:x=(t:Int))(h:t<c.length):jL (iD c) (.int x)=some (.int (c.getD t 0)):=by
 refine m6 hx ?_;rw[Vd,Vi,U4 h];rfl
theorem ny {c:List Int}{t:Nat}{d:D}(h:(lP (c.map D.int))[t]?=some d):t<c.length/\d=.tup [.int (t:Int),.int (c.getD t 0)]:=by
 obtain⟨x,hx,rfl⟩:=nz h;rw[Vd]at hx;obtain⟨y,hy,rfl⟩:=Vp.mp hx;refine⟨(U6.mp hy).1,?_⟩;rw[Vi,hy];rfl
theorem yK {c:List Int}(h:jo c)(h1:1<=c.length):∃l x,c=l++[x]/\0<x:=by
 have tT:c≠[]:=λz=>by rw[z]at h1;exact absurd h1 (by decide)
 refine⟨c.dropLast,c.getLast tT,(XN tT).symm,?_⟩;have:=h (c.length-1) (by lia)
 rw[Vi,U4 (show c.length-1<c.length by lia),<- List.getLast_eq_getElem tT]at this
 exact this
end L2.Q
namespace gZ
open PySem L2 L2.Q
section
variable {P:UY}{w:Vc}{K:PySem.W.Frag}{mg:Str->Option UQ}{base:Heap}
theorem aE:aP ["row","many","ties","known","i","own","j","found","k","size","one","more","other","at"] ["row"] (az da):=mkS
def nu:FD:=λds R=>∃(n:Nat) (ps:List (Nat×Nat)),ds=[iN n ps]/\l5 n ps/\n<=40/\R (iD (bL ps n 0))
theorem nu.mono:dO nu:=λds R R' k ⟨n,ps,e,h1,h2,q⟩=>⟨n,ps,e,h1,h2,k _ q⟩
theorem Cm {wY nk} (Aq:Py K mg wY nk) (B:xD mg):aX P w K mg base cy 1 wY nk ["row"] (fk P w false nu):=by
 refine tm Aq.F aE (λds R J7=> by obtain⟨n,ps,e,_⟩ := J7;subst e;rfl) λcV A outer s H E hr=>⟨_,(ai (yS (ab (i:=0)) (df (n:=2) rfl (aQ (aw (i:=1) aE.nd) (aQ (aw (i:=2) aE.nd) cI))))
    (ai (yQ (i:=3) aE.nd)
    (ai (cb VC rfl (kP B.range (aa (ab (i:=1)) (aa (jB dQ ah) (aa (jB dQ ah) ae)))) (aw (i:=4) aE.nd) (ai (qw (i:=3) hr.d9 (λ_=>(bc (aa ah ae))) (λ_=>(bP (aa (ab (i:=4)) (aa (ab (i:=4)) ae)))))
    (ai (yo (i:=5) false ["a","k","i"] [none,none,some 4] (by rfl) (by decide:(["a","k","i"]:List Str).Nodup) rfl (λ_=>(bz (ab (i:=2)))) (λ_ _ _ _ _ _=>(df (n:=2) rfl (aQ (aw (i:=0) (by decide:(["a","k","i"]:List Str).Nodup)) (aQ (aw (i:=1) (by decide:(["a","k","i"]:List Str).Nodup)) cI)))) (λ_ _ _ _ _ _=>(kn (aS ag (b8.m (dy hr.units)) (ab (i:=0)) (ab (i:=2))))) (λ_ _ _ _ _ _=>(ab (i:=1))) aE.nd)
    (ar (cb VC rfl (kQ B.range (aa (aI aJ aD (ab (i:=4)) ah) (aa (aI aJ aD (ab (i:=1)) ah) ae))) (aw (i:=6) aE.nd) (ai (f9 (i:=7) (λ_=>(aI aJ aD (j0 (i:=3) hr.d9 (bP (aa (aI aJ aD (ab (i:=4)) ah) (aa (ab (i:=6)) ae)))) (aI aJ k9 (bc (aa ah ae)) ah))) aE.nd)
    (ai (cb VC rfl (bz (ab (i:=5))) (aw (i:=8) aE.nd) (ar (c4 (aS ag (b8.m cY) (ab (i:=8)) (ab (i:=6))) (ar (cb VC rfl (qp B.enumerate (aa (j0 (i:=3) hr.d9 (bP (aa (aI aJ aD (ab (i:=4)) ah) (aa (ab (i:=8)) ae)))) ae)) (df (n:=2) rfl (aQ (aw (i:=9) aE.nd) (aQ (aw (i:=10) aE.nd) cI))) (ar (cb VC rfl (qp B.enumerate (aa (j0 (i:=3) hr.d9 (bP (aa (aI aJ aD (ab (i:=8)) ah) (aa (ab (i:=6)) ae)))) ae)) (df (n:=2) rfl (aQ (aw (i:=11) aE.nd) (aQ (aw (i:=12) aE.nd) cI))) (ai (bG (i:=13) (aI aJ aD (aI aJ aD (ab (i:=9)) (ab (i:=11))) ah) aE.nd)
    (ar (tf (i:=7) (λ_=>(aI aJ aD (aR ag br (ab (i:=7)) (ab (i:=13))) (aI ag (b8.m oN) (ab (i:=10)) (ab (i:=12))))) (λ_=>(ab (i:=13)))))))))) bu)))
    (ai (qv VC (aS ag (b8.m (dy hr.units)) (aR ag br (ab (i:=7)) (jB dQ ah)) ah) (ar (B7 (yG (i:=7)))))
    (ar (qw (i:=3) hr.d9 (λ_=>(Fw (i:=7))) (λ_=>(bP (aa (ab (i:=4)) (aa (ab (i:=6)) ae))))))))))))))
    (ar (a_ (j0 (i:=3) hr.d9 (bP (aa ah (aa (ab (i:=1)) ae))))))))),λds R h=>?_⟩
 obtain⟨n,ps,rfl,ok,hn,q⟩:=h;have NS:=ok.sm;have hp:∀p∈ps,p.1<p.2:=λp hp=>(ok.lt p hp).1;refine⟨_,rfl,_,rfl,rfl,_,_,rfl,_,_,rfl,rfl,by show 3<14;decide,?_⟩
 refine⟨_,rfl,trivial,_,rfl,rfl,trivial,_,rfl,rfl,trivial,(n:Int),-1,rfl,⟨by lia,by lia,by lia,by lia⟩,trivial,?_⟩
 rw[show ((n:Int) - -1).toNat=n+1 by lia]
 refine⟨λm β=>m<=n+1/\∃kvs x4 x5 x6 x7 x8 x9 pM nS nR nQ,β=[some (.val false (iN n ps)),some (.val true (.int n)),some (.val false (dI ps)),some (.shl true (dA kvs)),x4,x5,x6,x7,x8,x9,pM,nS,nR,nQ]/\Hu (λa b=>iD (bL ps (b-a) a)) kvs n (n+1-m) (n+1),⟨Vb _,[],_,_,_,_,_,_,_,_,_,_,rfl,Bu⟩,?_,?_⟩
 ·rintro m d β hd ⟨_,kvs,x4,x5,x6,x7,x8,x9,pM,nS,nR,nQ,rfl,tb⟩;obtain⟨hm,rfl⟩:=kM hd;obtain⟨i,hi⟩:∃i,i=n-m:=⟨_,rfl⟩;rw[show (n:Int)-(m:Int)=((i:Nat):Int) by lia]
  rw[show n+1-m=i+1 by lia]at tb
  obtain⟨v0,tb⟩:=uo (xW (by lia) (by lia) tb) (US _)
  have hlen:=tb.len;rw[U_]at hlen;have e1:iD (bL ps (i-i) i)=.lst [.int 1]:=by rw[WG];rfl
  rw[e1]at tb;have SN:kvs.length<=9000:=by have:[((tI (i,i):List Int),iD (bL ps (i-i) i))].length=1:=rfl;lia
  refine⟨trivial,vJ,⟨trivial,λz=>(nomatch z)⟩,⟨_,rfl⟩,_,rfl,trivial,_,rfl,trivial,mM,kvs,tI (i,i),rfl,rfl,v0,Yz SN (by decide),?_⟩
  refine⟨_,rfl,_,rfl,trivial,F6 (λp=>decide (p.1=i)) (λp=>.int (p.2:Int)) trivial (gv (by lia)) (λp Eh y0 y1 ou J HS j1 j2=>?_) ?_⟩
  ·exact⟨_,rfl,rfl,_,_,rfl,_,_,rfl,rfl,_,rfl,trivial,_,rfl,_,d6 _ _,_,rfl,si (λh=>⟨_,rfl,trivial,HS,j1 (by simp;lia) _ _⟩) (λh=>j2 (by simp;lia) _ _)⟩
  have O9:(ps.filter λp=>decide (p.1=i)).map (λp=>D.int (p.2:Int))=(eD ps i).map λk:Nat=>D.int (k:Int):=by
   unfold eD;rw[V4];rfl
  rw[O9];refine⟨_,rfl,trivial,_,rfl,trivial,_,rfl,trivial,_,rfl,trivial,(i:Int)+1,(n:Int)+1,rfl,⟨by lia,by lia,by lia,by lia⟩,trivial,?_⟩
  rw[show ((n:Int)+1-((i:Int)+1)).toNat=n-i by lia]
  refine⟨λr β=>r<=n-i/\∃kvs x6 x7 x8 x9 pM nS nR nQ,β=[some (.val false (iN n ps)),some (.val true (.int n)),some (.val false (dI ps)),some (.shl true (dA kvs)),some (.val true (.int (i:Int))),some (.val true (.lst ((eD ps i).map λk:Nat=>D.int (k:Int)))),x6,x7,x8,x9,pM,nS,nR,nQ]/\Hu (λa b=>iD (bL ps (b-a) a)) kvs n i (i+1+r),⟨Vb _,_,_,_,_,_,_,_,_,_,rfl,tb⟩,?_,?_⟩
  ·rintro r d β hd ⟨_,kvs,x6,x7,x8,x9,pM,nS,nR,nQ,rfl,tb⟩;obtain⟨Gx,rfl⟩:=cD hd;obtain⟨j,hj⟩:∃j,j=i+r+1:=⟨_,rfl⟩;rw[show (i:Int)+1+(r:Int)=((j:Nat):Int) by lia]
   rw[show i+1+r=j by lia]at tb
   have hlen:=tb.len;have b0:=ua hp (j-(i+1)) (i+1);obtain⟨M,hM⟩:∃M,M=(bL ps (j-(i+1)) (i+1)).length+21:=⟨_,rfl⟩;have Tu:xa (iD (bL ps (j-(i+1)) (i+1))) (.lst (U9 21 (.int 0)))=some (iD (ext (bQ ps i j 0) M)):=by
    have:=b0.le;refine(lU (by rw[UR];show _+21<=_;lia)).trans ?_
    unfold ext iD;rw[Vf,List.map_replicate];show some (D.lst (List.map D.int (bL ps (j-(i+1)) (i+1))++_))=some (D.lst (List.map D.int (bL ps (j-(i+1)) (i+1))++U9 (M-(bL ps (j-(i+1)) (i+1)).length) _));rw[show M-(bL ps (j-(i+1)) (i+1)).length=21 by lia]
   refine⟨⟨_,rfl⟩,_,rfl,trivial,_,rfl,trivial,_,rfl,trivial,mM,kvs,tI (i+1,j),_,rfl,rfl,tb.ge (i+1) j (by lia) (by lia) (.inl (by lia)),trivial,?_⟩
   have O8:Lm (.lst [.int 0]) (.int 21)=some (.lst (U9 21 (.int 0))):=rfl;refine⟨trivial,vJ,trivial,_,O8,.inl ⟨rfl,_,Tu,.inl ⟨u7,trivial,?_⟩⟩⟩;refine⟨_,rfl,_,rfl,trivial,?_⟩;refine⟨λz β=>z<=(eD ps i).length/\∃x8 x9 pM nS nR nQ,β=[some (.val false (iN n ps)),some (.val true (.int n)),some (.val false (dI ps)),some (.shl true (dA kvs)),some (.val true (.int (i:Int))),some (.val true (.lst ((eD ps i).map λk:Nat=>D.int (k:Int)))),some (.val true (.int (j:Int))),some (.own (iD (ext (bQ ps i j z) M))),x8,x9,pM,nS,nR,nQ],⟨Vb _,_,_,_,_,_,_,rfl⟩,?_,?_⟩
   ·rintro z d β hd ⟨_,x8,x9,pM,nS,nR,nQ,rfl⟩;rw[Vd]at hd;obtain⟨k,hk,rfl⟩:=Vp.mp hd;have Qo:=(U6.mp hk).1;have K3:=cP.mp (VG hk);have h1:=ok.lt _ K3;dsimp only at h1;refine⟨_,rfl,trivial,_,rfl,_,rfl,_,rfl,si (λA7=>?_) λA7=>⟨Qo,some (.val true (.int (k:Int))),x9,pM,nS,nR,nQ,?_⟩⟩
    ·have A7:k<j:=by lia
     obtain⟨tq,bo⟩:=EC hp (i:=i) (j:=j) (q:=z) (by lia)
     have b1:=ua hp (k-(i+1)) (i+1);have b2:=ua hp (j-(k+1)) (k+1);have zV:=bo.le;have HV:=b1.le;have QG:=b2.le;have OU:=b1.one;have OT:=b2.one;have S7:=b0.one;have L5:bQ ps i j (z+1)=cn (bQ ps i j z) (bL ps (k-(i+1)) (i+1)) (bL ps (j-(k+1)) (k+1)) (bL ps (k-(i+1)) (i+1)).length:=AE hk A7;have QD:=tb.ge (i+1) k (by lia) (by lia) (.inl (by lia))
     have Qy:=tb.ge (k+1) j (by lia) (by lia) (.inl (by lia))
     have hmul:=λx y=>AI hp ok.nd (l:=k-(i+1)) (m:=j-(k+1)) (i:=i+1) (j:=k+1) (by lia) x y
     generalize S4:bL ps (k-(i+1)) (i+1)=bs at QD b1 HV OU hmul L5 ⊢
     generalize SU:bL ps (j-(k+1)) (k+1)=hs at Qy b2 QG OT hmul L5 ⊢
     generalize UC:bQ ps i j z=c at bo zV L5 ⊢
     refine⟨⟨_,rfl⟩,_,rfl,trivial,_,rfl,trivial,_,rfl,trivial,mM,kvs,tI (i+1,k),_,rfl,rfl,QD,trivial,_,rfl,trivial,?_⟩;refine⟨λu β=>u<=bs.length/\∃x9 pM nS nR nQ,β=[some (.val false (iN n ps)),some (.val true (.int n)),some (.val false (dI ps)),some (.shl true (dA kvs)),some (.val true (.int (i:Int))),some (.val true (.lst ((eD ps i).map λk:Nat=>D.int (k:Int)))),some (.val true (.int (j:Int))),some (.own (iD (ext (cn c bs hs u) M))),some (.val true (.int (k:Int))),x9,pM,nS,nR,nQ],⟨Vb _,_,_,_,_,_,rfl⟩,?_,?_⟩
     ·rintro u d β hd ⟨_,y9,Q8,Q6,Q5,Q4,rfl⟩;obtain⟨hu,rfl⟩:=ny hd;refine⟨_,rfl,rfl,_,_,rfl,_,_,rfl,rfl,?_⟩;refine⟨⟨_,rfl⟩,_,rfl,trivial,_,rfl,trivial,_,rfl,trivial,mM,kvs,tI (k+1,j),_,rfl,rfl,Qy,trivial,_,rfl,trivial,?_⟩;have ge:=j8 bo.one OT u (bs:=bs);have al:=cW bo.one OT u (bs:=bs);refine⟨λv β=>v<=hs.length/\∃nS nR nQ,β=[some (.val false (iN n ps)),some (.val true (.int n)),some (.val false (dI ps)),some (.shl true (dA kvs)),some (.val true (.int (i:Int))),some (.val true (.lst ((eD ps i).map λk:Nat=>D.int (k:Int)))),some (.val true (.int (j:Int))),some (.own (iD (ext (fF (cn c bs hs u) u (bs.getD u 0) hs v) M))),some (.val true (.int (k:Int))),some (.val true (.int (u:Int))),some (.val true (.int (bs.getD u 0))),nS,nR,nQ],⟨Vb _,_,_,_,rfl⟩,?_,?_⟩
      ·rintro v d β hd ⟨_,Ra,Q_,Q9,rfl⟩;obtain⟨hv,rfl⟩:=ny hd;have rl:=dv ge v (x:=bs.getD u 0) (hs:=hs);have UO:(cn c bs hs u).length<=21:=by rw[al];split <;> lia
       have zK:fF (cn c bs hs u) u (bs.getD u 0) hs (v+1)=cq (fF (cn c bs hs u) u (bs.getD u 0) hs v) (u+v+1) (bs.getD u 0*hs.getD v 0):=rfl;generalize fF (cn c bs hs u) u (bs.getD u 0) hs v=cur at rl zK ⊢
       have u_:(ext cur M).length=M:=C7 (by lia)
       have hex:=C6 (c:=cur) (m:=M) (t:=u+v+1) (v:=bs.getD u 0*hs.getD v 0) (by lia) (by lia) (by lia)
       refine⟨_,rfl,rfl,_,_,rfl,_,_,rfl,rfl,?_⟩;refine⟨_,rfl,trivial,_,rfl,_,rfl,trivial,_,rfl,?_⟩;have QO:(u:Int)+(v:Int)+1=((u+v+1:Nat):Int):=by lia
       refine⟨_,rfl,trivial,_,rfl,_,Gr QO (by lia),trivial,_,rfl,trivial,_,rfl,_,An (hmul u v),_,rfl,trivial,⟨_,rfl⟩,_,rfl,_,_,u+v+1,rfl,rfl,by rw[UR,u_];exact oX QO (by lia),hv,some (.val true (.int (v:Int))),some (.val true (.int (hs.getD v 0))),some (.val true (.int ((u:Int)+(v:Int)+1))),?_⟩
       rw[zK,<- hex];unfold iD;rw[List.map_set];rfl
      ·rintro β ⟨_,Ra,Q_,Q9,rfl⟩;rw[jh,UR];exact⟨hu,_,_,_,_,_,rfl⟩
     ·rintro β ⟨_,y9,Q8,Q6,Q5,Q4,rfl⟩;rw[jh,UR];exact⟨Qo,_,_,_,_,_,_,by rw[L5] <;> rfl⟩
    ·rw[AF hk (by lia)]
     rfl
   ·rintro β ⟨_,x8,x9,pM,nS,nR,nQ,rfl⟩;rw[UR,AG hp (by lia)]
    have bl:=ua hp (j-i) i;have zV:=bl.le;have S7:=b0.one;obtain⟨l,x,el,hx⟩:=yK bl.pos bl.one;have SX:ext (bL ps (j-i) i) M=bL ps (j-i) i++U9 (M-(bL ps (j-i) i).length) 0:=rfl;rw[SX];have eta:∀(c:List Int) (y:Int),jL (iD (c++[y])) (.int (-1))=some (.int y):=λc y=>by
     unfold iD;rw[Vf];exact lS
    refine⟨λmm β=>∃x8 x9 pM nS nR nQ,β=[some (.val false (iN n ps)),some (.val true (.int n)),some (.val false (dI ps)),some (.shl true (dA kvs)),some (.val true (.int (i:Int))),some (.val true (.lst ((eD ps i).map λk:Nat=>D.int (k:Int)))),some (.val true (.int (j:Int))),some (.own (iD (bL ps (j-i) i++U9 mm 0))),x8,x9,pM,nS,nR,nQ],⟨_,_,_,_,_,_,_,rfl⟩,?_⟩;rintro mm β ⟨x8,x9,pM,nS,nR,nQ,rfl⟩;cases mm with
    |zero =>
     rw[List.replicate_zero,VW];have e0:jL (iD (bL ps (j-i) i)) (.int (-1))=some (.int x):=by rw[el];exact eta l x
     refine⟨_,rfl,trivial,_,rfl,rfl,_,e0,trivial,_,d6 _ _,_,rfl,gg (decide_eq_false (by lia)) ?_⟩
     obtain⟨v1,tb⟩:=uo tb (by lia)
     refine⟨_,rfl,⟨trivial,λz=>(nomatch z)⟩,⟨_,rfl⟩,_,rfl,trivial,_,rfl,trivial,mM,kvs,tI (i,j),rfl,rfl,v1,Yz (show kvs.length<=9000 by lia) (by decide),Gx,_,_,_,_,_,_,_,_,_,rfl,?_⟩
     rw[show i+1+(r+1)=j+1 by lia]
     exact tb
    |succ mm =>
     have er:bL ps (j-i) i++U9 (mm+1) 0=(bL ps (j-i) i++U9 mm 0)++[0]:=by rw[List.replicate_succ',VP]
     rw[er];have e0:=eta (bL ps (j-i) i++U9 mm 0) 0;have e2:iD (bL ps (j-i) i++U9 mm 0++[0])=.lst ((bL ps (j-i) i++U9 mm 0).map D.int++[.int 0]):=by unfold iD;rw[Vf (l₂:=[0])];rfl
     rw[e2]at e0 ⊢
     exact⟨_,rfl,trivial,_,rfl,rfl,_,e0,trivial,_,d6 _ _,_,rfl,o4 rfl ⟨_,_,rfl,mm,X7 _,_,_,_,_,_,_,rfl⟩⟩
  ·rintro β ⟨_,kvs,x6,x7,x8,x9,pM,nS,nR,nQ,rfl,tb⟩;rw[cS]at tb;refine⟨hm,_,_,_,_,_,_,_,_,_,_,_,rfl,?_⟩;rw[show n+1-(m+1)=i by lia]
   rw[show i+1+(n-i)=n+1 by lia]at tb
   exact tb
 ·rintro β ⟨_,kvs,x4,x5,x6,x7,x8,x9,pM,nS,nR,nQ,rfl,tb⟩;rw[kL,WG]at tb;exact⟨⟨_,rfl⟩,trivial,_,rfl,trivial,mM,kvs,tI (0,n),_,rfl,rfl,tb.ge 0 n (by lia) (by lia) (.inr ⟨rfl,by lia⟩),trivial,q⟩
end
end gZ
namespace L2.Q
open PySem PySem.Spec PySem.SeqAt PyProof.Rows
def sumZ:Nat->(Nat->Int)->Int
 |0,_=>0
 |m+1,f=>sumZ m f+f m
theorem eQ {f g:Nat->Int}:∀{m:Nat},(∀u,u<m->f u=g u)->sumZ m f=sumZ m g
 |0,_=>rfl
 |m+1,h=>by show sumZ m f+f m=sumZ m g+g m;rw[eQ λu hu=>h u (by lia),h m (by lia)]
theorem pV {f g:Nat->Int}:∀{m:Nat},sumZ m (λu=>f u+g u)=sumZ m f+sumZ m g
 |0=>rfl
 |m+1=>by show sumZ m (λu=>f u+g u)+(f m+g m)=(sumZ m f+f m)+(sumZ m g+g m);rw[pV];lia
theorem sumZ_zero:∀{m:Nat},sumZ m (λ_=>0)=0
 |0=>rfl
 |m+1=>by show sumZ m _+0=0;rw[sumZ_zero,Xe]
theorem pU {h:Nat->Int}{a:Nat}:∀{m:Nat},sumZ m (λu=>(if a=u then 1 else 0)*h u)=if a<m then h a else 0
 |0=>rfl
 |m+1=>by
  show sumZ m _+(if a=m then 1 else 0)*h m=_
  rw[pU]
  by_cases e:a=m
  ·subst e;rw[if_neg (by lia),if_pos rfl,if_pos (by lia)]
   lia
  ·rw[if_neg e,Int.zero_mul]
   by_cases q:a<m
   ·rw[if_pos q,if_pos (by lia)];lia
   ·rw[if_neg q,if_neg (by lia)];lia
theorem nF {m:Int}{S:List NN}{L:List (List NN)}:ck m (S::L)=(if (S.length:Int)=m then 1 else 0)+ck m L:=by
 unfold ck;rw[WC]
 by_cases h:(S.length:Int)=m
 ·rw[if_pos (decide_eq_true h),if_pos h,Ve,Nat.add_comm]
 ·rw[if_neg (by simpa using h),if_neg h,We]
theorem x_ {h:Nat->Int}{n:Nat}:∀{X:List (List NN)},(∀A∈X,A.length<n)->(X.map λA=>h A.length).sum=sumZ n λu=>((ck (u:Int) X:Nat):Int)*h u
 |[],_=>by
  rw[eQ (f:=λu=>((ck (u:Int) []:Nat):Int)*h u) (g:=λ_=>0) λu _=>Int.zero_mul _,sumZ_zero];rfl
 |A::X,hA=>by
  rw[Vj,Wh,x_ λB hB=>hA B (UZ _ hB)];have e:∀u,u<n->((ck (u:Int) (A::X):Nat):Int)*h u=(if A.length=u then 1 else 0)*h u+((ck (u:Int) X:Nat):Int)*h u:=λu _=>by
   rw[nF,<- Int.add_mul]
   congr 1
   by_cases q:A.length=u
   ·rw[if_pos (by lia),if_pos q];lia
   ·rw[if_neg (by lia),if_neg q];lia
  rw[eQ e,pV,pU,if_pos (hA A U1)]
theorem lE {l:List Int}{s:Nat}(h:l.length<=s):l.getD s 0=0:=by rw[Vi,VD h];rfl
def sD (hs:List Int)(s u:Nat):Int:=if u+1<=s then hs.getD (s-1-u) 0 else 0
theorem DK {s u:Nat}{x:Int}{hs:List Int}:∀m,rS s u x hs m=if u+1<=s/\s-1-u<m then x*hs.getD (s-1-u) 0 else 0
 |0=>by rw[if_neg (by lia)];rfl
 |m+1=>by
  show rS s u x hs m+_=_;rw[DK m]
  by_cases e:s=u+m+1
  ·subst e;rw[if_neg (by lia),if_pos rfl,if_pos (by lia),Xy,show u+m+1-1-u=m by lia]
  ·rw[if_neg e,Xe]
   by_cases q:u+1<=s/\s-1-u<m
   ·rw[if_pos q,if_pos (by lia)]
   ·rw[if_neg q,if_neg (by lia)]
theorem IK {s u:Nat}{x:Int}{hs:List Int}:rS s u x hs hs.length=x*sD hs s u:=by
 rw[DK];unfold sD
 by_cases h:u+1<=s
 ·rw[if_pos h]
  by_cases q:s-1-u<hs.length
  ·rw[if_pos ⟨h,q⟩]
  ·rw[if_neg (by lia),lE (by lia),Int.mul_zero]
 ·rw[if_neg h,if_neg (by lia),Int.mul_zero]
theorem yU {s:Nat}{bs hs:List Int}:∀m,pS s bs hs m=sumZ m λu=>bs.getD u 0*sD hs s u
 |0=>rfl
 |m+1=>by show pS s bs hs m+_=sumZ m _+_;rw[yU m,IK]
theorem mN {α:Type}{f:α->Nat}:∀{l:List α},(((l.map f).sum:Nat):Int)=(l.map λa=>((f a:Nat):Int)).sum
 |[]=>rfl
 |a::l=>by rw[Vj,Wh,Vj,Wh,Y1,mN]
theorem Dr {p:NN}{s:Nat}{bs hs:List Int}{X Y:List (List NN)}(hx:∀u:Nat,((ck (u:Int) X:Nat):Int)=bs.getD u 0)(hy:∀u:Nat,((ck (u:Int) Y:Nat):Int)=hs.getD u 0):
  ((ck (s:Int) (X.flatMap λA=>Y.map λB=>p::(A++B)):Nat):Int)=pS s bs hs bs.length:=by
 rw[jl,mN,yU];have e:∀A∈X,((ck (s:Int) (Y.map λB=>p::(A++B)):Nat):Int)=sD hs s A.length:=λA hA=>by
  unfold sD
  by_cases h:A.length+1<=s
  ·rw[if_pos h,<- hy,Au (m':=((s-1-A.length:Nat):Int)) λB hB=>by rw[Ve,U_];lia]
  ·rw[if_neg h,xf λS hS=>by
    obtain⟨B,hB,rfl⟩:=Vq.mp hS;rw[Ve,U_];lia]
   rfl
 rw[VQ e,x_ (n:=bs.length) λA hA=>?_]
 ·exact eQ λu _=>by rw[hx]
 ·have h:=hx A.length;have h1:1<=ck (A.length:Int) X:=by
   unfold ck;exact List.length_pos_of_mem (VH.mpr ⟨hA,decide_eq_true rfl⟩)
  rcases Wz A.length bs.length with q|q
  ·exact q
  ·rw[lE q]at h;lia
theorem AH {ps:List PN}(hp:∀p∈ps,p.1<p.2){f i l:Nat}(hf:l<=f)(ih:∀m,m<=l->∀a s:Nat,((ck (s:Int) (vh ps f a (a+m)):Nat):Int)=(bL ps m a).getD s 0)(s:Nat):∀(ks:List Nat) (c:List Int),(∀k∈ks,i<k/\k<i+l+1)->1<=c.length ->
  (ks.foldl (lY ps i (i+l+1)) c).getD s 0=c.getD s 0+(((ks.map λk=>ck (s:Int) ((vh ps f (i+1) k).flatMap λA=>(vh ps f (k+1) (i+l+1)).map λB=>(i,k)::(A++B))).sum:Nat):Int)
 |[],c,_,_=>(Xe _).symm
 |k::ks,c,hk,hc=>by
  obtain⟨h1,h2⟩:=hk k U1;have b2:=ua hp (i+l+1-(k+1)) (k+1);have e1:=λu=>ih (k-(i+1)) (by lia) (i+1) u
  have e2:=λu=>ih (i+l+1-(k+1)) (by lia) (k+1) u
  rw[show i+1+(k-(i+1))=k by lia]at e1
  rw[show k+1+(i+l+1-(k+1))=i+l+1 by lia]at e2
  have hl:1<=(lY ps i (i+l+1) c k).length:=by
   show 1<=(cn _ _ _ _).length;rw[cW hc b2.one];lia
  rw[Wf,AH hp hf ih s ks _ (λk GZ=>hk k (UZ _ GZ)) hl,Vj,Wh,Y1,Dr e1 e2];show (cn _ _ _ _).getD s 0+_=_;rw[l0 hc b2.one];lia
theorem Hj {ps:List PN}(hp:∀p∈ps,p.1<p.2):∀(f l:Nat),l<=f->∀i s:Nat,((ck (s:Int) (vh ps f i (i+l)):Nat):Int)=(bL ps l i).getD s 0:=by
 have z0:∀s:Nat,((ck (s:Int) ([[]]:List (List NN)):Nat):Int)=([1]:List Int).getD s 0:=λs=>by
  rw[nF];cases s with
  |zero=>rfl
  |succ s =>
   rw[if_neg (by show ¬ ((0:Nat):Int)=((s+1:Nat):Int);lia)]
   rfl
 intro f
 induction f with
 |zero =>
  intro l hl i s;rw[show l=0 by lia]
  exact z0 s
 |succ f ih =>
  intro l hl i s;cases l with
  |zero =>
   unfold vh;rw[if_neg (by lia)]
   exact z0 s
  |succ l =>
   unfold vh;rw[if_pos (by lia),rN,jl,pz hp]
   have h0:=ua hp l (i+1);rw[AH hp (f:=f) (by lia) (λm hm a s=>ih m (by lia) a s) s _ _ (λk hk=>oU hp hk) h0.one,<- ih l (by lia) (i+1) s,Y1,show i+1+l=i+(l+1) by lia,Int.add_comm]
   rfl
theorem vf {ps:List PN}{n:Nat}(ok:l5 n ps)(hs:xp ps)(s:Nat):((((pH ps n (sa ps n 0)).map λS=>(S.length:Int)).count (s:Int):Nat):Int)=(bL ps n 0).getD s 0:=by
 have hp:∀p∈ps,p.1<p.2:=λp h=>(ok.lt p h).1;have hv:∀S,S∈pH ps n (sa ps n 0)↔S∈vh ps n 0 n:=λS=>by
  rw[C8 ok hs,gc hp n 0 n S (by lia)]
  constructor
  ·intro v;have:=Va.set ok v;exact⟨this.2.imp λJ6=> by obtain⟨a,b⟩ := J6;exact⟨a,b.symm⟩,λp h=>⟨this.1 p h,Vb _,(ok.lt p (this.1 p h)).2⟩⟩
  ·intro z;exact pB.va ok ⟨λp h=>(z.of p h).1,z.pw.imp λJ5=> by obtain⟨a,b⟩ := J5;exact⟨a,b.symm⟩⟩
 have Eh:=(List.perm_ext_iff_of_nodup (Ha ok hs) (FY hp ok.nd n 0 n (by lia))).mpr hv
 have h:=Hj hp n n (US _) 0 s;rw[We,<- xg Eh]at h;rw[<- h]
 congr 1
 unfold ck;rw[List.count_eq_countP,List.countP_map,List.countP_eq_length_filter]
 congr 1
theorem yr (l:List Int):(Vx l.length).map (λt:Nat=>D.int (l.getD t 0))=l.map D.int:=by
 refine WK λk=>?_;rw[Vd,Vd]
 by_cases h:k<l.length
 ·rw[Wx h,U4 h];show some (D.int (l.getD k 0))=some (D.int l[k]);rw[Vi,U4 h];rfl
 ·rw[VD (l:=l) (by lia),VD (by rw[VA];lia)]
  rfl
theorem C9 {ps:List PN}{n:Nat}(ok:l5 n ps)(hs:xp ps):wy ((pH ps n (sa ps n 0)).map λS=>(S.length:Int))=some (((bL ps n 0).length:Int)-1):=by
 have hp:∀p∈ps,p.1<p.2:=λp h=>(ok.lt p h).1;have b:=ua hp n 0;have h1:=b.one;have hm:∀s:Nat,s<(bL ps n 0).length↔(s:Int)∈(pH ps n (sa ps n 0)).map λS=>(S.length:Int):=λs=>by
  rw[<- List.count_pos_iff];have:=vf ok hs s;constructor
  ·intro h;have:=b.pos s h;lia
  ·intro h;rcases Wz s (bL ps n 0).length with q|q
   ·exact q
   ·rw[lE q]at this;lia
 refine Cz ?_ λx hx=>?_
 ·rw[show ((bL ps n 0).length:Int)-1=(((bL ps n 0).length-1:Nat):Int) by lia]
  exact(hm _).mp (by lia)
 ·obtain⟨S,hS,rfl⟩:=Vq.mp hx;have:=(hm S.length).mpr hx;lia
section
variable {X:Cx}{C:Cfg}{k:Expr}{φk:aM}{i:Nat}{x:Str}{px kp ap cp:Pos}
def Fo (l:Bool)(i:Nat)(φk:aM):aM:=λβ R=>(∃d0,β[i]?=some (some (.own d0)))/\φk β λjd _ β1=>∃ds t m es d,jd=.int t/\β1[i]?=some (some (.own (A6 l ds)))/\mw ds.length t=some m/\ds[m]?=some (.lst (es++[d]))/\d.flat=true/\R d .own (β1.set i (some (.own (A6 l (ds.set m (.lst es))))))
theorem yF (l:Bool)(hk:PQ X C true k φk)(hN:X.N[i]?=some x:=by rfl)(hv:j9 X.env.scope x:=by first|exact .inl rfl|exact .inr (.inl rfl)|exact .inr (.inr rfl))(hd:(x==("__debug__" : Str))=false:=by decide)(c7:(x==("__classdict__" : Str))=false:=by decide)
  (G0:d8 k:=by exact λ_ _=>rfl)
  (b5:Wr (.Subscript (.Name x px) k kp) "pop" X.env (eval (.Subscript (.Name x px) k kp) X.env)=eval (.Subscript (.Name x px) k kp) X.env:=by rfl) (b4:(ap.endLine==cp.line)=true:=by rfl) :
  PQ X C false (.Call (.Attribute (.Subscript (.Name x px) k kp) "pop" ap) [] [] cp) (Fo l i φk):=by
 have ix:Bf X (λx y H Q=>yw X.K x y H Q\/BM X.K x y H Q):=λvalue slice pins s σ H x y v u Q I rx ry h hs=>h.elim (λh=>bw value slice pins s σ H x y v u Q I rx ry h hs) λh=>oW value slice pins s σ H x y v u Q I rx ry h hs;refine⟨λβ R R' kk J4=> by obtain⟨h0,h⟩ := J4;exact⟨h0,hk.mono _ _ _ (λjd _ β1 J3=> by obtain⟨ds,t,m,es,d,h1,h2,h3,h4,h5,q⟩ := J3;exact⟨ds,t,m,es,d,h1,h2,h3,h4,h5,kk _ _ _ q⟩) h⟩,(yO (apos:=ap) (cpos:=cp) PySem.F.plainAttrs_list PySem.F.slot_list_pop PySem.F.type_list_pop zi (cT (pos:=kp) ix (bp (pos:=px) hN hv hd c7) hk.pe G0) b5 b4).pre λσ H Q ⟨β,own,sq,⟨d0,G3⟩,q⟩=>?_⟩
 obtain⟨v0,jG,_,_⟩:=sq.ow i d0 G3;refine⟨v0,jG,tQ.of hk sq q λjd kk β1 kv H1 ao ⟨ds,t,m,es,d,e1,hb,hj,hm,hf,q⟩ o r=>?_⟩;subst e1;cases r.rep;obtain⟨v,u9,ow,h0⟩:=o.sq.ow i _ hb;rw[jG]at u9;cases u9;obtain⟨a,vs,c,us,B,rfl,q1,q2,q3,q4,q5,q6,q7,q8,q9⟩:=ip ow (o.sq.gX i) hm;have sD:gU vs t=some (.ref c):=by unfold gU;rw[q2,hj];exact q3
 obtain⟨nY,u,B1,B2,rfl,rfl,g3,g4⟩:=q6.concat;have DU:HE X.K "list" (.ref c) H1/\IL (.ref c) [] H1 Q:=by
  refine⟨.inl ⟨rfl,_,b3.of q4⟩,c,_,u,rfl,rfl,q4,by simp,?_⟩
  rw[List.dropLast_concat];have nb:B1.Nodup:=(Vu.mp q8).1;obtain⟨A',p1,p2,p3⟩:=q9 es nY B1 g3 nb (λx hx=>.inl (by simp[hx])) (λx hx=>(q7 x (by simp[hx])).2)
  have hA:∀x∈A',x∈ao i:=λx hx=>(p3 x hx).elim id λz=>(q7 x (by simp[z])).1
  have s2:=o.sq.BQ (C:=C) (U:=C.U) (U2:=C.U) hb jG q5 p1 p2 (λx hx=>.inl (hA x hx)) (λ_ z=>z) (λx hx=>(o.sq.dm i x (hA x hx)).2.2.2);have le:∀b,Wn (aC ao i A') b->Wn ao b:=λb J2=> by
   obtain⟨j,hj⟩ := J2
   by_cases aB:i=j
   ·rw[<- aB,os_eq]at hj;exact⟨i,hA b hj⟩
   ·rw[aV aB]at hj;exact⟨j,hj⟩
  have n2:=o.sn.upd (o':=.lst nY) q4 (λxs z=>by cases z) ⟨i,q5⟩
  have kt:∀b xs,H1 b=some (.tup xs)->upd H1 c (.lst nY) b=some (.tup xs):=λb xs z=>by rw[ak (λz'=>by rw[z',q4]at z;cases z)];exact z
  have g5:=g4.keep (H':=upd H1 c (.lst nY)) kt (λx hx oc ec=>by rw[ak (q7 x (by simp[hx])).2];exact ec)
  exact q u _ _ ⟨s2,eS n2 le,λz=>(nomatch z),λb z=>o.le b (le b z)⟩ (KV.flat hf (g5.rep (W:=λ_=>False) λ_ _ z=>z))
 cases l with
 |true=>exact .inl ⟨a,vs,t,.ref c,rfl,rfl,b3.of q1,sD,DU⟩
 |false=>exact .inr ⟨a,vs,t,.ref c,rfl,rfl,rZ.of q1,sD,DU⟩
end
end L2.Q
namespace gZ
open PySem L2 L2.Q
section
variable {P:UY}{w:Vc}{K:PySem.W.Frag}{mg:Str->Option UQ}{base:Heap}
theorem qc:aP ["found","due"] ["found","due"] (az eW):=mkS
def fS:Nat->FD
 |0=>λ_ _=>False
 |n+1=>fe n
theorem fS.mono:∀{n:Nat},dO (fS n)
 |0=>λ_ _ _ _ h=>h
 |_+1=>fe.mono
theorem Jk {C3 o_} (dM:Mq K mg C3 o_) (B:Bs2 mg):∀n:Nat,aX P w K mg base cy n C3 o_ ["found","due"] (fk P w true (fS n)):=by
 intro n
 induction n with
 |zero=>exact⟨λ_ _ _ _ h=>by obtain⟨_,_,h⟩:=h;exact h.elim,λ_ _ _ _ _ _ _ _ _ _ _ _ _ h=>by obtain⟨_,_,h⟩:=h;exact h.elim⟩
 |succ n GM =>
  refine tm dM.F qc (λds R J1=> by obtain⟨d,e,_⟩ := J1;subst e;rfl) λcV A outer s H E hr=>⟨_,(ai (c4 (d3 (i3 (uF B.HN (iY (i:=1)) B.list gj B.tuple rQ))) (ai (c4 (sG.t (gK (ie (d3 (i3 (uF B.HN (iY (i:=0)) B.list gj B.tuple rQ)))) (ic (aS ag (b8.m (i7 hr.units)) (i3 (jX B.HN (iY (i:=0)) B.list gj)) (i3 (jX B.HN (iY (i:=1)) B.list gj)))))) (ar (a_ jC)) bu)
    (ai (c4 (aS ag (b8.m (i7 hr.units)) (bH ag (cx.m gi) B.len fR (aa (ab (i:=0)) ae)) (bH ag (cx.m gi) B.len fR (aa (ab (i:=1)) ae))) (ar (a_ jC)) bu)
    (ar (a_ (kR ag (b8.m (dy hr.units)) (HL ["k","found","due"] [none,some 0,some 1] (by rfl) (by decide:(["k","found","due"]:List Str).Nodup) rfl (bO B.range (aa (bH ag (cx.m gi) B.len fR (aa (ab (i:=1)) ae)) ae)) (λ_ _ _ _ _ _=>(aw (i:=0) (by decide:(["k","found","due"]:List Str).Nodup))) (λ_ _ _ _ _ _=>(kn (ie (d3 (aZ fS.mono GM (hr.mono (by lia)) dM.m dM.F.kp dM.b (aa (aR ag br (ab (i:=1)) (ab (i:=0))) (aa (aR ag br (ab (i:=2)) (ab (i:=0))) ae))))))) (λ_ _ _ _ _ _=>(ab (i:=0)))) (bc ae)))))) bu)
    (ai (c4 (aS ag (b8.m oO) (ab (i:=1)) oH) (ar (a_ (kR ag (b8.m oO) (ab (i:=0)) oH))) bu)
    (ar (a_ (s9 (i3 (jX B.HN (iY (i:=0)) B.int AA)) (s9 (Fv (i3 (jX B.HN (iY (i:=0)) B.bool Dx))) (sZ (kR ag (b8.m (dy hr.units)) (ab (i:=0)) (ab (i:=1)))))))))),λds R h=>?_⟩
  obtain⟨d,rfl,hl,q⟩:=h;cases hl with
  | @int _ i =>
   refine⟨_,rfl,_,_,rfl,CG,rfl,_,rfl,gg rfl ⟨_,rfl,trivial,_,rfl,_,rfl,gg rfl ?_⟩⟩;exact⟨_,rfl,_,_,rfl,Gb,rfl,_,rfl,o4 rfl ⟨_,rfl,_,_,rfl,Ge,rfl,_,rfl,_,rfl,o4 rfl ⟨_,rfl,trivial,_,rfl,_,iG (bJ i),trivial,q⟩⟩⟩
  |bC =>
   refine⟨_,rfl,_,_,rfl,CF,rfl,_,rfl,gg rfl ⟨_,rfl,trivial,_,rfl,_,rfl,o4 rfl ?_⟩⟩;exact⟨_,rfl,trivial,_,rfl,trivial,q⟩
  | @tup _ es l hl =>
   refine⟨_,rfl,_,_,rfl,uY,rfl,_,rfl,o4 rfl ?_⟩;refine⟨_,rfl,_,_,rfl,uY,rfl,_,rfl,gg rfl ⟨_,rfl,_,_,rfl,zw,rfl,trivial,_,rfl,_,_,rfl,zw,rfl,_,eK (qb false),_,rfl,gg rfl ?_⟩⟩;refine⟨_,rfl,trivial,_,rfl,trivial,_,rfl,trivial,_,rfl,_,eK (bJ _),_,rfl,gg rfl ?_⟩;refine⟨_,rfl,trivial,_,rfl,trivial,(es.length:Int),rfl,by lia,by lia,trivial,?_⟩
   refine⟨λi β o=>o=[]/\∃x0,β=[x0,some (.val false (.tup es)),some (.val false (.tup es))],⟨rfl,_,rfl⟩,?_,?_⟩
   ·rintro i d β o hd ⟨rfl,x0,rfl⟩;have gh:i<es.length:=by
     have:=(U6.mp hd).1
     rwa [cS,WL]at this
    obtain⟨_,rfl⟩:=cD hd;obtain⟨a,ha⟩:∃a,es[i]?=some a:=⟨_,U4 gh⟩;have sj:=hl a (VG ha);have hx:jL (.tup es) (.int (0+(i:Int)))=some a:=by rw[Xy];exact Dl ha
    have hb:=sj
    clear hd
    cases hb with
    |int=>exact⟨_,rfl,trivial,_,rfl,_,hx,trivial,_,rfl,trivial,_,rfl,_,hx,trivial,_,rfl,sj,_,rfl,gg rfl ⟨rfl,_,rfl⟩⟩
    |bC=>exact⟨_,rfl,trivial,_,rfl,_,hx,trivial,_,rfl,trivial,_,rfl,_,hx,trivial,_,rfl,sj,_,rfl,gg rfl ⟨rfl,_,rfl⟩⟩
    |tup=>exact⟨_,rfl,trivial,_,rfl,_,hx,trivial,_,rfl,trivial,_,rfl,_,hx,trivial,_,rfl,sj,_,rfl,gg rfl ⟨rfl,_,rfl⟩⟩
    |lst=>exact⟨_,rfl,trivial,_,rfl,_,hx,.inr ⟨trivial,_,rfl,trivial,_,rfl,_,hx,.inr ⟨trivial,_,rfl,sj,_,rfl,gg rfl ⟨rfl,_,rfl⟩⟩⟩⟩
   ·rintro β o ⟨rfl,x0,rfl⟩;exact⟨trivial,trivial,Vb _,_,iG (gF []),trivial,q⟩
  | @lst _ es l hl =>
   refine⟨_,rfl,_,_,rfl,uZ,rfl,_,rfl,o4 rfl ?_⟩;refine⟨_,rfl,_,_,rfl,uZ,rfl,_,rfl,gg rfl ⟨_,rfl,_,_,rfl,zA,rfl,trivial,_,rfl,_,_,rfl,zA,rfl,_,eK (qb true),_,rfl,gg rfl ?_⟩⟩;refine⟨_,rfl,trivial,_,rfl,trivial,_,rfl,trivial,_,rfl,_,eK (bJ _),_,rfl,gg rfl ?_⟩;refine⟨_,rfl,trivial,_,rfl,trivial,(es.length:Int),rfl,by lia,by lia,trivial,?_⟩
   refine⟨λi β o=>o=[]/\∃x0,β=[x0,some (.val false (.lst es)),some (.val false (.lst es))],⟨rfl,_,rfl⟩,?_,?_⟩
   ·rintro i d β o hd ⟨rfl,x0,rfl⟩;have gh:i<es.length:=by
     have:=(U6.mp hd).1
     rwa [cS,WL]at this
    obtain⟨_,rfl⟩:=cD hd;obtain⟨a,ha⟩:∃a,es[i]?=some a:=⟨_,U4 gh⟩;have sj:=hl a (VG ha);have hx:jL (.lst es) (.int (0+(i:Int)))=some a:=by rw[Xy];exact vq ha
    have hb:=sj
    clear hd
    cases hb with
    |int=>exact⟨_,rfl,trivial,_,rfl,_,hx,trivial,_,rfl,trivial,_,rfl,_,hx,trivial,_,rfl,sj,_,rfl,gg rfl ⟨rfl,_,rfl⟩⟩
    |bC=>exact⟨_,rfl,trivial,_,rfl,_,hx,trivial,_,rfl,trivial,_,rfl,_,hx,trivial,_,rfl,sj,_,rfl,gg rfl ⟨rfl,_,rfl⟩⟩
    |tup=>exact⟨_,rfl,trivial,_,rfl,_,hx,trivial,_,rfl,trivial,_,rfl,_,hx,trivial,_,rfl,sj,_,rfl,gg rfl ⟨rfl,_,rfl⟩⟩
    |lst=>exact⟨_,rfl,trivial,_,rfl,_,hx,.inr ⟨trivial,_,rfl,trivial,_,rfl,_,hx,.inr ⟨trivial,_,rfl,sj,_,rfl,gg rfl ⟨rfl,_,rfl⟩⟩⟩⟩
   ·rintro β o ⟨rfl,x0,rfl⟩;exact⟨trivial,trivial,Vb _,_,iG (gF []),trivial,q⟩
theorem Ci {C3 o_} (dM:Mq K mg C3 o_) (B:Bs2 mg) (n:Nat):aX P w K mg base cy (n+1) C3 o_ ["found","due"] (fk P w true (fe n)):=Jk dM B (n+1)
theorem bf:aP ["row","handed","due","sizes","again","found","tie","less"] ["row"] (az dU):=mkS
def lK:FD:=λds R=>∃(n:Nat) (ps:List (Nat×Nat)),ds=[iN n ps]/\l5 n ps/\n<=40/\xp ps/\R (.bl true)
theorem lK.mono:dO lK:=λds R R' k ⟨n,ps,e,h1,h2,h3,q⟩=>⟨n,ps,e,h1,h2,h3,k _ q⟩
theorem zc {C2 vd} (HY:Q1 K mg C2 vd) {wX nj} (Ez:D9 K mg wX nj) {wY nk} (Aq:Py K mg wY nk) {wV nh} (Ew:PC K mg wV nh) {rm jH} (Ba:Ms K mg rm jH) {mC gz} (xB:LJ K mg mC gz) {C3 o_} (dM:Mq K mg C3 o_) {wZ nr} (As:Pz K mg wZ nr) {rq jJ} (Bc:Mr K mg rq jJ) {wW ni} (Ey:D8 K mg wW ni) {rp jI} (Bb:D7 K mg rp jI) {jS fq} (pJ:D3 K mg jS fq) {jR fo} (pI:D2 K mg jR fo) {mB gy} (xA:D6 K mg mB gy) {gQ dC} (sC:D5 K mg gQ dC) {jT ft} (vp:D4 K mg jT ft) (B:xD mg):aX P w K mg base cy 5 C2 vd ["row"] (fk P w true lK):=by
 have T3:aX P w K mg base cy 1 _ _ _ (fk P w true rE):=wo Ez B.toBs;have QY:aX P w K mg base cy 1 _ _ _ (fk P w false nu):=Cm Aq B;have TR:aX P w K mg base cy 3 _ _ _ (fk P w false rB):=Cg Ew Ba xB B;have QZ:aX P w K mg base cy 2 _ _ _ (fk P w true nv):=Cp As Bc pJ pI B;have TZ:aX P w K mg base cy 4 _ _ _ (fk P w true iE):=Cn Ey Bb pJ pI xA sC vp B;have GM:aX P w K mg base cy 2 _ _ _ (fk P w true (fe 1)):=Ci dM B.toBs2 1;refine tm HY.F bf (λds R J0=> by obtain⟨n,ps,e,_⟩ := J0;subst e;rfl) λcV A outer s H E hr=>⟨_,(ai (f9 (i:=1) (λ_=>(aZ rE.mono T3 (hr.mono (by decide)) Ez.m Ez.F.kp Ez.b (aa (ab (i:=0)) ae))) bf.nd)
    (ai (bG (i:=2) (aZ nu.mono QY (hr.mono (by decide)) Aq.m Aq.F.kp Aq.b (aa (ab (i:=0)) ae)) bf.nd)
    (j3 (c4 (aS ag (b8.m cY) (aR ag br (ab (i:=0)) ah) ah) (ai (bG (i:=3) (HL ["some"] [none] (by rfl) (by decide:(["some"]:List Str).Nodup) rfl (bz (aZ rB.mono TR (hr.mono (by decide)) Ew.m Ew.F.kp Ew.b (aa (ab (i:=0)) ae))) (λ_ _ _ _ _ _=>(aw (i:=0) (by decide:(["some"]:List Str).Nodup))) (λ_ _ _ _ _ _=>fA) (λ_ _ _ _ _ _=>(bH ag (cx.m gi) B.len fR (aa (ab (i:=0)) ae)))) bf.nd)
    (ar (c4 (aS ag (b8.m (i7 hr.units)) (ab (i:=2)) (HL ["size","sizes"] [none,some 3] (by rfl) (by decide:(["size","sizes"]:List Str).Nodup) rfl (bO B.range (aa (aI aJ aD (bH ag (cx.m (xj rfl)) B.max t_ (aa (ab (i:=3)) ae)) ah) ae)) (λ_ _ _ _ _ _=>(aw (i:=0) (by decide:(["size","sizes"]:List Str).Nodup))) (λ_ _ _ _ _ _=>fA) (λ_ _ _ _ _ _=>(yI (ab (i:=1)) (ab (i:=0)))))) (ar (a_ jC)) bu))) bu)
    (ai (cb VC rfl (bO B.range (aa ah ae)) (aw (i:=4) bf.nd) (ai (f9 (i:=5) (λ_=>(aZ nv.mono QZ (hr.mono (by decide)) As.m As.F.kp As.b (aa (ab (i:=1)) ae))) bf.nd)
    (ai (c4 (sG.t (gK (ie (d3 (aZ fe.mono GM (hr.mono (by decide)) dM.m dM.F.kp dM.b (aa (ab (i:=5)) (aa (ab (i:=2)) ae))))) (gK (ie (d3 (aZ fe.mono GM (hr.mono (by decide)) dM.m dM.F.kp dM.b (aa (aZ iE.mono TZ (hr.mono (by decide)) Ey.m Ey.F.kp Ey.b (aa (ab (i:=1)) ae)) (aa (bH ag (cx.m (nI rfl)) B.sum Ay (aa (ab (i:=2)) ae)) ae))))) (ic (aS ag (b8.m (i7 hr.units)) (ab (i:=1)) (ab (i:=0))))))) (ar (a_ jC)) bu)
    (ar (wj (i:=5) (λ_=>ah))))))
    (ai (c4 (aS ag (b8.m (i7 hr.units)) (aR ag br (ab (i:=0)) ah) (bc ae)) (ai (bG (i:=6) (yF (i:=1) false ah) bf.nd)
    (ai (bG (i:=7) (bP (aa (aR ag br (ab (i:=0)) ah) (aa (DO (aR ag br (ab (i:=0)) ah) qo (qm (jB dQ ah))) ae))) bf.nd)
    (ar (a_ (s9 (aZ fe.mono GM (hr.mono (by decide)) dM.m dM.F.kp dM.b (aa (aZ nv.mono QZ (hr.mono (by decide)) As.m As.F.kp As.b (aa (ab (i:=1)) ae)) (aa (aZ nu.mono QY (hr.mono (by decide)) Aq.m Aq.F.kp Aq.b (aa (ab (i:=7)) ae)) ae))) (sZ (kR ag (b8.m (dy hr.units)) (ab (i:=6)) (aR ag br (aR ag br (ab (i:=0)) ah) (jB dQ ah))))))))) bu)
    (ar (a_ jC))))))),λds R h=>?_⟩
 obtain⟨n,ps,rfl,ok,hn,hs,q⟩:=h;have hp:∀p∈ps,p.1<p.2:=λp hp=>(ok.lt p hp).1;have NS:=ok.sm;have bl:=ua hp n 0;have zV:=bl.le;have HV:=bl.one;have QP:∀l:List Int,l.length<=1000->EJ 1 (iD l):=λl h=>.lst (by rw[UR];lia) λx hx=>by
  obtain⟨y,_,rfl⟩:=Vq.mp hx;exact .int
 refine⟨_,rfl,trivial,n,ps,rfl,trivial,_,rfl,trivial,n,ps,rfl,ok,hn,?_⟩;refine⟨λβ=>∃x3 x4 x5 x6 x7,β=[some (.val false (iN n ps)),some (.own (iN n ps)),some (.val true (iD (bL ps n 0))),x3,x4,x5,x6,x7],?_,?_⟩
 ·refine⟨_,rfl,trivial,_,rfl,trivial,_,rfl,_,rfl,si (λh8=>?_) λh8=>⟨_,_,_,_,_,rfl⟩⟩;have hN:sa ps n 0<=362880:=by
   have h1:=uC hp ok.nd n 0;have h2:=fO (show n+1<=9 by lia)
   have h3:mD 9=362880:=by decide
   lia
  refine⟨_,rfl,trivial,n,ps,rfl,ok,by lia,hs,_,rfl,trivial,?_⟩
  refine e8 (λ_=>true) (λS:List PN=>.int (S.length:Int)) trivial (by rw[C_,Wl];lia) (λS hS x0 o J ho j1 _=>?_) ?_
  ·have hle:Lp [dI S]=some (.int (S.length:Int)):=by
    show some (D.int (((S.map _).length:Nat):Int))=_;rw[UR]
   exact⟨_,rfl,trivial,_,hle,trivial,ho,j1 rfl _⟩
  rw[cu];have emap:(pH ps n (sa ps n 0)).map (λS:List PN=>D.int (S.length:Int))=((pH ps n (sa ps n 0)).map λS=>(S.length:Int)).map D.int:=by rw[V4];rfl
  rw[emap];have Tr:ff wy [.lst (((pH ps n (sa ps n 0)).map λS=>(S.length:Int)).map D.int)]=some (.int (((bL ps n 0).length:Int)-1)):=gR (C9 ok hs);have Tt:∀t:Nat,Hi (.lst (((pH ps n (sa ps n 0)).map λS=>(S.length:Int)).map D.int)) (.int (0+(t:Int)))=some (.int ((bL ps n 0).getD t 0)):=λt=>by
   rw[<- vf ok hs t,Xy];show (jM _).bind _=_;rw[jj];rfl
  have O7:(((bL ps n 0).length:Int)-1+1).toNat=(bL ps n 0).length:=by lia
  refine⟨_,rfl,trivial,_,rfl,trivial,_,Tr,trivial,_,rfl,trivial,((bL ps n 0).length:Int)-1+1,rfl,by lia,by lia,trivial,?_⟩
  rw[O7];refine e8 (l:=Vx (bL ps n 0).length) (λ_=>true) (λt:Nat=>.int ((bL ps n 0).getD t 0)) trivial (by rw[VA];exact gv (by lia)) (λt ht x0 o J ho j1 _=>⟨_,rfl,⟨_,rfl⟩,trivial,_,rfl,_,Tt t,trivial,ho,j1 rfl _⟩) ?_
  rw[cu,yr];exact⟨_,eK (gF _),_,rfl,gg rfl ⟨_,_,_,_,_,rfl⟩⟩
 ·rintro β ⟨x3,x4,x5,x6,x7,rfl⟩;refine⟨trivial,2,rfl,by decide,by decide,trivial,?_⟩
  refine⟨λ_ β=>∃x3 x4 x5 x6 x7,β=[some (.val false (iN n ps)),some (.own (iN n ps)),some (.val true (iD (bL ps n 0))),x3,x4,x5,x6,x7],⟨_,_,_,_,_,rfl⟩,?_,?_⟩
  ·rintro i d β hd ⟨x3,x4,x5,x6,x7,rfl⟩;obtain⟨_,rfl⟩:=cD hd;have O6:ff (λns=>some ns.sum) [iD (bL ps n 0)]=some (.int (sT ps n 0)):=(gR rfl).trans (by rw[bl.sum])
   refine⟨_,rfl,trivial,n,ps,rfl,ok,hn,trivial,?_⟩;refine⟨_,rfl,trivial,_,rfl,trivial,iD (bL ps n 0),rfl,QP _ (by lia),_,rfl,gg rfl ?_⟩
   refine⟨_,rfl,trivial,n,ps,rfl,ok,hn,trivial,_,rfl,trivial,_,O6,trivial,_,rfl,.int,_,rfl,gg rfl ?_⟩;refine⟨_,rfl,trivial,_,rfl,_,eK (yf n ps),_,rfl,gg rfl ?_⟩;exact⟨⟨_,rfl⟩,trivial,_,rfl,by rw[UR];exact pR (by lia),_,_,_,_,_,rfl⟩
  ·rintro β ⟨x3,x4,x5,x6,x7,rfl⟩;refine⟨_,rfl,trivial,_,rfl,.inr ⟨trivial,Vb _,_,w_ ps,_,rfl,?_⟩⟩
   by_cases qZ:ps=[]
   ·exact gg (by rw[decide_eq_true qZ];rfl) ⟨trivial,q⟩
   ·refine o4 (by rw[decide_eq_false qZ];rfl) ?_
    obtain⟨ls,p,rfl⟩:∃ls p,ps=ls++[p]:=⟨ps.dropLast,ps.getLast qZ,(XN qZ).symm⟩;rw[U_]at NS;have Na:l5 n ls:=⟨λx hx=>ok.lt x (by simp[hx]),ok.nd.sublist (List.sublist_append_left _ _),ok.le,by lia⟩
    have TB:=ua (λx hx=>(Na.lt x hx).1) n 0;have QG:=TB.le;have QM:dI (ls++[p])=.lst (ls.map (λp=>kD (tI p))++[kD (tI p)]):=by unfold dI;rw[Vf];rfl
    have To:Pe (dI (ls++[p])) none (some (-1))=some (dI ls):=by
     show some (D.lst (cutD _ _ _))=_;unfold cutD dI;rw[HT.qf,Za,UR,U_,show HT.jW (ls.length+[p].length) (ls.length+[p].length) (some (-1))=ls.length by show (if (-1:Int)<0 then (-1+((ls.length+1:Nat):Int)).toNat else min (-1:Int).toNat (ls.length+1))=_;rw[if_pos (by decide)];lia,Vf,List.take_append_of_le_length (by rw[UR];lia),Wi (by rw[UR];lia)]
    refine⟨⟨_,rfl⟩,[.int (n:Int),dI (ls++[p])],1,1,ls.map (λp=>kD (tI p)),kD (tI p),rfl,rfl,rfl,congrArg some QM,rfl,?_⟩;refine⟨_,rfl,trivial,_,rfl,trivial,_,rfl,trivial,_,rfl,.inr ⟨_,rfl,rfl,_,rfl,_,To,.inl ⟨lH,trivial,mM,?_⟩⟩⟩;refine⟨_,rfl,trivial,n,ls,rfl,Na,hn,trivial,_,rfl,trivial,n,ls,rfl,Na,hn,trivial,iD (bL ls n 0),rfl,QP _ (by lia),_,rfl,o4 rfl ?_⟩
    have Ts:jL (dI (ls++[p])) (.int (-1))=some (kD (tI p)):=by rw[QM];exact lS
    refine⟨_,rfl,trivial,_,rfl,trivial,_,rfl,.inr ⟨trivial,_,rfl,rfl,_,Ts,?_⟩⟩;exact⟨_,iG (ia _),trivial,q⟩
end
section
variable {P:UY}{w:Vc}{K:PySem.W.Frag}{mg:Str->Option UQ}{base:Heap}
theorem kG:aP ["script","k"] ["script","k"] (az cO):=mkS
def yd (K:PySem.W.Frag):Sp:=λvs H Q _=>∃(a:Addr) (ns:List Int),vs=[.ref a,.int 0]/\b3 K H a (ns.map V.int)/\∀c:Int,Q (.int c) H
theorem Co {C4 ve} (H9:Q0 K mg C4 ve) (B:Bs mg):aX P w K mg base cy 1 C4 ve ["script","k"] (yd K):=by
 refine H9.F.ok kG (λvs H Q E h=>?_) (λcV A outer s H vs Qk E hr h=>?_)
 ·obtain⟨a,ns,rfl,_⟩:=h;rfl
 ·obtain⟨a,ns,rfl,hS,k⟩:=h;refine⟨_,bN (uG (jY DS (pv 1) (cU bY (by rfl) B.len fR (aF (pv 0) bq)) (tw _)) (cF (eY (cT bw (pv 0) (pv 1) (λ_ _=>rfl)))) jZ) (cF (eY aO)),?_⟩
  refine⟨_,rfl,_,rfl,a,_,rfl,.inl hS,0,_,rfl,rfl,_,rfl,?_⟩;dsimp only
  split
  ·rename_i hl
   cases ns with
   |nil=>exact absurd hl (by decide)
   |cons n ns=>exact⟨_,rfl,_,rfl,a,_,0,.int n,rfl,rfl,hS,(by unfold gU;rw[show mw (List.map V.int (n::ns)).length 0=some 0 by unfold mw;rw[if_pos (by decide),if_pos (by rw[UR,Ve];lia)];rfl];rfl),k n⟩
  ·exact k 0
theorem yj:aP ["script","cell"] ["script"] (az kK):=mkS
def yc (K:PySem.W.Frag):Sp:=λvs H Q _=>∃(a:Addr) (ns:List Int),vs=[.ref a]/\b3 K H a (ns.map V.int)/\ns.length<=63/\∀H',Q (.bl true) H'
def JL (β:Q.a7):Prop:=∃y0 y1:Option Q.B,β=[y0,y1]
theorem FU {f:Addr} {fd:VI} (F:Bg K "law" "law" kK f fd) (B:xD mg) {C2 vd} (HY:Q1 K mg C2 vd) {wX nj} (Ez:D9 K mg wX nj) {wY nk} (Aq:Py K mg wY nk) {wV nh} (Ew:PC K mg wV nh) {rm jH} (Ba:Ms K mg rm jH) {mC gz} (xB:LJ K mg mC gz) {C3 o_} (dM:Mq K mg C3 o_) {wZ nr} (As:Pz K mg wZ nr) {rq jJ} (Bc:Mr K mg rq jJ) {wW ni} (Ey:D8 K mg wW ni) {rp jI} (Bb:D7 K mg rp jI) {jS fq} (pJ:D3 K mg jS fq) {jR fo} (pI:D2 K mg jR fo) {mB gy} (xA:D6 K mg mB gy) {gQ dC} (sC:D5 K mg gQ dC) {jT ft} (vp:D4 K mg jT ft) {C4 ve} (H9:Q0 K mg C4 ve) {Tf O2} (dH:T7 K mg Tf O2) {O3 G_} (dT:D1 K mg O3 G_) {Mb C1} (dR:D0 K mg Mb C1):aX P w K mg base cy 6 f fd ["script"] (yc K):=by
 have T4:aX P w K mg base cy 1 _ _ _ (yd K):=Co H9 B.toBs;have GH:aX P w K mg base cy 1 _ _ _ (fk P w true z_):=Ck dH.F B.toBs;have GR:aX P w K mg base cy 3 _ _ _ (sQ P w A5 true rC):=FT dR dT B.toBs;have TU:aX P w K mg base cy 5 _ _ _ (fk P w true lK):=zc HY Ez Aq Ew Ba xB dM As Bc Ey Bb pJ pI xA sC vp B;refine F.ok yj (λvs H Q E h=>?_) (λcV A outer s H vs Qk E hr h=>?_)
 ·obtain⟨a,ns,rfl,_⟩:=h;rfl
 ·obtain⟨a,ns,rfl,hS,hlen,k⟩:=h;have Uz:∀b:Addr,¬ (λ_=>False) b:=λb z=>z;obtain⟨ψ,hb,hψ⟩:∃ψ,Q.xr (mE cy P w K mg base ["script","cell"] "law" (az kK) f cV A outer s H E).DV ⟨H,λ_=>False,true,λ_=>False⟩ (match (d4 kK)with | .For _ _ b _ _::_=>b|_=>[]) ψ /\
    ∀(c:Int) (x0:Option Q.B),ψ {nx:=JL,rt:=λd _=>d=.bl true,bk:=JL,ct:=JL} [x0,some (.val true (.int c))]:=by
   refine⟨_,(ar (c4 (ie (d3 (aZ lK.mono TU (hr.mono (by decide)) HY.m HY.F.kp HY.b (aa (yH rC.mono GR (hr.mono (by decide)) dR.m dR.F.kp dR.b (λ_=>(aZ z_.mono GH (hr.mono (by decide)) dH.m dH.F.kp dH.b (aa (ab (i:=1)) ae))) (λ_=>(aa ah ae))) ae)))) (ar (a_ jC)) bu)),λcc x0=>?_⟩
   refine⟨_,rfl,trivial,cc,rfl,λns hk=>⟨ns,rfl,rfl,hk,trivial,rfl,40,rfl,by decide,by decide,λn ts n0 n1 dr=>?_⟩⟩
   obtain⟨hl,tr,sr,nd⟩:=dr;obtain⟨m,ps,ok,en,Tj,er⟩:=BL n0 (by lia) (by lia) tr nd
   rw[er];have hm:m<=40:=by lia
   have hs:xp ps:=E9 (by rw[<- Tj];exact sr) ok.nd
   exact⟨trivial,m,ps,rfl,ok,hm,hs,_,rfl,gg rfl ⟨_,_,rfl⟩⟩
  refine⟨_,bN (oE VC rfl (uN (bB zb (qr uz (pv 0) uK (uJ aO)) (oJ (aF (ik T4 (hr.mono (by decide)) (by rfl) H9.m H9.F.kp H9.b .nil qz (aF (pv 0) (aF aO bq))) bq)))) (Q.aw (C:=⟨H,λ_=>False,true,λ_=>False⟩) (i:=1) yj.nd).pg hb.ps) (cF (eY yP)),?_⟩
  obtain⟨ms,em,hm⟩:=xb ns none (some 4);refine⟨_,rfl,_,rfl,a,_,rfl,hS,λp2 L4=>⟨_,rfl,a,ns,rfl,(ay.new L4).seq hS,λc0=>⟨(by show 1<=U8;decide),λp1 HR=>?_⟩⟩⟩
  have RY:p2≠p1:=cf aj HR;refine⟨p2,p1,_,_,rfl,rfl,(by rw[ak RY];exact aj),aj,(by rw[em,UR,Wl,W3];lia),λl hl=>⟨l,rfl,⟨_,b3.of aj⟩,?_⟩⟩
  rw[em];rw[em]at hl;rw[em]at HR;have sm:ay H (upd (upd (upd H p2 (.lst (ms.map V.int))) p1 (.lst [V.int c0])) l (.lst (ms.map V.int++[V.int c0]))):=((ay.new L4).trans (ay.new HR)).trans (ay.new hl);have m_:(upd (upd (upd H p2 (.lst (ms.map V.int))) p1 (.lst [V.int c0])) l (.lst (ms.map V.int++[V.int c0]))) l=some (.lst ((ms++[c0]).map V.int)):=by rw[Vf];exact aj
  generalize (upd (upd (upd H p2 (.lst (ms.map V.int))) p1 (.lst [V.int c0])) l (.lst (ms.map V.int++[V.int c0])))=H1 at sm m_ ⊢
  generalize (ms++[c0])=cs at m_;let X:Cx:=(mE cy P w K mg base ["script","cell"] "law" (az kK) f cV A outer s H E).DV
  let C:Q.Cfg:=⟨H,λ_=>False,true,λ_=>False⟩
  have it:xC X (λ_=>False) (Mp K l) (cs.map D.int) H1:=qW m_ (λz=>z) (a8 cs);have HM:=it (λb=>(λ_=>False) b\/H1 b=none) λb z=>z;have s':Q.bh P w C.z (L2.start ["script","cell"] [.ref a]) H1 (U9 2 none) (λ_=>[]):=BD (by rfl) sm
  generalize S0:cs.map D.int=ds at HM;have hint:∀d∈ds,∃c:Int,d=.int c:=λd hd=>by
   rw[<- S0]at hd;obtain⟨c,_,rfl⟩:=Vq.mp hd;exact⟨c,rfl⟩
  refine⟨λi m σ H'=>i<=ds.length/\m=ds.length-i/\∃β,Q.SB X C (H1,Q.Wn λ_=>[]) σ H' β/\JL β,⟨_,Vb _,rfl,_,⟨_,s',Sn.refl⟩,⟨_,_,rfl⟩⟩,?_⟩;rintro i m σ2 H2 ⟨hi,rfl,β2,⟨aY,s2,n2⟩,⟨y0,y1,rfl⟩⟩;obtain⟨dN,oY⟩:=HM i H2 (n2.k.mono λb z=>z.imp (λJZ=> by obtain⟨_,q⟩ := JZ;exact(nomatch q)) id)
  by_cases gh:i<ds.length
  ·right
   have hd:ds[i]?=some ds[i]:=U4 gh;obtain⟨go,yl⟩:=dN _ hd;obtain⟨c,hc⟩:=hint ds[i] (X8 gh);refine⟨go,λσ' H'=>∃β,Q.SB X C (H1,Q.Wn λ_=>[]) σ' H' β/\JL β,λσ' H' JY=> by obtain⟨β',vV,zR⟩ := JY;exact⟨_,by lia,gh,rfl,β',vV,zR⟩,λx H3 y=>?_⟩
   obtain⟨s3,r3⟩:=yl x H3 y;rw[hc]at r3;refine⟨aY,_,.int c,.own,s2.same s3,au.flat rfl r3,λσ4 qA s4 w4 _=>?_⟩;exact⟨(H1,Q.Wn λ_=>[]),{nx:=JL,rt:=λd _=>d=.bl true,bk:=JL,ct:=JL},_,⟨qA,s4,Q.eS (n2.same s3) w4⟩,hψ c y0,⟨λσ5 H5 β5 vU q5=>⟨β5,vU,q5⟩,λσ5 H5 β5 d5 v5 vU r5 q5=>by
    subst q5;cases (show v5=V.bl true from II r5)
    exact k _,λσ5 H5 β5 vU q5=>k _,λσ5 H5 β5 vU q5=>⟨β5,vU,q5⟩⟩⟩
  ·left
   have e:i=ds.length:=by lia
   subst e;exact⟨oY (US _),k _⟩
end
theorem lx {α:Type}{P:List α->Prop}(h:∀a,P [a]):∀us:List α,us.length=1->P us:=λus e=>by
 obtain⟨a,rfl⟩:=List.length_eq_one_iff.mp e;exact h a
theorem qU {α:Type}{P:List α->Prop}(h:∀a b,P [a,b]):∀us:List α,us.length=2->P us:=λus e=>by
 cases us with
 |nil=>cases e
 |cons a us=>exact lx (P:=λus=>P (a::us)) (h a) us (XT e)
theorem F8 {α:Type}{P:List α->Prop}(h:∀a b c,P [a,b,c]):∀us:List α,us.length=3->P us:=λus e=>by
 cases us with
 |nil=>cases e
 |cons a us=>exact qU (P:=λus=>P (a::us)) (h a) us (XT e)
theorem Nr {α:Type}{P:List α->Prop}(h:∀a b c d,P [a,b,c,d]):∀us:List α,us.length=4->P us:=λus e=>by
 cases us with
 |nil=>cases e
 |cons a us=>exact F8 (P:=λus=>P (a::us)) (h a) us (XT e)
theorem z5 {K:PySem.W.Frag}{x m:Str}{st:Stmt}{t c f:Nat}(l:K.lookup f=some (kF st x m t c))(cd:PySem.W.codeIn K (.ref c) x=true)(k:PySem.W.keepIn K (.ref f)=true):Bg K x x st f (LY st x m t c):=G7 l cd k
theorem cw {K:PySem.W.Frag}{h:Heap}{mg:Str->Option UQ}{x m:Str}{st:Stmt}{t c f:Nat}{ps:List Str}(X:K.In h)(G:h.Ns Wt mg)(l:K.lookup f=some (kF st x m t c))(cd:PySem.W.codeIn K (.ref c) x=true)(k:PySem.W.keepIn K (.ref f)=true)
  (a:PySem.W.nsIn K Wt x=some (some (.ref f))) (b:∀us:List UQ,us.length=ps.length->bindArgs (LY st x m t c) ⟨us,[]⟩=pure (ps.zip us)):Df K mg x st ps f (LY st x m t c):=⟨z5 l cd k,.all b,PySem.W.mg_of X G a⟩
theorem all_mk {l:PySem.W.OpenLaw} (w:Vc) (mg:Str->Option UQ) (fa:Addr) (h:Heap) (X:(KK w.params).In h) (G:h.Ns Wt mg) (SW:mg "law" = some (.ref fa))   :∃fd:VI,(∀(s:UT) (v:UQ),BindsTo s fd ⟨[v],[]⟩ [("script",v)])/\∀base:Heap,(KK w.params).In base->base.Ns Wt mg->aX l.prog w (KK w.params) mg base cy 6 fa fd ["script"] (yc (KK w.params)):=by
 have e:=SW.symm.trans (PySem.W.mg_of X G (v:=.ref 143) (by kernel_rfl))
 cases e;have Jy:=PySem.W.mg_none_of X G (n:="max") (by kernel_rfl)
 have Jx:=PySem.W.mg_none_of X G (n:="min") (by kernel_rfl)
 have JA:=PySem.W.mg_none_of X G (n:="int") (by kernel_rfl)
 have Cy:=PySem.W.mg_none_of X G (n:="range") (by kernel_rfl)
 have zg:=PySem.W.mg_none_of X G (n:="sorted") (by kernel_rfl)
 have Jw:=PySem.W.mg_none_of X G (n:="set") (by kernel_rfl)
 have Jz:=PySem.W.mg_none_of X G (n:="len") (by kernel_rfl)
 have F0:=PySem.W.mg_none_of X G (n:="list") (by kernel_rfl)
 have oS:=PySem.W.mg_none_of X G (n:="isinstance") (by kernel_rfl)
 have Cw:=PySem.W.mg_none_of X G (n:="tuple") (by kernel_rfl)
 have Jv:=PySem.W.mg_none_of X G (n:="str") (by kernel_rfl)
 have F1:=PySem.W.mg_none_of X G (n:="bool") (by kernel_rfl)
 have Jt:=PySem.W.mg_none_of X G (n:="zip") (by kernel_rfl)
 have qH:=PySem.W.mg_none_of X G (n:="enumerate") (by kernel_rfl)
 have Ju:=PySem.W.mg_none_of X G (n:="sum") (by kernel_rfl)
 have B:=(⟨⟨⟨Jy,Jx,JA,Cy,zg,Jw,Jz,F0⟩,oS,Cw,Jv,F1,Jt,qH⟩,Ju⟩:xD mg);exact⟨_,λs v=>.of_eq rfl,λbase _ _=>FU (z5 (x:="law") (m:="law_archrow_k20_sets_counted") (st:=kK) (t:=259) (c:=142) (f:=143) (by kernel_rfl) (by kernel_rfl) (by kernel_rfl)) B (cw X G (x:="_law_right") (m:="law_archrow_k20_sets_counted") (st:=dU) (t:=259) (c:=135) (f:=136) (ps:=["row"]) (by kernel_rfl) (by kernel_rfl) (by kernel_rfl) (by kernel_rfl) (lx λ_=>rfl))
  (cw X G (x:="_law_copied") (m:="law_archrow_k20_sets_counted") (st:=dc) (t:=259) (c:=101) (f:=102) (ps:=["row"]) (by kernel_rfl) (by kernel_rfl) (by kernel_rfl) (by kernel_rfl) (lx λ_=>rfl))
  (cw X G (x:="_law_counts") (m:="law_archrow_k20_sets_counted") (st:=da) (t:=259) (c:=130) (f:=131) (ps:=["row"]) (by kernel_rfl) (by kernel_rfl) (by kernel_rfl) (by kernel_rfl) (lx λ_=>rfl))
  (cw X G (x:="_law_sets") (m:="law_archrow_k20_sets_counted") (st:=eV) (t:=259) (c:=120) (f:=121) (ps:=["row"]) (by kernel_rfl) (by kernel_rfl) (by kernel_rfl) (by kernel_rfl) (lx λ_=>rfl))
  (cw X G (x:="_law_fits") (m:="law_archrow_k20_sets_counted") (st:=eX) (t:=259) (c:=115) (f:=116) (ps:=["some","tie"]) (by kernel_rfl) (by kernel_rfl) (by kernel_rfl) (by kernel_rfl) (qU λ_ _=>rfl))
  (cw X G (x:="_law_do_cross") (m:="law_archrow_k20_sets_counted") (st:=cC) (t:=259) (c:=108) (f:=109) (ps:=["one","other"]) (by kernel_rfl) (by kernel_rfl) (by kernel_rfl) (by kernel_rfl) (qU λ_ _=>rfl))
  (cw X G (x:="_law_same") (m:="law_archrow_k20_sets_counted") (st:=eW) (t:=259) (c:=125) (f:=126) (ps:=["found","due"]) (by kernel_rfl) (by kernel_rfl) (by kernel_rfl) (by kernel_rfl) (qU λ_ _=>rfl))
  (cw X G (x:="by_size") (m:="archrow.counted") (st:=f6) (t:=227) (c:=54) (f:=55) (ps:=["row"]) (by kernel_rfl) (by kernel_rfl) (by kernel_rfl) (by kernel_rfl) (lx λ_=>rfl))
  (cw X G (x:="add_sizes") (m:="archrow.counted") (st:=dX) (t:=227) (c:=66) (f:=67) (ps:=["sizes","beneath","behind"]) (by kernel_rfl) (by kernel_rfl) (by kernel_rfl) (by kernel_rfl) (F8 λ_ _ _=>rfl))
  (cw X G (x:="count_sets") (m:="archrow.counted") (st:=de) (t:=227) (c:=49) (f:=50) (ps:=["row"]) (by kernel_rfl) (by kernel_rfl) (by kernel_rfl) (by kernel_rfl) (lx λ_=>rfl))
  (cw X G (x:="counts_of") (m:="archrow.counted") (st:=dW) (t:=227) (c:=59) (f:=60) (ps:=["row"]) (by kernel_rfl) (by kernel_rfl) (by kernel_rfl) (by kernel_rfl) (lx λ_=>rfl))
  (cw X G (x:="partners_of") (m:="archrow.stretches") (st:=cN) (t:=187) (c:=23) (f:=24) (ps:=["row"]) (by kernel_rfl) (by kernel_rfl) (by kernel_rfl) (by kernel_rfl) (lx λ_=>rfl))
  (cw X G (x:="stretches_rising") (m:="archrow.stretches") (st:=bE) (t:=187) (c:=18) (f:=19) (ps:=["many"]) (by kernel_rfl) (by kernel_rfl) (by kernel_rfl) (by kernel_rfl) (lx λ_=>rfl))
  (cw X G (x:="ways_by") (m:="archrow.stretches") (st:=fY) (t:=187) (c:=42) (f:=43) (ps:=["counts","choices","i","j"]) (by kernel_rfl) (by kernel_rfl) (by kernel_rfl) (by kernel_rfl) (Nr λ_ _ _ _=>rfl))
  (cw X G (x:="ways_in") (m:="archrow.stretches") (st:=fX) (t:=187) (c:=37) (f:=38) (ps:=["counts","parts"]) (by kernel_rfl) (by kernel_rfl) (by kernel_rfl) (by kernel_rfl) (qU λ_ _=>rfl))
  (cw X G (x:="parts_left") (m:="archrow.stretches") (st:=c_) (t:=187) (c:=30) (f:=31) (ps:=["i","k","j"]) (by kernel_rfl) (by kernel_rfl) (by kernel_rfl) (by kernel_rfl) (F8 λ_ _ _=>rfl))
  (cw X G (x:="_law_cell_at") (m:="law_archrow_k20_sets_counted") (st:=cO) (t:=259) (c:=73) (f:=74) (ps:=["script","k"]) (by kernel_rfl) (by kernel_rfl) (by kernel_rfl) (by kernel_rfl) (qU λ_ _=>rfl))
  (cw X G (x:="_law_deck") (m:="law_archrow_k20_sets_counted") (st:=du) (t:=259) (c:=80) (f:=81) (ps:=["cell"]) (by kernel_rfl) (by kernel_rfl) (by kernel_rfl) (by kernel_rfl) (lx λ_=>rfl))
  (cw X G (x:="_law_take") (m:="law_archrow_k20_sets_counted") (st:=dq) (t:=259) (c:=87) (f:=88) (ps:=["deck","many"]) (by kernel_rfl) (by kernel_rfl) (by kernel_rfl) (by kernel_rfl) (qU λ_ _=>rfl))
  (cw X G (x:="_law_row") (m:="law_archrow_k20_sets_counted") (st:=fZ) (t:=259) (c:=94) (f:=95) (ps:=["deck","most"]) (by kernel_rfl) (by kernel_rfl) (by kernel_rfl) (by kernel_rfl) (qU λ_ _=>rfl))⟩
end gZ
abbrev PySem.W.Fast.tw8541760134037966266:PySem.Program:=PySem.Challenge.pw_archrow_k20_sets_counted
theorem PySem.W.Fast.te8541760134037966266:PySem.Challenge.pw_archrow_k20_sets_counted=PySem.W.Fast.tw8541760134037966266:=rfl
open PySem PySem.W PyProof.Rows
set_option maxRecDepth 100000 in
set_option maxHeartbeats 0 in
theorem PySem.Challenge.cw_archrow_k20_sets_counted_holds : PySem.Challenge.rw_archrow_k20_sets_counted.Holds := by
 w_on;o_law
 refine holds_open (q:=gZ.view) (loose:=[]) (Xt:=λs=>xlAt gZ.view [] s&&recOk (RowW.records PySem.Challenge.rw_archrow_k20_sets_counted.row.toRowW) s) (XP:=XL gZ.view []) (Yf:=gZ.HK.obs) (Ya:=gZ.HK.val) (YP:=λw h=>(gZ.KK w.params).In h) (N:=1398) gZ.left gZ.HK.of gZ.HK.keeps (λs e=>xl_of s (VU.mp e).1) XL.keeps (by rfl) (by rfl) (by rfl) (λs e=>recFacts_of (VU.mp e).2) (by rfl) (by first|assumption|decide +kernel) (by decide +kernel) ⟨rfl,rfl,rfl,rfl,rfl,by decide +kernel⟩ ?hw ?hc
 (case hw=>w_witness2)
 case hc =>
  exact L2.Bk (l:=PySem.Challenge.rw_archrow_k20_sets_counted) (K:=gZ.KK) (n:=63) (k:=6) (x:="script") (CX:=λ_=>L2.cy) (sp:=λw=>gZ.yc (gZ.KK w.params)) rfl (by decide) rfl ⟨rfl,by decide,by decide⟩ (λw h Y=>Y) gZ.all_mk (λ_ _ a ns hl _ hS=>⟨a,ns,rfl,hS,hl,λ_=>rfl⟩) λ_ _ _ _ _ z=>z
#print axioms PySem.Challenge.cw_archrow_k20_sets_counted_holds
