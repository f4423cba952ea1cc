import PyProof.Rows.All
import Wide.All
import OpenK.AllK
import Wide.FinOn
import OpenK.KLine
import Lean
import PyProof.EqAt
import PyProof.EqKinds
import PyProof.TupleCall
import PyProof.Rows.SortShell
import PyProof.Rows.SortWalk
import PyProof.CompFree
import PyProof.Rows.SortRuns
import PyProof.EqLayable
import PyProof.NeData
import PyProof.P3In
import PyProof.ZipIter
import PyProof.EnumMake
import PyProof.EnumFor
import PyProof.Rows.Range3
import PyProof.AttrMissSeq
import KE.KDictOf
import KE.KTryMore
import PyProof.NsDelKeeps
import PyProof.ExcBaseAll.ValueError
import PyProof.Rows.SeqMore
import PyProof.ConsumeWalk
import PyProof.Rows.SeqMore2
import PyProof.Rows.CountFlat
import KE.IntBitsLaws
import PySem.Challenge.RW_archrow_k23_great_sets_by_their_numbers
set_option Elab.async false
set_option linter.all false
set_option maxRecDepth 100000
set_option maxHeartbeats 4000000
set_option compiler.extract_closed false
open PySem renaming Value->Yc,wpAny_bind->Yd,Shared->Yg,Program->Yk,wpAny_pure->Ym,sizeLine->Yy,World->YB,starEach->YG,wpAny->YM,wpAny_loadPart'->YT,FuncData->YY,compareOp->Y7,Around->Zc,foldedSetIterable->Zo,hashInt->Zs,sizeLine_eq->Zv,bootBuiltins->ZA,wpAny_call_entry->ZX,wpAny_holding->Z0,mainGlobals->Z2,binaryOp->Z5,sysModules->Z8,Builtin->Z_,swapsWith->aaa,wpAny_truthy_bool->aab,wpAny_newObj_type->aac,wpAny_typeNameOfWhole_keyiter->aaj,assignEach->aal,wpAny_passesOwn->aam,cLine->aan,behindInMarks->aao,backTo->aav,wpAny_typeNameOf_keyiter->aaL,wpAny_standAt->aaM,Comprehension->aaR,codeAny_builtin->aaS,wpAny_rule->aaV,wpAny_callSpecial?_slot->aaY,richCompare_meets_room->aa2,codeAny_mono->aa4,Scope->aa7,CmpOp->aa8,DictEntry->abb,sliceBounds->abe,NameKind->abg,wpAny_mono->abl,pyNext->abm,wpAny_setState_of->abv,intKind->abw,codeAny->abx,wpAny_attempt->abC,attributeBase->abD,wpAny_askSetting->abK
open List renaming length_map->Ye,mem_cons->Yi,getElem?_eq_getElem->Yj,mem_cons_of_mem->Yn,mem_cons_self->Yo,getElem?_eq_some_iff->Yr,mem_singleton->Ys,getElem?_map->Yu,length_cons->Yw,map_cons->YA,range->YF,size_toArray->YJ,mem_map->YK,mem_append->YL,map_append->YN,replicate->YO,length_take->YQ,length_append->YR,nodup_cons->YV,mem_of_getElem?->YW,mem_append_right->Y4,drop_eq_getElem_cons->Y5,map_map->Y8,mem_filter->Y9,pairwise_cons->Za,getElem?_append_right->Zd,take_add_one->Zf,mem_range->Zh,append_assoc->Zj,getElem?_eq_none->Zk,take_append_drop->Zm,filterMap_cons->Zn,nodup_append->Zq,length_range->Zr,zip_cons_cons->Zt,map_congr_left->Zw,length_filter_le->Zz,pairwise_map->ZD,nodup_nil->ZF,length_nil->ZI,take_length->ZL,lookup_cons->ZM,drop_of_length_le->ZN,getElem?_append_left->ZO,mem_append_left->ZR,take_of_length_le->ZS,getD_eq_getElem?_getD->ZT,replicate_succ->ZU,find?_cons->ZV,append_nil->ZW,not_mem_nil->ZY,getElem_mem->ZZ,getElem?_range->Z6,filter_append->Z9,reverse_reverse->aad,ext_getElem?->aae,mem_map_of_mem->aah,all_eq_true->aai,length_singleton->aap,zip_nil_left->aar,take_sublist->aas,flatten_cons->aat,pairwise_append->aaA,mem_of_getLast?->aaB,length_drop->aaH,pairwise_iff_getElem->aaI,sum_cons->aaP,getElem?_take_of_lt->aaQ,range_succ->aaT,foldl_cons->aaU,getElem?_cons_succ->aa0,filter_cons->aba,map_take->abd,map_nil->abk,zip_nil_right->abo,mem_filterMap->abp,getElem?_drop->abq,findSome?_eq_none_iff->abr,extract_eq_take_drop->abt,getElem?_set->abz,perm_middle->abL,pairwise_singleton->abM,getLast?_cons_cons->abN,drop_length->abO,cons_append->abP
open Nat renaming le_refl->Yh,zero_le->Yz,le_trans->YI,ne_of_lt->YZ,lt_of_lt_of_le->Y2,zero_add->ZC,lt_or_ge->ZK,one_mul->aay,mul_le_mul->aaz,sub_self->aaG,lt_of_le_of_lt->aaW,lt_succ_self->aa_,lt_irrefl->abc,pow_le_pow_right->abf,min_le_left->abh,mod_lt->abn,lt_succ_of_lt->aby
open PyProof.Rows renaming Keyed->Yl,wpS_bind->Yq,wpS_pure->Yx,pendingOf->YH,SortSt->YS,arrOf->YX,IntsAre->Zg,wpS_forRange->Zl,setArr->Zx,wpS_mono->Z1,callWith_type1->Z7,seqObj->aak,wpS_modify->aau,SortKind->aaN,failedOf->aa3,setPending->aa9,wpS_get->abu
open Array renaming length_toList->Yp,getElem?_toList->YD,getD_eq_getD_getElem?->YE,getElem?_eq_none->Zu,toList_append->ZP,toList_push->Z4,perm_iff_toList_perm->aaD,size_setIfInBounds->abJ
open Option renaming map_eq_some_iff->Yt,bind_eq_some_iff->Y6,bind_some->ZJ,isSome_iff_exists->abF
open PySem.Heap renaming get?_push_of_some->Yv,lt_size->YC,get?_push_size->Y0,SameBut->aaf
open Option.some renaming inj->YU
open Decidable renaming by_contra->Y1
open PySem.PassesOwn renaming never->Y3
open PySem.SeqAt renaming canLay_of_shaped->Y_
open PySem.NameKind renaming free->Zb,cell->aaO
open Bool renaming and_eq_true_iff->Ze,and_eq_true->Zi,false_ne_true->ZG,and_false->Z3,eq_false_iff->aag,false_eq_true->aaX,not_eq_true'->abB
open PySem.PyData renaming eqv->Zy,depthAll->ZH,canLay0->ZQ,canLayAll0->aaq,depth->aa5,eqvAll->abE
open Int renaming toNat_natCast->ZE,toNat_of_nonneg->abi,eq_ofNat_of_zero_le->abQ
open PySem.Value renaming isInt->aaw
open PySem.Obj renaming mapSeq->aax
open False renaming elim->aaC
open PySem.Around renaming under_plainId->aaE
open Ne renaming symm->aaF
open Classical renaming byContradiction->aaJ
open PySem.Heap.SameBut renaming update->aaK
open PySem.W renaming boot_heap->aaZ
open PySem.Builtin.Range renaming rangeSize->aa1
open PySem.Builtin.Tuple renaming tupleCompareSizes->aa6
open Nat.succ renaming inj->abj
open List.Pairwise renaming nil->abA
open PySem.Code renaming compLoop->abG
open PySem.Builtin.List renaming listTooLong->abH
open PySem.AutoSeq1 renaming sub_tuple_tuple->abI
noncomputable section
namespace L2
open PySem PySem.Spec PyProof.Rows
def mn (s:Stmt):Arguments:=match s with
 |.FunctionDef _ a _ _ _ _ _ _ _ _=>a
 |_=>{posonlyargs:=[],args:=[],vararg:=none,kwonlyargs:=[],kw_defaults:=[],kwarg:=none,defaults:=[]}
def fe (s:Stmt):List Stmt:=match s with
 |.FunctionDef _ _ b _ _ _ _ _ _ _=>b
 |_=>[]
def ar (s:Stmt):aa7:=match s with
 |.FunctionDef _ _ _ _ _ _ sc _ _ _=>sc
 |_=>{kind:=.function,names:=[],isGenerator:=false,isCoroutine:=false}
end L2
namespace L2.Hd
open PySem PySem.W PySem.Spec PyProof.Rows
def jj (tb:String->Option Z_)(p:Yk)(w:YB)(n₀:Nat)(ann:Option Yc):Nat->SharedT->Thread->Option SharedT
 |0,_,_=>none
 |n+1,s,t=>match through t with
  |true=>some s
  |false=>match stepOk n₀ ann t with
   |false=>none
   |true=>match stepT (denote tb) p w s t with
    |some (s',t')=>jj tb p w n₀ ann n s' t'
    |none=>none
theorem mK {tb:String->Option Z_}{p:Yk}{w:YB}{n₀:Nat}{ann:Option Yc}:∀{n:Nat} {s s':SharedT} {t:Thread},jj tb p w n₀ ann n s t=some s'->topRun tb p w n₀ ann n s.abs t=some s'.abs
 |0,_,_,_,g=>by cases g
 |n+1,s,s',t,g=>by
  unfold jj at g;unfold topRun;cases ht:through t with
  |true=>rw[ht]at g;cases g;rfl
  |false =>
   rw[ht]at g;cases hk:stepOk n₀ ann t with
   |false=>rw[hk]at g;cases g
   |true =>
    rw[hk]at g;cases hq:stepT (denote tb) p w s t with
    |none=>rw[hq]at g;cases g
    |some r=>obtain⟨s₂,t₂⟩:=r;rw[hq]at g;dsimp only;rw[stepT_spec hq];exact mK g
noncomputable def OK (P:Params):BT:=((aaZ P).objs.toList.foldl (λ(x:BT×Nat) o=>(x.1.ins x.2 o,x.2+1)) (.nil,0)).1
noncomputable def DA (w:YB)(os:OsState):SharedT:=⟨OK w.params,11,(aaZ w.params).life,Array.mk [],boot_drawn,boot_toks,os⟩
theorem boot_abs (w:YB)(os:OsState):(DA w os).abs=⟨aaZ w.params,Array.mk [],boot_drawn,boot_toks,os⟩:=by kernel_rfl
theorem Gi (P:Params):((aaZ P).isNs Z2&&((Array.mk []:Array GenState).size==0))=true:=by kernel_rfl
theorem Ak (P:Params):(aaZ P).objs.size=11:=by kernel_rfl
theorem Dz (P:Params):(aaZ P).nsMap Z2 "__annotations__" = some (.ref 6):=by kernel_rfl
def ends (p:Yk)(h0:Heap)(s₁:Yg):Option Yg:=match staticsOk (importedModules p.main.body) h0 s₁.heap&&namesBound p s₁.heap&&gensDone s₁&&laidKept h0 s₁.heap with
 |true=>some s₁
 |false=>none
theorem zI {p q:Yk}{loose:List Str}{Xt:Yg->Bool}{α:Type}{Yf:Yg->α}{Ya:YB->α}{N:Nat}{g0:Bool}
  (g1:opening p=plainProg p.main.scope.names) (g2:Nat.ble 600 N=true) (g3:∀s,fenceModules? p s=some s)
  (g4:∀(w:YB) (os:OsState),((jj treeTable p w 11 (some (.ref 6)) N (DA w os) (topStub p)).bind λs₁=>ends p (aaZ w.params) s₁.abs).map (λs=>(openSeen q loose (importedModules p.main.body) Xt g0 s,Yf s))=some (openGood q loose,Ya w)) :
  LeftO p q loose Xt Yf Ya N g0:=λw=>by
 obtain⟨⟨hp,gs,dr,tk,os⟩,e,v⟩:=Yt.mp (boot_open (N:=N) g1 g2 g3 w);obtain⟨v1,v⟩:=Prod.mk.inj v;obtain⟨v2,v⟩:=Prod.mk.inj v;obtain⟨v3,v4⟩:=Prod.mk.inj v;dsimp only at v1 v2 v3 v4;subst v1 v2 v3 v4;have g:=g4 w os;unfold openEnds;rw[e];show (topFrom treeTable p w N _).map _=_;have t:topFrom treeTable p w N ⟨aaZ w.params,Array.mk [],boot_drawn,boot_toks,os⟩=(topRun treeTable p w 11 (some (.ref 6)) N ⟨aaZ w.params,Array.mk [],boot_drawn,boot_toks,os⟩ (topStub p)).bind (ends p (aaZ w.params)):=by
  unfold topFrom;rw[Gi];dsimp only;rw[Ak,Dz];rfl
 rw[t];cases hT:jj treeTable p w 11 (some (.ref 6)) N (DA w os) (topStub p)with
 |none=>rw[hT]at g;cases g
 |some s₁ =>
  have r:=mK hT;rw[boot_abs]at r;rw[hT]at g;rw[r];exact g
end L2.Hd
namespace lN
open PySem L2
def top (i:Nat):Stmt:=PySem.Challenge.pw_archrow_k23_great_sets_by_their_numbers.main.body.getD i (.Pass ⟨0,0,0,0⟩)
abbrev dZ:Stmt:=top 5
abbrev jw:Stmt:=top 6
abbrev de:Stmt:=top 7
abbrev fQ:Stmt:=top 8
abbrev cv:Stmt:=top 9
abbrev eY:Stmt:=top 10
abbrev bJ:Stmt:=top 12
abbrev da:Stmt:=top 13
abbrev dU:Stmt:=top 14
abbrev g7:Stmt:=top 15
abbrev g8:Stmt:=top 16
abbrev dY:Stmt:=top 18
abbrev dQ:Stmt:=top 19
abbrev ju:Stmt:=top 20
abbrev fN:Stmt:=top 21
abbrev b4:Stmt:=top 22
abbrev eX:Stmt:=top 23
abbrev bZ:Stmt:=top 24
abbrev cu:Stmt:=top 25
abbrev eU:Stmt:=top 26
abbrev dc:Stmt:=top 28
abbrev ee:Stmt:=top 29
abbrev d_:Stmt:=top 30
abbrev g9:Stmt:=top 31
abbrev fP:Stmt:=top 32
abbrev cM:Stmt:=top 33
abbrev fO:Stmt:=top 34
abbrev iN:Stmt:=top 35
abbrev eV:Stmt:=top 36
abbrev dW:Stmt:=top 37
abbrev eW:Stmt:=top 38
abbrev cw:Stmt:=top 39
abbrev mW:Stmt:=top 40
abbrev vS (x:Str)(t:Nat):Yc:=.str x t
abbrev kE (P:Params)(x:Str)(t:Nat)(v:Yc):abb:=⟨PyData.keyHash P x,.str x t,v⟩
abbrev kC (n:Str)(t l p r8 VQ Vo:Nat)(UY UX UW:Yc)(Vn VP U8:Nat):Obj:={cls:=.type "code",data:=.fields #[vS n t,vS n (t+1),vS "/claim/cut.py" (t+2),.int l 0,.int p 0,.int 0 0,.int 0 0,.int 3 0,.ref r8,.bool true,.int VQ 0,.ref Vo,UY,UX,UW,.ref Vn,.int VP 0,.int l 0,vS "/claim/cut.py" U8]}
abbrev Pm (st:Stmt)(x m:Str)(t c:Nat):YY:=PySem.W.fnOf x x (mn st) (fe st) (ar st) .none .none .none (vS m t) none (.ref c) .none
abbrev kF (st:Stmt)(x m:Str)(t c:Nat):Obj:={cls:=.type "function",data:=.func (Pm st x m t c)}
def KK:Params->PySem.W.Frag:=λP=>[(3,{cls:=.type "dict",data:=.dict #[kE P "__name__" 165 (vS "law_archrow_k23_great_sets_by_their_numbers" 416),kE P "__doc__" 166 .none,kE P "__package__" 167 .none,kE P "__loader__" 168 (.builtin "__main__.__loader__#opaque"),kE P "__spec__" 169 .none,kE P "__annotations__" 170 (.ref 6),kE P "__builtins__" 171 (.ref 4),kE P "__file__" 173 (vS "/claim/cut.py" 172),kE P "__cached__" 174 .none,kE P "ArchError" 206 (.ref 24),kE P "NoNumber" 222 (.ref 37),kE P "NoSet" 238 (.ref 49),kE P "arcs_cross" 252 (.ref 58),kE P "is_set" 260 (.ref 65),kE P "first_fault" 270 (.ref 72),kE P "fault_at" 280 (.ref 79),kE P "share_a_point" 288 (.ref 86),kE P "check_set" 296 (.ref 93),kE P "stretches_rising" 304 (.ref 98),kE P "partners_of" 310 (.ref 103),kE P "parts_left" 319 (.ref 110),kE P "ways_in" 330 (.ref 117),kE P "ways_by" 336 (.ref 122),kE P "count_sets" 345 (.ref 129),kE P "set_number" 351 (.ref 134),kE P "set_at" 366 (.ref 141),kE P "next_set" 372 (.ref 146),kE P "how_many_begin" 380 (.ref 153),kE P "counts_of" 386 (.ref 158),kE P "waiting_behind" 399 (.ref 165),kE P "waiting_after" 409 (.ref 172),kE P "ties_next" 415 (.ref 177),kE P "_law_cell_at" 425 (.ref 184),kE P "_law_deck" 432 (.ref 191),kE P "_law_take" 442 (.ref 198),kE P "_law_row" 458 (.ref 205),kE P "_law_copied" 465 (.ref 212),kE P "_law_do_cross" 473 (.ref 219),kE P "_law_fits" 482 (.ref 226),kE P "_law_sets" 488 (.ref 231),kE P "_law_table" 494 (.ref 236),kE P "_law_behind" 500 (.ref 241),kE P "_law_ahead" 513 (.ref 248),kE P "_law_one_right" 528 (.ref 255),kE P "law" 542 (.ref 262)] 45}),
 (57,kC "arcs_cross" 241 9 2 52 181 53 .none (.ref 54) (.ref 55) 56 250 251),
 (58,kF dZ "arcs_cross" "archrow.arcs" 239 57),
 (64,kC "is_set" 253 13 2 59 181 60 .none (.ref 61) (.ref 62) 63 258 259),
 (65,kF jw "is_set" "archrow.arcs" 239 64),
 (71,kC "first_fault" 261 15 2 66 181 67 .none (.ref 68) (.ref 69) 70 268 269),
 (72,kF de "first_fault" "archrow.arcs" 239 71),
 (78,kC "fault_at" 271 21 3 73 181 74 .none (.ref 75) (.ref 76) 77 278 279),
 (79,kF fQ "fault_at" "archrow.arcs" 239 78),
 (85,kC "share_a_point" 281 33 2 80 181 81 .none (.ref 82) (.ref 83) 84 286 287),
 (86,kF cv "share_a_point" "archrow.arcs" 239 85),
 (92,kC "check_set" 289 35 2 87 181 88 .none (.ref 89) (.ref 90) 91 294 295),
 (93,kF eY "check_set" "archrow.arcs" 239 92),
 (97,kC "stretches_rising" 299 39 1 94 181 95 .none .none .none 96 302 303),
 (98,kF bJ "stretches_rising" "archrow.stretches" 297 97),
 (102,kC "partners_of" 305 41 1 99 181 100 .none .none .none 101 308 309),
 (103,kF da "partners_of" "archrow.stretches" 297 102),
 (109,kC "parts_left" 311 47 3 104 181 105 .none (.ref 106) (.ref 107) 108 317 318),
 (110,kF dU "parts_left" "archrow.stretches" 297 109),
 (116,kC "ways_in" 320 51 2 111 181 112 .none (.ref 113) (.ref 114) 115 328 329),
 (117,kF g7 "ways_in" "archrow.stretches" 297 116),
 (121,kC "ways_by" 331 56 4 118 181 119 .none .none .none 120 334 335),
 (122,kF g8 "ways_by" "archrow.stretches" 297 121),
 (128,kC "count_sets" 339 59 1 123 181 124 .none (.ref 125) (.ref 126) 127 343 344),
 (129,kF dY "count_sets" "archrow.counted" 337 128),
 (133,kC "set_number" 346 61 2 130 181 131 .none .none .none 132 349 350),
 (134,kF dQ "set_number" "archrow.counted" 337 133),
 (140,kC "set_at" 352 71 2 135 181 136 .none (.ref 137) (.ref 138) 139 364 365),
 (141,kF ju "set_at" "archrow.counted" 337 140),
 (145,kC "next_set" 367 89 2 142 181 143 .none .none .none 144 370 371),
 (146,kF fN "next_set" "archrow.counted" 337 145),
 (152,kC "how_many_begin" 373 99 2 147 181 148 .none (.ref 149) (.ref 150) 151 378 379),
 (153,kF b4 "how_many_begin" "archrow.counted" 337 152),
 (157,kC "counts_of" 381 102 1 154 181 155 .none .none .none 156 384 385),
 (158,kF eX "counts_of" "archrow.counted" 337 157),
 (164,kC "waiting_behind" 387 110 2 159 181 160 .none (.ref 161) (.ref 162) 163 397 398),
 (165,kF bZ "waiting_behind" "archrow.counted" 337 164),
 (171,kC "waiting_after" 400 116 2 166 181 167 .none (.ref 168) (.ref 169) 170 407 408),
 (172,kF cu "waiting_after" "archrow.counted" 337 171),
 (176,kC "ties_next" 410 121 2 173 181 174 .none .none .none 175 413 414),
 (177,kF eU "ties_next" "archrow.counted" 337 176),
 (183,kC "_law_cell_at" 418 124 2 178 181 179 .none (.ref 180) (.ref 181) 182 423 424),
 (184,kF dc "_law_cell_at" "law_archrow_k23_great_sets_by_their_numbers" 416 183),
 (190,kC "_law_deck" 426 128 1 185 181 186 .none (.ref 187) (.ref 188) 189 430 431),
 (191,kF ee "_law_deck" "law_archrow_k23_great_sets_by_their_numbers" 416 190),
 (197,kC "_law_take" 433 130 2 192 181 193 .none (.ref 194) (.ref 195) 196 440 441),
 (198,kF d_ "_law_take" "law_archrow_k23_great_sets_by_their_numbers" 416 197),
 (204,kC "_law_row" 443 139 2 199 181 200 .none (.ref 201) (.ref 202) 203 456 457),
 (205,kF g9 "_law_row" "law_archrow_k23_great_sets_by_their_numbers" 416 204),
 (211,kC "_law_copied" 459 158 1 206 181 207 .none (.ref 208) (.ref 209) 210 463 464),
 (212,kF fP "_law_copied" "law_archrow_k23_great_sets_by_their_numbers" 416 211),
 (218,kC "_law_do_cross" 466 160 2 213 181 214 .none (.ref 215) (.ref 216) 217 471 472),
 (219,kF cM "_law_do_cross" "law_archrow_k23_great_sets_by_their_numbers" 416 218),
 (225,kC "_law_fits" 474 162 2 220 181 221 .none (.ref 222) (.ref 223) 224 480 481),
 (226,kF fO "_law_fits" "law_archrow_k23_great_sets_by_their_numbers" 416 225),
 (230,kC "_law_sets" 483 167 1 227 181 228 .none .none .none 229 486 487),
 (231,kF iN "_law_sets" "law_archrow_k23_great_sets_by_their_numbers" 416 230),
 (235,kC "_law_table" 489 176 1 232 181 233 .none .none .none 234 492 493),
 (236,kF eV "_law_table" "law_archrow_k23_great_sets_by_their_numbers" 416 235),
 (240,kC "_law_behind" 495 189 3 237 181 238 .none .none .none 239 498 499),
 (241,kF dW "_law_behind" "law_archrow_k23_great_sets_by_their_numbers" 416 240),
 (247,kC "_law_ahead" 501 198 3 242 181 243 .none (.ref 244) (.ref 245) 246 511 512),
 (248,kF eW "_law_ahead" "law_archrow_k23_great_sets_by_their_numbers" 416 247),
 (254,kC "_law_one_right" 514 206 4 249 181 250 .none (.ref 251) (.ref 252) 253 526 527),
 (255,kF cw "_law_one_right" "law_archrow_k23_great_sets_by_their_numbers" 416 254),
 (261,kC "law" 529 223 1 256 181 257 .none (.ref 258) (.ref 259) 260 540 541),
 (262,kF mW "law" "law_archrow_k23_great_sets_by_their_numbers" 416 261)]
abbrev HK:PySem.W.Hook:=PySem.W.kHook KK [3,57,58,64,65,71,72,78,79,85,86,92,93,97,98,102,103,109,110,116,117,121,122,128,129,133,134,140,141,145,146,152,153,157,158,164,165,171,172,176,177,183,184,190,191,197,198,204,205,211,212,218,219,225,226,230,231,235,236,240,241,247,248,254,255,261,262] (λ_=>by kernel_rfl)
def view:Yk:={PySem.Challenge.pw_archrow_k23_great_sets_by_their_numbers with main:={PySem.Challenge.pw_archrow_k23_great_sets_by_their_numbers.main with body:=[top 1,top 2,top 3,top 5,top 6,top 7,top 8,top 9,top 10,top 12,top 13,top 14,top 15,top 16,top 18,top 19,top 20,top 21,top 22,top 23,top 24,top 25,top 26,top 28,top 29,top 30,top 31,top 32,top 33,top 34,top 35,top 36,top 37,top 38,top 39,top 40]}}
theorem left:PySem.W.LeftO PySem.Challenge.pw_archrow_k23_great_sets_by_their_numbers view [] (λs=>PySem.W.xlAt view [] s&&PySem.W.recOk (PySem.W.RowW.records PySem.Challenge.rw_archrow_k23_great_sets_by_their_numbers.row.toRowW) s) HK.obs HK.val 3444:=L2.Hd.zI (by kernel_rfl) (by kernel_rfl) (λ_=>rfl) (λw os=>by kernel_rfl)
end lN
namespace L2
open PySem PySem.Spec PyProof.Rows
abbrev Key:=Sum Int Str
def qm:Key->Yc->Bool
 |.inl k,v=>aaw k v
 |.inr x,v=>Value.isStrOf x v
def Q5 (w:YB):Key->Int
 |.inl k=>Zs k
 |.inr x=>hashStr w x
theorem bu:∀{k:Key} {v:Yc},qm k v=true->(∃i t,k=Sum.inl i/\v=Value.int i t)\/(∃x t,k=Sum.inr x/\v=Value.str x t)
 |.inl i,v,h=>by
  obtain⟨t,e⟩:=Value.isInt_shape (k:=i) (v:=v) h;exact .inl ⟨i,t,rfl,e⟩
 |.inr x,v,h=>by
  obtain⟨t,e⟩:=Value.isStrOf_shape (x:=x) (v:=v) h;exact .inr ⟨x,t,rfl,e⟩
theorem zM (i:Int)(t:Tok):qm (.inl i) (.int i t)=true:=by simp[qm,aaw]
theorem zL (x:Str)(t:Tok):qm (.inr x) (.str x t)=true:=by simp[qm,Value.isStrOf]
theorem Jy (a b:Int):decide ((Sum.inl a:Key)=Sum.inl b)=(a==b):=by
 by_cases e:a=b
 ·subst e;simp
 ·have h:¬ (Sum.inl a:Key)=Sum.inl b:=λq=>e (Sum.inl.inj q);rw[decide_eq_false h];exact(beq_eq_false_iff_ne.mpr e).symm
theorem Jv (a b:Str):decide ((Sum.inr a:Key)=Sum.inr b)=decide (a=b):=by
 by_cases e:a=b
 ·subst e;simp
 ·have h:¬ (Sum.inr a:Key)=Sum.inr b:=λq=>e (Sum.inr.inj q);rw[decide_eq_false h,decide_eq_false e]
theorem Jx (a:Int)(b:Str):decide ((Sum.inl a:Key)=Sum.inr b)=false:=decide_eq_false (λq=>nomatch q)
theorem Jw (a:Str)(b:Int):decide ((Sum.inr a:Key)=Sum.inl b)=false:=decide_eq_false (λq=>nomatch q)
def bR (prog:Yk)(w:YB):PySem.KeyKind prog w Key where
 is:=qm
 hash:=Q5 w
 inj:=λv a b ha hb=>by
  rcases bu ha with⟨i,t,rfl,rfl⟩|⟨x,t,rfl,rfl⟩
  ·rcases bu hb with⟨j,u,rfl,e⟩|⟨y,u,rfl,e⟩
   ·injection e with e1 _;rw[e1]
   ·exact nomatch e
  ·rcases bu hb with⟨j,u,rfl,e⟩|⟨y,u,rfl,e⟩
   ·exact nomatch e
   ·injection e with e1 _;rw[e1]
 byValue:=λk v h=>by
  rcases bu h with⟨i,t,rfl,rfl⟩|⟨x,t,rfl,rfl⟩ <;> rfl
 pyHash:=λhv h=>by
  rcases bu hv with⟨i,t,rfl,rfl⟩|⟨x,t,rfl,rfl⟩
  ·exact wpAny_pyHash_int h
  ·exact wpAny_pyHash_str h
 eqBool:=λhu hv h=>by
  rcases bu hu with⟨i,t,rfl,rfl⟩|⟨x,t,rfl,rfl⟩
  ·rcases bu hv with⟨j,u,rfl,rfl⟩|⟨y,u,rfl,rfl⟩
   ·rw[Jy]at h;exact wpAny_eqBool_int h
   ·rw[Jx]at h;exact SeqAt.EqAt.int_str i t y u _ _ _ _ h
  ·rcases bu hv with⟨j,u,rfl,rfl⟩|⟨y,u,rfl,rfl⟩
   ·rw[Jw]at h;exact SeqAt.EqAt.str_int x t j u _ _ _ _ h
   ·rw[Jv]at h;exact wpAny_eqBool_str h
 «strs»:=λk x t v h=>by
  rcases bu h with⟨i,u,rfl,e⟩|⟨y,u,rfl,e⟩
  ·exact nomatch e
  ·injection e with e1 _
   subst e1;cases v <;> rfl
theorem ub (prog:Yk)(w:YB)(i:Int)(t:Tok):(bR prog w).is (.inl i) (.int i t)=true:=zM i t
theorem ua (prog:Yk)(w:YB)(x:Str)(t:Tok):(bR prog w).is (.inr x) (.str x t)=true:=zL x t
inductive V where
 |cX|bl (b:Bool)|int (i:Int)|str (x:Str)|OJ (b:Array UInt8)|SH (b:UInt64)|ref (a:Addr)|ty (n:String)
 deriving DecidableEq
def RelV:V->Yc->Prop
 |.cX,u=>u=Value.none
 |.bl b,u=>u=Value.bool b
 |.int i,u=>∃t,u=Value.int i t
 |.str x,u=>∃t,u=Value.str x t
 |.OJ b,u=>∃t,u=Value.bytes b t
 |.SH b,u=>∃t,u=Value.float b t
 |.ref a,u=>u=Value.ref a
 |.ty n,u=>u=Value.type n
abbrev Vals:List V->List Yc->Prop:=Paired RelV
theorem Vals.length {xs:List V}{us:List Yc}(r:Vals xs us):xs.length=us.length:=Paired.length r
theorem Vals.get:∀{xs:List V} {us:List Yc} {i:Nat} {x:V},Vals xs us->xs[i]?=some x->∃u,us[i]?=some u/\RelV x u
 |_,_,_,_,.nil,e=>by simp at e
 |_,_,0,_,.cons r _,e=>by simp at e;subst e;exact⟨_,rfl,r⟩
 |_,_,i+1,x,.cons _ t,e=>by
  obtain⟨u,h1,h2⟩:=Vals.get (i:=i) (x:=x) t (by simpa using e)
  exact⟨u,by simpa using h1,h2⟩
theorem Vals.set {x:V}{u:Yc}(r:RelV x u):∀{xs:List V} {us:List Yc} (i:Nat),Vals xs us->Vals (xs.set i x) (us.set i u)
 |_,_,_,.nil=>.nil
 |_,_,0,.cons _ t=>.cons r t
 |_,_,i+1,.cons q t=>.cons q (Vals.set r i t)
theorem Vals.append:∀{xs ys:List V} {us ws:List Yc},Vals xs us->Vals ys ws->Vals (xs++ys) (us++ws)
 |_,_,_,_,.nil,s=>s
 |_,_,_,_,.cons r t,s=>.cons r (Vals.append t s)
theorem Vals.take:∀{xs:List V} {us:List Yc} (n:Nat),Vals xs us->Vals (xs.take n) (us.take n)
 |_,_,0,_=>.nil
 |_,_,_+1,.nil=>.nil
 |_,_,n+1,.cons r t=>.cons r (Vals.take n t)
theorem Vals.drop:∀{xs:List V} {us:List Yc} (n:Nat),Vals xs us->Vals (xs.drop n) (us.drop n)
 |_,_,0,r=>r
 |_,_,_+1,.nil=>.nil
 |_,_,n+1,.cons _ t=>Vals.drop n t
theorem Vals.none_of:∀{xs:List V} {us:List Yc} {i:Nat},Vals xs us->xs[i]?=none->us[i]?=none:=λ{xs us i} r e=>by
 have h1:=r.length;have h2:xs.length<=i:=List.getElem?_eq_none_iff.mp e;exact List.getElem?_eq_none_iff.mpr (by lia)
def pM:Option V->Option Yc->Prop
 |some v,some u=>RelV v u
 |none,none=>True
 |_,_=>False
def KV {κ:Type}:List (κ×V)->List (κ×Yc)->Prop:=Paired λ(p:κ×V) (q:κ×Yc)=>p.1=q.1/\RelV p.2 q.2
def kV:Key->V
 |.inl i=>.int i
 |.inr x=>.str x
inductive HO where
 /-- a list -/
 |lst (xs:List V)
 /-- a tuple (never changes) -/
 |tup (xs:List V)
 /-- a dict whose keys are ints and texts;one whose keys are tuples of ints and texts (the empty one is both) -/
 |dK (kvs:List (Key×V))|dT (kvs:List (List Key×V))
 /-- a set of ints: its members,its size -/
 |set (S:Int->Bool) (n:Nat)
 /-- an instance of the class at C,its dict at dx,its attributes -/
 |ins (C dx:Addr) (fs:List (Str×V))
 /-- the dict of the instance at x -/
 |own (x:Addr)
 /-- the dict of an exception -/
 |xd (fs:List (Str×V))
 /-- a bound method,f of x -/
 |met (f x:Addr)
 /-- a range object lo,lo+1,.. below hi -/
 |Qx (lo hi:Int)
 /-- a Lq that is known to the object (the Qv;a dict while a loop walks it): read,never written while it is so -/
 |DS (o:Obj) (u:HO)
 /-- a code Mb table -/
 |HU (ps:Array Yc)
 /-- any other Lq,by what is true of its one object (a def of L_ own: OP a S n:=HO.ext λh=>..) -/
 |ext (φ:Heap->Prop)
abbrev Hp:=Addr->Option HO
def upd (H:Hp)(a:Addr)(o:HO):Hp:=λb=>if b=a then some o else H b
theorem az {H:Hp}{a:Addr}{o:HO}:upd H a o a=some o:=by unfold upd;rw[if_pos rfl]
theorem aw {H:Hp}{a b:Addr}{o:HO}(h:b≠a):upd H a o b=H b:=by unfold upd;rw[if_neg h]
theorem GN {H:Hp}{a b:Addr}{o u:HO}(h:H a=some o)(h':H b=some u)(d:o≠u):a≠b:=by
 intro e;subst e;rw[h]at h';exact d (YU h')
theorem cE {H:Hp}{a b:Addr}{o:HO}(h:H a=some o)(h':H b=none):a≠b:=by
 intro e;subst e;rw[h]at h';cases h'
section
variable (P:Yk)(w:YB)
def bW (H:Hp)(h:Heap)(a:Addr):HO->Prop
 |.lst xs=>xs.length<=Yy/\∃(its:List Yc) (n:Nat),Vals xs its/\h.get? a=some {cls:=.type "list",data:=.seq its.toArray n}
 |.tup xs=>xs.length<=Yy/\∃its:List Yc,Vals xs its/\IsTup h a its.toArray
 |.dK kvs=>kvs.length<=Yy/\(a==Z8)=false/\∃vs,KV kvs vs/\h.DictOf (bR P w) a vs
 |.dT kvs=>kvs.length<=Yy/\(a==Z8)=false/\∃xs:List (List Key×Addr×Yc),
   Paired (λ(p:List Key×V) (q:List Key×Addr×Yc)=>p.1=q.1/\H q.2.1=some (.tup (p.1.map kV))/\RelV p.2 q.2.2) kvs xs /\
   ∃o es ep,h.get? a=some o/\o.ExactDict/\o.data=.dict es ep/\es.toList=xs.map (entryOfKey (tupleKind (bR P w)))/\(xs.map (·.1)).Nodup
 |.set S n=>h.SetOf (abw P w) a S n
 |.ins C dx fs=>H dx=some (.own a)/\fs.length<=1000/\dx≠a/\h.get? a=some (PySem.W.instObj C dx) /\
   ∃mA,h.Ns1 dx mA/\(∀f,pM (fs.lookup f) (mA f))/\PySem.Within mA (fs.map (·.1))
 |.own _=>∃o,h.get? a=some o
 |.xd fs=>∃mA,h.Ns1 a mA/\∀f,pM (fs.lookup f) (mA f)
 |.Qx lo hi=>∃t u v,h.get? a=some {cls:=.type "range",data:=.fields #[.int lo t,.int hi u,.int 1 v]}
 |.DS o u=>h.get? a=some o/\bW H h a u
 |.HU ps=>h.get? a=some {cls:=.none,data:=.fields ps}
 |.met f x=>h.get? a=some (PySem.W.methodObj (.ref f) (.ref x))
 |.ext φ=>φ h/\(∃o,h.get? a=some o)/\∀h1 h2:Heap,φ h1->(∀o,h1.get? a=some o->h2.get? a=some o)->φ h2
def i9 (H:Hp)(h:Heap):Prop:=∀a o,H a=some o->bW P w H h a o
end
section
variable {P:Yk}{w:YB}{H H':Hp}{h h':Heap}{a:Addr}{o:HO}
theorem bW.lt (x:bW P w H h a o):a<h.objs.size:=by
 cases o with
 |lst xs=>obtain⟨_,_,_,_,e⟩:=x;exact YC e
 |tup xs=>obtain⟨_,_,_,p⟩:=x;exact p.lt
 |dK kvs=>obtain⟨_,_,_,_,o,_,_,e,_⟩:=x;exact YC e
 |dT kvs=>obtain⟨_,_,_,_,o,_,_,e,_⟩:=x;exact YC e
 |set S n=>obtain⟨o,_,_,_,e,_⟩:=x;exact YC e
 |ins C dx fs=>obtain⟨_,_,_,e,_⟩:=x;exact YC e
 |own y=>obtain⟨_,e⟩:=x;exact YC e
 |xd fs=>obtain⟨_,⟨_,_,_,e,_⟩,_⟩:=x;exact YC e
 |Qx lo hi=>obtain⟨_,_,_,e⟩:=x;exact YC e
 |DS ob u=>obtain⟨e,_⟩:=x;exact YC e
 |HU ps=>exact YC (show h.get? a=some _ from x)
 |met f y=>exact YC (show h.get? a=some _ from x)
 |ext φ=>obtain⟨_,⟨_,e⟩,_⟩:=x;exact YC e
theorem Paired.Jm {α β:Type}{F G:α->β->Prop}:∀{l₁:List α} {l₂:List β},Paired F l₁ l₂->(∀a b,F a b->G a b)->Paired G l₁ l₂
 |_,_,.nil,_=>.nil
 |_,_,.cons r t,f=>.cons (f _ _ r) (Paired.Jm t f)
theorem bW.tx (x:bW P w H h a o)(k:∀b u,(b=a\/H b=some (.own a))->h.get? b=some u->h'.get? b=some u)
  (ho:∀b,H b=some (.own a)->H' b=some (.own a)) (ht:∀b xs,H b=some (.tup xs)->H' b=some (.tup xs)):bW P w H' h' a o:=by
 induction o with
 |lst xs=>obtain⟨z,its,n,r,e⟩:=x;exact⟨z,its,n,r,k _ _ (.inl rfl) e⟩
 |tup xs=>obtain⟨z,its,r,ob,e,c⟩:=x;exact⟨z,its,r,ob,k _ _ (.inl rfl) e,c⟩
 |dK kvs=>obtain⟨z,y,vs,r,ob,es,ep,e,c⟩:=x;exact⟨z,y,vs,r,ob,es,ep,k _ _ (.inl rfl) e,c⟩
 |dT kvs =>
  obtain⟨z,y,xs,r,ob,es,ep,e,c⟩:=x;exact⟨z,y,xs,Paired.Jm r λp q z=>⟨z.1,ht _ _ z.2.1,z.2.2⟩,ob,es,ep,k _ _ (.inl rfl) e,c⟩
 |set S n=>obtain⟨ob,es,ep,t,e,c⟩:=x;exact⟨ob,es,ep,t,k _ _ (.inl rfl) e,c⟩
 |ins C dx fs =>
  obtain⟨d,z,ne,e,mA,⟨od,es,ep,e2,c⟩,r⟩:=x;exact⟨ho _ d,z,ne,k _ _ (.inl rfl) e,mA,⟨od,es,ep,k _ _ (.inr d) e2,c⟩,r⟩
 |own y=>obtain⟨ob,e⟩:=x;exact⟨ob,k _ _ (.inl rfl) e⟩
 |xd fs=>obtain⟨mA,⟨od,es,ep,e,c⟩,r⟩:=x;exact⟨mA,⟨od,es,ep,k _ _ (.inl rfl) e,c⟩,r⟩
 |Qx lo hi=>obtain⟨t,u,v,e⟩:=x;exact⟨t,u,v,k _ _ (.inl rfl) e⟩
 |DS ob u ih=>obtain⟨e,q⟩:=x;exact⟨k _ _ (.inl rfl) e,ih q⟩
 |HU ps =>
  have e:h.get? a=some {cls:=.none,data:=.fields ps}:=x;show h'.get? a=some {cls:=.none,data:=.fields ps};exact k a _ (.inl rfl) e
 |met f y =>
  have e:h.get? a=some (PySem.W.methodObj (.ref f) (.ref y)):=x;show h'.get? a=some (PySem.W.methodObj (.ref f) (.ref y));exact k a _ (.inl rfl) e
 |ext φ=>obtain⟨p,⟨o,e⟩,st⟩:=x;exact⟨st _ _ p λo q=>k _ _ (.inl rfl) q,⟨o,k _ _ (.inl rfl) e⟩,st⟩
theorem i9.lt (x:i9 P w H h)(e:H a=some o):a<h.objs.size:=(x a o e).lt
theorem i9.fresh (x:i9 P w H h)(e:h.objs.size<=a):H a=none:=by
 cases q:H a with
 |none=>rfl
 |some u=>exact absurd (Y2 (x.lt q) e) (abc _)
theorem i9.kept (x:i9 P w H h)(k:∀b u,h.get? b=some u->h'.get? b=some u):i9 P w H h':=λa o e =>
 (x a o e).tx (λb u _ q=>k b u q) (λ_ q=>q) λ_ _ q=>q
theorem i9.laid (x:i9 P w H h)(k:∀b u,h.get? b=some u->h'.get? b=some u)(hp:h.objs.size<=a)(new:bW P w (upd H a o) h' a o):i9 P w (upd H a o) h':=λb u e=>by
 have hn:=x.fresh hp
 by_cases hb:b=a
 ·subst hb;rw[az]at e;cases e;exact new
 ·rw[aw hb]at e;exact(x b u e).tx (λc v _ q=>k c v q) (λc q=>by rw[aw (cE q hn)];exact q) λc xs q=>by rw[aw (cE q hn)];exact q
end
def Rd (H:Hp)(a:Addr)(u:HO):Prop:=H a=some u\/∃o,H a=some (.DS o u)
theorem Rd.ok {P:Yk}{w:YB}{H:Hp}{h:Heap}{a:Addr}{u:HO}(r:Rd H a u)(x:i9 P w H h):bW P w H h a u:=by
 rcases r with r|⟨o,r⟩
 ·exact x a u r
 ·obtain⟨_,q⟩:=x a _ r;exact q
def OX:Option HO->Prop
 |some (.lst _)=>True
 |some (.dK _)=>True
 |some (.dT _)=>True
 |some (.set _ _)=>True
 |some (.ins _ _ _)=>True
 |some (.ext _)=>True
 |_=>False
section
variable {P:Yk}{w:YB}{H:Hp}{h h':Heap}{x e:Addr}{o':HO}
theorem i9.write (ok:i9 P w H h)(mu:OX (H x))(he:e=x\/H e=some (.own x))(k:∀b u,b≠e->h.get? b=some u->h'.get? b=some u)(K8:∃u,h'.get? e=some u)
  (new:bW P w (upd H x o') h' x o'):i9 P w (upd H x o') h':=λb u q=>by
 have Mc:∀c y,H c=some (.own y)->c≠x:=λc y r z=>by subst z;rw[r]at mu;exact mu
 have QT:∀c xs,H c=some (.tup xs)->c≠x:=λc xs r z=>by subst z;rw[r]at mu;exact mu
 by_cases hb:b=x
 ·subst hb;rw[az]at q;cases q;exact new
 ·rw[aw hb]at q
  by_cases FK:b=e
  ·have q':H b=some (.own x):=by
    rcases he with z|z
    ·exact absurd (FK.trans z) hb
    ·rw[FK];exact z
   rw[q]at q';cases q';obtain⟨v,hv⟩:=K8;exact⟨v,by rw[FK];exact hv⟩
  ·refine(ok b u q).tx (λc v hc r=>k c v ?_ r) (λc r=>by rw[aw (Mc c b r)];exact r) λc xs r=>by rw[aw (QT c xs r)];exact r
   rcases hc with rfl|hc
   ·exact FK
   ·rintro rfl;rcases he with z|z
    ·exact Mc c b hc z
    ·rw[hc]at z;cases z;exact hb rfl
end
structure Un (fs ex:List Addr)(H H':Hp)(h h':Heap):Prop where
 keep:∀b o,h.get? b=some o->H b=none->b∉fs->b∉ex->h'.get? b=some o
 slot:∀b o,h.get? b=some o->H b=none->b∈fs->b∉ex->∃sl,h'.get? b=some {o with slots:=sl}
 free:∀b o,h.get? b=some o->H b=none->b∉ex->H' b=none
 there:∀b o,h.get? b=some o->b∉ex->∃o',h'.get? b=some o'
 q_:∀b xs,H b=some (.tup xs)->H' b=some (.tup xs)
 pA:∀b o u,H b=some (.DS o u)->H' b=some (.DS o u)
 rg:∀b ps,H b=some (.HU ps)->∃more,H' b=some (.HU (ps++more))
section
variable {fs ex:List Addr}{H H1:Hp}{h h1 h':Heap}{a x e:Addr}{o:HO}
theorem Un.any (u:Un fs ex H H1 h h1){b:Addr}{ob:Obj}(q:h.get? b=some ob)(n:H b=none)(hx:b∉ex):∃sl,h1.get? b=some {ob with slots:=sl}:=by
 by_cases hb:b∈fs
 ·exact u.slot b ob q n hb hx
 ·exact⟨ob.slots,u.keep b ob q n hb hx⟩
theorem Un.kept (k:∀b u,h.get? b=some u->h'.get? b=some u):Un fs ex H H h h' :=
 ⟨λb ob q _ _ _=>k b ob q,λb ob q _ _ _=>⟨ob.slots,k b ob q⟩,λ_ _ _ n _=>n,λb ob q _=>⟨ob,k b ob q⟩,λ_ _ q=>q,λ_ _ _ q=>q,λ_ ps q=>⟨#[],by rw[q];simp⟩⟩
theorem Un.refl:Un fs ex H H h h:=Un.kept λ_ _ q=>q
theorem Un.laid (k:∀b u,h.get? b=some u->h'.get? b=some u)(hp:h.objs.size<=a)(hn:H a=none):Un fs ex H (upd H a o) h h' where
 keep:=λb u q _ _ _=>k b u q
 slot:=λb u q _ _ _=>⟨u.slots,k b u q⟩
 free:=λb u q n _=>by rw[aw (YZ (Y2 (YC q) hp))];exact n
 there:=λb u q _=>⟨u,k b u q⟩
 q_:=λb xs q=>by rw[aw (cE q hn)];exact q
 pA:=λb u xs q=>by rw[aw (cE q hn)];exact q
 rg:=λb ps q=>⟨#[],by rw[aw (cE q hn),q];simp⟩
theorem Un.write (mu:OX (H x))(he:e=x\/H e=some (.own x))(k:∀b u,b≠e->h.get? b=some u->h'.get? b=some u)(K8:∃u,h'.get? e=some u):Un fs ex H (upd H x o) h h':=by
 have hx:∀b,H b=none->b≠x:=λb n z=>by subst z;rw[n]at mu;exact mu
 have hb:∀b,H b=none->b≠e:=λb n z=>by
  subst z;rcases he with r|r
  ·exact hx b n r
  ·rw[n]at r;cases r
 have hm:∀b u,H b=some u->¬ OX (some u)->b≠x:=λb u q nm z=>by subst z;rw[q]at mu;exact nm mu
 refine⟨λb u q n _ _=>k b u (hb b n) q,λb u q n _ _=>⟨u.slots,k b u (hb b n) q⟩,λb u q n _=>by rw[aw (hx b n)];exact n,λb u q _=>?_,
  λb xs q=>by rw[aw (hm b _ q λz=>z)];exact q,λb u xs q=>by rw[aw (hm b _ q λz=>z)];exact q,λb ps q=>⟨#[],by rw[aw (hm b _ q λz=>z),q];simp⟩⟩
 by_cases FK:b=e
 ·subst FK;exact K8
 ·exact⟨u,k b u FK q⟩
end
def O6 (h:Heap)(H:Hp):List Addr:=(YF h.objs.size).filter λa=>(H a).isSome
def su (h:Heap)(H:Hp):Heap:=PySem.W.hideAll h (O6 h H)
theorem zT (h:Heap)(H:Hp):(su h H).objs.size=h.objs.size:=PySem.W.hideAll_size _ _
theorem CQ {h:Heap}{H:Hp}{b:Addr}{o:Obj}(e:h.get? b=some o)(n:H b=none):(su h H).get? b=some o :=
 PySem.W.hideAll_get _ e λhm=>by
  have q:(H b).isSome=true:=(Y9.mp hm).2;rw[n]at q;simp at q
theorem E5 {h:Heap}{H:Hp}{b:Addr}{o:Obj}(e:(su h H).get? b=some o):h.get? b=some o/\H b=none:=by
 have e':h.get? b=some o:=PySem.W.of_hideAll (O6 h H) e;refine⟨e',?_⟩;cases q:H b with
 |none=>rfl
 |some x =>
  have hm:b∈O6 h H:=Y9.mpr ⟨Zh.mpr (YC e'),by simp[q]⟩
  have z:(su h H).get? b=none:=PySem.W.hideAll_none (O6 h H) hm;rw[z]at e;cases e
structure Mod (K:PySem.W.Frag)(mg:Str->Option Yc)(base:Heap):Prop where
 Q4:K.In base
 glob:base.Ns Z2 mg
 blt:∃mb,base.Ns builtinsNs mb/\∀x:Str,x≠"__name__" -> mb x=ZA x
 nolimit:base.NoLimit
structure Cx where
 prog:Yk
 w:YB
 K:PySem.W.Frag
 mg:Str->Option Yc
 base:Heap
 A:Zc
 N:List Str
 s₀:Yg
 H₀:Hp
 env:Env
 outer:List Env
 stack:List Env
 ex:List Addr
 fn:Str->Bool
 calm:Bool
 pn:List (Addr×Obj)
 xe:Yc->Yg->Prop
def C0 (l:List Env):List Addr:=l.filterMap (·.frame)
abbrev Cx.fs (X:Cx):List Addr:=C0 X.outer
def yI (sc:aa7)(x:Str):Prop:=sc.names.lookup x=some .local\/sc.names.lookup x=some .cell\/sc.names.lookup x=some .free
def Loc (sc:aa7)(x:Str):Prop:=sc.names.lookup x=some .local\/sc.names.lookup x=some .cell
def Look (env:Env)(h:Heap)(m:Str->Option Yc)(x:Str)(u:Yc):Prop :=
 (env.kindOf x=some .local/\m x=some u)\/((env.kindOf x=some .cell\/env.kindOf x=some .free)/\∃c,env.cells.lookup x=some c/\h.IsCell c (some u))
structure Cx.Ok (X:Cx):Prop where
 mod:Mod X.K X.mg X.base
 kind:X.env.scope.kind=.function
 glob:X.env.globals=Z2
 blt:X.env.builtins=builtinsNs
 above:X.s₀.heap.objs.size<=X.env.locals
 inj:∀x y c,X.env.cells.lookup x=some c->X.env.cells.lookup y=some c->x=y
 has:∀x,(X.env.kindOf x=some .cell\/X.env.kindOf x=some .free)->∃c,X.env.cells.lookup x=some c
 OI:∀x c,X.fn x=true->X.env.cells.lookup x=some c->X.s₀.heap.objs.size<=c
 hd:X.calm=true->X.A.handled=none
 frames:X.A.frames=some X.stack
 O9:X.stack=X.outer\/(X.stack=X.env::X.outer/\X.env.frame=some X.env.locals)
 PM:∀b∈X.ex,b≠X.env.locals/\∀x c,X.env.cells.lookup x=some c->c≠b
 bs:∀b o,X.base.get? b=some o->X.s₀.heap.get? b=some o/\X.H₀ b=none
 Hm:X.base.objs.size<=X.s₀.heap.objs.size
 B7:∀b o,X.base.get? b=some o->b∉X.ex
 C_:∀b∈X.ex,b∉X.fs
 n9:X.s₀.heap.FunFrames X.base X.outer
 Lb:∀b∈X.fs,X.H₀ b=none
structure Inv (X:Cx)(pins:List (Addr×Obj))(σ:List (Option V))(H:Hp)(s:Yg):Prop where
 ok:X.Ok
 os:s.os=X.s₀.os
 bare:AllBare s.gens
 base:Un X.fs X.ex X.H₀ H X.s₀.heap s.heap
 loc:∃m,s.heap.Ns X.env.locals m/\∀(i:Nat) (x:Str) (v:V),X.N[i]?=some x->σ[i]?=some (some v)->yI X.env.scope x->∃u,RelV v u/\Look X.env s.heap m x u
 cell:∀x c,X.env.cells.lookup x=some c->∃v,s.heap.IsCell c v
 free:H X.env.locals=none
 iC:∀x c,X.env.cells.lookup x=some c->H c=none
 pin:∀p∈X.pn++pins,s.heap.get? p.1=some p.2/\H p.1=none/\p.1≠X.env.locals/\p.1∉X.fs/\∀v,p.2.data≠.cell v
 bV:i9 X.prog X.w H s.heap
 len:σ.length=X.N.length
section
variable {X:Cx}{pins:List (Addr×Obj)}{σ:List (Option V)}{H H':Hp}{s:Yg}{h':Heap}
theorem Cx.Ok.Jg (ok:X.Ok){b:Addr}{o:Obj}(e:X.base.get? b=some o):b∉X.fs:=λhb=>by
 have:=(ok.n9.mem hb).1;rw[e]at this;cases this
theorem Inv.bs (I:Inv X pins σ H s):∀b o,X.base.get? b=some o->s.heap.get? b=some o/\H b=none:=λb o e =>
 ⟨I.base.keep b o (I.ok.bs b o e).1 (I.ok.bs b o e).2 (I.ok.Jg e) (I.ok.B7 b o e),I.base.free b o (I.ok.bs b o e).1 (I.ok.bs b o e).2 (I.ok.B7 b o e)⟩
theorem Inv.bk (I:Inv X pins σ H s):∀b o,X.base.get? b=some o->s.heap.get? b=some o:=λb o e=>(I.bs b o e).1
theorem Inv.mod (I:Inv X pins σ H s):Mod X.K X.mg X.base:=I.ok.mod
theorem Inv.KW (I:Inv X pins σ H s):X.K.In s.heap:=I.ok.mod.Q4.keeps I.bk
theorem Inv.lt (I:Inv X pins σ H s):X.env.locals<s.heap.objs.size:=let ⟨_,hn,_⟩:=I.loc;hn.lt
theorem Inv.sz (I:Inv X pins σ H s):X.s₀.heap.objs.size<=s.heap.objs.size:=YI I.ok.above (Nat.le_of_lt I.lt)
theorem Inv.QU (I:Inv X pins σ H s){a:Addr}(h:s.heap.objs.size<=a):a∉X.fs:=λhb=>by
 obtain⟨_,o,ho,_⟩:=I.ok.n9.mem hb;exact absurd (Y2 (YC ho) (YI I.sz h)) (abc _)
theorem Inv.Kv (I:Inv X pins σ H s):∀x c,X.env.cells.lookup x=some c->c≠X.env.locals:=λx c e z=>by
 obtain⟨v,o,ho,hd⟩:=I.cell x c e;obtain⟨m,⟨o',es,ep,FA,PF,_⟩,_⟩:=I.loc;rw[z,FA]at ho;cases ho;rw[PF]at hd;cases hd
theorem Inv.n9 (I:Inv X pins σ H s):s.heap.FunFrames X.base X.outer:=by
 have all:∀(l:List Env),(∀b∈C0 l,b∈X.fs)->X.s₀.heap.FunFrames X.base l->s.heap.FunFrames X.base l:=by
  intro l
  induction l with
  |nil=>intro _ _;trivial
  |cons env r ih =>
   intro hs hl;obtain⟨hk,⟨L,o,hf,hn,ho,hd⟩,hr⟩:=hl;have hL:L∈X.fs:=hs L (by unfold C0;rw[Zn,hf];exact Yo)
   obtain⟨sl,e⟩:=I.base.slot L o ho (I.ok.Lb L hL) hL λz=>I.ok.C_ L z hL;exact⟨hk,⟨L,_,hf,hn,e,hd⟩,ih (λb hb=>hs b (by unfold C0;rw[Zn,hf];exact Yn _ hb)) hr⟩
 exact all X.outer (λ_ hb=>hb) I.ok.n9
theorem Inv.stack (I:Inv X pins σ H s):s.heap.FunFrames X.base X.stack:=by
 rcases I.ok.O9 with e|⟨e,hf⟩
 ·rw[e];exact I.n9
 ·rw[e];obtain⟨m,hn,_⟩:=I.loc;refine .cons (by rw[I.ok.kind];decide) hf hn ?_ I.n9
  exact Heap.get?_none_of_le (YI I.ok.Hm I.ok.above)
theorem Inv.vI (I:Inv X pins σ H s):∀b∈C0 X.stack,b∈X.env.locals::X.fs:=λb hb=>by
 rcases I.ok.O9 with e|⟨e,hf⟩
 ·rw[e]at hb;exact Yn _ hb
 ·rw[e]at hb;unfold C0 at hb;rw[Zn,hf]at hb;exact hb
theorem Inv.xn (I:Inv X pins σ H s):∀b∈C0 X.stack,H b=none:=λb hb=>by
 rcases Yi.mp (I.vI b hb)with e|hb
 ·rw[e];exact I.free
 ·obtain⟨_,o,ho,_⟩:=I.ok.n9.mem hb;exact I.base.free b o ho (I.ok.Lb b hb) λz=>I.ok.C_ b z hb
theorem Inv.step {g':Array GenState}{t':Nat}{d':Drawn}{ch:List Addr}(I:Inv X pins σ H s)
  (yd:∀b∈ch,(b∈X.ex\/X.s₀.heap.objs.size<=b)/\b≠X.env.locals/\(∀x c,X.env.cells.lookup x=some c->c≠b)/\∀p∈X.pn++pins,p.1≠b)
  (keep:∀b o,b≠X.env.locals->b∉X.fs->b∉ch->s.heap.get? b=some o->H b=none->h'.get? b=some o)
  (slot:∀b o,b≠X.env.locals->b∈X.fs->b∉ch->s.heap.get? b=some o->H b=none->∃sl,h'.get? b=some {o with slots:=sl}) (free:∀b o,b∉ch->s.heap.get? b=some o->H b=none->H' b=none)
  (there:∀b o,b∉ch->s.heap.get? b=some o->∃o',h'.get? b=some o')
  (q_:∀b xs,H b=some (.tup xs)->H' b=some (.tup xs)) (pA:∀b o u,H b=some (.DS o u)->H' b=some (.DS o u)) (rg:∀b ps,H b=some (.HU ps)->∃more,H' b=some (.HU (ps++more)))
  (ns:∀m,s.heap.Ns X.env.locals m->h'.Ns X.env.locals m) (bV:i9 X.prog X.w H' h') (hg:AllBare g') :
  Inv X pins σ H' {s with heap:=h',gens:=g',drawn:=d',toks:=t'}:=by
 have TY:∀b o,X.s₀.heap.get? b=some o->b≠X.env.locals:=λb o e=>YZ (Y2 (YC e) I.ok.above);have Pj:∀b o,X.s₀.heap.get? b=some o->b∉X.ex->b∉ch:=λb o e hx hb=>by
  rcases (yd b hb).1 with z|z
  ·exact hx z
  ·exact absurd (Y2 (YC e) z) (abc _)
 have cellK:∀x c,X.env.cells.lookup x=some c->∀v,s.heap.IsCell c v->h'.IsCell c v:=λx c e v Fx=> by
  obtain⟨o,ho,hd⟩ := Fx;have Ml:c∉ch:=λz=>(yd c z).2.2.1 x c e rfl
  by_cases hc:c∈X.fs
  ·obtain⟨sl,q⟩:=slot c o (I.Kv x c e) hc Ml ho (I.iC x c e);exact⟨_,q,hd⟩
  ·exact⟨o,keep c o (I.Kv x c e) hc Ml ho (I.iC x c e),hd⟩
 refine⟨I.ok,I.os,hg,⟨λb o e n hb hx=>?_,λb o e n hb hx=>?_,λb o e n hx=>?_,λb o e hx=>?_,λb xs e=>q_ b xs (I.base.q_ b xs e),λb o xs e=>pA b o xs (I.base.pA b o xs e),λb ps e=>?_⟩,?_,λx c e=>?_,?_,λx c e=>?_,λp hp=>?_,bV,I.len⟩
 ·exact keep b o (TY b o e) hb (Pj b o e hx) (I.base.keep b o e n hb hx) (I.base.free b o e n hx)
 ·obtain⟨sl,e1⟩:=I.base.slot b o e n hb hx;obtain⟨Ih,e2⟩:=slot b _ (TY b o e) hb (Pj b o e hx) e1 (I.base.free b o e n hx);exact⟨Ih,e2⟩
 ·obtain⟨o',e1⟩:=I.base.there b o e hx;exact free b o' (Pj b o e hx) e1 (I.base.free b o e n hx)
 ·obtain⟨o',e1⟩:=I.base.there b o e hx;exact there b o' (Pj b o e hx) e1
 ·obtain⟨m1,e1⟩:=I.base.rg b ps e;obtain⟨m2,e2⟩:=rg b _ e1;exact⟨m1++m2,by rw[e2,Array.append_assoc]⟩
 ·obtain⟨m,hn,hl⟩:=I.loc;refine⟨m,ns m hn,λi x v e1 e2 e3=>?_⟩;obtain⟨u,r,l⟩:=hl i x v e1 e2 e3;refine⟨u,r,?_⟩;rcases l with l|⟨k,c,e,z⟩
  ·exact .inl l
  ·exact .inr ⟨k,c,e,cellK x c e _ z⟩
 ·obtain⟨v,z⟩:=I.cell x c e;exact⟨v,cellK x c e v z⟩
 ·obtain⟨m,⟨o,_,_,ho,_⟩,_⟩:=I.loc;exact free _ o (λz=>(yd _ z).2.1 rfl) ho I.free
 ·obtain⟨v,o,ho,hd⟩:=I.cell x c e;exact free c o (λz=>(yd c z).2.2.1 x c e rfl) ho (I.iC x c e)
 ·obtain⟨e,n,ne,nf,d⟩:=I.pin p hp;have Ml:p.1∉ch:=λz=>(yd p.1 z).2.2.2 p hp rfl;exact⟨keep p.1 p.2 ne nf Ml e n,free p.1 p.2 Ml e n,ne,nf,d⟩
theorem Inv.un {t':Nat}(I:Inv X pins σ H s)(u:Un X.fs [] H H' s.heap h')(bV:i9 X.prog X.w H' h'):Inv X pins σ H' {s with heap:=h',toks:=t'}:=by
 obtain⟨m,⟨o,es,ep,ho,r⟩,_⟩:=id I.loc;obtain⟨sl,hL⟩:=u.any ho I.free (by simp)
 exact I.step (g':=s.gens) (d':=s.drawn) (ch:=[]) (λ_ z=>nomatch z) (λb o _ hb _ e n=>u.keep b o e n hb (by simp)) (λb o _ hb _ e n=>u.slot b o e n hb (by simp)) (λb o _ e n=>u.free b o e n (by simp)) (λb o _ e=>u.there b o e (by simp)) u.q_ u.pA u.rg (λm' hm=>by
  obtain⟨o',ir,qF,FA,r'⟩:=hm;rw[ho]at FA;cases FA;exact⟨_,ir,qF,hL,r'⟩) bV I.bare
theorem Inv.call {g':Array GenState}{t':Nat}{d':Drawn}{ch:List Addr}(I:Inv X pins σ H s)(u:Un (C0 X.stack) ch H H' s.heap h')(bV:i9 X.prog X.w H' h')(hg:AllBare g')
  (yd:∀b∈ch,(b∈X.ex\/X.s₀.heap.objs.size<=b)/\b≠X.env.locals/\(∀x c,X.env.cells.lookup x=some c->c≠b)/\∀p∈X.pn++pins,p.1≠b) :
  Inv X pins σ H' {s with heap:=h',gens:=g',drawn:=d',toks:=t'}:=by
 obtain⟨m,⟨o,es,ep,ho,r⟩,_⟩:=id I.loc;obtain⟨sl,hL⟩:=u.any ho I.free λz=>(yd _ z).2.1 rfl;exact I.step (ch:=ch) yd (λb o hL hb hc e n=>u.keep b o e n (λz=>(Yi.mp (I.vI b z)).elim hL hb) hc) (λb o _ _ hc e n=>u.any e n hc) (λb o hc e n=>u.free b o e n hc) (λb o hc e=>u.there b o e hc) u.q_ u.pA u.rg (λm' hm=>by
  obtain⟨o',ir,qF,FA,r'⟩:=hm;rw[ho]at FA;cases FA;exact⟨_,ir,qF,hL,r'⟩) bV hg
theorem Inv.turned {t':Nat}{it:Addr}(I:Inv X pins σ H s)(k:∀b o,b≠it->s.heap.get? b=some o->h'.get? b=some o)(hn:H it=none)(hL:it≠X.env.locals)
  (h1:it∈X.ex\/X.s₀.heap.objs.size<=it) (h2:∀x c,X.env.cells.lookup x=some c->c≠it) (h3:∀p∈X.pn++pins,p.1≠it):Inv X pins σ H {s with heap:=h',toks:=t'}:=by
 have TX:∀b u,H b=some u->b≠it:=λb u e z=>by rw[z,hn]at e;cases e
 refine I.step (g':=s.gens) (d':=s.drawn) (ch:=[it]) (λb hb=>?_) (λb o _ _ hc e _=>k b o (λz=>hc (by simp[z])) e) (λb o _ _ hc e _=>⟨o.slots,k b o (λz=>hc (by simp[z])) e⟩) (λ_ _ _ _ n=>n)
  (λb o hc e=>⟨o,k b o (λz=>hc (by simp[z])) e⟩) (λ_ _ e=>e) (λ_ _ _ e=>e) (λb ps e=>⟨#[],by rw[e];simp⟩) (λm hm=>?_) (λb u e=>?_) I.bare
 ·have e:b=it:=by simpa using hb
  subst e;exact⟨h1,hL,h2,h3⟩
 ·obtain⟨o,es,ep,ho,r⟩:=hm;exact⟨o,es,ep,k _ o (aaF hL) ho,r⟩
 ·refine(I.bV b u e).tx (λc v hc q=>k c v ?_ q) (λ_ q=>q) λ_ _ q=>q;rcases hc with z|z
  ·rw[z];exact TX b u e
  ·exact TX c _ z
theorem Inv.tok (I:Inv X pins σ H s)(t:Nat):Inv X pins σ H {s with toks:=t}:=I.un (h':=s.heap) (t':=t) Un.refl I.bV
theorem Inv.kept {t':Nat}(I:Inv X pins σ H s)(k:∀b u,s.heap.get? b=some u->h'.get? b=some u):Inv X pins σ H {s with heap:=h',toks:=t'}:=I.un (Un.kept k) (I.bV.kept k)
theorem Inv.laid {a:Addr}{o:HO}{t':Nat}(I:Inv X pins σ H s)(k:∀b u,s.heap.get? b=some u->h'.get? b=some u)(hp:s.heap.objs.size<=a)(new:bW X.prog X.w (upd H a o) h' a o):
  Inv X pins σ (upd H a o) {s with heap:=h',toks:=t'}:=I.un (Un.laid k hp (I.bV.fresh hp)) (I.bV.laid k hp new)
theorem Inv.write {x e:Addr}{o:HO}{t':Nat}(I:Inv X pins σ H s)(mu:OX (H x))(he:e=x\/H e=some (.own x))(k:∀b u,b≠e->s.heap.get? b=some u->h'.get? b=some u)(K8:∃u,h'.get? e=some u)
  (new:bW X.prog X.w (upd H x o) h' x o):Inv X pins σ (upd H x o) {s with heap:=h',toks:=t'}:=I.un (Un.write mu he k K8) (I.bV.write mu he k K8 new)
theorem Inv.xF {GB:List (Addr×Obj)}(I:Inv X pins σ H s)(h:∀p∈GB,s.heap.get? p.1=some p.2/\H p.1=none/\p.1≠X.env.locals/\p.1∉X.fs/\∀v,p.2.data≠.cell v):Inv X GB σ H s :=
 ⟨I.ok,I.os,I.bare,I.base,I.loc,I.cell,I.free,I.iC,λp hp=>(YL.mp hp).elim (λz=>I.pin p (ZR _ z)) (h p),I.bV,I.len⟩
theorem t7 {N:List Str}(hN:N.Nodup){i j:Nat}{x:Str}(a:N[i]?=some x)(b:N[j]?=some x):i=j:=by
 obtain⟨h1,e1⟩:=Yr.mp a;obtain⟨h2,e2⟩:=Yr.mp b;exact(List.getElem_inj hN).mp (e1.trans e2.symm)
theorem pT {M:Model}{A:Zc}{E:Yc->Yg->Prop}{i:Nat}{x:Str}{v:V}{u:Yc}{Q:Unit->Yg->Prop}(I:Inv X pins σ H s)(hN:X.N.Nodup)(hi:X.N[i]?=some x)(hx:Loc X.env.scope x)(r:RelV v u)
  (h:∀s',Inv X pins (σ.set i (some v)) H s'->(∃a,aaf a s.heap s'.heap/\(a=X.env.locals\/X.env.cells.lookup x=some a))->Q () s') (hf:X.fn x=true\/X.env.scope.names.lookup x=some .local:=by first|exact .inl rfl|exact .inr rfl|assumption):YM M A (storeName X.env x u) Q E s:=by
 obtain⟨m,hn,hl⟩:=id I.loc;have So:(X.env.scope.kind==.class || (X.env.scope.kind==.module&&X.env.locals != X.env.globals))=false:=by rw[I.ok.kind];rfl
 have N6:i<σ.length:=by rw[I.len];exact(Yr.mp hi).1
 have Kv:=I.Kv;have tracked:∀{a:Addr} {h':Heap},(∃o,s.heap.get? a=some o/\H a=none)->aaf a s.heap h'->i9 X.prog X.w H h':=λ{a h'} ha hs b ob e=>by
  obtain⟨_,_,yc⟩:=ha;refine(I.bV b ob e).tx (λc w' hc q=>(hs.2 c ?_).trans q) (λ_ q=>q) λ_ _ q=>q;rintro rfl;rcases hc with rfl|hc
  ·rw[yc]at e;cases e
  ·rw[yc]at hc;cases hc
 rcases hx with hk|hk
 ·refine wpAny_storeName_local hk hn (λh' Ka hs=>?_) So;obtain⟨oL,_,_,Wc,_⟩:=id hn;refine h _ ⟨I.ok,I.os,I.bare,⟨λb o e n hb hx=>?_,λb o e n hb hx=>?_,I.base.free,λb o e hx=>?_,I.base.q_,I.base.pA,I.base.rg⟩,⟨_,Ka,λj y v' e1 e2 e3=>?_⟩,λy c e=>?_,I.free,I.iC,λp hp=>?_,tracked ⟨oL,Wc,I.free⟩ hs,by simpa using I.len⟩ ⟨_,hs,.inl rfl⟩
  ·exact(hs.2 b (YZ (Y2 (YC e) I.ok.above))).trans (I.base.keep b o e n hb hx)
  ·obtain⟨sl,e1⟩:=I.base.slot b o e n hb hx;exact⟨sl,(hs.2 b (YZ (Y2 (YC e) I.ok.above))).trans e1⟩
  ·obtain⟨o',e1⟩:=I.base.there b o e hx;exact⟨o',(hs.2 b (YZ (Y2 (YC e) I.ok.above))).trans e1⟩
  ·by_cases hj:j=i
   ·subst hj;rw[hi]at e1;cases e1;rw[List.getElem?_set_self N6]at e2;cases e2;exact⟨u,r,.inl ⟨hk,by simp⟩⟩
   ·rw[List.getElem?_set_ne (aaF hj)]at e2;obtain⟨u',r',q⟩:=hl j y v' e1 e2 e3;refine⟨u',r',?_⟩;rcases q with⟨k,e⟩|⟨k,c,e,z⟩
    ·refine .inl ⟨k,?_⟩;have:y≠x:=λe=>hj (t7 hN e1 (e▸hi));simp[this,e]
    ·exact .inr ⟨k,c,e,z.sameBut hs (Kv y c e)⟩
  ·obtain⟨w',z⟩:=I.cell y c e;exact⟨w',z.sameBut hs (Kv y c e)⟩
  ·obtain⟨e,n,ne,nf,d⟩:=I.pin p hp;exact⟨(hs.2 p.1 ne).trans e,n,ne,nf,d⟩
 ·have Sk:X.fn x=true:=by
   rcases hf with z|z
   ·exact z
   ·rw[z]at hk;cases hk
  obtain⟨c,hc⟩:=I.ok.has x (.inl hk);obtain⟨w',z⟩:=I.cell x c hc;refine wpAny_storeName_cell I.ok.kind hk hc z (λh' oP hs=>?_);obtain⟨oc,J5,RT⟩:=id z;refine h {s with heap:=h'} ⟨I.ok,I.os,I.bare,⟨λb o e n hb hx=>?_,λb o e n hb hx=>?_,I.base.free,λb o e hx=>?_,I.base.q_,I.base.pA,I.base.rg⟩,⟨m,hn.sameBut hs (aaF (Kv x c hc)),λj y v' e1 e2 e3=>?_⟩,λy c' e=>?_,I.free,I.iC,λp hp=>?_,tracked ⟨oc,J5,I.iC x c hc⟩ hs,by simpa using I.len⟩ ⟨c,hs,.inr hc⟩
  ·exact(hs.2 b (YZ (Y2 (YC e) (I.ok.OI x c Sk hc)))).trans (I.base.keep b o e n hb hx)
  ·obtain⟨sl,e1⟩:=I.base.slot b o e n hb hx;exact⟨sl,(hs.2 b (YZ (Y2 (YC e) (I.ok.OI x c Sk hc)))).trans e1⟩
  ·obtain⟨o',e1⟩:=I.base.there b o e hx;exact⟨o',(hs.2 b (YZ (Y2 (YC e) (I.ok.OI x c Sk hc)))).trans e1⟩
  ·by_cases hj:j=i
   ·subst hj;rw[hi]at e1;cases e1;rw[List.getElem?_set_self N6]at e2;cases e2;exact⟨u,r,.inr ⟨.inl hk,c,hc,oP⟩⟩
   ·rw[List.getElem?_set_ne (aaF hj)]at e2;obtain⟨u',r',q⟩:=hl j y v' e1 e2 e3;refine⟨u',r',?_⟩;rcases q with q|⟨k,c',e,z'⟩
    ·exact .inl q
    ·refine .inr ⟨k,c',e,z'.sameBut hs ?_⟩;rintro rfl;exact hj (t7 hN e1 (I.ok.inj _ _ _ e hc▸hi))
  ·by_cases FJ:c'=c
   ·subst FJ;exact⟨_,oP⟩
   ·obtain⟨w2,z2⟩:=I.cell y c' e;exact⟨w2,z2.sameBut hs FJ⟩
  ·obtain⟨e,n,ne,nf,d⟩:=I.pin p hp;refine⟨(hs.2 p.1 ?_).trans e,n,ne,nf,d⟩;intro q;rw[q,J5]at e;have q':oc=p.2:=YU e;exact d w' (by rw[<- q'];exact RT)
theorem mO {M:Model}{A:Zc}{E:Yc->Yg->Prop}{i:Nat}{x:Str}{v:V}{u:Yc}{Q:Unit->Yg->Prop}(I:Inv X pins σ H s)(hN:X.N.Nodup)(hi:X.N[i]?=some x)(hx:Loc X.env.scope x)(r:RelV v u)
  (h:∀s',Inv X pins (σ.set i (some v)) H s'->Q () s') (hf:X.fn x=true\/X.env.scope.names.lookup x=some .local:=by first|exact .inl rfl|exact .inr rfl|assumption):YM M A (storeName X.env x u) Q E s :=
 pT I hN hi hx r (λs' I' _=>h s' I') hf
theorem Inv.OH {s':Yg}{ch:List Addr}(I:Inv X pins σ H s)(ho:s'.os=s.os)(u:Un (C0 X.stack) ch H H' s.heap s'.heap)(bV:i9 X.prog X.w H' s'.heap)(hg:AllBare s'.gens)
  (yd:∀b∈ch,(b∈X.ex\/X.s₀.heap.objs.size<=b)/\b≠X.env.locals/\(∀x c,X.env.cells.lookup x=some c->c≠b)/\∀p∈X.pn++pins,p.1≠b):Inv X pins σ H' s':=by
 obtain⟨h',g',d',t',o'⟩:=s';have e:o'=s.os:=ho;subst e;exact I.call (g':=g') (t':=t') (d':=d') u bV hg yd
end
abbrev XK:=Yc->Option Addr->Hp->Prop
abbrev St:=List (Option V)
abbrev VK:=V->Hp->Prop
abbrev TE:=St->Hp->VK->Prop
abbrev TT:=St->Hp->(Bool->Hp->Prop)->Prop
abbrev TA:=St->Hp->(List V->Hp->Prop)->Prop
structure Ends where
 nx:St->Hp->Prop
 rt:VK
 bk:St->Hp->Prop:=λ_ _=>False
 ct:St->Hp->Prop:=λ_ _=>False
abbrev TS:=Ends->St->Hp->Prop
def EP (X:Cx)(pins:List (Addr×Obj))(σ:St)(Q:VK)(u:Yc)(s':Yg):Prop:=∃v H',Inv X pins σ H' s'/\RelV v u/\Q v H'
def TP (X:Cx)(pins:List (Addr×Obj))(σ:St)(Q:Bool->Hp->Prop)(b:Bool)(s':Yg):Prop:=∃H',Inv X pins σ H' s'/\Q b H'
def AP (X:Cx)(pins:List (Addr×Obj))(σ:St)(Q:List V->Hp->Prop)(us:List Yc)(s':Yg):Prop:=∃vs H',Inv X pins σ H' s'/\Vals vs us/\Q vs H'
def SP (X:Cx)(pins:List (Addr×Obj))(D:Ends)(f:Flow)(s':Yg):Prop :=
 match f with
 |.next=>∃σ' H',Inv X pins σ' H' s'/\D.nx σ' H'
 |.brk=>∃σ' H',Inv X pins σ' H' s'/\D.bk σ' H'
 |.cont=>∃σ' H',Inv X pins σ' H' s'/\D.ct σ' H'
 |.ret u=>∃v σ' H',Inv X pins σ' H' s'/\RelV v u/\D.rt v H'
def PE (X:Cx)(e:Expr)(t:TE):Prop :=
 ∀(pins:List (Addr×Obj)) (s:Yg) (σ:St) (H:Hp) (Q:VK),Inv X pins σ H s->t σ H Q->YM (model X.prog X.w) X.A (eval e X.env) (EP X pins σ Q) X.xe s
def PT (X:Cx)(e:Expr)(t:TT):Prop :=
 ∀(pins:List (Addr×Obj)) (s:Yg) (σ:St) (H:Hp) (Q:Bool->Hp->Prop),Inv X pins σ H s->t σ H Q->YM (model X.prog X.w) X.A (isTrue e X.env (eval e X.env)) (TP X pins σ Q) X.xe s
def PW (X:Cx)(e:Expr)(t:TT):Prop :=
 ∀(whole:Sem Yc) (pins:List (Addr×Obj)) (s:Yg) (σ:St) (H:Hp) (Q:Bool->Hp->Prop),Inv X pins σ H s->t σ H Q->YM (model X.prog X.w) X.A (isTrue e X.env whole) (TP X pins σ Q) X.xe s
theorem PW.pt {X:Cx}{e:Expr}{t:TT}(h:PW X e t):PT X e t:=h _
def PA (X:Cx)(es:List Expr)(t:TA):Prop :=
 ∀(pos:Pos) (pins:List (Addr×Obj)) (s:Yg) (σ:St) (H:Hp) (Q:List V->Hp->Prop),Inv X pins σ H s->t σ H Q->YM (model X.prog X.w) X.A (spliced (aav pos (YG es X.env))) (AP X pins σ Q) X.xe s
def PS (X:Cx)(st:Stmt)(t:TS):Prop :=
 ∀(pins:List (Addr×Obj)) (s:Yg) (σ:St) (H:Hp) (D:Ends),Inv X pins σ H s->t D σ H->YM (model X.prog X.w) X.A (exec st X.env) (SP X pins D) X.xe s
def sX (X:Cx)(st:List Stmt)(t:TS):Prop :=
 ∀(pins:List (Addr×Obj)) (s:Yg) (σ:St) (H:Hp) (D:Ends),Inv X pins σ H s->t D σ H->YM (model X.prog X.w) X.A (execs st X.env) (SP X pins D) X.xe s
theorem bF {α:Type}{t:Sem α}{Q Q':α->Yg->Prop}{M:Model}{A:Zc}{E:Yc->Yg->Prop}{s:Yg}(h:YM M A t Q E s)(hQ:∀a s,Q a s->Q' a s):YM M A t Q' E s:=abl h hQ λ_ _ x=>x
section
variable {X:Cx}
def Lv (i:Nat):TE:=λσ H Q=>∃v,σ[i]?=some (some v)/\Q v H
def tC (v:V):TE:=λ_ H Q=>Q v H
theorem fg {i:Nat} {x:Str} {pos:Pos} (hN:X.N[i]?=some x) (hv:yI X.env.scope x) (hd:(x==("__debug__" : Str))=false:=by decide) (i7:(x==("__classdict__" : Str))=false:=by decide):PE X (.Name x pos) (Lv i):=by
 intro pins s σ H Q I h;obtain⟨v,e,h⟩:=h;obtain⟨m,hn,hl⟩:=I.loc;obtain⟨u,r,l⟩:=hl i x v hN e hv;have fin:EP X pins σ Q u s:=⟨v,H,I,r,h⟩;rcases l with⟨hk,hm⟩|⟨hk,c,hc,lH⟩
 ·exact wpAny_Name (wpAny_loadName_local I.ok.kind hk hn hm fin) hd
 ·rcases hk with hk|hk
  ·exact wpAny_Name (wpAny_loadName_cell I.ok.kind hk hc lH fin) hd
  ·exact wpAny_Name (wpAny_loadName_free I.ok.kind hk hc lH fin i7) hd
theorem aU {i j pos}:PE X (.Constant (.int i) j pos) (tC (.int i)):=λ_ _ _ H _ I h=>wpAny_Constant_int ⟨.int i,H,I.tok _,⟨_,rfl⟩,h⟩
theorem BI {b j pos}:PE X (.Constant (.bool b) j pos) (tC (.bl b)):=λ_ _ _ H _ I h=>Constant_bool ⟨.bl b,H,I,rfl,h⟩
theorem IJ {j pos}:PE X (.Constant .none j pos) (tC .cX):=λ_ _ _ H _ I h=>Constant_none ⟨.cX,H,I,rfl,h⟩
theorem IH {x j pos}:PE X (.Constant (.str x) j pos) (tC (.str x)):=λ_ _ _ H _ I h=>Calls.Constant_str ⟨.str x,H,I.tok _,⟨_,rfl⟩,h⟩
def Gl (X:Cx)(x:Str):Prop:=X.env.kindOf x=some .globalImplicit
theorem Fj {E:Yc->Yg->Prop}{pins:List (Addr×Obj)}{s:Yg}{σ:St}{H:Hp}{x:Str}{u:Yc}{pos:Pos}{Q:Yc->Yg->Prop}(I:Inv X pins σ H s)(hg:Gl X x)(hm:X.mg x=some u)(h:Q u s)
  (hd:(x==("__debug__" : Str))=false:=by decide):YM (model X.prog X.w) X.A (eval (.Name x pos) X.env) Q E s :=
 Calls.Name_function_global I.ok.kind hg (Calls.loadGlobal_global (by rw[I.ok.glob];exact I.mod.glob.keeps I.bk) hm h) hd
theorem kP {E:Yc->Yg->Prop}{pins:List (Addr×Obj)}{s:Yg}{σ:St}{H:Hp}{x:Str}{u:Yc}{pos:Pos}{Q:Yc->Yg->Prop}(I:Inv X pins σ H s)(hg:Gl X x)(hm:X.mg x=none)(hv:ZA x=some u)(h:Q u s)
  (hn:x≠"__name__" := by decide) (hd:(x==("__debug__" : Str))=false:=by decide):YM (model X.prog X.w) X.A (eval (.Name x pos) X.env) Q E s:=by
 obtain⟨mb,h1,h2⟩:=I.mod.blt;exact Calls.Name_function_global I.ok.kind hg (Calls.loadGlobal_builtin (by rw[I.ok.glob];exact I.mod.glob.keeps I.bk) hm (by rw[I.ok.blt];exact h1.keeps I.bk) ((h2 x hn).trans hv) h) hd
variable {a b:Expr}{ta tb:TE}{pos:Pos}
theorem t8 (b:Expr){op:aa8}(h:op≠.In)(h2:op≠.NotIn):aao op b=false:=by
 have e1:(op==CmpOp.In)=false:=by cases op <;> first|rfl|exact absurd rfl h
 have e2:(op==CmpOp.NotIn)=false:=by cases op <;> first|rfl|exact absurd rfl h2
 cases b <;> simp[aao,e1,e2]
def tB (t:TE):TT:=λσ H Q=>t σ H λx H1=>∃c,x=.bl c/\Q c H1
theorem Iw {e:Expr}{t:TE}(h:PE X e t)(he:∀whole,isTrue e X.env whole=(do let v <- whole;standAt e.pos;holding [v] (truthy v)):=by intro _;rfl):PT X e (tB t):=by
 intro pins s σ H Q I hw;refine isTrue_plain (bF (h pins s σ H _ I hw) λv s1 ⟨x,H1,I1,r1,q1⟩=>?_) (he _);obtain⟨d,rfl,q⟩:=q1;cases r1;exact aab ⟨H1,I1,q⟩
variable {tA O7:TT}{rest:List Expr}
def Qp (t u:TT):TT:=λσ H Q=>t σ H λc H1=>if c=true then u σ H1 Q else Q false H1
def U6 (t u:TT):TT:=λσ H Q=>t σ H λc H1=>if c=true then Q true H1 else u σ H1 Q
def Qh (t:TT):TT:=λσ H Q=>t σ H λc H1=>Q (!c) H1
theorem pw_and1 (ha:PT X a tA):PW X (.BoolOp .And [a] pos) tA:=by
 intro wh pins s σ H Q I h;refine isTrue_and (bF (ha pins s σ H Q I h) λc s1 e=>?_);cases c with
 |true=>exact isTrue_and_nil e
 |false=>exact e
theorem pw_or1 (ha:PT X a tA):PW X (.BoolOp .Or [a] pos) tA:=by
 intro wh pins s σ H Q I h;refine isTrue_or (bF (ha pins s σ H Q I h) λc s1 e=>?_);cases c with
 |false=>exact isTrue_or_nil e
 |true=>exact e
theorem pw_and (ha:PT X a tA)(hb:PW X (.BoolOp .And (b::rest) pos) O7):PW X (.BoolOp .And (a::b::rest) pos) (Qp tA O7):=by
 intro wh pins s σ H Q I h;refine isTrue_and (bF (ha pins s σ H _ I h) λc s1 ⟨H1,I1,q1⟩=>?_);cases c with
 |true=>exact hb wh pins s1 σ H1 Q I1 q1
 |false=>exact⟨H1,I1,q1⟩
theorem pw_or (ha:PT X a tA)(hb:PW X (.BoolOp .Or (b::rest) pos) O7):PW X (.BoolOp .Or (a::b::rest) pos) (U6 tA O7):=by
 intro wh pins s σ H Q I h;refine isTrue_or (bF (ha pins s σ H _ I h) λc s1 ⟨H1,I1,q1⟩=>?_);cases c with
 |true=>exact⟨H1,I1,q1⟩
 |false=>exact hb wh pins s1 σ H1 Q I1 q1
theorem Iy (ha:PT X a tA):PT X (.UnaryOp .Not a pos) (Qh tA):=by
 intro pins s σ H Q I h;exact isTrue_not (ha pins s σ H (λc H1=>Q (!c) H1) I h)
def Qg (ta tb:TE):TE:=λσ H Q=>ta σ H λx H1=>∃c,x=.bl c/\if c=true then Q (.bl true) H1 else tb σ H1 Q
theorem II {op}{t:TE}(h:PE X a t):PE X (.BoolOp op [a] pos) t:=λpins s σ H Q I hw=>BoolOp_one (h pins s σ H Q I hw)
theorem L6 (ha:PE X a ta)(hb:PE X (.BoolOp .Or (b::rest) pos) tb):PE X (.BoolOp .Or (a::b::rest) pos) (Qg ta tb):=by
 intro pins s σ H Q I h;refine BoolOp_or (bF (ha pins s σ H _ I h) λv s1 ⟨x,H1,I1,r1,q1⟩=>?_);obtain⟨c,rfl,q1⟩:=q1;cases r1;refine aab ?_;cases c with
 |false=>exact hb pins s1 σ H1 Q I1 q1
 |true=>exact⟨.bl true,H1,I1,rfl,q1⟩
end
def dh (K:PySem.W.Frag)(H:Hp)(a:Addr)(xs:List V):Prop :=
 Rd H a (.lst xs) \/
  ∃(o:Obj) (its:Array Yc) (n:Nat),K.lookup a=some o/\o.cls=.type "list" /\ o.dict=none/\o.data=.seq its n/\its.size<=Yy/\Vals xs its.toList
def sM (K:PySem.W.Frag)(H:Hp)(a:Addr)(xs:List V):Prop :=
 Rd H a (.tup xs) \/
  ∃(o:Obj) (its:Array Yc) (n:Nat),K.lookup a=some o/\o.cls=.type "tuple" /\ o.data=.seq its n/\its.size<=Yy/\Vals xs its.toList
def S7:Yc->Option V
 |.none=>some .cX
 |.bool b=>some (.bl b)
 |.int i _=>some (.int i)
 |.str x _=>some (.str x)
 |.bytes b _=>some (.OJ b)
 |.float b _=>some (.SH b)
 |.ref a=>some (.ref a)
 |.type n=>some (.ty n)
 |_=>none
theorem RelV.abs {x:V}{u:Yc}(r:RelV x u):S7 u=some x:=by
 cases x with
 |cX=>cases r;rfl
 |bl _=>cases r;rfl
 |int _=>obtain⟨t,rfl⟩:=r;rfl
 |str _=>obtain⟨t,rfl⟩:=r;rfl
 |OJ _=>obtain⟨t,rfl⟩:=r;rfl
 |SH _=>obtain⟨t,rfl⟩:=r;rfl
 |ref _=>cases r;rfl
 |ty _=>cases r;rfl
theorem RelV.inj {x y:V}{u:Yc}(r:RelV x u)(q:RelV y u):x=y:=YU (r.abs.symm.trans q.abs)
theorem Vals.inj:∀{xs ys:List V} {us:List Yc},Vals xs us->Vals ys us->xs=ys
 |_,_,_,.nil,.nil=>rfl
 |_,_,_,.cons r t,.cons r' t'=>by rw[r.inj r',Vals.inj t t']
section
variable {X:Cx}{pins:List (Addr×Obj)}{σ:St}{H:Hp}{s:Yg}{a:Addr}{xs ys:List V}
theorem dh.of {K:PySem.W.Frag}(h:H a=some (.lst xs)):dh K H a xs:=.inl (.inl h)
theorem sM.of {K:PySem.W.Frag}(h:H a=some (.tup xs)):sM K H a xs:=.inl (.inl h)
theorem Inv.list (I:Inv X pins σ H s)(h:dh X.K H a xs):∃its:List Yc,Vals xs its/\PlainL s.heap a its.toArray/\xs.length<=Yy:=by
 rcases h with h|⟨o,its,n,hk,hc,hd,hs,hz,r⟩
 ·obtain⟨z,its,n,r,e⟩:=h.ok I.bV;exact⟨its,r,⟨_,n,e,rfl,rfl,rfl⟩,z⟩
 ·refine⟨its.toList,r,⟨o,n,I.KW a o hk,hc,hd,by simpa using hs⟩,?_⟩
  have e:=r.length;simp only[Yp]at e;lia
theorem Inv.tuple (I:Inv X pins σ H s)(h:sM X.K H a xs):∃its:List Yc,Vals xs its/\IsTup s.heap a its.toArray/\xs.length<=Yy:=by
 rcases h with h|⟨o,its,n,hk,hc,hs,hz,r⟩
 ·obtain⟨z,its,r,p⟩:=h.ok I.bV;exact⟨its,r,p,z⟩
 ·refine⟨its.toList,r,⟨o,I.KW a o hk,hc,n,by simpa using hs⟩,?_⟩
  have e:=r.length;simp only[Yp]at e;lia
theorem Inv.Ce (I:Inv X pins σ H s)(h:dh X.K H a xs)(h':dh X.K H a ys):xs=ys:=by
 obtain⟨its,r,⟨o,n,e,_,_,d⟩,_⟩:=I.list h;obtain⟨its',r',⟨o',n',e',_,_,d'⟩,_⟩:=I.list h';rw[e]at e';cases e';rw[d]at d';injection d' with d1 _
 have:its=its':=by simpa using congrArg Array.toList d1
 subst this;exact r.inj r'
end
abbrev Cx.oV (X:Cx)(E:Yc->Yg->Prop):Cx:={X with xe:=E}
abbrev Cx.GK (X:Cx):Cx:=X.oV λ_ _=>False
theorem Cx.Ok.oV {X:Cx}(ok:X.Ok)(E:Yc->Yg->Prop):(X.oV E).Ok :=
 ⟨ok.mod,ok.kind,ok.glob,ok.blt,ok.above,ok.inj,ok.has,ok.OI,ok.hd,ok.frames,ok.O9,ok.PM,ok.bs,ok.Hm,ok.B7,ok.C_,ok.n9,ok.Lb⟩
theorem Cx.Ok.gE {X:Cx}{E:Yc->Yg->Prop}(ok:(X.oV E).Ok):X.Ok :=
 ⟨ok.mod,ok.kind,ok.glob,ok.blt,ok.above,ok.inj,ok.has,ok.OI,ok.hd,ok.frames,ok.O9,ok.PM,ok.bs,ok.Hm,ok.B7,ok.C_,ok.n9,ok.Lb⟩
section
variable {X:Cx}{pins:List (Addr×Obj)}{σ:St}{H:Hp}{s:Yg}{E:Yc->Yg->Prop}
theorem Inv.oV (I:Inv X pins σ H s)(E:Yc->Yg->Prop):Inv (X.oV E) pins σ H s:=⟨I.ok.oV E,I.os,I.bare,I.base,I.loc,I.cell,I.free,I.iC,I.pin,I.bV,I.len⟩
theorem Inv.gE (I:Inv (X.oV E) pins σ H s):Inv X pins σ H s:=⟨I.ok.gE,I.os,I.bare,I.base,I.loc,I.cell,I.free,I.iC,I.pin,I.bV,I.len⟩
theorem SP.gE {D:Ends}{f:Flow}{s':Yg}(h:SP (X.oV E) pins D f s'):SP X pins D f s':=by
 cases f with
 |next=>obtain⟨σ',H',I,q⟩:=h;exact⟨σ',H',I.gE,q⟩
 |brk=>obtain⟨σ',H',I,q⟩:=h;exact⟨σ',H',I.gE,q⟩
 |cont=>obtain⟨σ',H',I,q⟩:=h;exact⟨σ',H',I.gE,q⟩
 |ret u=>obtain⟨v,σ',H',I,r,q⟩:=h;exact⟨v,σ',H',I.gE,r,q⟩
theorem sX.GK {st:List Stmt}{t:TS}(h:sX X.GK st t):sX X st t:=λpins s σ H D I hw =>
 abl (h pins s σ H D (I.oV _) hw) (λ_ _ q=>q.gE) λ_ _ z=>aaC z
end
section
variable {X:Cx}{st:Stmt}{rest:List Stmt}{t u:TS}{e:Expr}{te:TE}{pos:Pos}
def LB:TS:=λD σ H=>D.nx σ H
def Qe (t u:TS):TS:=λD σ H=>t {D with nx:=u D} σ H
theorem rJ:sX X [] LB:=λ_ _ σ H _ I h=>wpAny_execs_nil ⟨σ,H,I,h⟩
theorem b_ (h1:PS X st t)(h2:sX X rest u):sX X (st::rest) (Qe t u):=by
 intro pins s σ H D I h;refine wpAny_execs_cons (bF (h1 pins s σ H {D with nx:=u D} I h) λf s1 q=>?_)
 cases f with
 |next =>
  obtain⟨σ',H',I',q⟩:=q;exact h2 pins s1 σ' H' D I' q
 |ret v=>exact q
 |brk=>exact q
 |cont=>exact q
theorem fR (h1:PS X st t):sX X [st] t:=by
 intro pins s σ H D I h;refine wpAny_execs_cons (bF (h1 pins s σ H D I h) λf s1 q=>?_);cases f with
 |next=>exact wpAny_execs_nil q
 |ret v=>exact q
 |brk=>exact q
 |cont=>exact q
theorem Inv.quiet {pins:List (Addr×Obj)}{σ:St}{H:Hp}{s:Yg}(I:Inv X pins σ H s):interactive X.env=false:=by simp[interactive,I.ok.kind]
def LD (te:TE):TS:=λD σ H=>te σ H λ_ H1=>D.nx σ H1
theorem rK (he:PE X e te)(hs:aaa e none pos.line X.env=pure false:=by rfl):PS X (.Expr e pos) (LD te):=by
 intro pins s σ H D I h;exact wpAny_Expr_any (bF (he pins s σ H _ I h) λv s1 JN=> by obtain⟨x,H1,I1,r1,q1⟩ := JN;exact⟨σ,H1,I1,q1⟩) I.quiet hs
def Qf (te:TE):TS:=λD σ H=>te σ H D.rt
theorem gK (he:PE X e te):PS X (.Return (some e) pos) (Qf te):=by
 intro pins s σ H D I h;exact wpAny_Return_some (bF (he pins s σ H _ I h) λv s1 Rq=> by obtain⟨x,H1,I1,r1,q1⟩ := Rq;exact⟨x,σ,H1,I1,r1,q1⟩)
def Qj (c:TT)(t u:TS):TS:=λD σ H=>c σ H λb H1=>if b=true then t D σ H1 else u D σ H1
theorem Bx {c:Expr}{a b:List Stmt}{tc:TT}(hc:PT X c tc)(ha:sX X a t)(hb:sX X b u):PS X (.If c a b pos) (Qj tc t u):=by
 intro pins s σ H D I h;refine wpAny_If (bF (hc pins s σ H _ I h) λd s1 ⟨H1,I1,q1⟩=>?_);cases d with
 |true=>exact ha pins s1 σ H1 D I1 q1
 |false=>exact hb pins s1 σ H1 D I1 q1
def HX:TS:=λ_ _ _=>False
theorem zh {Vb:List Stmt}:sX X Vb HX:=λ_ _ _ _ _ _ h=>h.elim
end
abbrev TG:=V->St->Hp->(St->Hp->Prop)->Prop
abbrev Hn:=List V->St->Hp->(St->Hp->Prop)->Prop
def PG (X:Cx)(target:Expr)(t:TG):Prop :=
 ∀(pins:List (Addr×Obj)) (s:Yg) (σ:St) (H:Hp) (v:V) (u:Yc) (Q:St->Hp->Prop),Inv X pins σ H s->RelV v u->t v σ H Q ->
  YM (model X.prog X.w) X.A (assign target X.env u) (λ_ s'=>∃σ' H',Inv X pins σ' H' s'/\Q σ' H') X.xe s
def Ht (X:Cx)(ts:List Expr)(t:Hn):Prop :=
 ∀(pins:List (Addr×Obj)) (s:Yg) (σ:St) (H:Hp) (vs:List V) (us:List Yc) (Q:St->Hp->Prop),Inv X pins σ H s->Vals vs us->t vs σ H Q ->
  YM (model X.prog X.w) X.A (assignInOrder ((aal ts X.env).map (·.2)) us) (λ_ s'=>∃σ' H',Inv X pins σ' H' s'/\Q σ' H') X.xe s
abbrev KI:=V->V->V->Hp->(Hp->Prop)->Prop
def OU (X:Cx)(t:KI):Prop :=
 ∀(pins:List (Addr×Obj)) (s:Yg) (σ:St) (H:Hp) (o i v:V) (ov iv u:Yc) (Q:Hp->Prop),Inv X pins σ H s->RelV o ov->RelV i iv->RelV v u->t o i v H Q ->
  YM (model X.prog X.w) X.A (setItem ov iv u) (λ_ s'=>∃H',Inv X pins σ H' s'/\Q H') X.xe s
abbrev S_:=V->V->Hp->VK->Prop
def Xa (X:Cx)(op:Operator)(t:S_):Prop :=
 ∀(pins:List (Addr×Obj)) (s:Yg) (σ:St) (H:Hp) (x y:V) (v u:Yc) (Q:VK),Inv X pins σ H s->RelV x v->RelV y u->t x y H Q ->
  YM (model X.prog X.w) X.A (inplaceOp op v u) (EP X pins σ Q) X.xe s
section
variable {X:Cx}{pos:Pos}
def G9 (i:Nat):TG:=λv σ H Q=>Q (σ.set i (some v)) H
theorem EH {i:Nat}{x:Str}(hN:X.N.Nodup)(hi:X.N[i]?=some x)(hx:Loc X.env.scope x)(hf:X.fn x=true\/X.env.scope.names.lookup x=some .local:=by first|exact .inl rfl|exact .inr rfl|assumption):PG X (.Name x pos) (G9 i):=by
 intro pins s σ H v u Q I r h;exact wpAny_assign_Name (mO I hN hi hx r (λs' I'=>⟨_,H,I',h⟩) hf)
def Kk:Hn:=λvs σ H Q=>vs=[]/\Q σ H
def CY (t:TG)(u:Hn):Hn:=λvs σ H Q=>∃v r,vs=v::r/\t v σ H λσ' H'=>u r σ' H' Q
theorem EG:Ht X [] Kk:=by
 intro pins s σ H vs us Q I r h;obtain⟨e,h⟩:=h;subst e;cases r;exact assignInOrder_nil ⟨σ,H,I,h⟩
theorem BF {e:Expr}{es:List Expr}{t:TG}{u:Hn}(h1:PG X e t)(h2:Ht X es u)
  (hs:(aal (e::es) X.env).map (·.2)=assign e X.env::(aal es X.env).map (·.2):=by rfl):Ht X (e::es) (CY t u):=by
 intro pins s σ H vs us Q I r h;obtain⟨v,vr,e1,h⟩:=h;subst e1;cases r with
 |cons r rr =>
  rw[hs];refine assignInOrder_cons (bF (h1 pins s σ H _ _ _ I r h) λ_ s1 ⟨σ1,H1,I1,q1⟩=>?_);exact h2 pins s1 σ1 H1 _ _ Q I1 rr q1
def SD (K:PySem.W.Frag)(n:Nat)(t:Hn):TG:=λv σ H Q=>∃a xs,v=.ref a/\sM K H a xs/\xs.length=n/\t xs σ H Q
theorem IF {es:List Expr}{k:Nat}{t:Hn}{n:Nat}(hc:X.calm=true)(h:Ht X es t)
  (hn:(aal es X.env).length=n:=by rfl) (JG:(aal es X.env).findIdx? (·.1)=none:=by rfl):PG X (.Tuple es k pos) (SD X.K n t):=by
 intro pins s σ H v u Q I r hw;obtain⟨a,xs,e1,hq,hl,hw⟩:=hw;subst e1;cases r;obtain⟨its,rv,ht,hz⟩:=I.tuple hq;refine assign_Tuple_tuple (I.ok.hd hc) ht (by simp[hn,<- hl,rv.length]) JG λh' hx=>?_
 have I1:Inv X pins σ H {s with heap:=h'}:=I.kept (t':=s.toks) λb o e=>hx b o (YZ (YC e)) e
 exact h pins _ σ H xs _ Q I1 (by simpa using rv) hw
def SF (to ti:TE)(t:KI):TG:=λv σ H Q=>to σ H λo H1=>ti σ H1 λi H2=>t o i v H2 λH3=>Q σ H3
theorem BG {o i:Expr}{to ti:TE}{t:KI}(ho:PE X o to)(hi:PE X i ti)(hs:OU X t)
  (ha:∀v,assign (.Subscript o i pos) X.env v=(do
   let ov <- holding [v] (eval o X.env)
   let iv <- holding [v,ov] (eval i X.env)
   standAt pos
   holding [v,ov,iv] (setItem ov iv v)
   release [v,ov,iv] []):=by intro _;rfl):PG X (.Subscript o i pos) (SF to ti t):=by
 intro pins s σ H v u Q I r h;rw[ha];refine Yd (Z0 (bF (ho pins s σ H _ I h) λov s1 ⟨x,H1,I1,r1,q1⟩=>?_));refine Yd (Z0 (bF (hi pins s1 σ H1 _ I1 q1) λiv s2 ⟨y,H2,I2,r2,q2⟩=>?_));refine Yd (aaM (Yd (Z0 (bF (hs pins s2 σ H2 x y v ov iv u _ I2 r1 r2 r q2) λ_ s3 ⟨H3,I3,q3⟩=>?_))));exact wpAny_release ⟨σ,H3,I3,q3⟩
def LG (te:TE)(g:TG):TS:=λD σ H=>te σ H λx H1=>g x σ H1 D.nx
theorem vW {tg e:Expr}{te:TE}{g:TG}(he:PE X e te)(hg:PG X tg g)(hs:swapsWithSole [tg] e pos.line X.env=pure false:=by rfl)(hw:swappedStores [tg] e X.env=pure none:=by rfl)
  (h1:(aal [tg] X.env).map (·.2)=[assign tg X.env]:=by rfl):PS X (.Assign [tg] e pos) (LG te g):=by
 intro pins s σ H D I h;refine wpAny_Assign_stores (bF (he pins s σ H _ I h) λv s1 ⟨x,H1,I1,r1,q1⟩=>?_) hs hw;rw[h1];exact bF (hg pins s1 σ H1 x v _ I1 r1 q1) λ_ s2 q=>q
theorem m8 {i:Nat}{x:Str}{e:Expr}{te:TE}{pos':Pos}(hN:X.N.Nodup)(hi:X.N[i]?=some x)(hx:Loc X.env.scope x)(he:PE X e te)(hs:aaa e (some (.Name x pos')) pos.line X.env=pure false:=by rfl)(hf:X.fn x=true\/X.env.scope.names.lookup x=some .local:=by first|exact .inl rfl|exact .inr rfl|assumption):
  PS X (.Assign [.Name x pos'] e pos) (LG te (G9 i)):=by
 intro pins s σ H D I h;refine wpAny_Assign_Name (bF (he pins s σ H _ I h) λv s1 ⟨y,H1,I1,r1,q1⟩=>?_) hs;exact mO I1 hN hi hx r1 (λs2 I2=>⟨_,H1,I2,q1⟩) hf
def Qo (i:Nat)(te:TE)(ti:S_):TS:=λD σ H=>∃x,σ[i]?=some (some x)/\te σ H λy H1=>ti x y H1 λz H2=>D.nx (σ.set i (some z)) H2
theorem Iz {i:Nat}{x:Str}{e:Expr}{te:TE}{op:Operator}{ti:S_}{pos':Pos}(hN:X.N.Nodup)(hi:X.N[i]?=some x)(hx:Loc X.env.scope x)(he:PE X e te)(ho:Xa X op ti)(hf:X.fn x=true\/X.env.scope.names.lookup x=some .local:=by first|exact .inl rfl|exact .inr rfl|assumption):
  PS X (.AugAssign (.Name x pos') op e pos) (Qo i te ti):=by
 intro pins s σ H D I h;obtain⟨v,e1,h⟩:=h;obtain⟨m,hn,hl⟩:=I.loc;have cG:yI X.env.scope x:=by rcases hx with k|k;exact .inl k;exact .inr (.inl k)
 obtain⟨u,r,l⟩:=hl i x v hi e1 cG;refine wpAny_AugAssign_Name ?_;have go:YM (model X.prog X.w) X.A (eval e X.env) (λw s₂=>YM (model X.prog X.w) X.A (inplaceOp op u w) (λr s₃=>YM (model X.prog X.w) X.A (storeName X.env x r) (λ_=>SP X pins D .next) X.xe s₃) X.xe s₂) X.xe s:=by
  refine bF (he pins s σ H _ I h) λw s1 ⟨y,H1,I1,r1,q1⟩=>?_;refine bF (ho pins s1 σ H1 v y u w _ I1 r r1 q1) λz s2 ⟨zv,H2,I2,r2,q2⟩=>?_;exact mO I2 hN hi hx r2 (λs3 I3=>⟨_,H2,I3,q2⟩) hf
 rcases l with⟨hk,hm⟩|⟨hk,c,hc,lH⟩
 ·exact wpAny_loadName_local I.ok.kind hk hn hm go
 ·rcases hk with hk|hk
  ·exact wpAny_loadName_cell I.ok.kind hk hc lH go
  ·rcases hx with k|k
   ·have:X.env.scope.names.lookup x=some .free:=hk;rw[k]at this;cases this
   ·have:X.env.scope.names.lookup x=some .free:=hk;rw[k]at this;cases this
end
section
variable {X:Cx}{pos:Pos}
def HW (c:TT)(tb:TS):TS:=λD σ H=>∃W:Nat->St->Hp->Prop,(∃m,W m σ H)/\∀m σ H,W m σ H ->
 c σ H λb H1=>if b=true then ∃N:St->Hp->Prop,(∀σ' H',N σ' H'->∃m',m'<m/\W m' σ' H')/\tb {D with nx:=N,ct:=N,bk:=D.nx} σ H1 else D.nx σ H1
theorem Bw {c:Expr}{body:List Stmt}{tc:TT}{tb:TS}(hp:PassesOwn (model X.prog X.w) X.A X.env X.xe)(hc:PT X c tc)(hb:sX X body tb):PS X (.While c body [] pos) (HW tc tb):=by
 intro pins s σ H D I h;obtain⟨W,⟨m0,w0⟩,turn⟩:=h;refine wpAny_While (codeAny_whileLoop (λn s'=>∃σ' H',Inv X pins σ' H' s'/\W n σ' H') ?_ m0 ⟨σ,H,I,w0⟩);rintro n s1 ⟨σ1,H1,I1,w1⟩;refine aam hp (bF (hc pins s1 σ1 H1 _ I1 (turn n σ1 H1 w1)) λb s2 ⟨H2,I2,q2⟩=>?_);cases b with
 |true =>
  obtain⟨N,hN,q2⟩:=q2;rw[if_pos rfl];refine aam hp (bF (hb pins s2 σ1 H2 _ I2 q2) λf s3 q3=>?_);cases f with
  |next =>
   obtain⟨σ3,H3,I3,n3⟩:=q3;obtain⟨m',hm,w3⟩:=hN σ3 H3 n3;exact⟨m',hm,σ3,H3,I3,w3⟩
  |cont =>
   obtain⟨σ3,H3,I3,n3⟩:=q3;obtain⟨m',hm,w3⟩:=hN σ3 H3 n3;exact⟨m',hm,σ3,H3,I3,w3⟩
  |brk=>exact q3
  |ret v=>exact q3
 |false =>
  rw[if_neg ZG];exact wpAny_execs_nil ⟨σ1,H2,I2,q2⟩
end
structure It where
 go:Nat->Hp->Prop
 Lo:Nat->Hp->V->Hp->Prop
 stop:Nat->Hp->Prop
def gV (X:Cx)(pins:List (Addr×Obj))(H:Hp)(b:Addr):Prop :=
 H b=none/\b≠X.env.locals/\b∉X.fs/\(b∈X.ex\/X.s₀.heap.objs.size<=b)/\(∀x c,X.env.cells.lookup x=some c->c≠b)/\∀p∈X.pn++pins,p.1≠b
theorem Inv.C1 {X:Cx}{pins:List (Addr×Obj)}{σ:St}{H H':Hp}{s:Yg}{b:Addr}(I:Inv X pins σ H s)(hb:s.heap.objs.size<=b)(hn:H' b=none):gV X pins H' b:=by
 refine⟨hn,Nat.ne_of_gt (Y2 I.lt hb),I.QU hb,.inr (YI I.sz hb),λx c e z=>?_,λp hp z=>?_⟩
 ·obtain⟨v,q⟩:=I.cell x c e;exact absurd (Y2 q.lt (by rw[z];exact hb)) (abc _)
 ·exact absurd (Y2 (YC (I.pin p hp).1) (by rw[z];exact hb)) (abc _)
structure Turn (P:Yk)(w:YB)(K:PySem.W.Frag)(tg:Expr)(J:It)(fp:List Addr)(it:Addr)(tn:Nat->Heap->Prop):Prop where
 mem:it∈fp
 obj:∀i h,tn i h->∀b∈fp,∃o,h.get? b=some o/\∀v,o.data≠.cell v
 keep:∀i h h',tn i h->(∀b∈fp,∀o,h.get? b=some o->h'.get? b=some o)->tn i h'
 item:∀(X:Cx),X.prog=P->X.w=w->X.K=K->X.calm=true->∀(i:Nat) (pins:List (Addr×Obj)) (s:Yg) (σ:St) (H:Hp) (E:Yc->Yg->Prop),Inv X pins σ H s->(∀b∈fp,gV X pins H b)->tn i s.heap->J.go i H ->
  YM (model P w) X.A (abm (.ref it)) (λr s1=>∃u,r=some u /\
   YM (model P w) X.A (letOwnedTupleGo tg (.ref it) u) (λ_ s2=>∃x H',Inv X pins σ H' s2/\RelV x u/\J.Lo i H x H'/\tn (i+1) s2.heap/\∀b∈fp,H' b=none) E s1) E s
 done:∀(X:Cx),X.prog=P->X.w=w->X.K=K->X.calm=true->∀(i:Nat) (pins:List (Addr×Obj)) (s:Yg) (σ:St) (H:Hp) (E:Yc->Yg->Prop),Inv X pins σ H s->(∀b∈fp,gV X pins H b)->tn i s.heap->J.stop i H ->
  YM (model P w) X.A (abm (.ref it)) (λr s1=>r=none/\Inv X pins σ H s1) E s
 self:∀(A:Zc) (i:Nat) (s:Yg) (Q:Yc->Yg->Prop) (E:Yc->Yg->Prop),tn i s.heap->Q (.ref it) s->YM (model P w) A (pyIter (.ref it)) Q E s
abbrev TI:=St->Hp->(It->Hp->Prop)->Prop
def P0 (X:Cx)(pins:List (Addr×Obj))(σ:St)(tg:Expr)(R:It->Hp->Prop)(G0:Yc)(s2:Yg):Prop :=
 ∃(it:Addr) (fp:List Addr) (tn:Nat->Heap->Prop) (J:It) (H':Hp),G0=.ref it/\Inv X pins σ H' s2/\Turn X.prog X.w X.K tg J fp it tn/\tn 0 s2.heap/\(∀b∈fp,gV X pins H' b)/\R J H'
def PI (X:Cx)(tg iter:Expr)(wi:TI):Prop :=
 ∀(pins:List (Addr×Obj)) (s:Yg) (σ:St) (H:Hp) (R:It->Hp->Prop),Inv X pins σ H s->wi σ H R ->
  YM (model X.prog X.w) X.A (eval iter X.env) (λv s1=>YM (model X.prog X.w) X.A (pyIter v) (P0 X pins σ tg R) X.xe s1) X.xe s
theorem CW {M:Model}{A:Zc}{E:Yc->Yg->Prop}{s:Yg}{tg:Expr}{it:Addr}{u:Yc}{o:Obj}{n:String}{vs:Array Yc}{Q:Unit->Yg->Prop}(ho:s.heap.get? it=some o)(hc:o.cls=.type n)(hd:o.data=.fields vs)
  (hn:["enumerate","zip","dict_itemiterator","dict_reverseitemiterator","odict_iterator","itertools.zip_longest","itertools.pairwise"].contains n=false) (hQ:Q () s):YM M A (letOwnedTupleGo tg (.ref it) u) Q E s:=by
 unfold letOwnedTupleGo;cases tg <;> first
  |exact Ym hQ
  | (cases u <;> first
    |exact Ym hQ
    | (refine Yd (wpAny_load ho ?_)
       rw[hc,hd];show YM M A (if (["enumerate","zip","dict_itemiterator","dict_reverseitemiterator","odict_iterator","itertools.zip_longest","itertools.pairwise"].contains n&&vs[0]?==some (rawInt _))=true then _ else _) Q E s
       rw[if_neg (by intro h;rw[hn,Bool.false_and]at h;cases h)]
       exact Ym hQ))
def P5 (K:PySem.W.Frag)(a:Addr):It :=
 ⟨λi H=>∃xs x,dh K H a xs/\xs[i]?=some x,λi H x H'=>H'=H/\∀xs,dh K H a xs->xs[i]?=some x,λi H=>∃xs,dh K H a xs/\xs.length<=i⟩
def OY (lo:Int)(n:Nat):It:=⟨λi _=>i<n,λi H x H'=>H'=H/\x=.int (lo+i),λi _=>n<=i⟩
theorem yN {P:Yk}{w:YB}{K:PySem.W.Frag}{tg:Expr}(a it:Addr):Turn P w K tg (P5 K a) [it] it (λi h=>h.IsListIter it a i) where
 mem:=by simp
 obj:=λi h st b hb=>by
  have e:b=it:=by simpa using hb
  subst e;obtain⟨o,e,c,d⟩:=st;exact⟨o,e,λv z=>by rw[d]at z;cases z⟩
 keep:=λi h h' st k=>st.at λo e=>k it (by simp) o e
 item:=by
  intro X hP hw hK hc i pins s σ H E I hf st hg;subst hP hw hK;obtain⟨xs,x,hq,hx⟩:=hg;obtain⟨its,rv,p,hz⟩:=I.list hq;obtain⟨u,hu,ru⟩:=rv.get hx;obtain⟨f0,f1,f2,f3,f4,f5⟩:=hf it (by simp)
  refine wpAny_pyNext_list_item st p.isList (x:=u) (by simpa using hu) λh' aC sb=>?_
  have I1:Inv X pins σ H {s with heap:=h'}:=I.turned (t':=s.toks) (λb o hb e=>(sb.2 b hb).trans e) f0 f1 f3 f4 f5
  obtain⟨o,e,c,d⟩:=id aC;exact⟨u,rfl,CW (s:={s with heap:=h'}) e c d (by decide) ⟨x,H,I1,ru,⟨rfl,λys hy=>by rw[I.Ce hy hq];exact hx⟩,aC,λb hb=>(hf b hb).1⟩⟩
 done:=by
  intro X hP hw hK hc i pins s σ H E I hf st hg;subst hP hw hK;obtain⟨xs,hq,hx⟩:=hg;obtain⟨its,rv,p,hz⟩:=I.list hq;obtain⟨f0,f1,f2,f3,f4,f5⟩:=hf it (by simp)
  have hl:=rv.length;exact wpAny_pyNext_list_end (I.ok.hd hc) st p.isList (by simp;lia) λh' eb=>⟨rfl,I.turned (t':=s.toks) (λb o hb e=>eb b o hb e) f0 f1 f3 f4 f5⟩
 self:=λ_ _ _ _ _ st h=>wpAny_pyIter_listiter st h
theorem vF {P:Yk}{w:YB}{K:PySem.W.Frag}{tg:Expr}(it:Addr)(lo:Int)(n:Nat):Turn P w K tg (OY lo n) [it] it (λi h=>IsRangeIter h it (lo+(i:Nat)*1) ((n:Int)-(i:Nat)) 1) where
 mem:=by simp
 obj:=λi h st b hb=>by
  have e:b=it:=by simpa using hb
  subst e;exact⟨_,st,λv z=>by
   have z':Data.fields _=Data.cell v:=z;cases z'⟩
 keep:=λi h h' st k=>k it (by simp) _ st
 item:=by
  intro X hP hw hK hc i pins s σ H E I hf st hg;subst hP hw hK;obtain⟨f0,f1,f2,f3,f4,f5⟩:=hf it (by simp)
  have W:=Walks.range (prog:=X.prog) (w:=X.w) (I.ok.hd hc) it lo 1 n;refine W.item i s _ _ hg st λv h' tk hv aC kk=>?_;obtain⟨t,rfl⟩:=hv;have I1:Inv X pins σ H {s with heap:=h',toks:=tk}:=I.turned (λb o hb e=>kk b o (by simpa using hb) e) f0 f1 f3 f4 f5
  refine⟨_,rfl,CW (s:={s with heap:=h',toks:=tk}) (n:="range_iterator") aC rfl rfl (by decide) ⟨.int (lo+i),H,I1,⟨t,?_⟩,⟨rfl,rfl⟩,aC,λb hb=>(hf b hb).1⟩⟩
  rw[Int.mul_one]
 done:=by
  intro X hP hw hK hc i pins s σ H E I hf st hg;subst hP hw hK;obtain⟨f0,f1,f2,f3,f4,f5⟩:=hf it (by simp)
  exact wpAny_pyNext_range_end (I.ok.hd hc) st (by have:n<=i:=hg;lia) λh' eb=>⟨rfl,I.turned (t':=s.toks) (λb o hb e=>eb b o hb e) f0 f1 f3 f4 f5⟩
 self:=λ_ _ _ _ _ st h=>wpAny_pyIter_rangeiter st h
section
variable {X:Cx}{tg:Expr}
def MK (K:PySem.W.Frag)(tl:TE):TI:=λσ H R=>tl σ H λx H1=>∃a,x=.ref a/\(∃xs,dh K H1 a xs)/\R (P5 K a) H1
theorem xH {l:Expr}{tl:TE}(hl:PE X l tl):PI X tg l (MK X.K tl):=by
 intro pins s σ H R I h;refine bF (hl pins s σ H _ I h) λv s1 ⟨x,H1,I1,r1,q1⟩=>?_;obtain⟨a,e,⟨xs,hq⟩,q⟩:=q1;subst e;cases r1;obtain⟨its,rv,p,hz⟩:=I1.list hq;refine wpAny_pyIter_list p.isList ?_;refine⟨s1.heap.objs.size,[s1.heap.objs.size],_,_,H1,rfl,I1.kept (t':=s1.toks) λb o e=>Yv _ e,yN a _,⟨_,Y0 _ rfl,rfl,rfl⟩,λb hb=>?_,q⟩;have e:b=s1.heap.objs.size:=by simpa using hb
 subst e;exact I1.C1 (Yh _) (I1.bV.fresh (Yh _))
theorem tN {pins:List (Addr×Obj)}{σ:St}{H:Hp}{s:Yg}{R:It->Hp->Prop}{E:Yc->Yg->Prop}{lo hi:Int}{t u v:Tok}{tk:Nat}(I:Inv X pins σ H s)(h1:-(2 ^ 62)<=lo)(h2:lo<2 ^ 62)(h3:-(2 ^ 62)<=hi)(h4:hi<2 ^ 62)
  (q:R (OY lo (hi-lo).toNat) H):YM (model X.prog X.w) X.A (pyIter (.ref s.heap.objs.size)) (P0 X pins σ tg R) E {s with heap:=s.heap.push {cls:=.type "range",data:=.fields #[.int lo t,.int hi u,.int 1 v]},toks:=tk}:=by
 refine wpAny_pyIter_range (IsRange.new ..) (small_one h1 h2 h3 h4) ?_;have I1:Inv X pins σ H {s with heap:=s.heap.push {cls:=.type "range",data:=.fields #[.int lo t,.int hi u,.int 1 v]},toks:=tk}:=I.kept λb o e=>Yv _ e
 refine⟨(s.heap.push {cls:=.type "range",data:=.fields #[.int lo t,.int hi u,.int 1 v]}).objs.size,[(s.heap.push {cls:=.type "range",data:=.fields #[.int lo t,.int hi u,.int 1 v]}).objs.size],_,_,H,rfl,
  I1.kept (t':=tk) λb o e=>Yv _ e,vF _ lo (hi-lo).toNat,?_,λb hb=>?_,q⟩
 ·have e1:lo+((0:Nat):Int)*1=lo:=by simp
  have e2:(((hi-lo).toNat:Nat):Int)-((0:Nat):Int)=aa1 lo hi 1:=by rw[rangeSize_one];split <;> lia
  show IsRangeIter _ _ (lo+((0:Nat):Int)*1) ((((hi-lo).toNat:Nat):Int)-((0:Nat):Int)) 1;rw[e1,e2];exact Y0 _ rfl
 ·have e:b=(s.heap.push {cls:=.type "range",data:=.fields #[.int lo t,.int hi u,.int 1 v]}).objs.size:=by simpa using hb
  subst e;exact I1.C1 (Yh _) (I1.bV.fresh (Yh _))
def MJ (ta:TA):TI:=λσ H R=>ta σ H λvs H1=>∃j:Int,vs=[.int j]/\-(2 ^ 62)<=j/\j<2 ^ 62/\R (OY 0 j.toNat) H1
def MI (ta:TA):TI:=λσ H R=>ta σ H λvs H1=>∃i j:Int,vs=[.int i,.int j]/\(-(2 ^ 62)<=i/\i<2 ^ 62/\-(2 ^ 62)<=j/\j<2 ^ 62)/\R (OY i (j-i).toNat) H1
theorem zm {a:Expr} {ta:TA} {p pos:Pos} (hg:Gl X "range") (hm:X.mg "range" = none) (ha:PA X [a] ta) (hs:YG [a] X.env=[(false,eval a X.env)]:=by rfl):PI X tg (.Call (.Name "range" p) [a] [] pos) (MJ ta):=by
 intro pins s σ H R I h;refine Call_ (kP I hg hm boot_range (Z7 (bF (ha pos pins s σ H _ I h) λus s1 ⟨vs,H1,I1,r1,q1⟩=>?_) hs rfl));obtain⟨j,e,q1,q2,q⟩:=q1;subst e;cases r1 with
 |cons r rr =>
  cases rr;obtain⟨t,rfl⟩:=r;exact call_range_1 (tN I1 (by lia) (by lia) q1 q2 (by simpa using q))
theorem qd {a b:Expr} {ta:TA} {p pos:Pos} (hg:Gl X "range") (hm:X.mg "range" = none) (ha:PA X [a,b] ta) (hs:YG [a,b] X.env=[(false,eval a X.env),(false,eval b X.env)]:=by rfl) (sS:YG [b] X.env=[(false,eval b X.env)]:=by rfl) :
  PI X tg (.Call (.Name "range" p) [a,b] [] pos) (MI ta):=by
 intro pins s σ H R I h;refine Call_ (kP I hg hm boot_range (Z7 (bF (ha pos pins s σ H _ I h) λus s1 ⟨vs,H1,I1,r1,q1⟩=>?_) (by rw[hs,sS]) (by rw[sS];rfl)))
 obtain⟨i,j,e,⟨q1,q2,q3,q4⟩,q⟩:=q1;subst e;cases r1 with
 |cons r rr =>
  cases rr with
  |cons r' rr =>
   cases rr;obtain⟨t,rfl⟩:=r;obtain⟨t',rfl⟩:=r';exact call_range_2 (tN I1 q1 q2 q3 q4 q)
def Ql (wi:TI)(g:TG)(tb:TS):TS:=λD σ H=>wi σ H λJ H1=>∃W:Nat->Nat->St->Hp->Prop,(∃m,W 0 m σ H1)/\∀i m σ H,W i m σ H ->
 (J.stop i H/\D.nx σ H)\/(J.go i H/\∃N:St->Hp->Prop,(∀σ' H',N σ' H'->∃m',m'<m/\W (i+1) m' σ' H')/\∀x H',J.Lo i H x H'->g x σ H' λσ2 H2=>tb {D with nx:=N,ct:=N,bk:=D.nx} σ2 H2)
def nc (fp:List Addr)(h:Heap):List (Addr×Obj):=fp.filterMap λb=>(h.get? b).map λo=>(b,o)
theorem fV {fp:List Addr}{h:Heap}{b:Addr}{o:Obj}(hb:b∈fp)(e:h.get? b=some o):(b,o)∈nc fp h:=abp.mpr ⟨b,hb,by rw[e];rfl⟩
theorem zA {fp:List Addr}{h:Heap}{p:Addr×Obj}(hp:p∈nc fp h):p.1∈fp/\h.get? p.1=some p.2:=by
 obtain⟨b,hb,e⟩:=abp.mp hp;cases q:h.get? b with
 |none=>rw[q]at e;cases e
 |some o =>
  rw[q]at e;have e':(b,o)=p:=YU e;subst e';exact⟨hb,q⟩
theorem Inv.pinned {pins:List (Addr×Obj)}{σ:St}{H:Hp}{s:Yg}{fp:List Addr}(I:Inv X pins σ H s)(hf:∀b∈fp,gV X pins H b)(ho:∀b∈fp,∃o,s.heap.get? b=some o/\∀v,o.data≠.cell v):Inv X (pins++nc fp s.heap) σ H s :=
 I.xF λp hp=>(YL.mp hp).elim (λz=>I.pin p (Y4 _ z)) λz=>by
  obtain⟨hb,e⟩:=zA z;obtain⟨f0,f1,f2,_⟩:=hf p.1 hb;obtain⟨o,e',d⟩:=ho p.1 hb;rw[e]at e';cases e';exact⟨e,f0,f1,f2,d⟩
theorem Inv.jg {pins pl:List (Addr×Obj)}{σ:St}{H:Hp}{s:Yg}(I:Inv X (pins++pl) σ H s):Inv X pins σ H s:=I.xF λp hp=>I.pin p (Y4 _ (ZR _ hp))
theorem By {iter:Expr}{body:List Stmt}{wi:TI}{g:TG}{tb:TS}{pos:Pos}(hp:PassesOwn (model X.prog X.w) X.A X.env X.xe)(hc:X.calm=true)(hi:PI X tg iter wi)(hg:PG X tg g)(hb:sX X body tb)
  (hs:∀x,Zo iter X.env x=pure x:=by intro _;rfl):PS X (.For tg iter body [] pos) (Ql wi g tb):=by
 intro pins s σ H D I h;refine wpAny_For (bF (hi pins s σ H _ I h) λv s1 h1=>bF h1 λG0 s2 h2=>?_) hs;obtain⟨it,fp,tn,J,H2,e,I2,T,gm,f2,W,⟨m0,w0⟩,turn⟩:=h2;subst e;have vJ:∀{H':Hp},(∀b∈fp,H' b=none)->∀b∈fp,gV X pins H' b:=λhn b hb=>⟨hn b hb,(f2 b hb).2⟩;refine codeAny_forLoop_any (λn s'=>∃i σ' H',Inv X pins σ' H' s'/\tn i s'.heap/\(∀b∈fp,H' b=none)/\W i n σ' H') ?_ m0 ⟨0,σ,H2,I2,gm,λb hb=>(f2 b hb).1,w0⟩;rintro n s3 ⟨i,σ3,H3,I3,mP,Og,w3⟩;rcases turn i n σ3 H3 w3 with⟨stop,qn⟩|⟨go,N,hN,step⟩
 ·refine aam hp (bF (T.done X rfl rfl rfl hc i pins s3 σ3 H3 X.xe I3 (vJ Og) mP stop) λr s4 ⟨hr,I4⟩=>?_);subst hr;exact wpAny_execs_nil ⟨σ3,H3,I4,qn⟩
 ·refine aam hp (bF (T.item X rfl rfl rfl hc i pins s3 σ3 H3 X.xe I3 (vJ Og) mP go) λr s4 ⟨u,hr,h4⟩=>?_);subst hr;refine aam hp (bF h4 λ_ s5 ⟨x,H5,I5,r5,y5,HZ,SG⟩=>?_);have Te:=I5.pinned (vJ SG) (T.obj _ _ HZ);refine aam hp (bF (hg _ s5 σ3 H5 x u _ Te r5 (step x H5 y5)) λ_ s6 ⟨σ6,H6,I6,q6⟩=>?_);refine aam hp (bF (hb _ s6 σ6 H6 _ I6 q6) λf s7 q7=>?_);have again:∀{σ7:St} {H7:Hp},Inv X (pins++nc fp s5.heap) σ7 H7 s7->N σ7 H7->∃m,m<n/\∃i σ' H',Inv X pins σ' H' s7/\tn i s7.heap/\(∀b∈fp,H' b=none)/\W i m σ' H':=λ{σ7 H7} I7 n7=>by
   obtain⟨m',hm,w7⟩:=hN σ7 H7 n7;refine⟨m',hm,i+1,σ7,H7,I7.jg,T.keep _ _ _ HZ λb hb o e=>(I7.pin (b,o) (Y4 _ (Y4 _ (fV hb e)))).1,λb hb=>?_,w7⟩;obtain⟨o,e,d⟩:=T.obj _ _ HZ b hb;exact(I7.pin (b,o) (Y4 _ (Y4 _ (fV hb e)))).2.1
  cases f with
  |next=>obtain⟨σ7,H7,I7,n7⟩:=q7;exact again I7 n7
  |cont=>obtain⟨σ7,H7,I7,n7⟩:=q7;exact again I7 n7
  |brk=>obtain⟨σ7,H7,I7,q7⟩:=q7;exact⟨σ7,H7,I7.jg,q7⟩
  |ret v=>obtain⟨x7,σ7,H7,I7,r7,q7⟩:=q7;exact⟨x7,σ7,H7,I7.jg,r7,q7⟩
end
abbrev R2:=V->V->Hp->VK->Prop
def gU (X:Cx)(f:Yc->Yc->Sem Yc)(r:R2):Prop :=
 ∀(pins:List (Addr×Obj)) (s:Yg) (σ:St) (H:Hp) (x y:V) (v u:Yc) (Q:VK),Inv X pins σ H s->RelV x v->RelV y u->r x y H Q ->
  YM (model X.prog X.w) X.A (f v u) (EP X pins σ Q) X.xe s
def ON (X:Cx)(f:Yc->Sem Yc)(r:V->Hp->VK->Prop):Prop :=
 ∀(pins:List (Addr×Obj)) (s:Yg) (σ:St) (H:Hp) (x:V) (v:Yc) (Q:VK),Inv X pins σ H s->RelV x v->r x H Q ->
  YM (model X.prog X.w) X.A (f v) (EP X pins σ Q) X.xe s
def fI (X:Cx)(f:Yc)(r:List V->Hp->VK->Prop):Prop :=
 ∀(pins:List (Addr×Obj)) (s:Yg) (σ:St) (H:Hp) (xs:List V) (us:List Yc) (Q:VK),Inv X pins σ H s->Vals xs us->r xs H Q ->
  YM (model X.prog X.w) X.A (call f us) (EP X pins σ Q) X.xe s
def S8 (X:Cx)(r:V->Hp->(Bool->Hp->Prop)->Prop):Prop :=
 ∀(pins:List (Addr×Obj)) (s:Yg) (σ:St) (H:Hp) (x:V) (v:Yc) (Q:Bool->Hp->Prop),Inv X pins σ H s->RelV x v->r x H Q ->
  YM (model X.prog X.w) X.A (truthy v) (TP X pins σ Q) X.xe s
def Lz (r:R2)(ta tb:TE):TE:=λσ H Q=>ta σ H λx H1=>tb σ H1 λy H2=>r x y H2 Q
def U4 (r:V->Hp->VK->Prop)(ta:TE):TE:=λσ H Q=>ta σ H λx H1=>r x H1 Q
def rI (C:Int->Int->Prop)(g:Int->Int->V):R2:=λx y H Q=>∃i j,x=.int i/\y=.int j/\C i j/\Q (g i j) H
def xw (g:Int->Int->V):R2:=λx y H Q=>∃i j,x=.int i/\y=.int j/\Q (g i j) H
def rU (g:Int->V):V->Hp->VK->Prop:=λx H Q=>∃i,x=.int i/\Q (g i) H
section
variable {X:Cx}{a b:Expr}{ta tb:TE}{pos:Pos}
theorem KD (ha:PE X a ta)(hb:PE X b tb){pins:List (Addr×Obj)}{s:Yg}{σ:St}{H:Hp}{R:V->V->Hp->Prop}(I:Inv X pins σ H s)
  (h:ta σ H λx H1=>tb σ H1 λy H2=>R x y H2) {Q:Yc->Yg->Prop} {f:Yc->Yc->Sem Yc}
  (hf:∀v u s2 x y H2,Inv X pins σ H2 s2->RelV x v->RelV y u->R x y H2->YM (model X.prog X.w) X.A (f v u) Q X.xe s2) :
  YM (model X.prog X.w) X.A (eval a X.env) (λv s₁=>YM (model X.prog X.w) X.A (eval b X.env) (λu s₂=>YM (model X.prog X.w) X.A (f v u) Q X.xe s₂) X.xe s₁) X.xe s:=by
 refine bF (ha pins s σ H _ I h) λv s1 ⟨x,H1,I1,r1,q1⟩=>?_;refine bF (hb pins s1 σ H1 _ I1 q1) λu s2 ⟨y,H2,I2,r2,q2⟩=>?_;exact hf v u s2 x y H2 I2 r1 r2 q2
theorem cg {op:Operator}{r:R2}(ho:gU X (Z5 op) r)(ha:PE X a ta)(hb:PE X b tb):PE X (.BinOp a op b pos) (Lz r ta tb):=by
 intro pins s σ H Q I h;exact wpAny_BinOp (KD ha hb I h λv u s2 x y H2 I2 rx ry q=>ho pins s2 σ H2 x y v u Q I2 rx ry q)
theorem L5 {op:UnaryOp}{r:V->Hp->VK->Prop}(ho:ON X (unaryOp op) r)(ha:PE X a ta):PE X (.UnaryOp op a pos) (U4 r ta):=by
 intro pins s σ H Q I h;exact UnaryOp_ (bF (ha pins s σ H _ I h) λv s1 JT=> by obtain⟨x,H1,I1,r1,q1⟩ := JT;exact ho pins s1 σ H1 x v Q I1 r1 q1)
theorem L9 {f:Yc->Yc->Sem Yc}{C:Int->Int->Prop}{g:Int->Int->Int}
  (rule:∀(i j:Int) (t u:Tok) (s:Yg) (Q:Yc->Yg->Prop) (E:Yc->Yg->Prop),C i j->Q (.int (g i j) s.toks) {s with toks:=s.toks+1}->YM (model X.prog X.w) X.A (f (.int i t) (.int j u)) Q E s) :
  gU X f (rI C λi j=>.int (g i j)):=by
 intro pins s σ H x y v u Q I rx ry h;obtain⟨i,j,rfl,rfl,hc,q⟩:=h;obtain⟨t,rfl⟩:=rx;obtain⟨t',rfl⟩:=ry;exact rule i j t t' s _ _ hc ⟨.int (g i j),H,I.tok _,⟨_,rfl⟩,q⟩
theorem EV {f:Yc->Yc->Sem Yc}{g:Int->Int->Int}
  (rule:∀(i j:Int) (t u:Tok) (s:Yg) (Q:Yc->Yg->Prop) (E:Yc->Yg->Prop),Q (.int (g i j) s.toks) {s with toks:=s.toks+1}->YM (model X.prog X.w) X.A (f (.int i t) (.int j u)) Q E s) :
  gU X f (xw λi j=>.int (g i j)):=by
 intro pins s σ H x y v u Q I rx ry h;obtain⟨i,j,rfl,rfl,q⟩:=h;obtain⟨t,rfl⟩:=rx;obtain⟨t',rfl⟩:=ry;exact rule i j t t' s _ _ ⟨.int (g i j),H,I.tok _,⟨_,rfl⟩,q⟩
theorem EW {f:Yc->Yc->Sem Yc}{g:Int->Int->Bool}
  (rule:∀(i j:Int) (t u:Tok) (s:Yg) (Q:Yc->Yg->Prop) (E:Yc->Yg->Prop),Q (.bool (g i j)) s->YM (model X.prog X.w) X.A (f (.int i t) (.int j u)) Q E s) :
  gU X f (xw λi j=>.bl (g i j)):=by
 intro pins s σ H x y v u Q I rx ry h;obtain⟨i,j,rfl,rfl,q⟩:=h;obtain⟨t,rfl⟩:=rx;obtain⟨t',rfl⟩:=ry;exact rule i j t t' s _ _ ⟨.bl (g i j),H,I,rfl,q⟩
def Gv (i j:Int):Prop:=0<=j/\j<=1000000/\i.natAbs<2 ^ 64
def lU (i j:Int):Prop:=(-(2 ^ 64)<i/\i<2 ^ 64)\/(-(2 ^ 64)<j/\j<2 ^ 64)
theorem lU.ok {i j:Int}(h:lU i j):IntMulOk i j:=by
 rcases h with⟨h1,h2⟩|⟨h1,h2⟩
 ·exact .of_left (intBits_le_64 h1 h2)
 ·exact .of_right (intBits_le_64 h1 h2)
theorem rX:gU X (Z5 .Add) (xw λi j=>.int (i+j)):=EV λ_ _ _ _ _ _ _ q=>add_int q
theorem BO:gU X (Z5 .Sub) (xw λi j=>.int (i-j)):=EV λ_ _ _ _ _ _ _ q=>sub_int q
theorem kG:gU X (Z5 .Mult) (rI lU λi j=>.int (i*j)):=L9 λ_ _ _ _ _ _ _ hc q=>mul_int q hc.ok
theorem gN:gU X (Z5 .Mod) (rI (λ_ j=>0<j) λi j=>.int (i % j)):=L9 λi j _ _ _ _ _ hc q=>by
 have h1:(0:Int)<j:=hc;exact mod_int' (by lia) (by rw[Int.fmod_eq_emod_of_nonneg i (by lia)];exact q)
theorem IS:gU X (Z5 .Pow) (rI Gv λi j=>.int (i ^ j.toNat)):=L9 λ_ _ _ _ _ _ _ hc q=>pow_int_small hc.1 hc.2.1 hc.2.2 q
theorem Fq:gU X (inplaceOp .Add) (xw λi j=>.int (i+j)):=EV λ_ _ _ _ _ _ _ q=>iadd_int q
theorem xX:gU X (inplaceOp .Sub) (xw λi j=>.int (i-j)):=EV λ_ _ _ _ _ _ _ q=>isub_int q
theorem UZ {f:Yc->Sem Yc}{g:Int->Int}
  (rule:∀(i:Int) (t:Tok) (s:Yg) (Q:Yc->Yg->Prop) (E:Yc->Yg->Prop),Q (.int (g i) s.toks) {s with toks:=s.toks+1}->YM (model X.prog X.w) X.A (f (.int i t)) Q E s) :
  ON X f (rU λi=>.int (g i)):=by
 intro pins s σ H x v Q I rx h;obtain⟨i,rfl,q⟩:=h;obtain⟨t,rfl⟩:=rx;exact rule i t s _ _ ⟨.int (g i),H,I.tok _,⟨_,rfl⟩,q⟩
theorem HN:ON X (unaryOp .USub) (rU λi=>.int (-i)):=UZ λ_ _ _ _ _ q=>neg_int q
end
section
variable {X:Cx}{a b c:Expr}{ta tb:TE}{pos:Pos}
theorem C4 {pins:List (Addr×Obj)}{σ:St}{H:Hp}{s:Yg}{Q:VK}{k k':Bool}(I:Inv X pins σ H s)(q:Q (.bl k) H)(e:k=k'):EP X pins σ Q (.bool k') s:=by
 subst e;exact⟨.bl k,H,I,rfl,q⟩
theorem BP:gU X (Y7 .Lt) (xw λi j=>.bl (decide (i<j))):=EW λ_ _ _ _ _ _ _ q=>lt_int q
theorem GG:gU X (Y7 .LtE) (xw λi j=>.bl (decide (i<=j))):=EW λ_ _ _ _ _ _ _ q=>le_int q
theorem BQ:gU X (Y7 .Gt) (xw λi j=>.bl (decide (j<i))):=EW λ_ _ _ _ _ _ _ q=>gt_int q
theorem L8:gU X (Y7 .GtE) (xw λi j=>.bl (decide (j<=i))):=EW λ_ _ _ _ _ _ _ q=>ge_int q
theorem IT:gU X (Y7 .Is) (λx y H Q=>y=.cX/\Q (.bl (decide (x=.cX))) H):=by
 intro pins s σ H x y v u Q I rx ry h;obtain⟨rfl,q⟩:=h;cases ry;refine is_none_gen (C4 I q ?_);cases x <;> first
  | (cases rx;rfl)
  | (obtain⟨t,rfl⟩:=rx;rfl)
theorem EO:gU X (Y7 .IsNot) (λx y H Q=>y=.cX/\Q (.bl (!decide (x=.cX))) H):=by
 intro pins s σ H x y v u Q I rx ry h;obtain⟨rfl,q⟩:=h;cases ry;refine isnot_none_gen (C4 I q ?_);cases x <;> first
  | (cases rx;rfl)
  | (obtain⟨t,rfl⟩:=rx;rfl)
theorem B6 (b:Expr){op:aa8}(h:op≠.In:=by decide)(h2:op≠.NotIn:=by decide):aao op b=false:=by
 have e1:(op==CmpOp.In)=false:=by cases op <;> first|rfl|exact absurd rfl h
 have e2:(op==CmpOp.NotIn)=false:=by cases op <;> first|rfl|exact absurd rfl h2
 cases b <;> simp[aao,e1,e2]
theorem EI {op:aa8}{r:R2}(ho:gU X (Y7 op) r)(ha:PE X a ta)(hb:PE X b tb)(hm:aao op b=false):PE X (.Compare a [op] [b] pos) (Lz r ta tb):=by
 intro pins s σ H Q I h;exact wpAny_Compare1 (KD ha hb I h λv u s2 x y H2 I2 rx ry q=>ho pins s2 σ H2 x y v u Q I2 rx ry q) hm
def Lx (t:TE):TT:=λσ H Q=>t σ H λx H'=>∃k,x=.bl k/\Q k H'
theorem rH {op:aa8}{r:R2}(ho:gU X (Y7 op) r)(ha:PE X a ta)(hb:PE X b tb)(hm:aao op b=false):PT X (.Compare a [op] [b] pos) (Lx (Lz r ta tb)):=by
 intro pins s σ H Q I h;refine wpAny_isTrue_Compare1 (bF (ha pins s σ H _ I h) λv s1 ⟨x,H1,I1,r1,q1⟩=>bF (hb pins s1 σ H1 _ I1 q1) λu s2 ⟨y,H2,I2,r2,q2⟩ =>
  bF (ho pins s2 σ H2 x y v u _ I2 r1 r2 q2) λc s3 ⟨z,H3,I3,r3,k,e,q3⟩=>?_) hm
 subst e;cases r3;exact aab ⟨H3,I3,q3⟩
def OO (K:PySem.W.Frag)(x:V)(H:Hp)(k:Bool):Prop :=
 match x with
 |.cX=>k=false
 |.bl b=>k=b
 |.int i=>k=(i != 0)
 |.str y=>y.length<=Yy/\k=((y.length:Int) != 0)
 |.OJ y=>y.size<=Yy/\k=((y.size:Int) != 0)
 |.ref p=>(∃xs,dh K H p xs/\k=!xs.isEmpty)\/(∃xs,sM K H p xs/\k=!xs.isEmpty)\/∃kvs,H p=some (.dK kvs)/\k=!kvs.isEmpty
 |_=>False
theorem wt {κ:Type}{kvs:List (κ×V)}{vs:List (κ×Yc)}(r:KV kvs vs):(!vs.isEmpty)=!kvs.isEmpty:=by
 cases r <;> rfl
theorem nU {xs:List V}{its:List Yc}(r:Vals xs its):(!its.toArray.isEmpty)=!xs.isEmpty:=by
 cases r <;> simp
theorem nL:(Yy:Nat)<2 ^ 63:=by rw[Zv];decide
theorem HR:S8 X (λx H Q=>∃k,OO X.K x H k/\Q k H):=by
 intro pins s σ H x v Q I rx h;obtain⟨k,e,q⟩:=h;have hl:=nL;have hs:Yy=16777216:=Zv;cases x with
 |cX =>
  cases rx;have e':k=false:=e;subst e';exact truthy_none ⟨H,I,q⟩
 |bl b =>
  cases rx;have e':k=b:=e;subst e';exact aab ⟨H,I,q⟩
 |int i =>
  obtain⟨t,rfl⟩:=rx;have e':k=(i != 0):=e;subst e';exact PySem.P.truthy_int ⟨H,I,q⟩
 |str y =>
  obtain⟨t,rfl⟩:=rx;obtain⟨hy,e'⟩:y.length<=Yy/\k=((y.length:Int) != 0):=e;subst e';exact PySem.P.truthy_str (by lia) ⟨H,I.tok _,q⟩
 |OJ y =>
  obtain⟨t,rfl⟩:=rx;obtain⟨hy,e'⟩:y.size<=Yy/\k=((y.size:Int) != 0):=e;subst e';exact PySem.W.truthy_bytes (by lia) ⟨H,I.tok _,q⟩
 |ref p =>
  cases rx;have e':(∃xs,dh X.K H p xs/\k=!xs.isEmpty)\/(∃xs,sM X.K H p xs/\k=!xs.isEmpty)\/∃kvs,H p=some (.dK kvs)/\k=!kvs.isEmpty:=e;rcases e' with⟨xs,hx,e'⟩|⟨xs,hx,e'⟩|⟨kvs,hx,e'⟩
  ·subst e';obtain⟨its,r,pl,hz⟩:=I.list hx;have hlen:=r.length;exact wpAny_truthy_list pl.isList (by simp only[YJ];lia) ⟨H,I.tok _,by rw[nU r];exact q⟩
  ·subst e';obtain⟨its,r,pl,hz⟩:=I.tuple hx;have hlen:=r.length;exact truthy_tuple pl (by simp only[YJ];lia) ⟨H,I.tok _,by rw[nU r];exact q⟩
  ·subst e';obtain⟨hz,hS,vs,r,m⟩:kvs.length<=Yy/\(p==Z8)=false/\∃vs,KV kvs vs/\s.heap.DictOf (bR X.prog X.w) p vs:=I.bV p _ hx;have hlen:kvs.length=vs.length:=Paired.length r;exact wpAny_truthy_dict hS m (by lia) ⟨H,I.tok _,by rw[wt r];exact q⟩
 |_=>exact(show False from e).elim
theorem Br (ha:PE X a ta)(he:∀whole,isTrue a X.env whole=(do let v <- whole;standAt a.pos;holding [v] (truthy v))):
  PT X a (λσ H Q=>ta σ H λx H'=>∃k,OO X.K x H' k/\Q k H'):=by
 intro pins s σ H Q I h;exact isTrue_plain (bF (ha pins s σ H _ I h) λv s1 JQ=> by obtain⟨x,H1,I1,r1,q1⟩ := JQ;exact HR pins s1 σ H1 x v Q I1 r1 q1) (he _)
theorem vals1 {x:V}{us:List Yc}(r:Vals [x] us):∃u,us=[u]/\RelV x u:=by
 cases r with
 |cons r1 r2=>cases r2;exact⟨_,rfl,r1⟩
theorem vals2 {x y:V}{us:List Yc}(r:Vals [x,y] us):∃u w',us=[u,w']/\RelV x u/\RelV y w':=by
 cases r with
 |cons r1 r2 =>
  cases r2 with
  |cons r3 r4=>cases r4;exact⟨_,_,rfl,r1,r3⟩
theorem qM (hc:X.calm=true):fI X (.builtin "max") (λxs H Q=>∃i j,xs=[.int i,.int j]/\Q (.int (if j>i then j else i)) H):=by
 intro pins s σ H xs us Q I r h;obtain⟨i,j,rfl,q⟩:=h;obtain⟨u,w',rfl,⟨t,rfl⟩,⟨t',rfl⟩⟩:=vals2 r;refine max_two_ints (I.ok.hd hc) λh' tk k=>⟨_,H,I.kept k,?_,q⟩
 by_cases hj:j>i
 ·rw[if_pos hj,if_pos hj];exact⟨_,rfl⟩
 ·rw[if_neg hj,if_neg hj];exact⟨_,rfl⟩
theorem Ag (hc:X.calm=true):fI X (.builtin "min") (λxs H Q=>∃i j,xs=[.int i,.int j]/\Q (.int (if j<i then j else i)) H):=by
 intro pins s σ H xs us Q I r h;obtain⟨i,j,rfl,q⟩:=h;obtain⟨u,w',rfl,⟨t,rfl⟩,⟨t',rfl⟩⟩:=vals2 r;refine min_two_ints (I.ok.hd hc) λh' tk k=>⟨_,H,I.kept k,?_,q⟩
 by_cases hj:j<i
 ·rw[if_pos hj,if_pos hj];exact⟨_,rfl⟩
 ·rw[if_neg hj,if_neg hj];exact⟨_,rfl⟩
theorem qN:fI X (.type "int") (λxs H Q=>(∃i,xs=[.int i]/\Q (.int i) H)\/∃k,xs=[.bl k]/\Q (.int (if k then 1 else 0)) H):=by
 intro pins s σ H xs us Q I r h;rcases h with⟨i,rfl,q⟩|⟨k,rfl,q⟩
 ·obtain⟨u,rfl,t,rfl⟩:=vals1 r;exact call_int_int ⟨.int i,H,I,⟨_,rfl⟩,q⟩
 ·obtain⟨u,rfl,r1⟩:=vals1 r;cases r1;exact call_int_bool ⟨.int (if k then 1 else 0),H,I.tok _,⟨_,rfl⟩,q⟩
end
section
end
theorem pM.some_of {v:V}{o:Option Yc}(r:pM (some v) o):∃u,o=some u/\RelV v u:=by
 cases o with
 |none=>exact(show False from r).elim
 |some u=>exact⟨u,rfl,r⟩
section
end
section
end
section
end
section
end
structure cU (k:Nat)(A:Zc):Prop where
 hd:A.handled=none
 dp:A.depth+3*k+5<recursionLimit
 un:A.units+16*k+200<aan
theorem cU.mono {j k:Nat}{A:Zc}(r:cU k A)(h:j<=k):cU j A:=⟨r.hd,by have:=r.dp;lia,by have:=r.un;lia⟩
theorem cU.deeper {k:Nat}{A:Zc}(r:cU (k+1) A)(env:Env):cU k (A.deeper env) :=
 ⟨r.hd,by have:=r.dp;show A.depth+1+3*k+5<_;lia,by have:=r.un;show A.units+3+16*k+200<_;lia⟩
theorem cU.depth {k:Nat}{A:Zc}(r:cU k A):A.depth<recursionLimit:=by have:=r.dp;lia
theorem cU.units {k:Nat}{A:Zc}(r:cU k A):A.units+64<aan:=by have:=r.un;lia
theorem cU.mH {k:Nat}{A:Zc}(r:cU k A):A.units<aan:=by have:=r.un;lia
def LA:TA:=λ_ H Q=>Q [] H
def Gz (ta:TE)(tr:TA):TA:=λσ H Q=>ta σ H λx H1=>tr σ H1 λxs H2=>Q (x::xs) H2
section
variable {X:Cx}{e:Expr}{es:List Expr}{te:TE}{t:TA}{pos:Pos}
theorem dy:PA X [] LA:=λ_ _ _ _ H Q I h=>Calls.spliced_nil ⟨[],H,I,.nil,h⟩
theorem br (ha:PE X e te)(hr:PA X es t)(hs:YG (e::es) X.env=(false,eval e X.env)::YG es X.env:=by rfl):PA X (e::es) (Gz te t):=by
 intro pos pins s σ H Q I h;rw[hs];show YM _ _ (spliced ((false,eval e X.env)::aav pos (YG es X.env))) _ _ s;refine Calls.spliced_cons (bF (ha pins s σ H _ I h) λu s1 ⟨x,H1,I1,r1,q1⟩=>?_);exact bF (hr pos pins s1 σ H1 _ I1 q1) λus s2 ⟨xs,H2,I2,r2,q2⟩=>⟨x::xs,H2,I2,.cons r1 r2,q2⟩
def Qd (t:TA):TE:=λσ H Q=>t σ H λxs H1=>xs.length<=Yy/\∀p,H1 p=none->Q (.ref p) (upd H1 p (.tup xs))
def Qi (t:TA):TE:=λσ H Q=>t σ H λxs H1=>xs.length<=Yy/\∀p,H1 p=none->Q (.ref p) (upd H1 p (.lst xs))
theorem IG {x1}(h:PA X es t):PE X (.Tuple es x1 pos) (Qd t):=by
 intro pins s σ H Q I hq;refine wpAny_Tuple_spliced (bF (h pos pins s σ H _ I hq) λus s1 ⟨xs,H1,I1,r,z,q⟩=>⟨by rw[<- r.length];exact z,?_⟩)
 have hf:H1 s1.heap.objs.size=none:=I1.bV.fresh (Yh _);refine⟨.ref s1.heap.objs.size,upd H1 s1.heap.objs.size (.tup xs),I1.laid (t':=s1.toks) (λb u e=>Yv _ e) (Yh _) ?_,rfl,q _ hf⟩;exact⟨z,us,r,⟨_,Y0 _ rfl,rfl,_,rfl⟩⟩
theorem vY (h:PA X es t):PE X (.List es pos) (Qi t):=by
 intro pins s σ H Q I hq;refine wpAny_List_spliced (bF (h pos pins s σ H _ I hq) λus s1 ⟨xs,H1,I1,r,z,q⟩=>⟨by rw[<- r.length];exact z,?_⟩)
 have hf:H1 s1.heap.objs.size=none:=I1.bV.fresh (Yh _);refine⟨.ref s1.heap.objs.size,upd H1 s1.heap.objs.size (.lst xs),I1.laid (t':=s1.toks) (λb u e=>Yv _ e) (Yh _) ?_,rfl,q _ hf⟩;exact⟨z,us,0,r,Y0 _ rfl⟩
end
abbrev Sp:=List V->Hp->VK->XK->Prop
abbrev DL:=List Env->Hp->Yg->XK->Yc->Yg->Prop
structure Gr (P:Yk)(w:YB)(K:PySem.W.Frag)(mg:Str->Option Yc)(base:Heap)(A:Zc)(outer:List Env)(s:Yg)(H:Hp):Prop where
 frames:A.frames=some outer
 mod:Mod K mg base
 bs:∀b o,base.get? b=some o->s.heap.get? b=some o/\H b=none
 Hm:base.objs.size<=s.heap.objs.size
 n9:s.heap.FunFrames base outer
 Lb:∀b∈C0 outer,H b=none
 bV:i9 P w H s.heap
 bare:AllBare s.gens
def CE (outer:List Env)(P:Yk)(w:YB)(H:Hp)(s:Yg)(Q:VK)(u:Yc)(s':Yg):Prop :=
 ∃v H',s'.os=s.os/\AllBare s'.gens/\Un (C0 outer) [] H H' s.heap s'.heap/\i9 P w H' s'.heap/\RelV v u/\Q v H'
def CR (CX:DL)(outer:List Env)(P:Yk)(w:YB)(H:Hp)(s:Yg)(Q:VK)(E:XK)(r:Result)(s':Yg):Prop :=
 match r with
 |.ok (.ret u)=>CE outer P w H s Q u s'
 |.ok _=>False
 |.error e=>CX outer H s E e s'
structure aH (P:Yk)(w:YB)(K:PySem.W.Frag)(mg:Str->Option Yc)(base:Heap)(CX:DL)(k:Nat)(f:Addr)(fd:YY)(ps:List Str)(sp:Sp):Prop where
 len:∀vs H Q E,sp vs H Q E->vs.length=ps.length
 run:∀(A:Zc) (outer:List Env) (s:Yg) (H:Hp) (args:Args) (us:List Yc) (vs:List V) (Q:VK) (E:XK),cU k A->Gr P w K mg base A outer s H->BindsTo s fd args (ps.zip us)->Vals vs us->sp vs H Q E ->
  abx (model P w) A (.call (.ref f) args) (CR CX outer P w H s Q E) s
theorem aH.imp {P:Yk}{w:YB}{K:PySem.W.Frag}{mg:Str->Option Yc}{base:Heap}{CX:DL}{k:Nat}{f:Addr}{fd:YY}{ps:List Str}{sp Tw:Sp}(F:aH P w K mg base CX k f fd ps sp)
  (h:∀vs H Q E,Tw vs H Q E->sp vs H Q E):aH P w K mg base CX k f fd ps Tw :=
 ⟨λvs H Q E q=>F.len vs H Q E (h _ _ _ _ q),λA outer s H args us vs Q E hr he hb hv hs=>F.run A outer s H args us vs Q E hr he hb hv (h _ _ _ _ hs)⟩
section
variable {X:Cx}{pins:List (Addr×Obj)}{σ:St}{H:Hp}{s s':Yg}
theorem Inv.SV (I:Inv X pins σ H s):Gr X.prog X.w X.K X.mg X.base X.A X.stack s H :=
 ⟨I.ok.frames,I.ok.mod,I.bs,YI I.ok.Hm I.sz,I.stack,I.xn,I.bV,I.bare⟩
theorem Inv.after {Q:VK}{u:Yc}(I:Inv X pins σ H s)(h:CE X.stack X.prog X.w H s Q u s'):EP X pins σ Q u s':=by
 obtain⟨v,H',os,bare,un,bV,r,q⟩:=h;obtain⟨hh,g,d,t,QR⟩:=s';obtain rfl:QR=s.os:=os;exact⟨v,H',I.call (h':=hh) (g':=g) (d':=d) (t':=t) (ch:=[]) un bV bare (λb z=>absurd z (by simp)),r,q⟩
end
def LF (sp:Sp)(Hg:List V)(E:XK)(t:TA):TE:=λσ H Q=>t σ H λvs H1=>sp (vs++Hg) H1 Q E
def Binds (K:PySem.W.Frag)(fd:YY)(ps:List Str)(ds:List Yc):Prop :=
 ∀(s:Yg) (us:List Yc),K.In s.heap->(us++ds).length=ps.length->BindsTo s fd ⟨us,[]⟩ (ps.zip (us++ds))
theorem Binds.all {K:PySem.W.Frag}{fd:YY}{ps:List Str}(h:∀us:List Yc,us.length=ps.length->bindArgs fd ⟨us,[]⟩=pure (ps.zip us)):Binds K fd ps []:=λs us _ hl=>by
 rw[ZW]at hl ⊢
 exact .of_eq (h us hl)
def Passes (CX:DL)(X:Cx)(E:XK):Prop:=∀(pins:List (Addr×Obj)) (σ:St) (H:Hp) (s:Yg) (e:Yc) (s':Yg),Inv X pins σ H s->CX X.stack H s E e s'->X.xe e s'
section
variable {X:Cx}{CX:DL}{k:Nat}{f:Addr}{fd:YY}{ps:List Str}{sp:Sp}{Hg:List V}{ds:List Yc}{E:XK}{x:Str}{p pos:Pos}{e:Expr}{es:List Expr}{t:TA}
theorem Io {pins:List (Addr×Obj)}{σ:St}{H:Hp}{s:Yg}{Q:VK}{us:List Yc}{vs:List V}(F:aH X.prog X.w X.K X.mg X.base CX k f fd ps sp)(hr:cU k X.A)(hb:Binds X.K fd ps ds)(hd:Vals Hg ds)(hx:Passes CX X E)
  (I:Inv X pins σ H s) (r:Vals vs us) (h:sp (vs++Hg) H Q E):YM (model X.prog X.w) X.A (call (.ref f) us) (EP X pins σ Q) X.xe s:=by
 have r2:Vals (vs++Hg) (us++ds):=r.append hd;have hl:(us++ds).length=ps.length:=by rw[<- r2.length];exact F.len _ _ _ _ h
 refine wpAny_call (aa4 (F.run X.A X.stack s H ⟨us,[]⟩ (us++ds) (vs++Hg) Q E hr I.SV (hb s us I.KW hl) r2 h) λr s' hq=>?_);cases r with
 |error e=>exact hx pins σ H s e s' I hq
 |ok fl =>
  cases fl with
  |ret u=>exact I.after hq
  |next=>exact aaC hq
  |brk=>exact aaC hq
  |cont=>exact aaC hq
theorem rQ (F:aH X.prog X.w X.K X.mg X.base CX k f fd ps sp)(hr:cU k X.A)(hg:Gl X x)(hm:X.mg x=some (.ref f))(hk:PySem.W.keepIn X.K (.ref f)=true)(hb:Binds X.K fd ps ds)(hd:Vals Hg ds)(hx:Passes CX X E)
  (ha:PA X (e::es) t) (hdb:(x==("__debug__" : Str))=false:=by decide) (he:YG (e::es) X.env=(false,eval e X.env)::YG es X.env:=by rfl) (hpl:(aav pos (YG es X.env)).any (·.1)=false:=by rfl) :
  PE X (.Call (.Name x p) (e::es) [] pos) (LF sp Hg E t):=by
 intro pins s σ H Q I h;refine wpAny_Call_Name_kw (Fj I hg hm ?_ hdb);refine PySem.W.callWith_K (h₀:=X.base) I.ok.mod.Q4 hk (bF (ha pos pins s σ H _ I h) λus s1 ⟨vs,H1,I1,r,q⟩=>⟨I1.KW,?_⟩) he hpl;exact Io F hr hb hd hx I1 r q
end
section
end
structure aI (N P:List Str)(sc:aa7):Prop where
 kind:sc.kind=.function
 co:sc.isCoroutine=false
 gen:sc.isGenerator=false
 nd:N.Nodup
 pre:N.take P.length=P
 par:∀x∈P,sc.names.lookup x=some .local\/sc.names.lookup x=some .cell
 Jf:∀y∈sc.names,y.2≠.free
theorem qP {kindOf:Str->Option abg}{x:Str}:∀{binds:List (Str×Yc)} {m:Str->Option Yc},(∀v,(x,v)∉binds)->bindL kindOf binds m x=m x
 |[],_,_=>rfl
 | (n,v)::r,m,h=>by
  unfold bindL;rw[qP λw hw=>h w (Yn _ hw)]
  split
  ·have:x≠n:=by rintro rfl;exact h v Yo
   simp[this]
  ·rfl
theorem qR {kindOf:Str->Option abg}{x:Str}:∀{binds:List (Str×Yc)} {m:Str->Option Yc},(∀v,(x,v)∉binds)->bindC kindOf binds m x=m x
 |[],_,_=>rfl
 | (n,v)::r,m,h=>by
  unfold bindC;rw[qR λw hw=>h w (Yn _ hw)]
  split
  ·rfl
  ·have:x≠n:=by rintro rfl;exact h v Yo
   simp[this]
theorem qQ {kindOf:Str->Option abg}{x:Str}{v:Yc}:∀{P:List Str} {vs:List Yc} {i:Nat} {m:Str->Option Yc},P.Nodup->P[i]?=some x->vs[i]?=some v->kindOf x=some .local ->
  bindL kindOf (P.zip vs) m x=some v
 |[],_,_,_,_,h,_,_=>by simp at h
 |_::_,[],_,_,_,_,h,_=>by simp at h
 |p::P,w::vs,0,m,nd,h1,h2,hk=>by
  simp at h1 h2;subst h1;subst h2;show bindL kindOf ((p,w)::P.zip vs) m p=_;unfold bindL;rw[qP λv hv=>(YV.mp nd).1 (List.of_mem_zip hv).1,if_pos hk];simp
 |p::P,w::vs,i+1,m,nd,h1,h2,hk=>by
  show bindL kindOf ((p,w)::P.zip vs) m x=_;unfold bindL;exact qQ (i:=i) (YV.mp nd).2 (by simpa using h1) (by simpa using h2) hk
theorem qS {kindOf:Str->Option abg}{x:Str}{v:Yc}:∀{P:List Str} {vs:List Yc} {i:Nat} {m:Str->Option Yc},P.Nodup->P[i]?=some x->vs[i]?=some v->kindOf x≠some .local ->
  bindC kindOf (P.zip vs) m x=some v
 |[],_,_,_,_,h,_,_=>by simp at h
 |_::_,[],_,_,_,_,h,_=>by simp at h
 |p::P,w::vs,0,m,nd,h1,h2,hk=>by
  simp at h1 h2;subst h1;subst h2;show bindC kindOf ((p,w)::P.zip vs) m p=_;unfold bindC;rw[qR λv hv=>(YV.mp nd).1 (List.of_mem_zip hv).1,if_neg hk];simp
 |p::P,w::vs,i+1,m,nd,h1,h2,hk=>by
  show bindC kindOf ((p,w)::P.zip vs) m x=_;unfold bindC;exact qS (i:=i) (YV.mp nd).2 (by simpa using h1) (by simpa using h2) hk
def start (N:List Str)(vs:List V):St:=vs.map some++YO (N.length-vs.length) none
def pH (CX:DL)(P:Yk)(w:YB)(K:PySem.W.Frag)(mg:Str->Option Yc)(base:Heap)(N:List Str)(qual:Str)(scope:aa7)(f:Addr)(cd:Yc)(A:Zc)(outer:List Env)(s:Yg)(H:Hp)(E:XK):Cx where
 prog:=P
 w:=w
 K:=K
 mg:=mg
 base:=base
 A:=A.deeper (envOfC qual scope s.heap.objs.size f cd)
 N:=N
 s₀:=s
 H₀:=H
 env:=envOfC qual scope s.heap.objs.size f cd
 outer:=outer
 stack:=envOfC qual scope s.heap.objs.size f cd::outer
 ex:=[]
 calm:=true
 fn:=λ_=>true
 pn:=[]
 xe:=λe s'=>YM (model P w) (A.deeper (envOfC qual scope s.heap.objs.size f cd)) (leaving (envOfC qual scope s.heap.objs.size f cd) e) (λ_ Qw=>CX outer H s E e Qw) (λe' Qw=>CX outer H s E e' Qw) s'
theorem u7 {sc:aa7}{n:Nat}{x:Str}(h:sc.names.lookup x=some .cell):∃c,(cellsFrom n sc.names []).lookup x=some c:=by
 have q:=PySem.W.cellsFrom_some sc.names n [] (.inl h);exact abF.mp q
theorem zQ {CX:DL}{P:Yk}{w:YB}{K:PySem.W.Frag}{mg:Str->Option Yc}{base:Heap}{N ps:List Str}{qual:Str}{scope:aa7}{f:Addr}{cd:Yc}{A:Zc}{outer:List Env}{s s1:Yg}{H:Hp}{E:XK}{us:List Yc}{vs:List V}
  (S:aI N ps scope) (hd:A.handled=none) (e0:Gr P w K mg base A outer s H) (hl:vs.length=ps.length) (r:Vals vs us)
  (x:InCallC s s.heap.objs.size (bindL (envOfC qual scope s.heap.objs.size f cd).kindOf (ps.zip us) λ_=>none) (cellsFrom (s.heap.objs.size+1) scope.names []) (bindC (envOfC qual scope s.heap.objs.size f cd).kindOf (ps.zip us) λ_=>none) s1) :
  Inv (pH CX P w K mg base N qual scope f cd A outer s H E) [] (start N vs) H s1:=by
 have hpl:ps.length<=N.length:=by have:=congrArg List.length S.pre;rw[YQ]at this;lia
 obtain⟨h1,tk,rfl,hk⟩:=x.done;have Mf:∀b:Addr,b∉(pH CX P w K mg base N qual scope f cd A outer s H E).ex:=λb z=>absurd (show b∈([]:List Addr) from z) (by simp)
 refine⟨⟨e0.mod,S.kind,rfl,rfl,Yh _,λy z c h1 h2=>?_,λy hy=>?_,λy c _ h=>?_,λ_=>hd,Around.frames_deeper e0.frames,.inr ⟨rfl,rfl⟩,λb z=>absurd z (Mf b),e0.bs,e0.Hm,λb _ _=>Mf b,λb z=>absurd z (Mf b),e0.n9,e0.Lb⟩,
  rfl,e0.bare,Un.kept hk,⟨_,x.toInCall.ns,λi y v h1 h2 h3=>?_⟩,λy c h=>⟨_,x.cell y c h⟩,e0.bV.fresh (Yh _),λy c h=>?_,λp hp=>absurd (show p∈([]:List (Addr×Obj)) from hp) (by simp),e0.bV.kept hk,?_⟩
 ·exact name_of_addr x.apart (PySem.mem_of_lookup h1) (PySem.mem_of_lookup h2)
 ·have hy:scope.names.lookup y=some .cell\/scope.names.lookup y=some .free:=hy;rcases hy with hy|hy
  ·exact u7 hy
  ·exact absurd rfl (S.Jf _ (PySem.mem_of_lookup hy))
 ·exact Nat.le_of_lt (x.above y c (PySem.mem_of_lookup h))
 ·have hi:i<vs.length:=by
   unfold start at h2
   by_cases hi:i<vs.length
   ·exact hi
   ·rw[Zd (by simpa using hi)]at h2
    rw[List.getElem?_replicate]at h2
    split at h2 <;> cases h2
  have ha:vs[i]?=some v:=by
   unfold start at h2;rw[ZO (by simpa using hi),Yu]at h2
   cases e:vs[i]? with
   |none=>rw[e]at h2;cases h2
   |some a=>rw[e]at h2;cases h2;rfl
  obtain⟨u,hu,rv⟩:=r.get ha;have hp:ps[i]?=some y:=by
   rw[<- S.pre,aaQ (by lia)];exact h1
  have TZ:ps.Nodup:=by rw[<- S.pre];exact S.nd.sublist (aas _ _)
  refine⟨u,rv,?_⟩;rcases S.par y (YW hp)with k|k
  ·exact .inl ⟨k,qQ TZ hp hu k⟩
  ·obtain⟨c,e⟩:=u7 (n:=s.heap.objs.size+1) k;refine .inr ⟨.inl k,c,e,?_⟩;have q:=x.cell y c e;rw[qS TZ hp hu (by show scope.names.lookup y≠_;rw[k];decide)]at q
   exact q
 ·exact e0.bV.fresh (Nat.le_of_lt (x.above y c (PySem.mem_of_lookup h)))
 ·unfold start;show _=N.length;rw[YR,Ye,List.length_replicate];lia
theorem Oh {CX:DL}{P:Yk}{w:YB}{K:PySem.W.Frag}{mg:Str->Option Yc}{base:Heap}{k:Nat}{f:Addr}{name qual:Str}{params:Arguments}{body:List Stmt}{scope:aa7}{dV kV doc pm cF ct oc:Yc}{an od:Option Addr}
  {IP:Array (Option Yc)} {N ps:List Str} {sp:Sp} (lk:K.lookup f=some ⟨oc,od,.func (PySem.W.fnOf name qual params body scope dV kV doc pm an cF ct),IP⟩) (i7:PySem.W.codeIn K cF qual=true) (S:aI N ps scope)
  (len:∀vs H Q E,sp vs H Q E->vs.length=ps.length)
  (n6:∀(A:Zc) (outer:List Env) (s:Yg) (H:Hp) (vs:List V) (Q:VK) (E:XK),cU k (A.deeper (envOfC qual scope s.heap.objs.size f cF))->sp vs H Q E ->
   ∃t,sX (pH CX P w K mg base N qual scope f cF A outer s H E) body t/\t {nx:=λ_ H'=>Q .cX H',rt:=Q} (start N vs) H) :
  aH P w K mg base CX (k+1) f (PySem.W.fnOf name qual params body scope dV kV doc pm an cF ct) ps sp:=by
 refine⟨len,λA outer s H args us vs Q E hr e0 hb r uy=>?_⟩;have hl:=len _ _ _ _ uy;have KX:K.In s.heap:=e0.mod.Q4.keeps λb o e=>(e0.bs b o e).1;have lim:s.heap.NoLimit:=e0.mod.nolimit.keeps λb o e=>(e0.bs b o e).1;have N4:∀y∈ps.zip us,scope.names.lookup y.1=some .local\/(scope.names.lookup y.1=some .cell/\((cellsFrom (s.heap.objs.size+1) scope.names []).lookup y.1).isSome=true):=λJP hy=> by
  obtain⟨n,v⟩ := JP;rcases S.par n (List.of_mem_zip hy).1 with q|q
  ·exact .inl q
  ·exact .inr ⟨q,PySem.W.cellsFrom_some _ _ _ (.inl q)⟩
 refine codeAny_call_function hr.depth (KX _ _ lk) rfl S.co S.gen rfl (PySem.W.codeRec_of KX i7) (hb _ _ _ _ ?_);refine wpAny_newFunctionEnv_cells S.kind N4 λenv he s1 x=>?_;subst he;refine⟨lim.keeps x.toInCall.keep,codeAny_func ?_⟩;obtain⟨t,ht,hq⟩:=n6 A outer s H vs Q E (hr.deeper _) uy;have I:Inv (pH CX P w K mg base N qual scope f cF A outer s H E) [] (start N vs) H s1:=zQ S hr.hd e0 hl r x;refine abl (ht [] s1 (start N vs) H _ I hq) (λfl s' hs=>?_) λe s' hs=>hs;have fin:∀{σ':St} {H':Hp} {v:V} {u:Yc},Inv (pH CX P w K mg base N qual scope f cF A outer s H E) [] σ' H' s'->RelV v u->Q v H'->CE outer P w H s Q u s' :=
  λ{σ' H' v u} J rv q=>⟨v,H',J.os,J.bare,J.base,J.bV,rv,q⟩
 cases fl with
 |ret u =>
  obtain⟨v,σ',H',J,rv,q⟩:=hs;exact fin J rv q
 |next =>
  obtain⟨σ',H',J,q⟩:=hs;exact fin (v:=V.cX) (u:=Value.none) J rfl q
 |brk =>
  obtain⟨_,_,_,q⟩:=hs;exact aaC q
 |cont =>
  obtain⟨_,_,_,q⟩:=hs;exact aaC q
section
variable {X:Cx}{x:Str}{p pos:Pos}{e:Expr}{es:List Expr}{t:TA}{id T:String}{r:List V->Hp->VK->Prop}
def Qm (r:List V->Hp->VK->Prop)(t:TA):TE:=λσ H Q=>t σ H λvs H1=>r vs H1 Q
theorem gM (hc:fI X (.builtin id) r) (hg:Gl X x) (hm:X.mg x=none) (hv:ZA x=some (.builtin id)) (ha:PA X (e::es) t) (hn:x≠"__name__" := by decide) (hdb:(x==("__debug__" : Str))=false:=by decide)
  (he:YG (e::es) X.env=(false,eval e X.env)::YG es X.env:=by rfl) (hpl:(aav pos (YG es X.env)).any (·.1)=false:=by rfl):PE X (.Call (.Name x p) (e::es) [] pos) (Qm r t):=by
 intro pins s σ H Q I h;refine wpAny_Call_Name_kw (kP I hg hm hv ?_ hn hdb);exact PyProof.Rows.callWith_builtin1 (bF (ha pos pins s σ H _ I h) λus s1 JO=> by obtain⟨vs,H1,I1,r1,q1⟩ := JO;exact hc pins s1 σ H1 vs us Q I1 r1 q1) he hpl
theorem qe (hc:fI X (.type T) r) (hg:Gl X x) (hm:X.mg x=none) (hv:ZA x=some (.type T)) (ha:PA X (e::es) t) (hn:x≠"__name__" := by decide) (hdb:(x==("__debug__" : Str))=false:=by decide)
  (he:YG (e::es) X.env=(false,eval e X.env)::YG es X.env:=by rfl) (hpl:(aav pos (YG es X.env)).any (·.1)=false:=by rfl):PE X (.Call (.Name x p) (e::es) [] pos) (Qm r t):=by
 intro pins s σ H Q I h;refine wpAny_Call_Name_kw (kP I hg hm hv ?_ hn hdb);exact Z7 (bF (ha pos pins s σ H _ I h) λus s1 Ry=> by obtain⟨vs,H1,I1,r1,q1⟩ := Ry;exact hc pins s1 σ H1 vs us Q I1 r1 q1) he hpl
end
end L2
namespace HT
open PySem PyProof.Rows
def lexLt:List Int->List Int->Bool
 |[],[]=>false
 |[],_::_=>true
 |_::_,[]=>false
 |x::xs,y::ys=>if x=y then lexLt xs ys else decide (x<y)
theorem bU (x y:Int)(xs ys:List Int):lexLt (x::xs) (y::ys)=if x=y then lexLt xs ys else decide (x<y):=rfl
theorem ph:lexLt [] []=false:=rfl
theorem nM (y:Int)(ys:List Int):lexLt [] (y::ys)=true:=rfl
theorem nN (x:Int)(xs:List Int):lexLt (x::xs) []=false:=rfl
theorem oz (A:Zc)(s:Yg)(a:Int)(t:Tok)(c:Int)(u:Tok):∃e,SeqAt.EqAt A s (.int a t) (.int c u) e/\(e=true↔a=c) :=
 ⟨(a==c),SeqAt.EqAt.int_int a t c u,by simp⟩
theorem Bh (A:Zc)(s:Yg)(a:Int)(t:Tok)(c:Int)(u:Tok)(prog:Yk)(w:YB)(E:Yc->Yg->Prop)(Q:Yc->Yg->Prop)(h:Q (.bool (decide (a<c))) s):
  YM (model prog w) A (richCompare .Lt (.int a t) (.int c u)) Q E s :=
 (PyProof.Rows.lt_int h:YM (model prog w) A (Y7 .Lt (.int a t) (.int c u)) Q E s)
section
open PySem.SeqAt
open PySem.AutoSeq1 (wpAny_loadPart')
open PySem.MeetsSeq PySem.MeetsSeq2 PySem.MeetsSeq3
theorem oX (l b:Addr)(items ao:Array Yc)(n n2:Nat)(dd sV:Option Addr)(sl sR:Array (Option Yc))(ns ms:List Int)(hi:Zg items.toList ns)(hj:Zg ao.toList ms):
  Meets (Z_.«tuple.__lt__» ⟨[.ref l,.ref b],[]⟩)
   (λ_ R s=>s.heap.get? l=some {cls:=.type "tuple",dict:=dd,data:=.seq items n,slots:=sl}/\s.heap.get? b=some {cls:=.type "tuple",dict:=sV,data:=.seq ao n2,slots:=sR} /\
    R (.ok (.ret (.bool (lexLt ns ms)))) s) :=
 .of_wp λprog w A R s h=>by
  obtain⟨hp,g,d,tk,os⟩:=s;obtain⟨hl,hb,h⟩:=h;have f2:=abI;have z1:items.size=ns.length:=by rw[<- hi.length];simp
  have z2:ao.size=ms.length:=by rw[<- hj.length];simp
  wp_walk using YT hl,YT hb,wpAny_forIn_list _ (λrest b s'=>b.1=none/\s'=⟨hp,g,d,tk,os⟩/\∃(vs ws:List Yc) (eK qh:List Int),rest=vs.zip ws /\
   Zg vs eK/\Zg ws qh/\eK.length+ao.size=qh.length+items.size/\R (.ok (.ret (.bool (lexLt eK qh)))) ⟨hp,g,d,tk,os⟩) _
  case turn =>
   rintro⟨y,x⟩ rest b s' ⟨ij,rfl,vs,ws,eK,qh,hz,CI,ya,hlen,hR⟩;cases CI with
   |nil=>rw[aar]at hz;cases hz
   |cons a t CH =>
    cases ya with
    |nil=>rw[abo]at hz;cases hz
    |cons c u CG =>
     rw[Zt]at hz;injection hz with MM nY
     injection MM with hy hx
     subst hy hx;rw[bU]at hR;simp only[Yw]at hlen;obtain⟨e,he,uA⟩:=oz A.in1 ⟨hp,g,d,tk,os⟩ a t c u;refine Yd (he prog w _ _ ?_);cases e with
     |true =>
      rw[if_pos (uA.mp rfl)]at hR
      wp_walk
      exact⟨rfl,rfl,_,_,_,_,nY,CH,CG,by lia,hR⟩
     |false =>
      rw[if_neg (λq=>absurd (uA.mpr q) ZG)]at hR;have JK:=Bh A.in1 ⟨hp,g,d,tk,os⟩ a t c u prog w
      wp_walk using JK
      exact⟨_,rfl,by simpa using hR⟩
  case fin =>
   rintro⟨b1,b2⟩ s' ⟨ij,rfl,vs,ws,eK,qh,hz,CI,ya,hlen,hR⟩;simp only at ij;subst ij;have hv:lexLt eK qh=decide (items.size<ao.size):=by
    cases CI with
    |nil =>
     cases ya with
     |nil =>
      simp only[ZI]at hlen;rw[ph];exact(decide_eq_false (by lia)).symm
     |cons c u hw =>
      simp only[ZI,Yw]at hlen;rw[nM];exact(decide_eq_true (by lia)).symm
    |cons a t hv =>
     cases ya with
     |nil =>
      simp only[ZI,Yw]at hlen;rw[nN];exact(decide_eq_false (by lia)).symm
     |cons c u hw =>
      rw[Zt]at hz;cases hz
   rw[hv]at hR
   wp_walk
   exact⟨_,rfl,by simpa[aa6] using hR⟩
  case h =>
   exact⟨rfl,rfl,items.toList,ao.toList,ns,ms,rfl,hi,hj,by lia,h⟩
end
section
variable {prog:Yk}{w:YB}{A:Zc}{E:Yc->Yg->Prop}{s:Yg}
theorem nF {l b:Addr}{items ao:Array Yc}{ns ms:List Int}{Q:Yc->Yg->Prop}(hl:IsTup s.heap l items)(hb:IsTup s.heap b ao)(hi:Zg items.toList ns)(hj:Zg ao.toList ms)
  (hu:A.units<aan) (h:Q (.bool (lexLt ns ms)) s):YM (model prog w) A (Y7 .Lt (.ref l) (.ref b)) Q E s:=by
 obtain⟨⟨cls,dd,data,sl⟩,ho,hc,n,hd⟩:=id hl;obtain⟨⟨Kw,sV,data2,sR⟩,zR,kX,n2,hd2⟩:=id hb;simp only at hc hd kX hd2;subst hc hd kX hd2;exact aa2 (op:=.Lt) ⟨_,ho,rfl⟩ ⟨_,zR,rfl⟩ PySem.F.slot_tuple_lt PySem.F.entry_tuple_lt (PySem.F.args_tuple_lt_2 _ _) (oX l b items ao n n2 dd sV sl sR ns ms hi hj)
  ⟨ho,zR,show Value.bool (lexLt ns ms)≠Value.notImplemented/\Q (.bool (lexLt ns ms)) s from ⟨(λx=>nomatch x),h⟩⟩ hu
def mX (n d:Nat):Option Int->Nat
 |none=>d
 |some v=>if v<0 then (v+(n:Int)).toNat else min v.toNat n
theorem jx (n d:Nat):mX n d none=d:=rfl
theorem l5 (n d k:Nat):mX n d (some (k:Int))=min k n:=by
 show (if (k:Int)<0 then ((k:Int)+(n:Int)).toNat else min (k:Int).toNat n)=min k n
 rw[if_neg (by lia),ZE]
end
end HT
namespace L2
open PySem PySem.Spec PyProof.Rows
abbrev TO:=St->Hp->(Option Int->Hp->Prop)->Prop
def PO (X:Cx)(e:Option Expr)(t:TO):Prop :=
 ∀(pins:List (Addr×Obj)) (s:Yg) (σ:St) (H:Hp) (Q:Option Int->Hp->Prop),Inv X pins σ H s->t σ H Q ->
  YM (model X.prog X.w) X.A (evalPart e X.env) (λu s'=>∃o H',Inv X pins σ H' s'/\IsPart u o/\Q o H') X.xe s
def El:TO:=λ_ H Q=>Q none H
def Ly (t:TE):TO:=λσ H Q=>t σ H λx H1=>∃i,x=.int i/\Q (some i) H1
theorem intsAre_of {ns:List Int}:∀{us:List Yc},Vals (ns.map V.int) us->Zg us ns:=by
 induction ns with
 |nil=>intro us r;rw[abk]at r;cases r;exact .nil
 |cons n ns ih =>
  intro us r;rw[YA]at r;cases r with
  |cons r1 r2 =>
   obtain⟨t,e⟩:=r1;subst e;exact .cons n t (ih r2)
section
variable {X:Cx}{e:Expr}{te:TE}{lo hi:Option Expr}{tl th:TO}{pos p2:Pos}
theorem rP:PO X none El:=by
 intro pins s σ H Q I h;rw[evalPart_none];exact Ym ⟨none,H,I,.none,h⟩
theorem rO (h:PE X e te):PO X (some e) (Ly te):=by
 intro pins s σ H Q I hw;rw[evalPart_some];refine bF (h pins s σ H _ I hw) λu s1 ⟨x,H1,I1,r1,q1⟩=>?_;obtain⟨i,rfl,q⟩:=q1;obtain⟨t,rfl⟩:=r1;exact⟨some i,H1,I1,.int i t,q⟩
def Ta (X:Cx)(r:V->Option Int->Option Int->Hp->VK->Prop):Prop :=
 ∀(pins:List (Addr×Obj)) (s:Yg) (σ:St) (H:Hp) (x:V) (v vl vu:Yc) (lo hi:Option Int) (sl:Addr) (Q:VK),Inv X pins σ H s->RelV x v->s.heap.IsSliceOf sl vl vu .none->IsPart vl lo->IsPart vu hi->r x lo hi H Q ->
  ∃T id,typeLookup (.type T) "__getitem__" = pure (some (.builtin id))/\s.TypeIs v T/\YM (model X.prog X.w) X.A (getItem v (.ref sl)) (EP X pins σ Q) X.xe s
def U5 (r:V->Option Int->Option Int->Hp->VK->Prop)(te:TE)(tl th:TO):TE:=λσ H Q=>te σ H λx H1=>tl σ H1 λl H2=>th σ H2 λu H3=>r x l u H3 Q
theorem ng {r:V->Option Int->Option Int->Hp->VK->Prop}(hr:Ta X r)(he:PE X e te)(hl:PO X lo tl)(hu:PO X hi th):PE X (.Subscript e (.Slice lo hi none p2) pos) (U5 r te tl th):=by
 intro pins s σ H Q I h;refine Subscript_ (bF (he pins s σ H _ I h) λv s1 ⟨x,H1,I1,r1,q1⟩=>?_);refine wpAny_Slice (bF (hl pins s1 σ H1 _ I1 q1) λvl s2 ⟨l,H2,I2,pl,q2⟩=>bF (hu pins s2 σ H2 _ I2 q2) λvu s3 ⟨u,H3,I3,pu,q3⟩=>?_);rw[evalPart_none];refine Ym ?_;have I4:Inv X pins σ H3 {s3 with heap:=s3.heap.push {cls:=.type "slice",data:=.fields #[vl,vu,.none]}}:=I3.kept (t':=s3.toks) λb ob q=>Yv _ q
 obtain⟨T,id,hT,ht,hg⟩:=hr pins {s3 with heap:=s3.heap.push {cls:=.type "slice",data:=.fields #[vl,vu,.none]}} σ H3 x v vl vu l u s3.heap.objs.size Q I4 r1 (Heap.IsSliceOf.new ..) pl pu q3
 show YM (model X.prog X.w) X.A (subscriptTail e (.Slice lo hi none p2) v (.ref s3.heap.objs.size)) (EP X pins σ Q) X.xe {s3 with heap:=s3.heap.push {cls:=.type "slice",data:=.fields #[vl,vu,.none]}}
 exact tail_any (ops:=[.ref s3.heap.objs.size,v]) ht hT hg (by with_unfolding_all rfl)
def u5 (xs:List V)(lo hi:Option Int):List V:=(xs.drop (HT.mX xs.length 0 lo)).take (HT.mX xs.length xs.length hi-HT.mX xs.length 0 lo)
theorem uZ (xs:List V)(lo hi:Option Int):(u5 xs lo hi).length<=xs.length:=by
 unfold u5;rw[YQ,aaH];lia
end
def zN (n:Nat)(i:Int):Option Nat:=if 0<=i then (if i<n then some i.toNat else none) else if -(n:Int)<=i then some (i+n).toNat else none
def pJ {α:Type}(xs:List α)(i:Int):Option α:=(zN xs.length i).bind λj=>xs[j]?
theorem xW {n:Nat}{i:Int}{j:Nat}(h:zN n i=some j):seqIndex? i n=some j/\j<n/\-(n:Int)<=i/\i<n:=by
 unfold zN at h
 by_cases h0:0<=i
 ·rw[if_pos h0]at h
  by_cases h1:i<n
  ·rw[if_pos h1]at h;have e:i.toNat=j:=YU h;exact⟨by rw[seqIndex_of h0 h1,e],by lia,by lia,h1⟩
  ·rw[if_neg h1]at h;cases h
 ·rw[if_neg h0]at h
  by_cases h1:-(n:Int)<=i
  ·rw[if_pos h1]at h;have e:(i+n).toNat=j:=YU h;exact⟨by rw[seqIndex_neg (by lia) h1,e],by lia,h1,by lia⟩
  ·rw[if_neg h1]at h;cases h
theorem yE {α:Type}{xs:List α}{i:Int}{v:α}(h:pJ xs i=some v):∃j,seqIndex? i xs.length=some j/\xs[j]?=some v/\j<xs.length/\-(xs.length:Int)<=i/\i<xs.length:=by
 unfold pJ at h;cases e:zN xs.length i with
 |none=>rw[e]at h;cases h
 |some j =>
  rw[e]at h;obtain⟨h1,h2,h3,h4⟩:=xW e;exact⟨j,h1,h,h2,h3,h4⟩
def sN (b:Expr):Prop:=∀o i,subscripted b false o i=operate [o,i] (getItem o i)
def Hv (X:Cx)(r:R2):Prop :=
 ∀(value slice:Expr) (pins:List (Addr×Obj)) (s:Yg) (σ:St) (H:Hp) (x y:V) (v u:Yc) (Q:VK),Inv X pins σ H s->RelV x v->RelV y u->r x y H Q ->
  subscripted slice false v u=operate [v,u] (getItem v u)->YM (model X.prog X.w) X.A (subscriptTail value slice v u) (EP X pins σ Q) X.xe s
def UO (X:Cx)(id:String)(r:V->List V->Hp->VK->Prop):Prop :=
 ∀(pins:List (Addr×Obj)) (s:Yg) (σ:St) (H:Hp) (x:V) (xs:List V) (v:Yc) (us:List Yc) (Q:VK),Inv X pins σ H s->RelV x v->Vals xs us->r x xs H Q ->
  YM (model X.prog X.w) X.A (call (.builtin id) (v::us)) (EP X pins σ Q) X.xe s
section
variable {X:Cx}{a b:Expr}{ta tb:TE}{pos:Pos}
theorem iB {r:R2}(hr:Hv X r)(ha:PE X a ta)(hb:PE X b tb)(hs:sN b):PE X (.Subscript a b pos) (Lz r ta tb):=by
 intro pins s σ H Q I h;exact Subscript_ (KD ha hb I h λv u s2 x y H2 I2 rx ry q=>hr a b pins s2 σ H2 x y v u Q I2 rx ry q (hs _ _))
def LS (K:PySem.W.Frag):R2:=λx y H Q=>∃p xs i v,x=.ref p/\y=.int i/\dh K H p xs/\pJ xs i=some v/\Q v H
def LR (K:PySem.W.Frag):R2:=λx y H Q=>∃p xs i v,x=.ref p/\y=.int i/\sM K H p xs/\pJ xs i=some v/\Q v H
theorem df:Hv X (LS X.K):=by
 intro value slice pins s σ H x y v u Q I rx ry h hs;obtain⟨p,xs,i,z,rfl,rfl,hq,he,q⟩:=h;cases rx;obtain⟨t,rfl⟩:=ry;obtain⟨its,r,pl,hz⟩:=I.list hq;obtain⟨j,h1,h2,h3,h4,h5⟩:=yE he;obtain⟨w,ew,DO⟩:=r.get h2;have hl:=r.length;have hn:=nL;have fin:EP X pins σ Q w s:=⟨z,H,I,DO,q⟩
 by_cases h0:0<=i
 ·have hj:i.toNat=j:=by
   rw[seqIndex_of h0 h5]at h1;exact YU h1
  exact item_listR pl.isList h0 (by lia) (by rw[hj];simpa using ew) fin hs
 ·have hj:(i+(its.toArray.size:Int)).toNat=j:=by
   rw[seqIndex_neg (by lia) h4]at h1
   rw[YJ,<- hl];exact YU h1
  exact subscriptTail_builtinR (x:=w) pl.isList.typeIs slot_list_getitem.lookup
   (wpAny_getItem_list_neg (Q:=λr s'=>r=w/\EP X pins σ Q r s') pl.isList (by lia) (by rw[YJ] <;> lia) (by lia) (by rw[hj];simpa using ew) ⟨rfl,fin⟩) hs
theorem Cu:Hv X (LR X.K):=by
 intro value slice pins s σ H x y v u Q I rx ry h hs;obtain⟨p,xs,i,z,rfl,rfl,hq,he,q⟩:=h;cases rx;obtain⟨t,rfl⟩:=ry;obtain⟨its,r,pl,hz⟩:=I.tuple hq;obtain⟨j,h1,h2,h3,h4,h5⟩:=yE he;obtain⟨w,ew,DO⟩:=r.get h2;have hl:=r.length;have hn:=nL;have fin:EP X pins σ Q w s:=⟨z,H,I,DO,q⟩;exact subscriptTail_builtinR (x:=w) pl.typeIs slot_tuple_getitem.lookup
  (getItem_tuple (j:=j) (Q:=λr s'=>r=w/\EP X pins σ Q r s') pl (by lia) (by lia) (by rw[YJ,<- hl];exact h1) (by simpa using ew) ⟨rfl,fin⟩) hs
theorem v_ (its:List Yc)(n j:Nat)(u:Yc):aax (·.setIfInBounds j u) {cls:=.type "list",data:=.seq its.toArray n}={cls:=.type "list",data:=.seq (its.set j u).toArray n}:=by
 simp[aax]
theorem Inv.lst {pins:List (Addr×Obj)}{σ:St}{H:Hp}{s:Yg}{p:Addr}{xs:List V}(I:Inv X pins σ H s)(h:H p=some (.lst xs)):
  ∃(its:List Yc) (n:Nat),Vals xs its/\s.heap.get? p=some {cls:=.type "list",data:=.seq its.toArray n}/\xs.length<=Yy:=by
 obtain⟨z,its,n,r,e⟩:=I.bV p _ h;exact⟨its,n,r,e,z⟩
theorem Inv.Jn {pins:List (Addr×Obj)}{σ:St}{H:Hp}{s:Yg}{p:Addr}{xs ys:List V}{its its':List Yc}{n n':Nat}{f:Obj->Obj}(I:Inv X pins σ H s)(h:H p=some (.lst xs))
  (ho:s.heap.get? p=some {cls:=.type "list",data:=.seq its.toArray n}) (hf:f {cls:=.type "list",data:=.seq its.toArray n}={cls:=.type "list",data:=.seq its'.toArray n'}) (r:Vals ys its') (hz:ys.length<=Yy) (t:Nat) :
  Inv X pins σ (upd H p (.lst ys)) {s with heap:=s.heap.update p f,toks:=t}:=by
 have e:(s.heap.update p f).get? p=some {cls:=.type "list",data:=.seq its'.toArray n'}:=by
  rw[Heap.get?_update_self f ho (by rw[hf] <;> rfl),hf]
 refine I.write (x:=p) (e:=p) (by rw[h];trivial) (.inl rfl) (λb u hb q=>(Heap.get?_update_other _ _ (aaF hb)).trans q) ⟨_,e⟩ ?_
 exact⟨hz,its',n',r,e⟩
def LQ:V->V->V->Hp->(Hp->Prop)->Prop:=λo i v H Q=>∃p xs k j,o=.ref p/\i=.int k/\H p=some (.lst xs)/\zN xs.length k=some j/\Q (upd H p (.lst (xs.set j v)))
theorem set_list:OU X LQ:=by
 intro pins s σ H o i v ov iv u Q I ro ri rv h;obtain⟨p,xs,k,j,rfl,rfl,hp,hj,q⟩:=h;cases ro;obtain⟨t,rfl⟩:=ri;obtain⟨its,n,r,ho,hz⟩:=I.lst hp;obtain⟨h1,h2,h3,h4⟩:=xW hj;have hl:=r.length;have hn:=nL;have I':Inv X pins σ (upd H p (.lst (xs.set j v))) {s with heap:=s.heap.update p (aax (·.setIfInBounds j u))} :=
  I.Jn hp ho (v_ its n j u) (r.set rv j) (by rw[List.length_set];exact hz) s.toks
 by_cases h0:0<=k
 ·have hk:k.toNat=j:=by
   rw[seqIndex_of h0 h4]at h1;exact YU h1
  exact PySem.W.ki_setAt ho h0 (by lia) (by rw[YJ,<- hl];exact h4) (by rw[hk];exact⟨_,I',q⟩)
 ·have hk:(k+(its.toArray.size:Int)).toNat=j:=by
   rw[seqIndex_neg (by lia) h3]at h1
   rw[YJ,<- hl];exact YU h1
  exact PySem.W.ki_setBack ho (by lia) (by rw[YJ,<- hl];exact h3) (by lia) (by rw[hk];exact⟨_,I',q⟩)
theorem rp (lo hi:Option Int)(n:Nat):(abe lo hi none n).1=((HT.mX n 0 lo:Nat):Int)/\(abe lo hi none n).2.1=((HT.mX n n hi:Nat):Int)/\(abe lo hi none n).2.2=1:=by
 refine⟨?_,?_,rfl⟩
 ·cases lo with
  |none=>simp[abe,HT.mX]
  |some i =>
   simp only[abe,HT.mX,Option.getD_none,show (1:Int)>0 by decide,if_true]
   by_cases h:i<0
   ·simp only[h,if_true] <;> lia
   ·simp only[h,if_false] <;> lia
 ·cases hi with
  |none=>simp[abe,HT.mX]
  |some i =>
   simp only[abe,HT.mX,Option.getD_none,show (1:Int)>0 by decide,if_true]
   by_cases h:i<0
   ·simp only[h,if_true] <;> lia
   ·simp only[h,if_false] <;> lia
theorem o4 (its:List Yc)(lo hi:Option Int):slicePick its.toArray lo hi none=((its.drop (HT.mX its.length 0 lo)).take (HT.mX its.length its.length hi-HT.mX its.length 0 lo)).toArray:=by
 obtain⟨h1,h2,h3⟩:=rp lo hi its.toArray.size;unfold slicePick;rw[h1,h2,h3];simp only[sliceRange_one,pick_run,YJ] <;> rfl
def Qy (K:PySem.W.Frag):V->Option Int->Option Int->Hp->VK->Prop:=λx lo hi H Q=>∃a xs,x=.ref a/\dh K H a xs/\∀p,H p=none->Q (.ref p) (upd H p (.lst (u5 xs lo hi)))
theorem xq:Ta X (Qy X.K):=by
 intro pins s σ H x v vl vu lo hi sl Q I rx hs pl pu h;obtain⟨a,xs,rfl,hx,q⟩:=h;cases rx;obtain⟨its,r,ht,hz⟩:=I.list hx;have hlen:=r.length;refine⟨"list",_,slot_list_getitem.lookup,ht.isList.typeIs,?_⟩;refine wpAny_getItem_list_slice ht.isList hs pl pu .none (by simp) ?_ (by rw[YJ] <;> lia)
 rw[o4,<- hlen];refine⟨.ref s.heap.objs.size,_,I.laid (t':=s.toks) (o:=.lst (u5 xs lo hi)) (λb ob q=>Yv _ q) (Yh _) ?_,rfl,q _ (I.bV.fresh (Yh _))⟩;exact⟨YI (uZ xs lo hi) hz,_,0,(r.drop (HT.mX xs.length 0 lo)).take (HT.mX xs.length xs.length hi-HT.mX xs.length 0 lo),Y0 _ rfl⟩
theorem gf:fI X (.builtin "len") (λxs H Q=>∃p ys,xs=[.ref p]/\(dh X.K H p ys\/sM X.K H p ys)/\Q (.int ys.length) H):=by
 intro pins s σ H xs us Q I r h;obtain⟨p,ys,rfl,hq,q⟩:=h;obtain⟨u,rfl,rx⟩:=vals1 r;cases rx;have hn:=nL;rcases hq with hq|hq
 ·obtain⟨its,r',pl,hz⟩:=I.list hq;have hlen:=r'.length;exact Calls.call_len_list pl.isList (by simp only[YJ] <;> lia) ⟨.int ys.length,H,I.tok _,⟨s.toks+1,by rw[YJ,hlen]⟩,q⟩
 ·obtain⟨its,r',pl,hz⟩:=I.tuple hq;have hlen:=r'.length;exact len_tuple pl (by simp only[YJ] <;> lia) ⟨.int ys.length,H,I.tok _,⟨s.toks+1,by rw[YJ,hlen]⟩,q⟩
theorem jX:fI X (.type "list") (λxs H Q=>∃p ys,xs=[.ref p]/\(dh X.K H p ys\/sM X.K H p ys)/\∀l,H l=none->Q (.ref l) (upd H l (.lst ys))):=by
 intro pins s σ H xs us Q I r h;obtain⟨p,ys,rfl,hq,q⟩:=h;obtain⟨u,rfl,rx⟩:=vals1 r;cases rx;have fin:∀(its:List Yc),Vals ys its->ys.length<=Yy->∀(h':Heap) (c':Nat),(∀b o',s.heap.get? b=some o'->h'.get? b=some o') ->
   h'.get? s.heap.objs.size=some {cls:=.type "list",dict:=none,data:=.seq its.toArray c',slots:=#[]}->EP X pins σ Q (.ref s.heap.objs.size) {s with heap:=h'}:=λits r' hz h' c' kp e =>
  ⟨.ref s.heap.objs.size,_,I.laid (t':=s.toks) kp (Yh _) (show bW X.prog X.w _ h' _ (.lst ys) from ⟨hz,its,c',r',e⟩),rfl,q _ (I.bV.fresh (Yh _))⟩
 rcases hq with hq|hq
 ·obtain⟨its,r',pl,hz⟩:=I.list hq;have hlen:=r'.length;obtain⟨o,ho,hc,n,hd⟩:=pl.isList;exact call_list_seq p (.inl rfl) ho hc hd (λh' c' kp e=>fin its r' hz h' c' kp e) (by simp only[YJ] <;> lia)
 ·obtain⟨its,r',pl,hz⟩:=I.tuple hq;have hlen:=r'.length;obtain⟨o,ho,hc,n,hd⟩:=pl;exact call_list_seq p (.inr rfl) ho hc hd (λh' c' kp e=>fin its r' hz h' c' kp e) (by simp only[YJ] <;> lia)
def O5 (K:PySem.W.Frag)(T:String)(x:V)(H:Hp):Prop:=match x with
 |.str _=>T="str"
 |.int _=>T="int"
 |.ref p=>(T="list" /\ ∃xs,dh K H p xs)\/(T="tuple" /\ ∃o,K.lookup p=some o/\o.cls=.type "tuple" /\ o.dict=none) \/
   (T="dict" /\ ((∃kvs,H p=some (.dK kvs))\/∃kvs,H p=some (.dT kvs)))\/(T="set" /\ ∃S n,H p=some (.set S n))
 |_=>False
theorem AR {pins:List (Addr×Obj)}{σ:St}{H:Hp}{s:Yg}{T:String}{x:V}{v:Yc}(I:Inv X pins σ H s)(r:RelV x v)(ty:O5 X.K T x H):
  s.TypeIs v T/\∀a,v=.ref a->∃ob,s.heap.get? a=some ob/\ob.dict=none:=by
 cases x with
 |str z =>
  obtain⟨t,rfl⟩:=r;cases (show T="str" from ty)
  exact⟨typeIs_str s z t,λ_ e=>nomatch e⟩
 |int i =>
  obtain⟨t,rfl⟩:=r;cases (show T="int" from ty)
  exact⟨typeIs_int s i t,λ_ e=>nomatch e⟩
 |ref p =>
  cases r;rcases ty with⟨rfl,xs,hq⟩|⟨rfl,o,hk,hc,hd⟩|⟨rfl,hk⟩|⟨rfl,S,n,hk⟩
  ·obtain⟨its,_,pl,_⟩:=I.list hq;refine⟨pl.isList.typeIs,λa e=>?_⟩;cases e;obtain⟨o,n,e,c,hd,_⟩:=pl;exact⟨o,e,hd⟩
  ·refine⟨⟨o,I.KW p o hk,hc⟩,λa e=>?_⟩;cases e;exact⟨o,I.KW _ o hk,hd⟩
  ·have z:∃o,s.heap.get? p=some o/\o.ExactDict:=by
    rcases hk with⟨kvs,hk⟩|⟨kvs,hk⟩
    ·obtain⟨_,_,_,_,o,_,_,e,ex,_⟩:=I.bV p _ hk;exact⟨o,e,ex⟩
    ·obtain⟨_,_,_,_,o,_,_,e,ex,_⟩:=I.bV p _ hk;exact⟨o,e,ex⟩
   obtain⟨o,e,ex⟩:=z;refine⟨⟨o,e,ex.1⟩,λa e2=>?_⟩;cases e2;exact⟨o,e,ex.2.1⟩
  ·obtain⟨o,_,_,_,e,ex,_⟩:=I.bV p _ hk;refine⟨⟨o,e,ex.1⟩,λa e2=>?_⟩;cases e2;exact⟨o,e,ex.2.1⟩
 |_=>exact aaC ty
def Qn (K:PySem.W.Frag)(T:String)(r:V->List V->Hp->VK->Prop)(to:TE):TE:=λσ H Q=>to σ H λx H1=>O5 K T x H1/\r x [] H1 Q
def U7 (K:PySem.W.Frag)(T:String)(r:V->List V->Hp->VK->Prop)(to:TE)(t:TA):TE:=λσ H Q=>to σ H λx H1=>O5 K T x H1/\t σ H1 λxs H2=>r x xs H2 Q
variable {o e:Expr}{es:List Expr}{to:TE}{t:TA}{name:Str}{apos cpos:Pos}{T id:String}{r:V->List V->Hp->VK->Prop}
theorem IK (pa:PlainAttrs T) (slot:Slot T name id) (Rm:typeOf (.builtin id)=pure (.type "method_descriptor")) (hm:UO X id r) (ho:PE X o to)
  (jO:abD o name X.env (eval o X.env)=eval o X.env:=by rfl) (jN:(apos.endLine==cpos.line)=true:=by rfl):PE X (.Call (.Attribute o name apos) [] [] cpos) (Qn X.K T r to):=by
 intro pins s σ H Q I h;refine wpAny_Call_method0_late jO jN (bF (ho pins s σ H _ I h) λv s1 ⟨x,H1,I1,r1,ty,q1⟩=>?_);obtain⟨h1,h2⟩:=AR I1 r1 ty;exact⟨T,id,pa,slot,Rm,h1,h2,Calls.callWith_builtin rfl (PySem.evalArgs_none (hm pins s1 σ H1 x [] v [] Q I1 r1 .nil q1))⟩
theorem GC (pa:PlainAttrs T) (slot:Slot T name id) (Rm:typeOf (.builtin id)=pure (.type "method_descriptor")) (hm:UO X id r) (ho:PE X o to) (ha:PA X (e::es) t)
  (jO:abD o name X.env (eval o X.env)=eval o X.env:=by rfl)
  (CS:((aav cpos (YG (e::es) X.env)).all (λx=>!x.1)&&(backToKw cpos (keywordEach [] X.env)).all (λx=>x.1.isSome)
   && decide ((e::es).length+([]:List Keyword).length+(if ([]:List Keyword).isEmpty then 0 else 1)<30))=true:=by rfl)
  (jN:(apos.endLine==cpos.line)=true:=by rfl) (hs:YG (e::es) X.env=(false,eval e X.env)::YG es X.env:=by rfl) (nZ:(aav cpos (YG es X.env)).any (·.1)=false:=by rfl) :
  PE X (.Call (.Attribute o name apos) (e::es) [] cpos) (U7 X.K T r to t):=by
 intro pins s σ H Q I h;refine wpAny_Call_method_late jO CS jN rfl (bF (ho pins s σ H _ I h) λv s1 ⟨x,H1,I1,r1,ty,q1⟩=>?_);obtain⟨h1,h2⟩:=AR I1 r1 ty;refine⟨T,id,pa,slot,Rm,h1,h2,?_⟩;have hA:=ha cpos pins s1 σ H1 _ I1 q1;rw[hs]at hA ⊢
 refine Calls.callWith_builtin (by show (false || (aav cpos (YG es X.env)).any (·.1))=false;rw[nZ] <;> rfl) (Calls.evalArgs_plain ?_)
 exact bF hA λus s2 ⟨vs,H2,I2,r2,q2⟩=>hm pins s2 σ H2 x vs v us Q I2 r1 r2 q2
end
def UP (X:Cx)(id:String)(r:V->List V->Hp->VK->Prop):Prop :=
 ∀(pins:List (Addr×Obj)) (s:Yg) (σ:St) (H:Hp) (x:V) (xs:List V) (v:Yc) (us:List Yc) (Q:VK),Inv X pins σ H s->RelV x v->Vals xs us->r x xs H Q ->
  YM (model X.prog X.w) X.A (call (.builtin id) (v::us)) (EP X pins σ Q) X.xe s
theorem Vals.one:∀{x:V} {us:List Yc},Vals [x] us->∃u,us=[u]/\RelV x u
 |_,_,.cons r .nil=>⟨_,rfl,r⟩
theorem Vals.zero:∀{us:List Yc},Vals [] us->us=[]
 |_,.nil=>rfl
theorem Vals.dropLast {xs:List V}{us:List Yc}(h:Vals xs us):Vals xs.dropLast us.dropLast:=by
 induction h with
 |nil=>exact .nil
 |cons r t ih =>
  cases t with
  |nil=>exact .nil
  |cons q t'=>exact .cons r ih
theorem Vals.rep {xs:List V}{us:List Yc}(h:Vals xs us):∀k:Nat,Vals (YO k xs).flatten (YO k us).flatten
 |0=>.nil
 |k+1=>by
  rw[ZU,ZU,aat,aat];exact Vals.append h (Vals.rep h k)
theorem wH {α:Type}(l:List α):l.eraseIdx (l.length-1)=l.dropLast:=by
 induction l with
 |nil=>rfl
 |cons a r ih =>
  cases r with
  |nil=>rfl
  |cons b r =>
   have e:(a::b::r).length-1=((b::r).length-1)+1:=by
    have h1:(a::b::r).length=r.length+2:=rfl;have h2:(b::r).length=r.length+1:=rfl;lia
   rw[e,List.eraseIdx_cons_succ,ih]
   all_goals rfl
theorem foldl_rep (its:List Yc):∀(k:Nat) (acc:List Yc),
  List.foldl (λx1 x2=>x1++x2) acc.toArray (YO k its.toArray)=(acc++(YO k its).flatten).toArray
 |0,acc=>by simp
 |k+1,acc=>by
  have e:acc.toArray++its.toArray=(acc++its).toArray:=by simp
  have e2:(acc++its)++(YO k its).flatten=acc++(YO (k+1) its).flatten:=by
   rw[ZU,aat,Zj]
  rw[<- e2,<- foldl_rep its k (acc++its),<- e,ZU,aaU]
section
variable {X:Cx}{pins:List (Addr×Obj)}{σ:St}{H:Hp}{s:Yg}{l:Addr}{xs ys:List V}
theorem Inv.Mv {its its':List Yc}{n:Nat}{f:Array Yc->Array Yc}{t':Nat}(I:Inv X pins σ H s)(hH:H l=some (.lst xs))
  (e:s.heap.get? l=some {cls:=.type "list",data:=.seq its.toArray n}) (hf:f its.toArray=its'.toArray) (hv:Vals ys its') (hz:ys.length<=Yy) :
  Inv X pins σ (upd H l (.lst ys)) {s with heap:=s.heap.update l (aax f),toks:=t'}:=by
 have q:=PySem.IsL.update e f;rw[hf]at q;refine I.write (x:=l) (e:=l) (by rw[hH];exact trivial) (.inl rfl) (λb' u hb hu=>(Heap.get?_update_other s.heap (aax f) (aaF hb)).trans hu) ⟨_,q⟩ ?_
 exact⟨hz,its',_,hv,q⟩
theorem Inv.Jr {its:List Yc}{t':Nat}(I:Inv X pins σ H s)(hv:Vals ys its)(hz:ys.length<=Yy):
  Inv X pins σ (upd H s.heap.objs.size (.lst ys)) {s with heap:=s.heap.push {cls:=.type "list",data:=.seq its.toArray},toks:=t'} :=
 I.laid (λ_ _ q=>Yv _ q) (Yh _) ⟨hz,its,0,hv,Y0 _ rfl⟩
theorem Inv.fresh (I:Inv X pins σ H s):H s.heap.objs.size=none:=I.bV.fresh (Yh _)
theorem Inv.Ca (I:Inv X pins σ H s)(hH:H l=some (.lst xs)):xs.length<=Yy/\∃(its:List Yc) (n:Nat),Vals xs its/\xs.length=its.length/\s.heap.get? l=some {cls:=.type "list",data:=.seq its.toArray n}:=by
 obtain⟨z,its,n,r,e⟩:=I.bV l _ hH;exact⟨z,its,n,r,r.length,e⟩
theorem B5 {n:Nat}(h:n<=Yy):abH n=false:=by
 unfold abH;exact decide_eq_false (by lia)
end
section
variable {X:Cx}
def xx:V->List V->Hp->VK->Prop:=λx vs H Q=>∃l xs y,x=.ref l/\vs=[y]/\H l=some (.lst xs)/\xs.length<Yy/\Q .cX (upd H l (.lst (xs++[y])))
theorem kJ:UP X "list.append" xx:=by
 intro pins s σ H x vs v us Q I rx rv h;obtain⟨l,xs,y,rfl,rfl,hH,hz,q⟩:=h;cases rx;obtain⟨u,rfl,ru⟩:=rv.one;obtain⟨z,its,n,r,hl,e⟩:=I.Ca hH;refine call_meets F.slot_list_append ⟨_,e,rfl⟩ F.entry_list_append (F.args_list_append_2 _ _) (PySem.list_append l its.toArray n u (by rw[YJ];lia)) ⟨e,?_⟩
 refine⟨.cX,_,I.Mv (its':=its++[u]) hH e (by simp) (r.append (.cons ru .nil)) ?_,rfl,q⟩
 rw[YR,aap];lia
def QA:V->List V->Hp->VK->Prop:=λx vs H Q=>∃l xs y,x=.ref l/\vs=[]/\H l=some (.lst xs)/\xs[xs.length-1]?=some y/\Q y (upd H l (.lst xs.dropLast))
theorem Jk:UP X "list.pop" QA:=by
 intro pins s σ H x vs v us Q I rx rv h;obtain⟨l,xs,y,rfl,rfl,hH,hy,q⟩:=h;cases rx;have JF:=rv.zero;subst JF;obtain⟨z,its,n,r,hl,e⟩:=I.Ca hH;obtain⟨u,hu,ru⟩:=r.get hy;have VY:its.toArray[its.toArray.size-1]?=some u:=by
  show its.toArray[its.length-1]?=some u;rw[<- YD,<- hl];exact hu
 refine call_meets F.slot_list_pop ⟨_,e,rfl⟩ F.entry_list_pop (F.args_list_pop_1 _) (MeetsSeq.list_pop_last l its.toArray n u VY (by rw[YJ];lia)) ⟨e,?_⟩
 refine⟨y,_,I.Mv (its':=its.dropLast) hH e ?_ r.dropLast ?_,ru,q⟩
 ·show its.toArray.eraseIdxIfInBounds (its.toArray.size-1)=its.dropLast.toArray;rw[YJ,List.eraseIdxIfInBounds_toArray,wH]
 ·rw[List.length_dropLast];lia
def QD:R2:=λx y H Q=>∃l b xs zs,x=.ref l/\y=.ref b/\H l=some (.lst xs)/\H b=some (.lst zs)/\xs.length+zs.length<=Yy/\∀p,H p=none->Q (.ref p) (upd H p (.lst (xs++zs)))
theorem BS:gU X (Z5 .Add) QD:=by
 intro pins s σ H x y v u Q I rx ry h;obtain⟨l,b,xs,zs,rfl,rfl,hH,hB,hz,q⟩:=h;cases rx;cases ry;obtain⟨z,its,n,r,hl,e⟩:=I.Ca hH;obtain⟨z2,JB,n2,r2,XS,e2⟩:=I.Ca hB;refine PySem.P.add_list e e2 ?_ (by rw[YJ,YJ];lia)
 have ea:its.toArray++JB.toArray=(its++JB).toArray:=by simp
 rw[ea];exact⟨.ref _,_,I.Jr (t':=s.toks) (r.append r2) (by rw[YR];lia),rfl,q _ I.fresh⟩
def Qz:R2:=λx y H Q=>∃l k xs,x=.ref l/\y=.int k/\H l=some (.lst xs)/\-(2 ^ 63)<=k/\k<2 ^ 63/\xs.length*k.toNat<=Yy /\
 ∀p,H p=none->Q (.ref p) (upd H p (.lst (YO k.toNat xs).flatten))
theorem len_rep {α:Type}(xs:List α)(k:Nat):(YO k xs).flatten.length=k*xs.length:=by
 induction k with
 |zero=>simp
 |succ k ih=>rw[ZU,aat,YR,ih,Nat.succ_mul,Nat.add_comm]
theorem IQ:gU X (Z5 .Mult) Qz:=by
 intro pins s σ H x y v u Q I rx ry h;obtain⟨l,k,xs,rfl,rfl,hH,h1,h2,hz,q⟩:=h;cases rx;obtain⟨t,rfl⟩:=ry;obtain⟨z,its,n,r,hl,e⟩:=I.Ca hH;have hlen:its.toArray.size*k.toNat<=Yy:=by rw[YJ,<- hl];exact hz
 have Sr:¬ its.toArray.size*k.toNat>(2 ^ 63-1) / 8:=by
  have:(Yy:Nat)<=(2 ^ 63-1) / 8:=by decide
  lia
 have Sl:¬ (!Builtin.List.listFitsIndex k)=true:=by
  rw[fitsIndex_both h1 h2];exact ZG
 have N1:¬ abH (its.toArray.size*k.toNat)=true:=by
  rw[B5 hlen];exact ZG
 have J9:List.foldl (λx1 x2=>x1++x2) #[] (YO (if its.toArray.isEmpty=true then 0 else k.toNat) its.toArray)=(YO k.toNat its).flatten.toArray:=by
  have f0:∀m:Nat,List.foldl (λx1 x2=>x1++x2) #[] (YO m its.toArray)=(YO m its).flatten.toArray:=λm=>by
   have:=foldl_rep its m [];rw[List.nil_append]at this;exact this
  rw[f0];cases its with
  |nil=>simp
  |cons a r'=>rw[if_neg (by simp)]
 refine wpAny_binaryOp_repeat_ref (T:="list") (U:="int") (by decide) ⟨_,e,rfl⟩ (λs'=>typeIs_int s' k t) noFill_list_mul F.fills_int_mul F.slot_int_rmul repeat_list F.slot_int_index.lookup
  (call_meets F.slot_int_rmul (typeIs_int s k t) F.entry_int_rmul (F.args_int_rmul_2 _ _) (int___rmul___int_list k t l its.toArray n)
   ⟨e,rfl,⟨_,e,rfl⟩,call_meets F.slot_list_mul ⟨_,e,rfl⟩ F.entry_list_mul (F.args_list_mul_2 _ _) (AutoListH.list___mul___list_int_3 l its.toArray n k t Sl Sr N1) ⟨e,?_⟩⟩)
 rw[J9];exact⟨.ref _,_,I.Jr (t':=s.toks) (r.rep k.toNat) (by rw[len_rep,Nat.mul_comm];exact hz),rfl,q _ I.fresh⟩
end
section
end
section
end
end L2
namespace UU
open PySem PySem.W PySem.Calls PyProof.Rows
theorem lQ {P:Params}{h:Heap}:∀(ns:List Int) (vs:List Yc),WellAll P h vs (ns.map WData.int)->Zg vs ns:=by
 intro ns
 induction ns with
 |nil =>
  intro vs w;rw[abk]at w;cases w;exact .nil
 |cons n ns ih =>
  intro vs w;rw[YA]at w;cases w with
  |cons a b =>
   cases a;exact .cons _ _ (ih _ b)
theorem y9 {l:OpenLaw}{n:Nat}(hn:l.most=some n){P:Params}{h:Heap}{args:List WData}{vals:List Yc}
  (Fy:l.row.toRowW.claim.pre args=true) (MP:WellAll P h vals args) :
  ∃a vs ns,vals=[Value.ref a]/\args=[WData.list (ns.map WData.int)]/\h.get? a=some {cls:=.type "list",data:=.seq vs.toArray}/\Zg vs ns/\ns.length<=n:=by
 have V5:WShape.hasAll [] args [.list .int]=true:=(pre_splitW Fy).1;have hc:l.pre.holds [] {args:=args}=true:=(pre_splitW Fy).2;obtain⟨d,r,rfl,h1,h2⟩:=hasAllW_cons V5;obtain rfl:=hasAllW_nil h2;obtain⟨xs,rfl,h3⟩:=hasW_list h1;obtain⟨ns,rfl⟩:=items_int h3;have hlen:ns.length<=n:=by
  unfold OpenLaw.pre at hc;have h4:(WTm.not (.lt (.lit (.int (n:Int))) (.len (.arg 0)))).holds [] {args:=[.list (ns.map .int)]}=true:=by
   have h4:=(holds_andW hc).1;rw[hn]at h4;exact h4
  have h5:=condW_of h4 (w_not (w_lt w_lit (w_len_list (w_arg rfl))));rw[Ye]at h5;refine Nat.le_of_not_lt λq=>?_;have q':(n:Int)<((ns.length:Nat):Int):=by lia
  first
   | (rw[decide_eq_true q']at h5;exact absurd h5 (by decide))
   | (simp at h5;lia)
 cases MP with
 |cons w1 w2 =>
  cases w2;cases w1 with
  |list ho Sv=>exact⟨_,_,ns,rfl,rfl,ho,lQ ns _ Sv,hlen⟩
theorem zi (l:OpenLaw)(args:List WData):l.row.toRowW.claim.post args (.bool true) args=true :=
 postW_of (r:=l.row.toRowW) (X:=(true==true))
  (show WShape.has [] (.bool true) .bool=true by first|rfl|decide|simp[WShape.has,WShape.arms,WShape.armsAll])
  (show (WTm.eq .res (.lit (.bool true))).value [] {args:=args,res:=some (.bool true),after:=args}=some (.bool (true==true)) from w_eq_bool (w_res rfl) w_lit) rfl
theorem vc {l:OpenLaw}{n:Nat}{q:Yk}{loose:List Str}{XP:(Str->Option Yc)->Heap->Prop}{YP:YB->Heap->Prop}{d:DefRec}
  (hn:l.most=some n) (Sm:d.params.defaults=[])
  (call:∀(w:YB) (s₀ s₁:Yg) (mg mb:Str->Option Yc) (fa:Addr) (o:Obj) (pm cd doc:Yc) (a:Addr) (vs:List Yc) (ns:List Int),
   Ground q loose [] XP w s₀ mg mb s₁.heap->YP w s₁.heap ->
   s₁.heap.get? fa=some o->o.data=.func (docDef d.name d.params d.body d.scope pm cd doc)->s₁.heap.CodeRec cd d.name->mg d.name=some (.ref fa) ->
   s₁.heap.get? a=some {cls:=.type "list",data:=.seq vs.toArray}->Zg vs ns->ns.length<=n->s₁.gens=#[] ->
   abx (model l.prog w) callerA (.call (.ref fa) ⟨[.ref a],[]⟩) (λr s'=>r=.ok (.ret (.bool true))/\OldK s₁.heap s'.heap/\s'.os=s₁.os/\AllBare s'.gens) s₁) :
  WalkO q loose XP YP l.row.toRowW d [] (λf vs=>PySem.call f vs):=by
 intro w s₀ s₁ mg mb G Y fa o pm cd doc dV kV ho hd i7 hD R4 hg args vals as Fy Wr XM MP N2;obtain rfl:dV=.none:=Dflts.none hD Sm;obtain rfl:kV=.none:=Dflts.noKw hD;obtain⟨a,vs,ns,rfl,rfl,J6,hints,hlen⟩:=y9 hn Fy MP;refine enter_call (aa4 (call w s₀ s₁ mg mb fa o pm cd doc a vs ns G Y ho (fd_plain hd) i7 R4 J6 hints hlen hg) λr s' hq=>?_);obtain⟨rfl,h2,h3,h4⟩:=hq;exact⟨.inl ⟨.bool true,.bool true,[],rfl,λ_=>rfl,.bool true,zi l _,λ_=>⟨abA,λ_ hm=>(nomatch hm)⟩⟩,h2,h3,h4⟩
section
end
end UU
namespace L2
open PySem PySem.Spec PyProof.Rows
theorem pP:∀{vs:List Yc} {ns:List Int},Zg vs ns->Vals (ns.map V.int) vs
 |_,_,.nil=>.nil
 |_,_,.cons n t h=>.cons ⟨t,rfl⟩ (pP h)
def KL (H:Hp):Prop:=∀b,H b=none\/∃o xs,H b=some (.DS o (.lst xs))
theorem Cq {P:Yk}{w:YB}{K:PySem.W.Frag}{mg mb:Str->Option Yc}{CX:DL}{k:Nat}{fa a:Addr}{fd:YY}{x:Str}{sp:Sp}{s₁:Yg}{vs:List Yc}{ns:List Int}
  (KX:K.In s₁.heap) (Pw:s₁.heap.Ns Z2 mg) (hb:s₁.heap.Ns builtinsNs mb) (WD:∀x:Str,x≠"__name__" -> mb x=ZA x) (R6:s₁.heap.NoLimit) (hg:s₁.gens=#[])
  (ha:s₁.heap.get? a=some {cls:=.type "list",data:=.seq vs.toArray}) (hi:Zg vs ns) (hl:ns.length<=Yy) (hr:cU k callerA)
  (F:∀base:Heap,K.In base->base.Ns Z2 mg->aH P w K mg base CX k fa fd [x] sp) (Ob:∀(s:Yg) (u:Yc),BindsTo s fd ⟨[u],[]⟩ [(x,u)])
  (uy:∀H:Hp,KL H->dh K H a (ns.map V.int)->sp [.ref a] H (λv _=>v=.bl true) λ_ _ _=>False)
  (Sz:∀H e s',CX [] H s₁ (λ_ _ _=>False) e s'->False) :
  abx (model P w) callerA (.call (.ref fa) ⟨[.ref a],[]⟩) (λr s'=>r=.ok (.ret (.bool true))/\OldK s₁.heap s'.heap/\s'.os=s₁.os/\AllBare s'.gens) s₁:=by
 have rv:=pP hi;have Q0:=hi.length;have core:∀H:Hp,KL H->dh K H a (ns.map V.int)->i9 P w H s₁.heap->(∀b,H b≠none->b=a)->(H a≠none->K.lookup a=none) ->
   abx (model P w) callerA (.call (.ref fa) ⟨[.ref a],[]⟩) (λr s'=>r=.ok (.ret (.bool true))/\OldK s₁.heap s'.heap/\s'.os=s₁.os/\AllBare s'.gens) s₁:=by
  intro H hO hS bV hA hK;have yD:∀{b:Addr} {o:Obj},s₁.heap.get? b=some o->H b=none->(su s₁.heap H).get? b=some o:=λe n=>CQ e n;have Mf:∀{b:Addr} {o:Obj} {es:Array abb} {ep:Nat},s₁.heap.get? b=some o->o.data=.dict es ep->H b=none:=λ{b o es ep} e d=>by
   cases q:H b with
   |none=>rfl
   |some u =>
    have e':b=a:=hA b (by rw[q];simp)
    subst e';rw[ha]at e;cases e;have d':Data.seq vs.toArray _=Data.dict es ep:=d;cases d'
  have Pg:∀{b:Addr} {m:Str->Option Yc},s₁.heap.Ns b m->(su s₁.heap H).Ns b m:=λ{b m} ⟨o,es,ep,e,d,r⟩=>⟨o,es,ep,yD e (Mf e d),d,r⟩;have Ux:K.In (su s₁.heap H):=λb o e=>yD (KX b o e) (by
   cases q:H b with
   |none=>rfl
   |some u =>
    have e':b=a:=hA b (by rw[q];simp)
    subst e';rw[hK (by rw[q];simp)]at e;cases e)
  have hM:Mod K mg (su s₁.heap H):=⟨Ux,Pg Pw,⟨mb,Pg hb,WD⟩,let ⟨mc,h1,h2⟩:=R6;⟨mc,Pg h1,h2⟩⟩
  have e0:Gr P w K mg (su s₁.heap H) callerA [] s₁ H:=⟨rfl,hM,λb o e=>E5 e,Nat.le_of_eq (zT _ _),trivial,λb hb=>absurd (show b∈([]:List Addr) from hb) (by simp),bV,.of_eq hg⟩
  refine aa4 ((F _ Ux (Pg Pw)).run callerA [] s₁ H ⟨[.ref a],[]⟩ [.ref a] [.ref a] _ _ hr e0 (Ob s₁ (.ref a)) (.cons rfl .nil) (uy H hO hS)) λr s' h=>?_;cases r with
  |error e=>exact(Sz H e s' h).elim
  |ok fl =>
   cases fl with
   |next=>exact aaC h
   |brk=>exact aaC h
   |cont=>exact aaC h
   |ret u =>
    obtain⟨v,H',os,bare,un,RS,r',q⟩:=h;have q':v=.bl true:=q;subst q';obtain rfl:u=Value.bool true:=r';refine⟨rfl,OldK.of_keep λb o e=>?_,os,bare⟩;cases q:H b with
    |none=>exact un.keep b o e q (by intro z;exact absurd (show b∈([]:List Addr) from z) (by simp)) (by simp)
    |some u =>
     rcases hO b with z|⟨ob,xs,z⟩
     ·rw[q]at z;cases z
     ·have z2:=un.pA b ob _ z;obtain⟨e1,_⟩:=bV b _ z;obtain⟨e2,_⟩:=RS b _ z2;rw[e]at e1;cases e1;exact e2
 cases hk:K.lookup a with
 |some o =>
  have e:=KX a o hk;rw[ha]at e;cases e;refine core (λ_=>none) (λ_=>.inl rfl) (.inr ⟨_,vs.toArray,_,hk,rfl,rfl,rfl,by rw[YJ,Q0];exact hl,by simpa using rv⟩) (λb u z=>by have z':(none:Option HO)=some u:=z;cases z') (λb z=>absurd rfl z) λz=>absurd rfl z
 |none =>
  refine core (λb=>if b=a then some (.DS {cls:=.type "list",data:=.seq vs.toArray} (.lst (ns.map V.int))) else none) (λb=>?_) (.inl (.inr ⟨{cls:=.type "list",data:=.seq vs.toArray},if_pos rfl⟩)) (λb u z=>?_) (λb z=>?_) λ_=>hk
  ·by_cases hb:b=a
   ·exact .inr ⟨_,_,if_pos hb⟩
   ·exact .inl (if_neg hb)
  ·by_cases hb:b=a
   ·have z':=(if_pos hb).symm.trans z;cases z';subst hb;exact⟨ha,by rw[Ye];exact hl,vs,_,rv,ha⟩
   ·have z':=(if_neg hb).symm.trans z;cases z'
  ·by_cases hb:b=a
   ·exact hb
   ·exact absurd (if_neg hb) z
theorem Ed {l:PySem.W.OpenLaw}{n k:Nat}{q:Yk}{loose:List Str}{XP:(Str->Option Yc)->Heap->Prop}{YP:YB->Heap->Prop}{d:DefRec}{K:Params->PySem.W.Frag}{CX:YB->DL}{sp:YB->Sp}{x:Str}
  (hn:l.most=some n) (Px:n<=Yy) (Sm:d.params.defaults=[]) (hr:cU k callerA)
  (hY:∀(w:YB) (h:Heap),YP w h->(K w.params).In h)
  (F:∀(w:YB) (mg:Str->Option Yc) (fa:Addr) (h:Heap),(K w.params).In h->h.Ns Z2 mg->mg d.name=some (.ref fa) ->
   ∃fd:YY,(∀(s:Yg) (u:Yc),BindsTo s fd ⟨[u],[]⟩ [(x,u)]) /\
    ∀base:Heap,(K w.params).In base->base.Ns Z2 mg->aH l.prog w (K w.params) mg base (CX w) k fa fd [x] (sp w))
  (uy:∀(w:YB) (H:Hp) (a:Addr) (ns:List Int),ns.length<=n->KL H->dh (K w.params) H a (ns.map V.int)->sp w [.ref a] H (λv _=>v=.bl true) λ_ _ _=>False)
  (Sz:∀(w:YB) (H:Hp) (s:Yg) (e:Yc) (s':Yg),CX w [] H s (λ_ _ _=>False) e s'->False) :
  PySem.W.WalkO q loose XP YP l.row.toRowW d [] (λf vs=>PySem.call f vs):=by
 refine UU.vc hn Sm λw s₀ s₁ mg mb fa o pm cd doc a vs ns G Y ho hd i7 R4 J6 hints hlen hg=>?_;have KX:=hY w _ Y;obtain⟨fd,hb,hF⟩:=F w mg fa _ KX G.T.g R4;exact Cq KX G.T.g G.T.b G.T.builtins G.T.nolimit hg J6 hints (YI hlen Px) hr hF hb (λH hO hS=>uy w H a ns hlen hO hS) λH e s'=>Sz w H s₁ e s'
abbrev bp:DL:=λ_ _ _ _ _ _=>False
abbrev E0:XK:=λ_ _ _=>False
theorem BK {X:Cx}:Passes bp X E0:=λ_ _ _ _ _ _ _ h=>h.elim
structure DV (K:PySem.W.Frag)(x qual:Str)(st:Stmt)(f:Addr)(fd:YY):Prop where
 ex:∃(oc:Yc) (od:Option Addr) (kV doc pm:Yc) (an:Option Addr) (cF ct:Yc) (IP:Array (Option Yc)),
  fd=PySem.W.fnOf x qual (mn st) (fe st) (ar st) .none kV doc pm an cF ct/\K.lookup f=some ⟨oc,od,.func fd,IP⟩/\PySem.W.codeIn K cF qual=true
 kp:PySem.W.keepIn K (.ref f)=true
section
variable {P:Yk}{w:YB}{K:PySem.W.Frag}{mg:Str->Option Yc}{base:Heap}
theorem DV.ok {x qual:Str}{st:Stmt}{f:Addr}{fd:YY}{N ps:List Str}{k:Nat}{sp:Sp}(F:DV K x qual st f fd)(S:aI N ps (ar st))(len:∀vs H Q E,sp vs H Q E->vs.length=ps.length)
  (n6:∀(cF:Yc) (A:Zc) (outer:List Env) (s:Yg) (H:Hp) (vs:List V) (Q:VK) (E:XK),cU k (A.deeper (envOfC qual (ar st) s.heap.objs.size f cF))->sp vs H Q E ->
   ∃t,sX (pH bp P w K mg base N qual (ar st) f cF A outer s H E).GK (fe st) t/\t {nx:=λ_ H'=>Q .cX H',rt:=Q} (start N vs) H):aH P w K mg base bp (k+1) f fd ps sp:=by
 obtain⟨oc,od,kV,doc,pm,an,cF,ct,IP,rfl,lk,i7⟩:=F.ex;refine Oh lk i7 S len λA outer s H vs Q E hr uy=>?_;obtain⟨t,h,q⟩:=n6 cF A outer s H vs Q E hr uy;exact⟨t,h.GK,q⟩
theorem Kl {x qual:Str}{st:Stmt}{f:Addr}{oc:Yc}{od an:Option Addr}{IP:Array (Option Yc)}{kV doc pm cF ct:Yc}(l:K.lookup f=some ⟨oc,od,.func (PySem.W.fnOf x qual (mn st) (fe st) (ar st) .none kV doc pm an cF ct),IP⟩)
  (c:PySem.W.codeIn K cF qual=true) (k:PySem.W.keepIn K (.ref f)=true):DV K x qual st f (PySem.W.fnOf x qual (mn st) (fe st) (ar st) .none kV doc pm an cF ct):=⟨⟨oc,od,kV,doc,pm,an,cF,ct,IP,rfl,l,c⟩,k⟩
end
section
variable {X:Cx}
theorem pv (i:Nat){x:Str}{pos:Pos}(hN:X.N[i]?=some x:=by rfl)(hv:yI X.env.scope x:=by first|exact Or.inl rfl|exact Or.inr (Or.inl rfl)|exact Or.inr (Or.inr rfl))(hd:(x==("__debug__" : Str))=false:=by decide)
  (i7:(x==("__classdict__" : Str))=false:=by decide):PE X (.Name x pos) (Lv i):=fg hN hv hd i7
end
def ay (H H':Hp):Prop:=∀b o,H b=some o->H' b=some o
theorem ay.refl (H:Hp):ay H H:=λ_ _ h=>h
theorem ay.trans {H H1 H2:Hp}(a:ay H H1)(b:ay H1 H2):ay H H2:=λc o h=>b c o (a c o h)
theorem ay.free {H H':Hp}(e:ay H H'){l:Addr}(h:H' l=Option.none):H l=Option.none:=by
 cases q:H l with
 |none=>rfl
 |some o =>
  rw[e l o q]at h;cases h
theorem ay.seq {K:PySem.W.Frag}{H H':Hp}{a:Addr}{xs:List V}(e:ay H H')(h:dh K H a xs):dh K H' a xs:=by
 rcases h with (h|⟨o,h⟩)|h
 ·exact .inl (.inl (e _ _ h))
 ·exact .inl (.inr ⟨o,e _ _ h⟩)
 ·exact .inr h
section
variable {X:Cx}{a b c:Expr}{ta tb:TE}{pos:Pos}
def qW (i j:Int):Prop:=0<j/\j.natAbs.log2<9000
theorem qW.of {i j:Int}(h0:0<j)(h:j<2 ^ 200):qW i j:=by
 refine⟨h0,?_⟩;have h2:j.natAbs<2 ^ 200:=by lia
 have:=(Nat.log2_lt (n:=j.natAbs) (k:=200) (by lia)).mpr h2
 lia
theorem nr:gU X (Z5 .FloorDiv) (rI qW λi j=>.int (i / j)):=L9 λi j _ _ _ _ _ hc q=>by
 have h1:(0:Int)<j:=hc.1;exact floordiv_int (by lia) (by rw[Int.fdiv_eq_ediv_of_nonneg i (by lia)];exact q) (.inl (PyProof.noPylong_of_log2 hc.2))
def Hu (X:Cx)(ops:List aa8)(rs:List Expr)(t:V->TE):Prop :=
 ∀(pos:Pos) (pins:List (Addr×Obj)) (s:Yg) (σ:St) (H:Hp) (x:V) (v:Yc) (Q:VK),Inv X pins σ H s->RelV x v->t x σ H Q ->
  YM (model X.prog X.w) X.A (compareChain pos v ops (evalEach rs X.env)) (EP X pins σ Q) X.xe s
def vo (X:Cx)(ops:List aa8)(rs:List Expr)(t:V->TT):Prop :=
 ∀(pos:Pos) (pins:List (Addr×Obj)) (s:Yg) (σ:St) (H:Hp) (x:V) (v:Yc) (Q:Bool->Hp->Prop),Inv X pins σ H s->RelV x v->t x σ H Q ->
  YM (model X.prog X.w) X.A (testChain pos v ops (evalEach rs X.env)) (TP X pins σ Q) X.xe s
variable {op IV:aa8}{ops:List aa8}{rs:List Expr}{r:R2}{t:V->TE}{tt:V->TT}
theorem Kx (ho:gU X (Y7 op) r)(hb:PE X b tb):Hu X [op] [b] (λx σ H Q=>tb σ H λy H2=>r x y H2 Q):=by
 intro pos pins s σ H x v Q I rx h;exact chain_last (bF (hb pins s σ H _ I h) λu s1 Fx=>by obtain⟨y,H1,I1,r1,q1⟩:=Fx;exact ho pins s1 σ H1 x y v u Q I1 rx r1 q1)
theorem Ge (ho:gU X (Y7 op) r)(hb:PE X b tb)(hc:Hu X (IV::ops) (c::rs) t):
  Hu X (op::IV::ops) (b::c::rs) (λx σ H Q=>tb σ H λy H2=>r x y H2 λz H3=>∃k,z=.bl k/\(if k=true then t y σ H3 Q else Q (.bl false) H3)):=by
 intro pos pins s σ H x v Q I rx h;refine chain_link (bF (hb pins s σ H _ I h) λu s1 ⟨y,H1,I1,r1,q1⟩=>bF (ho pins s1 σ H1 x y v u _ I1 rx r1 q1) λd s3 ⟨z,H3,I3,r3,k,e,q3⟩=>?_);subst e;cases r3;refine aab ?_;cases k with
 |false=>exact ite_ff ⟨.bl false,H3,I3,rfl,q3⟩
 |true=>exact ite_tt (hc pos pins s3 σ H3 y u Q I3 r1 q3)
theorem zr {eD eC:aa8}(ha:PE X a ta)(hc:Hu X (eD::eC::ops) (b::c::rs) t)(hm:lastMarks (eD::eC::ops) (b::c::rs)=false:=by with_unfolding_all rfl):
  PE X (.Compare a (eD::eC::ops) (b::c::rs) pos) (λσ H Q=>ta σ H λx H1=>t x σ H1 Q):=by
 intro pins s σ H Q I h;exact Compare_chain (bF (ha pins s σ H _ I h) λv s1 MY=>by obtain⟨x,H1,I1,r1,q1⟩:=MY;exact hc pos pins s1 σ H1 x v Q I1 r1 q1) hm
theorem Gb (ho:gU X (Y7 op) r)(hb:PE X b tb):vo X [op] [b] (λx σ H Q=>tb σ H λy H2=>r x y H2 λz H3=>∃k,z=.bl k/\Q k H3):=by
 intro pos pins s σ H x v Q I rx h;refine test_last (bF (hb pins s σ H _ I h) λu s1 ⟨y,H1,I1,r1,q1⟩=>bF (ho pins s1 σ H1 x y v u _ I1 rx r1 q1) λd s3 ⟨z,H3,I3,r3,k,e,q3⟩=>?_);subst e;cases r3;exact aab ⟨H3,I3,q3⟩
theorem Dt (ho:gU X (Y7 op) r)(hb:PE X b tb)(hc:vo X (IV::ops) (c::rs) tt):
  vo X (op::IV::ops) (b::c::rs) (λx σ H Q=>tb σ H λy H2=>r x y H2 λz H3=>∃k,z=.bl k/\(if k=true then tt y σ H3 Q else Q false H3)):=by
 intro pos pins s σ H x v Q I rx h;refine test_link (bF (hb pins s σ H _ I h) λu s1 ⟨y,H1,I1,r1,q1⟩=>bF (ho pins s1 σ H1 x y v u _ I1 rx r1 q1) λd s3 ⟨z,H3,I3,r3,k,e,q3⟩=>?_);subst e;cases r3;refine aab ?_;cases k with
 |false=>exact ite_ff ⟨H3,I3,q3⟩
 |true=>exact ite_tt (hc pos pins s3 σ H3 y u Q I3 r1 q3)
theorem zf {eD eC:aa8}(ha:PE X a ta)(hc:vo X (eD::eC::ops) (b::c::rs) tt)(hm:lastMarks (eD::eC::ops) (b::c::rs)=false:=by with_unfolding_all rfl):
  PT X (.Compare a (eD::eC::ops) (b::c::rs) pos) (λσ H Q=>ta σ H λx H1=>tt x σ H1 Q):=by
 intro pins s σ H Q I h;exact isTrue_chain (bF (ha pins s σ H _ I h) λv s1 Fu=>by obtain⟨x,H1,I1,r1,q1⟩:=Fu;exact hc pos pins s1 σ H1 x v Q I1 r1 q1) hm
end
theorem Dy:ZA "max" = some (.builtin "max"):=by decide +kernel
theorem w5:ZA "min" = some (.builtin "min"):=by decide +kernel
theorem KC:ZA "int" = some (.type "int"):=by decide +kernel
theorem Gg:ZA "list" = some (.type "list"):=by decide +kernel
theorem lb:ZA "sorted" = some (.builtin "sorted"):=by decide +kernel
theorem oJ:ZA "len" = some (.builtin "len"):=by decide +kernel
theorem ME {c A B:Prop}[Decidable c](hc:c)(h:A):if decide c=true then A else B:=by
 rw[if_pos (decide_eq_true hc)];exact h
theorem MF {c A B:Prop}[Decidable c](hc:¬ c)(h:B):if decide c=true then A else B:=by
 rw[if_neg (by simp[hc])]
 exact h
theorem Q8 {c A B:Prop}[Decidable c](h1:c->A)(h2:¬ c->B):if decide c=true then A else B:=by
 by_cases h:c
 ·exact ME h (h1 h)
 ·exact MF h (h2 h)
theorem ay.new {H:Hp}{p:Addr}{o:HO}(n:H p=none):ay H (L2.upd H p o):=λb u e=>by rw[aw (cE e n)];exact e
section
end
theorem L4:Gv 10 18:=⟨by decide,by decide,by decide⟩
section
theorem sd {a:Int}{b:Int}(h:0<b):0<=a % b/\a % b<b:=⟨Int.emod_nonneg a (by lia),Int.emod_lt_of_pos a h⟩
end
def aO (X:Cx)(scope:aa7)(N':List Str)(cl:List (Str×Addr))(C:Addr)(s:Yg)(H:Hp)(ex:List Addr):Cx :=
 {X with N:=N',s₀:=s,H₀:=H,env:=compEnvC scope cl C X.env,outer:=X.stack,stack:=X.stack,ex:=ex,fn:=λ_=>false,pn:=[],xe:=λ_ _=>False}
theorem i5 {env:Env}:∀(names:List (Str×abg)) (cs:List (Str×Addr)),(∀x,(x,Zb)∈names->∃c,env.cells.lookup x=some c) ->
  (∀x c,cs.lookup x=some c->env.cells.lookup x=some c) ->
  ∃cl,(forIn names cs λ(p:Str×abg) (cs:List (Str×Addr))=>do
   if p.2==.free then do
    let a <- cellOf env p.1
    pure (ForInStep.yield ((p.1,a)::cs))
   else pure (ForInStep.yield cs):Sem (List (Str×Addr)))=pure cl /\
   (∀x,((x,Zb)∈names\/(∃c,cs.lookup x=some c))->∃c,cl.lookup x=some c)/\∀x c,cl.lookup x=some c->env.cells.lookup x=some c
 |[],cs,_,PH=>⟨cs,rfl,λx h=>h.elim (λz=>nomatch z) id,PH⟩
 | (n,k)::names,cs,hf,PH=>by
  by_cases hk:k=.free
  ·subst hk;obtain⟨c,hc⟩:=hf n (Yo ..);obtain⟨cl,e,h1,h2⟩:=i5 names ((n,c)::cs) (λx hx=>hf x (Yn _ hx)) (λx c' hx=>by
    rw[ZM]at hx;cases q:x==n with
    |true=>rw[q]at hx;cases hx;rw[eq_of_beq q];exact hc
    |false=>rw[q]at hx;exact PH x c' hx)
   refine⟨cl,?_,λx hx=>h1 x ?_,h2⟩
   ·rw[List.forIn_cons];have ec:cellOf env n=pure c:=by unfold cellOf;rw[hc]
    simp only[beq_self_eq_true,if_true,ec];exact e
   ·rcases hx with hx|⟨c',hx⟩
    ·rcases Yi.mp hx with z|z
     ·cases z;exact .inr ⟨c,by simp⟩
     ·exact .inl z
    ·right
     rw[ZM];cases q:x==n with
     |true=>exact⟨c,rfl⟩
     |false=>exact⟨c',hx⟩
  ·obtain⟨cl,e,h1,h2⟩:=i5 names cs (λx hx=>hf x (Yn _ hx)) PH;refine⟨cl,?_,λx hx=>h1 x ?_,h2⟩
   ·rw[List.forIn_cons];have hb:(k==Zb)=false:=by simpa using hk
    simp only[hb,aaX,if_false];exact e
   ·rcases hx with hx|hx
    ·rcases Yi.mp hx with z|z
     ·cases z;exact absurd rfl hk
     ·exact .inl z
    ·exact .inr hx
theorem iH {env:Env}{scope:aa7}(h:∀x,(x,Zb)∈scope.names->∃c,env.cells.lookup x=some c):
  ∃cl,closureFor scope env=pure cl/\(∀x,(x,Zb)∈scope.names->∃c,cl.lookup x=some c)/\∀x c,cl.lookup x=some c->env.cells.lookup x=some c:=by
 obtain⟨cl,e,h1,h2⟩:=i5 scope.names [] h (λx c z=>by simp at z)
 refine⟨cl,?_,λx hx=>h1 x (.inl hx),h2⟩;unfold closureFor;refine Eq.trans ?_ (congrArg (· >>= pure) e);rfl
structure Links (X:Cx)(scope:aa7)(N':List Str)(lk:List (Option Nat)):Prop where
 kind:scope.kind=.function
 v9:∀x∈scope.names,x.2≠.cell
 names:∀x∈scope.names,x.2=.local->scope.names.lookup x.1=some .local
 free:∀x,(x,Zb)∈scope.names->X.env.kindOf x=some .cell\/X.env.kindOf x=some .free
 len:lk.length=N'.length
 link:∀(i j:Nat),lk[i]?=some (some j)->∃x,N'[i]?=some x/\X.N[j]?=some x/\(x,Zb)∈scope.names/\scope.names.lookup x=some .free
def nK (outer:List (Str×abg))(N:List Str)(scope:aa7)(N':List Str)(lk:List (Option Nat)):Bool :=
 (scope.kind==.function)&&scope.names.all (λx=>x.2 != .cell&&(x.2 != .local || scope.names.lookup x.1==some .local)&&(x.2 != .free || outer.lookup x.1==some .cell || outer.lookup x.1==some .free)) &&
 lk.length==N'.length&&(YF lk.length).all λi=>match lk[i]? with
  |some (some j)=>match N'[i]? with
   |some x=>N[j]?==some x&&scope.names.contains (x,.free)&&scope.names.lookup x==some .free
   |none=>false
  |_=>true
theorem Links.of {X:Cx}{scope:aa7}{N':List Str}{lk:List (Option Nat)}(h:nK X.env.scope.names X.N scope N' lk=true):Links X scope N' lk:=by
 simp only[nK,Zi]at h;obtain⟨⟨⟨h1,h2⟩,h3⟩,h4⟩:=h;rw[aai]at h2 h4;refine⟨by simpa using h1,λx hx=>?_,λx hx hl=>?_,λx hx=>?_,by simpa using h3,λi j aX=>?_⟩
 ·have:=h2 x hx;simp only[Zi]at this;simpa using this.1.1
 ·have:=h2 x hx;simp only[Zi]at this;have q:=this.1.2;rw[hl]at q;simpa using q
 ·have:=h2 _ hx;simp only[Zi]at this;have q:=this.2;simp only[Bool.or_eq_true]at q;rcases q with (q|q)|q
  ·simp at q
  ·exact .inl (show X.env.scope.names.lookup x=some .cell by simpa using q)
  ·exact .inr (show X.env.scope.names.lookup x=some .free by simpa using q)
 ·have hi:i<lk.length:=(Yr.mp aX).1;have q:=h4 i (Zh.mpr hi);rw[aX]at q;simp only at q;cases e:N'[i]? with
  |none=>rw[e]at q;simp at q
  |some x =>
   rw[e]at q;simp only[Zi]at q;obtain⟨⟨q1,q2⟩,q3⟩:=q;exact⟨x,rfl,by simpa using q1,by simpa using q2,by simpa using q3⟩
def fm (lk:List (Option Nat))(σ:St):St:=lk.map λl=>match l with|some j=>(match σ[j]? with|some v=>v|none=>none)|none=>none
theorem dB {env:Env}:∀{names:List (Str×abg)} {x:Str},names.lookup x=some .free ->
  (names.map λ(n,k)=>if (k==Zb&&env.scope.kind==.function&&env.kindOf n==some .cell) then (n,aaO) else (n,k)).lookup x=some .cell \/
  (names.map λ(n,k)=>if (k==Zb&&env.scope.kind==.function&&env.kindOf n==some .cell) then (n,aaO) else (n,k)).lookup x=some .free
 |[],_,h=>by simp at h
 | (n,k)::r,x,h=>by
  have ih:=@dB env r x;show List.lookup x ((if (k==Zb&&env.scope.kind==.function&&env.kindOf n==some .cell)=true then (n,aaO) else (n,k))::_)=_ \/
   List.lookup x ((if (k==Zb&&env.scope.kind==.function&&env.kindOf n==some .cell)=true then (n,aaO) else (n,k))::_)=_
  cases hx:x==n with
  |true =>
   simp only[ZM,hx]at h;cases h
   by_cases hc:(Zb==Zb&&env.scope.kind==.function&&env.kindOf n==some .cell)=true
   ·rw[if_pos hc];left;simp[ZM,hx]
   ·rw[if_neg hc];right;simp[ZM,hx]
  |false =>
   simp only[ZM,hx]at h
   by_cases hc:(k==Zb&&env.scope.kind==.function&&env.kindOf n==some .cell)=true
   ·rw[if_pos hc];simp only[ZM,hx];exact ih h
   ·rw[if_neg hc];simp only[ZM,hx];exact ih h
theorem dz {env:Env}:∀{names:List (Str×abg)} {x:Str} {k:abg},(k=.cell\/k=.free)->(∀y∈names,y.2≠.cell) ->
  (names.map λ(n,k)=>if (k==Zb&&env.scope.kind==.function&&env.kindOf n==some .cell) then (n,aaO) else (n,k)).lookup x=some k->(x,Zb)∈names
 |[],_,_,_,_,h=>by simp at h
 | (n,k')::r,x,k,hk,hc,h=>by
  have ih:=@dz env r x k hk (λy hy=>hc y (Yn _ hy));have h':List.lookup x ((if (k'==Zb&&env.scope.kind==.function&&env.kindOf n==some .cell)=true then (n,aaO) else (n,k'))::(r.map λ(n,k)=>if (k==Zb&&env.scope.kind==.function&&env.kindOf n==some .cell) then (n,aaO) else (n,k)))=some k:=h
  have N5:=hc (n,k') (Yo ..)
  by_cases FI:(k'==Zb&&env.scope.kind==.function&&env.kindOf n==some .cell)=true
  ·rw[if_pos FI]at h';simp only[Zi,beq_iff_eq]at FI;cases hx:x==n with
   |true=>rw[eq_of_beq hx,FI.1.1];exact Yo ..
   |false=>rw[ZM,hx]at h';exact Yn _ (ih h')
  ·rw[if_neg FI]at h';cases hx:x==n with
   |true =>
    rw[ZM,hx]at h';have e:k'=k:=by simpa using h'
    subst e;rcases hk with hk|hk
    ·exact absurd hk N5
    ·rw[eq_of_beq hx,hk];exact Yo ..
   |false=>rw[ZM,hx]at h';exact Yn _ (ih h')
section
variable {X:Cx}{pins:List (Addr×Obj)}{σ:St}{H:Hp}{s:Yg}{scope:aa7}{N':List Str}{lk:List (Option Nat)}{cl:List (Str×Addr)}{ex:List Addr}
theorem CA {h':Heap}{t':Nat}(I:Inv X pins σ H s)(L:Links X scope N' lk)(hex:∀b∈ex,gV X pins H b)(RU:∀b∈ex,∃o,s.heap.get? b=some o)
  (pz:∀x,(x,Zb)∈scope.names->∃c,cl.lookup x=some c) (kX:∀x c,cl.lookup x=some c->X.env.cells.lookup x=some c)
  (hn:h'.Ns s.heap.objs.size (λ_=>none)) (hk:∀b o,s.heap.get? b=some o->h'.get? b=some o) :
  Inv (aO X scope N' cl s.heap.objs.size s H ex) [] (fm lk σ) H {s with heap:=h',toks:=t'}:=by
 obtain⟨m,hm,hl⟩:=I.loc;have WT:∀b∈ex,b≠s.heap.objs.size:=λb hb=>by
  obtain⟨o,e⟩:=RU b hb;exact YZ (YC e)
 refine⟨⟨I.ok.mod,L.kind,I.ok.glob,I.ok.blt,Yh _,λx y c h1 h2=>I.ok.inj x y c (kX _ _ h1) (kX _ _ h2),λx hx=>?_,λx c z=>(nomatch z),I.ok.hd,I.ok.frames,.inl rfl,
  λb hb=>⟨WT b hb,λx c e=>(hex b hb).2.2.2.2.1 x c (kX _ _ e)⟩,I.bs,YI I.ok.Hm I.sz,λb o e z=>?_,λb hb z=>?_,I.stack,I.xn⟩,
  rfl,I.bare,Un.kept hk,⟨_,hn,λi x v h1 h2 h3=>?_⟩,λx c e=>?_,I.bV.fresh (Yh _),λx c e=>I.iC x c (kX _ _ e),λp hp=>absurd (show p∈([]:List (Addr×Obj)) from hp) (by simp),I.bV.kept hk,?_⟩
 ·have CF:(relabel scope X.env).names.lookup x=some .cell\/(relabel scope X.env).names.lookup x=some .free:=hx;rcases CF with q|q
  ·exact pz x (dz (.inl rfl) L.v9 q)
  ·exact pz x (dz (.inr rfl) L.v9 q)
 ·obtain⟨f0,f1,f2,f3,_⟩:=hex b z;rcases f3 with q|q
  ·exact I.ok.B7 b o e q
  ·have h1:=YC e;have h2:=I.ok.Hm;exact absurd (Y2 h1 (YI h2 q)) (abc _)
 ·obtain⟨f0,f1,f2,f3,_⟩:=hex b hb;rcases Yi.mp (I.vI b z)with q|q
  ·exact f1 q
  ·exact f2 q
 ·have hi:∃j,lk[i]?=some (some j)/\σ[j]?=some (some v):=by
   have CV:(fm lk σ)[i]?=some (some v):=h2;unfold fm at CV;rw[Yu]at CV;cases e:lk[i]? with
   |none=>rw[e]at CV;cases CV
   |some l =>
    cases l with
    |none=>rw[e]at CV;cases CV
    |some j =>
     rw[e]at CV;cases e2:σ[j]? with
     |none=>simp[e2]at CV
     |some w' =>
      simp only[Option.map_some,e2,Option.some.injEq]at CV;subst CV;exact⟨j,rfl,e2⟩
  obtain⟨j,hj,hσ⟩:=hi;obtain⟨y,e1,e2,e3,e4⟩:=L.link i j hj;have WS:x=y:=by
   have zU:N'[i]?=some x:=h1;rw[e1]at zU;exact(YU zU).symm
  subst WS;have Rk:yI X.env.scope x:=by
   rcases L.free x e3 with q|q
   ·exact .inr (.inl q)
   ·exact .inr (.inr q)
  obtain⟨u,ru,lu⟩:=hl j x v e2 hσ Rk;refine⟨u,ru,.inr ⟨?_,?_⟩⟩
  ·exact dB e4
  ·rcases lu with⟨k,_⟩|⟨_,c,hc,z⟩
   ·rcases L.free x e3 with q|q <;> (rw[k]at q;cases q)
   ·obtain⟨c',oP⟩:=pz x e3;have:=kX x c' oP;rw[hc]at this;cases this;obtain⟨o,ho,hd⟩:=z;exact⟨c,oP,o,hk _ _ ho,hd⟩
 ·obtain⟨v,o,ho,hd⟩:=I.cell x c (kX _ _ e);exact⟨v,o,hk _ _ ho,hd⟩
 ·show (fm lk σ).length=N'.length;unfold fm;rw[Ye,L.len]
theorem CB {s':Yg}{σ':St}{H':Hp}{pl:List (Addr×Obj)}{C:Addr}{h'':Heap}(I:Inv X pins σ H s)(hex:∀b∈ex,gV X pins H b)
  (J:Inv (aO X scope N' cl s.heap.objs.size s H ex) pl σ' H' s') (hs:aaf s.heap.objs.size s'.heap h''):Inv X pins σ H' {s' with heap:=h''}:=by
 have hC:H' s.heap.objs.size=none:=J.free;have u:=J.base;refine I.OH (ch:=ex) (s':={s' with heap:=h''}) J.os ?_ ?_ J.bare (λb hb=>?_)
 ·have kk:∀b o,b≠s.heap.objs.size->s'.heap.get? b=some o->h''.get? b=some o:=λb o hb e=>(hs.2 b hb).trans e;have ne:∀b o,s.heap.get? b=some o->b≠s.heap.objs.size:=λb o e=>YZ (YC e);refine⟨λb o e n hb hx=>kk b _ (ne b o e) (u.keep b o e n hb hx),λb o e n hb hx=>?_,u.free,λb o e hx=>?_,u.q_,u.pA,u.rg⟩
  ·obtain⟨sl,q⟩:=u.slot b o e n hb hx;exact⟨sl,kk b _ (ne b o e) q⟩
  ·obtain⟨o',q⟩:=u.there b o e hx;exact⟨o',kk b _ (ne b o e) q⟩
 ·intro b o e;have hb:b≠s.heap.objs.size:=λz=>by rw[z]at e;rw[hC]at e;cases e
  refine(J.bV b o e).tx (λc v hc q=>(hs.2 c ?_).trans q) (λ_ q=>q) λ_ _ q=>q;rcases hc with z|z
  ·rw[z];exact hb
  ·intro z';rw[z']at z;rw[hC]at z;cases z
 ·obtain⟨f0,f1,f2,f3,f4,f5⟩:=hex b hb;exact⟨f3,f1,f4,f5⟩
end
def mI (g:aaR)(after:Sem Fin->Sem Fin)(e:Expr)(d:Nat)(it acc:Yc)(env:Env):Sem Fin:=do
 standAt g.iter.pos
 match <- abm it with
 |none=>pure (.done .next)
 |some v =>
  letOwnedTupleGo g.target it v
  assign g.target env v
  let mut ok:=true
  for c in g.ifs do
   if ok then ok <- isTrue c env (eval c env)
  if ok then after (again (.compLoop e d it acc env)) else again (.compLoop e d it acc env)
def r9 (e:Expr)(d:Nat)(g':aaR)(acc:Yc)(env:Env)(k:Sem Fin):Sem Fin:=do
 let x <- eval g'.iter env
 standAt g'.iter.pos
 let x <- Zo g'.iter env x
 let _ <- runOwn (.compStart e (d+1) (<- holding [x] (pyIter x)) acc env) env
 k
def xj (t:Sem Unit)(k:Sem Fin):Sem Fin:=do
 t
 k
def yq (elt:Expr)(acc:Yc)(env:Env):Sem Unit:=do let _ <- call (.builtin "list.append") [acc,<- eval elt env]
structure jY (e:Expr)(d:Nat)(g:aaR)(acc:Yc)(env:Env)(after:Sem Fin->Sem Fin):Prop where
 turn:∀it,compTurn e d it acc env=mI g after e d it acc env
 cl:(clausesOf e)[d]?=some g
 sync:g.is_async=0
 quiet:∀it,(abG e d it acc env).quiet=true
 under:∀(A:Zc) it,A.under (abG e d it acc env)=A
 HM:∀(A:Zc) it,A.under (Code.compStart e d it acc env)=A
 Jg:∀it,(abG e d it acc env).isFrame=false
 Me:∀it,(Code.compStart e d it acc env).isFrame=false
section
variable {elt tg AU eP si:Expr}{ifs pj:List Expr}{sc:aa7}{pos:Pos}{acc:Yc}{env:Env}
theorem Hl:jY (.ListComp elt [⟨tg,eP,ifs,0⟩] sc pos) 0 ⟨tg,eP,ifs,0⟩ acc env (xj (yq elt acc env)) :=
 ⟨λ_=>rfl,rfl,rfl,λ_=>rfl,λ_ _=>rfl,λ_ _=>rfl,λ_=>rfl,λ_=>rfl⟩
theorem Kz:jY (.ListComp elt [⟨tg,eP,ifs,0⟩,⟨AU,si,pj,0⟩] sc pos) 0 ⟨tg,eP,ifs,0⟩ acc env (r9 (.ListComp elt [⟨tg,eP,ifs,0⟩,⟨AU,si,pj,0⟩] sc pos) 0 ⟨AU,si,pj,0⟩ acc env) :=
 ⟨λ_=>rfl,rfl,rfl,λ_=>rfl,λ_ _=>rfl,λ_ _=>rfl,λ_=>rfl,λ_=>rfl⟩
theorem Ky:jY (.ListComp elt [⟨tg,eP,ifs,0⟩,⟨AU,si,pj,0⟩] sc pos) 1 ⟨AU,si,pj,0⟩ acc env (xj (yq elt acc env)) :=
 ⟨λ_=>rfl,rfl,rfl,λ_=>rfl,λ_ _=>rfl,λ_ _=>rfl,λ_=>rfl,λ_=>rfl⟩
end
def Lw:TT:=λ_ H Q=>Q true H
def vx (X:Cx)(ifs:List Expr)(t:TT):Prop :=
 ∀(pins:List (Addr×Obj)) (s:Yg) (σ:St) (H:Hp) (Q:Bool->Hp->Prop),Inv X pins σ H s->t σ H Q ->
  YM (model X.prog X.w) X.A (forIn ifs true λc r=>if r=true then do let ok <- isTrue c X.env (eval c X.env);pure (ForInStep.yield ok) else pure (ForInStep.yield r)) (TP X pins σ Q) X.xe s
theorem EB {X:Cx}:vx X [] Lw:=λ_ _ _ H _ I h=>wpAny_tests_nil ⟨H,I,h⟩
theorem EA {X:Cx}{c:Expr}{t:TT}(h:PT X c t):vx X [c] t:=λpins s σ H Q I q=>wpAny_tests_one (h pins s σ H Q I q)
abbrev pL:=(St->Hp->Prop)->St->Hp->Prop
def vm (X:Cx)(after:Sem Fin->Sem Fin)(t:pL):Prop :=
 ∀(pins:List (Addr×Obj)) (s:Yg) (σ:St) (H:Hp) (N:St->Hp->Prop) (k:Sem Fin) (Q:Fin->Yg->Prop) (E:Yc->Yg->Prop),Inv X pins σ H s->t N σ H ->
  (∀σ' H' s',Inv X pins σ' H' s'->N σ' H'->YM (model X.prog X.w) X.A k Q E s')->YM (model X.prog X.w) X.A (after k) Q E s
theorem h9 {X:Cx}(hx:X.xe=λ_ _=>False){α:Type}{t:Sem α}{Q:α->Yg->Prop}{E:Yc->Yg->Prop}{s:Yg}(h:YM (model X.prog X.w) X.A t Q X.xe s):YM (model X.prog X.w) X.A t Q E s :=
 abl h (λ_ _ q=>q) λe s q=>by rw[hx]at q;exact q.elim
def gF (J:It)(g:TG)(tt:TT)(ta:pL)(End:St->Hp->Prop):St->Hp->Prop:=λσ H =>
 ∃W:Nat->Nat->St->Hp->Prop,(∃m,W 0 m σ H)/\∀i m σ H,W i m σ H->(J.stop i H/\End σ H) \/
  (J.go i H/\∃N:St->Hp->Prop,(∀σ' H',N σ' H'->∃m',m'<m/\W (i+1) m' σ' H')/\∀x H',J.Lo i H x H'->g x σ H' λσ2 H2=>tt σ2 H2 λb H3=>if b=true then ta N σ2 H3 else N σ2 H3)
section
variable {X:Cx}{e:Expr}{d:Nat}{g:aaR}{acc:Yc}{after:Sem Fin->Sem Fin}{tg:TG}{tt:TT}{ta:pL}
theorem Ab (hx:X.xe=λ_ _=>False)(hc:X.calm=true)(F:jY e d g acc X.env after)(hg:PG X g.target tg)(ht:vx X g.ifs tt)(ha:vm X after ta)
  {it:Addr} {fp:List Addr} {tn:Nat->Heap->Prop} {J:It} (T:Turn X.prog X.w X.K g.target J fp it tn) {pins:List (Addr×Obj)} {σ:St} {H:Hp} {s:Yg} {End:St->Hp->Prop}
  (I:Inv X pins σ H s) (st:tn 0 s.heap) (hf:∀b∈fp,gV X pins H b) (h:gF J tg tt ta End σ H) :
  abx (model X.prog X.w) X.A (.compLoop e d (.ref it) acc X.env) (λr s'=>r=.ok .next/\∃σ' H',Inv X pins σ' H' s'/\End σ' H') s:=by
 obtain⟨W,⟨m0,w0⟩,turn⟩:=h;have vJ:∀{H':Hp},(∀b∈fp,H' b=none)->∀b∈fp,gV X pins H' b:=λhn b hb=>⟨hn b hb,(hf b hb).2⟩;refine codeAny_loop (F.quiet _) (λn s'=>∃i σ' H',Inv X pins σ' H' s'/\tn i s'.heap/\(∀b∈fp,H' b=none)/\W i n σ' H') (λn s3 hI=>?_) m0 ⟨0,σ,H,I,st,λb hb=>(hf b hb).1,w0⟩;obtain⟨i,σ3,H3,I3,mP,Og,w3⟩:=hI;rw[F.under];have Kh:(model X.prog X.w).den (.compLoop e d (.ref it) acc X.env)=(mI g after e d (.ref it) acc X.env).onRaise (λx=>do noteFrame x X.env;theTreesLotGoes x):=by
  rw[<- F.turn];show (if (abG e d (.ref it) acc X.env).isFrame then _ else _)=_
  rw[F.Jg];rfl
 rw[Kh];refine wpAny_noted ?_;unfold mI;rcases turn i n σ3 H3 w3 with⟨stop,qn⟩|⟨go,N,hN,step⟩
 ·refine Yd (aaM (Yd (bF (T.done X rfl rfl rfl hc i pins s3 σ3 H3 _ I3 (vJ Og) mP stop) λr s4 ⟨hr,I4⟩=>?_)));subst hr;exact Ym ⟨rfl,σ3,H3,I4,qn⟩
 ·refine Yd (aaM (Yd (bF (T.item X rfl rfl rfl hc i pins s3 σ3 H3 _ I3 (vJ Og) mP go) λr s4 ⟨u,hr,h4⟩=>?_)));subst hr;refine Yd (bF h4 λ_ s5 ⟨x,H5,I5,r5,y5,HZ,SG⟩=>?_);have Te:=I5.pinned (vJ SG) (T.obj _ _ HZ);refine Yd (bF (h9 hx (hg _ s5 σ3 H5 x u _ Te r5 (step x H5 y5))) λ_ s6 ⟨σ6,H6,I6,q6⟩=>?_);refine Yd (bF (h9 hx (ht _ s6 σ6 H6 _ I6 q6)) λok s7 ⟨H7,I7,q7⟩=>?_);have DD:∀{σ8:St} {H8:Hp} {s8:Yg},Inv X (pins++nc fp s5.heap) σ8 H8 s8->N σ8 H8->∃m,m<n/\∃i σ' H',Inv X pins σ' H' s8/\tn i s8.heap/\(∀b∈fp,H' b=none)/\W i m σ' H':=λ{σ8 H8 s8} I8 n8=>by
   obtain⟨m',hm,w8⟩:=hN σ8 H8 n8;refine⟨m',hm,i+1,σ8,H8,I8.jg,T.keep _ _ _ HZ λb hb o e=>(I8.pin (b,o) (Y4 _ (Y4 _ (fV hb e)))).1,λb hb=>?_,w8⟩;obtain⟨o,e,d⟩:=T.obj _ _ HZ b hb;exact(I8.pin (b,o) (Y4 _ (Y4 _ (fV hb e)))).2.1
  cases ok with
  |false=>exact Ym ⟨rfl,DD I7 (by simpa using q7)⟩
  |true =>
   exact ha _ s7 σ6 H7 N _ _ _ I7 (by simpa using q7) λσ8 H8 s8 I8 n8=>Ym ⟨rfl,DD I8 n8⟩
theorem oH (hx:X.xe=λ_ _=>False)(hc:X.calm=true)(F:jY e d g acc X.env after)(hg:PG X g.target tg)(ht:vx X g.ifs tt)(ha:vm X after ta)
  {it:Addr} {fp:List Addr} {tn:Nat->Heap->Prop} {J:It} (T:Turn X.prog X.w X.K g.target J fp it tn) {pins:List (Addr×Obj)} {σ:St} {H:Hp} {s:Yg} {End:St->Hp->Prop}
  (I:Inv X pins σ H s) (st:tn 0 s.heap) (hf:∀b∈fp,gV X pins H b) (h:gF J tg tt ta End σ H) :
  abx (model X.prog X.w) X.A (.compStart e d (.ref it) acc X.env) (λr s'=>r=.ok .next/\∃σ' H',Inv X pins σ' H' s'/\End σ' H') s:=by
 have lp:=Ab hx hc F hg ht ha T I st hf h;refine codeAny_of_tree ?_;rw[F.HM];have Kh:(model X.prog X.w).den (.compStart e d (.ref it) acc X.env)=(compStart e d (.ref it) acc X.env).onRaise (λx=>do noteFrame x X.env;standAt theWindowsPlace):=by
  show (if (Code.compStart e d (.ref it) acc X.env).isFrame then _ else _)=_
  rw[F.Me];rfl
 rw[Kh];refine wpAny_notedAt ?_;unfold compStart;rw[F.cl];simp only[Option.elim_some,F.sync];show YM _ _ (ask >>= _) _ _ s;refine Yd (abK (wpAny_ite ?_))
 split
 ·first
   |exact Yd (Ym (Ym (And.intro (F.quiet _) lp)))
   |exact Ym (And.intro (F.quiet _) lp)
 ·have h2:∀(E:Yc->Yg->Prop),YM (model X.prog X.w) X.A (pyIter (.ref it)) (λPn s'=>(abG e d Pn acc X.env).quiet=true/\abx (model X.prog X.w) X.A (.compLoop e d Pn acc X.env) (λr s'=>r=.ok .next/\∃σ' H',Inv X pins σ' H' s'/\End σ' H') s') E s :=
   λE=>T.self X.A 0 s _ E st ⟨F.quiet _,lp⟩
  first
   |exact Yd (aaV (Yd (aaM (Yd (abl (h2 _) (λPn s' h'=>Ym h') λ_ _ x=>x)))))
   | (refine Yd (aaV ?_);exact Yd (aaM (Yd (abl (h2 _) (λPn s' h'=>Ym h') λ_ _ x=>x))))
theorem EK {g':aaR}{wi:TI}(hx:X.xe=λ_ _=>False)(hc:X.calm=true)(F:jY e (d+1) g' acc X.env after)(hi:PI X g'.target g'.iter wi)(hg:PG X g'.target tg)(ht:vx X g'.ifs tt)(ha:vm X after ta)
  (hs:∀x,Zo g'.iter X.env x=pure x:=by intro _;rfl) :
  vm X (r9 e d g' acc X.env) (λN σ H=>wi σ H λJ H1=>gF J tg tt ta N σ H1):=by
 intro pins s σ H N k Q E I h hk;unfold r9;refine Yd (bF (h9 hx (hi pins s σ H _ I h)) λx s1 h1=>?_);refine Yd (aaM (Yd (wpAny_of_eq (hs x) ?_)));refine Yd (Z0 (bF (h9 hx h1) λG0 s2 h2=>?_));obtain⟨it,fp,tn,J,H2,e1,I2,T,gm,f2,hl⟩:=h2;subst e1;refine Yd (wpAny_runOwn (aa4 (oH hx hc F hg ht ha T I2 gm f2 hl) λr s' hr=>?_));obtain⟨rfl,σ',H',I',q⟩:=hr;exact hk σ' H' s' I' q
theorem nj {elt:Expr}{te:TE}{a:Addr}(hx:X.xe=λ_ _=>False)(he:PE X elt te):
  vm X (xj (yq elt (.ref a) X.env)) (λN σ H=>te σ H λv H1=>∃xs,H1 a=some (.lst xs)/\xs.length<Yy/\N σ (upd H1 a (.lst (xs++[v])))):=by
 intro pins s σ H N k Q E I h hk;unfold xj yq;refine Yd (Yd (bF (h9 hx (he pins s σ H _ I h)) λu s1 ⟨v,H1,I1,r1,xs,hH,hz,q⟩=>?_));refine Yd (bF (h9 hx <| kJ (X:=X) pins s1 σ H1 (.ref a) [v] (.ref a) [u] (λw' H'=>N σ H') I1 rfl (.cons r1 .nil) ⟨a,xs,v,rfl,rfl,hH,hz,q⟩) λ_ s2 ⟨_,H2,I2,_,q2⟩=>?_)
 exact Ym (hk σ H2 s2 I2 q2)
end
section
variable {X:Cx}{e:Expr}
structure sP (X:Cx)(fk:Sem Yc)(o:HO):Prop where
 ok:∀(pins:List (Addr×Obj)) (s:Yg) (σ:St) (H:Hp) (Q:Yc->Yg->Prop) (E:Yc->Yg->Prop),Inv X pins σ H s ->
  (∀a s',s.heap.objs.size<=a->H a=none->(∀b o,s.heap.get? b=some o->s'.heap.get? b=some o)->Inv X pins σ (upd H a o) s'->Q (.ref a) s')->YM (model X.prog X.w) X.A fk Q E s
theorem nB:sP X (newList []) (.lst []) :=
 ⟨λpins s σ H Q E I h=>aac (h _ _ (Yh _) I.fresh (λb o e=>Yv _ e) (I.Jr (its:=[]) (t':=s.toks) .nil (Yz _)))⟩
theorem Inv.sameBut {pins:List (Addr×Obj)}{σ:St}{H:Hp}{s:Yg}{C:Addr}{h':Heap}(I:Inv X pins σ H s)(f:gV X pins H C)(hs:aaf C s.heap h'):Inv X pins σ H {s with heap:=h'}:=by
 obtain⟨f0,f1,f2,f3,f4,f5⟩:=f;exact I.turned (t':=s.toks) (λb o hb e=>(hs.2 b hb).trans e) f0 f1 f3 f4 f5
end
end L2
namespace ST
open PySem PySem.SetTable
def it:Nat->Nat->Nat
 |0,x=>x
 |n+1,x=>5*it n x+1
theorem wq (a:Nat):∀(b x:Nat),it (a+b) x=it b (it a x)
 |0,x=>rfl
 |b+1,x=>by
  show 5*it (a+b) x+1=5*it b (it a x)+1;rw[wq a b x]
theorem Cz:∀j:Nat,∃a b:Nat,∀x,it (2 ^ j) x=(1+4*2 ^ j*a)*x+2 ^ j*(1+2*b)
 |0=>⟨1,0,λx=>by show 5*x+1=_;simp⟩
 |j+1=>by
  obtain⟨a,b,h⟩:=Cz j;refine⟨a+2*2 ^ j*a*a,b+2 ^ j*a*(1+2*b),λx=>?_⟩;rw[show 2 ^ (j+1)=2 ^ j+2 ^ j by rw[Nat.pow_succ];lia,wq,h,h]
  generalize 2 ^ j=P
  grind
theorem lift:∀(j x t:Nat),∃k,k<2 ^ j/\it k x % 2 ^ j=t % 2 ^ j
 |0,x,t=>⟨0,by decide,by rw[Nat.pow_zero,Nat.mod_one,Nat.mod_one]⟩
 |j+1,x,t=>by
  obtain⟨k,hk,e⟩:=lift j x t;obtain⟨a,b,h⟩:=Cz j;have hP:0<2 ^ j:=Nat.pow_pos (by decide)
  rw[Nat.pow_succ]
  by_cases q:it k x % (2 ^ j*2)=t % (2 ^ j*2)
  ·exact⟨k,by lia,q⟩
  ·refine⟨k+2 ^ j,by lia,?_⟩
   rw[wq,h];generalize it k x=y at *
   generalize 2 ^ j=P at *
   have e1:((1+4*P*a)*y+P*(1+2*b))=(y+P)+(P*2)*(2*a*y+b):=by grind
   rw[e1,Nat.add_mul_mod_self_left,Nat.mod_mul,Nat.mod_mul];rw[Nat.mod_mul,Nat.mod_mul,e]at q;rw[Nat.add_mod_right,Nat.add_div_right _ hP,e];have u1:y / P % 2<2:=abn _ (by decide)
   have u2:t / P % 2<2:=abn _ (by decide)
   have u3:y / P % 2≠t / P % 2:=λz=>q (by rw[z])
   have u4:(y / P).succ % 2=t / P % 2:=by lia
   rw[u4]
def dq (m:Nat)(p:Probe):Probe:=advance {mask:=m,place:=#[],dummies:=#[],finger:=0,led:=true,moves:=0,plain:=true} p
def Vc (m:Nat)(h:Int):Probe:=probeStart {mask:=m,place:=#[],dummies:=#[],finger:=0,led:=true,moves:=0,plain:=true} h
def ie (m:Nat)(h:Int):Nat->Probe
 |0=>Vc m h
 |n+1=>dq m (ie m h n)
def cG (m:Nat)(h:Int)(n:Nat):Nat:=(ie m h n).j
def lp (m:Nat)(h:Int):Nat->Nat×Nat
 |0=>(bits h % (m+1),bits h)
 |k+1=>leap m (lp m h k).1 (lp m h k).2
def Lk (m:Nat)(x:Nat×Nat):Probe:={j:=x.1,more:=runEnd m x.1-x.1,i:=x.1,perturb:=x.2,dummy:=none}
theorem Im (m i:Nat):runEnd m i-i<=9:=by
 unfold runEnd
 split <;> lia
theorem wx (m:Nat)(h:Int)(x:Nat×Nat)(n:Nat)(e:ie m h n=Lk m x):∀d,d<=runEnd m x.1-x.1->ie m h (n+d)={Lk m x with j:=x.1+d,more:=runEnd m x.1-x.1-d}
 |0,_=>by rw[Nat.add_zero,e];rfl
 |d+1,hd=>by
  show dq m (ie m h (n+d))=_;rw[wx m h x n e d (by lia)]
  unfold dq advance;rw[if_pos (by show runEnd m x.1-x.1-d>0;lia)]
  rfl
theorem vb (m:Nat)(h:Int)(x:Nat×Nat)(n:Nat)(e:ie m h n=Lk m x):ie m h (n+(runEnd m x.1-x.1)+1)=Lk m (leap m x.1 x.2):=by
 show dq m (ie m h (n+(runEnd m x.1-x.1)))=_;rw[wx m h x n e _ (Yh _)];unfold dq advance;rw[if_neg (by show ¬ runEnd m x.1-x.1-(runEnd m x.1-x.1)>0;lia)]
 rfl
theorem DB (m:Nat)(h:Int):∀k,∃n,n<=10*k/\ie m h n=Lk m (lp m h k)
 |0=>⟨0,Yh _,rfl⟩
 |k+1=>by
  obtain⟨n,h1,h2⟩:=DB m h k;refine⟨n+(runEnd m (lp m h k).1-(lp m h k).1)+1,?_,vb m h _ n h2⟩;have:=Im m (lp m h k).1;lia
theorem Cc (m:Nat)(h:Int):∀k,(lp m h k).2=bits h / 32 ^ k
 |0=>by rw[Nat.pow_zero,Nat.div_one];rfl
 |k+1=>by
  show (lp m h k).2 / 32=_;rw[Cc m h k,Nat.div_div_eq_div_mul,Nat.pow_succ]
theorem Gj (h:Int):bits h<2 ^ 64:=by
 unfold bits;have h1:=Int.emod_lt_of_pos h (show (0:Int)<2 ^ 64 by decide)
 have h2:=Int.emod_nonneg h (show (2 ^ 64:Int)≠0 by decide)
 lia
theorem Fg (m:Nat)(h:Int){k:Nat}(hk:13<=k):(lp m h k).2=0:=by
 rw[Cc];refine Nat.div_eq_of_lt (Y2 (Gj h) ?_);have:32 ^ 13<=32 ^ k:=abf (by decide) hk
 exact YI (by decide) this
theorem GU {j:Nat}(h:Int):∀d,(lp (2 ^ j-1) h (13+d)).1=it d (lp (2 ^ j-1) h 13).1 % 2 ^ j:=by
 have hP:2 ^ j-1+1=2 ^ j:=by have:0<2 ^ j:=Nat.pow_pos (by decide);lia
 have lt:∀k,(lp (2 ^ j-1) h k).1<2 ^ j:=λk=>by
  cases k with
  |zero=>show bits h % (2 ^ j-1+1)<_;rw[hP];exact abn _ (by lia)
  |succ k=>show (_*5+1+_ / 32) % (2 ^ j-1+1)<_;rw[hP];exact abn _ (by lia)
 intro d
 induction d with
 |zero=>exact(Nat.mod_eq_of_lt (lt 13)).symm
 |succ d ih =>
  show ((lp (2 ^ j-1) h (13+d)).1*5+1+(lp (2 ^ j-1) h (13+d)).2 / 32) % (2 ^ j-1+1)=(5*it d _+1) % 2 ^ j;rw[hP,Fg _ h (by lia),ih,Nat.zero_div,Nat.add_zero,Nat.mul_comm]
  conv=>rhs;rw[Nat.add_mod,Nat.mul_mod]
  rw[Nat.add_mod,Nat.mul_mod,Nat.mod_mod]
theorem W7 (j:Nat)(h:Int){t:Nat}(ht:t<2 ^ j):∃n,n<10*turns (2 ^ j-1)/\cG (2 ^ j-1) h n=t:=by
 obtain⟨k,hk,e⟩:=lift j (lp (2 ^ j-1) h 13).1 t;obtain⟨n,h1,h2⟩:=DB (2 ^ j-1) h (13+k);refine⟨n,by unfold turns;lia,?_⟩
 unfold cG;rw[h2];show (lp (2 ^ j-1) h (13+k)).1=t;rw[GU,e,Nat.mod_eq_of_lt ht]
abbrev g (xs:Array Nat)(i:Nat):Nat:=xs.getD i 0
theorem wD {xs:Array Nat}{i:Nat}(h:i<xs.size):xs[i]?=some (g xs i):=by
 rw[getElem?_pos xs i h,g,YE,getElem?_pos xs i h];rfl
def Hq (xs:Array Nat):Prop:=∀i j,i<j->j<xs.size->g xs i<g xs j
theorem Hq.inj {xs:Array Nat}(r:Hq xs){i j:Nat}(hi:i<xs.size)(hj:j<xs.size)(e:g xs i=g xs j):i=j:=by
 rcases Nat.lt_trichotomy i j with h|h|h
 ·have:=r i j h hj;lia
 ·exact h
 ·have:=r j i h hi;lia
theorem oK {xs:Array Nat}{j:Nat}(r:Hq xs):∀(f lo hi:Nat),hi<=xs.size->lo<=hi->hi-lo<=f->(∀k,k<lo->g xs k<j)->(∀k,hi<=k->k<xs.size->j<=g xs k) ->
  below.go xs j f lo hi<=xs.size/\(∀k,k<below.go xs j f lo hi->g xs k<j)/\(∀k,below.go xs j f lo hi<=k->k<xs.size->j<=g xs k)
 |0,lo,hi,h1,h2,h3,h4,h5=>by
  obtain rfl:lo=hi:=by omega
  exact⟨h1,h4,h5⟩
 |f+1,lo,hi,h1,h2,h3,h4,h5=>by
  unfold below.go
  by_cases hl:lo<hi
  ·rw[if_pos hl];dsimp only;have hm:(lo+hi) / 2<xs.size:=by omega
   have e:xs.getD ((lo+hi) / 2) j=g xs ((lo+hi) / 2):=by
    rw[g,YE,YE,getElem?_pos xs _ hm];rfl
   rw[e]
   by_cases hc:g xs ((lo+hi) / 2)<j
   ·rw[if_pos hc];refine oK r f _ _ h1 (by omega) (by omega) (λk hk=>?_) h5
    by_cases R9:k=(lo+hi) / 2
    ·rw[R9];exact hc
    ·have:=r k ((lo+hi) / 2) (by omega) hm;omega
   ·rw[if_neg hc];refine oK r f _ _ (by omega) (by omega) (by omega) h4 (λk hk N5=>?_)
    by_cases R9:k=(lo+hi) / 2
    ·rw[R9];omega
    ·have:=r ((lo+hi) / 2) k (by omega) N5;omega
  ·rw[if_neg hl];obtain rfl:lo=hi:=by omega
   exact⟨h1,h4,h5⟩
theorem gg {xs:Array Nat}(r:Hq xs)(j:Nat):below xs j<=xs.size/\(∀k,k<below xs j->g xs k<j)/\(∀k,below xs j<=k->k<xs.size->j<=g xs k) :=
 oK r xs.size 0 xs.size (Yh _) (Yz _) (Yh _) (λk hk=>by lia) (λk h1 h2=>by lia)
theorem below_at {xs:Array Nat}(r:Hq xs){i:Nat}(hi:i<xs.size):below xs (g xs i)=i:=by
 obtain⟨h1,h2,h3⟩:=gg r (g xs i);rcases Nat.lt_trichotomy (below xs (g xs i)) i with h|h|h
 ·have:=h3 (below xs (g xs i)) (Yh _) (by omega)
  have:=r _ _ h hi;omega
 ·exact h
 ·have:=h2 i h;omega
def vn (t:SetTable)(x:Nat):Prop:=∃i,i<t.place.size/\g t.place i=x
theorem yX {t:SetTable}(r:Hq t.place){i:Nat}(hi:i<t.place.size):t.slot (g t.place i)=.live i:=by
 unfold slot;dsimp only;rw[below_at r hi,if_pos (by rw[wD hi];exact beq_self_eq_true _)]
theorem yY {t:SetTable}(r:Hq t.place)(d:t.dummies=#[]){x:Nat}(h:¬ vn t x):t.slot x=.empty:=by
 unfold slot;dsimp only;rw[if_neg ?_,if_neg ?_]
 ·rw[d];unfold has;simp
 ·intro q;have q:=eq_of_beq q;have hl:below t.place x<t.place.size:=by
   rcases ZK (below t.place x) t.place.size with z|z
   ·exact z
   ·rw[Zu z]at q;cases q
  rw[wD hl]at q;exact h ⟨_,hl,YU q⟩
structure WF (t:SetTable)(hs:List Int):Prop where
 Lc:t.dummies=#[]
 sz:t.place.size=hs.length
 Bf:Hq t.place
 UI:∀i,i<t.place.size->g t.place i<=t.mask
 Jl:∃j,3<=j/\t.mask=2 ^ j-1
 room:t.place.size<=t.mask
 Vl:∀i h,hs[i]?=some h->∃n,cG t.mask h n=g t.place i/\∀k,k<n->vn t (cG t.mask h k)
theorem least {p:Nat->Prop}[DecidablePred p]:∀n,p n->∃m,m<=n/\p m/\∀k,k<m->¬ p k:=by
 intro n
 induction n using Nat.strongRecOn with
 |_ n ih =>
  intro hn
  by_cases h:∃k,k<n/\p k
  ·obtain⟨k,hk,hp⟩:=h;obtain⟨m,h1,h2,h3⟩:=ih k hk hp;exact⟨m,by lia,h2,h3⟩
  ·exact⟨n,Yh _,hn,λk hk hp=>h ⟨k,hk,hp⟩⟩
instance (t:SetTable):DecidablePred (vn t):=λx=>decidable_of_iff (∃i,i<t.place.size/\g t.place i=x) Iff.rfl
theorem WF.hole {t:SetTable}{hs:List Int}(w:WF t hs):∃x,x<=t.mask/\¬ vn t x:=by
 refine aaJ λpq=>?_;have all:∀x,x<=t.mask->vn t x:=λx hx=>aaJ λq=>pq ⟨x,hx,q⟩;have up:∀x,x<=t.mask->∃i,i<t.place.size/\g t.place i=x/\x<=i:=by
  intro x
  induction x with
  |zero =>
   intro hx;obtain⟨i,h1,h2⟩:=all 0 hx;exact⟨i,h1,h2,Yz _⟩
  |succ x ih =>
   intro hx;obtain⟨i,h1,h2,h3⟩:=ih (by lia)
   obtain⟨i',h4,h5⟩:=all (x+1) hx;refine⟨i',h4,h5,?_⟩;rcases ZK i i' with q|q
   ·lia
   ·rcases ZK i' i with q2|q2
    ·have:=w.Bf i' i q2 h1;lia
    ·obtain rfl:i=i':=by lia
     lia
 obtain⟨i,h1,h2,h3⟩:=up t.mask (Yh _);have:=w.room;lia
theorem WF.first {t:SetTable}{hs:List Int}(w:WF t hs)(h:Int):∃n,n<10*turns t.mask/\¬ vn t (cG t.mask h n)/\∀k,k<n->vn t (cG t.mask h k):=by
 obtain⟨x,hx,hf⟩:=w.hole;obtain⟨j,_,hj⟩:=w.Jl;have CF:x<2 ^ j:=by have:0<2 ^ j:=Nat.pow_pos (by decide);lia
 obtain⟨n,h1,h2⟩:=W7 j h CF;rw[<- hj]at h1 h2;obtain⟨m,g1,g2,g3⟩:=least (p:=λn=>¬ vn t (cG t.mask h n)) n (by rw[h2];exact hf)
 exact⟨m,by lia,g2,λk hk=>aaJ λq=>g3 k hk q⟩
theorem kA (m:Nat)(h:Int):∀n,(ie m h n).dummy=none
 |0=>rfl
 |n+1=>by
  show (dq m (ie m h n)).dummy=none;unfold dq advance
  split
  ·exact kA m h n
  ·exact kA m h n
theorem tT {t:SetTable}{hs:List Int}(w:WF t hs)(ha:Nat->Int)(h:Int){N:Nat}(hN:¬ vn t (cG t.mask h N))(hO:∀k,k<N->vn t (cG t.mask h k)):∀(d n f:Nat),n+d=N->d<f ->
  (probe.go t ha h f (ie t.mask h n)=some (.empty (cG t.mask h N) none)/\∀k,n<=k->k<N->∀i,i<t.place.size->g t.place i=cG t.mask h k->ha i≠h) \/
  ∃m i,n<=m/\m<N/\i<t.place.size/\g t.place i=cG t.mask h m/\ha i=h/\probe.go t ha h f (ie t.mask h n)=some (.candidate (cG t.mask h m) i (ie t.mask h (m+1)))/\∀k,n<=k->k<m->∀i,i<t.place.size->g t.place i=cG t.mask h k->ha i≠h
 |0,n,f,e,hf=>by
  obtain rfl:n=N:=by lia
  obtain⟨f,rfl⟩:∃f',f=f'+1:=⟨f-1,by lia⟩
  refine .inl ⟨?_,λk h1 h2=>by lia⟩
  unfold probe.go;rw[show t.slot (ie t.mask h n).j=.empty from yY w.Bf w.Lc hN]
  dsimp only;rw[kA];rfl
 |d+1,n,f,e,hf=>by
  obtain⟨f,rfl⟩:∃f',f=f'+1:=⟨f-1,by lia⟩
  obtain⟨i,hi,hg⟩:=hO n (by lia)
  have G1:t.slot (ie t.mask h n).j=.live i:=by
   show t.slot (cG t.mask h n)=.live i;rw[<- hg];exact yX w.Bf hi
  by_cases hh:ha i=h
  ·refine .inr ⟨n,i,Yh _,by lia,hi,hg,hh,?_,λk h1 h2=>by lia⟩
   unfold probe.go;rw[G1];dsimp only;rw[if_pos (by rw[hh];exact beq_self_eq_true _)]
   rfl
  ·have st:probe.go t ha h (f+1) (ie t.mask h n)=probe.go t ha h f (ie t.mask h (n+1)):=by
    conv=>lhs;unfold probe.go
    rw[G1];dsimp only;rw[if_neg (by simpa using hh)]
    rfl
   rw[st];have here:∀i',i'<t.place.size->g t.place i'=cG t.mask h n->ha i'≠h:=λi' h1 h2=>by
    rw[w.Bf.inj h1 hi (h2.trans hg.symm)];exact hh
   rcases tT w ha h hN hO d (n+1) f (by lia) (by lia)with⟨q1,q2⟩|⟨m,i',q1,q2,q3,q4,q5,q6,q7⟩
   ·refine .inl ⟨q1,λk h1 h2=>?_⟩
    by_cases hk:k=n
    ·subst hk;exact here
    ·exact q2 k (by lia) h2
   ·refine .inr ⟨m,i',by lia,q2,q3,q4,q5,q6,λk h1 h2=>?_⟩
    by_cases hk:k=n
    ·subst hk;exact here
    ·exact q7 k (by lia) h2
theorem nX {α:Type}(xs:Array α)(p:Nat)(x:α):(insertAt xs p x).toList=xs.toList.take p++x::xs.toList.drop p:=by
 unfold insertAt;rw[ZP,Z4,Array.toList_extract,Array.toList_extract,abt,abt,Zj];simp[ZS]
theorem CC {α:Type}{xs:Array α}{p:Nat}{x:α}(h:p<=xs.size):(insertAt xs p x).size=xs.size+1:=by
 rw[<- Yp,nX,YR,Yw,YQ,aaH,Yp];lia
theorem f7 {xs:Array Nat}{p x:Nat}(h:p<=xs.size)(k:Nat):g (insertAt xs p x) k=if k<p then g xs k else if k=p then x else g xs (k-1):=by
 have e:∀(ys:Array Nat) (k:Nat),g ys k=(ys.toList[k]?).getD 0:=λys k=>by rw[g,YE,YD]
 rw[e,e,e,nX]
 by_cases h1:k<p
 ·rw[if_pos h1,ZO (by rw[YQ,Yp];lia),aaQ h1]
 ·rw[if_neg h1,Zd (by rw[YQ];lia),YQ,Yp,show min p xs.size=p by lia]
  by_cases h2:k=p
  ·rw[if_pos h2,h2,aaG];rfl
  ·rw[if_neg h2,show k-p=k-p-1+1 by lia,aa0,abq,show p+(k-p-1)=k-1 by lia]
theorem WF.put {t:SetTable}{hs:List Int}(w:WF t hs){h:Int}{N:Nat}(hb:cG t.mask h N<=t.mask)(hN:¬ vn t (cG t.mask h N))(hO:∀k,k<N->vn t (cG t.mask h k))(hr:t.place.size+1<=t.mask):
  WF (t.put (cG t.mask h N)).1 (hs.take (t.put (cG t.mask h N)).2++h::hs.drop (t.put (cG t.mask h N)).2)/\(t.put (cG t.mask h N)).2<=t.place.size:=by
 obtain⟨b1,b2,b3⟩:=gg w.Bf (cG t.mask h N);have hp:(t.put (cG t.mask h N)).2=below t.place (cG t.mask h N):=rfl;rw[hp];generalize hx:cG t.mask h N=x at *
 generalize hq:below t.place x=p at *
 have e:(t.put x).1={t with place:=insertAt t.place p x}:=by
  unfold SetTable.put;dsimp only;rw[w.Lc,hq];unfold has;simp
 have ne:∀k,p<=k->k<t.place.size->x<g t.place k:=λk h1 h2=>by
  have:=b3 k h1 h2;rcases ZK x (g t.place k)with q|q
  ·exact q
  ·exact absurd ⟨k,h2,by lia⟩ hN
 have Qq:(insertAt t.place p x).size=t.place.size+1:=CC b1;have TR:∀y,vn t y->vn {t with place:=insertAt t.place p x} y:=by
  rintro y ⟨i,h1,h2⟩
  by_cases hi:i<p
  ·exact⟨i,by show i<(insertAt t.place p x).size;lia,by show g (insertAt t.place p x) i=y;rw[f7 b1,if_pos hi];exact h2⟩
  ·exact⟨i+1,by show i+1<(insertAt t.place p x).size;lia,by show g (insertAt t.place p x) (i+1)=y;rw[f7 b1,if_neg (by lia),if_neg (by lia)];exact h2⟩
 rw[e];refine⟨⟨w.Lc,?_,?_,?_,w.Jl,?_,?_⟩,b1⟩
 ·show (insertAt t.place p x).size=_;rw[Qq,YR,Yw,YQ,aaH,<- w.sz];lia
 ·intro i j aX hj;have hj:j<t.place.size+1:=by rw[<- Qq];exact hj
  show g (insertAt t.place p x) i<g (insertAt t.place p x) j;rw[f7 b1,f7 b1]
  by_cases h1:i<p
  ·rw[if_pos h1]
   by_cases h2:j<p
   ·rw[if_pos h2];exact w.Bf i j aX (by lia)
   ·rw[if_neg h2]
    by_cases h3:j=p
    ·rw[if_pos h3];exact b2 i h1
    ·rw[if_neg h3];exact w.Bf i (j-1) (by lia) (by lia)
  ·rw[if_neg h1,if_neg (show ¬ j<p by lia)]
   by_cases h3:i=p
   ·rw[if_pos h3,if_neg (show ¬ j=p by lia)];exact ne _ (by lia) (by lia)
   ·rw[if_neg h3,if_neg (show ¬ j=p by lia)];exact w.Bf (i-1) (j-1) (by lia) (by lia)
 ·intro i hi;have hi:i<t.place.size+1:=by rw[<- Qq];exact hi
  show g (insertAt t.place p x) i<=t.mask;rw[f7 b1]
  split
  ·exact w.UI i (by lia)
  ·split
   ·exact hb
   ·exact w.UI _ (by lia)
 ·show (insertAt t.place p x).size<=t.mask;lia
 ·intro i h' gx;show ∃n,cG t.mask h' n=g (insertAt t.place p x) i/\_;have old:∀i h',hs[i]?=some h'->∃n,cG t.mask h' n=g t.place i/\∀k,k<n->vn {t with place:=insertAt t.place p x} (cG t.mask h' k):=λi h' q=>by
   obtain⟨n,h1,h2⟩:=w.Vl i h' q;exact⟨n,h1,λk hk=>TR _ (h2 k hk)⟩
  have hpl:p<=hs.length:=by rw[<- w.sz];exact b1
  by_cases h1:i<p
  ·rw[ZO (by rw[YQ];lia),aaQ h1]at gx
   rw[f7 b1,if_pos h1];exact old i h' gx
  ·rw[Zd (by rw[YQ];lia),YQ,show min p hs.length=p by lia]at gx
   rw[f7 b1,if_neg h1]
   by_cases h2:i=p
   ·rw[h2,aaG]at gx;rw[if_pos h2];obtain rfl:h=h':=YU gx;exact⟨N,hx,λk hk=>TR _ (hO k hk)⟩
   ·rw[show i-p=i-p-1+1 by lia,aa0,abq,show p+(i-p-1)=i-1 by lia]at gx
    rw[if_neg h2];exact old (i-1) h' gx
theorem g_ {m i:Nat}(h:i<=m):i<=runEnd m i/\runEnd m i<=m:=by
 unfold runEnd
 split <;> lia
theorem Bq (m:Nat)(h:Int):∀n,(ie m h n).j+(ie m h n).more<=m
 |0=>by
  show bits h % (m+1)+(runEnd m (bits h % (m+1))-bits h % (m+1))<=m;have hl:bits h % (m+1)<=m:=Nat.le_of_lt_succ (abn _ (Nat.succ_pos _));have:=g_ hl;lia
 |n+1=>by
  have ih:=Bq m h n;show (dq m (ie m h n)).j+(dq m (ie m h n)).more<=m;unfold dq advance
  split
  ·show (ie m h n).j+1+((ie m h n).more-1)<=m;lia
  ·show (leap m (ie m h n).i (ie m h n).perturb).1+(runEnd m (leap m (ie m h n).i (ie m h n).perturb).1-(leap m (ie m h n).i (ie m h n).perturb).1)<=m;have hl:(leap m (ie m h n).i (ie m h n).perturb).1<=m:=Nat.le_of_lt_succ (abn _ (Nat.succ_pos _));have:=g_ hl;lia
theorem lV (m:Nat)(h:Int)(n:Nat):cG m h n<=m:=by
 have:=Bq m h n;unfold cG;lia
abbrev Ow:=Array (Option Nat)
def gn (o:Ow)(j:Nat):Bool:=(o.getD j (some 0)).isNone
theorem qr {m:Nat}{o:Ow}(h:Int):∀(f b n:Nat) (j:Nat),ie m h n=Lk m (lp m h b)->layClean.free m o f (lp m h b).1 (lp m h b).2=some j->∃N,n<=N/\cG m h N=j/\gn o j=true/\∀k,n<=k->k<N->gn o (cG m h k)=false
 |0,b,n,j,_,e=>by cases e
 |f+1,b,n,j,hb,e=>by
  unfold layClean.free at e;have Q9:∀d,d<=runEnd m (lp m h b).1-(lp m h b).1->cG m h (n+d)=(lp m h b).1+d:=λd hd=>by
   unfold cG;rw[wx m h _ n hb d hd]
  have hl:(lp m h b).1<=m:=by
   have:=lV m h n;unfold cG at this;rw[hb]at this;exact this
  have hr:=g_ hl;cases hf:(YF (runEnd m (lp m h b).1+1-(lp m h b).1)).find? (λk=>(o.getD ((lp m h b).1+k) (some 0)).isNone)with
  |some k =>
   rw[hf]at e;dsimp only at e;obtain⟨h1,h2,h3⟩:=List.find?_range_eq_some.mp hf;have h2:=Zh.mp h2;refine⟨n+k,by lia,?_,?_,λx g1 g2=>?_⟩
   ·rw[Q9 k (by lia)]
    exact YU e
   ·rw[<- YU e];exact h1
   ·have:=h3 (x-n) (by lia)
    rw[show x=n+(x-n) by lia,Q9 (x-n) (by lia)]
    unfold gn;simpa using this
  |none =>
   rw[hf]at e;dsimp only at e;have h3:=List.find?_range_eq_none.mp hf;obtain⟨N,q1,q2,q3,q4⟩:=qr h f (b+1) (n+(runEnd m (lp m h b).1-(lp m h b).1)+1) j (vb m h _ n hb) e;refine⟨N,by lia,q2,q3,λx g1 g2=>?_⟩
   by_cases hx:n+(runEnd m (lp m h b).1-(lp m h b).1)+1<=x
   ·exact q4 x hx g2
   ·have:=h3 (x-n) (by lia)
    rw[show x=n+(x-n) by lia,Q9 (x-n) (by lia)]
    unfold gn;simpa using this
theorem qt {m:Nat}{o:Ow}(h:Int):∀(f b:Nat),layClean.free m o f (lp m h b).1 (lp m h b).2=none->∀d,d<f->(lp m h (b+d)).1<=m->gn o (lp m h (b+d)).1=false
 |0,b,_,d,hd,_=>by lia
 |f+1,b,e,d,hd,hl=>by
  unfold layClean.free at e;cases hf:(YF (runEnd m (lp m h b).1+1-(lp m h b).1)).find? (λk=>(o.getD ((lp m h b).1+k) (some 0)).isNone)with
  |some k =>
   rw[hf]at e;cases e
  |none =>
   rw[hf]at e;dsimp only at e;cases d with
   |zero =>
    have:=List.find?_range_eq_none.mp hf 0 (by have:=g_ hl;rw[Nat.add_zero]at this;lia)
    unfold gn;simpa using this
   |succ d =>
    have:=qt h f (b+1) e d (by lia) (by rw[show b+1+d=b+(d+1) by lia];exact hl)
    rw[show b+1+d=b+(d+1) by lia]at this
    exact this
theorem Jp (j:Nat)(h:Int){t:Nat}(ht:t<2 ^ j):∃k,k<turns (2 ^ j-1)/\(lp (2 ^ j-1) h k).1=t:=by
 obtain⟨k,hk,e⟩:=lift j (lp (2 ^ j-1) h 13).1 t;refine⟨13+k,by unfold turns;lia,?_⟩
 rw[GU,e,Nat.mod_eq_of_lt ht]
def ow (o:Ow)(j:Nat):Option Nat:=o.getD j none
theorem eF {α:Type}{f f':Nat->Option α}:∀(l:List Nat),(∀k∈l,f' k=f k)->l.filterMap f'=l.filterMap f
 |[],_=>rfl
 |x::l,h=>by
  rw[Zn,Zn,h x Yo,eF l λk hk=>h k (Yn _ hk)]
theorem uK {α:Type}{f f':Nat->Option α}(l:List Nat)(h:∀k∈l,f' k=f k):l.filterMap f'=l.filterMap f:=eF l h
theorem uI {α:Type}(f f':Nat->Option α)(j:Nat)(v:α)(h1:f j=none)(h2:f' j=some v)(h3:∀k,k≠j->f' k=f k):∀N,j<N->((YF N).filterMap f').Perm (v::(YF N).filterMap f)
 |0,h=>by lia
 |N+1,h=>by
  rw[aaT,List.filterMap_append,List.filterMap_append]
  by_cases e:j=N
  ·subst e;have e1:(YF j).filterMap f'=(YF j).filterMap f:=by
    exact eF _ λk hk=>h3 k (YZ (Zh.mp hk))
   rw[e1,Zn,h2,Zn,h1,List.filterMap_nil,List.filterMap_nil];show ((YF j).filterMap f++[v]).Perm (v::((YF j).filterMap f++[]));rw[ZW];exact List.perm_append_comm
  ·have ih:=uI f f' j v h1 h2 h3 N (by lia)
   have e2:[N].filterMap f'=[N].filterMap f:=eF _ λk hk=>by
    rw[Ys.mp hk];exact h3 N (λz=>e z.symm)
   rw[e2];exact ih.append_right _
theorem uL {α:Type}(f:Nat->Option α):∀N,(∀k,k<N->(f k).isSome=true)->((YF N).filterMap f).length=N
 |0,_=>rfl
 |N+1,h=>by
  rw[aaT,List.filterMap_append,YR,uL f N λk hk=>h k (by lia)]
  have:=h N (by lia)
  cases e:f N with
  |none=>rw[e]at this;cases this
  |some x=>rw[Zn,e];rfl
structure Ld (m:Nat)(hs:Array Int)(o:Ow)(k:Nat):Prop where
 sz:o.size=m+1
 QO:((YF (m+1)).filterMap (ow o)).Perm (YF k)
 way:∀j a,ow o j=some a->a<k/\∃n,cG m (hs.getD a 0) n=j/\∀x,x<n->gn o (cG m (hs.getD a 0) x)=false
theorem nk {o:Ow}{j:Nat}(h:j<o.size):gn o j=true↔ow o j=none:=by
 unfold gn ow;rw[YE,YE,getElem?_pos o j h];show (o[j]).isNone=true↔o[j]=none;exact Option.isNone_iff_eq_none
theorem Ld.next {j0:Nat}{hs:Array Int}{o:Ow}{k:Nat}(L:Ld (2 ^ j0-1) hs o k)(hk:k<=2 ^ j0-1)(h:Int)(hh:hs.getD k 0=h):
  ∃j,layClean.free (2 ^ j0-1) o (turns (2 ^ j0-1)) (bits h % (2 ^ j0-1+1)) (bits h)=some j/\Ld (2 ^ j0-1) hs (o.setIfInBounds j (some k)) (k+1):=by
 have hP:0<2 ^ j0:=Nat.pow_pos (by decide)
 generalize hm:2 ^ j0-1=m at *
 obtain⟨x,hx,V_⟩:∃x,x<=m/\ow o x=none:=by
  refine aaJ λpq=>?_;have:=uL (ow o) (m+1) λx hx=>by
   cases e:ow o x with
   |none=>exact absurd ⟨x,by lia,e⟩ pq
   |some _=>rfl
  rw[L.QO.length_eq,Zr]at this;lia
 cases hf:layClean.free m o (turns m) (bits h % (m+1)) (bits h)with
 |none =>
  exfalso
  obtain⟨c,hc,he⟩:=Jp j0 h (t:=x) (by lia)
  rw[hm]at hc he;have:=qt (m:=m) (o:=o) h (turns m) 0 hf c hc (by rw[ZC,he];exact hx)
  rw[ZC,he]at this;have q:=(nk (o:=o) (j:=x) (by rw[L.sz];lia)).mpr V_
  rw[q]at this;cases this
 |some j =>
  refine⟨j,rfl,?_⟩;obtain⟨N,_,q2,q3,q4⟩:=qr (m:=m) (o:=o) h (turns m) 0 0 j rfl hf;have hj:j<=m:=by rw[<- q2];exact lV m h N
  have R_:j<o.size:=by rw[L.sz];lia
  have NY:ow o j=none:=(nk R_).mp q3;have same:∀i,i≠j->ow (o.setIfInBounds j (some k)) i=ow o i:=λi hi=>by
   unfold ow;rw[YE,YE,Array.getElem?_setIfInBounds_ne (λz=>hi z.symm)]
  have here:ow (o.setIfInBounds j (some k)) j=some k:=by
   unfold ow;rw[YE,Array.getElem?_setIfInBounds_self_of_lt R_];rfl
  have shut:∀i,gn o i=false->gn (o.setIfInBounds j (some k)) i=false:=λi hi=>by
   unfold gn at *
   rw[YE]at *
   by_cases e:i=j
   ·subst e;rw[Array.getElem?_setIfInBounds_self_of_lt R_];rfl
   ·rw[Array.getElem?_setIfInBounds_ne (λz=>e z.symm)];exact hi
  refine⟨by rw[abJ];exact L.sz,?_,λi a PC=>?_⟩
  ·refine(uI (ow o) _ j k NY here same (m+1) (by lia)).trans ?_
   refine(L.QO.cons k).trans ?_;rw[aaT];exact(List.perm_append_singleton k _).symm
  ·by_cases e:i=j
   ·subst e;rw[here]at PC;obtain rfl:=YU PC;refine⟨aa_ _,N,by rw[hh];exact q2,λx hx=>shut _ ?_⟩
    rw[hh];exact q4 x (Yz _) hx
   ·rw[same i e]at PC;obtain⟨g1,n,g2,g3⟩:=L.way i a PC;exact⟨by lia,n,g2,λx hx=>shut _ (g3 x hx)⟩
theorem oI {j0:Nat}{hs:Array Int}(hk:hs.size<=2 ^ j0-1):∀(l:List Int) (k:Nat) (o:Ow),hs.toList.drop k=l->k+l.length=hs.size->Ld (2 ^ j0-1) hs o k ->
  ∃o',(l.foldl (λ(acc:Option (Ow×Nat)) h=>do
   let (owner,k) <- acc
   let j <- layClean.free (2 ^ j0-1) owner (turns (2 ^ j0-1)) (bits h % (2 ^ j0-1+1)) (bits h)
   pure (owner.setIfInBounds j (some k),k+1)) (some (o,k)))=some (o',hs.size)/\Ld (2 ^ j0-1) hs o' hs.size
 |[],k,o,e,z,L=>by
  obtain rfl:k=hs.size:=z;exact⟨o,rfl,L⟩
 |h::l,k,o,e,z,L=>by
  rw[Yw]at z;have dt:k<hs.toList.length:=by rw[Yp];lia
  rw[Y5 dt]at e;injection e with e1 e2
  have hh:hs.getD k 0=h:=by
   rw[YE,<- YD,Yj dt,e1];rfl
  obtain⟨j,q1,q2⟩:=L.next (by lia) h hh
  rw[aaU];show ∃o',(l.foldl _ (do
   let j <- layClean.free (2 ^ j0-1) o (turns (2 ^ j0-1)) (bits h % (2 ^ j0-1+1)) (bits h)
   pure (o.setIfInBounds j (some k),k+1)))=_/\_
  rw[q1];exact oI hk l (k+1) _ e2 (by lia) q2
theorem Ld.start (m:Nat)(hs:Array Int):Ld m hs (Array.replicate (m+1) none) 0:=by
 have e:∀j,ow (Array.replicate (m+1) none) j=none:=λj=>by
  unfold ow;rw[YE,Array.getElem?_replicate]
  split <;> rfl
 refine⟨Array.size_replicate,?_,λj a h=>by rw[e]at h;cases h⟩
 rw[eF (f:=λ_=>(none:Option Nat)) _ λk _=>e k];have:∀l:List Nat,l.filterMap (λ_=>(none:Option Nat))=[]:=λl=>by
  induction l with
  |nil=>rfl
  |cons x l ih=>rw[Zn];exact ih
 rw[this];exact .refl _
theorem Fl {j0:Nat}{hs:Array Int}(h3:3<=j0)(hk:hs.size<=2 ^ j0-1)(finger moves:Nat)(led plain:Bool):
  ∃t order,laid (2 ^ j0-1) finger moves led plain hs=some (t,order)/\t.mask=2 ^ j0-1/\t.led=led/\t.plain=plain/\t.moves=moves/\order.toList.Perm (YF hs.size)/\WF t (order.toList.map λa=>hs.getD a 0)/\t.place.size=hs.size:=by
 obtain⟨o,e1,L⟩:=oI hk hs.toList 0 _ rfl (by rw[ZC,Yp]) (Ld.start _ hs)
 have e2:layClean (2 ^ j0-1) hs=some o:=by
  unfold layClean;rw[<- Array.foldl_toList];exact congrArg (Option.map (·.1)) e1
 generalize hm:2 ^ j0-1=m at *
 have MA:∀(l:List Nat),((l.filterMap λj=>(o.getD j none).map (j,·)).map (·.2))=l.filterMap (ow o):=λl=>by
  rw[List.map_filterMap];refine uK l λj _=>?_;rw[Option.map_map];show ((o.getD j none).map λa=>a)=_;rw[Option.map_id'];rfl
 generalize Kc:((YF (m+1)).filterMap λj=>(o.getD j none).map (j,·))=live at *
 have pw:live.Pairwise (λx y=>x.1<y.1):=by
  rw[<- Kc,List.pairwise_filterMap];refine List.pairwise_lt_range.imp λ{a b} AA x hx y hy=>?_;obtain⟨_,_,rfl⟩:=Yt.mp hx;obtain⟨_,_,rfl⟩:=Yt.mp hy;exact AA
 have mem:∀x∈live,x.1<m+1/\ow o x.1=some x.2:=λx hx=>by
  rw[<- Kc]at hx;obtain⟨j,hj,e⟩:=abp.mp hx;obtain⟨a,ha,rfl⟩:=Yt.mp e;exact⟨Zh.mp hj,ha⟩
 have ord:(live.map (·.2)).Perm (YF hs.size):=by
  rw[<- Kc,MA];exact L.QO
 have len:live.length=hs.size:=by
  have:=ord.length_eq;rw[Ye,Zr]at this;exact this
 have gp:∀i (hi:i<live.length),g (live.map (·.1)).toArray i=(live[i]).1:=λi hi=>by
  rw[g,YE,List.getElem?_toArray,Yu,Yj hi];rfl
 refine⟨{mask:=m,place:=(live.map (·.1)).toArray,dummies:=#[],finger,led,moves,plain},(live.map (·.2)).toArray,?_,rfl,rfl,rfl,rfl,ord,?_,?_⟩
 ·unfold laid;rw[e2,<- Kc];rfl
 ·have QN:(live.map (·.1)).toArray.size=live.length:=by rw[YJ,Ye]
  refine⟨rfl,?_,?_,?_,⟨j0,h3,hm.symm⟩,?_,?_⟩
  ·show (live.map (·.1)).toArray.size=_;rw[QN,Ye,Ye]
  ·intro i j aX hj;have hj:j<live.length:=by rw[<- QN];exact hj
   show g (live.map (·.1)).toArray i<g (live.map (·.1)).toArray j;rw[gp i (by lia),gp j hj]
   exact aaI.mp pw i j (by lia) hj aX
  ·intro i hi;have hi:i<live.length:=by rw[<- QN];exact hi
   show g (live.map (·.1)).toArray i<=m;rw[gp i hi];have:=(mem _ (ZZ hi)).1;lia
  ·show (live.map (·.1)).toArray.size<=m;lia
  ·intro i h hi;show ∃n,cG m h n=g (live.map (·.1)).toArray i/\_;rw[Yu,Yu]at hi;have Sd:i<live.length:=by
    rcases ZK i live.length with q|q
    ·exact q
    ·rw[Zk q]at hi;cases hi
   rw[Yj Sd]at hi;have hi:hs.getD (live[i]).2 0=h:=YU hi;obtain⟨_,n,g2,g3⟩:=L.way _ _ (mem _ (ZZ Sd)).2;rw[hi]at g2 g3;refine⟨n,by rw[gp i Sd];exact g2,λk hk=>?_⟩
   have hv:=lV m h k;have K1:cG m h k<o.size:=by rw[L.sz];lia
   have:=g3 k hk;cases eo:ow o (cG m h k)with
   |none =>
    rw[(nk K1).mpr eo]at this;cases this
   |some a =>
    have CO:(cG m h k,a)∈live:=by
     rw[<- Kc];exact abp.mpr ⟨cG m h k,Zh.mpr (by lia),by show (ow o (cG m h k)).map _=_;rw[eo];rfl⟩
    obtain⟨i',gx,e'⟩:=List.getElem_of_mem CO;exact⟨i',by show i'<(live.map (·.1)).toArray.size;lia,by show g (live.map (·.1)).toArray i'=_;rw[gp i' gx,e']⟩
 ·show (live.map (·.1)).toArray.size=hs.size;rw[YJ,Ye];exact len
end ST
namespace TS
open PySem PyProof.Rows
def cz:Bool->Yl->Array Yl->Nat->Nat->Nat->StateT YS Sem (Option Nat):=sortPriv% PySem.Builtin.gallop
def jH:Array Yl->Array Yl->StateT YS Sem (Array Yl):=sortPriv% PySem.Builtin.mergeLo
def jI:Array Yl->Array Yl->StateT YS Sem (Array Yl):=sortPriv% PySem.Builtin.mergeHi
abbrev cC (st:YS)(g:Nat):YS:=SortSt.mk' (kindOf st) (YX st) (YH st) g (aa3 st)
theorem wC (left:Bool)(key:Yl)(arr:Array Yl)(base n hint:Nat):cz left key arr base n hint=(do
  let ask:=λ(at_:Nat)=>(do
   let z <- elem' arr (base+at_)
   if left then lt' z key else return (<- lt' key z).map (!·):StateT YS Sem (Option Bool))
  let mut before:=0
  let mut step:=1
  let mut u:=0
  let mut v:=0
  let some up <- ask hint|return none
  if up then
   let room:=n-hint
   for _ in [0:n] do
    if step >= room then break
    let some on <- ask (hint+step)|return none
    if !on then break
    before:=step
    step:=2*step+1
   u:=hint+before+1
   v:=hint+min step room
  else
   let room:=hint+1
   for _ in [0:n] do
    if step >= room then break
    let some hit <- ask (hint-step)|return none
    if hit then break
    before:=step
    step:=2*step+1
   u:=hint+1-min step room
   v:=hint-before
  for _ in [0:n] do
   if u >= v then break
   let mid:=u+(v-u) / 2
   let some on <- ask mid|return none
   if on then u:=mid+1 else v:=mid
  return some v):=rfl
theorem uc (p q:Array Yl):jH p q=(do
  rule "list.sort.merge-lo"
  let all:=p.size+q.size
  let rest:=λ(to:Array Yl) (i j:Nat)=>to++p.extract i p.size++q.extract j q.size
  let tail:=λ(to:Array Yl) (i j:Nat)=>to++q.extract j q.size++p.extract i p.size
  let mut to:Array Yl:=#[<- elem' q 0]
  let mut i:=0
  let mut j:=1
  if j==q.size then return rest to i j
  if i+1==p.size then return tail to i j
  let mut mg:=gallopOf (<- get)
  for _ in [0:all] do
   let mut m:=0
   let mut n:=0
   for _ in [0:all] do
    let some HH <- lt' (<- elem' q j) (<- elem' p i)|return rest to i j
    if HH then
     to:=to.push (<- elem' q j);j:=j+1;n:=n+1;m:=0
     if j==q.size then return rest to i j
     if n >= mg then break
    else
     to:=to.push (<- elem' p i);i:=i+1;m:=m+1;n:=0
     if i+1==p.size then return tail to i j
     if m >= mg then break
   rule "list.sort.gallop"
   mg:=mg+1
   for _ in [0:all] do
    if mg>1 then mg:=mg-1
    modify λst=>cC st mg
    let some k <- cz false (<- elem' q j) p i (p.size-i) 0|return rest to i j
    m:=k
    if k>0 then
     to:=to++p.extract i (i+k);i:=i+k
     if i+1==p.size then return tail to i j
     if i==p.size then return rest to i j
    to:=to.push (<- elem' q j);j:=j+1
    if j==q.size then return rest to i j
    let some k <- cz true (<- elem' p i) q j (q.size-j) 0|return rest to i j
    n:=k
    if k>0 then
     to:=to++q.extract j (j+k);j:=j+k
     if j==q.size then return rest to i j
    to:=to.push (<- elem' p i);i:=i+1
    if i+1==p.size then return tail to i j
    if m<7&&n<7 then break
   mg:=mg+1
   modify λst=>cC st mg
  unsupported "internal:list.sort.merge-bound"):=rfl
theorem ue (p q:Array Yl):jI p q=(do
  rule "list.sort.merge-hi"
  let all:=p.size+q.size
  let rest:=λ(to:Array Yl) (i j:Nat)=>p.extract 0 i++q.extract 0 j++to.reverse
  let tail:=λ(to:Array Yl) (i j:Nat)=>q.extract 0 j++p.extract 0 i++to.reverse
  let mut i:=p.size-1
  let mut j:=q.size
  let mut to:Array Yl:=#[<- elem' p i]
  if i==0 then return rest to i j
  if j==1 then return tail to i j
  let mut mg:=gallopOf (<- get)
  for _ in [0:all] do
   let mut m:=0
   let mut n:=0
   for _ in [0:all] do
    let some HH <- lt' (<- elem' q (j-1)) (<- elem' p (i-1))|return rest to i j
    if HH then
     i:=i-1;to:=to.push (<- elem' p i);m:=m+1;n:=0
     if i==0 then return rest to i j
     if m >= mg then break
    else
     j:=j-1;to:=to.push (<- elem' q j);n:=n+1;m:=0
     if j==1 then return tail to i j
     if n >= mg then break
   rule "list.sort.gallop"
   mg:=mg+1
   for _ in [0:all] do
    if mg>1 then mg:=mg-1
    modify λst=>cC st mg
    let some h <- cz false (<- elem' q (j-1)) p 0 i (i-1)|return rest to i j
    let k:=i-h
    m:=k
    if k>0 then
     to:=to++(p.extract h i).reverse;i:=h
     if i==0 then return rest to i j
    j:=j-1;to:=to.push (<- elem' q j)
    if j==1 then return tail to i j
    let some h <- cz true (<- elem' p (i-1)) q 0 j (j-1)|return rest to i j
    let k:=j-h
    n:=k
    if k>0 then
     to:=to++(q.extract h j).reverse;j:=h
     if j==1 then return tail to i j
     if j==0 then return rest to i j
    i:=i-1;to:=to.push (<- elem' p i)
    if i==0 then return rest to i j
    if m<7&&n<7 then break
   mg:=mg+1
   modify λst=>cC st mg
  unsupported "internal:list.sort.merge-bound"):=rfl
theorem ug (i:Nat):mergeAt' i=(do
  let st <- get
  let (some (sa,na,pw),some (sb,nb,_)):=((YH st)[i]?,(YH st)[i+1]?)|unsupported "internal:list.sort.pending"
  set (aa9 st (((YH st).setIfInBounds i (sa,na+nb,pw)).eraseIdxIfInBounds (i+1)))
  let some k <- cz false (<- elem' (YX st) sb) (YX st) sa na 0|return false
  let (sa,na):=(sa+k,na-k)
  if na==0 then return true
  let some nb <- cz true (<- elem' (YX st) (sa+na-1)) (YX st) sb nb (nb-1)|return false
  if nb==0 then return true
  let x:=(YX st).extract sa sb
  let y:=(YX st).extract sb (sb+nb)
  let got <- if na<=nb then jH x y else jI x y
  modify λs2=>Zx s2 (got.toList.zipIdx.foldl (λa (p,j)=>a.setIfInBounds (sa+j) p) (YX s2))
  return (aa3 (<- get)).isNone):=rfl
structure cq (c:Yl->Yl->Bool):Prop where
 OL:∀x y,c x y=true->c y x=false
 TV:∀x y z,c x z=true->c x y=true\/c y z=true
def le (c:Yl->Yl->Bool)(x y:Yl):Prop:=c y x=false
section
variable {c:Yl->Yl->Bool}
theorem cq.refl (O:cq c)(x:Yl):le c x x:=by
 cases h:c x x
 ·exact h
 ·exact O.OL _ _ h
theorem cq.trans (O:cq c){x y z:Yl}(h1:le c x y)(h2:le c y z):le c x z:=by
 cases h:c z x
 ·exact h
 ·rcases O.TV _ y _ h with q|q
  ·exact absurd (q.symm.trans h2) (by simp)
  ·exact absurd (q.symm.trans h1) (by simp)
theorem cq.of_lt (O:cq c){x y:Yl}(h:c x y=true):le c x y:=O.OL _ _ h
def el (a:Array Yl)(i:Nat):Yl:=a.getD i (Value.none,Value.none)
theorem jU {a:Array Yl}{i:Nat}(h:i<a.size):a[i]?=some (el a i):=by
 rw[getElem?_pos a i h,el,YE,getElem?_pos a i h];rfl
theorem yr {a:Array Yl}{i:Nat}{x:Yl}(h:a[i]?=some x):el a i=x:=by
 rw[el,YE,h];rfl
theorem eG {a b:Array Yl}{i j:Nat}(h:a[i]?=b[j]?):el a i=el b j:=by
 rw[el,el,YE,YE,h]
def SR (c:Yl->Yl->Bool)(a:Array Yl)(lo hi:Nat):Prop:=∀i j,lo<=i->i<=j->j<hi->le c (el a i) (el a j)
def gi (prog:Yk)(w:YB)(A:Zc)(E:Yc->Yg->Prop)(s:Yg)(κ:aaN)(c:Yl->Yl->Bool)(S:Yl->Prop):Prop :=
 ∀(x y:Yl) (st:YS) (Q:Option Bool->YS->Prop),S x->S y->kindOf st=κ->Q (some (c x y)) st->wpS (model prog w) A E s (lt' x y) Q st
end
section
variable {prog:Yk}{w:YB}{A:Zc}{E:Yc->Yg->Prop}{s:Yg}{κ:aaN}{c:Yl->Yl->Bool}{S:Yl->Prop}
theorem aQ {a:Array Yl}{i:Nat}{Q:Yl->YS->Prop}{st:YS}(h:i<a.size)(q:Q (el a i) st):wpS (model prog w) A E s (elem' a i) Q st:=by
 rw[elem'_eq,jU h];exact Yx q
def eM (c:Yl->Yl->Bool)(left:Bool)(key:Yl)(a:Array Yl)(base i:Nat):Bool:=if left=true then c (el a (base+i)) key else !c key (el a (base+i))
theorem Gf (O:cq c){left:Bool}{key:Yl}{a:Array Yl}{base n i j:Nat}(hs:SR c a base (base+n))(aX:i<=j)(hj:j<n)(h:eM c left key a base j=true):eM c left key a base i=true:=by
 have hl:=hs (base+i) (base+j) (by lia) (by lia) (by lia)
 unfold eM at *
 cases left with
 |true =>
  rw[if_pos rfl]at *
  rcases O.TV _ (el a (base+i)) _ h with q|q
  ·exact absurd (q.symm.trans hl) (by simp)
  ·exact q
 |false =>
  rw[if_neg (by simp)]at *
  rw[abB]at *
  exact O.trans hl h
theorem jf (L:gi prog w A E s κ c S){left:Bool}{key:Yl}{a:Array Yl}{base n i:Nat}{Q:Option Bool->YS->Prop}{st:YS}(hk:kindOf st=κ)(hK:S key)(hA:∀i,i<n->S (el a (base+i)))(hn:base+n<=a.size)(hi:i<n)
  (h:Q (some (eM c left key a base i)) st):wpS (model prog w) A E s (do
   let z <- elem' a (base+i)
   if left then lt' z key else return (<- lt' key z).map (!·):StateT YS Sem (Option Bool)) Q st:=by
 refine Yq (aQ (by lia) ?_)
 unfold eM at h;cases left with
 |true =>
  rw[if_pos rfl]at *
  exact L _ _ st Q (hA i hi) hK hk h
 |false =>
  rw[if_neg (by simp)]at *
  exact Yq (L _ _ st _ hK (hA i hi) hk (Yx h))
theorem d4 (O:cq c)(L:gi prog w A E s κ c S){left:Bool}{key:Yl}{a:Array Yl}{base n hint:Nat}{Q:Option Nat->YS->Prop}{st:YS}(hk:kindOf st=κ)(hK:S key)(hA:∀i,i<n->S (el a (base+i)))(hn:base+n<=a.size)
  (hs:SR c a base (base+n)) (hh:hint<n) (h:∀k,k<=n->(∀i,i<k->eM c left key a base i=true)->(∀i,k<=i->i<n->eM c left key a base i=false)->Q (some k) st) :
  wpS (model prog w) A E s (cz left key a base n hint) Q st:=by
 rw[wC];dsimp only;have up:∀{i j},i<=j->j<n->eM c left key a base j=true->eM c left key a base i=true:=λh1 h2 h3=>Gf O hs h1 h2 h3;refine Yq (jf L hk hK hA hn hh ?_);dsimp only;have dn:∀{i j},i<=j->j<n->eM c left key a base i=false->eM c left key a base j=false:=λ{i j} h1 h2 h3=>by
  cases q:eM c left key a base j
  ·rfl
  ·rw[up h1 h2 q]at h3;exact absurd h3 (by simp)
 cases K_:eM c left key a base hint with
 |true =>
  rw[if_pos rfl];refine Yq (Z1 (Zl (I:=λx r aC=>aC=st/\∃be dq,r=(none,be,dq)/\hint+be<n/\be<dq/\x+1<=dq/\eM c left key a base (hint+be)=true)
   (Q:=λr aC=>aC=st/\∃be dq,r=(none,be,dq)/\hint+be<n/\be<dq/\eM c left key a base (hint+be)=true/\(n-hint<=dq\/(hint+dq<n/\eM c left key a base (hint+dq)=false))) ?_ ?_ ?_) ?_)
  ·rintro x r aC _ hx ⟨rfl,be,dq,rfl,h1,h2,h3,h4⟩;dsimp only
   by_cases hr:dq >= n-hint
   ·rw[if_pos hr];exact Yx ⟨rfl,be,dq,rfl,h1,h2,h4,.inl hr⟩
   ·rw[if_neg hr];refine Yq (jf L hk hK hA hn (by omega) ?_)
    dsimp only;cases hb:eM c left key a base (hint+dq)with
    |true =>
     rw[if_neg (by simp)]
     exact Yx ⟨rfl,dq,_,rfl,by omega,by omega,by omega,hb⟩
    |false =>
     rw[if_pos (by simp)]
     exact Yx ⟨rfl,be,dq,rfl,h1,h2,h4,.inr ⟨by omega,hb⟩⟩
  ·rintro r aC ⟨rfl,be,dq,rfl,h1,h2,h3,h4⟩;exact⟨rfl,be,dq,rfl,h1,h2,h4,.inl (by omega)⟩
  ·exact⟨rfl,0,1,rfl,by omega,by omega,by omega,K_⟩
  rintro r aC ⟨e0,be,dq,rfl,h1,h2,h4,h5⟩;rw[e0];dsimp only;have g1:∀i,i<hint+be+1->eM c left key a base i=true:=λi hi=>up (j:=hint+be) (by omega) h1 h4
  have g2:∀i,hint+min dq (n-hint)<=i->i<n->eM c left key a base i=false:=λi hi gx=>by
   rcases h5 with q|⟨q1,q2⟩
   ·omega
   ·exact dn (i:=hint+dq) (by omega) gx q2
  refine Yq (Z1 (Zl (I:=λx r aC=>aC=st/\∃u v,r=(none,u,v)/\u<=v/\v<=n/\v-u<=n-x/\(∀i,i<u->eM c left key a base i=true)/\(∀i,v<=i->i<n->eM c left key a base i=false))
   (Q:=λr aC=>aC=st/\∃v,r=(none,v,v)/\v<=n/\(∀i,i<v->eM c left key a base i=true)/\(∀i,v<=i->i<n->eM c left key a base i=false)) ?_ ?_ ?_) ?_)
  ·rintro x r aC _ hx ⟨rfl,u,v,rfl,h1,h2,h3,h4,h5⟩;dsimp only
   by_cases MR:u >= v
   ·rw[if_pos MR];obtain rfl:u=v:=by omega
    exact Yx ⟨rfl,u,rfl,h2,h4,h5⟩
   ·rw[if_neg MR];refine Yq (jf L hk hK hA hn (by omega) ?_)
    dsimp only;cases hb:eM c left key a base (u+(v-u) / 2)with
    |true =>
     rw[if_pos rfl];exact Yx ⟨rfl,_,v,rfl,by omega,h2,by omega,λi hi=>up (j:=u+(v-u) / 2) (by omega) (by omega) hb,h5⟩
    |false =>
     rw[if_neg (by simp)]
     exact Yx ⟨rfl,u,_,rfl,by omega,by omega,by omega,h4,λi hi gx=>dn (i:=u+(v-u) / 2) (by omega) (by omega) hb⟩
  ·rintro r aC ⟨rfl,u,v,rfl,h1,h2,h3,h4,h5⟩;obtain rfl:u=v:=by omega
   exact⟨rfl,u,rfl,h2,h4,h5⟩
  ·exact⟨rfl,_,_,rfl,by omega,by omega,by omega,by assumption,by assumption⟩
  ·rintro r aC ⟨rfl,v,rfl,h2,h4,h5⟩;exact Yx (h v h2 h4 h5)
 |false =>
  rw[if_neg (by simp)]
  refine Yq (Z1 (Zl (I:=λx r aC=>aC=st/\∃be dq,r=(none,be,dq)/\be<=hint/\be<dq/\x+1<=dq/\eM c left key a base (hint-be)=false)
   (Q:=λr aC=>aC=st/\∃be dq,r=(none,be,dq)/\be<=hint/\be<dq/\eM c left key a base (hint-be)=false/\(hint+1<=dq\/(dq<=hint/\eM c left key a base (hint-dq)=true))) ?_ ?_ ?_) ?_)
  ·rintro x r aC _ hx ⟨rfl,be,dq,rfl,h1,h2,h3,h4⟩;dsimp only
   by_cases hr:dq >= hint+1
   ·rw[if_pos hr];exact Yx ⟨rfl,be,dq,rfl,h1,h2,h4,.inl hr⟩
   ·rw[if_neg hr];refine Yq (jf L hk hK hA hn (by omega) ?_)
    dsimp only;cases hb:eM c left key a base (hint-dq)with
    |true =>
     rw[if_pos rfl];exact Yx ⟨rfl,be,dq,rfl,h1,h2,h4,.inr ⟨by omega,hb⟩⟩
    |false =>
     rw[if_neg (by simp)]
     exact Yx ⟨rfl,dq,_,rfl,by omega,by omega,by omega,hb⟩
  ·rintro r aC ⟨rfl,be,dq,rfl,h1,h2,h3,h4⟩;exact⟨rfl,be,dq,rfl,h1,h2,h4,.inl (by omega)⟩
  ·exact⟨rfl,0,1,rfl,by omega,by omega,by omega,K_⟩
  rintro r aC ⟨e0,be,dq,rfl,h1,h2,h4,h5⟩;rw[e0];dsimp only;have g1:∀i,i<hint+1-min dq (hint+1)->eM c left key a base i=true:=λi hi=>by
   rcases h5 with q|⟨q1,q2⟩
   ·omega
   ·exact up (j:=hint-dq) (by omega) (by omega) q2
  have g2:∀i,hint-be<=i->i<n->eM c left key a base i=false:=λi hi gx=>dn (i:=hint-be) hi gx h4;refine Yq (Z1 (Zl (I:=λx r aC=>aC=st/\∃u v,r=(none,u,v)/\u<=v/\v<=n/\v-u<=n-x/\(∀i,i<u->eM c left key a base i=true)/\(∀i,v<=i->i<n->eM c left key a base i=false))
   (Q:=λr aC=>aC=st/\∃v,r=(none,v,v)/\v<=n/\(∀i,i<v->eM c left key a base i=true)/\(∀i,v<=i->i<n->eM c left key a base i=false)) ?_ ?_ ?_) ?_)
  ·rintro x r aC _ hx ⟨rfl,u,v,rfl,h1,h2,h3,h4,h5⟩;dsimp only
   by_cases MR:u >= v
   ·rw[if_pos MR];obtain rfl:u=v:=by omega
    exact Yx ⟨rfl,u,rfl,h2,h4,h5⟩
   ·rw[if_neg MR];refine Yq (jf L hk hK hA hn (by omega) ?_)
    dsimp only;cases hb:eM c left key a base (u+(v-u) / 2)with
    |true =>
     rw[if_pos rfl];exact Yx ⟨rfl,_,v,rfl,by omega,h2,by omega,λi hi=>up (j:=u+(v-u) / 2) (by omega) (by omega) hb,h5⟩
    |false =>
     rw[if_neg (by simp)]
     exact Yx ⟨rfl,u,_,rfl,by omega,by omega,by omega,h4,λi hi gx=>dn (i:=u+(v-u) / 2) (by omega) (by omega) hb⟩
  ·rintro r aC ⟨rfl,u,v,rfl,h1,h2,h3,h4,h5⟩;obtain rfl:u=v:=by omega
   exact⟨rfl,u,rfl,h2,h4,h5⟩
  ·exact⟨rfl,_,_,rfl,by omega,by omega,by omega,by assumption,by assumption⟩
  ·rintro r aC ⟨rfl,v,rfl,h2,h4,h5⟩;exact Yx (h v h2 h4 h5)
end
section
variable {c:Yl->Yl->Bool}{p q:Array Yl}{t:List Yl}{i j:Nat}
theorem xk {a:Array Yl}{i:Nat}(h:i<a.size):a.toList.take (i+1)=a.toList.take i++[el a i]:=by
 have e:a.toList[i]?=some (el a i):=by rw[YD];exact jU h
 rw[List.take_succ,e];rfl
theorem yt {a:Array Yl}{i:Nat}(h:i<a.size):a.toList.drop i=el a i::a.toList.drop (i+1):=by
 have hl:i<a.toList.length:=by rw[Yp];exact h
 have e:a.toList[i]=el a i:=by
  have h1:=Yj hl;rw[YD,jU h]at h1;exact(YU h1).symm
 rw[Y5 hl,e]
structure Mg (c:Yl->Yl->Bool)(p q:Array Yl)(t:List Yl)(i j:Nat):Prop where
 hi:i<=p.size
 hj:j<=q.size
 perm:t.Perm (p.toList.take i++q.toList.take j)
 lr:t.Pairwise (le c)
 ap:∀x∈t,∀k,i<=k->k<p.size->le c x (el p k)
 aq:∀x∈t,∀k,j<=k->k<q.size->le c x (el q k)
def Gd (c:Yl->Yl->Bool)(p q:Array Yl)(t:List Yl):Prop:=t.Perm (p.toList++q.toList)/\t.Pairwise (le c)
theorem tF {x:Yl}(h:t.Pairwise (le c))(hx:∀y∈t,le c y x):(t++[x]).Pairwise (le c):=by
 rw[aaA];exact⟨h,abM _ _,λy hy z hz=>by rw[Ys.mp hz];exact hx y hy⟩
theorem Mg.lz (m:Mg c p q t i j)(hj:j<q.size)(sq:SR c q 0 q.size)(hle:∀k,i<=k->k<p.size->le c (el q j) (el p k)):Mg c p q (t++[el q j]) i (j+1) where
 hi:=m.hi
 hj:=hj
 perm:=by
  rw[xk hj,<- Zj];exact m.perm.append_right _
 lr:=tF m.lr λy hy=>m.aq y hy j (Yh _) hj
 ap:=λx hx k h1 h2=>by
  rcases YL.mp hx with h|h
  ·exact m.ap x h k h1 h2
  ·rw[Ys.mp h];exact hle k h1 h2
 aq:=λx hx k h1 h2=>by
  rcases YL.mp hx with h|h
  ·exact m.aq x h k (by lia) h2
  ·rw[Ys.mp h];exact sq j k (by lia) (by lia) h2
theorem Mg.lA (m:Mg c p q t i j)(hi:i<p.size)(sp:SR c p 0 p.size)(hle:∀k,j<=k->k<q.size->le c (el p i) (el q k)):Mg c p q (t++[el p i]) (i+1) j where
 hi:=hi
 hj:=m.hj
 perm:=by
  rw[xk hi];refine(m.perm.append_right _).trans ?_;rw[Zj,Zj];exact List.Perm.append_left _ List.perm_append_comm
 lr:=tF m.lr λy hy=>m.ap y hy i (Yh _) hi
 ap:=λx hx k h1 h2=>by
  rcases YL.mp hx with h|h
  ·exact m.ap x h k (by lia) h2
  ·rw[Ys.mp h];exact sp i k (by lia) (by lia) h2
 aq:=λx hx k h1 h2=>by
  rcases YL.mp hx with h|h
  ·exact m.aq x h k h1 h2
  ·rw[Ys.mp h];exact hle k h1 h2
theorem gT {a:Array Yl}{i k:Nat}(h:i+k<a.size):(a.toList.drop i).take (k+1)=(a.toList.drop i).take k++[el a (i+k)]:=by
 have e:(a.toList.drop i)[k]?=some (el a (i+k)):=by rw[abq,YD];exact jU h
 rw[List.take_succ,e];rfl
theorem Mg.jm (m:Mg c p q t i j)(sp:SR c p 0 p.size):∀(k:Nat),i+k<=p.size->(∀x,x<k->∀y,j<=y->y<q.size->le c (el p (i+x)) (el q y))->Mg c p q (t++(p.toList.drop i).take k) (i+k) j
 |0,_,_=>by simpa using m
 |k+1,h,hle=>by
  have m':=Mg.jm m sp k (by lia) λx hx=>hle x (by lia)
  rw[gT (by lia),<- Zj,<- Nat.add_assoc]
  exact m'.lA (by lia) sp (hle k (by lia))
theorem Mg.jl (m:Mg c p q t i j)(sq:SR c q 0 q.size):∀(k:Nat),j+k<=q.size->(∀x,x<k->∀y,i<=y->y<p.size->le c (el q (j+x)) (el p y))->Mg c p q (t++(q.toList.drop j).take k) i (j+k)
 |0,_,_=>by simpa using m
 |k+1,h,hle=>by
  have m':=Mg.jl m sq k (by lia) λx hx=>hle x (by lia)
  rw[gT (by lia),<- Zj,<- Nat.add_assoc]
  exact m'.lz (by lia) sq (hle k (by lia))
theorem Mg.full (m:Mg c p q t p.size q.size):Gd c p q t:=by
 refine⟨?_,m.lr⟩;have h:=m.perm;rw[ZS (by rw[Yp];lia),ZS (by rw[Yp];lia)]at h
 exact h
theorem cn (a:Array Yl)(i j:Nat):(a.extract i j).toList=(a.toList.drop i).take (j-i):=by
 rw[Array.toList_extract,abt]
theorem uT {a:Array Yl}{i j:Nat}(h:a.size<=i):(a.toList.drop i).take (j-i)=[]:=by
 rw[ZN (by rw[Yp];exact h)]
 simp
theorem Mg.done {to:Array Yl}(m:Mg c p q to.toList i j)(sp:SR c p 0 p.size)(sq:SR c q 0 q.size)(h:i=p.size\/j=q.size):Gd c p q (to++p.extract i p.size++q.extract j q.size).toList:=by
 rw[ZP,ZP,cn,cn];rcases h with rfl|rfl
 ·rw[uT (Yh _),ZW];have m':=m.jl sq (q.size-j) (by have:=m.hj;lia) λx hx y h1 h2=>by lia
  rw[show j+(q.size-j)=q.size by have:=m.hj;lia]at m'
  exact m'.full
 ·rw[uT (a:=q) (Yh _),ZW];have m':=m.jm sp (p.size-i) (by have:=m.hi;lia) λx hx y h1 h2=>by lia
  rw[show i+(p.size-i)=p.size by have:=m.hi;lia]at m'
  exact m'.full
theorem Mg.tail {to:Array Yl}(O:cq c)(m:Mg c p q to.toList i j)(sp:SR c p 0 p.size)(sq:SR c q 0 q.size)(h:i+1=p.size)(hl:∀y,y<q.size->c (el q y) (el p (p.size-1))=true):Gd c p q (to++q.extract j q.size++p.extract i p.size).toList:=by
 rw[ZP,ZP,cn,cn];have m':=m.jl sq (q.size-j) (by have:=m.hj;lia) λx hx y h1 h2=>by
  rw[show y=p.size-1 by lia]
  exact O.of_lt (hl _ (by lia))
 rw[show j+(q.size-j)=q.size by have:=m.hj;lia]at m'
 have m2:=m'.jm sp (p.size-i) (by have:=m.hi;lia) λx hx y h1 h2=>by lia
 rw[show i+(p.size-i)=p.size by have:=m.hi;lia]at m2
 exact m2.full
theorem yH (to a:Array Yl)(i k:Nat):(to++a.extract i (i+k)).toList=to.toList++(a.toList.drop i).take k:=by
 rw[ZP,cn,show i+k-i=k by lia]
theorem Mg.start (O:cq c)(sp:SR c p 0 p.size)(sq:SR c q 0 q.size)(hq:0<q.size)(hp:0<p.size)(h:c (el q 0) (el p 0)=true):Mg c p q [el q 0] 0 1:=by
 have m:Mg c p q [] 0 0:=⟨Yz _,Yz _,(by simp),.nil,(λx hx=>by cases hx),(λx hx=>by cases hx)⟩
 exact m.lz hq sq λk _ hk=>O.trans (O.of_lt h) (sp 0 k (by lia) (by lia) hk)
end
structure ll (st aC:YS):Prop where
 kind:kindOf aC=kindOf st
 arr:YX aC=YX st
 pend:YH aC=YH st
 fail:aa3 aC=aa3 st
theorem ll.refl (st:YS):ll st st:=⟨rfl,rfl,rfl,rfl⟩
theorem ll.G8 {st aC:YS}(e:ll st aC)(g:Nat):ll st (cC aC g):=⟨e.kind,e.arr,e.pend,e.fail⟩
abbrev RI:=Array Yl×Nat×Nat×Nat×Nat
abbrev RG:=Array Yl×Nat×Nat×Nat×Nat×Nat
abbrev RO:=Array Yl×Nat×Nat×Nat
def QY (p q t:Array Yl)(i j mg m n:Nat):StateT YS Sem (ForInStep (Option (Array Yl)×RG)):=do
 let z <- elem' p i
 if (i+1+1==p.size)=true then pure (.done (some (t.push z++q.extract j++p.extract (i+1)),t.push z,i+1,j,mg,m,n))
 else if (decide (m<7)&&decide (n<7))=true then pure (.done (none,t.push z,i+1,j,mg,m,n)) else pure (.yield (none,t.push z,i+1,j,mg,m,n))
def QZ (p q t:Array Yl)(i j mg m n:Nat):StateT YS Sem (ForInStep (Option (Array Yl)×RG)):=do
 let y <- elem' q j
 if (j+1==q.size)=true then pure (.done (some (t.push y++p.extract i++q.extract (j+1)),t.push y,i,j+1,mg,m,n))
 else do
  let x <- elem' p i
  let r <- cz true x q (j+1) (q.size-(j+1)) 0
  match r with
  |some k=>if k>0 then (if (j+1+k==q.size)=true then pure (.done (some (t.push y++q.extract (j+1) (j+1+k)++p.extract i++q.extract (j+1+k)),t.push y++q.extract (j+1) (j+1+k),i,j+1+k,mg,m,k))
    else QY p q (t.push y++q.extract (j+1) (j+1+k)) i (j+1+k) mg m k) else QY p q (t.push y) i (j+1) mg m k
  |_=>pure (.done (some (t.push y++p.extract i++q.extract (j+1)),t.push y,i,j+1,mg,m,n))
def Mz (p q t:Array Yl)(i j mg m n:Nat):StateT YS Sem (ForInStep (Option (Array Yl)×RG)):=do
 modify λst=>cC st mg
 let y <- elem' q j
 let r <- cz false y p i (p.size-i) 0
 match r with
 |some k=>if k>0 then (if (i+k+1==p.size)=true then pure (.done (some (t++p.extract i (i+k)++q.extract j++p.extract (i+k)),t++p.extract i (i+k),i+k,j,mg,k,n))
   else if (i+k==p.size)=true then pure (.done (some (t++p.extract i (i+k)++p.extract (i+k)++q.extract j),t++p.extract i (i+k),i+k,j,mg,k,n))
   else QZ p q (t++p.extract i (i+k)) (i+k) j mg k n) else QZ p q t i j mg k n
 |_=>pure (.done (some (t++p.extract i++q.extract j),t,i,j,mg,m,n))
def VL (p q:Array Yl)(s:Option (Array Yl)×RG):StateT YS Sem (ForInStep (Option (Array Yl)×RG)):=if s.2.2.2.2.1>1 then Mz p q s.2.1 s.2.2.1 s.2.2.2.1 (s.2.2.2.2.1-1) s.2.2.2.2.2.1 s.2.2.2.2.2.2 else Mz p q s.2.1 s.2.2.1 s.2.2.2.1 s.2.2.2.2.1 s.2.2.2.2.2.1 s.2.2.2.2.2.2
def My (p q:Array Yl)(mg:Nat)(s:Option (Array Yl)×RI):StateT YS Sem (ForInStep (Option (Array Yl)×RI)):=do
 let y <- elem' q s.2.2.2.1
 if (s.2.2.2.1+1==q.size)=true then pure (.done (some (s.2.1.push y++p.extract s.2.2.1++q.extract (s.2.2.2.1+1)),s.2.1.push y,s.2.2.1,s.2.2.2.1+1,0,s.2.2.2.2.2+1))
 else if s.2.2.2.2.2+1 >= mg then pure (.done (none,s.2.1.push y,s.2.2.1,s.2.2.2.1+1,0,s.2.2.2.2.2+1)) else pure (.yield (none,s.2.1.push y,s.2.2.1,s.2.2.2.1+1,0,s.2.2.2.2.2+1))
def Mw (p q:Array Yl)(mg:Nat)(s:Option (Array Yl)×RI):StateT YS Sem (ForInStep (Option (Array Yl)×RI)):=do
 let x <- elem' p s.2.2.1
 if (s.2.2.1+1+1==p.size)=true then pure (.done (some (s.2.1.push x++q.extract s.2.2.2.1++p.extract (s.2.2.1+1)),s.2.1.push x,s.2.2.1+1,s.2.2.2.1,s.2.2.2.2.1+1,0))
 else if s.2.2.2.2.1+1 >= mg then pure (.done (none,s.2.1.push x,s.2.2.1+1,s.2.2.2.1,s.2.2.2.2.1+1,0)) else pure (.yield (none,s.2.1.push x,s.2.2.1+1,s.2.2.2.1,s.2.2.2.2.1+1,0))
def QX (p q:Array Yl)(mg:Nat)(s:Option (Array Yl)×RI):StateT YS Sem (ForInStep (Option (Array Yl)×RI)):=do
 let y <- elem' q s.2.2.2.1
 let x <- elem' p s.2.2.1
 let r <- lt' y x
 match r with
 |some HH=>if HH=true then My p q mg s else Mw p q mg s
 |_=>pure (.done (some (s.2.1++p.extract s.2.2.1++q.extract s.2.2.2.1),s.2.1,s.2.2.1,s.2.2.2.1,s.2.2.2.2.1,s.2.2.2.2.2))
def T7 (p q:Array Yl)(s:Option (Array Yl)×RO):StateT YS Sem (ForInStep (Option (Array Yl)×RO)):=do
 let s1 <- forIn [:p.size+q.size] ((none,s.2.1,s.2.2.1,s.2.2.2.1,0,0):Option (Array Yl)×RI) λ_ r=>QX p q s.2.2.2.2 r
 match s1.1 with
 |some r=>pure (.done (some r,s1.2.1,s1.2.2.1,s1.2.2.2.1,s.2.2.2.2))
 |none=>do
  liftM (rule "list.sort.gallop")
  let s2 <- forIn [:p.size+q.size] ((none,s1.2.1,s1.2.2.1,s1.2.2.2.1,s.2.2.2.2+1,s1.2.2.2.2.1,s1.2.2.2.2.2):Option (Array Yl)×RG) λ_ r=>VL p q r
  match s2.1 with
  |some r=>pure (.done (some r,s2.2.1,s2.2.2.1,s2.2.2.2.1,s2.2.2.2.2.1))
  |none=>do
   modify λst=>cC st (s2.2.2.2.2.1+1)
   pure (.yield (none,s2.2.1,s2.2.2.1,s2.2.2.2.1,s2.2.2.2.2.1+1))
theorem ud (p q:Array Yl):jH p q=(do
  liftM (rule "list.sort.merge-lo")
  let y <- elem' q 0
  if (1==q.size)=true then pure (#[y]++p.extract 0++q.extract 1)
  else if (0+1==p.size)=true then pure (#[y]++q.extract 1++p.extract 0)
  else do
   let st <- get
   let s <- forIn [:p.size+q.size] ((none,#[y],0,1,gallopOf st):Option (Array Yl)×RO) λ_ s=>T7 p q s
   match s.1 with
   |some r=>pure r
   |none=>liftM (unsupported "internal:list.sort.merge-bound" : Sem (Array Yl))):=by
 rw[uc];dsimp only;refine congrArg (bind _) (funext λ_=>?_);refine congrArg (bind _) (funext λy=>?_);refine congrArg (ite _ _) (congrArg (ite _ _) ?_);refine congrArg (bind _) (funext λy=>?_);refine congr (congrArg bind (congrArg _ (funext λ_=>funext λs=>?_))) (funext λs=>?_)
 ·refine congr (congrArg bind (congrArg _ (funext λ_=>funext λs=>?_))) (funext λs=>?_)
  ·rfl
  ·cases s.1
   ·refine congrArg (bind _) (funext λ_=>?_);refine congr (congrArg bind (congrArg _ (funext λ_=>funext λs=>?_))) (funext λs=>?_)
    ·rfl
    ·cases s.1 <;> rfl
   ·rfl
 ·cases s.1 <;> rfl
section
variable {prog:Yk}{w:YB}{A:Zc}{E:Yc->Yg->Prop}{s:Yg}{κ:aaN}{c:Yl->Yl->Bool}{S:Yl->Prop}{p q:Array Yl}
theorem AG {st:YS}{Q:ForInStep (Option (Array Yl)×RG)->YS->Prop}{t:Array Yl}{i j mg m n:Nat}(O:cq c)(sp:SR c p 0 p.size)(sq:SR c q 0 q.size)(hl:∀y,y<q.size->c (el q y) (el p (p.size-1))=true)(m3:Mg c p q t.toList i j)(hi:i+1<p.size)(g3:∀y,j<=y->y<q.size->le c (el p i) (el q y))
  (hd:∀out r,Gd c p q out.toList->Q (.done (some out,r)) st) (hn:∀t' m n,Mg c p q t'.toList (i+1) j->i+1+1<p.size->Q (.done (none,t',i+1,j,mg,m,n)) st/\Q (.yield (none,t',i+1,j,mg,m,n)) st):wpS (model prog w) A E s (QY p q t i j mg m n) Q st:=by
 refine Yq (aQ (by lia) ?_)
 have m4:Mg c p q (t.push (el p i)).toList (i+1) j:=by
  rw[Z4];exact m3.lA (by lia) sp g3
 by_cases e5:(i+1+1==p.size)=true
 ·rw[if_pos e5];exact Yx (hd _ _ (m4.tail O sp sq (by simpa using e5) hl))
 rw[if_neg e5];have h5:i+1+1≠p.size:=by simpa using e5
 obtain⟨h6,h7⟩:=hn (t.push (el p i)) m n m4 (by lia)
 split
 ·exact Yx h6
 ·exact Yx h7
theorem AH {st:YS}{Q:ForInStep (Option (Array Yl)×RG)->YS->Prop}{t:Array Yl}{i j mg m n:Nat}(O:cq c)(L:gi prog w A E s κ c S)(hk:kindOf st=κ)(Sp:∀i,i<p.size->S (el p i))(Sq:∀i,i<q.size->S (el q i))(sp:SR c p 0 p.size)(sq:SR c q 0 q.size)(hl:∀y,y<q.size->c (el q y) (el p (p.size-1))=true)(m1:Mg c p q t.toList i j)(hi:i+1<p.size)(hj:j<q.size)(g1:∀y,i<=y->y<p.size->le c (el q j) (el p y))
  (hd:∀out r,Gd c p q out.toList->Q (.done (some out,r)) st) (hn:∀t' j' m n,Mg c p q t'.toList (i+1) j'->i+1+1<p.size->j<j'->j'<q.size->Q (.done (none,t',i+1,j',mg,m,n)) st/\Q (.yield (none,t',i+1,j',mg,m,n)) st):wpS (model prog w) A E s (QZ p q t i j mg m n) Q st:=by
 refine Yq (aQ hj ?_);have m2:Mg c p q (t.push (el q j)).toList i (j+1):=by
  rw[Z4];exact m1.lz hj sq g1
 by_cases e3:(j+1==q.size)=true
 ·rw[if_pos e3];exact Yx (hd _ _ (m2.done sp sq (.inr (by simpa using e3))))
 rw[if_neg e3];have h3:j+1≠q.size:=by simpa using e3
 refine Yq (aQ (by lia) (Yq (d4 O L hk (Sp _ (by lia)) (λx hx=>Sq _ (by lia)) (by lia) (λa b h1 h2 h3=>sq a b (by lia) h2 (by lia)) (by lia) λk k1 k2 k3=>?_)))
 have g3:∀y,j+1+k<=y->y<q.size->le c (el p i) (el q y):=λy h1 h2=>by
  have:=k3 (y-(j+1)) (by lia) (by lia)
  unfold eM at this;rw[if_pos rfl,show j+1+(y-(j+1))=y by lia]at this
  exact this
 dsimp only
 by_cases uz:k>0
 ·rw[if_pos uz];have m3:Mg c p q (t.push (el q j)++q.extract (j+1) (j+1+k)).toList i (j+1+k):=by
   rw[yH];exact m2.jl sq k (by lia) λx hx y h1 h2=>O.trans (O.of_lt (show c (el q (j+1+x)) (el p i)=true from k2 x hx)) (sp _ y (by lia) h1 h2)
  by_cases e4:(j+1+k==q.size)=true
  ·rw[if_pos e4];exact Yx (hd _ _ (m3.done sp sq (.inr (by simpa using e4))))
  rw[if_neg e4];have h4:j+1+k≠q.size:=by simpa using e4
  exact AG O sp sq hl m3 hi g3 hd λt' m n h1 h2=>hn t' _ m n h1 h2 (by lia) (by lia)
 ·rw[if_neg uz];exact AG O sp sq hl m2 hi (λy h1 h2=>g3 y (by lia) h2) hd λt' m n h1 h2=>hn t' _ m n h1 h2 (by lia) (by lia)
theorem HD {st:YS}{Q:ForInStep (Option (Array Yl)×RG)->YS->Prop}{t:Array Yl}{i j mg m n:Nat}(O:cq c)(L:gi prog w A E s κ c S)(hk:kindOf st=κ)(Sp:∀i,i<p.size->S (el p i))(Sq:∀i,i<q.size->S (el q i))(sp:SR c p 0 p.size)(sq:SR c q 0 q.size)(hl:∀y,y<q.size->c (el q y) (el p (p.size-1))=true)(m0:Mg c p q t.toList i j)(hi:i+1<p.size)(hj:j<q.size)
  (hd:∀out r,Gd c p q out.toList->Q (.done (some out,r)) (cC st mg)) (hn:∀t' i' j' m n,Mg c p q t'.toList i' j'->i'+1<p.size->j'<q.size->i+j<i'+j'->Q (.done (none,t',i',j',mg,m,n)) (cC st mg)/\Q (.yield (none,t',i',j',mg,m,n)) (cC st mg)):wpS (model prog w) A E s (Mz p q t i j mg m n) Q st:=by
 refine Yq (aau (Yq (aQ hj (Yq (d4 O L hk (Sq _ hj) (λx hx=>Sp _ (by lia)) (by lia) (λa b h1 h2 h3=>sp a b (by lia) h2 (by lia)) (by lia) λk k1 k2 k3=>?_)))))
 have g0:∀x,x<k->le c (el p (i+x)) (el q j):=λx hx=>by
  have:=k2 x hx;unfold eM at this;rw[if_neg (by simp),abB]at this
  exact this
 have g1:∀y,i+k<=y->y<p.size->le c (el q j) (el p y):=λy h1 h2=>by
  have:=k3 (y-i) (by lia) (by lia)
  unfold eM at this;rw[if_neg (by simp),Bool.not_eq_false',show i+(y-i)=y by lia]at this
  exact O.of_lt this
 have Um:i+k<p.size:=by
  rcases ZK (i+k) p.size with dt|Ur
  ·exact dt
  ·have h1:=g0 (p.size-1-i) (by lia)
   rw[show i+(p.size-1-i)=p.size-1 by lia]at h1
   exact absurd ((hl j hj).symm.trans h1) (by simp)
 dsimp only
 by_cases uz:k>0
 ·rw[if_pos uz];have m1:Mg c p q (t++p.extract i (i+k)).toList (i+k) j:=by
   rw[yH];exact m0.jm sp k (by lia) λx hx y h1 h2=>O.trans (g0 x hx) (sq j y (by lia) h1 h2)
  by_cases e1:(i+k+1==p.size)=true
  ·rw[if_pos e1];exact Yx (hd _ _ (m1.tail O sp sq (by simpa using e1) hl))
  rw[if_neg e1];have zU:i+k+1≠p.size:=by simpa using e1
  rw[if_neg (by simp;lia)]
  exact AH O L hk Sp Sq sp sq hl m1 (by lia) hj g1 hd λt' j' m n h1 h2 h3 h4=>hn t' _ j' m n h1 h2 h4 (by lia)
 ·rw[if_neg uz];exact AH O L hk Sp Sq sp sq hl m0 hi hj (λy h1 h2=>g1 y (by lia) h2) hd λt' j' m n h1 h2 h3 h4=>hn t' _ j' m n h1 h2 h4 (by lia)
theorem HC {st:YS}{Q:ForInStep (Option (Array Yl)×RI)->YS->Prop}{t:Array Yl}{i j mg ma na:Nat}(O:cq c)(L:gi prog w A E s κ c S)(hk:kindOf st=κ)(Sp:∀i,i<p.size->S (el p i))(Sq:∀i,i<q.size->S (el q i))(sp:SR c p 0 p.size)(sq:SR c q 0 q.size)(hl:∀y,y<q.size->c (el q y) (el p (p.size-1))=true)(m:Mg c p q t.toList i j)(hi:i+1<p.size)(hj:j<q.size)
  (hd:∀out r,Gd c p q out.toList->Q (.done (some out,r)) st) (hn:∀t' i' j' m n,Mg c p q t'.toList i' j'->i'+1<p.size->j'<q.size->i+j<i'+j'->Q (.done (none,t',i',j',m,n)) st/\Q (.yield (none,t',i',j',m,n)) st):wpS (model prog w) A E s (QX p q mg (none,t,i,j,ma,na)) Q st:=by
 unfold QX My Mw;dsimp only;refine Yq (aQ hj (Yq (aQ (by lia) (Yq (L _ _ st _ (Sq _ hj) (Sp _ (by lia)) hk ?_)))))
 dsimp only;cases hc:c (el q j) (el p i)with
 |true =>
  rw[if_pos rfl];refine Yq (aQ hj ?_);have m1:Mg c p q (t.push (el q j)).toList i (j+1):=by
   rw[Z4];exact m.lz hj sq λk h1 h2=>O.trans (O.of_lt hc) (sp i k (by lia) h1 h2)
  by_cases e3:(j+1==q.size)=true
  ·rw[if_pos e3];exact Yx (hd _ _ (m1.done sp sq (.inr (by simpa using e3))))
  rw[if_neg e3];have h3:j+1≠q.size:=by simpa using e3
  obtain⟨h6,h7⟩:=hn _ _ _ 0 (na+1) m1 hi (by lia) (by lia)
  split
  ·exact Yx h6
  ·exact Yx h7
 |false =>
  rw[if_neg (by simp)]
  refine Yq (aQ (by lia) ?_)
  have m1:Mg c p q (t.push (el p i)).toList (i+1) j:=by
   rw[Z4];exact m.lA (by lia) sp λk h1 h2=>O.trans (show le c (el p i) (el q j) from hc) (sq j k (by lia) h1 h2)
  by_cases e3:(i+1+1==p.size)=true
  ·rw[if_pos e3];exact Yx (hd _ _ (m1.tail O sp sq (by simpa using e3) hl))
  rw[if_neg e3];have h3:i+1+1≠p.size:=by simpa using e3
  obtain⟨h6,h7⟩:=hn _ _ _ (ma+1) 0 m1 (by lia) hj (by lia)
  split
  ·exact Yx h6
  ·exact Yx h7
theorem vA (O:cq c)(L:gi prog w A E s κ c S){Q:Array Yl->YS->Prop}{st:YS}(hk:kindOf st=κ)(Sp:∀i,i<p.size->S (el p i))(Sq:∀i,i<q.size->S (el q i))(sp:SR c p 0 p.size)(sq:SR c q 0 q.size)
  (hp:0<p.size) (hq:0<q.size) (hf:c (el q 0) (el p 0)=true) (hl:∀y,y<q.size->c (el q y) (el p (p.size-1))=true) (h:∀to aC,ll st aC->Gd c p q to.toList->Q to aC) :
  wpS (model prog w) A E s (jH p q) Q st:=by
 rw[ud];refine Yq (wpS_lift (aaV ⟨rfl,?_⟩));refine Yq (aQ hq ?_);have m0:Mg c p q (#[el q 0]:Array Yl).toList 0 1:=Mg.start O sp sq hq hp hf
 by_cases h1:(1==q.size)=true
 ·rw[if_pos h1];exact Yx (h _ st (ll.refl st) (m0.done sp sq (.inr (by simpa using h1))))
 rw[if_neg h1]
 by_cases h2:(0+1==p.size)=true
 ·rw[if_pos h2];exact Yx (h _ st (ll.refl st) (m0.tail O sp sq (by simpa using h2) hl))
 rw[if_neg h2];refine Yq (abu ?_);refine Yq (Z1 (Zl
  (I:=λx r aC=>ll st aC/\∃to i j mg,r=(none,to,i,j,mg)/\Mg c p q to.toList i j/\i+1<p.size/\j<q.size/\x<i+j)
  (Q:=λr aC=>ll st aC/\∃out r',r=(some out,r')/\Gd c p q out.toList) ?_ ?_ ?_) ?_)
 ·rintro x r aC _ hx ⟨e,to,i,j,mg,rfl,m,hi,hj,hb⟩;unfold T7;dsimp only;refine Yq (Z1 (Zl
   (I:=λy r aC=>ll st aC/\∃to i j m n,r=(none,to,i,j,m,n)/\Mg c p q to.toList i j/\i+1<p.size/\j<q.size/\x+min y 1<i+j)
   (Q:=λr aC=>ll st aC/\((∃out r',r=(some out,r')/\Gd c p q out.toList)\/∃to i j m n,r=(none,to,i,j,m,n)/\Mg c p q to.toList i j/\i+1<p.size/\j<q.size/\x+1<i+j)) ?_ ?_ ?_) ?_)
  ·rintro y r gm _ hy ⟨e2,to,i,j,ma,na,rfl,m,hi,hj,hb⟩;exact HC O L (e2.kind.trans hk) Sp Sq sp sq hl m hi hj (λout r h=>⟨e2,.inl ⟨_,_,rfl,h⟩⟩) λt' i' j' m n h1 h2 h3 h4=>⟨⟨e2,.inr ⟨_,_,_,_,_,rfl,h1,h2,h3,by lia⟩⟩,⟨e2,_,_,_,_,_,rfl,h1,h2,h3,by lia⟩⟩
  ·rintro r gm ⟨e2,to,i,j,ma,na,rfl,m,hi,hj,hb⟩;exact⟨e2,.inr ⟨_,_,_,_,_,rfl,m,hi,hj,by lia⟩⟩
  ·exact⟨e,_,_,_,_,_,rfl,m,hi,hj,by lia⟩
  rintro r gm ⟨e2,⟨out,r',rfl,g⟩|⟨to,i,j,ma,na,rfl,m,hi,hj,hb⟩⟩
  ·exact Yx ⟨e2,_,_,rfl,g⟩
  dsimp only;refine Yq (wpS_lift (aaV ⟨rfl,?_⟩));refine Yq (Z1 (Zl
   (I:=λy r aC=>ll st aC/\∃to i j mg m n,r=(none,to,i,j,mg,m,n)/\Mg c p q to.toList i j/\i+1<p.size/\j<q.size/\x+1<i+j)
   (Q:=λr aC=>ll st aC/\((∃out r',r=(some out,r')/\Gd c p q out.toList)\/∃to i j mg m n,r=(none,to,i,j,mg,m,n)/\Mg c p q to.toList i j/\i+1<p.size/\j<q.size/\x+1<i+j)) ?_ ?_ ?_) ?_)
  ·rintro y r gm _ hy ⟨e2,to,i,j,mg,ma,na,rfl,m,hi,hj,hb⟩;show wpS (model prog w) A E s (if mg>1 then Mz p q to i j (mg-1) ma na else Mz p q to i j mg ma na) _ gm
   split <;> exact HD O L (e2.kind.trans hk) Sp Sq sp sq hl m hi hj (λout r h=>⟨e2.G8 _,.inl ⟨_,_,rfl,h⟩⟩) λt' i' j' m n h1 h2 h3 h4=>⟨⟨e2.G8 _,.inr ⟨_,_,_,_,_,_,rfl,h1,h2,h3,by lia⟩⟩,⟨e2.G8 _,_,_,_,_,_,_,rfl,h1,h2,h3,by lia⟩⟩
  ·rintro r gm ⟨e2,to,i,j,mg,ma,na,rfl,m,hi,hj,hb⟩;exact⟨e2,.inr ⟨_,_,_,_,_,_,rfl,m,hi,hj,hb⟩⟩
  ·exact⟨e2,_,_,_,_,_,_,rfl,m,hi,hj,hb⟩
  rintro r gm ⟨e2,⟨out,r',rfl,g⟩|⟨to,i,j,mg,ma,na,rfl,m,hi,hj,hb⟩⟩
  ·exact Yx ⟨e2,_,_,rfl,g⟩
  dsimp only;refine Yq (aau (Yx ⟨e2.G8 _,_,_,_,_,rfl,m,hi,hj,by lia⟩))
 ·rintro r aC ⟨e,to,i,j,mg,rfl,m,hi,hj,hb⟩
  exfalso
  rw[show max 0 (p.size+q.size)=p.size+q.size by lia]at hb
  lia
 ·exact⟨ll.refl st,_,_,_,_,rfl,m0,by simp at h2;lia,by simp at h1;lia,by lia⟩
 ·rintro r aC ⟨e,out,r',rfl,g⟩;exact Yx (h _ aC e g)
end
section
variable {c:Yl->Yl->Bool}{p q:Array Yl}{t:List Yl}{i j:Nat}
structure Mh (c:Yl->Yl->Bool)(p q:Array Yl)(t:List Yl)(i j:Nat):Prop where
 hi:i<=p.size
 hj:j<=q.size
 perm:t.Perm (p.toList.drop i++q.toList.drop j)
 lr:t.Pairwise (le c)
 ap:∀x∈t,∀k,k<i->le c (el p k) x
 aq:∀x∈t,∀k,k<j->le c (el q k) x
theorem qH {a:Array Yl}{i:Nat}(h0:0<i)(h:i<=a.size):a.toList.drop (i-1)=el a (i-1)::a.toList.drop i:=by
 rw[yt (by lia),show i-1+1=i by lia]
theorem Mh.lA (m:Mh c p q t i j)(h0:0<i)(sp:SR c p 0 p.size)(hle:∀k,k<j->le c (el q k) (el p (i-1))):Mh c p q (el p (i-1)::t) (i-1) j where
 hi:=by have:=m.hi;lia
 hj:=m.hj
 perm:=by
  rw[qH h0 m.hi];exact m.perm.cons _
 lr:=Za.mpr ⟨λx hx=>m.ap x hx _ (by lia),m.lr⟩
 ap:=λx hx k hk=>by
  rcases Yi.mp hx with rfl|h
  ·exact sp k (i-1) (by lia) (by lia) (by have:=m.hi;lia)
  ·exact m.ap x h k (by lia)
 aq:=λx hx k hk=>by
  rcases Yi.mp hx with rfl|h
  ·exact hle k hk
  ·exact m.aq x h k hk
theorem Mh.lz (m:Mh c p q t i j)(h0:0<j)(sq:SR c q 0 q.size)(hle:∀k,k<i->le c (el p k) (el q (j-1))):Mh c p q (el q (j-1)::t) i (j-1) where
 hi:=m.hi
 hj:=by have:=m.hj;lia
 perm:=by
  rw[qH h0 m.hj];exact(m.perm.cons _).trans abL.symm
 lr:=Za.mpr ⟨λx hx=>m.aq x hx _ (by lia),m.lr⟩
 ap:=λx hx k hk=>by
  rcases Yi.mp hx with rfl|h
  ·exact hle k hk
  ·exact m.ap x h k hk
 aq:=λx hx k hk=>by
  rcases Yi.mp hx with rfl|h
  ·exact sq k (j-1) (by lia) (by lia) (by have:=m.hj;lia)
  ·exact m.aq x h k (by lia)
theorem pR {a:Array Yl}{i k:Nat}(h0:k<i)(h:i<=a.size):(a.toList.drop (i-(k+1))).take (k+1)=el a (i-(k+1))::(a.toList.drop (i-k)).take k:=by
 rw[yt (by lia),show i-(k+1)+1=i-k by lia,List.take_succ_cons]
theorem Mh.AX (m:Mh c p q t i j)(sp:SR c p 0 p.size):∀(k:Nat),k<=i->(∀x,i-k<=x->x<i->∀y,y<j->le c (el q y) (el p x))->Mh c p q ((p.toList.drop (i-k)).take k++t) (i-k) j
 |0,_,_=>by simpa using m
 |k+1,h,hle=>by
  have m':=Mh.AX m sp k (by lia) λx h1 h2=>hle x (by lia) h2
  rw[pR (by lia) m.hi,abP]
  exact m'.lA (by lia) sp λy hy=>hle _ (by lia) (by lia) y hy
theorem Mh.AW (m:Mh c p q t i j)(sq:SR c q 0 q.size):∀(k:Nat),k<=j->(∀x,j-k<=x->x<j->∀y,y<i->le c (el p y) (el q x))->Mh c p q ((q.toList.drop (j-k)).take k++t) i (j-k)
 |0,_,_=>by simpa using m
 |k+1,h,hle=>by
  have m':=Mh.AW m sq k (by lia) λx h1 h2=>hle x (by lia) h2
  rw[pR (by lia) m.hj,abP]
  exact m'.lz (by lia) sq λy hy=>hle _ (by lia) (by lia) y hy
theorem Mh.jm (m:Mh c p q t i j)(sp:SR c p 0 p.size){h:Nat}(hh:h<=i)(hle:∀x,h<=x->x<i->∀y,y<j->le c (el q y) (el p x)):Mh c p q ((p.toList.drop h).take (i-h)++t) h j:=by
 have m':=m.AX sp (i-h) (by lia) λx h1 h2=>hle x (by lia) h2
 rw[show i-(i-h)=h by lia]at m'
 exact m'
theorem Mh.jl (m:Mh c p q t i j)(sq:SR c q 0 q.size){h:Nat}(hh:h<=j)(hle:∀x,h<=x->x<j->∀y,y<i->le c (el p y) (el q x)):Mh c p q ((q.toList.drop h).take (j-h)++t) i h:=by
 have m':=m.AW sq (j-h) (by lia) λx h1 h2=>hle x (by lia) h2
 rw[show j-(j-h)=h by lia]at m'
 exact m'
theorem Mh.full (m:Mh c p q t 0 0):Gd c p q t:=⟨m.perm,m.lr⟩
theorem L7 (a b to:Array Yl)(i j:Nat):(a.extract 0 i++b.extract 0 j++to.reverse).toList=(a.toList.drop 0).take (i-0)++((b.toList.drop 0).take (j-0)++to.toList.reverse):=by
 rw[ZP,ZP,cn,cn,Array.toList_reverse,Zj]
theorem Mh.done {to:Array Yl}(m:Mh c p q to.toList.reverse i j)(sp:SR c p 0 p.size)(sq:SR c q 0 q.size)(h:i=0\/j=0):Gd c p q (p.extract 0 i++q.extract 0 j++to.reverse).toList:=by
 rw[L7];rcases h with rfl|rfl
 ·have m':=m.jl sq (h:=0) (Yz _) λx _ _ y hy=>by lia
  exact(m'.jm sp (h:=0) (Yz _) λx _ hx=>by lia).full
 ·have m':=m.jl sq (h:=0) (Yz _) λx _ hx=>by lia
  exact(m'.jm sp (h:=0) (Yz _) λx _ hx y hy=>by lia).full
theorem Mh.tail {to:Array Yl}(O:cq c)(m:Mh c p q to.toList.reverse i j)(sp:SR c p 0 p.size)(sq:SR c q 0 q.size)(h:j=1)(hf:c (el q 0) (el p 0)=true):Gd c p q (q.extract 0 j++p.extract 0 i++to.reverse).toList:=by
 rw[L7];subst h;have m':=m.jm sp (h:=0) (Yz _) λx _ hx y hy=>by
  obtain rfl:y=0:=by lia
  exact O.trans (O.of_lt hf) (sp 0 x (by lia) (by lia) (by have:=m.hi;lia))
 exact(m'.jl sq (h:=0) (Yz _) λx _ _ y hy=>by lia).full
theorem jy (to:Array Yl)(x:Yl):(to.push x).toList.reverse=x::to.toList.reverse:=by
 rw[Z4,List.reverse_append];rfl
theorem yG (to a:Array Yl)(h i:Nat):(to++(a.extract h i).reverse).toList.reverse=(a.toList.drop h).take (i-h)++to.toList.reverse:=by
 rw[ZP,List.reverse_append,Array.toList_reverse,aad,cn]
theorem Mh.start (sp:SR c p 0 p.size)(O:cq c)(hp:0<p.size)(hl:∀y,y<q.size->c (el q y) (el p (p.size-1))=true):Mh c p q [el p (p.size-1)] (p.size-1) q.size:=by
 have m:Mh c p q [] p.size q.size:=⟨Yh _,Yh _,by rw[ZN (by simp),ZN (by simp)];exact .refl _,.nil,(λx hx=>by cases hx),(λx hx=>by cases hx)⟩
 exact m.lA hp sp λk hk=>O.of_lt (hl k hk)
end
abbrev RJ:=Nat×Nat×Array Yl×Nat×Nat
abbrev RH:=Nat×Nat×Array Yl×Nat×Nat×Nat
abbrev RP:=Nat×Nat×Array Yl×Nat
def Sh (p q t:Array Yl)(i j mg m n:Nat):StateT YS Sem (ForInStep (Option (Array Yl)×RH)):=do
 let z <- elem' p (i-1)
 if (i-1==0)=true then pure (.done (some (p.extract 0 (i-1)++q.extract 0 j++(t.push z).reverse),i-1,j,t.push z,mg,m,n))
 else if (decide (m<7)&&decide (n<7))=true then pure (.done (none,i-1,j,t.push z,mg,m,n)) else pure (.yield (none,i-1,j,t.push z,mg,m,n))
def Si (p q t:Array Yl)(i j mg m n:Nat):StateT YS Sem (ForInStep (Option (Array Yl)×RH)):=do
 let y <- elem' q (j-1)
 if (j-1==1)=true then pure (.done (some (q.extract 0 (j-1)++p.extract 0 i++(t.push y).reverse),i,j-1,t.push y,mg,m,n))
 else do
  let x <- elem' p (i-1)
  let r <- cz true x q 0 (j-1) (j-1-1)
  match r with
  |some h=>if j-1-h>0 then (if (h==1)=true then pure (.done (some (q.extract 0 h++p.extract 0 i++(t.push y++(q.extract h (j-1)).reverse).reverse),i,h,t.push y++(q.extract h (j-1)).reverse,mg,m,j-1-h))
    else if (h==0)=true then pure (.done (some (p.extract 0 i++q.extract 0 h++(t.push y++(q.extract h (j-1)).reverse).reverse),i,h,t.push y++(q.extract h (j-1)).reverse,mg,m,j-1-h))
    else Sh p q (t.push y++(q.extract h (j-1)).reverse) i h mg m (j-1-h)) else Sh p q (t.push y) i (j-1) mg m (j-1-h)
  |_=>pure (.done (some (p.extract 0 i++q.extract 0 (j-1)++(t.push y).reverse),i,j-1,t.push y,mg,m,n))
def N7 (p q t:Array Yl)(i j mg m n:Nat):StateT YS Sem (ForInStep (Option (Array Yl)×RH)):=do
 modify λst=>cC st mg
 let y <- elem' q (j-1)
 let r <- cz false y p 0 i (i-1)
 match r with
 |some h=>if i-h>0 then (if (h==0)=true then pure (.done (some (p.extract 0 h++q.extract 0 j++(t++(p.extract h i).reverse).reverse),h,j,t++(p.extract h i).reverse,mg,i-h,n))
   else Si p q (t++(p.extract h i).reverse) h j mg (i-h) n) else Si p q t i j mg (i-h) n
 |_=>pure (.done (some (p.extract 0 i++q.extract 0 j++t.reverse),i,j,t,mg,m,n))
def Wu (p q:Array Yl)(s:Option (Array Yl)×RH):StateT YS Sem (ForInStep (Option (Array Yl)×RH)):=if s.2.2.2.2.1>1 then N7 p q s.2.2.2.1 s.2.1 s.2.2.1 (s.2.2.2.2.1-1) s.2.2.2.2.2.1 s.2.2.2.2.2.2 else N7 p q s.2.2.2.1 s.2.1 s.2.2.1 s.2.2.2.2.1 s.2.2.2.2.2.1 s.2.2.2.2.2.2
def Sg (p q t:Array Yl)(mg i j m:Nat):StateT YS Sem (ForInStep (Option (Array Yl)×RJ)):=do
 let x <- elem' p (i-1)
 if (i-1==0)=true then pure (.done (some (p.extract 0 (i-1)++q.extract 0 j++(t.push x).reverse),i-1,j,t.push x,m+1,0))
 else if m+1 >= mg then pure (.done (none,i-1,j,t.push x,m+1,0)) else pure (.yield (none,i-1,j,t.push x,m+1,0))
def Sf (p q t:Array Yl)(mg i j n:Nat):StateT YS Sem (ForInStep (Option (Array Yl)×RJ)):=do
 let y <- elem' q (j-1)
 if (j-1==1)=true then pure (.done (some (q.extract 0 (j-1)++p.extract 0 i++(t.push y).reverse),i,j-1,t.push y,0,n+1))
 else if n+1 >= mg then pure (.done (none,i,j-1,t.push y,0,n+1)) else pure (.yield (none,i,j-1,t.push y,0,n+1))
def Uq (p q t:Array Yl)(mg i j m n:Nat):StateT YS Sem (ForInStep (Option (Array Yl)×RJ)):=do
 let y <- elem' q (j-1)
 let x <- elem' p (i-1)
 let r <- lt' y x
 match r with
 |some HH=>if HH=true then Sg p q t mg i j m else Sf p q t mg i j n
 |_=>pure (.done (some (p.extract 0 i++q.extract 0 j++t.reverse),i,j,t,m,n))
def Up (p q:Array Yl)(s:Option (Array Yl)×RP):StateT YS Sem (ForInStep (Option (Array Yl)×RP)):=do
 let s1 <- forIn [:p.size+q.size] ((none,s.2.1,s.2.2.1,s.2.2.2.1,0,0):Option (Array Yl)×RJ) λ_ r=>Uq p q r.2.2.2.1 s.2.2.2.2 r.2.1 r.2.2.1 r.2.2.2.2.1 r.2.2.2.2.2
 match s1.1 with
 |some r=>pure (.done (some r,s1.2.1,s1.2.2.1,s1.2.2.2.1,s.2.2.2.2))
 |none=>do
  liftM (rule "list.sort.gallop")
  let s2 <- forIn [:p.size+q.size] ((none,s1.2.1,s1.2.2.1,s1.2.2.2.1,s.2.2.2.2+1,s1.2.2.2.2.1,s1.2.2.2.2.2):Option (Array Yl)×RH) λ_ r=>Wu p q r
  match s2.1 with
  |some r=>pure (.done (some r,s2.2.1,s2.2.2.1,s2.2.2.2.1,s2.2.2.2.2.1))
  |none=>do
   modify λst=>cC st (s2.2.2.2.2.1+1)
   pure (.yield (none,s2.2.1,s2.2.2.1,s2.2.2.2.1,s2.2.2.2.2.1+1))
theorem uf (p q:Array Yl):jI p q=(do
  liftM (rule "list.sort.merge-hi")
  let y <- elem' p (p.size-1)
  if (p.size-1==0)=true then pure (p.extract 0 (p.size-1)++q.extract 0++#[y].reverse)
  else if (q.size==1)=true then pure (q.extract 0++p.extract 0 (p.size-1)++#[y].reverse)
  else do
   let st <- get
   let s <- forIn [:p.size+q.size] ((none,p.size-1,q.size,#[y],gallopOf st):Option (Array Yl)×RP) λ_ s=>Up p q s
   match s.1 with
   |some r=>pure r
   |none=>liftM (unsupported "internal:list.sort.merge-bound" : Sem (Array Yl))):=by
 rw[ue];dsimp only;refine congrArg (bind _) (funext λ_=>?_);refine congrArg (bind _) (funext λy=>?_);refine congrArg (ite _ _) (congrArg (ite _ _) ?_);refine congrArg (bind _) (funext λy=>?_);refine congr (congrArg bind (congrArg _ (funext λ_=>funext λs=>?_))) (funext λs=>?_)
 ·refine congr (congrArg bind (congrArg _ (funext λ_=>funext λs=>?_))) (funext λs=>?_)
  ·rfl
  ·cases s.1
   ·refine congrArg (bind _) (funext λ_=>?_);refine congr (congrArg bind (congrArg _ (funext λ_=>funext λs=>?_))) (funext λs=>?_)
    ·rfl
    ·cases s.1 <;> rfl
   ·rfl
 ·cases s.1 <;> rfl
section
variable {prog:Yk}{w:YB}{A:Zc}{E:Yc->Yg->Prop}{s:Yg}{κ:aaN}{c:Yl->Yl->Bool}{S:Yl->Prop}{p q:Array Yl}
theorem AI {st:YS}{Q:ForInStep (Option (Array Yl)×RH)->YS->Prop}{t:Array Yl}{i j mg m n:Nat}(sp:SR c p 0 p.size)(sq:SR c q 0 q.size)(m3:Mh c p q t.toList.reverse i j)(hi:0<i)(g3:∀k,k<j->le c (el q k) (el p (i-1)))
  (hd:∀out r,Gd c p q out.toList->Q (.done (some out,r)) st) (hn:∀t' m n,Mh c p q t'.toList.reverse (i-1) j->0<i-1->Q (.done (none,i-1,j,t',mg,m,n)) st/\Q (.yield (none,i-1,j,t',mg,m,n)) st):wpS (model prog w) A E s (Sh p q t i j mg m n) Q st:=by
 have gx:=m3.hi;refine Yq (aQ (by lia) ?_)
 have m4:Mh c p q (t.push (el p (i-1))).toList.reverse (i-1) j:=by
  rw[jy];exact m3.lA hi sp g3
 by_cases e5:(i-1==0)=true
 ·rw[if_pos e5];exact Yx (hd _ _ (m4.done sp sq (.inl (by simpa using e5))))
 rw[if_neg e5];have h5:i-1≠0:=by simpa using e5
 obtain⟨h6,h7⟩:=hn (t.push (el p (i-1))) m n m4 (by lia)
 split
 ·exact Yx h6
 ·exact Yx h7
theorem AJ {st:YS}{Q:ForInStep (Option (Array Yl)×RH)->YS->Prop}{t:Array Yl}{i j mg m n:Nat}(O:cq c)(L:gi prog w A E s κ c S)(hk:kindOf st=κ)(Sp:∀i,i<p.size->S (el p i))(Sq:∀i,i<q.size->S (el q i))(sp:SR c p 0 p.size)(sq:SR c q 0 q.size)(hf:c (el q 0) (el p 0)=true)(m1:Mh c p q t.toList.reverse i j)(hi:0<i)(hj:1<j)(g1:∀x,x<i->le c (el p x) (el q (j-1)))
  (hd:∀out r,Gd c p q out.toList->Q (.done (some out,r)) st) (hn:∀t' j' m n,Mh c p q t'.toList.reverse (i-1) j'->0<i-1->1<j'->j'<j->Q (.done (none,i-1,j',t',mg,m,n)) st/\Q (.yield (none,i-1,j',t',mg,m,n)) st):wpS (model prog w) A E s (Si p q t i j mg m n) Q st:=by
 have mi:=m1.hi;have mj:=m1.hj;refine Yq (aQ (by lia) ?_)
 have m2:Mh c p q (t.push (el q (j-1))).toList.reverse i (j-1):=by
  rw[jy];exact m1.lz (by lia) sq g1
 by_cases e3:(j-1==1)=true
 ·rw[if_pos e3];exact Yx (hd _ _ (m2.tail O sp sq (by simpa using e3) hf))
 rw[if_neg e3];have h3:j-1≠1:=by simpa using e3
 refine Yq (aQ (by lia) (Yq (d4 O L hk (Sp _ (by lia)) (λx hx=>Sq _ (by lia)) (by lia) (λa b h1 h2 h3=>sq a b (by lia) h2 (by lia)) (by lia) λh k1 k2 k3=>?_)))
 have g2:∀x,x<h->c (el q x) (el p (i-1))=true:=λx hx=>by
  have:=k2 x hx;unfold eM at this;rw[if_pos rfl,ZC]at this;exact this
 have g4:∀x,h<=x->x<j-1->le c (el p (i-1)) (el q x):=λx h1 h2=>by
  have:=k3 x h1 h2;unfold eM at this;rw[if_pos rfl,ZC]at this;exact this
 have hh:0<h:=by
  rcases Nat.eq_zero_or_pos h with z|z
  ·subst z;have h2:=O.trans (sp 0 (i-1) (by lia) (by lia) (by lia)) (g4 0 (Yh _) (by lia))
   exact absurd (hf.symm.trans h2) (by simp)
  ·exact z
 dsimp only
 by_cases uz:j-1-h>0
 ·rw[if_pos uz];have m3:Mh c p q (t.push (el q (j-1))++(q.extract h (j-1)).reverse).toList.reverse i h:=by
   rw[yG];exact m2.jl sq k1 λx h1 h2 y hy=>O.trans (sp y (i-1) (by lia) (by lia) (by lia)) (g4 x h1 h2)
  by_cases e4:(h==1)=true
  ·rw[if_pos e4];exact Yx (hd _ _ (m3.tail O sp sq (by simpa using e4) hf))
  rw[if_neg e4];have h4:h≠1:=by simpa using e4
  rw[if_neg (by simp;lia)]
  exact AI sp sq m3 hi (λk hk=>O.of_lt (g2 k hk)) hd λt' m n h1 h2=>hn t' _ m n h1 h2 (by lia) (by lia)
 ·rw[if_neg uz];exact AI sp sq m2 hi (λk hk=>O.of_lt (g2 k (by lia))) hd λt' m n h1 h2=>hn t' _ m n h1 h2 (by lia) (by lia)
theorem HF {st:YS}{Q:ForInStep (Option (Array Yl)×RH)->YS->Prop}{t:Array Yl}{i j mg m n:Nat}(O:cq c)(L:gi prog w A E s κ c S)(hk:kindOf st=κ)(Sp:∀i,i<p.size->S (el p i))(Sq:∀i,i<q.size->S (el q i))(sp:SR c p 0 p.size)(sq:SR c q 0 q.size)(hf:c (el q 0) (el p 0)=true)(m0:Mh c p q t.toList.reverse i j)(hi:0<i)(hj:1<j)
  (hd:∀out r,Gd c p q out.toList->Q (.done (some out,r)) (cC st mg)) (hn:∀t' i' j' m n,Mh c p q t'.toList.reverse i' j'->0<i'->1<j'->i'+j'<i+j->Q (.done (none,i',j',t',mg,m,n)) (cC st mg)/\Q (.yield (none,i',j',t',mg,m,n)) (cC st mg)):wpS (model prog w) A E s (N7 p q t i j mg m n) Q st:=by
 have mi:=m0.hi;have mj:=m0.hj;refine Yq (aau (Yq (aQ (by lia) (Yq (d4 O L hk (Sq _ (by lia)) (λx hx=>Sp _ (by lia)) (by lia) (λa b h1 h2 h3=>sp a b (by lia) h2 (by lia)) (by lia) λh k1 k2 k3=>?_)))))
 have g0:∀x,x<h->le c (el p x) (el q (j-1)):=λx hx=>by
  have:=k2 x hx;unfold eM at this;rw[if_neg (by simp),abB,ZC]at this
  exact this
 have g5:∀x,h<=x->x<i->le c (el q (j-1)) (el p x):=λx h1 h2=>by
  have:=k3 x h1 h2;unfold eM at this;rw[if_neg (by simp),Bool.not_eq_false',ZC]at this
  exact O.of_lt this
 dsimp only
 by_cases uz:i-h>0
 ·rw[if_pos uz];have m1:Mh c p q (t++(p.extract h i).reverse).toList.reverse h j:=by
   rw[yG];exact m0.jm sp k1 λx h1 h2 y hy=>O.trans (sq y (j-1) (by lia) (by lia) (by lia)) (g5 x h1 h2)
  by_cases e1:(h==0)=true
  ·rw[if_pos e1];exact Yx (hd _ _ (m1.done sp sq (.inl (by simpa using e1))))
  rw[if_neg e1];have zU:h≠0:=by simpa using e1
  exact AJ O L hk Sp Sq sp sq hf m1 (by lia) hj g0 hd λt' j' m n h1 h2 h3 h4=>hn t' _ j' m n h1 h2 h3 (by lia)
 ·rw[if_neg uz];exact AJ O L hk Sp Sq sp sq hf m0 hi hj (λx hx=>g0 x (by lia)) hd λt' j' m n h1 h2 h3 h4=>hn t' _ j' m n h1 h2 h3 (by lia)
theorem HE {st:YS}{Q:ForInStep (Option (Array Yl)×RJ)->YS->Prop}{t:Array Yl}{i j mg ma na:Nat}(O:cq c)(L:gi prog w A E s κ c S)(hk:kindOf st=κ)(Sp:∀i,i<p.size->S (el p i))(Sq:∀i,i<q.size->S (el q i))(sp:SR c p 0 p.size)(sq:SR c q 0 q.size)(hf:c (el q 0) (el p 0)=true)(m:Mh c p q t.toList.reverse i j)(hi:0<i)(hj:1<j)
  (hd:∀out r,Gd c p q out.toList->Q (.done (some out,r)) st) (hn:∀t' i' j' m n,Mh c p q t'.toList.reverse i' j'->0<i'->1<j'->i'+j'<i+j->Q (.done (none,i',j',t',m,n)) st/\Q (.yield (none,i',j',t',m,n)) st):wpS (model prog w) A E s (Uq p q t mg i j ma na) Q st:=by
 have gx:=m.hi;have FC:=m.hj;refine Yq (aQ (by lia) (Yq (aQ (by lia) (Yq (L _ _ st _ (Sq _ (by lia)) (Sp _ (by lia)) hk ?_)))))
 dsimp only;cases hc:c (el q (j-1)) (el p (i-1))with
 |true =>
  rw[if_pos rfl];refine Yq (aQ (by lia) ?_)
  have m1:Mh c p q (t.push (el p (i-1))).toList.reverse (i-1) j:=by
   rw[jy];exact m.lA hi sp λk hk=>O.trans (sq k (j-1) (by lia) (by lia) (by lia)) (O.of_lt hc)
  by_cases e3:(i-1==0)=true
  ·rw[if_pos e3];exact Yx (hd _ _ (m1.done sp sq (.inl (by simpa using e3))))
  rw[if_neg e3];have h3:i-1≠0:=by simpa using e3
  obtain⟨h6,h7⟩:=hn _ _ _ (ma+1) 0 m1 (by lia) hj (by lia)
  split
  ·exact Yx h6
  ·exact Yx h7
 |false =>
  rw[if_neg (by simp)]
  refine Yq (aQ (by lia) ?_)
  have m1:Mh c p q (t.push (el q (j-1))).toList.reverse i (j-1):=by
   rw[jy];exact m.lz (by lia) sq λk hk=>O.trans (sp k (i-1) (by lia) (by lia) (by lia)) (show le c (el p (i-1)) (el q (j-1)) from hc)
  by_cases e3:(j-1==1)=true
  ·rw[if_pos e3];exact Yx (hd _ _ (m1.tail O sp sq (by simpa using e3) hf))
  rw[if_neg e3];have h3:j-1≠1:=by simpa using e3
  obtain⟨h6,h7⟩:=hn _ _ _ 0 (na+1) m1 hi (by lia) (by lia)
  split
  ·exact Yx h6
  ·exact Yx h7
theorem vB (O:cq c)(L:gi prog w A E s κ c S){Q:Array Yl->YS->Prop}{st:YS}(hk:kindOf st=κ)(Sp:∀i,i<p.size->S (el p i))(Sq:∀i,i<q.size->S (el q i))(sp:SR c p 0 p.size)(sq:SR c q 0 q.size)
  (hp:0<p.size) (hq:0<q.size) (hf:c (el q 0) (el p 0)=true) (hl:∀y,y<q.size->c (el q y) (el p (p.size-1))=true) (h:∀to aC,ll st aC->Gd c p q to.toList->Q to aC) :
  wpS (model prog w) A E s (jI p q) Q st:=by
 rw[uf];refine Yq (wpS_lift (aaV ⟨rfl,?_⟩));refine Yq (aQ (by lia) ?_)
 have m0:Mh c p q (#[el p (p.size-1)]:Array Yl).toList.reverse (p.size-1) q.size:=Mh.start sp O hp hl
 by_cases h1:(p.size-1==0)=true
 ·rw[if_pos h1];exact Yx (h _ st (ll.refl st) (m0.done sp sq (.inl (by simpa using h1))))
 rw[if_neg h1];have zU:p.size-1≠0:=by simpa using h1
 by_cases h2:(q.size==1)=true
 ·rw[if_pos h2];exact Yx (h _ st (ll.refl st) (m0.tail O sp sq (by simpa using h2) hf))
 rw[if_neg h2];have CV:q.size≠1:=by simpa using h2
 refine Yq (abu ?_);refine Yq (Z1 (Zl
  (I:=λx r aC=>ll st aC/\∃i j to mg,r=(none,i,j,to,mg)/\Mh c p q to.toList.reverse i j/\0<i/\1<j/\i+j+x<p.size+q.size)
  (Q:=λr aC=>ll st aC/\∃out r',r=(some out,r')/\Gd c p q out.toList) ?_ ?_ ?_) ?_)
 ·rintro x r aC _ hx ⟨e,i,j,to,mg,rfl,m,hi,hj,hb⟩;unfold Up;dsimp only;refine Yq (Z1 (Zl
   (I:=λy r aC=>ll st aC/\∃i j to m n,r=(none,i,j,to,m,n)/\Mh c p q to.toList.reverse i j/\0<i/\1<j/\i+j+x+min y 1<p.size+q.size)
   (Q:=λr aC=>ll st aC/\((∃out r',r=(some out,r')/\Gd c p q out.toList)\/∃i j to m n,r=(none,i,j,to,m,n)/\Mh c p q to.toList.reverse i j/\0<i/\1<j/\i+j+x+1<p.size+q.size)) ?_ ?_ ?_) ?_)
  ·rintro y r gm _ hy ⟨e2,i,j,to,ma,na,rfl,m,hi,hj,hb⟩;exact HE O L (e2.kind.trans hk) Sp Sq sp sq hf m hi hj (λout r h=>⟨e2,.inl ⟨_,_,rfl,h⟩⟩) λt' i' j' m n h1 h2 h3 h4=>⟨⟨e2,.inr ⟨_,_,_,_,_,rfl,h1,h2,h3,by lia⟩⟩,⟨e2,_,_,_,_,_,rfl,h1,h2,h3,by lia⟩⟩
  ·rintro r gm ⟨e2,i,j,to,ma,na,rfl,m,hi,hj,hb⟩;exact⟨e2,.inr ⟨_,_,_,_,_,rfl,m,hi,hj,by lia⟩⟩
  ·exact⟨e,_,_,_,_,_,rfl,m,hi,hj,by lia⟩
  rintro r gm ⟨e2,⟨out,r',rfl,g⟩|⟨i,j,to,ma,na,rfl,m,hi,hj,hb⟩⟩
  ·exact Yx ⟨e2,_,_,rfl,g⟩
  dsimp only;refine Yq (wpS_lift (aaV ⟨rfl,?_⟩));refine Yq (Z1 (Zl
   (I:=λy r aC=>ll st aC/\∃i j to mg m n,r=(none,i,j,to,mg,m,n)/\Mh c p q to.toList.reverse i j/\0<i/\1<j/\i+j+x+1<p.size+q.size)
   (Q:=λr aC=>ll st aC/\((∃out r',r=(some out,r')/\Gd c p q out.toList)\/∃i j to mg m n,r=(none,i,j,to,mg,m,n)/\Mh c p q to.toList.reverse i j/\0<i/\1<j/\i+j+x+1<p.size+q.size)) ?_ ?_ ?_) ?_)
  ·rintro y r gm _ hy ⟨e2,i,j,to,mg,ma,na,rfl,m,hi,hj,hb⟩;show wpS (model prog w) A E s (if mg>1 then N7 p q to i j (mg-1) ma na else N7 p q to i j mg ma na) _ gm
   split <;> exact HF O L (e2.kind.trans hk) Sp Sq sp sq hf m hi hj (λout r h=>⟨e2.G8 _,.inl ⟨_,_,rfl,h⟩⟩) λt' i' j' m n h1 h2 h3 h4=>⟨⟨e2.G8 _,.inr ⟨_,_,_,_,_,_,rfl,h1,h2,h3,by lia⟩⟩,⟨e2.G8 _,_,_,_,_,_,_,rfl,h1,h2,h3,by lia⟩⟩
  ·rintro r gm ⟨e2,i,j,to,mg,ma,na,rfl,m,hi,hj,hb⟩;exact⟨e2,.inr ⟨_,_,_,_,_,_,rfl,m,hi,hj,hb⟩⟩
  ·exact⟨e2,_,_,_,_,_,_,rfl,m,hi,hj,hb⟩
  rintro r gm ⟨e2,⟨out,r',rfl,g⟩|⟨i,j,to,mg,ma,na,rfl,m,hi,hj,hb⟩⟩
  ·exact Yx ⟨e2,_,_,rfl,g⟩
  dsimp only;refine Yq (aau (Yx ⟨e2.G8 _,_,_,_,_,rfl,m,hi,hj,by lia⟩))
 ·rintro r aC ⟨e,i,j,to,mg,rfl,m,hi,hj,hb⟩
  exfalso
  rw[show max 0 (p.size+q.size)=p.size+q.size by lia]at hb
  lia
 ·exact⟨ll.refl st,_,_,_,_,rfl,m0,by lia,by lia,by lia⟩
 ·rintro r aC ⟨e,out,r',rfl,g⟩;exact Yx (h _ aC e g)
end
section
variable {c:Yl->Yl->Bool}{a b:Array Yl}
structure Rg (a b:Array Yl)(lo hi:Nat):Prop where
 perm:b.Perm a
 out:∀k,(k<lo\/hi<=k)->el b k=el a k
theorem Rg.refl {lo hi:Nat}:Rg a a lo hi:=⟨Array.Perm.refl _,λ_ _=>rfl⟩
theorem Rg.trans {d:Array Yl}{lo hi:Nat}(x:Rg a b lo hi)(y:Rg b d lo hi):Rg a d lo hi:=⟨y.perm.trans x.perm,λk h=>(y.out k h).trans (x.out k h)⟩
theorem Rg.mono {lo hi GV gx:Nat}(x:Rg a b lo hi)(h1:GV<=lo)(h2:hi<=gx):Rg a b GV gx:=⟨x.perm,λk h=>x.out k (by lia)⟩
theorem Rg.size {lo hi:Nat}(x:Rg a b lo hi):b.size=a.size:=x.perm.size_eq
theorem SR.congr {lo hi:Nat}(h:SR c a lo hi)(e:∀k,lo<=k->k<hi->el b k=el a k):SR c b lo hi:=λi j h1 h2 h3=>by
 rw[e i h1 (by lia),e j (by lia) h3]
 exact h i j h1 h2 h3
def NI (c:Yl->Yl->Bool)(a:Array Yl)(lo hi:Nat):Prop:=∀i j,lo<=i->i<=j->j<hi->le c (el a j) (el a i)
theorem b6 {i j:Nat}(hj:j<=a.size)(k:Nat):el (mirror a i j ((j-i) / 2)) k=if i<=k/\k<j then el a (i+j-1-k) else el a k:=by
 have e:=getElem?_mirror_all (i:=i) hj k
 by_cases h:i<=k/\k<j
 ·rw[if_pos h]at e ⊢
  exact eG e
 ·rw[if_neg h]at e ⊢
  exact eG e
theorem fE {i j:Nat}(hj:j<=a.size):Rg a (mirror a i j ((j-i) / 2)) i j:=⟨mirror_perm _ _ _ _,λk h=>by rw[b6 hj,if_neg (by lia)]⟩
theorem qi {i j:Nat}(hj:j<=a.size)(h:NI c a i j):SR c (mirror a i j ((j-i) / 2)) i j:=λx y h1 h2 h3=>by
 rw[b6 hj,b6 hj,if_pos (by lia),if_pos (by lia)]
 exact h _ _ (by lia) (by lia) (by lia)
theorem kK {lo i j:Nat}(N2:lo<=i)(hj:j<=a.size)(h:NI c a lo j)(he:∀x y,i<=x->x<j->i<=y->y<j->le c (el a x) (el a y)):NI c (mirror a i j ((j-i) / 2)) lo j:=λx y h1 h2 h3=>by
 rw[b6 hj,b6 hj]
 by_cases hx:i<=x/\x<j
 ·rw[if_pos hx,if_pos (by lia)]
  exact he _ _ (by lia) (by lia) (by lia) (by lia)
 ·rw[if_neg hx]
  by_cases hy:i<=y/\y<j
  ·rw[if_pos hy];exact h _ _ (by lia) (by lia) (by lia)
  ·rw[if_neg hy];exact h _ _ h1 h2 h3
theorem SR.snoc {lo n:Nat}(O:cq c)(h:SR c a lo (lo+n))(h1:0<n)(hn:le c (el a (lo+n-1)) (el a (lo+n))):SR c a lo (lo+(n+1)):=λi j h2 h3 h4=>by
 by_cases hj:j<lo+n
 ·exact h i j h2 h3 hj
 ·obtain rfl:j=lo+n:=by lia
  by_cases hi:i<lo+n
  ·exact O.trans (h i (lo+n-1) h2 (by lia) (by lia)) hn
  ·obtain rfl:i=lo+n:=by lia
   exact O.refl _
theorem NI.snoc {lo n:Nat}(O:cq c)(h:NI c a lo (lo+n))(h1:0<n)(hn:le c (el a (lo+n)) (el a (lo+n-1))):NI c a lo (lo+(n+1)):=λi j h2 h3 h4=>by
 by_cases hj:j<lo+n
 ·exact h i j h2 h3 hj
 ·obtain rfl:j=lo+n:=by lia
  by_cases hi:i<lo+n
  ·exact O.trans hn (h i (lo+n-1) h2 (by lia) (by lia))
  ·obtain rfl:i=lo+n:=by lia
   exact O.refl _
theorem SR.one {lo:Nat}(O:cq c):SR c a lo (lo+1):=λi j h1 h2 h3=>by
 obtain rfl:i=j:=by lia
 exact O.refl _
end
structure lh (κ:aaN)(a₀:Array Yl)(st:YS):Prop where
 kind:kindOf st=κ
 fail:aa3 st=none
 perm:(YX st).Perm a₀
section
variable {prog:Yk}{w:YB}{A:Zc}{E:Yc->Yg->Prop}{s:Yg}{κ:aaN}{c:Yl->Yl->Bool}{a₀:Array Yl}
theorem lh.size {st:YS}(h:lh κ a₀ st):(YX st).size=a₀.size:=h.perm.size_eq
theorem lh.mem {st:YS}(h:lh κ a₀ st){i:Nat}(hi:i<a₀.size):el (YX st) i∈a₀.toList:=by
 have h1:i<(YX st).size:=by rw[h.size];exact hi
 refine(aaD.mp h.perm).mem_iff.mp ?_;have:=jU h1;rw[<- YD]at this;exact YW this
theorem lh.set {st:YS}{b:Array Yl}{lo hi:Nat}(h:lh κ a₀ st)(r:Rg (YX st) b lo hi):lh κ a₀ (Zx st b):=⟨h.kind,h.fail,r.perm.trans h.perm⟩
theorem qY (L:gi prog w A E s κ c (·∈a₀.toList)){st:YS}{i j:Nat}{Q:Option Bool->YS->Prop}(h:lh κ a₀ st)(hi:i<a₀.size)(hj:j<a₀.size)(q:Q (some (c (el (YX st) i) (el (YX st) j))) st):
  wpS (model prog w) A E s (ltAt' i j) Q st:=by
 rw[ltAt'_eq];refine Yq (abu ?_);exact Yq (aQ (by rw[h.size];exact hi) (Yq (aQ (by rw[h.size];exact hj) (L _ _ st Q (h.mem hi) (h.mem hj) h.kind q))))
theorem je (L:gi prog w A E s κ c (·∈a₀.toList)){st:YS}{b:Array Yl}{i j lo hi:Nat}{Q:Option Bool->YS->Prop}(h:lh κ a₀ st)(R:Rg (YX st) b lo hi)(hi:i<a₀.size)(hj:j<a₀.size)(q:Q (some (c (el b i) (el b j))) (Zx st b)):
  wpS (model prog w) A E s (ltAt' i j) Q (Zx st b):=qY L (h.set R) hi hj q
theorem i_ {st:YS}{i j:Nat}{Q:Unit->YS->Prop}(q:Q () (Zx st (mirror (YX st) i j ((j-i) / 2)))):wpS (model prog w) A E s (reverseSlice' i j) Q st:=by
 rw[reverseSlice'_eq];exact aau q
theorem AK (O:cq c)(L:gi prog w A E s κ c (·∈a₀.toList)){st:YS}{lo fC:Nat}{Q:Option Nat->YS->Prop}(h0:lh κ a₀ st)(h1:1<=fC)(hn:lo+fC<=a₀.size)
  (h:∀n b,1<=n->n<=fC->Rg (YX st) b lo (lo+fC)->SR c b lo (lo+n)->Q (some n) (Zx st b)):wpS (model prog w) A E s (countRun' lo fC) Q st:=by
 rw[countRun'_eq];dsimp only;refine Yq (Z1 (Zl (I:=λx r aC=>aC=st/\∃n,r=(none,n)/\n=x/\SR c (YX st) lo (lo+n))
  (Q:=λr aC=>aC=st/\∃n,r=(none,n)/\1<=n/\n<=fC/\SR c (YX st) lo (lo+n)/\(n=fC\/(n<fC/\c (el (YX st) (lo+n)) (el (YX st) (lo+n-1))=true))) ?_ ?_ ?_) ?_)
 ·rintro x r aC MO hx ⟨rfl,n,rfl,rfl,hs⟩;dsimp only;refine Yq (qY L h0 (by lia) (by lia) ?_)
  dsimp only;cases hc:c (el (YX aC) (lo+n)) (el (YX aC) (lo+n-1))with
  |true =>
   rw[if_pos rfl];exact Yx ⟨rfl,n,rfl,MO,by lia,hs,.inr ⟨by lia,hc⟩⟩
  |false =>
   rw[if_neg (by simp)]
   exact Yx ⟨rfl,n+1,rfl,rfl,hs.snoc O MO hc⟩
 ·rintro r aC ⟨rfl,n,rfl,hx,hs⟩;exact⟨rfl,n,rfl,by lia,by lia,hs,.inl (by lia)⟩
 ·exact⟨rfl,1,rfl,rfl,SR.one O⟩
 rintro r aC ⟨e0,n,rfl,RY,Px,hs,hc⟩;rw[e0];dsimp only
 by_cases RW:(n==fC)=true
 ·rw[if_pos RW];exact Yx (h n (YX st) RY Px Rg.refl hs)
 rw[if_neg RW];have Wd:n≠fC:=by simpa using RW
 have hc:c (el (YX st) (lo+n)) (el (YX st) (lo+n-1))=true:=by
  rcases hc with q|q
  ·lia
  ·exact q.2
 refine(λ(key:∀b,Rg (YX st) b lo (lo+fC)->NI c b lo (lo+(n+1))->wpS (model prog w) A E s ?cont Q (Zx st b))=>?main) ?key
 case main =>
  by_cases h2:n>1
  ·rw[if_pos h2];refine Yq (qY L h0 (by lia) (by lia) ?_)
   dsimp only;cases hr:c (el (YX st) lo) (el (YX st) (lo+n-1))with
   |true =>
    rw[if_pos rfl];exact Yx (h n (YX st) RY Px Rg.refl hs)
   |false =>
    rw[if_neg (by simp)]
    refine Yq (i_ ?_);have hz:lo+n<=(YX st).size:=by have:=h0.size;lia
    have R0:Rg (YX st) (mirror (YX st) lo (lo+n) ((lo+n-lo) / 2)) lo (lo+fC):=(fE hz).mono (Yh _) (by lia)
    have all:∀u v,lo<=u->u<lo+n->lo<=v->v<lo+n->le c (el (YX st) u) (el (YX st) v):=λu v h1 h2 h3 h4 =>
     O.trans (hs u (lo+n-1) h1 (by lia) (by lia)) (O.trans hr (hs lo v (Yh _) h3 h4))
    have N0:NI c (mirror (YX st) lo (lo+n) ((lo+n-lo) / 2)) lo (lo+(n+1)):=by
     refine NI.snoc O (kK (Yh _) hz (λu v h1 h2 h3=>all v u (by lia) (by lia) h1 (by lia)) λu v h1 h2 h3 h4=>all u v h1 h2 h3 h4) (by lia) ?_
     rw[b6 hz,b6 hz,if_neg (by lia),if_pos (by lia)]
     exact O.trans (O.of_lt hc) (all _ _ (by lia) (by lia) (by lia) (by lia))
    exact key _ R0 N0
  ·rw[if_neg h2];have N0:NI c (YX st) lo (lo+(n+1)):=NI.snoc O (λu v h1 h2 h3=>by
    obtain rfl:u=v:=by lia
    exact O.refl _) (by lia) (O.of_lt hc)
   show wpS _ _ _ _ _ Q (Zx st (YX st));exact key _ Rg.refl N0
 case key =>
  intro b0 R0 N0;refine Yq (wpS_lift (aaV ⟨rfl,?_⟩));refine Yq (Z1 (Zl (I:=λx r aC=>∃b n lD,aC=Zx st b/\r=(none,n,lD)/\n=x/\Rg (YX st) b lo (lo+fC)/\NI c b lo (lo+n)/\lD<n/\(∀u v,lo+n-1-lD<=u->u<lo+n->lo+n-1-lD<=v->v<lo+n->le c (el b u) (el b v)))
   (Q:=λr aC=>∃b n lD,aC=Zx st b/\r=(none,n,lD)/\1<=n/\n<=fC/\Rg (YX st) b lo (lo+fC)/\NI c b lo (lo+n)/\lD<n/\(∀u v,lo+n-1-lD<=u->u<lo+n->lo+n-1-lD<=v->v<lo+n->le c (el b u) (el b v))) ?_ ?_ ?_) ?_)
  ·rintro x r aC MO hx ⟨b,n',lD,rfl,rfl,rfl,R,N,hq,he⟩;dsimp only;refine Yq (je L h0 R (by lia) (by lia) ?_)
   dsimp only;cases pz:c (el b (lo+n')) (el b (lo+n' - 1))with
   |true =>
    rw[if_pos rfl]
    by_cases CN:lD>0
    ·rw[if_pos CN];refine Yq (i_ (Yx ?_));have hz:lo+n'<=b.size:=by have:=R.size;have:=h0.size;lia
     refine⟨mirror b (lo+n' - (lD+1)) (lo+n') ((lo+n' - (lo+n' - (lD+1))) / 2),n'+1,0,rfl,rfl,rfl,R.trans ((fE hz).mono (by lia) (by lia)),?_,by lia,?_⟩
     ·refine NI.snoc O (kK (by lia) hz N λu v h1 h2 h3 h4=>he u v (by lia) h2 (by lia) h4) (by lia) ?_
      rw[b6 hz,b6 hz,if_neg (by lia),if_pos (by lia)]
      exact O.trans (O.of_lt pz) (he _ _ (by lia) (by lia) (by lia) (by lia))
     ·intro u v h1 h2 h3 h4;obtain rfl:u=v:=by lia
      exact O.refl _
    ·rw[if_neg CN];refine Yx ⟨b,n'+1,0,rfl,rfl,rfl,R,N.snoc O (by lia) (O.of_lt pz),by lia,?_⟩
     intro u v h1 h2 h3 h4;obtain rfl:u=v:=by lia
     exact O.refl _
   |false =>
    rw[if_neg (by simp)]
    refine Yq (je L h0 R (by lia) (by lia) ?_)
    dsimp only;cases kX:c (el b (lo+n' - 1)) (el b (lo+n'))with
    |true =>
     rw[if_pos rfl];exact Yx ⟨b,n',lD,rfl,rfl,by lia,by lia,R,N,hq,he⟩
    |false =>
     rw[if_neg (by simp)]
     refine Yx ⟨b,n'+1,lD+1,rfl,rfl,rfl,R,N.snoc O (by lia) kX,by lia,?_⟩
     have hl:∀u,lo+n' - 1-lD<=u->u<lo+(n'+1)->le c (el b u) (el b (lo+n'))/\le c (el b (lo+n')) (el b u):=λu h1 h2=>by
      by_cases hu:u<lo+n'
      ·exact⟨O.trans (he u (lo+n' - 1) h1 hu (by lia) (by lia)) pz,O.trans kX (he (lo+n' - 1) u (by lia) (by lia) h1 hu)⟩
      ·obtain rfl:u=lo+n':=by lia
       exact⟨O.refl _,O.refl _⟩
     intro u v h1 h2 h3 h4;exact O.trans (hl u (by lia) h2).1 (hl v (by lia) h4).2
  ·rintro r aC ⟨b,n',lD,rfl,rfl,hx,R,N,hq,he⟩;exact⟨b,n',lD,rfl,rfl,by lia,by lia,R,N,hq,he⟩
  ·refine⟨_,n+1,0,rfl,rfl,rfl,R0,N0,by lia,?_⟩
   intro u v h1 h2 h3 h4;obtain rfl:u=v:=by lia
   exact O.refl _
  rintro r aC ⟨b,n',lD,rfl,rfl,Wg,Wf,RB,NB,hq,he⟩;dsimp only
  by_cases CN:lD>0
  ·rw[if_pos CN];refine Yq (i_ ?_);have hz:lo+n'<=b.size:=by have:=RB.size;have:=h0.size;lia
   have NB:=kK (c:=c) (i:=lo+n' - (lD+1)) (by lia) hz NB λu v h1 h2 h3 h4=>he u v (by lia) h2 (by lia) h4
   have RB:=RB.trans ((fE (i:=lo+n' - (lD+1)) hz).mono (by lia) (by lia:lo+n'<=lo+fC))
   show wpS _ _ _ _ _ Q (Zx st (mirror b (lo+n' - (lD+1)) (lo+n') ((lo+n' - (lo+n' - (lD+1))) / 2)));generalize mirror b (lo+n' - (lD+1)) (lo+n') ((lo+n' - (lo+n' - (lD+1))) / 2)=b1 at NB RB;refine Yq (i_ ?_);have R2:Rg (YX st) (mirror b1 lo (lo+n') ((lo+n' - lo) / 2)) lo (lo+fC):=RB.trans ((fE (by have:=RB.size;have:=h0.size;lia)).mono (Yh _) (by lia))
   have S2:SR c (mirror b1 lo (lo+n') ((lo+n' - lo) / 2)) lo (lo+n'):=qi (by have:=RB.size;have:=h0.size;lia) NB
   show wpS _ _ _ _ _ Q (Zx st (mirror b1 lo (lo+n') ((lo+n' - lo) / 2)));generalize mirror b1 lo (lo+n') ((lo+n' - lo) / 2)=b2 at R2 S2;refine Yq (Z1 (Zl (I:=λx r aC=>aC=Zx st b2/\∃m,r=(none,m)/\m=x/\SR c b2 lo (lo+m))
    (Q:=λr aC=>aC=Zx st b2/\∃m,r=(none,m)/\1<=m/\m<=fC/\SR c b2 lo (lo+m)) ?_ ?_ ?_) ?_)
   ·rintro x r aC MO hx ⟨rfl,m,rfl,rfl,hs⟩;dsimp only;refine Yq (je L h0 R2 (by lia) (by lia) ?_)
    dsimp only;cases hc:c (el b2 (lo+m)) (el b2 (lo+m-1))with
    |true =>
     rw[if_pos rfl];exact Yx ⟨rfl,m,rfl,by lia,by lia,hs⟩
    |false =>
     rw[if_neg (by simp)]
     exact Yx ⟨rfl,m+1,rfl,rfl,hs.snoc O (by lia) hc⟩
   ·rintro r aC ⟨rfl,m,rfl,hx,hs⟩;exact⟨rfl,m,rfl,by lia,by lia,hs⟩
   ·exact⟨rfl,n',rfl,rfl,S2⟩
   rintro r aC ⟨rfl,m,rfl,Py,NZ,hs⟩;exact Yx (h m b2 Py NZ R2 hs)
  ·rw[if_neg CN];refine Yq (i_ ?_);have R2:Rg (YX st) (mirror b lo (lo+n') ((lo+n' - lo) / 2)) lo (lo+fC):=RB.trans ((fE (by have:=RB.size;have:=h0.size;lia)).mono (Yh _) (by lia))
   have S2:SR c (mirror b lo (lo+n') ((lo+n' - lo) / 2)) lo (lo+n'):=qi (by have:=RB.size;have:=h0.size;lia) NB
   show wpS _ _ _ _ _ Q (Zx st (mirror b lo (lo+n') ((lo+n' - lo) / 2)));generalize mirror b lo (lo+n') ((lo+n' - lo) / 2)=b2 at R2 S2;refine Yq (Z1 (Zl (I:=λx r aC=>aC=Zx st b2/\∃m,r=(none,m)/\m=x/\SR c b2 lo (lo+m))
    (Q:=λr aC=>aC=Zx st b2/\∃m,r=(none,m)/\1<=m/\m<=fC/\SR c b2 lo (lo+m)) ?_ ?_ ?_) ?_)
   ·rintro x r aC MO hx ⟨rfl,m,rfl,rfl,hs⟩;dsimp only;refine Yq (je L h0 R2 (by lia) (by lia) ?_)
    dsimp only;cases hc:c (el b2 (lo+m)) (el b2 (lo+m-1))with
    |true =>
     rw[if_pos rfl];exact Yx ⟨rfl,m,rfl,by lia,by lia,hs⟩
    |false =>
     rw[if_neg (by simp)]
     exact Yx ⟨rfl,m+1,rfl,rfl,hs.snoc O (by lia) hc⟩
   ·rintro r aC ⟨rfl,m,rfl,hx,hs⟩;exact⟨rfl,m,rfl,by lia,by lia,hs⟩
   ·exact⟨rfl,n',rfl,rfl,S2⟩
   rintro r aC ⟨rfl,m,rfl,Py,NZ,hs⟩;exact Yx (h m b2 Py NZ R2 hs)
end
section
variable {c:Yl->Yl->Bool}{a:Array Yl}
theorem k8 {src d:Nat}(hs:src<a.size)(hd:d<=src)(k:Nat):el (bubble a src d) k=if k=src-d then el a src else if src-d<k/\k<=src then el a (k-1) else el a k:=by
 have e:=getElem?_bubble hs d hd k
 by_cases h1:k=src-d
 ·rw[if_pos h1]at e ⊢
  exact eG e
 ·rw[if_neg h1]at e ⊢
  by_cases h2:src-d<k/\k<=src
  ·rw[if_pos h2]at e ⊢
   exact eG e
  ·rw[if_neg h2]at e ⊢
   exact eG e
theorem Ai {lo k l:Nat}(O:cq c)(hk:lo+k<a.size)(hl:l<=k)(h:SR c a lo (lo+k))(h1:∀i,i<l->le c (el a (lo+i)) (el a (lo+k)))(h2:∀i,l<=i->i<k->le c (el a (lo+k)) (el a (lo+i))):
  SR c (bubble a (lo+k) (lo+k-(lo+l))) lo (lo+(k+1)):=λi j g1 g2 g3=>by
 rw[k8 hk (by lia),k8 hk (by lia),show lo+k-(lo+k-(lo+l))=lo+l by lia]
 have q1:∀i,lo<=i->i<lo+l->le c (el a i) (el a (lo+k)):=λi x y=>by
  have:=h1 (i-lo) (by lia)
  rwa [show lo+(i-lo)=i by lia]at this
 have q2:∀i,lo+l<=i->i<lo+k->le c (el a (lo+k)) (el a i):=λi x y=>by
  have:=h2 (i-lo) (by lia) (by lia)
  rwa [show lo+(i-lo)=i by lia]at this
 by_cases ei:i=lo+l
 ·rw[if_pos ei]
  by_cases ej:j=lo+l
  ·rw[if_pos ej];exact O.refl _
  ·rw[if_neg ej,if_pos (by lia)]
   exact q2 _ (by lia) (by lia)
 ·rw[if_neg ei]
  by_cases ej:j=lo+l
  ·rw[if_pos ej,if_neg (by lia)]
   exact q1 _ (by lia) (by lia)
  ·rw[if_neg ej]
   by_cases fi:lo+l<i/\i<=lo+k
   ·rw[if_pos fi,if_pos (by lia)]
    exact h _ _ (by lia) (by lia) (by lia)
   ·rw[if_neg fi]
    by_cases fj:lo+l<j/\j<=lo+k
    ·rw[if_pos fj];exact h _ _ (by lia) (by lia) (by lia)
    ·rw[if_neg fj];exact h _ _ (by lia) (by lia) (by lia)
theorem Aj {src d:Nat}(hs:src<a.size)(hd:d<=src):Rg a (bubble a src d) (src-d) (src+1):=⟨bubble_perm _ _ _,λk h=>by
 rw[k8 hs hd,if_neg (by lia),if_neg (by lia)]⟩
end
section
variable {prog:Yk}{w:YB}{A:Zc}{E:Yc->Yg->Prop}{s:Yg}{κ:aaN}{c:Yl->Yl->Bool}{a₀:Array Yl}
theorem HG (O:cq c)(L:gi prog w A E s κ c (·∈a₀.toList)){st:YS}{lo n ok:Nat}{Q:Bool->YS->Prop}(h0:lh κ a₀ st)(bV:ok<=n)(h1:1<=n)(hn:lo+n<=a₀.size)(hs:SR c (YX st) lo (lo+ok))
  (h:∀b,Rg (YX st) b lo (lo+n)->SR c b lo (lo+n)->Q true (Zx st b)):wpS (model prog w) A E s (binarySort' lo n ok) Q st:=by
 rw[binarySort'_eq];refine Yq (Z1 (Zl (I:=λk r aC=>r=(none,())/\k<=n/\∃b,aC=Zx st b/\Rg (YX st) b lo (lo+n)/\SR c b lo (lo+k))
  (Q:=λr aC=>r=(none,())/\∃b,aC=Zx st b/\Rg (YX st) b lo (lo+n)/\SR c b lo (lo+n)) ?_ ?_ ?_) ?_)
 ·rintro k r aC K5 hk ⟨rfl,_,b,rfl,R,wy⟩;dsimp only;have hz:b.size=a₀.size:=R.size.trans h0.size;refine Yq (Z1 (Zl (I:=λx r aC=>aC=Zx st b/\∃l u,r=(none,l,u)/\l<=u/\u<=k/\u-l<=k-x/\(∀i,i<l->le c (el b (lo+i)) (el b (lo+k)))/\(∀i,u<=i->i<k->le c (el b (lo+k)) (el b (lo+i))))
   (Q:=λr aC=>aC=Zx st b/\∃l,r=(none,l,l)/\l<=k/\(∀i,i<l->le c (el b (lo+i)) (el b (lo+k)))/\(∀i,l<=i->i<k->le c (el b (lo+k)) (el b (lo+i)))) ?_ ?_ ?_) ?_)
  ·rintro x r aC _ hx ⟨rfl,l,u,rfl,g1,g2,g3,g4,g5⟩;dsimp only
   by_cases Uk:l >= u
   ·rw[if_pos Uk];obtain rfl:l=u:=by lia
    exact Yx ⟨rfl,l,rfl,g2,g4,g5⟩
   ·rw[if_neg Uk];refine Yq (je L h0 R (by lia) (by lia) ?_)
    dsimp only;cases hc:c (el b (lo+k)) (el b (lo+(l+u) / 2))with
    |true =>
     rw[if_pos rfl];exact Yx ⟨rfl,l,_,rfl,by lia,by lia,by lia,g4,λi h1 h2=>O.trans (O.of_lt hc) (wy _ _ (by lia) (by lia) (by lia))⟩
    |false =>
     rw[if_neg (by simp)]
     exact Yx ⟨rfl,_,u,rfl,by lia,by lia,by lia,λi h1=>O.trans (wy _ _ (by lia) (by lia) (by lia)) (show le c (el b (lo+(l+u) / 2)) (el b (lo+k)) from hc),g5⟩
  ·rintro r aC ⟨rfl,l,u,rfl,g1,g2,g3,g4,g5⟩;obtain rfl:l=u:=by lia
   exact⟨rfl,l,rfl,g2,g4,g5⟩
  ·exact⟨rfl,0,k,rfl,Yz _,Yh _,by lia,λi hi=>by lia,λi h1 h2=>by lia⟩
  rintro r aC ⟨rfl,l,rfl,g2,g4,g5⟩;dsimp only;rw[moveDown'_eq];refine Yq (aau (Yx ⟨rfl,by lia,_,rfl,R.trans ((Aj (a:=b) (by lia) (by lia)).mono (by lia) (by lia)),Ai (a:=b) O (by lia) g2 wy g4 g5⟩))
 ·rintro r aC ⟨rfl,hx,b,rfl,R,wy⟩;rw[show max (max ok 1) n=n by lia]at wy
  exact⟨rfl,b,rfl,R,wy⟩
 ·refine⟨rfl,by lia,YX st,rfl,Rg.refl,?_⟩
  by_cases h2:ok=0
  ·subst h2;exact SR.one O
  ·rw[show max ok 1=ok by lia]
   exact hs
 ·rintro r aC ⟨rfl,b,rfl,R,wy⟩;exact Yx (h b R wy)
theorem uE (base:Nat):∀(l:List Yl) (off:Nat) (a:Array Yl),base+off+l.length<=a.size->∀k:Nat,
  ((l.zipIdx off).foldl (λx (z:Yl×Nat)=>x.setIfInBounds (base+z.2) z.1) a)[k]?=if base+off<=k/\k<base+off+l.length then l[k-(base+off)]? else a[k]?
 |[],off,a,_,k=>by
  rw[if_neg (by rw[ZI];lia)]
  rfl
 |x::l,off,a,h,k=>by
  rw[Yw]at h;rw[List.zipIdx_cons,aaU,uE base l (off+1) _ (by rw[abJ];lia)]
  by_cases h1:base+(off+1)<=k/\k<base+(off+1)+l.length
  ·rw[if_pos h1,if_pos (by rw[Yw];lia),show k-(base+off)=k-(base+(off+1))+1 by lia,aa0]
  ·rw[if_neg h1,Array.getElem?_setIfInBounds]
   by_cases h2:base+off=k
   ·subst h2;rw[if_pos rfl,if_pos (by lia),if_pos (by rw[Yw];lia),aaG]
    rfl
   ·rw[if_neg h2,if_neg (by rw[Yw];lia)]
def DX (a:Array Yl)(base:Nat)(l:List Yl):Array Yl:=l.zipIdx.foldl (λx (z:Yl×Nat)=>x.setIfInBounds (base+z.2) z.1) a
theorem qX {a:Array Yl}{base:Nat}{l:List Yl}(h:base+l.length<=a.size)(k:Nat):(DX a base l)[k]?=if base<=k/\k<base+l.length then l[k-base]? else a[k]?:=uE base l 0 a h k
theorem AF {a:Array Yl}{base:Nat}{l:List Yl}(h:base+l.length<=a.size):(DX a base l).toList=a.toList.take base++(l++a.toList.drop (base+l.length)):=by
 apply aae;intro k;rw[YD,qX h];have hz:a.toList.length=a.size:=Yp
 by_cases h1:base<=k/\k<base+l.length
 ·rw[if_pos h1,Zd (by rw[YQ];lia),YQ,ZO (by lia)]
  congr 1
  lia
 ·rw[if_neg h1]
  by_cases h2:k<base
  ·rw[ZO (by rw[YQ];lia),aaQ h2,YD]
  ·rw[Zd (by rw[YQ];lia),YQ,Zd (by lia),abq,YD]
   congr 1
   lia
theorem Ic (a:Array Yl)(base m:Nat):a.toList=a.toList.take base++((a.toList.drop base).take m++a.toList.drop (base+m)):=by
 have h1:=(Zm base a.toList).symm;have h2:=(Zm m (a.toList.drop base)).symm;rw[List.drop_drop]at h2;rw[<- h2];exact h1
theorem HB {a:Array Yl}{base:Nat}{l:List Yl}(h:base+l.length<=a.size)(hp:l.Perm ((a.toList.drop base).take l.length)):Rg a (DX a base l) base (base+l.length) where
 perm:=by
  rw[aaD,AF h];refine List.Perm.trans ?_ (List.Perm.of_eq (Ic a base l.length).symm);exact List.Perm.append_left _ (hp.append_right _)
 out:=λk hk=>eG (by rw[qX h,if_neg (by lia)])
end
section
variable {prog:Yk}{w:YB}{A:Zc}{E:Yc->Yg->Prop}{s:Yg}{κ:aaN}{c:Yl->Yl->Bool}{a₀:Array Yl}
theorem Ea {σ:Type}{M:Model}{Q:PUnit->σ->Prop}{st aC:σ}(h:Q ⟨⟩ aC):wpS M A E s (set aC:StateT σ Sem PUnit) Q st:=by
 unfold wpS;rw[StateT.run_set];exact Ym ⟨rfl,h⟩
theorem wI {a:Array Yl}{lo hi i:Nat}(h:i<hi-lo)(hh:hi<=a.size):el (a.extract lo hi) i=el a (lo+i) :=
 eG (by rw[Array.getElem?_extract,if_pos (by lia)])
theorem ot {a:Array Yl}{lo hi:Nat}(hh:hi<=a.size):(a.extract lo hi).size=hi-lo:=by
 rw[Array.size_extract];lia
theorem xT {a:Array Yl}{lo hi:Nat}(hh:hi<=a.size){z:Yl}(h:z∈(a.extract lo hi).toList):∃u,lo<=u/\u<hi/\z=el a u:=by
 obtain⟨i,gx⟩:=List.getElem?_of_mem h;rw[YD]at gx;have dt:i<(a.extract lo hi).size:=by
  rcases ZK i (a.extract lo hi).size with q|q
  ·exact q
  ·rw[Zu q]at gx;cases gx
 rw[ot hh]at dt;exact⟨lo+i,by lia,by lia,by rw[<- wI dt hh,yr gx]⟩
theorem vC (O:cq c)(L:gi prog w A E s κ c (·∈a₀.toList)){st:YS}{i sa na pw sb nb QM:Nat}{Q:Bool->YS->Prop}(h0:lh κ a₀ st)(p1:(YH st)[i]?=some (sa,na,pw))(p2:(YH st)[i+1]?=some (sb,nb,QM))
  (wy:sb=sa+na) (XO:1<=na) (XN:1<=nb) (hz:sb+nb<=a₀.size) (s1:SR c (YX st) sa sb) (s2:SR c (YX st) sb (sb+nb))
  (h:∀aC,kindOf aC=κ->aa3 aC=none->YH aC=((YH st).setIfInBounds i (sa,na+nb,pw)).eraseIdxIfInBounds (i+1)->Rg (YX st) (YX aC) sa (sb+nb)->SR c (YX aC) sa (sb+nb)->Q true aC) :
  wpS (model prog w) A E s (mergeAt' i) Q st:=by
 rw[ug];refine Yq (abu ?_);rw[p1,p2];dsimp only;refine Yq (Ea ?_);have hsz:=h0.size;have hm:∀{j},j<a₀.size->el (YX st) j∈a₀.toList:=λhj=>h0.mem hj;generalize ha:YX st=a at *
 have yT:kindOf (aa9 st (((YH st).setIfInBounds i (sa,na+nb,pw)).eraseIdxIfInBounds (i+1)))=κ:=h0.kind;have H9:aa3 (aa9 st (((YH st).setIfInBounds i (sa,na+nb,pw)).eraseIdxIfInBounds (i+1)))=none:=h0.fail;have H_:YX (aa9 st (((YH st).setIfInBounds i (sa,na+nb,pw)).eraseIdxIfInBounds (i+1)))=a:=ha;have LI:YH (aa9 st (((YH st).setIfInBounds i (sa,na+nb,pw)).eraseIdxIfInBounds (i+1)))=((YH st).setIfInBounds i (sa,na+nb,pw)).eraseIdxIfInBounds (i+1):=rfl;generalize hP:((YH st).setIfInBounds i (sa,na+nb,pw)).eraseIdxIfInBounds (i+1)=P at *
 generalize aa9 st P=LJ at *
 refine Yq (aQ (by lia) ?_)
 refine Yq (d4 O L yT (hm (by lia)) (λx hx=>hm (by lia)) (by lia) (λx y h1 h2 h3=>s1 x y h1 h2 (by lia)) (by lia) λk k1 k2 k3=>?_)
 dsimp only;have g0:∀x,sa<=x->x<sa+k->le c (el a x) (el a sb):=λx h1 h2=>by
  have:=k2 (x-sa) (by lia)
  unfold eM at this;rw[if_neg (by simp),abB,show sa+(x-sa)=x by lia]at this
  exact this
 by_cases e1:(na-k==0)=true
 ·rw[if_pos e1];have e1:na-k=0:=by simpa using e1
  refine Yx (h LJ yT H9 LI (by rw[H_];exact Rg.refl) ?_)
  rw[H_];intro x y h1 h2 h3
  by_cases hx:x<sb
  ·by_cases hy:y<sb
   ·exact s1 x y h1 h2 hy
   ·exact O.trans (g0 x h1 (by lia)) (s2 sb y (Yh _) (by lia) h3)
  ·exact s2 x y (by lia) h2 h3
 rw[if_neg e1];have e1:na-k≠0:=by simpa using e1
 have g1:c (el a sb) (el a (sa+k))=true:=by
  have:=k3 k (Yh _) (by lia)
  unfold eM at this;rw[if_neg (by simp),Bool.not_eq_false']at this
  exact this
 refine Yq (aQ (by lia) ?_)
 refine Yq (d4 O L yT (hm (by lia)) (λx hx=>hm (by lia)) (by lia) (λx y h1 h2 h3=>s2 x y h1 h2 (by lia)) (by lia) λm m1 m2 m3=>?_)
 dsimp only;rw[show sa+k+(na-k)-1=sb-1 by lia]at m2 m3
 have g2:∀x,sb<=x->x<sb+m->c (el a x) (el a (sb-1))=true:=λx h1 h2=>by
  have:=m2 (x-sb) (by lia)
  unfold eM at this;rw[if_pos rfl,show sb+(x-sb)=x by lia]at this
  exact this
 have g3:∀x,sb+m<=x->x<sb+nb->le c (el a (sb-1)) (el a x):=λx h1 h2=>by
  have:=m3 (x-sb) (by lia) (by lia)
  unfold eM at this;rw[if_pos rfl,show sb+(x-sb)=x by lia]at this
  exact this
 by_cases e2:(m==0)=true
 ·exfalso
  have e2:m=0:=by simpa using e2
  have:=O.trans (s1 (sa+k) (sb-1) (by lia) (by lia) (by lia)) (g3 sb (by lia) (by lia))
  exact absurd (g1.symm.trans this) (by simp)
 rw[if_neg e2];have e2:m≠0:=by simpa using e2
 have zx:(a.extract (sa+k) sb).size=sb-(sa+k):=ot (by lia)
 have zy:(a.extract sb (sb+m)).size=m:=by rw[ot (by lia)];lia
 have ex:∀{t},t<sb-(sa+k)->el (a.extract (sa+k) sb) t=el a (sa+k+t):=λht=>wI ht (by lia)
 have ey:∀{t},t<m->el (a.extract sb (sb+m)) t=el a (sb+t):=λht=>wI (by lia) (by lia)
 have fin:∀(out:Array Yl) (gm:YS),ll LJ gm->Gd c (a.extract (sa+k) sb) (a.extract sb (sb+m)) out.toList ->
   wpS (model prog w) A E s (do
    modify λs2=>Zx s2 (out.toList.zipIdx.foldl (λx z=>match z with|(p,j)=>x.setIfInBounds (sa+k+j) p) (YX s2))
    let y <- get
    pure (aa3 y).isNone:StateT YS Sem Bool) Q gm:=by
  rintro out gm e ⟨gp,gs⟩;refine Yq (aau (Yq (abu (Yx ?_))));show Q (aa3 gm).isNone (Zx gm (DX (YX gm) (sa+k) out.toList));rw[e.fail,H9,e.arr,H_];have zo:out.toList.length=sb-(sa+k)+m:=by
   rw[gp.length_eq,YR,Yp,Yp,zx,zy]
  have hb:sa+k+out.toList.length<=a.size:=by lia
  have xy:(a.toList.drop (sa+k)).take out.toList.length=(a.extract (sa+k) sb).toList++(a.extract sb (sb+m)).toList:=by
   rw[cn,cn,zo,show sb+m-sb=m by lia,List.take_add,List.drop_drop,show sa+k+(sb-(sa+k))=sb by lia]
  have R:Rg a (DX a (sa+k) out.toList) (sa+k) (sa+k+out.toList.length):=HB hb (by rw[xy];exact gp)
  refine h _ (e.kind.trans yT) (e.fail.trans H9) (e.pend.trans LI) (R.mono (by lia) (by lia)) ?_
  show SR c (DX a (sa+k) out.toList) sa (sb+nb);have Kb:∀t,sa+k<=t->t<sb+m->∃z,out.toList[t-(sa+k)]?=some z/\el (DX a (sa+k) out.toList) t=z/\((∃u,sa+k<=u/\u<sb/\z=el a u)\/∃u,sb<=u/\u<sb+m/\z=el a u):=by
   intro t h1 h2;have hl:t-(sa+k)<out.toList.length:=by lia
   refine⟨out.toList[t-(sa+k)],Yj hl,yr (by rw[qX hb,if_pos (by lia)];exact Yj hl),?_⟩
   have CO:=gp.mem_iff.mp (ZZ hl);rcases YL.mp CO with q|q
   ·exact .inl (xT (by lia) q)
   ·exact .inr (xT (by lia) q)
  have UG:∀t,t<sa+k->el (DX a (sa+k) out.toList) t=el a t:=λt ht=>R.out t (.inl ht);have PR:∀t,sb+m<=t->el (DX a (sa+k) out.toList) t=el a t:=λt ht=>R.out t (.inr (by lia))
  intro x y h1 h2 h3
  by_cases hx:x<sa+k
  ·rw[UG x hx]
   by_cases hy:y<sa+k
   ·rw[UG y hy];exact s1 x y h1 h2 (by lia)
   ·by_cases MN:y<sb+m
    ·obtain⟨z,_,ez,Ra⟩:=Kb y (by lia) MN
     rw[ez];rcases Ra with⟨u,u1,u2,rfl⟩|⟨u,u1,u2,rfl⟩
     ·exact s1 x u h1 (by lia) u2
     ·exact O.trans (g0 x h1 hx) (s2 sb u (Yh _) u1 (by lia))
    ·rw[PR y (by lia)]
     exact O.trans (g0 x h1 hx) (s2 sb y (Yh _) (by lia) h3)
  ·by_cases V0:x<sb+m
   ·obtain⟨z,iz,ez,Ra⟩:=Kb x (by lia) V0
    rw[ez]
    by_cases MN:y<sb+m
    ·obtain⟨z',VR,SS,_⟩:=Kb y (by lia) MN
     rw[SS]
     by_cases Rf:x=y
     ·subst Rf;rw[ez]at SS;rw[SS];exact O.refl _
     ·obtain⟨q1,q2⟩:=Yr.mp iz;obtain⟨q3,q4⟩:=Yr.mp VR;have:=aaI.mp gs _ _ q1 q3 (by lia)
      rw[q2,q4]at this;exact this
    ·rw[PR y (by lia)]
     rcases Ra with⟨u,u1,u2,rfl⟩|⟨u,u1,u2,rfl⟩
     ·exact O.trans (s1 u (sb-1) (by lia) (by lia) (by lia)) (g3 y (by lia) h3)
     ·exact s2 u y (by lia) (by lia) h3
   ·rw[PR x (by lia),PR y (by lia)]
    exact s2 x y (by lia) h2 h3
 have go:∀(out:Array Yl) (gm:YS),ll LJ gm->Gd c (a.extract (sa+k) sb) (a.extract sb (sb+m)) out.toList->wpS (model prog w) A E s (do
    modify λs2=>Zx s2 (out.toList.zipIdx.foldl (λx z=>match z with|(p,j)=>x.setIfInBounds (sa+k+j) p) (YX s2))
    let y <- get
    pure (aa3 y).isNone:StateT YS Sem Bool) Q gm:=fin
 have Rh:0<(a.extract (sa+k) sb).size:=by lia
 have Ub:0<(a.extract sb (sb+m)).size:=by lia
 have Sx:∀t,t<(a.extract (sa+k) sb).size->el (a.extract (sa+k) sb) t∈a₀.toList:=λt ht=>by rw[ex (by lia)];exact hm (by lia)
 have Sy:∀t,t<(a.extract sb (sb+m)).size->el (a.extract sb (sb+m)) t∈a₀.toList:=λt ht=>by rw[ey (by lia)];exact hm (by lia)
 have Tv:SR c (a.extract (sa+k) sb) 0 (a.extract (sa+k) sb).size:=λx y h1 h2 h3=>by
  rw[ex (by lia),ex (by lia)]
  exact s1 _ _ (by lia) (by lia) (by lia)
 have Tu:SR c (a.extract sb (sb+m)) 0 (a.extract sb (sb+m)).size:=λx y h1 h2 h3=>by
  rw[ey (by lia),ey (by lia)]
  exact s2 _ _ (by lia) (by lia) (by lia)
 have hf:c (el (a.extract sb (sb+m)) 0) (el (a.extract (sa+k) sb) 0)=true:=by
  rw[ex (by lia),ey (by lia)]
  exact g1
 have hl:∀y,y<(a.extract sb (sb+m)).size->c (el (a.extract sb (sb+m)) y) (el (a.extract (sa+k) sb) ((a.extract (sa+k) sb).size-1))=true:=λy hy=>by
  rw[ey (by lia),ex (by lia),show sa+k+((a.extract (sa+k) sb).size-1)=sb-1 by lia]
  exact g2 _ (by lia) (by lia)
 by_cases e3:na-k<=m
 ·rw[if_pos e3];exact Yq (vA O L yT Sx Sy Tv Tu Rh Ub hf hl go)
 ·rw[if_neg e3];exact Yq (vB O L yT Sx Sy Tv Tu Rh Ub hf hl go)
end
section
variable {c:Yl->Yl->Bool}{a b:Array Yl}
def Runs (c:Yl->Yl->Bool)(a:Array Yl):List (Nat×Nat×Nat)->Nat->Nat->Prop
 |[],lo,hi=>lo=hi
 |z::r,lo,hi=>z.1=lo/\1<=z.2.1/\SR c a lo (lo+z.2.1)/\Runs c a r (lo+z.2.1) hi
theorem Runs.app:∀{l r:List (Nat×Nat×Nat)} {lo hi:Nat},Runs c a (l++r) lo hi->∃m,Runs c a l lo m/\Runs c a r m hi
 |[],r,lo,hi,h=>⟨lo,rfl,h⟩
 |z::l,r,lo,hi,⟨h1,h2,h3,h4⟩=>by
  obtain⟨m,g1,g2⟩:=Runs.app h4;exact⟨m,⟨h1,h2,h3,g1⟩,g2⟩
theorem Runs.join:∀{l r:List (Nat×Nat×Nat)} {lo m hi:Nat},Runs c a l lo m->Runs c a r m hi->Runs c a (l++r) lo hi
 |[],r,lo,m,hi,h,g=>by
  obtain rfl:lo=m:=h;exact g
 |z::l,r,lo,m,hi,⟨h1,h2,h3,h4⟩,g=>⟨h1,h2,h3,Runs.join h4 g⟩
theorem Runs.len:∀{l:List (Nat×Nat×Nat)} {lo hi:Nat},Runs c a l lo hi->lo+l.length<=hi
 |[],lo,hi,h=>Nat.le_of_eq h
 |z::l,lo,hi,⟨h1,h2,h3,h4⟩=>by
  have:=Runs.len h4;rw[Yw];lia
theorem Runs.congr:∀{l:List (Nat×Nat×Nat)} {lo hi:Nat},Runs c a l lo hi->(∀k,lo<=k->k<hi->el b k=el a k)->Runs c b l lo hi
 |[],lo,hi,h,_=>h
 |z::l,lo,hi,⟨h1,h2,h3,h4⟩,e=>by
  have hl:=Runs.len h4;exact⟨h1,h2,h3.congr λk g1 g2=>e k g1 (by lia),Runs.congr h4 λk g1 g2=>e k (by lia) g2⟩
theorem Runs.pow:∀{l l':List (Nat×Nat×Nat)} {lo hi:Nat},Runs c a l lo hi->l'.map (λz=>(z.1,z.2.1))=l.map (λz=>(z.1,z.2.1))->Runs c a l' lo hi
 |[],[],_,_,h,_=>h
 |[],z::l',_,_,_,e=>by cases e
 |z::l,[],_,_,_,e=>by cases e
 |z::l,z'::l',lo,hi,⟨h1,h2,h3,h4⟩,e=>by
  rw[YA,YA]at e;injection e with e1 e2
  injection e1 with e3 e4
  exact⟨e3.trans h1,by rw[e4];exact h2,by rw[e4];exact h3,by rw[e4];exact Runs.pow h4 e2⟩
end
section
variable {prog:Yk}{w:YB}{A:Zc}{E:Yc->Yg->Prop}{s:Yg}{κ:aaN}{c:Yl->Yl->Bool}{a₀:Array Yl}
theorem Ie {α:Type}{l:List α}{i:Nat}(h:i+1<l.length):∃l1 x y l2,l=l1++x::y::l2/\l1.length=i:=by
 refine⟨l.take i,l[i],l[i+1],l.drop (i+2),?_,by rw[YQ];lia⟩
 rw[<- Y5 h,<- Y5 (by lia),Zm]
theorem pN (O:cq c)(L:gi prog w A E s κ c (·∈a₀.toList)){st:YS}{i hi:Nat}{Q:Bool->YS->Prop}(h0:lh κ a₀ st)(hr:Runs c (YX st) (YH st).toList 0 hi)(hh:hi<=a₀.size)(FF:i+1<(YH st).size)
  (h:∀aC,lh κ a₀ aC->Rg (YX st) (YX aC) 0 hi->Runs c (YX aC) (YH aC).toList 0 hi->(YH aC).size+1=(YH st).size->Q true aC) :
  wpS (model prog w) A E s (mergeAt' i) Q st:=by
 obtain⟨l1,⟨sa,na,pw⟩,⟨sb,nb,QM⟩,l2,el,hl⟩:=Ie (l:=(YH st).toList) (i:=i) (by rw[Yp];exact FF)
 rw[el]at hr;obtain⟨m,r1,r2⟩:=hr.app;obtain⟨x1,x2,x3,y1,y2,y3,r3⟩:=r2;dsimp only at x1 x2 x3 y1 y2 y3 r3;have hlen:=r3.len;have Ul:=r1.len;have p1:(YH st)[i]?=some (sa,na,pw):=by
  rw[<- YD,el,Zd (by lia),hl,aaG]
  rfl
 have p2:(YH st)[i+1]?=some (sb,nb,QM):=by
  rw[<- YD,el,Zd (by lia),hl,show i+1-i=1 by lia]
  rfl
 subst x1;refine vC O L h0 p1 p2 y1 x2 y2 (by lia) (by rw[y1];exact x3) (by rw[y1];exact y3) λaC k1 k2 k3 R S=>?_
 have ep:(YH aC).toList=l1++(sa,na+nb,pw)::l2:=by
  rw[k3];have hz:i+1<((YH st).setIfInBounds i (sa,na+nb,pw)).size:=by rw[abJ];exact FF
  have e1:(((YH st).setIfInBounds i (sa,na+nb,pw)).eraseIdxIfInBounds (i+1)).toList=((YH st).toList.set i (sa,na+nb,pw)).eraseIdx (i+1):=by
   unfold Array.eraseIdxIfInBounds;rw[dif_pos hz,Array.toList_eraseIdx,Array.toList_setIfInBounds]
  rw[e1,el,<- hl,List.set_append_right _ _ (Yh _),aaG,List.set_cons_zero,List.eraseIdx_append_of_length_le (by lia),show l1.length+1-l1.length=1 by lia]
  rfl
 have out:∀k,(k<sa\/sb+nb<=k)->TS.el (YX aC) k=TS.el (YX st) k:=R.out;refine h aC ⟨k1,k2,R.perm.trans h0.perm⟩ (R.mono (Yz _) (by lia)) ?_ ?_
 ·rw[ep];refine Runs.join (r1.congr λk g1 g2=>out k (.inl (by lia))) ⟨rfl,by show 1<=na+nb;lia,?_,?_⟩
  ·show SR c (YX aC) sa (sa+(na+nb));rw[show sa+(na+nb)=sb+nb by lia]
   exact S
  ·show Runs c (YX aC) l2 (sa+(na+nb)) hi;rw[show sa+(na+nb)=sa+na+nb by lia]
   exact r3.congr λk g1 g2=>out k (.inr (by lia))
 ·have e2:(YH aC).size=l1.length+(l2.length+1):=by rw[<- Yp,ep,YR,Yw]
  have e3:(YH st).size=l1.length+(l2.length+1+1):=by rw[<- Yp,el,YR,Yw,Yw]
  lia
theorem nD:∀(f n r:Nat),1<=n->1<=minRun' f n r
 |0,n,r,h=>by show 1<=n+r;lia
 |f+1,n,r,h=>by
  rw[minRun'_succ]
  split
  ·lia
  ·exact nD f _ _ (by lia)
theorem EF (p:Array (Nat×Nat×Nat))(i w:Nat):(p.modify i λx=>(x.1,x.2.1,w)).toList.map (λz=>(z.1,z.2.1))=p.toList.map (λz=>(z.1,z.2.1)):=by
 apply aae;intro k;rw[Yu,Yu,YD,YD,Array.getElem?_modify]
 split
 ·rw[Option.map_map];rfl
 ·rfl
theorem s_ (O:cq c)(L:gi prog w A E s κ c (·∈a₀.toList)){st:YS}{Q:Unit->YS->Prop}(h0:lh κ a₀ st)(hp:YH st=#[])(h2:2<=a₀.size)
  (h:∀aC,lh κ a₀ aC->SR c (YX aC) 0 a₀.size->Q () aC):wpS (model prog w) A E s sortRuns' Q st:=by
 rw[sortRuns'_eq];refine Yq (abu ?_);dsimp only;rw[h0.size];have Wi:=nD a₀.size a₀.size 0 (by lia)
 generalize minRun' a₀.size a₀.size 0=mr at Wi;refine Yq (Z1 (Zl (I:=λx r aC=>lh κ a₀ aC/\∃lo,r=(none,lo)/\lo<=a₀.size/\(a₀.size<=lo\/x<=lo)/\Runs c (YX aC) (YH aC).toList 0 lo)
  (Q:=λr aC=>lh κ a₀ aC/\r=(none,a₀.size)/\Runs c (YX aC) (YH aC).toList 0 a₀.size) ?_ ?_ ?_) ?_)
 ·rintro x r aC _ hx ⟨hS,lo,rfl,N2,Wl,hr⟩;dsimp only
  by_cases hl:lo >= a₀.size
  ·rw[if_pos hl];obtain rfl:lo=a₀.size:=by lia
   exact Yx ⟨hS,rfl,hr⟩
  rw[if_neg hl];refine Yq (AK O L hS (by lia) (by lia) λn b n1 n2 R Sb=>?_)
  dsimp only;have vv:lh κ a₀ (Zx aC b):=hS.set R;have sj:Runs c (YX (Zx aC b)) (YH (Zx aC b)).toList 0 lo:=Runs.congr (b:=b) hr λk q1 q2=>R.out k (.inl q2);refine(λ(key:∀(N:Nat) (stx:YS),1<=N->lo+N<=a₀.size->Runs c (YX stx) (YH stx).toList 0 lo->lh κ a₀ stx->SR c (YX stx) lo (lo+N)->(?G:Nat->YS->Prop) N stx)=>?main) ?key
  case main =>
   by_cases Ui:n<mr
   ·rw[if_pos Ui];refine Yq (wpS_lift (aaV ⟨rfl,?_⟩));refine Yq (HG O L vv (by lia) (by lia) (by lia) Sb λb' R' W_=>?_)
    rw[if_neg (by simp)]
    have PK:1<=min (a₀.size-lo) mr:=by lia
    have Sw:lo+min (a₀.size-lo) mr<=a₀.size:=by lia
    have sj:Runs c (YX (Zx (Zx aC b) b')) (YH (Zx (Zx aC b) b')).toList 0 lo:=Runs.congr (b:=b') sj λk q1 q2=>R'.out k (.inl q2);have vv:lh κ a₀ (Zx (Zx aC b) b'):=vv.set R';have Ho:SR c (YX (Zx (Zx aC b) b')) lo (lo+(min (a₀.size-lo) mr)):=W_;generalize Zx (Zx aC b) b'=stx at sj vv Ho ⊢
    generalize min (a₀.size-lo) mr=N at PK Sw Ho ⊢
    exact key N stx PK Sw sj vv Ho
   ·rw[if_neg Ui];have Ho:SR c (YX (Zx aC b)) lo (lo+n):=Sb;exact key n _ n1 (by lia) sj vv Ho
  case key =>
   intro N stx PK Sw sj vv Ho;refine Yq (abu ?_);have OT:∀(mP:YS),lh κ a₀ mP->SR c (YX mP) lo (lo+N)->Runs c (YX mP) (YH mP).toList 0 lo->lh κ a₀ (aa9 mP ((YH mP).push (lo,N,0)))/\∃GV,((none,lo+N):Option Unit×Nat)=(none,GV)/\GV<=a₀.size/\(a₀.size<=GV\/x+1<=GV)/\Runs c (YX mP) ((YH mP).push (lo,N,0)).toList 0 GV:=λmP g1 g2 g3 =>
    ⟨⟨g1.kind,g1.fail,g1.perm⟩,_,rfl,by lia,by lia,by rw[Z4];exact g3.join ⟨rfl,PK,g2,rfl⟩⟩
   cases hb:(YH stx).back? with
   |none =>
    dsimp only;exact Yq (aau (Yx (OT stx vv Ho sj)))
   |some z =>
    obtain⟨s1,n1,p1⟩:=z;dsimp only;refine Yq (Z1 (Zl (I:=λx r aC=>r=(none,())/\lh κ a₀ aC/\SR c (YX aC) lo (lo+N)/\Runs c (YX aC) (YH aC).toList 0 lo)
     (Q:=λr aC=>r=(none,())/\lh κ a₀ aC/\SR c (YX aC) lo (lo+N)/\Runs c (YX aC) (YH aC).toList 0 lo) ?_ ?_ ?_) ?_)
    ·rintro y r mP _ _ ⟨rfl,g1,g2,g3⟩;refine Yq (abu ?_)
     by_cases K2:(YH mP).size>1
     ·rw[if_pos K2];cases hq:(YH mP)[(YH mP).size-2]? with
      |none =>
       dsimp only;exact Yx ⟨rfl,g1,g2,g3⟩
      |some z =>
       obtain⟨u,v,TN⟩:=z;dsimp only
       split
       ·exact Yx ⟨rfl,g1,g2,g3⟩
       ·refine Yq (pN O L g1 g3 (by lia) (by lia) λLH f1 f2 f3 f4=>?_)
        exact Yx ⟨rfl,f1,g2.congr λk q1 q2=>f2.out k (.inr q1),f3⟩
     ·rw[if_neg K2];dsimp only;exact Yx ⟨rfl,g1,g2,g3⟩
    ·rintro r mP ⟨rfl,g1,g2,g3⟩;exact⟨rfl,g1,g2,g3⟩
    ·exact⟨rfl,vv,Ho,sj⟩
    rintro r mP ⟨rfl,g1,g2,g3⟩;dsimp only;refine Yq (aau (Yq (aau (Yx ?_))));exact OT (aa9 mP _) ⟨g1.kind,g1.fail,g1.perm⟩ g2 (g3.pow (EF _ _ _))
 ·rintro r aC ⟨hS,lo,rfl,N2,Wl,hr⟩;obtain rfl:lo=a₀.size:=by lia
  exact⟨hS,rfl,hr⟩
 ·exact⟨h0,0,rfl,Yz _,.inr (Yh _),by rw[hp];rfl⟩
 rintro r aC ⟨hS,rfl,hr⟩;dsimp only;refine Yq (Z1 (Zl (I:=λx r aC=>r=(none,())/\lh κ a₀ aC/\Runs c (YX aC) (YH aC).toList 0 a₀.size/\((YH aC).size<=1\/(YH aC).size+x<=a₀.size))
  (Q:=λr aC=>r=(none,())/\lh κ a₀ aC/\Runs c (YX aC) (YH aC).toList 0 a₀.size/\(YH aC).size<=1) ?_ ?_ ?_) ?_)
 ·rintro x r gm _ hx ⟨rfl,vv,sj,hz⟩;refine Yq (abu ?_)
  by_cases h1:(YH gm).size<=1
  ·rw[if_pos h1];exact Yx ⟨rfl,vv,sj,h1⟩
  rw[if_neg h1];refine Yq (pN O L vv sj (Yh _) ?_ λmP WJ R3 V8 XD=>?_)
  ·split
   ·split <;> lia
   ·rw[if_neg (by simp)]
    lia
  ·exact Yx ⟨rfl,WJ,V8,.inr (by lia)⟩
 ·rintro r gm ⟨rfl,vv,sj,hz⟩;exact⟨rfl,vv,sj,by lia⟩
 ·refine⟨rfl,hS,hr,.inr ?_⟩;have:=hr.len;rw[Yp]at this;lia
 ·rintro r gm ⟨rfl,vv,sj,hz⟩;refine Yx (h gm vv ?_)
  match hq:(YH gm).toList,sj with
  |[],e=>
   have:(0:Nat)=a₀.size:=e;lia
  |[z],e =>
   obtain⟨e1,e2,e3,e4⟩:=e;have e4:0+z.2.1=a₀.size:=e4;rw[e4]at e3;exact e3
  |z::y::l,e =>
   have:(YH gm).toList.length<=1:=by rw[Yp];exact hz
   rw[hq]at this;simp at this
end
theorem lex_nil {y:List Int}:HT.lexLt [] y=decide (0<y.length):=by cases y <;> rfl
theorem gO {a b:Int}{x y:List Int}:HT.lexLt (a::x) (b::y)=if a=b then HT.lexLt x y else decide (a<b):=rfl
theorem uj:∀{x y:List Int},HT.lexLt x y=true->HT.lexLt y x=false
 |[],[],_=>rfl
 |[],_::_,_=>rfl
 |_::_,[],h=>by cases h
 |a::x,b::y,h=>by
  rw[gO]at h ⊢
  by_cases e:a=b
  ·rw[if_pos e]at h;rw[if_pos e.symm];exact uj h
  ·rw[if_neg e]at h;rw[if_neg λz=>e z.symm];have:=of_decide_eq_true h;exact decide_eq_false (by lia)
theorem xU:∀{x z:List Int} (y:List Int),HT.lexLt x z=true->HT.lexLt x y=true\/HT.lexLt y z=true
 |[],[],_,h=>by cases h
 |[],_::_,[],h=>.inr rfl
 |[],_::_,_::_,h=>.inl rfl
 |_::_,[],_,h=>by cases h
 |a::x,b::z,[],h=>.inr rfl
 |a::x,b::z,d::y,h=>by
  rw[gO]at h ⊢
  rw[gO]
  by_cases e:a=b
  ·subst e;rw[if_pos rfl]at h
   by_cases e2:a=d
   ·subst e2;rw[if_pos rfl,if_pos rfl];exact xU y h
   ·rw[if_neg e2,if_neg λq=>e2 q.symm]
    by_cases e3:a<d
    ·exact .inl (decide_eq_true e3)
    ·exact .inr (decide_eq_true (by lia))
  ·rw[if_neg e]at h;have h:=of_decide_eq_true h
   by_cases e2:a=d
   ·subst e2;rw[if_neg e];exact .inr (decide_eq_true h)
   ·rw[if_neg e2]
    by_cases e3:a<d
    ·exact .inl (decide_eq_true e3)
    ·rw[if_neg (by lia)]
     exact .inr (decide_eq_true (by lia))
theorem qj:∀{x y:List Int},HT.lexLt x y=false->HT.lexLt y x=false->x=y
 |[],[],_,_=>rfl
 |[],_::_,h,_=>by cases h
 |_::_,[],_,h=>by cases h
 |a::x,b::y,h1,h2=>by
  rw[gO]at h1 h2
  by_cases e:a=b
  ·subst e;rw[if_pos rfl]at h1 h2;rw[qj h1 h2]
  ·rw[if_neg e]at h1;rw[if_neg λq=>e q.symm]at h2;have h1:=of_decide_eq_false h1;have h2:=of_decide_eq_false h2;lia
def byKey (kf:Yc->List Int)(x y:Yl):Bool:=HT.lexLt (kf x.1) (kf y.1)
theorem EN (kf:Yc->List Int):cq (byKey kf):=⟨λ_ _ h=>uj h,λ_ y _ h=>xU (kf y.1) h⟩
section
variable {prog:Yk}{w:YB}{A:Zc}{E:Yc->Yg->Prop}{s:Yg}
theorem ui {b:Bool}{Q:Bool->Yg->Prop}:∀{ns ms:List Int} {us vs:List Yc} (i:Nat),Zg us ns->Zg vs ms->Q (HT.lexLt ns ms) s->PySem.W.KatLex prog w A b (decide (ns.length<ms.length)) Q (us.zip vs) i s
 |[],ms,us,vs,i,hu,hv,q=>by
  cases hu;rw[aar];rw[lex_nil]at q;exact PySem.W.kat_nil q
 |n::ns,[],us,vs,i,hu,hv,q=>by
  cases hv;rw[abo];exact PySem.W.kat_nil q
 |n::ns,m::ms,us,vs,i,hu,hv,q=>by
  cases hu with
  |cons _ t hu =>
   cases hv with
   |cons _ t' hv =>
    rw[Zt];refine PySem.W.kat_cons (wpAny_eqBool_int ?_);rw[gO]at q
    by_cases e:n=m
    ·subst e;rw[if_pos rfl]at q;rw[beq_self_eq_true];have:=ui (b:=b) (Q:=Q) (i+1) hu hv q;rw[show decide ((n::ns).length<(n::ms).length)=decide (ns.length<ms.length) by rw[Yw,Yw];congr 1;simp]
     exact PySem.W.kat_yes this
    ·rw[if_neg e]at q;rw[show (n==m)=false from beq_eq_false_iff_ne.mpr e]
     refine PySem.W.kat_no ?_;cases b&&i==0 with
     |true=>exact oneLt_int q
     |false=>exact PySem.W.kat_one _ _ (lt_int q)
def vh (h:Heap)(kf:Yc->List Int)(a:Addr)(vs:List Yc):Prop :=
 ∀v∈vs,∃t o xs k,v=.ref t/\t≠a/\h.get? t=some o/\o.cls=.type "tuple" /\ o.data=.seq xs k/\Zg xs.toList (kf v)/\kf v≠[]
theorem zD {kf:Yc->List Int}{a:Addr}{vs:List Yc}{b:Bool}{a₀:Array Yl}(T:vh s.heap kf a vs)(hm:∀z∈a₀.toList,z.1∈vs):gi prog w A E s (tuples' b) (byKey kf) (·∈a₀.toList):=by
 intro x y st Q hx hy hk q;obtain⟨t,o,xs,n,e1,_,e2,_,e3,e4,_⟩:=T _ (hm _ hx);obtain⟨t',o',Lp,n',f1,_,f2,_,f3,f4,_⟩:=T _ (hm _ hy);rw[lt'_eq];refine Yq (abu ?_);rw[hk,e1,f1];have z1:xs.size=(kf x.1).length:=by rw[<- Yp];exact e4.length
 have z2:Lp.size=(kf y.1).length:=by rw[<- Yp];exact f4.length
 refine Yq (wpS_lift (abC (PySem.W.kat_lt e2 e3 f2 f3 ?_)));rw[z1,z2];exact ui 0 e4 f4 ⟨rfl,Yx q⟩
theorem mJ {kf:Yc->List Int}{a:Addr}{h:Heap}:∀{vs:List Yc},vh h kf a vs->∃fs:List Yc,PySem.W.KatTups h vs fs/\fs.length=vs.length/\∀f∈fs,∃n t,f=Value.int n t
 |[],_=>⟨[],trivial,rfl,λf hf=>by cases hf⟩
 |v::vs,T=>by
  obtain⟨fs,h1,h2,h3⟩:=mJ (vs:=vs) λu hu=>T u (Yn _ hu);obtain⟨t,o,xs,k,rfl,_,e2,e3,e4,e5,e6⟩:=T v Yo;obtain⟨f,r,ef,n,tk,hn⟩:∃f r,xs.toList=f::r/\∃n tk,f=Value.int n tk:=by
   generalize kf (.ref t)=ks at e5 e6;generalize xs.toList=us at e5;cases e5 with
   |nil=>exact absurd rfl e6
   |cons n tk r=>exact⟨_,_,rfl,_,_,rfl⟩
  have e:xs[0]?=some f:=by rw[<- YD,ef];rfl
  exact⟨f::fs,PySem.W.KatTups.cons e2 e3 e4 e h1,by rw[Yw,Yw,h2],λg hg=>by
   rcases Yi.mp hg with rfl|hg
   ·exact⟨_,_,hn⟩
   ·exact h3 g hg⟩
theorem zJ {kf:Yc->List Int}{a:Addr}{vs:List Yc}{Q:aaN->Yg->Prop}(T:vh s.heap kf a vs)(h0:0<vs.length)(q:Q (tuples' true) s):YM (model prog w) A (keyKind' vs.toArray) Q E s:=by
 obtain⟨fs,h1,h2,h3⟩:=mJ T;refine PySem.W.kat_kind (T:=.type "int") h1 (by lia) (λv hv=>?_) (by decide) q
 obtain⟨n,t,rfl⟩:=h3 v hv;exact .now
theorem A9 {α:Type}{R:α->α->Prop}:∀{l:List α},l.length<2->l.Pairwise R
 |[],_=>.nil
 |[x],_=>abM _ _
 |_::_::_,h=>by
  rw[Yw,Yw]at h;lia
theorem we {a:Addr} {vs:List Yc} {n:Nat} {κ:aaN} {c:Yc->Yc->Bool} {P:PySem.Fin->Yg->Prop} (ho:s.heap.get? a=some (aak "list" vs.toArray n)) (hz:vs.length<=1000000) (O:cq λx y=>c x.1 y.1)
  (T:∀s':Yg,(∀t o,t≠a->s.heap.get? t=some o->s'.heap.get? t=some o)->(2<=vs.length->∀(Q:aaN->Yg->Prop),Q κ s'->YM (model prog w) A (keyKind' vs.toArray) Q E s')/\gi prog w A E s' κ (λx y=>c x.1 y.1) (·∈(vs.toArray.zip vs.toArray).toList))
  (h:∀out:List Yc,out.Perm vs->out.Pairwise (λx y=>c y x=false)->P (.done (.ret .none)) {s with heap:=sortedHeap s.heap a vs out.toArray}) :
  YM (model prog w) A (Z_.«list.sort» ⟨[.ref a],[]⟩) P E s:=by
 have la:a<s.heap.objs.size:=YC ho;obtain⟨ep,hc⟩:∃ep,(s.heap.update a (aax λ_=>#[])).get? a=some (aak "list" #[] ep):=⟨_,get?_update_seq ho (λ_=>#[])⟩;have old:∀t o,t≠a->s.heap.get? t=some o->(((s.heap.update a (aax λ_=>#[])).push (aak "tuple" vs.toArray 0)).push (aak "list" #[] 0)).get? t=some o:=λt o ht e =>
  Yv _ (Yv _ (by rw[Heap.get?_update_ne _ _ _ _ ht];exact e))
 have oP:(((s.heap.update a (aax λ_=>#[])).push (aak "tuple" vs.toArray 0)).push (aak "list" #[] 0)).get? a=some (aak "list" #[] ep):=Yv _ (Yv _ hc);have big:∀m:Nat,m<=vs.length->m<=Yy:=λm hm=>by rw[Zv];lia
 have zz:vs.toArray.size=vs.length:=by simp
 rw[list_sort_plain];refine Yd (listItems_at ho rfl ?_);refine Yd (listUpdate_at ho rfl ?_ (big _ (Nat.le_of_eq zz)) (Yz _));refine Yd (seqEpoch_at hc rfl ?_);refine Yd (wpAny_newTuple ?_ (big _ (Yh _)));refine Yd (wpAny_newList ?_ (Yz _));refine Z0 ?_;show YM (model prog w) A _ P E {s with heap:=((s.heap.update a (aax λ_=>#[])).push (aak "tuple" vs.toArray 0)).push (aak "list" #[] 0)}
 dsimp only;have done:∀aC:YS,(YX aC).Perm (vs.toArray.zip vs.toArray)->(YX aC).toList.Pairwise (le λx y=>c x.1 y.1)->P (.done (.ret .none)) {s with heap:=sortedHeap s.heap a vs ((YX aC).map (·.2))}:=λaC hp hs=>by
  have h1:∀z∈(YX aC).toList,z.1=z.2:=λz hz=>by
   have:=(aaD.mp hp).mem_iff.mp hz;rw[Array.toList_zip]at this;obtain⟨i,hi⟩:=List.getElem?_of_mem this;rw[List.getElem?_zip_eq_some]at hi;exact YU (hi.1.symm.trans hi.2)
  have e2:(YX aC).map (·.2)=((YX aC).toList.map (·.2)).toArray:=by
   apply Array.toList_inj.mp;rw[Array.toList_map]
  rw[e2];refine h _ ?_ ?_
  ·have:=(aaD.mp hp).map (λz:Yl=>z.2);rw[Array.toList_zip]at this;refine this.trans (List.Perm.of_eq ?_);exact List.map_snd_zip (by simp)
  ·rw[ZD];refine hs.imp_of_mem λ{x y} hx hy hl=>?_;rw[<- h1 x hx,<- h1 y hy];exact hl
 by_cases h2:vs.toArray.size<2
 ·rw[if_pos h2,if_pos h2];refine Yd (Ym ?_);rw[StateT.run_pure];refine Yd (Ym ?_);dsimp only;refine Yd (seqEpoch_at oP rfl ?_);refine Yd (listUpdate_at oP rfl ?_ (Yz _) (by rw[Array.size_map,Array.size_zip];exact YI (big _ (by lia)) (Nat.le_succ _)))
  simp only[bne_self_eq_false,aaX,if_false];refine Ym (done (SortSt.mk' general' (vs.toArray.zip vs.toArray) #[] 7 none) (Array.Perm.refl _) ?_);refine A9 ?_;show (vs.toArray.zip vs.toArray).toList.length<2;rw[Yp,Array.size_zip];lia
 ·rw[if_neg h2,if_neg h2];obtain⟨hK,L⟩:=T {s with heap:=((s.heap.update a (aax λ_=>#[])).push (aak "tuple" vs.toArray 0)).push (aak "list" #[] 0)} old
  refine Yd (hK (by lia) _ ?_)
  have zp:(vs.toArray.zip vs.toArray).size=vs.length:=by rw[Array.size_zip];lia
  refine Yd (abl (s_ (Q:=λ_ aC=>(YX aC).Perm (vs.toArray.zip vs.toArray)/\aa3 aC=none/\SR (λx y=>c x.1 y.1) (YX aC) 0 vs.length) O L
   (st:=SortSt.mk' κ (vs.toArray.zip vs.toArray) #[] 7 none) ⟨rfl,rfl,Array.Perm.refl _⟩ rfl (by lia) λaC g1 g2=>⟨g1.perm,g1.fail,by rw[zp]at g2;exact g2⟩) ?_ λ_ _ e=>e)
  rintro⟨⟨⟩,aC⟩ s' ⟨rfl,hp,hf,hs⟩;dsimp only;have zs:(YX aC).size=vs.length:=hp.size_eq.trans zp;refine Yd (seqEpoch_at oP rfl ?_);refine Yd (listUpdate_at oP rfl ?_ (Yz _) (by rw[Array.size_map,zs];exact YI (big _ (Yh _)) (Nat.le_succ _)))
  rw[hf];simp only[bne_self_eq_false,aaX,if_false];refine Ym (done aC hp ?_);rw[aaI];intro i j hi hj aX;rw[Yp]at hi hj;have:=hs i j (Yz _) (by lia) (by lia)
  have ei:el (YX aC) i=(YX aC).toList[i]:=yr (by rw[<- YD];exact Yj _)
  have ej:el (YX aC) j=(YX aC).toList[j]:=yr (by rw[<- YD];exact Yj _)
  rw[ei,ej]at this;exact this
theorem wd {a:Addr} {vs:List Yc} {n:Nat} {kf:Yc->List Int} {P:PySem.Fin->Yg->Prop} (ho:s.heap.get? a=some (aak "list" vs.toArray n)) (hz:vs.length<=1000000) (T:vh s.heap kf a vs)
  (h:∀out:List Yc,out.Perm vs->out.Pairwise (λx y=>HT.lexLt (kf y) (kf x)=false)->P (.done (.ret .none)) {s with heap:=sortedHeap s.heap a vs out.toArray}) :
  YM (model prog w) A (Z_.«list.sort» ⟨[.ref a],[]⟩) P E s:=by
 refine we (κ:=tuples' true) (c:=λx y=>HT.lexLt (kf x) (kf y)) ho hz (EN kf) (λs' kp=>?_) h;have T':vh s'.heap kf a vs:=λv hv=>by
  obtain⟨t,o,xs,k,e1,e2,e3,r⟩:=T v hv;exact⟨t,o,xs,k,e1,e2,kp t o e2 e3,r⟩
 exact⟨λh2 Q q=>zJ T' (by lia) q,zD T' λz hz=>by
  rw[Array.toList_zip]at hz;exact(List.of_mem_zip hz).1⟩
end
end TS
namespace ST
open PySem PyProof.Rows
section
variable {prog:Yk}{w:YB}
abbrev TK (prog:Yk)(w:YB):=tupleKind (abw prog w)
abbrev kH (prog:Yk)(w:YB)(k:List Int):Int:=(TK prog w).hash k
abbrev ent (prog:Yk)(w:YB)(x:Addr×List Int):Int×Yc:=(kH prog w x.2,.ref x.1)
structure Tc (prog:Yk)(w:YB)(o:Obj)(ts:List (Addr×List Int))(es:Array (Int×Yc))(ep:Nat)(t:SetTable):Prop where
 ex:o.ExactSet
 dat:o.data=.set es ep t
 F0:es.toList=ts.map (ent prog w)
 wf:WF t (ts.map λx=>kH prog w x.2)
 Pb:t.place.size*5<t.mask*3
 Jl:t.mask<=8191
 led:t.led=!w.params.followText "set-order"
 IE:t.plain=true
 Pk:(ts.map (·.2)).Nodup
end
end ST
namespace L2
open PySem PySem.Spec PyProof.Rows
inductive D where
 |cX|bl (b:Bool)|int (i:Int)|str (x:Str)|obj (a:Addr)
 |tup (ds:List D)|lst (ds:List D)
 |dT (ks:List (List Key)) (ds:List D)|dK (ks:List Key) (ds:List D)
 |sT (ts:List (List Int))
 /-- one object,by what Qr there -/
 |ob (φ:Addr->HO)
def Ij (P:Yk)(w:YB)(a:Addr)(ts:List (Addr×List Int))(h:Heap):Prop:=∃o es ep t,h.get? a=some o/\ST.Tc P w o ts es ep t
abbrev OP (P:Yk)(w:YB)(a:Addr)(ts:List (Addr×List Int)):HO:=.ext (Ij P w a ts)
def Gp (P:Yk)(w:YB)(H:Hp)(a:Addr)(ts:List (List Int)):Prop :=
 ∃fw:List (Addr×List Int),H a=some (OP P w a fw)/\(∀x∈fw,H x.1=some (.tup (x.2.map V.int)))/\(fw.map (·.2)).Perm ts
section
variable (P:Yk)(w:YB)(W:Addr->Prop)(H:Hp)
mutual
def aB:D->V->Prop
 |.cX,v=>v=.cX
 |.bl b,v=>v=.bl b
 |.int i,v=>v=.int i
 |.str x,v=>v=.str x
 |.obj a,v=>v=.ref a
 |.tup ds,v=>∃a vs,v=.ref a/\H a=some (.tup vs)/\aj ds vs
 |.lst ds,v=>∃a vs,v=.ref a/\H a=some (.lst vs)/\¬ W a/\aj ds vs
 |.dT ks ds,v=>∃a vs,v=.ref a/\H a=some (.dT (ks.zip vs))/\ks.length=vs.length/\¬ W a/\aj ds vs
 |.dK ks ds,v=>∃a vs,v=.ref a/\H a=some (.dK (ks.zip vs))/\ks.length=vs.length/\¬ W a/\aj ds vs
 |.sT ts,v=>∃a,v=.ref a/\Gp P w H a ts/\¬ W a
 |.ob φ,v=>∃a,v=.ref a/\(H a=some (φ a)/\∀xs,φ a≠.tup xs)/\¬ W a
def aj:List D->List V->Prop
 |[],vs=>vs=[]
 |d::ds,vs=>∃v r,vs=v::r/\aB d v/\aj ds r
end
end
mutual
def D.flat:D->Bool
 |.tup ds=>D.cR ds
 |.lst _=>false
 |.dT _ _=>false
 |.dK _ _=>false
 |.sT _=>false
 |.ob _=>false
 |_=>true
def D.cR:List D->Bool
 |[]=>true
 |d::ds=>D.flat d&&D.cR ds
end
structure Kp (W:Addr->Prop)(H H':Hp):Prop where
 out:∀b o,H b=some o->¬ W b->H' b=some o
 tup:∀b xs,H b=some (.tup xs)->H' b=some (.tup xs)
theorem Kp.refl {W:Addr->Prop}{H:Hp}:Kp W H H:=⟨λ_ _ e _=>e,λ_ _ e=>e⟩
theorem Kp.trans {W:Addr->Prop}{H H1 H2:Hp}(a:Kp W H H1)(b:Kp W H1 H2):Kp W H H2:=⟨λc o e n=>b.out c o (a.out c o e n) n,λc xs e=>b.tup c xs (a.tup c xs e)⟩
theorem ay.kp {W:Addr->Prop}{H H':Hp}(h:ay H H'):Kp W H H':=⟨λb o e _=>h b o e,λb xs e=>h b _ e⟩
theorem Kp.mono {W W':Addr->Prop}{H H':Hp}(h:Kp W H H')(s:∀a,W a->W' a):Kp W' H H':=⟨λb o e n=>h.out b o e λz=>n (s b z),h.tup⟩
section
variable {P:Yk}{w:YB}{W W':Addr->Prop}{H H':Hp}
mutual
theorem aB.keep (k:Kp W H H'):∀{d:D} {v:V},aB P w W H d v->aB P w W H' d v
 |.cX,_,h=>h
 |.bl _,_,h=>h
 |.int _,_,h=>h
 |.str _,_,h=>h
 |.obj _,_,h=>h
 |.tup ds,_,⟨a,vs,e,t,r⟩=>⟨a,vs,e,k.tup a vs t,aj.keep k r⟩
 |.lst ds,_,⟨a,vs,e,t,n,r⟩=>⟨a,vs,e,k.out a _ t n,n,aj.keep k r⟩
 |.dT ks ds,_,⟨a,vs,e,t,l,n,r⟩=>⟨a,vs,e,k.out a _ t n,l,n,aj.keep k r⟩
 |.dK ks ds,_,⟨a,vs,e,t,l,n,r⟩=>⟨a,vs,e,k.out a _ t n,l,n,aj.keep k r⟩
 |.sT ts,_,⟨a,e,⟨fw,t,r,z⟩,n⟩=>⟨a,e,⟨fw,k.out a _ t n,λx hx=>k.tup _ _ (r x hx),z⟩,n⟩
 |.ob φ,_,⟨a,e,⟨t,z⟩,n⟩=>⟨a,e,⟨k.out a _ t n,z⟩,n⟩
theorem aj.keep (k:Kp W H H'):∀{ds:List D} {vs:List V},aj P w W H ds vs->aj P w W H' ds vs
 |[],_,h=>h
 |d::ds,_,⟨v,r,e,h1,h2⟩=>⟨v,r,e,aB.keep k h1,aj.keep k h2⟩
end
mutual
theorem aB.aY (s:∀a,W' a->W a):∀{d:D} {v:V},aB P w W H d v->aB P w W' H d v
 |.cX,_,h=>h
 |.bl _,_,h=>h
 |.int _,_,h=>h
 |.str _,_,h=>h
 |.obj _,_,h=>h
 |.tup ds,_,⟨a,vs,e,t,r⟩=>⟨a,vs,e,t,aj.aY s r⟩
 |.lst ds,_,⟨a,vs,e,t,n,r⟩=>⟨a,vs,e,t,λz=>n (s a z),aj.aY s r⟩
 |.dT ks ds,_,⟨a,vs,e,t,l,n,r⟩=>⟨a,vs,e,t,l,λz=>n (s a z),aj.aY s r⟩
 |.dK ks ds,_,⟨a,vs,e,t,l,n,r⟩=>⟨a,vs,e,t,l,λz=>n (s a z),aj.aY s r⟩
 |.sT ts,_,⟨a,e,t,n⟩=>⟨a,e,t,λz=>n (s a z)⟩
 |.ob φ,_,⟨a,e,t,n⟩=>⟨a,e,t,λz=>n (s a z)⟩
theorem aj.aY (s:∀a,W' a->W a):∀{ds:List D} {vs:List V},aj P w W H ds vs->aj P w W' H ds vs
 |[],_,h=>h
 |d::ds,_,⟨v,r,e,h1,h2⟩=>⟨v,r,e,aB.aY s h1,aj.aY s h2⟩
end
mutual
theorem aB.flat:∀{d:D} {v:V},d.flat=true->aB P w W H d v->aB P w W' H d v
 |.cX,_,_,h=>h
 |.bl _,_,_,h=>h
 |.int _,_,_,h=>h
 |.str _,_,_,h=>h
 |.obj _,_,_,h=>h
 |.tup ds,_,f,⟨a,vs,e,t,r⟩=>⟨a,vs,e,t,aj.flat (by simpa[D.flat] using f) r⟩
 |.lst ds,_,f,_=>by simp[D.flat]at f
 |.dT ks ds,_,f,_=>by simp[D.flat]at f
 |.dK ks ds,_,f,_=>by simp[D.flat]at f
 |.sT ts,_,f,_=>by simp[D.flat]at f
 |.ob φ,_,f,_=>by simp[D.flat]at f
theorem aj.flat:∀{ds:List D} {vs:List V},D.cR ds=true->aj P w W H ds vs->aj P w W' H ds vs
 |[],_,_,h=>h
 |d::ds,_,f,⟨v,r,e,h1,h2⟩=>by
  have f':(d.flat&&D.cR ds)=true:=f;rw[Zi]at f';exact⟨v,r,e,aB.flat f'.1 h1,aj.flat f'.2 h2⟩
end
theorem aB.same (s:ay H H'){d:D}{v:V}(h:aB P w W H d v):aB P w W H' d v:=h.keep s.kp
theorem aj.same (s:ay H H'){ds:List D}{vs:List V}(h:aj P w W H ds vs):aj P w W H' ds vs:=h.keep s.kp
theorem aj.length:∀{ds:List D} {vs:List V},aj P w W H ds vs->vs.length=ds.length
 |[],_,h=>by rw[show _=[] from h];rfl
 |d::ds,_,⟨v,r,e,h1,h2⟩=>by rw[e,Yw,Yw,aj.length h2]
theorem aj.get:∀{ds:List D} {vs:List V} {i:Nat} {d:D},aj P w W H ds vs->ds[i]?=some d->∃v,vs[i]?=some v/\aB P w W H d v
 |[],_,_,_,_,e=>by simp at e
 |d::ds,_,0,_,⟨v,r,e,h1,h2⟩,e'=>by simp at e';subst e' e;exact⟨v,by simp,h1⟩
 |d::ds,_,i+1,_,⟨v,r,e,h1,h2⟩,e'=>by
  subst e;obtain⟨u,e1,e2⟩:=aj.get (i:=i) h2 (by simpa using e')
  exact⟨u,by simpa using e1,e2⟩
theorem aj.append:∀{ds ds':List D} {vs vs':List V},aj P w W H ds vs->aj P w W H ds' vs'->aj P w W H (ds++ds') (vs++vs')
 |[],_,_,_,h,h'=>by rw[show _=[] from h];exact h'
 |d::ds,_,_,_,⟨v,r,e,h1,h2⟩,h'=>by subst e;exact⟨v,_,rfl,h1,aj.append h2 h'⟩
theorem aj.take:∀{ds:List D} {vs:List V} (n:Nat),aj P w W H ds vs->aj P w W H (ds.take n) (vs.take n)
 |[],_,n,h=>by rw[show _=[] from h];simp[aj]
 |d::ds,_,0,_=>by simp[aj]
 |d::ds,_,n+1,⟨v,r,e,h1,h2⟩=>by subst e;exact⟨v,_,rfl,h1,aj.take n h2⟩
theorem aj.drop:∀{ds:List D} {vs:List V} (n:Nat),aj P w W H ds vs->aj P w W H (ds.drop n) (vs.drop n)
 |[],_,n,h=>by rw[show _=[] from h];simp[aj]
 |d::ds,_,0,h=>h
 |d::ds,_,n+1,⟨v,r,e,h1,h2⟩=>by subst e;exact aj.drop n h2
end
open PySem.SeqAt
abbrev Dm (W:Addr->Prop)(H:Hp):Prop:=∀a,W a->H a≠none
theorem Dm.same {W:Addr->Prop}{H H':Hp}(d:Dm W H)(s:ay H H'):Dm W H':=λa h e=>d a h (s.free e)
abbrev Rp (X:Cx)(W:Addr->Prop)(H:Hp)(d:D)(v:V):Prop:=aB X.prog X.w W H d v
abbrev lM (X:Cx)(W:Addr->Prop)(H:Hp)(ds:List D)(vs:List V):Prop:=aj X.prog X.w W H ds vs
def TC (X:Cx)(f:D->Option D):V->Hp->VK->Prop:=λx H Q=>∃W d1 d,Dm W H/\Rp X W H d1 x/\f d1=some d/\∀v H',ay H H'->Rp X W H' d v->Q v H'
def TB (X:Cx)(f:D->D->Option D):R2:=λx y H Q=>∃W d1 d2 d,Dm W H/\Rp X W H d1 x/\Rp X W H d2 y/\f d1 d2=some d/\∀v H',ay H H'->Rp X W H' d v->Q v H'
def Vm (X:Cx)(f:List D->Option D):List V->Hp->VK->Prop:=λxs H Q=>∃W ds d,Dm W H/\lM X W H ds xs/\f ds=some d/\∀v H',ay H H'->Rp X W H' d v->Q v H'
abbrev bg (X:Cx)(f:Yc->Yc->Sem Yc)(g:D->D->Option D):Prop:=gU X f (TB X g)
abbrev c5 (X:Cx)(f:Yc)(g:List D->Option D):Prop:=fI X f (Vm X g)
section
variable {X:Cx}{W:Addr->Prop}{H:Hp}
theorem E_ {p:Addr}(d:Dm W H)(n:H p=none):¬ W p:=λz=>d p z n
theorem Rp.kL {p:Addr}{vs:List V}{ds:List D}(d:Dm W H)(n:H p=none)(r:lM X W H ds vs):Rp X W (upd H p (.lst vs)) (.lst ds) (.ref p) :=
 ⟨p,vs,rfl,az,E_ d n,r.same (ay.new n)⟩
theorem Rp.HP {p:Addr}{vs:List V}{ds:List D}(n:H p=none)(r:lM X W H ds vs):Rp X W (upd H p (.tup vs)) (.tup ds) (.ref p) :=
 ⟨p,vs,rfl,az,r.same (ay.new n)⟩
theorem lM.nil:lM X W H [] []:=rfl
theorem lM.cons {d:D}{ds:List D}{v:V}{vs:List V}(h:Rp X W H d v)(r:lM X W H ds vs):lM X W H (d::ds) (v::vs):=⟨v,vs,rfl,h,r⟩
end
def D.JD:D->Option Int
 |.int i=>some i
 |_=>none
def D.JC:D->Option (List D)
 |.lst a=>some a
 |_=>none
def D.Fn:D->Option (List D)
 |.tup a=>some a
 |_=>none
def D.DQ:D->Bool
 |.cX=>true
 |_=>false
theorem D.jL {d:D}{i:Int}(h:d.JD=some i):d=.int i:=by cases d <;> first|(cases h;rfl)|cases h
theorem D.nS {d:D}{i:List D}(h:d.JC=some i):d=.lst i:=by cases d <;> first|(cases h;rfl)|cases h
theorem D.nR {d:D}{i:List D}(h:d.Fn=some i):d=.tup i:=by cases d <;> first|(cases h;rfl)|cases h
theorem D.uv {d:D}(h:d.DQ=true):d=.cX:=by cases d <;> first|rfl|cases h
theorem D.Fo {d:D}:d=.cX↔d.DQ=true:=⟨λe=>by rw[e];rfl,D.uv⟩
def nV (f:Int->Int->Option D)(a b:D):Option D:=match a.JD,b.JD with
 |some i,some j=>f i j
 |_,_=>none
theorem kT {f:Int->Int->Option D}{a b d:D}(h:nV f a b=some d):∃i j,a=.int i/\b=.int j/\f i j=some d:=by
 unfold nV at h;cases ha:a.JD with
 |none=>rw[ha]at h;cases h
 |some i =>
  cases hb:b.JD with
  |none=>rw[ha,hb]at h;cases h
  |some j=>rw[ha,hb]at h;exact⟨i,j,D.jL ha,D.jL hb,h⟩
def Jo (f:D->D->Option D)(g:List D->List D->Option D)(a b:D):Option D:=match a.JC,b.JC with
 |some i,some j=>g i j
 |_,_=>f a b
theorem zF {f:D->D->Option D}{g:List D->List D->Option D}{a b d:D}(h:Jo f g a b=some d):(∃i j,a=.lst i/\b=.lst j/\g i j=some d)\/f a b=some d:=by
 unfold Jo at h;cases ha:a.JC with
 |none=>rw[ha]at h;exact .inr h
 |some i =>
  cases hb:b.JC with
  |none=>rw[ha,hb]at h;exact .inr h
  |some j=>rw[ha,hb]at h;exact .inl ⟨i,j,D.nS ha,D.nS hb,h⟩
def wU:D->D->Option D:=Jo (nV λi j=>some (.int (i+j))) λa b=>if a.length+b.length<=Yy then some (.lst (a++b)) else none
def SY:D->D->Option D:=nV λi j=>some (.int (i-j))
instance (i j:Int):Decidable (lU i j):=by unfold lU;infer_instance
instance (i j:Int):Decidable (Gv i j):=by unfold Gv;infer_instance
def Ks:D->D->Option D:=nV λi j=>if lU i j then some (.int (i*j)) else none
def F2:D->D->Option D:=nV λi j=>if 0<j then some (.int (i % j)) else none
def OD:D->D->Option D:=nV λi j=>if 0<j/\j<2 ^ 200 then some (.int (i / j)) else none
def S1:D->Option D
 |.int i=>some (.int (-i))
 |_=>none
section
variable {X:Cx}
theorem c_ {c:Prop}[Decidable c]{α:Type}{a b:α}(h:(if c then some a else none)=some b):c/\b=a:=by
 by_cases hc:c
 ·rw[if_pos hc]at h;cases h;exact⟨hc,rfl⟩
 ·rw[if_neg hc]at h;cases h
theorem xM {f:Yc->Yc->Sem Yc}{C:Int->Int->Prop}{g:Int->Int->V}{h:Int->Int->D}{F:Int->Int->Option D}(ho:gU X f (rI C g))(hF:∀i j d,F i j=some d->C i j/\d=h i j)
  (hg:∀(W:Addr->Prop) (H:Hp) i j,Rp X W H (h i j) (g i j)):bg X f (nV F):=by
 intro pins s σ H x y v u Q I rx ry hh;obtain⟨W,d1,d2,d,hd,r1,r2,e,q⟩:=hh;obtain⟨i,j,rfl,rfl,e⟩:=kT e;obtain⟨c,rfl⟩:=hF _ _ _ e;cases r1;cases r2;exact ho pins s σ H _ _ v u Q I rx ry ⟨i,j,rfl,rfl,c,q _ _ (ay.refl _) (hg W H i j)⟩
theorem BR {f:Yc->Yc->Sem Yc}{g:Int->Int->V}{h:Int->Int->D}(ho:gU X f (xw g))
  (hg:∀(W:Addr->Prop) (H:Hp) i j,Rp X W H (h i j) (g i j)):bg X f (nV λi j=>some (h i j)):=by
 intro pins s σ H x y v u Q I rx ry hh;obtain⟨W,d1,d2,d,hd,r1,r2,e,q⟩:=hh;obtain⟨i,j,rfl,rfl,e⟩:=kT e;cases e;cases r1;cases r2;exact ho pins s σ H _ _ v u Q I rx ry ⟨i,j,rfl,rfl,q _ _ (ay.refl _) (hg W H i j)⟩
theorem cP:bg X (Z5 .Sub) SY:=BR (h:=λi j=>.int (i-j)) BO λ_ _ _ _=>rfl
theorem rT:bg X (Z5 .Mult) Ks:=xM (h:=λi j=>.int (i*j)) kG (λ_ _ _ e=>c_ e) λ_ _ _ _=>rfl
theorem l9:bg X (Z5 .Mod) F2:=xM (h:=λi j=>.int (i % j)) gN (λ_ _ _ e=>c_ e) λ_ _ _ _=>rfl
theorem EU:bg X (Z5 .FloorDiv) OD:=xM (h:=λi j=>.int (i / j)) nr (λ_ _ _ e=>let ⟨c,e⟩:=c_ e;⟨qW.of c.1 c.2,e⟩) λ_ _ _ _=>rfl
theorem ji:ON X (unaryOp .USub) (TC X S1):=by
 intro pins s σ H x v Q I rx h;obtain⟨W,d1,d,hd,r1,e,q⟩:=h;cases d1 with
 |int i=>cases e;cases r1;exact HN pins s σ H _ v Q I rx ⟨i,rfl,q _ _ (ay.refl _) rfl⟩
 |_=>cases e
end
def wR (p:Int->Int->Bool):D->D->Option D:=nV λi j=>some (.bl (p i j))
abbrev Ku:D->D->Option D:=wR λi j=>decide (i<j)
abbrev W4:D->D->Option D:=wR λi j=>decide (i<=j)
abbrev W5:D->D->Option D:=wR λi j=>decide (j<i)
abbrev W6:D->D->Option D:=wR λi j=>decide (j<=i)
section
variable {X:Cx}
theorem jG {p:Int->Int->Bool}{f:Yc->Yc->Sem Yc}(ho:gU X f (xw λi j=>.bl (p i j))):bg X f (wR p):=BR (h:=λi j=>.bl (p i j)) ho λ_ _ _ _=>rfl
theorem bK:bg X (Y7 .Lt) Ku:=jG BP
theorem rV:bg X (Y7 .LtE) W4:=jG GG
theorem v7:bg X (Y7 .Gt) W5:=jG BQ
theorem IU:bg X (Y7 .GtE) W6:=jG L8
end
mutual
def D.pd:D->PyData
 |.cX=>.none
 |.bl b=>.bool b
 |.int i=>.int i
 |.str x=>.str x
 |.tup ds=>.tuple (D.hZ ds)
 |.lst ds=>.list (D.hZ ds)
 |_=>.dict []
def D.hZ:List D->List PyData
 |[]=>[]
 |d::ds=>d.pd::D.hZ ds
end
abbrev D.tH (d:D):Bool:=shaped d.pd
mutual
theorem bE {X:Cx}{pins:List (Addr×Obj)}{σ:St}{H:Hp}{s:Yg}(I:Inv X pins σ H s){W:Addr->Prop}:∀{d:D} {v:V} {u:Yc},Rp X W H d v->RelV v u->d.pd.canLay0=true->∃as,Reads s.heap u d.pd as
 |.cX,_,_,h,r,_=>by cases h;cases r;exact⟨_,.none⟩
 |.bl b,_,_,h,r,_=>by cases h;cases r;exact⟨_,.bool b⟩
 |.int i,_,_,h,r,_=>by cases h;obtain⟨t,rfl⟩:=r;exact⟨_,.int i t⟩
 |.str x,_,_,h,r,_=>by cases h;obtain⟨t,rfl⟩:=r;exact⟨_,.str x t⟩
 |.tup ds,_,_,h,r,c=>by
  obtain⟨a,vs,rfl,e,q⟩:=h;cases r;obtain⟨its,rv,⟨o,ho,hc,n,hd⟩,hz⟩:=I.tuple (sM.of e);obtain⟨as,ha⟩:=gJ I q rv (by simpa[D.pd,ZQ] using c)
  exact⟨_,.tuple ho hc hd (by simpa using ha)⟩
 |.lst ds,_,_,h,r,c=>by
  obtain⟨a,vs,rfl,e,_,q⟩:=h;cases r;obtain⟨z,its,n,rv,e'⟩:=I.bV a _ e;obtain⟨as,ha⟩:=gJ I q rv (by simpa[D.pd,ZQ] using c)
  exact⟨_,.list e' rfl rfl (by simpa using ha)⟩
 |.obj _,_,_,_,_,c=>by simp[D.pd,ZQ]at c
 |.dT _ _,_,_,_,_,c=>by simp[D.pd,ZQ]at c
 |.dK _ _,_,_,_,_,c=>by simp[D.pd,ZQ]at c
 |.sT _,_,_,_,_,c=>by simp[D.pd,ZQ]at c
 |.ob _,_,_,_,_,c=>by simp[D.pd,ZQ]at c
theorem gJ {X:Cx}{pins:List (Addr×Obj)}{σ:St}{H:Hp}{s:Yg}(I:Inv X pins σ H s){W:Addr->Prop}:∀{ds:List D} {vs:List V} {us:List Yc},lM X W H ds vs->Vals vs us->aaq (D.hZ ds)=true->∃as,ReadsAll s.heap us (D.hZ ds) as
 |[],_,_,h,r,_=>by
  rw[show _=[] from h]at r
  cases r;exact⟨_,.nil⟩
 |d::ds,_,_,⟨v,vr,e,h1,h2⟩,r,c=>by
  subst e;have c':(d.pd.canLay0&&aaq (D.hZ ds))=true:=c;rw[Zi]at c';cases r with
  |cons r1 r2 =>
   obtain⟨as,ha⟩:=bE I h1 r1 c'.1;obtain⟨bs,hb⟩:=gJ I h2 r2 c'.2;exact⟨_,.cons ha hb⟩
end
def OC (a b:D):Option D:=if a.tH=true/\b.tH=true then some (.bl (Zy a.pd b.pd)) else none
def Lh (a b:D):Option D:=if a.tH=true/\b.tH=true then some (.bl (!Zy a.pd b.pd)) else none
section
variable {X:Cx}
theorem fh (hu:X.A.units+64<aan):bg X (Y7 .Eq) OC:=by
 intro pins s σ H x y v u Q I rx ry h;obtain⟨W,d1,d2,d,hd,r1,r2,e,q⟩:=h;obtain⟨⟨s1,s2⟩,rfl⟩:=c_ e;obtain⟨as,ra⟩:=bE I r1 rx (Y_ s1);obtain⟨bs,rb⟩:=bE I r2 ry (Y_ s2);exact compareEq_shaped ra rb s1 s2 hu ⟨.bl _,H,I,rfl,q _ _ (ay.refl _) rfl⟩
theorem iS (hu:X.A.units+64<aan):bg X (Y7 .NotEq) Lh:=by
 intro pins s σ H x y v u Q I rx ry h;obtain⟨W,d1,d2,d,hd,r1,r2,e,q⟩:=h;obtain⟨⟨s1,s2⟩,rfl⟩:=c_ e;obtain⟨as,ra⟩:=bE I r1 rx (Y_ s1);obtain⟨bs,rb⟩:=bE I r2 ry (Y_ s2);exact compareNe_shaped ra rb s1 s2 hu ⟨.bl _,H,I,rfl,q _ _ (ay.refl _) rfl⟩
def S3 (a b:D):Option D:=match b.DQ with
 |true=>some (.bl a.DQ)
 |false=>none
def Ov (a b:D):Option D:=match b.DQ with
 |true=>some (.bl (!a.DQ))
 |false=>none
theorem Rp.E9 {W:Addr->Prop}{H:Hp}{d:D}{v:V}(h:Rp X W H d v):v=.cX↔d=.cX:=by
 cases d with
 |cX=>cases h;simp
 |bl b=>cases h;simp
 |int i=>cases h;simp
 |str x=>cases h;simp
 |obj a=>cases h;simp
 |tup ds=>obtain⟨a,vs,rfl,_⟩:=h;simp
 |lst ds=>obtain⟨a,vs,rfl,_⟩:=h;simp
 |dT ks ds=>obtain⟨a,vs,rfl,_⟩:=h;simp
 |dK ks ds=>obtain⟨a,vs,rfl,_⟩:=h;simp
 |sT ts=>obtain⟨a,rfl,_⟩:=h;simp
 |ob φ=>obtain⟨a,rfl,_⟩:=h;simp
theorem uw {b d e:D}(h:(match b.DQ with|true=>some d|false=>none)=some e):b=.cX/\e=d:=by
 cases q:b.DQ with
 |true=>rw[q]at h;cases h;exact⟨D.uv q,rfl⟩
 |false=>rw[q]at h;cases h
theorem Rp.xR {W:Addr->Prop}{H:Hp}{d:D}{v:V}(h:Rp X W H d v):decide (v=.cX)=d.DQ:=by
 have q:=h.E9.trans D.Fo;cases e:d.DQ with
 |true=>exact decide_eq_true (q.mpr e)
 |false=>exact decide_eq_false λz=>by rw[q.mp z]at e;cases e
theorem l_:bg X (Y7 .Is) S3:=by
 intro pins s σ H x y v u Q I rx ry h;obtain⟨W,d1,d2,d,hd,r1,r2,e,q⟩:=h;obtain⟨rfl,rfl⟩:=uw e;cases r2;exact IT pins s σ H _ _ v u Q I rx ry ⟨rfl,q _ _ (ay.refl _) (congrArg V.bl r1.xR)⟩
theorem nu:bg X (Y7 .IsNot) Ov:=by
 intro pins s σ H x y v u Q I rx ry h;obtain⟨W,d1,d2,d,hd,r1,r2,e,q⟩:=h;obtain⟨rfl,rfl⟩:=uw e;cases r2;exact EO pins s σ H _ _ v u Q I rx ry ⟨rfl,q _ _ (ay.refl _) (congrArg (λb=>V.bl (!b)) r1.xR)⟩
end
def F9:D->D->Option Bool
 |a,.lst ds=>if a.tH=true/\(D.lst ds).tH=true then some ((D.hZ ds).any λy=>Zy y a.pd) else none
 |a,.tup ds=>if a.tH=true/\(D.tup ds).tH=true then some ((D.hZ ds).any λy=>Zy y a.pd) else none
 |_,_=>none
def S5 (a b:D):Option D:=(F9 a b).map .bl
def wO (a b:D):Option D:=(F9 a b).map λc=>.bl (!c)
theorem l3 {ds:List D}{n:PyData}(hn:n=.list (D.hZ ds)\/n=.tuple (D.hZ ds))(h:shaped n=true):aaq (D.hZ ds)=true/\ZH (D.hZ ds)<=64:=by
 have h1:=Y_ h;have h2:=depth_of_shaped h;rcases hn with rfl|rfl
 ·refine⟨by simpa[ZQ] using h1,?_⟩
  have:aa5 (.list (D.hZ ds))=ZH (D.hZ ds)+1:=by simp[aa5]
  lia
 ·refine⟨by simpa[ZQ] using h1,?_⟩
  have:aa5 (.tuple (D.hZ ds))=ZH (D.hZ ds)+1:=by simp[aa5]
  lia
section
variable {X:Cx}
theorem rW (hu:X.A.units+64+1<aan):bg X (Y7 .In) S5:=by
 intro pins s σ H x y v u Q I rx ry h;obtain⟨W,d1,d2,d,hd,r1,r2,e,q⟩:=h;cases d2 with
 |lst ds =>
  obtain⟨b,e1,rfl⟩:=Yt.mp e;obtain⟨⟨s1,s2⟩,rfl⟩:=c_ e1;obtain⟨as,ra⟩:=bE I r1 rx (Y_ s1);obtain⟨bs,rb⟩:=bE I r2 ry (Y_ s2);obtain⟨c1,c2⟩:=l3 (.inl rfl) s2;exact in_list_reads rb ra c1 (Y_ s1) (by have:=abh (ZH (D.hZ ds)) d1.pd.depth;lia) ⟨.bl _,H,I,rfl,q _ _ (ay.refl _) rfl⟩
 |tup ds =>
  obtain⟨b,e1,rfl⟩:=Yt.mp e;obtain⟨⟨s1,s2⟩,rfl⟩:=c_ e1;obtain⟨as,ra⟩:=bE I r1 rx (Y_ s1);obtain⟨bs,rb⟩:=bE I r2 ry (Y_ s2);obtain⟨c1,c2⟩:=l3 (.inr rfl) s2;exact in_tuple_reads rb ra c1 (Y_ s1) (by have:=abh (ZH (D.hZ ds)) d1.pd.depth;lia) ⟨.bl _,H,I,rfl,q _ _ (ay.refl _) rfl⟩
 |_=>cases e
theorem zu (hu:X.A.units+64+1<aan):bg X (Y7 .NotIn) wO:=by
 intro pins s σ H x y v u Q I rx ry h;obtain⟨W,d1,d2,d,hd,r1,r2,e,q⟩:=h;cases d2 with
 |lst ds =>
  obtain⟨b,e1,rfl⟩:=Yt.mp e;obtain⟨⟨s1,s2⟩,rfl⟩:=c_ e1;obtain⟨as,ra⟩:=bE I r1 rx (Y_ s1);obtain⟨bs,rb⟩:=bE I r2 ry (Y_ s2);obtain⟨c1,c2⟩:=l3 (.inl rfl) s2;exact notIn_list_reads rb ra c1 (Y_ s1) (by have:=abh (ZH (D.hZ ds)) d1.pd.depth;lia) ⟨.bl _,H,I,rfl,q _ _ (ay.refl _) rfl⟩
 |tup ds =>
  obtain⟨b,e1,rfl⟩:=Yt.mp e;obtain⟨⟨s1,s2⟩,rfl⟩:=c_ e1;obtain⟨as,ra⟩:=bE I r1 rx (Y_ s1);obtain⟨bs,rb⟩:=bE I r2 ry (Y_ s2);obtain⟨c1,c2⟩:=l3 (.inr rfl) s2;exact notIn_tuple_reads rb ra c1 (Y_ s1) (by have:=abh (ZH (D.hZ ds)) d1.pd.depth;lia) ⟨.bl _,H,I,rfl,q _ _ (ay.refl _) rfl⟩
 |_=>cases e
def uY (a b:D):Option D:=match b.JD with
 |some i=>match a.JC with
  |some ds=>pJ ds i
  |none=>match a.Fn with
   |some ds=>pJ ds i
   |none=>none
 |none=>none
theorem Dp {a b d:D}(h:uY a b=some d):∃ds i,(a=.lst ds\/a=.tup ds)/\b=.int i/\pJ ds i=some d:=by
 unfold uY at h;cases hb:b.JD with
 |none=>rw[hb]at h;cases h
 |some i =>
  rw[hb]at h;cases ha:a.JC with
  |some ds=>rw[ha]at h;exact⟨ds,i,.inl (D.nS ha),D.jL hb,h⟩
  |none =>
   rw[ha]at h;cases ht:a.Fn with
   |some ds=>rw[ht]at h;exact⟨ds,i,.inr (D.nR ht),D.jL hb,h⟩
   |none=>rw[ht]at h;cases h
theorem lM.pJ {W:Addr->Prop}{H:Hp}{ds:List D}{vs:List V}{i:Int}{d:D}(h:lM X W H ds vs)(e:L2.pJ ds i=some d):∃v,L2.pJ vs i=some v/\Rp X W H d v:=by
 unfold L2.pJ at *
 rw[h.length];cases q:zN ds.length i with
 |none=>rw[q]at e;cases e
 |some j =>
  rw[q]at e;exact aj.get h e
theorem JA:Hv X (TB X uY):=by
 intro value slice pins s σ H x y v u Q I rx ry h hs;obtain⟨W,d1,d2,d,hd,r1,r2,e,q⟩:=h;obtain⟨ds,i,h,rfl,e⟩:=Dp e;cases r2;rcases h with rfl|rfl
 ·obtain⟨p,vs,rfl,h1,n1,q1⟩:=r1;obtain⟨z,hz,rz⟩:=lM.pJ (X:=X) q1 e;exact df value slice pins s σ H _ _ v u Q I rx ry ⟨p,vs,i,z,rfl,rfl,dh.of h1,hz,q _ _ (ay.refl _) rz⟩ hs
 ·obtain⟨p,vs,rfl,h1,q1⟩:=r1;obtain⟨z,hz,rz⟩:=lM.pJ (X:=X) q1 e;exact Cu value slice pins s σ H _ _ v u Q I rx ry ⟨p,vs,i,z,rfl,rfl,sM.of h1,hz,q _ _ (ay.refl _) rz⟩ hs
def cutD (xs:List D)(lo hi:Option Int):List D:=(xs.drop (HT.mX xs.length 0 lo)).take (HT.mX xs.length xs.length hi-HT.mX xs.length 0 lo)
def Ou:D->Option Int->Option Int->Option D
 |.lst ds,lo,hi=>some (.lst (cutD ds lo hi))
 |_,_,_=>none
def Oz:List D->Option D
 |[.lst ds]=>some (.int ds.length)
 |[.tup ds]=>some (.int ds.length)
 |_=>none
theorem ib:c5 X (.builtin "len") Oz:=by
 intro pins s σ H xs us Q I r h;obtain⟨W,ds,d,hd,r1,e,q⟩:=h
 match ds,e with
 |[.lst es],e =>
  cases e;obtain⟨v,r',rfl,⟨p,vs,rfl,h1,n1,q1⟩,hr⟩:=r1;cases hr;refine gf pins s σ H _ us Q I r ⟨p,vs,rfl,.inl (dh.of h1),?_⟩;rw[q1.length];exact q _ _ (ay.refl _) rfl
 |[.tup es],e =>
  cases e;obtain⟨v,r',rfl,⟨p,vs,rfl,h1,q1⟩,hr⟩:=r1;cases hr;refine gf pins s σ H _ us Q I r ⟨p,vs,rfl,.inr (sM.of h1),?_⟩;rw[q1.length];exact q _ _ (ay.refl _) rfl
def dList:List D->Option D
 |[.lst ds]=>some (.lst ds)
 |[.tup ds]=>some (.lst ds)
 |_=>none
def Ox:List D->Option D
 |[.int i,.int j]=>some (.int (if j>i then j else i))
 |_=>none
def uX:List D->Option D
 |[.int i,.int j]=>some (.int (if j<i then j else i))
 |_=>none
theorem yF {W:Addr->Prop}{H:Hp}{a b:D}{xs:List V}(h:lM X W H [a,b] xs):∃x y,xs=[x,y]/\Rp X W H a x/\Rp X W H b y:=by
 obtain⟨x,r,rfl,hx,y,r',rfl,hy,hr⟩:=h;cases hr;exact⟨x,y,rfl,hx,hy⟩
theorem qT {W:Addr->Prop}{H:Hp}{a:D}{xs:List V}(h:lM X W H [a] xs):∃x,xs=[x]/\Rp X W H a x:=by
 obtain⟨x,r,rfl,hx,hr⟩:=h;cases hr;exact⟨x,rfl,hx⟩
theorem wZ (hc:X.calm=true):c5 X (.builtin "max") Ox:=by
 intro pins s σ H xs us Q I r h;obtain⟨W,ds,d,hd,r1,e,q⟩:=h
 match ds,e with
 |[.int i,.int j],e =>
  cases e;obtain⟨x,y,rfl,hx,hy⟩:=yF r1;cases hx;cases hy;exact qM hc pins s σ H _ us Q I r ⟨i,j,rfl,q _ _ (ay.refl _) rfl⟩
theorem i6 (hc:X.calm=true):c5 X (.builtin "min") uX:=by
 intro pins s σ H xs us Q I r h;obtain⟨W,ds,d,hd,r1,e,q⟩:=h
 match ds,e with
 |[.int i,.int j],e =>
  cases e;obtain⟨x,y,rfl,hx,hy⟩:=yF r1;cases hx;cases hy;exact Ag hc pins s σ H _ us Q I r ⟨i,j,rfl,q _ _ (ay.refl _) rfl⟩
def S4:List D->Option D
 |[.int i]=>some (.int i)
 |[.bl k]=>some (.int (if k then 1 else 0))
 |_=>none
theorem Ah:c5 X (.type "int") S4:=by
 intro pins s σ H xs us Q I r h;obtain⟨W,ds,d,hd,r1,e,q⟩:=h
 match ds,e with
 |[.int i],e =>
  cases e;obtain⟨x,rfl,hx⟩:=qT r1;cases hx;exact qN pins s σ H _ us Q I r (.inl ⟨i,rfl,q _ _ (ay.refl _) rfl⟩)
 |[.bl k],e =>
  cases e;obtain⟨x,rfl,hx⟩:=qT r1;cases hx;exact qN pins s σ H _ us Q I r (.inr ⟨k,rfl,q _ _ (ay.refl _) rfl⟩)
end
abbrev DF:=List (Option D)
abbrev OR:=DF->(D->Prop)->Prop
abbrev vj:=DF->(List D->Prop)->Prop
def w_ (P:Yk)(w:YB)(W:Addr->Prop)(H:Hp)(σ:St)(ρ:DF):Prop:=∀(i:Nat) (d:D),ρ[i]?=some (some d)->∃v,σ[i]?=some (some v)/\aB P w W H d v
theorem w_.keep {P:Yk}{w:YB}{W:Addr->Prop}{H H':Hp}{σ:St}{ρ:DF}(e:w_ P w W H σ ρ)(k:Kp W H H'):w_ P w W H' σ ρ:=λi d h=>by
 obtain⟨v,h1,h2⟩:=e i d h;exact⟨v,h1,h2.keep k⟩
theorem w_.same {P:Yk}{w:YB}{W:Addr->Prop}{H H':Hp}{σ:St}{ρ:DF}(e:w_ P w W H σ ρ)(s:ay H H'):w_ P w W H' σ ρ:=e.keep s.kp
theorem PE.pre {X:Cx}{e:Expr}{t t':TE}(h:PE X e t)(k:∀σ H Q,t' σ H Q->t σ H Q):PE X e t':=λpins s σ H Q I q=>h pins s σ H Q I (k σ H Q q)
theorem PT.pre {X:Cx}{e:Expr}{t t':TT}(h:PT X e t)(k:∀σ H Q,t' σ H Q->t σ H Q):PT X e t':=λpins s σ H Q I q=>h pins s σ H Q I (k σ H Q q)
theorem PA.pre {X:Cx}{es:List Expr}{t t':TA}(h:PA X es t)(k:∀σ H Q,t' σ H Q->t σ H Q):PA X es t':=λpos pins s σ H Q I q=>h pos pins s σ H Q I (k σ H Q q)
structure OQ (P:Yk)(w:YB)(W:Addr->Prop)(σ:St)(H:Hp)(ρ:DF):Prop where
 dm:Dm W H
 env:w_ P w W H σ ρ
abbrev SE (X:Cx):(Addr->Prop)->St->Hp->DF->Prop:=OQ X.prog X.w
theorem OQ.same {P:Yk}{w:YB}{W:Addr->Prop}{σ:St}{H H':Hp}{ρ:DF}(e:OQ P w W σ H ρ)(s:ay H H'):OQ P w W σ H' ρ:=⟨e.dm.same s,e.env.same s⟩
def tD (X:Cx)(φ:OR):TE:=λσ H Q=>∃W ρ,SE X W σ H ρ/\φ ρ λd=>∀v H',ay H H'->Rp X W H' d v->Q v H'
def LC (X:Cx)(φ:vj):TA:=λσ H Q=>∃W ρ,SE X W σ H ρ/\φ ρ λds=>∀vs H',ay H H'->lM X W H' ds vs->Q vs H'
structure PV (X:Cx)(e:Expr)(φ:OR):Prop where
 mono:∀ρ R R',(∀d,R d->R' d)->φ ρ R->φ ρ R'
 pe:PE X e (tD X φ)
structure OS (X:Cx)(es:List Expr)(φ:vj):Prop where
 mono:∀ρ R R',(∀d,R d->R' d)->φ ρ R->φ ρ R'
 pa:PA X es (LC X φ)
section
variable {X:Cx}{a e:Expr}{es:List Expr}{φ:OR}{φs:vj}{pos:Pos}{W:Addr->Prop}{σ:St}{H:Hp}{ρ:DF}
theorem tD.of (h:PV X e φ)(se:SE X W σ H ρ){R:D->Prop}{Q:VK}(hr:φ ρ R)(k:∀d v H',R d->ay H H'->Rp X W H' d v->Q v H'):tD X φ σ H Q :=
 ⟨W,ρ,se,h.mono ρ _ _ (λd hd v H' s r=>k d v H' hd s r) hr⟩
theorem LC.of (h:OS X es φs)(se:SE X W σ H ρ){R:List D->Prop}{Q:List V->Hp->Prop}(hr:φs ρ R)(k:∀ds vs H',R ds->ay H H'->lM X W H' ds vs->Q vs H'):LC X φs σ H Q :=
 ⟨W,ρ,se,h.mono ρ _ _ (λd hd v H' s r=>k d v H' hd s r) hr⟩
def SN (i:Nat):OR:=λρ R=>∃d,ρ[i]?=some (some d)/\R d
theorem Bo {i:Nat}{x:Str}(hN:X.N[i]?=some x:=by rfl)(hv:yI X.env.scope x:=by first|exact .inl rfl|exact .inr (.inl rfl)|exact .inr (.inr rfl))(hd:(x==("__debug__" : Str))=false:=by decide)(i7:(x==("__classdict__" : Str))=false:=by decide):
  PV X (.Name x pos) (SN i):=⟨λρ R R' k Ru=> by obtain⟨d,e,h⟩ := Ru;exact⟨d,e,k d h⟩,(fg hN hv hd i7).pre λσ H Q Rt=> by
 obtain⟨W,ρ,se,d,e,q⟩ := Rt;obtain⟨v,h1,h2⟩:=se.env i d e;exact⟨v,h1,q v H (ay.refl _) h2⟩⟩
theorem PW.pre {t t':TT}(h:PW X e t)(k:∀σ H Q,t' σ H Q->t σ H Q):PW X e t':=λw pins s σ H Q I q=>h w pins s σ H Q I (k σ H Q q)
def SO:vj:=λ_ R=>R []
def Om (φ:OR)(φs:vj):vj:=λρ R=>φ ρ λd=>φs ρ λds=>R (d::ds)
theorem xB:OS X [] SO:=⟨λρ R R' k h=>k _ h,dy.pre λσ H Q Rr=> by obtain⟨W,ρ,se,q⟩ := Rr;exact q [] H (ay.refl _) rfl⟩
theorem tR (ha:PV X a φ)(hr:OS X es φs)(hs:YG (a::es) X.env=(false,eval a X.env)::YG es X.env:=by rfl):OS X (a::es) (Om φ φs) :=
 ⟨λρ R R' k h=>ha.mono ρ _ _ (λd q=>hr.mono ρ _ _ (λds q2=>k _ q2) q) h,(br ha.pe hr.pa hs).pre λσ H Q ⟨W,ρ,se,h⟩ =>
  tD.of ha se h λd1 v1 H1 h1 s1 r1=>LC.of hr (se.same s1) h1 λds vs H2 q s2 r2=>q (v1::vs) H2 (s1.trans s2) (.cons (r1.same s2) r2)⟩
end
abbrev FD:=List D->(D->Prop)->Prop
def cW (F:FD):Prop:=∀ds R R',(∀d,R d->R' d)->F ds R->F ds R'
section
end
section
variable {X:Cx}{e:Expr}{pos:Pos}{σ:St}{H:Hp}
theorem Hu.pre {ops:List aa8}{rs:List Expr}{t t':V->TE}(h:Hu X ops rs t)(k:∀x σ H Q,t' x σ H Q->t x σ H Q):Hu X ops rs t':=λpos pins s σ H x v Q I r q=>h pos pins s σ H x v Q I r (k x σ H Q q)
theorem vo.pre {ops:List aa8}{rs:List Expr}{t t':V->TT}(h:vo X ops rs t)(k:∀x σ H Q,t' x σ H Q->t x σ H Q):vo X ops rs t':=λpos pins s σ H x v Q I r q=>h pos pins s σ H x v Q I r (k x σ H Q q)
theorem PO.pre {e:Option Expr}{t t':TO}(h:PO X e t)(k:∀σ H Q,t' σ H Q->t σ H Q):PO X e t':=λpins s σ H Q I q=>h pins s σ H Q I (k σ H Q q)
end
abbrev NF:D->Prop:=λd=>d.flat=true
section
abbrev NL:D->Prop:=λd=>match d with | .lst ds=>D.cR ds=true|d=>d.flat=true
end
section
variable {P:Yk}{w:YB}{W W':Addr->Prop}{H:Hp}
mutual
theorem aB.grow (s:∀a,W' a->W a\/H a=none):∀{d:D} {v:V},aB P w W H d v->aB P w W' H d v
 |.cX,_,h=>h
 |.bl _,_,h=>h
 |.int _,_,h=>h
 |.str _,_,h=>h
 |.obj _,_,h=>h
 |.tup ds,_,⟨a,vs,e,t,r⟩=>⟨a,vs,e,t,aj.grow s r⟩
 |.lst ds,_,⟨a,vs,e,t,n,r⟩=>⟨a,vs,e,t,λz=>(s a z).elim n λq=>(by rw[t]at q;cases q),aj.grow s r⟩
 |.dT ks ds,_,⟨a,vs,e,t,l,n,r⟩=>⟨a,vs,e,t,l,λz=>(s a z).elim n λq=>(by rw[t]at q;cases q),aj.grow s r⟩
 |.dK ks ds,_,⟨a,vs,e,t,l,n,r⟩=>⟨a,vs,e,t,l,λz=>(s a z).elim n λq=>(by rw[t]at q;cases q),aj.grow s r⟩
 |.sT ts,_,⟨a,e,⟨fw,t,r,z⟩,n⟩=>⟨a,e,⟨fw,t,r,z⟩,λz=>(s a z).elim n λq=>(by rw[t]at q;cases q)⟩
 |.ob φ,_,⟨a,e,⟨t,z⟩,n⟩=>⟨a,e,⟨t,z⟩,λz=>(s a z).elim n λq=>(by rw[t]at q;cases q)⟩
theorem aj.grow (s:∀a,W' a->W a\/H a=none):∀{ds:List D} {vs:List V},aj P w W H ds vs->aj P w W' H ds vs
 |[],_,h=>h
 |d::ds,_,⟨v,r,e,h1,h2⟩=>⟨v,r,e,aB.grow s h1,aj.grow s h2⟩
end
end
def Xb (X:Cx)(W:Addr->Prop)(J:It)(ds:List D)(H0:Hp):Prop:=∀(i:Nat) (H:Hp),Kp W H0 H ->
 (∀d,ds[i]?=some d->J.go i H/\∀x H1,J.Lo i H x H1->ay H H1/\Rp X W H1 d x)/\(ds.length<=i->J.stop i H)
def Ao (X:Cx)(W:Addr->Prop)(J:It)(ds:List D)(H0:Hp):Prop:=∀W':Addr->Prop,(∀b,W' b->W b\/H0 b=none)->Xb X W' J ds H0
abbrev KJ:=DF->(List D->Prop)->Prop
structure UM (X:Cx)(tg iter:Expr)(ι:KJ):Prop where
 mono:∀ρ R R',(∀d,R d->R' d)->ι ρ R->ι ρ R'
 pi:PI X tg iter λσ H R=>∃W ρ,SE X W σ H ρ/\ι ρ λds=>∀J H',ay H H'->Ao X W J ds H'->R J H'
section
variable {X:Cx}{tg e:Expr}
theorem PI.pre {iter:Expr}{t t':TI}(h:PI X tg iter t)(k:∀σ H R,t' σ H R->t σ H R):PI X tg iter t':=λpins s σ H R I q=>h pins s σ H R I (k σ H R q)
theorem uu {W:Addr->Prop}{H:Hp}{p:Addr}{vs:List V}{ds:List D}(h1:H p=some (.lst vs))(n1:¬ W p)(q1:lM X W H ds vs):Ao X W (P5 X.K p) ds H:=λW' hW i H' k=>by
 have h2:=k.out p _ h1 λz=>(hW p z).elim n1 λq=>by rw[h1]at q;cases q
 replace q1:=aj.grow hW q1;constructor
 ·intro d hd;obtain⟨v,hv,rv⟩:=aj.get q1 hd;refine⟨⟨vs,v,dh.of h2,hv⟩,λx H1 y=>?_⟩;obtain⟨rfl,y⟩:=y;have e:=y vs (dh.of h2);rw[hv]at e;cases e;exact⟨ay.refl _,rv.keep k⟩
 ·intro hl;exact⟨vs,dh.of h2,by rw[q1.length];exact hl⟩
def o9 (lo:Int)(n:Nat):List D:=(YF n).map λ(k:Nat)=>D.int (lo+(k:Int))
theorem kS {W:Addr->Prop}{H:Hp}{lo:Int}{n:Nat}:Ao X W (OY lo n) (o9 lo n) H:=λ_ _ i H' k=>by
 constructor
 ·intro d hd;unfold o9 at hd;rw[Yu]at hd;have hi:i<n:=by
   by_cases h:i<n
   ·exact h
   ·rw[Zk (by simpa using h)]at hd;cases hd
  rw[Z6 hi]at hd;cases hd;refine⟨hi,λx H1 y=>?_⟩;obtain⟨rfl,rfl⟩:=y;exact⟨ay.refl _,rfl⟩
 ·intro hl;unfold o9 at hl;rw[Ye,Zr]at hl;exact hl
end
section
variable {X:Cx}{tg:Expr}{yQ:List Expr}
theorem PG.pre {t t':TG}(h:PG X tg t)(k:∀v σ H Q,t' v σ H Q->t v σ H Q):PG X tg t':=λpins s σ H v u Q I r q=>h pins s σ H v u Q I r (k v σ H Q q)
theorem Ht.pre {t t':Hn}(h:Ht X yQ t)(k:∀v σ H Q,t' v σ H Q->t v σ H Q):Ht X yQ t':=λpins s σ H v u Q I r q=>h pins s σ H v u Q I r (k v σ H Q q)
end
theorem nO {H:Hp}{a:Addr}{o o':HO}(h:H a=some o)(ht:∀xs,o≠.tup xs):Kp (·=a) H (upd H a o') :=
 ⟨λb u e n=>by rw[aw n];exact e,λb xs e=>by rw[aw (GN e h (λz=>ht xs z.symm))];exact e⟩
section
end
section
end
section
end
section
variable {σ:St}{β:a8}{own:Nat->List Addr}
def a_ (own:Nat->List Addr)(i:Nat)(as:List Addr):Nat->List Addr:=λj=>if j=i then as else own j
theorem fU {own:Nat->List Addr}{i j:Nat}{a:Addr}(h:a∈a_ own i [] j):a∈own j/\j≠i:=by
 unfold a_ at h
 by_cases e:j=i
 ·rw[if_pos e]at h;cases h
 ·rw[if_neg e]at h;exact⟨h,e⟩
theorem bS {α:Type}{β:List α}{i j:Nat}{x:α}(h:i≠j):(β.set i x)[j]?=β[j]?:=by rw[abz,if_neg h]
theorem b8 {α:Type}{β:List α}{i:Nat}{x y:α}(h:(β.set i x)[i]?=some y):y=x/\i<β.length:=by
 rw[abz,if_pos rfl]at h
 by_cases hi:i<β.length
 ·rw[if_pos hi]at h;cases h;exact⟨rfl,hi⟩
 ·rw[if_neg hi]at h;cases h
theorem get_set {α:Type}{σ:List α}{i:Nat}{x:α}(h:i<σ.length):(σ.set i x)[i]?=some x:=by rw[abz,if_pos rfl,if_pos h]
end
structure Sn (Z:Hp×(Addr->Prop))(H:Hp)(W:Addr->Prop):Prop where
 w:∀b,W b->Z.2 b\/Z.1 b=none
 k:Kp (λb=>Z.2 b\/Z.1 b=none) Z.1 H
 d:∀b,Z.1 b≠none->H b≠none
theorem Sn.refl {H:Hp}{W:Addr->Prop}:Sn (H,W) H W:=⟨λ_ z=>.inl z,Kp.refl,λ_ z=>z⟩
theorem Sn.same {Z:Hp×(Addr->Prop)}{H H':Hp}{W:Addr->Prop}(n:Sn Z H W)(s:ay H H'):Sn Z H' W:=⟨n.w,n.k.trans s.kp,λb z e=>n.d b z (s.free e)⟩
theorem Sn.free {Z:Hp×(Addr->Prop)}{H:Hp}{W:Addr->Prop}(n:Sn Z H W){a:Addr}(h:H a=none):Z.1 a=none:=by
 cases q:Z.1 a with
 |none=>rfl
 |some o=>exact absurd h (n.d a (by rw[q];intro z;cases z))
theorem Sn.upd {Z:Hp×(Addr->Prop)}{H:Hp}{W:Addr->Prop}(n:Sn Z H W){a:Addr}{o o':HO}(h:H a=some o)(ht:∀xs,o≠.tup xs)(wa:W a):Sn Z (L2.upd H a o') W :=
 ⟨n.w,n.k.trans ((nO h ht).mono λb z=>by rw[z];exact n.w a wa),λb z e=>by
  by_cases hb:b=a
  ·subst hb;rw[az]at e;cases e
  ·rw[aw hb]at e;exact n.d b z e⟩
theorem Sn.trans {Z:Hp×(Addr->Prop)}{H1 H:Hp}{W1 W:Addr->Prop}(n1:Sn Z H1 W1)(n:Sn (H1,W1) H W):Sn Z H W:=by
 have big:∀b,W1 b\/H1 b=none->Z.2 b\/Z.1 b=none:=λb z=>z.elim (n1.w b) λq=>.inr (n1.free q);exact⟨λb z=>big b (n.w b z),n1.k.trans (n.k.mono big),λb z=>n.d b (n1.d b z)⟩
section
variable {X:Cx}{st:Stmt}{rest:List Stmt}{σ:St}{H:Hp}
theorem PS.pre {t t':TS}(h:PS X st t)(k:∀D σ H,t' D σ H->t D σ H):PS X st t':=λpins s σ H D I q=>h pins s σ H D I (k D σ H q)
theorem sX.pre {t t':TS}(h:sX X rest t)(k:∀D σ H,t' D σ H->t D σ H):sX X rest t':=λpins s σ H D I q=>h pins s σ H D I (k D σ H q)
end
section
variable {b:Expr}{H:Hp}
theorem held {P:Yk}{w:YB}{W W2:Addr->Prop}{H2:Hp}{d:D}{v:V}(r:aB P w W H d v)(n:Sn (H,W) H2 W2):aB P w W2 H2 d v :=
 aB.aY n.w (aB.keep n.k (aB.grow (λb z=>z) r))
end
theorem Sn.kp {Z:Hp×(Addr->Prop)}{H H':Hp}{W:Addr->Prop}(n:Sn Z H W)(k:Kp W H H')(dn:∀c,H c≠none->H' c≠none):Sn Z H' W:=⟨n.w,n.k.trans (k.mono n.w),λb z=>dn b (n.d b z)⟩
section
end
section
end
end L2
namespace Ap
open PySem PySem.Spec PyProof.Rows
def lexLe:List Int->List Int->Bool
 |[],_=>true
 |_::_,[]=>false
 |x::xs,y::ys=>if x=y then lexLe xs ys else decide (x<=y)
theorem Cj (x y:Int)(xs ys:List Int):lexLe (x::xs) (y::ys)=if x=y then lexLe xs ys else decide (x<=y):=rfl
theorem Cf:lexLe [] []=true:=rfl
theorem Cg (y:Int)(ys:List Int):lexLe [] (y::ys)=true:=rfl
theorem Ci (x:Int)(xs:List Int):lexLe (x::xs) []=false:=rfl
def dC:List Int->List Int->Bool
 |[],_=>false
 |_::_,[]=>true
 |x::xs,y::ys=>if x=y then dC xs ys else decide (y<x)
theorem uo (x y:Int)(xs ys:List Int):dC (x::xs) (y::ys)=if x=y then dC xs ys else decide (y<x):=rfl
theorem Ck:dC [] []=false:=rfl
theorem Cm (y:Int)(ys:List Int):dC [] (y::ys)=false:=rfl
theorem Cn (x:Int)(xs:List Int):dC (x::xs) []=true:=rfl
theorem Bi (A:Zc)(s:Yg)(a:Int)(t:Tok)(c:Int)(u:Tok)(prog:Yk)(w:YB)(E:Yc->Yg->Prop)(Q:Yc->Yg->Prop)(h:Q (.bool (decide (a<=c))) s):
  YM (model prog w) A (richCompare .LtE (.int a t) (.int c u)) Q E s :=
 (PyProof.Rows.le_int h:YM (model prog w) A (Y7 .LtE (.int a t) (.int c u)) Q E s)
section
open PySem.SeqAt
open PySem.AutoSeq1 (wpAny_loadPart')
open PySem.MeetsSeq PySem.MeetsSeq2 PySem.MeetsSeq3
theorem oY (l b:Addr)(items ao:Array Yc)(n n2:Nat)(dd sV:Option Addr)(sl sR:Array (Option Yc))(ns ms:List Int)(hi:Zg items.toList ns)(hj:Zg ao.toList ms):
  Meets (Z_.«tuple.__le__» ⟨[.ref l,.ref b],[]⟩)
   (λ_ R s=>s.heap.get? l=some {cls:=.type "tuple",dict:=dd,data:=.seq items n,slots:=sl}/\s.heap.get? b=some {cls:=.type "tuple",dict:=sV,data:=.seq ao n2,slots:=sR} /\
    R (.ok (.ret (.bool (lexLe ns ms)))) s) :=
 .of_wp λprog w A R s h=>by
  obtain⟨hp,g,d,tk,os⟩:=s;obtain⟨hl,hb,h⟩:=h;have f2:=abI;have z1:items.size=ns.length:=by rw[<- hi.length];simp
  have z2:ao.size=ms.length:=by rw[<- hj.length];simp
  wp_walk using YT hl,YT hb,wpAny_forIn_list _ (λrest b s'=>b.1=none/\s'=⟨hp,g,d,tk,os⟩/\∃(vs ws:List Yc) (eK qh:List Int),rest=vs.zip ws /\
   Zg vs eK/\Zg ws qh/\eK.length+ao.size=qh.length+items.size/\R (.ok (.ret (.bool (lexLe eK qh)))) ⟨hp,g,d,tk,os⟩) _
  case turn =>
   rintro⟨y,x⟩ rest b s' ⟨ij,rfl,vs,ws,eK,qh,hz,CI,ya,hlen,hR⟩;cases CI with
   |nil=>rw[aar]at hz;cases hz
   |cons a t CH =>
    cases ya with
    |nil=>rw[abo]at hz;cases hz
    |cons c u CG =>
     rw[Zt]at hz;injection hz with MM nY
     injection MM with hy hx
     subst hy hx;rw[Cj]at hR;simp only[Yw]at hlen;obtain⟨e,he,uA⟩:=HT.oz A.in1 ⟨hp,g,d,tk,os⟩ a t c u;refine Yd (he prog w _ _ ?_);cases e with
     |true =>
      rw[if_pos (uA.mp rfl)]at hR
      wp_walk
      exact⟨rfl,rfl,_,_,_,_,nY,CH,CG,by lia,hR⟩
     |false =>
      rw[if_neg (λq=>absurd (uA.mpr q) ZG)]at hR;have JK:=Bi A.in1 ⟨hp,g,d,tk,os⟩ a t c u prog w
      wp_walk using JK
      exact⟨_,rfl,by simpa using hR⟩
  case fin =>
   rintro⟨b1,b2⟩ s' ⟨ij,rfl,vs,ws,eK,qh,hz,CI,ya,hlen,hR⟩;simp only at ij;subst ij;have hv:lexLe eK qh=decide (items.size<=ao.size):=by
    cases CI with
    |nil =>
     cases ya with
     |nil =>
      simp only[ZI]at hlen;rw[Cf];exact(decide_eq_true (by lia)).symm
     |cons c u hw =>
      simp only[ZI,Yw]at hlen;rw[Cg];exact(decide_eq_true (by lia)).symm
    |cons a t hv =>
     cases ya with
     |nil =>
      simp only[ZI,Yw]at hlen;rw[Ci];exact(decide_eq_false (by lia)).symm
     |cons c u hw =>
      rw[Zt]at hz;cases hz
   rw[hv]at hR
   wp_walk
   exact⟨_,rfl,by simpa[aa6] using hR⟩
  case h =>
   exact⟨rfl,rfl,items.toList,ao.toList,ns,ms,rfl,hi,hj,by lia,h⟩
end
section
variable {prog:Yk}{w:YB}{A:Zc}{E:Yc->Yg->Prop}{s:Yg}
theorem wj {l b:Addr}{items ao:Array Yc}{ns ms:List Int}{Q:Yc->Yg->Prop}(hl:IsTup s.heap l items)(hb:IsTup s.heap b ao)(hi:Zg items.toList ns)(hj:Zg ao.toList ms)
  (hu:A.units<aan) (h:Q (.bool (lexLe ns ms)) s):YM (model prog w) A (Y7 .LtE (.ref l) (.ref b)) Q E s:=by
 obtain⟨⟨cls,dd,data,sl⟩,ho,hc,n,hd⟩:=id hl;obtain⟨⟨Kw,sV,data2,sR⟩,zR,kX,n2,hd2⟩:=id hb;simp only at hc hd kX hd2;subst hc hd kX hd2;exact aa2 (op:=.LtE) ⟨_,ho,rfl⟩ ⟨_,zR,rfl⟩ PySem.F.slot_tuple_le PySem.F.entry_tuple_le (PySem.F.args_tuple_le_2 _ _) (oY l b items ao n n2 dd sV sl sR ns ms hi hj)
  ⟨ho,zR,show Value.bool (lexLe ns ms)≠Value.notImplemented/\Q (.bool (lexLe ns ms)) s from ⟨(λx=>nomatch x),h⟩⟩ hu
end
theorem Bj (A:Zc)(s:Yg)(a:Int)(t:Tok)(c:Int)(u:Tok)(prog:Yk)(w:YB)(E:Yc->Yg->Prop)(Q:Yc->Yg->Prop)(h:Q (.bool (decide (c<a))) s):
  YM (model prog w) A (richCompare .Gt (.int a t) (.int c u)) Q E s :=
 (PyProof.Rows.gt_int h:YM (model prog w) A (Y7 .Gt (.int a t) (.int c u)) Q E s)
section
open PySem.SeqAt
open PySem.AutoSeq1 (wpAny_loadPart')
open PySem.MeetsSeq PySem.MeetsSeq2 PySem.MeetsSeq3
theorem oZ (l b:Addr)(items ao:Array Yc)(n n2:Nat)(dd sV:Option Addr)(sl sR:Array (Option Yc))(ns ms:List Int)(hi:Zg items.toList ns)(hj:Zg ao.toList ms):
  Meets (Z_.«tuple.__gt__» ⟨[.ref l,.ref b],[]⟩)
   (λ_ R s=>s.heap.get? l=some {cls:=.type "tuple",dict:=dd,data:=.seq items n,slots:=sl}/\s.heap.get? b=some {cls:=.type "tuple",dict:=sV,data:=.seq ao n2,slots:=sR} /\
    R (.ok (.ret (.bool (dC ns ms)))) s) :=
 .of_wp λprog w A R s h=>by
  obtain⟨hp,g,d,tk,os⟩:=s;obtain⟨hl,hb,h⟩:=h;have f2:=abI;have z1:items.size=ns.length:=by rw[<- hi.length];simp
  have z2:ao.size=ms.length:=by rw[<- hj.length];simp
  wp_walk using YT hl,YT hb,wpAny_forIn_list _ (λrest b s'=>b.1=none/\s'=⟨hp,g,d,tk,os⟩/\∃(vs ws:List Yc) (eK qh:List Int),rest=vs.zip ws /\
   Zg vs eK/\Zg ws qh/\eK.length+ao.size=qh.length+items.size/\R (.ok (.ret (.bool (dC eK qh)))) ⟨hp,g,d,tk,os⟩) _
  case turn =>
   rintro⟨y,x⟩ rest b s' ⟨ij,rfl,vs,ws,eK,qh,hz,CI,ya,hlen,hR⟩;cases CI with
   |nil=>rw[aar]at hz;cases hz
   |cons a t CH =>
    cases ya with
    |nil=>rw[abo]at hz;cases hz
    |cons c u CG =>
     rw[Zt]at hz;injection hz with MM nY
     injection MM with hy hx
     subst hy hx;rw[uo]at hR;simp only[Yw]at hlen;obtain⟨e,he,uA⟩:=HT.oz A.in1 ⟨hp,g,d,tk,os⟩ a t c u;refine Yd (he prog w _ _ ?_);cases e with
     |true =>
      rw[if_pos (uA.mp rfl)]at hR
      wp_walk
      exact⟨rfl,rfl,_,_,_,_,nY,CH,CG,by lia,hR⟩
     |false =>
      rw[if_neg (λq=>absurd (uA.mpr q) ZG)]at hR;have JK:=Bj A.in1 ⟨hp,g,d,tk,os⟩ a t c u prog w
      wp_walk using JK
      exact⟨_,rfl,by simpa using hR⟩
  case fin =>
   rintro⟨b1,b2⟩ s' ⟨ij,rfl,vs,ws,eK,qh,hz,CI,ya,hlen,hR⟩;simp only at ij;subst ij;have hv:dC eK qh=decide (ao.size<items.size):=by
    cases CI with
    |nil =>
     cases ya with
     |nil =>
      simp only[ZI]at hlen;rw[Ck];exact(decide_eq_false (by lia)).symm
     |cons c u hw =>
      simp only[ZI,Yw]at hlen;rw[Cm];exact(decide_eq_false (by lia)).symm
    |cons a t hv =>
     cases ya with
     |nil =>
      simp only[ZI,Yw]at hlen;rw[Cn];exact(decide_eq_true (by lia)).symm
     |cons c u hw =>
      rw[Zt]at hz;cases hz
   rw[hv]at hR
   wp_walk
   exact⟨_,rfl,by simpa[aa6] using hR⟩
  case h =>
   exact⟨rfl,rfl,items.toList,ao.toList,ns,ms,rfl,hi,hj,by lia,h⟩
end
section
variable {prog:Yk}{w:YB}{A:Zc}{E:Yc->Yg->Prop}{s:Yg}
theorem wB {l b:Addr}{items ao:Array Yc}{ns ms:List Int}{Q:Yc->Yg->Prop}(hl:IsTup s.heap l items)(hb:IsTup s.heap b ao)(hi:Zg items.toList ns)(hj:Zg ao.toList ms)
  (hu:A.units<aan) (h:Q (.bool (dC ns ms)) s):YM (model prog w) A (Y7 .Gt (.ref l) (.ref b)) Q E s:=by
 obtain⟨⟨cls,dd,data,sl⟩,ho,hc,n,hd⟩:=id hl;obtain⟨⟨Kw,sV,data2,sR⟩,zR,kX,n2,hd2⟩:=id hb;simp only at hc hd kX hd2;subst hc hd kX hd2;exact aa2 (op:=.Gt) ⟨_,ho,rfl⟩ ⟨_,zR,rfl⟩ PySem.F.slot_tuple_gt PySem.F.entry_tuple_gt (PySem.F.args_tuple_gt_2 _ _) (oZ l b items ao n n2 dd sV sl sR ns ms hi hj)
  ⟨ho,zR,show Value.bool (dC ns ms)≠Value.notImplemented/\Q (.bool (dC ns ms)) s from ⟨(λx=>nomatch x),h⟩⟩ hu
end
end Ap
namespace L2
open PySem PySem.Spec PySem.SeqAt PyProof.Rows
def bz:List D->Option (List Int)
 |[]=>some []
 |.int i::ds=>(bz ds).map (i::·)
 |_::_=>none
theorem jM:∀{ds:List D} {ns:List Int},bz ds=some ns->ds=ns.map D.int
 |[],_,h=>by cases h;rfl
 |.int i::ds,_,h=>by
  obtain⟨ns,h1,rfl⟩:=Yt.mp h;rw[YA,<- jM h1]
 |.cX::_,_,h=>by cases h
 |.bl _::_,_,h=>by cases h
 |.str _::_,_,h=>by cases h
 |.obj _::_,_,h=>by cases h
 |.tup _::_,_,h=>by cases h
 |.lst _::_,_,h=>by cases h
 |.dT _ _::_,_,h=>by cases h
 |.dK _ _::_,_,h=>by cases h
 |.sT _::_,_,h=>by cases h
 |.ob _::_,_,h=>by cases h
theorem cH:∀(ns:List Int),bz (ns.map D.int)=some ns
 |[]=>rfl
 |n::ns=>by rw[YA];show (bz (ns.map D.int)).map _=_;rw[cH ns];rfl
theorem bq {P:Yk}{w:YB}{W:Addr->Prop}{H:Hp}:∀{ns:List Int} {vs:List V},aj P w W H (ns.map D.int) vs->vs=ns.map V.int
 |[],_,h=>h
 |n::ns,_,⟨v,r,e,h1,h2⟩=>by rw[e,bq h2,show v=V.int n from h1];rfl
theorem qp {P:Yk}{w:YB}{W:Addr->Prop}{H:Hp}:∀(ns:List Int),aj P w W H (ns.map D.int) (ns.map V.int)
 |[]=>rfl
 |n::ns=>⟨_,_,rfl,rfl,qp ns⟩
def qK (p:Int->Int->Bool)(lex:List Int->List Int->Bool)(a b:D):Option D:=match a.Fn,b.Fn with
 |some a,some b=>match bz a,bz b with
  |some ns,some ms=>some (.bl (lex ns ms))
  |_,_=>none
 |_,_=>wR p a b
theorem yP {p:Int->Int->Bool}{lex:List Int->List Int->Bool}{a b d:D}(h:qK p lex a b=some d):(∃i j ns ms,a=.tup i/\b=.tup j/\bz i=some ns/\bz j=some ms/\d=.bl (lex ns ms))\/wR p a b=some d:=by
 unfold qK at h;cases ha:a.Fn with
 |none=>rw[ha]at h;exact .inr h
 |some i =>
  cases hb:b.Fn with
  |none=>rw[ha,hb]at h;exact .inr h
  |some j =>
   rw[ha,hb]at h;cases ea:bz i with
   |none=>simp only[ea]at h;cases h
   |some ns =>
    cases eb:bz j with
    |none=>simp only[ea,eb]at h;cases h
    |some ms=>simp only[ea,eb]at h;cases h;exact .inl ⟨i,j,ns,ms,D.nR ha,D.nR hb,ea,eb,rfl⟩
abbrev Oy:D->D->Option D:=qK (λi j=>decide (i<j)) HT.lexLt
abbrev OA:D->D->Option D:=qK (λi j=>decide (i<=j)) Ap.lexLe
abbrev OB:D->D->Option D:=qK (λi j=>decide (j<i)) Ap.dC
section
variable {X:Cx}
theorem nv {p:Int->Int->Bool}{lex:List Int->List Int->Bool}{op:aa8}(ho:gU X (Y7 op) (xw λi j=>.bl (p i j)))
  (ht:∀(s:Yg) (E:Yc->Yg->Prop) (l b:Addr) (items ao:Array Yc) (ns ms:List Int) (Q:Yc->Yg->Prop),IsTup s.heap l items->IsTup s.heap b ao->Zg items.toList ns->Zg ao.toList ms->Q (.bool (lex ns ms)) s->YM (model X.prog X.w) X.A (Y7 op (.ref l) (.ref b)) Q E s) :
  bg X (Y7 op) (qK p lex):=by
 intro pins s σ H x y v u Q I rx ry h;obtain⟨W,d1,d2,d,hd,r1,r2,e,q⟩:=h;rcases yP e with⟨a,b,ns,ms,rfl,rfl,ea,eb,rfl⟩|e
 ·rw[jM ea]at r1;rw[jM eb]at r2;obtain⟨pa,vs,rfl,ha,ra⟩:=r1;obtain⟨pb,us,rfl,hb,rb⟩:=r2;rw[bq ra]at ha;rw[bq rb]at hb;cases rx;cases ry;obtain⟨its,q1,p1,_⟩:=I.tuple (sM.of ha);obtain⟨JB,q2,p2,_⟩:=I.tuple (sM.of hb);exact ht s _ pa pb _ _ ns ms _ p1 p2 (by simpa using intsAre_of q1) (by simpa using intsAre_of q2) ⟨.bl _,H,I,rfl,q _ _ (ay.refl _) rfl⟩
 ·exact jG ho pins s σ H x y v u Q I rx ry ⟨W,_,_,d,hd,r1,r2,e,q⟩
theorem xK (hu:X.A.units<aan):bg X (Y7 .Lt) Oy:=nv BP λs E l b items ao ns ms Q h1 h2 h3 h4 h5=>HT.nF h1 h2 h3 h4 hu h5
theorem ET (hu:X.A.units<aan):bg X (Y7 .LtE) OA:=nv GG λs E l b items ao ns ms Q h1 h2 h3 h4 h5=>Ap.wj h1 h2 h3 h4 hu h5
theorem xN (hu:X.A.units<aan):bg X (Y7 .Gt) OB:=nv BQ λs E l b items ao ns ms Q h1 h2 h3 h4 h5=>Ap.wB h1 h2 h3 h4 hu h5
end
end L2
namespace TS
open PySem PyProof.Rows
section
end
end TS
namespace L2
open PySem PySem.Spec PyProof.Rows
def zK (H:Hp):Yc->List Int
 |.ref t=>match H t with
  |some (.tup xs)=>xs.filterMap fun
   |.int i=>some i
   |_=>none
  |_=>[]
 |_=>[]
theorem uJ:∀ns:List Int,((ns.map V.int).filterMap fun
   |.int i=>some i
   |_=>none)=ns
 |[]=>rfl
 |n::ns=>by
  rw[YA,Zn];dsimp only;rw[uJ ns]
theorem nP {H:Hp}{t:Addr}{ns:List Int}(h:H t=some (.tup (ns.map V.int))):zK H (.ref t)=ns:=by
 unfold zK;dsimp only;rw[h];exact uJ ns
def Ki (H:Hp):Yc->Addr×List Int
 |.ref t=>(t,zK H (.ref t))
 |_=>(0,[])
abbrev Gn (H:Hp)(ts:List (Addr×List Int)):Prop:=∀t∈ts,H t.1=some (.tup (t.2.map V.int))/\t.2≠[]
abbrev yR (t:Addr×List Int):V:=.ref t.1
theorem j9:∀{ts:List (Addr×List Int)} {us:List Yc},Vals (ts.map yR) us->us=ts.map λt=>Value.ref t.1
 |[],_,.nil=>rfl
 |t::ts,_,.cons r q=>by
  rw[YA,<- j9 q];cases r;rfl
theorem pY:∀(ts:List (Addr×List Int)),Vals (ts.map yR) (ts.map λt=>Value.ref t.1)
 |[]=>.nil
 |t::ts=>.cons rfl (pY ts)
theorem zq {H:Hp}{ts:List (Addr×List Int)}(T:Gn H ts){out:List Yc}(hp:out.Perm (ts.map λt=>Value.ref t.1)):out=(out.map (Ki H)).map (λt=>Value.ref t.1)/\(out.map (Ki H)).Perm ts:=by
 constructor
 ·rw[Y8];refine(Zw (g:=id) λv hv=>?_).trans (List.map_id _) |>.symm
  obtain⟨t,ht,rfl⟩:=YK.mp (hp.mem_iff.mp hv);rfl
 ·refine(hp.map (Ki H)).trans (List.Perm.of_eq ?_);rw[Y8];refine(Zw (g:=id) λt ht=>?_).trans (List.map_id _);show (t.1,zK H (.ref t.1))=t;rw[nP (T t ht).1]
theorem Ei {P:Yk}{w:YB}{H:Hp}{h:Heap}{ts:List (Addr×List Int)}(ok:i9 P w H h)(T:Gn H ts){a:Addr}(ha:h.objs.size<=a):TS.vh h (zK H) a (ts.map λt=>Value.ref t.1):=λv hv=>by
 obtain⟨t,ht,rfl⟩:=YK.mp hv;obtain⟨h1,h2⟩:=T t ht;obtain⟨_,its,r,o,ho,hc,n,hd⟩:=(show bW P w H h t.1 (.tup (t.2.map V.int)) from ok _ _ h1)
 exact⟨t.1,o,_,n,rfl,YZ (Y2 (YC ho) ha),ho,hc,hd,by rw[nP h1];exact intsAre_of (by simpa using r),by rw[nP h1];exact h2⟩
section
end
end L2
namespace ST
open PySem PyProof.Rows
theorem vg (n:Nat):∀(f j:Nat),n<2 ^ (j+f)->∃j',j<=j'/\SetTable.sizeAbove.go n f (2 ^ j)=2 ^ j'/\n<2 ^ j'/\(j'=j\/2 ^ (j' - 1)<=n)
 |0,j,h=>⟨j,Yh _,rfl,h,.inl rfl⟩
 |f+1,j,h=>by
  unfold SetTable.sizeAbove.go
  by_cases hc:2 ^ j<=n
  ·rw[if_pos hc,<- Nat.pow_succ];obtain⟨j',h1,h2,h3,h4⟩:=vg n f (j+1) (by rw[show j+1+f=j+(f+1) by lia];exact h)
   refine⟨j',by lia,h2,h3,.inr ?_⟩
   rcases h4 with rfl|h4
   ·exact hc
   ·exact h4
  ·rw[if_neg hc];exact⟨j,Yh _,rfl,by lia,.inl rfl⟩
theorem DE {n:Nat}(h:n<=4000):∃j,3<=j/\SetTable.sizeAbove n=2 ^ j/\n<2 ^ j/\2 ^ j<=8192:=by
 obtain⟨j,h1,h2,h3,h4⟩:=vg n 64 3 (aaW h (by decide))
 refine⟨j,h1,h2,h3,?_⟩;rcases h4 with rfl|h4
 ·decide
 ·have:j-1<12:=by
   rcases ZK (j-1) 12 with z|z
   ·exact z
   ·have:2 ^ 12<=2 ^ (j-1):=abf (by decide) z
    lia
  have:2 ^ j<=2 ^ 12:=abf (by decide) (by lia)
  lia
section
variable {a:Addr}{o:Obj}{es:Array (Int×Yc)}{ep:Nat}{t:SetTable}
theorem yf {h:Heap}(ho:h.get? a=some o)(hd:o.data=.set es ep t)(ir:Array (Int×Yc))(t':SetTable):(h.update a (Obj.putSet ir t')).get? a=some {o with data:=.set ir (ep+1) t'}:=by
 have e:=Heap.get?_update_self (Obj.putSet ir t') ho (by rw[putSet_of ir t' hd];rfl)
 rw[e,putSet_of ir t' hd]
theorem BH {α:Type}(l:List α)(p:Nat)(x:α):(l.take p++x::l.drop p).Perm (x::l):=by
 refine abL.trans (List.Perm.cons x ?_);rw[Zm]
end
theorem oG {α:Type}:∀{l:List α} {i:Nat} (h:i<l.length),(l[i]::l.eraseIdx i).Perm l
 |[],_,h=>absurd h (Nat.not_lt_zero _)
 |x::l,0,_=>.refl _
 |x::l,i+1,h=>by
  have h':i<l.length:=by rw[Yw]at h;lia
  show (l[i]::x::l.eraseIdx i).Perm (x::l);exact(List.Perm.swap _ _ _).trans ((oG h').cons x)
theorem xG {α:Type}(next:Nat->Nat):∀(f k:Nat) (left:List α) (out:Array α),f=left.length->(pickOrder.go next f k left out).toList.Perm (out.toList++left)
 |0,k,left,out,e=>by
  obtain rfl:left=[]:=List.length_eq_zero_iff.mp e.symm;unfold pickOrder.go;rw[ZW]
 |f+1,k,left,out,e=>by
  unfold pickOrder.go;have hi:next k % left.length<left.length:=abn _ (by lia)
  rw[Yj hi];dsimp only;refine(xG next f (k+1) _ _ (by rw[List.length_eraseIdx_of_lt hi];lia)).trans ?_
  rw[Z4,Zj];exact List.Perm.append_left _ (oG hi)
theorem zj {α:Type}(next:Nat->Nat)(xs:Array α):(pickOrder next xs).toList.Perm xs.toList:=by
 have:=xG next xs.size 0 xs.toList #[] (by rw[Yp])
 exact this
theorem bO:Slot "set_iterator" "__next__" "set_iterator.__next__" :=
 .of (owner:="set_iterator") (n:="__next__") (by rw[typeLookup_type,builtinLookup_eq_fast];kernel_rfl) (by decide +kernel) (by decide +kernel) (by decide +kernel)
  (by first|exact .inl (by decide +kernel)|exact .inr (by decide +kernel)) (by rw[isSubtype_type];kernel_rfl)
theorem iw:Slot "set_iterator" "__iter__" "set_iterator.__iter__" :=
 .of (owner:="set_iterator") (n:="__iter__") (by rw[typeLookup_type,builtinLookup_eq_fast];kernel_rfl) (by decide +kernel) (by decide +kernel) (by decide +kernel)
  (by first|exact .inl (by decide +kernel)|exact .inr (by decide +kernel)) (by rw[isSubtype_type];kernel_rfl)
theorem gS:entryFor table "set_iterator.__next__" = some Z_.«set_iterator.__next__»:=entryFor_of_tree (by kernel_rfl)
theorem oA:entryFor table "set_iterator.__iter__" = some Z_.«dict_keyiterator.__iter__» :=
 entryFor_alias (id':="dict_keyiterator.__iter__") (by kernel_rfl) rfl (by decide +kernel) (by kernel_rfl)
theorem oB:entryFor table "set.__iter__" = some Z_.«frozenset.__iter__» :=
 entryFor_alias (id':="frozenset.__iter__") (by kernel_rfl) rfl (by decide +kernel) (by kernel_rfl)
theorem iJ (a:Yc):argsOk "set_iterator.__next__" ⟨[a],[]⟩:=by unfold argsOk;kernel_rfl
theorem pK (a:Yc):argsOk "set_iterator.__iter__" ⟨[a],[]⟩:=by unfold argsOk;kernel_rfl
section
variable {prog:Yk}{w:YB}{A:Zc}{E:Yc->Yg->Prop}{s:Yg}
variable {a:Addr}{es:Array (Int×Yc)}{ep:Nat}
abbrev Dw (w:YB):Bool:=w.params.followText "set-order"
theorem j6 {Q:Bool->Yg->Prop}(q:Q (Dw w) s):YM (model prog w) A setsByText Q E s:=by
 unfold setsByText;exact Yd (abK (Ym q))
def bQ (w:YB)(a:Addr)(ep:Nat)(es:Array (Int×Yc)):Array (Int×Yc):=if Dw w=true then pickOrder (w.params.setOrder a ep) es else es
theorem gW (w:YB)(a:Addr)(ep:Nat)(es:Array (Int×Yc)):(bQ w a ep es).toList.Perm es.toList:=by
 unfold bQ
 split
 ·exact zj _ _
 ·exact .refl _
end
section
variable {s:Yg}
variable {a it:Addr}{ts:List (Addr×List Int)}{ep:Nat}
def rA (sl i:Nat)(a:Addr)(n ep:Nat):Obj:={cls:=.type "set_iterator",dict:=none,data:=.fields #[.int sl 0,.int i 0,.ref a,.int n 0,.int ep 0],slots:=#[]}
theorem mS {sl i n:Nat} (h:s.heap.get? it=some (rA sl i a n ep)):s.TypeIs (.ref it) "set_iterator" := ⟨_,h,rfl⟩
theorem tV {α β:Type}{f:α->β}:∀{ts:List α} {l:List β},l.Perm (ts.map f)->∃us:List α,us.Perm ts/\l=us.map f
 |[],l,h=>⟨[],.refl _,List.perm_nil.mp h⟩
 |x::ts,l,h=>by
  obtain⟨l1,l2,rfl⟩:=List.append_of_mem (h.mem_iff.mpr (show f x∈(x::ts).map f from Yo))
  have h':(l1++l2).Perm (ts.map f):=(abL.symm.trans h).cons_inv;obtain⟨us,h1,h2⟩:=tV h';obtain⟨u1,u2,rfl,e1,e2⟩:=List.map_eq_append_iff.mp h2.symm;refine⟨u1++x::u2,abL.trans (h1.cons x),?_⟩;rw[YN,YA,e1,e2]
end
section
variable {prog:Yk}{w:YB}{A:Zc}{E:Yc->Yg->Prop}{s:Yg}
def nC (w:YB):Obj:={cls:=.type "set",dict:=none,data:=.set #[] 0 (.fresh 0 0 (!Dw w))}
theorem B_ {xs:List Yc} {R:Yc->Yg->Prop} (hc:checkBuiltinCall "set.__new__" ⟨.type "set" :: xs,[]⟩=pure ()) (hx:xs=[]\/∃v,xs=[v]) (q:R (.ref s.heap.objs.size) {s with heap:=s.heap.push (nC w)}) :
  abx (model prog w) A (.call (.builtin "set.__new__") ⟨.type "set" :: xs,[]⟩) (wants R E) s:=by
 refine codeAny_of_tree ?_;show YM _ A.in1 (checkBuiltinCall "set.__new__" ⟨.type "set" :: xs,[]⟩ >>= λ_=>again (.builtin "set.__new__" ⟨.type "set" :: xs,[]⟩)) _ _ s;refine Yd (wpAny_of_eq hc (Ym ⟨plainId_quiet F.plain_set_new _,aaS F.entry_set_new ?_⟩));rw[aaE F.plain_set_new _];unfold Z_.«set.__new__» Builtin.Frozenset.newClass;have U_:=sub_set_self;obtain⟨hp,gs,dr,tk,os⟩:=s;rcases hx with rfl|⟨v,rfl⟩
 all_goals
  dsimp only
  wp_walk
  refine abK (Ym ?_);dsimp only;simp only[newObj];exact Yd (wpAny_alloc (Ym (Ym q)))
end
end ST
namespace TS
open PySem PyProof.Rows
section
variable {prog:Yk}{w:YB}{A:Zc}{E:Yc->Yg->Prop}{s:Yg}
theorem vK {x:Yc}{vs:List Yc}{kf:Yc->List Int}{Q:Yc->Yg->Prop}(hz:vs.length<=1000000)
  (col:∀(R:List Yc->Yg->Prop),(∀(h':Heap) (tk:Nat),(∀b o,s.heap.get? b=some o->h'.get? b=some o)->R vs {s with heap:=h',toks:=tk})->YM (model prog w) A.in1 (collect x) R E s)
  (T:vh s.heap kf s.heap.objs.size vs)
  (h:∀(out:List Yc) (h1 h':Heap) (tk:Nat) (n:Nat),out.Perm vs->out.Pairwise (λx y=>HT.lexLt (kf y) (kf x)=false)->(∀b o,s.heap.get? b=some o->h1.get? b=some o)->(∀b o,h1.get? b=some o->h'.get? b=some o)->h'.get? h1.objs.size=some (aak "list" out.toArray n)->Q (.ref h1.objs.size) {s with heap:=h',toks:=tk}) :
  YM (model prog w) A (call (.builtin "sorted") [x]) Q E s:=by
 refine Calls.call_function_entry kind_sorted plain_sorted entry_sorted (args_sorted1 _) ?_;unfold Z_.«sorted»
 refine Yd (m:=checkCount "sorted" 1 1 _) (Ym ?_);refine Yd (col _ λh' tk kp=>?_);have nl:vs.length<=Yy:=by rw[Zv];lia
 refine Yd (wpAny_newList ?_ nl);have hl:(h'.push (aak "list" vs.toArray 0)).get? h'.objs.size=some (aak "list" vs.toArray 0):=Y0 _ rfl;have T':vh (h'.push (aak "list" vs.toArray 0)) kf h'.objs.size vs:=λv hv=>by
  obtain⟨t,o,xs,k,e1,_,e3,r⟩:=T v hv;exact⟨t,o,xs,k,e1,YZ (YC (kp _ _ e3)),Yv _ (kp _ _ e3),r⟩
 refine Yd (Z0 (ZX slot_list_sort ⟨_,hl,rfl⟩ entry_list_sort (wd (s:={s with heap:=h'.push (aak "list" vs.toArray 0),toks:=tk}) hl hz T' λout hp hs=>⟨_,rfl,?_⟩) (args_list_sort _)))
 obtain⟨n,hn⟩:=sortedHeap_at (out:=out.toArray) hl;refine Ym ⟨_,rfl,h out h' _ tk n hp hs kp (λb o e=>?_) hn⟩;have hb:=YC e;rw[sortedHeap_old (YZ hb) (by rw[size_push'];exact aby hb)]
 exact Yv _ e
end
end TS
namespace ST
open PySem PyProof.Rows
section
end
end ST
namespace L2
open PySem PySem.Spec PySem.SeqAt PyProof.Rows HT
theorem qk:∀a:List Int,lexLt a a=false
 |[]=>rfl
 |x::xs=>by rw[bU,if_pos rfl];exact qk xs
theorem fY:∀{a b:List Int},lexLt a b=false->lexLt b a=false->a=b
 |[],[],_,_=>rfl
 |[],_::_,h,_=>by cases h
 |_::_,[],_,h=>by cases h
 |x::xs,y::ys,h1,h2=>by
  rw[bU]at h1 h2
  by_cases e:x=y
  ·subst e;rw[if_pos rfl]at h1 h2;rw[fY h1 h2]
  ·rw[if_neg e]at h1;rw[if_neg (λz=>e z.symm)]at h2;have:=of_decide_eq_false h1;have:=of_decide_eq_false h2;omega
theorem iT:∀{a b:List Int},lexLt a b=true->lexLt b a=false
 |[],[],h=>by cases h
 |[],_::_,_=>rfl
 |_::_,[],h=>by cases h
 |x::xs,y::ys,h=>by
  rw[bU]at h ⊢
  by_cases e:x=y
  ·subst e;rw[if_pos rfl]at h ⊢
   exact iT h
  ·rw[if_neg e]at h;rw[if_neg (λz=>e z.symm)];have:=of_decide_eq_true h;exact decide_eq_false (by lia)
theorem e_:∀{a b c:List Int},lexLt a b=true->lexLt b c=true->lexLt a c=true
 |[],[],_,h,_=>by cases h
 |[],_::_,[],_,h=>by cases h
 |[],_::_,_::_,_,_=>rfl
 |_::_,[],_,h,_=>by cases h
 |x::xs,y::ys,[],_,h=>by cases h
 |x::xs,y::ys,z::zs,h1,h2=>by
  rw[bU]at h1 h2 ⊢
  by_cases e:x=y
  ·subst e;rw[if_pos rfl]at h1
   by_cases e2:x=z
   ·subst e2;rw[if_pos rfl]at h2 ⊢
    exact e_ h1 h2
   ·rw[if_neg e2]at h2 ⊢
    exact h2
  ·rw[if_neg e]at h1;have q1:=of_decide_eq_true h1
   by_cases e2:y=z
   ·subst e2;rw[if_neg e];exact h1
   ·rw[if_neg e2]at h2;have q2:=of_decide_eq_true h2;rw[if_neg (by omega)]
    exact decide_eq_true (by omega)
def wu (k:List Int):List (List Int)->List (List Int)
 |[]=>[k]
 |x::xs=>if lexLt x k=true then x::wu k xs else k::x::xs
def lr:List (List Int)->List (List Int)
 |[]=>[]
 |k::ks=>wu k (lr ks)
theorem kU (k:List Int):∀xs,(wu k xs).Perm (k::xs)
 |[]=>.refl _
 |x::xs=>by
  unfold wu
  split
  ·exact((kU k xs).cons x).trans (List.Perm.swap _ _ _)
  ·exact .refl _
theorem jq:∀ks,(lr ks).Perm ks
 |[]=>.refl _
 |k::ks=>(kU k (lr ks)).trans ((jq ks).cons k)
abbrev vi (ks:List (List Int)):Prop:=ks.Pairwise λx y=>HT.lexLt y x=false
theorem le_trans' {a b c:List Int}(h1:lexLt b a=false)(h2:lexLt c b=false):lexLt c a=false:=by
 cases h:lexLt c a with
 |false=>rfl
 |true =>
  cases hb:lexLt a b with
  |true=>rw[e_ h hb]at h2;cases h2
  |false =>
   have:=fY hb h1;subst this;rw[h]at h2;cases h2
theorem qq (k:List Int):∀xs,vi xs->vi (wu k xs)
 |[],_=>by simp[wu]
 |x::xs,h=>by
  obtain⟨h1,h2⟩:=Za.mp h;unfold wu
  split
  ·rename_i hx
   refine Za.mpr ⟨λy hy=>?_,qq k xs h2⟩;rcases Yi.mp ((kU k xs).mem_iff.mp hy)with rfl|hy
   ·exact iT hx
   ·exact h1 y hy
  ·rename_i hx
   have CF:lexLt x k=false:=by cases q:lexLt x k <;> simp_all
   refine Za.mpr ⟨λy hy=>?_,h⟩;rcases Yi.mp hy with rfl|hy
   ·exact CF
   ·exact le_trans' CF (h1 y hy)
theorem mQ:∀ks,vi (lr ks)
 |[]=>.nil
 |k::ks=>qq k _ (mQ ks)
theorem lq:∀{a b:List (List Int)},a.Perm b->vi a->vi b->a=b
 |[],b,p,_,_=>by rw[List.nil_perm.mp p]
 |x::a,[],p,_,_=>by have:=p.length_eq;simp at this
 |x::a,y::b,p,ha,hb=>by
  obtain⟨a1,a2⟩:=Za.mp ha;obtain⟨b1,b2⟩:=Za.mp hb;have Rf:x=y:=by
   rcases Yi.mp (p.mem_iff.mp (Yo (a:=x) (l:=a)))with h|h
   ·exact h
   ·rcases Yi.mp (p.mem_iff.mpr (Yo (a:=y) (l:=b)))with h' | h'
    ·exact h'.symm
    ·exact fY (b1 x h) (a1 y h')
  subst Rf;rw[lq (List.perm_cons x |>.mp p) a2 b2]
theorem Ib {a b:List (List Int)}(p:a.Perm b)(h:vi a):a=lr b:=lq (p.trans (jq b).symm) h (mQ b)
abbrev kD (k:List Int):D:=.tup (k.map D.int)
def jJ:List D->Option (List (List Int))
 |[]=>some []
 |.tup a::ds=>match bz a,jJ ds with
  |some k,some ks=>if k=[] then none else some (k::ks)
  |_,_=>none
 |_::_=>none
theorem nQ:∀{ds:List D} {ks:List (List Int)},jJ ds=some ks->ds=ks.map kD/\∀k∈ks,k≠[]
 |[],_,h=>by cases h;exact⟨rfl,λ_ z=>nomatch z⟩
 |.tup a::ds,ks,h=>by
  have h':(match bz a,jJ ds with|some k,some ks=>if k=[] then none else some (k::ks)|_,_=>none)=some ks:=h
  cases ea:bz a with
  |none=>rw[ea]at h';cases h'
  |some k =>
   cases eb:jJ ds with
   |none=>rw[ea,eb]at h';cases h'
   |some kr =>
    rw[ea,eb]at h'
    by_cases hk:k=[]
    ·simp[hk]at h'
    ·simp only[hk,if_false,Option.some.injEq]at h';subst h';obtain⟨h1,h2⟩:=nQ eb;rw[YA,<- h1,jM ea];refine⟨rfl,λx hx=>?_⟩;rcases Yi.mp hx with rfl|hx
     ·exact hk
     ·exact h2 x hx
 |.cX::_,_,h=>by cases h
 |.bl _::_,_,h=>by cases h
 |.str _::_,_,h=>by cases h
 |.obj _::_,_,h=>by cases h
 |.int _::_,_,h=>by cases h
 |.lst _::_,_,h=>by cases h
 |.dT _ _::_,_,h=>by cases h
 |.dK _ _::_,_,h=>by cases h
 |.sT _::_,_,h=>by cases h
 |.ob _::_,_,h=>by cases h
theorem kR:∀{ks:List (List Int)},(∀k∈ks,k≠[])->jJ (ks.map kD)=some ks
 |[],_=>rfl
 |k::ks,h=>by
  show (match bz (k.map D.int),jJ (ks.map kD)with|some k,some ks=>if k=[] then none else some (k::ks)|_,_=>none)=_
  rw[cH,kR λx hx=>h x (Yn _ hx)];simp[h k (Yo ..)]
section
variable {P:Yk}{w:YB}{W:Addr->Prop}{H:Hp}
theorem kQ:∀{ks:List (List Int)} {vs:List V},(∀k∈ks,k≠[])->aj P w W H (ks.map kD) vs->∃ts:List (Addr×List Int),vs=ts.map yR/\Gn H ts/\ts.map (·.2)=ks
 |[],_,_,h=>⟨[],h,(λ_ z=>nomatch z),rfl⟩
 |k::ks,_,hk,⟨v,r,e,⟨a,us,e1,e2,e3⟩,h2⟩=>by
  obtain⟨ts,q1,q2,q3⟩:=kQ (λx hx=>hk x (Yn _ hx)) h2;refine⟨(a,k)::ts,by rw[e,e1,q1];rfl,λt ht=>?_,by rw[YA,q3]⟩
  rcases Yi.mp ht with rfl|ht
  ·rw[bq e3]at e2;exact⟨e2,hk k (Yo ..)⟩
  ·exact q2 t ht
theorem pX:∀{ts:List (Addr×List Int)},(∀t∈ts,H t.1=some (.tup (t.2.map V.int)))->aj P w W H ((ts.map (·.2)).map kD) (ts.map yR)
 |[],_=>rfl
 |t::ts,h=>⟨_,_,rfl,⟨t.1,_,rfl,h t (Yo ..),qp t.2⟩,pX λx hx=>h x (Yn _ hx)⟩
end
section
end
def b7:FD:=λds R=>∃n:Int,ds=[.int n]/\0<n/\n<2 ^ 200/\∀r:Int,0<=r->r<n->R (.int r)
theorem b7.mono:cW b7:=λds R R' k ⟨n,e,h1,h2,q⟩=>⟨n,e,h1,h2,λr a b=>k _ (q r a b)⟩
section
end
section
variable {X:Cx}{W:Addr->Prop}{H:Hp}
theorem zC {p:Addr}{vs:List V}{ds:List D}(n:H p=none)(f:NL (.lst ds))(r:lM X W H ds vs):Rp X (λa=>H a≠none) (upd H p (.lst vs)) (.lst ds) (.ref p) :=
 ⟨p,vs,rfl,az,λz=>z n,aj.flat f (r.same (ay.new n))⟩
def QC (X:Cx)(f:D->D->Option D):R2:=λx y H Q=>∃W d1 d2 d,Dm W H/\Rp X W H d1 x/\Rp X W H d2 y/\f d1 d2=some d/\∀v H',ay H H'->Rp X W H' d v->(NL d->Rp X (λa=>H a≠none) H' d v)->Q v H'
def QB (X:Cx)(f:List D->Option D):List V->Hp->VK->Prop:=λxs H Q=>∃W ds d,Dm W H/\lM X W H ds xs/\f ds=some d/\∀v H',ay H H'->Rp X W H' d v->(NL d->Rp X (λa=>H a≠none) H' d v)->Q v H'
def LV (X:Cx)(f:D->Option Int->Option Int->Option D):V->Option Int->Option Int->Hp->VK->Prop:=λx lo hi H Q=>∃W d1 d,Dm W H/\Rp X W H d1 x/\f d1 lo hi=some d/\∀v H',ay H H'->Rp X W H' d v->(NL d->Rp X (λa=>H a≠none) H' d v)->Q v H'
abbrev OW (X:Cx)(f:Yc->Yc->Sem Yc)(g:D->D->Option D):Prop:=gU X f (QC X g)
abbrev DK (X:Cx)(f:Yc)(g:List D->Option D):Prop:=fI X f (QB X g)
theorem au:OW X (Z5 .Add) wU:=by
 intro pins s σ H x y v u Q I rx ry h;obtain⟨W,d1,d2,d,hd,r1,r2,e,q⟩:=h;rcases zF e with⟨a,b,rfl,rfl,e⟩|e
 ·obtain⟨hl,rfl⟩:=c_ e;obtain⟨p,vs,rfl,h1,n1,q1⟩:=r1;obtain⟨p',vs',rfl,h2,n2,q2⟩:=r2;exact BS pins s σ H _ _ v u Q I rx ry ⟨p,p',vs,vs',rfl,rfl,h1,h2,by rw[q1.length,q2.length];exact hl,λl lS=>q _ _ (ay.new lS) (Rp.kL hd lS (q1.append q2)) λf=>zC lS f (q1.append q2)⟩
 ·obtain⟨i,j,rfl,rfl,e⟩:=kT e;cases e;cases r1;cases r2;exact rX pins s σ H _ _ v u Q I rx ry ⟨i,j,rfl,rfl,q _ _ (ay.refl _) rfl λ_=>rfl⟩
theorem xr:Ta X (LV X Ou):=by
 intro pins s σ H x v vl vu lo hi sl Q I rx hs pl pu h;obtain⟨W,d1,d,hd,r1,e,q⟩:=h;cases d1 with
 |lst ds =>
  cases e;obtain⟨p,vs,rfl,h1,n1,q1⟩:=r1;have rr:lM X W H (cutD ds lo hi) (u5 vs lo hi):=by
   unfold u5 cutD;rw[q1.length];exact(aj.drop _ q1).take _
  exact xq pins s σ H _ v vl vu lo hi sl Q I rx hs pl pu ⟨p,vs,rfl,dh.of h1,λl hl=>q _ _ (ay.new hl) (Rp.kL hd hl rr) λf=>zC hl f rr⟩
 |_=>cases e
theorem u_:DK X (.type "list") dList:=by
 intro pins s σ H xs us Q I r h;obtain⟨W,ds,d,hd,r1,e,q⟩:=h
 match ds,e with
 |[.lst es],e =>
  cases e;obtain⟨v,r',rfl,⟨p,vs,rfl,h1,n1,q1⟩,hr⟩:=r1;cases hr;exact jX pins s σ H _ us Q I r ⟨p,vs,rfl,.inl (dh.of h1),λl hl=>q _ _ (ay.new hl) (Rp.kL hd hl q1) λf=>zC hl f q1⟩
 |[.tup es],e =>
  cases e;obtain⟨v,r',rfl,⟨p,vs,rfl,h1,q1⟩,hr⟩:=r1;cases hr;exact jX pins s σ H _ us Q I r ⟨p,vs,rfl,.inr (sM.of h1),λl hl=>q _ _ (ay.new hl) (Rp.kL hd hl q1) λf=>zC hl f q1⟩
end
section
end
end L2
namespace L2.Q
open PySem PySem.Spec PySem.SeqAt PyProof.Rows
section
variable (P:Yk)(w:YB)(H:Hp)
mutual
def Own:D->V->List Addr->Prop
 |.tup ds,v,A=>∃a vs,v=.ref a/\H a=some (.tup vs)/\aP ds vs A
 |.lst ds,v,A=>∃a vs A',v=.ref a/\H a=some (.lst vs)/\A=a::A'/\aP ds vs A'
 |.dT ks ds,v,A=>∃a vs A',v=.ref a/\H a=some (.dT (ks.zip vs))/\ks.length=vs.length/\A=a::A'/\aP ds vs A'
 |.dK ks ds,v,A=>∃a vs A',v=.ref a/\H a=some (.dK (ks.zip vs))/\ks.length=vs.length/\A=a::A'/\aP ds vs A'
 |.sT ts,v,A=>∃a,v=.ref a/\Gp P w H a ts/\A=[a]
 |.ob φ,v,A=>∃a,v=.ref a/\(H a=some (φ a)/\∀xs,φ a≠.tup xs)/\A=[a]
 |.cX,v,A=>v=.cX/\A=[]
 |.bl b,v,A=>v=.bl b/\A=[]
 |.int i,v,A=>v=.int i/\A=[]
 |.str x,v,A=>v=.str x/\A=[]
 |.obj a,v,A=>v=.ref a/\A=[]
def aP:List D->List V->List Addr->Prop
 |[],vs,A=>vs=[]/\A=[]
 |d::ds,vs,A=>∃v r A1 A2,vs=v::r/\A=A1++A2/\Own d v A1/\aP ds r A2
end
end
section
variable {P:Yk}{w:YB}{W:Addr->Prop}{H H':Hp}
theorem y8 {a:Addr}{ts:List (List Int)}(k:∀b xs,H b=some (.tup xs)->H' b=some (.tup xs))(ha:∀o,H a=some o->H' a=some o)(h:Gp P w H a ts):Gp P w H' a ts :=
 let ⟨fw,e,r,z⟩:=h;⟨fw,ha _ e,λx hx=>k _ _ (r x hx),z⟩
mutual
theorem Own.keep (k:∀b xs,H b=some (.tup xs)->H' b=some (.tup xs)):∀{d:D} {v:V} {A:List Addr},(∀c∈A,∀o,H c=some o->H' c=some o)->Own P w H d v A->Own P w H' d v A
 |.tup ds,_,_,ha,⟨a,vs,e,t,r⟩=>⟨a,vs,e,k a vs t,aP.keep k ha r⟩
 |.lst ds,_,_,ha,⟨a,vs,A',e,t,eA,r⟩=>⟨a,vs,A',e,ha a (by rw[eA];simp) _ t,eA,aP.keep k (λc hc=>ha c (by rw[eA];simp[hc])) r⟩
 |.dT ks ds,_,_,ha,⟨a,vs,A',e,t,l,eA,r⟩=>⟨a,vs,A',e,ha a (by rw[eA];simp) _ t,l,eA,aP.keep k (λc hc=>ha c (by rw[eA];simp[hc])) r⟩
 |.dK ks ds,_,_,ha,⟨a,vs,A',e,t,l,eA,r⟩=>⟨a,vs,A',e,ha a (by rw[eA];simp) _ t,l,eA,aP.keep k (λc hc=>ha c (by rw[eA];simp[hc])) r⟩
 |.sT ts,_,_,ha,⟨a,e,r,eA⟩=>⟨a,e,y8 k (λo ho=>ha a (by rw[eA];simp) o ho) r,eA⟩
 |.ob φ,_,_,ha,⟨a,e,r,eA⟩=>⟨a,e,⟨ha a (by rw[eA];simp) _ r.1,r.2⟩,eA⟩
 |.cX,_,_,_,h=>h
 |.bl _,_,_,_,h=>h
 |.int _,_,_,_,h=>h
 |.str _,_,_,_,h=>h
 |.obj _,_,_,_,h=>h
theorem aP.keep (k:∀b xs,H b=some (.tup xs)->H' b=some (.tup xs)):∀{ds:List D} {vs:List V} {A:List Addr},(∀c∈A,∀o,H c=some o->H' c=some o)->aP P w H ds vs A->aP P w H' ds vs A
 |[],_,_,_,h=>h
 |d::ds,_,_,ha,⟨v,r,A1,A2,e,eA,h1,h2⟩=>⟨v,r,A1,A2,e,eA,Own.keep k (λc hc=>ha c (by rw[eA];simp[hc])) h1,aP.keep k (λc hc=>ha c (by rw[eA];simp[hc])) h2⟩
end
mutual
theorem Own.rep:∀{d:D} {v:V} {A:List Addr},(∀c∈A,¬ W c)->Own P w H d v A->aB P w W H d v
 |.tup ds,_,_,ha,⟨a,vs,e,t,r⟩=>⟨a,vs,e,t,aP.rep ha r⟩
 |.lst ds,_,_,ha,⟨a,vs,A',e,t,eA,r⟩=>⟨a,vs,e,t,ha a (by rw[eA];simp),aP.rep (λc hc=>ha c (by rw[eA];simp[hc])) r⟩
 |.dT ks ds,_,_,ha,⟨a,vs,A',e,t,l,eA,r⟩=>⟨a,vs,e,t,l,ha a (by rw[eA];simp),aP.rep (λc hc=>ha c (by rw[eA];simp[hc])) r⟩
 |.dK ks ds,_,_,ha,⟨a,vs,A',e,t,l,eA,r⟩=>⟨a,vs,e,t,l,ha a (by rw[eA];simp),aP.rep (λc hc=>ha c (by rw[eA];simp[hc])) r⟩
 |.sT ts,_,_,ha,⟨a,e,r,eA⟩=>⟨a,e,r,ha a (by rw[eA];simp)⟩
 |.ob φ,_,_,ha,⟨a,e,r,eA⟩=>⟨a,e,r,ha a (by rw[eA];simp)⟩
 |.cX,_,_,_,h=>h.1
 |.bl _,_,_,_,h=>h.1
 |.int _,_,_,_,h=>h.1
 |.str _,_,_,_,h=>h.1
 |.obj _,_,_,_,h=>h.1
theorem aP.rep:∀{ds:List D} {vs:List V} {A:List Addr},(∀c∈A,¬ W c)->aP P w H ds vs A->aj P w W H ds vs
 |[],_,_,_,h=>h.1
 |d::ds,_,_,ha,⟨v,r,A1,A2,e,eA,h1,h2⟩=>⟨v,r,e,Own.rep (λc hc=>ha c (by rw[eA];simp[hc])) h1,aP.rep (λc hc=>ha c (by rw[eA];simp[hc])) h2⟩
end
mutual
theorem Own.oS:∀{d:D} {v:V} {A:List Addr},Own P w H d v A->∀c∈A,H c≠none/\∀xs,H c≠some (.tup xs)
 |.tup ds,_,_,⟨a,vs,e,t,r⟩,c,hc=>aP.oS r c hc
 |.lst ds,_,_,⟨a,vs,A',e,t,eA,r⟩,c,hc=>by
  rw[eA]at hc;rcases Yi.mp hc with rfl|hc
  ·rw[t];exact⟨λz=>(nomatch z),λxs z=>by cases z⟩
  ·exact aP.oS r c hc
 |.dT ks ds,_,_,⟨a,vs,A',e,t,l,eA,r⟩,c,hc=>by
  rw[eA]at hc;rcases Yi.mp hc with rfl|hc
  ·rw[t];exact⟨λz=>(nomatch z),λxs z=>by cases z⟩
  ·exact aP.oS r c hc
 |.dK ks ds,_,_,⟨a,vs,A',e,t,l,eA,r⟩,c,hc=>by
  rw[eA]at hc;rcases Yi.mp hc with rfl|hc
  ·rw[t];exact⟨λz=>(nomatch z),λxs z=>by cases z⟩
  ·exact aP.oS r c hc
 |.sT ts,_,_,⟨a,e,⟨fw,t,r,z⟩,eA⟩,c,hc=>by
  rw[eA]at hc;rw[Ys.mp hc,t];exact⟨λz=>(nomatch z),λxs z=>by cases z⟩
 |.ob φ,_,_,⟨a,e,⟨t,z⟩,eA⟩,c,hc=>by
  rw[eA]at hc;rw[Ys.mp hc,t];exact⟨λz=>(nomatch z),λxs q=>z xs (YU q)⟩
 |.cX,_,_,h,c,hc=>by rw[h.2]at hc;cases hc
 |.bl _,_,_,h,c,hc=>by rw[h.2]at hc;cases hc
 |.int _,_,_,h,c,hc=>by rw[h.2]at hc;cases hc
 |.str _,_,_,h,c,hc=>by rw[h.2]at hc;cases hc
 |.obj _,_,_,h,c,hc=>by rw[h.2]at hc;cases hc
theorem aP.oS:∀{ds:List D} {vs:List V} {A:List Addr},aP P w H ds vs A->∀c∈A,H c≠none/\∀xs,H c≠some (.tup xs)
 |[],_,_,h,c,hc=>by rw[h.2]at hc;cases hc
 |d::ds,_,_,⟨v,r,A1,A2,e,eA,h1,h2⟩,c,hc=>by
  rw[eA]at hc;rcases YL.mp hc with hc|hc
  ·exact Own.oS h1 c hc
  ·exact aP.oS h2 c hc
end
mutual
theorem fB:∀{d:D} {v:V},d.flat=true->aB P w W H d v->Own P w H d v []
 |.tup ds,_,f,⟨a,vs,e,t,r⟩=>⟨a,vs,e,t,kB (by simpa[D.flat] using f) r⟩
 |.lst ds,_,f,_=>by simp[D.flat]at f
 |.dT ks ds,_,f,_=>by simp[D.flat]at f
 |.dK ks ds,_,f,_=>by simp[D.flat]at f
 |.sT ts,_,f,_=>by simp[D.flat]at f
 |.ob φ,_,f,_=>by simp[D.flat]at f
 |.cX,_,_,h=>⟨h,rfl⟩
 |.bl _,_,_,h=>⟨h,rfl⟩
 |.int _,_,_,h=>⟨h,rfl⟩
 |.str _,_,_,h=>⟨h,rfl⟩
 |.obj _,_,_,h=>⟨h,rfl⟩
theorem kB:∀{ds:List D} {vs:List V},D.cR ds=true->aj P w W H ds vs->aP P w H ds vs []
 |[],_,_,h=>⟨h,rfl⟩
 |d::ds,_,f,⟨v,r,e,h1,h2⟩=>by
  have f':(d.flat&&D.cR ds)=true:=f;rw[Zi]at f';exact⟨v,r,[],[],e,rfl,fB f'.1 h1,kB f'.2 h2⟩
end
theorem aP.length:∀{ds:List D} {vs:List V} {A:List Addr},aP P w H ds vs A->vs.length=ds.length
 |[],_,_,h=>by rw[h.1];rfl
 |d::ds,_,_,⟨v,r,A1,A2,e,eA,h1,h2⟩=>by rw[e,Yw,Yw,aP.length h2]
theorem aP.append:∀{ds ds':List D} {vs vs':List V} {A A':List Addr},aP P w H ds vs A->aP P w H ds' vs' A'->aP P w H (ds++ds') (vs++vs') (A++A')
 |[],_,_,_,_,_,h,h'=>by rw[h.1,h.2];exact h'
 |d::ds,_,_,_,_,_,⟨v,r,A1,A2,e,eA,h1,h2⟩,h'=>by
  subst e eA;exact⟨v,_,A1,_,rfl,by rw[Zj],h1,aP.append h2 h'⟩
theorem aP.one {d:D}{v:V}{A:List Addr}(h:Own P w H d v A):aP P w H [d] [v] A:=⟨v,[],A,[],rfl,by simp,h,rfl,rfl⟩
theorem aP.split:∀{ds:List D} {vs:List V} {A:List Addr} {i:Nat} {d:D},aP P w H ds vs A->ds[i]?=some d->∃v A1 A2 A3,vs[i]?=some v/\A=A1++(A2++A3)/\aP P w H (ds.take i) (vs.take i) A1/\Own P w H d v A2/\aP P w H (ds.drop (i+1)) (vs.drop (i+1)) A3
 |[],_,_,_,_,_,e=>by simp at e
 |d::ds,_,_,0,_,⟨v,r,A1,A2,e,eA,h1,h2⟩,e'=>by
  simp at e';subst e' e eA;exact⟨v,[],A1,A2,by simp,by simp,⟨rfl,rfl⟩,h1,by simpa using h2⟩
 |d::ds,_,_,i+1,_,⟨v,r,A1,A2,e,eA,h1,h2⟩,e'=>by
  subst e eA;obtain⟨u,B1,B2,B3,g1,g2,g3,g4,g5⟩:=aP.split (i:=i) h2 (by simpa using e')
  exact⟨u,A1++B1,B2,B3,by simpa using g1,by rw[g2];simp[Zj],by simpa using ⟨v,_,A1,B1,rfl,rfl,h1,g3⟩,g4,by simpa using g5⟩
end
inductive Kd where
 |own|gj|old|bor
inductive B where
 |val (y:Bool) (d:D)|own (d:D)|hand (ok:List Int->Prop)|shl (y:Bool) (d:D)
abbrev a8:=List (Option B)
structure Cfg where
 H0:Hp
 IO:Addr->Prop
 /-- is the result to be L_ own -/
 ro:Bool
 /-- what else QV data keeps off -/
 U:Addr->Prop:=λ_=>False
abbrev Wn (own:Nat->List Addr):Addr->Prop:=λa=>∃i,a∈own i
def av (C:Cfg)(W:Addr->Prop):Kd->Addr->Prop
 |.own,a=>W a\/C.H0 a≠none
 |.gj,a=>W a\/C.H0 a≠none
 |.old,a=>W a
 |.bor,_=>False
def iI (C:Cfg)(W:Addr->Prop)(k:Kd)(a:Addr):Prop:=av C W k a\/C.U a
abbrev yk (y:Bool):Kd:=match y with|true=>.gj|false=>.old
def Vg:D->HO->List V->Prop
 |.lst _,o,vs=>o=.lst vs
 |.dT ks _,o,vs=>o=.dT (ks.zip vs)/\ks.length=vs.length
 |.dK ks _,o,vs=>o=.dK (ks.zip vs)/\ks.length=vs.length
 |_,_,_=>False
def Vh:D->List D
 |.lst ds=>ds
 |.dT _ ds=>ds
 |.dK _ ds=>ds
 |_=>[]
def Lm (P:Yk)(w:YB)(W:Addr->Prop)(H:Hp)(d:D)(v:V)(A:List Addr):Prop:=∃a o vs,v=.ref a/\A=[a]/\H a=some o/\Vg d o vs/\aj P w W H (Vh d) vs
theorem Lm.map {P:Yk}{w:YB}{W W':Addr->Prop}{H H':Hp}{d:D}{v:V}{A:List Addr}(h:Lm P w W H d v A)(ha:∀c∈A,∀o,H c=some o->H' c=some o)(hr:∀ds vs,aj P w W H ds vs->aj P w W' H' ds vs):Lm P w W' H' d v A :=
 let ⟨a,o,vs,e1,e2,e3,e4,r⟩:=h;⟨a,o,vs,e1,e2,ha a (by rw[e2];simp) o e3,e4,hr _ _ r⟩
theorem Lm.rep {P:Yk}{w:YB}{W W':Addr->Prop}{H:Hp}{d:D}{v:V}{A:List Addr}(h:Lm P w W H d v A)(ha:∀c∈A,¬ W' c)(hs:∀ds vs,aj P w W H ds vs->aj P w W' H ds vs):aB P w W' H d v:=by
 obtain⟨a,o,vs,rfl,rfl,e,sh,r⟩:=h;have na:=ha a (by simp)
 replace r:=hs _ _ r;cases d with
 |lst ds=>cases sh;exact⟨a,vs,rfl,e,na,r⟩
 |dT ks ds=>obtain⟨rfl,l⟩:=sh;exact⟨a,vs,rfl,e,l,na,r⟩
 |dK ks ds=>obtain⟨rfl,l⟩:=sh;exact⟨a,vs,rfl,e,l,na,r⟩
 |_=>exact sh.elim
structure cI (P:Yk)(w:YB)(C:Cfg)(σ:St)(H:Hp)(β:a8)(own:Nat->List Addr):Prop where
 len:β.length=σ.length
 val:∀(i:Nat) (y:Bool) (d:D),β[i]?=some (some (.val y d))->∃v,σ[i]?=some (some v)/\aB P w (iI C (Wn own) (yk y)) H d v
 ow:∀(i:Nat) (d:D),β[i]?=some (some (.own d))->∃v,σ[i]?=some (some v)/\Own P w H d v (own i)/\∀c∈own i,C.H0 c=none
 vt:∀(i:Nat) (ok:List Int->Prop),β[i]?=some (some (.hand ok))->∃a ns,σ[i]?=some (some (.ref a))/\H a=some (.lst (ns.map V.int))/\ok ns/\own i=[a]/\((∀b,¬ C.IO b)\/C.IO a)
 dm:∀(i:Nat) (a:Addr),a∈own i->H a≠none/\(∀xs,H a≠some (.tup xs))/\(C.H0 a=none\/C.IO a)/\¬ C.U a
 ml:∀(i j:Nat) (a:Addr),a∈own i->a∈own j->i=j
 rZ:∀i,(own i).Nodup
 kp:Kp C.IO C.H0 H
 i8:∀a,C.H0 a≠none->H a≠none
 shl:∀(i:Nat) (y:Bool) (d:D),β[i]?=some (some (.shl y d))->∃v,σ[i]?=some (some v)/\Lm P w (iI C (Wn own) (yk y)) H d v (own i)/\∀c∈own i,C.H0 c=none
abbrev SQ (X:Cx):=cI X.prog X.w
section
variable {P:Yk}{w:YB}{C:Cfg}{σ:St}{H H':Hp}{β:a8}{own:Nat->List Addr}{W W':Addr->Prop}
theorem cI.wK (b:cI P w C σ H β own):Dm (Wn own) H:=λa ⟨i,h⟩=>(b.dm i a h).1
theorem cI.Di (b:cI P w C σ H β own)(k:Kd):Dm (av C (Wn own) k) H:=λa h=>by
 cases k with
 |own=>exact h.elim (b.wK a) (b.i8 a)
 |gj=>exact h.elim (b.wK a) (b.i8 a)
 |old=>exact b.wK a h
 |bor=>exact h.elim
theorem mx (s:∀a,W' a->W a)(k:Kd):∀a,av C W' k a->av C W k a:=λa h=>by
 cases k with
 |own=>exact h.imp (s a) id
 |gj=>exact h.imp (s a) id
 |old=>exact s a h
 |bor=>exact h
theorem oM (s:∀a,W' a->W a)(k:Kd):∀a,iI C W' k a->iI C W k a:=λa h=>h.imp (mx s k a) id
theorem cI.keep (b:cI P w C σ H β own)(k:Kp (λa=>H a=none) H H')(kp:Kp C.IO H H')(dn:∀a,H a≠none->H' a≠none):cI P w C σ H' β own:=by
 have ko:∀c o,H c=some o->H' c=some o:=λc o e=>k.out c o e (by rw[e];exact λz=>(nomatch z))
 have same:ay H H':=ko;exact⟨b.len,λi y d e=>let ⟨v,h1,h2⟩:=b.val i y d e;⟨v,h1,h2.same same⟩,λi d e=>let ⟨v,h1,h2,h3⟩:=b.ow i d e;⟨v,h1,h2.keep (λ_ _ e=>same _ _ e) (λc _ o e=>same c o e),h3⟩,
  λi ok e=>let ⟨a,ns,h1,h2,h3⟩:=b.vt i ok e;⟨a,ns,h1,same _ _ h2,h3⟩,λi a h=>by
   obtain⟨h1,h2,h3⟩:=b.dm i a h;cases q:H a with
   |none=>exact absurd q h1
   |some o=>rw[same a o q];exact⟨λz=>(nomatch z),λxs z=>h2 xs (by rw[q];exact z),h3⟩,b.ml,b.rZ,b.kp.trans kp,λa z=>dn a (b.i8 a z),λi y d e=>let ⟨v,h1,h2,h3⟩:=b.shl i y d e;⟨v,h1,h2.map (λc _ o e=>same c o e) (λ_ _ r=>r.same same),h3⟩⟩
theorem cI.same (b:cI P w C σ H β own)(s:ay H H'):cI P w C σ H' β own:=b.keep s.kp s.kp λa z e=>z (s.free e)
theorem j7 {own:Nat->List Addr}{i:Nat}{a:Addr}(h:Wn (a_ own i []) a):Wn own a:=let ⟨j,q⟩:=h;⟨j,(fU q).1⟩
theorem cj {own:Nat->List Addr}{i j:Nat}{A:List Addr}(h:i≠j):a_ own i A j=own j:=by unfold a_;rw[if_neg (aaF h)]
theorem os_eq {own:Nat->List Addr}{i:Nat}{A:List Addr}:a_ own i A i=A:=by unfold a_;rw[if_pos rfl]
theorem cI.iM {i:Nat}{d:D}{v:V}{y:Bool}(b:cI P w C σ H β own)(r:aB P w (iI C (Wn own) (yk y)) H d v):cI P w C (σ.set i (some v)) H (β.set i (some (.val y d))) (a_ own i []):=by
 have sub:∀y a,iI C (Wn (a_ own i [])) (yk y) a->iI C (Wn own) (yk y) a:=λy=>oM (λa h=>j7 h) _;refine⟨by simp[b.len],λj y' d' e=>?_,λj d' e=>?_,λj ok e=>?_,λj a h=>b.dm j a (fU h).1,λj k a h1 h2=>b.ml j k a (fU h1).1 (fU h2).1,λj=>?_,b.kp,b.i8,λj y' d' e=>?_⟩
 ·by_cases aX:i=j
  ·subst aX;obtain⟨e',hl⟩:=b8 e;cases e';exact⟨v,get_set (by rw[<- b.len];exact hl),r.aY (sub _)⟩
  ·rw[bS aX]at e ⊢
   obtain⟨u,h1,h2⟩:=b.val j y' d' e;exact⟨u,h1,h2.aY (sub _)⟩
 ·by_cases aX:i=j
  ·subst aX;obtain⟨e',hl⟩:=b8 e;cases e'
  ·rw[bS aX]at e ⊢
   rw[cj aX];exact b.ow j d' e
 ·by_cases aX:i=j
  ·subst aX;obtain⟨e',hl⟩:=b8 e;cases e'
  ·rw[bS aX]at e ⊢
   rw[cj aX];exact b.vt j ok e
 ·by_cases aX:i=j
  ·rw[aX,os_eq];exact ZF
  ·rw[cj aX];exact b.rZ j
 ·by_cases aX:i=j
  ·subst aX;obtain⟨e',hl⟩:=b8 e;cases e'
  ·rw[bS aX]at e ⊢
   rw[cj aX];obtain⟨u,h1,h2,h3⟩:=b.shl j y' d' e;exact⟨u,h1,h2.map (λ_ _ _ z=>z) (λ_ _ r=>aj.aY (sub _) r),h3⟩
theorem cI.A_ {i:Nat}{d:D}{v:V}{A:List Addr}(b:cI P w C σ H β own)(r:Own P w H d v A)(nd:A.Nodup)(nw:∀c∈A,C.H0 c=none/\¬ Wn own c/\C.U c):
  cI P w {C with U:=λ_=>False} (σ.set i (some v)) H (β.set i (some (.own d))) (a_ own i A):=by
 have sub:∀y a,iI {C with U:=λ_=>False} (Wn (a_ own i A)) (yk y) a->iI C (Wn own) (yk y) a:=λy a h=>by
  have q:∀a,Wn (a_ own i A) a->Wn own a\/a∈A:=λa JX=>by
   obtain⟨j,q⟩:=JX
   by_cases aX:i=j
   ·rw[aX,os_eq]at q;exact .inr q
   ·rw[cj aX]at q;exact .inl ⟨j,q⟩
  have q':∀a,Wn (a_ own i A) a->Wn own a\/C.U a:=λa z=>(q a z).imp id λz=>(nw a z).2.2;rcases h with h|h
  ·cases y with
   |true=>exact h.elim (λz=>(q' a z).imp .inl id) λz=>.inl (.inr z)
   |false=>exact q' a h
  ·exact h.elim
 have mem:∀{j c},c∈a_ own i A j->(i=j/\c∈A)\/(i≠j/\c∈own j):=λ{j c} h=>by
  by_cases aX:i=j
  ·subst aX;rw[os_eq]at h;exact .inl ⟨rfl,h⟩
  ·rw[cj aX]at h;exact .inr ⟨aX,h⟩
 refine⟨by simp[b.len],λj y' d' e=>?_,λj d' e=>?_,λj ok e=>?_,λj a h=>?_,λj k a h1 h2=>?_,λj=>?_,b.kp,b.i8,λj y' d' e=>?_⟩
 ·by_cases aX:i=j
  ·subst aX;obtain⟨e',hl⟩:=b8 e;cases e'
  ·rw[bS aX]at e ⊢
   obtain⟨u,h1,h2⟩:=b.val j y' d' e;exact⟨u,h1,h2.aY (sub _)⟩
 ·by_cases aX:i=j
  ·subst aX;obtain⟨e',hl⟩:=b8 e;cases e';rw[os_eq];exact⟨v,get_set (by rw[<- b.len];exact hl),r,λc hc=>(nw c hc).1⟩
  ·rw[bS aX]at e ⊢
   rw[cj aX];exact b.ow j d' e
 ·by_cases aX:i=j
  ·subst aX;obtain⟨e',hl⟩:=b8 e;cases e'
  ·rw[bS aX]at e ⊢
   rw[cj aX];exact b.vt j ok e
 ·rcases mem h with⟨_,h⟩|⟨_,h⟩
  ·exact⟨(r.oS a h).1,(r.oS a h).2,.inl (nw a h).1,λz=>z⟩
  ·exact⟨(b.dm j a h).1,(b.dm j a h).2.1,(b.dm j a h).2.2.1,λz=>z⟩
 ·rcases mem h1 with⟨e1,h1⟩|⟨n1,h1⟩
  ·rcases mem h2 with⟨e2,h2⟩|⟨n2,h2⟩
   ·rw[<- e1,<- e2]
   ·exact absurd ⟨k,h2⟩ (nw a h1).2.1
  ·rcases mem h2 with⟨e2,h2⟩|⟨n2,h2⟩
   ·exact absurd ⟨j,h1⟩ (nw a h2).2.1
   ·exact b.ml j k a h1 h2
 ·by_cases aX:i=j
  ·rw[<- aX,os_eq];exact nd
  ·rw[cj aX];exact b.rZ j
 ·by_cases aX:i=j
  ·subst aX;obtain⟨e',hl⟩:=b8 e;cases e'
  ·rw[bS aX]at e ⊢
   rw[cj aX];obtain⟨u,h1,h2,h3⟩:=b.shl j y' d' e;exact⟨u,h1,h2.map (λ_ _ _ z=>z) (λ_ _ r=>aj.aY (sub _) r),h3⟩
abbrev Cfg.u (C:Cfg)(U:Addr->Prop):Cfg:={C with U:=U}
theorem cI.tj {U:Addr->Prop}(b:cI P w C σ H β own)(hU:∀a,U a->H a=none):cI P w (C.u U) σ H β own :=
 ⟨b.len,λi y d e=>let ⟨v,h1,h2⟩:=b.val i y d e;⟨v,h1,aB.grow (λa z=>z.elim (λz=>.inl (.inl z)) λz=>.inr (hU a z)) h2⟩,b.ow,b.vt,λi a h=>let ⟨h1,h2,h3,_⟩:=b.dm i a h;⟨h1,h2,h3,λz=>h1 (hU a z)⟩,b.ml,b.rZ,b.kp,b.i8,λi y d e=>let ⟨v,h1,h2,h3⟩:=b.shl i y d e;⟨v,h1,h2.map (λ_ _ _ z=>z) (λ_ _ r=>aj.grow (λa z=>z.elim (λz=>.inl (.inl z)) λz=>.inr (hU a z)) r),h3⟩⟩
theorem cI.Vy {U:Addr->Prop}(b:cI P w (C.u U) σ H β own):cI P w (C.u λ_=>False) σ H β own :=
 ⟨b.len,λi y d e=>let ⟨v,h1,h2⟩:=b.val i y d e;⟨v,h1,aB.aY (λa z=>z.elim .inl λz=>z.elim) h2⟩,b.ow,b.vt,λi a h=>let ⟨h1,h2,h3,_⟩:=b.dm i a h;⟨h1,h2,h3,λz=>z⟩,b.ml,b.rZ,b.kp,b.i8,λi y d e=>let ⟨v,h1,h2,h3⟩:=b.shl i y d e;⟨v,h1,h2.map (λ_ _ _ z=>z) (λ_ _ r=>aj.aY (λa z=>z.elim .inl λz=>z.elim) r),h3⟩⟩
theorem cI.gD {i:Nat}{y:Bool}{d:D}(b:cI P w C σ H β own)(e:β[i]?=some (some (.val y d))):∃v,σ[i]?=some (some v)/\aB P w (av C (Wn own) (yk y)) H d v:=let ⟨v,h1,h2⟩:=b.val i y d e;⟨v,h1,aB.aY (λa z=>.inl z) h2⟩
end
def KV (P:Yk)(w:YB)(C:Cfg)(Z:Hp×(Addr->Prop))(own:Nat->List Addr)(H:Hp):Kd->D->V->Prop
 |.own,d,v=>∃A,Own P w H d v A/\A.Nodup/\∀c∈A,Z.1 c=none/\¬ Wn own c/\C.H0 c=none
 |.gj,d,v=>aB P w (av C (Wn own) .gj) H d v
 |.old,d,v=>aB P w (av C (Wn own) .old) H d v
 |.bor,d,v=>aB P w (av C (Wn own) .bor) H d v
structure Td (P:Yk)(w:YB)(C:Cfg)(σ:St)(H:Hp)(own:Nat->List Addr)(p:Bool)(β':a8)(H':Hp)(aS:Nat->List Addr):Prop where
 sq:cI P w C σ H' β' aS
 sn:Sn (H,Wn own) H' (Wn aS)
 pu:p=true->ay H H'/\aS=own
 le:∀a,Wn aS a->Wn own a
abbrev Out (X:Cx):=Td X.prog X.w
section
variable {X:Cx}{C:Cfg}{σ:St}{H H1 H2 H':Hp}{own aG a5:Nat->List Addr}{p p':Bool}{β β1 β2 β':a8}{Z:Hp×(Addr->Prop)}{d:D}{v:V}{k:Kd}{P:Yk}{w:YB}
theorem Out.refl (s:SQ X C σ H β own)(p:Bool):Out X C σ H own p β H own:=⟨s,Sn.refl,λ_=>⟨ay.refl _,rfl⟩,λ_ z=>z⟩
theorem Out.trans (a:Out X C σ H own p β1 H1 aG)(b:Out X C σ H1 aG p' β2 H2 a5):Out X C σ H own (p&&p') β2 H2 a5:=⟨b.sq,a.sn.trans b.sn,λh=>by
 rw[Zi]at h;obtain⟨s1,e1⟩:=a.pu h.1;obtain⟨s2,e2⟩:=b.pu h.2;exact⟨s1.trans s2,e2.trans e1⟩,λc z=>a.le c (b.le c z)⟩
theorem Out.same (a:Out X C σ H own p β1 H1 aG)(s:ay H1 H2):Out X C σ H own p β1 H2 aG:=⟨a.sq.same s,a.sn.same s,λh=>let ⟨s1,e1⟩:=a.pu h;⟨s1.trans s,e1⟩,a.le⟩
theorem Out.wk (a:Out X C σ H own p β1 H1 aG)(h:p'=true->p=true):Out X C σ H own p' β1 H1 aG:=⟨a.sq,a.sn,λz=>a.pu (h z),a.le⟩
theorem KV.rep (h:KV P w C Z own H k d v):aB P w (av C (Wn own) k) H d v:=by
 cases k with
 |own=>obtain⟨A,h1,h2,h3⟩:=h;exact h1.rep λc hc z=>z.elim (h3 c hc).2.1 λz=>z (h3 c hc).2.2
 |_=>exact h
theorem KV.gj (h:KV P w C Z own H .own d v):KV P w C Z own H .gj d v:=KV.rep (k:=.own) h
theorem KV.flat {W:Addr->Prop}(f:d.flat=true)(h:aB P w W H d v):KV P w C Z own H .own d v:=⟨[],fB f h,ZF,λc hc=>(nomatch hc)⟩
abbrev Kd.wk:Kd->Kd
 |.own=>.gj
 |.gj=>.gj
 |.old=>.old
 |.bor=>.bor
abbrev Kd.max:Kd->Kd->Kd
 |.bor,_=>.bor
 |_,.bor=>.bor
 |.old,_=>.old
 |_,.old=>.old
 |_,_=>.gj
theorem dg {W:Addr->Prop}{a b:Kd}:∀c,av C W (a.max b) c->av C W a c:=λc h=>by
 cases a <;> cases b <;> first|exact h|exact h.elim|exact .inl h
theorem gh {W:Addr->Prop}{a b:Kd}:∀c,av C W (a.max b) c->av C W b c:=λc h=>by
 cases a <;> cases b <;> first|exact h|exact h.elim|exact .inl h
theorem KV.of (h:aB P w (av C (Wn own) k.wk) H d v):KV P w C Z own H k.wk d v:=by
 cases k <;> exact h
theorem KV.LN (h:KV P w C Z own H k d v)(s:ay H H'):KV P w C Z own H' k d v:=by
 cases k with
 |own=>obtain⟨A,h1,h2⟩:=h;exact⟨A,h1.keep (λb xs e=>s _ _ e) (λc _ o e=>s c o e),h2⟩
 |gj=>exact aB.same s h
 |old=>exact aB.same s h
 |bor=>exact aB.same s h
theorem KV.held (hk:k≠.bor)(h:KV P w C Z own H k d v)(n:Sn (H,Wn own) H2 (Wn a5)):KV P w C Z a5 H2 k d v:=by
 cases k with
 |own =>
  obtain⟨A,h1,h2,h3⟩:=h;refine⟨A,h1.keep n.k.tup (λc hc o e=>n.k.out c o e λz=>z.elim (h3 c hc).2.1 λz=>(h1.oS c hc).1 z),h2,λc hc=>⟨(h3 c hc).1,λz=>(n.w c z).elim (h3 c hc).2.1 λz=>(h1.oS c hc).1 z,(h3 c hc).2.2⟩⟩
 |gj =>
  have g:aB P w (λa=>av C (Wn own) .gj a\/H a=none) H d v:=aB.grow (λb z=>z) h;exact aB.aY (λb z=>z.elim (λz=>(n.w b z).imp .inl id) λz=>.inl (.inr z)) (aB.keep (n.k.mono λb z=>z.imp .inl id) g)
 |old=>exact held (W:=Wn own) h n
 |bor=>exact absurd rfl hk
theorem KV.N8 (h:KV P w C Z own H k d v)(s:ay H H2)(e:a5=own):KV P w C Z a5 H2 k d v:=by rw[e];exact h.LN s
abbrev hold (k:Kd)(p:Bool):Prop:=match k,p with
 |.bor,false=>False
 |_,_=>True
theorem KV.ho (h:KV P w C Z own H k d v)(o:Out X C σ H own p β' H2 a5)(hh:hold k p):KV P w C Z a5 H2 k d v:=by
 cases p with
 |true=>obtain⟨s,e⟩:=o.pu rfl;exact h.N8 s e
 |false=>exact h.held (by rintro rfl;exact hh) o.sn
theorem KV.later (h:KV P w C (H1,Wn aG) own H k d v)(n:Sn Z H1 (Wn aG)):KV P w C Z own H k d v:=by
 cases k with
 |own=>obtain⟨A,h1,h2,h3⟩:=h;exact⟨A,h1,h2,λc hc=>⟨n.free (h3 c hc).1,(h3 c hc).2⟩⟩
 |_=>exact h
end
abbrev aV:=a8->(D->Kd->a8->Prop)->Prop
abbrev bc:=a8->(Bool->a8->Prop)->Prop
abbrev cV:=a8->(List D->List Kd->a8->Prop)->Prop
def tQ (X:Cx)(C:Cfg)(p:Bool)(φ:aV):TE:=λσ H Q=>∃β own,SQ X C σ H β own/\φ β λd k β'=>∀v H' aS,Out X C σ H own p β' H' aS->KV X.prog X.w C (H,Wn own) aS H' k d v->Q v H'
def lX (X:Cx)(C:Cfg)(p:Bool)(φ:bc):TT:=λσ H Q=>∃β own,SQ X C σ H β own/\φ β λb β'=>∀H' aS,Out X C σ H own p β' H' aS->Q b H'
def KF (P:Yk)(w:YB)(C:Cfg)(own:Nat->List Addr)(H:Hp):List Kd->List D->List V->List Addr->Prop
 |[],ds,vs,A=>ds=[]/\vs=[]/\A=[]
 |k::ks,ds,vs,A=>∃d dr v vr A1 A2,ds=d::dr/\vs=v::vr/\A=A1++A2/\(match k with | .own=>Own P w H d v A1|k=>A1=[]/\aB P w (av C (Wn own) k) H d v)/\KF P w C own H ks dr vr A2
def vp (P:Yk)(w:YB)(C:Cfg)(Z:Hp×(Addr->Prop))(own:Nat->List Addr)(H:Hp)(ks:List Kd)(ds:List D)(vs:List V):Prop :=
 ∃A,KF P w C own H ks ds vs A/\A.Nodup/\∀c∈A,Z.1 c=none/\¬ Wn own c/\C.H0 c=none
def xl (X:Cx)(C:Cfg)(p:Bool)(φ:cV):TA:=λσ H Q=>∃β own,SQ X C σ H β own/\φ β λds ks β'=>∀vs H' aS,Out X C σ H own p β' H' aS->vp X.prog X.w C (H,Wn own) aS H' ks ds vs->Q vs H'
section
variable {C:Cfg}{H H1:Hp}{own aG:Nat->List Addr}{Z:Hp×(Addr->Prop)}{d:D}{v:V}{k:Kd}{P:Yk}{w:YB}{ks:List Kd}{ds:List D}{vs:List V}
theorem vp.nil:vp P w C Z own H [] [] []:=⟨[],⟨rfl,rfl,rfl⟩,ZF,λc hc=>(nomatch hc)⟩
theorem KF.oS:∀{ks:List Kd} {ds:List D} {vs:List V} {A:List Addr},KF P w C own H ks ds vs A->∀c∈A,H c≠none
 |[],_,_,_,⟨_,_,e⟩,c,hc=>by rw[e]at hc;cases hc
 |k::ks,_,_,_,⟨d,dr,v,vr,A1,A2,rfl,rfl,rfl,h1,h2⟩,c,hc=>by
  rcases YL.mp hc with hc|hc
  ·cases k with
   |own=>exact(Own.oS h1 c hc).1
   |_=>rw[h1.1]at hc;cases hc
  ·exact KF.oS h2 c hc
theorem vp.cons (h1:KV P w C Z aG H1 k d v)(n:Sn (H1,Wn aG) H (Wn own))(zU:KV P w C Z own H k d v)(h2:vp P w C (H1,Wn aG) own H ks ds vs)(n0:Sn Z H1 (Wn aG)):vp P w C Z own H (k::ks) (d::ds) (v::vs):=by
 obtain⟨A2,f2,Jh,q2⟩:=h2;have z2:∀c∈A2,Z.1 c=none/\¬ Wn own c/\C.H0 c=none:=λc hc=>⟨n0.free (q2 c hc).1,(q2 c hc).2⟩;cases k with
 |own =>
  obtain⟨A1,o1,Fd,q1⟩:=h1;obtain⟨Yb,Xz,VD,Pd⟩:=(show KV P w C Z own H .own d v from KV.held (k:=.own) (λz=>(nomatch z)) (⟨A1,o1,Fd,q1⟩:KV P w C Z aG H1 .own d v) n)
  have QS:Own P w H d v A1:=o1.keep n.k.tup (λc hc o e=>n.k.out c o e λz=>z.elim (q1 c hc).2.1 λz=>(o1.oS c hc).1 z);refine⟨A1++A2,⟨d,ds,v,vs,A1,A2,rfl,rfl,rfl,QS,f2⟩,Zq.mpr ⟨Fd,Jh,λa ha b hb e=>?_⟩,λc hc=>?_⟩
  ·subst e;exact(o1.oS a ha).1 (q2 a hb).1
  ·rcases YL.mp hc with hc|hc
   ·exact⟨(q1 c hc).1,λz=>(n.w c z).elim (q1 c hc).2.1 λz=>(o1.oS c hc).1 z,(q1 c hc).2.2⟩
   ·exact z2 c hc
 |gj=>exact⟨A2,⟨d,ds,v,vs,[],A2,rfl,rfl,rfl,⟨rfl,zU⟩,f2⟩,Jh,z2⟩
 |old=>exact⟨A2,⟨d,ds,v,vs,[],A2,rfl,rfl,rfl,⟨rfl,zU⟩,f2⟩,Jh,z2⟩
 |bor=>exact⟨A2,⟨d,ds,v,vs,[],A2,rfl,rfl,rfl,⟨rfl,zU⟩,f2⟩,Jh,z2⟩
abbrev iU:List Kd->Kd
 |[]=>.gj
 |k::ks=>Kd.max k (iU ks)
theorem KF.kz:∀{ks:List Kd} {ds:List D} {vs:List V} {A:List Addr},KF P w C own H ks ds vs A->(∀c∈A,¬ Wn own c/\C.H0 c=none)->aj P w (av C (Wn own) (iU ks)) H ds vs
 |[],_,_,_,⟨e1,e2,e⟩,_=>by rw[e1,e2];rfl
 |k::ks,_,_,_,⟨d,dr,v,vr,A1,A2,rfl,rfl,rfl,h1,h2⟩,hA=>by
  refine⟨v,vr,rfl,?_,aj.aY gh (KF.kz h2 λc hc=>hA c (Y4 _ hc))⟩;cases k with
  |own=>exact aB.aY dg (Own.rep (W:=av C (Wn own) .own) (λc hc z=>z.elim (hA c (ZR _ hc)).1 λz=>z (hA c (ZR _ hc)).2) h1)
  |gj=>exact aB.aY (dg (a:=.gj)) h1.2
  |old=>exact aB.aY (dg (a:=.old)) h1.2
  |bor=>exact aB.aY (dg (a:=.bor)) h1.2
theorem vp.kz (h:vp P w C Z own H ks ds vs):aj P w (av C (Wn own) (iU ks)) H ds vs:=let ⟨A,h1,_,h3⟩:=h;h1.kz λc hc=>(h3 c hc).2
theorem vp.bor (h:vp P w C Z own H ks ds vs):aj P w (λ_=>False) H ds vs:=aj.aY (λ_ z=>z.elim) h.kz
def yK:List Kd->List D->Prop
 |k::ks,d::ds=>(match k with | .own=>True|_=>d.flat=true)/\yK ks ds
 |_,_=>True
theorem KF.IL:∀{ks:List Kd} {ds:List D} {vs:List V} {A:List Addr},KF P w C own H ks ds vs A->yK ks ds->aP P w H ds vs A
 |[],_,_,_,⟨e1,e2,e⟩,_=>by rw[e1,e2,e];exact⟨rfl,rfl⟩
 |k::ks,_,_,_,⟨d,dr,v,vr,A1,A2,rfl,rfl,rfl,h1,h2⟩,⟨f1,f2⟩=>by
  refine⟨v,vr,A1,A2,rfl,rfl,?_,KF.IL h2 f2⟩;cases k with
  |own=>exact h1
  |gj=>rw[h1.1];exact fB f1 h1.2
  |old=>rw[h1.1];exact fB f1 h1.2
  |bor=>rw[h1.1];exact fB f1 h1.2
theorem jK:∀{ks:List Kd},(iU ks).wk=iU ks
 |[]=>rfl
 |k::ks=>by cases k <;> cases h:iU ks <;> simp[iU,Kd.max,h]
def Ct (ks:List Kd)(ds:List D)(K:Kd->Prop):Prop:=match ks.all (λk=>match k with | .own=>true|_=>false)with
 |true=>K .own
 |false=>(yK ks ds/\K .own)\/K (iU ks)
theorem Ct.mono {ks:List Kd}{ds:List D}{K K':Kd->Prop}(k:∀x,K x->K' x)(h:Ct ks ds K):Ct ks ds K':=by
 unfold Ct at *
 split
 ·next e=>rw[e]at h;exact k _ h
 ·next e=>rw[e]at h;exact h.imp (λz=>⟨z.1,k _ z.2⟩) (k _)
theorem Ct.of {ks:List Kd}{ds:List D}{K:Kd->Prop}(h:Ct ks ds K):(yK ks ds/\K .own)\/K (iU ks):=by
 unfold Ct at h
 split at h
 ·next e =>
  refine .inl ⟨?_,h⟩
  clear h
  induction ks generalizing ds with
  |nil=>cases ds <;> trivial
  |cons k ks ih =>
   cases ds with
   |nil=>trivial
   |cons d ds =>
    rw[List.all_cons,Zi]at e;refine⟨?_,ih e.2⟩;have e1:=e.1;cases k <;> first|trivial|cases e1
 ·exact h
end
structure PQ (X:Cx)(C:Cfg)(p:Bool)(e:Expr)(φ:aV):Prop where
 mono:∀β R R',(∀d k β,R d k β->R' d k β)->φ β R->φ β R'
 pe:PE X e (tQ X C p φ)
structure vy (X:Cx)(C:Cfg)(p:Bool)(e:Expr)(φ:bc):Prop where
 mono:∀β R R',(∀d β,R d β->R' d β)->φ β R->φ β R'
 pt:PT X e (lX X C p φ)
structure oU (X:Cx)(C:Cfg)(p:Bool)(e:Expr)(φ:bc):Prop where
 mono:∀β R R',(∀d β,R d β->R' d β)->φ β R->φ β R'
 pw:PW X e (lX X C p φ)
structure vz (X:Cx)(C:Cfg)(p:Bool)(es:List Expr)(φ:cV):Prop where
 mono:∀β R R',(∀d k β,R d k β->R' d k β)->φ β R->φ β R'
 pa:PA X es (xl X C p φ)
section
variable {X:Cx}{C:Cfg}{a b c e:Expr}{es:List Expr}{φ φa φb:aV}{τ τa τb:bc}{φs:cV}{pos:Pos}{σ:St}{H H':Hp}{β:a8}{own:Nat->List Addr}{p p':Bool}
theorem tQ.of (h:PQ X C p e φ)(s:SQ X C σ H β own){R:D->Kd->a8->Prop}{Q:VK}(hr:φ β R)(k:∀d kd β' v H' aS,R d kd β'->Out X C σ H own p β' H' aS->KV X.prog X.w C (H,Wn own) aS H' kd d v->Q v H'):tQ X C p φ σ H Q :=
 ⟨β,own,s,h.mono β _ _ (λd kd β' hd v H' aS o r=>k d kd β' v H' aS hd o r) hr⟩
theorem lX.of (h:vy X C p e τ)(s:SQ X C σ H β own){R:Bool->a8->Prop}{Q:Bool->Hp->Prop}(hr:τ β R)(k:∀t β' H' aS,R t β'->Out X C σ H own p β' H' aS->Q t H'):lX X C p τ σ H Q :=
 ⟨β,own,s,h.mono β _ _ (λt β' hd H' aS o=>k t β' H' aS hd o) hr⟩
theorem xl.of (h:vz X C p es φs)(s:SQ X C σ H β own){R:List D->List Kd->a8->Prop}{Q:List V->Hp->Prop}(hr:φs β R)(k:∀ds ks β' vs H' aS,R ds ks β'->Out X C σ H own p β' H' aS->vp X.prog X.w C (H,Wn own) aS H' ks ds vs->Q vs H'):xl X C p φs σ H Q :=
 ⟨β,own,s,h.mono β _ _ (λd kd β' hd v H' aS o r=>k d kd β' v H' aS hd o r) hr⟩
theorem oU.t (h:oU X C p e τ):vy X C p e τ:=⟨h.mono,h.pw.pt⟩
abbrev vk (y:Bool):D->Kd
 |.int _=>.own
 |.bl _=>.own
 |.cX=>.own
 |.str _=>.own
 |_=>yk y
def qB:B->(D->Kd->Prop)->Prop
 |.val y d,K=>K d (vk y d)
 |.own d,K=>K d .bor
 |.hand _,_=>False
 |.shl _ _,_=>False
def Bl (i:Nat):aV:=λβ R=>∃b,β[i]?=some (some b)/\qB b λd k=>R d k β
theorem Js {P:Yk}{w:YB}{Z:Hp×(Addr->Prop)}{y:Bool}{d:D}{v:V}(h:aB P w (av C (Wn own) (yk y)) H d v):KV P w C Z own H (vk y d) d v:=by
 cases d with
 |int i=>exact KV.flat rfl h
 |bl i=>exact KV.flat rfl h
 |cX=>exact KV.flat rfl h
 |str i=>exact KV.flat rfl h
 |_=>cases y <;> exact h
theorem ab {i:Nat}{x:Str}(hN:X.N[i]?=some x:=by rfl)(hv:yI X.env.scope x:=by first|exact .inl rfl|exact .inr (.inl rfl)|exact .inr (.inr rfl))(hd:(x==("__debug__" : Str))=false:=by decide)(i7:(x==("__classdict__" : Str))=false:=by decide):
  PQ X C true (.Name x pos) (Bl i):=⟨λβ R R' k JX=>by obtain⟨b,e,h⟩:=JX;exact⟨b,e,by cases b <;> first|exact k _ _ _ h|exact h⟩,(fg hN hv hd i7).pre λσ H Q Fw=>by
 obtain⟨β,own,s,b,e,q⟩:=Fw;cases b with
 |val y d=>obtain⟨v,h1,h2⟩:=s.gD e;exact⟨v,h1,q v H own (Out.refl s _) (Js h2)⟩
 |own d=>obtain⟨v,h1,h2,h3⟩:=s.ow i d e;exact⟨v,h1,q v H own (Out.refl s _) (h2.rep λ_ _ z=>z)⟩
 |hand ok=>exact q.elim
 |shl _ _=>exact q.elim⟩
def qC (d:D):aV:=λβ R=>R d .own β
theorem ah {i j}:PQ X C true (.Constant (.int i) j pos) (qC (.int i)):=⟨λρ R R' k h=>k _ _ _ h,aU.pre λσ H Q JN=>by obtain⟨β,own,s,q⟩:=JN;exact q _ H own (Out.refl s _) (KV.flat (W:=λ_=>False) rfl rfl)⟩
theorem lB {b j}:PQ X C true (.Constant (.bool b) j pos) (qC (.bl b)):=⟨λρ R R' k h=>k _ _ _ h,BI.pre λσ H Q Rq=>by obtain⟨β,own,s,q⟩:=Rq;exact q _ H own (Out.refl s _) (KV.flat (W:=λ_=>False) rfl rfl)⟩
theorem dw {j}:PQ X C true (.Constant .none j pos) (qC .cX):=⟨λρ R R' k h=>k _ _ _ h,IJ.pre λσ H Q Fv=>by obtain⟨β,own,s,q⟩:=Fv;exact q _ H own (Out.refl s _) (KV.flat (W:=λ_=>False) rfl rfl)⟩
theorem rM {x j}:PQ X C true (.Constant (.str x) j pos) (qC (.str x)):=⟨λρ R R' k h=>k _ _ _ h,IH.pre λσ H Q Fu=>by obtain⟨β,own,s,q⟩:=Fu;exact q _ H own (Out.refl s _) (KV.flat (W:=λ_=>False) rfl rfl)⟩
def Bk (X:Cx)(f:D->D->Option D)(N:D->Prop):R2:=λx y H Q=>∃W d1 d2 d,Dm W H/\Rp X W H d1 x/\Rp X W H d2 y/\f d1 d2=some d/\∀v H',ay H H'->Rp X W H' d v->(N d->Rp X (λa=>H a≠none) H' d v)->Q v H'
abbrev P1 (X:Cx)(f:Yc->Yc->Sem Yc)(g:D->D->Option D)(N:D->Prop):Prop:=gU X f (Bk X g N)
theorem bg.m {f:Yc->Yc->Sem Yc}{g:D->D->Option D}(h:bg X f g):P1 X f g NF:=λpins s σ H x y v u Q I rx ry ⟨W,d1,d2,d,hd,r1,r2,e,q⟩ =>
 h pins s σ H x y v u Q I rx ry ⟨W,d1,d2,d,hd,r1,r2,e,λv H' s r=>q v H' s r λf=>aB.flat f r⟩
def kN (N:D->Prop)(d:D)(k:Kd)(K:Kd->Prop):Prop:=match d with
 |.int _=>K .own
 |.bl _=>K .own
 |.cX=>K .own
 |.str _=>K .own
 |.tup _=>K k
 |_=>(N d/\K .own)\/K k
theorem kN.mono {N:D->Prop}{d:D}{k:Kd}{K K':Kd->Prop}(h:∀x,K x->K' x)(q:kN N d k K):kN N d k K':=by
 cases d <;> first|exact h _ q|exact q.imp (λz=>⟨z.1,h _ z.2⟩) (h _)
theorem jD {P:Yk}{w:YB}{Z:Hp×(Addr->Prop)}{d:D}{v:V}(hd:Dm (Wn own) H)(h0:∀a,C.H0 a≠none->H a≠none)(hz:∀a,Z.1 a≠none->H a≠none)(f:NL d)(r:aB P w (λa=>H a≠none) H' d v):KV P w C Z own H' .own d v:=by
 have nn:∀{a:Addr},¬ (H a≠none)->H a=none:=λ{a} h=>Y1 λz=>h z;have cl:∀{a:Addr},H a=none->Z.1 a=none/\¬ Wn own a/\C.H0 a=none:=λ{a} h=>⟨Y1 λz=>hz a z h,λz=>hd a z h,Y1 λz=>h0 a z h⟩;cases d with
 |lst ds =>
  obtain⟨a,vs,rfl,e,n,q⟩:=r;exact⟨[a],⟨a,vs,[],rfl,e,rfl,kB f q⟩,by simp,λc hc=>by rw[Ys.mp hc];exact cl (nn n)⟩
 |_=>exact KV.flat f r
theorem KV.kN {N:D->Prop}{P:Yk}{w:YB}{Z:Hp×(Addr->Prop)}{d:D}{v:V}{k:Kd}{K:Kd->Prop}(hk:k.wk=k)(r:aB P w (av C (Wn own) k) H' d v)(ro:N d->KV P w C Z own H' .own d v)(q:kN N d k K):∃k',K k'/\KV P w C Z own H' k' d v:=by
 have rk:KV P w C Z own H' k d v:=by rw[<- hk];exact KV.of (by rw[hk];exact r)
 cases d with
 |int i=>exact⟨_,q,KV.flat rfl r⟩
 |bl i=>exact⟨_,q,KV.flat rfl r⟩
 |cX=>exact⟨_,q,KV.flat rfl r⟩
 |str i=>exact⟨_,q,KV.flat rfl r⟩
 |tup ds=>exact⟨_,q,rk⟩
 |_=>exact q.elim (λz=>⟨_,z.2,ro z.1⟩) λz=>⟨_,z,rk⟩
structure DU (N:D->Prop):Prop where
 nl:∀d,N d->NL d
theorem aF:DU NL:=⟨λ_ h=>h⟩
theorem af:DU NF:=⟨λd h=>by cases d <;> first|exact h|cases h⟩
theorem GQ {a b:Kd}:(a.max b).wk=a.max b:=by cases a <;> cases b <;> rfl
def As (g:D->D->Option D)(N:D->Prop)(pb:Bool)(φa φb:aV):aV:=λβ R=>φa β λx ka β1=>hold ka pb/\φb β1 λy kb β2=>∃d,g x y=some d/\kN N d (ka.max kb) λk=>R d k β2
variable {g:D->D->Option D}{N:D->Prop}
theorem As.mono (ha:PQ X C p a φa)(hb:PQ X C p' b φb):∀β R R',(∀d k β,R d k β->R' d k β)->As g N p' φa φb β R->As g N p' φa φb β R':=λβ R R' k h =>
 ha.mono β _ _ (λx ka β1 hx=>⟨hx.1,hb.mono β1 _ _ (λy kb β2 CM=>by obtain⟨d,e,q⟩:=CM;exact⟨d,e,q.mono λ_ z=>k _ _ _ z⟩) hx.2⟩) h
theorem vT (hn:DU N)(ha:PQ X C p a φa)(hb:PQ X C p' b φb):∀σ H Q,tQ X C (p&&p') (As g N p' φa φb) σ H Q->Lz (Bk X g N) (tQ X C p φa) (tQ X C p' φb) σ H Q:=λσ H Q ⟨β,own,s,h⟩ =>
 tQ.of ha s h λd1 k1 β1 v1 H1 aG ⟨hh,h1⟩ o1 r1=>tQ.of hb o1.sq h1 λd2 k2 β2 v2 H2 a5 CL o2 r2=>by
  obtain⟨d,e,q⟩:=CL;have KU:=r1.ho o2 hh;refine⟨av C (Wn a5) (k1.max k2),d1,d2,d,o2.sq.Di _,aB.aY dg KU.rep,aB.aY gh r2.rep,e,λv H' s3 r3 n3=>?_⟩;have o:=(o1.trans o2).same s3;obtain⟨k,q,r⟩:=KV.kN (Z:=(H,Wn own)) GQ r3 (λn=>jD (H:=H2) o2.sq.wK o2.sq.i8 (λa z=>o2.sn.d a (o1.sn.d a z)) (hn.nl _ n) (n3 n)) q;exact q v H' a5 o r
theorem aD {op:Operator}(hn:DU N)(ho:P1 X (Z5 op) g N)(ha:PQ X C p a φa)(hb:PQ X C p' b φb):PQ X C (p&&p') (.BinOp a op b pos) (As g N p' φa φb):=⟨As.mono ha hb,(cg ho ha.pe hb.pe).pre (vT hn ha hb)⟩
theorem iR {op:aa8}(hn:DU N)(ho:P1 X (Y7 op) g N)(ha:PQ X C p a φa)(hb:PQ X C p' b φb)(hm:aao op b=false:=by first|exact t8 _ (by decide) (by decide)|rfl):PQ X C (p&&p') (.Compare a [op] [b] pos) (As g N p' φa φb) :=
 ⟨As.mono ha hb,(EI ho ha.pe hb.pe hm).pre (vT hn ha hb)⟩
theorem aK (hn:DU N)(ho:Hv X (Bk X g N))(ha:PQ X C p a φa)(hb:PQ X C p' b φb)(hs:sN b:=by exact λ_ _=>rfl):PQ X C (p&&p') (.Subscript a b pos) (As g N p' φa φb):=⟨As.mono ha hb,(iB ho ha.pe hb.pe hs).pre (vT hn ha hb)⟩
def Bm (φ:aV):bc:=λβ R=>φ β λd k β'=>∃b,d=.bl b/\R b β'
theorem aE {op:aa8}(hn:DU N)(ho:P1 X (Y7 op) g N)(ha:PQ X C p a φa)(hb:PQ X C p' b φb)(hm:aao op b=false:=by first|exact t8 _ (by decide) (by decide)|rfl):vy X C (p&&p') (.Compare a [op] [b] pos) (Bm (As g N p' φa φb)) :=
 ⟨λβ R R' k h=>As.mono ha hb β _ _ (λd kd β CK=>by obtain⟨t,e,q⟩:=CK;exact⟨t,e,k _ _ q⟩) h,(rH ho ha.pe hb.pe hm).pre λσ H Q ⟨β,own,s,h⟩ =>
  tQ.of ha s h λd1 k1 β1 v1 H1 aG ⟨hh,h1⟩ o1 r1=>tQ.of hb o1.sq h1 λd2 k2 β2 v2 H2 a5 JZ o2 r2=>by
   obtain⟨d,e,q⟩:=JZ;have KU:=r1.ho o2 hh;refine⟨av C (Wn a5) (k1.max k2),d1,d2,d,o2.sq.Di _,aB.aY dg KU.rep,aB.aY gh r2.rep,e,λv H' s3 r3 n3=>?_⟩;obtain⟨k,⟨t,et,q'⟩,r⟩:=KV.kN (Z:=(H,Wn own)) GQ r3 (λn=>jD (H:=H2) o2.sq.wK o2.sq.i8 (λa z=>o2.sn.d a (o1.sn.d a z)) (hn.nl _ n) (n3 n)) q;subst et;cases r3;exact⟨t,rfl,q' H' a5 ((o1.trans o2).same s3)⟩⟩
theorem hV (ha:PQ X C p a φa)(he:∀whole,isTrue a X.env whole=(do let v <- whole;standAt a.pos;holding [v] (truthy v)):=by intro _;rfl):vy X C p a (Bm φa) :=
 ⟨λβ R R' k h=>ha.mono β _ _ (λd kd β' JY=>by obtain⟨b,e,q⟩:=JY;exact⟨b,e,k _ _ q⟩) h,(Iw ha.pe he).pre λσ H Q ⟨β,own,s,h⟩=>tQ.of ha s h λd k β' v H1 aG JV o1 r1=>by
  obtain⟨b,e,q⟩:=JV;subst e;cases r1.rep;exact⟨b,rfl,q H1 aG o1⟩⟩
def LW (τ:bc):bc:=λβ R=>τ β λb β'=>R (!b) β'
theorem fS (ha:vy X C p a τ):vy X C p (.UnaryOp .Not a pos) (LW τ) :=
 ⟨λβ R R' k h=>ha.mono β _ _ (λb β' q=>k _ _ q) h,(Iy ha.pt).pre λσ H Q JU=>by obtain⟨β,own,s,h⟩:=JU;exact lX.of ha s h λb β' H1 aG q o=>q H1 aG o⟩
variable {rest:List Expr}
def LZ (τa τb:bc):bc:=λβ R=>τa β λt β1=>if t=true then τb β1 R else R false β1
def QJ (τa τb:bc):bc:=λβ R=>τa β λt β1=>if t=true then R true β1 else τb β1 R
theorem dj (ha:vy X C p a τ):oU X C p (.BoolOp .And [a] pos) τ:=⟨ha.mono,pw_and1 ha.pt⟩
theorem hG (ha:vy X C p a τ):oU X C p (.BoolOp .Or [a] pos) τ:=⟨ha.mono,pw_or1 ha.pt⟩
theorem Gm {p q:Bool}(z:(p&&q)=true):p=true:=by cases p <;> first|rfl|cases z
theorem S6 {p q:Bool}(z:(p&&q)=true):q=true:=by cases p <;> first|exact z|cases z
theorem d3 (ha:vy X C p a τa)(hb:oU X C p' (.BoolOp .And (b::rest) pos) τb):oU X C (p&&p') (.BoolOp .And (a::b::rest) pos) (LZ τa τb) :=
 ⟨λβ R R' k h=>ha.mono β _ _ (λt β1 q=>by
   cases t
   ·exact k _ _ q
   ·exact hb.mono β1 _ _ k q) h,(pw_and ha.pt hb.pw).pre λσ H Q ⟨β,own,s,h⟩=>lX.of ha s h λt β1 H1 aG q o1=>by
  cases t
  ·exact q H1 aG (o1.wk Gm)
  ·exact lX.of hb.t o1.sq q λt' β2 H2 a5 q2 o2=>q2 H2 a5 (o1.trans o2)⟩
theorem gL (ha:vy X C p a τa)(hb:oU X C p' (.BoolOp .Or (b::rest) pos) τb):oU X C (p&&p') (.BoolOp .Or (a::b::rest) pos) (QJ τa τb) :=
 ⟨λβ R R' k h=>ha.mono β _ _ (λt β1 q=>by
   cases t
   ·exact hb.mono β1 _ _ k q
   ·exact k _ _ q) h,(pw_or ha.pt hb.pw).pre λσ H Q ⟨β,own,s,h⟩=>lX.of ha s h λt β1 H1 aG q o1=>by
  cases t
  ·exact lX.of hb.t o1.sq q λt' β2 H2 a5 q2 o2=>q2 H2 a5 (o1.trans o2)
  ·exact q H1 aG (o1.wk Gm)⟩
def Vr (φa φb:aV):aV:=λβ R=>φa β λx _ β1=>∃c,x=.bl c/\if c=true then R (.bl true) .own β1 else φb β1 R
theorem rN {op}(h:PQ X C p a φ):PQ X C p (.BoolOp op [a] pos) φ:=⟨h.mono,II h.pe⟩
theorem GW {P:Yk}{w:YB}{Z:Hp×(Addr->Prop)}{b:Bool}:KV P w C Z own H .own (.bl b) (.bl b):=KV.flat (W:=λ_=>False) rfl rfl
theorem xE (ha:PQ X C p a φa)(hb:PQ X C p' (.BoolOp .Or (b::rest) pos) φb):PQ X C (p&&p') (.BoolOp .Or (a::b::rest) pos) (Vr φa φb) :=
 ⟨λβ R R' k h=>ha.mono β _ _ (λd kd β1 ⟨c,e,q⟩=>⟨c,e,by
   cases c
   ·exact hb.mono β1 _ _ k q
   ·exact k _ _ _ q⟩) h,(L6 ha.pe hb.pe).pre λσ H Q ⟨β,own,s,h⟩=>tQ.of ha s h λd kd β1 v H1 aG JR o1 r1=>by
  obtain⟨c,e,q⟩:=JR;subst e;cases r1.rep;refine⟨c,rfl,?_⟩;cases c
  ·exact tQ.of hb o1.sq q λd2 k2 β2 v2 H2 a5 q2 o2 r2=>q2 v2 H2 a5 (o1.trans o2) (r2.later o1.sn)
  ·exact q _ H1 aG (o1.wk Gm) GW⟩
def Vp (g:D->Option D)(φa:aV):aV:=λβ R=>φa β λx _ β1=>∃d,g x=some d/\d.flat=true/\R d .own β1
theorem tU {op:UnaryOp}{g:D->Option D}(ho:ON X (unaryOp op) (TC X g))(ha:PQ X C p a φa):PQ X C p (.UnaryOp op a pos) (Vp g φa) :=
 ⟨λβ R R' k h=>ha.mono β _ _ (λx _ β1 Rz=>by obtain⟨d,e,f,q⟩:=Rz;exact⟨d,e,f,k _ _ _ q⟩) h,(L5 ho ha.pe).pre λσ H Q ⟨β,own,s,h⟩ =>
  tQ.of ha s h λd1 k1 β1 v1 H1 aG JP o1 r1=>by obtain⟨d,e,f,q⟩:=JP;exact⟨_,d1,d,o1.sq.Di _,r1.rep,e,λv H' s2 r2=>q v H' aG (o1.same s2) (KV.flat f r2)⟩⟩
def QK:cV:=λβ R=>R [] [] β
def LY (pr:Bool)(φ:aV)(φs:cV):cV:=λβ R=>φ β λd k β1=>hold k pr/\φs β1 λds ks β2=>R (d::ds) (k::ks) β2
theorem ae:vz X C true [] QK:=⟨λβ R R' k h=>k _ _ _ h,dy.pre λσ H Q JO=>by obtain⟨β,own,s,q⟩:=JO;exact q [] H own (Out.refl s _) vp.nil⟩
theorem aa (ha:PQ X C p a φ)(hr:vz X C p' es φs)(hs:YG (a::es) X.env=(false,eval a X.env)::YG es X.env:=by rfl):vz X C (p&&p') (a::es) (LY p' φ φs) :=
 ⟨λβ R R' k h=>ha.mono β _ _ (λd kd β1 q=>⟨q.1,hr.mono β1 _ _ (λds ks β2 q2=>k _ _ _ q2) q.2⟩) h,(br ha.pe hr.pa hs).pre λσ H Q ⟨β,own,s,h⟩ =>
  tQ.of ha s h λd1 k1 β1 v1 H1 aG Rx o1 r1=>by obtain⟨hh,h1⟩:=Rx;exact xl.of hr o1.sq h1 λds ks β2 vs H2 a5 q o2 r2=>q (v1::vs) H2 a5 (o1.trans o2) (vp.cons r1 o2.sn (r1.ho o2 hh) r2 o1.sn)⟩
def QF (φs:cV):aV:=λβ R=>φs β λds ks β1=>ds.length<=Yy/\Ct ks ds λk=>R (.tup ds) k β1
def QL (φs:cV):aV:=λβ R=>φs β λds ks β1=>ds.length<=Yy/\Ct ks ds λk=>R (.lst ds) k β1
theorem aP.same {P:Yk}{w:YB}{ds:List D}{vs:List V}{A:List Addr}(s:ay H H')(h:aP P w H ds vs A):aP P w H' ds vs A:=h.keep (λb xs e=>s _ _ e) λc _ o e=>s c o e
theorem Jt {P:Yk}{w:YB}{Z:Hp×(Addr->Prop)}{ks:List Kd}{ds:List D}{vs:List V}{K:Kd->Prop}{q:Addr}(hq:H q=none)(h:vp P w C Z own H ks ds vs)(m:Ct ks ds K):∃k,K k/\KV P w C Z own (upd H q (.tup vs)) k (.tup ds) (.ref q):=by
 rcases m.of with⟨f,k⟩|k
 ·obtain⟨A,h1,h2,h3⟩:=h;exact⟨_,k,A,⟨q,vs,rfl,az,(h1.IL f).same (ay.new hq)⟩,h2,h3⟩
 ·refine⟨_,k,?_⟩;rw[<- jK];exact KV.of (by rw[jK];exact⟨q,vs,rfl,az,h.kz.same (ay.new hq)⟩)
theorem Ju {P:Yk}{w:YB}{Z:Hp×(Addr->Prop)}{ks:List Kd}{ds:List D}{vs:List V}{K:Kd->Prop}{q:Addr}(hq:H q=none)(hd:Dm (Wn own) H)(h0:∀a,C.H0 a≠none->H a≠none)(hz:∀a,Z.1 a≠none->H a≠none)(h:vp P w C Z own H ks ds vs)(m:Ct ks ds K):∃k,K k/\KV P w C Z own (upd H q (.lst vs)) k (.lst ds) (.ref q):=by
 rcases m.of with⟨f,k⟩|k
 ·obtain⟨A,h1,h2,h3⟩:=h;refine⟨_,k,q::A,⟨q,vs,A,rfl,az,rfl,(h1.IL f).same (ay.new hq)⟩,YV.mpr ⟨λz=>h1.oS q z hq,h2⟩,λc hc=>?_⟩;rcases Yi.mp hc with rfl|hc
  ·exact⟨Y1 λz=>hz c z hq,λz=>hd c z hq,Y1 λz=>h0 c z hq⟩
  ·exact h3 c hc
 ·refine⟨_,k,?_⟩;have nq:¬ av C (Wn own) (iU ks) q:=λz=>by
   cases e:iU ks <;> rw[e]at z <;> first|exact z.elim (λz=>hd q z hq) λz=>h0 q z hq|exact hd q z hq|exact z
  rw[<- jK];exact KV.of (by rw[jK];exact⟨q,vs,rfl,az,nq,h.kz.same (ay.new hq)⟩)
theorem vp.length {P:Yk}{w:YB}{Z:Hp×(Addr->Prop)}{ks:List Kd}{ds:List D}{vs:List V}(h:vp P w C Z own H ks ds vs):vs.length=ds.length:=h.kz.length
theorem aZ {x1}(h:vz X C p es φs):PQ X C p (.Tuple es x1 pos) (QF φs) :=
 ⟨λβ R R' k q=>h.mono β _ _ (λds ks β1 Rw=>by obtain⟨l,q⟩:=Rw;exact⟨l,q.mono λ_ z=>k _ _ _ z⟩) q,(IG h.pa).pre λσ H Q ⟨β,own,s,q⟩=>xl.of h s q λds ks β1 vs H1 aG ⟨l,q1⟩ o1 r1 =>
  ⟨by rw[r1.length];exact l,λq hq=>let ⟨k,q1,r⟩:=Jt hq r1 q1;q1 _ _ aG (o1.same (ay.new hq)) r⟩⟩
theorem bw (h:vz X C p es φs):PQ X C p (.List es pos) (QL φs) :=
 ⟨λβ R R' k q=>h.mono β _ _ (λds ks β1 Rv=>by obtain⟨l,q⟩:=Rv;exact⟨l,q.mono λ_ z=>k _ _ _ z⟩) q,(vY h.pa).pre λσ H Q ⟨β,own,s,q⟩=>xl.of h s q λds ks β1 vs H1 aG ⟨l,q1⟩ o1 r1 =>
  ⟨by rw[r1.length];exact l,λq hq=>let ⟨k,q1,r⟩:=Ju hq o1.sq.wK o1.sq.i8 (λa z=>o1.sn.d a z) r1 q1;q1 _ _ aG (o1.same (ay.new hq)) r⟩⟩
end
section
variable {X:Cx}{C:Cfg}{a b c e:Expr}{es:List Expr}{φ φa φb:aV}{φs:cV}{pos:Pos}{σ:St}{H H':Hp}{β:a8}{own:Nat->List Addr}{p:Bool}{g:D->D->Option D}{N:D->Prop}
abbrev qU:=D->Kd->aV
structure OV (X:Cx)(C:Cfg)(ops:List aa8)(es:List Expr)(φ:qU):Prop where
 mono:∀x k β R R',(∀d k β,R d k β->R' d k β)->φ x k β R->φ x k β R'
 ch:Hu X ops es λx σ H Q=>∃β own d k,SQ X C σ H β own/\Rp X (av C (Wn own) k) H d x/\φ d k β λd' k' β'=>∀v H',ay H H'->SQ X C σ H' β' own->KV X.prog X.w C (H,Wn own) own H' k' d' v->Q v H'
 UH:vo X ops es λx σ H Q=>∃β own d k,SQ X C σ H β own/\Rp X (av C (Wn own) k) H d x/\φ d k β λd' k' β'=>∃b,d'=.bl b/\∀H',ay H H'->SQ X C σ H' β' own->Q b H'
def Iv (g:D->D->Option D)(φb:aV):qU:=λx _ β R=>φb β λy _ β1=>∃b,g x y=some (.bl b)/\R (.bl b) .own β1
def Bn (g:D->D->Option D)(φb:aV)(φr:qU):qU:=λx _ β R=>φb β λy ky β1=>∃k,g x y=some (.bl k)/\if k=true then φr y ky β1 R else R (.bl false) .own β1
variable {op IV:aa8}{ops:List aa8}{rs:List Expr}{φr:qU}
theorem hX (ho:bg X (Y7 op) g)(hb:PQ X C true b φb):OV X C [op] [b] (Iv g φb) :=
 ⟨λx k β R R' h q=>hb.mono β _ _ (λy _ β1 Fx=>by obtain⟨d,e,q⟩:=Fx;exact⟨d,e,h _ _ _ q⟩) q,
  (Kx ho hb.pe).pre λx σ H Q ⟨β,own,d,k,s,r,h⟩=>tQ.of hb s h λd2 k2 β2 v2 H2 a5 Fw o2 r2=>by
    obtain⟨d',e,q⟩:=Fw;obtain⟨s2,rfl⟩:=o2.pu rfl;exact⟨av C (Wn a5) (k.max k2),d,d2,.bl d',o2.sq.Di _,aB.aY dg (r.same s2),aB.aY gh r2.rep,e,λv H' s3 r3=>q v H' (s2.trans s3) (o2.sq.same s3) (KV.flat rfl r3)⟩,
  (Gb ho hb.pe).pre λx σ H Q ⟨β,own,d,k,s,r,h⟩=>tQ.of hb s h λd2 k2 β2 v2 H2 a5 MX o2 r2=>by
    obtain⟨d',e,b,eb,q⟩:=MX;obtain⟨s2,rfl⟩:=o2.pu rfl;cases eb;exact⟨av C (Wn a5) (k.max k2),d,d2,.bl d',o2.sq.Di _,aB.aY dg (r.same s2),aB.aY gh r2.rep,e,λv H' s3 r3=>by
      cases r3;exact⟨_,rfl,q H' (s2.trans s3) (o2.sq.same s3)⟩⟩⟩
theorem cf (ho:bg X (Y7 op) g)(hb:PQ X C true b φb)(hc:OV X C (IV::ops) (c::rs) φr):OV X C (op::IV::ops) (b::c::rs) (Bn g φb φr) :=
 ⟨λx k β R R' h q=>hb.mono β _ _ (λy ky β1 ⟨d,e,q⟩=>⟨d,e,by
   cases d
   ·exact h _ _ _ q
   ·exact hc.mono y ky β1 _ _ h q⟩) q,
  (Ge ho hb.pe hc.ch).pre λx σ H Q ⟨β,own,d,k,s,r,h⟩=>tQ.of hb s h λd2 k2 β2 v2 H2 a5 Fv o2 r2=>by
    obtain⟨t,e,q⟩:=Fv;obtain⟨s2,rfl⟩:=o2.pu rfl;refine⟨av C (Wn a5) (k.max k2),d,d2,.bl t,o2.sq.Di _,aB.aY dg (r.same s2),aB.aY gh r2.rep,e,λv H' s3 r3=>?_⟩;cases r3;refine⟨t,rfl,?_⟩;cases t
    · exact q _ H' (s2.trans s3) (o2.sq.same s3) GW
    · exact⟨β2,a5,d2,k2,o2.sq.same s3,r2.rep.same s3,hc.mono d2 k2 β2 _ _ (λd' k' β' q' v Aq s4 sq r4=>q' v Aq ((s2.trans s3).trans s4) sq (r4.later ((o2.same s3).sn))) q⟩,
  (Dt ho hb.pe hc.UH).pre λx σ H Q ⟨β,own,d,k,s,r,h⟩=>tQ.of hb s h λd2 k2 β2 v2 H2 a5 wz o2 r2=>by
    obtain⟨t,e,q⟩:=wz;obtain⟨s2,rfl⟩:=o2.pu rfl;refine⟨av C (Wn a5) (k.max k2),d,d2,.bl t,o2.sq.Di _,aB.aY dg (r.same s2),aB.aY gh r2.rep,e,λv H' s3 r3=>?_⟩;cases r3;refine⟨t,rfl,?_⟩;cases t
    · obtain⟨b,eb,q⟩:=q;cases eb;exact q H' (s2.trans s3) (o2.sq.same s3)
    · exact⟨β2,a5,d2,k2,o2.sq.same s3,r2.rep.same s3,hc.mono d2 k2 β2 _ _ (λd' k' β' CM=>by obtain⟨b,eb,q'⟩:=CM;exact⟨b,eb,λAq s4 sq=>q' Aq ((s2.trans s3).trans s4) sq⟩) q⟩⟩
def rG (φa:aV)(φr:qU):aV:=λβ R=>φa β λx k β1=>φr x k β1 R
theorem jz {eD eC:aa8}(ha:PQ X C true a φa)(hc:OV X C (eD::eC::ops) (b::c::rs) φr)(hm:lastMarks (eD::eC::ops) (b::c::rs)=false:=by with_unfolding_all rfl):
  PQ X C true (.Compare a (eD::eC::ops) (b::c::rs) pos) (rG φa φr) :=
 ⟨λβ R R' k h=>ha.mono β _ _ (λx kx β1 q=>hc.mono x kx β1 _ _ k q) h,(zr ha.pe hc.ch hm).pre λσ H Q ⟨β,own,s,h⟩=>tQ.of ha s h λd k β1 v H1 aG q o1 r1=>by
  obtain⟨s1,rfl⟩:=o1.pu rfl;exact⟨β1,aG,d,k,o1.sq,r1.rep,hc.mono d k β1 _ _ (λd' k' β' q' v Aq s4 sq r4=>q' v Aq aG ⟨sq,o1.sn.same s4,λ_=>⟨s1.trans s4,rfl⟩,o1.le⟩ (r4.later o1.sn)) q⟩⟩
theorem pZ {eD eC:aa8}(ha:PQ X C true a φa)(hc:OV X C (eD::eC::ops) (b::c::rs) φr)(hm:lastMarks (eD::eC::ops) (b::c::rs)=false:=by with_unfolding_all rfl):
  vy X C true (.Compare a (eD::eC::ops) (b::c::rs) pos) (Bm (rG φa φr)) :=
 ⟨λβ R R' k h=>ha.mono β _ _ (λx kx β1 q=>hc.mono x kx β1 _ _ (λd kd β' J2=>by obtain⟨b,e,q⟩:=J2;exact⟨b,e,k _ _ q⟩) q) h,(zf ha.pe hc.UH hm).pre λσ H Q ⟨β,own,s,h⟩=>tQ.of ha s h λd k β1 v H1 aG q o1 r1=>by
  obtain⟨s1,rfl⟩:=o1.pu rfl;exact⟨β1,aG,d,k,o1.sq,r1.rep,hc.mono d k β1 _ _ (λd' k' β' CK=>by obtain⟨b,e,q'⟩:=CK;exact⟨b,e,λAq s4 sq=>q' Aq aG ⟨sq,o1.sn.same s4,λ_=>⟨s1.trans s4,rfl⟩,o1.le⟩⟩) q⟩⟩
abbrev DG:=a8->(Option Int->a8->Prop)->Prop
structure PZ (X:Cx)(C:Cfg)(e:Option Expr)(φ:DG):Prop where
 mono:∀β R R',(∀d β,R d β->R' d β)->φ β R->φ β R'
 po:PO X e λσ H Q=>∃β own,SQ X C σ H β own/\φ β λo β'=>∀H',ay H H'->SQ X C σ H' β' own->Q o H'
theorem fA:PZ X C none (λβ R=>R none β):=⟨λβ R R' k h=>k _ _ h,rP.pre λσ H Q J1=>by obtain⟨β,own,s,q⟩:=J1;exact q H (ay.refl _) s⟩
theorem fz (ha:PQ X C true a φ):PZ X C (some a) (λβ R=>φ β λd _ β1=>∃i,d=.int i/\R (some i) β1) :=
 ⟨λβ R R' k h=>ha.mono β _ _ (λd _ β1 J0=>by obtain⟨i,e,q⟩:=J0;exact⟨i,e,k _ _ q⟩) h,(rO ha.pe).pre λσ H Q ⟨β,own,s,h⟩=>tQ.of ha s h λd k β1 v H1 aG JY o1 r1=>by
  obtain⟨i,e,q⟩:=JY;subst e;cases r1.rep;obtain⟨s1,rfl⟩:=o1.pu rfl;exact⟨i,rfl,q H1 s1 o1.sq⟩⟩
def Vq (φ:aV)(φl φh:DG):aV:=λβ R=>φ β λx k β1=>φl β1 λl β2=>φh β2 λh β3=>∃d,Ou x l h=some d/\kN NL d k.wk λk'=>R d k' β3
theorem Gw {k:Kd}:k.wk.wk=k.wk:=by cases k <;> rfl
theorem DC {W:Addr->Prop}{k:Kd}:∀c,av C W k.wk c->av C W k c:=λc h=>by cases k <;> exact h
theorem p0 {lo hi:Option Expr}{φl φh:DG}{p2:Pos}(ha:PQ X C p a φ)(hl:PZ X C lo φl)(hh:PZ X C hi φh):PQ X C p (.Subscript a (.Slice lo hi none p2) pos) (Vq φ φl φh) :=
 ⟨λβ R R' k h=>ha.mono β _ _ (λx kx β1 q=>hl.mono β1 _ _ (λl β2 q=>hh.mono β2 _ _ (λu β3 JW=>by obtain⟨d,e,q⟩:=JW;exact⟨d,e,q.mono λ_ z=>k _ _ _ z⟩) q) q) h,
  (ng xr ha.pe hl.po hh.po).pre λσ H Q ⟨β,own,s,h⟩=>tQ.of ha s h λd k β1 v H1 aG q o1 r1 =>
    ⟨β1,aG,o1.sq,hl.mono β1 _ _ (λl β2 q H2 s2 Ve=>⟨β2,aG,Ve,hh.mono β2 _ _ (λu β3 JU H3 s3 O_=>by
      obtain⟨d',e,q⟩:=JU;refine⟨av C (Wn aG) k.wk,d,d',O_.Di _,((aB.aY DC r1.rep).same s2).same s3,e,λv H' s4 r4 n4=>?_⟩;obtain⟨k',q,r⟩:=KV.kN (Z:=(H,Wn own)) Gw r4 (λn=>jD (H:=H3) O_.wK O_.i8 (λa z e=>o1.sn.d a z (s2.free (s3.free e))) n (n4 n)) q;exact q v H' aG ⟨O_.same s4,o1.sn.same ((s2.trans s3).trans s4),λz=>⟨(o1.pu z).1.trans ((s2.trans s3).trans s4),(o1.pu z).2⟩,o1.le⟩ r) q⟩) q⟩⟩
def LU (X:Cx)(f:List D->Option D)(N:D->Prop):List V->Hp->VK->Prop:=λxs H Q=>∃W ds d,Dm W H/\lM X W H ds xs/\f ds=some d/\∀v H',ay H H'->Rp X W H' d v->(N d->Rp X (λa=>H a≠none) H' d v)->Q v H'
abbrev DJ (X:Cx)(f:Yc)(g:List D->Option D)(N:D->Prop):Prop:=fI X f (LU X g N)
theorem c5.m {f:Yc}{g:List D->Option D}(h:c5 X f g):DJ X f g NF:=λpins s σ H xs us Q I r ⟨W,ds,d,hd,r1,e,q⟩ =>
 h pins s σ H xs us Q I r ⟨W,ds,d,hd,r1,e,λv H' s r=>q v H' s r λf=>aB.flat f r⟩
def ly (g:List D->Option D)(N:D->Prop)(φs:cV):aV:=λβ R=>φs β λds ks β1=>∃d,g ds=some d/\kN N d (iU ks) λk=>R d k β1
variable {x:Str}{pp:Pos}{id T:String}{gs:List D->Option D}
theorem ly.mono (h:vz X C p es φs):∀β R R',(∀d k β,R d k β->R' d k β)->ly gs N φs β R->ly gs N φs β R':=λβ R R' k q=>h.mono β _ _ (λds ks β1 RK=>by obtain⟨d,e,q⟩:=RK;exact⟨d,e,q.mono λ_ z=>k _ _ _ z⟩) q
theorem tO (hn:DU N)(h:vz X C p es φs):∀σ H Q,tQ X C p (ly gs N φs) σ H Q->Qm (LU X gs N) (xl X C p φs) σ H Q:=λσ H Q ⟨β,own,s,q⟩=>xl.of h s q λds ks β1 vs H1 aG RE o1 r1=>by
 obtain⟨d,e,q1⟩:=RE;refine⟨av C (Wn aG) (iU ks),ds,d,o1.sq.Di _,r1.kz,e,λv H' s2 r2 n2=>?_⟩;obtain⟨k',q,r⟩:=KV.kN (Z:=(H,Wn own)) jK r2 (λn=>jD (H:=H1) o1.sq.wK o1.sq.i8 (λa z=>o1.sn.d a z) (hn.nl _ n) (n2 n)) q1;exact q v H' aG (o1.same s2) r
theorem bT (Ka:DU N)(hc:DJ X (.builtin id) gs N)(hm:X.mg x=none)(hv:ZA x=some (.builtin id))(ha:vz X C p (e::es) φs)(hg:Gl X x:=by rfl)(hn:x≠"__name__" := by decide)(hdb:(x==("__debug__" : Str))=false:=by decide)
  (uy:YG (e::es) X.env=(false,eval e X.env)::YG es X.env:=by rfl) (hpl:(aav pos (YG es X.env)).any (·.1)=false:=by rfl) :
  PQ X C p (.Call (.Name x pp) (e::es) [] pos) (ly gs N φs):=⟨ly.mono ha,(gM hc hg hm hv ha.pa hn hdb (he:=uy) (hpl:=hpl)).pre (tO Ka ha)⟩
theorem p_ (Ka:DU N)(hc:DJ X (.type T) gs N)(hm:X.mg x=none)(hv:ZA x=some (.type T))(ha:vz X C p (e::es) φs)(hg:Gl X x:=by rfl)(hn:x≠"__name__" := by decide)(hdb:(x==("__debug__" : Str))=false:=by decide)
  (uy:YG (e::es) X.env=(false,eval e X.env)::YG es X.env:=by rfl) (hpl:(aav pos (YG es X.env)).any (·.1)=false:=by rfl) :
  PQ X C p (.Call (.Name x pp) (e::es) [] pos) (ly gs N φs):=⟨ly.mono ha,(qe hc hg hm hv ha.pa hn hdb (he:=uy) (hpl:=hpl)).pre (tO Ka ha)⟩
end
def sO (P:Yk)(w:YB)(ro:Bool)(H H':Hp)(d:D)(v:V):Prop:=match ro with
 |true=>∃A,Own P w H' d v A/\A.Nodup/\∀c∈A,H c=none
 |false=>aB P w (λa=>H a≠none) H' d v
abbrev rk (ro:Bool):Kd:=match ro with|true=>.own|false=>.gj
def bX (P:Yk)(w:YB)(ro:Bool)(F:FD):Sp:=λvs H Q _=>∃ds,aj P w (λ_=>False) H ds vs/\F ds λd=>∀v H',ay H H'->sO P w ro H H' d v->Q v H'
def o3 (P:Yk)(w:YB)(ok:List Int->Prop)(ro:Bool)(F:FD):Sp:=λvs H Q _=>∃h vs' ds ns,vs=.ref h::vs'/\H h=some (.lst (ns.map V.int))/\ok ns/\aj P w (λa=>a=h) H ds vs' /\
 F ds λd=>∀v H' eK,Kp (·=h) H H'->(∀c,H c≠none->H' c≠none)->H' h=some (.lst (eK.map V.int))->ok eK->sO P w ro H H' d v->Q v H'
section
variable {X:Cx}{C:Cfg}{k ih:Nat}{f:Addr}{fd:YY}{ps:List Str}{F:FD}{ro p:Bool}{x hx:Str}{pp pos px:Pos}{e:Expr}{es:List Expr}{φs:cV}{ok:List Int->Prop}{σ:St}{H H':Hp}{β:a8}{own:Nat->List Addr}{P:Yk}{w:YB}
theorem sO.kv {Z:Hp×(Addr->Prop)}{d:D}{v:V}(hd:Dm (Wn own) H)(h0:∀a,C.H0 a≠none->H a≠none)(hz:∀a,Z.1 a≠none->H a≠none)(h:sO P w ro H H' d v):KV P w C Z own H' (rk ro) d v:=by
 cases ro with
 |true =>
  obtain⟨A,h1,h2,h3⟩:=h;exact⟨A,h1,h2,λc hc=>⟨Y1 λz=>hz c z (h3 c hc),λz=>hd c z (h3 c hc),Y1 λz=>h0 c z (h3 c hc)⟩⟩
 |false=>exact aB.aY (λa z=>z.elim (hd a) (h0 a)) h
def QI (ro:Bool)(F:FD)(φs:cV):aV:=λβ R=>φs β λds _ β1=>F ds λd=>R d (rk ro) β1
theorem aA (mF:cW F)(G:aH X.prog X.w X.K X.mg X.base bp k f fd ps (bX X.prog X.w ro F))(hr:cU k X.A)(hm:X.mg x=some (.ref f))(hk:PySem.W.keepIn X.K (.ref f)=true)(hb:Binds X.K fd ps [])(ha:vz X C p (e::es) φs)(hg:Gl X x:=by rfl)
  (hdb:(x==("__debug__" : Str))=false:=by decide)
  (uy:YG (e::es) X.env=(false,eval e X.env)::YG es X.env:=by rfl) (hpl:(aav pos (YG es X.env)).any (·.1)=false:=by rfl) :
  PQ X C p (.Call (.Name x pp) (e::es) [] pos) (QI ro F φs) :=
 ⟨λβ R R' k h=>ha.mono β _ _ (λds ks β1 q=>mF ds _ _ (λd q=>k _ _ _ q) q) h,(rQ G hr hg hm hk hb .nil BK ha.pa (hdb:=hdb) (he:=uy) (hpl:=hpl)).pre λσ H Q ⟨β,own,s,h⟩=>xl.of ha s h λds ks β1 vs H1 aG q o1 r1=>by
  rw[ZW];exact⟨ds,r1.bor,mF ds _ _ (λd q2 v H' s2 r2=>q2 v H' aG (o1.same s2) (r2.kv o1.sq.wK o1.sq.i8 λa z=>o1.sn.d a z)) q⟩⟩
theorem cI.drawn {i:Nat}{h:Addr}{eK:List Int}(b:cI P w C σ H β own)(e:β[i]?=some (some (.hand ok)))(hσ:σ[i]?=some (some (.ref h)))(k:Kp (·=h) H H')(e':H' h=some (.lst (eK.map V.int)))(o':ok eK)(dn:∀c,H c≠none->H' c≠none):cI P w C σ H' β own:=by
 obtain⟨a,ns,h1,h2,h3,h4,h5⟩:=b.vt i ok e;rw[hσ]at h1;cases h1;have wh:Wn own h:=⟨i,by rw[h4];simp⟩
 have kW:∀y,Kp (iI C (Wn own) (yk y)) H H':=λy=>k.mono λc z=>by rw[z];cases y <;> first|exact .inl wh|exact .inl (.inl wh)
 have ne:∀j,j≠i->∀c∈own j,c≠h:=λj hj c hc z=>hj (b.ml j i c hc (by rw[h4,z];simp))
 refine⟨b.len,λj y d e=>let ⟨v,g1,g2⟩:=b.val j y d e;⟨v,g1,g2.keep (kW y)⟩,λj d ej=>?_,λj Au ej=>?_,λj c hc=>?_,b.ml,b.rZ,⟨λc o z n=>?_,λc xs z=>k.tup c xs (b.kp.tup c xs z)⟩,λc z=>dn c (b.i8 c z),λj y d ej=>by
  obtain⟨v,g1,g2,g3⟩:=b.shl j y d ej;have hj:j≠i:=λz=>by rw[z,e]at ej;cases ej
  exact⟨v,g1,g2.map (λc hc o eo=>k.out c o eo (ne j hj c hc)) (λ_ _ r=>r.keep (kW y)),g3⟩⟩
 ·obtain⟨v,g1,g2,g3⟩:=b.ow j d ej;have hj:j≠i:=λz=>by rw[z,e]at ej;cases ej
  exact⟨v,g1,g2.keep k.tup (λc hc o eo=>k.out c o eo (ne j hj c hc)),g3⟩
 ·by_cases hj:j=i
  ·subst hj;rw[e]at ej;cases ej;exact⟨h,eK,hσ,e',o',h4,h5⟩
  ·obtain⟨a,ms,g1,g2,g3,g4,g5⟩:=b.vt j Au ej;exact⟨a,ms,g1,k.out a _ g2 (ne j hj a (by rw[g4];simp)),g3,g4,g5⟩
 ·obtain⟨g1,g2,g3⟩:=b.dm j c hc
  by_cases yd:c=h
  ·rw[yd,e'];rw[yd]at g3;exact⟨λz=>(nomatch z),λxs z=>(by cases z),g3⟩
  ·cases q:H c with
   |none=>exact absurd q g1
   |some o=>rw[k.out c o q yd];exact⟨λz=>(nomatch z),λxs z=>g2 xs (by rw[q];exact z),g3⟩
 ·refine k.out c o (b.kp.out c o z n) λq=>?_;subst q;rcases (b.dm i c (by rw[h4];simp)).2.2.1 with z0|z0
  ·rw[z0]at z;cases z
  ·exact n z0
def LX (ih:Nat)(ok:List Int->Prop)(ro:Bool)(F:FD)(φs:cV):aV:=λβ R=>β[ih]?=some (some (.hand ok))/\φs β λds ks β1=>β1[ih]?=some (some (.hand ok))/\hold (iU ks) false/\F ds λd=>R d (rk ro) β1
theorem bo (mF:cW F)(G:aH X.prog X.w X.K X.mg X.base bp k f fd ps (o3 X.prog X.w ok ro F))(hr:cU k X.A)(hm:X.mg x=some (.ref f))(hk:PySem.W.keepIn X.K (.ref f)=true)(hb:Binds X.K fd ps [])(ha:vz X C p es φs)(hN:X.N[ih]?=some hx:=by rfl)
  (hv:yI X.env.scope hx:=by first|exact .inl rfl|exact .inr (.inl rfl)|exact .inr (.inr rfl)) (hd:(hx==("__debug__" : Str))=false:=by decide) (i7:(hx==("__classdict__" : Str))=false:=by decide) (hg:Gl X x:=by rfl) (hdb:(x==("__debug__" : Str))=false:=by decide)
  (uy:YG (.Name hx px::es) X.env=(false,eval (.Name hx px) X.env)::YG es X.env:=by rfl) (hpl:(aav pos (YG es X.env)).any (·.1)=false:=by rfl) :
  PQ X C false (.Call (.Name x pp) (.Name hx px::es) [] pos) (LX ih ok ro F φs) :=
 ⟨λβ R R' k RD=>by obtain⟨e,h⟩:=RD;exact⟨e,ha.mono β _ _ (λds ks β1 JS=>by obtain⟨e,hh,q⟩:=JS;exact⟨e,hh,mF ds _ _ (λd q=>k _ _ _ q) q⟩) h⟩,
  (rQ G hr hg hm hk hb .nil BK (br (fg (pos:=px) hN hv hd i7) ha.pa uy) (hdb:=hdb) (he:=uy) (hpl:=hpl)).pre λσ H Q JR=>by
  obtain⟨β,own,s,e,h⟩:=JR;obtain⟨hh,ns,h1,h2,h3,h4⟩:=s.vt ih ok e;refine⟨.ref hh,h1,xl.of ha s h λds ks β1 vs H1 aG ⟨e1,ho,q⟩ o1 r1=>?_⟩;obtain⟨XT,Vx,g1,g2,g3,g4,g5⟩:=o1.sq.vt ih ok e1;rw[h1]at g1;cases g1;have wh:Wn aG hh:=⟨ih,by rw[g4];simp⟩
  rw[ZW];refine⟨hh,vs,ds,Vx,rfl,g2,g3,aj.aY (λa z=>?_) r1.kz,mF ds _ _ (λd q v H' eK kp dn e' Au r=>?_) q⟩
  ·subst z;cases hk:iU ks with
   |own=>exact .inl wh
   |gj=>exact .inl wh
   |old=>exact wh
   |bor=>rw[hk]at ho;exact ho.elim
  ·exact q v H' aG ⟨o1.sq.drawn e1 h1 kp e' Au dn,o1.sn.kp (kp.mono λb z=>by rw[z];exact wh) dn,λz=>(nomatch z),o1.le⟩ (r.kv o1.sq.wK o1.sq.i8 λa z=>o1.sn.d a z)⟩
end
abbrev Cfg.z (C:Cfg):Cfg:=C.u λ_=>False
def SB (X:Cx)(C:Cfg)(Z:Hp×(Addr->Prop))(σ:St)(H:Hp)(β:a8):Prop:=∃own,SQ X C.z σ H β own/\Sn Z H (Wn own)
structure gv where
 nx:a8->Prop
 rt:D->a8->Prop
 bk:a8->Prop:=λ_=>False
 ct:a8->Prop:=λ_=>False
def gv.up (E:gv)(n:a8->Prop):gv:=⟨n,E.rt,E.bk,E.ct⟩
def gv.lp (E:gv)(n:a8->Prop):gv:=⟨n,E.rt,E.nx,n⟩
structure Xo (X:Cx)(C:Cfg)(Z:Hp×(Addr->Prop))(E:gv)(D:Ends):Prop where
 nx:∀σ H β,SB X C Z σ H β->E.nx β->D.nx σ H
 rt:∀σ H β d v,SB X C Z σ H β->sO X.prog X.w C.ro C.H0 H d v->E.rt d β->D.rt v H
 bk:∀σ H β,SB X C Z σ H β->E.bk β->D.bk σ H
 ct:∀σ H β,SB X C Z σ H β->E.ct β->D.ct σ H
structure Le (E E':gv):Prop where
 nx:∀β,E.nx β->E'.nx β
 rt:∀d β,E.rt d β->E'.rt d β
 bk:∀β,E.bk β->E'.bk β
 ct:∀β,E.ct β->E'.ct β
abbrev Hr:=gv->a8->Prop
def Tt (X:Cx)(C:Cfg)(ψ:Hr):TS:=λD σ H=>∃Z E β,SB X C Z σ H β/\ψ E β/\Xo X C Z E D
structure PB (X:Cx)(C:Cfg)(st:Stmt)(ψ:Hr):Prop where
 mono:∀E E' β,Le E E'->ψ E β->ψ E' β
 ps:PS X st (Tt X C ψ)
structure yJ (X:Cx)(C:Cfg)(st:List Stmt)(ψ:Hr):Prop where
 mono:∀E E' β,Le E E'->ψ E β->ψ E' β
 ps:sX X st (Tt X C ψ)
section
variable {X:Cx}{C:Cfg}{st:Stmt}{rest a b:List Stmt}{ψ ψ1 ψ2:Hr}{Z:Hp×(Addr->Prop)}{σ:St}{H H':Hp}{β β':a8}{pos pos':Pos}{e c:Expr}{φ:aV}{τ:bc}{p:Bool}{own aS:Nat->List Addr}{i:Nat}{x:Str}
theorem Out.sb (n:Sn Z H (Wn own))(o:Out X C.z σ H own p β' H' aS):SB X C Z σ H' β':=⟨aS,o.sq,n.trans o.sn⟩
theorem aT:yJ X C [] (λE β=>E.nx β):=⟨λE E' β l h=>l.nx β h,rJ.pre λD σ H Fx=>by obtain⟨Z,E,β,sb,h,ok⟩:=Fx;exact ok.nx σ H β sb h⟩
theorem ag (h1:PB X C st ψ1)(h2:yJ X C rest ψ2):yJ X C (st::rest) (λE β=>ψ1 (E.up (ψ2 E)) β) :=
 ⟨λE E' β l h=>h1.mono {E with nx:=ψ2 E} {E' with nx:=ψ2 E'} β ⟨λβ' q=>h2.mono E E' β' l q,l.rt,l.bk,l.ct⟩ h,(b_ h1.ps h2.ps).pre λD σ H ⟨Z,E,β,sb,h,ok⟩ =>
  ⟨Z,{E with nx:=ψ2 E},β,sb,h,⟨λσ' H' β' vP h'=>⟨Z,E,β',vP,h',ok⟩,ok.rt,ok.bk,ok.ct⟩⟩⟩
theorem ai (h1:PB X C st ψ):yJ X C [st] ψ:=⟨h1.mono,fR h1.ps⟩
theorem jA (h1:PB X C st ψ1)(h2:yJ X C rest ψ2):yJ X C (st::rest) (λE β=>∃J:a8->Prop,ψ1 (E.up J) β/\∀β',J β'->ψ2 E β') :=
 ⟨λE E' β l Fw=>by obtain⟨J,h,k⟩:=Fw;exact⟨J,h1.mono {E with nx:=J} {E' with nx:=J} β ⟨λ_ q=>q,l.rt,l.bk,l.ct⟩ h,λβ' q=>h2.mono E E' β' l (k β' q)⟩,(b_ h1.ps h2.ps).pre λD σ H ⟨Z,E,β,sb,⟨J,h,k⟩,ok⟩ =>
  ⟨Z,{E with nx:=J},β,sb,h,⟨λσ' H' β' vP h'=>⟨Z,E,β',vP,k β' h',ok⟩,ok.rt,ok.bk,ok.ct⟩⟩⟩
theorem qf:yJ X C a (λ_ _=>False):=⟨λ_ _ _ _ h=>h.elim,zh.pre λD σ H Fv=>by obtain⟨Z,E,β,sb,h,ok⟩:=Fv;exact h.elim⟩
theorem bG (hc:vy X C.z p c τ)(ha:yJ X C a ψ1)(hb:yJ X C b ψ2):PB X C (.If c a b pos) (λE β=>τ β λt β'=>if t=true then ψ1 E β' else ψ2 E β') :=
 ⟨λE E' β l h=>hc.mono _ _ _ (λt β' q=>by
   cases t
   ·exact hb.mono E E' β' l q
   ·exact ha.mono E E' β' l q) h,(Bx hc.pt ha.ps hb.ps).pre λD σ H Fu=>by
  obtain⟨Z,E,β,⟨own,s,n⟩,h,ok⟩:=Fu;refine lX.of hc s h λt β' H1 aG q o1=>?_;cases t
  ·exact⟨Z,E,β',o1.sb n,q,ok⟩
  ·exact⟨Z,E,β',o1.sb n,q,ok⟩⟩
abbrev GZ (d:D)(k:Kd)(K:B->Prop):Prop:=match k with
 |.own=>K (.val true d)
 |.gj=>K (.val true d)
 |.old=>K (.val false d)
 |.bor=>d.flat=true/\K (.val true d)
theorem GZ.mono {d:D}{k:Kd}{K K':B->Prop}(h:∀b,K b->K' b)(q:GZ d k K):GZ d k K':=by
 cases k <;> first|exact h _ q|exact⟨q.1,h _ q.2⟩
theorem GZ.of {P:Yk}{w:YB}{d:D}{v:V}{k:Kd}{K:B->Prop}(r:KV P w C Z own H k d v)(q:GZ d k K):∃y,K (.val y d)/\aB P w (av C (Wn own) (yk y)) H d v:=by
 cases k with
 |own=>exact⟨true,q,r.gj⟩
 |gj=>exact⟨true,q,r⟩
 |old=>exact⟨false,q,r⟩
 |bor=>exact⟨true,q.2,aB.flat q.1 r⟩
theorem vL {own:Nat->List Addr}{i:Nat}(n:Sn Z H (Wn own)):Sn Z H (Wn (a_ own i [])):=⟨λb z=>n.w b (j7 z),n.k,n.d⟩
theorem aJ (he:PQ X C.z p e φ)(hN:X.N.Nodup)(hi:X.N[i]?=some x:=by rfl)(hx:Loc X.env.scope x:=by first|exact .inl rfl|exact .inr rfl)
  (hs:aaa e (some (.Name x pos')) pos.line X.env=pure false:=by rfl) (hf:X.fn x=true\/X.env.scope.names.lookup x=some .local:=by first|exact .inl rfl|exact .inr rfl|assumption) :
  PB X C (.Assign [.Name x pos'] e pos) (λE β=>φ β λd k β'=>GZ d k λb=>E.nx (β'.set i (some b))) :=
 ⟨λE E' β l q=>he.mono _ _ _ (λd k β' q=>q.mono λ_=>l.nx _) q,(m8 hN hi hx he.pe hs hf).pre λD σ H ⟨Z,E,β,⟨own,s,n⟩,q,ok⟩=>tQ.of he s q λd k β' v H' aS q o r=>by
  obtain⟨y,q,r⟩:=q.of r;exact ok.nx _ _ _ ⟨_,o.sq.iM (aB.aY (λa z=>z.elim id λz=>z.elim) r),vL (n.trans o.sn)⟩ q⟩
abbrev DP (k:Kd)(d:D):Prop:=match k with
 |.own=>True
 |_=>d.flat=true
theorem KV.fl {P:Yk}{w:YB}{d:D}{v:V}{k:Kd}(f:DP k d)(r:KV P w C Z own H k d v):KV P w C Z own H .own d v:=by
 cases k with
 |own=>exact r
 |gj=>exact KV.flat f r.rep
 |old=>exact KV.flat f r.rep
 |bor=>exact KV.flat f r.rep
theorem jB (he:∀U,PQ X (C.u U) p e φ)(hN:X.N.Nodup)(hi:X.N[i]?=some x:=by rfl)(hx:Loc X.env.scope x:=by first|exact .inl rfl|exact .inr rfl)
  (hs:aaa e (some (.Name x pos')) pos.line X.env=pure false:=by rfl) (hf:X.fn x=true\/X.env.scope.names.lookup x=some .local:=by first|exact .inl rfl|exact .inr rfl|assumption) :
  PB X C (.Assign [.Name x pos'] e pos) (λE β=>φ β λd k β'=>DP k d/\E.nx (β'.set i (some (.own d)))) :=
 ⟨λE E' β l q=>(he λ_=>False).mono _ _ _ (λd k β' q=>⟨q.1,l.nx _ q.2⟩) q,λpins s σ H D I ⟨Z,E,β,⟨own,sq,n⟩,q,ok⟩ =>
  m8 hN hi hx (he λa=>H a=none).pe hs hf pins s σ H D I (tQ.of (he λa=>H a=none) (sq.tj (C:=C.z) (U:=λa=>H a=none) λa z=>z) q λd k β' v H' aS J3 o r=>by
   obtain⟨f,q⟩:=J3;obtain⟨A,h1,h2,h3⟩:=r.fl f;refine ok.nx _ _ _ ⟨_,o.sq.A_ h1 h2 λc hc=>⟨(h3 c hc).2.2,(h3 c hc).2.1,(h3 c hc).1⟩,?_⟩ q;have m:=n.trans o.sn;exact⟨λb J2=>by
    obtain⟨j,hj⟩:=J2
    by_cases aX:i=j
    ·rw[<- aX,os_eq]at hj;exact .inr (n.free (h3 b hj).1)
    ·rw[cj aX]at hj;exact m.w b ⟨j,hj⟩,m.k,m.d⟩)⟩
theorem cI.Ez {P:Yk}{w:YB}{U U2:Addr->Prop}{d d':D}{v:V}{A':List Addr}{c:Addr}{o:HO}(b:cI P w (C.u U) σ H β own)(e:β[i]?=some (some (.own d)))(hσ:σ[i]?=some (some v))(hc:c∈own i)
  (r:Own P w (upd H c o) d' v A') (nd:A'.Nodup) (hA:∀a∈A',a∈own i\/(C.H0 a=none/\¬ Wn own a/\U a)) (hU:∀a,U2 a->U a) (SA:∀a∈A',¬ U2 a):cI P w (C.u U2) σ (upd H c o) (β.set i (some (.own d'))) (a_ own i A'):=by
 obtain⟨g1,g2,g3,g4⟩:=b.dm i c hc;obtain⟨oc,J5⟩:∃oc,H c=some oc:=by
  cases q:H c with
  |none=>exact absurd q g1
  |some oc=>exact⟨oc,rfl⟩
 have ht:∀xs,oc≠.tup xs:=λxs z=>g2 xs (by rw[J5,z])
 have k:Kp (·=c) H (upd H c o):=nO J5 ht;have h0:∀a∈own i,C.H0 a=none:=by obtain⟨_,_,_,h⟩:=b.ow i d e;exact h
 have wc:Wn own c:=⟨i,hc⟩;have sub:∀y a,iI (C.u U2) (Wn (a_ own i A')) (yk y) a->iI (C.u U) (Wn own) (yk y) a:=λy a h=>by
  have q:∀a,Wn (a_ own i A') a->Wn own a\/U a:=λa CL=>by
   obtain⟨j,q⟩:=CL
   by_cases aX:i=j
   ·rw[aX,os_eq]at q;rcases hA a q with z|z
    ·exact .inl ⟨i,z⟩
    ·exact .inr z.2.2
   ·rw[cj aX]at q;exact .inl ⟨j,q⟩
  rcases h with h|h
  ·cases y with
   |true=>exact h.elim (λz=>(q a z).imp .inl id) λz=>.inl (.inr z)
   |false=>exact q a h
  ·exact .inr (hU a h)
 have mem:∀{j c},c∈a_ own i A' j->(i=j/\c∈A')\/(i≠j/\c∈own j):=λ{j c} h=>by
  by_cases aX:i=j
  ·subst aX;rw[os_eq]at h;exact .inl ⟨rfl,h⟩
  ·rw[cj aX]at h;exact .inr ⟨aX,h⟩
 have Ph:∀j,i≠j->∀a∈own j,a≠c:=λj aX a ha z=>aX (b.ml i j c hc (by rw[<- z];exact ha))
 refine⟨by simp[b.len],λj y' d2 e2=>?_,λj d2 e2=>?_,λj ok e2=>?_,λj a h=>?_,λj k2 a h1 h2=>?_,λj=>?_,⟨λa oa z n=>?_,λa xs z=>k.tup a xs (b.kp.tup a xs z)⟩,λa z=>?_,λj y' d2 e2=>by
  by_cases aX:i=j
  ·subst aX;obtain⟨e',hl⟩:=b8 e2;cases e'
  ·rw[bS aX]at e2;rw[cj aX];obtain⟨u,h1,h2,h3⟩:=b.shl j y' d2 e2;exact⟨u,h1,h2.map (λa ha oa ea=>k.out a oa ea (Ph j aX a ha)) (λ_ _ r=>aj.aY (sub _) (r.keep (k.mono λa z=>by rw[z];cases y' <;> first|exact .inl wc|exact .inl (.inl wc)))),h3⟩⟩
 ·by_cases aX:i=j
  ·subst aX;obtain⟨e',hl⟩:=b8 e2;cases e'
  ·rw[bS aX]at e2;obtain⟨u,h1,h2⟩:=b.val j y' d2 e2;exact⟨u,h1,(h2.keep (k.mono λa z=>by rw[z];cases y' <;> first|exact .inl wc|exact .inl (.inl wc))).aY (sub _)⟩
 ·by_cases aX:i=j
  ·subst aX;obtain⟨e',hl⟩:=b8 e2;cases e';rw[os_eq];exact⟨v,hσ,r,λa ha=>(hA a ha).elim (h0 a) λz=>z.1⟩
  ·rw[bS aX]at e2;rw[cj aX];obtain⟨u,h1,h2,h3⟩:=b.ow j d2 e2;exact⟨u,h1,h2.keep k.tup (λa ha oa ea=>k.out a oa ea (Ph j aX a ha)),h3⟩
 ·by_cases aX:i=j
  ·subst aX;obtain⟨e',hl⟩:=b8 e2;cases e'
  ·rw[bS aX]at e2;rw[cj aX];obtain⟨a,ns,h1,h2,h3,h4,h5⟩:=b.vt j ok e2;exact⟨a,ns,h1,k.out a _ h2 (Ph j aX a (by rw[h4];simp)),h3,h4,h5⟩
 ·rcases mem h with⟨_,h⟩|⟨aX,h⟩
  ·exact⟨(r.oS a h).1,(r.oS a h).2,.inl ((hA a h).elim (h0 a) λz=>z.1),SA a h⟩
  ·obtain⟨q1,q2,q3,q4⟩:=b.dm j a h;rw[aw (Ph j aX a h)];exact⟨q1,q2,q3,λz=>q4 (hU a z)⟩
 ·rcases mem h1 with⟨e1,h1⟩|⟨n1,h1⟩
  ·rcases mem h2 with⟨e2,h2⟩|⟨n2,h2⟩
   ·rw[<- e1,<- e2]
   ·rcases hA a h1 with z|z
    ·exact absurd (b.ml i k2 a z h2) n2
    ·exact absurd ⟨k2,h2⟩ z.2.1
  ·rcases mem h2 with⟨e2,h2⟩|⟨n2,h2⟩
   ·rcases hA a h2 with z|z
    ·exact absurd (b.ml i j a z h1) n1
    ·exact absurd ⟨j,h1⟩ z.2.1
   ·exact b.ml j k2 a h1 h2
 ·by_cases aX:i=j
  ·rw[<- aX,os_eq];exact nd
  ·rw[cj aX];exact b.rZ j
 ·refine k.out a oa (b.kp.out a oa z n) λq=>?_;subst q;rw[h0 a hc]at z;cases z
 ·by_cases Uv:a=c
  ·rw[Uv,az];exact λz=>(nomatch z)
  ·rw[aw Uv];exact b.i8 a z
theorem cI.putIn {P:Yk}{w:YB}{U:Addr->Prop}{d d':D}{v:V}{A':List Addr}{c:Addr}{o:HO}(b:cI P w (C.u U) σ H β own)(e:β[i]?=some (some (.own d)))(hσ:σ[i]?=some (some v))(hc:c∈own i)
  (r:Own P w (upd H c o) d' v A') (nd:A'.Nodup) (hA:∀a∈A',a∈own i\/(C.H0 a=none/\¬ Wn own a/\U a)):cI P w C.z σ (upd H c o) (β.set i (some (.own d'))) (a_ own i A') :=
 b.Ez (U2:=λ_=>False) e hσ hc r nd hA (λ_ z=>z.elim) λ_ _ z=>z
theorem rm {A':List Addr}{c:Addr}{o:HO}{U:Addr->Prop}(n:Sn Z H (Wn own))(m:∀a,U a->Z.1 a=none)(hc:Wn own c)(J5:∃oc,H c=some oc/\∀xs,oc≠.tup xs)(hA:∀a∈A',a∈own i\/(C.H0 a=none/\¬ Wn own a/\U a)):Sn Z (upd H c o) (Wn (a_ own i A')):=by
 obtain⟨oc,h1,h2⟩:=J5;have u:=Sn.upd (o':=o) n h1 h2 hc;exact⟨λb CK=>by
  obtain⟨j,hj⟩:=CK
  by_cases aX:i=j
  ·rw[<- aX,os_eq]at hj;rcases hA b hj with z|z
   ·exact n.w b ⟨i,z⟩
   ·exact .inr (m b z.2.2)
  ·rw[cj aX]at hj;exact n.w b ⟨j,hj⟩,u.k,u.d⟩
theorem cI.Cb {P:Yk}{w:YB}{ds:List D}(b:cI P w C σ H β own)(e:β[i]?=some (some (.own (.lst ds)))):∃a vs A',σ[i]?=some (some (.ref a))/\H a=some (.lst vs)/\own i=a::A'/\aP P w H ds vs A':=by
 obtain⟨v,h1,⟨a,vs,A',rfl,h2,h3,h4⟩,_⟩:=b.ow i _ e;exact⟨a,vs,A',h1,h2,h3,h4⟩
variable {px ap cp:Pos}
theorem zt (he:∀U,PQ X (C.u U) p e φ)(hN:X.N[i]?=some x:=by rfl)(hv:yI X.env.scope x:=by first|exact .inl rfl|exact .inr (.inl rfl)|exact .inr (.inr rfl))(hd:(x==("__debug__" : Str))=false:=by decide)(i7:(x==("__classdict__" : Str))=false:=by decide)
  (jO:abD (.Name x px) "append" X.env (eval (.Name x px) X.env)=eval (.Name x px) X.env:=by rfl)
  (CS:((aav cp (YG [e] X.env)).all (λx=>!x.1)&&(backToKw cp (keywordEach [] X.env)).all (λx=>x.1.isSome)&&decide ([e].length+([]:List Keyword).length+(if ([]:List Keyword).isEmpty then 0 else 1)<30))=true:=by rfl)
  (jN:(ap.endLine==cp.line)=true:=by rfl) (hs:YG [e] X.env=(false,eval e X.env)::YG [] X.env:=by rfl) (nZ:(aav cp (YG [] X.env)).any (·.1)=false:=by rfl)
  (yb:aaa (.Call (.Attribute (.Name x px) "append" ap) [e] [] cp) none pos.line X.env=pure false:=by rfl) :
  PB X C (.Expr (.Call (.Attribute (.Name x px) "append" ap) [e] [] cp) pos) (λE β=>(∃ds,β[i]?=some (some (.own (.lst ds))))/\φ β λd k β'=>DP k d/\∃ds,β'[i]?=some (some (.own (.lst ds)))/\ds.length<Yy/\E.nx (β'.set i (some (.own (.lst (ds++[d])))))):=by
 refine⟨λE E' β l J1=>by obtain⟨h1,q⟩:=J1;exact⟨h1,(he λ_=>False).mono _ _ _ (λd k β' J0=>by obtain⟨f,ds,h1,h2,q⟩:=J0;exact⟨f,ds,h1,h2,l.nx _ q⟩) q⟩,λpins s σ H D I ⟨Z,E,β,⟨own,sq,n⟩,⟨⟨X0,hb⟩,q⟩,ok⟩=>?_⟩
 refine rK (pos:=pos) (GC (apos:=ap) (cpos:=cp) PySem.F.plainAttrs_list PySem.F.slot_list_append PySem.F.type_list_append kJ (fg (pos:=px) hN hv hd i7) (br (he λa=>H a=none).pe dy hs) jO CS jN hs nZ) yb pins s σ H D I ?_;obtain⟨a,vs,A',h1,h2,h3,h4⟩:=sq.Cb hb;refine⟨.ref a,h1,.inl ⟨rfl,vs,dh.of h2⟩,tQ.of (he λa=>H a=none) (sq.tj (C:=C.z) (U:=λa=>H a=none) λa z=>z) q λd k β' v H1 aG ⟨f,ds,ij,hl,q⟩ o r=>?_⟩;obtain⟨a',vs',A1,g1,g2,g3,g4⟩:=o.sq.Cb ij;rw[h1]at g1;cases g1;obtain⟨A,r1,r2,r3⟩:=r.fl f;have ha:a∈aG i:=by rw[g3];simp
 have nd:(a::(A1++A)).Nodup:=by
  have q:=o.sq.rZ i;rw[g3]at q;refine YV.mpr ⟨λz=>?_,Zq.mpr ⟨(YV.mp q).2,r2,λx hx y hy e=>?_⟩⟩
  ·rcases YL.mp z with z|z
   ·exact(YV.mp q).1 z
   ·exact(r3 a z).2.1 ⟨i,ha⟩
  ·subst e;exact(r3 x hy).2.1 ⟨i,by rw[g3];simp[hx]⟩
 have hA:∀b∈a::(A1++A),b∈aG i\/(C.H0 b=none/\¬ Wn aG b/\H b=none):=λb hb=>by
  rcases Yi.mp hb with rfl|hb
  ·exact .inl ha
  ·rcases YL.mp hb with hb|hb
   ·exact .inl (by rw[g3];simp[hb])
   ·exact .inr ⟨(r3 b hb).2.2,(r3 b hb).2.1,(r3 b hb).1⟩
 have kt:∀b xs,H1 b=some (.tup xs)->upd H1 a (.lst (vs'++[v])) b=some (.tup xs):=λb xs z=>by
  rw[aw (λz'=>by rw[z',g2]at z;cases z)];exact z
 have ne1:∀c∈A1,c≠a:=λc hc z=>by
  have q:=o.sq.rZ i;rw[g3]at q;exact(YV.mp q).1 (by rw[<- z];exact hc)
 have ne2:∀c∈A,c≠a:=λc hc z=>(r3 c hc).2.1 ⟨i,by rw[z];exact ha⟩
 have r':Own X.prog X.w (upd H1 a (.lst (vs'++[v]))) (.lst (ds++[d])) (.ref a) (a::(A1++A)) :=
  ⟨a,vs'++[v],A1++A,rfl,az,rfl,(g4.keep kt λc hc oc ec=>by rw[aw (ne1 c hc)];exact ec).append (aP.one (r1.keep kt λc hc oc ec=>by rw[aw (ne2 c hc)];exact ec))⟩
 exact⟨a,vs',v,rfl,rfl,g2,by rw[g4.length];exact hl,ok.nx _ _ _ ⟨_,o.sq.putIn ij h1 ha r' nd hA,rm (n.trans o.sn) (λb z=>n.free z) ⟨i,ha⟩ ⟨_,g2,λxs z=>by cases z⟩ hA⟩ q⟩
end
abbrev fu:=D->Kd->a8->(a8->Prop)->Prop
abbrev qV:=List D->Kd->a8->(a8->Prop)->Prop
structure DI (X:Cx)(C:Cfg)(tg:Expr)(T:List Nat)(γ:fu):Prop where
 mono:∀d k β R R',(∀r,R r->R' r)->γ d k β R->γ d k β R'
 pg:PG X tg λv σ H Q=>∃own β d k,SQ X C σ H β own/\Rp X (iI C (Wn own) k) H d v/\γ d k β λβ'=>∀σ' aS,SQ X C σ' H β' aS->(∀a,Wn aS a->Wn own a)->(∀j,j∉T->σ'[j]?=σ[j]?)->Q σ' H
structure Gq (X:Cx)(C:Cfg)(yQ:List Expr)(T:List Nat)(γ:qV):Prop where
 mono:∀d k β R R',(∀r,R r->R' r)->γ d k β R->γ d k β R'
 TH:Ht X yQ λvs σ H Q=>∃own β ds k,SQ X C σ H β own/\lM X (iI C (Wn own) k) H ds vs/\γ ds k β λβ'=>∀σ' aS,SQ X C σ' H β' aS->(∀a,Wn aS a->Wn own a)->(∀j,j∉T->σ'[j]?=σ[j]?)->Q σ' H
section
variable {X:Cx}{C:Cfg}{tg:Expr}{yQ:List Expr}{γ:fu}{γs:qV}{T T':List Nat}{pos:Pos}{e:Expr}{φ:aV}{p:Bool}
def WO (i:Nat):fu:=λd k β R=>GZ d k λb=>R (β.set i (some b))
theorem ak {i:Nat}{x:Str}(hN:X.N.Nodup)(hi:X.N[i]?=some x:=by rfl)(hx:Loc X.env.scope x:=by first|exact .inl rfl|exact .inr rfl)
  (hf:X.fn x=true\/X.env.scope.names.lookup x=some .local:=by first|exact .inl rfl|exact .inr rfl|assumption):DI X C (.Name x pos) [i] (WO i) :=
 ⟨λd k β R R' h q=>GZ.mono (d:=d) (k:=k) (K:=λb=>R (β.set i (some b))) (K':=λb=>R' (β.set i (some b))) (λ_=>h _) q,(EH hN hi hx hf).pre λv σ H Q Fx=>by
  obtain⟨own,β,d,k,s,r,q⟩:=Fx;have Pa:∀(v:V) (j:Nat),j∉[i]->(σ.set i (some v))[j]?=σ[j]?:=λv j hj=>bS (aaF (by simpa using hj))
  cases k with
  |own=>exact q _ _ (s.iM (y:=true) r) (λa h=>j7 h) (Pa v)
  |gj=>exact q _ _ (s.iM (y:=true) r) (λa h=>j7 h) (Pa v)
  |old=>exact q _ _ (s.iM (y:=false) r) (λa h=>j7 h) (Pa v)
  |bor=>exact q.2 _ _ (s.iM (y:=true) (aB.flat q.1 r)) (λa h=>j7 h) (Pa v)⟩
abbrev sk (k:Kd):D->Kd
 |.int _=>.own
 |.bl _=>.own
 |.cX=>.own
 |.str _=>.own
 |_=>k.wk
theorem rq {P:Yk}{w:YB}{W:Addr->Prop}{H:Hp}{k:Kd}{d:D}{v:V}(r:aB P w (iI C W k) H d v):aB P w (iI C W (sk k d)) H d v:=by
 cases d with
 |int i=>exact aB.flat rfl r
 |bl i=>exact aB.flat rfl r
 |cX=>exact aB.flat rfl r
 |str i=>exact aB.flat rfl r
 |_=>exact aB.aY (λa z=>z.imp (DC a) id) r
def Kk:qV:=λds _ β R=>ds=[]/\R β
def CY (γ:fu)(γs:qV):qV:=λds k β R=>∃d r,ds=d::r/\γ d (sk k d) β λβ'=>γs r k β' R
theorem bM:Gq X C [] [] Kk:=⟨λd k β R R' h q=>⟨q.1,h _ q.2⟩,EG.pre λvs σ H Q JX=>by
 obtain⟨own,β,ds,k,s,r,e,q⟩:=JX;subst e;exact⟨r,q σ own s (λ_ z=>z) λ_ _=>rfl⟩⟩
theorem aM (h1:DI X C tg T γ)(h2:Gq X C yQ T' γs)(hs:(aal (tg::yQ) X.env).map (·.2)=assign tg X.env::(aal yQ X.env).map (·.2):=by rfl):Gq X C (tg::yQ) (T++T') (CY γ γs) :=
 ⟨λds k β R R' h Fw=>by obtain⟨d,r,e,q⟩:=Fw;exact⟨d,r,e,h1.mono _ _ β _ _ (λβ' q=>h2.mono r k β' _ _ h q) q⟩,
  (BF h1.pg h2.TH hs).pre λvs σ H Q MY=>by
    obtain⟨own,β,ds,k,s,rr,d,r,e,q⟩:=MY;subst e;obtain⟨v,vr,rfl,rv,Vk⟩:=rr;exact⟨v,vr,rfl,own,β,d,_,s,rq rv,h1.mono _ _ β _ _ (λβ' q σ' aS s' w' t'=>⟨aS,β',r,k,s',aj.aY (oM w' k) Vk,h2.mono r k β' _ _ (λβ2 q2 σ2 a5 s2 w2 t2=>q2 σ2 a5 s2 (λa z=>w' a (w2 a z)) λj hj=>(t2 j λz=>hj (Y4 _ z)).trans (t' j λz=>hj (ZR _ z))) q⟩) q⟩⟩
def WN (n:Nat)(γs:qV):fu:=λd k β R=>∃ds,d=.tup ds/\ds.length=n/\γs ds k β R
theorem cy {k:Nat}{n:Nat}(hc:X.calm=true)(h:Gq X C yQ T γs)(hn:(aal yQ X.env).length=n:=by rfl)(JG:(aal yQ X.env).findIdx? (·.1)=none:=by rfl):DI X C (.Tuple yQ k pos) T (WN n γs) :=
 ⟨λd k β R R' hh MX=>by obtain⟨ds,e,l,q⟩:=MX;exact⟨ds,e,l,h.mono ds k β _ _ hh q⟩,(IF hc h.TH hn JG).pre λv σ H Q JN=>by
  obtain⟨own,β,d,k,s,r,ds,e,l,q⟩:=JN;subst e;obtain⟨a,vs,rfl,ha,rs⟩:=r;exact⟨a,vs,rfl,sM.of ha,by rw[rs.length];exact l,own,β,ds,k,s,rs,q⟩⟩
theorem jr {Z:Hp×(Addr->Prop)}{H:Hp}{own aS:Nat->List Addr}(n:Sn Z H (Wn own))(h:∀a,Wn aS a->Wn own a):Sn Z H (Wn aS):=⟨λb z=>n.w b (h b z),n.k,n.d⟩
theorem nh (he:PQ X C.z p e φ)(hg:DI X C.z tg T γ)(hs:swapsWithSole [tg] e pos.line X.env=pure false:=by rfl)(hw:swappedStores [tg] e X.env=pure none:=by rfl)
  (h1:(aal [tg] X.env).map (·.2)=[assign tg X.env]:=by rfl):PB X C (.Assign [tg] e pos) (λE β=>φ β λd k β'=>γ d k β' E.nx) :=
 ⟨λE E' β l q=>he.mono _ _ _ (λd k β' q=>hg.mono _ _ _ _ _ l.nx q) q,(vW he.pe hg.pg hs hw h1).pre λD σ H ⟨Z,E,β,⟨own,s,n⟩,q,ok⟩=>tQ.of he s q λd k β' v H' aS q o r =>
  ⟨aS,β',d,k,o.sq,aB.aY (λa z=>z.elim id λz=>z.elim) r.rep,hg.mono _ _ _ _ _ (λβ2 q σ2 a5 s2 w2 _=>ok.nx _ _ _ ⟨a5,s2,jr (n.trans o.sn) w2⟩ q) q⟩⟩
theorem rR (he:PQ X C.z p e φ)(yb:aaa e none pos.line X.env=pure false:=by rfl):PB X C (.Expr e pos) (λE β=>φ β λ_ _ β'=>E.nx β') :=
 ⟨λE E' β l q=>he.mono _ _ _ (λd k β' q=>l.nx _ q) q,(rK he.pe yb).pre λD σ H Fv=>by obtain⟨Z,E,β,⟨own,s,n⟩,q,ok⟩:=Fv;exact tQ.of he s q λd k β' v H' aS q o r=>ok.nx _ _ _ (o.sb n) q⟩
abbrev T9 (ro:Bool)(k:Kd)(d:D):Prop:=match k,ro with
 |.own,_=>True
 |.gj,false=>True
 |_,_=>d.flat=true
theorem fD {P:Yk}{w:YB}{W:Addr->Prop}{ro:Bool}{H H':Hp}{d:D}{v:V}(f:d.flat=true)(r:aB P w W H' d v):sO P w ro H H' d v:=by
 cases ro with
 |true=>exact⟨[],fB f r,ZF,λc hc=>(nomatch hc)⟩
 |false=>exact aB.flat f r
theorem Fb {P:Yk}{w:YB}{Z:Hp×(Addr->Prop)}{own:Nat->List Addr}{ro:Bool}{H':Hp}{k:Kd}{d:D}{v:V}(f:T9 ro k d)(r:KV P w C Z own H' k d v):sO P w ro C.H0 H' d v:=by
 cases k with
 |own =>
  cases ro with
  |true=>obtain⟨A,h1,h2,h3⟩:=r;exact⟨A,h1,h2,λc hc=>(h3 c hc).2.2⟩
  |false=>exact aB.aY (λa z=>.inr z) r.rep
 |gj =>
  cases ro with
  |true=>exact fD f r.rep
  |false=>exact aB.aY (λa z=>.inr z) r.rep
 |old=>cases ro <;> exact fD f r.rep
 |bor=>cases ro <;> exact fD f r.rep
theorem aN (he:PQ X C.z p e φ):PB X C (.Return (some e) pos) (λE β=>φ β λd k β'=>T9 C.ro k d/\E.rt d β') :=
 ⟨λE E' β l q=>he.mono _ _ _ (λd k β' q=>⟨q.1,l.rt _ _ q.2⟩) q,(gK he.pe).pre λD σ H Fu=>by obtain⟨Z,E,β,⟨own,s,n⟩,q,ok⟩:=Fu;exact tQ.of he s q λd k β' v H' aS q o r=>ok.rt _ _ _ _ _ (o.sb n) (Fb (C:=C.z) q.1 r) q.2⟩
theorem l7 {i:Nat}{x:Str}{px:Pos}(hN:X.N[i]?=some x:=by rfl)(hv:yI X.env.scope x:=by first|exact .inl rfl|exact .inr (.inl rfl)|exact .inr (.inr rfl))(hd:(x==("__debug__" : Str))=false:=by decide)(i7:(x==("__classdict__" : Str))=false:=by decide):
  PB X C (.Return (some (.Name x px)) pos) (λE β=>∃d,β[i]?=some (some (.own d))/\E.rt d β) :=
 ⟨λE E' β l wz=>by obtain⟨d,h1,q⟩:=wz;exact⟨d,h1,l.rt _ _ q⟩,(gK (fg (pos:=px) hN hv hd i7)).pre λD σ H CM=>by
  obtain⟨Z,E,β,⟨own,s,n⟩,⟨d,h1,q⟩,ok⟩:=CM;obtain⟨v,e1,r,h0⟩:=s.ow i d h1;refine⟨_,e1,ok.rt _ _ _ _ _ ⟨own,s,n⟩ ?_ q⟩;cases hr:C.ro with
  |true=>exact⟨_,r,s.rZ i,h0⟩
  |false=>exact r.rep λc hc z=>z (h0 c hc)⟩
end
abbrev eI:=a8->(List D->Kd->a8->Prop)->Prop
structure DH (X:Cx)(C:Cfg)(p:Bool)(tg iter:Expr)(ι:eI):Prop where
 mono:∀β R R',(∀d k β,R d k β->R' d k β)->ι β R->ι β R'
 pi:PI X tg iter λσ H R=>∃β own,SQ X C σ H β own/\ι β λds k β'=>∀J H' aS,Out X C σ H own p β' H' aS->Ao X (av C (Wn aS) k) J ds H'->R J H'
section
variable {X:Cx}{C:Cfg}{tg e a b:Expr}{φ:aV}{φs:cV}{p:Bool}{pp pos:Pos}
def Q_ (φ:aV):eI:=λβ R=>φ β λd k β'=>∃ds,d=.lst ds/\R ds k β'
theorem aW (h:PQ X C p e φ):DH X C p tg e (Q_ φ) :=
 ⟨λβ R R' k q=>h.mono β _ _ (λd kd β' J3=>by obtain⟨ds,e,q⟩:=J3;exact⟨ds,e,k _ _ _ q⟩) q,(xH h.pe).pre λσ H R ⟨β,own,s,q⟩=>tQ.of h s q λd k β' v H1 aG CL o1 r1=>by
  obtain⟨ds,e,q1⟩:=CL;subst e;obtain⟨a,vs,rfl,h1,n1,q2⟩:=r1.rep;exact⟨a,rfl,⟨vs,dh.of h1⟩,q1 _ _ aG o1 (uu h1 n1 q2)⟩⟩
def Ft (φs:cV):eI:=λβ R=>φs β λds _ β'=>∃j:Int,ds=[.int j]/\-(2 ^ 62)<=j/\j<2 ^ 62/\R (o9 0 j.toNat) .gj β'
def xZ (φs:cV):eI:=λβ R=>φs β λds _ β'=>∃i j:Int,ds=[.int i,.int j]/\(-(2 ^ 62)<=i/\i<2 ^ 62/\-(2 ^ 62)<=j/\j<2 ^ 62)/\R (o9 i (j-i).toNat) .gj β'
theorem cD (hm:X.mg "range" = none) (ha:vz X C p [a] φs) (hg:Gl X "range" := by rfl) (hs:YG [a] X.env=[(false,eval a X.env)]:=by rfl):DH X C p tg (.Call (.Name "range" pp) [a] [] pos) (Ft φs) :=
 ⟨λβ R R' k q=>ha.mono β _ _ (λd kd β' JZ=>by obtain⟨j,e,h1,h2,q⟩:=JZ;exact⟨j,e,h1,h2,k _ _ _ q⟩) q,(zm hg hm ha.pa hs).pre λσ H R ⟨β,own,s,q⟩=>xl.of ha s q λds ks β' vs H1 aG JW o1 r1=>by
  obtain⟨j,e,h1,h2,q1⟩:=JW;subst e;obtain⟨x,rfl,hx⟩:=qT r1.kz;cases hx;exact⟨j,rfl,h1,h2,q1 _ _ aG o1 kS⟩⟩
theorem m_ (hm:X.mg "range" = none) (ha:vz X C p [a,b] φs) (hg:Gl X "range" := by rfl) (hs:YG [a,b] X.env=[(false,eval a X.env),(false,eval b X.env)]:=by rfl) (sS:YG [b] X.env=[(false,eval b X.env)]:=by rfl) :
  DH X C p tg (.Call (.Name "range" pp) [a,b] [] pos) (xZ φs) :=
 ⟨λβ R R' k q=>ha.mono β _ _ (λd kd β' JV=>by obtain⟨i,j,e,h1,q⟩:=JV;exact⟨i,j,e,h1,k _ _ _ q⟩) q,(qd hg hm ha.pa hs sS).pre λσ H R ⟨β,own,s,q⟩=>xl.of ha s q λds ks β' vs H1 aG RL o1 r1=>by
  obtain⟨i,j,e,h1,q1⟩:=RL;subst e;obtain⟨x,y,rfl,hx,hy⟩:=yF r1.kz;cases hx;cases hy;exact⟨i,j,rfl,h1,q1 _ _ aG o1 kS⟩⟩
end
def FP (γ:fu)(ψ:Hr)(E:gv)(ds:List D)(k:Kd)(β:a8):Prop:=∃I:Nat->a8->Prop,I 0 β/\(∀i d β,ds[i]?=some d->I i β->γ d (sk k d) β λβ1=>ψ (E.lp (I (i+1))) β1)/\∀β,I ds.length β->E.nx β
section
variable {X:Cx}{C:Cfg}{tg iter c:Expr}{γ:fu}{T:List Nat}{ψ:Hr}{ι:eI}{τ:bc}{body:List Stmt}{pos:Pos}{p:Bool}
theorem FP.mono {E E':gv}{ds:List D}{k:Kd}{β:a8}(hγ:∀d k β R R',(∀r,R r->R' r)->γ d k β R->γ d k β R')(hψ:∀E E' β,Le E E'->ψ E β->ψ E' β)(l:Le E E'):FP γ ψ E ds k β->FP γ ψ E' ds k β:=λ⟨I,h0,h1,h2⟩ =>
 ⟨I,h0,λi d β e q=>hγ d _ β _ _ (λβ1 q=>hψ {nx:=I (i+1),rt:=E.rt,bk:=E.nx,ct:=I (i+1)} {nx:=I (i+1),rt:=E'.rt,bk:=E'.nx,ct:=I (i+1)} β1 ⟨λ_ q=>q,l.rt,l.nx,λ_ q=>q⟩ q) (h1 i d β e q),λβ q=>l.nx _ (h2 β q)⟩
theorem Gk {own a5:Nat->List Addr}{H H2:Hp}{k:Kd}(n:Sn (H,Wn own) H2 (Wn a5)):∀b,av C (Wn a5) k b->av C (Wn own) k b\/H b=none:=λb z=>by
 cases k with
 |own=>exact z.elim (λz=>(n.w b z).imp .inl id) λz=>.inl (.inr z)
 |gj=>exact z.elim (λz=>(n.w b z).imp .inl id) λz=>.inl (.inr z)
 |old=>exact n.w b z
 |bor=>exact z.elim
theorem bx (hp:PassesOwn (model X.prog X.w) X.A X.env X.xe)(hc:X.calm=true)(hi:DH X C.z p tg iter ι)(hg:DI X C.z tg T γ)(hb:yJ X C body ψ)(hs:∀x,Zo iter X.env x=pure x:=by intro _;rfl):
  PB X C (.For tg iter body [] pos) (λE β=>ι β λds k β1=>hold k false/\FP γ ψ E ds k β1) :=
 ⟨λE E' β l q=>hi.mono _ _ _ (λds k β1 q=>⟨q.1,q.2.mono hg.mono hb.mono l⟩) q,(By hp hc hi.pi hg.pg hb.ps hs).pre λD σ H RF=>by
  obtain⟨Z,E,β,⟨own,s,n⟩,q,ok⟩:=RF;refine⟨β,own,s,hi.mono _ _ _ (λds k β1 ⟨hk,I,i0,i1,i2⟩ J H1 aG o1 it=>?_) q⟩;have n':=n.trans o1.sn;have ig:∀b,Wn aG b\/H1 b=none->av C.z (Wn aG) k b\/H1 b=none:=λb z=>by
   cases k with
   |own=>exact z.imp .inl id
   |gj=>exact z.imp .inl id
   |old=>exact z
   |bor=>exact hk.elim
  have KY:=it (λb=>av C.z (Wn aG) k b\/H1 b=none) λb z=>z;refine⟨λi m σ H=>i<=ds.length/\m=ds.length-i/\∃β,SB X C (H1,Wn aG) σ H β/\I i β,⟨_,Yz _,rfl,β1,⟨aG,o1.sq,Sn.refl⟩,i0⟩,?_⟩;rintro i m σ2 H2 ⟨hi,rfl,β2,⟨a5,s2,n2⟩,hl⟩;obtain⟨eP,si⟩:=KY i H2 (n2.k.mono ig)
  by_cases dt:i<ds.length
  ·right
   have hd:ds[i]?=some ds[i]:=Yj dt;obtain⟨go,yl⟩:=eP _ hd;refine⟨go,λσ' H'=>∃β,SB X C (H1,Wn aG) σ' H' β/\I (i+1) β,λσ' H' JT=>by obtain⟨β',vP,lS⟩:=JT;exact⟨_,by lia,dt,rfl,β',vP,lS⟩,λx H3 y=>?_⟩
   obtain⟨s3,r3⟩:=yl x H3 y;refine⟨a5,β2,_,_,s2.same s3,rq (C:=C.z) (aB.aY (λb z=>Gk (C:=C) n2 b (z.elim id λz=>z.elim)) r3),hg.mono _ _ _ _ _ (λβ4 q σ4 tZ s4 w4 _=>?_) (i1 i _ β2 hd hl)⟩;refine⟨(H1,Wn aG),_,β4,⟨tZ,s4,jr (n2.same s3) w4⟩,q,⟨λσ5 H5 β5 za q5=>⟨β5,za,q5⟩,λσ5 H5 β5 d5 v5 za r5 q5=>?_,λσ5 H5 β5 za q5=>?_,λσ5 H5 β5 za q5=>⟨β5,za,q5⟩⟩⟩
   ·obtain⟨rS,s5,n5⟩:=za;exact ok.rt _ _ _ _ _ ⟨rS,s5,n'.trans n5⟩ r5 q5
   ·obtain⟨rS,s5,n5⟩:=za;exact ok.nx _ _ _ ⟨rS,s5,n'.trans n5⟩ q5
  ·left
   have e:i=ds.length:=by lia
   subst e;exact⟨si (Yh _),ok.nx _ _ _ ⟨a5,s2,n'.trans n2⟩ (i2 β2 hl)⟩⟩
def HI (τ:bc)(ψ:Hr):Hr:=λE β=>∃V:Nat->a8->Prop,(∃m,V m β)/\∀m β,V m β->τ β λt β1=>if t=true then ψ {nx:=λβ'=>∃m',m'<m/\V m' β',rt:=E.rt,bk:=E.nx,ct:=λβ'=>∃m',m'<m/\V m' β'} β1 else E.nx β1
theorem BJ (hp:PassesOwn (model X.prog X.w) X.A X.env X.xe)(hc:vy X C.z p c τ)(hb:yJ X C body ψ):PB X C (.While c body [] pos) (HI τ ψ) :=
 ⟨λE E' β l ⟨V,h0,h⟩=>⟨V,h0,λm β v=>hc.mono _ _ _ (λt β1 q=>by
   cases t
   ·exact l.nx _ q
   ·exact hb.mono {nx:=λβ'=>∃m',m'<m/\V m' β',rt:=E.rt,bk:=E.nx,ct:=λβ'=>∃m',m'<m/\V m' β'} {nx:=λβ'=>∃m',m'<m/\V m' β',rt:=E'.rt,bk:=E'.nx,ct:=λβ'=>∃m',m'<m/\V m' β'} β1 ⟨λ_ q=>q,l.rt,l.nx,λ_ q=>q⟩ q) (h m β v)⟩,(Bw hp hc.pt hb.ps).pre λD σ H JS=>by
  obtain⟨Z,E,β,sb,⟨V,⟨m0,v0⟩,h⟩,ok⟩:=JS;refine⟨λm σ H=>∃β,SB X C Z σ H β/\V m β,⟨m0,β,sb,v0⟩,λm σ H ⟨β,⟨own,s,n⟩,v⟩=>?_⟩;refine lX.of hc s (h m β v) λt β1 H1 aG q o1=>?_;cases t
  ·exact ok.nx _ _ _ (o1.sb n) q
  ·exact⟨λσ' H'=>∃β',SB X C Z σ' H' β'/\∃m',m'<m/\V m' β',λσ' H' JQ=>by obtain⟨β',vP,m',hm,v'⟩:=JQ;exact⟨m',hm,β',vP,v'⟩,Z,_,β1,o1.sb n,q,λσ' H' β' vP q'=>⟨β',vP,q'⟩,ok.rt,ok.nx,λσ' H' β' vP q'=>⟨β',vP,q'⟩⟩⟩
end
def startB (N:List Str)(ds:List D):a8:=ds.map (λd=>some (.val false d))++YO (N.length-ds.length) none
def ki (N:List Str)(ok:List Int->Prop)(ds:List D):a8:=some (.hand ok)::(ds.map (λd=>some (.val false d))++YO (N.length-(ds.length+1)) none)
section
variable {P:Yk}{w:YB}{K:PySem.W.Frag}{mg:Str->Option Yc}{base:Heap}
theorem gI {i n:Nat}{b:B}(h:(YO n (none:Option B))[i]?=some (some b)):False:=by
 rw[List.getElem?_replicate]at h
 split at h <;> cases h
theorem fx {ds:List D}{n i:Nat}{b:B}(h:(ds.map (λd=>some (B.val false d))++YO n none)[i]?=some (some b)):∃d,ds[i]?=some d/\b=.val false d:=by
 by_cases hi:i<ds.length
 ·rw[ZO (by simpa using hi),Yu]at h
  cases q:ds[i]? with
  |none=>rw[q]at h;cases h
  |some d=>rw[q]at h;cases h;exact⟨d,rfl,rfl⟩
 ·rw[Zd (by simpa using hi)]at h
  exact(gI h).elim
theorem kh {N:List Str}{vs:List V}{i:Nat}{v:V}(h:vs[i]?=some v):(start N vs)[i]?=some (some v):=by
 unfold start;rw[ZO (by simpa using (Yr.mp h).1),Yu,h]
 rfl
theorem A0 {N:List Str}{vs:List V}{ds:List D}{H:Hp}{ro:Bool}(r:aj P w (λ_=>False) H ds vs):cI P w ⟨H,λ_=>False,ro,λ_=>False⟩ (start N vs) H (startB N ds) (λ_=>[]):=by
 refine⟨?_,λi y d h=>?_,λi d h=>?_,λi ok h=>?_,λi a h=>(nomatch h),λi j a h=>(nomatch h),λi=>ZF,Kp.refl,λ_ z=>z,λi y d h=>by obtain⟨d',e,e'⟩:=fx h;cases e'⟩
 ·unfold startB start;simp[r.length]
 ·obtain⟨d',e,e'⟩:=fx h;cases e';obtain⟨v,e1,e2⟩:=aj.get r e;exact⟨v,kh e1,aB.aY (λa z=>z.elim (λRC=>by obtain⟨_,q⟩:=RC;exact(nomatch q)) λz=>z) e2⟩
 ·obtain⟨d',e,e'⟩:=fx h;cases e'
 ·obtain⟨d',e,e'⟩:=fx h;cases e'
theorem lP {x qual:Str}{st:Stmt}{f:Addr}{fd:YY}{N ps:List Str}{k:Nat}{F:FD}{ro:Bool}(G:DV K x qual st f fd)(S:aI N ps (ar st))(len:∀ds R,F ds R->ds.length=ps.length)
  (n6:∀(cF:Yc) (A:Zc) (outer:List Env) (s:Yg) (H:Hp) (E:XK),cU k (A.deeper (envOfC qual (ar st) s.heap.objs.size f cF)) ->
   ∃ψ,yJ (pH bp P w K mg base N qual (ar st) f cF A outer s H E).GK ⟨H,λ_=>False,ro,λ_=>False⟩ (fe st) ψ/\∀ds R,F ds R->ψ {nx:=λ_=>R .cX,rt:=λd _=>R d} (startB N ds)) :
  aH P w K mg base bp (k+1) f fd ps (bX P w ro F):=by
 refine G.ok S (λvs H Q E h=>?_) (λcF A outer s H vs Q E hr h=>?_)
 ·obtain⟨ds,r,h⟩:=h;rw[r.length];exact len ds _ h
 ·obtain⟨ds,r,h⟩:=h;obtain⟨ψ,hb,hF⟩:=n6 cF A outer s H E hr;refine⟨_,hb.ps,(H,Wn λ_=>[]),_,startB N ds,⟨λ_=>[],A0 r,Sn.refl⟩,hF ds _ h,λσ H' β sb q=>?_,λσ H' β d v sb rr q=>?_,λ_ _ _ _ z=>z.elim,λ_ _ _ _ z=>z.elim⟩
  ·obtain⟨own,s',n'⟩:=sb;exact q _ H' (λb o e=>s'.kp.out b o e (λz=>z)) (fD (W:=λ_=>False) rfl rfl)
  ·obtain⟨own,s',n'⟩:=sb;exact q _ H' (λb o e=>s'.kp.out b o e (λz=>z)) rr
theorem yU {N:List Str}{ok:List Int->Prop}{h:Addr}{ns:List Int}{vs:List V}{ds:List D}{H:Hp}{ro:Bool}(hh:H h=some (.lst (ns.map V.int)))(ho:ok ns)(r:aj P w (λa=>a=h) H ds vs):
  cI P w ⟨H,(·=h),ro,λ_=>False⟩ (start N (.ref h::vs)) H (ki N ok ds) (λi=>if i=0 then [h] else []):=by
 have EM:∀{i:Nat} {a:Addr},a∈(if i=0 then [h] else ([]:List Addr))->i=0/\a=h:=λ{i a} q=>by
  by_cases e:i=0
  ·rw[if_pos e]at q;exact⟨e,by simpa using q⟩
  ·rw[if_neg e]at q;cases q
 have FL:∀{i:Nat} {b:B},(ki N ok ds)[i]?=some (some b)->(i=0/\b=.hand ok)\/∃j d,i=j+1/\ds[j]?=some d/\b=.val false d:=λ{i b} q=>by
  unfold ki at q;cases i with
  |zero=>simp at q;exact .inl ⟨rfl,q.symm⟩
  |succ i =>
   rw[aa0]at q;obtain⟨d,e,e'⟩:=fx q;exact .inr ⟨i,d,rfl,e,e'⟩
 refine⟨?_,λi y d q=>?_,λi d q=>?_,λi Au q=>?_,λi a q=>?_,λi j a h1 h2=>?_,λi=>?_,Kp.refl,λ_ z=>z,λi y d q=>(FL q).elim (λNV=> by obtain⟨_,e⟩ := NV;cases e) (λNU=> by obtain⟨j,d',_,_,e'⟩ := NU;cases e')⟩
 ·unfold ki start;simp[r.length]
 ·rcases FL q with⟨_,e⟩|⟨j,d',rfl,e,e'⟩
  ·cases e
  ·cases e';obtain⟨v,e1,e2⟩:=aj.get r e;exact⟨v,kh (by simpa using e1),aB.aY (λa z=>z.elim (λRA=>by obtain⟨j,q⟩:=RA;exact(EM q).2) λz=>z.elim) e2⟩
 ·rcases FL q with⟨_,e⟩|⟨j,d',_,_,e'⟩
  ·cases e
  ·cases e'
 ·rcases FL q with⟨e0,e⟩|⟨j,d',_,_,e'⟩
  ·cases e;subst e0;exact⟨h,ns,kh rfl,hh,ho,rfl,.inr rfl⟩
  ·cases e'
 ·obtain⟨_,rfl⟩:=EM q;exact⟨by rw[hh];exact λz=>(nomatch z),λxs z=>(by rw[hh]at z;cases z),.inr rfl,λz=>z⟩
 ·rw[(EM h1).1,(EM h2).1]
 ·by_cases e:i=0
  ·simp[e]
  ·simp[e]
theorem Ma {x qual:Str}{st:Stmt}{f:Addr}{fd:YY}{N ps:List Str}{k:Nat}{F:FD}{ok:List Int->Prop}{ro:Bool}(G:DV K x qual st f fd)(S:aI N ps (ar st))(len:∀ds R,F ds R->ds.length+1=ps.length)
  (n6:∀(cF:Yc) (A:Zc) (outer:List Env) (s:Yg) (H:Hp) (E:XK) (IO:Addr->Prop),cU k (A.deeper (envOfC qual (ar st) s.heap.objs.size f cF)) ->
   ∃ψ,yJ (pH bp P w K mg base N qual (ar st) f cF A outer s H E).GK ⟨H,IO,ro,λ_=>False⟩ (fe st) ψ/\∀ds R,F ds R->ψ {nx:=λ_=>False,rt:=λd β=>β[0]?=some (some (.hand ok))/\R d} (ki N ok ds)) :
  aH P w K mg base bp (k+1) f fd ps (o3 P w ok ro F):=by
 refine G.ok S (λvs H Q E h=>?_) (λcF A outer s H vs Q E hr h=>?_)
 ·obtain⟨h,vs',ds,ns,rfl,hh,ho,r,q⟩:=h;rw[Yw,r.length];exact len ds _ q
 ·obtain⟨h,vs',ds,ns,rfl,hh,ho,r,q⟩:=h;obtain⟨ψ,hb,hF⟩:=n6 cF A outer s H E (·=h) hr;refine⟨_,hb.ps,(H,_),_,ki N ok ds,⟨_,yU hh ho r,Sn.refl⟩,hF ds _ q,λσ H' β sb z=>z.elim,λσ H' β d v sb rr ⟨b0,q⟩=>?_,λ_ _ _ _ z=>z.elim,λ_ _ _ _ z=>z.elim⟩;obtain⟨own,s',n'⟩:=sb;obtain⟨a,eK,g1,g2,g3,g4,g5⟩:=s'.vt 0 ok b0;have ea:a=h:=g5.elim (λz=>(z h rfl).elim) λz=>z;subst ea;exact q v H' eK s'.kp s'.i8 g2 g3 rr
end
end L2.Q
namespace L2
open PySem PySem.Spec PySem.SeqAt PyProof.Rows
theorem vx.pre {X:Cx}{ifs:List Expr}{t t':TT}(h:vx X ifs t)(k:∀σ H Q,t' σ H Q->t σ H Q):vx X ifs t':=λpins s σ H Q I q=>h pins s σ H Q I (k σ H Q q)
theorem uG {T:D->Prop}:∀{outs:List D},(∀d∈outs,T d/\d.flat=true)->D.cR outs=true
 |[],_=>rfl
 |d::ds,h=>by
  rw[D.cR,(h d (by simp)).2,uG λd' hd=>h d' (by simp[hd])]
  rfl
section
end
section
end
section
variable {X:Cx}{e:Expr}{g:aaR}{gs:List aaR}{scope:aa7}{N':List Str}{lk:List (Option Nat)}{tg:Addr->TG}{tt:Addr->TT}{wi:TI}
theorem lL {fk:Sem Yc}{o:HO}{after:Yc->Env->Sem Fin->Sem Fin}{ta:Addr->pL}(L:Links X scope N' lk)(hc:X.calm=true)(hA:sP X fk o)
  (F:∀acc env,jY e 0 g acc env (after acc env))
  (CP:∀a cl C s H ex,PG (aO X scope N' cl C s H ex) g.target (tg a)/\vx (aO X scope N' cl C s H ex) g.ifs (tt a)/\vm (aO X scope N' cl C s H ex) (after (.ref a) (aO X scope N' cl C s H ex).env) (ta a))
  {cl:List (Str×Addr)} (pz:∀x,(x,Zb)∈scope.names->∃c,cl.lookup x=some c) (kX:∀x c,cl.lookup x=some c->X.env.cells.lookup x=some c)
  {pins:List (Addr×Obj)} {σ:St} {s:Yg} {Q:V->Hp->Prop} {G0:Yc} {E:Yc->Yg->Prop} {RR:Yc->Addr->Result->Yg->Prop}
  (h:P0 X pins σ g.target (λJ H1=>∀a,H1 a=none->gF J (tg a) (tt a) (ta a) (λ_ H'=>Q (.ref a) H') (fm lk σ) (upd H1 a o)) G0 s)
  (hR:∀a H' C s',Inv X pins σ H' s'->gV X pins H' C->(∃m,s'.heap.Ns C m)->Q (.ref a) H'->RR (.ref a) C (.ok .next) s') :
  YM (model X.prog X.w) X.A fk (λacc s₃=>YM (model X.prog X.w) X.A (newFunctionEnv scope X.env.globals cl [] X.env.qual none .none (some X.env)) (λOG s₄ =>
   abx (model X.prog X.w) X.A (.compStart e 0 G0 acc {OG with scope:=relabel scope X.env}) (RR acc OG.locals) s₄) E s₃) E s:=by
 obtain⟨it,fp,tn,J,H2,e1,I2,T,gm,f2,hl⟩:=h;subst e1;refine hA.ok pins s σ H2 _ E I2 λa s3 ha hn hk I3=>?_;refine wpAny_newFunctionEnv L.v9 (by intro y hy;simp at hy) (λh₁ J8 JJ=>?_) L.kind
 have RU:∀b∈fp,∃o,s3.heap.get? b=some o:=λb hb=>by
  obtain⟨ob,q,_⟩:=T.obj _ _ gm b hb;exact⟨ob,hk b ob q⟩
 have WE:∀b∈fp,b≠a:=λb hb=>by
  obtain⟨ob,q,_⟩:=T.obj _ _ gm b hb;exact YZ (Y2 (YC q) ha)
 have f3:∀b∈fp,gV X pins (upd H2 a o) b:=λb hb=>⟨by rw[aw (WE b hb)];exact(f2 b hb).1,(f2 b hb).2⟩
 have K5:∀b ob,s3.heap.get? b=some ob->h₁.get? b=some ob:=λb ob q=>JJ.extBut b ob (YZ (YC q)) (Yv _ q);have Pw:h₁.Ns s3.heap.objs.size (λ_=>none):=J8;have I4:=CA (t':=s3.toks+([]:List (Str×Yc)).length) I3 L f3 RU pz kX Pw K5;obtain⟨g1,g2,g3⟩:=CP a cl s3.heap.objs.size s3 (upd H2 a o) fp;have f4:∀b∈fp,gV (aO X scope N' cl s3.heap.objs.size s3 (upd H2 a o) fp) [] (upd H2 a o) b:=λb hb =>
  ⟨(f3 b hb).1,(I4.ok.PM b hb).1,I4.ok.C_ b hb,.inl hb,(I4.ok.PM b hb).2,λp hp=>absurd (show p∈([]:List (Addr×Obj)) from hp) (by simp)⟩
 have LH:tn 0 h₁:=T.keep 0 _ _ gm λb hb ob q=>K5 b ob (hk b ob q);refine aa4 (oH (X:=aO X scope N' cl s3.heap.objs.size s3 (upd H2 a o) fp) rfl hc (F (.ref a) _) g1 g2 g3 T I4 LH f4 (hl a hn)) λr s' hr=>?_;obtain⟨rfl,σ',H',J',q⟩:=hr;have I5:Inv X pins σ H' s':=CB (C:=s3.heap.objs.size) (h'':=s'.heap) I3 f3 J' (.refl ..);refine hR a H' s3.heap.objs.size s' I5 (I3.C1 (Yh _) J'.free) ?_ q;obtain⟨m,hm,_⟩:=J'.loc;exact⟨m,hm⟩
theorem tX {fk:Sem Yc}{o:HO}{after:Yc->Env->Sem Fin->Sem Fin}{ta:Addr->pL}{pos:Pos}(L:Links X scope N' lk)(hc:X.calm=true)(hA:sP X fk o)
  (Kf:eval e X.env=comprehension e scope X.env pos fk false (eval g.iter X.env)) (Az:clausesOf e=g::gs)
  (F:∀acc env,jY e 0 g acc env (after acc env)) (hi:PI X g.target g.iter wi)
  (CP:∀a cl C s H ex,PG (aO X scope N' cl C s H ex) g.target (tg a)/\vx (aO X scope N' cl C s H ex) g.ifs (tt a)/\vm (aO X scope N' cl C s H ex) (after (.ref a) (aO X scope N' cl C s H ex).env) (ta a))
  (hs:∀x,Zo g.iter X.env x=pure x) :
  PE X e (λσ H Q=>wi σ H λJ H1=>∀a,H1 a=none->gF J (tg a) (tt a) (ta a) (λ_ H'=>Q (.ref a) H') (fm lk σ) (upd H1 a o)):=by
 intro pins s σ H Q I h;rw[Kf];obtain⟨cl,CT,pz,kX⟩:=iH (env:=X.env) (scope:=scope) λx hx=>I.ok.has x (L.free x hx);refine wpAny_comprehension_free (use:=none) Az hs CT L.kind L.names (bF (hi pins s σ H _ I h) λv s1 h1=>bF h1 λG0 s2 h2=>?_);refine lL (RR:=λacc C=>compPost (model X.prog X.w) X.A X.xe none (EP X pins σ Q) acc C) L hc hA F CP pz kX h2 λa H' C s' I' f ⟨m,hm⟩ q=>?_;exact⟨m,hm,λh' wy=>⟨.ref a,H',I'.sameBut f wy,rfl,q⟩⟩
theorem Bz {fk:Sem Yc}{o:HO}{after:Yc->Env->Sem Fin->Sem Fin}{ta:Addr->pL}{pos pos' tE:Pos}{y:Str}{i:Nat}(L:Links X scope N' lk)(hc:X.calm=true)(hA:sP X fk o)
  (yb:aaa e (some (.Name y pos')) tE.line X.env=pure true)
  (Kf:evalThenUse e X.env (assign (.Name y pos') X.env)=(do let _ <- comprehension e scope X.env pos fk false (eval g.iter X.env) (some (assign (.Name y pos') X.env));pure ())) (Az:clausesOf e=g::gs)
  (hN:X.N.Nodup) (hy:X.N[i]?=some y) (hx:Loc X.env.scope y) (hf:X.fn y=true\/X.env.scope.names.lookup y=some .local)
  (F:∀acc env,jY e 0 g acc env (after acc env)) (hi:PI X g.target g.iter wi)
  (CP:∀a cl C s H ex,PG (aO X scope N' cl C s H ex) g.target (tg a)/\vx (aO X scope N' cl C s H ex) g.ifs (tt a)/\vm (aO X scope N' cl C s H ex) (after (.ref a) (aO X scope N' cl C s H ex).env) (ta a))
  (hs:∀x,Zo g.iter X.env x=pure x) :
  PS X (.Assign [.Name y pos'] e tE) (λD σ H=>wi σ H λJ H1=>∀a,H1 a=none->gF J (tg a) (tt a) (ta a) (λ_ H'=>D.nx (σ.set i (some (.ref a))) H') (fm lk σ) (upd H1 a o)):=by
 intro pins s σ H D I h;rw[exec_Assign_Name_used _ _ _ _ yb,Kf];refine Yd (aaM (Yd (Yd ?_)));obtain⟨cl,CT,pz,kX⟩:=iH (env:=X.env) (scope:=scope) λx hx=>I.ok.has x (L.free x hx);refine bF (wpAny_comprehension_free (use:=some (assign (.Name y pos') X.env)) (Q:=λ_ s'=>SP X pins D .next s') Az hs CT L.kind L.names (bF (hi pins s σ H _ I h) λv s1 h1=>bF h1 λG0 s2 h2=>?_)) λ_ s' q=>Ym (Ym q)
 refine lL (Q:=λv H'=>D.nx (σ.set i (some v)) H') (RR:=λacc C=>compPost (model X.prog X.w) X.A X.xe (some (assign (.Name y pos') X.env)) (λ_ s'=>SP X pins D .next s') acc C) L hc hA F CP pz kX h2 λa H' C s' I' f ⟨m,hm⟩ q=>?_
 show YM _ _ (assign (.Name y pos') X.env (.ref a)) _ _ s';have XU:∃o,s'.heap.get? C=some o:=by obtain⟨o,_,_,ho,_⟩:=hm;exact⟨o,ho⟩
 refine wpAny_assign_Name (pT I' hN hy hx (v:=.ref a) (u:=.ref a) rfl (λs4 I4 k4=>?_) hf);obtain⟨a4,Vj,WH⟩:=k4;have zS:C≠a4:=by
  rcases WH with z|z
  ·rw[z];exact f.2.1
  ·exact(f.2.2.2.2.1 y a4 z).symm
 exact⟨m,hm.at' (λo e=>(Vj.2 C zS).trans e),λh' wy=>⟨_,H',I4.sameBut f wy,q⟩⟩
end
end L2
namespace L2.Q
open PySem PySem.Spec PySem.SeqAt PyProof.Rows
def Ua:Option B->Option B
 |some (.own d)=>some (.val false d)
 |some (.shl _ d)=>some (.val false d)
 |b=>b
def eE (lk:List (Option Nat))(β:a8):a8:=lk.map λl=>match l with|some j=>(match β[j]? with|some b=>Ua b|none=>none)|none=>none
def Po:Option (Option B)->Bool
 |some (some (.hand _))=>true
 |_=>false
def bA (lk:List (Option Nat))(β:a8)(own:Nat->List Addr)(i:Nat):List Addr:=match lk[i]? with
 |some (some j)=>if Po β[j]?=true then own j else []
 |_=>[]
def gq:a8->a8->Prop
 |[],_=>True
 |some (.hand ok)::a,c=>c.head?=some (some (.hand ok))/\gq a c.tail
 |_::a,c=>gq a c.tail
theorem gq.get:∀{a c:a8} {i:Nat} {ok:List Int->Prop},gq a c->a[i]?=some (some (.hand ok))->c[i]?=some (some (.hand ok))
 |[],_,_,_,_,e=>by simp at e
 |x::a,c,0,ok,h,e=>by
  simp at e;subst e;rw[<- List.head?_eq_getElem?];exact h.1
 |x::a,c,i+1,ok,h,e=>by
  have h':gq a c.tail:=by
   cases x with
   |none=>exact h
   |some x=>cases x <;> first|exact h|exact h.2
  have:=gq.get (i:=i) h' (by simpa using e)
  rwa [List.getElem?_tail]at this
section
variable {P:Yk}{w:YB}{C:Cfg}{σ σ':St}{H H' H1:Hp}{β βi:a8}{own jC:Nat->List Addr}{lk:List (Option Nat)}{a:Addr}
theorem b5 {i:Nat}{c:Addr}(h:c∈bA lk β own i):∃j,lk[i]?=some (some j)/\Po β[j]?=true/\c∈own j:=by
 unfold bA at h
 split at h
 ·next j e =>
  by_cases q:Po β[j]?=true
  ·rw[if_pos q]at h;exact⟨j,e,q,h⟩
  ·rw[if_neg q]at h;cases h
 ·cases h
theorem bj:∀c,Wn (bA lk β own) c->Wn own c:=λc ⟨i,h⟩=>let ⟨j,_,_,h⟩:=b5 h;⟨j,h⟩
theorem gP {i j:Nat}{v:V}(h:lk[i]?=some (some j))(e:σ[j]?=some (some v)):(fm lk σ)[i]?=some (some v):=by
 unfold fm;rw[Yu,h];simp only[Option.map_some];rw[e]
theorem ia {i:Nat}{b:B}(h:(eE lk β)[i]?=some (some b)):∃j b',lk[i]?=some (some j)/\β[j]?=some (some b')/\Ua (some b')=some b:=by
 unfold eE at h;rw[Yu]at h;cases q:lk[i]? with
 |none=>rw[q]at h;cases h
 |some l =>
  rw[q]at h;cases l with
  |none=>cases h
  |some j =>
   simp only[Option.map_some]at h;cases q2:β[j]? with
   |none=>rw[q2]at h;cases h
   |some b2 =>
    rw[q2]at h;simp only[Option.some.injEq]at h;cases b2 with
    |none=>cases h
    |some b'=>exact⟨j,b',rfl,q2,h⟩
theorem cI.enter (s:cI P w C σ H β own)(ha:H a=none)(inj:∀(i i' j:Nat),lk[i]?=some (some j)->lk[i']?=some (some j)->i=i'):
  cI P w (C.u λc=>c=a) (fm lk σ) (upd H a (.lst [])) (eE lk β) (bA lk β own):=by
 have sm:ay H (upd H a (.lst [])):=ay.new ha;have na:∀{i c},c∈own i->c≠a:=λ{i c} hc z=>(s.dm i c hc).1 (by rw[z];exact ha)
 have gr:∀k,∀c,iI (C.u λc=>c=a) (Wn (bA lk β own)) k c->iI C (Wn own) k c\/H c=none:=λk c z=>by
  rcases z with z|z
  ·exact .inl (.inl (mx bj k c z))
  ·exact .inr (by rw[z];exact ha)
 refine⟨by unfold eE fm;simp,λi y d e=>?_,λi d e=>?_,λi ok e=>?_,λi c h=>?_,λi i' c h1 h2=>?_,λi=>?_,s.kp.trans sm.kp,λc z e=>s.i8 c z (sm.free e),λi y d e=>by
  obtain⟨j,b',e1,e2,e3⟩:=ia e;cases b' <;> cases e3⟩
 ·obtain⟨j,b',e1,e2,e3⟩:=ia e;cases b' with
  |val y' d' =>
   cases e3;obtain⟨v,h1,h2⟩:=s.val j y d e2;exact⟨v,gP e1 h1,(aB.grow (gr _) h2).same sm⟩
  |own d' =>
   cases e3;obtain⟨v,h1,h2,h3⟩:=s.ow j d e2;refine⟨v,gP e1 h1,aB.same sm (h2.rep λc hc z=>?_)⟩;rcases z with z|z
   ·obtain⟨i',gx⟩:=z;obtain⟨j',q1,q2,q3⟩:=b5 gx;have:=s.ml j j' c hc q3;subst this;rw[e2]at q2;cases q2
   ·exact na hc z
  |hand ok=>cases e3
  |shl y' d' =>
   cases e3;obtain⟨v,h1,h2,h3⟩:=s.shl j y' d e2;refine⟨v,gP e1 h1,aB.same sm (h2.rep (λc hc z=>?_) λds vs r=>aj.grow (λc z=>?_) r)⟩
   ·rcases z with z|z
    ·obtain⟨i',gx⟩:=z;obtain⟨j',q1,q2,q3⟩:=b5 gx;have:=s.ml j j' c hc q3;subst this;rw[e2]at q2;cases q2
    ·exact na hc z
   ·rcases gr _ c z with z|z
    ·refine .inl ?_;rcases z with z|z
     ·cases y' with
      |true=>exact .inl (.inl z)
      |false=>exact .inl z
     ·exact .inr z
    ·exact .inr z
 ·obtain⟨j,b',e1,e2,e3⟩:=ia e;cases b' <;> cases e3
 ·obtain⟨j,b',e1,e2,e3⟩:=ia e;cases b' with
  |val y' d'=>cases e3
  |own d'=>cases e3
  |shl y d=>cases e3
  |hand Au =>
   cases e3;obtain⟨h,ns,h1,h2,h3,h4,h5⟩:=s.vt j ok e2;refine⟨h,ns,gP e1 h1,sm _ _ h2,h3,?_,h5⟩;unfold bA;rw[e1];simp only;rw[e2];exact(if_pos rfl).trans h4
 ·obtain⟨j,q1,q2,q3⟩:=b5 h;obtain⟨g1,g2,g3,g4⟩:=s.dm j c q3;rw[aw (na q3)];exact⟨g1,g2,g3,na q3⟩
 ·obtain⟨j,q1,q2,q3⟩:=b5 h1;obtain⟨j',Pd,Xy,Vs⟩:=b5 h2;have:=s.ml j j' c q3 Vs;subst this;exact inj _ _ _ q1 Pd
 ·unfold bA
  split
  ·next j e =>
   split
   ·exact s.rZ j
   ·exact ZF
  ·exact ZF
theorem cI.LL {o:HO}(s:cI P w (C.u λc=>c=a) σ H β own){oa:HO}(ha:H a=some oa)(ht:∀xs,oa≠.tup xs)(h0:C.H0 a=none):cI P w (C.u λc=>c=a) σ (upd H a o) β own:=by
 have k:Kp (·=a) H (upd H a o):=nO ha ht;have na:∀{i c},c∈own i->c≠a:=λ{i c} hc=>(s.dm i c hc).2.2.2;refine⟨s.len,λi y d e=>let ⟨v,h1,h2⟩:=s.val i y d e;⟨v,h1,h2.keep (k.mono λc z=>.inr z)⟩,λi d e=>let ⟨v,h1,h2,h3⟩:=s.ow i d e;⟨v,h1,h2.keep k.tup (λc hc oc ec=>k.out c oc ec (na hc)),h3⟩,
  λi ok e=>?_,λi c h=>?_,s.ml,s.rZ,⟨λc oc z n=>k.out c oc (s.kp.out c oc z n) λq=>?_,λc xs z=>k.tup c xs (s.kp.tup c xs z)⟩,λc z=>?_,λi y d e=>let ⟨v,h1,h2,h3⟩:=s.shl i y d e;⟨v,h1,h2.map (λc hc oc ec=>k.out c oc ec (na hc)) (λ_ _ r=>r.keep (k.mono λc z=>.inr z)),h3⟩⟩
 ·obtain⟨h,ns,h1,h2,h3,h4,h5⟩:=s.vt i ok e;exact⟨h,ns,h1,k.out h _ h2 (na (by rw[h4];simp)),h3,h4,h5⟩
 ·rw[aw (na h)];exact s.dm i c h
 ·rw[q,h0]at z;cases z
 ·by_cases q:c=a
  ·rw[q,az];exact λz=>(nomatch z)
  ·rw[aw q];exact s.i8 c z
theorem cI.leave (s:cI P w C σ H1 β own)(i:cI P w (C.u λc=>c=a) σ' H' βi jC)(n:Sn (H1,Wn (bA lk β own)) H' (Wn jC))(le:∀c,Wn jC c->Wn (bA lk β own) c)
  (hh:gq (eE lk β) βi) (hσ:∀(j:Nat) (ok:List Int->Prop) (i:Nat),β[j]?=some (some (B.hand ok))->lk[i]?=some (some j)->σ'[i]?=(fm lk σ)[i]?):cI P w C σ H' β own:=by
 have off:∀{j c},c∈own j->¬ Wn (bA lk β own) c->∀o,H1 c=some o->H' c=some o:=λ{j c} hc nw o e=>n.k.out c o e λz=>z.elim nw λz=>(s.dm j c hc).1 z;have MW:∀{j c},c∈own j->Po β[j]?=false->¬ Wn (bA lk β own) c:=λ{j c} hc q JX=>by
  obtain⟨i',gx⟩:=JX;obtain⟨j',q1,q2,q3⟩:=b5 gx;have:=s.ml j j' c hc q3;subst this;rw[q]at q2;cases q2
 have hN:∀(j:Nat) (ok:List Int->Prop),β[j]?=some (some (B.hand ok))->∃a ns,σ[j]?=some (some (V.ref a))/\H' a=some (.lst (ns.map V.int))/\ok ns/\own j=[a]/\((∀b,¬ C.IO b)\/C.IO a):=λj ok e=>by
  obtain⟨h,ns,h1,h2,h3,h4,h5⟩:=s.vt j ok e
  by_cases q:Wn (bA lk β own) h
  ·obtain⟨i',gx⟩:=q;obtain⟨j',q1,q2,q3⟩:=b5 gx;have:=s.ml j j' h (by rw[h4];simp) q3
   subst this;have eB:(eE lk β)[i']?=some (some (.hand ok)):=by
    unfold eE;rw[Yu,q1];simp only[Option.map_some];rw[e];rfl
   obtain⟨h',eK,g1,g2,g3,g4,g5⟩:=i.vt i' ok (hh.get eB);rw[hσ j ok i' e q1,gP q1 h1]at g1;cases g1;exact⟨h,eK,h1,g2,g3,h4,h5⟩
  ·exact⟨h,ns,h1,off (by rw[h4];simp) q _ h2,h3,h4,h5⟩
 refine⟨s.len,λj y d e=>?_,λj d e=>?_,hN,λj c hc=>?_,s.ml,s.rZ,i.kp,i.i8,λj y d e=>by
  obtain⟨v,h1,h2,h3⟩:=s.shl j y d e;refine⟨v,h1,h2.map (λc hc o eo=>off hc (MW hc (by rw[e];rfl)) o eo) (λds vs r=>?_),h3⟩
  have g:aj P w (λc=>iI C (Wn own) (yk y) c\/H1 c=none) H1 ds vs:=aj.grow (λc z=>z) r;refine aj.aY (λc z=>.inl z) (g.keep (n.k.mono λc z=>z.imp (λz=>?_) id));cases y with
  |true=>exact .inl (.inl (bj c z))
  |false=>exact .inl (bj c z)⟩
 ·obtain⟨v,h1,h2⟩:=s.val j y d e;have g:aB P w (λc=>iI C (Wn own) (yk y) c\/H1 c=none) H1 d v:=aB.grow (λc z=>z) h2;refine⟨v,h1,aB.aY (λc z=>.inl z) (g.keep (n.k.mono λc z=>z.imp (λz=>?_) id))⟩;cases y with
  |true=>exact .inl (.inl (bj c z))
  |false=>exact .inl (bj c z)
 ·obtain⟨v,h1,h2,h3⟩:=s.ow j d e;exact⟨v,h1,h2.keep n.k.tup (λc hc o eo=>off hc (MW hc (by rw[e];rfl)) o eo),h3⟩
 ·obtain⟨g1,g2,g3,g4⟩:=s.dm j c hc
  by_cases q:Wn (bA lk β own) c
  ·obtain⟨i',gx⟩:=q;obtain⟨j',q1,q2,q3⟩:=b5 gx;have:=s.ml j j' c hc q3;subst this;cases e:β[j]? with
   |none=>rw[e]at q2;cases q2
   |some b =>
    rw[e]at q2;cases b with
    |none=>cases q2
    |some b =>
     cases b with
     |val y d=>cases q2
     |own d=>cases q2
     |shl y d=>cases q2
     |hand ok =>
      obtain⟨h,ns,k1,k2,k3,k4,k5⟩:=hN j ok e;rw[k4]at hc;rw[Ys.mp hc]at g3 g4 ⊢
      rw[k2];exact⟨λz=>(nomatch z),λxs z=>(by cases z),g3,g4⟩
  ·cases e:H1 c with
   |none=>exact absurd e g1
   |some o=>rw[off hc q o e];exact⟨λz=>(nomatch z),λxs z=>g2 xs (by rw[e];exact z),g3,g4⟩
end
def Ls:bc:=λβ R=>R true β
theorem BB {X:Cx}{C:Cfg}:vx X [] (lX X C true Ls):=EB.pre λσ H Q ⟨β,own,s,q⟩=>q H own (Out.refl s _)
theorem BA {X:Cx}{C:Cfg}{p:Bool}{c:Expr}{τ:bc}(h:vy X C p c τ):vx X [c] (lX X C p τ):=EA h.pt
def nG (γ:fu)(τ:bc)(φ:aV)(ds:List D)(k:Kd)(β0:a8)(K:List D->Prop):Prop:=∃I:Nat->a8->List D->Prop,I 0 β0 [] /\
 (∀i d β o,ds[i]?=some d->I i β o->γ d (sk k d) β λβ1=>τ β1 λt β2=>if t=true then φ β2 λx kx β3=>DP kx x/\o.length<Yy/\I (i+1) β3 (o++[x]) else I (i+1) β2 o)/\∀β o,I ds.length β o->gq β0 β/\K o
theorem nG.mono {γ:fu}{τ:bc}{φ:aV}{ds:List D}{k:Kd}{β0:a8}{K K':List D->Prop}(h:∀o,K o->K' o)(q:nG γ τ φ ds k β0 K):nG γ τ φ ds k β0 K':=let ⟨I,h0,h1,h2⟩:=q;⟨I,h0,h1,λβ o z=>⟨(h2 β o z).1,h _ (h2 β o z).2⟩⟩
section
variable {X:Cx}{C:Cfg}{lk:List (Option Nat)}{γ:fu}{τ:bc}{φ:aV}{T:List Nat}{pc pe:Bool}
theorem qL {σ:St}{H1:Hp}{β:a8}{own:Nat->List Addr}{a:Addr}{J:It}{ds:List D}{k:Kd}{K:List D->Prop}{End:Hp->Prop}
  (γm:∀d k β R R',(∀r,R r->R' r)->γ d k β R->γ d k β R') (τm:∀β R R',(∀d β,R d β->R' d β)->τ β R->τ β R') (φm:∀β R R',(∀d k β,R d k β->R' d k β)->φ β R->φ β R')
  (inj:∀(i i' j:Nat),lk[i]?=some (some j)->lk[i']?=some (some j)->i=i') (hT:∀i∈T,∀j,lk[i]?≠some (some j))
  (s1:SQ X C σ H1 β own) (ha:H1 a=none) {hp:Bool} (G2:hp=true->(pc&&pe)=true) (hk:hold k hp) (it:Ao X (av C (Wn own) k) J ds H1) (q:nG γ τ φ ds k (eE lk β) K)
  (fin:∀o H',K o->Out X C σ H1 own (pc&&pe) β H' own->KV X.prog X.w C (H1,Wn own) own H' .own (.lst o) (.ref a)->End H') :
  gF J (λv σ H Q=>∃own β d k,SQ X (C.u λc=>c=a) σ H β own/\Rp X (iI (C.u λc=>c=a) (Wn own) k) H d v/\γ d k β λβ'=>∀σ' aS,SQ X (C.u λc=>c=a) σ' H β' aS->(∀a,Wn aS a->Wn own a)->(∀j,j∉T->σ'[j]?=σ[j]?)->Q σ' H)
   (lX X (C.u λc=>c=a) pc τ) (λN σ H=>tQ X (C.u λc=>c=a) pe φ σ H λv H1=>∃xs,H1 a=some (.lst xs)/\xs.length<Yy/\N σ (upd H1 a (.lst (xs++[v]))))
   (λ_ H'=>End H') (fm lk σ) (upd H1 a (.lst [])):=by
 obtain⟨I,i0,i1,i2⟩:=q;have h0:C.H0 a=none:=Y1 λz=>s1.i8 a z ha;have sm:ay H1 (upd H1 a (.lst [])):=ay.new ha;have T5:∀c,Wn (bA lk β own) c->c≠a:=λc z e=>by
  obtain⟨j,hj⟩:=bj c z;exact(s1.dm j c hj).1 (by rw[e];exact ha)
 let S:Nat->St->Hp->Prop:=λi σ' H'=>∃βi jC vs o A,SQ X (C.u λc=>c=a) σ' H' βi jC/\Sn (H1,Wn (bA lk β own)) H' (Wn jC)/\(∀c,Wn jC c->Wn (bA lk β own) c)/\H' a=some (.lst vs)/\aP X.prog X.w H' o vs A/\A.Nodup/\(∀c∈A,H1 c=none/\c≠a) /\
  ((pc&&pe)=true->ay H1 H')/\(∀j,j∉T->σ'[j]?=(fm lk σ)[j]?)/\I i βi o
 have W':Addr->Prop:=λb=>av C (Wn own) k b\/H1 b=none;have KY:=it (λb=>av C (Wn own) k b\/H1 b=none) λb z=>z;have kI:∀{H':Hp} {jC:Nat->List Addr},Sn (H1,Wn (bA lk β own)) H' (Wn jC)->((pc&&pe)=true->ay H1 H')->Kp (λb=>av C (Wn own) k b\/H1 b=none) H1 H':=λn pu=>by
  cases k with
  |own=>exact n.k.mono λb z=>z.imp (λz=>.inl (bj b z)) id
  |gj=>exact n.k.mono λb z=>z.imp (λz=>.inl (bj b z)) id
  |old=>exact n.k.mono λb z=>z.imp (bj b) id
  |bor =>
   cases hp with
   |false=>exact hk.elim
   |true=>exact(pu (G2 rfl)).kp.mono λb z=>.inr z
 refine⟨λi m σ' H'=>i<=ds.length/\m=ds.length-i/\S i σ' H',⟨_,Yz _,rfl,eE lk β,bA lk β own,[],[],[],s1.enter ha inj,⟨λb z=>.inl z,sm.kp,λb z e=>z (sm.free e)⟩,λ_ z=>z,az,⟨rfl,rfl⟩,ZF,λc hc=>(nomatch hc),λ_=>sm,λ_ _=>rfl,i0⟩,?_⟩;rintro i m σ2 H2 ⟨hi,rfl,βi,jC,vs,o,A,sq,sn,le,Su,os,nd,nw,pu,st,hl⟩;obtain⟨eP,si⟩:=KY i H2 (kI sn pu)
 by_cases dt:i<ds.length
 ·right
  have hd:ds[i]?=some ds[i]:=Yj dt;obtain⟨go,yl⟩:=eP _ hd;refine⟨go,λσ' H'=>S (i+1) σ' H',λσ' H' h=>⟨_,by omega,dt,rfl,h⟩,λx H3 y=>?_⟩
  obtain⟨s3,r3⟩:=yl x H3 y;have W8:∀{jC:Nat->List Addr},(∀c,Wn jC c->Wn (bA lk β own) c)->∀c,iI (C.u λc=>c=a) (Wn jC) k c->av C (Wn own) k c\/H1 c=none:=λle c z=>z.elim (λz=>.inl (mx (λc z=>bj c (le c z)) k c z)) λz=>.inr (by rw[z];exact ha)
  refine⟨jC,βi,_,_,sq.same s3,rq (aB.aY (W8 le) r3),γm _ _ _ _ _ (λβ4 q σ4 tZ s4 w4 t4=>?_) (i1 i _ βi o hd hl)⟩;have Q1:∀c,Wn tZ c->Wn (bA lk β own) c:=λc z=>le c (w4 c z);refine⟨β4,tZ,s4,τm _ _ _ (λt β5 q H5 rS o5=>?_) q⟩;have Pl:∀c,Wn rS c->Wn (bA lk β own) c:=λc z=>Q1 c (o5.le c z);have Cr:∀c,c∈a::A->∀oc,H2 c=some oc->H5 c=some oc:=λc hc oc e=>by
   refine o5.sn.k.out c oc (s3 c oc e) λz=>?_;rcases z with z|z
   ·rcases Yi.mp hc with rfl|hc
    ·exact T5 _ (Q1 _ z) rfl
    ·obtain⟨j,hj⟩:=bj c (Q1 c z);exact(s1.dm j c hj).1 (nw c hc).1
   ·exact absurd ((s3 c oc e).symm.trans z) (λz=>(nomatch z))
  have VO:∀b xs,H2 b=some (.tup xs)->H5 b=some (.tup xs):=λb xs e=>o5.sn.k.tup b xs (s3 b _ e);have QQ:aP X.prog X.w H5 o vs A:=os.keep VO λc hc oc e=>Cr c (by simp[hc]) oc e
  have Qs:Sn (H1,Wn (bA lk β own)) H5 (Wn rS):=(jr (sn.same s3) w4).trans o5.sn;have TF:(pc&&pe)=true->ay H1 H5:=λz=>((pu z).trans s3).trans (o5.pu (Gm z)).1;have LH:∀j,j∉T->σ4[j]?=(fm lk σ)[j]?:=λj hj=>(t4 j hj).trans (st j hj);cases t with
  |false=>exact⟨β5,rS,vs,o,A,o5.sq,Qs,Pl,Cr a (by simp) _ Su,QQ,nd,nw,TF,LH,q⟩
  |true =>
   refine⟨β5,rS,o5.sq,φm _ _ _ (λxd kx β6 ⟨f,hz,q⟩ v H6 IM o6 r6=>?_) q⟩;obtain⟨B',r1,r2,QE⟩:=r6.fl f;have Oc:H5 a=some (.lst vs):=Cr a (by simp) _ Su
   have GY:∀c,c∈a::A->∀oc,H5 c=some oc->H6 c=some oc:=λc hc oc e=>by
    refine o6.sn.k.out c oc e λz=>?_;rcases z with z|z
    ·rcases Yi.mp hc with rfl|hc
     ·exact T5 _ (Pl _ z) rfl
     ·obtain⟨j,hj⟩:=bj c (Pl c z);exact(s1.dm j c hj).1 (nw c hc).1
    ·exact absurd (e.symm.trans z) (λz=>(nomatch z))
   have uC:H6 a=some (.lst vs):=GY a (by simp) _ Oc
   have TM:aP X.prog X.w H6 o vs A:=QQ.keep o6.sn.k.tup λc hc oc e=>GY c (by simp[hc]) oc e
   have VA:∀c∈A,c≠a:=λc hc=>(nw c hc).2;have Mi:∀c∈B',c≠a:=λc hc z=>by rw[z]at hc;exact absurd (Oc.symm.trans (QE a hc).1) (λz=>(nomatch z))
   have kt:∀b xs,H6 b=some (.tup xs)->upd H6 a (.lst (vs++[v])) b=some (.tup xs):=λb xs z=>by rw[aw (λz'=>by rw[z',uC]at z;cases z)];exact z
   refine⟨vs,uC,by rw[TM.length];exact hz,β6,IM,vs++[v],o++[xd],A++B',o6.sq.LL uC (λxs z=>by cases z) h0,?_,λc z=>Pl c (o6.le c z),az,?_,?_,λc hc=>?_,λz=>?_,LH,q⟩
   ·have m:=Qs.trans o6.sn;refine⟨m.w,m.k.trans ((nO uC (λxs z=>by cases z)).mono λb z=>.inr (by rw[z];exact ha)),λb z e=>?_⟩
    by_cases hb:b=a
    ·rw[hb,az]at e;cases e
    ·rw[aw hb]at e;exact m.d b z e
   ·exact(TM.keep kt λc hc oc e=>by rw[aw (VA c hc)];exact e).append (aP.one (r1.keep kt λc hc oc e=>by rw[aw (Mi c hc)];exact e))
   ·refine Zq.mpr ⟨nd,r2,λx hx y hy e=>?_⟩;subst e;have:=(QE x hy).1;exact(QQ.oS x hx).1 this
   ·rcases YL.mp hc with hc|hc
    ·exact nw c hc
    ·exact⟨Qs.free (QE c hc).1,Mi c hc⟩
   ·refine λb ob e=>?_;rw[aw (λz'=>by rw[z',ha]at e;cases e)]
    exact(o6.pu (S6 z)).1 b ob (TF z b ob e)
 ·left
  have e:i=ds.length:=by omega
  subst e;obtain⟨hh,q⟩:=i2 βi o hl;have lv:SQ X C σ H2 β own:=s1.leave sq sn le hh λj ok i' e1 e2=>st i' λz=>hT i' z j e2;refine⟨si (Yh _),fin o H2 q ⟨lv,⟨λb z=>.inl z,sn.k.mono λb z=>z.imp (bj b) id,sn.d⟩,λz=>⟨pu z,rfl⟩,λ_ z=>z⟩ ⟨a::A,⟨a,vs,A,rfl,Su,rfl,os⟩,YV.mpr ⟨λz=>(nw a z).2 rfl,nd⟩,λc hc=>?_⟩⟩;have pz:H1 c=none:=by
   rcases Yi.mp hc with rfl|hc
   ·exact ha
   ·exact(nw c hc).1
  exact⟨pz,λMX=>by obtain⟨j,hj⟩:=MX;exact(s1.dm j c hj).1 pz,Y1 λz=>s1.i8 c z pz⟩
theorem h_ {scope:aa7}{N':List Str}(L:Links X scope N' lk)(hN:N'.Nodup):∀(i i' j:Nat),lk[i]?=some (some j)->lk[i']?=some (some j)->i=i':=λi i' j h1 h2=>by
 obtain⟨x,a1,a2,_⟩:=L.link i j h1;obtain⟨y,b1,b2,_⟩:=L.link i' j h2;rw[a2]at b2;cases b2;exact(List.getElem?_inj (Yr.mp a1).1 hN).mp (a1.trans b1.symm)
def xA (lk:List (Option Nat))(ι:eI)(γ:fu)(τ:bc)(φ:aV):aV:=λβ R=>ι β λds k β1=>hold k false/\nG γ τ φ ds k (eE lk β1) λo=>R (.lst o) .own β1
variable {scope:aa7}{N':List Str}{tg eP elt:Expr}{ifs:List Expr}{ι:eI}{pi:Bool}{pos pos' tE:Pos}{y:Str}{i:Nat}
theorem L3 (L:Links X scope N' lk)(DR:N'.Nodup)(hT:T.all (λi=>match lk[i]? with|some (some _)=>false|_=>true)=true)(hc:X.calm=true)(hi:DH X C pi tg eP ι)
  (Ay:∀a cl c s H ex,DI (aO X scope N' cl c s H ex) (C.u λc=>c=a) tg T γ) (Ax:∀a cl c s H ex,vx (aO X scope N' cl c s H ex) ifs (lX (aO X scope N' cl c s H ex) (C.u λc=>c=a) pc τ)) (τm:∀β R R',(∀d β,R d β->R' d β)->τ β R->τ β R')
  (sv:∀a cl c s H ex,PQ (aO X scope N' cl c s H ex) (C.u λc=>c=a) pe elt φ) (γm:∀d k β R R',(∀r,R r->R' r)->γ d k β R->γ d k β R') (φm:∀β R R',(∀d k β,R d k β->R' d k β)->φ β R->φ β R')
  (hs:∀x,Zo eP X.env x=pure x:=by intro _;rfl):PQ X C (pi&&(pc&&pe)) (.ListComp elt [⟨tg,eP,ifs,0⟩] scope pos) (xA lk ι γ τ φ):=by
 have Oe:∀i∈T,∀j,lk[i]?≠some (some j):=λi hi j e=>by
  have:=aai.mp hT i hi;rw[e]at this;cases this
 refine⟨λβ R R' k h=>hi.mono β _ _ (λds kd β1 q=>⟨q.1,q.2.mono λo z=>k _ _ _ z⟩) h,?_⟩;refine(tX (g:=⟨tg,eP,ifs,0⟩) (gs:=[]) (tg:=λa v σ H Q=>∃own β d k,SQ X (C.u λc=>c=a) σ H β own/\Rp X (iI (C.u λc=>c=a) (Wn own) k) H d v/\γ d k β λβ'=>∀σ' aS,SQ X (C.u λc=>c=a) σ' H β' aS->(∀a,Wn aS a->Wn own a)->(∀j,j∉T->σ'[j]?=σ[j]?)->Q σ' H)
  (tt:=λa=>lX X (C.u λc=>c=a) pc τ) (ta:=λa N σ H=>tQ X (C.u λc=>c=a) pe φ σ H λv H1=>∃xs,H1 a=some (.lst xs)/\xs.length<Yy/\N σ (upd H1 a (.lst (xs++[v]))))
  L hc nB rfl rfl (λ_ _=>Hl) hi.pi (λa cl c s H ex=>⟨(Ay a cl c s H ex).pg,Ax a cl c s H ex,nj rfl (sv a cl c s H ex).pe⟩) hs).pre λσ H Q ⟨β,own,s,h⟩=>?_
 refine⟨β,own,s,hi.mono β _ _ (λds k β1 ⟨hk,q⟩ J H1 aG o1 it a ha=>?_) h⟩;exact qL γm τm φm (h_ L DR) Oe o1.sq ha (hp:=false) (λz=>by cases z) hk it q λo H' q o2 r=>q _ _ aG (o1.trans o2) (r.later o1.sn)
theorem L0 {K:D->a8->gv->Prop}(L:Links X scope N' lk)(DR:N'.Nodup)(hT:T.all (λi=>match lk[i]? with|some (some _)=>false|_=>true)=true)(hc:X.calm=true)(hi:∀U,DH X (C.u U) pi tg eP ι)
  (Ay:∀U cl c s H ex,DI (aO X scope N' cl c s H ex) (C.u U) tg T γ) (Ax:∀U cl c s H ex,vx (aO X scope N' cl c s H ex) ifs (lX (aO X scope N' cl c s H ex) (C.u U) pc τ)) (τm:∀β R R',(∀d β,R d β->R' d β)->τ β R->τ β R')
  (sv:∀U cl c s H ex,PQ (aO X scope N' cl c s H ex) (C.u U) pe elt φ) (γm:∀d k β R R',(∀r,R r->R' r)->γ d k β R->γ d k β R') (φm:∀β R R',(∀d k β,R d k β->R' d k β)->φ β R->φ β R') (o:Bool)
  (hN:X.N.Nodup) (hy:X.N[i]?=some y:=by rfl) (hx:Loc X.env.scope y:=by first|exact .inl rfl|exact .inr rfl) (hf:X.fn y=true\/X.env.scope.names.lookup y=some .local:=by first|exact .inl rfl|exact .inr rfl|assumption)
  (yb:aaa (.ListComp elt [⟨tg,eP,ifs,0⟩] scope pos) (some (.Name y pos')) tE.line X.env=pure true:=by rfl)
  (Kf:evalThenUse (.ListComp elt [⟨tg,eP,ifs,0⟩] scope pos) X.env (assign (.Name y pos') X.env)=(do let _ <- comprehension (.ListComp elt [⟨tg,eP,ifs,0⟩] scope pos) scope X.env (firstIterPos [⟨tg,eP,ifs,0⟩] pos) (newList []) false (eval eP X.env) (some (assign (.Name y pos') X.env));pure ()):=by first|rfl|exact arm_evalThenUse_ListComp ..)
  (hs:∀x,Zo eP X.env x=pure x:=by intro _;rfl) :
  PB X C (.Assign [.Name y pos'] (.ListComp elt [⟨tg,eP,ifs,0⟩] scope pos) tE) (λE β=>xA lk ι γ τ φ β λd _ β'=>E.nx (β'.set i (some (match o with|true=>.own d|false=>.val true d)))):=by
 have Oe:∀i∈T,∀j,lk[i]?≠some (some j):=λi hi j e=>by
  have:=aai.mp hT i hi;rw[e]at this;cases this
 refine⟨λE E' β l h=>(hi λ_=>False).mono β _ _ (λds kd β1 q=>⟨q.1,q.2.mono λo z=>l.nx _ z⟩) h,λpins s σ H D I0 ⟨Z,E,β,⟨own,sq,n⟩,h,ok⟩=>?_⟩;refine Bz (g:=⟨tg,eP,ifs,0⟩) (gs:=[]) (tg:=λa v σ H Q=>∃own β d k,SQ X (C.u λc=>c=a) σ H β own/\Rp X (iI (C.u λc=>c=a) (Wn own) k) H d v/\γ d k β λβ'=>∀σ' aS,SQ X (C.u λc=>c=a) σ' H β' aS->(∀a,Wn aS a->Wn own a)->(∀j,j∉T->σ'[j]?=σ[j]?)->Q σ' H)
  (tt:=λa=>lX X (C.u λc=>c=a) pc τ) (ta:=λa N σ H=>tQ X (C.u λc=>c=a) pe φ σ H λv H1=>∃xs,H1 a=some (.lst xs)/\xs.length<Yy/\N σ (upd H1 a (.lst (xs++[v]))))
  L hc nB yb Kf rfl hN hy hx hf (λ_ _=>Hl) (hi λa=>H a=none).pi (λa cl c s H ex=>⟨(Ay _ cl c s H ex).pg,Ax _ cl c s H ex,nj rfl (sv _ cl c s H ex).pe⟩) hs pins s σ H D I0 ?_
 refine⟨β,own,sq.tj (C:=C.z) (U:=λa=>H a=none) λa z=>z,(hi λ_=>False).mono β _ _ (λds k β1 ⟨hk,q⟩ J H1 aG o1 it a ha=>?_) h⟩;refine qL (C:=C.u λa=>H a=none) γm τm φm (h_ L DR) Oe o1.sq ha (hp:=false) (λz=>by cases z) hk it q λol H' q o2 r=>?_
 have r':=r.later o1.sn;have oo:=o1.trans o2;have m:=n.trans oo.sn;cases o with
 |false=>exact ok.nx _ _ _ ⟨_,(cI.Vy oo.sq).iM (aB.aY (λa z=>z.elim id λz=>z.elim) (KV.rep r')),vL m⟩ q
 |true =>
  obtain⟨A,h1,h2,h3⟩:=r';refine ok.nx _ _ _ ⟨_,oo.sq.A_ h1 h2 λc hc=>⟨(h3 c hc).2.2,(h3 c hc).2.1,(h3 c hc).1⟩,?_⟩ q;exact⟨λb wz=>by
   obtain⟨j,hj⟩:=wz
   by_cases aX:i=j
   ·rw[<- aX,os_eq]at hj;exact .inr (n.free (h3 b hj).1)
   ·rw[cj aX]at hj;exact m.w b ⟨j,hj⟩,m.k,m.d⟩
end
end L2.Q
namespace Zp
open PySem PySem.Spec PyProof.Rows
section
end
end Zp
namespace L2
open PySem PySem.Spec PySem.SeqAt PyProof.Rows Zp
theorem Inv.Eh {X:Cx}{pins:List (Addr×Obj)}{σ:St}{H:Hp}{s:Yg}{fp:List Addr}{h':Heap}{x y:V}{u v:Yc}(I:Inv X pins σ H s)(hf:∀b∈fp,gV X pins H b)(k:∀c o,c∉fp->s.heap.get? c=some o->h'.get? c=some o)
  (rx:RelV x u) (ry:RelV y v) (hT:IsPair h' s.heap.objs.size u v):Inv X pins σ (upd H s.heap.objs.size (.tup [x,y])) {s with heap:=h'}:=by
 have hn:H s.heap.objs.size=none:=I.bV.fresh (Yh _);have ne:∀{b:Addr} {o:Obj},s.heap.get? b=some o->b≠s.heap.objs.size:=λe=>YZ (YC e);have nt:∀{b:Addr} {o:HO},H b=some o->b≠s.heap.objs.size:=λe z=>by rw[z,hn]at e;cases e
 have nf:∀{b:Addr} {o:HO},H b=some o->b∉fp:=λe z=>by rw[(hf _ z).1]at e;cases e
 refine I.call (g':=s.gens) (t':=s.toks) (d':=s.drawn) (ch:=fp) ⟨λb o e n _ hc=>k b o hc e,λb o e n _ hc=>⟨o.slots,k b o hc e⟩,λb o e n _=>by rw[aw (ne e)];exact n,λb o e hc=>⟨o,k b o hc e⟩,
  λb xs e=>by rw[aw (nt e)];exact e,λb o u e=>by rw[aw (nt e)];exact e,λb ps e=>⟨#[],by rw[aw (nt e),e];simp⟩⟩ (λb u e=>?_) I.bare λb hb=>?_
 ·by_cases hb:b=s.heap.objs.size
  ·subst hb;rw[az]at e;cases e;exact⟨by show 2<=Yy;decide,[_,_],.cons rx (.cons ry .nil),⟨_,hT,rfl,_,rfl⟩⟩
  ·rw[aw hb]at e;refine(I.bV b u e).tx (λc v hc q=>k c v ?_ q) (λc q=>by rw[aw (nt q)];exact q) λc xs q=>by rw[aw (nt q)];exact q
   rcases hc with z|z
   ·rw[z];exact nf e
   ·exact nf z
 ·obtain⟨f0,f1,f2,f3,f4,f5⟩:=hf b hb;exact⟨f3,f1,f4,f5⟩
theorem Inv.xi {X:Cx}{pins:List (Addr×Obj)}{σ:St}{H:Hp}{s:Yg}{fp:List Addr}{h':Heap}(I:Inv X pins σ H s)(hf:∀b∈fp,gV X pins H b)(k:∀c o,c∉fp->s.heap.get? c=some o->h'.get? c=some o):Inv X pins σ H {s with heap:=h'}:=by
 have nf:∀{b:Addr} {o:HO},H b=some o->b∉fp:=λe z=>by rw[(hf _ z).1]at e;cases e
 refine I.call (g':=s.gens) (t':=s.toks) (d':=s.drawn) (ch:=fp) ⟨λb o e n _ hc=>k b o hc e,λb o e n _ hc=>⟨o.slots,k b o hc e⟩,λb o e n _=>n,λb o e hc=>⟨o,k b o hc e⟩,λb xs e=>e,λb o u e=>e,λb ps e=>⟨#[],by rw[e];simp⟩⟩ (λb u e=>?_) I.bare λb hb=>?_
 ·refine(I.bV b u e).tx (λc v hc q=>k c v ?_ q) (λc q=>q) λc xs q=>q;rcases hc with z|z
  ·rw[z];exact nf e
  ·exact nf z
 ·obtain⟨f0,f1,f2,f3,f4,f5⟩:=hf b hb;exact⟨f3,f1,f4,f5⟩
def my:List D->List D->List D
 |a::as,b::bs=>.tup [a,b]::my as bs
 |_,_=>[]
theorem s9:∀{as bs:List D} {i:Nat} {d:D},(my as bs)[i]?=some d->∃a b,as[i]?=some a/\bs[i]?=some b/\d=.tup [a,b]
 |[],_,_,_,h=>by simp[my]at h
 |_::_,[],_,_,h=>by simp[my]at h
 |a::as,b::bs,0,_,h=>by simp[my]at h;exact⟨a,b,rfl,rfl,h.symm⟩
 |a::as,b::bs,i+1,_,h=>by
  obtain⟨x,y,h1,h2,h3⟩:=s9 (as:=as) (bs:=bs) (i:=i) (by simpa[my] using h)
  exact⟨x,y,by simpa using h1,by simpa using h2,h3⟩
theorem sZ:∀(as bs:List D),(my as bs).length=min as.length bs.length
 |[],_=>by simp[my]
 |_::_,[]=>by simp[my]
 |a::as,b::bs=>by simp[my,sZ as bs]
section
end
section
end
theorem cO {lo:Int}{n i:Nat}{d:D}(h:(o9 lo n)[i]?=some d):i<n/\d=.int (lo+i):=by
 unfold o9 at h;rw[Yu]at h;have hi:i<n:=by
  by_cases hi:i<n
  ·exact hi
  ·rw[Zk (by simpa using hi)]at h;cases h
 rw[Z6 hi]at h;cases h;exact⟨hi,rfl⟩
theorem cN {lo:Int}{n:Nat}:(o9 lo n).length=n:=by unfold o9;simp
section
end
structure Df (K:PySem.W.Frag)(mg:Str->Option Yc)(x:Str)(st:Stmt)(ps:List Str)(f:Addr)(fd:YY):Prop where
 F:DV K x x st f fd
 b:Binds K fd ps []
 m:mg x=some (.ref f)
structure Bs (mg:Str->Option Yc):Prop where
 max:mg "max" = none
 min:mg "min" = none
 int:mg "int" = none
 range:mg "range" = none
 sorted:mg "sorted" = none
 set:mg "set" = none
 len:mg "len" = none
 list:mg "list" = none
theorem KA:ZA "set" = some (.type "set"):=by decide +kernel
theorem cU.jh {k:Nat}{A:Zc}(r:cU k A):A.units+64+1<aan:=by have:=r.un;lia
theorem cU.Ef {k:Nat}{A:Zc}(r:cU k A):A.units+16<aan:=by have:=r.un;lia
def PY (n:Int)(t:List Int):Prop:=∃a b,t=[a,b]/\0<=a/\a<b/\b<n
theorem PY.ne {n:Int}{t:List Int}(h:PY n t):t≠[]:=by
 obtain⟨a,b,rfl,_⟩:=h;intro z;cases z
def iu (n:Int)(ts:List (List Int)):Prop:=∀t∈ts,PY n t
theorem iu.ne {n:Int}{ts:List (List Int)}(h:iu n ts):∀k∈ts,k≠[]:=λk hk=>(h k hk).ne
theorem iu.nil {n:Int}:iu n []:=λ_ z=>(nomatch z)
theorem n_ (ts:List (List Int)):D.cR (ts.map kD)=true:=by
 have fi:∀k:List Int,D.cR (k.map D.int)=true:=λk=>by
  induction k with
  |nil=>rfl
  |cons i k ih=>show (D.flat (.int i)&&D.cR (k.map D.int))=true;rw[ih];rfl
 induction ts with
 |nil=>rfl
 |cons t ts ih =>
  show (D.flat (kD t)&&D.cR (ts.map kD))=true;rw[ih];show (D.cR (t.map D.int)&&true)=true;rw[fi];rfl
def Drawn (n:Int)(ts:List (List Int)):Prop:=ts.length<=300/\iu n ts/\vi ts/\ts.Nodup
theorem gY {a b:D}:[a,b].length<=Yy:=by show 2<=Yy;decide
theorem O8 {a b c:D}:[a,b,c].length<=Yy:=by show 3<=Yy;decide
theorem sQ {a:D}:[a].length<=Yy:=by show 1<=Yy;decide
theorem j4 {b:Bool}{p q:Prop}(hb:b=true)(h:p):(if b=true then p else q):=by rw[if_pos hb];exact h
theorem f9 {b:Bool}{p q:Prop}(hb:b=false)(h:q):(if b=true then p else q):=by rw[hb,if_neg (by simp)];exact h
theorem lR {c:Prop}[Decidable c]{p q:Prop}(h1:c->p)(h2:¬ c->q):(if decide c=true then p else q):=by
 by_cases h:c
 ·exact j4 (by simp[h]) (h1 h)
 ·exact f9 (by simp[h]) (h2 h)
theorem VU {c:Prop}[Decidable c]{p q:Prop}(h1:¬ c->p)(h2:c->q):(if (!decide c)=true then p else q):=by
 by_cases h:c
 ·exact f9 (by simp[h]) (h2 h)
 ·exact j4 (by simp[h]) (h1 h)
theorem fT {α:Type}(f:α->D):∀l:List α,D.hZ (l.map f)=l.map λa=>(f a).pd
 |[]=>rfl
 |a::l=>by
  show (f a).pd::D.hZ (l.map f)=_;rw[fT f l];rfl
theorem lg {n:Nat}:∀{xs:List PyData},(∀x∈xs,x.canLay0=true/\x.depth<=n)->aaq xs=true/\ZH xs<=n
 |[],_=>⟨by simp[aaq],by simp[ZH]⟩
 |x::xs,h=>by
  obtain⟨h1,h2⟩:=lg (n:=n) (xs:=xs) λy hy=>h y (by simp[hy])
  obtain⟨g1,g2⟩:=h x (by simp)
  refine⟨by simp[aaq,h1,g1],?_⟩
  simp only[ZH];lia
theorem yV {n:Nat}{ds:List D}(h:∀d∈ds,d.pd.canLay0=true/\d.pd.depth<=n):(D.tup ds).pd.canLay0=true/\(D.tup ds).pd.depth<=n+1:=by
 have e:D.hZ ds=ds.map λd=>d.pd:=by
  have:=fT (λd:D=>d) ds;simpa using this
 obtain⟨h1,h2⟩:=lg (n:=n) (xs:=D.hZ ds) λx hx=>by
  rw[e]at hx;obtain⟨d,hd,rfl⟩:=YK.mp hx;exact h d hd
 refine⟨by simpa[D.pd,ZQ] using h1,?_⟩
 have:(D.tup ds).pd.depth=ZH (D.hZ ds)+1:=by simp[D.pd,aa5]
 lia
theorem pV {n:Nat}{ds:List D}(h:∀d∈ds,d.pd.canLay0=true/\d.pd.depth<=n):(D.lst ds).pd.canLay0=true/\(D.lst ds).pd.depth<=n+1:=by
 have e:D.hZ ds=ds.map λd=>d.pd:=by
  have:=fT (λd:D=>d) ds;simpa using this
 obtain⟨h1,h2⟩:=lg (n:=n) (xs:=D.hZ ds) λx hx=>by
  rw[e]at hx;obtain⟨d,hd,rfl⟩:=YK.mp hx;exact h d hd
 refine⟨by simpa[D.pd,ZQ] using h1,?_⟩
 have:(D.lst ds).pd.depth=ZH (D.hZ ds)+1:=by simp[D.pd,aa5]
 lia
theorem bN (i:Int):(D.int i).pd.canLay0=true/\(D.int i).pd.depth<=1:=⟨by simp[D.pd,ZQ],by simp[D.pd,aa5]⟩
theorem js (t:List Int):(kD t).pd.canLay0=true/\(kD t).pd.depth<=2:=yV λd hd=>by
 obtain⟨i,_,rfl⟩:=YK.mp hd;exact bN i
theorem vN (ts:List (List Int)):(D.lst (ts.map kD)).pd.canLay0=true/\(D.lst (ts.map kD)).pd.depth<=3:=pV λd hd=>by
 obtain⟨i,_,rfl⟩:=YK.mp hd;exact js i
theorem cL {d:D}{n:Nat}(h:d.pd.canLay0=true/\d.pd.depth<=n)(hn:n<=64:=by decide):d.tH=true:=by
 show (d.pd.canLay0&&decide (d.pd.depth<=64))=true;rw[h.1,decide_eq_true (by lia)]
 rfl
theorem i3 {α:Type}[DecidableEq α]{f:α->PyData}(hf:∀a b,Zy (f a) (f b)=decide (a=b)):∀xs ys:List α,abE (xs.map f) (ys.map f)=decide (xs=ys)
 |[],[]=>by simp[abE]
 |[],_::_=>by simp[abE]
 |_::_,[]=>by simp[abE]
 |x::xs,y::ys=>by
  simp only[YA,abE];rw[hf,i3 hf xs ys]
  by_cases h1:x=y
  ·by_cases h2:xs=ys <;> simp[h1,h2]
  ·simp[h1]
theorem mh (i j:Int):Zy (D.int i).pd (D.int j).pd=decide (i=j):=by
 simp only[D.pd,Zy]
 by_cases h:i=j <;> simp[h]
theorem Dc (t u:List Int):Zy (kD t).pd (kD u).pd=decide (t=u):=by
 show Zy (.tuple (D.hZ (t.map D.int))) (.tuple (D.hZ (u.map D.int)))=_;rw[fT,fT];simp only[Zy];exact i3 mh t u
theorem Ds {a b:D}{c:Bool}(h1:a.tH=true)(h2:b.tH=true)(e:Zy a.pd b.pd=c):OC a b=some (.bl c):=by
 unfold OC;rw[if_pos ⟨h1,h2⟩,e]
theorem wQ {a b:D}{c:Bool}(h1:a.tH=true)(h2:b.tH=true)(e:Zy a.pd b.pd=c):Lh a b=some (.bl (!c)):=by
 unfold Lh;rw[if_pos ⟨h1,h2⟩,e]
theorem cT (i j:Int):OC (.int i) (.int j)=some (.bl (decide (i=j))):=Ds (cL (bN i)) (cL (bN j)) (mh i j)
theorem F1 (i j:Int):Lh (.int i) (.int j)=some (.bl (!decide (i=j))):=wQ (cL (bN i)) (cL (bN j)) (mh i j)
theorem any_map {α:Type}[DecidableEq α]{f:α->D}(hf:∀a b,Zy (f a).pd (f b).pd=decide (a=b))(t:α):∀xs:List α,((D.hZ (xs.map f)).any λy=>Zy y (f t).pd)=decide (t∈xs)
 |[]=>rfl
 |x::xs=>by
  show (Zy (f x).pd (f t).pd || (D.hZ (xs.map f)).any λy=>Zy y (f t).pd)=_
  rw[any_map hf t xs,hf]
  by_cases h:x=t
  ·simp[h]
  ·have h':¬ t=x:=λz=>h z.symm;simp[h,h']
theorem Dr (t:List Int)(ts:List (List Int)):F9 (kD t) (.lst (ts.map kD))=some (decide (t∈ts)):=by
 show (if (kD t).tH=true/\(D.lst (ts.map kD)).tH=true then some _ else none)=_
 rw[if_pos ⟨cL (js t),cL (vN ts)⟩,any_map Dc];exact congrArg some (decide_eq_decide.mpr Iff.rfl)
theorem F8 (i:Int)(t:List Int):F9 (.int i) (kD t)=some (decide (i∈t)):=by
 show (if (D.int i).tH=true/\(D.tup (t.map D.int)).tH=true then some _ else none)=_
 rw[if_pos ⟨cL (bN i),cL (js t)⟩,any_map mh]
theorem wN (t:List Int)(ts:List (List Int)):wO (kD t) (.lst (ts.map kD))=some (.bl (!decide (t∈ts))):=by unfold wO;rw[Dr];rfl
theorem sI (i:Int)(t:List Int):S5 (.int i) (kD t)=some (.bl (decide (i∈t))):=by unfold S5;rw[F8];rfl
theorem UJ {α:Type}{ds:List α}{i:Nat}{d:α}(h:ds[i]?=some d):pJ ds (i:Int)=some d:=by
 have hl:i<ds.length:=(Yr.mp h).1;unfold pJ zN;rw[if_pos (by lia),if_pos (by lia),ZE]
 exact h
theorem KG {α:Type}{ds:List α}{i:Int}(h0:0<=i)(h1:i<ds.length):∃d∈ds,pJ ds i=some d/\ds[i.toNat]?=some d:=by
 have hl:i.toNat<ds.length:=by lia
 refine⟨ds[i.toNat],ZZ hl,?_,Yj hl⟩;have:=UJ (ds:=ds) (i:=i.toNat) (Yj hl)
 rwa [show ((i.toNat:Nat):Int)=i by lia]at this
theorem yz {ds:List D}{i:Nat}{d:D}(h:ds[i]?=some d):uY (.lst ds) (.int (i:Int))=some d:=UJ h
theorem pick {ds:List D}{r:Int}{p:D->Prop}(h0:0<=r)(h1:r<ds.length)(h:∀d∈ds,p d):∃d,uY (.lst ds) (.int r)=some d/\p d:=by
 obtain⟨d,hd,e,_⟩:=KG h0 h1;exact⟨d,e,h d hd⟩
theorem uW {i j:Int}:uX [.int i,.int j]=some (.int (if j<i then j else i)):=by
 first|rfl|(simp[uX])
theorem Gh:ZA "enumerate" = some (.type "enumerate"):=by decide +kernel
def UQ (l:Addr):It :=
 ⟨λi H=>∃xs x,H l=some (.lst xs)/\xs[i]?=some x,
  λi H x H'=>∃T,H T=none/\x=.ref T/\∀xs,H l=some (.lst xs)->∃a,xs[i]?=some a/\H'=upd H T (.tup [.int i,a]),
  λi H=>∃xs,H l=some (.lst xs)/\xs[i]?=none⟩
theorem yO {P:Yk}{w:YB}{K:PySem.W.Frag}{elts:List Expr}{kk:Nat}{pos:Pos}{e it l:Addr}(ne:e≠it):
  Turn P w K (.Tuple elts kk pos) (UQ l) [e,it] e (λk h=>(∃old,IsEnum h e it (k:Int) old)/\h.IsListIter it l k) where
 mem:=by simp
 obj:=λk h NT c hc=> by
  obtain⟨⟨old,h1⟩,h2⟩ := NT;simp only[Yi,ZY,or_false]at hc;rcases hc with rfl|rfl
  ·exact⟨_,h1,λv z=>by cases (show Data.fields _=Data.cell v from z)⟩
  ·obtain⟨o,a,_,d⟩:=h2;exact⟨o,a,λv z=>by rw[d]at z;cases z⟩
 keep:=λk h h' ⟨⟨old,h1⟩,h2⟩ kp=>⟨⟨old,kp e (by simp) _ h1⟩,h2.at λo q=>kp it (by simp) o q⟩
 item:=by
  intro X hP hw hK hc i pins s σ H E I hf st hg;obtain⟨⟨old,g1⟩,g2⟩:=st;obtain⟨xs,x,hx,ex⟩:=hg;obtain⟨its,r',pl,_⟩:=I.list (dh.of hx);obtain⟨u,eu,ru⟩:=r'.get ex;refine wpAny_pyNext_enum_item g1 g2 pl.isList (by simpa using eu) ne λh' y1 y2 y3 y4 y5=>?_
  have I1:=(I.Eh (fp:=[e,it]) (x:=.int i) (u:=.int i s.toks) hf (λc o FJ q=>y5 c o (λz=>FJ (by simp[z])) (λz=>FJ (by simp[z])) q) ⟨_,rfl⟩ ru y3).tok (s.toks+1)
  have nT:∀b∈[e,it],upd H s.heap.objs.size (.tup [.int i,x]) b=none:=λb hb=>by
   have:b≠s.heap.objs.size:=by
    simp only[Yi,ZY,or_false]at hb;rcases hb with rfl|rfl
    ·exact YZ (YC g1)
    ·obtain⟨o,a,_⟩:=g2;exact YZ (YC a)
   rw[aw this];exact(hf b hb).1
  refine⟨_,rfl,wpAny_letOwnedTupleGo_enum y1 λh'' z' sb=>?_⟩;have I2:Inv X pins σ (upd H s.heap.objs.size (.tup [.int i,x])) {s with heap:=h'',toks:=s.toks+1}:=by
   refine I1.xi (fp:=[e]) (λb hb=>?_) λc o FJ q=>sb.extBut _ _ (by simpa using FJ) q
   have q:b=e:=by simpa using hb
   subst q;exact⟨nT b (by simp),(hf b (by simp)).2⟩
  refine⟨.ref s.heap.objs.size,_,I2,rfl,⟨s.heap.objs.size,I.bV.fresh (Yh _),rfl,λLp CF=>?_⟩,⟨⟨_,z'⟩,y2.at λo q=>sb.extBut _ _ (aaF ne) q⟩,nT⟩;rw[hx]at CF;cases CF;exact⟨x,ex,rfl⟩
 done:=by
  intro X hP hw hK hc i pins s σ H E I hf st hg;obtain⟨⟨old,g1⟩,g2⟩:=st;obtain⟨xs,hx,ex⟩:=hg;obtain⟨its,r',pl,_⟩:=I.list (dh.of hx);refine wpAny_pyNext_enum_end (I.ok.hd hc) g1 g2 pl.isList (by simpa using r'.none_of ex) λh' y=>?_
  exact⟨rfl,I.xi (fp:=[e,it]) hf λc o FJ q=>y c o (λz=>FJ (by simp[z])) q⟩
 self:=λA i s Q E ⟨⟨old,h1⟩,_⟩ q=>wpAny_pyIter_enum h1 q
def qG (ds:List D):List D:=my (o9 0 ds.length) ds
section
variable {X:Cx}{W:Addr->Prop}{H:Hp}{l:Addr}{xs:List V}{ds:List D}
theorem k7 {i:Nat}{d:D}(h:(qG ds)[i]?=some d):∃b,ds[i]?=some b/\d=.tup [.int i,b]:=by
 obtain⟨a,b,h1,h2,rfl⟩:=s9 h;obtain⟨_,rfl⟩:=cO h1;exact⟨b,h2,by simp⟩
theorem k6:(qG ds).length=ds.length:=by unfold qG;rw[sZ,cN];simp
theorem Cy (h1:H l=some (.lst xs))(n1:¬ W l)(r1:lM X W H ds xs):Ao X W (UQ l) (qG ds) H:=λW' hW i H' k=>by
 have st:H' l=some (.lst xs):=k.out l _ h1 λz=>(hW l z).elim n1 λq=>by rw[h1]at q;cases q
 have q1:=(aj.grow hW r1).keep k;constructor
 ·intro d hd;obtain⟨b,hb,rfl⟩:=k7 hd;obtain⟨x,ex,rx⟩:=aj.get q1 hb;refine⟨⟨xs,x,st,ex⟩,λv H1 ⟨T,hT,e,yl⟩=>?_⟩;obtain⟨x',UC,eH⟩:=yl xs st;rw[ex]at UC;cases UC;subst e eH;exact⟨ay.new hT,Rp.HP hT (.cons rfl (.cons rx .nil))⟩
 ·intro hl;rw[k6]at hl;exact⟨xs,st,Zk (by rw[q1.length];exact hl)⟩
variable {φs:vj}{elts:List Expr}{kk:Nat}{Qc:Pos}
def ML (φs:vj):KJ:=λρ R=>φs ρ λl=>∃as,l=[.lst as]/\R (qG as)
theorem tP {a:Expr} {p pos:Pos} (hm:X.mg "enumerate" = none) (ha:OS X [a] φs) (hg:Gl X "enumerate" := by rfl) (hs:YG [a] X.env=[(false,eval a X.env)]:=by rfl) :
  UM X (.Tuple elts kk Qc) (.Call (.Name "enumerate" p) [a] [] pos) (ML φs):=by
 refine⟨λρ R R' k q=>ha.mono ρ _ _ (λl NS=> by obtain⟨as,e,q⟩ := NS;exact⟨as,e,k _ q⟩) q,λpins s σ H R I ⟨W,ρ,se,q⟩=>?_⟩
 refine Call_ (kP I hg hm Gh (Z7 (bF (ha.pa pos pins s σ H _ I (LC.of ha se q λds vs H1 h s1 r1=>(⟨ds,h,s1,r1⟩:∃ds,(∃as,ds=[.lst as]/\∀J H',ay H H'->Ao X W J (qG as) H'->R J H')/\ay H H1/\lM X W H1 ds vs)))
  λus s1 ⟨vs,H1,I1,rv,h⟩=>?_) hs rfl))
 obtain⟨ds,⟨as,e,q⟩,sm,r1⟩:=h;subst e;obtain⟨x,rfl,⟨l1,xs,rfl,g1,n1,w1⟩⟩:=qT r1;obtain⟨v1,rfl,e1⟩:=vals1 rv;cases (show v1=Value.ref l1 from e1)
 obtain⟨its,_,p1,_⟩:=I1.list (dh.of g1);refine call_enumerate_list p1.isList λh' y1 y2 y3 y4=>wpAny_pyIter_enum y1 ?_;have I2:Inv X pins σ H1 {s1 with heap:=h'}:=I1.kept (t':=s1.toks) y4
 refine⟨_,_,_,_,H1,rfl,I2,yO (Nat.succ_ne_self _),⟨⟨_,y1⟩,y2⟩,λb hb=>?_,q _ _ sm (Cy g1 n1 w1)⟩;have ij:s1.heap.objs.size<=b:=by
  simp only[Yi,ZY,or_false]at hb;rcases hb with rfl|rfl <;> first|exact Nat.le_add_right _ _|exact Yh _
 exact I1.C1 ij (I1.bV.fresh ij)
end
end L2
namespace L2.Q
open PySem PySem.Spec PySem.SeqAt PyProof.Rows
def HL (β:a8):DF:=β.map λb=>match b with|some (.val _ d)=>some d|_=>none
section
variable {P:Yk}{w:YB}{C:Cfg}{σ:St}{H:Hp}{β:a8}{own:Nat->List Addr}{i:Nat}
theorem cI.Qu (s:cI P w C σ H β own):OQ P w (av C (Wn own) .old) σ H (HL β):=⟨s.Di .old,λi d e=>by
 unfold HL at e;rw[Yu]at e;cases q:β[i]? with
 |none=>rw[q]at e;cases e
 |some x =>
  rw[q]at e;cases x with
  |none=>cases e
  |some x =>
   cases x with
   |val y d'=>cases e;obtain⟨v,h1,h2⟩:=s.val i y d q;exact⟨v,h1,h2.aY λa z=>by cases y <;> first|exact .inl z|exact .inl (.inl z)⟩
   |own d'=>cases e
   |hand ok=>cases e
   |shl y d=>cases e⟩
end
section
variable {X:Cx}{C:Cfg}{tg it:Expr}{ι:KJ}
theorem xD (h:UM X tg it ι):DH X C true tg it (λβ R=>ι (HL β) λds=>R ds .old β) :=
 ⟨λβ R R' k q=>h.mono _ _ _ (λd q=>k _ _ _ q) q,h.pi.pre λσ H R Fw=>by obtain⟨β,own,s,q⟩:=Fw;exact⟨_,_,s.Qu,h.mono _ _ _ (λds q J H' s1 it=>q J H' own ((Out.refl s true).same s1) it) q⟩⟩
end
section
variable {P:Yk}{w:YB}{C:Cfg}{σ:St}{H:Hp}{β:a8}{own:Nat->List Addr}{i:Nat}{ok:List Int->Prop}{ns:List Int}
theorem qg:∀{ns:List Int} {vs:List V} {A:List Addr},aP P w H (ns.map D.int) vs A->vs=ns.map V.int/\A=[]
 |[],_,_,h=>h
 |n::ns,_,_,⟨v,r,A1,A2,e,eA,h1,h2⟩=>by
  obtain⟨rfl,rfl⟩:=qg h2;obtain⟨rfl,rfl⟩:=h1;exact⟨e,by rw[eA];rfl⟩
theorem cI.toHand (s:cI P w C σ H β own)(e:β[i]?=some (some (.own (.lst (ns.map D.int)))))(ho:ok ns)(io:∀b,¬ C.IO b):cI P w C σ H (β.set i (some (.hand ok))) own:=by
 obtain⟨v,h1,⟨a,vs,A',rfl,h2,h3,h4⟩,h5⟩:=s.ow i _ e;obtain⟨rfl,rfl⟩:=qg h4;refine⟨by simp[s.len],λj y d q=>?_,λj d q=>?_,λj Au q=>?_,s.dm,s.ml,s.rZ,s.kp,s.i8,λj y d q=>by
  by_cases aX:i=j
  ·subst aX;obtain⟨e',_⟩:=b8 q;cases e'
  ·rw[bS aX]at q;exact s.shl j y d q⟩
 ·by_cases aX:i=j
  ·subst aX;obtain⟨e',_⟩:=b8 q;cases e'
  ·rw[bS aX]at q;exact s.val j y d q
 ·by_cases aX:i=j
  ·subst aX;obtain⟨e',_⟩:=b8 q;cases e'
  ·rw[bS aX]at q;exact s.ow j d q
 ·by_cases aX:i=j
  ·subst aX;obtain⟨e',_⟩:=b8 q;cases e';exact⟨a,ns,h1,h2,ho,h3,.inl io⟩
  ·rw[bS aX]at q;exact s.vt j Au q
end
section
variable {X:Cx}{C:Cfg}{e:Expr}{φ:aV}{p:Bool}{i:Nat}{x:Str}{pos pos' px ap cp:Pos}{ok:List Int->Prop}
theorem EJ (ok:List Int->Prop)(Sa:∀b,¬ C.IO b)(he:∀U,PQ X (C.u U) p e φ)(hN:X.N.Nodup)(hi:X.N[i]?=some x:=by rfl)(hx:Loc X.env.scope x:=by first|exact .inl rfl|exact .inr rfl)
  (hs:aaa e (some (.Name x pos')) pos.line X.env=pure false:=by rfl) (hf:X.fn x=true\/X.env.scope.names.lookup x=some .local:=by first|exact .inl rfl|exact .inr rfl|assumption) :
  PB X C (.Assign [.Name x pos'] e pos) (λE β=>φ β λd k β'=>DP k d/\i<β'.length/\∃ns:List Int,d=.lst (ns.map D.int)/\ok ns/\E.nx (β'.set i (some (.hand ok)))):=by
 have B:=jB (C:=C) (i:=i) (pos:=pos) (pos':=pos') he hN hi hx hs hf;refine⟨λE E' β l q=>(he λ_=>False).mono _ _ _ (λd k β' MY=>by obtain⟨f,h,ns,e,o,q⟩:=MY;exact⟨f,h,ns,e,o,l.nx _ q⟩) q,B.ps.pre λDe σ H ⟨Z,E,β,sb,q,Au⟩=>?_⟩
 refine⟨Z,{E with nx:=λβ'=>∃(ns:List Int) (β2:a8),i<β2.length/\β'=β2.set i (some (.own (.lst (ns.map D.int))))/\ok ns/\E.nx (β2.set i (some (.hand ok)))},β,sb,(he λ_=>False).mono _ _ _ (λd k β' JN=>by obtain⟨f,h,ns,e,o,q⟩:=JN;exact⟨f,ns,β',h,by rw[e],o,q⟩) q,⟨λσ' H' β' vP ⟨ns,β2,hl,e,o,q⟩=>?_,Au.rt,Au.bk,Au.ct⟩⟩
 subst e;obtain⟨own,s,n⟩:=vP;have:=s.toHand (i:=i) (ok:=ok) (get_set hl) o Sa;rw[List.set_set]at this;exact Au.nx _ _ _ ⟨own,this,n⟩ q
theorem cI.putL {P:Yk}{w:YB}{σ:St}{H:Hp}{β:a8}{own:Nat->List Addr}{U U2:Addr->Prop}{ds ds':List D}{vs':List V}{a:Addr}{vs:List V}{A A':List Addr}(s:cI P w (C.u U) σ H β own)(e:β[i]?=some (some (.own (.lst ds))))(h1:σ[i]?=some (some (.ref a)))(h2:H a=some (.lst vs))(h3:own i=a::A)
  (r:aP P w H ds' vs' A') (nd:A'.Nodup) (hA:∀c∈A',c∈A\/(C.H0 c=none/\¬ Wn own c/\U c)) (hU:∀a,U2 a->U a) (SA:∀c∈A',c∉A->¬ U2 c) :
  cI P w (C.u U2) σ (upd H a (.lst vs')) (β.set i (some (.own (.lst ds')))) (a_ own i (a::A'))/\∀c∈a::A',c∈own i\/(C.H0 c=none/\¬ Wn own c/\U c):=by
 have ha:a∈own i:=by rw[h3];simp
 have nA:a∉A:=by have:=s.rZ i;rw[h3]at this;exact(YV.mp this).1
 have na:∀c∈A',c≠a:=λc hc z=>by
  subst z;rcases hA c hc with z|z
  ·exact nA z
  ·exact z.2.1 ⟨i,ha⟩
 have kt:∀b xs,H b=some (.tup xs)->upd H a (.lst vs') b=some (.tup xs):=λb xs z=>by rw[aw (λz'=>by rw[z',h2]at z;cases z)];exact z
 have Uy:∀c∈a::A',c∈own i\/(C.H0 c=none/\¬ Wn own c/\U c):=λc hc=>by
  rcases Yi.mp hc with rfl|hc
  ·exact .inl ha
  ·exact(hA c hc).imp (λz=>by rw[h3];simp[z]) id
 refine⟨s.Ez e h1 ha ⟨a,vs',A',rfl,az,rfl,r.keep kt λc hc oc ec=>by rw[aw (na c hc)];exact ec⟩ (YV.mpr ⟨λz=>na a z rfl,nd⟩) Uy hU (λc hc z=>?_),Uy⟩
 rcases Yi.mp hc with rfl|hc
 ·exact(s.dm i c ha).2.2.2 (hU c z)
 ·by_cases q:c∈A
  ·exact(s.dm i c (by rw[h3];simp[q])).2.2.2 (hU c z)
  ·exact SA c hc q z
theorem BL {own:Nat->List Addr}{i:Nat}{A':List Addr}(h:∀c∈A',c∈own i):∀c,Wn (a_ own i A') c->Wn own c:=λc Fv=>by
 obtain⟨j,hj⟩:=Fv
 by_cases aX:i=j
 ·rw[<- aX,os_eq]at hj;exact⟨i,h c hj⟩
 ·rw[cj aX]at hj;exact⟨j,hj⟩
theorem ID {P:Yk}{w:YB}{H:Hp}{own:Nat->List Addr}{Z:Hp×(Addr->Prop)}{d:D}{v:V}{A:List Addr}(r:Own P w H d v A)(h:∀c∈A,¬ Wn own c/\C.H0 c=none):KV P w C Z own H (sk .gj d) d v:=by
 have q:aB P w (av C (Wn own) .gj) H d v:=r.rep λc hc z=>z.elim (h c hc).1 λz=>z (h c hc).2;cases d with
 |int i=>exact KV.flat rfl q
 |bl i=>exact KV.flat rfl q
 |cX=>exact KV.flat rfl q
 |str i=>exact KV.flat rfl q
 |_=>exact q
theorem aP.concat {P:Yk}{w:YB}{H:Hp}{ds:List D}{d:D}{vs:List V}{A:List Addr}(h:aP P w H (ds++[d]) vs A):∃us v A1 A2,vs=us++[v]/\A=A1++A2/\aP P w H ds us A1/\Own P w H d v A2:=by
 obtain⟨v,A1,A2,A3,g1,g2,g3,g4,g5⟩:=h.split (i:=ds.length) (d:=d) (by simp)
 rw[List.take_left]at g3;have e3:aP P w H [] (vs.drop (ds.length+1)) A3:=by simpa using g5
 have hl:=h.length;rw[YR,aap]at hl;refine⟨vs.take ds.length,v,A1,A2,?_,by rw[g2,e3.2,ZW],g3,g4⟩
 have dt:ds.length<vs.length:=by lia
 have e1:vs=vs.take ds.length++vs.drop ds.length:=(Zm _ _).symm;rw[Y5 dt,e3.1]at e1;have:vs[ds.length]=v:=by
  have:=Yj dt;rw[g1]at this;exact(YU this).symm
 rw[this]at e1;exact e1
theorem IC (hN:X.N[i]?=some x:=by rfl)(hv:yI X.env.scope x:=by first|exact .inl rfl|exact .inr (.inl rfl)|exact .inr (.inr rfl))(hd:(x==("__debug__" : Str))=false:=by decide)(i7:(x==("__classdict__" : Str))=false:=by decide)
  (jO:abD (.Name x px) "pop" X.env (eval (.Name x px) X.env)=eval (.Name x px) X.env:=by rfl) (jN:(ap.endLine==cp.line)=true:=by rfl) :
  PQ X C false (.Call (.Attribute (.Name x px) "pop" ap) [] [] cp) (λβ R=>∃ds d,β[i]?=some (some (.own (.lst (ds++[d]))))/\R d (sk .gj d) (β.set i (some (.own (.lst ds))))) :=
 ⟨λβ R R' k Fu=>by obtain⟨ds,d,h1,q⟩:=Fu;exact⟨ds,d,h1,k _ _ _ q⟩,(IK (apos:=ap) (cpos:=cp) PySem.F.plainAttrs_list PySem.F.slot_list_pop PySem.F.type_list_pop Jk (fg (pos:=px) hN hv hd i7) jO jN).pre λσ H Q wz=>by
  obtain⟨β,own,s,ds,d,hb,q⟩:=wz;obtain⟨a,vs,A,h1,h2,h3,h4⟩:=s.Cb hb;obtain⟨us,v,A1,A2,rfl,rfl,g3,g4⟩:=h4.concat;have nd:=s.rZ i;rw[h3]at nd;obtain⟨Fd,Jh,Mj⟩:=Zq.mp (YV.mp nd).2;obtain⟨s2,hA⟩:=s.putL (C:=C) (U:=C.U) (U2:=C.U) (ds':=ds) (vs':=us) (A':=A1) hb h1 h2 h3 g3 Fd (λc hc=>.inl (by simp[hc])) (λ_ z=>z) (λc hc n=>absurd (by simp[hc]) n)
  have h0:∀c∈own i,C.H0 c=none:=by obtain⟨_,_,_,h⟩:=s.ow i _ hb;exact h
  have kt:∀b xs,H b=some (.tup xs)->upd H a (.lst us) b=some (.tup xs):=λb xs z=>by rw[aw (λz'=>by rw[z',h2]at z;cases z)];exact z
  have na:∀c∈A2,c≠a:=λc hc z=>(YV.mp nd).1 (by rw[<- z];simp[hc])
  have le:∀c,Wn (a_ own i (a::A1)) c->Wn own c:=BL λc hc=>by rw[h3];rcases Yi.mp hc with rfl|hc <;> simp[*]
  refine⟨.ref a,h1,.inl ⟨rfl,_,dh.of h2⟩,a,_,v,rfl,rfl,h2,by simp,?_⟩
  rw[List.dropLast_concat];refine q v _ _ ⟨s2,?_,λz=>(nomatch z),le⟩ (ID (C:=C) (g4.keep kt λc hc oc ec=>by rw[aw (na c hc)];exact ec) λc hc=>⟨λ⟨j,hj⟩=>?_,h0 c (by rw[h3];simp[hc])⟩)
  ·have u:=Sn.upd (Z:=(H,Wn own)) (o':=.lst us) (Sn.refl (H:=H) (W:=Wn own)) h2 (λxs z=>by cases z) ⟨i,by rw[h3];simp⟩
   exact⟨λb z=>.inl (le b z),u.k,u.d⟩
  ·by_cases aX:i=j
   ·rw[<- aX,os_eq]at hj;rcases Yi.mp hj with rfl|hj
    ·exact na _ hc rfl
    ·exact Mj _ hj _ hc rfl
   ·rw[cj aX]at hj;exact aX (s.ml i j c (by rw[h3];simp[hc]) hj)⟩
end
abbrev Mu (l:Bool)(ds:List D):D:=match l with|true=>.lst ds|false=>.tup ds
section
variable {P:Yk}{w:YB}{H:Hp}{A:List Addr}{v:V}{ds:List D}{l:Bool}
theorem tY {m:Nat}{es:List D}(r:Own P w H (Mu l ds) v A)(nd:A.Nodup)(hm:ds[m]?=some (.lst es)):∃a vs c us B,v=.ref a/\H a=some (match l with|true=>.lst vs|false=>.tup vs)/\vs.length=ds.length/\vs[m]?=some (.ref c)/\H c=some (.lst us)/\c∈A/\aP P w H es us B/\(∀x∈B,x∈A/\x≠c)/\B.Nodup /\
  ∀ir xg B',aP P w H ir xg B'->B'.Nodup->(∀x∈B',x∈B\/x∉A)->(∀x∈B',x≠c)->∃A',Own P w (upd H c (.lst xg)) (Mu l (ds.set m (.lst ir))) v A'/\A'.Nodup/\∀x∈A',x∈A\/x∈B':=by
 have core:∀{vs:List V} {A:List Addr},A.Nodup->aP P w H ds vs A->∃c us B,vs[m]?=some (.ref c)/\H c=some (.lst us)/\c∈A/\aP P w H es us B/\(∀x∈B,x∈A/\x≠c)/\B.Nodup /\
   ∀ir xg B',aP P w H ir xg B'->B'.Nodup->(∀x∈B',x∈B\/x∉A)->(∀x∈B',x≠c)->∃A',aP P w (upd H c (.lst xg)) (ds.set m (.lst ir)) vs A'/\A'.Nodup/\(∀x∈A',x∈A\/x∈B'):=λ{vs A} nd os=>by
  have hl:=os.length;have Wk:m<ds.length:=(Yr.mp hm).1;obtain⟨u,A1,A2,A3,g1,rfl,g3,⟨c,us,B,rfl,h2,rfl,h4⟩,g5⟩:=os.split hm;obtain⟨Fd,Jh,Mj⟩:=Zq.mp nd;obtain⟨T3,VC,T1⟩:=Zq.mp Jh;have VE:=(YV.mp T3).1;refine⟨c,us,B,g1,h2,by simp,h4,λx hx=>⟨by simp[hx],λz=>VE (by rw[<- z];exact hx)⟩,(YV.mp T3).2,λir xg B' o' n' ij oP=>?_⟩
  have kt:∀b xs,H b=some (.tup xs)->upd H c (.lst xg) b=some (.tup xs):=λb xs z=>by rw[aw (λz'=>by rw[z',h2]at z;cases z)];exact z
  have n1:∀x∈A1,x≠c:=λx hx z=>Mj x hx c (by simp) z
  have n3:∀x∈A3,x≠c:=λx hx z=>T1 c (by simp) x hx z.symm
  have off:∀x∈B',x∉A1/\x∉A3:=λx hx=>by
   rcases ij x hx with z|z
   ·exact⟨λq=>Mj x q x (by simp[z]) rfl,λq=>T1 x (by simp[z]) x q rfl⟩
   ·exact⟨λq=>z (by simp[q]),λq=>z (by simp[q])⟩
  have Uj:m<vs.length:=by lia
  have ev:vs=vs.take m++V.ref c::vs.drop (m+1):=by
   have e1:vs=vs.take m++vs.drop m:=(Zm _ _).symm;rw[Y5 Uj]at e1;have:vs[m]=V.ref c:=by
    have:=Yj Uj;rw[g1]at this;exact(YU this).symm
   rwa [this]at e1
  refine⟨A1++((c::B')++A3),?_,Zq.mpr ⟨Fd,Zq.mpr ⟨YV.mpr ⟨λz=>oP c z rfl,n'⟩,VC,λx hx y hy=>?_⟩,λx hx y hy z=>?_⟩,λx hx=>?_⟩
  ·rw[List.set_eq_take_append_cons_drop,if_pos Wk];have q:aP P w (upd H c (.lst xg)) (ds.take m++.lst ir::ds.drop (m+1)) (vs.take m++.ref c::vs.drop (m+1)) (A1++((c::B')++A3)) :=
    (g3.keep kt λx hx oc ec=>by rw[aw (n1 x hx)];exact ec).append ⟨.ref c,_,c::B',A3,rfl,rfl,⟨c,xg,B',rfl,az,rfl,o'.keep kt λx hx oc ec=>by rw[aw (oP x hx)];exact ec⟩,g5.keep kt λx hx oc ec=>by rw[aw (n3 x hx)];exact ec⟩
   rw[<- ev]at q;exact q
  ·intro z;subst z;rcases Yi.mp hx with rfl|hx
   ·exact n3 _ hy rfl
   ·exact(off x hx).2 hy
  ·subst z;rcases YL.mp hy with hy|hy
   ·rcases Yi.mp hy with rfl|hy
    ·exact n1 _ hx rfl
    ·exact(off x hy).1 hx
   ·exact Mj x hx x (by simp[hy]) rfl
  ·rcases YL.mp hx with hx|hx
   ·exact .inl (by simp[hx])
   ·rcases YL.mp hx with hx|hx
    ·rcases Yi.mp hx with rfl|hx
     ·exact .inl (by simp)
     ·exact .inr hx
    ·exact .inl (by simp[hx])
 cases l with
 |true =>
  obtain⟨a,vs,A',rfl,h2,rfl,h4⟩:=r;obtain⟨na,Mk⟩:=YV.mp nd;obtain⟨c,us,B,q1,q2,q3,q4,q5,q6,q7⟩:=core Mk h4;have ca:c≠a:=λz=>na (by rw[<- z];exact q3)
  refine⟨a,vs,c,us,B,rfl,h2,h4.length,q1,q2,by simp[q3],q4,λx hx=>⟨by simp[(q5 x hx).1],(q5 x hx).2⟩,q6,λir xg B' o' n' ij oP=>?_⟩
  obtain⟨A2,g1,g2,g3⟩:=q7 ir xg B' o' n' (λx hx=>(ij x hx).imp id λz q=>z (by simp[q])) oP
  refine⟨a::A2,⟨a,vs,A2,rfl,by rw[aw ca.symm];exact h2,rfl,g1⟩,YV.mpr ⟨λz=>?_,g2⟩,λx hx=>?_⟩
  ·rcases g3 a z with z|z
   ·exact na z
   ·rcases ij a z with z|z
    ·exact na (q5 a z).1
    ·exact z (by simp)
  ·rcases Yi.mp hx with rfl|hx
   ·exact .inl (by simp)
   ·exact(g3 x hx).imp (λz=>by simp[z]) id
 |false =>
  obtain⟨a,vs,rfl,h2,h4⟩:=r;obtain⟨c,us,B,q1,q2,q3,q4,q5,q6,q7⟩:=core nd h4;have ca:a≠c:=λz=>by rw[z,q2]at h2;cases h2
  refine⟨a,vs,c,us,B,rfl,h2,h4.length,q1,q2,q3,q4,q5,q6,λir xg B' o' n' ij oP=>?_⟩;obtain⟨A2,g1,g2,g3⟩:=q7 ir xg B' o' n' ij oP;exact⟨A2,⟨a,vs,rfl,by rw[aw ca];exact h2,g1⟩,g2,g3⟩
end
section
variable {X:Cx}{C:Cfg}{e k:Expr}{φ φk:aV}{i:Nat}{x:Str}{pos px kp ap cp:Pos}
theorem lC (l:Bool)(he:∀U,PQ X (C.u U) true e φ)(hk:∀U,PQ X (C.u U) true k φk)(hN:X.N[i]?=some x:=by rfl)(hv:yI X.env.scope x:=by first|exact .inl rfl|exact .inr (.inl rfl)|exact .inr (.inr rfl))(hd:(x==("__debug__" : Str))=false:=by decide)(i7:(x==("__classdict__" : Str))=false:=by decide)
  (Ws:sN k:=by exact λ_ _=>rfl)
  (jO:abD (.Subscript (.Name x px) k kp) "append" X.env (eval (.Subscript (.Name x px) k kp) X.env)=eval (.Subscript (.Name x px) k kp) X.env:=by rfl)
  (CS:((aav cp (YG [e] X.env)).all (λx=>!x.1)&&(backToKw cp (keywordEach [] X.env)).all (λx=>x.1.isSome)&&decide ([e].length+([]:List Keyword).length+(if ([]:List Keyword).isEmpty then 0 else 1)<30))=true:=by rfl)
  (jN:(ap.endLine==cp.line)=true:=by rfl) (hs:YG [e] X.env=(false,eval e X.env)::YG [] X.env:=by rfl) (nZ:(aav cp (YG [] X.env)).any (·.1)=false:=by rfl)
  (yb:aaa (.Call (.Attribute (.Subscript (.Name x px) k kp) "append" ap) [e] [] cp) none pos.line X.env=pure false:=by rfl) :
  PB X C (.Expr (.Call (.Attribute (.Subscript (.Name x px) k kp) "append" ap) [e] [] cp) pos) (λE β=>(∃d0,β[i]?=some (some (.own d0)))/\φk β λjd _ β1=>∃ds j m es,jd=.int j/\β1[i]?=some (some (.own (Mu l ds)))/\zN ds.length j=some m/\ds[m]?=some (.lst es)/\φ β1 λd kd β2=>DP kd d/\β2[i]?=some (some (.own (Mu l ds)))/\es.length<Yy/\E.nx (β2.set i (some (.own (Mu l (ds.set m (.lst (es++[d]))))))) ):=by
 refine⟨λE E' β l NR=> by obtain⟨q0,q⟩ := NR;exact⟨q0,(hk λ_=>False).mono _ _ _ (λjd _ β1 NQ=> by obtain⟨ds,j,m,es,h1,h2,h3,h4,q⟩ := NQ;exact⟨ds,j,m,es,h1,h2,h3,h4,(he λ_=>False).mono _ _ _ (λd kd β2 NP=> by obtain⟨g1,g2,g3,q⟩ := NP;exact⟨g1,g2,g3,l.nx _ q⟩) q⟩) q⟩,λpins s σ H De I ⟨Z,E,β,⟨own,sq,n⟩,⟨⟨d0,WB⟩,q⟩,ok⟩=>?_⟩
 have ix:Hv X (λx y H Q=>LS X.K x y H Q\/LR X.K x y H Q):=λvalue slice pins s σ H x y v u Q I rx ry h hs=>h.elim (λh=>df value slice pins s σ H x y v u Q I rx ry h hs) λh=>Cu value slice pins s σ H x y v u Q I rx ry h hs;refine rK (pos:=pos) (GC (apos:=ap) (cpos:=cp) PySem.F.plainAttrs_list PySem.F.slot_list_append PySem.F.type_list_append kJ (iB (pos:=kp) ix (fg (pos:=px) hN hv hd i7) (hk λa=>H a=none).pe Ws) (br (he λa=>H a=none).pe dy hs) jO CS jN hs nZ) yb pins s σ H De I ?_;have Vd:=sq.tj (C:=C.z) (U:=λa=>H a=none) λa z=>z;obtain⟨v0,Aw,_,_⟩:=sq.ow i d0 WB;refine⟨v0,Aw,tQ.of (hk λa=>H a=none) Vd q λjd kk β1 kv H1 aG ⟨ds,j,m,es,e1,hb,hj,hm,q⟩ o r=>?_⟩;subst e1;cases r.rep;obtain⟨v,CJ,ow,h0⟩:=o.sq.ow i _ hb;rw[Aw]at CJ;cases CJ;obtain⟨a,vs,c,us,B,rfl,q1,q2,q3,q4,q5,q6,q7,q8,q9⟩:=tY ow (o.sq.rZ i) hm;have UK:pJ vs j=some (.ref c):=by unfold pJ;rw[q2,hj];exact q3
 have E7:O5 X.K "list" (.ref c) H1/\Gz (tQ X (C.u λa=>H a=none) true φ) LA σ H1 λxs H2=>xx (.ref c) xs H2 λ_ H1=>De.nx σ H1:=by
  refine⟨.inl ⟨rfl,us,dh.of q4⟩,tQ.of (he λa=>H a=none) o.sq q λd kd β2 v2 H2 a5 ⟨f,Ss,hl,q⟩ o2 r2=>?_⟩;obtain⟨s2,e2⟩:=o2.pu rfl;obtain⟨v',Pp,Vv,XW⟩:=o2.sq.ow i _ Ss;rw[Aw]at Pp;cases Pp;obtain⟨a',vs',c',xg,B',ea,p1,p2,p3,p4,p5,p6,p7,p8,p9⟩:=tY Vv (o2.sq.rZ i) hm;cases ea;have e3:=s2 _ _ q1;rw[p1]at e3;have ev:vs'=vs:=by cases l <;> (cases e3;rfl)
  subst ev;rw[q3]at p3;cases p3;have e4:=s2 _ _ q4;rw[p4]at e4;cases e4;obtain⟨A,r1,rn,r3⟩:=r2.fl f;have Je:∀x∈A,x∉a5 i:=λx hx z=>(r3 x hx).2.1 ⟨i,z⟩;obtain⟨A',g1,g2,g3⟩:=p9 (es++[d]) (us++[v2]) (B'++A) (p6.append (aP.one r1)) (Zq.mpr ⟨p8,rn,λx hx y hy z=>Je y hy (by rw[<- z];exact(p7 x hx).1)⟩)
   (λx hx=>(YL.mp hx).imp id (Je x)) (λx hx z=>by
    rcases YL.mp hx with hx|hx
    ·exact(p7 x hx).2 z
    ·exact Je x hx (by rw[z];exact p5))
  have hA:∀x∈A',x∈a5 i\/(C.H0 x=none/\¬ Wn a5 x/\H x=none):=λx hx=>by
   rcases g3 x hx with z|z
   ·exact .inl z
   ·rcases YL.mp z with z|z
    ·exact .inl (p7 x z).1
    ·exact .inr ⟨(r3 x z).2.2,(r3 x z).2.1,o.sn.free (r3 x z).1⟩
  exact⟨c,us,v2,rfl,rfl,p4,by rw[p6.length];exact hl,ok.nx _ _ _ ⟨_,o2.sq.putIn (C:=C) (U:=λa=>H a=none) Ss Aw p5 g1 g2 hA,rm ((n.trans o.sn).trans o2.sn) (λb z=>n.free z) ⟨i,p5⟩ ⟨_,p4,λxs z=>by cases z⟩ hA⟩ q⟩
 cases l with
 |true=>exact .inl ⟨a,vs,j,.ref c,rfl,rfl,dh.of q1,UK,E7⟩
 |false=>exact .inr ⟨a,vs,j,.ref c,rfl,rfl,sM.of q1,UK,E7⟩
end
end L2.Q
namespace L2
open PySem PySem.Spec PySem.SeqAt PyProof.Rows
theorem KZ {b:Bool}{p q:Prop}(h1:b=true->p)(h2:b=false->q):(if b=true then p else q):=by
 cases b
 ·exact f9 rfl (h2 rfl)
 ·exact j4 rfl (h1 rfl)
def k_ (a b c d:Int):Bool:=(decide (a<c)&&(decide (c<b)&&decide (b<d))) || (decide (c<a)&&(decide (a<d)&&decide (d<b)))
def bL:List Int->List Int->Bool
 |[a,b],[c,d]=>k_ a b c d
 |_,_=>false
def Pair (t:List Int):Prop:=∃a b,t=[a,b]
def gR:FD:=λds R=>∃t u,ds=[kD t,kD u]/\Pair t/\Pair u/\R (.bl (bL t u))
theorem gR.mono:cW gR:=λds R R' k ⟨t,u,e,h1,h2,q⟩=>⟨t,u,e,h1,h2,k _ q⟩
def bB (t u:List Int):Bool:=t.any λi=>decide (i∈u)
def oh:FD:=λds R=>∃t u,ds=[kD t,kD u]/\Pair t/\R (.bl (bB t u))
theorem oh.mono:cW oh:=λds R R' k ⟨t,u,e,h1,q⟩=>⟨t,u,e,h1,k _ q⟩
abbrev Flt:=Option (Str×List Nat)
def Km:Flt->D
 |none=>.cX
 |some (s,ks)=>.tup (.str s::ks.map λ(k:Nat)=>D.int (k:Int))
def sW (ts:List (List Int))(p:List Int->Bool)(j:Nat):Bool:=match ts[j]? with|some u=>p u|none=>false
def jS (rows ts:List (List Int))(k:Nat)(t:List Int):Flt:=if t∈rows then
   (if decide (0<k)&&sW ts (λu=>!HT.lexLt u t) (k-1) then some ("order",[k]) else
    match (YF k).find? (sW ts λu=>bB u t)with
    |some j=>some ("twice",[j,k])
    |none=>match (YF k).find? (sW ts λu=>bL u t)with
      |some j=>some ("cross",[j,k])
      |none=>none)
  else some ("none",[k])
def iY (rows ts:List (List Int))(k:Nat):Flt:=match ts[k]? with
 |none=>none
 |some t=>jS rows ts k t
theorem kY {rows ts:List (List Int)}{k:Nat}{t:List Int}(h:ts[k]?=some t):iY rows ts k=jS rows ts k t:=by unfold iY;rw[h]
def iW (rows ts:List (List Int)):Flt:=(YF ts.length).findSome? (iY rows ts)
theorem iX {p:Nat->Bool}{j:Nat}:∀{k:Nat},j<k->p j=true->(∀i<j,p i=false)->(YF k).find? p=some j
 |0,h,_,_=>by lia
 |k+1,h,hp,hb=>by
  rw[aaT,List.find?_append]
  by_cases hj:j<k
  ·rw[iX hj hp hb];rfl
  ·have e:j=k:=by lia
   subst e;have:(YF j).find? p=none:=List.find?_eq_none.mpr λi hi=>by simp[hb i (Zh.mp hi)]
   rw[this];simp[hp]
theorem find_none {p:Nat->Bool}{k:Nat}(h:∀i<k,p i=false):(YF k).find? p=none:=List.find?_eq_none.mpr λi hi=>by simp[h i (Zh.mp hi)]
theorem uD {f:Nat->Flt}{j:Nat}{x:Str×List Nat}:∀{k:Nat},j<k->f j=some x->(∀i<j,f i=none)->(YF k).findSome? f=some x
 |0,h,_,_=>by lia
 |k+1,h,hp,hb=>by
  rw[aaT,List.findSome?_append]
  by_cases hj:j<k
  ·rw[uD hj hp hb];rfl
  ·have e:j=k:=by lia
   subst e;have:(YF j).findSome? f=none:=abr.mpr λi hi=>hb i (Zh.mp hi);rw[this];simp[hp]
theorem FN {f:Nat->Flt}{k:Nat}(h:∀i<k,f i=none):(YF k).findSome? f=none:=abr.mpr λi hi=>h i (Zh.mp hi)
def Pairs (ts:List (List Int)):Prop:=∀t∈ts,Pair t
def oq:FD:=λds R=>∃(n:Int) (rows ts:List (List Int)) (k:Nat),ds=[.tup [.int n,.lst (rows.map kD)],.lst (ts.map kD),.int k]/\k<ts.length/\Pairs ts/\k<2 ^ 60/\R (Km (iY rows ts k))
theorem oq.mono:cW oq:=λds R R' k ⟨n,rows,ts,j,e,h1,h2,h3,q⟩=>⟨n,rows,ts,j,e,h1,h2,h3,k _ q⟩
def om:FD:=λds R=>∃(n:Int) (rows ts:List (List Int)),ds=[.tup [.int n,.lst (rows.map kD)],.lst (ts.map kD)]/\ts.length<=100000/\Pairs ts/\R (Km (iW rows ts))
theorem om.mono:cW om:=λds R R' k ⟨n,rows,ts,e,h1,h2,q⟩=>⟨n,rows,ts,e,h1,h2,k _ q⟩
def oj:FD:=λds R=>∃(n:Int) (rows ts:List (List Int)),ds=[.tup [.int n,.lst (rows.map kD)],.lst (ts.map kD)]/\ts.length<=100000/\Pairs ts/\R (.bl (decide (iW rows ts=none)))
theorem oj.mono:cW oj:=λds R R' k ⟨n,rows,ts,e,h1,h2,q⟩=>⟨n,rows,ts,e,h1,h2,k _ q⟩
theorem ql:∀t u:List Int,Ap.lexLe t u=!HT.lexLt u t
 |[],[]=>rfl
 |[],_::_=>rfl
 |_::_,[]=>rfl
 |x::xs,y::ys=>by
  show (if x=y then Ap.lexLe xs ys else decide (x<=y))=!(if y=x then HT.lexLt ys xs else decide (y<x))
  by_cases h:x=y
  ·rw[if_pos h,if_pos h.symm,ql xs ys]
  ·rw[if_neg h,if_neg (aaF h)]
   by_cases h2:x<=y
   ·have:¬ y<x:=by lia
    simp[h2,this]
   ·have:y<x:=by lia
    simp[h2,this]
theorem F4 (t u:List Int):OA (kD t) (kD u)=some (.bl (!HT.lexLt u t)):=by
 show (match bz (t.map D.int),bz (u.map D.int)with|some ns,some ms=>some (D.bl (Ap.lexLe ns ms))|_,_=>none)=_
 rw[cH,cH];show some (D.bl (Ap.lexLe t u))=_;rw[ql]
theorem yy (t u:List Int):Oy (kD t) (kD u)=some (.bl (HT.lexLt t u)):=by
 show (match bz (t.map D.int),bz (u.map D.int)with|some ns,some ms=>some (D.bl (HT.lexLt ns ms))|_,_=>none)=_
 rw[cH,cH]
theorem C3:∀f:Flt,(Km f).flat=true
 |none=>rfl
 |some (s,ks)=>by
  show (D.flat (.str s)&&D.cR (ks.map λ(k:Nat)=>D.int (k:Int)))=true;have:D.cR (ks.map λ(k:Nat)=>D.int (k:Int))=true:=uG (T:=λ_=>True) λd hd=>by
   obtain⟨k,_,rfl⟩:=YK.mp hd;exact⟨trivial,rfl⟩
  rw[this];rfl
theorem i4 {ts:List (List Int)}{k:Nat}{t:List Int}(h:ts[k]?=some t):uY (.lst (ts.map kD)) (.int (k:Int))=some (kD t):=yz (by rw[Yu,h];rfl)
structure Bs2 (mg:Str->Option Yc):Prop extends Bs mg where
 XC:mg "isinstance" = none
 tuple:mg "tuple" = none
 str:mg "str" = none
 bool:mg "bool" = none
 zip:mg "zip" = none
 enumerate:mg "enumerate" = none
theorem jV {d:D}{n:Nat}(h:d.pd.canLay0=true/\d.pd.depth<=n)(hn:n<=64:=by decide):Lh d d=some (.bl false):=wQ (cL h hn) (cL h hn) (eqv_refl _ h.1)
end L2
namespace L2.Q
open PySem PySem.Spec PySem.SeqAt PyProof.Rows
structure An (X:Cx)(C:Cfg)(p:Bool)(ifs:List Expr)(τ:bc):Prop where
 mono:∀β R R',(∀d β,R d β->R' d β)->τ β R->τ β R'
 pt:vx X ifs (lX X C p τ)
theorem kc {X:Cx}{C:Cfg}:An X C true [] Ls:=⟨λ_ _ _ k h=>k _ _ h,BB⟩
theorem j_ {X:Cx}{C:Cfg}{p:Bool}{c:Expr}{τ:bc}(h:vy X C p c τ):An X C p [c] τ:=⟨h.mono,BA h⟩
section
variable {X:Cx}{C:Cfg}{lk:List (Option Nat)}{γ:fu}{τ:bc}{φ:aV}{T:List Nat}{pc pe pi:Bool}{scope:aa7}{N':List Str}{tg eP elt:Expr}{ifs:List Expr}{ι:eI}{pos pos' tE:Pos}{y:Str}{i:Nat}
theorem MC (N':List Str)(lk:List (Option Nat))(L:nK X.env.scope.names X.N scope N' lk=true)(DR:N'.Nodup)(hc:X.calm=true)(hi:DH X C pi tg eP ι)
  (Ay:∀U cl c s H ex,DI (aO X scope N' cl c s H ex) (C.u U) tg T γ) (Ax:∀U cl c s H ex,An (aO X scope N' cl c s H ex) (C.u U) pc ifs τ) (sv:∀U cl c s H ex,PQ (aO X scope N' cl c s H ex) (C.u U) pe elt φ)
  (hT:T.all (λi=>match lk[i]? with|some (some _)=>false|_=>true)=true:=by rfl) (hs:∀x,Zo eP X.env x=pure x:=by intro _;rfl):PQ X C (pi&&(pc&&pe)) (.ListComp elt [⟨tg,eP,ifs,0⟩] scope pos) (xA lk ι γ τ φ) :=
 L3 (Links.of L) DR hT hc hi (λa=>Ay _) (λa cl c s H ex=>(Ax _ cl c s H ex).pt) (Ax (λ_=>False) [] 0 X.s₀ X.H₀ []).mono (λa=>sv _) (Ay (λ_=>False) [] 0 X.s₀ X.H₀ []).mono (sv (λ_=>False) [] 0 X.s₀ X.H₀ []).mono hs
theorem Bd (o:Bool)(N':List Str)(lk:List (Option Nat))(L:nK X.env.scope.names X.N scope N' lk=true)(DR:N'.Nodup)(hc:X.calm=true)(hi:∀U,DH X (C.u U) pi tg eP ι)
  (Ay:∀U cl c s H ex,DI (aO X scope N' cl c s H ex) (C.u U) tg T γ) (Ax:∀U cl c s H ex,An (aO X scope N' cl c s H ex) (C.u U) pc ifs τ) (sv:∀U cl c s H ex,PQ (aO X scope N' cl c s H ex) (C.u U) pe elt φ)
  (hN:X.N.Nodup) (hT:T.all (λi=>match lk[i]? with|some (some _)=>false|_=>true)=true:=by rfl) (hy:X.N[i]?=some y:=by rfl) (hx:Loc X.env.scope y:=by first|exact .inl rfl|exact .inr rfl) (hf:X.fn y=true\/X.env.scope.names.lookup y=some .local:=by first|exact .inl rfl|exact .inr rfl|assumption)
  (yb:aaa (.ListComp elt [⟨tg,eP,ifs,0⟩] scope pos) (some (.Name y pos')) tE.line X.env=pure true:=by rfl)
  (Kf:evalThenUse (.ListComp elt [⟨tg,eP,ifs,0⟩] scope pos) X.env (assign (.Name y pos') X.env)=(do let _ <- comprehension (.ListComp elt [⟨tg,eP,ifs,0⟩] scope pos) scope X.env (firstIterPos [⟨tg,eP,ifs,0⟩] pos) (newList []) false (eval eP X.env) (some (assign (.Name y pos') X.env));pure ()):=by first|rfl|exact arm_evalThenUse_ListComp ..)
  (hs:∀x,Zo eP X.env x=pure x:=by intro _;rfl) :
  PB X C (.Assign [.Name y pos'] (.ListComp elt [⟨tg,eP,ifs,0⟩] scope pos) tE) (λE β=>xA lk ι γ τ φ β λd _ β'=>E.nx (β'.set i (some (match o with|true=>.own d|false=>.val true d)))) :=
 L0 (K:=λ_ _ _=>True) (Links.of L) DR hT hc hi Ay (λU cl c s H ex=>(Ax U cl c s H ex).pt) (Ax (λ_=>False) [] 0 X.s₀ X.H₀ []).mono sv (Ay (λ_=>False) [] 0 X.s₀ X.H₀ []).mono (sv (λ_=>False) [] 0 X.s₀ X.H₀ []).mono o hN hy hx hf yb Kf hs
theorem a9:Hv X (Bk X uY NF):=λvalue slice pins s σ H x y v u Q I rx ry ⟨W,d1,d2,d,hd,r1,r2,e,q⟩ hs =>
 JA value slice pins s σ H x y v u Q I rx ry ⟨W,d1,d2,d,hd,r1,r2,e,λv H' s r=>q v H' s r λf=>aB.flat f r⟩ hs
end
section
end
theorem Aa (ns:List Int)(lo hi:Option Int):∃ms:List Int,u5 (ns.map V.int) lo hi=ms.map V.int/\ms.length<=ns.length:=by
 refine⟨(ns.drop (HT.mX (ns.map V.int).length 0 lo)).take (HT.mX (ns.map V.int).length (ns.map V.int).length hi-HT.mX (ns.map V.int).length 0 lo),?_,?_⟩
 ·unfold u5;rw[abd,List.map_drop]
 ·rw[YQ,aaH];lia
section
variable {P:Yk}{w:YB}
theorem bq {W:Addr->Prop}{H:Hp}:∀ns:List Int,aj P w W H (ns.map D.int) (ns.map V.int)
 |[]=>rfl
 |n::ns=>⟨_,_,rfl,rfl,bq ns⟩
theorem En {N:List Str}{vs:List V}{H H':Hp}{n:Nat}{ro:Bool}{U:Addr->Prop}(hl:(L2.start N vs).length=n)(sm:ay H H'):cI P w ⟨H,λ_=>False,ro,U⟩ (L2.start N vs) H' (YO n none) (λ_=>[]) :=
 ⟨by rw[hl,List.length_replicate],λi y d h=>(gI h).elim,λi d h=>(gI h).elim,λi ok h=>(gI h).elim,λi a h=>(nomatch h),λi j a h=>(nomatch h),λi=>ZF,sm.kp,λa z e=>z (sm.free e),λi y d h=>(gI h).elim⟩
theorem LP {ro:Bool}{H H':Hp}{b:Bool}{v:V}(h:sO P w ro H H' (.bl b) v):v=.bl b:=by
 cases ro with
 |true=>obtain⟨A,h1,_⟩:=h;exact h1.1
 |false=>exact h
end
theorem Du {β:a8}{i j k l:Nat}{y1 y2 y3 y4:Bool}{a b c d:Int}{R:D->Kd->a8->Prop}(h1:β[i]?=some (some (.val y1 (.int a))))(h2:β[j]?=some (some (.val y2 (.int b))))(h3:β[k]?=some (some (.val y3 (.int c))))(h4:β[l]?=some (some (.val y4 (.int d))))
  (q:R (.bl (decide (a<b)&&(decide (b<c)&&decide (c<d)))) .own β):rG (Bl i) (Bn Ku (Bl j) (Bn Ku (Bl k) (Iv Ku (Bl l)))) β R:=by
 refine⟨_,h1,_,h2,_,rfl,lR (λz1=>⟨_,h3,_,rfl,lR (λz2=>⟨_,h4,_,rfl,?_⟩) (λz2=>?_)⟩) (λz1=>?_)⟩
 ·simpa[z1,z2] using q
 ·simpa[z1,z2] using q
 ·simpa[z1] using q
def vq (ns:List Int):Prop:=∃x y z:Int,ns=[x,y,z]/\0<=x
def C8:FD:=λds R=>∃c:Int,ds=[.int c]/\∀ns,vq ns->R (.lst (ns.map D.int))
theorem C8.mono:cW C8:=λds R R' k ⟨c,e,q⟩=>⟨c,e,λns o=>k _ (q ns o)⟩
section
variable {P:Yk}{w:YB}{H:Hp}{h:Addr}
theorem jE {H:Hp}:∀ns:List Int,aP P w H (ns.map D.int) (ns.map V.int) []
 |[]=>⟨rfl,rfl⟩
 |n::ns=>⟨_,_,[],[],rfl,rfl,⟨rfl,rfl⟩,jE ns⟩
theorem vU {xs ys:List V}(e:H h=some (.lst xs)):Kp (·=h) H (upd H h (.lst ys)):=⟨λb u hb nb=>by rw[aw nb];exact hb,λb Lp hb=>by rw[aw λz=>by rw[z,e]at hb;cases hb];exact hb⟩
theorem vV {ys:List V}:∀c,H c≠none->upd H h (.lst ys) c≠none:=λc hc=>by
 by_cases z:c=h
 ·rw[z,az];exact λz=>(nomatch z)
 ·rw[aw z];exact hc
theorem xS {H':Hp}{r:Int}:sO P w true H H' (.int r) (.int r):=fD (W:=λ_=>False) rfl rfl
end
end L2.Q
namespace lN
open PySem L2 L2.Q
abbrev D0 (K:PySem.W.Frag)(mg:Str->Option Yc)(f:Addr)(fd:YY):Prop:=Df K mg "_law_row" g9 ["deck","most"] f fd
abbrev D1 (K:PySem.W.Frag)(mg:Str->Option Yc)(f:Addr)(fd:YY):Prop:=Df K mg "_law_take" d_ ["deck","many"] f fd
abbrev D2 (K:PySem.W.Frag)(mg:Str->Option Yc)(f:Addr)(fd:YY):Prop:=Df K mg "stretches_rising" bJ ["many"] f fd
abbrev D3 (K:PySem.W.Frag)(mg:Str->Option Yc)(f:Addr)(fd:YY):Prop:=Df K mg "partners_of" da ["row"] f fd
abbrev D4 (K:PySem.W.Frag)(mg:Str->Option Yc)(f:Addr)(fd:YY):Prop:=Df K mg "parts_left" dU ["i","k","j"] f fd
abbrev D5 (K:PySem.W.Frag)(mg:Str->Option Yc)(f:Addr)(fd:YY):Prop:=Df K mg "ways_in" g7 ["counts","parts"] f fd
abbrev D6 (K:PySem.W.Frag)(mg:Str->Option Yc)(f:Addr)(fd:YY):Prop:=Df K mg "ways_by" g8 ["counts","choices","i","j"] f fd
abbrev D7 (K:PySem.W.Frag)(mg:Str->Option Yc)(f:Addr)(fd:YY):Prop:=Df K mg "counts_of" eX ["row"] f fd
abbrev D8 (K:PySem.W.Frag)(mg:Str->Option Yc)(f:Addr)(fd:YY):Prop:=Df K mg "count_sets" dY ["row"] f fd
abbrev D9 (K:PySem.W.Frag)(mg:Str->Option Yc)(f:Addr)(fd:YY):Prop:=Df K mg "arcs_cross" dZ ["one","other"] f fd
abbrev DW (K:PySem.W.Frag)(mg:Str->Option Yc)(f:Addr)(fd:YY):Prop:=Df K mg "share_a_point" cv ["one","other"] f fd
abbrev Gu (K:PySem.W.Frag)(mg:Str->Option Yc)(f:Addr)(fd:YY):Prop:=Df K mg "fault_at" fQ ["row","ties","k"] f fd
abbrev Hz (K:PySem.W.Frag)(mg:Str->Option Yc)(f:Addr)(fd:YY):Prop:=Df K mg "first_fault" de ["row","ties"] f fd
abbrev KQ (K:PySem.W.Frag)(mg:Str->Option Yc)(f:Addr)(fd:YY):Prop:=Df K mg "is_set" jw ["row","ties"] f fd
abbrev Ln (K:PySem.W.Frag)(mg:Str->Option Yc)(f:Addr)(fd:YY):Prop:=Df K mg "check_set" eY ["row","ties"] f fd
abbrev Gs (K:PySem.W.Frag)(mg:Str->Option Yc)(f:Addr)(fd:YY):Prop:=Df K mg "waiting_behind" bZ ["waiting","tie"] f fd
abbrev O4 (K:PySem.W.Frag)(mg:Str->Option Yc)(f:Addr)(fd:YY):Prop:=Df K mg "waiting_after" cu ["row","ties"] f fd
abbrev O3 (K:PySem.W.Frag)(mg:Str->Option Yc)(f:Addr)(fd:YY):Prop:=Df K mg "ties_next" eU ["row","waiting"] f fd
abbrev Tp (K:PySem.W.Frag)(mg:Str->Option Yc)(f:Addr)(fd:YY):Prop:=Df K mg "how_many_begin" b4 ["row","ties"] f fd
abbrev To (K:PySem.W.Frag)(mg:Str->Option Yc)(f:Addr)(fd:YY):Prop:=Df K mg "set_number" dQ ["row","ties"] f fd
abbrev Tn (K:PySem.W.Frag)(mg:Str->Option Yc)(f:Addr)(fd:YY):Prop:=Df K mg "set_at" ju ["row","number"] f fd
abbrev Tj (K:PySem.W.Frag)(mg:Str->Option Yc)(f:Addr)(fd:YY):Prop:=Df K mg "next_set" fN ["row","ties"] f fd
abbrev O2 (K:PySem.W.Frag)(mg:Str->Option Yc)(f:Addr)(fd:YY):Prop:=Df K mg "_law_do_cross" cM ["one","other"] f fd
abbrev P9 (K:PySem.W.Frag)(mg:Str->Option Yc)(f:Addr)(fd:YY):Prop:=Df K mg "_law_fits" fO ["some","tie"] f fd
abbrev UT (K:PySem.W.Frag)(mg:Str->Option Yc)(f:Addr)(fd:YY):Prop:=Df K mg "_law_table" eV ["row"] f fd
abbrev P8 (K:PySem.W.Frag)(mg:Str->Option Yc)(f:Addr)(fd:YY):Prop:=Df K mg "_law_behind" dW ["row","known","some"] f fd
abbrev Ti (K:PySem.W.Frag)(mg:Str->Option Yc)(f:Addr)(fd:YY):Prop:=Df K mg "_law_ahead" eW ["row","known","some"] f fd
abbrev US (K:PySem.W.Frag)(mg:Str->Option Yc)(f:Addr)(fd:YY):Prop:=Df K mg "_law_one_right" cw ["deck","row","known","number"] f fd
abbrev UR (K:PySem.W.Frag)(mg:Str->Option Yc)(f:Addr)(fd:YY):Prop:=Df K mg "_law_cell_at" dc ["script","k"] f fd
abbrev Xr (K:PySem.W.Frag)(mg:Str->Option Yc)(f:Addr)(fd:YY):Prop:=Df K mg "_law_deck" ee ["cell"] f fd
abbrev Xq (K:PySem.W.Frag)(mg:Str->Option Yc)(f:Addr)(fd:YY):Prop:=Df K mg "_law_copied" fP ["row"] f fd
abbrev Xp (K:PySem.W.Frag)(mg:Str->Option Yc)(f:Addr)(fd:YY):Prop:=Df K mg "_law_sets" iN ["row"] f fd
section
variable {P:Yk}{w:YB}{K:PySem.W.Frag}{mg:Str->Option Yc}{base:Heap}
theorem tJ:aI ["cell"] ["cell"] (ar ee):=⟨rfl,rfl,rfl,by decide +kernel,rfl,by decide +kernel,by decide +kernel⟩
theorem E2 {f:Addr} {fd:YY} (F:DV K "_law_deck" "_law_deck" ee f fd) (B:Bs mg):aH P w K mg base bp 1 f fd ["cell"] (bX P w true C8):=by
 refine F.ok tJ (λvs H Q E h=>?_) (λcF A outer s H vs Q E hr h=>?_)
 ·obtain⟨ds,r,c,rfl,_⟩:=h;obtain⟨x,rr,rfl,_,hr⟩:=r;cases (show rr=[] from hr)
  rfl
 ·obtain⟨ds,r,c,rfl,q⟩:=h;obtain⟨x,rr,rfl,hx,JM⟩:=r;cases (show rr=[] from JM)
  cases (show x=V.int c from hx)
  refine⟨_,fR (gK (vY (br (gM (qM rfl) (by rfl) B.max Dy (br aU (br (cg BO (pv 0) (cg IS aU aU)) dy)))
   (br (cg gN (pv 0) aU) (br aU dy))))),?_⟩
  refine⟨_,rfl,_,_,rfl,rfl,L4,_,_,rfl,rfl,_,_,rfl,?_⟩;refine⟨_,rfl,_,_,rfl,rfl,(by show (0:Int)<2147483629;decide),(by show 3<=Yy;decide),λp hp=>?_⟩
  refine q [_,_,_] ⟨_,_,_,rfl,?_⟩ _ _ (ay.new hp) ⟨[p],⟨p,_,[],rfl,az,rfl,jE [_,_,_]⟩,by simp,λc hc=>by rw[Ys.mp hc];exact hp⟩
  split <;> lia
theorem eT:aI ["deck","many","digit","stir"] ["deck","many"] (ar d_):=⟨rfl,rfl,rfl,by decide +kernel,rfl,by decide +kernel,by decide +kernel⟩
theorem rY {f:Addr} {fd:YY} (F:DV K "_law_take" "_law_take" d_ f fd):aH P w K mg base bp 1 f fd ["deck","many"] (o3 P w vq true b7):=by
 refine F.ok eT (λvs H Q E h=>?_) (λcF A outer s H vs Q E hr h=>?_)
 ·obtain⟨h,vs',ds,ns,rfl,_,_,r,n,rfl,_⟩:=h;obtain⟨x,rr,rfl,_,hr⟩:=r;cases (show rr=[] from hr)
  rfl
 ·obtain⟨h,vs',ds,ns,rfl,e,⟨x,y,z,rfl,x0⟩,r,n,rfl,n0,n1,q⟩:=h;obtain⟨x',rr,rfl,CF,JM⟩:=r;cases (show rr=[] from JM)
  cases (show x'=V.int n from CF)
  have hx:H h=some (.lst [.int x,.int y,.int z]):=e;refine⟨_,b_ (vW (cg rX (iB df (pv 0) aU (λ_ _=>rfl)) aU) (BG (pv 0) aU set_list))
   (b_ (Bx (rH BQ (iB df (pv 0) aU (λ_ _=>rfl)) aU (B6 _))
    (b_ (m8 (i:=2) eT.nd rfl (Or.inl rfl) (cg gN (iB df (pv 0) aU (λ_ _=>rfl)) aU))
    (b_ (vW (cg nr (iB df (pv 0) aU (λ_ _=>rfl)) aU) (BG (pv 0) aU set_list))
    (fR (gK (cg gN (pv 2) (pv 1)))))) rJ)
   (b_ (m8 (i:=3) eT.nd rfl (Or.inl rfl) (cg gN (cg kG (cg rX (iB df (pv 0) aU (λ_ _=>rfl)) (cg kG aU (iB df (pv 0) aU (λ_ _=>rfl)))) aU) aU))
   (b_ (m8 (i:=3) eT.nd rfl (Or.inl rfl) (cg gN (cg kG (pv 3) (pv 3)) aU))
   (fR (gK (cg gN (cg nr (cg gN (cg kG (cg rX (pv 3) (cg kG aU (iB df (pv 0) aU (λ_ _=>rfl)))) aU) aU) aU) (pv 1))))))),?_⟩
  refine⟨_,rfl,h,_,_,_,rfl,rfl,dh.of hx,rfl,_,_,rfl,rfl,?_⟩;refine⟨_,rfl,h,_,_,2,rfl,rfl,hx,rfl,?_⟩;have hy:upd H h (.lst ([V.int x,V.int y,V.int z].set 2 (V.int (z+1)))) h=some (.lst [V.int x,V.int y,V.int (z+1)]):=az;refine⟨_,rfl,h,_,_,_,rfl,rfl,dh.of hy,rfl,_,_,rfl,rfl,_,rfl,?_⟩;refine Q8 (λhp=>?_) (λhp=>?_)
  ·refine⟨_,rfl,h,_,_,_,rfl,rfl,dh.of hy,rfl,_,_,rfl,rfl,(by show (0:Int)<65536;decide),?_⟩
   refine⟨_,rfl,h,_,_,_,rfl,rfl,dh.of hy,rfl,_,_,rfl,rfl,qW.of (by decide) (by decide),?_⟩
   refine⟨_,rfl,h,_,_,0,rfl,rfl,hy,rfl,?_⟩;have m:=sd (a:=x % 65536) n0;exact⟨_,rfl,_,rfl,_,_,rfl,rfl,n0,q _ m.1 m.2 _ _ [x / 65536,y,z+1] ((vU hx).trans (vU hy)) (λc hc=>vV c (vV c hc)) az ⟨_,_,_,rfl,Int.ediv_nonneg x0 (by decide)⟩ xS⟩
  ·refine⟨_,rfl,h,_,_,_,rfl,rfl,dh.of hy,rfl,_,rfl,h,_,_,_,rfl,rfl,dh.of hy,rfl,_,_,rfl,rfl,.inl ⟨by decide,by decide⟩,_,_,rfl,rfl,_,_,rfl,rfl,.inr ⟨by decide,by decide⟩,_,_,rfl,rfl,(by show (0:Int)<2147483647;decide),?_⟩
   have m1:=sd (a:=(y+7919*(z+1))*48271) (b:=2147483647) (by decide)
   refine⟨_,rfl,_,rfl,_,_,rfl,rfl,.inl ⟨Int.lt_of_lt_of_le (by decide) m1.1,Int.lt_trans m1.2 (by decide)⟩,_,_,rfl,rfl,(by show (0:Int)<2147483629;decide),?_⟩
   refine⟨_,rfl,_,rfl,h,_,_,_,rfl,rfl,dh.of hy,rfl,_,_,rfl,rfl,.inl ⟨by decide,by decide⟩,_,_,rfl,rfl,_,_,rfl,rfl,.inr ⟨by decide,by decide⟩,_,_,rfl,rfl,(by show (0:Int)<2147483563;decide),_,_,rfl,rfl,qW.of (by decide) (by decide),_,rfl,_,_,rfl,rfl,n0,?_⟩
   have m:=λa:Int=>sd (a:=a) n0;exact q _ (m _).1 (m _).2 _ _ [x,y,z+1] (vU hx) vV az ⟨_,_,_,rfl,x0⟩ xS
end
end lN
namespace L2
open PySem PySem.Spec PyProof.Rows
section
variable {κ:Type}[DecidableEq κ]
def gw (kvs:List (κ×V))(k:κ):Option V:=(kvs.find? λkv=>decide (kv.1=k)).map (·.2)
def putK (kvs:List (κ×V))(k:κ)(v:V):List (κ×V) :=
 if (kvs.any λkv=>decide (kv.1=k))=true then kvs.map (λkv=>if kv.1=k then (kv.1,v) else kv) else kvs++[(k,v)]
theorem mD {p:κ×V}{r:List (κ×V)}{k:κ}(e:p.1=k):gw (p::r) k=some p.2:=by simp[gw,ZV,e]
theorem mE {p:κ×V}{r:List (κ×V)}{k:κ}(e:¬ p.1=k):gw (p::r) k=gw r k:=by simp[gw,ZV,e]
theorem mG (k:κ):∀kvs:List (κ×V),(kvs.any λkv=>decide (kv.1=k))=(gw kvs k).isSome
 |[]=>rfl
 |p::r=>by
  rw[List.any_cons]
  by_cases e:p.1=k
  ·simp only[mD e,decide_eq_true e,Bool.true_or,Option.isSome_some]
  ·rw[mE e,decide_eq_false e,Bool.false_or];exact mG k r
theorem lE (kvs:List (κ×V))(k:κ)(v:V):(putK kvs k v).length<=kvs.length+1:=by
 unfold putK
 split
 ·rw[Ye];lia
 ·rw[YR,Yw,ZI];lia
theorem Bp {kvs:List (κ×V)}{k:κ}(v:V)(h:gw kvs k=none):putK kvs k v=kvs++[(k,v)]:=by
 unfold putK;rw[mG,h];exact if_neg (by decide)
theorem pM.zP {o:Option V}{u:Option Yc}(r:pM o u):o.isSome=u.isSome:=by
 cases o with
 |none=>cases u with
  |none=>rfl
  |some _=>exact(show False from r).elim
 |some _=>cases u with
  |none=>exact(show False from r).elim
  |some _=>rfl
theorem KV.val {kvs:List (κ×V)}{vs:List (κ×Yc)}(r:KV kvs vs)(k:κ):pM (gw kvs k) (valueAt vs k):=by
 unfold KV at r
 induction r with
 |nil=>exact True.intro
 | @cons p q ps qs h t ih =>
  obtain⟨h1,h2⟩:=h
  by_cases e:p.1=k
  ·have e':q.1=k:=h1.symm.trans e;have b:valueAt (q::qs) k=some q.2:=by simp[valueAt,ZV,e']
   rw[mD e,b];exact h2
  ·have e':¬ q.1=k:=λz=>e (h1.trans z);have b:valueAt (q::qs) k=valueAt qs k:=by simp[valueAt,ZV,e']
   rw[mE e,b];exact ih
theorem KV.any {kvs:List (κ×V)}{vs:List (κ×Yc)}(r:KV kvs vs)(k:κ):(kvs.any λkv=>decide (kv.1=k))=vs.any λkv=>decide (kv.1=k):=by
 unfold KV at r
 induction r with
 |nil=>rfl
 |cons h t ih=>rw[List.any_cons,List.any_cons,ih,h.1]
theorem KV.Ip {kvs:List (κ×V)}{vs:List (κ×Yc)}(r:KV kvs vs)(k:κ){y:V}{u:Yc}(ry:RelV y u):
  KV (kvs.map λkv=>if kv.1=k then (kv.1,y) else kv) (vs.map λkv=>if kv.1=k then (kv.1,u) else kv):=by
 unfold KV at r ⊢
 induction r with
 |nil=>exact .nil
 | @cons p q ps qs h t ih =>
  rw[YA,YA];refine .cons ?_ ih;obtain⟨h1,h2⟩:=h
  by_cases e:p.1=k
  ·rw[if_pos e,if_pos (h1.symm.trans e)];exact⟨h1,ry⟩
  ·rw[if_neg e,if_neg (λz=>e (h1.trans z))];exact⟨h1,h2⟩
theorem KV.put {kvs:List (κ×V)}{vs:List (κ×Yc)}(r:KV kvs vs)(k:κ){y:V}{u:Yc}(ry:RelV y u):KV (putK kvs k y) (stored vs k u):=by
 unfold putK stored;rw[r.any k]
 by_cases e:(vs.any λkv=>decide (kv.1=k))=true
 ·rw[if_pos e,if_pos e];exact r.Ip k ry
 ·rw[if_neg e,if_neg e];exact Paired.snoc r ⟨rfl,ry⟩
theorem KV.length {kvs:List (κ×V)}{vs:List (κ×Yc)}(r:KV kvs vs):kvs.length=vs.length:=Paired.length r
end
theorem Cs {P:Yk}{w:YB}{k:Key}{u:Yc}(r:RelV (kV k) u):(bR P w).is k u=true:=by
 cases k with
 |inl i=>obtain⟨t,e⟩:=(show ∃t,u=Value.int i t from r);subst e;exact ub P w i t
 |inr x=>obtain⟨t,e⟩:=(show ∃t,u=Value.str x t from r);subst e;exact ua P w x t
theorem qo {P:Yk}{w:YB}:∀{ks:List Key} {us:List Yc},Vals (ks.map kV) us->ItemsAre (bR P w) ks us
 |[],_,r=>by rw[abk]at r;cases r;exact .nil
 |k::ks,_,r=>by
  rw[YA]at r;cases r with
  |cons h t=>exact .cons (Cs h) (qo t)
abbrev KT (H:Hp):List (List Key×V)->List (List Key×Addr×Yc)->Prop:=Paired λp q=>p.1=q.1/\H q.2.1=some (.tup (p.1.map kV))/\RelV p.2 q.2.2
theorem KT.val {H:Hp}{kvs:List (List Key×V)}{xs:List (List Key×Addr×Yc)}(r:KT H kvs xs)(k:List Key):pM (gw kvs k) ((atKey xs k).map (·.2)):=by
 induction r with
 |nil=>exact True.intro
 | @cons p q ps qs h t ih =>
  obtain⟨h1,_,h2⟩:=h
  by_cases e:p.1=k
  ·have e':q.1=k:=h1.symm.trans e;have b:atKey (q::qs) k=some q.2:=by simp[atKey,ZV,e']
   rw[mD e,b];exact h2
  ·have e':¬ q.1=k:=λz=>e (h1.trans z);have b:atKey (q::qs) k=atKey qs k:=by simp[atKey,ZV,e']
   rw[mE e,b];exact ih
theorem KT.Ip {H:Hp}{kvs:List (List Key×V)}{xs:List (List Key×Addr×Yc)}(r:KT H kvs xs)(k:List Key){y:V}{u:Yc}(ry:RelV y u):
  KT H (kvs.map λkv=>if kv.1=k then (kv.1,y) else kv) (xs.map (putAt k u)):=by
 induction r with
 |nil=>exact .nil
 | @cons p q ps qs h t ih =>
  rw[YA,YA];refine .cons ?_ ih;obtain⟨h1,h2,h3⟩:=h;unfold putAt
  by_cases e:p.1=k
  ·rw[if_pos e,if_pos (h1.symm.trans e)];exact⟨h1,h2,ry⟩
  ·rw[if_neg e,if_neg (λz=>e (h1.trans z))];exact⟨h1,h2,h3⟩
theorem KT.put {H:Hp}{kvs:List (List Key×V)}{xs:List (List Key×Addr×Yc)}(r:KT H kvs xs)(k:List Key){b:Addr}{y:V}{u:Yc}(hb:H b=some (.tup (k.map kV)))(ry:RelV y u):
  KT H (putK kvs k y) (storedH xs k b u):=by
 have e:(kvs.any λkv=>decide (kv.1=k))=(atKey xs k).isSome:=by
  rw[mG,(r.val k).zP,Option.isSome_map]
 unfold putK storedH;rw[e]
 by_cases q:(atKey xs k).isSome=true
 ·rw[if_pos q,if_pos q];exact r.Ip k ry
 ·rw[if_neg q,if_neg q];exact Paired.snoc r ⟨rfl,hb,ry⟩
theorem KT.keeps {H H':Hp}{kvs:List (List Key×V)}{xs:List (List Key×Addr×Yc)}(r:KT H kvs xs)(ht:∀b ys,H b=some (.tup ys)->H' b=some (.tup ys)):KT H' kvs xs :=
 Paired.Jm r λ_ _ z=>⟨z.1,ht _ _ z.2.1,z.2.2⟩
section
variable {P:Yk}{w:YB}{H:Hp}{h:Heap}{a:Addr}
theorem GA {u:HO}(ok:i9 P w H h)(e:Rd H a u):bW P w H h a u:=e.ok ok
theorem Dj {kvs:List (Key×V)}(ok:i9 P w H h)(e:Rd H a (.dK kvs)):kvs.length<=Yy/\(a==Z8)=false/\∃vs,KV kvs vs/\h.DictOf (bR P w) a vs :=
 show bW P w H h a (.dK kvs) from GA ok e
theorem Ot {kvs:List (Key×V)}(ok:i9 P w H h)(e:H a=some (.dK kvs)):kvs.length<=Yy/\(a==Z8)=false/\∃vs,KV kvs vs/\h.DictOf (bR P w) a vs:=Dj ok (.inl e)
theorem wm {ks:List Key}(ok:i9 P w H h)(e:H a=some (.tup (ks.map kV))):(tupleKind (bR P w)).is h ks a:=by
 obtain⟨_,its,r,o,h1,h2,n,h3⟩:=(show bW P w H h a (.tup (ks.map kV)) from ok a _ e)
 exact⟨o,its.toArray,n,h1,h2,h3,by simpa using qo r⟩
theorem Dg {kvs:List (List Key×V)}(ok:i9 P w H h)(e:Rd H a (.dT kvs)):kvs.length<=Yy/\(a==Z8)=false /\
  ∃xs,KT H kvs xs/\h.DictOfH (tupleKind (bR P w)) a xs:=by
 obtain⟨z,y,xs,r,o,es,ep,h1,h2,h3,h4,h5⟩:=(show bW P w H h a (.dT kvs) from GA ok e)
 refine⟨z,y,xs,r,o,es,ep,h1,h2,h3,h4,λx hx=>?_,h5⟩;have all:∀{l:List (List Key×V)} {m:List (List Key×Addr×Yc)},KT H l m->∀x∈m,(tupleKind (bR P w)).is h x.1 x.2.1:=by
  intro l m q
  induction q with
  |nil=>intro x hx;exact nomatch hx
  | @cons p q ps qs hq t ih =>
   intro x hx;rcases Yi.mp hx with e|hx
   ·subst e;exact wm ok (by rw[<- hq.1];exact hq.2.1)
   ·exact ih x hx
 exact all r x hx
theorem Oq {kvs:List (List Key×V)}(ok:i9 P w H h)(e:H a=some (.dT kvs)):kvs.length<=Yy/\(a==Z8)=false /\
  ∃xs,KT H kvs xs/\h.DictOfH (tupleKind (bR P w)) a xs:=Dg ok (.inl e)
end
def Ar (H:Hp)(a:Addr)(y:V)(r:Option V):Prop :=
 (∃kvs k,Rd H a (.dK kvs)/\y=kV k/\r=gw kvs k)\/∃kvs k b,Rd H a (.dT kvs)/\y=.ref b/\H b=some (.tup (k.map kV))/\r=gw kvs k
def O1 (H:Hp)(a:Addr)(y v:V)(H':Hp):Prop :=
 (∃kvs k,H a=some (.dK kvs)/\y=kV k/\kvs.length<Yy/\H'=upd H a (.dK (putK kvs k v))) \/
 ∃kvs k b,H a=some (.dT kvs)/\y=.ref b/\H b=some (.tup (k.map kV))/\kvs.length<Yy/\H'=upd H a (.dT (putK kvs k v))
theorem Ar.t {H:Hp}{a b:Addr}{kvs:List (List Key×V)}{k:List Key}(e:H a=some (.dT kvs))(eb:H b=some (.tup (k.map kV))):Ar H a (.ref b) (gw kvs k):=.inr ⟨kvs,k,b,.inl e,rfl,eb,rfl⟩
section
variable {X:Cx}{pins:List (Addr×Obj)}{σ:St}{H:Hp}{s:Yg}{a:Addr}{y v:V}{u r:Yc}{o:Option V}{A:Zc}{E:Yc->Yg->Prop}
theorem Inv.big (I:Inv X pins σ H s):Z8<s.heap.objs.size:=by
 have h:Z2<s.heap.objs.size:=(I.mod.glob.keeps I.bk).lt;exact Nat.lt_trans (by decide) h
theorem z9 {Q:Yc->Yg->Prop}(hu:A.units+1<aan)(I:Inv X pins σ H s)(g:Ar H a y (some v))(ry:RelV y u)(h:∀w' s',Inv X pins σ H s'->RelV v w'->Q w' s'):
  YM (model X.prog X.w) A (getItem (.ref a) u) Q E s:=by
 rcases g with⟨kvs,k,e,ey,l⟩|⟨kvs,k,b,e,ey,eb,l⟩
 ·subst ey;obtain⟨z,hd,vs,rel,dd⟩:=Dj I.bV e;obtain⟨w',hw,DO⟩:=pM.some_of (v:=v) (o:=valueAt vs k) (by rw[l];exact rel.val k)
  exact wpAny_getItem_of (Cs ry) dd.mapOf hw (h w' _ (I.tok _) DO)
 ·subst ey;cases (show u=Value.ref b from ry)
  obtain⟨z,hd,xs,rel,dd⟩:=Dg I.bV e;obtain⟨w',hw,DO⟩:=pM.some_of (v:=v) (o:=(atKey xs k).map (·.2)) (by rw[l];exact rel.val k)
  obtain⟨p,hp,Pu⟩:=Yt.mp hw;refine wpAny_getItem_heap (tupleKind_room_in1 hu) (wm I.bV eb) dd hp ?_;rw[Pu];exact h w' _ (I.tok _) DO
theorem yu {h':Heap}{t':Nat}{ob:HO}(I:Inv X pins σ H s)(mu:OX (H a))(hs:aaf a s.heap h')(he:∃q,h'.get? a=some q)(new:bW X.prog X.w (upd H a ob) h' a ob):
  Inv X pins σ (upd H a ob) {s with heap:=h',toks:=t'} :=
 I.write (x:=a) (e:=a) mu (.inl rfl) (λb q hb z=>(hs.2 b hb).trans z) he new
theorem Kq {P:Yk}{w:YB}{H':Hp}{h':Heap}{kvs:List (Key×V)}{vs:List (Key×Yc)}(z:kvs.length<=Yy)(hd:(a==Z8)=false)(rel:KV kvs vs)(dd:h'.DictOf (bR P w) a vs):
  bW P w H' h' a (.dK kvs):=⟨z,hd,vs,rel,dd⟩
theorem z8 {H':Hp}{Q:Unit->Yg->Prop}(hu:A.units+1<aan)(I:Inv X pins σ H s)(g:O1 H a y v H')(ry:RelV y u)(rv:RelV v r)(h:∀s',Inv X pins σ H' s'->Q () s'):
  YM (model X.prog X.w) A (setItem (.ref a) u r) Q E s:=by
 rcases g with⟨kvs,k,e,ey,l,eH⟩|⟨kvs,k,b,e,ey,eb,l,eH⟩
 ·subst ey eH;obtain⟨z,hd,vs,rel,dd⟩:=Ot I.bV e;have hz:vs.length<=Yy:=by rw[<- rel.length];exact z
  have hl:(putK kvs k v).length<=Yy:=by have:=lE kvs k v;lia
  refine wpAny_setItem_pairs (hsz:=hz) (Cs ry) dd λh' PU hs=>h _ ?_;have he:∃q,h'.get? a=some q:=let ⟨q,_,_,hq,_⟩:=PU;⟨q,hq⟩
  exact yu I (by rw[e];exact True.intro) hs he (Kq hl hd (rel.put k rv) PU)
 ·subst ey eH;cases (show u=Value.ref b from ry)
  obtain⟨z,hd,xs,rel,dd⟩:=Oq I.bV e;have hz:xs.length<=Yy:=by rw[<- Paired.length rel];exact z
  have hl:(putK kvs k v).length<=Yy:=by have:=lE kvs k v;lia
  refine wpAny_setItem_heap (hsz:=hz) (tupleKind_room_in1 hu) (wm I.bV eb) dd λh' PU hs=>h _ ?_;obtain⟨q,es,ep,hq,h2,h3,h4,_,h5⟩:=PU;refine yu I (by rw[e];exact True.intro) hs ⟨q,hq⟩ ⟨hl,hd,_,(rel.put k eb rv).keeps λc ys ec=>?_,q,es,ep,hq,h2,h3,h4,h5⟩
  rw[aw (GN ec e (λz=>nomatch z))];exact ec
end
section
end
theorem uV {X:Cx} {pins:List (Addr×Obj)} {σ:St} {H:Hp} {s:Yg} {a:Addr} {y:V} {o:Option V} (I:Inv X pins σ H s) (g:Ar H a y o):s.TypeIs (.ref a) "dict" := by
 rcases g with⟨kvs,k,e,_,_⟩|⟨kvs,k,b,e,_,_,_⟩
 ·obtain⟨_,_,vs,_,dd⟩:=Dj I.bV e;exact dd.typeIs
 ·obtain⟨_,_,xs,_,dd⟩:=Dg I.bV e;exact dd.typeIs
def LO (td ty tv:TE):TS:=λD σ H=>tv σ H λv H1=>td σ H1 λx H2=>ty σ H2 λy H3=>∃a H4,x=.ref a/\O1 H3 a y v H4/\D.nx σ H4
section
variable {X:Cx}{o i value:Expr}{pos pos':Pos}{td ty tv:TE}
theorem xC (hu:X.A.units+1<aan)(ho:PE X o td)(hi:PE X i ty)(hv:PE X value tv)(hs:aaa value (some (.Subscript o i pos')) pos.line X.env=pure false):
  PS X (.Assign [.Subscript o i pos'] value pos) (LO td ty tv):=by
 intro pins s σ H D I h;refine wpAny_Assign_Subscript (bF (hv pins s σ H _ I h) λr s1 ⟨v,H1,I1,rv,q1⟩=>bF (ho pins s1 σ H1 _ I1 q1) λu s2 ⟨x,H2,I2,rx,q2⟩=>bF (hi pins s2 σ H2 _ I2 q2) λiv s3 ⟨y,H3,I3,ry,a,H4,ex,g,q3⟩=>?_) hs;subst ex;obtain rfl:u=Value.ref a:=rx;exact z8 hu I3 g ry rv λs4 I4=>⟨σ,H4,I4,q3⟩
end
theorem Dh {P:Yk}{w:YB}{H:Hp}(h:Heap)(hb:Z8<h.objs.size):bW P w H (h.push {cls:=.type "dict",data:=.dict #[]}) h.objs.size (.dT []) :=
 ⟨Yz _,beq_eq_false_iff_ne.mpr (aaF (YZ hb)),[],.nil,_,#[],0,Y0 _ rfl,⟨rfl,rfl,rfl⟩,rfl,rfl,ZF⟩
def HY:TE:=λ_ H Q=>∀p,H p=none->Q (.ref p) (upd H p (.dT []))
section
variable {X:Cx}{pos:Pos}
theorem tW:PE X (.Dict [] [] pos) HY:=λpins s σ H Q I h =>
 wpAny_Dict_empty ⟨.ref s.heap.objs.size,_,I.laid (a:=s.heap.objs.size) (o:=.dT []) (t':=s.toks) (λ_ _ q=>Yv _ q) (Yh _) (Dh s.heap I.big),rfl,h _ (I.bV.fresh (Yh _))⟩
end
section
end
section
end
section
end
section
end
section
end
section
variable {κ:Type}[DecidableEq κ]
end
end L2
namespace L2.Q
open PySem PySem.Spec PySem.SeqAt PyProof.Rows
theorem _root_.L2.cU.cJ {k:Nat}{A:Zc}(r:cU k A):A.units+1<aan:=by have:=r.un;lia
def iK (t:List Int):List Key:=t.map Sum.inl
theorem CD {t u:List Int}(h:iK t=iK u):t=u:=by
 unfold iK at h
 induction t generalizing u with
 |nil=>cases u with|nil=>rfl|cons _ _=>cases h
 |cons a t ih =>
  cases u with
  |nil=>cases h
  |cons b u =>
   rw[YA,YA]at h;injection h with h1 h2
   injection h1 with h1
   rw[h1,ih h2]
theorem x_ (t:List Int):(iK t).map kV=t.map V.int:=by
 unfold iK;rw[Y8];rfl
def dP (ts:List (List Int))(b:Bool):D:=.dT (ts.map iK) (YO ts.length (.bl b))
def vf (ts:List (List Int))(t:List Int):List (List Int):=if t∈ts then ts else ts++[t]
theorem rF {v:V}:∀{ks:List (List Key)} {n:Nat},ks.length=n->ks.zip (YO n v)=ks.map λk=>(k,v)
 |[],_,_=>by simp
 |k::ks,0,h=>by cases h
 |k::ks,n+1,h=>by
  rw[ZU,Zt,rF (abj h)];rfl
theorem Ey {v:V}{ts:List (List Int)}{t:List Int}:putK ((ts.map iK).map λk=>(k,v)) (iK t) v=((vf ts t).map iK).map λk=>(k,v):=by
 unfold putK vf;have any:(((ts.map iK).map λk=>(k,v)).any λkv=>decide (kv.1=iK t))=decide (t∈ts):=by
  rw[Bool.eq_iff_iff,List.any_eq_true,decide_eq_true_eq];constructor
  ·rintro⟨kv,h1,h2⟩;obtain⟨k,h3,rfl⟩:=YK.mp h1;obtain⟨u,h4,rfl⟩:=YK.mp h3;have:=CD (of_decide_eq_true h2);rw[<- this];exact h4
  ·intro h;exact⟨(iK t,v),YK.mpr ⟨iK t,YK.mpr ⟨t,h,rfl⟩,rfl⟩,by simp⟩
 rw[any]
 by_cases h:t∈ts
 ·rw[if_pos (by simpa using h),if_pos h,Y8]
  refine Zw λk _=>?_;show (if k=iK t then (k,v) else (k,v))=(k,v)
  split <;> rfl
 ·rw[if_neg (by simpa using h),if_neg h,YN,YN]
  rfl
section
variable {P:Yk}{w:YB}{H:Hp}{a:Addr}
theorem xJ {b:Bool}:∀{n:Nat},aP P w H (YO n (.bl b)) (YO n (V.bl b)) []
 |0=>⟨rfl,rfl⟩
 |n+1=>⟨_,_,[],[],rfl,rfl,⟨rfl,rfl⟩,xJ⟩
theorem yC {b:Bool}:∀{n:Nat} {vs:List V} {A:List Addr},aP P w H (YO n (.bl b)) vs A->vs=YO n (V.bl b)/\A=[]
 |0,_,_,h=>h
 |n+1,_,_,⟨v,r,A1,A2,e,eA,h1,h2⟩=>by
  obtain⟨e1,e2⟩:=h1;obtain⟨e3,e4⟩:=yC h2;rw[e,eA,e1,e2,e3,e4];exact⟨rfl,rfl⟩
theorem BM {ts:List (List Int)}{b:Bool}(h:H a=some (.dT ((ts.map iK).map λk=>(k,V.bl b)))):Own P w H (dP ts b) (.ref a) [a] :=
 ⟨a,YO ts.length (V.bl b),[],rfl,by rw[rF (by simp)];exact h,by simp,rfl,xJ⟩
theorem Kr {ts:List (List Int)}{b:Bool}{v:V}{A:List Addr}(h:Own P w H (dP ts b) v A):∃a,v=.ref a/\A=[a]/\H a=some (.dT ((ts.map iK).map λk=>(k,V.bl b))):=by
 obtain⟨a,vs,A',e,h1,l,eA,h2⟩:=h;obtain⟨e3,e4⟩:=yC h2;rw[e3,rF (by simp)]at h1
 exact⟨a,e,by rw[eA,e4],h1⟩
end
section
variable {X:Cx}{C:Cfg}{k:Expr}{φk:aV}{i:Nat}{x:Str}{pos pos' px pc:Pos}{b:Bool}
theorem EE (b:Bool):PQ X C true (.Dict [] [] pos) (λβ R=>R (dP [] b) .own β) :=
 ⟨λβ R R' k h=>k _ _ _ h,tW.pre λσ H Q h p hp=>by
  obtain⟨β,own,s,q⟩:=h;refine q _ _ own ((Out.refl s _).same (ay.new hp)) ⟨[p],BM az,by simp,λc hc=>?_⟩
  rw[Ys.mp hc];exact⟨hp,λz=>s.wK p z hp,Y1 λz=>s.i8 p z hp⟩⟩
theorem l8 {j}(hu:X.A.units+1<aan)(hk:PQ X C.z true k φk)(hN:X.N[i]?=some x:=by rfl)(hv:yI X.env.scope x:=by first|exact .inl rfl|exact .inr (.inl rfl)|exact .inr (.inr rfl))(hd:(x==("__debug__" : Str))=false:=by decide)(i7:(x==("__classdict__" : Str))=false:=by decide)
  (hs:aaa (.Constant (.bool b) j pc) (some (.Subscript (.Name x px) k pos')) pos.line X.env=pure false:=by rfl) :
  PB X C (.Assign [.Subscript (.Name x px) k pos'] (.Constant (.bool b) j pc) pos) (λE β=>(∃ts,β[i]?=some (some (.own (dP ts b))))/\φk β λjd _ β2=>∃ts t,jd=kD t/\β2[i]?=some (some (.own (dP ts b)))/\ts.length<Yy/\E.nx (β2.set i (some (.own (dP (vf ts t) b))))):=by
 refine⟨λE E' β l h=>⟨h.1,hk.mono _ _ _ (λjd _ β2 h=>by obtain⟨ts,t,h1,h2,h3,q⟩:=h;exact⟨ts,t,h1,h2,h3,l.nx _ q⟩) h.2⟩,(xC hu (fg (pos:=px) hN hv hd i7) hk.pe (BI (j:=j) (pos:=pc)) hs).pre λDe σ H h=>?_⟩
 obtain⟨Z,E,β,⟨own,s0,n⟩,⟨⟨Xu,K_⟩,q⟩,ok⟩:=h;obtain⟨v0,Aw,Vw,_⟩:=s0.ow i _ K_;refine⟨v0,Aw,tQ.of hk s0 q λjd kk β2 v H1 aG h o r=>?_⟩;obtain⟨ts,t,e1,hb,hl,q⟩:=h;subst e1;obtain⟨v1,CJ,ow,h0⟩:=o.sq.ow i _ hb;rw[Aw]at CJ;cases CJ;obtain⟨a,rfl,eA,ha⟩:=Kr ow;obtain⟨p,vs,rfl,hp,rv⟩:=r.rep;have ev:vs=(iK t).map kV:=by
  rw[x_];have key:∀(t:List Int) (vs:List V),aj X.prog X.w (av C.z (Wn aG) kk) H1 (t.map D.int) vs->vs=t.map V.int:=λt=>by
   induction t with
   |nil=>intro vs h;exact h
   |cons y t ih =>
    intro vs h;obtain⟨z,r',e1,e2,e3⟩:=h;rw[e1,ih r' e3,show z=V.int y from e2]
    rfl
  exact key t vs rv
 have G6:a∈aG i:=by rw[eA];simp
 refine⟨a,_,rfl,.inr ⟨_,iK t,p,ha,rfl,by rw[<- ev];exact hp,by rw[Ye,Ye];exact hl,rfl⟩,?_⟩
 have hA:∀c∈[a],c∈aG i\/(C.H0 c=none/\¬ Wn aG c/\(λ_=>False) c):=λc hc=>.inl (by rw[Ys.mp hc];exact G6)
 have r':Own X.prog X.w (upd H1 a (.dT (putK ((ts.map iK).map λk=>(k,V.bl b)) (iK t) (V.bl b)))) (dP (vf ts t) b) (.ref a) [a]:=BM (by rw[Ey];exact az)
 exact ok.nx _ _ _ ⟨_,o.sq.Ez (C:=C) (U:=λ_=>False) (U2:=λ_=>False) hb Aw G6 r' (by simp) hA (λ_ z=>z) (λ_ _ z=>z),rm (C:=C) (n.trans o.sn) (λ_ z=>z.elim) ⟨i,G6⟩ ⟨_,ha,λxs z=>by cases z⟩ hA⟩ q
end
end L2.Q
namespace Dk
open PySem PySem.Spec PyProof.Rows
def At (h:Heap)(d:Addr)(es:Array abb)(ep:Nat):Prop:=∃o,h.get? d=some o/\o.ExactDict/\o.data=.dict es ep
theorem At.at' {h h':Heap}{d:Addr}{es:Array abb}{ep:Nat}(x:At h d es ep)(e:∀o,h.get? d=some o->h'.get? d=some o):At h' d es ep:=by
 obtain⟨o,h1,r⟩:=x;exact⟨o,e _ h1,r⟩
theorem At.lt {h:Heap}{d:Addr}{es:Array abb}{ep:Nat}(x:At h d es ep):d<h.objs.size:=by
 obtain⟨o,h1,_⟩:=x;exact YC h1
theorem At.typeIs {s:Yg} {d:Addr} {es:Array abb} {ep:Nat} (x:At s.heap d es ep):s.TypeIs (.ref d) "dict" := by
 obtain⟨o,h1,h2,_⟩:=x;exact⟨o,h1,h2.1⟩
section
variable {prog:Yk}{w:YB}{A:Zc}{E:Yc->Yg->Prop}{s:Yg}{d it:Addr}{es:Array abb}{i ep:Nat}
theorem zO {Q:Yc->Yg->Prop}(hd:(d==Z8)=false)(hm:At s.heap d es ep)
  (hQ:Q (.ref s.heap.objs.size) {s with heap:=s.heap.push {cls:=.type "dict_keyiterator",data:=.fields #[.ref d,.int 0 0,.int es.size 0,.int ep 0]}}):YM (model prog w) A (pyIter (.ref d)) Q E s:=by
 have hT:=hm.typeIs;obtain⟨o,ho,hc,N_⟩:=id hm;refine wpAny_pyIter_slot hT F.slot_dict_iter (ZX F.slot_dict_iter hT F.entry_dict_iter ?_ (F.args_dict_iter_1 _));unfold Z_.«dict.__iter__»
 refine Yd ?_;unfold Builtin.Dict.dictSlotNone;refine Yd (wpAny_notOrdered_dict hT ?_);show YM _ _ (pure (Value.ref d)) _ _ s;refine Ym ?_;show YM _ _ (Builtin.Dict.showsAll d >>= _) _ _ s;unfold Builtin.Dict.showsAll;rw[if_neg (by rw[hd];exact ZG)]
 refine Yd (Ym ?_);refine Yd (wpAny_dictEntries ho N_ ?_);refine Yd (wpAny_dictEpoch ho N_ ?_);refine Yd (aac (Ym ⟨_,rfl,"dict_keyiterator",_,⟨_,Y0 _ rfl,rfl⟩,F.slot_dict_keyiterator_next.lookup,?_⟩));simpa[rawInt] using hQ
theorem next_item {Q:Option Yc->Yg->Prop}(hit:s.heap.IsKeyIter it d i es.size ep)(hm:At s.heap d es ep)(R5:i<es.size)
  (hQ:∀h',h'.IsKeyIter it d (i+1) es.size ep->aaf it s.heap h'->Q (some es[i].key) {s with heap:=h'}):YM (model prog w) A (abm (.ref it)) Q E s:=by
 obtain⟨o,ho,hc,hd⟩:=id hit;obtain⟨od,NX,i7,N9⟩:=id hm;unfold abm;refine Yd (abC (aaY (name:=Str.ofString "__next__") hit.typeIs F.slot_dict_keyiterator_next
  (ZX F.slot_dict_keyiterator_next hit.typeIs F.entry_dict_keyiterator_next ?_ (F.args_dict_keyiterator_next_1 _))))
 refine Yd (Ym ?_);refine Yd ?_;refine Yd ?_
 first|refine Yd (aaj hit.typeIs (Ym ?_))|refine Yd (aaL hit.typeIs (Ym ?_))
 refine Yd (wpAny_fieldsOf ho hd ?_);have J4:Builtin.Dict_items.ownsTuple "dict_keyiterator" = false:=by decide
 simp only[J4,aaX,if_false];show YM _ _ (if (Value.ref d==Value.none)=true then _ else _) _ _ s
 rw[if_neg (show ¬ ((Value.ref d==Value.none)=true) from ZG)]
 refine Yd (Ym ?_);refine Yd (wpAny_dictEntries NX N9 ?_);rw[if_neg (by simp)]
 refine Yd (Ym ?_);refine Yd (wpAny_dictEpoch NX N9 ?_);rw[if_neg (by simp)]
 refine Ym ?_;simp only[show ¬ ((i:Int)<0) from by lia,if_false,ZE,Array.getElem?_eq_getElem R5]
 refine Yd ?_
 first|refine Yd (aaj hit.typeIs (Ym ?_))|refine Yd (aaL hit.typeIs (Ym ?_))
 refine Yd (wpAny_isOneOf_keyiter hit.typeIs ?_);show YM _ _ (setField (.ref it) 1 (rawInt ((i:Int)+1)) >>= _) _ _ s;refine Yd (wpAny_setField ho hd (by simp) ?_)
 have FE:(s.heap.update it (Obj.mapFields (·.setIfInBounds 1 (rawInt ((i:Int)+1))))).IsKeyIter it d (i+1) es.size ep :=
  ⟨_,Heap.get?_update_self _ ho (Obj.isFreed_of_fields (Obj.data_mapFields hd _)),(Obj.cls_mapFields ..).trans hc,by rw[Obj.data_mapFields hd];simp[rawInt]⟩
 refine Yd (Z0 ?_);refine Yd (wpAny_isOneOf_keyiter (s:={s with heap:=s.heap.update it (Obj.mapFields (·.setIfInBounds 1 (rawInt ((i:Int)+1))))}) FE.typeIs ?_)
 show YM _ _ (pure es[i].key) _ _ _;exact Ym (Ym ⟨_,rfl,Ym (hQ _ FE (aaK ..))⟩)
end
section
variable {prog:Yk}{w:YB}{A:Zc}{E:Yc->Yg->Prop}{s:Yg}{d it:Addr}{es:Array abb}{i ep:Nat}
theorem next_end {Q:Option Yc->Yg->Prop}(hh:A.handled=none)(hit:s.heap.IsKeyIter it d i es.size ep)(hm:At s.heap d es ep)(Ur:es.size<=i)
  (hQ:∀h',Heap.ExtBut it s.heap h'->Q none {s with heap:=h'}):YM (model prog w) A (abm (.ref it)) Q E s:=by
 obtain⟨o,ho,hc,hd⟩:=id hit;obtain⟨od,NX,i7,N9⟩:=id hm;unfold abm;refine Yd (abC (aaY (name:=Str.ofString "__next__") hit.typeIs F.slot_dict_keyiterator_next
  (ZX F.slot_dict_keyiterator_next hit.typeIs F.entry_dict_keyiterator_next ?_ (F.args_dict_keyiterator_next_1 _))))
 refine Yd (Ym ?_);refine Yd ?_;refine Yd ?_
 first|refine Yd (aaj hit.typeIs (Ym ?_))|refine Yd (aaL hit.typeIs (Ym ?_))
 refine Yd (wpAny_fieldsOf ho hd ?_);have J4:Builtin.Dict_items.ownsTuple "dict_keyiterator" = false:=by decide
 simp only[J4,aaX,if_false];show YM _ _ (if (Value.ref d==Value.none)=true then _ else _) _ _ s
 rw[if_neg (show ¬ ((Value.ref d==Value.none)=true) from ZG)]
 refine Yd (Ym ?_);refine Yd (wpAny_dictEntries NX N9 ?_);rw[if_neg (by simp)]
 refine Yd (Ym ?_);refine Yd (wpAny_dictEpoch NX N9 ?_);rw[if_neg (by simp)]
 refine Ym ?_;simp only[show ¬ ((i:Int)<0) from by lia,if_false,ZE,Zu Ur]
 refine Yd ?_
 first|refine Yd (aaj hit.typeIs (Ym ?_))|refine Yd (aaL hit.typeIs (Ym ?_))
 show YM _ _ (setField (.ref it) 0 .none >>= _) _ _ s;refine Yd (wpAny_setField ho hd (by simp) ?_)
 show YM _ _ (newExc (.type "StopIteration") [] >>= _) _ _ _;refine Yd ?_;simp only[newExc,newTuple];refine Yd (aac ?_ (by size_fits))
 refine Yd (m:=firstArgMember _ _) (wpAny_of_eq (a:=Value.none) (by first|rfl|(simp only[firstArgMember];rfl)) ?_)
 refine aac ?_ (by size_fits)
 simp only[raiseNew];refine Yd (wpAny_handled ?_);rw[show A.in1.handled=none from hh]
 refine Yd (Ym (wpAny_throw ?_));refine Yd (wpAny_isInstance (T:="StopIteration") (b:=true) ⟨_,Y0 _ rfl,rfl⟩ isSubtype_stop ?_);exact Ym (hQ _ (((aaK ..).extBut.push _).push _))
theorem walks (hh:A.handled=none)(I d:Addr)(zS:d≠I)(es:Array abb)(ep:Nat):
  Walks prog w A I [I,d] [I] es.size (λi v=>∃h:i<es.size,v=es[i].key) (λi h=>h.IsKeyIter I d i es.size ep/\At h d es ep) where
 sub:=λb hb=>by simp at hb;simp[hb]
 frame:=λ_ _ _ st hk=>⟨st.1.at λo e=>hk I (by simp) o e,st.2.at' λo e=>hk d (by simp) o e⟩
 item:=λi s Q E hi st hQ=>by
  refine next_item st.1 st.2 hi λh' FE K1=>?_;exact hQ _ h' s.toks ⟨hi,rfl⟩ ⟨FE,st.2.at' λo e=>K1.extBut d o zS e⟩ λb o hb e=>K1.extBut b o (λh=>hb (by simp[h])) e
 done:=λs Q E st hQ=>next_end hh st.1 st.2 (Yh _) λh' Kg=>hQ h' s.toks λb o hb e=>Kg b o (λh=>hb (by simp[h])) e
 self:=λ_ _ _ _ st hQ=>wpAny_pyIter_keyiter st.1 hQ
theorem src (lo:(d==Z8)=false):PySem.W.KdlSrc prog w "dict" d d es.size (λi v=>∃h:i<es.size,v=es[i].key) (λh=>At h d es ep) where
 type:=λ_ hm=>hm.typeIs
 there:=λ_ hm=>⟨hm.lt,hm.lt⟩
 keep:=λ_ _ hm hk=>hm.at' λo e=>hk d (.inl rfl) o e
 notList:=by decide
 notTuple:=by decide
 hint:=λ_ _ _ _ hm hq=>PySem.W.kdl_hint_dict hm.typeIs hq
 iter:=λ_ _ hh hm=>⟨_,_,(λ_ _ hq=>zO lo hm hq),walks hh _ d (YZ hm.lt) es ep,⟨⟨_,Y0 _ rfl,rfl,rfl⟩,hm.at' λo e=>Yv _ e⟩⟩
theorem sJ {R:List Yc->Yg->Prop}(lo:(d==Z8)=false)(hm:At s.heap d es ep)(hn:es.size<=Yy)(hh:A.handled=none)
  (h:∀(h':Heap) (tk:Nat),(∀b o,s.heap.get? b=some o->h'.get? b=some o)->R (es.toList.map (·.key)) {s with heap:=h',toks:=tk}):YM (model prog w) A (collect (.ref d)) R E s:=by
 refine PySem.W.kdu_collect (src (es:=es) (ep:=ep) lo) hh hm hn λh' tk acc hk CU=>?_;have e:acc.toList=es.toList.map (·.key):=by
  apply aae;intro i;rw[Yu,YD,YD]
  by_cases hi:i<acc.size
  ·obtain⟨g1,g2⟩:=CU.2 i acc[i] (getElem?_pos acc i hi);rw[getElem?_pos acc i hi,getElem?_pos es i g1,g2];rfl
  ·have:=CU.1;rw[Zu (by lia),Zu (by lia)]
   rfl
 rw[e];exact h h' tk hk
end
end Dk
namespace L2.Q
open PySem PySem.Spec PySem.SeqAt PyProof.Rows HT
def Eg:List Key->Option (List Int)
 |[]=>some []
 |.inl i::r=>(Eg r).map (i::·)
 |.inr _::_=>none
def oW:List (List Key)->Option (List (List Int))
 |[]=>some []
 |k::r=>match Eg k,oW r with
  |some t,some ts=>some (t::ts)
  |_,_=>none
theorem AO:∀t:List Int,Eg (iK t)=some t
 |[]=>rfl
 |i::t=>by
  show (Eg (iK t)).map (i::·)=_;rw[AO t];rfl
theorem tm:∀ts:List (List Int),oW (ts.map iK)=some ts
 |[]=>rfl
 |t::ts=>by
  show (match Eg (iK t),oW (ts.map iK)with|some t,some ts=>some (t::ts)|_,_=>none)=_
  rw[AO,tm ts]
theorem AQ:∀{k:List Key} {t:List Int},Eg k=some t->k=iK t
 |[],t,h=>by cases h;rfl
 |.inl i::r,t,h=>by
  obtain⟨u,h1,h2⟩:=Yt.mp (show (Eg r).map (i::·)=some t from h)
  rw[<- h2,AQ h1];rfl
 |.inr _::_,t,h=>by cases h
theorem xh:∀{ks:List (List Key)} {ts:List (List Int)},oW ks=some ts->ks=ts.map iK
 |[],ts,h=>by cases h;rfl
 |k::r,ts,h=>by
  have h:(match Eg k,oW r with|some t,some ts=>some (t::ts)|_,_=>none)=some ts:=h
  cases h1:Eg k with
  |none=>rw[h1]at h;cases h
  |some t =>
   cases h2:oW r with
   |none=>rw[h1,h2]at h;cases h
   |some us =>
    rw[h1,h2]at h;cases h;rw[AQ h1,xh h2];rfl
def Dl:List D->Option D
 |[.dT ks _]=>match oW ks with
  |some ts=>if ts.length<=1000/\(∀k∈ts,k≠[]) then some (.lst ((lr ts).map kD)) else none
  |none=>none
 |_=>none
theorem Eo {ts:List (List Int)}{b:Bool}(h:∀k∈ts,k≠[])(l:ts.length<=1000):Dl [dP ts b]=some (.lst ((lr ts).map kD)):=by
 show (match oW (ts.map iK)with|some ts=>if ts.length<=1000/\(∀k∈ts,k≠[]) then some (D.lst ((lr ts).map kD)) else none|none=>none)=_
 rw[tm];exact if_pos ⟨l,h⟩
theorem xV {H:Hp}:∀{ts:List (List Int)} {vs:List V} {xs:List (List Key×Addr×Yc)},(ts.map iK).length=vs.length ->
  Paired (λ(p:List Key×V) (q:List Key×Addr×Yc)=>p.1=q.1/\H q.2.1=some (.tup (p.1.map kV))/\RelV p.2 q.2.2) ((ts.map iK).zip vs) xs->∃us:List (Addr×List Int),xs.map (λq=>Value.ref q.2.1)=us.map (λx=>Value.ref x.1)/\us.map (·.2)=ts/\∀u∈us,H u.1=some (.tup (u.2.map V.int))
 |[],vs,xs,_,p=>by cases p;exact⟨[],rfl,rfl,λ_ z=>(nomatch z)⟩
 |t::ts,[],xs,l,p=>by cases l
 |t::ts,v::vs,xs,l,p=>by
  cases p with
  |cons h r =>
   obtain⟨us,h1,h2,h3⟩:=xV (abj l) r
   rename_i q Lp
   refine⟨(q.2.1,t)::us,by rw[YA,YA,h1],by rw[YA,h2],λu hu=>?_⟩
   rcases Yi.mp hu with rfl|hu
   ·have:=h.2.1;rw[x_]at this;exact this
   ·exact h3 u hu
theorem sL {X:Cx} (hc:X.calm=true):DK X (.builtin "sorted") Dl:=by
 intro pins s σ H xs Xs Q I r h;obtain⟨W,ds,d,hd,r1,e,q⟩:=h
 match ds,e with
 |[.dT ks fs],e =>
  have e:(match oW ks with|some ts=>if ts.length<=1000/\(∀k∈ts,k≠[]) then some (D.lst ((lr ts).map kD)) else none|none=>none)=some d:=e
  cases hk:oW ks with
  |none=>rw[hk]at e;cases e
  |some ts =>
   rw[hk]at e;obtain⟨⟨hl,zS⟩,rfl⟩:=c_ e;have:=xh hk;subst this;obtain⟨x,rfl,p,vs,rfl,hp,Kc,nW,rs⟩:=qT r1;obtain⟨u,rfl,rx⟩:=vals1 r;cases rx;obtain⟨z,y,Lp,pr,o,es,ep,h1,h2,h3,h4,h5⟩:=(show bW X.prog X.w H s.heap p (.dT ((ts.map iK).zip vs)) from I.bV p _ hp)
   obtain⟨us,eu,ek,T⟩:=xV Kc pr;have T2:Gn H us:=λt ht=>⟨T t ht,zS _ (by rw[<- ek];exact YK.mpr ⟨t,ht,rfl⟩)⟩
   have ul:us.length=ts.length:=by rw[<- ek,Ye]
   have ev:es.toList.map (·.key)=us.map λx=>Value.ref x.1:=by
    rw[h4,Y8,<- eu];rfl
   have WX:es.size=us.length:=by
    have:=congrArg List.length ev;rw[Ye,Ye,Yp]at this;exact this
   refine TS.vK (vs:=us.map λx=>Value.ref x.1) (kf:=zK H) (by rw[Ye];lia) (λR hR=>Dk.sJ (es:=es) (ep:=ep) y ⟨o,h1,h2,h3⟩ (by rw[WX,ul,Zv];lia) (by simp[I.ok.hd hc]) λh' tk kp=>by rw[ev];exact hR h' tk kp) (Ei I.bV T2 (Yh _)) λout zU h' tk n G4 hs k1 kp FA=>?_
   ·obtain⟨e1,e2⟩:=zq T2 G4;have zl:out.length=us.length:=by rw[G4.length_eq,Ye]
    have eq:(out.map (Ki H)).map (·.2)=lr ts:=by
     refine Ib (by rw[<- ek];exact e2.map _) ?_
     refine ZD.mpr (ZD.mpr ?_);refine hs.imp_of_mem λ{x y} hx hy hh=>?_;obtain⟨t,ht,rfl⟩:=YK.mp (G4.mem_iff.mp hx);obtain⟨t',XJ,rfl⟩:=YK.mp (G4.mem_iff.mp hy);exact hh
    have I1:Inv X pins σ H {s with heap:=zU,toks:=s.toks}:=I.kept k1
    have FG:H zU.objs.size=none:=I1.bV.fresh (Yh _);have rk:aj X.prog X.w W H ((lr ts).map kD) ((out.map (Ki H)).map yR):=by rw[<- eq];exact pX λt ht=>(T2 t (e2.mem_iff.mp ht)).1
    refine⟨.ref zU.objs.size,_,I1.laid (t':=tk) (o:=.lst ((out.map (Ki H)).map yR)) kp (Yh _) ?_,rfl,q _ _ (ay.new FG) (Rp.kL hd FG rk) λf=>zC FG f rk⟩;refine⟨by rw[Ye,Ye,zl,ul,Zv];lia,out,n,?_,FA⟩
    have:=pY (out.map (Ki H));rw[<- e1]at this;exact this
end L2.Q
namespace L2
open PySem PySem.Spec PySem.SeqAt PyProof.Rows
theorem Dx:ZA "sum" = some (.builtin "sum"):=by decide +kernel
def D.int?:D->Option Int
 |.int i=>some i
 |_=>none
def D.zE:D->Option (List D)
 |.lst ds=>some ds
 |_=>none
theorem D.xY {d:D}{i:Int}(h:d.int?=some i):d=.int i:=by
 cases d <;> first|(cases h;rfl)|cases h
theorem D.mf {d:D}{ds:List D}(h:d.zE=some ds):d=.lst ds:=by
 cases d <;> first|(cases h;rfl)|cases h
def lK:List D->Option (List Int)
 |[]=>some []
 |d::ds=>d.int?.bind λi=>(lK ds).map (i::·)
theorem oE:∀{ds:List D} {ns:List Int},lK ds=some ns->ds=ns.map D.int
 |[],_,h=>by cases h;rfl
 |d::ds,ns,h=>by
  obtain⟨i,h1,h2⟩:=Y6.mp h;obtain⟨ms,h3,rfl⟩:=Yt.mp h2;rw[D.xY h1,oE h3];rfl
theorem k9:∀ns:List Int,lK (ns.map D.int)=some ns
 |[]=>rfl
 |n::ns=>by
  show (some n).bind (λi=>(lK (ns.map D.int)).map (i::·))=_;rw[k9 ns];rfl
def mq (f:List Int->Option Int):List D->Option D
 |[d]=>d.zE.bind λds=>(lK ds).bind λns=>(f ns).map D.int
 |_=>none
theorem wM {f:List Int->Option Int}{ds:List D}{d:D}(h:mq f ds=some d):∃ns i,ds=[.lst (ns.map D.int)]/\f ns=some i/\d=.int i:=by
 cases ds with
 |nil=>cases h
 |cons x r =>
  cases r with
  |cons _ _=>cases h
  |nil =>
   obtain⟨es,h1,h2⟩:=Y6.mp h;obtain⟨ns,h3,h4⟩:=Y6.mp h2;obtain⟨i,h5,rfl⟩:=Yt.mp h4;exact⟨ns,i,by rw[D.mf h1,oE h3],h5,rfl⟩
theorem wL {f:List Int->Option Int}{ns:List Int}{i:Int}(h:f ns=some i):mq f [.lst (ns.map D.int)]=some (.int i):=by
 show (some (ns.map D.int)).bind (λds=>(lK ds).bind λns=>(f ns).map D.int)=_;rw[ZJ,k9,ZJ,h];rfl
section
variable {X:Cx}
theorem mC:∀{ns:List Int} {us:List Yc},Vals (ns.map V.int) us->∃xs:Array (Int×Tok),us.toArray=intItems xs/\xs.toList.map (·.1)=ns
 |[],_,h=>by cases h;exact⟨#[],by simp[intItems],rfl⟩
 |n::ns,_,h=>by
  cases h with
  |cons h1 h2 =>
   obtain⟨t,rfl⟩:=h1;obtain⟨xs,e1,e2⟩:=mC h2;refine⟨⟨(n,t)::xs.toList⟩,?_,by simp[e2]⟩
   have:=congrArg Array.toList e1;simp[intItems]at this ⊢
   exact this
theorem qO (hc:X.calm=true):c5 X (.builtin "sum") (mq λns=>some ns.sum):=by
 intro pins s σ H xs us Q I r h;obtain⟨W,ds,d,hd,r1,e,q⟩:=h;obtain⟨ns,i,rfl,e1,rfl⟩:=wM e;cases e1;obtain⟨x,rfl,p,vs,rfl,h1,n1,q1⟩:=qT r1;obtain⟨u,rfl,ru⟩:=vals1 r;cases ru;rw[bq q1]at h1;obtain⟨its,r2,ht,hz⟩:=I.list (dh.of h1);obtain⟨ys,e1,e2⟩:=mC r2;refine sum_intListG (I.ok.hd hc) (xs:=ys) (by rw[<- e1];exact ht.isList) λh' tk t' k=>⟨.int ns.sum,H,I.kept k,⟨t',?_⟩,q _ _ (ay.refl _) rfl⟩
 rw[preSum_eq,ZS (by simp),e2]
end
end L2
namespace L2.Q
open PySem PySem.Spec PySem.SeqAt PyProof.Rows
def dA (kvs:List (List Int×D)):D:=.dT (kvs.map λp=>iK p.1) (kvs.map (·.2))
def gD (kvs:List (List Int×D))(t:List Int):Option D:=(kvs.find? λp=>decide (p.1=t)).map (·.2)
def _root_.L2.D.MG:D->Option (List (List Key)×List D)
 |.dT ks ds=>some (ks,ds)
 |_=>none
theorem Fp {d:D}{ks:List (List Key)}{ds:List D}(h:d.MG=some (ks,ds)):d=.dT ks ds:=by
 cases d <;> first|(cases h;rfl)|cases h
def vE (ks:List (List Key))(ds:List D)(k:List Key):Option D:=((ks.zip ds).find? λp=>decide (p.1=k)).map (·.2)
theorem Fm {d:D}{es:List D}(h:d.Fn=some es):d=.tup es:=by
 cases d <;> first|(cases h;rfl)|cases h
def F7 (a b:D):Option ((List (List Key)×List D)×List Int):=a.MG.bind λp=>b.Fn.bind λes=>(lK es).map λt=>(p,t)
theorem F6 {a b:D}{ks:List (List Key)}{ds:List D}{t:List Int}(h:F7 a b=some ((ks,ds),t)):a=.dT ks ds/\b=.tup (t.map D.int):=by
 obtain⟨p,h1,h2⟩:=Y6.mp h;obtain⟨es,h3,h4⟩:=Y6.mp h2;obtain⟨t',h5,h6⟩:=Yt.mp h4;cases h6;exact⟨Fp h1,by rw[Fm h3,oE h5]⟩
theorem F5 {kvs:List (List Int×D)}{t:List Int}:F7 (dA kvs) (.tup (t.map D.int))=some ((kvs.map λp=>iK p.1,kvs.map (·.2)),t):=by
 show (some _).bind (λp=>(some (t.map D.int)).bind λes=>(lK es).map λt=>(p,t))=_;rw[ZJ,ZJ,k9];rfl
theorem vD {t:List Int}:∀{kvs:List (List Int×D)},vE (kvs.map λp=>iK p.1) (kvs.map (·.2)) (iK t)=gD kvs t
 |[]=>rfl
 |p::kvs=>by
  have ih:=vD (t:=t) (kvs:=kvs);unfold vE gD at *
  rw[YA,YA,Zt,ZV,ZV]
  by_cases h:p.1=t
  ·rw[decide_eq_true (congrArg iK h),decide_eq_true h];rfl
  ·rw[decide_eq_false (λz=>h (CD z)),decide_eq_false h];exact ih
def qJ (a b:D):Option D:=(F7 a b).bind λz=>vE z.1.1 z.1.2 (iK z.2)
theorem F_ {kvs:List (List Int×D)}{t:List Int}:qJ (dA kvs) (.tup (t.map D.int))=gD kvs t:=by
 unfold qJ;rw[F5,ZJ];exact vD
section
variable {P:Yk}{w:YB}{W:Addr->Prop}{H:Hp}
theorem rE {k:List Key}:∀{ks:List (List Key)} {ds:List D} {vs:List V},ks.length=vs.length->aj P w W H ds vs->(gw (ks.zip vs) k).isSome=(vE ks ds k).isSome/\∀d,vE ks ds k=some d->∃v,gw (ks.zip vs) k=some v/\aB P w W H d v
 |[],ds,vs,_,_=>by
  unfold gw vE;rw[aar,aar];exact⟨rfl,λd h=>by cases h⟩
 |k'::ks,[],_,l,h=>by rw[show _=([]:List V) from h]at l;cases l
 |k'::ks,d::ds,_,l,⟨v,r,e,h1,h2⟩=>by
  subst e;obtain⟨i1,i2⟩:=rE (k:=k) (ks:=ks) (abj l) h2;unfold gw vE at *
  rw[Zt,Zt,ZV,ZV]
  by_cases hk:k'=k
  ·rw[decide_eq_true hk];exact⟨rfl,λd' e=>by cases e;exact⟨v,rfl,h1⟩⟩
  ·rw[decide_eq_false hk];exact⟨i1,i2⟩
end
section
variable {X:Cx}
theorem Jz {W:Addr->Prop}{H:Hp}{a b:D}{x y:V}{ks:List (List Key)}{ds:List D}{t:List Int}(h:F7 a b=some ((ks,ds),t))(r1:Rp X W H a x)(r2:Rp X W H b y):∃p vs,x=.ref p/\Ar H p y (gw (ks.zip vs) (iK t))/\ks.length=vs.length/\aj X.prog X.w W H ds vs:=by
 obtain⟨rfl,rfl⟩:=F6 h;obtain⟨p,vs,rfl,e1,l,n,rs⟩:=r1;obtain⟨q,us,rfl,e2,rt⟩:=r2;rw[L2.bq rt]at e2;exact⟨p,vs,rfl,Ar.t e1 (by rw[x_];exact e2),l,rs⟩
theorem lF (hu:X.A.units+1<aan):Hv X (Bk X qJ NF):=by
 intro value slice pins s σ H x y v u Q I rx ry h hs;obtain⟨W,d1,d2,d,hd,r1,r2,e,q⟩:=h;obtain⟨⟨⟨ks,ds⟩,t⟩,h1,h2⟩:=Y6.mp e;obtain⟨p,vs,rfl,g,l,rs⟩:=Jz h1 r1 r2;obtain⟨w',hw,DO⟩:=(rE l rs).2 d h2;rw[hw]at g;cases (show v=Value.ref p from rx)
 exact tail_any (uV I g) PySem.F.slot_dict_getitem.lookup (z9 hu I g ry λu' s' I' r'=>⟨w',H,I',r',q w' H (ay.refl _) DO λf=>aB.flat f DO⟩) hs
end
theorem BN {P:Yk}{w:YB}{H:Hp}{kvs:List (List Int×D)}{a:Addr}{vs:List V}{A:List Addr}(h:H a=some (.dT ((kvs.map λp=>iK p.1).zip vs)))(o:aP P w H (kvs.map (·.2)) vs A):Own P w H (dA kvs) (.ref a) (a::A) :=
 ⟨a,vs,A,rfl,h,by rw[Ye,o.length,Ye],rfl,o⟩
theorem HJ {P:Yk}{w:YB}{H:Hp}{kvs:List (List Int×D)}{vs:List V}{A:List Addr}{t:List Int}(o:aP P w H (kvs.map (·.2)) vs A)(h:gD kvs t=none):gw ((kvs.map λp=>iK p.1).zip vs) (iK t)=none:=by
 have:=(rE (k:=iK t) (ks:=kvs.map λp=>iK p.1) (W:=λ_=>False) (by rw[Ye,o.length,Ye]) (o.rep λc _ z=>z)).1
 rw[vD,h]at this;exact Option.isNone_iff_eq_none.mp (by rw[<- Option.not_isSome,this];rfl)
section
variable {X:Cx}{C:Cfg}{k e:Expr}{φ φk:aV}{i:Nat}{x:Str}{pos pos' px:Pos}{p pk:Bool}
theorem BE:PQ X C true (.Dict [] [] pos) (λβ R=>R (dA []) .own β) :=
 ⟨λβ R R' k h=>k _ _ _ h,tW.pre λσ H Q h p hp=>by
  obtain⟨β,own,s,q⟩:=h;refine q _ _ own ((Out.refl s _).same (ay.new hp)) ⟨[p],BN (kvs:=[]) (vs:=[]) az ⟨rfl,rfl⟩,by simp,λc hc=>?_⟩
  rw[Ys.mp hc];exact⟨hp,λz=>s.wK p z hp,Y1 λz=>s.i8 p z hp⟩⟩
theorem xI (hu:X.A.units+1<aan)(he:∀U,PQ X (C.u U) p e φ)(hk:∀U,PQ X (C.u U) pk k φk)(hN:X.N[i]?=some x:=by rfl)(hv:yI X.env.scope x:=by first|exact .inl rfl|exact .inr (.inl rfl)|exact .inr (.inr rfl))(hd:(x==("__debug__" : Str))=false:=by decide)(i7:(x==("__classdict__" : Str))=false:=by decide)
  (hs:aaa e (some (.Subscript (.Name x px) k pos')) pos.line X.env=pure false:=by rfl) :
  PB X C (.Assign [.Subscript (.Name x px) k pos'] e pos) (λE β=>φ β λd kd β1=>DP kd d/\(∃kvs,β1[i]?=some (some (.own (dA kvs))))/\φk β1 λjd _ β2=>∃kvs t,jd=.tup (t.map D.int)/\β2[i]?=some (some (.own (dA kvs)))/\gD kvs t=none/\kvs.length<Yy/\E.nx (β2.set i (some (.own (dA (kvs++[(t,d)])))))):=by
 refine⟨λE E' β l q=>(he λ_=>False).mono _ _ _ (λd kd β1 h=>by obtain⟨f,h0,q⟩:=h;exact⟨f,h0,(hk λ_=>False).mono _ _ _ (λjd _ β2 h=>by obtain⟨kvs,t,h1,h2,h3,h4,q⟩:=h;exact⟨kvs,t,h1,h2,h3,h4,l.nx _ q⟩) q⟩) q,λpins s σ H De I ⟨Z,E,β,⟨own,sq,n⟩,q,ok⟩=>?_⟩
 refine xC hu (fg (pos:=px) hN hv hd i7) (hk λa=>H a=none).pe (he λa=>H a=none).pe hs pins s σ H De I ?_;refine tQ.of (he λa=>H a=none) (sq.tj (C:=C.z) (U:=λa=>H a=none) λa z=>z) q λd kd β1 v H1 aG ⟨f,⟨VN,K_⟩,q⟩ o r=>?_;obtain⟨v0,Aw,Vw,_⟩:=o.sq.ow i _ K_;refine⟨v0,Aw,tQ.of (hk λa=>H a=none) o.sq q λjd kj β2 jv H2 a5 ⟨kvs,t,e1,hb,hn,hl,q⟩ o2 r2=>?_⟩;subst e1;obtain⟨A,r1,rn,r3⟩:=(r.fl f).held (by intro z;cases z) o2.sn
 obtain⟨v1,CJ,ow,h0⟩:=o2.sq.ow i _ hb;rw[Aw]at CJ;cases CJ;obtain⟨a,vs,A',rfl,ha,l,eA,os⟩:=ow;obtain⟨b,us,rfl,K9,rt⟩:=r2.rep;rw[L2.bq rt]at K9;have G6:a∈a5 i:=by rw[eA];simp
 have nd:=o2.sq.rZ i;rw[eA]at nd;have J9:putK ((kvs.map λp=>iK p.1).zip vs) (iK t) v=((kvs++[(t,d)]).map λp=>iK p.1).zip (vs++[v]):=by
  rw[Bp v (HJ os hn),YN,List.zip_append l];rfl
 refine⟨a,_,rfl,.inr ⟨_,iK t,b,ha,rfl,by rw[x_];exact K9,by rw[List.length_zip,<- l,Nat.min_self,Ye];exact hl,rfl⟩,?_⟩
 have kt:∀c xs,H2 c=some (.tup xs)->upd H2 a (.dT (putK ((kvs.map λp=>iK p.1).zip vs) (iK t) v)) c=some (.tup xs):=λc xs z=>by rw[aw (λz'=>by rw[z',ha]at z;cases z)];exact z
 have T4:∀c∈A',c≠a:=λc hc z=>(YV.mp nd).1 (z▸hc);have nA:∀c∈A,c≠a:=λc hc z=>(r3 c hc).2.1 ⟨i,by rw[z];exact G6⟩
 have r':Own X.prog X.w (upd H2 a (.dT (putK ((kvs.map λp=>iK p.1).zip vs) (iK t) v))) (dA (kvs++[(t,d)])) (.ref a) (a::(A'++A)):=by
  refine BN (vs:=vs++[v]) (by rw[az,J9]) ?_
  rw[YN];exact(os.keep kt λc hc oc z=>by rw[aw (T4 c hc)];exact z).append (aP.one (r1.keep kt λc hc oc z=>by rw[aw (nA c hc)];exact z))
 have VB:(a::(A'++A)).Nodup:=by
  refine YV.mpr ⟨λz=>?_,Zq.mpr ⟨(YV.mp nd).2,rn,λc hc c' oP z=>(r3 c' oP).2.1 ⟨i,by rw[eA,<- z];simp[hc]⟩⟩⟩
  rcases YL.mp z with z|z
  ·exact T4 a z rfl
  ·exact nA a z rfl
 have hA:∀c∈a::(A'++A),c∈a5 i\/(C.H0 c=none/\¬ Wn a5 c/\(λa=>H a=none) c):=λc hc=>by
  rcases Yi.mp hc with rfl|hc
  ·exact .inl G6
  ·rcases YL.mp hc with hc|hc
   ·exact .inl (by rw[eA];simp[hc])
   ·exact .inr ⟨(r3 c hc).2.2,(r3 c hc).2.1,(r3 c hc).1⟩
 exact ok.nx _ _ _ ⟨_,o2.sq.Ez (C:=C) (U:=λa=>H a=none) (U2:=λ_=>False) hb Aw G6 r' VB hA (λ_ z=>z.elim) (λ_ _ z=>z),rm (C:=C) ((n.trans o.sn).trans o2.sn) (λb z=>n.free z) ⟨i,G6⟩ ⟨_,ha,λxs z=>by cases z⟩ hA⟩ q
end
end L2.Q
namespace L2
open PySem PySem.Spec PySem.SeqAt PyProof.Rows
def P4 (lo:Int)(n:Nat):It:=⟨λi _=>i<n,λi H x H'=>H'=H/\x=.int (lo-i),λi _=>n<=i⟩
theorem tp {P:Yk}{w:YB}{K:PySem.W.Frag}{tg:Expr}(it:Addr)(lo:Int)(n:Nat):Turn P w K tg (P4 lo n) [it] it (λi h=>IsRangeIter h it (lo+(i:Nat)*(-1)) ((n:Int)-(i:Nat)) (-1)) where
 mem:=by simp
 obj:=λi h st b hb=>by
  have e:b=it:=by simpa using hb
  subst e;exact⟨_,st,λv z=>by
   have z':Data.fields _=Data.cell v:=z;cases z'⟩
 keep:=λi h h' st k=>k it (by simp) _ st
 item:=by
  intro X hP hw hK hc i pins s σ H E I hf st hg;subst hP hw hK;obtain⟨f0,f1,f2,f3,f4,f5⟩:=hf it (by simp)
  have W:=Walks.range (prog:=X.prog) (w:=X.w) (I.ok.hd hc) it lo (-1) n;refine W.item i s _ _ hg st λv h' tk hv aC kk=>?_;obtain⟨t,rfl⟩:=hv;have I1:Inv X pins σ H {s with heap:=h',toks:=tk}:=I.turned (λb o hb e=>kk b o (by simpa using hb) e) f0 f1 f3 f4 f5
  refine⟨_,rfl,CW (s:={s with heap:=h',toks:=tk}) (n:="range_iterator") aC rfl rfl (by decide) ⟨.int (lo-i),H,I1,⟨t,?_⟩,⟨rfl,rfl⟩,aC,λb hb=>(hf b hb).1⟩⟩
  rw[Int.mul_neg,Int.mul_one];rfl
 done:=by
  intro X hP hw hK hc i pins s σ H E I hf st hg;subst hP hw hK;obtain⟨f0,f1,f2,f3,f4,f5⟩:=hf it (by simp)
  exact wpAny_pyNext_range_end (I.ok.hd hc) st (by have:n<=i:=hg;lia) λh' eb=>⟨rfl,I.turned (t':=s.toks) (λb o hb e=>eb b o hb e) f0 f1 f3 f4 f5⟩
 self:=λ_ _ _ _ _ st h=>wpAny_pyIter_rangeiter st h
theorem iy (a b:Int):aa1 a b (-1)=if b<a then a-b else 0:=by
 unfold aa1;rw[if_neg (by decide)]
 by_cases h:b<a
 ·rw[if_pos h,if_pos h,show -(-1:Int)=1 by decide,Int.ediv_one];lia
 ·rw[if_neg h,if_neg h]
theorem yW {a b:Int}(ha:-(2 ^ 62)<=a)(PJ:a<2 ^ 62)(hb:-(2 ^ 62)<=b)(ij:b<2 ^ 62):Builtin.Range.small a b (-1)=true:=by
 unfold Builtin.Range.small;rw[iy];simp only[Builtin.Range.rangeFitsLong,Zi,Bool.or_eq_true,decide_eq_true_eq,beq_iff_eq,show ¬ ((-1:Int)>0) by decide,if_false]
 split <;> lia
section
variable {X:Cx}{tg:Expr}
theorem ze {pins:List (Addr×Obj)}{σ:St}{H:Hp}{s:Yg}{R:It->Hp->Prop}{E:Yc->Yg->Prop}{lo hi:Int}{t u v:Tok}{tk:Nat}(I:Inv X pins σ H s)(h1:-(2 ^ 62)<=lo)(h2:lo<2 ^ 62)(h3:-(2 ^ 62)<=hi)(h4:hi<2 ^ 62)
  (q:R (P4 lo (lo-hi).toNat) H):YM (model X.prog X.w) X.A (pyIter (.ref s.heap.objs.size)) (P0 X pins σ tg R) E {s with heap:=s.heap.push {cls:=.type "range",data:=.fields #[.int lo t,.int hi u,.int (-1) v]},toks:=tk}:=by
 refine wpAny_pyIter_range (IsRange.new ..) (yW h1 h2 h3 h4) ?_;have I1:Inv X pins σ H {s with heap:=s.heap.push {cls:=.type "range",data:=.fields #[.int lo t,.int hi u,.int (-1) v]},toks:=tk}:=I.kept λb o e=>Yv _ e
 refine⟨(s.heap.push {cls:=.type "range",data:=.fields #[.int lo t,.int hi u,.int (-1) v]}).objs.size,[(s.heap.push {cls:=.type "range",data:=.fields #[.int lo t,.int hi u,.int (-1) v]}).objs.size],_,_,H,rfl,
  I1.kept (t':=tk) λb o e=>Yv _ e,tp _ lo (lo-hi).toNat,?_,λb hb=>?_,q⟩
 ·have e1:lo+((0:Nat):Int)*(-1)=lo:=by simp
  have e2:(((lo-hi).toNat:Nat):Int)-((0:Nat):Int)=aa1 lo hi (-1):=by rw[iy];split <;> lia
  show IsRangeIter _ _ (lo+((0:Nat):Int)*(-1)) ((((lo-hi).toNat:Nat):Int)-((0:Nat):Int)) (-1);rw[e1,e2];exact Y0 _ rfl
 ·have e:b=(s.heap.push {cls:=.type "range",data:=.fields #[.int lo t,.int hi u,.int (-1) v]}).objs.size:=by simpa using hb
  subst e;exact I1.C1 (Yh _) (I1.bV.fresh (Yh _))
def MH (ta:TA):TI:=λσ H R=>ta σ H λvs H1=>∃i j:Int,vs=[.int i,.int j,.int (-1)]/\(-(2 ^ 62)<=i/\i<2 ^ 62/\-(2 ^ 62)<=j/\j<2 ^ 62)/\R (P4 i (i-j).toNat) H1
theorem zk {a b c:Expr} {ta:TA} {p pos:Pos} (hg:Gl X "range") (hm:X.mg "range" = none) (ha:PA X [a,b,c] ta) (hs:YG [a,b,c] X.env=[(false,eval a X.env),(false,eval b X.env),(false,eval c X.env)]:=by rfl) (sS:YG [b,c] X.env=[(false,eval b X.env),(false,eval c X.env)]:=by rfl) :
  PI X tg (.Call (.Name "range" p) [a,b,c] [] pos) (MH ta):=by
 intro pins s σ H R I h;refine Call_ (kP I hg hm boot_range (Z7 (bF (ha pos pins s σ H _ I h) λus s1 ⟨vs,H1,I1,r1,q1⟩=>?_) (by rw[hs,sS]) (by rw[sS];rfl)))
 obtain⟨i,j,e,⟨q1,q2,q3,q4⟩,q⟩:=q1;subst e;cases r1 with
 |cons r rr =>
  cases rr with
  |cons r' rr =>
   cases rr with
   |cons Pc rr =>
    cases rr;obtain⟨t,rfl⟩:=r;obtain⟨t',rfl⟩:=r';obtain⟨Xw,rfl⟩:=Pc;exact call_range_3 (by decide) (ze I1 q1 q2 q3 q4 q) (.inl (PyProof.noPylong_of_log2 (by decide +kernel)))
def zd (hi:Int)(n:Nat):List D:=(YF n).map λ(k:Nat)=>D.int (hi-(k:Int))
theorem mZ {hi:Int}{n i:Nat}{d:D}(h:(zd hi n)[i]?=some d):i<n/\d=.int (hi-i):=by
 unfold zd at h;rw[Yu]at h
 by_cases hi:i<n
 ·rw[Z6 hi]at h;cases h;exact⟨hi,rfl⟩
 ·rw[Zk (by simpa using hi)]at h;cases h
theorem mY {hi:Int}{n:Nat}:(zd hi n).length=n:=by unfold zd;simp
theorem wo {W:Addr->Prop}{H:Hp}{lo:Int}{n:Nat}:Ao X W (P4 lo n) (zd lo n) H:=λ_ _ i H' k=>by
 constructor
 ·intro d hd;obtain⟨hi,rfl⟩:=mZ hd;refine⟨hi,λx H1 y=>?_⟩;obtain⟨rfl,rfl⟩:=y;exact⟨ay.refl _,rfl⟩
 ·intro hl;rw[mY]at hl;exact hl
end
end L2
namespace L2.Q
open PySem PySem.Spec PySem.SeqAt PyProof.Rows
section
variable {X:Cx}{C:Cfg}{tg a b c:Expr}{φs:cV}{p:Bool}{pp pos:Pos}
def Fs (φs:cV):eI:=λβ R=>φs β λds _ β'=>∃i j:Int,ds=[.int i,.int j,.int (-1)]/\(-(2 ^ 62)<=i/\i<2 ^ 62/\-(2 ^ 62)<=j/\j<2 ^ 62)/\R (zd i (i-j).toNat) .gj β'
theorem OM {W:Addr->Prop}{H:Hp}{a b c:D}{xs:List V}(h:lM X W H [a,b,c] xs):∃x y z,xs=[x,y,z]/\Rp X W H a x/\Rp X W H b y/\Rp X W H c z:=by
 obtain⟨x,r,rfl,hx,y,r',rfl,hy,z,Pc,rfl,hz,hr⟩:=h;cases hr;exact⟨x,y,z,rfl,hx,hy,hz⟩
theorem m9 (hm:X.mg "range" = none) (ha:vz X C p [a,b,c] φs) (hg:Gl X "range" := by rfl) (hs:YG [a,b,c] X.env=[(false,eval a X.env),(false,eval b X.env),(false,eval c X.env)]:=by rfl) (sS:YG [b,c] X.env=[(false,eval b X.env),(false,eval c X.env)]:=by rfl) :
  DH X C p tg (.Call (.Name "range" pp) [a,b,c] [] pos) (Fs φs) :=
 ⟨λβ R R' k q=>ha.mono β _ _ (λd kd β' h=>by obtain⟨i,j,e,h1,q⟩:=h;exact⟨i,j,e,h1,k _ _ _ q⟩) q,(zk hg hm ha.pa hs sS).pre λσ H R h=>by
  obtain⟨β,own,s,q⟩:=h;refine xl.of ha s q λds ks β' vs H1 aG h o1 r1=>?_;obtain⟨i,j,e,h1,q1⟩:=h;subst e;obtain⟨x,y,z,rfl,hx,hy,hz⟩:=OM r1.kz;cases hx;cases hy;cases hz;exact⟨i,j,rfl,h1,q1 _ _ aG o1 wo⟩⟩
end
structure UN (X:Cx)(C:Cfg)(tg iter:Expr)(ι:eI):Prop where
 mono:∀β R R',(∀d k β,R d k β->R' d k β)->ι β R->ι β R'
 pi:PI X tg iter λσ H R=>∃β own,SQ X C σ H β own/\ι β λds k β'=>∀J H',ay H H'->SQ X C σ H' β' own->Ao X (iI C (Wn own) k) J ds H'->R J H'
section
variable {X:Cx}{C:Cfg}{tg a b:Expr}{φs:cV}{pp pos:Pos}{i:Nat}{x:Str}
theorem vX (hm:X.mg "range" = none) (ha:vz X C true [a,b] φs) (hg:Gl X "range" := by rfl) (hs:YG [a,b] X.env=[(false,eval a X.env),(false,eval b X.env)]:=by rfl) (sS:YG [b] X.env=[(false,eval b X.env)]:=by rfl) :
  UN X C tg (.Call (.Name "range" pp) [a,b] [] pos) (xZ φs) :=
 ⟨λβ R R' k q=>ha.mono β _ _ (λd kd β' h=>by obtain⟨i,j,e,h1,q⟩:=h;exact⟨i,j,e,h1,k _ _ _ q⟩) q,(qd hg hm ha.pa hs sS).pre λσ H R h=>by
  obtain⟨β,own,s,q⟩:=h;refine xl.of ha s q λds ks β' vs H1 aG h o1 r1=>?_;obtain⟨i,j,e,h1,q1⟩:=h;subst e;obtain⟨s1,rfl⟩:=o1.pu rfl;obtain⟨x,y,rfl,hx,hy⟩:=yF r1.kz;cases hx;cases hy;exact⟨i,j,rfl,h1,q1 _ _ s1 o1.sq kS⟩⟩
end
structure SC (X:Cx)(C:Cfg)(W0:Addr->Prop)(T:List Nat)(σ0:St)(H1:Hp)(a:Addr)(Hb:Hp)(Wb:Addr->Prop)(Ac:Hp->Prop)(β:a8)(σ':St)(H':Hp)(own:Nat->List Addr):Prop where
 sq:SQ X (C.u λc=>c=a) σ' H' β own
 sn:Sn (H1,W0) H' (Wn own)
 le:∀c,Wn own c->Wb c
 ac:Ac H'
 pu:ay H1 H'
 bs:∀b ob,b≠a->Hb b=some ob->H' b=some ob
 st:∀j,j∉T->σ'[j]?=σ0[j]?
abbrev w9 {α:Type}(X:Cx)(C:Cfg)(W0:Addr->Prop)(T:List Nat)(σ0:St)(H1:Hp)(a:Addr)(Hb:Hp)(Wb:Addr->Prop)(Ac:α->Hp->Prop)(β:a8)(o:α)(σ':St)(H':Hp):Prop:=∃own,SC X C W0 T σ0 H1 a Hb Wb (Ac o) β σ' H' own
structure DM {α:Type}(a:Addr)(Ac:α->Hp->Prop):Prop where
 same:∀o H H',ay H H'->Ac o H->Ac o H'
 Md:∀o H xs,Ac o H->H a≠some (.tup xs)
abbrev Lr (X:Cx)(C:Cfg)(a:Addr)(T:List Nat)(γ:fu):TG:=λv σ H Q=>∃own β d k,SQ X (C.u λc=>c=a) σ H β own/\Rp X (iI (C.u λc=>c=a) (Wn own) k) H d v/\γ d k β λβ'=>∀σ' aS,SQ X (C.u λc=>c=a) σ' H β' aS->(∀a,Wn aS a->Wn own a)->(∀j,j∉T->σ'[j]?=σ[j]?)->Q σ' H
abbrev Ts (X:Cx)(C:Cfg)(a:Addr)(φ:aV):pL:=λN σ H=>tQ X (C.u λc=>c=a) true φ σ H λv H1=>∃xs,H1 a=some (.lst xs)/\xs.length<Yy/\N σ (upd H1 a (.lst (xs++[v])))
section
variable {α:Type}{X:Cx}{C:Cfg}{W0:Addr->Prop}{T Tg:List Nat}{σ0:St}{H1:Hp}{a:Addr}{Hb:Hp}{Wb:Addr->Prop}{γ:fu}{τ:bc}{φ:aV}{Ac:α->Hp->Prop}
theorem SC.next {o:α}(hA:DM a Ac){β β':a8}{σ σ':St}{H H':Hp}{own aS:Nat->List Addr}(s:SC X C W0 T σ0 H1 a Hb Wb (Ac o) β σ H own)(sq:SQ X (C.u λc=>c=a) σ' H' β' aS)(w:∀c,Wn aS c->Wn own c)(sm:ay H H')(t:∀j,j∉T->σ'[j]?=σ[j]?):
  SC X C W0 T σ0 H1 a Hb Wb (Ac o) β' σ' H' aS :=
 ⟨sq,jr (s.sn.same sm) w,λc z=>s.le c (w c z),hA.same o _ _ sm s.ac,s.pu.trans sm,λb ob n e=>sm _ _ (s.bs b ob n e),λj hj=>(t j hj).trans (s.st j hj)⟩
theorem SC.put {A:Hp->Prop}{A':Hp->Prop}(h0:C.H0 a=none)(ha:H1 a=none){β:a8}{σ:St}{H:Hp}{own:Nat->List Addr}{oa ob:HO}(s:SC X C W0 T σ0 H1 a Hb Wb A β σ H own)(e:H a=some oa)(nt:∀xs,oa≠.tup xs)(q:A' (upd H a ob)):
  SC X C W0 T σ0 H1 a Hb Wb A' β σ (upd H a ob) own:=by
 refine⟨s.sq.LL e nt h0,⟨s.sn.w,s.sn.k.trans ((nO e nt).mono λb z=>.inr (by rw[z];exact ha)),λb z e=>?_⟩,s.le,q,λb o e=>?_,λb o n e=>?_,s.st⟩
 ·by_cases hb:b=a
  ·rw[hb,az]at e;cases e
  ·rw[aw hb]at e;exact s.sn.d b z e
 ·rw[aw (λz'=>by rw[z',ha]at e;cases e)]
  exact s.pu b o e
 ·rw[aw n];exact s.bs b o n e
def P_ (P:Yk)(w:YB)(H1:Hp)(a:Addr)(o:List D)(H:Hp):Prop:=∃vs A,H a=some (.lst vs)/\aP P w H o vs A/\A.Nodup/\∀c∈A,H1 c=none/\c≠a
theorem w6 {P:Yk}{w:YB}:DM a (P_ P w H1 a):=⟨λo H H' s h=>by
  obtain⟨vs,A,h1,h2,h3,h4⟩:=h;exact⟨vs,A,s _ _ h1,h2.keep (λb xs e=>s _ _ e) λc _ oc e=>s _ _ e,h3,h4⟩,λo H xs h z=>by
  obtain⟨vs,A,h1,_⟩:=h;rw[h1]at z;cases z⟩
def Hf (φ:aV)(o:List D)(β:a8)(N:a8->List D->Prop):Prop:=φ β λx kx β3=>DP kx x/\o.length<Yy/\N β3 (o++[x])
theorem Ew (h0:C.H0 a=none)(ha:H1 a=none)(φm:∀β R R',(∀d k β,R d k β->R' d k β)->φ β R->φ β R'){β:a8}{o:List D}{σ:St}{H:Hp}{N:a8->List D->Prop}(s:w9 X C W0 T σ0 H1 a Hb Wb (P_ X.prog X.w H1 a) β o σ H)(q:Hf φ o β N):
  Ts X C a φ (λσ' H'=>∃β' o',w9 X C W0 T σ0 H1 a Hb Wb (P_ X.prog X.w H1 a) β' o' σ' H'/\N β' o') σ H:=by
 obtain⟨own,s⟩:=s;refine⟨β,own,s.sq,φm _ _ _ (λxd kx β6 ⟨f,hz,q⟩ v H6 IM o6 r6=>?_) q⟩;obtain⟨sm,rfl⟩:=o6.pu rfl;have s6:=s.next w6 (o6.sq) (λ_ z=>z) sm (λ_ _=>rfl)
 obtain⟨B',r1,r2,r3⟩:=r6.fl f;obtain⟨vs,A,at',os,nd,nw⟩:=s.ac;have uC:H6 a=some (.lst vs):=sm _ _ at';have Mi:∀c∈B',c≠a:=λc hc z=>by rw[z]at hc;exact absurd (at'.symm.trans (r3 a hc).1) (λz=>(nomatch z))
 have kt:∀b xs,H6 b=some (.tup xs)->upd H6 a (.lst (vs++[v])) b=some (.tup xs):=λb xs z=>by rw[aw (λz'=>by rw[z',uC]at z;cases z)];exact z
 refine⟨vs,uC,by rw[os.length];exact hz,β6,o++[xd],⟨IM,s6.put h0 ha uC (λxs z=>by cases z) ⟨vs++[v],A++B',az,?_,?_,λc hc=>?_⟩⟩,q⟩
 ·exact(os.keep (λb xs e=>kt b xs (sm _ _ e)) λc hc oc e=>by rw[aw (nw c hc).2];exact sm _ _ e).append (aP.one (r1.keep kt λc hc oc e=>by rw[aw (Mi c hc)];exact e))
 ·refine Zq.mpr ⟨nd,r2,λx hx y hy e=>?_⟩;subst e;exact(os.oS x hx).1 (r3 x hy).1
 ·rcases YL.mp hc with hc|hc
  ·exact nw c hc
  ·exact⟨s.sn.free (r3 c hc).1,Mi c hc⟩
def nH {α:Type}(γ:fu)(τ:bc)(Af:α->a8->(a8->α->Prop)->Prop)(ds:List D)(k:Kd)(β0:a8)(o0:α)(F:a8->α->Prop):Prop:=∃I:Nat->a8->α->Prop,I 0 β0 o0 /\
 (∀i d β o,ds[i]?=some d->I i β o->γ d (sk k d) β λβ1=>τ β1 λt β2=>if t=true then Af o β2 (I (i+1)) else I (i+1) β2 o)/\∀β o,I ds.length β o->F β o
theorem nH.mono {Af:α->a8->(a8->α->Prop)->Prop}{ds:List D}{k:Kd}{β0:a8}{o0:α}{F F':a8->α->Prop}(h:∀β o,F β o->F' β o)(q:nH γ τ Af ds k β0 o0 F):nH γ τ Af ds k β0 o0 F':=by
 obtain⟨I,h0,h1,h2⟩:=q;exact⟨I,h0,h1,λβ o z=>h _ _ (h2 β o z)⟩
theorem xu (hA:DM a Ac)(hT:∀j∈Tg,j∈T)(γm:∀d k β R R',(∀r,R r->R' r)->γ d k β R->γ d k β R')(τm:∀β R R',(∀d β,R d β->R' d β)->τ β R->τ β R'){J:It}{ds:List D}{k:Kd}{Af:α->a8->(a8->α->Prop)->Prop}{ta:pL}{F:a8->α->Prop}{End:St->Hp->Prop}{β0:a8}{o0:α}{σ1:St}{Hs:Hp}
  (it:∀i β o σ' H',w9 X C W0 T σ0 H1 a Hb Wb Ac β o σ' H'->(∀d,ds[i]?=some d->J.go i H'/\∀x H3,J.Lo i H' x H3->ay H' H3/\∀own,(∀c,Wn own c->Wb c)->aB X.prog X.w (iI (C.u λc=>c=a) (Wn own) k) H3 d x)/\(ds.length<=i->J.stop i H'))
  (MU:∀β o σ' H' N,w9 X C W0 T σ0 H1 a Hb Wb Ac β o σ' H'->Af o β N->ta (λAE Aq=>∃β' o',w9 X C W0 T σ0 H1 a Hb Wb Ac β' o' AE Aq/\N β' o') σ' H')
  (s0:w9 X C W0 T σ0 H1 a Hb Wb Ac β0 o0 σ1 Hs) (q:nH γ τ Af ds k β0 o0 F) (fin:∀β o σ' H',w9 X C W0 T σ0 H1 a Hb Wb Ac β o σ' H'->F β o->End σ' H') :
  gF J (Lr X C a Tg γ) (lX X (C.u λc=>c=a) true τ) ta End σ1 Hs:=by
 obtain⟨I,i0,i1,i2⟩:=q;refine⟨λi m σ' H'=>i<=ds.length/\m=ds.length-i/\∃β o,w9 X C W0 T σ0 H1 a Hb Wb Ac β o σ' H'/\I i β o,⟨_,Yz _,rfl,β0,o0,s0,i0⟩,?_⟩;rintro i m σ2 H2 ⟨hi,rfl,β,o,sE,hl⟩;obtain⟨eP,si⟩:=it i β o σ2 H2 sE
 by_cases dt:i<ds.length
 ·right
  have hd:ds[i]?=some ds[i]:=Yj dt;obtain⟨go,yl⟩:=eP _ hd;refine⟨go,λσ' H'=>∃β' o',w9 X C W0 T σ0 H1 a Hb Wb Ac β' o' σ' H'/\I (i+1) β' o',λσ' H' h=>⟨_,by omega,dt,rfl,h⟩,λx H3 y=>?_⟩
  obtain⟨s3,r3⟩:=yl x H3 y;obtain⟨own,s⟩:=sE;refine⟨own,β,_,_,s.sq.same s3,rq (r3 own s.le),γm _ _ _ _ _ (λβ4 q σ4 tZ s4 w4 t4=>?_) (i1 i _ β o hd hl)⟩;have Vi:=s.next hA s4 w4 s3 λj hj=>t4 j λz=>hj (hT j z)
  refine⟨β4,tZ,s4,τm _ _ _ (λt β5 q H5 rS o5=>?_) q⟩;obtain⟨Vf,rfl⟩:=o5.pu rfl;have Tx:=Vi.next hA o5.sq (λ_ z=>z) Vf λ_ _=>rfl
  cases t with
  |false=>exact⟨β5,o,⟨_,Tx⟩,q⟩
  |true=>exact MU β5 o σ4 H5 _ ⟨_,Tx⟩ q
 ·left
  have e:i=ds.length:=by omega
  subst e;exact⟨si (Yh _),fin β o σ2 H2 sE (i2 β o hl)⟩
def GL {α:Type}(ι:eI)(γ:fu)(τ:bc)(Af:α->a8->(a8->α->Prop)->Prop)(o:α)(β:a8)(N:a8->α->Prop):Prop:=ι β λds k β1=>nH γ τ Af ds k β1 o N
theorem Eu (hA:DM a Ac){ι:eI}(hT:∀j∈Tg,j∈T)(γm:∀d k β R R',(∀r,R r->R' r)->γ d k β R->γ d k β R')(τm:∀β R R',(∀d β,R d β->R' d β)->τ β R->τ β R'){Af:α->a8->(a8->α->Prop)->Prop}{ta:pL}
  (MU:∀Hb Wb β o σ' H' N,w9 X C W0 T σ0 H1 a Hb Wb Ac β o σ' H'->Af o β N->ta (λAE Aq=>∃β' o',w9 X C W0 T σ0 H1 a Hb Wb Ac β' o' AE Aq/\N β' o') σ' H')
  (ιm:∀β R R',(∀d k β,R d k β->R' d k β)->ι β R->ι β R') {β:a8} {o:α} {σ:St} {H:Hp} {N:a8->α->Prop} (s:w9 X C W0 T σ0 H1 a Hb Wb Ac β o σ H) (q:GL ι γ τ Af o β N) :
  ∃β own,SQ X (C.u λc=>c=a) σ H β own/\ι β λds k β'=>∀J H',ay H H'->SQ X (C.u λc=>c=a) σ H' β' own->Ao X (iI (C.u λc=>c=a) (Wn own) k) J ds H' ->
   gF J (Lr X C a Tg γ) (lX X (C.u λc=>c=a) true τ) ta (λσ' H'=>∃β' o',w9 X C W0 T σ0 H1 a Hb Wb Ac β' o' σ' H'/\N β' o') σ H':=by
 obtain⟨own,s⟩:=s;refine⟨β,own,s.sq,ιm _ _ _ (λds k β1 q J H' sm sq VS=>?_) q⟩;have s1:=s.next hA sq (λ_ z=>z) sm λ_ _=>rfl
 have hu:iI (C.u λc=>c=a) (Wn own) k a:=.inr rfl;refine xu (Hb:=H') (Wb:=Wn own) hA hT γm τm (λi βx ox σx Hx sx=>?_) (λβx ox σx Hx Nx sx qx=>MU _ _ _ _ _ _ _ sx qx) ⟨own,⟨s1.sq,s1.sn,λ_ z=>z,s1.ac,s1.pu,λ_ _ _ e=>e,s1.st⟩⟩ q λβx ox σx Hx sx hx=>?_
 ·obtain⟨EL,sx⟩:=sx;have kp:Kp (λb=>iI (C.u λc=>c=a) (Wn own) k b\/H' b=none) H' Hx:=⟨λb ob e n=>sx.bs b ob (λz=>n (.inl (by rw[z];exact hu))) e,λb xs e=>sx.bs b _ (λz=>hA.Md _ _ _ s1.ac (by rw[<- z];exact e)) e⟩
  obtain⟨g1,g2⟩:=VS (λb=>iI (C.u λc=>c=a) (Wn own) k b\/H' b=none) (λb z=>z) i Hx kp;refine⟨λd hd=>?_,g2⟩;obtain⟨go,yl⟩:=g1 d hd;refine⟨go,λx H3 y=>?_⟩;obtain⟨s3,r3⟩:=yl x H3 y;exact⟨s3,λaS Q3=>aB.aY (λb z=>.inl (oM Q3 k b z)) r3⟩
 ·obtain⟨EL,sx⟩:=sx;exact⟨βx,ox,⟨EL,⟨sx.sq,sx.sn,λc z=>s.le c (sx.le c z),sx.ac,sx.pu,λb ob n e=>sx.bs b ob n (s1.bs b ob n e),sx.st⟩⟩,hx⟩
theorem Ba {lk:List (Option Nat)}{σ:St}{β:a8}{own:Nat->List Addr}{oa:HO}(hA:DM a Ac){Af:α->a8->(a8->α->Prop)->Prop}{ta:pL}{J:It}{ds:List D}{k:Kd}{o0:α}{K:α->Prop}{End:Hp->Prop}
  (γm:∀d k β R R',(∀r,R r->R' r)->γ d k β R->γ d k β R') (τm:∀β R R',(∀d β,R d β->R' d β)->τ β R->τ β R') (WI:∀j∈Tg,j∈T)
  (inj:∀(i i' j:Nat),lk[i]?=some (some j)->lk[i']?=some (some j)->i=i') (hT:∀i∈T,∀j,lk[i]?≠some (some j))
  (s1:SQ X C σ H1 β own) (ha:H1 a=none) (hk:hold k false) (it:Ao X (av C (Wn own) k) J ds H1) (a0:Ac o0 (upd H1 a oa)) (ent:SQ X (C.u λc=>c=a) (fm lk σ) (upd H1 a oa) (eE lk β) (bA lk β own))
  (MU:∀Hb Wb β' o σ' H' N,C.H0 a=none->w9 X C (Wn (bA lk β own)) T (fm lk σ) H1 a Hb Wb Ac β' o σ' H'->Af o β' N->ta (λAE Aq=>∃β' o',w9 X C (Wn (bA lk β own)) T (fm lk σ) H1 a Hb Wb Ac β' o' AE Aq/\N β' o') σ' H')
  (q:nH γ τ Af ds k (eE lk β) o0 λβf o=>gq (eE lk β) βf/\K o)
  (fin:∀o H',K o->Out X C σ H1 own true β H' own->Ac o H'->End H') :
  gF J (Lr X C a Tg γ) (lX X (C.u λc=>c=a) true τ) ta (λ_ H'=>End H') (fm lk σ) (upd H1 a oa):=by
 have h0:C.H0 a=none:=Y1 λz=>s1.i8 a z ha;have sm:ay H1 (upd H1 a oa):=ay.new ha;refine xu (W0:=Wn (bA lk β own)) (T:=T) (σ0:=fm lk σ) (H1:=H1) (Hb:=H1) (Wb:=Wn (bA lk β own)) hA WI γm τm (λi βx ox σx Hx sx=>?_) (λβx ox σx Hx Nx sx qx=>MU _ _ _ _ _ _ _ h0 sx qx)
  ⟨bA lk β own,⟨ent,⟨λb z=>.inl z,sm.kp,λb z e=>z (sm.free e)⟩,λ_ z=>z,a0,sm,λb ob n e=>sm _ _ e,λ_ _=>rfl⟩⟩ q λβx ox σx Hx sx hx=>?_
 ·obtain⟨EL,sx⟩:=sx;have kI:Kp (λb=>av C (Wn own) k b\/H1 b=none) H1 Hx:=sx.pu.kp;obtain⟨g1,g2⟩:=it (λb=>av C (Wn own) k b\/H1 b=none) (λb z=>z) i Hx kI;refine⟨λd hd=>?_,g2⟩;obtain⟨go,yl⟩:=g1 d hd;refine⟨go,λx H3 y=>?_⟩;obtain⟨s3,r3⟩:=yl x H3 y;exact⟨s3,λaS Q3=>aB.aY (λc z=>z.elim (λz=>.inl (mx (λc z=>bj c (Q3 c z)) k c z)) λz=>.inr (by rw[z];exact ha)) r3⟩
 ·obtain⟨EL,sx⟩:=sx;obtain⟨hh,hK⟩:=hx;have lv:SQ X C σ Hx β own:=s1.leave sx.sq sx.sn sx.le hh λj ok i' e1 e2=>sx.st i' λz=>hT i' z j e2;exact fin ox Hx hK ⟨lv,⟨λb z=>.inl z,sx.sn.k.mono λb z=>z.imp (bj b) id,sx.sn.d⟩,λz=>⟨sx.pu,rfl⟩,λ_ z=>z⟩ sx.ac
end
theorem KH {X:Cx}{C:Cfg}{σ:St}{H1 H':Hp}{β:a8}{own:Nat->List Addr}{a:Addr}{o:List D}(s1:SQ X C σ H1 β own)(ha:H1 a=none)(h:P_ X.prog X.w H1 a o H'):KV X.prog X.w C (H1,Wn own) own H' .own (.lst o) (.ref a):=by
 obtain⟨vs,A,at',os,nd,nw⟩:=h;refine⟨a::A,⟨a,vs,A,rfl,at',rfl,os⟩,YV.mpr ⟨λz=>(nw a z).2 rfl,nd⟩,λc hc=>?_⟩;have pz:H1 c=none:=by
  rcases Yi.mp hc with rfl|hc
  ·exact ha
  ·exact(nw c hc).1
 exact⟨pz,λh=>by obtain⟨j,hj⟩:=h;exact(s1.dm j c hj).1 pz,Y1 λz=>s1.i8 c z pz⟩
def Iu (lk:List (Option Nat))(ι:eI)(γ:fu)(τ:bc)(ι2:eI)(γ2:fu)(τ2:bc)(φ:aV):aV:=λβ R=>ι β λds k β1=>hold k false/\nH γ τ (GL ι2 γ2 τ2 (Hf φ)) ds k (eE lk β1) [] λβf o=>gq (eE lk β1) βf/\R (.lst o) .own β1
section
variable {X:Cx}{C:Cfg}{lk:List (Option Nat)}{γ γ2:fu}{τ τ2:bc}{φ:aV}{T T2:List Nat}
variable {scope:aa7}{tg eP AU si elt:Expr}{ifs pj:List Expr}{ι ι2:eI}{pi:Bool}{pos:Pos}{i:Nat}
theorem VM (N':List Str)(lk:List (Option Nat))(L:nK X.env.scope.names X.N scope N' lk=true)(DR:N'.Nodup)(hc:X.calm=true)(hi:DH X C pi tg eP ι)
  (Ay:∀a cl c s H ex,DI (aO X scope N' cl c s H ex) (C.u λc=>c=a) tg T γ) (Ax:∀a cl c s H ex,An (aO X scope N' cl c s H ex) (C.u λc=>c=a) true ifs τ)
  (K6:∀a cl c s H ex,UN (aO X scope N' cl c s H ex) (C.u λc=>c=a) AU si ι2)
  (MT:∀a cl c s H ex,DI (aO X scope N' cl c s H ex) (C.u λc=>c=a) AU T2 γ2) (MS:∀a cl c s H ex,An (aO X scope N' cl c s H ex) (C.u λc=>c=a) true pj τ2)
  (sv:∀a cl c s H ex,PQ (aO X scope N' cl c s H ex) (C.u λc=>c=a) true elt φ) (hT:(T++T2).all (λi=>match lk[i]? with|some (some _)=>false|_=>true)=true:=by rfl)
  (hs:∀x,Zo eP X.env x=pure x:=by intro _;rfl) (sS:∀cl c s H ex x,Zo si (aO X scope N' cl c s H ex).env x=pure x:=by intro _ _ _ _ _ _;rfl):PQ X C pi (.ListComp elt [⟨tg,eP,ifs,0⟩,⟨AU,si,pj,0⟩] scope pos) (Iu lk ι γ τ ι2 γ2 τ2 φ):=by
 have L:=Links.of L;have Oe:∀i∈T++T2,∀j,lk[i]?≠some (some j):=λi hi j e=>by
  have:=aai.mp hT i hi;rw[e]at this;cases this
 have ax:Addr:=0;have X3:List (Str×Addr):=[];have γm:=(Ay 0 [] 0 X.s₀ X.H₀ []).mono;have τm:=(Ax 0 [] 0 X.s₀ X.H₀ []).mono;have Qb:=(MT 0 [] 0 X.s₀ X.H₀ []).mono;have Qa:=(MS 0 [] 0 X.s₀ X.H₀ []).mono;have φm:=(sv 0 [] 0 X.s₀ X.H₀ []).mono;have ιm:=(K6 0 [] 0 X.s₀ X.H₀ []).mono;refine⟨λβ R R' k h=>hi.mono β _ _ (λds kd β1 q=>⟨q.1,q.2.mono λ_ _ z=>⟨z.1,k _ _ _ z.2⟩⟩) h,?_⟩;refine(tX (g:=⟨tg,eP,ifs,0⟩) (gs:=[⟨AU,si,pj,0⟩]) (tg:=λa=>Lr X C a T γ) (tt:=λa=>lX X (C.u λc=>c=a) true τ)
  (ta:=λa N σ H=>∃β own,SQ X (C.u λc=>c=a) σ H β own/\ι2 β λds k β'=>∀J H',ay H H'->SQ X (C.u λc=>c=a) σ H' β' own->Ao X (iI (C.u λc=>c=a) (Wn own) k) J ds H' ->
   gF J (Lr X C a T2 γ2) (lX X (C.u λc=>c=a) true τ2) (Ts X C a φ) N σ H')
  L hc nB rfl rfl (λ_ _=>Kz) hi.pi (λa cl c s H ex=>⟨(Ay a cl c s H ex).pg,(Ax a cl c s H ex).pt,EK (X:=aO X scope N' cl c s H ex) (g':=⟨AU,si,pj,0⟩) rfl hc Ky (K6 a cl c s H ex).pi (MT a cl c s H ex).pg (MS a cl c s H ex).pt (nj (X:=aO X scope N' cl c s H ex) rfl (sv a cl c s H ex).pe) (sS cl c s H ex)⟩) hs).pre λσ H Q h=>?_
 obtain⟨β,own,s,h⟩:=h;refine⟨β,own,s,hi.mono β _ _ (λds k β1 h J H1 aG o1 it a ha=>?_) h⟩;obtain⟨hk,q⟩:=h;refine Ba (T:=T++T2) (w6 (P:=X.prog) (w:=X.w) (H1:=H1)) γm τm (λj hj=>ZR _ hj) (h_ L DR) Oe o1.sq ha hk it ⟨[],[],az,(show aP _ _ _ [] [] [] from ⟨rfl,rfl⟩),ZF,λc hc=>(nomatch hc)⟩ (o1.sq.enter ha (h_ L DR))
  (λHb Wb βx ox σx Hx Nx h0 sx qx=>Eu w6 (λj hj=>Y4 _ hj) Qb Qa (λHb Wb βy oy σy Hy Ny sy qy=>Ew h0 ha φm sy qy) ιm sx qx) q λo H' q o2 r=>?_
 refine q _ _ aG ⟨o2.sq,o1.sn.trans o2.sn,λz=>⟨(o1.pu z).1.trans (o2.pu rfl).1,(o1.pu z).2⟩,o1.le⟩ ((KH o1.sq ha r).later o1.sn)
end
section
variable {X:Cx}{C:Cfg}{a:Expr}{φ:aV}{p:Bool}
def QG (φ:aV):bc:=λβ R=>φ β λd _ β'=>∃ds,d=.lst ds/\R (!ds.isEmpty) β'
theorem rL (ha:PQ X C p a φ)(he:∀whole,isTrue a X.env whole=(do let v <- whole;standAt a.pos;holding [v] (truthy v)):=by intro _;rfl):vy X C p a (QG φ) :=
 ⟨λβ R R' k h=>ha.mono β _ _ (λd kd β' h=>by obtain⟨b,e,q⟩:=h;exact⟨b,e,k _ _ q⟩) h,(Br ha.pe he).pre λσ H Q h=>by
  obtain⟨β,own,s,h⟩:=h;refine tQ.of ha s h λd k β' v H1 aG h o1 r1=>?_;obtain⟨ds,e,q⟩:=h;subst e;obtain⟨c,vs,rfl,h1,n1,rs⟩:=r1.rep;refine⟨!ds.isEmpty,.inl ⟨vs,dh.of h1,?_⟩,q H1 aG o1⟩;have:=rs.length;cases ds <;> cases vs <;> first|rfl|cases this⟩
end
end L2.Q
namespace L2
open PySem PySem.Spec PySem.SeqAt PyProof.Rows
def Apart (t u:List Int):Prop:=bB t u=false/\bL t u=false
def Good (rows ts:List (List Int)):Prop:=(∀t∈ts,t∈rows)/\ts.Pairwise (λa b=>HT.lexLt a b=true)/\ts.Pairwise Apart
theorem d7 {t u:List Int}:bB t u=true↔∃i∈t,i∈u:=by
 unfold bB;rw[List.any_eq_true];simp
theorem oF {a b c d:Int}:k_ a b c d=true↔(a<c/\c<b/\b<d)\/(c<a/\a<d/\d<b):=by
 unfold k_;simp[Bool.or_eq_true,Zi]
theorem uF {rows ts:List (List Int)}{k:Nat}{t:List Int}(hk:k<ts.length):jS rows ts k t=none↔t∈rows/\(∀u,0<k->ts[k-1]?=some u->HT.lexLt u t=true)/\∀j u,j<k->ts[j]?=some u->Apart u t:=by
 have PX:∀(p:List Int->Bool) (j:Nat) (u:List Int),ts[j]?=some u->sW ts p j=p u:=λp j u e=>by unfold sW;rw[e]
 unfold jS
 by_cases h1:t∈rows
 ·rw[if_pos h1]
  by_cases h2:(decide (0<k)&&sW ts (λu=>!HT.lexLt u t) (k-1))=true
  ·rw[if_pos h2];refine⟨λz=>(nomatch z),λ⟨_,z,_⟩=>?_⟩;rw[Zi]at h2;have h0:0<k:=by simpa using h2.1
   have e:ts[k-1]?=some ts[k-1]:=Yj (by lia)
   have:=h2.2;rw[PX _ _ _ e,z _ h0 e]at this;exact absurd this (by simp)
  ·rw[if_neg h2];have o:∀u,0<k->ts[k-1]?=some u->HT.lexLt u t=true:=λu h0 e=>by
    rw[PX _ _ _ e]at h2;cases q:HT.lexLt u t with
    |true=>rfl
    |false=>exact absurd (by rw[q];simp[h0]) h2
   have sh:∀p:List Int->Bool,(YF k).find? (sW ts p)=none↔∀j u,j<k->ts[j]?=some u->p u=false:=λp=>by
    rw[List.find?_eq_none];refine⟨λz j u hj e=>?_,λz j hj=>?_⟩
    ·have:=z j (Zh.mpr hj);rw[PX p j u e]at this;simpa using this
    ·have FC:=Zh.mp hj;have e:ts[j]?=some ts[j]:=Yj (by lia)
     rw[PX p j _ e,z j _ FC e];simp
   cases q1:(YF k).find? (sW ts λu=>bB u t)with
   |some j =>
    refine⟨λz=>(nomatch z),λ⟨_,_,z⟩=>?_⟩;rw[(sh _).mpr λj u hj e=>(z j u hj e).1]at q1;cases q1
   |none =>
    cases q2:(YF k).find? (sW ts λu=>bL u t)with
    |some j =>
     refine⟨λz=>(nomatch z),λ⟨_,_,z⟩=>?_⟩;rw[(sh _).mpr λj u hj e=>(z j u hj e).2]at q2;cases q2
    |none=>exact⟨λ_=>⟨h1,o,λj u hj e=>⟨(sh _).mp q1 j u hj e,(sh _).mp q2 j u hj e⟩⟩,λ_=>rfl⟩
 ·rw[if_neg h1];exact⟨λz=>(nomatch z),λz=>absurd z.1 h1⟩
theorem pw_iff {R:List Int->List Int->Prop}{ts:List (List Int)}:ts.Pairwise R↔∀(i j:Nat) (u t:List Int),i<j->ts[i]?=some u->ts[j]?=some t->R u t:=by
 rw[aaI];refine⟨λh i j u t aX e1 e2=>?_,λh i j hi hj aX=>h i j _ _ aX (Yj hi) (Yj hj)⟩;obtain⟨hi,rfl⟩:=Yr.mp e1;obtain⟨hj,rfl⟩:=Yr.mp e2;exact h i j hi hj aX
theorem wF {rows ts:List (List Int)}:iW rows ts=none↔∀k<ts.length,iY rows ts k=none:=by
 unfold iW;rw[abr];exact⟨λh k hk=>h k (Zh.mpr hk),λh k hk=>h k (Zh.mp hk)⟩
theorem oe {rows ts:List (List Int)}:iW rows ts=none↔Good rows ts:=by
 rw[wF];constructor
 ·intro h;have h':∀k t,ts[k]?=some t->_:=λk t e=>(uF (Yr.mp e).1).mp ((kY e).symm.trans (h k (Yr.mp e).1));refine⟨λt ht=>?_,pw_iff.mpr ?_,pw_iff.mpr λi j u t aX e1 e2=>(h' j t e2).2.2 i u aX e1⟩
  ·obtain⟨k,e⟩:=List.mem_iff_getElem?.mp ht;exact(h' k t e).1
  ·intro i j
   induction j with
   |zero=>intro u t aX;lia
   |succ j ih =>
    intro u t aX e1 e2;have hj:j<ts.length:=by have:=(Yr.mp e2).1;lia
    have e3:ts[j]?=some ts[j]:=Yj hj;have l:=(h' (j+1) t e2).2.1 ts[j] (by lia) e3
    by_cases Se:i<j
    ·exact e_ (ih u ts[j] Se e1 e3) l
    ·have:i=j:=by lia
     subst this;rw[e1]at e3;cases e3;exact l
 ·rintro⟨h1,h2,h3⟩ k hk;have e:ts[k]?=some ts[k]:=Yj hk;rw[kY e];exact(uF hk).mpr ⟨h1 _ (ZZ hk),λu h0 eu=>pw_iff.mp h2 (k-1) k u _ (by lia) eu e,λj u hj eu=>pw_iff.mp h3 j k u _ hj eu e⟩
end L2
namespace L2.Q
open PySem PySem.Spec PySem.SeqAt PyProof.Rows
structure sY (mg:Str->Option Yc):Prop extends Bs2 mg where
 sum:mg "sum" = none
def tI (p:Nat×Nat):List Int:=[(p.1:Int),(p.2:Int)]
theorem kg {p q:Nat×Nat}(h:tI p=tI q):p=q:=by
 unfold tI at h;injection h with h1 h2
 injection h2 with h2 _
 exact Prod.ext (Int.ofNat.inj h1) (Int.ofNat.inj h2)
def dN (ps:List (Nat×Nat)):D:=.lst (ps.map λp=>kD (tI p))
def jZ (n:Nat)(ps:List (Nat×Nat)):D:=.tup [.int n,dN ps]
structure lj (n:Nat)(ps:List (Nat×Nat)):Prop where
 lt:∀p∈ps,p.1<p.2/\p.2<n
 nd:ps.Nodup
 le:n<=80
 sm:ps.length<=400
theorem AS {n:Int}{ts:List (List Int)}(n0:0<=n)(h:iu n ts):∃ps:List (Nat×Nat),ts=ps.map tI/\∀p∈ps,p.1<p.2/\p.2<n.toNat:=by
 induction ts with
 |nil=>exact⟨[],rfl,λ_ z=>(nomatch z)⟩
 |cons t ts ih =>
  obtain⟨ps,e,q⟩:=ih λu hu=>h u (by simp[hu])
  obtain⟨a,b,rfl,h1,h2,h3⟩:=h t (by simp)
  refine⟨(a.toNat,b.toNat)::ps,?_,λp hp=>?_⟩
  ·rw[YA,<- e]
   congr 1
   show [a,b]=[((a.toNat:Nat):Int),((b.toNat:Nat):Int)];rw[abi h1,abi (by lia)]
  ·rcases Yi.mp hp with rfl|hp
   ·exact⟨by show a.toNat<b.toNat;lia,by show b.toNat<n.toNat;lia⟩
   ·exact q p hp
theorem Ex {n:Int}{ts:List (List Int)}(n0:0<=n)(n1:n<=80)(l:ts.length<=400)(h:iu n ts)(nd:ts.Nodup):∃(m:Nat) (ps:List (Nat×Nat)),lj m ps/\n=m/\ts=ps.map tI/\D.tup [.int n,.lst (ts.map kD)]=jZ m ps:=by
 obtain⟨ps,e,q⟩:=AS n0 h;refine⟨n.toNat,ps,⟨q,?_,by lia,by rw[e,Ye]at l;exact l⟩,by lia,e,?_⟩
 ·rw[e]at nd;exact(ZD.mp nd).imp λz e=>z (congrArg tI e)
 ·unfold jZ dN;rw[e,Y8,abi n0];rfl
def bz (l:List Nat):List D:=l.map λ(k:Nat)=>D.int (k:Int)
def iA (ps:List (Nat×Nat))(i:Nat):List Nat:=(ps.filter λp=>decide (p.1=i)).map (·.2)
theorem sf {ps:List (Nat×Nat)}{i k:Nat}:k∈iA ps i↔(i,k)∈ps:=by
 unfold iA;rw[YK];constructor
 ·rintro⟨p,hp,rfl⟩;obtain⟨h1,h2⟩:=Y9.mp hp;rw[<- of_decide_eq_true h2];exact h1
 ·intro h;exact⟨(i,k),Y9.mpr ⟨h,by simp⟩,rfl⟩
def Pe (n:Nat)(ps:List (Nat×Nat)):D:=.lst ((YF n).map λi=>.lst (bz (iA ps i)))
theorem eZ {α:Type}{n i:Nat}{f:Nat->α}(h:i<n):((YF n).map f)[i]?=some (f i):=by
 rw[Yu,Z6 h];rfl
theorem ur {ds:List D}{x:Int}{i:Nat}{d:D}(hx:x=(i:Int))(h:ds[i]?=some d):uY (.lst ds) (.int x)=some d:=by rw[hx];exact yz h
theorem Q6 {n:Nat}{ps:List (Nat×Nat)}{x:Int}{i:Nat}(hx:x=(i:Int))(h:i<n):uY (Pe n ps) (.int x)=some (.lst (bz (iA ps i))):=ur hx (eZ h)
def tu (L:Nat)(T:Nat->Int):List D:=(YF L).map λl=>.int (T l)
def ke (n:Nat)(L:Nat->Nat)(T:Nat->Nat->Int):D:=.lst ((YF (n+1)).map λi=>.lst (tu (L i) λl=>T l i))
theorem Cw {L:Nat}{T:Nat->Int}{x:Int}{l:Nat}(hx:x=(l:Int))(h:l<L):uY (.lst (tu L T)) (.int x)=some (.int (T l)):=ur hx (eZ h)
theorem Cv {n:Nat}{L:Nat->Nat}{T:Nat->Nat->Int}{x:Int}{i:Nat}(hx:x=(i:Int))(h:i<=n):uY (ke n L T) (.int x)=some (.lst (tu (L i) λl=>T l i)):=ur hx (eZ (by lia))
def eO (n a:Nat):List (Nat×Nat):=(YF (a+1)).map λb=>(n-1-a,n-a+b)
def rj (n:Nat):List (Nat×Nat):=(YF n).flatMap (eO n)
def l6 (p:Nat×Nat):D:=.tup [.int (p.1:Int),.int (p.2:Int)]
def e9 (n a b:Nat):List (Nat×Nat):=(eO n a).drop b++((YF n).drop (a+1)).flatMap (eO n)
theorem iO {n a b:Nat}(h:b<=a):e9 n a b=(n-1-a,n-a+b)::e9 n a (b+1):=by
 unfold e9 eO;rw[Y5 (by rw[Ye,Zr];lia)]
 simp
theorem qI {n a:Nat}(h:a<n):((YF n).drop a).flatMap (eO n)=e9 n a 0:=by
 unfold e9;rw[Y5 (by rw[Zr];exact h)]
 simp
theorem pW {n a:Nat}(h:a+1<n):e9 n a (a+1)=e9 n (a+1) 0:=by
 rw[<- qI h];unfold e9 eO;simp
theorem vR {n a:Nat}(h:n<=a+1):e9 n a (a+1)=[]:=by
 unfold e9 eO;rw[List.drop_eq_nil_of_le (by simp),List.drop_eq_nil_of_le (by simpa using h)]
 rfl
theorem yS {n:Nat}(h:0<n):rj n=e9 n 0 0:=by rw[<- qI h];rfl
theorem fX {α:Type}{γ:fu}{τ:bc}{φ:aV}{l:List α}{f:α->D}{k:Kd}{u9:a8}{K:List D->Prop}(t:α->Bool)(g:α->D)(h0:gq u9 u9)(hl:l.length<=Yy)
  (h:∀x∈l,∀(x0:Option B) (o:List D) (J:a8->List D->Prop),o.length<Yy->(t x=true->∀x0,J (x0::u9) (o++[g x]))->(t x=false->∀x0,J (x0::u9) o)->γ (f x) (sk k (f x)) (x0::u9) λβ1=>τ β1 λt β2=>if t=true then φ β2 λx kx β3=>DP kx x/\o.length<Yy/\J β3 (o++[x]) else J β2 o)
  (q:K ((l.filter t).map g)):nG γ τ φ (l.map f) k (none::u9) K:=by
 refine⟨λi β o=>i<=l.length/\(∃x0,β=x0::u9)/\o=((l.take i).filter t).map g,⟨Yz _,⟨_,rfl⟩,rfl⟩,?_,?_⟩
 ·rintro i d β o hd ⟨hi,⟨x0,rfl⟩,rfl⟩;rw[Yu]at hd;obtain⟨x,hx,rfl⟩:=Yt.mp hd;have dt:i<l.length:=(Yr.mp hx).1;have hle:(((l.take i).filter t).map g).length<Yy:=by
   rw[Ye];have:=Zz t (l.take i);rw[YQ]at this;lia
  have e:l.take (i+1)=l.take i++[x]:=by rw[Zf,hx];rfl
  refine h x (YW hx) x0 _ (λβ o=>i+1<=l.length/\(∃x0,β=x0::u9)/\o=((l.take (i+1)).filter t).map g) hle (λht x0=>?_) λht x0=>?_
  ·exact⟨dt,⟨_,rfl⟩,by rw[e,Z9,YN,aba,if_pos ht];rfl⟩
  ·exact⟨dt,⟨_,rfl⟩,by rw[e,Z9,YN,aba,if_neg (by rw[ht];simp)];simp⟩
 ·rintro β o ⟨_,⟨x0,rfl⟩,rfl⟩;rw[Ye,ZL];exact⟨h0,q⟩
theorem Jq {α:Type}{γ:fu}{τ:bc}{φ:aV}{l:List α}{f:α->D}{k:Kd}{u9:a8}{K:List D->Prop}(t:α->Bool)(g:α->D)(h0:gq u9 u9)(hl:l.length<=Yy)
  (h:∀x∈l,∀(x0 x1:Option B) (o:List D) (J:a8->List D->Prop),o.length<Yy->(t x=true->∀x0 x1,J (x0::x1::u9) (o++[g x]))->(t x=false->∀x0 x1,J (x0::x1::u9) o)->γ (f x) (sk k (f x)) (x0::x1::u9) λβ1=>τ β1 λt β2=>if t=true then φ β2 λx kx β3=>DP kx x/\o.length<Yy/\J β3 (o++[x]) else J β2 o)
  (q:K ((l.filter t).map g)):nG γ τ φ (l.map f) k (none::none::u9) K:=by
 refine⟨λi β o=>i<=l.length/\(∃x0 x1,β=x0::x1::u9)/\o=((l.take i).filter t).map g,⟨Yz _,⟨_,_,rfl⟩,rfl⟩,?_,?_⟩
 ·rintro i d β o hd ⟨hi,⟨x0,x1,rfl⟩,rfl⟩;rw[Yu]at hd;obtain⟨x,hx,rfl⟩:=Yt.mp hd;have dt:i<l.length:=(Yr.mp hx).1;have hle:(((l.take i).filter t).map g).length<Yy:=by
   rw[Ye];have:=Zz t (l.take i);rw[YQ]at this;lia
  have e:l.take (i+1)=l.take i++[x]:=by rw[Zf,hx];rfl
  refine h x (YW hx) x0 x1 _ (λβ o=>i+1<=l.length/\(∃x0 x1,β=x0::x1::u9)/\o=((l.take (i+1)).filter t).map g) hle (λht x0 x1=>?_) λht x0 x1=>?_
  ·exact⟨dt,⟨_,_,rfl⟩,by rw[e,Z9,YN,aba,if_pos ht];rfl⟩
  ·exact⟨dt,⟨_,_,rfl⟩,by rw[e,Z9,YN,aba,if_neg (by rw[ht];simp)];simp⟩
 ·rintro β o ⟨_,⟨x0,x1,rfl⟩,rfl⟩;rw[Ye,ZL];exact⟨h0,q⟩
theorem fb {α:Type}{l:List α}:l.filter (λ_=>true)=l:=List.filter_eq_self.mpr λ_ _=>rfl
theorem jW {a b:List D}(h:a.length+b.length<=1000000):wU (.lst a) (.lst b)=some (.lst (a++b)):=by
 show (if a.length+b.length<=Yy then _ else _)=_
 rw[if_pos (YI h (by decide))]
def C7:FD:=λds R=>∃n:Nat,ds=[.int n]/\n<=80/\R (.lst ((rj n).map l6))
theorem C7.mono:cW C7:=λds R R' k h=>by obtain⟨n,e,h1,q⟩:=h;exact⟨n,e,h1,k _ q⟩
def uQ:FD:=λds R=>∃n ps,ds=[jZ n ps]/\lj n ps/\R (Pe n ps)
theorem uQ.mono:cW uQ:=λds R R' k h=>by obtain⟨n,ps,e,h1,q⟩:=h;exact⟨n,ps,e,h1,k _ q⟩
abbrev yg (n:Nat)(T:Nat->Nat->Int):D:=ke n (λi=>n+1-i) T
theorem gk {n:Nat}(h:n<=1000):n<=Yy:=YI h (by decide)
theorem AY {n:Nat}(h:n<=1000):n<Yy:=aaW h (by decide)
theorem MD {n i:Nat}{x:Int}(hx:x=(i:Int))(h:i<n):zN n x=some i:=by
 subst hx;unfold zN;rw[if_pos (by lia),if_pos (by lia)]
 simp
theorem xt {α:Type}{n i:Nat}{f:Nat->α}{y:α}(h:i<n):((YF n).map f).set i y=(YF n).map λk=>if k=i then y else f k:=by
 refine aae λk=>?_;rw[abz]
 by_cases hk:k<n
 ·rw[eZ hk,eZ hk,Ye,Zr]
  by_cases e:i=k
  ·rw[if_pos e,if_pos (e▸hk),if_pos e.symm]
  ·rw[if_neg e,if_neg (aaF e)]
 ·rw[Zk (l:=(YF n).map f) (by simpa using hk),Zk (l:=(YF n).map λk=>if k=i then y else f k) (by simpa using hk),if_neg (by lia)]
theorem Ii {n i k:Nat}{ps:List (Nat×Nat)}(h:i<n):((YF n).map λj=>D.lst (bz (iA ps j))).set i (.lst (bz (iA ps i)++[D.int k]))=(YF n).map λj=>D.lst (bz (iA (ps++[(i,k)]) j)):=by
 rw[xt h];refine Zw λj _=>?_;unfold iA bz;rw[Z9,YN,YN]
 by_cases e:j=i
 ·rw[if_pos e,e];simp
 ·rw[if_neg e,aba,if_neg (by simpa using aaF e)];simp
theorem EC {ps:List (Nat×Nat)}{i:Nat}:(iA ps i).length<=ps.length:=by
 unfold iA;rw[Ye];exact Zz _ _
def fZ (n a b:Nat)(i:Nat):Nat:=if n-1-a<i then n+1-i else if i=n-1-a then b+1 else 1
theorem Es {n a b:Nat}{T:Nat->Nat->Int}(ha:a<n)(hb:b<=a):
  ((YF (n+1)).map λi=>D.lst (tu (fZ n a b i) λl=>T l i)).set (n-1-a) (.lst (tu (b+1) (λl=>T l (n-1-a))++[D.int (T (b+1) (n-1-a))]))=(YF (n+1)).map λi=>D.lst (tu (fZ n a (b+1) i) λl=>T l i):=by
 rw[xt (by lia)]
 refine Zw λi _=>?_;unfold fZ
 by_cases e:i=n-1-a
 ·rw[if_pos e,e,if_neg (by lia),if_pos rfl]
  unfold tu;rw[aaT (n:=b+1),YN];rfl
 ·rw[if_neg e,if_neg e,if_neg e]
theorem zH {n a:Nat}(h:a+1<n)(i:Nat)(hi:i<=n):fZ n a (a+1) i=fZ n (a+1) 0 i:=by
 unfold fZ
 by_cases h1:n-1-a<i
 ·rw[if_pos h1,if_pos (by omega)]
 ·rw[if_neg h1]
  by_cases h2:i=n-1-a
  ·rw[if_pos h2,if_pos (by omega)];omega
  ·rw[if_neg h2,if_neg (by omega)]
   split <;> rfl
theorem Co {n a:Nat}(h:n=a+1)(i:Nat)(hi:i<=n):fZ n a (a+1) i=n+1-i:=by
 unfold fZ
 split
 ·rfl
 ·split <;> lia
theorem wg {n:Nat}(h:0<n)(i:Nat)(hi:i<=n):fZ n 0 0 i=1:=by
 unfold fZ
 split
 ·lia
 ·split <;> rfl
theorem pS {n:Nat}{L L':Nat->Nat}{T:Nat->Nat->Int}(h:∀i,i<=n->L i=L' i):ke n L T=ke n L' T:=by
 unfold ke
 congr 1
 refine Zw λi hi=>?_;rw[h i (by have:=Zh.mp hi;lia)]
def yM (n idx:Nat)(L:Nat->Nat):Prop:=(n=0/\L 0=1)\/∃a b,a<n/\b<=a+1/\(∀i,i<=n->L i=fZ n a b i)/\(rj n).drop idx=e9 n a b
theorem uU {n:Nat}:yM n 0 λ_=>1:=by
 rcases Nat.eq_zero_or_pos n with h|h
 ·exact .inl ⟨h,rfl⟩
 ·exact .inr ⟨0,0,h,Yz _,λi hi=>(wg h i hi).symm,yS h⟩
theorem z6 {n:Nat}{L:Nat->Nat}(h:yM n (rj n).length L):∀i,i<=n->L i=n+1-i:=by
 rcases h with⟨rfl,h⟩|⟨a,b,h1,h2,h3,h4⟩
 ·intro i hi;rw[show i=0 by lia,h]
 ·intro i hi;rw[abO]at h4;have hb:b=a+1:=by
   rcases ZK a b with q|q
   ·lia
   ·rw[iO q]at h4;cases h4
  have ha:n=a+1:=by
   rcases ZK (a+1) n with q|q
   ·rw[hb,pW q,iO (Yz _)]at h4;cases h4
   ·lia
  rw[h3 i hi,hb];exact Co ha i hi
theorem wJ {n idx:Nat}{L:Nat->Nat}{p:Nat×Nat}(h:yM n idx L)(hp:(rj n)[idx]?=some p):∃a b,a<n/\b<=a/\p=(n-1-a,n-a+b)/\(∀i,i<=n->L i=fZ n a b i)/\(rj n).drop (idx+1)=e9 n a (b+1):=by
 have hd:(rj n).drop idx=p::(rj n).drop (idx+1):=by
  obtain⟨h1,h2⟩:=Yr.mp hp;rw[Y5 h1,h2]
 rcases h with⟨rfl,h⟩|⟨a,b,h1,h2,h3,h4⟩
 ·cases hp
 ·have key:∃a b,a<n/\b<=a/\(∀i,i<=n->L i=fZ n a b i)/\(rj n).drop idx=e9 n a b:=by
   rcases ZK a b with q|q
   ·have e:b=a+1:=by lia
    rcases ZK (a+1) n with q2|q2
    ·exact⟨a+1,0,q2,Yz _,λi hi=>by rw[h3 i hi,e,zH q2 i hi],by rw[h4,e,pW q2]⟩
    ·rw[h4,e,vR q2]at hd;cases hd
   ·exact⟨a,b,h1,q,h3,h4⟩
  obtain⟨a,b,h1,h2,h3,h4⟩:=key;rw[h4,iO h2]at hd;injection hd with e1 e2
  exact⟨a,b,h1,h2,e1.symm,h3,e2.symm⟩
theorem tM {n a:Nat}:(eO n a).length=a+1:=by unfold eO;simp
theorem zc {n a b:Nat}(h:b<a+1):(eO n a).take (b+1)=(eO n a).take b++[(n-1-a,n-a+b)]:=by
 rw[Zf];unfold eO;rw[eZ h];rfl
theorem Be {n a:Nat}:(eO n a).take (a+1)=eO n a:=ZS (by rw[tM];exact Yh _)
theorem uH {n:Nat}:∀a:Nat,a<=n->(((YF n).take a).flatMap (eO n)).length<=a*a
 |0,_=>by simp
 |a+1,h=>by
  have:=uH (n:=n) a (by lia)
  rw[Zf,Z6 (show a<n by lia),List.flatMap_append,YR]
  have e:((some a).toList.flatMap (eO n)).length=a+1:=by simp[tM]
  rw[e,Nat.mul_add,Nat.add_mul];lia
theorem AZ {n a b:Nat}(hn:n<=80)(ha:a<n)(hb:b<a+1):(((YF n).take a).flatMap (eO n)).length+((eO n a).take b).length<Yy:=by
 have h1:=uH (n:=n) a (by lia)
 have h2:((eO n a).take b).length<=b:=by rw[YQ];exact abh _ _
 have h3:a*a<=80*80:=aaz (by lia) (by lia)
 have h4:80*80+80<Yy:=by decide
 lia
def oD:Option Nat->D
 |none=>.cX
 |some k=>.int (k:Int)
def parts (i:Nat)(k:Option Nat)(j:Nat):List (Nat×Nat):=match k with
 |none=>[(i+1,j)]
 |some k=>[(i+1,k),(k+1,j)]
def oi:FD:=λds R=>∃(i:Nat) (k:Option Nat) (j:Nat),ds=[.int i,oD k,.int j]/\R (.lst ((parts i k j).map l6))
theorem oi.mono:cW oi:=λds R R' k h=>by obtain⟨i,c,j,e,q⟩:=h;exact⟨i,c,j,e,k _ q⟩
theorem GP:∀{i:Nat} {l:List Nat},l.Nodup->(∀x∈l,x<i)->l.length<=i
 |0,l,_,h=>by
  cases l with
  |nil=>exact Yh _
  |cons x l=>exact absurd (h x (by simp)) (Nat.not_lt_zero _)
 |i+1,l,nd,h=>by
  have q:=GP (i:=i) (nd.erase i) λx hx=>by
   have:=nd.mem_erase_iff.mp hx;have:=h x this.2;lia
  have:=List.length_erase (a:=i) (l:=l)
  split at this <;> lia
theorem Dq {ds:List D}{d:D}:uY (.lst (ds++[d])) (.int (-1))=some d:=by
 show pJ (ds++[d]) (-1)=some d;unfold pJ zN;rw[if_neg (by decide),if_pos (by rw[YR,aap];lia),ZJ,YR,aap,show (-1+((ds.length+1:Nat):Int)).toNat=ds.length by lia,Zd (Yh _),aaG]
 rfl
theorem cQ {ps:List (Nat×Nat)}:D.cR (ps.map λp=>kD (tI p))=true:=by
 have:=n_ (ps.map tI);rw[Y8]at this;exact this
theorem mN {α:Type}{f:α->Nat}:∀{l:List α},(l.map λa=>((f a:Nat):Int)).sum=((l.map f).sum:Nat)
 |[]=>rfl
 |a::l=>by rw[YA,aaP,YA,aaP,mN];lia
def oQ:Nat->Nat
 |0=>1
 |n+1=>(n+1)*oQ n
theorem sC (a:Nat):∀b,oQ a*oQ b<=oQ (a+b)
 |0=>by show oQ a*1<=oQ a;lia
 |b+1=>by
  show oQ a*((b+1)*oQ b)<=(a+b+1)*oQ (a+b);rw[Nat.mul_left_comm];exact aaz (by lia) (sC a b)
theorem fH {a b:Nat}(h:a<=b):oQ a<=oQ b:=by
 induction b with
 |zero=>rw[show a=0 by lia];exact Yh _
 |succ b ih =>
  rcases ZK b a with q|q
  ·rw[show a=b+1 by lia];exact Yh _
  ·exact YI (ih q) (Nat.le_mul_of_pos_left _ (by lia))
theorem Dn {a b:Int}(h:lU a b):Ks (.int a) (.int b)=some (.int (a*b)):=by
 show (if lU a b then _ else _)=_
 rw[if_pos h]
theorem sum_ints {α:Type}{f:α->Int}{l:List α}:mq (λns=>some ns.sum) [.lst (l.map λk=>D.int (f k))]=some (.int (l.map f).sum):=by
 have e:(l.map λk=>D.int (f k))=(l.map f).map D.int:=by simp
 rw[e];exact wL rfl
theorem pQ {kvs:List (List Int×D)}{t u:List Int}{d:D}(h:gD kvs t=none):gD (kvs++[(t,d)]) u=if u=t then some d else gD kvs u:=by
 unfold gD at *
 rw[List.find?_append]
 by_cases e:u=t
 ·subst e;rw[if_pos rfl,Option.map_eq_none_iff.mp h];simp
 ·rw[if_neg e];cases q:kvs.find? λp=>decide (p.1=u)with
  |some p=>rfl
  |none=>simp[aaF e]
theorem iV {kvs:List (List Int×D)}{x y:Int}{i j:Nat}{d:D}(hx:x=(i:Int))(hy:y=(j:Int))(h:gD kvs (tI (i,j))=some d):qJ (dA kvs) (.tup [.int x,.int y])=some d:=by
 subst hx hy;rw[<- h];exact F_ (t:=tI (i,j))
end L2.Q
namespace P2
open PySem PySem.Spec PyProof.Rows
section
variable {A:Zc}{s:Yg}
theorem dk:∀{vs:List Yc} {ns:List Int} {j:Nat},Zg vs ns->∀(h:j<vs.length),∃n t,ns[j]?=some n/\vs[j]=.int n t
 |_,_,_,.nil,h=>by cases h
 |_,_,0,.cons a t _,_=>⟨a,t,rfl,rfl⟩
 |_,_,j+1,.cons a t r,h=>by
  obtain⟨n,t',h1,h2⟩:=dk (j:=j) r (Nat.lt_of_succ_lt_succ h);exact⟨n,t',h1,h2⟩
theorem lG:∀{vs:List Yc} {ns ms:List Int},Zg vs ns->Zg vs ms->ns=ms
 |_,_,_,.nil,.nil=>rfl
 |_,_,_,.cons a t r,.cons _ _ r'=>by rw[lG r r']
theorem z4 {l b:Addr}{items ao:Array Yc}{ns ms:List Int}(hl:IsTup s.heap l items)(hb:IsTup s.heap b ao)(hi:Zg items.toList ns)(hj:Zg ao.toList ms)(ne:ns≠ms)(hu:A.units<aan):SeqAt.EqAt A s (.ref l) (.ref b) false:=by
 have Vz:l≠b:=λz=>by
  subst z;obtain⟨o,g1,_,_,g2⟩:=id hl;obtain⟨o',UA,_,_,Uz⟩:=id hb;rw[g1]at UA;cases UA;rw[g2]at Uz;injection Uz with e
  subst e;exact ne (lG hi hj)
 have q:=SeqAt.RcAt.tuples (e:=λj=>ns[j]?==ms[j]?) hl hb hu λj h1 h2=>by
  obtain⟨n,t,e1,e2⟩:=dk hi (j:=j) (by simpa using h1)
  obtain⟨m,t',e3,e4⟩:=dk hj (j:=j) (by simpa using h2)
  have SX:items[j]=.int n t:=by simpa using e2
  have SW:ao[j]=.int m t':=by simpa using e4
  rw[e1,e3,SX,SW];have:=SeqAt.EqAt.int_int (A:=A.in1) (s:=s) n t m t';simpa using this
 have z1:items.size=ns.length:=by rw[<- hi.length];simp
 have z2:ao.size=ms.length:=by rw[<- hj.length];simp
 have ef:((YF (min items.size ao.size)).all (λj=>ns[j]?==ms[j]?)&&items.size==ao.size)=false:=by
  cases h:((YF (min items.size ao.size)).all (λj=>ns[j]?==ms[j]?)&&items.size==ao.size)with
  |false=>rfl
  |true =>
   refine absurd ?_ ne;rw[Zi,aai,beq_iff_eq]at h;apply aae;intro j
   by_cases FC:j<ns.length
   ·exact beq_iff_eq.mp (h.1 j (Zh.mpr (by lia)))
   ·rw[Zk (by lia),Zk (by lia)]
 rw[ef]at q;exact SeqAt.EqAt.of_refs Vz q
end
section
open PySem.SeqAt
open PySem.AutoSeq1 (wpAny_loadPart')
open PySem.MeetsSeq PySem.MeetsSeq2 PySem.MeetsSeq3
end
end P2
namespace L2
open PySem PySem.Spec PySem.SeqAt PyProof.Rows
section
end
variable {X:Cx}
def S0 (a b:D):Option D:=a.zE.bind λds=>b.int?.bind λk=>if 0<=k/\k<2 ^ 62/\ds.length*k.toNat<=Yy then some (.lst (YO k.toNat ds).flatten) else none
theorem ku {P:Yk}{w:YB}{W:Addr->Prop}{H:Hp}{ds:List D}{vs:List V}(h:aj P w W H ds vs):∀k:Nat,aj P w W H (YO k ds).flatten (YO k vs).flatten
 |0=>rfl
 |k+1=>by
  rw[ZU,aat,ZU,aat];exact h.append (ku h k)
theorem t5 {X:Cx}:OW X (Z5 .Mult) S0:=by
 intro pins s σ H x y v u Q I rx ry h;obtain⟨W,d1,d2,d,hd,r1,r2,e,q⟩:=h;obtain⟨ds,h1,e⟩:=Y6.mp e;obtain⟨k,h2,e⟩:=Y6.mp e;obtain⟨⟨k0,k1,hl⟩,rfl⟩:=c_ e;rw[D.mf h1]at r1;rw[D.xY h2]at r2;obtain⟨p,vs,rfl,g1,n1,q1⟩:=r1;exact IQ pins s σ H _ _ v u Q I rx ry ⟨p,k,vs,rfl,r2,g1,by lia,by lia,by rw[q1.length];exact hl,λl lS=>q _ _ (ay.new lS) (Rp.kL hd lS (ku q1 _)) λf=>zC lS f (ku q1 _)⟩
namespace Q
section
end
end Q
end L2
namespace lN
open PySem L2 L2.Q
def uP:FD:=λds R=>∃m:Int,ds=[.int m]/\0<=m/\m<=40/\∀(n:Int) ts,0<=n->n<=m->Drawn n ts->R (.tup [.int n,.lst (ts.map kD)])
theorem uP.mono:cW uP:=λds R R' k h=>by obtain⟨m,e,h1,h2,q⟩:=h;exact⟨m,e,h1,h2,λn ts a b c=>k _ (q n ts a b c)⟩
theorem z5 {n:Int}{ks:List (List Int)}(h:iu n ks)(nd:ks.Nodup):∃ts,cutD ((lr ks).map kD) none (some 300)=ts.map kD/\Drawn n ts:=by
 refine⟨(lr ks).take (min 300 (lr ks).length),?_,?_,?_,?_,?_⟩
 ·unfold cutD;rw[HT.jx,show (some (300:Int))=some ((300:Nat):Int) from rfl,HT.l5,List.drop_zero,<- abd]
  simp
 ·rw[YQ];lia
 ·exact λt ht=>h t ((jq _).mem_iff.mp (List.mem_of_mem_take ht))
 ·exact List.Pairwise.take (mQ _)
 ·exact List.Nodup.sublist (aas _ _) ((jq _).nodup_iff.mpr nd)
section
variable {P:Yk}{w:YB}{K:PySem.W.Frag}{mg:Str->Option Yc}{base:Heap}
theorem bh:aI ["deck","most","size","great","many","ties","way","a","b","k"] ["deck","most"] (ar g9):=⟨rfl,rfl,rfl,by decide +kernel,rfl,by decide +kernel,by decide +kernel⟩
theorem I9 {PL FT} (dR:D0 K mg PL FT) {Ol C5} (dT:D1 K mg Ol C5) (B:Bs mg):aH P w K mg base bp 3 PL FT ["deck","most"] (o3 P w vq true uP):=by
 have GT:aH P w K mg base bp 1 _ _ _ (o3 P w vq true b7):=rY dT.F;refine Ma dR.F bh (λds R NO=> by obtain⟨m,e,_⟩ := NO;subst e;rfl) λcF A outer s H E IO hr=>⟨_,(ag (aJ (i:=2) (aK af a9 (aD aF au (aD aF au (aD aF t5 (bw (aa ah ae)) ah) (aD aF t5 (bw (aa ah ae)) ah)) (bw (aa ah ae))) (bo (ih:=0) b7.mono GT (hr.mono (by decide)) dT.m dT.F.kp dT.b (aa ah ae))) bh.nd)
    (ag (aJ (i:=3) (aK af a9 (bw (aa (bo (ih:=0) b7.mono GT (hr.mono (by decide)) dT.m dT.F.kp dT.b (aa (aD aF au (ab (i:=1)) ah) ae)) (aa (ab (i:=1)) ae))) (bo (ih:=0) b7.mono GT (hr.mono (by decide)) dT.m dT.F.kp dT.b (aa ah ae))) bh.nd)
    (ag (aJ (i:=4) (bT af (c5.m (i6 rfl)) B.min w5 (aa (ab (i:=1)) (aa (aK af a9 (bw (aa (bo (ih:=0) b7.mono GT (hr.mono (by decide)) dT.m dT.F.kp dT.b (aa ah ae)) (aa (bo (ih:=0) b7.mono GT (hr.mono (by decide)) dT.m dT.F.kp dT.b (aa ah ae)) (aa (ab (i:=3)) ae)))) (ab (i:=2))) ae))) bh.nd)
    (ag (jB (i:=5) (λ_=>(EE true)) bh.nd)
    (ag (aJ (i:=6) (bo (ih:=0) b7.mono GT (hr.mono (by decide)) dT.m dT.F.kp dT.b (aa ah ae)) bh.nd)
    (ag (bx Y3 rfl (cD B.range (aa (ab (i:=4)) ae)) (ak (i:=7) bh.nd) (jA (bG (oU.t (d3 (aE af (bg.m (fh hr.units)) (ab (i:=6)) ah) (dj (aE af (bg.m bK) (aD aF au (ab (i:=7)) ah) (ab (i:=4)))))) (ai (l8 (i:=5) hr.cJ (aZ (aa (ab (i:=7)) (aa (aD aF au (ab (i:=7)) ah) ae))))) aT)
    (jA (bG (oU.t (d3 (aE af (bg.m (fh hr.units)) (ab (i:=6)) ah) (dj (aE af (bg.m bK) (ab (i:=7)) (aD af (bg.m cP) (aD af (bg.m cP) (ab (i:=4)) ah) (ab (i:=7))))))) (ai (l8 (i:=5) hr.cJ (aZ (aa (ab (i:=7)) (aa (aD af (bg.m cP) (aD af (bg.m cP) (ab (i:=4)) ah) (ab (i:=7))) ae))))) aT)
    (ai (bx Y3 rfl (m_ B.range (aa (aD aF au (ab (i:=7)) ah) (aa (bT af (c5.m (i6 rfl)) B.min w5 (aa (ab (i:=4)) (aa ah ae))) ae))) (ak (i:=8) bh.nd) (ai (bG (oU.t (gL (aE af (bg.m (fh hr.units)) (ab (i:=6)) ah) (hG (oU.t (d3 (aE af (bg.m (fh hr.units)) (ab (i:=6)) ah) (dj (aE af (bg.m (fh hr.units)) (bo (ih:=0) b7.mono GT (hr.mono (by decide)) dT.m dT.F.kp dT.b (aa ah ae)) ah))))))) (ai (l8 (i:=5) hr.cJ (aZ (aa (ab (i:=7)) (aa (ab (i:=8)) ae))))) aT)))))))
    (ag (bx Y3 rfl (cD B.range (aa (aD af (bg.m rT) (bo (ih:=0) b7.mono GT (hr.mono (by decide)) dT.m dT.F.kp dT.b (aa (aK af a9 (bw (aa ah (aa ah (aa ah ae)))) (bo (ih:=0) b7.mono GT (hr.mono (by decide)) dT.m dT.F.kp dT.b (aa ah ae))) ae)) (p_ af (c5.m Ah) B.int KC (aa (iR af (bg.m v7) (ab (i:=4)) ah) ae))) ae)) (ak (i:=9) bh.nd) (ag (aJ (i:=7) (bo (ih:=0) b7.mono GT (hr.mono (by decide)) dT.m dT.F.kp dT.b (aa (ab (i:=4)) ae)) bh.nd)
    (ag (aJ (i:=8) (aD af (bg.m l9) (aD aF au (aD aF au (ab (i:=7)) ah) (bo (ih:=0) b7.mono GT (hr.mono (by decide)) dT.m dT.F.kp dT.b (aa (aD af (bg.m cP) (ab (i:=4)) ah) ae))) (ab (i:=4))) bh.nd)
    (ai (l8 (i:=5) hr.cJ (aZ (aa (bT af (c5.m (i6 rfl)) B.min w5 (aa (ab (i:=7)) (aa (ab (i:=8)) ae))) (aa (bT af (c5.m (wZ rfl)) B.max Dy (aa (ab (i:=7)) (aa (ab (i:=8)) ae))) ae))))))))
    (ai (aN (aZ (aa (ab (i:=4)) (aa (p0 (bT aF (sL rfl) B.sorted lb (aa (ab (i:=5)) ae)) fA (fz ah)) ae)))))))))))),λds R h=>?_⟩
 obtain⟨m,rfl,XR,Py,q⟩:=h;have sQ:(1:Nat)<=Yy:=gk (by lia)
 refine⟨trivial,sQ,trivial,_,rfl,.inl ⟨rfl,trivial,trivial,sQ,trivial,_,rfl,.inl ⟨rfl,_,rfl,.inl ⟨rfl,trivial,trivial,sQ,_,rfl,.inl ⟨rfl,trivial,rfl,trivial,rfl,trivial,16,rfl,by lia,by lia,λr r0 r1=>pick r0 (by simpa using r1) λd hd=>?_⟩⟩⟩⟩⟩
 obtain⟨sz,rfl,s0,s1⟩:∃s:Nat,d=.int (s:Int)/\0<=s/\s<=2:=by
  simp at hd;rcases hd with rfl|rfl|rfl
  ·exact⟨0,rfl,by lia,by lia⟩
  ·exact⟨1,rfl,by lia,by lia⟩
  ·exact⟨2,rfl,by lia,by lia⟩
 refine⟨rfl,_,rfl,trivial,_,rfl,trivial,rfl,trivial,m+1,rfl,by lia,by lia,λg0 XZ XY=>⟨trivial,_,rfl,trivial,gY,trivial,rfl,trivial,rfl,trivial,2,rfl,by lia,by lia,λr r0 r1=>pick r0 (by simpa using r1) λd hd=>?_⟩⟩
 obtain⟨gr,rfl,WM,XX⟩:∃s:Int,d=.int s/\0<=s/\s<=m:=by
  simp only[Yi,ZY,or_false]at hd;rcases hd with rfl|rfl
  ·exact⟨g0,rfl,by lia,by lia⟩
  ·exact⟨m,rfl,by lia,by lia⟩
 refine⟨_,rfl,trivial,rfl,trivial,rfl,trivial,7,rfl,by lia,by lia,λu u0 u1=>⟨trivial,rfl,trivial,rfl,trivial,11,rfl,by lia,by lia,λv v0 v1=>⟨trivial,_,rfl,trivial,O8,trivial,_,rfl,pick (by lia) (by show (sz:Int)<3;lia) λd hd=>?_⟩⟩⟩
 obtain⟨x,rfl,Rh⟩:∃s:Int,d=.int s/\0<=s:=by
  simp only[Yi,ZY,or_false]at hd;rcases hd with rfl|rfl|rfl
  ·exact⟨u,rfl,u0⟩
  ·exact⟨v,rfl,v0⟩
  ·exact⟨gr,rfl,WM⟩
 obtain⟨n,hn,n0,n1⟩:∃n:Int,uX [.int m,.int x]=some (.int n)/\0<=n/\n<=m:=⟨_,uW,by split <;> lia,by split <;> lia⟩
 refine⟨trivial,_,hn,trivial,?_⟩;refine⟨rfl,trivial,rfl,trivial,6,rfl,by lia,by lia,λway w0 w1=>?_⟩
 have add:∀{ts:List (List Int)} {t:List Int},ts.Nodup->iu n ts->PY n t->(vf ts t).Nodup/\iu n (vf ts t)/\(vf ts t).length<=ts.length+1:=λ{ts t} h1 h2 h3=>by
  unfold vf
  split
  ·exact⟨h1,h2,by lia⟩
  ·next hn =>
   refine⟨Zq.mpr ⟨h1,by simp,λx hx y hy z=>?_⟩,λu hu=>?_,by simp⟩
   ·rw[Ys.mp hy]at z;exact hn (by rw[<- z];exact hx)
   ·rcases YL.mp hu with z|z
    ·exact h2 u z
    ·rw[Ys.mp z];exact h3
 refine⟨_,rfl,trivial,n,rfl,by lia,by lia,trivial,?_⟩
 refine⟨λi β=>∃(ts:List (List Int)) (x7 x8 x9:Option Q.B),β=[some (.hand vq),some (.val false (.int m)),some (.val true (.int sz)),some (.val true (.int gr)),some (.val true (.int n)),some (.own (dP ts true)),some (.val true (.int way)),x7,x8,x9]/\ts.Nodup/\iu n ts/\ts.length<=2*i+23*min i 23,⟨[],_,_,_,rfl,ZF,iu.nil,by simp⟩,?_,?_⟩
 ·rintro i d β hd ⟨ts,x7,x8,x9,rfl,h1,h2,h3⟩;obtain⟨hi,rfl⟩:=cO hd;refine⟨λβ=>∃(ts:List (List Int)) (x8 x9:Option Q.B),β=[some (.hand vq),some (.val false (.int m)),some (.val true (.int sz)),some (.val true (.int gr)),some (.val true (.int n)),some (.own (dP ts true)),some (.val true (.int way)),some (.val true (.int (0+(i:Int)))),x8,x9]/\ts.Nodup/\iu n ts/\ts.length<=2*i+23*min i 23+1,?_,?_⟩
  ·refine⟨_,rfl,trivial,_,cT _ _,_,rfl,lR (λ_=>⟨_,rfl,trivial,_,rfl,trivial,_,rfl,_,rfl,_,rfl,lR (λdt=>?_) (λ_=>⟨ts,_,_,rfl,h1,h2,by lia⟩)⟩) (λ_=>f9 rfl ⟨ts,_,_,rfl,h1,h2,by lia⟩)⟩
   obtain⟨g1,g2,g3⟩:=add h1 h2 (t:=[0+(i:Int),0+(i:Int)+1]) ⟨_,_,rfl,by lia,by lia,by lia⟩
   exact⟨⟨_,rfl⟩,_,rfl,trivial,_,rfl,trivial,_,rfl,trivial,gY,ts,[0+(i:Int),0+(i:Int)+1],rfl,rfl,by rw[Zv];lia,_,_,_,rfl,g1,g2,by lia⟩
  rintro β ⟨ts,x8,x9,rfl,h1,h2,h3⟩;refine⟨λβ=>∃(ts:List (List Int)) (x8 x9:Option Q.B),β=[some (.hand vq),some (.val false (.int m)),some (.val true (.int sz)),some (.val true (.int gr)),some (.val true (.int n)),some (.own (dP ts true)),some (.val true (.int way)),some (.val true (.int (0+(i:Int)))),x8,x9]/\ts.Nodup/\iu n ts/\ts.length<=2*i+23*min i 23+2,?_,?_⟩
  ·refine⟨_,rfl,trivial,_,cT _ _,_,rfl,lR (λ_=>⟨_,rfl,trivial,_,rfl,trivial,_,rfl,trivial,_,rfl,_,rfl,_,rfl,_,rfl,lR (λdt=>?_) (λ_=>⟨ts,_,_,rfl,h1,h2,by lia⟩)⟩) (λ_=>f9 rfl ⟨ts,_,_,rfl,h1,h2,by lia⟩)⟩
   obtain⟨g1,g2,g3⟩:=add h1 h2 (t:=[0+(i:Int),n-1-(0+(i:Int))]) ⟨_,_,rfl,by lia,by lia,by lia⟩
   exact⟨⟨_,rfl⟩,_,rfl,trivial,_,rfl,trivial,_,rfl,trivial,_,rfl,_,rfl,trivial,gY,ts,[0+(i:Int),n-1-(0+(i:Int))],rfl,rfl,by rw[Zv];lia,_,_,_,rfl,g1,g2,by lia⟩
  rintro β ⟨ts,x8,x9,rfl,h1,h2,h3⟩;obtain⟨gx,R1,PD,FF⟩:∃h:Int,uX [.int n,.int 24]=some (.int h)/\h<=n/\h<=24/\0<=h:=⟨_,uW,by split <;> lia,by split <;> lia,by split <;> lia⟩
  refine⟨_,rfl,trivial,_,rfl,trivial,_,rfl,trivial,trivial,_,R1,trivial,0+(i:Int)+1,gx,rfl,⟨by lia,by lia,by lia,by lia⟩,trivial,?_⟩
  refine⟨λj β=>∃(ts:List (List Int)) (x8 x9:Option Q.B),β=[some (.hand vq),some (.val false (.int m)),some (.val true (.int sz)),some (.val true (.int gr)),some (.val true (.int n)),some (.own (dP ts true)),some (.val true (.int way)),some (.val true (.int (0+(i:Int)))),x8,x9]/\ts.Nodup/\iu n ts/\ts.length<=2*i+23*min i 23+2+j,⟨ts,_,_,rfl,h1,h2,by lia⟩,?_,?_⟩
  ·rintro j d β hd ⟨ts,x8,x9,rfl,h1,h2,h3⟩;obtain⟨hj,rfl⟩:=cO hd;obtain⟨g1,g2,g3⟩:=add h1 h2 (t:=[0+(i:Int),0+(i:Int)+1+(j:Int)]) ⟨_,_,rfl,by lia,by lia,by lia⟩
   refine⟨_,rfl,trivial,_,cT _ _,_,rfl,lR (λ_=>j4 rfl ?_) (λ_=>⟨_,rfl,trivial,_,cT _ _,_,rfl,lR (λ_=>⟨rfl,trivial,rfl,trivial,3,rfl,by lia,by lia,λr r0 r1=>⟨trivial,_,cT _ _,_,rfl,lR (λ_=>?_) (λ_=>⟨ts,_,_,rfl,h1,h2,by lia⟩)⟩⟩) (λ_=>f9 rfl ⟨ts,_,_,rfl,h1,h2,by lia⟩)⟩)⟩
   ·exact⟨⟨_,rfl⟩,_,rfl,trivial,_,rfl,trivial,gY,ts,[0+(i:Int),0+(i:Int)+1+(j:Int)],rfl,rfl,by rw[Zv];lia,_,_,_,rfl,g1,g2,by lia⟩
   ·exact⟨⟨_,rfl⟩,_,rfl,trivial,_,rfl,trivial,gY,ts,[0+(i:Int),0+(i:Int)+1+(j:Int)],rfl,rfl,by rw[Zv];lia,_,_,_,rfl,g1,g2,by lia⟩
  ·rintro β ⟨ts,x8,x9,rfl,h1,h2,h3⟩;rw[cN]at h3;exact⟨ts,_,_,_,rfl,h1,h2,by lia⟩
 ·rintro β ⟨ts,x7,x8,x9,rfl,h1,h2,h3⟩;rw[cN]at h3;refine⟨rfl,trivial,trivial,trivial,O8,trivial,rfl,trivial,rfl,trivial,3,rfl,by lia,by lia,λr r0 r1=>pick r0 (by simpa using r1) λd hd=>?_⟩
  obtain⟨mm,rfl,VI,XB⟩:∃m:Int,d=.int m/\0<m/\m<=301:=by
   simp only[Yi,ZY,or_false]at hd;rcases hd with rfl|rfl|rfl
   ·exact⟨5,rfl,by lia,by lia⟩
   ·exact⟨21,rfl,by lia,by lia⟩
   ·exact⟨301,rfl,by lia,by lia⟩
  refine⟨trivial,rfl,trivial,mm,rfl,VI,by lia,λc c0 c1=>?_⟩
  have Oo:Ks (.int c) (.int (if decide (n>1)=true then 1 else 0))=some (.int (c*(if decide (n>1)=true then 1 else 0))):=by
   show (if lU c _ then some _ else none)=_
   rw[if_pos (show lU c (if decide (n>1)=true then 1 else 0) from .inl ⟨by lia,by lia⟩)]
  have hj:0<=c*(if decide (n>1)=true then 1 else 0)/\c*(if decide (n>1)=true then 1 else 0)<=300/\(¬ n>1->c*(if decide (n>1)=true then 1 else 0)=0):=by
   by_cases hn:n>1
   ·simp[hn];lia
   ·simp[hn]
  generalize c*(if decide (n>1)=true then 1 else 0)=j at Oo hj
  refine⟨trivial,_,rfl,trivial,_,rfl,trivial,_,rfl,_,Oo,trivial,j,rfl,by lia,by lia,trivial,?_⟩
  refine⟨λi β=>∃(ts:List (List Int)) (x7 x8 x9:Option Q.B),β=[some (.hand vq),some (.val false (.int m)),some (.val true (.int sz)),some (.val true (.int gr)),some (.val true (.int n)),some (.own (dP ts true)),some (.val true (.int way)),x7,x8,x9]/\ts.Nodup/\iu n ts/\ts.length<=609+i,⟨ts,_,_,_,rfl,h1,h2,by lia⟩,?_,?_⟩
  ·rintro i d β hd ⟨ts,x7,x8,x9,rfl,h1,h2,h3⟩;obtain⟨hi,rfl⟩:=cO hd;have RY:n>1:=Y1 λz=>by have:=hj.2.2 z;lia
   refine⟨rfl,_,rfl,trivial,rfl,trivial,n,rfl,by lia,by lia,λone o0 o1=>?_⟩
   refine⟨_,rfl,trivial,_,rfl,trivial,rfl,_,rfl,trivial,_,rfl,trivial,rfl,trivial,n-1,rfl,by lia,by lia,λr' Xx KU=>?_⟩
   have RZ:F2 (.int (one+1+r')) (.int n)=some (.int ((one+1+r') % n)):=if_pos (by lia)
   refine⟨_,rfl,trivial,_,rfl,_,RZ,?_⟩;have Ka:(one+1+r') % n≠one/\0<=(one+1+r') % n/\(one+1+r') % n<n:=by
    by_cases dt:one+1+r'<n
    ·rw[Int.emod_eq_of_lt (by lia) dt];lia
    ·rw[show one+1+r'=(one+1+r' - n)+n by lia,Int.add_emod_right,Int.emod_eq_of_lt (by lia) (by lia)];lia
   generalize (one+1+r') % n=GD at Ka;obtain⟨g1,g2,g3⟩:=add h1 h2 (t:=[if GD<one then GD else one,if GD>one then GD else one]) ⟨_,_,rfl,by split <;> lia,by split <;> (try split) <;> lia,by split <;> lia⟩
   exact⟨⟨_,rfl⟩,_,rfl,trivial,_,rfl,trivial,_,rfl,trivial,_,rfl,trivial,_,rfl,trivial,_,rfl,trivial,gY,ts,[if GD<one then GD else one,if GD>one then GD else one],rfl,rfl,by rw[Zv];lia,_,_,_,_,rfl,g1,g2,by lia⟩
  ·rintro β ⟨ts,x7,x8,x9,rfl,h1,h2,h3⟩;rw[cN]at h3;refine⟨_,rfl,trivial,_,rfl,trivial,_,Eo h2.ne (by lia),.inl ⟨n_ _,300,rfl,_,rfl,?_⟩⟩
   obtain⟨us,e,dr⟩:=z5 h2 h1;rw[e];exact .inl ⟨n_ _,trivial,gY,trivial,rfl,q n us n0 n1 dr⟩
end
section
variable {P:Yk}{w:YB}{K:PySem.W.Frag}{mg:Str->Option Yc}{base:Heap}
theorem ic:aI ["many"] ["many"] (ar bJ):=⟨rfl,rfl,rfl,by decide +kernel,rfl,by decide +kernel,by decide +kernel⟩
theorem EX {ip dG} (pF:D2 K mg ip dG) (B:sY mg):aH P w K mg base bp 1 ip dG ["many"] (bX P w true C7):=by
 refine lP pF.F ic (λds R NN=> by obtain⟨n,e,_⟩ := NN;subst e;rfl) λcF A outer s H E hr=>⟨_,(ai (aN (VM ["i","j","many"] [none,none,some 0] (by rfl) (by decide:(["i","j","many"]:List Str).Nodup) rfl (m9 B.range (aa (aD af (bg.m cP) (ab (i:=0)) ah) (aa (tU ji ah) (aa (tU ji ah) ae)))) (λ_ _ _ _ _ _=>(ak (i:=0) (by decide:(["i","j","many"]:List Str).Nodup))) (λ_ _ _ _ _ _=>kc) (λ_ _ _ _ _ _=>(vX B.range (aa (aD aF au (ab (i:=0)) ah) (aa (aD aF au (ab (i:=2)) ah) ae)))) (λ_ _ _ _ _ _=>(ak (i:=1) (by decide:(["i","j","many"]:List Str).Nodup))) (λ_ _ _ _ _ _=>kc) (λ_ _ _ _ _ _=>(aZ (aa (ab (i:=0)) (aa (ab (i:=1)) ae))))))),λds R h=>?_⟩
 obtain⟨n,rfl,hn,q⟩:=h;refine⟨_,rfl,trivial,_,rfl,trivial,_,rfl,rfl,trivial,_,rfl,rfl,trivial,(n:Int)-1,-1,rfl,⟨by lia,by lia,by lia,by lia⟩,trivial,?_⟩
 have en:((n:Int)-1 - -1).toNat=n:=by lia
 rw[en];refine⟨λa β o=>a<=n/\(∃x0 x1,β=[x0,x1,some (.val false (.int n))])/\o=(((YF n).take a).flatMap (eO n)).map l6,⟨Yz _,⟨_,_,rfl⟩,rfl⟩,?_,?_⟩
 ·rintro a d β o hd ⟨ha,⟨x0,x1,rfl⟩,rfl⟩;obtain⟨PJ,rfl⟩:=mZ hd;have e1:(n:Int)-1-a=((n-1-a:Nat):Int):=by lia
  rw[e1];refine⟨_,rfl,trivial,_,rfl,trivial,_,rfl,trivial,_,rfl,trivial,((n-1-a:Nat):Int)+1,(n:Int)+1,rfl,⟨by lia,by lia,by lia,by lia⟩,?_⟩
  have e2:((n:Int)+1-(((n-1-a:Nat):Int)+1)).toNat=a+1:=by lia
  rw[e2];refine⟨λb β o=>b<=a+1/\(∃x1,β=[some (.val true (.int ((n-1-a:Nat):Int))),x1,some (.val false (.int n))])/\o=(((YF n).take a).flatMap (eO n)++(eO n a).take b).map l6,⟨Yz _,⟨_,rfl⟩,by simp⟩,?_,?_⟩
  ·rintro b d β o hd ⟨hb,⟨x1,rfl⟩,rfl⟩;obtain⟨ij,rfl⟩:=cO hd;refine⟨_,rfl,trivial,_,rfl,trivial,gY,trivial,?_,ij,⟨_,rfl⟩,?_⟩
   ·rw[Ye,YR];exact AZ hn PJ ij
   ·rw[show ((n-1-a:Nat):Int)+1+(b:Int)=((n-a+b:Nat):Int) by lia,zc ij,<- Zj,YN,YN,YN]
    rfl
  ·rintro β o ⟨_,⟨x1,rfl⟩,rfl⟩;refine⟨PJ,⟨_,_,rfl⟩,?_⟩;rw[cN,Be,Zf,Z6 PJ,List.flatMap_append];simp
 ·rintro β o ⟨_,⟨x0,x1,rfl⟩,rfl⟩;rw[mY,ZS (by simp)]
  exact⟨trivial,trivial,q⟩
theorem bD:aI ["row","many","ties","partners","a","b"] ["row"] (ar da):=⟨rfl,rfl,rfl,by decide +kernel,rfl,by decide +kernel,by decide +kernel⟩
theorem EY {iq dI} (pG:D3 K mg iq dI) (B:sY mg):aH P w K mg base bp 1 iq dI ["row"] (bX P w true uQ):=by
 refine lP pG.F bD (λds R NM=> by obtain⟨n,ps,e,_⟩ := NM;subst e;rfl) λcF A outer s H E hr=>⟨_,(ag (nh (ab (i:=0)) (cy (n:=2) rfl (aM (ak (i:=1) bD.nd) (aM (ak (i:=2) bD.nd) bM))))
    (ag (Bd (i:=3) true ["point"] [none] (by rfl) (by decide:(["point"]:List Str).Nodup) rfl (λ_=>(cD B.range (aa (ab (i:=1)) ae))) (λ_ _ _ _ _ _=>(ak (i:=0) (by decide:(["point"]:List Str).Nodup))) (λ_ _ _ _ _ _=>kc) (λ_ _ _ _ _ _=>(bw ae)) bD.nd)
    (ag (bx Y3 rfl (aW (ab (i:=2))) (cy (n:=2) rfl (aM (ak (i:=4) bD.nd) (aM (ak (i:=5) bD.nd) bM))) (ai (lC (i:=3) true (λ_=>(ab (i:=5))) (λ_=>(ab (i:=4))))))
    (ai (l7 (i:=3)))))),λds R h=>?_⟩
 obtain⟨n,ps,rfl,ok,q⟩:=h;have hn:=ok.le;refine⟨_,rfl,_,rfl,rfl,_,_,rfl,_,_,rfl,rfl,_,rfl,trivial,n,rfl,by lia,by lia,trivial,?_⟩
 rw[ZE];refine fX (λ_=>true) (λ_=>.lst []) trivial (by rw[Zr];exact gk (by lia)) (λx hx x0 o J ho h1 _=>⟨Yz _,trivial,ho,h1 rfl _⟩) ?_
 rw[fb];refine⟨_,rfl,_,rfl,trivial,?_⟩;refine⟨λm β=>∃x4 x5,β=[some (.val false (jZ n ps)),some (.val true (.int n)),some (.val false (dN ps)),some (.own (Pe n (ps.take m))),x4,x5],⟨_,_,rfl⟩,?_,?_⟩
 ·rintro m d β hd ⟨x4,x5,rfl⟩;rw[Yu]at hd;obtain⟨p,hp,rfl⟩:=Yt.mp hd;obtain⟨h1,h2⟩:=ok.lt p (YW hp);refine⟨_,rfl,rfl,_,_,rfl,_,_,rfl,rfl,⟨_,rfl⟩,_,rfl,_,_,_,_,rfl,rfl,by rw[Ye,Zr];exact MD rfl (show p.1<n by lia),eZ (show p.1<n by lia),_,rfl,trivial,rfl,?_,?_⟩
  ·unfold Q.bz;rw[Ye];have:=EC (ps:=ps.take m) (i:=p.1);rw[YQ]at this;have:=ok.sm;exact AY (by lia)
  ·refine⟨some (.val true (.int p.1)),some (.val true (.int p.2)),?_⟩;have e:ps.take (m+1)=ps.take m++[(p.1,p.2)]:=by rw[Zf,hp];rfl
   rw[Ii (show p.1<n by lia),e]
   rfl
 ·rintro β ⟨x4,x5,rfl⟩;rw[Ye,ZL];exact⟨_,rfl,q⟩
end
section
variable {P:Yk}{w:YB}{K:PySem.W.Frag}{mg:Str->Option Yc}{base:Heap}
theorem o7:aI ["i","k","j"] ["i","k","j"] (ar dU):=⟨rfl,rfl,rfl,by decide +kernel,rfl,by decide +kernel,by decide +kernel⟩
theorem BV {gA cZ} (oC:D4 K mg gA cZ):aH P w K mg base bp 1 gA cZ ["i","k","j"] (bX P w true oi):=by
 refine lP oC.F o7 (λds R NK=> by obtain⟨i,k,j,e,_⟩ := NK;subst e;rfl) λcF A outer s H E hr=>⟨_,(jA (bG (aE af (bg.m l_) (ab (i:=1)) dw) (ai (aN (bw (aa (aZ (aa (aD aF au (ab (i:=0)) ah) (aa (ab (i:=2)) ae))) ae)))) aT)
    (ai (aN (bw (aa (aZ (aa (aD aF au (ab (i:=0)) ah) (aa (ab (i:=1)) ae))) (aa (aZ (aa (aD aF au (ab (i:=1)) ah) (aa (ab (i:=2)) ae))) ae)))))),λds R h=>?_⟩
 obtain⟨i,k,j,rfl,q⟩:=h;cases k with
 |none=>exact⟨λ_=>False,⟨_,rfl,trivial,_,rfl,_,rfl,j4 rfl ⟨_,rfl,trivial,_,rfl,trivial,_,rfl,trivial,gY,trivial,sQ,trivial,q⟩⟩,λ_ z=>z.elim⟩
 |some k =>
  refine⟨λβ=>β=[some (.val false (.int i)),some (.val false (.int k)),some (.val false (.int j))],⟨_,rfl,trivial,_,rfl,_,rfl,f9 rfl rfl⟩,?_⟩;rintro β rfl;exact⟨_,rfl,trivial,_,rfl,trivial,_,rfl,trivial,gY,trivial,_,rfl,trivial,_,rfl,trivial,_,rfl,trivial,gY,trivial,gY,trivial,q⟩
end
end lN
namespace L2.Q
open PySem PySem.Spec PySem.SeqAt PyProof.Rows
theorem f_ {α:Type}{f g:α->Nat}:∀{l:List α} {b:Nat},(∀p∈l,f p=g p)->l.foldl (λa p=>a*f p) b=l.foldl (λa p=>a*g p) b
 |[],_,_=>rfl
 |x::l,b,h=>by
  rw[aaU,aaU,h x (by simp)]
  exact f_ λp hp=>h p (by simp[hp])
theorem IA {ps:List (Nat×Nat)}{i:Nat}(h:ps.Nodup):(iA ps i).Nodup:=by
 unfold iA;refine ZD.mpr (List.Pairwise.imp_of_mem ?_ (List.Pairwise.filter _ h));intro a b ha hb AA e;have h1:=(Y9.mp ha).2;have h2:=(Y9.mp hb).2;simp only[decide_eq_true_eq]at h1 h2;exact AA (Prod.ext (by rw[h1,h2]) e)
theorem B8:∀{n i:Nat} {l:List Nat},l.Nodup->(∀x∈l,i<=x/\x<i+n)->l.length<=n
 |0,i,l,_,h=>by
  cases l with
  |nil=>exact Yh _
  |cons x l=>have:=h x (by simp);lia
 |n+1,i,l,nd,h=>by
  have q:=B8 (n:=n) (i:=i) (nd.erase (i+n)) λx hx=>by
   have:=nd.mem_erase_iff.mp hx;have:=h x this.2;lia
  have:=List.length_erase (a:=i+n) (l:=l)
  split at this <;> lia
theorem xm {α:Type}{f:α->Nat}{c:Nat}:∀{l:List α},(∀x∈l,f x<=c)->(l.map f).sum<=l.length*c
 |[],_=>Yz _
 |x::l,h=>by
  have h1:=h x (by simp)
  have h2:=xm (l:=l) λy hy=>h y (by simp[hy])
  rw[YA,aaP,Yw,Nat.add_mul,aay];lia
def fq (ps:List (Nat×Nat))(i j:Nat):List (Option Nat):=((iA ps i).filter λk=>decide (k<j)).map some++[none]
theorem nE {ps:List (Nat×Nat)}{i j:Nat}{c:Option Nat}(h:c∈fq ps i j):match c with|none=>True|some k=>(i,k)∈ps/\k<j/\True:=by
 cases c with
 |none=>trivial
 |some k =>
  rcases YL.mp h with h|h
  ·obtain⟨k',h',e⟩:=YK.mp h;cases e;obtain⟨h1,h2⟩:=Y9.mp h';exact⟨sf.mp h1,of_decide_eq_true h2,trivial⟩
  ·cases Ys.mp h
def KS (ps:List (Nat×Nat)):Nat->Nat->Nat->Nat
 |0,_,_=>1
 |_+1,0,_=>1
 |n+1,l+1,i=>((fq ps i (i+l+1)).map λc=>(parts i c (i+l+1)).foldl (λa p=>a*KS ps n (p.2-p.1) p.1) 1).sum
def sa (ps:List (Nat×Nat))(l i:Nat):Nat:=KS ps l l i
theorem ni {ps:List (Nat×Nat)}(hp:∀p∈ps,p.1<p.2){i l:Nat}{c:Option Nat}(hc:c∈fq ps i (i+l+1)){p:Nat×Nat}(h:p∈parts i c (i+l+1)):i<p.1/\p.1<=p.2/\p.2<=i+l+1:=by
 have o:=nE hc;cases c with
 |none =>
  rw[Ys.mp h];exact⟨aa_ _,by show i+1<=i+l+1;lia,Yh _⟩
 |some k =>
  obtain⟨o1,o2,_⟩:=o;have:=hp _ o1;dsimp only at this;rcases Yi.mp h with rfl|h
  ·exact⟨aa_ _,by show i+1<=k;lia,by show k<=_;lia⟩
  ·rw[Ys.mp h];exact⟨by show i<k+1;lia,by show k+1<=_;lia,Yh _⟩
theorem tL {ps:List (Nat×Nat)}(hp:∀p∈ps,p.1<p.2):∀{n m l i:Nat},l<=n->l<=m->KS ps n l i=KS ps m l i
 |0,m,l,i,h1,h2=>by
  rw[show l=0 by lia]
  cases m <;> rfl
 |n+1,m,0,i,h1,h2=>by cases m <;> rfl
 |n+1,0,l+1,i,h1,h2=>by lia
 |n+1,m+1,l+1,i,h1,h2=>by
  show ((fq ps i (i+l+1)).map _).sum=((fq ps i (i+l+1)).map _).sum
  congr 1
  refine Zw λc hc=>f_ λp h=>?_;obtain⟨a,b,d⟩:=ni hp hc h;exact tL hp (by lia) (by lia)
theorem l4 {ps:List (Nat×Nat)}(hp:∀p∈ps,p.1<p.2){l i:Nat}:sa ps (l+1) i=((fq ps i (i+l+1)).map λc=>(parts i c (i+l+1)).foldl (λa p=>a*sa ps (p.2-p.1) p.1) 1).sum:=by
 show ((fq ps i (i+l+1)).map _).sum=_
 congr 1
 refine Zw λc hc=>f_ λp h=>?_;obtain⟨a,b,d⟩:=ni hp hc h;exact tL hp (by lia) (Yh _)
theorem ve {ps:List (Nat×Nat)}(hp:∀p∈ps,p.1<p.2)(nd:ps.Nodup){l i:Nat}:(fq ps i (i+l+1)).length<=l+1:=by
 unfold fq;rw[YR,Ye];have h:=B8 (n:=l) (i:=i+1) ((IA nd).sublist (List.filter_sublist (p:=λk=>decide (k<i+l+1)))) λx hx=>by
  obtain⟨h1,h2⟩:=Y9.mp hx;have:=hp (i,x) (sf.mp h1);have:=of_decide_eq_true h2;dsimp only at *
  lia
 show _+1<=_;lia
def eh (ps:List (Nat×Nat))(i j:Nat)(c:Option Nat):Nat:=(parts i c j).foldl (λa p=>a*sa ps (p.2-p.1) p.1) 1
theorem iQ {ps:List (Nat×Nat)}{i j:Nat}:eh ps i j none=sa ps (j-(i+1)) (i+1):=by
 show 1*_=_;rw[aay]
theorem iP {ps:List (Nat×Nat)}{i j k:Nat}:eh ps i j (some k)=sa ps (k-(i+1)) (i+1)*sa ps (j-(k+1)) (k+1):=by
 show 1*_*_=_;rw[aay]
theorem tK {ps:List (Nat×Nat)}(hp:∀p∈ps,p.1<p.2)(nd:ps.Nodup):∀l i,sa ps l i<=oQ (l+1):=by
 intro l
 induction l using Nat.strongRecOn with
 |_ l ih =>
 intro i;cases l with
 |zero=>exact Yh _
 |succ l =>
  rw[l4 hp];refine YI (xm (c:=oQ (l+1)) λc hc=>?_) ?_
  ·show eh ps i (i+l+1) c<=_;have o:=nE hc;cases c with
   |none =>
    rw[iQ,show i+l+1-(i+1)=l by lia]
    exact ih l (by lia) _
   |some k =>
    obtain⟨o1,o2,_⟩:=o;have:=hp _ o1;dsimp only at this;rw[iP];have h1:=ih (k-(i+1)) (by lia) (i+1)
    have h2:=ih (i+l+1-(k+1)) (by lia) (k+1)
    have h3:=sC (k-(i+1)+1) (i+l+1-(k+1)+1);rw[show k-(i+1)+1+(i+l+1-(k+1)+1)=l+1 by lia]at h3
    exact YI (aaz h1 h2) h3
  ·show _<=(l+2)*oQ (l+1);exact aaz (YI (ve hp nd) (by lia)) (Yh _)
theorem mV {ps:List (Nat×Nat)}(hp:∀p∈ps,p.1<p.2)(nd:ps.Nodup){l i:Nat}(h:l<=19):((sa ps l i:Nat):Int)<2 ^ 64:=by
 have h1:=tK hp nd l i;have h2:=fH (show l+1<=20 by lia)
 have h3:oQ 20<2 ^ 64:=by decide
 lia
theorem Ik {ps:List (Nat×Nat)}(hp:∀p∈ps,p.1<p.2)(nd:ps.Nodup){l m i j:Nat}(h:l+m<=39):lU (sa ps l i:Int) (sa ps m j:Int):=by
 rcases ZK 19 l with q|q
 ·exact .inr ⟨by lia,mV hp nd (by lia)⟩
 ·exact .inl ⟨by lia,mV hp nd q⟩
abbrev sT (ps:List (Nat×Nat)):Nat->Nat->Int:=λl i=>((sa ps l i:Nat):Int)
def og:FD:=λds R=>∃(n:Nat) (ps:List (Nat×Nat)) (L:Nat->Nat) (i j:Nat) (c:Option Nat),ds=[ke n L (sT ps),.lst ((parts i c j).map l6)]/\c∈fq ps i j/\lj n ps/\n<=40/\i<j/\j<=n/\(∀a,i<a->a<=n->n+1-a<=L a)/\R (.int (eh ps i j c:Nat))
theorem og.mono:cW og:=λds R R' k h=>by obtain⟨n,ps,L,i,j,c,e,h1,h2,h3,h4,h5,h6,q⟩:=h;exact⟨n,ps,L,i,j,c,e,h1,h2,h3,h4,h5,h6,k _ q⟩
def uO:FD:=λds R=>∃(n:Nat) (ps:List (Nat×Nat)) (L:Nat->Nat) (i j:Nat),ds=[ke n L (sT ps),.lst ((fq ps i j).map oD),.int i,.int j]/\lj n ps/\n<=40/\i<j/\j<=n/\(∀a,i<a->a<=n->n+1-a<=L a)/\R (.int (sT ps (j-i) i))
theorem uO.mono:cW uO:=λds R R' k h=>by obtain⟨n,ps,L,i,j,e,h2,h3,h4,h5,h6,q⟩:=h;exact⟨n,ps,L,i,j,e,h2,h3,h4,h5,h6,k _ q⟩
theorem vH {ps:List (Nat×Nat)}{l:List (Nat×Nat)}{m:Nat}{p:Nat×Nat}(h:l[m]?=some p):(l.take (m+1)).foldl (λa p=>a*sa ps (p.2-p.1) p.1) 1=(l.take m).foldl (λa p=>a*sa ps (p.2-p.1) p.1) 1*sa ps (p.2-p.1) p.1:=by
 rw[Zf,h,List.foldl_append];rfl
def cS:FD:=λds R=>∃(n:Nat) (ps:List (Nat×Nat)),ds=[jZ n ps]/\lj n ps/\n<=40/\R (yg n (sT ps))
theorem cS.mono:cW cS:=λds R R' k h=>by obtain⟨n,ps,e,h2,h3,q⟩:=h;exact⟨n,ps,e,h2,h3,k _ q⟩
def jT:FD:=λds R=>∃(n:Nat) (ps:List (Nat×Nat)),ds=[jZ n ps]/\lj n ps/\n<=40/\R (.int (sT ps n 0))
theorem jT.mono:cW jT:=λds R R' k h=>by obtain⟨n,ps,e,h2,h3,q⟩:=h;exact⟨n,ps,e,h2,h3,k _ q⟩
theorem all_map {ps:List (Nat×Nat)}{i j:Nat}:((iA ps i).filter λk=>decide (k<j)).map (λk:Nat=>D.int (k:Int))++[D.cX]=(fq ps i j).map oD:=by
 unfold fq;rw[YN,Y8];rfl
def eQ (n:Nat):Nat->List (Nat×Nat)->Prop
 |_,[]=>True
 |lo,p::ws=>lo<=p.1/\p.1<=p.2/\p.2<=n/\eQ n (p.2+1) ws
theorem eQ.lo {n:Nat}:∀{ws:List (Nat×Nat)} {a b:Nat},eQ n a ws->b<=a->eQ n b ws
 |[],_,_,_,_=>trivial
 |_::_,_,_,h,hb=>⟨YI hb h.1,h.2⟩
theorem eQ.mem {n:Nat}:∀{ws:List (Nat×Nat)} {a:Nat},eQ n a ws->∀p∈ws,a<=p.1/\p.1<=p.2/\p.2<=n
 |[],_,_,_,h=>nomatch h
 |q::ws,a,h,p,hp=>by
  rcases Yi.mp hp with rfl|hp
  ·exact⟨h.1,h.2.1,h.2.2.1⟩
  ·have:=eQ.mem h.2.2.2 p hp;have:=h.1;have:=h.2.1;lia
abbrev fW (ps:List (Nat×Nat)):Nat->Nat×Nat->Nat:=λa p=>a*sa ps (p.2-p.1) p.1
abbrev aL (ps ws:List (Nat×Nat)):Nat:=ws.foldl (fW ps) 1
theorem FY (n:Nat):1<=oQ n:=by
 induction n with
 |zero=>exact Yh _
 |succ n ih=>exact YI ih (Nat.le_mul_of_pos_left _ (by lia))
theorem tS {ps:List (Nat×Nat)}(hp:∀p∈ps,p.1<p.2)(nd:ps.Nodup){n:Nat}{p:Nat×Nat}:∀{ws:List (Nat×Nat)} {lo m acc:Nat},eQ n lo ws->ws[m]?=some p->(ws.take m).foldl (fW ps) acc<=acc*oQ (p.1-lo)
 |[],_,_,_,_,e=>nomatch e
 |q::ws,lo,0,acc,h,e=>by
  show acc<=_;exact Nat.le_mul_of_pos_right _ (FY _)
 |q::ws,lo,m+1,acc,h,e=>by
  have k:=tS hp nd (m:=m) (acc:=fW ps acc q) h.2.2.2 e;have k1:=(eQ.mem h.2.2.2 p (YW (i:=m) e)).1;have k2:=h.2.1;have k3:=h.1;refine YI k ?_;have s1:=tK hp nd (q.2-q.1) q.1;have s2:=sC (q.2-q.1+1) (p.1-(q.2+1));have s3:=fH (show q.2-q.1+1+(p.1-(q.2+1))<=p.1-lo by lia)
  show acc*sa ps (q.2-q.1) q.1*_<=_;rw[Nat.mul_assoc];exact aaz (Yh _) (YI (YI (aaz s1 (Yh _)) s2) s3)
theorem Eb {ps:List (Nat×Nat)}(hp:∀p∈ps,p.1<p.2)(nd:ps.Nodup){n m:Nat}{p:Nat×Nat}{ws:List (Nat×Nat)}(hn:n<=40)(h:eQ n 0 ws)(e:ws[m]?=some p):
  lU ((aL ps (ws.take m):Nat):Int) ((sa ps (p.2-p.1) p.1:Nat):Int):=by
 have a:aL ps (ws.take m)<=1*oQ (p.1-0):=tS hp nd (acc:=1) h e;have b:=h.mem p (YW e);rcases ZK 20 p.1 with q|q
 ·exact .inr ⟨by lia,mV hp nd (by lia)⟩
 ·refine .inl ⟨by lia,?_⟩
  have h2:=fH (show p.1-0<=20 by lia)
  have h3:oQ 20<2 ^ 64:=by decide
  rw[aay]at a;lia
theorem Lu {ps ws:List (Nat×Nat)}{m:Nat}{p:Nat×Nat}(h:ws[m]?=some p):aL ps (ws.take (m+1))=aL ps (ws.take m)*sa ps (p.2-p.1) p.1:=vH h
def iG:FD:=λds R=>∃(n:Nat) (ps:List (Nat×Nat)) (L:Nat->Nat) (ws:List (Nat×Nat)),ds=[ke n L (sT ps),.lst (ws.map l6)]/\lj n ps/\n<=40/\eQ n 0 ws/\(∀p∈ws,n+1-p.1<=L p.1)/\R (.int (aL ps ws:Nat))
theorem iG.mono:cW iG:=λds R R' k h=>by obtain⟨n,ps,L,ws,e,h1,h2,h3,h4,q⟩:=h;exact⟨n,ps,L,ws,e,h1,h2,h3,h4,k _ q⟩
theorem og.toW {ds:List D}{R:D->Prop}(h:og ds R):iG ds R:=by
 obtain⟨n,ps,L,i,j,c,rfl,hc,ok,hn,h1,h2,h3,q⟩:=h;have hp:∀p∈ps,p.1<p.2:=λp hp=>(ok.lt p hp).1;have o:=nE hc;refine⟨n,ps,L,parts i c j,rfl,ok,hn,?_,λp h=>?_,q⟩
 ·cases c with
  |none=>exact⟨Yz _,h1,h2,trivial⟩
  |some k =>
   have:=hp _ o.1;dsimp only at this;exact⟨Yz _,this,by show k<=n;lia,Yh _,o.2.1,h2,trivial⟩
 ·obtain⟨l,rfl⟩:∃l,j=i+l+1:=⟨j-i-1,by lia⟩
  have:=ni hp hc h;exact h3 p.1 this.1 (by lia)
def wb:List (Nat×Nat)->Nat×Nat->Option (List (Nat×Nat))
 |[],_=>none
 |v::ws,p=>if v.1<=p.1/\p.2<v.2 then some ((p.1+1,p.2)::(p.2+1,v.2)::ws) else wb ws p
def KN (ws:List (Nat×Nat))(p:Nat×Nat):Prop:=∃v∈ws,v.1<=p.1/\p.2<v.2
theorem xb {p:Nat×Nat}:∀{ws:List (Nat×Nat)},KN ws p->∃l,wb ws p=some l
 |[],⟨_,h,_⟩=>nomatch h
 |v::ws,⟨u,h,k⟩=>by
  show ∃l,(if v.1<=p.1/\p.2<v.2 then some _ else wb ws p)=some l
  by_cases c:v.1<=p.1/\p.2<v.2
  ·exact⟨_,if_pos c⟩
  ·rw[if_neg c];rcases Yi.mp h with rfl|h
   ·exact absurd k c
   ·exact xb ⟨u,h,k⟩
theorem fv {n:Nat}{p:Nat×Nat}(hp:p.1<p.2):∀{ws l:List (Nat×Nat)} {lo:Nat},eQ n lo ws->wb ws p=some l->eQ n lo l
 |[],_,_,_,e=>nomatch e
 |v::ws,l,lo,h,e=>by
  change (if v.1<=p.1/\p.2<v.2 then some _ else wb ws p)=some l at e
  by_cases c:v.1<=p.1/\p.2<v.2
  ·rw[if_pos c]at e;cases e;have:=h.1;have:=h.2.2.1;exact⟨by show lo<=p.1+1;lia,hp,by show p.2<=n;lia,Yh _,c.2,h.2.2.1,h.2.2.2⟩
  ·rw[if_neg c]at e;have:=h.1;have:=h.2.1;exact(fv hp h.2.2.2 e).lo (by lia)
def KR (s t:Nat×Nat):Prop:=t.2<s.2\/s.2<t.1
theorem xc {n:Nat}{s t:Nat×Nat}(hs:s.1<s.2)(ht:t.1<t.2)(hl:s.1<t.1)(ha:KR s t):∀{ws l:List (Nat×Nat)} {lo:Nat},eQ n lo ws->KN ws t->wb ws s=some l->KN l t
 |[],_,_,_,_,e=>nomatch e
 |v::ws,l,lo,h,⟨u,hu,k⟩,e=>by
  change (if v.1<=s.1/\s.2<v.2 then some _ else wb ws s)=some l at e
  by_cases c:v.1<=s.1/\s.2<v.2
  ·rw[if_pos c]at e;cases e;rcases Yi.mp hu with rfl|hu
   ·rcases ha with a|a
    ·exact⟨_,Yo,hl,a⟩
    ·exact⟨_,Yn _ Yo,a,k.2⟩
   ·exact⟨u,Yn _ (Yn _ hu),k⟩
  ·rw[if_neg c]at e;rcases Yi.mp hu with rfl|hu
   ·-- t lies in the first,s beyond it
    exfalso
    have:KN ws s:=by
     revert e
     clear h k hu
     induction ws with
     |nil=>exact λe=>nomatch e
     |cons v ws ih =>
      intro e
      change (if v.1<=s.1/\s.2<v.2 then some _ else wb ws s)=some l at e
      by_cases c:v.1<=s.1/\s.2<v.2
      ·exact⟨v,Yo,c⟩
      ·rw[if_neg c]at e;obtain⟨x,hx,kx⟩:=ih e;exact⟨x,Yn _ hx,kx⟩
    obtain⟨x,hx,kx⟩:=this;have:=h.2.2.2.mem x hx;lia
   ·exact xc hs ht hl ha h.2.2.2 ⟨u,hu,k⟩ e
def wa:List (Nat×Nat)->List (Nat×Nat)->Option (List (Nat×Nat))
 |ws,[]=>some ws
 |ws,p::ts=>(wb ws p).bind λl=>wa l ts
def yL (ts:List (Nat×Nat)):Prop:=ts.Pairwise λs t=>s.1<t.1/\KR s t
theorem xf {n:Nat}:∀{ts ws:List (Nat×Nat)},eQ n 0 ws->(∀t∈ts,t.1<t.2/\KN ws t)->yL ts->∃l,wa ws ts=some l/\eQ n 0 l
 |[],ws,h,_,_=>⟨ws,rfl,h⟩
 |t::ts,ws,h,hi,g=>by
  obtain⟨l,e⟩:=xb (hi t Yo).2;have g':=Za.mp g;obtain⟨l',e',k⟩:=xf (fv (hi t Yo).1 h e) (λu hu=>⟨(hi u (Yn _ hu)).1,xc (hi t Yo).1 (hi u (Yn _ hu)).1 (g'.1 u hu).1 (g'.1 u hu).2 h (hi u (Yn _ hu)).2 e⟩) g'.2;exact⟨l',by show (wb ws t).bind _=_;rw[e];exact e',k⟩
theorem eQ.len {n:Nat}:∀{ws:List (Nat×Nat)} {a:Nat},eQ n a ws->ws.length+min a (n+1)<=n+1
 |[],a,_=>by rw[ZI];lia
 |q::ws,a,h=>by
  have:=eQ.len h.2.2.2;have:=h.1;have:=h.2.1;have:=h.2.2.1;rw[Yw];lia
theorem eQ.uq {n:Nat}{ws:List (Nat×Nat)}(h:eQ n 0 ws)(hn:n<=40):ws.length<=41:=by
 have:=h.len;lia
def TQ:Option (List (Nat×Nat))->D
 |none=>.cX
 |some l=>.lst (l.map l6)
theorem z_ {ws:List (Nat×Nat)}{k:Nat}:cutD (ws.map l6) (some (k:Int)) none=(ws.drop k).map l6:=by
 unfold cutD;rw[HT.jx,HT.l5,List.map_drop]
 by_cases h:k<=(ws.map l6).length
 ·rw[Nat.min_eq_left h,ZS (by rw[aaH];lia)]
 ·rw[Nat.min_eq_right (by lia),ZN (Yh _),List.take_nil,ZN (by lia)]
theorem gQ:∀l:List (Nat×Nat),D.cR (l.map l6)=true
 |[]=>rfl
 |p::l=>by show (_&&D.cR (l.map l6))=true;rw[gQ l];rfl
def AB:FD:=λds R=>∃(ws:List (Nat×Nat)) (p:Nat×Nat),ds=[.lst (ws.map l6),l6 p]/\ws.length<=1000/\R (TQ (wb ws p))
theorem AB.mono:cW AB:=λds R R' k ⟨ws,p,e,h,q⟩=>⟨ws,p,e,h,k _ q⟩
theorem Ec {p:Nat×Nat}:∀{ws:List (Nat×Nat)} {m:Nat} {v:Nat×Nat},ws[m]?=some v->wb (ws.drop m) p=if v.1<=p.1/\p.2<v.2 then some ((p.1+1,p.2)::(p.2+1,v.2)::ws.drop (m+1)) else wb (ws.drop (m+1)) p:=by
 intro ws m v e;obtain⟨h,rfl⟩:=Yr.mp e;rw[Y5 h];rfl
def eR (ps ns:List (Nat×Nat)):Prop:=(∀p∈ns,p∈ps)/\yL ns
theorem UL {s t:Nat×Nat}(hs:s.1<s.2)(ht:t.1<t.2)(l:HT.lexLt (tI s) (tI t)=true)(a:Apart (tI s) (tI t)):s.1<t.1/\KR s t:=by
 obtain⟨s1,s2⟩:=s;obtain⟨t1,t2⟩:=t;dsimp only at hs ht;have sh:∀x:Int,x∈tI (s1,s2)->x∈tI (t1,t2)->False:=λx h1 h2=>by
  have:=d7.mpr ⟨x,h1,h2⟩;rw[a.1]at this;cases this
 have e1:s1≠t1:=λe=>sh s1 (by simp[tI]) (by simp[tI,e])
 have e2:s2≠t1:=λe=>sh s2 (by simp[tI]) (by simp[tI,e])
 have e3:s2≠t2:=λe=>sh s2 (by simp[tI]) (by simp[tI,e])
 have l1:s1<t1:=by
  change HT.lexLt ((s1:Int)::[(s2:Int)]) ((t1:Int)::[(t2:Int)])=true at l
  rw[HT.bU,if_neg (by lia)]at l
  have:=of_decide_eq_true l;lia
 refine⟨l1,?_⟩;have c:=a.2;have c':¬ (((s1:Nat):Int)<t1/\((t1:Nat):Int)<s2/\((s2:Nat):Int)<t2):=λz=>by
  have:k_ (s1:Int) s2 t1 t2=true:=oF.mpr (.inl z);have c:k_ (s1:Int) s2 t1 t2=false:=c;rw[this]at c;cases c
 show t2<s2\/s2<t1;lia
theorem jP {n:Nat}{ps:List (Nat×Nat)}(ok:lj n ps):∀{ts:List (List Int)},Good (ps.map tI) ts->∃ns,ts=ns.map tI/\eR ps ns
 |[],_=>⟨[],rfl,λ_ z=>(nomatch z),abA⟩
 |t::ts,⟨h1,h2,h3⟩=>by
  obtain⟨p,hp,rfl⟩:=YK.mp (h1 t Yo);rw[Za]at h2 h3;obtain⟨ns,rfl,k1,k2⟩:=jP ok (ts:=ts) ⟨λu hu=>h1 u (Yn _ hu),h2.2,h3.2⟩;refine⟨p::ns,rfl,λq hq=>?_,Za.mpr ⟨λq hq=>?_,k2⟩⟩
  ·rcases Yi.mp hq with rfl|hq
   ·exact hp
   ·exact k1 q hq
  ·exact UL (ok.lt p hp).1 (ok.lt q (k1 q hq)).1 (h2.1 _ (aah hq)) (h3.1 _ (aah hq))
theorem eR.VT {n:Nat}{ps ns:List (Nat×Nat)}(ok:lj n ps)(h:eR ps ns):∀t∈ns,t.1<t.2/\KN [(0,n)] t:=λt ht=>⟨(ok.lt t (h.1 t ht)).1,(0,n),Yo,Yz _,(ok.lt t (h.1 t ht)).2⟩
theorem eN {n:Nat}:eQ n 0 [(0,n)]:=⟨Yh _,Yz _,Yh _,trivial⟩
theorem eR.wa {n:Nat}{ps ns:List (Nat×Nat)}(ok:lj n ps)(h:eR ps ns):∃l,wa [(0,n)] ns=some l/\eQ n 0 l:=xf eN (h.VT ok) h.2
theorem eR.sub {ps ns ms:List (Nat×Nat)}(h:eR ps ns)(s:ms.Sublist ns):eR ps ms:=⟨λp hp=>h.1 p (s.subset hp),h.2.sublist s⟩
theorem j8:∀{a b ws:List (Nat×Nat)},wa ws (a++b)=(wa ws a).bind λl=>wa l b
 |[],b,ws=>rfl
 |p::a,b,ws=>by
  show (wb ws p).bind (λl=>wa l (a++b))=((wb ws p).bind λl=>wa l a).bind _;cases wb ws p with
  |none=>rfl
  |some l=>exact j8
def mL (ps ws:List (Nat×Nat)):List (Nat×Nat):=ps.filter λp=>(wb ws p).isSome
def vM (ps ws:List (Nat×Nat))(t:Nat×Nat):Nat:=1+(((mL ps ws).filter λo=>HT.lexLt (tI o) (tI t)).map λo=>aL ps ((wb ws o).getD [])).sum
def du (ps:List (Nat×Nat)):List (Nat×Nat)->List (Nat×Nat)->Nat
 |_,[]=>0
 |ws,t::ts=>vM ps ws t+du ps ((wb ws t).getD []) ts
def kq (ps:List (Nat×Nat))(u:List (Nat×Nat)×List (Nat×Nat)×Int)(p:Nat×Nat):List (Nat×Nat)×List (Nat×Nat)×Int:=match wb u.1 p with
 |none=>u
 |some l=>if 0<u.2.2 then (if u.2.2<=((aL ps l:Nat):Int) then (l,u.2.1++[p],u.2.2-1) else (u.1,u.2.1,u.2.2-((aL ps l:Nat):Int))) else u
def sat (ps:List (Nat×Nat))(n:Nat)(k:Int):List (Nat×Nat):=(ps.foldl (kq ps) ([(0,n)],[],k)).2.1
def v8 (ps:List (Nat×Nat))(n:Nat):List (Nat×Nat)->List (Nat×Nat)->Option (List (Nat×Nat))
 |r,p::_=>some (r.reverse++[p])
 |[],[]=>none
 |z::r,[]=>v8 ps n r ((mL ps ((wa [(0,n)] r.reverse).getD [])).filter λo=>HT.lexLt (tI z) (tI o))
def E7 (ps:List (Nat×Nat))(n:Nat)(ns:List (Nat×Nat)):Option (List (Nat×Nat)):=v8 ps n ns.reverse (mL ps ((wa [(0,n)] ns).getD []))
def Ha:FD:=λds R=>∃(n:Nat) (ps ns:List (Nat×Nat)),ds=[jZ n ps,dN ns]/\lj n ps/\n<=40/\eR ps ns/\R (.lst (((wa [(0,n)] ns).getD []).map l6))
theorem Ha.mono:cW Ha:=λds R R' k ⟨n,ps,ns,e,h1,h2,h3,q⟩=>⟨n,ps,ns,e,h1,h2,h3,k _ q⟩
def Hc:FD:=λds R=>∃(n:Nat) (ps ws:List (Nat×Nat)),ds=[jZ n ps,.lst (ws.map l6)]/\lj n ps/\ws.length<=1000/\R (dN (mL ps ws))
theorem Hc.mono:cW Hc:=λds R R' k ⟨n,ps,ws,e,h1,h2,q⟩=>⟨n,ps,ws,e,h1,h2,k _ q⟩
end L2.Q
namespace lN
open PySem L2 L2.Q
section
variable {P:Yk}{w:YB}{K:PySem.W.Frag}{mg:Str->Option Yc}{base:Heap}
theorem d8:aI ["counts","parts","ways","low","high"] ["counts","parts"] (ar g7):=⟨rfl,rfl,rfl,by decide +kernel,rfl,by decide +kernel,by decide +kernel⟩
theorem me {fo ck} (gB:D5 K mg fo ck):aH P w K mg base bp 1 fo ck ["counts","parts"] (bX P w true iG):=by
 refine lP gB.F d8 (λds R NJ=> by obtain⟨n,ps,L,ws,e,_⟩ := NJ;subst e;rfl) λcF A outer s H E hr=>⟨_,(ag (aJ (i:=2) ah d8.nd)
    (ag (bx Y3 rfl (aW (ab (i:=1))) (cy (n:=2) rfl (aM (ak (i:=3) d8.nd) (aM (ak (i:=4) d8.nd) bM))) (ai (aJ (i:=2) (aD af (bg.m rT) (ab (i:=2)) (aK af a9 (aK af a9 (ab (i:=0)) (ab (i:=3))) (aD af (bg.m cP) (ab (i:=4)) (ab (i:=3))))) d8.nd)))
    (ai (aN (ab (i:=2)))))),λds R h=>?_⟩
 obtain⟨n,ps,L,ws,rfl,ok,hn,hw,h3,q⟩:=h;have hp:∀p∈ps,p.1<p.2:=λp hp=>(ok.lt p hp).1;refine⟨_,rfl,_,rfl,trivial,?_⟩;refine⟨λm β=>∃x3 x4,β=[some (.val false (ke n L (sT ps))),some (.val false (.lst (ws.map l6))),some (.val true (.int ((aL ps (ws.take m):Nat):Int))),x3,x4],⟨_,_,rfl⟩,?_,?_⟩
 ·rintro m d β hd ⟨x3,x4,rfl⟩;rw[Yu]at hd;obtain⟨p,G2,rfl⟩:=Yt.mp hd;have b:=hw.mem p (YW G2);have hl:=h3 p (YW G2);refine⟨_,rfl,rfl,_,_,rfl,_,_,rfl,rfl,?_⟩;refine⟨_,rfl,trivial,_,rfl,trivial,_,rfl,_,Cv rfl (by lia),.inr ⟨trivial,_,rfl,trivial,_,rfl,_,rfl,_,Cw (l:=p.2-p.1) (by lia) (by lia),_,Dn (Eb hp ok.nd (by lia) hw G2),_,_,by rw[Lu G2,Int.natCast_mul];rfl⟩⟩
 ·rintro β ⟨x3,x4,rfl⟩;rw[Ye,ZL];exact⟨_,rfl,trivial,q⟩
theorem IW {fo ck} (gB:D5 K mg fo ck):aH P w K mg base bp 1 fo ck ["counts","parts"] (bX P w true og):=(me gB).imp λvs H Q E ⟨ds,r,h⟩=>⟨ds,r,h.toW⟩
theorem vO:aI ["counts","choices","i","j"] ["counts","choices","i","j"] (ar g8):=⟨rfl,rfl,rfl,by decide +kernel,rfl,by decide +kernel,by decide +kernel⟩
theorem IX {il dD} (pE:D6 K mg il dD) {fo ck} (gB:D5 K mg fo ck) {gA cZ} (oC:D4 K mg gA cZ) (B:sY mg):aH P w K mg base bp 2 il dD ["counts","choices","i","j"] (bX P w true uO):=by
 have KO:aH P w K mg base bp 1 _ _ _ (bX P w true og):= IW gB;have Xf:aH P w K mg base bp 1 _ _ _ (bX P w true oi):= BV oC;refine lP pE.F vO (λds R NH=> by obtain⟨n,ps,L,i,j,e,_⟩ := NH;subst e;rfl) λcF A outer s H E hr=>⟨_,(ai (aN (bT af (c5.m (qO rfl)) B.sum Dx (aa (MC ["k","counts","i","j"] [none,some 0,some 2,some 3] (by rfl) (by decide:(["k","counts","i","j"]:List Str).Nodup) rfl (aW (ab (i:=1))) (λ_ _ _ _ _ _=>(ak (i:=0) (by decide:(["k","counts","i","j"]:List Str).Nodup))) (λ_ _ _ _ _ _=>kc) (λ_ _ _ _ _ _=>(aA og.mono KO (hr.mono (by decide)) gB.m gB.F.kp gB.b (aa (ab (i:=1)) (aa (aA oi.mono Xf (hr.mono (by decide)) oC.m oC.F.kp oC.b (aa (ab (i:=2)) (aa (ab (i:=0)) (aa (ab (i:=3)) ae)))) ae))))) ae)))),λds R h=>?_⟩
 obtain⟨n,ps,L,i,j,rfl,ok,hn,h1,h2,h3,q⟩:=h;have hp:∀p∈ps,p.1<p.2:=λp hp=>(ok.lt p hp).1;have bl:(fq ps i j).length<=41:=by
  obtain⟨l,rfl⟩:∃l,j=i+l+1:=⟨j-i-1,by lia⟩
  exact YI (ve hp ok.nd) (by lia)
 refine⟨_,rfl,_,rfl,trivial,?_⟩;refine fX (λ_=>true) (λc=>.int ((eh ps i j c:Nat):Int)) trivial (gk (by lia)) (λc hc x0 o J ho j1 _=>?_) ?_
 ·cases c with
  |none=>exact⟨_,rfl,trivial,_,rfl,trivial,_,rfl,trivial,_,rfl,trivial,i,none,j,rfl,trivial,n,ps,L,i,j,none,rfl,hc,ok,hn,h1,h2,h3,trivial,ho,j1 rfl _⟩
  |some k=>exact⟨_,rfl,trivial,_,rfl,trivial,_,rfl,trivial,_,rfl,trivial,i,some k,j,rfl,trivial,n,ps,L,i,j,some k,rfl,hc,ok,hn,h1,h2,h3,trivial,ho,j1 rfl _⟩
 ·rw[fb];refine⟨trivial,_,sum_ints,trivial,?_⟩;obtain⟨l,rfl⟩:∃l,j=i+l+1:=⟨j-i-1,by lia⟩
  have e:((fq ps i (i+l+1)).map λc=>((eh ps i (i+l+1) c:Nat):Int)).sum=sT ps (i+l+1-i) i:=by
   rw[mN,show i+l+1-i=l+1 by lia]
   show _=((sa ps (l+1) i:Nat):Int);rw[l4 hp];rfl
  rw[e];exact q
theorem bI:aI ["row","many","partners","counts","i","j","choices"] ["row"] (ar eX):=⟨rfl,rfl,rfl,by decide +kernel,rfl,by decide +kernel,by decide +kernel⟩
theorem h8 {jR fc} (j5:D7 K mg jR fc) {iq dI} (pG:D3 K mg iq dI) {ip dG} (pF:D2 K mg ip dG) {il dD} (pE:D6 K mg il dD) {fo ck} (gB:D5 K mg fo ck) {gA cZ} (oC:D4 K mg gA cZ) (B:sY mg):aH P w K mg base bp 3 jR fc ["row"] (bX P w true cS):=by
 have Xe:aH P w K mg base bp 1 _ _ _ (bX P w true uQ):= EY pG B;have OZ:aH P w K mg base bp 1 _ _ _ (bX P w true C7):= EX pF B;have Xc:aH P w K mg base bp 2 _ _ _ (bX P w true uO):= IX pE gB oC B;refine lP j5.F bI (λds R NG=> by obtain⟨n,ps,e,_⟩ := NG;subst e;rfl) λcF A outer s H E hr=>⟨_,(ag (aJ (i:=1) (aK af a9 (ab (i:=0)) ah) bI.nd)
    (ag (aJ (i:=2) (aA uQ.mono Xe (hr.mono (by decide)) pG.m pG.F.kp pG.b (aa (ab (i:=0)) ae)) bI.nd)
    (ag (Bd (i:=3) true ["i"] [none] (by rfl) (by decide:(["i"]:List Str).Nodup) rfl (λ_=>(cD B.range (aa (aD aF au (ab (i:=1)) ah) ae))) (λ_ _ _ _ _ _=>(ak (i:=0) (by decide:(["i"]:List Str).Nodup))) (λ_ _ _ _ _ _=>kc) (λ_ _ _ _ _ _=>(bw (aa ah ae))) bI.nd)
    (ag (bx Y3 rfl (aW (aA C7.mono OZ (hr.mono (by decide)) pF.m pF.F.kp pF.b (aa (ab (i:=1)) ae))) (cy (n:=2) rfl (aM (ak (i:=4) bI.nd) (aM (ak (i:=5) bI.nd) bM))) (ag (aJ (i:=6) (aD aF au (MC ["k","j"] [none,some 5] (by rfl) (by decide:(["k","j"]:List Str).Nodup) rfl (aW (aK af a9 (ab (i:=2)) (ab (i:=4)))) (λ_ _ _ _ _ _=>(ak (i:=0) (by decide:(["k","j"]:List Str).Nodup))) (λ_ _ _ _ _ _=>(j_ (aE af (bg.m bK) (ab (i:=0)) (ab (i:=1))))) (λ_ _ _ _ _ _=>(ab (i:=0)))) (bw (aa dw ae))) bI.nd)
    (ai (lC (i:=3) true (λ_=>(aA uO.mono Xc (hr.mono (by decide)) pE.m pE.F.kp pE.b (aa (ab (i:=3)) (aa (ab (i:=6)) (aa (ab (i:=4)) (aa (ab (i:=5)) ae)))))) (λ_=>(ab (i:=4)))))))
    (ai (l7 (i:=3))))))),λds R h=>?_⟩
 obtain⟨n,ps,rfl,ok,J_,q⟩:=h;have hn:=ok.le;have hp:∀p∈ps,p.1<p.2:=λp hp=>(ok.lt p hp).1;refine⟨_,rfl,trivial,_,rfl,_,rfl,trivial,n,ps,rfl,ok,_,rfl,trivial,_,rfl,trivial,(n:Int)+1,rfl,by lia,by lia,trivial,?_⟩
 rw[show ((n:Int)+1).toNat=n+1 by lia]
 refine fX (λ_=>true) (λ_=>.lst [.int 1]) trivial (by rw[Zr];exact gk (by lia)) (λx hx x0 o J ho h1 _=>⟨trivial,sQ,trivial,ho,h1 rfl _⟩) ?_
 rw[fb];refine⟨_,rfl,trivial,n,rfl,hn,_,rfl,trivial,?_⟩;refine⟨λidx β=>∃L x4 x5 x6,β=[some (.val false (jZ n ps)),some (.val true (.int n)),some (.val true (Pe n ps)),some (.own (ke n L (sT ps))),x4,x5,x6]/\yM n idx L,⟨λ_=>1,_,_,_,rfl,uU⟩,?_,?_⟩
 ·rintro idx d β hd ⟨L,x4,x5,x6,rfl,dn⟩;rw[Yu]at hd;obtain⟨p,G4,rfl⟩:=Yt.mp hd;obtain⟨a,b,ha,hb,rfl,hL,nY⟩:=wJ dn G4;have eL:ke n L (sT ps)=ke n (fZ n a b) (sT ps):=pS hL;have e0:fZ n a b (n-1-a)=b+1:=by unfold fZ;rw[if_neg (by lia),if_pos rfl]
  rw[eL];refine⟨_,rfl,rfl,_,_,rfl,_,_,rfl,rfl,?_⟩;have hpl:(iA ps (n-1-a)).length<=400:=by unfold iA;rw[Ye];exact YI (Zz _ _) ok.sm
  refine⟨_,rfl,trivial,_,rfl,_,Q6 rfl (by lia),.inr ⟨_,rfl,trivial,?_⟩⟩
  refine fX (λk:Nat=>decide (k<n-a+b)) (λk=>.int (k:Int)) trivial (gk (YI hpl (by decide))) (λk hk y0 o J ho j1 j2=>?_) ?_
  ·refine⟨_,rfl,trivial,_,rfl,_,rfl,_,rfl,?_⟩
   by_cases K4:(k:Int)<((n-a+b:Nat):Int)
   ·exact j4 (decide_eq_true K4) ⟨_,rfl,trivial,ho,j1 (decide_eq_true (by lia)) _⟩
   ·exact f9 (decide_eq_false K4) (j2 (decide_eq_false (by lia)) _)
  have ea:wU (.lst (((iA ps (n-1-a)).filter λk=>decide (k<n-a+b)).map λk:Nat=>D.int (k:Int))) (.lst [.cX])=some (.lst ((fq ps (n-1-a) (n-a+b)).map oD)):=by
   rw[<- all_map];exact jW (by rw[Ye];have:=Zz (λk=>decide (k<n-a+b)) (iA ps (n-1-a));show _+1<=_;lia)
  refine⟨trivial,trivial,sQ,_,ea,.inr ?_⟩;refine⟨⟨_,rfl⟩,_,rfl,_,_,_,_,rfl,rfl,by rw[Ye,Zr];exact MD rfl (show n-1-a<n+1 by lia),eZ (show n-1-a<n+1 by lia),?_⟩
  refine⟨_,rfl,trivial,_,rfl,trivial,_,rfl,trivial,_,rfl,trivial,n,ps,fZ n a b,n-1-a,n-a+b,rfl,ok,J_,by lia,by lia,λa' h1 h2=>by unfold fZ;rw[if_pos h1];exact Yh _,trivial,rfl,?_,?_⟩
  ·rw[e0];unfold tu;rw[Ye,Zr];exact AY (by lia)
  ·refine⟨fZ n a (b+1),some (.val true (.int ((n-1-a:Nat):Int))),some (.val true (.int ((n-a+b:Nat):Int))),some (.val true (.lst ((fq ps (n-1-a) (n-a+b)).map oD))),?_,.inr ⟨a,b+1,ha,by lia,λ_ _=>rfl,nY⟩⟩
   rw[show n-a+b-(n-1-a)=b+1 by lia,e0,Es ha hb]
   rfl
 ·rintro β ⟨L,x4,x5,x6,rfl,dn⟩;rw[Ye]at dn;have e:ke n L (sT ps)=yg n (sT ps):=pS (z6 dn);rw[e];exact⟨_,rfl,q⟩
theorem o8:aI ["row"] ["row"] (ar dY):=⟨rfl,rfl,rfl,by decide +kernel,rfl,by decide +kernel,by decide +kernel⟩
theorem E3 {FW yj} (Li:D8 K mg FW yj) {jR fc} (j5:D7 K mg jR fc) {iq dI} (pG:D3 K mg iq dI) {ip dG} (pF:D2 K mg ip dG) {il dD} (pE:D6 K mg il dD) {fo ck} (gB:D5 K mg fo ck) {gA cZ} (oC:D4 K mg gA cZ) (B:sY mg):aH P w K mg base bp 4 FW yj ["row"] (bX P w true jT):=by
 have KP:aH P w K mg base bp 3 _ _ _ (bX P w true cS):= h8 j5 pG pF pE gB oC B;refine lP Li.F o8 (λds R ND=> by obtain⟨n,ps,e,_⟩ := ND;subst e;rfl) λcF A outer s H E hr=>⟨_,(ai (aN (aK af a9 (aK af a9 (aA cS.mono KP (hr.mono (by decide)) j5.m j5.F.kp j5.b (aa (ab (i:=0)) ae)) ah) (aK af a9 (ab (i:=0)) ah)))),λds R h=>?_⟩
 obtain⟨n,ps,rfl,ok,J_,q⟩:=h;exact⟨_,rfl,trivial,n,ps,rfl,ok,J_,trivial,_,Cv (i:=0) rfl (Yz _),.inr ⟨trivial,_,rfl,trivial,_,rfl,_,Cw (l:=n) rfl (by lia),trivial,q⟩⟩
end
def gc:FD:=λds R=>∃(n:Int) (rows ts:List (List Int)),ds=[.tup [.int n,.lst (rows.map kD)],.lst (ts.map kD)]/\ts.length<=1000/\Pairs ts/\(¬ Good rows ts->False)/\(Good rows ts->R .cX)
theorem gc.mono:cW gc:=λds R R' k ⟨n,rows,ts,e,h1,h2,h,q⟩=>⟨n,rows,ts,e,h1,h2,h,λz=>k _ (q z)⟩
section
variable {P:Yk}{w:YB}{K:PySem.W.Frag}{mg:Str->Option Yc}{base:Heap}{c:Nat->Addr}
theorem b9:aI ["one","other","a","b","c","d"] ["one","other"] (ar dZ):=⟨rfl,rfl,rfl,by decide +kernel,rfl,by decide +kernel,by decide +kernel⟩
theorem o_ {qD fF} (dX:D9 K mg qD fF):aH P w K mg base bp 1 qD fF ["one","other"] (bX P w true gR):=by
 refine lP dX.F b9 (λds R NC=> by obtain⟨t,u,e,_⟩ := NC;subst e;rfl) λcF A outer s H E hr=>⟨_,(ag (nh (ab (i:=0)) (cy (n:=2) rfl (aM (ak (i:=2) b9.nd) (aM (ak (i:=3) b9.nd) bM))))
    (ag (nh (ab (i:=1)) (cy (n:=2) rfl (aM (ak (i:=4) b9.nd) (aM (ak (i:=5) b9.nd) bM))))
    (ai (aN (xE (jz (ab (i:=2)) (cf bK (ab (i:=4)) (cf bK (ab (i:=3)) (hX bK (ab (i:=5)))))) (rN (jz (ab (i:=4)) (cf bK (ab (i:=2)) (cf bK (ab (i:=5)) (hX bK (ab (i:=3)))))))))))),λds R h=>?_⟩
 obtain⟨t,u,rfl,⟨a,b,rfl⟩,⟨c,d,rfl⟩,q⟩:=h;refine⟨_,rfl,_,rfl,rfl,_,_,rfl,_,_,rfl,rfl,?_⟩;refine⟨_,rfl,_,rfl,rfl,_,_,rfl,_,_,rfl,rfl,?_⟩;refine Du (a:=a) (b:=c) (c:=b) (d:=d) rfl rfl rfl rfl ⟨_,rfl,KZ (λh=>⟨trivial,?_⟩) (λh=>Du (a:=c) (b:=a) (c:=d) (d:=b) rfl rfl rfl rfl ⟨trivial,?_⟩)⟩
 ·have:bL [a,b] [c,d]=true:=by show (_ || _)=true;rw[h];rfl
  rw[<- this];exact q
 ·have:bL [a,b] [c,d]=(decide (c<a)&&(decide (a<d)&&decide (d<b))):=by show (_ || _)=_;rw[h];rfl
  rw[<- this];exact q
theorem km:aI ["one","other"] ["one","other"] (ar cv):=⟨rfl,rfl,rfl,by decide +kernel,rfl,by decide +kernel,by decide +kernel⟩
theorem BU {qE fG} (dS:DW K mg qE fG):aH P w K mg base bp 1 qE fG ["one","other"] (bX P w true oh):=by
 refine lP dS.F km (λds R NA=> by obtain⟨t,u,e,_⟩ := NA;subst e;rfl) λcF A outer s H E hr=>⟨_,(ai (aN (xE (iR af (bg.m (rW hr.jh)) (aK af a9 (ab (i:=0)) ah) (ab (i:=1))) (rN (iR af (bg.m (rW hr.jh)) (aK af a9 (ab (i:=0)) ah) (ab (i:=1))))))),λds R h=>?_⟩
 obtain⟨t,u,rfl,⟨a,b,rfl⟩,q⟩:=h;refine⟨_,rfl,trivial,_,rfl,trivial,_,rfl,_,sI a u,_,rfl,lR (λh=>⟨trivial,?_⟩) (λh=>⟨_,rfl,trivial,_,rfl,trivial,_,rfl,_,sI b u,trivial,?_⟩)⟩
 ·simpa[bB,h] using q
 ·simpa[bB,h] using q
theorem gG:aI ["row","ties","k","j"] ["row","ties","k"] (ar fQ):=⟨rfl,rfl,rfl,by decide +kernel,rfl,by decide +kernel,by decide +kernel⟩
theorem BY {sU gy} (dF:Gu K mg sU gy) {qE fG} (dS:DW K mg qE fG) {qD fF} (dX:D9 K mg qD fF) (B:Bs mg):aH P w K mg base bp 2 sU gy ["row","ties","k"] (bX P w true oq):=by
 have GS:aH P w K mg base bp 1 _ _ _ (bX P w true oh):=BU dS;have GX:aH P w K mg base bp 1 _ _ _ (bX P w true gR):=o_ dX;refine lP dF.F gG (λds R Nz=> by obtain⟨n,rows,ts,k,e,_⟩ := Nz;subst e;rfl) λcF A outer s H E hr=>⟨_,(jA (bG (aE af (bg.m (zu hr.jh)) (aK af a9 (ab (i:=1)) (ab (i:=2))) (aK af a9 (ab (i:=0)) ah)) (ai (aN (aZ (aa rM (aa (ab (i:=2)) ae))))) aT)
    (jA (bG (oU.t (d3 (aE af (bg.m v7) (ab (i:=2)) ah) (dj (aE af (bg.m (ET hr.mH)) (aK af a9 (ab (i:=1)) (ab (i:=2))) (aK af a9 (ab (i:=1)) (aD af (bg.m cP) (ab (i:=2)) ah)))))) (ai (aN (aZ (aa rM (aa (ab (i:=2)) ae))))) aT)
    (ag (bx Y3 rfl (cD B.range (aa (ab (i:=2)) ae)) (ak (i:=3) gG.nd) (ai (bG (hV (aA oh.mono GS (hr.mono (by decide)) dS.m dS.F.kp dS.b (aa (aK af a9 (ab (i:=1)) (ab (i:=3))) (aa (aK af a9 (ab (i:=1)) (ab (i:=2))) ae)))) (ai (aN (aZ (aa rM (aa (ab (i:=3)) (aa (ab (i:=2)) ae)))))) aT)))
    (ag (bx Y3 rfl (cD B.range (aa (ab (i:=2)) ae)) (ak (i:=3) gG.nd) (ai (bG (hV (aA gR.mono GX (hr.mono (by decide)) dX.m dX.F.kp dX.b (aa (aK af a9 (ab (i:=1)) (ab (i:=3))) (aa (aK af a9 (ab (i:=1)) (ab (i:=2))) ae)))) (ai (aN (aZ (aa rM (aa (ab (i:=3)) (aa (ab (i:=2)) ae)))))) aT)))
    (ai (aN dw)))))),λds R h=>?_⟩
 obtain⟨n,rows,ts,k,rfl,hk,hp,hb,q⟩:=h;obtain⟨t,et⟩:∃t,ts[k]?=some t:=⟨ts[k],Yj hk⟩;have pt:Pair t:=hp t (YW et);rw[kY et]at q;unfold jS at q;refine⟨λβ=>β=[some (.val false (.tup [.int n,.lst (rows.map kD)])),some (.val false (.lst (ts.map kD))),some (.val false (.int (k:Int))),none]/\t∈rows,?_,?_⟩
 ·refine⟨_,rfl,trivial,_,rfl,_,i4 et,trivial,_,rfl,trivial,_,rfl,.inr ⟨_,wN t rows,_,rfl,VU (λh=>?_) (λh=>⟨rfl,h⟩)⟩⟩;exact⟨trivial,_,rfl,trivial,gY,trivial,by rw[if_neg h]at q;exact q⟩
 ·rintro β ⟨rfl,ht⟩;rw[if_pos ht]at q;refine⟨λβ=>β=[some (.val false (.tup [.int n,.lst (rows.map kD)])),some (.val false (.lst (ts.map kD))),some (.val false (.int (k:Int))),none]/\(decide (0<k)&&sW ts (λu=>!HT.lexLt u t) (k-1))=false,?_,?_⟩
  ·refine⟨_,rfl,trivial,_,rfl,_,rfl,lR (λuz=>?_) (λuz=>f9 rfl ⟨rfl,?_⟩)⟩
   ·have K5:0<k:=by lia
    obtain⟨u,eu⟩:∃u,ts[k-1]?=some u:=⟨ts[k-1],Yj (by lia)⟩
    have ei:uY (.lst (ts.map kD)) (.int ((k:Int)-1))=some (kD u):=by
     rw[show (k:Int)-1=((k-1:Nat):Int) by lia];exact i4 eu
    have ea:sW ts (λu=>!HT.lexLt u t) (k-1)=!HT.lexLt u t:=by unfold sW;rw[eu]
    refine⟨_,rfl,trivial,_,rfl,_,i4 et,trivial,_,rfl,trivial,_,rfl,trivial,_,rfl,_,ei,_,F4 t u,_,rfl,KZ (λh=>?_) (λh=>⟨rfl,?_⟩)⟩
    ·exact⟨trivial,_,rfl,trivial,gY,trivial,by rw[if_pos (by rw[ea,h];simp[K5])]at q;exact q⟩
    ·rw[ea,h];simp
   ·have:¬ 0<k:=by lia
    simp[this]
  ·rintro β ⟨rfl,ho⟩;rw[if_neg (by rw[ho];simp)]at q
   refine⟨_,rfl,trivial,k,rfl,by lia,by lia,trivial,?_⟩
   refine⟨λi β=>(∃x3,β=[some (.val false (.tup [.int n,.lst (rows.map kD)])),some (.val false (.lst (ts.map kD))),some (.val false (.int (k:Int))),x3])/\∀j<i,sW ts (λu=>bB u t) j=false,⟨⟨_,rfl⟩,λj hj=>by lia⟩,?_,?_⟩
   ·rintro i d β hd ⟨⟨x3,rfl⟩,pq⟩;obtain⟨hi,rfl⟩:=cO hd;rw[ZE]at hi;obtain⟨u,eu⟩:∃u,ts[i]?=some u:=⟨ts[i],Yj (by lia)⟩
    have ei:uY (.lst (ts.map kD)) (.int (0+(i:Int)))=some (kD u):=by
     rw[show 0+(i:Int)=(i:Int) by lia];exact i4 eu
    have ea:sW ts (λu=>bB u t) i=bB u t:=by unfold sW;rw[eu]
    refine⟨_,rfl,trivial,_,rfl,_,ei,trivial,_,rfl,trivial,_,rfl,_,i4 et,trivial,u,t,rfl,hp u (YW eu),_,rfl,KZ (λh=>?_) (λh=>⟨⟨_,rfl⟩,λj hj=>?_⟩)⟩
    ·rw[iX hi (by rw[ea];exact h) pq]at q
     exact⟨trivial,_,rfl,trivial,_,rfl,trivial,O8,trivial,by rw[show (0+(i:Int))=(i:Int) by lia];exact q⟩
    ·by_cases FC:j<i
     ·exact pq j FC
     ·rw[show j=i by lia,ea];exact h
   ·rintro β ⟨⟨x3,rfl⟩,pq⟩;rw[cN,ZE]at pq;rw[find_none pq]at q;refine⟨_,rfl,trivial,k,rfl,by lia,by lia,trivial,?_⟩
    refine⟨λi β=>(∃x3,β=[some (.val false (.tup [.int n,.lst (rows.map kD)])),some (.val false (.lst (ts.map kD))),some (.val false (.int (k:Int))),x3])/\∀j<i,sW ts (λu=>bL u t) j=false,⟨⟨_,rfl⟩,λj hj=>by lia⟩,?_,?_⟩
    ·rintro i d β hd ⟨⟨x3,rfl⟩,pq⟩;obtain⟨hi,rfl⟩:=cO hd;rw[ZE]at hi;obtain⟨u,eu⟩:∃u,ts[i]?=some u:=⟨ts[i],Yj (by lia)⟩
     have ei:uY (.lst (ts.map kD)) (.int (0+(i:Int)))=some (kD u):=by
      rw[show 0+(i:Int)=(i:Int) by lia];exact i4 eu
     have ea:sW ts (λu=>bL u t) i=bL u t:=by unfold sW;rw[eu]
     refine⟨_,rfl,trivial,_,rfl,_,ei,trivial,_,rfl,trivial,_,rfl,_,i4 et,trivial,u,t,rfl,hp u (YW eu),pt,_,rfl,KZ (λh=>?_) (λh=>⟨⟨_,rfl⟩,λj hj=>?_⟩)⟩
     ·rw[iX hi (by rw[ea];exact h) pq]at q
      exact⟨trivial,_,rfl,trivial,_,rfl,trivial,O8,trivial,by rw[show (0+(i:Int))=(i:Int) by lia];exact q⟩
     ·by_cases FC:j<i
      ·exact pq j FC
      ·rw[show j=i by lia,ea];exact h
    ·rintro β ⟨⟨x3,rfl⟩,pq⟩;rw[cN,ZE]at pq;rw[find_none pq]at q;exact⟨trivial,q⟩
theorem d9:aI ["row","ties","k","fault"] ["row","ties"] (ar de):=⟨rfl,rfl,rfl,by decide +kernel,rfl,by decide +kernel,by decide +kernel⟩
theorem BX {vw ik} (dO:Hz K mg vw ik) {sU gy} (dF:Gu K mg sU gy) {qE fG} (dS:DW K mg qE fG) {qD fF} (dX:D9 K mg qD fF) (B:Bs mg):aH P w K mg base bp 3 vw ik ["row","ties"] (bX P w true om):=by
 have GF:aH P w K mg base bp 2 _ _ _ (bX P w true oq):=BY dF dS dX B;refine lP dO.F d9 (λds R Nw=> by obtain⟨n,rows,ts,e,_⟩ := Nw;subst e;rfl) λcF A outer s H E hr=>⟨_,(ag (bx Y3 rfl (cD B.range (aa (bT af (c5.m ib) B.len oJ (aa (ab (i:=1)) ae)) ae)) (ak (i:=2) d9.nd) (ag (aJ (i:=3) (aA oq.mono GF (hr.mono (by decide)) dF.m dF.F.kp dF.b (aa (ab (i:=0)) (aa (ab (i:=1)) (aa (ab (i:=2)) ae)))) d9.nd)
    (ai (bG (aE af (bg.m nu) (ab (i:=3)) dw) (ai (aN (ab (i:=3)))) aT))))
    (ai (aN dw))),λds R h=>?_⟩
 obtain⟨n,rows,ts,rfl,hl,hp,q⟩:=h;refine⟨_,rfl,trivial,_,rfl,trivial,_,rfl,by rw[Ye];lia,by rw[Ye];lia,trivial,?_⟩
 rw[Ye];refine⟨λi β=>(∃x2 x3,β=[some (.val false (.tup [.int n,.lst (rows.map kD)])),some (.val false (.lst (ts.map kD))),x2,x3])/\∀j<i,iY rows ts j=none,⟨⟨_,_,rfl⟩,λj hj=>by lia⟩,?_,?_⟩
 ·rintro i d β hd ⟨⟨x2,x3,rfl⟩,pq⟩;obtain⟨hi,rfl⟩:=cO hd;rw[ZE]at hi;refine⟨_,rfl,trivial,_,rfl,trivial,_,rfl,trivial,n,rows,ts,i,by rw[Int.zero_add],hi,hp,by lia,?_⟩
  cases hf:iY rows ts i with
  |none =>
   refine⟨_,rfl,trivial,_,rfl,_,rfl,f9 rfl ⟨⟨_,_,rfl⟩,λj hj=>?_⟩⟩
   by_cases FC:j<i
   ·exact pq j FC
   ·rw[show j=i by lia];exact hf
  |some x =>
   refine⟨_,rfl,trivial,_,rfl,_,rfl,j4 rfl ⟨_,rfl,C3 (some x),?_⟩⟩;rw[<- uD hi hf pq];exact q
 ·rintro β ⟨⟨x2,x3,rfl⟩,pq⟩;rw[cN,ZE]at pq;refine⟨trivial,?_⟩;have:iW rows ts=none:=FN pq;rw[this]at q;exact q
theorem y_:aI ["row","ties"] ["row","ties"] (ar jw):=⟨rfl,rfl,rfl,by decide +kernel,rfl,by decide +kernel,by decide +kernel⟩
theorem BW {yn jQ} (dE:KQ K mg yn jQ) {vw ik} (dO:Hz K mg vw ik) {sU gy} (dF:Gu K mg sU gy) {qE fG} (dS:DW K mg qE fG) {qD fF} (dX:D9 K mg qD fF) (B:Bs mg):aH P w K mg base bp 4 yn jQ ["row","ties"] (bX P w true oj):=by
 have GO:aH P w K mg base bp 3 _ _ _ (bX P w true om):=BX dO dF dS dX B;refine lP dE.F y_ (λds R Nv=> by obtain⟨n,rows,ts,e,_⟩ := Nv;subst e;rfl) λcF A outer s H E hr=>⟨_,(ai (aN (iR af (bg.m l_) (aA om.mono GO (hr.mono (by decide)) dO.m dO.F.kp dO.b (aa (ab (i:=0)) (aa (ab (i:=1)) ae))) dw))),λds R h=>?_⟩
 obtain⟨n,rows,ts,rfl,hl,hp,q⟩:=h;refine⟨_,rfl,trivial,_,rfl,trivial,n,rows,ts,rfl,hl,hp,trivial,?_⟩;cases hf:iW rows ts with
 |none=>rw[hf]at q;exact⟨_,rfl,trivial,q⟩
 |some x=>rw[hf]at q;exact⟨_,rfl,trivial,q⟩
theorem rC:aI ["row","ties"] ["row","ties"] (ar eY):=⟨rfl,rfl,rfl,by decide +kernel,rfl,by decide +kernel,by decide +kernel⟩
theorem ny {lT gu} (oT:Ln K mg lT gu) {yn jQ} (dE:KQ K mg yn jQ) {vw ik} (dO:Hz K mg vw ik) {sU gy} (dF:Gu K mg sU gy) {qE fG} (dS:DW K mg qE fG) {qD fF} (dX:D9 K mg qD fF) (B:Bs mg):aH P w K mg base bp 5 lT gu ["row","ties"] (bX P w true gc):=by
 have GE:aH P w K mg base bp 4 _ _ _ (bX P w true oj):=BW dE dO dF dS dX B;refine lP oT.F rC (λds R Nu=> by obtain⟨n,rows,ts,e,_⟩ := Nu;subst e;rfl) λcF A outer s H E hr=>⟨_,(ai (bG (fS (hV (aA oj.mono GE (hr.mono (by decide)) dE.m dE.F.kp dE.b (aa (ab (i:=0)) (aa (ab (i:=1)) ae))))) qf aT)),λds R h=>?_⟩
 obtain⟨n,rows,ts,rfl,hl,ht,hx,q⟩:=h;refine⟨_,rfl,trivial,_,rfl,trivial,n,rows,ts,rfl,by lia,ht,_,rfl,?_⟩
 by_cases hg:Good rows ts
 ·exact f9 (by rw[oe.mpr hg];rfl) (q hg)
 ·exact j4 (by rw[decide_eq_false λz=>hg (oe.mp z)];rfl) (hx hg)
end
end lN
namespace L2.Q
open PySem PySem.Spec PyProof.Rows
section
variable {X:Cx}{C:Cfg}{p:Bool}{i:Nat}{x:Str}{e:Expr}{φ:aV}{pos pos':Pos}{op:Operator}{f:Int->Int->Int}
theorem vZ (ho:gU X (inplaceOp op) (xw λi j=>.int (f i j)))(he:PQ X C.z p e φ)(hN:X.N.Nodup)(hi:X.N[i]?=some x:=by rfl)(hx:Loc X.env.scope x:=by first|exact .inl rfl|exact .inr rfl)
  (hf:X.fn x=true\/X.env.scope.names.lookup x=some .local:=by first|exact .inl rfl|exact .inr rfl|assumption) :
  PB X C (.AugAssign (.Name x pos') op e pos) (λE β=>∃y m,β[i]?=some (some (.val y (.int m)))/\φ β λd k β'=>∃n,d=.int n/\E.nx (β'.set i (some (.val true (.int (f m n)))))) :=
 ⟨λE E' β l Nt=> by obtain⟨y,m,h,q⟩ := Nt;exact⟨y,m,h,he.mono _ _ _ (λd k β' Nr=> by obtain⟨n,h,q⟩ := Nr;exact⟨n,h,l.nx _ q⟩) q⟩,(Iz hN hi hx he.pe ho hf).pre λD σ H Nq=> by
  obtain⟨Z,E,β,⟨own,s,n⟩,⟨y,m,hb,q⟩,ok⟩ := Nq;obtain⟨v,h1,h2⟩:=s.gD hb;cases (show v=V.int m from h2)
  exact⟨_,h1,tQ.of he s q λd k β' v H' aS Np o r=> by
   obtain⟨z,e1,q⟩ := Np;subst e1;cases (show v=V.int z from r.rep)
   exact⟨m,z,rfl,rfl,ok.nx _ _ _ ⟨_,o.sq.iM (y:=true) (aB.aY (λa z=>z.elim id λz=>z.elim) (show aB X.prog X.w _ H' (.int (f m z)) (.int (f m z)) from rfl)),vL (n.trans o.sn)⟩ q⟩⟩⟩
end
end L2.Q
namespace lN
open PySem L2 L2.Q
section
variable {P:Yk}{w:YB}{K:PySem.W.Frag}{mg:Str->Option Yc}{base:Heap}
theorem a7:aI ["waiting","tie","a","b","at","low","high"] ["waiting","tie"] (ar bZ):=⟨rfl,rfl,rfl,by decide +kernel,rfl,by decide +kernel,by decide +kernel⟩
theorem xO {gz cY} (gC:Gs K mg gz cY) (B:sY mg):aH P w K mg base bp 1 gz cY ["waiting","tie"] (bX P w true AB):=by
 refine lP gC.F a7 (λds R Nn=> by obtain⟨ws,p,e,_⟩ := Nn;subst e;rfl) λcF A outer s H E hr=>⟨_,(ag (nh (ab (i:=1)) (cy (n:=2) rfl (aM (ak (i:=2) a7.nd) (aM (ak (i:=3) a7.nd) bM))))
    (ag (bx Y3 rfl (xD (tP B.enumerate (tR (Bo (i:=0)) xB))) (cy (n:=2) rfl (aM (ak (i:=4) a7.nd) (aM (cy (n:=2) rfl (aM (ak (i:=5) a7.nd) (aM (ak (i:=6) a7.nd) bM))) bM))) (ai (bG (oU.t (d3 (aE af (bg.m rV) (ab (i:=5)) (ab (i:=2))) (dj (aE af (bg.m bK) (ab (i:=3)) (ab (i:=6)))))) (ai (aN (aD aF au (bw (aa (aZ (aa (aD aF au (ab (i:=2)) ah) (aa (ab (i:=3)) ae))) (aa (aZ (aa (aD aF au (ab (i:=3)) ah) (aa (ab (i:=6)) ae))) ae))) (p0 (ab (i:=0)) (fz (aD aF au (ab (i:=4)) ah)) fA)))) aT)))
    (ai (aN dw)))),λds R h=>?_⟩
 obtain⟨ws,p,rfl,hl,q⟩:=h;refine⟨_,rfl,_,rfl,rfl,_,_,rfl,_,_,rfl,rfl,?_⟩;refine⟨_,rfl,_,rfl,trivial,?_⟩;refine⟨λm β=>∃x4 x5 x6,β=[some (.val false (.lst (ws.map l6))),some (.val false (l6 p)),some (.val true (.int (p.1:Int))),some (.val true (.int (p.2:Int))),x4,x5,x6]/\wb (ws.drop m) p=wb ws p,⟨_,_,_,rfl,rfl⟩,?_,?_⟩
 ·rintro m d β hd ⟨x4,x5,x6,rfl,hw⟩;obtain⟨b,hb,rfl⟩:=k7 hd;rw[Yu]at hb;obtain⟨v,hv,rfl⟩:=Yt.mp hb;rw[Ec hv]at hw;refine⟨_,rfl,rfl,_,_,rfl,_,_,rfl,_,rfl,rfl,_,_,rfl,_,_,rfl,rfl,rfl,?_⟩;refine⟨_,rfl,trivial,_,rfl,_,rfl,_,rfl,lR (λh1=>?_) λh1=>?_⟩
  ·refine⟨_,rfl,trivial,_,rfl,_,rfl,_,rfl,lR (λh2=>?_) λh2=>?_⟩
   ·rw[if_pos ⟨by lia,by lia⟩]at hw
    rw[<- hw]at q;have hm:m<ws.length:=(Yr.mp hv).1;have ea:wU (.lst [.tup [.int ((p.1:Int)+1),.int (p.2:Int)],.tup [.int ((p.2:Int)+1),.int (v.2:Int)]]) (.lst (cutD (ws.map l6) (some ((m:Int)+1)) none))=some (TQ (some ((p.1+1,p.2)::(p.2+1,v.2)::ws.drop (m+1)))):=by
     rw[show (m:Int)+1=((m+1:Nat):Int) by lia,z_]
     exact jW (by rw[Ye,aaH];show 2+_<=_;lia)
    refine⟨_,rfl,trivial,_,rfl,trivial,_,rfl,trivial,gY,trivial,?_⟩;exact⟨_,rfl,trivial,_,rfl,trivial,_,rfl,trivial,gY,trivial,gY,trivial,_,rfl,_,rfl,trivial,_,rfl,_,rfl,_,rfl,.inr ⟨_,ea,.inl ⟨gQ _,trivial,q⟩⟩⟩
   ·rw[if_neg (by lia)]at hw
    exact⟨_,_,_,rfl,hw⟩
  ·rw[if_neg (by lia)]at hw
   exact⟨_,_,_,rfl,hw⟩
 ·rintro β ⟨x4,x5,x6,rfl,hw⟩;rw[k6,Ye,abO]at hw;rw[<- hw]at q;exact⟨trivial,q⟩
theorem bY:aI ["row","ties","waiting","tie"] ["row","ties"] (ar cu):=⟨rfl,rfl,rfl,by decide +kernel,rfl,by decide +kernel,by decide +kernel⟩
theorem GI {pB iD} (sG:O4 K mg pB iD) {gz cY} (gC:Gs K mg gz cY) (B:sY mg):aH P w K mg base bp 2 pB iD ["row","ties"] (bX P w false Ha):=by
 have Hw:aH P w K mg base bp 1 _ _ _ (bX P w true AB):=xO gC B;refine lP sG.F bY (λds R Nm=> by obtain⟨n,ps,ns,e,_⟩ := Nm;subst e;rfl) λcF A outer s H E hr=>⟨_,(ag (aJ (i:=2) (bw (aa (aZ (aa ah (aa (aK af a9 (ab (i:=0)) ah) ae))) ae)) bY.nd)
    (ag (bx Y3 rfl (aW (ab (i:=1))) (ak (i:=3) bY.nd) (ai (aJ (i:=2) (aA AB.mono Hw (hr.mono (by decide)) gC.m gC.F.kp gC.b (aa (ab (i:=2)) (aa (ab (i:=3)) ae))) bY.nd)))
    (ai (aN (ab (i:=2)))))),λds R h=>?_⟩
 obtain⟨n,ps,ns,rfl,ok,hn,hs,q⟩:=h;refine⟨trivial,_,rfl,trivial,_,rfl,trivial,gY,trivial,sQ,?_⟩;refine⟨_,rfl,_,rfl,trivial,?_⟩;refine⟨λm β=>∃ws x3,β=[some (.val false (jZ n ps)),some (.val false (dN ns)),some (.val true (.lst (ws.map l6))),x3]/\wa [(0,n)] (ns.take m)=some ws,⟨[(0,n)],_,rfl,rfl⟩,?_,?_⟩
 ·rintro m d β hd ⟨ws,x3,rfl,hw⟩;rw[Yu]at hd;obtain⟨p,hp,rfl⟩:=Yt.mp hd;obtain⟨l,hl,_⟩:=(hs.sub (aas (m+1) ns)).wa ok;obtain⟨l0,K3,K0⟩:=(hs.sub (aas m ns)).wa ok;cases hw.symm.trans K3;have lS:=hl;rw[Zf,hp,j8,hw]at hl
  change (wb ws p).bind _=_ at hl
  cases eb:wb ws p with
  |none=>rw[eb]at hl;cases hl
  |some u =>
   rw[eb]at hl;cases hl;refine⟨_,rfl,trivial,_,rfl,trivial,ws,p,rfl,by have:=K0.uq hn;lia,?_⟩
   rw[eb];exact⟨_,_,rfl,lS⟩
 ·rintro β ⟨ws,x3,rfl,hw⟩;rw[Ye,ZL]at hw;rw[hw]at q;exact⟨_,rfl,trivial,q⟩
theorem rB:aI ["row","waiting"] ["row","waiting"] (ar eU):=⟨rfl,rfl,rfl,by decide +kernel,rfl,by decide +kernel,by decide +kernel⟩
theorem GJ {pC iE} (sH:O3 K mg pC iE) {gz cY} (gC:Gs K mg gz cY) (B:sY mg):aH P w K mg base bp 2 pC iE ["row","waiting"] (bX P w true Hc):=by
 have Hw:aH P w K mg base bp 1 _ _ _ (bX P w true AB):=xO gC B;refine lP sH.F rB (λds R Nl=> by obtain⟨n,ps,ws,e,_⟩ := Nl;subst e;rfl) λcF A outer s H E hr=>⟨_,(ai (aN (MC ["tie","waiting"] [none,some 1] (by rfl) (by decide:(["tie","waiting"]:List Str).Nodup) rfl (aW (aK af a9 (ab (i:=0)) ah)) (λ_ _ _ _ _ _=>(ak (i:=0) (by decide:(["tie","waiting"]:List Str).Nodup))) (λ_ _ _ _ _ _=>(j_ (aE af (bg.m nu) (aA AB.mono Hw (hr.mono (by decide)) gC.m gC.F.kp gC.b (aa (ab (i:=1)) (aa (ab (i:=0)) ae))) dw))) (λ_ _ _ _ _ _=>(ab (i:=0)))))),λds R h=>?_⟩
 obtain⟨n,ps,ws,rfl,ok,hl,q⟩:=h;refine⟨_,rfl,trivial,_,rfl,.inr ⟨_,rfl,trivial,?_⟩⟩;refine fX (λp:Nat×Nat=>(wb ws p).isSome) (λp=>kD (tI p)) trivial (gk (YI ok.sm (by decide))) (λp hp x0 o J ho j1 j2=>?_) ?_
 ·refine⟨_,rfl,trivial,_,rfl,trivial,ws,p,rfl,hl,?_⟩;cases eb:wb ws p with
  |none=>exact⟨trivial,_,rfl,_,rfl,f9 rfl (j2 (by rw[eb];rfl) _)⟩
  |some l=>exact⟨trivial,_,rfl,_,rfl,j4 rfl ⟨_,rfl,rfl,ho,j1 (by rw[eb];rfl) _⟩⟩
 ·exact⟨trivial,q⟩
theorem rD {n:Nat}{ps:List (Nat×Nat)}:jZ n ps=.tup [.int (n:Int),.lst ((ps.map tI).map kD)]:=by
 unfold jZ dN;rw[Y8];rfl
theorem dM {ns:List (Nat×Nat)}:dN ns=.lst ((ns.map tI).map kD):=by
 unfold dN;rw[Y8];rfl
def kZ (g:List (Nat×Nat)->Nat->List (Nat×Nat)->D):FD:=λds R=>∃(n:Nat) (ps:List (Nat×Nat)) (ts:List (List Int)),ds=[jZ n ps,.lst (ts.map kD)]/\lj n ps/\n<=40/\ts.length<=1000/\Pairs ts/\(¬ Good (ps.map tI) ts->False)/\(Good (ps.map tI) ts->∀ns,ts=ns.map tI->eR ps ns->R (g ps n ns))
theorem kZ.mono {g:List (Nat×Nat)->Nat->List (Nat×Nat)->D}:cW (kZ g):=λds R R' k ⟨n,ps,ts,e,h1,h2,h3,h4,h5,q⟩=>⟨n,ps,ts,e,h1,h2,h3,h4,h5,λz ns a b=>k _ (q z ns a b)⟩
def Of (ps:List (Nat×Nat))(n:Nat)(ns:List (Nat×Nat)):D:=.int (aL ps ((wa [(0,n)] ns).getD []):Nat)
theorem jt:aI ["row","ties"] ["row","ties"] (ar b4):=⟨rfl,rfl,rfl,by decide +kernel,rfl,by decide +kernel,by decide +kernel⟩
theorem Jb {zY qz} (Hj:Tp K mg zY qz) {lT gu} (oT:Ln K mg lT gu) {yn jQ} (dE:KQ K mg yn jQ) {vw ik} (dO:Hz K mg vw ik) {sU gy} (dF:Gu K mg sU gy) {qE fG} (dS:DW K mg qE fG) {qD fF} (dX:D9 K mg qD fF) {jR fc} (j5:D7 K mg jR fc) {iq dI} (pG:D3 K mg iq dI) {ip dG} (pF:D2 K mg ip dG) {il dD} (pE:D6 K mg il dD) {fo ck} (gB:D5 K mg fo ck) {gA cZ} (oC:D4 K mg gA cZ) {pB iD} (sG:O4 K mg pB iD) {gz cY} (gC:Gs K mg gz cY) (B:sY mg):aH P w K mg base bp 6 zY qz ["row","ties"] (bX P w true (kZ Of)):=by
 have O0:aH P w K mg base bp 5 _ _ _ (bX P w true gc):=ny oT dE dO dF dS dX B.toBs;have KP:aH P w K mg base bp 3 _ _ _ (bX P w true cS):=h8 j5 pG pF pE gB oC B;have KO:aH P w K mg base bp 1 _ _ _ (bX P w true iG):=me gB;have P6:aH P w K mg base bp 2 _ _ _ (bX P w false Ha):=GI sG gC B;refine lP Hj.F jt (λds R Nk=> by obtain⟨n,ps,ts,e,_⟩ := Nk;subst e;rfl) λcF A outer s H E hr=>⟨_,(ag (rR (aA gc.mono O0 (hr.mono (by decide)) oT.m oT.F.kp oT.b (aa (ab (i:=0)) (aa (ab (i:=1)) ae))))
    (ai (aN (aA iG.mono KO (hr.mono (by decide)) gB.m gB.F.kp gB.b (aa (aA cS.mono KP (hr.mono (by decide)) j5.m j5.F.kp j5.b (aa (ab (i:=0)) ae)) (aa (aA Ha.mono P6 (hr.mono (by decide)) sG.m sG.F.kp sG.b (aa (ab (i:=0)) (aa (ab (i:=1)) ae))) ae)))))),λds R h=>?_⟩
 obtain⟨n,ps,ts,rfl,ok,hn,hl,hp,hx,q⟩:=h;refine⟨_,rfl,trivial,_,rfl,trivial,n,ps.map tI,ts,by rw[rD],hl,hp,hx,λhg=>?_⟩
 obtain⟨ns,rfl,hs⟩:=jP ok hg;have q:=q hg ns rfl hs;obtain⟨l,ew,hw⟩:=hs.wa ok;unfold Of at q;rw[ew]at q;exact⟨_,rfl,trivial,n,ps,rfl,ok,hn,trivial,_,rfl,trivial,_,rfl,trivial,n,ps,ns,by rw[dM],ok,hn,hs,trivial,n,ps,_,_,by rw[ew];rfl,ok,hn,hw,λp _=>Yh _,trivial,q⟩
def La (ps:List (Nat×Nat))(n:Nat)(ns:List (Nat×Nat)):D:=.int (du ps [(0,n)] ns:Nat)
theorem Ee {n:Nat}{ps ns ws:List (Nat×Nat)}{m:Nat}{p:Nat×Nat}(ok:lj n ps)(hs:eR ps ns)(hp:ns[m]?=some p)(hw:wa [(0,n)] (ns.take m)=some ws):∃u,wb ws p=some u/\wa [(0,n)] (ns.take (m+1))=some u/\eQ n 0 ws:=by
 obtain⟨l,hl,_⟩:=(hs.sub (aas (m+1) ns)).wa ok;obtain⟨l0,K3,K0⟩:=(hs.sub (aas m ns)).wa ok;cases hw.symm.trans K3;have lS:=hl;rw[Zf,hp,j8,hw]at hl
 change (wb ws p).bind _=_ at hl
 cases eb:wb ws p with
 |none=>rw[eb]at hl;cases hl
 |some u=>rw[eb]at hl;cases hl;exact⟨_,rfl,lS,K0⟩
theorem HS {ps ws:List (Nat×Nat)}{p:Nat×Nat}(h:p∈mL ps ws):p∈ps/\∃u,wb ws p=some u:=by
 obtain⟨h1,h2⟩:=Y9.mp h;exact⟨h1,abF.mp h2⟩
theorem rf {ps ws:List (Nat×Nat)}:(mL ps ws).length<=ps.length:=Zz _ _
theorem ba:aI ["row","ties","counts","waiting","number","tie","passed"] ["row","ties"] (ar dQ):=⟨rfl,rfl,rfl,by decide +kernel,rfl,by decide +kernel,by decide +kernel⟩
theorem IZ {zV qu} (yv:To K mg zV qu) {lT gu} (oT:Ln K mg lT gu) {yn jQ} (dE:KQ K mg yn jQ) {vw ik} (dO:Hz K mg vw ik) {sU gy} (dF:Gu K mg sU gy) {qE fG} (dS:DW K mg qE fG) {qD fF} (dX:D9 K mg qD fF) {jR fc} (j5:D7 K mg jR fc) {iq dI} (pG:D3 K mg iq dI) {ip dG} (pF:D2 K mg ip dG) {il dD} (pE:D6 K mg il dD) {fo ck} (gB:D5 K mg fo ck) {gA cZ} (oC:D4 K mg gA cZ) {pC iE} (sH:O3 K mg pC iE) {gz cY} (gC:Gs K mg gz cY) (B:sY mg):aH P w K mg base bp 6 zV qu ["row","ties"] (bX P w true (kZ La)):=by
 have O0:aH P w K mg base bp 5 _ _ _ (bX P w true gc):=ny oT dE dO dF dS dX B.toBs;have KP:aH P w K mg base bp 3 _ _ _ (bX P w true cS):=h8 j5 pG pF pE gB oC B;have KO:aH P w K mg base bp 1 _ _ _ (bX P w true iG):=me gB;have P7:aH P w K mg base bp 2 _ _ _ (bX P w true Hc):=GJ sH gC B;have Hw:aH P w K mg base bp 1 _ _ _ (bX P w true AB):=xO gC B;refine lP yv.F ba (λds R Nj=> by obtain⟨n,ps,ts,e,_⟩ := Nj;subst e;rfl) λcF A outer s H E hr=>⟨_,(ag (rR (aA gc.mono O0 (hr.mono (by decide)) oT.m oT.F.kp oT.b (aa (ab (i:=0)) (aa (ab (i:=1)) ae))))
    (ag (aJ (i:=2) (aA cS.mono KP (hr.mono (by decide)) j5.m j5.F.kp j5.b (aa (ab (i:=0)) ae)) ba.nd)
    (ag (aJ (i:=3) (bw (aa (aZ (aa ah (aa (aK af a9 (ab (i:=0)) ah) ae))) ae)) ba.nd)
    (ag (aJ (i:=4) ah ba.nd)
    (ag (bx Y3 rfl (aW (ab (i:=1))) (ak (i:=5) ba.nd) (ag (Bd (i:=6) false ["other","tie"] [none,some 5] (by rfl) (by decide:(["other","tie"]:List Str).Nodup) rfl (λ_=>(aW (aA Hc.mono P7 (hr.mono (by decide)) sH.m sH.F.kp sH.b (aa (ab (i:=0)) (aa (ab (i:=3)) ae))))) (λ_ _ _ _ _ _=>(ak (i:=0) (by decide:(["other","tie"]:List Str).Nodup))) (λ_ _ _ _ _ _=>(j_ (aE af (bg.m (xK hr.mH)) (ab (i:=0)) (ab (i:=1))))) (λ_ _ _ _ _ _=>(ab (i:=0))) ba.nd)
    (ag (vZ (i:=4) Fq (aD aF au ah (bT af (c5.m (qO rfl)) B.sum Dx (aa (MC ["other","counts","waiting"] [none,some 2,some 3] (by rfl) (by decide:(["other","counts","waiting"]:List Str).Nodup) rfl (aW (ab (i:=6))) (λ_ _ _ _ _ _=>(ak (i:=0) (by decide:(["other","counts","waiting"]:List Str).Nodup))) (λ_ _ _ _ _ _=>kc) (λ_ _ _ _ _ _=>(aA iG.mono KO (hr.mono (by decide)) gB.m gB.F.kp gB.b (aa (ab (i:=1)) (aa (aA AB.mono Hw (hr.mono (by decide)) gC.m gC.F.kp gC.b (aa (ab (i:=2)) (aa (ab (i:=0)) ae))) ae))))) ae))) ba.nd)
    (ai (aJ (i:=3) (aA AB.mono Hw (hr.mono (by decide)) gC.m gC.F.kp gC.b (aa (ab (i:=3)) (aa (ab (i:=5)) ae))) ba.nd)))))
    (ai (aN (ab (i:=4))))))))),λds R h=>?_⟩
 obtain⟨n,ps,ts,rfl,ok,hn,hl,hp,hx,q⟩:=h;refine⟨_,rfl,trivial,_,rfl,trivial,n,ps.map tI,ts,by rw[rD],hl,hp,hx,λhg=>?_⟩
 obtain⟨ns,rfl,hs⟩:=jP ok hg;have q:=q hg ns rfl hs;refine⟨_,rfl,trivial,n,ps,rfl,ok,hn,trivial,_,rfl,trivial,_,rfl,trivial,gY,trivial,sQ,_,rfl,_,rfl,trivial,?_⟩;refine⟨λm β=>∃ws k x5 x6,β=[some (.val false (jZ n ps)),some (.val false (.lst ((ns.map tI).map kD))),some (.val true (yg n (sT ps))),some (.val true (.lst (ws.map l6))),some (.val true (.int ((k:Nat):Int))),x5,x6]/\wa [(0,n)] (ns.take m)=some ws/\k+du ps ws (ns.drop m)=du ps [(0,n)] ns,⟨[(0,n)],0,_,_,rfl,rfl,ZC _⟩,?_,?_⟩
 ·rintro m d β hd ⟨ws,k,x5,x6,rfl,hw,hk⟩;rw[Y8,Yu]at hd;obtain⟨p,hp,rfl⟩:=Yt.mp hd;obtain⟨u,eb,hu,K0⟩:=Ee ok hs hp hw;have Wo:=K0.uq hn;refine⟨_,rfl,trivial,_,rfl,trivial,n,ps,ws,rfl,ok,by lia,_,rfl,trivial,?_⟩
  refine fX (λo:Nat×Nat=>HT.lexLt (tI o) (tI p)) (λo=>kD (tI o)) trivial (gk (YI rf (YI ok.sm (by decide)))) (λo ho x0 ou J Fz j1 j2=>?_) ?_
  ·refine⟨_,rfl,trivial,_,rfl,_,yy _ _,_,rfl,?_⟩
   by_cases dt:HT.lexLt (tI o) (tI p)=true
   ·exact j4 dt ⟨_,rfl,rfl,Fz,j1 dt _⟩
   ·exact f9 (aag.mpr dt) (j2 (aag.mpr dt) _)
  ·refine⟨_,_,rfl,trivial,_,rfl,_,rfl,trivial,?_⟩;refine fX (λ_=>true) (λo=>.int ((aL ps ((wb ws o).getD []):Nat):Int)) trivial (gk (YI (Zz _ _) (YI rf (YI ok.sm (by decide))))) (λo ho x0 ou J Fz j1 j2=>?_) ?_
   ·obtain⟨h1,h2⟩:=Y9.mp ho;obtain⟨h3,v,ev⟩:=HS h1;have j1:=j1 rfl;rw[ev]at j1;refine⟨_,rfl,trivial,_,rfl,trivial,_,rfl,trivial,ws,o,rfl,by lia,?_⟩
    rw[ev];exact⟨trivial,n,ps,_,v,rfl,ok,hn,fv (ok.lt o h3).1 K0 ev,λp _=>Yh _,trivial,Fz,j1 _⟩
   ·rw[fb];refine⟨trivial,_,sum_ints,_,rfl,_,rfl,?_⟩;have e:(k:Int)+(1+(((mL ps ws).filter λo=>HT.lexLt (tI o) (tI p)).map λo=>((aL ps ((wb ws o).getD []):Nat):Int)).sum)=((k+vM ps ws p:Nat):Int):=by
     rw[mN];unfold vM;lia
    refine⟨_,rfl,trivial,_,rfl,trivial,ws,p,rfl,by lia,?_⟩
    rw[eb];refine⟨u,_,_,_,by rw[e];rfl,hu,?_⟩
    obtain⟨hm,rfl⟩:=Yr.mp hp;rw[Y5 hm]at hk
    change k+(vM ps ws ns[m]+du ps ((wb ws ns[m]).getD []) _)=_ at hk
    rw[eb]at hk
    change k+(vM ps ws ns[m]+du ps u _)=_ at hk
    lia
 ·rintro β ⟨ws,k,x5,x6,rfl,hw,hk⟩;rw[Ye,Ye,abO]at hk;rw[show La ps n ns=.int ((k:Nat):Int) by unfold La;rw[<- hk];rfl]at q
  exact⟨_,rfl,trivial,q⟩
end
section
variable {P:Yk}{w:YB}{K:PySem.W.Frag}{mg:Str->Option Yc}{base:Heap}
def iZ:FD:=λds R=>∃(n:Nat) (ps:List (Nat×Nat)) (k:Int),ds=[jZ n ps,.int k]/\lj n ps/\n<=40/\(¬ (0<=k/\k<sT ps n 0)->False)/\(0<=k->k<sT ps n 0->R (dN (sat ps n k)))
theorem iZ.mono:cW iZ:=λds R R' k ⟨n,ps,j,e,h1,h2,h3,q⟩=>⟨n,ps,j,e,h1,h2,h3,λa b=>k _ (q a b)⟩
def Bb (ps:List (Nat×Nat))(n:Nat)(k:Int)(m:Nat):List (Nat×Nat)×List (Nat×Nat)×Int:=(ps.take m).foldl (kq ps) ([(0,n)],[],k)
theorem tq {fs:List (Nat×Nat)}{p:Nat×Nat}:dN (fs++[p])=.lst (fs.map (λp=>kD (tI p))++[kD (tI p)]):=by
 unfold dN;rw[YN];rfl
theorem T_ {p:Nat×Nat}{lt:List (Nat×Nat)}:uY (dN (p::lt)) (.int 0)=some (kD (tI p)):=ur (i:=0) rfl rfl
theorem rd {bs:List (Nat×Nat)}{p:Nat×Nat}(h:bs.length<=1000):wU (dN bs) (.lst [kD (tI p)])=some (.lst ((bs++[p]).map l6)):=by
 rw[YN];exact jW (by rw[Ye];show _+1<=_;lia)
theorem t6 {ps bs lt:List (Nat×Nat)}{n:Nat}{p:Nat×Nat}:v8 ps n bs.reverse (p::lt)=some (bs++[p]):=by
 unfold v8;rw[aad]
theorem E8 {ps b:List (Nat×Nat)}{n:Nat}{z:Nat×Nat}:v8 ps n (b++[z]).reverse []=v8 ps n b.reverse ((mL ps ((wa [(0,n)] b).getD [])).filter λo=>HT.lexLt (tI z) (tI o)):=by
 rw[List.reverse_append];show v8 ps n (z::b.reverse) []=_
 conv=>lhs;unfold v8
 rw[aad]
theorem uk:∀t u:List Int,Ap.dC t u=HT.lexLt u t
 |[],[]=>rfl
 |[],_::_=>rfl
 |_::_,[]=>rfl
 |x::xs,y::ys=>by
  rw[Ap.uo,HT.bU,uk xs ys]
  by_cases h:x=y
  ·rw[if_pos h,if_pos h.symm]
  ·rw[if_neg h,if_neg λe=>h e.symm]
theorem yA (t u:List Int):OB (kD t) (kD u)=some (.bl (HT.lexLt u t)):=by
 show (match bz (t.map D.int),bz (u.map D.int)with|some ns,some ms=>some (D.bl (Ap.dC ns ms))|_,_=>none)=_
 rw[cH,cH];show some (D.bl (Ap.dC t u))=_;rw[uk]
theorem zb {ps:List (Nat×Nat)}{n m:Nat}{k:Int}{p:Nat×Nat}(h:ps[m]?=some p):Bb ps n k (m+1)=kq ps (Bb ps n k m) p:=by
 unfold Bb;rw[Zf,h,List.foldl_append];rfl
theorem bC:aI ["row","number","counts","waiting","found","left","tie","later","ways"] ["row","number"] (ar ju):=⟨rfl,rfl,rfl,by decide +kernel,rfl,by decide +kernel,by decide +kernel⟩
theorem zw {zW qv} (yw:Tn K mg zW qv) {jR fc} (j5:D7 K mg jR fc) {iq dI} (pG:D3 K mg iq dI) {ip dG} (pF:D2 K mg ip dG) {il dD} (pE:D6 K mg il dD) {fo ck} (gB:D5 K mg fo ck) {gA cZ} (oC:D4 K mg gA cZ) {gz cY} (gC:Gs K mg gz cY) (B:sY mg):aH P w K mg base bp 4 zW qv ["row","number"] (bX P w true iZ):=by
 have KP:aH P w K mg base bp 3 _ _ _ (bX P w true cS):=h8 j5 pG pF pE gB oC B;have KO:aH P w K mg base bp 1 _ _ _ (bX P w true iG):=me gB;have Hw:aH P w K mg base bp 1 _ _ _ (bX P w true AB):=xO gC B;refine lP yw.F bC (λds R Ni=> by obtain⟨n,ps,k,e,_⟩ := Ni;subst e;rfl) λcF A outer s H E hr=>⟨_,(ag (aJ (i:=2) (aA cS.mono KP (hr.mono (by decide)) j5.m j5.F.kp j5.b (aa (ab (i:=0)) ae)) bC.nd)
    (ag (bG (fS (pZ ah (cf rV (ab (i:=1)) (hX bK (aK af a9 (aK af a9 (ab (i:=2)) ah) (aK af a9 (ab (i:=0)) ah)))))) qf aT)
    (ag (aJ (i:=3) (bw (aa (aZ (aa ah (aa (aK af a9 (ab (i:=0)) ah) ae))) ae)) bC.nd)
    (ag (jB (i:=4) (λ_=>(bw ae)) bC.nd)
    (ag (aJ (i:=5) (ab (i:=1)) bC.nd)
    (ag (bx Y3 rfl (aW (aK af a9 (ab (i:=0)) ah)) (ak (i:=6) bC.nd) (ag (aJ (i:=7) (aA AB.mono Hw (hr.mono (by decide)) gC.m gC.F.kp gC.b (aa (ab (i:=3)) (aa (ab (i:=6)) ae))) bC.nd)
    (ai (bG (oU.t (d3 (aE af (bg.m v7) (ab (i:=5)) ah) (dj (aE af (bg.m nu) (ab (i:=7)) dw)))) (ag (aJ (i:=8) (aA iG.mono KO (hr.mono (by decide)) gB.m gB.F.kp gB.b (aa (ab (i:=2)) (aa (ab (i:=7)) ae))) bC.nd)
    (ai (bG (aE af (bg.m rV) (ab (i:=5)) (ab (i:=8))) (ag (zt (i:=4) (λ_=>(ab (i:=6))))
    (ag (aJ (i:=3) (ab (i:=7)) bC.nd)
    (ai (vZ (i:=5) xX ah bC.nd)))) (ai (vZ (i:=5) xX (ab (i:=8)) bC.nd))))) aT))))
    (ai (l7 (i:=4))))))))),λds R h=>?_⟩
 obtain⟨n,ps,k,rfl,ok,hn,hx,q⟩:=h;refine⟨_,rfl,trivial,n,ps,rfl,ok,hn,?_⟩;refine⟨_,rfl,_,rfl,lR (λh1=>?_) λh1=>⟨_,rfl,j4 rfl (hx λz=>h1 z.1)⟩⟩;refine⟨_,rfl,trivial,_,Cv (i:=0) rfl (Yz _),.inr ⟨trivial,_,rfl,trivial,_,rfl,_,Cw (l:=n) rfl (by lia),_,rfl,_,rfl,?_⟩⟩
 by_cases h2:k<sT ps n 0
 ·refine f9 (by show (!decide _)=false;rw[decide_eq_true h2];rfl) ?_
  have q:=q h1 h2;refine⟨trivial,_,rfl,trivial,_,rfl,trivial,gY,trivial,sQ,Yz _,trivial,_,rfl,_,rfl,trivial,_,rfl,.inr ⟨_,rfl,trivial,?_⟩⟩;refine⟨λm β=>∃ws fs l x6 x7 x8,β=[some (.val false (jZ n ps)),some (.val false (.int k)),some (.val true (yg n (sT ps))),some (.val true (.lst (ws.map l6))),some (.own (dN fs)),some (.val true (.int l)),x6,x7,x8]/\Bb ps n k m=(ws,fs,l)/\eQ n 0 ws/\fs.length<=m,⟨[(0,n)],[],k,_,_,_,rfl,rfl,eN,Yz _⟩,?_,?_⟩
  ·rintro m d β hd ⟨ws,fs,l,x6,x7,x8,rfl,hu,hw,hf⟩;rw[Yu]at hd;obtain⟨p,hp,rfl⟩:=Yt.mp hd;have Wo:=hw.uq hn;have hm:=ok.lt p (YW hp);have dt:m<ps.length:=(Yr.mp hp).1;have Rn:=ok.sm;have eu:=zb (n:=n) (k:=k) hp;rw[hu]at eu;unfold kq at eu;refine⟨_,rfl,trivial,_,rfl,trivial,ws,p,rfl,by lia,?_⟩
   cases eb:wb ws p with
   |none =>
    simp only[eb]at eu;refine⟨_,rfl,trivial,_,rfl,_,rfl,lR (λc1=>⟨_,rfl,trivial,_,rfl,_,rfl,f9 rfl ⟨ws,fs,l,_,_,_,rfl,eu,hw,by lia⟩⟩) λc1=>⟨ws,fs,l,_,_,_,rfl,eu,hw,by lia⟩⟩
   |some v =>
    simp only[eb]at eu;have hv:=fv hm.1 hw eb;refine⟨_,rfl,trivial,_,rfl,_,rfl,lR (λc1=>?_) λc1=>?_⟩
    ·rw[if_pos (show 0<l from c1)]at eu
     refine⟨_,rfl,trivial,_,rfl,_,rfl,j4 rfl ?_⟩;refine⟨_,rfl,trivial,_,rfl,trivial,n,ps,_,v,rfl,ok,hn,hv,λp _=>Yh _,?_⟩;refine⟨_,rfl,trivial,_,rfl,_,rfl,_,rfl,lR (λc2=>?_) λc2=>?_⟩
     ·rw[if_pos (show l<=_ from c2)]at eu
      exact⟨⟨_,rfl⟩,_,rfl,rfl,_,rfl,by rw[Ye];exact AY (by lia),_,rfl,_,_,rfl,_,rfl,v,fs++[p],l-1,_,_,_,by rw[tq];rfl,eu,hv,by rw[YR];exact Nat.succ_le_succ hf⟩
     ·rw[if_neg (show ¬ l<=_ from c2)]at eu
      exact⟨_,_,rfl,_,rfl,_,rfl,ws,fs,_,_,_,_,rfl,eu,hw,by lia⟩
    ·rw[if_neg (show ¬ 0<l from c1)]at eu
     exact⟨ws,fs,l,_,_,_,rfl,eu,hw,by lia⟩
  ·rintro β ⟨ws,fs,l,x6,x7,x8,rfl,hu,hw,hf⟩;rw[Ye]at hu;unfold Bb at hu;rw[ZL]at hu;unfold sat at q;rw[hu]at q;exact⟨_,rfl,q⟩
 ·exact j4 (by show (!decide _)=true;rw[decide_eq_false h2];rfl) (hx λz=>h2 z.2)
def Kj (ps:List (Nat×Nat))(n:Nat)(ns:List (Nat×Nat)):D:=match E7 ps n ns with
 |none=>.cX
 |some l=>dN l
theorem di:aI ["row","ties","begun","later","last"] ["row","ties"] (ar fN):=⟨rfl,rfl,rfl,by decide +kernel,rfl,by decide +kernel,by decide +kernel⟩
theorem I_ {zX qw} (Hh:Tj K mg zX qw) {lT gu} (oT:Ln K mg lT gu) {yn jQ} (dE:KQ K mg yn jQ) {vw ik} (dO:Hz K mg vw ik) {sU gy} (dF:Gu K mg sU gy) {qE fG} (dS:DW K mg qE fG) {qD fF} (dX:D9 K mg qD fF) {pC iE} (sH:O3 K mg pC iE) {pB iD} (sG:O4 K mg pB iD) {gz cY} (gC:Gs K mg gz cY) (B:sY mg):aH P w K mg base bp 6 zX qw ["row","ties"] (bX P w true (kZ Kj)):=by
 have O0:aH P w K mg base bp 5 _ _ _ (bX P w true gc):=ny oT dE dO dF dS dX B.toBs;have P7:aH P w K mg base bp 2 _ _ _ (bX P w true Hc):=GJ sH gC B;have P6:aH P w K mg base bp 2 _ _ _ (bX P w false Ha):=GI sG gC B;refine lP Hh.F di (λds R Nh=> by obtain⟨n,ps,ts,e,_⟩ := Nh;subst e;rfl) λcF A outer s H E hr=>⟨_,(ag (rR (aA gc.mono O0 (hr.mono (by decide)) oT.m oT.F.kp oT.b (aa (ab (i:=0)) (aa (ab (i:=1)) ae))))
    (ag (jB (i:=2) (λ_=>(p_ aF u_ B.list Gg (aa (ab (i:=1)) ae))) di.nd)
    (ag (aJ (i:=3) (aA Hc.mono P7 (hr.mono (by decide)) sH.m sH.F.kp sH.b (aa (ab (i:=0)) (aa (aA Ha.mono P6 (hr.mono (by decide)) sG.m sG.F.kp sG.b (aa (ab (i:=0)) (aa (ab (i:=2)) ae))) ae))) di.nd)
    (ag (BJ Y3 (oU.t (d3 (rL (ab (i:=2))) (dj (fS (rL (ab (i:=3))))))) (ag (aJ (i:=4) (IC (i:=2)) di.nd)
    (ai (Bd (i:=3) false ["tie","last"] [none,some 4] (by rfl) (by decide:(["tie","last"]:List Str).Nodup) rfl (λ_=>(aW (aA Hc.mono P7 (hr.mono (by decide)) sH.m sH.F.kp sH.b (aa (ab (i:=0)) (aa (aA Ha.mono P6 (hr.mono (by decide)) sG.m sG.F.kp sG.b (aa (ab (i:=0)) (aa (ab (i:=2)) ae))) ae))))) (λ_ _ _ _ _ _=>(ak (i:=0) (by decide:(["tie","last"]:List Str).Nodup))) (λ_ _ _ _ _ _=>(j_ (aE af (bg.m (xN hr.mH)) (ab (i:=0)) (ab (i:=1))))) (λ_ _ _ _ _ _=>(ab (i:=0))) di.nd))))
    (ag (bG (fS (rL (ab (i:=3)))) (ai (aN dw)) aT)
    (ai (aN (aD aF au (ab (i:=2)) (bw (aa (aK af a9 (ab (i:=3)) ah) ae)))))))))),λds R h=>?_⟩
 obtain⟨n,ps,ts,rfl,ok,hn,hl,hp,hx,q⟩:=h;refine⟨_,rfl,trivial,_,rfl,trivial,n,ps.map tI,ts,by rw[rD],hl,hp,hx,λhg=>?_⟩
 obtain⟨ns,rfl,hs⟩:=jP ok hg;have q:=q hg ns rfl hs;obtain⟨l,ew,hw⟩:=hs.wa ok;rw[<- dM];refine⟨_,rfl,trivial,_,rfl,.inl ⟨gQ _,?_⟩⟩;refine⟨trivial,_,rfl,trivial,_,rfl,trivial,_,rfl,trivial,n,ps,ns,rfl,ok,hn,hs,trivial,n,ps,_,rfl,ok,by rw[ew];have:=hw.uq hn;show l.length<=_;lia,?_⟩
 refine⟨λm β=>∃bs lt x4,β=[some (.val false (jZ n ps)),some (.val false (dN ns)),some (.own (dN bs)),some (.val true (dN lt)),x4]/\eR ps bs/\m=bs.length/\v8 ps n bs.reverse lt=E7 ps n ns/\bs.length<=1000,⟨_,ns,_,_,rfl,hs,rfl,rfl,by rw[Ye]at hl;exact hl⟩,?_⟩
 rintro m β ⟨bs,lt,x4,rfl,hb,rfl,e,R7⟩;unfold Kj at q;rw[<- e]at q;rcases List.eq_nil_or_concat bs with rfl|⟨b,z,rfl⟩
 ·refine⟨_,rfl,_,rfl,f9 rfl ?_⟩;cases lt with
  |nil=>exact⟨_,rfl,_,rfl,j4 rfl ⟨trivial,q⟩⟩
  |cons p lt =>
   rw[t6]at q;exact⟨_,rfl,_,rfl,f9 rfl ⟨_,rfl,trivial,_,rfl,trivial,_,T_,trivial,sQ,.inr ⟨_,rd R7,.inl ⟨gQ _,trivial,q⟩⟩⟩⟩
 ·rw[List.concat_eq_append]at *
  refine⟨_,rfl,_,rfl,?_⟩;have ne:(!((b++[z]).map λp=>kD (tI p)).isEmpty)=true:=by rw[YN];simp
  refine j4 ne ?_;cases lt with
  |cons p lt =>
   rw[t6]at q;exact⟨_,rfl,_,rfl,f9 rfl ⟨_,rfl,_,rfl,f9 rfl ⟨_,rfl,trivial,_,rfl,trivial,_,T_,trivial,sQ,.inr ⟨_,rd R7,.inl ⟨gQ _,trivial,q⟩⟩⟩⟩⟩
  |nil =>
   have ij:eR ps b:=hb.sub (List.sublist_append_left _ _);obtain⟨l',WU,V1⟩:=ij.wa ok;have Wm:=V1.uq hn;refine⟨_,rfl,_,rfl,j4 rfl ?_⟩;refine⟨b.map λp=>kD (tI p),kD (tI z),by rw[tq];rfl,?_⟩
   refine⟨_,rfl,trivial,_,rfl,trivial,_,rfl,trivial,n,ps,b,rfl,ok,hn,ij,trivial,n,ps,_,rfl,ok,by rw[WU];show l'.length<=_;lia,_,rfl,trivial,?_⟩
   refine fX (λo:Nat×Nat=>HT.lexLt (tI z) (tI o)) (λo=>kD (tI o)) trivial (gk (YI rf (YI ok.sm (by decide)))) (λo ho x0 ou J Fz j1 j2=>?_) ?_
   ·refine⟨_,rfl,trivial,_,rfl,_,yA _ _,_,rfl,?_⟩
    by_cases dt:HT.lexLt (tI z) (tI o)=true
    ·exact j4 dt ⟨_,rfl,rfl,Fz,j1 dt _⟩
    ·exact f9 (aag.mpr dt) (j2 (aag.mpr dt) _)
   ·rw[E8]at e;rw[YR]at R7;exact⟨b.length,by rw[YR];exact aa_ _,b,_,_,rfl,ij,rfl,e,by lia⟩
end
section
variable {P:Yk}{w:YB}{K:PySem.W.Frag}{mg:Str->Option Yc}{base:Heap}{c:Nat->Addr}
theorem Dv {β:Q.a8}{φ1 φ2 φ3 φ4:aV}{a b c d:Int}{R:D->Kd->Q.a8->Prop}(h1:∀R:D->Kd->Q.a8->Prop,R (.int a) .own β->φ1 β R)(h2:∀R:D->Kd->Q.a8->Prop,R (.int b) .own β->φ2 β R)(h3:∀R:D->Kd->Q.a8->Prop,R (.int c) .own β->φ3 β R)(h4:∀R:D->Kd->Q.a8->Prop,R (.int d) .own β->φ4 β R)
  (q:R (.bl (decide (a<b)&&(decide (b<c)&&decide (c<d)))) .own β):rG φ1 (Bn Ku φ2 (Bn Ku φ3 (Iv Ku φ4))) β R:=by
 refine h1 _ (h2 _ ⟨_,rfl,lR (λz1=>h3 _ ⟨_,rfl,lR (λz2=>h4 _ ⟨_,rfl,?_⟩) (λz2=>?_)⟩) (λz1=>?_)⟩)
 ·simpa[z1,z2] using q
 ·simpa[z1,z2] using q
 ·simpa[z1] using q
theorem lO:aI ["one","other"] ["one","other"] (ar cM):=⟨rfl,rfl,rfl,by decide +kernel,rfl,by decide +kernel,by decide +kernel⟩
theorem Jc {pD iF} (AD:O2 K mg pD iF):aH P w K mg base bp 1 pD iF ["one","other"] (bX P w true gR):=by
 refine lP AD.F lO (λds R Ng=> by obtain⟨t,u,e,_⟩ := Ng;subst e;rfl) λcF A outer s H E hr=>⟨_,(ai (aN (xE (jz (aK af a9 (ab (i:=0)) ah) (cf bK (aK af a9 (ab (i:=1)) ah) (cf bK (aK af a9 (ab (i:=0)) ah) (hX bK (aK af a9 (ab (i:=1)) ah))))) (rN (jz (aK af a9 (ab (i:=1)) ah) (cf bK (aK af a9 (ab (i:=0)) ah) (cf bK (aK af a9 (ab (i:=1)) ah) (hX bK (aK af a9 (ab (i:=0)) ah))))))))),λds R h=>?_⟩
 obtain⟨t,u,rfl,⟨a,b,rfl⟩,⟨c,d,rfl⟩,q⟩:=h;refine Dv (a:=a) (b:=c) (c:=b) (d:=d) (λR h=>⟨_,rfl,trivial,_,rfl,h⟩) (λR h=>⟨_,rfl,trivial,_,rfl,h⟩) (λR h=>⟨_,rfl,trivial,_,rfl,h⟩) (λR h=>⟨_,rfl,trivial,_,rfl,h⟩) ⟨_,rfl,KZ (λh=>⟨trivial,?_⟩) (λh=>Dv (a:=c) (b:=a) (c:=d) (d:=b) (λR h=>⟨_,rfl,trivial,_,rfl,h⟩) (λR h=>⟨_,rfl,trivial,_,rfl,h⟩) (λR h=>⟨_,rfl,trivial,_,rfl,h⟩) (λR h=>⟨_,rfl,trivial,_,rfl,h⟩) ⟨trivial,?_⟩)⟩
 ·have:bL [a,b] [c,d]=true:=by show (_ || _)=true;rw[h];rfl
  rw[<- this];exact q
 ·have:bL [a,b] [c,d]=(decide (c<a)&&(decide (a<d)&&decide (d<b))):=by show (_ || _)=_;rw[h];rfl
  rw[<- this];exact q
def uS:FD:=λds R=>∃(ts:List (List Int)) (t:List Int),ds=[.lst (ts.map kD),kD t]/\Pairs ts/\Pair t/\R (.bl (ts.all λu=>!bB u t&&!bL u t))
theorem uS.mono:cW uS:=λds R R' k h=>by obtain⟨ts,t,e,h1,h2,q⟩:=h;exact⟨ts,t,e,h1,h2,k _ q⟩
theorem lx:aI ["some","tie","one"] ["some","tie"] (ar fO):=⟨rfl,rfl,rfl,by decide +kernel,rfl,by decide +kernel,by decide +kernel⟩
theorem E1 {uM lI} (DT:P9 K mg uM lI) {pD iF} (AD:O2 K mg pD iF):aH P w K mg base bp 2 uM lI ["some","tie"] (bX P w true uS):=by
 have Xl:aH P w K mg base bp 1 _ _ _ (bX P w true gR):=Jc AD;refine lP DT.F lx (λds R Nf=> by obtain⟨ss,p,e,_⟩ := Nf;subst e;rfl) λcF A outer s H E hr=>⟨_,(ag (bx Y3 rfl (aW (ab (i:=0))) (ak (i:=2) lx.nd) (ai (bG (oU.t (gL (aE af (bg.m (rW hr.jh)) (aK af a9 (ab (i:=2)) ah) (ab (i:=1))) (gL (aE af (bg.m (rW hr.jh)) (aK af a9 (ab (i:=2)) ah) (ab (i:=1))) (hG (hV (aA gR.mono Xl (hr.mono (by decide)) AD.m AD.F.kp AD.b (aa (ab (i:=2)) (aa (ab (i:=1)) ae)))))))) (ai (aN lB)) aT)))
    (ai (aN lB))),λds R h=>?_⟩
 obtain⟨ts,t,rfl,hp,ht,q⟩:=h;refine⟨_,rfl,_,rfl,trivial,?_⟩;refine⟨λm β=>(∃x2,β=[some (.val false (.lst (ts.map kD))),some (.val false (kD t)),x2])/\(ts.take m).all (λu=>!bB u t&&!bL u t)=true,⟨⟨_,rfl⟩,by rfl⟩,?_,?_⟩
 ·rintro m d β hd ⟨⟨x2,rfl⟩,hm⟩;rw[Yu]at hd;obtain⟨u,hu,rfl⟩:=Yt.mp hd;have um:=YW hu;obtain⟨a,b,rfl⟩:=hp u um;have bad:(!bB [a,b] t&&!bL [a,b] t)=false->R (.bl false):=λz=>by
   have e:ts.all (λu=>!bB u t&&!bL u t)=false:=List.all_eq_false.mpr ⟨_,um,by rw[z];exact ZG⟩
   rw[e]at q;exact q
  refine⟨_,rfl,trivial,_,rfl,trivial,_,rfl,_,sI a t,_,rfl,lR (λz=>j4 rfl ⟨trivial,bad ?_⟩) (λz=>⟨_,rfl,trivial,_,rfl,trivial,_,rfl,_,sI b t,_,rfl,lR (λz2=>j4 rfl ⟨trivial,bad ?_⟩) (λz2=>⟨_,rfl,trivial,_,rfl,trivial,[a,b],t,rfl,⟨_,_,rfl⟩,ht,_,rfl,KZ (λz3=>⟨trivial,bad ?_⟩) (λz3=>⟨⟨_,rfl⟩,?_⟩)⟩)⟩)⟩
  ·rw[d7.mpr ⟨a,by simp,z⟩];rfl
  ·rw[d7.mpr ⟨b,by simp,z2⟩];rfl
  ·rw[z3,Bool.not_true,Z3]
  ·have hs:bB [a,b] t=false:=aag.mpr λh=>by
    obtain⟨i,h1,h2⟩:=d7.mp h;rcases Yi.mp h1 with rfl|h1
    ·exact z h2
    ·rw[Ys.mp h1]at h2;exact z2 h2
   rw[Zf,hu,List.all_append,hm,Bool.true_and];show ((!bB [a,b] t&&!bL [a,b] t)&&true)=true;rw[hs,z3];rfl
 ·rintro β ⟨⟨x2,rfl⟩,hm⟩;rw[Ye,ZL]at hm;rw[hm]at q;exact⟨trivial,q⟩
end
end lN
namespace L2.Q
open PySem PySem.Spec PyProof.Rows L2
theorem Em {l:List Nat}{x:Nat}(hx:x∈l)(h:1<=x):1<=l.sum:=by
 induction l with
 |nil=>cases hx
 |cons a l ih =>
  rw[aaP];rcases Yi.mp hx with rfl|h'
  ·lia
  ·have:=ih h';lia
theorem xv (ps:List (Nat×Nat)):∀n l i,1<=KS ps n l i
 |0,_,_=>Yh _
 |_+1,0,_=>Yh _
 |n+1,l+1,i=>by
  refine Em (YK.mpr ⟨none,Y4 _ (Ys.mpr rfl),rfl⟩) ?_;show 1<=1*KS ps n _ _;rw[aay];exact xv ps n _ _
theorem vQ (ps:List (Nat×Nat))(l i:Nat):1<=sa ps l i:=xv ps l l i
open PySem.SeqAt
abbrev PN:=Nat×Nat
def sumF (ps:List PN)(c:PN->Bool)(f:PN->Nat):Nat:=((ps.filter c).map f).sum
theorem jn {c:PN->Bool}{f:PN->Nat}:sumF [] c f=0:=rfl
theorem aR {p:PN}{ps:List PN}{c:PN->Bool}{f:PN->Nat}:sumF (p::ps) c f=(if c p=true then f p else 0)+sumF ps c f:=by
 unfold sumF
 by_cases h:c p=true
 ·rw[List.filter_cons_of_pos h,if_pos h,YA,aaP]
 ·rw[List.filter_cons_of_neg h,if_neg h,ZC]
theorem jo {f:PN->Nat}{c:PN->Bool}:∀{as bs:List PN},sumF (as++bs) c f=sumF as c f+sumF bs c f
 |[],bs=>by rw[List.nil_append,jn,ZC]
 |a::as,bs=>by rw[abP,aR,aR,jo,Nat.add_assoc]
theorem c8 {c d:PN->Bool}{f g:PN->Nat}:∀{ps:List PN},(∀p∈ps,c p=d p/\(c p=true->f p=g p))->sumF ps c f=sumF ps d g
 |[],_=>rfl
 |p::ps,h=>by
  rw[aR,aR,c8 λq hq=>h q (Yn _ hq)];obtain⟨h1,h2⟩:=h p Yo;rw[<- h1]
  by_cases hc:c p=true
  ·rw[if_pos hc,if_pos hc,h2 hc]
  ·rw[if_neg hc,if_neg hc]
theorem c7 {c:PN->Bool}{f:PN->Nat}:∀{ps:List PN},(∀p∈ps,c p=false)->sumF ps c f=0
 |[],_=>rfl
 |p::ps,h=>by
  rw[aR,h p Yo,c7 λq hq=>h q (Yn _ hq)];rfl
theorem gZ {c d e:PN->Bool}{f:PN->Nat}:∀{ps:List PN},(∀p∈ps,c p=(d p || e p)/\¬ (d p=true/\e p=true))->sumF ps c f=sumF ps d f+sumF ps e f
 |[],_=>rfl
 |p::ps,h=>by
  rw[aR,aR,aR,gZ λq hq=>h q (Yn _ hq)];obtain⟨h1,h2⟩:=h p Yo;rw[h1];cases hd:d p <;> cases he:e p
  ·simp
  ·simp;lia
  ·simp;lia
  ·exact absurd ⟨hd,he⟩ h2
theorem rh {c d:PN->Bool}{f:PN->Nat}:∀{ps:List PN},(∀p∈ps,c p=true->d p=true)->sumF ps c f<=sumF ps d f
 |[],_=>Yh _
 |p::ps,h=>by
  rw[aR,aR];have:=rh (f:=f) λq hq=>h q (Yn _ hq)
  by_cases hc:c p=true
  ·rw[if_pos hc,if_pos (h p Yo hc)];lia
  ·rw[if_neg hc];lia
theorem tw {c:PN->Bool}{f:PN->Nat}{a:Nat}:∀{ps:List PN},sumF ps c (λp=>f p*a)=sumF ps c f*a
 |[]=>by rw[jn,jn,Nat.zero_mul]
 |p::ps=>by
  rw[aR,aR,tw,Nat.add_mul]
  congr 1
  by_cases hc:c p=true
  ·rw[if_pos hc,if_pos hc]
  ·rw[if_neg hc,if_neg hc,Nat.zero_mul]
theorem lY {p:PN}{f:PN->Nat}:∀{ps:List PN},ps.Nodup->p∈ps->sumF ps (λo=>decide (o=p)) f=f p
 |[],_,h=>nomatch h
 |q::ps,nd,h=>by
  rw[aR];have Mk:=YV.mp nd;rcases Yi.mp h with rfl|h
  ·rw[if_pos (decide_eq_true rfl),c7 (c:=λo=>decide (o=p)) λo ho=>decide_eq_false λ(z:o=p)=>Mk.1 (z▸ho)];rfl
  ·have ne:q≠p:=λz=>Mk.1 (z▸h);rw[if_neg (λz=>ne (of_decide_eq_true z)),lY Mk.2 h,ZC]
def Av (v p:PN):Bool:=decide (v.1<=p.1/\p.2<v.2)
theorem Bc {ps:List PN}(hp:∀p∈ps,p.1<p.2):∀l i,sa ps l i=1+sumF ps (Av (i,i+l)) (λp=>sa ps (p.2-(p.1+1)) (p.1+1)*sa ps (i+l-(p.2+1)) (p.2+1))
 |0,i=>by
  rw[c7 (c:=Av (i,i+0)) λp h=>decide_eq_false λz=>?_]
  ·rfl
  ·have:=hp p h;have:=z.1;have:=z.2;dsimp only at *
   lia
 |l+1,i=>by
  have e:sa ps (l+1) i=((fq ps i (i+l+1)).map (eh ps i (i+l+1))).sum:=l4 hp;rw[e];unfold fq;rw[YN,List.sum_append,YA,abk,aaP,List.sum_nil,Nat.add_zero,iQ,show i+l+1-(i+1)=l by lia,Bc hp l (i+1)]
  have a:(((((iA ps i).filter λk=>decide (k<i+l+1)).map some).map (eh ps i (i+l+1))).sum)=sumF ps (λp=>decide (p.1=i)&&decide (p.2<i+l+1)) (λp=>sa ps (p.2-(p.1+1)) (p.1+1)*sa ps (i+(l+1)-(p.2+1)) (p.2+1)):=by
   unfold iA sumF;rw[List.filter_map,Y8,Y8,List.filter_filter]
   congr 1
   rw[List.filter_congr (q:=λp=>decide (p.1=i)&&decide (p.2<i+l+1)) λp hp=>by simp only[Function.comp];exact Bool.and_comm _ _]
   refine Zw λp hp=>?_;obtain⟨_,h⟩:=Y9.mp hp;have h1:=of_decide_eq_true (Ze.mp h).1;show eh ps i (i+l+1) (some p.2)=_;rw[iP,h1];rfl
  rw[a];generalize hA:sumF ps (λp=>decide (p.fst=i)&&decide (p.snd<i+l+1)) _=A;rw[show ∀B:Nat,A+(1+B+0)=1+(A+B) from λB=>by lia,<- hA]
  refine congrArg (1+·) ?_;rw[gZ (c:=Av (i,i+(l+1))) (d:=λp=>decide (p.1=i)&&decide (p.2<i+l+1)) (e:=Av (i+1,i+1+l))]
  ·congr 1
   refine c8 λp h=>⟨rfl,λ_=>by rw[show i+(l+1)-(p.2+1)=i+1+l-(p.2+1) by lia]⟩
  ·intro p h;constructor
   ·unfold Av;rw[<- Bool.decide_and,<- Bool.decide_or];refine decide_eq_decide.mpr ?_;dsimp only;lia
   ·rintro⟨z1,z2⟩;have z1:=of_decide_eq_true (Ze.mp z1).1;have z2:=of_decide_eq_true z2;have:=z2.1;dsimp only at this;lia
theorem C2 {ps:List PN}:∀{ws:List PN} {a:Nat},ws.foldl (fW ps) a=a*aL ps ws
 |[],a=>by show a=a*1;rw[Nat.mul_one]
 |v::ws,a=>by
  show ws.foldl (fW ps) (a*_)=a*ws.foldl (fW ps) (1*_);rw[C2,C2 (a:=1*_),aay,Nat.mul_assoc]
theorem c9 {ps ws:List PN}{v:PN}:aL ps (v::ws)=sa ps (v.2-v.1) v.1*aL ps ws:=by
 show ws.foldl (fW ps) (1*_)=_;rw[C2,aay]
theorem dJ {v p:PN}{ws:List PN}:wb (v::ws) p=if v.1<=p.1/\p.2<v.2 then some ((p.1+1,p.2)::(p.2+1,v.2)::ws) else wb ws p:=rfl
theorem mB {p:PN}:∀{ws l:List PN},wb ws p=some l->KN ws p
 |[],_,e=>nomatch e
 |v::ws,l,e=>by
  rw[dJ]at e
  by_cases c:v.1<=p.1/\p.2<v.2
  ·exact⟨v,Yo,c⟩
  ·rw[if_neg c]at e;obtain⟨x,hx,kx⟩:=mB e;exact⟨x,Yn _ hx,kx⟩
abbrev fits (ws:List PN)(p:PN):Bool:=(wb ws p).isSome
abbrev below (ps ws:List PN)(p:PN):Nat:=aL ps ((wb ws p).getD [])
theorem gb {ws:List PN}{p:PN}(h:fits ws p=true):∃l,wb ws p=some l:=abF.mp h
theorem wV {ps:List PN}(hp:∀p∈ps,p.1<p.2){n:Nat}:∀{ws:List PN} {lo:Nat},eQ n lo ws->aL ps ws=1+sumF ps (fits ws) (below ps ws)
 |[],_,_=>by rw[c7 (c:=fits []) λ_ _=>rfl];rfl
 |v::ws,lo,h=>by
  have ih:=wV hp h.2.2.2;have ml:∀p∈ps,Av v p=true->wb ws p=none:=λp hm hs=>by
   cases e:wb ws p with
   |none=>rfl
   |some l =>
    obtain⟨x,hx,kx⟩:=mB e;have:=h.2.2.2.mem x hx;have:=of_decide_eq_true hs;have:=hp p hm;lia
  rw[gZ (d:=Av v) (e:=fits ws)]
  ·rw[c8 (c:=Av v) (d:=Av (v.1,v.1+(v.2-v.1))) (g:=λp=>(sa ps (p.2-(p.1+1)) (p.1+1)*sa ps (v.1+(v.2-v.1)-(p.2+1)) (p.2+1))*aL ps ws),tw,c8 (c:=fits ws) (d:=fits ws) (g:=below ps ws)]
   ·rw[c9,Bc hp (v.2-v.1) v.1];generalize sumF ps (Av (v.1,v.1+(v.2-v.1))) _=A;rw[Nat.add_mul,aay];lia
   ·intro p hm;refine⟨rfl,λhf=>?_⟩;show aL ps ((wb (v::ws) p).getD [])=_;rw[dJ,if_neg];intro z;obtain⟨l,e⟩:=gb hf;rw[ml p hm (decide_eq_true z)]at e;cases e
   ·intro p hm;have hv:v.1+(v.2-v.1)=v.2:=by have:=h.2.1;lia
    rw[hv];refine⟨rfl,λhs=>?_⟩;show aL ps ((wb (v::ws) p).getD [])=_;rw[dJ,if_pos (of_decide_eq_true hs)];show aL ps (_::_::ws)=_;rw[c9,c9,Nat.mul_assoc]
  ·intro p hm;constructor
   ·show (wb (v::ws) p).isSome=_;rw[dJ]
    by_cases c:v.1<=p.1/\p.2<v.2
    ·rw[if_pos c,show Av v p=true from decide_eq_true c];rfl
    ·rw[if_neg c,show Av v p=false from decide_eq_false c];rfl
   ·rintro⟨z1,z2⟩;obtain⟨l,e⟩:=gb z2;rw[ml p hm z1]at e;cases e
end L2.Q
namespace S9
open PySem PySem.Spec PyProof.Rows TS
def uh:List (List Int)->List (List Int)->Bool
 |[],y=>decide (0<y.length)
 |_::_,[]=>false
 |a::x,b::y=>if a=b then uh x y else HT.lexLt a b
theorem sg {b:List Int}{y:List (List Int)}:uh [] (b::y)=true:=decide_eq_true (Nat.succ_pos _)
theorem nJ {a b:List Int}{x y:List (List Int)}:uh (a::x) (b::y)=if a=b then uh x y else HT.lexLt a b:=rfl
theorem kM:∀{x y:List (List Int)},uh x y=false->uh y x=false->x=y
 |[],[],_,_=>rfl
 |[],_::_,h,_=>by rw[sg]at h;cases h
 |_::_,[],_,h=>by rw[sg]at h;cases h
 |a::x,b::y,h1,h2=>by
  rw[nJ]at h1 h2
  by_cases e:a=b
  ·subst e;rw[if_pos rfl]at h1 h2;rw[kM h1 h2]
  ·rw[if_neg e]at h1;rw[if_neg (aaF e)]at h2;exact absurd (qj h1 h2) e
section
variable {A:Zc}{s:Yg}
theorem Dd {l b:Addr}{items ao:Array Yc}{ns ms:List Int}(hl:IsTup s.heap l items)(hb:IsTup s.heap b ao)(hi:Zg items.toList ns)(hj:Zg ao.toList ms)(hu:A.units<aan):SeqAt.EqAt A s (.ref l) (.ref b) (decide (ns=ms)):=by
 by_cases e:ns=ms
 ·rw[decide_eq_true e]
  by_cases z:l=b
  ·subst z;exact SeqAt.EqAt.same _
  subst e;have q:=SeqAt.RcAt.tuples (e:=λj=>true) hl hb hu λj h1 h2=>by
   obtain⟨n,t,e1,e2⟩:=P2.dk hi (j:=j) (by simpa using h1)
   obtain⟨m,t',e3,e4⟩:=P2.dk hj (j:=j) (by simpa using h2)
   have SX:items[j]=.int n t:=by simpa using e2
   have SW:ao[j]=.int m t':=by simpa using e4
   rw[e1]at e3;cases e3;rw[SX,SW];have:=SeqAt.EqAt.int_int (A:=A.in1) (s:=s) n t n t';simpa using this
  have z1:items.size=ns.length:=by rw[<- hi.length];simp
  have z2:ao.size=ns.length:=by rw[<- hj.length];simp
  have ef:((YF (min items.size ao.size)).all (λj=>true)&&items.size==ao.size)=true:=by
   rw[z1,z2];simp
  rw[ef]at q;exact SeqAt.EqAt.of_refs z q
 ·rw[decide_eq_false e];exact P2.z4 hl hb hi hj e hu
end
section
open PySem.SeqAt
open PySem.AutoSeq1 (wpAny_loadPart')
open PySem.MeetsSeq PySem.MeetsSeq2 PySem.MeetsSeq3
def Tq (A:Zc)(s:Yg)(items ao:Array Yc)(ks ms:List (List Int)):Prop :=
 items.size=ks.length/\ao.size=ms.length/\∀(j:Nat) (h1:j<items.size) (h2:j<ao.size),EqAt A.in1 s items[j] ao[j] (decide (ks.getD j []=ms.getD j []))/\∀(prog:Yk) (w:YB) (E:Yc->Yg->Prop) (Q:Yc->Yg->Prop),Q (.bool (HT.lexLt (ks.getD j []) (ms.getD j []))) s->YM (model prog w) A.in1 (richCompare .Lt items[j] ao[j]) Q E s
theorem drop_getD {ks:List (List Int)}{i:Nat}(h:i<ks.length):ks.drop i=ks.getD i []::ks.drop (i+1):=by
 rw[Y5 h,ZT,Yj h];rfl
theorem Cd (l b:Addr)(items ao:Array Yc)(n n2:Nat)(dd sV:Option Addr)(sl sR:Array (Option Yc))(ks ms:List (List Int))(k:Nat):
  ∀i:Nat,items.size-i=k->i<=items.size->Meets (Z_.«list.__eq__.loop» ⟨[.ref l,.ref b,rawInt i,rawInt 0],[]⟩)
   (λA R s=>s.heap.get? l=some {cls:=.type "list",dict:=dd,data:=.seq items n,slots:=sl}/\s.heap.get? b=some {cls:=.type "list",dict:=sV,data:=.seq ao n2,slots:=sR} /\
    i<=ao.size/\Tq A s items ao ks ms/\R (.ok (.ret (.bool (uh (ks.drop i) (ms.drop i))))) s):=by
 have fin:∀i:Nat,i<=items.size->i<=ao.size->(i=items.size\/i=ao.size)->items.size=ks.length->ao.size=ms.length->uh (ks.drop i) (ms.drop i)=decide (items.size<ao.size):=λi h1 h2 h z1 z2=>by
  rcases h with h|h
  ·rw[ZN (l:=ks) (by lia)]
   by_cases q:i<ms.length
   ·rw[drop_getD q,sg,decide_eq_true (by lia)]
   ·rw[ZN (l:=ms) (by lia),decide_eq_false (by lia)];rfl
  ·rw[ZN (l:=ms) (by lia),decide_eq_false (by lia)]
   cases ks.drop i <;> rfl
 induction k with
 |zero =>
  intro i hk PD prog w A R s h;obtain⟨hp,g,d,tk,os⟩:=s;obtain⟨hl,hb,K6,⟨z1,z2,he⟩,h⟩:=h;rw[fin i PD K6 (.inl (by lia)) z1 z2]at h
  wp_walk using YT hl,YT hb
  have FF:items[((i:Nat):Int).toNat]?=none:=by simp;lia
  rw[FF]
  wp_walk using YT hl,YT hb
  exact h
 |succ k ih =>
  intro i hk PD prog w A R s h;obtain⟨hp,g,d,tk,os⟩:=s;obtain⟨hl,hb,K6,⟨z1,z2,he⟩,h⟩:=h;have dt:i<items.size:=by lia
  have FF:items[((i:Nat):Int).toNat]?=some items[i]:=by simp[dt]
  by_cases Ke:i<ao.size
  ·have Pz:ao[((i:Nat):Int).toNat]?=some ao[i]:=by simp[Ke]
   have hc:((i:Int)+1)=((i+1:Nat):Int):=by push_cast;rfl
   wp_walk using YT hl,YT hb
   rw[FF,Pz];obtain⟨e1,e2⟩:=he i dt Ke;refine Yd (e1 prog w _ _ ?_);rw[drop_getD (ks:=ks) (z1▸dt),drop_getD (ks:=ms) (z2▸Ke),nJ]at h
   by_cases q:ks.getD i []=ms.getD i []
   ·rw[if_pos q]at h;rw[decide_eq_true q]
    wp_walk
    rw[hc];exact⟨plainId_quiet plain_eq_loop _,aaS entry_eq_loop (by
     rw[aaE plain_eq_loop _];exact ih (i+1) (by lia) (by lia) prog w A R _ ⟨hl,hb,by lia,⟨z1,z2,he⟩,h⟩)⟩
   ·rw[if_neg q]at h;rw[decide_eq_false q]
    wp_walk using YT hl,YT hb
    rw[FF,Pz];have JK:=e2 prog w
    wp_walk using JK
    exact h
  ·rw[fin i PD K6 (.inr (by lia)) z1 z2]at h
   have Pz:ao[((i:Nat):Int).toNat]?=none:=by simp;lia
   wp_walk using YT hl,YT hb
   rw[FF,Pz]
   wp_walk using YT hl,YT hb
   exact h
theorem Fi (l b:Addr)(items ao:Array Yc)(n n2:Nat)(dd sV:Option Addr)(sl sR:Array (Option Yc))(ks ms:List (List Int)):
  Meets (Z_.«list.__lt__» ⟨[.ref l,.ref b],[]⟩)
   (λA R s=>s.heap.get? l=some {cls:=.type "list",dict:=dd,data:=.seq items n,slots:=sl}/\s.heap.get? b=some {cls:=.type "list",dict:=sV,data:=.seq ao n2,slots:=sR} /\
    Tq A s items ao ks ms/\R (.ok (.ret (.bool (uh ks ms)))) s):=by
 intro prog w A R s h;obtain⟨hp,g,d,tk,os⟩:=s;obtain⟨hl,hb,he,h⟩:=h;have f3:=AutoSeq1.sub_list_list
 wp_walk using YT hl,YT hb
 exact⟨plainId_quiet plain_eq_loop _,aaS entry_eq_loop (by
  rw[aaE plain_eq_loop _];exact Cd l b items ao n n2 dd sV sl sR ks ms _ 0 rfl (Yz _) prog w A R _ ⟨hl,hb,Yz _,he,h⟩)⟩
end
end S9
namespace L2.Q
open PySem PySem.Spec PySem.SeqAt PyProof.Rows S9
abbrev eJ (p q:PN):Bool:=HT.lexLt (tI p) (tI q)
theorem lW {p q:PN}(h:p.1<q.1):eJ p q=true:=by
 show HT.lexLt ((p.1:Int)::[(p.2:Int)]) ((q.1:Int)::[(q.2:Int)])=true;rw[HT.bU,if_neg (by lia)]
 exact decide_eq_true (by lia)
theorem fJ (p:PN):eJ p p=false:=qk _
theorem jk {p q:PN}(h:eJ p q=true):eJ q p=false:=iT h
theorem vG {p q r:PN}(h:eJ p q=true)(k:eJ q r=true):eJ p r=true:=e_ h k
theorem mM {p q:PN}(h:eJ p q=false)(k:eJ q p=false):p=q:=kg (fY h k)
def Am (ps:List PN):Prop:=ps.Pairwise λp q=>eJ p q=true
def Va (ps:List PN):List PN->List PN->Prop
 |_,[]=>True
 |ws,t::ts=>t∈ps/\∃l,wb ws t=some l/\Va ps l ts
theorem fL {ps ws:List PN}{t:PN}:vM ps ws t=1+sumF ps (λo=>eJ o t&&fits ws o) (below ps ws):=by
 unfold vM mL sumF;rw[List.filter_filter]
theorem cK {ps ws ts l:List PN}{t:PN}(e:wb ws t=some l):du ps ws (t::ts)=vM ps ws t+du ps l ts:=by
 show vM ps ws t+du ps ((wb ws t).getD []) ts=_;rw[e];rfl
section
variable {ps:List PN}{n:Nat}
theorem A6 (hp:∀p∈ps,p.1<p.2)(nd:ps.Nodup){ws l:List PN}{lo:Nat}{t:PN}(h:eQ n lo ws)(ht:t∈ps)(e:wb ws t=some l):vM ps ws t+aL ps l<=aL ps ws:=by
 rw[fL,wV hp h];have a:sumF ps (λo=>decide (o=t)) (below ps ws)=aL ps l:=by
  rw[lY nd ht];show aL ps ((wb ws t).getD [])=_;rw[e];rfl
 have b:=gZ (f:=below ps ws) (ps:=ps) (c:=λo=>(eJ o t&&fits ws o) || decide (o=t)) (d:=λo=>eJ o t&&fits ws o) (e:=λo=>decide (o=t)) λp _=>⟨rfl,λNd=> by
  obtain⟨z1,z2⟩ := Nd;have z2:=of_decide_eq_true z2;rw[z2,fJ]at z1;cases z1⟩
 have c:=rh (f:=below ps ws) (ps:=ps) (c:=λo=>(eJ o t&&fits ws o) || decide (o=t)) (d:=fits ws) λp _ z=>by
  rcases Bool.or_eq_true_iff.mp z with z|z
  ·exact(Ze.mp z).2
  ·rw[of_decide_eq_true z];show (wb ws t).isSome=true;rw[e];rfl
 lia
theorem Ig (nd:ps.Nodup){ws l:List PN}{t u:PN}(ht:t∈ps)(e:wb ws t=some l)(h:eJ t u=true):vM ps ws t+aL ps l<=vM ps ws u:=by
 rw[fL,fL];have a:sumF ps (λo=>decide (o=t)) (below ps ws)=aL ps l:=by
  rw[lY nd ht];show aL ps ((wb ws t).getD [])=_;rw[e];rfl
 have b:=gZ (f:=below ps ws) (ps:=ps) (c:=λo=>(eJ o t&&fits ws o) || decide (o=t)) (d:=λo=>eJ o t&&fits ws o) (e:=λo=>decide (o=t)) λp _=>⟨rfl,λNc=> by
  obtain⟨z1,z2⟩ := Nc;have z2:=of_decide_eq_true z2;rw[z2,fJ]at z1;cases z1⟩
 have c:=rh (f:=below ps ws) (ps:=ps) (c:=λo=>(eJ o t&&fits ws o) || decide (o=t)) (d:=λo=>eJ o u&&fits ws o) λp _ z=>by
  rcases Bool.or_eq_true_iff.mp z with z|z
  ·exact Ze.mpr ⟨vG (Ze.mp z).1 h,(Ze.mp z).2⟩
  ·rw[of_decide_eq_true z,h];show (true&&(wb ws t).isSome)=true;rw[e];rfl
 lia
theorem mR (hp:∀p∈ps,p.1<p.2)(nd:ps.Nodup):∀{ts ws:List PN} {lo:Nat},eQ n lo ws->Va ps ws ts->du ps ws ts<aL ps ws
 |[],ws,_,h,_=>by
  rw[wV hp h];show 0<_;lia
 |t::ts,ws,lo,h,⟨ht,l,e,v⟩=>by
  have:=mR hp nd (fv (hp t ht) h e) v;have:=A6 hp nd h ht e;rw[cK e];lia
theorem lZ (hp:∀p∈ps,p.1<p.2)(nd:ps.Nodup):∀{ts us ws:List PN} {lo:Nat},eQ n lo ws->Va ps ws ts->Va ps ws us->uh (ts.map tI) (us.map tI)=true->du ps ws ts<du ps ws us
 |[],[],_,_,_,_,_,z=>by cases z
 |[],u::us,ws,_,h,_,_,_=>by
  show 0<vM ps ws u+_;rw[fL];lia
 |_::_,[],_,_,_,_,_,z=>by cases z
 |t::ts,u::us,ws,lo,h,⟨ht,l,e,v⟩,⟨hu,m,e',v'⟩,z=>by
  rw[YA,YA,nJ]at z;rw[cK e,cK e']
  by_cases c:tI t=tI u
  ·rw[if_pos c]at z;cases kg c;rw[e]at e';cases e';have:=lZ hp nd (fv (hp t ht) h e) v v' z;lia
  ·rw[if_neg c]at z;have:=Ig nd ht e z;have:=mR hp nd (fv (hp t ht) h e) v;lia
theorem eS:∀{ts us:List PN},ts.map tI=us.map tI->ts=us
 |[],[],_=>rfl
 |[],_::_,z=>by cases z
 |_::_,[],z=>by cases z
 |t::ts,u::us,z=>by
  rw[YA,YA]at z;obtain⟨a,b⟩:=List.cons.inj z;rw[kg a,eS b]
theorem xo (hp:∀p∈ps,p.1<p.2)(nd:ps.Nodup){ts us ws:List PN}{lo:Nat}(h:eQ n lo ws)(v:Va ps ws ts)(v':Va ps ws us)(e:du ps ws ts=du ps ws us):ts=us:=by
 refine eS (kM ?_ ?_)
 ·cases z:uh (ts.map tI) (us.map tI)with
  |false=>rfl
  |true=>have:=lZ hp nd h v v' z;lia
 ·cases z:uh (us.map tI) (ts.map tI)with
  |false=>rfl
  |true=>have:=lZ hp nd h v' v z;lia
theorem Fh (hp:∀p∈ps,p.1<p.2)(nd:ps.Nodup){ts us ws:List PN}{lo:Nat}(h:eQ n lo ws)(v:Va ps ws ts)(v':Va ps ws us)(e:du ps ws ts<du ps ws us):uh (ts.map tI) (us.map tI)=true:=by
 cases z:uh (ts.map tI) (us.map tI)with
 |true=>rfl
 |false =>
  cases z':uh (us.map tI) (ts.map tI)with
  |true=>have:=lZ hp nd h v' v z';lia
  |false =>
   have:=eS (kM z z');subst this;lia
theorem Gx {p:PN}(hp:p.1<p.2):∀{ws l:List PN} {lo:Nat},eQ n lo ws->wb ws p=some l->eQ n (p.1+1) l
 |[],_,_,_,e=>nomatch e
 |v::ws,l,lo,h,e=>by
  rw[dJ]at e
  by_cases c:v.1<=p.1/\p.2<v.2
  ·rw[if_pos c]at e;cases e;have:=h.2.2.1;exact⟨Yh _,hp,by show p.2<=n;lia,Yh _,c.2,h.2.2.1,h.2.2.2⟩
  ·rw[if_neg c]at e;exact Gx hp h.2.2.2 e
theorem FQ {p:PN}{ws:List PN}{lo:Nat}(h:eQ n lo ws)(f:fits ws p=true):lo<=p.1:=by
 obtain⟨l,e⟩:=gb f;obtain⟨x,hx,k⟩:=mB e;have:=h.mem x hx;lia
def LK (ps qs ws:List PN):List PN->Nat
 |[]=>0
 |t::ts=>1+sumF qs (λo=>eJ o t&&fits ws o) (below ps ws)+du ps ((wb ws t).getD []) ts
theorem xp {ws:List PN}:∀ts:List PN,LK ps ps ws ts=du ps ws ts
 |[]=>rfl
 |t::ts=>by
  show 1+_+_=vM ps ws t+_;rw[fL]
theorem fy (hp:∀p∈ps,p.1<p.2)(hs:Am ps):∀(qs as ws ch:List PN) (k:Nat),ps=as++qs->eQ n 0 ws->k<=sumF qs (fits ws) (below ps ws) ->
  ∃ts,(qs.foldl (kq ps) (ws,ch,(k:Int))).2.1=ch++ts/\Va ps ws ts/\LK ps qs ws ts=k/\∀t us,ts=t::us->t∈qs
 |[],as,ws,ch,k,_,_,h=>by
  rw[jn]at h;exact⟨[],(ZW _).symm,trivial,by show 0=k;lia,λt us z=>nomatch z⟩
 |q::qs,as,ws,ch,k,ep,hw,h=>by
  have qF:ps=(as++[q])++qs:=by rw[ep,Zj];rfl
  have hq:q∈ps:=by rw[ep];exact Y4 _ Yo
  rw[ep]at hs;obtain⟨_,sS,V7⟩:=aaA.mp hs;have Ug:=Za.mp sS;rw[<- ep]at hs;rw[aR]at h;rw[aaU];cases e:wb ws q with
  |none =>
   have ef:fits ws q=false:=by show (wb ws q).isSome=false;rw[e];rfl
   have es:kq ps (ws,ch,(k:Int)) q=(ws,ch,(k:Int)):=by unfold kq;rw[e]
   rw[es];rw[if_neg (by rw[ef];decide),ZC]at h
   obtain⟨ts,h1,h2,h3,h4⟩:=fy hp hs qs _ ws ch k qF hw h;refine⟨ts,h1,h2,?_,λt us z=>Yn _ (h4 t us z)⟩;cases ts with
   |nil=>exact h3
   |cons t ts =>
    rw[<- h3];show 1+sumF (q::qs) _ _+_=1+sumF qs _ _+_;rw[aR,if_neg (by rw[ef,Z3];decide),ZC]
  |some l =>
   have ef:fits ws q=true:=by show (wb ws q).isSome=true;rw[e];rfl
   have eb:below ps ws q=aL ps l:=by show aL ps ((wb ws q).getD [])=_;rw[e];rfl
   rw[if_pos ef,eb]at h
   by_cases k0:k=0
   ·subst k0;have es:kq ps (ws,ch,((0:Nat):Int)) q=(ws,ch,((0:Nat):Int)):=by unfold kq;rw[e];exact if_neg (by dsimp only;lia)
    rw[es];obtain⟨ts,h1,h2,h3,h4⟩:=fy hp hs qs _ ws ch 0 qF hw (Yz _);cases ts with
    |nil=>exact⟨[],h1,trivial,rfl,λt us z=>nomatch z⟩
    |cons t ts=>change 1+_+_=0 at h3;lia
   by_cases kl:k<=aL ps l
   ·have es:kq ps (ws,ch,(k:Int)) q=(l,ch++[q],((k-1:Nat):Int)):=by
     unfold kq;rw[e];show (if (0:Int)<k then (if (k:Int)<=_ then _ else _) else _)=_
     rw[if_pos (by lia),if_pos (by lia),show (k:Int)-1=((k-1:Nat):Int) by lia]
    rw[es];have hl:=Gx (hp q hq) hw e;have K3:=fv (hp q hq) hw e;have out:∀p,p∈as\/p=q->fits l p=false:=λp wA=>by
     cases z:fits l p with
     |false=>rfl
     |true =>
      have z1:=FQ hl z;have z2:=lW (p:=q) (q:=p) (by lia)
      rcases wA with hm|rfl
      ·have:=jk z2;rw[V7 p hm q Yo]at this;cases this
      ·rw[fJ]at z2;cases z2
    have sm:∀c:PN->Bool,(∀p,c p=true->fits l p=true)->sumF ps c (below ps l)=sumF qs c (below ps l):=λc hc=>by
     have o2:∀p,p∈as\/p=q->c p=false:=λp wA=>by
      cases z:c p with
      |false=>rfl
      |true=>exact absurd (hc p z) (by rw[out p wA];decide)
     conv=>lhs;arg 1;rw[ep]
     rw[jo,c7 λp hm=>o2 p (.inl hm),aR,if_neg (by rw[o2 q (.inr rfl)];decide)]
     lia
    obtain⟨ts,h1,h2,h3,h4⟩:=fy hp hs qs _ l (ch++[q]) (k-1) qF K3 (by
     have:=wV hp K3;rw[sm _ λ_ z=>z]at this;lia)
    refine⟨q::ts,by rw[h1,Zj];rfl,⟨hq,l,e,h2⟩,?_,λt us z=>by cases z;exact Yo⟩
    show 1+sumF (q::qs) _ _+du ps ((wb ws q).getD []) ts=k;rw[e,c7 λp hm=>?_]
    ·show 1+0+du ps l ts=k;have:du ps l ts=k-1:=by
      rw[<- h3];cases ts with
      |nil=>rfl
      |cons t ts =>
       show vM ps l t+_=1+_+_;rw[fL,sm _ λp z=>(Ze.mp z).2]
     lia
    ·rcases Yi.mp hm with rfl|hm
     ·rw[fJ];rfl
     ·rw[jk (Ug.1 p hm)];rfl
   ·have es:kq ps (ws,ch,(k:Int)) q=(ws,ch,((k-aL ps l:Nat):Int)):=by
     unfold kq;rw[e];show (if (0:Int)<k then (if (k:Int)<=_ then _ else _) else _)=_
     rw[if_pos (by lia),if_neg (by lia),show (k:Int)-((aL ps l:Nat):Int)=((k-aL ps l:Nat):Int) by lia]
    rw[es];obtain⟨ts,h1,h2,h3,h4⟩:=fy hp hs qs _ ws ch (k-aL ps l) qF hw (by lia)
    refine⟨ts,h1,h2,?_,λt us z=>Yn _ (h4 t us z)⟩;cases ts with
    |nil=>change 0=_ at h3;lia
    |cons t ts =>
     change 1+sumF qs _ _+_=_ at h3
     show 1+sumF (q::qs) _ _+_=k;rw[aR,if_pos (by rw[ef,Ug.1 t (h4 t ts rfl)];rfl),eb]
     lia
theorem Ep (hp:∀p∈ps,p.1<p.2)(hs:Am ps){ws:List PN}(h:eQ n 0 ws){k:Nat}(hk:k<aL ps ws):∃ts,Va ps ws ts/\du ps ws ts=k:=by
 rw[wV hp h]at hk;obtain⟨ts,_,h2,h3,_⟩:=fy hp hs ps [] ws [] k rfl h (by lia)
 exact⟨ts,h2,by rw[<- h3,xp]⟩
theorem d6:aL ps [(0,n)]=sa ps n 0:=by
 rw[c9];show sa ps (n-0) 0*1=_;rw[Nat.mul_one,Nat.sub_zero]
theorem gH (hp:∀p∈ps,p.1<p.2)(hs:Am ps){k:Nat}(hk:k<sa ps n 0):Va ps [(0,n)] (sat ps n k)/\du ps [(0,n)] (sat ps n k)=k:=by
 have:=wV hp (eN (n:=n));rw[d6]at this;obtain⟨ts,h1,h2,h3,_⟩:=fy hp hs ps [] [(0,n)] [] k rfl eN (by lia)
 have e:sat ps n k=ts:=h1;rw[e];exact⟨h2,by rw[<- h3,xp]⟩
end
section
variable {ps:List PN}{n:Nat}
theorem c6:∀{a b ws:List PN},Va ps ws (a++b)↔Va ps ws a/\∃l,wa ws a=some l/\Va ps l b
 |[],b,ws=>⟨λh=>⟨trivial,ws,rfl,h⟩,λNb=> by obtain⟨_,l,e,h⟩ := Nb;cases e;exact h⟩
 |t::a,b,ws=>by
  constructor
  ·rintro⟨ht,l,e,v⟩;obtain⟨h1,m,e',h2⟩:=c6.mp v;exact⟨⟨ht,l,e,h1⟩,m,by show (wb ws t).bind _=_;rw[e];exact e',h2⟩
  ·rintro⟨⟨ht,l,e,h1⟩,m,e',h2⟩
   change (wb ws t).bind _=_ at e'
   rw[e]at e';exact⟨ht,l,e,c6.mpr ⟨h1,m,e',h2⟩⟩
theorem AL:∀{a ws:List PN},Va ps ws a->∃l,wa ws a=some l
 |[],ws,_=>⟨ws,rfl⟩
 |t::a,ws,⟨ht,l,e,v⟩=>by
  obtain⟨m,e'⟩:=AL v;exact⟨m,by show (wb ws t).bind _=_;rw[e];exact e'⟩
theorem pO (hp:∀p∈ps,p.1<p.2):∀{a ws l:List PN} {lo:Nat},eQ n lo ws->Va ps ws a->wa ws a=some l->eQ n lo l
 |[],ws,l,lo,h,_,e=>by cases e;exact h
 |t::a,ws,l,lo,h,⟨ht,m,e,v⟩,e'=>by
  change (wb ws t).bind _=_ at e'
  rw[e]at e';exact pO hp (fv (hp t ht) h e) v e'
theorem fK:∀{a b ws l:List PN},wa ws a=some l->du ps ws (a++b)=du ps ws a+du ps l b
 |[],b,ws,l,e=>by cases e;show _=0+_;rw[ZC];rfl
 |t::a,b,ws,l,e=>by
  change (wb ws t).bind _=_ at e
  obtain⟨m,e1,e2⟩:=Y6.mp e;rw[abP,cK e1,cK e1,fK e2,Nat.add_assoc]
theorem Gy:∀{ts ws l:List PN},(∀t∈ts,t∈ps)->wa ws ts=some l->Va ps ws ts
 |[],_,_,_,_=>trivial
 |t::ts,ws,l,h,e=>by
  change (wb ws t).bind _=_ at e
  obtain⟨m,e1,e2⟩:=Y6.mp e;exact⟨h t Yo,m,e1,Gy (λu hu=>h u (Yn _ hu)) e2⟩
theorem eR.va (ok:lj n ps){ns:List PN}(h:eR ps ns):Va ps [(0,n)] ns:=by
 obtain⟨l,e,_⟩:=h.wa ok;exact Gy h.1 e
def Fr (s:PN)(ws:List PN):Prop:=∀v∈ws,s.1<v.1/\(v.2<=s.2\/s.2<v.1)
theorem G_ {s p:PN}(hp:p.1<p.2):∀{ws l:List PN},Fr s ws->wb ws p=some l->Fr s l
 |[],_,_,e=>nomatch e
 |v::ws,l,h,e=>by
  rw[dJ]at e
  by_cases c:v.1<=p.1/\p.2<v.2
  ·rw[if_pos c]at e;cases e;have hv:=h v Yo;intro u hu;rcases Yi.mp hu with rfl|hu
   ·dsimp only;lia
   rcases Yi.mp hu with rfl|hu
   ·dsimp only;lia
   exact h u (Yn _ hu)
  ·rw[if_neg c]at e;exact G_ hp (λu hu=>h u (Yn _ hu)) e
theorem sA {p:PN}(hp:p.1<p.2):∀{ws l:List PN} {lo:Nat},eQ n lo ws->wb ws p=some l->Fr p l
 |[],_,_,_,e=>nomatch e
 |v::ws,l,lo,h,e=>by
  rw[dJ]at e
  by_cases c:v.1<=p.1/\p.2<v.2
  ·rw[if_pos c]at e;cases e;intro u hu;rcases Yi.mp hu with rfl|hu
   ·dsimp only;lia
   rcases Yi.mp hu with rfl|hu
   ·dsimp only;lia
   have:=h.2.2.2.mem u hu;lia
  ·rw[if_neg c]at e;exact sA hp h.2.2.2 e
theorem AM (hp:∀p∈ps,p.1<p.2){s:PN}:∀{ts ws:List PN},Fr s ws->Va ps ws ts->∀t∈ts,s.1<t.1/\KR s t
 |[],_,_,_,t,ht=>nomatch ht
 |u::ts,ws,f,⟨hu,l,e,v⟩,t,ht=>by
  rcases Yi.mp ht with rfl|ht
  ·obtain⟨x,hx,k⟩:=mB e;have:=f x hx;show s.1<t.1/\(t.2<s.2\/s.2<t.1);lia
  ·exact AM hp (G_ (hp u hu) f e) v t ht
theorem gX (hp:∀p∈ps,p.1<p.2):∀{ts ws:List PN} {lo:Nat},eQ n lo ws->Va ps ws ts->yL ts
 |[],_,_,_,_=>abA
 |t::ts,ws,lo,h,⟨ht,l,e,v⟩=>Za.mpr ⟨λu hu=>AM hp (sA (hp t ht) h e) v u hu,gX hp (fv (hp t ht) h e) v⟩
theorem ff:∀{ts ws:List PN},Va ps ws ts->∀t∈ts,t∈ps
 |[],_,_,_,h=>nomatch h
 |t::ts,ws,⟨ht,l,e,v⟩,u,hu=>by
  rcases Yi.mp hu with rfl|hu
  ·exact ht
  ·exact ff v u hu
theorem Va.set (ok:lj n ps){ns:List PN}(h:Va ps [(0,n)] ns):eR ps ns:=⟨ff h,gX (λp hp=>(ok.lt p hp).1) eN h⟩
theorem Ej (hs:Am ps){ws:List PN}{c:PN->Bool}:((mL ps ws).filter c).Pairwise λp q=>eJ p q=true:=(List.Pairwise.filter _ hs).filter _
theorem B4 (hp:∀p∈ps,p.1<p.2)(nd:ps.Nodup)(hs:Am ps):∀(rr ws:List PN) (c:PN->Bool) (E:Nat),Va ps [(0,n)] rr.reverse->wa [(0,n)] rr.reverse=some ws ->
  (∀o u,c o=true->eJ o u=true->c u=true)->E=du ps [(0,n)] rr.reverse+1+sumF ps (λo=>!c o&&fits ws o) (below ps ws) ->
  (v8 ps n rr ((mL ps ws).filter c)=none/\E=sa ps n 0)\/∃l,v8 ps n rr ((mL ps ws).filter c)=some l/\Va ps [(0,n)] l/\du ps [(0,n)] l=E:=by
 intro rr
 induction rr with
 |nil =>
  intro ws c E hv ew hc hE;cases hf:(mL ps ws).filter c with
  |cons o os=>exact .inr (xP hs hp hv ew hc hE hf)
  |nil =>
   left
   refine⟨rfl,?_⟩;cases ew;rw[xQ hp eN hf hE,d6];show 0+_=_;rw[ZC]
 |cons z r ih =>
  intro ws c E hv ew hc hE;cases hf:(mL ps ws).filter c with
  |cons o os=>exact .inr (xP hs hp hv ew hc hE hf)
  |nil =>
   rw[List.reverse_cons]at hv ew hE;obtain⟨v1,l,e1,hz,m,e2,_⟩:=c6.mp hv;rw[j8,e1,ZJ]at ew
   change (wb l z).bind _=_ at ew
   rw[e2]at ew;cases ew;have hl:=pO hp eN v1 e1;have h0:=xQ hp (fv (hp z hz) hl e2) hf hE;rw[fK e1,cK e2]at h0;show (v8 ps n r ((mL ps ((wa [(0,n)] r.reverse).getD [])).filter λo=>HT.lexLt (tI z) (tI o))=none/\_)\/∃_,v8 ps n r ((mL ps ((wa [(0,n)] r.reverse).getD [])).filter λo=>HT.lexLt (tI z) (tI o))=_/\_;rw[e1];refine ih l (λo=>eJ z o) E v1 e1 (λo u h1 h2=>vG h1 h2) ?_;rw[h0,fL];have a:sumF ps (λo=>decide (o=z)) (below ps l)=aL ps ws:=by
    rw[lY nd hz];show aL ps ((wb l z).getD [])=_;rw[e2];rfl
   have b:=gZ (f:=below ps l) (ps:=ps) (c:=λo=>!eJ z o&&fits l o) (d:=λo=>eJ o z&&fits l o) (e:=λo=>decide (o=z)) λp _=>by
    constructor
    ·by_cases Rb:p=z
     ·have ef:fits l z=true:=by show (wb l z).isSome=true;rw[e2];rfl
      rw[Rb,fJ,ef,decide_eq_true (rfl:z=z)];rfl
     ·rw[decide_eq_false Rb,Bool.or_false];cases q:eJ z p with
      |true=>rw[jk q];rfl
      |false =>
       cases q2:eJ p z with
       |true=>rfl
       |false=>exact absurd (mM q2 q) Rb
    ·rintro⟨z1,z2⟩;rw[of_decide_eq_true z2,fJ]at z1;cases z1
   rw[b,a];show _+(_+0)+_=_;lia
where
 xQ {ws:List PN} {lo:Nat} {c:PN->Bool} {E S:Nat} (hp:∀p∈ps,p.1<p.2) (h:eQ n lo ws) (hf:(mL ps ws).filter c=[]) (hE:E=S+1+sumF ps (λo=>!c o&&fits ws o) (below ps ws)):E=S+aL ps ws:=by
  rw[hE,wV hp h];rw[c8 (c:=λo=>!c o&&fits ws o) (d:=fits ws) (g:=below ps ws) λp hm=>⟨?_,λ_=>rfl⟩]
  ·lia
  ·cases q:fits ws p with
   |false=>exact Z3 _
   |true =>
    cases q2:c p with
    |false=>rfl
    |true =>
     have:p∈(mL ps ws).filter c:=Y9.mpr ⟨Y9.mpr ⟨hm,q⟩,q2⟩;rw[hf]at this;cases this
 xP {r ws os:List PN} {o:PN} {c:PN->Bool} {E:Nat} (hs:Am ps) (hp:∀p∈ps,p.1<p.2) (hv:Va ps [(0,n)] r.reverse) (ew:wa [(0,n)] r.reverse=some ws) (hc:∀o u,c o=true->eJ o u=true->c u=true)
   (hE:E=du ps [(0,n)] r.reverse+1+sumF ps (λo=>!c o&&fits ws o) (below ps ws)) (hf:(mL ps ws).filter c=o::os):∃l,v8 ps n r (o::os)=some l/\Va ps [(0,n)] l/\du ps [(0,n)] l=E:=by
  have ho:o∈(mL ps ws).filter c:=by rw[hf];exact Yo
  obtain⟨J7,Ut⟩:=Y9.mp ho;obtain⟨NW,Wa⟩:=Y9.mp J7;obtain⟨l,el⟩:=gb Wa;have JH:=Ej hs (ws:=ws) (c:=c);rw[hf]at JH;have JH:=Za.mp JH;refine⟨r.reverse++[o],by unfold v8;rfl,c6.mpr ⟨hv,ws,ew,NW,l,el,trivial⟩,?_⟩
  rw[fK ew,cK el,fL,hE];show _+(_+0)=_;rw[c8 (c:=λp=>eJ p o&&fits ws p) (d:=λp=>!c p&&fits ws p) (g:=below ps ws) λp hm=>⟨?_,λ_=>rfl⟩]
  ·lia
  ·cases q:fits ws p with
   |false=>rw[Z3,Z3]
   |true =>
    rw[Bool.and_true,Bool.and_true];cases q2:c p with
    |false =>
     cases q3:eJ p o with
     |true=>rfl
     |false =>
      cases q4:eJ o p with
      |true=>rw[hc o p Ut q4]at q2;cases q2
      |false=>cases mM q3 q4;rw[Ut]at q2;cases q2
    |true =>
     have:p∈(mL ps ws).filter c:=Y9.mpr ⟨Y9.mpr ⟨hm,q⟩,q2⟩;rw[hf]at this;rcases Yi.mp this with rfl|hm
     ·exact fJ _
     ·exact jk (JH.1 p hm)
theorem B0 (hp:∀p∈ps,p.1<p.2)(nd:ps.Nodup)(hs:Am ps){ns:List PN}(h:Va ps [(0,n)] ns):
  (E7 ps n ns=none/\du ps [(0,n)] ns+1=sa ps n 0)\/∃l,E7 ps n ns=some l/\Va ps [(0,n)] l/\du ps [(0,n)] l=du ps [(0,n)] ns+1:=by
 obtain⟨ws,ew⟩:=AL h;have:=B4 hp nd hs ns.reverse ws (λ_=>true) (du ps [(0,n)] ns+1) (by rw[aad];exact h) (by rw[aad];exact ew) (λ_ _ _ _=>rfl) (by
  rw[aad,c7 (c:=λo=>!true&&fits ws o) λ_ _=>rfl])
 unfold E7;rw[ew];have e:(mL ps ws).filter (λ_=>true)=mL ps ws:=List.filter_eq_self.mpr λ_ _=>rfl;rw[e]at this;exact this
end
section
variable {ps:List PN}{n:Nat}
def cA (s:List PN)(o:PN):Bool:=match s.getLast? with
 |none=>true
 |some z=>eJ z o
def cB (s:List PN)(o:PN):Bool:=(s.map tI).all λu=>!bB u (tI o)&&!bL u (tI o)
theorem vd {s o:PN}(hs:s.1<s.2)(ho:o.1<o.2)(h:s.1<o.1/\KR s o):(!bB (tI s) (tI o)&&!bL (tI s) (tI o))=true:=by
 obtain⟨s1,s2⟩:=s;obtain⟨o1,o2⟩:=o;obtain⟨h1,h2⟩:=h
 change o2<s2\/s2<o1 at h2
 dsimp only at hs ho h1;have a:bB (tI (s1,s2)) (tI (o1,o2))=false:=aag.mpr λz=>by
  obtain⟨x,z1,z2⟩:=d7.mp z;simp only[tI,Yi,ZY,or_false]at z1 z2;lia
 have b:bL (tI (s1,s2)) (tI (o1,o2))=false:=aag.mpr λz=>by
  have z:k_ (s1:Int) s2 o1 o2=true:=z;have:=oF.mp z;lia
 rw[a,b];rfl
theorem ye:∀{s:List PN},yL s->∀z,s.getLast?=some z->∀u∈s,u=z\/u.1<z.1
 |[],_,_,_,_,h=>nomatch h
 |[a],_,z,e,u,hu=>by
  cases e;exact .inl (Ys.mp hu)
 |a::b::s,h,z,e,u,hu=>by
  have h':=Za.mp h;rw[abN]at e;rcases Yi.mp hu with rfl|hu
  ·exact .inr (h'.1 z (aaB e)).1
  ·exact ye h'.2 z e u hu
theorem FR (ok:lj n ps){s ws:List PN}(hv:Va ps [(0,n)] s)(ew:wa [(0,n)] s=some ws){o:PN}(ho:o∈ps):(cA s o&&cB s o)=fits ws o:=by
 have hp:∀p∈ps,p.1<p.2:=λp h=>(ok.lt p h).1;have hg:=gX hp eN hv;cases f:fits ws o with
 |true =>
  obtain⟨l,el⟩:=gb f;have Pp:Va ps [(0,n)] (s++[o]):=c6.mpr ⟨hv,ws,ew,ho,l,el,trivial⟩;have Wx:=aaA.mp (gX hp eN Pp);have key:∀u∈s,u.1<o.1/\KR u o:=λu hu=>Wx.2.2 u hu o (Ys.mpr rfl);rw[Ze];constructor
  ·unfold cA;cases e:s.getLast? with
   |none=>rfl
   |some z=>exact lW (key z (aaB e)).1
  ·refine aai.mpr λu hu=>?_;obtain⟨x,hx,rfl⟩:=YK.mp hu;exact vd (hp x (ff hv x hx)) (hp o ho) (key x hx)
 |false =>
  cases z:(cA s o&&cB s o)with
  |false=>rfl
  |true =>
   exfalso
   obtain⟨z1,z2⟩:=Ze.mp z;have key:∀u∈s,u.1<o.1/\KR u o:=λu hu=>by
    have lt:eJ u o=true:=by
     unfold cA at z1;cases e:s.getLast? with
     |none=>rw[List.getLast?_eq_none_iff.mp e]at hu;cases hu
     |some x =>
      rw[e]at z1;rcases ye hg x e u hu with rfl|h
      ·exact z1
      ·exact vG (lW h) z1
    have ap:=aai.mp z2 (tI u) (aah hu);obtain⟨a1,a2⟩:=Ze.mp ap;exact UL (hp u (ff hv u hu)) (hp o ho) lt ⟨by simpa using a1,by simpa using a2⟩
   have K1:eR ps (s++[o]):=⟨λp wA=>by
    rcases YL.mp wA with h|h
    ·exact ff hv p h
    ·rw[Ys.mp h];exact ho,aaA.mpr ⟨hg,abM _ _,λu hu v hv=>by rw[Ys.mp hv];exact key u hu⟩⟩
   obtain⟨_,l,e1,_,m,e2,_⟩:=c6.mp (K1.va ok);rw[ew]at e1;cases e1;have:fits ws o=true:=by show (wb ws o).isSome=true;rw[e2];rfl
   rw[f]at this;cases this
theorem qZ (ok:lj n ps){s:List PN}(v:Va ps [(0,n)] s):s.length<=n:=by
 have hp:∀p∈ps,p.1<p.2:=λp h=>(ok.lt p h).1;have hg:=gX hp eN v;have nd:(s.map (·.1)).Nodup:=ZD.mpr (hg.imp λh z=>by lia)
 have:=GP nd (i:=n) λx hx=>by
  obtain⟨p,hm,rfl⟩:=YK.mp hx;have:=ok.lt p (ff v p hm);lia
 rwa [Ye]at this
theorem Ia (h:vi (ps.map tI))(nd:ps.Nodup):Am ps:=by
 have h1:ps.Pairwise λx y=>HT.lexLt (tI y) (tI x)=false:=ZD.mp h;refine(List.Pairwise.and h1 nd).imp λ{a b} ⟨q1,q2⟩=>?_;cases z:eJ a b with
 |true=>rfl
 |false=>exact absurd (mM z q1) q2
end
theorem FZ (p q:PN):Zy (kD (tI p)).pd (kD (tI q)).pd=decide (p=q):=by
 rw[Dc];exact decide_eq_decide.mpr ⟨kg,λh=>by rw[h]⟩
theorem yo (a b:List PN):Zy (dN a).pd (dN b).pd=decide (a=b):=by
 show Zy (.list (D.hZ (a.map λp=>kD (tI p)))) (.list (D.hZ (b.map λp=>kD (tI p))))=_;rw[fT,fT];simp only[Zy];exact i3 FZ a b
theorem g6 (a:List PN):(dN a).pd.canLay0=true/\(dN a).pd.depth<=3:=pV λd hd=>by
 obtain⟨i,_,rfl⟩:=YK.mp hd;exact js _
theorem Ga (a b:List PN):OC (dN a) (dN b)=some (.bl (decide (a=b))):=Ds (cL (g6 a)) (cL (g6 b)) (yo a b)
theorem yx (a b:List PN):Lh (dN a) (dN b)=some (.bl (!decide (a=b))):=wQ (cL (g6 a)) (cL (g6 b)) (yo a b)
section
variable {ps:List PN}{n:Nat}
theorem rl (hp:∀p∈ps,p.1<p.2)(nd:ps.Nodup):∀{s ws l:List PN} {lo:Nat},eQ n lo ws->Va ps ws s->wa ws s=some l->du ps ws s+aL ps l<=aL ps ws
 |[],ws,l,lo,h,_,e=>by
  cases e;show 0+_<=_;lia
 |t::ts,ws,l,lo,h,⟨ht,m,e,v⟩,e'=>by
  change (wb ws t).bind _=_ at e'
  rw[e]at e';have h1:=rl hp nd (fv (hp t ht) h e) v e';have h2:=A6 hp nd h ht e;rw[cK e];lia
theorem ED (ok:lj n ps)(hs:Am ps){s l:List PN}(hv:Va ps [(0,n)] s)(ew:wa [(0,n)] s=some l){m:Nat}(hm:m<sa ps n 0):(sat ps n m).take s.length=s↔du ps [(0,n)] s<=m/\m<du ps [(0,n)] s+aL ps l:=by
 have hp:∀p∈ps,p.1<p.2:=λp h=>(ok.lt p h).1;have hl:=pO hp eN hv ew;obtain⟨v,e⟩:=gH hp hs hm;constructor
 ·intro h;obtain⟨t,et⟩:∃t,sat ps n m=s++t:=⟨(sat ps n m).drop s.length,by conv=>lhs;rw[<- Zm s.length (sat ps n m),h]⟩
  rw[et]at v e;obtain⟨_,l',e1,v'⟩:=c6.mp v;rw[ew]at e1;cases e1;rw[fK ew]at e;have:=mR hp ok.nd hl v';lia
 ·rintro⟨h1,h2⟩;obtain⟨t,v',e'⟩:=Ep hp hs hl (k:=m-du ps [(0,n)] s) (by lia)
  have:sat ps n m=s++t:=xo hp ok.nd eN v (c6.mpr ⟨hv,l,ew,v'⟩) (by rw[e,fK ew,e'];lia)
  rw[this,List.take_left]
theorem E6 (ok:lj n ps)(hs:Am ps){k:Nat}(hk:k<sa ps n 0):E7 ps n (sat ps n k)=if k+1<sa ps n 0 then some (sat ps n ((k+1:Nat):Int)) else none:=by
 have hp:∀p∈ps,p.1<p.2:=λp h=>(ok.lt p h).1;obtain⟨v,e⟩:=gH hp hs hk;rcases B0 hp ok.nd hs v with⟨h1,h2⟩|⟨l,h1,h2,h3⟩
 ·rw[e]at h2;rw[h1,if_neg (by lia)]
 ·rw[e]at h3;have h4:=mR hp ok.nd eN h2;rw[h3,d6]at h4;obtain⟨v2,e2⟩:=gH hp hs h4;rw[h1,if_pos h4,xo hp ok.nd eN h2 v2 (by rw[h3,e2])]
theorem eR.gd (ok:lj n ps){s:List PN}(h:eR ps s):Good (ps.map tI) (s.map tI):=by
 have hp:∀p∈ps,p.1<p.2:=λp h=>(ok.lt p h).1;refine⟨λt ht=>?_,ZD.mpr (h.2.imp λ{a b} z=>lW z.1),ZD.mpr (List.Pairwise.imp_of_mem (λ{a b} ha hb z=>?_) h.2)⟩
 ·obtain⟨p,hp,rfl⟩:=YK.mp ht;exact aah (h.1 p hp)
 ·have:=vd (hp a (h.1 a ha)) (hp b (h.1 b hb)) z;obtain⟨a1,a2⟩:=Ze.mp this;exact⟨by simpa using a1,by simpa using a2⟩
end
structure Tb (T:Nat->Nat->Int)(kvs:List (List Int×D))(n i J:Nat):Prop where
 ge:∀a b,a<=b->b<=n->(i<a\/(a=i/\b<J))->gD kvs (tI (a,b))=some (.int (T a b))
 no:∀a b,¬ (i<a\/(a=i/\b<J))->gD kvs (tI (a,b))=none
 len:kvs.length<=(n+1-i)*100+(J-i)
theorem AV {T:Nat->Nat->Int}{kvs:List (List Int×D)}{n i J:Nat}(k:Tb T kvs n i J)(hJ:i<=J):gD kvs (tI (i,J))=none/\Tb T (kvs++[(tI (i,J),.int (T i J))]) n i (J+1):=by
 have hn:gD kvs (tI (i,J))=none:=k.no i J (by lia)
 refine⟨hn,λa b AA hb d=>?_,λa b d=>?_,by have:=k.len;rw[YR];show _+1<=_;lia⟩
 ·rw[pQ hn]
  by_cases e:tI (a,b)=tI (i,J)
  ·have e2:=kg e;injection e2 with e3 e4
   rw[if_pos e,e3,e4]
  ·rw[if_neg e];have:¬ (a=i/\b=J):=λz=>e (by rw[z.1,z.2])
   exact k.ge a b AA hb (by lia)
 ·rw[pQ hn,if_neg (λe=>?_)]
  ·exact k.no a b (by lia)
  ·have e2:=kg e;injection e2 with e3 e4
   lia
theorem Ek {T:Nat->Nat->Int}{kvs:List (List Int×D)}{n i:Nat}(hn:n<=90)(hi:i<=n)(k:Tb T kvs n (i+1) (n+1)):Tb T kvs n i i :=
 ⟨λa b AA hb d=>k.ge a b AA hb (by lia),λa b d=>k.no a b (by lia),by have:=k.len;lia⟩
theorem HV {T:Nat->Nat->Int}{n:Nat}:Tb T [] n (n+1) (n+1):=⟨λa b AA hb d=>by lia,λ_ _ _=>rfl,Yz _⟩
def sK (ps:List PN)(a b:Nat):Int:=((sa ps (b-a) a:Nat):Int)
theorem Il {ps:List PN}(hp:∀p∈ps,p.1<p.2)(l i:Nat):sa ps (l+1) i=eh ps i (i+l+1) none+(((iA ps i).filter λk=>decide (k<i+l+1)).map λk=>eh ps i (i+l+1) (some k)).sum:=by
 have e:sa ps (l+1) i=((fq ps i (i+l+1)).map (eh ps i (i+l+1))).sum:=l4 hp;rw[e];unfold fq;rw[YN,List.sum_append,YA,abk,aaP,List.sum_nil,Y8,Nat.add_comm];rfl
def m7 (ps:List PN)(i j q:Nat):Nat:=eh ps i j none+((((iA ps i).take q).filter λk=>decide (k<j)).map λk=>eh ps i j (some k)).sum
theorem Bt {ps:List PN}{i j q k:Nat}(hk:(iA ps i)[q]?=some k)(h:k<j):((m7 ps i j q:Nat):Int)+sK ps (i+1) k*sK ps (k+1) j=((m7 ps i j (q+1):Nat):Int):=by
 unfold m7 sK;rw[Zf,hk,Z9,show (some k).toList=[k] from rfl,List.filter_cons_of_pos (p:=λk=>decide (k<j)) (decide_eq_true h),YN,List.sum_append,<- Int.natCast_mul]
 show _=((_+(_+(eh ps i j (some k)+0)):Nat):Int);rw[iP];lia
theorem Bu {ps:List PN}{i j q k:Nat}(hk:(iA ps i)[q]?=some k)(h:¬ k<j):m7 ps i j (q+1)=m7 ps i j q:=by
 unfold m7;rw[Zf,hk,Z9,show (some k).toList=[k] from rfl,List.filter_cons_of_neg (p:=λk=>decide (k<j)) (λz=>h (of_decide_eq_true z)),List.filter_nil,ZW]
theorem zg {ps:List PN}{i j:Nat}:((m7 ps i j 0:Nat):Int)=sK ps (i+1) j:=by
 unfold m7 sK;rw[iQ];rfl
theorem Bv {ps:List PN}(hp:∀p∈ps,p.1<p.2){i j:Nat}(h:i<j):((m7 ps i j (iA ps i).length:Nat):Int)=sK ps i j:=by
 unfold m7 sK;rw[ZL];obtain⟨l,rfl⟩:∃l,j=i+l+1:=⟨j-i-1,by lia⟩
 rw[show i+l+1-i=l+1 by lia,Il hp l i]
def HA (n:Nat):Nat->List PN->Prop
 |b,[]=>b=n+1
 |b,v::ws=>v.1=b/\HA n (v.2+1) ws
section
variable {ps:List PN}{n:Nat}
theorem wW {p:PN}:∀{ws l:List PN} {b:Nat},HA n b ws->wb ws p=some l->HA n (p.1+1) l
 |[],_,_,_,e=>nomatch e
 |v::ws,l,b,h,e=>by
  rw[dJ]at e
  by_cases c:v.1<=p.1/\p.2<v.2
  ·rw[if_pos c]at e;cases e;exact⟨rfl,rfl,h.2⟩
  ·rw[if_neg c]at e;exact wW h.2 e
theorem OE:HA n 0 [(0,n)]:=⟨rfl,rfl⟩
theorem sF (hp:∀p∈ps,p.1<p.2){p:PN}(G2:p.1<p.2):∀{ws l:List PN} {lo:Nat},eQ n lo ws->wb ws p=some l->∀e,e∈l.map (·.2)↔(e=p.2\/(e∈ws.map (·.2)/\p.1+1<=e))
 |[],_,_,_,e,_=>nomatch e
 |v::ws,l,lo,h,e,x=>by
  rw[dJ]at e;have hw:∀u∈ws,v.2+1<=u.2:=λu hu=>by have:=h.2.2.2.mem u hu;lia
  by_cases c:v.1<=p.1/\p.2<v.2
  ·rw[if_pos c]at e;cases e;simp only[YA,Yi];constructor
   ·rintro (z|z|z)
    ·exact .inl z
    ·exact .inr ⟨.inl z,by lia⟩
    ·obtain⟨u,hu,rfl⟩:=YK.mp z;have:=hw u hu;exact .inr ⟨.inr z,by lia⟩
   ·rintro (z|⟨z|z,_⟩)
    ·exact .inl z
    ·exact .inr (.inl z)
    ·exact .inr (.inr z)
  ·rw[if_neg c]at e;rw[sF hp G2 h.2.2.2 e x];obtain⟨u,hu,k⟩:=mB e;have XH:=h.2.2.2.mem u hu;simp only[YA,Yi];constructor
   ·rintro (z|⟨z,y⟩)
    ·exact .inl z
    ·exact .inr ⟨.inr z,y⟩
   ·rintro (z|⟨z|z,y⟩)
    ·exact .inl z
    ·lia
    ·exact .inr ⟨z,y⟩
theorem yp (hp:∀p∈ps,p.1<p.2):∀{s ws l:List PN} {lo:Nat} {z:PN},eQ n lo ws->Va ps ws s->wa ws s=some l->s.getLast?=some z->∀e,e∈l.map (·.2)↔((∃t∈s,t.2=e/\z.1+1<=e)\/(e∈ws.map (·.2)/\z.1+1<=e))
 |[],_,_,_,_,_,_,_,h,_=>nomatch h
 |[p],ws,l,lo,z,h,⟨wA,m,e1,_⟩,e,hz,x=>by
  obtain rfl:p=z:=by simpa using hz
  change (wb ws p).bind _=_ at e
  rw[e1]at e;cases e;rw[sF hp (hp p wA) h e1 x];have:=hp p wA;constructor
  ·rintro (y|y)
   ·exact .inl ⟨p,Ys.mpr rfl,y.symm,by lia⟩
   ·exact .inr y
  ·rintro (⟨t,ht,y,_⟩|y)
   ·rw[Ys.mp ht]at y;exact .inl y.symm
   ·exact .inr y
 |p::q::s,ws,l,lo,z,h,⟨wA,m,e1,v⟩,e,hz,x=>by
  change (wb ws p).bind _=_ at e
  rw[e1]at e;rw[abN]at hz;have hm:=fv (hp p wA) h e1;rw[yp hp hm v e hz x,sF hp (hp p wA) h e1 x];have hg:p.1<z.1:=(AM hp (sA (hp p wA) h e1) v z (aaB hz)).1;constructor
  ·rintro (⟨t,ht,y⟩|⟨y|⟨y,_⟩,y2⟩)
   ·exact .inl ⟨t,Yn _ ht,y⟩
   ·exact .inl ⟨p,Yo,y.symm,y2⟩
   ·exact .inr ⟨y,y2⟩
  ·rintro (⟨t,ht,y⟩|⟨y,y2⟩)
   ·rcases Yi.mp ht with rfl|ht
    ·exact .inr ⟨.inl y.1.symm,y.2⟩
    ·exact .inl ⟨t,ht,y⟩
   ·exact .inr ⟨.inr ⟨y,by lia⟩,y2⟩
theorem wX (hp:∀p∈ps,p.1<p.2):∀{s ws l:List PN} {b:Nat} {z:PN},HA n b ws->Va ps ws s->wa ws s=some l->s.getLast?=some z->HA n (z.1+1) l
 |[],_,_,_,_,_,_,_,h=>nomatch h
 |[p],ws,l,b,z,h,⟨wA,m,e1,_⟩,e,hz=>by
  obtain rfl:p=z:=by simpa using hz
  change (wb ws p).bind _=_ at e
  rw[e1]at e;cases e;exact wW h e1
 |p::q::s,ws,l,b,z,h,⟨wA,m,e1,v⟩,e,hz=>by
  change (wb ws p).bind _=_ at e
  rw[e1]at e;rw[abN]at hz;exact wX hp (wW h e1) v e hz
theorem xa:∀{ws:List PN} {lo:Nat},eQ n lo ws->(ws.map (·.2)).Pairwise (· < ·)
 |[],_,_=>abA
 |v::ws,lo,h=>by
  rw[YA,Za];refine⟨λx hx=>?_,xa h.2.2.2⟩;obtain⟨u,hu,rfl⟩:=YK.mp hx;have:=h.2.2.2.mem u hu;lia
theorem u6:∀{ws:List PN} {b:Nat},HA n b ws->ws≠[]->∃xs,ws.map (·.2)=xs++[n]
 |[],_,_,h=>absurd rfl h
 |[v],b,h,_=>⟨[],by
  have:=h.2
  change v.2+1=n+1 at this
  show [v.2]=[n];rw[show v.2=n by lia]⟩
 |v::u::ws,b,h,_=>by
  obtain⟨xs,e⟩:=u6 h.2 (by simp)
  exact⟨v.2::xs,by rw[YA,e];rfl⟩
theorem Al (ok:lj n ps){s l:List PN}{z:PN}(hv:Va ps [(0,n)] s)(ew:wa [(0,n)] s=some l)(hz:s.getLast?=some z){ms:List Nat}(h1:ms.Pairwise (·<=·))(h2:ms.Perm ((s.filter λt=>decide (z.1+1<=t.2)).map (·.2))):
  ms++[n]=l.map (·.2):=by
 have hp:∀p∈ps,p.1<p.2:=λp h=>(ok.lt p h).1;have hl:=pO hp eN hv ew;have hc:=wX hp OE hv ew hz;have VW:=ok.lt z (ff hv z (aaB hz));have zS:l≠[]:=λe=>by
  rw[e]at hc
  change z.1+1=n+1 at hc
  lia
 obtain⟨xs,ex⟩:=u6 hc zS;have Od:=xa hl;rw[ex]at Od;obtain⟨a1,_,a3⟩:=aaA.mp Od;have FH:=yp hp eN hv ew hz;rw[ex]at FH;have hg:=gX hp eN hv;have nd:((s.filter λt=>decide (z.1+1<=t.2)).map (·.2)).Nodup:=by
  refine ZD.mpr ((List.Pairwise.filter _ hg).imp_of_mem λ{a b} ha hb y e=>?_);have Ss:=hp b (ff hv b (Y9.mp hb).1);have ap:b.2<a.2\/a.2<b.1:=y.2;lia
 rw[ex]
 congr 1
 refine List.Perm.eq_of_pairwise (le:=(·<=·)) (λx y _ _ p q=>Nat.le_antisymm p q) h1 (a1.imp Nat.le_of_lt) (h2.trans ?_);refine(List.perm_ext_iff_of_nodup nd (a1.imp YZ)).mpr λe=>?_;have RX:e∈xs->e≠n:=λh q=>by have:=a3 e h n (Ys.mpr rfl);lia
 have:=FH e;simp only[YL,Ys,YA,abk]at this;constructor
 ·intro h;obtain⟨t,ht,rfl⟩:=YK.mp h;obtain⟨t1,t2⟩:=Y9.mp ht;have hn:=ok.lt t (ff hv t t1);rcases this.mpr (.inl ⟨t,t1,rfl,of_decide_eq_true t2⟩)with h|h
  ·exact h
  ·lia
 ·intro h;rcases this.mp (.inl h)with⟨t,ht,e1,e2⟩|⟨e1,_⟩
  ·exact YK.mpr ⟨t,Y9.mpr ⟨ht,decide_eq_true (by lia)⟩,e1⟩
  ·exact absurd e1 (RX h)
end
end L2.Q
namespace L2
open PySem PySem.Spec PySem.SeqAt PyProof.Rows
def oN (i j:Int):Prop:=i.natAbs<2 ^ 200/\j.natAbs<2 ^ 200
instance (i j:Int):Decidable (oN i j):=inferInstanceAs (Decidable (_/\_))
theorem oN.ok {i j:Int}(h:oN i j):IntMulOk i j:=IntMulOk.of_le (PySem.intBits_le_iff.mpr h.1) (PySem.intBits_le_iff.mpr h.2) (by decide)
def Hi:D->D->Option D:=nV λi j=>if oN i j then some (.int (i*j)) else none
section
variable {X:Cx}
theorem ER:gU X (Z5 .Mult) (rI oN λi j=>.int (i*j)):=L9 λ_ _ _ _ _ _ _ hc q=>mul_int q hc.ok
theorem jF:bg X (Z5 .Mult) Hi:=xM (h:=λi j=>.int (i*j)) ER (λ_ _ _ e=>c_ e) λ_ _ _ _=>rfl
end
theorem mw {a b:Int}(h:oN a b):Hi (.int a) (.int b)=some (.int (a*b)):=by
 show (if oN a b then _ else _)=_
 rw[if_pos h]
end L2
namespace SI
open PySem PyProof.Rows ST
section
variable {prog:Yk}{w:YB}{A:Zc}{E:Yc->Yg->Prop}{s:Yg}
variable {a b it:Addr}{o:Obj}{ts:List (Int×Tok)}{es:Array (Int×Yc)}{ep:Nat}{t:SetTable}
abbrev sD (x:Int×Tok):Int×Yc:=(Zs x.1,.int x.1 x.2)
structure ft (w:YB)(o:Obj)(ts:List (Int×Tok))(es:Array (Int×Yc))(ep:Nat)(t:SetTable):Prop where
 ex:o.ExactSet
 dat:o.data=.set es ep t
 F0:es.toList=ts.map sD
 wf:WF t (ts.map λx=>Zs x.1)
 Pb:t.place.size*5<t.mask*3
 Jl:t.mask<=8191
 led:t.led=!w.params.followText "set-order"
 IE:t.plain=true
 Pk:(ts.map (·.1)).Nodup
theorem ft.fits (S:ft w o ts es ep t):t.fits es.size=true:=by
 have h1:=S.wf.sz;have h2:es.size=ts.length:=by rw[<- Yp,S.F0,Ye]
 rw[Ye]at h1;unfold SetTable.fits SetTable.fill;rw[S.wf.Lc,h2,h1];have:=S.Pb;simp;lia
theorem ft.size (S:ft w o ts es ep t):es.size=ts.length/\t.place.size=ts.length:=by
 have h1:=S.wf.sz;rw[Ye]at h1;exact⟨by rw[<- Yp,S.F0,Ye],h1⟩
theorem zB (S:ft w o ts es ep t){Q:Bool->Yg->Prop}(ho:s.heap.get? a=some o)(q:Q false s):YM (model prog w) A (setDrawn a) Q E s:=by
 unfold setDrawn;refine Yd (abv ho S.dat S.fits ?_);dsimp only;refine Yd (j6 (Ym ?_));have:(!Dw w&&(!t.plain&&decide (es.size>1)))=false:=by rw[S.IE];simp
 show Q (!Dw w&&(!t.plain&&decide (es.size>1))) s;rw[this];exact q
theorem mz (ho:s.heap.get? a=some o)(S:ft w o ts es ep t){sl i:Nat}{Q:Option (Yc×Nat)->Yg->Prop}(G1:Dw w=false->SetTable.below t.place sl=i)
  (q1:∀e,(bQ w a ep es)[i]?=some e->∀Ih:Nat,(Dw w=false->SetTable.below t.place Ih=i+1)->Q (some (e.2,Ih)) s) (q2:(bQ w a ep es)[i]?=none->Q none s) :
  YM (model prog w) A (setNext a sl i ep) Q E s:=by
 unfold setNext;refine Yd (abv ho S.dat S.fits ?_);dsimp only;refine Yd (j6 ?_);cases hb:Dw w with
 |true =>
  rw[if_pos rfl,if_neg (by simp)]
  unfold setWalk;refine Yd (Yd (abv ho S.dat S.fits ?_));dsimp only;refine Yd (j6 ?_);rw[hb,if_pos rfl];refine Yd (abK (Ym (Ym ?_)));have e:bQ w a ep es=pickOrder (w.params.setOrder a ep) es:=by unfold bQ;rw[hb,if_pos rfl]
  rw[e]at q1 q2;show Q (((pickOrder (w.params.setOrder a ep) es)[i]?).map λe=>(e.2,sl)) s;cases hx:(pickOrder (w.params.setOrder a ep) es)[i]? with
  |none=>exact q2 hx
  |some x=>exact q1 x hx sl (λz=>by rw[hb]at z;cases z)
 |false =>
  rw[if_neg (by simp)]
  have e:bQ w a ep es=es:=by unfold bQ;rw[hb,if_neg (by simp)]
  rw[e]at q1 q2;have hd:(!t.plain&&decide (es.size>1))=false:=by rw[S.IE];rfl
  show YM _ _ (if (!t.plain&&decide (es.size>1))=true then _ else _) _ _ _
  rw[hd,if_neg (by simp)]
  have hl:t.led=true:=by
   rw[S.led];show (!Dw w)=true;rw[hb];rfl
  refine Yd ?_;show YM _ _ (if (!t.led&&!es.isEmpty)=true then _ else _) _ _ _
  rw[hl,if_neg (by simp)]
  refine Ym (Ym ?_);rw[G1 hb];have hz:=S.size
  by_cases hi:i<t.place.size
  ·have h1:es[i]?=some es[i]:=getElem?_pos es i (by omega)
   rw[h1,wD hi];refine q1 _ h1 _ λ_=>?_;obtain⟨b1,b2,b3⟩:=gg S.wf.Bf (g t.place i+1);rcases Nat.lt_trichotomy (SetTable.below t.place (g t.place i+1)) (i+1)with z|z|z
   ·have:=b3 i (by omega) hi
    omega
   ·exact z
   ·have:=b2 (i+1) z;have:=S.wf.Bf i (i+1) (by omega) (by omega)
    omega
  ·have h1:es[i]?=none:=Zu (by omega)
   rw[h1];exact q2 h1
def Ll (w:YB)(it a:Addr)(ts:List (Int×Tok))(es:Array (Int×Yc))(ep:Nat)(i:Nat)(h:Heap):Prop :=
 ∃sl o t,h.get? it=some (rA sl i a es.size ep)/\h.get? a=some o/\ft w o ts es ep t/\(Dw w=false->SetTable.below t.place sl=i)
theorem A8 (zS:a≠it){i:Nat}{e:Int×Yc}{Q:Option Yc->Yg->Prop}(st:Ll w it a ts es ep i s.heap)(he:(bQ w a ep es)[i]?=some e)
  (q:∀h',Ll w it a ts es ep (i+1) h'->aaf it s.heap h'->Q (some e.2) {s with heap:=h'}):YM (model prog w) A (abm (.ref it)) Q E s:=by
 obtain⟨sl,o,t,hi,ho,S,hb⟩:=st;have hT:=mS hi;unfold abm;refine Yd (abC (aaY (name:=Str.ofString "__next__") hT bO (ZX bO hT gS ?_ (iJ _))));unfold Z_.«set_iterator.__next__»
 refine Yd (Ym ?_);refine Yd (wpAny_fieldsOf hi rfl ?_);dsimp only;refine Yd (wpAny_setEntries_of ho S.dat S.fits ?_);rw[if_neg (by simp)]
 refine Yd (mz (i:=i) ho S (λz=>by simpa using hb z) (λe' Kg Ih MV=>?_) λhn=>?_)
 ·rw[he]at Kg;obtain rfl:=YU Kg;dsimp only;refine Yd (wpAny_setField_rec hi (by simp) λh1 g1 LM=>?_)
  refine Yd (wpAny_setField_rec (s:={s with heap:=h1}) g1 (by simp) λh2 g2 Tz=>?_)
  refine Ym ⟨_,rfl,Ym (q h2 ⟨Ih,o,t,?_,?_,S,MV⟩ (LM.trans Tz))⟩
  ·rw[g2];rfl
  ·rw[(LM.trans Tz).2 a zS];exact ho
 ·rw[he]at hn;cases hn
theorem Er (hh:A.handled=none)(zS:a≠it){i:Nat}{Q:Option Yc->Yg->Prop}(st:Ll w it a ts es ep i s.heap)(he:(bQ w a ep es)[i]?=none)
  (q:∀h',Heap.ExtBut it s.heap h'->Q none {s with heap:=h'}):YM (model prog w) A (abm (.ref it)) Q E s:=by
 obtain⟨sl,o,t,hi,ho,S,hb⟩:=st;have hT:=mS hi;unfold abm;refine Yd (abC (aaY (name:=Str.ofString "__next__") hT bO (ZX bO hT gS ?_ (iJ _))));unfold Z_.«set_iterator.__next__»
 refine Yd (Ym ?_);refine Yd (wpAny_fieldsOf hi rfl ?_);dsimp only;refine Yd (wpAny_setEntries_of ho S.dat S.fits ?_);rw[if_neg (by simp)]
 refine Yd (mz (i:=i) ho S (λz=>by simpa using hb z) (λe' Kg Ih MV=>?_) λhn=>?_)
 ·rw[he]at Kg;cases Kg
 ·dsimp only;refine Yd (wpAny_setField hi rfl (by simp) ?_)
  refine Yd ?_;simp only[newExc,newTuple];refine Yd (aac ?_ (by size_fits))
  refine Yd (m:=firstArgMember _ _) (wpAny_of_eq (a:=Value.none) (by first|rfl|(simp only[firstArgMember];rfl)) ?_)
  refine aac ?_ (by size_fits)
  simp only[raiseNew];refine Yd (wpAny_handled ?_);rw[show A.in1.handled=none from hh]
  refine Yd (Ym (wpAny_throw ?_));refine Yd (wpAny_isInstance (T:="StopIteration") (b:=true) ⟨_,Y0 _ rfl,rfl⟩ isSubtype_stop ?_);exact Ym (q _ (((aaK ..).extBut.push _).push _))
theorem A7 {i:Nat}{Q:Yc->Yg->Prop}(st:Ll w it a ts es ep i s.heap)(q:Q (.ref it) s):YM (model prog w) A (pyIter (.ref it)) Q E s:=by
 obtain⟨sl,o,t,hi,ho,S,hb⟩:=st;have hT:=mS hi;refine wpAny_pyIter_slot hT iw (ZX iw hT oA ?_ (pK _));show YM _ _ (ret (.ref it)) _ _ s;exact Ym ⟨_,rfl,"set_iterator",_,hT,bO.lookup,q⟩
theorem yZ (hh:A.handled=none)(zS:a≠it):Walks prog w A it [it,a] [it] es.size (λi v=>∃e,(bQ w a ep es)[i]?=some e/\v=e.2) (Ll w it a ts es ep) where
 sub:=λb hb=>by rw[Ys.mp hb];exact Yo
 frame:=λi h h' ⟨sl,o,t,h1,h2,h3⟩ hk=>⟨sl,o,t,hk it Yo _ h1,hk a (Yn _ Yo) _ h2,h3⟩
 item:=λi s Q E hi st hQ=>by
  have hz:(bQ w a ep es).size=es.size:=by
   have:=(gW w a ep es).length_eq;rw[Yp,Yp]at this;exact this
  have he:(bQ w a ep es)[i]?=some (bQ w a ep es)[i]:=getElem?_pos _ i (by lia)
  exact A8 zS st he λh' aC sb=>hQ _ h' s.toks ⟨_,he,rfl⟩ aC λb o hb e=>sb.extBut b o (λz=>hb (by rw[z];exact Ys.mpr rfl)) e
 done:=λs Q E st hQ=>by
  have hz:(bQ w a ep es).size=es.size:=by
   have:=(gW w a ep es).length_eq;rw[Yp,Yp]at this;exact this
  exact Er hh zS st (Zu (by lia)) λh' eb=>hQ h' s.toks λb o hb e=>eb b o (λz=>hb (by rw[z];exact Ys.mpr rfl)) e
 self:=λi s Q E st hQ=>A7 st hQ
theorem mT (ho:s.heap.get? a=some o) (S:ft w o ts es ep t):s.TypeIs (.ref a) "set" := ⟨o,ho,S.ex.1⟩
theorem DY (ho:s.heap.get? a=some o)(S:ft w o ts es ep t){Q:Yc->Yg->Prop}(q:Q (.ref s.heap.objs.size) {s with heap:=s.heap.push (rA 0 0 a es.size ep)}):
  YM (model prog w) A (pyIter (.ref a)) Q E s:=by
 have hT:=mT ho S;refine wpAny_pyIter_slot hT F.slot_set_iter (ZX F.slot_set_iter hT oB ?_ (F.args_set_iter_1 _));unfold Z_.«frozenset.__iter__» Builtin.Frozenset.slot0 Builtin.Frozenset.sizeOf;refine Yd (Yd (Ym (Ym ?_)));refine Yd (Yd (wpAny_setEntries_of ho S.dat S.fits (Ym ?_)));refine Yd (zB S ho ?_);rw[if_neg (by simp)]
 refine Yd (Ym ?_);refine Yd (wpAny_setEpoch_of ho S.dat S.fits ?_);unfold newFields;refine Yd (aac (Ym ⟨_,rfl,"set_iterator",_,⟨_,Y0 _ rfl,rfl⟩,bO.lookup,?_⟩) (by size_fits))
 exact q
theorem DZ (ho:s.heap.get? a=some o)(S:ft w o ts es ep t){Q:Bool->Yg->Prop}(q:Q false s):YM (model prog w) A (Builtin.List.listLengthHint (.ref a)) Q E s:=by
 have hT:=mT ho S;unfold Builtin.List.listLengthHint;refine Yd (wpAny_specialOf hT PySem.F.slot_set_len.lookup ?_);generalize Uo:("set.__len__" : String)=VV
 wp_delta
 rw[show splitId VV=some ("set","__len__") from by subst Uo;decide +kernel]
 subst Uo;refine Yd (wpAny_isInstance (T:="set") (b:=true) hT (by rw[isSubtype_type];kernel_rfl) ?_)
 refine wpAny_ite_split (λAA=>absurd AA (by decide)) (λ_=>?_)
 refine wpAny_ite_split (λ_=>?_) (λAA=>absurd (by decide +kernel) AA)
 refine Yd (wpAny_typeOf hT ?_);exact Ym q
theorem Et (prog:Yk)(w:YB)(a:Addr)(o:Obj)(ts:List (Int×Tok))(es:Array (Int×Yc))(ep:Nat)(t:SetTable)(S:ft w o ts es ep t):
  PySem.W.KdlSrc prog w "set" a a es.size (λi v=>∃e,(bQ w a ep es)[i]?=some e/\v=e.2) (λh=>h.get? a=some o) where
 type:=λs ho=>mT ho S
 there:=λh ho=>⟨YC ho,YC ho⟩
 keep:=λh h' ho hk=>hk a (.inl rfl) _ ho
 notList:=by decide
 notTuple:=by decide
 hint:=λA E s Q ho q=>DZ ho S q
 iter:=λA s hh ho=>⟨rA 0 0 a es.size ep,Ll w s.heap.objs.size a ts es ep,λE Q q=>DY ho S q,yZ hh (YZ (YC ho)),
  0,o,t,Y0 _ rfl,Yv _ ho,S,λ_=>by
   obtain⟨b1,b2,b3⟩:=gg S.wf.Bf 0;rcases Nat.eq_zero_or_pos (SetTable.below t.place 0)with z|z
   ·exact z
   ·have:=b2 0 z;lia⟩
theorem tf {a:Addr}{o:Obj}{ts:List (Int×Tok)}{es:Array (Int×Yc)}{ep:Nat}{t:SetTable}(ho:s.heap.get? a=some o)(S:ft w o ts es ep t)(hn:ts.length<=1000):
  ∃us:List (Int×Tok),us.Perm ts/\∀(A:Zc) (E:Yc->Yg->Prop) (R:List Yc->Yg->Prop),A.handled=none->(∀(h':Heap) (tk:Nat),(∀b o,s.heap.get? b=some o->h'.get? b=some o)->R (us.map λx=>Value.int x.1 x.2) {s with heap:=h',toks:=tk}) ->
  YM (model prog w) A (collect (.ref a)) R E s:=by
 have hw:=gW w a ep es;rw[S.F0]at hw;obtain⟨us,h1,h2⟩:=tV hw;refine⟨us,h1,λA E R hh q=>?_⟩;refine PySem.W.kdu_collect (Et prog w a o ts es ep t S) hh ho (by rw[S.size.1,Zv];lia) λh' tk acc hk CU=>?_
 have e:acc.toList=us.map λx=>Value.int x.1 x.2:=by
  have hz:(bQ w a ep es).size=es.size:=by
   have:=(gW w a ep es).length_eq;rw[Yp,Yp]at this;exact this
  have e2:us.map (λx=>Value.int x.1 x.2)=(bQ w a ep es).toList.map (·.2):=by
   rw[h2,Y8];rfl
  rw[e2];apply aae;intro i;rw[Yu,YD,YD]
  by_cases hi:i<acc.size
  ·obtain⟨x,g1,g2⟩:=CU.2 i acc[i] (getElem?_pos acc i hi);rw[getElem?_pos acc i hi,g1,g2];rfl
  ·have:=CU.1;rw[Zu (by lia),Zu (by lia)]
   rfl
 rw[e];exact q h' tk hk
end
section
variable {prog:Yk}{w:YB}{A:Zc}{E:Yc->Yg->Prop}{s:Yg}
variable {a:Addr}{o:Obj}{ts:List (Int×Tok)}{es:Array (Int×Yc)}{ep:Nat}{t:SetTable}{k:Int}
theorem FO {hs:List Int}(W:WF t hs)(h:Int){N:Nat}(h1:N<10*SetTable.turns t.mask)(h2:¬ vn t (cG t.mask h N))(h3:∀x,x<N->vn t (cG t.mask h x)):t.freeSlot h=some (cG t.mask h N,false):=by
 have e:t.probe (λ_=>h+1) h (t.probeStart h)=some (.empty (cG t.mask h N) none):=by
  rcases tT W (λ_=>h+1) h h2 h3 N 0 (10*SetTable.turns t.mask) (ZC N) h1 with⟨q,_⟩|⟨m,i,_,_,_,_,q,_⟩
  ·exact q
  ·lia
 unfold SetTable.freeSlot;rw[e];rfl
theorem elems (S:ft w o ts es ep t):ElemsOf (abw prog w) es.toList:=λe he=>by
 rw[S.F0]at he;obtain⟨x,_,rfl⟩:=YK.mp he;exact⟨⟨x.1,by show aaw x.1 (.int x.1 x.2)=true;simp[aaw],rfl⟩,rfl⟩
theorem Bg {t1:SetTable}{oR:Array (Int×Yc)}{oO:List (Int×Tok)}(he:oR.toList=oO.map sD)(hw:WF t1 (oO.map λx=>Zs x.1))(XQ:0<oO.length)(hn:oO.length<=1000):
  ∃(HQ:List (Int×Tok)) (He:Array (Int×Yc)) (t2:SetTable),relayAll t1 oR (SetTable.grown oR.size)=(He,t2,false)/\HQ.Perm oO/\He.toList=HQ.map sD/\WF t2 (HQ.map λx=>Zs x.1)/\t2.place.size*5<t2.mask*3/\t2.mask<=8191/\t2.led=t1.led/\t2.plain=t1.plain:=by
 have hz:oR.size=oO.length:=by rw[<- Yp,he,Ye]
 have hg:SetTable.grown oR.size=oO.length*4:=by rw[hz];unfold SetTable.grown;rw[if_neg (by lia)]
 obtain⟨j,j3,ja,jb,jc⟩:=DE (n:=oO.length*4) (by lia)
 have hs:(oR.map (·.1)).size=oO.length:=by rw[Array.size_map,hz]
 obtain⟨t',order,e1,e2,e3,e4,e5,e6,e7,e8⟩:=Fl (hs:=oR.map (·.1)) j3 (by lia) t1.finger (t1.movedTo (2 ^ j-1)) t1.led t1.plain
 rw[hs]at e6 e8;have er:t1.relaid (oR.map (·.1)) (oO.length*4)=some (t',order):=by
  unfold SetTable.relaid;rw[ja];exact e1
 have gd:∀i,i<oO.length->oR[i]?=some (sD (oO.getD i (0,0))):=λi hi=>by
  rw[<- YD,he,Yu,Yj hi,ZT,Yj hi];rfl
 have sv:(order.filterMap (oR[·]?)).toList=(order.toList.map λi=>oO.getD i (0,0)).map sD:=by
  rw[Array.toList_filterMap,Y8];have:∀l:List Nat,(∀i∈l,i<oO.length)->l.filterMap (oR[·]?)=l.map (sD ∘ λi=>oO.getD i (0,0)):=λl=>by
   induction l with
   |nil=>intro _;rfl
   |cons i l ih =>
    intro h;rw[Zn,gd i (h i Yo),YA,ih λy hy=>h y (Yn _ hy)];rfl
  exact this _ λi hi=>Zh.mp (e6.mem_iff.mp hi)
 have G3:(order.toList.map λi=>oO.getD i (0,0)).Perm oO:=by
  refine(e6.map _).trans (List.Perm.of_eq ?_);apply aae;intro i;rw[Yu]
  by_cases hi:i<oO.length
  ·rw[Z6 hi,Yj hi];show some (oO.getD i (0,0))=_;rw[ZT,Yj hi];rfl
  ·rw[Zk (by rw[Zr];lia),Zk (by lia)]
   rfl
 have hsz:(order.filterMap (oR[·]?)).size=oR.size:=by
  rw[<- Yp,sv,Ye,G3.length_eq,hz]
 have Uw:WF t' ((order.toList.map λi=>oO.getD i (0,0)).map λx=>Zs x.1):=by
  rw[Y8];have:(order.toList.map λi=>(oR.map (·.1)).getD i 0)=order.toList.map ((λx:Int×Tok=>Zs x.1) ∘ λi=>oO.getD i (0,0)):=by
   refine Zw λi hi=>?_;have hi:=Zh.mp (e6.mem_iff.mp hi);rw[YE,Array.getElem?_map,gd i hi];rfl
  rw[<- this];exact e7
 refine⟨order.toList.map λi=>oO.getD i (0,0),order.filterMap (oR[·]?),t',?_,G3,sv,Uw,by rw[e8,e2];lia,by lia,e3,e4⟩
 unfold relayAll;rw[hg,er];dsimp only;have c1:coversAll order oR.size=true:=by
  unfold coversAll;rw[hz];exact List.isPerm_iff.mpr e6
 have c2:t'.fits (order.filterMap (oR[·]?)).size=true:=by
  unfold SetTable.fits SetTable.fill;rw[Uw.Lc,hsz,e8,hz];simp;lia
 rw[c1,c2];rfl
theorem D_ (ho:s.heap.get? a=some o)(S:ft w o ts es ep t)(hn:ts.length<60){tk:Tok}{Q:Bool->Yg->Prop}
  (q:∀(h':Heap) (o':Obj) (fw:List (Int×Tok)) (ir:Array (Int×Yc)) (qF:Nat) (t':SetTable) (added:Bool),aaf a s.heap h'->h'.get? a=some o'->ft w o' fw ir qF t' ->
   ((∃x∈ts,x.1=k)->fw=ts)->((∀x∈ts,x.1≠k)->fw.Perm ((k,tk)::ts))->Q added {s with heap:=h'}) :
  YM (model prog w) A (setAddHashed a (.int k tk) (Zs k)) Q E s:=by
 have hz:=S.size;have hb:es.size<scanBound:=by rw[hz.1];exact Y2 hn (by decide)
 have sv:ElemsOf (abw prog w) es.toList:=elems S;have R8:(abw prog w).is k (.int k tk)=true:=by show aaw k (.int k tk)=true;simp[aaw]
 unfold setAddHashed setAddHashedIn;refine Z0 (Yd (abv ho S.dat S.fits ?_));dsimp only;rw[byScan_of (x:=.int k tk) rfl hb sv];simp only[↓reduceIte];unfold setAddByScan;refine Yd ?_;refine Yd (aaV ?_);refine Yd (wpAny_setScan_of (knd:=abw prog w) R8 ho S.dat S.fits sv ?_);have CO:∀e∈es.toList,(abw prog w).is k e.2=true->∃x∈ts,x.1=k:=λe he hp=>by
  rw[S.F0]at he;obtain⟨x,hx,rfl⟩:=YK.mp he;obtain⟨t',e'⟩:=Value.isInt_shape (show aaw k (.int x.1 x.2)=true from hp)
  injection e' with e1
  exact⟨x,hx,e1⟩
 cases hr:List.findIdx? (λe=>(abw prog w).is k e.2) es.toList with
 |some j =>
  dsimp only;obtain⟨hj,V9,_⟩:=List.findIdx?_eq_some_iff_getElem.mp hr;have CP:=CO _ (ZZ hj) V9;exact Ym (Ym (q s.heap o ts es ep t false (Heap.SameBut.refl _ _) ho S (λ_=>rfl) λg=>absurd CP λNa=> by obtain⟨x,hx,e⟩ := Na;exact g x hx e))
 |none =>
  dsimp only;have g1:∀x∈ts,x.1≠k:=λx hx e=>by
   have:=List.findIdx?_eq_none_iff.mp hr (sD x) (by rw[S.F0];exact aah hx)
   have h2:(abw prog w).is k (sD x).2=true:=by show aaw k (.int x.1 x.2)=true;rw[e];simp[aaw]
   rw[h2]at this;cases this
  obtain⟨N,n1,n2,n3⟩:=S.wf.first (Zs k)
  have yc:=FO S.wf (Zs k) n1 n2 n3;have JM:t.place.size+1<=t.mask:=by
   have:=S.Pb;obtain⟨j,hj,e⟩:=S.wf.Jl;have:2 ^ 3<=2 ^ j:=abf (by decide) hj
   lia
  obtain⟨W,hp⟩:=S.wf.put (lV _ _ _) n2 n3 JM;have pe:(t.put (cG t.mask (Zs k) N)).1.plain=t.plain/\(t.put (cG t.mask (Zs k) N)).1.led=t.led/\(t.put (cG t.mask (Zs k) N)).1.mask=t.mask:=⟨rfl,rfl,rfl⟩;have pf:(t.put (cG t.mask (Zs k) N)).1.dummies=#[]:=W.Lc;have hL:layNew t es (Zs k) (.int k tk)=(SetTable.insertAt es (t.put (cG t.mask (Zs k) N)).2 (Zs k,.int k tk),(t.put (cG t.mask (Zs k) N)).1.orStandIn (SetTable.insertAt es (t.put (cG t.mask (Zs k) N)).2 (Zs k,.int k tk)).size,false,!(t.put (cG t.mask (Zs k) N)).1.fits (SetTable.insertAt es (t.put (cG t.mask (Zs k) N)).2 (Zs k,.int k tk)).size):=by
   unfold layNew;rw[yc]
  rw[hL];generalize (t.put (cG t.mask (Zs k) N)).1=t1 at *
  generalize (t.put (cG t.mask (Zs k) N)).2=p at *
  obtain⟨QP,TL,TJ⟩:=pe;have Ko:(SetTable.insertAt es p (Zs k,Value.int k tk)).toList=(ts.take p++(k,tk)::ts.drop p).map sD:=by
   rw[nX,S.F0,YN,YA,abd,List.map_drop]
  have W1:WF t1 ((ts.take p++(k,tk)::ts.drop p).map λx=>Zs x.1):=by
   rw[YN,YA,abd,List.map_drop];exact W
  have pm:(ts.take p++(k,tk)::ts.drop p).Perm ((k,tk)::ts):=BH ts p (k,tk);have kO:(ts.take p++(k,tk)::ts.drop p).length=ts.length+1:=pm.length_eq;have Fd:((ts.take p++(k,tk)::ts.drop p).map (·.1)).Nodup:=by
   refine((pm.map (·.1)).nodup_iff).mpr ?_;rw[YA,YV];exact⟨λhm=>by
    obtain⟨x,hx,e⟩:=YK.mp hm;exact g1 x hx e,S.Pk⟩
  have sQ:(SetTable.insertAt es p (Zs k,Value.int k tk)).size=ts.length+1:=by rw[<- Yp,Ko,Ye,kO]
  have Vt:t1.place.size=ts.length+1:=by have:=W1.sz;rw[Ye,kO]at this;exact this
  have G7:t1.fits (SetTable.insertAt es p (Zs k,Value.int k tk)).size=true:=by
   unfold SetTable.fits SetTable.fill;rw[pf,sQ,Vt,TJ];simp;lia
  have JG:t1.orStandIn (SetTable.insertAt es p (Zs k,Value.int k tk)).size=t1:=by
   unfold SetTable.orStandIn;rw[G7];rfl
  rw[JG,G7];dsimp only;refine Yd (Ym ?_);rw[QP,S.IE,if_pos rfl];refine Yd ?_;rw[hashByValue_scannable 8 rfl];refine Ym ?_;rw[if_pos (by rfl)]
  refine Yd (wpAny_storeSet_of ho S.dat ?_ (by rw[sQ,Zv];lia))
  have J7:=yf ho S.dat (SetTable.insertAt es p (Zs k,Value.int k tk)) t1;have LM:aaf a s.heap (s.heap.update a (Obj.putSet (SetTable.insertAt es p (Zs k,Value.int k tk)) t1)):=aaK _ _ _;have fin:∀(h':Heap) (o':Obj) (fw:List (Int×Tok)) (ir:Array (Int×Yc)) (qF:Nat) (t':SetTable),aaf a s.heap h'->h'.get? a=some o'->ft w o' fw ir qF t'->fw.Perm (ts.take p++(k,tk)::ts.drop p)->Q true {s with heap:=h'} :=
   λh' o' fw ir qF t' q1 q2 q3 q4=>q h' o' fw ir qF t' true q1 q2 q3 (λM_=> by obtain⟨x,hx,e⟩ := M_;exact absurd e (g1 x hx)) λ_=>q4.trans pm
  by_cases uB:t1.tooFull=true
  ·rw[uB,if_pos (by rfl)]
   obtain⟨HQ,He,t2,r1,r2,r3,r4,r5,r6,r7,r8⟩:=Bg Ko W1 (by lia) (by lia)
   rw[r1];dsimp only;have gY:He.size=ts.length+1:=by rw[<- Yp,r3,Ye,r2.length_eq,kO]
   refine Yd (Ym ?_);refine Yd (wpAny_storeSet_of (s:={s with heap:=s.heap.update a (Obj.putSet (SetTable.insertAt es p (Zs k,Value.int k tk)) t1)}) J7 rfl (Ym (Ym ?_)) (by rw[gY,Zv];lia))
   have zR:=yf J7 rfl He t2;exact fin _ _ HQ He _ t2 (LM.trans (aaK _ _ _)) zR ⟨S.ex,rfl,r3,r4,r5,r6,r7.trans (TL.trans S.led),r8.trans (QP.trans S.IE),((r2.map (·.1)).nodup_iff).mpr Fd⟩ r2
  ·rw[if_neg (by simpa using uB)]
   refine Ym (Ym (fin _ _ _ _ _ _ LM J7 ⟨S.ex,rfl,Ko,W1,?_,by rw[TJ];exact S.Jl,TL.trans S.led,QP.trans S.IE,Fd⟩ (.refl _)))
   unfold SetTable.tooFull SetTable.fill at uB;rw[pf]at uB;simp at uB;lia
end
section
variable {prog:Yk}{w:YB}{A:Zc}{E:Yc->Yg->Prop}{s:Yg}
theorem Fc (w:YB):ft w (nC w) [] #[] 0 (.fresh 0 0 (!Dw w)) where
 ex:=⟨rfl,rfl,rfl⟩
 dat:=rfl
 F0:=rfl
 wf:=⟨rfl,rfl,λi j _ hj=>absurd hj (Nat.not_lt_zero _),λi hi=>absurd hi (Nat.not_lt_zero _),⟨3,Yh _,rfl⟩,Yz _,λi h hi=>by simp at hi⟩
 Pb:=by show 0*5<7*3;decide
 Jl:=by show 7<=8191;decide
 led:=rfl
 IE:=rfl
 Pk:=ZF
theorem zG {I:Addr}{fp wr:List Addr}{G:Array GenState->Array GenState->Prop}{vs:List Int}{St:Nat->Yg->Prop}{R:Result->Yg->Prop}
  {n:Nat} {P:Nat->Yc->Prop} (W:WalksS prog w A.in1 I fp wr G n P St) (We:n=vs.length) (WK:∀(i:Nat) (v:Yc),P i v->∃x tk,vs[i]?=some x/\v=.int x tk) (sa:Addr) (Ue:sa∉fp) (hn:vs.length<60) :
  ∀(d i:Nat) (s:Yg) (o:Obj) (ts:List (Int×Tok)) (es:Array (Int×Yc)) (ep:Nat) (t:SetTable),vs.length-i=d->i<=vs.length->St i s->s.heap.get? sa=some o->ft w o ts es ep t ->
   (∀x∈ts,x.1∈vs.take i)->(∀x∈vs.take i,∃y∈ts,y.1=x)->ts.length<=i ->
   (∀s' o' fw ir qF t',Moved (sa::wr) G s s'->s'.heap.get? sa=some o'->ft w o' fw ir qF t'->(∀x∈fw,x.1∈vs)->(∀x∈vs,∃y∈fw,y.1=x)->fw.length<=vs.length->R (.ok (.ret .none)) s') ->
   abx (model prog w) A (.builtin "set.update.loop" ⟨[.ref sa,.ref I],[]⟩) R s:=by
 subst We;have yb:sa∉wr:=λz=>Ue (W.sub _ z);have up:∀x∈wr,x∈sa::wr:=λx hx=>Yn _ hx;intro d
 induction d with
 |zero =>
  intro i s o ts es ep t hd hi st ho S k1 k2 k3 hR;obtain rfl:i=vs.length:=by lia
  refine aaS F.entry_set_update_loop ?_;rw[aaE F.plain_set_update_loop _];show YM _ A.in1 (abm (.ref I) >>= _) _ _ s;refine Yd (W.done s _ _ st λs' mv=>?_);rw[ZL]at k1 k2;exact Ym (hR s' o ts es ep t (mv.mono up) (mv.heap sa _ yb ho) S k1 k2 k3)
 |succ d ih =>
  intro i s o ts es ep t hd hi st ho S k1 k2 k3 hR;have lt:i<vs.length:=by lia
  refine aaS F.entry_set_update_loop ?_;rw[aaE F.plain_set_update_loop _];show YM _ A.in1 (abm (.ref I) >>= _) _ _ s;refine Yd (W.item i s _ _ lt st λv s1 hP LJ mv=>?_);obtain⟨x,Tr,hx,rfl⟩:=WK i v hP;have J7:=mv.heap sa _ yb ho;show YM _ A.in1 (holding [Value.int x Tr] (setAdd sa (.int x Tr)) >>= _) _ _ s1;refine Yd (Z0 ?_);unfold setAdd;refine Z0 ?_;refine Yd ((abw prog w).pyHash (k:=x) (intKind_is _ _ _ _) ?_);refine D_ (s:={s1 with toks:=s1.toks+1}) J7 S (by lia) λh' o' fw ir qF t' added r1 r2 r3 r4 r5=>?_
  have U1:vs.take (i+1)=vs.take i++[x]:=by rw[List.take_succ,hx];rfl
  have keep:∀c oc,c≠sa->s1.heap.get? c=some oc->h'.get? c=some oc:=λc oc hc e=>by rw[r1.2 c hc];exact e
  have step:(∀y∈fw,y.1∈vs.take (i+1))/\(∀y∈vs.take (i+1),∃z∈fw,z.1=y)/\fw.length<=i+1:=by
   rw[U1]
   by_cases CP:∃y∈ts,y.1=x
   ·rw[r4 CP];refine⟨λy hy=>ZR _ (k1 y hy),λy hy=>?_,by lia⟩
    rcases YL.mp hy with z|z
    ·exact k2 y z
    ·rw[Ys.mp z];exact CP
   ·have pm:=r5 λy hy e=>CP ⟨y,hy,e⟩;refine⟨λy hy=>?_,λy hy=>?_,by rw[pm.length_eq,Yw];lia⟩
    ·rcases Yi.mp (pm.mem_iff.mp hy)with rfl|z
     ·exact Y4 _ (Ys.mpr rfl)
     ·exact ZR _ (k1 y z)
    ·rcases YL.mp hy with z|z
     ·obtain⟨u,hu,e⟩:=k2 y z;exact⟨u,pm.mem_iff.mpr (Yn _ hu),e⟩
     ·rw[Ys.mp z];exact⟨_,pm.mem_iff.mpr Yo,rfl⟩
  have VG:Moved (sa::wr) G s {s1 with heap:=h',toks:=s1.toks+1} :=
   (mv.mono up).then_heap (Nat.le_succ _) λc oc hc e=>keep c oc (λz=>hc (by rw[z];exact Yo)) e
  exact Ym ⟨plainId_quiet F.plain_set_update_loop _,ih (i+1) _ o' fw ir qF t' (by lia) lt (W.frame _ s1 _ _ LJ (Nat.le_succ _) λc hc oc e=>keep c oc (λz=>Ue (by rw[<- z];exact hc)) e) r2 r3 step.1 step.2.1 step.2.2 λs' o2 HQ He WY t2 m1 m2 m3 m4 m5 m6=>hR s' o2 HQ He WY t2 (Moved.trans W.gtrans VG m1) m2 m3 m4 m5 m6⟩
theorem Ae {l:Addr}{its:Array Yc}{vs:List Int}{Q:Yc->Yg->Prop}(hh:A.handled=none)(hl:s.heap.IsList l its)(hI:Zg its.toList vs)(hn:vs.length<60)
  (q:∀(h':Heap) (tk:Nat) (o':Obj) (ts:List (Int×Tok)) (es:Array (Int×Yc)) (ep:Nat) (t:SetTable),(∀c oc,s.heap.get? c=some oc->h'.get? c=some oc)->h'.get? s.heap.objs.size=some o'->ft w o' ts es ep t ->
   (∀x∈ts,x.1∈vs)->(∀x∈vs,∃y∈ts,y.1=x)->ts.length<=vs.length->Q (.ref s.heap.objs.size) {s with heap:=h',toks:=tk}) :
  YM (model prog w) A (call (.type "set") [.ref l]) Q E s:=by
 obtain⟨cx,Xv,VH⟩:=F.called_set.mro;have T6:=F.called_set.made;have U9:=F.called_set.sub;refine wpAny_call (codeAny_of_tree ?_);show YM _ _ (callAny (.type "set") _) _ _ _;refine Ym ⟨Code.quiet_builtin _ (by decide +kernel),aaS F.entry_type_call ?_⟩
 rw[Around.under_plain (weight_type_call_type "set" [.ref l] []) rfl];have t1:=F.called_set.notType;have t2:=F.called_set.canCreate;have t3:=F.typeCall_set_1 (.ref l)
 repeat (any_goals (first|assumption|wp_step))
 have ls:l<s.heap.objs.size:=by obtain⟨ol,RQ,_⟩:=hl;exact YC RQ
 refine aa4 (B_ (w:=w) (E:=E) (xs:=[.ref l]) (R:=λob sx=>ob=.ref s.heap.objs.size/\sx={s with heap:=s.heap.push (nC w)}) (F.newCall_set_1 _) (.inr ⟨_,rfl⟩) ⟨rfl,rfl⟩) λr sx hr=>?_
 cases r with
 |error e=>exact hr
 |ok fl =>
  cases fl with
  |ret ob =>
   obtain⟨rfl,rfl⟩:=hr;have hS:(s.heap.push (nC w)).get? s.heap.objs.size=some (nC w):=Y0 _ rfl;have hT:Shared.TypeIs {s with heap:=s.heap.push (nC w)} (.ref s.heap.objs.size) "set" := ⟨_,hS,rfl⟩
   have i1:=F.called_set.init.lookup;have i2:=F.called_set.init.bind (.ref s.heap.objs.size)
   repeat (any_goals (first|assumption|wp_step))
   refine aa4 (codeAny_call_builtin (R:=wants (λr s2=>r=.none/\Q (.ref s.heap.objs.size) s2) E) F.called_set.init.plain F.entry_set_init (check_set_init_1 hT ?_)) λr2 s2 sj=>?_
   ·obtain⟨ol,RQ,Az,nl,Us⟩:=hl;obtain⟨c1,c2,c3,c4⟩:=ol;simp only at Az Us;subst Az Us;have RN:(s.heap.push (nC w)).get? l=some {cls:=.type "list",dict:=c2,data:=.seq its nl,slots:=c4}:=Yv _ RQ;have u1:=F.sub_list_set;have u2:=F.sub_list_frozenset;have u3:(Value.type "list" == Value.type "dict")=false:=by decide
    have N3:(s.heap.push (nC w)).IsList l its:=⟨_,RN,rfl,nl,rfl⟩;unfold Z_.«set.__init__» noKeywords Builtin.Frozenset.updateFrom;generalize WL:pyIter=PI
    wp_walk
    subst WL;refine wpAny_pyIter_list N3 ?_;refine Yd (wpAny_runValue ?_);have VZ:A.in1.in1.in1.handled=none:=by simp[hh]
    have nI:l≠(s.heap.push (nC w)).objs.size:=by rw[Heap.size_push];exact YZ (aby ls)
    have hf:s.heap.objs.size∉[(s.heap.push (nC w)).objs.size,l]:=by
     rw[Heap.size_push];simp only[Yi,ZY,or_false,not_or];exact⟨YZ (aa_ _),Nat.ne_of_gt ls⟩
    have hlen:its.size=vs.length:=by
     have:=hI.length;rw[Yp]at this;exact this
    refine zG (vs:=vs) ((Walks.list VZ _ l nI _).toS) hlen (λi v hv=>?_) s.heap.objs.size hf hn vs.length 0 _ (nC w) [] #[] 0 _ (by lia) (Yz _) ⟨⟨_,Y0 _ rfl,rfl,rfl⟩,N3.push _⟩ (Yv _ hS) (Fc w) (λx hx=>by cases hx) (λx hx=>by simp at hx) (Yz _) λs' o' fw ir qF t' m1 m2 m3 m4 m5 m6=>?_
    ·have hv:its[i]?=some v:=hv;obtain⟨t,e⟩:=hI.int_at i v (by rw[YD];exact hv)
     have hi:i<vs.length:=by rw[<- hlen];exact(Array.getElem?_eq_some_iff.mp hv).1
     refine⟨vs.getD i 0,t,?_,e⟩;rw[ZT,Yj hi];rfl
    ·obtain⟨h',g',d',U3,QR⟩:=s';have eg:g'=s.gens:=m1.gens;have ed:d'=s.drawn:=m1.drawn;have eo:QR=s.os:=m1.os;subst eg ed eo;refine Ym (Ym ⟨rfl,q h' U3 o' fw ir qF t' (λc oc e=>?_) m2 m3 m4 m5 m6⟩);have hc:=YC e;refine m1.heap c oc (λz=>?_) (Yv _ (Yv _ e));rcases Yi.mp z with z|z
     ·exact absurd z (YZ hc)
     ·have z:=Ys.mp z;rw[Heap.size_push]at z;exact absurd z (YZ (aby hc))
   ·cases r2 with
    |error e=>exact sj
    |ok WQ =>
     cases WQ with
     |ret r =>
      obtain⟨rfl,hq⟩:=sj
      repeat (any_goals (first|assumption|wp_step))
     |_=>exact sj.elim
  |_=>exact hr.elim
end
end SI
namespace L2.Q
open PySem PySem.Spec PySem.SeqAt PyProof.Rows
def tG (w:YB)(a:Addr)(ns:List Int)(h:Heap):Prop:=∃o ts es ep t,h.get? a=some o/\SI.ft w o ts es ep t/\(∀x,x∈ts.map (·.1)↔x∈ns)/\ts.length<60
theorem ints_of:∀{ns:List Int} {its:List Yc},Vals (ns.map V.int) its->Zg its ns
 |[],_,.nil=>.nil
 |n::ns,_,.cons r t=>by
  obtain⟨tk,rfl⟩:=r;exact .cons _ _ (ints_of t)
theorem iL:∀{ns:List Int} {its:List Yc},Zg its ns->Vals (ns.map V.int) its
 |[],_,.nil=>.nil
 |n::ns,_,.cons _ _ t=>.cons ⟨_,rfl⟩ (iL t)
section
variable {X:Cx}
theorem Ad (hc:X.calm=true):fI X (.type "set") (λxs H Q=>∃p ns,xs=[V.ref p]/\dh X.K H p (ns.map V.int)/\ns.length<60/\∀a,H a=none->Q (.ref a) (upd H a (.ext (tG X.w a ns)))):=by
 intro pins s σ H xs us Q I r h;obtain⟨p,ns,rfl,hp,hl,q⟩:=h;obtain⟨u,rfl,rx⟩:=vals1 r;cases rx;obtain⟨its,r',pl,hz⟩:=I.list hp;refine SI.Ae (w:=X.w) (I.ok.hd hc) pl.isList (by simpa using ints_of r') hl λh' tk o' fw es ep t kp ho S m1 m2 m3=>?_
 have FG:H s.heap.objs.size=none:=I.bV.fresh (Yh _);refine⟨.ref s.heap.objs.size,_,I.laid (t':=tk) (o:=.ext (tG X.w s.heap.objs.size ns)) kp (Yh _) ?_,rfl,q _ FG⟩;refine⟨⟨o',fw,es,ep,t,ho,S,λx=>⟨λz=>?_,λz=>?_⟩,by lia⟩,⟨o',ho⟩,λh1 h2 z k=>?_⟩
 ·obtain⟨y,hy,rfl⟩:=YK.mp z;exact m1 y hy
 ·obtain⟨y,hy,rfl⟩:=m2 x z;exact aah hy
 ·obtain⟨o1,t1,e1,WZ,U0,g1,g2⟩:=z;exact⟨o1,t1,e1,WZ,U0,k _ g1,g2⟩
theorem pU {x:Yc}{vs:List Yc}{ns:List Int}{s:Yg}{A:Zc}{E:Yc->Yg->Prop}{P:Yk}{w:YB}{Q:Yc->Yg->Prop}(hI:Zg vs ns)(hz:vs.length<64)
  (col:∀(R:List Yc->Yg->Prop),(∀(h':Heap) (tk:Nat),(∀b o,s.heap.get? b=some o->h'.get? b=some o)->R vs {s with heap:=h',toks:=tk})->YM (model P w) A.in1 (collect x) R E s)
  (h:∀(out:Array Yc) (eK:List Int) (h1 h':Heap) (tk:Nat) (n:Nat),Zg out.toList eK->eK.Perm ns->eK.Pairwise (·<=·)->(∀b o,s.heap.get? b=some o->h1.get? b=some o)->(∀b o,h1.get? b=some o->h'.get? b=some o)->h'.get? h1.objs.size=some (aak "list" out n)->Q (.ref h1.objs.size) {s with heap:=h',toks:=tk}) :
  YM (model P w) A (call (.builtin "sorted") [x]) Q E s:=by
 refine Calls.call_function_entry kind_sorted plain_sorted entry_sorted (args_sorted1 _) ?_;unfold Z_.«sorted»
 refine Yd (m:=checkCount "sorted" 1 1 _) (Ym ?_);refine Yd (col _ λh' tk kp=>?_);have nl:vs.length<=Yy:=by rw[Zv];lia
 refine Yd (wpAny_newList ?_ nl);have hl:(h'.push (aak "list" vs.toArray 0)).get? h'.objs.size=some (aak "list" vs.toArray 0):=Y0 _ rfl;refine Yd (Z0 (ZX slot_list_sort ⟨_,hl,rfl⟩ entry_list_sort (list_sort_tree (s:={s with heap:=h'.push (aak "list" vs.toArray 0),toks:=tk}) hl hI hz λout eK a1 a2 a3=>⟨_,rfl,?_⟩) (args_list_sort _)))
 obtain⟨n,hn⟩:=sortedHeap_at (out:=out) hl;refine Ym ⟨_,rfl,h out eK h' _ tk n a1 a2 a3 kp (λb o e=>?_) hn⟩;have hb:=YC e;rw[sortedHeap_old (YZ hb) (by rw[size_push'];exact aby hb)]
 exact Yv _ e
theorem ux:∀(us:List (Int×Tok)),Zg (us.map λx=>Value.int x.1 x.2) (us.map (·.1))
 |[]=>.nil
 |x::us=>.cons _ _ (ux us)
theorem pI (hc:X.calm=true):fI X (.builtin "sorted") (λxs H Q=>∃p ns,xs=[V.ref p]/\H p=some (.ext (tG X.w p ns))/\∀ms:List Int,ms.Pairwise (· < ·)->(∀x,x∈ms↔x∈ns)->ms.length<=60->∀a,H a=none->Q (.ref a) (upd H a (.lst (ms.map V.int)))):=by
 intro pins s σ H xs us Q I r h;obtain⟨p,ns,rfl,hp,q⟩:=h;obtain⟨u,rfl,rx⟩:=vals1 r;cases rx;obtain⟨⟨o,ts,es,ep,t,ho,S,hm,hl⟩,_,_⟩:=(show bW X.prog X.w H s.heap p (.ext (tG X.w p ns)) from I.bV p _ hp)
 obtain⟨us,JF,col⟩:=SI.tf (prog:=X.prog) (s:=s) ho S (by lia)
 refine pU (ux us) (by rw[Ye,JF.length_eq];lia) (λR hR=>col _ _ R (by simp[I.ok.hd hc]) λh' tk kp=>hR h' tk kp) λout eK h1 h' tk n a1 a2 a3 k1 k2 hn=>?_
 have nd:eK.Nodup:=(a2.nodup_iff).mpr (((JF.map (·.1)).nodup_iff).mpr S.Pk);have JG:eK.Pairwise (· < ·):=(List.Pairwise.and a3 nd).imp λ⟨x,y⟩=>by lia
 have I1:Inv X pins σ H {s with heap:=h1,toks:=s.toks}:=I.kept k1
 have FG:H h1.objs.size=none:=I1.bV.fresh (Yh _);refine⟨.ref h1.objs.size,_,I1.laid (t':=tk) (o:=.lst (eK.map V.int)) k2 (Yh _) ?_,rfl,q eK JG (λx=>?_) ?_ _ FG⟩
 ·refine⟨?_,out.toList,n,iL a1,?_⟩
  ·rw[Ye,a2.length_eq,Ye,JF.length_eq,Zv];lia
  ·simpa using hn
 ·rw[a2.mem_iff,<- hm x];exact(JF.map (·.1)).mem_iff
 ·rw[a2.length_eq,Ye,JF.length_eq];lia
theorem wY:fI X (.builtin "sorted") (λxs H Q=>∃p ns,xs=[V.ref p]/\dh X.K H p (ns.map V.int)/\ns.length<60/\∀ms:List Int,ms.Pairwise (·<=·)->ms.Perm ns->∀a,H a=none->Q (.ref a) (upd H a (.lst (ms.map V.int)))):=by
 intro pins s σ H xs us Q I r h;obtain⟨p,ns,rfl,hp,hl,q⟩:=h;obtain⟨u,rfl,rx⟩:=vals1 r;cases rx;obtain⟨its,r',pl,hz⟩:=I.list hp;have hI:Zg its ns:=ints_of r';have hlen:its.length=ns.length:=by have:=r'.length;rw[Ye]at this;exact this.symm
 refine pU hI (by lia) (λR hR=>collect_list pl.isList (hR _ s.toks λb o e=>?_)) λout eK h1 h' tk n a1 a2 a3 k1 k2 hn=>?_
 ·have hb:=YC e;rw[Heap.get?_update_ne _ _ _ _ (YZ hb)];exact Yv _ e
 have I1:Inv X pins σ H {s with heap:=h1,toks:=s.toks}:=I.kept k1
 have FG:H h1.objs.size=none:=I1.bV.fresh (Yh _);refine⟨.ref h1.objs.size,_,I1.laid (t':=tk) (o:=.lst (eK.map V.int)) k2 (Yh _) ?_,rfl,q eK a3 a2 _ FG⟩;refine⟨?_,out.toList,n,iL a1,by simpa using hn⟩
 rw[Ye,a2.length_eq,Zv];lia
end
section
variable {X:Cx}{C:Cfg}{e:Expr}{φ:aV}{p:Bool}{pos pos' p1 p2:Pos}
def Ir (φ:aV):aV:=λβ R=>φ β λd _ β1=>∃ns:List Int,d=.lst (ns.map D.int)/\ns.length<60/\∀ms:List Int,ms.Pairwise (·<=·)->ms.Perm ns->R (.lst (ms.map D.int)) .own β1
theorem BD (he:PQ X C p e φ) (hm:X.mg "sorted" = none) (hg:Gl X "sorted" := by rfl) (hs:YG [e] X.env=(false,eval e X.env)::YG [] X.env:=by rfl) (hpl:(aav pos (YG [] X.env)).any (·.1)=false:=by rfl) :
  PQ X C p (.Call (.Name "sorted" p1) [e] [] pos) (Ir φ) :=
 ⟨λβ R R' k h=>he.mono β _ _ (λd kd β1 M9=> by obtain⟨ns,h1,h2,q⟩ := M9;exact⟨ns,h1,h2,λms a b=>k _ _ _ (q ms a b)⟩) h,
  (gM wY hg hm lb (br he.pe dy hs) (by decide) (by decide) (he:=hs) (hpl:=hpl)).pre λσ H Q ⟨β,own,s,h⟩=>tQ.of he s h λd k β1 v H1 aG M8 o1 r1=> by
  obtain⟨ns,e1,hl,q⟩ := M8;subst e1;obtain⟨b,us,rfl,K9,_,rb⟩:=r1.rep;cases _root_.L2.bq rb;refine⟨b,ns,rfl,dh.of K9,hl,λms a1 a2 l lS=>q ms a1 a2 _ _ aG (o1.same (ay.new lS)) ⟨[l],⟨l,_,[],rfl,az,rfl,jE ms⟩,by simp,λc hc=>?_⟩⟩
  rw[Ys.mp hc];exact⟨Y1 λz=>o1.sn.d l z lS,λz=>o1.sq.wK l z lS,Y1 λz=>o1.sq.i8 l z lS⟩⟩
def Iq (φ:aV):aV:=λβ R=>φ β λd _ β1=>∃ns:List Int,d=.lst (ns.map D.int)/\ns.length<60/\∀ms:List Int,ms.Pairwise (· < ·)->(∀x,x∈ms↔x∈ns)->ms.length<=60->R (.lst (ms.map D.int)) .own β1
theorem BC (hc:X.calm=true) (he:PQ X C p e φ) (hm:X.mg "sorted" = none) (NZ:X.mg "set" = none) (hg:Gl X "sorted" := by rfl) (Ww:Gl X "set" := by rfl) (hs:YG [e] X.env=(false,eval e X.env)::YG [] X.env:=by rfl) (hpl:(aav pos (YG [] X.env)).any (·.1)=false:=by rfl)
  (sS:YG [.Call (.Name "set" p2) [e] [] pos'] X.env=(false,eval (.Call (.Name "set" p2) [e] [] pos') X.env)::YG [] X.env:=by rfl) (RM:(aav pos' (YG [] X.env)).any (·.1)=false:=by rfl) :
  PQ X C p (.Call (.Name "sorted" p1) [.Call (.Name "set" p2) [e] [] pos'] [] pos) (Iq φ) :=
 ⟨λβ R R' k h=>he.mono β _ _ (λd kd β1 M7=> by obtain⟨ns,h1,h2,q⟩ := M7;exact⟨ns,h1,h2,λms a b c=>k _ _ _ (q ms a b c)⟩) h,
  (gM (pI hc) hg hm lb (br (qe (Ad hc) Ww NZ KA (br he.pe dy hs) (by decide) (by decide) (he:=hs) (hpl:=RM)) dy sS) (by decide) (by decide) (he:=sS) (hpl:=hpl)).pre λσ H Q ⟨β,own,s,h⟩=>tQ.of he s h λd k β1 v H1 aG M6 o1 r1=> by
  obtain⟨ns,e1,hl,q⟩ := M6;subst e1;obtain⟨b,us,rfl,K9,_,rb⟩:=r1.rep;cases _root_.L2.bq rb;refine⟨b,ns,rfl,dh.of K9,hl,λa ha=>⟨a,ns,rfl,az,λms a1 a2 a3 l lS=>?_⟩⟩;have o2:=o1.same (ay.new (o:=.ext (tG X.w a ns)) ha);refine q ms a1 a2 a3 _ _ aG (o2.same (ay.new lS)) ⟨[l],⟨l,_,[],rfl,az,rfl,jE ms⟩,by simp,λc hc=>?_⟩
  rw[Ys.mp hc];exact⟨Y1 λz=>o2.sn.d l z lS,λz=>o2.sq.wK l z lS,Y1 λz=>o2.sq.i8 l z lS⟩⟩
end
end L2.Q
namespace L2
open PySem PySem.Spec PySem.SeqAt PyProof.Rows S9
def Kt (a b:D):Option D:=a.zE.bind λds=>b.zE.bind λes=>(jJ ds).bind λks=>(jJ es).bind λms=>some (.bl (uh ks ms))
theorem F3 {ks ms:List (List Int)}(h:∀k∈ks,k≠[])(h':∀k∈ms,k≠[]):Kt (.lst (ks.map kD)) (.lst (ms.map kD))=some (.bl (uh ks ms)):=by
 show (jJ (ks.map kD)).bind _=_;rw[kR h,ZJ,kR h',ZJ]
section
variable {X:Cx}
theorem ES (hu:X.A.units+16<aan):bg X (Y7 .Lt) Kt:=by
 intro pins s σ H x y v u Q I rx ry h;obtain⟨W,d1,d2,d,hd,r1,r2,e,q⟩:=h;obtain⟨ds,e1,e⟩:=Y6.mp (show d1.zE.bind _=some d from e)
 obtain⟨es,e2,e⟩:=Y6.mp e;obtain⟨ks,e3,e⟩:=Y6.mp e;obtain⟨ms,e4,e⟩:=Y6.mp e;cases e;obtain⟨rfl,hk⟩:=nQ e3;obtain⟨rfl,N5⟩:=nQ e4;rw[D.mf e1]at r1;rw[D.mf e2]at r2;obtain⟨p,vs,rfl,hp,n1,q1⟩:=r1;obtain⟨p',vs',rfl,G4,XA,Pd⟩:=r2;obtain⟨ts,rfl,T,rfl⟩:=kQ hk q1;obtain⟨fw,rfl,T',rfl⟩:=kQ N5 Pd;cases rx;cases ry;obtain⟨its,r',pl,hz⟩:=I.list (dh.of hp);obtain rfl:=j9 r';obtain⟨its',Pc,Vu,XE⟩:=I.list (dh.of G4);obtain rfl:=j9 Pc;have cm:∀A:Zc,A.units+1<aan->Tq A s (ts.map λt=>Value.ref t.1).toArray (fw.map λt=>Value.ref t.1).toArray (ts.map (·.2)) (fw.map (·.2)):=λA hA=>by
  refine⟨by simp,by simp,λj h1 h2=>?_⟩
  have j1:j<ts.length:=by simpa using h1
  have j2:j<fw.length:=by simpa using h2
  obtain⟨g1,_⟩:=T ts[j] (ZZ j1);obtain⟨g2,_⟩:=T' fw[j] (ZZ j2);obtain⟨i1,a1,l1,_⟩:=I.tuple (sM.of g1);obtain⟨i2,a2,l2,_⟩:=I.tuple (sM.of g2);have n1:=intsAre_of a1;have n2:=intsAre_of a2;have x1:(ts.map (·.2)).getD j []=ts[j].2:=by simp[ZT,j1]
  have x2:(fw.map (·.2)).getD j []=fw[j].2:=by simp[ZT,j2]
  rw[x1,x2];simp only[List.getElem_toArray,List.getElem_map];exact⟨Dd l1 l2 (by simpa using n1) (by simpa using n2) hA,λprog w E Q hQ=>HT.nF l1 l2 (by simpa using n1) (by simpa using n2) hA hQ⟩
 obtain⟨⟨cls,dd,data,sl⟩,ho,oP,n,PF⟩:=id pl.isList;obtain⟨⟨Kw,sV,data2,sR⟩,zR,kX,n',hd2⟩:=id Vu.isList;simp only at oP PF kX hd2;subst oP PF kX hd2;refine aa2 (op:=.Lt) ⟨_,ho,rfl⟩ ⟨_,zR,rfl⟩ PySem.F.slot_list_lt PySem.F.entry_list_lt (PySem.F.args_list_lt_2 _ _) (Fi _ _ _ _ n n' dd sV sl sR (ts.map (·.2)) (fw.map (·.2))) ⟨ho,zR,cm _ ?_,?_⟩ (by lia)
 ·show X.A.units+1<aan;lia
 ·exact⟨(λx=>nomatch x),⟨.bl _,H,I,rfl,q _ _ (ay.refl _) rfl⟩⟩
end
end L2
namespace lN
open PySem L2 L2.Q
section
variable {P:Yk}{w:YB}{K:PySem.W.Frag}{mg:Str->Option Yc}{base:Heap}
theorem a6:aI ["row","many","ties","known","i","own","j","found","k"] ["row"] (ar eV):=⟨rfl,rfl,rfl,by decide +kernel,rfl,by decide +kernel,by decide +kernel⟩
def C6:FD:=λds R=>∃(n:Nat) (ps:List (Nat×Nat)),ds=[jZ n ps]/\lj n ps/\n<=40/\∀kvs,Tb (sK ps) kvs n 0 (n+1)->R (dA kvs)
theorem C6.mono:cW C6:=λds R R' k ⟨n,ps,e,h1,h2,q⟩=>⟨n,ps,e,h1,h2,λkvs a=>k _ (q kvs a)⟩
theorem IY {FU yh} (Lf:UT K mg FU yh) (B:sY mg):aH P w K mg base bp 1 FU yh ["row"] (bX P w true C6):=by
 refine lP Lf.F a6 (λds R M5=> by obtain⟨n,ps,e,_⟩ := M5;subst e;rfl) λcF A outer s H E hr=>⟨_,(ag (nh (ab (i:=0)) (cy (n:=2) rfl (aM (ak (i:=1) a6.nd) (aM (ak (i:=2) a6.nd) bM))))
    (ag (jB (i:=3) (λ_=>BE) a6.nd)
    (ag (bx Y3 rfl (m9 B.range (aa (ab (i:=1)) (aa (tU ji ah) (aa (tU ji ah) ae)))) (ak (i:=4) a6.nd) (ag (xI (i:=3) hr.cJ (λ_=>ah) (λ_=>(aZ (aa (ab (i:=4)) (aa (ab (i:=4)) ae)))))
    (ag (Bd (i:=5) false ["a","k","i"] [none,none,some 4] (by rfl) (by decide:(["a","k","i"]:List Str).Nodup) rfl (λ_=>(aW (ab (i:=2)))) (λ_ _ _ _ _ _=>(cy (n:=2) rfl (aM (ak (i:=0) (by decide:(["a","k","i"]:List Str).Nodup)) (aM (ak (i:=1) (by decide:(["a","k","i"]:List Str).Nodup)) bM)))) (λ_ _ _ _ _ _=>(j_ (aE af (bg.m (fh hr.units)) (ab (i:=0)) (ab (i:=2))))) (λ_ _ _ _ _ _=>(ab (i:=1))) a6.nd)
    (ai (bx Y3 rfl (m_ B.range (aa (aD aF au (ab (i:=4)) ah) (aa (aD aF au (ab (i:=1)) ah) ae))) (ak (i:=6) a6.nd) (ag (aJ (i:=7) (aK af (lF hr.cJ) (ab (i:=3)) (aZ (aa (aD aF au (ab (i:=4)) ah) (aa (ab (i:=6)) ae)))) a6.nd)
    (ag (bx Y3 rfl (aW (ab (i:=5))) (ak (i:=8) a6.nd) (ai (bG (aE af (bg.m bK) (ab (i:=8)) (ab (i:=6))) (ai (aJ (i:=7) (aD aF au (ab (i:=7)) (aD af (bg.m rT) (aK af (lF hr.cJ) (ab (i:=3)) (aZ (aa (aD aF au (ab (i:=4)) ah) (aa (ab (i:=8)) ae)))) (aK af (lF hr.cJ) (ab (i:=3)) (aZ (aa (aD aF au (ab (i:=8)) ah) (aa (ab (i:=6)) ae)))))) a6.nd)) aT)))
    (ai (xI (i:=3) hr.cJ (λ_=>(ab (i:=7))) (λ_=>(aZ (aa (ab (i:=4)) (aa (ab (i:=6)) ae)))))))))))))
    (ai (l7 (i:=3)))))),λds R h=>?_⟩
 obtain⟨n,ps,rfl,ok,hn,q⟩:=h;refine⟨_,rfl,_,rfl,rfl,_,_,rfl,_,_,rfl,rfl,?_⟩;have Rn:=ok.sm;have hp:∀p∈ps,p.1<p.2:=λp hp=>(ok.lt p hp).1;refine⟨trivial,_,rfl,trivial,_,rfl,rfl,trivial,_,rfl,rfl,trivial,(n:Int),-1,rfl,⟨by lia,by lia,by lia,by lia⟩,trivial,?_⟩
 rw[show ((n:Int) - -1).toNat=n+1 by lia]
 refine⟨λm β=>m<=n+1/\∃kvs x3 x4 x5 x6 x7,β=[some (.val false (jZ n ps)),some (.val true (.int n)),some (.val false (dN ps)),some (.own (dA kvs)),x3,x4,x5,x6,x7]/\Tb (sK ps) kvs n (n+1-m) (n+1),⟨Yz _,[],_,_,_,_,_,rfl,HV⟩,?_,?_⟩
 ·rintro m d β hd ⟨_,kvs,x3,x4,x5,x6,x7,rfl,tb⟩;obtain⟨hm,rfl⟩:=mZ hd;obtain⟨i,hi⟩:∃i,i=n-m:=⟨_,rfl⟩;rw[show (n:Int)-(m:Int)=((i:Nat):Int) by lia]
  rw[show n+1-m=i+1 by lia]at tb
  obtain⟨v0,tb⟩:=AV (Ek (by lia) (by lia) tb) (Yh _)
  have hlen:=tb.len;rw[YR]at hlen;have e1:sK ps i i=1:=by unfold sK;rw[aaG];rfl
  rw[e1]at tb;refine⟨trivial,⟨_,rfl⟩,_,rfl,trivial,_,rfl,trivial,gY,kvs,tI (i,i),rfl,rfl,v0,aaW (show kvs.length<=9000 by have:[((tI (i,i):List Int),D.int (sK ps i i))].length=1:=rfl;lia) (by decide),?_⟩
  refine⟨_,rfl,_,rfl,trivial,Jq (λp=>decide (p.1=i)) (λp=>.int (p.2:Int)) trivial (gk (by lia)) (λp wA y0 y1 ou J Fz j1 j2=>?_) ?_⟩
  ·exact⟨_,rfl,rfl,_,_,rfl,_,_,rfl,rfl,_,rfl,trivial,_,rfl,_,cT _ _,_,rfl,lR (λh=>⟨_,rfl,trivial,Fz,j1 (by simp;lia) _ _⟩) (λh=>j2 (by simp;lia) _ _)⟩
  have SU:(ps.filter λp=>decide (p.1=i)).map (λp=>D.int (p.2:Int))=(iA ps i).map λk:Nat=>D.int (k:Int):=by
   unfold iA;rw[Y8];rfl
  rw[SU];have hpl:(iA ps i).length<=400:=by
   unfold iA;rw[Ye];exact YI (Zz _ _) Rn
  refine⟨_,rfl,trivial,_,rfl,trivial,_,rfl,trivial,_,rfl,trivial,(i:Int)+1,(n:Int)+1,rfl,⟨by lia,by lia,by lia,by lia⟩,trivial,?_⟩
  rw[show ((n:Int)+1-((i:Int)+1)).toNat=n-i by lia]
  refine⟨λr β=>r<=n-i/\∃kvs x5 x6 x7,β=[some (.val false (jZ n ps)),some (.val true (.int n)),some (.val false (dN ps)),some (.own (dA kvs)),some (.val true (.int (i:Int))),some (.val true (.lst ((iA ps i).map λk:Nat=>D.int (k:Int)))),x5,x6,x7]/\Tb (sK ps) kvs n i (i+1+r),⟨Yz _,_,_,_,_,rfl,tb⟩,?_,?_⟩
  ·rintro r d β hd ⟨_,kvs,x5,x6,x7,rfl,tb⟩;obtain⟨JM,rfl⟩:=cO hd;obtain⟨j,hj⟩:∃j,j=i+r+1:=⟨_,rfl⟩;rw[show (i:Int)+1+(r:Int)=((j:Nat):Int) by lia]
   rw[show i+1+r=j by lia]at tb
   have hlen:=tb.len;refine⟨_,rfl,trivial,_,rfl,trivial,_,rfl,trivial,_,rfl,trivial,gY,_,iV (i:=i+1) (j:=j) rfl rfl (tb.ge (i+1) j (by lia) (by lia) (.inl (by lia))),?_⟩
   refine⟨_,rfl,_,rfl,trivial,?_⟩;refine⟨λq β=>q<=(iA ps i).length/\∃x7,β=[some (.val false (jZ n ps)),some (.val true (.int n)),some (.val false (dN ps)),some (.own (dA kvs)),some (.val true (.int (i:Int))),some (.val true (.lst ((iA ps i).map λk:Nat=>D.int (k:Int)))),some (.val true (.int (j:Int))),some (.val true (.int ((m7 ps i j q:Nat):Int))),x7],⟨Yz _,x7,?_⟩,?_,?_⟩
   ·rw[zg];rfl
   ·rintro q d β hd ⟨_,y7,rfl⟩;rw[Yu]at hd;obtain⟨k,hk,rfl⟩:=Yt.mp hd;have Uh:=(Yr.mp hk).1;have Wt:=sf.mp (YW hk);have h1:=ok.lt _ Wt;dsimp only at h1;refine⟨_,rfl,trivial,_,rfl,_,rfl,_,rfl,lR (λK4=>?_) λK4=>⟨Uh,some (.val true (.int (k:Int))),?_⟩⟩
    ·have K4:k<j:=by lia
     refine⟨_,rfl,trivial,_,rfl,trivial,_,rfl,trivial,_,rfl,trivial,_,rfl,trivial,gY,_,iV (i:=i+1) (j:=k) rfl rfl (tb.ge (i+1) k (by lia) (by lia) (.inl (by lia))),trivial,_,rfl,trivial,_,rfl,trivial,_,rfl,trivial,_,rfl,trivial,gY,_,iV (i:=k+1) (j:=j) rfl rfl (tb.ge (k+1) j (by lia) (by lia) (.inl (by lia))),_,Dn (Ik hp ok.nd (by lia)),_,rfl,Uh,some (.val true (.int (k:Int))),?_⟩
     rw[<- Bt hk K4];rfl
    ·rw[Bu hk (by lia)]
     rfl
   ·rintro β ⟨_,y7,rfl⟩;rw[Ye];obtain⟨v1,tb⟩:=AV tb (by lia)
    rw[Bv hp (by lia)]
    refine⟨_,rfl,trivial,⟨_,rfl⟩,_,rfl,trivial,_,rfl,trivial,gY,kvs,tI (i,j),rfl,rfl,v1,aaW (show kvs.length<=9000 by lia) (by decide),JM,_,_,_,_,rfl,?_⟩
    rw[show i+1+(r+1)=j+1 by lia]
    exact tb
  ·rintro β ⟨_,kvs,x5,x6,x7,rfl,tb⟩;rw[cN]at tb;refine⟨hm,_,_,_,_,_,_,rfl,?_⟩;rw[show n+1-(m+1)=i by lia]
   rw[show i+1+(n-i)=n+1 by lia]at tb
   exact tb
 ·rintro β ⟨_,kvs,x3,x4,x5,x6,x7,rfl,tb⟩;rw[mY,aaG]at tb;exact⟨_,rfl,q kvs tb⟩
theorem bP:aI ["row","known","some","begin","found","end"] ["row","known","some"] (ar dW):=⟨rfl,rfl,rfl,by decide +kernel,rfl,by decide +kernel,by decide +kernel⟩
def wG:FD:=λds R=>∃(n:Nat) (ps:List (Nat×Nat)) (kvs:List (List Int×D)) (s:List (Nat×Nat)),ds=[jZ n ps,dA kvs,dN s]/\lj n ps/\n<=40/\Tb (sK ps) kvs n 0 (n+1)/\Va ps [(0,n)] s/\∀l,wa [(0,n)] s=some l->R (.int (aL ps l:Nat))
theorem wG.mono:cW wG:=λds R R' k ⟨n,ps,kvs,s,e,h1,h2,h3,h4,q⟩=>⟨n,ps,kvs,s,e,h1,h2,h3,h4,λl a=>k _ (q l a)⟩
theorem t9:∀{ms:List Int},(∀x∈ms,0<=x)->ms=(ms.map Int.toNat).map λk:Nat=>(k:Int)
 |[],_=>rfl
 |x::ms,h=>by
  rw[YA,YA,<- t9 λy hy=>h y (Yn _ hy),abi (h x Yo)]
theorem BZ {uN lJ} (yB:P8 K mg uN lJ) (B:sY mg):aH P w K mg base bp 1 uN lJ ["row","known","some"] (bX P w true wG):=by
 refine lP yB.F bP (λds R M4=> by obtain⟨n,ps,kvs,s,e,_⟩ := M4;subst e;rfl) λcF A outer s H E hr=>⟨_,(ag (bG (aE af (bg.m (fh hr.units)) (ab (i:=2)) (bw ae)) (ai (aN (aK af (lF hr.cJ) (ab (i:=1)) (aZ (aa ah (aa (aK af a9 (ab (i:=0)) ah) ae)))))) aT)
    (ag (aJ (i:=3) (aD aF au (aK af a9 (aK af a9 (ab (i:=2)) (tU ji ah)) ah) ah) bP.nd)
    (ag (aJ (i:=4) ah bP.nd)
    (ag (bx Y3 rfl (aW (aD aF au (BD (MC ["tie","begin"] [none,some 3] (by rfl) (by decide:(["tie","begin"]:List Str).Nodup) rfl (aW (ab (i:=2))) (λ_ _ _ _ _ _=>(ak (i:=0) (by decide:(["tie","begin"]:List Str).Nodup))) (λ_ _ _ _ _ _=>(j_ (aE af (bg.m IU) (aK af a9 (ab (i:=0)) ah) (ab (i:=1))))) (λ_ _ _ _ _ _=>(aK af a9 (ab (i:=0)) ah))) B.sorted) (bw (aa (aK af a9 (ab (i:=0)) ah) ae)))) (ak (i:=5) bP.nd) (ag (aJ (i:=4) (aD af (bg.m jF) (ab (i:=4)) (aK af (lF hr.cJ) (ab (i:=1)) (aZ (aa (ab (i:=3)) (aa (ab (i:=5)) ae))))) bP.nd)
    (ai (aJ (i:=3) (aD aF au (ab (i:=5)) ah) bP.nd))))
    (ai (aN (ab (i:=4)))))))),λds R h=>?_⟩
 obtain⟨n,ps,kvs,s,rfl,ok,hn,tb,hv,q⟩:=h;have hp:∀p∈ps,p.1<p.2:=λp hp=>(ok.lt p hp).1;obtain⟨l,ew⟩:=AL hv;have q:=q l ew;have G1:=qZ ok hv;refine⟨_,rfl,trivial,Yz _,_,Ga s [],_,rfl,lR (λh1=>?_) λh1=>?_⟩
 ·subst h1;cases ew;have e0:sK ps 0 n=((aL ps [(0,n)]:Nat):Int):=by unfold sK;rw[d6,Nat.sub_zero]
  rw[<- e0]at q;exact⟨_,rfl,trivial,trivial,_,rfl,trivial,_,rfl,trivial,gY,_,iV (i:=0) (j:=n) rfl rfl (tb.ge 0 n (by lia) (by lia) (.inr ⟨rfl,by lia⟩)),trivial,q⟩
 ·obtain⟨s0,z,UB⟩:∃s0 z,s=s0++[z]:=⟨s.dropLast,s.getLast h1,(List.dropLast_concat_getLast h1).symm⟩;have hz:s.getLast?=some z:=by rw[UB,List.getLast?_append,List.getLast?_singleton];rfl
  have ez:uY (dN s) (.int (-1))=some (kD (tI z)):=by
   rw[UB];unfold dN;rw[YN];exact Dq
  have VW:=ok.lt z (ff hv z (aaB hz));have hl:=pO hp eN hv ew;have hc:=wX hp OE hv ew hz;have FH:=rl hp ok.nd eN hv ew;rw[d6]at FH;have Wy:sa ps n 0<2 ^ 200:=by
   have h1:=tK hp ok.nd n 0;have h2:=fH (show n+1<=41 by lia)
   have h3:oQ 41<2 ^ 200:=by decide
   lia
  refine⟨_,rfl,trivial,_,rfl,rfl,_,ez,trivial,_,rfl,trivial,_,rfl,?_⟩;refine⟨_,rfl,_,rfl,trivial,fX (λt=>decide (z.1+1<=t.2)) (λt=>.int (t.2:Int)) trivial (gk (by lia)) (λo ho x0 ou J Fz j1 j2=>?_) ?_⟩
  ·refine⟨_,rfl,trivial,_,rfl,trivial,_,rfl,_,rfl,_,rfl,?_⟩
   by_cases hle:z.1+1<=o.2
   ·exact j4 (decide_eq_true (by lia)) ⟨_,rfl,trivial,_,rfl,trivial,Fz,j1 (decide_eq_true hle) _⟩
   ·exact f9 (decide_eq_false (by lia)) (j2 (decide_eq_false hle) _)
  obtain⟨cl,Az⟩:∃cl:List Nat,cl=(s.filter λt=>decide (z.1+1<=t.2)).map (·.2):=⟨_,rfl⟩;have WC:cl.length<=40:=by rw[Az,Ye];exact YI (Zz _ _) (by lia)
  refine⟨cl.map λk:Nat=>(k:Int),by rw[Az,Y8,Y8];rfl,by rw[Ye];lia,λms m1 m2=>?_⟩
  obtain⟨es,em⟩:∃es:List Nat,ms=es.map λk:Nat=>(k:Int):=⟨_,t9 λx hx=>by
   obtain⟨k,_,rfl⟩:=YK.mp (m2.mem_iff.mp hx);lia⟩
  subst em;have p1:es.Pairwise (·<=·):=(ZD.mp m1).imp λh=>by lia
  have p2:es.Perm cl:=by
   have:=m2.map Int.toNat;rw[Y8,Y8]at this;have ei:(Int.toNat ∘ λk:Nat=>(k:Int))=id:=by funext k;simp
   rwa [ei,List.map_id,List.map_id]at this
  have FK:=Al ok hv ew hz p1 (by rw[<- Az];exact p2)
  have sv:=p2.length_eq;have WG:wU (.lst ((es.map λk:Nat=>(k:Int)).map D.int)) (.lst [.int (n:Int)])=some (.lst (l.map λv=>D.int (v.2:Int))):=by
   rw[jW (by rw[Ye,Ye];show _+1<=_;lia)]
   congr 2
   have:(es++[n]).map (λk:Nat=>D.int (k:Int))=(l.map (·.2)).map λk:Nat=>D.int (k:Int):=by rw[FK]
   rw[YN,Y8]at this;rw[Y8];exact this
  refine⟨trivial,_,rfl,trivial,_,rfl,trivial,sQ,_,WG,.inr ⟨_,rfl,trivial,?_⟩⟩;refine⟨λm β=>m<=l.length/\∃(b f:Nat) (x5:Option Q.B),β=[some (.val false (jZ n ps)),some (.val false (dA kvs)),some (.val false (dN s)),some (.val true (.int (b:Int))),some (.val true (.int (f:Int))),x5]/\HA n b (l.drop m)/\f*aL ps (l.drop m)=aL ps l,⟨Yz _,z.1+1,1,_,rfl,hc,aay _⟩,?_,?_⟩
  ·rintro m d β hd ⟨_,b,f,x5,rfl,cb,hf⟩;rw[Yu]at hd;obtain⟨v,Ri,rfl⟩:=Yt.mp hd;have G5:=(Yr.mp Ri).1;have W3:l.drop m=v::l.drop (m+1):=by
    obtain⟨h,e⟩:=Yr.mp Ri;rw[Y5 h,e]
   rw[W3]at cb hf;obtain⟨c1,c2⟩:=cb;have XG:=hl.mem v (YW Ri);rw[c9]at hf;have MP:∀(m:Nat),1<=aL ps (l.drop m):=λm=>by
    have:∀ws:List (Nat×Nat),1<=aL ps ws:=λws=>by
     induction ws with
     |nil=>exact Yh _
     |cons u ws ih =>
      rw[c9];exact YI ih (Nat.le_mul_of_pos_left _ (vQ ps _ _))
    exact this _
   have h1:=MP (m+1);have h2:=vQ ps (v.2-v.1) v.1;have K7:f<=aL ps l:=by
    rw[<- hf];exact Nat.le_mul_of_pos_right _ (Nat.mul_pos h2 h1)
   have wy:sa ps (v.2-v.1) v.1<2 ^ 200:=by
    have g1:=tK hp ok.nd (v.2-v.1) v.1;have g2:=fH (show v.2-v.1+1<=41 by lia)
    have g3:oQ 41<2 ^ 200:=by decide
    lia
   refine⟨_,rfl,trivial,_,rfl,trivial,_,rfl,trivial,_,rfl,trivial,gY,_,iV (i:=b) (j:=v.2) rfl rfl (tb.ge b v.2 (by lia) (by lia) (by lia)),_,mw ⟨by rw[Int.natAbs_natCast];lia,by unfold sK;rw[Int.natAbs_natCast,<- c1];exact wy⟩,_,rfl,trivial,_,rfl,G5,v.2+1,f*sa ps (v.2-v.1) v.1,some (.val true (.int (v.2:Int))),?_,c2,by rw[Nat.mul_assoc];exact hf⟩
   unfold sK;rw[Int.natCast_mul,<- c1];rfl
  ·rintro β ⟨_,b,f,x5,rfl,_,hf⟩;rw[Ye,abO]at hf;have ef:f=aL ps l:=by rw[<- hf];exact(Nat.mul_one f).symm
   rw[ef];exact⟨_,rfl,trivial,q⟩
theorem bH:aI ["row","known","some","found","k","tie","other"] ["row","known","some"] (ar eW):=⟨rfl,rfl,rfl,by decide +kernel,rfl,by decide +kernel,by decide +kernel⟩
def C9:FD:=λds R=>∃(n:Nat) (ps:List (Nat×Nat)) (kvs:List (List Int×D)) (s:List (Nat×Nat)),ds=[jZ n ps,dA kvs,dN s]/\lj n ps/\n<=40/\Am ps/\Tb (sK ps) kvs n 0 (n+1)/\Va ps [(0,n)] s/\R (.int (du ps [(0,n)] s:Nat))
theorem C9.mono:cW C9:=λds R R' k ⟨n,ps,kvs,s,e,h1,h2,h3,h4,h5,q⟩=>⟨n,ps,kvs,s,e,h1,h2,h3,h4,h5,k _ q⟩
theorem Jd {zZ qA} (Hk:Ti K mg zZ qA) {uN lJ} (yB:P8 K mg uN lJ) {uM lI} (DT:P9 K mg uM lI) {pD iF} (AD:O2 K mg pD iF) (B:sY mg):aH P w K mg base bp 3 zZ qA ["row","known","some"] (bX P w true C9):=by
 have Xj:aH P w K mg base bp 2 _ _ _ (bX P w true uS):=E1 DT AD;have Th:aH P w K mg base bp 1 _ _ _ (bX P w true wG):=BZ yB B;refine lP Hk.F bH (λds R M3=> by obtain⟨n,ps,kvs,s,e,_⟩ := M3;subst e;rfl) λcF A outer s H E hr=>⟨_,(ag (aJ (i:=3) ah bH.nd)
    (ag (bx Y3 rfl (xD (tP B.enumerate (tR (Bo (i:=2)) xB))) (cy (n:=2) rfl (aM (ak (i:=4) bH.nd) (aM (ak (i:=5) bH.nd) bM))) (ag (aJ (i:=3) (aD aF au (ab (i:=3)) ah) bH.nd)
    (ai (bx Y3 rfl (aW (aK af a9 (ab (i:=0)) ah)) (ak (i:=6) bH.nd) (ai (bG (oU.t (d3 (aE af (bg.m (xK hr.mH)) (ab (i:=6)) (ab (i:=5))) (d3 (oU.t (gL (aE af (bg.m (fh hr.units)) (ab (i:=4)) ah) (hG (aE af (bg.m (xN hr.mH)) (ab (i:=6)) (aK af a9 (ab (i:=2)) (aD af (bg.m cP) (ab (i:=4)) ah)))))) (dj (hV (aA uS.mono Xj (hr.mono (by decide)) DT.m DT.F.kp DT.b (aa (p0 (ab (i:=2)) fA (fz (ab (i:=4)))) (aa (ab (i:=6)) ae)))))))) (ai (aJ (i:=3) (aD aF au (ab (i:=3)) (aA wG.mono Th (hr.mono (by decide)) yB.m yB.F.kp yB.b (aa (ab (i:=0)) (aa (ab (i:=1)) (aa (aD aF au (p0 (ab (i:=2)) fA (fz (ab (i:=4)))) (bw (aa (ab (i:=6)) ae))) ae))))) bH.nd)) aT))))))
    (ai (aN (ab (i:=3)))))),λds R h=>?_⟩
 obtain⟨n,ps,kvs,s,rfl,ok,hn,hs,tb,hv,q⟩:=h;have hp:∀p∈ps,p.1<p.2:=λp hp=>(ok.lt p hp).1;have G1:=qZ ok hv;have Rn:=ok.sm;refine⟨_,rfl,_,rfl,trivial,?_⟩;refine⟨λk β=>k<=s.length/\∃x4 x5 x6,β=[some (.val false (jZ n ps)),some (.val false (dA kvs)),some (.val false (dN s)),some (.val true (.int ((du ps [(0,n)] (s.take k):Nat):Int))),x4,x5,x6],⟨Yz _,_,_,_,rfl⟩,?_,?_⟩
 ·rintro k d β hd ⟨_,x4,x5,x6,rfl⟩;obtain⟨bt,hb,rfl⟩:=k7 hd;rw[Yu]at hb;obtain⟨t,ht,rfl⟩:=Yt.mp hb;have Um:=(Yr.mp ht).1;have UE:s.take (k+1)=s.take k++[t]:=by rw[Zf,ht];rfl
  have CJ:Va ps [(0,n)] (s.take (k+1)):=(c6.mp (by rw[Zm];exact hv:Va ps [(0,n)] (s.take (k+1)++s.drop (k+1)))).1
  rw[UE]at CJ;obtain⟨Rj,ws,ew,XI,u0,WV,_⟩:=c6.mp CJ;refine⟨_,rfl,rfl,_,_,rfl,_,_,rfl,rfl,?_⟩;refine⟨_,rfl,trivial,_,rfl,?_⟩;refine⟨_,rfl,trivial,_,rfl,.inr ⟨_,rfl,trivial,?_⟩⟩;have oR:Ou (dN s) none (some (k:Int))=some (dN (s.take k)):=by
   show some (D.lst (cutD _ _ _))=_;unfold cutD dN;rw[HT.jx,HT.l5,List.drop_zero,abd]
   congr 2
   rw[List.take_eq_take_iff];lia
  refine⟨λm β=>m<=ps.length/\∃x6,β=[some (.val false (jZ n ps)),some (.val false (dA kvs)),some (.val false (dN s)),some (.val true (.int ((du ps [(0,n)] (s.take k)+1+sumF (ps.take m) (λo=>eJ o t&&fits ws o) (below ps ws):Nat):Int))),some (.val true (.int (k:Int))),some (.val false (kD (tI t))),x6],⟨Yz _,_,rfl⟩,?_,?_⟩
  ·rintro m d β hd ⟨_,y6,rfl⟩;rw[Yu]at hd;obtain⟨o,ho,rfl⟩:=Yt.mp hd;have G5:=(Yr.mp ho).1;have NW:=YW ho;have K7:=FR ok Rj ew NW;have UD:ps.take (m+1)=ps.take m++[o]:=by rw[Zf,ho];rfl
   have Pf:(eJ o t&&fits ws o)=false->sumF (ps.take (m+1)) (λo=>eJ o t&&fits ws o) (below ps ws)=sumF (ps.take m) (λo=>eJ o t&&fits ws o) (below ps ws):=λh=>by
    rw[UD,jo,aR,if_neg (by rw[h];decide)]
    rfl
   have TU:(eJ o t&&fits ws o)=true->∀{u},wb ws o=some u->((du ps [(0,n)] (s.take k)+1+sumF (ps.take m) (λo=>eJ o t&&fits ws o) (below ps ws):Nat):Int)+((aL ps u:Nat):Int)=((du ps [(0,n)] (s.take k)+1+sumF (ps.take (m+1)) (λo=>eJ o t&&fits ws o) (below ps ws):Nat):Int):=λh u e=>by
    have eb:below ps ws o=aL ps u:=by show aL ps ((wb ws o).getD [])=_;rw[e];rfl
    rw[UD,jo,aR,if_pos h,eb];have:sumF [] (λo=>eJ o t&&fits ws o) (below ps ws)=0:=rfl;lia
   have V4:(s.take k).length<=40:=by rw[YQ];lia
   have et:wU (dN (s.take k)) (.lst [kD (tI o)])=some (dN (s.take k++[o])):=rd (by lia)
   refine⟨_,rfl,trivial,_,rfl,_,yy _ _,_,rfl,?_⟩;cases qa:eJ o t with
   |false=>exact f9 qa (f9 rfl ⟨G5,_,by rw[Pf (by rw[qa];rfl)];rfl⟩)
   |true =>
    refine j4 qa ⟨_,rfl,trivial,_,cT _ _,_,rfl,lR (λuz=>j4 rfl ?_) λuz=>?_⟩
    ·have uz:k=0:=by lia
     have Oa:cA (s.take k) o=true:=by rw[uz];rfl
     refine⟨_,rfl,_,rfl,_,rfl,_,oR,.inl ⟨cQ,trivial,_,rfl,trivial,(s.take k).map tI,tI o,by rw[Y8];rfl,λu hu=>by obtain⟨x,_,rfl⟩:=YK.mp hu;exact⟨_,_,rfl⟩,⟨_,_,rfl⟩,_,rfl,?_⟩⟩
     cases qc:cB (s.take k) o with
     |false=>exact f9 qc ⟨G5,_,by rw[Pf (by rw[<- K7,qc,Z3,Z3])];rfl⟩
     |true =>
      have G7:fits ws o=true:=by rw[<- K7,Oa,qc];rfl
      obtain⟨u,eu⟩:=gb G7;have Rl:Va ps [(0,n)] (s.take k++[o]):=c6.mpr ⟨Rj,ws,ew,NW,u,eu,trivial⟩;refine j4 qc ⟨_,rfl,trivial,_,rfl,trivial,_,rfl,trivial,_,rfl,_,rfl,_,rfl,_,oR,.inl ⟨cQ,trivial,_,rfl,trivial,sQ,.inl ⟨⟨rfl,trivial⟩,_,et,.inl ⟨cQ,trivial,n,ps,kvs,s.take k++[o],rfl,ok,hn,tb,Rl,λl hl=>?_⟩⟩⟩⟩;have el:l=u:=by
       rw[j8,ew,ZJ]at hl
       change (wb ws o).bind _=_ at hl
       rw[eu]at hl;exact(YU hl).symm
      subst el;exact⟨_,rfl,G5,_,by rw[<- TU (by rw[qa,G7];rfl) eu];rfl⟩
    ·have K5:k≠0:=by lia
     obtain⟨z,hz⟩:∃z,s[k-1]?=some z:=⟨_,Yj (by lia)⟩
     have Oa:cA (s.take k) o=eJ z o:=by
      unfold cA;have:(s.take k).getLast?=some z:=by
       rw[List.getLast?_eq_getElem?,YQ,Nat.min_eq_left (by lia),List.getElem?_take,if_pos (by lia)]
       exact hz
      rw[this]
     refine⟨_,rfl,trivial,_,rfl,trivial,_,rfl,trivial,_,rfl,_,ur (d:=kD (tI z)) (i:=k-1) (by lia) (by rw[Yu,hz];rfl),_,yA _ _,_,rfl,?_⟩
     cases qb:eJ z o with
     |false=>exact f9 qb (f9 rfl ⟨G5,_,by rw[Pf (by rw[<- K7,Oa,qb,Bool.false_and,Z3])];rfl⟩)
     |true =>
      rw[qb]at Oa;refine j4 qb ?_;refine⟨_,rfl,_,rfl,_,rfl,_,oR,.inl ⟨cQ,trivial,_,rfl,trivial,(s.take k).map tI,tI o,by rw[Y8];rfl,λu hu=>by obtain⟨x,_,rfl⟩:=YK.mp hu;exact⟨_,_,rfl⟩,⟨_,_,rfl⟩,_,rfl,?_⟩⟩
      cases qc:cB (s.take k) o with
      |false=>exact f9 qc ⟨G5,_,by rw[Pf (by rw[<- K7,qc,Z3,Z3])];rfl⟩
      |true =>
       have G7:fits ws o=true:=by rw[<- K7,Oa,qc];rfl
       obtain⟨u,eu⟩:=gb G7;have Rl:Va ps [(0,n)] (s.take k++[o]):=c6.mpr ⟨Rj,ws,ew,NW,u,eu,trivial⟩;refine j4 qc ⟨_,rfl,trivial,_,rfl,trivial,_,rfl,trivial,_,rfl,_,rfl,_,rfl,_,oR,.inl ⟨cQ,trivial,_,rfl,trivial,sQ,.inl ⟨⟨rfl,trivial⟩,_,et,.inl ⟨cQ,trivial,n,ps,kvs,s.take k++[o],rfl,ok,hn,tb,Rl,λl hl=>?_⟩⟩⟩⟩;have el:l=u:=by
        rw[j8,ew,ZJ]at hl
        change (wb ws o).bind _=_ at hl
        rw[eu]at hl;exact(YU hl).symm
       subst el;exact⟨_,rfl,G5,_,by rw[<- TU (by rw[qa,G7];rfl) eu];rfl⟩
  ·rintro β ⟨_,y6,rfl⟩;rw[Ye,ZL];have e1:du ps [(0,n)] (s.take (k+1))=du ps [(0,n)] (s.take k)+1+sumF ps (λo=>eJ o t&&fits ws o) (below ps ws):=by
    rw[UE,fK ew,cK WV,fL];show _+(_+0)=_;lia
   rw[<- e1];exact⟨Um,_,_,_,rfl⟩
 ·rintro β ⟨_,x4,x5,x6,rfl⟩;rw[k6,Ye,ZL];exact⟨_,rfl,trivial,q⟩
end
end lN
namespace L2.Q
open PySem PySem.Spec PySem.SeqAt PyProof.Rows
section
variable {X:Cx}{C:Cfg}{a b:Expr}{φa φb:aV}{p p':Bool}{pos p2:Pos}
def QH (pb:Bool)(φa φb:aV):aV:=λβ R=>φa β λx ka β1=>hold ka pb/\φb β1 λy _ β2=>∃i,y=.int i/\∃d,Ou x none (some i)=some d/\kN NL d ka.wk λk=>R d k β2
theorem IB (ha:PQ X C p a φa)(hb:PQ X C p' b φb):PQ X C (p&&p') (.Subscript a (.Slice none (some b) none p2) pos) (QH p' φa φb) :=
 ⟨λβ R R' k h=>ha.mono β _ _ (λx ka β1 hx=>⟨hx.1,hb.mono β1 _ _ (λy kb β2 z=>by obtain⟨i,e1,d,e,q⟩:=z;exact⟨i,e1,d,e,q.mono λ_ z=>k _ _ _ z⟩) hx.2⟩) h,
  (ng xr ha.pe rP (rO hb.pe)).pre λσ H Q ⟨β,own,s,h⟩=>tQ.of ha s h λd1 k1 β1 v1 H1 aG ⟨hh,h1⟩ o1 r1=>tQ.of hb o1.sq h1 λd2 k2 β2 v2 H2 a5 z o2 r2=>by
  obtain⟨i,e1,d,e,q⟩:=z;subst e1;cases r2.rep;have KU:=r1.ho o2 hh;refine⟨i,rfl,av C (Wn a5) k1.wk,d1,d,o2.sq.Di _,aB.aY DC KU.rep,e,λv H' s4 r4 n4=>?_⟩;have o:=(o1.trans o2).same s4;obtain⟨k',q,r⟩:=KV.kN (Z:=(H,Wn own)) Gw r4 (λn=>jD (H:=H2) o2.sq.wK o2.sq.i8 (λa z=>o2.sn.d a (o1.sn.d a z)) n (n4 n)) q;exact q v H' a5 o r⟩
end
end L2.Q
namespace lN
open PySem L2 L2.Q
section
variable {P:Yk}{w:YB}{K:PySem.W.Frag}{mg:Str->Option Yc}{base:Heap}
theorem bf:aI ["deck","row","known","number","some","later","cut","many","first"] ["deck","row","known","number"] (ar cw):=⟨rfl,rfl,rfl,by decide +kernel,rfl,by decide +kernel,by decide +kernel⟩
def uR:FD:=λds R=>∃(n:Nat) (ps:List (Nat×Nat)) (kvs:List (List Int×D)) (k:Nat),ds=[jZ n ps,dA kvs,.int (k:Int)]/\lj n ps/\n<=40/\Am ps/\Tb (sK ps) kvs n 0 (n+1)/\k<sa ps n 0/\R (.bl true)
theorem uR.mono:cW uR:=λds R R' l ⟨n,ps,kvs,k,e,h1,h2,h3,h4,h5,q⟩=>⟨n,ps,kvs,k,e,h1,h2,h3,h4,h5,l _ q⟩
theorem EZ {FV yi} (Lg:US K mg FV yi) {zV qu} (yv:To K mg zV qu) {zX qw} (Hh:Tj K mg zX qw) {zY qz} (Hj:Tp K mg zY qz) {zW qv} (yw:Tn K mg zW qv) {lT gu} (oT:Ln K mg lT gu) {yn jQ} (dE:KQ K mg yn jQ) {vw ik} (dO:Hz K mg vw ik) {sU gy} (dF:Gu K mg sU gy) {qE fG} (dS:DW K mg qE fG) {qD fF} (dX:D9 K mg qD fF) {jR fc} (j5:D7 K mg jR fc) {iq dI} (pG:D3 K mg iq dI) {ip dG} (pF:D2 K mg ip dG) {il dD} (pE:D6 K mg il dD) {fo ck} (gB:D5 K mg fo ck) {gA cZ} (oC:D4 K mg gA cZ) {pC iE} (sH:O3 K mg pC iE) {pB iD} (sG:O4 K mg pB iD) {gz cY} (gC:Gs K mg gz cY) {zZ qA} (Hk:Ti K mg zZ qA) {uN lJ} (yB:P8 K mg uN lJ) {uM lI} (DT:P9 K mg uM lI) {pD iF} (AD:O2 K mg pD iF) {Ol C5} (dT:D1 K mg Ol C5) (B:sY mg):aH P w K mg base bp 7 FV yi ["deck","row","known","number"] (o3 P w vq true uR):=by
 have GT:aH P w K mg base bp 1 _ _ _ (o3 P w vq true b7):=rY dT.F;have Tf:aH P w K mg base bp 6 _ _ _ (bX P w true (kZ La)):=IZ yv oT dE dO dF dS dX j5 pG pF pE gB oC sH gC B;have Xh:aH P w K mg base bp 6 _ _ _ (bX P w true (kZ Kj)):=I_ Hh oT dE dO dF dS dX sH sG gC B;have Xi:aH P w K mg base bp 6 _ _ _ (bX P w true (kZ Of)):=Jb Hj oT dE dO dF dS dX j5 pG pF pE gB oC sG gC B;have OZ:aH P w K mg base bp 4 _ _ _ (bX P w true iZ):=zw yw j5 pG pF pE gB oC gC B;have Th:aH P w K mg base bp 1 _ _ _ (bX P w true wG):=BZ yB B;have Xn:aH P w K mg base bp 3 _ _ _ (bX P w true C9):=Jd Hk yB DT AD B;refine Ma Lg.F bf (λds R M1=> by obtain⟨n,ps,kvs,k,e,_⟩ := M1;subst e;rfl) λcF A outer s H E IO hr=>⟨_,(ag (aJ (i:=4) (aA iZ.mono OZ (hr.mono (by decide)) yw.m yw.F.kp yw.b (aa (ab (i:=1)) (aa (ab (i:=3)) ae))) bf.nd)
    (ag (bG (oU.t (gL (aE af (bg.m (iS hr.units)) (aA kZ.mono Tf (hr.mono (by decide)) yv.m yv.F.kp yv.b (aa (ab (i:=1)) (aa (ab (i:=4)) ae))) (ab (i:=3))) (hG (aE af (bg.m (iS hr.units)) (aA C9.mono Xn (hr.mono (by decide)) Hk.m Hk.F.kp Hk.b (aa (ab (i:=1)) (aa (ab (i:=2)) (aa (ab (i:=4)) ae)))) (ab (i:=3)))))) (ai (aN lB)) aT)
    (ag (aJ (i:=5) (aA kZ.mono Xh (hr.mono (by decide)) Hh.m Hh.F.kp Hh.b (aa (ab (i:=1)) (aa (ab (i:=4)) ae))) bf.nd)
    (ag (bG (aE af (bg.m (fh hr.units)) (aD aF au (ab (i:=3)) ah) (aK af (lF hr.cJ) (ab (i:=2)) (aZ (aa ah (aa (aK af a9 (ab (i:=1)) ah) ae))))) (ai (aN (iR af (bg.m l_) (ab (i:=5)) dw))) aT)
    (ag (bG (oU.t (gL (aE af (bg.m l_) (ab (i:=5)) dw) (gL (fS (aE af (bg.m (ES hr.Ef)) (ab (i:=4)) (ab (i:=5)))) (hG (aE af (bg.m (iS hr.units)) (aA kZ.mono Tf (hr.mono (by decide)) yv.m yv.F.kp yv.b (aa (ab (i:=1)) (aa (ab (i:=5)) ae))) (aD aF au (ab (i:=3)) ah)))))) (ai (aN lB)) aT)
    (ag (aJ (i:=6) (IB (ab (i:=4)) (bo (ih:=0) b7.mono GT (hr.mono (by decide)) dT.m dT.F.kp dT.b (aa (aD aF au (bT af (c5.m ib) B.len oJ (aa (ab (i:=4)) ae)) ah) ae))) bf.nd)
    (ag (aJ (i:=7) (aA kZ.mono Xi (hr.mono (by decide)) Hj.m Hj.F.kp Hj.b (aa (ab (i:=1)) (aa (ab (i:=6)) ae))) bf.nd)
    (ag (aJ (i:=8) (aA kZ.mono Tf (hr.mono (by decide)) yv.m yv.F.kp yv.b (aa (ab (i:=1)) (aa (ab (i:=6)) ae))) bf.nd)
    (ag (bG (oU.t (gL (aE af (bg.m (iS hr.units)) (ab (i:=7)) (aA wG.mono Th (hr.mono (by decide)) yB.m yB.F.kp yB.b (aa (ab (i:=1)) (aa (ab (i:=2)) (aa (ab (i:=6)) ae))))) (hG (fS (pZ (ab (i:=8)) (cf rV (ab (i:=3)) (hX bK (aD aF au (ab (i:=8)) (ab (i:=7)))))))))) (ai (aN lB)) aT)
    (ag (bG (aE af (bg.m (iS hr.units)) (p0 (aA iZ.mono OZ (hr.mono (by decide)) yw.m yw.F.kp yw.b (aa (ab (i:=1)) (aa (aD af (bg.m cP) (aD aF au (ab (i:=8)) (ab (i:=7))) ah) ae))) fA (fz (bT af (c5.m ib) B.len oJ (aa (ab (i:=6)) ae)))) (ab (i:=6))) (ai (aN lB)) aT)
    (ai (aN (xE (iR af (bg.m (fh hr.units)) (aD aF au (ab (i:=8)) (ab (i:=7))) (aK af (lF hr.cJ) (ab (i:=2)) (aZ (aa ah (aa (aK af a9 (ab (i:=1)) ah) ae))))) (rN (iR af (bg.m (iS hr.units)) (p0 (aA iZ.mono OZ (hr.mono (by decide)) yw.m yw.F.kp yw.b (aa (ab (i:=1)) (aa (aD aF au (ab (i:=8)) (ab (i:=7))) ae))) fA (fz (bT af (c5.m ib) B.len oJ (aa (ab (i:=6)) ae)))) (ab (i:=6))))))))))))))))),λds R h=>?_⟩
 obtain⟨n,ps,kvs,k,rfl,ok,hn,hs,tb,hk,q⟩:=h;have hp:∀p∈ps,p.1<p.2:=λp h=>(ok.lt p h).1;obtain⟨hv,Pq⟩:=gH hp hs hk;have G1:=qZ ok hv;have RV:=E6 ok hs hk;have JI:eR ps (sat ps n k):=hv.set ok;have kn:qJ (dA kvs) (.tup [.int 0,.int (n:Int)])=some (.int ((sa ps n 0:Nat):Int)):=by
  have e0:sK ps 0 n=((sa ps n 0:Nat):Int):=by unfold sK;rw[Nat.sub_zero]
  rw[<- e0];exact iV (i:=0) (j:=n) rfl rfl (tb.ge 0 n (by lia) (by lia) (.inr ⟨rfl,by lia⟩))
 have num:∀(s:List (Nat×Nat)) (m:Nat),Va ps [(0,n)] s->du ps [(0,n)] s=m->La ps n s=.int (m:Int):=λs m _ e=>by unfold La;rw[e]
 have L1:∀s:List (Nat×Nat),Pairs (s.map tI):=λs u hu=>by
  obtain⟨p,_,rfl⟩:=YK.mp hu;exact⟨_,_,rfl⟩
 refine⟨_,rfl,trivial,_,rfl,trivial,n,ps,k,rfl,ok,hn,λz=>z ⟨by lia,by show (k:Int)<((sa ps n 0:Nat):Int);lia⟩,λ_ _=>?_⟩
 generalize es:sat ps n (k:Int)=s at hv Pq G1 RV JI ⊢
 have N3:(s.map tI).length<=1000:=by rw[Ye];lia
 refine⟨_,rfl,trivial,_,rfl,trivial,n,ps,s.map tI,by rw[dM],ok,hn,N3,L1 s,λz=>z (JI.gd ok),λ_ ns en _=>?_⟩
 cases eS en;rw[num s k hv Pq];refine⟨trivial,_,rfl,_,jV (bN _),_,rfl,f9 rfl ?_⟩;refine⟨_,rfl,trivial,_,rfl,trivial,_,rfl,trivial,n,ps,kvs,s,rfl,ok,hn,hs,tb,hv,?_⟩;rw[Pq];refine⟨trivial,_,rfl,_,jV (bN _),_,rfl,f9 rfl ?_⟩;refine⟨_,rfl,trivial,_,rfl,trivial,n,ps,s.map tI,by rw[dM],ok,hn,N3,L1 s,λz=>z (JI.gd ok),λ_ ns en _=>?_⟩
 cases eS en
 by_cases dt:k+1<sa ps n 0
 ·have Sj:Kj ps n s=dN (sat ps n ((k+1:Nat):Int)):=by unfold Kj;rw[RV,if_pos dt]
  rw[Sj];refine⟨_,rfl,trivial,_,rfl,trivial,_,rfl,trivial,trivial,_,rfl,trivial,_,rfl,trivial,gY,_,kn,_,cT _ _,_,rfl,f9 (decide_eq_false (by lia)) ?_⟩
  obtain⟨MQ,Uc⟩:=gH hp hs dt;have V3:=qZ ok MQ;have Ud:eR ps (sat ps n ((k+1:Nat):Int)):=MQ.set ok;generalize sat ps n ((k+1:Nat):Int)=u at MQ Uc V3 Ud ⊢
  have nz:∀w:List (Nat×Nat),∀t∈w.map tI,t≠[]:=λw t ht=>by
   obtain⟨p,_,rfl⟩:=YK.mp ht;exact λz=>nomatch z
  have Wq:Kt (dN s) (dN u)=some (.bl true):=by
   rw[dM,dM,F3 (nz s) (nz u),Fh hp ok.nd eN hv MQ (by lia)]
  refine⟨_,rfl,trivial,_,rfl,_,rfl,f9 rfl ?_⟩;refine⟨_,rfl,trivial,_,rfl,_,Wq,_,rfl,f9 rfl ?_⟩;refine⟨_,rfl,trivial,_,rfl,trivial,n,ps,u.map tI,by rw[dM],ok,hn,by rw[Ye];lia,L1 u,λz=>z (Ud.gd ok),λ_ ns en _=>?_⟩
  cases eS en;rw[num u (k+1) MQ Uc];refine⟨trivial,_,rfl,trivial,_,rfl,_,F1 _ _,_,rfl,f9 (by rw[decide_eq_true (by lia)];rfl) ?_⟩
  refine⟨_,rfl,trivial,rfl,_,rfl,trivial,_,rfl,trivial,_,rfl,trivial,rfl,trivial,(s.length:Int)+1,by rw[Ye],by lia,by lia,λr r0 r1=>?_⟩
  obtain⟨r,rfl⟩:=abQ r0;have Qt:∀(w:List (Nat×Nat)) (j:Nat),Ou (dN w) none (some (j:Int))=some (dN (w.take j)):=λw j=>by
   show some (D.lst (cutD _ _ _))=_;unfold cutD dN;rw[HT.jx,HT.l5,List.drop_zero,abd]
   congr 2
   rw[List.take_eq_take_iff];lia
  refine⟨_,rfl,_,Qt s r,.inl ⟨cQ,?_⟩⟩;obtain⟨JE,l,Kn,V2⟩:=c6.mp (by rw[Zm];exact hv:Va ps [(0,n)] (s.take r++s.drop r))
  have JH:du ps [(0,n)] (s.take r)+du ps l (s.drop r)=k:=by rw[<- fK Kn,Zm];exact Pq
  have N2:=pO hp eN JE Kn;have V6:=mR hp ok.nd N2 V2;have Pr:=rl hp ok.nd eN JE Kn;rw[d6]at Pr;have Ro:eR ps (s.take r):=JE.set ok;have Az:(s.take r).length<=40:=by rw[YQ];lia
  generalize s.take r=c at JE Kn JH Pr Ro Az ⊢
  have Pt:∀{m:Nat},m<sa ps n 0->((sat ps n m).take c.length=c↔du ps [(0,n)] c<=m/\m<du ps [(0,n)] c+aL ps l):=λhm=>ED ok hs JE Kn hm;have Wv:Of ps n c=.int ((aL ps l:Nat):Int):=by unfold Of;rw[Kn];rfl
  have Uu:(c.map tI).length<=1000:=by rw[Ye];lia
  refine⟨_,rfl,trivial,_,rfl,trivial,n,ps,c.map tI,by rw[dM],ok,hn,Uu,L1 c,λz=>z (Ro.gd ok),λ_ ns en _=>?_⟩
  cases eS en;rw[Wv];refine⟨_,rfl,trivial,_,rfl,trivial,n,ps,c.map tI,by rw[dM],ok,hn,Uu,L1 c,λz=>z (Ro.gd ok),λ_ ns en _=>?_⟩
  cases eS en;rw[num c _ JE rfl];refine⟨_,rfl,trivial,_,rfl,trivial,_,rfl,trivial,_,rfl,trivial,n,ps,kvs,c,rfl,ok,hn,tb,JE,λl' e'=>?_⟩;rw[Kn]at e';cases e';refine⟨_,jV (bN _),_,rfl,f9 rfl ?_⟩;generalize hF:du ps [(0,n)] c=f at JH Pr Pt ⊢
  generalize hP:aL ps l=g at V6 Pr Pt ⊢
  refine⟨_,rfl,_,rfl,_,rfl,j4 (decide_eq_true (by lia)) ⟨_,rfl,trivial,_,rfl,_,rfl,_,rfl,_,rfl,f9 (by show (!decide ((k:Int)<(f:Int)+g))=false;rw[decide_eq_true (by lia)];rfl) ?_⟩⟩
  have e1:(f:Int)+(g:Int)-1=((f+g-1:Nat):Int):=by lia
  have h1:f+g-1<sa ps n 0:=by lia
  have T8:Oz [dN c]=some (.int (c.length:Int)):=by
   show some (D.int (((c.map _).length:Nat):Int))=_;rw[Ye]
  refine⟨_,rfl,trivial,_,rfl,trivial,_,rfl,_,rfl,trivial,_,rfl,trivial,n,ps,_,rfl,ok,hn,λz=>z ⟨by lia,by show (f:Int)+g-1<((sa ps n 0:Nat):Int);lia⟩,λ_ _=>?_⟩
  rw[e1];have t1:=(Pt h1).mpr ⟨by lia,by lia⟩
  refine⟨_,rfl,trivial,_,T8,_,rfl,_,Qt _ _,.inl ⟨cQ,?_⟩⟩;rw[t1];refine⟨trivial,_,rfl,_,yx _ _,_,rfl,f9 (by rw[decide_eq_true rfl];rfl) ?_⟩
  by_cases hz:f+g=sa ps n 0
  ·exact⟨_,rfl,trivial,_,rfl,_,rfl,trivial,_,rfl,trivial,trivial,_,rfl,trivial,_,rfl,trivial,gY,_,kn,_,cT _ _,_,rfl,j4 (decide_eq_true (by lia)) ⟨trivial,rfl,q⟩⟩
  ·refine⟨_,rfl,trivial,_,rfl,_,rfl,trivial,_,rfl,trivial,trivial,_,rfl,trivial,_,rfl,trivial,gY,_,kn,_,cT _ _,_,rfl,f9 (decide_eq_false (by lia)) ?_⟩
   have e2:(f:Int)+(g:Int)=((f+g:Nat):Int):=by lia
   have h2:f+g<sa ps n 0:=by lia
   refine⟨_,rfl,trivial,_,rfl,trivial,_,rfl,_,rfl,trivial,n,ps,_,rfl,ok,hn,λz=>z ⟨by lia,by show (f:Int)+g<((sa ps n 0:Nat):Int);lia⟩,λ_ _=>?_⟩
   rw[e2];refine⟨_,rfl,trivial,_,T8,_,rfl,_,Qt _ _,.inl ⟨cQ,trivial,_,rfl,_,yx _ _,trivial,rfl,?_⟩⟩;rw[decide_eq_false (λz=>by have:=(Pt h2).mp z;lia)]
   exact q
 ·have Sj:Kj ps n s=.cX:=by unfold Kj;rw[RV,if_neg dt]
  rw[Sj];refine⟨_,rfl,trivial,_,rfl,trivial,_,rfl,trivial,trivial,_,rfl,trivial,_,rfl,trivial,gY,_,kn,_,cT _ _,_,rfl,j4 (decide_eq_true (by lia)) ?_⟩
  exact⟨_,rfl,trivial,_,rfl,trivial,rfl,q⟩
end
section
variable {P:Yk}{w:YB}{K:PySem.W.Frag}{mg:Str->Option Yc}{base:Heap}
theorem mU:aI ["script","k"] ["script","k"] (ar dc):=⟨rfl,rfl,rfl,by decide +kernel,rfl,by decide +kernel,by decide +kernel⟩
def A5 (K:PySem.W.Frag):Sp:=λvs H Q _=>∃(a:Addr) (ns:List Int),vs=[.ref a,.int 0]/\dh K H a (ns.map V.int)/\∀c:Int,Q (.int c) H
theorem E4 {FX ym} (Lj:UR K mg FX ym) (B:Bs mg):aH P w K mg base bp 1 FX ym ["script","k"] (A5 K):=by
 refine Lj.F.ok mU (λvs H Q E h=>?_) (λcF A outer s H vs Qk E hr h=>?_)
 ·obtain⟨a,ns,rfl,_⟩:=h;rfl
 ·obtain⟨a,ns,rfl,hS,k⟩:=h;refine⟨_,b_ (Bx (rH BP (pv 1) (gM gf (by rfl) B.len oJ (br (pv 0) dy)) (B6 _)) (fR (gK (iB df (pv 0) (pv 1) (λ_ _=>rfl)))) rJ) (fR (gK aU)),?_⟩
  refine⟨_,rfl,_,rfl,a,_,rfl,.inl hS,0,_,rfl,rfl,_,rfl,?_⟩;dsimp only
  split
  ·rename_i hl
   cases ns with
   |nil=>exact absurd hl (by decide)
   |cons n ns=>exact⟨_,rfl,_,rfl,a,_,0,.int n,rfl,rfl,hS,(by unfold pJ;rw[show zN (List.map V.int (n::ns)).length 0=some 0 by unfold zN;rw[if_pos (by decide),if_pos (by rw[Ye,Yw];lia)];rfl];rfl),k n⟩
  ·exact k 0
theorem fM:aI ["script","cell","deck","row","known","whole","far","number"] ["script"] (ar mW):=⟨rfl,rfl,rfl,by decide +kernel,rfl,by decide +kernel,by decide +kernel⟩
def A4 (K:PySem.W.Frag):Sp:=λvs H Q _=>∃(a:Addr) (ns:List Int),vs=[.ref a]/\dh K H a (ns.map V.int)/\ns.length<=63/\∀H',Q (.bl true) H'
def JL (β:Q.a8):Prop:=∃y0 y1 y2 y3 y4 y5 y6 y7:Option Q.B,β=[y0,y1,y2,y3,y4,y5,y6,y7]
theorem Ja {f:Addr} {fd:YY} (F:DV K "law" "law" mW f fd) (B:sY mg) {zV qu} (yv:To K mg zV qu) {zX qw} (Hh:Tj K mg zX qw) {zY qz} (Hj:Tp K mg zY qz) {zW qv} (yw:Tn K mg zW qv) {lT gu} (oT:Ln K mg lT gu) {yn jQ} (dE:KQ K mg yn jQ) {vw ik} (dO:Hz K mg vw ik) {sU gy} (dF:Gu K mg sU gy) {qE fG} (dS:DW K mg qE fG) {qD fF} (dX:D9 K mg qD fF) {jR fc} (j5:D7 K mg jR fc) {iq dI} (pG:D3 K mg iq dI) {ip dG} (pF:D2 K mg ip dG) {il dD} (pE:D6 K mg il dD) {fo ck} (gB:D5 K mg fo ck) {gA cZ} (oC:D4 K mg gA cZ) {pC iE} (sH:O3 K mg pC iE) {pB iD} (sG:O4 K mg pB iD) {gz cY} (gC:Gs K mg gz cY) {zZ qA} (Hk:Ti K mg zZ qA) {uN lJ} (yB:P8 K mg uN lJ) {uM lI} (DT:P9 K mg uM lI) {pD iF} (AD:O2 K mg pD iF) {Ol C5} (dT:D1 K mg Ol C5) {FV yi} (Lg:US K mg FV yi) {FW yj} (Li:D8 K mg FW yj) {FU yh} (Lf:UT K mg FU yh) {FX ym} (Lj:UR K mg FX ym) {WR SJ} (dH:Xr K mg WR SJ) {PL FT} (dR:D0 K mg PL FT) {SM Oj} (X2:Xq K mg SM Oj) {SK Oi} (X1:Xp K mg SK Oi):aH P w K mg base bp 45 f fd ["script"] (A4 K):=by
 have Xm:aH P w K mg base bp 1 _ _ _ (A5 K):=E4 Lj B.toBs;have GH:aH P w K mg base bp 1 _ _ _ (bX P w true C8):=E2 dH.F B.toBs;have GT:aH P w K mg base bp 1 _ _ _ (o3 P w vq true b7):=rY dT.F;have GR:aH P w K mg base bp 3 _ _ _ (o3 P w vq true uP):=I9 dR dT B.toBs;have Xd:aH P w K mg base bp 1 _ _ _ (bX P w true C6):=IY Lf B;have Xk:aH P w K mg base bp 4 _ _ _ (bX P w true jT):=E3 Li j5 pG pF pE gB oC B;have Xg:aH P w K mg base bp 7 _ _ _ (o3 P w vq true uR):=EZ Lg yv Hh Hj yw oT dE dO dF dS dX j5 pG pF pE gB oC sH sG gC Hk yB DT AD dT B;refine F.ok fM (λvs H Q E h=>?_) (λcF A outer s H vs Qk E hr h=>?_)
 ·obtain⟨a,ns,rfl,_⟩:=h;rfl
 ·obtain⟨a,ns,rfl,hS,hlen,k⟩:=h;have Sa:∀b:Addr,¬ (λ_=>False) b:=λb z=>z;obtain⟨ψ,hb,hψ⟩:∃ψ,Q.yJ (pH bp P w K mg base _ "law" (ar mW) f cF A outer s H E).GK ⟨H,λ_=>False,true,λ_=>False⟩ (match (fe mW)with | .For _ _ b _ _::_=>b|_=>[]) ψ /\
    ∀(c:Int) (x0 x2 x3 x4 x5 x6 x7:Option Q.B),ψ {nx:=JL,rt:=λd _=>d=.bl true,bk:=JL,ct:=JL} [x0,some (.val true (.int c)),x2,x3,x4,x5,x6,x7]:=by
   refine⟨_,(ag (EJ (i:=2) vq Sa (λ_=>(aA C8.mono GH (hr.mono (by decide)) dH.m dH.F.kp dH.b (aa (ab (i:=1)) ae))) fM.nd)
    (ag (aJ (i:=3) (bo (ih:=2) uP.mono GR (hr.mono (by decide)) dR.m dR.F.kp dR.b (aa ah ae)) fM.nd)
    (ag (aJ (i:=4) (aA C6.mono Xd (hr.mono (by decide)) Lf.m Lf.F.kp Lf.b (aa (ab (i:=3)) ae)) fM.nd)
    (ag (aJ (i:=5) (aK af (lF hr.cJ) (ab (i:=4)) (aZ (aa ah (aa (aK af a9 (ab (i:=3)) ah) ae)))) fM.nd)
    (ag (bG (aE af (bg.m (iS hr.units)) (aA jT.mono Xk (hr.mono (by decide)) Li.m Li.F.kp Li.b (aa (ab (i:=3)) ae)) (ab (i:=5))) (ai (aN lB)) aT)
    (ag (aJ (i:=6) (aD af (bg.m l9) (aD aF au (aD af (bg.m jF) (bo (ih:=2) b7.mono GT (hr.mono (by decide)) dT.m dT.F.kp dT.b (aa ah ae)) ah) (bo (ih:=2) b7.mono GT (hr.mono (by decide)) dT.m dT.F.kp dT.b (aa ah ae))) (ab (i:=5))) fM.nd)
    (ag (aJ (i:=6) (aD af (bg.m l9) (aD af (bg.m jF) (aD af (bg.m jF) (ab (i:=6)) (aD aF au ah (bo (ih:=2) b7.mono GT (hr.mono (by decide)) dT.m dT.F.kp dT.b (aa ah ae)))) (aD aF au ah (bo (ih:=2) b7.mono GT (hr.mono (by decide)) dT.m dT.F.kp dT.b (aa ah ae)))) (ab (i:=5))) fM.nd)
    (ai (bx Y3 rfl (aW (BC rfl (bw (aa ah (aa (aD af (bg.m cP) (ab (i:=5)) ah) (aa (ab (i:=6)) (aa (aD af (bg.m l9) (aD aF au (ab (i:=6)) ah) (ab (i:=5))) (aa (aD af (bg.m EU) (ab (i:=5)) ah) ae)))))) B.sorted B.set)) (ak (i:=7) fM.nd) (ai (bG (fS (hV (bo (ih:=2) uR.mono Xg (hr.mono (by decide)) Lg.m Lg.F.kp Lg.b (aa (ab (i:=3)) (aa (ab (i:=4)) (aa (ab (i:=7)) ae)))))) (ai (aN lB)) aT))))))))))),λcc x0 x2 x3 x4 x5 x6 x7=>?_⟩
   refine⟨_,rfl,trivial,cc,rfl,λns hk=>⟨trivial,(by show 2<8;decide),ns,rfl,hk,?_⟩⟩
   refine⟨rfl,trivial,rfl,trivial,40,rfl,by decide,by decide,λn ts n0 n1 dr=>?_⟩
   obtain⟨hl,tr,sr,nd⟩:=dr;obtain⟨m,ps,ok,en,WW,er⟩:=Ex n0 (by lia) (by lia) tr nd
   rw[er];have hm:m<=40:=by lia
   have hs:Am ps:=Ia (by rw[<- WW];exact sr) ok.nd
   refine⟨_,rfl,trivial,m,ps,rfl,ok,hm,λkvs tb=>?_⟩;have kn:qJ (dA kvs) (.tup [.int 0,.int (m:Int)])=some (.int ((sa ps m 0:Nat):Int)):=by
    have e0:sK ps 0 m=((sa ps m 0:Nat):Int):=by unfold sK;rw[Nat.sub_zero]
    rw[<- e0];exact iV (i:=0) (j:=m) rfl rfl (tb.ge 0 m (by lia) (by lia) (.inr ⟨rfl,by lia⟩))
   have hw:1<=sa ps m 0:=vQ ps m 0;have hN:sa ps m 0<2 ^ 180:=by
    have h1:=tK (λp h=>(ok.lt p h).1) ok.nd m 0;have h2:=fH (show m+1<=41 by lia)
    have h3:oQ 41<2 ^ 180:=by decide
    lia
   generalize hW:sa ps m 0=W at kn hw hN;have md:∀x:Int,F2 (.int x) (.int (W:Int))=some (.int (x % (W:Int))):=λx=>by
    show (if 0<(W:Int) then _ else none)=_
    rw[if_pos (by lia)]
   have QW:∀x:Int,∃y:Nat,x % (W:Int)=(y:Int)/\y<W:=λx=>by
    obtain⟨y,hy⟩:=abQ (Int.emod_nonneg x (show (W:Int)≠0 by lia))
    have:=Int.emod_lt_of_pos x (show 0<(W:Int) by lia)
    exact⟨y,hy,by lia⟩
   have sw:sT ps m 0=(W:Int):=by show ((sa ps m 0:Nat):Int)=_;rw[hW]
   refine⟨_,rfl,trivial,trivial,_,rfl,trivial,_,rfl,trivial,gY,_,kn,?_⟩;refine⟨_,rfl,trivial,m,ps,rfl,ok,hm,?_⟩;rw[sw];refine⟨trivial,_,rfl,_,jV (bN _),_,rfl,f9 rfl ?_⟩;refine⟨rfl,trivial,rfl,trivial,65536,rfl,by decide,by decide,λa1 X_ X9=>?_⟩
   refine⟨trivial,_,mw ⟨by lia,by decide⟩,trivial,rfl,trivial,rfl,trivial,65536,rfl,by decide,by decide,λa2 X8 X7=>?_⟩
   refine⟨_,rfl,trivial,_,rfl,_,md _,?_⟩;obtain⟨y1,e1,XF⟩:=QW (a1*65536+a2);rw[e1];refine⟨_,rfl,trivial,trivial,rfl,trivial,rfl,trivial,65536,rfl,by decide,by decide,λa3 W9 X6=>?_⟩
   refine⟨_,rfl,_,mw ⟨by lia,by lia⟩,trivial,trivial,rfl,trivial,rfl,trivial,65536,rfl,by decide,by decide,λa4 X5 X4=>?_⟩
   obtain⟨b3,rfl⟩:=abQ W9;have VX:((y1:Int)*(1+(b3:Int))).natAbs<2 ^ 200:=by
    have e3:(y1:Int)*(1+(b3:Int))=((y1*(1+b3):Nat):Int):=by rw[Int.natCast_mul,Int.natCast_add];rfl
    rw[e3,Int.natAbs_natCast];exact aaW (aaz (show y1<=2 ^ 180 by lia) (show 1+b3<=2 ^ 16 by lia)) (by decide)
   refine⟨_,rfl,_,mw ⟨VX,by lia⟩,trivial,_,rfl,_,md _,?_⟩
   obtain⟨y2,e2,MN⟩:=QW ((y1:Int)*(1+(b3:Int))*(1+a4));rw[e2];obtain⟨y3,e3,Rc⟩:=QW ((y2:Int)+1);have VJ:F2 (.int ((y2:Int)+1)) (.int (W:Int))=some (.int (y3:Int)):=by rw[md,e3]
   have dv:OD (.int (W:Int)) (.int 2)=some (.int ((W / 2:Nat):Int)):=by
    show (if (0:Int)<2/\(2:Int)<2 ^ 200 then _ else none)=_
    rw[if_pos (by decide)]
    rfl
   refine⟨trivial,_,rfl,trivial,_,rfl,trivial,_,rfl,trivial,_,rfl,trivial,_,rfl,trivial,_,rfl,_,VJ,trivial,_,rfl,trivial,_,dv,trivial,gk (by show 5<=1000;decide),?_⟩
   refine⟨[0,(W:Int)-1,y2,y3,((W / 2:Nat):Int)],rfl,(by show 5<60;decide),λms _ Wh _=>⟨_,rfl,trivial,?_⟩⟩
   have Wj:∀d∈ms.map D.int,∃j:Nat,d=.int (j:Int)/\j<sa ps m 0:=λd hd=>by
    obtain⟨x,hx,rfl⟩:=YK.mp hd;rw[Wh]at hx;simp only[Yi,ZY,or_false]at hx;rw[hW];rcases hx with rfl|rfl|rfl|rfl|rfl
    ·exact⟨0,rfl,by lia⟩
    ·exact⟨W-1,by congr 1;lia,by lia⟩
    ·exact⟨y2,rfl,MN⟩
    ·exact⟨y3,rfl,Rc⟩
    ·exact⟨W / 2,rfl,by lia⟩
   refine⟨λ_ β=>∃x7,β=[x0,some (.val true (.int cc)),some (.hand vq),some (.val true (jZ m ps)),some (.val true (dA kvs)),some (.val true (.int (W:Int))),some (.val true (.int (y2:Int))),x7],⟨_,rfl⟩,?_,?_⟩
   ·rintro i d β hd ⟨z7,rfl⟩;obtain⟨j,rfl,hj⟩:=Wj d (YW hd);exact⟨rfl,_,rfl,trivial,_,rfl,trivial,_,rfl,trivial,rfl,trivial,m,ps,kvs,j,rfl,ok,hm,hs,tb,hj,_,rfl,f9 rfl ⟨_,rfl⟩⟩
   ·rintro β ⟨z7,rfl⟩;exact⟨_,_,_,_,_,_,_,_,rfl⟩
  refine⟨_,b_ (By Y3 rfl (xH (cg BS (ng xq (pv 0) rP (rO aU)) (vY (br (rQ Xm (hr.mono (by decide)) (by rfl) Lj.m Lj.F.kp Lj.b .nil BK (br (pv 0) (br aU dy))) dy)))) (Q.ak (C:=⟨H,λ_=>False,true,λ_=>False⟩) (i:=1) fM.nd).pg hb.ps) (fR (gK BI)),?_⟩
  obtain⟨ms,em,hm⟩:=Aa ns none (some 3);refine⟨_,rfl,_,rfl,a,_,rfl,hS,λp2 Pu=>⟨_,rfl,a,ns,rfl,(ay.new Pu).seq hS,λc0=>⟨(by show 1<=Yy;decide),λp1 K2=>?_⟩⟩⟩
  have VF:p2≠p1:=cE az K2;refine⟨p2,p1,_,_,rfl,rfl,(by rw[aw VF];exact az),az,(by rw[em,Ye,Zv,aap];lia),λl hl=>⟨l,rfl,⟨_,dh.of az⟩,?_⟩⟩
  rw[em];rw[em]at hl;rw[em]at K2;have sm:ay H (upd (upd (upd H p2 (.lst (ms.map V.int))) p1 (.lst [V.int c0])) l (.lst (ms.map V.int++[V.int c0]))):=((ay.new Pu).trans (ay.new K2)).trans (ay.new hl);have lH:(upd (upd (upd H p2 (.lst (ms.map V.int))) p1 (.lst [V.int c0])) l (.lst (ms.map V.int++[V.int c0]))) l=some (.lst ((ms++[c0]).map V.int)):=by rw[YN];exact az
  generalize (upd (upd (upd H p2 (.lst (ms.map V.int))) p1 (.lst [V.int c0])) l (.lst (ms.map V.int++[V.int c0])))=H1 at sm lH ⊢
  generalize (ms++[c0])=cs at lH;let X:Cx:=(pH bp P w K mg base ["script","cell","deck","row","known","whole","far","number"] "law" (ar mW) f cF A outer s H E).GK
  let C:Q.Cfg:=⟨H,λ_=>False,true,λ_=>False⟩
  have it:Ao X (λ_=>False) (P5 K l) (cs.map D.int) H1:=uu lH (λz=>z) (bq cs);have KY:=it (λb=>(λ_=>False) b\/H1 b=none) λb z=>z;have s':Q.cI P w C.z (L2.start ["script","cell","deck","row","known","whole","far","number"] [.ref a]) H1 (YO 8 none) (λ_=>[]):=En (by rfl) sm
  generalize WA:cs.map D.int=ds at KY;have hint:∀d∈ds,∃c:Int,d=.int c:=λd hd=>by
   rw[<- WA]at hd;obtain⟨c,_,rfl⟩:=YK.mp hd;exact⟨c,rfl⟩
  refine⟨λi m σ H'=>i<=ds.length/\m=ds.length-i/\∃β,Q.SB X C (H1,Q.Wn λ_=>[]) σ H' β/\JL β,⟨_,Yz _,rfl,_,⟨_,s',Sn.refl⟩,⟨_,_,_,_,_,_,_,_,rfl⟩⟩,?_⟩;rintro i m σ2 H2 ⟨hi,rfl,β2,⟨a5,s2,n2⟩,⟨y0,y1,y2,y3,y4,y5,y6,y7,rfl⟩⟩;obtain⟨eP,si⟩:=KY i H2 (n2.k.mono λb z=>z.imp (λM0=> by obtain⟨_,q⟩ := M0;exact(nomatch q)) id)
  by_cases dt:i<ds.length
  ·right
   have hd:ds[i]?=some ds[i]:=Yj dt;obtain⟨go,yl⟩:=eP _ hd;obtain⟨c,hc⟩:=hint ds[i] (ZZ dt);refine⟨go,λσ' H'=>∃β,Q.SB X C (H1,Q.Wn λ_=>[]) σ' H' β/\JL β,λσ' H' MZ=> by obtain⟨β',vP,lS⟩ := MZ;exact⟨_,by lia,dt,rfl,β',vP,lS⟩,λx H3 y=>?_⟩
   obtain⟨s3,r3⟩:=yl x H3 y;rw[hc]at r3;refine⟨a5,_,.int c,.own,s2.same s3,aB.flat rfl r3,λσ4 tZ s4 w4 _=>?_⟩;exact⟨(H1,Q.Wn λ_=>[]),{nx:=JL,rt:=λd _=>d=.bl true,bk:=JL,ct:=JL},_,⟨tZ,s4,Q.jr (n2.same s3) w4⟩,hψ c y0 y2 y3 y4 y5 y6 y7,⟨λσ5 H5 β5 za q5=>⟨β5,za,q5⟩,λσ5 H5 β5 d5 v5 za r5 q5=>by
    subst q5;cases (show v5=V.bl true from LP r5)
    exact k _,λσ5 H5 β5 za q5=>k _,λσ5 H5 β5 za q5=>⟨β5,za,q5⟩⟩⟩
  ·left
   have e:i=ds.length:=by lia
   subst e;exact⟨si (Yh _),k _⟩
end
theorem kO {α:Type}{P:List α->Prop}(h:∀a,P [a]):∀us:List α,us.length=1->P us:=λus e=>by
 obtain⟨a,rfl⟩:=List.length_eq_one_iff.mp e;exact h a
theorem f6 {α:Type}{P:List α->Prop}(h:∀a b,P [a,b]):∀us:List α,us.length=2->P us:=λus e=>by
 cases us with
 |nil=>cases e
 |cons a us=>exact kO (P:=λus=>P (a::us)) (h a) us (abj e)
theorem Cp {α:Type}{P:List α->Prop}(h:∀a b c,P [a,b,c]):∀us:List α,us.length=3->P us:=λus e=>by
 cases us with
 |nil=>cases e
 |cons a us=>exact f6 (P:=λus=>P (a::us)) (h a) us (abj e)
theorem MB {α:Type}{P:List α->Prop}(h:∀a b c d,P [a,b,c,d]):∀us:List α,us.length=4->P us:=λus e=>by
 cases us with
 |nil=>cases e
 |cons a us=>exact Cp (P:=λus=>P (a::us)) (h a) us (abj e)
theorem CZ {K:PySem.W.Frag}{x m:Str}{st:Stmt}{t c f:Nat}(l:K.lookup f=some (kF st x m t c))(cd:PySem.W.codeIn K (.ref c) x=true)(k:PySem.W.keepIn K (.ref f)=true):DV K x x st f (Pm st x m t c):=Kl l cd k
theorem bb {K:PySem.W.Frag}{h:Heap}{mg:Str->Option Yc}{x m:Str}{st:Stmt}{t c f:Nat}{ps:List Str}(X:K.In h)(G:h.Ns Z2 mg)(l:K.lookup f=some (kF st x m t c))(cd:PySem.W.codeIn K (.ref c) x=true)(k:PySem.W.keepIn K (.ref f)=true)
  (a:PySem.W.nsIn K Z2 x=some (some (.ref f))) (b:∀us:List Yc,us.length=ps.length->bindArgs (Pm st x m t c) ⟨us,[]⟩=pure (ps.zip us)):Df K mg x st ps f (Pm st x m t c):=⟨CZ l cd k,.all b,PySem.W.mg_of X G a⟩
theorem all_mk {l:PySem.W.OpenLaw} (w:YB) (mg:Str->Option Yc) (fa:Addr) (h:Heap) (X:(KK w.params).In h) (G:h.Ns Z2 mg) (Wz:mg "law" = some (.ref fa))   :∃fd:YY,(∀(s:Yg) (v:Yc),BindsTo s fd ⟨[v],[]⟩ [("script",v)])/\∀base:Heap,(KK w.params).In base->base.Ns Z2 mg->aH l.prog w (KK w.params) mg base bp 45 fa fd ["script"] (A4 (KK w.params)):=by
 have e:=Wz.symm.trans (PySem.W.mg_of X G (v:=.ref 262) (by kernel_rfl))
 cases e;have Mr:=PySem.W.mg_none_of X G (n:="max") (by kernel_rfl)
 have Mq:=PySem.W.mg_none_of X G (n:="min") (by kernel_rfl)
 have Mt:=PySem.W.mg_none_of X G (n:="int") (by kernel_rfl)
 have Ff:=PySem.W.mg_none_of X G (n:="range") (by kernel_rfl)
 have B9:=PySem.W.mg_none_of X G (n:="sorted") (by kernel_rfl)
 have Mp:=PySem.W.mg_none_of X G (n:="set") (by kernel_rfl)
 have Ms:=PySem.W.mg_none_of X G (n:="len") (by kernel_rfl)
 have Ji:=PySem.W.mg_none_of X G (n:="list") (by kernel_rfl)
 have r_:=PySem.W.mg_none_of X G (n:="isinstance") (by kernel_rfl)
 have Fe:=PySem.W.mg_none_of X G (n:="tuple") (by kernel_rfl)
 have Mo:=PySem.W.mg_none_of X G (n:="str") (by kernel_rfl)
 have Jj:=PySem.W.mg_none_of X G (n:="bool") (by kernel_rfl)
 have Mm:=PySem.W.mg_none_of X G (n:="zip") (by kernel_rfl)
 have t_:=PySem.W.mg_none_of X G (n:="enumerate") (by kernel_rfl)
 have Mn:=PySem.W.mg_none_of X G (n:="sum") (by kernel_rfl)
 have B:=(⟨⟨⟨Mr,Mq,Mt,Ff,B9,Mp,Ms,Ji⟩,r_,Fe,Mo,Jj,Mm,t_⟩,Mn⟩:sY mg);exact⟨_,λs v=>.of_eq rfl,λbase _ _=>Ja (CZ (x:="law") (m:="law_archrow_k23_great_sets_by_their_numbers") (st:=mW) (t:=416) (c:=261) (f:=262) (by kernel_rfl) (by kernel_rfl) (by kernel_rfl)) B (bb X G (x:="set_number") (m:="archrow.counted") (st:=dQ) (t:=337) (c:=133) (f:=134) (ps:=["row","ties"]) (by kernel_rfl) (by kernel_rfl) (by kernel_rfl) (by kernel_rfl) (f6 λ_ _=>rfl))
  (bb X G (x:="next_set") (m:="archrow.counted") (st:=fN) (t:=337) (c:=145) (f:=146) (ps:=["row","ties"]) (by kernel_rfl) (by kernel_rfl) (by kernel_rfl) (by kernel_rfl) (f6 λ_ _=>rfl))
  (bb X G (x:="how_many_begin") (m:="archrow.counted") (st:=b4) (t:=337) (c:=152) (f:=153) (ps:=["row","ties"]) (by kernel_rfl) (by kernel_rfl) (by kernel_rfl) (by kernel_rfl) (f6 λ_ _=>rfl))
  (bb X G (x:="set_at") (m:="archrow.counted") (st:=ju) (t:=337) (c:=140) (f:=141) (ps:=["row","number"]) (by kernel_rfl) (by kernel_rfl) (by kernel_rfl) (by kernel_rfl) (f6 λ_ _=>rfl))
  (bb X G (x:="check_set") (m:="archrow.arcs") (st:=eY) (t:=239) (c:=92) (f:=93) (ps:=["row","ties"]) (by kernel_rfl) (by kernel_rfl) (by kernel_rfl) (by kernel_rfl) (f6 λ_ _=>rfl))
  (bb X G (x:="is_set") (m:="archrow.arcs") (st:=jw) (t:=239) (c:=64) (f:=65) (ps:=["row","ties"]) (by kernel_rfl) (by kernel_rfl) (by kernel_rfl) (by kernel_rfl) (f6 λ_ _=>rfl))
  (bb X G (x:="first_fault") (m:="archrow.arcs") (st:=de) (t:=239) (c:=71) (f:=72) (ps:=["row","ties"]) (by kernel_rfl) (by kernel_rfl) (by kernel_rfl) (by kernel_rfl) (f6 λ_ _=>rfl))
  (bb X G (x:="fault_at") (m:="archrow.arcs") (st:=fQ) (t:=239) (c:=78) (f:=79) (ps:=["row","ties","k"]) (by kernel_rfl) (by kernel_rfl) (by kernel_rfl) (by kernel_rfl) (Cp λ_ _ _=>rfl))
  (bb X G (x:="share_a_point") (m:="archrow.arcs") (st:=cv) (t:=239) (c:=85) (f:=86) (ps:=["one","other"]) (by kernel_rfl) (by kernel_rfl) (by kernel_rfl) (by kernel_rfl) (f6 λ_ _=>rfl))
  (bb X G (x:="arcs_cross") (m:="archrow.arcs") (st:=dZ) (t:=239) (c:=57) (f:=58) (ps:=["one","other"]) (by kernel_rfl) (by kernel_rfl) (by kernel_rfl) (by kernel_rfl) (f6 λ_ _=>rfl))
  (bb X G (x:="counts_of") (m:="archrow.counted") (st:=eX) (t:=337) (c:=157) (f:=158) (ps:=["row"]) (by kernel_rfl) (by kernel_rfl) (by kernel_rfl) (by kernel_rfl) (kO λ_=>rfl))
  (bb X G (x:="partners_of") (m:="archrow.stretches") (st:=da) (t:=297) (c:=102) (f:=103) (ps:=["row"]) (by kernel_rfl) (by kernel_rfl) (by kernel_rfl) (by kernel_rfl) (kO λ_=>rfl))
  (bb X G (x:="stretches_rising") (m:="archrow.stretches") (st:=bJ) (t:=297) (c:=97) (f:=98) (ps:=["many"]) (by kernel_rfl) (by kernel_rfl) (by kernel_rfl) (by kernel_rfl) (kO λ_=>rfl))
  (bb X G (x:="ways_by") (m:="archrow.stretches") (st:=g8) (t:=297) (c:=121) (f:=122) (ps:=["counts","choices","i","j"]) (by kernel_rfl) (by kernel_rfl) (by kernel_rfl) (by kernel_rfl) (MB λ_ _ _ _=>rfl))
  (bb X G (x:="ways_in") (m:="archrow.stretches") (st:=g7) (t:=297) (c:=116) (f:=117) (ps:=["counts","parts"]) (by kernel_rfl) (by kernel_rfl) (by kernel_rfl) (by kernel_rfl) (f6 λ_ _=>rfl))
  (bb X G (x:="parts_left") (m:="archrow.stretches") (st:=dU) (t:=297) (c:=109) (f:=110) (ps:=["i","k","j"]) (by kernel_rfl) (by kernel_rfl) (by kernel_rfl) (by kernel_rfl) (Cp λ_ _ _=>rfl))
  (bb X G (x:="ties_next") (m:="archrow.counted") (st:=eU) (t:=337) (c:=176) (f:=177) (ps:=["row","waiting"]) (by kernel_rfl) (by kernel_rfl) (by kernel_rfl) (by kernel_rfl) (f6 λ_ _=>rfl))
  (bb X G (x:="waiting_after") (m:="archrow.counted") (st:=cu) (t:=337) (c:=171) (f:=172) (ps:=["row","ties"]) (by kernel_rfl) (by kernel_rfl) (by kernel_rfl) (by kernel_rfl) (f6 λ_ _=>rfl))
  (bb X G (x:="waiting_behind") (m:="archrow.counted") (st:=bZ) (t:=337) (c:=164) (f:=165) (ps:=["waiting","tie"]) (by kernel_rfl) (by kernel_rfl) (by kernel_rfl) (by kernel_rfl) (f6 λ_ _=>rfl))
  (bb X G (x:="_law_ahead") (m:="law_archrow_k23_great_sets_by_their_numbers") (st:=eW) (t:=416) (c:=247) (f:=248) (ps:=["row","known","some"]) (by kernel_rfl) (by kernel_rfl) (by kernel_rfl) (by kernel_rfl) (Cp λ_ _ _=>rfl))
  (bb X G (x:="_law_behind") (m:="law_archrow_k23_great_sets_by_their_numbers") (st:=dW) (t:=416) (c:=240) (f:=241) (ps:=["row","known","some"]) (by kernel_rfl) (by kernel_rfl) (by kernel_rfl) (by kernel_rfl) (Cp λ_ _ _=>rfl))
  (bb X G (x:="_law_fits") (m:="law_archrow_k23_great_sets_by_their_numbers") (st:=fO) (t:=416) (c:=225) (f:=226) (ps:=["some","tie"]) (by kernel_rfl) (by kernel_rfl) (by kernel_rfl) (by kernel_rfl) (f6 λ_ _=>rfl))
  (bb X G (x:="_law_do_cross") (m:="law_archrow_k23_great_sets_by_their_numbers") (st:=cM) (t:=416) (c:=218) (f:=219) (ps:=["one","other"]) (by kernel_rfl) (by kernel_rfl) (by kernel_rfl) (by kernel_rfl) (f6 λ_ _=>rfl))
  (bb X G (x:="_law_take") (m:="law_archrow_k23_great_sets_by_their_numbers") (st:=d_) (t:=416) (c:=197) (f:=198) (ps:=["deck","many"]) (by kernel_rfl) (by kernel_rfl) (by kernel_rfl) (by kernel_rfl) (f6 λ_ _=>rfl))
  (bb X G (x:="_law_one_right") (m:="law_archrow_k23_great_sets_by_their_numbers") (st:=cw) (t:=416) (c:=254) (f:=255) (ps:=["deck","row","known","number"]) (by kernel_rfl) (by kernel_rfl) (by kernel_rfl) (by kernel_rfl) (MB λ_ _ _ _=>rfl))
  (bb X G (x:="count_sets") (m:="archrow.counted") (st:=dY) (t:=337) (c:=128) (f:=129) (ps:=["row"]) (by kernel_rfl) (by kernel_rfl) (by kernel_rfl) (by kernel_rfl) (kO λ_=>rfl))
  (bb X G (x:="_law_table") (m:="law_archrow_k23_great_sets_by_their_numbers") (st:=eV) (t:=416) (c:=235) (f:=236) (ps:=["row"]) (by kernel_rfl) (by kernel_rfl) (by kernel_rfl) (by kernel_rfl) (kO λ_=>rfl))
  (bb X G (x:="_law_cell_at") (m:="law_archrow_k23_great_sets_by_their_numbers") (st:=dc) (t:=416) (c:=183) (f:=184) (ps:=["script","k"]) (by kernel_rfl) (by kernel_rfl) (by kernel_rfl) (by kernel_rfl) (f6 λ_ _=>rfl))
  (bb X G (x:="_law_deck") (m:="law_archrow_k23_great_sets_by_their_numbers") (st:=ee) (t:=416) (c:=190) (f:=191) (ps:=["cell"]) (by kernel_rfl) (by kernel_rfl) (by kernel_rfl) (by kernel_rfl) (kO λ_=>rfl))
  (bb X G (x:="_law_row") (m:="law_archrow_k23_great_sets_by_their_numbers") (st:=g9) (t:=416) (c:=204) (f:=205) (ps:=["deck","most"]) (by kernel_rfl) (by kernel_rfl) (by kernel_rfl) (by kernel_rfl) (f6 λ_ _=>rfl))
  (bb X G (x:="_law_copied") (m:="law_archrow_k23_great_sets_by_their_numbers") (st:=fP) (t:=416) (c:=211) (f:=212) (ps:=["row"]) (by kernel_rfl) (by kernel_rfl) (by kernel_rfl) (by kernel_rfl) (kO λ_=>rfl))
  (bb X G (x:="_law_sets") (m:="law_archrow_k23_great_sets_by_their_numbers") (st:=iN) (t:=416) (c:=230) (f:=231) (ps:=["row"]) (by kernel_rfl) (by kernel_rfl) (by kernel_rfl) (by kernel_rfl) (kO λ_=>rfl))⟩
end lN
abbrev PySem.W.Fast.tw7806410817405269998:PySem.Program:=PySem.Challenge.pw_archrow_k23_great_sets_by_their_numbers
theorem PySem.W.Fast.te7806410817405269998:PySem.Challenge.pw_archrow_k23_great_sets_by_their_numbers=PySem.W.Fast.tw7806410817405269998:=rfl
open PySem PySem.W PyProof.Rows
set_option maxRecDepth 100000 in
set_option maxHeartbeats 0 in
theorem PySem.Challenge.cw_archrow_k23_great_sets_by_their_numbers_holds : PySem.Challenge.rw_archrow_k23_great_sets_by_their_numbers.Holds := by
 w_on;o_law
 refine holds_open (q:=lN.view) (loose:=[]) (Xt:=λs=>xlAt lN.view [] s&&recOk (RowW.records PySem.Challenge.rw_archrow_k23_great_sets_by_their_numbers.row.toRowW) s) (XP:=XL lN.view []) (Yf:=lN.HK.obs) (Ya:=lN.HK.val) (YP:=λw h=>(lN.KK w.params).In h) (N:=3444) lN.left lN.HK.of lN.HK.keeps (λs e=>xl_of s (Ze.mp e).1) XL.keeps (by rfl) (by rfl) (by rfl) (λs e=>recFacts_of (Ze.mp e).2) (by rfl) (by first|assumption|decide +kernel) (by decide +kernel) ⟨rfl,rfl,rfl,rfl,rfl,by decide +kernel⟩ ?hw ?hc
 (case hw=>w_witness2)
 case hc =>
  exact L2.Ed (l:=PySem.Challenge.rw_archrow_k23_great_sets_by_their_numbers) (K:=lN.KK) (n:=63) (k:=45) (x:="script") (CX:=λ_=>L2.bp) (sp:=λw=>lN.A4 (lN.KK w.params)) rfl (by decide) rfl ⟨rfl,by decide,by decide⟩ (λw h Y=>Y) lN.all_mk (λ_ _ a ns hl _ hS=>⟨a,ns,rfl,hS,hl,λ_=>rfl⟩) λ_ _ _ _ _ z=>z
#print axioms PySem.Challenge.cw_archrow_k23_great_sets_by_their_numbers_holds
